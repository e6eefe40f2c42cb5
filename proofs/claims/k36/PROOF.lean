import PyProof.Rows.All
import Wide.All
import OpenK.AllK
import Wide.FinOn
import Lean
import PyProof.EqAt
import PyProof.EqKinds
import PyProof.TupleCall
import PyProof.ListRange
import PyProof.Rows.StrKeys3
import PyProof.ZipIter
import KE.KStateDown
import KE.KRevSl
import PyProof.Rows.Range3
import PySem.Challenge.RW_labelways_k36_least_orders_told
set_option Elab.async false
set_option linter.all false
set_option maxRecDepth 100000
namespace L2
open PySem PySem.Spec PyProof.Rows
abbrev Key:=Sum Int Str
def keyIs:Key->Value->Bool
 | .inl k,v=>Value.isInt k v
 | .inr x,v=>Value.isStrOf x v
def keyH (w:World):Key->Int
 | .inl k=>hashInt k
 | .inr x=>hashStr w x
theorem keyIs_shape:∀{k:Key}{v:Value},keyIs k v=true->(∃i t,k=Sum.inl i/\v=Value.int i t)\/(∃x t,k=Sum.inr x/\v=Value.str x t)
 | .inl i,v,h=>by
  obtain⟨t,e⟩:=Value.isInt_shape (k:=i) (v:=v) h
  exact .inl ⟨i,t,rfl,e⟩
 | .inr x,v,h=>by
  obtain⟨t,e⟩:=Value.isStrOf_shape (x:=x) (v:=v) h
  exact .inr ⟨x,t,rfl,e⟩
theorem keyIs_int (i:Int)(t:Tok):keyIs (.inl i) (.int i t)=true:=by simp[keyIs,Value.isInt]
theorem keyIs_str (x:Str)(t:Tok):keyIs (.inr x) (.str x t)=true:=by simp[keyIs,Value.isStrOf]
theorem key_ll (a b:Int):decide ((Sum.inl a:Key)=Sum.inl b)=(a==b):=by
 by_cases e:a=b
 . subst e;simp
 . have h:¬ (Sum.inl a:Key)=Sum.inl b:=fun q=>e (Sum.inl.inj q)
   rw[decide_eq_false h]
   exact (beq_eq_false_iff_ne.mpr e).symm
theorem key_rr (a b:Str):decide ((Sum.inr a:Key)=Sum.inr b)=decide (a=b):=by
 by_cases e:a=b
 . subst e;simp
 . have h:¬ (Sum.inr a:Key)=Sum.inr b:=fun q=>e (Sum.inr.inj q)
   rw[decide_eq_false h,decide_eq_false e]
theorem key_lr (a:Int)(b:Str):decide ((Sum.inl a:Key)=Sum.inr b)=false:=decide_eq_false (fun q=>nomatch q)
theorem key_rl (a:Str)(b:Int):decide ((Sum.inr a:Key)=Sum.inl b)=false:=decide_eq_false (fun q=>nomatch q)
def mixKind (prog:Program)(w:World):PySem.KeyKind prog w Key where
 is:=keyIs
 hash:=keyH w
 inj:=fun v a b ha hb=>by
  rcases keyIs_shape ha with ⟨i,t,rfl,rfl⟩ | ⟨x,t,rfl,rfl⟩
  . rcases keyIs_shape hb with ⟨j,u,rfl,e⟩ | ⟨y,u,rfl,e⟩
    . injection e with e1 _;rw[e1]
    . exact nomatch e
  . rcases keyIs_shape hb with ⟨j,u,rfl,e⟩ | ⟨y,u,rfl,e⟩
    . exact nomatch e
    . injection e with e1 _;rw[e1]
 byValue:=fun k v h=>by
  rcases keyIs_shape h with ⟨i,t,rfl,rfl⟩ | ⟨x,t,rfl,rfl⟩ <;> rfl
 pyHash:=fun hv h=>by
  rcases keyIs_shape hv with ⟨i,t,rfl,rfl⟩ | ⟨x,t,rfl,rfl⟩
  . exact wpAny_pyHash_int h
  . exact wpAny_pyHash_str h
 eqBool:=fun hu hv h=>by
  rcases keyIs_shape hu with ⟨i,t,rfl,rfl⟩ | ⟨x,t,rfl,rfl⟩
  . rcases keyIs_shape hv with ⟨j,u,rfl,rfl⟩ | ⟨y,u,rfl,rfl⟩
    . rw[key_ll] at h;exact wpAny_eqBool_int h
    . rw[key_lr] at h;exact SeqAt.EqAt.int_str i t y u _ _ _ _ h
  . rcases keyIs_shape hv with ⟨j,u,rfl,rfl⟩ | ⟨y,u,rfl,rfl⟩
    . rw[key_rl] at h;exact SeqAt.EqAt.str_int x t j u _ _ _ _ h
    . rw[key_rr] at h;exact wpAny_eqBool_str h
 «strs» := fun k x t v h=>by
  rcases keyIs_shape h with ⟨i,u,rfl,e⟩ | ⟨y,u,rfl,e⟩
  . exact nomatch e
  . injection e with e1 _
    subst e1
    cases v <;> rfl
theorem mixKind_int (prog:Program)(w:World)(i:Int)(t:Tok):(mixKind prog w).is (.inl i) (.int i t)=true:=keyIs_int i t
theorem mixKind_str (prog:Program)(w:World)(x:Str)(t:Tok):(mixKind prog w).is (.inr x) (.str x t)=true:=keyIs_str x t
end L2
namespace L2
open PySem PySem.Spec PyProof.Rows
inductive V where
 | non | bl (b:Bool) | int (i:Int) | str (x:Str) | byt (b:Array UInt8) | flt (b:UInt64) | ref (a:Addr) | ty (n:String)
 deriving DecidableEq
def RelV:V->Value->Prop
 | .non,u=>u=Value.none
 | .bl b,u=>u=Value.bool b
 | .int i,u=>∃t,u=Value.int i t
 | .str x,u=>∃t,u=Value.str x t
 | .byt b,u=>∃t,u=Value.bytes b t
 | .flt b,u=>∃t,u=Value.float b t
 | .ref a,u=>u=Value.ref a
 | .ty n,u=>u=Value.type n
abbrev Vals:List V->List Value->Prop:=Paired RelV
theorem Vals.length {xs:List V}{us:List Value}(r:Vals xs us):xs.length=us.length:=Paired.length r
theorem Vals.get:∀{xs:List V}{us:List Value}{i:Nat}{x:V},Vals xs us->xs[i]? = some x->∃u,us[i]? = some u/\RelV x u
 | _,_,_,_,.nil,e=>by simp at e
 | _,_,0,_,.cons r _,e=>by simp at e;subst e;exact⟨_,rfl,r⟩
 | _,_,i+1,x,.cons _ t,e=>by
  obtain⟨u,h1,h2⟩:=Vals.get (i:=i) (x:=x) t (by simpa using e)
  exact⟨u,by simpa using h1,h2⟩
theorem Vals.set {x:V}{u:Value}(r:RelV x u):∀{xs:List V}{us:List Value}(i:Nat),Vals xs us->Vals (xs.set i x) (us.set i u)
 | _,_,_,.nil=>.nil
 | _,_,0,.cons _ t=>.cons r t
 | _,_,i+1,.cons q t=>.cons q (Vals.set r i t)
theorem Vals.append:∀{xs ys:List V}{us ws:List Value},Vals xs us->Vals ys ws->Vals (xs++ys) (us++ws)
 | _,_,_,_,.nil,s=>s
 | _,_,_,_,.cons r t,s=>.cons r (Vals.append t s)
theorem Vals.take:∀{xs:List V}{us:List Value}(n:Nat),Vals xs us->Vals (xs.take n) (us.take n)
 | _,_,0,_=>.nil
 | _,_,_+1,.nil=>.nil
 | _,_,n+1,.cons r t=>.cons r (Vals.take n t)
theorem Vals.drop:∀{xs:List V}{us:List Value}(n:Nat),Vals xs us->Vals (xs.drop n) (us.drop n)
 | _,_,0,r=>r
 | _,_,_+1,.nil=>.nil
 | _,_,n+1,.cons _ t=>Vals.drop n t
def RelO:Option V->Option Value->Prop
 | some v,some u=>RelV v u
 | none,none=>True
 | _,_=>False
def KV {κ:Type}:List (κ×V)->List (κ×Value)->Prop:=Paired fun (p:κ×V)(q:κ×Value)=>p.1=q.1/\RelV p.2 q.2
def kV:Key->V
 | .inl i=>.int i
 | .inr x=>.str x
inductive HO where
 /-- a list -/
 | lst (xs:List V)
 /-- a tuple (never changes) -/
 | tup (xs:List V)
 /-- a dict whose keys are ints and texts;one whose keys are tuples of ints and texts (the empty one is both) -/
 | dK (kvs:List (Key×V)) | dT (kvs:List (List Key×V))
 /-- a set of ints: its members,its size -/
 | set (S:Int->Bool)(n:Nat)
 /-- an instance of the class at C,its dict at dx,its attributes -/
 | ins (C dx:Addr)(fs:List (Str×V))
 /-- the dict of the instance at x -/
 | own (x:Addr)
 /-- the dict of an exception -/
 | xd (fs:List (Str×V))
 /-- a bound method,f of x -/
 | met (f x:Addr)
 /-- a range object lo,lo+1,.. below hi -/
 | rng (lo hi:Int)
 /-- a thing that is known to the object (the script;a dict while a loop walks it): read,never written while it is so -/
 | frz (o:Obj)(u:HO)
 /-- a code object's table -/
 | tbl (ps:Array Value)
 /-- any other thing,by what is true of its one object (a def of one's own: SetO a S n:=HO.ext fun h=>..) -/
 | ext (φ:Heap->Prop)
abbrev Hp:=Addr->Option HO
def upd (H:Hp)(a:Addr)(o:HO):Hp:=fun b=>if b=a then some o else H b
theorem upd_same {H:Hp}{a:Addr}{o:HO}:upd H a o a=some o:=by unfold upd;rw[if_pos rfl]
theorem upd_ne {H:Hp}{a b:Addr}{o:HO}(h:b≠a):upd H a o b=H b:=by unfold upd;rw[if_neg h]
theorem upd_upd {H:Hp}{a:Addr}{o u:HO}:upd (upd H a o) a u=upd H a u:=by
 funext b;unfold upd;split <;> rfl
theorem ne_of {H:Hp}{a b:Addr}{o u:HO}(h:H a=some o)(h':H b=some u)(d:o≠u):a≠b:=by
 intro e;subst e;rw[h] at h';exact d (Option.some.inj h')
theorem ne_of_none {H:Hp}{a b:Addr}{o:HO}(h:H a=some o)(h':H b=none):a≠b:=by
 intro e;subst e;rw[h] at h';cases h'
section
variable (P:Program)(w:World)
def ObjOk (H:Hp)(h:Heap)(a:Addr):HO->Prop
 | .lst xs=>xs.length<=sizeLine/\∃(its:List Value)(n:Nat),Vals xs its/\h.get? a=some { cls:=.type "list",data:=.seq its.toArray n }
 | .tup xs=>(xs.length<=sizeLine/\∃o,h.get? a=some o/\o.dict=none)/\∃its:List Value,Vals xs its/\IsTup h a its.toArray
 | .dK kvs=>kvs.length<=sizeLine/\(a==sysModules)=false/\∃vs,KV kvs vs/\h.DictOf (mixKind P w) a vs
 | .dT kvs=>kvs.length<=sizeLine/\(a==sysModules)=false/\∃xs:List (List Key×Addr×Value),
  Paired (fun (p:List Key×V)(q:List Key×Addr×Value)=>p.1=q.1/\H q.2.1=some (.tup (p.1.map kV))/\RelV p.2 q.2.2) kvs xs /\
  ∃o es ep,h.get? a=some o/\o.ExactDict/\o.data = .dict es ep/\es.toList=xs.map (entryOfKey (tupleKind (mixKind P w)))/\(xs.map (·.1)).Nodup
 | .set S n=>h.SetOf (intKind P w) a S n
 | .ins C dx fs=>H dx=some (.own a)/\fs.length<=1000/\dx≠a/\h.get? a=some (PySem.W.instObj C dx) /\
  ∃mA,h.Ns1 dx mA/\(∀f,RelO (fs.lookup f) (mA f))/\PySem.Within mA (fs.map (·.1))
 | .own _=>∃o,h.get? a=some o
 | .xd fs=>∃mA,h.Ns1 a mA/\∀f,RelO (fs.lookup f) (mA f)
 | .rng lo hi=>∃t u v,h.get? a=some { cls:=.type "range",data:=.fields #[.int lo t,.int hi u,.int 1 v] }
 | .frz o u=>h.get? a=some o/\ObjOk H h a u
 | .tbl ps=>h.get? a=some { cls:=.none,data:=.fields ps }
 | .met f x=>h.get? a=some (PySem.W.methodObj (.ref f) (.ref x))
 | .ext φ=>φ h/\(∃o,h.get? a=some o)/\∀h1 h2:Heap,φ h1->(∀o,h1.get? a=some o->h2.get? a=some o)->φ h2
def HOk (H:Hp)(h:Heap):Prop:=∀a o,H a=some o->ObjOk P w H h a o
end
section
variable {P:Program}{w:World}{H H':Hp}{h h':Heap}{a:Addr}{o:HO}
theorem ObjOk.lt (x:ObjOk P w H h a o):a<h.objs.size:=by
 cases o with
 | lst xs=>obtain⟨_,_,_,_,e⟩:=x;exact Heap.lt_size e
 | tup xs=>obtain⟨_,_,_,p⟩:=x;exact p.lt
 | dK kvs=>obtain⟨_,_,_,_,o,_,_,e,_⟩:=x;exact Heap.lt_size e
 | dT kvs=>obtain⟨_,_,_,_,o,_,_,e,_⟩:=x;exact Heap.lt_size e
 | set S n=>obtain⟨o,_,_,_,e,_⟩:=x;exact Heap.lt_size e
 | ins C dx fs=>obtain⟨_,_,_,e,_⟩:=x;exact Heap.lt_size e
 | own y=>obtain⟨_,e⟩:=x;exact Heap.lt_size e
 | xd fs=>obtain⟨_,⟨_,_,_,e,_⟩,_⟩:=x;exact Heap.lt_size e
 | rng lo hi=>obtain⟨_,_,_,e⟩:=x;exact Heap.lt_size e
 | frz ob u=>obtain⟨e,_⟩:=x;exact Heap.lt_size e
 | tbl ps=>exact Heap.lt_size (show h.get? a=some _ from x)
 | met f y=>exact Heap.lt_size (show h.get? a=some _ from x)
 | ext φ=>obtain⟨_,⟨_,e⟩,_⟩:=x;exact Heap.lt_size e
theorem Paired.mapP {α β:Type}{F G:α->β->Prop}:∀{l₁:List α}{l₂:List β},Paired F l₁ l₂->(∀a b,F a b->G a b)->Paired G l₁ l₂
 | _,_,.nil,_=>.nil
 | _,_,.cons r t,f=>.cons (f _ _ r) (Paired.mapP t f)
theorem ObjOk.stay (x:ObjOk P w H h a o)(k:∀b u,(b=a\/H b=some (.own a))->h.get? b=some u->h'.get? b=some u)
 (ho:∀b,H b=some (.own a)->H' b=some (.own a))(ht:∀b xs,H b=some (.tup xs)->H' b=some (.tup xs)):ObjOk P w H' h' a o:=by
 induction o with
 | lst xs=>obtain⟨z,its,n,r,e⟩:=x;exact⟨z,its,n,r,k _ _ (.inl rfl) e⟩
 | tup xs=>obtain⟨⟨z,o2,e2,d2⟩,its,r,ob,e,c⟩:=x;exact⟨⟨z,o2,k _ _ (.inl rfl) e2,d2⟩,its,r,ob,k _ _ (.inl rfl) e,c⟩
 | dK kvs=>obtain⟨z,y,vs,r,ob,es,ep,e,c⟩:=x;exact⟨z,y,vs,r,ob,es,ep,k _ _ (.inl rfl) e,c⟩
 | dT kvs=>
  obtain⟨z,y,xs,r,ob,es,ep,e,c⟩:=x
  exact⟨z,y,xs,Paired.mapP r fun p q z=>⟨z.1,ht _ _ z.2.1,z.2.2⟩,ob,es,ep,k _ _ (.inl rfl) e,c⟩
 | set S n=>obtain⟨ob,es,ep,t,e,c⟩:=x;exact⟨ob,es,ep,t,k _ _ (.inl rfl) e,c⟩
 | ins C dx fs=>
  obtain⟨d,z,ne,e,mA,⟨od,es,ep,e2,c⟩,r⟩:=x
  exact⟨ho _ d,z,ne,k _ _ (.inl rfl) e,mA,⟨od,es,ep,k _ _ (.inr d) e2,c⟩,r⟩
 | own y=>obtain⟨ob,e⟩:=x;exact⟨ob,k _ _ (.inl rfl) e⟩
 | xd fs=>obtain⟨mA,⟨od,es,ep,e,c⟩,r⟩:=x;exact⟨mA,⟨od,es,ep,k _ _ (.inl rfl) e,c⟩,r⟩
 | rng lo hi=>obtain⟨t,u,v,e⟩:=x;exact⟨t,u,v,k _ _ (.inl rfl) e⟩
 | frz ob u ih=>obtain⟨e,q⟩:=x;exact⟨k _ _ (.inl rfl) e,ih q⟩
 | tbl ps=>
  have e:h.get? a=some { cls:=.none,data:=.fields ps }:=x
  show h'.get? a=some { cls:=.none,data:=.fields ps }
  exact k a _ (.inl rfl) e
 | met f y=>
  have e:h.get? a=some (PySem.W.methodObj (.ref f) (.ref y)):=x
  show h'.get? a=some (PySem.W.methodObj (.ref f) (.ref y))
  exact k a _ (.inl rfl) e
 | ext φ=>obtain⟨p,⟨o,e⟩,st⟩:=x;exact⟨st _ _ p fun o q=>k _ _ (.inl rfl) q,⟨o,k _ _ (.inl rfl) e⟩,st⟩
theorem HOk.lt (x:HOk P w H h)(e:H a=some o):a<h.objs.size:=(x a o e).lt
theorem HOk.fresh (x:HOk P w H h)(e:h.objs.size<=a):H a=none:=by
 cases q:H a with
 | none=>rfl
 | some u=>exact absurd (Nat.lt_of_lt_of_le (x.lt q) e) (Nat.lt_irrefl _)
theorem HOk.kept (x:HOk P w H h)(k:∀b u,h.get? b=some u->h'.get? b=some u):HOk P w H h':=fun a o e=>
 (x a o e).stay (fun b u _ q=>k b u q) (fun _ q=>q) fun _ _ q=>q
theorem HOk.laid (x:HOk P w H h)(k:∀b u,h.get? b=some u->h'.get? b=some u)(hp:h.objs.size<=a)(new:ObjOk P w (upd H a o) h' a o):HOk P w (upd H a o) h':=fun b u e=>by
 have hn:=x.fresh hp
 by_cases hb:b=a
 . subst hb;rw[upd_same] at e;cases e;exact new
 . rw[upd_ne hb] at e
   exact (x b u e).stay (fun c v _ q=>k c v q) (fun c q=>by rw[upd_ne (ne_of_none q hn)];exact q) fun c xs q=>by rw[upd_ne (ne_of_none q hn)];exact q
end
def Rd (H:Hp)(a:Addr)(u:HO):Prop:=H a=some u\/∃o,H a=some (.frz o u)
theorem Rd.ok {P:Program}{w:World}{H:Hp}{h:Heap}{a:Addr}{u:HO}(r:Rd H a u)(x:HOk P w H h):ObjOk P w H h a u:=by
 rcases r with r | ⟨o,r⟩
 . exact x a u r
 . obtain⟨_,q⟩:=x a _ r
   exact q
def Mut:Option HO->Prop
 | some (.lst _)=>True
 | some (.dK _)=>True
 | some (.dT _)=>True
 | some (.set _ _)=>True
 | some (.ins _ _ _)=>True
 | some (.ext _)=>True
 | _=>False
section
variable {P:Program}{w:World}{H:Hp}{h h':Heap}{x e:Addr}{o':HO}
theorem HOk.write (ok:HOk P w H h)(mu:Mut (H x))(he:e=x\/H e=some (.own x))(k:∀b u,b≠e->h.get? b=some u->h'.get? b=some u)(heo:∃u,h'.get? e=some u)
 (new:ObjOk P w (upd H x o') h' x o'):HOk P w (upd H x o') h':=fun b u q=>by
 have nown:∀c y,H c=some (.own y)->c≠x:=fun c y r z=>by subst z;rw[r] at mu;exact mu
 have ntup:∀c xs,H c=some (.tup xs)->c≠x:=fun c xs r z=>by subst z;rw[r] at mu;exact mu
 by_cases hb:b=x
 . subst hb;rw[upd_same] at q;cases q;exact new
 . rw[upd_ne hb] at q
   by_cases hbe:b=e
   . have q':H b=some (.own x):=by
      rcases he with z | z
      . exact absurd (hbe.trans z) hb
      . rw[hbe];exact z
     rw[q] at q';cases q'
     obtain⟨v,hv⟩:=heo
     exact⟨v,by rw[hbe];exact hv⟩
   . refine (ok b u q).stay (fun c v hc r=>k c v ?_ r) (fun c r=>by rw[upd_ne (nown c b r)];exact r) fun c xs r=>by rw[upd_ne (ntup c xs r)];exact r
     rcases hc with rfl | hc
     . exact hbe
     . rintro rfl
       rcases he with z | z
       . exact nown c b hc z
       . rw[hc] at z;cases z;exact hb rfl
end
structure Un (fs ex:List Addr)(H H':Hp)(h h':Heap):Prop where
 keep:∀b o,h.get? b=some o->H b=none->b∉fs->b∉ex->h'.get? b=some o
 slot:∀b o,h.get? b=some o->H b=none->b∈fs->b∉ex->∃sl,h'.get? b=some { o with slots:=sl }
 free:∀b o,h.get? b=some o->H b=none->b∉ex->H' b=none
 there:∀b o,h.get? b=some o->b∉ex->∃o',h'.get? b=some o'
 tups:∀b xs,H b=some (.tup xs)->H' b=some (.tup xs)
 frzs:∀b o u,H b=some (.frz o u)->H' b=some (.frz o u)
 tbls:∀b ps,H b=some (.tbl ps)->∃more,H' b=some (.tbl (ps++more))
section
variable {fs fs' ex ex':List Addr}{H H1 H2:Hp}{h h1 h2 h':Heap}{a x e:Addr}{o:HO}
theorem Un.any (u:Un fs ex H H1 h h1){b:Addr}{ob:Obj}(q:h.get? b=some ob)(n:H b=none)(hx:b∉ex):∃sl,h1.get? b=some { ob with slots:=sl }:=by
 by_cases hb:b∈fs
 . exact u.slot b ob q n hb hx
 . exact⟨ob.slots,u.keep b ob q n hb hx⟩
theorem Un.kept (k:∀b u,h.get? b=some u->h'.get? b=some u):Un fs ex H H h h':=
 ⟨fun b ob q _ _ _=>k b ob q,fun b ob q _ _ _=>⟨ob.slots,k b ob q⟩,fun _ _ _ n _=>n,fun b ob q _=>⟨ob,k b ob q⟩,fun _ _ q=>q,fun _ _ _ q=>q,fun _ ps q=>⟨#[],by rw[q];simp⟩⟩
theorem Un.refl:Un fs ex H H h h:=Un.kept fun _ _ q=>q
theorem Un.laid (k:∀b u,h.get? b=some u->h'.get? b=some u)(hp:h.objs.size<=a)(hn:H a=none):Un fs ex H (upd H a o) h h' where
 keep:=fun b u q _ _ _=>k b u q
 slot:=fun b u q _ _ _=>⟨u.slots,k b u q⟩
 free:=fun b u q n _=>by rw[upd_ne (Nat.ne_of_lt (Nat.lt_of_lt_of_le (Heap.lt_size q) hp))];exact n
 there:=fun b u q _=>⟨u,k b u q⟩
 tups:=fun b xs q=>by rw[upd_ne (ne_of_none q hn)];exact q
 frzs:=fun b u xs q=>by rw[upd_ne (ne_of_none q hn)];exact q
 tbls:=fun b ps q=>⟨#[],by rw[upd_ne (ne_of_none q hn),q];simp⟩
theorem Un.write (mu:Mut (H x))(he:e=x\/H e=some (.own x))(k:∀b u,b≠e->h.get? b=some u->h'.get? b=some u)(heo:∃u,h'.get? e=some u):Un fs ex H (upd H x o) h h':=by
 have hx:∀b,H b=none->b≠x:=fun b n z=>by subst z;rw[n] at mu;exact mu
 have hb:∀b,H b=none->b≠e:=fun b n z=>by
  subst z
  rcases he with r | r
  . exact hx b n r
  . rw[n] at r;cases r
 have hm:∀b u,H b=some u->¬ Mut (some u)->b≠x:=fun b u q nm z=>by subst z;rw[q] at mu;exact nm mu
 refine⟨fun b u q n _ _=>k b u (hb b n) q,fun b u q n _ _=>⟨u.slots,k b u (hb b n) q⟩,fun b u q n _=>by rw[upd_ne (hx b n)];exact n,fun b u q _=>?_,
  fun b xs q=>by rw[upd_ne (hm b _ q fun z=>z)];exact q,fun b u xs q=>by rw[upd_ne (hm b _ q fun z=>z)];exact q,fun b ps q=>⟨#[],by rw[upd_ne (hm b _ q fun z=>z),q];simp⟩⟩
 by_cases hbe:b=e
 . subst hbe;exact heo
 . exact⟨u,k b u hbe q⟩
end
def trk (h:Heap)(H:Hp):List Addr:=(List.range h.objs.size).filter fun a=>(H a).isSome
def hidT (h:Heap)(H:Hp):Heap:=PySem.W.hideAll h (trk h H)
theorem hidT_size (h:Heap)(H:Hp):(hidT h H).objs.size=h.objs.size:=PySem.W.hideAll_size _ _
theorem hidT_get {h:Heap}{H:Hp}{b:Addr}{o:Obj}(e:h.get? b=some o)(n:H b=none):(hidT h H).get? b=some o:=
 PySem.W.hideAll_get _ e fun hm=>by
  have q:(H b).isSome=true:=(List.mem_filter.mp hm).2
  rw[n] at q;simp at q
theorem of_hidT {h:Heap}{H:Hp}{b:Addr}{o:Obj}(e:(hidT h H).get? b=some o):h.get? b=some o/\H b=none:=by
 have e':h.get? b=some o:=PySem.W.of_hideAll (trk h H) e
 refine⟨e',?_⟩
 cases q:H b with
 | none=>rfl
 | some x=>
  have hm:b∈trk h H:=List.mem_filter.mpr ⟨List.mem_range.mpr (Heap.lt_size e'),by simp[q]⟩
  have z:(hidT h H).get? b=none:=PySem.W.hideAll_none (trk h H) hm
  rw[z] at e;cases e
def allNews (g h:Heap)(L:Addr):List (Addr×Obj):=(List.range h.objs.size).filterMap fun a=>if a=L\/(g.get? a).isSome=true then none else (h.get? a).map fun o=>(a,o)
theorem mem_allNews {g h:Heap}{L a:Addr}{o:Obj}(h1:a≠L)(h2:g.get? a=none)(h3:h.get? a=some o):(a,o)∈allNews g h L:=
 List.mem_filterMap.mpr ⟨a,List.mem_range.mpr (Heap.lt_size h3),by simp[h1,h2,h3]⟩
theorem of_mem_allNews {g h:Heap}{L:Addr}{p:Addr×Obj}(hp:p∈allNews g h L):p.1≠L/\g.get? p.1=none/\h.get? p.1=some p.2:=by
 obtain⟨b,_,e⟩:=List.mem_filterMap.mp hp
 split at e
 . cases e
 . rename_i hn
   cases q:h.get? b with
   | none=>rw[q] at e;simp at e
   | some u=>
    rw[q] at e
    simp only[Option.map_some,Option.some.injEq] at e
    subst e
    refine⟨fun z=>hn (.inl z),?_,q⟩
    show g.get? b=none
    cases r:g.get? b with
    | none=>rfl
    | some v=>exact (hn (.inr (by simp[r]))).elim
theorem news_all {g h:Heap}{L:Addr}:News g L h (allNews g h L):=fun p hp=>let ⟨a,b,c⟩:=of_mem_allNews hp;⟨c,a,b⟩
end L2
namespace L2
open PySem PySem.Spec PyProof.Rows
structure Mod (K:PySem.W.Frag)(mg:Str->Option Value)(base:Heap):Prop where
 kin:K.In base
 glob:base.Ns mainGlobals mg
 blt:∃mb,base.Ns builtinsNs mb/\∀x:Str,x ≠ "__name__" -> mb x=bootBuiltins x
 nolimit:base.NoLimit
structure Cx where
 prog:Program
 w:World
 K:PySem.W.Frag
 mg:Str->Option Value
 base:Heap
 A:Around
 N:List Str
 s₀:Shared
 H₀:Hp
 env:Env
 outer:List Env
 stack:List Env
 ex:List Addr
 fn:Str->Bool
 calm:Bool
 pn:List (Addr×Obj)
 xe:Value->Shared->Prop
def frs (l:List Env):List Addr:=l.filterMap (·.frame)
abbrev Cx.fs (X:Cx):List Addr:=frs X.outer
def Vis (sc:Scope)(x:Str):Prop:=sc.names.lookup x=some .local\/sc.names.lookup x=some .cell\/sc.names.lookup x=some .free
def Loc (sc:Scope)(x:Str):Prop:=sc.names.lookup x=some .local\/sc.names.lookup x=some .cell
def Look (env:Env)(h:Heap)(m:Str->Option Value)(x:Str)(u:Value):Prop:=
 (env.kindOf x=some .local/\m x=some u)\/((env.kindOf x=some .cell\/env.kindOf x=some .free)/\∃c,env.cells.lookup x=some c/\h.IsCell c (some u))
structure Cx.Ok (X:Cx):Prop where
 mod:Mod X.K X.mg X.base
 kind:X.env.scope.kind = .function
 glob:X.env.globals=mainGlobals
 blt:X.env.builtins=builtinsNs
 above:X.s₀.heap.objs.size<=X.env.locals
 inj:∀x y c,X.env.cells.lookup x=some c->X.env.cells.lookup y=some c->x=y
 has:∀x,(X.env.kindOf x=some .cell\/X.env.kindOf x=some .free)->∃c,X.env.cells.lookup x=some c
 cab:∀x c,X.fn x=true->X.env.cells.lookup x=some c->X.s₀.heap.objs.size<=c
 hd:X.calm=true->X.A.handled=none
 frames:X.A.frames=some X.stack
 stk:X.stack=X.outer\/(X.stack=X.env::X.outer/\X.env.frame=some X.env.locals)
 exf:∀b∈X.ex,b≠X.env.locals/\∀x c,X.env.cells.lookup x=some c->c≠b
 bs:∀b o,X.base.get? b=some o->X.s₀.heap.get? b=some o/\X.H₀ b=none
 bsz:X.base.objs.size<=X.s₀.heap.objs.size
 noex:∀b o,X.base.get? b=some o->b∉X.ex
 exfs:∀b∈X.ex,b∉X.fs
 funs:X.s₀.heap.FunFrames X.base X.outer
 frf:∀b∈X.fs,X.H₀ b=none
structure Inv (X:Cx)(pins:List (Addr×Obj))(σ:List (Option V))(H:Hp)(s:Shared):Prop where
 ok:X.Ok
 os:s.os=X.s₀.os
 bare:AllBare s.gens
 base:Un X.fs X.ex X.H₀ H X.s₀.heap s.heap
 loc:∃m,s.heap.Ns X.env.locals m/\∀(i:Nat)(x:Str)(v:V),X.N[i]? = some x->σ[i]? = some (some v)->Vis X.env.scope x->∃u,RelV v u/\Look X.env s.heap m x u
 cell:∀x c,X.env.cells.lookup x=some c->∃v,s.heap.IsCell c v
 free:H X.env.locals=none
 freeC:∀x c,X.env.cells.lookup x=some c->H c=none
 pin:∀p∈X.pn++pins,s.heap.get? p.1=some p.2/\H p.1=none/\p.1≠X.env.locals/\p.1∉X.fs/\∀v,p.2.data ≠ .cell v
 hok:HOk X.prog X.w H s.heap
 len:σ.length=X.N.length
section
variable {X:Cx}{pins:List (Addr×Obj)}{σ:List (Option V)}{H H':Hp}{s:Shared}{h':Heap}
theorem Cx.Ok.nofr (ok:X.Ok){b:Addr}{o:Obj}(e:X.base.get? b=some o):b∉X.fs:=fun hb=>by
 have:=(ok.funs.mem hb).1
 rw[e] at this;cases this
theorem Inv.bs (I:Inv X pins σ H s):∀b o,X.base.get? b=some o->s.heap.get? b=some o/\H b=none:=fun b o e=>
 ⟨I.base.keep b o (I.ok.bs b o e).1 (I.ok.bs b o e).2 (I.ok.nofr e) (I.ok.noex b o e),I.base.free b o (I.ok.bs b o e).1 (I.ok.bs b o e).2 (I.ok.noex b o e)⟩
theorem Inv.bk (I:Inv X pins σ H s):∀b o,X.base.get? b=some o->s.heap.get? b=some o:=fun b o e=>(I.bs b o e).1
theorem Inv.mod (I:Inv X pins σ H s):Mod X.K X.mg X.base:=I.ok.mod
theorem Inv.kIn (I:Inv X pins σ H s):X.K.In s.heap:=I.ok.mod.kin.keeps I.bk
theorem Inv.nolimit (I:Inv X pins σ H s):s.heap.NoLimit:=I.ok.mod.nolimit.keeps I.bk
theorem Inv.fr (I:Inv X pins σ H s):∃m,Fr X.base X.env.locals s.heap m:=
 let ⟨m,hn,_⟩:=I.loc
 ⟨m,hn,I.bk,Nat.le_trans I.ok.bsz I.ok.above⟩
theorem Inv.lt (I:Inv X pins σ H s):X.env.locals<s.heap.objs.size:=let ⟨_,hn,_⟩:=I.loc;hn.lt
theorem Inv.sz (I:Inv X pins σ H s):X.s₀.heap.objs.size<=s.heap.objs.size:=Nat.le_trans I.ok.above (Nat.le_of_lt I.lt)
theorem Inv.nofs (I:Inv X pins σ H s){a:Addr}(h:s.heap.objs.size<=a):a∉X.fs:=fun hb=>by
 obtain⟨_,o,ho,_⟩:=I.ok.funs.mem hb
 exact absurd (Nat.lt_of_lt_of_le (Heap.lt_size ho) (Nat.le_trans I.sz h)) (Nat.lt_irrefl _)
theorem Inv.cne (I:Inv X pins σ H s):∀x c,X.env.cells.lookup x=some c->c≠X.env.locals:=fun x c e z=>by
 obtain⟨v,o,ho,hd⟩:=I.cell x c e
 obtain⟨m,⟨o',es,ep,ho',hd',_⟩,_⟩:=I.loc
 rw[z,ho'] at ho;cases ho;rw[hd'] at hd;cases hd
theorem Inv.funs (I:Inv X pins σ H s):s.heap.FunFrames X.base X.outer:=by
 have all:∀(l:List Env),(∀b∈frs l,b∈X.fs)->X.s₀.heap.FunFrames X.base l->s.heap.FunFrames X.base l:=by
  intro l
  induction l with
  | nil=>intro _ _;trivial
  | cons env r ih=>
   intro hs hl
   obtain⟨hk,⟨L,o,hf,hn,ho,hd⟩,hr⟩:=hl
   have hL:L∈X.fs:=hs L (by unfold frs;rw[List.filterMap_cons,hf];exact List.mem_cons_self)
   obtain⟨sl,e⟩:=I.base.slot L o ho (I.ok.frf L hL) hL fun z=>I.ok.exfs L z hL
   exact⟨hk,⟨L,_,hf,hn,e,hd⟩,ih (fun b hb=>hs b (by unfold frs;rw[List.filterMap_cons,hf];exact List.mem_cons_of_mem _ hb)) hr⟩
 exact all X.outer (fun _ hb=>hb) I.ok.funs
theorem Inv.stack (I:Inv X pins σ H s):s.heap.FunFrames X.base X.stack:=by
 rcases I.ok.stk with e | ⟨e,hf⟩
 . rw[e];exact I.funs
 . rw[e]
   obtain⟨m,hn,_⟩:=I.loc
   refine .cons (by rw[I.ok.kind];decide) hf hn ?_ I.funs
   exact Heap.get?_none_of_le (Nat.le_trans I.ok.bsz I.ok.above)
theorem Inv.stkSub (I:Inv X pins σ H s):∀b∈frs X.stack,b∈X.env.locals::X.fs:=fun b hb=>by
 rcases I.ok.stk with e | ⟨e,hf⟩
 . rw[e] at hb;exact List.mem_cons_of_mem _ hb
 . rw[e] at hb
   unfold frs at hb
   rw[List.filterMap_cons,hf] at hb
   exact hb
theorem Inv.stkFree (I:Inv X pins σ H s):∀b∈frs X.stack,H b=none:=fun b hb=>by
 rcases List.mem_cons.mp (I.stkSub b hb) with e | hb
 . rw[e];exact I.free
 . obtain⟨_,o,ho,_⟩:=I.ok.funs.mem hb
   exact I.base.free b o ho (I.ok.frf b hb) fun z=>I.ok.exfs b z hb
theorem Inv.step {g':Array GenState}{t':Nat}{d':Drawn}{ch:List Addr}(I:Inv X pins σ H s)
 (hch:∀b∈ch,(b∈X.ex\/X.s₀.heap.objs.size<=b)/\b≠X.env.locals/\(∀x c,X.env.cells.lookup x=some c->c≠b)/\∀p∈X.pn++pins,p.1≠b)
 (keep:∀b o,b≠X.env.locals->b∉X.fs->b∉ch->s.heap.get? b=some o->H b=none->h'.get? b=some o)
 (slot:∀b o,b≠X.env.locals->b∈X.fs->b∉ch->s.heap.get? b=some o->H b=none->∃sl,h'.get? b=some { o with slots:=sl })(free:∀b o,b∉ch->s.heap.get? b=some o->H b=none->H' b=none)
 (there:∀b o,b∉ch->s.heap.get? b=some o->∃o',h'.get? b=some o')
 (tups:∀b xs,H b=some (.tup xs)->H' b=some (.tup xs))(frzs:∀b o u,H b=some (.frz o u)->H' b=some (.frz o u))(tbls:∀b ps,H b=some (.tbl ps)->∃more,H' b=some (.tbl (ps++more)))
 (ns:∀m,s.heap.Ns X.env.locals m->h'.Ns X.env.locals m)(hok:HOk X.prog X.w H' h')(hg:AllBare g') :
 Inv X pins σ H' { s with heap:=h',gens:=g',drawn:=d',toks:=t' }:=by
 have neL:∀b o,X.s₀.heap.get? b=some o->b≠X.env.locals:=fun b o e=>Nat.ne_of_lt (Nat.lt_of_lt_of_le (Heap.lt_size e) I.ok.above)
 have neC:∀b o,X.s₀.heap.get? b=some o->b∉X.ex->b∉ch:=fun b o e hx hb=>by
  rcases (hch b hb).1 with z | z
  . exact hx z
  . exact absurd (Nat.lt_of_lt_of_le (Heap.lt_size e) z) (Nat.lt_irrefl _)
 have cellK:∀x c,X.env.cells.lookup x=some c->∀v,s.heap.IsCell c v->h'.IsCell c v:=fun x c e v ⟨o,ho,hd⟩=>by
  have nch:c∉ch:=fun z=>(hch c z).2.2.1 x c e rfl
  by_cases hc:c∈X.fs
  . obtain⟨sl,q⟩:=slot c o (I.cne x c e) hc nch ho (I.freeC x c e)
    exact⟨_,q,hd⟩
  . exact⟨o,keep c o (I.cne x c e) hc nch ho (I.freeC x c e),hd⟩
 refine⟨I.ok,I.os,hg,⟨fun b o e n hb hx=>?_,fun b o e n hb hx=>?_,fun b o e n hx=>?_,fun b o e hx=>?_,fun b xs e=>tups b xs (I.base.tups b xs e),fun b o xs e=>frzs b o xs (I.base.frzs b o xs e),fun b ps e=>?_⟩,?_,fun x c e=>?_,?_,fun x c e=>?_,fun p hp=>?_,hok,I.len⟩
 . exact keep b o (neL b o e) hb (neC b o e hx) (I.base.keep b o e n hb hx) (I.base.free b o e n hx)
 . obtain⟨sl,e1⟩:=I.base.slot b o e n hb hx
   obtain⟨sl',e2⟩:=slot b _ (neL b o e) hb (neC b o e hx) e1 (I.base.free b o e n hx)
   exact⟨sl',e2⟩
 . obtain⟨o',e1⟩:=I.base.there b o e hx
   exact free b o' (neC b o e hx) e1 (I.base.free b o e n hx)
 . obtain⟨o',e1⟩:=I.base.there b o e hx
   exact there b o' (neC b o e hx) e1
 . obtain⟨m1,e1⟩:=I.base.tbls b ps e
   obtain⟨m2,e2⟩:=tbls b _ e1
   exact⟨m1++m2,by rw[e2,Array.append_assoc]⟩
 . obtain⟨m,hn,hl⟩:=I.loc
   refine⟨m,ns m hn,fun i x v e1 e2 e3=>?_⟩
   obtain⟨u,r,l⟩:=hl i x v e1 e2 e3
   refine⟨u,r,?_⟩
   rcases l with l | ⟨k,c,e,z⟩
   . exact .inl l
   . exact .inr ⟨k,c,e,cellK x c e _ z⟩
 . obtain⟨v,z⟩:=I.cell x c e
   exact⟨v,cellK x c e v z⟩
 . obtain⟨m,⟨o,_,_,ho,_⟩,_⟩:=I.loc
   exact free _ o (fun z=>(hch _ z).2.1 rfl) ho I.free
 . obtain⟨v,o,ho,hd⟩:=I.cell x c e
   exact free c o (fun z=>(hch c z).2.2.1 x c e rfl) ho (I.freeC x c e)
 . obtain⟨e,n,ne,nf,d⟩:=I.pin p hp
   have nch:p.1∉ch:=fun z=>(hch p.1 z).2.2.2 p hp rfl
   exact⟨keep p.1 p.2 ne nf nch e n,free p.1 p.2 nch e n,ne,nf,d⟩
theorem Inv.un {t':Nat}(I:Inv X pins σ H s)(u:Un X.fs [] H H' s.heap h')(hok:HOk X.prog X.w H' h'):Inv X pins σ H' { s with heap:=h',toks:=t' }:=by
 obtain⟨m,⟨o,es,ep,ho,r⟩,_⟩:=id I.loc
 obtain⟨sl,hL⟩:=u.any ho I.free (by simp)
 exact I.step (g':=s.gens) (d':=s.drawn) (ch:=[]) (fun _ z=>nomatch z) (fun b o _ hb _ e n=>u.keep b o e n hb (by simp)) (fun b o _ hb _ e n=>u.slot b o e n hb (by simp)) (fun b o _ e n=>u.free b o e n (by simp)) (fun b o _ e=>u.there b o e (by simp)) u.tups u.frzs u.tbls (fun m' hm=>by
  obtain⟨o',es',ep',ho',r'⟩:=hm
  rw[ho] at ho';cases ho'
  exact⟨_,es',ep',hL,r'⟩) hok I.bare
theorem Inv.call {g':Array GenState}{t':Nat}{d':Drawn}{ch:List Addr}(I:Inv X pins σ H s)(u:Un (frs X.stack) ch H H' s.heap h')(hok:HOk X.prog X.w H' h')(hg:AllBare g')
 (hch:∀b∈ch,(b∈X.ex\/X.s₀.heap.objs.size<=b)/\b≠X.env.locals/\(∀x c,X.env.cells.lookup x=some c->c≠b)/\∀p∈X.pn++pins,p.1≠b) :
 Inv X pins σ H' { s with heap:=h',gens:=g',drawn:=d',toks:=t' }:=by
 obtain⟨m,⟨o,es,ep,ho,r⟩,_⟩:=id I.loc
 obtain⟨sl,hL⟩:=u.any ho I.free fun z=>(hch _ z).2.1 rfl
 exact I.step (ch:=ch) hch (fun b o hL hb hc e n=>u.keep b o e n (fun z=>(List.mem_cons.mp (I.stkSub b z)).elim hL hb) hc) (fun b o _ _ hc e n=>u.any e n hc) (fun b o hc e n=>u.free b o e n hc) (fun b o hc e=>u.there b o e hc) u.tups u.frzs u.tbls (fun m' hm=>by
  obtain⟨o',es',ep',ho',r'⟩:=hm
  rw[ho] at ho';cases ho'
  exact⟨_,es',ep',hL,r'⟩) hok hg
theorem Inv.turned {t':Nat}{it:Addr}(I:Inv X pins σ H s)(k:∀b o,b≠it->s.heap.get? b=some o->h'.get? b=some o)(hn:H it=none)(hL:it≠X.env.locals)
 (h1:it∈X.ex\/X.s₀.heap.objs.size<=it)(h2:∀x c,X.env.cells.lookup x=some c->c≠it)(h3:∀p∈X.pn++pins,p.1≠it):Inv X pins σ H { s with heap:=h',toks:=t' }:=by
 have nit:∀b u,H b=some u->b≠it:=fun b u e z=>by rw[z,hn] at e;cases e
 refine I.step (g':=s.gens) (d':=s.drawn) (ch:=[it]) (fun b hb=>?_) (fun b o _ _ hc e _=>k b o (fun z=>hc (by simp[z])) e) (fun b o _ _ hc e _=>⟨o.slots,k b o (fun z=>hc (by simp[z])) e⟩) (fun _ _ _ _ n=>n)
  (fun b o hc e=>⟨o,k b o (fun z=>hc (by simp[z])) e⟩) (fun _ _ e=>e) (fun _ _ _ e=>e) (fun b ps e=>⟨#[],by rw[e];simp⟩) (fun m hm=>?_) (fun b u e=>?_) I.bare
 . have e:b=it:=by simpa using hb
   subst e
   exact⟨h1,hL,h2,h3⟩
 . obtain⟨o,es,ep,ho,r⟩:=hm
   exact⟨o,es,ep,k _ o (Ne.symm hL) ho,r⟩
 . refine (I.hok b u e).stay (fun c v hc q=>k c v ?_ q) (fun _ q=>q) fun _ _ q=>q
   rcases hc with z | z
   . rw[z];exact nit b u e
   . exact nit c _ z
theorem Inv.tok (I:Inv X pins σ H s)(t:Nat):Inv X pins σ H { s with toks:=t }:=I.un (h':=s.heap) (t':=t) Un.refl I.hok
theorem Inv.kept {t':Nat}(I:Inv X pins σ H s)(k:∀b u,s.heap.get? b=some u->h'.get? b=some u):Inv X pins σ H { s with heap:=h',toks:=t' }:=I.un (Un.kept k) (I.hok.kept k)
theorem Inv.laid {a:Addr}{o:HO}{t':Nat}(I:Inv X pins σ H s)(k:∀b u,s.heap.get? b=some u->h'.get? b=some u)(hp:s.heap.objs.size<=a)(new:ObjOk X.prog X.w (upd H a o) h' a o) :
 Inv X pins σ (upd H a o) { s with heap:=h',toks:=t' }:=I.un (Un.laid k hp (I.hok.fresh hp)) (I.hok.laid k hp new)
theorem Inv.write {x e:Addr}{o:HO}{t':Nat}(I:Inv X pins σ H s)(mu:Mut (H x))(he:e=x\/H e=some (.own x))(k:∀b u,b≠e->s.heap.get? b=some u->h'.get? b=some u)(heo:∃u,h'.get? e=some u)
 (new:ObjOk X.prog X.w (upd H x o) h' x o):Inv X pins σ (upd H x o) { s with heap:=h',toks:=t' }:=I.un (Un.write mu he k heo) (I.hok.write mu he k heo new)
theorem Inv.weak {σ':List (Option V)}(I:Inv X pins σ H s)(hl:σ'.length=σ.length)(w:∀(i:Nat) v,σ'[i]? = some (some v)->σ[i]? = some (some v)):Inv X pins σ' H s:=
 ⟨I.ok,I.os,I.bare,I.base,let ⟨m,hn,hl'⟩:=I.loc;⟨m,hn,fun i x v e1 e2 e3=>hl' i x v e1 (w i v e2) e3⟩,I.cell,I.free,I.freeC,I.pin,I.hok,hl.trans I.len⟩
theorem Inv.pins_of {pins':List (Addr×Obj)}(I:Inv X pins σ H s)(h:∀p∈pins',s.heap.get? p.1=some p.2/\H p.1=none/\p.1≠X.env.locals/\p.1∉X.fs/\∀v,p.2.data ≠ .cell v):Inv X pins' σ H s:=
 ⟨I.ok,I.os,I.bare,I.base,I.loc,I.cell,I.free,I.freeC,fun p hp=>(List.mem_append.mp hp).elim (fun z=>I.pin p (List.mem_append_left _ z)) (h p),I.hok,I.len⟩
theorem nodup_ix {N:List Str}(hN:N.Nodup){i j:Nat}{x:Str}(a:N[i]? = some x)(b:N[j]? = some x):i=j:=by
 obtain⟨h1,e1⟩:=List.getElem?_eq_some_iff.mp a
 obtain⟨h2,e2⟩:=List.getElem?_eq_some_iff.mp b
 exact (List.getElem_inj hN).mp (e1.trans e2.symm)
theorem store_ok2 {M:Model}{A:Around}{E:Value->Shared->Prop}{i:Nat}{x:Str}{v:V}{u:Value}{Q:Unit->Shared->Prop}(I:Inv X pins σ H s)(hN:X.N.Nodup)(hi:X.N[i]? = some x)(hx:Loc X.env.scope x)(r:RelV v u)
 (h:∀s',Inv X pins (σ.set i (some v)) H s'->(∃a,Heap.SameBut a s.heap s'.heap/\(a=X.env.locals\/X.env.cells.lookup x=some a))->Q () s')(hf:X.fn x=true\/X.env.scope.names.lookup x=some .local:=by first | exact .inl rfl | exact .inr rfl | assumption):wpAny M A (storeName X.env x u) Q E s:=by
 obtain⟨m,hn,hl⟩:=id I.loc
 have hcls:(X.env.scope.kind == .class || (X.env.scope.kind == .module && X.env.locals != X.env.globals))=false:=by rw[I.ok.kind];rfl
 have hiσ:i<σ.length:=by rw[I.len];exact (List.getElem?_eq_some_iff.mp hi).1
 have cne:=I.cne
 have tracked:∀{a:Addr}{h':Heap},(∃o,s.heap.get? a=some o/\H a=none)->Heap.SameBut a s.heap h'->HOk X.prog X.w H h':=fun {a h'} ha hs b ob e=>by
  obtain⟨_,_,hfree⟩:=ha
  refine (I.hok b ob e).stay (fun c w' hc q=>(hs.2 c ?_).trans q) (fun _ q=>q) fun _ _ q=>q
  rintro rfl
  rcases hc with rfl | hc
  . rw[hfree] at e;cases e
  . rw[hfree] at hc;cases hc
 rcases hx with hk | hk
 . refine wpAny_storeName_local hk hn (fun h' hn' hs=>?_) hcls
   obtain⟨oL,_,_,hoL,_⟩:=id hn
   refine h _ ⟨I.ok,I.os,I.bare,⟨fun b o e n hb hx=>?_,fun b o e n hb hx=>?_,I.base.free,fun b o e hx=>?_,I.base.tups,I.base.frzs,I.base.tbls⟩,⟨_,hn',fun j y v' e1 e2 e3=>?_⟩,fun y c e=>?_,I.free,I.freeC,fun p hp=>?_,tracked ⟨oL,hoL,I.free⟩ hs,by simpa using I.len⟩ ⟨_,hs,.inl rfl⟩
   . exact (hs.2 b (Nat.ne_of_lt (Nat.lt_of_lt_of_le (Heap.lt_size e) I.ok.above))).trans (I.base.keep b o e n hb hx)
   . obtain⟨sl,e1⟩:=I.base.slot b o e n hb hx
     exact⟨sl,(hs.2 b (Nat.ne_of_lt (Nat.lt_of_lt_of_le (Heap.lt_size e) I.ok.above))).trans e1⟩
   . obtain⟨o',e1⟩:=I.base.there b o e hx
     exact⟨o',(hs.2 b (Nat.ne_of_lt (Nat.lt_of_lt_of_le (Heap.lt_size e) I.ok.above))).trans e1⟩
   . by_cases hj:j=i
     . subst hj
       rw[hi] at e1;cases e1
       rw[List.getElem?_set_self hiσ] at e2
       cases e2
       exact⟨u,r,.inl ⟨hk,by simp⟩⟩
     . rw[List.getElem?_set_ne (Ne.symm hj)] at e2
       obtain⟨u',r',q⟩:=hl j y v' e1 e2 e3
       refine⟨u',r',?_⟩
       rcases q with ⟨k,e⟩ | ⟨k,c,e,z⟩
       . refine .inl ⟨k,?_⟩
         have:y≠x:=fun e=>hj (nodup_ix hN e1 (e ▸ hi))
         simp[this,e]
       . exact .inr ⟨k,c,e,z.sameBut hs (cne y c e)⟩
   . obtain⟨w',z⟩:=I.cell y c e
     exact⟨w',z.sameBut hs (cne y c e)⟩
   . obtain⟨e,n,ne,nf,d⟩:=I.pin p hp
     exact⟨(hs.2 p.1 ne).trans e,n,ne,nf,d⟩
 . have hfn:X.fn x=true:=by
    rcases hf with z | z
    . exact z
    . rw[z] at hk;cases hk
   obtain⟨c,hc⟩:=I.ok.has x (.inl hk)
   obtain⟨w',z⟩:=I.cell x c hc
   refine wpAny_storeName_cell I.ok.kind hk hc z (fun h' hc' hs=>?_)
   obtain⟨oc,hoc,hocd⟩:=id z
   refine h { s with heap:=h' } ⟨I.ok,I.os,I.bare,⟨fun b o e n hb hx=>?_,fun b o e n hb hx=>?_,I.base.free,fun b o e hx=>?_,I.base.tups,I.base.frzs,I.base.tbls⟩,⟨m,hn.sameBut hs (Ne.symm (cne x c hc)),fun j y v' e1 e2 e3=>?_⟩,fun y c' e=>?_,I.free,I.freeC,fun p hp=>?_,tracked ⟨oc,hoc,I.freeC x c hc⟩ hs,by simpa using I.len⟩ ⟨c,hs,.inr hc⟩
   . exact (hs.2 b (Nat.ne_of_lt (Nat.lt_of_lt_of_le (Heap.lt_size e) (I.ok.cab x c hfn hc)))).trans (I.base.keep b o e n hb hx)
   . obtain⟨sl,e1⟩:=I.base.slot b o e n hb hx
     exact⟨sl,(hs.2 b (Nat.ne_of_lt (Nat.lt_of_lt_of_le (Heap.lt_size e) (I.ok.cab x c hfn hc)))).trans e1⟩
   . obtain⟨o',e1⟩:=I.base.there b o e hx
     exact⟨o',(hs.2 b (Nat.ne_of_lt (Nat.lt_of_lt_of_le (Heap.lt_size e) (I.ok.cab x c hfn hc)))).trans e1⟩
   . by_cases hj:j=i
     . subst hj
       rw[hi] at e1;cases e1
       rw[List.getElem?_set_self hiσ] at e2
       cases e2
       exact⟨u,r,.inr ⟨.inl hk,c,hc,hc'⟩⟩
     . rw[List.getElem?_set_ne (Ne.symm hj)] at e2
       obtain⟨u',r',q⟩:=hl j y v' e1 e2 e3
       refine⟨u',r',?_⟩
       rcases q with q | ⟨k,c',e,z'⟩
       . exact .inl q
       . refine .inr ⟨k,c',e,z'.sameBut hs ?_⟩
         rintro rfl
         exact hj (nodup_ix hN e1 (I.ok.inj _ _ _ e hc ▸ hi))
   . by_cases hcc:c'=c
     . subst hcc;exact⟨_,hc'⟩
     . obtain⟨w2,z2⟩:=I.cell y c' e
       exact⟨w2,z2.sameBut hs hcc⟩
   . obtain⟨e,n,ne,nf,d⟩:=I.pin p hp
     refine⟨(hs.2 p.1 ?_).trans e,n,ne,nf,d⟩
     intro q
     rw[q,hoc] at e
     have q':oc=p.2:=Option.some.inj e
     exact d w' (by rw[<-q'];exact hocd)
theorem store_ok {M:Model}{A:Around}{E:Value->Shared->Prop}{i:Nat}{x:Str}{v:V}{u:Value}{Q:Unit->Shared->Prop}(I:Inv X pins σ H s)(hN:X.N.Nodup)(hi:X.N[i]? = some x)(hx:Loc X.env.scope x)(r:RelV v u)
 (h:∀s',Inv X pins (σ.set i (some v)) H s'->Q () s')(hf:X.fn x=true\/X.env.scope.names.lookup x=some .local:=by first | exact .inl rfl | exact .inr rfl | assumption):wpAny M A (storeName X.env x u) Q E s:=
 store_ok2 I hN hi hx r (fun s' I' _=>h s' I') hf
theorem Inv.call' {s':Shared}{ch:List Addr}(I:Inv X pins σ H s)(ho:s'.os=s.os)(u:Un (frs X.stack) ch H H' s.heap s'.heap)(hok:HOk X.prog X.w H' s'.heap)(hg:AllBare s'.gens)
 (hch:∀b∈ch,(b∈X.ex\/X.s₀.heap.objs.size<=b)/\b≠X.env.locals/\(∀x c,X.env.cells.lookup x=some c->c≠b)/\∀p∈X.pn++pins,p.1≠b):Inv X pins σ H' s':=by
 obtain⟨h',g',d',t',o'⟩:=s'
 have e:o'=s.os:=ho
 subst e
 exact I.call (g':=g') (t':=t') (d':=d') u hok hg hch
end
abbrev XK:=Value->Option Addr->Hp->Prop
abbrev St:=List (Option V)
abbrev VK:=V->Hp->Prop
abbrev TE:=St->Hp->VK->Prop
abbrev TT:=St->Hp->(Bool->Hp->Prop)->Prop
abbrev TA:=St->Hp->(List V->Hp->Prop)->Prop
structure Ends where
 nx:St->Hp->Prop
 rt:VK
 bk:St->Hp->Prop:=fun _ _=>False
 ct:St->Hp->Prop:=fun _ _=>False
abbrev TS:=Ends->St->Hp->Prop
def EP (X:Cx)(pins:List (Addr×Obj))(σ:St)(Q:VK)(u:Value)(s':Shared):Prop:=∃v H',Inv X pins σ H' s'/\RelV v u/\Q v H'
def TP (X:Cx)(pins:List (Addr×Obj))(σ:St)(Q:Bool->Hp->Prop)(b:Bool)(s':Shared):Prop:=∃H',Inv X pins σ H' s'/\Q b H'
def AP (X:Cx)(pins:List (Addr×Obj))(σ:St)(Q:List V->Hp->Prop)(us:List Value)(s':Shared):Prop:=∃vs H',Inv X pins σ H' s'/\Vals vs us/\Q vs H'
def SP (X:Cx)(pins:List (Addr×Obj))(D:Ends)(f:Flow)(s':Shared):Prop:=
 match f with
 | .next=>∃ σ' H',Inv X pins σ' H' s'/\D.nx σ' H'
 | .brk=>∃ σ' H',Inv X pins σ' H' s'/\D.bk σ' H'
 | .cont=>∃ σ' H',Inv X pins σ' H' s'/\D.ct σ' H'
 | .ret u=>∃v σ' H',Inv X pins σ' H' s'/\RelV v u/\D.rt v H'
def PE (X:Cx)(e:Expr)(t:TE):Prop:=
 ∀(pins:List (Addr×Obj))(s:Shared)(σ:St)(H:Hp)(Q:VK),Inv X pins σ H s->t σ H Q->wpAny (model X.prog X.w) X.A (eval e X.env) (EP X pins σ Q) X.xe s
def PT (X:Cx)(e:Expr)(t:TT):Prop:=
 ∀(pins:List (Addr×Obj))(s:Shared)(σ:St)(H:Hp)(Q:Bool->Hp->Prop),Inv X pins σ H s->t σ H Q->wpAny (model X.prog X.w) X.A (isTrue e X.env (eval e X.env)) (TP X pins σ Q) X.xe s
def PW (X:Cx)(e:Expr)(t:TT):Prop:=
 ∀(whole:Sem Value)(pins:List (Addr×Obj))(s:Shared)(σ:St)(H:Hp)(Q:Bool->Hp->Prop),Inv X pins σ H s->t σ H Q->wpAny (model X.prog X.w) X.A (isTrue e X.env whole) (TP X pins σ Q) X.xe s
theorem PW.pt {X:Cx}{e:Expr}{t:TT}(h:PW X e t):PT X e t:=h _
def PA (X:Cx)(es:List Expr)(t:TA):Prop:=
 ∀(pos:Pos)(pins:List (Addr×Obj))(s:Shared)(σ:St)(H:Hp)(Q:List V->Hp->Prop),Inv X pins σ H s->t σ H Q->wpAny (model X.prog X.w) X.A (spliced (backTo pos (starEach es X.env))) (AP X pins σ Q) X.xe s
def PS (X:Cx)(st:Stmt)(t:TS):Prop:=
 ∀(pins:List (Addr×Obj))(s:Shared)(σ:St)(H:Hp)(D:Ends),Inv X pins σ H s->t D σ H->wpAny (model X.prog X.w) X.A (exec st X.env) (SP X pins D) X.xe s
def PSs (X:Cx)(st:List Stmt)(t:TS):Prop:=
 ∀(pins:List (Addr×Obj))(s:Shared)(σ:St)(H:Hp)(D:Ends),Inv X pins σ H s->t D σ H->wpAny (model X.prog X.w) X.A (execs st X.env) (SP X pins D) X.xe s
theorem thn {α:Type}{t:Sem α}{Q Q':α->Shared->Prop}{M:Model}{A:Around}{E:Value->Shared->Prop}{s:Shared}(h:wpAny M A t Q E s)(hQ:∀a s,Q a s->Q' a s):wpAny M A t Q' E s:=wpAny_mono h hQ fun _ _ x=>x
end L2
namespace L2
open PySem PySem.Spec PyProof.Rows
section
variable {X:Cx}
def tVar (i:Nat):TE:=fun σ H Q=>∃v,σ[i]? = some (some v)/\Q v H
def tC (v:V):TE:=fun _ H Q=>Q v H
theorem pe_var {i:Nat}{x:Str}{pos:Pos}(hN:X.N[i]? = some x)(hv:Vis X.env.scope x)(hd:(x==("__debug__" : Str))=false:=by decide) (hcd:(x==("__classdict__" : Str))=false:=by decide):PE X (.Name x pos) (tVar i):=by
 intro pins s σ H Q I h
 obtain⟨v,e,h⟩:=h
 obtain⟨m,hn,hl⟩:=I.loc
 obtain⟨u,r,l⟩:=hl i x v hN e hv
 have fin:EP X pins σ Q u s:=⟨v,H,I,r,h⟩
 rcases l with ⟨hk,hm⟩ | ⟨hk,c,hc,hcell⟩
 . exact wpAny_Name (wpAny_loadName_local I.ok.kind hk hn hm fin) hd
 . rcases hk with hk | hk
   . exact wpAny_Name (wpAny_loadName_cell I.ok.kind hk hc hcell fin) hd
   . exact wpAny_Name (wpAny_loadName_free I.ok.kind hk hc hcell fin hcd) hd
theorem pe_int {i j pos}:PE X (.Constant (.int i) j pos) (tC (.int i)):=fun _ _ _ H _ I h=>wpAny_Constant_int ⟨.int i,H,I.tok _,⟨_,rfl⟩,h⟩
theorem pe_bl {b j pos}:PE X (.Constant (.bool b) j pos) (tC (.bl b)):=fun _ _ _ H _ I h=>Constant_bool ⟨.bl b,H,I,rfl,h⟩
theorem pe_non {j pos}:PE X (.Constant .none j pos) (tC .non):=fun _ _ _ H _ I h=>Constant_none ⟨.non,H,I,rfl,h⟩
theorem pe_str {x j pos}:PE X (.Constant (.str x) j pos) (tC (.str x)):=fun _ _ _ H _ I h=>Calls.Constant_str ⟨.str x,H,I.tok _,⟨_,rfl⟩,h⟩
def Gl (X:Cx)(x:Str):Prop:=X.env.kindOf x=some .globalImplicit
theorem ld_glob {E:Value->Shared->Prop}{pins:List (Addr×Obj)}{s:Shared}{σ:St}{H:Hp}{x:Str}{u:Value}{pos:Pos}{Q:Value->Shared->Prop}(I:Inv X pins σ H s)(hg:Gl X x)(hm:X.mg x=some u)(h:Q u s)
 (hd:(x==("__debug__" : Str))=false:=by decide):wpAny (model X.prog X.w) X.A (eval (.Name x pos) X.env) Q E s:=
 Calls.Name_function_global I.ok.kind hg (Calls.loadGlobal_global (by rw[I.ok.glob];exact I.mod.glob.keeps I.bk) hm h) hd
theorem ld_blt {E:Value->Shared->Prop}{pins:List (Addr×Obj)}{s:Shared}{σ:St}{H:Hp}{x:Str}{u:Value}{pos:Pos}{Q:Value->Shared->Prop}(I:Inv X pins σ H s)(hg:Gl X x)(hm:X.mg x=none)(hv:bootBuiltins x=some u)(h:Q u s)
 (hn:x ≠ "__name__" := by decide) (hd:(x==("__debug__" : Str))=false:=by decide):wpAny (model X.prog X.w) X.A (eval (.Name x pos) X.env) Q E s:=by
 obtain⟨mb,h1,h2⟩:=I.mod.blt
 exact Calls.Name_function_global I.ok.kind hg (Calls.loadGlobal_builtin (by rw[I.ok.glob];exact I.mod.glob.keeps I.bk) hm (by rw[I.ok.blt];exact h1.keeps I.bk) ((h2 x hn).trans hv) h) hd
theorem pe_glob {x:Str}{v:V}{u:Value}{pos:Pos}(hg:Gl X x)(hm:X.mg x=some u)(r:RelV v u)(hd:(x==("__debug__" : Str))=false:=by decide):PE X (.Name x pos) (tC v):=
 fun _ _ _ H _ I h=>ld_glob I hg hm ⟨v,H,I,r,h⟩ hd
variable {a b:Expr}{ta tb:TE}{pos:Pos}
def tB (t:TE):TT:=fun σ H Q=>t σ H fun x H1=>∃c,x = .bl c/\Q c H1
theorem pt_val {e:Expr}{t:TE}(h:PE X e t)(he:∀whole,isTrue e X.env whole=(do let v <-whole;standAt e.pos;holding [v] (truthy v)):=by intro _;rfl):PT X e (tB t):=by
 intro pins s σ H Q I hw
 refine isTrue_plain (thn (h pins s σ H _ I hw) fun v s1 ⟨x,H1,I1,r1,q1⟩=>?_) (he _)
 obtain⟨d,rfl,q⟩:=q1
 cases r1
 exact wpAny_truthy_bool ⟨H1,I1,q⟩
variable {tA tB':TT}{rest:List Expr}
def tAnd (t u:TT):TT:=fun σ H Q=>t σ H fun c H1=>if c=true then u σ H1 Q else Q false H1
def tOr (t u:TT):TT:=fun σ H Q=>t σ H fun c H1=>if c=true then Q true H1 else u σ H1 Q
def tNot (t:TT):TT:=fun σ H Q=>t σ H fun c H1=>Q (!c) H1
theorem pw_and1 (ha:PT X a tA):PW X (.BoolOp .And [a] pos) tA:=by
 intro wh pins s σ H Q I h
 refine isTrue_and (thn (ha pins s σ H Q I h) fun c s1 e=>?_)
 cases c with
 | true=>exact isTrue_and_nil e
 | false=>exact e
theorem pw_or1 (ha:PT X a tA):PW X (.BoolOp .Or [a] pos) tA:=by
 intro wh pins s σ H Q I h
 refine isTrue_or (thn (ha pins s σ H Q I h) fun c s1 e=>?_)
 cases c with
 | false=>exact isTrue_or_nil e
 | true=>exact e
theorem pw_and (ha:PT X a tA)(hb:PW X (.BoolOp .And (b::rest) pos) tB'):PW X (.BoolOp .And (a::b::rest) pos) (tAnd tA tB'):=by
 intro wh pins s σ H Q I h
 refine isTrue_and (thn (ha pins s σ H _ I h) fun c s1 ⟨H1,I1,q1⟩=>?_)
 cases c with
 | true=>exact hb wh pins s1 σ H1 Q I1 q1
 | false=>exact⟨H1,I1,q1⟩
theorem pw_or (ha:PT X a tA)(hb:PW X (.BoolOp .Or (b::rest) pos) tB'):PW X (.BoolOp .Or (a::b::rest) pos) (tOr tA tB'):=by
 intro wh pins s σ H Q I h
 refine isTrue_or (thn (ha pins s σ H _ I h) fun c s1 ⟨H1,I1,q1⟩=>?_)
 cases c with
 | true=>exact⟨H1,I1,q1⟩
 | false=>exact hb wh pins s1 σ H1 Q I1 q1
theorem pt_not (ha:PT X a tA):PT X (.UnaryOp .Not a pos) (tNot tA):=by
 intro pins s σ H Q I h
 exact isTrue_not (ha pins s σ H (fun c H1=>Q (!c) H1) I h)
def tAndV (ta tb:TE):TE:=fun σ H Q=>ta σ H fun x H1=>∃c,x = .bl c/\if c=true then tb σ H1 Q else Q (.bl false) H1
theorem pe_one {op} {t:TE}(h:PE X a t):PE X (.BoolOp op [a] pos) t:=fun pins s σ H Q I hw=>BoolOp_one (h pins s σ H Q I hw)
theorem pe_and (ha:PE X a ta)(hb:PE X (.BoolOp .And (b::rest) pos) tb):PE X (.BoolOp .And (a::b::rest) pos) (tAndV ta tb):=by
 intro pins s σ H Q I h
 refine BoolOp_and (thn (ha pins s σ H _ I h) fun v s1 ⟨x,H1,I1,r1,q1⟩=>?_)
 obtain⟨c,rfl,q1⟩:=q1
 cases r1
 refine wpAny_truthy_bool ?_
 cases c with
 | true=>exact hb pins s1 σ H1 Q I1 q1
 | false=>exact⟨.bl false,H1,I1,rfl,q1⟩
def tIf (t:TT)(ta tb:TE):TE:=fun σ H Q=>t σ H fun c H1=>if c=true then ta σ H1 Q else tb σ H1 Q
theorem pe_ifExp {c:Expr}(hc:PT X c tA)(ha:PE X a ta)(hb:PE X b tb):PE X (.IfExp c a b pos) (tIf tA ta tb):=by
 intro pins s σ H Q I h
 refine wpAny_IfExp (thn (hc pins s σ H _ I h) fun d s1 ⟨H1,I1,q1⟩=>?_)
 cases d with
 | true=>exact ha pins s1 σ H1 Q I1 q1
 | false=>exact hb pins s1 σ H1 Q I1 q1
end
end L2
namespace L2
open PySem PySem.Spec PyProof.Rows
def SqL (K:PySem.W.Frag)(H:Hp)(a:Addr)(xs:List V):Prop:=
 Rd H a (.lst xs) \/
  ∃(o:Obj)(its:Array Value)(n:Nat),K.lookup a=some o/\o.cls = .type "list" /\ o.dict=none/\o.data = .seq its n/\its.size<=sizeLine/\Vals xs its.toList
def SqT (K:PySem.W.Frag)(H:Hp)(a:Addr)(xs:List V):Prop:=
 Rd H a (.tup xs) \/
  ∃(o:Obj)(its:Array Value)(n:Nat),K.lookup a=some o/\o.cls = .type "tuple" /\ o.data = .seq its n/\its.size<=sizeLine/\Vals xs its.toList
def absV:Value->Option V
 | .none=>some .non
 | .bool b=>some (.bl b)
 | .int i _=>some (.int i)
 | .str x _=>some (.str x)
 | .bytes b _=>some (.byt b)
 | .float b _=>some (.flt b)
 | .ref a=>some (.ref a)
 | .type n=>some (.ty n)
 | _=>none
theorem RelV.abs {x:V}{u:Value}(r:RelV x u):absV u=some x:=by
 cases x with
 | non=>cases r;rfl
 | bl _=>cases r;rfl
 | int _=>obtain⟨t,rfl⟩:=r;rfl
 | str _=>obtain⟨t,rfl⟩:=r;rfl
 | byt _=>obtain⟨t,rfl⟩:=r;rfl
 | flt _=>obtain⟨t,rfl⟩:=r;rfl
 | ref _=>cases r;rfl
 | ty _=>cases r;rfl
theorem RelV.inj {x y:V}{u:Value}(r:RelV x u)(q:RelV y u):x=y:=Option.some.inj (r.abs.symm.trans q.abs)
theorem Vals.inj:∀{xs ys:List V}{us:List Value},Vals xs us->Vals ys us->xs=ys
 | _,_,_,.nil,.nil=>rfl
 | _,_,_,.cons r t,.cons r' t'=>by rw[r.inj r',Vals.inj t t']
section
variable {X:Cx}{pins:List (Addr×Obj)}{σ:St}{H:Hp}{s:Shared}{a:Addr}{xs ys:List V}
theorem SqL.of {K:PySem.W.Frag}(h:H a=some (.lst xs)):SqL K H a xs:=.inl (.inl h)
theorem SqT.of {K:PySem.W.Frag}(h:H a=some (.tup xs)):SqT K H a xs:=.inl (.inl h)
theorem Inv.list (I:Inv X pins σ H s)(h:SqL X.K H a xs):∃its:List Value,Vals xs its/\PlainL s.heap a its.toArray/\xs.length<=sizeLine:=by
 rcases h with h | ⟨o,its,n,hk,hc,hd,hs,hz,r⟩
 . obtain⟨z,its,n,r,e⟩:=h.ok I.hok
   exact⟨its,r,⟨_,n,e,rfl,rfl,rfl⟩,z⟩
 . refine⟨its.toList,r,⟨o,n,I.kIn a o hk,hc,hd,by simpa using hs⟩,?_⟩
   have e:=r.length
   simp only[Array.length_toList] at e
   omega
theorem Inv.tuple (I:Inv X pins σ H s)(h:SqT X.K H a xs):∃its:List Value,Vals xs its/\IsTup s.heap a its.toArray/\xs.length<=sizeLine:=by
 rcases h with h | ⟨o,its,n,hk,hc,hs,hz,r⟩
 . obtain⟨⟨z,_⟩,its,r,p⟩:=h.ok I.hok
   exact⟨its,r,p,z⟩
 . refine⟨its.toList,r,⟨o,I.kIn a o hk,hc,n,by simpa using hs⟩,?_⟩
   have e:=r.length
   simp only[Array.length_toList] at e
   omega
theorem Inv.list_inj (I:Inv X pins σ H s)(h:SqL X.K H a xs)(h':SqL X.K H a ys):xs=ys:=by
 obtain⟨its,r,⟨o,n,e,_,_,d⟩,_⟩:=I.list h
 obtain⟨its',r',⟨o',n',e',_,_,d'⟩,_⟩:=I.list h'
 rw[e] at e';cases e'
 rw[d] at d'
 injection d' with d1 _
 have:its=its':=by simpa using congrArg Array.toList d1
 subst this
 exact r.inj r'
theorem Inv.tuple_inj (I:Inv X pins σ H s)(h:SqT X.K H a xs)(h':SqT X.K H a ys):xs=ys:=by
 obtain⟨its,r,⟨o,e,_,n,d⟩,_⟩:=I.tuple h
 obtain⟨its',r',⟨o',e',_,n',d'⟩,_⟩:=I.tuple h'
 rw[e] at e';cases e'
 rw[d] at d'
 injection d' with d1 _
 have:its=its':=by simpa using congrArg Array.toList d1
 subst this
 exact r.inj r'
end
abbrev Cx.wish (X:Cx)(E:Value->Shared->Prop):Cx:={ X with xe:=E }
abbrev Cx.nox (X:Cx):Cx:=X.wish fun _ _=>False
theorem Cx.Ok.wish {X:Cx}(ok:X.Ok)(E:Value->Shared->Prop):(X.wish E).Ok:=
 ⟨ok.mod,ok.kind,ok.glob,ok.blt,ok.above,ok.inj,ok.has,ok.cab,ok.hd,ok.frames,ok.stk,ok.exf,ok.bs,ok.bsz,ok.noex,ok.exfs,ok.funs,ok.frf⟩
theorem Cx.Ok.unwish {X:Cx}{E:Value->Shared->Prop}(ok:(X.wish E).Ok):X.Ok:=
 ⟨ok.mod,ok.kind,ok.glob,ok.blt,ok.above,ok.inj,ok.has,ok.cab,ok.hd,ok.frames,ok.stk,ok.exf,ok.bs,ok.bsz,ok.noex,ok.exfs,ok.funs,ok.frf⟩
section
variable {X:Cx}{pins:List (Addr×Obj)}{σ:St}{H:Hp}{s:Shared}{E:Value->Shared->Prop}
theorem Inv.wish (I:Inv X pins σ H s)(E:Value->Shared->Prop):Inv (X.wish E) pins σ H s:=⟨I.ok.wish E,I.os,I.bare,I.base,I.loc,I.cell,I.free,I.freeC,I.pin,I.hok,I.len⟩
theorem Inv.unwish (I:Inv (X.wish E) pins σ H s):Inv X pins σ H s:=⟨I.ok.unwish,I.os,I.bare,I.base,I.loc,I.cell,I.free,I.freeC,I.pin,I.hok,I.len⟩
theorem SP.unwish {D:Ends}{f:Flow}{s':Shared}(h:SP (X.wish E) pins D f s'):SP X pins D f s':=by
 cases f with
 | next=>obtain⟨σ',H',I,q⟩:=h;exact⟨σ',H',I.unwish,q⟩
 | brk=>obtain⟨σ',H',I,q⟩:=h;exact⟨σ',H',I.unwish,q⟩
 | cont=>obtain⟨σ',H',I,q⟩:=h;exact⟨σ',H',I.unwish,q⟩
 | ret u=>obtain⟨v,σ',H',I,r,q⟩:=h;exact⟨v,σ',H',I.unwish,r,q⟩
theorem PSs.nox {st:List Stmt}{t:TS}(h:PSs X.nox st t):PSs X st t:=fun pins s σ H D I hw=>
 wpAny_mono (h pins s σ H D (I.wish _) hw) (fun _ _ q=>q.unwish) fun _ _ z=>False.elim z
end
section
variable {X:Cx}{st:Stmt}{rest:List Stmt}{t u:TS}{e:Expr}{te:TE}{pos:Pos}
def tNext:TS:=fun D σ H=>D.nx σ H
def tSeq (t u:TS):TS:=fun D σ H=>t { D with nx:=u D } σ H
theorem pss_nil:PSs X [] tNext:=fun _ _ σ H _ I h=>wpAny_execs_nil ⟨σ,H,I,h⟩
theorem pss_cons (h1:PS X st t)(h2:PSs X rest u):PSs X (st::rest) (tSeq t u):=by
 intro pins s σ H D I h
 refine wpAny_execs_cons (thn (h1 pins s σ H { D with nx:=u D } I h) fun f s1 q=>?_)
 cases f with
 | next=>
  obtain⟨σ',H',I',q⟩:=q
  exact h2 pins s1 σ' H' D I' q
 | ret v=>exact q
 | brk=>exact q
 | cont=>exact q
theorem pss_one (h1:PS X st t):PSs X [st] t:=by
 intro pins s σ H D I h
 refine wpAny_execs_cons (thn (h1 pins s σ H D I h) fun f s1 q=>?_)
 cases f with
 | next=>exact wpAny_execs_nil q
 | ret v=>exact q
 | brk=>exact q
 | cont=>exact q
theorem Inv.quiet {pins:List (Addr×Obj)}{σ:St}{H:Hp}{s:Shared}(I:Inv X pins σ H s):interactive X.env=false:=by simp[interactive,I.ok.kind]
def tDrop (te:TE):TS:=fun D σ H=>te σ H fun _ H1=>D.nx σ H1
theorem ps_expr (he:PE X e te)(hs:swapsWith e none pos.line X.env=pure false:=by rfl):PS X (.Expr e pos) (tDrop te):=by
 intro pins s σ H D I h
 exact wpAny_Expr_any (thn (he pins s σ H _ I h) fun v s1 ⟨x,H1,I1,r1,q1⟩=>⟨σ,H1,I1,q1⟩) I.quiet hs
def tRet (te:TE):TS:=fun D σ H=>te σ H D.rt
theorem ps_ret (he:PE X e te):PS X (.Return (some e) pos) (tRet te):=by
 intro pins s σ H D I h
 exact wpAny_Return_some (thn (he pins s σ H _ I h) fun v s1 ⟨x,H1,I1,r1,q1⟩=>⟨x,σ,H1,I1,r1,q1⟩)
def tIfS (c:TT)(t u:TS):TS:=fun D σ H=>c σ H fun b H1=>if b=true then t D σ H1 else u D σ H1
theorem ps_if {c:Expr}{a b:List Stmt}{tc:TT}(hc:PT X c tc)(ha:PSs X a t)(hb:PSs X b u):PS X (.If c a b pos) (tIfS tc t u):=by
 intro pins s σ H D I h
 refine wpAny_If (thn (hc pins s σ H _ I h) fun d s1 ⟨H1,I1,q1⟩=>?_)
 cases d with
 | true=>exact ha pins s1 σ H1 D I1 q1
 | false=>exact hb pins s1 σ H1 D I1 q1
end
abbrev TG:=V->St->Hp->(St->Hp->Prop)->Prop
abbrev TGs:=List V->St->Hp->(St->Hp->Prop)->Prop
def PG (X:Cx)(target:Expr)(t:TG):Prop:=
 ∀(pins:List (Addr×Obj))(s:Shared)(σ:St)(H:Hp)(v:V)(u:Value)(Q:St->Hp->Prop),Inv X pins σ H s->RelV v u->t v σ H Q ->
  wpAny (model X.prog X.w) X.A (assign target X.env u) (fun _ s'=>∃ σ' H',Inv X pins σ' H' s'/\Q σ' H') X.xe s
def PGs (X:Cx)(ts:List Expr)(t:TGs):Prop:=
 ∀(pins:List (Addr×Obj))(s:Shared)(σ:St)(H:Hp)(vs:List V)(us:List Value)(Q:St->Hp->Prop),Inv X pins σ H s->Vals vs us->t vs σ H Q ->
  wpAny (model X.prog X.w) X.A (assignInOrder ((assignEach ts X.env).map (·.2)) us) (fun _ s'=>∃ σ' H',Inv X pins σ' H' s'/\Q σ' H') X.xe s
abbrev TSet:=V->V->V->Hp->(Hp->Prop)->Prop
def PSet (X:Cx)(t:TSet):Prop:=
 ∀(pins:List (Addr×Obj))(s:Shared)(σ:St)(H:Hp)(o i v:V)(ov iv u:Value)(Q:Hp->Prop),Inv X pins σ H s->RelV o ov->RelV i iv->RelV v u->t o i v H Q ->
  wpAny (model X.prog X.w) X.A (setItem ov iv u) (fun _ s'=>∃H',Inv X pins σ H' s'/\Q H') X.xe s
section
variable {X:Cx}{pos:Pos}
def gName (i:Nat):TG:=fun v σ H Q=>Q (σ.set i (some v)) H
theorem pg_name {i:Nat}{x:Str}(hN:X.N.Nodup)(hi:X.N[i]? = some x)(hx:Loc X.env.scope x)(hf:X.fn x=true\/X.env.scope.names.lookup x=some .local:=by first | exact .inl rfl | exact .inr rfl | assumption):PG X (.Name x pos) (gName i):=by
 intro pins s σ H v u Q I r h
 exact wpAny_assign_Name (store_ok I hN hi hx r (fun s' I'=>⟨_,H,I',h⟩) hf)
def gNil:TGs:=fun vs σ H Q=>vs=[]/\Q σ H
def gCons (t:TG)(u:TGs):TGs:=fun vs σ H Q=>∃v r,vs=v::r/\t v σ H fun σ' H'=>u r σ' H' Q
theorem pgs_nil:PGs X [] gNil:=by
 intro pins s σ H vs us Q I r h
 obtain⟨e,h⟩:=h
 subst e
 cases r
 exact assignInOrder_nil ⟨σ,H,I,h⟩
theorem pgs_cons {e:Expr}{es:List Expr}{t:TG}{u:TGs}(h1:PG X e t)(h2:PGs X es u)
 (hs:(assignEach (e::es) X.env).map (·.2)=assign e X.env::(assignEach es X.env).map (·.2):=by rfl):PGs X (e::es) (gCons t u):=by
 intro pins s σ H vs us Q I r h
 obtain⟨v,vr,e1,h⟩:=h
 subst e1
 cases r with
 | cons r rr=>
  rw[hs]
  refine assignInOrder_cons (thn (h1 pins s σ H _ _ _ I r h) fun _ s1 ⟨σ1,H1,I1,q1⟩=>?_)
  exact h2 pins s1 σ1 H1 _ _ Q I1 rr q1
def gTup (K:PySem.W.Frag)(n:Nat)(t:TGs):TG:=fun v σ H Q=>∃a xs,v = .ref a/\SqT K H a xs/\xs.length=n/\t xs σ H Q
theorem pg_tup {es:List Expr}{k:Nat}{t:TGs}{n:Nat}(hc:X.calm=true)(h:PGs X es t)
 (hn:(assignEach es X.env).length=n:=by rfl)(hst:(assignEach es X.env).findIdx? (·.1)=none:=by rfl):PG X (.Tuple es k pos) (gTup X.K n t):=by
 intro pins s σ H v u Q I r hw
 obtain⟨a,xs,e1,hq,hl,hw⟩:=hw
 subst e1
 cases r
 obtain⟨its,rv,ht,hz⟩:=I.tuple hq
 refine assign_Tuple_tuple (I.ok.hd hc) ht (by simp[hn,<-hl,rv.length]) hst fun h' hx=>?_
 have I1:Inv X pins σ H { s with heap:=h' }:=I.kept (t':=s.toks) fun b o e=>hx b o (Nat.ne_of_lt (Heap.lt_size e)) e
 exact h pins _ σ H xs _ Q I1 (by simpa using rv) hw
def gSub (to ti:TE)(t:TSet):TG:=fun v σ H Q=>to σ H fun o H1=>ti σ H1 fun i H2=>t o i v H2 fun H3=>Q σ H3
theorem pg_sub {o i:Expr}{to ti:TE}{t:TSet}(ho:PE X o to)(hi:PE X i ti)(hs:PSet X t)
 (ha:∀v,assign (.Subscript o i pos) X.env v=(do
  let ov <-holding [v] (eval o X.env)
  let iv <-holding [v,ov] (eval i X.env)
  standAt pos
  holding [v,ov,iv] (setItem ov iv v)
  release [v,ov,iv] []):=by intro _;rfl):PG X (.Subscript o i pos) (gSub to ti t):=by
 intro pins s σ H v u Q I r h
 rw[ha]
 refine wpAny_bind (wpAny_holding (thn (ho pins s σ H _ I h) fun ov s1 ⟨x,H1,I1,r1,q1⟩=>?_))
 refine wpAny_bind (wpAny_holding (thn (hi pins s1 σ H1 _ I1 q1) fun iv s2 ⟨y,H2,I2,r2,q2⟩=>?_))
 refine wpAny_bind (wpAny_standAt (wpAny_bind (wpAny_holding (thn (hs pins s2 σ H2 x y v ov iv u _ I2 r1 r2 r q2) fun _ s3 ⟨H3,I3,q3⟩=>?_))))
 exact wpAny_release ⟨σ,H3,I3,q3⟩
def tAsg (te:TE)(g:TG):TS:=fun D σ H=>te σ H fun x H1=>g x σ H1 D.nx
theorem ps_asg {tg e:Expr}{te:TE}{g:TG}(he:PE X e te)(hg:PG X tg g)(hs:swapsWithSole [tg] e pos.line X.env=pure false:=by rfl)(hw:swappedStores [tg] e X.env=pure none:=by rfl)
 (h1:(assignEach [tg] X.env).map (·.2)=[assign tg X.env]:=by rfl):PS X (.Assign [tg] e pos) (tAsg te g):=by
 intro pins s σ H D I h
 refine wpAny_Assign_stores (thn (he pins s σ H _ I h) fun v s1 ⟨x,H1,I1,r1,q1⟩=>?_) hs hw
 rw[h1]
 exact thn (hg pins s1 σ H1 x v _ I1 r1 q1) fun _ s2 q=>q
theorem ps_set {i:Nat}{x:Str}{e:Expr}{te:TE}{pos':Pos}(hN:X.N.Nodup)(hi:X.N[i]? = some x)(hx:Loc X.env.scope x)(he:PE X e te)(hs:swapsWith e (some (.Name x pos')) pos.line X.env=pure false:=by rfl)(hf:X.fn x=true\/X.env.scope.names.lookup x=some .local:=by first | exact .inl rfl | exact .inr rfl | assumption) :
 PS X (.Assign [.Name x pos'] e pos) (tAsg te (gName i)):=by
 intro pins s σ H D I h
 refine wpAny_Assign_Name (thn (he pins s σ H _ I h) fun v s1 ⟨y,H1,I1,r1,q1⟩=>?_) hs
 exact store_ok I1 hN hi hx r1 (fun s2 I2=>⟨_,H1,I2,q1⟩) hf
end
section
variable {X:Cx}{pos:Pos}
def tWhile (c:TT)(tb:TS):TS:=fun D σ H=>∃W:Nat->St->Hp->Prop,(∃m,W m σ H)/\∀m σ H,W m σ H ->
 c σ H fun b H1=>if b=true then ∃N:St->Hp->Prop,(∀ σ' H',N σ' H'->∃m',m'<m/\W m' σ' H')/\tb { D with nx:=N,ct:=N,bk:=D.nx } σ H1 else D.nx σ H1
theorem ps_while {c:Expr}{body:List Stmt}{tc:TT}{tb:TS}(hp:PassesOwn (model X.prog X.w) X.A X.env X.xe)(hc:PT X c tc)(hb:PSs X body tb):PS X (.While c body [] pos) (tWhile tc tb):=by
 intro pins s σ H D I h
 obtain⟨W,⟨m0,w0⟩,turn⟩:=h
 refine wpAny_While (codeAny_whileLoop (fun n s'=>∃ σ' H',Inv X pins σ' H' s'/\W n σ' H') ?_ m0 ⟨σ,H,I,w0⟩)
 rintro n s1 ⟨σ1,H1,I1,w1⟩
 refine wpAny_passesOwn hp (thn (hc pins s1 σ1 H1 _ I1 (turn n σ1 H1 w1)) fun b s2 ⟨H2,I2,q2⟩=>?_)
 cases b with
 | true=>
  obtain⟨N,hN,q2⟩:=q2
  rw[if_pos rfl]
  refine wpAny_passesOwn hp (thn (hb pins s2 σ1 H2 _ I2 q2) fun f s3 q3=>?_)
  cases f with
  | next=>
   obtain⟨σ3,H3,I3,n3⟩:=q3
   obtain⟨m',hm,w3⟩:=hN σ3 H3 n3
   exact⟨m',hm,σ3,H3,I3,w3⟩
  | cont=>
   obtain⟨σ3,H3,I3,n3⟩:=q3
   obtain⟨m',hm,w3⟩:=hN σ3 H3 n3
   exact⟨m',hm,σ3,H3,I3,w3⟩
  | brk=>exact q3
  | ret v=>exact q3
 | false=>
  rw[if_neg Bool.false_ne_true]
  exact wpAny_execs_nil ⟨σ1,H2,I2,q2⟩
end
structure It where
 go:Nat->Hp->Prop
 yld:Nat->Hp->V->Hp->Prop
 stop:Nat->Hp->Prop
def FpOk (X:Cx)(pins:List (Addr×Obj))(H:Hp)(b:Addr):Prop:=
 H b=none/\b≠X.env.locals/\b∉X.fs/\(b∈X.ex\/X.s₀.heap.objs.size<=b)/\(∀x c,X.env.cells.lookup x=some c->c≠b)/\∀p∈X.pn++pins,p.1≠b
theorem Inv.fpOk {X:Cx}{pins:List (Addr×Obj)}{σ:St}{H H':Hp}{s:Shared}{b:Addr}(I:Inv X pins σ H s)(hb:s.heap.objs.size<=b)(hn:H' b=none):FpOk X pins H' b:=by
 refine⟨hn,Nat.ne_of_gt (Nat.lt_of_lt_of_le I.lt hb),I.nofs hb,.inr (Nat.le_trans I.sz hb),fun x c e z=>?_,fun p hp z=>?_⟩
 . obtain⟨v,q⟩:=I.cell x c e
   exact absurd (Nat.lt_of_lt_of_le q.lt (by rw[z];exact hb)) (Nat.lt_irrefl _)
 . exact absurd (Nat.lt_of_lt_of_le (Heap.lt_size (I.pin p hp).1) (by rw[z];exact hb)) (Nat.lt_irrefl _)
structure Turn (P:Program)(w:World)(K:PySem.W.Frag)(tg:Expr)(J:It)(fp:List Addr)(it:Addr)(tn:Nat->Heap->Prop):Prop where
 mem:it∈fp
 obj:∀i h,tn i h->∀b∈fp,∃o,h.get? b=some o/\∀v,o.data ≠ .cell v
 keep:∀i h h',tn i h->(∀b∈fp,∀o,h.get? b=some o->h'.get? b=some o)->tn i h'
 item:∀(X:Cx),X.prog=P->X.w=w->X.K=K->X.calm=true->∀(i:Nat)(pins:List (Addr×Obj))(s:Shared)(σ:St)(H:Hp)(E:Value->Shared->Prop),Inv X pins σ H s->(∀b∈fp,FpOk X pins H b)->tn i s.heap->J.go i H ->
  wpAny (model P w) X.A (pyNext (.ref it)) (fun r s1=>∃u,r=some u /\
   wpAny (model P w) X.A (letOwnedTupleGo tg (.ref it) u) (fun _ s2=>∃x H',Inv X pins σ H' s2/\RelV x u/\J.yld i H x H'/\tn (i+1) s2.heap/\∀b∈fp,H' b=none) E s1) E s
 done:∀(X:Cx),X.prog=P->X.w=w->X.K=K->X.calm=true->∀(i:Nat)(pins:List (Addr×Obj))(s:Shared)(σ:St)(H:Hp)(E:Value->Shared->Prop),Inv X pins σ H s->(∀b∈fp,FpOk X pins H b)->tn i s.heap->J.stop i H ->
  wpAny (model P w) X.A (pyNext (.ref it)) (fun r s1=>r=none/\Inv X pins σ H s1) E s
 self:∀(A:Around)(i:Nat)(s:Shared)(Q:Value->Shared->Prop)(E:Value->Shared->Prop),tn i s.heap->Q (.ref it) s->wpAny (model P w) A (pyIter (.ref it)) Q E s
abbrev TI:=St->Hp->(It->Hp->Prop)->Prop
def PIE (X:Cx)(pins:List (Addr×Obj))(σ:St)(tg:Expr)(R:It->Hp->Prop)(itv:Value)(s2:Shared):Prop:=
 ∃(it:Addr)(fp:List Addr)(tn:Nat->Heap->Prop)(J:It)(H':Hp),itv = .ref it/\Inv X pins σ H' s2/\Turn X.prog X.w X.K tg J fp it tn/\tn 0 s2.heap/\(∀b∈fp,FpOk X pins H' b)/\R J H'
def PI (X:Cx)(tg iter:Expr)(wi:TI):Prop:=
 ∀(pins:List (Addr×Obj))(s:Shared)(σ:St)(H:Hp)(R:It->Hp->Prop),Inv X pins σ H s->wi σ H R ->
  wpAny (model X.prog X.w) X.A (eval iter X.env) (fun v s1=>wpAny (model X.prog X.w) X.A (pyIter v) (PIE X pins σ tg R) X.xe s1) X.xe s
theorem go_of {M:Model}{A:Around}{E:Value->Shared->Prop}{s:Shared}{tg:Expr}{it:Addr}{u:Value}{o:Obj}{n:String}{vs:Array Value}{Q:Unit->Shared->Prop}(ho:s.heap.get? it=some o)(hc:o.cls = .type n)(hd:o.data = .fields vs)
 (hn:["enumerate", "zip", "dict_itemiterator", "dict_reverseitemiterator", "odict_iterator", "itertools.zip_longest", "itertools.pairwise"].contains n=false) (hQ:Q () s):wpAny M A (letOwnedTupleGo tg (.ref it) u) Q E s:=by
 unfold letOwnedTupleGo
 cases tg <;> first
  | exact wpAny_pure hQ
  | (cases u <;> first
   | exact wpAny_pure hQ
   | (refine wpAny_bind (wpAny_load ho ?_)
      rw[hc,hd]
      show wpAny M A (if (["enumerate", "zip", "dict_itemiterator", "dict_reverseitemiterator", "odict_iterator", "itertools.zip_longest", "itertools.pairwise"].contains n && vs[0]? == some (rawInt _))=true then _ else _) Q E s
      rw[if_neg (by intro h;rw[hn,Bool.false_and] at h;cases h)]
      exact wpAny_pure hQ))
def Itl (K:PySem.W.Frag)(a:Addr):It:=
 ⟨fun i H=>∃xs x,SqL K H a xs/\xs[i]? = some x,fun i H x H'=>H'=H/\∀xs,SqL K H a xs->xs[i]? = some x,fun i H=>∃xs,SqL K H a xs/\xs.length<=i⟩
def Itt (K:PySem.W.Frag)(a:Addr):It:=
 ⟨fun i H=>∃xs x,SqT K H a xs/\xs[i]? = some x,fun i H x H'=>H'=H/\∀xs,SqT K H a xs->xs[i]? = some x,fun i H=>∃xs,SqT K H a xs/\xs.length<=i⟩
def Itr (lo:Int)(n:Nat):It:=⟨fun i _=>i<n,fun i H x H'=>H'=H/\x = .int (lo+i),fun i _=>n<=i⟩
theorem turn_list {P:Program}{w:World}{K:PySem.W.Frag}{tg:Expr}(a it:Addr):Turn P w K tg (Itl K a) [it] it (fun i h=>h.IsListIter it a i) where
 mem:=by simp
 obj:=fun i h st b hb=>by
  have e:b=it:=by simpa using hb
  subst e
  obtain⟨o,e,c,d⟩:=st
  exact⟨o,e,fun v z=>by rw[d] at z;cases z⟩
 keep:=fun i h h' st k=>st.at fun o e=>k it (by simp) o e
 item:=by
  intro X hP hw hK hc i pins s σ H E I hf st hg
  subst hP hw hK
  obtain⟨xs,x,hq,hx⟩:=hg
  obtain⟨its,rv,p,hz⟩:=I.list hq
  obtain⟨u,hu,ru⟩:=rv.get hx
  obtain⟨f0,f1,f2,f3,f4,f5⟩:=hf it (by simp)
  refine wpAny_pyNext_list_item st p.isList (x:=u) (by simpa using hu) fun h' st' sb=>?_
  have I1:Inv X pins σ H { s with heap:=h' }:=I.turned (t':=s.toks) (fun b o hb e=>(sb.2 b hb).trans e) f0 f1 f3 f4 f5
  obtain⟨o,e,c,d⟩:=id st'
  exact⟨u,rfl,go_of (s:={ s with heap:=h' }) e c d (by decide) ⟨x,H,I1,ru,⟨rfl,fun ys hy=>by rw[I.list_inj hy hq];exact hx⟩,st',fun b hb=>(hf b hb).1⟩⟩
 done:=by
  intro X hP hw hK hc i pins s σ H E I hf st hg
  subst hP hw hK
  obtain⟨xs,hq,hx⟩:=hg
  obtain⟨its,rv,p,hz⟩:=I.list hq
  obtain⟨f0,f1,f2,f3,f4,f5⟩:=hf it (by simp)
  have hl:=rv.length
  exact wpAny_pyNext_list_end (I.ok.hd hc) st p.isList (by simp;omega) fun h' eb=>⟨rfl,I.turned (t':=s.toks) (fun b o hb e=>eb b o hb e) f0 f1 f3 f4 f5⟩
 self:=fun _ _ _ _ _ st h=>wpAny_pyIter_listiter st h
theorem turn_tuple {P:Program}{w:World}{K:PySem.W.Frag}{tg:Expr}(a it:Addr):Turn P w K tg (Itt K a) [it] it (fun i h=>h.IsTupleIter it a i) where
 mem:=by simp
 obj:=fun i h st b hb=>by
  have e:b=it:=by simpa using hb
  subst e
  obtain⟨o,e,c,d⟩:=st
  exact⟨o,e,fun v z=>by rw[d] at z;cases z⟩
 keep:=fun i h h' st k=>st.at fun o e=>k it (by simp) o e
 item:=by
  intro X hP hw hK hc i pins s σ H E I hf st hg
  subst hP hw hK
  obtain⟨xs,x,hq,hx⟩:=hg
  obtain⟨its,rv,p,hz⟩:=I.tuple hq
  obtain⟨u,hu,ru⟩:=rv.get hx
  obtain⟨f0,f1,f2,f3,f4,f5⟩:=hf it (by simp)
  refine wpAny_pyNext_tuple_item st (show s.heap.IsTuple a its.toArray from p) (x:=u) (by simpa using hu) fun h' st' sb=>?_
  have I1:Inv X pins σ H { s with heap:=h' }:=I.turned (t':=s.toks) (fun b o hb e=>(sb.2 b hb).trans e) f0 f1 f3 f4 f5
  obtain⟨o,e,c,d⟩:=id st'
  exact⟨u,rfl,go_of (s:={ s with heap:=h' }) e c d (by decide) ⟨x,H,I1,ru,⟨rfl,fun ys hy=>by rw[I.tuple_inj hy hq];exact hx⟩,st',fun b hb=>(hf b hb).1⟩⟩
 done:=by
  intro X hP hw hK hc i pins s σ H E I hf st hg
  subst hP hw hK
  obtain⟨xs,hq,hx⟩:=hg
  obtain⟨its,rv,p,hz⟩:=I.tuple hq
  obtain⟨f0,f1,f2,f3,f4,f5⟩:=hf it (by simp)
  have hl:=rv.length
  exact wpAny_pyNext_tuple_end (I.ok.hd hc) st (show s.heap.IsTuple a its.toArray from p) (by simp;omega) fun h' eb=>⟨rfl,I.turned (t':=s.toks) (fun b o hb e=>eb b o hb e) f0 f1 f3 f4 f5⟩
 self:=fun _ _ _ _ _ st h=>wpAny_pyIter_tupleiter st h
theorem turn_range {P:Program}{w:World}{K:PySem.W.Frag}{tg:Expr}(it:Addr)(lo:Int)(n:Nat):Turn P w K tg (Itr lo n) [it] it (fun i h=>IsRangeIter h it (lo+(i:Nat)*1) ((n:Int)-(i:Nat)) 1) where
 mem:=by simp
 obj:=fun i h st b hb=>by
  have e:b=it:=by simpa using hb
  subst e
  exact⟨_,st,fun v z=>by
   have z':Data.fields _=Data.cell v:=z
   cases z'⟩
 keep:=fun i h h' st k=>k it (by simp) _ st
 item:=by
  intro X hP hw hK hc i pins s σ H E I hf st hg
  subst hP hw hK
  obtain⟨f0,f1,f2,f3,f4,f5⟩:=hf it (by simp)
  have W:=Walks.range (prog:=X.prog) (w:=X.w) (I.ok.hd hc) it lo 1 n
  refine W.item i s _ _ hg st fun v h' tk hv st' kk=>?_
  obtain⟨t,rfl⟩:=hv
  have I1:Inv X pins σ H { s with heap:=h',toks:=tk }:=I.turned (fun b o hb e=>kk b o (by simpa using hb) e) f0 f1 f3 f4 f5
  refine⟨_,rfl,go_of (s:={ s with heap:=h',toks:=tk }) (n := "range_iterator") st' rfl rfl (by decide) ⟨.int (lo+i),H,I1,⟨t,?_⟩,⟨rfl,rfl⟩,st',fun b hb=>(hf b hb).1⟩⟩
  rw[Int.mul_one]
 done:=by
  intro X hP hw hK hc i pins s σ H E I hf st hg
  subst hP hw hK
  obtain⟨f0,f1,f2,f3,f4,f5⟩:=hf it (by simp)
  exact wpAny_pyNext_range_end (I.ok.hd hc) st (by have:n<=i:=hg;omega) fun h' eb=>⟨rfl,I.turned (t':=s.toks) (fun b o hb e=>eb b o hb e) f0 f1 f3 f4 f5⟩
 self:=fun _ _ _ _ _ st h=>wpAny_pyIter_rangeiter st h
end L2
namespace L2
open PySem PySem.Spec PyProof.Rows
section
variable {X:Cx}{tg:Expr}
def iList (K:PySem.W.Frag)(tl:TE):TI:=fun σ H R=>tl σ H fun x H1=>∃a,x = .ref a/\(∃xs,SqL K H1 a xs)/\R (Itl K a) H1
def iTup (K:PySem.W.Frag)(tl:TE):TI:=fun σ H R=>tl σ H fun x H1=>∃a,x = .ref a/\(∃xs,SqT K H1 a xs)/\R (Itt K a) H1
theorem pi_list {l:Expr}{tl:TE}(hl:PE X l tl):PI X tg l (iList X.K tl):=by
 intro pins s σ H R I h
 refine thn (hl pins s σ H _ I h) fun v s1 ⟨x,H1,I1,r1,q1⟩=>?_
 obtain⟨a,e,⟨xs,hq⟩,q⟩:=q1
 subst e
 cases r1
 obtain⟨its,rv,p,hz⟩:=I1.list hq
 refine wpAny_pyIter_list p.isList ?_
 refine⟨s1.heap.objs.size,[s1.heap.objs.size],_,_,H1,rfl,I1.kept (t':=s1.toks) fun b o e=>Heap.get?_push_of_some _ e,turn_list a _,⟨_,Heap.get?_push_size _ rfl,rfl,rfl⟩,fun b hb=>?_,q⟩
 have e:b=s1.heap.objs.size:=by simpa using hb
 subst e
 exact I1.fpOk (Nat.le_refl _) (I1.hok.fresh (Nat.le_refl _))
theorem pi_tup {l:Expr}{tl:TE}(hl:PE X l tl):PI X tg l (iTup X.K tl):=by
 intro pins s σ H R I h
 refine thn (hl pins s σ H _ I h) fun v s1 ⟨x,H1,I1,r1,q1⟩=>?_
 obtain⟨a,e,⟨xs,hq⟩,q⟩:=q1
 subst e
 cases r1
 obtain⟨its,rv,p,hz⟩:=I1.tuple hq
 refine wpAny_pyIter_tuple (show s1.heap.IsTuple a its.toArray from p) ?_
 refine⟨s1.heap.objs.size,[s1.heap.objs.size],_,_,H1,rfl,I1.kept (t':=s1.toks) fun b o e=>Heap.get?_push_of_some _ e,turn_tuple a _,⟨_,Heap.get?_push_size _ rfl,rfl,rfl⟩,fun b hb=>?_,q⟩
 have e:b=s1.heap.objs.size:=by simpa using hb
 subst e
 exact I1.fpOk (Nat.le_refl _) (I1.hok.fresh (Nat.le_refl _))
theorem range_it {pins:List (Addr×Obj)}{σ:St}{H:Hp}{s:Shared}{R:It->Hp->Prop}{E:Value->Shared->Prop}{lo hi:Int}{t u v:Tok}{tk:Nat}(I:Inv X pins σ H s)(h1 : -(2 ^ 62)<=lo)(h2:lo<2 ^ 62)(h3 : -(2 ^ 62)<=hi)(h4:hi<2 ^ 62)
 (q:R (Itr lo (hi-lo).toNat) H):wpAny (model X.prog X.w) X.A (pyIter (.ref s.heap.objs.size)) (PIE X pins σ tg R) E { s with heap:=s.heap.push { cls:=.type "range",data:=.fields #[.int lo t,.int hi u,.int 1 v] },toks:=tk }:=by
 refine wpAny_pyIter_range (IsRange.new ..) (small_one h1 h2 h3 h4) ?_
 have I1:Inv X pins σ H { s with heap:=s.heap.push { cls:=.type "range",data:=.fields #[.int lo t,.int hi u,.int 1 v] },toks:=tk }:=I.kept fun b o e=>Heap.get?_push_of_some _ e
 refine⟨(s.heap.push { cls:=.type "range",data:=.fields #[.int lo t,.int hi u,.int 1 v] }).objs.size,[(s.heap.push { cls:=.type "range",data:=.fields #[.int lo t,.int hi u,.int 1 v] }).objs.size],_,_,H,rfl,
  I1.kept (t':=tk) fun b o e=>Heap.get?_push_of_some _ e,turn_range _ lo (hi-lo).toNat,?_,fun b hb=>?_,q⟩
 . have e1:lo+((0:Nat):Int)*1=lo:=by simp
   have e2:(((hi-lo).toNat:Nat):Int)-((0:Nat):Int)=Builtin.Range.rangeSize lo hi 1:=by rw[rangeSize_one];split <;> omega
   show IsRangeIter _ _ (lo+((0:Nat):Int)*1) ((((hi-lo).toNat:Nat):Int)-((0:Nat):Int)) 1
   rw[e1,e2]
   exact Heap.get?_push_size _ rfl
 . have e:b=(s.heap.push { cls:=.type "range",data:=.fields #[.int lo t,.int hi u,.int 1 v] }).objs.size:=by simpa using hb
   subst e
   exact I1.fpOk (Nat.le_refl _) (I1.hok.fresh (Nat.le_refl _))
def iRng1 (ta:TA):TI:=fun σ H R=>ta σ H fun vs H1=>∃j:Int,vs=[.int j] /\ -(2 ^ 62)<=j/\j<2 ^ 62/\R (Itr 0 j.toNat) H1
def iRng2 (ta:TA):TI:=fun σ H R=>ta σ H fun vs H1=>∃i j:Int,vs=[.int i,.int j]/\(-(2 ^ 62)<=i/\i<2 ^ 62 /\ -(2 ^ 62)<=j/\j<2 ^ 62)/\R (Itr i (j-i).toNat) H1
theorem pi_range1 {a:Expr}{ta:TA}{p pos:Pos}(hg:Gl X "range") (hm:X.mg "range" = none) (ha:PA X [a] ta)(hs:starEach [a] X.env=[(false,eval a X.env)]:=by rfl):PI X tg (.Call (.Name "range" p) [a] [] pos) (iRng1 ta):=by
 intro pins s σ H R I h
 refine Call_ (ld_blt I hg hm boot_range (PyProof.Rows.callWith_type1 (thn (ha pos pins s σ H _ I h) fun us s1 ⟨vs,H1,I1,r1,q1⟩=>?_) hs rfl))
 obtain⟨j,e,q1,q2,q⟩:=q1
 subst e
 cases r1 with
 | cons r rr=>
  cases rr
  obtain⟨t,rfl⟩:=r
  exact call_range_1 (range_it I1 (by omega) (by omega) q1 q2 (by simpa using q))
theorem pi_range2 {a b:Expr}{ta:TA}{p pos:Pos}(hg:Gl X "range") (hm:X.mg "range" = none) (ha:PA X [a,b] ta)(hs:starEach [a,b] X.env=[(false,eval a X.env),(false,eval b X.env)]:=by rfl)(hs2:starEach [b] X.env=[(false,eval b X.env)]:=by rfl) :
 PI X tg (.Call (.Name "range" p) [a,b] [] pos) (iRng2 ta):=by
 intro pins s σ H R I h
 refine Call_ (ld_blt I hg hm boot_range (PyProof.Rows.callWith_type1 (thn (ha pos pins s σ H _ I h) fun us s1 ⟨vs,H1,I1,r1,q1⟩=>?_) (by rw[hs,hs2]) (by rw[hs2];rfl)))
 obtain⟨i,j,e,⟨q1,q2,q3,q4⟩,q⟩:=q1
 subst e
 cases r1 with
 | cons r rr=>
  cases rr with
  | cons r' rr=>
   cases rr
   obtain⟨t,rfl⟩:=r
   obtain⟨t',rfl⟩:=r'
   exact call_range_2 (range_it I1 q1 q2 q3 q4 q)
def tFor (wi:TI)(g:TG)(tb:TS):TS:=fun D σ H=>wi σ H fun J H1=>∃W:Nat->Nat->St->Hp->Prop,(∃m,W 0 m σ H1)/\∀i m σ H,W i m σ H ->
 (J.stop i H/\D.nx σ H)\/(J.go i H/\∃N:St->Hp->Prop,(∀ σ' H',N σ' H'->∃m',m'<m/\W (i+1) m' σ' H')/\∀x H',J.yld i H x H'->g x σ H' fun σ2 H2=>tb { D with nx:=N,ct:=N,bk:=D.nx } σ2 H2)
def pinsAt (fp:List Addr)(h:Heap):List (Addr×Obj):=fp.filterMap fun b=>(h.get? b).map fun o=>(b,o)
theorem mem_pinsAt {fp:List Addr}{h:Heap}{b:Addr}{o:Obj}(hb:b∈fp)(e:h.get? b=some o):(b,o)∈pinsAt fp h:=List.mem_filterMap.mpr ⟨b,hb,by rw[e];rfl⟩
theorem of_pinsAt {fp:List Addr}{h:Heap}{p:Addr×Obj}(hp:p∈pinsAt fp h):p.1∈fp/\h.get? p.1=some p.2:=by
 obtain⟨b,hb,e⟩:=List.mem_filterMap.mp hp
 cases q:h.get? b with
 | none=>rw[q] at e;cases e
 | some o=>
  rw[q] at e
  have e':(b,o)=p:=Option.some.inj e
  subst e'
  exact⟨hb,q⟩
theorem Inv.pinned {pins:List (Addr×Obj)}{σ:St}{H:Hp}{s:Shared}{fp:List Addr}(I:Inv X pins σ H s)(hf:∀b∈fp,FpOk X pins H b)(ho:∀b∈fp,∃o,s.heap.get? b=some o/\∀v,o.data ≠ .cell v):Inv X (pins++pinsAt fp s.heap) σ H s:=
 I.pins_of fun p hp=>(List.mem_append.mp hp).elim (fun z=>I.pin p (List.mem_append_right _ z)) fun z=>by
  obtain⟨hb,e⟩:=of_pinsAt z
  obtain⟨f0,f1,f2,_⟩:=hf p.1 hb
  obtain⟨o,e',d⟩:=ho p.1 hb
  rw[e] at e';cases e'
  exact⟨e,f0,f1,f2,d⟩
theorem Inv.unpinned {pins pl:List (Addr×Obj)}{σ:St}{H:Hp}{s:Shared}(I:Inv X (pins++pl) σ H s):Inv X pins σ H s:=I.pins_of fun p hp=>I.pin p (List.mem_append_right _ (List.mem_append_left _ hp))
theorem ps_for {iter:Expr}{body:List Stmt}{wi:TI}{g:TG}{tb:TS}{pos:Pos}(hp:PassesOwn (model X.prog X.w) X.A X.env X.xe)(hc:X.calm=true)(hi:PI X tg iter wi)(hg:PG X tg g)(hb:PSs X body tb)
 (hs:∀x,foldedSetIterable iter X.env x=pure x:=by intro _;rfl):PS X (.For tg iter body [] pos) (tFor wi g tb):=by
 intro pins s σ H D I h
 refine wpAny_For (thn (hi pins s σ H _ I h) fun v s1 h1=>thn h1 fun itv s2 h2=>?_) hs
 obtain⟨it,fp,tn,J,H2,e,I2,T,st2,f2,W,⟨m0,w0⟩,turn⟩:=h2
 subst e
 have stat:∀{H':Hp},(∀b∈fp,H' b=none)->∀b∈fp,FpOk X pins H' b:=fun hn b hb=>⟨hn b hb,(f2 b hb).2⟩
 refine codeAny_forLoop_any (fun n s'=>∃i σ' H',Inv X pins σ' H' s'/\tn i s'.heap/\(∀b∈fp,H' b=none)/\W i n σ' H') ?_ m0 ⟨0,σ,H2,I2,st2,fun b hb=>(f2 b hb).1,w0⟩
 rintro n s3 ⟨i,σ3,H3,I3,st3,fr3,w3⟩
 rcases turn i n σ3 H3 w3 with ⟨stop,qn⟩ | ⟨go,N,hN,step⟩
 . refine wpAny_passesOwn hp (thn (T.done X rfl rfl rfl hc i pins s3 σ3 H3 X.xe I3 (stat fr3) st3 stop) fun r s4 ⟨hr,I4⟩=>?_)
   subst hr
   exact wpAny_execs_nil ⟨σ3,H3,I4,qn⟩
 . refine wpAny_passesOwn hp (thn (T.item X rfl rfl rfl hc i pins s3 σ3 H3 X.xe I3 (stat fr3) st3 go) fun r s4 ⟨u,hr,h4⟩=>?_)
   subst hr
   refine wpAny_passesOwn hp (thn h4 fun _ s5 ⟨x,H5,I5,r5,y5,st5,fr5⟩=>?_)
   have I5':=I5.pinned (stat fr5) (T.obj _ _ st5)
   refine wpAny_passesOwn hp (thn (hg _ s5 σ3 H5 x u _ I5' r5 (step x H5 y5)) fun _ s6 ⟨σ6,H6,I6,q6⟩=>?_)
   refine wpAny_passesOwn hp (thn (hb _ s6 σ6 H6 _ I6 q6) fun f s7 q7=>?_)
   have again:∀{σ7:St}{H7:Hp},Inv X (pins++pinsAt fp s5.heap) σ7 H7 s7->N σ7 H7->∃m,m<n/\∃i σ' H',Inv X pins σ' H' s7/\tn i s7.heap/\(∀b∈fp,H' b=none)/\W i m σ' H':=fun {σ7 H7} I7 n7=>by
    obtain⟨m',hm,w7⟩:=hN σ7 H7 n7
    refine⟨m',hm,i+1,σ7,H7,I7.unpinned,T.keep _ _ _ st5 fun b hb o e=>(I7.pin (b,o) (List.mem_append_right _ (List.mem_append_right _ (mem_pinsAt hb e)))).1,fun b hb=>?_,w7⟩
    obtain⟨o,e,d⟩:=T.obj _ _ st5 b hb
    exact (I7.pin (b,o) (List.mem_append_right _ (List.mem_append_right _ (mem_pinsAt hb e)))).2.1
   cases f with
   | next=>obtain⟨σ7,H7,I7,n7⟩:=q7;exact again I7 n7
   | cont=>obtain⟨σ7,H7,I7,n7⟩:=q7;exact again I7 n7
   | brk=>obtain⟨σ7,H7,I7,q7⟩:=q7;exact⟨σ7,H7,I7.unpinned,q7⟩
   | ret v=>obtain⟨x7,σ7,H7,I7,r7,q7⟩:=q7;exact⟨x7,σ7,H7,I7.unpinned,r7,q7⟩
end
theorem for_list {K:PySem.W.Frag}{a:Addr}{xs:List V}{g:TG}{tb:TS}{D:Ends}{σ:St}{H:Hp}(Pv:Nat->St->Hp->Prop)(h0:Pv 0 σ H)(hl:∀i σ H,i<=xs.length->Pv i σ H->SqL K H a xs)
 (hs:∀i x σ H,xs[i]? = some x->Pv i σ H->g x σ H fun σ2 H2=>tb { D with nx:=Pv (i+1),ct:=Pv (i+1),bk:=D.nx } σ2 H2)(hd:∀ σ H,Pv xs.length σ H->D.nx σ H) :
 ∃W:Nat->Nat->St->Hp->Prop,(∃m,W 0 m σ H)/\∀i m σ H,W i m σ H ->
  ((Itl K a).stop i H/\D.nx σ H)\/((Itl K a).go i H/\∃N:St->Hp->Prop,(∀ σ' H',N σ' H'->∃m',m'<m/\W (i+1) m' σ' H')/\∀x H',(Itl K a).yld i H x H'->g x σ H' fun σ2 H2=>tb { D with nx:=N,ct:=N,bk:=D.nx } σ2 H2):=by
 refine⟨fun i m σ H=>m=xs.length-i/\i<=xs.length/\Pv i σ H,⟨xs.length,by simp,Nat.zero_le _,h0⟩,?_⟩
 rintro i m σ H ⟨rfl,hi,p⟩
 have q:=hl i σ H hi p
 by_cases hlt:i<xs.length
 . refine .inr ⟨⟨xs,xs[i],q,by simp[hlt]⟩,Pv (i+1),fun σ' H' p'=>⟨xs.length-(i+1),by omega,rfl,hlt,p'⟩,fun x H' y=>?_⟩
   obtain⟨e,y⟩:=y
   subst e
   exact hs i x σ _ (y xs q) p
 . have e:i=xs.length:=by omega
   subst e
   exact .inl ⟨⟨xs,q,Nat.le_refl _⟩,hd σ H p⟩
theorem for_tup {K:PySem.W.Frag}{a:Addr}{xs:List V}{g:TG}{tb:TS}{D:Ends}{σ:St}{H:Hp}(Pv:Nat->St->Hp->Prop)(h0:Pv 0 σ H)(hl:∀i σ H,i<=xs.length->Pv i σ H->SqT K H a xs)
 (hs:∀i x σ H,xs[i]? = some x->Pv i σ H->g x σ H fun σ2 H2=>tb { D with nx:=Pv (i+1),ct:=Pv (i+1),bk:=D.nx } σ2 H2)(hd:∀ σ H,Pv xs.length σ H->D.nx σ H) :
 ∃W:Nat->Nat->St->Hp->Prop,(∃m,W 0 m σ H)/\∀i m σ H,W i m σ H ->
  ((Itt K a).stop i H/\D.nx σ H)\/((Itt K a).go i H/\∃N:St->Hp->Prop,(∀ σ' H',N σ' H'->∃m',m'<m/\W (i+1) m' σ' H')/\∀x H',(Itt K a).yld i H x H'->g x σ H' fun σ2 H2=>tb { D with nx:=N,ct:=N,bk:=D.nx } σ2 H2):=by
 refine⟨fun i m σ H=>m=xs.length-i/\i<=xs.length/\Pv i σ H,⟨xs.length,by simp,Nat.zero_le _,h0⟩,?_⟩
 rintro i m σ H ⟨rfl,hi,p⟩
 have q:=hl i σ H hi p
 by_cases hlt:i<xs.length
 . refine .inr ⟨⟨xs,xs[i],q,by simp[hlt]⟩,Pv (i+1),fun σ' H' p'=>⟨xs.length-(i+1),by omega,rfl,hlt,p'⟩,fun x H' y=>?_⟩
   obtain⟨e,y⟩:=y
   subst e
   exact hs i x σ _ (y xs q) p
 . have e:i=xs.length:=by omega
   subst e
   exact .inl ⟨⟨xs,q,Nat.le_refl _⟩,hd σ H p⟩
theorem for_range {lo:Int}{n:Nat}{g:TG}{tb:TS}{D:Ends}{σ:St}{H:Hp}(Pv:Nat->St->Hp->Prop)(h0:Pv 0 σ H)
 (hs:∀i σ H,i<n->Pv i σ H->g (.int (lo+i)) σ H fun σ2 H2=>tb { D with nx:=Pv (i+1),ct:=Pv (i+1),bk:=D.nx } σ2 H2)(hd:∀ σ H,Pv n σ H->D.nx σ H) :
 ∃W:Nat->Nat->St->Hp->Prop,(∃m,W 0 m σ H)/\∀i m σ H,W i m σ H ->
  ((Itr lo n).stop i H/\D.nx σ H)\/((Itr lo n).go i H/\∃N:St->Hp->Prop,(∀ σ' H',N σ' H'->∃m',m'<m/\W (i+1) m' σ' H')/\∀x H',(Itr lo n).yld i H x H'->g x σ H' fun σ2 H2=>tb { D with nx:=N,ct:=N,bk:=D.nx } σ2 H2):=by
 refine⟨fun i m σ H=>m=n-i/\i<=n/\Pv i σ H,⟨n,by simp,Nat.zero_le _,h0⟩,?_⟩
 rintro i m σ H ⟨rfl,hi,p⟩
 by_cases hlt:i<n
 . refine .inr ⟨hlt,Pv (i+1),fun σ' H' p'=>⟨n-(i+1),by omega,rfl,hlt,p'⟩,fun x H' y=>?_⟩
   obtain⟨e,y⟩:=y
   subst e y
   exact hs i σ _ hlt p
 . have e:i=n:=by omega
   subst e
   exact .inl ⟨Nat.le_refl _,hd σ H p⟩
end L2
namespace L2
open PySem PySem.Spec PyProof.Rows
abbrev R2:=V->V->Hp->VK->Prop
def OpR (X:Cx)(f:Value->Value->Sem Value)(r:R2):Prop:=
 ∀(pins:List (Addr×Obj))(s:Shared)(σ:St)(H:Hp)(x y:V)(v u:Value)(Q:VK),Inv X pins σ H s->RelV x v->RelV y u->r x y H Q ->
  wpAny (model X.prog X.w) X.A (f v u) (EP X pins σ Q) X.xe s
def UnR (X:Cx)(f:Value->Sem Value)(r:V->Hp->VK->Prop):Prop:=
 ∀(pins:List (Addr×Obj))(s:Shared)(σ:St)(H:Hp)(x:V)(v:Value)(Q:VK),Inv X pins σ H s->RelV x v->r x H Q ->
  wpAny (model X.prog X.w) X.A (f v) (EP X pins σ Q) X.xe s
def CallR (X:Cx)(f:Value)(r:List V->Hp->VK->Prop):Prop:=
 ∀(pins:List (Addr×Obj))(s:Shared)(σ:St)(H:Hp)(xs:List V)(us:List Value)(Q:VK),Inv X pins σ H s->Vals xs us->r xs H Q ->
  wpAny (model X.prog X.w) X.A (call f us) (EP X pins σ Q) X.xe s
def TruR (X:Cx)(r:V->Hp->(Bool->Hp->Prop)->Prop):Prop:=
 ∀(pins:List (Addr×Obj))(s:Shared)(σ:St)(H:Hp)(x:V)(v:Value)(Q:Bool->Hp->Prop),Inv X pins σ H s->RelV x v->r x H Q ->
  wpAny (model X.prog X.w) X.A (truthy v) (TP X pins σ Q) X.xe s
def tOp (r:R2)(ta tb:TE):TE:=fun σ H Q=>ta σ H fun x H1=>tb σ H1 fun y H2=>r x y H2 Q
def tUn (r:V->Hp->VK->Prop)(ta:TE):TE:=fun σ H Q=>ta σ H fun x H1=>r x H1 Q
def rI (C:Int->Int->Prop)(g:Int->Int->V):R2:=fun x y H Q=>∃i j,x = .int i/\y = .int j/\C i j/\Q (g i j) H
def rI0 (g:Int->Int->V):R2:=fun x y H Q=>∃i j,x = .int i/\y = .int j/\Q (g i j) H
def rU (g:Int->V):V->Hp->VK->Prop:=fun x H Q=>∃i,x = .int i/\Q (g i) H
section
variable {X:Cx}{a b c:Expr}{ta tb tc:TE}{pos:Pos}
theorem binT (ha:PE X a ta)(hb:PE X b tb){pins:List (Addr×Obj)}{s:Shared}{σ:St}{H:Hp}{R:V->V->Hp->Prop}(I:Inv X pins σ H s)
 (h:ta σ H fun x H1=>tb σ H1 fun y H2=>R x y H2){Q:Value->Shared->Prop}{f:Value->Value->Sem Value}
 (hf:∀v u s2 x y H2,Inv X pins σ H2 s2->RelV x v->RelV y u->R x y H2->wpAny (model X.prog X.w) X.A (f v u) Q X.xe s2) :
 wpAny (model X.prog X.w) X.A (eval a X.env) (fun v s₁=>wpAny (model X.prog X.w) X.A (eval b X.env) (fun u s₂=>wpAny (model X.prog X.w) X.A (f v u) Q X.xe s₂) X.xe s₁) X.xe s:=by
 refine thn (ha pins s σ H _ I h) fun v s1 ⟨x,H1,I1,r1,q1⟩=>?_
 refine thn (hb pins s1 σ H1 _ I1 q1) fun u s2 ⟨y,H2,I2,r2,q2⟩=>?_
 exact hf v u s2 x y H2 I2 r1 r2 q2
theorem pe_op {op:Operator}{r:R2}(ho:OpR X (binaryOp op) r)(ha:PE X a ta)(hb:PE X b tb):PE X (.BinOp a op b pos) (tOp r ta tb):=by
 intro pins s σ H Q I h
 exact wpAny_BinOp (binT ha hb I h fun v u s2 x y H2 I2 rx ry q=>ho pins s2 σ H2 x y v u Q I2 rx ry q)
theorem pe_un {op:UnaryOp}{r:V->Hp->VK->Prop}(ho:UnR X (unaryOp op) r)(ha:PE X a ta):PE X (.UnaryOp op a pos) (tUn r ta):=by
 intro pins s σ H Q I h
 exact UnaryOp_ (thn (ha pins s σ H _ I h) fun v s1 ⟨x,H1,I1,r1,q1⟩=>ho pins s1 σ H1 x v Q I1 r1 q1)
theorem opI {f:Value->Value->Sem Value}{C:Int->Int->Prop}{g:Int->Int->Int}
 (rule:∀(i j:Int)(t u:Tok)(s:Shared)(Q:Value->Shared->Prop)(E:Value->Shared->Prop),C i j->Q (.int (g i j) s.toks) { s with toks:=s.toks+1 }->wpAny (model X.prog X.w) X.A (f (.int i t) (.int j u)) Q E s) :
 OpR X f (rI C fun i j=>.int (g i j)):=by
 intro pins s σ H x y v u Q I rx ry h
 obtain⟨i,j,rfl,rfl,hc,q⟩:=h
 obtain⟨t,rfl⟩:=rx
 obtain⟨t',rfl⟩:=ry
 exact rule i j t t' s _ _ hc ⟨.int (g i j),H,I.tok _,⟨_,rfl⟩,q⟩
theorem opI0 {f:Value->Value->Sem Value}{g:Int->Int->Int}
 (rule:∀(i j:Int)(t u:Tok)(s:Shared)(Q:Value->Shared->Prop)(E:Value->Shared->Prop),Q (.int (g i j) s.toks) { s with toks:=s.toks+1 }->wpAny (model X.prog X.w) X.A (f (.int i t) (.int j u)) Q E s) :
 OpR X f (rI0 fun i j=>.int (g i j)):=by
 intro pins s σ H x y v u Q I rx ry h
 obtain⟨i,j,rfl,rfl,q⟩:=h
 obtain⟨t,rfl⟩:=rx
 obtain⟨t',rfl⟩:=ry
 exact rule i j t t' s _ _ ⟨.int (g i j),H,I.tok _,⟨_,rfl⟩,q⟩
theorem opB0 {f:Value->Value->Sem Value}{g:Int->Int->Bool}
 (rule:∀(i j:Int)(t u:Tok)(s:Shared)(Q:Value->Shared->Prop)(E:Value->Shared->Prop),Q (.bool (g i j)) s->wpAny (model X.prog X.w) X.A (f (.int i t) (.int j u)) Q E s) :
 OpR X f (rI0 fun i j=>.bl (g i j)):=by
 intro pins s σ H x y v u Q I rx ry h
 obtain⟨i,j,rfl,rfl,q⟩:=h
 obtain⟨t,rfl⟩:=rx
 obtain⟨t',rfl⟩:=ry
 exact rule i j t t' s _ _ ⟨.bl (g i j),H,I,rfl,q⟩
def CDiv (i j:Int):Prop:=0<j/\j<1073741824
def CPow (i j:Int):Prop:=0<=j/\j<=1000000/\i.natAbs<2 ^ 64
def CMul (i j:Int):Prop:=(-(2 ^ 64)<i/\i<2 ^ 64)\/(-(2 ^ 64)<j/\j<2 ^ 64)
theorem CMul.ok {i j:Int}(h:CMul i j):IntMulOk i j:=by
 rcases h with ⟨h1,h2⟩ | ⟨h1,h2⟩
 . exact .of_left (intBits_le_64 h1 h2)
 . exact .of_right (intBits_le_64 h1 h2)
theorem two_pow_nn (k:Nat):(0:Int)<=2 ^ k:=by
 rw[two_pow_cast]
 exact Int.natCast_nonneg _
theorem op_add:OpR X (binaryOp .Add) (rI0 fun i j=>.int (i+j)):=opI0 fun _ _ _ _ _ _ _ q=>add_int q
theorem op_sub:OpR X (binaryOp .Sub) (rI0 fun i j=>.int (i-j)):=opI0 fun _ _ _ _ _ _ _ q=>sub_int q
theorem op_mul:OpR X (binaryOp .Mult) (rI CMul fun i j=>.int (i*j)):=opI fun _ _ _ _ _ _ _ hc q=>mul_int q hc.ok
theorem op_fdiv:OpR X (binaryOp .FloorDiv) (rI CDiv fun i j=>.int (i/j)):=opI fun i j _ _ _ _ _ hc q=>by
 have h1:(0:Int)<j:=hc.1
 have h2:j<1073741824:=hc.2
 exact floordiv_int (by omega) (by rw[Int.fdiv_eq_ediv_of_nonneg i (by omega)];exact q) (.inl (PyProof.noPylong_small (by omega)))
theorem op_mod:OpR X (binaryOp .Mod) (rI (fun _ j=>0<j) fun i j=>.int (i%j)):=opI fun i j _ _ _ _ _ hc q=>by
 have h1:(0:Int)<j:=hc
 exact mod_int' (by omega) (by rw[Int.fmod_eq_emod_of_nonneg i (by omega)];exact q)
theorem op_pow:OpR X (binaryOp .Pow) (rI CPow fun i j=>.int (i ^ j.toNat)):=opI fun _ _ _ _ _ _ _ hc q=>pow_int_small hc.1 hc.2.1 hc.2.2 q
theorem op_shl:OpR X (binaryOp .LShift) (rI CPow fun i j=>.int (i*2 ^ j.toNat)):=opI fun _ _ _ _ _ _ _ hc q=>lshift_int_small hc.1 hc.2.1 hc.2.2 q
theorem op_shr:OpR X (binaryOp .RShift) (rI (fun _ j=>0<=j) fun i j=>.int (i/2 ^ j.toNat)):=opI fun i j _ _ _ _ _ hc q=>
 rshift_int hc (by rw[Int.fdiv_eq_ediv_of_nonneg i (two_pow_nn _)];exact q)
theorem op_and:OpR X (binaryOp .BitAnd) (rI0 fun i j=>.int (Builtin.bitAnd i j)):=opI0 fun _ _ _ _ _ _ _ q=>and_int q
theorem op_or:OpR X (binaryOp .BitOr) (rI0 fun i j=>.int (Builtin.bitOr i j)):=opI0 fun _ _ _ _ _ _ _ q=>or_int q
theorem unI {f:Value->Sem Value}{g:Int->Int}
 (rule:∀(i:Int)(t:Tok)(s:Shared)(Q:Value->Shared->Prop)(E:Value->Shared->Prop),Q (.int (g i) s.toks) { s with toks:=s.toks+1 }->wpAny (model X.prog X.w) X.A (f (.int i t)) Q E s) :
 UnR X f (rU fun i=>.int (g i)):=by
 intro pins s σ H x v Q I rx h
 obtain⟨i,rfl,q⟩:=h
 obtain⟨t,rfl⟩:=rx
 exact rule i t s _ _ ⟨.int (g i),H,I.tok _,⟨_,rfl⟩,q⟩
theorem un_neg:UnR X (unaryOp .USub) (rU fun i=>.int (-i)):=unI fun _ _ _ _ _ q=>neg_int q
end
def scal:V->V->Bool
 | .non,.non=>true | .non,.int _=>true | .int _,.non=>true | .non,.bl _=>true | .bl _,.non=>true | .non,.str _=>true | .str _,.non=>true
 | .int _,.int _=>true | .bl _,.bl _=>true | .str _,.str _=>true | .byt _,.byt _=>true
 | .int _,.str _=>true | .str _,.int _=>true | .bl _,.str _=>true | .str _,.bl _=>true
 | _,_=>false
def rEq:R2:=fun x y H Q=>scal x y=true/\Q (.bl (decide (x=y))) H
def rNe:R2:=fun x y H Q=>scal x y=true/\Q (.bl (!decide (x=y))) H
theorem dec_int {i j:Int}:decide (V.int i=V.int j)=(i==j):=by
 rw[Bool.eq_iff_iff]
 simp
theorem dec_bl {i j:Bool}:decide (V.bl i=V.bl j)=(i==j):=by
 rw[Bool.eq_iff_iff]
 simp
theorem dec_str {i j:Str}:decide (V.str i=V.str j)=(i==j):=by
 rw[Bool.eq_iff_iff]
 simp
theorem dec_byt {i j:Array UInt8}:decide (V.byt i=V.byt j)=(i.toList==j.toList):=by
 rw[Bool.eq_iff_iff]
 cases i
 cases j
 simp
section
variable {X:Cx}{a b c:Expr}{ta tb tc:TE}{pos:Pos}
theorem fin_bl {pins:List (Addr×Obj)}{σ:St}{H:Hp}{s:Shared}{Q:VK}{k k':Bool}(I:Inv X pins σ H s)(q:Q (.bl k) H)(e:k=k'):EP X pins σ Q (.bool k') s:=by
 subst e
 exact⟨.bl k,H,I,rfl,q⟩
theorem op_eq:OpR X (compareOp .Eq) rEq:=by
 intro pins s σ H x y v u Q I rx ry h
 obtain⟨hs,q⟩:=h
 cases x with
 | non=>
  cases rx
  cases y with
  | non=>cases ry;exact PySem.EqNone.eq_none_none (fin_bl I q (by simp))
  | bl j=>cases ry;exact PySem.EqNone.eq_none_bool (fin_bl I q (by simp))
  | int j=>obtain⟨t',rfl⟩:=ry;exact PySem.EqNone.eq_none_int (fin_bl I q (by simp))
  | str j=>obtain⟨t',rfl⟩:=ry;exact PySem.EqNone.eq_none_str (fin_bl I q (by simp))
  | _=>exact absurd (show false=true from hs) Bool.false_ne_true
 | bl i=>
  cases rx
  cases y with
  | non=>cases ry;exact PySem.EqNone.eq_bool_none (fin_bl I q (by simp))
  | bl j=>cases ry;exact eq_bool (fin_bl I q dec_bl)
  | str j=>obtain⟨t',rfl⟩:=ry;exact PySem.EqMixed.eq_bool_str (fin_bl I q (by simp))
  | _=>exact absurd (show false=true from hs) Bool.false_ne_true
 | int i=>
  obtain⟨t,rfl⟩:=rx
  cases y with
  | non=>cases ry;exact PySem.EqNone.eq_int_none (fin_bl I q (by simp))
  | int j=>obtain⟨t',rfl⟩:=ry;exact eq_int (fin_bl I q dec_int)
  | str j=>obtain⟨t',rfl⟩:=ry;exact PySem.EqMixed.eq_int_str (fin_bl I q (by simp))
  | _=>exact absurd (show false=true from hs) Bool.false_ne_true
 | str i=>
  obtain⟨t,rfl⟩:=rx
  cases y with
  | non=>cases ry;exact PySem.EqNone.eq_str_none (fin_bl I q (by simp))
  | bl j=>cases ry;exact PySem.EqMixed.eq_str_bool (fin_bl I q (by simp))
  | int j=>obtain⟨t',rfl⟩:=ry;exact PySem.EqMixed.eq_str_int (fin_bl I q (by simp))
  | str j=>obtain⟨t',rfl⟩:=ry;exact eq_str (fin_bl I q dec_str)
  | _=>exact absurd (show false=true from hs) Bool.false_ne_true
 | byt i=>
  obtain⟨t,rfl⟩:=rx
  cases y with
  | byt j=>obtain⟨t',rfl⟩:=ry;exact PySem.W.eq_bytes (fin_bl I q dec_byt)
  | _=>exact absurd (show false=true from hs) Bool.false_ne_true
 | _=>cases y <;> exact absurd (show false=true from hs) Bool.false_ne_true
theorem op_ne:OpR X (compareOp .NotEq) rNe:=by
 intro pins s σ H x y v u Q I rx ry h
 obtain⟨hs,q⟩:=h
 cases x with
 | non=>
  cases rx
  cases y with
  | non=>cases ry;exact PySem.EqNone.ne_none_none (fin_bl I q (by simp))
  | bl j=>cases ry;exact PySem.EqNone.ne_none_bool (fin_bl I q (by simp))
  | int j=>obtain⟨t',rfl⟩:=ry;exact PySem.EqNone.ne_none_int (fin_bl I q (by simp))
  | str j=>obtain⟨t',rfl⟩:=ry;exact PySem.EqNone.ne_none_str (fin_bl I q (by simp))
  | _=>exact absurd (show false=true from hs) Bool.false_ne_true
 | bl i=>
  cases rx
  cases y with
  | non=>cases ry;exact PySem.EqNone.ne_bool_none (fin_bl I q (by simp))
  | bl j=>cases ry;exact ne_bool (fin_bl I q (congrArg not dec_bl))
  | str j=>obtain⟨t',rfl⟩:=ry;exact PySem.EqMixed.ne_bool_str (fin_bl I q (by simp))
  | _=>exact absurd (show false=true from hs) Bool.false_ne_true
 | int i=>
  obtain⟨t,rfl⟩:=rx
  cases y with
  | non=>cases ry;exact PySem.EqNone.ne_int_none (fin_bl I q (by simp))
  | int j=>obtain⟨t',rfl⟩:=ry;exact ne_int (fin_bl I q (congrArg not dec_int))
  | str j=>obtain⟨t',rfl⟩:=ry;exact PySem.EqMixed.ne_int_str (fin_bl I q (by simp))
  | _=>exact absurd (show false=true from hs) Bool.false_ne_true
 | str i=>
  obtain⟨t,rfl⟩:=rx
  cases y with
  | non=>cases ry;exact PySem.EqNone.ne_str_none (fin_bl I q (by simp))
  | bl j=>cases ry;exact PySem.EqMixed.ne_str_bool (fin_bl I q (by simp))
  | int j=>obtain⟨t',rfl⟩:=ry;exact PySem.EqMixed.ne_str_int (fin_bl I q (by simp))
  | str j=>obtain⟨t',rfl⟩:=ry;exact ne_str (fin_bl I q (congrArg not dec_str))
  | _=>exact absurd (show false=true from hs) Bool.false_ne_true
 | byt i=>
  obtain⟨t,rfl⟩:=rx
  cases y with
  | byt j=>obtain⟨t',rfl⟩:=ry;exact PySem.W.ne_bytes (fin_bl I q (congrArg not dec_byt))
  | _=>exact absurd (show false=true from hs) Bool.false_ne_true
 | _=>cases y <;> exact absurd (show false=true from hs) Bool.false_ne_true
theorem op_lt:OpR X (compareOp .Lt) (rI0 fun i j=>.bl (decide (i<j))):=opB0 fun _ _ _ _ _ _ _ q=>lt_int q
theorem op_gt:OpR X (compareOp .Gt) (rI0 fun i j=>.bl (decide (j<i))):=opB0 fun _ _ _ _ _ _ _ q=>gt_int q
theorem op_ge:OpR X (compareOp .GtE) (rI0 fun i j=>.bl (decide (j<=i))):=opB0 fun _ _ _ _ _ _ _ q=>ge_int q
theorem op_isN:OpR X (compareOp .Is) (fun x y H Q=>y = .non/\Q (.bl (decide (x = .non))) H):=by
 intro pins s σ H x y v u Q I rx ry h
 obtain⟨rfl,q⟩:=h
 cases ry
 refine is_none_gen (fin_bl I q ?_)
 cases x <;> first
  | (cases rx;rfl)
  | (obtain⟨t,rfl⟩:=rx;rfl)
theorem op_notN:OpR X (compareOp .IsNot) (fun x y H Q=>y = .non/\Q (.bl (!decide (x = .non))) H):=by
 intro pins s σ H x y v u Q I rx ry h
 obtain⟨rfl,q⟩:=h
 cases ry
 refine isnot_none_gen (fin_bl I q ?_)
 cases x <;> first
  | (cases rx;rfl)
  | (obtain⟨t,rfl⟩:=rx;rfl)
theorem nomark (b:Expr){op:CmpOp}(h:op ≠ .In:=by decide)(h2:op ≠ .NotIn:=by decide):behindInMarks op b=false:=by
 have e1:(op==CmpOp.In)=false:=by cases op <;> first | rfl | exact absurd rfl h
 have e2:(op==CmpOp.NotIn)=false:=by cases op <;> first | rfl | exact absurd rfl h2
 cases b <;> simp[behindInMarks,e1,e2]
theorem pe_cmpR {op:CmpOp}{r:R2}(ho:OpR X (compareOp op) r)(ha:PE X a ta)(hb:PE X b tb)(hm:behindInMarks op b=false):PE X (.Compare a [op] [b] pos) (tOp r ta tb):=by
 intro pins s σ H Q I h
 exact wpAny_Compare1 (binT ha hb I h fun v u s2 x y H2 I2 rx ry q=>ho pins s2 σ H2 x y v u Q I2 rx ry q) hm
def tTest (t:TE):TT:=fun σ H Q=>t σ H fun x H'=>∃k,x = .bl k/\Q k H'
theorem pt_cmpR {op:CmpOp}{r:R2}(ho:OpR X (compareOp op) r)(ha:PE X a ta)(hb:PE X b tb)(hm:behindInMarks op b=false):PT X (.Compare a [op] [b] pos) (tTest (tOp r ta tb)):=by
 intro pins s σ H Q I h
 refine wpAny_isTrue_Compare1 (thn (ha pins s σ H _ I h) fun v s1 ⟨x,H1,I1,r1,q1⟩=>thn (hb pins s1 σ H1 _ I1 q1) fun u s2 ⟨y,H2,I2,r2,q2⟩=>
  thn (ho pins s2 σ H2 x y v u _ I2 r1 r2 q2) fun c s3 ⟨z,H3,I3,r3,k,e,q3⟩=>?_) hm
 subst e
 cases r3
 exact wpAny_truthy_bool ⟨H3,I3,q3⟩
def TruV (K:PySem.W.Frag)(x:V)(H:Hp)(k:Bool):Prop:=
 match x with
 | .non=>k=false
 | .bl b=>k=b
 | .int i=>k=(i != 0)
 | .str y=>y.length<=sizeLine/\k=((y.length:Int) != 0)
 | .byt y=>y.size<=sizeLine/\k=((y.size:Int) != 0)
 | .ref p=>(∃xs,SqL K H p xs/\k = !xs.isEmpty)\/(∃xs,SqT K H p xs/\k = !xs.isEmpty)\/∃kvs,H p=some (.dK kvs)/\k = !kvs.isEmpty
 | _=>False
theorem isEmpty_kv {κ:Type}{kvs:List (κ×V)}{vs:List (κ×Value)}(r:KV kvs vs):(!vs.isEmpty) = !kvs.isEmpty:=by
 cases r <;> rfl
theorem isEmpty_of {xs:List V}{its:List Value}(r:Vals xs its):(!its.toArray.isEmpty) = !xs.isEmpty:=by
 cases r <;> simp
theorem line63:(sizeLine:Nat)<2 ^ 63:=by rw[sizeLine_eq];decide
theorem tru_ok:TruR X (fun x H Q=>∃k,TruV X.K x H k/\Q k H):=by
 intro pins s σ H x v Q I rx h
 obtain⟨k,e,q⟩:=h
 have hl:=line63
 have hs:sizeLine=16777216:=sizeLine_eq
 cases x with
 | non=>
  cases rx
  have e':k=false:=e
  subst e'
  exact truthy_none ⟨H,I,q⟩
 | bl b=>
  cases rx
  have e':k=b:=e
  subst e'
  exact wpAny_truthy_bool ⟨H,I,q⟩
 | int i=>
  obtain⟨t,rfl⟩:=rx
  have e':k=(i != 0):=e
  subst e'
  exact PySem.P.truthy_int ⟨H,I,q⟩
 | str y=>
  obtain⟨t,rfl⟩:=rx
  obtain⟨hy,e'⟩:y.length<=sizeLine/\k=((y.length:Int) != 0):=e
  subst e'
  exact PySem.P.truthy_str (by omega) ⟨H,I.tok _,q⟩
 | byt y=>
  obtain⟨t,rfl⟩:=rx
  obtain⟨hy,e'⟩:y.size<=sizeLine/\k=((y.size:Int) != 0):=e
  subst e'
  exact PySem.W.truthy_bytes (by omega) ⟨H,I.tok _,q⟩
 | ref p=>
  cases rx
  have e':(∃xs,SqL X.K H p xs/\k = !xs.isEmpty)\/(∃xs,SqT X.K H p xs/\k = !xs.isEmpty)\/∃kvs,H p=some (.dK kvs)/\k = !kvs.isEmpty:=e
  rcases e' with ⟨xs,hx,e'⟩ | ⟨xs,hx,e'⟩ | ⟨kvs,hx,e'⟩
  . subst e'
    obtain⟨its,r,pl,hz⟩:=I.list hx
    have hlen:=r.length
    exact wpAny_truthy_list pl.isList (by simp only[List.size_toArray];omega) ⟨H,I.tok _,by rw[isEmpty_of r];exact q⟩
  . subst e'
    obtain⟨its,r,pl,hz⟩:=I.tuple hx
    have hlen:=r.length
    exact truthy_tuple pl (by simp only[List.size_toArray];omega) ⟨H,I.tok _,by rw[isEmpty_of r];exact q⟩
  . subst e'
    obtain⟨hz,hS,vs,r,m⟩:kvs.length<=sizeLine/\(p==sysModules)=false/\∃vs,KV kvs vs/\s.heap.DictOf (mixKind X.prog X.w) p vs:=I.hok p _ hx
    have hlen:kvs.length=vs.length:=Paired.length r
    exact wpAny_truthy_dict hS m (by omega) ⟨H,I.tok _,by rw[isEmpty_kv r];exact q⟩
 | _=>exact (show False from e).elim
theorem pt_truth (ha:PE X a ta)(he:∀whole,isTrue a X.env whole=(do let v <-whole;standAt a.pos;holding [v] (truthy v))) :
 PT X a (fun σ H Q=>ta σ H fun x H'=>∃k,TruV X.K x H' k/\Q k H'):=by
 intro pins s σ H Q I h
 exact isTrue_plain (thn (ha pins s σ H _ I h) fun v s1 ⟨x,H1,I1,r1,q1⟩=>tru_ok pins s1 σ H1 x v Q I1 r1 q1) (he _)
theorem vals1 {x:V}{us:List Value}(r:Vals [x] us):∃u,us=[u]/\RelV x u:=by
 cases r with
 | cons r1 r2=>cases r2;exact⟨_,rfl,r1⟩
theorem vals2 {x y:V}{us:List Value}(r:Vals [x,y] us):∃u w',us=[u,w']/\RelV x u/\RelV y w':=by
 cases r with
 | cons r1 r2=>
  cases r2 with
  | cons r3 r4=>cases r4;exact⟨_,_,rfl,r1,r3⟩
theorem call_min2 (hc:X.calm=true):CallR X (.builtin "min") (fun xs H Q=>∃i j,xs=[.int i,.int j]/\Q (.int (if j<i then j else i)) H):=by
 intro pins s σ H xs us Q I r h
 obtain⟨i,j,rfl,q⟩:=h
 obtain⟨u,w',rfl,⟨t,rfl⟩,⟨t',rfl⟩⟩:=vals2 r
 refine min_two_ints (I.ok.hd hc) fun h' tk k=>⟨_,H,I.kept k,?_,q⟩
 by_cases hj:j<i
 . rw[if_pos hj,if_pos hj];exact⟨_,rfl⟩
 . rw[if_neg hj,if_neg hj];exact⟨_,rfl⟩
end
end L2
namespace L2
open PySem PySem.Spec PyProof.Rows
structure ObjM (h:Heap)(x dx C:Addr)(mA:Str->Option Value):Prop where
 obj:h.get? x=some (PySem.W.instObj C dx)
 ns:h.Ns1 dx mA
 ne:dx≠x
theorem lookIn_ns {h:Heap}{dx:Addr}{mA:Str->Option Value}(n:h.Ns1 dx mA):∃od,h.get? dx=some od/\∀name,PySem.W.lookIn name od=some (mA name):=by
 obtain⟨o,es,ep,ho,hd,hk,_,hm⟩:=n
 refine⟨o,ho,fun name=>?_⟩
 have e:=hm name
 unfold nsFind findBy at e
 rw[<-Array.find?_toList] at e
 unfold PySem.W.lookIn
 rw[hd]
 dsimp only
 split
 . rename_i y q
   rw[q] at e
   exact congrArg some e
 . rename_i q
   rw[q] at e
   have a:es.toList.any (·.refKey)=false:=by
    rw[List.any_eq_false]
    intro y hy
    obtain⟨z,t,hkey⟩:=hk y (Array.mem_toList_iff.mp hy)
    simp[DictEntry.refKey,hkey]
   have a':¬ es.toList.any (·.refKey)=true:=by rw[a];exact Bool.false_ne_true
   rw[if_neg a']
   exact congrArg some e
theorem ObjM.look {h:Heap}{x dx C:Addr}{mA:Str->Option Value}(I:ObjM h x dx C mA):∃od,PySem.W.InstAt h x (PySem.W.instObj C dx) C (some od)/\∀name,PySem.W.lookIn name od=some (mA name):=
 let ⟨od,ho,hl⟩:=lookIn_ns I.ns
 ⟨od,⟨I.obj,rfl,rfl,ho⟩,hl⟩
section
variable {prog:Program}{w:World}{A:Around}{E:Value->Shared->Prop}{s:Shared}{K:PySem.W.Frag}{x dx C f:Addr}{mA:Str->Option Value}{name:Str}{v:Value}
end
theorem RelO.some_of {v:V}{o:Option Value}(r:RelO (some v) o):∃u,o=some u/\RelV v u:=by
 cases o with
 | none=>exact (show False from r).elim
 | some u=>exact⟨u,rfl,r⟩
section
variable {P:Program}{w:World}{H H':Hp}{h h':Heap}{a C dx:Addr}{fs fs':List (Str×V)}
theorem ins_get (hok:HOk P w H h)(e:H a=some (.ins C dx fs)):∃mA,ObjM h a dx C mA/\(∀f,RelO (fs.lookup f) (mA f))/\PySem.Within mA (fs.map (·.1))/\fs.length<=1000/\H dx=some (.own a):=by
 obtain⟨d,z,ne,ob,mA,n,r,q⟩:=(show ObjOk P w H h a (.ins C dx fs) from hok a _ e)
 exact⟨mA,⟨ob,n,ne⟩,r,q,z,d⟩
end
structure Cls (K:PySem.W.Frag)(C:Addr):Prop where
 pg:PySem.W.plainGet K C Str.empty=true
 hd:PySem.W.hasDictIn K C=true
 po:PySem.W.plainOver K C=true
 sa:PySem.W.findIn K (.ref C) "__setattr__" = some (some (.builtin "object.__setattr__"))
theorem Cls.get {K:PySem.W.Frag}{C:Addr}(c:Cls K C)(f:Str):PySem.W.plainGet K C f=true:=c.pg
section
variable {X:Cx}{pins:List (Addr×Obj)}{σ:St}{H:Hp}{s:Shared}{a C dx:Addr}{fs:List (Str×V)}{f:Str}{v:V}{A:Around}{E:Value->Shared->Prop}
end
section
variable {X:Cx}{o e value:Expr}{f:Str}{pos pos' tpos:Pos}{ta tv:TE}
end
section
variable {X:Cx}{pins:List (Addr×Obj)}{σ:St}{H:Hp}{s:Shared}{A:Around}{E:Value->Shared->Prop}{Q:Value->Shared->Prop}{c:Value}{b:Bool}
inductive TyOf (K:PySem.W.Frag)(H:Hp):V->Value->Prop where
 | non:TyOf K H .non (.type "NoneType")
 | bl (x:Bool):TyOf K H (.bl x) (.type "bool")
 | int (i:Int):TyOf K H (.int i) (.type "int")
 | str (x:Str):TyOf K H (.str x) (.type "str")
 | flt (x:UInt64):TyOf K H (.flt x) (.type "float")
 | lst {a:Addr}{xs:List V}(e:H a=some (.lst xs)):TyOf K H (.ref a) (.type "list")
 | frz {a:Addr}{o:Obj}{xs:List V}(e:H a=some (.frz o (.lst xs))):TyOf K H (.ref a) (.type "list")
 | tup {a:Addr}{xs:List V}(e:H a=some (.tup xs)):TyOf K H (.ref a) (.type "tuple")
 | dK {a:Addr}{kvs:List (Key×V)}(e:H a=some (.dK kvs)):TyOf K H (.ref a) (.type "dict")
 | dT {a:Addr}{kvs:List (List Key×V)}(e:H a=some (.dT kvs)):TyOf K H (.ref a) (.type "dict")
 | ins {a C dx:Addr}{fs:List (Str×V)}(e:H a=some (.ins C dx fs))(cl:Cls K C)(ha:PySem.W.findIn K (.ref C) "__class__" = some (some (.builtin "object.__class__")))
  (hn:PySem.W.specialIn K (.builtin "object.__class__") "__get__" = some (some (.builtin "getset_descriptor.__get__"))) (htk:PySem.W.takesIn K (.builtin "object.__class__")=some true)
  (hm:PySem.W.mroIn K C (.type "object")=some true):TyOf K H (.ref a) (.ref C)
theorem isinst_ok {x:V}{u t:Value}(I:Inv X pins σ H s)(rx:RelV x u)(ty:TyOf X.K H x t)(e:PySem.W.kitOne X.K t c=some b)(h:∀tk,Q (.bool b) { s with toks:=tk }) :
 wpAny (model X.prog X.w) A (call (.builtin "isinstance") [u,c]) Q E s:=by
 cases ty with
 | non=>cases (show u=Value.none from rx);exact PySem.W.kia_one PySem.W.kitx_none I.kIn True.intro e (fun z=>nomatch z) h
 | bl y=>cases (show u=Value.bool y from rx);exact PySem.W.kia_one PySem.W.kitx_bool I.kIn True.intro e (fun z=>nomatch z) h
 | int i=>obtain⟨t,q⟩:=(show ∃t,u=Value.int i t from rx);cases q;exact PySem.W.kia_one PySem.W.kitx_int I.kIn True.intro e (fun z=>nomatch z) h
 | str y=>obtain⟨t,q⟩:=(show ∃t,u=Value.str y t from rx);cases q;exact PySem.W.kia_one PySem.W.kitx_str I.kIn True.intro e (fun z=>nomatch z) h
 | flt y=>obtain⟨t,q⟩:=(show ∃t,u=Value.float y t from rx);cases q;exact PySem.W.kia_one PySem.W.kitx_float I.kIn True.intro e (fun z=>nomatch z) h
 | @lst a xs ea=>
  cases (show u=Value.ref a from rx)
  obtain⟨_,_,n,_,h1⟩:=(show ObjOk X.prog X.w H s.heap a (.lst xs) from I.hok a _ ea)
  exact PySem.W.kia_one PySem.W.kitx_list I.kIn ⟨_,h1,rfl⟩ e (fun z=>nomatch z) h
 | @frz a ob xs ea=>
  cases (show u=Value.ref a from rx)
  obtain⟨_,_,_,n,_,h1⟩:=(show ObjOk X.prog X.w H s.heap a (.frz ob (.lst xs)) from I.hok a _ ea)
  exact PySem.W.kia_one PySem.W.kitx_list I.kIn ⟨_,h1,rfl⟩ e (fun z=>nomatch z) h
 | @tup a xs ea=>
  cases (show u=Value.ref a from rx)
  obtain⟨_,_,_,p⟩:=(show ObjOk X.prog X.w H s.heap a (.tup xs) from I.hok a _ ea)
  obtain⟨o,h1,h2,_⟩:=p
  exact PySem.W.kia_one PySem.W.kitx_tuple I.kIn ⟨o,h1,h2⟩ e (fun z=>nomatch z) h
 | @dK a kvs ea=>
  cases (show u=Value.ref a from rx)
  obtain⟨_,_,vs,_,p⟩:=(show ObjOk X.prog X.w H s.heap a (.dK kvs) from I.hok a _ ea)
  obtain⟨o,es,ep,h1,h2,_⟩:=p
  exact PySem.W.kia_one PySem.W.kitx_dict I.kIn ⟨o,h1,h2.1⟩ e (fun z=>nomatch z) h
 | @dT a kvs ea=>
  cases (show u=Value.ref a from rx)
  obtain⟨_,_,xs,_,o,es,ep,h1,h2,_⟩:=(show ObjOk X.prog X.w H s.heap a (.dT kvs) from I.hok a _ ea)
  exact PySem.W.kia_one PySem.W.kitx_dict I.kIn ⟨o,h1,h2.1⟩ e (fun z=>nomatch z) h
 | @ins a C dx fs ea cl ha hn htk hm=>
  cases (show u=Value.ref a from rx)
  obtain⟨mA,O,_⟩:=ins_get I.hok ea
  obtain⟨od,J,_⟩:=O.look
  exact PySem.W.kia_one (PySem.W.kitx_own (cl.get _) cl.hd ha hn htk hm) I.kIn J e (fun z=>nomatch z) h
end
end L2
namespace L2
open PySem PySem.Spec PyProof.Rows
structure Room (k:Nat)(A:Around):Prop where
 hd:A.handled=none
 dp:A.depth+3*k+5<recursionLimit
 un:A.units+16*k+200<cLine
 gd:A.guards=some []
theorem Room.mono {j k:Nat}{A:Around}(r:Room k A)(h:j<=k):Room j A:=⟨r.hd,by have:=r.dp;omega,by have:=r.un;omega,r.gd⟩
theorem Room.deeper {k:Nat}{A:Around}(r:Room (k+1) A)(env:Env):Room k (A.deeper env):=
 ⟨r.hd,by have:=r.dp;show A.depth+1+3*k+5<_;omega,by have:=r.un;show A.units+3+16*k+200<_;omega,r.gd⟩
theorem Room.in1 {k:Nat}{A:Around}(r:Room (k+1) A):Room k A.in1:=
 ⟨r.hd,by have:=r.dp;show A.depth+3*k+5<_;omega,by have:=r.un;show A.units+1+16*k+200<_;omega,r.gd⟩
theorem Room.depth {k:Nat}{A:Around}(r:Room k A):A.depth<recursionLimit:=by have:=r.dp;omega
theorem Room.units {k:Nat}{A:Around}(r:Room k A):A.units+64<cLine:=by have:=r.un;omega
theorem Room.units0 {k:Nat}{A:Around}(r:Room k A):A.units<cLine:=by have:=r.un;omega
def tNil:TA:=fun _ H Q=>Q [] H
def tCons (ta:TE)(tr:TA):TA:=fun σ H Q=>ta σ H fun x H1=>tr σ H1 fun xs H2=>Q (x::xs) H2
section
variable {X:Cx}{e:Expr}{es:List Expr}{te:TE}{t:TA}{pos:Pos}
theorem pa_nil:PA X [] tNil:=fun _ _ _ _ H Q I h=>Calls.spliced_nil ⟨[],H,I,.nil,h⟩
theorem pa_cons (ha:PE X e te)(hr:PA X es t)(hs:starEach (e::es) X.env=(false,eval e X.env)::starEach es X.env:=by rfl):PA X (e::es) (tCons te t):=by
 intro pos pins s σ H Q I h
 rw[hs]
 show wpAny _ _ (spliced ((false,eval e X.env)::backTo pos (starEach es X.env))) _ _ s
 refine Calls.spliced_cons (thn (ha pins s σ H _ I h) fun u s1 ⟨x,H1,I1,r1,q1⟩=>?_)
 exact thn (hr pos pins s1 σ H1 _ I1 q1) fun us s2 ⟨xs,H2,I2,r2,q2⟩=>⟨x::xs,H2,I2,.cons r1 r2,q2⟩
def tTup (t:TA):TE:=fun σ H Q=>t σ H fun xs H1=>xs.length<=sizeLine/\∀p,H1 p=none->Q (.ref p) (upd H1 p (.tup xs))
def tLst (t:TA):TE:=fun σ H Q=>t σ H fun xs H1=>xs.length<=sizeLine/\∀p,H1 p=none->Q (.ref p) (upd H1 p (.lst xs))
theorem pe_tup {x1} (h:PA X es t):PE X (.Tuple es x1 pos) (tTup t):=by
 intro pins s σ H Q I hq
 refine wpAny_Tuple_spliced (thn (h pos pins s σ H _ I hq) fun us s1 ⟨xs,H1,I1,r,z,q⟩=>⟨by rw[<-r.length];exact z,?_⟩)
 have hf:H1 s1.heap.objs.size=none:=I1.hok.fresh (Nat.le_refl _)
 refine⟨.ref s1.heap.objs.size,upd H1 s1.heap.objs.size (.tup xs),I1.laid (t':=s1.toks) (fun b u e=>Heap.get?_push_of_some _ e) (Nat.le_refl _) ?_,rfl,q _ hf⟩
 exact⟨⟨z,_,Heap.get?_push_size _ rfl,rfl⟩,us,r,⟨_,Heap.get?_push_size _ rfl,rfl,_,rfl⟩⟩
theorem pe_lst (h:PA X es t):PE X (.List es pos) (tLst t):=by
 intro pins s σ H Q I hq
 refine wpAny_List_spliced (thn (h pos pins s σ H _ I hq) fun us s1 ⟨xs,H1,I1,r,z,q⟩=>⟨by rw[<-r.length];exact z,?_⟩)
 have hf:H1 s1.heap.objs.size=none:=I1.hok.fresh (Nat.le_refl _)
 refine⟨.ref s1.heap.objs.size,upd H1 s1.heap.objs.size (.lst xs),I1.laid (t':=s1.toks) (fun b u e=>Heap.get?_push_of_some _ e) (Nat.le_refl _) ?_,rfl,q _ hf⟩
 exact⟨z,us,0,r,Heap.get?_push_size _ rfl⟩
end
abbrev Sp:=List V->Hp->VK->XK->Prop
abbrev CXT:=List Env->Hp->Shared->XK->Value->Shared->Prop
structure Env0 (P:Program)(w:World)(K:PySem.W.Frag)(mg:Str->Option Value)(base:Heap)(A:Around)(outer:List Env)(s:Shared)(H:Hp):Prop where
 frames:A.frames=some outer
 mod:Mod K mg base
 bs:∀b o,base.get? b=some o->s.heap.get? b=some o/\H b=none
 bsz:base.objs.size<=s.heap.objs.size
 funs:s.heap.FunFrames base outer
 frf:∀b∈frs outer,H b=none
 hok:HOk P w H s.heap
 bare:AllBare s.gens
def CE (outer:List Env)(P:Program)(w:World)(H:Hp)(s:Shared)(Q:VK)(u:Value)(s':Shared):Prop:=
 ∃v H',s'.os=s.os/\AllBare s'.gens/\Un (frs outer) [] H H' s.heap s'.heap/\HOk P w H' s'.heap/\RelV v u/\Q v H'
def CR (CX:CXT)(outer:List Env)(P:Program)(w:World)(H:Hp)(s:Shared)(Q:VK)(E:XK)(r:Result)(s':Shared):Prop:=
 match r with
 | .ok (.ret u)=>CE outer P w H s Q u s'
 | .ok _=>False
 | .error e=>CX outer H s E e s'
structure FnOk (P:Program)(w:World)(K:PySem.W.Frag)(mg:Str->Option Value)(base:Heap)(CX:CXT)(k:Nat)(f:Addr)(fd:FuncData)(ps:List Str)(sp:Sp):Prop where
 len:∀vs H Q E,sp vs H Q E->vs.length=ps.length
 run:∀(A:Around)(outer:List Env)(s:Shared)(H:Hp)(args:Args)(us:List Value)(vs:List V)(Q:VK)(E:XK),Room k A->Env0 P w K mg base A outer s H->BindsTo s fd args (ps.zip us)->Vals vs us->sp vs H Q E ->
  codeAny (model P w) A (.call (.ref f) args) (CR CX outer P w H s Q E) s
theorem FnOk.mono {P:Program}{w:World}{K:PySem.W.Frag}{mg:Str->Option Value}{base:Heap}{CX:CXT}{j k:Nat}{f:Addr}{fd:FuncData}{ps:List Str}{sp:Sp}(F:FnOk P w K mg base CX j f fd ps sp)(h:j<=k) :
 FnOk P w K mg base CX k f fd ps sp:=⟨F.len,fun A outer s H args us vs Q E hr=>F.run A outer s H args us vs Q E (hr.mono h)⟩
theorem FnOk.imp {P:Program}{w:World}{K:PySem.W.Frag}{mg:Str->Option Value}{base:Heap}{CX:CXT}{k:Nat}{f:Addr}{fd:FuncData}{ps:List Str}{sp sp':Sp}(F:FnOk P w K mg base CX k f fd ps sp)
 (h:∀vs H Q E,sp' vs H Q E->sp vs H Q E):FnOk P w K mg base CX k f fd ps sp':=
 ⟨fun vs H Q E q=>F.len vs H Q E (h _ _ _ _ q),fun A outer s H args us vs Q E hr he hb hv hs=>F.run A outer s H args us vs Q E hr he hb hv (h _ _ _ _ hs)⟩
section
variable {X:Cx}{pins:List (Addr×Obj)}{σ:St}{H:Hp}{s s':Shared}
theorem Inv.env0 (I:Inv X pins σ H s):Env0 X.prog X.w X.K X.mg X.base X.A X.stack s H:=
 ⟨I.ok.frames,I.ok.mod,I.bs,Nat.le_trans I.ok.bsz I.sz,I.stack,I.stkFree,I.hok,I.bare⟩
theorem Inv.after {Q:VK}{u:Value}(I:Inv X pins σ H s)(h:CE X.stack X.prog X.w H s Q u s'):EP X pins σ Q u s':=by
 obtain⟨v,H',os,bare,un,hok,r,q⟩:=h
 obtain⟨hh,g,d,t,os'⟩:=s'
 obtain rfl:os'=s.os:=os
 exact⟨v,H',I.call (h':=hh) (g':=g) (d':=d) (t':=t) (ch:=[]) un hok bare (fun b z=>absurd z (by simp)),r,q⟩
end
def tCall (sp:Sp)(dvs:List V)(E:XK)(t:TA):TE:=fun σ H Q=>t σ H fun vs H1=>sp (vs++dvs) H1 Q E
def Binds (K:PySem.W.Frag)(fd:FuncData)(ps:List Str)(ds:List Value):Prop:=
 ∀(s:Shared)(us:List Value),K.In s.heap->(us++ds).length=ps.length->BindsTo s fd ⟨us,[]⟩ (ps.zip (us++ds))
theorem Binds.all {K:PySem.W.Frag}{fd:FuncData}{ps:List Str}(h:∀us:List Value,us.length=ps.length->bindArgs fd ⟨us,[]⟩=pure (ps.zip us)):Binds K fd ps []:=fun s us _ hl=>by
 rw[List.append_nil] at hl ⊢
 exact .of_eq (h us hl)
def Passes (CX:CXT)(X:Cx)(E:XK):Prop:=∀(pins:List (Addr×Obj))(σ:St)(H:Hp)(s:Shared)(e:Value)(s':Shared),Inv X pins σ H s->CX X.stack H s E e s'->X.xe e s'
section
variable {X:Cx}{CX:CXT}{k:Nat}{f C:Addr}{fd:FuncData}{ps:List Str}{sp:Sp}{dvs:List V}{ds:List Value}{E:XK}{x m:Str}{p pos apos:Pos}{e o:Expr}{es:List Expr}{ta:TE}{t:TA}
theorem run_fn {pins:List (Addr×Obj)}{σ:St}{H:Hp}{s:Shared}{Q:VK}{us:List Value}{vs:List V}(F:FnOk X.prog X.w X.K X.mg X.base CX k f fd ps sp)(hr:Room k X.A)(hb:Binds X.K fd ps ds)(hd:Vals dvs ds)(hx:Passes CX X E)
 (I:Inv X pins σ H s)(r:Vals vs us)(h:sp (vs++dvs) H Q E):wpAny (model X.prog X.w) X.A (call (.ref f) us) (EP X pins σ Q) X.xe s:=by
 have r2:Vals (vs++dvs) (us++ds):=r.append hd
 have hl:(us++ds).length=ps.length:=by rw[<-r2.length];exact F.len _ _ _ _ h
 refine wpAny_call (codeAny_mono (F.run X.A X.stack s H ⟨us,[]⟩ (us++ds) (vs++dvs) Q E hr I.env0 (hb s us I.kIn hl) r2 h) fun r s' hq=>?_)
 cases r with
 | error e=>exact hx pins σ H s e s' I hq
 | ok fl=>
  cases fl with
  | ret u=>exact I.after hq
  | next=>exact False.elim hq
  | brk=>exact False.elim hq
  | cont=>exact False.elim hq
theorem pe_call (F:FnOk X.prog X.w X.K X.mg X.base CX k f fd ps sp)(hr:Room k X.A)(hg:Gl X x)(hm:X.mg x=some (.ref f))(hk:PySem.W.keepIn X.K (.ref f)=true)(hb:Binds X.K fd ps ds)(hd:Vals dvs ds)(hx:Passes CX X E)
 (ha:PA X (e::es) t)(hdb:(x==("__debug__" : Str))=false:=by decide) (he:starEach (e::es) X.env=(false,eval e X.env)::starEach es X.env:=by rfl)(hpl:(backTo pos (starEach es X.env)).any (·.1)=false:=by rfl) :
 PE X (.Call (.Name x p) (e::es) [] pos) (tCall sp dvs E t):=by
 intro pins s σ H Q I h
 refine wpAny_Call_Name_kw (ld_glob I hg hm ?_ hdb)
 refine PySem.W.callWith_K (h₀:=X.base) I.ok.mod.kin hk (thn (ha pos pins s σ H _ I h) fun us s1 ⟨vs,H1,I1,r,q⟩=>⟨I1.kIn,?_⟩) he hpl
 exact run_fn F hr hb hd hx I1 r q
end
section
variable {X:Cx}{CX:CXT}{k:Nat}{f C:Addr}{fd:FuncData}{ps ks:List Str}{sp:Sp}{E:XK}{x m:Str}{p pos apos kpos:Pos}{e o:Expr}{es:List Expr}{kws:List Keyword}{te ta:TE}{t tk:TA}{nm:Option Str}
variable {g:List Value->List Value->List Value}{gV:List V->List V->List V}
end
structure FnScope (N P:List Str)(sc:Scope):Prop where
 kind:sc.kind = .function
 co:sc.isCoroutine=false
 gen:sc.isGenerator=false
 nd:N.Nodup
 pre:N.take P.length=P
 par:∀x∈P,sc.names.lookup x=some .local\/sc.names.lookup x=some .cell
 nofree:∀y∈sc.names,y.2 ≠ .free
theorem bindL_out {kindOf:Str->Option NameKind}{x:Str}:∀{binds:List (Str×Value)}{m:Str->Option Value},(∀v,(x,v)∉binds)->bindL kindOf binds m x=m x
 | [],_,_=>rfl
 | (n,v)::r,m,h=>by
  unfold bindL
  rw[bindL_out fun w hw=>h w (List.mem_cons_of_mem _ hw)]
  split
  . have:x≠n:=by rintro rfl;exact h v List.mem_cons_self
    simp[this]
  . rfl
theorem bindC_out {kindOf:Str->Option NameKind}{x:Str}:∀{binds:List (Str×Value)}{m:Str->Option Value},(∀v,(x,v)∉binds)->bindC kindOf binds m x=m x
 | [],_,_=>rfl
 | (n,v)::r,m,h=>by
  unfold bindC
  rw[bindC_out fun w hw=>h w (List.mem_cons_of_mem _ hw)]
  split
  . rfl
  . have:x≠n:=by rintro rfl;exact h v List.mem_cons_self
    simp[this]
theorem bindL_get {kindOf:Str->Option NameKind}{x:Str}{v:Value}:∀{P:List Str}{vs:List Value}{i:Nat}{m:Str->Option Value},P.Nodup->P[i]? = some x->vs[i]? = some v->kindOf x=some .local ->
 bindL kindOf (P.zip vs) m x=some v
 | [],_,_,_,_,h,_,_=>by simp at h
 | _::_,[],_,_,_,_,h,_=>by simp at h
 | p::P,w::vs,0,m,nd,h1,h2,hk=>by
  simp at h1 h2;subst h1;subst h2
  show bindL kindOf ((p,w)::P.zip vs) m p=_
  unfold bindL
  rw[bindL_out fun v hv=>(List.nodup_cons.mp nd).1 (List.of_mem_zip hv).1,if_pos hk]
  simp
 | p::P,w::vs,i+1,m,nd,h1,h2,hk=>by
  show bindL kindOf ((p,w)::P.zip vs) m x=_
  unfold bindL
  exact bindL_get (i:=i) (List.nodup_cons.mp nd).2 (by simpa using h1) (by simpa using h2) hk
theorem bindC_get {kindOf:Str->Option NameKind}{x:Str}{v:Value}:∀{P:List Str}{vs:List Value}{i:Nat}{m:Str->Option Value},P.Nodup->P[i]? = some x->vs[i]? = some v->kindOf x≠some .local ->
 bindC kindOf (P.zip vs) m x=some v
 | [],_,_,_,_,h,_,_=>by simp at h
 | _::_,[],_,_,_,_,h,_=>by simp at h
 | p::P,w::vs,0,m,nd,h1,h2,hk=>by
  simp at h1 h2;subst h1;subst h2
  show bindC kindOf ((p,w)::P.zip vs) m p=_
  unfold bindC
  rw[bindC_out fun v hv=>(List.nodup_cons.mp nd).1 (List.of_mem_zip hv).1,if_neg hk]
  simp
 | p::P,w::vs,i+1,m,nd,h1,h2,hk=>by
  show bindC kindOf ((p,w)::P.zip vs) m x=_
  unfold bindC
  exact bindC_get (i:=i) (List.nodup_cons.mp nd).2 (by simpa using h1) (by simpa using h2) hk
def start (N:List Str)(vs:List V):St:=vs.map some++List.replicate (N.length-vs.length) none
def cxOf (CX:CXT)(P:Program)(w:World)(K:PySem.W.Frag)(mg:Str->Option Value)(base:Heap)(N:List Str)(qual:Str)(scope:Scope)(f:Addr)(cd:Value)(A:Around)(outer:List Env)(s:Shared)(H:Hp)(E:XK):Cx where
 prog:=P
 w:=w
 K:=K
 mg:=mg
 base:=base
 A:=A.deeper (envOfC qual scope s.heap.objs.size f cd)
 N:=N
 s₀:=s
 H₀:=H
 env:=envOfC qual scope s.heap.objs.size f cd
 outer:=outer
 stack:=envOfC qual scope s.heap.objs.size f cd::outer
 ex:=[]
 calm:=true
 fn:=fun _=>true
 pn:=[]
 xe:=fun e s'=>wpAny (model P w) (A.deeper (envOfC qual scope s.heap.objs.size f cd)) (leaving (envOfC qual scope s.heap.objs.size f cd) e) (fun _ s''=>CX outer H s E e s'') (fun e' s''=>CX outer H s E e' s'') s'
theorem cell_has {sc:Scope}{n:Nat}{x:Str}(h:sc.names.lookup x=some .cell):∃c,(cellsFrom n sc.names []).lookup x=some c:=by
 have q:=PySem.W.cellsFrom_some sc.names n [] (.inl h)
 exact Option.isSome_iff_exists.mp q
theorem inv_start {CX:CXT}{P:Program}{w:World}{K:PySem.W.Frag}{mg:Str->Option Value}{base:Heap}{N ps:List Str}{qual:Str}{scope:Scope}{f:Addr}{cd:Value}{A:Around}{outer:List Env}{s s1:Shared}{H:Hp}{E:XK}{us:List Value}{vs:List V}
 (S:FnScope N ps scope)(hd:A.handled=none)(e0:Env0 P w K mg base A outer s H)(hl:vs.length=ps.length)(r:Vals vs us)
 (x:InCallC s s.heap.objs.size (bindL (envOfC qual scope s.heap.objs.size f cd).kindOf (ps.zip us) fun _=>none) (cellsFrom (s.heap.objs.size+1) scope.names []) (bindC (envOfC qual scope s.heap.objs.size f cd).kindOf (ps.zip us) fun _=>none) s1) :
 Inv (cxOf CX P w K mg base N qual scope f cd A outer s H E) [] (start N vs) H s1:=by
 have hpl:ps.length<=N.length:=by have:=congrArg List.length S.pre;rw[List.length_take] at this;omega
 obtain⟨h1,tk,rfl,hk⟩:=x.done
 have noA:∀b:Addr,b∉(cxOf CX P w K mg base N qual scope f cd A outer s H E).ex:=fun b z=>absurd (show b∈([]:List Addr) from z) (by simp)
 refine⟨⟨e0.mod,S.kind,rfl,rfl,Nat.le_refl _,fun y z c h1 h2=>?_,fun y hy=>?_,fun y c _ h=>?_,fun _=>hd,Around.frames_deeper e0.frames,.inr ⟨rfl,rfl⟩,fun b z=>absurd z (noA b),e0.bs,e0.bsz,fun b _ _=>noA b,fun b z=>absurd z (noA b),e0.funs,e0.frf⟩,
  rfl,e0.bare,Un.kept hk,⟨_,x.toInCall.ns,fun i y v h1 h2 h3=>?_⟩,fun y c h=>⟨_,x.cell y c h⟩,e0.hok.fresh (Nat.le_refl _),fun y c h=>?_,fun p hp=>absurd (show p∈([]:List (Addr×Obj)) from hp) (by simp),e0.hok.kept hk,?_⟩
 . exact name_of_addr x.apart (PySem.mem_of_lookup h1) (PySem.mem_of_lookup h2)
 . have hy:scope.names.lookup y=some .cell\/scope.names.lookup y=some .free:=hy
   rcases hy with hy | hy
   . exact cell_has hy
   . exact absurd rfl (S.nofree _ (PySem.mem_of_lookup hy))
 . exact Nat.le_of_lt (x.above y c (PySem.mem_of_lookup h))
 . have hi:i<vs.length:=by
    unfold start at h2
    by_cases hi:i<vs.length
    . exact hi
    . rw[List.getElem?_append_right (by simpa using hi)] at h2
      rw[List.getElem?_replicate] at h2
      split at h2 <;> cases h2
   have ha:vs[i]? = some v:=by
    unfold start at h2
    rw[List.getElem?_append_left (by simpa using hi),List.getElem?_map] at h2
    cases e:vs[i]? with
    | none=>rw[e] at h2;cases h2
    | some a=>rw[e] at h2;cases h2;rfl
   obtain⟨u,hu,rv⟩:=r.get ha
   have hp:ps[i]? = some y:=by
    rw[<-S.pre,List.getElem?_take_of_lt (by omega)];exact h1
   have ndP:ps.Nodup:=by rw[<-S.pre];exact S.nd.sublist (List.take_sublist _ _)
   refine⟨u,rv,?_⟩
   rcases S.par y (List.mem_of_getElem? hp) with k | k
   . exact .inl ⟨k,bindL_get ndP hp hu k⟩
   . obtain⟨c,e⟩:=cell_has (n:=s.heap.objs.size+1) k
     refine .inr ⟨.inl k,c,e,?_⟩
     have q:=x.cell y c e
     rw[bindC_get ndP hp hu (by show scope.names.lookup y≠_;rw[k];decide)] at q
     exact q
 . exact e0.hok.fresh (Nat.le_of_lt (x.above y c (PySem.mem_of_lookup h)))
 . unfold start
   show _=N.length
   rw[List.length_append,List.length_map,List.length_replicate]
   omega
theorem fn_of {CX:CXT}{P:Program}{w:World}{K:PySem.W.Frag}{mg:Str->Option Value}{base:Heap}{k:Nat}{f:Addr}{name qual:Str}{params:Arguments}{body:List Stmt}{scope:Scope}{dV kV doc pm cdv ct oc:Value}{an od:Option Addr}
 {osl:Array (Option Value)}{N ps:List Str}{sp:Sp}(lk:K.lookup f=some ⟨oc,od,.func (PySem.W.fnOf name qual params body scope dV kV doc pm an cdv ct),osl⟩)(hcd:PySem.W.codeIn K cdv qual=true)(S:FnScope N ps scope)
 (len:∀vs H Q E,sp vs H Q E->vs.length=ps.length)
 (hbody:∀(A:Around)(outer:List Env)(s:Shared)(H:Hp)(vs:List V)(Q:VK)(E:XK),Room k (A.deeper (envOfC qual scope s.heap.objs.size f cdv))->sp vs H Q E ->
  ∃t,PSs (cxOf CX P w K mg base N qual scope f cdv A outer s H E) body t/\t { nx:=fun _ H'=>Q .non H',rt:=Q } (start N vs) H) :
 FnOk P w K mg base CX (k+1) f (PySem.W.fnOf name qual params body scope dV kV doc pm an cdv ct) ps sp:=by
 refine⟨len,fun A outer s H args us vs Q E hr e0 hb r hsp=>?_⟩
 have hl:=len _ _ _ _ hsp
 have KX:K.In s.heap:=e0.mod.kin.keeps fun b o e=>(e0.bs b o e).1
 have lim:s.heap.NoLimit:=e0.mod.nolimit.keeps fun b o e=>(e0.bs b o e).1
 have hkind:∀y∈ps.zip us,scope.names.lookup y.1=some .local\/(scope.names.lookup y.1=some .cell/\((cellsFrom (s.heap.objs.size+1) scope.names []).lookup y.1).isSome=true):=fun ⟨n,v⟩ hy=>by
  rcases S.par n (List.of_mem_zip hy).1 with q | q
  . exact .inl q
  . exact .inr ⟨q,PySem.W.cellsFrom_some _ _ _ (.inl q)⟩
 refine codeAny_call_function hr.depth (KX _ _ lk) rfl S.co S.gen rfl (PySem.W.codeRec_of KX hcd) (hb _ _ _ _ ?_)
 refine wpAny_newFunctionEnv_cells S.kind hkind fun env he s1 x=>?_
 subst he
 refine⟨lim.keeps x.toInCall.keep,codeAny_func ?_⟩
 obtain⟨t,ht,hq⟩:=hbody A outer s H vs Q E (hr.deeper _) hsp
 have I:Inv (cxOf CX P w K mg base N qual scope f cdv A outer s H E) [] (start N vs) H s1:=inv_start S hr.hd e0 hl r x
 refine wpAny_mono (ht [] s1 (start N vs) H _ I hq) (fun fl s' hs=>?_) fun e s' hs=>hs
 have fin:∀{σ':St}{H':Hp}{v:V}{u:Value},Inv (cxOf CX P w K mg base N qual scope f cdv A outer s H E) [] σ' H' s'->RelV v u->Q v H'->CE outer P w H s Q u s':=
  fun {σ' H' v u} J rv q=>⟨v,H',J.os,J.bare,J.base,J.hok,rv,q⟩
 cases fl with
 | ret u=>
  obtain⟨v,σ',H',J,rv,q⟩:=hs
  exact fin J rv q
 | next=>
  obtain⟨σ',H',J,q⟩:=hs
  exact fin (v:=V.non) (u:=Value.none) J rfl q
 | brk=>
  obtain⟨_,_,_,q⟩:=hs
  exact False.elim q
 | cont=>
  obtain⟨_,_,_,q⟩:=hs
  exact False.elim q
end L2
namespace L2
open PySem PySem.Spec PyProof.Rows
section
variable {X:Cx}{x:Str}{p pos:Pos}{e:Expr}{es:List Expr}{t:TA}{id T:String}{r:List V->Hp->VK->Prop}
def tCB (r:List V->Hp->VK->Prop)(t:TA):TE:=fun σ H Q=>t σ H fun vs H1=>r vs H1 Q
theorem pe_callB (hc:CallR X (.builtin id) r)(hg:Gl X x)(hm:X.mg x=none)(hv:bootBuiltins x=some (.builtin id))(ha:PA X (e::es) t)(hn:x ≠ "__name__" := by decide) (hdb:(x==("__debug__" : Str))=false:=by decide)
 (he:starEach (e::es) X.env=(false,eval e X.env)::starEach es X.env:=by rfl)(hpl:(backTo pos (starEach es X.env)).any (·.1)=false:=by rfl):PE X (.Call (.Name x p) (e::es) [] pos) (tCB r t):=by
 intro pins s σ H Q I h
 refine wpAny_Call_Name_kw (ld_blt I hg hm hv ?_ hn hdb)
 exact PyProof.Rows.callWith_builtin1 (thn (ha pos pins s σ H _ I h) fun us s1 ⟨vs,H1,I1,r1,q1⟩=>hc pins s1 σ H1 vs us Q I1 r1 q1) he hpl
theorem pe_callTy (hc:CallR X (.type T) r)(hg:Gl X x)(hm:X.mg x=none)(hv:bootBuiltins x=some (.type T))(ha:PA X (e::es) t)(hn:x ≠ "__name__" := by decide) (hdb:(x==("__debug__" : Str))=false:=by decide)
 (he:starEach (e::es) X.env=(false,eval e X.env)::starEach es X.env:=by rfl)(hpl:(backTo pos (starEach es X.env)).any (·.1)=false:=by rfl):PE X (.Call (.Name x p) (e::es) [] pos) (tCB r t):=by
 intro pins s σ H Q I h
 refine wpAny_Call_Name_kw (ld_blt I hg hm hv ?_ hn hdb)
 exact PyProof.Rows.callWith_type1 (thn (ha pos pins s σ H _ I h) fun us s1 ⟨vs,H1,I1,r1,q1⟩=>hc pins s1 σ H1 vs us Q I1 r1 q1) he hpl
end
end L2
namespace L2
open PySem PySem.Spec PyProof.Rows
section
variable {κ:Type} [DecidableEq κ]
def valV (kvs:List (κ×V))(k:κ):Option V:=(kvs.find? fun kv=>decide (kv.1=k)).map (·.2)
def putK (kvs:List (κ×V))(k:κ)(v:V):List (κ×V):=
 if (kvs.any fun kv=>decide (kv.1=k))=true then kvs.map (fun kv=>if kv.1=k then (kv.1,v) else kv) else kvs++[(k,v)]
def dropK (kvs:List (κ×V))(k:κ):List (κ×V):=kvs.filter fun kv=>decide (kv.1≠k)
theorem valV_nil {k:κ}:valV ([]:List (κ×V)) k=none:=rfl
theorem valV_pos {p:κ×V}{r:List (κ×V)}{k:κ}(e:p.1=k):valV (p::r) k=some p.2:=by simp[valV,List.find?_cons,e]
theorem valV_neg {p:κ×V}{r:List (κ×V)}{k:κ}(e:¬ p.1=k):valV (p::r) k=valV r k:=by simp[valV,List.find?_cons,e]
theorem valV_any (k:κ):∀kvs:List (κ×V),(kvs.any fun kv=>decide (kv.1=k))=(valV kvs k).isSome
 | []=>rfl
 | p::r=>by
  rw[List.any_cons]
  by_cases e:p.1=k
  . simp only[valV_pos e,decide_eq_true e,Bool.true_or,Option.isSome_some]
  . rw[valV_neg e,decide_eq_false e,Bool.false_or];exact valV_any k r
theorem valV_map (k j:κ)(y:V):∀kvs:List (κ×V),valV (kvs.map fun kv=>if kv.1=k then (kv.1,y) else kv) j=(valV kvs j).map fun x=>if j=k then y else x
 | []=>rfl
 | p::r=>by
  have ih:=valV_map k j y r
  rw[List.map_cons]
  by_cases h:p.1=k
  . rw[if_pos h]
    by_cases e:p.1=j
    . rw[valV_pos (p:=(p.1,y)) e,valV_pos e,Option.map_some,if_pos (e.symm.trans h)]
    . rw[valV_neg (p:=(p.1,y)) e,valV_neg e,ih]
  . rw[if_neg h]
    by_cases e:p.1=j
    . rw[valV_pos (p:=p) e,valV_pos e,Option.map_some,if_neg (fun z=>h (e.trans z))]
    . rw[valV_neg (p:=p) e,valV_neg e,ih]
theorem valV_snoc (k j:κ)(y:V):∀kvs:List (κ×V),valV kvs k=none->valV (kvs++[(k,y)]) j=if j=k then some y else valV kvs j
 | [],_=>by
  by_cases e:k=j
  . rw[if_pos e.symm];exact valV_pos (p:=(k,y)) e
  . rw[if_neg (fun z=>e z.symm)];exact valV_neg (p:=(k,y)) e
 | p::r,hn=>by
  rw[List.cons_append]
  have hk:¬ p.1=k:=fun z=>by rw[valV_pos z] at hn;cases hn
  rw[valV_neg hk] at hn
  have ih:=valV_snoc k j y r hn
  by_cases e:p.1=j
  . rw[valV_pos e,valV_pos e,if_neg (fun z=>hk (e.trans z))]
  . rw[valV_neg e,valV_neg e,ih]
theorem valV_put (kvs:List (κ×V))(k j:κ)(y:V):valV (putK kvs k y) j=if j=k then some y else valV kvs j:=by
 unfold putK
 by_cases a:(kvs.any fun kv=>decide (kv.1=k))=true
 . rw[if_pos a,valV_map]
   rw[valV_any] at a
   by_cases e:j=k
   . obtain⟨x,hx⟩:=Option.isSome_iff_exists.mp a
     rw[if_pos e,e,hx,Option.map_some,if_pos rfl]
   . rw[if_neg e]
     cases valV kvs j with
     | none=>rfl
     | some x=>rw[Option.map_some,if_neg e]
 . rw[if_neg a]
   refine valV_snoc k j y kvs ?_
   rw[valV_any] at a
   cases q:valV kvs k with
   | none=>rfl
   | some x=>rw[q] at a;exact (a rfl).elim
theorem length_putK (kvs:List (κ×V))(k:κ)(v:V):(putK kvs k v).length<=kvs.length+1:=by
 unfold putK
 split
 . rw[List.length_map];omega
 . rw[List.length_append,List.length_cons,List.length_nil];omega
theorem putK_new {kvs:List (κ×V)}{k:κ}(v:V)(h:valV kvs k=none):putK kvs k v=kvs++[(k,v)]:=by
 unfold putK
 rw[valV_any,h]
 exact if_neg (by decide)
theorem RelO.isSome_eq {o:Option V}{u:Option Value}(r:RelO o u):o.isSome=u.isSome:=by
 cases o with
 | none=>cases u with
  | none=>rfl
  | some _=>exact (show False from r).elim
 | some _=>cases u with
  | none=>exact (show False from r).elim
  | some _=>rfl
theorem RelO.getD {o:Option V}{u:Option Value}{d:V}{d':Value}(r:RelO o u)(rd:RelV d d'):RelV (o.getD d) (u.getD d'):=by
 cases o with
 | none=>cases u with
  | none=>exact rd
  | some _=>exact (show False from r).elim
 | some _=>cases u with
  | none=>exact (show False from r).elim
  | some _=>exact r
theorem KV.val {kvs:List (κ×V)}{vs:List (κ×Value)}(r:KV kvs vs)(k:κ):RelO (valV kvs k) (valueAt vs k):=by
 unfold KV at r
 induction r with
 | nil=>exact True.intro
 | @cons p q ps qs h t ih=>
  obtain⟨h1,h2⟩:=h
  by_cases e:p.1=k
  . have e':q.1=k:=h1.symm.trans e
    have b:valueAt (q::qs) k=some q.2:=by simp[valueAt,List.find?_cons,e']
    rw[valV_pos e,b];exact h2
  . have e':¬ q.1=k:=fun z=>e (h1.trans z)
    have b:valueAt (q::qs) k=valueAt qs k:=by simp[valueAt,List.find?_cons,e']
    rw[valV_neg e,b];exact ih
theorem KV.any {kvs:List (κ×V)}{vs:List (κ×Value)}(r:KV kvs vs)(k:κ):(kvs.any fun kv=>decide (kv.1=k))=vs.any fun kv=>decide (kv.1=k):=by
 unfold KV at r
 induction r with
 | nil=>rfl
 | cons h t ih=>rw[List.any_cons,List.any_cons,ih,h.1]
theorem KV.repl {kvs:List (κ×V)}{vs:List (κ×Value)}(r:KV kvs vs)(k:κ){y:V}{u:Value}(ry:RelV y u) :
 KV (kvs.map fun kv=>if kv.1=k then (kv.1,y) else kv) (vs.map fun kv=>if kv.1=k then (kv.1,u) else kv):=by
 unfold KV at r ⊢
 induction r with
 | nil=>exact .nil
 | @cons p q ps qs h t ih=>
  rw[List.map_cons,List.map_cons]
  refine .cons ?_ ih
  obtain⟨h1,h2⟩:=h
  by_cases e:p.1=k
  . rw[if_pos e,if_pos (h1.symm.trans e)];exact⟨h1,ry⟩
  . rw[if_neg e,if_neg (fun z=>e (h1.trans z))];exact⟨h1,h2⟩
theorem KV.put {kvs:List (κ×V)}{vs:List (κ×Value)}(r:KV kvs vs)(k:κ){y:V}{u:Value}(ry:RelV y u):KV (putK kvs k y) (stored vs k u):=by
 unfold putK stored
 rw[r.any k]
 by_cases e:(vs.any fun kv=>decide (kv.1=k))=true
 . rw[if_pos e,if_pos e];exact r.repl k ry
 . rw[if_neg e,if_neg e];exact Paired.snoc r ⟨rfl,ry⟩
theorem KV.drop {kvs:List (κ×V)}{vs:List (κ×Value)}(r:KV kvs vs)(k:κ):KV (dropK kvs k) (without vs k):=by
 unfold KV at r ⊢
 unfold dropK without
 induction r with
 | nil=>exact .nil
 | @cons p q ps qs h t ih=>
  obtain⟨h1,h2⟩:=h
  rw[List.filter_cons,List.filter_cons]
  by_cases e:p.1=k
  . have a:¬ decide (p.1≠k)=true:=by simp[e]
    have b:¬ decide (q.1≠k)=true:=by simp[h1.symm.trans e]
    rw[if_neg a,if_neg b];exact ih
  . have e':¬ q.1=k:=fun z=>e (h1.trans z)
    have a:decide (p.1≠k)=true:=by simp[e]
    have b:decide (q.1≠k)=true:=by simp[e']
    rw[if_pos a,if_pos b];exact .cons ⟨h1,h2⟩ ih
theorem KV.length {kvs:List (κ×V)}{vs:List (κ×Value)}(r:KV kvs vs):kvs.length=vs.length:=Paired.length r
theorem dropK_le (kvs:List (κ×V))(k:κ):(dropK kvs k).length<=kvs.length:=List.length_filter_le _ _
end
theorem kV_is {P:Program}{w:World}{k:Key}{u:Value}(r:RelV (kV k) u):(mixKind P w).is k u=true:=by
 cases k with
 | inl i=>obtain⟨t,e⟩:=(show ∃t,u=Value.int i t from r);subst e;exact mixKind_int P w i t
 | inr x=>obtain⟨t,e⟩:=(show ∃t,u=Value.str x t from r);subst e;exact mixKind_str P w x t
theorem items_are {P:Program}{w:World}:∀{ks:List Key}{us:List Value},Vals (ks.map kV) us->ItemsAre (mixKind P w) ks us
 | [],_,r=>by rw[List.map_nil] at r;cases r;exact .nil
 | k::ks,_,r=>by
  rw[List.map_cons] at r
  cases r with
  | cons h t=>exact .cons (kV_is h) (items_are t)
abbrev KT (H:Hp):List (List Key×V)->List (List Key×Addr×Value)->Prop:=Paired fun p q=>p.1=q.1/\H q.2.1=some (.tup (p.1.map kV))/\RelV p.2 q.2.2
theorem KT.val {H:Hp}{kvs:List (List Key×V)}{xs:List (List Key×Addr×Value)}(r:KT H kvs xs)(k:List Key):RelO (valV kvs k) ((atKey xs k).map (·.2)):=by
 induction r with
 | nil=>exact True.intro
 | @cons p q ps qs h t ih=>
  obtain⟨h1,_,h2⟩:=h
  by_cases e:p.1=k
  . have e':q.1=k:=h1.symm.trans e
    have b:atKey (q::qs) k=some q.2:=by simp[atKey,List.find?_cons,e']
    rw[valV_pos e,b];exact h2
  . have e':¬ q.1=k:=fun z=>e (h1.trans z)
    have b:atKey (q::qs) k=atKey qs k:=by simp[atKey,List.find?_cons,e']
    rw[valV_neg e,b];exact ih
theorem KT.repl {H:Hp}{kvs:List (List Key×V)}{xs:List (List Key×Addr×Value)}(r:KT H kvs xs)(k:List Key){y:V}{u:Value}(ry:RelV y u) :
 KT H (kvs.map fun kv=>if kv.1=k then (kv.1,y) else kv) (xs.map (putAt k u)):=by
 induction r with
 | nil=>exact .nil
 | @cons p q ps qs h t ih=>
  rw[List.map_cons,List.map_cons]
  refine .cons ?_ ih
  obtain⟨h1,h2,h3⟩:=h
  unfold putAt
  by_cases e:p.1=k
  . rw[if_pos e,if_pos (h1.symm.trans e)];exact⟨h1,h2,ry⟩
  . rw[if_neg e,if_neg (fun z=>e (h1.trans z))];exact⟨h1,h2,h3⟩
theorem KT.put {H:Hp}{kvs:List (List Key×V)}{xs:List (List Key×Addr×Value)}(r:KT H kvs xs)(k:List Key){b:Addr}{y:V}{u:Value}(hb:H b=some (.tup (k.map kV)))(ry:RelV y u) :
 KT H (putK kvs k y) (storedH xs k b u):=by
 have e:(kvs.any fun kv=>decide (kv.1=k))=(atKey xs k).isSome:=by
  rw[valV_any,(r.val k).isSome_eq,Option.isSome_map]
 unfold putK storedH
 rw[e]
 by_cases q:(atKey xs k).isSome=true
 . rw[if_pos q,if_pos q];exact r.repl k ry
 . rw[if_neg q,if_neg q];exact Paired.snoc r ⟨rfl,hb,ry⟩
theorem KT.keeps {H H':Hp}{kvs:List (List Key×V)}{xs:List (List Key×Addr×Value)}(r:KT H kvs xs)(ht:∀b ys,H b=some (.tup ys)->H' b=some (.tup ys)):KT H' kvs xs:=
 Paired.mapP r fun _ _ z=>⟨z.1,ht _ _ z.2.1,z.2.2⟩
section
variable {P:Program}{w:World}{H:Hp}{h:Heap}{a:Addr}
theorem rd_of {u:HO}(ok:HOk P w H h)(e:Rd H a u):ObjOk P w H h a u:=e.ok ok
theorem dk_rd {kvs:List (Key×V)}(ok:HOk P w H h)(e:Rd H a (.dK kvs)):kvs.length<=sizeLine/\(a==sysModules)=false/\∃vs,KV kvs vs/\h.DictOf (mixKind P w) a vs:=
 show ObjOk P w H h a (.dK kvs) from rd_of ok e
theorem dk_of {kvs:List (Key×V)}(ok:HOk P w H h)(e:H a=some (.dK kvs)):kvs.length<=sizeLine/\(a==sysModules)=false/\∃vs,KV kvs vs/\h.DictOf (mixKind P w) a vs:=dk_rd ok (.inl e)
theorem key_of {ks:List Key}(ok:HOk P w H h)(e:H a=some (.tup (ks.map kV))):(tupleKind (mixKind P w)).is h ks a:=by
 obtain⟨_,its,r,o,h1,h2,n,h3⟩:=(show ObjOk P w H h a (.tup (ks.map kV)) from ok a _ e)
 exact⟨o,its.toArray,n,h1,h2,h3,by simpa using items_are r⟩
theorem dt_rd {kvs:List (List Key×V)}(ok:HOk P w H h)(e:Rd H a (.dT kvs)):kvs.length<=sizeLine/\(a==sysModules)=false /\
 ∃xs,KT H kvs xs/\h.DictOfH (tupleKind (mixKind P w)) a xs:=by
 obtain⟨z,y,xs,r,o,es,ep,h1,h2,h3,h4,h5⟩:=(show ObjOk P w H h a (.dT kvs) from rd_of ok e)
 refine⟨z,y,xs,r,o,es,ep,h1,h2,h3,h4,fun x hx=>?_,h5⟩
 have all:∀{l:List (List Key×V)}{m:List (List Key×Addr×Value)},KT H l m->∀x∈m,(tupleKind (mixKind P w)).is h x.1 x.2.1:=by
  intro l m q
  induction q with
  | nil=>intro x hx;exact nomatch hx
  | @cons p q ps qs hq t ih=>
   intro x hx
   rcases List.mem_cons.mp hx with e | hx
   . subst e
     exact key_of ok (by rw[<-hq.1];exact hq.2.1)
   . exact ih x hx
 exact all r x hx
theorem dt_of {kvs:List (List Key×V)}(ok:HOk P w H h)(e:H a=some (.dT kvs)):kvs.length<=sizeLine/\(a==sysModules)=false /\
 ∃xs,KT H kvs xs/\h.DictOfH (tupleKind (mixKind P w)) a xs:=dt_rd ok (.inl e)
end
def DGet (H:Hp)(a:Addr)(y:V)(r:Option V):Prop:=
 (∃kvs k,Rd H a (.dK kvs)/\y=kV k/\r=valV kvs k)\/∃kvs k b,Rd H a (.dT kvs)/\y = .ref b/\H b=some (.tup (k.map kV))/\r=valV kvs k
def DPut (H:Hp)(a:Addr)(y v:V)(H':Hp):Prop:=
 (∃kvs k,H a=some (.dK kvs)/\y=kV k/\kvs.length<sizeLine/\H'=upd H a (.dK (putK kvs k v))) \/
 ∃kvs k b,H a=some (.dT kvs)/\y = .ref b/\H b=some (.tup (k.map kV))/\kvs.length<sizeLine/\H'=upd H a (.dT (putK kvs k v))
theorem DGet.k {H:Hp}{a:Addr}{kvs:List (Key×V)}{k:Key}(e:H a=some (.dK kvs)):DGet H a (kV k) (valV kvs k):=.inl ⟨kvs,k,.inl e,rfl,rfl⟩
theorem DGet.t {H:Hp}{a b:Addr}{kvs:List (List Key×V)}{k:List Key}(e:H a=some (.dT kvs))(eb:H b=some (.tup (k.map kV))):DGet H a (.ref b) (valV kvs k):=.inr ⟨kvs,k,b,.inl e,rfl,eb,rfl⟩
theorem DPut.k {H:Hp}{a:Addr}{kvs:List (Key×V)}{k:Key}{v:V}(e:H a=some (.dK kvs))(hl:kvs.length<sizeLine):DPut H a (kV k) v (upd H a (.dK (putK kvs k v))):=.inl ⟨kvs,k,e,rfl,hl,rfl⟩
theorem DPut.t {H:Hp}{a b:Addr}{kvs:List (List Key×V)}{k:List Key}{v:V}(e:H a=some (.dT kvs))(eb:H b=some (.tup (k.map kV)))(hl:kvs.length<sizeLine) :
 DPut H a (.ref b) v (upd H a (.dT (putK kvs k v))):=.inr ⟨kvs,k,b,e,rfl,eb,hl,rfl⟩
section
variable {X:Cx}{pins:List (Addr×Obj)}{σ:St}{H:Hp}{s:Shared}{a:Addr}{y v:V}{u r:Value}{o:Option V}{A:Around}{E:Value->Shared->Prop}
theorem Inv.big (I:Inv X pins σ H s):sysModules<s.heap.objs.size:=by
 have h:mainGlobals<s.heap.objs.size:=(I.mod.glob.keeps I.bk).lt
 exact Nat.lt_trans (by decide) h
theorem d_getItem {Q:Value->Shared->Prop}(hu:A.units+1<cLine)(I:Inv X pins σ H s)(g:DGet H a y (some v))(ry:RelV y u)(h:∀w' s',Inv X pins σ H s'->RelV v w'->Q w' s') :
 wpAny (model X.prog X.w) A (getItem (.ref a) u) Q E s:=by
 rcases g with ⟨kvs,k,e,ey,l⟩ | ⟨kvs,k,b,e,ey,eb,l⟩
 . subst ey
   obtain⟨z,hd,vs,rel,dd⟩:=dk_rd I.hok e
   obtain⟨w',hw,rw'⟩:=RelO.some_of (v:=v) (o:=valueAt vs k) (by rw[l];exact rel.val k)
   exact wpAny_getItem_of (kV_is ry) dd.mapOf hw (h w' _ (I.tok _) rw')
 . subst ey
   cases (show u=Value.ref b from ry)
   obtain⟨z,hd,xs,rel,dd⟩:=dt_rd I.hok e
   obtain⟨w',hw,rw'⟩:=RelO.some_of (v:=v) (o:=(atKey xs k).map (·.2)) (by rw[l];exact rel.val k)
   obtain⟨p,hp,hp2⟩:=Option.map_eq_some_iff.mp hw
   refine wpAny_getItem_heap (tupleKind_room_in1 hu) (key_of I.hok eb) dd hp ?_
   rw[hp2]
   exact h w' _ (I.tok _) rw'
theorem d_write {h':Heap}{t':Nat}{ob:HO}(I:Inv X pins σ H s)(mu:Mut (H a))(hs:Heap.SameBut a s.heap h')(he:∃q,h'.get? a=some q)(new:ObjOk X.prog X.w (upd H a ob) h' a ob) :
 Inv X pins σ (upd H a ob) { s with heap:=h',toks:=t' }:=
 I.write (x:=a) (e:=a) mu (.inl rfl) (fun b q hb z=>(hs.2 b hb).trans z) he new
theorem dk_new {P:Program}{w:World}{H':Hp}{h':Heap}{kvs:List (Key×V)}{vs:List (Key×Value)}(z:kvs.length<=sizeLine)(hd:(a==sysModules)=false)(rel:KV kvs vs)(dd:h'.DictOf (mixKind P w) a vs) :
 ObjOk P w H' h' a (.dK kvs):=⟨z,hd,vs,rel,dd⟩
theorem d_setItem {H':Hp}{Q:Unit->Shared->Prop}(hu:A.units+1<cLine)(I:Inv X pins σ H s)(g:DPut H a y v H')(ry:RelV y u)(rv:RelV v r)(h:∀s',Inv X pins σ H' s'->Q () s') :
 wpAny (model X.prog X.w) A (setItem (.ref a) u r) Q E s:=by
 rcases g with ⟨kvs,k,e,ey,l,eH⟩ | ⟨kvs,k,b,e,ey,eb,l,eH⟩
 . subst ey eH
   obtain⟨z,hd,vs,rel,dd⟩:=dk_of I.hok e
   have hz:vs.length<=sizeLine:=by rw[<-rel.length];exact z
   have hl:(putK kvs k v).length<=sizeLine:=by have:=length_putK kvs k v;omega
   refine wpAny_setItem_pairs (hsz:=hz) (kV_is ry) dd fun h' dd' hs=>h _ ?_
   have he:∃q,h'.get? a=some q:=let ⟨q,_,_,hq,_⟩:=dd';⟨q,hq⟩
   exact d_write I (by rw[e];exact True.intro) hs he (dk_new hl hd (rel.put k rv) dd')
 . subst ey eH
   cases (show u=Value.ref b from ry)
   obtain⟨z,hd,xs,rel,dd⟩:=dt_of I.hok e
   have hz:xs.length<=sizeLine:=by rw[<-Paired.length rel];exact z
   have hl:(putK kvs k v).length<=sizeLine:=by have:=length_putK kvs k v;omega
   refine wpAny_setItem_heap (hsz:=hz) (tupleKind_room_in1 hu) (key_of I.hok eb) dd fun h' dd' hs=>h _ ?_
   obtain⟨q,es,ep,hq,h2,h3,h4,_,h5⟩:=dd'
   refine d_write I (by rw[e];exact True.intro) hs ⟨q,hq⟩ ⟨hl,hd,_,(rel.put k eb rv).keeps fun c ys ec=>?_,q,es,ep,hq,h2,h3,h4,h5⟩
   rw[upd_ne (ne_of ec e (fun z=>nomatch z))]
   exact ec
end
section
variable {X:Cx}{pins:List (Addr×Obj)}{σ:St}{H:Hp}{s:Shared}{a:Addr}{kvs:List (Key×V)}{k:Key}{u:Value}{A:Around}{E:Value->Shared->Prop}
theorem d_pop {v:V}{more:List Value}{Q:Value->Shared->Prop}(I:Inv X pins σ H s)(e:H a=some (.dK kvs))(ry:RelV (kV k) u)(l:valV kvs k=some v)(hm:more=[]\/∃x,more=[x])
 (h:∀w' s',Inv X pins σ (upd H a (.dK (dropK kvs k))) s'->RelV v w'->Q w' s'):wpAny (model X.prog X.w) A (call (.builtin "dict.pop") (.ref a::u::more)) Q E s:=by
 obtain⟨z,hd,vs,rel,dd⟩:=dk_of I.hok e
 obtain⟨w',hw,rw'⟩:=RelO.some_of (v:=v) (o:=valueAt vs k) (by rw[<-l];exact rel.val k)
 have hp:(keyPart u).isSome=true:=by
  cases k with
  | inl i=>obtain⟨t,q⟩:=(show ∃t,u=Value.int i t from ry);subst q;rfl
  | inr x=>obtain⟨t,q⟩:=(show ∃t,u=Value.str x t from ry);subst q;rfl
 have ha:argsOk "dict.pop" ⟨.ref a::u::more,[]⟩:=by
  rcases hm with q | ⟨x,q⟩
  . subst q;exact PySem.F.args_dict_pop_2 _ _
  . subst q;exact PySem.F.args_dict_pop_3 _ _ _
 refine call_meetsIn PySem.F.slot_dict_pop dd.typeIs PySem.F.entry_dict_pop ha (meets_dict_pop_there (mixKind X.prog X.w) a (kV_is ry) more hm hp)
  ⟨vs,w',dd,by rw[<-rel.length];exact z,hw,fun h' dd' hs=>h w' _ ?_ rw'⟩
 have he:∃q,h'.get? a=some q:=let ⟨q,_,_,hq,_⟩:=dd';⟨q,hq⟩
 exact d_write I (by rw[e];exact True.intro) hs he (dk_new (Nat.le_trans (dropK_le kvs k) z) hd (rel.drop k) dd')
end
def NoSl (i:Expr):Prop:=∀ov iv,subscripted i false ov iv=operate [ov,iv] (getItem ov iv)
theorem subD_of {prog:Program}{w:World}{A:Around}{E:Value->Shared->Prop}{s:Shared}{env:Env}{value slice:Expr}{pos:Pos}{T id:String}{Q:Value->Shared->Prop}
 (hl:typeLookup (.type T) "__getitem__" = pure (some (.builtin id))) (hs:NoSl slice)
 (h:wpAny (model prog w) A (eval value env) (fun o s₁=>wpAny (model prog w) A (eval slice env) (fun i s₂=>s₂.TypeIs o T/\wpAny (model prog w) A (getItem o i) Q E s₂) E s₁) E s) :
 wpAny (model prog w) A (eval (.Subscript value slice pos) env) Q E s:=by
 refine Subscript_ (wpAny_mono h (fun o s₁ h₁=>wpAny_mono h₁ (fun i s₂ h₂=>?_) fun _ _ x=>x) fun _ _ x=>x)
 obtain⟨hT,h₂⟩:=h₂
 unfold subscriptTail
 refine wpAny_bind ?_
 rw[getitemInPython_of_ne hT.not_modules]
 refine wpAny_bind (wpAny_specialOf hT hl ?_)
 have fin:wpAny (model prog w) A (subscripted slice false o i) (fun r s₃=>wpAny (model prog w) A (letTemporaryGo value o r >>= fun _=>pure r) Q E s₃) E s₂:=by
  rw[hs o i]
  exact wpAny_operating (wpAny_mono h₂ (fun r s₃ h₃=>wpAny_bind (wpAny_letTemporaryGo (wpAny_pure h₃))) fun _ _ x=>x)
 first
  | exact wpAny_pure (wpAny_bind fin)
  | exact wpAny_bind (wpAny_pure (wpAny_bind fin))
  | exact wpAny_bind fin
theorem dict_typeIs {X:Cx}{pins:List (Addr×Obj)}{σ:St}{H:Hp}{s:Shared}{a:Addr}{y:V}{o:Option V}(I:Inv X pins σ H s)(g:DGet H a y o):s.TypeIs (.ref a) "dict" := by
 rcases g with ⟨kvs,k,e,_,_⟩ | ⟨kvs,k,b,e,_,_,_⟩
 . obtain⟨_,_,vs,_,dd⟩:=dk_rd I.hok e
   exact dd.typeIs
 . obtain⟨_,_,xs,_,dd⟩:=dt_rd I.hok e
   exact dd.typeIs
def tDGet (td ty:TE):TE:=fun σ H Q=>td σ H fun x H1=>ty σ H1 fun y H2=>∃a v,x = .ref a/\DGet H2 a y (some v)/\Q v H2
def sDPut (td ty tv:TE):TS:=fun D σ H=>tv σ H fun v H1=>td σ H1 fun x H2=>ty σ H2 fun y H3=>∃a H4,x = .ref a/\DPut H3 a y v H4/\D.nx σ H4
section
variable {X:Cx}{o i e value:Expr}{pos pos' tpos:Pos}{td ty tv:TE}
theorem pe_dget (hu:X.A.units+1<cLine)(ho:PE X o td)(hi:PE X i ty)(hs:NoSl i):PE X (.Subscript o i pos) (tDGet td ty):=by
 intro pins s σ H Q I h
 refine subD_of PySem.F.slot_dict_getitem.lookup hs (thn (ho pins s σ H _ I h) fun u s1 ⟨x,H1,I1,rx,q1⟩=>thn (hi pins s1 σ H1 _ I1 q1) fun iv s2 ⟨y,H2,I2,ry,a,v,ex,g,q2⟩=>?_)
 subst ex
 obtain rfl:u=Value.ref a:=rx
 exact⟨dict_typeIs I2 g,d_getItem hu I2 g ry fun w' s3 I3 rw'=>⟨v,H2,I3,rw',q2⟩⟩
theorem ps_dput (hu:X.A.units+1<cLine)(ho:PE X o td)(hi:PE X i ty)(hv:PE X value tv)(hs:swapsWith value (some (.Subscript o i pos')) pos.line X.env=pure false) :
 PS X (.Assign [.Subscript o i pos'] value pos) (sDPut td ty tv):=by
 intro pins s σ H D I h
 refine wpAny_Assign_Subscript (thn (hv pins s σ H _ I h) fun r s1 ⟨v,H1,I1,rv,q1⟩=>thn (ho pins s1 σ H1 _ I1 q1) fun u s2 ⟨x,H2,I2,rx,q2⟩=>thn (hi pins s2 σ H2 _ I2 q2) fun iv s3 ⟨y,H3,I3,ry,a,H4,ex,g,q3⟩=>?_) hs
 subst ex
 obtain rfl:u=Value.ref a:=rx
 exact d_setItem hu I3 g ry rv fun s4 I4=>⟨σ,H4,I4,q3⟩
end
theorem dk_empty {P:Program}{w:World}{H:Hp}(h:Heap)(hb:sysModules<h.objs.size):ObjOk P w H (h.push { cls:=.type "dict",data:=.dict #[] }) h.objs.size (.dK []):=
 ⟨Nat.zero_le _,beq_eq_false_iff_ne.mpr (Ne.symm (Nat.ne_of_lt hb)),[],.nil,Heap.DictOf.new h⟩
theorem dt_empty {P:Program}{w:World}{H:Hp}(h:Heap)(hb:sysModules<h.objs.size):ObjOk P w H (h.push { cls:=.type "dict",data:=.dict #[] }) h.objs.size (.dT []):=
 ⟨Nat.zero_le _,beq_eq_false_iff_ne.mpr (Ne.symm (Nat.ne_of_lt hb)),[],.nil,_,#[],0,Heap.get?_push_size _ rfl,⟨rfl,rfl,rfl⟩,rfl,rfl,List.nodup_nil⟩
def tDNewT:TE:=fun _ H Q=>∀p,H p=none->Q (.ref p) (upd H p (.dT []))
section
variable {X:Cx}{pos:Pos}
theorem pe_dnewT:PE X (.Dict [] [] pos) tDNewT:=fun pins s σ H Q I h=>
 wpAny_Dict_empty ⟨.ref s.heap.objs.size,_,I.laid (a:=s.heap.objs.size) (o:=.dT []) (t':=s.toks) (fun _ _ q=>Heap.get?_push_of_some _ q) (Nat.le_refl _) (dt_empty s.heap I.big),rfl,h _ (I.hok.fresh (Nat.le_refl _))⟩
end
def tPairs:List (TE×TE)->St->Hp->(List (V×V)->Hp->Prop)->Prop
 | [],_,H,Q=>Q [] H
 | (tk,tv)::r,σ,H,Q=>tk σ H fun x H1=>tv σ H1 fun y H2=>tPairs r σ H2 fun ps H3=>Q ((x,y)::ps) H3
abbrev VV:List (V×V)->List (Value×Value)->Prop:=Paired fun p q=>RelV p.1 q.1/\RelV p.2 q.2
def PPs (X:Cx)(pos:Pos)(keys:List (Option Expr))(values:List Expr)(trs:List (TE×TE)):Prop:=
 ∀(pins:List (Addr×Obj))(s:Shared)(σ:St)(H:Hp)(Q:List (V×V)->Hp->Prop),Inv X pins σ H s->tPairs trs σ H Q ->
  wpAny (model X.prog X.w) X.A (evalPairs (pairTrees keys values X.env pos)) (fun vs s'=>∃ps H',Inv X pins σ H' s'/\VV ps vs/\Q ps H') X.xe s
theorem pps_nil {X:Cx}{pos:Pos}:PPs X pos [] [] []:=fun pins s σ H Q I h=>pairTrees_nil_walk ⟨[],H,I,.nil,h⟩
theorem pps_cons {X:Cx}{pos:Pos}{k v:Expr}{ks:List (Option Expr)}{vs:List Expr}{tk tv:TE}{trs:List (TE×TE)}(hk:PE X k tk)(hv:PE X v tv)(hr:PPs X pos ks vs trs) :
 PPs X pos (some k::ks) (v::vs) ((tk,tv)::trs):=fun pins s σ H Q I h=>
 pairTrees_cons_walk (thn (hk pins s σ H _ I h) fun u s1 ⟨x,H1,I1,rx,q1⟩=>thn (hv pins s1 σ H1 _ I1 q1) fun w2 s2 ⟨y,H2,I2,ry,q2⟩=>
  thn (hr pins s2 σ H2 _ I2 q2) fun ws s3 ⟨ps,H3,I3,rel,q3⟩=>⟨(x,y)::ps,H3,I3,.cons ⟨rx,ry⟩ rel,q3⟩)
def mergeK (kvs more:List (Key×V)):List (Key×V):=more.foldl (fun acc kv=>putK acc kv.1 kv.2) kvs
theorem KV.merge:∀{more:List (Key×V)}{rs:List (Key×Value)}{kvs:List (Key×V)}{vs:List (Key×Value)},KV more rs->KV kvs vs->KV (mergeK kvs more) (merged vs rs):=by
 intro more rs kvs vs r
 unfold KV at r
 induction r generalizing kvs vs with
 | nil=>intro q;exact q
 | @cons p q ps qs h t ih=>
  intro r0
  have e:KV (putK kvs p.1 p.2) (stored vs q.1 q.2):=by
   have:=r0.put p.1 h.2
   rw[<-h.1];exact this
  exact ih e
theorem length_mergeK:∀(more kvs:List (Key×V)),(mergeK kvs more).length<=kvs.length+more.length
 | [],kvs=>by show kvs.length<=kvs.length+0;omega
 | p::r,kvs=>by
  have h1:=length_mergeK r (putK kvs p.1 p.2)
  have h2:=length_putK kvs p.1 p.2
  show (mergeK (putK kvs p.1 p.2) r).length<=_
  rw[List.length_cons];omega
theorem carries_of {P:Program}{w:World}:∀{kvs:List (Key×V)}{ws:List (Value×Value)},VV (kvs.map fun kv=>(kV kv.1,kv.2)) ws->∃rs,Carries (mixKind P w) ws rs/\KV kvs rs
 | [],_,r=>by rw[List.map_nil] at r;cases r;exact⟨[],True.intro,.nil⟩
 | p::kvs,_,r=>by
  rw[List.map_cons] at r
  cases r with
  | @cons a b as bs h t=>
   obtain⟨rs,c,q⟩:=carries_of (P:=P) (w:=w) t
   obtain⟨b1,b2⟩:=b
   exact⟨(p.1,b2)::rs,⟨kV_is h.1,rfl,c⟩,.cons ⟨rfl,h.2⟩ q⟩
def tDisp (trs:List (TE×TE)):TE:=fun σ H Q=>∀p,H p=none->tPairs trs σ (upd H p (.dK [])) fun ps H2=>H2 p=some (.dK [])/\∃kvs:List (Key×V),ps=kvs.map (fun kv=>(kV kv.1,kv.2))/\kvs.length<=15/\Q (.ref p) (upd H2 p (.dK (mergeK [] kvs)))
theorem pe_disp {X:Cx}{pos:Pos}{keys:List (Option Expr)}{values:List Expr}{trs:List (TE×TE)}(h:PPs X pos keys values trs)(hall:keys.all (·.isSome)=true)(hl:keys.length=values.length)(h0:keys≠[])
 (h15:keys.length<=15):PE X (.Dict keys values pos) (tDisp trs):=by
 intro pins s σ H Q I q
 have hn:=I.hok.fresh (Nat.le_refl s.heap.objs.size)
 have I1:=I.laid (a:=s.heap.objs.size) (o:=.dK []) (h':=s.heap.push { cls:=.type "dict",data:=.dict #[] }) (t':=s.toks) (fun _ _ q=>Heap.get?_push_of_some _ q) (Nat.le_refl _) (dk_empty s.heap I.big)
 refine wpAny_Dict_walk (knd:=mixKind X.prog X.w) hall hl h0 h15 (thn (h pins _ σ _ _ I1 (q _ hn)) fun ws s2 ⟨ps,H2,I2,rel,e,kvs,ep,lk,q2⟩=>?_)
 subst ep
 obtain⟨rs,c,rk⟩:=carries_of (P:=X.prog) (w:=X.w) rel
 obtain⟨z,hd,vs0,r0,dd⟩:=dk_of I2.hok e
 cases r0
 refine⟨rs,c,dd,fun h' dd' hs=>⟨.ref s.heap.objs.size,_,?_,rfl,q2⟩⟩
 have hz:(mergeK [] kvs).length<=sizeLine:=by
  have h1:=length_mergeK kvs []
  rw[List.length_nil] at h1
  rw[sizeLine_eq];omega
 have he:∃q,h'.get? s.heap.objs.size=some q:=let ⟨q,_,_,hq,_⟩:=dd';⟨q,hq⟩
 exact d_write I2 (by rw[e];exact True.intro) hs he (dk_new hz hd (rk.merge .nil) dd')
structure M1 (X:Cx)(o:Expr)(m:Str)(apos:Pos)(e:Expr)(cpos:Pos):Prop where
 base:attributeBase o m X.env (eval o X.env)=eval o X.env
 few:((backTo cpos (starEach [e] X.env)).all (fun x=>!x.1) && (backToKw cpos (keywordEach [] X.env)).all (fun x=>x.1.isSome)
  && decide (([e]:List Expr).length+([]:List Keyword).length+(if ([]:List Keyword).isEmpty then 0 else 1)<30))=true
 line:(apos.endLine==cpos.line)=true
 trees:backTo cpos (starEach [e] X.env)=[(false,eval e X.env)]
structure M2 (X:Cx)(o:Expr)(m:Str)(apos:Pos)(e f:Expr)(cpos:Pos):Prop where
 base:attributeBase o m X.env (eval o X.env)=eval o X.env
 few:((backTo cpos (starEach [e,f] X.env)).all (fun x=>!x.1) && (backToKw cpos (keywordEach [] X.env)).all (fun x=>x.1.isSome)
  && decide (([e,f]:List Expr).length+([]:List Keyword).length+(if ([]:List Keyword).isEmpty then 0 else 1)<30))=true
 line:(apos.endLine==cpos.line)=true
 trees:backTo cpos (starEach [e,f] X.env)=[(false,eval e X.env),(false,eval f X.env)]
def IsD (H:Hp)(a:Addr):Prop:=(∃kvs,Rd H a (.dK kvs))\/∃kvs,Rd H a (.dT kvs)
theorem isD_at {X:Cx}{pins:List (Addr×Obj)}{σ:St}{H:Hp}{s:Shared}{a:Addr}(I:Inv X pins σ H s)(d:IsD H a) :
 s.TypeIs (.ref a) "dict" /\ (∀b,Value.ref a = .ref b->∃ob,s.heap.get? b=some ob/\ob.dict=none)/\(a==sysModules)=false:=by
 rcases d with ⟨kvs,e⟩ | ⟨kvs,e⟩
 . obtain⟨_,hd,vs,_,dd⟩:=dk_rd I.hok e
   refine⟨dd.typeIs,fun b q=>?_,hd⟩
   cases q
   obtain⟨ob,_,_,h1,h2,_⟩:=dd
   exact⟨ob,h1,h2.2.1⟩
 . obtain⟨_,hd,xs,_,dd⟩:=dt_rd I.hok e
   refine⟨dd.typeIs,fun b q=>?_,hd⟩
   cases q
   obtain⟨ob,_,_,h1,h2,_⟩:=dd
   exact⟨ob,h1,h2.2.1⟩
section
variable {X:Cx}{pins:List (Addr×Obj)}{σ:St}{H:Hp}{s:Shared}{a:Addr}{y d:V}{u r:Value}{o:Option V}{A:Around}{E:Value->Shared->Prop}
theorem d_get2 {Q:Value->Shared->Prop}(hu:A.units+1<cLine)(I:Inv X pins σ H s)(g:DGet H a y o)(ry:RelV y u)(rd:RelV d r)(h:∀w' s',Inv X pins σ H s'->RelV (o.getD d) w'->Q w' s') :
 wpAny (model X.prog X.w) A (call (.builtin "dict.get") [.ref a,u,r]) Q E s:=by
 rcases g with ⟨kvs,k,e,ey,l⟩ | ⟨kvs,k,b,e,ey,eb,l⟩
 . subst ey
   obtain⟨z,hd,vs,rel,dd⟩:=dk_rd I.hok e
   refine call_meetsIn PySem.F.slot_dict_get dd.typeIs PySem.F.entry_dict_get (PySem.F.args_dict_get_3 _ _ _) (meets_dict_get_default (mixKind X.prog X.w) a (kV_is ry) hd r) ⟨_,dd.mapOf,h _ _ (I.tok _) ?_⟩
   rw[l]
   exact (rel.val k).getD rd
 . subst ey
   cases (show u=Value.ref b from ry)
   obtain⟨z,hd,xs,rel,dd⟩:=dt_rd I.hok e
   refine call_meetsIn PySem.F.slot_dict_get dd.typeIs PySem.F.entry_dict_get (PySem.F.args_dict_get_3 _ _ _) (meetsH_dict_get_default (tupleKind (mixKind X.prog X.w)) a b hd r) ⟨tupleKind_room_in1 hu,k,xs,key_of I.hok eb,dd,h _ _ (I.tok _) ?_⟩
   rw[l]
   exact (rel.val k).getD rd
end
def tDGet2 (td ty tx:TE):TE:=fun σ H Q=>td σ H fun x H1=>∃a,x = .ref a/\IsD H1 a/\ty σ H1 fun y H2=>tx σ H2 fun z H3=>∃o,DGet H3 a y o/\Q (o.getD z) H3
def tDPop1 (td ty:TE):TE:=fun σ H Q=>td σ H fun x H1=>∃a,x = .ref a/\IsD H1 a/\ty σ H1 fun y H2=>∃kvs k v,H2 a=some (.dK kvs)/\y=kV k/\valV kvs k=some v/\Q v (upd H2 a (.dK (dropK kvs k)))
section
variable {X:Cx}{o e f:Expr}{apos cpos:Pos}{td ty tx:TE}
theorem pe_dget2 (hu:X.A.units+1<cLine)(ho:PE X o td)(he:PE X e ty)(hf:PE X f tx)(m:M2 X o "get" apos e f cpos):PE X (.Call (.Attribute o "get" apos) [e,f] [] cpos) (tDGet2 td ty tx):=by
 intro pins s σ H Q I h
 refine wpAny_Call_method m.base m.few m.line PySem.F.plainAttrs_dict PySem.F.slot_dict_get PySem.F.type_dict_get (thn (ho pins s σ H _ I h) fun u s1 ⟨x,H1,I1,rx,a,ex,d,q1⟩=>?_)
 subst ex
 obtain rfl:u=Value.ref a:=rx
 obtain⟨t1,t2,_⟩:=isD_at I1 d
 refine⟨t1,t2,?_⟩
 rw[m.trees]
 refine Calls.callWith_builtin rfl (Calls.evalArgs_plain (Calls.spliced_cons (thn (he pins s1 σ H1 _ I1 q1) fun iv s2 ⟨y,H2,I2,ry,q2⟩=>
  Calls.spliced_cons (thn (hf pins s2 σ H2 _ I2 q2) fun fv s3 ⟨z,H3,I3,rz,ov,g,q3⟩=>Calls.spliced_nil ?_))))
 exact d_get2 hu I3 g ry rz fun w' s4 I4 rw'=>⟨_,H3,I4,rw',q3⟩
theorem pe_dpop1 (ho:PE X o td)(he:PE X e ty)(m:M1 X o "pop" apos e cpos):PE X (.Call (.Attribute o "pop" apos) [e] [] cpos) (tDPop1 td ty):=by
 intro pins s σ H Q I h
 refine wpAny_Call_method m.base m.few m.line PySem.F.plainAttrs_dict PySem.F.slot_dict_pop PySem.F.type_dict_pop (thn (ho pins s σ H _ I h) fun u s1 ⟨x,H1,I1,rx,a,ex,d,q1⟩=>?_)
 subst ex
 obtain rfl:u=Value.ref a:=rx
 obtain⟨t1,t2,_⟩:=isD_at I1 d
 refine⟨t1,t2,?_⟩
 rw[m.trees]
 refine Calls.callWith_builtin rfl (Calls.evalArgs_plain (Calls.spliced_cons (thn (he pins s1 σ H1 _ I1 q1) fun iv s2 ⟨y,H2,I2,ry,kvs,k,v,ea,ey,l,q2⟩=>Calls.spliced_nil ?_)))
 subst ey
 exact d_pop I2 ea ry l (.inl rfl) fun w' s3 I3 rw'=>⟨v,_,I3,rw',q2⟩
end
section
variable {X:Cx}{pins:List (Addr×Obj)}{σ:St}{H:Hp}{s:Shared}{a:Addr}{kvs:List (Key×V)}{A:Around}{E:Value->Shared->Prop}
end
section
variable {X:Cx}{pins:List (Addr×Obj)}{σ:St}{H:Hp}{s:Shared}{a:Addr}{y:V}{u:Value}{A:Around}{E:Value->Shared->Prop}
end
end L2
namespace HT
open PySem PyProof.Rows
def lexLt:List Int->List Int->Bool
 | [],[]=>false
 | [],_::_=>true
 | _::_,[]=>false
 | x::xs,y::ys=>if x=y then lexLt xs ys else decide (x<y)
theorem lexLt_cons (x y:Int)(xs ys:List Int):lexLt (x::xs) (y::ys)=if x=y then lexLt xs ys else decide (x<y):=rfl
section
open PySem.SeqAt
open PySem.AutoSeq1 (wpAny_loadPart')
open PySem.MeetsSeq PySem.MeetsSeq2 PySem.MeetsSeq3
end
section
variable {prog:Program}{w:World}{A:Around}{E:Value->Shared->Prop}{s:Shared}
theorem cat_tup {t b:Addr}{vs ws:List Value}{Q:Value->Shared->Prop}(ht:IsTup s.heap t vs.toArray)(hb:IsTup s.heap b ws.toArray)(hv:vs≠[])
 (h1:ws=[]->Q (.ref t) s)(h2:ws≠[]->Q (.ref s.heap.objs.size) { s with heap:=s.heap.push { cls:=.type "tuple",data:=.seq (vs++ws).toArray } })
 (hsz:vs.length+ws.length<=sizeLine):wpAny (model prog w) A (binaryOp .Add (.ref t) (.ref b)) Q E s:=by
 obtain⟨⟨cls,dd,data,sl⟩,ho,hc,n,hd⟩:=id ht
 obtain⟨⟨cls2,dd2,data2,sl2⟩,ho2,hc2,n2,hd2⟩:=id hb
 simp only at hc hd hc2 hd2
 subst hc hd hc2 hd2
 have e:vs.toArray++ws.toArray=(vs++ws).toArray:=by simp
 by_cases hw:ws=[]
 . exact concat_meets ⟨_,ho,rfl⟩ ⟨_,ho2,rfl⟩ noFill_tuple_add seq_tuple_add PySem.F.slot_tuple_add PySem.F.entry_tuple_add (PySem.F.args_tuple_add_2 _ _)
    (tuple_addW1 t b vs.toArray ws.toArray n n2 dd dd2 sl sl2 (by simpa using hv) (by simp[hw])) ⟨ho,ho2,h1 hw⟩
 . refine concat_meets ⟨_,ho,rfl⟩ ⟨_,ho2,rfl⟩ noFill_tuple_add seq_tuple_add PySem.F.slot_tuple_add PySem.F.entry_tuple_add (PySem.F.args_tuple_add_2 _ _)
    (tuple_addW2 t b vs.toArray ws.toArray n n2 dd dd2 sl sl2 (by simpa using hv) (by simpa using hw) (by rw[List.size_toArray,List.size_toArray];exact hsz)) ⟨ho,ho2,?_⟩
   rw[e]
   exact h2 hw
def sIx (n d:Nat):Option Int->Nat
 | none=>d
 | some v=>if v<0 then (v+(n:Int)).toNat else min v.toNat n
theorem sIx_none (n d:Nat):sIx n d none=d:=rfl
theorem sIx_nat (n d k:Nat):sIx n d (some (k:Int))=min k n:=by
 show (if (k:Int)<0 then ((k:Int)+(n:Int)).toNat else min (k:Int).toNat n)=min k n
 rw[if_neg (by omega),Int.toNat_natCast]
theorem sIx_le (n d:Nat)(hd:d<=n)(o:Option Int):sIx n d o<=n:=by
 cases o with
 | none=>exact hd
 | some v=>
  show (if v<0 then (v+(n:Int)).toNat else min v.toNat n)<=n
  by_cases hv:v<0
  . rw[if_pos hv];omega
  . rw[if_neg hv];exact Nat.min_le_right _ _
theorem clip_eq (v:Int)(n d:Nat):(if v<0 then max (v+(n:Int)) 0 else min v (n:Int))=((sIx n d (some v):Nat):Int):=by
 show (if v<0 then max (v+(n:Int)) 0 else min v (n:Int))=(((if v<0 then (v+(n:Int)).toNat else min v.toNat n):Nat):Int)
 by_cases hv:v<0
 . simp only[if_pos hv];omega
 . simp only[if_neg hv];omega
theorem adjust_gen (lo hi:Option Int) (n:Nat):Builtin.Slice.sliceAdjust lo hi 1 (n:Int)=(((sIx n 0 lo:Nat):Int),((sIx n n hi:Nat):Int)):=by
 have h1:¬ ((1:Int)<0):=by omega
 unfold Builtin.Slice.sliceAdjust
 simp only[h1,if_false]
 refine Prod.ext ?_ ?_
 . cases lo with
   | none=>rfl
   | some v=>exact clip_eq v n 0
 . cases hi with
   | none=>rfl
   | some v=>exact clip_eq v n n
theorem places_gen (i j:Nat):Builtin.Slice.slicePlaces (i:Int) (j:Int) 1=j-i:=by
 unfold Builtin.Slice.slicePlaces
 have h1:(1:Int) > 0:=by omega
 simp only[h1,if_true,Int.ediv_one]
 split <;> omega
theorem slicePart_ {v:Value} {o:Option Int} {Q:Option Int->Shared->Prop} (p:IsPart v o) (h:Q o s):wpAny (model prog w) A (Builtin.Slice.slicePartIndex v) Q E s:=by
 cases p with
 | none=>exact slicePart_none h
 | int i t=>exact slicePart_int h
theorem sliceApplied_gen {sl:Addr}{vl vu:Value}{lo hi:Option Int}{n:Nat}{Q:Int×Int×Nat->Shared->Prop}(hs:s.heap.IsSliceOf sl vl vu .none)(pl:IsPart vl lo)(pu:IsPart vu hi)
 (h:Q (((sIx n 0 lo:Nat):Int),1,sIx n n hi-sIx n 0 lo) s):wpAny (model prog w) A (Builtin.Slice.sliceApplied (.ref sl) (pure (n:Int))) Q E s:=by
 obtain⟨os,hos,hcs,hds⟩:=id hs
 unfold Builtin.Slice.sliceApplied Builtin.Slice.sliceFields
 refine wpAny_bind (wpAny_bind (wpAny_field hos hds (x:=vl) rfl (wpAny_bind (wpAny_field hos hds (x:=vu) rfl (wpAny_bind (wpAny_field hos hds (x:=.none) rfl (wpAny_pure ?_)))))))
 refine wpAny_bind (slicePart_none ?_)
 show wpAny _ _ (if ((1:Int)==0)=true then _ else _) _ _ s
 rw[if_neg (by decide)]
 refine wpAny_bind (slicePart_ pl (wpAny_bind (slicePart_ pu (wpAny_bind (wpAny_pure ?_)))))
 show wpAny _ _ (match Builtin.Slice.sliceAdjust lo hi 1 (n:Int) with | (lo,hi)=>pure (lo,(1:Int),Builtin.Slice.slicePlaces lo hi 1)) _ _ s
 rw[adjust_gen lo hi n]
 show wpAny _ _ (pure (((sIx n 0 lo:Nat):Int),(1:Int),Builtin.Slice.slicePlaces ((sIx n 0 lo:Nat):Int) ((sIx n n hi:Nat):Int) 1)) _ _ s
 rw[places_gen]
 exact wpAny_pure h
theorem pick_gen (xs:Array Value)(i k:Nat):((List.range k).filterMap fun (m:Nat)=>xs[((i:Int)+(m:Int)*1).toNat]?).toArray=((xs.toList.drop i).take k).toArray:=by
 have e:(fun (m:Nat)=>xs[((i:Int)+(m:Int)*1).toNat]?)=fun m=>xs[i+m]?:=by
  funext m
  have:((i:Int)+(m:Int)*1).toNat=i+m:=by omega
  rw[this]
 rw[e]
 have:=pick_run xs i k
 rw[List.filterMap_map] at this
 have e2:((fun x=>xs[x]?)∘fun x=>i+x)=fun m=>xs[i+m]?:=rfl
 rw[e2] at this
 rw[this]
theorem getItem_tuple_cut {t sl:Addr}{items:Array Value}{vl vu:Value}{lo hi:Option Int}{Q:Value->Shared->Prop}(ht:IsTup s.heap t items)(hs:s.heap.IsSliceOf sl vl vu .none)(pl:IsPart vl lo)(pu:IsPart vu hi)
 (hw:¬ (sIx items.size 0 lo=0/\sIx items.size items.size hi=items.size))
 (h:Q (.ref s.heap.objs.size) { s with heap:=s.heap.push { cls:=.type "tuple",data:=.seq ((items.toList.drop (sIx items.size 0 lo)).take (sIx items.size items.size hi-sIx items.size 0 lo)).toArray } })
 (hsz:items.size<=sizeLine):wpAny (model prog w) A (getItem (.ref t) (.ref sl)) Q E s:=by
 have htake:sizeOk (.seq ((items.toList.drop (sIx items.size 0 lo)).take (sIx items.size items.size hi-sIx items.size 0 lo)).toArray):=by
  show ((items.toList.drop (sIx items.size 0 lo)).take (sIx items.size items.size hi-sIx items.size 0 lo)).toArray.size<=sizeLine
  rw[List.size_toArray,List.length_take,List.length_drop,Array.length_toList]
  omega
 have hj:sIx items.size items.size hi<=items.size:=sIx_le _ _ (Nat.le_refl _) hi
 obtain⟨os,hos,hcs,hds⟩:=id hs
 have hTs:s.TypeIs (.ref sl) "slice" := ⟨os,hos,hcs⟩
 unfold getItem
 try with_reducible refine wpAny_holding ?_
 first | refine wpAny_bind (wpAny_pure ?_) | skip
 refine wpAny_bind (wpAny_sequenceKey ht.typeIs (by decide) ?_)
 refine wpAny_bind (wpAny_callSpecial?_slot (name:=Str.ofString "__getitem__") ht.typeIs PyProof.Rows.slot_tuple_getitem
  (wpAny_call_entry PyProof.Rows.slot_tuple_getitem ht.typeIs entry_tuple_getitem ?_ (args_tuple_getitem _ _)))
 show wpAny _ _ (Builtin.Tuple.tupleItemsOf (.ref t) >>= _) _ _ s
 refine wpAny_bind (tupleItemsOf_ ht ?_)
 refine wpAny_bind (wpAny_typeOf hTs ?_)
 rw[if_pos (by decide)]
 refine wpAny_bind (sliceApplied_gen hs pl pu ?_)
 have hno:¬ ((((sIx items.size 0 lo:Nat):Int)==0 && (1:Int)==1 && (sIx items.size items.size hi-sIx items.size 0 lo)==items.size)=true):=by
  intro q
  rw[Bool.and_eq_true,Bool.and_eq_true] at q
  have q1:((sIx items.size 0 lo:Nat):Int)=0:=eq_of_beq q.1.1
  have q2:sIx items.size items.size hi-sIx items.size 0 lo=items.size:=eq_of_beq q.2
  exact hw ⟨by omega,by omega⟩
 show wpAny _ _ (if (((sIx items.size 0 lo:Nat):Int)==0 && (1:Int)==1 && (sIx items.size items.size hi-sIx items.size 0 lo)==items.size)=true then _ else _) _ _ s
 rw[if_neg hno,pick_gen]
 first
  | exact wpAny_bind (m:=Builtin.Tuple.tupleExact _) (wpAny_newObj_type (wpAny_pure ⟨_,rfl,wpAny_pure h⟩) htake)
  | exact wpAny_bind (m:=Builtin.Tuple.tupleExact _) (wpAny_newObj_type (wpAny_bind (wpAny_pure (wpAny_pure ⟨_,rfl,wpAny_pure h⟩))) htake)
  | exact wpAny_bind (wpAny_bind (m:=Builtin.Tuple.tupleExact _) (wpAny_newObj_type (wpAny_pure (wpAny_pure ⟨_,rfl,wpAny_pure h⟩)) htake))
  | exact wpAny_bind (wpAny_bind (m:=Builtin.Tuple.tupleExact _) (wpAny_newObj_type (wpAny_pure ⟨_,rfl,wpAny_pure h⟩) htake))
end
end HT
namespace L2
open PySem PySem.Spec PyProof.Rows
abbrev TO:=St->Hp->(Option Int->Hp->Prop)->Prop
def PO (X:Cx)(e:Option Expr)(t:TO):Prop:=
 ∀(pins:List (Addr×Obj))(s:Shared)(σ:St)(H:Hp)(Q:Option Int->Hp->Prop),Inv X pins σ H s->t σ H Q ->
  wpAny (model X.prog X.w) X.A (evalPart e X.env) (fun u s'=>∃o H',Inv X pins σ H' s'/\IsPart u o/\Q o H') X.xe s
def tNoPart:TO:=fun _ H Q=>Q none H
def tPart (t:TE):TO:=fun σ H Q=>t σ H fun x H1=>∃i,x = .int i/\Q (some i) H1
theorem intsAre_of {ns:List Int}:∀{us:List Value},Vals (ns.map V.int) us->IntsAre us ns:=by
 induction ns with
 | nil=>intro us r;rw[List.map_nil] at r;cases r;exact .nil
 | cons n ns ih=>
  intro us r
  rw[List.map_cons] at r
  cases r with
  | cons r1 r2=>
   obtain⟨t,e⟩:=r1
   subst e
   exact .cons n t (ih r2)
section
variable {X:Cx}{e:Expr}{te:TE}{lo hi:Option Expr}{tl th:TO}{pos p2:Pos}
theorem po_none:PO X none tNoPart:=by
 intro pins s σ H Q I h
 rw[evalPart_none]
 exact wpAny_pure ⟨none,H,I,.none,h⟩
theorem po_some (h:PE X e te):PO X (some e) (tPart te):=by
 intro pins s σ H Q I hw
 rw[evalPart_some]
 refine thn (h pins s σ H _ I hw) fun u s1 ⟨x,H1,I1,r1,q1⟩=>?_
 obtain⟨i,rfl,q⟩:=q1
 obtain⟨t,rfl⟩:=r1
 exact⟨some i,H1,I1,.int i t,q⟩
def SlR (X:Cx)(r:V->Option Int->Option Int->Hp->VK->Prop):Prop:=
 ∀(pins:List (Addr×Obj))(s:Shared)(σ:St)(H:Hp)(x:V)(v vl vu:Value)(lo hi:Option Int)(sl:Addr)(Q:VK),Inv X pins σ H s->RelV x v->s.heap.IsSliceOf sl vl vu .none->IsPart vl lo->IsPart vu hi->r x lo hi H Q ->
  ∃T id,typeLookup (.type T) "__getitem__" = pure (some (.builtin id))/\s.TypeIs v T/\wpAny (model X.prog X.w) X.A (getItem v (.ref sl)) (EP X pins σ Q) X.xe s
def tSl (r:V->Option Int->Option Int->Hp->VK->Prop)(te:TE)(tl th:TO):TE:=fun σ H Q=>te σ H fun x H1=>tl σ H1 fun l H2=>th σ H2 fun u H3=>r x l u H3 Q
theorem pe_slice {r:V->Option Int->Option Int->Hp->VK->Prop}(hr:SlR X r)(he:PE X e te)(hl:PO X lo tl)(hu:PO X hi th):PE X (.Subscript e (.Slice lo hi none p2) pos) (tSl r te tl th):=by
 intro pins s σ H Q I h
 refine Subscript_ (thn (he pins s σ H _ I h) fun v s1 ⟨x,H1,I1,r1,q1⟩=>?_)
 refine wpAny_Slice (thn (hl pins s1 σ H1 _ I1 q1) fun vl s2 ⟨l,H2,I2,pl,q2⟩=>thn (hu pins s2 σ H2 _ I2 q2) fun vu s3 ⟨u,H3,I3,pu,q3⟩=>?_)
 rw[evalPart_none]
 refine wpAny_pure ?_
 have I4:Inv X pins σ H3 { s3 with heap:=s3.heap.push { cls:=.type "slice",data:=.fields #[vl,vu,.none] } }:=I3.kept (t':=s3.toks) fun b ob q=>Heap.get?_push_of_some _ q
 obtain⟨T,id,hT,ht,hg⟩:=hr pins { s3 with heap:=s3.heap.push { cls:=.type "slice",data:=.fields #[vl,vu,.none] } } σ H3 x v vl vu l u s3.heap.objs.size Q I4 r1 (Heap.IsSliceOf.new ..) pl pu q3
 show wpAny (model X.prog X.w) X.A (subscriptTail e (.Slice lo hi none p2) v (.ref s3.heap.objs.size)) (EP X pins σ Q) X.xe { s3 with heap:=s3.heap.push { cls:=.type "slice",data:=.fields #[vl,vu,.none] } }
 exact tail_any (ops:=[.ref s3.heap.objs.size,v]) ht hT hg (by with_unfolding_all rfl)
def cutV (xs:List V)(lo hi:Option Int):List V:=(xs.drop (HT.sIx xs.length 0 lo)).take (HT.sIx xs.length xs.length hi-HT.sIx xs.length 0 lo)
theorem cutV_length (xs:List V)(lo hi:Option Int):(cutV xs lo hi).length<=xs.length:=by
 unfold cutV
 rw[List.length_take,List.length_drop]
 omega
def rSlT (K:PySem.W.Frag):V->Option Int->Option Int->Hp->VK->Prop:=fun x lo hi H Q=>∃a xs,x = .ref a/\SqT K H a xs /\
 ¬ (HT.sIx xs.length 0 lo=0/\HT.sIx xs.length xs.length hi=xs.length)/\∀p,H p=none->Q (.ref p) (upd H p (.tup (cutV xs lo hi)))
theorem sl_tup:SlR X (rSlT X.K):=by
 intro pins s σ H x v vl vu lo hi sl Q I rx hs pl pu h
 obtain⟨a,xs,rfl,hx,hw,q⟩:=h
 cases rx
 obtain⟨its,r,ht,hz⟩:=I.tuple hx
 have hlen:its.toArray.size=xs.length:=by rw[List.size_toArray];exact r.length.symm
 refine⟨"tuple",_,PyProof.Rows.slot_tuple_getitem.lookup,ht.typeIs,?_⟩
 refine HT.getItem_tuple_cut ht hs pl pu (by rw[hlen];exact hw) ?_ (by rw[hlen];exact hz)
 rw[hlen]
 refine⟨.ref s.heap.objs.size,_,I.laid (t':=s.toks) (o:=.tup (cutV xs lo hi)) (fun b ob q=>Heap.get?_push_of_some _ q) (Nat.le_refl _) ?_,rfl,q _ (I.hok.fresh (Nat.le_refl _))⟩
 exact⟨⟨Nat.le_trans (cutV_length xs lo hi) hz,_,Heap.get?_push_size _ rfl,rfl⟩,_,(r.drop (HT.sIx xs.length 0 lo)).take (HT.sIx xs.length xs.length hi-HT.sIx xs.length 0 lo),IsTup.new _ _⟩
def rCatT (K:PySem.W.Frag):R2:=fun x y H Q=>∃a b xs ys,x = .ref a/\y = .ref b/\SqT K H a xs/\SqT K H b ys/\xs≠[]/\xs.length+ys.length<=sizeLine /\
 (ys=[]->Q (.ref a) H)/\(ys≠[]->∀p,H p=none->Q (.ref p) (upd H p (.tup (xs++ys))))
theorem Vals.nil_iff {xs:List V}{us:List Value}(r:Vals xs us):us=[]↔xs=[]:=by
 cases r with
 | nil=>simp
 | cons _ _=>simp
theorem op_catT:OpR X (binaryOp .Add) (rCatT X.K):=by
 intro pins s σ H x y v u Q I rx ry h
 obtain⟨a,b,xs,ys,rfl,rfl,ha,hb,hx,hz,q1,q2⟩:=h
 cases rx
 cases ry
 obtain⟨its,r1,p1,_⟩:=I.tuple ha
 obtain⟨its2,r2,p2,_⟩:=I.tuple hb
 refine HT.cat_tup p1 p2 (fun z=>hx (r1.nil_iff.mp z)) (fun z=>⟨.ref a,H,I,rfl,q1 (r2.nil_iff.mp z)⟩) (fun z=>?_) (by rw[<-r1.length,<-r2.length];exact hz)
 refine⟨.ref s.heap.objs.size,_,I.laid (t':=s.toks) (o:=.tup (xs++ys)) (fun b ob q=>Heap.get?_push_of_some _ q) (Nat.le_refl _) ?_,rfl,q2 (fun w=>z (r2.nil_iff.mpr w)) _ (I.hok.fresh (Nat.le_refl _))⟩
 exact⟨⟨by rw[List.length_append];exact hz,_,Heap.get?_push_size _ rfl,rfl⟩,_,r1.append r2,IsTup.new _ _⟩
end
end L2
namespace L2
open PySem PySem.Spec PyProof.Rows
def ixN (n:Nat)(i:Int):Option Nat:=if 0<=i then (if i<n then some i.toNat else none) else if -(n:Int)<=i then some (i+n).toNat else none
def atI {α:Type}(xs:List α)(i:Int):Option α:=(ixN xs.length i).bind fun j=>xs[j]?
theorem ixN_seq {n:Nat}{i:Int}{j:Nat}(h:ixN n i=some j):seqIndex? i n=some j/\j<n /\ -(n:Int)<=i/\i<n:=by
 unfold ixN at h
 by_cases h0:0<=i
 . rw[if_pos h0] at h
   by_cases h1:i<n
   . rw[if_pos h1] at h
     have e:i.toNat=j:=Option.some.inj h
     exact⟨by rw[seqIndex_of h0 h1,e],by omega,by omega,h1⟩
   . rw[if_neg h1] at h;cases h
 . rw[if_neg h0] at h
   by_cases h1 : -(n:Int)<=i
   . rw[if_pos h1] at h
     have e:(i+n).toNat=j:=Option.some.inj h
     exact⟨by rw[seqIndex_neg (by omega) h1,e],by omega,h1,by omega⟩
   . rw[if_neg h1] at h;cases h
theorem atI_get {α:Type}{xs:List α}{i:Int}{v:α}(h:atI xs i=some v):∃j,seqIndex? i xs.length=some j/\xs[j]? = some v/\j<xs.length /\ -(xs.length:Int)<=i/\i<xs.length:=by
 unfold atI at h
 cases e:ixN xs.length i with
 | none=>rw[e] at h;cases h
 | some j=>
  rw[e] at h
  obtain⟨h1,h2,h3,h4⟩:=ixN_seq e
  exact⟨j,h1,h,h2,h3,h4⟩
theorem atI_nat {α:Type}{xs:List α}{j:Nat}{v:α}(h:xs[j]? = some v):atI xs (j:Int)=some v:=by
 have hj:j<xs.length:=(List.getElem?_eq_some_iff.mp h).1
 have e:ixN xs.length (j:Int)=some j:=by
  unfold ixN
  rw[if_pos (by omega),if_pos (by omega)];simp
 unfold atI;rw[e];exact h
theorem atI_last {α:Type}(xs:List α)(v:α):atI (xs++[v]) (-1)=some v:=by
 have hl:(xs++[v]).length=xs.length+1:=by simp
 have e:ixN (xs++[v]).length (-1)=some xs.length:=by
  unfold ixN
  rw[hl,if_neg (by decide),if_pos (by omega)]
  congr 1
  omega
 unfold atI
 rw[e]
 show (xs++[v])[xs.length]? = some v
 simp
def PlainIx (b:Expr):Prop:=∀o i,subscripted b false o i=operate [o,i] (getItem o i)
def IxR (X:Cx)(r:R2):Prop:=
 ∀(value slice:Expr)(pins:List (Addr×Obj))(s:Shared)(σ:St)(H:Hp)(x y:V)(v u:Value)(Q:VK),Inv X pins σ H s->RelV x v->RelV y u->r x y H Q ->
  subscripted slice false v u=operate [v,u] (getItem v u)->wpAny (model X.prog X.w) X.A (subscriptTail value slice v u) (EP X pins σ Q) X.xe s
def MtR (X:Cx)(id:String)(r:V->List V->Hp->VK->Prop):Prop:=
 ∀(pins:List (Addr×Obj))(s:Shared)(σ:St)(H:Hp)(x:V)(xs:List V)(v:Value)(us:List Value)(Q:VK),Inv X pins σ H s->RelV x v->Vals xs us->r x xs H Q ->
  wpAny (model X.prog X.w) X.A (call (.builtin id) (v::us)) (EP X pins σ Q) X.xe s
section
variable {X:Cx}{a b:Expr}{ta tb:TE}{pos:Pos}
theorem pe_ix {r:R2}(hr:IxR X r)(ha:PE X a ta)(hb:PE X b tb)(hs:PlainIx b):PE X (.Subscript a b pos) (tOp r ta tb):=by
 intro pins s σ H Q I h
 exact Subscript_ (binT ha hb I h fun v u s2 x y H2 I2 rx ry q=>hr a b pins s2 σ H2 x y v u Q I2 rx ry q (hs _ _))
def rIxL (K:PySem.W.Frag):R2:=fun x y H Q=>∃p xs i v,x = .ref p/\y = .int i/\SqL K H p xs/\atI xs i=some v/\Q v H
def rIxT (K:PySem.W.Frag):R2:=fun x y H Q=>∃p xs i v,x = .ref p/\y = .int i/\SqT K H p xs/\atI xs i=some v/\Q v H
theorem ix_list:IxR X (rIxL X.K):=by
 intro value slice pins s σ H x y v u Q I rx ry h hs
 obtain⟨p,xs,i,z,rfl,rfl,hq,he,q⟩:=h
 cases rx
 obtain⟨t,rfl⟩:=ry
 obtain⟨its,r,pl,hz⟩:=I.list hq
 obtain⟨j,h1,h2,h3,h4,h5⟩:=atI_get he
 obtain⟨w,ew,rw'⟩:=r.get h2
 have hl:=r.length
 have hn:=line63
 have fin:EP X pins σ Q w s:=⟨z,H,I,rw',q⟩
 by_cases h0:0<=i
 . have hj:i.toNat=j:=by
    rw[seqIndex_of h0 h5] at h1
    exact Option.some.inj h1
   exact item_listR pl.isList h0 (by omega) (by rw[hj];simpa using ew) fin hs
 . have hj:(i+(its.toArray.size:Int)).toNat=j:=by
    rw[seqIndex_neg (by omega) h4] at h1
    rw[List.size_toArray,<-hl]
    exact Option.some.inj h1
   exact subscriptTail_builtinR (x:=w) pl.isList.typeIs slot_list_getitem.lookup
    (wpAny_getItem_list_neg (Q:=fun r s'=>r=w/\EP X pins σ Q r s') pl.isList (by omega) (by rw[List.size_toArray] <;> omega) (by omega) (by rw[hj];simpa using ew) ⟨rfl,fin⟩) hs
theorem ix_tup:IxR X (rIxT X.K):=by
 intro value slice pins s σ H x y v u Q I rx ry h hs
 obtain⟨p,xs,i,z,rfl,rfl,hq,he,q⟩:=h
 cases rx
 obtain⟨t,rfl⟩:=ry
 obtain⟨its,r,pl,hz⟩:=I.tuple hq
 obtain⟨j,h1,h2,h3,h4,h5⟩:=atI_get he
 obtain⟨w,ew,rw'⟩:=r.get h2
 have hl:=r.length
 have hn:=line63
 have fin:EP X pins σ Q w s:=⟨z,H,I,rw',q⟩
 exact subscriptTail_builtinR (x:=w) pl.typeIs slot_tuple_getitem.lookup
  (getItem_tuple (j:=j) (Q:=fun r s'=>r=w/\EP X pins σ Q r s') pl (by omega) (by omega) (by rw[List.size_toArray,<-hl];exact h1) (by simpa using ew) ⟨rfl,fin⟩) hs
theorem mapSeq_set (its:List Value)(n j:Nat)(u:Value):Obj.mapSeq (·.setIfInBounds j u) { cls:=.type "list",data:=.seq its.toArray n }={ cls:=.type "list",data:=.seq (its.set j u).toArray n }:=by
 simp[Obj.mapSeq]
theorem Inv.lst {pins:List (Addr×Obj)}{σ:St}{H:Hp}{s:Shared}{p:Addr}{xs:List V}(I:Inv X pins σ H s)(h:H p=some (.lst xs)) :
 ∃(its:List Value)(n:Nat),Vals xs its/\s.heap.get? p=some { cls:=.type "list",data:=.seq its.toArray n }/\xs.length<=sizeLine:=by
 obtain⟨z,its,n,r,e⟩:=I.hok p _ h
 exact⟨its,n,r,e,z⟩
theorem Inv.lstUpd {pins:List (Addr×Obj)}{σ:St}{H:Hp}{s:Shared}{p:Addr}{xs ys:List V}{its its':List Value}{n n':Nat}{f:Obj->Obj}(I:Inv X pins σ H s)(h:H p=some (.lst xs))
 (ho:s.heap.get? p=some { cls:=.type "list",data:=.seq its.toArray n }) (hf:f { cls:=.type "list",data:=.seq its.toArray n }={ cls:=.type "list",data:=.seq its'.toArray n' }) (r:Vals ys its')(hz:ys.length<=sizeLine)(t:Nat) :
 Inv X pins σ (upd H p (.lst ys)) { s with heap:=s.heap.update p f,toks:=t }:=by
 have e:(s.heap.update p f).get? p=some { cls:=.type "list",data:=.seq its'.toArray n' }:=by
  rw[Heap.get?_update_self f ho (by rw[hf] <;> rfl),hf]
 refine I.write (x:=p) (e:=p) (by rw[h];trivial) (.inl rfl) (fun b u hb q=>(Heap.get?_update_other _ _ (Ne.symm hb)).trans q) ⟨_,e⟩ ?_
 exact⟨hz,its',n',r,e⟩
def rSetL:V->V->V->Hp->(Hp->Prop)->Prop:=fun o i v H Q=>∃p xs k j,o = .ref p/\i = .int k/\H p=some (.lst xs)/\ixN xs.length k=some j/\Q (upd H p (.lst (xs.set j v)))
theorem set_list:PSet X rSetL:=by
 intro pins s σ H o i v ov iv u Q I ro ri rv h
 obtain⟨p,xs,k,j,rfl,rfl,hp,hj,q⟩:=h
 cases ro
 obtain⟨t,rfl⟩:=ri
 obtain⟨its,n,r,ho,hz⟩:=I.lst hp
 obtain⟨h1,h2,h3,h4⟩:=ixN_seq hj
 have hl:=r.length
 have hn:=line63
 have I':Inv X pins σ (upd H p (.lst (xs.set j v))) { s with heap:=s.heap.update p (Obj.mapSeq (·.setIfInBounds j u)) }:=
  I.lstUpd hp ho (mapSeq_set its n j u) (r.set rv j) (by rw[List.length_set];exact hz) s.toks
 by_cases h0:0<=k
 . have hk:k.toNat=j:=by
    rw[seqIndex_of h0 h4] at h1
    exact Option.some.inj h1
   exact PySem.W.ki_setAt ho h0 (by omega) (by rw[List.size_toArray,<-hl];exact h4) (by rw[hk];exact⟨_,I',q⟩)
 . have hk:(k+(its.toArray.size:Int)).toNat=j:=by
    rw[seqIndex_neg (by omega) h3] at h1
    rw[List.size_toArray,<-hl]
    exact Option.some.inj h1
   exact PySem.W.ki_setBack ho (by omega) (by rw[List.size_toArray,<-hl];exact h3) (by omega) (by rw[hk];exact⟨_,I',q⟩)
theorem slice_bounds (lo hi:Option Int)(n:Nat):(sliceBounds lo hi none n).1=((HT.sIx n 0 lo:Nat):Int)/\(sliceBounds lo hi none n).2.1=((HT.sIx n n hi:Nat):Int)/\(sliceBounds lo hi none n).2.2=1:=by
 refine⟨?_,?_,rfl⟩
 . cases lo with
   | none=>simp[sliceBounds,HT.sIx]
   | some i=>
    simp only[sliceBounds,HT.sIx,Option.getD_none,show (1:Int) > 0 by decide,if_true]
    by_cases h:i<0
    . simp only[h,if_true] <;> omega
    . simp only[h,if_false] <;> omega
 . cases hi with
   | none=>simp[sliceBounds,HT.sIx]
   | some i=>
    simp only[sliceBounds,HT.sIx,Option.getD_none,show (1:Int) > 0 by decide,if_true]
    by_cases h:i<0
    . simp only[h,if_true] <;> omega
    . simp only[h,if_false] <;> omega
theorem slicePick_cut (its:List Value)(lo hi:Option Int):slicePick its.toArray lo hi none=((its.drop (HT.sIx its.length 0 lo)).take (HT.sIx its.length its.length hi-HT.sIx its.length 0 lo)).toArray:=by
 obtain⟨h1,h2,h3⟩:=slice_bounds lo hi its.toArray.size
 unfold slicePick
 rw[h1,h2,h3]
 simp only[sliceRange_one,pick_run,List.size_toArray] <;> rfl
def rSlL (K:PySem.W.Frag):V->Option Int->Option Int->Hp->VK->Prop:=fun x lo hi H Q=>∃a xs,x = .ref a/\SqL K H a xs/\∀p,H p=none->Q (.ref p) (upd H p (.lst (cutV xs lo hi)))
theorem sl_list:SlR X (rSlL X.K):=by
 intro pins s σ H x v vl vu lo hi sl Q I rx hs pl pu h
 obtain⟨a,xs,rfl,hx,q⟩:=h
 cases rx
 obtain⟨its,r,ht,hz⟩:=I.list hx
 have hlen:=r.length
 refine⟨"list",_,slot_list_getitem.lookup,ht.isList.typeIs,?_⟩
 refine wpAny_getItem_list_slice ht.isList hs pl pu .none (by simp) ?_ (by rw[List.size_toArray] <;> omega)
 rw[slicePick_cut,<-hlen]
 refine⟨.ref s.heap.objs.size,_,I.laid (t':=s.toks) (o:=.lst (cutV xs lo hi)) (fun b ob q=>Heap.get?_push_of_some _ q) (Nat.le_refl _) ?_,rfl,q _ (I.hok.fresh (Nat.le_refl _))⟩
 exact⟨Nat.le_trans (cutV_length xs lo hi) hz,_,0,(r.drop (HT.sIx xs.length 0 lo)).take (HT.sIx xs.length xs.length hi-HT.sIx xs.length 0 lo),Heap.get?_push_size _ rfl⟩
theorem call_len_seq:CallR X (.builtin "len") (fun xs H Q=>∃p ys,xs=[.ref p]/\(SqL X.K H p ys\/SqT X.K H p ys)/\Q (.int ys.length) H):=by
 intro pins s σ H xs us Q I r h
 obtain⟨p,ys,rfl,hq,q⟩:=h
 obtain⟨u,rfl,rx⟩:=vals1 r
 cases rx
 have hn:=line63
 rcases hq with hq | hq
 . obtain⟨its,r',pl,hz⟩:=I.list hq
   have hlen:=r'.length
   exact Calls.call_len_list pl.isList (by simp only[List.size_toArray] <;> omega) ⟨.int ys.length,H,I.tok _,⟨s.toks+1,by rw[List.size_toArray,hlen]⟩,q⟩
 . obtain⟨its,r',pl,hz⟩:=I.tuple hq
   have hlen:=r'.length
   exact len_tuple pl (by simp only[List.size_toArray] <;> omega) ⟨.int ys.length,H,I.tok _,⟨s.toks+1,by rw[List.size_toArray,hlen]⟩,q⟩
theorem call_tuple_of:CallR X (.type "tuple") (fun xs H Q=>∃p ys,xs=[.ref p]/\((SqL X.K H p ys/\∀l,H l=none->Q (.ref l) (upd H l (.tup ys)))\/(SqT X.K H p ys/\Q (.ref p) H))):=by
 intro pins s σ H xs us Q I r h
 obtain⟨p,ys,rfl,h⟩:=h
 obtain⟨u,rfl,rx⟩:=vals1 r
 cases rx
 rcases h with ⟨hq,q⟩ | ⟨hq,q⟩
 . obtain⟨its,r',pl,hz⟩:=I.list hq
   have hlen:=r'.length
   refine call_tuple_list pl.isList (fun h' kp=>?_) (by simp only[List.size_toArray] <;> omega)
   have I1:Inv X pins σ H { s with heap:=h' }:=I.kept (t':=s.toks) kp
   have I2:Inv X pins σ (upd H h'.objs.size (.tup ys)) { s with heap:=h'.push { cls:=.type "tuple",data:=.seq its.toArray } }:=
    I1.laid (t':=s.toks) (fun b o e=>Heap.get?_push_of_some _ e) (Nat.le_refl _) (show ObjOk X.prog X.w _ _ _ (.tup ys) from ⟨⟨hz,_,Heap.get?_push_size _ rfl,rfl⟩,its,r',IsTup.new _ _⟩)
   exact⟨.ref h'.objs.size,_,I2,rfl,q _ (I1.hok.fresh (Nat.le_refl _))⟩
 . obtain⟨its,r',pl,hz⟩:=I.tuple hq
   exact call_tuple_same pl ⟨.ref p,H,I,rfl,q⟩
def tyV (K:PySem.W.Frag)(T:String)(x:V)(H:Hp):Prop:=match x with
 | .str _=>T = "str"
 | .int _=>T = "int"
 | .ref p=>(T = "list" /\ ∃xs,SqL K H p xs)\/(T = "tuple" /\ ∃o,K.lookup p=some o/\o.cls = .type "tuple" /\ o.dict=none) \/
  (T = "dict" /\ ((∃kvs,H p=some (.dK kvs))\/∃kvs,H p=some (.dT kvs)))\/(T = "set" /\ ∃S n,H p=some (.set S n))
 | _=>False
theorem tyV_is {pins:List (Addr×Obj)}{σ:St}{H:Hp}{s:Shared}{T:String}{x:V}{v:Value}(I:Inv X pins σ H s)(r:RelV x v)(ty:tyV X.K T x H) :
 s.TypeIs v T/\∀a,v = .ref a->∃ob,s.heap.get? a=some ob/\ob.dict=none:=by
 cases x with
 | str z=>
  obtain⟨t,rfl⟩:=r
  cases (show T = "str" from ty)
  exact⟨typeIs_str s z t,fun _ e=>nomatch e⟩
 | int i=>
  obtain⟨t,rfl⟩:=r
  cases (show T = "int" from ty)
  exact⟨typeIs_int s i t,fun _ e=>nomatch e⟩
 | ref p=>
  cases r
  rcases ty with ⟨rfl,xs,hq⟩ | ⟨rfl,o,hk,hc,hd⟩ | ⟨rfl,hk⟩ | ⟨rfl,S,n,hk⟩
  . obtain⟨its,_,pl,_⟩:=I.list hq
    refine⟨pl.isList.typeIs,fun a e=>?_⟩
    cases e
    obtain⟨o,n,e,c,hd,_⟩:=pl
    exact⟨o,e,hd⟩
  . refine⟨⟨o,I.kIn p o hk,hc⟩,fun a e=>?_⟩
    cases e
    exact⟨o,I.kIn _ o hk,hd⟩
  . have z:∃o,s.heap.get? p=some o/\o.ExactDict:=by
     rcases hk with ⟨kvs,hk⟩ | ⟨kvs,hk⟩
     . obtain⟨_,_,_,_,o,_,_,e,ex,_⟩:=I.hok p _ hk
       exact⟨o,e,ex⟩
     . obtain⟨_,_,_,_,o,_,_,e,ex,_⟩:=I.hok p _ hk
       exact⟨o,e,ex⟩
    obtain⟨o,e,ex⟩:=z
    refine⟨⟨o,e,ex.1⟩,fun a e2=>?_⟩
    cases e2
    exact⟨o,e,ex.2.1⟩
  . obtain⟨o,_,_,_,e,ex,_⟩:=I.hok p _ hk
    refine⟨⟨o,e,ex.1⟩,fun a e2=>?_⟩
    cases e2
    exact⟨o,e,ex.2.1⟩
 | _=>exact False.elim ty
def tBM (K:PySem.W.Frag)(T:String)(r:V->List V->Hp->VK->Prop)(to:TE)(t:TA):TE:=fun σ H Q=>to σ H fun x H1=>tyV K T x H1/\t σ H1 fun xs H2=>r x xs H2 Q
variable {o e:Expr}{es:List Expr}{to:TE}{t:TA}{name:Str}{apos cpos:Pos}{T id:String}{r:V->List V->Hp->VK->Prop}
theorem pe_bm (pa:PlainAttrs T)(slot:Slot T name id)(hty:typeOf (.builtin id)=pure (.type "method_descriptor")) (hm:MtR X id r)(ho:PE X o to)(ha:PA X (e::es) t)
 (hbase:attributeBase o name X.env (eval o X.env)=eval o X.env:=by rfl)
 (hfew:((backTo cpos (starEach (e::es) X.env)).all (fun x=>!x.1) && (backToKw cpos (keywordEach [] X.env)).all (fun x=>x.1.isSome)
  && decide ((e::es).length+([]:List Keyword).length+(if ([]:List Keyword).isEmpty then 0 else 1)<30))=true:=by rfl)
 (hline:(apos.endLine==cpos.line)=true:=by rfl)(hs:starEach (e::es) X.env=(false,eval e X.env)::starEach es X.env:=by rfl)(hplain:(backTo cpos (starEach es X.env)).any (·.1)=false:=by rfl) :
 PE X (.Call (.Attribute o name apos) (e::es) [] cpos) (tBM X.K T r to t):=by
 intro pins s σ H Q I h
 refine wpAny_Call_method_late hbase hfew hline rfl (thn (ho pins s σ H _ I h) fun v s1 ⟨x,H1,I1,r1,ty,q1⟩=>?_)
 obtain⟨h1,h2⟩:=tyV_is I1 r1 ty
 refine⟨T,id,pa,slot,hty,h1,h2,?_⟩
 have hA:=ha cpos pins s1 σ H1 _ I1 q1
 rw[hs] at hA ⊢
 refine Calls.callWith_builtin (by show (false || (backTo cpos (starEach es X.env)).any (·.1))=false;rw[hplain] <;> rfl) (Calls.evalArgs_plain ?_)
 exact thn hA fun us s2 ⟨vs,H2,I2,r2,q2⟩=>hm pins s2 σ H2 x vs v us Q I2 r1 r2 q2
end
end L2
namespace L2
open PySem PySem.Spec PyProof.Rows
def MtM (X:Cx)(id:String)(r:V->List V->Hp->VK->Prop):Prop:=
 ∀(pins:List (Addr×Obj))(s:Shared)(σ:St)(H:Hp)(x:V)(xs:List V)(v:Value)(us:List Value)(Q:VK),Inv X pins σ H s->RelV x v->Vals xs us->r x xs H Q ->
  wpAny (model X.prog X.w) X.A (call (.builtin id) (v::us)) (EP X pins σ Q) X.xe s
theorem Vals.one:∀{x:V}{us:List Value},Vals [x] us->∃u,us=[u]/\RelV x u
 | _,_,.cons r .nil=>⟨_,rfl,r⟩
theorem Vals.rep {xs:List V}{us:List Value}(h:Vals xs us):∀k:Nat,Vals (List.replicate k xs).flatten (List.replicate k us).flatten
 | 0=>.nil
 | k+1=>by
  rw[List.replicate_succ,List.replicate_succ,List.flatten_cons,List.flatten_cons]
  exact Vals.append h (Vals.rep h k)
theorem foldl_rep (its:List Value):∀(k:Nat)(acc:List Value),
 List.foldl (fun x1 x2=>x1++x2) acc.toArray (List.replicate k its.toArray)=(acc++(List.replicate k its).flatten).toArray
 | 0,acc=>by simp
 | k+1,acc=>by
  have e:acc.toArray++its.toArray=(acc++its).toArray:=by simp
  have e2:(acc++its)++(List.replicate k its).flatten=acc++(List.replicate (k+1) its).flatten:=by
   rw[List.replicate_succ,List.flatten_cons,List.append_assoc]
  rw[<-e2,<-foldl_rep its k (acc++its),<-e,List.replicate_succ,List.foldl_cons]
section
variable {X:Cx}{pins:List (Addr×Obj)}{σ:St}{H:Hp}{s:Shared}{l b:Addr}{xs ys zs:List V}
theorem Inv.lset {its its':List Value}{n:Nat}{f:Array Value->Array Value}{t':Nat}(I:Inv X pins σ H s)(hH:H l=some (.lst xs))
 (e:s.heap.get? l=some { cls:=.type "list",data:=.seq its.toArray n }) (hf:f its.toArray=its'.toArray)(hv:Vals ys its')(hz:ys.length<=sizeLine) :
 Inv X pins σ (upd H l (.lst ys)) { s with heap:=s.heap.update l (Obj.mapSeq f),toks:=t' }:=by
 have q:=PySem.IsL.update e f
 rw[hf] at q
 refine I.write (x:=l) (e:=l) (by rw[hH];exact trivial) (.inl rfl) (fun b' u hb hu=>(Heap.get?_update_other s.heap (Obj.mapSeq f) (Ne.symm hb)).trans hu) ⟨_,q⟩ ?_
 exact⟨hz,its',_,hv,q⟩
theorem Inv.lnew {its:List Value}{t':Nat}(I:Inv X pins σ H s)(hv:Vals ys its)(hz:ys.length<=sizeLine) :
 Inv X pins σ (upd H s.heap.objs.size (.lst ys)) { s with heap:=s.heap.push { cls:=.type "list",data:=.seq its.toArray },toks:=t' }:=
 I.laid (fun _ _ q=>Heap.get?_push_of_some _ q) (Nat.le_refl _) ⟨hz,its,0,hv,Heap.get?_push_size _ rfl⟩
theorem Inv.fresh (I:Inv X pins σ H s):H s.heap.objs.size=none:=I.hok.fresh (Nat.le_refl _)
theorem Inv.lstM (I:Inv X pins σ H s)(hH:H l=some (.lst xs)):xs.length<=sizeLine/\∃(its:List Value)(n:Nat),Vals xs its/\xs.length=its.length/\s.heap.get? l=some { cls:=.type "list",data:=.seq its.toArray n }:=by
 obtain⟨z,its,n,r,e⟩:=I.hok l _ hH
 exact⟨z,its,n,r,r.length,e⟩
theorem notLongL {n:Nat}(h:n<=sizeLine):Builtin.List.listTooLong n=false:=by
 unfold Builtin.List.listTooLong
 exact decide_eq_false (by omega)
end
section
variable {X:Cx}
def rAppend:V->List V->Hp->VK->Prop:=fun x vs H Q=>∃l xs y,x = .ref l/\vs=[y]/\H l=some (.lst xs)/\xs.length<sizeLine/\Q .non (upd H l (.lst (xs++[y])))
theorem mt_append:MtM X "list.append" rAppend:=by
 intro pins s σ H x vs v us Q I rx rv h
 obtain⟨l,xs,y,rfl,rfl,hH,hz,q⟩:=h
 cases rx
 obtain⟨u,rfl,ru⟩:=rv.one
 obtain⟨z,its,n,r,hl,e⟩:=I.lstM hH
 refine call_meets F.slot_list_append ⟨_,e,rfl⟩ F.entry_list_append (F.args_list_append_2 _ _) (PySem.list_append l its.toArray n u (by rw[List.size_toArray];omega)) ⟨e,?_⟩
 refine⟨.non,_,I.lset (its':=its++[u]) hH e (by simp) (r.append (.cons ru .nil)) ?_,rfl,q⟩
 rw[List.length_append,List.length_singleton]
 omega
def rExtend:V->List V->Hp->VK->Prop:=fun x vs H Q=>∃l b xs zs,x = .ref l/\vs=[.ref b]/\H l=some (.lst xs)/\H b=some (.lst zs)/\xs.length+zs.length<=sizeLine/\Q .non (upd H l (.lst (xs++zs)))
theorem mt_extend:MtM X "list.extend" rExtend:=by
 intro pins s σ H x vs v us Q I rx rv h
 obtain⟨l,b,xs,zs,rfl,rfl,hH,hB,hz,q⟩:=h
 cases rx
 obtain⟨u,rfl,ru⟩:=rv.one
 cases ru
 obtain⟨z,its,n,r,hl,e⟩:=I.lstM hH
 obtain⟨z2,its2,n2,r2,hl2,e2⟩:=I.lstM hB
 have hsz:its.toArray.size+its2.toArray.size<=sizeLine:=by rw[List.size_toArray,List.size_toArray];omega
 have hlong:¬ (!its.toArray.isEmpty && Builtin.List.listTooLong (its.toArray.size+its2.toArray.size))=true:=by
  rw[notLongL hsz,Bool.and_false]
  exact Bool.false_ne_true
 refine call_meets F.slot_list_extend ⟨_,e,rfl⟩ F.entry_list_extend (F.args_list_extend_2 _ _)
  (AutoSeq1.list_extend_list_list_0 l its.toArray n b its2.toArray n2 hlong (by rw[List.size_toArray];omega) (by omega)) ⟨e,e2,?_⟩
 refine⟨.non,_,I.lset (its':=its++its2) hH e (by simp) (r.append r2) ?_,rfl,q⟩
 rw[List.length_append]
 omega
def rRep:R2:=fun x y H Q=>∃l k xs,x = .ref l/\y = .int k/\H l=some (.lst xs) /\ -(2 ^ 63)<=k/\k<2 ^ 63/\xs.length*k.toNat<=sizeLine /\
 ∀p,H p=none->Q (.ref p) (upd H p (.lst (List.replicate k.toNat xs).flatten))
theorem len_rep {α:Type}(xs:List α)(k:Nat):(List.replicate k xs).flatten.length=k*xs.length:=by
 induction k with
 | zero=>simp
 | succ k ih=>rw[List.replicate_succ,List.flatten_cons,List.length_append,ih,Nat.succ_mul,Nat.add_comm]
theorem op_rep:OpR X (binaryOp .Mult) rRep:=by
 intro pins s σ H x y v u Q I rx ry h
 obtain⟨l,k,xs,rfl,rfl,hH,h1,h2,hz,q⟩:=h
 cases rx
 obtain⟨t,rfl⟩:=ry
 obtain⟨z,its,n,r,hl,e⟩:=I.lstM hH
 have hlen:its.toArray.size*k.toNat<=sizeLine:=by rw[List.size_toArray,<-hl];exact hz
 have hcap:¬ its.toArray.size*k.toNat > (2 ^ 63-1)/8:=by
  have:(sizeLine:Nat)<=(2 ^ 63-1)/8:=by decide
  omega
 have hfit:¬ (!Builtin.List.listFitsIndex k)=true:=by
  rw[fitsIndex_both h1 h2]
  exact Bool.false_ne_true
 have hlong:¬ Builtin.List.listTooLong (its.toArray.size*k.toNat)=true:=by
  rw[notLongL hlen]
  exact Bool.false_ne_true
 have hnew:List.foldl (fun x1 x2=>x1++x2) #[] (List.replicate (if its.toArray.isEmpty=true then 0 else k.toNat) its.toArray)=(List.replicate k.toNat its).flatten.toArray:=by
  have f0:∀m:Nat,List.foldl (fun x1 x2=>x1++x2) #[] (List.replicate m its.toArray)=(List.replicate m its).flatten.toArray:=fun m=>by
   have:=foldl_rep its m []
   rw[List.nil_append] at this
   exact this
  rw[f0]
  cases its with
  | nil=>simp
  | cons a r'=>rw[if_neg (by simp)]
 refine wpAny_binaryOp_repeat_ref (T := "list") (U := "int") (by decide) ⟨_,e,rfl⟩ (fun s'=>typeIs_int s' k t) noFill_list_mul F.fills_int_mul F.slot_int_rmul repeat_list F.slot_int_index.lookup
  (call_meets F.slot_int_rmul (typeIs_int s k t) F.entry_int_rmul (F.args_int_rmul_2 _ _) (int___rmul___int_list k t l its.toArray n)
   ⟨e,rfl,⟨_,e,rfl⟩,call_meets F.slot_list_mul ⟨_,e,rfl⟩ F.entry_list_mul (F.args_list_mul_2 _ _) (AutoListH.list___mul___list_int_3 l its.toArray n k t hfit hcap hlong) ⟨e,?_⟩⟩)
 rw[hnew]
 exact⟨.ref _,_,I.lnew (t':=s.toks) (r.rep k.toNat) (by rw[len_rep,Nat.mul_comm];exact hz),rfl,q _ I.fresh⟩
end
section
variable {prog:Program}{w:World}{A:Around}{E:Value->Shared->Prop}{s:Shared}
set_option maxRecDepth 100000 in
end
section
variable {X:Cx}
end
end L2
namespace Att
open PySem PySem.W PySem.Calls PyProof.Rows
theorem ints_of_wellAll {P:Params}{h:Heap}:∀(ns:List Int)(vs:List Value),WellAll P h vs (ns.map WData.int)->IntsAre vs ns:=by
 intro ns
 induction ns with
 | nil=>
  intro vs w
  rw[List.map_nil] at w
  cases w
  exact .nil
 | cons n ns ih=>
  intro vs w
  rw[List.map_cons] at w
  cases w with
  | cons a b=>
   cases a
   exact .cons _ _ (ih _ b)
theorem script_of {l:OpenLaw}{n:Nat}(hn:l.most=some n){P:Params}{h:Heap}{args:List WData}{vals:List Value}
 (hpre:l.row.toRowW.claim.pre args=true)(hwl:WellAll P h vals args) :
 ∃a vs ns,vals=[Value.ref a]/\args=[WData.list (ns.map WData.int)]/\h.get? a=some { cls:=.type "list",data:=.seq vs.toArray }/\IntsAre vs ns/\ns.length<=n:=by
 have hsh:WShape.hasAll [] args [.list .int]=true:=(pre_splitW hpre).1
 have hc:l.pre.holds [] { args:=args }=true:=(pre_splitW hpre).2
 obtain⟨d,r,rfl,h1,h2⟩:=hasAllW_cons hsh
 obtain rfl:=hasAllW_nil h2
 obtain⟨xs,rfl,h3⟩:=hasW_list h1
 obtain⟨ns,rfl⟩:=items_int h3
 have hlen:ns.length<=n:=by
  unfold OpenLaw.pre at hc
  have h4:(WTm.not (.lt (.lit (.int (n:Int))) (.len (.arg 0)))).holds [] { args:=[.list (ns.map .int)] }=true:=by
   have h4:=(holds_andW hc).1
   rw[hn] at h4
   exact h4
  have h5:=condW_of h4 (w_not (w_lt w_lit (w_len_list (w_arg rfl))))
  rw[List.length_map] at h5
  refine Nat.le_of_not_lt fun q=>?_
  have q':(n:Int)<((ns.length:Nat):Int):=by omega
  first
   | (rw[decide_eq_true q'] at h5;exact absurd h5 (by decide))
   | (simp at h5;omega)
 cases hwl with
 | cons w1 w2=>
  cases w2
  cases w1 with
  | list ho hall=>exact⟨_,_,ns,rfl,rfl,ho,ints_of_wellAll ns _ hall,hlen⟩
theorem post_true (l:OpenLaw)(args:List WData):l.row.toRowW.claim.post args (.bool true) args=true:=
 postW_of (r:=l.row.toRowW) (X:=(true==true))
  (show WShape.has [] (.bool true) .bool=true by first | rfl | decide | simp[WShape.has,WShape.arms,WShape.armsAll])
  (show (WTm.eq .res (.lit (.bool true))).value [] { args:=args,res:=some (.bool true),after:=args }=some (.bool (true==true)) from w_eq_bool (w_res rfl) w_lit) rfl
theorem attach_call {l:OpenLaw}{n:Nat}{q:Program}{loose:List Str}{XP:(Str->Option Value)->Heap->Prop}{YP:World->Heap->Prop}{d:DefRec}
 (hn:l.most=some n)(hdf:d.params.defaults=[])
 (call:∀(w:World)(s₀ s₁:Shared)(mg mb:Str->Option Value)(fa:Addr)(o:Obj)(pm cd doc:Value)(a:Addr)(vs:List Value)(ns:List Int),
  Ground q loose [] XP w s₀ mg mb s₁.heap->YP w s₁.heap ->
  s₁.heap.get? fa=some o->o.data = .func (docDef d.name d.params d.body d.scope pm cd doc)->s₁.heap.CodeRec cd d.name->mg d.name=some (.ref fa) ->
  s₁.heap.get? a=some { cls:=.type "list",data:=.seq vs.toArray }->IntsAre vs ns->ns.length<=n->s₁.gens = #[] ->
  codeAny (model l.prog w) callerA (.call (.ref fa) ⟨[.ref a],[]⟩) (fun r s'=>r = .ok (.ret (.bool true))/\OldK s₁.heap s'.heap/\s'.os=s₁.os/\AllBare s'.gens) s₁) :
 WalkO q loose XP YP l.row.toRowW d [] (fun f vs=>PySem.call f vs):=by
 intro w s₀ s₁ mg mb G Y fa o pm cd doc dV kV ho hd hcd hD hmg hg args vals as hpre hlay hrd hwl hlo
 obtain rfl:dV = .none:=Dflts.none hD hdf
 obtain rfl:kV = .none:=Dflts.noKw hD
 obtain⟨a,vs,ns,rfl,rfl,hobj,hints,hlen⟩:=script_of hn hpre hwl
 refine enter_call (codeAny_mono (call w s₀ s₁ mg mb fa o pm cd doc a vs ns G Y ho (fd_plain hd) hcd hmg hobj hints hlen hg) fun r s' hq=>?_)
 obtain⟨rfl,h2,h3,h4⟩:=hq
 exact⟨.inl ⟨.bool true,.bool true,[],rfl,fun _=>rfl,.bool true,post_true l _,fun _=>⟨List.Pairwise.nil,fun _ hm=>(nomatch hm)⟩⟩,h2,h3,h4⟩
section
variable {prog:Program}{w:World}{A:Around}{E:Value->Shared->Prop}{s:Shared}{K:Frag}
end
end Att
namespace L2
open PySem PySem.Spec PyProof.Rows
theorem vals_ints:∀{vs:List Value}{ns:List Int},IntsAre vs ns->Vals (ns.map V.int) vs
 | _,_,.nil=>.nil
 | _,_,.cons n t h=>.cons ⟨t,rfl⟩ (vals_ints h)
end L2
namespace L2
open PySem PySem.Spec PyProof.Rows
end L2
namespace L2
open PySem PySem.Spec PyProof.Rows
def defArgs (s:Stmt):Arguments:=match s with
 | .FunctionDef _ a _ _ _ _ _ _ _ _=>a
 | _=>{ posonlyargs:=[],args:=[],vararg:=none,kwonlyargs:=[],kw_defaults:=[],kwarg:=none,defaults:=[] }
def defBody (s:Stmt):List Stmt:=match s with
 | .FunctionDef _ _ b _ _ _ _ _ _ _=>b
 | _=>[]
def defScope (s:Stmt):Scope:=match s with
 | .FunctionDef _ _ _ _ _ _ sc _ _ _=>sc
 | _=>{ kind:=.function,names:=[],isGenerator:=false,isCoroutine:=false }
abbrev CX0:CXT:=fun _ _ _ _ _ _=>False
abbrev E0:XK:=fun _ _ _=>False
theorem pass0 {X:Cx}:Passes CX0 X E0:=fun _ _ _ _ _ _ _ h=>h.elim
structure Fun (K:PySem.W.Frag)(x qual:Str)(st:Stmt)(f:Addr)(fd:FuncData):Prop where
 ex:∃(oc:Value)(od:Option Addr)(kV doc pm:Value)(an:Option Addr)(cdv ct:Value)(osl:Array (Option Value)),
  fd=PySem.W.fnOf x qual (defArgs st) (defBody st) (defScope st) .none kV doc pm an cdv ct/\K.lookup f=some ⟨oc,od,.func fd,osl⟩/\PySem.W.codeIn K cdv qual=true
 kp:PySem.W.keepIn K (.ref f)=true
section
variable {P:Program}{w:World}{K:PySem.W.Frag}{mg:Str->Option Value}{base:Heap}
theorem Fun.ok {x qual:Str}{st:Stmt}{f:Addr}{fd:FuncData}{N ps:List Str}{k:Nat}{sp:Sp}(F:Fun K x qual st f fd)(S:FnScope N ps (defScope st))(len:∀vs H Q E,sp vs H Q E->vs.length=ps.length)
 (hbody:∀(cdv:Value)(A:Around)(outer:List Env)(s:Shared)(H:Hp)(vs:List V)(Q:VK)(E:XK),Room k (A.deeper (envOfC qual (defScope st) s.heap.objs.size f cdv))->sp vs H Q E ->
  ∃t,PSs (cxOf CX0 P w K mg base N qual (defScope st) f cdv A outer s H E).nox (defBody st) t/\t { nx:=fun _ H'=>Q .non H',rt:=Q } (start N vs) H):FnOk P w K mg base CX0 (k+1) f fd ps sp:=by
 obtain⟨oc,od,kV,doc,pm,an,cdv,ct,osl,rfl,lk,hcd⟩:=F.ex
 refine fn_of lk hcd S len fun A outer s H vs Q E hr hsp=>?_
 obtain⟨t,h,q⟩:=hbody cdv A outer s H vs Q E hr hsp
 exact⟨t,h.nox,q⟩
theorem Fun.binds {x qual:Str}{st:Stmt}{f:Addr}{fd:FuncData}{ps:List Str}(F:Fun K x qual st f fd)
 (h:∀(kV doc pm:Value)(an:Option Addr)(cdv ct:Value)(us:List Value),us.length=ps.length->bindArgs (PySem.W.fnOf x qual (defArgs st) (defBody st) (defScope st) .none kV doc pm an cdv ct) ⟨us,[]⟩=pure (ps.zip us)):Binds K fd ps []:=by
 obtain⟨oc,od,kV,doc,pm,an,cdv,ct,osl,rfl,lk,hcd⟩:=F.ex
 exact .all (h kV doc pm an cdv ct)
theorem fun_mk {x qual:Str}{st:Stmt}{f:Addr}{oc:Value}{od an:Option Addr}{osl:Array (Option Value)}{kV doc pm cdv ct:Value}(l:K.lookup f=some ⟨oc,od,.func (PySem.W.fnOf x qual (defArgs st) (defBody st) (defScope st) .none kV doc pm an cdv ct),osl⟩)
 (c:PySem.W.codeIn K cdv qual=true)(k:PySem.W.keepIn K (.ref f)=true):Fun K x qual st f (PySem.W.fnOf x qual (defArgs st) (defBody st) (defScope st) .none kV doc pm an cdv ct):=⟨⟨oc,od,kV,doc,pm,an,cdv,ct,osl,rfl,l,c⟩,k⟩
end
theorem hu_of {A:Around}{k:Nat}(hr:Room k A):A.units+1<cLine:=Nat.lt_of_le_of_lt (Nat.add_le_add_left (by decide:1<=64) _) hr.units
section
variable {X:Cx}
theorem pv (i:Nat){x:Str}{pos:Pos}(hN:X.N[i]? = some x:=by rfl)(hv:Vis X.env.scope x:=by first | exact Or.inl rfl | exact Or.inr (Or.inl rfl) | exact Or.inr (Or.inr rfl))(hd:(x==("__debug__" : Str))=false:=by decide)
 (hcd:(x==("__classdict__" : Str))=false:=by decide):PE X (.Name x pos) (tVar i):=pe_var hN hv hd hcd
end
theorem iteF {A B:Prop}(h:B):if false=true then A else B:=by
 rw[if_neg Bool.false_ne_true]
 exact h
theorem iteT {A B:Prop}(h:A):if true=true then A else B:=by
 rw[if_pos rfl]
 exact h
theorem ite2 {c A B:Prop} [Decidable c] (h1:c->A)(h2:¬ c->B):if c then A else B:=by
 by_cases h:c
 . rw[if_pos h]
   exact h1 h
 . rw[if_neg h]
   exact h2 h
def Same (H H':Hp):Prop:=∀b o,H b=some o->H' b=some o
theorem Same.refl (H:Hp):Same H H:=fun _ _ h=>h
theorem Same.trans {H H1 H2:Hp}(a:Same H H1)(b:Same H1 H2):Same H H2:=fun c o h=>b c o (a c o h)
end L2
namespace L2
open PySem PySem.Spec PyProof.Rows
section
variable {κ:Type} [DecidableEq κ]
theorem valV_not {kvs:List (κ×V)}{k:κ}(h:valV kvs k=none):¬ k∈kvs.map (·.1):=by
 intro m
 obtain⟨p,hp,e⟩:=List.mem_map.mp m
 have q:(kvs.any fun kv=>decide (kv.1=k))=true:=List.any_eq_true.mpr ⟨p,hp,decide_eq_true e⟩
 rw[valV_any,h] at q
 exact absurd q (by simp)
theorem valV_in {kvs:List (κ×V)}{k:κ}{v:V}(h:valV kvs k=some v):k∈kvs.map (·.1):=by
 have q:(kvs.any fun kv=>decide (kv.1=k))=true:=by
  rw[valV_any,h]
  all_goals rfl
 obtain⟨p,hp,e⟩:=List.any_eq_true.mp q
 exact List.mem_map.mpr ⟨p,hp,of_decide_eq_true e⟩
theorem nd_snoc:∀{l:List κ}{k:κ},l.Nodup->¬ k∈l->(l++[k]).Nodup
 | [],k,_,_=>by simp
 | a::r,k,h,hk=>by
  obtain⟨h1,h2⟩:=List.nodup_cons.mp h
  show (a::(r++[k])).Nodup
  refine List.nodup_cons.mpr ⟨fun m=>?_,nd_snoc h2 fun m=>hk (List.mem_cons.mpr (Or.inr m))⟩
  rcases List.mem_append.mp m with q | q
  . exact h1 q
  . exact hk (List.mem_cons.mpr (Or.inl (List.mem_singleton.mp q).symm))
theorem nd_putK {kvs:List (κ×V)}{k:κ}(v:V)(hn:(kvs.map (·.1)).Nodup)(h:valV kvs k=none):((putK kvs k v).map (·.1)).Nodup:=by
 rw[putK_new v h,List.map_append]
 exact nd_snoc hn (valV_not h)
theorem dropK_pos {p:κ×V}{r:List (κ×V)}{k:κ}(e:p.1=k):dropK (p::r) k=dropK r k:=by
 unfold dropK
 rw[List.filter_cons,if_neg (by simp[e])]
theorem dropK_neg {p:κ×V}{r:List (κ×V)}{k:κ}(e:¬ p.1=k):dropK (p::r) k=p::dropK r k:=by
 unfold dropK
 rw[List.filter_cons,if_pos (by simp[e])]
theorem dropK_mem {kvs:List (κ×V)}{k:κ}{p:κ×V}(h:p∈dropK kvs k):p∈kvs:=(List.mem_filter.mp h).1
theorem nd_dropK:∀{kvs:List (κ×V)}{k:κ},(kvs.map (·.1)).Nodup->((dropK kvs k).map (·.1)).Nodup
 | [],_,_=>List.nodup_nil
 | p::r,k,h=>by
  have h:(p.1::r.map (·.1)).Nodup:=h
  obtain⟨h1,h2⟩:=List.nodup_cons.mp h
  by_cases e:p.1=k
  . rw[dropK_pos e]
    exact nd_dropK h2
  . rw[dropK_neg e]
    show (p.1::(dropK r k).map (·.1)).Nodup
    refine List.nodup_cons.mpr ⟨fun m=>h1 ?_,nd_dropK h2⟩
    obtain⟨q,hq,eq⟩:=List.mem_map.mp m
    exact List.mem_map.mpr ⟨q,dropK_mem hq,eq⟩
end
end L2
namespace L2
open PySem PySem.Spec PyProof.Rows
section
variable {X:Cx}
end
end L2
set_option Elab.async false
set_option linter.all false
set_option maxRecDepth 100000
set_option maxHeartbeats 4000000
namespace L2
open PySem PySem.Spec PyProof.Rows
theorem compLoop_gen {prog:Program}{w:World}{A:Around}{R:Result->Shared->Prop}{s:Shared}{elt target iter:Expr}{ifs:List Expr}{scope:Scope}{pos:Pos}{it acc:Value}{env:Env}(I:Nat->Shared->Prop)
 (turn:∀n s,I n s->wpAny (model prog w) A (pyNext it) (fun r s₁=>match r with
  | none=>R (.ok .next) s₁
  | some v=>wpAny (model prog w) A (letOwnedTupleGo target it v) (fun _ s₁'=>wpAny (model prog w) A (assign target env v) (fun _ s₂=>
   wpAny (model prog w) A (forIn ifs true fun c r=>if r=true then do let ok <-isTrue c env (eval c env);pure (ForInStep.yield ok) else pure (ForInStep.yield r)) (fun ok s₃=>
    if ok=true then wpAny (model prog w) A (eval elt env) (fun x s₄=>
     wpAny (model prog w) A (call (.builtin "list.append") [acc,x]) (fun _ s₅=>∃m,m<n/\I m s₅) (fun _ _=>False) s₄) (fun _ _=>False) s₃
    else ∃m,m<n/\I m s₃) (fun _ _=>False) s₂) (fun _ _=>False) s₁') (fun _ _=>False) s₁) (fun _ _=>False) s)
 (n:Nat)(h:I n s):codeAny (model prog w) A (.compLoop (.ListComp elt [⟨target,iter,ifs,0⟩] scope pos) 0 it acc env) R s:=by
 refine codeAny_loop rfl I (fun n s hI=>?_) n h
 show wpAny _ A ((compTurn (.ListComp elt [⟨target,iter,ifs,0⟩] scope pos) 0 it acc env).onRaise (fun x=>do noteFrame x env;theTreesLotGoes x)) _ _ s
 refine wpAny_noted ?_
 rw[compTurn_list]
 refine wpAny_bind (wpAny_standAt (wpAny_bind (wpAny_mono (turn n s hI) (fun r s₁ h₁=>?_) fun _ _ h'=>h'.elim)))
 cases r with
 | none=>exact wpAny_pure h₁
 | some v=>
  refine wpAny_bind (wpAny_mono h₁ (fun _ s₁' h₁'=>?_) fun _ _ h'=>h'.elim)
  refine wpAny_bind (wpAny_mono h₁' (fun _ s₂ h₂=>wpAny_bind (wpAny_mono h₂ (fun ok s₃ h₃=>?_) fun _ _ h'=>h'.elim)) fun _ _ h'=>h'.elim)
  cases ok with
  | false=>exact wpAny_pure ⟨rfl,h₃⟩
  | true=>
   exact wpAny_bind (wpAny_bind (wpAny_mono h₃ (fun x s₄ h₄=>wpAny_bind (wpAny_mono h₄ (fun _ s₅ h₅=>wpAny_pure (wpAny_pure ⟨rfl,h₅⟩)) fun _ _ h'=>h'.elim)) fun _ _ h'=>h'.elim))
def PTs (X:Cx)(ifs:List Expr)(t:TT):Prop:=
 ∀(pins:List (Addr×Obj))(s:Shared)(σ:St)(H:Hp)(Q:Bool->Hp->Prop),Inv X pins σ H s->t σ H Q ->
  wpAny (model X.prog X.w) X.A (forIn ifs true fun c r=>if r=true then do let ok <-isTrue c X.env (eval c X.env);pure (ForInStep.yield ok) else pure (ForInStep.yield r)) (TP X pins σ Q) X.xe s
def tYes:TT:=fun _ H Q=>Q true H
theorem tyes {σ:St}{H:Hp}{A B:Hp->Prop}(h:A H):tYes σ H (fun b H3=>if b=true then A H3 else B H3):=by
 show (if true=true then A H else B H)
 exact iteT h
theorem pts_nil {X:Cx}:PTs X [] tYes:=fun _ _ _ H _ I h=>wpAny_tests_nil ⟨H,I,h⟩
theorem pts_one {X:Cx}{c:Expr}{t:TT}(h:PT X c t):PTs X [c] t:=fun pins s σ H Q I q=>wpAny_tests_one (h pins s σ H Q I q)
def clOf (cells:List (Str×Addr)):List (Str×NameKind)->List (Str×Addr)->List (Str×Addr)
 | [],acc=>acc
 | (n,k)::r,acc=>if (k == .free)=true then (match cells.lookup n with | some c=>clOf cells r ((n,c)::acc) | none=>clOf cells r acc) else clOf cells r acc
theorem clOf_sub {cells:List (Str×Addr)}{x:Str}{c:Addr}:∀(names:List (Str×NameKind))(acc:List (Str×Addr)),(clOf cells names acc).lookup x=some c->acc.lookup x=some c\/cells.lookup x=some c
 | [],acc,h=>.inl h
 | (n,k)::r,acc,h=>by
  unfold clOf at h
  split at h
  . cases hc:cells.lookup n with
    | none=>rw[hc] at h;exact clOf_sub r acc h
    | some c'=>
     rw[hc] at h
     rcases clOf_sub r _ h with q | q
     . rw[List.lookup_cons] at q
       cases hx:x==n with
       | true=>
        rw[hx] at q
        have e:x=n:=by simpa using hx
        have e2:c'=c:=by simpa using q
        rw[e,hc,e2]
        exact .inr rfl
       | false=>rw[hx] at q;exact .inl q
     . exact .inr q
  . exact clOf_sub r acc h
theorem clOf_acc {cells:List (Str×Addr)}{x:Str}:∀(names:List (Str×NameKind))(acc:List (Str×Addr)),(∃c,acc.lookup x=some c)->∃c,(clOf cells names acc).lookup x=some c
 | [],acc,h=>h
 | (n,k)::r,acc,h=>by
  unfold clOf
  split
  . cases hc:cells.lookup n with
    | none=>exact clOf_acc r acc h
    | some c'=>
     refine clOf_acc r _ ?_
     rw[List.lookup_cons]
     cases hx:x==n with
     | true=>exact⟨c',rfl⟩
     | false=>exact h
  . exact clOf_acc r acc h
theorem clOf_has {cells:List (Str×Addr)}{x:Str}(hx:∃c,cells.lookup x=some c):∀(names:List (Str×NameKind))(acc:List (Str×Addr)),(x,NameKind.free)∈names->∃c,(clOf cells names acc).lookup x=some c
 | [],acc,h=>by simp at h
 | (n,k)::r,acc,h=>by
  rcases List.mem_cons.mp h with e | h
  . cases e
    obtain⟨c,hc⟩:=hx
    unfold clOf
    rw[if_pos (by rfl),hc]
    exact clOf_acc r _ ⟨c,by rw[List.lookup_cons];simp⟩
  . unfold clOf
    split
    . cases hc:cells.lookup n with
      | none=>exact clOf_has hx r acc h
      | some c'=>exact clOf_has hx r _ h
    . exact clOf_has hx r acc h
theorem closure_go {env:Env}:∀(names:List (Str×NameKind))(acc:List (Str×Addr)),(∀y∈names,y.2 = .free->∃c,env.cells.lookup y.1=some c) ->
 (forIn names acc fun (x:Str×NameKind)(cs:List (Str×Addr))=>(if (x.2 == .free)=true then (do let a <-cellOf env x.1;pure (ForInStep.yield ((x.1,a)::cs))) else pure (ForInStep.yield cs):Sem (ForInStep (List (Str×Addr)))))=pure (clOf env.cells names acc)
 | [],acc,_=>rfl
 | (n,k)::r,acc,h=>by
  rw[List.forIn_cons]
  have hr:∀y∈r,y.2 = .free->∃c,env.cells.lookup y.1=some c:=fun y hy=>h y (List.mem_cons_of_mem _ hy)
  unfold clOf
  cases hk:(k==NameKind.free) with
  | true=>
   obtain⟨c,hc⟩:=h (n,k) List.mem_cons_self (by simpa using hk)
   simp only[hk,if_true,cellOf,hc,pure_bind]
   exact closure_go r _ hr
  | false=>
   simp only[hk,Bool.false_eq_true,if_false,pure_bind]
   exact closure_go r _ hr
theorem closureFor_eq {scope:Scope}{env:Env}(h:∀y∈scope.names,y.2 = .free->∃c,env.cells.lookup y.1=some c):closureFor scope env=pure (clOf env.cells scope.names []):=by
 have e:=closure_go scope.names [] h
 simp only[closureFor]
 simp only[bind_pure]
 exact e
theorem lookup_relabel {env:Env}{x:Str}:∀(names:List (Str×NameKind)),
 (names.map fun (n,k)=>if (k==NameKind.free && env.scope.kind == .function && env.kindOf n==some .cell) then (n,NameKind.cell) else (n,k)).lookup x =
  (names.lookup x).map fun k=>if (k==NameKind.free && env.scope.kind == .function && env.kindOf x==some .cell)=true then NameKind.cell else k
 | []=>rfl
 | (n,k)::r=>by
  have ih:=lookup_relabel (env:=env) (x:=x) r
  rw[List.map_cons]
  show List.lookup x ((if (k==NameKind.free && env.scope.kind == .function && env.kindOf n==some .cell)=true then (n,NameKind.cell) else (n,k))::_)=_
  by_cases c:(k==NameKind.free && env.scope.kind == .function && env.kindOf n==some .cell)=true
  . rw[if_pos c,List.lookup_cons,List.lookup_cons]
    cases hx:x==n with
    | true=>
     have e:x=n:=by simpa using hx
     subst e
     show some NameKind.cell=Option.map _ (some k)
     rw[Option.map_some,if_pos c]
    | false=>exact ih
  . rw[if_neg c,List.lookup_cons,List.lookup_cons]
    cases hx:x==n with
    | true=>
     have e:x=n:=by simpa using hx
     subst e
     show some k=Option.map _ (some k)
     rw[Option.map_some,if_neg c]
    | false=>exact ih
def cxComp (X:Cx)(pl:List (Addr×Obj))(N':List Str)(scope:Scope)(fp:List Addr)(s3:Shared)(H3:Hp):Cx where
 prog:=X.prog
 w:=X.w
 K:=X.K
 mg:=X.mg
 base:=X.base
 A:=X.A
 N:=N'
 s₀:=s3
 H₀:=H3
 env:=compEnvC scope (clOf X.env.cells scope.names []) s3.heap.objs.size X.env
 outer:=X.stack
 stack:=X.stack
 ex:=fp
 fn:=fun _=>false
 calm:=X.calm
 pn:=pl
 xe:=fun _ _=>False
def CapOk (X:Cx)(scope:Scope):List Str->List Nat->Prop
 | [],[]=>True
 | x::cn,j::ci=>X.N[j]? = some x/\X.env.kindOf x=some .cell/\scope.names.lookup x=some .free/\CapOk X scope cn ci
 | _,_=>False
theorem CapOk.get {X:Cx}{scope:Scope}:∀{cn:List Str}{ci:List Nat}{k:Nat}{x:Str},CapOk X scope cn ci->cn[k]? = some x->∃j,ci[k]? = some j/\X.N[j]? = some x/\X.env.kindOf x=some .cell/\scope.names.lookup x=some .free
 | [],_,_,_,_,h=>by simp at h
 | _::_,[],_,_,c,_=>c.elim
 | y::cn,j::ci,0,x,c,h=>by
  obtain⟨a,b,b',_⟩:=c
  have e:y=x:=by simpa using h
  subst e
  exact⟨j,rfl,a,b,b'⟩
 | y::cn,j::ci,k+1,x,c,h=>by
  obtain⟨j',h1,h2⟩:=CapOk.get (k:=k) c.2.2.2 (by simpa using h)
  exact⟨j',by simpa using h1,h2⟩
structure CompSc (X:Cx)(scope:Scope):Prop where
 kind:scope.kind = .function
 nocell:∀y∈scope.names,y.2 ≠ .cell
 names:∀y∈scope.names,y.2 = .local->scope.names.lookup y.1=some .local
 free:∀y∈scope.names,y.2 = .free->X.env.kindOf y.1=some .cell
section
variable {X:Cx}{pins:List (Addr×Obj)}{σ:St}{H3:Hp}{s3:Shared}{scope:Scope}{fp:List Addr}{N' own cn:List Str}{ci:List Nat}{cv:List V}
theorem comp_has (ok:X.Ok)(S:CompSc X scope){x:Str}(h:(relabel scope X.env).names.lookup x=some .cell\/(relabel scope X.env).names.lookup x=some .free) :
 ∃c,(clOf X.env.cells scope.names []).lookup x=some c:=by
 have e:(relabel scope X.env).names.lookup x=(scope.names.lookup x).map fun k=>if (k==NameKind.free && X.env.scope.kind == .function && X.env.kindOf x==some .cell)=true then NameKind.cell else k:=lookup_relabel scope.names
 have hf:scope.names.lookup x=some .free:=by
  cases q:scope.names.lookup x with
  | none=>rw[e,q] at h;simp at h
  | some k=>
   by_cases hk:k = .free
   . rw[hk]
   . have hb:(k==NameKind.free)=false:=by simpa using hk
     rw[e,q] at h
     simp only[Option.map_some,hb,Bool.false_and,Bool.false_eq_true,if_false,Option.some.injEq] at h
     rcases h with h | h
     . exact absurd h (S.nocell _ (PySem.mem_of_lookup q))
     . exact absurd h hk
 exact clOf_has (ok.has x (.inl (S.free _ (PySem.mem_of_lookup hf) rfl))) scope.names [] (PySem.mem_of_lookup hf)
theorem comp_cl {x:Str}{c:Addr}(h:(clOf X.env.cells scope.names []).lookup x=some c):X.env.cells.lookup x=some c:=by
 rcases clOf_sub _ _ h with q | q
 . simp at q
 . exact q
theorem comp_ok (I:Inv X pins σ H3 s3)(S:CompSc X scope)(f:∀b∈fp,FpOk X pins H3 b)(fz:∀b∈fp,b<s3.heap.objs.size):(cxComp X (X.pn++pins) N' scope fp s3 H3).Ok where
 mod:=I.ok.mod
 kind:=S.kind
 glob:=I.ok.glob
 blt:=I.ok.blt
 above:=Nat.le_refl _
 inj:=fun x y c h1 h2=>I.ok.inj x y c (comp_cl h1) (comp_cl h2)
 has:=fun x h=>comp_has I.ok S h
 cab:=fun x c h=>by cases h
 hd:=I.ok.hd
 frames:=I.ok.frames
 stk:=.inl rfl
 exf:=fun b hb=>⟨Nat.ne_of_lt (fz b hb),fun x c h=>(f b hb).2.2.2.2.1 x c (comp_cl h)⟩
 bs:=I.bs
 bsz:=Nat.le_trans I.ok.bsz I.sz
 noex:=fun b o e hb=>by
  rcases (f b hb).2.2.2.1 with z | z
  . exact I.ok.noex b o e z
  . exact absurd (Nat.lt_of_lt_of_le (Heap.lt_size e) (Nat.le_trans I.ok.bsz z)) (Nat.lt_irrefl _)
 exfs:=fun b hb z=>by
  rcases List.mem_cons.mp (I.stkSub b z) with q | q
  . exact (f b hb).2.1 q
  . exact (f b hb).2.2.1 q
 funs:=I.stack
 frf:=I.stkFree
theorem comp_inv {h1:Heap}{t:Nat}(I:Inv X pins σ H3 s3)(S:CompSc X scope)(f:∀b∈fp,FpOk X pins H3 b)(fz:∀b∈fp,b<s3.heap.objs.size)
 (hN:N'=own++cn)(hc:CapOk X scope cn ci)(hv:ci.map (fun j=>σ[j]?)=cv.map fun v=>some (some v))(hl:cn.length=ci.length)
 (hns:h1.Ns s3.heap.objs.size (fun _=>none))(hk:∀b o,s3.heap.get? b=some o->h1.get? b=some o) :
 Inv (cxComp X (X.pn++pins) N' scope fp s3 H3) [] (List.replicate own.length none++cv.map some) H3 { s3 with heap:=h1,toks:=t }:=by
 have lenv:cv.length=ci.length:=by
  have:=congrArg List.length hv
  simpa using this.symm
 refine⟨comp_ok I S f fz,rfl,I.bare,Un.kept hk,⟨_,hns,fun i x v e1 e2 e3=>?_⟩,fun x c e=>?_,I.hok.fresh (Nat.le_refl _),fun x c e=>I.freeC x c (comp_cl e),fun p hp=>?_,I.hok.kept hk,?_⟩
 . -- a captured name
   have hi:own.length<=i:=by
    by_cases hi:own.length<=i
    . exact hi
    . rw[List.getElem?_append_left (by simpa using hi),List.getElem?_replicate] at e2
      split at e2 <;> cases e2
   rw[List.getElem?_append_right (by simpa using hi),List.length_replicate,List.getElem?_map] at e2
   have e1':(own++cn)[i]? = some x:=by rw[<-hN];exact e1
   rw[List.getElem?_append_right hi] at e1'
   obtain⟨j,hj,hNj,hkx,hfr⟩:=hc.get e1'
   have hcv:cv[i-own.length]? = some v:=by
    cases q:cv[i-own.length]? with
    | none=>rw[q] at e2;cases e2
    | some v'=>rw[q] at e2;cases e2;rfl
   have hσ:σ[j]? = some (some v):=by
    have:=congrArg (fun l:List (Option (Option V))=>l[i-own.length]?) hv
    simp only[List.getElem?_map,hj,hcv,Option.map_some,Option.some.injEq] at this
    exact this
   obtain⟨m,_,hl'⟩:=I.loc
   obtain⟨u,r,q⟩:=hl' j x v hNj hσ (.inr (.inl hkx))
   have hkd:(relabel scope X.env).names.lookup x=some .cell\/(relabel scope X.env).names.lookup x=some .free:=by
    have e:(relabel scope X.env).names.lookup x=(scope.names.lookup x).map fun k=>if (k==NameKind.free && X.env.scope.kind == .function && X.env.kindOf x==some .cell)=true then NameKind.cell else k:=lookup_relabel scope.names
    rw[e,hfr,Option.map_some]
    by_cases cc:(NameKind.free==NameKind.free && X.env.scope.kind == .function && X.env.kindOf x==some .cell)=true
    . rw[if_pos cc];exact .inl rfl
    . rw[if_neg cc];exact .inr rfl
   obtain⟨c',hc'⟩:=comp_has I.ok S hkd
   refine⟨u,r,.inr ⟨hkd,c',hc',?_⟩⟩
   rcases q with ⟨z,_⟩ | ⟨_,c,hcc,o,ho,hd⟩
   . rw[hkx] at z;cases z
   . have e:c=c':=Option.some.inj (hcc.symm.trans (comp_cl hc'))
     subst e
     exact⟨o,hk c o ho,hd⟩
 . obtain⟨v,o,ho,hd⟩:=I.cell x c (comp_cl e)
   exact⟨v,o,hk c o ho,hd⟩
 . have hp':p∈X.pn++pins:=by rw[List.append_nil] at hp;exact hp
   obtain⟨e,n,ne,nf,d⟩:=I.pin p hp'
   refine⟨hk _ _ e,n,Nat.ne_of_lt (Heap.lt_size e),fun z=>?_,d⟩
   rcases List.mem_cons.mp (I.stkSub p.1 z) with q | q
   . exact ne q
   . exact nf q
 . show (List.replicate own.length none++cv.map some).length=N'.length
   rw[hN,List.length_append,List.length_append,List.length_replicate,List.length_map,lenv,hl]
def CompRd (J:It)(own:Nat)(cv:List V)(g:TG)(ti:TT)(te:TE)(D:Addr)(H1:Hp)(Q:VK):Prop:=∃W:Nat->Nat->List V->Hp->Prop,(∃m,W 0 m [] (upd H1 D (.lst [])))/\∀i m ys H,W i m ys H ->
 (J.stop i H/\Q (.ref D) H)\/(J.go i H/\ys.length<sizeLine/\∃N:List V->Hp->Prop,(∀ys' H',N ys' H'->∃m',m'<m/\W (i+1) m' ys' H') /\
  ∀x H',J.yld i H x H'->g x (List.replicate own none++cv.map some) H' fun σ2 H2=>(σ2.length=own+cv.length/\σ2.drop own=cv.map some) /\
   ti σ2 H2 fun b H3=>if b=true then te σ2 H3 fun y H4=>H4 D=some (.lst ys)/\N (ys++[y]) (upd H4 D (.lst (ys++[y]))) else N ys H3)
def tComp (own:Nat)(ci:List Nat)(wi:TI)(g:TG)(ti:TT)(te:TE):TE:=fun σ H Q=>wi σ H fun J H1=>∃cv:List V,ci.map (fun j=>σ[j]?)=cv.map (fun v=>some (some v)) /\
 ∀D,H1 D=none->CompRd J own cv g ti te D H1 Q
theorem comp_core {elt target iter:Expr}{ifs:List Expr}{pos cpos:Pos}{wi:TI}{g:TG}{ti:TT}{te:TE}{use:Option (Value->Sem Unit)}{Q0:Value->Shared->Prop}{s:Shared}{H:Hp}{Q:VK}(hcalm:X.calm=true)(S:CompSc X scope)(hc:CapOk X scope cn ci)(hl:cn.length=ci.length)
 (hi:PI X target iter wi)(hg:∀pl fp s3 H3,PG (cxComp X pl (own++cn) scope fp s3 H3) target g)(ht:∀pl fp s3 H3,PTs (cxComp X pl (own++cn) scope fp s3 H3) ifs ti)
 (he:∀pl fp s3 H3,PE (cxComp X pl (own++cn) scope fp s3 H3) elt te)(hs:∀x,foldedSetIterable iter X.env x=pure x)(I:Inv X pins σ H s)(h:tComp own.length ci wi g ti te σ H Q)
 (fin:∀(D C:Addr)(H5:Hp)(s6:Shared)(m6:Str->Option Value),Inv X pins σ H5 s6->s6.heap.Ns C m6->H5 C=none->C≠X.env.locals->X.s₀.heap.objs.size<=C->(∀x c,X.env.cells.lookup x=some c->c≠C) ->
  (∀p∈X.pn++pins,p.1≠C)->Q (.ref D) H5->compPost (model X.prog X.w) X.A X.xe use Q0 (.ref D) C (.ok .next) s6) :
 wpAny (model X.prog X.w) X.A (comprehension (.ListComp elt [⟨target,iter,ifs,0⟩] scope pos) scope X.env cpos (newList []) false (eval iter X.env) use) Q0 X.xe s:=by
 have hcl:closureFor scope X.env=pure (clOf X.env.cells scope.names []):=closureFor_eq fun y hy hf=>I.ok.has y.1 (.inl (S.free y hy hf))
 refine wpAny_comprehension_free (use:=use) rfl hs hcl S.kind S.names ?_
 refine thn (hi pins s σ H _ I h) fun v s1 h1=>thn h1 fun itv s2 h2=>?_
 obtain⟨it,fp,tn,J,H2,e,I2,T,st2,f2,cv,hv,hD⟩:=h2
 subst e
 have lenv:cv.length=ci.length:=by
  have:=congrArg List.length hv
  simpa using this.symm
 have I3:=I2.lnew (ys:=[]) (its:=[]) (t':=s2.toks) .nil (Nat.zero_le _)
 obtain⟨W,⟨m0,w0⟩,turn⟩:=hD s2.heap.objs.size I2.fresh
 have fz:∀b∈fp,b<s2.heap.objs.size:=fun b hb=>by
  obtain⟨o,ho,_⟩:=T.obj _ _ st2 b hb
  exact Heap.lt_size ho
 refine wpAny_newObj_type ?_
 refine wpAny_newFunctionEnv S.nocell (by intro y hy;simp at hy) (fun h4 hns4 hsb4=>?_) S.kind
 generalize hs3:({ s2 with heap:=s2.heap.push { cls:=.type "list",dict:=none,data:=.seq ([]:List Value).toArray } }:Shared)=s3 at hns4 hsb4 ⊢
 have I3':Inv X pins σ (upd H2 s2.heap.objs.size (.lst [])) s3:=by rw[<-hs3];exact I3
 have hsz3:s3.heap.objs.size=s2.heap.objs.size+1:=by rw[<-hs3];exact Heap.size_push ..
 have k23:∀b o,s2.heap.get? b=some o->s3.heap.get? b=some o:=fun b o e=>by rw[<-hs3];exact Heap.get?_push_of_some _ e
 have k34:∀b o,s3.heap.get? b=some o->h4.get? b=some o:=fun b o e=>hsb4.extBut b o (Nat.ne_of_lt (Heap.lt_size e)) (Heap.get?_push_of_some _ e)
 have nD:∀b∈fp,b≠s2.heap.objs.size:=fun b hb=>Nat.ne_of_lt (fz b hb)
 have f3:∀b∈fp,FpOk X pins (upd H2 s2.heap.objs.size (.lst [])) b:=fun b hb=>⟨by rw[upd_ne (nD b hb)];exact (f2 b hb).1,(f2 b hb).2⟩
 have fz3:∀b∈fp,b<s3.heap.objs.size:=fun b hb=>by rw[hsz3];exact Nat.lt_succ_of_lt (fz b hb)
 have I4:Inv (cxComp X (X.pn++pins) (own++cn) scope fp s3 (upd H2 s2.heap.objs.size (.lst []))) [] (List.replicate own.length none++cv.map some) (upd H2 s2.heap.objs.size (.lst [])) { s3 with heap:=h4,toks:=s3.toks+([]:List (Str×Value)).length }:=
  comp_inv I3' S f3 fz3 rfl hc hv hl hns4 k34
 have st4:tn 0 h4:=T.keep _ _ _ st2 fun b hb o e=>k34 b o (k23 b o e)
 generalize hX:cxComp X (X.pn++pins) (own++cn) scope fp s3 (upd H2 s2.heap.objs.size (.lst []))=X' at I4
 have hg':PG X' target g:=by rw[<-hX];exact hg _ _ _ _
 have ht':PTs X' ifs ti:=by rw[<-hX];exact ht _ _ _ _
 have he':PE X' elt te:=by rw[<-hX];exact he _ _ _ _
 have ePr:X'.prog=X.prog:=by rw[<-hX];rfl
 have eW:X'.w=X.w:=by rw[<-hX];rfl
 have eK:X'.K=X.K:=by rw[<-hX];rfl
 have eA:X'.A=X.A:=by rw[<-hX];rfl
 have eE:X'.env=compEnvC scope (clOf X.env.cells scope.names []) s3.heap.objs.size X.env:=by rw[<-hX];rfl
 have eXe:X'.xe=fun _ _=>False:=by rw[<-hX];rfl
 have eC:X'.calm=true:=by rw[<-hX];exact hcalm
 have eex:X'.ex=fp:=by rw[<-hX];rfl
 have epn:X'.pn=X.pn++pins:=by rw[<-hX];rfl
 have es0:X'.s₀=s3:=by rw[<-hX];rfl
 have eH0:X'.H₀=upd H2 s2.heap.objs.size (.lst []):=by rw[<-hX];rfl
 have efs:X'.fs=frs X.stack:=by rw[<-hX];rfl
 have ok':=I4.ok
 have stat:∀{H':Hp},(∀b∈fp,H' b=none)->∀b∈fp,FpOk X' [] H' b:=fun hn b hb=>by
  have hb':b∈X'.ex:=by rw[eex];exact hb
  refine⟨hn b hb,(ok'.exf b hb').1,ok'.exfs b hb',.inl hb',(ok'.exf b hb').2,fun p hp=>?_⟩
  rw[epn,List.append_nil] at hp
  exact (f2 b hb).2.2.2.2.2 p hp
 have wk:∀(σ2:St),(σ2.length=own.length+cv.length/\σ2.drop own.length=cv.map some)->∀{pl:List (Addr×Obj)}{H':Hp}{s':Shared},Inv X' pl σ2 H' s'->Inv X' pl (List.replicate own.length none++cv.map some) H' s':=fun σ2 hq pl H' s' I'=>by
  refine I'.weak (by rw[hq.1,List.length_append,List.length_replicate,List.length_map]) fun i v hi=>?_
  by_cases hlt:i<own.length
  . rw[List.getElem?_append_left (by simpa using hlt),List.getElem?_replicate] at hi
    split at hi <;> cases hi
  . rw[List.getElem?_append_right (by simpa using hlt),List.length_replicate,<-hq.2,List.getElem?_drop] at hi
    rw[show own.length+(i-own.length)=i by omega] at hi
    exact hi
 have loop:codeAny (model X.prog X.w) X.A (.compLoop (.ListComp elt [⟨target,iter,ifs,0⟩] scope pos) 0 (.ref it) (.ref s2.heap.objs.size) (compEnvC scope (clOf X.env.cells scope.names []) s3.heap.objs.size X.env))
  (compPost (model X.prog X.w) X.A X.xe use Q0 (.ref s2.heap.objs.size) s3.heap.objs.size) { s3 with heap:=h4,toks:=s3.toks+([]:List (Str×Value)).length }:=by
  refine compLoop_gen (fun n s'=>∃i ys H',Inv X' [] (List.replicate own.length none++cv.map some) H' s'/\tn i s'.heap/\(∀b∈fp,H' b=none)/\W i n ys H') ?_ m0
   ⟨0,[],_,I4,st4,fun b hb=>(f3 b hb).1,w0⟩
  rintro n s5 ⟨i,ys,H5,I5,st5,fr5,w5⟩
  rcases turn i n ys H5 w5 with ⟨stop,qn⟩ | ⟨go,hsz,N,hN,step⟩
  . have d:=T.done X' ePr eW eK eC i [] s5 _ H5 (fun _ _=>False) I5 (stat fr5) st5 stop
    rw[eA] at d
    refine thn d fun r s6 ⟨hr,I6⟩=>?_
    subst hr
    obtain⟨m6,hn6,_⟩:=I6.loc
    rw[eE] at hn6
    have hn6':s6.heap.Ns s3.heap.objs.size m6:=hn6
    have un6:Un (frs X.stack) fp (upd H2 s2.heap.objs.size (.lst [])) H5 s3.heap s6.heap:=by
     have b6:=I6.base
     rw[efs,eex,eH0,es0] at b6
     exact b6
    have os6:s6.os=s3.os:=by have o6:=I6.os;rw[es0] at o6;exact o6
    have hok6:HOk X.prog X.w H5 s6.heap:=by have o6:=I6.hok;rw[ePr,eW] at o6;exact o6
    have I7:Inv X pins σ H5 s6:=I3'.call' (ch:=fp) os6 un6 hok6 I6.bare fun b hb=>⟨(f2 b hb).2.2.2.1,(f2 b hb).2.1,(f2 b hb).2.2.2.2.1,(f2 b hb).2.2.2.2.2⟩
    have fr6:H5 s3.heap.objs.size=none:=by
     have q:=I6.free
     rw[eE] at q
     exact q
    refine fin s2.heap.objs.size s3.heap.objs.size H5 s6 m6 I7 hn6' fr6 (Nat.ne_of_gt I3'.lt) I3'.sz (fun x c e=>?_) (fun p hp=>?_) qn
    . obtain⟨_,o,ho,_⟩:=I3'.cell x c e
      exact Nat.ne_of_lt (Heap.lt_size ho)
    . exact Nat.ne_of_lt (Heap.lt_size (I3'.pin p hp).1)
  . have d:=T.item X' ePr eW eK eC i [] s5 _ H5 (fun _ _=>False) I5 (stat fr5) st5 go
    rw[eA] at d
    refine thn d fun r s6 ⟨u,hr,h6⟩=>?_
    subst hr
    refine thn h6 fun _ s7 ⟨x,H7,I7,r7,y7,st7,fr7⟩=>?_
    have I7':=I7.pinned (stat fr7) (T.obj _ _ st7)
    have g7:=hg' _ s7 _ H7 x u _ I7' r7 (step x H7 y7)
    rw[ePr,eW,eA,eE,eXe] at g7
    refine thn g7 fun _ s8 ⟨σ8,H8,I8,q8,ti8⟩=>?_
    have t8:=ht' _ s8 σ8 H8 _ I8 ti8
    rw[ePr,eW,eA,eE,eXe] at t8
    refine thn t8 fun ok s9 ⟨H9,I9,q9⟩=>?_
    have again:∀{ys':List V}{H':Hp}{s':Shared},Inv X' ([]++pinsAt fp s7.heap) σ8 H' s'->N ys' H' ->
     ∃m,m<n/\∃i ys H',Inv X' [] (List.replicate own.length none++cv.map some) H' s'/\tn i s'.heap/\(∀b∈fp,H' b=none)/\W i m ys H':=fun {ys' H' s'} I' n'=>by
     obtain⟨m',hm,w'⟩:=hN ys' H' n'
     refine⟨m',hm,i+1,ys',H',(wk σ8 q8 I').unpinned,T.keep _ _ _ st7 fun b hb o e=>(I'.pin (b,o) (List.mem_append_right _ (List.mem_append_right _ (mem_pinsAt hb e)))).1,fun b hb=>?_,w'⟩
     obtain⟨o,e,_⟩:=T.obj _ _ st7 b hb
     exact (I'.pin (b,o) (List.mem_append_right _ (List.mem_append_right _ (mem_pinsAt hb e)))).2.1
    cases ok with
    | false=>exact again I9 q9
    | true=>
     have e9:=he' _ s9 σ8 H9 _ I9 q9
     rw[ePr,eW,eA,eE,eXe] at e9
     refine thn e9 fun u10 s10 ⟨y,H10,I10,r10,hD10,n10⟩=>?_
     have a10:=mt_append (X:=X') _ s10 σ8 H10 (.ref s2.heap.objs.size) [y] (.ref s2.heap.objs.size) [u10] (fun _ H'=>N (ys++[y]) H') I10 rfl (.cons r10 .nil) ⟨_,_,_,rfl,rfl,hD10,hsz,n10⟩
     rw[ePr,eW,eA,eXe] at a10
     exact thn a10 fun _ s11 ⟨_,H11,I11,_,n11⟩=>again I11 n11
 exact codeAny_compStart_list loop (T.self X.A 0 _ _ _ st4 loop)
theorem pe_comp {elt target iter:Expr}{ifs:List Expr}{pos:Pos}{wi:TI}{g:TG}{ti:TT}{te:TE}(hcalm:X.calm=true)(S:CompSc X scope)(hc:CapOk X scope cn ci)(hl:cn.length=ci.length)
 (hi:PI X target iter wi)(hg:∀pl fp s3 H3,PG (cxComp X pl (own++cn) scope fp s3 H3) target g)(ht:∀pl fp s3 H3,PTs (cxComp X pl (own++cn) scope fp s3 H3) ifs ti)
 (he:∀pl fp s3 H3,PE (cxComp X pl (own++cn) scope fp s3 H3) elt te)(hs:∀x,foldedSetIterable iter X.env x=pure x:=by intro _;rfl) :
 PE X (.ListComp elt [⟨target,iter,ifs,0⟩] scope pos) (tComp own.length ci wi g ti te):=by
 intro pins s σ H Q I h
 rw[eval_ListComp]
 exact comp_core hcalm S hc hl hi hg ht he hs I h fun D C H5 s6 m6 I7 hn fr nL ge nC nP q=>⟨m6,hn,fun h' hs'=>⟨.ref D,H5,I7.turned (t':=s6.toks) (it:=C) (fun b o hb e=>hs'.extBut b o hb e) fr nL (.inr ge) nC nP,rfl,q⟩⟩
theorem ps_setC {elt target iter:Expr}{ifs:List Expr}{pos pos' cpos:Pos}{wi:TI}{g:TG}{ti:TT}{te:TE}{i:Nat}{x:Str}(hN:X.N.Nodup)(hix:X.N[i]? = some x)(hx:Loc X.env.scope x)(hcalm:X.calm=true)(S:CompSc X scope)(hc:CapOk X scope cn ci)(hl:cn.length=ci.length)
 (hi:PI X target iter wi)(hg:∀pl fp s3 H3,PG (cxComp X pl (own++cn) scope fp s3 H3) target g)(ht:∀pl fp s3 H3,PTs (cxComp X pl (own++cn) scope fp s3 H3) ifs ti)
 (he:∀pl fp s3 H3,PE (cxComp X pl (own++cn) scope fp s3 H3) elt te)(hs:∀x,foldedSetIterable iter X.env x=pure x:=by intro _;rfl)
 (hsw:swapsWith (.ListComp elt [⟨target,iter,ifs,0⟩] scope cpos) (some (.Name x pos')) pos.line X.env=pure true:=by rfl)
 (hf:X.fn x=true\/X.env.scope.names.lookup x=some .local:=by first | exact .inl rfl | exact .inr rfl | assumption) :
 PS X (.Assign [.Name x pos'] (.ListComp elt [⟨target,iter,ifs,0⟩] scope cpos) pos) (tAsg (tComp own.length ci wi g ti te) (gName i)):=by
 intro pins s σ H D I h
 rw[exec_Assign_Name_used _ _ _ _ hsw]
 refine wpAny_bind (wpAny_standAt (wpAny_bind ?_))
 show wpAny _ X.A (do let _ <-comprehension (.ListComp elt [⟨target,iter,ifs,0⟩] scope cpos) scope X.env _ (newList []) false (eval iter X.env) (some (assign (.Name x pos') X.env))) _ _ s
 refine wpAny_bind (wpAny_mono (comp_core (use:=some (assign (.Name x pos') X.env)) (Q0:=fun _ s'=>SP X pins D .next s') hcalm S hc hl hi hg ht he hs I h (fun D' C H5 s6 m6 I7 hn fr nL ge nC nP q=>?_)) (fun _ s' hq=>wpAny_pure (wpAny_pure hq)) fun _ _ e=>e)
 obtain⟨oC,es,ep,hoC,hd,r1⟩:=hn
 have nf:C∉X.fs:=fun hb=>by
  obtain⟨_,o,ho,_⟩:=I7.ok.funs.mem hb
  exact absurd (Nat.lt_of_lt_of_le (Heap.lt_size ho) ge) (Nat.lt_irrefl _)
 have I7':Inv X (pins++[(C,oC)]) σ H5 s6:=I7.pins_of fun p hp=>by
  rcases List.mem_append.mp hp with z | z
  . exact I7.pin p (List.mem_append_right _ z)
  . rw[List.mem_singleton.mp z]
    exact⟨hoC,fr,nL,nf,fun v e=>by rw[hd] at e;cases e⟩
 show wpAny _ X.A (assign (.Name x pos') X.env (.ref D')) _ _ s6
 refine wpAny_assign_Name (store_ok I7' hN hix hx (show RelV (.ref D') (.ref D') from rfl) (fun s' I'=>?_) hf)
 have hC':=(I'.pin (C,oC) (List.mem_append_right _ (List.mem_append_right _ (List.mem_singleton.mpr rfl)))).1
 refine⟨m6,⟨oC,es,ep,hC',hd,r1⟩,fun h' hs'=>⟨_,H5,?_,q⟩⟩
 have I2:Inv X pins (σ.set i (some (.ref D'))) H5 s':=I'.pins_of fun p hp=>I'.pin p (List.mem_append_right _ (List.mem_append_left _ hp))
 exact I2.turned (t':=s'.toks) (it:=C) (fun b o hb e=>hs'.extBut b o hb e) fr nL (.inr ge) nC nP
end
def cscOk (outer inner:Scope):Bool:=inner.names.all fun y=>(y.2 != .cell) && (y.2 != .local || inner.names.lookup y.1==some .local) && (y.2 != .free || outer.names.lookup y.1==some .cell)
theorem csc {X:Cx}{scope:Scope}(hk:scope.kind = .function)(h:cscOk X.env.scope scope=true):CompSc X scope:=by
 have a:=List.all_eq_true.mp h
 refine⟨hk,fun y hy e=>?_,fun y hy e=>?_,fun y hy e=>?_⟩
 . have:=a y hy
   rw[e] at this
   simp at this
 . have:=a y hy
   rw[e] at this
   simpa using this
 . have:=a y hy
   rw[e] at this
   have h2:X.env.scope.names.lookup y.1=some .cell:=by simpa using this
   exact h2
theorem nd_of {l:List Str}(h:decide l.Nodup=true):l.Nodup:=of_decide_eq_true h
section
variable {X:Cx}{pl:List (Addr×Obj)}{N':List Str}{sc:Scope}{fp:List Addr}{s3:Shared}{H3:Hp}
theorem ix_tupC:IxR (cxComp X pl N' sc fp s3 H3) (rIxT X.K):=ix_tup
theorem ix_listC:IxR (cxComp X pl N' sc fp s3 H3) (rIxL X.K):=ix_list
end
theorem comp_list {K:PySem.W.Frag}{a:Addr}{xs:List V}{own:Nat}{g:TG}{ti:TT}{te:TE}{cv:List V}{D:Addr}{H1:Hp}{Q:VK}(Pv:Nat->List V->Hp->Prop)(h0:Pv 0 [] (upd H1 D (.lst [])))(hl:∀i ys H,Pv i ys H->SqL K H a xs)(hz:∀i ys H,Pv i ys H->ys.length<sizeLine)
 (hs:∀i x ys H,xs[i]? = some x->Pv i ys H->g x (List.replicate own none++cv.map some) H fun σ2 H2=>(σ2.length=own+cv.length/\σ2.drop own=cv.map some) /\
  ti σ2 H2 fun b H3=>if b=true then te σ2 H3 fun y H4=>H4 D=some (.lst ys)/\Pv (i+1) (ys++[y]) (upd H4 D (.lst (ys++[y]))) else Pv (i+1) ys H3)
 (hd:∀ys H,Pv xs.length ys H->Q (.ref D) H) :
 CompRd (Itl K a) own cv g ti te D H1 Q:=by
 refine⟨fun i m ys H=>m=xs.length-i/\i<=xs.length/\Pv i ys H,⟨xs.length,rfl,Nat.zero_le _,h0⟩,?_⟩
 rintro i m ys H ⟨rfl,hi,p⟩
 have q:=hl i ys H p
 by_cases hlt:i<xs.length
 . refine .inr ⟨⟨xs,xs[i],q,by simp[hlt]⟩,hz i ys H p,Pv (i+1),fun ys' H' p'=>⟨xs.length-(i+1),by omega,rfl,hlt,p'⟩,fun x H' y=>?_⟩
   obtain⟨e,y⟩:=y
   subst e
   exact hs i x ys _ (y xs q) p
 . have e:i=xs.length:=by omega
   subst e
   exact .inl ⟨⟨xs,q,Nat.le_refl _⟩,hd ys H p⟩
theorem comp_tup {K:PySem.W.Frag}{a:Addr}{xs:List V}{own:Nat}{g:TG}{ti:TT}{te:TE}{cv:List V}{D:Addr}{H1:Hp}{Q:VK}(Pv:Nat->List V->Hp->Prop)(h0:Pv 0 [] (upd H1 D (.lst [])))(hl:∀i ys H,Pv i ys H->SqT K H a xs)(hz:∀i ys H,Pv i ys H->ys.length<sizeLine)
 (hs:∀i x ys H,xs[i]? = some x->Pv i ys H->g x (List.replicate own none++cv.map some) H fun σ2 H2=>(σ2.length=own+cv.length/\σ2.drop own=cv.map some) /\
  ti σ2 H2 fun b H3=>if b=true then te σ2 H3 fun y H4=>H4 D=some (.lst ys)/\Pv (i+1) (ys++[y]) (upd H4 D (.lst (ys++[y]))) else Pv (i+1) ys H3)
 (hd:∀ys H,Pv xs.length ys H->Q (.ref D) H) :
 CompRd (Itt K a) own cv g ti te D H1 Q:=by
 refine⟨fun i m ys H=>m=xs.length-i/\i<=xs.length/\Pv i ys H,⟨xs.length,rfl,Nat.zero_le _,h0⟩,?_⟩
 rintro i m ys H ⟨rfl,hi,p⟩
 have q:=hl i ys H p
 by_cases hlt:i<xs.length
 . refine .inr ⟨⟨xs,xs[i],q,by simp[hlt]⟩,hz i ys H p,Pv (i+1),fun ys' H' p'=>⟨xs.length-(i+1),by omega,rfl,hlt,p'⟩,fun x H' y=>?_⟩
   obtain⟨e,y⟩:=y
   subst e
   exact hs i x ys _ (y xs q) p
 . have e:i=xs.length:=by omega
   subst e
   exact .inl ⟨⟨xs,q,Nat.le_refl _⟩,hd ys H p⟩
theorem comp_range {lo:Int}{n own:Nat}{g:TG}{ti:TT}{te:TE}{cv:List V}{D:Addr}{H1:Hp}{Q:VK}(Pv:Nat->List V->Hp->Prop)(h0:Pv 0 [] (upd H1 D (.lst [])))(hz:∀i ys H,Pv i ys H->ys.length<sizeLine)
 (hs:∀i ys H,i<n->Pv i ys H->g (.int (lo+i)) (List.replicate own none++cv.map some) H fun σ2 H2=>(σ2.length=own+cv.length/\σ2.drop own=cv.map some) /\
  ti σ2 H2 fun b H3=>if b=true then te σ2 H3 fun y H4=>H4 D=some (.lst ys)/\Pv (i+1) (ys++[y]) (upd H4 D (.lst (ys++[y]))) else Pv (i+1) ys H3)
 (hd:∀ys H,Pv n ys H->Q (.ref D) H) :
 CompRd (Itr lo n) own cv g ti te D H1 Q:=by
 refine⟨fun i m ys H=>m=n-i/\i<=n/\Pv i ys H,⟨n,rfl,Nat.zero_le _,h0⟩,?_⟩
 rintro i m ys H ⟨rfl,hi,p⟩
 by_cases hlt:i<n
 . refine .inr ⟨hlt,hz i ys H p,Pv (i+1),fun ys' H' p'=>⟨n-(i+1),by omega,rfl,hlt,p'⟩,fun x H' y=>?_⟩
   obtain⟨e,y⟩:=y
   subst e
   subst y
   exact hs i ys _ hlt p
 . have e:i=n:=by omega
   subst e
   exact .inl ⟨Nat.le_refl _,hd ys H p⟩
end L2
namespace SortT
open PySem.W PyProof.Rows
def ev {α:Type}(lt:Nat->Nat->Bool):KasT α->α
 | .ret a=>a
 | .ask i j k=>ev lt (k (lt i j))
theorem ev_bind {α β:Type}(lt:Nat->Nat->Bool)(f:α->KasT β):∀t:KasT α,ev lt (t.bind f)=ev lt (f (ev lt t))
 | .ret _=>rfl
 | .ask i j k=>ev_bind lt f (k (lt i j))
section
variable {O:KeyOrd}{key:Nat->O.α}
def kk (key:Nat->O.α)(p:Array Nat)(i:Nat):O.α:=key (p.getD i 0)
def Sr (key:Nat->O.α)(p:Array Nat)(n:Nat):Prop:=∀i j,i<=j->j<n->O.kle (kk key p i) (kk key p j)
def Fl (key:Nat->O.α)(p:Array Nat)(n:Nat):Prop:=∀i j,i<=j->j<n->O.kle (kk key p j) (kk key p i)
theorem kk_congr {p q:Array Nat}{i j:Nat}(h:p[i]? = q[j]?):kk key p i=kk key q j:=by
 unfold kk;rw[Array.getD_eq_getD_getElem?,Array.getD_eq_getD_getElem?,h]
theorem kk_rev {p:Array Nat}{i j:Nat}(hj:j<=p.size)(k:Nat):kk key (kas_rev p i j) k=if i<=k/\k<j then kk key p (i+j-1-k) else kk key p k:=by
 have e:=getElem?_mirror_all (i:=i) hj k
 unfold kas_rev
 by_cases h1:i<=k/\k<j
 . rw[if_pos h1] at e ⊢;exact kk_congr e
 . rw[if_neg h1] at e ⊢;exact kk_congr e
theorem kk_rev_eq {p:Array Nat}{i j:Nat}(hj:j<=p.size)(he:∀k,i<=k->k<j->kk key p k=kk key p (j-1))(k:Nat):kk key (kas_rev p i j) k=kk key p k:=by
 rw[kk_rev hj]
 split
 . rw[he _ (by omega) (by omega),he k (by omega) (by omega)]
 . rfl
theorem kk_bubble {p:Array Nat}{src d:Nat}(hs:src<p.size)(hd:d<=src)(k:Nat) :
 kk key (bubble p src d) k=if k=src-d then kk key p src else if src-d<k/\k<=src then kk key p (k-1) else kk key p k:=by
 have e:=getElem?_bubble hs d hd k
 by_cases h1:k=src-d
 . rw[if_pos h1] at e ⊢;exact kk_congr e
 . rw[if_neg h1] at e ⊢
   by_cases h2:src-d<k/\k<=src
   . rw[if_pos h2] at e ⊢;exact kk_congr e
   . rw[if_neg h2] at e ⊢;exact kk_congr e
def lt_ (key:Nat->O.α)(i j:Nat):Bool:=O.blt (key i) (key j)
theorem rev_perm (p:Array Nat)(i j:Nat):(kas_rev p i j).Perm p:=mirror_perm _ _ _ _
theorem rev_size (p:Array Nat)(i j:Nat):(kas_rev p i j).size=p.size:=(rev_perm p i j).size_eq
theorem asc_ok {p:Array Nat}:∀(f n:Nat),1<=n->Sr key p n->∃m,ev (lt_ key) (kas_asc p f n)=m/\n<=m/\m<=n+f/\Sr key p m/\(m=n+f\/O.klt (kk key p m) (kk key p (m-1)))
 | 0,n,_,hs=>⟨n,rfl,Nat.le_refl _,Nat.le_refl _,hs,.inl rfl⟩
 | f+1,n,h1,hs=>by
  show ∃m,ev (lt_ key) (if lt_ key (p.getD n 0) (p.getD (n-1) 0)=true then KasT.ret n else kas_asc p f (n+1))=m/\_
  cases hl:lt_ key (p.getD n 0) (p.getD (n-1) 0) with
  | true=>exact⟨n,by simp[ev],Nat.le_refl _,by omega,hs,.inr hl⟩
  | false=>
   have hs':Sr key p (n+1):=fun i j hij hj=>by
    by_cases hjn:j<n
    . exact hs i j hij hjn
    . have hj':j=n:=by omega
      subst hj'
      by_cases hi':i=j
      . subst hi';exact KeyOrd.kle_refl _
      . exact KeyOrd.kle_trans (hs i (j-1) (by omega) (by omega)) hl
   obtain⟨m,e,a,b,c,d⟩:=asc_ok f (n+1) (by omega) hs'
   refine⟨m,by simpa using e,by omega,by omega,c,?_⟩
   rcases d with d | d
   . exact .inl (by omega)
   . exact .inr d
theorem tail3_ok {p:Array Nat}{n nrem:Nat}(h1:1<=n)(hn:n<=nrem)(hz:nrem<=p.size)(hs:Fl key p n) :
 ∃m q,ev (lt_ key) (kas_tail3 n nrem p)=(m,q)/\q.Perm p/\1<=m/\m<=nrem/\Sr key q m:=by
 unfold kas_tail3
 have hs':Sr key (kas_rev p 0 n) n:=fun i j hij hj=>by
  rw[kk_rev (by omega),kk_rev (by omega),if_pos (by omega),if_pos (by omega)]
  exact hs _ _ (by omega) (by omega)
 obtain⟨m,e,a,b,c,_⟩:=asc_ok (nrem-n) n h1 hs'
 exact⟨m,kas_rev p 0 n,by rw[ev_bind,e];rfl,rev_perm _ _ _,by omega,by omega,c⟩
theorem desc_ok:∀(f n q:Nat)(p:Array Nat),1<=n->n+f<=p.size->Fl key p n->q+1<=n->(∀i,n-(q+1)<=i->i<n->kk key p i=kk key p (n-1)) ->
 ∃p' n' q',ev (lt_ key) (kas_desc f p n q)=(p',n',q')/\p'.Perm p/\n<=n'/\n'<=n+f/\Fl key p' n'/\q'+1<=n'/\(∀i,n'-(q'+1)<=i->i<n'->kk key p' i=kk key p' (n'-1))
 | 0,n,q,p,_,_,hs,hq,he=>⟨p,n,q,rfl,.refl _,Nat.le_refl _,Nat.le_refl _,hs,hq,he⟩
 | f+1,n,q,p,h1,hz,hs,hq,he=>by
  show ∃p' n' q',ev (lt_ key) (if lt_ key (p.getD n 0) (p.getD (n-1) 0)=true then _ else KasT.ask _ _ _)=(p',n',q')/\_
  cases hl:lt_ key (p.getD n 0) (p.getD (n-1) 0) with
  | true=>
   have step:∀xs:Array Nat,(∀k,kk key xs k=kk key p k)->Fl key xs (n+1):=fun xs hk i j hij hj=>by
    rw[hk,hk]
    by_cases hjn:j<n
    . exact hs i j hij hjn
    . have hj':j=n:=by omega
      subst hj'
      by_cases hi':i=j
      . subst hi';exact KeyOrd.kle_refl _
      . exact KeyOrd.kle_trans (KeyOrd.kle_of_klt hl) (hs i (j-1) (by omega) (by omega))
   by_cases hq0:q > 0
   . have hk:=kk_rev_eq (key:=key) (p:=p) (i:=n-(q+1)) (j:=n) (by omega) he
     obtain⟨p',n',q',e,a,b,c,d⟩:=desc_ok f (n+1) 0 (kas_rev p (n-(q+1)) n) (by omega) (by rw[rev_size];omega) (step _ hk) (by omega) (fun i h1 h2=>by congr 1;omega)
     exact⟨p',n',q',by simpa [hq0] using e,a.trans (rev_perm _ _ _),by omega,by omega,d⟩
   . obtain⟨p',n',q',e,a,b,c,d⟩:=desc_ok f (n+1) 0 p (by omega) (by omega) (step _ fun _=>rfl) (by omega) (fun i h1 h2=>by congr 1;omega)
     exact⟨p',n',q',by simpa [hq0] using e,a,by omega,by omega,d⟩
  | false=>
   show ∃p' n' q',ev (lt_ key) (if lt_ key (p.getD (n-1) 0) (p.getD n 0)=true then KasT.ret (p,n,q) else kas_desc f p (n+1) (q+1))=(p',n',q')/\_
   cases hr:lt_ key (p.getD (n-1) 0) (p.getD n 0) with
   | true=>exact⟨p,n,q,by simp[ev],.refl _,Nat.le_refl _,by omega,hs,hq,he⟩
   | false=>
    have heq:kk key p n=kk key p (n-1):=KeyOrd.kle_antisymm hr hl
    have hs':Fl key p (n+1):=fun i j hij hj=>by
     by_cases hjn:j<n
     . exact hs i j hij hjn
     . have hj':j=n:=by omega
       subst hj'
       by_cases hi':i=j
       . subst hi';exact KeyOrd.kle_refl _
       . rw[heq];exact hs i (j-1) (by omega) (by omega)
    obtain⟨p',n',q',e,a,b,c,d⟩:=desc_ok f (n+1) (q+1) p (by omega) (by omega) hs' (by omega) (fun i h1 h2=>by
     rw[show n+1-1=n by omega]
     by_cases hix:i=n
     . subst hix;rfl
     . rw[heq];exact he i (by omega) (by omega))
    exact⟨p',n',q',by simpa using e,a,by omega,by omega,d⟩
theorem descPart_ok {p:Array Nat}{n nrem:Nat}(hn:n+1<=nrem)(hz:nrem<=p.size)(hs:Fl key p (n+1)) :
 ∃m q,ev (lt_ key) (kas_descPart n nrem p)=(m,q)/\q.Perm p/\1<=m/\m<=nrem/\Sr key q m:=by
 unfold kas_descPart
 rw[ev_bind]
 obtain⟨p',n',q',e,a,b,c,d,hq,he⟩:=desc_ok (nrem-(n+1)) (n+1) 0 p (by omega) (by omega) hs (by omega) (fun i h1 h2=>by congr 1;omega)
 rw[e]
 dsimp only
 have hz':p'.size=p.size:=a.size_eq
 by_cases hq0:q' > 0
 . rw[if_pos hq0]
   have hk:=kk_rev_eq (key:=key) (p:=p') (i:=n'-(q'+1)) (j:=n') (by omega) he
   obtain⟨m,r,e2,a2,b2,c2,d2⟩:=tail3_ok (key:=key) (p:=kas_rev p' (n'-(q'+1)) n') (n:=n') (nrem:=nrem) (by omega) (by omega) (by rw[rev_size];omega) (fun i j hij hj=>by rw[hk,hk];exact d i j hij hj)
   exact⟨m,r,e2,a2.trans ((rev_perm _ _ _).trans a),b2,c2,d2⟩
 . rw[if_neg hq0]
   obtain⟨m,r,e2,a2,b2,c2,d2⟩:=tail3_ok (key:=key) (p:=p') (n:=n') (nrem:=nrem) (by omega) (by omega) (by omega) d
   exact⟨m,r,e2,a2.trans a,b2,c2,d2⟩
theorem count_ok {p:Array Nat}{nrem:Nat}(h1:1<=nrem)(hz:nrem<=p.size):∃m q,ev (lt_ key) (kas_count nrem p)=(m,q)/\q.Perm p/\1<=m/\m<=nrem/\Sr key q m:=by
 unfold kas_count
 rw[ev_bind]
 obtain⟨n,e,a,b,hsn,hor⟩:=asc_ok (key:=key) (p:=p) (nrem-1) 1 (Nat.le_refl _) (fun i j hij hj=>by have:i=j:=(by omega);subst this;exact KeyOrd.kle_refl _)
 rw[e]
 by_cases hnn:n=nrem
 . rw[if_pos (by simpa using hnn)]
   exact⟨n,p,rfl,.refl _,a,by omega,hsn⟩
 . rw[if_neg (by simpa using hnn)]
   have hlt:O.klt (kk key p n) (kk key p (n-1)):=hor.resolve_left (by omega)
   by_cases hgt:n > 1
   . rw[if_pos hgt]
     show ∃m q,ev (lt_ key) (if lt_ key (p.getD 0 0) (p.getD (n-1) 0)=true then KasT.ret (n,p) else kas_descPart n nrem (kas_rev p 0 n))=(m,q)/\_
     cases hr:lt_ key (p.getD 0 0) (p.getD (n-1) 0) with
     | true=>exact⟨n,p,by simp[ev],.refl _,a,by omega,hsn⟩
     | false=>
      have hall:∀k,0<=k->k<n->kk key p k=kk key p (n-1):=fun k _ hk=>
       KeyOrd.kle_antisymm (hsn k (n-1) (by omega) (by omega)) (KeyOrd.kle_trans hr (hsn 0 k (by omega) hk))
      have hk:=kk_rev_eq (key:=key) (p:=p) (i:=0) (j:=n) (by omega) hall
      obtain⟨m,q,e2,a2,b2,c2,d2⟩:=descPart_ok (key:=key) (p:=kas_rev p 0 n) (n:=n) (nrem:=nrem) (by omega) (by rw[rev_size];omega) (fun i j hij hj=>by
       rw[hk,hk]
       by_cases hjn:j<n
       . rw[hall i (by omega) (by omega),hall j (by omega) hjn];exact KeyOrd.kle_refl _
       . have hj':j=n:=by omega
         subst hj'
         by_cases hi':i=j
         . subst hi';exact KeyOrd.kle_refl _
         . rw[hall i (by omega) (by omega)];exact KeyOrd.kle_of_klt hlt)
      exact⟨m,q,by simpa using e2,a2.trans (rev_perm _ _ _),b2,c2,d2⟩
   . rw[if_neg hgt]
     have hn1:n=1:=by omega
     subst hn1
     refine descPart_ok (by omega) hz fun i j hij hj=>?_
     by_cases hi':i=j
     . subst hi';exact KeyOrd.kle_refl _
     . have hi0:i=0:=by omega
       have hj1:j=1:=by omega
       subst hi0;subst hj1
       exact KeyOrd.kle_of_klt hlt
theorem place_ok {p:Array Nat}{k:Nat}(hs:Sr key p k):∀(f l r:Nat),l<=r->r<=k->r-l<=f->(∀i,i<l->O.kle (kk key p i) (kk key p k))->(∀i,r<=i->i<k->O.klt (kk key p k) (kk key p i)) ->
 ∃m,ev (lt_ key) (kas_place p k f l r)=m/\m<=k/\(∀i,i<m->O.kle (kk key p i) (kk key p k))/\(∀i,m<=i->i<k->O.klt (kk key p k) (kk key p i))
 | 0,l,r,hlr,hrk,hf,hlo,hhi=>⟨l,rfl,by omega,hlo,fun i h1 h2=>hhi i (by omega) h2⟩
 | f+1,l,r,hlr,hrk,hf,hlo,hhi=>by
  unfold kas_place
  by_cases hge:l ≥ r
  . rw[if_pos hge]
    exact⟨l,rfl,by omega,hlo,fun i h1 h2=>hhi i (by omega) h2⟩
  . rw[if_neg hge]
    show ∃m,ev (lt_ key) (if lt_ key (p.getD k 0) (p.getD ((l+r)/2) 0)=true then kas_place p k f l ((l+r)/2) else kas_place p k f ((l+r)/2+1) r)=m/\_
    cases hl:lt_ key (p.getD k 0) (p.getD ((l+r)/2) 0) with
    | true=>
     obtain⟨m,e,x⟩:=place_ok hs f l ((l+r)/2) (by omega) (by omega) (by omega) hlo (fun i h1 h2=>KeyOrd.klt_of_klt_of_kle hl (hs _ _ h1 h2))
     exact⟨m,by simpa using e,x⟩
    | false=>
     obtain⟨m,e,x⟩:=place_ok hs f ((l+r)/2+1) r (by omega) (by omega) (by omega) (fun i h1=>KeyOrd.kle_trans (hs i ((l+r)/2) (by omega) (by omega)) (show O.kle _ _ from hl)) hhi
     exact⟨m,by simpa using e,x⟩
theorem bin_ok:∀(f:Nat)(p:Array Nat)(k:Nat),k+f=p.size->Sr key p k->∃q,ev (lt_ key) (kas_bin f p k)=q/\q.Perm p/\Sr key q (k+f)
 | 0,p,k,_,hs=>⟨p,rfl,.refl _,hs⟩
 | f+1,p,k,hz,hs=>by
  unfold kas_bin
  rw[ev_bind]
  obtain⟨l,e,hlk,hlo,hhi⟩:=place_ok (key:=key) hs k 0 k (by omega) (by omega) (by omega) (fun i h=>by omega) (fun i h1 h2=>by omega)
  rw[e]
  have hs':Sr key (bubble p k (k-l)) (k+1):=fun i j hij hj=>by
   rw[kk_bubble (by omega) (by omega),kk_bubble (by omega) (by omega),show k-(k-l)=l by omega]
   repeat' split
   all_goals first
    | (exfalso;omega)
    | exact KeyOrd.kle_refl _
    | exact hlo _ (by omega)
    | exact KeyOrd.kle_of_klt (hhi _ (by omega) (by omega))
    | exact hs _ _ (by omega) (by omega)
  obtain⟨q,e2,a,b⟩:=bin_ok f (bubble p k (k-l)) (k+1) (by rw[(bubble_perm p k (k-l)).size_eq];omega) hs'
  exact⟨q,e2,a.trans (bubble_perm _ _ _),by rw[show k+(f+1)=k+1+f by omega];exact b⟩
theorem sort_ok (n:Nat)(h1:1<=n):∃q,ev (lt_ key) (kas_sort n)=q/\q.Perm (List.range n).toArray/\Sr key q n:=by
 unfold kas_sort
 rw[ev_bind]
 have hz:(List.range n).toArray.size=n:=by simp
 obtain⟨m,q,e,a,b,c,d⟩:=count_ok (key:=key) (p:=(List.range n).toArray) h1 (by omega)
 rw[e]
 dsimp only
 have hq:q.size=n:=by rw[a.size_eq,hz]
 by_cases hm:m<n
 . rw[if_pos hm]
   obtain⟨r,e2,a2,b2⟩:=bin_ok (key:=key) (n-max m 1) q (max m 1) (by omega) (by rw[show max m 1=m by omega];exact d)
   exact⟨r,e2,a2.trans a,by rw[show max m 1+(n-max m 1)=n by omega] at b2;exact b2⟩
 . rw[if_neg hm]
   have:m=n:=by omega
   subst this
   exact⟨q,rfl,a,d⟩
end
end SortT
namespace SortT
open PySem.W PyProof.Rows
def WinP {α:Type}(n:Nat)(R:α->Prop):KasT α->Prop
 | .ret a=>R a
 | .ask i j k=>i<n/\j<n/\∀b,WinP n R (k b)
theorem WinP.bind {α β:Type}{n:Nat}{R:α->Prop}{R':β->Prop}{f:α->KasT β}(hf:∀a,R a->WinP n R' (f a)):∀(t:KasT α),WinP n R t->WinP n R' (t.bind f)
 | .ret a,h=>hf a h
 | .ask _ _ k,h=>⟨h.1,h.2.1,fun b=>WinP.bind hf (k b) (h.2.2 b)⟩
def Bd (n:Nat)(p:Array Nat):Prop:=∀i,p.getD i 0<n
theorem Bd.perm {n:Nat}{p q:Array Nat}(h:Bd n q)(hp:p.Perm q):Bd n p:=fun i=>by
 have h0:0<n:=Nat.lt_of_le_of_lt (Nat.zero_le _) (h 0)
 by_cases hi:i<p.size
 . have e:p.getD i 0=p[i]:=by simp[Array.getD,hi]
   rw[e]
   have hm:p[i]∈q.toList:=(Array.perm_iff_toList_perm.mp hp).mem_iff.mp (by simp)
   obtain⟨j,hj,ej⟩:=List.getElem_of_mem hm
   have hj':j<q.size:=by simpa using hj
   have:=h j
   rw[show q.getD j 0=q[j] by simp[Array.getD,hj']] at this
   rw[<-ej]
   simpa using this
 . have e:p.getD i 0=0:=by simp[Array.getD,hi]
   rw[e];exact h0
theorem asc_win {n:Nat}{p:Array Nat}(hp:Bd n p):∀f m,WinP n (fun _=>True) (kas_asc p f m)
 | 0,_=>trivial
 | f+1,m=>⟨hp _,hp _,fun b=>by
  cases b with
  | true=>exact trivial
  | false=>exact asc_win hp f (m+1)⟩
theorem desc_win {n:Nat}:∀(f:Nat)(p:Array Nat)(m q:Nat),Bd n p->WinP n (fun r=>Bd n r.1) (kas_desc f p m q)
 | 0,_,_,_,hp=>hp
 | f+1,p,m,q,hp=>⟨hp _,hp _,fun b=>by
  cases b with
  | true=>
   show WinP n _ (if q > 0 then kas_desc f (kas_rev p (m-(q+1)) m) (m+1) 0 else kas_desc f p (m+1) 0)
   split
   . exact desc_win f _ _ _ (hp.perm (rev_perm _ _ _))
   . exact desc_win f _ _ _ hp
  | false=>
   refine⟨hp _,hp _,fun d=>?_⟩
   cases d with
   | true=>exact hp
   | false=>exact desc_win f _ _ _ hp⟩
theorem tail3_win {n m nrem:Nat}{p:Array Nat}(hp:Bd n p):WinP n (fun r=>Bd n r.2) (kas_tail3 m nrem p):=by
 unfold kas_tail3
 exact WinP.bind (R:=fun _=>True) (R':=fun r=>Bd n r.2) (f:=fun k=>KasT.ret (k,kas_rev p 0 m)) (fun a _=>hp.perm (rev_perm p 0 m)) _ (asc_win (hp.perm (rev_perm p 0 m)) _ _)
theorem descPart_win {n m nrem:Nat}{p:Array Nat}(hp:Bd n p):WinP n (fun r=>Bd n r.2) (kas_descPart m nrem p):=
 WinP.bind (fun r hr=>by
  split
  . exact tail3_win (hr.perm (rev_perm _ _ _))
  . exact tail3_win hr) _ (desc_win _ _ _ _ hp)
theorem count_win {n nrem:Nat}{p:Array Nat}(hp:Bd n p):WinP n (fun r=>Bd n r.2) (kas_count nrem p):=
 WinP.bind (fun r _=>by
  split
  . exact hp
  . split
    . refine⟨hp _,hp _,fun b=>?_⟩
      cases b with
      | true=>exact hp
      | false=>exact descPart_win (hp.perm (rev_perm _ _ _))
    . exact descPart_win hp) _ (asc_win hp _ _)
theorem place_win {n k:Nat}{p:Array Nat}(hp:Bd n p):∀f l r,WinP n (fun _=>True) (kas_place p k f l r)
 | 0,_,_=>trivial
 | f+1,l,r=>by
  unfold kas_place
  split
  . exact trivial
  . refine⟨hp _,hp _,fun b=>?_⟩
    cases b with
    | true=>exact place_win hp f _ _
    | false=>exact place_win hp f _ _
theorem bin_win {n:Nat}:∀(f:Nat)(p:Array Nat)(k:Nat),Bd n p->WinP n (fun _=>True) (kas_bin f p k)
 | 0,_,_,_=>trivial
 | f+1,p,k,hp=>WinP.bind (fun l _=>bin_win f _ _ (hp.perm (bubble_perm _ _ _))) _ (place_win hp _ _ _)
theorem sort_win {n:Nat}(h:0<n):WinP n (fun _=>True) (kas_sort n):=
 WinP.bind (fun r hr=>by
  split
  . exact bin_win _ _ _ hr
  . exact trivial) _ (count_win fun i=>by
    by_cases hi:i<n
    . simp[Array.getD,hi]
    . simp[Array.getD,hi];exact h)
end SortT
namespace SortT
open PySem PySem.W PySem.Calls PyProof.Rows
theorem wp_ev {α:Type}{cmp:Nat->Nat->(Bool->Shared->Prop)->Shared->Prop}{lt:Nat->Nat->Bool}{n:Nat}{s:Shared}(hc:∀i j C,i<n->j<n->C (lt i j) s->cmp i j C s){R:α->Prop}{Q:α->Shared->Prop} :
 ∀t:KasT α,WinP n R t->Q (ev lt t) s->t.kasWp cmp Q s
 | .ret _,_,h=>h
 | .ask i j k,w,h=>hc i j _ w.1 w.2.1 (wp_ev hc (k (lt i j)) (w.2.2 _) h)
section
variable {prog:Program}{w:World}{A:Around}{E:Value->Shared->Prop}{s:Shared}
structure Put {O:KeyOrd}(key:Nat->O.α)(n:Nat)(out:List Nat):Prop where
 perm:out.Perm (List.range n)
 rise:∀(i j a b:Nat),i<=j->out[i]? = some a->out[j]? = some b->O.kle (key a) (key b)
theorem put_of {O:KeyOrd}{key:Nat->O.α}{n:Nat}{q:Array Nat}(hp:q.Perm (List.range n).toArray)(hs:Sr key q n):Put key n q.toList:=by
 have hl:q.toList.Perm (List.range n):=Array.perm_iff_toList_perm.mp hp
 refine⟨hl,fun i j a b hij ha hb=>?_⟩
 have hz:q.size=n:=by have:=hp.size_eq;simpa using this
 have hj:j<q.toList.length:=(List.getElem?_eq_some_iff.mp hb).1
 have hj':j<n:=by rw[<-hz];simpa using hj
 have h:=hs i j hij hj'
 have ga:q.getD i 0=a:=by
  rw[Array.getD_eq_getD_getElem?,<-Array.getElem?_toList,ha];rfl
 have gb:q.getD j 0=b:=by
  rw[Array.getD_eq_getD_getElem?,<-Array.getElem?_toList,hb];rfl
 unfold kk at h
 rw[ga,gb] at h
 exact h
structure Asks (prog:Program)(w:World)(A:Around)(s:Shared)(a:Addr)(vs:List Value){O:KeyOrd}(key:Nat->O.α)(κ:SortKind):Prop where
 kind:∀(h':Heap)(Q:SortKind->Shared->Prop)(E:Value->Shared->Prop),(∀b o,b≠a->s.heap.get? b=some o->h'.get? b=some o)->Q κ { s with heap:=h' }->wpAny (model prog w) A (keyKind' vs.toArray) Q E { s with heap:=h' }
 less:∀(h':Heap)(i j:Nat)(Q:Bool->Shared->Prop)(E:Value->Shared->Prop),(∀b o,b≠a->s.heap.get? b=some o->h'.get? b=some o)->i<vs.length->j<vs.length->Q (O.blt (key i) (key j)) { s with heap:=h' } ->
  wpAny (model prog w) A (keyLt' κ (vs.getD i Value.none) (vs.getD j Value.none)) Q E { s with heap:=h' }
theorem list_sort {a:Addr}{vs:List Value}{n:Nat}{P:PySem.Fin->Shared->Prop}{O:KeyOrd}{key:Nat->O.α}{κ:SortKind}(ho:s.heap.get? a=some (seqObj "list" vs.toArray n)) (h64:vs.length<64)
 (ask:2<=vs.length->Asks prog w A s a vs key κ)
 (h:∀out:List Nat,Put key vs.length out->P (.done (.ret .none)) { s with heap:=sortedHeap s.heap a vs (out.map fun i=>vs.getD i Value.none).toArray }) :
 wpAny (model prog w) A (Builtin.«list.sort» ⟨[.ref a],[]⟩) P E s:=by
 rw[list_sort_plain]
 have ha:a<s.heap.objs.size:=Heap.lt_size ho
 refine wpAny_bind (listItems_at ho rfl ?_)
 refine wpAny_bind (listUpdate_at ho rfl ?_ (by rw[List.size_toArray,sizeLine_eq];omega) (Nat.zero_le _))
 obtain⟨e1,ho1⟩:∃e1,(s.heap.update a (Obj.mapSeq fun _=>#[])).get? a=some (seqObj "list" #[] e1):=⟨_,get?_update_seq ho (fun _=>#[])⟩
 refine wpAny_bind (seqEpoch_at ho1 rfl ?_)
 refine wpAny_bind (wpAny_newTuple ?_ (by show vs.length<=_;rw[sizeLine_eq];omega))
 refine wpAny_bind (wpAny_newList ?_ (Nat.zero_le _))
 refine wpAny_holding ?_
 have ho6:(((s.heap.update a (Obj.mapSeq fun _=>#[])).push (seqObj "tuple" vs.toArray 0)).push (seqObj "list" #[] 0)).get? a=some (seqObj "list" #[] e1):=by
  rw[Heap.get?_push_ne _ _ _ (by rw[size_push',Heap.size_update];exact Nat.ne_of_lt (Nat.lt_succ_of_lt ha)),Heap.get?_push_ne _ _ _ (by rw[Heap.size_update];exact Nat.ne_of_lt ha)]
  exact ho1
 have keep:∀b o,b≠a->s.heap.get? b=some o->(((s.heap.update a (Obj.mapSeq fun _=>#[])).push (seqObj "tuple" vs.toArray 0)).push (seqObj "list" #[] 0)).get? b=some o:=fun b o hb e=>by
  refine Heap.get?_push_of_some _ (Heap.get?_push_of_some _ ?_)
  rw[Heap.get?_update_ne _ _ _ _ hb]
  exact e
 show wpAny (model prog w) A _ P E { s with heap:=((s.heap.update a (Obj.mapSeq fun _=>#[])).push (seqObj "tuple" vs.toArray 0)).push (seqObj "list" #[] 0) }
 dsimp only
 by_cases h2:vs.toArray.size<2
 . rw[if_pos h2,if_pos h2]
   refine wpAny_bind (wpAny_pure ?_)
   rw[StateT.run_pure]
   refine wpAny_bind (wpAny_pure ?_)
   dsimp only
   refine wpAny_bind (seqEpoch_at ho6 rfl ?_)
   refine wpAny_bind (listUpdate_at ho6 rfl ?_ (Nat.zero_le _) (by rw[Array.size_map];show (pairsOf vs).size<=_;rw[pairsOf_size,sizeLine_eq];omega))
   simp only[bne_self_eq_false,Bool.false_eq_true,if_false]
   refine wpAny_pure ?_
   have hlen:vs.length<2:=by simpa using h2
   have hout:(arrOf (SortSt.mk' general' (vs.toArray.zip vs.toArray) #[] 7 none)).map (·.2)=((List.range vs.length).map fun i=>vs.getD i Value.none).toArray:=by
    show (vs.toArray.zip vs.toArray).map (·.2)=_
    match vs,hlen with
    | [],_=>simp
    | [v],_=>simp
    | _::_::_,h=>exfalso;simp only[List.length_cons] at h;omega
   have fin:=h (List.range vs.length) ⟨.refl _,fun i j x y hij hx hy=>by
    have hj:j<(List.range vs.length).length:=(List.getElem?_eq_some_iff.mp hy).1
    rw[List.length_range] at hj
    have e:i=j:=by omega
    subst e
    rw[hx] at hy
    cases hy
    exact KeyOrd.kle_refl _⟩
   rw[<-hout] at fin
   exact fin
 . rw[if_neg h2,if_neg h2]
   have h2':2<=vs.length:=by
    have:¬ vs.length<2:=by simpa using h2
    omega
   have K:=ask h2'
   refine wpAny_bind (K.kind _ _ _ keep ?_)
   obtain⟨q,eq,hp,hs⟩:=sort_ok (key:=key) vs.length (by omega)
   have run:(kas_sort vs.length).kasWp (kas_ask prog w A κ vs) (fun p s'=>p=q/\s'={ s with heap:=((s.heap.update a (Obj.mapSeq fun _=>#[])).push (seqObj "tuple" vs.toArray 0)).push (seqObj "list" #[] 0) })
    { s with heap:=((s.heap.update a (Obj.mapSeq fun _=>#[])).push (seqObj "tuple" vs.toArray 0)).push (seqObj "list" #[] 0) }:=
    wp_ev (lt:=lt_ key) (n:=vs.length) (fun i j C hi hj hC=>K.less _ i j C _ keep hi hj hC) _ (sort_win (by omega)) ⟨eq,rfl⟩
   refine wpAny_bind (wpAny_mono (kat_run (ks:=vs) (vs:=vs) (Q:=fun st' s'=>∃p:Array Nat,p.size=vs.length/\arrOf st'=p.map (kas_item (vs.toArray.zip vs.toArray))/\failedOf st'=none/\p=q/\s'={ s with heap:=((s.heap.update a (Obj.mapSeq fun _=>#[])).push (seqObj "tuple" vs.toArray 0)).push (seqObj "list" #[] 0) })
    rfl h2' h64 (fun p' st' s' a1 a2 a3 a4=>⟨p',a1,a2,a3,a4⟩) run) ?_ fun _ _ e=>e)
   rintro ⟨⟨⟩,st'⟩ s' ⟨p,hsz,har,hf,rfl,rfl⟩
   dsimp only
   refine wpAny_bind (seqEpoch_at ho6 rfl ?_)
   refine wpAny_bind (listUpdate_at ho6 rfl ?_ (Nat.zero_le _) (by rw[Array.size_map,har,Array.size_map,hsz,sizeLine_eq];omega))
   rw[hf]
   simp only[bne_self_eq_false,Bool.false_eq_true,if_false]
   refine wpAny_pure ?_
   have hout:=kat_snds (ks:=vs) (vs:=vs) rfl har
   have fin:=h p.toList (put_of hp hs)
   rw[<-hout] at fin
   exact fin
theorem sorted_list {l:Addr}{vs:List Value}{Q:Value->Shared->Prop}{O:KeyOrd}{key:Nat->O.α}{κ:SortKind}(hl:s.heap.IsList l vs.toArray)(h64:vs.length<64)
 (ask:2<=vs.length->∀(s':Shared)(a:Addr),(∀b o,s.heap.get? b=some o->b≠a)->(∀b o,s.heap.get? b=some o->s'.heap.get? b=some o)->Asks prog w A.in1.in1 s' a vs key κ)
 (h:∀(D:Addr)(h':Heap)(out:List Nat)(c:Nat),Put key vs.length out->s.heap.objs.size<=D->(∀b o,s.heap.get? b=some o->h'.get? b=some o) ->
  h'.get? D=some (seqObj "list" (out.map fun i=>vs.getD i Value.none).toArray c)->Q (.ref D) { s with heap:=h' }) :
 wpAny (model prog w) A (call (.builtin "sorted") [.ref l]) Q E s:=by
 refine Calls.call_function_entry kind_sorted plain_sorted entry_sorted (args_sorted1 _) ?_
 unfold Builtin.«sorted»
 refine wpAny_bind (m:=checkCount "sorted" 1 1 _) (wpAny_pure ?_)
 refine wpAny_bind (collect_list hl ?_ (by rw[sizeLine_eq];omega))
 refine wpAny_bind (wpAny_newList ?_ (by rw[sizeLine_eq];omega))
 have hsz:((s.heap.push (seqObj "list" #[] 0)).update s.heap.objs.size (Obj.mapSeq (· ++ vs.toArray))).objs.size=s.heap.objs.size+1:=by
  rw[Heap.size_update,size_push']
 have hoL:(((s.heap.push (seqObj "list" #[] 0)).update s.heap.objs.size (Obj.mapSeq (· ++ vs.toArray))).push (seqObj "list" vs.toArray 0)).get? (s.heap.objs.size+1)=some (seqObj "list" vs.toArray 0):=by
  rw[<-hsz];exact Heap.get?_push_size _ rfl
 have keep:∀b o,s.heap.get? b=some o->(((s.heap.push (seqObj "list" #[] 0)).update s.heap.objs.size (Obj.mapSeq (· ++ vs.toArray))).push (seqObj "list" vs.toArray 0)).get? b=some o:=fun b o q=>by
  have hlt:b<s.heap.objs.size:=Heap.lt_size q
  rw[Heap.get?_push_ne _ _ _ (by rw[hsz];exact Nat.ne_of_lt (Nat.lt_succ_of_lt hlt)),Heap.get?_update_ne _ _ _ _ (Nat.ne_of_lt hlt),Heap.get?_push_ne _ _ _ (Nat.ne_of_lt hlt)]
  exact q
 show wpAny _ _ _ _ _ { s with heap:=((s.heap.push (seqObj "list" #[] 0)).update s.heap.objs.size (Obj.mapSeq (· ++ vs.toArray))).push (seqObj "list" vs.toArray 0) }
 rw[hsz]
 refine wpAny_bind (wpAny_holding (wpAny_call_entry slot_list_sort ⟨_,hoL,rfl⟩ entry_list_sort (list_sort (O:=O) (key:=key) (κ:=κ) hoL h64 (fun h2=>ask h2 _ _ (fun b o e=>Nat.ne_of_lt (Nat.lt_succ_of_lt (Heap.lt_size e))) keep) fun out hp=>⟨_,rfl,?_⟩) (args_list_sort _)))
 refine wpAny_pure ⟨_,rfl,?_⟩
 obtain⟨c,hc⟩:=sortedAll_at s.heap vs (out.map fun i=>vs.getD i Value.none).toArray
 exact h _ _ out c hp (Nat.le_succ _) (fun b o e=>sortedAll_old e) hc
end
end SortT
namespace DRaw
open PySem PySem.W PySem.Calls PyProof.Rows
def At (h:Heap)(d:Addr)(es:Array DictEntry)(ep:Nat):Prop:=∃o,h.get? d=some o/\o.ExactDict/\o.data = .dict es ep
theorem At.keep {h h':Heap}{d:Addr}{es:Array DictEntry}{ep:Nat}(x:At h d es ep)(k:∀o,h.get? d=some o->h'.get? d=some o):At h' d es ep:=
 let ⟨o,ho,r⟩:=x;⟨o,k o ho,r⟩
theorem At.lt {h:Heap}{d:Addr}{es:Array DictEntry}{ep:Nat}(x:At h d es ep):d<h.objs.size:=let ⟨_,ho,_⟩:=x;Heap.lt_size ho
theorem At.typeIs {s:Shared}{d:Addr}{es:Array DictEntry}{ep:Nat}(x:At s.heap d es ep):s.TypeIs (.ref d) "dict" := let ⟨o,ho,hc,_⟩:=x;⟨o,ho,hc.1⟩
section
variable {prog:Program}{w:World}{A:Around}{E:Value->Shared->Prop}{s:Shared}{it d:Addr}{es:Array DictEntry}{i ep:Nat}
theorem iter {Q:Value->Shared->Prop}(hd:(d==sysModules)=false)(hm:At s.heap d es ep)
 (hQ:Q (.ref s.heap.objs.size) { s with heap:=s.heap.push { cls:=.type "dict_keyiterator",data:=.fields #[.ref d,.int 0 0,.int es.size 0,.int ep 0] } }) :
 wpAny (model prog w) A (pyIter (.ref d)) Q E s:=by
 obtain⟨o,ho,hc,hdat⟩:=id hm
 have hT:=hm.typeIs
 refine wpAny_pyIter_slot hT F.slot_dict_iter (wpAny_call_entry F.slot_dict_iter hT F.entry_dict_iter ?_ (F.args_dict_iter_1 _))
 unfold Builtin.«dict.__iter__»
 refine wpAny_bind ?_
 unfold Builtin.Dict.dictSlotNone
 refine wpAny_bind (wpAny_notOrdered_dict hT ?_)
 show wpAny _ _ (pure (Value.ref d)) _ _ s
 refine wpAny_pure ?_
 show wpAny _ _ (Builtin.Dict.showsAll d >>= _) _ _ s
 unfold Builtin.Dict.showsAll
 rw[if_neg (by rw[hd];exact Bool.false_ne_true)]
 refine wpAny_bind (wpAny_pure ?_)
 refine wpAny_bind (wpAny_dictEntries ho hdat ?_)
 refine wpAny_bind (wpAny_dictEpoch ho hdat ?_)
 refine wpAny_bind (wpAny_newObj_type (wpAny_pure ⟨_,rfl, "dict_keyiterator",_,⟨_,Heap.get?_push_size _ rfl,rfl⟩,F.slot_dict_keyiterator_next.lookup,?_⟩))
 simpa [rawInt] using hQ
theorem next {Q:Option Value->Shared->Prop}(hit:s.heap.IsKeyIter it d i es.size ep)(hm:At s.heap d es ep)(hlt':i<es.size)
 (hQ:∀h',h'.IsKeyIter it d (i+1) es.size ep->Heap.SameBut it s.heap h'->Q (some es[i].key) { s with heap:=h' }):wpAny (model prog w) A (pyNext (.ref it)) Q E s:=by
 obtain⟨o,ho,hc,hd⟩:=id hit
 obtain⟨od,hod,hcd,hdd⟩:=id hm
 unfold pyNext
 refine wpAny_bind (wpAny_attempt (wpAny_callSpecial?_slot (name:=Str.ofString "__next__") hit.typeIs F.slot_dict_keyiterator_next
  (wpAny_call_entry F.slot_dict_keyiterator_next hit.typeIs F.entry_dict_keyiterator_next ?_ (F.args_dict_keyiterator_next_1 _))))
 refine wpAny_bind (wpAny_pure ?_)
 refine wpAny_bind ?_
 refine wpAny_bind ?_
 first | refine wpAny_bind (wpAny_typeNameOfWhole_keyiter hit.typeIs (wpAny_pure ?_)) | refine wpAny_bind (wpAny_typeNameOf_keyiter hit.typeIs (wpAny_pure ?_))
 refine wpAny_bind (wpAny_fieldsOf ho hd ?_)
 have hown:Builtin.Dict_items.ownsTuple "dict_keyiterator" = false:=by decide
 simp only[hown,Bool.false_eq_true,if_false]
 show wpAny _ _ (if (Value.ref d==Value.none)=true then _ else _) _ _ s
 rw[if_neg (show ¬ ((Value.ref d==Value.none)=true) from Bool.false_ne_true)]
 refine wpAny_bind (wpAny_pure ?_)
 refine wpAny_bind (wpAny_dictEntries hod hdd ?_)
 rw[if_neg (by simp)]
 refine wpAny_bind (wpAny_pure ?_)
 refine wpAny_bind (wpAny_dictEpoch hod hdd ?_)
 rw[if_neg (by simp)]
 refine wpAny_pure ?_
 simp only[show ¬ ((i:Int)<0) from by omega,if_false,Int.toNat_natCast,Array.getElem?_eq_getElem hlt']
 refine wpAny_bind ?_
 first | refine wpAny_bind (wpAny_typeNameOfWhole_keyiter hit.typeIs (wpAny_pure ?_)) | refine wpAny_bind (wpAny_typeNameOf_keyiter hit.typeIs (wpAny_pure ?_))
 refine wpAny_bind (wpAny_isOneOf_keyiter hit.typeIs ?_)
 show wpAny _ _ (setField (.ref it) 1 (rawInt ((i:Int)+1)) >>= _) _ _ s
 refine wpAny_bind (wpAny_setField ho hd (by simp) ?_)
 have hit':(s.heap.update it (Obj.mapFields (·.setIfInBounds 1 (rawInt ((i:Int)+1))))).IsKeyIter it d (i+1) es.size ep:=
  ⟨_,Heap.get?_update_self _ ho (Obj.isFreed_of_fields (Obj.data_mapFields hd _)),(Obj.cls_mapFields ..).trans hc,by rw[Obj.data_mapFields hd];simp[rawInt]⟩
 refine wpAny_bind (wpAny_holding ?_)
 refine wpAny_bind (wpAny_isOneOf_keyiter (s:={ s with heap:=s.heap.update it (Obj.mapFields (·.setIfInBounds 1 (rawInt ((i:Int)+1)))) }) hit'.typeIs ?_)
 show wpAny _ _ (pure es[i].key) _ _ _
 exact wpAny_pure (wpAny_pure ⟨_,rfl,wpAny_pure (hQ _ hit' (Heap.SameBut.update ..))⟩)
theorem stop {Q:Option Value->Shared->Prop}(hh:A.handled=none)(hit:s.heap.IsKeyIter it d i es.size ep)(hm:At s.heap d es ep)(hge:es.size<=i)
 (hQ:∀h',Heap.ExtBut it s.heap h'->Q none { s with heap:=h' }):wpAny (model prog w) A (pyNext (.ref it)) Q E s:=by
 obtain⟨o,ho,hc,hd⟩:=id hit
 obtain⟨od,hod,hcd,hdd⟩:=id hm
 unfold pyNext
 refine wpAny_bind (wpAny_attempt (wpAny_callSpecial?_slot (name:=Str.ofString "__next__") hit.typeIs F.slot_dict_keyiterator_next
  (wpAny_call_entry F.slot_dict_keyiterator_next hit.typeIs F.entry_dict_keyiterator_next ?_ (F.args_dict_keyiterator_next_1 _))))
 refine wpAny_bind (wpAny_pure ?_)
 refine wpAny_bind ?_
 refine wpAny_bind ?_
 first | refine wpAny_bind (wpAny_typeNameOfWhole_keyiter hit.typeIs (wpAny_pure ?_)) | refine wpAny_bind (wpAny_typeNameOf_keyiter hit.typeIs (wpAny_pure ?_))
 refine wpAny_bind (wpAny_fieldsOf ho hd ?_)
 have hown:Builtin.Dict_items.ownsTuple "dict_keyiterator" = false:=by decide
 simp only[hown,Bool.false_eq_true,if_false]
 show wpAny _ _ (if (Value.ref d==Value.none)=true then _ else _) _ _ s
 rw[if_neg (show ¬ ((Value.ref d==Value.none)=true) from Bool.false_ne_true)]
 refine wpAny_bind (wpAny_pure ?_)
 refine wpAny_bind (wpAny_dictEntries hod hdd ?_)
 rw[if_neg (by simp)]
 refine wpAny_bind (wpAny_pure ?_)
 refine wpAny_bind (wpAny_dictEpoch hod hdd ?_)
 rw[if_neg (by simp)]
 refine wpAny_pure ?_
 simp only[show ¬ ((i:Int)<0) from by omega,if_false,Int.toNat_natCast,Array.getElem?_eq_none hge]
 refine wpAny_bind ?_
 first | refine wpAny_bind (wpAny_typeNameOfWhole_keyiter hit.typeIs (wpAny_pure ?_)) | refine wpAny_bind (wpAny_typeNameOf_keyiter hit.typeIs (wpAny_pure ?_))
 show wpAny _ _ (setField (.ref it) 0 .none >>= _) _ _ s
 refine wpAny_bind (wpAny_setField ho hd (by simp) ?_)
 show wpAny _ _ (newExc (.type "StopIteration") [] >>= _) _ _ _
 refine wpAny_bind ?_
 simp only[newExc,newTuple]
 refine wpAny_bind (wpAny_newObj_type ?_ (by size_fits))
 refine wpAny_bind (m:=firstArgMember _ _) (wpAny_of_eq (a:=Value.none) (by first | rfl | (simp only[firstArgMember];rfl)) ?_)
 refine wpAny_newObj_type ?_ (by size_fits)
 simp only[raiseNew]
 refine wpAny_bind (wpAny_handled ?_)
 rw[show A.in1.handled=none from hh]
 refine wpAny_bind (wpAny_pure (wpAny_throw ?_))
 refine wpAny_bind (wpAny_isInstance (T := "StopIteration") (b:=true) ⟨_,Heap.get?_push_size _ rfl,rfl⟩ isSubtype_stop ?_)
 exact wpAny_pure (hQ _ (((Heap.SameBut.update ..).extBut.push _).push _))
end
section
variable {prog:Program}{w:World}{A:Around}{d:Addr}{es:Array DictEntry}{ep:Nat}
theorem walks (hh:A.handled=none)(I:Addr)(hne:d≠I):Walks prog w A I [I,d] [I] es.size (fun i v=>∃e,es[i]? = some e/\v=e.key) (fun i h=>h.IsKeyIter I d i es.size ep/\At h d es ep) where
 sub:=fun b hb=>by simp at hb;simp[hb]
 frame:=fun _ _ _ st hk=>⟨st.1.at fun o e=>hk I (by simp) o e,st.2.keep fun o e=>hk d (by simp) o e⟩
 item:=fun i s Q E hi st hQ=>next st.1 st.2 hi fun h' hit' hs'=>
  hQ _ h' s.toks ⟨es[i],by simp[hi],rfl⟩ ⟨hit',st.2.keep fun o e=>hs'.extBut d o hne e⟩ fun b o hb e=>hs'.extBut b o (fun h=>hb (by simp[h])) e
 done:=fun s Q E st hQ=>stop hh st.1 st.2 (Nat.le_refl _) fun h' he'=>hQ h' s.toks fun b o hb e=>he' b o (fun h=>hb (by simp[h])) e
 self:=fun _ _ _ _ st hQ=>wpAny_pyIter_keyiter st.1 hQ
theorem src (lo:(d==sysModules)=false):KdlSrc prog w "dict" d d es.size (fun i v=>∃e,es[i]? = some e/\v=e.key) (fun h=>At h d es ep) where
 type:=fun _ hm=>hm.typeIs
 there:=fun _ hm=>⟨hm.lt,hm.lt⟩
 keep:=fun _ _ hm hk=>hm.keep fun o e=>hk d (.inl rfl) o e
 notList:=by decide
 notTuple:=by decide
 hint:=fun _ _ _ _ hm hq=>kdl_hint_dict hm.typeIs hq
 iter:=fun _ _ hh hm=>⟨_,_,(fun _ _ hq=>iter lo hm hq),walks hh _ (Nat.ne_of_lt hm.lt),⟨⟨_,Heap.get?_push_size _ rfl,rfl,rfl⟩,hm.keep fun o e=>Heap.get?_push_of_some _ e⟩⟩
end
end DRaw
namespace SortT
open PySem PySem.W PySem.Calls PyProof.Rows
theorem sorted_dict {prog:Program}{w:World}{A:Around}{E:Value->Shared->Prop}{s:Shared}{d:Addr}{es:Array DictEntry}{ep:Nat}{vs:List Value}{Q:Value->Shared->Prop}{O:KeyOrd}{key:Nat->O.α}{κ:SortKind}
 (hh:A.handled=none)(lo:(d==sysModules)=false)(hm:DRaw.At s.heap d es ep)(hvs:vs=es.toList.map (·.key))(h64:vs.length<64)
 (ask:2<=vs.length->∀(s':Shared)(a:Addr),(∀b o,s.heap.get? b=some o->b≠a)->(∀b o,s.heap.get? b=some o->s'.heap.get? b=some o)->Asks prog w A.in1.in1 s' a vs key κ)
 (h:∀(h1:Heap)(D:Addr)(h':Heap)(t':Nat)(out:List Nat)(c:Nat),Put key vs.length out->(∀b o,s.heap.get? b=some o->h1.get? b=some o)->h1.objs.size<=D->(∀b o,h1.get? b=some o->h'.get? b=some o) ->
  h'.get? D=some (seqObj "list" (out.map fun i=>vs.getD i Value.none).toArray c)->Q (.ref D) { s with heap:=h',toks:=t' }) :
 wpAny (model prog w) A (call (.builtin "sorted") [.ref d]) Q E s:=by
 have hlen:vs.length=es.size:=by rw[hvs];simp
 refine call_function_entry kind_sorted plain_sorted entry_sorted (args_sorted1 _) ?_
 unfold Builtin.«sorted»
 refine wpAny_bind (m:=checkCount "sorted" 1 1 _) (wpAny_pure ?_)
 refine wpAny_bind (kdu_collect (A:=A.in1) (DRaw.src (es:=es) (ep:=ep) lo) hh hm (by rw[sizeLine_eq];omega) fun h1 tk acc hk hacc=>?_)
 have el:acc.toList=vs:=by
  apply List.ext_getElem?
  intro j
  by_cases hj:j<es.size
  . have hz:j<acc.size:=by rw[hacc.1];exact hj
    obtain⟨e,he,hv⟩:=hacc.2 j acc[j] (by simp[hz])
    rw[Array.getElem?_toList,Array.getElem?_eq_getElem hz,hv,hvs,List.getElem?_map,Array.getElem?_toList,he]
    rfl
  . rw[List.getElem?_eq_none (by rw[Array.length_toList,hacc.1];omega),List.getElem?_eq_none (by omega)]
 rw[el]
 refine wpAny_bind (wpAny_newList ?_ (by rw[sizeLine_eq];omega))
 have hoL:(h1.push (seqObj "list" vs.toArray 0)).get? h1.objs.size=some (seqObj "list" vs.toArray 0):=Heap.get?_push_size _ rfl
 have keep1:∀b o,h1.get? b=some o->(h1.push (seqObj "list" vs.toArray 0)).get? b=some o:=fun b o q=>Heap.get?_push_of_some _ q
 refine wpAny_bind (wpAny_holding (wpAny_call_entry slot_list_sort ⟨_,hoL,rfl⟩ entry_list_sort (list_sort (O:=O) (key:=key) (κ:=κ) hoL h64
  (fun h2=>ask h2 _ _ (fun b o e=>Nat.ne_of_lt (Heap.lt_size (hk b o e))) fun b o e=>keep1 b o (hk b o e)) fun out hp=>⟨_,rfl,?_⟩) (args_list_sort _)))
 refine wpAny_pure ⟨_,rfl,?_⟩
 obtain⟨c,hc⟩:=sortedHeap_at (vs:=vs) (out:=(out.map fun i=>vs.getD i Value.none).toArray) hoL
 refine h h1 _ _ _ out c hp hk (Nat.le_refl _) (fun b o e=>?_) hc
 have hb:b<h1.objs.size:=Heap.lt_size e
 rw[sortedHeap_old (Nat.ne_of_lt hb) (by rw[Heap.size_push];exact Nat.lt_succ_of_lt hb)]
 exact keep1 b o e
end SortT
namespace L2
open PySem PySem.Spec PyProof.Rows
theorem lex_irrefl:∀a:List Int,HT.lexLt a a=false
 | []=>rfl
 | x::r=>by rw[HT.lexLt_cons,if_pos rfl];exact lex_irrefl r
theorem lex_trans:∀a b c:List Int,HT.lexLt a b=true->HT.lexLt b c=true->HT.lexLt a c=true
 | [],[],_,h,_=>by cases h
 | [],_::_,[],_,h=>by cases h
 | [],_::_,_::_,_,_=>rfl
 | _::_,[],_,h,_=>by cases h
 | _::_,_::_,[],_,h=>by cases h
 | x::a,y::b,z::c,h1,h2=>by
  rw[HT.lexLt_cons] at h1 h2 ⊢
  by_cases e1:x=y
  . subst e1
    rw[if_pos rfl] at h1
    by_cases e2:x=z
    . subst e2
      rw[if_pos rfl] at h2 ⊢
      exact lex_trans a b c h1 h2
    . rw[if_neg e2] at h2 ⊢;exact h2
  . rw[if_neg e1] at h1
    have l1:x<y:=of_decide_eq_true h1
    by_cases e2:y=z
    . subst e2;rw[if_neg e1];exact h1
    . rw[if_neg e2] at h2
      have l2:y<z:=of_decide_eq_true h2
      rw[if_neg (by omega)]
      exact decide_eq_true (by omega)
theorem lex_total:∀a b:List Int,HT.lexLt a b=false->HT.lexLt b a=false->a=b
 | [],[],_,_=>rfl
 | [],_::_,h,_=>by cases h
 | _::_,[],_,h=>by cases h
 | x::a,y::b,h1,h2=>by
  rw[HT.lexLt_cons] at h1 h2
  by_cases e:x=y
  . subst e
    rw[if_pos rfl] at h1 h2
    rw[lex_total a b h1 h2]
  . rw[if_neg e] at h1
    rw[if_neg (Ne.symm e)] at h2
    have l1:=of_decide_eq_false h1
    have l2:=of_decide_eq_false h2
    omega
theorem lex_neg (a b c:List Int)(h:HT.lexLt a c=true):HT.lexLt a b=true\/HT.lexLt b c=true:=by
 cases h1:HT.lexLt a b with
 | true=>exact .inl rfl
 | false=>
  cases h2:HT.lexLt b a with
  | true=>exact .inr (lex_trans b a c h2 h)
  | false=>rw[<-lex_total a b h1 h2];exact .inr h
def lexO:KeyOrd:=⟨List Int,HT.lexLt,lex_irrefl,lex_trans,lex_neg,lex_total⟩
def Rises (ms:List (List Int)):Prop:=ms.Pairwise fun a b=>HT.lexLt b a=false
def TupsAre (H:Hp):List V->List (List Int)->Prop
 | [],[]=>True
 | x::xs,k::ks=>(∃a,x = .ref a/\H a=some (.tup (k.map V.int))/\k≠[])/\TupsAre H xs ks
 | _,_=>False
theorem TupsAre.length {H:Hp}:∀{xs:List V}{ks:List (List Int)},TupsAre H xs ks->xs.length=ks.length
 | [],[],_=>rfl
 | [],_::_,h=>h.elim
 | _::_,[],h=>h.elim
 | _::_,_::_,h=>by rw[List.length_cons,List.length_cons,TupsAre.length h.2]
theorem TupsAre.get {H:Hp}:∀{xs:List V}{ks:List (List Int)}{i:Nat}{x:V},TupsAre H xs ks->xs[i]? = some x->∃a k,x = .ref a/\ks[i]? = some k/\H a=some (.tup (k.map V.int))/\k≠[]
 | [],_,_,_,_,h=>by simp at h
 | _::_,[],_,_,h,_=>h.elim
 | y::_,k::_,0,x,h,e=>by
  obtain⟨⟨a,h1,h2,h3⟩,_⟩:=h
  have e':y=x:=by simpa using e
  subst e'
  exact⟨a,k,h1,rfl,h2,h3⟩
 | _::_,_::_,i+1,x,h,e=>by
  obtain⟨a,k,h1,h2,h3⟩:=TupsAre.get (i:=i) h.2 (by simpa using e)
  exact⟨a,k,h1,by simpa using h2,h3⟩
theorem TupsAre.mk {H:Hp}:∀{xs:List V}{ks:List (List Int)},xs.length=ks.length->(∀(i:Nat)(x:V)(k:List Int),xs[i]? = some x->ks[i]? = some k->∃a,x=V.ref a/\H a=some (.tup (k.map V.int))/\k≠[])->TupsAre H xs ks
 | [],[],_,_=>trivial
 | [],_::_,e,_=>by simp at e
 | _::_,[],e,_=>by simp at e
 | x::xs,k::ks,e,h=>⟨h 0 x k rfl rfl,TupsAre.mk (by simpa using e) fun i x' k' h1 h2=>h (i+1) x' k' (by simpa using h1) (by simpa using h2)⟩
theorem TupsAre.keep {H H':Hp}{xs:List V}{ks:List (List Int)}(h:TupsAre H xs ks)(k:∀b ys,H b=some (.tup ys)->H' b=some (.tup ys)):TupsAre H' xs ks:=
 TupsAre.mk h.length fun i x c h1 h2=>by
  obtain⟨a,c',e1,e2,e3,e4⟩:=h.get h1
  rw[h2] at e2
  cases e2
  exact⟨a,e1,k a _ e3,e4⟩
theorem TupsAre.snoc {H:Hp}:∀{xs:List V}{ks:List (List Int)}{x:V}{k:List Int},TupsAre H xs ks->(∃a,x = .ref a/\H a=some (.tup (k.map V.int))/\k≠[])->TupsAre H (xs++[x]) (ks++[k])
 | [],[],_,_,_,h=>⟨h,trivial⟩
 | [],_::_,_,_,t,_=>t.elim
 | _::_,[],_,_,t,_=>t.elim
 | _::_,_::_,_,_,t,h=>⟨t.1,TupsAre.snoc t.2 h⟩
section
variable {prog:Program}{w:World}{A:Around}{s:Shared}
theorem katLex_ints {fin:Bool}{Q:Bool->Shared->Prop}:∀(ns ms:List Int)(us ws:List Value)(i:Nat),IntsAre us ns->IntsAre ws ms->fin=decide (ns.length<ms.length)->Q (HT.lexLt ns ms) s ->
 PySem.W.KatLex prog w A true fin Q (us.zip ws) i s
 | [],[],_,_,_,.nil,.nil,e,q=>by subst e;exact q
 | [],_::_,_,_,_,.nil,.cons _ _ _,e,q=>by subst e;exact q
 | _::_,[],_,_,_,.cons _ _ _,.nil,e,q=>by subst e;exact q
 | n::ns,m::ms,_,_,i,.cons _ t hu,.cons _ u hw,e,q=>by
  rw[HT.lexLt_cons] at q
  refine PySem.W.kat_cons (wpAny_eqBool_int ?_)
  by_cases h:n=m
  . rw[if_pos h] at q
    rw[show (n==m)=true by simpa using h]
    exact PySem.W.kat_yes (katLex_ints ns ms _ _ (i+1) hu hw (by rw[e];simp) q)
  . rw[if_neg h] at q
    rw[show (n==m)=false by simpa using h]
    refine PySem.W.kat_no ?_
    cases i with
    | zero=>exact oneLt_int q
    | succ j=>exact PySem.W.kat_one _ _ (PyProof.Rows.lt_int q)
theorem asks_tups {X:Cx}{pins:List (Addr×Obj)}{σ:St}{H:Hp}{s s':Shared}{a:Addr}{ys:List V}{ks:List (List Int)}{vs:List Value}{A:Around}(I:Inv X pins σ H s)(T:TupsAre H ys ks)(r:Vals ys vs)(hne:0<vs.length)
 (fa:∀b o,s.heap.get? b=some o->b≠a)(kp:∀b o,s.heap.get? b=some o->s'.heap.get? b=some o):SortT.Asks X.prog X.w A s' a vs (O:=lexO) (fun i=>ks.getD i []) (tuples' true):=by
 have hl:=T.length
 have hv:=r.length
 have at_:∀(h':Heap),(∀b o,b≠a->s'.heap.get? b=some o->h'.get? b=some o)->∀i,i<vs.length->∃(p:Addr)(k:List Int)(us:List Value)(o:Obj)(n:Nat),vs[i]? = some (Value.ref p)/\ks[i]? = some k/\k≠[]/\IntsAre us k/\h'.get? p=some o/\o.cls = .type "tuple" /\ o.data = .seq us.toArray n:=fun h' kh i hi=>by
  have hy:i<ys.length:=by omega
  obtain⟨p,k,e1,e2,e3,e4⟩:=T.get (i:=i) (x:=ys[i]) (by simp[hy])
  obtain⟨u,hu,ru⟩:=r.get (i:=i) (x:=ys[i]) (by simp[hy])
  rw[e1] at ru
  cases (show u=Value.ref p from ru)
  obtain⟨_,its,rv,o,ho,hc,n,hd⟩:=I.hok p _ e3
  exact⟨p,k,its,o,n,hu,e2,e4,intsAre_of rv,kh p o (fa p o ho) (kp p o ho),hc,hd⟩
 refine⟨fun h' Q E kh q=>?_,fun h' i j Q E kh hi hj q=>?_⟩
 . -- all keys are tuples whose first items are ints
   have tups:∀(m:Nat),m<=vs.length->∃fs:List Value,PySem.W.KatTups h' (vs.drop (vs.length-m)) fs/\fs.length=m/\∀f∈fs,∃x t,f=Value.int x t:=by
    intro m
    induction m with
    | zero=>intro _;exact⟨[],by rw[Nat.sub_zero,List.drop_length];exact trivial,rfl,fun f hf=>by simp at hf⟩
    | succ m ih=>
     intro hm
     obtain⟨fs,t,e,hf⟩:=ih (by omega)
     obtain⟨p,k,us,o,n,hu,hk,hk0,hI,ho,hc,hd⟩:=at_ h' kh (vs.length-(m+1)) (by omega)
     have ed:vs.drop (vs.length-(m+1))=Value.ref p::vs.drop (vs.length-m):=by
      have hlt:vs.length-(m+1)<vs.length:=by omega
      rw[List.drop_eq_getElem_cons hlt,show vs.length-(m+1)+1=vs.length-m by omega]
      have:vs[vs.length-(m+1)]=Value.ref p:=by
       rw[List.getElem?_eq_getElem hlt] at hu
       exact Option.some.inj hu
      rw[this]
     cases hI with
     | nil=>exact absurd rfl hk0
     | cons x tx hI'=>
      refine⟨Value.int x tx::fs,by rw[ed];exact PySem.W.KatTups.cons ho hc hd rfl t,by rw[List.length_cons,e],fun f hf'=>?_⟩
      rcases List.mem_cons.mp hf' with rfl | hf'
      . exact⟨x,tx,rfl⟩
      . exact hf f hf'
   obtain⟨fs,t,e,hf⟩:=tups vs.length (Nat.le_refl _)
   rw[Nat.sub_self,List.drop_zero] at t
   refine PySem.W.kat_kind (T:=Value.type "int") t (by omega) (fun v hv=>?_) (by rfl) q
   obtain⟨x,tx,rfl⟩:=hf v hv
   exact PySem.W.Looks.of_pure rfl
 . obtain⟨p,k,us,o,n,hu,hk,_,hI,ho,hc,hd⟩:=at_ h' kh i hi
   obtain⟨p2,k2,us2,o2,n2,hu2,hk2,_,hI2,ho2,hc2,hd2⟩:=at_ h' kh j hj
   have e1:vs.getD i Value.none = .ref p:=by rw[List.getD_eq_getElem?_getD,hu];rfl
   have e2:vs.getD j Value.none = .ref p2:=by rw[List.getD_eq_getElem?_getD,hu2];rfl
   have g1:ks.getD i []=k:=by rw[List.getD_eq_getElem?_getD,hk];rfl
   have g2:ks.getD j []=k2:=by rw[List.getD_eq_getElem?_getD,hk2];rfl
   rw[e1,e2]
   refine PySem.W.kat_lt (s:={ s' with heap:=h' }) ho hd ho2 hd2 ?_
   have q':Q (HT.lexLt k k2) { s' with heap:=h' }:=by
    have:lexO.blt (ks.getD i []) (ks.getD j [])=HT.lexLt k k2:=by rw[g1,g2];rfl
    rw[<-this];exact q
   have l1:=hI.length
   have l2:=hI2.length
   exact katLex_ints k k2 us us2 0 hI hI2 (by simp only[List.size_toArray];rw[l1,l2]) q'
theorem put_tups {H:Hp}{ys:List V}{ks:List (List Int)}{vs:List Value}{out:List Nat}(T:TupsAre H ys ks)(r:Vals ys vs)(p:SortT.Put (O:=lexO) (fun i=>ks.getD i []) vs.length out) :
 ∃zs ms,TupsAre H zs ms/\ms.Perm ks/\Rises ms/\Vals zs (out.map fun i=>vs.getD i Value.none)/\zs.length=ys.length:=by
 have hl:=T.length
 have hv:=r.length
 have hb:∀i∈out,i<vs.length:=fun i hi=>List.mem_range.mp (p.perm.mem_iff.mp hi)
 refine⟨out.map fun i=>ys.getD i .non,out.map fun i=>ks.getD i [],TupsAre.mk (by rw[List.length_map,List.length_map]) fun j x k hx hk=>?_,?_,?_,?_,?_⟩
 . rw[List.getElem?_map] at hx hk
   cases e:out[j]? with
   | none=>rw[e] at hx;cases hx
   | some i=>
    rw[e] at hx hk
    have hi:=hb i (List.mem_of_getElem? e)
    have hy:i<ys.length:=by omega
    obtain⟨a,c,e1,e2,e3,e4⟩:=T.get (i:=i) (x:=ys[i]) (by simp[hy])
    have ex:ys.getD i .non=x:=Option.some.inj hx
    have ek:ks.getD i []=k:=Option.some.inj hk
    rw[List.getD_eq_getElem?_getD,List.getElem?_eq_getElem hy] at ex
    rw[List.getD_eq_getElem?_getD,e2] at ek
    have ex':ys[i]=x:=ex
    have ek':c=k:=ek
    subst ek'
    exact⟨a,by rw[<-ex'];exact e1,e3,e4⟩
 . have h1:=p.perm.map fun i=>ks.getD i []
   have h2:(List.range vs.length).map (fun i=>ks.getD i [])=ks:=by
    rw[show vs.length=ks.length by omega]
    apply List.ext_getElem?
    intro j
    rw[List.getElem?_map]
    by_cases hj:j<ks.length
    . rw[List.getElem?_range hj,List.getElem?_eq_getElem hj];simp[hj]
    . rw[List.getElem?_eq_none (by rw[List.length_range];omega),List.getElem?_eq_none (by omega)];rfl
   rw[h2] at h1
   exact h1
 . refine List.pairwise_iff_getElem.mpr fun i j hi hj hij=>?_
   rw[List.length_map] at hi hj
   have:=p.rise i j out[i] out[j] (Nat.le_of_lt hij) (by simp) (by simp)
   have h3:HT.lexLt (ks.getD out[j] []) (ks.getD out[i] [])=false:=this
   simpa using h3
 . have:∀l:List Nat,(∀i∈l,i<vs.length)->Vals (l.map fun i=>ys.getD i .non) (l.map fun i=>vs.getD i Value.none):=by
    intro l
    induction l with
    | nil=>intro _;exact .nil
    | cons i l ih=>
     intro h
     have hi:=h i List.mem_cons_self
     have hy:i<ys.length:=by omega
     obtain⟨u,hu,ru⟩:=r.get (i:=i) (x:=ys[i]) (by simp[hy])
     refine .cons ?_ (ih fun j hj=>h j (List.mem_cons_of_mem _ hj))
     show RelV (ys.getD i V.non) (vs.getD i Value.none)
     rw[List.getD_eq_getElem?_getD,List.getElem?_eq_getElem hy,List.getD_eq_getElem?_getD,hu]
     exact ru
   exact this out hb
 . rw[List.length_map,p.perm.length_eq,List.length_range];omega
theorem sorted_fin {X:Cx}{pins:List (Addr×Obj)}{σ:St}{H:Hp}{s:Shared}{h':Heap}{D:Addr}{c t':Nat}{zs:List V}{us:List Value}(I:Inv X pins σ H s)(hD:s.heap.objs.size<=D)(kp:∀b o,s.heap.get? b=some o->h'.get? b=some o)
 (ho:h'.get? D=some (seqObj "list" us.toArray c)) (r:Vals zs us)(hz:zs.length<=sizeLine):Inv X pins σ (upd H D (.lst zs)) { s with heap:=h',toks:=t' }:=
 I.laid kp hD (show ObjOk X.prog X.w _ _ _ (.lst zs) from ⟨hz,us,c,r,ho⟩)
end
section
variable {X:Cx}
theorem call_sorted:CallR X (.builtin "sorted") (fun xs H Q=>∃p ys ks,xs=[.ref p]/\SqL X.K H p ys/\TupsAre H ys ks/\ks.length<64 /\
 ∀l zs ms,H l=none->TupsAre H zs ms->ms.Perm ks->Rises ms->Q (.ref l) (upd H l (.lst zs))):=by
 intro pins s σ H xs us Q I r h
 obtain⟨p,ys,ks,rfl,hq,T,h64,q⟩:=h
 obtain⟨u,rfl,rx⟩:=vals1 r
 cases rx
 obtain⟨its,r',pl,hz⟩:=I.list hq
 have hl:=T.length
 have hv:=r'.length
 refine SortT.sorted_list (O:=lexO) (key:=fun i=>ks.getD i []) (κ:=tuples' true) pl.isList (by omega) (fun h2 s' a fa kp=>asks_tups I T r' (by omega) fa kp) fun D h' out c pt hD kp ho=>?_
 obtain⟨zs,ms,T2,hp,hr,rz,hlz⟩:=put_tups T r' pt
 exact⟨.ref D,_,sorted_fin (t':=s.toks) I hD kp ho rz (by omega),rfl,q D zs ms (I.hok.fresh hD) T2 hp hr⟩
theorem call_sortedD (hc:X.calm=true):CallR X (.builtin "sorted") (fun xs H Q=>∃p kvs ks,xs=[.ref p]/\H p=some (.dT kvs)/\kvs.map (·.1)=ks.map (List.map Sum.inl)/\(∀k∈ks,k≠[])/\ks.length<64 /\
 ∀l zs ms,H l=none->TupsAre H zs ms->ms.Perm ks->Rises ms->Q (.ref l) (upd H l (.lst zs))):=by
 intro pins s σ H xs us Q I r h
 obtain⟨p,kvs,ks,rfl,hd,hks,hk0,h64,q⟩:=h
 obtain⟨u,rfl,rx⟩:=vals1 r
 cases rx
 obtain⟨hz,lo,xs,rel,o,es,ep,ho,hx,hdat,hes,hnd⟩:=I.hok p _ hd
 have key:∀(kvs:List (List Key×V))(xs:List (List Key×Addr×Value))(ks:List (List Int)),KT H kvs xs->kvs.map (·.1)=ks.map (List.map Sum.inl)->(∀k∈ks,k≠[]) ->
  TupsAre H (xs.map fun q=>V.ref q.2.1) ks/\Vals (xs.map fun q=>V.ref q.2.1) ((xs.map (entryOfKey (tupleKind (mixKind X.prog X.w)))).map (·.key)):=by
  intro kvs xs ks rel
  induction rel generalizing ks with
  | nil=>
   intro e _
   cases ks with
   | nil=>exact⟨trivial,.nil⟩
   | cons k ks=>simp at e
  | cons hpq _ ih=>
   intro e h0
   cases ks with
   | nil=>simp at e
   | cons k ks=>
    simp only[List.map_cons,List.cons.injEq] at e
    obtain⟨T,V⟩:=ih ks e.2 fun c hc=>h0 c (List.mem_cons_of_mem _ hc)
    obtain⟨e1,e2,_⟩:=hpq
    refine⟨⟨⟨_,rfl,?_,h0 k List.mem_cons_self⟩,T⟩,.cons rfl V⟩
    rw[e2,e.1,List.map_map]
    rfl
 obtain⟨T,rv⟩:=key kvs xs ks rel hks hk0
 have hl:=T.length
 have hv:=rv.length
 have evs:(xs.map (entryOfKey (tupleKind (mixKind X.prog X.w)))).map (·.key)=es.toList.map (·.key):=by rw[hes]
 refine SortT.sorted_dict (O:=lexO) (key:=fun i=>ks.getD i []) (κ:=tuples' true) (vs:=(xs.map (entryOfKey (tupleKind (mixKind X.prog X.w)))).map (·.key)) (I.ok.hd hc) lo ⟨o,ho,hx,hdat⟩ evs (by omega) (fun h2 s' a fa kp=>asks_tups I T rv (by omega) fa kp) fun h1 D h' t' out c pt k1 hD k2 ho=>?_
 obtain⟨zs,ms,T2,hp,hr,rz,hlz⟩:=put_tups T rv pt
 have I1:Inv X pins σ H { s with heap:=h1,toks:=s.toks }:=I.kept k1
 refine⟨.ref D,_,sorted_fin (s:={ s with heap:=h1,toks:=s.toks }) (t':=t') I1 hD k2 ho rz ?_,rfl,q D zs ms (I1.hok.fresh hD) T2 hp hr⟩
 have:sizeLine=16777216:=rfl
 omega
end
end L2
namespace L2
open PySem PySem.Spec PyProof.Rows
mutual
inductive Shows (H:Hp):V->PyData->Prop
 | non:Shows H .non .none
 | bl (b:Bool):Shows H (.bl b) (.bool b)
 | int (i:Int):Shows H (.int i) (.int i)
 | str (x:Str):Shows H (.str x) (.str x)
 | tup {a:Addr}{xs:List V}{ds:List PyData}:H a=some (.tup xs)->ShowsAll H xs ds->Shows H (.ref a) (.tuple ds)
 | lst {a:Addr}{xs:List V}{ds:List PyData}:H a=some (.lst xs)->ShowsAll H xs ds->Shows H (.ref a) (.list ds)
inductive ShowsAll (H:Hp):List V->List PyData->Prop
 | nil:ShowsAll H [] []
 | cons {x:V}{xs:List V}{d:PyData}{ds:List PyData}:Shows H x d->ShowsAll H xs ds->ShowsAll H (x::xs) (d::ds)
end
section
variable {P:Program}{w:World}{H:Hp}{h:Heap}
mutual
theorem Shows.reads (ok:HOk P w H h):∀{x:V}{d:PyData},Shows H x d->∀{u:Value},RelV x u->∃as,Reads h u d as
 | _,_,.non,u,r=>by cases (show u=Value.none from r);exact⟨_,.none⟩
 | _,_,.bl b,u,r=>by cases (show u=Value.bool b from r);exact⟨_,.bool b⟩
 | _,_,.int i,u,r=>by obtain⟨t,rfl⟩:=r;exact⟨_,.int i t⟩
 | _,_,.str x,u,r=>by obtain⟨t,rfl⟩:=r;exact⟨_,.str x t⟩
 | _,_,.tup (a:=a) e s,u,r=>by
  cases (show u=Value.ref a from r)
  obtain⟨_,its,rv,o,ho,hc,n,hd⟩:=ok a _ e
  obtain⟨as,ra⟩:=ShowsAll.reads ok s rv
  exact⟨_,.tuple ho hc hd (by simpa using ra)⟩
 | _,_,.lst (a:=a) e s,u,r=>by
  cases (show u=Value.ref a from r)
  obtain⟨_,its,n,rv,ho⟩:=ok a _ e
  obtain⟨as,ra⟩:=ShowsAll.reads ok s rv
  exact⟨_,.list ho rfl rfl (by simpa using ra)⟩
theorem ShowsAll.reads (ok:HOk P w H h):∀{xs:List V}{ds:List PyData},ShowsAll H xs ds->∀{us:List Value},Vals xs us->∃as,ReadsAll h us ds as
 | _,_,.nil,us,r=>by cases r;exact⟨_,.nil⟩
 | _,_,.cons s t,us,r=>by
  cases r with
  | cons r1 r2=>
   obtain⟨a1,h1⟩:=Shows.reads ok s r1
   obtain⟨a2,h2⟩:=ShowsAll.reads ok t r2
   exact⟨_,.cons h1 h2⟩
end
end
structure Fn (n p:Nat)(d:PyData):Prop where
 wt:d.weight<=n
 dp:d.depth<=p
 cl:d.canLay0=true
 sh:d.intsShort 13=true
 sw:d.showable=true
theorem Fn.mono {n p n' p':Nat}{d:PyData}(h:Fn n p d)(hn:n<=n')(hp:p<=p'):Fn n' p' d:=⟨Nat.le_trans h.wt hn,Nat.le_trans h.dp hp,h.cl,h.sh,h.sw⟩
theorem log2_small {i:Int}(h:i.natAbs<1000000000):i.natAbs.log2<30:=by
 by_cases h0:i.natAbs=0
 . rw[h0];decide
 . exact (Nat.log2_lt h0).mpr (by omega)
theorem fn_int {i:Int}(h:i.natAbs<1000000000):Fn 30 0 (.int i):=by
 have hl:=log2_small h
 refine⟨?_,Nat.le_refl _,rfl,?_,?_⟩
 . simp only[PyData.weight]
   split <;> omega
 . simp only[PyData.intsShort,PyData.shown]
   refine decide_eq_true ?_
   have e:=int_text_length_le10 (a:=i) (k:=9) (by decide) (by simpa using h)
   have e2:(Str.ofString (toString i)).length=(toString i).length:=by
    rw[Str.ofString_eq_toList]
    show ((toString i).toList.map Char.toNat).toArray.size=_
    rw[List.size_toArray,List.length_map,String.length_toList]
   show (Str.ofString (toString i)).length<=13
   omega
 . simp only[PyData.showable]
   exact decide_eq_true (by omega)
theorem fn_all {n p:Nat}:∀{ds:List PyData},(∀d∈ds,Fn n p d)->PyData.weightAll ds<=ds.length*(n+1)/\PyData.depthAll ds<=p/\PyData.canLayAll0 ds=true/\PyData.intsShortAll 13 ds=true/\PyData.showableAll ds=true
 | [],_=>⟨by simp[PyData.weightAll],by simp[PyData.depthAll],by simp[PyData.canLayAll0],by simp[PyData.intsShortAll],by simp[PyData.showableAll]⟩
 | d::ds,h=>by
  obtain⟨a,b,c,e,f⟩:=fn_all (ds:=ds) fun x hx=>h x (List.mem_cons_of_mem _ hx)
  have g:=h d List.mem_cons_self
  refine⟨?_,?_,?_,?_,?_⟩
  . simp only[PyData.weightAll,List.length_cons]
    have:=g.wt
    rw[Nat.add_mul]
    omega
  . simp only[PyData.depthAll]
    have:=g.dp
    omega
  . simp only[PyData.canLayAll0,g.cl,c,Bool.and_self]
  . simp only[PyData.intsShortAll,g.sh,e,Bool.and_self]
  . simp only[PyData.showableAll,g.sw,f,Bool.and_self]
theorem fn_tup {n p L:Nat}{ds:List PyData}(h:∀d∈ds,Fn n p d)(hl:ds.length<=L):Fn (L*(n+1)) (p+1) (.tuple ds):=by
 obtain⟨a,b,c,e,f⟩:=fn_all h
 refine⟨?_,?_,?_,?_,?_⟩
 . simp only[PyData.weight]
   exact Nat.le_trans a (Nat.mul_le_mul_right _ hl)
 . simp only[PyData.depth];omega
 . simp only[PyData.canLay0];exact c
 . simp only[PyData.intsShort];exact e
 . simp only[PyData.showable];exact f
theorem Fn.len {n p:Nat}{d:PyData}(h:Fn n p d)(hn:n<=1048576)(hp:p<=60):d.shown.length<=sizeLine/\d.hasDict=false:=by
 have hl:PyData.layable0 d=true:=by
  show (PyData.canLay0 d && decide (PyData.depth d<=64) && decide (PyData.weight d<=2 ^ 20))=true
  rw[h.cl,decide_eq_true (show PyData.depth d<=64 by have:=h.dp;omega),decide_eq_true (show PyData.weight d<=2 ^ 20 by have:=h.wt;omega)]
  rfl
 have e:=shown_le13 hl h.sh
 have:sizeLine=16777216:=rfl
 exact⟨by omega,PyData.hasDict_of_layable hl⟩
section
variable {X:Cx}
theorem call_repr {k:Nat}(hr:Room k X.A):CallR X (.builtin "repr") (fun xs H Q=>∃x d,xs=[x]/\Shows H x d/\Fn 1048576 50 d/\Q (.str d.shown) H):=by
 intro pins s σ H xs us Q I r h
 obtain⟨x,d,rfl,sh,f,q⟩:=h
 obtain⟨u,rfl,rx⟩:=vals1 r
 obtain⟨hz,hnd⟩:=f.len (Nat.le_refl _) (by decide)
 have hu:=hr.units
 cases sh with
 | non=>
  cases (show u=Value.none from rx)
  exact PySem.P.repr_of_none ⟨.str _,H,I.tok _,⟨_,rfl⟩,by simpa only [PyData.shown] using q⟩
 | bl b=>
  cases (show u=Value.bool b from rx)
  exact PySem.P.repr_of_bool ⟨.str _,H,I.tok _,⟨_,rfl⟩,by simpa only [PyData.shown] using q⟩
 | int i=>
  obtain⟨t,rfl⟩:=rx
  exact PySem.P.repr_of_int (by have:=f.sw;simpa only [PyData.showable,decide_eq_true_eq] using this) ⟨.str _,H,I.tok _,⟨_,rfl⟩,by simpa only [PyData.shown] using q⟩
 | str z=>
  obtain⟨t,rfl⟩:=rx
  exact PySem.P.repr_of_str ⟨.str _,H,I.tok _,⟨_,rfl⟩,by simpa only [PyData.shown] using q⟩ (by simpa only [PyData.shown] using hz)
 | tup e al=>
  cases (show u=Value.ref _ from rx)
  obtain⟨as,rd⟩:=Shows.reads I.hok (.tup e al) (u:=.ref _) rfl
  exact repr_of_reads' rd f.sw (PyData.noDict_hsm hnd) hr.gd (by have:=f.dp;omega) (fun _ _ e=>e) (fun h' u tk hk=>⟨.str _,H,I.kept hk,⟨u,rfl⟩,q⟩) hz
 | lst e al=>
  cases (show u=Value.ref _ from rx)
  obtain⟨as,rd⟩:=Shows.reads I.hok (.lst e al) (u:=.ref _) rfl
  exact repr_of_reads' rd f.sw (PyData.noDict_hsm hnd) hr.gd (by have:=f.dp;omega) (fun _ _ e=>e) (fun h' u tk hk=>⟨.str _,H,I.kept hk,⟨u,rfl⟩,q⟩) hz
end
end L2
namespace L2
open PySem PySem.Spec PyProof.Rows
section
variable {X:Cx}{es xs:List Expr}{t t1:TA}
theorem pa_int {i j pos} (hr:PA X es t):PA X (.Constant (.int i) j pos::es) (tCons (tC (.int i)) t):=pa_cons pe_int hr (by rfl)
theorem pa_lst {pos} (h:PA X xs t1)(hr:PA X es t):PA X (.List xs pos::es) (tCons (tLst t1) t):=pa_cons (pe_lst h) hr (by rfl)
end
inductive LitInts:List Expr->List Int->Prop where
 | nil:LitInts [] []
 | cons {i:Int}{j:Nat}{pos:Pos}{es:List Expr}{ns:List Int}:LitInts es ns->LitInts (.Constant (.int i) j pos::es) (i::ns)
theorem pa_lits {X:Cx}{es:List Expr}{ns:List Int}(h:LitInts es ns):PA X es (fun _ H Q=>Q (ns.map V.int) H):=by
 induction h with
 | nil=>exact pa_nil
 | cons _ ih=>
  intro pos pins s σ H Q I q
  exact (pa_int ih) pos pins s σ H Q I q
inductive LitIntss:List Expr->List (List Int)->Prop where
 | nil:LitIntss [] []
 | cons {xs:List Expr}{ns:List Int}{pos:Pos}{es:List Expr}{nss:List (List Int)}:LitInts xs ns->ns.length<=sizeLine->LitIntss es nss->LitIntss (.List xs pos::es) (ns::nss)
def tLitss:List (List Int)->TA
 | []=>tNil
 | ns::r=>fun σ H Q=>∀p,H p=none->tLitss r σ (upd H p (.lst (ns.map V.int))) fun xs H2=>Q (.ref p::xs) H2
theorem pa_litss {X:Cx}{es:List Expr}{nss:List (List Int)}(h:LitIntss es nss):PA X es (tLitss nss):=by
 induction h with
 | nil=>exact pa_nil
 | cons hx hl _ ih=>
  intro pos pins s σ H Q I q
  exact (pa_lst (pa_lits hx) ih) pos pins s σ H Q I ⟨by rw[List.length_map];exact hl,fun p hp=>q p hp⟩
end L2
namespace WM
theorem nd_sub {α:Type} [DecidableEq α]:∀{l₁ l₂:List α},l₁.Nodup->(∀x∈l₁,x∈l₂)->l₁.length<=l₂.length
 | [],_,_,_=>Nat.zero_le _
 | x::r,l₂,h,s=>by
  obtain⟨h1,h2⟩:=List.nodup_cons.mp h
  have hx:x∈l₂:=s x List.mem_cons_self
  have ih:=nd_sub (l₁:=r) (l₂:=l₂.erase x) h2 fun y hy=>by
   have hne:y≠x:=fun e=>h1 (e ▸ hy)
   exact (List.mem_erase_of_ne hne).mpr (s y (List.mem_cons_of_mem _ hy))
  rw[List.length_erase_of_mem hx] at ih
  have:0<l₂.length:=List.length_pos_of_mem hx
  rw[List.length_cons]
  omega
def lowTo (n:Nat):List Int:=(List.range n).map fun (i:Nat)=>(i:Int)
theorem mem_ints {n:Nat}{x:Int}:x∈lowTo n↔0<=x/\x<n:=by
 unfold lowTo
 rw[List.mem_map]
 constructor
 . rintro ⟨i,hi,rfl⟩
   have:=List.mem_range.mp hi
   omega
 . rintro ⟨h0,h1⟩
   exact⟨x.toNat,List.mem_range.mpr (by omega),by omega⟩
theorem nd_len {n:Nat}{l:List Int}(h:l.Nodup)(hb:∀x∈l,0<=x/\x<n):l.length<=n:=by
 have:=nd_sub h (l₂:=lowTo n) fun x hx=>mem_ints.mpr (hb x hx)
 simpa [lowTo] using this
theorem rise_same:∀{l₁ l₂:List Int},l₁.Pairwise (· < ·)->l₂.Pairwise (· < ·)->(∀x,x∈l₁↔x∈l₂)->l₁=l₂
 | [],[],_,_,_=>rfl
 | [],y::_,_,_,h=>by have:=(h y).mpr List.mem_cons_self;simp at this
 | x::_,[],_,_,h=>by have:=(h x).mp List.mem_cons_self;simp at this
 | x::r,y::q,h1,h2,h=>by
  obtain⟨a1,b1⟩:=List.pairwise_cons.mp h1
  obtain⟨a2,b2⟩:=List.pairwise_cons.mp h2
  have e:x=y:=by
   rcases List.mem_cons.mp ((h x).mp List.mem_cons_self) with e | e
   . exact e
   . rcases List.mem_cons.mp ((h y).mpr List.mem_cons_self) with e' | e'
     . exact e'.symm
     . have:=a2 x e;have:=a1 y e';omega
  subst e
  refine congrArg (x :: ·) (rise_same b1 b2 fun z=>?_)
  constructor
  . intro hz
    rcases List.mem_cons.mp ((h z).mp (List.mem_cons_of_mem _ hz)) with e | e
    . subst e;have:=a1 z hz;omega
    . exact e
  . intro hz
    rcases List.mem_cons.mp ((h z).mpr (List.mem_cons_of_mem _ hz)) with e | e
    . subst e;have:=a2 z hz;omega
    . exact e
theorem ints_rise (n:Nat):(lowTo n).Pairwise (· < ·):=by
 unfold lowTo
 rw[List.pairwise_map]
 exact List.pairwise_lt_range.imp fun h=>by omega
abbrev T3:=Int×Int×Int
def tl (t:T3):List Int:=[t.1,t.2.1,t.2.2]
structure GW (n:Int)(ts:List T3):Prop where
 n1:1<=n
 n24:n<=24
 len:ts.length<64
 rng:∀t∈ts,0<=t.1/\t.1<t.2.1/\t.2.1<n/\1<=t.2.2/\t.2.2<=99
 dis:ts.Pairwise fun s t=>¬ (s.1=t.1/\s.2.1=t.2.1)
def Adj (ts:List T3)(x y l:Int):Prop:=(x,y,l)∈ts\/(y,x,l)∈ts
theorem Adj.symm {ts:List T3}{x y l:Int}(h:Adj ts x y l):Adj ts y x l:=h.elim .inr .inl
theorem GW.uniq {n:Int}{ts:List T3}(g:GW n ts){x y l l':Int}(h:Adj ts x y l)(h':Adj ts x y l'):l=l':=by
 have key:∀{ts:List T3},ts.Pairwise (fun s t=>¬ (s.1=t.1/\s.2.1=t.2.1))->∀{a b l l':Int},(a,b,l)∈ts->(a,b,l')∈ts->l=l':=by
  intro ts
  induction ts with
  | nil=>intro _ a b l l' h;simp at h
  | cons t r ih=>
   intro hp a b l l' h h'
   obtain⟨q,hr⟩:=List.pairwise_cons.mp hp
   rcases List.mem_cons.mp h with e | e
   . rcases List.mem_cons.mp h' with e' | e'
     . rw[<-e] at e';injection e' with _ e2;injection e2 with _ e3;exact e3.symm
     . exact absurd (by rw[<-e];exact⟨rfl,rfl⟩) (q _ e')
   . rcases List.mem_cons.mp h' with e' | e'
     . exact absurd (by rw[<-e'];exact⟨rfl,rfl⟩) (q _ e)
     . exact ih hr e e'
 rcases h with h | h <;> rcases h' with h' | h'
 . exact key g.dis h h'
 . have:=g.rng _ h;have:=g.rng _ h';simp only at *;omega
 . have:=g.rng _ h;have:=g.rng _ h';simp only at *;omega
 . exact key g.dis h h'
theorem GW.adj {n:Int}{ts:List T3}(g:GW n ts){x y l:Int}(h:Adj ts x y l):0<=x/\x<n/\0<=y/\y<n/\x≠y/\1<=l/\l<=99:=by
 rcases h with h | h <;> (have:=g.rng _ h;simp only at *;omega)
def fd (p:Int):List T3->List (List Int)
 | []=>[]
 | t::r=>(if t.1=p then [[t.2.1,t.2.2]] else [])++(if t.2.1=p then [[t.1,t.2.2]] else [])++fd p r
theorem fd_append (p:Int):∀a b:List T3,fd p (a++b)=fd p a++fd p b
 | [],b=>rfl
 | t::r,b=>by show _++_++fd p (r++b)=_;rw[fd_append p r b];simp[fd,List.append_assoc]
theorem mem_fd {p:Int}{k:List Int}:∀{ts:List T3},k∈fd p ts↔∃y l,k=[y,l]/\Adj ts p y l
 | []=>by simp[fd,Adj]
 | (a,b,c)::r=>by
  have ih:=mem_fd (p:=p) (k:=k) (ts:=r)
  show k∈_++_++fd p r↔_
  rw[List.mem_append,List.mem_append,ih]
  simp only
  constructor
  . rintro ((h | h) | ⟨y,l,e,h⟩)
    . split at h
      . rename_i e;simp at h;subst e;exact⟨b,c,h,.inl List.mem_cons_self⟩
      . simp at h
    . split at h
      . rename_i e;simp at h;subst e;exact⟨a,c,h,.inr List.mem_cons_self⟩
      . simp at h
    . exact⟨y,l,e,h.elim (fun z=>.inl (List.mem_cons_of_mem _ z)) fun z=>.inr (List.mem_cons_of_mem _ z)⟩
  . rintro ⟨y,l,e,h⟩
    rcases h with h | h
    . rcases List.mem_cons.mp h with q | q
      . injection q with q1 q2;injection q2 with q2 q3;subst q1 q2 q3
        exact .inl (.inl (by simp[e]))
      . exact .inr ⟨y,l,e,.inl q⟩
    . rcases List.mem_cons.mp h with q | q
      . injection q with q1 q2;injection q2 with q2 q3;subst q1 q2 q3
        exact .inl (.inr (by simp[e]))
      . exact .inr ⟨y,l,e,.inr q⟩
theorem fd_len {n:Int}(p:Int):∀{ts:List T3},(∀t∈ts,t.1<t.2.1)->(fd p ts).length<=ts.length
 | [],_=>Nat.le_refl _
 | t::r,h=>by
  have ih:=fd_len (n:=n) p (ts:=r) fun t ht=>h t (List.mem_cons_of_mem _ ht)
  have h0:=h t List.mem_cons_self
  show (_++_++fd p r).length<=_
  rw[List.length_append,List.length_append,List.length_cons]
  have:(if t.1=p then [[t.2.1,t.2.2]] else ([]:List (List Int))).length+(if t.2.1=p then [[t.1,t.2.2]] else ([]:List (List Int))).length<=1:=by
   split <;> split <;> simp <;> omega
  omega
def hd (k:List Int):Int:=k.getD 0 0
end WM
namespace WM
inductive Way (ts:List T3):Int->Int->Int->Prop where
 | nil (x:Int):Way ts x x 0
 | cons {x z y l d:Int}:Adj ts x z l->Way ts z y d->Way ts x y (l+d)
theorem Way.nn {n:Int}{ts:List T3}(g:GW n ts){x y d:Int}(h:Way ts x y d):0<=d:=by
 induction h with
 | nil=>exact Int.le_refl _
 | cons ha _ ih=>have:=g.adj ha;omega
theorem Way.one {ts:List T3}{x y l:Int}(h:Adj ts x y l):Way ts x y l:=by
 have:=Way.cons h (.nil y)
 rwa [Int.add_zero] at this
theorem Way.trans {ts:List T3}{x y z d e:Int}(h:Way ts x y d)(h':Way ts y z e):Way ts x z (d+e):=by
 induction h with
 | nil=>rw[Int.zero_add];exact h'
 | cons ha _ ih=>rw[Int.add_assoc];exact .cons ha (ih h')
theorem Way.symm {ts:List T3}{x y d:Int}(h:Way ts x y d):Way ts y x d:=by
 induction h with
 | nil=>exact .nil _
 | cons ha _ ih=>have:=ih.trans (.one ha.symm);rwa [Int.add_comm] at this
theorem Way.snoc {ts:List T3}{x y z d l:Int}(h:Way ts x y d)(ha:Adj ts y z l):Way ts x z (d+l):=h.trans (.one ha)
def IsD (ts:List T3)(x y d:Int):Prop:=Way ts x y d/\∀e,Way ts x y e->d<=e
def Len (ts:List T3)(x y:Int):Option Int->Prop
 | some d=>IsD ts x y d
 | none=>∀d,¬ Way ts x y d
theorem IsD.uniq {ts:List T3}{x y d e:Int}(h:IsD ts x y d)(h':IsD ts x y e):d=e:=Int.le_antisymm (h.2 _ h'.1) (h'.2 _ h.1)
theorem Len.uniq {ts:List T3}{x y:Int}{o o':Option Int}(h:Len ts x y o)(h':Len ts x y o'):o=o':=by
 cases o with
 | none=>
  cases o' with
  | none=>rfl
  | some e=>exact absurd h'.1 (h e)
 | some d=>
  cases o' with
  | none=>exact absurd h.1 (h' d)
  | some e=>exact congrArg some (IsD.uniq h h')
theorem IsD.symm {ts:List T3}{x y d:Int}(h:IsD ts x y d):IsD ts y x d:=⟨h.1.symm,fun e he=>h.2 e he.symm⟩
theorem Len.symm {ts:List T3}{x y:Int}{o:Option Int}(h:Len ts x y o):Len ts y x o:=by
 cases o with
 | none=>exact fun d hd=>h d hd.symm
 | some d=>exact IsD.symm h
theorem isD_self {n:Int}{ts:List T3}(g:GW n ts)(x:Int):IsD ts x x 0:=⟨.nil x,fun _ h=>h.nn g⟩
structure Dj (ts:List T3)(s:Int)(kn wt:Int->Option Int):Prop where
 kd:∀p d,kn p=some d->IsD ts s p d
 wk:∀p d,wt p=some d->kn p=none/\Way ts s p d
 ord:∀p d q e,kn p=some d->wt q=some e->d<=e
 nb:∀p d q l,kn p=some d->Adj ts p q l->(∃e,kn q=some e)\/∃e,wt q=some e/\e<=d+l
 st:(∃d,kn s=some d)\/wt s=some 0
theorem Dj.front {n:Int}{ts:List T3}(g:GW n ts){s:Int}{kn wt:Int->Option Int}(h:Dj ts s kn wt){y d:Int}(w:Way ts s y d):(∃e,kn y=some e)\/∃q e,wt q=some e/\e<=d:=by
 have key:∀{x y d:Int},Way ts x y d->∀dx,kn x=some dx->(∃e,kn y=some e)\/∃q e,wt q=some e/\e<=dx+d:=by
  intro x y d w
  induction w with
  | nil=>intro dx hx;exact .inl ⟨dx,hx⟩
  | cons ha w' ih=>
   intro dx hx
   rename_i x z y l d
   have hl:=g.adj ha
   have hw:=w'.nn g
   rcases h.nb x dx z l hx ha with ⟨e,he⟩ | ⟨e,he,hle⟩
   . have hez:e<=dx+l:=(h.kd z e he).2 _ ((h.kd x dx hx).1.snoc ha)
     rcases ih e he with q | ⟨q,e',hq,hle⟩
     . exact .inl q
     . exact .inr ⟨q,e',hq,by omega⟩
   . exact .inr ⟨z,e,he,by omega⟩
 rcases h.st with ⟨ds,hs⟩ | hs
 . have:ds=0:=IsD.uniq (h.kd s ds hs) (isD_self g s)
   subst this
   rcases key w 0 hs with q | ⟨q,e,a,b⟩
   . exact .inl q
   . exact .inr ⟨q,e,a,by omega⟩
 . exact .inr ⟨s,0,hs,w.nn g⟩
theorem Dj.pick {n:Int}{ts:List T3}(g:GW n ts){s:Int}{kn wt:Int->Option Int}(h:Dj ts s kn wt){p d:Int}(hp:wt p=some d)(hm:∀q e,wt q=some e->d<=e):IsD ts s p d:=by
 obtain⟨hk,hw⟩:=h.wk p d hp
 refine⟨hw,fun e he=>?_⟩
 rcases h.front g he with ⟨e',q⟩ | ⟨q,e',hq,hle⟩
 . rw[hk] at q;cases q
 . exact Int.le_trans (hm q e' hq) hle
theorem Dj.done {n:Int}{ts:List T3}(g:GW n ts){s:Int}{kn wt:Int->Option Int}(h:Dj ts s kn wt)(hw:∀q,wt q=none)(y:Int):Len ts s y (kn y):=by
 cases e:kn y with
 | some d=>exact h.kd y d e
 | none=>
  intro d w
  rcases h.front g w with ⟨e',q⟩ | ⟨q,e',hq,_⟩
  . rw[e] at q;cases q
  . rw[hw] at hq;cases hq
structure Dm (ts:List T3)(s p d:Int)(kn wt:Int->Option Int)(seen:Int->Prop):Prop where
 kd:∀q e,kn q=some e->IsD ts s q e
 wk:∀q e,wt q=some e->kn q=none/\Way ts s q e
 ord:∀q e r f,kn q=some e->wt r=some f->e<=f
 nb:∀q e r l,kn q=some e->Adj ts q r l->(q=p/\¬ seen r)\/(∃f,kn r=some f)\/∃f,wt r=some f/\f<=e+l
 st:∃e,kn s=some e
 pd:kn p=some d
 mx:∀q e,kn q=some e->e<=d
theorem Dj.enter {n:Int}{ts:List T3}(g:GW n ts){s:Int}{kn wt:Int->Option Int}(h:Dj ts s kn wt){p d:Int}(hp:wt p=some d)(hm:∀q e,wt q=some e->d<=e) :
 Dm ts s p d (fun q=>if q=p then some d else kn q) (fun q=>if q=p then none else wt q) (fun _=>False):=by
 have hd:=h.pick g hp hm
 have hk:=(h.wk p d hp).1
 refine⟨fun q e hq=>?_,fun q e hq=>?_,fun q e r f hq hr=>?_,fun q e r l hq ha=>?_,?_,if_pos rfl,fun q e hq=>?_⟩
 . by_cases hqp:q=p
   . rw[if_pos hqp] at hq;cases hq;rw[hqp];exact hd
   . rw[if_neg hqp] at hq;exact h.kd q e hq
 . by_cases hqp:q=p
   . rw[if_pos hqp] at hq;cases hq
   . rw[if_neg hqp] at hq ⊢;exact h.wk q e hq
 . by_cases hrp:r=p
   . rw[if_pos hrp] at hr;cases hr
   . rw[if_neg hrp] at hr
     by_cases hqp:q=p
     . rw[if_pos hqp] at hq;cases hq;exact hm r f hr
     . rw[if_neg hqp] at hq;exact h.ord q e r f hq hr
 . by_cases hqp:q=p
   . exact .inl ⟨hqp,fun z=>z⟩
   . rw[if_neg hqp] at hq
     by_cases hrp:r=p
     . exact .inr (.inl ⟨d,if_pos hrp⟩)
     . rcases h.nb q e r l hq ha with ⟨f,hf⟩ | ⟨f,hf,hle⟩
       . exact .inr (.inl ⟨f,by rw[if_neg hrp];exact hf⟩)
       . exact .inr (.inr ⟨f,by rw[if_neg hrp];exact hf,hle⟩)
 . by_cases hsp:s=p
   . exact⟨d,if_pos hsp⟩
   . rcases h.st with ⟨e,he⟩ | he
     . exact⟨e,by rw[if_neg hsp];exact he⟩
     . -- s waits with 0: then d is 0 too,and p is come to by a way of 0
       have h0:=hm s 0 he
       have:=hd.1.nn g
       have hd0:d=0:=by omega
       subst hd0
       exfalso
       have:∀{x y d:Int},Way ts x y d->d=0->x=y:=by
        intro x y d w
        cases w with
        | nil=>intro _;rfl
        | cons ha w'=>intro e;have:=g.adj ha;have:=w'.nn g;omega
       exact hsp (this hd.1 rfl)
 . by_cases hqp:q=p
   . rw[if_pos hqp] at hq;cases hq;exact Int.le_refl _
   . rw[if_neg hqp] at hq;exact h.ord q e p d hq hp
theorem Dm.skip {ts:List T3}{s p d:Int}{kn wt:Int->Option Int}{seen:Int->Prop}(h:Dm ts s p d kn wt seen){r:Int}(hr:∃f,kn r=some f):Dm ts s p d kn wt (fun x=>seen x\/x=r):=
 ⟨h.kd,h.wk,h.ord,fun q e x l hq ha=>by
  rcases h.nb q e x l hq ha with ⟨a,b⟩ | c
  . by_cases hx:x=r
    . subst hx;exact .inr (.inl hr)
    . exact .inl ⟨a,fun z=>z.elim b hx⟩
  . exact .inr c,h.st,h.pd,h.mx⟩
theorem Dm.wait {n:Int}{ts:List T3}(g:GW n ts){s p d:Int}{kn wt:Int->Option Int}{seen:Int->Prop}(h:Dm ts s p d kn wt seen){r l:Int}(ha:Adj ts p r l)(hr:kn r=none){f:Int}
 (hf:(wt r=none/\f=d+l)\/∃e,wt r=some e/\f=min (d+l) e):Dm ts s p d kn (fun x=>if x=r then some f else wt x) (fun x=>seen x\/x=r):=by
 have hl:=g.adj ha
 have hway:Way ts s r (d+l):=(h.kd p d h.pd).1.snoc ha
 have hf1:f<=d+l:=by
  rcases hf with ⟨_,e⟩ | ⟨e,_,e'⟩
  . omega
  . omega
 have hf2:Way ts s r f:=by
  rcases hf with ⟨_,rfl⟩ | ⟨e,he,rfl⟩
  . exact hway
  . by_cases hle:d+l<=e
    . rw[Int.min_eq_left hle];exact hway
    . rw[Int.min_eq_right (by omega)];exact (h.wk r e he).2
 have hf3:d<=f:=by
  rcases hf with ⟨_,rfl⟩ | ⟨e,he,rfl⟩
  . omega
  . have:=h.ord p d r e h.pd he;omega
 refine⟨h.kd,fun q e hq=>?_,fun q e x y hq hx=>?_,fun q e x k hq hax=>?_,h.st,h.pd,h.mx⟩
 . by_cases hqr:q=r
   . rw[if_pos hqr] at hq;cases hq;rw[hqr];exact⟨hr,hf2⟩
   . rw[if_neg hqr] at hq;exact h.wk q e hq
 . by_cases hxr:x=r
   . rw[if_pos hxr] at hx;cases hx;have:=h.mx q e hq;omega
   . rw[if_neg hxr] at hx;exact h.ord q e x y hq hx
 . by_cases hxr:x=r
   . subst hxr
     refine .inr (.inr ⟨f,if_pos rfl,?_⟩)
     rcases h.nb q e x k hq hax with ⟨a,_⟩ | ⟨y,hy⟩ | ⟨y,hy,hle⟩
     . subst a
       rw[h.pd] at hq;cases hq
       rw[g.uniq hax ha];exact hf1
     . rw[hr] at hy;cases hy
     . rcases hf with ⟨e1,_⟩ | ⟨e1,he1,e2⟩
       . rw[e1] at hy;cases hy
       . rw[he1] at hy;cases hy;omega
   . rcases h.nb q e x k hq hax with ⟨a,b⟩ | c | ⟨y,hy,hle⟩
     . exact .inl ⟨a,fun z=>z.elim b hxr⟩
     . exact .inr (.inl c)
     . exact .inr (.inr ⟨y,by rw[if_neg hxr];exact hy,hle⟩)
theorem Dm.leave {ts:List T3}{s p d:Int}{kn wt:Int->Option Int}{seen:Int->Prop}(h:Dm ts s p d kn wt seen)(hs:∀r l,Adj ts p r l->seen r):Dj ts s kn wt:=
 ⟨h.kd,h.wk,h.ord,fun q e r l hq ha=>by
  rcases h.nb q e r l hq ha with ⟨a,b⟩ | c
  . subst a;exact absurd (hs r l ha) b
  . exact c,.inl h.st⟩
inductive WayK (ts:List T3)(k:Int):Int->Int->Int->Prop where
 | nil (x:Int):WayK ts k x x 0
 | tie {x y l:Int}:Adj ts x y l->WayK ts k x y l
 | cons {x z y l d:Int}:Adj ts x z l->z<k->WayK ts k z y d->WayK ts k x y (l+d)
theorem WayK.way {ts:List T3}{k x y d:Int}(h:WayK ts k x y d):Way ts x y d:=by
 induction h with
 | nil=>exact .nil _
 | tie ha=>exact .one ha
 | cons ha _ _ ih=>exact .cons ha ih
theorem Way.toK {n:Int}{ts:List T3}(g:GW n ts){x y d:Int}(h:Way ts x y d):WayK ts n x y d:=by
 induction h with
 | nil=>exact .nil _
 | cons ha _ ih=>exact .cons ha (g.adj ha).2.2.2.1 ih
theorem WayK.split {n:Int}{ts:List T3}(g:GW n ts){k x y d:Int}(h:WayK ts (k+1) x y d):WayK ts k x y d\/∃d1 d2,WayK ts k x k d1/\WayK ts k k y d2/\d1+d2<=d:=by
 induction h with
 | nil=>exact .inl (.nil _)
 | tie ha=>exact .inl (.tie ha)
 | cons ha hz w ih=>
  rename_i x z y l d
  by_cases hk:z<k
  . rcases ih with q | ⟨d1,d2,a,b,c⟩
    . exact .inl (.cons ha hk q)
    . exact .inr ⟨l+d1,d2,.cons ha hk a,b,by omega⟩
  . have e:z=k:=by omega
    subst e
    rcases ih with q | ⟨d1,d2,a,b,c⟩
    . exact .inr ⟨l,d,.tie ha,q,Int.le_refl _⟩
    . have:=a.way.nn g
      exact .inr ⟨l,d2,.tie ha,b,by omega⟩
theorem WayK.zero {n:Int}{ts:List T3}(g:GW n ts){x y d:Int}(h:WayK ts 0 x y d):(x=y/\d=0)\/Adj ts x y d:=by
 cases h with
 | nil=>exact .inl ⟨rfl,rfl⟩
 | tie ha=>exact .inr ha
 | cons ha hz _=>have:=g.adj ha;omega
structure Fw (ts:List T3)(n:Int)(F:Int->Int->Option Int):Prop where
 snd:∀x y d,0<=x->x<n->0<=y->y<n->F x y=some d->Way ts x y d
def Cov (ts:List T3)(n k:Int)(F:Int->Int->Option Int):Prop:=∀x y d,0<=x->x<n->0<=y->y<n->WayK ts k x y d->∃e,F x y=some e/\e<=d
theorem Fw.len {n:Int}{ts:List T3}(g:GW n ts){F:Int->Int->Option Int}(h:Fw ts n F)(c:Cov ts n n F){x y:Int}(hx:0<=x)(hx':x<n)(hy:0<=y)(hy':y<n):Len ts x y (F x y):=by
 cases e:F x y with
 | some d=>
  refine⟨h.snd x y d hx hx' hy hy' e,fun e' he=>?_⟩
  obtain⟨f,hf,hle⟩:=c x y e' hx hx' hy hy' (he.toK g)
  rw[e] at hf;cases hf;exact hle
 | none=>
  intro d hd
  obtain⟨f,hf,_⟩:=c x y d hx hx' hy hy' (hd.toK g)
  rw[e] at hf;cases hf
end WM
namespace WM
def fnl (kn:List (Option Int))(p:Int):Option Int:=if 0<=p then kn.getD p.toNat none else none
def cnt (kn:List (Option Int)):Nat:=(kn.filter Option.isSome).length
theorem cnt_le (kn:List (Option Int)):cnt kn<=kn.length:=List.length_filter_le _ _
theorem fnl_set {kn:List (Option Int)}{p:Int}{o:Option Int}(h0:0<=p)(h1:p.toNat<kn.length)(q:Int):fnl (kn.set p.toNat o) q=if q=p then o else fnl kn q:=by
 unfold fnl
 by_cases hq:0<=q
 . rw[if_pos hq,if_pos hq,List.getD_eq_getElem?_getD,List.getD_eq_getElem?_getD,List.getElem?_set]
   by_cases e:q=p
   . subst e;simp[h1]
   . have:¬ p.toNat=q.toNat:=by omega
     rw[if_neg this,if_neg e]
 . rw[if_neg hq,if_neg (by omega),if_neg hq]
theorem cnt_set:∀{kn:List (Option Int)}{j:Nat}{d:Int},kn[j]? = some none->cnt (kn.set j (some d))=cnt kn+1
 | [],_,_,h=>by simp at h
 | o::r,0,d,h=>by
  have:o=none:=by simpa using h
  subst this
  simp[cnt,List.set]
 | o::r,j+1,d,h=>by
  have ih:=cnt_set (kn:=r) (j:=j) (d:=d) (by simpa using h)
  unfold cnt at ih ⊢
  rw[List.set_cons_succ]
  cases o with
  | none=>rw[List.filter_cons_of_neg (by simp),List.filter_cons_of_neg (by simp)];exact ih
  | some x=>rw[List.filter_cons_of_pos (by simp),List.filter_cons_of_pos (by simp),List.length_cons,List.length_cons,ih]
theorem cnt_rep (n:Nat):cnt (List.replicate n none)=0:=by
 unfold cnt
 rw[List.filter_replicate]
 simp
theorem fnl_rep (n:Nat)(q:Int):fnl (List.replicate n none) q=none:=by
 unfold fnl
 split
 . rw[List.getD_eq_getElem?_getD,List.getElem?_replicate]
   split <;> rfl
 . rfl
structure Dl (ts:List T3)(n s:Int)(kn:List (Option Int))(wt:Int->Option Int):Prop where
 dj:Dj ts s (fnl kn) wt
 ln:kn.length=n.toNat
 bk:∀p d,fnl kn p=some d->d<=99*cnt kn
 bw:∀p e,wt p=some e->e<=99*cnt kn/\0<=p/\p<n
structure Dn (ts:List T3)(n s p d:Int)(kn:List (Option Int))(wt:Int->Option Int)(seen:Int->Prop):Prop where
 dm:Dm ts s p d (fnl kn) wt seen
 ln:kn.length=n.toNat
 bk:∀q e,fnl kn q=some e->e<=99*cnt kn
 bd:d+99<=99*cnt kn
 bw:∀q e,wt q=some e->e<=99*cnt kn/\0<=q/\q<n
theorem Dl.start {n:Int}{ts:List T3}(g:GW n ts){s:Int}(h0:0<=s)(h1:s<n):Dl ts n s (List.replicate n.toNat none) (fun q=>if q=s then some 0 else none):=by
 refine⟨⟨fun p d h=>?_,fun p d h=>?_,fun p d q e h=>?_,fun p d q l h=>?_,.inr (if_pos rfl)⟩,List.length_replicate,fun p d h=>?_,fun p e h=>?_⟩
 . rw[fnl_rep] at h;cases h
 . by_cases e:p=s
   . rw[if_pos e] at h;cases h;rw[e];exact⟨fnl_rep _ _,.nil s⟩
   . rw[if_neg e] at h;cases h
 . rw[fnl_rep] at h;cases h
 . rw[fnl_rep] at h;cases h
 . rw[fnl_rep] at h;cases h
 . by_cases e:p=s
   . rw[if_pos e] at h;cases h;rw[e,cnt_rep];exact⟨by simp,h0,h1⟩
   . rw[if_neg e] at h;cases h
theorem Dl.enter {n:Int}{ts:List T3}(g:GW n ts){s:Int}{kn:List (Option Int)}{wt:Int->Option Int}(h:Dl ts n s kn wt){p d:Int}(hp:wt p=some d)(hm:∀q e,wt q=some e->d<=e) :
 kn[p.toNat]? = some none/\0<=p/\p<n/\cnt (kn.set p.toNat (some d))=cnt kn+1/\Dn ts n s p d (kn.set p.toNat (some d)) (fun q=>if q=p then none else wt q) (fun _=>False):=by
 obtain⟨hb,h0,h1⟩:=h.bw p d hp
 have hl:=h.ln
 have hlt:p.toNat<kn.length:=by omega
 have hk:=(h.dj.wk p d hp).1
 have hn:kn[p.toNat]? = some none:=by
  unfold fnl at hk
  rw[if_pos h0,List.getD_eq_getElem?_getD,List.getElem?_eq_getElem hlt] at hk
  rw[List.getElem?_eq_getElem hlt]
  exact congrArg some hk
 have hc:=cnt_set (d:=d) hn
 have ef:fnl (kn.set p.toNat (some d))=fun q=>if q=p then some d else fnl kn q:=funext fun q=>fnl_set h0 hlt q
 refine⟨hn,h0,h1,hc,⟨?_,by rw[List.length_set];exact hl,fun q e hq=>?_,by rw[hc];omega,fun q e hq=>?_⟩⟩
 . rw[ef];exact h.dj.enter g hp hm
 . rw[ef] at hq
   simp only at hq
   rw[hc]
   by_cases e':q=p
   . rw[if_pos e'] at hq;cases hq;omega
   . rw[if_neg e'] at hq;have:=h.bk q e hq;omega
 . by_cases e':q=p
   . rw[if_pos e'] at hq;cases hq
   . rw[if_neg e'] at hq;have:=h.bw q e hq;rw[hc];exact⟨by omega,this.2⟩
theorem Dn.skip {n:Int}{ts:List T3}{s p d:Int}{kn:List (Option Int)}{wt:Int->Option Int}{seen:Int->Prop}(h:Dn ts n s p d kn wt seen){r f:Int}(hr:fnl kn r=some f):Dn ts n s p d kn wt (fun x=>seen x\/x=r):=
 ⟨h.dm.skip ⟨f,hr⟩,h.ln,h.bk,h.bd,h.bw⟩
theorem Dn.wait {n:Int}{ts:List T3}(g:GW n ts){s p d:Int}{kn:List (Option Int)}{wt:Int->Option Int}{seen:Int->Prop}(h:Dn ts n s p d kn wt seen){r l:Int}(ha:Adj ts p r l)(hr:fnl kn r=none) :
 Dn ts n s p d kn (fun x=>if x=r then some (if (wt r).getD (d+l)<d+l then (wt r).getD (d+l) else d+l) else wt x) (fun x=>seen x\/x=r):=by
 have hl:=g.adj ha
 have hf:(wt r=none/\(if (wt r).getD (d+l)<d+l then (wt r).getD (d+l) else d+l)=d+l)\/∃e,wt r=some e/\(if (wt r).getD (d+l)<d+l then (wt r).getD (d+l) else d+l)=min (d+l) e:=by
  cases e:wt r with
  | none=>exact .inl ⟨rfl,by simp⟩
  | some x=>
   refine .inr ⟨x,rfl,?_⟩
   simp only[Option.getD_some]
   split <;> omega
 refine⟨h.dm.wait g ha hr hf,h.ln,h.bk,h.bd,fun q e hq=>?_⟩
 by_cases e':q=r
 . rw[if_pos e'] at hq
   have hd:=h.bd
   have e2:=Option.some.inj hq
   refine⟨?_,by omega,by omega⟩
   split at e2 <;> omega
 . rw[if_neg e'] at hq;exact h.bw q e hq
theorem Dn.leave {n:Int}{ts:List T3}{s p d:Int}{kn:List (Option Int)}{wt:Int->Option Int}{seen:Int->Prop}(h:Dn ts n s p d kn wt seen)(hs:∀r l,Adj ts p r l->seen r):Dl ts n s kn wt:=
 ⟨h.dm.leave hs,h.ln,h.bk,h.bw⟩
structure Lens (ts:List T3)(n s:Int)(kn:List (Option Int)):Prop where
 ln:kn.length=n.toNat
 len:∀y,0<=y->y<n->Len ts s y (fnl kn y)
 bd:∀o∈kn,∀d,o=some d->0<=d/\d<=2376
theorem Dl.done {n:Int}{ts:List T3}(g:GW n ts){s:Int}{kn:List (Option Int)}{wt:Int->Option Int}(h:Dl ts n s kn wt)(hw:∀q,wt q=none):Lens ts n s kn:=by
 refine⟨h.ln,fun y _ _=>h.dj.done g hw y,fun o ho d e=>?_⟩
 obtain⟨j,hj,ej⟩:=List.getElem_of_mem ho
 have hf:fnl kn (j:Int)=some d:=by
  unfold fnl
  rw[if_pos (by omega),List.getD_eq_getElem?_getD,Int.toNat_natCast,List.getElem?_eq_getElem hj,ej,e];rfl
 have h1:=h.bk _ _ hf
 have h2:=(h.dj.kd _ _ hf).1.nn g
 have h3:=cnt_le kn
 have:=h.ln
 have:=g.n24
 omega
end WM
namespace WM
def oadd:Option Int->Option Int->Option Int
 | some a,some b=>some (a+b)
 | _,_=>none
def oles:Option Int->Option Int->Option Int
 | none,o=>o
 | some a,none=>some a
 | some a,some b=>some (if b<a then b else a)
theorem WayK.mono {ts:List T3}{k k' x y d:Int}(h:WayK ts k x y d)(hk:k<=k'):WayK ts k' x y d:=by
 induction h with
 | nil=>exact .nil _
 | tie ha=>exact .tie ha
 | cons ha hz _ ih=>exact .cons ha (by omega) ih
structure Fm (ts:List T3)(n k:Int)(F:Int->Int->Option Int)(done:Int->Int->Prop):Prop where
 fw:Fw ts n F
 cv:Cov ts n k F
 dn:∀x y d,0<=x->x<n->0<=y->y<n->done x y->WayK ts (k+1) x y d->∃e,F x y=some e/\e<=d
theorem oles_le {o p:Option Int}{d:Int}(h:(∃e,o=some e/\e<=d)\/∃e,p=some e/\e<=d):∃e,oles o p=some e/\e<=d:=by
 rcases h with ⟨e,rfl,h⟩ | ⟨e,rfl,h⟩
 . cases p with
   | none=>exact⟨e,rfl,h⟩
   | some b=>exact⟨_,rfl,by split <;> omega⟩
 . cases o with
   | none=>exact⟨e,rfl,h⟩
   | some a=>exact⟨_,rfl,by split <;> omega⟩
theorem oles_or {o p:Option Int}{d:Int}(h:oles o p=some d):o=some d\/p=some d:=by
 cases o with
 | none=>exact .inr h
 | some a=>
  cases p with
  | none=>exact .inl h
  | some b=>
   have e:(if b<a then b else a)=d:=Option.some.inj h
   split at e
   . exact .inr (by rw[e])
   . exact .inl (by rw[e])
theorem oadd_some {o p:Option Int}{d:Int}(h:oadd o p=some d):∃a b,o=some a/\p=some b/\a+b=d:=by
 cases o with
 | none=>cases h
 | some a=>
  cases p with
  | none=>cases h
  | some b=>exact⟨a,b,rfl,rfl,Option.some.inj h⟩
theorem Fm.step {n:Int}{ts:List T3}(g:GW n ts){k:Int}{F:Int->Int->Option Int}{done:Int->Int->Prop}(h:Fm ts n k F done){a b:Int}(ha:0<=a)(ha':a<n)(hb:0<=b)(hb':b<n)(hk:0<=k)(hk':k<n) :
 Fm ts n k (fun x y=>if x=a/\y=b then oles (F a b) (oadd (F a k) (F k b)) else F x y) (fun x y=>done x y\/(x=a/\y=b)):=by
 have snd:∀d,oles (F a b) (oadd (F a k) (F k b))=some d->Way ts a b d:=fun d hd=>by
  rcases oles_or hd with e | e
  . exact h.fw.snd a b d ha ha' hb hb' e
  . obtain⟨d1,d2,e1,e2,rfl⟩:=oadd_some e
    exact (h.fw.snd a k d1 ha ha' hk hk' e1).trans (h.fw.snd k b d2 hk hk' hb hb' e2)
 have cov1:∀d,WayK ts (k+1) a b d->∃e,oles (F a b) (oadd (F a k) (F k b))=some e/\e<=d:=fun d w=>by
  refine oles_le ?_
  rcases w.split g with q | ⟨d1,d2,q1,q2,hle⟩
  . exact .inl (h.cv a b d ha ha' hb hb' q)
  . obtain⟨e1,f1,l1⟩:=h.cv a k d1 ha ha' hk hk' q1
    obtain⟨e2,f2,l2⟩:=h.cv k b d2 hk hk' hb hb' q2
    exact .inr ⟨e1+e2,by rw[f1,f2];rfl,by omega⟩
 refine⟨⟨fun x y d hx hx' hy hy' e=>?_⟩,fun x y d hx hx' hy hy' w=>?_,fun x y d hx hx' hy hy' hd w=>?_⟩
 . by_cases c:x=a/\y=b
   . rw[if_pos c] at e;rw[c.1,c.2];exact snd d e
   . rw[if_neg c] at e;exact h.fw.snd x y d hx hx' hy hy' e
 . by_cases c:x=a/\y=b
   . rw[if_pos c];rw[c.1,c.2] at w;exact cov1 d (w.mono (by omega))
   . rw[if_neg c];exact h.cv x y d hx hx' hy hy' w
 . by_cases c:x=a/\y=b
   . rw[if_pos c];rw[c.1,c.2] at w;exact cov1 d w
   . rw[if_neg c];exact h.dn x y d hx hx' hy hy' (hd.resolve_right c) w
theorem Fm.enter {n:Int}{ts:List T3}{k:Int}{F:Int->Int->Option Int}(h:Fw ts n F)(c:Cov ts n k F):Fm ts n k F (fun _ _=>False):=⟨h,c,fun _ _ _ _ _ _ _ z=>z.elim⟩
theorem Fm.leave {n:Int}{ts:List T3}{k:Int}{F:Int->Int->Option Int}{done:Int->Int->Prop}(h:Fm ts n k F done)(hd:∀x y,0<=x->x<n->0<=y->y<n->done x y):Fw ts n F/\Cov ts n (k+1) F:=
 ⟨h.fw,fun x y d hx hx' hy hy' w=>h.dn x y d hx hx' hy hy' (hd x y hx hx' hy hy') w⟩
def Ft (ts:List T3)(n:Int)(F:Int->Int->Option Int):Prop:=∀x y d,0<=x->x<n->0<=y->y<n->(F x y=some d↔(x=y/\d=0)\/Adj ts x y d)
theorem Ft.fw {n:Int}{ts:List T3}(g:GW n ts){F:Int->Int->Option Int}(h:Ft ts n F):Fw ts n F/\Cov ts n 0 F:=by
 refine⟨⟨fun x y d hx hx' hy hy' e=>?_⟩,fun x y d hx hx' hy hy' w=>?_⟩
 . rcases (h x y d hx hx' hy hy').mp e with ⟨rfl,rfl⟩ | ha
   . exact .nil x
   . exact .one ha
 . refine⟨d,(h x y d hx hx' hy hy').mpr ?_,Int.le_refl _⟩
   rcases w.zero g with q | q
   . exact .inl q
   . exact .inr q
theorem Ft.nil (n:Int){F:Int->Int->Option Int}(h:∀x y,0<=x->x<n->0<=y->y<n->F x y=if x=y then some 0 else none):Ft [] n F:=fun x y d hx hx' hy hy'=>by
 rw[h x y hx hx' hy hy']
 constructor
 . intro e
   split at e
   . rename_i c;exact .inl ⟨c,(Option.some.inj e).symm⟩
   . cases e
 . rintro (⟨rfl,rfl⟩ | ha)
   . rw[if_pos rfl]
   . rcases ha with z | z <;> simp at z
theorem Ft.put {n:Int}{pre post:List T3}{a b l:Int}(g:GW n (pre++(a,b,l)::post)){F:Int->Int->Option Int}(h:Ft pre n F) :
 Ft (pre++[(a,b,l)]) n (fun x y=>if x=b/\y=a then some l else if x=a/\y=b then some l else F x y):=fun x y d hx hx' hy hy'=>by
 have hr:=g.rng (a,b,l) (by simp)
 simp only at hr
 have sub:∀{x y d:Int},Adj pre x y d->Adj (pre++(a,b,l)::post) x y d:=fun z=>z.elim (fun z=>.inl (List.mem_append_left _ z)) fun z=>.inr (List.mem_append_left _ z)
 have own:Adj (pre++(a,b,l)::post) a b l:=.inl (by simp)
 have hadj:Adj (pre++[(a,b,l)]) x y d↔Adj pre x y d\/(x=a/\y=b/\d=l)\/(x=b/\y=a/\d=l):=by
  unfold Adj
  simp only[List.mem_append,List.mem_singleton,Prod.mk.injEq]
  constructor
  . rintro ((z | z) | (z | z))
    . exact .inl (.inl z)
    . exact .inr (.inl z)
    . exact .inl (.inr z)
    . exact .inr (.inr ⟨z.2.1,z.1,z.2.2⟩)
  . rintro ((z | z) | z | z)
    . exact .inl (.inl z)
    . exact .inr (.inl z)
    . exact .inl (.inr z)
    . exact .inr (.inr ⟨z.2.1,z.1,z.2.2⟩)
 rw[hadj]
 show (if x=b/\y=a then some l else if x=a/\y=b then some l else F x y)=some d↔_
 by_cases c1:x=b/\y=a
 . rw[if_pos c1]
   constructor
   . intro e;exact .inr (.inr (.inr ⟨c1.1,c1.2,(Option.some.inj e).symm⟩))
   . rintro (⟨e,_⟩ | z | ⟨e1,e2,e3⟩ | ⟨_,_,e3⟩)
     . omega
     . have z':=sub z;rw[c1.1,c1.2] at z';rw[g.uniq z' own.symm]
     . rw[e3]
     . rw[e3]
 . rw[if_neg c1]
   by_cases c2:x=a/\y=b
   . rw[if_pos c2]
     constructor
     . intro e;exact .inr (.inr (.inl ⟨c2.1,c2.2,(Option.some.inj e).symm⟩))
     . rintro (⟨e,_⟩ | z | ⟨e1,e2,e3⟩ | ⟨_,_,e3⟩)
       . omega
       . have z':=sub z;rw[c2.1,c2.2] at z';rw[g.uniq z' own]
       . rw[e3]
       . rw[e3]
   . rw[if_neg c2,h x y d hx hx' hy hy']
     constructor
     . rintro (z | z)
       . exact .inl z
       . exact .inr (.inl z)
     . rintro (z | z | z | z)
       . exact .inl z
       . exact .inr z
       . exact absurd ⟨z.1,z.2.1⟩ c2
       . exact absurd ⟨z.1,z.2.1⟩ c1
def mat (M:List (List (Option Int)))(x y:Int):Option Int:=if 0<=x then fnl (M.getD x.toNat []) y else none
def setm (M:List (List (Option Int)))(a b:Int)(v:Option Int):List (List (Option Int)):=M.set a.toNat ((M.getD a.toNat []).set b.toNat v)
structure Sqm (n:Int)(M:List (List (Option Int))):Prop where
 ln:M.length=n.toNat
 rw_:∀r∈M,r.length=n.toNat
theorem Sqm.row {n:Int}{M:List (List (Option Int))}(h:Sqm n M){a:Int}(ha:0<=a)(ha':a<n):∃r,M[a.toNat]? = some r/\M.getD a.toNat []=r/\r.length=n.toNat:=by
 have hl:=h.ln
 have hlt:a.toNat<M.length:=by omega
 exact⟨M[a.toNat],List.getElem?_eq_getElem hlt,by rw[List.getD_eq_getElem?_getD,List.getElem?_eq_getElem hlt];rfl,h.rw_ _ (List.getElem_mem hlt)⟩
theorem Sqm.set {n:Int}{M:List (List (Option Int))}(h:Sqm n M){a b:Int}{v:Option Int}(ha:0<=a)(ha':a<n):Sqm n (setm M a b v):=by
 obtain⟨r,h1,h2,h3⟩:=h.row ha ha'
 refine⟨by unfold setm;rw[List.length_set];exact h.ln,fun q hq=>?_⟩
 unfold setm at hq
 rcases List.mem_or_eq_of_mem_set hq with z | z
 . exact h.rw_ q z
 . rw[z,List.length_set,h2,h3]
theorem mat_set {n:Int}{M:List (List (Option Int))}(h:Sqm n M){a b:Int}{v:Option Int}(ha:0<=a)(ha':a<n)(hb:0<=b)(hb':b<n){x y:Int}(hx:0<=x)(hx':x<n) :
 mat (setm M a b v) x y=if x=a/\y=b then v else mat M x y:=by
 obtain⟨r,h1,h2,h3⟩:=h.row ha ha'
 have hl:=h.ln
 unfold mat setm
 rw[if_pos hx,if_pos hx,List.getD_eq_getElem?_getD,List.getElem?_set]
 by_cases e:x=a
 . subst e
   rw[if_pos rfl,if_pos (by omega),Option.getD_some,h2,fnl_set hb (by omega)]
   by_cases e2:y=b
   . rw[if_pos e2,if_pos ⟨rfl,e2⟩]
   . rw[if_neg e2,if_neg fun z=>e2 z.2]
 . rw[if_neg (by omega),if_neg fun z=>e z.1,<-List.getD_eq_getElem?_getD]
theorem Fm.congr {n:Int}{ts:List T3}{k:Int}{F G:Int->Int->Option Int}{done done':Int->Int->Prop}(h:Fm ts n k F done)(e:∀x y,0<=x->x<n->0<=y->y<n->G x y=F x y)(hd:∀x y,0<=x->x<n->0<=y->y<n->done' x y->done x y):Fm ts n k G done':=
 ⟨⟨fun x y d a b c d' z=>h.fw.snd x y d a b c d' (by rw[<-e x y a b c d'];exact z)⟩,fun x y d a b c d' w=>by rw[e x y a b c d'];exact h.cv x y d a b c d' w,fun x y d a b c d' z w=>by rw[e x y a b c d'];exact h.dn x y d a b c d' (hd x y a b c d' z) w⟩
theorem Ft.congr {n:Int}{ts:List T3}{F G:Int->Int->Option Int}(h:Ft ts n F)(e:∀x y,0<=x->x<n->0<=y->y<n->G x y=F x y):Ft ts n G:=fun x y d a b c d'=>by rw[e x y a b c d'];exact h x y d a b c d'
def Rows (ts:List T3)(n:Int)(M:List (List (Option Int))):Prop:=M.length=n.toNat/\∀x,0<=x->x<n->Lens ts n x (M.getD x.toNat [])
theorem way_bound {n:Int}{ts:List T3}(g:GW n ts)(x y:Int)(hx:0<=x)(hx':x<n)(d:Int)(h:IsD ts x y d):0<=d/\d<=2376:=by
 have ex:∀(m:Nat)(kn:List (Option Int))(wt:Int->Option Int),Dl ts n x kn wt->n.toNat-cnt kn<=m->(∃L:List Int,∀q e,wt q=some e->q∈L)->∃kn',Lens ts n x kn':=by
  intro m
  induction m with
  | zero=>
   intro kn wt D hm _
   refine⟨kn,D.done g fun q=>?_⟩
   cases e:wt q with
   | none=>rfl
   | some d=>
    have hk:=(D.dj.wk q d e).1
    obtain⟨_,h0,h1⟩:=D.bw q d e
    have hl:=D.ln
    have hlt:q.toNat<kn.length:=by omega
    have hn:kn[q.toNat]? = some none:=by
     unfold fnl at hk
     rw[if_pos h0,List.getD_eq_getElem?_getD,List.getElem?_eq_getElem hlt] at hk
     rw[List.getElem?_eq_getElem hlt]
     exact congrArg some hk
    have h1:=cnt_set (d:=0) hn
    have h2:=cnt_le (kn.set q.toNat (some 0))
    rw[List.length_set] at h2
    omega
  | succ m ih=>
   intro kn wt D hm hL
   by_cases hw:∀q,wt q=none
   . exact⟨kn,D.done g hw⟩
   . -- pick the nearest
     obtain⟨L,hL⟩:=hL
     have pick:∀L:List Int,(∃q∈L,(wt q).isSome)->∃p d,wt p=some d/\∀q∈L,∀e,wt q=some e->d<=e:=by
      intro L
      induction L with
      | nil=>rintro ⟨q,hq,_⟩;simp at hq
      | cons z L ihL=>
       rintro ⟨q,hq,hs⟩
       by_cases hr:∃q∈L,(wt q).isSome
       . obtain⟨p,d,hp,hmin⟩:=ihL hr
         cases ez:wt z with
         | none=>
          refine⟨p,d,hp,fun q' hq' e he=>?_⟩
          rcases List.mem_cons.mp hq' with rfl | hq'
          . rw[ez] at he;cases he
          . exact hmin q' hq' e he
         | some dz=>
          by_cases hz:dz<d
          . refine⟨z,dz,ez,fun q' hq' e he=>?_⟩
            rcases List.mem_cons.mp hq' with rfl | hq'
            . rw[ez] at he;cases he;exact Int.le_refl _
            . have:=hmin q' hq' e he;omega
          . refine⟨p,d,hp,fun q' hq' e he=>?_⟩
            rcases List.mem_cons.mp hq' with rfl | hq'
            . rw[ez] at he;cases he;omega
            . exact hmin q' hq' e he
       . rcases List.mem_cons.mp hq with rfl | hq
         . obtain⟨d,hd⟩:=Option.isSome_iff_exists.mp hs
           refine⟨q,d,hd,fun q' hq' e he=>?_⟩
           rcases List.mem_cons.mp hq' with rfl | hq'
           . rw[hd] at he;cases he;exact Int.le_refl _
           . exact absurd ⟨q',hq',by rw[he];rfl⟩ hr
         . exact absurd ⟨q,hq,hs⟩ hr
     obtain⟨p,d,hp,hmin⟩:=pick L (by
      apply Classical.byContradiction
      intro hno
      refine hw fun q=>?_
      cases e:wt q with
      | none=>rfl
      | some d=>exact absurd ⟨q,hL q d e,by rw[e];rfl⟩ hno)
     obtain⟨hn,h0,h1,hc,N⟩:=D.enter g hp (fun q e he=>hmin q (hL q e he) e he)
     have all:∀(ns:List (Int×Int))(wt':Int->Option Int)(seen:Int->Prop),Dn ts n x p d (kn.set p.toNat (some d)) wt' seen->(∃L:List Int,∀q e,wt' q=some e->q∈L)->(∀r l,(r,l)∈ns->Adj ts p r l) ->
      ∃(wt'':Int->Option Int)(seen':Int->Prop),Dn ts n x p d (kn.set p.toNat (some d)) wt'' seen'/\(∃L:List Int,∀q e,wt'' q=some e->q∈L)/\(∀r,seen r->seen' r)/\∀r l,(r,l)∈ns->seen' r:=by
      intro ns
      induction ns with
      | nil=>intro wt' seen N hL _;exact⟨wt',seen,N,hL,fun _ z=>z,fun r l z=>by simp at z⟩
      | cons t ns ih'=>
       intro wt' seen N hL' ha
       obtain⟨r,l⟩:=t
       have har:=ha r l List.mem_cons_self
       have ha':∀r l,(r,l)∈ns->Adj ts p r l:=fun r l z=>ha r l (List.mem_cons_of_mem _ z)
       cases ek:fnl (kn.set p.toNat (some d)) r with
       | some f=>
        obtain⟨w2,s2,N2,L2,m2,a2⟩:=ih' wt' _ (N.skip ek) hL' ha'
        refine⟨w2,s2,N2,L2,fun q z=>m2 q (.inl z),fun q l' z=>?_⟩
        rcases List.mem_cons.mp z with e | z
        . cases e;exact m2 _ (.inr rfl)
        . exact a2 q l' z
       | none=>
        obtain⟨L',hL'⟩:=hL'
        obtain⟨w2,s2,N2,L2,m2,a2⟩:=ih' _ _ (N.wait g har ek) ⟨r::L',fun q e he=>by
         by_cases e':q=r
         . rw[e'];exact List.mem_cons_self
         . rw[if_neg e'] at he;exact List.mem_cons_of_mem _ (hL' q e he)⟩ ha'
        refine⟨w2,s2,N2,L2,fun q z=>m2 q (.inl z),fun q l' z=>?_⟩
        rcases List.mem_cons.mp z with e | z
        . cases e;exact m2 _ (.inr rfl)
        . exact a2 q l' z
     have nbr:∃ns:List (Int×Int),(∀r l,(r,l)∈ns->Adj ts p r l)/\∀r l,Adj ts p r l->(r,l)∈ns:=by
      refine⟨(ts.filterMap fun t=>if t.1=p then some (t.2.1,t.2.2) else none)++(ts.filterMap fun t=>if t.2.1=p then some (t.1,t.2.2) else none),fun r l z=>?_,fun r l z=>?_⟩
      . rcases List.mem_append.mp z with z | z
        . obtain⟨⟨a,b,c⟩,ht,e⟩:=List.mem_filterMap.mp z
          split at e
          . rename_i c1
            have c1':a=p:=c1
            have e':=Option.some.inj e
            simp only[Prod.mk.injEq] at e'
            obtain⟨rfl,rfl⟩:=e'
            subst c1'
            exact .inl ht
          . cases e
        . obtain⟨⟨a,b,c⟩,ht,e⟩:=List.mem_filterMap.mp z
          split at e
          . rename_i c1
            have c1':b=p:=c1
            have e':=Option.some.inj e
            simp only[Prod.mk.injEq] at e'
            obtain⟨rfl,rfl⟩:=e'
            subst c1'
            exact .inr ht
          . cases e
      . rcases z with z | z
        . exact List.mem_append_left _ (List.mem_filterMap.mpr ⟨_,z,by simp⟩)
        . exact List.mem_append_right _ (List.mem_filterMap.mpr ⟨_,z,by simp⟩)
     obtain⟨ns,hns1,hns2⟩:=nbr
     obtain⟨w2,s2,N2,L2,_,a2⟩:=all ns _ _ N ⟨L,fun q e he=>by
      by_cases e':q=p
      . rw[if_pos e'] at he;cases he
      . rw[if_neg e'] at he;exact hL q e he⟩ hns1
     exact ih _ _ (N2.leave fun r l ha=>a2 r l (hns2 r l ha)) (by omega) L2
 obtain⟨kn,K⟩:=ex n.toNat _ _ (Dl.start g hx hx') (by omega) ⟨[x],fun q e he=>by
  by_cases e':q=x
  . simp[e']
  . rw[if_neg e'] at he;cases he⟩
 have hy:(0<=y/\y<n)\/y=x:=by
  have:∀{x y d:Int},Way ts x y d->x=y\/(0<=y/\y<n):=by
   intro x y d w
   induction w with
   | nil=>exact .inl rfl
   | cons ha _ ih=>
    rcases ih with rfl | q
    . have:=g.adj ha;exact .inr ⟨this.2.2.1,this.2.2.2.1⟩
    . exact .inr q
  rcases this h.1 with e | q
  . exact .inr e.symm
  . exact .inl q
 have hy':0<=y/\y<n:=hy.elim id fun e=>by omega
 have hl:=K.len y hy'.1 hy'.2
 have hlen:=K.ln
 have hlt:y.toNat<kn.length:=by omega
 have e1:fnl kn y=kn[y.toNat]:=by
  unfold fnl
  rw[if_pos hy'.1,List.getD_eq_getElem?_getD,List.getElem?_eq_getElem hlt];rfl
 have e2:=Len.uniq hl (show Len ts x y (some d) from h)
 exact K.bd _ (List.getElem_mem hlt) d (by rw[<-e1];exact e2)
theorem rows_of {n:Int}{ts:List T3}(g:GW n ts){M:List (List (Option Int))}(h:Sqm n M)(f:Fw ts n (mat M))(c:Cov ts n n (mat M)):Rows ts n M:=by
 refine⟨h.ln,fun x hx hx'=>?_⟩
 obtain⟨r,h1,h2,h3⟩:=h.row hx hx'
 have e:∀y,mat M x y=fnl r y:=fun y=>by unfold mat;rw[if_pos hx,h2]
 rw[h2]
 refine⟨h3,fun y hy hy'=>by rw[<-e];exact f.len g c hx hx' hy hy',fun o ho d ed=>?_⟩
 obtain⟨j,hj,ej⟩:=List.getElem_of_mem ho
 have hf:fnl r (j:Int)=some d:=by
  unfold fnl
  rw[if_pos (by omega),List.getD_eq_getElem?_getD,Int.toNat_natCast,List.getElem?_eq_getElem hj,ej,ed];rfl
 have hl:=f.len g c hx hx' (y:=(j:Int)) (by omega) (by omega)
 rw[e,hf] at hl
 exact way_bound g x j hx hx' d hl
end WM
namespace WM
def Btw (ts:List T3)(x y p:Int):Prop:=∃a b,IsD ts x p a/\IsD ts p y b/\IsD ts x y (a+b)
theorem Way.in_ {n:Int}{ts:List T3}(g:GW n ts){x y d:Int}(w:Way ts x y d)(hx:0<=x)(hx':x<n):0<=y/\y<n:=by
 induction w with
 | nil=>exact⟨hx,hx'⟩
 | cons ha _ ih=>have:=g.adj ha;exact ih this.2.2.1 this.2.2.2.1
theorem Len.via {ts:List T3}{x y p a d:Int}{o:Option Int}(h1:IsD ts x p a)(h2:IsD ts x y d)(h3:Len ts p y o):∃b,o=some b/\d<=a+b:=by
 cases o with
 | none=>exact absurd (h1.1.symm.trans h2.1) (h3 _)
 | some b=>exact⟨b,rfl,h2.2 _ (h1.1.trans h3.1)⟩
end WM
namespace WM
end WM
namespace L2
open PySem PySem.Spec PyProof.Rows
def intO:KeyOrd:=⟨Int,fun a b=>decide (a<b),fun a=>decide_eq_false (by omega),fun a b c h1 h2=>decide_eq_true (by have:=of_decide_eq_true h1;have:=of_decide_eq_true h2;omega),
 fun a b c h=>by
  have h':a<c:=of_decide_eq_true h
  by_cases hab:a<b
  . exact .inl (decide_eq_true hab)
  . exact .inr (decide_eq_true (by omega)),
 fun a b h1 h2=>by have:=of_decide_eq_false h1;have:=of_decide_eq_false h2;omega⟩
theorem asks_ints {prog:Program}{w:World}{A:Around}{s:Shared}{a:Addr}{vs:List Value}{ns:List Int}(hI:IntsAre vs ns)(h2:2<=vs.length) :
 SortT.Asks prog w A s a vs (O:=intO) (fun i=>ns.getD i 0) oneType':=by
 have hl:=hI.length
 have at_:∀i,i<vs.length->∃t,vs.getD i Value.none = .int (ns.getD i 0) t:=fun i hi=>by
  obtain⟨n,hn⟩:∃n,ns[i]? = some n:=⟨_,List.getElem?_eq_getElem (by omega)⟩
  obtain⟨t,ht⟩:=hI.get i n hn
  exact⟨t,by rw[List.getD_eq_getElem?_getD,List.getD_eq_getElem?_getD,ht,hn];rfl⟩
 refine⟨fun h' Q E kh q=>?_,fun h' i j Q E kh hi hj q=>?_⟩
 . rw[ksk_kind (keys:=vs.toArray) (kz:=ns) (by simpa using hI) (by simpa using h2)]
   exact wpAny_pure q
 . obtain⟨t,e1⟩:=at_ i hi
   obtain⟨u,e2⟩:=at_ j hj
   rw[e1,e2]
   exact PySem.W.kat_lt_int q
theorem put_ints {vs:List Value}{ns:List Int}{out:List Nat}(hI:IntsAre vs ns)(p:SortT.Put (O:=intO) (fun i=>ns.getD i 0) vs.length out) :
 ∃ms:List Int,ms.Perm ns/\ms.Pairwise (· <= ·)/\Vals (ms.map V.int) (out.map fun i=>vs.getD i Value.none)/\ms.length=ns.length:=by
 have hl:=hI.length
 have hb:∀i∈out,i<vs.length:=fun i hi=>List.mem_range.mp (p.perm.mem_iff.mp hi)
 refine⟨out.map fun i=>ns.getD i 0,?_,?_,?_,?_⟩
 . have h1:=p.perm.map fun i=>ns.getD i 0
   have h2:(List.range vs.length).map (fun i=>ns.getD i 0)=ns:=by
    rw[show vs.length=ns.length by omega]
    apply List.ext_getElem?
    intro j
    rw[List.getElem?_map]
    by_cases hj:j<ns.length
    . rw[List.getElem?_range hj,List.getElem?_eq_getElem hj];simp[hj]
    . rw[List.getElem?_eq_none (by rw[List.length_range];omega),List.getElem?_eq_none (by omega)];rfl
   rw[h2] at h1
   exact h1
 . refine List.pairwise_iff_getElem.mpr fun i j hi hj hij=>?_
   rw[List.length_map] at hi hj
   have:=p.rise i j out[i] out[j] (Nat.le_of_lt hij) (by simp) (by simp)
   have h3:decide (ns.getD out[j] 0<ns.getD out[i] 0)=false:=this
   have h4:=of_decide_eq_false h3
   rw[List.getElem_map,List.getElem_map]
   omega
 . have:∀l:List Nat,(∀i∈l,i<vs.length)->Vals ((l.map fun i=>ns.getD i 0).map V.int) (l.map fun i=>vs.getD i Value.none):=by
    intro l
    induction l with
    | nil=>intro _;exact .nil
    | cons i l ih=>
     intro h
     have hi:=h i List.mem_cons_self
     obtain⟨n,hn⟩:∃n,ns[i]? = some n:=⟨_,List.getElem?_eq_getElem (by omega)⟩
     obtain⟨t,ht⟩:=hI.get i n hn
     refine .cons ?_ (ih fun j hj=>h j (List.mem_cons_of_mem _ hj))
     show RelV (V.int (ns.getD i 0)) (vs.getD i Value.none)
     rw[List.getD_eq_getElem?_getD,List.getD_eq_getElem?_getD,ht,hn]
     exact⟨t,rfl⟩
   exact this out hb
 . rw[List.length_map,p.perm.length_eq,List.length_range];omega
section
variable {X:Cx}
theorem call_sortedK (hc:X.calm=true):CallR X (.builtin "sorted") (fun xs H Q=>∃p kvs ns,xs=[.ref p]/\H p=some (.dK kvs)/\kvs.map (·.1)=ns.map Sum.inl/\ns.length<64 /\
 ∀(l:Addr)(ms:List Int),H l=none->ms.Perm ns->ms.Pairwise (· <= ·)->Q (.ref l) (upd H l (.lst (ms.map V.int)))):=by
 intro pins s σ H xs us Q I r h
 obtain⟨p,kvs,ns,rfl,hd,hks,h64,q⟩:=h
 obtain⟨u,rfl,rx⟩:=vals1 r
 cases rx
 obtain⟨hz,lo,vs,rel,o,es,ep,ho,hx,hdat,_,hpr,hnd⟩:=dk_of I.hok hd
 have key:∀(es:List DictEntry)(kvs:List (Key×V))(vs:List (Key×Value))(ns:List Int),KV kvs vs->Pairs (mixKind X.prog X.w) es vs->kvs.map (·.1)=ns.map Sum.inl->IntsAre (es.map (·.key)) ns:=by
  intro es
  induction es with
  | nil=>
   intro kvs vs ns rel pr e
   cases pr
   cases rel
   cases ns with
   | nil=>exact .nil
   | cons n ns=>simp at e
  | cons d es ih=>
   intro kvs vs ns rel pr e
   cases pr with
   | cons k1 k2 k3=>
    cases rel with
    | cons hpq t=>
     cases ns with
     | nil=>simp at e
     | cons n ns=>
      simp only[List.map_cons,List.cons.injEq] at e
      rw[<-hpq.1,e.1] at k1
      obtain⟨t0,e0⟩:=Value.isInt_shape (k:=n) (v:=d.key) k1
      rw[List.map_cons,e0]
      exact .cons n t0 (ih _ _ _ t k3 e.2)
 have hI:IntsAre (es.toList.map (·.key)) ns:=key _ _ _ _ rel hpr hks
 have hl:=hI.length
 refine SortT.sorted_dict (O:=intO) (key:=fun i=>ns.getD i 0) (κ:=oneType') (vs:=es.toList.map (·.key)) (I.ok.hd hc) lo ⟨o,ho,hx,hdat⟩ rfl (by omega) (fun h2 s' a fa kp=>asks_ints hI h2) fun h1 D h' t' out c pt k1 hD k2 ho=>?_
 obtain⟨ms,hp,hr,rz,hlz⟩:=put_ints hI pt
 have I1:Inv X pins σ H { s with heap:=h1,toks:=s.toks }:=I.kept k1
 refine⟨.ref D,_,sorted_fin (s:={ s with heap:=h1,toks:=s.toks }) (t':=t') I1 hD k2 ho rz ?_,rfl,q D ms (I1.hok.fresh hD) hp hr⟩
 have:sizeLine=16777216:=rfl
 rw[List.length_map]
 omega
end
def CodePhi (c:Addr)(q:Str):Heap->Prop:=fun h=>∃o vs t,h.get? c=some o/\o.data = .fields vs/\vs[1]? = some (.str q t)
def TabAt (H:Hp)(P:Addr)(pos:Pos)(q:Str):Prop:=∃ps,H P=some (.tbl ps)/\TriplesOk ps.toList/\(codeAmong pos ps.toList=none\/∃c,codeAmong pos ps.toList=some (.ref c)/\H c=some (.ext (CodePhi c q)))
def SmT (H H':Hp):Prop:=∀b o,H b=some o->(∃ps,o = .tbl ps)\/H' b=some o
theorem SmT.of {H H':Hp}(h:Same H H'):SmT H H':=fun b o e=>.inr (h b o e)
theorem SmT.trans {H H1 H2:Hp}(a:SmT H H1)(b:SmT H1 H2):SmT H H2:=fun c o e=>by
 rcases a c o e with z | z
 . exact .inl z
 . exact b c o z
theorem TabAt.keep {H H':Hp}{P:Addr}{pos:Pos}{q:Str}(h:TabAt H P pos q)(k:∀o,H P=some o->H' P=some o)(k2:∀c φ,H c=some (.ext φ)->H' c=some (.ext φ)):TabAt H' P pos q:=by
 obtain⟨ps,a,b,c⟩:=h
 exact⟨ps,k _ a,b,c.imp id fun ⟨c,e,f⟩=>⟨c,e,k2 _ _ f⟩⟩
theorem TabAt.same {H H':Hp}{P:Addr}{pos:Pos}{q:Str}(h:TabAt H P pos q)(k:Same H H'):TabAt H' P pos q:=h.keep (fun _=>k _ _) fun _ _=>k _ _
def BmAt (mg:Str->Option Value)(h:Heap):Prop:=∃bm ob,mg "__builtins__" = some (.ref bm)/\bm≠builtinsNs/\h.get? bm=some ob/\ob.cls = .type "module" /\ ob.dict=some builtinsNs/\ob.data = .plain
theorem ns_inj {h:Heap}{a:Addr}{m m':Str->Option Value}(x:h.Ns a m)(y:h.Ns a m'):m=m':=by
 obtain⟨o,es,ep,e,d,_,f⟩:=x
 obtain⟨o',es',ep',e',d',_,f'⟩:=y
 rw[e] at e';cases e'
 rw[d] at d';cases d'
 funext n
 rw[<-f n,<-f' n]
section
variable {X:Cx}{pins:List (Addr×Obj)}{σ:St}{H:Hp}{s:Shared}
theorem Inv.growL {Pt c':Addr}{ps more:Array Value}{o:HO}{t':Nat}{h':Heap}(I:Inv X pins σ H s)(hP:H Pt=some (.tbl ps))(hp:s.heap.objs.size<=c')(k:∀b u,b≠Pt->s.heap.get? b=some u->h'.get? b=some u)
 (newP:h'.get? Pt=some (PySem.W.tabObj (ps++more)))(new:ObjOk X.prog X.w (upd (upd H Pt (.tbl (ps++more))) c' o) h' c' o) :
 Inv X pins σ (upd (upd H Pt (.tbl (ps++more))) c' o) { s with heap:=h',toks:=t' }:=by
 have hc:H c'=none:=I.hok.fresh hp
 have nP:∀b,H b=none->b≠Pt:=fun b n z=>by rw[z,hP] at n;cases n
 have nc:∀b u,s.heap.get? b=some u->b≠c':=fun b u e=>Nat.ne_of_lt (Nat.lt_of_lt_of_le (Heap.lt_size e) hp)
 have up:∀b u,H b=some u->b≠Pt->(upd (upd H Pt (.tbl (ps++more))) c' o) b=some u:=fun b u e hb=>by rw[upd_ne (ne_of_none e hc),upd_ne hb];exact e
 refine I.un ⟨fun b u e n _ _=>k b u (nP b n) e,fun b u e n _ _=>⟨u.slots,k b u (nP b n) e⟩,fun b u e n _=>by rw[upd_ne (nc b u e),upd_ne (nP b n)];exact n,fun b u e _=>?_,fun b xs e=>up b _ e (ne_of e hP (by intro z;cases z)),fun b ob u e=>up b _ e (ne_of e hP (by intro z;cases z)),fun b qs e=>?_⟩ ?_
 . by_cases hb:b=Pt
   . rw[hb];exact⟨_,newP⟩
   . exact⟨u,k b u hb e⟩
 . by_cases hb:b=Pt
   . subst hb
     rw[hP] at e;cases e
     exact⟨more,by rw[upd_ne (ne_of_none hP hc),upd_same]⟩
   . exact⟨#[],by rw[up b _ e hb];simp⟩
 . intro b u e
   by_cases hbc:b=c'
   . subst hbc;rw[upd_same] at e;cases e;exact new
   . rw[upd_ne hbc] at e
     by_cases hb:b=Pt
     . subst hb;rw[upd_same] at e;cases e;exact newP
     . rw[upd_ne hb] at e
       refine (I.hok b u e).stay (fun d v hd q=>k d v ?_ q) (fun d q=>up d _ q (ne_of q hP (by intro z;cases z))) fun d xs q=>up d _ q (ne_of q hP (by intro z;cases z))
       rcases hd with z | z
       . rw[z];exact hb
       . exact ne_of z hP (by intro z';cases z')
end
theorem free_of {X:Cx}{sc:Scope}(h:(sc.names.all fun y=>y.2 != .free || X.env.kindOf y.1==some .cell)=true):∀y∈sc.names,y.2 = .free->X.env.kindOf y.1=some .cell:=fun y hy e=>by
 have a:=List.all_eq_true.mp h y hy
 rw[e] at a
 simpa using a
section
variable {X:Cx}
end
end L2
namespace L2
open PySem PySem.Spec PyProof.Rows
structure FunC (K:PySem.W.Frag)(x qual:Str)(st:Stmt)(f:Addr)(fd:FuncData)(c:Addr):Prop where
 ex:∃(oc:Value)(od:Option Addr)(kV doc pm:Value)(an:Option Addr)(ct:Value)(osl:Array (Option Value)),
  fd=PySem.W.fnOf x qual (defArgs st) (defBody st) (defScope st) .none kV doc pm an (.ref c) ct/\K.lookup f=some ⟨oc,od,.func fd,osl⟩/\PySem.W.codeIn K (.ref c) qual=true
 kp:PySem.W.keepIn K (.ref f)=true
theorem FunC.fn {K:PySem.W.Frag}{x qual:Str}{st:Stmt}{f c:Addr}{fd:FuncData}(F:FunC K x qual st f fd c):Fun K x qual st f fd:=by
 obtain⟨oc,od,kV,doc,pm,an,ct,osl,h⟩:=F.ex
 exact⟨⟨oc,od,kV,doc,pm,an,.ref c,ct,osl,h⟩,F.kp⟩
theorem FunC.ok {P:Program}{w:World}{K:PySem.W.Frag}{mg:Str->Option Value}{base:Heap}{x qual:Str}{st:Stmt}{f c:Addr}{fd:FuncData}{N ps:List Str}{k:Nat}{sp:Sp}(F:FunC K x qual st f fd c)(S:FnScope N ps (defScope st))(len:∀vs H Q E,sp vs H Q E->vs.length=ps.length)
 (hbody:∀(A:Around)(outer:List Env)(s:Shared)(H:Hp)(vs:List V)(Q:VK)(E:XK),Room k (A.deeper (envOfC qual (defScope st) s.heap.objs.size f (.ref c)))->sp vs H Q E ->
  ∃t,PSs (cxOf CX0 P w K mg base N qual (defScope st) f (.ref c) A outer s H E).nox (defBody st) t/\t { nx:=fun _ H'=>Q .non H',rt:=Q } (start N vs) H):FnOk P w K mg base CX0 (k+1) f fd ps sp:=by
 obtain⟨oc,od,kV,doc,pm,an,ct,osl,rfl,lk,hcd⟩:=F.ex
 refine fn_of lk hcd S len fun A outer s H vs Q E hr hsp=>?_
 obtain⟨t,h,q⟩:=hbody A outer s H vs Q E hr hsp
 exact⟨t,h.nox,q⟩
theorem funC_mk {K:PySem.W.Frag}{x qual:Str}{st:Stmt}{f c:Addr}{oc:Value}{od an:Option Addr}{osl:Array (Option Value)}{kV doc pm ct:Value}(l:K.lookup f=some ⟨oc,od,.func (PySem.W.fnOf x qual (defArgs st) (defBody st) (defScope st) .none kV doc pm an (.ref c) ct),osl⟩)
 (hc:PySem.W.codeIn K (.ref c) qual=true)(k:PySem.W.keepIn K (.ref f)=true):FunC K x qual st f (PySem.W.fnOf x qual (defArgs st) (defBody st) (defScope st) .none kV doc pm an (.ref c) ct) c:=⟨⟨oc,od,kV,doc,pm,an,ct,osl,rfl,l,hc⟩,k⟩
section
variable {κ:Type} [DecidableEq κ]
theorem mem_putK {kvs:List (κ×V)}{k:κ}{v:V}{kv:κ×V}(h:kv∈putK kvs k v):kv∈kvs\/kv=(k,v):=by
 unfold putK at h
 split at h
 . obtain⟨q,hq,e⟩:=List.mem_map.mp h
   by_cases hk:q.1=k
   . rw[if_pos hk] at e;rw[<-e,hk];exact .inr rfl
   . rw[if_neg hk] at e;rw[<-e];exact .inl hq
 . rcases List.mem_append.mp h with q | q
   . exact .inl q
   . exact .inr (List.mem_singleton.mp q)
theorem nd_put {kvs:List (κ×V)}{k:κ}{v:V}(h:(kvs.map (·.1)).Nodup):((putK kvs k v).map (·.1)).Nodup:=by
 cases e:valV kvs k with
 | none=>exact nd_putK v h e
 | some x=>
  have ha:(kvs.any fun kv=>decide (kv.1=k))=true:=by rw[valV_any,e];rfl
  unfold putK
  rw[if_pos ha]
  have e3:(kvs.map fun kv=>if kv.1=k then (kv.1,v) else kv).map (·.1)=kvs.map (·.1):=by
   rw[List.map_map]
   refine List.map_congr_left fun kv _=>?_
   show (if kv.1=k then (kv.1,v) else kv).1=kv.1
   split <;> rfl
  rw[e3];exact h
theorem valV_drop (k j:κ):∀kvs:List (κ×V),valV (dropK kvs k) j=if j=k then none else valV kvs j
 | []=>by show (none:Option V)=_;split <;> rfl
 | p::r=>by
  have ih:=valV_drop k j r
  by_cases e:p.1=k
  . rw[dropK_pos e,ih]
    by_cases hj:j=k
    . rw[if_pos hj,if_pos hj]
    . rw[if_neg hj,if_neg hj,valV_neg fun z=>hj (z.symm.trans e)]
  . rw[dropK_neg e]
    by_cases hj:p.1=j
    . rw[valV_pos hj,valV_pos hj,if_neg fun z=>e (hj.trans z)]
    . rw[valV_neg hj,valV_neg hj,ih]
end
def unkW:Key->Int
 | .inl i=>i
 | .inr _=>0
structure WD (n:Int)(kvs:List (Key×V))(wt:Int->Option Int):Prop where
 sh:∀kv∈kvs,∃p d,kv=(Sum.inl p,V.int d)/\0<=p/\p<n
 nd:(kvs.map (·.1)).Nodup
 at_:∀p:Int,valV kvs (Sum.inl p)=(wt p).map V.int
def keysW (kvs:List (Key×V)):List Int:=kvs.map fun kv=>unkW kv.1
theorem WD.keys {n:Int}{kvs:List (Key×V)}{wt:Int->Option Int}(h:WD n kvs wt):kvs.map (·.1)=(keysW kvs).map Sum.inl:=by
 unfold keysW
 rw[List.map_map]
 refine List.map_congr_left fun kv hkv=>?_
 obtain⟨p,d,e,_⟩:=h.sh kv hkv
 rw[e];rfl
theorem WD.nds {n:Int}{kvs:List (Key×V)}{wt:Int->Option Int}(h:WD n kvs wt):(keysW kvs).Nodup:=by
 have e:=h.nd
 rw[h.keys,List.Nodup,List.pairwise_map] at e
 exact e.imp fun h e'=>h (by rw[e'])
theorem WD.len {n:Int}{kvs:List (Key×V)}{wt:Int->Option Int}(h:WD n kvs wt)(h0:0<=n):(kvs.length:Int)<=n:=by
 have:=WM.nd_len (n:=n.toNat) h.nds fun x hx=>by
  obtain⟨kv,hkv,e⟩:=List.mem_map.mp hx
  obtain⟨p,d,e2,h1,h2⟩:=h.sh kv hkv
  have:x=p:=by rw[<-e,e2];rfl
  omega
 unfold keysW at this
 rw[List.length_map] at this
 omega
theorem WD.mem {n:Int}{kvs:List (Key×V)}{wt:Int->Option Int}(h:WD n kvs wt){p:Int}:p∈keysW kvs↔∃e,wt p=some e:=by
 have e:p∈keysW kvs↔(Sum.inl p:Key)∈kvs.map (·.1):=by
  rw[h.keys]
  constructor
  . intro m;exact List.mem_map.mpr ⟨p,m,rfl⟩
  . intro m
    obtain⟨q,hq,e⟩:=List.mem_map.mp m
    cases e;exact hq
 rw[e]
 have ha:=h.at_ p
 constructor
 . intro m
   cases hw:wt p with
   | some d=>exact⟨d,rfl⟩
   | none=>rw[hw] at ha;exact absurd m (valV_not ha)
 . rintro ⟨d,hw⟩
   rw[hw] at ha
   exact valV_in ha
theorem WD.one {n s:Int}(h0:0<=s)(h1:s<n):WD n [(Sum.inl s,V.int 0)] (fun q=>if q=s then some 0 else none):=by
 refine⟨fun kv hkv=>?_,by simp,fun p=>?_⟩
 . rw[List.mem_singleton.mp hkv];exact⟨s,0,rfl,h0,h1⟩
 . by_cases e:p=s
   . rw[if_pos e,e];exact valV_pos rfl
   . rw[if_neg e];exact (valV_neg fun z=>e (Sum.inl.inj z).symm).trans valV_nil
theorem WD.put {n:Int}{kvs:List (Key×V)}{wt:Int->Option Int}(h:WD n kvs wt){p d:Int}(h0:0<=p)(h1:p<n):WD n (putK kvs (Sum.inl p) (.int d)) (fun q=>if q=p then some d else wt q):=by
 refine⟨fun kv hkv=>?_,nd_put h.nd,fun q=>?_⟩
 . rcases mem_putK hkv with z | z
   . exact h.sh kv z
   . exact⟨p,d,z,h0,h1⟩
 . rw[valV_put]
   by_cases e:q=p
   . rw[if_pos e,if_pos (by rw[e])];rfl
   . rw[if_neg e,if_neg fun z=>e (Sum.inl.inj z)];exact h.at_ q
theorem WD.drop {n:Int}{kvs:List (Key×V)}{wt:Int->Option Int}(h:WD n kvs wt){p:Int}:WD n (dropK kvs (Sum.inl p)) (fun q=>if q=p then none else wt q):=by
 refine⟨fun kv hkv=>h.sh kv (dropK_mem hkv),nd_dropK h.nd,fun q=>?_⟩
 rw[valV_drop]
 by_cases e:q=p
 . rw[if_pos e,if_pos (by rw[e])];rfl
 . rw[if_neg e,if_neg fun z=>e (Sum.inl.inj z)];exact h.at_ q
def oV:Option Int->V
 | none=>.non
 | some d=>.int d
theorem ixN_in {n:Nat}{i:Int}(h0:0<=i)(h1:i<n):ixN n i=some i.toNat:=by
 unfold ixN
 rw[if_pos h0,if_pos h1]
theorem atI_in {α:Type}{xs:List α}{i:Int}{v:α}(h0:0<=i)(h:xs[i.toNat]? = some v):atI xs i=some v:=by
 have:=atI_nat h
 rwa [Int.toNat_of_nonneg h0] at this
theorem SmT.get {H H':Hp}(k:SmT H H'){b:Addr}{o:HO}(e:H b=some o)(h:∀ps,o ≠ .tbl ps):H' b=some o:=by
 rcases k b o e with ⟨ps,z⟩ | z
 . exact absurd z (h ps)
 . exact z
theorem TabAt.chg {H:Hp}{P l:Addr}{pos:Pos}{q:Str}{o:HO}{xs:List V}(T:TabAt H P pos q)(h:H l=some (.lst xs)):TabAt (upd H l o) P pos q:=by
 obtain⟨ps,hps,_⟩:=id T
 refine T.keep (fun u hu=>?_) fun c φ hc=>?_
 . rw[upd_ne (ne_of hps h (by intro z;cases z))];exact hu
 . rw[upd_ne (ne_of hc h (by intro z;cases z))];exact hc
end L2
namespace L2
open PySem PySem.Spec PyProof.Rows
theorem ints_all {xs ys:List Int}:((List.range (min xs.length ys.length)).all (fun j=>xs.getD j 0==ys.getD j 0) && xs.length==ys.length)=decide (xs=ys):=by
 by_cases h:xs=ys
 . subst h;simp
 . rw[decide_eq_false h]
   by_cases hl:xs.length=ys.length
   . have:∃j,j<xs.length/\xs.getD j 0≠ys.getD j 0:=by
      apply Classical.byContradiction
      intro hn
      refine h (List.ext_getElem hl fun j h1 h2=>?_)
      apply Classical.byContradiction
      intro hne
      exact hn ⟨j,h1,by simpa [List.getD_eq_getElem?_getD,h1,h2] using hne⟩
     obtain⟨j,hj,hne⟩:=this
     rw[Bool.and_eq_false_iff]
     left
     rw[List.all_eq_false]
     exact⟨j,by rw[List.mem_range];omega,by simpa using hne⟩
   . simp[hl]
section
variable {X:Cx}
theorem eqAts {A:Around}{s:Shared}{us ws:List Value}{xs ys:List Int}(h1:IntsAre us xs)(h2:IntsAre ws ys)(j:Nat)(a:j<us.toArray.size)(b:j<ws.toArray.size):SeqAt.EqAt A s us.toArray[j] ws.toArray[j] (xs.getD j 0==ys.getD j 0):=by
 have l1:=h1.length
 have l2:=h2.length
 rw[List.size_toArray] at a b
 obtain⟨n,hn⟩:∃n,xs[j]? = some n:=⟨_,List.getElem?_eq_getElem (by omega)⟩
 obtain⟨m,hm⟩:∃m,ys[j]? = some m:=⟨_,List.getElem?_eq_getElem (by omega)⟩
 obtain⟨t,ht⟩:=h1.get j n hn
 obtain⟨u,hu⟩:=h2.get j m hm
 have e1:us.toArray[j] = .int n t:=by
  rw[List.getElem?_eq_getElem a] at ht
  simpa using Option.some.inj ht
 have e2:ws.toArray[j] = .int m u:=by
  rw[List.getElem?_eq_getElem b] at hu
  simpa using Option.some.inj hu
 rw[e1,e2,List.getD_eq_getElem?_getD,List.getD_eq_getElem?_getD,hn,hm]
 exact SeqAt.EqAt.int_int n t m u
end
end L2
namespace L2
open PySem PySem.Spec PyProof.Rows
section
variable {X:Cx}
theorem call_sumL (hc:X.calm=true):CallR X (.builtin "sum") (fun xs H Q=>∃(p:Addr)(ns:List Int),xs=[.ref p]/\SqL X.K H p (ns.map V.int)/\Q (.int ns.sum) H):=by
 intro pins s σ H xs us Q I r h
 obtain⟨p,ns,rfl,hq,q⟩:=h
 obtain⟨u,rfl,rx⟩:=vals1 r
 cases rx
 obtain⟨its,r',pl,hz⟩:=I.list hq
 have hi:=intsAre_of r'
 have hl:=pl.isList
 obtain⟨zs,ez⟩:=hi.allInts.items
 have en:=hi.numsOf
 rw[ez] at hl
 have es:preSum (numAt zs) zs.size=ns.sum:=by
  rw[preSum_eq,List.take_of_length_le (by simp),<-en,show its=its.toArray.toList from rfl,ez,nums_intItems]
 refine sum_intListG (I.ok.hd hc) hl fun h' tk t' hk=>⟨.int ns.sum,H,I.kept hk,⟨t',?_⟩,q⟩
 rw[es]
end
end L2
namespace L2
open PySem PySem.Spec PyProof.Rows
def compEnv1 (scope:Scope)(yc:Str)(cl:List (Str×Addr))(C:Addr)(env:Env):Env:=
 { scope:=relabel scope env,locals:=C,globals:=env.globals,cells:=(yc,C+1)::cl,qual:=env.qual,func:=none,code:=env.code,frame:=env.frame,builtins:=env.builtins }
theorem nfe_cell {M:Model}{A:Around}{E:Value->Shared->Prop}{s:Shared}{scope:Scope}{globals:Addr}{cl:List (Str×Addr)}{qual yc:Str}{env:Env}{Q:Env->Shared->Prop}(hcf:∀n acc,cellsFrom n scope.names acc=(yc,n)::acc)
 (hQ:∀h':Heap,h'.Ns s.heap.objs.size (fun _=>none)->(∀b o,s.heap.get? b=some o->h'.get? b=some o)->h'.IsCell (s.heap.objs.size+1) none ->
  Q (newEnv scope s.heap.objs.size globals ((yc,s.heap.objs.size+1)::cl) qual none .none (some env) builtinsNs) { s with heap:=h',toks:=s.toks }) :
 wpAny M A (newFunctionEnv scope globals cl [] qual none .none (some env)) Q E s:=by
 simp only[newFunctionEnv,Option.isSome_some,if_true]
 refine wpAny_bind (wpAny_alloc ?_)
 refine wpAny_bind (wpAny_layCells _ (fun name kind cells=>by cases hkc:kind==NameKind.cell <;> simp[hkc]) _ _ _ _ ?_)
 have ok:=cellsFrom_ok scope.names (s.heap.push { cls:=.type "dict",data:=.dict #[] }) (s.heap.objs.size+1) [] ⟨fun _ _ hm=>(nomatch hm),List.Pairwise.nil⟩ (by rw[Heap.size_push];exact Nat.le_refl _)
 rw[Heap.size_push] at ok
 rw[show ({ s with heap:=s.heap.push { cls:=.type "dict",data:=.dict #[] } }:Shared).heap.objs.size=s.heap.objs.size+1 from Heap.size_push ..]
 rw[hcf] at ok ⊢
 refine wpAny_bind ?_
 rw[List.forIn_nil]
 refine wpAny_pure (wpAny_pure ?_)
 exact hQ _ ((Heap.Ns.new s.heap (.type "dict")).keeps (pushCells_keeps _ _)) (fun b o e=>pushCells_keeps _ _ b o (Heap.get?_push_of_some _ e)) (ok.empty _ _ List.mem_cons_self).1
def cxComp1 (X:Cx)(pl:List (Addr×Obj))(N':List Str)(scope:Scope)(yc:Str)(fp:List Addr)(s3:Shared)(H3:Hp):Cx where
 prog:=X.prog
 w:=X.w
 K:=X.K
 mg:=X.mg
 base:=X.base
 A:=X.A
 N:=N'
 s₀:=s3
 H₀:=H3
 env:=compEnv1 scope yc (clOf X.env.cells scope.names []) s3.heap.objs.size X.env
 outer:=X.stack
 stack:=X.stack
 ex:=fp
 fn:=fun x=>x==yc
 calm:=X.calm
 pn:=pl
 xe:=fun _ _=>False
structure CompSc1 (X:Cx)(scope:Scope)(yc:Str):Prop where
 kind:scope.kind = .function
 cf:∀n acc,cellsFrom n scope.names acc=(yc,n)::acc
 own:scope.names.lookup yc=some .cell
 one:∀y∈scope.names,y.2 = .cell->y.1=yc
 names:∀y∈scope.names,y.2 = .local->scope.names.lookup y.1=some .local
 free:∀y∈scope.names,y.2 = .free->X.env.kindOf y.1=some .cell
section
variable {X:Cx}{pins:List (Addr×Obj)}{σ:St}{H3:Hp}{s3:Shared}{scope:Scope}{fp:List Addr}{N' own cn:List Str}{ci:List Nat}{cv:List V}{yc:Str}
theorem look1 {x:Str}{c n:Addr}{cl:List (Str×Addr)}(h:((yc,n)::cl).lookup x=some c):(x=yc/\c=n)\/(x≠yc/\cl.lookup x=some c):=by
 rw[List.lookup_cons] at h
 cases hx:x==yc with
 | true=>rw[hx] at h;cases h;exact .inl ⟨by simpa using hx,rfl⟩
 | false=>rw[hx] at h;exact .inr ⟨by simpa using hx,h⟩
theorem look1_ne {x:Str}{n:Addr}{cl:List (Str×Addr)}(h:x≠yc):((yc,n)::cl).lookup x=cl.lookup x:=by
 rw[List.lookup_cons,show (x==yc)=false by simpa using h]
theorem comp1_has (ok:X.Ok)(S:CompSc1 X scope yc){x:Str}{n:Addr}(h:(relabel scope X.env).names.lookup x=some .cell\/(relabel scope X.env).names.lookup x=some .free) :
 ∃c,((yc,n)::clOf X.env.cells scope.names []).lookup x=some c:=by
 by_cases hxy:x=yc
 . subst hxy
   exact⟨n,by rw[List.lookup_cons,beq_self_eq_true]⟩
 rw[look1_ne hxy]
 have e:(relabel scope X.env).names.lookup x=(scope.names.lookup x).map fun k=>if (k==NameKind.free && X.env.scope.kind == .function && X.env.kindOf x==some .cell)=true then NameKind.cell else k:=lookup_relabel scope.names
 have hf:scope.names.lookup x=some .free:=by
  cases q:scope.names.lookup x with
  | none=>rw[e,q] at h;simp at h
  | some k=>
   by_cases hk:k = .free
   . rw[hk]
   . have hb:(k==NameKind.free)=false:=by simpa using hk
     rw[e,q] at h
     simp only[Option.map_some,hb,Bool.false_and,Bool.false_eq_true,if_false,Option.some.injEq] at h
     rcases h with h | h
     . exact absurd (S.one _ (PySem.mem_of_lookup q) h) hxy
     . exact absurd h hk
 exact clOf_has (ok.has x (.inl (S.free _ (PySem.mem_of_lookup hf) rfl))) scope.names [] (PySem.mem_of_lookup hf)
theorem comp1_cl (I:Inv X pins σ H3 s3){x:Str}{c n:Addr}(h:((yc,n)::clOf X.env.cells scope.names []).lookup x=some c):(x=yc/\c=n)\/(x≠yc/\X.env.cells.lookup x=some c/\c<s3.heap.objs.size):=by
 rcases look1 h with z | ⟨z,e⟩
 . exact .inl z
 . have e':=comp_cl e
   obtain⟨v,o,ho,_⟩:=I.cell x c e'
   exact .inr ⟨z,e',Heap.lt_size ho⟩
theorem comp1_ok (I:Inv X pins σ H3 s3)(S:CompSc1 X scope yc)(f:∀b∈fp,FpOk X pins H3 b)(fz:∀b∈fp,b<s3.heap.objs.size):(cxComp1 X (X.pn++pins) N' scope yc fp s3 H3).Ok where
 mod:=I.ok.mod
 kind:=S.kind
 glob:=I.ok.glob
 blt:=I.ok.blt
 above:=Nat.le_refl _
 inj:=fun x y c h1 h2=>by
  rcases comp1_cl I h1 with ⟨a,b⟩ | ⟨a,b,d⟩ <;> rcases comp1_cl I h2 with ⟨a',b'⟩ | ⟨a',b',d'⟩
  . rw[a,a']
  . rw[b] at d';exact absurd d' (Nat.not_lt.mpr (Nat.le_succ _))
  . rw[b'] at d;exact absurd d (Nat.not_lt.mpr (Nat.le_succ _))
  . exact I.ok.inj x y c b b'
 has:=fun x h=>comp1_has I.ok S h
 cab:=fun x c h e=>by
  have hx:x=yc:=by simpa using (show (x==yc)=true from h)
  rcases comp1_cl I e with ⟨_,b⟩ | ⟨a,_⟩
  . rw[b];exact Nat.le_succ _
  . exact absurd hx a
 hd:=I.ok.hd
 frames:=I.ok.frames
 stk:=.inl rfl
 exf:=fun b hb=>⟨Nat.ne_of_lt (fz b hb),fun x c h=>by
  have:=fz b hb
  rcases comp1_cl I h with ⟨_,d⟩ | ⟨_,d,_⟩
  . intro z
    rw[<-z,d] at this;exact absurd this (Nat.not_lt.mpr (Nat.le_succ _))
  . exact (f b hb).2.2.2.2.1 x c d⟩
 bs:=I.bs
 bsz:=Nat.le_trans I.ok.bsz I.sz
 noex:=fun b o e hb=>by
  rcases (f b hb).2.2.2.1 with z | z
  . exact I.ok.noex b o e z
  . exact absurd (Nat.lt_of_lt_of_le (Heap.lt_size e) (Nat.le_trans I.ok.bsz z)) (Nat.lt_irrefl _)
 exfs:=fun b hb z=>by
  rcases List.mem_cons.mp (I.stkSub b z) with q | q
  . exact (f b hb).2.1 q
  . exact (f b hb).2.2.1 q
 funs:=I.stack
 frf:=I.stkFree
theorem comp1_inv {h1:Heap}{t:Nat}(I:Inv X pins σ H3 s3)(S:CompSc1 X scope yc)(f:∀b∈fp,FpOk X pins H3 b)(fz:∀b∈fp,b<s3.heap.objs.size)
 (hN:N'=own++cn)(hc:CapOk X scope cn ci)(hv:ci.map (fun j=>σ[j]?)=cv.map fun v=>some (some v))(hl:cn.length=ci.length)
 (hns:h1.Ns s3.heap.objs.size (fun _=>none))(hk:∀b o,s3.heap.get? b=some o->h1.get? b=some o)(hcl:h1.IsCell (s3.heap.objs.size+1) none) :
 Inv (cxComp1 X (X.pn++pins) N' scope yc fp s3 H3) [] (List.replicate own.length none++cv.map some) H3 { s3 with heap:=h1,toks:=t }:=by
 have lenv:cv.length=ci.length:=by
  have:=congrArg List.length hv
  simpa using this.symm
 refine⟨comp1_ok I S f fz,rfl,I.bare,Un.kept hk,⟨_,hns,fun i x v e1 e2 e3=>?_⟩,fun x c e=>?_,I.hok.fresh (Nat.le_refl _),fun x c e=>?_,fun p hp=>?_,I.hok.kept hk,?_⟩
 . -- a captured name
   have hi:own.length<=i:=by
    by_cases hi:own.length<=i
    . exact hi
    . rw[List.getElem?_append_left (by simpa using hi),List.getElem?_replicate] at e2
      split at e2 <;> cases e2
   rw[List.getElem?_append_right (by simpa using hi),List.length_replicate,List.getElem?_map] at e2
   have e1':(own++cn)[i]? = some x:=by rw[<-hN];exact e1
   rw[List.getElem?_append_right hi] at e1'
   obtain⟨j,hj,hNj,hkx,hfr⟩:=hc.get e1'
   have hcv:cv[i-own.length]? = some v:=by
    cases q:cv[i-own.length]? with
    | none=>rw[q] at e2;cases e2
    | some v'=>rw[q] at e2;cases e2;rfl
   have hσ:σ[j]? = some (some v):=by
    have:=congrArg (fun l:List (Option (Option V))=>l[i-own.length]?) hv
    simp only[List.getElem?_map,hj,hcv,Option.map_some,Option.some.injEq] at this
    exact this
   obtain⟨m,_,hl'⟩:=I.loc
   obtain⟨u,r,q⟩:=hl' j x v hNj hσ (.inr (.inl hkx))
   have hkd:(relabel scope X.env).names.lookup x=some .cell\/(relabel scope X.env).names.lookup x=some .free:=by
    have e:(relabel scope X.env).names.lookup x=(scope.names.lookup x).map fun k=>if (k==NameKind.free && X.env.scope.kind == .function && X.env.kindOf x==some .cell)=true then NameKind.cell else k:=lookup_relabel scope.names
    rw[e,hfr,Option.map_some]
    by_cases cc:(NameKind.free==NameKind.free && X.env.scope.kind == .function && X.env.kindOf x==some .cell)=true
    . rw[if_pos cc];exact .inl rfl
    . rw[if_neg cc];exact .inr rfl
   obtain⟨c',hc'⟩:=comp1_has (n:=s3.heap.objs.size+1) I.ok S hkd
   have hxy:x≠yc:=fun z=>by rw[z,S.own] at hfr;cases hfr
   refine⟨u,r,.inr ⟨hkd,c',hc',?_⟩⟩
   rcases q with ⟨z,_⟩ | ⟨_,c,hcc,o,ho,hd⟩
   . rw[hkx] at z;cases z
   . have e:c=c':=Option.some.inj (hcc.symm.trans (comp_cl ((look1_ne hxy).symm.trans hc')))
     subst e
     exact⟨o,hk c o ho,hd⟩
 . rcases comp1_cl I e with ⟨_,d⟩ | ⟨_,d,_⟩
   . rw[d];exact⟨_,hcl⟩
   . obtain⟨v,o,ho,hd⟩:=I.cell x c d
     exact⟨v,o,hk c o ho,hd⟩
 . rcases comp1_cl I e with ⟨_,d⟩ | ⟨_,d,_⟩
   . rw[d];exact I.hok.fresh (Nat.le_succ _)
   . exact I.freeC x c d
 . have hp':p∈X.pn++pins:=by rw[List.append_nil] at hp;exact hp
   obtain⟨e,n,ne,nf,d⟩:=I.pin p hp'
   refine⟨hk _ _ e,n,Nat.ne_of_lt (Heap.lt_size e),fun z=>?_,d⟩
   rcases List.mem_cons.mp (I.stkSub p.1 z) with q | q
   . exact ne q
   . exact nf q
 . show (List.replicate own.length none++cv.map some).length=N'.length
   rw[hN,List.length_append,List.length_append,List.length_replicate,List.length_map,lenv,hl]
theorem comp1_core {elt target iter:Expr}{ifs:List Expr}{pos cpos:Pos}{wi:TI}{g:TG}{ti:TT}{te:TE}{use:Option (Value->Sem Unit)}{Q0:Value->Shared->Prop}{s:Shared}{H:Hp}{Q:VK}(hcalm:X.calm=true)(S:CompSc1 X scope yc)(hc:CapOk X scope cn ci)(hl:cn.length=ci.length)
 (hi:PI X target iter wi)(hg:∀pl fp s3 H3,PG (cxComp1 X pl (own++cn) scope yc fp s3 H3) target g)(ht:∀pl fp s3 H3,PTs (cxComp1 X pl (own++cn) scope yc fp s3 H3) ifs ti)
 (he:∀pl fp s3 H3,PE (cxComp1 X pl (own++cn) scope yc fp s3 H3) elt te)(hs:∀x,foldedSetIterable iter X.env x=pure x)(I:Inv X pins σ H s)(h:tComp own.length ci wi g ti te σ H Q)
 (fin:∀(D C:Addr)(H5:Hp)(s6:Shared)(m6:Str->Option Value),Inv X pins σ H5 s6->s6.heap.Ns C m6->H5 C=none->C≠X.env.locals->X.s₀.heap.objs.size<=C->(∀x c,X.env.cells.lookup x=some c->c≠C) ->
  (∀p∈X.pn++pins,p.1≠C)->Q (.ref D) H5->compPost (model X.prog X.w) X.A X.xe use Q0 (.ref D) C (.ok .next) s6) :
 wpAny (model X.prog X.w) X.A (comprehension (.ListComp elt [⟨target,iter,ifs,0⟩] scope pos) scope X.env cpos (newList []) false (eval iter X.env) use) Q0 X.xe s:=by
 have hcl:closureFor scope X.env=pure (clOf X.env.cells scope.names []):=closureFor_eq fun y hy hf=>I.ok.has y.1 (.inl (S.free y hy hf))
 refine wpAny_comprehension_free (use:=use) rfl hs hcl S.kind S.names ?_
 refine thn (hi pins s σ H _ I h) fun v s1 h1=>thn h1 fun itv s2 h2=>?_
 obtain⟨it,fp,tn,J,H2,e,I2,T,st2,f2,cv,hv,hD⟩:=h2
 subst e
 have lenv:cv.length=ci.length:=by
  have:=congrArg List.length hv
  simpa using this.symm
 have I3:=I2.lnew (ys:=[]) (its:=[]) (t':=s2.toks) .nil (Nat.zero_le _)
 obtain⟨W,⟨m0,w0⟩,turn⟩:=hD s2.heap.objs.size I2.fresh
 have fz:∀b∈fp,b<s2.heap.objs.size:=fun b hb=>by
  obtain⟨o,ho,_⟩:=T.obj _ _ st2 b hb
  exact Heap.lt_size ho
 refine wpAny_newObj_type ?_
 refine nfe_cell S.cf (fun h4 hns4 hk4 hc4=>?_)
 generalize hs3:({ s2 with heap:=s2.heap.push { cls:=.type "list",dict:=none,data:=.seq ([]:List Value).toArray } }:Shared)=s3 at hns4 hk4 hc4 ⊢
 have I3':Inv X pins σ (upd H2 s2.heap.objs.size (.lst [])) s3:=by rw[<-hs3];exact I3
 have hsz3:s3.heap.objs.size=s2.heap.objs.size+1:=by rw[<-hs3];exact Heap.size_push ..
 have k23:∀b o,s2.heap.get? b=some o->s3.heap.get? b=some o:=fun b o e=>by rw[<-hs3];exact Heap.get?_push_of_some _ e
 have k34:∀b o,s3.heap.get? b=some o->h4.get? b=some o:=hk4
 have nD:∀b∈fp,b≠s2.heap.objs.size:=fun b hb=>Nat.ne_of_lt (fz b hb)
 have f3:∀b∈fp,FpOk X pins (upd H2 s2.heap.objs.size (.lst [])) b:=fun b hb=>⟨by rw[upd_ne (nD b hb)];exact (f2 b hb).1,(f2 b hb).2⟩
 have fz3:∀b∈fp,b<s3.heap.objs.size:=fun b hb=>by rw[hsz3];exact Nat.lt_succ_of_lt (fz b hb)
 have I4:Inv (cxComp1 X (X.pn++pins) (own++cn) scope yc fp s3 (upd H2 s2.heap.objs.size (.lst []))) [] (List.replicate own.length none++cv.map some) (upd H2 s2.heap.objs.size (.lst [])) { s3 with heap:=h4,toks:=s3.toks }:=
  comp1_inv I3' S f3 fz3 rfl hc hv hl hns4 k34 hc4
 have st4:tn 0 h4:=T.keep _ _ _ st2 fun b hb o e=>k34 b o (k23 b o e)
 generalize hX:cxComp1 X (X.pn++pins) (own++cn) scope yc fp s3 (upd H2 s2.heap.objs.size (.lst []))=X' at I4
 have hg':PG X' target g:=by rw[<-hX];exact hg _ _ _ _
 have ht':PTs X' ifs ti:=by rw[<-hX];exact ht _ _ _ _
 have he':PE X' elt te:=by rw[<-hX];exact he _ _ _ _
 have ePr:X'.prog=X.prog:=by rw[<-hX];rfl
 have eW:X'.w=X.w:=by rw[<-hX];rfl
 have eK:X'.K=X.K:=by rw[<-hX];rfl
 have eA:X'.A=X.A:=by rw[<-hX];rfl
 have eE:X'.env=compEnv1 scope yc (clOf X.env.cells scope.names []) s3.heap.objs.size X.env:=by rw[<-hX];rfl
 have eXe:X'.xe=fun _ _=>False:=by rw[<-hX];rfl
 have eC:X'.calm=true:=by rw[<-hX];exact hcalm
 have eex:X'.ex=fp:=by rw[<-hX];rfl
 have epn:X'.pn=X.pn++pins:=by rw[<-hX];rfl
 have es0:X'.s₀=s3:=by rw[<-hX];rfl
 have eH0:X'.H₀=upd H2 s2.heap.objs.size (.lst []):=by rw[<-hX];rfl
 have efs:X'.fs=frs X.stack:=by rw[<-hX];rfl
 have ok':=I4.ok
 have stat:∀{H':Hp},(∀b∈fp,H' b=none)->∀b∈fp,FpOk X' [] H' b:=fun hn b hb=>by
  have hb':b∈X'.ex:=by rw[eex];exact hb
  refine⟨hn b hb,(ok'.exf b hb').1,ok'.exfs b hb',.inl hb',(ok'.exf b hb').2,fun p hp=>?_⟩
  rw[epn,List.append_nil] at hp
  exact (f2 b hb).2.2.2.2.2 p hp
 have wk:∀(σ2:St),(σ2.length=own.length+cv.length/\σ2.drop own.length=cv.map some)->∀{pl:List (Addr×Obj)}{H':Hp}{s':Shared},Inv X' pl σ2 H' s'->Inv X' pl (List.replicate own.length none++cv.map some) H' s':=fun σ2 hq pl H' s' I'=>by
  refine I'.weak (by rw[hq.1,List.length_append,List.length_replicate,List.length_map]) fun i v hi=>?_
  by_cases hlt:i<own.length
  . rw[List.getElem?_append_left (by simpa using hlt),List.getElem?_replicate] at hi
    split at hi <;> cases hi
  . rw[List.getElem?_append_right (by simpa using hlt),List.length_replicate,<-hq.2,List.getElem?_drop] at hi
    rw[show own.length+(i-own.length)=i by omega] at hi
    exact hi
 have loop:codeAny (model X.prog X.w) X.A (.compLoop (.ListComp elt [⟨target,iter,ifs,0⟩] scope pos) 0 (.ref it) (.ref s2.heap.objs.size) (compEnv1 scope yc (clOf X.env.cells scope.names []) s3.heap.objs.size X.env))
  (compPost (model X.prog X.w) X.A X.xe use Q0 (.ref s2.heap.objs.size) s3.heap.objs.size) { s3 with heap:=h4,toks:=s3.toks }:=by
  refine compLoop_gen (fun n s'=>∃i ys H',Inv X' [] (List.replicate own.length none++cv.map some) H' s'/\tn i s'.heap/\(∀b∈fp,H' b=none)/\W i n ys H') ?_ m0
   ⟨0,[],_,I4,st4,fun b hb=>(f3 b hb).1,w0⟩
  rintro n s5 ⟨i,ys,H5,I5,st5,fr5,w5⟩
  rcases turn i n ys H5 w5 with ⟨stop,qn⟩ | ⟨go,hsz,N,hN,step⟩
  . have d:=T.done X' ePr eW eK eC i [] s5 _ H5 (fun _ _=>False) I5 (stat fr5) st5 stop
    rw[eA] at d
    refine thn d fun r s6 ⟨hr,I6⟩=>?_
    subst hr
    obtain⟨m6,hn6,_⟩:=I6.loc
    rw[eE] at hn6
    have hn6':s6.heap.Ns s3.heap.objs.size m6:=hn6
    have un6:Un (frs X.stack) fp (upd H2 s2.heap.objs.size (.lst [])) H5 s3.heap s6.heap:=by
     have b6:=I6.base
     rw[efs,eex,eH0,es0] at b6
     exact b6
    have os6:s6.os=s3.os:=by have o6:=I6.os;rw[es0] at o6;exact o6
    have hok6:HOk X.prog X.w H5 s6.heap:=by have o6:=I6.hok;rw[ePr,eW] at o6;exact o6
    have I7:Inv X pins σ H5 s6:=I3'.call' (ch:=fp) os6 un6 hok6 I6.bare fun b hb=>⟨(f2 b hb).2.2.2.1,(f2 b hb).2.1,(f2 b hb).2.2.2.2.1,(f2 b hb).2.2.2.2.2⟩
    have fr6:H5 s3.heap.objs.size=none:=by
     have q:=I6.free
     rw[eE] at q
     exact q
    refine fin s2.heap.objs.size s3.heap.objs.size H5 s6 m6 I7 hn6' fr6 (Nat.ne_of_gt I3'.lt) I3'.sz (fun x c e=>?_) (fun p hp=>?_) qn
    . obtain⟨_,o,ho,_⟩:=I3'.cell x c e
      exact Nat.ne_of_lt (Heap.lt_size ho)
    . exact Nat.ne_of_lt (Heap.lt_size (I3'.pin p hp).1)
  . have d:=T.item X' ePr eW eK eC i [] s5 _ H5 (fun _ _=>False) I5 (stat fr5) st5 go
    rw[eA] at d
    refine thn d fun r s6 ⟨u,hr,h6⟩=>?_
    subst hr
    refine thn h6 fun _ s7 ⟨x,H7,I7,r7,y7,st7,fr7⟩=>?_
    have I7':=I7.pinned (stat fr7) (T.obj _ _ st7)
    have g7:=hg' _ s7 _ H7 x u _ I7' r7 (step x H7 y7)
    rw[ePr,eW,eA,eE,eXe] at g7
    refine thn g7 fun _ s8 ⟨σ8,H8,I8,q8,ti8⟩=>?_
    have t8:=ht' _ s8 σ8 H8 _ I8 ti8
    rw[ePr,eW,eA,eE,eXe] at t8
    refine thn t8 fun ok s9 ⟨H9,I9,q9⟩=>?_
    have again:∀{ys':List V}{H':Hp}{s':Shared},Inv X' ([]++pinsAt fp s7.heap) σ8 H' s'->N ys' H' ->
     ∃m,m<n/\∃i ys H',Inv X' [] (List.replicate own.length none++cv.map some) H' s'/\tn i s'.heap/\(∀b∈fp,H' b=none)/\W i m ys H':=fun {ys' H' s'} I' n'=>by
     obtain⟨m',hm,w'⟩:=hN ys' H' n'
     refine⟨m',hm,i+1,ys',H',(wk σ8 q8 I').unpinned,T.keep _ _ _ st7 fun b hb o e=>(I'.pin (b,o) (List.mem_append_right _ (List.mem_append_right _ (mem_pinsAt hb e)))).1,fun b hb=>?_,w'⟩
     obtain⟨o,e,_⟩:=T.obj _ _ st7 b hb
     exact (I'.pin (b,o) (List.mem_append_right _ (List.mem_append_right _ (mem_pinsAt hb e)))).2.1
    cases ok with
    | false=>exact again I9 q9
    | true=>
     have e9:=he' _ s9 σ8 H9 _ I9 q9
     rw[ePr,eW,eA,eE,eXe] at e9
     refine thn e9 fun u10 s10 ⟨y,H10,I10,r10,hD10,n10⟩=>?_
     have a10:=mt_append (X:=X') _ s10 σ8 H10 (.ref s2.heap.objs.size) [y] (.ref s2.heap.objs.size) [u10] (fun _ H'=>N (ys++[y]) H') I10 rfl (.cons r10 .nil) ⟨_,_,_,rfl,rfl,hD10,hsz,n10⟩
     rw[ePr,eW,eA,eXe] at a10
     exact thn a10 fun _ s11 ⟨_,H11,I11,_,n11⟩=>again I11 n11
 exact codeAny_compStart_list loop (T.self X.A 0 _ _ _ st4 loop)
theorem ps_setC1 {elt target iter:Expr}{ifs:List Expr}{pos pos' cpos:Pos}{wi:TI}{g:TG}{ti:TT}{te:TE}{i:Nat}{x:Str}(hN:X.N.Nodup)(hix:X.N[i]? = some x)(hx:Loc X.env.scope x)(hcalm:X.calm=true)(S:CompSc1 X scope yc)(hc:CapOk X scope cn ci)(hl:cn.length=ci.length)
 (hi:PI X target iter wi)(hg:∀pl fp s3 H3,PG (cxComp1 X pl (own++cn) scope yc fp s3 H3) target g)(ht:∀pl fp s3 H3,PTs (cxComp1 X pl (own++cn) scope yc fp s3 H3) ifs ti)
 (he:∀pl fp s3 H3,PE (cxComp1 X pl (own++cn) scope yc fp s3 H3) elt te)(hs:∀x,foldedSetIterable iter X.env x=pure x:=by intro _;rfl)
 (hsw:swapsWith (.ListComp elt [⟨target,iter,ifs,0⟩] scope cpos) (some (.Name x pos')) pos.line X.env=pure true:=by rfl)
 (hf:X.fn x=true\/X.env.scope.names.lookup x=some .local:=by first | exact .inl rfl | exact .inr rfl | assumption) :
 PS X (.Assign [.Name x pos'] (.ListComp elt [⟨target,iter,ifs,0⟩] scope cpos) pos) (tAsg (tComp own.length ci wi g ti te) (gName i)):=by
 intro pins s σ H D I h
 rw[exec_Assign_Name_used _ _ _ _ hsw]
 refine wpAny_bind (wpAny_standAt (wpAny_bind ?_))
 show wpAny _ X.A (do let _ <-comprehension (.ListComp elt [⟨target,iter,ifs,0⟩] scope cpos) scope X.env _ (newList []) false (eval iter X.env) (some (assign (.Name x pos') X.env))) _ _ s
 refine wpAny_bind (wpAny_mono (comp1_core (use:=some (assign (.Name x pos') X.env)) (Q0:=fun _ s'=>SP X pins D .next s') hcalm S hc hl hi hg ht he hs I h (fun D' C H5 s6 m6 I7 hn fr nL ge nC nP q=>?_)) (fun _ s' hq=>wpAny_pure (wpAny_pure hq)) fun _ _ e=>e)
 obtain⟨oC,es,ep,hoC,hd,r1⟩:=hn
 have nf:C∉X.fs:=fun hb=>by
  obtain⟨_,o,ho,_⟩:=I7.ok.funs.mem hb
  exact absurd (Nat.lt_of_lt_of_le (Heap.lt_size ho) ge) (Nat.lt_irrefl _)
 have I7':Inv X (pins++[(C,oC)]) σ H5 s6:=I7.pins_of fun p hp=>by
  rcases List.mem_append.mp hp with z | z
  . exact I7.pin p (List.mem_append_right _ z)
  . rw[List.mem_singleton.mp z]
    exact⟨hoC,fr,nL,nf,fun v e=>by rw[hd] at e;cases e⟩
 show wpAny _ X.A (assign (.Name x pos') X.env (.ref D')) _ _ s6
 refine wpAny_assign_Name (store_ok I7' hN hix hx (show RelV (.ref D') (.ref D') from rfl) (fun s' I'=>?_) hf)
 have hC':=(I'.pin (C,oC) (List.mem_append_right _ (List.mem_append_right _ (List.mem_singleton.mpr rfl)))).1
 refine⟨m6,⟨oC,es,ep,hC',hd,r1⟩,fun h' hs'=>⟨_,H5,?_,q⟩⟩
 have I2:Inv X pins (σ.set i (some (.ref D'))) H5 s':=I'.pins_of fun p hp=>I'.pin p (List.mem_append_right _ (List.mem_append_left _ hp))
 exact I2.turned (t':=s'.toks) (it:=C) (fun b o hb e=>hs'.extBut b o hb e) fr nL (.inr ge) nC nP
end
def cscOk1 (outer inner:Scope)(yc:Str):Bool:=inner.names.all fun y=>(y.2 != .cell || y.1==yc) && (y.2 != .local || inner.names.lookup y.1==some .local) && (y.2 != .free || outer.names.lookup y.1==some .cell)
theorem csc1 {X:Cx}{scope:Scope}{yc:Str}(hk:scope.kind = .function)(hcf:∀n acc,cellsFrom n scope.names acc=(yc,n)::acc)(ho:scope.names.lookup yc=some .cell)(h:cscOk1 X.env.scope scope yc=true):CompSc1 X scope yc:=by
 have a:=List.all_eq_true.mp h
 refine⟨hk,hcf,ho,fun y hy e=>?_,fun y hy e=>?_,fun y hy e=>?_⟩
 . have:=a y hy
   rw[e] at this
   simpa using this
 . have:=a y hy
   rw[e] at this
   simpa using this
 . have:=a y hy
   rw[e] at this
   have h2:X.env.scope.names.lookup y.1=some .cell:=by simpa using this
   exact h2
end L2
namespace L2
open PySem PySem.Spec PyProof.Rows
def tLRange (ta:TA):TE:=fun σ H Q=>ta σ H fun vs H1=>∃j:Int,vs=[.int j]/\0<=j/\j<=1000/\∀l,H1 l=none->Q (.ref l) (upd H1 l (.lst ((WM.lowTo j.toNat).map V.int)))
theorem vals_low:∀(vs:List Value)(n:Nat),vs.length=n->(∀(j:Nat)(v:Value),vs[j]? = some v->∃t,v = .int (0+(j:Int)*1) t)->Vals ((WM.lowTo n).map V.int) vs:=by
 have key:∀(vs:List Value)(a:Nat),(∀(j:Nat)(v:Value),vs[j]? = some v->∃t,v = .int ((a+j:Nat):Int) t)->Vals ((List.range' a vs.length).map fun (i:Nat)=>V.int (i:Int)) vs:=by
  intro vs
  induction vs with
  | nil=>intro _ _;exact .nil
  | cons v r ih=>
   intro a h
   obtain⟨t,ht⟩:=h 0 v rfl
   rw[List.length_cons,List.range'_succ,List.map_cons]
   refine .cons ⟨t,by rw[ht];rfl⟩ (ih (a+1) fun j u hj=>?_)
   obtain⟨t',ht'⟩:=h (j+1) u hj
   exact⟨t',by rw[ht'];congr 1;omega⟩
 intro vs n e h
 subst e
 have:=key vs 0 fun j v hj=>by
  obtain⟨t,ht⟩:=h j v hj
  exact⟨t,by rw[ht];congr 1;omega⟩
 unfold WM.lowTo
 rw[List.map_map,List.range_eq_range']
 exact this
section
variable {X:Cx}
theorem pe_lrange {a:Expr}{ta:TA}{p1 p2 pos1 pos2:Pos}(hc:X.calm=true)(hgL:Gl X "list") (hmL:X.mg "list" = none) (hgR:Gl X "range") (hmR:X.mg "range" = none) (ha:PA X [a] ta)(hs:starEach [a] X.env=[(false,eval a X.env)]:=by rfl)
 (he:starEach [.Call (.Name "range" p2) [a] [] pos2] X.env=[(false,eval (.Call (.Name "range" p2) [a] [] pos2) X.env)]:=by rfl):PE X (.Call (.Name "list" p1) [.Call (.Name "range" p2) [a] [] pos2] [] pos1) (tLRange ta):=by
 intro pins s σ H Q I h
 refine wpAny_Call_Name_kw (ld_blt I hgL hmL (by decide +kernel:bootBuiltins "list" = some (.type "list")) ?_ (by decide) (by decide))
 refine PyProof.Rows.callWith_type1 ?_ he rfl
 rw[he]
 refine Calls.spliced_cons ?_
 refine Call_ (ld_blt I hgR hmR boot_range (PyProof.Rows.callWith_type1 (thn (ha pos2 pins s σ H _ I h) fun us s1 ⟨vs,H1,I1,r1,q1⟩=>?_) hs rfl))
 obtain⟨j,e,h0,h1,q⟩:=q1
 subst e
 cases r1 with
 | cons r rr=>
  cases rr
  obtain⟨t,rfl⟩:=r
  refine call_range_1 ?_
  refine Calls.spliced_nil ?_
  have hz:Builtin.Range.rangeSize 0 j 1=(j.toNat:Int):=by rw[rangeSize_one];split <;> omega
  refine call_list_range (I.ok.hd hc) (IsRange.new ..) (small_one (by omega) (by omega) (by omega) (by omega)) hz (by omega) fun h' tk acc c' kp hD hI=>?_
  have kp1:∀b o,s1.heap.get? b=some o->h'.get? b=some o:=fun b o e=>kp b o (Heap.get?_push_of_some _ e)
  have rv:Vals ((WM.lowTo j.toNat).map V.int) acc.toList:=vals_low acc.toList _ (by rw[Array.length_toList];exact hI.1) fun i v hi=>hI.2 i v (by rw[<-hi,Array.getElem?_toList])
  have hsz:s1.heap.objs.size<=(s1.heap.push { cls:=.type "range",data:=.fields #[.int 0 s1.toks,.int j t,.int 1 (s1.toks+1)] }).objs.size:=by rw[Heap.size_push];exact Nat.le_succ _
  refine⟨.ref _,_,I1.laid (t':=tk) kp1 hsz (show ObjOk X.prog X.w _ h' _ (.lst ((WM.lowTo j.toNat).map V.int)) from ⟨?_,acc.toList,c',rv,by rw[Array.toArray_toList];exact hD⟩),rfl,q _ (I1.hok.fresh hsz)⟩
  rw[List.length_map,WM.lowTo,List.length_map,List.length_range]
  have:sizeLine=16777216:=rfl
  omega
end
section
variable {X:Cx}{pl:List (Addr×Obj)}{N':List Str}{sc:Scope}{fp:List Addr}{s3:Shared}{H3:Hp}
end
section
variable {X:Cx}
def rNeE (K:PySem.W.Frag):R2:=fun x y H Q=>∃(a b:Addr)(xs:List V),x = .ref a/\y = .ref b/\SqL K H a xs/\SqL K H b []/\Q (.bl (!xs.isEmpty)) H
theorem op_neE (hu:X.A.units<cLine):OpR X (compareOp .NotEq) (rNeE X.K):=by
 intro pins s σ H x y v u Q I rx ry h
 obtain⟨a,b,xs,rfl,rfl,ha,hb,q⟩:=h
 cases rx
 cases ry
 obtain⟨its,r,pl,hz⟩:=I.list ha
 obtain⟨its2,r2,pl2,hz2⟩:=I.list hb
 have l1:=r.length
 have l2:=r2.length
 cases xs with
 | nil=>
  refine PySem.EqBoolInt.of_rcne (SeqAt.RcNeAt.lists (e:=fun _=>true) pl.isList pl2.isList (by rw[List.size_toArray,List.size_toArray,<-l1,<-l2]) hu (fun j a b=>absurd a (by rw[List.size_toArray,<-l1];exact Nat.not_lt_zero _))) ⟨.bl _,H,I,rfl,?_⟩
  rw[List.size_toArray,<-l1]
  exact q
 | cons x xs=>
  refine PySem.EqBoolInt.of_rcne (SeqAt.RcNeAt.lists_lengths pl.isList pl2.isList (by rw[List.size_toArray,List.size_toArray,<-l1,<-l2];rfl) hu) ⟨.bl _,H,I,rfl,?_⟩
  exact q
end
end L2
namespace L2
open PySem PyProof.Rows
def Kp (s0:Shared)(h:Heap):Prop:=∀b o,s0.heap.get? b=some o->h.get? b=some o
section
variable {prog:Program}{w:World}{A:Around}{s0:Shared}{I S:Addr}{its:List Value}{itAt:Nat->Heap->Prop}
end
end L2
namespace L2
open PySem PyProof.Rows
theorem wpAny_of_eq {α:Type}{M:Model}{A:Around}{E:Value->Shared->Prop}{s:Shared}{m m':Sem α}{Q:α->Shared->Prop}(e:m=m')(h:wpAny M A m' Q E s):wpAny M A m Q E s:=by subst e;exact h
section
variable {X:Cx}
end
end L2
namespace L2
open PySem PyProof.Rows
section
variable {prog:Program}{w:World}{A:Around}{s0:Shared}{D I l:Addr}{its:List Value}{qs:List (Key×Value)}
end
section
variable {X:Cx}
end
end L2
namespace L2
open PySem PySem.Spec PyProof.Rows
section
variable {X:Cx}
theorem pe_tyN {x:Str}{T:String}{pos:Pos}(hg:Gl X x)(hm:X.mg x=none)(hv:bootBuiltins x=some (.type T))(hn:x ≠ "__name__" := by decide) (hdb:(x==("__debug__" : Str))=false:=by decide):PE X (.Name x pos) (tC (.ty T)):=
 fun pins s σ H Q I h=>ld_blt I hg hm hv ⟨.ty T,H,I,rfl,h⟩ hn hdb
theorem call_isinst:CallR X (.builtin "isinstance") (fun xs H Q=>∃x T t b,xs=[x,.ty T]/\TyOf X.K H x t/\PySem.W.kitOne X.K t (.type T)=some b/\Q (.bl b) H):=by
 intro pins s σ H xs us Q I r h
 obtain⟨x,T,t,b,rfl,ty,e,q⟩:=h
 obtain⟨u,w',rfl,rx,rT⟩:=vals2 r
 cases (show w'=Value.type T from rT)
 exact isinst_ok I rx ty e fun tk=>⟨.bl b,H,I.tok tk,rfl,q⟩
end
section
variable {prog:Program}{w:World}{A:Around}{s0:Shared}{I l:Addr}{bs:List Bool}
end
section
variable {X:Cx}
end
end L2
namespace L2
open PySem PySem.Spec PyProof.Rows
end L2
namespace L2
open PySem PySem.Spec PyProof.Rows
section
variable {X:Cx}
variable {o e:Expr}{es:List Expr}{to:TE}{t:TA}{name:Str}{apos cpos:Pos}{id:String}{r:V->List V->Hp->VK->Prop}
end
section
variable {prog:Program}{w:World}{A:Around}{E:Value->Shared->Prop}
end
section
variable {X:Cx}
end
section
variable {X:Cx}{pl:List (Addr×Obj)}{N':List Str}{sc:Scope}{fp:List Addr}{s3:Shared}{H3:Hp}
end
end L2
namespace L2
open PySem PySem.Spec PyProof.Rows
section
variable {X:Cx}
end
end L2
namespace L2
open PySem PySem.Spec PyProof.Rows
section
variable {prog:Program}{w:World}{A:Around}{s:Shared}{l:Addr}{its:List Value}{ns:List Int}{v:Int}{tv:Tok}
end
section
variable {X:Cx}
end
end L2
namespace WM
open L2
end WM
namespace L2
open PySem PyProof.Rows
end L2
namespace WM
end WM
namespace L2
open PySem PySem.Spec PyProof.Rows
section
variable {X:Cx}
end
end L2
namespace WM
theorem tb_add:∀(i x j:Nat),x.testBit i=false->(2 ^ i+x).testBit j=(decide (j=i) || x.testBit j)
 | 0,x,0,h=>by
  have hx:x%2=0:=by
   rw[Nat.testBit_zero] at h
   have:=of_decide_eq_false h
   omega
  rw[Nat.testBit_zero]
  have:(2 ^ 0+x)%2=1:=by rw[Nat.pow_zero];omega
  rw[this];rfl
 | 0,x,j+1,h=>by
  have hx:x%2=0:=by
   rw[Nat.testBit_zero] at h
   have:=of_decide_eq_false h
   omega
  rw[Nat.testBit_succ,Nat.testBit_succ]
  have:(2 ^ 0+x)/2=x/2:=by rw[Nat.pow_zero];omega
  rw[this,decide_eq_false (by omega),Bool.false_or]
 | i+1,x,0,h=>by
  rw[Nat.testBit_zero,Nat.testBit_zero]
  have:(2 ^ (i+1)+x)%2=x%2:=by rw[Nat.pow_succ];omega
  rw[this,decide_eq_false (p:=0=i+1) (by omega),Bool.false_or]
 | i+1,x,j+1,h=>by
  rw[Nat.testBit_succ,Nat.testBit_succ]
  rw[Nat.testBit_succ] at h
  have:(2 ^ (i+1)+x)/2=2 ^ i+x/2:=by rw[Nat.pow_succ];omega
  rw[this,tb_add i (x/2) j h]
  congr 1
  exact decide_eq_decide.mpr (by omega)
def snN (l:List Nat):Nat:=(l.map (2 ^ ·)).sum
theorem snN_bit:∀{l:List Nat},l.Nodup->∀j,(snN l).testBit j=decide (j∈l)
 | [],_,j=>by simp[snN]
 | a::l,h,j=>by
  obtain⟨h1,h2⟩:=List.nodup_cons.mp h
  have ih:=snN_bit h2
  have e:snN (a::l)=2 ^ a+snN l:=by simp[snN]
  rw[e,tb_add a (snN l) j (by rw[ih a];exact decide_eq_false h1),ih j]
  by_cases c:j=a
  . subst c;simp
  . simp[c]
def sn (ps:List Int):Int:=(ps.map fun p=>(1:Int)*2 ^ p.toNat).sum
theorem sn_nat:∀(ps:List Int),sn ps=((snN (ps.map Int.toNat):Nat):Int)
 | []=>rfl
 | p::ps=>by
  have ih:=sn_nat ps
  have e1:sn (p::ps)=1*2 ^ p.toNat+sn ps:=by simp[sn]
  have e2:snN ((p::ps).map Int.toNat)=2 ^ p.toNat+snN (ps.map Int.toNat):=by simp[snN]
  rw[e1,e2,ih,Int.one_mul,Int.natCast_add]
  congr 1
end WM
namespace SortT
open PySem PySem.W PySem.Calls PyProof.Rows
section
variable {prog:Program}{w:World}{A:Around}{E:Value->Shared->Prop}{s:Shared}
theorem gather_tup {t:Addr}{us:List Value}{Q:List Value->Shared->Prop}(ht:IsTup s.heap t us.toArray)(hz:us.length<=sizeLine)
 (q:Q us { s with heap:=(s.heap.push (seqObj "list" #[] 0)).update s.heap.objs.size (Obj.mapSeq (· ++ us.toArray)) }):wpAny (model prog w) A (collect (.ref t)) Q E s:=by
 obtain⟨ob,hob,cob,m,dob⟩:=ht
 have hob':(s.heap.push (seqObj "list" #[] 0)).get? t=some ob:=Heap.get?_push_of_some _ hob
 have new:(s.heap.push (seqObj "list" #[] 0)).get? s.heap.objs.size=some (seqObj "list" #[] 0):=Heap.get?_push_size _ rfl
 unfold collect
 refine wpAny_bind (wpAny_runValue (codeAny_builtin entry_proto_collect' (wpAny_bind (wpAny_newList (wpAny_pure ⟨Code.quiet_builtin _ (by decide +kernel),codeAny_builtin entry_list_iadd' ?_⟩)))))
 show wpAny _ _ (Builtin.List.listExtendWith _ (.ref t) _) _ _ _
 unfold Builtin.List.listExtendWith
 refine wpAny_bind (wpAny_typeOf (T := "tuple") ⟨ob,hob',cob⟩ ?_)
 have yes:(Value.type "tuple" == Value.type "tuple")=true:=rfl
 rw[if_pos (by rw[yes];simp)]
 refine wpAny_bind (listItems_at hob' dob (wpAny_bind (listItems_at (xs:=#[]) (n:=0) new rfl ?_)))
 rw[if_neg (by simp)]
 refine wpAny_bind (listUpdate_at (xs:=#[]) (n:=0) new rfl (wpAny_pure ?_) (Nat.zero_le _) (by simp;omega))
 refine wpAny_bind (wpAny_load (get?_update_seq new _) ?_)
 have e:((#[]:Array Value)++us.toArray).toList=us:=by simp
 show wpAny _ _ (pure ((#[]:Array Value)++us.toArray).toList) Q E _
 rw[e]
 exact wpAny_pure q
theorem sorted_tup {t:Addr}{us:List Value}{Q:Value->Shared->Prop}{O:KeyOrd}{key:Nat->O.α}{κ:SortKind}(ht:IsTup s.heap t us.toArray)(h64:us.length<64)
 (ask:2<=us.length->∀(s':Shared)(a:Addr),(∀b o,s.heap.get? b=some o->b≠a)->(∀b o,s.heap.get? b=some o->s'.heap.get? b=some o)->Asks prog w A.in1.in1 s' a us key κ)
 (h:∀(D:Addr)(h':Heap)(out:List Nat)(c:Nat),Put key us.length out->s.heap.objs.size<=D->(∀b o,s.heap.get? b=some o->h'.get? b=some o) ->
  h'.get? D=some (seqObj "list" (out.map fun i=>us.getD i Value.none).toArray c)->Q (.ref D) { s with heap:=h' }) :
 wpAny (model prog w) A (call (.builtin "sorted") [.ref t]) Q E s:=by
 refine Calls.call_function_entry kind_sorted plain_sorted entry_sorted (args_sorted1 _) ?_
 unfold Builtin.«sorted»
 refine wpAny_bind (m:=checkCount "sorted" 1 1 _) (wpAny_pure (wpAny_bind (gather_tup ht (by rw[sizeLine_eq];omega) (wpAny_bind (wpAny_newList ?_ (by rw[sizeLine_eq];omega))))))
 generalize hh1:(s.heap.push (seqObj "list" #[] 0)).update s.heap.objs.size (Obj.mapSeq (· ++ us.toArray))=h1
 have hsz:h1.objs.size=s.heap.objs.size+1:=by rw[<-hh1,Heap.size_update,size_push']
 have hk:∀b o,s.heap.get? b=some o->h1.get? b=some o:=fun b o z=>by
  rw[<-hh1,Heap.get?_update_ne _ _ _ _ (Nat.ne_of_lt (Heap.lt_size z)),Heap.get?_push_ne _ _ _ (Nat.ne_of_lt (Heap.lt_size z))]
  exact z
 have hoL:(h1.push (seqObj "list" us.toArray 0)).get? h1.objs.size=some (seqObj "list" us.toArray 0):=Heap.get?_push_size _ rfl
 have keep1:∀b o,h1.get? b=some o->(h1.push (seqObj "list" us.toArray 0)).get? b=some o:=fun b o q=>Heap.get?_push_of_some _ q
 refine wpAny_bind (wpAny_holding (wpAny_call_entry slot_list_sort ⟨_,hoL,rfl⟩ entry_list_sort (list_sort (O:=O) (key:=key) (κ:=κ) hoL h64
  (fun h2=>ask h2 _ _ (fun b o e=>Nat.ne_of_lt (Heap.lt_size (hk b o e))) fun b o e=>keep1 b o (hk b o e)) fun out hp=>⟨_,rfl,?_⟩) (args_list_sort _)))
 refine wpAny_pure ⟨_,rfl,?_⟩
 obtain⟨c,hc⟩:=sortedHeap_at (vs:=us) (out:=(out.map fun i=>us.getD i Value.none).toArray) hoL
 refine h _ _ out c hp (by rw[hsz];exact Nat.le_succ _) (fun b o e=>?_) hc
 have hb:b<h1.objs.size:=Heap.lt_size (hk b o e)
 rw[sortedHeap_old (Nat.ne_of_lt hb) (by rw[Heap.size_push];exact Nat.lt_succ_of_lt hb)]
 exact keep1 b o (hk b o e)
end
end SortT
namespace L2
open PySem PySem.Spec PyProof.Rows
section
variable {X:Cx}
theorem call_sortedTI:CallR X (.builtin "sorted") (fun xs H Q=>∃(p:Addr)(ns:List Int),xs=[.ref p]/\SqT X.K H p (ns.map V.int)/\ns.length<64 /\
 ∀(l:Addr)(ms:List Int),H l=none->ms.Perm ns->ms.Pairwise (· <= ·)->Q (.ref l) (upd H l (.lst (ms.map V.int)))):=by
 intro pins s σ H xs us Q I r h
 obtain⟨p,ns,rfl,hq,h64,q⟩:=h
 obtain⟨u,rfl,rx⟩:=vals1 r
 cases rx
 obtain⟨its,r',pl,hz⟩:=I.tuple hq
 have hI:IntsAre its ns:=intsAre_of r'
 have hl:=hI.length
 refine SortT.sorted_tup (O:=intO) (key:=fun i=>ns.getD i 0) (κ:=oneType') pl (by omega) (fun h2 s' a fa kp=>asks_ints hI h2) fun D h' out c pt hD kp ho=>?_
 obtain⟨ms,hp,hr,rz,hlz⟩:=put_ints hI pt
 refine⟨.ref D,_,sorted_fin (t':=s.toks) I hD kp ho rz ?_,rfl,q D ms (I.hok.fresh hD) hp hr⟩
 have:sizeLine=16777216:=rfl
 rw[List.length_map]
 omega
end
section
variable {X:Cx}{pl:List (Addr×Obj)}{N':List Str}{sc:Scope}{fp:List Addr}{s3:Shared}{H3:Hp}
end
end L2
namespace L2
open PySem PySem.Spec PyProof.Rows
section
variable {X:Cx}
def rCatA (K:PySem.W.Frag):R2:=fun x y H Q=>∃a b xs ys,x = .ref a/\y = .ref b/\SqT K H a xs/\SqT K H b ys/\xs.length+ys.length<=sizeLine /\
 (xs=[]->Q (.ref b) H)/\(xs≠[]->ys=[]->Q (.ref a) H)/\(xs≠[]->ys≠[]->∀p,H p=none->Q (.ref p) (upd H p (.tup (xs++ys))))
theorem cat_nil {prog:Program}{w:World}{A:Around}{E:Value->Shared->Prop}{s:Shared}{t b:Addr}{ws:List Value}{Q:Value->Shared->Prop}(ht:IsTup s.heap t #[])(hb:IsTup s.heap b ws.toArray)
 (h:Q (.ref b) s):wpAny (model prog w) A (binaryOp .Add (.ref t) (.ref b)) Q E s:=by
 obtain⟨⟨cls,dd,data,sl⟩,ho,hc,n,hd⟩:=id ht
 obtain⟨⟨cls2,dd2,data2,sl2⟩,ho2,hc2,n2,hd2⟩:=id hb
 simp only at hc hd hc2 hd2
 subst hc hd hc2 hd2
 exact concat_meets ⟨_,ho,rfl⟩ ⟨_,ho2,rfl⟩ noFill_tuple_add seq_tuple_add PySem.F.slot_tuple_add PySem.F.entry_tuple_add (PySem.F.args_tuple_add_2 _ _)
  (tuple_addW0 t b #[] ws.toArray n n2 dd dd2 sl sl2 rfl) ⟨ho,ho2,h⟩
theorem op_catA:OpR X (binaryOp .Add) (rCatA X.K):=by
 intro pins s σ H x y v u Q I rx ry h
 obtain⟨a,b,xs,ys,rfl,rfl,ha,hb,hz,q0,q1,q2⟩:=h
 by_cases hx:xs=[]
 . subst hx
   cases rx
   cases ry
   obtain⟨its,r1,p1,_⟩:=I.tuple ha
   obtain⟨its2,r2,p2,_⟩:=I.tuple hb
   cases r1
   exact cat_nil p1 p2 ⟨.ref b,H,I,rfl,q0 rfl⟩
 . exact op_catT pins s σ H _ _ v u Q I rx ry ⟨a,b,xs,ys,rfl,rfl,ha,hb,hx,hz,q1 hx,q2 hx⟩
end
end L2
namespace L2
open PySem PySem.Spec PyProof.Rows
section
variable {X:Cx}
def rNeTE (K:PySem.W.Frag):R2:=fun x y H Q=>∃(a b:Addr)(xs:List V),x = .ref a/\y = .ref b/\SqT K H a xs/\SqT K H b []/\Q (.bl (!xs.isEmpty)) H
theorem op_neTE (hu:X.A.units<cLine):OpR X (compareOp .NotEq) (rNeTE X.K):=by
 intro pins s σ H x y v u Q I rx ry h
 obtain⟨a,b,xs,rfl,rfl,ha,hb,q⟩:=h
 cases rx
 cases ry
 obtain⟨its,r,pl,hz⟩:=I.tuple ha
 obtain⟨its2,r2,pl2,hz2⟩:=I.tuple hb
 have l1:=r.length
 have e2:its2=[]:=by cases r2;rfl
 subst e2
 refine PySem.EqBoolInt.of_rcne (SeqAt.RcNeAt.tuples (e:=fun _=>true) pl pl2 hu (fun j _ h2=>absurd h2 (by simp))) ⟨.bl _,H,I,rfl,?_⟩
 have e:(!((List.range (min its.toArray.size ([]:List Value).toArray.size)).all (fun _=>true) && its.toArray.size==([]:List Value).toArray.size)) = !xs.isEmpty:=by
  cases xs with
  | nil=>cases r;rfl
  | cons x xs=>cases r;simp
 rw[e]
 exact q
end
end L2
namespace HT
open PySem PySem.Spec PyProof.Rows
section
open PySem.SeqAt
open PySem.AutoSeq1 (wpAny_loadPart')
open PySem.MeetsSeq PySem.MeetsSeq2 PySem.MeetsSeq3
end
end HT
namespace L2
open PySem PySem.Spec PyProof.Rows
section
variable {X:Cx}
end
end L2
namespace HT
open PySem PySem.Spec PyProof.Rows
section
variable {prog:Program}{w:World}{A:Around}{E:Value->Shared->Prop}{s:Shared}
theorem getItem_tuple_all {t sl:Addr}{items:Array Value}{vl vu:Value}{lo hi:Option Int}{Q:Value->Shared->Prop}(ht:IsTup s.heap t items)(hs:s.heap.IsSliceOf sl vl vu .none)(pl:IsPart vl lo)(pu:IsPart vu hi)
 (hw:sIx items.size 0 lo=0/\sIx items.size items.size hi=items.size)(h:Q (.ref t) s):wpAny (model prog w) A (getItem (.ref t) (.ref sl)) Q E s:=by
 obtain⟨os,hos,hcs,hds⟩:=id hs
 have hTs:s.TypeIs (.ref sl) "slice" := ⟨os,hos,hcs⟩
 unfold getItem
 try with_reducible refine wpAny_holding ?_
 first | refine wpAny_bind (wpAny_pure ?_) | skip
 refine wpAny_bind (wpAny_sequenceKey ht.typeIs (by decide) ?_)
 refine wpAny_bind (wpAny_callSpecial?_slot (name:=Str.ofString "__getitem__") ht.typeIs PyProof.Rows.slot_tuple_getitem
  (wpAny_call_entry PyProof.Rows.slot_tuple_getitem ht.typeIs entry_tuple_getitem ?_ (args_tuple_getitem _ _)))
 show wpAny _ _ (Builtin.Tuple.tupleItemsOf (.ref t) >>= _) _ _ s
 refine wpAny_bind (tupleItemsOf_ ht ?_)
 refine wpAny_bind (wpAny_typeOf hTs ?_)
 rw[if_pos (by decide)]
 refine wpAny_bind (sliceApplied_gen hs pl pu ?_)
 have hyes:(((sIx items.size 0 lo:Nat):Int)==0 && (1:Int)==1 && (sIx items.size items.size hi-sIx items.size 0 lo)==items.size)=true:=by
  rw[hw.1,hw.2];simp
 show wpAny _ _ (if (((sIx items.size 0 lo:Nat):Int)==0 && (1:Int)==1 && (sIx items.size items.size hi-sIx items.size 0 lo)==items.size)=true then _ else _) _ _ s
 rw[if_pos hyes]
 unfold Builtin.Tuple.tupleIsExact
 refine wpAny_bind (wpAny_bind (wpAny_typeOf ht.typeIs (wpAny_pure ?_)))
 rw[if_pos (by decide)]
 first
  | exact wpAny_bind (wpAny_rule (wpAny_pure ⟨_,rfl,wpAny_pure h⟩))
  | exact wpAny_bind (wpAny_rule (wpAny_pure (wpAny_pure ⟨_,rfl,wpAny_pure h⟩)))
  | exact wpAny_bind (wpAny_rule (wpAny_bind (wpAny_pure (wpAny_pure ⟨_,rfl,wpAny_pure h⟩))))
  | exact wpAny_rule (wpAny_pure ⟨_,rfl,wpAny_pure h⟩)
end
end HT
namespace L2
open PySem PySem.Spec PyProof.Rows
section
variable {X:Cx}{e:Expr}{te:TE}{pos p2 p3 p4:Pos}
def rSlA (K:PySem.W.Frag):V->Option Int->Option Int->Hp->VK->Prop:=fun x lo hi H Q=>∃a xs,x = .ref a/\SqT K H a xs /\
 ((HT.sIx xs.length 0 lo=0/\HT.sIx xs.length xs.length hi=xs.length)->Q (.ref a) H)/\(¬ (HT.sIx xs.length 0 lo=0/\HT.sIx xs.length xs.length hi=xs.length)->∀p,H p=none->Q (.ref p) (upd H p (.tup (cutV xs lo hi))))
theorem sl_tupA:SlR X (rSlA X.K):=by
 intro pins s σ H x v vl vu lo hi sl Q I rx hs pl pu h
 obtain⟨a,xs,rfl,hx,q1,q2⟩:=h
 by_cases c:HT.sIx xs.length 0 lo=0/\HT.sIx xs.length xs.length hi=xs.length
 . cases rx
   obtain⟨its,r,ht,hz⟩:=I.tuple hx
   have hlen:its.toArray.size=xs.length:=by rw[List.size_toArray];exact r.length.symm
   refine⟨"tuple",_,PyProof.Rows.slot_tuple_getitem.lookup,ht.typeIs,?_⟩
   exact HT.getItem_tuple_all ht hs pl pu (by rw[hlen];exact c) ⟨.ref a,H,I,rfl,q1 c⟩
 . exact sl_tup pins s σ H _ v vl vu lo hi sl Q I rx hs pl pu ⟨a,xs,rfl,hx,c,q2 c⟩
end
end L2
namespace L2
open PySem PySem.Spec PyProof.Rows
section
variable {X:Cx}{pins:List (Addr×Obj)}{σ:St}{H:Hp}{s:Shared}{h':Heap}
end
section
variable {X:Cx}
end
end L2
namespace L2
open PySem PySem.Spec PyProof.Rows
section
variable {X:Cx}
end
end L2
namespace L2
open PySem PySem.Spec PyProof.Rows
def SmP (P:Addr)(H H':Hp):Prop:=∀b o,H b=some o->(b=P/\∃ps,o = .tbl ps)\/H' b=some o
theorem SmP.refl {P:Addr}(H:Hp):SmP P H H:=fun _ _ e=>.inr e
theorem SmP.of {P:Addr}{H H':Hp}(h:Same H H'):SmP P H H':=fun b o e=>.inr (h b o e)
theorem SmP.trans {P:Addr}{H H1 H2:Hp}(a:SmP P H H1)(b:SmP P H1 H2):SmP P H H2:=fun c o e=>by
 rcases a c o e with z | z
 . exact .inl z
 . exact b c o z
theorem SmP.get {P:Addr}{H H':Hp}(k:SmP P H H'){b:Addr}{o:HO}(e:H b=some o)(h:∀ps,o ≠ .tbl ps):H' b=some o:=by
 rcases k b o e with ⟨_,ps,z⟩ | z
 . exact absurd z (h ps)
 . exact z
theorem SmP.chg {P:Addr}{H H':Hp}{l:Addr}{o:HO}(k:SmP P H H')(h:H l=none):SmP P H (upd H' l o):=fun b u e=>by
 rcases k b u e with z | z
 . exact .inl z
 . exact .inr (by rw[upd_ne (ne_of_none e h)];exact z)
theorem SmP.smT {P:Addr}{H H':Hp}(h:SmP P H H'):SmT H H':=fun b o e=>(h b o e).imp (fun z=>z.2) id
theorem SmP.tab {P P2:Addr}{H H':Hp}{pos:Pos}{q:Str}(k:SmP P H H')(n:P2≠P)(T:TabAt H P2 pos q):TabAt H' P2 pos q:=
 T.keep (fun o e=>by
  rcases k _ _ e with ⟨z,_⟩ | z
  . exact absurd z n
  . exact z) fun c φ e=>k.get e (by intro ps z;cases z)
section
variable {X:Cx}{pins:List (Addr×Obj)}{σ:St}{H:Hp}{s:Shared}
theorem lam_evP {P c:Addr}{params:Arguments}{body:Expr}{lscope:Scope}{lpos:Pos}{Q:Value->Shared->Prop}{E:Value->Shared->Prop}(I:Inv X pins σ H s)(T:TabAt H P lpos (X.env.qual ++ "<lambda>"))
 (hcode:X.env.code = .ref c)(C:PySem.W.CodeHd X.base c P)(hbm:BmAt X.mg X.base)(hfree:∀y∈lscope.names,y.2 = .free->X.env.kindOf y.1=some .cell)(hdef:defaultsOf params X.env=([],[]))
 (h:∀(f:Addr)(pm cv ctv:Value)(s':Shared)(H':Hp),Inv X pins σ H' s'->SmP P H H'->TabAt H' P lpos (X.env.qual ++ "<lambda>")->s.heap.objs.size<=f ->
  s'.heap.get? f=some { cls:=.type "function",data:=.func (PySem.W.kla_fn "<lambda>" (X.env.qual ++ "<lambda>") params body lscope (clOf X.env.cells lscope.names []) pm cv ctv) } ->
  s'.heap.CodeRec cv (X.env.qual ++ "<lambda>")->Q (.ref f) s') :
 wpAny (model X.prog X.w) X.A (eval (.Lambda params body lscope lpos) X.env) Q E s:=by
 obtain⟨ps,hP,ht,hcase⟩:=T
 have oP:s.heap.get? P=some (PySem.W.tabObj ps):=I.hok P _ hP
 have hg:=I.mod.glob.keeps I.bk
 have C':PySem.W.CodeHd s.heap c P:=C.keeps I.bk
 have hcl:closureFor lscope X.env=pure (clOf X.env.cells lscope.names []):=closureFor_eq fun y hy hf=>I.ok.has y.1 (.inl (hfree y hy hf))
 have nP:∀b o,X.base.get? b=some o->b≠P:=fun b o e z=>by
  have:=(I.bs b o e).2
  rw[z,hP] at this;cases this
 have hgP:mainGlobals≠P:=by
  obtain⟨o,es,ep,e,_⟩:=I.mod.glob
  exact nP _ _ e
 have hb:s.heap.BuiltinsAt X.mg P:=by
  obtain⟨bm,ob,b1,b2,b3,b4,b5,b6⟩:=hbm
  refine⟨bm,ob,b1,b2,fun z=>?_,nP _ _ b3,I.bk _ _ b3,b4,b5,b6⟩
  obtain⟨o,es,ep,e,hd,_⟩:=I.mod.glob
  rw[z,e] at b3;cases b3;rw[hd] at b6;cases b6
 refine PySem.W.kla_eval hdef ?_
 rcases hcase with hn | ⟨c1,hc1,hH⟩
 . refine PySem.W.kla_makeFunction (mg:=X.mg) hcl I.ok.glob hg hcode C' oP ht hn hgP hb fun c' ctv h' tk hx hge hlt hrec htb=>?_
   obtain⟨c2,oc,vs,t,e2,hoc,hd,hv⟩:=id hrec
   cases e2
   have kp:∀b u,b≠P->s.heap.get? b=some u->(h'.push (PySem.W.kla_obj "<lambda>" (X.env.qual ++ "<lambda>") params body lscope (clOf X.env.cells lscope.names []) ((X.mg "__name__").getD .none) c' ctv)).get? b=some u:=fun b u hb' e=>Heap.get?_push_of_some _ (hx b u hb' e)
   have hcn:H c'=none:=I.hok.fresh hge
   have nPc:P≠c':=ne_of_none hP hcn
   refine h h'.objs.size ((X.mg "__name__").getD .none) (.ref c') ctv _ _ (I.growL (c':=c') (o:=.ext (CodePhi c' (X.env.qual ++ "<lambda>"))) (t':=tk) hP hge kp (Heap.get?_push_of_some _ htb) ⟨⟨oc,vs,t,Heap.get?_push_of_some _ hoc,hd,hv⟩,⟨oc,Heap.get?_push_of_some _ hoc⟩,fun h1 h2 ⟨o1,v1,t1,a1,a2,a3⟩ k12=>⟨o1,v1,t1,k12 _ a1,a2,a3⟩⟩) ?_ ?_ ?_ ?_ ?_
   . intro b o e
     by_cases hbP:b=P
     . left
       rw[hbP,hP] at e
       exact⟨hbP,ps,(Option.some.inj e).symm⟩
     . right
       rw[upd_ne (ne_of_none e hcn),upd_ne hbP];exact e
   . refine⟨ps ++ #[rawInt lpos.line,rawInt lpos.col,.ref c'],by rw[upd_ne nPc,upd_same],?_,.inr ⟨c',?_,upd_same⟩⟩
     . rw[Array.toList_append];exact TriplesOk_snoc _ _ _ _ ht
     . rw[Array.toList_append];exact codeAmong_snoc _ ht hn
   . have:=Nat.le_of_lt (Nat.lt_of_le_of_lt hge hlt)
     exact this
   . exact Heap.get?_push_size _ rfl
   . exact hrec.keeps fun b o e=>Heap.get?_push_of_some _ e
 . obtain⟨⟨oc,vs,t,hoc,hd,hv⟩,_⟩:=I.hok c1 _ hH
   refine PySem.W.kla_makeFunctionHit (mg:=X.mg) hcl I.ok.glob hg hcode C' oP ht hc1 hb fun ctv h' tk hk hsz=>?_
   refine h h'.objs.size ((X.mg "__name__").getD .none) (.ref c1) ctv _ _ (I.kept (t':=tk) fun b u e=>Heap.get?_push_of_some _ (hk b u e)) (SmP.refl _) ⟨ps,hP,ht,.inr ⟨c1,hc1,hH⟩⟩ hsz (Heap.get?_push_size _ rfl) ⟨c1,oc,vs,t,rfl,Heap.get?_push_of_some _ (hk _ _ hoc),hd,hv⟩
end
section
variable {X:Cx}
def tMinKeyP (j:Nat)(P:Addr)(lpos:Pos)(q:Str)(t:TA):TE:=fun σ H Q=>t σ H fun vs H1=>∃(l d:Addr)(ns:List Int)(kvs:List (Key×V))(val:Int->Int),vs=[.ref l]/\H1 l=some (.lst (ns.map V.int))/\ns≠[]/\σ[j]? = some (some (.ref d))/\H1 d=some (.dK kvs) /\
 (∀n∈ns,valV kvs (Sum.inl n)=some (.int (val n)))/\TabAt H1 P lpos q/\∀(M:Int)(H2:Hp),M∈ns->(∀n∈ns,val M<=val n)->SmP P H1 H2->TabAt H2 P lpos q->Q (.int M) H2
theorem pe_minkeyP {k j:Nat}{P c:Addr}{dn pn:Str}{e:Expr}{t:TA}{params:Arguments}{lscope:Scope}{lpos pos np p1 p2 p3 kpos:Pos}
 (hc:X.calm=true)(hr:Room (k+1) X.A)(hg:Gl X "min") (hm:X.mg "min" = none) (he:PA X [e] t)(hcode:X.env.code = .ref c)(C:PySem.W.CodeHd X.base c P)(hbm:BmAt X.mg X.base)
 (hN:X.N[j]? = some dn)(hkd:X.env.kindOf dn=some .cell)(hS:lscope.kind = .function)(hco:lscope.isCoroutine=false)(hgen:lscope.isGenerator=false)(hcell:∀x∈lscope.names,x.2 ≠ .cell)
 (hfree:∀y∈lscope.names,y.2 = .free->X.env.kindOf y.1=some .cell)(hdn:lscope.names.lookup dn=some .free)(hpn:lscope.names.lookup pn=some .local)(hdef:defaultsOf params X.env=([],[]))
 (hbind:∀(q:Str)(body:Expr)(cl:List (Str×Addr))(pm cdv ct v:Value),bindArgs (PySem.W.kla_fn "<lambda>" q params body lscope cl pm cdv ct) ⟨[v],[]⟩=pure [(pn,v)])
 (hd1:(dn==("__debug__" : Str))=false:=by decide) (hd2:(dn==("__classdict__" : Str))=false:=by decide) (hd3:(pn==("__debug__" : Str))=false:=by decide)
 (hs1:backTo pos (starEach [e] X.env)=(false,eval e X.env)::backTo pos (starEach [] X.env):=by rfl)(hs2:(backTo pos (starEach [e] X.env)).any (·.1)=false:=by rfl) :
 PE X (.Call (.Name "min" np) [e] [⟨some "key",.Lambda params (.Subscript (.Name dn p1) (.Name pn p2) p3) lscope lpos,kpos⟩] pos) (tMinKeyP j P lpos (X.env.qual ++ "<lambda>") t):=by
 intro pins s σ H Q I h
 refine wpAny_Call_Name_kw (ld_blt I hg hm (by decide +kernel:bootBuiltins "min" = some (.builtin "min")) ?_)
 refine PyProof.Rows.callWith_kw (thn (he pos pins s σ H _ I h) fun us s1 ⟨vs,H1,I1,r,q1⟩=>?_) hs1 hs2
 obtain⟨l,d,ns,kvs,val,rfl,hl,hne,hσ,hdd,hval,T,q⟩:=q1
 obtain⟨u,rfl,rx⟩:=vals1 r
 cases rx
 show wpAny _ _ (evalAll ((do let v <-eval (.Lambda params (.Subscript (.Name dn p1) (.Name pn p2) p3) lscope lpos) X.env;standAt pos;pure v)::[])) _ _ s1
 refine wpAny_evalAll_cons (wpAny_bind (lam_evP I1 T hcode C hbm hfree hdef fun f pm cv ctv s2 H2 I2 sm T2 hfge hf hrec=>wpAny_bind (wpAny_standAt (wpAny_pure (wpAny_evalAll_nil ?_)))))
 show wpAny _ _ (call (.builtin "min") [.ref l] [(Str.ofString "key",.ref f)]) _ _ s2
 have keep2:∀b o,H1 b=some o->(∀ps,o ≠ .tbl ps)->H2 b=some o:=fun b o e ho=>by
  rcases sm b o e with ⟨_,ps,z⟩ | z
  . exact absurd z (ho ps)
  . exact z
 have hl2:H2 l=some (.lst (ns.map V.int)):=keep2 _ _ hl (by intro ps z;cases z)
 have hd2':H2 d=some (.dK kvs):=keep2 _ _ hdd (by intro ps z;cases z)
 obtain⟨_,its,nn,rv,ho⟩:=I2.hok l _ hl2
 obtain⟨hz,lo,vs,rel,od,es,ep,hod,hdr⟩:=dk_of I2.hok hd2'
 have hI:IntsAre its ns:=intsAre_of rv
 obtain⟨m,F0⟩:=I2.fr
 have notL:∀b o,H2 b=some o->b≠X.env.locals:=fun b o e z=>by rw[z,I2.free] at e;cases e
 have kp:∀(h':Heap)(own:List (Addr×Obj)),Fr X.base X.env.locals h' m->News X.base X.env.locals h' (allNews X.base s2.heap X.env.locals++own)->∀b o,b≠X.env.locals->s2.heap.get? b=some o->h'.get? b=some o:=fun h' own F' N' b o hb e'=>by
  cases qb:X.base.get? b with
  | some u=>
   have z:=I2.bk b u qb
   rw[e'] at z;cases z
   exact F'.keep b _ qb
  | none=>exact (N' (b,o) (List.mem_append_left _ (mem_allNews hb qb e'))).1
 obtain⟨m',hn',hloc⟩:=I2.loc
 have em:m'=m:=ns_inj hn' F0.ns
 subst em
 obtain⟨ud,rd,lk⟩:=hloc j dn (.ref d) hN hσ (.inr (.inl hkd))
 cases (show ud=Value.ref d from rd)
 obtain⟨cc,hcc,oc,hoc,hdc⟩:∃cc,X.env.cells.lookup dn=some cc/\s2.heap.IsCell cc (some (.ref d)):=by
  rcases lk with ⟨z,_⟩ | ⟨_,cc,a,b⟩
  . rw[hkd] at z;cases z
  . exact⟨cc,a,b⟩
 have hcl:(clOf X.env.cells lscope.names []).lookup dn=some cc:=by
  obtain⟨c',hc'⟩:=clOf_has ⟨cc,hcc⟩ lscope.names [] (PySem.mem_of_lookup hdn)
  rcases clOf_sub _ _ hc' with z | z
  . simp at z
  . rw[hcc] at z;cases z;exact hc'
 have hsz0:X.env.locals<s1.heap.objs.size:=I1.lt
 have hfL:f≠X.env.locals:=Nat.ne_of_gt (Nat.lt_of_lt_of_le hsz0 hfge)
 refine PyProof.Rows.kmk_min_letter (h₀:=X.base) (L:=X.env.locals) (m:=m') (news:=allNews X.base s2.heap X.env.locals) (ns:=ns) val (I2.ok.hd hc) F0 news_all (fun h' F' N'=>?_) hI (List.length_pos_iff.mpr hne) (fun n tn h' tk own hn F' N'=>?_) (fun M tM h' tk F' N' hM hbest=>?_)
 . exact⟨_,kp h' [] F' (by rw[List.append_nil];exact N') l _ (notL _ _ hl2) ho,rfl,nn,rfl⟩
 . have kk:=kp h' own F' N'
   obtain⟨c1,o1,v1,t1,e1,ho1,hd1',hv1⟩:=id hrec
   subst e1
   have hc1L:c1≠X.env.locals\/True:=.inr trivial
   have rec':h'.CodeRec (.ref c1) (X.env.qual ++ "<lambda>"):=by
    refine⟨c1,o1,v1,t1,rfl,kk c1 o1 (fun z=>?_) ho1,hd1',hv1⟩
    obtain⟨oL,esL,epL,hoL,hdL,_⟩:=F0.ns
    rw[z,hoL] at ho1;cases ho1;rw[hdL] at hd1';cases hd1'
   refine wpAny_call (PySem.W.kla_callFunE hr.in1.depth (kk f _ hfL hf) rfl hco hgen rfl rec' ?_)
   rw[hbind]
   refine wpAny_pure (wpAny_newFunctionEnv hcell (fun y hy=>?_) (fun h₁ hns hsb=>?_) hS)
   . obtain rfl:y=(pn,Value.int n tn):=List.mem_singleton.mp hy
     exact hpn
   . have hk₁:∀b o,h'.get? b=some o->h₁.get? b=some o:=fun b o e'=>hsb.extBut b o (Nat.ne_of_lt (Heap.lt_size e')) (Heap.get?_push_of_some _ e')
     refine⟨I2.mod.nolimit.keeps fun b o e'=>hk₁ b o (F'.keep b o e'),?_⟩
     show codeAny _ _ (.expr (.Subscript (.Name dn p1) (.Name pn p2) p3) (PySem.W.envX (X.env.qual ++ "<lambda>") lscope h'.objs.size f (.ref c1) (clOf X.env.cells lscope.names []))) _ _
     refine PySem.W.kla_codeExpr (subD_of PySem.F.slot_dict_getitem.lookup (fun _ _=>rfl) ?_)
     refine wpAny_Name (wpAny_loadName_free hS (show (PySem.W.envX (X.env.qual ++ "<lambda>") lscope h'.objs.size f (.ref c1) (clOf X.env.cells lscope.names [])).kindOf dn=some .free from hdn) hcl ⟨oc,hk₁ _ _ (kk cc oc (I2.cne dn cc hcc) hoc),hdc⟩ ?_ hd2) hd1
     refine wpAny_Name (wpAny_loadName_local hS (show (PySem.W.envX (X.env.qual ++ "<lambda>") lscope h'.objs.size f (.ref c1) (clOf X.env.cells lscope.names [])).kindOf pn=some .local from hpn) hns (v:=.int n tn) (by simp) ?_) hd3
     have dd:h₁.DictOf (mixKind X.prog X.w) d vs:=⟨od,es,ep,hk₁ _ _ (kk d od (notL _ _ hd2') hod),hdr⟩
     refine⟨dd.typeIs,?_⟩
     obtain⟨w',hw,rw'⟩:=RelO.some_of (v:=.int (val n)) (o:=valueAt vs (Sum.inl n)) (by rw[<-hval n hn];exact rel.val (Sum.inl n))
     obtain⟨t',rfl⟩:=rw'
     refine wpAny_getItem_of (kV_is (k:=Sum.inl n) ⟨tn,rfl⟩) dd.mapOf hw ?_
     exact⟨h₁,_,t',rfl,rfl,⟨F'.ns.keeps hk₁,fun b o e'=>hk₁ b o (F'.keep b o e'),F'.above⟩,fun p hp=>⟨hk₁ _ _ (N' p hp).1,(N' p hp).2⟩⟩
 . have kk:=kp h' [] F' (by rw[List.append_nil];exact N')
   have I3:Inv X pins σ H2 { s2 with heap:=h',toks:=tk }:=by
    refine I2.step (g':=s2.gens) (d':=s2.drawn) (ch:=[]) (fun _ z=>nomatch z) (fun b o hb _ _ e' _=>kk b o hb e') (fun b o hb _ _ e' _=>⟨o.slots,kk b o hb e'⟩) (fun _ _ _ _ n=>n) (fun b o _ e'=>?_) (fun _ _ e'=>e') (fun _ _ _ e'=>e') (fun b ps e'=>⟨#[],by rw[e'];simp⟩) (fun mm hmm=>?_) ?_ I2.bare
    . by_cases hb:b=X.env.locals
      . obtain⟨oL,esL,epL,hoL,_⟩:=F'.ns
        exact⟨oL,by rw[hb];exact hoL⟩
      . exact⟨o,kk b o hb e'⟩
    . have:=ns_inj hmm F0.ns
      subst this
      exact F'.ns
    . intro b u e'
      refine (I2.hok b u e').stay (fun x v hx z=>kk x v ?_ z) (fun _ z=>z) fun _ _ z=>z
      rcases hx with z1 | z1
      . rw[z1];exact notL _ _ e'
      . exact notL _ _ z1
   exact⟨.int M,H2,I3,⟨tM,rfl⟩,q M H2 hM hbest sm T2⟩
end
end L2
namespace L2
open PySem PySem.Spec PyProof.Rows
def CXO (P:Program)(w:World):CXT:=fun outer H s E e s'=>
 ∃(ea t:Addr)(C:Value)(H':Hp)(B:Heap),e = .ref ea/\s'.os=s.os/\AllBare s'.gens/\Un (frs outer) [] H H' s.heap s'.heap/\HOk P w H' s'.heap /\
  Heap.FlyingW B outer ea C (.ref t) s'.heap/\(∀b u,H' b=some u->∃o,B.get? b=some o)/\(∀b o,s.heap.get? b=some o->H b=none->b∉frs outer->B.get? b=some o)/\(∀b o,s.heap.get? b=some o->b∉frs outer->∃o',B.get? b=some o')/\E C none H'
theorem ObjOk.there {P:Program}{w:World}{H:Hp}{h:Heap}{a:Addr}{o:HO}(x:ObjOk P w H h a o):∃ob,h.get? a=some ob:=by
 cases o with
 | lst xs=>obtain⟨_,_,_,_,e⟩:=x;exact⟨_,e⟩
 | tup xs=>obtain⟨⟨_,o2,e2,_⟩,_⟩:=x;exact⟨_,e2⟩
 | dK kvs=>obtain⟨_,_,_,_,o,_,_,e,_⟩:=x;exact⟨_,e⟩
 | dT kvs=>obtain⟨_,_,_,_,o,_,_,e,_⟩:=x;exact⟨_,e⟩
 | set S n=>obtain⟨o,_,_,_,e,_⟩:=x;exact⟨_,e⟩
 | ins C dx fs=>obtain⟨_,_,_,e,_⟩:=x;exact⟨_,e⟩
 | own y=>obtain⟨_,e⟩:=x;exact⟨_,e⟩
 | xd fs=>obtain⟨_,⟨_,_,_,e,_⟩,_⟩:=x;exact⟨_,e⟩
 | rng lo hi=>obtain⟨_,_,_,e⟩:=x;exact⟨_,e⟩
 | frz ob u=>obtain⟨e,_⟩:=x;exact⟨_,e⟩
 | tbl ps=>exact⟨_,show h.get? a=some _ from x⟩
 | met f y=>exact⟨_,show h.get? a=some _ from x⟩
 | ext φ=>obtain⟨_,⟨_,e⟩,_⟩:=x;exact⟨_,e⟩
theorem HOk.stays {P:Program}{w:World}{H:Hp}{h h' B:Heap}(x:HOk P w H h)(k:B.StaysIn h)(k':B.StaysIn h')(tr:∀b u,H b=some u->∃o,B.get? b=some o):HOk P w H h':=fun a o e=>
 (x a o e).stay (fun b u hb q=>by
  have:∃v,H b=some v:=by
   rcases hb with rfl | hb
   . exact⟨_,e⟩
   . exact⟨_,hb⟩
  obtain⟨v,hv⟩:=this
  obtain⟨o',ho'⟩:=tr b v hv
  have e2:o'=u:=Option.some.inj ((k b o' ho').symm.trans q)
  exact e2 ▸ k' b o' ho') (fun _ q=>q) fun _ _ q=>q
section
variable {P:Program}{w:World}{K:PySem.W.Frag}{mg:Str->Option Value}{base:Heap}{N:List Str}{qual:Str}{scope:Scope}{f:Addr}{cd:Value}{A:Around}{outer:List Env}{s0 s:Shared}{H0 H:Hp}{E:XK}{pins:List (Addr×Obj)}{σ:St}
theorem raised_xe {h':Heap}{ea:Addr}{C:Value}{vs:List Value}(I:Inv (cxOf (CXO P w) P w K mg base N qual scope f cd A outer s0 H0 E) pins σ H s)(hx:Heap.MadeExcOf s.heap h' ea C vs)(hE:E C none H) :
 (cxOf (CXO P w) P w K mg base N qual scope f cd A outer s0 H0 E).xe (.ref ea) { s with heap:=h' }:=by
 have hfr:frs (cxOf (CXO P w) P w K mg base N qual scope f cd A outer s0 H0 E).stack=(envOfC qual scope s0.heap.objs.size f cd::outer).filterMap (·.frame):=rfl
 have hin:∀env∈(envOfC qual scope s0.heap.objs.size f cd::outer),∀a,env.frame=some a->a∈(envOfC qual scope s0.heap.objs.size f cd::outer).filterMap (·.frame):=fun env he b hb=>List.mem_filterMap.mpr ⟨env,he,hb⟩
 refine wpAny_leaves_madeW (base:=PySem.W.hideAll s.heap ((envOfC qual scope s0.heap.objs.size f cd::outer).filterMap (·.frame))) I.ok.frames rfl (fun b o q=>PySem.W.of_hideAll _ q) (PySem.W.funFrames_hide I.stack hin) hx fun h'' t fl _ _ up=>?_
 have st:(PySem.W.hideAll s.heap ((envOfC qual scope s0.heap.objs.size f cd::outer).filterMap (·.frame))).StaysIn h'':=fl.1
 have old:∀b o,s0.heap.get? b=some o->H0 b=none->b∉frs outer->(PySem.W.hideAll s.heap ((envOfC qual scope s0.heap.objs.size f cd::outer).filterMap (·.frame))).get? b=some o:=fun b o e n hb=>by
  refine PySem.W.hideAll_get _ (I.base.keep b o e n hb (by intro z;cases z)) fun z=>?_
  rcases List.mem_cons.mp (I.stkSub b z) with q | q
  . exact absurd (Heap.lt_size e) (by rw[q];exact Nat.not_lt_of_le (Nat.le_refl _))
  . exact hb q
 have al:∀b o,s0.heap.get? b=some o->b∉frs outer->∃o',(PySem.W.hideAll s.heap ((envOfC qual scope s0.heap.objs.size f cd::outer).filterMap (·.frame))).get? b=some o':=fun b o e hb=>by
  obtain⟨o1,e1⟩:=I.base.there b o e (by intro z;cases z)
  refine⟨o1,PySem.W.hideAll_get _ e1 fun z=>?_⟩
  rcases List.mem_cons.mp (I.stkSub b z) with q | q
  . exact absurd (Heap.lt_size e) (by rw[q];exact Nat.not_lt_of_le (Nat.le_refl _))
  . exact hb q
 have tr:∀b u,H b=some u->∃o,(PySem.W.hideAll s.heap ((envOfC qual scope s0.heap.objs.size f cd::outer).filterMap (·.frame))).get? b=some o:=fun b u e=>by
  obtain⟨o,ho⟩:=(I.hok b u e).there
  refine⟨o,PySem.W.hideAll_get _ ho fun z=>?_⟩
  have:=I.stkFree b z
  rw[e] at this
  cases this
 refine⟨ea,t,C,H,_,rfl,I.os,I.bare,⟨fun b o e n hb hx'=>st b o (old b o e n hb),fun b o e n hb hx'=>?_,I.base.free,fun b o e hx'=>?_,I.base.tups,I.base.frzs,I.base.tbls⟩,I.hok.stays (fun b o q=>PySem.W.of_hideAll _ q) st tr,fl,tr,old,al,hE⟩
 . obtain⟨sl,e1⟩:=I.base.slot b o e n hb (by intro z;cases z)
   obtain⟨_,o2,e2,nd⟩:=I.stack.mem (show b∈(envOfC qual scope s0.heap.objs.size f cd::outer).filterMap (·.frame) from List.mem_cons_of_mem _ hb)
   have e3:o2={ o with slots:=sl }:=Option.some.inj (e2.symm.trans e1)
   obtain⟨sl2,e4⟩:=up b _ (hx.keeps b _ e1) (fun vs=>by rw[<-e3];exact nd vs)
   exact⟨sl2,e4⟩
 . obtain⟨o1,e1⟩:=I.base.there b o e (by intro z;cases z)
   by_cases hb:b∈(envOfC qual scope s0.heap.objs.size f cd::outer).filterMap (·.frame)
   . obtain⟨_,o2,e2,nd⟩:=I.stack.mem hb
     obtain⟨sl2,e4⟩:=up b _ (hx.keeps b _ e2) nd
     exact⟨_,e4⟩
   . exact⟨_,st b _ (PySem.W.hideAll_get _ e1 hb)⟩
theorem passed_xe {E1:XK}{e:Value}{s':Shared}(I:Inv (cxOf (CXO P w) P w K mg base N qual scope f cd A outer s0 H0 E) pins σ H s)(h:CXO P w (envOfC qual scope s0.heap.objs.size f cd::outer) H s E1 e s')
 (imp:∀C d H',E1 C d H'->E C d H'):(cxOf (CXO P w) P w K mg base N qual scope f cd A outer s0 H0 E).xe e s':=by
 obtain⟨ea,t,C,H',B,rfl,os,bare,un,hok,fl,tr,old,al,hE⟩:=h
 refine wpAny_leaves_onW I.ok.frames rfl fl fun h'' fl2 up=>?_
 have st:B.StaysIn h'':=fl2.1
 have nl:∀b o,s0.heap.get? b=some o->H0 b=none->b∉frs outer->B.get? b=some o:=fun b o e n hb=>by
  refine old b o (I.base.keep b o e n hb (by intro z;cases z)) (I.base.free b o e n (by intro z;cases z)) fun z=>?_
  rcases List.mem_cons.mp (I.stkSub b z) with q | q
  . exact absurd (Heap.lt_size e) (by rw[q];exact Nat.not_lt_of_le (Nat.le_refl _))
  . exact hb q
 have na:∀b o,s0.heap.get? b=some o->b∉frs outer->∃o',B.get? b=some o':=fun b o e hb=>by
  obtain⟨o1,e1⟩:=I.base.there b o e (by intro z;cases z)
  refine al b o1 e1 fun z=>?_
  rcases List.mem_cons.mp (I.stkSub b z) with q | q
  . exact absurd (Heap.lt_size e) (by rw[q];exact Nat.not_lt_of_le (Nat.le_refl _))
  . exact hb q
 refine⟨ea,t,C,H',B,rfl,os.trans I.os,bare,⟨fun b o e n hb _=>st b o (nl b o e n hb),fun b o e n hb _=>?_,fun b o e n _=>?_,fun b o e _=>?_,fun b xs e=>un.tups _ _ (I.base.tups _ _ e),fun b o u e=>un.frzs _ _ _ (I.base.frzs _ _ _ e),fun b ps e=>?_⟩,hok.stays fl.1 st tr,fl2,tr,nl,na,imp _ _ _ hE⟩
 . obtain⟨sl,e1⟩:=I.base.slot b o e n hb (by intro z;cases z)
   have n1:=I.base.free b o e n (by intro z;cases z)
   obtain⟨sl2,e2⟩:=un.slot b _ e1 n1 (List.mem_cons_of_mem _ hb) (by intro z;cases z)
   obtain⟨_,o3,e3,nd⟩:=fl.2.2.1.mem (show b∈(envOfC qual scope s0.heap.objs.size f cd::outer).filterMap (·.frame) from List.mem_cons_of_mem _ hb)
   obtain⟨sl4,e4⟩:=up b _ e3 nd
   have e5:=Option.some.inj (e3.symm.trans e2)
   rw[e5] at e4
   exact⟨sl4,e4⟩
 . exact un.free b _ (I.base.there b o e (by intro z;cases z)).choose_spec (I.base.free b o e n (by intro z;cases z)) (by intro z;cases z)
 . obtain⟨o1,e1⟩:=I.base.there b o e (by intro z;cases z)
   by_cases hb:b∈(envOfC qual scope s0.heap.objs.size f cd::outer).filterMap (·.frame)
   . obtain⟨_,o3,e3,nd⟩:=fl.2.2.1.mem hb
     obtain⟨sl4,e4⟩:=up b _ e3 nd
     exact⟨_,e4⟩
   . obtain⟨o3,e3⟩:=al b o1 e1 hb
     exact⟨_,st b o3 e3⟩
 . obtain⟨m1,e1⟩:=I.base.tbls _ _ e
   obtain⟨m2,e2⟩:=un.tbls _ _ e1
   exact⟨m1++m2,by rw[e2,Array.append_assoc]⟩
end
abbrev bmV:List Value:=[.type "ValueError",.type "Exception",.type "BaseException",.type "object"]
theorem exc_obj {K:PySem.W.Frag}{h:Heap}{C:Addr}{bmB:List Value}{newId:String}(X:K.In h)(q:PySem.W.excIn K C bmB newId=true) :
 ∃bm N nm qn bs hdct sn sub ab col dd k0 k1 k2 k3 k5 mN,h.get? C=some (excClassObj nm qn C N bs bm hdct sn sub ab col dd k0 k1 k2 k3 k5 newId)/\h.Ns N mN/\mN "__init__" = none/\OwnTail h bmB bm:=by
 unfold PySem.W.excIn at q
 split at q
 . next dd cd sl look=>
   split at q
   . next D bm k0 k1 k2 k3 n k5 em es=>
     simp only[Bool.and_eq_true,beq_iff_eq,Bool.not_eq_true'] at q
     obtain⟨⟨⟨⟨⟨q1,q2⟩,q3⟩,q4⟩,q5⟩,q6⟩:=q
     subst q1 q2
     cases cd
     simp only at em q3 q5 q6
     subst em q3
     cases sl
     simp only at es
     subst es
     exact⟨_,_,_,_,_,_,_,_,_,_,_,_,_,_,_,_,_,X _ _ look,.of_isNs (PySem.W.isNs_of_in X q5),PySem.W.nsMap_none_of_in X q5 q6,PySem.W.tail_of_in X q4⟩
   . cases q
 . cases q
def tRaise (C:Addr)(t:TA)(E:XK):TS:=fun _ σ H=>t σ H fun _ H1=>E (.ref C) none H1
theorem ps_raise {X:Cx}{x:Str}{C:Addr}{e:Expr}{t:TA}{E:XK}{np cpos pos:Pos}(hg:Gl X x)(hm:X.mg x=some (.ref C))(q:PySem.W.excIn X.K C bmV "ValueError.__new__" = true) (hc:X.calm=true)(ha:PA X [e] t)
 (hxe:∀(pins:List (Addr×Obj))(σ:St)(H:Hp)(s:Shared)(h':Heap)(ea:Addr)(vs:List Value),Inv X pins σ H s->Heap.MadeExcOf s.heap h' ea (.ref C) vs->E (.ref C) none H->X.xe (.ref ea) { s with heap:=h' })
 (hs:starEach [e] X.env=[(false,eval e X.env)]:=by rfl)(hd:(x==("__debug__" : Str))=false:=by decide) (hl:∀ σ H Q,t σ H Q->t σ H fun vs H1=>vs.length<=1/\Q vs H1) :
 PS X (.Raise (some (.Call (.Name x np) [e] [] cpos)) none pos) (tRaise C t E):=by
 intro pins s σ H D I h
 obtain⟨bm,Nn,nm,qn,bs,hdct,sn,sub,ab,col,dd,k0,k1,k2,k3,k5,mN,hC,hN,hni,T⟩:=exc_obj I.mod.kin q
 refine wpAny_Raise_call_subT (C:=C) (nm:=nm) (q:=qn) (N:=Nn) (bs:=bs) (bm:=bm) (hdct:=hdct) (sn:=sn) (sub:=sub) (ab:=ab) (col:=col) (dd:=dd) (k0:=k0) (k1:=k1) (k2:=k2) (k3:=k3) (k5:=k5)
  PySem.F.excBase_ValueError (mN:=mN) (T.hasType (by rfl)) (I.ok.hd hc) (by rw[hs];rfl) hni (ld_glob I hg hm ⟨rfl,?_⟩ hd)
 have ha':=ha cpos pins s σ H _ I (hl σ H _ h)
 rw[hs] at ha' ⊢
 refine Calls.evalArgs_plain (thn ha' fun us s2 ⟨vs,H2,I2,r2,z2,q2⟩=>?_)
 exact⟨rfl,by rw[<-r2.length];have:sizeLine=16777216:=rfl;show vs.length<=_;omega,I2.bk _ _ hC,hN.keeps I2.bk,T.keeps I2.bk,fun h' ea mx=>hxe pins σ H2 s2 h' ea us I2 mx q2⟩
theorem Fun.okX {P:Program}{w:World}{K:PySem.W.Frag}{mg:Str->Option Value}{base:Heap}{x qual:Str}{st:Stmt}{f:Addr}{fd:FuncData}{N ps:List Str}{k:Nat}{sp:Sp}(F:Fun K x qual st f fd)(S:FnScope N ps (defScope st))(len:∀vs H Q E,sp vs H Q E->vs.length=ps.length)
 (hbody:∀(cdv:Value)(A:Around)(outer:List Env)(s:Shared)(H:Hp)(vs:List V)(Q:VK)(E:XK),Room k (A.deeper (envOfC qual (defScope st) s.heap.objs.size f cdv))->sp vs H Q E ->
  ∃t,PSs (cxOf (CXO P w) P w K mg base N qual (defScope st) f cdv A outer s H E) (defBody st) t/\t { nx:=fun _ H'=>Q .non H',rt:=Q } (start N vs) H):FnOk P w K mg base (CXO P w) (k+1) f fd ps sp:=by
 obtain⟨oc,od,kV,doc,pm,an,cdv,ct,osl,rfl,lk,hcd⟩:=F.ex
 exact fn_of lk hcd S len fun A outer s H vs Q E hr hsp=>hbody cdv A outer s H vs Q E hr hsp
end L2
namespace L2
open PySem PySem.Spec PyProof.Rows
section
variable {X:Cx}{pins:List (Addr×Obj)}{σ:St}{H:Hp}{s:Shared}
theorem unbind_ok {M:Model}{A:Around}{E:Value->Shared->Prop}{i:Nat}{x:Str}{v:V}{Q:Unit->Shared->Prop}(I:Inv X pins σ H s)(hN:X.N.Nodup)(hi:X.N[i]? = some x)(hk:X.env.kindOf x=some .local)(hv:σ[i]? = some (some v))
 (h:∀s',Inv X pins (σ.set i none) H s'->Q () s'):wpAny M A (unbindName X.env x) Q E s:=by
 obtain⟨m,hn,hl⟩:=id I.loc
 have hcls:(X.env.scope.kind == .class || (X.env.scope.kind == .module && X.env.locals != X.env.globals))=false:=by rw[I.ok.kind];rfl
 have hk':X.env.scope.names.lookup x=some .local:=hk
 obtain⟨u,_,lk⟩:=hl i x v hi hv (.inl hk')
 have hm:m x=some u:=by
  rcases lk with ⟨_,e⟩ | ⟨q,_⟩
  . exact e
  . rcases q with q | q <;> (rw[hk] at q;cases q)
 obtain⟨oL,_,_,hoL,_⟩:=id hn
 have neL:∀b o,X.s₀.heap.get? b=some o->b≠X.env.locals:=fun b o e=>Nat.ne_of_lt (Nat.lt_of_lt_of_le (Heap.lt_size e) I.ok.above)
 refine wpAny_unbindName_local hk hn hm hcls fun h' uu hn' hs=>h _ ⟨I.ok,I.os,I.bare,⟨fun b o e n hb hx=>(hs.2 b (neL b o e)).trans (I.base.keep b o e n hb hx),fun b o e n hb hx=>?_,I.base.free,fun b o e hx=>?_,I.base.tups,I.base.frzs,I.base.tbls⟩,⟨_,hn',fun j y v' e1 e2 e3=>?_⟩,fun y c e=>?_,I.free,I.freeC,fun p hp=>?_,fun b ob e=>?_,by simpa using I.len⟩
 . obtain⟨sl,e1⟩:=I.base.slot b o e n hb hx
   exact⟨sl,(hs.2 b (neL b o e)).trans e1⟩
 . obtain⟨o',e1⟩:=I.base.there b o e hx
   exact⟨o',(hs.2 b (neL b o e)).trans e1⟩
 . have hj:j≠i:=fun z=>by
    subst z
    have:j<σ.length:=(List.getElem?_eq_some_iff.mp hv).1
    rw[List.getElem?_set_self this] at e2
    cases e2
   rw[List.getElem?_set_ne (Ne.symm hj)] at e2
   obtain⟨u',r',q⟩:=hl j y v' e1 e2 e3
   refine⟨u',r',?_⟩
   rcases q with ⟨k,e⟩ | ⟨k,c,e,z⟩
   . have ny:y≠x:=fun e=>hj (nodup_ix hN e1 (e ▸ hi))
     exact .inl ⟨k,by simp[ny,e]⟩
   . exact .inr ⟨k,c,e,z.sameBut hs (I.cne y c e)⟩
 . obtain⟨w',z⟩:=I.cell y c e
   exact⟨w',z.sameBut hs (I.cne y c e)⟩
 . obtain⟨e,n,ne,nf,d⟩:=I.pin p hp
   exact⟨(hs.2 p.1 ne).trans e,n,ne,nf,d⟩
 . refine (I.hok b ob e).stay (fun c w' hc q=>(hs.2 c ?_).trans q) (fun _ q=>q) fun _ _ q=>q
   rintro rfl
   rcases hc with rfl | hc
   . rw[I.free] at e;cases e
   . rw[I.free] at hc;cases hc
end
theorem match_base {M:Model}{A:Around}{E:Value->Shared->Prop}{s:Shared}{nm qn nm' qn':Str}{C W Nn Nn':Addr}{bs bm bs' bm':List Value}{hdct hdct':Bool}{sn sn':List Str}{sub sub':List Value}{ab ab':Bool}{col col':Option Bool}{dd dd':Option Addr}
 {k0 k1 k2 k3 k5 k0' k1' k2' k3' k5':Option Value}{newId newId':String}{e:Addr}{oe:Obj}{Q:Bool->Shared->Prop}
 (hC:s.heap.get? C=some (excClassObj nm qn C Nn bs bm hdct sn sub ab col dd k0 k1 k2 k3 k5 newId))(hW:s.heap.get? W=some (excClassObj nm' qn' W Nn' bs' bm' hdct' sn' sub' ab' col' dd' k0' k1' k2' k3' k5' newId'))
 (he:s.heap.get? e=some oe)(hcls:oe.cls = .ref C)(hb:bm'.contains (.type "BaseException")=true) (hs:(Value.ref C::bm).contains (.ref W)=true)(hq:Q true s):wpAny M A (excMatches (.ref e) (.ref W)) Q E s:=by
 obtain⟨h,g,d,t,os⟩:=s
 have hWB:(Value.ref W::bm').contains (.type "BaseException")=true:=by rw[List.contains_cons,hb,Bool.or_true]
 have f:=tc_notTuple
 unfold excMatches
 repeat (first | (with_reducible refine wpAny_loadPart_at he ?_;rw[hcls]) | with_reducible refine wpAny_loadPart_at hW ?_ | (with_reducible refine wpAny_isSubtype_exc hW ?_;rw[hWB]) | (with_reducible refine wpAny_isSubtype_exc hC ?_;rw[hs]) | wp_step)
 exact hq
end L2
namespace L2
open PySem PySem.Spec PyProof.Rows
def subIn (K:PySem.W.Frag)(C W:Addr):Bool:=match K.lookup C with
 | some ⟨_,_,.cls cd,_⟩=>cd.mro.contains (.ref W)
 | _=>false
theorem sub_of {K:PySem.W.Frag}{h:Heap}{C W:Addr}{nm qn:Str}{Nn:Addr}{bs bm:List Value}{hdct:Bool}{sn:List Str}{sub:List Value}{ab:Bool}{col:Option Bool}{dd:Option Addr}{k0 k1 k2 k3 k5:Option Value}{newId:String}
 (X:K.In h)(q:subIn K C W=true)(hC:h.get? C=some (excClassObj nm qn C Nn bs bm hdct sn sub ab col dd k0 k1 k2 k3 k5 newId)):(Value.ref C::bm).contains (.ref W)=true:=by
 unfold subIn at q
 split at q
 . next look=>
   have e:=(X _ _ look).symm.trans hC
   unfold excClassObj at e
   cases e
   exact q
 . cases q
def Cx.held (X:Cx)(ea:Addr)(oe:Obj):Cx:={ X with A:=X.A.mark (some (.ref ea)),calm:=false,pn:=(ea,oe)::X.pn,xe:=fun _ _=>False }
section
variable {X:Cx}{pins:List (Addr×Obj)}{σ:St}{H:Hp}{s:Shared}{ea:Addr}{oe:Obj}
theorem Inv.hold (I:Inv X pins σ H s)(h1:s.heap.get? ea=some oe)(h2:H ea=none)(h3:ea≠X.env.locals)(h4:ea∉X.fs)(h5:∀v,oe.data ≠ .cell v):Inv (X.held ea oe) pins σ H s:=
 ⟨⟨I.ok.mod,I.ok.kind,I.ok.glob,I.ok.blt,I.ok.above,I.ok.inj,I.ok.has,I.ok.cab,(fun z=>by cases z),I.ok.frames,I.ok.stk,I.ok.exf,I.ok.bs,I.ok.bsz,I.ok.noex,I.ok.exfs,I.ok.funs,I.ok.frf⟩,I.os,I.bare,I.base,I.loc,I.cell,I.free,I.freeC,
  fun p hp=>by
   rcases List.mem_cons.mp (show p∈(ea,oe)::(X.pn++pins) from hp) with rfl | hp
   . exact⟨h1,h2,h3,h4,h5⟩
   . exact I.pin p hp,I.hok,I.len⟩
theorem Inv.letgo (ok:X.Ok)(I:Inv (X.held ea oe) pins σ H s):Inv X pins σ H s:=
 ⟨ok,I.os,I.bare,I.base,I.loc,I.cell,I.free,I.freeC,fun p hp=>I.pin p (List.mem_cons_of_mem _ hp),I.hok,I.len⟩
end
theorem landed_un {st:List Env}{H1 H':Hp}{s1 s':Shared}{ea:Addr}{C a0:Value}{B h5:Heap}(un:Un (frs st) [] H1 H' s1.heap s'.heap)(fl:Heap.FlyingW B st ea C a0 s'.heap)
 (old:∀b o,s1.heap.get? b=some o->H1 b=none->b∉frs st->B.get? b=some o)(al:∀b o,s1.heap.get? b=some o->b∉frs st->∃o',B.get? b=some o')(st5:B.StaysIn h5)(up:s'.heap.UpToSlots h5):Un (frs st) [] H1 H' s1.heap h5:=by
 refine⟨fun b o e n hb _=>st5 b o (old b o e n hb),fun b o e n hb _=>?_,un.free,fun b o e _=>?_,un.tups,un.frzs,un.tbls⟩
 . obtain⟨sl2,e2⟩:=un.slot b o e n hb (by intro z;cases z)
   obtain⟨_,o3,e3,nd⟩:=fl.2.2.1.mem hb
   obtain⟨sl4,e4⟩:=up b _ e3 nd
   have e5:=Option.some.inj (e3.symm.trans e2)
   rw[e5] at e4
   exact⟨sl4,e4⟩
 . by_cases hb:b∈frs st
   . obtain⟨_,o3,e3,nd⟩:=fl.2.2.1.mem hb
     obtain⟨sl4,e4⟩:=up b _ e3 nd
     exact⟨_,e4⟩
   . obtain⟨o3,e3⟩:=al b o e hb
     exact⟨_,st5 b o3 e3⟩
def endsH (i:Nat)(D:Ends):Ends:={ D with nx:=fun σ H=>D.nx (σ.set i none) H,bk:=fun σ H=>D.bk (σ.set i none) H,ct:=fun σ H=>D.ct (σ.set i none) H }
def EH (K:PySem.W.Frag)(W:Addr)(ts:Addr->Obj->Addr->TS)(i:Nat)(D:Ends)(σ:St):XK:=fun C _ H'=>∃Ca,C = .ref Ca/\PySem.W.excIn K Ca bmV "ValueError.__new__" = true/\subIn K Ca W=true/\∀ea oe,oe.cls = .ref Ca->H' ea=none->ts ea oe Ca (endsH i D) (σ.set i (some (.ref ea))) H'
def tTry (K:PySem.W.Frag)(W:Addr)(tb:XK->TS)(ts:Addr->Obj->Addr->TS)(i:Nat):TS:=fun D σ H=>tb (EH K W ts i D σ) D σ H
def PX (X:Cx)(body:List Stmt)(tb:XK->TS):Prop:=∀(pins:List (Addr×Obj))(s:Shared)(σ:St)(H:Hp)(D:Ends)(E1:XK),Inv X pins σ H s->tb E1 D σ H ->
 wpAny (model X.prog X.w) X.A (execs body X.env) (SP X pins D) (fun e s'=>∃H1 s1,Inv X pins σ H1 s1/\CXO X.prog X.w X.stack H1 s1 E1 e s') s
theorem ps_try {X:Cx}{body:List Stmt}{n x:Str}{i:Nat}{b0:Stmt}{suite:List Stmt}{pos hpos np:Pos}{W:Addr}{tb:XK->TS}{ts:Addr->Obj->Addr->TS}(hN:X.N.Nodup)(hi:X.N[i]? = some n)(hk:X.env.kindOf n=some .local)
 (hst:X.stack=X.env::X.outer)(hfl:X.env.frame=some X.env.locals)(hex:X.ex=[])(hg:Gl X x)(hm:X.mg x=some (.ref W))(qW:PySem.W.excIn X.K W bmV "ValueError.__new__" = true)
 (hb:PX X body tb)(hs:∀(ea:Addr)(oe:Obj)(C:Addr),oe.cls = .ref C->PSs (X.held ea oe) (b0::suite) (ts ea oe C))(hd:(x==("__debug__" : Str))=false:=by decide) :
 PS X (.Try body [.ExceptHandler (some (.Name x np)) (some n) (b0::suite) hpos] [] [] pos) (tTry X.K W tb ts i):=by
 intro pins s σ H D I h
 refine wpAny_Try_except (wpAny_mono (hb pins s σ H D _ I h) (fun fl s' hq=>?_) fun e s' hq=>?_)
 . cases fl with
   | next=>exact wpAny_execs_nil hq
   | brk=>exact hq
   | cont=>exact hq
   | ret u=>exact hq
 . obtain⟨H1,s1,I1,ea,t,C,H',B,rfl,os,bare,un,hok,fl,tr,old,al,Ca,rfl,qC,sub,hts⟩:=hq
   have hfr:X.A.frames=some (X.env::X.outer):=by rw[<-hst];exact I.ok.frames
   have fl':=fl
   rw[hst] at fl'
   have hHe:H' ea=none:=by
    cases z:H' ea with
    | none=>rfl
    | some u=>
     obtain⟨o,ho⟩:=tr ea u z
     rw[fl.2.1] at ho;cases ho
   refine wpAny_looks_onW hfr hfl fl' fun h4 held up4=>?_
   refine wpAny_landsW held fun h5 fl5 up5=>?_
   have key:∀(h6:Heap),Heap.FlyingW B (X.env::X.outer) ea (.ref Ca) (.ref t) h6->s'.heap.UpToSlots h6->∃oe,h6.get? ea=some oe/\oe.cls = .ref Ca/\Inv (X.held ea oe) pins σ H' { s' with heap:=h6 }:=fun h6 fl6 up6=>by
    obtain⟨oe,ws,hoe,hc,hdt,_⟩:=fl6.first
    have un6:Un (frs X.stack) [] H1 H' s1.heap h6:=landed_un un fl old al fl6.1 up6
    have I6:Inv X pins σ H' { s' with heap:=h6 }:=I1.call' (s':={ s' with heap:=h6 }) os un6 (hok.stays fl.1 fl6.1 tr) bare (fun b z=>absurd z (by simp))
    have nfr:ea∉frs X.stack:=fun z=>by
     rw[hst] at z
     obtain⟨_,o,ho,nd⟩:=fl6.2.2.1.mem z
     rw[hoe] at ho
     cases ho
     exact nd ws hdt
    have hfs:frs X.stack=X.env.locals::X.fs:=by
     rw[hst]
     unfold frs
     rw[List.filterMap_cons,hfl]
     rfl
    rw[hfs] at nfr
    exact⟨oe,hoe,hc,I6.hold hoe hHe (fun z=>nfr (z ▸ List.mem_cons_self)) (fun z=>nfr (List.mem_cons_of_mem _ z)) (fun v z=>by rw[hdt] at z;cases z)⟩
   obtain⟨oe5,hoe5,hc5,I5⟩:=key h5 fl5 (up4.trans up5)
   refine wpAny_handleBy_cons (codeAny_handlers_test (ld_glob (X:=X.held ea oe5) I5 hg hm ?_ hd)) (by intro q;cases q)
   obtain⟨bm,Nn,nm,qn,bs,hdct,sn,sb,ab,col,dd,k0,k1,k2,k3,k5,mN,hC,_,_,_⟩:=exc_obj I5.kIn qC
   obtain⟨bm',Nn',nm',qn',bs',hdct',sn',sb',ab',col',dd',k0',k1',k2',k3',k5',mN',hW,_,_,TW⟩:=exc_obj I5.kIn qW
   refine match_base hC hW hoe5 hc5 (TW.hasType (by rfl)) (sub_of I5.kIn sub hC) ?_
   refine codeAny_handlers_suite_as (lands_againW fl5 fun h6 fl6 up6=>?_)
   obtain⟨oe6,hoe6,hc6,I6⟩:=key h6 fl6 ((up4.trans up5).trans up6)
   refine store_ok (X:=X.held ea oe6) I6 hN hi (.inl hk) (v:=.ref ea) rfl (fun s7 I7=>?_) (.inr hk)
   refine wpAny_mono (hs ea oe6 Ca hc6 pins s7 _ H' (endsH i D) I7 (hts ea oe6 hc6 hHe)) (fun f s8 hq=>?_) fun _ _ z=>z.elim
   have fin:∀{σ':St}{H2:Hp}{Q:Unit->Shared->Prop},Inv (X.held ea oe6) pins σ' H2 s8->(∀s9,Inv X pins (σ'.set i none) H2 s9->Q () s9)->wpAny (model X.prog X.w) X.A (do bindName X.env n .none;unbindBehindTheSuite X.env n hpos) Q X.xe s8:=fun {σ' H2 Q} J hQ=>by
    have J1:=Inv.letgo I.ok J
    have hiσ:i<σ'.length:=by rw[J1.len];exact (List.getElem?_eq_some_iff.mp hi).1
    refine wpAny_bind (wpAny_bindName (store_ok J1 hN hi (.inl hk) (v:=.non) rfl (fun s9 J2=>?_) (.inr hk)))
    unfold unbindBehindTheSuite
    refine wpAny_onRaise (unbind_ok J2 hN hi hk (v:=.non) (List.getElem?_set_self hiσ) fun s10 J3=>?_)
    rw[List.set_set] at J3
    exact hQ s10 J3
   cases f with
   | next=>
    obtain⟨σ',H2,J,q⟩:=hq
    exact fin J fun s9 J9=>⟨_,H2,J9,q⟩
   | brk=>
    obtain⟨σ',H2,J,q⟩:=hq
    exact fin J fun s9 J9=>⟨_,H2,J9,q⟩
   | cont=>
    obtain⟨σ',H2,J,q⟩:=hq
    exact fin J fun s9 J9=>⟨_,H2,J9,q⟩
   | ret u=>
    obtain⟨v,σ',H2,J,r,q⟩:=hq
    exact fin J fun s9 J9=>⟨v,_,H2,J9,r,q⟩
end L2
namespace L2
open PySem PySem.Spec PySem.W PyProof.Rows Builtin Builtin.ObjectAttr Builtin.Getset_descriptor
section
variable {prog:Program}{w:World}{A:Around}{E:Value->Shared->Prop}{s:Shared}{K:Frag}{x C:Addr}{ox:Obj}
structure ExcAt (K:Frag)(C:Addr):Prop where
 ga:findIn K (.ref C) "__getattribute__" = some (some (.builtin "BaseException.__getattribute__"))
 gn:findIn K (.ref C) "__getattr__" = some none
 cl:findIn K (.ref C) "__class__" = some (some (.builtin "object.__class__"))
 mo:mroIn K C (.type "object")=some true
 mb:mroIn K C (.type "BaseException")=some true
 ci:(clsIn K C).isSome=true
def IsExc (h:Heap)(x C:Addr):Prop:=∃o,h.get? x=some o/\o.cls = .ref C
theorem IsExc.type {M:Model}{h:Heap}{x C:Addr}(I:IsExc h x C):Looks M h (typeOf (.ref x)) (.ref C):=by
 obtain⟨o,e,c⟩:=I
 rw[<-c]
 exact (Looks.ld e).andThen .now
theorem exc_cget {tp:Value}{R:Result->Shared->Prop}(X:K.In s.heap)(I:IsExc s.heap x C)(hm:mroIn K C (.type "object")=some true) (h:R (.ok (.ret (.ref C))) s) :
 codeAny (model prog w) A (.call (.builtin "getset_descriptor.__get__") ⟨[.builtin "object.__class__",.ref x,tp],[]⟩) R s:=by
 obtain⟨h0,g0,d0,t0,o0⟩:=s
 have T0:=I.type (M:=model prog w)
 have T1:=looks_mroIn (M:=model prog w) X hm
 refine codeAny_call_builtin KF.slot_gs.plain KF.entry_gs (KF.slot_gs.check _ _ _ _ _ _ _ _ KF.type_class (KF.args_gs _ _ _) ?_)
 unfold Builtin.«getset_descriptor.__get__» descrGet;rw[dga_obj]
 apply wpAny_bind;apply wpAny_pure
 unfold descrGetter descrCheckInstance descrNameAndClass isInstance;simp only[KF.owner_class]
 repeat lk
 refine⟨Code.quiet_builtin _ (by decide +kernel),codeAny_builtin KF.entry_class (?_:wpAny _ _ _ _ _ _)⟩
 unfold Builtin.«object.__class__»;unfold shownTypeOf
 repeat lk
 exact h
theorem exc_entry {tk:Tok}{Q:PySem.Fin->Shared->Prop}(X:K.In s.heap)(I:IsExc s.heap x C)(F':ExcAt K C)(hq:Q (.done (.ret (.ref C))) s) :
 wpAny (model prog w) A (Builtin.«object.__getattribute__» ⟨[.ref x,.str "__class__" tk],[]⟩) Q E s:=by
 obtain⟨h,g,d,t,os⟩:=s
 have L0:=I.type (M:=model prog w)
 have L1:=looks_findIn (M:=model prog w) X F'.cl
 have hT5:(⟨h,g,d,t,os⟩:Shared).TypeIs (.builtin "object.__class__") "getset_descriptor" := F.typeOf_object_class
 have f5:=F.typeOf_object_class
 have f6:=F.slot_gs_get.lookup
 have f7:=F.slot_gs_set.lookup
 repeat (any_goals (first | assumption | with_reducible refine L0.at ?_ | with_reducible refine L1.at ?_ | wp_step))
 refine exc_cget (s:=⟨h,g,d,t,os⟩) X I F'.mo ?_
 repeat (any_goals (first | assumption | wp_step))
theorem exc_check {M:Model}{nameV:Value}{Q:Unit->Shared->Prop}(X:K.In s.heap)(I:IsExc s.heap x C)(F':ExcAt K C)(hq:Q () s):wpAny M A (checkBuiltinCall "BaseException.__getattribute__" ⟨[.ref x,nameV],[]⟩) Q E s:=by
 obtain⟨h,g,d,t,os⟩:=s
 have L0:=I.type (M:=M)
 have L1:=looks_mroIn (M:=M) X F'.mb
 have e1:builtinKind "BaseException.__getattribute__" = some .slot:=by decide +kernel
 have e2:splitId "BaseException.__getattribute__" = some ("BaseException", "__getattribute__"):=by decide +kernel
 have ha:=F.args_bexc_ga (.ref x) nameV
 simp only[checkBuiltinCall,e1,e2]
 refine wpAny_bind ?_
 unfold isInstance
 repeat (any_goals (first | assumption | with_reducible refine L0.at ?_ | with_reducible refine L1.at ?_ | wp_step))
theorem exc_call {tk:Tok}{R:Result->Shared->Prop}(X:K.In s.heap)(I:IsExc s.heap x C)(F':ExcAt K C)(hq:R (.ok (.ret (.ref C))) s) :
 codeAny (model prog w) A (.call (.builtin "BaseException.__getattribute__") ⟨[.ref x,.str "__class__" tk],[]⟩) R s:=
 codeAny_call_builtin F.attrBase_ValueError.ga.plain F.entry_bexc_ga (exc_check X I F' (exc_entry X I F' hq))
theorem exc_by {tk:Tok}{fill:Bool}{Q:Value->Shared->Prop}(X:K.In s.heap)(I:IsExc s.heap x C)(F':ExcAt K C)(hq:Q (.ref C) s):wpAny (model prog w) A (getAttrBy (.ref x) (.str "__class__" tk) fill) Q E s:=by
 obtain⟨h,g,d,t,os⟩:=s
 have L0:=I.type (M:=model prog w)
 have L1:=looks_findIn (M:=model prog w) X F'.ga
 have L2:=looks_findIn (M:=model prog w) X F'.gn
 have f3:=F.attrBase_ValueError.ga.bind (.ref x)
 have hx2:(Value.builtin "BaseException.__getattribute__" == Value.builtin "object.__getattribute__")=false:=by decide +kernel
 have hx1:(onTheHeap (Value.ref C) && Value.builtin "BaseException.__getattribute__" == Value.builtin "object.__getattribute__")=false:=by rw[hx2];rfl
 repeat (any_goals (first | assumption | with_reducible refine L0.at ?_ | with_reducible refine L1.at ?_ | with_reducible refine L2.at ?_ | wp_step))
 refine exc_call (s:=⟨h,g,d,t,os⟩) X I F' ?_
 repeat (any_goals (first | assumption | wp_step))
theorem exc_attr {Q:Option Value->Shared->Prop}(X:K.In s.heap)(I:IsExc s.heap x C)(F':ExcAt K C)(hq:Q (some (.ref C)) { s with toks:=s.toks+1 }):wpAny (model prog w) A (getAttr? (.ref x) "__class__") Q E s:=by
 obtain⟨h,g,d,t,os⟩:=s
 unfold getAttr? getAttrBy?
 repeat (any_goals (first | assumption | with_reducible apply exc_by (s:=⟨h,g,d,t+1,os⟩) X I F' | wp_step))
theorem kitx_exc (F':ExcAt K C):KitX K (.ref x) (.ref C) (fun h=>IsExc h x C) where
 ty:=fun _ _ _ I=>I.type
 it:=fun _ _ X _=>by
  obtain⟨cdD,hcD⟩:=Option.isSome_iff_exists.mp F'.ci
  unfold clsIn at hcD
  split at hcD
  . next ho=>
    intro A' Q' E' s' k q
    unfold isType loadHead
    exact wpAny_bind (wpAny_loadPart (k _ _ (X _ _ ho)) (wpAny_pure q))
  . cases hcD
 ne:=fun h tp dd its n sl X htp=>by
  obtain⟨cdD,hcD⟩:=Option.isSome_iff_exists.mp F'.ci
  refine Bool.eq_false_iff.mpr fun q=>?_
  have e:C=tp:=Value.ref.inj (beq_iff_eq.mp q)
  subst e
  unfold clsIn at hcD
  split at hcD
  . next ho=>
    have z:=(X _ _ ho).symm.trans htp
    cases z
  . cases hcD
 ca:=fun X I k=>exc_attr X I F' k
end
structure HeldAt (X:Cx)(ea C:Addr):Prop where
 pin:∃oe,(ea,oe)∈X.pn/\oe.cls = .ref C
section
variable {X:Cx}
theorem held_inst {pins:List (Addr×Obj)}{σ:St}{H:Hp}{s:Shared}{ea C:Addr}(h:HeldAt X ea C)(I:Inv X pins σ H s):IsExc s.heap ea C:=by
 obtain⟨oe,hp,hc⟩:=h.pin
 obtain⟨e,_⟩:=I.pin (ea,oe) (List.mem_append_left _ hp)
 exact⟨oe,e,hc⟩
theorem call_isinstX {ea C:Addr}(hh:HeldAt X ea C):CallR X (.builtin "isinstance") (fun xs H Q=>∃W b,ExcAt X.K C/\xs=[.ref ea,.ref W]/\PySem.W.kitOne X.K (.ref C) (.ref W)=some b/\Q (.bl b) H):=by
 intro pins s σ H xs us Q I r h
 obtain⟨W,b,F',rfl,e,q⟩:=h
 obtain⟨u,w',rfl,rx,rT⟩:=vals2 r
 cases (show u=Value.ref ea from rx)
 cases (show w'=Value.ref W from rT)
 have J:=held_inst hh I
 exact PySem.W.kia_one (kitx_exc F') I.kIn J e (fun z=>nomatch z) fun tk=>⟨.bl b,H,I.tok tk,rfl,q⟩
theorem call_isinstXT {ea C:Addr}(hh:HeldAt X ea C):CallR X (.builtin "isinstance") (fun xs H Q=>∃T b,ExcAt X.K C/\xs=[.ref ea,.ty T]/\PySem.W.kitOne X.K (.ref C) (.type T)=some b/\Q (.bl b) H):=by
 intro pins s σ H xs us Q I r h
 obtain⟨T,b,F',rfl,e,q⟩:=h
 obtain⟨u,w',rfl,rx,rT⟩:=vals2 r
 cases (show u=Value.ref ea from rx)
 cases (show w'=Value.type T from rT)
 have J:=held_inst hh I
 exact PySem.W.kia_one (kitx_exc F') I.kIn J e (fun z=>nomatch z) fun tk=>⟨.bl b,H,I.tok tk,rfl,q⟩
theorem call_isinstXs {ea C:Addr}(hh:HeldAt X ea C):CallR X (.builtin "isinstance") (fun xs H Q=>∃(tp:Addr)(Ws:List Addr)(b:Bool),ExcAt X.K C/\xs=[.ref ea,.ref tp]/\H tp=some (.tup (Ws.map V.ref))/\PySem.W.kitAny X.K (.ref C) (Ws.map Value.ref)=some b/\Q (.bl b) H):=by
 intro pins s σ H xs us Q I r h
 obtain⟨tp,Ws,b,F',rfl,ht,e,q⟩:=h
 obtain⟨u,w',rfl,rx,rT⟩:=vals2 r
 cases (show u=Value.ref ea from rx)
 cases (show w'=Value.ref tp from rT)
 have J:=held_inst hh I
 obtain⟨⟨z,o2,e2,d2⟩,its,rv,ob,e3,c3,n3,s3⟩:=(show ObjOk X.prog X.w H s.heap tp (.tup (Ws.map V.ref)) from I.hok tp _ ht)
 have hits:its=Ws.map Value.ref:=by
  have:∀(Ws:List Addr)(its:List Value),Vals (Ws.map V.ref) its->its=Ws.map Value.ref:=by
   intro Ws
   induction Ws with
   | nil=>intro its h;cases h;rfl
   | cons a r ih=>
    intro its h
    cases h with
    | cons h1 h2=>rw[ih _ h2,show _=Value.ref a from h1];rfl
  exact this Ws its rv
 obtain⟨c',d',da',sl'⟩:=ob
 simp only at c3 s3
 subst c3 s3 hits
 exact PySem.W.kia_tup (kitx_exc F') I.kIn J e3 e (fun z=>nomatch z) fun tk=>⟨.bl b,H,I.tok tk,rfl,q⟩
theorem held_at {X:Cx}{ea C:Addr}{oe:Obj}(h:oe.cls = .ref C):HeldAt (X.held ea oe) ea C:=⟨⟨oe,List.mem_cons_self,h⟩⟩
variable {k:Nat}{f:Addr}{fd:FuncData}{ps:List Str}{sp:Sp}{x:Str}{p pos epos:Pos}{e:Expr}{es:List Expr}{t:TA}
theorem call_x {pins:List (Addr×Obj)}{s:Shared}{σ:St}{H:Hp}{Q:VK}{E1:XK}(F:FnOk X.prog X.w X.K X.mg X.base (CXO X.prog X.w) k f fd ps sp)(hr:Room k X.A)(hg:Gl X x)(hm:X.mg x=some (.ref f))(hk:PySem.W.keepIn X.K (.ref f)=true)(hb:Binds X.K fd ps [])
 (ha:PA X.nox (e::es) t)(I:Inv X pins σ H s)(h:t σ H fun vs H1=>sp vs H1 Q E1)(hdb:(x==("__debug__" : Str))=false:=by decide) (he:starEach (e::es) X.env=(false,eval e X.env)::starEach es X.env:=by rfl)(hpl:(backTo pos (starEach es X.env)).any (·.1)=false:=by rfl) :
 wpAny (model X.prog X.w) X.A (eval (.Call (.Name x p) (e::es) [] pos) X.env) (EP X pins σ Q) (fun e s'=>∃H1 s1,Inv X pins σ H1 s1/\CXO X.prog X.w X.stack H1 s1 E1 e s') s:=by
 refine wpAny_Call_Name_kw (ld_glob I hg hm ?_ hdb)
 refine PySem.W.callWith_K (h₀:=X.base) I.ok.mod.kin hk (wpAny_mono (ha pos pins s σ H _ (I.wish _) h) (fun us s1 ⟨vs,H1,I1,r,q⟩=>⟨I1.unwish.kIn,?_⟩) fun _ _ z=>False.elim z) he hpl
 have I2:=I1.unwish
 have hl:us.length=ps.length:=by rw[<-r.length];exact F.len _ _ _ _ q
 refine wpAny_call (codeAny_mono (F.run X.A X.stack s1 H1 ⟨us,[]⟩ us vs Q E1 hr I2.env0 (by have:=hb s1 us I2.kIn (by rw[List.append_nil];exact hl);rw[List.append_nil] at this;exact this) r q) fun r s' hq=>?_)
 cases r with
 | error e=>exact⟨H1,s1,I2,hq⟩
 | ok fl=>
  cases fl with
  | ret u=>exact I2.after hq
  | next=>exact False.elim hq
  | brk=>exact False.elim hq
  | cont=>exact False.elim hq
theorem px_expr (F:FnOk X.prog X.w X.K X.mg X.base (CXO X.prog X.w) k f fd ps sp)(hr:Room k X.A)(hg:Gl X x)(hm:X.mg x=some (.ref f))(hk:PySem.W.keepIn X.K (.ref f)=true)(hb:Binds X.K fd ps [])
 (ha:PA X.nox (e::es) t)(hs:swapsWith (.Call (.Name x p) (e::es) [] pos) none epos.line X.env=pure false:=by rfl)(hdb:(x==("__debug__" : Str))=false:=by decide) (he:starEach (e::es) X.env=(false,eval e X.env)::starEach es X.env:=by rfl)(hpl:(backTo pos (starEach es X.env)).any (·.1)=false:=by rfl) :
 PX X [.Expr (.Call (.Name x p) (e::es) [] pos) epos] (fun E1 D σ H=>t σ H fun vs H1=>sp vs H1 (fun _ H2=>D.nx σ H2) E1):=by
 intro pins s σ H D E1 I h
 refine wpAny_execs_cons (wpAny_Expr_any (wpAny_mono (call_x F hr hg hm hk hb ha I h hdb he hpl) (fun v s1 ⟨y,H1,I1,r1,q1⟩=>?_) fun _ _ z=>z) I.quiet hs)
 exact wpAny_execs_nil ⟨σ,H1,I1,q1⟩
end
end L2
namespace L2
open PySem PySem.Spec PyProof.Rows
section
variable {X:Cx}{pins:List (Addr×Obj)}{σ:St}{H:Hp}{s:Shared}
theorem Inv.off {a:Addr}{h':Heap}{t':Nat}(I:Inv X pins σ H s)(f:FpOk X pins H a)(k:∀b o,b≠a->s.heap.get? b=some o->h'.get? b=some o):Inv X pins σ H { s with heap:=h',toks:=t' }:=by
 obtain⟨f1,f2,f3,f4,f5,f6⟩:=f
 refine I.step (g':=s.gens) (d':=s.drawn) (ch:=[a]) (fun b hb=>?_) (fun b o _ _ hb e _=>k b o (fun z=>hb (by rw[z];exact List.mem_cons_self)) e) (fun b o _ _ hb e _=>⟨o.slots,k b o (fun z=>hb (by rw[z];exact List.mem_cons_self)) e⟩) (fun _ _ _ _ n=>n) (fun b o hb e=>⟨o,k b o (fun z=>hb (by rw[z];exact List.mem_cons_self)) e⟩) (fun _ _ e=>e) (fun _ _ _ e=>e) (fun b ps e=>⟨#[],by rw[e];simp⟩) (fun m hm=>?_) (fun b u e=>?_) I.bare
 . obtain rfl:b=a:=List.mem_singleton.mp hb
   exact⟨f4,f2,f5,f6⟩
 . obtain⟨o,es,ep,e,z⟩:=hm
   exact⟨o,es,ep,k _ _ (Ne.symm f2) e,z⟩
 . have nb:∀c u,H c=some u->c≠a:=fun c u q z=>by rw[z,f1] at q;cases q
   refine (I.hok b u e).stay (fun x v hx z=>k x v ?_ z) (fun _ z=>z) fun _ _ z=>z
   rcases hx with z1 | z1
   . rw[z1];exact nb _ _ e
   . exact nb _ _ z1
def cxLam (X:Cx)(A:Around)(N':List Str)(q:Str)(scope:Scope)(f:Addr)(cd:Value)(s3:Shared)(H3:Hp):Cx where
 prog:=X.prog
 w:=X.w
 K:=X.K
 mg:=X.mg
 base:=X.base
 A:=A.deeper (PySem.W.envX q scope s3.heap.objs.size f cd (clOf X.env.cells scope.names []))
 N:=N'
 s₀:=s3
 H₀:=H3
 env:=PySem.W.envX q scope s3.heap.objs.size f cd (clOf X.env.cells scope.names [])
 outer:=X.stack
 stack:=PySem.W.envX q scope s3.heap.objs.size f cd (clOf X.env.cells scope.names [])::X.stack
 ex:=[]
 fn:=fun _=>false
 calm:=true
 pn:=[]
 xe:=fun _ _=>False
variable {A:Around}{q pn:Str}{scope:Scope}{f:Addr}{cd:Value}{cn:List Str}{ci:List Nat}{cv:List V}{v:V}{u:Value}
theorem lam_inv {h1:Heap}{t:Nat}(I:Inv X pins σ H s)(hh:A.handled=none)(hfr:A.frames=some X.stack)(S:CompSc X scope)(hpn:scope.names.lookup pn=some .local)(hc:CapOk X scope cn ci)(hv:ci.map (fun j=>σ[j]?)=cv.map fun v=>some (some v))(hl:cn.length=ci.length)
 (rv:RelV v u)(hns:h1.Ns s.heap.objs.size (fun x=>if x=pn then some u else none))(hk:∀b o,s.heap.get? b=some o->h1.get? b=some o) :
 Inv (cxLam X A (pn::cn) q scope f cd s H) [] (some v::cv.map some) H { s with heap:=h1,toks:=t }:=by
 have lenv:cv.length=ci.length:=by
  have:=congrArg List.length hv
  simpa using this.symm
 have noA:∀b:Addr,b∉(cxLam X A (pn::cn) q scope f cd s H).ex:=fun b z=>absurd (show b∈([]:List Addr) from z) (by simp)
 have has:∀x,scope.names.lookup x=some .free->∃c,(clOf X.env.cells scope.names []).lookup x=some c:=fun x h=>clOf_has (I.ok.has x (.inl (S.free _ (PySem.mem_of_lookup h) rfl))) scope.names [] (PySem.mem_of_lookup h)
 refine⟨⟨I.ok.mod,S.kind,rfl,rfl,Nat.le_refl _,fun x y c h1 h2=>I.ok.inj x y c (comp_cl h1) (comp_cl h2),fun x h=>?_,(fun x c z=>by cases z),fun _=>hh,Around.frames_deeper hfr,.inr ⟨rfl,rfl⟩,fun b z=>absurd z (noA b),I.bs,Nat.le_trans I.ok.bsz I.sz,fun b _ _=>noA b,fun b z=>absurd z (noA b),I.stack,I.stkFree⟩,
  rfl,I.bare,Un.kept hk,⟨_,hns,fun i x y e1 e2 e3=>?_⟩,fun x c e=>?_,I.hok.fresh (Nat.le_refl _),fun x c e=>I.freeC x c (comp_cl e),fun p hp=>absurd (show p∈([]:List (Addr×Obj)) from hp) (by simp),I.hok.kept hk,?_⟩
 . rcases (show scope.names.lookup x=some .cell\/scope.names.lookup x=some .free from h) with z | z
   . exact absurd rfl (S.nocell _ (PySem.mem_of_lookup z))
   . exact has x z
 . cases i with
   | zero=>
    obtain rfl:pn=x:=by simpa [cxLam] using e1
    obtain rfl:v=y:=by simpa using e2
    exact⟨u,rv,.inl ⟨hpn,by show (if pn=pn then some u else none)=some u;rw[if_pos rfl]⟩⟩
   | succ i=>
    have e1':cn[i]? = some x:=by simpa [cxLam] using e1
    rw[List.getElem?_cons_succ,List.getElem?_map] at e2
    obtain⟨j,hj,hNj,hkx,hfree⟩:=hc.get e1'
    have hcv:cv[i]? = some y:=by
     cases z:cv[i]? with
     | none=>rw[z] at e2;cases e2
     | some v'=>rw[z] at e2;cases e2;rfl
    have hσ:σ[j]? = some (some y):=by
     have:=congrArg (fun l:List (Option (Option V))=>l[i]?) hv
     simp only[List.getElem?_map,hj,hcv,Option.map_some,Option.some.injEq] at this
     exact this
    obtain⟨m,_,hl'⟩:=I.loc
    obtain⟨u',r,q'⟩:=hl' j x y hNj hσ (.inr (.inl hkx))
    obtain⟨c',hc'⟩:=has x hfree
    refine⟨u',r,.inr ⟨.inr hfree,c',hc',?_⟩⟩
    rcases q' with ⟨z,_⟩ | ⟨_,c,hcc,o,ho,hd⟩
    . rw[hkx] at z;cases z
    . have e:c=c':=Option.some.inj (hcc.symm.trans (comp_cl hc'))
      subst e
      exact⟨o,hk c o ho,hd⟩
 . obtain⟨v',o,ho,hd⟩:=I.cell x c (comp_cl e)
   exact⟨v',o,hk c o ho,hd⟩
 . show (some v::cv.map some).length=(pn::cn).length
   rw[List.length_cons,List.length_cons,List.length_map,lenv,hl]
theorem lam_call {params:Arguments}{body:Expr}{te:TE}{pm cv' ctv:Value}{Q:VK}{E:Value->Shared->Prop}(I:Inv X pins σ H s)(hh:A.handled=none)(hfr:A.frames=some X.stack)(hdp:A.depth<recursionLimit)(S:CompSc X scope)(hco:scope.isCoroutine=false)(hgen:scope.isGenerator=false)(hpn:scope.names.lookup pn=some .local)
 (hc:CapOk X scope cn ci)(hv:ci.map (fun j=>σ[j]?)=cv.map fun v=>some (some v))(hl:cn.length=ci.length)
 (hbind:bindArgs (PySem.W.kla_fn "<lambda>" q params body scope (clOf X.env.cells scope.names []) pm cv' ctv) ⟨[u],[]⟩=pure [(pn,u)])
 (hf:s.heap.get? f=some { cls:=.type "function",data:=.func (PySem.W.kla_fn "<lambda>" q params body scope (clOf X.env.cells scope.names []) pm cv' ctv) }) (hrec:s.heap.CodeRec cv' q)
 (hb:∀s3 H3,PE (cxLam X A (pn::cn) q scope f cv' s3 H3) body te)(rv:RelV v u)(hq:te (some v::cv.map some) H Q):wpAny (model X.prog X.w) A (call (.ref f) [u]) (fun r s'=>CE X.stack X.prog X.w H s Q r s') E s:=by
 refine wpAny_call (PySem.W.kla_callFunE hdp hf rfl hco hgen rfl hrec ?_)
 rw[hbind]
 refine wpAny_pure (wpAny_newFunctionEnv S.nocell (fun y hy=>?_) (fun h₁ hns hsb=>?_) S.kind)
 . obtain rfl:y=(pn,u):=List.mem_singleton.mp hy
   exact hpn
 . have hk₁:∀b o,s.heap.get? b=some o->h₁.get? b=some o:=fun b o e'=>hsb.extBut b o (Nat.ne_of_lt (Heap.lt_size e')) (Heap.get?_push_of_some _ e')
   refine⟨I.nolimit.keeps hk₁,?_⟩
   show codeAny _ _ (.expr body (PySem.W.envX q scope s.heap.objs.size f cv' (clOf X.env.cells scope.names []))) _ _
   have hns':h₁.Ns s.heap.objs.size (fun x=>if x=pn then some u else none):=by
    have e:(fun x=>([(pn,u)]:List (Str×Value)).reverse.lookup x)=(fun x=>if x=pn then some u else none):=by
     funext x
     by_cases z:x=pn
     . subst z;simp
     . rw[if_neg z]
       show List.lookup x [(pn,u)]=none
       rw[List.lookup_cons,show (x==pn)=false from by simpa using z];rfl
    rw[<-e];exact hns
   have J:=lam_inv (q:=q) (f:=f) (cd:=cv') (t:=s.toks+[(pn,u)].length) I hh hfr S hpn hc hv hl rv hns' hk₁
   refine PySem.W.kla_codeExpr (wpAny_mono (hb s H [] _ _ H Q J hq) (fun r s' hr=>?_) fun _ _ z=>z.elim)
   obtain⟨v',H',J',r',q'⟩:=hr
   exact⟨v',H',J'.os,J'.bare,J'.base,J'.hok,r',q'⟩
end
end L2
namespace L2
open PySem PySem.Spec PyProof.Rows
section
variable {X:Cx}{pins:List (Addr×Obj)}{σ:St}{H:Hp}{s:Shared}
theorem lam_evQ {P c:Addr}{params:Arguments}{body:Expr}{lscope:Scope}{lpos:Pos}{Q:Value->Shared->Prop}{E:Value->Shared->Prop}(I:Inv X pins σ H s)(T:TabAt H P lpos (X.env.qual ++ "<lambda>"))
 (hcode:X.env.code = .ref c)(C:PySem.W.CodeHd X.base c P)(hbm:BmAt X.mg X.base)(hfree:∀y∈lscope.names,y.2 = .free->X.env.kindOf y.1=some .cell)(hdef:defaultsOf params X.env=([],[]))
 (h:∀(f:Addr)(pm cv ctv:Value)(s':Shared)(H':Hp),Inv X pins σ H' s'->SmP P H H'->TabAt H' P lpos (X.env.qual ++ "<lambda>")->s.heap.objs.size<=f ->
  s'.heap.get? f=some { cls:=.type "function",data:=.func (PySem.W.kla_fn "<lambda>" (X.env.qual ++ "<lambda>") params body lscope (clOf X.env.cells lscope.names []) pm cv ctv) } ->
  (∃c1,cv = .ref c1/\H' c1=some (.ext (CodePhi c1 (X.env.qual ++ "<lambda>"))))->H' f=none->Q (.ref f) s') :
 wpAny (model X.prog X.w) X.A (eval (.Lambda params body lscope lpos) X.env) Q E s:=by
 obtain⟨ps,hP,ht,hcase⟩:=T
 have oP:s.heap.get? P=some (PySem.W.tabObj ps):=I.hok P _ hP
 have hg:=I.mod.glob.keeps I.bk
 have C':PySem.W.CodeHd s.heap c P:=C.keeps I.bk
 have hcl:closureFor lscope X.env=pure (clOf X.env.cells lscope.names []):=closureFor_eq fun y hy hf=>I.ok.has y.1 (.inl (hfree y hy hf))
 have nP:∀b o,X.base.get? b=some o->b≠P:=fun b o e z=>by
  have:=(I.bs b o e).2
  rw[z,hP] at this;cases this
 have hgP:mainGlobals≠P:=by
  obtain⟨o,es,ep,e,_⟩:=I.mod.glob
  exact nP _ _ e
 have hb:s.heap.BuiltinsAt X.mg P:=by
  obtain⟨bm,ob,b1,b2,b3,b4,b5,b6⟩:=hbm
  refine⟨bm,ob,b1,b2,fun z=>?_,nP _ _ b3,I.bk _ _ b3,b4,b5,b6⟩
  obtain⟨o,es,ep,e,hd,_⟩:=I.mod.glob
  rw[z,e] at b3;cases b3;rw[hd] at b6;cases b6
 refine PySem.W.kla_eval hdef ?_
 rcases hcase with hn | ⟨c1,hc1,hH⟩
 . refine PySem.W.kla_makeFunction (mg:=X.mg) hcl I.ok.glob hg hcode C' oP ht hn hgP hb fun c' ctv h' tk hx hge hlt hrec htb=>?_
   obtain⟨c2,oc,vs,t,e2,hoc,hd,hv⟩:=id hrec
   cases e2
   have kp:∀b u,b≠P->s.heap.get? b=some u->(h'.push (PySem.W.kla_obj "<lambda>" (X.env.qual ++ "<lambda>") params body lscope (clOf X.env.cells lscope.names []) ((X.mg "__name__").getD .none) c' ctv)).get? b=some u:=fun b u hb' e=>Heap.get?_push_of_some _ (hx b u hb' e)
   have hcn:H c'=none:=I.hok.fresh hge
   have nPc:P≠c':=ne_of_none hP hcn
   refine h h'.objs.size ((X.mg "__name__").getD .none) (.ref c') ctv _ _ (I.growL (c':=c') (o:=.ext (CodePhi c' (X.env.qual ++ "<lambda>"))) (t':=tk) hP hge kp (Heap.get?_push_of_some _ htb) ⟨⟨oc,vs,t,Heap.get?_push_of_some _ hoc,hd,hv⟩,⟨oc,Heap.get?_push_of_some _ hoc⟩,fun h1 h2 ⟨o1,v1,t1,a1,a2,a3⟩ k12=>⟨o1,v1,t1,k12 _ a1,a2,a3⟩⟩) ?_ ?_ ?_ ?_ ?_ ?_
   . intro b o e
     by_cases hbP:b=P
     . left
       rw[hbP,hP] at e
       exact⟨hbP,ps,(Option.some.inj e).symm⟩
     . right
       rw[upd_ne (ne_of_none e hcn),upd_ne hbP];exact e
   . refine⟨ps ++ #[rawInt lpos.line,rawInt lpos.col,.ref c'],by rw[upd_ne nPc,upd_same],?_,.inr ⟨c',?_,upd_same⟩⟩
     . rw[Array.toList_append];exact TriplesOk_snoc _ _ _ _ ht
     . rw[Array.toList_append];exact codeAmong_snoc _ ht hn
   . have:=Nat.le_of_lt (Nat.lt_of_le_of_lt hge hlt)
     exact this
   . exact Heap.get?_push_size _ rfl
   . exact⟨c',rfl,upd_same⟩
   . have hf0:H h'.objs.size=none:=I.hok.fresh (Nat.le_of_lt (Nat.lt_of_le_of_lt hge hlt))
     have n1:h'.objs.size≠c':=Nat.ne_of_gt hlt
     have n2:h'.objs.size≠P:=fun z=>by rw[z,hP] at hf0;cases hf0
     rw[upd_ne n1,upd_ne n2];exact hf0
 . obtain⟨⟨oc,vs,t,hoc,hd,hv⟩,_⟩:=I.hok c1 _ hH
   refine PySem.W.kla_makeFunctionHit (mg:=X.mg) hcl I.ok.glob hg hcode C' oP ht hc1 hb fun ctv h' tk hk hsz=>?_
   refine h h'.objs.size ((X.mg "__name__").getD .none) (.ref c1) ctv _ _ (I.kept (t':=tk) fun b u e=>Heap.get?_push_of_some _ (hk b u e)) (SmP.refl _) ⟨ps,hP,ht,.inr ⟨c1,hc1,hH⟩⟩ hsz (Heap.get?_push_size _ rfl) ⟨c1,rfl,hH⟩ (I.hok.fresh hsz)
structure LpI (X:Cx)(pins:List (Addr×Obj))(σ:St)(H2:Hp)(f:Addr)(of:Obj)(Ia Sa:Addr)(H:Hp)(s:Shared):Prop where
 inv:Inv X pins σ H s
 sm:Same H2 H
 fo:s.heap.get? f=some of
 fn:FpOk X pins H f
 fi:FpOk X pins H Ia
 fs:FpOk X pins H Sa
 d1:f≠Ia
 d2:f≠Sa
 d3:Sa≠Ia
 io:∃o,s.heap.get? Ia=some o
 so:∃o,s.heap.get? Sa=some o
theorem FpOk.to {b:Addr}{H H':Hp}(f:FpOk X pins H b)(h:H' b=none):FpOk X pins H' b:=⟨h,f.2⟩
theorem FpOk.nst {b:Addr}(I:Inv X pins σ H s)(f:FpOk X pins H b):b∉frs X.stack:=fun z=>by
 rcases List.mem_cons.mp (I.stkSub b z) with q | q
 . exact f.2.1 q
 . exact f.2.2.1 q
variable {H2:Hp}{f Ia Sa l:Addr}{of:Obj}
theorem LpI.offI {h':Heap}{t':Nat}(L:LpI X pins σ H2 f of Ia Sa H s)(k:∀b o,b≠Ia->s.heap.get? b=some o->h'.get? b=some o)(ho:∃o,h'.get? Ia=some o):LpI X pins σ H2 f of Ia Sa H { s with heap:=h',toks:=t' }:=
 ⟨L.inv.off L.fi k,L.sm,k _ _ L.d1 L.fo,L.fn,L.fi,L.fs,L.d1,L.d2,L.d3,ho,let ⟨o,e⟩:=L.so;⟨o,k _ _ L.d3 e⟩⟩
theorem LpI.offS {h':Heap}{t':Nat}(L:LpI X pins σ H2 f of Ia Sa H s)(k:∀b o,b≠Sa->s.heap.get? b=some o->h'.get? b=some o)(ho:∃o,h'.get? Sa=some o):LpI X pins σ H2 f of Ia Sa H { s with heap:=h',toks:=t' }:=
 ⟨L.inv.off L.fs k,L.sm,k _ _ L.d2 L.fo,L.fn,L.fi,L.fs,L.d1,L.d2,L.d3,let ⟨o,e⟩:=L.io;⟨o,k _ _ (Ne.symm L.d3) e⟩,ho⟩
theorem LpI.call {r:Value}{s':Shared}{x:V}(L:LpI X pins σ H2 f of Ia Sa H s)(h:CE X.stack X.prog X.w H s (fun v H'=>v=x/\Same H H') r s') :
 ∃H',LpI X pins σ H2 f of Ia Sa H' s'/\RelV x r/\(∀o,s.heap.get? Ia=some o->s'.heap.get? Ia=some o)/\(∀o,s.heap.get? Sa=some o->s'.heap.get? Sa=some o):=by
 obtain⟨v,H',os,bare,un,hok,rv,rfl,sm⟩:=h
 have kp:∀b,FpOk X pins H b->∀o,s.heap.get? b=some o->s'.heap.get? b=some o:=fun b fb o e=>un.keep b o e fb.1 (fb.nst L.inv) (by intro z;cases z)
 have fr:∀b,FpOk X pins H b->(∃o,s.heap.get? b=some o)->FpOk X pins H' b:=fun b fb ⟨o,e⟩=>fb.to (un.free b o e fb.1 (by intro z;cases z))
 refine⟨H',⟨L.inv.call' os un hok bare (fun b z=>absurd z (by simp)),L.sm.trans sm,kp f L.fn _ L.fo,fr f L.fn ⟨_,L.fo⟩,fr Ia L.fi L.io,fr Sa L.fs L.so,L.d1,L.d2,L.d3,?_,?_⟩,rv,kp Ia L.fi,kp Sa L.fs⟩
 . obtain⟨o,e⟩:=L.io;exact⟨o,kp Ia L.fi o e⟩
 . obtain⟨o,e⟩:=L.so;exact⟨o,kp Sa L.fs o e⟩
def KeyJ (X:Cx)(pins:List (Addr×Obj))(σ:St)(H2:Hp)(f:Addr)(of:Obj)(Ia Sa:Addr)(ns:List Int)(val:Int->Int):Prop:=
 ∀(H:Hp)(s:Shared)(n:Int)(u:Value)(E:Value->Shared->Prop),LpI X pins σ H2 f of Ia Sa H s->n∈ns->RelV (.int n) u->wpAny (model X.prog X.w) X.A.in1 (call (.ref f) [u]) (fun r s'=>CE X.stack X.prog X.w H s (fun v H'=>v = .int (val n)/\Same H H') r s') E s
variable {ns:List Int}{val:Int->Int}
theorem LpI.list (L:LpI X pins σ H2 f of Ia Sa H s)(hl:H2 l=some (.lst (ns.map V.int))):∃its,IntsAre its ns/\s.heap.IsList l its.toArray:=by
 obtain⟨_,its,nn,rv,ho⟩:=L.inv.hok l _ (L.sm _ _ hl)
 exact⟨its,intsAre_of rv,_,ho,rfl,nn,rfl⟩
def Best (ns:List Int)(val:Int->Int)(j b:Nat)(nb:Int):Prop:=ns[b]? = some nb/\b<j/\∀i n,i<j->ns[i]? = some n->val nb<=val n/\(i<b->val nb<val n)
theorem Best.one {x:Int}(h:ns[0]? = some x):Best ns val 1 0 x:=⟨h,Nat.zero_lt_one,fun i n hi e=>by
 obtain rfl:i=0:=by omega
 rw[h] at e;cases e
 exact⟨Int.le_refl _,fun z=>absurd z (Nat.lt_irrefl _)⟩⟩
theorem Best.keep {j b:Nat}{nb x:Int}(B:Best ns val j b nb)(h:ns[j]? = some x)(c:¬ val x<val nb):Best ns val (j+1) b nb:=⟨B.1,by have:=B.2.1;omega,fun i n hi e=>by
 by_cases z:i=j
 . subst z;rw[h] at e;cases e
   exact⟨by omega,fun y=>by have:=B.2.1;omega⟩
 . exact B.2.2 i n (by omega) e⟩
theorem Best.new {j b:Nat}{nb x:Int}(B:Best ns val j b nb)(h:ns[j]? = some x)(c:val x<val nb):Best ns val (j+1) j x:=⟨h,by omega,fun i n hi e=>by
 by_cases z:i=j
 . subst z;rw[h] at e;cases e
   exact⟨Int.le_refl _,fun y=>by omega⟩
 . have:=(B.2.2 i n (by omega) e).1
   exact⟨by omega,fun _=>by omega⟩⟩
theorem minJ_loop {Rr:Result->Shared->Prop}(hh:X.A.handled=none)(ky:KeyJ X pins σ H2 f of Ia Sa ns val)(hl:H2 l=some (.lst (ns.map V.int)))
 (hR:∀M b H s u,Best ns val ns.length b M->Inv X pins σ H s->Same H2 H->RelV (.int M) u->Rr (.ok (.ret u)) s) :
 ∀(r j:Nat)(H:Hp)(s:Shared)(b:Nat)(nb:Int)(vb:Value)(tb:Tok)(c:Nat),ns.length-j=r->1<=j->j<=ns.length->LpI X pins σ H2 f of Ia Sa H s->s.heap.IsListIter Ia l j->Best ns val j b nb->RelV (.int nb) vb ->
  s.heap.get? Sa=some { cls:=.type "list",data:=.seq #[vb,.int (val nb) tb] c }->codeAny (model X.prog X.w) X.A (.builtin "min.loop" { pos:=[.ref Ia,.ref f,.ref Sa],kw:=[] }) Rr s:=by
 intro r
 induction r with
 | zero=>
  intro j H s b nb vb tb c hr h1 hj L hit B rb hSo
  obtain rfl:j=ns.length:=by omega
  obtain⟨its,hI,hls⟩:=L.list hl
  refine codeAny_builtin PySem.F.entry_min_loop ?_
  unfold Builtin.«min.loop»
  refine wpAny_bind (wpAny_seqItems hSo rfl ?_)
  dsimp only
  refine wpAny_bind (wpAny_tryCatch (wpAny_pyNext_list_end hh hit hls (by rw[List.getElem?_toArray];exact List.getElem?_eq_none (by rw[hI.length];exact Nat.le_refl _)) fun h' k=>?_))
  have hS':=k Sa _ L.d3 hSo
  refine wpAny_bind (wpAny_updateSeq hS' rfl (wpAny_bind (wpAny_letGo (wpAny_pure ?_))) (by show 2<=sizeLine;decide) (by show 0<=sizeLine+1;decide))
  exact hR nb b H _ vb B ((L.inv.off (t':=s.toks) L.fi k).off (t':=s.toks) L.fs fun b o hb e=>(Heap.get?_update_ne _ _ _ _ hb).trans e) L.sm rb
 | succ r ih=>
  intro j H s b nb vb tb c hr h1 hj L hit B rb hSo
  obtain⟨x,hx⟩:∃x,ns[j]? = some x:=⟨_,List.getElem?_eq_getElem (by omega)⟩
  obtain⟨its,hI,hls⟩:=L.list hl
  obtain⟨tx,hu⟩:=hI.get j x hx
  refine codeAny_builtin PySem.F.entry_min_loop ?_
  unfold Builtin.«min.loop»
  refine wpAny_bind (wpAny_seqItems hSo rfl ?_)
  dsimp only
  refine wpAny_bind (wpAny_tryCatch (wpAny_pyNext_list_item hit hls (by rw[List.getElem?_toArray];exact hu) fun h' hit' k=>?_))
  have L1:=L.offI (t':=s.toks) (h':=h') (fun b o hb e=>(k.2 b hb).trans e) (let ⟨o,ho,_⟩:=hit';⟨o,ho⟩)
  have hS':h'.get? Sa=some { cls:=.type "list",data:=.seq #[vb,.int (val nb) tb] c }:=(k.2 Sa L.d3).trans hSo
  refine wpAny_bind (wpAny_tryCatch (wpAny_holding (wpAny_mono (ky H _ x (.int x tx) _ L1 (List.mem_of_getElem? hx) ⟨tx,rfl⟩) (fun rr s2 hce=>?_) fun _ _ z=>z)))
  obtain⟨H',L2,rv2,kI,kS⟩:=L1.call hce
  obtain⟨t2,rfl⟩:=rv2
  have hS2:=kS _ hS'
  have hit2:s2.heap.IsListIter Ia l (j+1):=by obtain⟨o,ho,hc⟩:=hit';exact⟨o,kI _ ho,hc⟩
  refine wpAny_bind (wpAny_tryCatch (wpAny_holding (wpAny_bind (PyProof.Rows.lt_int ?_))))
  refine wpAny_bind (wpAny_holding (wpAny_truthy_bool (wpAny_bind (wpAny_letGo (wpAny_pure ?_)))))
  cases e:decide (val x<val nb) with
  | true=>
   refine wpAny_bind (wpAny_updateSeq hS2 rfl (wpAny_bind (wpAny_letGo (wpAny_pure ⟨rfl,?_⟩))) (by show 2<=sizeLine;decide) (by show 2<=sizeLine+1;decide))
   refine ih (j+1) H' _ j x (.int x tx) t2 c (by omega) (by omega) (by omega) (L2.offS (t':=s2.toks) (fun b o hb e=>(Heap.get?_update_ne _ _ _ _ hb).trans e) ⟨_,Heap.get?_update_self _ hS2 rfl⟩) ?_ (B.new hx (of_decide_eq_true e)) ⟨tx,rfl⟩ (Heap.get?_update_self _ hS2 rfl)
   obtain⟨o,ho,hc⟩:=hit2
   exact⟨o,(Heap.get?_update_ne _ _ _ _ (Ne.symm L.d3)).trans ho,hc⟩
  | false=>
   refine wpAny_bind (wpAny_letGo (wpAny_pure ⟨rfl,?_⟩))
   exact ih (j+1) H' s2 b nb vb tb c (by omega) (by omega) (by omega) L2 hit2 (B.keep hx (of_decide_eq_false e)) rb hS2
theorem minJ_first {Rr:Result->Shared->Prop}(hh:X.A.handled=none)(ky:KeyJ X pins σ H2 f of Ia Sa ns val)(hl:H2 l=some (.lst (ns.map V.int)))(hne:ns≠[])
 (hR:∀M b H s u,Best ns val ns.length b M->Inv X pins σ H s->Same H2 H->RelV (.int M) u->Rr (.ok (.ret u)) s){c:Nat}(L:LpI X pins σ H2 f of Ia Sa H s)(hit:s.heap.IsListIter Ia l 0)(hSo:s.heap.get? Sa=some { cls:=.type "list",data:=.seq #[] c }) :
 codeAny (model X.prog X.w) X.A (.builtin "min.loop" { pos:=[.ref Ia,.ref f,.ref Sa],kw:=[] }) Rr s:=by
 have hlen:=List.length_pos_iff.mpr hne
 obtain⟨x,hx⟩:∃x,ns[0]? = some x:=⟨_,List.getElem?_eq_getElem hlen⟩
 obtain⟨its,hI,hls⟩:=L.list hl
 obtain⟨tx,hu⟩:=hI.get 0 x hx
 refine codeAny_builtin PySem.F.entry_min_loop ?_
 unfold Builtin.«min.loop»
 refine wpAny_bind (wpAny_seqItems hSo rfl ?_)
 dsimp only
 refine wpAny_bind (wpAny_tryCatch (wpAny_pyNext_list_item hit hls (by rw[List.getElem?_toArray];exact hu) fun h' hit' k=>?_))
 have L1:=L.offI (t':=s.toks) (h':=h') (fun b o hb e=>(k.2 b hb).trans e) (let ⟨o,ho,_⟩:=hit';⟨o,ho⟩)
 have hS':h'.get? Sa=some { cls:=.type "list",data:=.seq #[] c }:=(k.2 Sa L.d3).trans hSo
 refine wpAny_bind (wpAny_tryCatch (wpAny_holding (wpAny_mono (ky H _ x (.int x tx) _ L1 (List.mem_of_getElem? hx) ⟨tx,rfl⟩) (fun rr s2 hce=>?_) fun _ _ z=>z)))
 obtain⟨H',L2,rv2,kI,kS⟩:=L1.call hce
 obtain⟨t2,rfl⟩:=rv2
 have hS2:=kS _ hS'
 refine wpAny_bind (wpAny_updateSeq hS2 rfl (wpAny_pure ⟨rfl,?_⟩) (by show 0<=sizeLine;decide) (by show 2<=sizeLine+1;decide))
 refine minJ_loop hh ky hl hR (ns.length-1) 1 H' _ 0 x (.int x tx) t2 (c+1) rfl (Nat.le_refl _) hlen (L2.offS (t':=s2.toks) (fun b o hb e=>(Heap.get?_update_ne _ _ _ _ hb).trans e) ⟨_,Heap.get?_update_self _ hS2 rfl⟩) ?_ (Best.one hx) ⟨tx,rfl⟩ (Heap.get?_update_self _ hS2 rfl)
 obtain⟨o,ho,hc⟩:=hit'
 exact⟨o,(Heap.get?_update_ne _ _ _ _ (Ne.symm L.d3)).trans (kI _ ho),hc⟩
theorem call_minJ {Q E:Value->Shared->Prop}(hh:X.A.handled=none)(I:Inv X pins σ H2 s)(hf:s.heap.get? f=some of)(hfp:FpOk X pins H2 f)(ky:∀Ia Sa,KeyJ X pins σ H2 f of Ia Sa ns val)(hl:H2 l=some (.lst (ns.map V.int)))(hne:ns≠[])
 (hR:∀M b H s u,Best ns val ns.length b M->Inv X pins σ H s->Same H2 H->RelV (.int M) u->Q u s) :
 wpAny (model X.prog X.w) X.A (call (.builtin "min") [.ref l] [(Str.ofString "key",.ref f)]) Q E s:=by
 obtain⟨_,its,nn,rv,ho⟩:=I.hok l _ hl
 have hp:s.heap.IsList l its.toArray:=⟨_,ho,rfl,nn,rfl⟩
 refine wpAny_call (codeAny_call_builtin PySem.F.plain_min PySem.F.entry_min (wpAny_of_eq (show checkBuiltinCall "min" { pos:=[.ref l],kw:=[(Str.ofString "key",.ref f)] }=pure () from rfl) (wpAny_pure ?_)))
 unfold Builtin.min
 refine wpAny_bind (wpAny_of_eq (show Builtin.Builtins.bindParams "min" ["key", "default"] 0 { kw:=[(Str.ofString "key",.ref f)] }=pure [some (.ref f),none] from rfl) (wpAny_pure ?_))
 dsimp only
 refine wpAny_bind (wpAny_pure ?_)
 refine wpAny_bind (wpAny_pyIter_list hp (wpAny_bind (wpAny_newList (wpAny_pure ⟨rfl,?_⟩) (by show 0<=sizeLine;decide))))
 have hSe:(s.heap.push { cls:=.type "list_iterator",data:=.fields #[.ref l,.int 0 0] }).objs.size=s.heap.objs.size+1:=Heap.size_push ..
 rw[hSe]
 have k1:∀(o1 o2:Obj) b o,s.heap.get? b=some o->((s.heap.push o1).push o2).get? b=some o:=fun o1 o2 b o e=>Heap.get?_push_of_some _ (Heap.get?_push_of_some _ e)
 have hfl:=Heap.lt_size hf
 refine minJ_first (Ia:=s.heap.objs.size) (Sa:=s.heap.objs.size+1) (H:=H2) (c:=0) hh (ky _ _) hl hne hR ⟨I.kept (t':=s.toks) (k1 _ _),fun _ _ e=>e,k1 _ _ _ _ hf,hfp,I.fpOk (Nat.le_refl _) (I.hok.fresh (Nat.le_refl _)),I.fpOk (Nat.le_succ _) (I.hok.fresh (Nat.le_succ _)),Nat.ne_of_lt hfl,Nat.ne_of_lt (Nat.lt_succ_of_lt hfl),Nat.succ_ne_self _,⟨_,Heap.get?_push_of_some _ (Heap.get?_push_size _ rfl)⟩,⟨_,by rw[<-hSe];exact Heap.get?_push_size _ rfl⟩⟩ ?_ ?_
 . exact⟨_,Heap.get?_push_of_some _ (Heap.get?_push_size _ rfl),rfl,rfl⟩
 . rw[<-hSe];exact Heap.get?_push_size _ rfl
end
section
variable {X:Cx}
def tMinLam (P:Addr)(lpos:Pos)(q:Str)(ci:List Nat)(t:TA)(te:TE):TE:=fun σ H Q=>t σ H fun vs H1=>∃(l:Addr)(ns:List Int)(val:Int->Int)(cv:List V),vs=[.ref l]/\H1 l=some (.lst (ns.map V.int))/\ns≠[]/\ci.map (fun j=>σ[j]?)=cv.map (fun v=>some (some v))/\TabAt H1 P lpos q /\
 ∀H2,SmP P H1 H2->TabAt H2 P lpos q->(∀n∈ns,∀H3,Same H2 H3->te (some (.int n)::cv.map some) H3 (fun v H4=>v = .int (val n)/\Same H3 H4))/\∀(M:Int)(b:Nat)(H4:Hp),Best ns val ns.length b M->Same H2 H4->Q (.int M) H4
theorem pe_minlam {k:Nat}{P c:Addr}{pn:Str}{cn:List Str}{ci:List Nat}{e body:Expr}{t:TA}{te:TE}{params:Arguments}{lscope:Scope}{lpos pos np kpos:Pos}
 (hc:X.calm=true)(hr:Room (k+2) X.A)(hg:Gl X "min") (hm:X.mg "min" = none) (he:PA X [e] t)(hcode:X.env.code = .ref c)(C:PySem.W.CodeHd X.base c P)(hbm:BmAt X.mg X.base)
 (S:CompSc X lscope)(hco:lscope.isCoroutine=false)(hgen:lscope.isGenerator=false)(hpn:lscope.names.lookup pn=some .local)(hcap:CapOk X lscope cn ci)(hlc:cn.length=ci.length)(hdef:defaultsOf params X.env=([],[]))
 (hbind:∀(q:Str)(body:Expr)(cl:List (Str×Addr))(pm cdv ct v:Value),bindArgs (PySem.W.kla_fn "<lambda>" q params body lscope cl pm cdv ct) ⟨[v],[]⟩=pure [(pn,v)])
 (hb:∀(f:Addr)(cd:Value)(s3:Shared)(H3:Hp),Room k (cxLam X X.A.in1 (pn::cn) (X.env.qual ++ "<lambda>") lscope f cd s3 H3).A->PE (cxLam X X.A.in1 (pn::cn) (X.env.qual ++ "<lambda>") lscope f cd s3 H3) body te)
 (hs1:backTo pos (starEach [e] X.env)=(false,eval e X.env)::backTo pos (starEach [] X.env):=by rfl)(hs2:(backTo pos (starEach [e] X.env)).any (·.1)=false:=by rfl) :
 PE X (.Call (.Name "min" np) [e] [⟨some "key",.Lambda params body lscope lpos,kpos⟩] pos) (tMinLam P lpos (X.env.qual ++ "<lambda>") ci t te):=by
 intro pins s σ H Q I h
 refine wpAny_Call_Name_kw (ld_blt I hg hm (by decide +kernel:bootBuiltins "min" = some (.builtin "min")) ?_)
 refine PyProof.Rows.callWith_kw (thn (he pos pins s σ H _ I h) fun us s1 ⟨vs,H1,I1,r,q1⟩=>?_) hs1 hs2
 obtain⟨l,ns,val,cv,rfl,hl,hne,hv,T,q⟩:=q1
 obtain⟨u,rfl,rx⟩:=vals1 r
 cases rx
 show wpAny _ _ (evalAll ((do let v <-eval (.Lambda params body lscope lpos) X.env;standAt pos;pure v)::[])) _ _ s1
 refine wpAny_evalAll_cons (wpAny_bind (lam_evQ I1 T hcode C hbm S.free hdef fun f pm cv' ctv s2 H2 I2 sm T2 hfge hf hrec hfn=>wpAny_bind (wpAny_standAt (wpAny_pure (wpAny_evalAll_nil ?_)))))
 show wpAny _ _ (call (.builtin "min") [.ref l] [(Str.ofString "key",.ref f)]) _ _ s2
 have hl2:H2 l=some (.lst (ns.map V.int)):=sm.get hl (by intro ps z;cases z)
 obtain⟨q1,q2⟩:=q H2 sm T2
 obtain⟨c1,rfl,hc1⟩:=hrec
 refine call_minJ (val:=val) (I2.ok.hd hc) I2 hf (I1.fpOk hfge hfn) (fun Ia Sa H3 s3 n un E' L hn ru=>?_) hl2 hne (fun M b H4 s4 um B I4 s24 ru=>⟨.int M,H4,I4,ru,q2 M b H4 B s24⟩)
 obtain⟨⟨o1,v1,t1,ho1,hd1,hv1⟩,_⟩:=L.inv.hok c1 _ (L.sm _ _ hc1)
 exact lam_call (cv:=cv) L.inv (I2.ok.hd hc) L.inv.ok.frames hr.in1.depth S hco hgen hpn hcap hv hlc (hbind _ _ _ _ _ _ _) L.fo ⟨c1,o1,v1,t1,rfl,ho1,hd1,hv1⟩ (fun s5 H5=>hb f (.ref c1) s5 H5 (hr.in1.deeper _)) ru (q1 n hn H3 L.sm)
end
end L2
namespace L2
open PySem PySem.Spec PyProof.Rows
def Itd (lo:Int)(n:Nat):It:=⟨fun i _=>i<n,fun i H x H'=>H'=H/\x = .int (lo-i),fun i _=>n<=i⟩
theorem turn_down {P:Program}{w:World}{K:PySem.W.Frag}{tg:Expr}(it:Addr)(lo:Int)(n:Nat):Turn P w K tg (Itd lo n) [it] it (fun i h=>IsRangeIter h it (lo+(i:Nat)*(-1)) ((n:Int)-(i:Nat)) (-1)) where
 mem:=by simp
 obj:=fun i h st b hb=>by
  have e:b=it:=by simpa using hb
  subst e
  exact⟨_,st,fun v z=>by
   have z':Data.fields _=Data.cell v:=z
   cases z'⟩
 keep:=fun i h h' st k=>k it (by simp) _ st
 item:=by
  intro X hP hw hK hc i pins s σ H E I hf st hg
  subst hP hw hK
  obtain⟨f0,f1,f2,f3,f4,f5⟩:=hf it (by simp)
  have W:=Walks.range (prog:=X.prog) (w:=X.w) (I.ok.hd hc) it lo (-1) n
  refine W.item i s _ _ hg st fun v h' tk hv st' kk=>?_
  obtain⟨t,rfl⟩:=hv
  have I1:Inv X pins σ H { s with heap:=h',toks:=tk }:=I.turned (fun b o hb e=>kk b o (by simpa using hb) e) f0 f1 f3 f4 f5
  refine⟨_,rfl,go_of (s:={ s with heap:=h',toks:=tk }) (n := "range_iterator") st' rfl rfl (by decide) ⟨.int (lo-i),H,I1,⟨t,?_⟩,⟨rfl,rfl⟩,st',fun b hb=>(hf b hb).1⟩⟩
  rw[show lo+(i:Int)*(-1)=lo-i by omega]
 done:=by
  intro X hP hw hK hc i pins s σ H E I hf st hg
  subst hP hw hK
  obtain⟨f0,f1,f2,f3,f4,f5⟩:=hf it (by simp)
  exact wpAny_pyNext_range_end (I.ok.hd hc) st (by have:n<=i:=hg;omega) fun h' eb=>⟨rfl,I.turned (t':=s.toks) (fun b o hb e=>eb b o hb e) f0 f1 f3 f4 f5⟩
 self:=fun _ _ _ _ _ st h=>wpAny_pyIter_rangeiter st h
section
variable {X:Cx}{tg:Expr}
theorem range_down {pins:List (Addr×Obj)}{σ:St}{H:Hp}{s:Shared}{R:It->Hp->Prop}{E:Value->Shared->Prop}{lo hi:Int}{t u v:Tok}{tk:Nat}(I:Inv X pins σ H s)(h1 : -(2 ^ 62)<=lo)(h2:lo<2 ^ 62)(h3 : -(2 ^ 62)<=hi)(h4:hi<2 ^ 62)
 (q:R (Itd lo (lo-hi).toNat) H):wpAny (model X.prog X.w) X.A (pyIter (.ref s.heap.objs.size)) (PIE X pins σ tg R) E { s with heap:=s.heap.push { cls:=.type "range",data:=.fields #[.int lo t,.int hi u,.int (-1) v] },toks:=tk }:=by
 refine wpAny_pyIter_range (IsRange.new ..) (PySem.W.small_down h1 h2 h3 h4) ?_
 have I1:Inv X pins σ H { s with heap:=s.heap.push { cls:=.type "range",data:=.fields #[.int lo t,.int hi u,.int (-1) v] },toks:=tk }:=I.kept fun b o e=>Heap.get?_push_of_some _ e
 refine⟨(s.heap.push { cls:=.type "range",data:=.fields #[.int lo t,.int hi u,.int (-1) v] }).objs.size,[(s.heap.push { cls:=.type "range",data:=.fields #[.int lo t,.int hi u,.int (-1) v] }).objs.size],_,_,H,rfl,
  I1.kept (t':=tk) fun b o e=>Heap.get?_push_of_some _ e,turn_down _ lo (lo-hi).toNat,?_,fun b hb=>?_,q⟩
 . have e1:lo+((0:Nat):Int)*(-1)=lo:=by simp
   have e2:(((lo-hi).toNat:Nat):Int)-((0:Nat):Int)=Builtin.Range.rangeSize lo hi (-1):=by rw[PySem.W.rangeSize_downNat];omega
   show IsRangeIter _ _ (lo+((0:Nat):Int)*(-1)) ((((lo-hi).toNat:Nat):Int)-((0:Nat):Int)) (-1)
   rw[e1,e2]
   exact Heap.get?_push_size _ rfl
 . have e:b=(s.heap.push { cls:=.type "range",data:=.fields #[.int lo t,.int hi u,.int (-1) v] }).objs.size:=by simpa using hb
   subst e
   exact I1.fpOk (Nat.le_refl _) (I1.hok.fresh (Nat.le_refl _))
def iRngD (ta:TA):TI:=fun σ H R=>ta σ H fun vs H1=>∃i j:Int,vs=[.int i,.int j,.int (-1)]/\(-(2 ^ 40)<=i/\i<2 ^ 40 /\ -(2 ^ 40)<=j/\j<2 ^ 40)/\R (Itd i (i-j).toNat) H1
theorem pi_rangeD {a b c:Expr}{ta:TA}{p pos:Pos}(hg:Gl X "range") (hm:X.mg "range" = none) (ha:PA X [a,b,c] ta)(hs:starEach [a,b,c] X.env=(false,eval a X.env)::starEach [b,c] X.env:=by rfl)(hs2:(backTo pos (starEach [b,c] X.env)).any (·.1)=false:=by rfl) :
 PI X tg (.Call (.Name "range" p) [a,b,c] [] pos) (iRngD ta):=by
 intro pins s σ H R I h
 refine Call_ (ld_blt I hg hm boot_range (PyProof.Rows.callWith_type1 (thn (ha pos pins s σ H _ I h) fun us s1 ⟨vs,H1,I1,r1,q1⟩=>?_) hs hs2))
 obtain⟨i,j,e,⟨q1,q2,q3,q4⟩,q⟩:=q1
 subst e
 cases r1 with
 | cons r rr=>
  cases rr with
  | cons r' rr=>
   cases rr with
   | cons r'' rr=>
    cases rr
    obtain⟨t,rfl⟩:=r
    obtain⟨t',rfl⟩:=r'
    obtain⟨t'',rfl⟩:=r''
    exact call_range_3 (by decide) (range_down I1 (by omega) (by omega) (by omega) (by omega) q) (Or.inl (PyProof.noPylong_small (by omega)))
end
theorem for_down {lo:Int}{n:Nat}{g:TG}{tb:TS}{D:Ends}{σ:St}{H:Hp}(Pv:Nat->St->Hp->Prop)(h0:Pv 0 σ H)
 (hs:∀i σ H,i<n->Pv i σ H->g (.int (lo-i)) σ H fun σ2 H2=>tb { D with nx:=Pv (i+1),ct:=Pv (i+1),bk:=D.nx } σ2 H2)(hd:∀ σ H,Pv n σ H->D.nx σ H) :
 ∃W:Nat->Nat->St->Hp->Prop,(∃m,W 0 m σ H)/\∀i m σ H,W i m σ H ->
  ((Itd lo n).stop i H/\D.nx σ H)\/((Itd lo n).go i H/\∃N:St->Hp->Prop,(∀ σ' H',N σ' H'->∃m',m'<m/\W (i+1) m' σ' H')/\∀x H',(Itd lo n).yld i H x H'->g x σ H' fun σ2 H2=>tb { D with nx:=N,ct:=N,bk:=D.nx } σ2 H2):=by
 refine⟨fun i m σ H=>m=n-i/\i<=n/\Pv i σ H,⟨n,by simp,Nat.zero_le _,h0⟩,?_⟩
 rintro i m σ H ⟨rfl,hi,p⟩
 by_cases hlt:i<n
 . refine .inr ⟨hlt,Pv (i+1),fun σ' H' p'=>⟨n-(i+1),by omega,rfl,hlt,p'⟩,fun x H' y=>?_⟩
   obtain⟨e,y⟩:=y
   subst e y
   exact hs i σ _ hlt p
 . have e:i=n:=by omega
   subst e
   exact .inl ⟨Nat.le_refl _,hd σ H p⟩
end L2
namespace L2
open PySem PyProof.Rows
section
variable {X:Cx}
theorem call_minL (hc:X.calm=true):CallR X (.builtin "min") (fun xs H Q=>∃(p:Addr)(ns:List Int),xs=[.ref p]/\SqL X.K H p (ns.map V.int)/\ns≠[]/\∀M,M∈ns->(∀a∈ns,M<=a)->Q (.int M) H):=by
 intro pins s σ H xs us Q I r h
 obtain⟨p,ns,rfl,hq,hne,q⟩:=h
 obtain⟨u,rfl,rx⟩:=vals1 r
 cases rx
 obtain⟨its,rv,pl,hz⟩:=I.list hq
 have hi:=intsAre_of rv
 have hil:=hi.length
 have hlp:p<s.heap.objs.size:=by
  obtain⟨o,_,ho,_⟩:=pl
  exact Heap.lt_size ho
 have hpos:0<ns.length:=List.length_pos_iff.mpr hne
 refine call_min_walk (wpAny_pyIter_list pl.isList ⟨s.heap.objs.size,[s.heap.objs.size,p],[s.heap.objs.size],its.toArray.size,_,_,fun i j=>decide (ns.getD i 0<ns.getD j 0),rfl,Walks.list (A:=X.A.in1) (I.ok.hd hc) s.heap.objs.size p (Nat.ne_of_lt hlp) its.toArray,⟨?_,?_⟩,?_,by simpa [hil] using hpos,?_,fun v h' tk hv kp=>?_⟩)
 . exact⟨_,Heap.get?_push_size _ rfl,rfl,rfl⟩
 . obtain⟨o,ho,hr⟩:=pl.isList
   exact⟨o,Heap.get?_push_of_some _ ho,hr⟩
 . intro b hb
   rw[Heap.size_push]
   rcases List.mem_cons.mp hb with rfl | hb
   . exact Nat.lt_succ_self _
   . rw[List.mem_singleton.mp hb];exact Nat.lt_succ_of_lt hlp
 . intro i j vi vj s' Q' E' hvi hvj q'
   have hvi':its[i]? = some vi:=by simpa using hvi
   have hvj':its[j]? = some vj:=by simpa using hvj
   obtain⟨t1,rfl⟩:=hi.int_at i vi hvi'
   obtain⟨t2,rfl⟩:=hi.int_at j vj hvj'
   exact PyProof.Rows.lt_int q'
 . obtain⟨b1,b2⟩:=argBest_lt (fun i=>ns.getD i 0) (its.toArray.size-1)
   have hv':its[argBest (fun i j=>decide (ns.getD i 0<ns.getD j 0)) (its.toArray.size-1)]? = some v:=by simpa using hv
   generalize eb:argBest (fun i j=>decide (ns.getD i 0<ns.getD j 0)) (its.toArray.size-1)=bi at hv' b1 b2
   obtain⟨t,rfl⟩:=hi.int_at bi v hv'
   have hlt:bi<ns.length:=by have:=(List.getElem?_eq_some_iff.mp hv').1;omega
   have hK:Kp s h':=fun b o e=>kp b o (fun z=>absurd (List.mem_singleton.mp z) (Nat.ne_of_lt (Heap.lt_size e))) (Heap.get?_push_of_some _ e)
   refine⟨.int (ns.getD bi 0),H,I.kept hK,⟨t,rfl⟩,q _ ?_ fun m hm=>?_⟩
   . rw[List.getD_eq_getElem?_getD,List.getElem?_eq_getElem hlt];exact List.getElem_mem hlt
   . obtain⟨j,hj,ej⟩:=List.getElem_of_mem hm
     have:=b2 j (by rw[List.size_toArray];omega)
     have g1:ns.getD j 0=m:=by rw[List.getD_eq_getElem?_getD,List.getElem?_eq_getElem hj,ej];rfl
     rw[g1] at this
     exact this
end
end L2
namespace L2
open PySem PySem.Spec PyProof.Rows
section
variable {X:Cx}
end
end L2
namespace L2
open PySem PySem.Spec PyProof.Rows
section
variable {X:Cx}
end
end L2
namespace L2
open PySem PySem.Spec PyProof.Rows
theorem law_callTs {P:Program}{w:World}{K:PySem.W.Frag}{mg mb:Str->Option Value}{CX:CXT}{k:Nat}{fa a:Addr}{Ts:List Addr}{fd:FuncData}{x:Str}{sp:Sp}{s₁:Shared}{vs:List Value}{ns:List Int}
 (KX:K.In s₁.heap)(hns:s₁.heap.Ns mainGlobals mg)(hb:s₁.heap.Ns builtinsNs mb)(hbb:∀x:Str,x ≠ "__name__" -> mb x=bootBuiltins x) (hlim:s₁.heap.NoLimit)(hg:s₁.gens = #[])
 (ha:s₁.heap.get? a=some { cls:=.type "list",data:=.seq vs.toArray }) (hi:IntsAre vs ns)(hl:ns.length<=sizeLine)(hr:Room k callerA)
 (hT:∀b∈Ts,s₁.heap.get? b=some (PySem.W.tabObj #[]))(hC:∀b∈Ts,isCodeTable s₁.heap b)(hK:PySem.W.noTabs K=true)(hbm:BmAt mg s₁.heap)
 (F:∀base:Heap,K.In base->base.Ns mainGlobals mg->BmAt mg base->FnOk P w K mg base CX k fa fd [x] sp)(hbind:∀(s:Shared)(u:Value),BindsTo s fd ⟨[u],[]⟩ [(x,u)])
 (hsp:∀H:Hp,(∀b∈Ts,H b=some (.tbl #[]))->SqL K H a (ns.map V.int)->sp [.ref a] H (fun v _=>v = .bl true) fun _ _ _=>False)
 (hCX:∀H e s',CX [] H s₁ (fun _ _ _=>False) e s'->False) :
 codeAny (model P w) callerA (.call (.ref fa) ⟨[.ref a],[]⟩) (fun r s'=>r = .ok (.ret (.bool true))/\OldK s₁.heap s'.heap/\s'.os=s₁.os/\AllBare s'.gens) s₁:=by
 have rv:=vals_ints hi
 have lenV:=hi.length
 have npa:a∉Ts:=fun e=>by
  have:=hT a e
  rw[ha] at this;cases this
 have kPT:∀b∈Ts,K.lookup b=none:=fun b hb'=>by
  cases q:K.lookup b with
  | none=>rfl
  | some o=>
   have e:=KX b o q
   rw[hT b hb'] at e
   cases e
   have h2:=List.all_eq_true.mp hK (b,_) (PySem.W.mem_of_lookupK q)
   exact absurd (show false=true from h2) Bool.false_ne_true
 have core:∀H:Hp,(∀b u,H b=some u->(b∈Ts/\u = .tbl #[])\/(b=a/\K.lookup a=none/\∃o xs,u = .frz o (.lst xs)))->(∀b∈Ts,H b=some (.tbl #[]))->SqL K H a (ns.map V.int)->HOk P w H s₁.heap ->
  codeAny (model P w) callerA (.call (.ref fa) ⟨[.ref a],[]⟩) (fun r s'=>r = .ok (.ret (.bool true))/\OldK s₁.heap s'.heap/\s'.os=s₁.os/\AllBare s'.gens) s₁:=by
  intro H hA hP hS hok
  have base_of:∀{b:Addr}{o:Obj},s₁.heap.get? b=some o->H b=none->(hidT s₁.heap H).get? b=some o:=fun e n=>hidT_get e n
  have noA:∀{b:Addr}{o:Obj},s₁.heap.get? b=some o->(∀ps,o.data ≠ .fields ps)->(∀ps n,o.data ≠ .seq ps n)->H b=none:=fun {b o} e d1 d2=>by
   cases q:H b with
   | none=>rfl
   | some u=>
    rcases hA b u q with ⟨hm,_⟩ | ⟨rfl,_⟩
    . rw[hT b hm] at e;cases e;exact absurd rfl (d1 #[])
    . rw[ha] at e;cases e;exact absurd rfl (d2 _ _)
  have nsK:∀{b:Addr}{m:Str->Option Value},s₁.heap.Ns b m->(hidT s₁.heap H).Ns b m:=fun {b m} ⟨o,es,ep,e,d,r⟩=>⟨o,es,ep,base_of e (noA e (fun ps z=>by rw[d] at z;cases z) (fun ps n z=>by rw[d] at z;cases z)),d,r⟩
  have hKb:K.In (hidT s₁.heap H):=fun b o e=>base_of (KX b o e) (by
   cases q:H b with
   | none=>rfl
   | some u=>
    rcases hA b u q with ⟨hm,_⟩ | ⟨rfl,z,_⟩
    . rw[kPT b hm] at e;cases e
    . rw[z] at e;cases e)
  have hBm:BmAt mg (hidT s₁.heap H):=by
   obtain⟨bm,ob,b1,b2,b3,b4,b5,b6⟩:=hbm
   exact⟨bm,ob,b1,b2,base_of b3 (noA b3 (fun ps z=>by rw[b6] at z;cases z) (fun ps n z=>by rw[b6] at z;cases z)),b4,b5,b6⟩
  have hM:Mod K mg (hidT s₁.heap H):=⟨hKb,nsK hns,⟨mb,nsK hb,hbb⟩,let ⟨mc,h1,h2⟩:=hlim;⟨mc,nsK h1,h2⟩⟩
  have e0:Env0 P w K mg (hidT s₁.heap H) callerA [] s₁ H:=⟨rfl,hM,fun b o e=>of_hidT e,Nat.le_of_eq (hidT_size _ _),trivial,fun b hb=>absurd (show b∈([]:List Addr) from hb) (by simp),hok,.of_eq hg⟩
  refine codeAny_mono ((F _ hKb (nsK hns) hBm).run callerA [] s₁ H ⟨[.ref a],[]⟩ [.ref a] [.ref a] _ _ hr e0 (hbind s₁ (.ref a)) (.cons rfl .nil) (hsp H hP hS)) fun r s' h=>?_
  cases r with
  | error e=>exact (hCX H e s' h).elim
  | ok fl=>
   cases fl with
   | next=>exact False.elim h
   | brk=>exact False.elim h
   | cont=>exact False.elim h
   | ret u=>
    obtain⟨v,H',os,bare,un,hok',r',q⟩:=h
    have q':v = .bl true:=q
    subst q'
    obtain rfl:u=Value.bool true:=r'
    have objP:∀b∈Ts,∃more,s'.heap.get? b=some { cls:=.none,data:=.fields (#[]++more) }:=fun b hm=>by
     obtain⟨more,hPn⟩:=un.tbls b _ (hP b hm)
     exact⟨more,hok' b _ hPn⟩
    have keep:∀b o,b∉Ts->s₁.heap.get? b=some o->s'.heap.get? b=some o:=fun b o hb e=>by
     cases q:H b with
     | none=>exact un.keep b o e q (by intro z;exact absurd (show b∈([]:List Addr) from z) (by simp)) (by simp)
     | some u=>
      rcases hA b u q with ⟨z,_⟩ | ⟨_,_,ob,xs,z⟩
      . exact absurd z hb
      . subst z
        have z2:=un.frzs b ob _ q
        obtain⟨e1,_⟩:=hok b _ q
        obtain⟨e2,_⟩:=hok' b _ z2
        rw[e] at e1;cases e1
        exact e2
    refine⟨rfl,⟨fun b o e=>?_,fun b o e=>?_⟩,os,bare⟩
    . by_cases hb:b∈Ts
      . obtain⟨more,ob⟩:=objP b hb
        rw[hT b hb] at e;cases e
        exact .inr (.inl ⟨hC b hb,rfl,#[],more,rfl,ob⟩)
      . exact .inl (keep b o hb e)
    . by_cases hb:b∈Ts
      . obtain⟨more,ob⟩:=objP b hb
        exact⟨_,ob⟩
      . exact⟨o,keep b o hb e⟩
 cases hk:K.lookup a with
 | some o=>
  have e:=KX a o hk
  rw[ha] at e
  cases e
  refine core (fun b=>if b∈Ts then some (.tbl #[]) else none) (fun b u z=>?_) (fun b hm=>if_pos hm) (.inr ⟨_,vs.toArray,_,hk,rfl,rfl,rfl,by rw[List.size_toArray,lenV];exact hl,by simpa using rv⟩) (fun b u z=>?_)
  all_goals
   have z':(if b∈Ts then some (HO.tbl #[]) else none)=some u:=z
   by_cases hb:b∈Ts
   . rw[if_pos hb] at z';cases z'
     first
      | exact .inl ⟨hb,rfl⟩
      | exact hT b hb
   . rw[if_neg hb] at z';cases z'
 | none=>
  refine core (fun b=>if b∈Ts then some (.tbl #[]) else if b=a then some (.frz { cls:=.type "list",data:=.seq vs.toArray } (.lst (ns.map V.int))) else none) (fun b u z=>?_) (fun b hm=>if_pos hm)
   (.inl (.inr ⟨{ cls:=.type "list",data:=.seq vs.toArray },by show (if a∈Ts then _ else if a=a then _ else _)=_;rw[if_neg npa,if_pos rfl]⟩)) (fun b u z=>?_)
  all_goals
   have z':(if b∈Ts then some (HO.tbl #[]) else if b=a then some (.frz { cls:=.type "list",data:=.seq vs.toArray } (.lst (ns.map V.int))) else none)=some u:=z
   by_cases hb:b∈Ts
   . rw[if_pos hb] at z';cases z'
     first
      | exact .inl ⟨hb,rfl⟩
      | exact hT b hb
   . rw[if_neg hb] at z'
     by_cases hba:b=a
     . rw[if_pos hba] at z';cases z'
       first
        | exact .inr ⟨hba,hk,_,_,rfl⟩
        | (subst hba;exact⟨ha,by rw[List.length_map];exact hl,vs,_,rv,ha⟩)
     . rw[if_neg hba] at z';cases z'
theorem walk_T2 {l:PySem.W.OpenLaw}{n k:Nat}{q:Program}{loose:List Str}{XP:(Str->Option Value)->Heap->Prop}{YP:World->Heap->Prop}{d:DefRec}{K:Params->PySem.W.Frag}{CX:CXT}{sp:PySem.W.Frag->Addr->Addr->Sp}{x tn t2:Str}
 (hn:l.most=some n)(hn2:n<=sizeLine)(hdf:d.params.defaults=[])(hr:Room k callerA)(hrec:∃dn,(recsOf q).find? (fun e=>e.name==tn)=some dn)(hrec2:∃dn,(recsOf q).find? (fun e=>e.name==t2)=some dn)
 (hY:∀(w:World)(h:Heap),YP w h->(K w.params).In h)
 (F:∀(w:World)(mg:Str->Option Value)(fa:Addr)(h:Heap),(K w.params).In h->h.Ns mainGlobals mg->mg d.name=some (.ref fa) ->
  ∃(fd:FuncData)(c PT c2 PQ:Addr),PySem.W.tabIn (K w.params) tn=some (c,PT)/\PySem.W.tabIn (K w.params) t2=some (c2,PQ)/\PySem.W.noTabs (K w.params)=true/\(∀(s:Shared)(u:Value),BindsTo s fd ⟨[u],[]⟩ [(x,u)]) /\
   ∀base:Heap,(K w.params).In base->base.Ns mainGlobals mg->BmAt mg base->FnOk l.prog w (K w.params) mg base CX k fa fd [x] (sp (K w.params) PT PQ))
 (hsp:∀(K:PySem.W.Frag)(PT PQ:Addr)(H:Hp)(a:Addr)(ns:List Int),ns.length<=n->H PT=some (.tbl #[])->H PQ=some (.tbl #[])->SqL K H a (ns.map V.int)->sp K PT PQ [.ref a] H (fun v _=>v = .bl true) fun _ _ _=>False)
 (hCX:∀(H:Hp)(s:Shared)(e:Value)(s':Shared),CX [] H s (fun _ _ _=>False) e s'->False) :
 PySem.W.WalkO q loose XP YP l.row.toRowW d [] (fun f vs=>PySem.call f vs):=by
 refine Att.attach_call hn hdf fun w s₀ s₁ mg mb fa o pm cd doc a vs ns G Y ho hd hcd hmg hobj hints hlen hg=>?_
 have KX:=hY w _ Y
 obtain⟨fd,c,PT,c2,PQ,htab,htab2,hnt,hb,hF⟩:=F w mg fa _ KX G.T.g hmg
 obtain⟨dn,hdn⟩:=hrec
 obtain⟨dn2,hdn2⟩:=hrec2
 obtain⟨C,hPT⟩:=PySem.W.tab_of G.T KX hdn htab
 obtain⟨C2,hPQ⟩:=PySem.W.tab_of G.T KX hdn2 htab2
 refine law_callTs (Ts:=[PT,PQ]) KX G.T.g G.T.b G.T.builtins G.T.nolimit hg hobj hints (Nat.le_trans hlen hn2) hr (fun b hm=>?_) (fun b hm=>?_) hnt G.T.bmain hF hb (fun H hP hS=>hsp _ PT PQ H a ns hlen (hP PT (by simp)) (hP PQ (by simp)) hS) fun H e s'=>hCX H s₁ e s'
 . rcases List.mem_cons.mp hm with rfl | hm
   . exact hPT
   . rw[List.mem_singleton.mp hm];exact hPQ
 . rcases List.mem_cons.mp hm with rfl | hm
   . exact (C.tab hPT).isCodeTable
   . rw[List.mem_singleton.mp hm];exact (C2.tab hPQ).isCodeTable
end L2
namespace L2
section
open PySem PySem.W PyProof.Rows
noncomputable def topRunT (p:Program)(w:World)(n₀:Nat)(ann:Option Value):Nat->SharedT->Thread->Option SharedT
 | 0,_,_=>none
 | n+1,s,t=>match through t with
  | true=>some s
  | false=>match Fast.tw6613529449190102663 n₀ ann t with
   | false=>none
   | true=>match Fast.tw10156331382660048174 (Fast.tw11892475500146522536 Fast.tw14364793385576792824) p w s t with
    | some (s',t')=>topRunT p w n₀ ann n s' t'
    | none=>none
theorem topRun_of {p:Program}{w:World}{n₀:Nat}{ann:Option Value}:∀{n:Nat}{s s':SharedT}{t:Thread},topRunT p w n₀ ann n s t=some s'->topRun treeTable p w n₀ ann n s.abs t=some s'.abs
 | 0,_,_,_,h=>by cases h
 | n+1,s,s',t,h=>by
  unfold topRunT at h
  rw[<-Fast.te6613529449190102663,<-Fast.te10156331382660048174,<-Fast.te11892475500146522536,<-Fast.te14364793385576792824] at h
  unfold topRun
  cases he:through t with
  | true=>rw[he] at h;cases h;rfl
  | false=>
   rw[he] at h
   cases hk:stepOk n₀ ann t with
   | false=>rw[hk] at h;cases h
   | true=>
    rw[hk] at h
    cases hs:stepT (denote treeTable) p w s t with
    | none=>rw[hs] at h;cases h
    | some r=>obtain⟨s₂,t₂⟩:=r;rw[hs] at h;rw[stepT_spec hs];exact topRun_of h
def bt:List Obj->Nat->BT->BT
 | [],_,t=>t
 | o::l,i,t=>bt l (i+1) (t.ins i o)
noncomputable def bT (P:Params):BT:=bt (boot_heap P).objs.toList 0 .nil
noncomputable def bS (w:World)(os:OsState):SharedT:=⟨bT w.params,(boot_heap w.params).objs.size,(boot_heap w.params).life,Array.mk [],boot_drawn,boot_toks,os⟩
theorem bA (w:World)(os:OsState):(bS w os).abs=⟨boot_heap w.params,Array.mk [],boot_drawn,boot_toks,os⟩:=by kernel_rfl
noncomputable abbrev runT (p:Program)(N:Nat)(w:World)(os:OsState):Option SharedT:=topRunT p w (boot_heap w.params).objs.size ((boot_heap w.params).nsMap mainGlobals "__annotations__") N (bS w os) (topStub p)
abbrev chkT (p:Program)(h h':Heap)(s:Shared):Bool:=staticsOk (importedModules p.main.body) h h' && namesBound p h' && gensDone s && laidKept h h'
theorem left_of {p q:Program}{loose:List Str}{Xt:Shared->Bool}{α:Type}{Yf:Shared->α}{Ya:World->α}{N:Nat}(e:opening p=plainProg p.main.scope.names)(hN:Nat.ble 600 N=true)(f:∀s,fenceModules? p s=some s)
 (h:∀(w:World)(os:OsState),(runT p N w os).map (fun s=>(chkT p (boot_heap w.params) s.abs.heap s.abs,Fast.tw4187177175401517315 q loose (importedModules p.main.body) Xt true s.abs,Yf s.abs))=some (true,openGood q loose,Ya w)):LeftO p q loose Xt Yf Ya N:=by
 intro w
 obtain⟨⟨h0,gs,d,k,os⟩,e1,e2⟩:=Option.map_eq_some_iff.mp (boot_open e hN f w)
 obtain⟨rfl,rfl,rfl,rfl⟩:h0=boot_heap w.params/\gs=Array.mk []/\d=boot_drawn/\k=boot_toks:=by simpa using e2
 obtain⟨s,r,a⟩:=Option.map_eq_some_iff.mp (h w os)
 obtain⟨b,a⟩:=Prod.mk.inj a
 rw[<-Fast.te4187177175401517315] at a
 have y:=topRun_of r
 rw[bA] at y
 unfold openEnds
 rw[e1]
 show (topFrom treeTable p w N _).map _=_
 unfold topFrom
 have z:((boot_heap w.params).isNs mainGlobals && (Array.mk []:Array GenState).size==0)=true:=by kernel_rfl
 dsimp only
 rw[z]
 dsimp only
 rw[y]
 show Option.map _ (match chkT p (boot_heap w.params) s.abs.heap s.abs with | true=>some s.abs | false=>none)=_
 rw[b]
 exact congrArg some a
end
end L2
namespace K36
open PySem L2 WM
def top (i:Nat):Stmt:=PySem.Challenge.pw_labelways_k36_least_orders_told.main.body.getD i (.Pass ⟨0,0,0,0⟩)
abbrev sTape:Stmt:=top 34
abbrev sDraw:Stmt:=top 35
abbrev sSmall:Stmt:=top 36
abbrev sWeb:Stmt:=top 37
abbrev sTies:Stmt:=top 15
abbrev sNear:Stmt:=top 19
abbrev sFrom:Stmt:=top 18
abbrev sLens:Stmt:=top 17
abbrev sBwr:Stmt:=top 20
abbrev sCf:Stmt:=top 23
abbrev sSf:Stmt:=top 24
abbrev sSn:Stmt:=top 25
abbrev sRtm:Stmt:=top 26
abbrev sAlls:Stmt:=top 27
abbrev sLpl:Stmt:=top 28
abbrev sBwo:Stmt:=top 29
abbrev sLord:Stmt:=top 30
abbrev sLnum:Stmt:=top 31
abbrev sBest:Stmt:=top 32
abbrev sAdd:Stmt:=top 38
abbrev sLes:Stmt:=top 39
abbrev sFar:Stmt:=top 40
abbrev sOn:Stmt:=top 41
abbrev sLio:Stmt:=top 42
abbrev sMask:Stmt:=top 43
abbrev sBrt:Stmt:=top 44
abbrev sInal:Stmt:=top 45
abbrev sLlst:Stmt:=top 46
abbrev sStep:Stmt:=top 47
abbrev sLfau:Stmt:=top 48
abbrev sAllo:Stmt:=top 49
abbrev sRefu:Stmt:=top 50
abbrev sLaw:Stmt:=top 51
def TapeP (H:Hp)(t p:Addr)(N:Nat):Prop:=∃(ns:List Int)(spot rest:Int),H t=some (.lst [.ref p,.int spot,.int rest])/\H p=some (.lst (ns.map V.int))/\p≠t/\0<=spot/\spot<=N/\0<=rest/\ns.length<=63
def TapeAt (H:Hp)(t:Addr)(N:Nat):Prop:=∃p:Addr,TapeP H t p N
theorem TapeAt.mono {H:Hp}{t:Addr}{N M:Nat}(h:TapeAt H t N)(l:N<=M):TapeAt H t M:=by
 obtain⟨p,ns,spot,rest,a,b,c,d,e,f⟩:=h
 exact⟨p,ns,spot,rest,a,b,c,d,by omega,f⟩
def Sm (t:Addr)(H H':Hp):Prop:=∀b o,b≠t->H b=some o->H' b=some o
theorem Sm.trans {t:Addr}{H H1 H2:Hp}(a:Sm t H H1)(b:Sm t H1 H2):Sm t H H2:=fun c o n e=>b c o n (a c o n e)
theorem Sm.of {t:Addr}{H H':Hp}(h:Same H H'):Sm t H H':=fun b o _ e=>h b o e
theorem Sm.laid {t l:Addr}{H:Hp}{o:HO}(h:H l=none):Sm t H (upd H l o):=fun b u _ e=>by rw[upd_ne (ne_of_none e h)];exact e
theorem Sm.chg {t l:Addr}{H H':Hp}{o:HO}(s:Sm t H H')(h:H l=none):Sm t H (upd H' l o):=fun b u n e=>by rw[upd_ne (ne_of_none e h)];exact s b u n e
theorem same_laid {l:Addr}{H:Hp}{o:HO}(h:H l=none):Same H (upd H l o):=fun b u e=>by rw[upd_ne (ne_of_none e h)];exact e
theorem same_chg {l:Addr}{H H':Hp}{o:HO}(s:Same H H')(h:H l=none):Same H (upd H' l o):=fun b u e=>by rw[upd_ne (ne_of_none e h)];exact s b u e
theorem TapeAt.keep {H H':Hp}{t:Addr}{N:Nat}(h:TapeAt H t N)(k:Same H H'):TapeAt H' t N:=by
 obtain⟨p,ns,spot,rest,a,b,c⟩:=h
 exact⟨p,ns,spot,rest,k _ _ a,k _ _ b,c⟩
theorem TapeAt.laid {H:Hp}{t l:Addr}{N:Nat}{o:HO}(h:TapeAt H t N)(hl:H l=none):TapeAt (upd H l o) t N:=h.keep (same_laid hl)
theorem TapeAt.ne {H:Hp}{t b:Addr}{N:Nat}(h:TapeAt H t N)(hb:H b=none):b≠t:=by
 obtain⟨p,ns,spot,rest,a,_⟩:=h
 exact (ne_of_none a hb).symm
theorem TapeAt.chg {H:Hp}{t l:Addr}{N:Nat}{o u:HO}(h:TapeAt H t N)(hl:H l=some u)(hu:∀xs,u ≠ .lst xs):TapeAt (upd H l o) t N:=by
 obtain⟨p,ns,spot,rest,a,b,c⟩:=h
 exact⟨p,ns,spot,rest,by rw[upd_ne (ne_of a hl fun z=>hu _ z.symm)];exact a,by rw[upd_ne (ne_of b hl fun z=>hu _ z.symm)];exact b,c⟩
def spDrawP:Sp:=fun vs H Q _=>∃(t p:Addr)(N:Nat)(many:Int),vs=[.ref t,.int many]/\TapeP H t p N/\N<1000000/\0<many/\many<1000000 /\
 ∀(r:Int)(H':Hp),0<=r->r<many->TapeP H' t p (N+1)->(∀b,b≠t->H' b=H b)->Q (.int r) H'
def spDraw:Sp:=fun vs H Q _=>∃(t:Addr)(N:Nat)(many:Int),vs=[.ref t,.int many]/\TapeAt H t N/\N<1000000/\0<many/\many<1000000 /\
 ∀(r:Int)(H':Hp),0<=r->r<many->TapeAt H' t (N+1)->(∀b,b≠t->H' b=H b)->Q (.int r) H'
def spTape (K:PySem.W.Frag):Sp:=fun vs H Q _=>∃(a:Addr)(ns:List Int),vs=[.ref a]/\SqL K H a (ns.map V.int)/\ns.length<=63/\∀(t:Addr)(H':Hp),H t=none->TapeAt H' t 0->Same H H'->Q (.ref t) H'
section
variable {P:Program}{w:World}{K:PySem.W.Frag}{mg:Str->Option Value}{base:Heap}
theorem scTape:FnScope ["_law_script"] ["_law_script"] (defScope sTape):=⟨rfl,rfl,rfl,by decide +kernel,rfl,by decide +kernel,by decide +kernel⟩
theorem ok_tape {f:Addr}{fd:FuncData}(F:Fun K "_law_tape" "_law_tape" sTape f fd):FnOk P w K mg base CX0 1 f fd ["_law_script"] (spTape K):=by
 refine F.ok scTape (fun vs H Q E h=>?_) (fun cdv A outer s H vs Q E hr h=>?_)
 . obtain⟨a,ns,rfl,_⟩:=h
   rfl
 . obtain⟨a,ns,rfl,hS,hl,k⟩:=h
   refine⟨_,pss_one (ps_ret (pe_lst (pa_cons (pe_slice sl_list (pv 0) po_none (po_some pe_int)) (pa_int (pa_int pa_nil))))),?_⟩
   refine⟨_,rfl,_,rfl,a,_,rfl,hS,fun p hp=>⟨by show 3<=sizeLine;decide,fun t ht=>?_⟩⟩
   have npt:p≠t:=fun e=>by rw[e,upd_same] at ht;cases ht
   have e1:cutV (ns.map V.int) none (some 63)=(ns.take 63).map V.int:=by
    unfold cutV
    rw[HT.sIx_none,List.drop_zero,Nat.sub_zero,List.length_map,show (63:Int)=((63:Nat):Int) from rfl,HT.sIx_nat,List.map_take]
    rw[show min 63 ns.length=ns.length by omega,List.take_of_length_le (by rw[List.length_map];exact Nat.le_refl _),List.take_of_length_le (by rw[List.length_map];exact hl)]
   have ht0:H t=none:=by rw[upd_ne npt.symm] at ht;exact ht
   refine k t _ ht0 ⟨p,ns.take 63,0,0,upd_same,?_,npt,Int.le_refl _,Int.le_refl _,Int.le_refl _,by rw[List.length_take];omega⟩ ?_
   . rw[upd_ne npt,upd_same,e1]
   . exact same_chg (same_laid hp) ht0
theorem scDraw:FnScope ["_law_tape_here", "_law_many", "_law_found", "_law_spot", "_law_cell", "_law_mixed"] ["_law_tape_here", "_law_many"] (defScope sDraw):=⟨rfl,rfl,rfl,by decide +kernel,rfl,by decide +kernel,by decide +kernel⟩
theorem mod_in {a m:Int}(h:0<m):0<=a%m/\a%m<m:=⟨Int.emod_nonneg _ (by omega),Int.emod_lt_of_pos _ h⟩
theorem ok_drawP {f:Addr}{fd:FuncData}(F:Fun K "_law_draw" "_law_draw" sDraw f fd) (mLen:mg "len" = none):FnOk P w K mg base CX0 1 f fd ["_law_tape_here", "_law_many"] spDrawP:=by
 refine F.ok scDraw (fun vs H Q E h=>?_) (fun cdv A outer s H vs Q E hr h=>?_)
 . obtain⟨t,p,N,many,rfl,_⟩:=h
   rfl
 . obtain⟨t,p,N,many,rfl,T,hN,hm0,hm1,k⟩:=h
   obtain⟨ns,spot,rest,ht,hp,hne,hs0,hs1,hr0,hl⟩:=T
   refine⟨_,pss_cons (ps_if (pt_cmpR op_gt (pe_ix ix_list (pv 0) pe_int (fun _ _=>rfl)) pe_int (nomark _))
    (pss_cons (ps_set (i:=2) scDraw.nd rfl (Or.inl rfl) (pe_op op_mod (pe_ix ix_list (pv 0) pe_int (fun _ _=>rfl)) (pv 1)))
    (pss_cons (ps_asg (pe_op op_fdiv (pe_ix ix_list (pv 0) pe_int (fun _ _=>rfl)) (pv 1)) (pg_sub (pv 0) pe_int set_list))
    (pss_one (ps_ret (pv 2))))) pss_nil)
    (pss_cons (ps_set (i:=3) scDraw.nd rfl (Or.inl rfl) (pe_ix ix_list (pv 0) pe_int (fun _ _=>rfl)))
    (pss_cons (ps_asg (pe_op op_add (pv 3) pe_int) (pg_sub (pv 0) pe_int set_list))
    (pss_cons (ps_set (i:=4) scDraw.nd rfl (Or.inl rfl) (pe_ifExp (pt_cmpR op_gt (pe_callB call_len_seq (by rfl) mLen PySem.boot_len (pa_cons (pe_ix ix_list (pv 0) pe_int (fun _ _=>rfl)) pa_nil)) pe_int (nomark _))
     (pe_ix ix_list (pe_ix ix_list (pv 0) pe_int (fun _ _=>rfl)) (pe_op op_mod (pv 3) (pe_callB call_len_seq (by rfl) mLen PySem.boot_len (pa_cons (pe_ix ix_list (pv 0) pe_int (fun _ _=>rfl)) pa_nil))) (fun _ _=>rfl)) pe_int))
    (pss_cons (ps_if (pw_and (pt_cmpR op_ge (pv 4) (pe_op op_pow pe_int pe_int) (nomark _)) (pw_and1 (pt_cmpR op_lt (pv 3) (pe_callB call_len_seq (by rfl) mLen PySem.boot_len (pa_cons (pe_ix ix_list (pv 0) pe_int (fun _ _=>rfl)) pa_nil)) (nomark _)))).pt
     (pss_cons (ps_asg (pe_op op_fdiv (pv 4) (pv 1)) (pg_sub (pv 0) pe_int set_list)) (pss_one (ps_ret (pe_op op_mod (pv 4) (pv 1))))) pss_nil)
    (pss_cons (ps_set (i:=5) scDraw.nd rfl (Or.inl rfl) (pe_op op_mod (pe_op op_mul (pe_op op_add (pe_op op_mod (pv 4) pe_int) pe_int) (pe_op op_add pe_int (pe_op op_mul pe_int (pv 3)))) pe_int))
    (pss_one (ps_ret (pe_op op_mod (pe_op op_fdiv (pe_op op_mod (pe_op op_mul (pe_op op_add (pv 5) (pe_op op_mul (pe_op op_mul pe_int (pv 3)) (pv 3))) pe_int) pe_int) pe_int) (pv 1))))))))),?_⟩
   have cd:CDiv 0 many:=⟨hm0,by omega⟩
   refine⟨_,rfl,t,_,_,_,rfl,rfl,SqL.of ht,rfl,_,_,rfl,rfl,_,rfl,?_⟩
   refine ite2 (fun hc=>?_) (fun hc=>?_)
   . have hpos:0<rest:=of_decide_eq_true hc
     refine⟨_,rfl,t,_,_,_,rfl,rfl,SqL.of ht,rfl,_,rfl,_,_,rfl,rfl,hm0,?_⟩
     refine⟨_,rfl,t,_,_,_,rfl,rfl,SqL.of ht,rfl,_,rfl,_,_,rfl,rfl,cd,?_⟩
     refine⟨_,rfl,t,_,_,2,rfl,rfl,ht,rfl,?_⟩
     refine⟨_,rfl,?_⟩
     refine k _ _ (mod_in hm0).1 (mod_in hm0).2 ⟨ns,spot,rest/many,upd_same,by rw[upd_ne hne];exact hp,hne,hs0,by omega,Int.ediv_nonneg hr0 (by omega),hl⟩ fun b hb=>upd_ne hb
   . -- spot=tape[1];tape[1]=spot+1
     refine⟨_,rfl,t,_,_,_,rfl,rfl,SqL.of ht,rfl,?_⟩
     refine⟨_,rfl,_,_,rfl,rfl,_,rfl,t,_,_,1,rfl,rfl,ht,rfl,?_⟩
     have ht1:(upd H t (.lst [.ref p,.int (spot+1),.int rest])) t=some (.lst [.ref p,.int (spot+1),.int rest]):=upd_same
     have hp1:(upd H t (.lst [.ref p,.int (spot+1),.int rest])) p=some (.lst (ns.map V.int)):=by rw[upd_ne hne];exact hp
     have ex:0<((ns.map V.int).length:Int)->∃c,atI (ns.map V.int) (spot%((ns.map V.int).length:Int))=some (.int c):=fun h=>by
      have hb:=mod_in (a:=spot) h
      obtain⟨j,hj⟩:=Int.eq_ofNat_of_zero_le hb.1
      have hlt:j<ns.length:=by
       have h2:=hb.2
       rw[hj,List.length_map] at h2
       omega
      refine⟨ns[j],?_⟩
      rw[hj]
      exact atI_nat (by simp[hlt])
     refine⟨_,rfl,t,_,_,_,rfl,rfl,SqL.of ht1,rfl,p,_,rfl,.inl (SqL.of hp1),_,_,rfl,rfl,_,rfl,?_⟩
     refine ite2 (fun h2=>?a) (fun h2=>?b)
     case' a=>
      obtain⟨c,hc⟩:=ex (of_decide_eq_true h2)
      refine⟨_,rfl,t,_,_,_,rfl,rfl,SqL.of ht1,rfl,_,rfl,_,rfl,t,_,_,_,rfl,rfl,SqL.of ht1,rfl,p,_,rfl,.inl (SqL.of hp1),_,_,rfl,rfl,of_decide_eq_true h2,p,_,_,_,rfl,rfl,SqL.of hp1,hc,?_⟩
     all_goals
      refine⟨_,rfl,_,_,rfl,rfl,⟨by decide,by decide,by decide⟩,_,_,rfl,rfl,_,rfl,?_⟩
      refine ite2 (fun h3=>?_) (fun h3=>?_)
     all_goals first
      | (refine⟨_,rfl,_,rfl,t,_,_,_,rfl,rfl,SqL.of ht1,rfl,p,_,rfl,.inl (SqL.of hp1),_,_,rfl,rfl,_,rfl,?_⟩;refine ite2 (fun h4=>?_) (fun h4=>?_))
      | refine iteF ?_
     all_goals first
      | (refine⟨_,rfl,_,rfl,_,_,rfl,rfl,⟨hm0,by omega⟩,_,rfl,t,_,_,2,rfl,rfl,ht1,rfl,?_⟩
         refine⟨_,rfl,_,rfl,_,_,rfl,rfl,hm0,?_⟩
         refine k _ _ (mod_in hm0).1 (mod_in hm0).2 ⟨ns,spot+1,_,upd_same,by rw[upd_ne hne];exact hp1,hne,by omega,by omega,Int.ediv_nonneg (Int.le_trans (show (0:Int)<=10 ^ (18:Int).toNat by decide) (of_decide_eq_true h3)) (by omega),hl⟩ fun b hb=>by rw[upd_ne hb,upd_ne hb])
      | (refine⟨_,rfl,_,_,rfl,rfl,(by dsimp only;decide),_,_,rfl,rfl,_,rfl,_,_,rfl,rfl,.inl ⟨by decide,by decide⟩,_,_,rfl,rfl,_,_,rfl,rfl,.inl ⟨by omega,by omega⟩,_,_,rfl,rfl,(by dsimp only;decide),?_⟩
         refine⟨_,rfl,_,rfl,_,_,rfl,rfl,.inl ⟨by decide,by decide⟩,_,rfl,_,_,rfl,rfl,.inr ⟨by omega,by omega⟩,_,_,rfl,rfl,_,_,rfl,rfl,.inr ⟨by decide,by decide⟩,_,_,rfl,rfl,(by dsimp only;decide),_,_,rfl,rfl,⟨by decide,by decide⟩,_,rfl,_,_,rfl,rfl,hm0,?_⟩
         refine k _ _ (mod_in hm0).1 (mod_in hm0).2 ⟨ns,spot+1,rest,ht1,hp1,hne,by omega,by omega,hr0,hl⟩ fun b hb=>upd_ne hb)
theorem ok_draw {f:Addr}{fd:FuncData}(F:Fun K "_law_draw" "_law_draw" sDraw f fd) (mLen:mg "len" = none):FnOk P w K mg base CX0 1 f fd ["_law_tape_here", "_law_many"] spDraw:=
 (ok_drawP F mLen).imp fun vs H Q E ⟨t,N,many,e,⟨p,T⟩,a,b,c,k⟩=>⟨t,p,N,many,e,T,a,b,c,fun r H' h0 h1 T' he=>k r H' h0 h1 ⟨p,T'⟩ he⟩
end
end K36
namespace K36
open PySem L2 WM
theorem menu_at {L:List Int}{r:Int}(h0:0<=r)(h1:r<L.length):∃n,n∈L/\atI (L.map V.int) r=some (.int n):=by
 obtain⟨j,rfl⟩:=Int.eq_ofNat_of_zero_le h0
 have hj:j<L.length:=by omega
 exact⟨L[j],List.getElem_mem hj,atI_nat (by simp[hj])⟩
def spN:Sp:=fun vs H Q _=>∃(t:Addr)(N:Nat),vs=[.ref t]/\TapeAt H t N/\N<900000/\∀(n:Int)(H':Hp),1<=n->n<=8->TapeAt H' t (N+1)->Sm t H H'->Q (.int n) H'
def WebAt (H:Hp)(wa:Addr)(n:Int)(ts:List T3):Prop:=∃(ta:Addr)(tys:List V),H wa=some (.tup [.int n,.ref ta])/\H ta=some (.tup tys)/\TupsAre H tys (ts.map tl)/\GW n ts
theorem WebAt.keepT {H H':Hp}{wa:Addr}{n:Int}{ts:List T3}(h:WebAt H wa n ts)(k:∀b ys,H b=some (.tup ys)->H' b=some (.tup ys)):WebAt H' wa n ts:=by
 obtain⟨ta,tys,a,b,c,d⟩:=h
 exact⟨ta,tys,k _ _ a,k _ _ b,c.keep k,d⟩
theorem WebAt.keep {H H':Hp}{wa:Addr}{n:Int}{ts:List T3}(h:WebAt H wa n ts)(k:Same H H'):WebAt H' wa n ts:=h.keepT fun b _ e=>k b _ e
def spWeb:Sp:=fun vs H Q _=>∃(t:Addr)(N:Nat)(n:Int),vs=[.ref t,.int n]/\TapeAt H t N/\N<900000/\1<=n/\n<=24 /\
 ∀(wa:Addr)(ts:List T3)(H':Hp),H wa=none->WebAt H' wa n ts->TapeAt H' t (N+200)->Sm t H H'->Q (.ref wa) H'
def JD (n:Int)(kvs:List (List Key×V)):Prop:=(∀kv∈kvs,∃a b l:Int,kv=([Sum.inl a,Sum.inl b],V.int l)/\0<=a/\a<b/\b<n/\1<=l/\l<=99)/\(kvs.map (·.1)).Nodup
theorem JD.nil (n:Int):JD n []:=⟨fun _ h=>by simp at h,List.nodup_nil⟩
theorem JD.put {n:Int}{kvs:List (List Key×V)}(h:JD n kvs){a b l:Int}(h0:0<=a)(h1:a<b)(h2:b<n)(h3:1<=l)(h4:l<=99):JD n (putK kvs [Sum.inl a,Sum.inl b] (.int l)):=by
 cases e:valV kvs [Sum.inl a,Sum.inl b] with
 | none=>
  refine⟨fun kv hkv=>?_,nd_putK _ h.2 e⟩
  rw[putK_new _ e] at hkv
  rcases List.mem_append.mp hkv with q | q
  . exact h.1 kv q
  . rw[List.mem_singleton.mp q];exact⟨a,b,l,rfl,h0,h1,h2,h3,h4⟩
 | some v=>
  have ha:(kvs.any fun kv=>decide (kv.1=[Sum.inl a,Sum.inl b]))=true:=by rw[valV_any,e];rfl
  unfold putK
  rw[if_pos ha]
  refine⟨fun kv hkv=>?_,?_⟩
  . obtain⟨q,hq,e2⟩:=List.mem_map.mp hkv
    by_cases hk:q.1=[Sum.inl a,Sum.inl b]
    . rw[if_pos hk,hk] at e2;rw[<-e2];exact⟨a,b,l,rfl,h0,h1,h2,h3,h4⟩
    . rw[if_neg hk] at e2;rw[<-e2];exact h.1 q hq
  . have e3:(kvs.map fun kv=>if kv.1=[Sum.inl a,Sum.inl b] then (kv.1,V.int l) else kv).map (·.1)=kvs.map (·.1):=by
     rw[List.map_map]
     refine List.map_congr_left fun kv _=>?_
     show (if kv.1=[Sum.inl a,Sum.inl b] then (kv.1,V.int l) else kv).1=kv.1
     split <;> rfl
    rw[e3];exact h.2
def unk:Key->Int
 | .inl i=>i
 | .inr _=>0
def keysI (kvs:List (List Key×V)):List (List Int):=kvs.map fun kv=>kv.1.map unk
theorem JD.keys {n:Int}{kvs:List (List Key×V)}(h:JD n kvs):kvs.map (·.1)=(keysI kvs).map (List.map Sum.inl):=by
 unfold keysI
 rw[List.map_map]
 refine List.map_congr_left fun kv hkv=>?_
 obtain⟨a,b,l,e,_⟩:=h.1 kv hkv
 rw[e];rfl
theorem JD.ne {n:Int}{kvs:List (List Key×V)}(h:JD n kvs):∀k∈keysI kvs,k≠[]:=fun k hk=>by
 obtain⟨kv,hkv,e⟩:=List.mem_map.mp hk
 obtain⟨a,b,l,e2,_⟩:=h.1 kv hkv
 rw[<-e,e2];simp[List.map]
theorem JD.nd {n:Int}{kvs:List (List Key×V)}(h:JD n kvs):(keysI kvs).Nodup:=by
 have e:=h.2
 rw[h.keys] at e
 rw[List.Nodup,List.pairwise_map] at e
 exact e.imp fun h e'=>h (by rw[e'])
theorem JD.val {n:Int}{kvs:List (List Key×V)}(h:JD n kvs){k:List Int}(hk:k∈keysI kvs):∃a b l,k=[a,b]/\valV kvs [Sum.inl a,Sum.inl b]=some (.int l)/\0<=a/\a<b/\b<n/\1<=l/\l<=99:=by
 obtain⟨kv,hkv,e⟩:=List.mem_map.mp hk
 obtain⟨a,b,l,e2,h0,h1,h2,h3,h4⟩:=h.1 kv hkv
 have ek:k=[a,b]:=by rw[<-e,e2];rfl
 have hm:(kvs.any fun kv=>decide (kv.1=[Sum.inl a,Sum.inl b]))=true:=List.any_eq_true.mpr ⟨kv,hkv,decide_eq_true (by rw[e2])⟩
 rw[valV_any] at hm
 cases hv:valV kvs [Sum.inl a,Sum.inl b] with
 | none=>rw[hv] at hm;cases hm
 | some v=>
  have hv0:=hv
  unfold valV at hv
  cases hf:kvs.find? fun kv=>decide (kv.1=[Sum.inl a,Sum.inl b]) with
  | none=>rw[hf] at hv;cases hv
  | some q=>
   rw[hf] at hv
   obtain⟨a',b',l',e3,_,_,_,g3,g4⟩:=h.1 q (List.mem_of_find?_eq_some hf)
   have ev:v = .int l':=by rw[e3] at hv;exact (Option.some.inj hv).symm
   exact⟨a,b,l',ek,by rw[hv0,ev],h0,h1,h2,g3,g4⟩
section
variable {P:Program}{w:World}{K:PySem.W.Frag}{mg:Str->Option Value}{base:Heap}
theorem scN:FnScope ["_law_tape_here"] ["_law_tape_here"] (defScope sSmall):=⟨rfl,rfl,rfl,by decide +kernel,rfl,by decide +kernel,by decide +kernel⟩
theorem ok_n {f fD:Addr}{fd fdD:FuncData}(F:Fun K "_law_small" "_law_small" sSmall f fd) (FD:Fun K "_law_draw" "_law_draw" sDraw fD fdD) (bD:Binds K fdD ["_law_tape_here", "_law_many"] []) (mD:mg "_law_draw" = some (.ref fD)) (mLen:mg "len" = none) :
 FnOk P w K mg base CX0 2 f fd ["_law_tape_here"] spN:=by
 have GD:FnOk P w K mg base CX0 1 fD fdD ["_law_tape_here", "_law_many"] spDraw:=ok_draw FD mLen
 refine F.ok scN (fun vs H Q E h=>?_) (fun cdv A outer s H vs Q E hr h=>?_)
 . obtain⟨t,N,rfl,_⟩:=h
   rfl
 . obtain⟨t,N,rfl,T,hN,k⟩:=h
   obtain⟨es,q1,q2,j3,q3,q4,p1,p2,p3,hb,hes⟩:∃es q1 q2 j3 q3 q4 p1 p2 p3,defBody sSmall=[.Return (some (.Subscript (.List es p1) (.Call (.Name "_law_draw" q1) [.Name "_law_tape_here" q2,.Constant (.int 12) j3 q3] [] q4) p2)) p3] /\
    LitInts es [1,2,3,4,5,6,4,3,5,6,7,8]:=⟨_,_,_,_,_,_,_,_,_,rfl,by repeat constructor⟩
   rw[hb]
   refine⟨_,pss_one (ps_ret (pe_ix ix_list (pe_lst (pa_lits hes))
    (pe_call GD hr rfl mD FD.kp bD .nil pass0 (pa_cons (pv 0) (pa_cons pe_int pa_nil))) (fun _ _=>rfl))),?_⟩
   refine⟨by show 12<=sizeLine;decide,fun l hl=>?_⟩
   refine⟨_,rfl,t,N,12,rfl,T.laid hl,by omega,by decide,by decide,fun r H' h0 h1 T' he=>?_⟩
   have nlt:l≠t:=T.ne hl
   obtain⟨n,hn,ha⟩:=menu_at (L:=[1,2,3,4,5,6,4,3,5,6,7,8]) h0 h1
   have hb:1<=n/\n<=8:=by
    have:∀m∈([1,2,3,4,5,6,4,3,5,6,7,8]:List Int),1<=m/\m<=8:=by decide
    exact this n hn
   refine⟨l,_,_,_,rfl,rfl,SqL.of (by rw[he l nlt];exact upd_same),ha,?_⟩
   refine k n H' hb.1 hb.2 T' fun b o hb e=>?_
   rw[he b hb,upd_ne (ne_of_none e hl)]
   exact e
end
section
variable {P:Program}{w:World}{K:PySem.W.Frag}{mg:Str->Option Value}{base:Heap}
structure WI (H:Hp)(t d la:Addr)(n:Int)(N m:Nat)(H2:Hp):Prop where
 sm:Sm t H H2
 tp:TapeAt H2 t N
 dc:∃kvs,H2 d=some (.dT kvs)/\JD n kvs/\kvs.length<=m
 lg:∃l0 l1 l2:Int,H2 la=some (.lst [.int l0,.int l1,.int l2])/\(∀l∈[l0,l1,l2],1<=l/\l<=99)
theorem WI.draw {H H2 H3:Hp}{t d la:Addr}{n:Int}{N m:Nat}(h:WI H t d la n N m H2)(hd:d≠t)(hl:la≠t)(T:TapeAt H3 t (N+1))(he:∀b,b≠t->H3 b=H2 b):WI H t d la n (N+1) m H3:=by
 refine⟨fun b o nb e=>by rw[he b nb];exact h.sm b o nb e,T,?_,?_⟩
 . rw[he d hd];exact h.dc
 . rw[he la hl];exact h.lg
theorem WI.laid {H H2:Hp}{t d la l:Addr}{n:Int}{N m:Nat}{o:HO}(h:WI H t d la n N m H2)(hl:H2 l=none):WI H t d la n N m (upd H2 l o):=by
 obtain⟨kvs,a,b⟩:=h.dc
 obtain⟨l0,l1,l2,c,e⟩:=h.lg
 exact⟨h.sm.trans (Sm.laid hl),h.tp.laid hl,⟨kvs,by rw[upd_ne (ne_of_none a hl)];exact a,b⟩,⟨l0,l1,l2,by rw[upd_ne (ne_of_none c hl)];exact c,e⟩⟩
theorem WI.put {H H2:Hp}{t d la:Addr}{n:Int}{N m:Nat}{kvs:List (List Key×V)}(h:WI H t d la n N m H2)(hd0:H d=none)(hd:H2 d=some (.dT kvs)){a b l:Int}(h0:0<=a)(h1:a<b)(h2:b<n)(h3:1<=l)(h4:l<=99) :
 WI H t d la n N (m+1) (upd H2 d (.dT (putK kvs [Sum.inl a,Sum.inl b] (.int l)))):=by
 obtain⟨kvs',e,j,hm⟩:=h.dc
 rw[hd] at e
 cases e
 obtain⟨l0,l1,l2,c,e⟩:=h.lg
 refine⟨h.sm.chg hd0,h.tp.chg hd (by intro xs z;cases z),⟨_,upd_same,j.put h0 h1 h2 h3 h4,?_⟩,⟨l0,l1,l2,by rw[upd_ne (ne_of c hd (by intro z;cases z))];exact c,e⟩⟩
 have:=length_putK kvs [Sum.inl a,Sum.inl b] (V.int l)
 omega
theorem WI.up {H H2:Hp}{t d la:Addr}{n:Int}{N m N' m':Nat}(h:WI H t d la n N m H2)(hN:N<=N')(hm:m<=m'):WI H t d la n N' m' H2:=by
 obtain⟨kvs,a,b,c⟩:=h.dc
 exact⟨h.sm,h.tp.mono hN,⟨kvs,a,b,by omega⟩,h.lg⟩
theorem at3 {l0 l1 l2 r:Int}(h:∀l∈[l0,l1,l2],1<=l/\l<=99)(h0:0<=r)(h1:r<3):∃l,atI [V.int l0,V.int l1,V.int l2] r=some (.int l)/\1<=l/\l<=99:=by
 obtain⟨l,hl,ha⟩:=menu_at (L:=[l0,l1,l2]) h0 h1
 exact⟨l,ha,h l hl⟩
theorem small_line {n:Nat}(h:n<=100000):n<sizeLine:=Nat.lt_of_le_of_lt h (by decide)
theorem ties_of {n:Int}{kvs:List (List Key×V)}{ms:List (List Int)}(h:JD n kvs)(hp:ms.Perm (keysI kvs))(hl:kvs.length<64)(hn:1<=n)(hn2:n<=24){ts:List T3}(e:ts.map (fun t=>[t.1,t.2.1])=ms)(hr:∀t∈ts,0<=t.1/\t.1<t.2.1/\t.2.1<n/\1<=t.2.2/\t.2.2<=99):GW n ts:=by
 have hlen:ts.length=kvs.length:=by
  have:=hp.length_eq
  rw[<-e] at this
  simpa [keysI] using this
 refine⟨hn,hn2,by omega,hr,?_⟩
 have nd:(ts.map fun t:T3=>[t.1,t.2.1]).Nodup:=by rw[e];exact hp.nodup_iff.mpr h.nd
 rw[List.Nodup,List.pairwise_map] at nd
 exact nd.imp fun hne hc=>hne (by rw[hc.1,hc.2])
theorem scWeb:FnScope ["_law_tape_here", "_law_n", "_law_longs", "_law_joined", "_law_b", "_law_k", "_law_a"] ["_law_tape_here", "_law_n"] (defScope sWeb):=⟨rfl,rfl,rfl,by decide +kernel,rfl,by decide +kernel,by decide +kernel⟩
theorem ok_web {f fD:Addr}{fd fdD:FuncData}(F:Fun K "_law_web" "_law_web" sWeb f fd) (FD:Fun K "_law_draw" "_law_draw" sDraw fD fdD) (bD:Binds K fdD ["_law_tape_here", "_law_many"] []) (mD:mg "_law_draw" = some (.ref fD)) (mLen:mg "len" = none)
 (mRange:mg "range" = none) (mTuple:mg "tuple" = none) (mSorted:mg "sorted" = none):FnOk P w K mg base CX0 2 f fd ["_law_tape_here", "_law_n"] spWeb:=by
 have GD:FnOk P w K mg base CX0 1 fD fdD ["_law_tape_here", "_law_many"] spDraw:=ok_draw FD mLen
 refine F.ok scWeb (fun vs H Q E h=>?_) (fun cdv A outer s H vs Q E hr h=>?_)
 . obtain⟨t,N,n,rfl,_⟩:=h
   rfl
 . obtain⟨t,N,n,rfl,T,hN,hn1,hn2,k⟩:=h
   have hu:=hu_of hr
   obtain⟨es,q0,q1,q2,j3,q3,q4,p1,p2,p3,hbd,hes⟩:∃es q0 q1 q2 j3 q3 q4 p1 p2 p3,defBody sWeb = .Assign [.Name "_law_longs" q0] (.Subscript (.List es p1) (.Call (.Name "_law_draw" q1) [.Name "_law_tape_here" q2,.Constant (.int 4) j3 q3] [] q4) p2) p3::(defBody sWeb).drop 1 /\
    LitIntss es [[1,1,1],[1,2,1],[1,2,3],[5,99,7]]:=⟨_,_,_,_,_,_,_,_,_,_,rfl,.cons (.cons (.cons (.cons .nil))) (by show 3<=sizeLine;decide) (.cons (.cons (.cons (.cons .nil))) (by show 3<=sizeLine;decide) (.cons (.cons (.cons (.cons .nil))) (by show 3<=sizeLine;decide) (.cons (.cons (.cons (.cons .nil))) (by show 3<=sizeLine;decide) (.nil))))⟩
   rw[hbd]
   refine⟨_,pss_cons (ps_set (i:=2) scWeb.nd rfl (Or.inl rfl) (pe_ix ix_list (pe_lst (pa_litss hes))
    (pe_call GD hr rfl mD FD.kp bD .nil pass0 (pa_cons (pv 0) (pa_int pa_nil))) (fun _ _=>rfl)))
    (pss_cons (ps_set (i:=3) scWeb.nd rfl (Or.inr rfl) pe_dnewT)
    (pss_cons (ps_if (pt_cmpR op_gt (pe_call GD hr rfl mD FD.kp bD .nil pass0 (pa_cons (pv 0) (pa_int pa_nil))) pe_int (nomark _))
     (pss_one (ps_for PassesOwn.never rfl (pi_range2 rfl mRange (pa_int (pa_cons (pv 1) pa_nil))) (pg_name (i:=4) scWeb.nd rfl (Or.inl rfl))
      (pss_one (ps_dput hu (pv 3) (pe_tup (pa_cons (pe_call GD hr rfl mD FD.kp bD .nil pass0 (pa_cons (pv 0) (pa_cons (pv 4) pa_nil))) (pa_cons (pv 4) pa_nil)))
       (pe_ix ix_list (pv 2) (pe_call GD hr rfl mD FD.kp bD .nil pass0 (pa_cons (pv 0) (pa_int pa_nil))) (fun _ _=>rfl)) rfl)))) pss_nil)
    (pss_cons (ps_for PassesOwn.never rfl (pi_range1 rfl mRange (pa_cons (pe_call GD hr rfl mD FD.kp bD .nil pass0 (pa_cons (pv 0) (pa_cons (pe_op op_add (pe_op op_add pe_int (pv 1)) (pe_op op_fdiv (pv 1) pe_int)) pa_nil))) pa_nil)) (pg_name (i:=5) scWeb.nd rfl (Or.inl rfl))
     (pss_cons (ps_set (i:=6) scWeb.nd rfl (Or.inl rfl) (pe_call GD hr rfl mD FD.kp bD .nil pass0 (pa_cons (pv 0) (pa_cons (pv 1) pa_nil))))
     (pss_cons (ps_set (i:=4) scWeb.nd rfl (Or.inl rfl) (pe_call GD hr rfl mD FD.kp bD .nil pass0 (pa_cons (pv 0) (pa_cons (pv 1) pa_nil))))
     (pss_one (ps_if (pt_cmpR op_lt (pv 6) (pv 4) (nomark _)) (pss_one (ps_dput hu (pv 3) (pe_tup (pa_cons (pv 6) (pa_cons (pv 4) pa_nil)))
      (pe_ix ix_list (pv 2) (pe_call GD hr rfl mD FD.kp bD .nil pass0 (pa_cons (pv 0) (pa_int pa_nil))) (fun _ _=>rfl)) rfl)) pss_nil)))))
    (pss_one (ps_ret (pe_tup (pa_cons (pv 1) (pa_cons (pe_callTy call_tuple_of (by rfl) mTuple (by decide +kernel) (pa_cons
     (pe_comp (own:=["_law_pair"]) (cn:=["_law_joined"]) (ci:=[3]) rfl (csc rfl rfl) ⟨rfl,rfl,rfl,trivial⟩ rfl
      (pi_list (pe_callB (call_sortedD rfl) (by rfl) mSorted (by decide +kernel) (pa_cons (pv 3) pa_nil))) (fun _ _ _ _=>pg_name (i:=0) (nd_of rfl) rfl (Or.inl rfl)) (fun _ _ _ _=>pts_nil)
      (fun _ _ _ _=>pe_tup (pa_cons (pe_ix ix_tupC (pv 0) pe_int (fun _ _=>rfl)) (pa_cons (pe_ix ix_tupC (pv 0) pe_int (fun _ _=>rfl)) (pa_cons (pe_dget hu (pv 1) (pv 0) (fun _ _=>rfl)) pa_nil))))) pa_nil)) pa_nil)))))))),?_⟩
   intro a1 e1 a2 e2 a3 e3 a4 e4
   refine⟨by show 4<=sizeLine;decide,fun al el=>?_⟩
   have T5:=((((T.laid (o:=.lst [.int 1,.int 1,.int 1]) e1).laid (o:=.lst [.int 1,.int 2,.int 1]) e2).laid (o:=.lst [.int 1,.int 2,.int 3]) e3).laid (o:=.lst [.int 5,.int 99,.int 7]) e4).laid (o:=.lst [.ref a1,.ref a2,.ref a3,.ref a4]) el
   refine⟨_,rfl,t,N,4,rfl,T5,by omega,by decide,by decide,fun r H1 h0 h1 T1 he1=>?_⟩
   have nel:al≠t:=((((T.laid (o:=.lst [.int 1,.int 1,.int 1]) e1).laid (o:=.lst [.int 1,.int 2,.int 1]) e2).laid (o:=.lst [.int 1,.int 2,.int 3]) e3).laid (o:=.lst [.int 5,.int 99,.int 7]) e4).ne el
   obtain⟨la,l0,l1,l2,hat,hla,hb,nla⟩:∃(la:Addr)(l0 l1 l2:Int),atI [V.ref a1,V.ref a2,V.ref a3,V.ref a4] r=some (.ref la)/\H1 la=some (.lst [.int l0,.int l1,.int l2])/\(∀l∈[l0,l1,l2],1<=l/\l<=99)/\la≠t:=by
    have n1:a1≠t:=T.ne e1
    have n2:a2≠t:=(T.laid (o:=.lst [.int 1,.int 1,.int 1]) e1).ne e2
    have n3:a3≠t:=((T.laid (o:=.lst [.int 1,.int 1,.int 1]) e1).laid (o:=.lst [.int 1,.int 2,.int 1]) e2).ne e3
    have n4:a4≠t:=(((T.laid (o:=.lst [.int 1,.int 1,.int 1]) e1).laid (o:=.lst [.int 1,.int 2,.int 1]) e2).laid (o:=.lst [.int 1,.int 2,.int 3]) e3).ne e4
    have g1:H1 a1=some (.lst [.int 1,.int 1,.int 1]):=by rw[he1 a1 n1];exact same_laid el _ _ (same_laid e4 _ _ (same_laid e3 _ _ (same_laid e2 _ _ upd_same)))
    have g2:H1 a2=some (.lst [.int 1,.int 2,.int 1]):=by rw[he1 a2 n2];exact same_laid el _ _ (same_laid e4 _ _ (same_laid e3 _ _ upd_same))
    have g3:H1 a3=some (.lst [.int 1,.int 2,.int 3]):=by rw[he1 a3 n3];exact same_laid el _ _ (same_laid e4 _ _ upd_same)
    have g4:H1 a4=some (.lst [.int 5,.int 99,.int 7]):=by rw[he1 a4 n4];exact same_laid el _ _ upd_same
    have hr4:r=0\/r=1\/r=2\/r=3:=by omega
    rcases hr4 with rfl | rfl | rfl | rfl
    . exact⟨a1,1,1,1,rfl,g1,by decide,n1⟩
    . exact⟨a2,1,2,1,rfl,g2,by decide,n2⟩
    . exact⟨a3,1,2,3,rfl,g3,by decide,n3⟩
    . exact⟨a4,5,99,7,rfl,g4,by decide,n4⟩
   refine⟨al,_,_,_,rfl,rfl,SqL.of (by rw[he1 al nel];exact upd_same),hat,?_⟩
   have sm1:Sm t H H1:=fun b o nb e=>by
    rw[he1 b nb]
    exact same_laid el _ _ (same_laid e4 _ _ (same_laid e3 _ _ (same_laid e2 _ _ (same_laid e1 _ _ e))))
   intro d hd
   have nd:d≠t:=T1.ne hd
   have hd0:H d=none:=by
    cases q:H d with
    | none=>rfl
    | some o=>have:=sm1 d o nd q;rw[hd] at this;cases this
   have W0:WI H t d la n (N+1) 0 (upd H1 d (.dT [])):=⟨sm1.chg hd0,T1.laid hd,⟨[],upd_same,JD.nil n,Nat.le_refl _⟩,⟨l0,l1,l2,by rw[upd_ne (ne_of_none hla hd)];exact hla,hb⟩⟩
   refine⟨_,rfl,t,N+1,3,rfl,W0.tp,by omega,by decide,by decide,fun r1 H2 _ _ T2 he2=>?_⟩
   have W2:=W0.draw nd nla T2 he2
   refine⟨_,_,rfl,rfl,_,rfl,?_⟩
   refine ite2 (fun _=>?a) (fun _=>?b)
   case' a=>
    refine⟨_,rfl,1,n,rfl,⟨by decide,by decide,by omega,by omega⟩,for_range (lo:=1) (n:=(n-1).toNat) (fun i σ H3=>∃vb:Option V,σ=[some (.ref t),some (.int n),some (.ref la),some (.ref d),vb,none,none]/\WI H t d la n (N+2+2*i) i H3) ⟨none,rfl,W2⟩ ?turn ?after⟩
    case turn=>
     rintro i σ H3 hi ⟨vb,rfl,W⟩
     obtain⟨m0,m1,m2,hm,hmb⟩:=W.lg
     refine⟨_,rfl,_,rfl,t,N+2+2*i,3,rfl,W.tp,by omega,by decide,by decide,fun r3 H4 g0 g1 T4 he4=>?_⟩
     have W4:=W.draw nd nla T4 he4
     obtain⟨lg,hlg,hg1,hg2⟩:=at3 hmb g0 g1
     refine⟨la,_,_,_,rfl,rfl,SqL.of (by rw[he4 la nla];exact hm),hlg,?_⟩
     refine⟨_,rfl,_,rfl,_,rfl,t,N+2+2*i+1,1+i,rfl,W4.tp,by omega,by omega,by omega,fun r5 H5 q0 q1 T5 he5=>?_⟩
     have W5:=W4.draw nd nla T5 he5
     refine⟨_,rfl,by show 2<=sizeLine;decide,fun p hp=>?_⟩
     have W6:=W5.laid (o:=.tup [.int r5,.int (1+i)]) hp
     obtain⟨kvs,hk,J,hkl⟩:=W6.dc
     refine⟨d,_,rfl,DPut.t (k:=[Sum.inl r5,Sum.inl (1+(i:Int))]) hk upd_same (small_line (by omega)),?_⟩
     exact⟨_,rfl,(W6.put hd0 hk q0 q1 (by omega) hg1 hg2).up (by omega) (by omega)⟩
    case' after=>
     rintro σ H3 ⟨vb,rfl,W⟩
     have W3:WI H t d la n (N+50) 23 H3:=W.up (by omega) (by omega)
   case' b=>
    have W3:WI H t d la n (N+50) 23 H2:=W2.up (by omega) (by omega)
   all_goals
    refine⟨_,rfl,_,rfl,_,_,rfl,rfl,_,rfl,_,_,rfl,rfl,⟨by decide,by decide⟩,_,_,rfl,rfl,t,N+50,_,rfl,W3.tp,by omega,by omega,by omega,fun r4 H4 p0 p1 T4 he4=>?_⟩
    have W4:=W3.draw nd nla T4 he4
    refine⟨r4,rfl,by omega,by omega,for_range (lo:=0) (n:=r4.toNat) (fun i σ H5=>∃vb vk va:Option V,σ=[some (.ref t),some (.int n),some (.ref la),some (.ref d),vb,vk,va]/\WI H t d la n (N+51+3*i) (23+i) H5) ⟨_,_,_,rfl,W4⟩ ?turn2 ?after2⟩
    case turn2=>
     rintro i σ H5 hi ⟨vb,vk,va,rfl,W⟩
     refine⟨_,rfl,_,rfl,t,N+51+3*i,n,rfl,W.tp,by omega,by omega,by omega,fun a H6 a0 a1 T6 he6=>?_⟩
     have W6:=W.draw nd nla T6 he6
     refine⟨_,rfl,_,rfl,t,N+51+3*i+1,n,rfl,W6.tp,by omega,by omega,by omega,fun b H7 b0 b1 T7 he7=>?_⟩
     have W7:=W6.draw nd nla T7 he7
     refine⟨_,rfl,_,rfl,_,_,rfl,rfl,_,rfl,?_⟩
     refine ite2 (fun hc=>?_) (fun hc=>?_)
     . have hab:a<b:=of_decide_eq_true hc
       obtain⟨m0,m1,m2,hm,hmb⟩:=W7.lg
       refine⟨_,rfl,_,rfl,t,N+51+3*i+1+1,3,rfl,W7.tp,by omega,by decide,by decide,fun r3 H8 g0 g1 T8 he8=>?_⟩
       have W8:=W7.draw nd nla T8 he8
       obtain⟨lg,hlg,hg1,hg2⟩:=at3 hmb g0 g1
       refine⟨la,_,_,_,rfl,rfl,SqL.of (by rw[he8 la nla];exact hm),hlg,?_⟩
       refine⟨_,rfl,_,rfl,_,rfl,by show 2<=sizeLine;decide,fun p hp=>?_⟩
       have W9:=W8.laid (o:=.tup [.int a,.int b]) hp
       obtain⟨kvs,hk,J,hkl⟩:=W9.dc
       refine⟨d,_,rfl,DPut.t (k:=[Sum.inl a,Sum.inl b]) hk upd_same (small_line (by omega)),?_⟩
       exact⟨_,_,_,rfl,(W9.put hd0 hk a0 hab b1 hg1 hg2).up (by omega) (by omega)⟩
     . exact⟨_,_,_,rfl,W7.up (by omega) (by omega)⟩
    case after2=>
     rintro σ H5 ⟨vb,vk,va,rfl,W⟩
     obtain⟨kvs,hk,J,hkl⟩:=W.dc
     have hk64:kvs.length<64:=by omega
     refine⟨_,rfl,_,rfl,d,kvs,keysI kvs,rfl,hk,J.keys,J.ne,by rw[keysI,List.length_map];exact hk64,fun l zs ms hl TA hp _=>?_⟩
     refine⟨l,rfl,⟨_,SqL.of upd_same⟩,[.ref d],rfl,fun D hD=>?_⟩
     have hlz:=TA.length
     have hlm:ms.length=kvs.length:=by rw[hp.length_eq,keysI,List.length_map]
     have nlD:l≠D:=fun e=>by rw[<-e,upd_same] at hD;cases hD
     have hk1:(upd H5 l (.lst zs)) d=some (.dT kvs):=same_laid hl _ _ hk
     have hD5:H5 D=none:=by rw[upd_ne nlD.symm] at hD;exact hD
     refine comp_list (a:=l) (xs:=zs) (fun i ys H6=>∃ts:List T3,ts.length=i/\ts.map (fun t:T3=>[t.1,t.2.1])=ms.take i/\(∀t∈ts,0<=t.1/\t.1<t.2.1/\t.2.1<n/\1<=t.2.2/\t.2.2<=99)/\H6 D=some (.lst ys)/\TupsAre H6 ys (ts.map tl)/\Same (upd H5 l (.lst zs)) H6)
      ⟨[],rfl,rfl,fun _ h=>by simp at h,upd_same,trivial,same_laid hD⟩ (fun i ys H6 h=>?_) (fun i ys H6 h=>?_) (fun i x ys H6 hx h=>?_) (fun ys H6 h=>?_)
     . obtain⟨_,_,_,_,_,_,s6⟩:=h
       exact SqL.of (s6 _ _ upd_same)
     . obtain⟨ts,e1,e2,_,_,T6,_⟩:=h
       have e3:=T6.length
       rw[List.length_map] at e3
       have e4:=congrArg List.length e2
       rw[List.length_map,List.length_take] at e4
       exact small_line (by omega)
     . obtain⟨ts,e1,e2,hts,hD6,T6,s6⟩:=h
       obtain⟨pa,kx,ex,hkx,hpa,_⟩:=TA.get hx
       subst ex
       have hpa6:H6 pa=some (.tup (kx.map V.int)):=s6 _ _ (same_laid hl _ _ hpa)
       obtain⟨a,b,lg,ek,hv,a0,ab,bn,lg1,lg2⟩:=J.val (hp.mem_iff.mp (List.mem_of_getElem? hkx))
       subst ek
       refine⟨⟨rfl,rfl⟩,?_⟩
       refine tyes ?_
       refine⟨_,rfl,pa,_,_,_,rfl,rfl,SqT.of hpa6,rfl,_,rfl,pa,_,_,_,rfl,rfl,SqT.of hpa6,rfl,_,rfl,_,rfl,d,_,rfl,hv ▸ DGet.t (k:=[Sum.inl a,Sum.inl b]) (s6 _ _ hk1) hpa6,by show 3<=sizeLine;decide,fun p hp6=>?_⟩
       have nDp:D≠p:=ne_of_none hD6 hp6
       refine⟨by rw[upd_ne nDp];exact hD6,ts++[(a,b,lg)],by rw[List.length_append,e1];rfl,?_,?_,upd_same,?_,?_⟩
       . rw[List.map_append,e2,List.take_add_one,hkx];rfl
       . intro t ht
         rcases List.mem_append.mp ht with q | q
         . exact hts t q
         . rw[List.mem_singleton.mp q];exact⟨a0,ab,bn,lg1,lg2⟩
       . rw[List.map_append]
         refine (T6.keep fun c xs e=>?_).snoc ⟨p,rfl,by rw[upd_ne nDp.symm,upd_same];rfl,by simp[tl]⟩
         rw[upd_ne (ne_of e hD6 (by intro z;cases z)),upd_ne (ne_of_none e hp6)]
         exact e
       . exact same_chg (s6.trans (same_laid hp6)) hD
     . obtain⟨ts,e1,e2,hts,hD6,T6,s6⟩:=h
       refine⟨D,ys,rfl,.inl ⟨SqL.of hD6,fun ta hta=>?_⟩⟩
       refine⟨by show 2<=sizeLine;decide,fun wa hwa=>?_⟩
       rw[hlz,List.take_of_length_le (Nat.le_refl _)] at e2
       have G:GW n ts:=ties_of J hp hk64 hn1 hn2 e2 hts
       have nwt:wa≠ta:=fun e=>by rw[e,upd_same] at hwa;cases hwa
       have h6wa:H6 wa=none:=by rw[upd_ne nwt] at hwa;exact hwa
       have s7:Same H6 (upd (upd H6 ta (.tup ys)) wa (.tup [.int n,.ref ta])):=same_chg (same_laid hta) h6wa
       have T7:TapeAt (upd (upd H6 ta (.tup ys)) wa (.tup [.int n,.ref ta])) t (N+200):=((W.tp.mono (by omega)).keep ((same_laid hl).trans (s6.trans s7)))
       have nwa:wa≠t:=((W.tp.keep ((same_laid hl).trans s6)).ne h6wa)
       have sm7:Sm t H (upd (upd H6 ta (.tup ys)) wa (.tup [.int n,.ref ta])):=W.sm.trans (Sm.of ((same_laid hl).trans (s6.trans s7)))
       refine k wa ts _ ?_ ⟨ta,ys,upd_same,by rw[upd_ne nwt.symm,upd_same],T6.keep fun c xs e=>s7 _ _ e,G⟩ T7 sm7
       cases q:H wa with
       | none=>rfl
       | some o=>
        have:=(W.sm.trans (Sm.of ((same_laid hl).trans s6))) wa o nwa q
        rw[h6wa] at this;cases this
end
end K36
namespace K36
open PySem L2 WM
theorem ifT {c:Bool}{p q:Prop}(h:c=true)(hp:p):(if c=true then p else q):=by rw[if_pos h];exact hp
theorem ifF {c:Bool}{p q:Prop}(h:c=false)(hq:q):(if c=true then p else q):=by rw[if_neg (by simp[h])];exact hq
def spTies:Sp:=fun vs H Q _=>∃(wa:Addr)(n:Int)(ts:List T3)(p:Int),vs=[.ref wa,.int p]/\WebAt H wa n ts /\
 ∀(l:Addr)(zs:List V)(ms:List (List Int))(H':Hp),Same H H'->H l=none->H' l=some (.lst zs)->TupsAre H' zs ms->ms.Perm (fd p ts)->Rises ms->Q (.ref l) H'
section
variable {P:Program}{w:World}{K:PySem.W.Frag}{mg:Str->Option Value}{base:Heap}
theorem scTies:FnScope ["web", "place", "found", "a", "b", "long"] ["web", "place"] (defScope sTies):=⟨rfl,rfl,rfl,by decide +kernel,rfl,by decide +kernel,by decide +kernel⟩
theorem ok_ties {f:Addr}{fd':FuncData}(F:Fun K "ties_at" "ties_at" sTies f fd') (mSorted:mg "sorted" = none):FnOk P w K mg base CX0 1 f fd' ["web", "place"] spTies:=by
 refine F.ok scTies (fun vs H Q E h=>?_) (fun cdv A outer s H vs Q E hr h=>?_)
 . obtain⟨wa,n,ts,p,rfl,_⟩:=h
   rfl
 . obtain⟨wa,n,ts,p,rfl,⟨ta,tys,hwa,hta,TA,G⟩,k⟩:=h
   refine⟨_,pss_cons (ps_set (i:=2) scTies.nd rfl (Or.inl rfl) (pe_lst pa_nil))
    (pss_cons (ps_for PassesOwn.never rfl (pi_tup (pe_ix ix_tup (pv 0) pe_int (fun _ _=>rfl))) (pg_tup rfl (pgs_cons (pg_name (i:=3) scTies.nd rfl (Or.inl rfl)) (pgs_cons (pg_name (i:=4) scTies.nd rfl (Or.inl rfl)) (pgs_cons (pg_name (i:=5) scTies.nd rfl (Or.inl rfl)) pgs_nil))))
     (pss_cons (ps_if (pt_cmpR op_eq (pv 3) (pv 1) (nomark _)) (pss_one (ps_expr (pe_bm PySem.F.plainAttrs_list PySem.F.slot_list_append PySem.F.type_list_append mt_append (pv 2) (pa_cons (pe_tup (pa_cons (pv 4) (pa_cons (pv 5) pa_nil))) pa_nil)))) pss_nil)
     (pss_one (ps_if (pt_cmpR op_eq (pv 4) (pv 1) (nomark _)) (pss_one (ps_expr (pe_bm PySem.F.plainAttrs_list PySem.F.slot_list_append PySem.F.type_list_append mt_append (pv 2) (pa_cons (pe_tup (pa_cons (pv 3) (pa_cons (pv 5) pa_nil))) pa_nil)))) pss_nil))))
    (pss_one (ps_ret (pe_callB call_sorted (by rfl) mSorted (by decide +kernel) (pa_cons (pv 2) pa_nil))))),?_⟩
   refine⟨Nat.zero_le _,fun l hl=>?_⟩
   have hwl:wa≠l:=ne_of_none hwa hl
   have htl:ta≠l:=ne_of_none hta hl
   have hlt:tys.length=ts.length:=by rw[TA.length,List.length_map]
   refine⟨_,rfl,wa,_,_,_,rfl,rfl,SqT.of (by rw[upd_ne hwl];exact hwa),rfl,ta,rfl,⟨_,SqT.of (by rw[upd_ne htl];exact hta)⟩,for_tup (K:=K) (a:=ta) (xs:=tys)
    (fun i σ H2=>∃(va vb vl:Option V)(xs:List V),σ=[some (.ref wa),some (.int p),some (.ref l),va,vb,vl]/\Same H H2/\H2 l=some (.lst xs)/\TupsAre H2 xs (fd p (ts.take i)))
    ⟨none,none,none,[],rfl,same_laid hl,upd_same,trivial⟩ (fun i σ H2 _ ⟨_,_,_,_,_,s2,_⟩=>SqT.of (s2 _ _ hta)) ?turn ?after⟩
   case turn=>
    rintro i y σ H2 hi ⟨va,vb,vl,xs,rfl,s2,hl2,T2⟩
    obtain⟨ya,ky,rfl,hky,hya,_⟩:=TA.get hi
    rw[List.getElem?_map] at hky
    obtain⟨⟨a,b,c⟩,hti,rfl⟩:∃t:T3,ts[i]? = some t/\tl t=ky:=by
     cases e:ts[i]? with
     | none=>rw[e] at hky;cases hky
     | some t=>rw[e] at hky;exact⟨t,rfl,Option.some.inj hky⟩
    have hil:i<ts.length:=(List.getElem?_eq_some_iff.mp hti).1
    have hlen:∀{xs':List V}{H3:Hp},TupsAre H3 xs' (fd p (ts.take i))->xs'.length<sizeLine:=fun T=>by
     have e1:=T.length
     have e2:=fd_len (n:=n) p (ts:=ts.take i) fun t ht=>(G.rng t (List.mem_of_mem_take ht)).2.1
     rw[List.length_take] at e2
     exact small_line (by have:=G.len;omega)
    have hfd:fd p (ts.take (i+1))=fd p (ts.take i)++((if a=p then [[b,c]] else [])++(if b=p then [[a,c]] else [])):=by
     rw[List.take_add_one,hti,fd_append]
     show _++((if a=p then [[b,c]] else [])++(if b=p then [[a,c]] else [])++[])=_
     rw[List.append_nil]
    have hab:a<b:=(G.rng _ (List.mem_of_getElem? hti)).2.1
    refine⟨ya,_,rfl,SqT.of (s2 _ _ hya),rfl,_,_,rfl,_,_,rfl,_,_,rfl,rfl,?_⟩
    have app:∀{x:Int},∀q,H2 q=none->∃xs',(upd (upd H2 q (.tup [.int x,.int c])) l (.lst (xs++[.ref q]))) l=some (.lst xs')/\Same H (upd (upd H2 q (.tup [.int x,.int c])) l (.lst (xs++[.ref q])))/\TupsAre (upd (upd H2 q (.tup [.int x,.int c])) l (.lst (xs++[.ref q]))) xs' (fd p (ts.take i)++[[x,c]]):=by
     intro x q hq
     have nlq:l≠q:=ne_of_none hl2 hq
     refine⟨_,upd_same,same_chg (s2.trans (same_laid hq)) hl,(T2.keep fun e ys he=>?_).snoc ⟨q,rfl,by rw[upd_ne nlq.symm,upd_same];rfl,by simp⟩⟩
     rw[upd_ne (ne_of he hl2 (by intro z;cases z)),upd_ne (ne_of_none he hq)]
     exact he
    refine⟨_,rfl,_,rfl,rfl,_,rfl,?_⟩
    refine ite2 (fun h1=>?_) (fun h1=>?_)
    . have e1:a=p:=by have:=of_decide_eq_true h1;injection this
      have n2:¬ b=p:=by omega
      refine⟨_,rfl,.inl ⟨rfl,_,SqL.of hl2⟩,_,rfl,_,rfl,by show 2<=sizeLine;decide,fun q hq=>?_⟩
      have nlq:l≠q:=ne_of_none hl2 hq
      refine⟨l,_,_,rfl,rfl,by rw[upd_ne nlq];exact hl2,hlen T2,?_⟩
      refine⟨_,rfl,_,rfl,rfl,_,rfl,?_⟩
      rw[show decide (V.int b=V.int p)=false from decide_eq_false fun e=>n2 (by injection e)]
      refine iteF ?_
      obtain⟨xs',g1,g2,g3⟩:=app (x:=b) q hq
      refine⟨_,_,_,xs',rfl,g2,g1,?_⟩
      rw[hfd,if_pos e1,if_neg n2]
      exact g3
    . have n1:¬ a=p:=fun e=>by
       have:=h1
       rw[e] at this
       exact this (decide_eq_true rfl)
      refine⟨_,rfl,_,rfl,rfl,_,rfl,?_⟩
      refine ite2 (fun h2=>?_) (fun h2=>?_)
      . have e2:b=p:=by have:=of_decide_eq_true h2;injection this
        refine⟨_,rfl,.inl ⟨rfl,_,SqL.of hl2⟩,_,rfl,_,rfl,by show 2<=sizeLine;decide,fun q hq=>?_⟩
        have nlq:l≠q:=ne_of_none hl2 hq
        refine⟨l,_,_,rfl,rfl,by rw[upd_ne nlq];exact hl2,hlen T2,?_⟩
        obtain⟨xs',g1,g2,g3⟩:=app (x:=a) q hq
        refine⟨_,_,_,xs',rfl,g2,g1,?_⟩
        rw[hfd,if_neg n1,if_pos e2]
        exact g3
      . have n2:¬ b=p:=fun e=>by
         have:=h2
         rw[e] at this
         exact this (decide_eq_true rfl)
        refine⟨_,_,_,xs,rfl,s2,hl2,?_⟩
        rw[hfd,if_neg n1,if_neg n2,List.append_nil,List.append_nil]
        exact T2
   case after=>
    rintro σ H2 ⟨va,vb,vl,xs,rfl,s2,hl2,T2⟩
    rw[hlt,List.take_of_length_le (Nat.le_refl _)] at T2
    have e2:=fd_len (n:=n) p (ts:=ts) fun t ht=>(G.rng t ht).2.1
    refine⟨_,rfl,l,xs,fd p ts,rfl,SqL.of hl2,T2,by have:=G.len;omega,fun l' zs ms hl' T3 hp hrs=>?_⟩
    have nll:l'≠l:=fun e=>by rw[e,hl2] at hl';cases hl'
    have hl0:H l'=none:=by
     cases q:H l' with
     | none=>rfl
     | some o=>have:=s2 l' o q;rw[hl'] at this;cases this
    exact k l' zs ms _ (s2.trans (same_laid hl')) hl0 upd_same (T3.keep fun e ys he=>same_laid hl' _ _ he) hp hrs
end
theorem dec_int' {i j:Int}:decide (V.int i=V.int j)=decide (i=j):=by
 by_cases h:i=j
 . subst h;simp
 . rw[decide_eq_false h,decide_eq_false fun e=>h (by injection e)]
end K36
namespace K36
open PySem L2 WM
def lamP:Pos:=⟨64,36,64,64⟩
abbrev lamQ:Str:=(("nearest" : Str) ++ ".<locals>.") ++ "<lambda>"
abbrev Tb (H:Hp)(PT:Addr):Prop:=TabAt H PT lamP lamQ
def spNear (PT:Addr):Sp:=fun vs H Q _=>∃(d:Addr)(n:Int)(kvs:List (Key×V))(wt:Int->Option Int),vs=[.ref d]/\H d=some (.dK kvs)/\WD n kvs wt/\0<=n/\n<=24/\kvs≠[]/\Tb H PT /\
 ∀(M e:Int)(H':Hp),wt M=some e->(∀q f,wt q=some f->e<=f)->SmP PT H H'->Tb H' PT->Q (.int M) H'
def spFrom (PT:Addr):Sp:=fun vs H Q _=>∃(wa:Addr)(n:Int)(ts:List T3)(s:Int),vs=[.ref wa,.int s]/\WebAt H wa n ts/\0<=s/\s<n/\Tb H PT /\
 ∀(l:Addr)(kn:List (Option Int))(H':Hp),SmP PT H H'->Tb H' PT->H' l=some (.tup (kn.map oV))->Lens ts n s kn->Q (.ref l) H'
theorem WebAt.smT {PT:Addr}{H H':Hp}{wa:Addr}{n:Int}{ts:List T3}(h:WebAt H wa n ts)(k:SmP PT H H'):WebAt H' wa n ts:=h.keepT fun b ys e=>by
 rcases k b _ e with ⟨_,ps,z⟩ | z
 . cases z
 . exact z
section
variable {P:Program}{w:World}{K:PySem.W.Frag}{mg:Str->Option Value}{base:Heap}{PT:Addr}
theorem scNear:FnScope ["waiting"] ["waiting"] (defScope sNear):=⟨rfl,rfl,rfl,by decide +kernel,rfl,by decide +kernel,by decide +kernel⟩
theorem ok_near {f c:Addr}{fd':FuncData}(F:FunC K "nearest" "nearest" sNear f fd' c) (C:PySem.W.CodeHd base c PT)(hbm:BmAt mg base)(mMin:mg "min" = none) (mSorted:mg "sorted" = none):FnOk P w K mg base CX0 2 f fd' ["waiting"] (spNear PT):=by
 refine F.ok scNear (fun vs H Q E h=>?_) (fun A outer s H vs Q E hr h=>?_)
 . obtain⟨d,n,kvs,wt,rfl,_⟩:=h
   rfl
 . obtain⟨d,n,kvs,wt,rfl,hd,W,hn0,hn,hne,T,k⟩:=h
   refine⟨_,pss_one (ps_ret (pe_minkeyP (k:=0) (j:=0) (P:=PT) (c:=c) (dn := "waiting") (pn := "place") rfl hr rfl mMin (pa_cons (pe_callB (call_sortedK rfl) (by rfl) mSorted (by decide +kernel) (pa_cons (pv 0) pa_nil)) pa_nil) rfl C hbm rfl rfl rfl rfl rfl (by decide +kernel) (free_of rfl) rfl rfl rfl (fun _ _ _ _ _ _ _=>rfl))),?_⟩
   have hl:=W.len hn0
   refine⟨_,rfl,d,kvs,keysW kvs,rfl,hd,W.keys,by unfold keysW;rw[List.length_map];omega,fun l ms hl' hp _=>?_⟩
   have mem:∀x,x∈ms->∃e,wt x=some e:=fun x hx=>W.mem.mp (hp.mem_iff.mp hx)
   refine⟨l,d,ms,kvs,fun x=>(wt x).getD 0,rfl,upd_same,fun e=>?_,rfl,by rw[upd_ne (ne_of_none hd hl')];exact hd,fun x hx=>?_,T.same (same_laid hl'),fun M H2 hM hb sm T2=>?_⟩
   . subst e
     have:=hp.length_eq
     unfold keysW at this
     rw[List.length_map] at this
     exact hne (List.eq_nil_of_length_eq_zero this.symm)
   . obtain⟨e,he⟩:=mem x hx
     show valV kvs (Sum.inl x)=some (.int ((wt x).getD 0))
     rw[W.at_ x,he];rfl
   . obtain⟨e,he⟩:=mem M hM
     refine k M e H2 he (fun q f hq=>?_) ((SmP.of (P:=PT) (same_laid hl')).trans sm) T2
     have hq':q∈ms:=hp.mem_iff.mpr (W.mem.mpr ⟨f,hq⟩)
     have:=hb q hq'
     simp only[he,hq,Option.getD_some] at this
     exact this
theorem scFrom:FnScope ["web", "start", "known", "waiting", "place", "other", "long", "far"] ["web", "start"] (defScope sFrom):=⟨rfl,rfl,rfl,by decide +kernel,rfl,by decide +kernel,by decide +kernel⟩
theorem map_oV_set {kn:List (Option Int)}{j:Nat}{o:Option Int}:(kn.map oV).set j (oV o)=(kn.set j o).map oV:=by rw[List.map_set]
theorem oV_non {o:Option Int}:decide (oV o=V.non)=o.isNone:=by
 cases o with
 | none=>rfl
 | some d=>exact decide_eq_false (by intro e;cases e)
theorem ok_from {f fN fT c:Addr}{fd' fdN fdT:FuncData}(F:Fun K "lengths_from" "lengths_from" sFrom f fd') (FN:FunC K "nearest" "nearest" sNear fN fdN c) (bN:Binds K fdN ["waiting"] []) (mN:mg "nearest" = some (.ref fN)) (FT:Fun K "ties_at" "ties_at" sTies fT fdT) (bT:Binds K fdT ["web", "place"] []) (mT:mg "ties_at" = some (.ref fT))
 (C:PySem.W.CodeHd base c PT)(hbm:BmAt mg base)(mMin:mg "min" = none) (mSorted:mg "sorted" = none) (mTuple:mg "tuple" = none):FnOk P w K mg base CX0 3 f fd' ["web", "start"] (spFrom PT):=by
 have GN:FnOk P w K mg base CX0 2 fN fdN ["waiting"] (spNear PT):=ok_near FN C hbm mMin mSorted
 have GT:FnOk P w K mg base CX0 2 fT fdT ["web", "place"] spTies:=(ok_ties FT mSorted).mono (by decide)
 refine F.ok scFrom (fun vs H Q E h=>?_) (fun cdv A outer s H vs Q E hr h=>?_)
 . obtain⟨wa,n,ts,st,rfl,_⟩:=h
   rfl
 . obtain⟨wa,n,ts,st,rfl,W,hs0,hs1,T,k⟩:=h
   obtain⟨ta,tys,hwa,_,_,G⟩:=id W
   have hu:=hu_of hr
   have hn1:=G.n1
   have hn24:=G.n24
   refine⟨_,pss_cons (ps_set (i:=2) scFrom.nd rfl (Or.inl rfl) (pe_op op_rep (pe_lst (pa_cons pe_non pa_nil)) (pe_ix ix_tup (pv 0) pe_int (fun _ _=>rfl))))
    (pss_cons (ps_set (i:=3) scFrom.nd rfl (Or.inl rfl) (pe_disp (pps_cons (pv 1) pe_int pps_nil) rfl rfl (by decide) (by decide)))
    (pss_cons (ps_while PassesOwn.never (pt_truth (pv 3) (fun _=>rfl))
     (pss_cons (ps_set (i:=4) scFrom.nd rfl (Or.inl rfl) (pe_call GN hr rfl mN FN.kp bN .nil pass0 (pa_cons (pv 3) pa_nil)))
     (pss_cons (ps_asg (pe_dpop1 (pv 3) (pv 4) ⟨rfl,rfl,rfl,rfl⟩) (pg_sub (pv 2) (pv 4) set_list))
     (pss_one (ps_for PassesOwn.never rfl (pi_list (pe_call GT hr rfl mT FT.kp bT .nil pass0 (pa_cons (pv 0) (pa_cons (pv 4) pa_nil)))) (pg_tup rfl (pgs_cons (pg_name (i:=5) scFrom.nd rfl (Or.inl rfl)) (pgs_cons (pg_name (i:=6) scFrom.nd rfl (Or.inl rfl)) pgs_nil)))
      (pss_one (ps_if (pt_cmpR op_isN (pe_ix ix_list (pv 2) (pv 5) (fun _ _=>rfl)) pe_non (nomark _))
       (pss_cons (ps_set (i:=7) scFrom.nd rfl (Or.inl rfl) (pe_op op_add (pe_ix ix_list (pv 2) (pv 4) (fun _ _=>rfl)) (pv 6)))
       (pss_one (ps_dput hu (pv 3) (pv 5) (pe_callB (call_min2 rfl) (by rfl) mMin (by decide +kernel) (pa_cons (pv 7) (pa_cons (pe_dget2 hu (pv 3) (pv 5) (pv 7) ⟨rfl,rfl,rfl,rfl⟩) pa_nil))) rfl))) pss_nil)))))))
    (pss_one (ps_ret (pe_callTy call_tuple_of (by rfl) mTuple (by decide +kernel) (pa_cons (pv 2) pa_nil)))))),?_⟩
   refine⟨by show 1<=sizeLine;decide,fun l0 hl0=>?_⟩
   refine⟨_,rfl,wa,_,_,_,rfl,rfl,SqT.of (same_laid hl0 _ _ hwa),rfl,l0,n,_,rfl,rfl,upd_same,by omega,by omega,?_,fun kl hkl=>?_⟩
   . have:sizeLine=16777216:=rfl
     show 1*n.toNat<=sizeLine
     omega
   have s1:Same H (upd (upd H l0 (.lst [.non])) kl (.lst (List.replicate n.toNat [V.non]).flatten)):=(same_laid hl0).trans (same_laid hkl)
   have erep:(List.replicate n.toNat [V.non]).flatten=(List.replicate n.toNat (none:Option Int)).map oV:=by
    generalize n.toNat=m
    induction m with
    | zero=>rfl
    | succ m ih=>rw[List.replicate_succ,List.flatten_cons,ih,List.replicate_succ];rfl
   rw[erep] at s1 ⊢
   have hk1:(upd (upd H l0 (.lst [.non])) kl (.lst ((List.replicate n.toNat (none:Option Int)).map oV))) kl=some (.lst ((List.replicate n.toNat (none:Option Int)).map oV)):=upd_same
   generalize hH1:upd (upd H l0 (.lst [.non])) kl (.lst ((List.replicate n.toNat (none:Option Int)).map oV))=H1 at s1 hk1 ⊢
   intro wd hwd
   refine⟨_,rfl,upd_same,[(Sum.inl st,.int 0)],rfl,by show 1<=15;decide,?_⟩
   have s2:Same H (upd (upd H1 wd (.dK [])) wd (.dK [(Sum.inl st,.int 0)])):=by rw[upd_upd];exact s1.trans (same_laid hwd)
   have nkw:kl≠wd:=ne_of_none hk1 hwd
   rw[show mergeK [] [((Sum.inl st:Key),V.int 0)]=[((Sum.inl st:Key),V.int 0)] from rfl,upd_upd]
   rw[upd_upd] at s2
   refine⟨fun m σ H2=>∃(kn:List (Option Int))(kvs:List (Key×V))(wt:Int->Option Int)(v4 v5 v6 v7:Option V),σ=[some (.ref wa),some (.int st),some (.ref kl),some (.ref wd),v4,v5,v6,v7]/\m=n.toNat-cnt kn/\SmP PT H H2/\Tb H2 PT/\H2 kl=some (.lst (kn.map oV))/\H2 wd=some (.dK kvs)/\WD n kvs wt/\Dl ts n st kn wt,
    ⟨_,_,_,_,_,_,_,_,rfl,rfl,SmP.of (P:=PT) s2,T.same s2,by rw[upd_ne nkw];exact hk1,upd_same,WD.one hs0 hs1,Dl.start G hs0 hs1⟩,?_⟩
   rintro m σ H2 ⟨kn,kvs,wt,v4,v5,v6,v7,rfl,rfl,sm,T2,hk2,hw2,WW,D⟩
   cases hkb:kvs.isEmpty with
   | true=>
    refine⟨_,rfl,false,.inr (.inr ⟨kvs,hw2,by rw[hkb];rfl⟩),?_⟩
    refine iteF ?_
    have hkv:kvs=[]:=List.isEmpty_iff.mp hkb
    have hnone:∀q,wt q=none:=fun q=>by
     cases e:wt q with
     | none=>rfl
     | some d=>
      have:=WW.mem.mpr ⟨d,e⟩
      rw[hkv] at this
      simp[keysW] at this
    refine⟨_,rfl,kl,_,rfl,.inl ⟨SqL.of hk2,fun q hq=>?_⟩⟩
    exact k q kn _ (sm.trans (SmP.of (P:=PT) (same_laid hq))) (T2.same (same_laid hq)) upd_same (D.done G hnone)
   | false=>
    refine⟨_,rfl,true,.inr (.inr ⟨kvs,hw2,by rw[hkb];rfl⟩),?_⟩
    refine iteT ?_
    have hne:kvs≠[]:=by intro e;rw[e] at hkb;cases hkb
    refine⟨fun σ' H'=>∃(kn':List (Option Int))(kvs':List (Key×V))(wt':Int->Option Int)(v4 v5 v6 v7:Option V),σ'=[some (.ref wa),some (.int st),some (.ref kl),some (.ref wd),v4,v5,v6,v7]/\cnt kn'=cnt kn+1/\SmP PT H H'/\Tb H' PT/\H' kl=some (.lst (kn'.map oV))/\H' wd=some (.dK kvs')/\WD n kvs' wt'/\Dl ts n st kn' wt',?_,?_⟩
    . rintro σ' H' ⟨kn',kvs',wt',v4',v5',v6',v7',rfl,hc,sm',T',hk',hw',WW',D'⟩
      have h1:=cnt_le kn'
      have h2:=D'.ln
      exact⟨n.toNat-cnt kn',by omega,kn',kvs',wt',v4',v5',v6',v7',rfl,rfl,sm',T',hk',hw',WW',D'⟩
    refine⟨_,rfl,wd,n,kvs,wt,rfl,hw2,WW,by omega,hn24,hne,T2,fun M e H3 hM hmin sm3 T3=>?_⟩
    have hk3:H3 kl=some (.lst (kn.map oV)):=sm3.get hk2 (by intro ps z;cases z)
    have hw3:H3 wd=some (.dK kvs):=sm3.get hw2 (by intro ps z;cases z)
    obtain⟨hknM,hM0,hM1,hcnt,N0⟩:=D.enter G hM hmin
    have hval:valV kvs (Sum.inl M)=some (.int e):=by rw[WW.at_ M,hM];rfl
    refine⟨_,rfl,wd,rfl,.inl ⟨kvs,.inl hw3⟩,_,rfl,kvs,Sum.inl M,_,hw3,rfl,hval,?_⟩
    have hlk:(kn.map oV).length=n.toNat:=by rw[List.length_map];exact D.ln
    have hk3':(upd H3 wd (.dK (dropK kvs (Sum.inl M)))) kl=some (.lst (kn.map oV)):=by rw[upd_ne nkw];exact hk3
    refine⟨_,rfl,_,rfl,kl,_,M,M.toNat,rfl,rfl,hk3',ixN_in hM0 (by rw[hlk];omega),?_⟩
    rw[show V.int e=oV (some e) from rfl,map_oV_set]
    have sm4:SmP PT H (upd (upd H3 wd (.dK (dropK kvs (Sum.inl M)))) kl (.lst ((kn.set M.toNat (some e)).map oV))):=by
     intro b o hb
     rcases (sm.trans sm3) b o hb with z | z
     . exact .inl z
     . right
       have n1:b≠wd:=fun q=>by
        have hbn:H b=none:=by
         rw[q]
         cases e':H wd with
         | none=>rfl
         | some o'=>have:=s1 wd o' e';rw[hwd] at this;cases this
        rw[hbn] at hb;cases hb
       have n2:b≠kl:=fun q=>by
        have hbn:H b=none:=by
         rw[q]
         cases e':H kl with
         | none=>rfl
         | some o'=>have:=same_laid (o:=.lst [.non]) hl0 kl o' e';rw[hkl] at this;cases this
        rw[hbn] at hb;cases hb
       rw[upd_ne n2,upd_ne n1];exact z
    have T4:Tb (upd (upd H3 wd (.dK (dropK kvs (Sum.inl M)))) kl (.lst ((kn.set M.toNat (some e)).map oV))) PT:=by
     refine T3.keep (fun o ho=>?_) fun c φ hc=>?_
     . obtain⟨ps,hps,_⟩:=T3
       have e1:=ho
       rw[hps] at e1;cases e1
       rw[upd_ne (ne_of ho hk3 (by intro z;cases z)),upd_ne (ne_of ho hw3 (by intro z;cases z))];exact ho
     . rw[upd_ne (ne_of hc hk3 (by intro z;cases z)),upd_ne (ne_of hc hw3 (by intro z;cases z))];exact hc
    have hk4:(upd (upd H3 wd (.dK (dropK kvs (Sum.inl M)))) kl (.lst ((kn.set M.toNat (some e)).map oV))) kl=some (.lst ((kn.set M.toNat (some e)).map oV)):=upd_same
    have hw4:(upd (upd H3 wd (.dK (dropK kvs (Sum.inl M)))) kl (.lst ((kn.set M.toNat (some e)).map oV))) wd=some (.dK (dropK kvs (Sum.inl M))):=by rw[upd_ne nkw.symm,upd_same]
    generalize upd (upd H3 wd (.dK (dropK kvs (Sum.inl M)))) kl (.lst ((kn.set M.toNat (some e)).map oV))=H4 at sm4 T4 hk4 hw4 ⊢
    refine⟨_,rfl,_,rfl,wa,n,ts,M,rfl,W.smT sm4,fun l zs ms H5 s5 hl5 hl5' T5 hp _=>?_⟩
    have hlz:=T5.length
    refine⟨l,rfl,⟨_,SqL.of hl5'⟩,for_list (K:=K) (a:=l) (xs:=zs) (fun i σ H6=>∃(kvs':List (Key×V))(wt':Int->Option Int)(v5 v6 v7:Option V),σ=[some (.ref wa),some (.int st),some (.ref kl),some (.ref wd),some (.int M),v5,v6,v7]/\(∀b o,b≠wd->H5 b=some o->H6 b=some o)/\H6 wd=some (.dK kvs')/\WD n kvs' wt'/\Dn ts n st M e (kn.set M.toNat (some e)) wt' (fun r=>∃j k,j<i/\ms[j]? = some k/\hd k=r))
     ⟨_,_,_,_,_,rfl,fun _ _ _ z=>z,s5 _ _ hw4,WW.drop,⟨⟨N0.dm.kd,N0.dm.wk,N0.dm.ord,fun q e' r l' hq ha=>(N0.dm.nb q e' r l' hq ha).imp (fun z=>⟨z.1,fun ⟨j,_,hj,_⟩=>absurd hj (Nat.not_lt_zero _)⟩) id,N0.dm.st,N0.dm.pd,N0.dm.mx⟩,N0.ln,N0.bk,N0.bd,N0.bw⟩⟩
     (fun i σ H6 _ ⟨_,_,_,_,_,_,s6,_⟩=>SqL.of (s6 l _ (ne_of hl5' (s5 _ _ hw4) (by intro z;cases z)) hl5')) ?turn ?after⟩
    case after=>
     rintro σ H6 ⟨kvs',wt',v5,v6,v7,rfl,s6,hw6,WW6,N6⟩
     have hk5:H5 kl=some (.lst ((kn.set M.toNat (some e)).map oV)):=s5 _ _ hk4
     refine⟨_,kvs',wt',_,_,_,_,rfl,hcnt,?_,?_,s6 kl _ nkw hk5,hw6,WW6,N6.leave fun r c ha=>?_⟩
     . intro b o hb
       rcases (sm4.trans (SmP.of (P:=PT) s5)) b o hb with z | z
       . exact .inl z
       . right
         refine s6 b o (fun q=>?_) z
         have hbn:H b=none:=by
          rw[q]
          cases e':H wd with
          | none=>rfl
          | some o'=>have:=s1 wd o' e';rw[hwd] at this;cases this
         rw[hbn] at hb;cases hb
     . refine (T4.same s5).keep (fun o ho=>?_) fun c φ hc=>?_
       . obtain⟨ps,hps,_⟩:=T4.same s5
         refine s6 PT o (fun q=>?_) ho
         rw[q,s5 _ _ hw4] at hps;cases hps
       . refine s6 c _ (fun q=>?_) hc
         rw[q,s5 _ _ hw4] at hc;cases hc
     . have hm:[r,c]∈ms:=hp.mem_iff.mpr (mem_fd.mpr ⟨r,c,rfl,ha⟩)
       obtain⟨j,hj,ej⟩:=List.getElem_of_mem hm
       exact⟨j,[r,c],by omega,by rw[List.getElem?_eq_getElem hj,ej],rfl⟩
    case turn=>
     rintro i y σ H6 hi ⟨kvs',wt',v5,v6,v7,rfl,s6,hw6,WW6,N6⟩
     obtain⟨ya,ky,rfl,hky,hya,_⟩:=T5.get hi
     obtain⟨r,c,rfl,ha⟩:=mem_fd.mp (hp.mem_iff.mp (List.mem_of_getElem? hky))
     have hadj:=G.adj ha
     have hk6:H6 kl=some (.lst ((kn.set M.toNat (some e)).map oV)):=s6 kl _ nkw (s5 _ _ hk4)
     have hln:(kn.set M.toNat (some e)).length=n.toNat:=N6.ln
     have seen_of:∀{x:Int},(x=r\/∃j k,j<i/\ms[j]? = some k/\hd k=x)->∃j k,j<i+1/\ms[j]? = some k/\hd k=x:=fun {x} z=>by
      rcases z with rfl | ⟨j,k',hj,hk',e'⟩
      . exact⟨i,[x,c],Nat.lt_succ_self _,hky,rfl⟩
      . exact⟨j,k',Nat.lt_succ_of_lt hj,hk',e'⟩
     have sub:∀{x:Int},(∃j k,j<i+1/\ms[j]? = some k/\hd k=x)->(∃j k,j<i/\ms[j]? = some k/\hd k=x)\/x=r:=fun {x} ⟨j,k',hj,hk',e'⟩=>by
      by_cases hji:j<i
      . exact .inl ⟨j,k',hji,hk',e'⟩
      . have:j=i:=by omega
        subst this
        rw[hky] at hk';cases hk'
        exact .inr e'.symm
     have conv:∀{wt2:Int->Option Int},Dn ts n st M e (kn.set M.toNat (some e)) wt2 (fun x=>(∃j k,j<i/\ms[j]? = some k/\hd k=x)\/x=r)->Dn ts n st M e (kn.set M.toNat (some e)) wt2 (fun x=>∃j k,j<i+1/\ms[j]? = some k/\hd k=x):=fun {wt2} N=>
      ⟨⟨N.dm.kd,N.dm.wk,N.dm.ord,fun q e' r' l' hq ha'=>(N.dm.nb q e' r' l' hq ha').imp (fun z=>⟨z.1,fun y=>z.2 (sub y)⟩) id,N.dm.st,N.dm.pd,N.dm.mx⟩,N.ln,N.bk,N.bd,N.bw⟩
     refine⟨ya,_,rfl,SqT.of (s6 _ _ (ne_of hya (s5 _ _ hw4) (by intro z;cases z)) hya),rfl,_,_,rfl,_,_,rfl,rfl,?_⟩
     obtain⟨o,ho⟩:∃o,(kn.set M.toNat (some e))[r.toNat]? = some o:=⟨_,List.getElem?_eq_getElem (by omega)⟩
     have hfnl:fnl (kn.set M.toNat (some e)) r=o:=by
      unfold fnl
      rw[if_pos hadj.2.2.1,List.getD_eq_getElem?_getD,ho];rfl
     refine⟨_,rfl,_,rfl,kl,_,_,oV o,rfl,rfl,SqL.of hk6,atI_in hadj.2.2.1 (by rw[List.getElem?_map,ho];rfl),rfl,_,rfl,?_⟩
     rw[oV_non]
     cases o with
     | some f0=>
      refine iteF ?_
      exact⟨kvs',wt',_,_,_,rfl,s6,hw6,WW6,conv (N6.skip hfnl)⟩
     | none=>
      refine iteT ?_
      have hkM:(kn.set M.toNat (some e))[M.toNat]? = some (some e):=by
       rw[List.getElem?_set_self (by have:=D.ln;omega)]
      refine⟨_,rfl,_,rfl,kl,_,_,oV (some e),rfl,rfl,SqL.of hk6,atI_in hM0 (by rw[List.getElem?_map,hkM];rfl),_,rfl,_,_,rfl,rfl,?_⟩
      refine⟨_,rfl,_,rfl,wd,rfl,.inl ⟨kvs',.inl hw6⟩,_,rfl,_,rfl,_,DGet.k (k:=Sum.inl r) hw6,?_⟩
      have hg:((valV kvs' (Sum.inl r)).getD (V.int (e+c)))=V.int ((wt' r).getD (e+c)):=by
       rw[WW6.at_ r]
       cases wt' r <;> rfl
      rw[hg]
      refine⟨_,_,rfl,?_⟩
      have hwl:=WW6.len (by omega)
      refine⟨_,rfl,_,rfl,wd,_,rfl,DPut.k (k:=Sum.inl r) hw6 (small_line (by omega)),?_⟩
      exact⟨_,_,_,_,_,rfl,fun b o' hb z=>by rw[upd_ne hb];exact s6 b o' hb z,upd_same,WW6.put hadj.2.2.1 hadj.2.2.2.1,conv (N6.wait G ha hfnl)⟩
end
def spBwr:Sp:=fun vs H Q _=>∃(lh lt:Addr)(n:Int)(ts:List T3)(x y:Int)(kn1 kn2:List (Option Int)),vs=[.ref lh,.ref lt,.int y]/\GW n ts/\0<=x/\x<n/\0<=y/\y<n/\H lh=some (.tup (kn1.map oV))/\H lt=some (.tup (kn2.map oV))/\Lens ts n x kn1/\Lens ts n y kn2 /\
 ∀(l:Addr)(xs:List Int)(H':Hp),Same H H'->H' l=some (.tup (xs.map V.int))->xs.Pairwise (· < ·)->(∀p,p∈xs↔Btw ts x y p)->Q (.ref l) H'
theorem Lens_get {ts:List T3}{n s:Int}{kn:List (Option Int)}(h:Lens ts n s kn){y:Int}(h0:0<=y)(h1:y<n):(kn.map oV)[y.toNat]? = some (oV (fnl kn y)):=by
 have hl:=h.ln
 have hlt:y.toNat<kn.length:=by omega
 rw[List.getElem?_map,List.getElem?_eq_getElem hlt]
 unfold fnl
 rw[if_pos h0,List.getD_eq_getElem?_getD,List.getElem?_eq_getElem hlt]
 rfl
theorem ints_succ (q:Nat):lowTo (q+1)=lowTo q++[(q:Int)]:=by unfold lowTo;rw[List.range_succ,List.map_append];rfl
theorem ints_len (q:Nat):(lowTo q).length=q:=by unfold lowTo;rw[List.length_map,List.length_range]
section
variable {P:Program}{w:World}{K:PySem.W.Frag}{mg:Str->Option Value}{base:Heap}{PT:Addr}
theorem scBwr:FnScope ["here", "there", "other", "reached"] ["here", "there", "other"] (defScope sBwr):=⟨rfl,rfl,rfl,by decide +kernel,rfl,by decide +kernel,by decide +kernel⟩
theorem ok_bwr {f:Addr}{fd':FuncData}(F:Fun K "between_rows" "between_rows" sBwr f fd') (mRange:mg "range" = none) (mTuple:mg "tuple" = none) (mLen:mg "len" = none):FnOk P w K mg base CX0 1 f fd' ["here", "there", "other"] spBwr:=by
 refine F.ok scBwr (fun vs H Q E h=>?_) (fun cdv A outer s H2 vs Q E hr h=>?_)
 . obtain⟨lh,lt,n,ts,x,y,kn1,kn2,rfl,_⟩:=h
   rfl
 . obtain⟨lh,lt,n,ts,x,y,kn1,kn2,rfl,G,hx0,hx1,hy0,hy1,hh2,hl2,L1,L2,k⟩:=h
   have hn24:=G.n24
   have hln:=L1.ln
   refine⟨_,pss_cons (ps_if (pt_cmpR op_isN (pe_ix ix_tup (pv 0) (pv 2) (fun _ _=>rfl)) pe_non (nomark _)) (pss_one (ps_ret (pe_tup pa_nil))) pss_nil)
    (pss_cons (ps_setC (i:=3) (own:=["place"]) (cn:=["here"]) (ci:=[0]) scBwr.nd rfl (Or.inl rfl) rfl (csc rfl rfl) ⟨rfl,rfl,rfl,trivial⟩ rfl
     (pi_range1 rfl mRange (pa_cons (pe_callB call_len_seq (by rfl) mLen PySem.boot_len (pa_cons (pv 0) pa_nil)) pa_nil)) (fun _ _ _ _=>pg_name (i:=0) (nd_of rfl) rfl (Or.inl rfl))
     (fun _ _ _ _=>pts_one (pt_cmpR op_notN (pe_ix ix_tupC (pv 1) (pv 0) (fun _ _=>rfl)) pe_non (nomark _))) (fun _ _ _ _=>pv 0))
    (pss_one (ps_ret (pe_callTy call_tuple_of (by rfl) mTuple (by decide +kernel) (pa_cons
     (pe_comp (own:=["place"]) (cn:=["here", "there", "other"]) (ci:=[0,1,2]) rfl (csc rfl rfl) ⟨rfl,rfl,rfl,rfl,rfl,rfl,rfl,rfl,rfl,trivial⟩ rfl
      (pi_list (pv 3)) (fun _ _ _ _=>pg_name (i:=0) (nd_of rfl) rfl (Or.inl rfl))
      (fun _ _ _ _=>pts_one (pt_cmpR op_eq (pe_op op_add (pe_ix ix_tupC (pv 1) (pv 0) (fun _ _=>rfl)) (pe_ix ix_tupC (pv 2) (pv 0) (fun _ _=>rfl))) (pe_ix ix_tupC (pv 1) (pv 3) (fun _ _=>rfl)) (nomark _)))
      (fun _ _ _ _=>pv 0)) pa_nil))))),?_⟩
   have hy:=L1.len y hy0 hy1
   refine⟨_,rfl,_,rfl,lh,_,_,oV (fnl kn1 y),rfl,rfl,SqT.of hh2,atI_in hy0 (Lens_get L1 hy0 hy1),rfl,_,rfl,?_⟩
   rw[oV_non]
   cases hd:fnl kn1 y with
   | none=>
    refine iteT ?_
    rw[hd] at hy
    refine⟨Nat.zero_le _,fun l hl=>k l [] _ (same_laid hl) upd_same List.Pairwise.nil fun p=>⟨fun z=>by simp at z,fun ⟨a,b,_,_,z⟩=>absurd z.1 (hy _)⟩⟩
   | some d=>
    refine iteF ?_
    rw[hd] at hy
    have hyD:WM.IsD ts x y d:=hy
    refine⟨_,rfl,lh,_,rfl,.inr (SqT.of hh2),n,by rw[List.length_map,hln];exact congrArg (fun z=>[V.int z]) (Int.toNat_of_nonneg (by omega)),by omega,by omega,[.ref lh],rfl,fun D hD=>?_⟩
    refine comp_range (lo:=0) (n:=n.toNat) (fun q ys H3=>q<=n.toNat/\ys=((lowTo q).filter fun o=>(fnl kn1 o).isSome).map V.int/\Same H2 H3/\H3 D=some (.lst ys)) ⟨Nat.zero_le _,rfl,same_laid hD,upd_same⟩ (fun q ys H3 h=>?_) (fun q ys H3 hq h=>?_) (fun ys H3 h=>?_)
    . obtain⟨hq,rfl,_⟩:=h
      rw[List.length_map]
      refine Nat.lt_of_le_of_lt (List.length_filter_le _ _) (small_line ?_)
      rw[ints_len];omega
    . obtain⟨_,rfl,s3,hD3⟩:=h
      rw[Int.zero_add]
      refine⟨⟨rfl,rfl⟩,?_⟩
      refine⟨_,rfl,_,rfl,lh,_,_,oV (fnl kn1 q),rfl,rfl,SqT.of (s3 _ _ hh2),atI_in (by omega) (Lens_get L1 (by omega) (by omega)),rfl,_,rfl,?_⟩
      rw[oV_non]
      cases e:fnl kn1 q with
      | none=>
       refine iteF ?_
       refine⟨hq,?_,s3,hD3⟩
       rw[ints_succ,List.filter_append,List.filter_cons_of_neg (by rw[e];decide),List.filter_nil,List.append_nil]
      | some a=>
       refine iteT ?_
       refine⟨_,rfl,hD3,hq,?_,same_chg s3 hD,upd_same⟩
       rw[ints_succ,List.filter_append,List.filter_cons_of_pos (by rw[e];rfl),List.filter_nil,List.map_append]
       rfl
    . obtain⟨_,rfl,s3,hD3⟩:=h
      generalize hR:((lowTo n.toNat).filter fun o=>(fnl kn1 o).isSome)=R at hD3 ⊢
      have hRm:∀p,p∈R↔(0<=p/\p<n)/\∃a,fnl kn1 p=some a:=fun p=>by
       rw[<-hR,List.mem_filter,mem_ints,Option.isSome_iff_exists]
       constructor
       . rintro ⟨z1,z2⟩;exact⟨by omega,z2⟩
       . rintro ⟨z1,z2⟩;exact⟨by omega,z2⟩
      have hRr:R.Pairwise (· < ·):=by rw[<-hR];exact (ints_rise _).sublist List.filter_sublist
      have hRl:R.length<=24:=by
       rw[<-hR]
       exact Nat.le_trans (List.length_filter_le _ _) (by rw[ints_len];omega)
      have both:∀p,p∈R->∃a b,fnl kn1 p=some a/\fnl kn2 p=some b/\WM.IsD ts x p a/\WM.IsD ts p y b:=fun p hp=>by
       obtain⟨⟨h0,h1⟩,a,ha⟩:=(hRm p).mp hp
       have l1:=L1.len p h0 h1
       rw[ha] at l1
       obtain⟨b,hb,_⟩:=Len.via (show WM.IsD ts x p a from l1) hyD (Len.symm (L2.len p h0 h1))
       have l2:=L2.len p h0 h1
       rw[hb] at l2
       exact⟨a,b,ha,hb,l1,WM.IsD.symm l2⟩
      refine⟨_,rfl,D,rfl,⟨_,SqL.of hD3⟩,[.ref lh,.ref lt,.int y],rfl,fun D2 hD2=>?_⟩
      have nDD:D≠D2:=ne_of_none hD3 hD2
      refine comp_list (a:=D) (xs:=R.map V.int) (fun i ys H4=>ys=((R.take i).filter fun p=>decide ((fnl kn1 p).getD 0+(fnl kn2 p).getD 0=d)).map V.int/\Same H3 H4/\H4 D2=some (.lst ys)) ⟨rfl,same_laid hD2,upd_same⟩ (fun i ys H4 h=>?_) (fun i ys H4 h=>?_) (fun i v ys H4 hv h=>?_) (fun ys H4 h=>?_)
      . obtain⟨_,s4,_⟩:=h
        exact SqL.of (s4 _ _ hD3)
      . obtain⟨rfl,_⟩:=h
        rw[List.length_map]
        refine Nat.lt_of_le_of_lt (List.length_filter_le _ _) (small_line ?_)
        rw[List.length_take];omega
      . obtain⟨rfl,s4,hD4⟩:=h
        obtain⟨p,hp,rfl⟩:∃p,R[i]? = some p/\V.int p=v:=by
         rw[List.getElem?_map] at hv
         cases e:R[i]? with
         | none=>rw[e] at hv;cases hv
         | some p=>rw[e] at hv;exact⟨p,rfl,Option.some.inj hv⟩
        have hpR:=List.mem_of_getElem? hp
        obtain⟨⟨h0,h1⟩,_⟩:=(hRm p).mp hpR
        obtain⟨a,b,ha,hb,_,_⟩:=both p hpR
        have hlh4:H4 lh=some (.tup (kn1.map oV)):=s4 _ _ (s3 _ _ hh2)
        have hlt4:H4 lt=some (.tup (kn2.map oV)):=s4 _ _ (s3 _ _ hl2)
        refine⟨⟨rfl,rfl⟩,?_⟩
        refine⟨_,rfl,_,rfl,lh,_,_,.int a,rfl,rfl,SqT.of hlh4,atI_in h0 (by rw[Lens_get L1 h0 h1,ha];rfl),?_⟩
        refine⟨_,rfl,_,rfl,lt,_,_,.int b,rfl,rfl,SqT.of hlt4,atI_in h0 (by rw[Lens_get L2 h0 h1,hb];rfl),_,_,rfl,rfl,?_⟩
        refine⟨_,rfl,_,rfl,lh,_,_,.int d,rfl,rfl,SqT.of hlh4,atI_in hy0 (by rw[Lens_get L1 hy0 hy1,hd];rfl),rfl,_,rfl,?_⟩
        rw[dec_int']
        have etk:(R.take (i+1)).filter (fun p=>decide ((fnl kn1 p).getD 0+(fnl kn2 p).getD 0=d))=(R.take i).filter (fun p=>decide ((fnl kn1 p).getD 0+(fnl kn2 p).getD 0=d))++(if a+b=d then [p] else []):=by
         rw[List.take_add_one,hp,List.filter_append]
         show _++List.filter _ [p]=_
         rw[List.filter_cons,ha,hb]
         by_cases c:a+b=d
         . rw[if_pos (by simpa using c),if_pos c];rfl
         . rw[if_neg (by simpa using c),if_neg c];rfl
        refine ite2 (fun c=>?_) (fun c=>?_)
        . have c':=of_decide_eq_true c
          refine⟨_,rfl,hD4,?_,same_chg s4 hD2,upd_same⟩
          rw[etk,if_pos c',List.map_append];rfl
        . have c':¬ a+b=d:=fun z=>c (decide_eq_true z)
          refine⟨?_,s4,hD4⟩
          rw[etk,if_neg c',List.append_nil]
      . obtain⟨rfl,s4,hD4⟩:=h
        rw[List.length_map,List.take_of_length_le (Nat.le_refl _)] at hD4
        refine⟨D2,_,rfl,.inl ⟨SqL.of hD4,fun q hq=>?_⟩⟩
        refine k q _ _ ((s3.trans s4).trans (same_laid hq)) upd_same (hRr.sublist List.filter_sublist) fun p=>?_
        rw[List.mem_filter]
        constructor
        . rintro ⟨hp,c⟩
          obtain⟨a,b,ha,hb,ia,ib⟩:=both p hp
          have c':=of_decide_eq_true c
          rw[ha,hb] at c'
          exact⟨a,b,ia,ib,by rw[show a+b=d from c'];exact hyD⟩
        . rintro ⟨a,b,ia,ib,iab⟩
          have hp:=ia.1.in_ G hx0 hx1
          have l1:=Len.uniq (L1.len p hp.1 hp.2) (show Len ts x p (some a) from ia)
          have l2:=Len.uniq (L2.len p hp.1 hp.2) (show Len ts y p (some b) from WM.IsD.symm ib)
          refine⟨(hRm p).mpr ⟨hp,a,l1⟩,decide_eq_true ?_⟩
          rw[l1,l2]
          exact WM.IsD.uniq iab hyD
end
def RowsAt (H:Hp)(rs:List Addr)(M:List (List (Option Int))):Prop:=rs.length=M.length/\∀(i:Nat)(r:Addr)(row:List (Option Int)),rs[i]? = some r->M[i]? = some row->H r=some (.tup (row.map oV))
theorem RowsAt.smT {PT:Addr}{H H':Hp}{rs:List Addr}{M:List (List (Option Int))}(h:RowsAt H rs M)(k:SmP PT H H'):RowsAt H' rs M:=⟨h.1,fun i r row a b=>k.get (h.2 i r row a b) (by intro ps z;cases z)⟩
def spLens (PT:Addr):Sp:=fun vs H Q _=>∃(wa:Addr)(n:Int)(ts:List T3),vs=[.ref wa]/\WebAt H wa n ts/\Tb H PT /\
 ∀(l:Addr)(rs:List Addr)(M:List (List (Option Int)))(H':Hp),SmP PT H H'->Tb H' PT->H' l=some (.tup (rs.map V.ref))->RowsAt H' rs M->Rows ts n M->Q (.ref l) H'
section
variable {P:Program}{w:World}{K:PySem.W.Frag}{mg:Str->Option Value}{base:Heap}{PT:Addr}
theorem scLens:FnScope ["web"] ["web"] (defScope sLens):=⟨rfl,rfl,rfl,by decide +kernel,rfl,by decide +kernel,by decide +kernel⟩
theorem ok_lens {f fF:Addr}{fd' fdF:FuncData}(F:Fun K "lengths" "lengths" sLens f fd') (FF:Fun K "lengths_from" "lengths_from" sFrom fF fdF) (bF:Binds K fdF ["web", "start"] []) (mF:mg "lengths_from" = some (.ref fF)) (GF:FnOk P w K mg base CX0 3 fF fdF ["web", "start"] (spFrom PT))
 (mRange:mg "range" = none) (mTuple:mg "tuple" = none):FnOk P w K mg base CX0 4 f fd' ["web"] (spLens PT):=by
 refine F.ok scLens (fun vs H Q E h=>?_) (fun cdv A outer s H vs Q E hr h=>?_)
 . obtain⟨wa,n,ts,rfl,_⟩:=h
   rfl
 . obtain⟨wa,n,ts,rfl,W,T,k⟩:=h
   obtain⟨ta,tys,hwa,_,_,G⟩:=id W
   have hn24:=G.n24
   have hn1:=G.n1
   refine⟨_,pss_one (ps_ret (pe_callTy call_tuple_of (by rfl) mTuple (by decide +kernel) (pa_cons
    (pe_comp (own:=["place"]) (cn:=["web"]) (ci:=[0]) rfl (csc rfl rfl) ⟨rfl,rfl,rfl,trivial⟩ rfl
     (pi_range1 rfl mRange (pa_cons (pe_ix ix_tup (pv 0) pe_int (fun _ _=>rfl)) pa_nil)) (fun _ _ _ _=>pg_name (i:=0) (nd_of rfl) rfl (Or.inl rfl)) (fun _ _ _ _=>pts_nil)
     (fun _ _ _ _=>pe_call GF hr rfl mF FF.kp bF .nil pass0 (pa_cons (pv 1) (pa_cons (pv 0) pa_nil)))) pa_nil))),?_⟩
   refine⟨_,rfl,wa,_,_,_,rfl,rfl,SqT.of hwa,rfl,n,rfl,by omega,by omega,[.ref wa],rfl,fun D hD=>?_⟩
   refine comp_range (lo:=0) (n:=n.toNat) (fun q ys H1=>q<=n.toNat/\∃(rs:List Addr)(M:List (List (Option Int))),ys=rs.map V.ref/\rs.length=q/\RowsAt H1 rs M/\(∀x:Nat,x<q->Lens ts n x (M.getD x []))/\SmP PT H H1/\Tb H1 PT/\H1 D=some (.lst ys))
    ⟨Nat.zero_le _,[],[],rfl,rfl,⟨rfl,fun i r row h=>by simp at h⟩,fun x hx=>absurd hx (Nat.not_lt_zero _),SmP.of (P:=PT) (same_laid hD),T.same (same_laid hD),upd_same⟩ (fun q ys H1 h=>?_) (fun q ys H1 hq h=>?_) (fun ys H1 h=>?_)
   . obtain⟨hq,rs,M,rfl,hl,_⟩:=h
     rw[List.length_map,hl]
     exact small_line (by omega)
   . obtain⟨_,rs,M,rfl,hl,R,L,sm,T1,hD1⟩:=h
     rw[Int.zero_add]
     refine⟨⟨rfl,rfl⟩,?_⟩
     refine tyes ?_
     refine⟨_,rfl,_,rfl,wa,n,ts,q,rfl,W.smT sm,by omega,by omega,T1,fun l kn H2 sm2 T2 hl2 L2=>?_⟩
     have hD2:H2 D=some (.lst (rs.map V.ref)):=sm2.get hD1 (by intro ps z;cases z)
     refine⟨hD2,hq,rs++[l],M++[kn],by rw[List.map_append];rfl,by rw[List.length_append,hl];rfl,⟨by rw[List.length_append,List.length_append,R.1];rfl,fun i r row h1 h2=>?_⟩,fun x hx=>?_,(sm.trans sm2).chg hD,T2.chg hD2,upd_same⟩
     . have key:H2 r=some (.tup (row.map oV)):=by
        by_cases hi:i<rs.length
        . rw[List.getElem?_append_left hi] at h1
          rw[List.getElem?_append_left (by rw[<-R.1];exact hi)] at h2
          exact sm2.get (R.2 i r row h1 h2) (by intro ps z;cases z)
        . rw[List.getElem?_append_right (by omega)] at h1
          rw[List.getElem?_append_right (by rw[<-R.1];omega),<-R.1] at h2
          cases hz:i-rs.length with
          | zero=>
           rw[hz] at h1 h2
           have e1:l=r:=by simpa using h1
           have e2:kn=row:=by simpa using h2
           subst e1 e2
           exact hl2
          | succ k=>rw[hz] at h1;simp at h1
       rw[upd_ne (ne_of key hD2 (by intro z;cases z))]
       exact key
     . by_cases hx':x<q
       . rw[List.getD_eq_getElem?_getD,List.getElem?_append_left (by rw[<-R.1,hl];exact hx'),<-List.getD_eq_getElem?_getD]
         exact L x hx'
       . have e:x=q:=by omega
         subst e
         rw[List.getD_eq_getElem?_getD,List.getElem?_append_right (by rw[<-R.1,hl];exact Nat.le_refl _),<-R.1,hl]
         simpa using L2
   . obtain⟨_,rs,M,rfl,hl,R,L,sm,T1,hD1⟩:=h
     refine⟨D,_,rfl,.inl ⟨SqL.of hD1,fun q hq=>?_⟩⟩
     refine k q rs M _ (sm.trans (SmP.of (P:=PT) (same_laid hq))) (T1.same (same_laid hq)) upd_same (R.smT (SmP.of (P:=PT) (same_laid hq))) ⟨by rw[<-R.1,hl],fun x hx hx'=>?_⟩
     have:=L x.toNat (by omega)
     rw[show ((x.toNat:Nat):Int)=x by omega] at this
     exact this
end
end K36
namespace K36
open PySem L2 WM
theorem RowsAt.same {H H':Hp}{rs:List Addr}{M:List (List (Option Int))}(h:RowsAt H rs M)(k:Same H H'):RowsAt H' rs M:=⟨h.1,fun i r row a b=>k _ _ (h.2 i r row a b)⟩
theorem RowsAt.at {H:Hp}{rs:List Addr}{M:List (List (Option Int))}{ts:List T3}{n x:Int}(RA:RowsAt H rs M)(RR:Rows ts n M)(h0:0<=x)(h1:x<n) :
 ∃r,(rs.map V.ref)[x.toNat]? = some (.ref r)/\H r=some (.tup ((M.getD x.toNat []).map oV))/\Lens ts n x (M.getD x.toNat []):=by
 have hM:x.toNat<M.length:=by rw[RR.1];omega
 have hr:x.toNat<rs.length:=by rw[RA.1];exact hM
 have e:M[x.toNat]? = some (M.getD x.toNat []):=by rw[List.getD_eq_getElem?_getD,List.getElem?_eq_getElem hM];rfl
 exact⟨rs[x.toNat],by rw[List.getElem?_map,List.getElem?_eq_getElem hr];rfl,RA.2 _ _ _ (List.getElem?_eq_getElem hr) e,RR.2 x h0 h1⟩
def spSn:Sp:=fun vs H Q _=>∃(p:Addr)(ps:List Int),vs=[.ref p]/\H p=some (.tup (ps.map V.int))/\(∀x∈ps,0<=x/\x<24)/\ps.length<=24/\∀(H':Hp),Same H H'->Q (.int (sn ps)) H'
def spSf:Sp:=fun vs H Q _=>∃(rl:Addr)(rs:List Addr)(M:List (List (Option Int)))(n:Int)(ts:List T3)(h:Int),vs=[.ref rl,.int h]/\GW n ts/\H rl=some (.tup (rs.map V.ref))/\RowsAt H rs M/\Rows ts n M/\0<=h/\h<n /\
 ∀(l:Addr)(bs:List (List Int))(H':Hp),Same H H'->H' l=some (.lst ((bs.map sn).map V.int))->bs.length=n.toNat->(∀(i:Nat)(xs:List Int),bs[i]? = some xs->xs.Pairwise (· < ·)/\∀p,p∈xs↔Btw ts h i p)->Q (.ref l) H'
def cfB (k m:Int):Bool:=!decide (m=0) && decide (PySem.Builtin.bitAnd m k=0)
def spCf:Sp:=fun vs H Q _=>∃(l:Addr)(ns:List Int)(k:Int),vs=[.ref l,.int k]/\H l=some (.lst (ns.map V.int))/\ns.length<=24/\∀(H':Hp),Same H H'->Q (.int ((ns.filter (cfB k)).length:Nat)) H'
theorem snoc_map {α β:Type}{f:α->β}{l:List α}{i:Nat}{a:α}(h:l[i]? = some a):(l.take (i+1)).map f=(l.take i).map f++[f a]:=by
 rw[List.take_add_one,h,List.map_append];rfl
theorem int_at {l:List Int}{i:Nat}{x:V}(h:(l.map V.int)[i]? = some x):∃y,l[i]? = some y/\V.int y=x:=by
 rw[List.getElem?_map] at h
 cases e:l[i]? with
 | none=>rw[e] at h;cases h
 | some y=>rw[e] at h;exact⟨y,rfl,Option.some.inj h⟩
section
variable {P:Program}{w:World}{K:PySem.W.Frag}{mg:Str->Option Value}{base:Heap}
theorem scSn:FnScope ["places"] ["places"] (defScope sSn):=⟨rfl,rfl,rfl,by decide +kernel,rfl,by decide +kernel,by decide +kernel⟩
theorem ok_sn {f:Addr}{fd':FuncData}(F:Fun K "set_number" "set_number" sSn f fd') (mSum:mg "sum" = none):FnOk P w K mg base CX0 1 f fd' ["places"] spSn:=by
 refine F.ok scSn (fun vs H Q E h=>?_) (fun cdv A outer s H vs Q E hr h=>?_)
 . obtain⟨p,ps,rfl,_⟩:=h
   rfl
 . obtain⟨p,ps,rfl,hp,rng,hl,k⟩:=h
   refine⟨_,pss_one (ps_ret (pe_callB (call_sumL rfl) (by rfl) mSum (by decide +kernel) (pa_cons (pe_comp (own:=["place"]) (cn:=[]) (ci:=[]) rfl (csc rfl rfl) trivial rfl (pi_tup (pv 0)) (fun _ _ _ _=>pg_name (i:=0) (nd_of rfl) rfl (Or.inl rfl)) (fun _ _ _ _=>pts_nil)
    (fun _ _ _ _=>pe_op op_shl pe_int (pv 0))) pa_nil))),?_⟩
   refine⟨_,rfl,p,rfl,⟨_,SqT.of hp⟩,[],rfl,fun D hD=>?_⟩
   refine comp_tup (a:=p) (xs:=ps.map V.int) (fun i ys H4=>ys=((ps.take i).map fun x=>(1:Int)*2 ^ x.toNat).map V.int/\H4=upd H D (.lst ys)) ⟨rfl,rfl⟩ (fun i ys H4 z=>?_) (fun i ys H4 z=>?_) (fun i x ys H4 hx z=>?_) (fun ys H4 z=>?_)
   . obtain⟨_,rfl⟩:=z
     exact SqT.of (by rw[upd_ne (ne_of_none hp hD)];exact hp)
   . obtain⟨rfl,_⟩:=z
     rw[List.length_map,List.length_map,List.length_take]
     exact small_line (by omega)
   . obtain⟨rfl,rfl⟩:=z
     obtain⟨y,hy,rfl⟩:=int_at hx
     have yr:=rng y (List.mem_of_getElem? hy)
     refine⟨⟨rfl,rfl⟩,?_⟩
     refine tyes ?_
     refine⟨_,rfl,1,y,rfl,rfl,⟨yr.1,by omega,by decide⟩,upd_same,?_,upd_upd⟩
     rw[snoc_map hy,List.map_append];rfl
   . obtain⟨rfl,rfl⟩:=z
     rw[List.length_map,List.take_of_length_le (Nat.le_refl _)]
     exact⟨D,_,rfl,SqL.of upd_same,k _ (same_laid hD)⟩
theorem scSf:FnScope ["rows", "hub"] ["rows", "hub"] (defScope sSf):=⟨rfl,rfl,rfl,by decide +kernel,rfl,by decide +kernel,by decide +kernel⟩
theorem ok_sf {f fS fB:Addr}{fd' fdS fdB:FuncData}(F:Fun K "sets_from" "sets_from" sSf f fd') (FS:Fun K "set_number" "set_number" sSn fS fdS) (bS:Binds K fdS ["places"] []) (mS:mg "set_number" = some (.ref fS)) (FB:Fun K "between_rows" "between_rows" sBwr fB fdB) (bB:Binds K fdB ["here", "there", "other"] []) (mB:mg "between_rows" = some (.ref fB))
 (mRange:mg "range" = none) (mTuple:mg "tuple" = none) (mLen:mg "len" = none) (mSum:mg "sum" = none):FnOk P w K mg base CX0 2 f fd' ["rows", "hub"] spSf:=by
 have GB:FnOk P w K mg base CX0 1 fB fdB ["here", "there", "other"] spBwr:=ok_bwr FB mRange mTuple mLen
 have GS:FnOk P w K mg base CX0 1 fS fdS ["places"] spSn:=ok_sn FS mSum
 refine F.ok scSf (fun vs H Q E h=>?_) (fun cdv A outer s H vs Q E hr h=>?_)
 . obtain⟨rl,rs,M,n,ts,h,rfl,_⟩:=h
   rfl
 . obtain⟨rl,rs,M,n,ts,h,rfl,G,hrl,RA,RR,h0,h1,k⟩:=h
   have hn24:=G.n24
   have hn1:=G.n1
   have hrs:rs.length=n.toNat:=RA.1.trans RR.1
   refine⟨_,pss_one (ps_ret (pe_comp (own:=["place"]) (cn:=["rows", "hub"]) (ci:=[0,1]) rfl (csc rfl rfl) ⟨rfl,rfl,rfl,rfl,rfl,rfl,trivial⟩ rfl
    (pi_range1 rfl mRange (pa_cons (pe_callB call_len_seq (by rfl) mLen PySem.boot_len (pa_cons (pv 0) pa_nil)) pa_nil)) (fun _ _ _ _=>pg_name (i:=0) (nd_of rfl) rfl (Or.inl rfl)) (fun _ _ _ _=>pts_nil)
    (fun _ _ _ _=>pe_call GS hr rfl mS FS.kp bS .nil pass0 (pa_cons (pe_call GB hr rfl mB FB.kp bB .nil pass0 (pa_cons (pe_ix ix_tupC (pv 1) (pv 2) (fun _ _=>rfl)) (pa_cons (pe_ix ix_tupC (pv 1) (pv 0) (fun _ _=>rfl)) (pa_cons (pv 0) pa_nil)))) pa_nil)))),?_⟩
   refine⟨_,rfl,rl,_,rfl,.inr (SqT.of hrl),n,by rw[List.length_map,hrs];exact congrArg (fun z=>[V.int z]) (Int.toNat_of_nonneg (by omega)),by omega,by omega,[.ref rl,.int h],rfl,fun D hD=>?_⟩
   refine comp_range (lo:=0) (n:=n.toNat) (fun q ys H1=>q<=n.toNat/\Same H H1/\H1 D=some (.lst ys)/\∃bs:List (List Int),ys=(bs.map sn).map V.int/\bs.length=q/\∀(i:Nat)(xs:List Int),bs[i]? = some xs->xs.Pairwise (· < ·)/\∀p,p∈xs↔Btw ts h i p)
    ⟨Nat.zero_le _,same_laid hD,upd_same,[],rfl,rfl,fun i xs z=>by simp at z⟩ (fun q ys H1 z=>?_) (fun q ys H1 hq z=>?_) (fun ys H1 z=>?_)
   . obtain⟨hq,_,_,bs,rfl,hl,_⟩:=z
     rw[List.length_map,List.length_map,hl]
     exact small_line (by omega)
   . obtain⟨_,s1,hD1,bs,rfl,hl,hbs⟩:=z
     rw[Int.zero_add]
     obtain⟨rh,gh,hh,Lh⟩:=(RA.same s1).at RR h0 h1
     obtain⟨rv,gv,hv,Lv⟩:=(RA.same s1).at RR (x:=(q:Int)) (by omega) (by omega)
     have hrl1:=s1 _ _ hrl
     refine⟨⟨rfl,rfl⟩,?_⟩
     refine tyes ?_
     refine⟨_,rfl,_,rfl,rl,_,_,.ref rh,rfl,rfl,SqT.of hrl1,atI_in h0 gh,_,rfl,_,rfl,rl,_,_,.ref rv,rfl,rfl,SqT.of hrl1,atI_in (by omega) gv,_,rfl,rh,rv,n,ts,h,q,_,_,rfl,G,h0,h1,by omega,by omega,hh,hv,Lh,Lv,fun l xs H2 s2 hl2 hrise hmem=>?_⟩
     have hxr:∀p∈xs,0<=p/\p<n:=fun p hp=>by
      obtain⟨a,b,ia,_⟩:=(hmem p).mp hp
      exact ia.1.in_ G h0 h1
     have hxl:xs.length<=24:=by
      have:=nd_len (n:=n.toNat) (l:=xs) (hrise.imp fun z=>by omega) fun x hx=>by have:=hxr x hx;omega
      omega
     refine⟨l,xs,rfl,hl2,fun x hx=>by have:=hxr x hx;omega,hxl,fun H3 s3=>?_⟩
     have s13:=s2.trans s3
     refine⟨s13 _ _ hD1,hq,same_chg (s1.trans s13) hD,upd_same,bs++[xs],by rw[List.map_append,List.map_append];rfl,by rw[List.length_append,hl];rfl,fun i ys hi=>?_⟩
     by_cases c:i<bs.length
     . rw[List.getElem?_append_left c] at hi
       exact hbs i ys hi
     . have hi':i=q:=by
        have:=(List.getElem?_eq_some_iff.mp hi).1
        rw[List.length_append] at this
        simp at this;omega
       subst hi'
       rw[List.getElem?_append_right (by omega),hl,Nat.sub_self] at hi
       have:xs=ys:=by simpa using hi
       subst this
       exact⟨hrise,hmem⟩
   . obtain⟨_,s1,hD1,bs,rfl,hl,hbs⟩:=z
     exact k D bs H1 s1 hD1 hl hbs
theorem scCf:FnScope ["sets", "taken"] ["sets", "taken"] (defScope sCf):=⟨rfl,rfl,rfl,by decide +kernel,rfl,by decide +kernel,by decide +kernel⟩
theorem ok_cf {f:Addr}{fd':FuncData}(F:Fun K "count_free" "count_free" sCf f fd') (mLen:mg "len" = none):FnOk P w K mg base CX0 1 f fd' ["sets", "taken"] spCf:=by
 refine F.ok scCf (fun vs H Q E h=>?_) (fun cdv A outer s H vs Q E hr h=>?_)
 . obtain⟨l,ns,t,rfl,_⟩:=h
   rfl
 . obtain⟨l,ns,t,rfl,hl,hn,k⟩:=h
   refine⟨_,pss_one (ps_ret (pe_callB call_len_seq (by rfl) mLen PySem.boot_len (pa_cons (pe_comp (own:=["members"]) (cn:=["taken"]) (ci:=[1]) rfl (csc rfl rfl) ⟨rfl,rfl,rfl,trivial⟩ rfl (pi_list (pv 0)) (fun _ _ _ _=>pg_name (i:=0) (nd_of rfl) rfl (Or.inl rfl))
    (fun _ _ _ _=>pts_one (PW.pt (pw_and (pt_cmpR op_ne (pv 0) pe_int (nomark _)) (pw_and1 (pt_cmpR op_eq (pe_op op_and (pv 0) (pv 1)) pe_int (nomark _)))))) (fun _ _ _ _=>pv 0)) pa_nil))),?_⟩
   refine⟨_,rfl,l,rfl,⟨_,SqL.of hl⟩,[.int t],rfl,fun D hD=>?_⟩
   have nlD:l≠D:=ne_of_none hl hD
   refine comp_list (a:=l) (xs:=ns.map V.int) (fun i ys H4=>ys=((ns.take i).filter (cfB t)).map V.int/\H4=upd H D (.lst ys)) ⟨rfl,rfl⟩ (fun i ys H4 z=>?_) (fun i ys H4 z=>?_) (fun i x ys H4 hx z=>?_) (fun ys H4 z=>?_)
   . obtain⟨_,rfl⟩:=z
     exact SqL.of (by rw[upd_ne nlD];exact hl)
   . obtain⟨rfl,_⟩:=z
     rw[List.length_map]
     refine Nat.lt_of_le_of_lt (List.length_filter_le _ _) ?_
     rw[List.length_take]
     exact small_line (by omega)
   . obtain⟨rfl,rfl⟩:=z
     obtain⟨m,hm,rfl⟩:=int_at hx
     have st:(ns.take (i+1)).filter (cfB t)=(ns.take i).filter (cfB t)++[m].filter (cfB t):=by rw[List.take_add_one,hm,List.filter_append];rfl
     refine⟨⟨rfl,rfl⟩,?_⟩
     refine⟨_,rfl,rfl,_,rfl,?_⟩
     rw[dec_int']
     by_cases c:m=0
     . refine ifF (by rw[decide_eq_true c];rfl) ?_
       refine iteF ⟨?_,rfl⟩
       rw[st,List.filter_cons_of_neg (by unfold cfB;rw[decide_eq_true c];simp),List.filter_nil,List.append_nil]
     . refine ifT (by rw[decide_eq_false c];rfl) ?_
       refine⟨_,rfl,_,rfl,_,_,rfl,rfl,rfl,_,rfl,?_⟩
       rw[dec_int']
       by_cases c2:PySem.Builtin.bitAnd m t=0
       . refine ifT (decide_eq_true c2) ?_
         refine⟨_,rfl,upd_same,?_,upd_upd⟩
         rw[st,List.filter_cons_of_pos (by unfold cfB;rw[decide_eq_false c,decide_eq_true c2];rfl),List.filter_nil,List.map_append];rfl
       . refine ifF (decide_eq_false c2) ⟨?_,rfl⟩
         rw[st,List.filter_cons_of_neg (by unfold cfB;rw[decide_eq_false c2,Bool.and_false];simp),List.filter_nil,List.append_nil]
   . obtain⟨rfl,rfl⟩:=z
     rw[List.length_map,List.take_of_length_le (Nat.le_refl _)]
     refine⟨D,_,rfl,.inl (SqL.of upd_same),?_⟩
     rw[List.length_map]
     exact k _ (same_laid hD)
end
end K36
namespace K36
open PySem L2 WM
theorem shl_nat (p:Nat):(1:Int)*2 ^ ((p:Int)).toNat=((2 ^ p:Nat):Int):=by
 rw[Int.toNat_natCast,Int.one_mul,Int.natCast_pow];rfl
theorem bAnd_nat (a b:Nat):PySem.Builtin.bitAnd (a:Int) (b:Int)=((a &&& b:Nat):Int):=by
 unfold PySem.Builtin.bitAnd
 rw[decide_eq_true (Int.natCast_nonneg _),decide_eq_true (Int.natCast_nonneg _)]
 rfl
theorem and_pow {t p:Nat}:(t &&& 2 ^ p=0)↔t.testBit p=false:=by
 constructor
 . intro e
   have:=congrArg (Nat.testBit · p) e
   simp only[Nat.testBit_and,Nat.testBit_two_pow_self,Nat.zero_testBit,Bool.and_true] at this
   exact this
 . intro h
   apply Nat.eq_of_testBit_eq
   intro j
   rw[Nat.testBit_and,Nat.testBit_two_pow,Nat.zero_testBit]
   by_cases c:p=j
   . subst c;rw[h,Bool.false_and]
   . rw[decide_eq_false c,Bool.and_false]
theorem bor_free {t p:Nat}(h:t.testBit p=false):PySem.Builtin.bitOr (t:Int) ((2 ^ p:Nat):Int)=((t+2 ^ p:Nat):Int):=by
 rw[PyProof.Rows.bitOr_and,bAnd_nat,and_pow.mpr h]
 omega
def freeP (t n:Nat):List Nat:=(List.range n).filter fun p=>!t.testBit p
theorem freeP_mem {t n p:Nat}:p∈freeP t n↔p<n/\t.testBit p=false:=by
 unfold freeP
 rw[List.mem_filter,List.mem_range,Bool.not_eq_true']
def brg (R:List (List Int))(t h:Nat):Nat:=((R.getD h []).filter (cfB (t:Int))).length
def RowsI (H:Hp)(rs:List Addr)(R:List (List Int)):Prop:=rs.length=R.length/\∀(i:Nat)(r:Addr)(row:List Int),rs[i]? = some r->R[i]? = some row->H r=some (.lst (row.map V.int))
theorem RowsI.same {H H':Hp}{rs:List Addr}{R:List (List Int)}(h:RowsI H rs R)(k:Same H H'):RowsI H' rs R:=⟨h.1,fun i r row a b=>k _ _ (h.2 i r row a b)⟩
def SetsAt (H:Hp)(sl:Addr)(R:List (List Int)):Prop:=∃rs:List Addr,H sl=some (.lst (rs.map V.ref))/\RowsI H rs R
theorem SetsAt.same {H H':Hp}{sl:Addr}{R:List (List Int)}(h:SetsAt H sl R)(k:Same H H'):SetsAt H' sl R:=by
 obtain⟨rs,a,b⟩:=h
 exact⟨rs,k _ _ a,b.same k⟩
def spLpl:Sp:=fun vs H Q _=>∃(wa ta:Addr)(n t:Nat),vs=[.ref wa,.int t]/\H wa=some (.tup [.int n,.ref ta])/\n<=24/\∀(l:Addr)(H':Hp),H l=none->Same H H'->H' l=some (.lst ((freeP t n).map fun (p:Nat)=>V.int p))->Q (.ref l) H'
def spBwo:Sp:=fun vs H Q _=>∃(sl nl:Addr)(R:List (List Int))(nu:List Int)(t h:Nat),vs=[.ref sl,.ref nl,.int t,.int h]/\SetsAt H sl R/\H nl=some (.lst (nu.map V.int))/\h<R.length/\t.testBit h=false/\t+2 ^ h<nu.length/\(∀row∈R,row.length<=24)/\h<24 /\
 ∀H',Same H H'->Q (.int ((brg R t h:Nat)+nu.getD (t+2 ^ h) 0)) H'
section
variable {P:Program}{w:World}{K:PySem.W.Frag}{mg:Str->Option Value}{base:Heap}
theorem scLpl:FnScope ["web", "taken"] ["web", "taken"] (defScope sLpl):=⟨rfl,rfl,rfl,by decide +kernel,rfl,by decide +kernel,by decide +kernel⟩
theorem ok_lpl {f:Addr}{fd':FuncData}(F:Fun K "left_places" "left_places" sLpl f fd') (mRange:mg "range" = none):FnOk P w K mg base CX0 1 f fd' ["web", "taken"] spLpl:=by
 refine F.ok scLpl (fun vs H Q E h=>?_) (fun cdv A outer s H vs Q E hr h=>?_)
 . obtain⟨wa,ta,n,t,rfl,_⟩:=h
   rfl
 . obtain⟨wa,ta,n,t,rfl,hwa,hn,k⟩:=h
   refine⟨_,pss_one (ps_ret (pe_comp (own:=["place"]) (cn:=["taken"]) (ci:=[1]) rfl (csc rfl rfl) ⟨rfl,rfl,rfl,trivial⟩ rfl (pi_range1 rfl mRange (pa_cons (pe_ix ix_tup (pv 0) pe_int (fun _ _=>rfl)) pa_nil)) (fun _ _ _ _=>pg_name (i:=0) (nd_of rfl) rfl (Or.inl rfl))
    (fun _ _ _ _=>pts_one (pt_cmpR op_eq (pe_op op_and (pv 1) (pe_op op_shl pe_int (pv 0))) pe_int (nomark _))) (fun _ _ _ _=>pv 0))),?_⟩
   refine⟨_,rfl,wa,_,_,_,rfl,rfl,SqT.of hwa,rfl,(n:Int),rfl,by omega,by omega,[.int t],rfl,fun D hD=>?_⟩
   refine comp_range (lo:=0) (n:=((n:Int)).toNat) (fun q ys H4=>q<=n/\ys=(freeP t q).map (fun (p:Nat)=>V.int p)/\H4=upd H D (.lst ys)) ⟨Nat.zero_le _,rfl,rfl⟩ (fun q ys H4 z=>?_) (fun q ys H4 hq z=>?_) (fun ys H4 z=>?_)
   . obtain⟨hq,rfl,_⟩:=z
     rw[List.length_map]
     refine Nat.lt_of_le_of_lt (List.length_filter_le _ _) ?_
     rw[List.length_range]
     exact small_line (by omega)
   . obtain⟨_,rfl,rfl⟩:=z
     rw[Int.zero_add]
     have st:freeP t (q+1)=freeP t q++[q].filter fun p=>!t.testBit p:=by unfold freeP;rw[List.range_succ,List.filter_append]
     refine⟨⟨rfl,rfl⟩,?_⟩
     refine⟨_,rfl,_,rfl,1,(q:Int),rfl,rfl,⟨by omega,by omega,by decide⟩,_,_,rfl,rfl,rfl,_,rfl,?_⟩
     rw[shl_nat]
     dsimp only
     rw[dec_int']
     by_cases c:t.testBit q=false
     . refine ifT (decide_eq_true (by rw[bAnd_nat,and_pow.mpr c];rfl)) ?_
       refine⟨_,rfl,upd_same,by omega,?_,upd_upd⟩
       rw[st,List.filter_cons_of_pos (by rw[c];rfl),List.filter_nil,List.map_append];rfl
     . refine ifF (decide_eq_false fun z=>c (and_pow.mp (by rw[bAnd_nat] at z;omega))) ⟨by omega,?_,rfl⟩
       rw[st,List.filter_cons_of_neg (by simpa using c),List.filter_nil,List.append_nil]
   . obtain⟨_,rfl,rfl⟩:=z
     rw[Int.toNat_natCast]
     exact k D _ hD (same_laid hD) upd_same
theorem scBwo:FnScope ["sets", "numbers", "taken", "hub"] ["sets", "numbers", "taken", "hub"] (defScope sBwo):=⟨rfl,rfl,rfl,by decide +kernel,rfl,by decide +kernel,by decide +kernel⟩
theorem ok_bwo {f fC:Addr}{fd' fdC:FuncData}(F:Fun K "by_way_of" "by_way_of" sBwo f fd') (FC:Fun K "count_free" "count_free" sCf fC fdC) (bC:Binds K fdC ["sets", "taken"] []) (mC:mg "count_free" = some (.ref fC)) (mLen:mg "len" = none):FnOk P w K mg base CX0 2 f fd' ["sets", "numbers", "taken", "hub"] spBwo:=by
 have GC:FnOk P w K mg base CX0 1 fC fdC ["sets", "taken"] spCf:=ok_cf FC mLen
 refine F.ok scBwo (fun vs H Q E h=>?_) (fun cdv A outer s H vs Q E hr h=>?_)
 . obtain⟨sl,nl,R,nu,t,h,rfl,_⟩:=h
   rfl
 . obtain⟨sl,nl,R,nu,t,h,rfl,⟨rs,hsl,RI⟩,hnl,hh,hb,hlt,h24,hh24,k⟩:=h
   refine⟨_,pss_one (ps_ret (pe_op op_add (pe_call GC hr rfl mC FC.kp bC .nil pass0 (pa_cons (pe_ix ix_list (pv 0) (pv 3) (fun _ _=>rfl)) (pa_cons (pv 2) pa_nil))) (pe_ix ix_list (pv 1) (pe_op op_or (pv 2) (pe_op op_shl pe_int (pv 3))) (fun _ _=>rfl)))),?_⟩
   have hr':h<rs.length:=by rw[RI.1];exact hh
   have er:rs[h]? = some rs[h]:=List.getElem?_eq_getElem hr'
   have eR:R[h]? = some R[h]:=List.getElem?_eq_getElem hh
   have hrow:=RI.2 h _ _ er eR
   have egd:R.getD h []=R[h]:=by rw[List.getD_eq_getElem?_getD,eR];rfl
   refine⟨_,rfl,_,rfl,sl,_,_,.ref rs[h],rfl,rfl,SqL.of hsl,atI_nat (by rw[List.getElem?_map,er];rfl),_,rfl,rs[h],R[h],(t:Int),rfl,hrow,h24 _ (List.getElem_mem hh),fun H1 s1=>?_⟩
   refine⟨_,rfl,_,rfl,_,rfl,1,(h:Int),rfl,rfl,⟨by omega,by omega,by decide⟩,_,_,rfl,rfl,?_⟩
   rw[shl_nat]
   dsimp only
   rw[bor_free hb]
   refine⟨nl,_,_,.int (nu.getD (t+2 ^ h) 0),rfl,rfl,SqL.of (s1 _ _ hnl),atI_nat (by rw[List.getElem?_map,List.getD_eq_getElem?_getD,List.getElem?_eq_getElem hlt];rfl),?_⟩
   refine⟨_,_,rfl,rfl,?_⟩
   have:((R[h].filter (cfB (t:Int))).length:Nat)=brg R t h:=by unfold brg;rw[egd]
   rw[this]
   exact k H1 s1
end
end K36
namespace K36
open PySem L2 WM
def lamB:Pos:=⟨104,44,104,92⟩
abbrev lamBQ:Str:=(("best_next" : Str) ++ ".<locals>.") ++ "<lambda>"
abbrev Tb2 (H:Hp)(P2:Addr):Prop:=TabAt H P2 lamB lamBQ
def cst (R:List (List Int))(nu:List Int)(t h:Nat):Int:=(brg R t h:Nat)+nu.getD (t+2 ^ h) 0
structure DpAt (H:Hp)(sl nl:Addr)(R:List (List Int))(nu:List Int)(n:Nat):Prop where
 st:SetsAt H sl R
 nm:H nl=some (.lst (nu.map V.int))
 rl:R.length=n
 r24:∀row∈R,row.length<=24
 nl:nu.length=2 ^ n
 n8:n<=8
theorem DpAt.same {H H':Hp}{sl nl:Addr}{R:List (List Int)}{nu:List Int}{n:Nat}(h:DpAt H sl nl R nu n)(k:Same H H'):DpAt H' sl nl R nu n:=⟨h.st.same k,k _ _ h.nm,h.rl,h.r24,h.nl,h.n8⟩
theorem SetsAt.smP {P2:Addr}{H H':Hp}{sl:Addr}{R:List (List Int)}(h:SetsAt H sl R)(k:SmP P2 H H'):SetsAt H' sl R:=by
 obtain⟨rs,a,b,c⟩:=h
 exact⟨rs,k.get a (by intro ps z;cases z),b,fun i r row x y=>k.get (c i r row x y) (by intro ps z;cases z)⟩
theorem DpAt.smP {P2:Addr}{H H':Hp}{sl nl:Addr}{R:List (List Int)}{nu:List Int}{n:Nat}(h:DpAt H sl nl R nu n)(k:SmP P2 H H'):DpAt H' sl nl R nu n:=⟨h.st.smP k,k.get h.nm (by intro ps z;cases z),h.rl,h.r24,h.nl,h.n8⟩
theorem bit_lt {t n h:Nat}(ht:t<2 ^ n)(hh:h<n)(hb:t.testBit h=false):t+2 ^ h<2 ^ n:=by
 refine Nat.lt_pow_two_of_testBit _ fun j hj=>?_
 rw[Nat.add_comm,tb_add h t j hb,decide_eq_false (by omega),Nat.testBit_lt_two_pow (Nat.lt_of_lt_of_le ht (Nat.pow_le_pow_right (by decide) hj))];rfl
def spBest (P2:Addr):Sp:=fun vs H Q _=>∃(wa ta sl nl:Addr)(R:List (List Int))(nu:List Int)(n t:Nat),vs=[.ref wa,.ref sl,.ref nl,.int t]/\H wa=some (.tup [.int n,.ref ta])/\DpAt H sl nl R nu n/\t<2 ^ n/\freeP t n≠[]/\Tb2 H P2 /\
 ∀(h:Nat)(H':Hp),h∈freeP t n->(∀g∈freeP t n,cst R nu t h<=cst R nu t g)->SmP P2 H H'->Tb2 H' P2->Q (.int h) H'
section
variable {P:Program}{w:World}{K:PySem.W.Frag}{mg:Str->Option Value}{base:Heap}{P2:Addr}
theorem scBest:FnScope ["web", "sets", "numbers", "taken"] ["web", "sets", "numbers", "taken"] (defScope sBest):=⟨rfl,rfl,rfl,by decide +kernel,rfl,by decide +kernel,by decide +kernel⟩
theorem ok_best {f fL fB c:Addr}{fd' fdL fdB:FuncData}(F:FunC K "best_next" "best_next" sBest f fd' c) (C:PySem.W.CodeHd base c P2)(hbm:BmAt mg base)(mMin:mg "min" = none)
 (FL:Fun K "left_places" "left_places" sLpl fL fdL) (bL:Binds K fdL ["web", "taken"] []) (mL:mg "left_places" = some (.ref fL)) (GL:FnOk P w K mg base CX0 4 fL fdL ["web", "taken"] spLpl)
 (FB:Fun K "by_way_of" "by_way_of" sBwo fB fdB) (bB:Binds K fdB ["sets", "numbers", "taken", "hub"] []) (mB:mg "by_way_of" = some (.ref fB)) (GB:FnOk P w K mg base CX0 2 fB fdB ["sets", "numbers", "taken", "hub"] spBwo):FnOk P w K mg base CX0 5 f fd' ["web", "sets", "numbers", "taken"] (spBest P2):=by
 refine F.ok scBest (fun vs H Q E h=>?_) (fun A outer s H vs Q E hr h=>?_)
 . obtain⟨wa,ta,sl,nl,R,nu,n,t,rfl,_⟩:=h
   rfl
 . obtain⟨wa,ta,sl,nl,R,nu,n,t,rfl,hwa,DP,ht,hne,T,k⟩:=h
   refine⟨_,pss_one (ps_ret (pe_minlam (k:=2) (P:=P2) (c:=c) (pn := "hub") (cn:=["sets", "numbers", "taken"]) (ci:=[1,2,3]) rfl hr rfl mMin (pa_cons (pe_call GL hr rfl mL FL.kp bL .nil pass0 (pa_cons (pv 0) (pa_cons (pv 3) pa_nil))) pa_nil) rfl C hbm (csc rfl rfl) rfl rfl rfl ⟨rfl,rfl,rfl,rfl,rfl,rfl,rfl,rfl,rfl,trivial⟩ rfl rfl (fun _ _ _ _ _ _ _=>rfl)
    (fun f' cd' s3 H3 hr3=>pe_call GB hr3 rfl mB FB.kp bB .nil pass0 (pa_cons (pv 1) (pa_cons (pv 2) (pa_cons (pv 3) (pa_cons (pv 0) pa_nil))))))),?_⟩
   have n8:=DP.n8
   refine⟨_,rfl,_,rfl,wa,ta,n,t,rfl,hwa,by omega,fun l H1 hl0 s1 hl1=>?_⟩
   have em:(freeP t n).map (fun (p:Nat)=>V.int p)=((freeP t n).map fun (p:Nat)=>(p:Int)).map V.int:=by rw[List.map_map];rfl
   rw[em] at hl1
   refine⟨l,(freeP t n).map fun (p:Nat)=>(p:Int),fun x=>cst R nu t x.toNat,[.ref sl,.ref nl,.int t],rfl,hl1,by simpa using hne,rfl,T.same s1,fun H2 sm T2=>⟨fun x hx H3 s3=>?_,fun M b H4 B s4=>?_⟩⟩
   . obtain⟨p,hp,rfl⟩:=List.mem_map.mp hx
     obtain⟨p1,p2⟩:=freeP_mem.mp hp
     have D3:=((DP.same s1).smP sm).same s3
     have hlt:=bit_lt ht p1 p2
     refine⟨_,rfl,_,rfl,_,rfl,_,rfl,sl,nl,R,nu,t,p,rfl,D3.st,D3.nm,by rw[D3.rl];exact p1,p2,by rw[D3.nl];exact hlt,D3.r24,by omega,fun H4 s4=>⟨?_,s4⟩⟩
     show V.int _=V.int (cst R nu t ((p:Int)).toNat)
     rw[Int.toNat_natCast];rfl
   . obtain⟨b1,_,b3⟩:=B
     have hM:=List.mem_of_getElem? b1
     obtain⟨p,hp,rfl⟩:=List.mem_map.mp hM
     refine k p H4 hp (fun g hg=>?_) (((SmP.of s1).trans sm).trans (SmP.of s4)) (T2.same s4)
     obtain⟨i,hi,ei⟩:=List.getElem_of_mem (List.mem_map.mpr ⟨g,hg,rfl⟩:(g:Int)∈(freeP t n).map fun (p:Nat)=>(p:Int))
     have:=(b3 i g hi (by rw[List.getElem?_eq_getElem hi,ei])).1
     simpa using this
end
end K36
namespace K36
open PySem L2 WM
section
variable {X:Cx}
theorem pe_as {e:Expr}{te te':TE}(h:PE X e te)(m:∀ σ H Q,te' σ H Q->te σ H Q):PE X e te':=fun pins s σ H Q I q=>h pins s σ H Q I (m σ H Q q)
end
theorem Same.none {H H':Hp}{r:Addr}(s:Same H H')(h:H' r=none):H r=none:=by
 cases z:H r with
 | none=>rfl
 | some u=>have y:=(s _ _ z).symm.trans h;cases y
structure DpOk (R:List (List Int))(n:Nat)(nu:List Int)(lo:Nat):Prop where
 ln:nu.length=2 ^ n
 last:nu.getD (2 ^ n-1) 0=0
 le:∀t,lo<=t->t<2 ^ n->∀h∈freeP t n,nu.getD t 0<=cst R nu t h
 ex:∀t,lo<=t->t<2 ^ n->freeP t n≠[]->∃h∈freeP t n,nu.getD t 0=cst R nu t h
theorem freeP_full (n:Nat):freeP (2 ^ n-1) n=[]:=by
 apply List.eq_nil_iff_forall_not_mem.mpr
 intro p hp
 obtain⟨a,b⟩:=freeP_mem.mp hp
 rw[Nat.testBit_two_pow_sub_one,decide_eq_true a] at b
 cases b
theorem freeP_ne {t n:Nat}(h:t<2 ^ n-1):freeP t n≠[]:=by
 intro e
 have:t=2 ^ n-1:=by
  apply Nat.eq_of_testBit_eq
  intro j
  rw[Nat.testBit_two_pow_sub_one]
  by_cases c:j<n
  . rw[decide_eq_true c]
    cases b:t.testBit j with
    | true=>rfl
    | false=>
     have:j∈freeP t n:=freeP_mem.mpr ⟨c,b⟩
     rw[e] at this;cases this
  . rw[decide_eq_false c]
    exact Nat.testBit_lt_two_pow (Nat.lt_of_lt_of_le (by omega:t<2 ^ n) (Nat.pow_le_pow_right (by decide) (by omega)))
 omega
theorem getD_set_ne {nu:List Int}{i j:Nat}{x:Int}(h:i≠j):(nu.set i x).getD j 0=nu.getD j 0:=by
 rw[List.getD_eq_getElem?_getD,List.getD_eq_getElem?_getD,List.getElem?_set_ne h]
theorem getD_set_at {nu:List Int}{i:Nat}{x:Int}(h:i<nu.length):(nu.set i x).getD i 0=x:=by
 rw[List.getD_eq_getElem?_getD,List.getElem?_set_self h];rfl
theorem two_pos (h:Nat):0<2 ^ h:=Nat.pow_pos (by decide)
theorem cst_set {R:List (List Int)}{nu:List Int}{t t0 h:Nat}{x:Int}(ht:t0<=t):cst R (nu.set t0 x) t h=cst R nu t h:=by
 unfold cst
 rw[getD_set_ne (by have:=two_pos h;omega)]
theorem DpOk.start (R:List (List Int))(n:Nat):DpOk R n (List.replicate (2 ^ n) 0) (2 ^ n-1):=by
 have p:=two_pos n
 refine⟨List.length_replicate,by rw[List.getD_eq_getElem?_getD,List.getElem?_replicate];split <;> rfl,fun t h1 h2 h hh=>?_,fun t h1 h2 hne=>?_⟩
 . obtain rfl:t=2 ^ n-1:=by omega
   rw[freeP_full] at hh;cases hh
 . obtain rfl:t=2 ^ n-1:=by omega
   exact absurd (freeP_full n) hne
theorem DpOk.step {R:List (List Int)}{n:Nat}{nu:List Int}{t h:Nat}(d:DpOk R n nu (t+1))(ht:t<2 ^ n-1)(hh:h∈freeP t n)(hb:∀g∈freeP t n,cst R nu t h<=cst R nu t g):DpOk R n (nu.set t (cst R nu t h)) t:=by
 have hl:t<nu.length:=by rw[d.ln];omega
 refine⟨by rw[List.length_set];exact d.ln,by rw[getD_set_ne (by omega)];exact d.last,fun u h1 h2 g hg=>?_,fun u h1 h2 hne=>?_⟩
 . rw[cst_set h1]
   by_cases c:u=t
   . subst c
     rw[getD_set_at hl]
     exact hb g hg
   . rw[getD_set_ne (by omega)]
     exact d.le u (by omega) h2 g hg
 . by_cases c:u=t
   . subst c
     exact⟨h,hh,by rw[cst_set h1,getD_set_at hl]⟩
   . obtain⟨g,hg,e⟩:=d.ex u (by omega) h2 hne
     exact⟨g,hg,by rw[cst_set h1,getD_set_ne (by omega),e]⟩
def spLnum (P2:Addr):Sp:=fun vs H Q _=>∃(wa ta sl:Addr)(R:List (List Int))(n:Nat),vs=[.ref wa,.ref sl]/\H wa=some (.tup [.int n,.ref ta])/\SetsAt H sl R/\R.length=n/\(∀row∈R,row.length<=24)/\1<=n/\n<=8/\Tb2 H P2 /\
 ∀(nl:Addr)(nu:List Int)(H':Hp),H nl=none->SmP P2 H H'->Tb2 H' P2->H' nl=some (.lst (nu.map V.int))->DpOk R n nu 0->Q (.ref nl) H'
theorem flat_rep (m:Nat):(List.replicate m [V.int 0]).flatten=(List.replicate m (0:Int)).map V.int:=by
 induction m with
 | zero=>rfl
 | succ m ih=>rw[List.replicate_succ,List.flatten_cons,ih,List.replicate_succ];rfl
theorem pow_le8 {n:Nat}(h:n<=8):2 ^ n<=256:=Nat.le_trans (Nat.pow_le_pow_right (by decide) h) (by decide)
section
variable {P:Program}{w:World}{K:PySem.W.Frag}{mg:Str->Option Value}{base:Heap}{P2:Addr}
theorem scLnum:FnScope ["web", "sets", "count", "numbers", "taken"] ["web", "sets"] (defScope sLnum):=⟨rfl,rfl,rfl,by decide +kernel,rfl,by decide +kernel,by decide +kernel⟩
theorem ok_lnum {f fN fB:Addr}{fd' fdN fdB:FuncData}(F:Fun K "least_numbers" "least_numbers" sLnum f fd')
 (FN:Fun K "best_next" "best_next" sBest fN fdN) (bN:Binds K fdN ["web", "sets", "numbers", "taken"] []) (mN:mg "best_next" = some (.ref fN)) (GN:FnOk P w K mg base CX0 5 fN fdN ["web", "sets", "numbers", "taken"] (spBest P2))
 (FB:Fun K "by_way_of" "by_way_of" sBwo fB fdB) (bB:Binds K fdB ["sets", "numbers", "taken", "hub"] []) (mB:mg "by_way_of" = some (.ref fB)) (GB:FnOk P w K mg base CX0 5 fB fdB ["sets", "numbers", "taken", "hub"] spBwo) (mRange:mg "range" = none) :
 FnOk P w K mg base CX0 6 f fd' ["web", "sets"] (spLnum P2):=by
 refine F.ok scLnum (fun vs H Q E h=>?_) (fun cdv A outer s H vs Q E hr h=>?_)
 . obtain⟨wa,ta,sl,R,n,rfl,_⟩:=h
   rfl
 . obtain⟨wa,ta,sl,R,n,rfl,hwa,ST,hR,h24,n1,n8,T,k⟩:=h
   have p8:=pow_le8 n8
   have p1:2<=2 ^ n:=Nat.le_trans (by decide:2<=2 ^ 1) (Nat.pow_le_pow_right (by decide) n1)
   refine⟨_,pss_cons (ps_set (i:=2) scLnum.nd rfl (Or.inl rfl) (pe_op op_shl pe_int (pe_ix ix_tup (pv 0) pe_int (fun _ _=>rfl))))
    (pss_cons (ps_set (i:=3) scLnum.nd rfl (Or.inl rfl) (pe_op op_rep (pe_lst (pa_cons pe_int pa_nil)) (pv 2)))
    (pss_cons (ps_for PassesOwn.never rfl (pi_rangeD rfl mRange (pa_cons (pe_op op_sub (pv 2) pe_int) (pa_cons (pe_as (pe_un un_neg pe_int) (fun σ H Q q=>⟨1,rfl,q⟩)) (pa_cons (pe_as (pe_un un_neg pe_int) (fun σ H Q q=>⟨1,rfl,q⟩)) pa_nil)))) (pg_name (i:=4) scLnum.nd rfl (Or.inl rfl))
     (pss_one (ps_asg (pe_call GB hr rfl mB FB.kp bB .nil pass0 (pa_cons (pv 1) (pa_cons (pv 3) (pa_cons (pv 4) (pa_cons (pe_call GN hr rfl mN FN.kp bN .nil pass0 (pa_cons (pv 0) (pa_cons (pv 1) (pa_cons (pv 3) (pa_cons (pv 4) pa_nil))))) pa_nil))))) (pg_sub (pv 3) (pv 4) set_list))))
    (pss_one (ps_ret (pv 3))))),?_⟩
   refine⟨_,rfl,wa,_,_,_,rfl,rfl,SqT.of hwa,rfl,1,(n:Int),rfl,rfl,⟨by omega,by omega,by decide⟩,?_⟩
   show gName 2 (V.int (1*2 ^ ((n:Int)).toNat)) _ _ _
   rw[shl_nat]
   refine⟨by show 1<=sizeLine;decide,fun l0 hl0=>?_⟩
   refine⟨_,rfl,l0,((2 ^ n:Nat):Int),_,rfl,rfl,upd_same,by omega,by omega,?_,fun nl hnl=>?_⟩
   . have:sizeLine=16777216:=rfl
     show 1*((2 ^ n:Nat):Int).toNat<=sizeLine
     omega
   rw[Int.toNat_natCast,flat_rep]
   have hnl0:H nl=none:=Same.none (same_laid hl0) hnl
   have s1:Same H (upd (upd H l0 (.lst [.int 0])) nl (.lst ((List.replicate (2 ^ n) (0:Int)).map V.int))):=(same_laid hl0).trans (same_laid hnl)
   have h1:(upd (upd H l0 (.lst [.int 0])) nl (.lst ((List.replicate (2 ^ n) (0:Int)).map V.int))) nl=some (.lst ((List.replicate (2 ^ n) (0:Int)).map V.int)):=upd_same
   generalize (upd (upd H l0 (.lst [.int 0])) nl (.lst ((List.replicate (2 ^ n) (0:Int)).map V.int)))=H1 at s1 h1 ⊢
   refine⟨_,rfl,_,_,rfl,rfl,((2 ^ n:Nat):Int)-2,-1,rfl,⟨by omega,by omega,by omega,by omega⟩,for_down (lo:=((2 ^ n:Nat):Int)-2) (n:=(((2 ^ n:Nat):Int)-2 - -1).toNat) (fun i σ H2=>∃(v4:Option V)(nu:List Int),σ=[some (.ref wa),some (.ref sl),some (.int ((2 ^ n:Nat):Int)),some (.ref nl),v4]/\SmP P2 H H2/\Tb2 H2 P2/\H2 nl=some (.lst (nu.map V.int))/\DpOk R n nu (2 ^ n-1-i))
    ⟨_,_,rfl,SmP.of s1,T.same s1,h1,DpOk.start R n⟩ (fun i σ H2 hi z=>?_) (fun σ H2 z=>?_)⟩
   . obtain⟨v4,nu,rfl,sm2,T2,h2,dp⟩:=z
     have hi':i<2 ^ n-1:=by omega
     obtain⟨t,et⟩:∃t:Nat,t=2 ^ n-2-i:=⟨_,rfl⟩
     have eI:((2 ^ n:Nat):Int)-2-(i:Int)=(t:Int):=by omega
     rw[eI]
     rw[show 2 ^ n-1-i=t+1 by omega] at dp
     have hwa2:H2 wa=some (.tup [.int n,.ref ta]):=sm2.get hwa (by intro ps z;cases z)
     have D2:DpAt H2 sl nl R nu n:=⟨ST.smP sm2,h2,hR,h24,dp.ln,n8⟩
     have tlt:t<2 ^ n-1:=by omega
     refine⟨_,rfl,_,rfl,_,rfl,_,rfl,_,rfl,_,rfl,_,rfl,wa,ta,sl,nl,R,nu,n,t,rfl,hwa2,D2,by omega,freeP_ne tlt,T2,fun h H3 hh hb sm3 T3=>?_⟩
     have D3:=D2.smP sm3
     obtain⟨hn',hbit⟩:=freeP_mem.mp hh
     refine⟨sl,nl,R,nu,t,h,rfl,D3.st,D3.nm,by rw[hR];exact hn',hbit,by rw[dp.ln];exact bit_lt (by omega) hn' hbit,h24,by omega,fun H4 s4=>?_⟩
     refine⟨_,rfl,_,rfl,nl,_,(t:Int),t,rfl,rfl,s4 _ _ D3.nm,ixN_in (by omega) (by rw[List.length_map,dp.ln];omega),?_⟩
     have est:(nu.map V.int).set t (V.int ((brg R t h:Nat)+nu.getD (t+2 ^ h) 0))=(nu.set t (cst R nu t h)).map V.int:=by rw[List.map_set];rfl
     rw[est]
     refine⟨_,nu.set t (cst R nu t h),rfl,((sm2.trans sm3).trans (SmP.of s4)).chg hnl0,?_,upd_same,?_⟩
     . exact (T3.same s4).keep (fun o e=>by rw[upd_ne (fun z=>by rw[z,s4 _ _ D3.nm] at e;obtain⟨ps,hp,_⟩:=T3.same s4;rw[z,s4 _ _ D3.nm] at hp;cases hp)];exact e) (fun c φ e=>by rw[upd_ne (fun z=>by rw[z,s4 _ _ D3.nm] at e;cases e)];exact e)
     . rw[show 2 ^ n-1-(i+1)=t by omega]
       exact dp.step tlt hh hb
   . obtain⟨v4,nu,rfl,sm2,T2,h2,dp⟩:=z
     rw[show 2 ^ n-1-(((2 ^ n:Nat):Int)-2 - -1).toNat=0 by omega] at dp
     exact⟨_,rfl,k nl nu H2 hnl0 sm2 T2 h2 dp⟩
end
end K36
namespace K36
open PySem L2 WM
structure SetsR (ts:List T3)(n:Int)(R:List (List Int)):Prop where
 rl:R.length=n.toNat
 ro:∀(h:Nat)(row:List Int),R[h]? = some row->row.length=n.toNat/\∀i,i<n.toNat->∃xs:List Int,row[i]? = some (sn xs)/\xs.Pairwise (· < ·)/\∀p,p∈xs↔Btw ts h i p
def spAlls (PT:Addr):Sp:=fun vs H Q _=>∃(wa:Addr)(n:Int)(ts:List T3),vs=[.ref wa]/\WebAt H wa n ts/\Tb H PT/\∀(sl:Addr)(R:List (List Int))(H':Hp),SmP PT H H'->Tb H' PT->SetsAt H' sl R->SetsR ts n R->Q (.ref sl) H'
section
variable {P:Program}{w:World}{K:PySem.W.Frag}{mg:Str->Option Value}{base:Heap}{PT:Addr}
theorem scAlls:FnScope ["web", "rows"] ["web"] (defScope sAlls):=⟨rfl,rfl,rfl,by decide +kernel,rfl,by decide +kernel,by decide +kernel⟩
theorem ok_alls {f fL fS:Addr}{fd' fdL fdS:FuncData}(F:Fun K "all_sets" "all_sets" sAlls f fd') (FL:Fun K "lengths" "lengths" sLens fL fdL) (bL:Binds K fdL ["web"] []) (mL:mg "lengths" = some (.ref fL)) (GL:FnOk P w K mg base CX0 5 fL fdL ["web"] (spLens PT))
 (FS:Fun K "sets_from" "sets_from" sSf fS fdS) (bS:Binds K fdS ["rows", "hub"] []) (mS:mg "sets_from" = some (.ref fS)) (GS:FnOk P w K mg base CX0 5 fS fdS ["rows", "hub"] spSf) (mRange:mg "range" = none):FnOk P w K mg base CX0 6 f fd' ["web"] (spAlls PT):=by
 refine F.ok scAlls (fun vs H Q E h=>?_) (fun cdv A outer s H vs Q E hr h=>?_)
 . obtain⟨wa,n,ts,rfl,_⟩:=h
   rfl
 . obtain⟨wa,n,ts,rfl,W,T,k⟩:=h
   obtain⟨ta,tys,hwa,_,_,G⟩:=id W
   have hn1:=G.n1
   have hn24:=G.n24
   refine⟨_,pss_cons (ps_set (i:=1) scAlls.nd rfl (Or.inr rfl) (pe_call GL hr rfl mL FL.kp bL .nil pass0 (pa_cons (pv 0) pa_nil)))
    (pss_one (ps_ret (pe_comp (own:=["hub"]) (cn:=["rows"]) (ci:=[1]) rfl (csc rfl rfl) ⟨rfl,rfl,rfl,trivial⟩ rfl (pi_range1 rfl mRange (pa_cons (pe_ix ix_tup (pv 0) pe_int (fun _ _=>rfl)) pa_nil)) (fun _ _ _ _=>pg_name (i:=0) (nd_of rfl) rfl (Or.inl rfl)) (fun _ _ _ _=>pts_nil)
     (fun _ _ _ _=>pe_call GS hr rfl mS FS.kp bS .nil pass0 (pa_cons (pv 1) (pa_cons (pv 0) pa_nil)))))),?_⟩
   refine⟨_,rfl,wa,n,ts,rfl,W,T,fun rl rs M H1 sm1 T1 hrl RA RR=>?_⟩
   have hwa1:H1 wa=some (.tup [.int n,.ref ta]):=sm1.get hwa (by intro ps z;cases z)
   refine⟨_,rfl,wa,_,_,_,rfl,rfl,SqT.of hwa1,rfl,n,rfl,by omega,by omega,[.ref rl],rfl,fun D hD=>?_⟩
   refine comp_range (lo:=0) (n:=n.toNat) (fun q ys H2=>q<=n.toNat/\∃(ls:List Addr)(R:List (List Int)),ys=ls.map V.ref/\ls.length=q/\RowsI H2 ls R/\(∀l∈ls,l≠D)/\(∀(h:Nat)(row:List Int),R[h]? = some row->row.length=n.toNat/\∀i,i<n.toNat->∃xs:List Int,row[i]? = some (sn xs)/\xs.Pairwise (· < ·)/\∀p,p∈xs↔Btw ts h i p)/\Same H1 H2/\H2 D=some (.lst ys))
    ⟨Nat.zero_le _,[],[],rfl,rfl,⟨rfl,fun i r row e=>by simp at e⟩,fun l hl=>by simp at hl,fun h row e=>by simp at e,same_laid hD,upd_same⟩ (fun q ys H2 z=>?_) (fun q ys H2 hq z=>?_) (fun ys H2 z=>?_)
   . obtain⟨hq,ls,R,rfl,hl,_⟩:=z
     rw[List.length_map,hl]
     exact small_line (by omega)
   . obtain⟨_,ls,R,rfl,hl,RI,fr,ro,s2,hD2⟩:=z
     rw[Int.zero_add]
     refine⟨⟨rfl,rfl⟩,?_⟩
     refine tyes ?_
     refine⟨_,rfl,_,rfl,rl,rs,M,n,ts,(q:Int),rfl,G,s2 _ _ hrl,RA.same s2,RR,by omega,by omega,fun l bs H3 s3 h3 hbl hbs=>?_⟩
     have hD3:=s3 _ _ hD2
     have nlD:l≠D:=fun z=>by
      rw[z,hD3] at h3
      injection h3 with h3
      injection h3 with h3
      have e1:=congrArg List.length h3
      rw[List.length_map,List.length_map,List.length_map,hl,hbl] at e1
      omega
     have hRl:R.length=q:=by rw[<-RI.1,hl]
     refine⟨hD3,hq,ls++[l],R++[bs.map sn],by rw[List.map_append];rfl,by rw[List.length_append,hl];rfl,⟨by rw[List.length_append,List.length_append,RI.1];rfl,fun i r row e1 e2=>?_⟩,fun y hy=>?_,fun h row e=>?_,same_chg (s2.trans s3) hD,upd_same⟩
     . by_cases c:i<q
       . rw[List.getElem?_append_left (by omega)] at e1 e2
         rw[upd_ne (fr r (List.mem_of_getElem? e1))]
         exact s3 _ _ (RI.2 i r row e1 e2)
       . rw[List.getElem?_append_right (by omega)] at e1 e2
         have hi:i-ls.length=0:=by
          have:=(List.getElem?_eq_some_iff.mp e1).1
          rw[List.length_singleton] at this
          omega
         rw[hi] at e1
         rw[show i-R.length=0 by omega] at e2
         cases e1
         cases e2
         rw[upd_ne nlD];exact h3
     . rcases List.mem_append.mp hy with hy | hy
       . exact fr y hy
       . rw[List.mem_singleton.mp hy];exact nlD
     . by_cases c:h<q
       . rw[List.getElem?_append_left (by omega)] at e
         exact ro h row e
       . rw[List.getElem?_append_right (by omega)] at e
         have hi:h=q:=by
          have:=(List.getElem?_eq_some_iff.mp e).1
          rw[List.length_singleton] at this
          omega
         subst hi
         rw[show h-R.length=0 by omega] at e
         cases e
         refine⟨by rw[List.length_map,hbl],fun i hi=>?_⟩
         obtain⟨xs,hx⟩:∃xs,bs[i]? = some xs:=⟨_,List.getElem?_eq_getElem (by omega)⟩
         exact⟨xs,by rw[List.getElem?_map,hx];rfl,hbs i xs hx⟩
   . obtain⟨_,ls,R,rfl,hl,RI,fr,ro,s2,hD2⟩:=z
     exact k D R H2 (sm1.trans (SmP.of s2)) (T1.same s2) ⟨ls,hD2,RI⟩ ⟨by rw[<-RI.1,hl],ro⟩
end
end K36
namespace K36
open PySem L2 WM
def spSnL:Sp:=fun vs H Q _=>∃(p:Addr)(ps:List Int),vs=[.ref p]/\H p=some (.lst (ps.map V.int))/\(∀x∈ps,0<=x/\x<24)/\ps.length<=24/\∀(H':Hp),Same H H'->Q (.int (sn ps)) H'
section
variable {P:Program}{w:World}{K:PySem.W.Frag}{mg:Str->Option Value}{base:Heap}
theorem ok_snL {f:Addr}{fd':FuncData}(F:Fun K "set_number" "set_number" sSn f fd') (mSum:mg "sum" = none):FnOk P w K mg base CX0 1 f fd' ["places"] spSnL:=by
 refine F.ok scSn (fun vs H Q E h=>?_) (fun cdv A outer s H vs Q E hr h=>?_)
 . obtain⟨p,ps,rfl,_⟩:=h
   rfl
 . obtain⟨p,ps,rfl,hp,rng,hl,k⟩:=h
   refine⟨_,pss_one (ps_ret (pe_callB (call_sumL rfl) (by rfl) mSum (by decide +kernel) (pa_cons (pe_comp (own:=["place"]) (cn:=[]) (ci:=[]) rfl (csc rfl rfl) trivial rfl (pi_list (pv 0)) (fun _ _ _ _=>pg_name (i:=0) (nd_of rfl) rfl (Or.inl rfl)) (fun _ _ _ _=>pts_nil)
    (fun _ _ _ _=>pe_op op_shl pe_int (pv 0))) pa_nil))),?_⟩
   refine⟨_,rfl,p,rfl,⟨_,SqL.of hp⟩,[],rfl,fun D hD=>?_⟩
   refine comp_list (a:=p) (xs:=ps.map V.int) (fun i ys H4=>ys=((ps.take i).map fun x=>(1:Int)*2 ^ x.toNat).map V.int/\H4=upd H D (.lst ys)) ⟨rfl,rfl⟩ (fun i ys H4 z=>?_) (fun i ys H4 z=>?_) (fun i x ys H4 hx z=>?_) (fun ys H4 z=>?_)
   . obtain⟨_,rfl⟩:=z
     exact SqL.of (by rw[upd_ne (ne_of_none hp hD)];exact hp)
   . obtain⟨rfl,_⟩:=z
     rw[List.length_map,List.length_map,List.length_take]
     exact small_line (by omega)
   . obtain⟨rfl,rfl⟩:=z
     obtain⟨y,hy,rfl⟩:=int_at hx
     have yr:=rng y (List.mem_of_getElem? hy)
     refine⟨⟨rfl,rfl⟩,?_⟩
     refine tyes ?_
     refine⟨_,rfl,1,y,rfl,rfl,⟨yr.1,by omega,by decide⟩,upd_same,?_,upd_upd⟩
     rw[snoc_map hy,List.map_append];rfl
   . obtain⟨rfl,rfl⟩:=z
     rw[List.length_map,List.take_of_length_le (Nat.le_refl _)]
     exact⟨D,_,rfl,SqL.of upd_same,k _ (same_laid hD)⟩
end
theorem nodup_le:∀{l l':List Nat},l.Nodup->(∀x∈l,x∈l')->l.length<=l'.length
 | [],_,_,_=>Nat.zero_le _
 | x::l,l',nd,h=>by
  obtain⟨h1,h2⟩:=List.nodup_cons.mp nd
  have hx:=h x List.mem_cons_self
  have:=nodup_le (l:=l) (l':=l'.erase x) h2 fun y hy=>(List.mem_erase_of_ne (fun z=>h1 (by rw[<-z];exact hy))).mpr (h y (List.mem_cons_of_mem _ hy))
  rw[List.length_erase_of_mem hx] at this
  have:=List.length_pos_of_mem hx
  rw[List.length_cons]
  omega
def inA (R:List (List Int)):Nat->List Nat->Nat
 | _,[]=>0
 | t,h::os=>brg R t h+inA R (t+2 ^ h) os
theorem snN_cons (h:Nat)(os:List Nat):snN (h::os)=2 ^ h+snN os:=by simp[snN]
theorem snN_snoc (h:Nat)(os:List Nat):snN (os++[h])=snN os+2 ^ h:=by simp[snN]
theorem inA_snoc {R:List (List Int)}{h:Nat}:∀{os:List Nat}{t:Nat},inA R t (os++[h])=inA R t os+brg R (t+snN os) h
 | [],t=>by simp[inA,snN]
 | g::os,t=>by
  show brg R t g+inA R (t+2 ^ g) (os++[h])=brg R t g+inA R (t+2 ^ g) os+brg R (t+snN (g::os)) h
  rw[inA_snoc,snN_cons,Nat.add_assoc t]
  omega
theorem sn_ofNat (os:List Nat):sn (os.map fun (p:Nat)=>(p:Int))=((snN os:Nat):Int):=by
 rw[sn_nat,List.map_map]
 have:(os.map (Int.toNat∘fun (p:Nat)=>(p:Int)))=os:=by
  conv=>rhs;rw[<-List.map_id os]
  exact List.map_congr_left fun x _=>by simp
 rw[this]
theorem snN_lt {os:List Nat}{n:Nat}(nd:os.Nodup)(h:∀p∈os,p<n):snN os<2 ^ n:=by
 refine Nat.lt_pow_two_of_testBit _ fun j hj=>?_
 rw[snN_bit nd]
 exact decide_eq_false fun z=>by have:=h j z;omega
theorem free_os {os:List Nat}{n h:Nat}(nd:os.Nodup):h∈freeP (snN os) n↔h<n/\h∉os:=by
 rw[freeP_mem,snN_bit nd,decide_eq_false_iff_not]
theorem free_ne {os:List Nat}{n:Nat}(nd:os.Nodup)(hl:os.length<n):freeP (snN os) n≠[]:=by
 intro e
 have:(List.range n).length<=os.length:=nodup_le List.nodup_range fun x hx=>by
  by_cases c:x∈os
  . exact c
  . have:=(free_os (n:=n) nd).mpr ⟨List.mem_range.mp hx,c⟩
    rw[e] at this;cases this
 rw[List.length_range] at this
 omega
structure OrdW (R:List (List Int))(n:Nat)(nu:List Int)(os:List Nat):Prop where
 nd:os.Nodup
 lt:∀p∈os,p<n
 eq:nu.getD 0 0=(inA R 0 os:Nat)+nu.getD (snN os) 0
theorem OrdW.nil {R:List (List Int)}{n:Nat}{nu:List Int}:OrdW R n nu []:=⟨List.nodup_nil,(fun p h=>by cases h),by simp[inA,snN]⟩
theorem OrdW.step {R:List (List Int)}{n h:Nat}{nu:List Int}{os:List Nat}(o:OrdW R n nu os)(d:DpOk R n nu 0)(hh:h∈freeP (snN os) n)(hb:∀g∈freeP (snN os) n,cst R nu (snN os) h<=cst R nu (snN os) g):OrdW R n nu (os++[h]):=by
 obtain⟨h1,h2⟩:=(free_os o.nd).mp hh
 have hlt:=snN_lt o.nd o.lt
 refine⟨?_,fun p hp=>?_,?_⟩
 . rw[List.nodup_append]
   exact⟨o.nd,by simp,fun a ha b hb'=>by rw[List.mem_singleton.mp hb'];exact fun z=>h2 (z ▸ ha)⟩
 . rcases List.mem_append.mp hp with hp | hp
   . exact o.lt p hp
   . rw[List.mem_singleton.mp hp];exact h1
 . obtain⟨g,hg,e⟩:=d.ex (snN os) (Nat.zero_le _) hlt (fun z=>by rw[z] at hh;cases hh)
   have e1:=d.le (snN os) (Nat.zero_le _) hlt h hh
   have e2:=hb g hg
   have e3:nu.getD (snN os) 0=cst R nu (snN os) h:=by omega
   rw[o.eq,e3,inA_snoc,snN_snoc,Nat.zero_add]
   unfold cst
   omega
structure Told (ts:List T3)(n:Nat)(R:List (List Int))(nu:List Int)(os:List Nat):Prop where
 sr:SetsR ts n R
 dp:DpOk R n nu 0
 ow:OrdW R n nu os
 ln:os.length=n
def spLord (PT P2:Addr):Sp:=fun vs H Q _=>∃(wa:Addr)(n:Nat)(ts:List T3),vs=[.ref wa]/\WebAt H wa n ts/\n<=8/\Tb H PT/\Tb2 H P2/\PT≠P2 /\
 ∀(r oa na:Addr)(R:List (List Int))(nu:List Int)(os:List Nat)(H':Hp),SmT H H'->Tb H' PT->Tb2 H' P2->H' r=some (.tup [.ref oa,.ref na])->H' oa=some (.tup ((os.map fun (p:Nat)=>(p:Int)).map V.int))->H' na=some (.tup (nu.map V.int))->Told ts n R nu os->Q (.ref r) H'
def spRtm:Sp:=fun vs H Q _=>∃(wa ta:Addr)(n:Nat),vs=[.ref wa]/\H wa=some (.tup [.int n,.ref ta])/\n<=8/\Q .non H
section
variable {P:Program}{w:World}{K:PySem.W.Frag}{mg:Str->Option Value}{base:Heap}{PT P2:Addr}
theorem pss_no {X:Cx}{st:List Stmt}:PSs X st (fun _ _ _=>False):=fun _ _ _ _ _ _ h=>h.elim
theorem scRtm:FnScope ["web"] ["web"] (defScope sRtm):=⟨rfl,rfl,rfl,by decide +kernel,rfl,by decide +kernel,by decide +kernel⟩
theorem ok_rtm {f:Addr}{fd':FuncData}{tk:Tok}(F:Fun K "refuse_too_many" "refuse_too_many" sRtm f fd') (mMT:mg "MOST_PLACES_OF_LEASTS" = some (.int 8 tk)):FnOk P w K mg base CX0 1 f fd' ["web"] spRtm:=by
 refine F.ok scRtm (fun vs H Q E h=>?_) (fun cdv A outer s H vs Q E hr h=>?_)
 . obtain⟨wa,ta,n,rfl,_⟩:=h
   rfl
 . obtain⟨wa,ta,n,rfl,hwa,h8,q⟩:=h
   refine⟨_,pss_one (ps_if (pt_cmpR op_gt (pe_ix ix_tup (pv 0) pe_int (fun _ _=>rfl)) (pe_glob (v:=.int 8) rfl mMT ⟨tk,rfl⟩) (nomark _)) pss_no pss_nil),?_⟩
   exact⟨_,rfl,wa,_,_,_,rfl,rfl,SqT.of hwa,rfl,_,_,rfl,rfl,_,rfl,ifF (decide_eq_false (by omega)) q⟩
theorem scLord:FnScope ["web", "sets", "numbers", "order", "taken"] ["web"] (defScope sLord):=⟨rfl,rfl,rfl,by decide +kernel,rfl,by decide +kernel,by decide +kernel⟩
theorem ok_lord {f fR fA fN fS fB:Addr}{fd' fdR fdA fdN fdS fdB:FuncData}(F:Fun K "least_order" "least_order" sLord f fd')
 (FR:Fun K "refuse_too_many" "refuse_too_many" sRtm fR fdR) (bR:Binds K fdR ["web"] []) (mR:mg "refuse_too_many" = some (.ref fR)) (GR:FnOk P w K mg base CX0 6 fR fdR ["web"] spRtm)
 (FA:Fun K "all_sets" "all_sets" sAlls fA fdA) (bA:Binds K fdA ["web"] []) (mA:mg "all_sets" = some (.ref fA)) (GA:FnOk P w K mg base CX0 6 fA fdA ["web"] (spAlls PT))
 (FN:Fun K "least_numbers" "least_numbers" sLnum fN fdN) (bN:Binds K fdN ["web", "sets"] []) (mN:mg "least_numbers" = some (.ref fN)) (GN:FnOk P w K mg base CX0 6 fN fdN ["web", "sets"] (spLnum P2))
 (FS:Fun K "set_number" "set_number" sSn fS fdS) (bS:Binds K fdS ["places"] []) (mS:mg "set_number" = some (.ref fS)) (GS:FnOk P w K mg base CX0 6 fS fdS ["places"] spSnL)
 (FB:Fun K "best_next" "best_next" sBest fB fdB) (bB:Binds K fdB ["web", "sets", "numbers", "taken"] []) (mB:mg "best_next" = some (.ref fB)) (GB:FnOk P w K mg base CX0 6 fB fdB ["web", "sets", "numbers", "taken"] (spBest P2))
 (mLen:mg "len" = none) (mTuple:mg "tuple" = none):FnOk P w K mg base CX0 7 f fd' ["web"] (spLord PT P2):=by
 refine F.ok scLord (fun vs H Q E h=>?_) (fun cdv A outer s H vs Q E hr h=>?_)
 . obtain⟨wa,n,ts,rfl,_⟩:=h
   rfl
 . obtain⟨wa,n,ts,rfl,W,n8,T,T2,ne,k⟩:=h
   obtain⟨ta,tys,hwa,_,_,G⟩:=id W
   have hn1:=G.n1
   refine⟨_,pss_cons (ps_expr (pe_call GR hr rfl mR FR.kp bR .nil pass0 (pa_cons (pv 0) pa_nil)))
    (pss_cons (ps_set (i:=1) scLord.nd rfl (Or.inl rfl) (pe_call GA hr rfl mA FA.kp bA .nil pass0 (pa_cons (pv 0) pa_nil)))
    (pss_cons (ps_set (i:=2) scLord.nd rfl (Or.inl rfl) (pe_call GN hr rfl mN FN.kp bN .nil pass0 (pa_cons (pv 0) (pa_cons (pv 1) pa_nil))))
    (pss_cons (ps_set (i:=3) scLord.nd rfl (Or.inl rfl) (pe_lst pa_nil))
    (pss_cons (ps_while PassesOwn.never (pt_cmpR op_lt (pe_callB call_len_seq (by rfl) mLen PySem.boot_len (pa_cons (pv 3) pa_nil)) (pe_ix ix_tup (pv 0) pe_int (fun _ _=>rfl)) (nomark _))
     (pss_cons (ps_set (i:=4) scLord.nd rfl (Or.inl rfl) (pe_call GS hr rfl mS FS.kp bS .nil pass0 (pa_cons (pv 3) pa_nil)))
     (pss_one (ps_expr (pe_bm PySem.F.plainAttrs_list PySem.F.slot_list_append PySem.F.type_list_append mt_append (pv 3) (pa_cons (pe_call GB hr rfl mB FB.kp bB .nil pass0 (pa_cons (pv 0) (pa_cons (pv 1) (pa_cons (pv 2) (pa_cons (pv 4) pa_nil))))) pa_nil))))))
    (pss_one (ps_ret (pe_tup (pa_cons (pe_callTy call_tuple_of (by rfl) mTuple (by decide +kernel) (pa_cons (pv 3) pa_nil)) (pa_cons (pe_callTy call_tuple_of (by rfl) mTuple (by decide +kernel) (pa_cons (pv 2) pa_nil)) pa_nil))))))))),?_⟩
   refine⟨_,rfl,wa,ta,n,rfl,hwa,n8,?_⟩
   refine⟨_,rfl,wa,(n:Int),ts,rfl,W,T,fun sl R H1 sm1 T1 ST1 SR=>?_⟩
   have hwa1:H1 wa=some (.tup [.int n,.ref ta]):=sm1.get hwa (by intro ps z;cases z)
   have T21:Tb2 H1 P2:=sm1.tab (Ne.symm ne) T2
   have hRl:R.length=n:=by rw[SR.rl];omega
   have h24:∀row∈R,row.length<=24:=fun row hr'=>by
    obtain⟨i,hi,e⟩:=List.getElem_of_mem hr'
    have:=(SR.ro i row (by rw[List.getElem?_eq_getElem hi,e])).1
    omega
   refine⟨_,rfl,_,rfl,wa,ta,sl,R,n,rfl,hwa1,ST1,hRl,h24,by omega,n8,T21,fun nl nu H2 hnl sm2 T22 h2 dp=>?_⟩
   refine⟨by show 0<=sizeLine;decide,fun ol hol=>?_⟩
   have hol2:H2 ol=none:=hol
   have s3:=same_laid (o:=.lst []) hol
   have h3:(upd H2 ol (.lst [])) ol=some (.lst ((([]:List Nat).map fun (p:Nat)=>(p:Int)).map V.int)):=upd_same
   refine⟨fun m σ H3=>∃(v4:Option V)(os:List Nat),σ=[some (.ref wa),some (.ref sl),some (.ref nl),some (.ref ol),v4]/\m=n-os.length/\SmP P2 H2 H3/\Tb2 H3 P2/\H3 ol=some (.lst ((os.map fun (p:Nat)=>(p:Int)).map V.int))/\OrdW R n nu os/\os.length<=n,
    ⟨n,none,[],rfl,rfl,SmP.of s3,T22.same s3,h3,OrdW.nil,Nat.zero_le _⟩,?_⟩
   rintro m σ H3 ⟨v4,os,rfl,rfl,sm3,T3,h3o,O,hos⟩
   have hwa3:H3 wa=some (.tup [.int n,.ref ta]):=sm3.get (sm2.get hwa1 (by intro ps z;cases z)) (by intro ps z;cases z)
   have D3:DpAt H3 sl nl R nu n:=(⟨ST1.smP sm2,h2,hRl,h24,dp.ln,n8⟩:DpAt H2 sl nl R nu n).smP sm3
   refine⟨_,rfl,ol,_,rfl,.inl (SqL.of h3o),_,rfl,wa,_,_,_,rfl,rfl,SqT.of hwa3,rfl,_,_,rfl,rfl,_,rfl,?_⟩
   rw[List.length_map,List.length_map]
   by_cases c:os.length<n
   . refine ifT (decide_eq_true (by omega)) ⟨fun σ' H'=>∃(v4:Option V)(os':List Nat),σ'=[some (.ref wa),some (.ref sl),some (.ref nl),some (.ref ol),v4]/\os'.length=os.length+1/\SmP P2 H2 H'/\Tb2 H' P2/\H' ol=some (.lst ((os'.map fun (p:Nat)=>(p:Int)).map V.int))/\OrdW R n nu os',?_,?_⟩
     . rintro σ' H' ⟨v4',os',rfl,hl',sm',T',h',O'⟩
       exact⟨n-os'.length,by omega,v4',os',rfl,rfl,sm',T',h',O',by omega⟩
     . have hlt:=snN_lt O.nd O.lt
       refine⟨_,rfl,ol,_,rfl,h3o,fun x hx=>?_,by rw[List.length_map];omega,fun H4 s4=>?_⟩
       . obtain⟨p,hp,rfl⟩:=List.mem_map.mp hx
         have:=O.lt p hp
         omega
       rw[sn_ofNat]
       have h4o:=s4 _ _ h3o
       refine⟨_,rfl,.inl ⟨rfl,_,SqL.of h4o⟩,_,rfl,_,rfl,_,rfl,_,rfl,wa,ta,sl,nl,R,nu,n,snN os,rfl,s4 _ _ hwa3,D3.same s4,hlt,free_ne O.nd c,T3.same s4,fun h H5 hh hb sm5 T5=>?_⟩
       have h5o:H5 ol=some (.lst ((os.map fun (p:Nat)=>(p:Int)).map V.int)):=sm5.get h4o (by intro ps z;cases z)
       refine⟨ol,_,.int h,rfl,rfl,h5o,by rw[List.length_map,List.length_map];exact small_line (by omega),?_⟩
       refine⟨_,os++[h],rfl,by rw[List.length_append];rfl,((sm3.trans (SmP.of s4)).trans sm5).chg hol2,?_,by rw[upd_same,List.map_append,List.map_append];rfl,O.step dp hh hb⟩
       exact T5.keep (fun o e=>by rw[upd_ne (fun z=>by obtain⟨ps,hp,_⟩:=T5;rw[z,h5o] at hp;cases hp)];exact e) (fun c φ e=>by rw[upd_ne (fun z=>by rw[z,h5o] at e;cases e)];exact e)
   . refine ifF (decide_eq_false (by omega)) ?_
     refine⟨_,rfl,ol,_,rfl,.inl ⟨SqL.of h3o,fun oa hoa=>?_⟩⟩
     have s5:=same_laid (o:=.tup ((os.map fun (p:Nat)=>(p:Int)).map V.int)) hoa
     refine⟨_,rfl,nl,_,rfl,.inl ⟨SqL.of (s5 _ _ D3.nm),fun na hna=>?_⟩⟩
     have s6:=same_laid (o:=.tup (nu.map V.int)) hna
     refine⟨by show 2<=sizeLine;decide,fun r hr'=>?_⟩
     have s7:=same_laid (o:=.tup [.ref oa,.ref na]) hr'
     have s57:=(s5.trans s6).trans s7
     have T7:Tb H3 PT:=sm3.tab ne (sm2.tab ne T1)
     exact k r oa na R nu os _ ((sm1.smT.trans (sm2.trans sm3).smT).trans (SmT.of s57)) (T7.same s57) (T3.same s57) upd_same (s7 _ _ (s6 _ _ upd_same)) (s7 _ _ upd_same) ⟨SR,dp,O,by omega⟩
end
end K36
namespace K36
open PySem L2 WM
structure NN (R:List (List Int)):Prop where
 nn:∀row∈R,∀m∈row,0<=m
 r24:∀row∈R,row.length<=24
 n8:R.length<=8
def spBrt:Sp:=fun vs H Q _=>∃(sl:Addr)(R:List (List Int))(t h:Nat),vs=[.ref sl,.int t,.int h]/\SetsAt H sl R/\NN R/\h<R.length/\∀H',Same H H'->Q (.int (brg R t h:Nat)) H'
def spInal:Sp:=fun vs H Q _=>∃(sl oa:Addr)(R:List (List Int))(os:List Nat),vs=[.ref sl,.ref oa]/\SetsAt H sl R/\NN R/\H oa=some (.tup ((os.map fun (p:Nat)=>(p:Int)).map V.int))/\(∀p∈os,p<R.length)/\os.length<=24/\∀H',Same H H'->Q (.int (inA R 0 os:Nat)) H'
theorem inA_take {R:List (List Int)}{os:List Nat}{i h:Nat}(e:os[i]? = some h):inA R 0 (os.take (i+1))=inA R 0 (os.take i)+brg R (snN (os.take i)) h/\snN (os.take (i+1))=snN (os.take i)+2 ^ h:=by
 rw[List.take_add_one,e]
 show inA R 0 (os.take i++[h])=_/\snN (os.take i++[h])=_
 rw[inA_snoc,snN_snoc,Nat.zero_add]
 exact⟨rfl,rfl⟩
section
variable {P:Program}{w:World}{K:PySem.W.Frag}{mg:Str->Option Value}{base:Heap}
theorem scBrt:FnScope ["_law_masks_here", "_law_some", "_law_hub"] ["_law_masks_here", "_law_some", "_law_hub"] (defScope sBrt):=⟨rfl,rfl,rfl,by decide +kernel,rfl,by decide +kernel,by decide +kernel⟩
theorem ok_brt {f:Addr}{fd':FuncData}(F:Fun K "_law_brought" "_law_brought" sBrt f fd') (mLen:mg "len" = none):FnOk P w K mg base CX0 1 f fd' ["_law_masks_here", "_law_some", "_law_hub"] spBrt:=by
 refine F.ok scBrt (fun vs H Q E h=>?_) (fun cdv A outer s H vs Q E hr h=>?_)
 . obtain⟨sl,R,t,h,rfl,_⟩:=h
   rfl
 . obtain⟨sl,R,t,h,rfl,⟨rs,hsl,RI⟩,N,hh,k⟩:=h
   refine⟨_,pss_one (ps_ret (pe_callB call_len_seq (by rfl) mLen PySem.boot_len (pa_cons (pe_comp (own:=["_law_mask"]) (cn:=["_law_some"]) (ci:=[1]) rfl (csc rfl rfl) ⟨rfl,rfl,rfl,trivial⟩ rfl (pi_list (pe_ix ix_list (pv 0) (pv 2) (fun _ _=>rfl))) (fun _ _ _ _=>pg_name (i:=0) (nd_of rfl) rfl (Or.inl rfl))
    (fun _ _ _ _=>pts_one (PW.pt (pw_and (pt_cmpR op_gt (pv 0) pe_int (nomark _)) (pw_and1 (pt_cmpR op_eq (pe_op op_and (pv 0) (pv 1)) pe_int (nomark _)))))) (fun _ _ _ _=>pv 0)) pa_nil))),?_⟩
   have hr':h<rs.length:=by rw[RI.1];exact hh
   have er:rs[h]? = some rs[h]:=List.getElem?_eq_getElem hr'
   have eR:R[h]? = some R[h]:=List.getElem?_eq_getElem hh
   have hrow:=RI.2 h _ _ er eR
   have egd:R.getD h []=R[h]:=by rw[List.getD_eq_getElem?_getD,eR];rfl
   have hm:R[h]∈R:=List.getElem_mem hh
   generalize hl:rs[h]=l at er hrow
   generalize hn:R[h]=ns at eR hrow egd hm
   refine⟨_,rfl,_,rfl,sl,_,_,.ref l,rfl,rfl,SqL.of hsl,atI_nat (by rw[List.getElem?_map,er];rfl),l,rfl,⟨_,SqL.of hrow⟩,[.int t],rfl,fun D hD=>?_⟩
   have nlD:l≠D:=ne_of_none hrow hD
   refine comp_list (a:=l) (xs:=ns.map V.int) (fun i ys H4=>ys=((ns.take i).filter (cfB t)).map V.int/\H4=upd H D (.lst ys)) ⟨rfl,rfl⟩ (fun i ys H4 z=>?_) (fun i ys H4 z=>?_) (fun i x ys H4 hx z=>?_) (fun ys H4 z=>?_)
   . obtain⟨_,rfl⟩:=z
     exact SqL.of (by rw[upd_ne nlD];exact hrow)
   . obtain⟨rfl,_⟩:=z
     rw[List.length_map]
     refine Nat.lt_of_le_of_lt (List.length_filter_le _ _) ?_
     rw[List.length_take]
     have:=N.r24 ns hm
     exact small_line (by omega)
   . obtain⟨rfl,rfl⟩:=z
     obtain⟨m,hm',rfl⟩:=int_at hx
     have m0:=N.nn ns hm m (List.mem_of_getElem? hm')
     have st:(ns.take (i+1)).filter (cfB t)=(ns.take i).filter (cfB t)++[m].filter (cfB t):=by rw[List.take_add_one,hm',List.filter_append];rfl
     refine⟨⟨rfl,rfl⟩,?_⟩
     refine⟨_,rfl,_,_,rfl,rfl,_,rfl,?_⟩
     by_cases c:m=0
     . refine ifF (decide_eq_false (by omega)) ?_
       refine iteF ⟨?_,rfl⟩
       rw[st,List.filter_cons_of_neg (by unfold cfB;rw[decide_eq_true c];simp),List.filter_nil,List.append_nil]
     . refine ifT (decide_eq_true (by omega)) ?_
       refine⟨_,rfl,_,rfl,_,_,rfl,rfl,rfl,_,rfl,?_⟩
       rw[dec_int']
       by_cases c2:PySem.Builtin.bitAnd m t=0
       . refine ifT (decide_eq_true c2) ?_
         refine⟨_,rfl,upd_same,?_,upd_upd⟩
         rw[st,List.filter_cons_of_pos (by unfold cfB;rw[decide_eq_false c,decide_eq_true c2];rfl),List.filter_nil,List.map_append];rfl
       . refine ifF (decide_eq_false c2) ⟨?_,rfl⟩
         rw[st,List.filter_cons_of_neg (by unfold cfB;rw[decide_eq_false c2,Bool.and_false];simp),List.filter_nil,List.append_nil]
   . obtain⟨rfl,rfl⟩:=z
     rw[List.length_map,List.take_of_length_le (Nat.le_refl _)]
     refine⟨D,_,rfl,.inl (SqL.of upd_same),?_⟩
     rw[List.length_map]
     have:(ns.filter (cfB (t:Int))).length=brg R t h:=by unfold brg;rw[egd]
     rw[this]
     exact k _ (same_laid hD)
theorem scInal:FnScope ["_law_masks_here", "_law_order", "_law_some", "_law_found", "_law_hub"] ["_law_masks_here", "_law_order"] (defScope sInal):=⟨rfl,rfl,rfl,by decide +kernel,rfl,by decide +kernel,by decide +kernel⟩
theorem ok_inal {f fB:Addr}{fd' fdB:FuncData}(F:Fun K "_law_in_all" "_law_in_all" sInal f fd') (FB:Fun K "_law_brought" "_law_brought" sBrt fB fdB) (bB:Binds K fdB ["_law_masks_here", "_law_some", "_law_hub"] []) (mB:mg "_law_brought" = some (.ref fB)) (mLen:mg "len" = none):FnOk P w K mg base CX0 2 f fd' ["_law_masks_here", "_law_order"] spInal:=by
 have GB:FnOk P w K mg base CX0 1 fB fdB ["_law_masks_here", "_law_some", "_law_hub"] spBrt:=ok_brt FB mLen
 refine F.ok scInal (fun vs H Q E h=>?_) (fun cdv A outer s H vs Q E hr h=>?_)
 . obtain⟨sl,oa,R,os,rfl,_⟩:=h
   rfl
 . obtain⟨sl,oa,R,os,rfl,ST,N,hoa,hos,hl,k⟩:=h
   refine⟨_,pss_cons (ps_set (i:=2) scInal.nd rfl (Or.inl rfl) pe_int) (pss_cons (ps_set (i:=3) scInal.nd rfl (Or.inl rfl) pe_int)
    (pss_cons (ps_for PassesOwn.never rfl (pi_tup (pv 1)) (pg_name (i:=4) scInal.nd rfl (Or.inl rfl))
     (pss_cons (ps_set (i:=3) scInal.nd rfl (Or.inl rfl) (pe_op op_add (pv 3) (pe_call GB hr rfl mB FB.kp bB .nil pass0 (pa_cons (pv 0) (pa_cons (pv 2) (pa_cons (pv 4) pa_nil))))))
     (pss_one (ps_set (i:=2) scInal.nd rfl (Or.inl rfl) (pe_op op_add (pv 2) (pe_op op_shl pe_int (pv 4)))))))
    (pss_one (ps_ret (pv 3))))),?_⟩
   refine⟨_,rfl,oa,rfl,⟨_,SqT.of hoa⟩,for_tup (K:=K) (a:=oa) (xs:=(os.map fun (p:Nat)=>(p:Int)).map V.int) (fun i σ H2=>∃v4:Option V,σ=[some (.ref sl),some (.ref oa),some (.int (snN (os.take i):Nat)),some (.int (inA R 0 (os.take i):Nat)),v4]/\Same H H2) ⟨_,rfl,Same.refl _⟩ (fun i σ H2 _ z=>?_) (fun i y σ H2 hy z=>?_) (fun σ H2 z=>?_)⟩
   . obtain⟨_,_,s2⟩:=z
     exact SqT.of (s2 _ _ hoa)
   . obtain⟨v4,rfl,s2⟩:=z
     obtain⟨y',hy',rfl⟩:=int_at hy
     rw[List.getElem?_map] at hy'
     obtain⟨h,hh,rfl⟩:∃h:Nat,os[i]? = some h/\(h:Int)=y':=by
      cases e:os[i]? with
      | none=>rw[e] at hy';cases hy'
      | some h=>rw[e] at hy';exact⟨h,rfl,Option.some.inj hy'⟩
     have hlt:=hos h (List.mem_of_getElem? hh)
     have h8:=N.n8
     obtain⟨e1,e2⟩:=inA_take (R:=R) hh
     refine⟨_,rfl,_,rfl,_,rfl,_,rfl,sl,R,snN (os.take i),h,rfl,ST.same s2,N,hlt,fun H3 s3=>?_⟩
     refine⟨_,_,rfl,rfl,?_⟩
     refine⟨_,rfl,_,rfl,1,(h:Int),rfl,rfl,⟨by omega,by omega,by decide⟩,_,_,rfl,rfl,?_⟩
     refine⟨some (.int h),?_,s2.trans s3⟩
     rw[shl_nat,e1,e2]
     rfl
   . obtain⟨v4,rfl,s2⟩:=z
     rw[List.length_map,List.length_map,List.take_of_length_le (Nat.le_refl _)]
     exact⟨_,rfl,k H2 s2⟩
end
end K36
namespace K36
open PySem L2 WM
theorem shr_nat (t h:Nat):(t:Int)/2 ^ ((h:Int)).toNat=((t >>> h:Nat):Int):=by
 rw[Int.toNat_natCast,Nat.shiftRight_eq_div_pow,Int.natCast_ediv,Int.natCast_pow];rfl
theorem and_one {t h:Nat}:(t >>> h) &&& 1=0↔t.testBit h=false:=by
 have e:=Nat.testBit_shiftRight (i:=h) (j:=0) t
 rw[Nat.add_zero] at e
 rw[<-e,Nat.testBit_zero,Nat.and_one_is_mod,decide_eq_false_iff_not]
 omega
theorem bit_test (t h:Nat):decide (PySem.Builtin.bitAnd ((t:Int)/2 ^ ((h:Int)).toNat) 1=0) = !t.testBit h:=by
 rw[shr_nat,show (1:Int)=((1:Nat):Int) from rfl,bAnd_nat]
 by_cases e:t.testBit h=false
 . rw[e]
   exact decide_eq_true (by rw[and_one.mpr e];rfl)
 . rw[Bool.not_eq_false] at e
   rw[e]
   refine decide_eq_false fun z=>?_
   have z':(t >>> h) &&& 1=0:=by omega
   rw[and_one.mp z'] at e
   cases e
def spLlst:Sp:=fun vs H Q _=>∃(sl:Addr)(R:List (List Int)),vs=[.ref sl]/\SetsAt H sl R/\NN R/\1<=R.length/\∀(nl:Addr)(nu:List Int)(H':Hp),Same H H'->H' nl=some (.lst (nu.map V.int))->DpOk R R.length nu 0->Q (.ref nl) H'
def spStep:Sp:=fun vs H Q _=>∃(sl na:Addr)(R:List (List Int))(nu:List Int),vs=[.ref sl,.ref na]/\SetsAt H sl R/\NN R/\H na=some (.tup (nu.map V.int))/\DpOk R R.length nu 0/\∀H',Same H H'->Q .non H'
theorem DpOk.uniq {R:List (List Int)}{n:Nat}{nu nu':List Int}(a:DpOk R n nu 0)(b:DpOk R n nu' 0):∀k t,2 ^ n-t<=k->t<2 ^ n->nu.getD t 0=nu'.getD t 0
 | 0,t,h1,h2=>by omega
 | k+1,t,h1,h2=>by
  by_cases c:t=2 ^ n-1
  . subst c;rw[a.last,b.last]
  . have hne:=freeP_ne (t:=t) (n:=n) (by omega)
    have ce:∀h∈freeP t n,cst R nu t h=cst R nu' t h:=fun h hh=>by
     obtain⟨h3,h4⟩:=freeP_mem.mp hh
     have hlt:=bit_lt h2 h3 h4
     have:=two_pos h
     unfold cst
     rw[DpOk.uniq a b k (t+2 ^ h) (by omega) hlt]
    obtain⟨g,hg,eg⟩:=a.ex t (Nat.zero_le _) h2 hne
    obtain⟨g',hg',eg'⟩:=b.ex t (Nat.zero_le _) h2 hne
    have l1:=a.le t (Nat.zero_le _) h2 g' hg'
    have l2:=b.le t (Nat.zero_le _) h2 g hg
    have:=ce g hg
    have:=ce g' hg'
    omega
section
variable {P:Program}{w:World}{K:PySem.W.Frag}{mg:Str->Option Value}{base:Heap}
theorem SetsAt.len {H:Hp}{sl:Addr}{R:List (List Int)}(h:SetsAt H sl R):∃rs:List Addr,H sl=some (.lst (rs.map V.ref))/\(rs.map V.ref).length=R.length:=by
 obtain⟨rs,a,b,_⟩:=h
 exact⟨rs,a,by rw[List.length_map,b]⟩
theorem scLlst:FnScope ["_law_masks_here", "_law_n", "_law_least_here", "_law_some", "_law_rest"] ["_law_masks_here"] (defScope sLlst):=⟨rfl,rfl,rfl,by decide +kernel,rfl,by decide +kernel,by decide +kernel⟩
theorem ok_llst {f fB:Addr}{fd' fdB:FuncData}(F:Fun K "_law_least" "_law_least" sLlst f fd') (FB:Fun K "_law_brought" "_law_brought" sBrt fB fdB) (bB:Binds K fdB ["_law_masks_here", "_law_some", "_law_hub"] []) (mB:mg "_law_brought" = some (.ref fB)) (mLen:mg "len" = none) (mRange:mg "range" = none) (mMin:mg "min" = none):FnOk P w K mg base CX0 2 f fd' ["_law_masks_here"] spLlst:=by
 have GB:FnOk P w K mg base CX0 1 fB fdB ["_law_masks_here", "_law_some", "_law_hub"] spBrt:=ok_brt FB mLen
 refine F.ok scLlst (fun vs H Q E h=>?_) (fun cdv A outer s H vs Q E hr h=>?_)
 . obtain⟨sl,R,rfl,_⟩:=h
   rfl
 . obtain⟨sl,R,rfl,ST,N,n1,k⟩:=h
   obtain⟨rs,hsl,hrl⟩:=ST.len
   obtain⟨n,en⟩:∃n,n=R.length:=⟨_,rfl⟩
   rw[<-en] at n1 k hrl
   have n8:n<=8:=by rw[en];exact N.n8
   have p8:=pow_le8 n8
   have p1:2<=2 ^ n:=Nat.le_trans (by decide:2<=2 ^ 1) (Nat.pow_le_pow_right (by decide) n1)
   refine⟨_,pss_cons (ps_set (i:=1) scLlst.nd rfl (Or.inl rfl) (pe_callB call_len_seq (by rfl) mLen PySem.boot_len (pa_cons (pv 0) pa_nil)))
    (pss_cons (ps_set (i:=2) scLlst.nd rfl (Or.inr rfl) (pe_op op_rep (pe_lst (pa_cons pe_int pa_nil)) (pe_op op_shl pe_int (pv 1))))
    (pss_cons (ps_for PassesOwn.never rfl (pi_rangeD rfl mRange (pa_cons (pe_op op_sub (pe_op op_shl pe_int (pv 1)) pe_int) (pa_cons (pe_as (pe_un un_neg pe_int) (fun σ H Q q=>⟨1,rfl,q⟩)) (pa_cons (pe_as (pe_un un_neg pe_int) (fun σ H Q q=>⟨1,rfl,q⟩)) pa_nil)))) (pg_name (i:=3) scLlst.nd rfl (Or.inr rfl))
     (pss_cons (ps_setC (i:=4) (own:=["_law_hub"]) (cn:=["_law_some"]) (ci:=[3]) scLlst.nd rfl (Or.inl rfl) rfl (csc rfl rfl) ⟨rfl,rfl,rfl,trivial⟩ rfl (pi_range1 rfl mRange (pa_cons (pv 1) pa_nil)) (fun _ _ _ _=>pg_name (i:=0) (nd_of rfl) rfl (Or.inl rfl))
      (fun _ _ _ _=>pts_one (pt_cmpR op_eq (pe_op op_and (pe_op op_shr (pv 1) (pv 0)) pe_int) pe_int (nomark _))) (fun _ _ _ _=>pv 0))
     (pss_one (ps_asg (pe_callB (call_minL rfl) (by rfl) mMin (by decide +kernel) (pa_cons (pe_comp (own:=["_law_hub"]) (cn:=["_law_masks_here", "_law_some", "_law_least_here"]) (ci:=[0,3,2]) rfl (csc rfl rfl) ⟨rfl,rfl,rfl,rfl,rfl,rfl,rfl,rfl,rfl,trivial⟩ rfl (pi_list (pv 4)) (fun _ _ _ _=>pg_name (i:=0) (nd_of rfl) rfl (Or.inl rfl)) (fun _ _ _ _=>pts_nil)
      (fun _ _ _ _=>pe_op op_add (pe_call GB hr rfl mB FB.kp bB .nil pass0 (pa_cons (pv 1) (pa_cons (pv 2) (pa_cons (pv 0) pa_nil)))) (pe_ix ix_listC (pv 3) (pe_op op_add (pv 2) (pe_op op_shl pe_int (pv 0))) (fun _ _=>rfl)))) pa_nil)) (pg_sub (pv 2) (pv 3) set_list)))))
    (pss_one (ps_ret (pv 2))))),?_⟩
   refine⟨_,rfl,sl,_,rfl,.inl (SqL.of hsl),?_⟩
   rw[hrl]
   refine⟨by show 1<=sizeLine;decide,fun l0 hl0=>?_⟩
   refine⟨_,rfl,1,(n:Int),rfl,rfl,⟨by omega,by omega,by decide⟩,?_⟩
   refine⟨l0,((2 ^ n:Nat):Int),_,rfl,by rw[<-shl_nat],upd_same,by omega,by omega,?_,fun nl hnl=>?_⟩
   . have:sizeLine=16777216:=rfl
     show 1*((2 ^ n:Nat):Int).toNat<=sizeLine
     omega
   rw[Int.toNat_natCast,flat_rep]
   have hnl0:H nl=none:=Same.none (same_laid hl0) hnl
   have s1:Same H (upd (upd H l0 (.lst [.int 0])) nl (.lst ((List.replicate (2 ^ n) (0:Int)).map V.int))):=(same_laid hl0).trans (same_laid hnl)
   have h1:(upd (upd H l0 (.lst [.int 0])) nl (.lst ((List.replicate (2 ^ n) (0:Int)).map V.int))) nl=some (.lst ((List.replicate (2 ^ n) (0:Int)).map V.int)):=upd_same
   generalize (upd (upd H l0 (.lst [.int 0])) nl (.lst ((List.replicate (2 ^ n) (0:Int)).map V.int)))=H1 at s1 h1 ⊢
   refine⟨_,rfl,1,(n:Int),rfl,rfl,⟨by omega,by omega,by decide⟩,_,_,rfl,rfl,?_⟩
   refine⟨((2 ^ n:Nat):Int)-2,-1,by rw[<-shl_nat],⟨by omega,by omega,by omega,by omega⟩,for_down (lo:=((2 ^ n:Nat):Int)-2) (n:=(((2 ^ n:Nat):Int)-2 - -1).toNat) (fun i σ H2=>∃(v3 v4:Option V)(nu:List Int),σ=[some (.ref sl),some (.int n),some (.ref nl),v3,v4]/\Same H H2/\H2 nl=some (.lst (nu.map V.int))/\DpOk R n nu (2 ^ n-1-i))
    ⟨_,_,_,rfl,s1,h1,DpOk.start R n⟩ (fun i σ H2 hi z=>?_) (fun σ H2 z=>?_)⟩
   . obtain⟨v3,v4,nu,rfl,s2,h2,dp⟩:=z
     obtain⟨t,et⟩:∃t:Nat,t=2 ^ n-2-i:=⟨_,rfl⟩
     have eI:((2 ^ n:Nat):Int)-2-(i:Int)=(t:Int):=by omega
     rw[eI]
     rw[show 2 ^ n-1-i=t+1 by omega] at dp
     have tlt:t<2 ^ n-1:=by omega
     refine⟨_,rfl,(n:Int),rfl,by omega,by omega,[.int t],rfl,fun D hD=>?_⟩
     refine comp_range (lo:=0) (n:=((n:Int)).toNat) (fun q ys H4=>q<=n/\ys=(freeP t q).map (fun (p:Nat)=>V.int p)/\H4=upd H2 D (.lst ys)) ⟨Nat.zero_le _,rfl,rfl⟩ (fun q ys H4 z=>?_) (fun q ys H4 hq z=>?_) (fun ys H4 z=>?_)
     . obtain⟨hq,rfl,_⟩:=z
       rw[List.length_map]
       refine Nat.lt_of_le_of_lt (List.length_filter_le _ _) ?_
       rw[List.length_range]
       exact small_line (by omega)
     . obtain⟨_,rfl,rfl⟩:=z
       rw[Int.zero_add]
       have st:freeP t (q+1)=freeP t q++[q].filter fun p=>!t.testBit p:=by unfold freeP;rw[List.range_succ,List.filter_append]
       refine⟨⟨rfl,rfl⟩,?_⟩
       refine⟨_,rfl,_,rfl,(t:Int),(q:Int),rfl,rfl,by omega,_,_,rfl,rfl,rfl,_,rfl,?_⟩
       dsimp only
       rw[dec_int',bit_test]
       cases c:t.testBit q with
       | false=>
        refine iteT ?_
        refine⟨_,rfl,upd_same,by omega,?_,upd_upd⟩
        rw[st,List.filter_cons_of_pos (by rw[c];rfl),List.filter_nil,List.map_append];rfl
       | true=>
        refine iteF ⟨by omega,?_,rfl⟩
        rw[st,List.filter_cons_of_neg (by rw[c];decide),List.filter_nil,List.append_nil]
     . obtain⟨_,rfl,rfl⟩:=z
       rw[Int.toNat_natCast]
       have s3:=same_laid (o:=.lst ((freeP t n).map fun (p:Nat)=>V.int p)) hD
       have h3:(upd H2 D (.lst ((freeP t n).map fun (p:Nat)=>V.int p))) D=some (.lst ((freeP t n).map fun (p:Nat)=>V.int p)):=upd_same
       generalize upd H2 D (.lst ((freeP t n).map fun (p:Nat)=>V.int p))=H3 at s3 h3 ⊢
       have h3n:=s3 _ _ h2
       refine⟨_,rfl,D,rfl,⟨_,SqL.of h3⟩,[.ref sl,.int t,.ref nl],rfl,fun D2 hD2=>?_⟩
       refine comp_list (a:=D) (xs:=(freeP t n).map fun (p:Nat)=>V.int p) (fun j ys H5=>ys=(((freeP t n).take j).map fun h=>cst R nu t h).map V.int/\Same H3 H5/\H5 D2=some (.lst ys)) ⟨rfl,same_laid hD2,upd_same⟩ (fun j ys H5 z=>?_) (fun j ys H5 z=>?_) (fun j x ys H5 hx z=>?_) (fun ys H5 z=>?_)
       . obtain⟨_,s5,_⟩:=z
         exact SqL.of (s5 _ _ h3)
       . obtain⟨rfl,_⟩:=z
         rw[List.length_map,List.length_map,List.length_take]
         have:(freeP t n).length<=n:=by unfold freeP;exact Nat.le_trans (List.length_filter_le _ _) (by rw[List.length_range];exact Nat.le_refl _)
         exact small_line (by omega)
       . obtain⟨rfl,s5,h5⟩:=z
         obtain⟨h,hh,rfl⟩:∃h:Nat,(freeP t n)[j]? = some h/\V.int h=x:=by
          rw[List.getElem?_map] at hx
          cases e:(freeP t n)[j]? with
          | none=>rw[e] at hx;cases hx
          | some h=>rw[e] at hx;exact⟨h,rfl,Option.some.inj hx⟩
         obtain⟨q1,q2⟩:=freeP_mem.mp (List.mem_of_getElem? hh)
         have hlt:=bit_lt (t:=t) (n:=n) (by omega) q1 q2
         refine⟨⟨rfl,rfl⟩,?_⟩
         refine tyes ?_
         refine⟨_,rfl,_,rfl,_,rfl,sl,R,t,h,rfl,((ST.same s2).same s3).same s5,N,by omega,fun H6 s6=>?_⟩
         refine⟨_,rfl,_,rfl,_,rfl,1,(h:Int),rfl,rfl,⟨by omega,by omega,by decide⟩,_,_,rfl,rfl,?_⟩
         refine⟨nl,_,((t+2 ^ h:Nat):Int),.int (nu.getD (t+2 ^ h) 0),rfl,by rw[Int.natCast_add,<-shl_nat],SqL.of (s6 _ _ (s5 _ _ h3n)),atI_nat (by rw[List.getElem?_map,List.getD_eq_getElem?_getD,List.getElem?_eq_getElem (by rw[dp.ln];exact hlt)];rfl),?_⟩
         refine⟨_,_,rfl,rfl,s6 _ _ h5,?_,same_chg (s5.trans s6) hD2,upd_same⟩
         rw[List.take_add_one,hh,List.map_append,List.map_append];rfl
       . obtain⟨rfl,s5,h5⟩:=z
         rw[List.length_map,List.take_of_length_le (Nat.le_refl _)] at h5
         refine⟨D2,_,rfl,SqL.of h5,by simpa using freeP_ne tlt,fun M hM hb=>?_⟩
         obtain⟨h,hh,rfl⟩:=List.mem_map.mp hM
         refine⟨_,rfl,_,rfl,nl,_,(t:Int),t,rfl,rfl,s5 _ _ h3n,ixN_in (by omega) (by rw[List.length_map,dp.ln];omega),?_⟩
         have est:(nu.map V.int).set t (V.int (cst R nu t h))=(nu.set t (cst R nu t h)).map V.int:=by rw[List.map_set]
         rw[est]
         refine⟨_,_,nu.set t (cst R nu t h),rfl,same_chg ((s2.trans s3).trans s5) hnl0,upd_same,?_⟩
         rw[show 2 ^ n-1-(i+1)=t by omega]
         exact dp.step tlt hh fun g hg=>hb _ (List.mem_map.mpr ⟨g,hg,rfl⟩)
   . obtain⟨v3,v4,nu,rfl,s2,h2,dp⟩:=z
     rw[show 2 ^ n-1-(((2 ^ n:Nat):Int)-2 - -1).toNat=0 by omega] at dp
     exact⟨_,rfl,k nl nu H2 s2 h2 (en ▸ dp)⟩
end
end K36
namespace K36
open PySem L2 WM
section
variable {P:Program}{w:World}{K:PySem.W.Frag}{mg:Str->Option Value}{base:Heap}
theorem scStep:FnScope ["_law_masks_here", "_law_numbers", "_law_some", "_law_hub", "_law_most"] ["_law_masks_here", "_law_numbers"] (defScope sStep):=⟨rfl,rfl,rfl,by decide +kernel,rfl,by decide +kernel,by decide +kernel⟩
theorem ok_step {f fB:Addr}{fd' fdB:FuncData}(F:Fun K "_law_step_fault" "_law_step_fault" sStep f fd') (FB:Fun K "_law_brought" "_law_brought" sBrt fB fdB) (bB:Binds K fdB ["_law_masks_here", "_law_some", "_law_hub"] []) (mB:mg "_law_brought" = some (.ref fB)) (mLen:mg "len" = none) (mRange:mg "range" = none):FnOk P w K mg base CX0 2 f fd' ["_law_masks_here", "_law_numbers"] spStep:=by
 have GB:FnOk P w K mg base CX0 1 fB fdB ["_law_masks_here", "_law_some", "_law_hub"] spBrt:=ok_brt FB mLen
 refine F.ok scStep (fun vs H Q E h=>?_) (fun cdv A outer s H vs Q E hr h=>?_)
 . obtain⟨sl,na,R,nu,rfl,_⟩:=h
   rfl
 . obtain⟨sl,na,R,nu,rfl,ST,N,hna,dp,k⟩:=h
   obtain⟨rs,hsl,hrl⟩:=ST.len
   obtain⟨n,en⟩:∃n,n=R.length:=⟨_,rfl⟩
   rw[<-en] at dp hrl
   have n8:n<=8:=by rw[en];exact N.n8
   have p8:=pow_le8 n8
   refine⟨_,pss_cons (ps_for PassesOwn.never rfl (pi_range1 rfl mRange (pa_cons (pe_callB call_len_seq (by rfl) mLen PySem.boot_len (pa_cons (pv 1) pa_nil)) pa_nil)) (pg_name (i:=2) scStep.nd rfl (Or.inl rfl))
    (pss_one (ps_for PassesOwn.never rfl (pi_range1 rfl mRange (pa_cons (pe_callB call_len_seq (by rfl) mLen PySem.boot_len (pa_cons (pv 0) pa_nil)) pa_nil)) (pg_name (i:=3) scStep.nd rfl (Or.inl rfl))
     (pss_one (ps_if (pt_cmpR op_eq (pe_op op_and (pe_op op_shr (pv 2) (pv 3)) pe_int) pe_int (nomark _))
      (pss_cons (ps_set (i:=4) scStep.nd rfl (Or.inl rfl) (pe_op op_add (pe_call GB hr rfl mB FB.kp bB .nil pass0 (pa_cons (pv 0) (pa_cons (pv 2) (pa_cons (pv 3) pa_nil)))) (pe_ix ix_tup (pv 1) (pe_op op_add (pv 2) (pe_op op_shl pe_int (pv 3))) (fun _ _=>rfl))))
      (pss_one (ps_if (pt_cmpR op_gt (pe_ix ix_tup (pv 1) (pv 2) (fun _ _=>rfl)) (pv 4) (nomark _)) pss_no pss_nil))) pss_nil)))))
    (pss_one (ps_ret pe_non)),?_⟩
   have hnl:(nu.map V.int).length=2 ^ n:=by rw[List.length_map,dp.ln]
   refine⟨_,rfl,na,_,rfl,.inr (SqT.of hna),?_⟩
   rw[hnl]
   refine⟨((2 ^ n:Nat):Int),rfl,by omega,by omega,for_range (lo:=0) (n:=(((2 ^ n:Nat):Int)).toNat) (fun i σ H2=>∃v2 v3 v4:Option V,σ=[some (.ref sl),some (.ref na),v2,v3,v4]/\Same H H2) ⟨_,_,_,rfl,Same.refl _⟩ (fun t σ H2 ht z=>?_) (fun σ H2 z=>?_)⟩
   . obtain⟨v2,v3,v4,rfl,s2⟩:=z
     rw[Int.zero_add]
     have ht':t<2 ^ n:=by omega
     refine⟨_,rfl,sl,_,rfl,.inl (SqL.of (s2 _ _ hsl)),?_⟩
     rw[hrl]
     refine⟨(n:Int),rfl,by omega,by omega,for_range (lo:=0) (n:=((n:Int)).toNat) (fun i σ H3=>∃v3 v4:Option V,σ=[some (.ref sl),some (.ref na),some (.int t),v3,v4]/\Same H H3) ⟨_,_,rfl,s2⟩ (fun h σ H3 hh z=>?_) (fun σ H3 z=>?_)⟩
     . obtain⟨v3',v4',rfl,s3⟩:=z
       rw[Int.zero_add]
       have hh':h<n:=by omega
       refine⟨_,rfl,_,rfl,(t:Int),(h:Int),rfl,rfl,by omega,_,_,rfl,rfl,rfl,_,rfl,?_⟩
       dsimp only
       rw[dec_int',bit_test]
       cases c:t.testBit h with
       | true=>exact iteF ⟨_,_,rfl,s3⟩
       | false=>
        refine iteT ?_
        have hlt:=bit_lt ht' hh' c
        refine⟨_,rfl,_,rfl,_,rfl,sl,R,t,h,rfl,ST.same s3,N,by omega,fun H4 s4=>?_⟩
        refine⟨_,rfl,_,rfl,_,rfl,1,(h:Int),rfl,rfl,⟨by omega,by omega,by decide⟩,_,_,rfl,rfl,?_⟩
        have s34:=s3.trans s4
        refine⟨na,_,((t+2 ^ h:Nat):Int),.int (nu.getD (t+2 ^ h) 0),rfl,by rw[Int.natCast_add,<-shl_nat],SqT.of (s34 _ _ hna),atI_nat (by rw[List.getElem?_map,List.getD_eq_getElem?_getD,List.getElem?_eq_getElem (by rw[dp.ln];exact hlt)];rfl),?_⟩
        refine⟨_,_,rfl,rfl,?_⟩
        refine⟨_,rfl,_,rfl,na,_,(t:Int),.int (nu.getD t 0),rfl,rfl,SqT.of (s34 _ _ hna),atI_nat (by rw[List.getElem?_map,List.getD_eq_getElem?_getD,List.getElem?_eq_getElem (by rw[dp.ln];exact ht')];rfl),_,rfl,_,_,rfl,rfl,_,rfl,ifF (decide_eq_false ?_) ?_⟩
        . have:=dp.le t (Nat.zero_le _) ht' h (freeP_mem.mpr ⟨hh',c⟩)
          unfold cst at this
          omega
        . exact⟨_,_,rfl,s34⟩
     . obtain⟨v3',v4',rfl,s3⟩:=z
       exact⟨_,_,_,rfl,s3⟩
   . obtain⟨v2,v3,v4,rfl,s2⟩:=z
     exact k H2 s2
end
def insAt (x:Nat)(l:List Nat)(i:Nat):List Nat:=l.take i++x::l.drop i
def insAll (x:Nat)(l:List Nat):List (List Nat):=(List.range (l.length+1)).map (insAt x l)
def allOrd:Nat->List (List Nat)
 | 0=>[[]]
 | n+1=>(allOrd n).flatMap (insAll n)
theorem allOrd_mem:∀{n:Nat}{l:List Nat},l∈allOrd n↔l.Perm (List.range n)
 | 0,l=>by
  rw[allOrd,List.mem_singleton,List.range_zero,List.perm_nil]
 | n+1,l=>by
  rw[allOrd,List.mem_flatMap]
  constructor
  . rintro ⟨k,hk,hl⟩
    obtain⟨i,hi,rfl⟩:=List.mem_map.mp hl
    have hk:=allOrd_mem.mp hk
    unfold insAt
    rw[List.range_succ]
    refine List.perm_middle.trans ?_
    rw[List.take_append_drop]
    exact (List.Perm.cons n hk).trans (List.perm_append_singleton n _).symm
  . intro h
    have hm:n∈l:=h.mem_iff.mpr (by rw[List.mem_range];omega)
    obtain⟨a,b,rfl⟩:=List.append_of_mem hm
    have h':(a++b).Perm (List.range n):=by
     have e:(n::(a++b)).Perm (n::List.range n):=(List.perm_middle.symm.trans h).trans (by rw[List.range_succ];exact List.perm_append_singleton n _)
     exact e.cons_inv
    refine⟨a++b,allOrd_mem.mpr h',List.mem_map.mpr ⟨a.length,by rw[List.mem_range,List.length_append];omega,?_⟩⟩
    unfold insAt
    rw[List.take_left,List.drop_left]
theorem inA_le {R:List (List Int)}{n:Nat}{nu:List Int}(d:DpOk R n nu 0):∀{os:List Nat}{t:Nat},t<2 ^ n->os.Nodup->(∀p∈os,p<n/\t.testBit p=false)->nu.getD t 0<=(inA R t os:Nat)+nu.getD (t+snN os) 0
 | [],t,_,_,_=>by simp[inA,snN]
 | h::os,t,ht,nd,hp=>by
  obtain⟨n1,n2⟩:=List.nodup_cons.mp nd
  obtain⟨h1,h2⟩:=hp h List.mem_cons_self
  have e1:=d.le t (Nat.zero_le _) ht h (freeP_mem.mpr ⟨h1,h2⟩)
  have e2:=inA_le d (os:=os) (bit_lt ht h1 h2) n2 fun p hp'=>by
   obtain⟨a,b⟩:=hp p (List.mem_cons_of_mem _ hp')
   refine⟨a,?_⟩
   rw[Nat.add_comm,tb_add h t p h2,b,decide_eq_false (fun z:p=h=>n1 (z ▸ hp')),Bool.false_or]
  rw[snN_cons]
  unfold cst at e1
  rw[show t+(2 ^ h+snN os)=t+2 ^ h+snN os by omega]
  show _<=((brg R t h+inA R (t+2 ^ h) os:Nat):Int)+_
  omega
theorem snN_all {n:Nat}{os:List Nat}(nd:os.Nodup)(h:∀p,p∈os↔p<n):snN os=2 ^ n-1:=by
 apply Nat.eq_of_testBit_eq
 intro j
 rw[snN_bit nd,Nat.testBit_two_pow_sub_one]
 exact decide_eq_decide.mpr (h j)
end K36
namespace K36
open PySem L2 WM
theorem oV_some_ne (a:Int):decide (oV (some a)=V.non)=false:=decide_eq_false (by intro z;cases z)
def spAdd:Sp:=fun vs H Q _=>∃a b:Option Int,vs=[oV a,oV b]/\Q (oV (oadd a b)) H
def spLes:Sp:=fun vs H Q _=>∃a b:Option Int,vs=[oV a,oV b]/\Q (oV (oles a b)) H
def LRows (H:Hp)(rs:List Addr)(M:List (List (Option Int))):Prop:=rs.length=M.length/\rs.Nodup/\∀(i:Nat)(r:Addr)(row:List (Option Int)),rs[i]? = some r->M[i]? = some row->H r=some (.lst (row.map oV))
theorem LRows.keep {H H':Hp}{rs:List Addr}{M:List (List (Option Int))}(h:LRows H rs M)(k:∀b ys,H b=some (.lst ys)->b∈rs->H' b=some (.lst ys)):LRows H' rs M:=⟨h.1,h.2.1,fun i r row a b=>k r _ (h.2.2 i r row a b) (List.mem_of_getElem? a)⟩
theorem LRows.get {H:Hp}{rs:List Addr}{M:List (List (Option Int))}{n a:Int}(h:LRows H rs M)(S:Sqm n M)(ha:0<=a)(ha':a<n):∃r row,rs[a.toNat]? = some r/\M[a.toNat]? = some row/\M.getD a.toNat []=row/\row.length=n.toNat/\H r=some (.lst (row.map oV))/\∀y,fnl row y=mat M a y:=by
 obtain⟨row,h1,h2,h3⟩:=S.row ha ha'
 have hl:a.toNat<rs.length:=by rw[h.1,S.ln];omega
 exact⟨rs[a.toNat],row,List.getElem?_eq_getElem hl,h1,h2,h3,h.2.2 _ _ _ (List.getElem?_eq_getElem hl) h1,fun y=>by unfold mat;rw[if_pos ha,h2]⟩
theorem LRows.set {H:Hp}{rs:List Addr}{M:List (List (Option Int))}{n a b:Int}{v:Option Int}{r:Addr}{row:List (Option Int)}(h:LRows H rs M)(S:Sqm n M)(ha:0<=a)(ha':a<n)(h1:rs[a.toNat]? = some r)(h2:M[a.toNat]? = some row) :
 LRows (upd H r (.lst ((row.map oV).set b.toNat (oV v)))) rs (setm M a b v):=by
 refine⟨by unfold setm;rw[List.length_set];exact h.1,h.2.1,fun i r' row' a1 a2=>?_⟩
 unfold setm at a2
 rw[List.getElem?_set] at a2
 have hlt:a.toNat<M.length:=(List.getElem?_eq_some_iff.mp h2).1
 by_cases e:a.toNat=i
 . subst e
   rw[if_pos rfl,if_pos hlt] at a2
   rw[h1] at a1
   cases a1
   cases a2
   rw[upd_same,List.getD_eq_getElem?_getD,h2,Option.getD_some,List.map_set]
 . rw[if_neg e] at a2
   have hne:r'≠r:=fun z=>by
    subst z
    exact e ((List.getElem?_inj ((List.getElem?_eq_some_iff.mp h1).1) h.2.1).mp (h1.trans a1.symm))
   rw[upd_ne hne]
   exact h.2.2 i r' row' a1 a2
theorem row_at {row:List (Option Int)}{n y:Int}(hl:row.length=n.toNat)(h0:0<=y)(h1:y<n):atI (row.map oV) y=some (oV (fnl row y)):=by
 have hlt:y.toNat<row.length:=by omega
 refine atI_in h0 ?_
 rw[List.getElem?_map,List.getElem?_eq_getElem hlt]
 unfold fnl
 rw[if_pos h0,List.getD_eq_getElem?_getD,List.getElem?_eq_getElem hlt];rfl
def rowI (a:Int)(j:Nat):List (Option Int):=(List.range j).map fun (b:Nat)=>if a=(b:Int) then some 0 else none
theorem rowI_succ (a:Int)(j:Nat):rowI a (j+1)=rowI a j++[if a=(j:Int) then some 0 else none]:=by unfold rowI;rw[List.range_succ,List.map_append];rfl
theorem rowI_len (a:Int)(j:Nat):(rowI a j).length=j:=by unfold rowI;rw[List.length_map,List.length_range]
theorem rowI_get {a:Int}{j:Nat}{y:Int}(h0:0<=y)(h1:y<j):fnl (rowI a j) y=if a=y then some 0 else none:=by
 unfold fnl rowI
 rw[if_pos h0,List.getD_eq_getElem?_getD,List.getElem?_map,List.getElem?_range (by omega)]
 show (if a=((y.toNat:Nat):Int) then some 0 else none)=_
 rw[show ((y.toNat:Nat):Int)=y by omega]
def spFar:Sp:=fun vs H Q _=>∃(wa:Addr)(n:Int)(ts:List T3),vs=[.ref wa]/\WebAt H wa n ts /\
 ∀(fl:Addr)(rs:List Addr)(M:List (List (Option Int)))(H':Hp),Same H H'->H' fl=some (.lst (rs.map V.ref))->LRows H' rs M->Rows ts n M->Q (.ref fl) H'
section
variable {P:Program}{w:World}{K:PySem.W.Frag}{mg:Str->Option Value}{base:Heap}
theorem scAdd:FnScope ["_law_one", "_law_other"] ["_law_one", "_law_other"] (defScope sAdd):=⟨rfl,rfl,rfl,by decide +kernel,rfl,by decide +kernel,by decide +kernel⟩
theorem ok_add {f:Addr}{fd':FuncData}(F:Fun K "_law_added" "_law_added" sAdd f fd'):FnOk P w K mg base CX0 1 f fd' ["_law_one", "_law_other"] spAdd:=by
 refine F.ok scAdd (fun vs H Q E h=>?_) (fun cdv A outer s H vs Q E hr h=>?_)
 . obtain⟨a,b,rfl,_⟩:=h
   rfl
 . obtain⟨a,b,rfl,k⟩:=h
   refine⟨_,pss_one (ps_ret (pe_ifExp (PW.pt (pw_or (pt_cmpR op_isN (pv 0) pe_non (nomark _)) (pw_or1 (pt_cmpR op_isN (pv 1) pe_non (nomark _))))) pe_non (pe_op op_add (pv 0) (pv 1)))),?_⟩
   cases a with
   | none=>exact⟨_,rfl,rfl,_,rfl,ifT (decide_eq_true rfl) (ifT rfl k)⟩
   | some a=>
    refine⟨_,rfl,rfl,_,rfl,ifF (oV_some_ne a) ?_⟩
    cases b with
    | none=>exact⟨_,rfl,rfl,_,rfl,ifT (decide_eq_true rfl) k⟩
    | some b=>exact⟨_,rfl,rfl,_,rfl,ifF (oV_some_ne b) ⟨_,rfl,_,rfl,a,b,rfl,rfl,k⟩⟩
theorem scLes:FnScope ["_law_one", "_law_other"] ["_law_one", "_law_other"] (defScope sLes):=⟨rfl,rfl,rfl,by decide +kernel,rfl,by decide +kernel,by decide +kernel⟩
theorem ok_les {f:Addr}{fd':FuncData}(F:Fun K "_law_lesser" "_law_lesser" sLes f fd') (mMin:mg "min" = none):FnOk P w K mg base CX0 1 f fd' ["_law_one", "_law_other"] spLes:=by
 refine F.ok scLes (fun vs H Q E h=>?_) (fun cdv A outer s H vs Q E hr h=>?_)
 . obtain⟨a,b,rfl,_⟩:=h
   rfl
 . obtain⟨a,b,rfl,k⟩:=h
   refine⟨_,pss_cons (ps_if (PW.pt (pw_or (pt_cmpR op_isN (pv 0) pe_non (nomark _)) (pw_or1 (pt_cmpR op_isN (pv 1) pe_non (nomark _))))) (pss_one (ps_ret (pe_ifExp (pt_cmpR op_isN (pv 0) pe_non (nomark _)) (pv 1) (pv 0)))) pss_nil)
    (pss_one (ps_ret (pe_callB (call_min2 rfl) (by rfl) mMin (by decide +kernel) (pa_cons (pv 0) (pa_cons (pv 1) pa_nil))))),?_⟩
   cases a with
   | none=>exact⟨_,rfl,rfl,_,rfl,ifT (decide_eq_true rfl) (ifT rfl ⟨_,rfl,rfl,_,rfl,ifT (decide_eq_true rfl) ⟨_,rfl,k⟩⟩)⟩
   | some a=>
    refine⟨_,rfl,rfl,_,rfl,ifF (oV_some_ne a) ?_⟩
    cases b with
    | none=>exact⟨_,rfl,rfl,_,rfl,ifT (decide_eq_true rfl) ⟨_,rfl,rfl,_,rfl,ifF (oV_some_ne a) ⟨_,rfl,k⟩⟩⟩
    | some b=>exact⟨_,rfl,rfl,_,rfl,ifF (oV_some_ne b) ⟨_,rfl,_,rfl,a,b,rfl,k⟩⟩
theorem scFar:FnScope ["_law_web_here", "_law_n", "_law_ties", "_law_far_here", "_law_a", "_law_b", "_law_long", "_law_k", "_law_way"] ["_law_web_here"] (defScope sFar):=⟨rfl,rfl,rfl,by decide +kernel,rfl,by decide +kernel,by decide +kernel⟩
theorem ok_far {f fA fL:Addr}{fd' fdA fdL:FuncData}(F:Fun K "_law_far" "_law_far" sFar f fd') (FA:Fun K "_law_added" "_law_added" sAdd fA fdA) (bA:Binds K fdA ["_law_one", "_law_other"] []) (mA:mg "_law_added" = some (.ref fA))
 (FL:Fun K "_law_lesser" "_law_lesser" sLes fL fdL) (bL:Binds K fdL ["_law_one", "_law_other"] []) (mL:mg "_law_lesser" = some (.ref fL)) (mRange:mg "range" = none) (mMin:mg "min" = none):FnOk P w K mg base CX0 2 f fd' ["_law_web_here"] spFar:=by
 have GA:FnOk P w K mg base CX0 1 fA fdA ["_law_one", "_law_other"] spAdd:=ok_add FA
 have GL:FnOk P w K mg base CX0 1 fL fdL ["_law_one", "_law_other"] spLes:=ok_les FL mMin
 refine F.ok scFar (fun vs H Q E h=>?_) (fun cdv A outer s H vs Q E hr h=>?_)
 . obtain⟨wa,n,ts,rfl,_⟩:=h
   rfl
 . obtain⟨wa,n,ts,rfl,W,k⟩:=h
   obtain⟨ta,tys,hwa,hta,TA,G⟩:=id W
   have hn1:=G.n1
   have hn24:=G.n24
   refine⟨_,pss_cons (ps_asg (pv 0) (pg_tup rfl (pgs_cons (pg_name (i:=1) scFar.nd rfl (Or.inr rfl)) (pgs_cons (pg_name (i:=2) scFar.nd rfl (Or.inl rfl)) pgs_nil))))
    (pss_cons (ps_setC1 (yc := "_law_a") (i:=3) (own:=["_law_a"]) (cn:=["_law_n"]) (ci:=[1]) scFar.nd rfl (Or.inl rfl) rfl (csc1 rfl (fun _ _=>rfl) rfl rfl) ⟨rfl,rfl,rfl,trivial⟩ rfl
     (pi_range1 rfl mRange (pa_cons (pv 1) pa_nil)) (fun _ _ _ _=>pg_name (i:=0) (nd_of rfl) rfl (Or.inr rfl)) (fun _ _ _ _=>pts_nil)
     (fun _ _ _ _=>pe_comp (own:=["_law_b"]) (cn:=["_law_a"]) (ci:=[0]) rfl (csc rfl rfl) ⟨rfl,rfl,rfl,trivial⟩ rfl
      (pi_range1 rfl mRange (pa_cons (pv 1) pa_nil)) (fun _ _ _ _=>pg_name (i:=0) (nd_of rfl) rfl (Or.inl rfl)) (fun _ _ _ _=>pts_nil)
      (fun _ _ _ _=>pe_ifExp (pt_cmpR op_eq (pv 1) (pv 0) (nomark _)) pe_int pe_non)))
    (pss_cons (ps_for PassesOwn.never rfl (pi_tup (pv 2)) (pg_tup rfl (pgs_cons (pg_name (i:=4) scFar.nd rfl (Or.inl rfl)) (pgs_cons (pg_name (i:=5) scFar.nd rfl (Or.inl rfl)) (pgs_cons (pg_name (i:=6) scFar.nd rfl (Or.inl rfl)) pgs_nil))))
     (pss_cons (ps_asg (pv 6) (pg_sub (pe_ix ix_list (pv 3) (pv 4) (fun _ _=>rfl)) (pv 5) set_list))
     (pss_one (ps_asg (pv 6) (pg_sub (pe_ix ix_list (pv 3) (pv 5) (fun _ _=>rfl)) (pv 4) set_list)))))
    (pss_cons (ps_for PassesOwn.never rfl (pi_range1 rfl mRange (pa_cons (pv 1) pa_nil)) (pg_name (i:=7) scFar.nd rfl (Or.inl rfl))
     (pss_one (ps_for PassesOwn.never rfl (pi_range1 rfl mRange (pa_cons (pv 1) pa_nil)) (pg_name (i:=4) scFar.nd rfl (Or.inl rfl))
      (pss_one (ps_for PassesOwn.never rfl (pi_range1 rfl mRange (pa_cons (pv 1) pa_nil)) (pg_name (i:=5) scFar.nd rfl (Or.inl rfl))
       (pss_cons (ps_set (i:=8) scFar.nd rfl (Or.inl rfl) (pe_call GA hr rfl mA FA.kp bA .nil pass0 (pa_cons (pe_ix ix_list (pe_ix ix_list (pv 3) (pv 4) (fun _ _=>rfl)) (pv 7) (fun _ _=>rfl)) (pa_cons (pe_ix ix_list (pe_ix ix_list (pv 3) (pv 7) (fun _ _=>rfl)) (pv 5) (fun _ _=>rfl)) pa_nil))))
       (pss_one (ps_asg (pe_call GL hr rfl mL FL.kp bL .nil pass0 (pa_cons (pe_ix ix_list (pe_ix ix_list (pv 3) (pv 4) (fun _ _=>rfl)) (pv 5) (fun _ _=>rfl)) (pa_cons (pv 8) pa_nil))) (pg_sub (pe_ix ix_list (pv 3) (pv 4) (fun _ _=>rfl)) (pv 5) set_list)))))))))
    (pss_one (ps_ret (pv 3)))))),?_⟩
   refine⟨_,rfl,wa,_,rfl,SqT.of hwa,rfl,_,_,rfl,_,_,rfl,rfl,?_⟩
   refine⟨_,rfl,n,rfl,by omega,by omega,[.int n],rfl,fun D hD=>?_⟩
   refine comp_range (lo:=0) (n:=n.toNat) (fun q ys H1=>q<=n.toNat/\∃(rs:List Addr)(M:List (List (Option Int))),ys=rs.map V.ref/\rs.length=q/\LRows H1 rs M/\(∀x:Nat,x<q->M[x]? = some (rowI x n.toNat))/\(∀r∈rs,H r=none/\r≠D)/\Same H H1/\H1 D=some (.lst ys))
    ⟨Nat.zero_le _,[],[],rfl,rfl,⟨rfl,List.nodup_nil,fun i r row h=>by simp at h⟩,fun x hx=>absurd hx (Nat.not_lt_zero _),fun r h=>by simp at h,same_laid hD,upd_same⟩ (fun q ys H1 h=>?_) (fun q ys H1 hq h=>?_) (fun ys H1 h=>?_)
   . obtain⟨hq,rs,M,rfl,hl,_⟩:=h
     rw[List.length_map,hl]
     exact small_line (by omega)
   . obtain⟨_,rs,M,rfl,hl,R,L,fr,sm,hD1⟩:=h
     rw[Int.zero_add]
     refine⟨⟨rfl,rfl⟩,?_⟩
     refine tyes ?_
     refine⟨_,rfl,n,rfl,by omega,by omega,[.int q],rfl,fun D2 hD2=>?_⟩
     have nD2:D2≠D:=fun z=>by rw[z,hD1] at hD2;cases hD2
     refine comp_range (lo:=0) (n:=n.toNat) (fun j ys H2=>j<=n.toNat/\ys=(rowI q j).map oV/\Same H1 H2/\H2 D2=some (.lst ys))
      ⟨Nat.zero_le _,rfl,same_laid hD2,upd_same⟩ (fun j ys H2 h=>?_) (fun j ys H2 hj h=>?_) (fun ys H2 h=>?_)
     . obtain⟨hj,rfl,_⟩:=h
       rw[List.length_map,rowI_len]
       exact small_line (by omega)
     . obtain⟨_,rfl,s2,h2⟩:=h
       rw[Int.zero_add]
       refine⟨⟨rfl,rfl⟩,?_⟩
       refine tyes ?_
       refine⟨_,rfl,_,rfl,rfl,_,rfl,?_⟩
       by_cases e:(q:Int)=(j:Int)
       . refine ifT (decide_eq_true (congrArg V.int e)) ?_
         refine⟨h2,hj,?_,same_chg s2 hD2,upd_same⟩
         rw[rowI_succ,if_pos e,List.map_append];rfl
       . refine ifF (decide_eq_false fun z=>e (V.int.inj z)) ?_
         refine⟨h2,hj,?_,same_chg s2 hD2,upd_same⟩
         rw[rowI_succ,if_neg e,List.map_append];rfl
     . obtain⟨_,rfl,s2,h2⟩:=h
       have hD22:H2 D=some (.lst (rs.map V.ref)):=s2 _ _ hD1
       have frD2:H D2=none:=by
        cases z:H D2 with
        | none=>rfl
        | some o=>rw[sm _ _ z] at hD2;cases hD2
       have nin:D2∉rs:=fun z=>by
        obtain⟨i,hi,e⟩:=List.getElem_of_mem z
        have hM:i<M.length:=by rw[<-R.1];exact hi
        have:=R.2.2 i D2 M[i] (by rw[List.getElem?_eq_getElem hi,e]) (List.getElem?_eq_getElem hM)
        rw[hD2] at this;cases this
       refine⟨hD22,hq,rs++[D2],M++[rowI q n.toNat],by rw[List.map_append];rfl,by rw[List.length_append,hl];rfl,⟨by rw[List.length_append,List.length_append,R.1];rfl,?_,fun i r row h1 h3=>?_⟩,fun x hx=>?_,fun r hr'=>?_,same_chg (sm.trans s2) hD,upd_same⟩
       . exact List.nodup_append.mpr ⟨R.2.1,by simp,fun a ha b hb=>by
          have e:b=D2:=by simpa using hb
          rw[e];exact fun z=>nin (z ▸ ha)⟩
       . have key:H2 r=some (.lst (row.map oV))/\r≠D:=by
          by_cases hi:i<rs.length
          . rw[List.getElem?_append_left hi] at h1
            rw[List.getElem?_append_left (by rw[<-R.1];exact hi)] at h3
            exact⟨s2 _ _ (R.2.2 i r row h1 h3),(fr r (List.mem_of_getElem? h1)).2⟩
          . rw[List.getElem?_append_right (by omega)] at h1
            rw[List.getElem?_append_right (by rw[<-R.1];omega),<-R.1] at h3
            cases hz:i-rs.length with
            | zero=>
             rw[hz] at h1 h3
             have e1:D2=r:=by simpa using h1
             have e2:rowI q n.toNat=row:=by simpa using h3
             subst e1 e2
             exact⟨h2,nD2⟩
            | succ k=>rw[hz] at h1;simp at h1
         rw[upd_ne key.2]
         exact key.1
       . by_cases hx':x<q
         . rw[List.getElem?_append_left (by rw[<-R.1,hl];exact hx')]
           exact L x hx'
         . have e:x=q:=by omega
           subst e
           rw[List.getElem?_append_right (by rw[<-R.1,hl];exact Nat.le_refl _),<-R.1,hl]
           simp
       . rcases List.mem_append.mp hr' with z | z
         . exact fr r z
         . have e:r=D2:=by simpa using z
           rw[e];exact⟨frD2,nD2⟩
   . obtain⟨_,rs,M,rfl,hl,R,L,fr,sm,hD1⟩:=h
     have hML:M.length=n.toNat:=by rw[<-R.1,hl]
     have S0:Sqm n M:=⟨hML,fun r hr'=>by
      obtain⟨i,hi,e⟩:=List.getElem_of_mem hr'
      have:=L i (by omega)
      rw[List.getElem?_eq_getElem hi,e] at this
      rw[Option.some.inj this,rowI_len]⟩
     have M0:∀x y,0<=x->x<n->0<=y->y<n->mat M x y=if x=y then some 0 else none:=fun x y hx hx' hy hy'=>by
      unfold mat
      rw[if_pos hx,List.getD_eq_getElem?_getD,L x.toNat (by omega),Option.getD_some,rowI_get hy (by omega),show ((x.toNat:Nat):Int)=x by omega]
     have wr:∀{H2:Hp}{r:Addr}{o:HO},r∈rs->Same H H2->Same H (upd H2 r o):=fun {H2 r o} hr' s2=>same_chg s2 (fr r hr').1
     have wD:∀{H2:Hp}{r:Addr}{o:HO},r∈rs->H2 D=some (.lst (rs.map V.ref))->(upd H2 r o) D=some (.lst (rs.map V.ref)):=fun {H2 r o} hr' e=>by rw[upd_ne (fr r hr').2.symm];exact e
     refine⟨_,rfl,ta,rfl,⟨_,SqT.of (sm _ _ hta)⟩,for_tup (K:=K) (a:=ta) (xs:=tys)
      (fun i σ H2=>∃(v4 v5 v6 v7 v8:Option V)(M:List (List (Option Int))),σ=[some (.ref wa),some (.int n),some (.ref ta),some (.ref D),v4,v5,v6,v7,v8]/\Same H H2/\H2 D=some (.lst (rs.map V.ref))/\LRows H2 rs M/\Sqm n M/\Ft (ts.take i) n (mat M))
      ⟨_,_,_,_,_,M,rfl,sm,hD1,R,S0,by rw[List.take_zero];exact Ft.nil n M0⟩ (fun i σ H2 _ ⟨_,_,_,_,_,_,_,s,_⟩=>SqT.of (s _ _ hta)) ?turn1 ?after1⟩
     case turn1=>
      rintro i y σ H2 hi ⟨v4,v5,v6,v7,v8,M2,rfl,s2,hD2,R2,S2,T2⟩
      obtain⟨ya,ky,rfl,hky,hya,_⟩:=TA.get hi
      rw[List.getElem?_map] at hky
      obtain⟨⟨a,b,c⟩,hti,rfl⟩:∃t:T3,ts[i]? = some t/\tl t=ky:=by
       cases e:ts[i]? with
       | none=>rw[e] at hky;cases hky
       | some t=>rw[e] at hky;exact⟨t,rfl,Option.some.inj hky⟩
      have hm:=List.mem_of_getElem? hti
      have hr3:=G.rng _ hm
      simp only at hr3
      obtain⟨ra,rowa,a1,a2,a3,a4,a5,_⟩:=R2.get S2 (a:=a) (by omega) (by omega)
      have ma:=List.mem_of_getElem? a1
      refine⟨ya,_,rfl,SqT.of (s2 _ _ hya),rfl,_,_,rfl,_,_,rfl,_,_,rfl,rfl,?_⟩
      refine⟨_,rfl,_,rfl,_,rfl,D,_,_,.ref ra,rfl,rfl,SqL.of hD2,atI_in (by omega) (by rw[List.getElem?_map,a1];rfl),_,rfl,ra,_,b,b.toNat,rfl,rfl,a5,ixN_in (by omega) (by rw[List.length_map,a4];omega),?_⟩
      have R3:LRows (upd H2 ra (.lst ((rowa.map oV).set b.toNat (.int c)))) rs (setm M2 a b (some c)):=R2.set S2 (v:=some c) (by omega) (by omega) a1 a2
      have S3:Sqm n (setm M2 a b (some c)):=S2.set (by omega) (by omega)
      have s3:=wr (o:=.lst ((rowa.map oV).set b.toNat (.int c))) ma s2
      have hD3:=wD (o:=.lst ((rowa.map oV).set b.toNat (.int c))) ma hD2
      generalize upd H2 ra (.lst ((rowa.map oV).set b.toNat (.int c)))=H3 at R3 s3 hD3 ⊢
      obtain⟨rb,rowb,b1,b2,b3,b4,b5,_⟩:=R3.get S3 (a:=b) (by omega) (by omega)
      have mb:=List.mem_of_getElem? b1
      refine⟨_,rfl,_,rfl,_,rfl,D,_,_,.ref rb,rfl,rfl,SqL.of hD3,atI_in (show 0<=b by omega) (by rw[List.getElem?_map,b1];rfl),_,rfl,rb,_,a,a.toNat,rfl,rfl,b5,ixN_in (by omega) (by rw[List.length_map,b4];omega),?_⟩
      have R4:LRows (upd H3 rb (.lst ((rowb.map oV).set a.toNat (.int c)))) rs (setm (setm M2 a b (some c)) b a (some c)):=R3.set S3 (v:=some c) (by omega) (by omega) b1 b2
      refine⟨_,_,_,_,_,_,rfl,wr mb s3,wD mb hD3,R4,S3.set (by omega) (by omega),?_⟩
      have hsp:ts=ts.take i++(a,b,c)::ts.drop (i+1):=by
       have hil:=(List.getElem?_eq_some_iff.mp hti)
       conv=>lhs;rw[<-List.take_append_drop i ts,List.drop_eq_getElem_cons hil.1,hil.2]
      have htk:ts.take (i+1)=ts.take i++[(a,b,c)]:=by rw[List.take_add_one,hti];rfl
      rw[htk]
      refine (Ft.put (post:=ts.drop (i+1)) (by rw[<-hsp];exact G) T2).congr fun x y hx hx' hy hy'=>?_
      rw[mat_set S3 (by omega) (by omega) (by omega) (by omega) hx hx',mat_set S2 (by omega) (by omega) (by omega) (by omega) hx hx']
     case after1=>
      rintro σ H2 ⟨v4,v5,v6,v7,v8,M2,rfl,s2,hD2,R2,S2,T2⟩
      have hlt:tys.length=ts.length:=by rw[TA.length,List.length_map]
      rw[hlt,List.take_length] at T2
      have FC:=T2.fw G
      refine⟨_,rfl,n,rfl,by omega,by omega,for_range (lo:=0) (n:=n.toNat)
       (fun kk σ H3=>∃(v4 v5 v6 v7 v8:Option V)(M:List (List (Option Int))),σ=[some (.ref wa),some (.int n),some (.ref ta),some (.ref D),v4,v5,v6,v7,v8]/\Same H H3/\H3 D=some (.lst (rs.map V.ref))/\LRows H3 rs M/\Sqm n M/\Fw ts n (mat M)/\Cov ts n (kk:Int) (mat M))
       ⟨_,_,_,_,_,M2,rfl,s2,hD2,R2,S2,FC.1,FC.2⟩ ?turn2 ?after2⟩
      case after2=>
       rintro σ H3 ⟨v4,v5,v6,v7,v8,M3,rfl,s3,hD3,R3,S3,f3,c3⟩
       rw[show ((n.toNat:Nat):Int)=n by omega] at c3
       exact⟨_,rfl,k D rs M3 H3 s3 hD3 R3 (rows_of G S3 f3 c3)⟩
      case turn2=>
       rintro kk σ H3 hkk ⟨v4,v5,v6,v7,v8,M3,rfl,s3,hD3,R3,S3,f3,c3⟩
       rw[Int.zero_add]
       refine⟨_,rfl,n,rfl,by omega,by omega,for_range (lo:=0) (n:=n.toNat)
        (fun aa σ H4=>∃(v4 v5 v6 v8:Option V)(M:List (List (Option Int))),σ=[some (.ref wa),some (.int n),some (.ref ta),some (.ref D),v4,v5,v6,some (.int (kk:Int)),v8]/\Same H H4/\H4 D=some (.lst (rs.map V.ref))/\LRows H4 rs M/\Sqm n M/\Fm ts n (kk:Int) (mat M) (fun x _=>x<(aa:Int)))
        ⟨_,_,_,_,M3,rfl,s3,hD3,R3,S3,(Fm.enter f3 c3).congr (fun _ _ _ _ _ _=>rfl) fun x y hx _ _ _ z=>by omega⟩ ?turn3 ?after3⟩
       case after3=>
        rintro σ H4 ⟨v4,v5,v6,v8,M4,rfl,s4,hD4,R4,S4,F4⟩
        have fc:=F4.leave fun x y _ hx' _ _=>by omega
        exact⟨_,_,_,_,_,M4,rfl,s4,hD4,R4,S4,fc.1,fc.2⟩
       case turn3=>
        rintro aa σ H4 haa ⟨v4,v5,v6,v8,M4,rfl,s4,hD4,R4,S4,F4⟩
        rw[Int.zero_add]
        refine⟨_,rfl,n,rfl,by omega,by omega,for_range (lo:=0) (n:=n.toNat)
         (fun bb σ H5=>∃(v5 v6 v8:Option V)(M:List (List (Option Int))),σ=[some (.ref wa),some (.int n),some (.ref ta),some (.ref D),some (.int (aa:Int)),v5,v6,some (.int (kk:Int)),v8]/\Same H H5/\H5 D=some (.lst (rs.map V.ref))/\LRows H5 rs M/\Sqm n M/\Fm ts n (kk:Int) (mat M) (fun x y=>x<(aa:Int)\/(x=(aa:Int)/\y<(bb:Int))))
         ⟨_,_,_,M4,rfl,s4,hD4,R4,S4,F4.congr (fun _ _ _ _ _ _=>rfl) fun x y _ _ hy _ z=>by omega⟩ ?turn4 ?after4⟩
        case after4=>
         rintro σ H5 ⟨v5,v6,v8,M5,rfl,s5,hD5,R5,S5,F5⟩
         exact⟨_,_,_,_,M5,rfl,s5,hD5,R5,S5,F5.congr (fun _ _ _ _ _ _=>rfl) fun x y _ _ _ hy' z=>by omega⟩
        case turn4=>
         rintro bb σ H5 hbb ⟨v5,v6,v8,M5,rfl,s5,hD5,R5,S5,F5⟩
         rw[Int.zero_add]
         obtain⟨ra,rowa,a1,a2,a3,a4,a5,a6⟩:=R5.get S5 (a:=(aa:Int)) (by omega) (by omega)
         obtain⟨rk,rowk,k1,k2,k3,k4,k5,k6⟩:=R5.get S5 (a:=(kk:Int)) (by omega) (by omega)
         have ma:=List.mem_of_getElem? a1
         refine⟨_,rfl,_,rfl,D,_,_,.ref ra,rfl,rfl,SqL.of hD5,atI_in (by omega) (by rw[List.getElem?_map,a1];rfl),_,rfl,ra,_,_,_,rfl,rfl,SqL.of a5,row_at a4 (by omega) (by omega),?_⟩
         refine⟨_,rfl,_,rfl,D,_,_,.ref rk,rfl,rfl,SqL.of hD5,atI_in (by omega) (by rw[List.getElem?_map,k1];rfl),_,rfl,rk,_,_,_,rfl,rfl,SqL.of k5,row_at k4 (by omega) (by omega),?_⟩
         refine⟨_,_,rfl,?_⟩
         refine⟨_,rfl,_,rfl,D,_,_,.ref ra,rfl,rfl,SqL.of hD5,atI_in (by omega) (by rw[List.getElem?_map,a1];rfl),_,rfl,ra,_,_,_,rfl,rfl,SqL.of a5,row_at a4 (by omega) (by omega),?_⟩
         refine⟨_,rfl,_,_,rfl,?_⟩
         refine⟨_,rfl,_,rfl,D,_,_,.ref ra,rfl,rfl,SqL.of hD5,atI_in (by omega) (by rw[List.getElem?_map,a1];rfl),_,rfl,ra,_,_,(bb:Int).toNat,rfl,rfl,a5,ixN_in (by omega) (by rw[List.length_map,a4];omega),?_⟩
         refine⟨_,_,_,_,rfl,wr ma s5,wD ma hD5,R5.set S5 (by omega) (by omega) a1 a2,S5.set (by omega) (by omega),?_⟩
         refine (Fm.step G F5 (a:=(aa:Int)) (b:=(bb:Int)) (by omega) (by omega) (by omega) (by omega) (by omega) (by omega)).congr (fun x y hx hx' hy hy'=>?_) fun x y _ _ _ _ z=>by omega
         rw[mat_set S5 (by omega) (by omega) (by omega) (by omega) hx hx',a6,a6,k6]
end
theorem scal_oV (a b:Option Int):scal (oV a) (oV b)=true:=by cases a <;> cases b <;> rfl
theorem oV_none_eq:decide (oV none=V.non)=true:=decide_eq_true rfl
theorem dec_oV (a b:Option Int):decide (oV a=oV b)=decide (a=b):=decide_eq_decide.mpr ⟨fun h=>by
 cases a with
 | none=>
  cases b with
  | none=>rfl
  | some b=>cases h
 | some a=>
  cases b with
  | none=>cases h
  | some b=>rw[V.int.inj h],fun h=>by rw[h]⟩
def FarAt (H:Hp)(fl:Addr)(n:Int)(ts:List T3)(M:List (List (Option Int))):Prop:=∃rs:List Addr,H fl=some (.lst (rs.map V.ref))/\LRows H rs M/\Rows ts n M
theorem rows_sq {n:Int}{ts:List T3}{M:List (List (Option Int))}(R:Rows ts n M):Sqm n M:=⟨R.1,fun r hr=>by
 obtain⟨i,hi,e⟩:=List.getElem_of_mem hr
 have h1:=R.1
 have:=(R.2 (i:Int) (by omega) (by omega)).ln
 rw[Int.toNat_natCast,List.getD_eq_getElem?_getD,List.getElem?_eq_getElem hi,Option.getD_some,e] at this
 exact this⟩
theorem FarAt.keep {H H':Hp}{fl:Addr}{n:Int}{ts:List T3}{M:List (List (Option Int))}(h:FarAt H fl n ts M)(k:∀b ys,H b=some (.lst ys)->H' b=some (.lst ys)):FarAt H' fl n ts M:=by
 obtain⟨rs,a,b,c⟩:=h
 exact⟨rs,k _ _ a,b.keep fun b ys e _=>k b ys e,c⟩
theorem FarAt.get {H:Hp}{fl:Addr}{n:Int}{ts:List T3}{M:List (List (Option Int))}(h:FarAt H fl n ts M){x y:Int}(hx:0<=x)(hx':x<n)(hy:0<=y)(hy':y<n) :
 ∃(rs:List V)(r:Addr)(row:List V),H fl=some (.lst rs)/\atI rs x=some (.ref r)/\H r=some (.lst row)/\atI row y=some (oV (mat M x y))/\Len ts x y (mat M x y):=by
 obtain⟨rs,a,b,c⟩:=h
 obtain⟨r,row,e1,e2,e3,e4,e5,e6⟩:=b.get (rows_sq c) hx hx'
 have L:=c.2 x hx hx'
 rw[e3] at L
 refine⟨_,r,_,a,atI_in hx (by rw[List.getElem?_map,e1];rfl),e5,?_,?_⟩
 . rw[<-e6];exact row_at e4 hy hy'
 . rw[<-e6];exact L.len y hy hy'
def onB (M:List (List (Option Int)))(p x y:Int):Bool:=match mat M x y with
 | none=>false
 | some d=>decide (oadd (mat M x p) (mat M p y)=some d)
theorem onB_iff {H:Hp}{fl:Addr}{n:Int}{ts:List T3}{M:List (List (Option Int))}(h:FarAt H fl n ts M){p x y:Int}(hp:0<=p)(hp':p<n)(hx:0<=x)(hx':x<n)(hy:0<=y)(hy':y<n):onB M p x y=true↔Btw ts x y p:=by
 obtain⟨_,_,_,_,_,_,_,l1⟩:=h.get hx hx' hy hy'
 obtain⟨_,_,_,_,_,_,_,l2⟩:=h.get hx hx' hp hp'
 obtain⟨_,_,_,_,_,_,_,l3⟩:=h.get hp hp' hy hy'
 unfold onB
 constructor
 . intro z
   cases e:mat M x y with
   | none=>rw[e] at z;cases z
   | some d=>
    rw[e] at z l1
    obtain⟨a,b,e1,e2,e3⟩:=oadd_some (of_decide_eq_true z)
    rw[e1] at l2
    rw[e2] at l3
    exact⟨a,b,l2,l3,by rw[e3];exact l1⟩
 . rintro ⟨a,b,h1,h2,h3⟩
   have e1:=Len.uniq l1 (show Len ts x y (some (a+b)) from h3)
   have e2:=Len.uniq l2 (show Len ts x p (some a) from h1)
   have e3:=Len.uniq l3 (show Len ts p y (some b) from h2)
   rw[e1,e2,e3]
   exact decide_eq_true rfl
def spOn:Sp:=fun vs H Q _=>∃(fl:Addr)(n:Int)(ts:List T3)(M:List (List (Option Int)))(p x y:Int),vs=[.ref fl,.int p,.int x,.int y]/\FarAt H fl n ts M/\0<=p/\p<n/\0<=x/\x<n/\0<=y/\y<n/\Q (.bl (onB M p x y)) H
section
variable {P:Program}{w:World}{K:PySem.W.Frag}{mg:Str->Option Value}{base:Heap}
theorem scOn:FnScope ["_law_far_here", "_law_place", "_law_one", "_law_other", "_law_due"] ["_law_far_here", "_law_place", "_law_one", "_law_other"] (defScope sOn):=⟨rfl,rfl,rfl,by decide +kernel,rfl,by decide +kernel,by decide +kernel⟩
theorem ok_on {f fA:Addr}{fd' fdA:FuncData}(F:Fun K "_law_on" "_law_on" sOn f fd') (FA:Fun K "_law_added" "_law_added" sAdd fA fdA) (bA:Binds K fdA ["_law_one", "_law_other"] []) (mA:mg "_law_added" = some (.ref fA)):FnOk P w K mg base CX0 2 f fd' ["_law_far_here", "_law_place", "_law_one", "_law_other"] spOn:=by
 have GA:FnOk P w K mg base CX0 1 fA fdA ["_law_one", "_law_other"] spAdd:=ok_add FA
 refine F.ok scOn (fun vs H Q E h=>?_) (fun cdv A outer s H vs Q E hr h=>?_)
 . obtain⟨fl,n,ts,M,p,x,y,rfl,_⟩:=h
   rfl
 . obtain⟨fl,n,ts,M,p,x,y,rfl,FR,hp,hp',hx,hx',hy,hy',k⟩:=h
   refine⟨_,pss_cons (ps_set (i:=4) scOn.nd rfl (Or.inl rfl) (pe_ix ix_list (pe_ix ix_list (pv 0) (pv 2) (fun _ _=>rfl)) (pv 3) (fun _ _=>rfl)))
    (pss_one (ps_ret (pe_and (pe_cmpR op_notN (pv 4) pe_non (nomark _)) (pe_one (pe_cmpR op_eq (pe_call GA hr rfl mA FA.kp bA .nil pass0 (pa_cons (pe_ix ix_list (pe_ix ix_list (pv 0) (pv 2) (fun _ _=>rfl)) (pv 1) (fun _ _=>rfl)) (pa_cons (pe_ix ix_list (pe_ix ix_list (pv 0) (pv 1) (fun _ _=>rfl)) (pv 3) (fun _ _=>rfl)) pa_nil))) (pv 4) (nomark _)))))),?_⟩
   obtain⟨r1,a1,w1,f1,g1,i1,j1,_⟩:=FR.get hx hx' hy hy'
   obtain⟨r2,a2,w2,f2,g2,i2,j2,_⟩:=FR.get hx hx' hp hp'
   obtain⟨r3,a3,w3,f3,g3,i3,j3,_⟩:=FR.get hp hp' hy hy'
   refine⟨_,rfl,_,rfl,fl,_,_,.ref a1,rfl,rfl,SqL.of f1,g1,_,rfl,a1,_,_,_,rfl,rfl,SqL.of i1,j1,?_⟩
   refine⟨_,rfl,rfl,_,rfl,?_⟩
   unfold onB at k
   cases e:mat M x y with
   | none=>
    rw[e] at k
    exact ifF (by rw[oV_none_eq];rfl) k
   | some d=>
    rw[e] at k
    refine ifT (by rw[oV_some_ne];rfl) ?_
    refine⟨_,rfl,_,rfl,fl,_,_,.ref a2,rfl,rfl,SqL.of f2,g2,_,rfl,a2,_,_,_,rfl,rfl,SqL.of i2,j2,?_⟩
    refine⟨_,rfl,_,rfl,fl,_,_,.ref a3,rfl,rfl,SqL.of f3,g3,_,rfl,a3,_,_,_,rfl,rfl,SqL.of i3,j3,?_⟩
    refine⟨_,_,rfl,_,rfl,scal_oV _ (some d),?_⟩
    rw[dec_oV]
    exact k
end
def spMask:Sp:=fun vs H Q _=>∃(wa:Addr)(n:Int)(ts:List T3),vs=[.ref wa]/\WebAt H wa n ts/\n<=8/\∀(sl:Addr)(R:List (List Int))(H':Hp),Same H H'->SetsAt H' sl R->SetsR ts n R->Q (.ref sl) H'
theorem sn_nn (xs:List Int):0<=sn xs:=by rw[sn_nat];exact Int.natCast_nonneg _
theorem SetsR.nn {ts:List T3}{n:Int}{R:List (List Int)}(h:SetsR ts n R)(n8:n<=8):NN R:=by
 refine⟨fun row hr m hm=>?_,fun row hr=>?_,by rw[h.rl];omega⟩
 . obtain⟨i,hi,e⟩:=List.getElem_of_mem hr
   obtain⟨l,r⟩:=h.ro i row (by rw[List.getElem?_eq_getElem hi,e])
   obtain⟨j,hj,e2⟩:=List.getElem_of_mem hm
   obtain⟨xs,e3,_⟩:=r j (by omega)
   rw[List.getElem?_eq_getElem hj,e2] at e3
   cases e3
   exact sn_nn xs
 . obtain⟨i,hi,e⟩:=List.getElem_of_mem hr
   have:=(h.ro i row (by rw[List.getElem?_eq_getElem hi,e])).1
   omega
theorem SetsR.uniq {ts:List T3}{n:Int}{R R':List (List Int)}(a:SetsR ts n R)(b:SetsR ts n R'):R=R':=by
 refine List.ext_getElem (by rw[a.rl,b.rl]) fun i h1 h2=>?_
 obtain⟨l1,r1⟩:=a.ro i R[i] (List.getElem?_eq_getElem h1)
 obtain⟨l2,r2⟩:=b.ro i R'[i] (List.getElem?_eq_getElem h2)
 refine List.ext_getElem (by rw[l1,l2]) fun j g1 g2=>?_
 obtain⟨xs,e1,p1,m1⟩:=r1 j (by omega)
 obtain⟨ys,e2,p2,m2⟩:=r2 j (by omega)
 rw[List.getElem?_eq_getElem g1] at e1
 rw[List.getElem?_eq_getElem g2] at e2
 rw[Option.some.inj e1,Option.some.inj e2,rise_same p1 p2 fun x=>(m1 x).trans (m2 x).symm]
section
variable {P:Program}{w:World}{K:PySem.W.Frag}{mg:Str->Option Value}{base:Heap}
theorem scMask:FnScope ["_law_web_here", "_law_far_here", "_law_found", "_law_one", "_law_row", "_law_other"] ["_law_web_here"] (defScope sMask):=⟨rfl,rfl,rfl,by decide +kernel,rfl,by decide +kernel,by decide +kernel⟩
theorem ok_mask {f fF fO:Addr}{fd' fdF fdO:FuncData}(F:Fun K "_law_masks" "_law_masks" sMask f fd') (FF:Fun K "_law_far" "_law_far" sFar fF fdF) (bF:Binds K fdF ["_law_web_here"] []) (mF:mg "_law_far" = some (.ref fF)) (GF:FnOk P w K mg base CX0 3 fF fdF ["_law_web_here"] spFar)
 (FO:Fun K "_law_on" "_law_on" sOn fO fdO) (bO:Binds K fdO ["_law_far_here", "_law_place", "_law_one", "_law_other"] []) (mO:mg "_law_on" = some (.ref fO)) (GO:FnOk P w K mg base CX0 3 fO fdO ["_law_far_here", "_law_place", "_law_one", "_law_other"] spOn) (mRange:mg "range" = none) (mSum:mg "sum" = none):FnOk P w K mg base CX0 4 f fd' ["_law_web_here"] spMask:=by
 refine F.ok scMask (fun vs H Q E h=>?_) (fun cdv A outer s H vs Q E hr h=>?_)
 . obtain⟨wa,n,ts,rfl,_⟩:=h
   rfl
 . obtain⟨wa,n,ts,rfl,W,n8,k⟩:=h
   obtain⟨ta,tys,hwa,_,_,G⟩:=id W
   have hn1:=G.n1
   refine⟨_,pss_cons (ps_set (i:=1) scMask.nd rfl (Or.inr rfl) (pe_call GF hr rfl mF FF.kp bF .nil pass0 (pa_cons (pv 0) pa_nil)))
    (pss_cons (ps_set (i:=2) scMask.nd rfl (Or.inl rfl) (pe_lst pa_nil))
    (pss_cons (ps_for PassesOwn.never rfl (pi_range1 rfl mRange (pa_cons (pe_ix ix_tup (pv 0) pe_int (fun _ _=>rfl)) pa_nil)) (pg_name (i:=3) scMask.nd rfl (Or.inr rfl))
     (pss_cons (ps_set (i:=4) scMask.nd rfl (Or.inl rfl) (pe_lst pa_nil))
     (pss_cons (ps_for PassesOwn.never rfl (pi_range1 rfl mRange (pa_cons (pe_ix ix_tup (pv 0) pe_int (fun _ _=>rfl)) pa_nil)) (pg_name (i:=5) scMask.nd rfl (Or.inr rfl))
      (pss_one (ps_expr (pe_bm PySem.F.plainAttrs_list PySem.F.slot_list_append PySem.F.type_list_append mt_append (pv 4) (pa_cons (pe_callB (call_sumL rfl) (by rfl) mSum (by decide +kernel) (pa_cons (pe_comp (own:=["_law_place"]) (cn:=["_law_far_here", "_law_one", "_law_other"]) (ci:=[1,3,5]) rfl (csc rfl rfl) ⟨rfl,rfl,rfl,rfl,rfl,rfl,rfl,rfl,rfl,trivial⟩ rfl (pi_range1 rfl mRange (pa_cons (pe_ix ix_tup (pv 0) pe_int (fun _ _=>rfl)) pa_nil)) (fun _ _ _ _=>pg_name (i:=0) (nd_of rfl) rfl (Or.inl rfl))
       (fun _ _ _ _=>pts_one (pt_val (pe_call GO hr rfl mO FO.kp bO .nil pass0 (pa_cons (pv 1) (pa_cons (pv 0) (pa_cons (pv 2) (pa_cons (pv 3) pa_nil))))))) (fun _ _ _ _=>pe_op op_shl pe_int (pv 0))) pa_nil)) pa_nil)))))
     (pss_one (ps_expr (pe_bm PySem.F.plainAttrs_list PySem.F.slot_list_append PySem.F.type_list_append mt_append (pv 2) (pa_cons (pv 4) pa_nil)))))))
    (pss_one (ps_ret (pv 2))))),?_⟩
   refine⟨_,rfl,wa,n,ts,rfl,W,fun fl rs M H1 s1 hfl LR RR=>?_⟩
   have FR:FarAt H1 fl n ts M:=⟨rs,hfl,LR,RR⟩
   have hwa1:=s1 _ _ hwa
   refine⟨by show 0<=sizeLine;decide,fun fo hfo=>?_⟩
   have s2:=same_laid (o:=.lst []) hfo
   refine⟨_,rfl,wa,_,_,_,rfl,rfl,SqT.of (s2 _ _ hwa1),rfl,n,rfl,by omega,by omega,for_range (lo:=0) (n:=n.toNat) (fun q σ H2=>∃(v3 v4 v5:Option V)(ls:List Addr)(R:List (List Int)),σ=[some (.ref wa),some (.ref fl),some (.ref fo),v3,v4,v5]/\Same H1 H2/\H2 fo=some (.lst (ls.map V.ref))/\ls.length=q/\RowsI H2 ls R/\(∀l∈ls,l≠fo)/\∀(h:Nat)(row:List Int),R[h]? = some row->row.length=n.toNat/\∀i,i<n.toNat->∃xs:List Int,row[i]? = some (sn xs)/\xs.Pairwise (· < ·)/\∀p,p∈xs↔Btw ts h i p)
    ⟨_,_,_,[],[],rfl,s2,upd_same,rfl,⟨rfl,fun i r row e=>by simp at e⟩,fun l hl=>by simp at hl,fun h row e=>by simp at e⟩ (fun q σ H2 hq z=>?_) (fun σ H2 z=>?_)⟩
   . obtain⟨v3,v4,v5,ls,R,rfl,s12,h2,hl,RI,fr,ro⟩:=z
     rw[Int.zero_add]
     refine⟨by show 0<=sizeLine;decide,fun ra hra=>?_⟩
     have s23:=same_laid (o:=.lst []) hra
     refine⟨_,rfl,wa,_,_,_,rfl,rfl,SqT.of (s23 _ _ (s12 _ _ hwa1)),rfl,n,rfl,by omega,by omega,for_range (lo:=0) (n:=n.toNat) (fun j σ H4=>∃(v5:Option V)(bs:List (List Int)),σ=[some (.ref wa),some (.ref fl),some (.ref fo),some (.int q),some (.ref ra),v5]/\Same H2 H4/\H4 ra=some (.lst ((bs.map sn).map V.int))/\bs.length=j/\∀(i:Nat)(xs:List Int),bs[i]? = some xs->xs.Pairwise (· < ·)/\∀p,p∈xs↔Btw ts q i p)
      ⟨_,[],rfl,s23,upd_same,rfl,fun i xs e=>by simp at e⟩ (fun j σ H4 hj z=>?_) (fun σ H4 z=>?_)⟩
     . obtain⟨v5',bs,rfl,s24,h4,hbl,hbs⟩:=z
       rw[Int.zero_add]
       have s14:=s12.trans s24
       have hra4:H2 ra=none:=hra
       refine⟨_,rfl,.inl ⟨rfl,_,SqL.of h4⟩,_,rfl,wa,_,_,_,rfl,rfl,SqT.of (s14 _ _ hwa1),rfl,n,rfl,by omega,by omega,[.ref fl,.int q,.int j],rfl,fun D hD=>?_⟩
       refine comp_range (lo:=0) (n:=n.toNat) (fun m ys H5=>m<=n.toNat/\ys=(((lowTo m).filter fun p=>onB M p q j).map fun x=>(1:Int)*2 ^ x.toNat).map V.int/\Same H4 H5/\H5 D=some (.lst ys)) ⟨Nat.zero_le _,rfl,same_laid hD,upd_same⟩ (fun m ys H5 z=>?_) (fun m ys H5 hm z=>?_) (fun ys H5 z=>?_)
       . obtain⟨hm,rfl,_⟩:=z
         rw[List.length_map,List.length_map]
         refine Nat.lt_of_le_of_lt (List.length_filter_le _ _) ?_
         rw[ints_len]
         exact small_line (by omega)
       . obtain⟨_,rfl,s45,h5⟩:=z
         rw[Int.zero_add]
         have st:(lowTo (m+1)).filter (fun p=>onB M p q j)=(lowTo m).filter (fun p=>onB M p q j)++[(m:Int)].filter (fun p=>onB M p q j):=by rw[ints_succ,List.filter_append]
         refine⟨⟨rfl,rfl⟩,?_⟩
         refine⟨_,rfl,_,rfl,_,rfl,_,rfl,fl,n,ts,M,(m:Int),(q:Int),(j:Int),rfl,FR.keep fun b ys e=>s45 _ _ (s14 _ _ e),by omega,by omega,by omega,by omega,by omega,by omega,_,rfl,?_⟩
         by_cases c:onB M m q j=true
         . refine ifT c ?_
           refine⟨_,rfl,1,(m:Int),rfl,rfl,⟨by omega,by omega,by decide⟩,h5,by omega,?_,same_chg s45 hD,upd_same⟩
           rw[st,List.filter_cons_of_pos (p:=fun p=>onB M p q j) c,List.filter_nil,List.map_append,List.map_append];rfl
         . refine ifF (by simpa using c) ⟨by omega,?_,s45,h5⟩
           rw[st,List.filter_cons_of_neg (p:=fun p=>onB M p q j) c,List.filter_nil,List.append_nil]
       . obtain⟨_,rfl,s45,h5⟩:=z
         refine⟨D,_,rfl,SqL.of h5,?_⟩
         have h5r:=s45 _ _ h4
         refine⟨ra,_,_,rfl,rfl,h5r,by rw[List.length_map,List.length_map];exact small_line (by omega),?_⟩
         refine⟨_,bs++[(lowTo n.toNat).filter fun p=>onB M p q j],rfl,same_chg (s24.trans s45) hra4,by rw[upd_same,List.map_append,List.map_append];rfl,by rw[List.length_append,hbl];rfl,fun i xs e=>?_⟩
         by_cases c:i<bs.length
         . rw[List.getElem?_append_left c] at e
           exact hbs i xs e
         . rw[List.getElem?_append_right (by omega)] at e
           have hi:i=j:=by
            have:=(List.getElem?_eq_some_iff.mp e).1
            rw[List.length_singleton] at this
            omega
           subst hi
           rw[show i-bs.length=0 by omega] at e
           cases e
           refine⟨(ints_rise _).sublist List.filter_sublist,fun p=>?_⟩
           rw[List.mem_filter,mem_ints]
           constructor
           . rintro ⟨⟨p0,p1⟩,c⟩
             exact (onB_iff FR p0 (by omega) (by omega) (by omega) (by omega) (by omega)).mp c
           . intro hb
             obtain⟨a,b,ia,_⟩:=id hb
             have hp:=ia.1.in_ G (by omega:(0:Int)<=q) (by omega)
             exact⟨⟨hp.1,by omega⟩,(onB_iff FR hp.1 hp.2 (by omega) (by omega) (by omega) (by omega)).mpr hb⟩
     . obtain⟨v5',bs,rfl,s24,h4,hbl,hbs⟩:=z
       have h4f:=s24 _ _ h2
       have nra:ra≠fo:=fun z=>by rw[z,h2] at hra;cases hra
       refine⟨_,rfl,.inl ⟨rfl,_,SqL.of h4f⟩,_,rfl,fo,_,_,rfl,rfl,h4f,by rw[List.length_map];exact small_line (by omega),?_⟩
       have hRl:R.length=q:=by rw[<-RI.1,hl]
       have hfo1:H1 fo=none:=hfo
       refine⟨_,_,_,ls++[ra],R++[bs.map sn],rfl,same_chg (s12.trans s24) hfo1,by rw[upd_same,List.map_append];rfl,by rw[List.length_append,hl];rfl,⟨by rw[List.length_append,List.length_append,RI.1];rfl,fun i r row e1 e2=>?_⟩,fun y hy=>?_,fun h row e=>?_⟩
       . by_cases c:i<q
         . rw[List.getElem?_append_left (by omega)] at e1 e2
           rw[upd_ne (fr r (List.mem_of_getElem? e1))]
           exact s24 _ _ (RI.2 i r row e1 e2)
         . rw[List.getElem?_append_right (by omega)] at e1 e2
           have hi:i-ls.length=0:=by
            have:=(List.getElem?_eq_some_iff.mp e1).1
            rw[List.length_singleton] at this
            omega
           rw[hi] at e1
           rw[show i-R.length=0 by omega] at e2
           cases e1
           cases e2
           rw[upd_ne nra];exact h4
       . rcases List.mem_append.mp hy with hy | hy
         . exact fr y hy
         . rw[List.mem_singleton.mp hy];exact nra
       . by_cases c:h<q
         . rw[List.getElem?_append_left (by omega)] at e
           exact ro h row e
         . rw[List.getElem?_append_right (by omega)] at e
           have hi:h=q:=by
            have:=(List.getElem?_eq_some_iff.mp e).1
            rw[List.length_singleton] at this
            omega
           subst hi
           rw[show h-R.length=0 by omega] at e
           cases e
           refine⟨by rw[List.length_map,hbl],fun i hi=>?_⟩
           obtain⟨xs,hx⟩:∃xs,bs[i]? = some xs:=⟨_,List.getElem?_eq_getElem (by omega)⟩
           exact⟨xs,by rw[List.getElem?_map,hx];rfl,hbs i xs hx⟩
   . obtain⟨v3,v4,v5,ls,R,rfl,s12,h2,hl,RI,fr,ro⟩:=z
     exact⟨_,rfl,k fo R H2 (s1.trans s12) ⟨ls,h2,RI⟩ ⟨by rw[<-RI.1,hl],ro⟩⟩
end
end K36
namespace K36
open PySem L2 WM
section
variable {X:Cx}
def rEqL (K:PySem.W.Frag):R2:=fun x y H Q=>∃(a b:Addr)(xs ys:List Int),x = .ref a/\y = .ref b/\SqL K H a (xs.map V.int)/\SqL K H b (ys.map V.int)/\Q (.bl (decide (xs=ys))) H
theorem op_eqL (hu:X.A.units<cLine):OpR X (compareOp .Eq) (rEqL X.K):=by
 intro pins s σ H x y v u Q I rx ry h
 obtain⟨a,b,xs,ys,rfl,rfl,ha,hb,q⟩:=h
 cases rx
 cases ry
 obtain⟨its,r,pl,hz⟩:=I.list ha
 obtain⟨its2,r2,pl2,hz2⟩:=I.list hb
 have h1:=intsAre_of r
 have h2:=intsAre_of r2
 have l1:=h1.length
 have l2:=h2.length
 by_cases hl:its.length=its2.length
 . refine SeqAt.eq_listAt (e:=fun j=>xs.getD j 0==ys.getD j 0) pl.isList pl2.isList (by rw[List.size_toArray,List.size_toArray];exact hl) hu (fun j a b=>eqAts h1 h2 j a b) ⟨.bl _,H,I,rfl,?_⟩
   rw[List.size_toArray]
   have e:=ints_all (xs:=xs) (ys:=ys)
   rw[show min xs.length ys.length=its.length by omega,show (xs.length==ys.length)=true by simpa using (by omega),Bool.and_true] at e
   rw[e]
   exact q
 . refine SeqAt.eq_list_lengthsAt pl.isList pl2.isList (by rw[List.size_toArray,List.size_toArray];simpa using hl) hu ⟨.bl _,H,I,rfl,?_⟩
   have hne:xs≠ys:=fun e=>hl (by rw[l1,l2,e])
   rw[decide_eq_false hne] at q
   exact q
end
section
variable {X:Cx}{pl:List (Addr×Obj)}{N':List Str}{sc:Scope}{fp:List Addr}{s3:Shared}{H3:Hp}
theorem call_isinstC:CallR (cxComp X pl N' sc fp s3 H3) (.builtin "isinstance") (fun xs H Q=>∃x T t b,xs=[x,.ty T]/\TyOf X.K H x t/\PySem.W.kitOne X.K t (.type T)=some b/\Q (.bl b) H):=call_isinst
end
def spLio:Sp:=fun vs H Q _=>∃(oa:Addr)(os:List Nat)(n:Nat),vs=[.int n,.ref oa]/\H oa=some (.tup ((os.map fun (p:Nat)=>(p:Int)).map V.int))/\os.Perm (List.range n)/\n<=24/\∀H',Same H H'->Q (.bl true) H'
theorem perm_sorted {os:List Nat}{n:Nat}{ms:List Int}(h:os.Perm (List.range n))(hp:ms.Perm (os.map fun (p:Nat)=>(p:Int)))(hs:ms.Pairwise (· <= ·)):ms=lowTo n:=by
 have nd:ms.Nodup:=hp.nodup_iff.mpr (List.Pairwise.map _ (fun a b hab z=>hab (by omega)) (h.nodup_iff.mpr List.nodup_range))
 have hs':ms.Pairwise (· < ·):=(List.pairwise_and_iff.mpr ⟨hs,nd⟩).imp fun ⟨a,b⟩=>by omega
 refine rise_same hs' (ints_rise n) fun x=>?_
 rw[hp.mem_iff,mem_ints]
 constructor
 . intro hx
   obtain⟨p,hp',rfl⟩:=List.mem_map.mp hx
   have:=List.mem_range.mp (h.mem_iff.mp hp')
   omega
 . rintro ⟨a,b⟩
   exact List.mem_map.mpr ⟨x.toNat,h.mem_iff.mpr (List.mem_range.mpr (by omega)),by omega⟩
section
variable {P:Program}{w:World}{K:PySem.W.Frag}{mg:Str->Option Value}{base:Heap}
theorem scLio:FnScope ["_law_n", "_law_thing"] ["_law_n", "_law_thing"] (defScope sLio):=⟨rfl,rfl,rfl,by decide +kernel,rfl,by decide +kernel,by decide +kernel⟩
theorem ok_lio {f:Addr}{fd':FuncData}(F:Fun K "_law_is_order" "_law_is_order" sLio f fd') (mIsi:mg "isinstance" = none) (mInt:mg "int" = none) (mBool:mg "bool" = none) (mTuple:mg "tuple" = none) (mSorted:mg "sorted" = none) (mList:mg "list" = none) (mRange:mg "range" = none) :
 FnOk P w K mg base CX0 1 f fd' ["_law_n", "_law_thing"] spLio:=by
 refine F.ok scLio (fun vs H Q E h=>?_) (fun cdv A outer s H vs Q E hr h=>?_)
 . obtain⟨oa,os,n,rfl,_⟩:=h
   rfl
 . obtain⟨oa,os,n,rfl,hoa,pm,hn,k⟩:=h
   have hu0:=hr.units0
   have hl:os.length=n:=by rw[pm.length_eq,List.length_range]
   refine⟨_,pss_cons (ps_if (pt_not (pt_val (pe_callB call_isinst (by rfl) mIsi (by decide +kernel) (pa_cons (pv 1) (pa_cons (pe_tyN (T := "tuple") (by rfl) mTuple (by decide +kernel)) pa_nil))))) pss_no pss_nil)
    (pss_cons (ps_if (pt_cmpR (op_neE hu0) (pe_comp (own:=["_law_one"]) (cn:=[]) (ci:=[]) rfl (csc rfl rfl) trivial rfl (pi_tup (pv 1)) (fun _ _ _ _=>pg_name (i:=0) (nd_of rfl) rfl (Or.inl rfl))
     (fun _ _ _ _=>pts_one (PW.pt (pw_or (pt_not (pt_val (pe_callB call_isinstC (by rfl) mIsi (by decide +kernel) (pa_cons (pv 0) (pa_cons (pe_tyN (T := "int") (by rfl) mInt (by decide +kernel)) pa_nil))))) (pw_or1 (pt_val (pe_callB call_isinstC (by rfl) mIsi (by decide +kernel) (pa_cons (pv 0) (pa_cons (pe_tyN (T := "bool") (by rfl) mBool (by decide +kernel)) pa_nil)))))))) (fun _ _ _ _=>pv 0)) (pe_lst pa_nil) (nomark _)) pss_no pss_nil)
    (pss_one (ps_ret (pe_cmpR (op_eqL hu0) (pe_callB call_sortedTI (by rfl) mSorted (by decide +kernel) (pa_cons (pv 1) pa_nil)) (pe_lrange rfl rfl mList rfl mRange (pa_cons (pv 0) pa_nil)) (nomark _))))),?_⟩
   refine⟨_,rfl,_,_,_,true,rfl,.tup hoa,rfl,true,rfl,iteF ?_⟩
   refine⟨_,rfl,oa,rfl,⟨_,SqT.of hoa⟩,[],rfl,fun D hD=>?_⟩
   refine comp_tup (a:=oa) (xs:=(os.map fun (p:Nat)=>(p:Int)).map V.int) (fun i ys H4=>ys=[]/\H4=upd H D (.lst [])) ⟨rfl,rfl⟩ (fun i ys H4 z=>?_) (fun i ys H4 z=>?_) (fun i x ys H4 hx z=>?_) (fun ys H4 z=>?_)
   . obtain⟨rfl,rfl⟩:=z
     exact SqT.of (same_laid hD _ _ hoa)
   . obtain⟨rfl,rfl⟩:=z
     exact small_line (Nat.zero_le _)
   . obtain⟨rfl,rfl⟩:=z
     obtain⟨y,hy,rfl⟩:=int_at hx
     refine⟨⟨rfl,rfl⟩,?_⟩
     refine⟨_,rfl,_,_,_,true,rfl,.int y,rfl,true,rfl,iteF ?_⟩
     exact⟨_,rfl,_,_,_,false,rfl,.int y,rfl,false,rfl,iteF ⟨rfl,rfl⟩⟩
   . obtain⟨rfl,rfl⟩:=z
     refine⟨Nat.zero_le _,fun b hb=>?_⟩
     have sb:=(same_laid (o:=.lst []) hD).trans (same_laid (o:=.lst []) hb)
     have hD2:(upd (upd H D (.lst [])) b (.lst [])) D=some (.lst []):=same_laid hb _ _ upd_same
     refine⟨D,b,[],rfl,rfl,SqL.of hD2,SqL.of upd_same,_,rfl,?_⟩
     generalize upd (upd H D (.lst [])) b (.lst [])=H5 at sb ⊢
     refine iteF ?_
     refine⟨_,rfl,oa,_,rfl,SqT.of (sb _ _ hoa),by rw[List.length_map,hl];omega,fun l ms hl' hp hs=>?_⟩
     have s6:=same_laid (o:=.lst (ms.map V.int)) hl'
     refine⟨_,rfl,(n:Int),rfl,by omega,by omega,fun lf hlf=>?_⟩
     have s7:=same_laid (o:=.lst ((lowTo ((n:Int)).toNat).map V.int)) hlf
     refine⟨l,lf,ms,lowTo ((n:Int)).toNat,rfl,rfl,SqL.of (s7 _ _ upd_same),SqL.of upd_same,?_⟩
     rw[decide_eq_true (by rw[Int.toNat_natCast];exact perm_sorted pm hp hs)]
     exact k _ ((sb.trans s6).trans s7)
end
end K36
namespace K36
open PySem L2 WM
def spLfau:Sp:=fun vs H Q _=>∃(sl r oa na:Addr)(R:List (List Int))(nu:List Int)(os:List Nat),vs=[.ref sl,.ref r]/\SetsAt H sl R/\NN R/\1<=R.length/\H r=some (.tup [.ref oa,.ref na])/\H oa=some (.tup ((os.map fun (p:Nat)=>(p:Int)).map V.int))/\H na=some (.tup (nu.map V.int))/\DpOk R R.length nu 0/\OrdW R R.length nu os/\os.length=R.length /\
 ∀(e:Addr)(H':Hp),Same H H'->H' e=some (.tup [])->Q (.ref e) H'
theorem OrdW.perm {R:List (List Int)}{n:Nat}{nu:List Int}{os:List Nat}(o:OrdW R n nu os)(h:os.length=n):os.Perm (List.range n):=by
 refine (List.perm_ext_iff_of_nodup o.nd List.nodup_range).mpr fun x=>?_
 rw[List.mem_range]
 constructor
 . exact o.lt x
 . intro hx
   refine Classical.byContradiction fun c=>?_
   have:=nodup_le (l:=x::os) (l':=List.range n) (List.nodup_cons.mpr ⟨c,o.nd⟩) fun y hy=>by
    rcases List.mem_cons.mp hy with rfl | hy
    . exact List.mem_range.mpr hx
    . exact List.mem_range.mpr (o.lt y hy)
   rw[List.length_cons,List.length_range] at this
   omega
theorem last_at {nu:List Int}(h:0<nu.length):atI (nu.map V.int) (-1)=some (V.int (nu.getD (nu.length-1) 0)):=by
 have e:nu=nu.dropLast++[nu.getLast (List.ne_nil_of_length_pos h)]:=(List.dropLast_concat_getLast _).symm
 have g:nu.getD (nu.length-1) 0=nu.getLast (List.ne_nil_of_length_pos h):=by
  rw[List.getD_eq_getElem?_getD,List.getElem?_eq_getElem (by omega),List.getLast_eq_getElem];rfl
 rw[g]
 generalize nu.getLast (List.ne_nil_of_length_pos h)=z at e
 rw[e,List.map_append]
 exact atI_last _ _
section
variable {P:Program}{w:World}{K:PySem.W.Frag}{mg:Str->Option Value}{base:Heap}
theorem pe_no {X:Cx}{e:Expr}:PE X e (fun _ _ _=>False):=fun _ _ _ _ _ _ h=>h.elim
theorem scLfau:FnScope ["_law_masks_here", "_law_thing", "_law_n", "_law_numbers", "_law_fault"] ["_law_masks_here", "_law_thing"] (defScope sLfau):=⟨rfl,rfl,rfl,by decide +kernel,rfl,by decide +kernel,by decide +kernel⟩
theorem ok_lfau {f fO fS fI:Addr}{fd' fdO fdS fdI:FuncData}(F:Fun K "_law_least_fault" "_law_least_fault" sLfau f fd')
 (FO:Fun K "_law_is_order" "_law_is_order" sLio fO fdO) (bO:Binds K fdO ["_law_n", "_law_thing"] []) (mO:mg "_law_is_order" = some (.ref fO)) (GO:FnOk P w K mg base CX0 3 fO fdO ["_law_n", "_law_thing"] spLio)
 (FS:Fun K "_law_step_fault" "_law_step_fault" sStep fS fdS) (bS:Binds K fdS ["_law_masks_here", "_law_numbers"] []) (mS:mg "_law_step_fault" = some (.ref fS)) (GS:FnOk P w K mg base CX0 3 fS fdS ["_law_masks_here", "_law_numbers"] spStep)
 (FI:Fun K "_law_in_all" "_law_in_all" sInal fI fdI) (bI:Binds K fdI ["_law_masks_here", "_law_order"] []) (mI:mg "_law_in_all" = some (.ref fI)) (GI:FnOk P w K mg base CX0 3 fI fdI ["_law_masks_here", "_law_order"] spInal)
 (mIsi:mg "isinstance" = none) (mInt:mg "int" = none) (mBool:mg "bool" = none) (mTuple:mg "tuple" = none) (mLen:mg "len" = none):FnOk P w K mg base CX0 4 f fd' ["_law_masks_here", "_law_thing"] spLfau:=by
 refine F.ok scLfau (fun vs H Q E h=>?_) (fun cdv A outer s H vs Q E hr h=>?_)
 . obtain⟨sl,r,oa,na,R,nu,os,rfl,_⟩:=h
   rfl
 . obtain⟨sl,r,oa,na,R,nu,os,rfl,ST,N,n1,hr0,hoa,hna,dp,O,hol,k⟩:=h
   have hu0:=hr.units0
   obtain⟨rs,hsl,hrl⟩:=ST.len
   have n8:=N.n8
   have p8:=pow_le8 n8
   have hpm:=O.perm hol
   refine⟨_,pss_cons (ps_set (i:=2) scLfau.nd rfl (Or.inl rfl) (pe_callB call_len_seq (by rfl) mLen PySem.boot_len (pa_cons (pv 0) pa_nil)))
    (pss_cons (ps_if (PW.pt (pw_or (pt_not (pt_val (pe_callB call_isinst (by rfl) mIsi (by decide +kernel) (pa_cons (pv 1) (pa_cons (pe_tyN (T := "tuple") (by rfl) mTuple (by decide +kernel)) pa_nil))))) (pw_or (pt_cmpR op_ne (pe_callB call_len_seq (by rfl) mLen PySem.boot_len (pa_cons (pv 1) pa_nil)) pe_int (nomark _))
     (pw_or1 (pt_not (pt_val (pe_call GO hr rfl mO FO.kp bO .nil pass0 (pa_cons (pv 2) (pa_cons (pe_ix ix_tup (pv 1) pe_int (fun _ _=>rfl)) pa_nil)))))))) ) pss_no pss_nil)
    (pss_cons (ps_set (i:=3) scLfau.nd rfl (Or.inl rfl) (pe_ix ix_tup (pv 1) pe_int (fun _ _=>rfl)))
    (pss_cons (ps_if (PW.pt (pw_or (pt_not (pt_val (pe_callB call_isinst (by rfl) mIsi (by decide +kernel) (pa_cons (pv 3) (pa_cons (pe_tyN (T := "tuple") (by rfl) mTuple (by decide +kernel)) pa_nil))))) (pw_or1 (pt_cmpR op_ne (pe_callB call_len_seq (by rfl) mLen PySem.boot_len (pa_cons (pv 3) pa_nil)) (pe_op op_shl pe_int (pv 2)) (nomark _))))) pss_no pss_nil)
    (pss_cons (ps_if (pt_cmpR (op_neE hu0) (pe_comp (own:=["_law_one"]) (cn:=[]) (ci:=[]) rfl (csc rfl rfl) trivial rfl (pi_tup (pv 3)) (fun _ _ _ _=>pg_name (i:=0) (nd_of rfl) rfl (Or.inl rfl))
     (fun _ _ _ _=>pts_one (PW.pt (pw_or (pt_not (pt_val (pe_callB call_isinstC (by rfl) mIsi (by decide +kernel) (pa_cons (pv 0) (pa_cons (pe_tyN (T := "int") (by rfl) mInt (by decide +kernel)) pa_nil))))) (pw_or1 (pt_val (pe_callB call_isinstC (by rfl) mIsi (by decide +kernel) (pa_cons (pv 0) (pa_cons (pe_tyN (T := "bool") (by rfl) mBool (by decide +kernel)) pa_nil)))))))) (fun _ _ _ _=>pv 0)) (pe_lst pa_nil) (nomark _)) pss_no pss_nil)
    (pss_cons (ps_if (pt_cmpR op_ne (pe_ix ix_tup (pv 3) (pe_as (pe_un un_neg pe_int) (fun σ H Q q=>⟨1,rfl,q⟩)) (fun _ _=>rfl)) pe_int (nomark _)) pss_no pss_nil)
    (pss_cons (ps_set (i:=4) scLfau.nd rfl (Or.inl rfl) (pe_call GS hr rfl mS FS.kp bS .nil pass0 (pa_cons (pv 0) (pa_cons (pv 3) pa_nil))))
    (pss_cons (ps_if (pt_cmpR op_notN (pv 4) pe_non (nomark _)) pss_no pss_nil)
    (pss_one (ps_ret (pe_ifExp (pt_cmpR op_eq (pe_ix ix_tup (pv 3) pe_int (fun _ _=>rfl)) (pe_call GI hr rfl mI FI.kp bI .nil pass0 (pa_cons (pv 0) (pa_cons (pe_ix ix_tup (pv 1) pe_int (fun _ _=>rfl)) pa_nil))) (nomark _)) (pe_tup pa_nil) pe_no)))))))))),?_⟩
   refine⟨_,rfl,sl,_,rfl,.inl (SqL.of hsl),?_⟩
   rw[hrl]
   refine⟨_,rfl,_,_,_,true,rfl,.tup hr0,rfl,true,rfl,iteF ?_⟩
   refine⟨_,rfl,r,_,rfl,.inr (SqT.of hr0),rfl,_,rfl,ifF (by rfl) ?_⟩
   refine⟨_,rfl,_,rfl,r,_,_,.ref oa,rfl,rfl,SqT.of hr0,rfl,oa,os,R.length,rfl,hoa,hpm,by omega,fun H1 s1=>?_⟩
   refine⟨true,rfl,iteF ?_⟩
   refine⟨_,rfl,r,_,_,.ref na,rfl,rfl,SqT.of (s1 _ _ hr0),rfl,?_⟩
   have hna1:=s1 _ _ hna
   refine⟨_,rfl,_,_,_,true,rfl,.tup hna1,rfl,true,rfl,iteF ?_⟩
   refine⟨_,rfl,na,_,rfl,.inr (SqT.of hna1),_,rfl,1,(R.length:Int),rfl,rfl,⟨by omega,by omega,by decide⟩,rfl,_,rfl,ifF ?_ ?_⟩
   . rw[List.length_map,dp.ln,<-shl_nat]
     show (!decide _)=false
     rw[decide_eq_true rfl];rfl
   refine⟨_,rfl,na,rfl,⟨_,SqT.of hna1⟩,[],rfl,fun D hD=>?_⟩
   refine comp_tup (a:=na) (xs:=nu.map V.int) (fun i ys H4=>ys=[]/\H4=upd H1 D (.lst [])) ⟨rfl,rfl⟩ (fun i ys H4 z=>?_) (fun i ys H4 z=>?_) (fun i x ys H4 hx z=>?_) (fun ys H4 z=>?_)
   . obtain⟨rfl,rfl⟩:=z
     exact SqT.of (same_laid hD _ _ hna1)
   . obtain⟨rfl,rfl⟩:=z
     exact small_line (Nat.zero_le _)
   . obtain⟨rfl,rfl⟩:=z
     obtain⟨y,hy,rfl⟩:=int_at hx
     refine⟨⟨rfl,rfl⟩,?_⟩
     refine⟨_,rfl,_,_,_,true,rfl,.int y,rfl,true,rfl,iteF ?_⟩
     exact⟨_,rfl,_,_,_,false,rfl,.int y,rfl,false,rfl,iteF ⟨rfl,rfl⟩⟩
   . obtain⟨rfl,rfl⟩:=z
     refine⟨Nat.zero_le _,fun b hb=>?_⟩
     have sb:=(same_laid (o:=.lst []) hD).trans (same_laid (o:=.lst []) hb)
     have hD2:(upd (upd H1 D (.lst [])) b (.lst [])) D=some (.lst []):=same_laid hb _ _ upd_same
     refine⟨D,b,[],rfl,rfl,SqL.of hD2,SqL.of upd_same,_,rfl,?_⟩
     generalize upd (upd H1 D (.lst [])) b (.lst [])=H5 at sb ⊢
     refine iteF ?_
     have s5:=s1.trans sb
     have hna5:=s5 _ _ hna
     have hnl:0<nu.length:=by rw[dp.ln];exact two_pos _
     refine⟨_,rfl,na,_,-1,.int (nu.getD (nu.length-1) 0),rfl,rfl,SqT.of hna5,last_at hnl,rfl,_,rfl,ifF ?_ ?_⟩
     . rw[dp.ln,dp.last];rfl
     refine⟨_,rfl,_,rfl,sl,na,R,nu,rfl,ST.same s5,N,hna5,dp,fun H6 s6=>?_⟩
     have s56:=s5.trans s6
     refine⟨_,rfl,rfl,_,rfl,ifF (by rfl) ?_⟩
     refine⟨_,rfl,na,_,_,.int (nu.getD 0 0),rfl,rfl,SqT.of (s56 _ _ hna),?_,?_⟩
     . show atI _ 0=_
       exact atI_nat (j:=0) (by rw[List.getElem?_map,List.getD_eq_getElem?_getD,List.getElem?_eq_getElem hnl];rfl)
     refine⟨_,rfl,_,rfl,r,_,_,.ref oa,rfl,rfl,SqT.of (s56 _ _ hr0),rfl,sl,oa,R,os,rfl,ST.same s56,N,s56 _ _ hoa,fun p hp=>O.lt p hp,by omega,fun H7 s7=>?_⟩
     have e0:nu.getD 0 0=(inA R 0 os:Nat):=by
      rw[O.eq,snN_all O.nd fun p=>by rw[hpm.mem_iff,List.mem_range],dp.last,Int.add_zero]
     refine⟨rfl,_,rfl,ifT (decide_eq_true (by rw[e0])) ⟨by show 0<=sizeLine;decide,fun p hp=>?_⟩⟩
     exact k p _ ((s56.trans s7).trans (same_laid hp)) upd_same
end
end K36
namespace K36
open PySem L2 WM
section
variable {X:Cx}
def rCatV:R2:=fun x y H Q=>∃(a b:Addr)(xs ys:List V),x = .ref a/\y = .ref b/\H a=some (.tup xs)/\H b=some (.tup ys)/\xs.length+ys.length<=sizeLine/\∀(p:Addr)(H':Hp),Same H H'->H' p=some (.tup (xs++ys))->Q (.ref p) H'
theorem op_catV:OpR X (binaryOp .Add) rCatV:=fun pins s σ H x y v u Q I rx ry h=>by
 obtain⟨a,b,xs,ys,rfl,rfl,ha,hb,hz,q⟩:=h
 refine op_catA pins s σ H _ _ v u Q I rx ry ⟨a,b,xs,ys,rfl,rfl,SqT.of ha,SqT.of hb,hz,fun e=>?_,fun _ e=>?_,fun _ _ p hp=>q p _ (same_laid hp) upd_same⟩
 . subst e;exact q b H (Same.refl _) hb
 . subst e;exact q a H (Same.refl _) (by rw[List.append_nil];exact ha)
def rSlV:V->Option Int->Option Int->Hp->VK->Prop:=fun x lo hi H Q=>∃(a:Addr)(xs:List V),x = .ref a/\H a=some (.tup xs)/\∀(p:Addr)(H':Hp),Same H H'->H' p=some (.tup (cutV xs lo hi))->Q (.ref p) H'
theorem sl_tupV:SlR X rSlV:=fun pins s σ H x v vl vu lo hi sl Q I rx hs pl pu h=>by
 obtain⟨a,xs,rfl,ha,q⟩:=h
 refine sl_tupA pins s σ H _ v vl vu lo hi sl Q I rx hs pl pu ⟨a,xs,rfl,SqT.of ha,fun e=>?_,fun _ p hp=>q p _ (same_laid hp) upd_same⟩
 refine q a H (Same.refl _) ?_
 have:cutV xs lo hi=xs:=by
  unfold cutV
  rw[e.1,e.2,List.drop_zero,Nat.sub_zero,List.take_of_length_le (Nat.le_refl _)]
 rw[this]
 exact ha
end
theorem cutV_take (xs:List V)(m:Nat):cutV xs none (some (m:Int))=xs.take m:=by
 unfold cutV
 rw[HT.sIx_none,HT.sIx_nat,List.drop_zero,Nat.sub_zero]
 by_cases h:m<=xs.length
 . rw[Nat.min_eq_left h]
 . rw[Nat.min_eq_right (by omega),List.take_of_length_le (Nat.le_refl _),List.take_of_length_le (by omega)]
theorem cutV_drop (xs:List V)(m:Nat):cutV xs (some (m:Int)) none=xs.drop m:=by
 unfold cutV
 rw[HT.sIx_none,HT.sIx_nat]
 by_cases h:m<=xs.length
 . rw[Nat.min_eq_left h,List.take_of_length_le (by rw[List.length_drop];exact Nat.le_refl _)]
 . rw[Nat.min_eq_right (by omega),Nat.sub_self,List.take_zero,List.drop_of_length_le (by omega)]
abbrev oV2 (os:List Nat):List V:=(os.map fun (p:Nat)=>(p:Int)).map V.int
def TupI (H:Hp)(as:List Addr)(L:List (List Nat)):Prop:=as.length=L.length/\∀(i:Nat)(a:Addr)(os:List Nat),as[i]? = some a->L[i]? = some os->H a=some (.tup (oV2 os))
theorem TupI.same {H H':Hp}{as:List Addr}{L:List (List Nat)}(h:TupI H as L)(k:Same H H'):TupI H' as L:=⟨h.1,fun i a os x y=>k _ _ (h.2 i a os x y)⟩
theorem TupI.chg {H:Hp}{as:List Addr}{L:List (List Nat)}{l:Addr}{xs ys:List V}(h:TupI H as L)(hl:H l=some (.lst xs)):TupI (upd H l (.lst ys)) as L:=⟨h.1,fun i a os x y=>by
 have e:=h.2 i a os x y
 rw[upd_ne (ne_of e hl (by intro z;cases z))];exact e⟩
theorem TupI.app {H:Hp}{as bs:List Addr}{L M:List (List Nat)}(h:TupI H as L)(g:TupI H bs M):TupI H (as++bs) (L++M):=by
 refine⟨by rw[List.length_append,List.length_append,h.1,g.1],fun i a os x y=>?_⟩
 by_cases c:i<as.length
 . rw[List.getElem?_append_left c] at x
   rw[List.getElem?_append_left (by rw[<-h.1];exact c)] at y
   exact h.2 i a os x y
 . rw[List.getElem?_append_right (by omega)] at x
   rw[List.getElem?_append_right (by rw[<-h.1];omega),<-h.1] at y
   exact g.2 _ a os x y
theorem TupI.one {H:Hp}{a:Addr}{os:List Nat}(h:H a=some (.tup (oV2 os))):TupI H [a] [os]:=⟨rfl,fun i b o x y=>by
 have hi:i=0:=by
  have:=(List.getElem?_eq_some_iff.mp x).1
  rw[List.length_singleton] at this
  omega
 subst hi
 cases x
 cases y
 exact h⟩
def OrdsAt (H:Hp)(l:Addr)(L:List (List Nat)):Prop:=∃as:List Addr,H l=some (.lst (as.map V.ref))/\TupI H as L
def spAllo:Sp:=fun vs H Q _=>∃n:Nat,vs=[.int n]/\n<=6/\∀(l:Addr)(H':Hp),Same H H'->OrdsAt H' l (allOrd n)->Q (.ref l) H'
theorem insAll_len (x:Nat)(l:List Nat):(insAll x l).length=l.length+1:=by unfold insAll;rw[List.length_map,List.length_range]
theorem allOrd_len {n:Nat}{l:List Nat}(h:l∈allOrd n):l.length=n:=by rw[(allOrd_mem.mp h).length_eq,List.length_range]
theorem flat_len {x m:Nat}:∀{L:List (List Nat)},(∀l∈L,l.length=m)->(L.flatMap (insAll x)).length=L.length*(m+1)
 | [],_=>by simp
 | l::L,h=>by
  rw[List.flatMap_cons,List.length_append,insAll_len,flat_len fun k hk=>h k (List.mem_cons_of_mem _ hk),h l List.mem_cons_self,List.length_cons,Nat.succ_mul,Nat.add_comm]
theorem allOrd_size:∀n,n<=6->(allOrd n).length<=720:=by
 have st:∀n,(allOrd (n+1)).length=(allOrd n).length*(n+1):=fun n=>by
  rw[allOrd];exact flat_len fun l hl=>allOrd_len hl
 intro n hn
 have e0:(allOrd 0).length=1:=rfl
 have e1:(allOrd 1).length=(allOrd 0).length*1:=st 0
 have e2:(allOrd 2).length=(allOrd 1).length*2:=st 1
 have e3:(allOrd 3).length=(allOrd 2).length*3:=st 2
 have e4:(allOrd 4).length=(allOrd 3).length*4:=st 3
 have e5:(allOrd 5).length=(allOrd 4).length*5:=st 4
 have e6:(allOrd 6).length=(allOrd 5).length*6:=st 5
 obtain rfl | rfl | rfl | rfl | rfl | rfl | rfl:n=0\/n=1\/n=2\/n=3\/n=4\/n=5\/n=6:=by omega
 all_goals omega
section
variable {P:Program}{w:World}{K:PySem.W.Frag}{mg:Str->Option Value}{base:Heap}
theorem scAllo:FnScope ["_law_n", "_law_found", "_law_place", "_law_wider", "_law_order"] ["_law_n"] (defScope sAllo):=⟨rfl,rfl,rfl,by decide +kernel,rfl,by decide +kernel,by decide +kernel⟩
theorem ok_allo {f:Addr}{fd':FuncData}(F:Fun K "_law_all_orders" "_law_all_orders" sAllo f fd') (mRange:mg "range" = none) (mLen:mg "len" = none):FnOk P w K mg base CX0 1 f fd' ["_law_n"] spAllo:=by
 refine F.ok scAllo (fun vs H Q E h=>?_) (fun cdv A outer s H vs Q E hr h=>?_)
 . obtain⟨n,rfl,_⟩:=h
   rfl
 . obtain⟨n,rfl,n6,k⟩:=h
   refine⟨_,pss_cons (ps_set (i:=1) scAllo.nd rfl (Or.inl rfl) (pe_lst (pa_cons (pe_tup pa_nil) pa_nil)))
    (pss_cons (ps_for PassesOwn.never rfl (pi_range1 rfl mRange (pa_cons (pv 0) pa_nil)) (pg_name (i:=2) scAllo.nd rfl (Or.inr rfl))
     (pss_cons (ps_set (i:=3) scAllo.nd rfl (Or.inl rfl) (pe_lst pa_nil))
     (pss_cons (ps_for PassesOwn.never rfl (pi_list (pv 1)) (pg_name (i:=4) scAllo.nd rfl (Or.inr rfl))
      (pss_one (ps_expr (pe_bm PySem.F.plainAttrs_list PySem.F.slot_list_extend PySem.F.type_list_extend mt_extend (pv 3) (pa_cons (pe_comp (own:=["_law_at"]) (cn:=["_law_order", "_law_place"]) (ci:=[4,2]) rfl (csc rfl rfl) ⟨rfl,rfl,rfl,rfl,rfl,rfl,trivial⟩ rfl
       (pi_range1 rfl mRange (pa_cons (pe_op op_add (pe_callB call_len_seq (by rfl) mLen PySem.boot_len (pa_cons (pv 4) pa_nil)) pe_int) pa_nil)) (fun _ _ _ _=>pg_name (i:=0) (nd_of rfl) rfl (Or.inl rfl)) (fun _ _ _ _=>pts_nil)
       (fun _ _ _ _=>pe_op op_catV (pe_op op_catV (pe_slice sl_tupV (pv 1) po_none (po_some (pv 0))) (pe_tup (pa_cons (pv 2) pa_nil))) (pe_slice sl_tupV (pv 1) (po_some (pv 0)) po_none))) pa_nil)))))
     (pss_one (ps_set (i:=1) scAllo.nd rfl (Or.inl rfl) (pv 3))))))
    (pss_one (ps_ret (pv 1)))),?_⟩
   refine⟨by show 0<=sizeLine;decide,fun e he=>⟨by show 1<=sizeLine;decide,fun l0 hl0=>?_⟩⟩
   have s0:=(same_laid (o:=.tup []) he).trans (same_laid (o:=.lst [.ref e]) hl0)
   have O0:OrdsAt (upd (upd H e (.tup [])) l0 (.lst [.ref e])) l0 (allOrd 0):=⟨[e],upd_same,TupI.one (os:=[]) (same_laid hl0 _ _ upd_same)⟩
   refine⟨_,rfl,(n:Int),rfl,by omega,by omega,for_range (lo:=0) (n:=((n:Int)).toNat) (fun q σ H2=>∃(l:Addr)(v2 v3 v4:Option V),σ=[some (.int n),some (.ref l),v2,v3,v4]/\Same H H2/\OrdsAt H2 l (allOrd q)) ⟨l0,_,_,_,rfl,s0,O0⟩ (fun q σ H2 hq z=>?_) (fun σ H2 z=>?_)⟩
   . obtain⟨l,v2,v3,v4,rfl,s2,as,hl,TI⟩:=z
     rw[Int.zero_add]
     have hq6:q<6:=by omega
     refine⟨by show 0<=sizeLine;decide,fun wl hwl=>?_⟩
     have s3:=same_laid (o:=.lst []) hwl
     refine⟨_,rfl,l,rfl,⟨_,SqL.of (s3 _ _ hl)⟩,for_list (K:=K) (a:=l) (xs:=as.map V.ref) (fun i σ H3=>∃v4:Option V,σ=[some (.int n),some (.ref l),some (.int q),some (.ref wl),v4]/\Same H2 H3/\OrdsAt H3 wl (((allOrd q).take i).flatMap (insAll q))) ⟨_,rfl,s3,[],upd_same,rfl,fun i a os e=>by simp at e⟩ (fun i σ H3 _ z=>?_) (fun i x σ H3 hx z=>?_) (fun σ H3 z=>?_)⟩
     . obtain⟨_,_,s23,_⟩:=z
       exact SqL.of (s23 _ _ hl)
     . obtain⟨v4',rfl,s23,bs,hwl3,TB⟩:=z
       rw[List.getElem?_map] at hx
       obtain⟨a,ha,rfl⟩:∃a,as[i]? = some a/\V.ref a=x:=by
        cases e:as[i]? with
        | none=>rw[e] at hx;cases hx
        | some a=>rw[e] at hx;exact⟨a,rfl,Option.some.inj hx⟩
       have hiL:i<(allOrd q).length:=by rw[<-TI.1];exact (List.getElem?_eq_some_iff.mp ha).1
       obtain⟨os,hos⟩:∃os,(allOrd q)[i]? = some os:=⟨_,List.getElem?_eq_getElem hiL⟩
       have hol:=allOrd_len (List.mem_of_getElem? hos)
       have ha3:H3 a=some (.tup (oV2 os)):=s23 _ _ (TI.2 i a os ha hos)
       have hvl:(oV2 os).length=q:=by rw[List.length_map,List.length_map,hol]
       refine⟨_,rfl,.inl ⟨rfl,_,SqL.of hwl3⟩,_,rfl,a,_,rfl,.inr (SqT.of ha3),_,_,rfl,rfl,?_⟩
       rw[hvl]
       refine⟨(q:Int)+1,rfl,by omega,by omega,[.ref a,.int q],rfl,fun D hD=>?_⟩
       refine comp_range (lo:=0) (n:=((q:Int)+1).toNat) (fun j ys H4=>j<=q+1/\∃cs:List Addr,ys=cs.map V.ref/\Same H3 H4/\H4 D=some (.lst ys)/\TupI H4 cs ((List.range j).map (insAt q os))) ⟨Nat.zero_le _,[],rfl,same_laid hD,upd_same,rfl,fun i a os e=>by simp at e⟩ (fun j ys H4 z=>?_) (fun j ys H4 hj z=>?_) (fun ys H4 z=>?_)
       . obtain⟨hj,cs,rfl,_,_,TC⟩:=z
         rw[List.length_map,TC.1,List.length_map,List.length_range]
         exact small_line (by omega)
       . obtain⟨_,cs,rfl,s34,h4,TC⟩:=z
         rw[Int.zero_add]
         have ha4:=s34 _ _ ha3
         refine⟨⟨rfl,rfl⟩,?_⟩
         refine tyes ?_
         refine⟨_,rfl,_,rfl,_,rfl,a,_,rfl,ha4,fun p1 H5 s45 h5=>?_⟩
         rw[cutV_take] at h5
         refine⟨_,rfl,by show 1<=sizeLine;decide,fun p2 hp2=>?_⟩
         have s56:=same_laid (o:=.tup [.int q]) hp2
         have lz:∀m:Nat,m<=100->m<=sizeLine:=fun m hm=>Nat.le_of_lt (small_line (by omega))
         refine⟨p1,p2,_,_,rfl,rfl,s56 _ _ h5,upd_same,lz _ (by rw[List.length_take];show min _ _+1<=100;omega),fun p3 H7 s67 h7=>?_⟩
         have s47:=(s45.trans s56).trans s67
         refine⟨_,rfl,_,rfl,_,rfl,a,_,rfl,s47 _ _ ha4,fun p4 H8 s78 h8=>?_⟩
         rw[cutV_drop] at h8
         refine⟨p3,p4,_,_,rfl,rfl,s78 _ _ h7,h8,lz _ (by rw[List.length_append,List.length_take,List.length_drop];show min _ _+1+_<=100;omega),fun p5 H9 s89 h9=>?_⟩
         have s49:=(s47.trans s78).trans s89
         refine⟨s49 _ _ h4,by omega,cs++[p5],by rw[List.map_append];rfl,same_chg (s34.trans s49) hD,upd_same,?_⟩
         rw[List.range_succ,List.map_append]
         refine (TupI.chg ((TC.same s49).app (TupI.one (os:=insAt q os j) ?_)) (s49 _ _ h4))
         rw[h9]
         unfold insAt oV2
         rw[List.map_append,List.map_append,List.map_cons,List.map_cons,List.map_take,List.map_take,List.map_drop,List.map_drop,List.append_assoc]
         rfl
       . obtain⟨_,cs,rfl,s34,h4,TC⟩:=z
         have hw4:=s34 _ _ hwl3
         have nDw:D≠wl:=fun z=>by rw[z,hwl3] at hD;cases hD
         have eR:((List.range ((q:Int)+1).toNat).map (insAt q os))=insAll q os:=by
          unfold insAll
          rw[hol,show ((q:Int)+1).toNat=q+1 by omega]
         rw[eR] at TC
         have eT:((allOrd q).take (i+1)).flatMap (insAll q)=((allOrd q).take i).flatMap (insAll q)++insAll q os:=by rw[List.take_add_one,hos,List.flatMap_append];show _++([os].flatMap _)=_;rw[List.flatMap_cons,List.flatMap_nil,List.append_nil]
         refine⟨wl,D,_,_,rfl,rfl,hw4,h4,?_,?_⟩
         . rw[List.length_map,List.length_map,TB.1,TC.1,insAll_len,hol]
           have b1:(((allOrd q).take i).flatMap (insAll q)).length=((allOrd q).take i).length*(q+1):=flat_len fun l hl=>allOrd_len (List.mem_of_mem_take hl)
           have b2:=allOrd_size q (by omega)
           rw[b1,List.length_take]
           have b3:min i (allOrd q).length*(q+1)<=720*7:=Nat.mul_le_mul (by omega) (by omega)
           exact Nat.le_of_lt (small_line (by omega))
         . refine⟨_,rfl,same_chg (s23.trans s34) hwl,bs++cs,by rw[upd_same,List.map_append],?_⟩
           rw[eT]
           exact TupI.chg ((TB.same s34).app TC) hw4
     . obtain⟨v4',rfl,s23,O3⟩:=z
       rw[List.length_map,TI.1,List.take_of_length_le (Nat.le_refl _)] at O3
       exact⟨_,rfl,wl,_,_,_,rfl,s2.trans s23,O3⟩
   . obtain⟨l,v2,v3,v4,rfl,s2,O2⟩:=z
     rw[Int.toNat_natCast] at O2
     exact⟨_,rfl,k l H2 s2 O2⟩
end
end K36
namespace K36
open PySem L2 WM
section
variable {P:Program}{w:World}{K:PySem.W.Frag}{mg:Str->Option Value}{base:Heap}
theorem passE {N:List Str}{qual:Str}{scope:Scope}{f:Addr}{cd:Value}{A:Around}{outer:List Env}{s0:Shared}{H0:Hp}{E:XK}:Passes (CXO P w) (cxOf (CXO P w) P w K mg base N qual scope f cd A outer s0 H0 E) E:=fun _ _ _ _ _ _ I h=>passed_xe I h fun _ _ _ z=>z
end
inductive GlobL (X:Cx):List Expr->List Addr->Prop
 | nil:GlobL X [] []
 | cons {x:Str}{p:Pos}{c:Addr}{es:List Expr}{cs:List Addr}:PE X (.Name x p) (tC (.ref c))->GlobL X es cs->GlobL X (.Name x p::es) (c::cs)
theorem pa_glob {X:Cx}{es:List Expr}{cs:List Addr}(h:GlobL X es cs):PA X es (fun _ H Q=>Q (cs.map V.ref) H):=by
 induction h with
 | nil=>exact pa_nil
 | cons he _ ih=>exact pa_cons he ih
structure ErrG (K:PySem.W.Frag)(mg:Str->Option Value)(nm:Str)(ns:List Str)(cW cR:Addr)(cs:List Addr):Prop where
 mW:mg "WayError" = some (.ref cW)
 mR:mg nm=some (.ref cR)
 qW:PySem.W.excIn K cW bmV "ValueError.__new__" = true
 qR:PySem.W.excIn K cR bmV "ValueError.__new__" = true
 sb:L2.subIn K cR cW=true
 ex:ExcAt K cR
 ms:ns.map mg=cs.map fun c=>some (.ref c)
 k1:PySem.W.kitAny K (.ref cR) (cs.map Value.ref)=some false
 kR:PySem.W.kitOne K (.ref cR) (.ref cR)=some true
 kV:PySem.W.kitOne K (.ref cR) (.type "ValueError")=some true
abbrev nsM:List Str:=["NoLabels", "NoLeast", "NoOrder", "NoPart", "NoPlan", "NoPosts", "NoRing", "NoRow", "NoText", "NoTie"]
def spRtmR (c:Addr):Sp:=fun vs H _ E=>∃(wa ta:Addr)(n:Int),vs=[.ref wa]/\H wa=some (.tup [.int n,.ref ta])/\8<n/\E (.ref c) none H
def spRefu:Sp:=fun vs H Q _=>∃(wa ta:Addr)(n:Int),vs=[.ref wa]/\H wa=some (.tup [.int n,.ref ta])/\8<n/\∀H',Same H H'->Q (.str "many") H'
section
variable {P:Program}{w:World}{K:PySem.W.Frag}{mg:Str->Option Value}{base:Heap}
theorem ok_rtmR {f c:Addr}{fd':FuncData}{tk:Tok}(F:Fun K "refuse_too_many" "refuse_too_many" sRtm f fd') (mMT:mg "MOST_PLACES_OF_LEASTS" = some (.int 8 tk)) (mC:mg "TooMany" = some (.ref c)) (qC:PySem.W.excIn K c bmV "ValueError.__new__" = true):FnOk P w K mg base (CXO P w) 1 f fd' ["web"] (spRtmR c):=by
 refine F.okX scRtm (fun vs H Q E h=>?_) (fun cdv A outer s H vs Q E hr h=>?_)
 . obtain⟨wa,ta,n,rfl,_⟩:=h
   rfl
 . obtain⟨wa,ta,n,rfl,hwa,h8,k⟩:=h
   refine⟨_,pss_one (ps_if (pt_cmpR op_gt (pe_ix ix_tup (pv 0) pe_int (fun _ _=>rfl)) (pe_glob (v:=.int 8) rfl mMT ⟨tk,rfl⟩) (nomark _)) (pss_one (ps_raise (E:=E) rfl mC qC rfl (pa_cons pe_str pa_nil) (fun pins σ H s h' ea vs I mx hE=>raised_xe I mx hE) (hl:=fun σ H Q h=>⟨Nat.le_refl 1,h⟩))) pss_nil),?_⟩
   exact⟨_,rfl,wa,_,_,_,rfl,rfl,SqT.of hwa,rfl,_,_,rfl,rfl,_,rfl,ifT (decide_eq_true (by omega)) k⟩
theorem ok_lordR {f fR c:Addr}{fd' fdR:FuncData}(F:Fun K "least_order" "least_order" sLord f fd') (FR:Fun K "refuse_too_many" "refuse_too_many" sRtm fR fdR) (bR:Binds K fdR ["web"] []) (mR:mg "refuse_too_many" = some (.ref fR)) (GR:FnOk P w K mg base (CXO P w) 6 fR fdR ["web"] (spRtmR c)):FnOk P w K mg base (CXO P w) 7 f fd' ["web"] (spRtmR c):=by
 refine F.okX scLord (fun vs H Q E h=>?_) (fun cdv A outer s H vs Q E hr h=>?_)
 . obtain⟨wa,ta,n,rfl,_⟩:=h
   rfl
 . obtain⟨wa,ta,n,rfl,hwa,h8,k⟩:=h
   exact⟨_,pss_cons (ps_expr (pe_call GR hr rfl mR FR.kp bR .nil passE (pa_cons (pv 0) pa_nil))) pss_no,⟨_,rfl,wa,ta,n,rfl,hwa,h8,k⟩⟩
theorem scRefu:FnScope ["_law_web_here", "_law_found", "e", "_law_others"] ["_law_web_here"] (defScope sRefu):=⟨rfl,rfl,rfl,by decide +kernel,rfl,by decide +kernel,by decide +kernel⟩
theorem ok_refu {f fL cW cR cT c1 c2 c3 c4 c5 c6 c7 c8 c9 c10:Addr}{fd' fdL:FuncData}(F:Fun K "_law_refused" "_law_refused" sRefu f fd') (FL:Fun K "least_order" "least_order" sLord fL fdL) (bL:Binds K fdL ["web"] []) (mL:mg "least_order" = some (.ref fL)) (GL:FnOk P w K mg base (CXO P w) 7 fL fdL ["web"] (spRtmR cR))
 (Er:ErrG K mg "TooMany" nsM cW cR [c1,c2,c3,c4,c5,c6,c7,c8,c9,c10]) (mTr:mg "NoTree" = some (.ref cT)) (kT:PySem.W.kitOne K (.ref cR) (.ref cT)=some false)(mIsi:mg "isinstance" = none) (mVal:mg "ValueError" = none):FnOk P w K mg base CX0 8 f fd' ["_law_web_here"] spRefu:=by
 obtain⟨h1,h2,h3,h4,h5,h6,h7,h8',h9,h10⟩:mg "NoLabels" = some (.ref c1)/\mg "NoLeast" = some (.ref c2)/\mg "NoOrder" = some (.ref c3)/\mg "NoPart" = some (.ref c4)/\mg "NoPlan" = some (.ref c5)/\mg "NoPosts" = some (.ref c6)/\mg "NoRing" = some (.ref c7)/\mg "NoRow" = some (.ref c8)/\mg "NoText" = some (.ref c9)/\mg "NoTie" = some (.ref c10):=by
  have:=Er.ms
  simpa using this
 refine F.ok scRefu (fun vs H Q E h=>?_) (fun cdv A outer s H vs Q E hr h=>?_)
 . obtain⟨wa,ta,n,rfl,_⟩:=h
   rfl
 . obtain⟨wa,ta,n,rfl,hwa,h8,k⟩:=h
   refine⟨_,pss_cons (ps_set (i:=1) scRefu.nd rfl (Or.inl rfl) pe_str)
    (pss_cons (ps_try (i:=2) scRefu.nd rfl rfl rfl rfl rfl rfl Er.mW Er.qW (px_expr GL hr rfl mL FL.kp bL (pa_cons (pv 0) pa_nil))
     (fun ea oe c hc=>pss_cons (ps_set (i:=3) scRefu.nd rfl (Or.inl rfl) (pe_callB (call_isinstXs (held_at hc)) (by rfl) mIsi (by decide +kernel) (pa_cons (pv 2) (pa_cons (pe_tup (pa_glob (.cons (pe_glob (v:=.ref c1) rfl h1 rfl) (.cons (pe_glob (v:=.ref c2) rfl h2 rfl) (.cons (pe_glob (v:=.ref c3) rfl h3 rfl) (.cons (pe_glob (v:=.ref c4) rfl h4 rfl) (.cons (pe_glob (v:=.ref c5) rfl h5 rfl) (.cons (pe_glob (v:=.ref c6) rfl h6 rfl)
      (.cons (pe_glob (v:=.ref c7) rfl h7 rfl) (.cons (pe_glob (v:=.ref c8) rfl h8' rfl) (.cons (pe_glob (v:=.ref c9) rfl h9 rfl) (.cons (pe_glob (v:=.ref c10) rfl h10 rfl) .nil)))))))))))) pa_nil))))
      (pss_cons (ps_set (i:=1) scRefu.nd rfl (Or.inl rfl) pe_str)
      (pss_one (ps_if (PW.pt (pw_and (pt_val (pe_callB (call_isinstX (held_at hc)) (by rfl) mIsi (by decide +kernel) (pa_cons (pv 2) (pa_cons (pe_glob (v:=.ref cR) rfl Er.mR rfl) pa_nil)))) (pw_and (pt_val (pe_callB (call_isinstXT (held_at hc)) (by rfl) mIsi (by decide +kernel) (pa_cons (pv 2) (pa_cons (pe_tyN (T := "ValueError") (by rfl) mVal (by decide +kernel)) pa_nil)))) (pw_and (pt_not (pt_val (pv 3)))
       (pw_and1 (pt_not (pt_val (pe_callB (call_isinstX (held_at hc)) (by rfl) mIsi (by decide +kernel) (pa_cons (pv 2) (pa_cons (pe_glob (v:=.ref cT) rfl mTr rfl) pa_nil))))))))))
       (pss_one (ps_set (i:=1) scRefu.nd rfl (Or.inl rfl) pe_str)) pss_nil)))))
    (pss_one (ps_ret (pv 1)))),?_⟩
   refine⟨_,rfl,wa,ta,n,rfl,hwa,h8,?_⟩
   refine⟨cR,rfl,Er.qR,Er.sb,fun ea oe hc hea=>?_⟩
   refine⟨_,rfl,(by show 10<=sizeLine;decide),fun p hp=>?_⟩
   refine⟨p,[c1,c2,c3,c4,c5,c6,c7,c8,c9,c10],false,Er.ex,rfl,upd_same,Er.k1,?_⟩
   refine⟨_,rfl,cR,true,Er.ex,rfl,Er.kR,true,rfl,iteT ?_⟩
   refine⟨_,rfl, "ValueError",true,Er.ex,rfl,Er.kV,true,rfl,iteT ?_⟩
   refine⟨_,rfl,false,rfl,iteT ?_⟩
   refine⟨_,rfl,cT,false,Er.ex,rfl,kT,false,rfl,iteT ?_⟩
   exact⟨_,rfl,k _ (same_laid hp)⟩
end
end K36
namespace K36
open PySem L2 WM
def tieT (t:T3):PyData:=.tuple ((tl t).map PyData.int)
def webPy (n:Int)(ts:List T3):PyData:=.tuple [.int n,.tuple (ts.map tieT)]
theorem sh_ints {H:Hp}:∀l:List Int,ShowsAll H (l.map V.int) (l.map PyData.int)
 | []=>.nil
 | _::r=>.cons (.int _) (sh_ints r)
theorem sh_ties {H:Hp}:∀{xs:List V}{ts:List T3},TupsAre H xs (ts.map tl)->ShowsAll H xs (ts.map tieT)
 | [],[],_=>.nil
 | [],_::_,h=>h.elim
 | _::_,[],h=>h.elim
 | x::xs,t::ts,h=>by
  obtain⟨⟨a,rfl,ha,_⟩,hr⟩:=h
  exact .cons (.tup ha (sh_ints _)) (sh_ties hr)
theorem sh_web {H:Hp}{wa:Addr}{n:Int}{ts:List T3}(W:WebAt H wa n ts):Shows H (.ref wa) (webPy n ts):=by
 obtain⟨ta,tys,h1,h2,h3,_⟩:=W
 exact .tup h1 (.cons (.int _) (.cons (.tup h2 (sh_ties h3)) .nil))
theorem web_fn {n:Int}{ts:List T3}(g:GW n ts):Fn 12034 3 (webPy n ts):=by
 have h1:=g.n1
 have h2:=g.n24
 have hl:=g.len
 have ht:Fn 6016 2 (.tuple (ts.map tieT)):=by
  refine (fn_tup (n:=93) (p:=1) (L:=64) (fun d hd=>?_) (by rw[List.length_map];omega)).mono (by decide) (by decide)
  obtain⟨t,ht,rfl⟩:=List.mem_map.mp hd
  obtain⟨r1,r2,r3,r4,r5⟩:=g.rng t ht
  refine (fn_tup (n:=30) (p:=0) (L:=3) (fun d hd=>?_) (by rw[List.length_map];exact Nat.le_refl 3)).mono (by decide) (by decide)
  obtain⟨i,hi,rfl⟩:=List.mem_map.mp hd
  have hi':i=t.1\/i=t.2.1\/i=t.2.2:=by simpa [tl] using hi
  exact fn_int (by omega)
 refine (fn_tup (n:=6016) (p:=2) (L:=2) (ds:=[.int n,.tuple (ts.map tieT)]) (fun d hd=>?_) (Nat.le_refl 2)).mono (by decide) (by decide)
 rcases List.mem_cons.mp hd with rfl | hd
 . exact (fn_int (by omega)).mono (by decide) (by decide)
 . rcases List.mem_cons.mp hd with rfl | hd
   . exact ht
   . cases hd
theorem TapeAt.smT {H H':Hp}{t:Addr}{N:Nat}(h:TapeAt H t N)(k:SmT H H'):TapeAt H' t N:=by
 obtain⟨p,ns,spot,rest,a,b,c⟩:=h
 exact⟨p,ns,spot,rest,k.get a (by intro ps z;cases z),k.get b (by intro ps z;cases z),c⟩
theorem SetsAt.smT {H H':Hp}{sl:Addr}{R:List (List Int)}(h:SetsAt H sl R)(k:SmT H H'):SetsAt H' sl R:=by
 obtain⟨rs,a,b,c⟩:=h
 exact⟨rs,k.get a (by intro ps z;cases z),b,fun i r row x y=>k.get (c i r row x y) (by intro ps z;cases z)⟩
theorem tab_tape {H H':Hp}{t PT:Addr}{N:Nat}{pos:Pos}{q:Str}(T:TapeAt H t N)(k:Sm t H H')(h:TabAt H PT pos q):TabAt H' PT pos q:=by
 obtain⟨p,ns,spot,rest,a,_⟩:=T
 obtain⟨ps,hp,_⟩:=id h
 exact h.keep (fun o e=>k _ _ (ne_of hp a (by intro z;cases z)) e) fun c φ e=>k _ _ (ne_of e a (by intro z;cases z)) e
theorem at0 {nu:List Int}(h:0<nu.length):atI (nu.map V.int) 0=some (V.int (nu.getD 0 0)):=
 atI_nat (j:=0) (by rw[List.getElem?_map,List.getD_eq_getElem?_getD,List.getElem?_eq_getElem h];rfl)
def spLaw (K:PySem.W.Frag)(PT P2:Addr):Sp:=fun vs H Q _=>∃(a:Addr)(ns:List Int),vs=[.ref a]/\SqL K H a (ns.map V.int)/\ns.length<=63/\H PT=some (.tbl #[])/\H P2=some (.tbl #[])/\∀H',Q (.bl true) H'
def tPick:TE:=fun σ H Q=>∃(t:Addr)(N:Nat),σ[1]? = some (some (.ref t))/\TapeAt H t N/\N<800000/\∀(n:Int)(H':Hp),1<=n->n<=12->TapeAt H' t (N+2)->Sm t H H'->Q (.int n) H'
section
variable {P:Program}{w:World}{K:PySem.W.Frag}{mg:Str->Option Value}{base:Heap}
theorem scLaw:FnScope ["_law_script", "_law_tape_here", "_law_k", "_law_web_here", "_law_masks_here", "_law_kept", "_law_found", "_law_some"] ["_law_script"] (defScope sLaw):=⟨rfl,rfl,rfl,by decide +kernel,rfl,by decide +kernel,by decide +kernel⟩
theorem ok_law {PT P2 c cB cW cR cT c1 c2 c3 c4 c5 c6 c7 c8 c9 c10 f fTa fD fSm fW fT fNe fF fLe fBw fCf fSf fSn fRt fAs fLp fBo fLo fLn fBn fA fLs fFr fO fIq fMa fBr fIn fLl fSt fLf fAo fRe:Addr}{tk:Tok}{fd' fdTa fdD fdSm fdW fdT fdNe fdF fdLe fdBw fdCf fdSf fdSn fdRt fdAs fdLp fdBo fdLo fdLn fdBn fdA fdLs fdFr fdO fdIq fdMa fdBr fdIn fdLl fdSt fdLf fdAo fdRe:FuncData}(F:Fun K "law" "law" sLaw f fd') (CH:PySem.W.CodeHd base c PT)(CH2:PySem.W.CodeHd base cB P2)(hbm:BmAt mg base)(ne:PT≠P2)
 (Er:ErrG K mg "TooMany" nsM cW cR [c1,c2,c3,c4,c5,c6,c7,c8,c9,c10]) (mTr:mg "NoTree" = some (.ref cT)) (kT:PySem.W.kitOne K (.ref cR) (.ref cT)=some false)(mMT:mg "MOST_PLACES_OF_LEASTS" = some (.int 8 tk))
 (FTa:Fun K "_law_tape" "_law_tape" sTape fTa fdTa) (bTa:Binds K fdTa ["_law_script"] []) (mTa:mg "_law_tape" = some (.ref fTa))
 (FD:Fun K "_law_draw" "_law_draw" sDraw fD fdD) (bD:Binds K fdD ["_law_tape_here", "_law_many"] []) (mD:mg "_law_draw" = some (.ref fD))
 (FSm:Fun K "_law_small" "_law_small" sSmall fSm fdSm) (bSm:Binds K fdSm ["_law_tape_here"] []) (mSm:mg "_law_small" = some (.ref fSm))
 (FW:Fun K "_law_web" "_law_web" sWeb fW fdW) (bW:Binds K fdW ["_law_tape_here", "_law_n"] []) (mW:mg "_law_web" = some (.ref fW))
 (FT:Fun K "ties_at" "ties_at" sTies fT fdT) (bT:Binds K fdT ["web", "place"] []) (mT:mg "ties_at" = some (.ref fT))
 (FNe:FunC K "nearest" "nearest" sNear fNe fdNe c) (bNe:Binds K fdNe ["waiting"] []) (mNe:mg "nearest" = some (.ref fNe))
 (FF:Fun K "lengths_from" "lengths_from" sFrom fF fdF) (bF:Binds K fdF ["web", "start"] []) (mF:mg "lengths_from" = some (.ref fF))
 (FLe:Fun K "lengths" "lengths" sLens fLe fdLe) (bLe:Binds K fdLe ["web"] []) (mLe:mg "lengths" = some (.ref fLe))
 (FBw:Fun K "between_rows" "between_rows" sBwr fBw fdBw) (bBw:Binds K fdBw ["here", "there", "other"] []) (mBw:mg "between_rows" = some (.ref fBw))
 (FCf:Fun K "count_free" "count_free" sCf fCf fdCf) (bCf:Binds K fdCf ["sets", "taken"] []) (mCf:mg "count_free" = some (.ref fCf))
 (FSf:Fun K "sets_from" "sets_from" sSf fSf fdSf) (bSf:Binds K fdSf ["rows", "hub"] []) (mSf:mg "sets_from" = some (.ref fSf))
 (FSn:Fun K "set_number" "set_number" sSn fSn fdSn) (bSn:Binds K fdSn ["places"] []) (mSn:mg "set_number" = some (.ref fSn))
 (FRt:Fun K "refuse_too_many" "refuse_too_many" sRtm fRt fdRt) (bRt:Binds K fdRt ["web"] []) (mRt:mg "refuse_too_many" = some (.ref fRt))
 (FAs:Fun K "all_sets" "all_sets" sAlls fAs fdAs) (bAs:Binds K fdAs ["web"] []) (mAs:mg "all_sets" = some (.ref fAs))
 (FLp:Fun K "left_places" "left_places" sLpl fLp fdLp) (bLp:Binds K fdLp ["web", "taken"] []) (mLp:mg "left_places" = some (.ref fLp))
 (FBo:Fun K "by_way_of" "by_way_of" sBwo fBo fdBo) (bBo:Binds K fdBo ["sets", "numbers", "taken", "hub"] []) (mBo:mg "by_way_of" = some (.ref fBo))
 (FLo:Fun K "least_order" "least_order" sLord fLo fdLo) (bLo:Binds K fdLo ["web"] []) (mLo:mg "least_order" = some (.ref fLo))
 (FLn:Fun K "least_numbers" "least_numbers" sLnum fLn fdLn) (bLn:Binds K fdLn ["web", "sets"] []) (mLn:mg "least_numbers" = some (.ref fLn))
 (FBn:FunC K "best_next" "best_next" sBest fBn fdBn cB) (bBn:Binds K fdBn ["web", "sets", "numbers", "taken"] []) (mBn:mg "best_next" = some (.ref fBn))
 (FA:Fun K "_law_added" "_law_added" sAdd fA fdA) (bA:Binds K fdA ["_law_one", "_law_other"] []) (mA:mg "_law_added" = some (.ref fA))
 (FLs:Fun K "_law_lesser" "_law_lesser" sLes fLs fdLs) (bLs:Binds K fdLs ["_law_one", "_law_other"] []) (mLs:mg "_law_lesser" = some (.ref fLs))
 (FFr:Fun K "_law_far" "_law_far" sFar fFr fdFr) (bFr:Binds K fdFr ["_law_web_here"] []) (mFr:mg "_law_far" = some (.ref fFr))
 (FO:Fun K "_law_on" "_law_on" sOn fO fdO) (bO:Binds K fdO ["_law_far_here", "_law_place", "_law_one", "_law_other"] []) (mO:mg "_law_on" = some (.ref fO))
 (FIq:Fun K "_law_is_order" "_law_is_order" sLio fIq fdIq) (bIq:Binds K fdIq ["_law_n", "_law_thing"] []) (mIq:mg "_law_is_order" = some (.ref fIq))
 (FMa:Fun K "_law_masks" "_law_masks" sMask fMa fdMa) (bMa:Binds K fdMa ["_law_web_here"] []) (mMa:mg "_law_masks" = some (.ref fMa))
 (FBr:Fun K "_law_brought" "_law_brought" sBrt fBr fdBr) (bBr:Binds K fdBr ["_law_masks_here", "_law_some", "_law_hub"] []) (mBr:mg "_law_brought" = some (.ref fBr))
 (FIn:Fun K "_law_in_all" "_law_in_all" sInal fIn fdIn) (bIn:Binds K fdIn ["_law_masks_here", "_law_order"] []) (mIn:mg "_law_in_all" = some (.ref fIn))
 (FLl:Fun K "_law_least" "_law_least" sLlst fLl fdLl) (bLl:Binds K fdLl ["_law_masks_here"] []) (mLl:mg "_law_least" = some (.ref fLl))
 (FSt:Fun K "_law_step_fault" "_law_step_fault" sStep fSt fdSt) (bSt:Binds K fdSt ["_law_masks_here", "_law_numbers"] []) (mSt:mg "_law_step_fault" = some (.ref fSt))
 (FLf:Fun K "_law_least_fault" "_law_least_fault" sLfau fLf fdLf) (bLf:Binds K fdLf ["_law_masks_here", "_law_thing"] []) (mLf:mg "_law_least_fault" = some (.ref fLf))
 (FAo:Fun K "_law_all_orders" "_law_all_orders" sAllo fAo fdAo) (bAo:Binds K fdAo ["_law_n"] []) (mAo:mg "_law_all_orders" = some (.ref fAo))
 (FRe:Fun K "_law_refused" "_law_refused" sRefu fRe fdRe) (bRe:Binds K fdRe ["_law_web_here"] []) (mRe:mg "_law_refused" = some (.ref fRe))
 (mLen:mg "len" = none) (mRange:mg "range" = none) (mTuple:mg "tuple" = none) (mSorted:mg "sorted" = none) (mMin:mg "min" = none) (mRepr:mg "repr" = none) (mList:mg "list" = none) (mIsi:mg "isinstance" = none) (mInt:mg "int" = none) (mBool:mg "bool" = none) (mSum:mg "sum" = none) (mVal:mg "ValueError" = none):FnOk P w K mg base CX0 9 f fd' ["_law_script"] (spLaw K PT P2):=by
 have GTa:FnOk P w K mg base CX0 8 fTa fdTa ["_law_script"] (spTape K):=(ok_tape FTa).mono (by decide)
 have GD:FnOk P w K mg base CX0 8 fD fdD ["_law_tape_here", "_law_many"] spDraw:=(ok_draw FD mLen).mono (by decide)
 have GSm:FnOk P w K mg base CX0 8 fSm fdSm ["_law_tape_here"] spN:=(ok_n FSm FD bD mD mLen).mono (by decide)
 have GW':FnOk P w K mg base CX0 8 fW fdW ["_law_tape_here", "_law_n"] spWeb:=(ok_web FW FD bD mD mLen mRange mTuple mSorted).mono (by decide)
 have GF:FnOk P w K mg base CX0 3 fF fdF ["web", "start"] (spFrom PT):=ok_from FF FNe bNe mNe FT bT mT CH hbm mMin mSorted mTuple
 have GLe:FnOk P w K mg base CX0 5 fLe fdLe ["web"] (spLens PT):=(ok_lens FLe FF bF mF GF mRange mTuple).mono (by decide)
 have GSf:FnOk P w K mg base CX0 5 fSf fdSf ["rows", "hub"] spSf:=(ok_sf FSf FSn bSn mSn FBw bBw mBw mRange mTuple mLen mSum).mono (by decide)
 have GAs:FnOk P w K mg base CX0 6 fAs fdAs ["web"] (spAlls PT):=ok_alls FAs FLe bLe mLe GLe FSf bSf mSf GSf mRange
 have GBo:FnOk P w K mg base CX0 2 fBo fdBo ["sets", "numbers", "taken", "hub"] spBwo:=ok_bwo FBo FCf bCf mCf mLen
 have GBn:FnOk P w K mg base CX0 5 fBn fdBn ["web", "sets", "numbers", "taken"] (spBest P2):=ok_best FBn CH2 hbm mMin FLp bLp mLp ((ok_lpl FLp mRange).mono (by decide)) FBo bBo mBo GBo
 have GLn:FnOk P w K mg base CX0 6 fLn fdLn ["web", "sets"] (spLnum P2):=ok_lnum FLn FBn.fn bBn mBn GBn FBo bBo mBo (GBo.mono (by decide)) mRange
 have GLo:FnOk P w K mg base CX0 8 fLo fdLo ["web"] (spLord PT P2):=(ok_lord FLo FRt bRt mRt ((ok_rtm FRt mMT).mono (by decide)) FAs bAs mAs GAs FLn bLn mLn GLn FSn bSn mSn ((ok_snL FSn mSum).mono (by decide)) FBn.fn bBn mBn (GBn.mono (by decide)) mLen mTuple).mono (by decide)
 have GRe:FnOk P w K mg base CX0 8 fRe fdRe ["_law_web_here"] spRefu:=ok_refu FRe FLo bLo mLo (ok_lordR FLo FRt bRt mRt ((ok_rtmR FRt mMT Er.mR Er.qR).mono (by decide))) Er mTr kT mIsi mVal
 have GMa:FnOk P w K mg base CX0 8 fMa fdMa ["_law_web_here"] spMask:=(ok_mask FMa FFr bFr mFr ((ok_far FFr FA bA mA FLs bLs mLs mRange mMin).mono (by decide)) FO bO mO ((ok_on FO FA bA mA).mono (by decide)) mRange mSum).mono (by decide)
 have GIn:FnOk P w K mg base CX0 8 fIn fdIn ["_law_masks_here", "_law_order"] spInal:=(ok_inal FIn FBr bBr mBr mLen).mono (by decide)
 have GLf:FnOk P w K mg base CX0 8 fLf fdLf ["_law_masks_here", "_law_thing"] spLfau:=(ok_lfau FLf FIq bIq mIq ((ok_lio FIq mIsi mInt mBool mTuple mSorted mList mRange).mono (by decide)) FSt bSt mSt ((ok_step FSt FBr bBr mBr mLen mRange).mono (by decide)) FIn bIn mIn ((ok_inal FIn FBr bBr mBr mLen).mono (by decide)) mIsi mInt mBool mTuple mLen).mono (by decide)
 have GLl:FnOk P w K mg base CX0 8 fLl fdLl ["_law_masks_here"] spLlst:=(ok_llst FLl FBr bBr mBr mLen mRange mMin).mono (by decide)
 have GAo:FnOk P w K mg base CX0 8 fAo fdAo ["_law_n"] spAllo:=(ok_allo FAo mRange mLen).mono (by decide)
 refine F.ok scLaw (fun vs H Q E h=>?_) (fun cdv A outer s H vs Q E hr h=>?_)
 . obtain⟨a,ns,rfl,_⟩:=h
   rfl
 . obtain⟨a,ns,rfl,hS,hlen,hPT,hP2,k⟩:=h
   have hu0:=hr.units0
   refine⟨_,pss_cons (ps_set (i:=1) scLaw.nd rfl (Or.inl rfl) (pe_call GTa hr rfl mTa FTa.kp bTa .nil pass0 (pa_cons (pv 0) pa_nil)))
    (pss_cons (ps_for PassesOwn.never rfl (pi_range1 rfl mRange (pa_int pa_nil)) (pg_name (i:=2) scLaw.nd rfl (Or.inl rfl))
     (pss_cons (ps_set (i:=3) scLaw.nd rfl (Or.inl rfl) (pe_call GW' hr rfl mW FW.kp bW .nil pass0 (pa_cons (pv 1) (pa_cons (pe_as (te':=tPick) (pe_ifExp (pt_cmpR op_eq (pe_call GD hr rfl mD FD.kp bD .nil pass0 (pa_cons (pv 1) (pa_cons pe_int pa_nil))) pe_int (nomark _)) (pe_op op_add pe_int (pe_call GD hr rfl mD FD.kp bD .nil pass0 (pa_cons (pv 1) (pa_cons pe_int pa_nil)))) (pe_call GSm hr rfl mSm FSm.kp bSm .nil pass0 (pa_cons (pv 1) pa_nil))) ?pick) pa_nil))))
     (pss_one (ps_if (pt_cmpR op_gt (pe_ix ix_tup (pv 3) pe_int (fun _ _=>rfl)) pe_int (nomark _))
      (pss_one (ps_if (pt_cmpR op_ne (pe_call GRe hr rfl mRe FRe.kp bRe .nil pass0 (pa_cons (pv 3) pa_nil)) pe_str (nomark _)) (pss_one (ps_ret pe_bl)) pss_nil))
      (pss_cons (ps_set (i:=4) scLaw.nd rfl (Or.inr rfl) (pe_call GMa hr rfl mMa FMa.kp bMa .nil pass0 (pa_cons (pv 3) pa_nil)))
      (pss_cons (ps_set (i:=5) scLaw.nd rfl (Or.inl rfl) (pe_callB (call_repr hr) (by rfl) mRepr (by decide +kernel) (pa_cons (pv 3) pa_nil)))
      (pss_cons (ps_set (i:=6) scLaw.nd rfl (Or.inl rfl) (pe_call GLo hr rfl mLo FLo.kp bLo .nil pass0 (pa_cons (pv 3) pa_nil)))
      (pss_cons (ps_if (PW.pt (pw_or (pt_cmpR (op_neTE hu0) (pe_call GLf hr rfl mLf FLf.kp bLf .nil pass0 (pa_cons (pv 4) (pa_cons (pv 6) pa_nil))) (pe_tup pa_nil) (nomark _)) (pw_or1 (pt_cmpR op_ne (pe_callB (call_repr hr) (by rfl) mRepr (by decide +kernel) (pa_cons (pv 3) pa_nil)) (pv 5) (nomark _))))) (pss_one (ps_ret pe_bl)) pss_nil)
      (pss_cons (ps_if (pt_cmpR op_ne (pe_ix ix_tup (pe_ix ix_tup (pv 6) pe_int (fun _ _=>rfl)) pe_int (fun _ _=>rfl)) (pe_ix ix_list (pe_call GLl hr rfl mLl FLl.kp bLl .nil pass0 (pa_cons (pv 4) pa_nil)) pe_int (fun _ _=>rfl)) (nomark _)) (pss_one (ps_ret pe_bl)) pss_nil)
      (pss_one (ps_if (pt_cmpR op_lt (pe_ix ix_tup (pv 3) pe_int (fun _ _=>rfl)) pe_int (nomark _))
       (pss_cons (ps_setC (i:=7) (own:=["_law_order"]) (cn:=["_law_masks_here"]) (ci:=[4]) scLaw.nd rfl (Or.inl rfl) rfl (csc rfl rfl) ⟨rfl,rfl,rfl,trivial⟩ rfl (pi_list (pe_call GAo hr rfl mAo FAo.kp bAo .nil pass0 (pa_cons (pe_ix ix_tup (pv 3) pe_int (fun _ _=>rfl)) pa_nil))) (fun _ _ _ _=>pg_name (i:=0) (nd_of rfl) rfl (Or.inl rfl)) (fun _ _ _ _=>pts_nil)
        (fun _ _ _ _=>pe_call GIn hr rfl mIn FIn.kp bIn .nil pass0 (pa_cons (pv 1) (pa_cons (pv 0) pa_nil))))
       (pss_one (ps_if (pt_cmpR op_ne (pe_callB (call_minL rfl) (by rfl) mMin (by decide +kernel) (pa_cons (pv 7) pa_nil)) (pe_ix ix_tup (pe_ix ix_tup (pv 6) pe_int (fun _ _=>rfl)) pe_int (fun _ _=>rfl)) (nomark _)) (pss_one (ps_ret pe_bl)) pss_nil))) pss_nil)))))))))))
    (pss_one (ps_ret pe_bl))),?_⟩
   case pick=>
    rintro σ H2 Q2 ⟨t,N,e1,T,hN,kk⟩
    refine⟨_,e1,t,N,9,rfl,T,by omega,by decide,by decide,fun r H3 r0 r9 T3 e3=>?_⟩
    have s3:Sm t H2 H3:=fun b o n e=>by rw[e3 b n];exact e
    refine⟨rfl,_,rfl,ite2 (fun c=>?_) (fun c=>?_)⟩
    . refine⟨_,e1,t,N+1,4,rfl,T3,by omega,by decide,by decide,fun r' H4 q0 q4 T4 e4=>?_⟩
      exact⟨_,_,rfl,rfl,kk _ H4 (by omega) (by omega) T4 (s3.trans fun b o n e=>by rw[e4 b n];exact e)⟩
    . exact⟨_,e1,t,N+1,rfl,T3,by omega,fun n H4 a b T4 s4=>kk n H4 a (by omega) T4 (s3.trans s4)⟩
   refine⟨_,rfl,a,ns,rfl,hS,hlen,fun t H1 ht T1 s1=>?_⟩
   have B1:Tb H1 PT:=⟨#[],s1 _ _ hPT,trivial,.inl rfl⟩
   have C1:Tb2 H1 P2:=⟨#[],s1 _ _ hP2,trivial,.inl rfl⟩
   refine⟨3,rfl,by decide,by decide,for_range (lo:=0) (n:=3) (fun q σ H2=>∃v2 v3 v4 v5 v6 v7:Option V,σ=[some (.ref a),some (.ref t),v2,v3,v4,v5,v6,v7]/\TapeAt H2 t (300*q)/\Tb H2 PT/\Tb2 H2 P2) ⟨_,_,_,_,_,_,rfl,T1,B1,C1⟩ (fun q σ H2 hq z=>?_) (fun σ H2 z=>?_)⟩
   . obtain⟨v2,v3,v4,v5,v6,v7,rfl,T2,B2,C2⟩:=z
     rw[Int.zero_add]
     refine⟨_,rfl,t,300*q,rfl,T2,by omega,fun n H3 n1 n12 T3 s3=>?_⟩
     refine⟨t,300*q+2,n,rfl,T3,by omega,n1,by omega,fun wa ts H4 _ W4 T4 s4=>?_⟩
     obtain⟨m,rfl⟩:∃m:Nat,n=m:=⟨n.toNat,by omega⟩
     have B4:Tb H4 PT:=tab_tape T3 s4 (tab_tape T2 s3 B2)
     have C4:Tb2 H4 P2:=tab_tape T3 s4 (tab_tape T2 s3 C2)
     clear T2 B2 C2 T3 s3 s4
     obtain⟨ta,tys,hwa,_,_,G⟩:=id W4
     refine⟨_,rfl,wa,_,_,_,rfl,rfl,SqT.of hwa,rfl,_,_,rfl,rfl,_,rfl,ite2 (fun c=>?_) (fun c=>?_)⟩
     . have c:=of_decide_eq_true c
       refine⟨_,rfl,wa,ta,_,rfl,hwa,by omega,fun H5 s5=>?_⟩
       refine⟨rfl,_,rfl,ifF (by rw[decide_eq_true rfl];rfl) ?_⟩
       exact⟨_,_,_,_,_,_,rfl,(T4.keep s5).mono (by omega),B4.same s5,C4.same s5⟩
     . have c8:m<=8:=by
        have:¬ (8:Int)<m:=fun z=>c (decide_eq_true z)
        omega
       have fw:Fn 1048576 50 (webPy m ts):=(web_fn G).mono (by decide) (by decide)
       refine⟨_,rfl,wa,_,ts,rfl,W4,by omega,fun sl R H5 s5 ST5 SR=>?_⟩
       have N5:=SR.nn (by omega)
       have hRl:R.length=m:=by rw[SR.rl];omega
       have W5:=W4.keep s5
       refine⟨_,rfl,_,_,rfl,sh_web W5,fw,?_⟩
       refine⟨_,rfl,wa,m,ts,rfl,W5,c8,B4.same s5,C4.same s5,ne,fun r oa na R' nu os H6 sm6 B6 C6 hr6 hoa6 hna6 TD=>?_⟩
       have eR:R'=R:=TD.sr.uniq SR
       subst eR
       have ST6:=ST5.smT sm6
       have W6:WebAt H6 wa m ts:=W5.keepT fun b ys e=>sm6.get e (by intro ps z;cases z)
       have T6:TapeAt H6 t (300*(q+1)):=((T4.keep s5).smT sm6).mono (by omega)
       have dp:=TD.dp
       have O:=TD.ow
       have hol:=TD.ln
       have hnl:0<nu.length:=by rw[dp.ln];exact two_pos _
       rw[<-hRl] at dp O hol
       refine⟨_,rfl,_,rfl,sl,r,oa,na,R',nu,os,rfl,ST6,N5,by omega,hr6,hoa6,hna6,dp,O,hol,fun e H7 s7 he=>?_⟩
       refine⟨by show 0<=sizeLine;decide,fun p hp=>?_⟩
       have s78:=same_laid (o:=.tup []) hp
       refine⟨e,p,[],rfl,rfl,SqT.of (s78 _ _ he),SqT.of upd_same,_,rfl,ifF (by rfl) ?_⟩
       have s68:=s7.trans s78
       generalize upd H7 p (.tup [])=H8 at s68 ⊢
       refine⟨_,rfl,_,_,rfl,sh_web (W6.keep s68),fw,_,rfl,rfl,_,rfl,ifF (by rw[decide_eq_true rfl];rfl) ?_⟩
       refine⟨_,rfl,r,_,_,.ref na,rfl,rfl,SqT.of (s68 _ _ hr6),rfl,na,_,_,.int (nu.getD 0 0),rfl,rfl,SqT.of (s68 _ _ hna6),at0 hnl,?_⟩
       refine⟨_,rfl,sl,R',rfl,ST6.same s68,N5,by omega,fun nl nu' H9 s89 h9 dp'=>?_⟩
       have hnl':0<nu'.length:=by rw[dp'.ln];exact two_pos _
       have e00:nu.getD 0 0=nu'.getD 0 0:=dp.uniq dp' _ 0 (Nat.le_refl _) (two_pos _)
       refine⟨nl,_,_,.int (nu'.getD 0 0),rfl,rfl,SqL.of h9,at0 hnl',?_⟩
       refine⟨rfl,_,rfl,ifF (by rw[decide_eq_true (by rw[e00])];rfl) ?_⟩
       have s69:=s68.trans s89
       clear e00 dp' h9 hnl' nu'
       obtain⟨ta',tys',hwa',_,_,_⟩:=id W6
       refine⟨_,rfl,wa,_,_,_,rfl,rfl,SqT.of (s69 _ _ hwa'),rfl,_,_,rfl,rfl,_,rfl,ite2 (fun c6=>?_) (fun c6=>?_)⟩
       . have c6:=of_decide_eq_true c6
         obtain⟨ta6,tys6,hwa6,_,_,_⟩:=id (W6.keep s69)
         refine⟨_,rfl,wa,_,_,_,rfl,rfl,SqT.of hwa6,rfl,m,rfl,by omega,fun l H10 s10 ⟨as,hl,TI⟩=>?_⟩
         have sA:=s69.trans s10
         refine⟨l,rfl,⟨_,SqL.of hl⟩,[.ref sl],rfl,fun D hD=>?_⟩
         refine comp_list (a:=l) (xs:=as.map V.ref) (fun i ys Hx=>ys=(((allOrd m).take i).map fun os=>((inA R' 0 os:Nat):Int)).map V.int/\Same H10 Hx/\Hx D=some (.lst ys)) ⟨rfl,same_laid hD,upd_same⟩ (fun i ys Hx z=>?_) (fun i ys Hx z=>?_) (fun i x ys Hx hx z=>?_) (fun ys Hx z=>?_)
         . obtain⟨_,sx,_⟩:=z
           exact SqL.of (sx _ _ hl)
         . obtain⟨rfl,_⟩:=z
           rw[List.length_map,List.length_map,List.length_take]
           have:=allOrd_size m (by omega)
           exact small_line (by omega)
         . obtain⟨rfl,sx,hDx⟩:=z
           rw[List.getElem?_map] at hx
           obtain⟨b,hb,rfl⟩:∃b,as[i]? = some b/\V.ref b=x:=by
            cases e:as[i]? with
            | none=>rw[e] at hx;cases hx
            | some b=>rw[e] at hx;exact⟨b,rfl,Option.some.inj hx⟩
           have hiL:i<(allOrd m).length:=by rw[<-TI.1];exact (List.getElem?_eq_some_iff.mp hb).1
           obtain⟨os',hos'⟩:∃os',(allOrd m)[i]? = some os':=⟨_,List.getElem?_eq_getElem hiL⟩
           have pm:=allOrd_mem.mp (List.mem_of_getElem? hos')
           refine⟨⟨rfl,rfl⟩,?_⟩
           refine tyes ?_
           refine⟨_,rfl,_,rfl,sl,b,R',os',rfl,(ST6.same sA).same sx,N5,sx _ _ (TI.2 i b os' hb hos'),fun p' hp'=>by have:=List.mem_range.mp (pm.mem_iff.mp hp');omega,by rw[pm.length_eq,List.length_range];omega,fun Hy sy=>?_⟩
           refine⟨sy _ _ hDx,?_,same_chg (sx.trans sy) hD,upd_same⟩
           rw[List.take_add_one,hos',List.map_append,List.map_append];rfl
         . obtain⟨rfl,sx,hDx⟩:=z
           rw[List.length_map,TI.1,List.take_of_length_le (Nat.le_refl _)] at hDx
           have sB:=sA.trans sx
           have pmO:=O.perm hol
           rw[hRl] at pmO
           have eO:nu.getD 0 0=(inA R' 0 os:Nat):=by
            rw[O.eq,snN_all (n:=R'.length) O.nd fun p'=>by rw[pmO.mem_iff,List.mem_range,hRl],dp.last,Int.add_zero]
           refine⟨_,rfl,D,_,rfl,SqL.of hDx,fun z=>?_,fun M hM hb=>?_⟩
           . have h0:os∈allOrd m:=allOrd_mem.mpr pmO
             rw[List.map_eq_nil_iff.mp z] at h0
             cases h0
           . have eM:M=nu.getD 0 0:=by
              obtain⟨os',ho',rfl⟩:=List.mem_map.mp hM
              have pm:=allOrd_mem.mp ho'
              have l1:=hb _ (List.mem_map.mpr ⟨os,allOrd_mem.mpr pmO,rfl⟩)
              have nd':=pm.nodup_iff.mpr List.nodup_range
              have l2:=inA_le dp (os:=os') (t:=0) (two_pos _) nd' fun p' hp'=>⟨by have:=List.mem_range.mp (pm.mem_iff.mp hp');omega,Nat.zero_testBit _⟩
              rw[Nat.zero_add,snN_all (n:=R'.length) nd' fun p'=>by rw[pm.mem_iff,List.mem_range,hRl],dp.last] at l2
              omega
             refine⟨_,rfl,r,_,_,.ref na,rfl,rfl,SqT.of (sB _ _ hr6),rfl,na,_,_,.int (nu.getD 0 0),rfl,rfl,SqT.of (sB _ _ hna6),at0 hnl,?_⟩
             refine⟨rfl,_,rfl,ifF (by rw[decide_eq_true (by rw[eM])];rfl) ?_⟩
             exact⟨_,_,_,_,_,_,rfl,T6.keep sB,B6.same sB,C6.same sB⟩
       . exact⟨_,_,_,_,_,_,rfl,T6.keep s69,B6.same s69,C6.same s69⟩
   . obtain⟨v2,v3,v4,v5,v6,v7,rfl,_⟩:=z
     exact k H2
end
end K36
namespace K36
open PySem L2 WM
abbrev sT:String->Str:=Str.ofString
abbrev kH:=PyData.keyHash
abbrev dE:=DictEntry.mk
abbrev vS:=Value.str
abbrev vI:=Value.int
abbrev vR:=Value.ref
abbrev vB:=Value.bool
abbrev vN:Value:=Value.none
abbrev vT:=Value.type
abbrev oM:=Obj.mk
abbrev cQ (x:Array Value):Obj:=oM (vT "code") .none (.fields x) #[]
abbrev fQ (x:FuncData):Obj:=oM (vT "function") .none (.func x) #[]
abbrev fT (x:String)(i:Nat)(m:Value)(c:Nat):Obj:=fQ (.mk (sT x) (sT x) (L2.defArgs (top i)) (FuncBody.stmts (L2.defBody (top i))) (L2.defScope (top i)) 3 [] vN vN vN m .none (vR c) vN 0)
abbrev qS (x:String)(n:Nat):Value:=vS (sT x) n
abbrev kE (P:Params)(x:String)(n:Nat):Value->DictEntry:=dE (kH P (sT x)) (qS x n)
def Kf:Params->PySem.W.Frag:=fun P=>[
(2,oM vN .none (Data.dict #[]) #[]),
(3,oM (vT "dict") .none (Data.dict #[kE P "__name__" 165 (qS "law_labelways_k36_least_orders_told" 579),kE P "__doc__" 166 vN,kE P "__package__" 167 vN,kE P "__loader__" 168 (Value.builtin "__main__.__loader__#opaque"),kE P "__spec__" 169 vN,kE P "__annotations__" 170 (vR 6),kE P "__builtins__" 171 (vR 4),kE P "__file__" 173 (qS "/claim/cut.py" 172),kE P "__cached__" 174 vN,kE P "WayError" 206 (vR 24),kE P "NoLabels" 233 (vR 44),kE P "NoLeast" 260 (vR 63),kE P "NoPlan" 287 (vR 82),kE P "NoText" 314 (vR 101),kE P "NoOrder" 330 (vR 113),kE P "NoTree" 346 (vR 125),kE P "NoRing" 362 (vR 137),kE P "NoPosts" 378 (vR 149),kE P "NoTie" 394 (vR 161),kE P "NoPart" 410 (vR 173),kE P "NoRow" 426 (vR 185),kE P "TooMany" 442 (vR 197),kE P "ties_at" 456 (vR 206),kE P "lengths" 464 (vR 211),kE P "lengths_from" 478 (vR 218),kE P "nearest" 486 (vR 225),kE P "between_rows" 492 (vR 230),kE P "MOST_PLACES_OF_LEASTS" 496 (vI 8 495),kE P "count_free" 502 (vR 235),kE P "sets_from" 508 (vR 240),kE P "set_number" 514 (vR 245),kE P "refuse_too_many" 521 (vR 252),kE P "all_sets" 527 (vR 257),kE P "left_places" 533 (vR 262),kE P "by_way_of" 543 (vR 269),kE P "least_order" 554 (vR 276),kE P "least_numbers" 565 (vR 283),kE P "best_next" 578 (vR 290),kE P "_law_tape" 587 (vR 297),kE P "_law_draw" 599 (vR 304),kE P "_law_small" 606 (vR 311),kE P "_law_web" 612 (vR 316),kE P "_law_added" 620 (vR 323),kE P "_law_lesser" 628 (vR 330),kE P "_law_far" 634 (vR 335),kE P "_law_on" 645 (vR 342),kE P "_law_is_order" 651 (vR 347),kE P "_law_masks" 657 (vR 352),kE P "_law_brought" 663 (vR 357),kE P "_law_in_all" 674 (vR 364),kE P "_law_least" 680 (vR 369),kE P "_law_step_fault" 691 (vR 376),kE P "_law_least_fault" 697 (vR 381),kE P "_law_all_orders" 703 (vR 386),kE P "_law_refused" 713 (vR 393),kE P "law" 719 (vR 398)] 56) #[]),
(23,oM (vT "dict") .none (Data.dict #[kE P "__module__" 196 (qS "labelways.errors" 187),kE P "__firstlineno__" 200 (vI 2 199),kE P "__static_attributes__" 201 (vR 22),kE P "__weakref__" 203 (vR 25),kE P "__doc__" 204 vN] 3) #[]),
(24,oM (vT "type") .none (Data.cls (ClassData.mk (sT "WayError") [vT "ValueError"] [vR 24,vT "ValueError",vT "Exception",vT "BaseException",vT "object"] 23 (sT "WayError") true [] [vR 44,vR 63,vR 82,vR 101,vR 113,vR 125,vR 137,vR 149,vR 161,vR 173,vR 185,vR 197] false .none false)) #[.some (vR 15),.none,.some (qS "WayError" 189),.some (qS "WayError" 197),.some (Value.builtin "ValueError.__new__"),.some (vB true)]),
(25,oM (vT "getset_descriptor") .none (Data.fields #[qS "__weakref__" 202,vR 24,Value.builtin "ExceptionGroup.__weakref__",vN]) #[]),
(40,cQ #[qS "__init__" 219,qS "NoLabels.__init__" 220,qS "/claim/cut.py" 221,vI 6 0,vI 3 0,vI 0 0,vI 0 0,vI 3 0,vR 35,vB true,vI 181 0,vR 36,vN,vR 37,vR 38,vR 39,vI 225 0,vI 6 0,qS "/claim/cut.py" 226]),
(41,fQ (.mk (sT "__init__") (sT "NoLabels.__init__") (Arguments.mk [] [Arg.mk (sT "self") .none (Pos.mk 6 17 6 21),Arg.mk (sT "word") .none (Pos.mk 6 23 6 27),Arg.mk (sT "at") .none (Pos.mk 6 29 6 31)] .none [] [] .none []) (FuncBody.stmts [Stmt.Assign [Expr.Attribute (Expr.Name (sT "self") (Pos.mk 7 8 7 12)) (sT "word") (Pos.mk 7 8 7 17)] (Expr.Name (sT "word") (Pos.mk 7 20 7 24)) (Pos.mk 7 8 7 24),Stmt.Assign [Expr.Attribute (Expr.Name (sT "self") (Pos.mk 8 8 8 12)) (sT "at") (Pos.mk 8 8 8 15)] (Expr.Name (sT "at") (Pos.mk 8 18 8 20)) (Pos.mk 8 8 8 20)]) (Scope.mk ScopeKind.function [(sT "self",NameKind.local),(sT "word",NameKind.local),(sT "at",NameKind.local)] false false []) 3 [] vN vN vN (qS "labelways.errors" 187) .none (vR 40) vN 0)),
(43,oM (vT "dict") .none (Data.dict #[kE P "__module__" 214 (qS "labelways.errors" 187),kE P "__firstlineno__" 218 (vI 4 217),kE P "__init__" 227 (vR 41),kE P "__static_attributes__" 230 (vR 42),kE P "__doc__" 231 vN] 2) #[]),
(44,oM (vT "type") .none (Data.cls (ClassData.mk (sT "NoLabels") [vR 24] [vR 44,vR 24,vT "ValueError",vT "Exception",vT "BaseException",vT "object"] 43 (sT "NoLabels") true [] [] false .none false)) #[.some (vR 28),.none,.some (qS "NoLabels" 207),.some (qS "NoLabels" 215),.some (Value.builtin "ValueError.__new__"),.some (vB true)]),
(59,cQ #[qS "__init__" 246,qS "NoLeast.__init__" 247,qS "/claim/cut.py" 248,vI 11 0,vI 3 0,vI 0 0,vI 0 0,vI 3 0,vR 54,vB true,vI 181 0,vR 55,vN,vR 56,vR 57,vR 58,vI 252 0,vI 11 0,qS "/claim/cut.py" 253]),
(60,fQ (.mk (sT "__init__") (sT "NoLeast.__init__") (Arguments.mk [] [Arg.mk (sT "self") .none (Pos.mk 11 17 11 21),Arg.mk (sT "word") .none (Pos.mk 11 23 11 27),Arg.mk (sT "at") .none (Pos.mk 11 29 11 31)] .none [] [] .none []) (FuncBody.stmts [Stmt.Assign [Expr.Attribute (Expr.Name (sT "self") (Pos.mk 12 8 12 12)) (sT "word") (Pos.mk 12 8 12 17)] (Expr.Name (sT "word") (Pos.mk 12 20 12 24)) (Pos.mk 12 8 12 24),Stmt.Assign [Expr.Attribute (Expr.Name (sT "self") (Pos.mk 13 8 13 12)) (sT "at") (Pos.mk 13 8 13 15)] (Expr.Name (sT "at") (Pos.mk 13 18 13 20)) (Pos.mk 13 8 13 20)]) (Scope.mk ScopeKind.function [(sT "self",NameKind.local),(sT "word",NameKind.local),(sT "at",NameKind.local)] false false []) 3 [] vN vN vN (qS "labelways.errors" 187) .none (vR 59) vN 0)),
(62,oM (vT "dict") .none (Data.dict #[kE P "__module__" 241 (qS "labelways.errors" 187),kE P "__firstlineno__" 245 (vI 9 244),kE P "__init__" 254 (vR 60),kE P "__static_attributes__" 257 (vR 61),kE P "__doc__" 258 vN] 2) #[]),
(63,oM (vT "type") .none (Data.cls (ClassData.mk (sT "NoLeast") [vR 24] [vR 63,vR 24,vT "ValueError",vT "Exception",vT "BaseException",vT "object"] 62 (sT "NoLeast") true [] [] false .none false)) #[.some (vR 47),.none,.some (qS "NoLeast" 234),.some (qS "NoLeast" 242),.some (Value.builtin "ValueError.__new__"),.some (vB true)]),
(78,cQ #[qS "__init__" 273,qS "NoPlan.__init__" 274,qS "/claim/cut.py" 275,vI 16 0,vI 3 0,vI 0 0,vI 0 0,vI 3 0,vR 73,vB true,vI 181 0,vR 74,vN,vR 75,vR 76,vR 77,vI 279 0,vI 16 0,qS "/claim/cut.py" 280]),
(79,fQ (.mk (sT "__init__") (sT "NoPlan.__init__") (Arguments.mk [] [Arg.mk (sT "self") .none (Pos.mk 16 17 16 21),Arg.mk (sT "word") .none (Pos.mk 16 23 16 27),Arg.mk (sT "at") .none (Pos.mk 16 29 16 31)] .none [] [] .none []) (FuncBody.stmts [Stmt.Assign [Expr.Attribute (Expr.Name (sT "self") (Pos.mk 17 8 17 12)) (sT "word") (Pos.mk 17 8 17 17)] (Expr.Name (sT "word") (Pos.mk 17 20 17 24)) (Pos.mk 17 8 17 24),Stmt.Assign [Expr.Attribute (Expr.Name (sT "self") (Pos.mk 18 8 18 12)) (sT "at") (Pos.mk 18 8 18 15)] (Expr.Name (sT "at") (Pos.mk 18 18 18 20)) (Pos.mk 18 8 18 20)]) (Scope.mk ScopeKind.function [(sT "self",NameKind.local),(sT "word",NameKind.local),(sT "at",NameKind.local)] false false []) 3 [] vN vN vN (qS "labelways.errors" 187) .none (vR 78) vN 0)),
(81,oM (vT "dict") .none (Data.dict #[kE P "__module__" 268 (qS "labelways.errors" 187),kE P "__firstlineno__" 272 (vI 14 271),kE P "__init__" 281 (vR 79),kE P "__static_attributes__" 284 (vR 80),kE P "__doc__" 285 vN] 2) #[]),
(82,oM (vT "type") .none (Data.cls (ClassData.mk (sT "NoPlan") [vR 24] [vR 82,vR 24,vT "ValueError",vT "Exception",vT "BaseException",vT "object"] 81 (sT "NoPlan") true [] [] false .none false)) #[.some (vR 66),.none,.some (qS "NoPlan" 261),.some (qS "NoPlan" 269),.some (Value.builtin "ValueError.__new__"),.some (vB true)]),
(97,cQ #[qS "__init__" 300,qS "NoText.__init__" 301,qS "/claim/cut.py" 302,vI 21 0,vI 3 0,vI 0 0,vI 0 0,vI 3 0,vR 92,vB true,vI 181 0,vR 93,vN,vR 94,vR 95,vR 96,vI 306 0,vI 21 0,qS "/claim/cut.py" 307]),
(98,fQ (.mk (sT "__init__") (sT "NoText.__init__") (Arguments.mk [] [Arg.mk (sT "self") .none (Pos.mk 21 17 21 21),Arg.mk (sT "line") .none (Pos.mk 21 23 21 27),Arg.mk (sT "word") .none (Pos.mk 21 29 21 33)] .none [] [] .none []) (FuncBody.stmts [Stmt.Assign [Expr.Attribute (Expr.Name (sT "self") (Pos.mk 22 8 22 12)) (sT "line") (Pos.mk 22 8 22 17)] (Expr.Name (sT "line") (Pos.mk 22 20 22 24)) (Pos.mk 22 8 22 24),Stmt.Assign [Expr.Attribute (Expr.Name (sT "self") (Pos.mk 23 8 23 12)) (sT "word") (Pos.mk 23 8 23 17)] (Expr.Name (sT "word") (Pos.mk 23 20 23 24)) (Pos.mk 23 8 23 24)]) (Scope.mk ScopeKind.function [(sT "self",NameKind.local),(sT "line",NameKind.local),(sT "word",NameKind.local)] false false []) 3 [] vN vN vN (qS "labelways.errors" 187) .none (vR 97) vN 0)),
(100,oM (vT "dict") .none (Data.dict #[kE P "__module__" 295 (qS "labelways.errors" 187),kE P "__firstlineno__" 299 (vI 19 298),kE P "__init__" 308 (vR 98),kE P "__static_attributes__" 311 (vR 99),kE P "__doc__" 312 vN] 2) #[]),
(101,oM (vT "type") .none (Data.cls (ClassData.mk (sT "NoText") [vR 24] [vR 101,vR 24,vT "ValueError",vT "Exception",vT "BaseException",vT "object"] 100 (sT "NoText") true [] [] false .none false)) #[.some (vR 85),.none,.some (qS "NoText" 288),.some (qS "NoText" 296),.some (Value.builtin "ValueError.__new__"),.some (vB true)]),
(112,oM (vT "dict") .none (Data.dict #[kE P "__module__" 322 (qS "labelways.errors" 187),kE P "__firstlineno__" 326 (vI 24 325),kE P "__static_attributes__" 327 (vR 111),kE P "__doc__" 328 vN] 2) #[]),
(113,oM (vT "type") .none (Data.cls (ClassData.mk (sT "NoOrder") [vR 24] [vR 113,vR 24,vT "ValueError",vT "Exception",vT "BaseException",vT "object"] 112 (sT "NoOrder") true [] [] false .none false)) #[.some (vR 104),.none,.some (qS "NoOrder" 315),.some (qS "NoOrder" 323),.some (Value.builtin "ValueError.__new__"),.some (vB true)]),
(124,oM (vT "dict") .none (Data.dict #[kE P "__module__" 338 (qS "labelways.errors" 187),kE P "__firstlineno__" 342 (vI 26 341),kE P "__static_attributes__" 343 (vR 123),kE P "__doc__" 344 vN] 2) #[]),
(125,oM (vT "type") .none (Data.cls (ClassData.mk (sT "NoTree") [vR 24] [vR 125,vR 24,vT "ValueError",vT "Exception",vT "BaseException",vT "object"] 124 (sT "NoTree") true [] [] false .none false)) #[.some (vR 116),.none,.some (qS "NoTree" 331),.some (qS "NoTree" 339),.some (Value.builtin "ValueError.__new__"),.some (vB true)]),
(136,oM (vT "dict") .none (Data.dict #[kE P "__module__" 354 (qS "labelways.errors" 187),kE P "__firstlineno__" 358 (vI 28 357),kE P "__static_attributes__" 359 (vR 135),kE P "__doc__" 360 vN] 2) #[]),
(137,oM (vT "type") .none (Data.cls (ClassData.mk (sT "NoRing") [vR 24] [vR 137,vR 24,vT "ValueError",vT "Exception",vT "BaseException",vT "object"] 136 (sT "NoRing") true [] [] false .none false)) #[.some (vR 128),.none,.some (qS "NoRing" 347),.some (qS "NoRing" 355),.some (Value.builtin "ValueError.__new__"),.some (vB true)]),
(148,oM (vT "dict") .none (Data.dict #[kE P "__module__" 370 (qS "labelways.errors" 187),kE P "__firstlineno__" 374 (vI 30 373),kE P "__static_attributes__" 375 (vR 147),kE P "__doc__" 376 vN] 2) #[]),
(149,oM (vT "type") .none (Data.cls (ClassData.mk (sT "NoPosts") [vR 24] [vR 149,vR 24,vT "ValueError",vT "Exception",vT "BaseException",vT "object"] 148 (sT "NoPosts") true [] [] false .none false)) #[.some (vR 140),.none,.some (qS "NoPosts" 363),.some (qS "NoPosts" 371),.some (Value.builtin "ValueError.__new__"),.some (vB true)]),
(160,oM (vT "dict") .none (Data.dict #[kE P "__module__" 386 (qS "labelways.errors" 187),kE P "__firstlineno__" 390 (vI 32 389),kE P "__static_attributes__" 391 (vR 159),kE P "__doc__" 392 vN] 2) #[]),
(161,oM (vT "type") .none (Data.cls (ClassData.mk (sT "NoTie") [vR 24] [vR 161,vR 24,vT "ValueError",vT "Exception",vT "BaseException",vT "object"] 160 (sT "NoTie") true [] [] false .none false)) #[.some (vR 152),.none,.some (qS "NoTie" 379),.some (qS "NoTie" 387),.some (Value.builtin "ValueError.__new__"),.some (vB true)]),
(172,oM (vT "dict") .none (Data.dict #[kE P "__module__" 402 (qS "labelways.errors" 187),kE P "__firstlineno__" 406 (vI 34 405),kE P "__static_attributes__" 407 (vR 171),kE P "__doc__" 408 vN] 2) #[]),
(173,oM (vT "type") .none (Data.cls (ClassData.mk (sT "NoPart") [vR 24] [vR 173,vR 24,vT "ValueError",vT "Exception",vT "BaseException",vT "object"] 172 (sT "NoPart") true [] [] false .none false)) #[.some (vR 164),.none,.some (qS "NoPart" 395),.some (qS "NoPart" 403),.some (Value.builtin "ValueError.__new__"),.some (vB true)]),
(184,oM (vT "dict") .none (Data.dict #[kE P "__module__" 418 (qS "labelways.errors" 187),kE P "__firstlineno__" 422 (vI 36 421),kE P "__static_attributes__" 423 (vR 183),kE P "__doc__" 424 vN] 2) #[]),
(185,oM (vT "type") .none (Data.cls (ClassData.mk (sT "NoRow") [vR 24] [vR 185,vR 24,vT "ValueError",vT "Exception",vT "BaseException",vT "object"] 184 (sT "NoRow") true [] [] false .none false)) #[.some (vR 176),.none,.some (qS "NoRow" 411),.some (qS "NoRow" 419),.some (Value.builtin "ValueError.__new__"),.some (vB true)]),
(196,oM (vT "dict") .none (Data.dict #[kE P "__module__" 434 (qS "labelways.errors" 187),kE P "__firstlineno__" 438 (vI 38 437),kE P "__static_attributes__" 439 (vR 195),kE P "__doc__" 440 vN] 2) #[]),
(197,oM (vT "type") .none (Data.cls (ClassData.mk (sT "TooMany") [vR 24] [vR 197,vR 24,vT "ValueError",vT "Exception",vT "BaseException",vT "object"] 196 (sT "TooMany") true [] [] false .none false)) #[.some (vR 188),.none,.some (qS "TooMany" 427),.some (qS "TooMany" 435),.some (Value.builtin "ValueError.__new__"),.some (vB true)]),
(205,cQ #[qS "ties_at" 445,qS "ties_at" 446,qS "/claim/cut.py" 447,vI 41 0,vI 2 0,vI 0 0,vI 0 0,vI 3 0,vR 200,vB true,vI 181 0,vR 201,vN,vR 202,vR 203,vR 204,vI 454 0,vI 41 0,qS "/claim/cut.py" 455]),
(206,fQ (.mk (sT "ties_at") (sT "ties_at") (L2.defArgs (top 15)) (FuncBody.stmts (L2.defBody (top 15))) (L2.defScope (top 15)) 3 [] vN vN vN (qS "labelways.webs" 443) .none (vR 205) vN 0)),
(210,cQ #[qS "lengths" 459,qS "lengths" 460,qS "/claim/cut.py" 461,vI 50 0,vI 1 0,vI 0 0,vI 0 0,vI 3 0,vR 207,vB true,vI 181 0,vR 208,vN,vN,vN,vR 209,vI 462 0,vI 50 0,qS "/claim/cut.py" 463]),
(211,fQ (.mk (sT "lengths") (sT "lengths") (L2.defArgs (top 17)) (FuncBody.stmts (L2.defBody (top 17))) (L2.defScope (top 17)) 3 [] vN vN vN (qS "labelways.lengths" 457) .none (vR 210) vN 0)),
(217,cQ #[qS "lengths_from" 465,qS "lengths_from" 466,qS "/claim/cut.py" 467,vI 52 0,vI 2 0,vI 0 0,vI 0 0,vI 3 0,vR 212,vB true,vI 181 0,vR 213,vN,vR 214,vR 215,vR 216,vI 476 0,vI 52 0,qS "/claim/cut.py" 477]),
(218,fQ (.mk (sT "lengths_from") (sT "lengths_from") (L2.defArgs (top 18)) (FuncBody.stmts (L2.defBody (top 18))) (L2.defScope (top 18)) 3 [] vN vN vN (qS "labelways.lengths" 457) .none (vR 217) vN 0)),
(224,cQ #[qS "nearest" 479,qS "nearest" 480,qS "/claim/cut.py" 481,vI 63 0,vI 1 0,vI 0 0,vI 0 0,vI 3 0,vR 219,vB true,vI 181 0,vR 220,vN,vR 221,vR 222,vR 223,vI 484 0,vI 63 0,qS "/claim/cut.py" 485]),
(225,fQ (.mk (sT "nearest") (sT "nearest") (L2.defArgs (top 19)) (FuncBody.stmts (L2.defBody (top 19))) (L2.defScope (top 19)) 3 [] vN vN vN (qS "labelways.lengths" 457) .none (vR 224) vN 0)),
(229,cQ #[qS "between_rows" 487,qS "between_rows" 488,qS "/claim/cut.py" 489,vI 65 0,vI 3 0,vI 0 0,vI 0 0,vI 3 0,vR 226,vB true,vI 181 0,vR 227,vN,vN,vN,vR 228,vI 490 0,vI 65 0,qS "/claim/cut.py" 491]),
(230,fQ (.mk (sT "between_rows") (sT "between_rows") (L2.defArgs (top 20)) (FuncBody.stmts (L2.defBody (top 20))) (L2.defScope (top 20)) 3 [] vN vN vN (qS "labelways.lengths" 457) .none (vR 229) vN 0)),
(234,cQ #[qS "count_free" 497,qS "count_free" 498,qS "/claim/cut.py" 499,vI 72 0,vI 2 0,vI 0 0,vI 0 0,vI 3 0,vR 231,vB true,vI 181 0,vR 232,vN,vN,vN,vR 233,vI 500 0,vI 72 0,qS "/claim/cut.py" 501]),
(235,fQ (.mk (sT "count_free") (sT "count_free") (L2.defArgs (top 23)) (FuncBody.stmts (L2.defBody (top 23))) (L2.defScope (top 23)) 3 [] vN vN vN (qS "labelways.leasts" 493) .none (vR 234) vN 0)),
(239,cQ #[qS "sets_from" 503,qS "sets_from" 504,qS "/claim/cut.py" 505,vI 74 0,vI 2 0,vI 0 0,vI 0 0,vI 3 0,vR 236,vB true,vI 181 0,vR 237,vN,vN,vN,vR 238,vI 506 0,vI 74 0,qS "/claim/cut.py" 507]),
(240,fQ (.mk (sT "sets_from") (sT "sets_from") (L2.defArgs (top 24)) (FuncBody.stmts (L2.defBody (top 24))) (L2.defScope (top 24)) 3 [] vN vN vN (qS "labelways.leasts" 493) .none (vR 239) vN 0)),
(244,cQ #[qS "set_number" 509,qS "set_number" 510,qS "/claim/cut.py" 511,vI 76 0,vI 1 0,vI 0 0,vI 0 0,vI 3 0,vR 241,vB true,vI 181 0,vR 242,vN,vN,vN,vR 243,vI 512 0,vI 76 0,qS "/claim/cut.py" 513]),
(245,fQ (.mk (sT "set_number") (sT "set_number") (L2.defArgs (top 25)) (FuncBody.stmts (L2.defBody (top 25))) (L2.defScope (top 25)) 3 [] vN vN vN (qS "labelways.leasts" 493) .none (vR 244) vN 0)),
(251,cQ #[qS "refuse_too_many" 515,qS "refuse_too_many" 516,qS "/claim/cut.py" 517,vI 78 0,vI 1 0,vI 0 0,vI 0 0,vI 3 0,vR 246,vB true,vI 181 0,vR 247,vN,vR 248,vR 249,vR 250,vI 519 0,vI 78 0,qS "/claim/cut.py" 520]),
(252,fQ (.mk (sT "refuse_too_many") (sT "refuse_too_many") (L2.defArgs (top 26)) (FuncBody.stmts (L2.defBody (top 26))) (L2.defScope (top 26)) 3 [] vN vN vN (qS "labelways.leasts" 493) .none (vR 251) vN 0)),
(256,cQ #[qS "all_sets" 522,qS "all_sets" 523,qS "/claim/cut.py" 524,vI 81 0,vI 1 0,vI 0 0,vI 0 0,vI 3 0,vR 253,vB true,vI 181 0,vR 254,vN,vN,vN,vR 255,vI 525 0,vI 81 0,qS "/claim/cut.py" 526]),
(257,fQ (.mk (sT "all_sets") (sT "all_sets") (L2.defArgs (top 27)) (FuncBody.stmts (L2.defBody (top 27))) (L2.defScope (top 27)) 3 [] vN vN vN (qS "labelways.leasts" 493) .none (vR 256) vN 0)),
(261,cQ #[qS "left_places" 528,qS "left_places" 529,qS "/claim/cut.py" 530,vI 84 0,vI 2 0,vI 0 0,vI 0 0,vI 3 0,vR 258,vB true,vI 181 0,vR 259,vN,vN,vN,vR 260,vI 531 0,vI 84 0,qS "/claim/cut.py" 532]),
(262,fQ (.mk (sT "left_places") (sT "left_places") (L2.defArgs (top 28)) (FuncBody.stmts (L2.defBody (top 28))) (L2.defScope (top 28)) 3 [] vN vN vN (qS "labelways.leasts" 493) .none (vR 261) vN 0)),
(268,cQ #[qS "by_way_of" 534,qS "by_way_of" 535,qS "/claim/cut.py" 536,vI 86 0,vI 4 0,vI 0 0,vI 0 0,vI 3 0,vR 263,vB true,vI 181 0,vR 264,vN,vR 265,vR 266,vR 267,vI 541 0,vI 86 0,qS "/claim/cut.py" 542]),
(269,fQ (.mk (sT "by_way_of") (sT "by_way_of") (L2.defArgs (top 29)) (FuncBody.stmts (L2.defBody (top 29))) (L2.defScope (top 29)) 3 [] vN vN vN (qS "labelways.leasts" 493) .none (vR 268) vN 0)),
(275,cQ #[qS "least_order" 544,qS "least_order" 545,qS "/claim/cut.py" 546,vI 88 0,vI 1 0,vI 0 0,vI 0 0,vI 3 0,vR 270,vB true,vI 181 0,vR 271,vN,vR 272,vR 273,vR 274,vI 552 0,vI 88 0,qS "/claim/cut.py" 553]),
(276,fQ (.mk (sT "least_order") (sT "least_order") (L2.defArgs (top 30)) (FuncBody.stmts (L2.defBody (top 30))) (L2.defScope (top 30)) 3 [] vN vN vN (qS "labelways.leasts" 493) .none (vR 275) vN 0)),
(282,cQ #[qS "least_numbers" 555,qS "least_numbers" 556,qS "/claim/cut.py" 557,vI 97 0,vI 2 0,vI 0 0,vI 0 0,vI 3 0,vR 277,vB true,vI 181 0,vR 278,vN,vR 279,vR 280,vR 281,vI 563 0,vI 97 0,qS "/claim/cut.py" 564]),
(283,fQ (.mk (sT "least_numbers") (sT "least_numbers") (L2.defArgs (top 31)) (FuncBody.stmts (L2.defBody (top 31))) (L2.defScope (top 31)) 3 [] vN vN vN (qS "labelways.leasts" 493) .none (vR 282) vN 0)),
(289,cQ #[qS "best_next" 566,qS "best_next" 567,qS "/claim/cut.py" 568,vI 103 0,vI 4 0,vI 0 0,vI 0 0,vI 3 0,vR 284,vB true,vI 181 0,vR 285,vN,vR 286,vR 287,vR 288,vI 576 0,vI 103 0,qS "/claim/cut.py" 577]),
(290,fQ (.mk (sT "best_next") (sT "best_next") (L2.defArgs (top 32)) (FuncBody.stmts (L2.defBody (top 32))) (L2.defScope (top 32)) 3 [] vN vN vN (qS "labelways.leasts" 493) .none (vR 289) vN 0)),
(296,cQ #[qS "_law_tape" 581,qS "_law_tape" 582,qS "/claim/cut.py" 583,vI 106 0,vI 1 0,vI 0 0,vI 0 0,vI 3 0,vR 291,vB true,vI 181 0,vR 292,vN,vR 293,vR 294,vR 295,vI 585 0,vI 106 0,qS "/claim/cut.py" 586]),
(297,fT "_law_tape" 34 (qS "law_labelways_k36_least_orders_told" 579) 296),
(303,cQ #[qS "_law_draw" 588,qS "_law_draw" 589,qS "/claim/cut.py" 590,vI 108 0,vI 2 0,vI 0 0,vI 0 0,vI 3 0,vR 298,vB true,vI 181 0,vR 299,vN,vR 300,vR 301,vR 302,vI 597 0,vI 108 0,qS "/claim/cut.py" 598]),
(304,fT "_law_draw" 35 (qS "law_labelways_k36_least_orders_told" 579) 303),
(310,cQ #[qS "_law_small" 600,qS "_law_small" 601,qS "/claim/cut.py" 602,vI 121 0,vI 1 0,vI 0 0,vI 0 0,vI 3 0,vR 305,vB true,vI 181 0,vR 306,vN,vR 307,vR 308,vR 309,vI 604 0,vI 121 0,qS "/claim/cut.py" 605]),
(311,fT "_law_small" 36 (qS "law_labelways_k36_least_orders_told" 579) 310),
(315,cQ #[qS "_law_web" 607,qS "_law_web" 608,qS "/claim/cut.py" 609,vI 123 0,vI 2 0,vI 0 0,vI 0 0,vI 3 0,vR 312,vB true,vI 181 0,vR 313,vN,vN,vN,vR 314,vI 610 0,vI 123 0,qS "/claim/cut.py" 611]),
(316,fT "_law_web" 37 (qS "law_labelways_k36_least_orders_told" 579) 315),
(322,cQ #[qS "_law_added" 613,qS "_law_added" 614,qS "/claim/cut.py" 615,vI 135 0,vI 2 0,vI 0 0,vI 0 0,vI 3 0,vR 317,vB true,vI 181 0,vR 318,vN,vR 319,vR 320,vR 321,vI 618 0,vI 135 0,qS "/claim/cut.py" 619]),
(323,fT "_law_added" 38 (qS "law_labelways_k36_least_orders_told" 579) 322),
(329,cQ #[qS "_law_lesser" 621,qS "_law_lesser" 622,qS "/claim/cut.py" 623,vI 137 0,vI 2 0,vI 0 0,vI 0 0,vI 3 0,vR 324,vB true,vI 181 0,vR 325,vN,vR 326,vR 327,vR 328,vI 626 0,vI 137 0,qS "/claim/cut.py" 627]),
(330,fT "_law_lesser" 39 (qS "law_labelways_k36_least_orders_told" 579) 329),
(334,cQ #[qS "_law_far" 629,qS "_law_far" 630,qS "/claim/cut.py" 631,vI 141 0,vI 1 0,vI 0 0,vI 0 0,vI 3 0,vR 331,vB true,vI 181 0,vR 332,vN,vN,vN,vR 333,vI 632 0,vI 141 0,qS "/claim/cut.py" 633]),
(335,fT "_law_far" 40 (qS "law_labelways_k36_least_orders_told" 579) 334),
(341,cQ #[qS "_law_on" 635,qS "_law_on" 636,qS "/claim/cut.py" 637,vI 153 0,vI 4 0,vI 0 0,vI 0 0,vI 3 0,vR 336,vB true,vI 181 0,vR 337,vN,vR 338,vR 339,vR 340,vI 643 0,vI 153 0,qS "/claim/cut.py" 644]),
(342,fT "_law_on" 41 (qS "law_labelways_k36_least_orders_told" 579) 341),
(346,cQ #[qS "_law_is_order" 646,qS "_law_is_order" 647,qS "/claim/cut.py" 648,vI 156 0,vI 2 0,vI 0 0,vI 0 0,vI 3 0,vR 343,vB true,vI 181 0,vR 344,vN,vN,vN,vR 345,vI 649 0,vI 156 0,qS "/claim/cut.py" 650]),
(347,fT "_law_is_order" 42 (qS "law_labelways_k36_least_orders_told" 579) 346),
(351,cQ #[qS "_law_masks" 652,qS "_law_masks" 653,qS "/claim/cut.py" 654,vI 162 0,vI 1 0,vI 0 0,vI 0 0,vI 3 0,vR 348,vB true,vI 181 0,vR 349,vN,vN,vN,vR 350,vI 655 0,vI 162 0,qS "/claim/cut.py" 656]),
(352,fT "_law_masks" 43 (qS "law_labelways_k36_least_orders_told" 579) 351),
(356,cQ #[qS "_law_brought" 658,qS "_law_brought" 659,qS "/claim/cut.py" 660,vI 171 0,vI 3 0,vI 0 0,vI 0 0,vI 3 0,vR 353,vB true,vI 181 0,vR 354,vN,vN,vN,vR 355,vI 661 0,vI 171 0,qS "/claim/cut.py" 662]),
(357,fT "_law_brought" 44 (qS "law_labelways_k36_least_orders_told" 579) 356),
(363,cQ #[qS "_law_in_all" 664,qS "_law_in_all" 665,qS "/claim/cut.py" 666,vI 173 0,vI 2 0,vI 0 0,vI 0 0,vI 3 0,vR 358,vB true,vI 181 0,vR 359,vN,vR 360,vR 361,vR 362,vI 672 0,vI 173 0,qS "/claim/cut.py" 673]),
(364,fT "_law_in_all" 45 (qS "law_labelways_k36_least_orders_told" 579) 363),
(368,cQ #[qS "_law_least" 675,qS "_law_least" 676,qS "/claim/cut.py" 677,vI 180 0,vI 1 0,vI 0 0,vI 0 0,vI 3 0,vR 365,vB true,vI 181 0,vR 366,vN,vN,vN,vR 367,vI 678 0,vI 180 0,qS "/claim/cut.py" 679]),
(369,fT "_law_least" 46 (qS "law_labelways_k36_least_orders_told" 579) 368),
(375,cQ #[qS "_law_step_fault" 681,qS "_law_step_fault" 682,qS "/claim/cut.py" 683,vI 187 0,vI 2 0,vI 0 0,vI 0 0,vI 3 0,vR 370,vB true,vI 181 0,vR 371,vN,vR 372,vR 373,vR 374,vI 689 0,vI 187 0,qS "/claim/cut.py" 690]),
(376,fT "_law_step_fault" 47 (qS "law_labelways_k36_least_orders_told" 579) 375),
(380,cQ #[qS "_law_least_fault" 692,qS "_law_least_fault" 693,qS "/claim/cut.py" 694,vI 195 0,vI 2 0,vI 0 0,vI 0 0,vI 3 0,vR 377,vB true,vI 181 0,vR 378,vN,vN,vN,vR 379,vI 695 0,vI 195 0,qS "/claim/cut.py" 696]),
(381,fT "_law_least_fault" 48 (qS "law_labelways_k36_least_orders_told" 579) 380),
(385,cQ #[qS "_law_all_orders" 698,qS "_law_all_orders" 699,qS "/claim/cut.py" 700,vI 210 0,vI 1 0,vI 0 0,vI 0 0,vI 3 0,vR 382,vB true,vI 181 0,vR 383,vN,vN,vN,vR 384,vI 701 0,vI 210 0,qS "/claim/cut.py" 702]),
(386,fT "_law_all_orders" 49 (qS "law_labelways_k36_least_orders_told" 579) 385),
(392,cQ #[qS "_law_refused" 704,qS "_law_refused" 705,qS "/claim/cut.py" 706,vI 218 0,vI 1 0,vI 0 0,vI 0 0,vI 3 0,vR 387,vB true,vI 181 0,vR 388,vN,vR 389,vR 390,vR 391,vI 711 0,vI 218 0,qS "/claim/cut.py" 712]),
(393,fT "_law_refused" 50 (qS "law_labelways_k36_least_orders_told" 579) 392),
(397,cQ #[qS "law" 714,qS "law" 715,qS "/claim/cut.py" 716,vI 228 0,vI 1 0,vI 0 0,vI 0 0,vI 3 0,vR 394,vB true,vI 181 0,vR 395,vN,vN,vN,vR 396,vI 717 0,vI 228 0,qS "/claim/cut.py" 718]),
(398,fT "law" 51 (qS "law_labelways_k36_least_orders_told" 579) 397)]
def Ka:List Addr:=[2,3,23,24,25,40,41,43,44,59,60,62,63,78,79,81,82,97,98,100,101,112,113,124,125,136,137,148,149,160,161,172,173,184,185,196,197,205,206,210,211,217,218,224,225,229,230,234,235,239,240,244,245,251,252,256,257,261,262,268,269,275,276,282,283,289,290,296,297,303,304,310,311,315,316,322,323,329,330,334,335,341,342,346,347,351,352,356,357,363,364,368,369,375,376,380,381,385,386,392,393,397,398]
theorem usl1:∀{us:List Value},us.length=1->∃u0,us=[u0]
 | [u0],_=>⟨u0,rfl⟩
theorem usl2:∀{us:List Value},us.length=2->∃u0 u1,us=[u0,u1]
 | [u0,u1],_=>⟨u0,u1,rfl⟩
theorem usl3:∀{us:List Value},us.length=3->∃u0 u1 u2,us=[u0,u1,u2]
 | [u0,u1,u2],_=>⟨u0,u1,u2,rfl⟩
theorem usl4:∀{us:List Value},us.length=4->∃u0 u1 u2 u3,us=[u0,u1,u2,u3]
 | [u0,u1,u2,u3],_=>⟨u0,u1,u2,u3,rfl⟩
theorem walk {l:PySem.W.OpenLaw}{q:Program}{loose:List Str}{XP:(Str->Option Value)->Heap->Prop}{YP:World->Heap->Prop}{d:DefRec}{K:Params->PySem.W.Frag}(hn:l.most=some 63)(hdf:d.params.defaults=[])(hrec:∃dn,(PyProof.Rows.recsOf q).find? (fun e=>e.name==("nearest" : Str))=some dn) (hrec2:∃dn,(PyProof.Rows.recsOf q).find? (fun e=>e.name==("best_next" : Str))=some dn)
 (hY:∀(w:World)(h:Heap),YP w h->(K w.params).In h)
 (F:∀(w:World)(mg:Str->Option Value)(fa:Addr)(h:Heap),(K w.params).In h->h.Ns mainGlobals mg->mg d.name=some (.ref fa) ->
  ∃(fd:FuncData)(c P c2 P2:Addr),PySem.W.tabIn (K w.params) "nearest" = some (c,P)/\PySem.W.tabIn (K w.params) "best_next" = some (c2,P2)/\PySem.W.noTabs (K w.params)=true/\(∀(s:Shared)(u:Value),BindsTo s fd ⟨[u],[]⟩ [("_law_script",u)])/\∀base:Heap,(K w.params).In base->base.Ns mainGlobals mg->BmAt mg base->FnOk l.prog w (K w.params) mg base CX0 9 fa fd ["_law_script"] (spLaw (K w.params) P P2)) :
 PySem.W.WalkO q loose XP YP l.row.toRowW d [] (fun f vs=>PySem.call f vs):=
 L2.walk_T2 (n:=63) (k:=9) (x := "_law_script") (tn := "nearest") (t2 := "best_next") (CX:=CX0) (sp:=spLaw) hn (by decide) hdf ⟨rfl,by decide,by decide,rfl⟩ hrec hrec2 hY F (fun _ _ _ _ a ns hl hP hP2 hS=>⟨a,ns,rfl,hS,hl,hP,hP2,fun _=>rfl⟩) fun _ _ _ _ z=>z
theorem fk {K:PySem.W.Frag}(x:Str)(st:Stmt)(f:Addr)(pm cd:Value)(l:K.lookup f=some ⟨.type "function",.none,.func (PySem.W.fnOf x x (defArgs st) (defBody st) (defScope st) .none .none .none pm .none cd .none),#[]⟩:=by kernel_rfl) (c:PySem.W.codeIn K cd x=true:=by kernel_rfl)(k:PySem.W.keepIn K (.ref f)=true:=by kernel_rfl):Fun K x x st f (PySem.W.fnOf x x (defArgs st) (defBody st) (defScope st) .none .none .none pm .none cd .none):=fun_mk l c k
theorem fkC {K:PySem.W.Frag}(x:Str)(st:Stmt)(f:Addr)(pm:Value)(cc:Addr)(l:K.lookup f=some ⟨.type "function",.none,.func (PySem.W.fnOf x x (defArgs st) (defBody st) (defScope st) .none .none .none pm .none (.ref cc) .none),#[]⟩:=by kernel_rfl) (c:PySem.W.codeIn K (.ref cc) x=true:=by kernel_rfl)(k:PySem.W.keepIn K (.ref f)=true:=by kernel_rfl):FunC K x x st f (PySem.W.fnOf x x (defArgs st) (defBody st) (defScope st) .none .none .none pm .none (.ref cc) .none) cc:=funC_mk l c k
abbrev pw:Program:=PySem.Challenge.pw_labelways_k36_least_orders_told
def V:Program:={ pw with main:={ pw.main with body:=[top 1,top 2,top 3,top 4,top 5,top 6,top 7,top 8,top 9,top 10,top 11,top 12,top 13,top 15,top 17,top 18,top 19,top 20,top 22,top 23,top 24,top 25,top 26,top 27,top 28,top 29,top 30,top 31,top 32,top 34,top 35,top 36,top 37,top 38,top 39,top 40,top 41,top 42,top 43,top 44,top 45,top 46,top 47,top 48,top 49,top 50,top 51] } }
abbrev RR:PySem.W.RowW:=PySem.W.OpenRow.toRowW (PySem.Challenge.rw_labelways_k36_least_orders_told).row
theorem Ke:∀P,Ka=(Kf P).map (·.1):=fun P=>by kernel_rfl
abbrev HK:PySem.W.Hook:=PySem.W.kHook Kf Ka Ke
theorem left:PySem.W.LeftO pw V [] (fun s=>PySem.W.xlAt V [] s && PySem.W.recOk (PySem.W.RowW.records RR) s) (PySem.W.Hook.obs HK) (PySem.W.Hook.val HK) 7912:=L2.left_of (by kernel_rfl) (by decide) (fun _=>rfl) fun w os=>by kernel_rfl
def dL:DefRec:={ name := "law",params:=defArgs sLaw,body:=defBody sLaw,scope:=defScope sLaw,pos:=⟨228,0,247,15⟩ }
theorem facts (w:World)(mg:Str->Option Value)(fa:Addr)(h:Heap)(KX:(Kf w.params).In h)(G:h.Ns mainGlobals mg)(hmg:mg "law" = some (.ref fa)):∃(fd:FuncData)(c P c2 P2:Addr),PySem.W.tabIn (Kf w.params) "nearest" = some (c,P)/\PySem.W.tabIn (Kf w.params) "best_next" = some (c2,P2)/\PySem.W.noTabs (Kf w.params)=true/\(∀(s:Shared)(u:Value),BindsTo s fd ⟨[u],[]⟩ [("_law_script",u)])/\∀base:Heap,(Kf w.params).In base->base.Ns mainGlobals mg->BmAt mg base->FnOk (PySem.Challenge.rw_labelways_k36_least_orders_told).prog w (Kf w.params) mg base CX0 9 fa fd ["_law_script"] (spLaw (Kf w.params) P P2):=by
 have mk:∀(x:Str)(f:Addr),PySem.W.nsIn (Kf w.params) mainGlobals x=some (some (.ref f))->mg x=some (.ref f):=fun x f e=>PySem.W.mg_of KX G e
 have mn:∀x:Str,PySem.W.nsIn (Kf w.params) mainGlobals x=some none->mg x=none:=fun x e=>PySem.W.mg_none_of KX G e
 have FTa:=fk (K:=Kf w.params) "_law_tape" sTape 297 (qS "law_labelways_k36_least_orders_told" 579) (vR 296)
 have bTa:=FTa.binds (ps:=["_law_script"]) fun _ _ _ _ _ _ us hl=>by obtain⟨u0,rfl⟩:=usl1 hl;rfl
 have mTa:=mk "_law_tape" 297 (by kernel_rfl)
 have FD:=fk (K:=Kf w.params) "_law_draw" sDraw 304 (qS "law_labelways_k36_least_orders_told" 579) (vR 303)
 have bD:=FD.binds (ps:=["_law_tape_here", "_law_many"]) fun _ _ _ _ _ _ us hl=>by obtain⟨u0,u1,rfl⟩:=usl2 hl;rfl
 have mD:=mk "_law_draw" 304 (by kernel_rfl)
 have FSm:=fk (K:=Kf w.params) "_law_small" sSmall 311 (qS "law_labelways_k36_least_orders_told" 579) (vR 310)
 have bSm:=FSm.binds (ps:=["_law_tape_here"]) fun _ _ _ _ _ _ us hl=>by obtain⟨u0,rfl⟩:=usl1 hl;rfl
 have mSm:=mk "_law_small" 311 (by kernel_rfl)
 have FW:=fk (K:=Kf w.params) "_law_web" sWeb 316 (qS "law_labelways_k36_least_orders_told" 579) (vR 315)
 have bW:=FW.binds (ps:=["_law_tape_here", "_law_n"]) fun _ _ _ _ _ _ us hl=>by obtain⟨u0,u1,rfl⟩:=usl2 hl;rfl
 have mW:=mk "_law_web" 316 (by kernel_rfl)
 have FT:=fk (K:=Kf w.params) "ties_at" sTies 206 (qS "labelways.webs" 443) (vR 205)
 have bT:=FT.binds (ps:=["web", "place"]) fun _ _ _ _ _ _ us hl=>by obtain⟨u0,u1,rfl⟩:=usl2 hl;rfl
 have mT:=mk "ties_at" 206 (by kernel_rfl)
 have FNe:=fkC (K:=Kf w.params) "nearest" sNear 225 (qS "labelways.lengths" 457) 224
 have bNe:=FNe.fn.binds (ps:=["waiting"]) fun _ _ _ _ _ _ us hl=>by obtain⟨u0,rfl⟩:=usl1 hl;rfl
 have mNe:=mk "nearest" 225 (by kernel_rfl)
 have FF:=fk (K:=Kf w.params) "lengths_from" sFrom 218 (qS "labelways.lengths" 457) (vR 217)
 have bF:=FF.binds (ps:=["web", "start"]) fun _ _ _ _ _ _ us hl=>by obtain⟨u0,u1,rfl⟩:=usl2 hl;rfl
 have mF:=mk "lengths_from" 218 (by kernel_rfl)
 have FLe:=fk (K:=Kf w.params) "lengths" sLens 211 (qS "labelways.lengths" 457) (vR 210)
 have bLe:=FLe.binds (ps:=["web"]) fun _ _ _ _ _ _ us hl=>by obtain⟨u0,rfl⟩:=usl1 hl;rfl
 have mLe:=mk "lengths" 211 (by kernel_rfl)
 have FBw:=fk (K:=Kf w.params) "between_rows" sBwr 230 (qS "labelways.lengths" 457) (vR 229)
 have bBw:=FBw.binds (ps:=["here", "there", "other"]) fun _ _ _ _ _ _ us hl=>by obtain⟨u0,u1,u2,rfl⟩:=usl3 hl;rfl
 have mBw:=mk "between_rows" 230 (by kernel_rfl)
 have FCf:=fk (K:=Kf w.params) "count_free" sCf 235 (qS "labelways.leasts" 493) (vR 234)
 have bCf:=FCf.binds (ps:=["sets", "taken"]) fun _ _ _ _ _ _ us hl=>by obtain⟨u0,u1,rfl⟩:=usl2 hl;rfl
 have mCf:=mk "count_free" 235 (by kernel_rfl)
 have FSf:=fk (K:=Kf w.params) "sets_from" sSf 240 (qS "labelways.leasts" 493) (vR 239)
 have bSf:=FSf.binds (ps:=["rows", "hub"]) fun _ _ _ _ _ _ us hl=>by obtain⟨u0,u1,rfl⟩:=usl2 hl;rfl
 have mSf:=mk "sets_from" 240 (by kernel_rfl)
 have FSn:=fk (K:=Kf w.params) "set_number" sSn 245 (qS "labelways.leasts" 493) (vR 244)
 have bSn:=FSn.binds (ps:=["places"]) fun _ _ _ _ _ _ us hl=>by obtain⟨u0,rfl⟩:=usl1 hl;rfl
 have mSn:=mk "set_number" 245 (by kernel_rfl)
 have FRt:=fk (K:=Kf w.params) "refuse_too_many" sRtm 252 (qS "labelways.leasts" 493) (vR 251)
 have bRt:=FRt.binds (ps:=["web"]) fun _ _ _ _ _ _ us hl=>by obtain⟨u0,rfl⟩:=usl1 hl;rfl
 have mRt:=mk "refuse_too_many" 252 (by kernel_rfl)
 have FAs:=fk (K:=Kf w.params) "all_sets" sAlls 257 (qS "labelways.leasts" 493) (vR 256)
 have bAs:=FAs.binds (ps:=["web"]) fun _ _ _ _ _ _ us hl=>by obtain⟨u0,rfl⟩:=usl1 hl;rfl
 have mAs:=mk "all_sets" 257 (by kernel_rfl)
 have FLp:=fk (K:=Kf w.params) "left_places" sLpl 262 (qS "labelways.leasts" 493) (vR 261)
 have bLp:=FLp.binds (ps:=["web", "taken"]) fun _ _ _ _ _ _ us hl=>by obtain⟨u0,u1,rfl⟩:=usl2 hl;rfl
 have mLp:=mk "left_places" 262 (by kernel_rfl)
 have FBo:=fk (K:=Kf w.params) "by_way_of" sBwo 269 (qS "labelways.leasts" 493) (vR 268)
 have bBo:=FBo.binds (ps:=["sets", "numbers", "taken", "hub"]) fun _ _ _ _ _ _ us hl=>by obtain⟨u0,u1,u2,u3,rfl⟩:=usl4 hl;rfl
 have mBo:=mk "by_way_of" 269 (by kernel_rfl)
 have FLo:=fk (K:=Kf w.params) "least_order" sLord 276 (qS "labelways.leasts" 493) (vR 275)
 have bLo:=FLo.binds (ps:=["web"]) fun _ _ _ _ _ _ us hl=>by obtain⟨u0,rfl⟩:=usl1 hl;rfl
 have mLo:=mk "least_order" 276 (by kernel_rfl)
 have FLn:=fk (K:=Kf w.params) "least_numbers" sLnum 283 (qS "labelways.leasts" 493) (vR 282)
 have bLn:=FLn.binds (ps:=["web", "sets"]) fun _ _ _ _ _ _ us hl=>by obtain⟨u0,u1,rfl⟩:=usl2 hl;rfl
 have mLn:=mk "least_numbers" 283 (by kernel_rfl)
 have FBn:=fkC (K:=Kf w.params) "best_next" sBest 290 (qS "labelways.leasts" 493) 289
 have bBn:=FBn.fn.binds (ps:=["web", "sets", "numbers", "taken"]) fun _ _ _ _ _ _ us hl=>by obtain⟨u0,u1,u2,u3,rfl⟩:=usl4 hl;rfl
 have mBn:=mk "best_next" 290 (by kernel_rfl)
 have FA:=fk (K:=Kf w.params) "_law_added" sAdd 323 (qS "law_labelways_k36_least_orders_told" 579) (vR 322)
 have bA:=FA.binds (ps:=["_law_one", "_law_other"]) fun _ _ _ _ _ _ us hl=>by obtain⟨u0,u1,rfl⟩:=usl2 hl;rfl
 have mA:=mk "_law_added" 323 (by kernel_rfl)
 have FLs:=fk (K:=Kf w.params) "_law_lesser" sLes 330 (qS "law_labelways_k36_least_orders_told" 579) (vR 329)
 have bLs:=FLs.binds (ps:=["_law_one", "_law_other"]) fun _ _ _ _ _ _ us hl=>by obtain⟨u0,u1,rfl⟩:=usl2 hl;rfl
 have mLs:=mk "_law_lesser" 330 (by kernel_rfl)
 have FFr:=fk (K:=Kf w.params) "_law_far" sFar 335 (qS "law_labelways_k36_least_orders_told" 579) (vR 334)
 have bFr:=FFr.binds (ps:=["_law_web_here"]) fun _ _ _ _ _ _ us hl=>by obtain⟨u0,rfl⟩:=usl1 hl;rfl
 have mFr:=mk "_law_far" 335 (by kernel_rfl)
 have FO:=fk (K:=Kf w.params) "_law_on" sOn 342 (qS "law_labelways_k36_least_orders_told" 579) (vR 341)
 have bO:=FO.binds (ps:=["_law_far_here", "_law_place", "_law_one", "_law_other"]) fun _ _ _ _ _ _ us hl=>by obtain⟨u0,u1,u2,u3,rfl⟩:=usl4 hl;rfl
 have mO:=mk "_law_on" 342 (by kernel_rfl)
 have FIq:=fk (K:=Kf w.params) "_law_is_order" sLio 347 (qS "law_labelways_k36_least_orders_told" 579) (vR 346)
 have bIq:=FIq.binds (ps:=["_law_n", "_law_thing"]) fun _ _ _ _ _ _ us hl=>by obtain⟨u0,u1,rfl⟩:=usl2 hl;rfl
 have mIq:=mk "_law_is_order" 347 (by kernel_rfl)
 have FMa:=fk (K:=Kf w.params) "_law_masks" sMask 352 (qS "law_labelways_k36_least_orders_told" 579) (vR 351)
 have bMa:=FMa.binds (ps:=["_law_web_here"]) fun _ _ _ _ _ _ us hl=>by obtain⟨u0,rfl⟩:=usl1 hl;rfl
 have mMa:=mk "_law_masks" 352 (by kernel_rfl)
 have FBr:=fk (K:=Kf w.params) "_law_brought" sBrt 357 (qS "law_labelways_k36_least_orders_told" 579) (vR 356)
 have bBr:=FBr.binds (ps:=["_law_masks_here", "_law_some", "_law_hub"]) fun _ _ _ _ _ _ us hl=>by obtain⟨u0,u1,u2,rfl⟩:=usl3 hl;rfl
 have mBr:=mk "_law_brought" 357 (by kernel_rfl)
 have FIn:=fk (K:=Kf w.params) "_law_in_all" sInal 364 (qS "law_labelways_k36_least_orders_told" 579) (vR 363)
 have bIn:=FIn.binds (ps:=["_law_masks_here", "_law_order"]) fun _ _ _ _ _ _ us hl=>by obtain⟨u0,u1,rfl⟩:=usl2 hl;rfl
 have mIn:=mk "_law_in_all" 364 (by kernel_rfl)
 have FLl:=fk (K:=Kf w.params) "_law_least" sLlst 369 (qS "law_labelways_k36_least_orders_told" 579) (vR 368)
 have bLl:=FLl.binds (ps:=["_law_masks_here"]) fun _ _ _ _ _ _ us hl=>by obtain⟨u0,rfl⟩:=usl1 hl;rfl
 have mLl:=mk "_law_least" 369 (by kernel_rfl)
 have FSt:=fk (K:=Kf w.params) "_law_step_fault" sStep 376 (qS "law_labelways_k36_least_orders_told" 579) (vR 375)
 have bSt:=FSt.binds (ps:=["_law_masks_here", "_law_numbers"]) fun _ _ _ _ _ _ us hl=>by obtain⟨u0,u1,rfl⟩:=usl2 hl;rfl
 have mSt:=mk "_law_step_fault" 376 (by kernel_rfl)
 have FLf:=fk (K:=Kf w.params) "_law_least_fault" sLfau 381 (qS "law_labelways_k36_least_orders_told" 579) (vR 380)
 have bLf:=FLf.binds (ps:=["_law_masks_here", "_law_thing"]) fun _ _ _ _ _ _ us hl=>by obtain⟨u0,u1,rfl⟩:=usl2 hl;rfl
 have mLf:=mk "_law_least_fault" 381 (by kernel_rfl)
 have FAo:=fk (K:=Kf w.params) "_law_all_orders" sAllo 386 (qS "law_labelways_k36_least_orders_told" 579) (vR 385)
 have bAo:=FAo.binds (ps:=["_law_n"]) fun _ _ _ _ _ _ us hl=>by obtain⟨u0,rfl⟩:=usl1 hl;rfl
 have mAo:=mk "_law_all_orders" 386 (by kernel_rfl)
 have FRe:=fk (K:=Kf w.params) "_law_refused" sRefu 393 (qS "law_labelways_k36_least_orders_told" 579) (vR 392)
 have bRe:=FRe.binds (ps:=["_law_web_here"]) fun _ _ _ _ _ _ us hl=>by obtain⟨u0,rfl⟩:=usl1 hl;rfl
 have mRe:=mk "_law_refused" 393 (by kernel_rfl)
 have FZ:=fk (K:=Kf w.params) "law" sLaw 398 (qS "law_labelways_k36_least_orders_told" 579) (vR 397)
 have mb0:=mn "len" (by kernel_rfl)
 have mb1:=mn "range" (by kernel_rfl)
 have mb2:=mn "tuple" (by kernel_rfl)
 have mb3:=mn "sorted" (by kernel_rfl)
 have mb4:=mn "min" (by kernel_rfl)
 have mb5:=mn "repr" (by kernel_rfl)
 have mb6:=mn "list" (by kernel_rfl)
 have mb7:=mn "isinstance" (by kernel_rfl)
 have mb8:=mn "int" (by kernel_rfl)
 have mb9:=mn "bool" (by kernel_rfl)
 have mb10:=mn "sum" (by kernel_rfl)
 have mb11:=mn "ValueError" (by kernel_rfl)
 have e:=hmg.symm.trans (mk "law" 398 (by kernel_rfl))
 cases e
 have Er:ErrG (Kf w.params) mg "TooMany" nsM 24 197 [44,63,113,173,82,149,137,185,101,161]:=⟨(mk "WayError" 24 (by kernel_rfl)),(mk "TooMany" 197 (by kernel_rfl)),by kernel_rfl,by kernel_rfl,by kernel_rfl,⟨by kernel_rfl,by kernel_rfl,by kernel_rfl,by kernel_rfl,by kernel_rfl,by kernel_rfl⟩,by show [mg "NoLabels",mg "NoLeast",mg "NoOrder",mg "NoPart",mg "NoPlan",mg "NoPosts",mg "NoRing",mg "NoRow",mg "NoText",mg "NoTie"]=_;rw[mk "NoLabels" 44 (by kernel_rfl),mk "NoLeast" 63 (by kernel_rfl),mk "NoOrder" 113 (by kernel_rfl),mk "NoPart" 173 (by kernel_rfl),mk "NoPlan" 82 (by kernel_rfl),mk "NoPosts" 149 (by kernel_rfl),mk "NoRing" 137 (by kernel_rfl),mk "NoRow" 185 (by kernel_rfl),mk "NoText" 101 (by kernel_rfl),mk "NoTie" 161 (by kernel_rfl)];rfl,by kernel_rfl,by kernel_rfl,by kernel_rfl⟩
 have mTr:mg "NoTree" = some (.ref 125):=mk "NoTree" 125 (by kernel_rfl)
 have kT:PySem.W.kitOne (Kf w.params) (.ref 197) (.ref 125)=some false:=by kernel_rfl
 have mMT:mg "MOST_PLACES_OF_LEASTS" = some (.int 8 495):=PySem.W.mg_of KX G (by kernel_rfl)
 exact⟨_,224,220,289,285,by kernel_rfl,by kernel_rfl,by kernel_rfl,fun s v=>.of_eq rfl,fun base hb _ hbm=>ok_law FZ (PySem.W.codeHd_of_K hb (show PySem.W.codeHdIn (Kf w.params) 224 220=true by kernel_rfl)) (PySem.W.codeHd_of_K hb (show PySem.W.codeHdIn (Kf w.params) 289 285=true by kernel_rfl)) hbm (by decide) Er mTr kT mMT FTa bTa mTa FD bD mD FSm bSm mSm FW bW mW FT bT mT FNe bNe mNe FF bF mF FLe bLe mLe FBw bBw mBw FCf bCf mCf FSf bSf mSf FSn bSn mSn FRt bRt mRt FAs bAs mAs FLp bLp mLp FBo bBo mBo FLo bLo mLo FLn bLn mLn FBn bBn mBn FA bA mA FLs bLs mLs FFr bFr mFr FO bO mO FIq bIq mIq FMa bMa mMa FBr bBr mBr FIn bIn mIn FLl bLl mLl FSt bSt mSt FLf bLf mLf FAo bAo mAo FRe bRe mRe mb0 mb1 mb2 mb3 mb4 mb5 mb6 mb7 mb8 mb9 mb10 mb11⟩
end K36
open PySem PySem.W PyProof.Rows
set_option maxRecDepth 100000 in
set_option maxHeartbeats 0 in
theorem PySem.Challenge.cw_labelways_k36_least_orders_told_holds : PySem.Challenge.rw_labelways_k36_least_orders_told.Holds := by
 refine holds_law (by decide +kernel) fun said=>?_
 refine holds_open (q:=K36.V) (loose:=[]) (Xt:=fun s=>xlAt K36.V [] s && recOk (RowW.records K36.RR) s) (XP:=XL K36.V []) (Yf:=Hook.obs K36.HK) (Ya:=Hook.val K36.HK) (YP:=Hook.says K36.HK) (d:=K36.dL) (kwd:=[]) (N:=7912) K36.left (Hook.of K36.HK) (Hook.keeps K36.HK) (fun s e=>xl_of s (Bool.and_eq_true_iff.mp e).1) XL.keeps (by kernel_rfl) (by kernel_rfl) (by kernel_rfl) (fun s e=>recFacts_of (Bool.and_eq_true_iff.mp e).2) (by kernel_rfl) said (by decide +kernel) ⟨rfl,rfl,rfl,rfl,rfl,by decide +kernel⟩ ?hw ?hc
 case hw=>w_witness2
 case hc=>
  exact K36.walk (l:=PySem.Challenge.rw_labelways_k36_least_orders_told) (K:=K36.Kf) rfl rfl ⟨((PyProof.Rows.recsOf K36.V).find? (fun e=>e.name==("nearest" : Str))).get (by decide +kernel),by simp⟩ ⟨((PyProof.Rows.recsOf K36.V).find? (fun e=>e.name==("best_next" : Str))).get (by decide +kernel),by simp⟩ (fun w h Y=>PySem.W.kIn_of Y) K36.facts
