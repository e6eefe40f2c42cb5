import PyProof.Rows.All
import Wide.All
import OpenK.AllK
import Wide.FinOn
import Lean
import PyProof.EqAt
import PyProof.EqKinds
import PyProof.TupleCall
import PyProof.ListRange
import PyProof.Rows.StrKeys3
import PyProof.ZipIter
import PySem.Challenge.RW_labelways_k60_ring_labels
set_option Elab.async false
set_option linter.all false
set_option maxRecDepth 100000
namespace L2
open PySem PySem.Spec PyProof.Rows
abbrev Key:=Sum Int Str
def keyIs:Key->Value->Bool
 | .inl k,v=>Value.isInt k v
 | .inr x,v=>Value.isStrOf x v
def keyH (w:World):Key->Int
 | .inl k=>hashInt k
 | .inr x=>hashStr w x
theorem keyIs_shape:∀{k:Key}{v:Value},keyIs k v=true->(∃i t,k=Sum.inl i/\v=Value.int i t)\/(∃x t,k=Sum.inr x/\v=Value.str x t)
 | .inl i,v,h=>by
  obtain⟨t,e⟩:=Value.isInt_shape (k:=i) (v:=v) h
  exact .inl ⟨i,t,rfl,e⟩
 | .inr x,v,h=>by
  obtain⟨t,e⟩:=Value.isStrOf_shape (x:=x) (v:=v) h
  exact .inr ⟨x,t,rfl,e⟩
theorem keyIs_int (i:Int)(t:Tok):keyIs (.inl i) (.int i t)=true:=by simp[keyIs,Value.isInt]
theorem keyIs_str (x:Str)(t:Tok):keyIs (.inr x) (.str x t)=true:=by simp[keyIs,Value.isStrOf]
theorem key_ll (a b:Int):decide ((Sum.inl a:Key)=Sum.inl b)=(a==b):=by
 by_cases e:a=b
 . subst e;simp
 . have h:¬ (Sum.inl a:Key)=Sum.inl b:=fun q=>e (Sum.inl.inj q)
   rw[decide_eq_false h]
   exact (beq_eq_false_iff_ne.mpr e).symm
theorem key_rr (a b:Str):decide ((Sum.inr a:Key)=Sum.inr b)=decide (a=b):=by
 by_cases e:a=b
 . subst e;simp
 . have h:¬ (Sum.inr a:Key)=Sum.inr b:=fun q=>e (Sum.inr.inj q)
   rw[decide_eq_false h,decide_eq_false e]
theorem key_lr (a:Int)(b:Str):decide ((Sum.inl a:Key)=Sum.inr b)=false:=decide_eq_false (fun q=>nomatch q)
theorem key_rl (a:Str)(b:Int):decide ((Sum.inr a:Key)=Sum.inl b)=false:=decide_eq_false (fun q=>nomatch q)
def mixKind (prog:Program)(w:World):PySem.KeyKind prog w Key where
 is:=keyIs
 hash:=keyH w
 inj:=fun v a b ha hb=>by
  rcases keyIs_shape ha with ⟨i,t,rfl,rfl⟩ | ⟨x,t,rfl,rfl⟩
  . rcases keyIs_shape hb with ⟨j,u,rfl,e⟩ | ⟨y,u,rfl,e⟩
    . injection e with e1 _;rw[e1]
    . exact nomatch e
  . rcases keyIs_shape hb with ⟨j,u,rfl,e⟩ | ⟨y,u,rfl,e⟩
    . exact nomatch e
    . injection e with e1 _;rw[e1]
 byValue:=fun k v h=>by
  rcases keyIs_shape h with ⟨i,t,rfl,rfl⟩ | ⟨x,t,rfl,rfl⟩ <;> rfl
 pyHash:=fun hv h=>by
  rcases keyIs_shape hv with ⟨i,t,rfl,rfl⟩ | ⟨x,t,rfl,rfl⟩
  . exact wpAny_pyHash_int h
  . exact wpAny_pyHash_str h
 eqBool:=fun hu hv h=>by
  rcases keyIs_shape hu with ⟨i,t,rfl,rfl⟩ | ⟨x,t,rfl,rfl⟩
  . rcases keyIs_shape hv with ⟨j,u,rfl,rfl⟩ | ⟨y,u,rfl,rfl⟩
    . rw[key_ll] at h;exact wpAny_eqBool_int h
    . rw[key_lr] at h;exact SeqAt.EqAt.int_str i t y u _ _ _ _ h
  . rcases keyIs_shape hv with ⟨j,u,rfl,rfl⟩ | ⟨y,u,rfl,rfl⟩
    . rw[key_rl] at h;exact SeqAt.EqAt.str_int x t j u _ _ _ _ h
    . rw[key_rr] at h;exact wpAny_eqBool_str h
 «strs» := fun k x t v h=>by
  rcases keyIs_shape h with ⟨i,u,rfl,e⟩ | ⟨y,u,rfl,e⟩
  . exact nomatch e
  . injection e with e1 _
    subst e1
    cases v <;> rfl
theorem mixKind_int (prog:Program)(w:World)(i:Int)(t:Tok):(mixKind prog w).is (.inl i) (.int i t)=true:=keyIs_int i t
theorem mixKind_str (prog:Program)(w:World)(x:Str)(t:Tok):(mixKind prog w).is (.inr x) (.str x t)=true:=keyIs_str x t
end L2
namespace L2
open PySem PySem.Spec PyProof.Rows
inductive V where
 | non | bl (b:Bool) | int (i:Int) | str (x:Str) | byt (b:Array UInt8) | flt (b:UInt64) | ref (a:Addr) | ty (n:String)
 deriving DecidableEq
def RelV:V->Value->Prop
 | .non,u=>u=Value.none
 | .bl b,u=>u=Value.bool b
 | .int i,u=>∃t,u=Value.int i t
 | .str x,u=>∃t,u=Value.str x t
 | .byt b,u=>∃t,u=Value.bytes b t
 | .flt b,u=>∃t,u=Value.float b t
 | .ref a,u=>u=Value.ref a
 | .ty n,u=>u=Value.type n
abbrev Vals:List V->List Value->Prop:=Paired RelV
theorem Vals.length {xs:List V}{us:List Value}(r:Vals xs us):xs.length=us.length:=Paired.length r
theorem Vals.get:∀{xs:List V}{us:List Value}{i:Nat}{x:V},Vals xs us->xs[i]? = some x->∃u,us[i]? = some u/\RelV x u
 | _,_,_,_,.nil,e=>by simp at e
 | _,_,0,_,.cons r _,e=>by simp at e;subst e;exact⟨_,rfl,r⟩
 | _,_,i+1,x,.cons _ t,e=>by
  obtain⟨u,h1,h2⟩:=Vals.get (i:=i) (x:=x) t (by simpa using e)
  exact⟨u,by simpa using h1,h2⟩
theorem Vals.set {x:V}{u:Value}(r:RelV x u):∀{xs:List V}{us:List Value}(i:Nat),Vals xs us->Vals (xs.set i x) (us.set i u)
 | _,_,_,.nil=>.nil
 | _,_,0,.cons _ t=>.cons r t
 | _,_,i+1,.cons q t=>.cons q (Vals.set r i t)
theorem Vals.append:∀{xs ys:List V}{us ws:List Value},Vals xs us->Vals ys ws->Vals (xs++ys) (us++ws)
 | _,_,_,_,.nil,s=>s
 | _,_,_,_,.cons r t,s=>.cons r (Vals.append t s)
theorem Vals.take:∀{xs:List V}{us:List Value}(n:Nat),Vals xs us->Vals (xs.take n) (us.take n)
 | _,_,0,_=>.nil
 | _,_,_+1,.nil=>.nil
 | _,_,n+1,.cons r t=>.cons r (Vals.take n t)
theorem Vals.drop:∀{xs:List V}{us:List Value}(n:Nat),Vals xs us->Vals (xs.drop n) (us.drop n)
 | _,_,0,r=>r
 | _,_,_+1,.nil=>.nil
 | _,_,n+1,.cons _ t=>Vals.drop n t
def RelO:Option V->Option Value->Prop
 | some v,some u=>RelV v u
 | none,none=>True
 | _,_=>False
def KV {κ:Type}:List (κ×V)->List (κ×Value)->Prop:=Paired fun (p:κ×V)(q:κ×Value)=>p.1=q.1/\RelV p.2 q.2
def kV:Key->V
 | .inl i=>.int i
 | .inr x=>.str x
inductive HO where
 /-- a list -/
 | lst (xs:List V)
 /-- a tuple (never changes) -/
 | tup (xs:List V)
 /-- a dict whose keys are ints and texts;one whose keys are tuples of ints and texts (the empty one is both) -/
 | dK (kvs:List (Key×V)) | dT (kvs:List (List Key×V))
 /-- a set of ints: its members,its size -/
 | set (S:Int->Bool)(n:Nat)
 /-- an instance of the class at C,its dict at dx,its attributes -/
 | ins (C dx:Addr)(fs:List (Str×V))
 /-- the dict of the instance at x -/
 | own (x:Addr)
 /-- the dict of an exception -/
 | xd (fs:List (Str×V))
 /-- a bound method,f of x -/
 | met (f x:Addr)
 /-- a range object lo,lo+1,.. below hi -/
 | rng (lo hi:Int)
 /-- a thing that is known to the object (the script;a dict while a loop walks it): read,never written while it is so -/
 | frz (o:Obj)(u:HO)
 /-- a code object's table -/
 | tbl (ps:Array Value)
 /-- any other thing,by what is true of its one object (a def of one's own: SetO a S n:=HO.ext fun h=>..) -/
 | ext (φ:Heap->Prop)
abbrev Hp:=Addr->Option HO
def upd (H:Hp)(a:Addr)(o:HO):Hp:=fun b=>if b=a then some o else H b
theorem upd_same {H:Hp}{a:Addr}{o:HO}:upd H a o a=some o:=by unfold upd;rw[if_pos rfl]
theorem upd_ne {H:Hp}{a b:Addr}{o:HO}(h:b≠a):upd H a o b=H b:=by unfold upd;rw[if_neg h]
theorem upd_upd {H:Hp}{a:Addr}{o u:HO}:upd (upd H a o) a u=upd H a u:=by
 funext b;unfold upd;split <;> rfl
theorem ne_of {H:Hp}{a b:Addr}{o u:HO}(h:H a=some o)(h':H b=some u)(d:o≠u):a≠b:=by
 intro e;subst e;rw[h] at h';exact d (Option.some.inj h')
theorem ne_of_none {H:Hp}{a b:Addr}{o:HO}(h:H a=some o)(h':H b=none):a≠b:=by
 intro e;subst e;rw[h] at h';cases h'
section
variable (P:Program)(w:World)
def ObjOk (H:Hp)(h:Heap)(a:Addr):HO->Prop
 | .lst xs=>xs.length<=sizeLine/\∃(its:List Value)(n:Nat),Vals xs its/\h.get? a=some { cls:=.type "list",data:=.seq its.toArray n }
 | .tup xs=>(xs.length<=sizeLine/\∃o,h.get? a=some o/\o.dict=none)/\∃its:List Value,Vals xs its/\IsTup h a its.toArray
 | .dK kvs=>kvs.length<=sizeLine/\(a==sysModules)=false/\∃vs,KV kvs vs/\h.DictOf (mixKind P w) a vs
 | .dT kvs=>kvs.length<=sizeLine/\(a==sysModules)=false/\∃xs:List (List Key×Addr×Value),
  Paired (fun (p:List Key×V)(q:List Key×Addr×Value)=>p.1=q.1/\H q.2.1=some (.tup (p.1.map kV))/\RelV p.2 q.2.2) kvs xs /\
  ∃o es ep,h.get? a=some o/\o.ExactDict/\o.data = .dict es ep/\es.toList=xs.map (entryOfKey (tupleKind (mixKind P w)))/\(xs.map (·.1)).Nodup
 | .set S n=>h.SetOf (intKind P w) a S n
 | .ins C dx fs=>H dx=some (.own a)/\fs.length<=1000/\dx≠a/\h.get? a=some (PySem.W.instObj C dx) /\
  ∃mA,h.Ns1 dx mA/\(∀f,RelO (fs.lookup f) (mA f))/\PySem.Within mA (fs.map (·.1))
 | .own _=>∃o,h.get? a=some o
 | .xd fs=>∃mA,h.Ns1 a mA/\∀f,RelO (fs.lookup f) (mA f)
 | .rng lo hi=>∃t u v,h.get? a=some { cls:=.type "range",data:=.fields #[.int lo t,.int hi u,.int 1 v] }
 | .frz o u=>h.get? a=some o/\ObjOk H h a u
 | .tbl ps=>h.get? a=some { cls:=.none,data:=.fields ps }
 | .met f x=>h.get? a=some (PySem.W.methodObj (.ref f) (.ref x))
 | .ext φ=>φ h/\(∃o,h.get? a=some o)/\∀h1 h2:Heap,φ h1->(∀o,h1.get? a=some o->h2.get? a=some o)->φ h2
def HOk (H:Hp)(h:Heap):Prop:=∀a o,H a=some o->ObjOk P w H h a o
end
section
variable {P:Program}{w:World}{H H':Hp}{h h':Heap}{a:Addr}{o:HO}
theorem ObjOk.lt (x:ObjOk P w H h a o):a<h.objs.size:=by
 cases o with
 | lst xs=>obtain⟨_,_,_,_,e⟩:=x;exact Heap.lt_size e
 | tup xs=>obtain⟨_,_,_,p⟩:=x;exact p.lt
 | dK kvs=>obtain⟨_,_,_,_,o,_,_,e,_⟩:=x;exact Heap.lt_size e
 | dT kvs=>obtain⟨_,_,_,_,o,_,_,e,_⟩:=x;exact Heap.lt_size e
 | set S n=>obtain⟨o,_,_,_,e,_⟩:=x;exact Heap.lt_size e
 | ins C dx fs=>obtain⟨_,_,_,e,_⟩:=x;exact Heap.lt_size e
 | own y=>obtain⟨_,e⟩:=x;exact Heap.lt_size e
 | xd fs=>obtain⟨_,⟨_,_,_,e,_⟩,_⟩:=x;exact Heap.lt_size e
 | rng lo hi=>obtain⟨_,_,_,e⟩:=x;exact Heap.lt_size e
 | frz ob u=>obtain⟨e,_⟩:=x;exact Heap.lt_size e
 | tbl ps=>exact Heap.lt_size (show h.get? a=some _ from x)
 | met f y=>exact Heap.lt_size (show h.get? a=some _ from x)
 | ext φ=>obtain⟨_,⟨_,e⟩,_⟩:=x;exact Heap.lt_size e
theorem Paired.mapP {α β:Type}{F G:α->β->Prop}:∀{l₁:List α}{l₂:List β},Paired F l₁ l₂->(∀a b,F a b->G a b)->Paired G l₁ l₂
 | _,_,.nil,_=>.nil
 | _,_,.cons r t,f=>.cons (f _ _ r) (Paired.mapP t f)
theorem ObjOk.stay (x:ObjOk P w H h a o)(k:∀b u,(b=a\/H b=some (.own a))->h.get? b=some u->h'.get? b=some u)
 (ho:∀b,H b=some (.own a)->H' b=some (.own a))(ht:∀b xs,H b=some (.tup xs)->H' b=some (.tup xs)):ObjOk P w H' h' a o:=by
 induction o with
 | lst xs=>obtain⟨z,its,n,r,e⟩:=x;exact⟨z,its,n,r,k _ _ (.inl rfl) e⟩
 | tup xs=>obtain⟨⟨z,o2,e2,d2⟩,its,r,ob,e,c⟩:=x;exact⟨⟨z,o2,k _ _ (.inl rfl) e2,d2⟩,its,r,ob,k _ _ (.inl rfl) e,c⟩
 | dK kvs=>obtain⟨z,y,vs,r,ob,es,ep,e,c⟩:=x;exact⟨z,y,vs,r,ob,es,ep,k _ _ (.inl rfl) e,c⟩
 | dT kvs=>
  obtain⟨z,y,xs,r,ob,es,ep,e,c⟩:=x
  exact⟨z,y,xs,Paired.mapP r fun p q z=>⟨z.1,ht _ _ z.2.1,z.2.2⟩,ob,es,ep,k _ _ (.inl rfl) e,c⟩
 | set S n=>obtain⟨ob,es,ep,t,e,c⟩:=x;exact⟨ob,es,ep,t,k _ _ (.inl rfl) e,c⟩
 | ins C dx fs=>
  obtain⟨d,z,ne,e,mA,⟨od,es,ep,e2,c⟩,r⟩:=x
  exact⟨ho _ d,z,ne,k _ _ (.inl rfl) e,mA,⟨od,es,ep,k _ _ (.inr d) e2,c⟩,r⟩
 | own y=>obtain⟨ob,e⟩:=x;exact⟨ob,k _ _ (.inl rfl) e⟩
 | xd fs=>obtain⟨mA,⟨od,es,ep,e,c⟩,r⟩:=x;exact⟨mA,⟨od,es,ep,k _ _ (.inl rfl) e,c⟩,r⟩
 | rng lo hi=>obtain⟨t,u,v,e⟩:=x;exact⟨t,u,v,k _ _ (.inl rfl) e⟩
 | frz ob u ih=>obtain⟨e,q⟩:=x;exact⟨k _ _ (.inl rfl) e,ih q⟩
 | tbl ps=>
  have e:h.get? a=some { cls:=.none,data:=.fields ps }:=x
  show h'.get? a=some { cls:=.none,data:=.fields ps }
  exact k a _ (.inl rfl) e
 | met f y=>
  have e:h.get? a=some (PySem.W.methodObj (.ref f) (.ref y)):=x
  show h'.get? a=some (PySem.W.methodObj (.ref f) (.ref y))
  exact k a _ (.inl rfl) e
 | ext φ=>obtain⟨p,⟨o,e⟩,st⟩:=x;exact⟨st _ _ p fun o q=>k _ _ (.inl rfl) q,⟨o,k _ _ (.inl rfl) e⟩,st⟩
theorem HOk.lt (x:HOk P w H h)(e:H a=some o):a<h.objs.size:=(x a o e).lt
theorem HOk.fresh (x:HOk P w H h)(e:h.objs.size<=a):H a=none:=by
 cases q:H a with
 | none=>rfl
 | some u=>exact absurd (Nat.lt_of_lt_of_le (x.lt q) e) (Nat.lt_irrefl _)
theorem HOk.kept (x:HOk P w H h)(k:∀b u,h.get? b=some u->h'.get? b=some u):HOk P w H h':=fun a o e=>
 (x a o e).stay (fun b u _ q=>k b u q) (fun _ q=>q) fun _ _ q=>q
theorem HOk.laid (x:HOk P w H h)(k:∀b u,h.get? b=some u->h'.get? b=some u)(hp:h.objs.size<=a)(new:ObjOk P w (upd H a o) h' a o):HOk P w (upd H a o) h':=fun b u e=>by
 have hn:=x.fresh hp
 by_cases hb:b=a
 . subst hb;rw[upd_same] at e;cases e;exact new
 . rw[upd_ne hb] at e
   exact (x b u e).stay (fun c v _ q=>k c v q) (fun c q=>by rw[upd_ne (ne_of_none q hn)];exact q) fun c xs q=>by rw[upd_ne (ne_of_none q hn)];exact q
end
def Rd (H:Hp)(a:Addr)(u:HO):Prop:=H a=some u\/∃o,H a=some (.frz o u)
theorem Rd.ok {P:Program}{w:World}{H:Hp}{h:Heap}{a:Addr}{u:HO}(r:Rd H a u)(x:HOk P w H h):ObjOk P w H h a u:=by
 rcases r with r | ⟨o,r⟩
 . exact x a u r
 . obtain⟨_,q⟩:=x a _ r
   exact q
def Mut:Option HO->Prop
 | some (.lst _)=>True
 | some (.dK _)=>True
 | some (.dT _)=>True
 | some (.set _ _)=>True
 | some (.ins _ _ _)=>True
 | some (.ext _)=>True
 | _=>False
section
variable {P:Program}{w:World}{H:Hp}{h h':Heap}{x e:Addr}{o':HO}
theorem HOk.write (ok:HOk P w H h)(mu:Mut (H x))(he:e=x\/H e=some (.own x))(k:∀b u,b≠e->h.get? b=some u->h'.get? b=some u)(heo:∃u,h'.get? e=some u)
 (new:ObjOk P w (upd H x o') h' x o'):HOk P w (upd H x o') h':=fun b u q=>by
 have nown:∀c y,H c=some (.own y)->c≠x:=fun c y r z=>by subst z;rw[r] at mu;exact mu
 have ntup:∀c xs,H c=some (.tup xs)->c≠x:=fun c xs r z=>by subst z;rw[r] at mu;exact mu
 by_cases hb:b=x
 . subst hb;rw[upd_same] at q;cases q;exact new
 . rw[upd_ne hb] at q
   by_cases hbe:b=e
   . have q':H b=some (.own x):=by
      rcases he with z | z
      . exact absurd (hbe.trans z) hb
      . rw[hbe];exact z
     rw[q] at q';cases q'
     obtain⟨v,hv⟩:=heo
     exact⟨v,by rw[hbe];exact hv⟩
   . refine (ok b u q).stay (fun c v hc r=>k c v ?_ r) (fun c r=>by rw[upd_ne (nown c b r)];exact r) fun c xs r=>by rw[upd_ne (ntup c xs r)];exact r
     rcases hc with rfl | hc
     . exact hbe
     . rintro rfl
       rcases he with z | z
       . exact nown c b hc z
       . rw[hc] at z;cases z;exact hb rfl
end
structure Un (fs ex:List Addr)(H H':Hp)(h h':Heap):Prop where
 keep:∀b o,h.get? b=some o->H b=none->b∉fs->b∉ex->h'.get? b=some o
 slot:∀b o,h.get? b=some o->H b=none->b∈fs->b∉ex->∃sl,h'.get? b=some { o with slots:=sl }
 free:∀b o,h.get? b=some o->H b=none->b∉ex->H' b=none
 there:∀b o,h.get? b=some o->b∉ex->∃o',h'.get? b=some o'
 tups:∀b xs,H b=some (.tup xs)->H' b=some (.tup xs)
 frzs:∀b o u,H b=some (.frz o u)->H' b=some (.frz o u)
 tbls:∀b ps,H b=some (.tbl ps)->∃more,H' b=some (.tbl (ps++more))
section
variable {fs fs' ex ex':List Addr}{H H1 H2:Hp}{h h1 h2 h':Heap}{a x e:Addr}{o:HO}
theorem Un.any (u:Un fs ex H H1 h h1){b:Addr}{ob:Obj}(q:h.get? b=some ob)(n:H b=none)(hx:b∉ex):∃sl,h1.get? b=some { ob with slots:=sl }:=by
 by_cases hb:b∈fs
 . exact u.slot b ob q n hb hx
 . exact⟨ob.slots,u.keep b ob q n hb hx⟩
theorem Un.kept (k:∀b u,h.get? b=some u->h'.get? b=some u):Un fs ex H H h h':=
 ⟨fun b ob q _ _ _=>k b ob q,fun b ob q _ _ _=>⟨ob.slots,k b ob q⟩,fun _ _ _ n _=>n,fun b ob q _=>⟨ob,k b ob q⟩,fun _ _ q=>q,fun _ _ _ q=>q,fun _ ps q=>⟨#[],by rw[q];simp⟩⟩
theorem Un.refl:Un fs ex H H h h:=Un.kept fun _ _ q=>q
theorem Un.laid (k:∀b u,h.get? b=some u->h'.get? b=some u)(hp:h.objs.size<=a)(hn:H a=none):Un fs ex H (upd H a o) h h' where
 keep:=fun b u q _ _ _=>k b u q
 slot:=fun b u q _ _ _=>⟨u.slots,k b u q⟩
 free:=fun b u q n _=>by rw[upd_ne (Nat.ne_of_lt (Nat.lt_of_lt_of_le (Heap.lt_size q) hp))];exact n
 there:=fun b u q _=>⟨u,k b u q⟩
 tups:=fun b xs q=>by rw[upd_ne (ne_of_none q hn)];exact q
 frzs:=fun b u xs q=>by rw[upd_ne (ne_of_none q hn)];exact q
 tbls:=fun b ps q=>⟨#[],by rw[upd_ne (ne_of_none q hn),q];simp⟩
theorem Un.write (mu:Mut (H x))(he:e=x\/H e=some (.own x))(k:∀b u,b≠e->h.get? b=some u->h'.get? b=some u)(heo:∃u,h'.get? e=some u):Un fs ex H (upd H x o) h h':=by
 have hx:∀b,H b=none->b≠x:=fun b n z=>by subst z;rw[n] at mu;exact mu
 have hb:∀b,H b=none->b≠e:=fun b n z=>by
  subst z
  rcases he with r | r
  . exact hx b n r
  . rw[n] at r;cases r
 have hm:∀b u,H b=some u->¬ Mut (some u)->b≠x:=fun b u q nm z=>by subst z;rw[q] at mu;exact nm mu
 refine⟨fun b u q n _ _=>k b u (hb b n) q,fun b u q n _ _=>⟨u.slots,k b u (hb b n) q⟩,fun b u q n _=>by rw[upd_ne (hx b n)];exact n,fun b u q _=>?_,
  fun b xs q=>by rw[upd_ne (hm b _ q fun z=>z)];exact q,fun b u xs q=>by rw[upd_ne (hm b _ q fun z=>z)];exact q,fun b ps q=>⟨#[],by rw[upd_ne (hm b _ q fun z=>z),q];simp⟩⟩
 by_cases hbe:b=e
 . subst hbe;exact heo
 . exact⟨u,k b u hbe q⟩
end
def trk (h:Heap)(H:Hp):List Addr:=(List.range h.objs.size).filter fun a=>(H a).isSome
def hidT (h:Heap)(H:Hp):Heap:=PySem.W.hideAll h (trk h H)
theorem hidT_size (h:Heap)(H:Hp):(hidT h H).objs.size=h.objs.size:=PySem.W.hideAll_size _ _
theorem hidT_get {h:Heap}{H:Hp}{b:Addr}{o:Obj}(e:h.get? b=some o)(n:H b=none):(hidT h H).get? b=some o:=
 PySem.W.hideAll_get _ e fun hm=>by
  have q:(H b).isSome=true:=(List.mem_filter.mp hm).2
  rw[n] at q;simp at q
theorem of_hidT {h:Heap}{H:Hp}{b:Addr}{o:Obj}(e:(hidT h H).get? b=some o):h.get? b=some o/\H b=none:=by
 have e':h.get? b=some o:=PySem.W.of_hideAll (trk h H) e
 refine⟨e',?_⟩
 cases q:H b with
 | none=>rfl
 | some x=>
  have hm:b∈trk h H:=List.mem_filter.mpr ⟨List.mem_range.mpr (Heap.lt_size e'),by simp[q]⟩
  have z:(hidT h H).get? b=none:=PySem.W.hideAll_none (trk h H) hm
  rw[z] at e;cases e
end L2
namespace L2
open PySem PySem.Spec PyProof.Rows
structure Mod (K:PySem.W.Frag)(mg:Str->Option Value)(base:Heap):Prop where
 kin:K.In base
 glob:base.Ns mainGlobals mg
 blt:∃mb,base.Ns builtinsNs mb/\∀x:Str,x ≠ "__name__" -> mb x=bootBuiltins x
 nolimit:base.NoLimit
structure Cx where
 prog:Program
 w:World
 K:PySem.W.Frag
 mg:Str->Option Value
 base:Heap
 A:Around
 N:List Str
 s₀:Shared
 H₀:Hp
 env:Env
 outer:List Env
 stack:List Env
 ex:List Addr
 fn:Str->Bool
 calm:Bool
 pn:List (Addr×Obj)
 xe:Value->Shared->Prop
def frs (l:List Env):List Addr:=l.filterMap (·.frame)
abbrev Cx.fs (X:Cx):List Addr:=frs X.outer
def Vis (sc:Scope)(x:Str):Prop:=sc.names.lookup x=some .local\/sc.names.lookup x=some .cell\/sc.names.lookup x=some .free
def Loc (sc:Scope)(x:Str):Prop:=sc.names.lookup x=some .local\/sc.names.lookup x=some .cell
def Look (env:Env)(h:Heap)(m:Str->Option Value)(x:Str)(u:Value):Prop:=
 (env.kindOf x=some .local/\m x=some u)\/((env.kindOf x=some .cell\/env.kindOf x=some .free)/\∃c,env.cells.lookup x=some c/\h.IsCell c (some u))
structure Cx.Ok (X:Cx):Prop where
 mod:Mod X.K X.mg X.base
 kind:X.env.scope.kind = .function
 glob:X.env.globals=mainGlobals
 blt:X.env.builtins=builtinsNs
 above:X.s₀.heap.objs.size<=X.env.locals
 inj:∀x y c,X.env.cells.lookup x=some c->X.env.cells.lookup y=some c->x=y
 has:∀x,(X.env.kindOf x=some .cell\/X.env.kindOf x=some .free)->∃c,X.env.cells.lookup x=some c
 cab:∀x c,X.fn x=true->X.env.cells.lookup x=some c->X.s₀.heap.objs.size<=c
 hd:X.calm=true->X.A.handled=none
 frames:X.A.frames=some X.stack
 stk:X.stack=X.outer\/(X.stack=X.env::X.outer/\X.env.frame=some X.env.locals)
 exf:∀b∈X.ex,b≠X.env.locals/\∀x c,X.env.cells.lookup x=some c->c≠b
 bs:∀b o,X.base.get? b=some o->X.s₀.heap.get? b=some o/\X.H₀ b=none
 bsz:X.base.objs.size<=X.s₀.heap.objs.size
 noex:∀b o,X.base.get? b=some o->b∉X.ex
 exfs:∀b∈X.ex,b∉X.fs
 funs:X.s₀.heap.FunFrames X.base X.outer
 frf:∀b∈X.fs,X.H₀ b=none
structure Inv (X:Cx)(pins:List (Addr×Obj))(σ:List (Option V))(H:Hp)(s:Shared):Prop where
 ok:X.Ok
 os:s.os=X.s₀.os
 bare:AllBare s.gens
 base:Un X.fs X.ex X.H₀ H X.s₀.heap s.heap
 loc:∃m,s.heap.Ns X.env.locals m/\∀(i:Nat)(x:Str)(v:V),X.N[i]? = some x->σ[i]? = some (some v)->Vis X.env.scope x->∃u,RelV v u/\Look X.env s.heap m x u
 cell:∀x c,X.env.cells.lookup x=some c->∃v,s.heap.IsCell c v
 free:H X.env.locals=none
 freeC:∀x c,X.env.cells.lookup x=some c->H c=none
 pin:∀p∈X.pn++pins,s.heap.get? p.1=some p.2/\H p.1=none/\p.1≠X.env.locals/\p.1∉X.fs/\∀v,p.2.data ≠ .cell v
 hok:HOk X.prog X.w H s.heap
 len:σ.length=X.N.length
section
variable {X:Cx}{pins:List (Addr×Obj)}{σ:List (Option V)}{H H':Hp}{s:Shared}{h':Heap}
theorem Cx.Ok.nofr (ok:X.Ok){b:Addr}{o:Obj}(e:X.base.get? b=some o):b∉X.fs:=fun hb=>by
 have:=(ok.funs.mem hb).1
 rw[e] at this;cases this
theorem Inv.bs (I:Inv X pins σ H s):∀b o,X.base.get? b=some o->s.heap.get? b=some o/\H b=none:=fun b o e=>
 ⟨I.base.keep b o (I.ok.bs b o e).1 (I.ok.bs b o e).2 (I.ok.nofr e) (I.ok.noex b o e),I.base.free b o (I.ok.bs b o e).1 (I.ok.bs b o e).2 (I.ok.noex b o e)⟩
theorem Inv.bk (I:Inv X pins σ H s):∀b o,X.base.get? b=some o->s.heap.get? b=some o:=fun b o e=>(I.bs b o e).1
theorem Inv.mod (I:Inv X pins σ H s):Mod X.K X.mg X.base:=I.ok.mod
theorem Inv.kIn (I:Inv X pins σ H s):X.K.In s.heap:=I.ok.mod.kin.keeps I.bk
theorem Inv.lt (I:Inv X pins σ H s):X.env.locals<s.heap.objs.size:=let ⟨_,hn,_⟩:=I.loc;hn.lt
theorem Inv.sz (I:Inv X pins σ H s):X.s₀.heap.objs.size<=s.heap.objs.size:=Nat.le_trans I.ok.above (Nat.le_of_lt I.lt)
theorem Inv.nofs (I:Inv X pins σ H s){a:Addr}(h:s.heap.objs.size<=a):a∉X.fs:=fun hb=>by
 obtain⟨_,o,ho,_⟩:=I.ok.funs.mem hb
 exact absurd (Nat.lt_of_lt_of_le (Heap.lt_size ho) (Nat.le_trans I.sz h)) (Nat.lt_irrefl _)
theorem Inv.cne (I:Inv X pins σ H s):∀x c,X.env.cells.lookup x=some c->c≠X.env.locals:=fun x c e z=>by
 obtain⟨v,o,ho,hd⟩:=I.cell x c e
 obtain⟨m,⟨o',es,ep,ho',hd',_⟩,_⟩:=I.loc
 rw[z,ho'] at ho;cases ho;rw[hd'] at hd;cases hd
theorem Inv.funs (I:Inv X pins σ H s):s.heap.FunFrames X.base X.outer:=by
 have all:∀(l:List Env),(∀b∈frs l,b∈X.fs)->X.s₀.heap.FunFrames X.base l->s.heap.FunFrames X.base l:=by
  intro l
  induction l with
  | nil=>intro _ _;trivial
  | cons env r ih=>
   intro hs hl
   obtain⟨hk,⟨L,o,hf,hn,ho,hd⟩,hr⟩:=hl
   have hL:L∈X.fs:=hs L (by unfold frs;rw[List.filterMap_cons,hf];exact List.mem_cons_self)
   obtain⟨sl,e⟩:=I.base.slot L o ho (I.ok.frf L hL) hL fun z=>I.ok.exfs L z hL
   exact⟨hk,⟨L,_,hf,hn,e,hd⟩,ih (fun b hb=>hs b (by unfold frs;rw[List.filterMap_cons,hf];exact List.mem_cons_of_mem _ hb)) hr⟩
 exact all X.outer (fun _ hb=>hb) I.ok.funs
theorem Inv.stack (I:Inv X pins σ H s):s.heap.FunFrames X.base X.stack:=by
 rcases I.ok.stk with e | ⟨e,hf⟩
 . rw[e];exact I.funs
 . rw[e]
   obtain⟨m,hn,_⟩:=I.loc
   refine .cons (by rw[I.ok.kind];decide) hf hn ?_ I.funs
   exact Heap.get?_none_of_le (Nat.le_trans I.ok.bsz I.ok.above)
theorem Inv.stkSub (I:Inv X pins σ H s):∀b∈frs X.stack,b∈X.env.locals::X.fs:=fun b hb=>by
 rcases I.ok.stk with e | ⟨e,hf⟩
 . rw[e] at hb;exact List.mem_cons_of_mem _ hb
 . rw[e] at hb
   unfold frs at hb
   rw[List.filterMap_cons,hf] at hb
   exact hb
theorem Inv.stkFree (I:Inv X pins σ H s):∀b∈frs X.stack,H b=none:=fun b hb=>by
 rcases List.mem_cons.mp (I.stkSub b hb) with e | hb
 . rw[e];exact I.free
 . obtain⟨_,o,ho,_⟩:=I.ok.funs.mem hb
   exact I.base.free b o ho (I.ok.frf b hb) fun z=>I.ok.exfs b z hb
theorem Inv.step {g':Array GenState}{t':Nat}{d':Drawn}{ch:List Addr}(I:Inv X pins σ H s)
 (hch:∀b∈ch,(b∈X.ex\/X.s₀.heap.objs.size<=b)/\b≠X.env.locals/\(∀x c,X.env.cells.lookup x=some c->c≠b)/\∀p∈X.pn++pins,p.1≠b)
 (keep:∀b o,b≠X.env.locals->b∉X.fs->b∉ch->s.heap.get? b=some o->H b=none->h'.get? b=some o)
 (slot:∀b o,b≠X.env.locals->b∈X.fs->b∉ch->s.heap.get? b=some o->H b=none->∃sl,h'.get? b=some { o with slots:=sl })(free:∀b o,b∉ch->s.heap.get? b=some o->H b=none->H' b=none)
 (there:∀b o,b∉ch->s.heap.get? b=some o->∃o',h'.get? b=some o')
 (tups:∀b xs,H b=some (.tup xs)->H' b=some (.tup xs))(frzs:∀b o u,H b=some (.frz o u)->H' b=some (.frz o u))(tbls:∀b ps,H b=some (.tbl ps)->∃more,H' b=some (.tbl (ps++more)))
 (ns:∀m,s.heap.Ns X.env.locals m->h'.Ns X.env.locals m)(hok:HOk X.prog X.w H' h')(hg:AllBare g') :
 Inv X pins σ H' { s with heap:=h',gens:=g',drawn:=d',toks:=t' }:=by
 have neL:∀b o,X.s₀.heap.get? b=some o->b≠X.env.locals:=fun b o e=>Nat.ne_of_lt (Nat.lt_of_lt_of_le (Heap.lt_size e) I.ok.above)
 have neC:∀b o,X.s₀.heap.get? b=some o->b∉X.ex->b∉ch:=fun b o e hx hb=>by
  rcases (hch b hb).1 with z | z
  . exact hx z
  . exact absurd (Nat.lt_of_lt_of_le (Heap.lt_size e) z) (Nat.lt_irrefl _)
 have cellK:∀x c,X.env.cells.lookup x=some c->∀v,s.heap.IsCell c v->h'.IsCell c v:=fun x c e v ⟨o,ho,hd⟩=>by
  have nch:c∉ch:=fun z=>(hch c z).2.2.1 x c e rfl
  by_cases hc:c∈X.fs
  . obtain⟨sl,q⟩:=slot c o (I.cne x c e) hc nch ho (I.freeC x c e)
    exact⟨_,q,hd⟩
  . exact⟨o,keep c o (I.cne x c e) hc nch ho (I.freeC x c e),hd⟩
 refine⟨I.ok,I.os,hg,⟨fun b o e n hb hx=>?_,fun b o e n hb hx=>?_,fun b o e n hx=>?_,fun b o e hx=>?_,fun b xs e=>tups b xs (I.base.tups b xs e),fun b o xs e=>frzs b o xs (I.base.frzs b o xs e),fun b ps e=>?_⟩,?_,fun x c e=>?_,?_,fun x c e=>?_,fun p hp=>?_,hok,I.len⟩
 . exact keep b o (neL b o e) hb (neC b o e hx) (I.base.keep b o e n hb hx) (I.base.free b o e n hx)
 . obtain⟨sl,e1⟩:=I.base.slot b o e n hb hx
   obtain⟨sl',e2⟩:=slot b _ (neL b o e) hb (neC b o e hx) e1 (I.base.free b o e n hx)
   exact⟨sl',e2⟩
 . obtain⟨o',e1⟩:=I.base.there b o e hx
   exact free b o' (neC b o e hx) e1 (I.base.free b o e n hx)
 . obtain⟨o',e1⟩:=I.base.there b o e hx
   exact there b o' (neC b o e hx) e1
 . obtain⟨m1,e1⟩:=I.base.tbls b ps e
   obtain⟨m2,e2⟩:=tbls b _ e1
   exact⟨m1++m2,by rw[e2,Array.append_assoc]⟩
 . obtain⟨m,hn,hl⟩:=I.loc
   refine⟨m,ns m hn,fun i x v e1 e2 e3=>?_⟩
   obtain⟨u,r,l⟩:=hl i x v e1 e2 e3
   refine⟨u,r,?_⟩
   rcases l with l | ⟨k,c,e,z⟩
   . exact .inl l
   . exact .inr ⟨k,c,e,cellK x c e _ z⟩
 . obtain⟨v,z⟩:=I.cell x c e
   exact⟨v,cellK x c e v z⟩
 . obtain⟨m,⟨o,_,_,ho,_⟩,_⟩:=I.loc
   exact free _ o (fun z=>(hch _ z).2.1 rfl) ho I.free
 . obtain⟨v,o,ho,hd⟩:=I.cell x c e
   exact free c o (fun z=>(hch c z).2.2.1 x c e rfl) ho (I.freeC x c e)
 . obtain⟨e,n,ne,nf,d⟩:=I.pin p hp
   have nch:p.1∉ch:=fun z=>(hch p.1 z).2.2.2 p hp rfl
   exact⟨keep p.1 p.2 ne nf nch e n,free p.1 p.2 nch e n,ne,nf,d⟩
theorem Inv.un {t':Nat}(I:Inv X pins σ H s)(u:Un X.fs [] H H' s.heap h')(hok:HOk X.prog X.w H' h'):Inv X pins σ H' { s with heap:=h',toks:=t' }:=by
 obtain⟨m,⟨o,es,ep,ho,r⟩,_⟩:=id I.loc
 obtain⟨sl,hL⟩:=u.any ho I.free (by simp)
 exact I.step (g':=s.gens) (d':=s.drawn) (ch:=[]) (fun _ z=>nomatch z) (fun b o _ hb _ e n=>u.keep b o e n hb (by simp)) (fun b o _ hb _ e n=>u.slot b o e n hb (by simp)) (fun b o _ e n=>u.free b o e n (by simp)) (fun b o _ e=>u.there b o e (by simp)) u.tups u.frzs u.tbls (fun m' hm=>by
  obtain⟨o',es',ep',ho',r'⟩:=hm
  rw[ho] at ho';cases ho'
  exact⟨_,es',ep',hL,r'⟩) hok I.bare
theorem Inv.call {g':Array GenState}{t':Nat}{d':Drawn}{ch:List Addr}(I:Inv X pins σ H s)(u:Un (frs X.stack) ch H H' s.heap h')(hok:HOk X.prog X.w H' h')(hg:AllBare g')
 (hch:∀b∈ch,(b∈X.ex\/X.s₀.heap.objs.size<=b)/\b≠X.env.locals/\(∀x c,X.env.cells.lookup x=some c->c≠b)/\∀p∈X.pn++pins,p.1≠b) :
 Inv X pins σ H' { s with heap:=h',gens:=g',drawn:=d',toks:=t' }:=by
 obtain⟨m,⟨o,es,ep,ho,r⟩,_⟩:=id I.loc
 obtain⟨sl,hL⟩:=u.any ho I.free fun z=>(hch _ z).2.1 rfl
 exact I.step (ch:=ch) hch (fun b o hL hb hc e n=>u.keep b o e n (fun z=>(List.mem_cons.mp (I.stkSub b z)).elim hL hb) hc) (fun b o _ _ hc e n=>u.any e n hc) (fun b o hc e n=>u.free b o e n hc) (fun b o hc e=>u.there b o e hc) u.tups u.frzs u.tbls (fun m' hm=>by
  obtain⟨o',es',ep',ho',r'⟩:=hm
  rw[ho] at ho';cases ho'
  exact⟨_,es',ep',hL,r'⟩) hok hg
theorem Inv.turned {t':Nat}{it:Addr}(I:Inv X pins σ H s)(k:∀b o,b≠it->s.heap.get? b=some o->h'.get? b=some o)(hn:H it=none)(hL:it≠X.env.locals)
 (h1:it∈X.ex\/X.s₀.heap.objs.size<=it)(h2:∀x c,X.env.cells.lookup x=some c->c≠it)(h3:∀p∈X.pn++pins,p.1≠it):Inv X pins σ H { s with heap:=h',toks:=t' }:=by
 have nit:∀b u,H b=some u->b≠it:=fun b u e z=>by rw[z,hn] at e;cases e
 refine I.step (g':=s.gens) (d':=s.drawn) (ch:=[it]) (fun b hb=>?_) (fun b o _ _ hc e _=>k b o (fun z=>hc (by simp[z])) e) (fun b o _ _ hc e _=>⟨o.slots,k b o (fun z=>hc (by simp[z])) e⟩) (fun _ _ _ _ n=>n)
  (fun b o hc e=>⟨o,k b o (fun z=>hc (by simp[z])) e⟩) (fun _ _ e=>e) (fun _ _ _ e=>e) (fun b ps e=>⟨#[],by rw[e];simp⟩) (fun m hm=>?_) (fun b u e=>?_) I.bare
 . have e:b=it:=by simpa using hb
   subst e
   exact⟨h1,hL,h2,h3⟩
 . obtain⟨o,es,ep,ho,r⟩:=hm
   exact⟨o,es,ep,k _ o (Ne.symm hL) ho,r⟩
 . refine (I.hok b u e).stay (fun c v hc q=>k c v ?_ q) (fun _ q=>q) fun _ _ q=>q
   rcases hc with z | z
   . rw[z];exact nit b u e
   . exact nit c _ z
theorem Inv.tok (I:Inv X pins σ H s)(t:Nat):Inv X pins σ H { s with toks:=t }:=I.un (h':=s.heap) (t':=t) Un.refl I.hok
theorem Inv.kept {t':Nat}(I:Inv X pins σ H s)(k:∀b u,s.heap.get? b=some u->h'.get? b=some u):Inv X pins σ H { s with heap:=h',toks:=t' }:=I.un (Un.kept k) (I.hok.kept k)
theorem Inv.laid {a:Addr}{o:HO}{t':Nat}(I:Inv X pins σ H s)(k:∀b u,s.heap.get? b=some u->h'.get? b=some u)(hp:s.heap.objs.size<=a)(new:ObjOk X.prog X.w (upd H a o) h' a o) :
 Inv X pins σ (upd H a o) { s with heap:=h',toks:=t' }:=I.un (Un.laid k hp (I.hok.fresh hp)) (I.hok.laid k hp new)
theorem Inv.write {x e:Addr}{o:HO}{t':Nat}(I:Inv X pins σ H s)(mu:Mut (H x))(he:e=x\/H e=some (.own x))(k:∀b u,b≠e->s.heap.get? b=some u->h'.get? b=some u)(heo:∃u,h'.get? e=some u)
 (new:ObjOk X.prog X.w (upd H x o) h' x o):Inv X pins σ (upd H x o) { s with heap:=h',toks:=t' }:=I.un (Un.write mu he k heo) (I.hok.write mu he k heo new)
theorem Inv.weak {σ':List (Option V)}(I:Inv X pins σ H s)(hl:σ'.length=σ.length)(w:∀(i:Nat) v,σ'[i]? = some (some v)->σ[i]? = some (some v)):Inv X pins σ' H s:=
 ⟨I.ok,I.os,I.bare,I.base,let ⟨m,hn,hl'⟩:=I.loc;⟨m,hn,fun i x v e1 e2 e3=>hl' i x v e1 (w i v e2) e3⟩,I.cell,I.free,I.freeC,I.pin,I.hok,hl.trans I.len⟩
theorem Inv.pins_of {pins':List (Addr×Obj)}(I:Inv X pins σ H s)(h:∀p∈pins',s.heap.get? p.1=some p.2/\H p.1=none/\p.1≠X.env.locals/\p.1∉X.fs/\∀v,p.2.data ≠ .cell v):Inv X pins' σ H s:=
 ⟨I.ok,I.os,I.bare,I.base,I.loc,I.cell,I.free,I.freeC,fun p hp=>(List.mem_append.mp hp).elim (fun z=>I.pin p (List.mem_append_left _ z)) (h p),I.hok,I.len⟩
theorem nodup_ix {N:List Str}(hN:N.Nodup){i j:Nat}{x:Str}(a:N[i]? = some x)(b:N[j]? = some x):i=j:=by
 obtain⟨h1,e1⟩:=List.getElem?_eq_some_iff.mp a
 obtain⟨h2,e2⟩:=List.getElem?_eq_some_iff.mp b
 exact (List.getElem_inj hN).mp (e1.trans e2.symm)
theorem store_ok2 {M:Model}{A:Around}{E:Value->Shared->Prop}{i:Nat}{x:Str}{v:V}{u:Value}{Q:Unit->Shared->Prop}(I:Inv X pins σ H s)(hN:X.N.Nodup)(hi:X.N[i]? = some x)(hx:Loc X.env.scope x)(r:RelV v u)
 (h:∀s',Inv X pins (σ.set i (some v)) H s'->(∃a,Heap.SameBut a s.heap s'.heap/\(a=X.env.locals\/X.env.cells.lookup x=some a))->Q () s')(hf:X.fn x=true\/X.env.scope.names.lookup x=some .local:=by first | exact .inl rfl | exact .inr rfl | assumption):wpAny M A (storeName X.env x u) Q E s:=by
 obtain⟨m,hn,hl⟩:=id I.loc
 have hcls:(X.env.scope.kind == .class || (X.env.scope.kind == .module && X.env.locals != X.env.globals))=false:=by rw[I.ok.kind];rfl
 have hiσ:i<σ.length:=by rw[I.len];exact (List.getElem?_eq_some_iff.mp hi).1
 have cne:=I.cne
 have tracked:∀{a:Addr}{h':Heap},(∃o,s.heap.get? a=some o/\H a=none)->Heap.SameBut a s.heap h'->HOk X.prog X.w H h':=fun {a h'} ha hs b ob e=>by
  obtain⟨_,_,hfree⟩:=ha
  refine (I.hok b ob e).stay (fun c w' hc q=>(hs.2 c ?_).trans q) (fun _ q=>q) fun _ _ q=>q
  rintro rfl
  rcases hc with rfl | hc
  . rw[hfree] at e;cases e
  . rw[hfree] at hc;cases hc
 rcases hx with hk | hk
 . refine wpAny_storeName_local hk hn (fun h' hn' hs=>?_) hcls
   obtain⟨oL,_,_,hoL,_⟩:=id hn
   refine h _ ⟨I.ok,I.os,I.bare,⟨fun b o e n hb hx=>?_,fun b o e n hb hx=>?_,I.base.free,fun b o e hx=>?_,I.base.tups,I.base.frzs,I.base.tbls⟩,⟨_,hn',fun j y v' e1 e2 e3=>?_⟩,fun y c e=>?_,I.free,I.freeC,fun p hp=>?_,tracked ⟨oL,hoL,I.free⟩ hs,by simpa using I.len⟩ ⟨_,hs,.inl rfl⟩
   . exact (hs.2 b (Nat.ne_of_lt (Nat.lt_of_lt_of_le (Heap.lt_size e) I.ok.above))).trans (I.base.keep b o e n hb hx)
   . obtain⟨sl,e1⟩:=I.base.slot b o e n hb hx
     exact⟨sl,(hs.2 b (Nat.ne_of_lt (Nat.lt_of_lt_of_le (Heap.lt_size e) I.ok.above))).trans e1⟩
   . obtain⟨o',e1⟩:=I.base.there b o e hx
     exact⟨o',(hs.2 b (Nat.ne_of_lt (Nat.lt_of_lt_of_le (Heap.lt_size e) I.ok.above))).trans e1⟩
   . by_cases hj:j=i
     . subst hj
       rw[hi] at e1;cases e1
       rw[List.getElem?_set_self hiσ] at e2
       cases e2
       exact⟨u,r,.inl ⟨hk,by simp⟩⟩
     . rw[List.getElem?_set_ne (Ne.symm hj)] at e2
       obtain⟨u',r',q⟩:=hl j y v' e1 e2 e3
       refine⟨u',r',?_⟩
       rcases q with ⟨k,e⟩ | ⟨k,c,e,z⟩
       . refine .inl ⟨k,?_⟩
         have:y≠x:=fun e=>hj (nodup_ix hN e1 (e ▸ hi))
         simp[this,e]
       . exact .inr ⟨k,c,e,z.sameBut hs (cne y c e)⟩
   . obtain⟨w',z⟩:=I.cell y c e
     exact⟨w',z.sameBut hs (cne y c e)⟩
   . obtain⟨e,n,ne,nf,d⟩:=I.pin p hp
     exact⟨(hs.2 p.1 ne).trans e,n,ne,nf,d⟩
 . have hfn:X.fn x=true:=by
    rcases hf with z | z
    . exact z
    . rw[z] at hk;cases hk
   obtain⟨c,hc⟩:=I.ok.has x (.inl hk)
   obtain⟨w',z⟩:=I.cell x c hc
   refine wpAny_storeName_cell I.ok.kind hk hc z (fun h' hc' hs=>?_)
   obtain⟨oc,hoc,hocd⟩:=id z
   refine h { s with heap:=h' } ⟨I.ok,I.os,I.bare,⟨fun b o e n hb hx=>?_,fun b o e n hb hx=>?_,I.base.free,fun b o e hx=>?_,I.base.tups,I.base.frzs,I.base.tbls⟩,⟨m,hn.sameBut hs (Ne.symm (cne x c hc)),fun j y v' e1 e2 e3=>?_⟩,fun y c' e=>?_,I.free,I.freeC,fun p hp=>?_,tracked ⟨oc,hoc,I.freeC x c hc⟩ hs,by simpa using I.len⟩ ⟨c,hs,.inr hc⟩
   . exact (hs.2 b (Nat.ne_of_lt (Nat.lt_of_lt_of_le (Heap.lt_size e) (I.ok.cab x c hfn hc)))).trans (I.base.keep b o e n hb hx)
   . obtain⟨sl,e1⟩:=I.base.slot b o e n hb hx
     exact⟨sl,(hs.2 b (Nat.ne_of_lt (Nat.lt_of_lt_of_le (Heap.lt_size e) (I.ok.cab x c hfn hc)))).trans e1⟩
   . obtain⟨o',e1⟩:=I.base.there b o e hx
     exact⟨o',(hs.2 b (Nat.ne_of_lt (Nat.lt_of_lt_of_le (Heap.lt_size e) (I.ok.cab x c hfn hc)))).trans e1⟩
   . by_cases hj:j=i
     . subst hj
       rw[hi] at e1;cases e1
       rw[List.getElem?_set_self hiσ] at e2
       cases e2
       exact⟨u,r,.inr ⟨.inl hk,c,hc,hc'⟩⟩
     . rw[List.getElem?_set_ne (Ne.symm hj)] at e2
       obtain⟨u',r',q⟩:=hl j y v' e1 e2 e3
       refine⟨u',r',?_⟩
       rcases q with q | ⟨k,c',e,z'⟩
       . exact .inl q
       . refine .inr ⟨k,c',e,z'.sameBut hs ?_⟩
         rintro rfl
         exact hj (nodup_ix hN e1 (I.ok.inj _ _ _ e hc ▸ hi))
   . by_cases hcc:c'=c
     . subst hcc;exact⟨_,hc'⟩
     . obtain⟨w2,z2⟩:=I.cell y c' e
       exact⟨w2,z2.sameBut hs hcc⟩
   . obtain⟨e,n,ne,nf,d⟩:=I.pin p hp
     refine⟨(hs.2 p.1 ?_).trans e,n,ne,nf,d⟩
     intro q
     rw[q,hoc] at e
     have q':oc=p.2:=Option.some.inj e
     exact d w' (by rw[<-q'];exact hocd)
theorem store_ok {M:Model}{A:Around}{E:Value->Shared->Prop}{i:Nat}{x:Str}{v:V}{u:Value}{Q:Unit->Shared->Prop}(I:Inv X pins σ H s)(hN:X.N.Nodup)(hi:X.N[i]? = some x)(hx:Loc X.env.scope x)(r:RelV v u)
 (h:∀s',Inv X pins (σ.set i (some v)) H s'->Q () s')(hf:X.fn x=true\/X.env.scope.names.lookup x=some .local:=by first | exact .inl rfl | exact .inr rfl | assumption):wpAny M A (storeName X.env x u) Q E s:=
 store_ok2 I hN hi hx r (fun s' I' _=>h s' I') hf
theorem Inv.call' {s':Shared}{ch:List Addr}(I:Inv X pins σ H s)(ho:s'.os=s.os)(u:Un (frs X.stack) ch H H' s.heap s'.heap)(hok:HOk X.prog X.w H' s'.heap)(hg:AllBare s'.gens)
 (hch:∀b∈ch,(b∈X.ex\/X.s₀.heap.objs.size<=b)/\b≠X.env.locals/\(∀x c,X.env.cells.lookup x=some c->c≠b)/\∀p∈X.pn++pins,p.1≠b):Inv X pins σ H' s':=by
 obtain⟨h',g',d',t',o'⟩:=s'
 have e:o'=s.os:=ho
 subst e
 exact I.call (g':=g') (t':=t') (d':=d') u hok hg hch
end
abbrev XK:=Value->Option Addr->Hp->Prop
abbrev St:=List (Option V)
abbrev VK:=V->Hp->Prop
abbrev TE:=St->Hp->VK->Prop
abbrev TT:=St->Hp->(Bool->Hp->Prop)->Prop
abbrev TA:=St->Hp->(List V->Hp->Prop)->Prop
structure Ends where
 nx:St->Hp->Prop
 rt:VK
 bk:St->Hp->Prop:=fun _ _=>False
 ct:St->Hp->Prop:=fun _ _=>False
abbrev TS:=Ends->St->Hp->Prop
def EP (X:Cx)(pins:List (Addr×Obj))(σ:St)(Q:VK)(u:Value)(s':Shared):Prop:=∃v H',Inv X pins σ H' s'/\RelV v u/\Q v H'
def TP (X:Cx)(pins:List (Addr×Obj))(σ:St)(Q:Bool->Hp->Prop)(b:Bool)(s':Shared):Prop:=∃H',Inv X pins σ H' s'/\Q b H'
def AP (X:Cx)(pins:List (Addr×Obj))(σ:St)(Q:List V->Hp->Prop)(us:List Value)(s':Shared):Prop:=∃vs H',Inv X pins σ H' s'/\Vals vs us/\Q vs H'
def SP (X:Cx)(pins:List (Addr×Obj))(D:Ends)(f:Flow)(s':Shared):Prop:=
 match f with
 | .next=>∃ σ' H',Inv X pins σ' H' s'/\D.nx σ' H'
 | .brk=>∃ σ' H',Inv X pins σ' H' s'/\D.bk σ' H'
 | .cont=>∃ σ' H',Inv X pins σ' H' s'/\D.ct σ' H'
 | .ret u=>∃v σ' H',Inv X pins σ' H' s'/\RelV v u/\D.rt v H'
def PE (X:Cx)(e:Expr)(t:TE):Prop:=
 ∀(pins:List (Addr×Obj))(s:Shared)(σ:St)(H:Hp)(Q:VK),Inv X pins σ H s->t σ H Q->wpAny (model X.prog X.w) X.A (eval e X.env) (EP X pins σ Q) X.xe s
def PT (X:Cx)(e:Expr)(t:TT):Prop:=
 ∀(pins:List (Addr×Obj))(s:Shared)(σ:St)(H:Hp)(Q:Bool->Hp->Prop),Inv X pins σ H s->t σ H Q->wpAny (model X.prog X.w) X.A (isTrue e X.env (eval e X.env)) (TP X pins σ Q) X.xe s
def PW (X:Cx)(e:Expr)(t:TT):Prop:=
 ∀(whole:Sem Value)(pins:List (Addr×Obj))(s:Shared)(σ:St)(H:Hp)(Q:Bool->Hp->Prop),Inv X pins σ H s->t σ H Q->wpAny (model X.prog X.w) X.A (isTrue e X.env whole) (TP X pins σ Q) X.xe s
theorem PW.pt {X:Cx}{e:Expr}{t:TT}(h:PW X e t):PT X e t:=h _
def PA (X:Cx)(es:List Expr)(t:TA):Prop:=
 ∀(pos:Pos)(pins:List (Addr×Obj))(s:Shared)(σ:St)(H:Hp)(Q:List V->Hp->Prop),Inv X pins σ H s->t σ H Q->wpAny (model X.prog X.w) X.A (spliced (backTo pos (starEach es X.env))) (AP X pins σ Q) X.xe s
def PS (X:Cx)(st:Stmt)(t:TS):Prop:=
 ∀(pins:List (Addr×Obj))(s:Shared)(σ:St)(H:Hp)(D:Ends),Inv X pins σ H s->t D σ H->wpAny (model X.prog X.w) X.A (exec st X.env) (SP X pins D) X.xe s
def PSs (X:Cx)(st:List Stmt)(t:TS):Prop:=
 ∀(pins:List (Addr×Obj))(s:Shared)(σ:St)(H:Hp)(D:Ends),Inv X pins σ H s->t D σ H->wpAny (model X.prog X.w) X.A (execs st X.env) (SP X pins D) X.xe s
theorem thn {α:Type}{t:Sem α}{Q Q':α->Shared->Prop}{M:Model}{A:Around}{E:Value->Shared->Prop}{s:Shared}(h:wpAny M A t Q E s)(hQ:∀a s,Q a s->Q' a s):wpAny M A t Q' E s:=wpAny_mono h hQ fun _ _ x=>x
end L2
namespace L2
open PySem PySem.Spec PyProof.Rows
section
variable {X:Cx}
def tVar (i:Nat):TE:=fun σ H Q=>∃v,σ[i]? = some (some v)/\Q v H
def tC (v:V):TE:=fun _ H Q=>Q v H
theorem pe_var {i:Nat}{x:Str}{pos:Pos}(hN:X.N[i]? = some x)(hv:Vis X.env.scope x)(hd:(x==("__debug__" : Str))=false:=by decide) (hcd:(x==("__classdict__" : Str))=false:=by decide):PE X (.Name x pos) (tVar i):=by
 intro pins s σ H Q I h
 obtain⟨v,e,h⟩:=h
 obtain⟨m,hn,hl⟩:=I.loc
 obtain⟨u,r,l⟩:=hl i x v hN e hv
 have fin:EP X pins σ Q u s:=⟨v,H,I,r,h⟩
 rcases l with ⟨hk,hm⟩ | ⟨hk,c,hc,hcell⟩
 . exact wpAny_Name (wpAny_loadName_local I.ok.kind hk hn hm fin) hd
 . rcases hk with hk | hk
   . exact wpAny_Name (wpAny_loadName_cell I.ok.kind hk hc hcell fin) hd
   . exact wpAny_Name (wpAny_loadName_free I.ok.kind hk hc hcell fin hcd) hd
theorem pe_int {i j pos}:PE X (.Constant (.int i) j pos) (tC (.int i)):=fun _ _ _ H _ I h=>wpAny_Constant_int ⟨.int i,H,I.tok _,⟨_,rfl⟩,h⟩
theorem pe_bl {b j pos}:PE X (.Constant (.bool b) j pos) (tC (.bl b)):=fun _ _ _ H _ I h=>Constant_bool ⟨.bl b,H,I,rfl,h⟩
theorem pe_non {j pos}:PE X (.Constant .none j pos) (tC .non):=fun _ _ _ H _ I h=>Constant_none ⟨.non,H,I,rfl,h⟩
theorem pe_str {x j pos}:PE X (.Constant (.str x) j pos) (tC (.str x)):=fun _ _ _ H _ I h=>Calls.Constant_str ⟨.str x,H,I.tok _,⟨_,rfl⟩,h⟩
def Gl (X:Cx)(x:Str):Prop:=X.env.kindOf x=some .globalImplicit
theorem ld_glob {E:Value->Shared->Prop}{pins:List (Addr×Obj)}{s:Shared}{σ:St}{H:Hp}{x:Str}{u:Value}{pos:Pos}{Q:Value->Shared->Prop}(I:Inv X pins σ H s)(hg:Gl X x)(hm:X.mg x=some u)(h:Q u s)
 (hd:(x==("__debug__" : Str))=false:=by decide):wpAny (model X.prog X.w) X.A (eval (.Name x pos) X.env) Q E s:=
 Calls.Name_function_global I.ok.kind hg (Calls.loadGlobal_global (by rw[I.ok.glob];exact I.mod.glob.keeps I.bk) hm h) hd
theorem ld_blt {E:Value->Shared->Prop}{pins:List (Addr×Obj)}{s:Shared}{σ:St}{H:Hp}{x:Str}{u:Value}{pos:Pos}{Q:Value->Shared->Prop}(I:Inv X pins σ H s)(hg:Gl X x)(hm:X.mg x=none)(hv:bootBuiltins x=some u)(h:Q u s)
 (hn:x ≠ "__name__" := by decide) (hd:(x==("__debug__" : Str))=false:=by decide):wpAny (model X.prog X.w) X.A (eval (.Name x pos) X.env) Q E s:=by
 obtain⟨mb,h1,h2⟩:=I.mod.blt
 exact Calls.Name_function_global I.ok.kind hg (Calls.loadGlobal_builtin (by rw[I.ok.glob];exact I.mod.glob.keeps I.bk) hm (by rw[I.ok.blt];exact h1.keeps I.bk) ((h2 x hn).trans hv) h) hd
theorem pe_glob {x:Str}{v:V}{u:Value}{pos:Pos}(hg:Gl X x)(hm:X.mg x=some u)(r:RelV v u)(hd:(x==("__debug__" : Str))=false:=by decide):PE X (.Name x pos) (tC v):=
 fun _ _ _ H _ I h=>ld_glob I hg hm ⟨v,H,I,r,h⟩ hd
variable {a b:Expr}{ta tb:TE}{pos:Pos}
def tB (t:TE):TT:=fun σ H Q=>t σ H fun x H1=>∃c,x = .bl c/\Q c H1
theorem pt_val {e:Expr}{t:TE}(h:PE X e t)(he:∀whole,isTrue e X.env whole=(do let v <-whole;standAt e.pos;holding [v] (truthy v)):=by intro _;rfl):PT X e (tB t):=by
 intro pins s σ H Q I hw
 refine isTrue_plain (thn (h pins s σ H _ I hw) fun v s1 ⟨x,H1,I1,r1,q1⟩=>?_) (he _)
 obtain⟨d,rfl,q⟩:=q1
 cases r1
 exact wpAny_truthy_bool ⟨H1,I1,q⟩
variable {tA tB':TT}{rest:List Expr}
def tAnd (t u:TT):TT:=fun σ H Q=>t σ H fun c H1=>if c=true then u σ H1 Q else Q false H1
def tOr (t u:TT):TT:=fun σ H Q=>t σ H fun c H1=>if c=true then Q true H1 else u σ H1 Q
def tNot (t:TT):TT:=fun σ H Q=>t σ H fun c H1=>Q (!c) H1
theorem pw_and1 (ha:PT X a tA):PW X (.BoolOp .And [a] pos) tA:=by
 intro wh pins s σ H Q I h
 refine isTrue_and (thn (ha pins s σ H Q I h) fun c s1 e=>?_)
 cases c with
 | true=>exact isTrue_and_nil e
 | false=>exact e
theorem pw_or1 (ha:PT X a tA):PW X (.BoolOp .Or [a] pos) tA:=by
 intro wh pins s σ H Q I h
 refine isTrue_or (thn (ha pins s σ H Q I h) fun c s1 e=>?_)
 cases c with
 | false=>exact isTrue_or_nil e
 | true=>exact e
theorem pw_and (ha:PT X a tA)(hb:PW X (.BoolOp .And (b::rest) pos) tB'):PW X (.BoolOp .And (a::b::rest) pos) (tAnd tA tB'):=by
 intro wh pins s σ H Q I h
 refine isTrue_and (thn (ha pins s σ H _ I h) fun c s1 ⟨H1,I1,q1⟩=>?_)
 cases c with
 | true=>exact hb wh pins s1 σ H1 Q I1 q1
 | false=>exact⟨H1,I1,q1⟩
theorem pw_or (ha:PT X a tA)(hb:PW X (.BoolOp .Or (b::rest) pos) tB'):PW X (.BoolOp .Or (a::b::rest) pos) (tOr tA tB'):=by
 intro wh pins s σ H Q I h
 refine isTrue_or (thn (ha pins s σ H _ I h) fun c s1 ⟨H1,I1,q1⟩=>?_)
 cases c with
 | true=>exact⟨H1,I1,q1⟩
 | false=>exact hb wh pins s1 σ H1 Q I1 q1
theorem pt_not (ha:PT X a tA):PT X (.UnaryOp .Not a pos) (tNot tA):=by
 intro pins s σ H Q I h
 exact isTrue_not (ha pins s σ H (fun c H1=>Q (!c) H1) I h)
def tAndV (ta tb:TE):TE:=fun σ H Q=>ta σ H fun x H1=>∃c,x = .bl c/\if c=true then tb σ H1 Q else Q (.bl false) H1
theorem pe_one {op} {t:TE}(h:PE X a t):PE X (.BoolOp op [a] pos) t:=fun pins s σ H Q I hw=>BoolOp_one (h pins s σ H Q I hw)
theorem pe_and (ha:PE X a ta)(hb:PE X (.BoolOp .And (b::rest) pos) tb):PE X (.BoolOp .And (a::b::rest) pos) (tAndV ta tb):=by
 intro pins s σ H Q I h
 refine BoolOp_and (thn (ha pins s σ H _ I h) fun v s1 ⟨x,H1,I1,r1,q1⟩=>?_)
 obtain⟨c,rfl,q1⟩:=q1
 cases r1
 refine wpAny_truthy_bool ?_
 cases c with
 | true=>exact hb pins s1 σ H1 Q I1 q1
 | false=>exact⟨.bl false,H1,I1,rfl,q1⟩
end
end L2
namespace L2
open PySem PySem.Spec PyProof.Rows
def SqL (K:PySem.W.Frag)(H:Hp)(a:Addr)(xs:List V):Prop:=
 Rd H a (.lst xs) \/
  ∃(o:Obj)(its:Array Value)(n:Nat),K.lookup a=some o/\o.cls = .type "list" /\ o.dict=none/\o.data = .seq its n/\its.size<=sizeLine/\Vals xs its.toList
def SqT (K:PySem.W.Frag)(H:Hp)(a:Addr)(xs:List V):Prop:=
 Rd H a (.tup xs) \/
  ∃(o:Obj)(its:Array Value)(n:Nat),K.lookup a=some o/\o.cls = .type "tuple" /\ o.data = .seq its n/\its.size<=sizeLine/\Vals xs its.toList
def absV:Value->Option V
 | .none=>some .non
 | .bool b=>some (.bl b)
 | .int i _=>some (.int i)
 | .str x _=>some (.str x)
 | .bytes b _=>some (.byt b)
 | .float b _=>some (.flt b)
 | .ref a=>some (.ref a)
 | .type n=>some (.ty n)
 | _=>none
theorem RelV.abs {x:V}{u:Value}(r:RelV x u):absV u=some x:=by
 cases x with
 | non=>cases r;rfl
 | bl _=>cases r;rfl
 | int _=>obtain⟨t,rfl⟩:=r;rfl
 | str _=>obtain⟨t,rfl⟩:=r;rfl
 | byt _=>obtain⟨t,rfl⟩:=r;rfl
 | flt _=>obtain⟨t,rfl⟩:=r;rfl
 | ref _=>cases r;rfl
 | ty _=>cases r;rfl
theorem RelV.inj {x y:V}{u:Value}(r:RelV x u)(q:RelV y u):x=y:=Option.some.inj (r.abs.symm.trans q.abs)
theorem Vals.inj:∀{xs ys:List V}{us:List Value},Vals xs us->Vals ys us->xs=ys
 | _,_,_,.nil,.nil=>rfl
 | _,_,_,.cons r t,.cons r' t'=>by rw[r.inj r',Vals.inj t t']
section
variable {X:Cx}{pins:List (Addr×Obj)}{σ:St}{H:Hp}{s:Shared}{a:Addr}{xs ys:List V}
theorem SqL.of {K:PySem.W.Frag}(h:H a=some (.lst xs)):SqL K H a xs:=.inl (.inl h)
theorem SqT.of {K:PySem.W.Frag}(h:H a=some (.tup xs)):SqT K H a xs:=.inl (.inl h)
theorem Inv.list (I:Inv X pins σ H s)(h:SqL X.K H a xs):∃its:List Value,Vals xs its/\PlainL s.heap a its.toArray/\xs.length<=sizeLine:=by
 rcases h with h | ⟨o,its,n,hk,hc,hd,hs,hz,r⟩
 . obtain⟨z,its,n,r,e⟩:=h.ok I.hok
   exact⟨its,r,⟨_,n,e,rfl,rfl,rfl⟩,z⟩
 . refine⟨its.toList,r,⟨o,n,I.kIn a o hk,hc,hd,by simpa using hs⟩,?_⟩
   have e:=r.length
   simp only[Array.length_toList] at e
   omega
theorem Inv.tuple (I:Inv X pins σ H s)(h:SqT X.K H a xs):∃its:List Value,Vals xs its/\IsTup s.heap a its.toArray/\xs.length<=sizeLine:=by
 rcases h with h | ⟨o,its,n,hk,hc,hs,hz,r⟩
 . obtain⟨⟨z,_⟩,its,r,p⟩:=h.ok I.hok
   exact⟨its,r,p,z⟩
 . refine⟨its.toList,r,⟨o,I.kIn a o hk,hc,n,by simpa using hs⟩,?_⟩
   have e:=r.length
   simp only[Array.length_toList] at e
   omega
theorem Inv.list_inj (I:Inv X pins σ H s)(h:SqL X.K H a xs)(h':SqL X.K H a ys):xs=ys:=by
 obtain⟨its,r,⟨o,n,e,_,_,d⟩,_⟩:=I.list h
 obtain⟨its',r',⟨o',n',e',_,_,d'⟩,_⟩:=I.list h'
 rw[e] at e';cases e'
 rw[d] at d'
 injection d' with d1 _
 have:its=its':=by simpa using congrArg Array.toList d1
 subst this
 exact r.inj r'
theorem Inv.tuple_inj (I:Inv X pins σ H s)(h:SqT X.K H a xs)(h':SqT X.K H a ys):xs=ys:=by
 obtain⟨its,r,⟨o,e,_,n,d⟩,_⟩:=I.tuple h
 obtain⟨its',r',⟨o',e',_,n',d'⟩,_⟩:=I.tuple h'
 rw[e] at e';cases e'
 rw[d] at d'
 injection d' with d1 _
 have:its=its':=by simpa using congrArg Array.toList d1
 subst this
 exact r.inj r'
end
abbrev Cx.wish (X:Cx)(E:Value->Shared->Prop):Cx:={ X with xe:=E }
abbrev Cx.nox (X:Cx):Cx:=X.wish fun _ _=>False
theorem Cx.Ok.wish {X:Cx}(ok:X.Ok)(E:Value->Shared->Prop):(X.wish E).Ok:=
 ⟨ok.mod,ok.kind,ok.glob,ok.blt,ok.above,ok.inj,ok.has,ok.cab,ok.hd,ok.frames,ok.stk,ok.exf,ok.bs,ok.bsz,ok.noex,ok.exfs,ok.funs,ok.frf⟩
theorem Cx.Ok.unwish {X:Cx}{E:Value->Shared->Prop}(ok:(X.wish E).Ok):X.Ok:=
 ⟨ok.mod,ok.kind,ok.glob,ok.blt,ok.above,ok.inj,ok.has,ok.cab,ok.hd,ok.frames,ok.stk,ok.exf,ok.bs,ok.bsz,ok.noex,ok.exfs,ok.funs,ok.frf⟩
section
variable {X:Cx}{pins:List (Addr×Obj)}{σ:St}{H:Hp}{s:Shared}{E:Value->Shared->Prop}
theorem Inv.wish (I:Inv X pins σ H s)(E:Value->Shared->Prop):Inv (X.wish E) pins σ H s:=⟨I.ok.wish E,I.os,I.bare,I.base,I.loc,I.cell,I.free,I.freeC,I.pin,I.hok,I.len⟩
theorem Inv.unwish (I:Inv (X.wish E) pins σ H s):Inv X pins σ H s:=⟨I.ok.unwish,I.os,I.bare,I.base,I.loc,I.cell,I.free,I.freeC,I.pin,I.hok,I.len⟩
theorem SP.unwish {D:Ends}{f:Flow}{s':Shared}(h:SP (X.wish E) pins D f s'):SP X pins D f s':=by
 cases f with
 | next=>obtain⟨σ',H',I,q⟩:=h;exact⟨σ',H',I.unwish,q⟩
 | brk=>obtain⟨σ',H',I,q⟩:=h;exact⟨σ',H',I.unwish,q⟩
 | cont=>obtain⟨σ',H',I,q⟩:=h;exact⟨σ',H',I.unwish,q⟩
 | ret u=>obtain⟨v,σ',H',I,r,q⟩:=h;exact⟨v,σ',H',I.unwish,r,q⟩
theorem PSs.nox {st:List Stmt}{t:TS}(h:PSs X.nox st t):PSs X st t:=fun pins s σ H D I hw=>
 wpAny_mono (h pins s σ H D (I.wish _) hw) (fun _ _ q=>q.unwish) fun _ _ z=>False.elim z
end
section
variable {X:Cx}{st:Stmt}{rest:List Stmt}{t u:TS}{e:Expr}{te:TE}{pos:Pos}
def tNext:TS:=fun D σ H=>D.nx σ H
def tSeq (t u:TS):TS:=fun D σ H=>t { D with nx:=u D } σ H
theorem pss_nil:PSs X [] tNext:=fun _ _ σ H _ I h=>wpAny_execs_nil ⟨σ,H,I,h⟩
theorem pss_cons (h1:PS X st t)(h2:PSs X rest u):PSs X (st::rest) (tSeq t u):=by
 intro pins s σ H D I h
 refine wpAny_execs_cons (thn (h1 pins s σ H { D with nx:=u D } I h) fun f s1 q=>?_)
 cases f with
 | next=>
  obtain⟨σ',H',I',q⟩:=q
  exact h2 pins s1 σ' H' D I' q
 | ret v=>exact q
 | brk=>exact q
 | cont=>exact q
theorem pss_one (h1:PS X st t):PSs X [st] t:=by
 intro pins s σ H D I h
 refine wpAny_execs_cons (thn (h1 pins s σ H D I h) fun f s1 q=>?_)
 cases f with
 | next=>exact wpAny_execs_nil q
 | ret v=>exact q
 | brk=>exact q
 | cont=>exact q
theorem Inv.quiet {pins:List (Addr×Obj)}{σ:St}{H:Hp}{s:Shared}(I:Inv X pins σ H s):interactive X.env=false:=by simp[interactive,I.ok.kind]
def tDrop (te:TE):TS:=fun D σ H=>te σ H fun _ H1=>D.nx σ H1
theorem ps_expr (he:PE X e te)(hs:swapsWith e none pos.line X.env=pure false:=by rfl):PS X (.Expr e pos) (tDrop te):=by
 intro pins s σ H D I h
 exact wpAny_Expr_any (thn (he pins s σ H _ I h) fun v s1 ⟨x,H1,I1,r1,q1⟩=>⟨σ,H1,I1,q1⟩) I.quiet hs
def tRet (te:TE):TS:=fun D σ H=>te σ H D.rt
theorem ps_ret (he:PE X e te):PS X (.Return (some e) pos) (tRet te):=by
 intro pins s σ H D I h
 exact wpAny_Return_some (thn (he pins s σ H _ I h) fun v s1 ⟨x,H1,I1,r1,q1⟩=>⟨x,σ,H1,I1,r1,q1⟩)
def tIfS (c:TT)(t u:TS):TS:=fun D σ H=>c σ H fun b H1=>if b=true then t D σ H1 else u D σ H1
theorem ps_if {c:Expr}{a b:List Stmt}{tc:TT}(hc:PT X c tc)(ha:PSs X a t)(hb:PSs X b u):PS X (.If c a b pos) (tIfS tc t u):=by
 intro pins s σ H D I h
 refine wpAny_If (thn (hc pins s σ H _ I h) fun d s1 ⟨H1,I1,q1⟩=>?_)
 cases d with
 | true=>exact ha pins s1 σ H1 D I1 q1
 | false=>exact hb pins s1 σ H1 D I1 q1
end
abbrev TG:=V->St->Hp->(St->Hp->Prop)->Prop
abbrev TGs:=List V->St->Hp->(St->Hp->Prop)->Prop
def PG (X:Cx)(target:Expr)(t:TG):Prop:=
 ∀(pins:List (Addr×Obj))(s:Shared)(σ:St)(H:Hp)(v:V)(u:Value)(Q:St->Hp->Prop),Inv X pins σ H s->RelV v u->t v σ H Q ->
  wpAny (model X.prog X.w) X.A (assign target X.env u) (fun _ s'=>∃ σ' H',Inv X pins σ' H' s'/\Q σ' H') X.xe s
def PGs (X:Cx)(ts:List Expr)(t:TGs):Prop:=
 ∀(pins:List (Addr×Obj))(s:Shared)(σ:St)(H:Hp)(vs:List V)(us:List Value)(Q:St->Hp->Prop),Inv X pins σ H s->Vals vs us->t vs σ H Q ->
  wpAny (model X.prog X.w) X.A (assignInOrder ((assignEach ts X.env).map (·.2)) us) (fun _ s'=>∃ σ' H',Inv X pins σ' H' s'/\Q σ' H') X.xe s
abbrev TSet:=V->V->V->Hp->(Hp->Prop)->Prop
def PSet (X:Cx)(t:TSet):Prop:=
 ∀(pins:List (Addr×Obj))(s:Shared)(σ:St)(H:Hp)(o i v:V)(ov iv u:Value)(Q:Hp->Prop),Inv X pins σ H s->RelV o ov->RelV i iv->RelV v u->t o i v H Q ->
  wpAny (model X.prog X.w) X.A (setItem ov iv u) (fun _ s'=>∃H',Inv X pins σ H' s'/\Q H') X.xe s
abbrev TIp:=V->V->Hp->VK->Prop
def PIp (X:Cx)(op:Operator)(t:TIp):Prop:=
 ∀(pins:List (Addr×Obj))(s:Shared)(σ:St)(H:Hp)(x y:V)(v u:Value)(Q:VK),Inv X pins σ H s->RelV x v->RelV y u->t x y H Q ->
  wpAny (model X.prog X.w) X.A (inplaceOp op v u) (EP X pins σ Q) X.xe s
section
variable {X:Cx}{pos:Pos}
def gName (i:Nat):TG:=fun v σ H Q=>Q (σ.set i (some v)) H
theorem pg_name {i:Nat}{x:Str}(hN:X.N.Nodup)(hi:X.N[i]? = some x)(hx:Loc X.env.scope x)(hf:X.fn x=true\/X.env.scope.names.lookup x=some .local:=by first | exact .inl rfl | exact .inr rfl | assumption):PG X (.Name x pos) (gName i):=by
 intro pins s σ H v u Q I r h
 exact wpAny_assign_Name (store_ok I hN hi hx r (fun s' I'=>⟨_,H,I',h⟩) hf)
def gNil:TGs:=fun vs σ H Q=>vs=[]/\Q σ H
def gCons (t:TG)(u:TGs):TGs:=fun vs σ H Q=>∃v r,vs=v::r/\t v σ H fun σ' H'=>u r σ' H' Q
theorem pgs_nil:PGs X [] gNil:=by
 intro pins s σ H vs us Q I r h
 obtain⟨e,h⟩:=h
 subst e
 cases r
 exact assignInOrder_nil ⟨σ,H,I,h⟩
theorem pgs_cons {e:Expr}{es:List Expr}{t:TG}{u:TGs}(h1:PG X e t)(h2:PGs X es u)
 (hs:(assignEach (e::es) X.env).map (·.2)=assign e X.env::(assignEach es X.env).map (·.2):=by rfl):PGs X (e::es) (gCons t u):=by
 intro pins s σ H vs us Q I r h
 obtain⟨v,vr,e1,h⟩:=h
 subst e1
 cases r with
 | cons r rr=>
  rw[hs]
  refine assignInOrder_cons (thn (h1 pins s σ H _ _ _ I r h) fun _ s1 ⟨σ1,H1,I1,q1⟩=>?_)
  exact h2 pins s1 σ1 H1 _ _ Q I1 rr q1
def gTup (K:PySem.W.Frag)(n:Nat)(t:TGs):TG:=fun v σ H Q=>∃a xs,v = .ref a/\SqT K H a xs/\xs.length=n/\t xs σ H Q
theorem pg_tup {es:List Expr}{k:Nat}{t:TGs}{n:Nat}(hc:X.calm=true)(h:PGs X es t)
 (hn:(assignEach es X.env).length=n:=by rfl)(hst:(assignEach es X.env).findIdx? (·.1)=none:=by rfl):PG X (.Tuple es k pos) (gTup X.K n t):=by
 intro pins s σ H v u Q I r hw
 obtain⟨a,xs,e1,hq,hl,hw⟩:=hw
 subst e1
 cases r
 obtain⟨its,rv,ht,hz⟩:=I.tuple hq
 refine assign_Tuple_tuple (I.ok.hd hc) ht (by simp[hn,<-hl,rv.length]) hst fun h' hx=>?_
 have I1:Inv X pins σ H { s with heap:=h' }:=I.kept (t':=s.toks) fun b o e=>hx b o (Nat.ne_of_lt (Heap.lt_size e)) e
 exact h pins _ σ H xs _ Q I1 (by simpa using rv) hw
def gSub (to ti:TE)(t:TSet):TG:=fun v σ H Q=>to σ H fun o H1=>ti σ H1 fun i H2=>t o i v H2 fun H3=>Q σ H3
theorem pg_sub {o i:Expr}{to ti:TE}{t:TSet}(ho:PE X o to)(hi:PE X i ti)(hs:PSet X t)
 (ha:∀v,assign (.Subscript o i pos) X.env v=(do
  let ov <-holding [v] (eval o X.env)
  let iv <-holding [v,ov] (eval i X.env)
  standAt pos
  holding [v,ov,iv] (setItem ov iv v)
  release [v,ov,iv] []):=by intro _;rfl):PG X (.Subscript o i pos) (gSub to ti t):=by
 intro pins s σ H v u Q I r h
 rw[ha]
 refine wpAny_bind (wpAny_holding (thn (ho pins s σ H _ I h) fun ov s1 ⟨x,H1,I1,r1,q1⟩=>?_))
 refine wpAny_bind (wpAny_holding (thn (hi pins s1 σ H1 _ I1 q1) fun iv s2 ⟨y,H2,I2,r2,q2⟩=>?_))
 refine wpAny_bind (wpAny_standAt (wpAny_bind (wpAny_holding (thn (hs pins s2 σ H2 x y v ov iv u _ I2 r1 r2 r q2) fun _ s3 ⟨H3,I3,q3⟩=>?_))))
 exact wpAny_release ⟨σ,H3,I3,q3⟩
def tAsg (te:TE)(g:TG):TS:=fun D σ H=>te σ H fun x H1=>g x σ H1 D.nx
theorem ps_asg {tg e:Expr}{te:TE}{g:TG}(he:PE X e te)(hg:PG X tg g)(hs:swapsWithSole [tg] e pos.line X.env=pure false:=by rfl)(hw:swappedStores [tg] e X.env=pure none:=by rfl)
 (h1:(assignEach [tg] X.env).map (·.2)=[assign tg X.env]:=by rfl):PS X (.Assign [tg] e pos) (tAsg te g):=by
 intro pins s σ H D I h
 refine wpAny_Assign_stores (thn (he pins s σ H _ I h) fun v s1 ⟨x,H1,I1,r1,q1⟩=>?_) hs hw
 rw[h1]
 exact thn (hg pins s1 σ H1 x v _ I1 r1 q1) fun _ s2 q=>q
theorem ps_set {i:Nat}{x:Str}{e:Expr}{te:TE}{pos':Pos}(hN:X.N.Nodup)(hi:X.N[i]? = some x)(hx:Loc X.env.scope x)(he:PE X e te)(hs:swapsWith e (some (.Name x pos')) pos.line X.env=pure false:=by rfl)(hf:X.fn x=true\/X.env.scope.names.lookup x=some .local:=by first | exact .inl rfl | exact .inr rfl | assumption) :
 PS X (.Assign [.Name x pos'] e pos) (tAsg te (gName i)):=by
 intro pins s σ H D I h
 refine wpAny_Assign_Name (thn (he pins s σ H _ I h) fun v s1 ⟨y,H1,I1,r1,q1⟩=>?_) hs
 exact store_ok I1 hN hi hx r1 (fun s2 I2=>⟨_,H1,I2,q1⟩) hf
def tAug (i:Nat)(te:TE)(ti:TIp):TS:=fun D σ H=>∃x,σ[i]? = some (some x)/\te σ H fun y H1=>ti x y H1 fun z H2=>D.nx (σ.set i (some z)) H2
theorem ps_aug {i:Nat}{x:Str}{e:Expr}{te:TE}{op:Operator}{ti:TIp}{pos':Pos}(hN:X.N.Nodup)(hi:X.N[i]? = some x)(hx:Loc X.env.scope x)(he:PE X e te)(ho:PIp X op ti)(hf:X.fn x=true\/X.env.scope.names.lookup x=some .local:=by first | exact .inl rfl | exact .inr rfl | assumption) :
 PS X (.AugAssign (.Name x pos') op e pos) (tAug i te ti):=by
 intro pins s σ H D I h
 obtain⟨v,e1,h⟩:=h
 obtain⟨m,hn,hl⟩:=I.loc
 have vis:Vis X.env.scope x:=by rcases hx with k | k;exact .inl k;exact .inr (.inl k)
 obtain⟨u,r,l⟩:=hl i x v hi e1 vis
 refine wpAny_AugAssign_Name ?_
 have go:wpAny (model X.prog X.w) X.A (eval e X.env) (fun w s₂=>wpAny (model X.prog X.w) X.A (inplaceOp op u w) (fun r s₃=>wpAny (model X.prog X.w) X.A (storeName X.env x r) (fun _=>SP X pins D .next) X.xe s₃) X.xe s₂) X.xe s:=by
  refine thn (he pins s σ H _ I h) fun w s1 ⟨y,H1,I1,r1,q1⟩=>?_
  refine thn (ho pins s1 σ H1 v y u w _ I1 r r1 q1) fun z s2 ⟨zv,H2,I2,r2,q2⟩=>?_
  exact store_ok I2 hN hi hx r2 (fun s3 I3=>⟨_,H2,I3,q2⟩) hf
 rcases l with ⟨hk,hm⟩ | ⟨hk,c,hc,hcell⟩
 . exact wpAny_loadName_local I.ok.kind hk hn hm go
 . rcases hk with hk | hk
   . exact wpAny_loadName_cell I.ok.kind hk hc hcell go
   . rcases hx with k | k
     . have:X.env.scope.names.lookup x=some .free:=hk
       rw[k] at this;cases this
     . have:X.env.scope.names.lookup x=some .free:=hk
       rw[k] at this;cases this
def ipI (f:Int->Int->Int):TIp:=fun x y H Q=>∃i j,x = .int i/\y = .int j/\Q (.int (f i j)) H
theorem ip_add:PIp X .Add (ipI fun i j=>i+j):=by
 intro pins s σ H x y v u Q I r1 r2 h
 obtain⟨i,j,e1,e2,q⟩:=h
 subst e1;subst e2
 obtain⟨t,rfl⟩:=r1
 obtain⟨t',rfl⟩:=r2
 exact iadd_int ⟨.int _,H,I.tok _,⟨_,rfl⟩,q⟩
end
section
variable {X:Cx}{pos:Pos}
def tWhile (c:TT)(tb:TS):TS:=fun D σ H=>∃W:Nat->St->Hp->Prop,(∃m,W m σ H)/\∀m σ H,W m σ H ->
 c σ H fun b H1=>if b=true then ∃N:St->Hp->Prop,(∀ σ' H',N σ' H'->∃m',m'<m/\W m' σ' H')/\tb { D with nx:=N,ct:=N,bk:=D.nx } σ H1 else D.nx σ H1
theorem ps_while {c:Expr}{body:List Stmt}{tc:TT}{tb:TS}(hp:PassesOwn (model X.prog X.w) X.A X.env X.xe)(hc:PT X c tc)(hb:PSs X body tb):PS X (.While c body [] pos) (tWhile tc tb):=by
 intro pins s σ H D I h
 obtain⟨W,⟨m0,w0⟩,turn⟩:=h
 refine wpAny_While (codeAny_whileLoop (fun n s'=>∃ σ' H',Inv X pins σ' H' s'/\W n σ' H') ?_ m0 ⟨σ,H,I,w0⟩)
 rintro n s1 ⟨σ1,H1,I1,w1⟩
 refine wpAny_passesOwn hp (thn (hc pins s1 σ1 H1 _ I1 (turn n σ1 H1 w1)) fun b s2 ⟨H2,I2,q2⟩=>?_)
 cases b with
 | true=>
  obtain⟨N,hN,q2⟩:=q2
  rw[if_pos rfl]
  refine wpAny_passesOwn hp (thn (hb pins s2 σ1 H2 _ I2 q2) fun f s3 q3=>?_)
  cases f with
  | next=>
   obtain⟨σ3,H3,I3,n3⟩:=q3
   obtain⟨m',hm,w3⟩:=hN σ3 H3 n3
   exact⟨m',hm,σ3,H3,I3,w3⟩
  | cont=>
   obtain⟨σ3,H3,I3,n3⟩:=q3
   obtain⟨m',hm,w3⟩:=hN σ3 H3 n3
   exact⟨m',hm,σ3,H3,I3,w3⟩
  | brk=>exact q3
  | ret v=>exact q3
 | false=>
  rw[if_neg Bool.false_ne_true]
  exact wpAny_execs_nil ⟨σ1,H2,I2,q2⟩
end
structure It where
 go:Nat->Hp->Prop
 yld:Nat->Hp->V->Hp->Prop
 stop:Nat->Hp->Prop
def FpOk (X:Cx)(pins:List (Addr×Obj))(H:Hp)(b:Addr):Prop:=
 H b=none/\b≠X.env.locals/\b∉X.fs/\(b∈X.ex\/X.s₀.heap.objs.size<=b)/\(∀x c,X.env.cells.lookup x=some c->c≠b)/\∀p∈X.pn++pins,p.1≠b
theorem Inv.fpOk {X:Cx}{pins:List (Addr×Obj)}{σ:St}{H H':Hp}{s:Shared}{b:Addr}(I:Inv X pins σ H s)(hb:s.heap.objs.size<=b)(hn:H' b=none):FpOk X pins H' b:=by
 refine⟨hn,Nat.ne_of_gt (Nat.lt_of_lt_of_le I.lt hb),I.nofs hb,.inr (Nat.le_trans I.sz hb),fun x c e z=>?_,fun p hp z=>?_⟩
 . obtain⟨v,q⟩:=I.cell x c e
   exact absurd (Nat.lt_of_lt_of_le q.lt (by rw[z];exact hb)) (Nat.lt_irrefl _)
 . exact absurd (Nat.lt_of_lt_of_le (Heap.lt_size (I.pin p hp).1) (by rw[z];exact hb)) (Nat.lt_irrefl _)
structure Turn (P:Program)(w:World)(K:PySem.W.Frag)(tg:Expr)(J:It)(fp:List Addr)(it:Addr)(tn:Nat->Heap->Prop):Prop where
 mem:it∈fp
 obj:∀i h,tn i h->∀b∈fp,∃o,h.get? b=some o/\∀v,o.data ≠ .cell v
 keep:∀i h h',tn i h->(∀b∈fp,∀o,h.get? b=some o->h'.get? b=some o)->tn i h'
 item:∀(X:Cx),X.prog=P->X.w=w->X.K=K->X.calm=true->∀(i:Nat)(pins:List (Addr×Obj))(s:Shared)(σ:St)(H:Hp)(E:Value->Shared->Prop),Inv X pins σ H s->(∀b∈fp,FpOk X pins H b)->tn i s.heap->J.go i H ->
  wpAny (model P w) X.A (pyNext (.ref it)) (fun r s1=>∃u,r=some u /\
   wpAny (model P w) X.A (letOwnedTupleGo tg (.ref it) u) (fun _ s2=>∃x H',Inv X pins σ H' s2/\RelV x u/\J.yld i H x H'/\tn (i+1) s2.heap/\∀b∈fp,H' b=none) E s1) E s
 done:∀(X:Cx),X.prog=P->X.w=w->X.K=K->X.calm=true->∀(i:Nat)(pins:List (Addr×Obj))(s:Shared)(σ:St)(H:Hp)(E:Value->Shared->Prop),Inv X pins σ H s->(∀b∈fp,FpOk X pins H b)->tn i s.heap->J.stop i H ->
  wpAny (model P w) X.A (pyNext (.ref it)) (fun r s1=>r=none/\Inv X pins σ H s1) E s
 self:∀(A:Around)(i:Nat)(s:Shared)(Q:Value->Shared->Prop)(E:Value->Shared->Prop),tn i s.heap->Q (.ref it) s->wpAny (model P w) A (pyIter (.ref it)) Q E s
abbrev TI:=St->Hp->(It->Hp->Prop)->Prop
def PIE (X:Cx)(pins:List (Addr×Obj))(σ:St)(tg:Expr)(R:It->Hp->Prop)(itv:Value)(s2:Shared):Prop:=
 ∃(it:Addr)(fp:List Addr)(tn:Nat->Heap->Prop)(J:It)(H':Hp),itv = .ref it/\Inv X pins σ H' s2/\Turn X.prog X.w X.K tg J fp it tn/\tn 0 s2.heap/\(∀b∈fp,FpOk X pins H' b)/\R J H'
def PI (X:Cx)(tg iter:Expr)(wi:TI):Prop:=
 ∀(pins:List (Addr×Obj))(s:Shared)(σ:St)(H:Hp)(R:It->Hp->Prop),Inv X pins σ H s->wi σ H R ->
  wpAny (model X.prog X.w) X.A (eval iter X.env) (fun v s1=>wpAny (model X.prog X.w) X.A (pyIter v) (PIE X pins σ tg R) X.xe s1) X.xe s
theorem go_of {M:Model}{A:Around}{E:Value->Shared->Prop}{s:Shared}{tg:Expr}{it:Addr}{u:Value}{o:Obj}{n:String}{vs:Array Value}{Q:Unit->Shared->Prop}(ho:s.heap.get? it=some o)(hc:o.cls = .type n)(hd:o.data = .fields vs)
 (hn:["enumerate", "zip", "dict_itemiterator", "dict_reverseitemiterator", "odict_iterator", "itertools.zip_longest", "itertools.pairwise"].contains n=false) (hQ:Q () s):wpAny M A (letOwnedTupleGo tg (.ref it) u) Q E s:=by
 unfold letOwnedTupleGo
 cases tg <;> first
  | exact wpAny_pure hQ
  | (cases u <;> first
   | exact wpAny_pure hQ
   | (refine wpAny_bind (wpAny_load ho ?_)
      rw[hc,hd]
      show wpAny M A (if (["enumerate", "zip", "dict_itemiterator", "dict_reverseitemiterator", "odict_iterator", "itertools.zip_longest", "itertools.pairwise"].contains n && vs[0]? == some (rawInt _))=true then _ else _) Q E s
      rw[if_neg (by intro h;rw[hn,Bool.false_and] at h;cases h)]
      exact wpAny_pure hQ))
def Itl (K:PySem.W.Frag)(a:Addr):It:=
 ⟨fun i H=>∃xs x,SqL K H a xs/\xs[i]? = some x,fun i H x H'=>H'=H/\∀xs,SqL K H a xs->xs[i]? = some x,fun i H=>∃xs,SqL K H a xs/\xs.length<=i⟩
def Itt (K:PySem.W.Frag)(a:Addr):It:=
 ⟨fun i H=>∃xs x,SqT K H a xs/\xs[i]? = some x,fun i H x H'=>H'=H/\∀xs,SqT K H a xs->xs[i]? = some x,fun i H=>∃xs,SqT K H a xs/\xs.length<=i⟩
def Itr (lo:Int)(n:Nat):It:=⟨fun i _=>i<n,fun i H x H'=>H'=H/\x = .int (lo+i),fun i _=>n<=i⟩
theorem turn_list {P:Program}{w:World}{K:PySem.W.Frag}{tg:Expr}(a it:Addr):Turn P w K tg (Itl K a) [it] it (fun i h=>h.IsListIter it a i) where
 mem:=by simp
 obj:=fun i h st b hb=>by
  have e:b=it:=by simpa using hb
  subst e
  obtain⟨o,e,c,d⟩:=st
  exact⟨o,e,fun v z=>by rw[d] at z;cases z⟩
 keep:=fun i h h' st k=>st.at fun o e=>k it (by simp) o e
 item:=by
  intro X hP hw hK hc i pins s σ H E I hf st hg
  subst hP hw hK
  obtain⟨xs,x,hq,hx⟩:=hg
  obtain⟨its,rv,p,hz⟩:=I.list hq
  obtain⟨u,hu,ru⟩:=rv.get hx
  obtain⟨f0,f1,f2,f3,f4,f5⟩:=hf it (by simp)
  refine wpAny_pyNext_list_item st p.isList (x:=u) (by simpa using hu) fun h' st' sb=>?_
  have I1:Inv X pins σ H { s with heap:=h' }:=I.turned (t':=s.toks) (fun b o hb e=>(sb.2 b hb).trans e) f0 f1 f3 f4 f5
  obtain⟨o,e,c,d⟩:=id st'
  exact⟨u,rfl,go_of (s:={ s with heap:=h' }) e c d (by decide) ⟨x,H,I1,ru,⟨rfl,fun ys hy=>by rw[I.list_inj hy hq];exact hx⟩,st',fun b hb=>(hf b hb).1⟩⟩
 done:=by
  intro X hP hw hK hc i pins s σ H E I hf st hg
  subst hP hw hK
  obtain⟨xs,hq,hx⟩:=hg
  obtain⟨its,rv,p,hz⟩:=I.list hq
  obtain⟨f0,f1,f2,f3,f4,f5⟩:=hf it (by simp)
  have hl:=rv.length
  exact wpAny_pyNext_list_end (I.ok.hd hc) st p.isList (by simp;omega) fun h' eb=>⟨rfl,I.turned (t':=s.toks) (fun b o hb e=>eb b o hb e) f0 f1 f3 f4 f5⟩
 self:=fun _ _ _ _ _ st h=>wpAny_pyIter_listiter st h
theorem turn_tuple {P:Program}{w:World}{K:PySem.W.Frag}{tg:Expr}(a it:Addr):Turn P w K tg (Itt K a) [it] it (fun i h=>h.IsTupleIter it a i) where
 mem:=by simp
 obj:=fun i h st b hb=>by
  have e:b=it:=by simpa using hb
  subst e
  obtain⟨o,e,c,d⟩:=st
  exact⟨o,e,fun v z=>by rw[d] at z;cases z⟩
 keep:=fun i h h' st k=>st.at fun o e=>k it (by simp) o e
 item:=by
  intro X hP hw hK hc i pins s σ H E I hf st hg
  subst hP hw hK
  obtain⟨xs,x,hq,hx⟩:=hg
  obtain⟨its,rv,p,hz⟩:=I.tuple hq
  obtain⟨u,hu,ru⟩:=rv.get hx
  obtain⟨f0,f1,f2,f3,f4,f5⟩:=hf it (by simp)
  refine wpAny_pyNext_tuple_item st (show s.heap.IsTuple a its.toArray from p) (x:=u) (by simpa using hu) fun h' st' sb=>?_
  have I1:Inv X pins σ H { s with heap:=h' }:=I.turned (t':=s.toks) (fun b o hb e=>(sb.2 b hb).trans e) f0 f1 f3 f4 f5
  obtain⟨o,e,c,d⟩:=id st'
  exact⟨u,rfl,go_of (s:={ s with heap:=h' }) e c d (by decide) ⟨x,H,I1,ru,⟨rfl,fun ys hy=>by rw[I.tuple_inj hy hq];exact hx⟩,st',fun b hb=>(hf b hb).1⟩⟩
 done:=by
  intro X hP hw hK hc i pins s σ H E I hf st hg
  subst hP hw hK
  obtain⟨xs,hq,hx⟩:=hg
  obtain⟨its,rv,p,hz⟩:=I.tuple hq
  obtain⟨f0,f1,f2,f3,f4,f5⟩:=hf it (by simp)
  have hl:=rv.length
  exact wpAny_pyNext_tuple_end (I.ok.hd hc) st (show s.heap.IsTuple a its.toArray from p) (by simp;omega) fun h' eb=>⟨rfl,I.turned (t':=s.toks) (fun b o hb e=>eb b o hb e) f0 f1 f3 f4 f5⟩
 self:=fun _ _ _ _ _ st h=>wpAny_pyIter_tupleiter st h
theorem turn_range {P:Program}{w:World}{K:PySem.W.Frag}{tg:Expr}(it:Addr)(lo:Int)(n:Nat):Turn P w K tg (Itr lo n) [it] it (fun i h=>IsRangeIter h it (lo+(i:Nat)*1) ((n:Int)-(i:Nat)) 1) where
 mem:=by simp
 obj:=fun i h st b hb=>by
  have e:b=it:=by simpa using hb
  subst e
  exact⟨_,st,fun v z=>by
   have z':Data.fields _=Data.cell v:=z
   cases z'⟩
 keep:=fun i h h' st k=>k it (by simp) _ st
 item:=by
  intro X hP hw hK hc i pins s σ H E I hf st hg
  subst hP hw hK
  obtain⟨f0,f1,f2,f3,f4,f5⟩:=hf it (by simp)
  have W:=Walks.range (prog:=X.prog) (w:=X.w) (I.ok.hd hc) it lo 1 n
  refine W.item i s _ _ hg st fun v h' tk hv st' kk=>?_
  obtain⟨t,rfl⟩:=hv
  have I1:Inv X pins σ H { s with heap:=h',toks:=tk }:=I.turned (fun b o hb e=>kk b o (by simpa using hb) e) f0 f1 f3 f4 f5
  refine⟨_,rfl,go_of (s:={ s with heap:=h',toks:=tk }) (n := "range_iterator") st' rfl rfl (by decide) ⟨.int (lo+i),H,I1,⟨t,?_⟩,⟨rfl,rfl⟩,st',fun b hb=>(hf b hb).1⟩⟩
  rw[Int.mul_one]
 done:=by
  intro X hP hw hK hc i pins s σ H E I hf st hg
  subst hP hw hK
  obtain⟨f0,f1,f2,f3,f4,f5⟩:=hf it (by simp)
  exact wpAny_pyNext_range_end (I.ok.hd hc) st (by have:n<=i:=hg;omega) fun h' eb=>⟨rfl,I.turned (t':=s.toks) (fun b o hb e=>eb b o hb e) f0 f1 f3 f4 f5⟩
 self:=fun _ _ _ _ _ st h=>wpAny_pyIter_rangeiter st h
end L2
namespace L2
open PySem PySem.Spec PyProof.Rows
section
variable {X:Cx}{tg:Expr}
def iList (K:PySem.W.Frag)(tl:TE):TI:=fun σ H R=>tl σ H fun x H1=>∃a,x = .ref a/\(∃xs,SqL K H1 a xs)/\R (Itl K a) H1
def iTup (K:PySem.W.Frag)(tl:TE):TI:=fun σ H R=>tl σ H fun x H1=>∃a,x = .ref a/\(∃xs,SqT K H1 a xs)/\R (Itt K a) H1
theorem pi_list {l:Expr}{tl:TE}(hl:PE X l tl):PI X tg l (iList X.K tl):=by
 intro pins s σ H R I h
 refine thn (hl pins s σ H _ I h) fun v s1 ⟨x,H1,I1,r1,q1⟩=>?_
 obtain⟨a,e,⟨xs,hq⟩,q⟩:=q1
 subst e
 cases r1
 obtain⟨its,rv,p,hz⟩:=I1.list hq
 refine wpAny_pyIter_list p.isList ?_
 refine⟨s1.heap.objs.size,[s1.heap.objs.size],_,_,H1,rfl,I1.kept (t':=s1.toks) fun b o e=>Heap.get?_push_of_some _ e,turn_list a _,⟨_,Heap.get?_push_size _ rfl,rfl,rfl⟩,fun b hb=>?_,q⟩
 have e:b=s1.heap.objs.size:=by simpa using hb
 subst e
 exact I1.fpOk (Nat.le_refl _) (I1.hok.fresh (Nat.le_refl _))
theorem pi_tup {l:Expr}{tl:TE}(hl:PE X l tl):PI X tg l (iTup X.K tl):=by
 intro pins s σ H R I h
 refine thn (hl pins s σ H _ I h) fun v s1 ⟨x,H1,I1,r1,q1⟩=>?_
 obtain⟨a,e,⟨xs,hq⟩,q⟩:=q1
 subst e
 cases r1
 obtain⟨its,rv,p,hz⟩:=I1.tuple hq
 refine wpAny_pyIter_tuple (show s1.heap.IsTuple a its.toArray from p) ?_
 refine⟨s1.heap.objs.size,[s1.heap.objs.size],_,_,H1,rfl,I1.kept (t':=s1.toks) fun b o e=>Heap.get?_push_of_some _ e,turn_tuple a _,⟨_,Heap.get?_push_size _ rfl,rfl,rfl⟩,fun b hb=>?_,q⟩
 have e:b=s1.heap.objs.size:=by simpa using hb
 subst e
 exact I1.fpOk (Nat.le_refl _) (I1.hok.fresh (Nat.le_refl _))
theorem range_it {pins:List (Addr×Obj)}{σ:St}{H:Hp}{s:Shared}{R:It->Hp->Prop}{E:Value->Shared->Prop}{lo hi:Int}{t u v:Tok}{tk:Nat}(I:Inv X pins σ H s)(h1 : -(2 ^ 62)<=lo)(h2:lo<2 ^ 62)(h3 : -(2 ^ 62)<=hi)(h4:hi<2 ^ 62)
 (q:R (Itr lo (hi-lo).toNat) H):wpAny (model X.prog X.w) X.A (pyIter (.ref s.heap.objs.size)) (PIE X pins σ tg R) E { s with heap:=s.heap.push { cls:=.type "range",data:=.fields #[.int lo t,.int hi u,.int 1 v] },toks:=tk }:=by
 refine wpAny_pyIter_range (IsRange.new ..) (small_one h1 h2 h3 h4) ?_
 have I1:Inv X pins σ H { s with heap:=s.heap.push { cls:=.type "range",data:=.fields #[.int lo t,.int hi u,.int 1 v] },toks:=tk }:=I.kept fun b o e=>Heap.get?_push_of_some _ e
 refine⟨(s.heap.push { cls:=.type "range",data:=.fields #[.int lo t,.int hi u,.int 1 v] }).objs.size,[(s.heap.push { cls:=.type "range",data:=.fields #[.int lo t,.int hi u,.int 1 v] }).objs.size],_,_,H,rfl,
  I1.kept (t':=tk) fun b o e=>Heap.get?_push_of_some _ e,turn_range _ lo (hi-lo).toNat,?_,fun b hb=>?_,q⟩
 . have e1:lo+((0:Nat):Int)*1=lo:=by simp
   have e2:(((hi-lo).toNat:Nat):Int)-((0:Nat):Int)=Builtin.Range.rangeSize lo hi 1:=by rw[rangeSize_one];split <;> omega
   show IsRangeIter _ _ (lo+((0:Nat):Int)*1) ((((hi-lo).toNat:Nat):Int)-((0:Nat):Int)) 1
   rw[e1,e2]
   exact Heap.get?_push_size _ rfl
 . have e:b=(s.heap.push { cls:=.type "range",data:=.fields #[.int lo t,.int hi u,.int 1 v] }).objs.size:=by simpa using hb
   subst e
   exact I1.fpOk (Nat.le_refl _) (I1.hok.fresh (Nat.le_refl _))
def iRng1 (ta:TA):TI:=fun σ H R=>ta σ H fun vs H1=>∃j:Int,vs=[.int j] /\ -(2 ^ 62)<=j/\j<2 ^ 62/\R (Itr 0 j.toNat) H1
theorem pi_range1 {a:Expr}{ta:TA}{p pos:Pos}(hg:Gl X "range") (hm:X.mg "range" = none) (ha:PA X [a] ta)(hs:starEach [a] X.env=[(false,eval a X.env)]:=by rfl):PI X tg (.Call (.Name "range" p) [a] [] pos) (iRng1 ta):=by
 intro pins s σ H R I h
 refine Call_ (ld_blt I hg hm boot_range (PyProof.Rows.callWith_type1 (thn (ha pos pins s σ H _ I h) fun us s1 ⟨vs,H1,I1,r1,q1⟩=>?_) hs rfl))
 obtain⟨j,e,q1,q2,q⟩:=q1
 subst e
 cases r1 with
 | cons r rr=>
  cases rr
  obtain⟨t,rfl⟩:=r
  exact call_range_1 (range_it I1 (by omega) (by omega) q1 q2 (by simpa using q))
def tFor (wi:TI)(g:TG)(tb:TS):TS:=fun D σ H=>wi σ H fun J H1=>∃W:Nat->Nat->St->Hp->Prop,(∃m,W 0 m σ H1)/\∀i m σ H,W i m σ H ->
 (J.stop i H/\D.nx σ H)\/(J.go i H/\∃N:St->Hp->Prop,(∀ σ' H',N σ' H'->∃m',m'<m/\W (i+1) m' σ' H')/\∀x H',J.yld i H x H'->g x σ H' fun σ2 H2=>tb { D with nx:=N,ct:=N,bk:=D.nx } σ2 H2)
def pinsAt (fp:List Addr)(h:Heap):List (Addr×Obj):=fp.filterMap fun b=>(h.get? b).map fun o=>(b,o)
theorem mem_pinsAt {fp:List Addr}{h:Heap}{b:Addr}{o:Obj}(hb:b∈fp)(e:h.get? b=some o):(b,o)∈pinsAt fp h:=List.mem_filterMap.mpr ⟨b,hb,by rw[e];rfl⟩
theorem of_pinsAt {fp:List Addr}{h:Heap}{p:Addr×Obj}(hp:p∈pinsAt fp h):p.1∈fp/\h.get? p.1=some p.2:=by
 obtain⟨b,hb,e⟩:=List.mem_filterMap.mp hp
 cases q:h.get? b with
 | none=>rw[q] at e;cases e
 | some o=>
  rw[q] at e
  have e':(b,o)=p:=Option.some.inj e
  subst e'
  exact⟨hb,q⟩
theorem Inv.pinned {pins:List (Addr×Obj)}{σ:St}{H:Hp}{s:Shared}{fp:List Addr}(I:Inv X pins σ H s)(hf:∀b∈fp,FpOk X pins H b)(ho:∀b∈fp,∃o,s.heap.get? b=some o/\∀v,o.data ≠ .cell v):Inv X (pins++pinsAt fp s.heap) σ H s:=
 I.pins_of fun p hp=>(List.mem_append.mp hp).elim (fun z=>I.pin p (List.mem_append_right _ z)) fun z=>by
  obtain⟨hb,e⟩:=of_pinsAt z
  obtain⟨f0,f1,f2,_⟩:=hf p.1 hb
  obtain⟨o,e',d⟩:=ho p.1 hb
  rw[e] at e';cases e'
  exact⟨e,f0,f1,f2,d⟩
theorem Inv.unpinned {pins pl:List (Addr×Obj)}{σ:St}{H:Hp}{s:Shared}(I:Inv X (pins++pl) σ H s):Inv X pins σ H s:=I.pins_of fun p hp=>I.pin p (List.mem_append_right _ (List.mem_append_left _ hp))
theorem ps_for {iter:Expr}{body:List Stmt}{wi:TI}{g:TG}{tb:TS}{pos:Pos}(hp:PassesOwn (model X.prog X.w) X.A X.env X.xe)(hc:X.calm=true)(hi:PI X tg iter wi)(hg:PG X tg g)(hb:PSs X body tb)
 (hs:∀x,foldedSetIterable iter X.env x=pure x:=by intro _;rfl):PS X (.For tg iter body [] pos) (tFor wi g tb):=by
 intro pins s σ H D I h
 refine wpAny_For (thn (hi pins s σ H _ I h) fun v s1 h1=>thn h1 fun itv s2 h2=>?_) hs
 obtain⟨it,fp,tn,J,H2,e,I2,T,st2,f2,W,⟨m0,w0⟩,turn⟩:=h2
 subst e
 have stat:∀{H':Hp},(∀b∈fp,H' b=none)->∀b∈fp,FpOk X pins H' b:=fun hn b hb=>⟨hn b hb,(f2 b hb).2⟩
 refine codeAny_forLoop_any (fun n s'=>∃i σ' H',Inv X pins σ' H' s'/\tn i s'.heap/\(∀b∈fp,H' b=none)/\W i n σ' H') ?_ m0 ⟨0,σ,H2,I2,st2,fun b hb=>(f2 b hb).1,w0⟩
 rintro n s3 ⟨i,σ3,H3,I3,st3,fr3,w3⟩
 rcases turn i n σ3 H3 w3 with ⟨stop,qn⟩ | ⟨go,N,hN,step⟩
 . refine wpAny_passesOwn hp (thn (T.done X rfl rfl rfl hc i pins s3 σ3 H3 X.xe I3 (stat fr3) st3 stop) fun r s4 ⟨hr,I4⟩=>?_)
   subst hr
   exact wpAny_execs_nil ⟨σ3,H3,I4,qn⟩
 . refine wpAny_passesOwn hp (thn (T.item X rfl rfl rfl hc i pins s3 σ3 H3 X.xe I3 (stat fr3) st3 go) fun r s4 ⟨u,hr,h4⟩=>?_)
   subst hr
   refine wpAny_passesOwn hp (thn h4 fun _ s5 ⟨x,H5,I5,r5,y5,st5,fr5⟩=>?_)
   have I5':=I5.pinned (stat fr5) (T.obj _ _ st5)
   refine wpAny_passesOwn hp (thn (hg _ s5 σ3 H5 x u _ I5' r5 (step x H5 y5)) fun _ s6 ⟨σ6,H6,I6,q6⟩=>?_)
   refine wpAny_passesOwn hp (thn (hb _ s6 σ6 H6 _ I6 q6) fun f s7 q7=>?_)
   have again:∀{σ7:St}{H7:Hp},Inv X (pins++pinsAt fp s5.heap) σ7 H7 s7->N σ7 H7->∃m,m<n/\∃i σ' H',Inv X pins σ' H' s7/\tn i s7.heap/\(∀b∈fp,H' b=none)/\W i m σ' H':=fun {σ7 H7} I7 n7=>by
    obtain⟨m',hm,w7⟩:=hN σ7 H7 n7
    refine⟨m',hm,i+1,σ7,H7,I7.unpinned,T.keep _ _ _ st5 fun b hb o e=>(I7.pin (b,o) (List.mem_append_right _ (List.mem_append_right _ (mem_pinsAt hb e)))).1,fun b hb=>?_,w7⟩
    obtain⟨o,e,d⟩:=T.obj _ _ st5 b hb
    exact (I7.pin (b,o) (List.mem_append_right _ (List.mem_append_right _ (mem_pinsAt hb e)))).2.1
   cases f with
   | next=>obtain⟨σ7,H7,I7,n7⟩:=q7;exact again I7 n7
   | cont=>obtain⟨σ7,H7,I7,n7⟩:=q7;exact again I7 n7
   | brk=>obtain⟨σ7,H7,I7,q7⟩:=q7;exact⟨σ7,H7,I7.unpinned,q7⟩
   | ret v=>obtain⟨x7,σ7,H7,I7,r7,q7⟩:=q7;exact⟨x7,σ7,H7,I7.unpinned,r7,q7⟩
end
theorem for_list {K:PySem.W.Frag}{a:Addr}{xs:List V}{g:TG}{tb:TS}{D:Ends}{σ:St}{H:Hp}(Pv:Nat->St->Hp->Prop)(h0:Pv 0 σ H)(hl:∀i σ H,i<=xs.length->Pv i σ H->SqL K H a xs)
 (hs:∀i x σ H,xs[i]? = some x->Pv i σ H->g x σ H fun σ2 H2=>tb { D with nx:=Pv (i+1),ct:=Pv (i+1),bk:=D.nx } σ2 H2)(hd:∀ σ H,Pv xs.length σ H->D.nx σ H) :
 ∃W:Nat->Nat->St->Hp->Prop,(∃m,W 0 m σ H)/\∀i m σ H,W i m σ H ->
  ((Itl K a).stop i H/\D.nx σ H)\/((Itl K a).go i H/\∃N:St->Hp->Prop,(∀ σ' H',N σ' H'->∃m',m'<m/\W (i+1) m' σ' H')/\∀x H',(Itl K a).yld i H x H'->g x σ H' fun σ2 H2=>tb { D with nx:=N,ct:=N,bk:=D.nx } σ2 H2):=by
 refine⟨fun i m σ H=>m=xs.length-i/\i<=xs.length/\Pv i σ H,⟨xs.length,by simp,Nat.zero_le _,h0⟩,?_⟩
 rintro i m σ H ⟨rfl,hi,p⟩
 have q:=hl i σ H hi p
 by_cases hlt:i<xs.length
 . refine .inr ⟨⟨xs,xs[i],q,by simp[hlt]⟩,Pv (i+1),fun σ' H' p'=>⟨xs.length-(i+1),by omega,rfl,hlt,p'⟩,fun x H' y=>?_⟩
   obtain⟨e,y⟩:=y
   subst e
   exact hs i x σ _ (y xs q) p
 . have e:i=xs.length:=by omega
   subst e
   exact .inl ⟨⟨xs,q,Nat.le_refl _⟩,hd σ H p⟩
theorem for_tup {K:PySem.W.Frag}{a:Addr}{xs:List V}{g:TG}{tb:TS}{D:Ends}{σ:St}{H:Hp}(Pv:Nat->St->Hp->Prop)(h0:Pv 0 σ H)(hl:∀i σ H,i<=xs.length->Pv i σ H->SqT K H a xs)
 (hs:∀i x σ H,xs[i]? = some x->Pv i σ H->g x σ H fun σ2 H2=>tb { D with nx:=Pv (i+1),ct:=Pv (i+1),bk:=D.nx } σ2 H2)(hd:∀ σ H,Pv xs.length σ H->D.nx σ H) :
 ∃W:Nat->Nat->St->Hp->Prop,(∃m,W 0 m σ H)/\∀i m σ H,W i m σ H ->
  ((Itt K a).stop i H/\D.nx σ H)\/((Itt K a).go i H/\∃N:St->Hp->Prop,(∀ σ' H',N σ' H'->∃m',m'<m/\W (i+1) m' σ' H')/\∀x H',(Itt K a).yld i H x H'->g x σ H' fun σ2 H2=>tb { D with nx:=N,ct:=N,bk:=D.nx } σ2 H2):=by
 refine⟨fun i m σ H=>m=xs.length-i/\i<=xs.length/\Pv i σ H,⟨xs.length,by simp,Nat.zero_le _,h0⟩,?_⟩
 rintro i m σ H ⟨rfl,hi,p⟩
 have q:=hl i σ H hi p
 by_cases hlt:i<xs.length
 . refine .inr ⟨⟨xs,xs[i],q,by simp[hlt]⟩,Pv (i+1),fun σ' H' p'=>⟨xs.length-(i+1),by omega,rfl,hlt,p'⟩,fun x H' y=>?_⟩
   obtain⟨e,y⟩:=y
   subst e
   exact hs i x σ _ (y xs q) p
 . have e:i=xs.length:=by omega
   subst e
   exact .inl ⟨⟨xs,q,Nat.le_refl _⟩,hd σ H p⟩
theorem for_range {lo:Int}{n:Nat}{g:TG}{tb:TS}{D:Ends}{σ:St}{H:Hp}(Pv:Nat->St->Hp->Prop)(h0:Pv 0 σ H)
 (hs:∀i σ H,i<n->Pv i σ H->g (.int (lo+i)) σ H fun σ2 H2=>tb { D with nx:=Pv (i+1),ct:=Pv (i+1),bk:=D.nx } σ2 H2)(hd:∀ σ H,Pv n σ H->D.nx σ H) :
 ∃W:Nat->Nat->St->Hp->Prop,(∃m,W 0 m σ H)/\∀i m σ H,W i m σ H ->
  ((Itr lo n).stop i H/\D.nx σ H)\/((Itr lo n).go i H/\∃N:St->Hp->Prop,(∀ σ' H',N σ' H'->∃m',m'<m/\W (i+1) m' σ' H')/\∀x H',(Itr lo n).yld i H x H'->g x σ H' fun σ2 H2=>tb { D with nx:=N,ct:=N,bk:=D.nx } σ2 H2):=by
 refine⟨fun i m σ H=>m=n-i/\i<=n/\Pv i σ H,⟨n,by simp,Nat.zero_le _,h0⟩,?_⟩
 rintro i m σ H ⟨rfl,hi,p⟩
 by_cases hlt:i<n
 . refine .inr ⟨hlt,Pv (i+1),fun σ' H' p'=>⟨n-(i+1),by omega,rfl,hlt,p'⟩,fun x H' y=>?_⟩
   obtain⟨e,y⟩:=y
   subst e y
   exact hs i σ _ hlt p
 . have e:i=n:=by omega
   subst e
   exact .inl ⟨Nat.le_refl _,hd σ H p⟩
end L2
namespace L2
open PySem PySem.Spec PyProof.Rows
abbrev R2:=V->V->Hp->VK->Prop
def OpR (X:Cx)(f:Value->Value->Sem Value)(r:R2):Prop:=
 ∀(pins:List (Addr×Obj))(s:Shared)(σ:St)(H:Hp)(x y:V)(v u:Value)(Q:VK),Inv X pins σ H s->RelV x v->RelV y u->r x y H Q ->
  wpAny (model X.prog X.w) X.A (f v u) (EP X pins σ Q) X.xe s
def UnR (X:Cx)(f:Value->Sem Value)(r:V->Hp->VK->Prop):Prop:=
 ∀(pins:List (Addr×Obj))(s:Shared)(σ:St)(H:Hp)(x:V)(v:Value)(Q:VK),Inv X pins σ H s->RelV x v->r x H Q ->
  wpAny (model X.prog X.w) X.A (f v) (EP X pins σ Q) X.xe s
def CallR (X:Cx)(f:Value)(r:List V->Hp->VK->Prop):Prop:=
 ∀(pins:List (Addr×Obj))(s:Shared)(σ:St)(H:Hp)(xs:List V)(us:List Value)(Q:VK),Inv X pins σ H s->Vals xs us->r xs H Q ->
  wpAny (model X.prog X.w) X.A (call f us) (EP X pins σ Q) X.xe s
def tOp (r:R2)(ta tb:TE):TE:=fun σ H Q=>ta σ H fun x H1=>tb σ H1 fun y H2=>r x y H2 Q
def tUn (r:V->Hp->VK->Prop)(ta:TE):TE:=fun σ H Q=>ta σ H fun x H1=>r x H1 Q
def rI (C:Int->Int->Prop)(g:Int->Int->V):R2:=fun x y H Q=>∃i j,x = .int i/\y = .int j/\C i j/\Q (g i j) H
def rI0 (g:Int->Int->V):R2:=fun x y H Q=>∃i j,x = .int i/\y = .int j/\Q (g i j) H
def rU (g:Int->V):V->Hp->VK->Prop:=fun x H Q=>∃i,x = .int i/\Q (g i) H
section
variable {X:Cx}{a b c:Expr}{ta tb tc:TE}{pos:Pos}
theorem binT (ha:PE X a ta)(hb:PE X b tb){pins:List (Addr×Obj)}{s:Shared}{σ:St}{H:Hp}{R:V->V->Hp->Prop}(I:Inv X pins σ H s)
 (h:ta σ H fun x H1=>tb σ H1 fun y H2=>R x y H2){Q:Value->Shared->Prop}{f:Value->Value->Sem Value}
 (hf:∀v u s2 x y H2,Inv X pins σ H2 s2->RelV x v->RelV y u->R x y H2->wpAny (model X.prog X.w) X.A (f v u) Q X.xe s2) :
 wpAny (model X.prog X.w) X.A (eval a X.env) (fun v s₁=>wpAny (model X.prog X.w) X.A (eval b X.env) (fun u s₂=>wpAny (model X.prog X.w) X.A (f v u) Q X.xe s₂) X.xe s₁) X.xe s:=by
 refine thn (ha pins s σ H _ I h) fun v s1 ⟨x,H1,I1,r1,q1⟩=>?_
 refine thn (hb pins s1 σ H1 _ I1 q1) fun u s2 ⟨y,H2,I2,r2,q2⟩=>?_
 exact hf v u s2 x y H2 I2 r1 r2 q2
theorem pe_op {op:Operator}{r:R2}(ho:OpR X (binaryOp op) r)(ha:PE X a ta)(hb:PE X b tb):PE X (.BinOp a op b pos) (tOp r ta tb):=by
 intro pins s σ H Q I h
 exact wpAny_BinOp (binT ha hb I h fun v u s2 x y H2 I2 rx ry q=>ho pins s2 σ H2 x y v u Q I2 rx ry q)
theorem pe_un {op:UnaryOp}{r:V->Hp->VK->Prop}(ho:UnR X (unaryOp op) r)(ha:PE X a ta):PE X (.UnaryOp op a pos) (tUn r ta):=by
 intro pins s σ H Q I h
 exact UnaryOp_ (thn (ha pins s σ H _ I h) fun v s1 ⟨x,H1,I1,r1,q1⟩=>ho pins s1 σ H1 x v Q I1 r1 q1)
theorem opI {f:Value->Value->Sem Value}{C:Int->Int->Prop}{g:Int->Int->Int}
 (rule:∀(i j:Int)(t u:Tok)(s:Shared)(Q:Value->Shared->Prop)(E:Value->Shared->Prop),C i j->Q (.int (g i j) s.toks) { s with toks:=s.toks+1 }->wpAny (model X.prog X.w) X.A (f (.int i t) (.int j u)) Q E s) :
 OpR X f (rI C fun i j=>.int (g i j)):=by
 intro pins s σ H x y v u Q I rx ry h
 obtain⟨i,j,rfl,rfl,hc,q⟩:=h
 obtain⟨t,rfl⟩:=rx
 obtain⟨t',rfl⟩:=ry
 exact rule i j t t' s _ _ hc ⟨.int (g i j),H,I.tok _,⟨_,rfl⟩,q⟩
theorem opI0 {f:Value->Value->Sem Value}{g:Int->Int->Int}
 (rule:∀(i j:Int)(t u:Tok)(s:Shared)(Q:Value->Shared->Prop)(E:Value->Shared->Prop),Q (.int (g i j) s.toks) { s with toks:=s.toks+1 }->wpAny (model X.prog X.w) X.A (f (.int i t) (.int j u)) Q E s) :
 OpR X f (rI0 fun i j=>.int (g i j)):=by
 intro pins s σ H x y v u Q I rx ry h
 obtain⟨i,j,rfl,rfl,q⟩:=h
 obtain⟨t,rfl⟩:=rx
 obtain⟨t',rfl⟩:=ry
 exact rule i j t t' s _ _ ⟨.int (g i j),H,I.tok _,⟨_,rfl⟩,q⟩
theorem opB0 {f:Value->Value->Sem Value}{g:Int->Int->Bool}
 (rule:∀(i j:Int)(t u:Tok)(s:Shared)(Q:Value->Shared->Prop)(E:Value->Shared->Prop),Q (.bool (g i j)) s->wpAny (model X.prog X.w) X.A (f (.int i t) (.int j u)) Q E s) :
 OpR X f (rI0 fun i j=>.bl (g i j)):=by
 intro pins s σ H x y v u Q I rx ry h
 obtain⟨i,j,rfl,rfl,q⟩:=h
 obtain⟨t,rfl⟩:=rx
 obtain⟨t',rfl⟩:=ry
 exact rule i j t t' s _ _ ⟨.bl (g i j),H,I,rfl,q⟩
def CDiv (i j:Int):Prop:=0<j/\j<1073741824
def CPow (i j:Int):Prop:=0<=j/\j<=1000000/\i.natAbs<2 ^ 64
def CMul (i j:Int):Prop:=(-(2 ^ 64)<i/\i<2 ^ 64)\/(-(2 ^ 64)<j/\j<2 ^ 64)
theorem CMul.ok {i j:Int}(h:CMul i j):IntMulOk i j:=by
 rcases h with ⟨h1,h2⟩ | ⟨h1,h2⟩
 . exact .of_left (intBits_le_64 h1 h2)
 . exact .of_right (intBits_le_64 h1 h2)
theorem op_add:OpR X (binaryOp .Add) (rI0 fun i j=>.int (i+j)):=opI0 fun _ _ _ _ _ _ _ q=>add_int q
theorem op_sub:OpR X (binaryOp .Sub) (rI0 fun i j=>.int (i-j)):=opI0 fun _ _ _ _ _ _ _ q=>sub_int q
theorem op_mul:OpR X (binaryOp .Mult) (rI CMul fun i j=>.int (i*j)):=opI fun _ _ _ _ _ _ _ hc q=>mul_int q hc.ok
theorem op_fdiv:OpR X (binaryOp .FloorDiv) (rI CDiv fun i j=>.int (i/j)):=opI fun i j _ _ _ _ _ hc q=>by
 have h1:(0:Int)<j:=hc.1
 have h2:j<1073741824:=hc.2
 exact floordiv_int (by omega) (by rw[Int.fdiv_eq_ediv_of_nonneg i (by omega)];exact q) (.inl (PyProof.noPylong_small (by omega)))
theorem op_mod:OpR X (binaryOp .Mod) (rI (fun _ j=>0<j) fun i j=>.int (i%j)):=opI fun i j _ _ _ _ _ hc q=>by
 have h1:(0:Int)<j:=hc
 exact mod_int' (by omega) (by rw[Int.fmod_eq_emod_of_nonneg i (by omega)];exact q)
theorem op_pow:OpR X (binaryOp .Pow) (rI CPow fun i j=>.int (i ^ j.toNat)):=opI fun _ _ _ _ _ _ _ hc q=>pow_int_small hc.1 hc.2.1 hc.2.2 q
theorem unI {f:Value->Sem Value}{g:Int->Int}
 (rule:∀(i:Int)(t:Tok)(s:Shared)(Q:Value->Shared->Prop)(E:Value->Shared->Prop),Q (.int (g i) s.toks) { s with toks:=s.toks+1 }->wpAny (model X.prog X.w) X.A (f (.int i t)) Q E s) :
 UnR X f (rU fun i=>.int (g i)):=by
 intro pins s σ H x v Q I rx h
 obtain⟨i,rfl,q⟩:=h
 obtain⟨t,rfl⟩:=rx
 exact rule i t s _ _ ⟨.int (g i),H,I.tok _,⟨_,rfl⟩,q⟩
theorem un_neg:UnR X (unaryOp .USub) (rU fun i=>.int (-i)):=unI fun _ _ _ _ _ q=>neg_int q
end
def scal:V->V->Bool
 | .non,.non=>true | .non,.int _=>true | .int _,.non=>true | .non,.bl _=>true | .bl _,.non=>true | .non,.str _=>true | .str _,.non=>true
 | .int _,.int _=>true | .bl _,.bl _=>true | .str _,.str _=>true | .byt _,.byt _=>true
 | .int _,.str _=>true | .str _,.int _=>true | .bl _,.str _=>true | .str _,.bl _=>true
 | _,_=>false
def rEq:R2:=fun x y H Q=>scal x y=true/\Q (.bl (decide (x=y))) H
def rNe:R2:=fun x y H Q=>scal x y=true/\Q (.bl (!decide (x=y))) H
theorem dec_int {i j:Int}:decide (V.int i=V.int j)=(i==j):=by
 rw[Bool.eq_iff_iff]
 simp
theorem dec_bl {i j:Bool}:decide (V.bl i=V.bl j)=(i==j):=by
 rw[Bool.eq_iff_iff]
 simp
theorem dec_str {i j:Str}:decide (V.str i=V.str j)=(i==j):=by
 rw[Bool.eq_iff_iff]
 simp
theorem dec_byt {i j:Array UInt8}:decide (V.byt i=V.byt j)=(i.toList==j.toList):=by
 rw[Bool.eq_iff_iff]
 cases i
 cases j
 simp
section
variable {X:Cx}{a b c:Expr}{ta tb tc:TE}{pos:Pos}
theorem fin_bl {pins:List (Addr×Obj)}{σ:St}{H:Hp}{s:Shared}{Q:VK}{k k':Bool}(I:Inv X pins σ H s)(q:Q (.bl k) H)(e:k=k'):EP X pins σ Q (.bool k') s:=by
 subst e
 exact⟨.bl k,H,I,rfl,q⟩
theorem op_eq:OpR X (compareOp .Eq) rEq:=by
 intro pins s σ H x y v u Q I rx ry h
 obtain⟨hs,q⟩:=h
 cases x with
 | non=>
  cases rx
  cases y with
  | non=>cases ry;exact PySem.EqNone.eq_none_none (fin_bl I q (by simp))
  | bl j=>cases ry;exact PySem.EqNone.eq_none_bool (fin_bl I q (by simp))
  | int j=>obtain⟨t',rfl⟩:=ry;exact PySem.EqNone.eq_none_int (fin_bl I q (by simp))
  | str j=>obtain⟨t',rfl⟩:=ry;exact PySem.EqNone.eq_none_str (fin_bl I q (by simp))
  | _=>exact absurd (show false=true from hs) Bool.false_ne_true
 | bl i=>
  cases rx
  cases y with
  | non=>cases ry;exact PySem.EqNone.eq_bool_none (fin_bl I q (by simp))
  | bl j=>cases ry;exact eq_bool (fin_bl I q dec_bl)
  | str j=>obtain⟨t',rfl⟩:=ry;exact PySem.EqMixed.eq_bool_str (fin_bl I q (by simp))
  | _=>exact absurd (show false=true from hs) Bool.false_ne_true
 | int i=>
  obtain⟨t,rfl⟩:=rx
  cases y with
  | non=>cases ry;exact PySem.EqNone.eq_int_none (fin_bl I q (by simp))
  | int j=>obtain⟨t',rfl⟩:=ry;exact eq_int (fin_bl I q dec_int)
  | str j=>obtain⟨t',rfl⟩:=ry;exact PySem.EqMixed.eq_int_str (fin_bl I q (by simp))
  | _=>exact absurd (show false=true from hs) Bool.false_ne_true
 | str i=>
  obtain⟨t,rfl⟩:=rx
  cases y with
  | non=>cases ry;exact PySem.EqNone.eq_str_none (fin_bl I q (by simp))
  | bl j=>cases ry;exact PySem.EqMixed.eq_str_bool (fin_bl I q (by simp))
  | int j=>obtain⟨t',rfl⟩:=ry;exact PySem.EqMixed.eq_str_int (fin_bl I q (by simp))
  | str j=>obtain⟨t',rfl⟩:=ry;exact eq_str (fin_bl I q dec_str)
  | _=>exact absurd (show false=true from hs) Bool.false_ne_true
 | byt i=>
  obtain⟨t,rfl⟩:=rx
  cases y with
  | byt j=>obtain⟨t',rfl⟩:=ry;exact PySem.W.eq_bytes (fin_bl I q dec_byt)
  | _=>exact absurd (show false=true from hs) Bool.false_ne_true
 | _=>cases y <;> exact absurd (show false=true from hs) Bool.false_ne_true
theorem op_ne:OpR X (compareOp .NotEq) rNe:=by
 intro pins s σ H x y v u Q I rx ry h
 obtain⟨hs,q⟩:=h
 cases x with
 | non=>
  cases rx
  cases y with
  | non=>cases ry;exact PySem.EqNone.ne_none_none (fin_bl I q (by simp))
  | bl j=>cases ry;exact PySem.EqNone.ne_none_bool (fin_bl I q (by simp))
  | int j=>obtain⟨t',rfl⟩:=ry;exact PySem.EqNone.ne_none_int (fin_bl I q (by simp))
  | str j=>obtain⟨t',rfl⟩:=ry;exact PySem.EqNone.ne_none_str (fin_bl I q (by simp))
  | _=>exact absurd (show false=true from hs) Bool.false_ne_true
 | bl i=>
  cases rx
  cases y with
  | non=>cases ry;exact PySem.EqNone.ne_bool_none (fin_bl I q (by simp))
  | bl j=>cases ry;exact ne_bool (fin_bl I q (congrArg not dec_bl))
  | str j=>obtain⟨t',rfl⟩:=ry;exact PySem.EqMixed.ne_bool_str (fin_bl I q (by simp))
  | _=>exact absurd (show false=true from hs) Bool.false_ne_true
 | int i=>
  obtain⟨t,rfl⟩:=rx
  cases y with
  | non=>cases ry;exact PySem.EqNone.ne_int_none (fin_bl I q (by simp))
  | int j=>obtain⟨t',rfl⟩:=ry;exact ne_int (fin_bl I q (congrArg not dec_int))
  | str j=>obtain⟨t',rfl⟩:=ry;exact PySem.EqMixed.ne_int_str (fin_bl I q (by simp))
  | _=>exact absurd (show false=true from hs) Bool.false_ne_true
 | str i=>
  obtain⟨t,rfl⟩:=rx
  cases y with
  | non=>cases ry;exact PySem.EqNone.ne_str_none (fin_bl I q (by simp))
  | bl j=>cases ry;exact PySem.EqMixed.ne_str_bool (fin_bl I q (by simp))
  | int j=>obtain⟨t',rfl⟩:=ry;exact PySem.EqMixed.ne_str_int (fin_bl I q (by simp))
  | str j=>obtain⟨t',rfl⟩:=ry;exact ne_str (fin_bl I q (congrArg not dec_str))
  | _=>exact absurd (show false=true from hs) Bool.false_ne_true
 | byt i=>
  obtain⟨t,rfl⟩:=rx
  cases y with
  | byt j=>obtain⟨t',rfl⟩:=ry;exact PySem.W.ne_bytes (fin_bl I q (congrArg not dec_byt))
  | _=>exact absurd (show false=true from hs) Bool.false_ne_true
 | _=>cases y <;> exact absurd (show false=true from hs) Bool.false_ne_true
theorem op_lt:OpR X (compareOp .Lt) (rI0 fun i j=>.bl (decide (i<j))):=opB0 fun _ _ _ _ _ _ _ q=>lt_int q
theorem op_gt:OpR X (compareOp .Gt) (rI0 fun i j=>.bl (decide (j<i))):=opB0 fun _ _ _ _ _ _ _ q=>gt_int q
theorem op_ge:OpR X (compareOp .GtE) (rI0 fun i j=>.bl (decide (j<=i))):=opB0 fun _ _ _ _ _ _ _ q=>ge_int q
theorem nomark (b:Expr){op:CmpOp}(h:op ≠ .In:=by decide)(h2:op ≠ .NotIn:=by decide):behindInMarks op b=false:=by
 have e1:(op==CmpOp.In)=false:=by cases op <;> first | rfl | exact absurd rfl h
 have e2:(op==CmpOp.NotIn)=false:=by cases op <;> first | rfl | exact absurd rfl h2
 cases b <;> simp[behindInMarks,e1,e2]
theorem pe_cmpR {op:CmpOp}{r:R2}(ho:OpR X (compareOp op) r)(ha:PE X a ta)(hb:PE X b tb)(hm:behindInMarks op b=false):PE X (.Compare a [op] [b] pos) (tOp r ta tb):=by
 intro pins s σ H Q I h
 exact wpAny_Compare1 (binT ha hb I h fun v u s2 x y H2 I2 rx ry q=>ho pins s2 σ H2 x y v u Q I2 rx ry q) hm
def tTest (t:TE):TT:=fun σ H Q=>t σ H fun x H'=>∃k,x = .bl k/\Q k H'
theorem pt_cmpR {op:CmpOp}{r:R2}(ho:OpR X (compareOp op) r)(ha:PE X a ta)(hb:PE X b tb)(hm:behindInMarks op b=false):PT X (.Compare a [op] [b] pos) (tTest (tOp r ta tb)):=by
 intro pins s σ H Q I h
 refine wpAny_isTrue_Compare1 (thn (ha pins s σ H _ I h) fun v s1 ⟨x,H1,I1,r1,q1⟩=>thn (hb pins s1 σ H1 _ I1 q1) fun u s2 ⟨y,H2,I2,r2,q2⟩=>
  thn (ho pins s2 σ H2 x y v u _ I2 r1 r2 q2) fun c s3 ⟨z,H3,I3,r3,k,e,q3⟩=>?_) hm
 subst e
 cases r3
 exact wpAny_truthy_bool ⟨H3,I3,q3⟩
theorem line63:(sizeLine:Nat)<2 ^ 63:=by rw[sizeLine_eq];decide
theorem vals1 {x:V}{us:List Value}(r:Vals [x] us):∃u,us=[u]/\RelV x u:=by
 cases r with
 | cons r1 r2=>cases r2;exact⟨_,rfl,r1⟩
theorem vals2 {x y:V}{us:List Value}(r:Vals [x,y] us):∃u w',us=[u,w']/\RelV x u/\RelV y w':=by
 cases r with
 | cons r1 r2=>
  cases r2 with
  | cons r3 r4=>cases r4;exact⟨_,_,rfl,r1,r3⟩
theorem call_max2 (hc:X.calm=true):CallR X (.builtin "max") (fun xs H Q=>∃i j,xs=[.int i,.int j]/\Q (.int (if j > i then j else i)) H):=by
 intro pins s σ H xs us Q I r h
 obtain⟨i,j,rfl,q⟩:=h
 obtain⟨u,w',rfl,⟨t,rfl⟩,⟨t',rfl⟩⟩:=vals2 r
 refine max_two_ints (I.ok.hd hc) fun h' tk k=>⟨_,H,I.kept k,?_,q⟩
 by_cases hj:j > i
 . rw[if_pos hj,if_pos hj];exact⟨_,rfl⟩
 . rw[if_neg hj,if_neg hj];exact⟨_,rfl⟩
theorem call_min2 (hc:X.calm=true):CallR X (.builtin "min") (fun xs H Q=>∃i j,xs=[.int i,.int j]/\Q (.int (if j<i then j else i)) H):=by
 intro pins s σ H xs us Q I r h
 obtain⟨i,j,rfl,q⟩:=h
 obtain⟨u,w',rfl,⟨t,rfl⟩,⟨t',rfl⟩⟩:=vals2 r
 refine min_two_ints (I.ok.hd hc) fun h' tk k=>⟨_,H,I.kept k,?_,q⟩
 by_cases hj:j<i
 . rw[if_pos hj,if_pos hj];exact⟨_,rfl⟩
 . rw[if_neg hj,if_neg hj];exact⟨_,rfl⟩
theorem call_int1:CallR X (.type "int") (fun xs H Q=>(∃i,xs=[.int i]/\Q (.int i) H)\/∃k,xs=[.bl k]/\Q (.int (if k then 1 else 0)) H):=by
 intro pins s σ H xs us Q I r h
 rcases h with ⟨i,rfl,q⟩ | ⟨k,rfl,q⟩
 . obtain⟨u,rfl,t,rfl⟩:=vals1 r
   exact call_int_int ⟨.int i,H,I,⟨_,rfl⟩,q⟩
 . obtain⟨u,rfl,r1⟩:=vals1 r
   cases r1
   exact call_int_bool ⟨.int (if k then 1 else 0),H,I.tok _,⟨_,rfl⟩,q⟩
end
end L2
namespace L2
open PySem PySem.Spec PyProof.Rows
structure ObjM (h:Heap)(x dx C:Addr)(mA:Str->Option Value):Prop where
 obj:h.get? x=some (PySem.W.instObj C dx)
 ns:h.Ns1 dx mA
 ne:dx≠x
theorem lookIn_ns {h:Heap}{dx:Addr}{mA:Str->Option Value}(n:h.Ns1 dx mA):∃od,h.get? dx=some od/\∀name,PySem.W.lookIn name od=some (mA name):=by
 obtain⟨o,es,ep,ho,hd,hk,_,hm⟩:=n
 refine⟨o,ho,fun name=>?_⟩
 have e:=hm name
 unfold nsFind findBy at e
 rw[<-Array.find?_toList] at e
 unfold PySem.W.lookIn
 rw[hd]
 dsimp only
 split
 . rename_i y q
   rw[q] at e
   exact congrArg some e
 . rename_i q
   rw[q] at e
   have a:es.toList.any (·.refKey)=false:=by
    rw[List.any_eq_false]
    intro y hy
    obtain⟨z,t,hkey⟩:=hk y (Array.mem_toList_iff.mp hy)
    simp[DictEntry.refKey,hkey]
   have a':¬ es.toList.any (·.refKey)=true:=by rw[a];exact Bool.false_ne_true
   rw[if_neg a']
   exact congrArg some e
theorem ObjM.look {h:Heap}{x dx C:Addr}{mA:Str->Option Value}(I:ObjM h x dx C mA):∃od,PySem.W.InstAt h x (PySem.W.instObj C dx) C (some od)/\∀name,PySem.W.lookIn name od=some (mA name):=
 let ⟨od,ho,hl⟩:=lookIn_ns I.ns
 ⟨od,⟨I.obj,rfl,rfl,ho⟩,hl⟩
section
variable {prog:Program}{w:World}{A:Around}{E:Value->Shared->Prop}{s:Shared}{K:PySem.W.Frag}{x dx C f:Addr}{mA:Str->Option Value}{name:Str}{v:Value}
end
theorem RelO.some_of {v:V}{o:Option Value}(r:RelO (some v) o):∃u,o=some u/\RelV v u:=by
 cases o with
 | none=>exact (show False from r).elim
 | some u=>exact⟨u,rfl,r⟩
section
variable {P:Program}{w:World}{H H':Hp}{h h':Heap}{a C dx:Addr}{fs fs':List (Str×V)}
theorem ins_get (hok:HOk P w H h)(e:H a=some (.ins C dx fs)):∃mA,ObjM h a dx C mA/\(∀f,RelO (fs.lookup f) (mA f))/\PySem.Within mA (fs.map (·.1))/\fs.length<=1000/\H dx=some (.own a):=by
 obtain⟨d,z,ne,ob,mA,n,r,q⟩:=(show ObjOk P w H h a (.ins C dx fs) from hok a _ e)
 exact⟨mA,⟨ob,n,ne⟩,r,q,z,d⟩
end
structure Cls (K:PySem.W.Frag)(C:Addr):Prop where
 pg:PySem.W.plainGet K C Str.empty=true
 hd:PySem.W.hasDictIn K C=true
 po:PySem.W.plainOver K C=true
 sa:PySem.W.findIn K (.ref C) "__setattr__" = some (some (.builtin "object.__setattr__"))
theorem Cls.get {K:PySem.W.Frag}{C:Addr}(c:Cls K C)(f:Str):PySem.W.plainGet K C f=true:=c.pg
section
variable {X:Cx}{pins:List (Addr×Obj)}{σ:St}{H:Hp}{s:Shared}{a C dx:Addr}{fs:List (Str×V)}{f:Str}{v:V}{A:Around}{E:Value->Shared->Prop}
end
section
variable {X:Cx}{o e value:Expr}{f:Str}{pos pos' tpos:Pos}{ta tv:TE}
end
section
variable {X:Cx}{pins:List (Addr×Obj)}{σ:St}{H:Hp}{s:Shared}{A:Around}{E:Value->Shared->Prop}{Q:Value->Shared->Prop}{c:Value}{b:Bool}
inductive TyOf (K:PySem.W.Frag)(H:Hp):V->Value->Prop where
 | non:TyOf K H .non (.type "NoneType")
 | bl (x:Bool):TyOf K H (.bl x) (.type "bool")
 | int (i:Int):TyOf K H (.int i) (.type "int")
 | str (x:Str):TyOf K H (.str x) (.type "str")
 | flt (x:UInt64):TyOf K H (.flt x) (.type "float")
 | lst {a:Addr}{xs:List V}(e:H a=some (.lst xs)):TyOf K H (.ref a) (.type "list")
 | frz {a:Addr}{o:Obj}{xs:List V}(e:H a=some (.frz o (.lst xs))):TyOf K H (.ref a) (.type "list")
 | tup {a:Addr}{xs:List V}(e:H a=some (.tup xs)):TyOf K H (.ref a) (.type "tuple")
 | dK {a:Addr}{kvs:List (Key×V)}(e:H a=some (.dK kvs)):TyOf K H (.ref a) (.type "dict")
 | dT {a:Addr}{kvs:List (List Key×V)}(e:H a=some (.dT kvs)):TyOf K H (.ref a) (.type "dict")
 | ins {a C dx:Addr}{fs:List (Str×V)}(e:H a=some (.ins C dx fs))(cl:Cls K C)(ha:PySem.W.findIn K (.ref C) "__class__" = some (some (.builtin "object.__class__")))
  (hn:PySem.W.specialIn K (.builtin "object.__class__") "__get__" = some (some (.builtin "getset_descriptor.__get__"))) (htk:PySem.W.takesIn K (.builtin "object.__class__")=some true)
  (hm:PySem.W.mroIn K C (.type "object")=some true):TyOf K H (.ref a) (.ref C)
theorem isinst_ok {x:V}{u t:Value}(I:Inv X pins σ H s)(rx:RelV x u)(ty:TyOf X.K H x t)(e:PySem.W.kitOne X.K t c=some b)(h:∀tk,Q (.bool b) { s with toks:=tk }) :
 wpAny (model X.prog X.w) A (call (.builtin "isinstance") [u,c]) Q E s:=by
 cases ty with
 | non=>cases (show u=Value.none from rx);exact PySem.W.kia_one PySem.W.kitx_none I.kIn True.intro e (fun z=>nomatch z) h
 | bl y=>cases (show u=Value.bool y from rx);exact PySem.W.kia_one PySem.W.kitx_bool I.kIn True.intro e (fun z=>nomatch z) h
 | int i=>obtain⟨t,q⟩:=(show ∃t,u=Value.int i t from rx);cases q;exact PySem.W.kia_one PySem.W.kitx_int I.kIn True.intro e (fun z=>nomatch z) h
 | str y=>obtain⟨t,q⟩:=(show ∃t,u=Value.str y t from rx);cases q;exact PySem.W.kia_one PySem.W.kitx_str I.kIn True.intro e (fun z=>nomatch z) h
 | flt y=>obtain⟨t,q⟩:=(show ∃t,u=Value.float y t from rx);cases q;exact PySem.W.kia_one PySem.W.kitx_float I.kIn True.intro e (fun z=>nomatch z) h
 | @lst a xs ea=>
  cases (show u=Value.ref a from rx)
  obtain⟨_,_,n,_,h1⟩:=(show ObjOk X.prog X.w H s.heap a (.lst xs) from I.hok a _ ea)
  exact PySem.W.kia_one PySem.W.kitx_list I.kIn ⟨_,h1,rfl⟩ e (fun z=>nomatch z) h
 | @frz a ob xs ea=>
  cases (show u=Value.ref a from rx)
  obtain⟨_,_,_,n,_,h1⟩:=(show ObjOk X.prog X.w H s.heap a (.frz ob (.lst xs)) from I.hok a _ ea)
  exact PySem.W.kia_one PySem.W.kitx_list I.kIn ⟨_,h1,rfl⟩ e (fun z=>nomatch z) h
 | @tup a xs ea=>
  cases (show u=Value.ref a from rx)
  obtain⟨_,_,_,p⟩:=(show ObjOk X.prog X.w H s.heap a (.tup xs) from I.hok a _ ea)
  obtain⟨o,h1,h2,_⟩:=p
  exact PySem.W.kia_one PySem.W.kitx_tuple I.kIn ⟨o,h1,h2⟩ e (fun z=>nomatch z) h
 | @dK a kvs ea=>
  cases (show u=Value.ref a from rx)
  obtain⟨_,_,vs,_,p⟩:=(show ObjOk X.prog X.w H s.heap a (.dK kvs) from I.hok a _ ea)
  obtain⟨o,es,ep,h1,h2,_⟩:=p
  exact PySem.W.kia_one PySem.W.kitx_dict I.kIn ⟨o,h1,h2.1⟩ e (fun z=>nomatch z) h
 | @dT a kvs ea=>
  cases (show u=Value.ref a from rx)
  obtain⟨_,_,xs,_,o,es,ep,h1,h2,_⟩:=(show ObjOk X.prog X.w H s.heap a (.dT kvs) from I.hok a _ ea)
  exact PySem.W.kia_one PySem.W.kitx_dict I.kIn ⟨o,h1,h2.1⟩ e (fun z=>nomatch z) h
 | @ins a C dx fs ea cl ha hn htk hm=>
  cases (show u=Value.ref a from rx)
  obtain⟨mA,O,_⟩:=ins_get I.hok ea
  obtain⟨od,J,_⟩:=O.look
  exact PySem.W.kia_one (PySem.W.kitx_own (cl.get _) cl.hd ha hn htk hm) I.kIn J e (fun z=>nomatch z) h
end
end L2
namespace L2
open PySem PySem.Spec PyProof.Rows
structure Room (k:Nat)(A:Around):Prop where
 hd:A.handled=none
 dp:A.depth+3*k+5<recursionLimit
 un:A.units+16*k+200<cLine
 gd:A.guards=some []
theorem Room.mono {j k:Nat}{A:Around}(r:Room k A)(h:j<=k):Room j A:=⟨r.hd,by have:=r.dp;omega,by have:=r.un;omega,r.gd⟩
theorem Room.deeper {k:Nat}{A:Around}(r:Room (k+1) A)(env:Env):Room k (A.deeper env):=
 ⟨r.hd,by have:=r.dp;show A.depth+1+3*k+5<_;omega,by have:=r.un;show A.units+3+16*k+200<_;omega,r.gd⟩
theorem Room.depth {k:Nat}{A:Around}(r:Room k A):A.depth<recursionLimit:=by have:=r.dp;omega
theorem Room.units {k:Nat}{A:Around}(r:Room k A):A.units+64<cLine:=by have:=r.un;omega
theorem Room.units0 {k:Nat}{A:Around}(r:Room k A):A.units<cLine:=by have:=r.un;omega
def tNil:TA:=fun _ H Q=>Q [] H
def tCons (ta:TE)(tr:TA):TA:=fun σ H Q=>ta σ H fun x H1=>tr σ H1 fun xs H2=>Q (x::xs) H2
section
variable {X:Cx}{e:Expr}{es:List Expr}{te:TE}{t:TA}{pos:Pos}
theorem pa_nil:PA X [] tNil:=fun _ _ _ _ H Q I h=>Calls.spliced_nil ⟨[],H,I,.nil,h⟩
theorem pa_cons (ha:PE X e te)(hr:PA X es t)(hs:starEach (e::es) X.env=(false,eval e X.env)::starEach es X.env:=by rfl):PA X (e::es) (tCons te t):=by
 intro pos pins s σ H Q I h
 rw[hs]
 show wpAny _ _ (spliced ((false,eval e X.env)::backTo pos (starEach es X.env))) _ _ s
 refine Calls.spliced_cons (thn (ha pins s σ H _ I h) fun u s1 ⟨x,H1,I1,r1,q1⟩=>?_)
 exact thn (hr pos pins s1 σ H1 _ I1 q1) fun us s2 ⟨xs,H2,I2,r2,q2⟩=>⟨x::xs,H2,I2,.cons r1 r2,q2⟩
def tTup (t:TA):TE:=fun σ H Q=>t σ H fun xs H1=>xs.length<=sizeLine/\∀p,H1 p=none->Q (.ref p) (upd H1 p (.tup xs))
def tLst (t:TA):TE:=fun σ H Q=>t σ H fun xs H1=>xs.length<=sizeLine/\∀p,H1 p=none->Q (.ref p) (upd H1 p (.lst xs))
theorem pe_tup {x1} (h:PA X es t):PE X (.Tuple es x1 pos) (tTup t):=by
 intro pins s σ H Q I hq
 refine wpAny_Tuple_spliced (thn (h pos pins s σ H _ I hq) fun us s1 ⟨xs,H1,I1,r,z,q⟩=>⟨by rw[<-r.length];exact z,?_⟩)
 have hf:H1 s1.heap.objs.size=none:=I1.hok.fresh (Nat.le_refl _)
 refine⟨.ref s1.heap.objs.size,upd H1 s1.heap.objs.size (.tup xs),I1.laid (t':=s1.toks) (fun b u e=>Heap.get?_push_of_some _ e) (Nat.le_refl _) ?_,rfl,q _ hf⟩
 exact⟨⟨z,_,Heap.get?_push_size _ rfl,rfl⟩,us,r,⟨_,Heap.get?_push_size _ rfl,rfl,_,rfl⟩⟩
theorem pe_lst (h:PA X es t):PE X (.List es pos) (tLst t):=by
 intro pins s σ H Q I hq
 refine wpAny_List_spliced (thn (h pos pins s σ H _ I hq) fun us s1 ⟨xs,H1,I1,r,z,q⟩=>⟨by rw[<-r.length];exact z,?_⟩)
 have hf:H1 s1.heap.objs.size=none:=I1.hok.fresh (Nat.le_refl _)
 refine⟨.ref s1.heap.objs.size,upd H1 s1.heap.objs.size (.lst xs),I1.laid (t':=s1.toks) (fun b u e=>Heap.get?_push_of_some _ e) (Nat.le_refl _) ?_,rfl,q _ hf⟩
 exact⟨z,us,0,r,Heap.get?_push_size _ rfl⟩
end
abbrev Sp:=List V->Hp->VK->XK->Prop
abbrev CXT:=List Env->Hp->Shared->XK->Value->Shared->Prop
structure Env0 (P:Program)(w:World)(K:PySem.W.Frag)(mg:Str->Option Value)(base:Heap)(A:Around)(outer:List Env)(s:Shared)(H:Hp):Prop where
 frames:A.frames=some outer
 mod:Mod K mg base
 bs:∀b o,base.get? b=some o->s.heap.get? b=some o/\H b=none
 bsz:base.objs.size<=s.heap.objs.size
 funs:s.heap.FunFrames base outer
 frf:∀b∈frs outer,H b=none
 hok:HOk P w H s.heap
 bare:AllBare s.gens
def CE (outer:List Env)(P:Program)(w:World)(H:Hp)(s:Shared)(Q:VK)(u:Value)(s':Shared):Prop:=
 ∃v H',s'.os=s.os/\AllBare s'.gens/\Un (frs outer) [] H H' s.heap s'.heap/\HOk P w H' s'.heap/\RelV v u/\Q v H'
def CR (CX:CXT)(outer:List Env)(P:Program)(w:World)(H:Hp)(s:Shared)(Q:VK)(E:XK)(r:Result)(s':Shared):Prop:=
 match r with
 | .ok (.ret u)=>CE outer P w H s Q u s'
 | .ok _=>False
 | .error e=>CX outer H s E e s'
structure FnOk (P:Program)(w:World)(K:PySem.W.Frag)(mg:Str->Option Value)(base:Heap)(CX:CXT)(k:Nat)(f:Addr)(fd:FuncData)(ps:List Str)(sp:Sp):Prop where
 len:∀vs H Q E,sp vs H Q E->vs.length=ps.length
 run:∀(A:Around)(outer:List Env)(s:Shared)(H:Hp)(args:Args)(us:List Value)(vs:List V)(Q:VK)(E:XK),Room k A->Env0 P w K mg base A outer s H->BindsTo s fd args (ps.zip us)->Vals vs us->sp vs H Q E ->
  codeAny (model P w) A (.call (.ref f) args) (CR CX outer P w H s Q E) s
theorem FnOk.mono {P:Program}{w:World}{K:PySem.W.Frag}{mg:Str->Option Value}{base:Heap}{CX:CXT}{j k:Nat}{f:Addr}{fd:FuncData}{ps:List Str}{sp:Sp}(F:FnOk P w K mg base CX j f fd ps sp)(h:j<=k) :
 FnOk P w K mg base CX k f fd ps sp:=⟨F.len,fun A outer s H args us vs Q E hr=>F.run A outer s H args us vs Q E (hr.mono h)⟩
theorem FnOk.imp {P:Program}{w:World}{K:PySem.W.Frag}{mg:Str->Option Value}{base:Heap}{CX:CXT}{k:Nat}{f:Addr}{fd:FuncData}{ps:List Str}{sp sp':Sp}(F:FnOk P w K mg base CX k f fd ps sp)
 (h:∀vs H Q E,sp' vs H Q E->sp vs H Q E):FnOk P w K mg base CX k f fd ps sp':=
 ⟨fun vs H Q E q=>F.len vs H Q E (h _ _ _ _ q),fun A outer s H args us vs Q E hr he hb hv hs=>F.run A outer s H args us vs Q E hr he hb hv (h _ _ _ _ hs)⟩
section
variable {X:Cx}{pins:List (Addr×Obj)}{σ:St}{H:Hp}{s s':Shared}
theorem Inv.env0 (I:Inv X pins σ H s):Env0 X.prog X.w X.K X.mg X.base X.A X.stack s H:=
 ⟨I.ok.frames,I.ok.mod,I.bs,Nat.le_trans I.ok.bsz I.sz,I.stack,I.stkFree,I.hok,I.bare⟩
theorem Inv.after {Q:VK}{u:Value}(I:Inv X pins σ H s)(h:CE X.stack X.prog X.w H s Q u s'):EP X pins σ Q u s':=by
 obtain⟨v,H',os,bare,un,hok,r,q⟩:=h
 obtain⟨hh,g,d,t,os'⟩:=s'
 obtain rfl:os'=s.os:=os
 exact⟨v,H',I.call (h':=hh) (g':=g) (d':=d) (t':=t) (ch:=[]) un hok bare (fun b z=>absurd z (by simp)),r,q⟩
end
def tCall (sp:Sp)(dvs:List V)(E:XK)(t:TA):TE:=fun σ H Q=>t σ H fun vs H1=>sp (vs++dvs) H1 Q E
def Binds (K:PySem.W.Frag)(fd:FuncData)(ps:List Str)(ds:List Value):Prop:=
 ∀(s:Shared)(us:List Value),K.In s.heap->(us++ds).length=ps.length->BindsTo s fd ⟨us,[]⟩ (ps.zip (us++ds))
theorem Binds.all {K:PySem.W.Frag}{fd:FuncData}{ps:List Str}(h:∀us:List Value,us.length=ps.length->bindArgs fd ⟨us,[]⟩=pure (ps.zip us)):Binds K fd ps []:=fun s us _ hl=>by
 rw[List.append_nil] at hl ⊢
 exact .of_eq (h us hl)
def Passes (CX:CXT)(X:Cx)(E:XK):Prop:=∀(pins:List (Addr×Obj))(σ:St)(H:Hp)(s:Shared)(e:Value)(s':Shared),Inv X pins σ H s->CX X.stack H s E e s'->X.xe e s'
section
variable {X:Cx}{CX:CXT}{k:Nat}{f C:Addr}{fd:FuncData}{ps:List Str}{sp:Sp}{dvs:List V}{ds:List Value}{E:XK}{x m:Str}{p pos apos:Pos}{e o:Expr}{es:List Expr}{ta:TE}{t:TA}
theorem run_fn {pins:List (Addr×Obj)}{σ:St}{H:Hp}{s:Shared}{Q:VK}{us:List Value}{vs:List V}(F:FnOk X.prog X.w X.K X.mg X.base CX k f fd ps sp)(hr:Room k X.A)(hb:Binds X.K fd ps ds)(hd:Vals dvs ds)(hx:Passes CX X E)
 (I:Inv X pins σ H s)(r:Vals vs us)(h:sp (vs++dvs) H Q E):wpAny (model X.prog X.w) X.A (call (.ref f) us) (EP X pins σ Q) X.xe s:=by
 have r2:Vals (vs++dvs) (us++ds):=r.append hd
 have hl:(us++ds).length=ps.length:=by rw[<-r2.length];exact F.len _ _ _ _ h
 refine wpAny_call (codeAny_mono (F.run X.A X.stack s H ⟨us,[]⟩ (us++ds) (vs++dvs) Q E hr I.env0 (hb s us I.kIn hl) r2 h) fun r s' hq=>?_)
 cases r with
 | error e=>exact hx pins σ H s e s' I hq
 | ok fl=>
  cases fl with
  | ret u=>exact I.after hq
  | next=>exact False.elim hq
  | brk=>exact False.elim hq
  | cont=>exact False.elim hq
theorem pe_call (F:FnOk X.prog X.w X.K X.mg X.base CX k f fd ps sp)(hr:Room k X.A)(hg:Gl X x)(hm:X.mg x=some (.ref f))(hk:PySem.W.keepIn X.K (.ref f)=true)(hb:Binds X.K fd ps ds)(hd:Vals dvs ds)(hx:Passes CX X E)
 (ha:PA X (e::es) t)(hdb:(x==("__debug__" : Str))=false:=by decide) (he:starEach (e::es) X.env=(false,eval e X.env)::starEach es X.env:=by rfl)(hpl:(backTo pos (starEach es X.env)).any (·.1)=false:=by rfl) :
 PE X (.Call (.Name x p) (e::es) [] pos) (tCall sp dvs E t):=by
 intro pins s σ H Q I h
 refine wpAny_Call_Name_kw (ld_glob I hg hm ?_ hdb)
 refine PySem.W.callWith_K (h₀:=X.base) I.ok.mod.kin hk (thn (ha pos pins s σ H _ I h) fun us s1 ⟨vs,H1,I1,r,q⟩=>⟨I1.kIn,?_⟩) he hpl
 exact run_fn F hr hb hd hx I1 r q
end
section
variable {X:Cx}{CX:CXT}{k:Nat}{f C:Addr}{fd:FuncData}{ps ks:List Str}{sp:Sp}{E:XK}{x m:Str}{p pos apos kpos:Pos}{e o:Expr}{es:List Expr}{kws:List Keyword}{te ta:TE}{t tk:TA}{nm:Option Str}
variable {g:List Value->List Value->List Value}{gV:List V->List V->List V}
end
structure FnScope (N P:List Str)(sc:Scope):Prop where
 kind:sc.kind = .function
 co:sc.isCoroutine=false
 gen:sc.isGenerator=false
 nd:N.Nodup
 pre:N.take P.length=P
 par:∀x∈P,sc.names.lookup x=some .local\/sc.names.lookup x=some .cell
 nofree:∀y∈sc.names,y.2 ≠ .free
theorem bindL_out {kindOf:Str->Option NameKind}{x:Str}:∀{binds:List (Str×Value)}{m:Str->Option Value},(∀v,(x,v)∉binds)->bindL kindOf binds m x=m x
 | [],_,_=>rfl
 | (n,v)::r,m,h=>by
  unfold bindL
  rw[bindL_out fun w hw=>h w (List.mem_cons_of_mem _ hw)]
  split
  . have:x≠n:=by rintro rfl;exact h v List.mem_cons_self
    simp[this]
  . rfl
theorem bindC_out {kindOf:Str->Option NameKind}{x:Str}:∀{binds:List (Str×Value)}{m:Str->Option Value},(∀v,(x,v)∉binds)->bindC kindOf binds m x=m x
 | [],_,_=>rfl
 | (n,v)::r,m,h=>by
  unfold bindC
  rw[bindC_out fun w hw=>h w (List.mem_cons_of_mem _ hw)]
  split
  . rfl
  . have:x≠n:=by rintro rfl;exact h v List.mem_cons_self
    simp[this]
theorem bindL_get {kindOf:Str->Option NameKind}{x:Str}{v:Value}:∀{P:List Str}{vs:List Value}{i:Nat}{m:Str->Option Value},P.Nodup->P[i]? = some x->vs[i]? = some v->kindOf x=some .local ->
 bindL kindOf (P.zip vs) m x=some v
 | [],_,_,_,_,h,_,_=>by simp at h
 | _::_,[],_,_,_,_,h,_=>by simp at h
 | p::P,w::vs,0,m,nd,h1,h2,hk=>by
  simp at h1 h2;subst h1;subst h2
  show bindL kindOf ((p,w)::P.zip vs) m p=_
  unfold bindL
  rw[bindL_out fun v hv=>(List.nodup_cons.mp nd).1 (List.of_mem_zip hv).1,if_pos hk]
  simp
 | p::P,w::vs,i+1,m,nd,h1,h2,hk=>by
  show bindL kindOf ((p,w)::P.zip vs) m x=_
  unfold bindL
  exact bindL_get (i:=i) (List.nodup_cons.mp nd).2 (by simpa using h1) (by simpa using h2) hk
theorem bindC_get {kindOf:Str->Option NameKind}{x:Str}{v:Value}:∀{P:List Str}{vs:List Value}{i:Nat}{m:Str->Option Value},P.Nodup->P[i]? = some x->vs[i]? = some v->kindOf x≠some .local ->
 bindC kindOf (P.zip vs) m x=some v
 | [],_,_,_,_,h,_,_=>by simp at h
 | _::_,[],_,_,_,_,h,_=>by simp at h
 | p::P,w::vs,0,m,nd,h1,h2,hk=>by
  simp at h1 h2;subst h1;subst h2
  show bindC kindOf ((p,w)::P.zip vs) m p=_
  unfold bindC
  rw[bindC_out fun v hv=>(List.nodup_cons.mp nd).1 (List.of_mem_zip hv).1,if_neg hk]
  simp
 | p::P,w::vs,i+1,m,nd,h1,h2,hk=>by
  show bindC kindOf ((p,w)::P.zip vs) m x=_
  unfold bindC
  exact bindC_get (i:=i) (List.nodup_cons.mp nd).2 (by simpa using h1) (by simpa using h2) hk
def start (N:List Str)(vs:List V):St:=vs.map some++List.replicate (N.length-vs.length) none
def cxOf (CX:CXT)(P:Program)(w:World)(K:PySem.W.Frag)(mg:Str->Option Value)(base:Heap)(N:List Str)(qual:Str)(scope:Scope)(f:Addr)(cd:Value)(A:Around)(outer:List Env)(s:Shared)(H:Hp)(E:XK):Cx where
 prog:=P
 w:=w
 K:=K
 mg:=mg
 base:=base
 A:=A.deeper (envOfC qual scope s.heap.objs.size f cd)
 N:=N
 s₀:=s
 H₀:=H
 env:=envOfC qual scope s.heap.objs.size f cd
 outer:=outer
 stack:=envOfC qual scope s.heap.objs.size f cd::outer
 ex:=[]
 calm:=true
 fn:=fun _=>true
 pn:=[]
 xe:=fun e s'=>wpAny (model P w) (A.deeper (envOfC qual scope s.heap.objs.size f cd)) (leaving (envOfC qual scope s.heap.objs.size f cd) e) (fun _ s''=>CX outer H s E e s'') (fun e' s''=>CX outer H s E e' s'') s'
theorem cell_has {sc:Scope}{n:Nat}{x:Str}(h:sc.names.lookup x=some .cell):∃c,(cellsFrom n sc.names []).lookup x=some c:=by
 have q:=PySem.W.cellsFrom_some sc.names n [] (.inl h)
 exact Option.isSome_iff_exists.mp q
theorem inv_start {CX:CXT}{P:Program}{w:World}{K:PySem.W.Frag}{mg:Str->Option Value}{base:Heap}{N ps:List Str}{qual:Str}{scope:Scope}{f:Addr}{cd:Value}{A:Around}{outer:List Env}{s s1:Shared}{H:Hp}{E:XK}{us:List Value}{vs:List V}
 (S:FnScope N ps scope)(hd:A.handled=none)(e0:Env0 P w K mg base A outer s H)(hl:vs.length=ps.length)(r:Vals vs us)
 (x:InCallC s s.heap.objs.size (bindL (envOfC qual scope s.heap.objs.size f cd).kindOf (ps.zip us) fun _=>none) (cellsFrom (s.heap.objs.size+1) scope.names []) (bindC (envOfC qual scope s.heap.objs.size f cd).kindOf (ps.zip us) fun _=>none) s1) :
 Inv (cxOf CX P w K mg base N qual scope f cd A outer s H E) [] (start N vs) H s1:=by
 have hpl:ps.length<=N.length:=by have:=congrArg List.length S.pre;rw[List.length_take] at this;omega
 obtain⟨h1,tk,rfl,hk⟩:=x.done
 have noA:∀b:Addr,b∉(cxOf CX P w K mg base N qual scope f cd A outer s H E).ex:=fun b z=>absurd (show b∈([]:List Addr) from z) (by simp)
 refine⟨⟨e0.mod,S.kind,rfl,rfl,Nat.le_refl _,fun y z c h1 h2=>?_,fun y hy=>?_,fun y c _ h=>?_,fun _=>hd,Around.frames_deeper e0.frames,.inr ⟨rfl,rfl⟩,fun b z=>absurd z (noA b),e0.bs,e0.bsz,fun b _ _=>noA b,fun b z=>absurd z (noA b),e0.funs,e0.frf⟩,
  rfl,e0.bare,Un.kept hk,⟨_,x.toInCall.ns,fun i y v h1 h2 h3=>?_⟩,fun y c h=>⟨_,x.cell y c h⟩,e0.hok.fresh (Nat.le_refl _),fun y c h=>?_,fun p hp=>absurd (show p∈([]:List (Addr×Obj)) from hp) (by simp),e0.hok.kept hk,?_⟩
 . exact name_of_addr x.apart (PySem.mem_of_lookup h1) (PySem.mem_of_lookup h2)
 . have hy:scope.names.lookup y=some .cell\/scope.names.lookup y=some .free:=hy
   rcases hy with hy | hy
   . exact cell_has hy
   . exact absurd rfl (S.nofree _ (PySem.mem_of_lookup hy))
 . exact Nat.le_of_lt (x.above y c (PySem.mem_of_lookup h))
 . have hi:i<vs.length:=by
    unfold start at h2
    by_cases hi:i<vs.length
    . exact hi
    . rw[List.getElem?_append_right (by simpa using hi)] at h2
      rw[List.getElem?_replicate] at h2
      split at h2 <;> cases h2
   have ha:vs[i]? = some v:=by
    unfold start at h2
    rw[List.getElem?_append_left (by simpa using hi),List.getElem?_map] at h2
    cases e:vs[i]? with
    | none=>rw[e] at h2;cases h2
    | some a=>rw[e] at h2;cases h2;rfl
   obtain⟨u,hu,rv⟩:=r.get ha
   have hp:ps[i]? = some y:=by
    rw[<-S.pre,List.getElem?_take_of_lt (by omega)];exact h1
   have ndP:ps.Nodup:=by rw[<-S.pre];exact S.nd.sublist (List.take_sublist _ _)
   refine⟨u,rv,?_⟩
   rcases S.par y (List.mem_of_getElem? hp) with k | k
   . exact .inl ⟨k,bindL_get ndP hp hu k⟩
   . obtain⟨c,e⟩:=cell_has (n:=s.heap.objs.size+1) k
     refine .inr ⟨.inl k,c,e,?_⟩
     have q:=x.cell y c e
     rw[bindC_get ndP hp hu (by show scope.names.lookup y≠_;rw[k];decide)] at q
     exact q
 . exact e0.hok.fresh (Nat.le_of_lt (x.above y c (PySem.mem_of_lookup h)))
 . unfold start
   show _=N.length
   rw[List.length_append,List.length_map,List.length_replicate]
   omega
theorem fn_of {CX:CXT}{P:Program}{w:World}{K:PySem.W.Frag}{mg:Str->Option Value}{base:Heap}{k:Nat}{f:Addr}{name qual:Str}{params:Arguments}{body:List Stmt}{scope:Scope}{dV kV doc pm cdv ct oc:Value}{an od:Option Addr}
 {osl:Array (Option Value)}{N ps:List Str}{sp:Sp}(lk:K.lookup f=some ⟨oc,od,.func (PySem.W.fnOf name qual params body scope dV kV doc pm an cdv ct),osl⟩)(hcd:PySem.W.codeIn K cdv qual=true)(S:FnScope N ps scope)
 (len:∀vs H Q E,sp vs H Q E->vs.length=ps.length)
 (hbody:∀(A:Around)(outer:List Env)(s:Shared)(H:Hp)(vs:List V)(Q:VK)(E:XK),Room k (A.deeper (envOfC qual scope s.heap.objs.size f cdv))->sp vs H Q E ->
  ∃t,PSs (cxOf CX P w K mg base N qual scope f cdv A outer s H E) body t/\t { nx:=fun _ H'=>Q .non H',rt:=Q } (start N vs) H) :
 FnOk P w K mg base CX (k+1) f (PySem.W.fnOf name qual params body scope dV kV doc pm an cdv ct) ps sp:=by
 refine⟨len,fun A outer s H args us vs Q E hr e0 hb r hsp=>?_⟩
 have hl:=len _ _ _ _ hsp
 have KX:K.In s.heap:=e0.mod.kin.keeps fun b o e=>(e0.bs b o e).1
 have lim:s.heap.NoLimit:=e0.mod.nolimit.keeps fun b o e=>(e0.bs b o e).1
 have hkind:∀y∈ps.zip us,scope.names.lookup y.1=some .local\/(scope.names.lookup y.1=some .cell/\((cellsFrom (s.heap.objs.size+1) scope.names []).lookup y.1).isSome=true):=fun ⟨n,v⟩ hy=>by
  rcases S.par n (List.of_mem_zip hy).1 with q | q
  . exact .inl q
  . exact .inr ⟨q,PySem.W.cellsFrom_some _ _ _ (.inl q)⟩
 refine codeAny_call_function hr.depth (KX _ _ lk) rfl S.co S.gen rfl (PySem.W.codeRec_of KX hcd) (hb _ _ _ _ ?_)
 refine wpAny_newFunctionEnv_cells S.kind hkind fun env he s1 x=>?_
 subst he
 refine⟨lim.keeps x.toInCall.keep,codeAny_func ?_⟩
 obtain⟨t,ht,hq⟩:=hbody A outer s H vs Q E (hr.deeper _) hsp
 have I:Inv (cxOf CX P w K mg base N qual scope f cdv A outer s H E) [] (start N vs) H s1:=inv_start S hr.hd e0 hl r x
 refine wpAny_mono (ht [] s1 (start N vs) H _ I hq) (fun fl s' hs=>?_) fun e s' hs=>hs
 have fin:∀{σ':St}{H':Hp}{v:V}{u:Value},Inv (cxOf CX P w K mg base N qual scope f cdv A outer s H E) [] σ' H' s'->RelV v u->Q v H'->CE outer P w H s Q u s':=
  fun {σ' H' v u} J rv q=>⟨v,H',J.os,J.bare,J.base,J.hok,rv,q⟩
 cases fl with
 | ret u=>
  obtain⟨v,σ',H',J,rv,q⟩:=hs
  exact fin J rv q
 | next=>
  obtain⟨σ',H',J,q⟩:=hs
  exact fin (v:=V.non) (u:=Value.none) J rfl q
 | brk=>
  obtain⟨_,_,_,q⟩:=hs
  exact False.elim q
 | cont=>
  obtain⟨_,_,_,q⟩:=hs
  exact False.elim q
end L2
namespace L2
open PySem PySem.Spec PyProof.Rows
section
variable {X:Cx}{x:Str}{p pos:Pos}{e:Expr}{es:List Expr}{t:TA}{id T:String}{r:List V->Hp->VK->Prop}
def tCB (r:List V->Hp->VK->Prop)(t:TA):TE:=fun σ H Q=>t σ H fun vs H1=>r vs H1 Q
theorem pe_callB (hc:CallR X (.builtin id) r)(hg:Gl X x)(hm:X.mg x=none)(hv:bootBuiltins x=some (.builtin id))(ha:PA X (e::es) t)(hn:x ≠ "__name__" := by decide) (hdb:(x==("__debug__" : Str))=false:=by decide)
 (he:starEach (e::es) X.env=(false,eval e X.env)::starEach es X.env:=by rfl)(hpl:(backTo pos (starEach es X.env)).any (·.1)=false:=by rfl):PE X (.Call (.Name x p) (e::es) [] pos) (tCB r t):=by
 intro pins s σ H Q I h
 refine wpAny_Call_Name_kw (ld_blt I hg hm hv ?_ hn hdb)
 exact PyProof.Rows.callWith_builtin1 (thn (ha pos pins s σ H _ I h) fun us s1 ⟨vs,H1,I1,r1,q1⟩=>hc pins s1 σ H1 vs us Q I1 r1 q1) he hpl
theorem pe_callTy (hc:CallR X (.type T) r)(hg:Gl X x)(hm:X.mg x=none)(hv:bootBuiltins x=some (.type T))(ha:PA X (e::es) t)(hn:x ≠ "__name__" := by decide) (hdb:(x==("__debug__" : Str))=false:=by decide)
 (he:starEach (e::es) X.env=(false,eval e X.env)::starEach es X.env:=by rfl)(hpl:(backTo pos (starEach es X.env)).any (·.1)=false:=by rfl):PE X (.Call (.Name x p) (e::es) [] pos) (tCB r t):=by
 intro pins s σ H Q I h
 refine wpAny_Call_Name_kw (ld_blt I hg hm hv ?_ hn hdb)
 exact PyProof.Rows.callWith_type1 (thn (ha pos pins s σ H _ I h) fun us s1 ⟨vs,H1,I1,r1,q1⟩=>hc pins s1 σ H1 vs us Q I1 r1 q1) he hpl
end
end L2
namespace L2
open PySem PySem.Spec PyProof.Rows
section
variable {κ:Type} [DecidableEq κ]
def valV (kvs:List (κ×V))(k:κ):Option V:=(kvs.find? fun kv=>decide (kv.1=k)).map (·.2)
def putK (kvs:List (κ×V))(k:κ)(v:V):List (κ×V):=
 if (kvs.any fun kv=>decide (kv.1=k))=true then kvs.map (fun kv=>if kv.1=k then (kv.1,v) else kv) else kvs++[(k,v)]
theorem valV_pos {p:κ×V}{r:List (κ×V)}{k:κ}(e:p.1=k):valV (p::r) k=some p.2:=by simp[valV,List.find?_cons,e]
theorem valV_neg {p:κ×V}{r:List (κ×V)}{k:κ}(e:¬ p.1=k):valV (p::r) k=valV r k:=by simp[valV,List.find?_cons,e]
theorem valV_any (k:κ):∀kvs:List (κ×V),(kvs.any fun kv=>decide (kv.1=k))=(valV kvs k).isSome
 | []=>rfl
 | p::r=>by
  rw[List.any_cons]
  by_cases e:p.1=k
  . simp only[valV_pos e,decide_eq_true e,Bool.true_or,Option.isSome_some]
  . rw[valV_neg e,decide_eq_false e,Bool.false_or];exact valV_any k r
theorem valV_map (k j:κ)(y:V):∀kvs:List (κ×V),valV (kvs.map fun kv=>if kv.1=k then (kv.1,y) else kv) j=(valV kvs j).map fun x=>if j=k then y else x
 | []=>rfl
 | p::r=>by
  have ih:=valV_map k j y r
  rw[List.map_cons]
  by_cases h:p.1=k
  . rw[if_pos h]
    by_cases e:p.1=j
    . rw[valV_pos (p:=(p.1,y)) e,valV_pos e,Option.map_some,if_pos (e.symm.trans h)]
    . rw[valV_neg (p:=(p.1,y)) e,valV_neg e,ih]
  . rw[if_neg h]
    by_cases e:p.1=j
    . rw[valV_pos (p:=p) e,valV_pos e,Option.map_some,if_neg (fun z=>h (e.trans z))]
    . rw[valV_neg (p:=p) e,valV_neg e,ih]
theorem valV_snoc (k j:κ)(y:V):∀kvs:List (κ×V),valV kvs k=none->valV (kvs++[(k,y)]) j=if j=k then some y else valV kvs j
 | [],_=>by
  by_cases e:k=j
  . rw[if_pos e.symm];exact valV_pos (p:=(k,y)) e
  . rw[if_neg (fun z=>e z.symm)];exact valV_neg (p:=(k,y)) e
 | p::r,hn=>by
  rw[List.cons_append]
  have hk:¬ p.1=k:=fun z=>by rw[valV_pos z] at hn;cases hn
  rw[valV_neg hk] at hn
  have ih:=valV_snoc k j y r hn
  by_cases e:p.1=j
  . rw[valV_pos e,valV_pos e,if_neg (fun z=>hk (e.trans z))]
  . rw[valV_neg e,valV_neg e,ih]
theorem valV_put (kvs:List (κ×V))(k j:κ)(y:V):valV (putK kvs k y) j=if j=k then some y else valV kvs j:=by
 unfold putK
 by_cases a:(kvs.any fun kv=>decide (kv.1=k))=true
 . rw[if_pos a,valV_map]
   rw[valV_any] at a
   by_cases e:j=k
   . obtain⟨x,hx⟩:=Option.isSome_iff_exists.mp a
     rw[if_pos e,e,hx,Option.map_some,if_pos rfl]
   . rw[if_neg e]
     cases valV kvs j with
     | none=>rfl
     | some x=>rw[Option.map_some,if_neg e]
 . rw[if_neg a]
   refine valV_snoc k j y kvs ?_
   rw[valV_any] at a
   cases q:valV kvs k with
   | none=>rfl
   | some x=>rw[q] at a;exact (a rfl).elim
theorem length_putK (kvs:List (κ×V))(k:κ)(v:V):(putK kvs k v).length<=kvs.length+1:=by
 unfold putK
 split
 . rw[List.length_map];omega
 . rw[List.length_append,List.length_cons,List.length_nil];omega
theorem RelO.isSome_eq {o:Option V}{u:Option Value}(r:RelO o u):o.isSome=u.isSome:=by
 cases o with
 | none=>cases u with
  | none=>rfl
  | some _=>exact (show False from r).elim
 | some _=>cases u with
  | none=>exact (show False from r).elim
  | some _=>rfl
theorem KV.val {kvs:List (κ×V)}{vs:List (κ×Value)}(r:KV kvs vs)(k:κ):RelO (valV kvs k) (valueAt vs k):=by
 unfold KV at r
 induction r with
 | nil=>exact True.intro
 | @cons p q ps qs h t ih=>
  obtain⟨h1,h2⟩:=h
  by_cases e:p.1=k
  . have e':q.1=k:=h1.symm.trans e
    have b:valueAt (q::qs) k=some q.2:=by simp[valueAt,List.find?_cons,e']
    rw[valV_pos e,b];exact h2
  . have e':¬ q.1=k:=fun z=>e (h1.trans z)
    have b:valueAt (q::qs) k=valueAt qs k:=by simp[valueAt,List.find?_cons,e']
    rw[valV_neg e,b];exact ih
theorem KV.any {kvs:List (κ×V)}{vs:List (κ×Value)}(r:KV kvs vs)(k:κ):(kvs.any fun kv=>decide (kv.1=k))=vs.any fun kv=>decide (kv.1=k):=by
 unfold KV at r
 induction r with
 | nil=>rfl
 | cons h t ih=>rw[List.any_cons,List.any_cons,ih,h.1]
theorem KV.repl {kvs:List (κ×V)}{vs:List (κ×Value)}(r:KV kvs vs)(k:κ){y:V}{u:Value}(ry:RelV y u) :
 KV (kvs.map fun kv=>if kv.1=k then (kv.1,y) else kv) (vs.map fun kv=>if kv.1=k then (kv.1,u) else kv):=by
 unfold KV at r ⊢
 induction r with
 | nil=>exact .nil
 | @cons p q ps qs h t ih=>
  rw[List.map_cons,List.map_cons]
  refine .cons ?_ ih
  obtain⟨h1,h2⟩:=h
  by_cases e:p.1=k
  . rw[if_pos e,if_pos (h1.symm.trans e)];exact⟨h1,ry⟩
  . rw[if_neg e,if_neg (fun z=>e (h1.trans z))];exact⟨h1,h2⟩
theorem KV.put {kvs:List (κ×V)}{vs:List (κ×Value)}(r:KV kvs vs)(k:κ){y:V}{u:Value}(ry:RelV y u):KV (putK kvs k y) (stored vs k u):=by
 unfold putK stored
 rw[r.any k]
 by_cases e:(vs.any fun kv=>decide (kv.1=k))=true
 . rw[if_pos e,if_pos e];exact r.repl k ry
 . rw[if_neg e,if_neg e];exact Paired.snoc r ⟨rfl,ry⟩
theorem KV.length {kvs:List (κ×V)}{vs:List (κ×Value)}(r:KV kvs vs):kvs.length=vs.length:=Paired.length r
end
theorem kV_is {P:Program}{w:World}{k:Key}{u:Value}(r:RelV (kV k) u):(mixKind P w).is k u=true:=by
 cases k with
 | inl i=>obtain⟨t,e⟩:=(show ∃t,u=Value.int i t from r);subst e;exact mixKind_int P w i t
 | inr x=>obtain⟨t,e⟩:=(show ∃t,u=Value.str x t from r);subst e;exact mixKind_str P w x t
theorem items_are {P:Program}{w:World}:∀{ks:List Key}{us:List Value},Vals (ks.map kV) us->ItemsAre (mixKind P w) ks us
 | [],_,r=>by rw[List.map_nil] at r;cases r;exact .nil
 | k::ks,_,r=>by
  rw[List.map_cons] at r
  cases r with
  | cons h t=>exact .cons (kV_is h) (items_are t)
abbrev KT (H:Hp):List (List Key×V)->List (List Key×Addr×Value)->Prop:=Paired fun p q=>p.1=q.1/\H q.2.1=some (.tup (p.1.map kV))/\RelV p.2 q.2.2
theorem KT.val {H:Hp}{kvs:List (List Key×V)}{xs:List (List Key×Addr×Value)}(r:KT H kvs xs)(k:List Key):RelO (valV kvs k) ((atKey xs k).map (·.2)):=by
 induction r with
 | nil=>exact True.intro
 | @cons p q ps qs h t ih=>
  obtain⟨h1,_,h2⟩:=h
  by_cases e:p.1=k
  . have e':q.1=k:=h1.symm.trans e
    have b:atKey (q::qs) k=some q.2:=by simp[atKey,List.find?_cons,e']
    rw[valV_pos e,b];exact h2
  . have e':¬ q.1=k:=fun z=>e (h1.trans z)
    have b:atKey (q::qs) k=atKey qs k:=by simp[atKey,List.find?_cons,e']
    rw[valV_neg e,b];exact ih
theorem KT.repl {H:Hp}{kvs:List (List Key×V)}{xs:List (List Key×Addr×Value)}(r:KT H kvs xs)(k:List Key){y:V}{u:Value}(ry:RelV y u) :
 KT H (kvs.map fun kv=>if kv.1=k then (kv.1,y) else kv) (xs.map (putAt k u)):=by
 induction r with
 | nil=>exact .nil
 | @cons p q ps qs h t ih=>
  rw[List.map_cons,List.map_cons]
  refine .cons ?_ ih
  obtain⟨h1,h2,h3⟩:=h
  unfold putAt
  by_cases e:p.1=k
  . rw[if_pos e,if_pos (h1.symm.trans e)];exact⟨h1,h2,ry⟩
  . rw[if_neg e,if_neg (fun z=>e (h1.trans z))];exact⟨h1,h2,h3⟩
theorem KT.put {H:Hp}{kvs:List (List Key×V)}{xs:List (List Key×Addr×Value)}(r:KT H kvs xs)(k:List Key){b:Addr}{y:V}{u:Value}(hb:H b=some (.tup (k.map kV)))(ry:RelV y u) :
 KT H (putK kvs k y) (storedH xs k b u):=by
 have e:(kvs.any fun kv=>decide (kv.1=k))=(atKey xs k).isSome:=by
  rw[valV_any,(r.val k).isSome_eq,Option.isSome_map]
 unfold putK storedH
 rw[e]
 by_cases q:(atKey xs k).isSome=true
 . rw[if_pos q,if_pos q];exact r.repl k ry
 . rw[if_neg q,if_neg q];exact Paired.snoc r ⟨rfl,hb,ry⟩
theorem KT.keeps {H H':Hp}{kvs:List (List Key×V)}{xs:List (List Key×Addr×Value)}(r:KT H kvs xs)(ht:∀b ys,H b=some (.tup ys)->H' b=some (.tup ys)):KT H' kvs xs:=
 Paired.mapP r fun _ _ z=>⟨z.1,ht _ _ z.2.1,z.2.2⟩
section
variable {P:Program}{w:World}{H:Hp}{h:Heap}{a:Addr}
theorem rd_of {u:HO}(ok:HOk P w H h)(e:Rd H a u):ObjOk P w H h a u:=e.ok ok
theorem dk_rd {kvs:List (Key×V)}(ok:HOk P w H h)(e:Rd H a (.dK kvs)):kvs.length<=sizeLine/\(a==sysModules)=false/\∃vs,KV kvs vs/\h.DictOf (mixKind P w) a vs:=
 show ObjOk P w H h a (.dK kvs) from rd_of ok e
theorem dk_of {kvs:List (Key×V)}(ok:HOk P w H h)(e:H a=some (.dK kvs)):kvs.length<=sizeLine/\(a==sysModules)=false/\∃vs,KV kvs vs/\h.DictOf (mixKind P w) a vs:=dk_rd ok (.inl e)
theorem key_of {ks:List Key}(ok:HOk P w H h)(e:H a=some (.tup (ks.map kV))):(tupleKind (mixKind P w)).is h ks a:=by
 obtain⟨_,its,r,o,h1,h2,n,h3⟩:=(show ObjOk P w H h a (.tup (ks.map kV)) from ok a _ e)
 exact⟨o,its.toArray,n,h1,h2,h3,by simpa using items_are r⟩
theorem dt_rd {kvs:List (List Key×V)}(ok:HOk P w H h)(e:Rd H a (.dT kvs)):kvs.length<=sizeLine/\(a==sysModules)=false /\
 ∃xs,KT H kvs xs/\h.DictOfH (tupleKind (mixKind P w)) a xs:=by
 obtain⟨z,y,xs,r,o,es,ep,h1,h2,h3,h4,h5⟩:=(show ObjOk P w H h a (.dT kvs) from rd_of ok e)
 refine⟨z,y,xs,r,o,es,ep,h1,h2,h3,h4,fun x hx=>?_,h5⟩
 have all:∀{l:List (List Key×V)}{m:List (List Key×Addr×Value)},KT H l m->∀x∈m,(tupleKind (mixKind P w)).is h x.1 x.2.1:=by
  intro l m q
  induction q with
  | nil=>intro x hx;exact nomatch hx
  | @cons p q ps qs hq t ih=>
   intro x hx
   rcases List.mem_cons.mp hx with e | hx
   . subst e
     exact key_of ok (by rw[<-hq.1];exact hq.2.1)
   . exact ih x hx
 exact all r x hx
theorem dt_of {kvs:List (List Key×V)}(ok:HOk P w H h)(e:H a=some (.dT kvs)):kvs.length<=sizeLine/\(a==sysModules)=false /\
 ∃xs,KT H kvs xs/\h.DictOfH (tupleKind (mixKind P w)) a xs:=dt_rd ok (.inl e)
end
def DGet (H:Hp)(a:Addr)(y:V)(r:Option V):Prop:=
 (∃kvs k,Rd H a (.dK kvs)/\y=kV k/\r=valV kvs k)\/∃kvs k b,Rd H a (.dT kvs)/\y = .ref b/\H b=some (.tup (k.map kV))/\r=valV kvs k
def DPut (H:Hp)(a:Addr)(y v:V)(H':Hp):Prop:=
 (∃kvs k,H a=some (.dK kvs)/\y=kV k/\kvs.length<sizeLine/\H'=upd H a (.dK (putK kvs k v))) \/
 ∃kvs k b,H a=some (.dT kvs)/\y = .ref b/\H b=some (.tup (k.map kV))/\kvs.length<sizeLine/\H'=upd H a (.dT (putK kvs k v))
theorem DGet.k {H:Hp}{a:Addr}{kvs:List (Key×V)}{k:Key}(e:H a=some (.dK kvs)):DGet H a (kV k) (valV kvs k):=.inl ⟨kvs,k,.inl e,rfl,rfl⟩
theorem DPut.k {H:Hp}{a:Addr}{kvs:List (Key×V)}{k:Key}{v:V}(e:H a=some (.dK kvs))(hl:kvs.length<sizeLine):DPut H a (kV k) v (upd H a (.dK (putK kvs k v))):=.inl ⟨kvs,k,e,rfl,hl,rfl⟩
section
variable {X:Cx}{pins:List (Addr×Obj)}{σ:St}{H:Hp}{s:Shared}{a:Addr}{y v:V}{u r:Value}{o:Option V}{A:Around}{E:Value->Shared->Prop}
theorem Inv.big (I:Inv X pins σ H s):sysModules<s.heap.objs.size:=by
 have h:mainGlobals<s.heap.objs.size:=(I.mod.glob.keeps I.bk).lt
 exact Nat.lt_trans (by decide) h
theorem d_getItem {Q:Value->Shared->Prop}(hu:A.units+1<cLine)(I:Inv X pins σ H s)(g:DGet H a y (some v))(ry:RelV y u)(h:∀w' s',Inv X pins σ H s'->RelV v w'->Q w' s') :
 wpAny (model X.prog X.w) A (getItem (.ref a) u) Q E s:=by
 rcases g with ⟨kvs,k,e,ey,l⟩ | ⟨kvs,k,b,e,ey,eb,l⟩
 . subst ey
   obtain⟨z,hd,vs,rel,dd⟩:=dk_rd I.hok e
   obtain⟨w',hw,rw'⟩:=RelO.some_of (v:=v) (o:=valueAt vs k) (by rw[l];exact rel.val k)
   exact wpAny_getItem_of (kV_is ry) dd.mapOf hw (h w' _ (I.tok _) rw')
 . subst ey
   cases (show u=Value.ref b from ry)
   obtain⟨z,hd,xs,rel,dd⟩:=dt_rd I.hok e
   obtain⟨w',hw,rw'⟩:=RelO.some_of (v:=v) (o:=(atKey xs k).map (·.2)) (by rw[l];exact rel.val k)
   obtain⟨p,hp,hp2⟩:=Option.map_eq_some_iff.mp hw
   refine wpAny_getItem_heap (tupleKind_room_in1 hu) (key_of I.hok eb) dd hp ?_
   rw[hp2]
   exact h w' _ (I.tok _) rw'
theorem d_write {h':Heap}{t':Nat}{ob:HO}(I:Inv X pins σ H s)(mu:Mut (H a))(hs:Heap.SameBut a s.heap h')(he:∃q,h'.get? a=some q)(new:ObjOk X.prog X.w (upd H a ob) h' a ob) :
 Inv X pins σ (upd H a ob) { s with heap:=h',toks:=t' }:=
 I.write (x:=a) (e:=a) mu (.inl rfl) (fun b q hb z=>(hs.2 b hb).trans z) he new
theorem dk_new {P:Program}{w:World}{H':Hp}{h':Heap}{kvs:List (Key×V)}{vs:List (Key×Value)}(z:kvs.length<=sizeLine)(hd:(a==sysModules)=false)(rel:KV kvs vs)(dd:h'.DictOf (mixKind P w) a vs) :
 ObjOk P w H' h' a (.dK kvs):=⟨z,hd,vs,rel,dd⟩
theorem d_setItem {H':Hp}{Q:Unit->Shared->Prop}(hu:A.units+1<cLine)(I:Inv X pins σ H s)(g:DPut H a y v H')(ry:RelV y u)(rv:RelV v r)(h:∀s',Inv X pins σ H' s'->Q () s') :
 wpAny (model X.prog X.w) A (setItem (.ref a) u r) Q E s:=by
 rcases g with ⟨kvs,k,e,ey,l,eH⟩ | ⟨kvs,k,b,e,ey,eb,l,eH⟩
 . subst ey eH
   obtain⟨z,hd,vs,rel,dd⟩:=dk_of I.hok e
   have hz:vs.length<=sizeLine:=by rw[<-rel.length];exact z
   have hl:(putK kvs k v).length<=sizeLine:=by have:=length_putK kvs k v;omega
   refine wpAny_setItem_pairs (hsz:=hz) (kV_is ry) dd fun h' dd' hs=>h _ ?_
   have he:∃q,h'.get? a=some q:=let ⟨q,_,_,hq,_⟩:=dd';⟨q,hq⟩
   exact d_write I (by rw[e];exact True.intro) hs he (dk_new hl hd (rel.put k rv) dd')
 . subst ey eH
   cases (show u=Value.ref b from ry)
   obtain⟨z,hd,xs,rel,dd⟩:=dt_of I.hok e
   have hz:xs.length<=sizeLine:=by rw[<-Paired.length rel];exact z
   have hl:(putK kvs k v).length<=sizeLine:=by have:=length_putK kvs k v;omega
   refine wpAny_setItem_heap (hsz:=hz) (tupleKind_room_in1 hu) (key_of I.hok eb) dd fun h' dd' hs=>h _ ?_
   obtain⟨q,es,ep,hq,h2,h3,h4,_,h5⟩:=dd'
   refine d_write I (by rw[e];exact True.intro) hs ⟨q,hq⟩ ⟨hl,hd,_,(rel.put k eb rv).keeps fun c ys ec=>?_,q,es,ep,hq,h2,h3,h4,h5⟩
   rw[upd_ne (ne_of ec e (fun z=>nomatch z))]
   exact ec
end
section
variable {X:Cx}{pins:List (Addr×Obj)}{σ:St}{H:Hp}{s:Shared}{a:Addr}{kvs:List (Key×V)}{k:Key}{u:Value}{A:Around}{E:Value->Shared->Prop}
end
def NoSl (i:Expr):Prop:=∀ov iv,subscripted i false ov iv=operate [ov,iv] (getItem ov iv)
theorem subD_of {prog:Program}{w:World}{A:Around}{E:Value->Shared->Prop}{s:Shared}{env:Env}{value slice:Expr}{pos:Pos}{T id:String}{Q:Value->Shared->Prop}
 (hl:typeLookup (.type T) "__getitem__" = pure (some (.builtin id))) (hs:NoSl slice)
 (h:wpAny (model prog w) A (eval value env) (fun o s₁=>wpAny (model prog w) A (eval slice env) (fun i s₂=>s₂.TypeIs o T/\wpAny (model prog w) A (getItem o i) Q E s₂) E s₁) E s) :
 wpAny (model prog w) A (eval (.Subscript value slice pos) env) Q E s:=by
 refine Subscript_ (wpAny_mono h (fun o s₁ h₁=>wpAny_mono h₁ (fun i s₂ h₂=>?_) fun _ _ x=>x) fun _ _ x=>x)
 obtain⟨hT,h₂⟩:=h₂
 unfold subscriptTail
 refine wpAny_bind ?_
 rw[getitemInPython_of_ne hT.not_modules]
 refine wpAny_bind (wpAny_specialOf hT hl ?_)
 have fin:wpAny (model prog w) A (subscripted slice false o i) (fun r s₃=>wpAny (model prog w) A (letTemporaryGo value o r >>= fun _=>pure r) Q E s₃) E s₂:=by
  rw[hs o i]
  exact wpAny_operating (wpAny_mono h₂ (fun r s₃ h₃=>wpAny_bind (wpAny_letTemporaryGo (wpAny_pure h₃))) fun _ _ x=>x)
 first
  | exact wpAny_pure (wpAny_bind fin)
  | exact wpAny_bind (wpAny_pure (wpAny_bind fin))
  | exact wpAny_bind fin
theorem dict_typeIs {X:Cx}{pins:List (Addr×Obj)}{σ:St}{H:Hp}{s:Shared}{a:Addr}{y:V}{o:Option V}(I:Inv X pins σ H s)(g:DGet H a y o):s.TypeIs (.ref a) "dict" := by
 rcases g with ⟨kvs,k,e,_,_⟩ | ⟨kvs,k,b,e,_,_,_⟩
 . obtain⟨_,_,vs,_,dd⟩:=dk_rd I.hok e
   exact dd.typeIs
 . obtain⟨_,_,xs,_,dd⟩:=dt_rd I.hok e
   exact dd.typeIs
def tDGet (td ty:TE):TE:=fun σ H Q=>td σ H fun x H1=>ty σ H1 fun y H2=>∃a v,x = .ref a/\DGet H2 a y (some v)/\Q v H2
def sDPut (td ty tv:TE):TS:=fun D σ H=>tv σ H fun v H1=>td σ H1 fun x H2=>ty σ H2 fun y H3=>∃a H4,x = .ref a/\DPut H3 a y v H4/\D.nx σ H4
section
variable {X:Cx}{o i e value:Expr}{pos pos' tpos:Pos}{td ty tv:TE}
theorem pe_dget (hu:X.A.units+1<cLine)(ho:PE X o td)(hi:PE X i ty)(hs:NoSl i):PE X (.Subscript o i pos) (tDGet td ty):=by
 intro pins s σ H Q I h
 refine subD_of PySem.F.slot_dict_getitem.lookup hs (thn (ho pins s σ H _ I h) fun u s1 ⟨x,H1,I1,rx,q1⟩=>thn (hi pins s1 σ H1 _ I1 q1) fun iv s2 ⟨y,H2,I2,ry,a,v,ex,g,q2⟩=>?_)
 subst ex
 obtain rfl:u=Value.ref a:=rx
 exact⟨dict_typeIs I2 g,d_getItem hu I2 g ry fun w' s3 I3 rw'=>⟨v,H2,I3,rw',q2⟩⟩
theorem ps_dput (hu:X.A.units+1<cLine)(ho:PE X o td)(hi:PE X i ty)(hv:PE X value tv)(hs:swapsWith value (some (.Subscript o i pos')) pos.line X.env=pure false) :
 PS X (.Assign [.Subscript o i pos'] value pos) (sDPut td ty tv):=by
 intro pins s σ H D I h
 refine wpAny_Assign_Subscript (thn (hv pins s σ H _ I h) fun r s1 ⟨v,H1,I1,rv,q1⟩=>thn (ho pins s1 σ H1 _ I1 q1) fun u s2 ⟨x,H2,I2,rx,q2⟩=>thn (hi pins s2 σ H2 _ I2 q2) fun iv s3 ⟨y,H3,I3,ry,a,H4,ex,g,q3⟩=>?_) hs
 subst ex
 obtain rfl:u=Value.ref a:=rx
 exact d_setItem hu I3 g ry rv fun s4 I4=>⟨σ,H4,I4,q3⟩
end
theorem dk_empty {P:Program}{w:World}{H:Hp}(h:Heap)(hb:sysModules<h.objs.size):ObjOk P w H (h.push { cls:=.type "dict",data:=.dict #[] }) h.objs.size (.dK []):=
 ⟨Nat.zero_le _,beq_eq_false_iff_ne.mpr (Ne.symm (Nat.ne_of_lt hb)),[],.nil,Heap.DictOf.new h⟩
def tDNewK:TE:=fun _ H Q=>∀p,H p=none->Q (.ref p) (upd H p (.dK []))
section
variable {X:Cx}{pos:Pos}
theorem pe_dnewK:PE X (.Dict [] [] pos) tDNewK:=fun pins s σ H Q I h=>
 wpAny_Dict_empty ⟨.ref s.heap.objs.size,_,I.laid (a:=s.heap.objs.size) (o:=.dK []) (t':=s.toks) (fun _ _ q=>Heap.get?_push_of_some _ q) (Nat.le_refl _) (dk_empty s.heap I.big),rfl,h _ (I.hok.fresh (Nat.le_refl _))⟩
end
section
variable {X:Cx}{pins:List (Addr×Obj)}{σ:St}{H:Hp}{s:Shared}{a:Addr}{y d:V}{u r:Value}{o:Option V}{A:Around}{E:Value->Shared->Prop}
end
section
variable {X:Cx}{o e f:Expr}{apos cpos:Pos}{td ty tx:TE}
end
section
variable {X:Cx}{pins:List (Addr×Obj)}{σ:St}{H:Hp}{s:Shared}{a:Addr}{kvs:List (Key×V)}{A:Around}{E:Value->Shared->Prop}
end
section
variable {X:Cx}{pins:List (Addr×Obj)}{σ:St}{H:Hp}{s:Shared}{a:Addr}{y:V}{u:Value}{A:Around}{E:Value->Shared->Prop}
end
end L2
namespace HT
open PySem PyProof.Rows
def lexLt:List Int->List Int->Bool
 | [],[]=>false
 | [],_::_=>true
 | _::_,[]=>false
 | x::xs,y::ys=>if x=y then lexLt xs ys else decide (x<y)
theorem lexLt_cons (x y:Int)(xs ys:List Int):lexLt (x::xs) (y::ys)=if x=y then lexLt xs ys else decide (x<y):=rfl
section
open PySem.SeqAt
open PySem.AutoSeq1 (wpAny_loadPart')
open PySem.MeetsSeq PySem.MeetsSeq2 PySem.MeetsSeq3
end
section
variable {prog:Program}{w:World}{A:Around}{E:Value->Shared->Prop}{s:Shared}
theorem cat_tup {t b:Addr}{vs ws:List Value}{Q:Value->Shared->Prop}(ht:IsTup s.heap t vs.toArray)(hb:IsTup s.heap b ws.toArray)(hv:vs≠[])
 (h1:ws=[]->Q (.ref t) s)(h2:ws≠[]->Q (.ref s.heap.objs.size) { s with heap:=s.heap.push { cls:=.type "tuple",data:=.seq (vs++ws).toArray } })
 (hsz:vs.length+ws.length<=sizeLine):wpAny (model prog w) A (binaryOp .Add (.ref t) (.ref b)) Q E s:=by
 obtain⟨⟨cls,dd,data,sl⟩,ho,hc,n,hd⟩:=id ht
 obtain⟨⟨cls2,dd2,data2,sl2⟩,ho2,hc2,n2,hd2⟩:=id hb
 simp only at hc hd hc2 hd2
 subst hc hd hc2 hd2
 have e:vs.toArray++ws.toArray=(vs++ws).toArray:=by simp
 by_cases hw:ws=[]
 . exact concat_meets ⟨_,ho,rfl⟩ ⟨_,ho2,rfl⟩ noFill_tuple_add seq_tuple_add PySem.F.slot_tuple_add PySem.F.entry_tuple_add (PySem.F.args_tuple_add_2 _ _)
    (tuple_addW1 t b vs.toArray ws.toArray n n2 dd dd2 sl sl2 (by simpa using hv) (by simp[hw])) ⟨ho,ho2,h1 hw⟩
 . refine concat_meets ⟨_,ho,rfl⟩ ⟨_,ho2,rfl⟩ noFill_tuple_add seq_tuple_add PySem.F.slot_tuple_add PySem.F.entry_tuple_add (PySem.F.args_tuple_add_2 _ _)
    (tuple_addW2 t b vs.toArray ws.toArray n n2 dd dd2 sl sl2 (by simpa using hv) (by simpa using hw) (by rw[List.size_toArray,List.size_toArray];exact hsz)) ⟨ho,ho2,?_⟩
   rw[e]
   exact h2 hw
def sIx (n d:Nat):Option Int->Nat
 | none=>d
 | some v=>if v<0 then (v+(n:Int)).toNat else min v.toNat n
theorem sIx_none (n d:Nat):sIx n d none=d:=rfl
theorem sIx_nat (n d k:Nat):sIx n d (some (k:Int))=min k n:=by
 show (if (k:Int)<0 then ((k:Int)+(n:Int)).toNat else min (k:Int).toNat n)=min k n
 rw[if_neg (by omega),Int.toNat_natCast]
theorem sIx_le (n d:Nat)(hd:d<=n)(o:Option Int):sIx n d o<=n:=by
 cases o with
 | none=>exact hd
 | some v=>
  show (if v<0 then (v+(n:Int)).toNat else min v.toNat n)<=n
  by_cases hv:v<0
  . rw[if_pos hv];omega
  . rw[if_neg hv];exact Nat.min_le_right _ _
theorem clip_eq (v:Int)(n d:Nat):(if v<0 then max (v+(n:Int)) 0 else min v (n:Int))=((sIx n d (some v):Nat):Int):=by
 show (if v<0 then max (v+(n:Int)) 0 else min v (n:Int))=(((if v<0 then (v+(n:Int)).toNat else min v.toNat n):Nat):Int)
 by_cases hv:v<0
 . simp only[if_pos hv];omega
 . simp only[if_neg hv];omega
theorem adjust_gen (lo hi:Option Int) (n:Nat):Builtin.Slice.sliceAdjust lo hi 1 (n:Int)=(((sIx n 0 lo:Nat):Int),((sIx n n hi:Nat):Int)):=by
 have h1:¬ ((1:Int)<0):=by omega
 unfold Builtin.Slice.sliceAdjust
 simp only[h1,if_false]
 refine Prod.ext ?_ ?_
 . cases lo with
   | none=>rfl
   | some v=>exact clip_eq v n 0
 . cases hi with
   | none=>rfl
   | some v=>exact clip_eq v n n
theorem places_gen (i j:Nat):Builtin.Slice.slicePlaces (i:Int) (j:Int) 1=j-i:=by
 unfold Builtin.Slice.slicePlaces
 have h1:(1:Int) > 0:=by omega
 simp only[h1,if_true,Int.ediv_one]
 split <;> omega
theorem slicePart_ {v:Value} {o:Option Int} {Q:Option Int->Shared->Prop} (p:IsPart v o) (h:Q o s):wpAny (model prog w) A (Builtin.Slice.slicePartIndex v) Q E s:=by
 cases p with
 | none=>exact slicePart_none h
 | int i t=>exact slicePart_int h
theorem sliceApplied_gen {sl:Addr}{vl vu:Value}{lo hi:Option Int}{n:Nat}{Q:Int×Int×Nat->Shared->Prop}(hs:s.heap.IsSliceOf sl vl vu .none)(pl:IsPart vl lo)(pu:IsPart vu hi)
 (h:Q (((sIx n 0 lo:Nat):Int),1,sIx n n hi-sIx n 0 lo) s):wpAny (model prog w) A (Builtin.Slice.sliceApplied (.ref sl) (pure (n:Int))) Q E s:=by
 obtain⟨os,hos,hcs,hds⟩:=id hs
 unfold Builtin.Slice.sliceApplied Builtin.Slice.sliceFields
 refine wpAny_bind (wpAny_bind (wpAny_field hos hds (x:=vl) rfl (wpAny_bind (wpAny_field hos hds (x:=vu) rfl (wpAny_bind (wpAny_field hos hds (x:=.none) rfl (wpAny_pure ?_)))))))
 refine wpAny_bind (slicePart_none ?_)
 show wpAny _ _ (if ((1:Int)==0)=true then _ else _) _ _ s
 rw[if_neg (by decide)]
 refine wpAny_bind (slicePart_ pl (wpAny_bind (slicePart_ pu (wpAny_bind (wpAny_pure ?_)))))
 show wpAny _ _ (match Builtin.Slice.sliceAdjust lo hi 1 (n:Int) with | (lo,hi)=>pure (lo,(1:Int),Builtin.Slice.slicePlaces lo hi 1)) _ _ s
 rw[adjust_gen lo hi n]
 show wpAny _ _ (pure (((sIx n 0 lo:Nat):Int),(1:Int),Builtin.Slice.slicePlaces ((sIx n 0 lo:Nat):Int) ((sIx n n hi:Nat):Int) 1)) _ _ s
 rw[places_gen]
 exact wpAny_pure h
theorem pick_gen (xs:Array Value)(i k:Nat):((List.range k).filterMap fun (m:Nat)=>xs[((i:Int)+(m:Int)*1).toNat]?).toArray=((xs.toList.drop i).take k).toArray:=by
 have e:(fun (m:Nat)=>xs[((i:Int)+(m:Int)*1).toNat]?)=fun m=>xs[i+m]?:=by
  funext m
  have:((i:Int)+(m:Int)*1).toNat=i+m:=by omega
  rw[this]
 rw[e]
 have:=pick_run xs i k
 rw[List.filterMap_map] at this
 have e2:((fun x=>xs[x]?)∘fun x=>i+x)=fun m=>xs[i+m]?:=rfl
 rw[e2] at this
 rw[this]
theorem getItem_tuple_cut {t sl:Addr}{items:Array Value}{vl vu:Value}{lo hi:Option Int}{Q:Value->Shared->Prop}(ht:IsTup s.heap t items)(hs:s.heap.IsSliceOf sl vl vu .none)(pl:IsPart vl lo)(pu:IsPart vu hi)
 (hw:¬ (sIx items.size 0 lo=0/\sIx items.size items.size hi=items.size))
 (h:Q (.ref s.heap.objs.size) { s with heap:=s.heap.push { cls:=.type "tuple",data:=.seq ((items.toList.drop (sIx items.size 0 lo)).take (sIx items.size items.size hi-sIx items.size 0 lo)).toArray } })
 (hsz:items.size<=sizeLine):wpAny (model prog w) A (getItem (.ref t) (.ref sl)) Q E s:=by
 have htake:sizeOk (.seq ((items.toList.drop (sIx items.size 0 lo)).take (sIx items.size items.size hi-sIx items.size 0 lo)).toArray):=by
  show ((items.toList.drop (sIx items.size 0 lo)).take (sIx items.size items.size hi-sIx items.size 0 lo)).toArray.size<=sizeLine
  rw[List.size_toArray,List.length_take,List.length_drop,Array.length_toList]
  omega
 have hj:sIx items.size items.size hi<=items.size:=sIx_le _ _ (Nat.le_refl _) hi
 obtain⟨os,hos,hcs,hds⟩:=id hs
 have hTs:s.TypeIs (.ref sl) "slice" := ⟨os,hos,hcs⟩
 unfold getItem
 try with_reducible refine wpAny_holding ?_
 first | refine wpAny_bind (wpAny_pure ?_) | skip
 refine wpAny_bind (wpAny_sequenceKey ht.typeIs (by decide) ?_)
 refine wpAny_bind (wpAny_callSpecial?_slot (name:=Str.ofString "__getitem__") ht.typeIs PyProof.Rows.slot_tuple_getitem
  (wpAny_call_entry PyProof.Rows.slot_tuple_getitem ht.typeIs entry_tuple_getitem ?_ (args_tuple_getitem _ _)))
 show wpAny _ _ (Builtin.Tuple.tupleItemsOf (.ref t) >>= _) _ _ s
 refine wpAny_bind (tupleItemsOf_ ht ?_)
 refine wpAny_bind (wpAny_typeOf hTs ?_)
 rw[if_pos (by decide)]
 refine wpAny_bind (sliceApplied_gen hs pl pu ?_)
 have hno:¬ ((((sIx items.size 0 lo:Nat):Int)==0 && (1:Int)==1 && (sIx items.size items.size hi-sIx items.size 0 lo)==items.size)=true):=by
  intro q
  rw[Bool.and_eq_true,Bool.and_eq_true] at q
  have q1:((sIx items.size 0 lo:Nat):Int)=0:=eq_of_beq q.1.1
  have q2:sIx items.size items.size hi-sIx items.size 0 lo=items.size:=eq_of_beq q.2
  exact hw ⟨by omega,by omega⟩
 show wpAny _ _ (if (((sIx items.size 0 lo:Nat):Int)==0 && (1:Int)==1 && (sIx items.size items.size hi-sIx items.size 0 lo)==items.size)=true then _ else _) _ _ s
 rw[if_neg hno,pick_gen]
 first
  | exact wpAny_bind (m:=Builtin.Tuple.tupleExact _) (wpAny_newObj_type (wpAny_pure ⟨_,rfl,wpAny_pure h⟩) htake)
  | exact wpAny_bind (m:=Builtin.Tuple.tupleExact _) (wpAny_newObj_type (wpAny_bind (wpAny_pure (wpAny_pure ⟨_,rfl,wpAny_pure h⟩))) htake)
  | exact wpAny_bind (wpAny_bind (m:=Builtin.Tuple.tupleExact _) (wpAny_newObj_type (wpAny_pure (wpAny_pure ⟨_,rfl,wpAny_pure h⟩)) htake))
  | exact wpAny_bind (wpAny_bind (m:=Builtin.Tuple.tupleExact _) (wpAny_newObj_type (wpAny_pure ⟨_,rfl,wpAny_pure h⟩) htake))
end
end HT
namespace L2
open PySem PySem.Spec PyProof.Rows
abbrev TO:=St->Hp->(Option Int->Hp->Prop)->Prop
def PO (X:Cx)(e:Option Expr)(t:TO):Prop:=
 ∀(pins:List (Addr×Obj))(s:Shared)(σ:St)(H:Hp)(Q:Option Int->Hp->Prop),Inv X pins σ H s->t σ H Q ->
  wpAny (model X.prog X.w) X.A (evalPart e X.env) (fun u s'=>∃o H',Inv X pins σ H' s'/\IsPart u o/\Q o H') X.xe s
def tNoPart:TO:=fun _ H Q=>Q none H
def tPart (t:TE):TO:=fun σ H Q=>t σ H fun x H1=>∃i,x = .int i/\Q (some i) H1
theorem intsAre_of {ns:List Int}:∀{us:List Value},Vals (ns.map V.int) us->IntsAre us ns:=by
 induction ns with
 | nil=>intro us r;rw[List.map_nil] at r;cases r;exact .nil
 | cons n ns ih=>
  intro us r
  rw[List.map_cons] at r
  cases r with
  | cons r1 r2=>
   obtain⟨t,e⟩:=r1
   subst e
   exact .cons n t (ih r2)
section
variable {X:Cx}{e:Expr}{te:TE}{lo hi:Option Expr}{tl th:TO}{pos p2:Pos}
theorem po_none:PO X none tNoPart:=by
 intro pins s σ H Q I h
 rw[evalPart_none]
 exact wpAny_pure ⟨none,H,I,.none,h⟩
theorem po_some (h:PE X e te):PO X (some e) (tPart te):=by
 intro pins s σ H Q I hw
 rw[evalPart_some]
 refine thn (h pins s σ H _ I hw) fun u s1 ⟨x,H1,I1,r1,q1⟩=>?_
 obtain⟨i,rfl,q⟩:=q1
 obtain⟨t,rfl⟩:=r1
 exact⟨some i,H1,I1,.int i t,q⟩
def SlR (X:Cx)(r:V->Option Int->Option Int->Hp->VK->Prop):Prop:=
 ∀(pins:List (Addr×Obj))(s:Shared)(σ:St)(H:Hp)(x:V)(v vl vu:Value)(lo hi:Option Int)(sl:Addr)(Q:VK),Inv X pins σ H s->RelV x v->s.heap.IsSliceOf sl vl vu .none->IsPart vl lo->IsPart vu hi->r x lo hi H Q ->
  ∃T id,typeLookup (.type T) "__getitem__" = pure (some (.builtin id))/\s.TypeIs v T/\wpAny (model X.prog X.w) X.A (getItem v (.ref sl)) (EP X pins σ Q) X.xe s
def tSl (r:V->Option Int->Option Int->Hp->VK->Prop)(te:TE)(tl th:TO):TE:=fun σ H Q=>te σ H fun x H1=>tl σ H1 fun l H2=>th σ H2 fun u H3=>r x l u H3 Q
theorem pe_slice {r:V->Option Int->Option Int->Hp->VK->Prop}(hr:SlR X r)(he:PE X e te)(hl:PO X lo tl)(hu:PO X hi th):PE X (.Subscript e (.Slice lo hi none p2) pos) (tSl r te tl th):=by
 intro pins s σ H Q I h
 refine Subscript_ (thn (he pins s σ H _ I h) fun v s1 ⟨x,H1,I1,r1,q1⟩=>?_)
 refine wpAny_Slice (thn (hl pins s1 σ H1 _ I1 q1) fun vl s2 ⟨l,H2,I2,pl,q2⟩=>thn (hu pins s2 σ H2 _ I2 q2) fun vu s3 ⟨u,H3,I3,pu,q3⟩=>?_)
 rw[evalPart_none]
 refine wpAny_pure ?_
 have I4:Inv X pins σ H3 { s3 with heap:=s3.heap.push { cls:=.type "slice",data:=.fields #[vl,vu,.none] } }:=I3.kept (t':=s3.toks) fun b ob q=>Heap.get?_push_of_some _ q
 obtain⟨T,id,hT,ht,hg⟩:=hr pins { s3 with heap:=s3.heap.push { cls:=.type "slice",data:=.fields #[vl,vu,.none] } } σ H3 x v vl vu l u s3.heap.objs.size Q I4 r1 (Heap.IsSliceOf.new ..) pl pu q3
 show wpAny (model X.prog X.w) X.A (subscriptTail e (.Slice lo hi none p2) v (.ref s3.heap.objs.size)) (EP X pins σ Q) X.xe { s3 with heap:=s3.heap.push { cls:=.type "slice",data:=.fields #[vl,vu,.none] } }
 exact tail_any (ops:=[.ref s3.heap.objs.size,v]) ht hT hg (by with_unfolding_all rfl)
def cutV (xs:List V)(lo hi:Option Int):List V:=(xs.drop (HT.sIx xs.length 0 lo)).take (HT.sIx xs.length xs.length hi-HT.sIx xs.length 0 lo)
theorem cutV_length (xs:List V)(lo hi:Option Int):(cutV xs lo hi).length<=xs.length:=by
 unfold cutV
 rw[List.length_take,List.length_drop]
 omega
def rSlT (K:PySem.W.Frag):V->Option Int->Option Int->Hp->VK->Prop:=fun x lo hi H Q=>∃a xs,x = .ref a/\SqT K H a xs /\
 ¬ (HT.sIx xs.length 0 lo=0/\HT.sIx xs.length xs.length hi=xs.length)/\∀p,H p=none->Q (.ref p) (upd H p (.tup (cutV xs lo hi)))
theorem sl_tup:SlR X (rSlT X.K):=by
 intro pins s σ H x v vl vu lo hi sl Q I rx hs pl pu h
 obtain⟨a,xs,rfl,hx,hw,q⟩:=h
 cases rx
 obtain⟨its,r,ht,hz⟩:=I.tuple hx
 have hlen:its.toArray.size=xs.length:=by rw[List.size_toArray];exact r.length.symm
 refine⟨"tuple",_,PyProof.Rows.slot_tuple_getitem.lookup,ht.typeIs,?_⟩
 refine HT.getItem_tuple_cut ht hs pl pu (by rw[hlen];exact hw) ?_ (by rw[hlen];exact hz)
 rw[hlen]
 refine⟨.ref s.heap.objs.size,_,I.laid (t':=s.toks) (o:=.tup (cutV xs lo hi)) (fun b ob q=>Heap.get?_push_of_some _ q) (Nat.le_refl _) ?_,rfl,q _ (I.hok.fresh (Nat.le_refl _))⟩
 exact⟨⟨Nat.le_trans (cutV_length xs lo hi) hz,_,Heap.get?_push_size _ rfl,rfl⟩,_,(r.drop (HT.sIx xs.length 0 lo)).take (HT.sIx xs.length xs.length hi-HT.sIx xs.length 0 lo),IsTup.new _ _⟩
def rCatT (K:PySem.W.Frag):R2:=fun x y H Q=>∃a b xs ys,x = .ref a/\y = .ref b/\SqT K H a xs/\SqT K H b ys/\xs≠[]/\xs.length+ys.length<=sizeLine /\
 (ys=[]->Q (.ref a) H)/\(ys≠[]->∀p,H p=none->Q (.ref p) (upd H p (.tup (xs++ys))))
theorem Vals.nil_iff {xs:List V}{us:List Value}(r:Vals xs us):us=[]↔xs=[]:=by
 cases r with
 | nil=>simp
 | cons _ _=>simp
theorem op_catT:OpR X (binaryOp .Add) (rCatT X.K):=by
 intro pins s σ H x y v u Q I rx ry h
 obtain⟨a,b,xs,ys,rfl,rfl,ha,hb,hx,hz,q1,q2⟩:=h
 cases rx
 cases ry
 obtain⟨its,r1,p1,_⟩:=I.tuple ha
 obtain⟨its2,r2,p2,_⟩:=I.tuple hb
 refine HT.cat_tup p1 p2 (fun z=>hx (r1.nil_iff.mp z)) (fun z=>⟨.ref a,H,I,rfl,q1 (r2.nil_iff.mp z)⟩) (fun z=>?_) (by rw[<-r1.length,<-r2.length];exact hz)
 refine⟨.ref s.heap.objs.size,_,I.laid (t':=s.toks) (o:=.tup (xs++ys)) (fun b ob q=>Heap.get?_push_of_some _ q) (Nat.le_refl _) ?_,rfl,q2 (fun w=>z (r2.nil_iff.mpr w)) _ (I.hok.fresh (Nat.le_refl _))⟩
 exact⟨⟨by rw[List.length_append];exact hz,_,Heap.get?_push_size _ rfl,rfl⟩,_,r1.append r2,IsTup.new _ _⟩
end
end L2
namespace L2
open PySem PySem.Spec PyProof.Rows
def ixN (n:Nat)(i:Int):Option Nat:=if 0<=i then (if i<n then some i.toNat else none) else if -(n:Int)<=i then some (i+n).toNat else none
def atI {α:Type}(xs:List α)(i:Int):Option α:=(ixN xs.length i).bind fun j=>xs[j]?
theorem ixN_seq {n:Nat}{i:Int}{j:Nat}(h:ixN n i=some j):seqIndex? i n=some j/\j<n /\ -(n:Int)<=i/\i<n:=by
 unfold ixN at h
 by_cases h0:0<=i
 . rw[if_pos h0] at h
   by_cases h1:i<n
   . rw[if_pos h1] at h
     have e:i.toNat=j:=Option.some.inj h
     exact⟨by rw[seqIndex_of h0 h1,e],by omega,by omega,h1⟩
   . rw[if_neg h1] at h;cases h
 . rw[if_neg h0] at h
   by_cases h1 : -(n:Int)<=i
   . rw[if_pos h1] at h
     have e:(i+n).toNat=j:=Option.some.inj h
     exact⟨by rw[seqIndex_neg (by omega) h1,e],by omega,h1,by omega⟩
   . rw[if_neg h1] at h;cases h
theorem atI_get {α:Type}{xs:List α}{i:Int}{v:α}(h:atI xs i=some v):∃j,seqIndex? i xs.length=some j/\xs[j]? = some v/\j<xs.length /\ -(xs.length:Int)<=i/\i<xs.length:=by
 unfold atI at h
 cases e:ixN xs.length i with
 | none=>rw[e] at h;cases h
 | some j=>
  rw[e] at h
  obtain⟨h1,h2,h3,h4⟩:=ixN_seq e
  exact⟨j,h1,h,h2,h3,h4⟩
theorem atI_nat {α:Type}{xs:List α}{j:Nat}{v:α}(h:xs[j]? = some v):atI xs (j:Int)=some v:=by
 have hj:j<xs.length:=(List.getElem?_eq_some_iff.mp h).1
 have e:ixN xs.length (j:Int)=some j:=by
  unfold ixN
  rw[if_pos (by omega),if_pos (by omega)];simp
 unfold atI;rw[e];exact h
def PlainIx (b:Expr):Prop:=∀o i,subscripted b false o i=operate [o,i] (getItem o i)
def IxR (X:Cx)(r:R2):Prop:=
 ∀(value slice:Expr)(pins:List (Addr×Obj))(s:Shared)(σ:St)(H:Hp)(x y:V)(v u:Value)(Q:VK),Inv X pins σ H s->RelV x v->RelV y u->r x y H Q ->
  subscripted slice false v u=operate [v,u] (getItem v u)->wpAny (model X.prog X.w) X.A (subscriptTail value slice v u) (EP X pins σ Q) X.xe s
def MtR (X:Cx)(id:String)(r:V->List V->Hp->VK->Prop):Prop:=
 ∀(pins:List (Addr×Obj))(s:Shared)(σ:St)(H:Hp)(x:V)(xs:List V)(v:Value)(us:List Value)(Q:VK),Inv X pins σ H s->RelV x v->Vals xs us->r x xs H Q ->
  wpAny (model X.prog X.w) X.A (call (.builtin id) (v::us)) (EP X pins σ Q) X.xe s
section
variable {X:Cx}{a b:Expr}{ta tb:TE}{pos:Pos}
theorem pe_ix {r:R2}(hr:IxR X r)(ha:PE X a ta)(hb:PE X b tb)(hs:PlainIx b):PE X (.Subscript a b pos) (tOp r ta tb):=by
 intro pins s σ H Q I h
 exact Subscript_ (binT ha hb I h fun v u s2 x y H2 I2 rx ry q=>hr a b pins s2 σ H2 x y v u Q I2 rx ry q (hs _ _))
def rIxL (K:PySem.W.Frag):R2:=fun x y H Q=>∃p xs i v,x = .ref p/\y = .int i/\SqL K H p xs/\atI xs i=some v/\Q v H
def rIxT (K:PySem.W.Frag):R2:=fun x y H Q=>∃p xs i v,x = .ref p/\y = .int i/\SqT K H p xs/\atI xs i=some v/\Q v H
theorem ix_list:IxR X (rIxL X.K):=by
 intro value slice pins s σ H x y v u Q I rx ry h hs
 obtain⟨p,xs,i,z,rfl,rfl,hq,he,q⟩:=h
 cases rx
 obtain⟨t,rfl⟩:=ry
 obtain⟨its,r,pl,hz⟩:=I.list hq
 obtain⟨j,h1,h2,h3,h4,h5⟩:=atI_get he
 obtain⟨w,ew,rw'⟩:=r.get h2
 have hl:=r.length
 have hn:=line63
 have fin:EP X pins σ Q w s:=⟨z,H,I,rw',q⟩
 by_cases h0:0<=i
 . have hj:i.toNat=j:=by
    rw[seqIndex_of h0 h5] at h1
    exact Option.some.inj h1
   exact item_listR pl.isList h0 (by omega) (by rw[hj];simpa using ew) fin hs
 . have hj:(i+(its.toArray.size:Int)).toNat=j:=by
    rw[seqIndex_neg (by omega) h4] at h1
    rw[List.size_toArray,<-hl]
    exact Option.some.inj h1
   exact subscriptTail_builtinR (x:=w) pl.isList.typeIs slot_list_getitem.lookup
    (wpAny_getItem_list_neg (Q:=fun r s'=>r=w/\EP X pins σ Q r s') pl.isList (by omega) (by rw[List.size_toArray] <;> omega) (by omega) (by rw[hj];simpa using ew) ⟨rfl,fin⟩) hs
theorem ix_tup:IxR X (rIxT X.K):=by
 intro value slice pins s σ H x y v u Q I rx ry h hs
 obtain⟨p,xs,i,z,rfl,rfl,hq,he,q⟩:=h
 cases rx
 obtain⟨t,rfl⟩:=ry
 obtain⟨its,r,pl,hz⟩:=I.tuple hq
 obtain⟨j,h1,h2,h3,h4,h5⟩:=atI_get he
 obtain⟨w,ew,rw'⟩:=r.get h2
 have hl:=r.length
 have hn:=line63
 have fin:EP X pins σ Q w s:=⟨z,H,I,rw',q⟩
 exact subscriptTail_builtinR (x:=w) pl.typeIs slot_tuple_getitem.lookup
  (getItem_tuple (j:=j) (Q:=fun r s'=>r=w/\EP X pins σ Q r s') pl (by omega) (by omega) (by rw[List.size_toArray,<-hl];exact h1) (by simpa using ew) ⟨rfl,fin⟩) hs
theorem mapSeq_set (its:List Value)(n j:Nat)(u:Value):Obj.mapSeq (·.setIfInBounds j u) { cls:=.type "list",data:=.seq its.toArray n }={ cls:=.type "list",data:=.seq (its.set j u).toArray n }:=by
 simp[Obj.mapSeq]
theorem Inv.lst {pins:List (Addr×Obj)}{σ:St}{H:Hp}{s:Shared}{p:Addr}{xs:List V}(I:Inv X pins σ H s)(h:H p=some (.lst xs)) :
 ∃(its:List Value)(n:Nat),Vals xs its/\s.heap.get? p=some { cls:=.type "list",data:=.seq its.toArray n }/\xs.length<=sizeLine:=by
 obtain⟨z,its,n,r,e⟩:=I.hok p _ h
 exact⟨its,n,r,e,z⟩
theorem Inv.lstUpd {pins:List (Addr×Obj)}{σ:St}{H:Hp}{s:Shared}{p:Addr}{xs ys:List V}{its its':List Value}{n n':Nat}{f:Obj->Obj}(I:Inv X pins σ H s)(h:H p=some (.lst xs))
 (ho:s.heap.get? p=some { cls:=.type "list",data:=.seq its.toArray n }) (hf:f { cls:=.type "list",data:=.seq its.toArray n }={ cls:=.type "list",data:=.seq its'.toArray n' }) (r:Vals ys its')(hz:ys.length<=sizeLine)(t:Nat) :
 Inv X pins σ (upd H p (.lst ys)) { s with heap:=s.heap.update p f,toks:=t }:=by
 have e:(s.heap.update p f).get? p=some { cls:=.type "list",data:=.seq its'.toArray n' }:=by
  rw[Heap.get?_update_self f ho (by rw[hf] <;> rfl),hf]
 refine I.write (x:=p) (e:=p) (by rw[h];trivial) (.inl rfl) (fun b u hb q=>(Heap.get?_update_other _ _ (Ne.symm hb)).trans q) ⟨_,e⟩ ?_
 exact⟨hz,its',n',r,e⟩
def rSetL:V->V->V->Hp->(Hp->Prop)->Prop:=fun o i v H Q=>∃p xs k j,o = .ref p/\i = .int k/\H p=some (.lst xs)/\ixN xs.length k=some j/\Q (upd H p (.lst (xs.set j v)))
theorem set_list:PSet X rSetL:=by
 intro pins s σ H o i v ov iv u Q I ro ri rv h
 obtain⟨p,xs,k,j,rfl,rfl,hp,hj,q⟩:=h
 cases ro
 obtain⟨t,rfl⟩:=ri
 obtain⟨its,n,r,ho,hz⟩:=I.lst hp
 obtain⟨h1,h2,h3,h4⟩:=ixN_seq hj
 have hl:=r.length
 have hn:=line63
 have I':Inv X pins σ (upd H p (.lst (xs.set j v))) { s with heap:=s.heap.update p (Obj.mapSeq (·.setIfInBounds j u)) }:=
  I.lstUpd hp ho (mapSeq_set its n j u) (r.set rv j) (by rw[List.length_set];exact hz) s.toks
 by_cases h0:0<=k
 . have hk:k.toNat=j:=by
    rw[seqIndex_of h0 h4] at h1
    exact Option.some.inj h1
   exact PySem.W.ki_setAt ho h0 (by omega) (by rw[List.size_toArray,<-hl];exact h4) (by rw[hk];exact⟨_,I',q⟩)
 . have hk:(k+(its.toArray.size:Int)).toNat=j:=by
    rw[seqIndex_neg (by omega) h3] at h1
    rw[List.size_toArray,<-hl]
    exact Option.some.inj h1
   exact PySem.W.ki_setBack ho (by omega) (by rw[List.size_toArray,<-hl];exact h3) (by omega) (by rw[hk];exact⟨_,I',q⟩)
theorem slice_bounds (lo hi:Option Int)(n:Nat):(sliceBounds lo hi none n).1=((HT.sIx n 0 lo:Nat):Int)/\(sliceBounds lo hi none n).2.1=((HT.sIx n n hi:Nat):Int)/\(sliceBounds lo hi none n).2.2=1:=by
 refine⟨?_,?_,rfl⟩
 . cases lo with
   | none=>simp[sliceBounds,HT.sIx]
   | some i=>
    simp only[sliceBounds,HT.sIx,Option.getD_none,show (1:Int) > 0 by decide,if_true]
    by_cases h:i<0
    . simp only[h,if_true] <;> omega
    . simp only[h,if_false] <;> omega
 . cases hi with
   | none=>simp[sliceBounds,HT.sIx]
   | some i=>
    simp only[sliceBounds,HT.sIx,Option.getD_none,show (1:Int) > 0 by decide,if_true]
    by_cases h:i<0
    . simp only[h,if_true] <;> omega
    . simp only[h,if_false] <;> omega
theorem slicePick_cut (its:List Value)(lo hi:Option Int):slicePick its.toArray lo hi none=((its.drop (HT.sIx its.length 0 lo)).take (HT.sIx its.length its.length hi-HT.sIx its.length 0 lo)).toArray:=by
 obtain⟨h1,h2,h3⟩:=slice_bounds lo hi its.toArray.size
 unfold slicePick
 rw[h1,h2,h3]
 simp only[sliceRange_one,pick_run,List.size_toArray] <;> rfl
def rSlL (K:PySem.W.Frag):V->Option Int->Option Int->Hp->VK->Prop:=fun x lo hi H Q=>∃a xs,x = .ref a/\SqL K H a xs/\∀p,H p=none->Q (.ref p) (upd H p (.lst (cutV xs lo hi)))
theorem sl_list:SlR X (rSlL X.K):=by
 intro pins s σ H x v vl vu lo hi sl Q I rx hs pl pu h
 obtain⟨a,xs,rfl,hx,q⟩:=h
 cases rx
 obtain⟨its,r,ht,hz⟩:=I.list hx
 have hlen:=r.length
 refine⟨"list",_,slot_list_getitem.lookup,ht.isList.typeIs,?_⟩
 refine wpAny_getItem_list_slice ht.isList hs pl pu .none (by simp) ?_ (by rw[List.size_toArray] <;> omega)
 rw[slicePick_cut,<-hlen]
 refine⟨.ref s.heap.objs.size,_,I.laid (t':=s.toks) (o:=.lst (cutV xs lo hi)) (fun b ob q=>Heap.get?_push_of_some _ q) (Nat.le_refl _) ?_,rfl,q _ (I.hok.fresh (Nat.le_refl _))⟩
 exact⟨Nat.le_trans (cutV_length xs lo hi) hz,_,0,(r.drop (HT.sIx xs.length 0 lo)).take (HT.sIx xs.length xs.length hi-HT.sIx xs.length 0 lo),Heap.get?_push_size _ rfl⟩
def flatV:V->Bool
 | .non=>true
 | .bl _=>true
 | .int _=>true
 | .str _=>true
 | _=>false
def eqV:V->V->Bool
 | .non,.non=>true
 | .bl a,.bl b=>a==b
 | .bl a,.int b=>(if a then 1 else 0)==b
 | .int a,.bl b=>a==(if b then 1 else 0)
 | .int a,.int b=>a==b
 | .str a,.str b=>a==b
 | _,_=>false
theorem eqAt_V {A:Around}{s:Shared}{y x:V}{u v:Value}(ry:RelV y u)(rx:RelV x v)(fy:flatV y=true)(fx:flatV x=true):SeqAt.EqAt A s u v (eqV y x):=by
 cases y with
 | non=>
  cases ry
  cases x with
  | non=>cases rx;exact SeqAt.EqAt.same _
  | bl b=>cases rx;exact SeqAt.EqAt.none_bool b
  | int b=>obtain⟨t,rfl⟩:=rx;exact SeqAt.EqAt.none_int b t
  | str b=>obtain⟨t,rfl⟩:=rx;exact SeqAt.EqAt.none_str b t
  | _=>exact absurd (show false=true from fx) Bool.false_ne_true
 | bl a=>
  cases ry
  cases x with
  | non=>cases rx;exact SeqAt.EqAt.bool_none a
  | bl b=>cases rx;exact SeqAt.EqAt.bool_bool a b
  | int b=>obtain⟨t,rfl⟩:=rx;exact SeqAt.EqAt.bool_int a b t
  | str b=>obtain⟨t,rfl⟩:=rx;exact SeqAt.EqAt.bool_str a b t
  | _=>exact absurd (show false=true from fx) Bool.false_ne_true
 | int a=>
  obtain⟨t',rfl⟩:=ry
  cases x with
  | non=>cases rx;exact SeqAt.EqAt.int_none a t'
  | bl b=>cases rx;exact SeqAt.EqAt.int_bool a t' b
  | int b=>obtain⟨t,rfl⟩:=rx;exact SeqAt.EqAt.int_int a t' b t
  | str b=>obtain⟨t,rfl⟩:=rx;exact SeqAt.EqAt.int_str a t' b t
  | _=>exact absurd (show false=true from fx) Bool.false_ne_true
 | str a=>
  obtain⟨t',rfl⟩:=ry
  cases x with
  | non=>cases rx;exact SeqAt.EqAt.str_none a t'
  | bl b=>cases rx;exact SeqAt.EqAt.str_bool a t' b
  | int b=>obtain⟨t,rfl⟩:=rx;exact SeqAt.EqAt.str_int a t' b t
  | str b=>obtain⟨t,rfl⟩:=rx;exact SeqAt.EqAt.str_str a t' b t
  | _=>exact absurd (show false=true from fx) Bool.false_ne_true
 | _=>exact absurd (show false=true from fy) Bool.false_ne_true
def eqU (x:V)(u:Value):Bool:=match u with
 | .none=>eqV .non x
 | .bool b=>eqV (.bl b) x
 | .int i _=>eqV (.int i) x
 | .str z _=>eqV (.str z) x
 | _=>false
theorem eqU_of {x y:V}{u:Value}(r:RelV y u)(f:flatV y=true):eqU x u=eqV y x:=by
 cases y with
 | non=>cases r;rfl
 | bl b=>cases r;rfl
 | int i=>obtain⟨t,rfl⟩:=r;rfl
 | str z=>obtain⟨t,rfl⟩:=r;rfl
 | _=>exact absurd (show false=true from f) Bool.false_ne_true
theorem any_eqU {x:V}:∀{xs:List V}{us:List Value},Vals xs us->xs.all flatV=true->us.any (eqU x)=xs.any fun y=>eqV y x
 | _,_,.nil,_=>rfl
 | y::xs,u::us,.cons r t,f=>by
  rw[List.all_cons,Bool.and_eq_true] at f
  rw[List.any_cons,List.any_cons,eqU_of r f.1,any_eqU t f.2]
theorem mem_eqAt {A:Around}{s:Shared}{x:V}{v:Value}(rx:RelV x v)(fx:flatV x=true):∀{xs:List V}{us:List Value},Vals xs us->xs.all flatV=true->∀u∈us,SeqAt.EqAt A s u v (eqU x u)
 | _,_,.nil,_=>fun u hu=>by cases hu
 | y::xs,u::us,.cons r t,f=>fun u' hu=>by
  rw[List.all_cons,Bool.and_eq_true] at f
  rcases List.mem_cons.mp hu with rfl | hu
  . rw[eqU_of r f.1];exact eqAt_V r rx f.1 fx
  . exact mem_eqAt rx fx t f.2 u' hu
def inV (x:V)(xs:List V):Bool:=xs.any fun y=>eqV y x
def rIn (K:PySem.W.Frag)(neg:Bool):R2:=fun x y H Q=>∃p xs,y = .ref p/\(SqL K H p xs\/SqT K H p xs)/\flatV x=true/\xs.all flatV=true/\Q (.bl (if neg then !inV x xs else inV x xs)) H
theorem op_in_seq:OpR X (compareOp .In) (rIn X.K false):=by
 intro pins s σ H x y v u Q I rx ry h
 obtain⟨p,xs,rfl,hq,fx,fs,q⟩:=h
 cases ry
 rcases hq with hq | hq
 . obtain⟨its,r,pl,hz⟩:=I.list hq
   refine SeqAt.in_listAt (eqU x) pl.isList (fun w hw=>mem_eqAt rx fx r fs w (by simpa using hw)) ⟨.bl _,H,I,rfl,?_⟩
   rw[show its.toArray.any (eqU x)=its.any (eqU x) by simp,any_eqU r fs]
   exact q
 . obtain⟨its,r,pl,hz⟩:=I.tuple hq
   refine SeqAt.in_tupleAt (eqU x) pl (fun w hw=>mem_eqAt rx fx r fs w (by simpa using hw)) ⟨.bl _,H,I,rfl,?_⟩
   rw[show its.toArray.any (eqU x)=its.any (eqU x) by simp,any_eqU r fs]
   exact q
theorem op_notIn_seq:OpR X (compareOp .NotIn) (rIn X.K true):=by
 intro pins s σ H x y v u Q I rx ry h
 obtain⟨p,xs,rfl,hq,fx,fs,q⟩:=h
 cases ry
 rcases hq with hq | hq
 . obtain⟨its,r,pl,hz⟩:=I.list hq
   refine SeqAt.notIn_listAt (eqU x) pl.isList (fun w hw=>mem_eqAt rx fx r fs w (by simpa using hw)) ⟨.bl _,H,I,rfl,?_⟩
   rw[show its.toArray.any (eqU x)=its.any (eqU x) by simp,any_eqU r fs]
   exact q
 . obtain⟨its,r,pl,hz⟩:=I.tuple hq
   refine SeqAt.notIn_tupleAt (eqU x) pl (fun w hw=>mem_eqAt rx fx r fs w (by simpa using hw)) ⟨.bl _,H,I,rfl,?_⟩
   rw[show its.toArray.any (eqU x)=its.any (eqU x) by simp,any_eqU r fs]
   exact q
theorem call_len_seq:CallR X (.builtin "len") (fun xs H Q=>∃p ys,xs=[.ref p]/\(SqL X.K H p ys\/SqT X.K H p ys)/\Q (.int ys.length) H):=by
 intro pins s σ H xs us Q I r h
 obtain⟨p,ys,rfl,hq,q⟩:=h
 obtain⟨u,rfl,rx⟩:=vals1 r
 cases rx
 have hn:=line63
 rcases hq with hq | hq
 . obtain⟨its,r',pl,hz⟩:=I.list hq
   have hlen:=r'.length
   exact Calls.call_len_list pl.isList (by simp only[List.size_toArray] <;> omega) ⟨.int ys.length,H,I.tok _,⟨s.toks+1,by rw[List.size_toArray,hlen]⟩,q⟩
 . obtain⟨its,r',pl,hz⟩:=I.tuple hq
   have hlen:=r'.length
   exact len_tuple pl (by simp only[List.size_toArray] <;> omega) ⟨.int ys.length,H,I.tok _,⟨s.toks+1,by rw[List.size_toArray,hlen]⟩,q⟩
theorem call_tuple_of:CallR X (.type "tuple") (fun xs H Q=>∃p ys,xs=[.ref p]/\((SqL X.K H p ys/\∀l,H l=none->Q (.ref l) (upd H l (.tup ys)))\/(SqT X.K H p ys/\Q (.ref p) H))):=by
 intro pins s σ H xs us Q I r h
 obtain⟨p,ys,rfl,h⟩:=h
 obtain⟨u,rfl,rx⟩:=vals1 r
 cases rx
 rcases h with ⟨hq,q⟩ | ⟨hq,q⟩
 . obtain⟨its,r',pl,hz⟩:=I.list hq
   have hlen:=r'.length
   refine call_tuple_list pl.isList (fun h' kp=>?_) (by simp only[List.size_toArray] <;> omega)
   have I1:Inv X pins σ H { s with heap:=h' }:=I.kept (t':=s.toks) kp
   have I2:Inv X pins σ (upd H h'.objs.size (.tup ys)) { s with heap:=h'.push { cls:=.type "tuple",data:=.seq its.toArray } }:=
    I1.laid (t':=s.toks) (fun b o e=>Heap.get?_push_of_some _ e) (Nat.le_refl _) (show ObjOk X.prog X.w _ _ _ (.tup ys) from ⟨⟨hz,_,Heap.get?_push_size _ rfl,rfl⟩,its,r',IsTup.new _ _⟩)
   exact⟨.ref h'.objs.size,_,I2,rfl,q _ (I1.hok.fresh (Nat.le_refl _))⟩
 . obtain⟨its,r',pl,hz⟩:=I.tuple hq
   exact call_tuple_same pl ⟨.ref p,H,I,rfl,q⟩
def tyV (K:PySem.W.Frag)(T:String)(x:V)(H:Hp):Prop:=match x with
 | .str _=>T = "str"
 | .int _=>T = "int"
 | .ref p=>(T = "list" /\ ∃xs,SqL K H p xs)\/(T = "tuple" /\ ∃o,K.lookup p=some o/\o.cls = .type "tuple" /\ o.dict=none) \/
  (T = "dict" /\ ((∃kvs,H p=some (.dK kvs))\/∃kvs,H p=some (.dT kvs)))\/(T = "set" /\ ∃S n,H p=some (.set S n))
 | _=>False
theorem tyV_is {pins:List (Addr×Obj)}{σ:St}{H:Hp}{s:Shared}{T:String}{x:V}{v:Value}(I:Inv X pins σ H s)(r:RelV x v)(ty:tyV X.K T x H) :
 s.TypeIs v T/\∀a,v = .ref a->∃ob,s.heap.get? a=some ob/\ob.dict=none:=by
 cases x with
 | str z=>
  obtain⟨t,rfl⟩:=r
  cases (show T = "str" from ty)
  exact⟨typeIs_str s z t,fun _ e=>nomatch e⟩
 | int i=>
  obtain⟨t,rfl⟩:=r
  cases (show T = "int" from ty)
  exact⟨typeIs_int s i t,fun _ e=>nomatch e⟩
 | ref p=>
  cases r
  rcases ty with ⟨rfl,xs,hq⟩ | ⟨rfl,o,hk,hc,hd⟩ | ⟨rfl,hk⟩ | ⟨rfl,S,n,hk⟩
  . obtain⟨its,_,pl,_⟩:=I.list hq
    refine⟨pl.isList.typeIs,fun a e=>?_⟩
    cases e
    obtain⟨o,n,e,c,hd,_⟩:=pl
    exact⟨o,e,hd⟩
  . refine⟨⟨o,I.kIn p o hk,hc⟩,fun a e=>?_⟩
    cases e
    exact⟨o,I.kIn _ o hk,hd⟩
  . have z:∃o,s.heap.get? p=some o/\o.ExactDict:=by
     rcases hk with ⟨kvs,hk⟩ | ⟨kvs,hk⟩
     . obtain⟨_,_,_,_,o,_,_,e,ex,_⟩:=I.hok p _ hk
       exact⟨o,e,ex⟩
     . obtain⟨_,_,_,_,o,_,_,e,ex,_⟩:=I.hok p _ hk
       exact⟨o,e,ex⟩
    obtain⟨o,e,ex⟩:=z
    refine⟨⟨o,e,ex.1⟩,fun a e2=>?_⟩
    cases e2
    exact⟨o,e,ex.2.1⟩
  . obtain⟨o,_,_,_,e,ex,_⟩:=I.hok p _ hk
    refine⟨⟨o,e,ex.1⟩,fun a e2=>?_⟩
    cases e2
    exact⟨o,e,ex.2.1⟩
 | _=>exact False.elim ty
def tBM (K:PySem.W.Frag)(T:String)(r:V->List V->Hp->VK->Prop)(to:TE)(t:TA):TE:=fun σ H Q=>to σ H fun x H1=>tyV K T x H1/\t σ H1 fun xs H2=>r x xs H2 Q
variable {o e:Expr}{es:List Expr}{to:TE}{t:TA}{name:Str}{apos cpos:Pos}{T id:String}{r:V->List V->Hp->VK->Prop}
theorem pe_bm (pa:PlainAttrs T)(slot:Slot T name id)(hty:typeOf (.builtin id)=pure (.type "method_descriptor")) (hm:MtR X id r)(ho:PE X o to)(ha:PA X (e::es) t)
 (hbase:attributeBase o name X.env (eval o X.env)=eval o X.env:=by rfl)
 (hfew:((backTo cpos (starEach (e::es) X.env)).all (fun x=>!x.1) && (backToKw cpos (keywordEach [] X.env)).all (fun x=>x.1.isSome)
  && decide ((e::es).length+([]:List Keyword).length+(if ([]:List Keyword).isEmpty then 0 else 1)<30))=true:=by rfl)
 (hline:(apos.endLine==cpos.line)=true:=by rfl)(hs:starEach (e::es) X.env=(false,eval e X.env)::starEach es X.env:=by rfl)(hplain:(backTo cpos (starEach es X.env)).any (·.1)=false:=by rfl) :
 PE X (.Call (.Attribute o name apos) (e::es) [] cpos) (tBM X.K T r to t):=by
 intro pins s σ H Q I h
 refine wpAny_Call_method_late hbase hfew hline rfl (thn (ho pins s σ H _ I h) fun v s1 ⟨x,H1,I1,r1,ty,q1⟩=>?_)
 obtain⟨h1,h2⟩:=tyV_is I1 r1 ty
 refine⟨T,id,pa,slot,hty,h1,h2,?_⟩
 have hA:=ha cpos pins s1 σ H1 _ I1 q1
 rw[hs] at hA ⊢
 refine Calls.callWith_builtin (by show (false || (backTo cpos (starEach es X.env)).any (·.1))=false;rw[hplain] <;> rfl) (Calls.evalArgs_plain ?_)
 exact thn hA fun us s2 ⟨vs,H2,I2,r2,q2⟩=>hm pins s2 σ H2 x vs v us Q I2 r1 r2 q2
end
end L2
namespace L2
open PySem PySem.Spec PyProof.Rows
def MtM (X:Cx)(id:String)(r:V->List V->Hp->VK->Prop):Prop:=
 ∀(pins:List (Addr×Obj))(s:Shared)(σ:St)(H:Hp)(x:V)(xs:List V)(v:Value)(us:List Value)(Q:VK),Inv X pins σ H s->RelV x v->Vals xs us->r x xs H Q ->
  wpAny (model X.prog X.w) X.A (call (.builtin id) (v::us)) (EP X pins σ Q) X.xe s
theorem Vals.one:∀{x:V}{us:List Value},Vals [x] us->∃u,us=[u]/\RelV x u
 | _,_,.cons r .nil=>⟨_,rfl,r⟩
theorem Vals.eraseIdx:∀{xs:List V}{us:List Value}(i:Nat),Vals xs us->Vals (xs.eraseIdx i) (us.eraseIdx i)
 | _,_,_,.nil=>.nil
 | _,_,0,.cons _ t=>t
 | _,_,i+1,.cons r t=>.cons r (Vals.eraseIdx i t)
theorem Vals.rep {xs:List V}{us:List Value}(h:Vals xs us):∀k:Nat,Vals (List.replicate k xs).flatten (List.replicate k us).flatten
 | 0=>.nil
 | k+1=>by
  rw[List.replicate_succ,List.replicate_succ,List.flatten_cons,List.flatten_cons]
  exact Vals.append h (Vals.rep h k)
theorem len_erase {α:Type}:∀(l:List α)(i:Nat),(l.eraseIdx i).length<=l.length
 | [],_=>Nat.le_refl _
 | _::_,0=>Nat.le_succ _
 | _::r,i+1=>Nat.succ_le_succ (len_erase r i)
theorem foldl_rep (its:List Value):∀(k:Nat)(acc:List Value),
 List.foldl (fun x1 x2=>x1++x2) acc.toArray (List.replicate k its.toArray)=(acc++(List.replicate k its).flatten).toArray
 | 0,acc=>by simp
 | k+1,acc=>by
  have e:acc.toArray++its.toArray=(acc++its).toArray:=by simp
  have e2:(acc++its)++(List.replicate k its).flatten=acc++(List.replicate (k+1) its).flatten:=by
   rw[List.replicate_succ,List.flatten_cons,List.append_assoc]
  rw[<-e2,<-foldl_rep its k (acc++its),<-e,List.replicate_succ,List.foldl_cons]
section
variable {X:Cx}{pins:List (Addr×Obj)}{σ:St}{H:Hp}{s:Shared}{l b:Addr}{xs ys zs:List V}
theorem Inv.lset {its its':List Value}{n:Nat}{f:Array Value->Array Value}{t':Nat}(I:Inv X pins σ H s)(hH:H l=some (.lst xs))
 (e:s.heap.get? l=some { cls:=.type "list",data:=.seq its.toArray n }) (hf:f its.toArray=its'.toArray)(hv:Vals ys its')(hz:ys.length<=sizeLine) :
 Inv X pins σ (upd H l (.lst ys)) { s with heap:=s.heap.update l (Obj.mapSeq f),toks:=t' }:=by
 have q:=PySem.IsL.update e f
 rw[hf] at q
 refine I.write (x:=l) (e:=l) (by rw[hH];exact trivial) (.inl rfl) (fun b' u hb hu=>(Heap.get?_update_other s.heap (Obj.mapSeq f) (Ne.symm hb)).trans hu) ⟨_,q⟩ ?_
 exact⟨hz,its',_,hv,q⟩
theorem Inv.lnew {its:List Value}{t':Nat}(I:Inv X pins σ H s)(hv:Vals ys its)(hz:ys.length<=sizeLine) :
 Inv X pins σ (upd H s.heap.objs.size (.lst ys)) { s with heap:=s.heap.push { cls:=.type "list",data:=.seq its.toArray },toks:=t' }:=
 I.laid (fun _ _ q=>Heap.get?_push_of_some _ q) (Nat.le_refl _) ⟨hz,its,0,hv,Heap.get?_push_size _ rfl⟩
theorem Inv.fresh (I:Inv X pins σ H s):H s.heap.objs.size=none:=I.hok.fresh (Nat.le_refl _)
theorem Inv.lstM (I:Inv X pins σ H s)(hH:H l=some (.lst xs)):xs.length<=sizeLine/\∃(its:List Value)(n:Nat),Vals xs its/\xs.length=its.length/\s.heap.get? l=some { cls:=.type "list",data:=.seq its.toArray n }:=by
 obtain⟨z,its,n,r,e⟩:=I.hok l _ hH
 exact⟨z,its,n,r,r.length,e⟩
theorem notLongL {n:Nat}(h:n<=sizeLine):Builtin.List.listTooLong n=false:=by
 unfold Builtin.List.listTooLong
 exact decide_eq_false (by omega)
end
section
variable {X:Cx}
def rAppend:V->List V->Hp->VK->Prop:=fun x vs H Q=>∃l xs y,x = .ref l/\vs=[y]/\H l=some (.lst xs)/\xs.length<sizeLine/\Q .non (upd H l (.lst (xs++[y])))
theorem mt_append:MtM X "list.append" rAppend:=by
 intro pins s σ H x vs v us Q I rx rv h
 obtain⟨l,xs,y,rfl,rfl,hH,hz,q⟩:=h
 cases rx
 obtain⟨u,rfl,ru⟩:=rv.one
 obtain⟨z,its,n,r,hl,e⟩:=I.lstM hH
 refine call_meets F.slot_list_append ⟨_,e,rfl⟩ F.entry_list_append (F.args_list_append_2 _ _) (PySem.list_append l its.toArray n u (by rw[List.size_toArray];omega)) ⟨e,?_⟩
 refine⟨.non,_,I.lset (its':=its++[u]) hH e (by simp) (r.append (.cons ru .nil)) ?_,rfl,q⟩
 rw[List.length_append,List.length_singleton]
 omega
def rPopAt:V->List V->Hp->VK->Prop:=fun x vs H Q=>∃l xs i k y,x = .ref l/\vs=[.int i]/\H l=some (.lst xs) /\ -(2 ^ 63)<=i/\i<2 ^ 63/\seqIndex? i xs.length=some k/\xs[k]? = some y/\Q y (upd H l (.lst (xs.eraseIdx k)))
theorem mt_popAt:MtM X "list.pop" rPopAt:=by
 intro pins s σ H x vs v us Q I rx rv h
 obtain⟨l,xs,i,k,y,rfl,rfl,hH,h1,h2,hk,hy,q⟩:=h
 cases rx
 obtain⟨u,rfl,ru⟩:=rv.one
 obtain⟨t,rfl⟩:=ru
 obtain⟨z,its,n,r,hl,e⟩:=I.lstM hH
 obtain⟨w,hw,rw'⟩:=r.get hy
 refine call_meets F.slot_list_pop ⟨_,e,rfl⟩ F.entry_list_pop (F.args_list_pop_2 _ _)
  (MeetsSeq.list_pop_at l its.toArray n i t k w (fitsIndex_both h1 h2) (by rw[List.size_toArray,<-hl];exact hk) (by rw[<-Array.getElem?_toList];exact hw) (by rw[List.size_toArray];omega)) ⟨e,?_⟩
 refine⟨y,_,I.lset (its':=its.eraseIdx k) hH e ?_ (r.eraseIdx k) ?_,rw',q⟩
 . show its.toArray.eraseIdxIfInBounds k=(its.eraseIdx k).toArray
   rw[List.eraseIdxIfInBounds_toArray]
 . have:=len_erase xs k
   omega
def rCat:R2:=fun x y H Q=>∃l b xs zs,x = .ref l/\y = .ref b/\H l=some (.lst xs)/\H b=some (.lst zs)/\xs.length+zs.length<=sizeLine/\∀p,H p=none->Q (.ref p) (upd H p (.lst (xs++zs)))
theorem op_cat:OpR X (binaryOp .Add) rCat:=by
 intro pins s σ H x y v u Q I rx ry h
 obtain⟨l,b,xs,zs,rfl,rfl,hH,hB,hz,q⟩:=h
 cases rx
 cases ry
 obtain⟨z,its,n,r,hl,e⟩:=I.lstM hH
 obtain⟨z2,its2,n2,r2,hl2,e2⟩:=I.lstM hB
 refine PySem.P.add_list e e2 ?_ (by rw[List.size_toArray,List.size_toArray];omega)
 have ea:its.toArray++its2.toArray=(its++its2).toArray:=by simp
 rw[ea]
 exact⟨.ref _,_,I.lnew (t':=s.toks) (r.append r2) (by rw[List.length_append];omega),rfl,q _ I.fresh⟩
def rRep:R2:=fun x y H Q=>∃l k xs,x = .ref l/\y = .int k/\H l=some (.lst xs) /\ -(2 ^ 63)<=k/\k<2 ^ 63/\xs.length*k.toNat<=sizeLine /\
 ∀p,H p=none->Q (.ref p) (upd H p (.lst (List.replicate k.toNat xs).flatten))
theorem len_rep {α:Type}(xs:List α)(k:Nat):(List.replicate k xs).flatten.length=k*xs.length:=by
 induction k with
 | zero=>simp
 | succ k ih=>rw[List.replicate_succ,List.flatten_cons,List.length_append,ih,Nat.succ_mul,Nat.add_comm]
theorem op_rep:OpR X (binaryOp .Mult) rRep:=by
 intro pins s σ H x y v u Q I rx ry h
 obtain⟨l,k,xs,rfl,rfl,hH,h1,h2,hz,q⟩:=h
 cases rx
 obtain⟨t,rfl⟩:=ry
 obtain⟨z,its,n,r,hl,e⟩:=I.lstM hH
 have hlen:its.toArray.size*k.toNat<=sizeLine:=by rw[List.size_toArray,<-hl];exact hz
 have hcap:¬ its.toArray.size*k.toNat > (2 ^ 63-1)/8:=by
  have:(sizeLine:Nat)<=(2 ^ 63-1)/8:=by decide
  omega
 have hfit:¬ (!Builtin.List.listFitsIndex k)=true:=by
  rw[fitsIndex_both h1 h2]
  exact Bool.false_ne_true
 have hlong:¬ Builtin.List.listTooLong (its.toArray.size*k.toNat)=true:=by
  rw[notLongL hlen]
  exact Bool.false_ne_true
 have hnew:List.foldl (fun x1 x2=>x1++x2) #[] (List.replicate (if its.toArray.isEmpty=true then 0 else k.toNat) its.toArray)=(List.replicate k.toNat its).flatten.toArray:=by
  have f0:∀m:Nat,List.foldl (fun x1 x2=>x1++x2) #[] (List.replicate m its.toArray)=(List.replicate m its).flatten.toArray:=fun m=>by
   have:=foldl_rep its m []
   rw[List.nil_append] at this
   exact this
  rw[f0]
  cases its with
  | nil=>simp
  | cons a r'=>rw[if_neg (by simp)]
 refine wpAny_binaryOp_repeat_ref (T := "list") (U := "int") (by decide) ⟨_,e,rfl⟩ (fun s'=>typeIs_int s' k t) noFill_list_mul F.fills_int_mul F.slot_int_rmul repeat_list F.slot_int_index.lookup
  (call_meets F.slot_int_rmul (typeIs_int s k t) F.entry_int_rmul (F.args_int_rmul_2 _ _) (int___rmul___int_list k t l its.toArray n)
   ⟨e,rfl,⟨_,e,rfl⟩,call_meets F.slot_list_mul ⟨_,e,rfl⟩ F.entry_list_mul (F.args_list_mul_2 _ _) (AutoListH.list___mul___list_int_3 l its.toArray n k t hfit hcap hlong) ⟨e,?_⟩⟩)
 rw[hnew]
 exact⟨.ref _,_,I.lnew (t':=s.toks) (r.rep k.toNat) (by rw[len_rep,Nat.mul_comm];exact hz),rfl,q _ I.fresh⟩
end
section
variable {prog:Program}{w:World}{A:Around}{E:Value->Shared->Prop}{s:Shared}
set_option maxRecDepth 100000 in
end
section
variable {X:Cx}
end
end L2
namespace Att
open PySem PySem.W PySem.Calls PyProof.Rows
theorem ints_of_wellAll {P:Params}{h:Heap}:∀(ns:List Int)(vs:List Value),WellAll P h vs (ns.map WData.int)->IntsAre vs ns:=by
 intro ns
 induction ns with
 | nil=>
  intro vs w
  rw[List.map_nil] at w
  cases w
  exact .nil
 | cons n ns ih=>
  intro vs w
  rw[List.map_cons] at w
  cases w with
  | cons a b=>
   cases a
   exact .cons _ _ (ih _ b)
theorem script_of {l:OpenLaw}{n:Nat}(hn:l.most=some n){P:Params}{h:Heap}{args:List WData}{vals:List Value}
 (hpre:l.row.toRowW.claim.pre args=true)(hwl:WellAll P h vals args) :
 ∃a vs ns,vals=[Value.ref a]/\args=[WData.list (ns.map WData.int)]/\h.get? a=some { cls:=.type "list",data:=.seq vs.toArray }/\IntsAre vs ns/\ns.length<=n:=by
 have hsh:WShape.hasAll [] args [.list .int]=true:=(pre_splitW hpre).1
 have hc:l.pre.holds [] { args:=args }=true:=(pre_splitW hpre).2
 obtain⟨d,r,rfl,h1,h2⟩:=hasAllW_cons hsh
 obtain rfl:=hasAllW_nil h2
 obtain⟨xs,rfl,h3⟩:=hasW_list h1
 obtain⟨ns,rfl⟩:=items_int h3
 have hlen:ns.length<=n:=by
  unfold OpenLaw.pre at hc
  have h4:(WTm.not (.lt (.lit (.int (n:Int))) (.len (.arg 0)))).holds [] { args:=[.list (ns.map .int)] }=true:=by
   have h4:=(holds_andW hc).1
   rw[hn] at h4
   exact h4
  have h5:=condW_of h4 (w_not (w_lt w_lit (w_len_list (w_arg rfl))))
  rw[List.length_map] at h5
  refine Nat.le_of_not_lt fun q=>?_
  have q':(n:Int)<((ns.length:Nat):Int):=by omega
  first
   | (rw[decide_eq_true q'] at h5;exact absurd h5 (by decide))
   | (simp at h5;omega)
 cases hwl with
 | cons w1 w2=>
  cases w2
  cases w1 with
  | list ho hall=>exact⟨_,_,ns,rfl,rfl,ho,ints_of_wellAll ns _ hall,hlen⟩
theorem post_true (l:OpenLaw)(args:List WData):l.row.toRowW.claim.post args (.bool true) args=true:=
 postW_of (r:=l.row.toRowW) (X:=(true==true))
  (show WShape.has [] (.bool true) .bool=true by first | rfl | decide | simp[WShape.has,WShape.arms,WShape.armsAll])
  (show (WTm.eq .res (.lit (.bool true))).value [] { args:=args,res:=some (.bool true),after:=args }=some (.bool (true==true)) from w_eq_bool (w_res rfl) w_lit) rfl
theorem attach_call {l:OpenLaw}{n:Nat}{q:Program}{loose:List Str}{XP:(Str->Option Value)->Heap->Prop}{YP:World->Heap->Prop}{d:DefRec}
 (hn:l.most=some n)(hdf:d.params.defaults=[])
 (call:∀(w:World)(s₀ s₁:Shared)(mg mb:Str->Option Value)(fa:Addr)(o:Obj)(pm cd doc:Value)(a:Addr)(vs:List Value)(ns:List Int),
  Ground q loose [] XP w s₀ mg mb s₁.heap->YP w s₁.heap ->
  s₁.heap.get? fa=some o->o.data = .func (docDef d.name d.params d.body d.scope pm cd doc)->s₁.heap.CodeRec cd d.name->mg d.name=some (.ref fa) ->
  s₁.heap.get? a=some { cls:=.type "list",data:=.seq vs.toArray }->IntsAre vs ns->ns.length<=n->s₁.gens = #[] ->
  codeAny (model l.prog w) callerA (.call (.ref fa) ⟨[.ref a],[]⟩) (fun r s'=>r = .ok (.ret (.bool true))/\OldK s₁.heap s'.heap/\s'.os=s₁.os/\AllBare s'.gens) s₁) :
 WalkO q loose XP YP l.row.toRowW d [] (fun f vs=>PySem.call f vs):=by
 intro w s₀ s₁ mg mb G Y fa o pm cd doc dV kV ho hd hcd hD hmg hg args vals as hpre hlay hrd hwl hlo
 obtain rfl:dV = .none:=Dflts.none hD hdf
 obtain rfl:kV = .none:=Dflts.noKw hD
 obtain⟨a,vs,ns,rfl,rfl,hobj,hints,hlen⟩:=script_of hn hpre hwl
 refine enter_call (codeAny_mono (call w s₀ s₁ mg mb fa o pm cd doc a vs ns G Y ho (fd_plain hd) hcd hmg hobj hints hlen hg) fun r s' hq=>?_)
 obtain⟨rfl,h2,h3,h4⟩:=hq
 exact⟨.inl ⟨.bool true,.bool true,[],rfl,fun _=>rfl,.bool true,post_true l _,fun _=>⟨List.Pairwise.nil,fun _ hm=>(nomatch hm)⟩⟩,h2,h3,h4⟩
section
variable {prog:Program}{w:World}{A:Around}{E:Value->Shared->Prop}{s:Shared}{K:Frag}
end
end Att
namespace L2
open PySem PySem.Spec PyProof.Rows
theorem vals_ints:∀{vs:List Value}{ns:List Int},IntsAre vs ns->Vals (ns.map V.int) vs
 | _,_,.nil=>.nil
 | _,_,.cons n t h=>.cons ⟨t,rfl⟩ (vals_ints h)
def Only (H:Hp):Prop:=∀b,H b=none\/∃o xs,H b=some (.frz o (.lst xs))
theorem law_call {P:Program}{w:World}{K:PySem.W.Frag}{mg mb:Str->Option Value}{CX:CXT}{k:Nat}{fa a:Addr}{fd:FuncData}{x:Str}{sp:Sp}{s₁:Shared}{vs:List Value}{ns:List Int}
 (KX:K.In s₁.heap)(hns:s₁.heap.Ns mainGlobals mg)(hb:s₁.heap.Ns builtinsNs mb)(hbb:∀x:Str,x ≠ "__name__" -> mb x=bootBuiltins x) (hlim:s₁.heap.NoLimit)(hg:s₁.gens = #[])
 (ha:s₁.heap.get? a=some { cls:=.type "list",data:=.seq vs.toArray }) (hi:IntsAre vs ns)(hl:ns.length<=sizeLine)(hr:Room k callerA)
 (F:∀base:Heap,K.In base->base.Ns mainGlobals mg->FnOk P w K mg base CX k fa fd [x] sp)(hbind:∀(s:Shared)(u:Value),BindsTo s fd ⟨[u],[]⟩ [(x,u)])
 (hsp:∀H:Hp,Only H->SqL K H a (ns.map V.int)->sp [.ref a] H (fun v _=>v = .bl true) fun _ _ _=>False)
 (hCX:∀H e s',CX [] H s₁ (fun _ _ _=>False) e s'->False) :
 codeAny (model P w) callerA (.call (.ref fa) ⟨[.ref a],[]⟩) (fun r s'=>r = .ok (.ret (.bool true))/\OldK s₁.heap s'.heap/\s'.os=s₁.os/\AllBare s'.gens) s₁:=by
 have rv:=vals_ints hi
 have lenV:=hi.length
 have core:∀H:Hp,Only H->SqL K H a (ns.map V.int)->HOk P w H s₁.heap->(∀b,H b≠none->b=a)->(H a≠none->K.lookup a=none) ->
  codeAny (model P w) callerA (.call (.ref fa) ⟨[.ref a],[]⟩) (fun r s'=>r = .ok (.ret (.bool true))/\OldK s₁.heap s'.heap/\s'.os=s₁.os/\AllBare s'.gens) s₁:=by
  intro H hO hS hok hA hK
  have base_of:∀{b:Addr}{o:Obj},s₁.heap.get? b=some o->H b=none->(hidT s₁.heap H).get? b=some o:=fun e n=>hidT_get e n
  have noA:∀{b:Addr}{o:Obj}{es:Array DictEntry}{ep:Nat},s₁.heap.get? b=some o->o.data = .dict es ep->H b=none:=fun {b o es ep} e d=>by
   cases q:H b with
   | none=>rfl
   | some u=>
    have e':b=a:=hA b (by rw[q];simp)
    subst e'
    rw[ha] at e;cases e
    have d':Data.seq vs.toArray _=Data.dict es ep:=d
    cases d'
  have nsK:∀{b:Addr}{m:Str->Option Value},s₁.heap.Ns b m->(hidT s₁.heap H).Ns b m:=fun {b m} ⟨o,es,ep,e,d,r⟩=>⟨o,es,ep,base_of e (noA e d),d,r⟩
  have hKb:K.In (hidT s₁.heap H):=fun b o e=>base_of (KX b o e) (by
   cases q:H b with
   | none=>rfl
   | some u=>
    have e':b=a:=hA b (by rw[q];simp)
    subst e'
    rw[hK (by rw[q];simp)] at e;cases e)
  have hM:Mod K mg (hidT s₁.heap H):=⟨hKb,nsK hns,⟨mb,nsK hb,hbb⟩,let ⟨mc,h1,h2⟩:=hlim;⟨mc,nsK h1,h2⟩⟩
  have e0:Env0 P w K mg (hidT s₁.heap H) callerA [] s₁ H:=⟨rfl,hM,fun b o e=>of_hidT e,Nat.le_of_eq (hidT_size _ _),trivial,fun b hb=>absurd (show b∈([]:List Addr) from hb) (by simp),hok,.of_eq hg⟩
  refine codeAny_mono ((F _ hKb (nsK hns)).run callerA [] s₁ H ⟨[.ref a],[]⟩ [.ref a] [.ref a] _ _ hr e0 (hbind s₁ (.ref a)) (.cons rfl .nil) (hsp H hO hS)) fun r s' h=>?_
  cases r with
  | error e=>exact (hCX H e s' h).elim
  | ok fl=>
   cases fl with
   | next=>exact False.elim h
   | brk=>exact False.elim h
   | cont=>exact False.elim h
   | ret u=>
    obtain⟨v,H',os,bare,un,hok',r',q⟩:=h
    have q':v = .bl true:=q
    subst q'
    obtain rfl:u=Value.bool true:=r'
    refine⟨rfl,OldK.of_keep fun b o e=>?_,os,bare⟩
    cases q:H b with
    | none=>exact un.keep b o e q (by intro z;exact absurd (show b∈([]:List Addr) from z) (by simp)) (by simp)
    | some u=>
     rcases hO b with z | ⟨ob,xs,z⟩
     . rw[q] at z;cases z
     . have z2:=un.frzs b ob _ z
       obtain⟨e1,_⟩:=hok b _ z
       obtain⟨e2,_⟩:=hok' b _ z2
       rw[e] at e1;cases e1
       exact e2
 cases hk:K.lookup a with
 | some o=>
  have e:=KX a o hk
  rw[ha] at e
  cases e
  refine core (fun _=>none) (fun _=>.inl rfl) (.inr ⟨_,vs.toArray,_,hk,rfl,rfl,rfl,by rw[List.size_toArray,lenV];exact hl,by simpa using rv⟩) (fun b u z=>by have z':(none:Option HO)=some u:=z;cases z') (fun b z=>absurd rfl z) fun z=>absurd rfl z
 | none=>
  refine core (fun b=>if b=a then some (.frz { cls:=.type "list",data:=.seq vs.toArray } (.lst (ns.map V.int))) else none) (fun b=>?_) (.inl (.inr ⟨{ cls:=.type "list",data:=.seq vs.toArray },if_pos rfl⟩)) (fun b u z=>?_) (fun b z=>?_) fun _=>hk
  . by_cases hb:b=a
    . exact .inr ⟨_,_,if_pos hb⟩
    . exact .inl (if_neg hb)
  . by_cases hb:b=a
    . have z':=(if_pos hb).symm.trans z
      cases z'
      subst hb
      exact⟨ha,by rw[List.length_map];exact hl,vs,_,rv,ha⟩
    . have z':=(if_neg hb).symm.trans z
      cases z'
  . by_cases hb:b=a
    . exact hb
    . exact absurd (if_neg hb) z
end L2
namespace L2
open PySem PySem.Spec PyProof.Rows
theorem walk_of {l:PySem.W.OpenLaw}{n k:Nat}{q:Program}{loose:List Str}{XP:(Str->Option Value)->Heap->Prop}{YP:World->Heap->Prop}{d:DefRec}{K:Params->PySem.W.Frag}{CX:World->CXT}{sp:World->Sp}{x:Str}
 (hn:l.most=some n)(hn2:n<=sizeLine)(hdf:d.params.defaults=[])(hr:Room k callerA)
 (hY:∀(w:World)(h:Heap),YP w h->(K w.params).In h)
 (F:∀(w:World)(mg:Str->Option Value)(fa:Addr)(h:Heap),(K w.params).In h->h.Ns mainGlobals mg->mg d.name=some (.ref fa) ->
  ∃fd:FuncData,(∀(s:Shared)(u:Value),BindsTo s fd ⟨[u],[]⟩ [(x,u)]) /\
   ∀base:Heap,(K w.params).In base->base.Ns mainGlobals mg->FnOk l.prog w (K w.params) mg base (CX w) k fa fd [x] (sp w))
 (hsp:∀(w:World)(H:Hp)(a:Addr)(ns:List Int),ns.length<=n->Only H->SqL (K w.params) H a (ns.map V.int)->sp w [.ref a] H (fun v _=>v = .bl true) fun _ _ _=>False)
 (hCX:∀(w:World)(H:Hp)(s:Shared)(e:Value)(s':Shared),CX w [] H s (fun _ _ _=>False) e s'->False) :
 PySem.W.WalkO q loose XP YP l.row.toRowW d [] (fun f vs=>PySem.call f vs):=by
 refine Att.attach_call hn hdf fun w s₀ s₁ mg mb fa o pm cd doc a vs ns G Y ho hd hcd hmg hobj hints hlen hg=>?_
 have KX:=hY w _ Y
 obtain⟨fd,hb,hF⟩:=F w mg fa _ KX G.T.g hmg
 exact law_call KX G.T.g G.T.b G.T.builtins G.T.nolimit hg hobj hints (Nat.le_trans hlen hn2) hr hF hb (fun H hO hS=>hsp w H a ns hlen hO hS) fun H e s'=>hCX w H s₁ e s'
end L2
namespace L2
open PySem PySem.Spec PyProof.Rows
def defArgs (s:Stmt):Arguments:=match s with
 | .FunctionDef _ a _ _ _ _ _ _ _ _=>a
 | _=>{ posonlyargs:=[],args:=[],vararg:=none,kwonlyargs:=[],kw_defaults:=[],kwarg:=none,defaults:=[] }
def defBody (s:Stmt):List Stmt:=match s with
 | .FunctionDef _ _ b _ _ _ _ _ _ _=>b
 | _=>[]
def defScope (s:Stmt):Scope:=match s with
 | .FunctionDef _ _ _ _ _ _ sc _ _ _=>sc
 | _=>{ kind:=.function,names:=[],isGenerator:=false,isCoroutine:=false }
abbrev CX0:CXT:=fun _ _ _ _ _ _=>False
abbrev E0:XK:=fun _ _ _=>False
theorem pass0 {X:Cx}:Passes CX0 X E0:=fun _ _ _ _ _ _ _ h=>h.elim
structure Fun (K:PySem.W.Frag)(x qual:Str)(st:Stmt)(f:Addr)(fd:FuncData):Prop where
 ex:∃(oc:Value)(od:Option Addr)(kV doc pm:Value)(an:Option Addr)(cdv ct:Value)(osl:Array (Option Value)),
  fd=PySem.W.fnOf x qual (defArgs st) (defBody st) (defScope st) .none kV doc pm an cdv ct/\K.lookup f=some ⟨oc,od,.func fd,osl⟩/\PySem.W.codeIn K cdv qual=true
 kp:PySem.W.keepIn K (.ref f)=true
section
variable {P:Program}{w:World}{K:PySem.W.Frag}{mg:Str->Option Value}{base:Heap}
theorem Fun.ok {x qual:Str}{st:Stmt}{f:Addr}{fd:FuncData}{N ps:List Str}{k:Nat}{sp:Sp}(F:Fun K x qual st f fd)(S:FnScope N ps (defScope st))(len:∀vs H Q E,sp vs H Q E->vs.length=ps.length)
 (hbody:∀(cdv:Value)(A:Around)(outer:List Env)(s:Shared)(H:Hp)(vs:List V)(Q:VK)(E:XK),Room k (A.deeper (envOfC qual (defScope st) s.heap.objs.size f cdv))->sp vs H Q E ->
  ∃t,PSs (cxOf CX0 P w K mg base N qual (defScope st) f cdv A outer s H E).nox (defBody st) t/\t { nx:=fun _ H'=>Q .non H',rt:=Q } (start N vs) H):FnOk P w K mg base CX0 (k+1) f fd ps sp:=by
 obtain⟨oc,od,kV,doc,pm,an,cdv,ct,osl,rfl,lk,hcd⟩:=F.ex
 refine fn_of lk hcd S len fun A outer s H vs Q E hr hsp=>?_
 obtain⟨t,h,q⟩:=hbody cdv A outer s H vs Q E hr hsp
 exact⟨t,h.nox,q⟩
theorem Fun.binds {x qual:Str}{st:Stmt}{f:Addr}{fd:FuncData}{ps:List Str}(F:Fun K x qual st f fd)
 (h:∀(kV doc pm:Value)(an:Option Addr)(cdv ct:Value)(us:List Value),us.length=ps.length->bindArgs (PySem.W.fnOf x qual (defArgs st) (defBody st) (defScope st) .none kV doc pm an cdv ct) ⟨us,[]⟩=pure (ps.zip us)):Binds K fd ps []:=by
 obtain⟨oc,od,kV,doc,pm,an,cdv,ct,osl,rfl,lk,hcd⟩:=F.ex
 exact .all (h kV doc pm an cdv ct)
theorem fun_mk {x qual:Str}{st:Stmt}{f:Addr}{oc:Value}{od an:Option Addr}{osl:Array (Option Value)}{kV doc pm cdv ct:Value}(l:K.lookup f=some ⟨oc,od,.func (PySem.W.fnOf x qual (defArgs st) (defBody st) (defScope st) .none kV doc pm an cdv ct),osl⟩)
 (c:PySem.W.codeIn K cdv qual=true)(k:PySem.W.keepIn K (.ref f)=true):Fun K x qual st f (PySem.W.fnOf x qual (defArgs st) (defBody st) (defScope st) .none kV doc pm an cdv ct):=⟨⟨oc,od,kV,doc,pm,an,cdv,ct,osl,rfl,l,c⟩,k⟩
end
theorem hu_of {A:Around}{k:Nat}(hr:Room k A):A.units+1<cLine:=Nat.lt_of_le_of_lt (Nat.add_le_add_left (by decide:1<=64) _) hr.units
section
variable {X:Cx}
theorem pv (i:Nat){x:Str}{pos:Pos}(hN:X.N[i]? = some x:=by rfl)(hv:Vis X.env.scope x:=by first | exact Or.inl rfl | exact Or.inr (Or.inl rfl) | exact Or.inr (Or.inr rfl))(hd:(x==("__debug__" : Str))=false:=by decide)
 (hcd:(x==("__classdict__" : Str))=false:=by decide):PE X (.Name x pos) (tVar i):=pe_var hN hv hd hcd
end
theorem iteF {A B:Prop}(h:B):if false=true then A else B:=by
 rw[if_neg Bool.false_ne_true]
 exact h
theorem iteT {A B:Prop}(h:A):if true=true then A else B:=by
 rw[if_pos rfl]
 exact h
theorem ite2 {c A B:Prop} [Decidable c] (h1:c->A)(h2:¬ c->B):if c then A else B:=by
 by_cases h:c
 . rw[if_pos h]
   exact h1 h
 . rw[if_neg h]
   exact h2 h
def Same (H H':Hp):Prop:=∀b o,H b=some o->H' b=some o
theorem Same.refl (H:Hp):Same H H:=fun _ _ h=>h
theorem Same.trans {H H1 H2:Hp}(a:Same H H1)(b:Same H1 H2):Same H H2:=fun c o h=>b c o (a c o h)
end L2
namespace L2
open PySem PySem.Spec PyProof.Rows
section
variable {κ:Type} [DecidableEq κ]
theorem nd_snoc:∀{l:List κ}{k:κ},l.Nodup->¬ k∈l->(l++[k]).Nodup
 | [],k,_,_=>by simp
 | a::r,k,h,hk=>by
  obtain⟨h1,h2⟩:=List.nodup_cons.mp h
  show (a::(r++[k])).Nodup
  refine List.nodup_cons.mpr ⟨fun m=>?_,nd_snoc h2 fun m=>hk (List.mem_cons.mpr (Or.inr m))⟩
  rcases List.mem_append.mp m with q | q
  . exact h1 q
  . exact hk (List.mem_cons.mpr (Or.inl (List.mem_singleton.mp q).symm))
end
end L2
namespace L2
open PySem PySem.Spec PyProof.Rows
section
variable {X:Cx}
end
end L2
set_option Elab.async false
set_option linter.all false
set_option maxRecDepth 100000
set_option maxHeartbeats 4000000
namespace L2
open PySem PySem.Spec PyProof.Rows
theorem compLoop_gen {prog:Program}{w:World}{A:Around}{R:Result->Shared->Prop}{s:Shared}{elt target iter:Expr}{ifs:List Expr}{scope:Scope}{pos:Pos}{it acc:Value}{env:Env}(I:Nat->Shared->Prop)
 (turn:∀n s,I n s->wpAny (model prog w) A (pyNext it) (fun r s₁=>match r with
  | none=>R (.ok .next) s₁
  | some v=>wpAny (model prog w) A (letOwnedTupleGo target it v) (fun _ s₁'=>wpAny (model prog w) A (assign target env v) (fun _ s₂=>
   wpAny (model prog w) A (forIn ifs true fun c r=>if r=true then do let ok <-isTrue c env (eval c env);pure (ForInStep.yield ok) else pure (ForInStep.yield r)) (fun ok s₃=>
    if ok=true then wpAny (model prog w) A (eval elt env) (fun x s₄=>
     wpAny (model prog w) A (call (.builtin "list.append") [acc,x]) (fun _ s₅=>∃m,m<n/\I m s₅) (fun _ _=>False) s₄) (fun _ _=>False) s₃
    else ∃m,m<n/\I m s₃) (fun _ _=>False) s₂) (fun _ _=>False) s₁') (fun _ _=>False) s₁) (fun _ _=>False) s)
 (n:Nat)(h:I n s):codeAny (model prog w) A (.compLoop (.ListComp elt [⟨target,iter,ifs,0⟩] scope pos) 0 it acc env) R s:=by
 refine codeAny_loop rfl I (fun n s hI=>?_) n h
 show wpAny _ A ((compTurn (.ListComp elt [⟨target,iter,ifs,0⟩] scope pos) 0 it acc env).onRaise (fun x=>do noteFrame x env;theTreesLotGoes x)) _ _ s
 refine wpAny_noted ?_
 rw[compTurn_list]
 refine wpAny_bind (wpAny_standAt (wpAny_bind (wpAny_mono (turn n s hI) (fun r s₁ h₁=>?_) fun _ _ h'=>h'.elim)))
 cases r with
 | none=>exact wpAny_pure h₁
 | some v=>
  refine wpAny_bind (wpAny_mono h₁ (fun _ s₁' h₁'=>?_) fun _ _ h'=>h'.elim)
  refine wpAny_bind (wpAny_mono h₁' (fun _ s₂ h₂=>wpAny_bind (wpAny_mono h₂ (fun ok s₃ h₃=>?_) fun _ _ h'=>h'.elim)) fun _ _ h'=>h'.elim)
  cases ok with
  | false=>exact wpAny_pure ⟨rfl,h₃⟩
  | true=>
   exact wpAny_bind (wpAny_bind (wpAny_mono h₃ (fun x s₄ h₄=>wpAny_bind (wpAny_mono h₄ (fun _ s₅ h₅=>wpAny_pure (wpAny_pure ⟨rfl,h₅⟩)) fun _ _ h'=>h'.elim)) fun _ _ h'=>h'.elim))
def PTs (X:Cx)(ifs:List Expr)(t:TT):Prop:=
 ∀(pins:List (Addr×Obj))(s:Shared)(σ:St)(H:Hp)(Q:Bool->Hp->Prop),Inv X pins σ H s->t σ H Q ->
  wpAny (model X.prog X.w) X.A (forIn ifs true fun c r=>if r=true then do let ok <-isTrue c X.env (eval c X.env);pure (ForInStep.yield ok) else pure (ForInStep.yield r)) (TP X pins σ Q) X.xe s
def tYes:TT:=fun _ H Q=>Q true H
theorem tyes {σ:St}{H:Hp}{A B:Hp->Prop}(h:A H):tYes σ H (fun b H3=>if b=true then A H3 else B H3):=by
 show (if true=true then A H else B H)
 exact iteT h
theorem pts_nil {X:Cx}:PTs X [] tYes:=fun _ _ _ H _ I h=>wpAny_tests_nil ⟨H,I,h⟩
theorem pts_one {X:Cx}{c:Expr}{t:TT}(h:PT X c t):PTs X [c] t:=fun pins s σ H Q I q=>wpAny_tests_one (h pins s σ H Q I q)
def clOf (cells:List (Str×Addr)):List (Str×NameKind)->List (Str×Addr)->List (Str×Addr)
 | [],acc=>acc
 | (n,k)::r,acc=>if (k == .free)=true then (match cells.lookup n with | some c=>clOf cells r ((n,c)::acc) | none=>clOf cells r acc) else clOf cells r acc
theorem clOf_sub {cells:List (Str×Addr)}{x:Str}{c:Addr}:∀(names:List (Str×NameKind))(acc:List (Str×Addr)),(clOf cells names acc).lookup x=some c->acc.lookup x=some c\/cells.lookup x=some c
 | [],acc,h=>.inl h
 | (n,k)::r,acc,h=>by
  unfold clOf at h
  split at h
  . cases hc:cells.lookup n with
    | none=>rw[hc] at h;exact clOf_sub r acc h
    | some c'=>
     rw[hc] at h
     rcases clOf_sub r _ h with q | q
     . rw[List.lookup_cons] at q
       cases hx:x==n with
       | true=>
        rw[hx] at q
        have e:x=n:=by simpa using hx
        have e2:c'=c:=by simpa using q
        rw[e,hc,e2]
        exact .inr rfl
       | false=>rw[hx] at q;exact .inl q
     . exact .inr q
  . exact clOf_sub r acc h
theorem clOf_acc {cells:List (Str×Addr)}{x:Str}:∀(names:List (Str×NameKind))(acc:List (Str×Addr)),(∃c,acc.lookup x=some c)->∃c,(clOf cells names acc).lookup x=some c
 | [],acc,h=>h
 | (n,k)::r,acc,h=>by
  unfold clOf
  split
  . cases hc:cells.lookup n with
    | none=>exact clOf_acc r acc h
    | some c'=>
     refine clOf_acc r _ ?_
     rw[List.lookup_cons]
     cases hx:x==n with
     | true=>exact⟨c',rfl⟩
     | false=>exact h
  . exact clOf_acc r acc h
theorem clOf_has {cells:List (Str×Addr)}{x:Str}(hx:∃c,cells.lookup x=some c):∀(names:List (Str×NameKind))(acc:List (Str×Addr)),(x,NameKind.free)∈names->∃c,(clOf cells names acc).lookup x=some c
 | [],acc,h=>by simp at h
 | (n,k)::r,acc,h=>by
  rcases List.mem_cons.mp h with e | h
  . cases e
    obtain⟨c,hc⟩:=hx
    unfold clOf
    rw[if_pos (by rfl),hc]
    exact clOf_acc r _ ⟨c,by rw[List.lookup_cons];simp⟩
  . unfold clOf
    split
    . cases hc:cells.lookup n with
      | none=>exact clOf_has hx r acc h
      | some c'=>exact clOf_has hx r _ h
    . exact clOf_has hx r acc h
theorem closure_go {env:Env}:∀(names:List (Str×NameKind))(acc:List (Str×Addr)),(∀y∈names,y.2 = .free->∃c,env.cells.lookup y.1=some c) ->
 (forIn names acc fun (x:Str×NameKind)(cs:List (Str×Addr))=>(if (x.2 == .free)=true then (do let a <-cellOf env x.1;pure (ForInStep.yield ((x.1,a)::cs))) else pure (ForInStep.yield cs):Sem (ForInStep (List (Str×Addr)))))=pure (clOf env.cells names acc)
 | [],acc,_=>rfl
 | (n,k)::r,acc,h=>by
  rw[List.forIn_cons]
  have hr:∀y∈r,y.2 = .free->∃c,env.cells.lookup y.1=some c:=fun y hy=>h y (List.mem_cons_of_mem _ hy)
  unfold clOf
  cases hk:(k==NameKind.free) with
  | true=>
   obtain⟨c,hc⟩:=h (n,k) List.mem_cons_self (by simpa using hk)
   simp only[hk,if_true,cellOf,hc,pure_bind]
   exact closure_go r _ hr
  | false=>
   simp only[hk,Bool.false_eq_true,if_false,pure_bind]
   exact closure_go r _ hr
theorem closureFor_eq {scope:Scope}{env:Env}(h:∀y∈scope.names,y.2 = .free->∃c,env.cells.lookup y.1=some c):closureFor scope env=pure (clOf env.cells scope.names []):=by
 have e:=closure_go scope.names [] h
 simp only[closureFor]
 simp only[bind_pure]
 exact e
theorem lookup_relabel {env:Env}{x:Str}:∀(names:List (Str×NameKind)),
 (names.map fun (n,k)=>if (k==NameKind.free && env.scope.kind == .function && env.kindOf n==some .cell) then (n,NameKind.cell) else (n,k)).lookup x =
  (names.lookup x).map fun k=>if (k==NameKind.free && env.scope.kind == .function && env.kindOf x==some .cell)=true then NameKind.cell else k
 | []=>rfl
 | (n,k)::r=>by
  have ih:=lookup_relabel (env:=env) (x:=x) r
  rw[List.map_cons]
  show List.lookup x ((if (k==NameKind.free && env.scope.kind == .function && env.kindOf n==some .cell)=true then (n,NameKind.cell) else (n,k))::_)=_
  by_cases c:(k==NameKind.free && env.scope.kind == .function && env.kindOf n==some .cell)=true
  . rw[if_pos c,List.lookup_cons,List.lookup_cons]
    cases hx:x==n with
    | true=>
     have e:x=n:=by simpa using hx
     subst e
     show some NameKind.cell=Option.map _ (some k)
     rw[Option.map_some,if_pos c]
    | false=>exact ih
  . rw[if_neg c,List.lookup_cons,List.lookup_cons]
    cases hx:x==n with
    | true=>
     have e:x=n:=by simpa using hx
     subst e
     show some k=Option.map _ (some k)
     rw[Option.map_some,if_neg c]
    | false=>exact ih
def cxComp (X:Cx)(pl:List (Addr×Obj))(N':List Str)(scope:Scope)(fp:List Addr)(s3:Shared)(H3:Hp):Cx where
 prog:=X.prog
 w:=X.w
 K:=X.K
 mg:=X.mg
 base:=X.base
 A:=X.A
 N:=N'
 s₀:=s3
 H₀:=H3
 env:=compEnvC scope (clOf X.env.cells scope.names []) s3.heap.objs.size X.env
 outer:=X.stack
 stack:=X.stack
 ex:=fp
 fn:=fun _=>false
 calm:=X.calm
 pn:=pl
 xe:=fun _ _=>False
def CapOk (X:Cx)(scope:Scope):List Str->List Nat->Prop
 | [],[]=>True
 | x::cn,j::ci=>X.N[j]? = some x/\X.env.kindOf x=some .cell/\scope.names.lookup x=some .free/\CapOk X scope cn ci
 | _,_=>False
theorem CapOk.get {X:Cx}{scope:Scope}:∀{cn:List Str}{ci:List Nat}{k:Nat}{x:Str},CapOk X scope cn ci->cn[k]? = some x->∃j,ci[k]? = some j/\X.N[j]? = some x/\X.env.kindOf x=some .cell/\scope.names.lookup x=some .free
 | [],_,_,_,_,h=>by simp at h
 | _::_,[],_,_,c,_=>c.elim
 | y::cn,j::ci,0,x,c,h=>by
  obtain⟨a,b,b',_⟩:=c
  have e:y=x:=by simpa using h
  subst e
  exact⟨j,rfl,a,b,b'⟩
 | y::cn,j::ci,k+1,x,c,h=>by
  obtain⟨j',h1,h2⟩:=CapOk.get (k:=k) c.2.2.2 (by simpa using h)
  exact⟨j',by simpa using h1,h2⟩
structure CompSc (X:Cx)(scope:Scope):Prop where
 kind:scope.kind = .function
 nocell:∀y∈scope.names,y.2 ≠ .cell
 names:∀y∈scope.names,y.2 = .local->scope.names.lookup y.1=some .local
 free:∀y∈scope.names,y.2 = .free->X.env.kindOf y.1=some .cell
section
variable {X:Cx}{pins:List (Addr×Obj)}{σ:St}{H3:Hp}{s3:Shared}{scope:Scope}{fp:List Addr}{N' own cn:List Str}{ci:List Nat}{cv:List V}
theorem comp_has (ok:X.Ok)(S:CompSc X scope){x:Str}(h:(relabel scope X.env).names.lookup x=some .cell\/(relabel scope X.env).names.lookup x=some .free) :
 ∃c,(clOf X.env.cells scope.names []).lookup x=some c:=by
 have e:(relabel scope X.env).names.lookup x=(scope.names.lookup x).map fun k=>if (k==NameKind.free && X.env.scope.kind == .function && X.env.kindOf x==some .cell)=true then NameKind.cell else k:=lookup_relabel scope.names
 have hf:scope.names.lookup x=some .free:=by
  cases q:scope.names.lookup x with
  | none=>rw[e,q] at h;simp at h
  | some k=>
   by_cases hk:k = .free
   . rw[hk]
   . have hb:(k==NameKind.free)=false:=by simpa using hk
     rw[e,q] at h
     simp only[Option.map_some,hb,Bool.false_and,Bool.false_eq_true,if_false,Option.some.injEq] at h
     rcases h with h | h
     . exact absurd h (S.nocell _ (PySem.mem_of_lookup q))
     . exact absurd h hk
 exact clOf_has (ok.has x (.inl (S.free _ (PySem.mem_of_lookup hf) rfl))) scope.names [] (PySem.mem_of_lookup hf)
theorem comp_cl {x:Str}{c:Addr}(h:(clOf X.env.cells scope.names []).lookup x=some c):X.env.cells.lookup x=some c:=by
 rcases clOf_sub _ _ h with q | q
 . simp at q
 . exact q
theorem comp_ok (I:Inv X pins σ H3 s3)(S:CompSc X scope)(f:∀b∈fp,FpOk X pins H3 b)(fz:∀b∈fp,b<s3.heap.objs.size):(cxComp X (X.pn++pins) N' scope fp s3 H3).Ok where
 mod:=I.ok.mod
 kind:=S.kind
 glob:=I.ok.glob
 blt:=I.ok.blt
 above:=Nat.le_refl _
 inj:=fun x y c h1 h2=>I.ok.inj x y c (comp_cl h1) (comp_cl h2)
 has:=fun x h=>comp_has I.ok S h
 cab:=fun x c h=>by cases h
 hd:=I.ok.hd
 frames:=I.ok.frames
 stk:=.inl rfl
 exf:=fun b hb=>⟨Nat.ne_of_lt (fz b hb),fun x c h=>(f b hb).2.2.2.2.1 x c (comp_cl h)⟩
 bs:=I.bs
 bsz:=Nat.le_trans I.ok.bsz I.sz
 noex:=fun b o e hb=>by
  rcases (f b hb).2.2.2.1 with z | z
  . exact I.ok.noex b o e z
  . exact absurd (Nat.lt_of_lt_of_le (Heap.lt_size e) (Nat.le_trans I.ok.bsz z)) (Nat.lt_irrefl _)
 exfs:=fun b hb z=>by
  rcases List.mem_cons.mp (I.stkSub b z) with q | q
  . exact (f b hb).2.1 q
  . exact (f b hb).2.2.1 q
 funs:=I.stack
 frf:=I.stkFree
theorem comp_inv {h1:Heap}{t:Nat}(I:Inv X pins σ H3 s3)(S:CompSc X scope)(f:∀b∈fp,FpOk X pins H3 b)(fz:∀b∈fp,b<s3.heap.objs.size)
 (hN:N'=own++cn)(hc:CapOk X scope cn ci)(hv:ci.map (fun j=>σ[j]?)=cv.map fun v=>some (some v))(hl:cn.length=ci.length)
 (hns:h1.Ns s3.heap.objs.size (fun _=>none))(hk:∀b o,s3.heap.get? b=some o->h1.get? b=some o) :
 Inv (cxComp X (X.pn++pins) N' scope fp s3 H3) [] (List.replicate own.length none++cv.map some) H3 { s3 with heap:=h1,toks:=t }:=by
 have lenv:cv.length=ci.length:=by
  have:=congrArg List.length hv
  simpa using this.symm
 refine⟨comp_ok I S f fz,rfl,I.bare,Un.kept hk,⟨_,hns,fun i x v e1 e2 e3=>?_⟩,fun x c e=>?_,I.hok.fresh (Nat.le_refl _),fun x c e=>I.freeC x c (comp_cl e),fun p hp=>?_,I.hok.kept hk,?_⟩
 . -- a captured name
   have hi:own.length<=i:=by
    by_cases hi:own.length<=i
    . exact hi
    . rw[List.getElem?_append_left (by simpa using hi),List.getElem?_replicate] at e2
      split at e2 <;> cases e2
   rw[List.getElem?_append_right (by simpa using hi),List.length_replicate,List.getElem?_map] at e2
   have e1':(own++cn)[i]? = some x:=by rw[<-hN];exact e1
   rw[List.getElem?_append_right hi] at e1'
   obtain⟨j,hj,hNj,hkx,hfr⟩:=hc.get e1'
   have hcv:cv[i-own.length]? = some v:=by
    cases q:cv[i-own.length]? with
    | none=>rw[q] at e2;cases e2
    | some v'=>rw[q] at e2;cases e2;rfl
   have hσ:σ[j]? = some (some v):=by
    have:=congrArg (fun l:List (Option (Option V))=>l[i-own.length]?) hv
    simp only[List.getElem?_map,hj,hcv,Option.map_some,Option.some.injEq] at this
    exact this
   obtain⟨m,_,hl'⟩:=I.loc
   obtain⟨u,r,q⟩:=hl' j x v hNj hσ (.inr (.inl hkx))
   have hkd:(relabel scope X.env).names.lookup x=some .cell\/(relabel scope X.env).names.lookup x=some .free:=by
    have e:(relabel scope X.env).names.lookup x=(scope.names.lookup x).map fun k=>if (k==NameKind.free && X.env.scope.kind == .function && X.env.kindOf x==some .cell)=true then NameKind.cell else k:=lookup_relabel scope.names
    rw[e,hfr,Option.map_some]
    by_cases cc:(NameKind.free==NameKind.free && X.env.scope.kind == .function && X.env.kindOf x==some .cell)=true
    . rw[if_pos cc];exact .inl rfl
    . rw[if_neg cc];exact .inr rfl
   obtain⟨c',hc'⟩:=comp_has I.ok S hkd
   refine⟨u,r,.inr ⟨hkd,c',hc',?_⟩⟩
   rcases q with ⟨z,_⟩ | ⟨_,c,hcc,o,ho,hd⟩
   . rw[hkx] at z;cases z
   . have e:c=c':=Option.some.inj (hcc.symm.trans (comp_cl hc'))
     subst e
     exact⟨o,hk c o ho,hd⟩
 . obtain⟨v,o,ho,hd⟩:=I.cell x c (comp_cl e)
   exact⟨v,o,hk c o ho,hd⟩
 . have hp':p∈X.pn++pins:=by rw[List.append_nil] at hp;exact hp
   obtain⟨e,n,ne,nf,d⟩:=I.pin p hp'
   refine⟨hk _ _ e,n,Nat.ne_of_lt (Heap.lt_size e),fun z=>?_,d⟩
   rcases List.mem_cons.mp (I.stkSub p.1 z) with q | q
   . exact ne q
   . exact nf q
 . show (List.replicate own.length none++cv.map some).length=N'.length
   rw[hN,List.length_append,List.length_append,List.length_replicate,List.length_map,lenv,hl]
def CompRd (J:It)(own:Nat)(cv:List V)(g:TG)(ti:TT)(te:TE)(D:Addr)(H1:Hp)(Q:VK):Prop:=∃W:Nat->Nat->List V->Hp->Prop,(∃m,W 0 m [] (upd H1 D (.lst [])))/\∀i m ys H,W i m ys H ->
 (J.stop i H/\Q (.ref D) H)\/(J.go i H/\ys.length<sizeLine/\∃N:List V->Hp->Prop,(∀ys' H',N ys' H'->∃m',m'<m/\W (i+1) m' ys' H') /\
  ∀x H',J.yld i H x H'->g x (List.replicate own none++cv.map some) H' fun σ2 H2=>(σ2.length=own+cv.length/\σ2.drop own=cv.map some) /\
   ti σ2 H2 fun b H3=>if b=true then te σ2 H3 fun y H4=>H4 D=some (.lst ys)/\N (ys++[y]) (upd H4 D (.lst (ys++[y]))) else N ys H3)
def tComp (own:Nat)(ci:List Nat)(wi:TI)(g:TG)(ti:TT)(te:TE):TE:=fun σ H Q=>wi σ H fun J H1=>∃cv:List V,ci.map (fun j=>σ[j]?)=cv.map (fun v=>some (some v)) /\
 ∀D,H1 D=none->CompRd J own cv g ti te D H1 Q
theorem comp_core {elt target iter:Expr}{ifs:List Expr}{pos cpos:Pos}{wi:TI}{g:TG}{ti:TT}{te:TE}{use:Option (Value->Sem Unit)}{Q0:Value->Shared->Prop}{s:Shared}{H:Hp}{Q:VK}(hcalm:X.calm=true)(S:CompSc X scope)(hc:CapOk X scope cn ci)(hl:cn.length=ci.length)
 (hi:PI X target iter wi)(hg:∀pl fp s3 H3,PG (cxComp X pl (own++cn) scope fp s3 H3) target g)(ht:∀pl fp s3 H3,PTs (cxComp X pl (own++cn) scope fp s3 H3) ifs ti)
 (he:∀pl fp s3 H3,PE (cxComp X pl (own++cn) scope fp s3 H3) elt te)(hs:∀x,foldedSetIterable iter X.env x=pure x)(I:Inv X pins σ H s)(h:tComp own.length ci wi g ti te σ H Q)
 (fin:∀(D C:Addr)(H5:Hp)(s6:Shared)(m6:Str->Option Value),Inv X pins σ H5 s6->s6.heap.Ns C m6->H5 C=none->C≠X.env.locals->X.s₀.heap.objs.size<=C->(∀x c,X.env.cells.lookup x=some c->c≠C) ->
  (∀p∈X.pn++pins,p.1≠C)->Q (.ref D) H5->compPost (model X.prog X.w) X.A X.xe use Q0 (.ref D) C (.ok .next) s6) :
 wpAny (model X.prog X.w) X.A (comprehension (.ListComp elt [⟨target,iter,ifs,0⟩] scope pos) scope X.env cpos (newList []) false (eval iter X.env) use) Q0 X.xe s:=by
 have hcl:closureFor scope X.env=pure (clOf X.env.cells scope.names []):=closureFor_eq fun y hy hf=>I.ok.has y.1 (.inl (S.free y hy hf))
 refine wpAny_comprehension_free (use:=use) rfl hs hcl S.kind S.names ?_
 refine thn (hi pins s σ H _ I h) fun v s1 h1=>thn h1 fun itv s2 h2=>?_
 obtain⟨it,fp,tn,J,H2,e,I2,T,st2,f2,cv,hv,hD⟩:=h2
 subst e
 have lenv:cv.length=ci.length:=by
  have:=congrArg List.length hv
  simpa using this.symm
 have I3:=I2.lnew (ys:=[]) (its:=[]) (t':=s2.toks) .nil (Nat.zero_le _)
 obtain⟨W,⟨m0,w0⟩,turn⟩:=hD s2.heap.objs.size I2.fresh
 have fz:∀b∈fp,b<s2.heap.objs.size:=fun b hb=>by
  obtain⟨o,ho,_⟩:=T.obj _ _ st2 b hb
  exact Heap.lt_size ho
 refine wpAny_newObj_type ?_
 refine wpAny_newFunctionEnv S.nocell (by intro y hy;simp at hy) (fun h4 hns4 hsb4=>?_) S.kind
 generalize hs3:({ s2 with heap:=s2.heap.push { cls:=.type "list",dict:=none,data:=.seq ([]:List Value).toArray } }:Shared)=s3 at hns4 hsb4 ⊢
 have I3':Inv X pins σ (upd H2 s2.heap.objs.size (.lst [])) s3:=by rw[<-hs3];exact I3
 have hsz3:s3.heap.objs.size=s2.heap.objs.size+1:=by rw[<-hs3];exact Heap.size_push ..
 have k23:∀b o,s2.heap.get? b=some o->s3.heap.get? b=some o:=fun b o e=>by rw[<-hs3];exact Heap.get?_push_of_some _ e
 have k34:∀b o,s3.heap.get? b=some o->h4.get? b=some o:=fun b o e=>hsb4.extBut b o (Nat.ne_of_lt (Heap.lt_size e)) (Heap.get?_push_of_some _ e)
 have nD:∀b∈fp,b≠s2.heap.objs.size:=fun b hb=>Nat.ne_of_lt (fz b hb)
 have f3:∀b∈fp,FpOk X pins (upd H2 s2.heap.objs.size (.lst [])) b:=fun b hb=>⟨by rw[upd_ne (nD b hb)];exact (f2 b hb).1,(f2 b hb).2⟩
 have fz3:∀b∈fp,b<s3.heap.objs.size:=fun b hb=>by rw[hsz3];exact Nat.lt_succ_of_lt (fz b hb)
 have I4:Inv (cxComp X (X.pn++pins) (own++cn) scope fp s3 (upd H2 s2.heap.objs.size (.lst []))) [] (List.replicate own.length none++cv.map some) (upd H2 s2.heap.objs.size (.lst [])) { s3 with heap:=h4,toks:=s3.toks+([]:List (Str×Value)).length }:=
  comp_inv I3' S f3 fz3 rfl hc hv hl hns4 k34
 have st4:tn 0 h4:=T.keep _ _ _ st2 fun b hb o e=>k34 b o (k23 b o e)
 generalize hX:cxComp X (X.pn++pins) (own++cn) scope fp s3 (upd H2 s2.heap.objs.size (.lst []))=X' at I4
 have hg':PG X' target g:=by rw[<-hX];exact hg _ _ _ _
 have ht':PTs X' ifs ti:=by rw[<-hX];exact ht _ _ _ _
 have he':PE X' elt te:=by rw[<-hX];exact he _ _ _ _
 have ePr:X'.prog=X.prog:=by rw[<-hX];rfl
 have eW:X'.w=X.w:=by rw[<-hX];rfl
 have eK:X'.K=X.K:=by rw[<-hX];rfl
 have eA:X'.A=X.A:=by rw[<-hX];rfl
 have eE:X'.env=compEnvC scope (clOf X.env.cells scope.names []) s3.heap.objs.size X.env:=by rw[<-hX];rfl
 have eXe:X'.xe=fun _ _=>False:=by rw[<-hX];rfl
 have eC:X'.calm=true:=by rw[<-hX];exact hcalm
 have eex:X'.ex=fp:=by rw[<-hX];rfl
 have epn:X'.pn=X.pn++pins:=by rw[<-hX];rfl
 have es0:X'.s₀=s3:=by rw[<-hX];rfl
 have eH0:X'.H₀=upd H2 s2.heap.objs.size (.lst []):=by rw[<-hX];rfl
 have efs:X'.fs=frs X.stack:=by rw[<-hX];rfl
 have ok':=I4.ok
 have stat:∀{H':Hp},(∀b∈fp,H' b=none)->∀b∈fp,FpOk X' [] H' b:=fun hn b hb=>by
  have hb':b∈X'.ex:=by rw[eex];exact hb
  refine⟨hn b hb,(ok'.exf b hb').1,ok'.exfs b hb',.inl hb',(ok'.exf b hb').2,fun p hp=>?_⟩
  rw[epn,List.append_nil] at hp
  exact (f2 b hb).2.2.2.2.2 p hp
 have wk:∀(σ2:St),(σ2.length=own.length+cv.length/\σ2.drop own.length=cv.map some)->∀{pl:List (Addr×Obj)}{H':Hp}{s':Shared},Inv X' pl σ2 H' s'->Inv X' pl (List.replicate own.length none++cv.map some) H' s':=fun σ2 hq pl H' s' I'=>by
  refine I'.weak (by rw[hq.1,List.length_append,List.length_replicate,List.length_map]) fun i v hi=>?_
  by_cases hlt:i<own.length
  . rw[List.getElem?_append_left (by simpa using hlt),List.getElem?_replicate] at hi
    split at hi <;> cases hi
  . rw[List.getElem?_append_right (by simpa using hlt),List.length_replicate,<-hq.2,List.getElem?_drop] at hi
    rw[show own.length+(i-own.length)=i by omega] at hi
    exact hi
 have loop:codeAny (model X.prog X.w) X.A (.compLoop (.ListComp elt [⟨target,iter,ifs,0⟩] scope pos) 0 (.ref it) (.ref s2.heap.objs.size) (compEnvC scope (clOf X.env.cells scope.names []) s3.heap.objs.size X.env))
  (compPost (model X.prog X.w) X.A X.xe use Q0 (.ref s2.heap.objs.size) s3.heap.objs.size) { s3 with heap:=h4,toks:=s3.toks+([]:List (Str×Value)).length }:=by
  refine compLoop_gen (fun n s'=>∃i ys H',Inv X' [] (List.replicate own.length none++cv.map some) H' s'/\tn i s'.heap/\(∀b∈fp,H' b=none)/\W i n ys H') ?_ m0
   ⟨0,[],_,I4,st4,fun b hb=>(f3 b hb).1,w0⟩
  rintro n s5 ⟨i,ys,H5,I5,st5,fr5,w5⟩
  rcases turn i n ys H5 w5 with ⟨stop,qn⟩ | ⟨go,hsz,N,hN,step⟩
  . have d:=T.done X' ePr eW eK eC i [] s5 _ H5 (fun _ _=>False) I5 (stat fr5) st5 stop
    rw[eA] at d
    refine thn d fun r s6 ⟨hr,I6⟩=>?_
    subst hr
    obtain⟨m6,hn6,_⟩:=I6.loc
    rw[eE] at hn6
    have hn6':s6.heap.Ns s3.heap.objs.size m6:=hn6
    have un6:Un (frs X.stack) fp (upd H2 s2.heap.objs.size (.lst [])) H5 s3.heap s6.heap:=by
     have b6:=I6.base
     rw[efs,eex,eH0,es0] at b6
     exact b6
    have os6:s6.os=s3.os:=by have o6:=I6.os;rw[es0] at o6;exact o6
    have hok6:HOk X.prog X.w H5 s6.heap:=by have o6:=I6.hok;rw[ePr,eW] at o6;exact o6
    have I7:Inv X pins σ H5 s6:=I3'.call' (ch:=fp) os6 un6 hok6 I6.bare fun b hb=>⟨(f2 b hb).2.2.2.1,(f2 b hb).2.1,(f2 b hb).2.2.2.2.1,(f2 b hb).2.2.2.2.2⟩
    have fr6:H5 s3.heap.objs.size=none:=by
     have q:=I6.free
     rw[eE] at q
     exact q
    refine fin s2.heap.objs.size s3.heap.objs.size H5 s6 m6 I7 hn6' fr6 (Nat.ne_of_gt I3'.lt) I3'.sz (fun x c e=>?_) (fun p hp=>?_) qn
    . obtain⟨_,o,ho,_⟩:=I3'.cell x c e
      exact Nat.ne_of_lt (Heap.lt_size ho)
    . exact Nat.ne_of_lt (Heap.lt_size (I3'.pin p hp).1)
  . have d:=T.item X' ePr eW eK eC i [] s5 _ H5 (fun _ _=>False) I5 (stat fr5) st5 go
    rw[eA] at d
    refine thn d fun r s6 ⟨u,hr,h6⟩=>?_
    subst hr
    refine thn h6 fun _ s7 ⟨x,H7,I7,r7,y7,st7,fr7⟩=>?_
    have I7':=I7.pinned (stat fr7) (T.obj _ _ st7)
    have g7:=hg' _ s7 _ H7 x u _ I7' r7 (step x H7 y7)
    rw[ePr,eW,eA,eE,eXe] at g7
    refine thn g7 fun _ s8 ⟨σ8,H8,I8,q8,ti8⟩=>?_
    have t8:=ht' _ s8 σ8 H8 _ I8 ti8
    rw[ePr,eW,eA,eE,eXe] at t8
    refine thn t8 fun ok s9 ⟨H9,I9,q9⟩=>?_
    have again:∀{ys':List V}{H':Hp}{s':Shared},Inv X' ([]++pinsAt fp s7.heap) σ8 H' s'->N ys' H' ->
     ∃m,m<n/\∃i ys H',Inv X' [] (List.replicate own.length none++cv.map some) H' s'/\tn i s'.heap/\(∀b∈fp,H' b=none)/\W i m ys H':=fun {ys' H' s'} I' n'=>by
     obtain⟨m',hm,w'⟩:=hN ys' H' n'
     refine⟨m',hm,i+1,ys',H',(wk σ8 q8 I').unpinned,T.keep _ _ _ st7 fun b hb o e=>(I'.pin (b,o) (List.mem_append_right _ (List.mem_append_right _ (mem_pinsAt hb e)))).1,fun b hb=>?_,w'⟩
     obtain⟨o,e,_⟩:=T.obj _ _ st7 b hb
     exact (I'.pin (b,o) (List.mem_append_right _ (List.mem_append_right _ (mem_pinsAt hb e)))).2.1
    cases ok with
    | false=>exact again I9 q9
    | true=>
     have e9:=he' _ s9 σ8 H9 _ I9 q9
     rw[ePr,eW,eA,eE,eXe] at e9
     refine thn e9 fun u10 s10 ⟨y,H10,I10,r10,hD10,n10⟩=>?_
     have a10:=mt_append (X:=X') _ s10 σ8 H10 (.ref s2.heap.objs.size) [y] (.ref s2.heap.objs.size) [u10] (fun _ H'=>N (ys++[y]) H') I10 rfl (.cons r10 .nil) ⟨_,_,_,rfl,rfl,hD10,hsz,n10⟩
     rw[ePr,eW,eA,eXe] at a10
     exact thn a10 fun _ s11 ⟨_,H11,I11,_,n11⟩=>again I11 n11
 exact codeAny_compStart_list loop (T.self X.A 0 _ _ _ st4 loop)
theorem pe_comp {elt target iter:Expr}{ifs:List Expr}{pos:Pos}{wi:TI}{g:TG}{ti:TT}{te:TE}(hcalm:X.calm=true)(S:CompSc X scope)(hc:CapOk X scope cn ci)(hl:cn.length=ci.length)
 (hi:PI X target iter wi)(hg:∀pl fp s3 H3,PG (cxComp X pl (own++cn) scope fp s3 H3) target g)(ht:∀pl fp s3 H3,PTs (cxComp X pl (own++cn) scope fp s3 H3) ifs ti)
 (he:∀pl fp s3 H3,PE (cxComp X pl (own++cn) scope fp s3 H3) elt te)(hs:∀x,foldedSetIterable iter X.env x=pure x:=by intro _;rfl) :
 PE X (.ListComp elt [⟨target,iter,ifs,0⟩] scope pos) (tComp own.length ci wi g ti te):=by
 intro pins s σ H Q I h
 rw[eval_ListComp]
 exact comp_core hcalm S hc hl hi hg ht he hs I h fun D C H5 s6 m6 I7 hn fr nL ge nC nP q=>⟨m6,hn,fun h' hs'=>⟨.ref D,H5,I7.turned (t':=s6.toks) (it:=C) (fun b o hb e=>hs'.extBut b o hb e) fr nL (.inr ge) nC nP,rfl,q⟩⟩
theorem ps_setC {elt target iter:Expr}{ifs:List Expr}{pos pos' cpos:Pos}{wi:TI}{g:TG}{ti:TT}{te:TE}{i:Nat}{x:Str}(hN:X.N.Nodup)(hix:X.N[i]? = some x)(hx:Loc X.env.scope x)(hcalm:X.calm=true)(S:CompSc X scope)(hc:CapOk X scope cn ci)(hl:cn.length=ci.length)
 (hi:PI X target iter wi)(hg:∀pl fp s3 H3,PG (cxComp X pl (own++cn) scope fp s3 H3) target g)(ht:∀pl fp s3 H3,PTs (cxComp X pl (own++cn) scope fp s3 H3) ifs ti)
 (he:∀pl fp s3 H3,PE (cxComp X pl (own++cn) scope fp s3 H3) elt te)(hs:∀x,foldedSetIterable iter X.env x=pure x:=by intro _;rfl)
 (hsw:swapsWith (.ListComp elt [⟨target,iter,ifs,0⟩] scope cpos) (some (.Name x pos')) pos.line X.env=pure true:=by rfl)
 (hf:X.fn x=true\/X.env.scope.names.lookup x=some .local:=by first | exact .inl rfl | exact .inr rfl | assumption) :
 PS X (.Assign [.Name x pos'] (.ListComp elt [⟨target,iter,ifs,0⟩] scope cpos) pos) (tAsg (tComp own.length ci wi g ti te) (gName i)):=by
 intro pins s σ H D I h
 rw[exec_Assign_Name_used _ _ _ _ hsw]
 refine wpAny_bind (wpAny_standAt (wpAny_bind ?_))
 show wpAny _ X.A (do let _ <-comprehension (.ListComp elt [⟨target,iter,ifs,0⟩] scope cpos) scope X.env _ (newList []) false (eval iter X.env) (some (assign (.Name x pos') X.env))) _ _ s
 refine wpAny_bind (wpAny_mono (comp_core (use:=some (assign (.Name x pos') X.env)) (Q0:=fun _ s'=>SP X pins D .next s') hcalm S hc hl hi hg ht he hs I h (fun D' C H5 s6 m6 I7 hn fr nL ge nC nP q=>?_)) (fun _ s' hq=>wpAny_pure (wpAny_pure hq)) fun _ _ e=>e)
 obtain⟨oC,es,ep,hoC,hd,r1⟩:=hn
 have nf:C∉X.fs:=fun hb=>by
  obtain⟨_,o,ho,_⟩:=I7.ok.funs.mem hb
  exact absurd (Nat.lt_of_lt_of_le (Heap.lt_size ho) ge) (Nat.lt_irrefl _)
 have I7':Inv X (pins++[(C,oC)]) σ H5 s6:=I7.pins_of fun p hp=>by
  rcases List.mem_append.mp hp with z | z
  . exact I7.pin p (List.mem_append_right _ z)
  . rw[List.mem_singleton.mp z]
    exact⟨hoC,fr,nL,nf,fun v e=>by rw[hd] at e;cases e⟩
 show wpAny _ X.A (assign (.Name x pos') X.env (.ref D')) _ _ s6
 refine wpAny_assign_Name (store_ok I7' hN hix hx (show RelV (.ref D') (.ref D') from rfl) (fun s' I'=>?_) hf)
 have hC':=(I'.pin (C,oC) (List.mem_append_right _ (List.mem_append_right _ (List.mem_singleton.mpr rfl)))).1
 refine⟨m6,⟨oC,es,ep,hC',hd,r1⟩,fun h' hs'=>⟨_,H5,?_,q⟩⟩
 have I2:Inv X pins (σ.set i (some (.ref D'))) H5 s':=I'.pins_of fun p hp=>I'.pin p (List.mem_append_right _ (List.mem_append_left _ hp))
 exact I2.turned (t':=s'.toks) (it:=C) (fun b o hb e=>hs'.extBut b o hb e) fr nL (.inr ge) nC nP
end
def cscOk (outer inner:Scope):Bool:=inner.names.all fun y=>(y.2 != .cell) && (y.2 != .local || inner.names.lookup y.1==some .local) && (y.2 != .free || outer.names.lookup y.1==some .cell)
theorem csc {X:Cx}{scope:Scope}(hk:scope.kind = .function)(h:cscOk X.env.scope scope=true):CompSc X scope:=by
 have a:=List.all_eq_true.mp h
 refine⟨hk,fun y hy e=>?_,fun y hy e=>?_,fun y hy e=>?_⟩
 . have:=a y hy
   rw[e] at this
   simp at this
 . have:=a y hy
   rw[e] at this
   simpa using this
 . have:=a y hy
   rw[e] at this
   have h2:X.env.scope.names.lookup y.1=some .cell:=by simpa using this
   exact h2
theorem nd_of {l:List Str}(h:decide l.Nodup=true):l.Nodup:=of_decide_eq_true h
section
variable {X:Cx}{pl:List (Addr×Obj)}{N':List Str}{sc:Scope}{fp:List Addr}{s3:Shared}{H3:Hp}
theorem ix_listC:IxR (cxComp X pl N' sc fp s3 H3) (rIxL X.K):=ix_list
theorem pg_tupC {es:List Expr}{k:Nat}{t:TGs}{n:Nat}{pos:Pos}(hc:X.calm=true)(h:PGs (cxComp X pl N' sc fp s3 H3) es t)
 (hn:(assignEach es (cxComp X pl N' sc fp s3 H3).env).length=n:=by rfl)(hst:(assignEach es (cxComp X pl N' sc fp s3 H3).env).findIdx? (·.1)=none:=by rfl):PG (cxComp X pl N' sc fp s3 H3) (.Tuple es k pos) (gTup X.K n t):=pg_tup hc h hn hst
end
theorem comp_list {K:PySem.W.Frag}{a:Addr}{xs:List V}{own:Nat}{g:TG}{ti:TT}{te:TE}{cv:List V}{D:Addr}{H1:Hp}{Q:VK}(Pv:Nat->List V->Hp->Prop)(h0:Pv 0 [] (upd H1 D (.lst [])))(hl:∀i ys H,Pv i ys H->SqL K H a xs)(hz:∀i ys H,Pv i ys H->ys.length<sizeLine)
 (hs:∀i x ys H,xs[i]? = some x->Pv i ys H->g x (List.replicate own none++cv.map some) H fun σ2 H2=>(σ2.length=own+cv.length/\σ2.drop own=cv.map some) /\
  ti σ2 H2 fun b H3=>if b=true then te σ2 H3 fun y H4=>H4 D=some (.lst ys)/\Pv (i+1) (ys++[y]) (upd H4 D (.lst (ys++[y]))) else Pv (i+1) ys H3)
 (hd:∀ys H,Pv xs.length ys H->Q (.ref D) H) :
 CompRd (Itl K a) own cv g ti te D H1 Q:=by
 refine⟨fun i m ys H=>m=xs.length-i/\i<=xs.length/\Pv i ys H,⟨xs.length,rfl,Nat.zero_le _,h0⟩,?_⟩
 rintro i m ys H ⟨rfl,hi,p⟩
 have q:=hl i ys H p
 by_cases hlt:i<xs.length
 . refine .inr ⟨⟨xs,xs[i],q,by simp[hlt]⟩,hz i ys H p,Pv (i+1),fun ys' H' p'=>⟨xs.length-(i+1),by omega,rfl,hlt,p'⟩,fun x H' y=>?_⟩
   obtain⟨e,y⟩:=y
   subst e
   exact hs i x ys _ (y xs q) p
 . have e:i=xs.length:=by omega
   subst e
   exact .inl ⟨⟨xs,q,Nat.le_refl _⟩,hd ys H p⟩
theorem comp_tup {K:PySem.W.Frag}{a:Addr}{xs:List V}{own:Nat}{g:TG}{ti:TT}{te:TE}{cv:List V}{D:Addr}{H1:Hp}{Q:VK}(Pv:Nat->List V->Hp->Prop)(h0:Pv 0 [] (upd H1 D (.lst [])))(hl:∀i ys H,Pv i ys H->SqT K H a xs)(hz:∀i ys H,Pv i ys H->ys.length<sizeLine)
 (hs:∀i x ys H,xs[i]? = some x->Pv i ys H->g x (List.replicate own none++cv.map some) H fun σ2 H2=>(σ2.length=own+cv.length/\σ2.drop own=cv.map some) /\
  ti σ2 H2 fun b H3=>if b=true then te σ2 H3 fun y H4=>H4 D=some (.lst ys)/\Pv (i+1) (ys++[y]) (upd H4 D (.lst (ys++[y]))) else Pv (i+1) ys H3)
 (hd:∀ys H,Pv xs.length ys H->Q (.ref D) H) :
 CompRd (Itt K a) own cv g ti te D H1 Q:=by
 refine⟨fun i m ys H=>m=xs.length-i/\i<=xs.length/\Pv i ys H,⟨xs.length,rfl,Nat.zero_le _,h0⟩,?_⟩
 rintro i m ys H ⟨rfl,hi,p⟩
 have q:=hl i ys H p
 by_cases hlt:i<xs.length
 . refine .inr ⟨⟨xs,xs[i],q,by simp[hlt]⟩,hz i ys H p,Pv (i+1),fun ys' H' p'=>⟨xs.length-(i+1),by omega,rfl,hlt,p'⟩,fun x H' y=>?_⟩
   obtain⟨e,y⟩:=y
   subst e
   exact hs i x ys _ (y xs q) p
 . have e:i=xs.length:=by omega
   subst e
   exact .inl ⟨⟨xs,q,Nat.le_refl _⟩,hd ys H p⟩
theorem comp_range {lo:Int}{n own:Nat}{g:TG}{ti:TT}{te:TE}{cv:List V}{D:Addr}{H1:Hp}{Q:VK}(Pv:Nat->List V->Hp->Prop)(h0:Pv 0 [] (upd H1 D (.lst [])))(hz:∀i ys H,Pv i ys H->ys.length<sizeLine)
 (hs:∀i ys H,i<n->Pv i ys H->g (.int (lo+i)) (List.replicate own none++cv.map some) H fun σ2 H2=>(σ2.length=own+cv.length/\σ2.drop own=cv.map some) /\
  ti σ2 H2 fun b H3=>if b=true then te σ2 H3 fun y H4=>H4 D=some (.lst ys)/\Pv (i+1) (ys++[y]) (upd H4 D (.lst (ys++[y]))) else Pv (i+1) ys H3)
 (hd:∀ys H,Pv n ys H->Q (.ref D) H) :
 CompRd (Itr lo n) own cv g ti te D H1 Q:=by
 refine⟨fun i m ys H=>m=n-i/\i<=n/\Pv i ys H,⟨n,rfl,Nat.zero_le _,h0⟩,?_⟩
 rintro i m ys H ⟨rfl,hi,p⟩
 by_cases hlt:i<n
 . refine .inr ⟨hlt,hz i ys H p,Pv (i+1),fun ys' H' p'=>⟨n-(i+1),by omega,rfl,hlt,p'⟩,fun x H' y=>?_⟩
   obtain⟨e,y⟩:=y
   subst e
   subst y
   exact hs i ys _ hlt p
 . have e:i=n:=by omega
   subst e
   exact .inl ⟨Nat.le_refl _,hd ys H p⟩
end L2
namespace SortT
open PySem.W PyProof.Rows
def ev {α:Type}(lt:Nat->Nat->Bool):KasT α->α
 | .ret a=>a
 | .ask i j k=>ev lt (k (lt i j))
theorem ev_bind {α β:Type}(lt:Nat->Nat->Bool)(f:α->KasT β):∀t:KasT α,ev lt (t.bind f)=ev lt (f (ev lt t))
 | .ret _=>rfl
 | .ask i j k=>ev_bind lt f (k (lt i j))
section
variable {O:KeyOrd}{key:Nat->O.α}
def kk (key:Nat->O.α)(p:Array Nat)(i:Nat):O.α:=key (p.getD i 0)
def Sr (key:Nat->O.α)(p:Array Nat)(n:Nat):Prop:=∀i j,i<=j->j<n->O.kle (kk key p i) (kk key p j)
def Fl (key:Nat->O.α)(p:Array Nat)(n:Nat):Prop:=∀i j,i<=j->j<n->O.kle (kk key p j) (kk key p i)
theorem kk_congr {p q:Array Nat}{i j:Nat}(h:p[i]? = q[j]?):kk key p i=kk key q j:=by
 unfold kk;rw[Array.getD_eq_getD_getElem?,Array.getD_eq_getD_getElem?,h]
theorem kk_rev {p:Array Nat}{i j:Nat}(hj:j<=p.size)(k:Nat):kk key (kas_rev p i j) k=if i<=k/\k<j then kk key p (i+j-1-k) else kk key p k:=by
 have e:=getElem?_mirror_all (i:=i) hj k
 unfold kas_rev
 by_cases h1:i<=k/\k<j
 . rw[if_pos h1] at e ⊢;exact kk_congr e
 . rw[if_neg h1] at e ⊢;exact kk_congr e
theorem kk_rev_eq {p:Array Nat}{i j:Nat}(hj:j<=p.size)(he:∀k,i<=k->k<j->kk key p k=kk key p (j-1))(k:Nat):kk key (kas_rev p i j) k=kk key p k:=by
 rw[kk_rev hj]
 split
 . rw[he _ (by omega) (by omega),he k (by omega) (by omega)]
 . rfl
theorem kk_bubble {p:Array Nat}{src d:Nat}(hs:src<p.size)(hd:d<=src)(k:Nat) :
 kk key (bubble p src d) k=if k=src-d then kk key p src else if src-d<k/\k<=src then kk key p (k-1) else kk key p k:=by
 have e:=getElem?_bubble hs d hd k
 by_cases h1:k=src-d
 . rw[if_pos h1] at e ⊢;exact kk_congr e
 . rw[if_neg h1] at e ⊢
   by_cases h2:src-d<k/\k<=src
   . rw[if_pos h2] at e ⊢;exact kk_congr e
   . rw[if_neg h2] at e ⊢;exact kk_congr e
def lt_ (key:Nat->O.α)(i j:Nat):Bool:=O.blt (key i) (key j)
theorem rev_perm (p:Array Nat)(i j:Nat):(kas_rev p i j).Perm p:=mirror_perm _ _ _ _
theorem rev_size (p:Array Nat)(i j:Nat):(kas_rev p i j).size=p.size:=(rev_perm p i j).size_eq
theorem asc_ok {p:Array Nat}:∀(f n:Nat),1<=n->Sr key p n->∃m,ev (lt_ key) (kas_asc p f n)=m/\n<=m/\m<=n+f/\Sr key p m/\(m=n+f\/O.klt (kk key p m) (kk key p (m-1)))
 | 0,n,_,hs=>⟨n,rfl,Nat.le_refl _,Nat.le_refl _,hs,.inl rfl⟩
 | f+1,n,h1,hs=>by
  show ∃m,ev (lt_ key) (if lt_ key (p.getD n 0) (p.getD (n-1) 0)=true then KasT.ret n else kas_asc p f (n+1))=m/\_
  cases hl:lt_ key (p.getD n 0) (p.getD (n-1) 0) with
  | true=>exact⟨n,by simp[ev],Nat.le_refl _,by omega,hs,.inr hl⟩
  | false=>
   have hs':Sr key p (n+1):=fun i j hij hj=>by
    by_cases hjn:j<n
    . exact hs i j hij hjn
    . have hj':j=n:=by omega
      subst hj'
      by_cases hi':i=j
      . subst hi';exact KeyOrd.kle_refl _
      . exact KeyOrd.kle_trans (hs i (j-1) (by omega) (by omega)) hl
   obtain⟨m,e,a,b,c,d⟩:=asc_ok f (n+1) (by omega) hs'
   refine⟨m,by simpa using e,by omega,by omega,c,?_⟩
   rcases d with d | d
   . exact .inl (by omega)
   . exact .inr d
theorem tail3_ok {p:Array Nat}{n nrem:Nat}(h1:1<=n)(hn:n<=nrem)(hz:nrem<=p.size)(hs:Fl key p n) :
 ∃m q,ev (lt_ key) (kas_tail3 n nrem p)=(m,q)/\q.Perm p/\1<=m/\m<=nrem/\Sr key q m:=by
 unfold kas_tail3
 have hs':Sr key (kas_rev p 0 n) n:=fun i j hij hj=>by
  rw[kk_rev (by omega),kk_rev (by omega),if_pos (by omega),if_pos (by omega)]
  exact hs _ _ (by omega) (by omega)
 obtain⟨m,e,a,b,c,_⟩:=asc_ok (nrem-n) n h1 hs'
 exact⟨m,kas_rev p 0 n,by rw[ev_bind,e];rfl,rev_perm _ _ _,by omega,by omega,c⟩
theorem desc_ok:∀(f n q:Nat)(p:Array Nat),1<=n->n+f<=p.size->Fl key p n->q+1<=n->(∀i,n-(q+1)<=i->i<n->kk key p i=kk key p (n-1)) ->
 ∃p' n' q',ev (lt_ key) (kas_desc f p n q)=(p',n',q')/\p'.Perm p/\n<=n'/\n'<=n+f/\Fl key p' n'/\q'+1<=n'/\(∀i,n'-(q'+1)<=i->i<n'->kk key p' i=kk key p' (n'-1))
 | 0,n,q,p,_,_,hs,hq,he=>⟨p,n,q,rfl,.refl _,Nat.le_refl _,Nat.le_refl _,hs,hq,he⟩
 | f+1,n,q,p,h1,hz,hs,hq,he=>by
  show ∃p' n' q',ev (lt_ key) (if lt_ key (p.getD n 0) (p.getD (n-1) 0)=true then _ else KasT.ask _ _ _)=(p',n',q')/\_
  cases hl:lt_ key (p.getD n 0) (p.getD (n-1) 0) with
  | true=>
   have step:∀xs:Array Nat,(∀k,kk key xs k=kk key p k)->Fl key xs (n+1):=fun xs hk i j hij hj=>by
    rw[hk,hk]
    by_cases hjn:j<n
    . exact hs i j hij hjn
    . have hj':j=n:=by omega
      subst hj'
      by_cases hi':i=j
      . subst hi';exact KeyOrd.kle_refl _
      . exact KeyOrd.kle_trans (KeyOrd.kle_of_klt hl) (hs i (j-1) (by omega) (by omega))
   by_cases hq0:q > 0
   . have hk:=kk_rev_eq (key:=key) (p:=p) (i:=n-(q+1)) (j:=n) (by omega) he
     obtain⟨p',n',q',e,a,b,c,d⟩:=desc_ok f (n+1) 0 (kas_rev p (n-(q+1)) n) (by omega) (by rw[rev_size];omega) (step _ hk) (by omega) (fun i h1 h2=>by congr 1;omega)
     exact⟨p',n',q',by simpa [hq0] using e,a.trans (rev_perm _ _ _),by omega,by omega,d⟩
   . obtain⟨p',n',q',e,a,b,c,d⟩:=desc_ok f (n+1) 0 p (by omega) (by omega) (step _ fun _=>rfl) (by omega) (fun i h1 h2=>by congr 1;omega)
     exact⟨p',n',q',by simpa [hq0] using e,a,by omega,by omega,d⟩
  | false=>
   show ∃p' n' q',ev (lt_ key) (if lt_ key (p.getD (n-1) 0) (p.getD n 0)=true then KasT.ret (p,n,q) else kas_desc f p (n+1) (q+1))=(p',n',q')/\_
   cases hr:lt_ key (p.getD (n-1) 0) (p.getD n 0) with
   | true=>exact⟨p,n,q,by simp[ev],.refl _,Nat.le_refl _,by omega,hs,hq,he⟩
   | false=>
    have heq:kk key p n=kk key p (n-1):=KeyOrd.kle_antisymm hr hl
    have hs':Fl key p (n+1):=fun i j hij hj=>by
     by_cases hjn:j<n
     . exact hs i j hij hjn
     . have hj':j=n:=by omega
       subst hj'
       by_cases hi':i=j
       . subst hi';exact KeyOrd.kle_refl _
       . rw[heq];exact hs i (j-1) (by omega) (by omega)
    obtain⟨p',n',q',e,a,b,c,d⟩:=desc_ok f (n+1) (q+1) p (by omega) (by omega) hs' (by omega) (fun i h1 h2=>by
     rw[show n+1-1=n by omega]
     by_cases hix:i=n
     . subst hix;rfl
     . rw[heq];exact he i (by omega) (by omega))
    exact⟨p',n',q',by simpa using e,a,by omega,by omega,d⟩
theorem descPart_ok {p:Array Nat}{n nrem:Nat}(hn:n+1<=nrem)(hz:nrem<=p.size)(hs:Fl key p (n+1)) :
 ∃m q,ev (lt_ key) (kas_descPart n nrem p)=(m,q)/\q.Perm p/\1<=m/\m<=nrem/\Sr key q m:=by
 unfold kas_descPart
 rw[ev_bind]
 obtain⟨p',n',q',e,a,b,c,d,hq,he⟩:=desc_ok (nrem-(n+1)) (n+1) 0 p (by omega) (by omega) hs (by omega) (fun i h1 h2=>by congr 1;omega)
 rw[e]
 dsimp only
 have hz':p'.size=p.size:=a.size_eq
 by_cases hq0:q' > 0
 . rw[if_pos hq0]
   have hk:=kk_rev_eq (key:=key) (p:=p') (i:=n'-(q'+1)) (j:=n') (by omega) he
   obtain⟨m,r,e2,a2,b2,c2,d2⟩:=tail3_ok (key:=key) (p:=kas_rev p' (n'-(q'+1)) n') (n:=n') (nrem:=nrem) (by omega) (by omega) (by rw[rev_size];omega) (fun i j hij hj=>by rw[hk,hk];exact d i j hij hj)
   exact⟨m,r,e2,a2.trans ((rev_perm _ _ _).trans a),b2,c2,d2⟩
 . rw[if_neg hq0]
   obtain⟨m,r,e2,a2,b2,c2,d2⟩:=tail3_ok (key:=key) (p:=p') (n:=n') (nrem:=nrem) (by omega) (by omega) (by omega) d
   exact⟨m,r,e2,a2.trans a,b2,c2,d2⟩
theorem count_ok {p:Array Nat}{nrem:Nat}(h1:1<=nrem)(hz:nrem<=p.size):∃m q,ev (lt_ key) (kas_count nrem p)=(m,q)/\q.Perm p/\1<=m/\m<=nrem/\Sr key q m:=by
 unfold kas_count
 rw[ev_bind]
 obtain⟨n,e,a,b,hsn,hor⟩:=asc_ok (key:=key) (p:=p) (nrem-1) 1 (Nat.le_refl _) (fun i j hij hj=>by have:i=j:=(by omega);subst this;exact KeyOrd.kle_refl _)
 rw[e]
 by_cases hnn:n=nrem
 . rw[if_pos (by simpa using hnn)]
   exact⟨n,p,rfl,.refl _,a,by omega,hsn⟩
 . rw[if_neg (by simpa using hnn)]
   have hlt:O.klt (kk key p n) (kk key p (n-1)):=hor.resolve_left (by omega)
   by_cases hgt:n > 1
   . rw[if_pos hgt]
     show ∃m q,ev (lt_ key) (if lt_ key (p.getD 0 0) (p.getD (n-1) 0)=true then KasT.ret (n,p) else kas_descPart n nrem (kas_rev p 0 n))=(m,q)/\_
     cases hr:lt_ key (p.getD 0 0) (p.getD (n-1) 0) with
     | true=>exact⟨n,p,by simp[ev],.refl _,a,by omega,hsn⟩
     | false=>
      have hall:∀k,0<=k->k<n->kk key p k=kk key p (n-1):=fun k _ hk=>
       KeyOrd.kle_antisymm (hsn k (n-1) (by omega) (by omega)) (KeyOrd.kle_trans hr (hsn 0 k (by omega) hk))
      have hk:=kk_rev_eq (key:=key) (p:=p) (i:=0) (j:=n) (by omega) hall
      obtain⟨m,q,e2,a2,b2,c2,d2⟩:=descPart_ok (key:=key) (p:=kas_rev p 0 n) (n:=n) (nrem:=nrem) (by omega) (by rw[rev_size];omega) (fun i j hij hj=>by
       rw[hk,hk]
       by_cases hjn:j<n
       . rw[hall i (by omega) (by omega),hall j (by omega) hjn];exact KeyOrd.kle_refl _
       . have hj':j=n:=by omega
         subst hj'
         by_cases hi':i=j
         . subst hi';exact KeyOrd.kle_refl _
         . rw[hall i (by omega) (by omega)];exact KeyOrd.kle_of_klt hlt)
      exact⟨m,q,by simpa using e2,a2.trans (rev_perm _ _ _),b2,c2,d2⟩
   . rw[if_neg hgt]
     have hn1:n=1:=by omega
     subst hn1
     refine descPart_ok (by omega) hz fun i j hij hj=>?_
     by_cases hi':i=j
     . subst hi';exact KeyOrd.kle_refl _
     . have hi0:i=0:=by omega
       have hj1:j=1:=by omega
       subst hi0;subst hj1
       exact KeyOrd.kle_of_klt hlt
theorem place_ok {p:Array Nat}{k:Nat}(hs:Sr key p k):∀(f l r:Nat),l<=r->r<=k->r-l<=f->(∀i,i<l->O.kle (kk key p i) (kk key p k))->(∀i,r<=i->i<k->O.klt (kk key p k) (kk key p i)) ->
 ∃m,ev (lt_ key) (kas_place p k f l r)=m/\m<=k/\(∀i,i<m->O.kle (kk key p i) (kk key p k))/\(∀i,m<=i->i<k->O.klt (kk key p k) (kk key p i))
 | 0,l,r,hlr,hrk,hf,hlo,hhi=>⟨l,rfl,by omega,hlo,fun i h1 h2=>hhi i (by omega) h2⟩
 | f+1,l,r,hlr,hrk,hf,hlo,hhi=>by
  unfold kas_place
  by_cases hge:l ≥ r
  . rw[if_pos hge]
    exact⟨l,rfl,by omega,hlo,fun i h1 h2=>hhi i (by omega) h2⟩
  . rw[if_neg hge]
    show ∃m,ev (lt_ key) (if lt_ key (p.getD k 0) (p.getD ((l+r)/2) 0)=true then kas_place p k f l ((l+r)/2) else kas_place p k f ((l+r)/2+1) r)=m/\_
    cases hl:lt_ key (p.getD k 0) (p.getD ((l+r)/2) 0) with
    | true=>
     obtain⟨m,e,x⟩:=place_ok hs f l ((l+r)/2) (by omega) (by omega) (by omega) hlo (fun i h1 h2=>KeyOrd.klt_of_klt_of_kle hl (hs _ _ h1 h2))
     exact⟨m,by simpa using e,x⟩
    | false=>
     obtain⟨m,e,x⟩:=place_ok hs f ((l+r)/2+1) r (by omega) (by omega) (by omega) (fun i h1=>KeyOrd.kle_trans (hs i ((l+r)/2) (by omega) (by omega)) (show O.kle _ _ from hl)) hhi
     exact⟨m,by simpa using e,x⟩
theorem bin_ok:∀(f:Nat)(p:Array Nat)(k:Nat),k+f=p.size->Sr key p k->∃q,ev (lt_ key) (kas_bin f p k)=q/\q.Perm p/\Sr key q (k+f)
 | 0,p,k,_,hs=>⟨p,rfl,.refl _,hs⟩
 | f+1,p,k,hz,hs=>by
  unfold kas_bin
  rw[ev_bind]
  obtain⟨l,e,hlk,hlo,hhi⟩:=place_ok (key:=key) hs k 0 k (by omega) (by omega) (by omega) (fun i h=>by omega) (fun i h1 h2=>by omega)
  rw[e]
  have hs':Sr key (bubble p k (k-l)) (k+1):=fun i j hij hj=>by
   rw[kk_bubble (by omega) (by omega),kk_bubble (by omega) (by omega),show k-(k-l)=l by omega]
   repeat' split
   all_goals first
    | (exfalso;omega)
    | exact KeyOrd.kle_refl _
    | exact hlo _ (by omega)
    | exact KeyOrd.kle_of_klt (hhi _ (by omega) (by omega))
    | exact hs _ _ (by omega) (by omega)
  obtain⟨q,e2,a,b⟩:=bin_ok f (bubble p k (k-l)) (k+1) (by rw[(bubble_perm p k (k-l)).size_eq];omega) hs'
  exact⟨q,e2,a.trans (bubble_perm _ _ _),by rw[show k+(f+1)=k+1+f by omega];exact b⟩
theorem sort_ok (n:Nat)(h1:1<=n):∃q,ev (lt_ key) (kas_sort n)=q/\q.Perm (List.range n).toArray/\Sr key q n:=by
 unfold kas_sort
 rw[ev_bind]
 have hz:(List.range n).toArray.size=n:=by simp
 obtain⟨m,q,e,a,b,c,d⟩:=count_ok (key:=key) (p:=(List.range n).toArray) h1 (by omega)
 rw[e]
 dsimp only
 have hq:q.size=n:=by rw[a.size_eq,hz]
 by_cases hm:m<n
 . rw[if_pos hm]
   obtain⟨r,e2,a2,b2⟩:=bin_ok (key:=key) (n-max m 1) q (max m 1) (by omega) (by rw[show max m 1=m by omega];exact d)
   exact⟨r,e2,a2.trans a,by rw[show max m 1+(n-max m 1)=n by omega] at b2;exact b2⟩
 . rw[if_neg hm]
   have:m=n:=by omega
   subst this
   exact⟨q,rfl,a,d⟩
end
end SortT
namespace SortT
open PySem.W PyProof.Rows
def WinP {α:Type}(n:Nat)(R:α->Prop):KasT α->Prop
 | .ret a=>R a
 | .ask i j k=>i<n/\j<n/\∀b,WinP n R (k b)
theorem WinP.bind {α β:Type}{n:Nat}{R:α->Prop}{R':β->Prop}{f:α->KasT β}(hf:∀a,R a->WinP n R' (f a)):∀(t:KasT α),WinP n R t->WinP n R' (t.bind f)
 | .ret a,h=>hf a h
 | .ask _ _ k,h=>⟨h.1,h.2.1,fun b=>WinP.bind hf (k b) (h.2.2 b)⟩
def Bd (n:Nat)(p:Array Nat):Prop:=∀i,p.getD i 0<n
theorem Bd.perm {n:Nat}{p q:Array Nat}(h:Bd n q)(hp:p.Perm q):Bd n p:=fun i=>by
 have h0:0<n:=Nat.lt_of_le_of_lt (Nat.zero_le _) (h 0)
 by_cases hi:i<p.size
 . have e:p.getD i 0=p[i]:=by simp[Array.getD,hi]
   rw[e]
   have hm:p[i]∈q.toList:=(Array.perm_iff_toList_perm.mp hp).mem_iff.mp (by simp)
   obtain⟨j,hj,ej⟩:=List.getElem_of_mem hm
   have hj':j<q.size:=by simpa using hj
   have:=h j
   rw[show q.getD j 0=q[j] by simp[Array.getD,hj']] at this
   rw[<-ej]
   simpa using this
 . have e:p.getD i 0=0:=by simp[Array.getD,hi]
   rw[e];exact h0
theorem asc_win {n:Nat}{p:Array Nat}(hp:Bd n p):∀f m,WinP n (fun _=>True) (kas_asc p f m)
 | 0,_=>trivial
 | f+1,m=>⟨hp _,hp _,fun b=>by
  cases b with
  | true=>exact trivial
  | false=>exact asc_win hp f (m+1)⟩
theorem desc_win {n:Nat}:∀(f:Nat)(p:Array Nat)(m q:Nat),Bd n p->WinP n (fun r=>Bd n r.1) (kas_desc f p m q)
 | 0,_,_,_,hp=>hp
 | f+1,p,m,q,hp=>⟨hp _,hp _,fun b=>by
  cases b with
  | true=>
   show WinP n _ (if q > 0 then kas_desc f (kas_rev p (m-(q+1)) m) (m+1) 0 else kas_desc f p (m+1) 0)
   split
   . exact desc_win f _ _ _ (hp.perm (rev_perm _ _ _))
   . exact desc_win f _ _ _ hp
  | false=>
   refine⟨hp _,hp _,fun d=>?_⟩
   cases d with
   | true=>exact hp
   | false=>exact desc_win f _ _ _ hp⟩
theorem tail3_win {n m nrem:Nat}{p:Array Nat}(hp:Bd n p):WinP n (fun r=>Bd n r.2) (kas_tail3 m nrem p):=by
 unfold kas_tail3
 exact WinP.bind (R:=fun _=>True) (R':=fun r=>Bd n r.2) (f:=fun k=>KasT.ret (k,kas_rev p 0 m)) (fun a _=>hp.perm (rev_perm p 0 m)) _ (asc_win (hp.perm (rev_perm p 0 m)) _ _)
theorem descPart_win {n m nrem:Nat}{p:Array Nat}(hp:Bd n p):WinP n (fun r=>Bd n r.2) (kas_descPart m nrem p):=
 WinP.bind (fun r hr=>by
  split
  . exact tail3_win (hr.perm (rev_perm _ _ _))
  . exact tail3_win hr) _ (desc_win _ _ _ _ hp)
theorem count_win {n nrem:Nat}{p:Array Nat}(hp:Bd n p):WinP n (fun r=>Bd n r.2) (kas_count nrem p):=
 WinP.bind (fun r _=>by
  split
  . exact hp
  . split
    . refine⟨hp _,hp _,fun b=>?_⟩
      cases b with
      | true=>exact hp
      | false=>exact descPart_win (hp.perm (rev_perm _ _ _))
    . exact descPart_win hp) _ (asc_win hp _ _)
theorem place_win {n k:Nat}{p:Array Nat}(hp:Bd n p):∀f l r,WinP n (fun _=>True) (kas_place p k f l r)
 | 0,_,_=>trivial
 | f+1,l,r=>by
  unfold kas_place
  split
  . exact trivial
  . refine⟨hp _,hp _,fun b=>?_⟩
    cases b with
    | true=>exact place_win hp f _ _
    | false=>exact place_win hp f _ _
theorem bin_win {n:Nat}:∀(f:Nat)(p:Array Nat)(k:Nat),Bd n p->WinP n (fun _=>True) (kas_bin f p k)
 | 0,_,_,_=>trivial
 | f+1,p,k,hp=>WinP.bind (fun l _=>bin_win f _ _ (hp.perm (bubble_perm _ _ _))) _ (place_win hp _ _ _)
theorem sort_win {n:Nat}(h:0<n):WinP n (fun _=>True) (kas_sort n):=
 WinP.bind (fun r hr=>by
  split
  . exact bin_win _ _ _ hr
  . exact trivial) _ (count_win fun i=>by
    by_cases hi:i<n
    . simp[Array.getD,hi]
    . simp[Array.getD,hi];exact h)
end SortT
namespace SortT
open PySem PySem.W PySem.Calls PyProof.Rows
theorem wp_ev {α:Type}{cmp:Nat->Nat->(Bool->Shared->Prop)->Shared->Prop}{lt:Nat->Nat->Bool}{n:Nat}{s:Shared}(hc:∀i j C,i<n->j<n->C (lt i j) s->cmp i j C s){R:α->Prop}{Q:α->Shared->Prop} :
 ∀t:KasT α,WinP n R t->Q (ev lt t) s->t.kasWp cmp Q s
 | .ret _,_,h=>h
 | .ask i j k,w,h=>hc i j _ w.1 w.2.1 (wp_ev hc (k (lt i j)) (w.2.2 _) h)
section
variable {prog:Program}{w:World}{A:Around}{E:Value->Shared->Prop}{s:Shared}
structure Put {O:KeyOrd}(key:Nat->O.α)(n:Nat)(out:List Nat):Prop where
 perm:out.Perm (List.range n)
 rise:∀(i j a b:Nat),i<=j->out[i]? = some a->out[j]? = some b->O.kle (key a) (key b)
theorem put_of {O:KeyOrd}{key:Nat->O.α}{n:Nat}{q:Array Nat}(hp:q.Perm (List.range n).toArray)(hs:Sr key q n):Put key n q.toList:=by
 have hl:q.toList.Perm (List.range n):=Array.perm_iff_toList_perm.mp hp
 refine⟨hl,fun i j a b hij ha hb=>?_⟩
 have hz:q.size=n:=by have:=hp.size_eq;simpa using this
 have hj:j<q.toList.length:=(List.getElem?_eq_some_iff.mp hb).1
 have hj':j<n:=by rw[<-hz];simpa using hj
 have h:=hs i j hij hj'
 have ga:q.getD i 0=a:=by
  rw[Array.getD_eq_getD_getElem?,<-Array.getElem?_toList,ha];rfl
 have gb:q.getD j 0=b:=by
  rw[Array.getD_eq_getD_getElem?,<-Array.getElem?_toList,hb];rfl
 unfold kk at h
 rw[ga,gb] at h
 exact h
structure Asks (prog:Program)(w:World)(A:Around)(s:Shared)(a:Addr)(vs:List Value){O:KeyOrd}(key:Nat->O.α)(κ:SortKind):Prop where
 kind:∀(h':Heap)(Q:SortKind->Shared->Prop)(E:Value->Shared->Prop),(∀b o,b≠a->s.heap.get? b=some o->h'.get? b=some o)->Q κ { s with heap:=h' }->wpAny (model prog w) A (keyKind' vs.toArray) Q E { s with heap:=h' }
 less:∀(h':Heap)(i j:Nat)(Q:Bool->Shared->Prop)(E:Value->Shared->Prop),(∀b o,b≠a->s.heap.get? b=some o->h'.get? b=some o)->i<vs.length->j<vs.length->Q (O.blt (key i) (key j)) { s with heap:=h' } ->
  wpAny (model prog w) A (keyLt' κ (vs.getD i Value.none) (vs.getD j Value.none)) Q E { s with heap:=h' }
theorem list_sort {a:Addr}{vs:List Value}{n:Nat}{P:PySem.Fin->Shared->Prop}{O:KeyOrd}{key:Nat->O.α}{κ:SortKind}(ho:s.heap.get? a=some (seqObj "list" vs.toArray n)) (h64:vs.length<64)
 (ask:2<=vs.length->Asks prog w A s a vs key κ)
 (h:∀out:List Nat,Put key vs.length out->P (.done (.ret .none)) { s with heap:=sortedHeap s.heap a vs (out.map fun i=>vs.getD i Value.none).toArray }) :
 wpAny (model prog w) A (Builtin.«list.sort» ⟨[.ref a],[]⟩) P E s:=by
 rw[list_sort_plain]
 have ha:a<s.heap.objs.size:=Heap.lt_size ho
 refine wpAny_bind (listItems_at ho rfl ?_)
 refine wpAny_bind (listUpdate_at ho rfl ?_ (by rw[List.size_toArray,sizeLine_eq];omega) (Nat.zero_le _))
 obtain⟨e1,ho1⟩:∃e1,(s.heap.update a (Obj.mapSeq fun _=>#[])).get? a=some (seqObj "list" #[] e1):=⟨_,get?_update_seq ho (fun _=>#[])⟩
 refine wpAny_bind (seqEpoch_at ho1 rfl ?_)
 refine wpAny_bind (wpAny_newTuple ?_ (by show vs.length<=_;rw[sizeLine_eq];omega))
 refine wpAny_bind (wpAny_newList ?_ (Nat.zero_le _))
 refine wpAny_holding ?_
 have ho6:(((s.heap.update a (Obj.mapSeq fun _=>#[])).push (seqObj "tuple" vs.toArray 0)).push (seqObj "list" #[] 0)).get? a=some (seqObj "list" #[] e1):=by
  rw[Heap.get?_push_ne _ _ _ (by rw[size_push',Heap.size_update];exact Nat.ne_of_lt (Nat.lt_succ_of_lt ha)),Heap.get?_push_ne _ _ _ (by rw[Heap.size_update];exact Nat.ne_of_lt ha)]
  exact ho1
 have keep:∀b o,b≠a->s.heap.get? b=some o->(((s.heap.update a (Obj.mapSeq fun _=>#[])).push (seqObj "tuple" vs.toArray 0)).push (seqObj "list" #[] 0)).get? b=some o:=fun b o hb e=>by
  refine Heap.get?_push_of_some _ (Heap.get?_push_of_some _ ?_)
  rw[Heap.get?_update_ne _ _ _ _ hb]
  exact e
 show wpAny (model prog w) A _ P E { s with heap:=((s.heap.update a (Obj.mapSeq fun _=>#[])).push (seqObj "tuple" vs.toArray 0)).push (seqObj "list" #[] 0) }
 dsimp only
 by_cases h2:vs.toArray.size<2
 . rw[if_pos h2,if_pos h2]
   refine wpAny_bind (wpAny_pure ?_)
   rw[StateT.run_pure]
   refine wpAny_bind (wpAny_pure ?_)
   dsimp only
   refine wpAny_bind (seqEpoch_at ho6 rfl ?_)
   refine wpAny_bind (listUpdate_at ho6 rfl ?_ (Nat.zero_le _) (by rw[Array.size_map];show (pairsOf vs).size<=_;rw[pairsOf_size,sizeLine_eq];omega))
   simp only[bne_self_eq_false,Bool.false_eq_true,if_false]
   refine wpAny_pure ?_
   have hlen:vs.length<2:=by simpa using h2
   have hout:(arrOf (SortSt.mk' general' (vs.toArray.zip vs.toArray) #[] 7 none)).map (·.2)=((List.range vs.length).map fun i=>vs.getD i Value.none).toArray:=by
    show (vs.toArray.zip vs.toArray).map (·.2)=_
    match vs,hlen with
    | [],_=>simp
    | [v],_=>simp
    | _::_::_,h=>exfalso;simp only[List.length_cons] at h;omega
   have fin:=h (List.range vs.length) ⟨.refl _,fun i j x y hij hx hy=>by
    have hj:j<(List.range vs.length).length:=(List.getElem?_eq_some_iff.mp hy).1
    rw[List.length_range] at hj
    have e:i=j:=by omega
    subst e
    rw[hx] at hy
    cases hy
    exact KeyOrd.kle_refl _⟩
   rw[<-hout] at fin
   exact fin
 . rw[if_neg h2,if_neg h2]
   have h2':2<=vs.length:=by
    have:¬ vs.length<2:=by simpa using h2
    omega
   have K:=ask h2'
   refine wpAny_bind (K.kind _ _ _ keep ?_)
   obtain⟨q,eq,hp,hs⟩:=sort_ok (key:=key) vs.length (by omega)
   have run:(kas_sort vs.length).kasWp (kas_ask prog w A κ vs) (fun p s'=>p=q/\s'={ s with heap:=((s.heap.update a (Obj.mapSeq fun _=>#[])).push (seqObj "tuple" vs.toArray 0)).push (seqObj "list" #[] 0) })
    { s with heap:=((s.heap.update a (Obj.mapSeq fun _=>#[])).push (seqObj "tuple" vs.toArray 0)).push (seqObj "list" #[] 0) }:=
    wp_ev (lt:=lt_ key) (n:=vs.length) (fun i j C hi hj hC=>K.less _ i j C _ keep hi hj hC) _ (sort_win (by omega)) ⟨eq,rfl⟩
   refine wpAny_bind (wpAny_mono (kat_run (ks:=vs) (vs:=vs) (Q:=fun st' s'=>∃p:Array Nat,p.size=vs.length/\arrOf st'=p.map (kas_item (vs.toArray.zip vs.toArray))/\failedOf st'=none/\p=q/\s'={ s with heap:=((s.heap.update a (Obj.mapSeq fun _=>#[])).push (seqObj "tuple" vs.toArray 0)).push (seqObj "list" #[] 0) })
    rfl h2' h64 (fun p' st' s' a1 a2 a3 a4=>⟨p',a1,a2,a3,a4⟩) run) ?_ fun _ _ e=>e)
   rintro ⟨⟨⟩,st'⟩ s' ⟨p,hsz,har,hf,rfl,rfl⟩
   dsimp only
   refine wpAny_bind (seqEpoch_at ho6 rfl ?_)
   refine wpAny_bind (listUpdate_at ho6 rfl ?_ (Nat.zero_le _) (by rw[Array.size_map,har,Array.size_map,hsz,sizeLine_eq];omega))
   rw[hf]
   simp only[bne_self_eq_false,Bool.false_eq_true,if_false]
   refine wpAny_pure ?_
   have hout:=kat_snds (ks:=vs) (vs:=vs) rfl har
   have fin:=h p.toList (put_of hp hs)
   rw[<-hout] at fin
   exact fin
theorem sorted_list {l:Addr}{vs:List Value}{Q:Value->Shared->Prop}{O:KeyOrd}{key:Nat->O.α}{κ:SortKind}(hl:s.heap.IsList l vs.toArray)(h64:vs.length<64)
 (ask:2<=vs.length->∀(s':Shared)(a:Addr),(∀b o,s.heap.get? b=some o->b≠a)->(∀b o,s.heap.get? b=some o->s'.heap.get? b=some o)->Asks prog w A.in1.in1 s' a vs key κ)
 (h:∀(D:Addr)(h':Heap)(out:List Nat)(c:Nat),Put key vs.length out->s.heap.objs.size<=D->(∀b o,s.heap.get? b=some o->h'.get? b=some o) ->
  h'.get? D=some (seqObj "list" (out.map fun i=>vs.getD i Value.none).toArray c)->Q (.ref D) { s with heap:=h' }) :
 wpAny (model prog w) A (call (.builtin "sorted") [.ref l]) Q E s:=by
 refine Calls.call_function_entry kind_sorted plain_sorted entry_sorted (args_sorted1 _) ?_
 unfold Builtin.«sorted»
 refine wpAny_bind (m:=checkCount "sorted" 1 1 _) (wpAny_pure ?_)
 refine wpAny_bind (collect_list hl ?_ (by rw[sizeLine_eq];omega))
 refine wpAny_bind (wpAny_newList ?_ (by rw[sizeLine_eq];omega))
 have hsz:((s.heap.push (seqObj "list" #[] 0)).update s.heap.objs.size (Obj.mapSeq (· ++ vs.toArray))).objs.size=s.heap.objs.size+1:=by
  rw[Heap.size_update,size_push']
 have hoL:(((s.heap.push (seqObj "list" #[] 0)).update s.heap.objs.size (Obj.mapSeq (· ++ vs.toArray))).push (seqObj "list" vs.toArray 0)).get? (s.heap.objs.size+1)=some (seqObj "list" vs.toArray 0):=by
  rw[<-hsz];exact Heap.get?_push_size _ rfl
 have keep:∀b o,s.heap.get? b=some o->(((s.heap.push (seqObj "list" #[] 0)).update s.heap.objs.size (Obj.mapSeq (· ++ vs.toArray))).push (seqObj "list" vs.toArray 0)).get? b=some o:=fun b o q=>by
  have hlt:b<s.heap.objs.size:=Heap.lt_size q
  rw[Heap.get?_push_ne _ _ _ (by rw[hsz];exact Nat.ne_of_lt (Nat.lt_succ_of_lt hlt)),Heap.get?_update_ne _ _ _ _ (Nat.ne_of_lt hlt),Heap.get?_push_ne _ _ _ (Nat.ne_of_lt hlt)]
  exact q
 show wpAny _ _ _ _ _ { s with heap:=((s.heap.push (seqObj "list" #[] 0)).update s.heap.objs.size (Obj.mapSeq (· ++ vs.toArray))).push (seqObj "list" vs.toArray 0) }
 rw[hsz]
 refine wpAny_bind (wpAny_holding (wpAny_call_entry slot_list_sort ⟨_,hoL,rfl⟩ entry_list_sort (list_sort (O:=O) (key:=key) (κ:=κ) hoL h64 (fun h2=>ask h2 _ _ (fun b o e=>Nat.ne_of_lt (Nat.lt_succ_of_lt (Heap.lt_size e))) keep) fun out hp=>⟨_,rfl,?_⟩) (args_list_sort _)))
 refine wpAny_pure ⟨_,rfl,?_⟩
 obtain⟨c,hc⟩:=sortedAll_at s.heap vs (out.map fun i=>vs.getD i Value.none).toArray
 exact h _ _ out c hp (Nat.le_succ _) (fun b o e=>sortedAll_old e) hc
end
end SortT
namespace DRaw
open PySem PySem.W PySem.Calls PyProof.Rows
section
variable {prog:Program}{w:World}{A:Around}{E:Value->Shared->Prop}{s:Shared}{it d:Addr}{es:Array DictEntry}{i ep:Nat}
end
section
variable {prog:Program}{w:World}{A:Around}{d:Addr}{es:Array DictEntry}{ep:Nat}
end
end DRaw
namespace SortT
open PySem PySem.W PySem.Calls PyProof.Rows
end SortT
namespace L2
open PySem PySem.Spec PyProof.Rows
theorem lex_irrefl:∀a:List Int,HT.lexLt a a=false
 | []=>rfl
 | x::r=>by rw[HT.lexLt_cons,if_pos rfl];exact lex_irrefl r
theorem lex_trans:∀a b c:List Int,HT.lexLt a b=true->HT.lexLt b c=true->HT.lexLt a c=true
 | [],[],_,h,_=>by cases h
 | [],_::_,[],_,h=>by cases h
 | [],_::_,_::_,_,_=>rfl
 | _::_,[],_,h,_=>by cases h
 | _::_,_::_,[],_,h=>by cases h
 | x::a,y::b,z::c,h1,h2=>by
  rw[HT.lexLt_cons] at h1 h2 ⊢
  by_cases e1:x=y
  . subst e1
    rw[if_pos rfl] at h1
    by_cases e2:x=z
    . subst e2
      rw[if_pos rfl] at h2 ⊢
      exact lex_trans a b c h1 h2
    . rw[if_neg e2] at h2 ⊢;exact h2
  . rw[if_neg e1] at h1
    have l1:x<y:=of_decide_eq_true h1
    by_cases e2:y=z
    . subst e2;rw[if_neg e1];exact h1
    . rw[if_neg e2] at h2
      have l2:y<z:=of_decide_eq_true h2
      rw[if_neg (by omega)]
      exact decide_eq_true (by omega)
theorem lex_total:∀a b:List Int,HT.lexLt a b=false->HT.lexLt b a=false->a=b
 | [],[],_,_=>rfl
 | [],_::_,h,_=>by cases h
 | _::_,[],_,h=>by cases h
 | x::a,y::b,h1,h2=>by
  rw[HT.lexLt_cons] at h1 h2
  by_cases e:x=y
  . subst e
    rw[if_pos rfl] at h1 h2
    rw[lex_total a b h1 h2]
  . rw[if_neg e] at h1
    rw[if_neg (Ne.symm e)] at h2
    have l1:=of_decide_eq_false h1
    have l2:=of_decide_eq_false h2
    omega
theorem lex_neg (a b c:List Int)(h:HT.lexLt a c=true):HT.lexLt a b=true\/HT.lexLt b c=true:=by
 cases h1:HT.lexLt a b with
 | true=>exact .inl rfl
 | false=>
  cases h2:HT.lexLt b a with
  | true=>exact .inr (lex_trans b a c h2 h)
  | false=>rw[<-lex_total a b h1 h2];exact .inr h
def lexO:KeyOrd:=⟨List Int,HT.lexLt,lex_irrefl,lex_trans,lex_neg,lex_total⟩
def Rises (ms:List (List Int)):Prop:=ms.Pairwise fun a b=>HT.lexLt b a=false
def TupsAre (H:Hp):List V->List (List Int)->Prop
 | [],[]=>True
 | x::xs,k::ks=>(∃a,x = .ref a/\H a=some (.tup (k.map V.int))/\k≠[])/\TupsAre H xs ks
 | _,_=>False
theorem TupsAre.length {H:Hp}:∀{xs:List V}{ks:List (List Int)},TupsAre H xs ks->xs.length=ks.length
 | [],[],_=>rfl
 | [],_::_,h=>h.elim
 | _::_,[],h=>h.elim
 | _::_,_::_,h=>by rw[List.length_cons,List.length_cons,TupsAre.length h.2]
theorem TupsAre.get {H:Hp}:∀{xs:List V}{ks:List (List Int)}{i:Nat}{x:V},TupsAre H xs ks->xs[i]? = some x->∃a k,x = .ref a/\ks[i]? = some k/\H a=some (.tup (k.map V.int))/\k≠[]
 | [],_,_,_,_,h=>by simp at h
 | _::_,[],_,_,h,_=>h.elim
 | y::_,k::_,0,x,h,e=>by
  obtain⟨⟨a,h1,h2,h3⟩,_⟩:=h
  have e':y=x:=by simpa using e
  subst e'
  exact⟨a,k,h1,rfl,h2,h3⟩
 | _::_,_::_,i+1,x,h,e=>by
  obtain⟨a,k,h1,h2,h3⟩:=TupsAre.get (i:=i) h.2 (by simpa using e)
  exact⟨a,k,h1,by simpa using h2,h3⟩
theorem TupsAre.mk {H:Hp}:∀{xs:List V}{ks:List (List Int)},xs.length=ks.length->(∀(i:Nat)(x:V)(k:List Int),xs[i]? = some x->ks[i]? = some k->∃a,x=V.ref a/\H a=some (.tup (k.map V.int))/\k≠[])->TupsAre H xs ks
 | [],[],_,_=>trivial
 | [],_::_,e,_=>by simp at e
 | _::_,[],e,_=>by simp at e
 | x::xs,k::ks,e,h=>⟨h 0 x k rfl rfl,TupsAre.mk (by simpa using e) fun i x' k' h1 h2=>h (i+1) x' k' (by simpa using h1) (by simpa using h2)⟩
theorem TupsAre.keep {H H':Hp}{xs:List V}{ks:List (List Int)}(h:TupsAre H xs ks)(k:∀b ys,H b=some (.tup ys)->H' b=some (.tup ys)):TupsAre H' xs ks:=
 TupsAre.mk h.length fun i x c h1 h2=>by
  obtain⟨a,c',e1,e2,e3,e4⟩:=h.get h1
  rw[h2] at e2
  cases e2
  exact⟨a,e1,k a _ e3,e4⟩
theorem TupsAre.snoc {H:Hp}:∀{xs:List V}{ks:List (List Int)}{x:V}{k:List Int},TupsAre H xs ks->(∃a,x = .ref a/\H a=some (.tup (k.map V.int))/\k≠[])->TupsAre H (xs++[x]) (ks++[k])
 | [],[],_,_,_,h=>⟨h,trivial⟩
 | [],_::_,_,_,t,_=>t.elim
 | _::_,[],_,_,t,_=>t.elim
 | _::_,_::_,_,_,t,h=>⟨t.1,TupsAre.snoc t.2 h⟩
section
variable {prog:Program}{w:World}{A:Around}{s:Shared}
theorem katLex_ints {fin:Bool}{Q:Bool->Shared->Prop}:∀(ns ms:List Int)(us ws:List Value)(i:Nat),IntsAre us ns->IntsAre ws ms->fin=decide (ns.length<ms.length)->Q (HT.lexLt ns ms) s ->
 PySem.W.KatLex prog w A true fin Q (us.zip ws) i s
 | [],[],_,_,_,.nil,.nil,e,q=>by subst e;exact q
 | [],_::_,_,_,_,.nil,.cons _ _ _,e,q=>by subst e;exact q
 | _::_,[],_,_,_,.cons _ _ _,.nil,e,q=>by subst e;exact q
 | n::ns,m::ms,_,_,i,.cons _ t hu,.cons _ u hw,e,q=>by
  rw[HT.lexLt_cons] at q
  refine PySem.W.kat_cons (wpAny_eqBool_int ?_)
  by_cases h:n=m
  . rw[if_pos h] at q
    rw[show (n==m)=true by simpa using h]
    exact PySem.W.kat_yes (katLex_ints ns ms _ _ (i+1) hu hw (by rw[e];simp) q)
  . rw[if_neg h] at q
    rw[show (n==m)=false by simpa using h]
    refine PySem.W.kat_no ?_
    cases i with
    | zero=>exact oneLt_int q
    | succ j=>exact PySem.W.kat_one _ _ (PyProof.Rows.lt_int q)
theorem asks_tups {X:Cx}{pins:List (Addr×Obj)}{σ:St}{H:Hp}{s s':Shared}{a:Addr}{ys:List V}{ks:List (List Int)}{vs:List Value}{A:Around}(I:Inv X pins σ H s)(T:TupsAre H ys ks)(r:Vals ys vs)(hne:0<vs.length)
 (fa:∀b o,s.heap.get? b=some o->b≠a)(kp:∀b o,s.heap.get? b=some o->s'.heap.get? b=some o):SortT.Asks X.prog X.w A s' a vs (O:=lexO) (fun i=>ks.getD i []) (tuples' true):=by
 have hl:=T.length
 have hv:=r.length
 have at_:∀(h':Heap),(∀b o,b≠a->s'.heap.get? b=some o->h'.get? b=some o)->∀i,i<vs.length->∃(p:Addr)(k:List Int)(us:List Value)(o:Obj)(n:Nat),vs[i]? = some (Value.ref p)/\ks[i]? = some k/\k≠[]/\IntsAre us k/\h'.get? p=some o/\o.cls = .type "tuple" /\ o.data = .seq us.toArray n:=fun h' kh i hi=>by
  have hy:i<ys.length:=by omega
  obtain⟨p,k,e1,e2,e3,e4⟩:=T.get (i:=i) (x:=ys[i]) (by simp[hy])
  obtain⟨u,hu,ru⟩:=r.get (i:=i) (x:=ys[i]) (by simp[hy])
  rw[e1] at ru
  cases (show u=Value.ref p from ru)
  obtain⟨_,its,rv,o,ho,hc,n,hd⟩:=I.hok p _ e3
  exact⟨p,k,its,o,n,hu,e2,e4,intsAre_of rv,kh p o (fa p o ho) (kp p o ho),hc,hd⟩
 refine⟨fun h' Q E kh q=>?_,fun h' i j Q E kh hi hj q=>?_⟩
 . -- all keys are tuples whose first items are ints
   have tups:∀(m:Nat),m<=vs.length->∃fs:List Value,PySem.W.KatTups h' (vs.drop (vs.length-m)) fs/\fs.length=m/\∀f∈fs,∃x t,f=Value.int x t:=by
    intro m
    induction m with
    | zero=>intro _;exact⟨[],by rw[Nat.sub_zero,List.drop_length];exact trivial,rfl,fun f hf=>by simp at hf⟩
    | succ m ih=>
     intro hm
     obtain⟨fs,t,e,hf⟩:=ih (by omega)
     obtain⟨p,k,us,o,n,hu,hk,hk0,hI,ho,hc,hd⟩:=at_ h' kh (vs.length-(m+1)) (by omega)
     have ed:vs.drop (vs.length-(m+1))=Value.ref p::vs.drop (vs.length-m):=by
      have hlt:vs.length-(m+1)<vs.length:=by omega
      rw[List.drop_eq_getElem_cons hlt,show vs.length-(m+1)+1=vs.length-m by omega]
      have:vs[vs.length-(m+1)]=Value.ref p:=by
       rw[List.getElem?_eq_getElem hlt] at hu
       exact Option.some.inj hu
      rw[this]
     cases hI with
     | nil=>exact absurd rfl hk0
     | cons x tx hI'=>
      refine⟨Value.int x tx::fs,by rw[ed];exact PySem.W.KatTups.cons ho hc hd rfl t,by rw[List.length_cons,e],fun f hf'=>?_⟩
      rcases List.mem_cons.mp hf' with rfl | hf'
      . exact⟨x,tx,rfl⟩
      . exact hf f hf'
   obtain⟨fs,t,e,hf⟩:=tups vs.length (Nat.le_refl _)
   rw[Nat.sub_self,List.drop_zero] at t
   refine PySem.W.kat_kind (T:=Value.type "int") t (by omega) (fun v hv=>?_) (by rfl) q
   obtain⟨x,tx,rfl⟩:=hf v hv
   exact PySem.W.Looks.of_pure rfl
 . obtain⟨p,k,us,o,n,hu,hk,_,hI,ho,hc,hd⟩:=at_ h' kh i hi
   obtain⟨p2,k2,us2,o2,n2,hu2,hk2,_,hI2,ho2,hc2,hd2⟩:=at_ h' kh j hj
   have e1:vs.getD i Value.none = .ref p:=by rw[List.getD_eq_getElem?_getD,hu];rfl
   have e2:vs.getD j Value.none = .ref p2:=by rw[List.getD_eq_getElem?_getD,hu2];rfl
   have g1:ks.getD i []=k:=by rw[List.getD_eq_getElem?_getD,hk];rfl
   have g2:ks.getD j []=k2:=by rw[List.getD_eq_getElem?_getD,hk2];rfl
   rw[e1,e2]
   refine PySem.W.kat_lt (s:={ s' with heap:=h' }) ho hd ho2 hd2 ?_
   have q':Q (HT.lexLt k k2) { s' with heap:=h' }:=by
    have:lexO.blt (ks.getD i []) (ks.getD j [])=HT.lexLt k k2:=by rw[g1,g2];rfl
    rw[<-this];exact q
   have l1:=hI.length
   have l2:=hI2.length
   exact katLex_ints k k2 us us2 0 hI hI2 (by simp only[List.size_toArray];rw[l1,l2]) q'
theorem put_tups {H:Hp}{ys:List V}{ks:List (List Int)}{vs:List Value}{out:List Nat}(T:TupsAre H ys ks)(r:Vals ys vs)(p:SortT.Put (O:=lexO) (fun i=>ks.getD i []) vs.length out) :
 ∃zs ms,TupsAre H zs ms/\ms.Perm ks/\Rises ms/\Vals zs (out.map fun i=>vs.getD i Value.none)/\zs.length=ys.length:=by
 have hl:=T.length
 have hv:=r.length
 have hb:∀i∈out,i<vs.length:=fun i hi=>List.mem_range.mp (p.perm.mem_iff.mp hi)
 refine⟨out.map fun i=>ys.getD i .non,out.map fun i=>ks.getD i [],TupsAre.mk (by rw[List.length_map,List.length_map]) fun j x k hx hk=>?_,?_,?_,?_,?_⟩
 . rw[List.getElem?_map] at hx hk
   cases e:out[j]? with
   | none=>rw[e] at hx;cases hx
   | some i=>
    rw[e] at hx hk
    have hi:=hb i (List.mem_of_getElem? e)
    have hy:i<ys.length:=by omega
    obtain⟨a,c,e1,e2,e3,e4⟩:=T.get (i:=i) (x:=ys[i]) (by simp[hy])
    have ex:ys.getD i .non=x:=Option.some.inj hx
    have ek:ks.getD i []=k:=Option.some.inj hk
    rw[List.getD_eq_getElem?_getD,List.getElem?_eq_getElem hy] at ex
    rw[List.getD_eq_getElem?_getD,e2] at ek
    have ex':ys[i]=x:=ex
    have ek':c=k:=ek
    subst ek'
    exact⟨a,by rw[<-ex'];exact e1,e3,e4⟩
 . have h1:=p.perm.map fun i=>ks.getD i []
   have h2:(List.range vs.length).map (fun i=>ks.getD i [])=ks:=by
    rw[show vs.length=ks.length by omega]
    apply List.ext_getElem?
    intro j
    rw[List.getElem?_map]
    by_cases hj:j<ks.length
    . rw[List.getElem?_range hj,List.getElem?_eq_getElem hj];simp[hj]
    . rw[List.getElem?_eq_none (by rw[List.length_range];omega),List.getElem?_eq_none (by omega)];rfl
   rw[h2] at h1
   exact h1
 . refine List.pairwise_iff_getElem.mpr fun i j hi hj hij=>?_
   rw[List.length_map] at hi hj
   have:=p.rise i j out[i] out[j] (Nat.le_of_lt hij) (by simp) (by simp)
   have h3:HT.lexLt (ks.getD out[j] []) (ks.getD out[i] [])=false:=this
   simpa using h3
 . have:∀l:List Nat,(∀i∈l,i<vs.length)->Vals (l.map fun i=>ys.getD i .non) (l.map fun i=>vs.getD i Value.none):=by
    intro l
    induction l with
    | nil=>intro _;exact .nil
    | cons i l ih=>
     intro h
     have hi:=h i List.mem_cons_self
     have hy:i<ys.length:=by omega
     obtain⟨u,hu,ru⟩:=r.get (i:=i) (x:=ys[i]) (by simp[hy])
     refine .cons ?_ (ih fun j hj=>h j (List.mem_cons_of_mem _ hj))
     show RelV (ys.getD i V.non) (vs.getD i Value.none)
     rw[List.getD_eq_getElem?_getD,List.getElem?_eq_getElem hy,List.getD_eq_getElem?_getD,hu]
     exact ru
   exact this out hb
 . rw[List.length_map,p.perm.length_eq,List.length_range];omega
theorem sorted_fin {X:Cx}{pins:List (Addr×Obj)}{σ:St}{H:Hp}{s:Shared}{h':Heap}{D:Addr}{c t':Nat}{zs:List V}{us:List Value}(I:Inv X pins σ H s)(hD:s.heap.objs.size<=D)(kp:∀b o,s.heap.get? b=some o->h'.get? b=some o)
 (ho:h'.get? D=some (seqObj "list" us.toArray c)) (r:Vals zs us)(hz:zs.length<=sizeLine):Inv X pins σ (upd H D (.lst zs)) { s with heap:=h',toks:=t' }:=
 I.laid kp hD (show ObjOk X.prog X.w _ _ _ (.lst zs) from ⟨hz,us,c,r,ho⟩)
end
section
variable {X:Cx}
theorem call_sorted:CallR X (.builtin "sorted") (fun xs H Q=>∃p ys ks,xs=[.ref p]/\SqL X.K H p ys/\TupsAre H ys ks/\ks.length<64 /\
 ∀l zs ms,H l=none->TupsAre H zs ms->ms.Perm ks->Rises ms->Q (.ref l) (upd H l (.lst zs))):=by
 intro pins s σ H xs us Q I r h
 obtain⟨p,ys,ks,rfl,hq,T,h64,q⟩:=h
 obtain⟨u,rfl,rx⟩:=vals1 r
 cases rx
 obtain⟨its,r',pl,hz⟩:=I.list hq
 have hl:=T.length
 have hv:=r'.length
 refine SortT.sorted_list (O:=lexO) (key:=fun i=>ks.getD i []) (κ:=tuples' true) pl.isList (by omega) (fun h2 s' a fa kp=>asks_tups I T r' (by omega) fa kp) fun D h' out c pt hD kp ho=>?_
 obtain⟨zs,ms,T2,hp,hr,rz,hlz⟩:=put_tups T r' pt
 exact⟨.ref D,_,sorted_fin (t':=s.toks) I hD kp ho rz (by omega),rfl,q D zs ms (I.hok.fresh hD) T2 hp hr⟩
end
end L2
namespace L2
open PySem PySem.Spec PyProof.Rows
mutual
inductive Shows (H:Hp):V->PyData->Prop
 | non:Shows H .non .none
 | bl (b:Bool):Shows H (.bl b) (.bool b)
 | int (i:Int):Shows H (.int i) (.int i)
 | str (x:Str):Shows H (.str x) (.str x)
 | tup {a:Addr}{xs:List V}{ds:List PyData}:H a=some (.tup xs)->ShowsAll H xs ds->Shows H (.ref a) (.tuple ds)
 | lst {a:Addr}{xs:List V}{ds:List PyData}:H a=some (.lst xs)->ShowsAll H xs ds->Shows H (.ref a) (.list ds)
inductive ShowsAll (H:Hp):List V->List PyData->Prop
 | nil:ShowsAll H [] []
 | cons {x:V}{xs:List V}{d:PyData}{ds:List PyData}:Shows H x d->ShowsAll H xs ds->ShowsAll H (x::xs) (d::ds)
end
section
variable {P:Program}{w:World}{H:Hp}{h:Heap}
mutual
theorem Shows.reads (ok:HOk P w H h):∀{x:V}{d:PyData},Shows H x d->∀{u:Value},RelV x u->∃as,Reads h u d as
 | _,_,.non,u,r=>by cases (show u=Value.none from r);exact⟨_,.none⟩
 | _,_,.bl b,u,r=>by cases (show u=Value.bool b from r);exact⟨_,.bool b⟩
 | _,_,.int i,u,r=>by obtain⟨t,rfl⟩:=r;exact⟨_,.int i t⟩
 | _,_,.str x,u,r=>by obtain⟨t,rfl⟩:=r;exact⟨_,.str x t⟩
 | _,_,.tup (a:=a) e s,u,r=>by
  cases (show u=Value.ref a from r)
  obtain⟨_,its,rv,o,ho,hc,n,hd⟩:=ok a _ e
  obtain⟨as,ra⟩:=ShowsAll.reads ok s rv
  exact⟨_,.tuple ho hc hd (by simpa using ra)⟩
 | _,_,.lst (a:=a) e s,u,r=>by
  cases (show u=Value.ref a from r)
  obtain⟨_,its,n,rv,ho⟩:=ok a _ e
  obtain⟨as,ra⟩:=ShowsAll.reads ok s rv
  exact⟨_,.list ho rfl rfl (by simpa using ra)⟩
theorem ShowsAll.reads (ok:HOk P w H h):∀{xs:List V}{ds:List PyData},ShowsAll H xs ds->∀{us:List Value},Vals xs us->∃as,ReadsAll h us ds as
 | _,_,.nil,us,r=>by cases r;exact⟨_,.nil⟩
 | _,_,.cons s t,us,r=>by
  cases r with
  | cons r1 r2=>
   obtain⟨a1,h1⟩:=Shows.reads ok s r1
   obtain⟨a2,h2⟩:=ShowsAll.reads ok t r2
   exact⟨_,.cons h1 h2⟩
end
end
structure Fn (n p:Nat)(d:PyData):Prop where
 wt:d.weight<=n
 dp:d.depth<=p
 cl:d.canLay0=true
 sh:d.intsShort 13=true
 sw:d.showable=true
theorem Fn.mono {n p n' p':Nat}{d:PyData}(h:Fn n p d)(hn:n<=n')(hp:p<=p'):Fn n' p' d:=⟨Nat.le_trans h.wt hn,Nat.le_trans h.dp hp,h.cl,h.sh,h.sw⟩
theorem log2_small {i:Int}(h:i.natAbs<1000000000):i.natAbs.log2<30:=by
 by_cases h0:i.natAbs=0
 . rw[h0];decide
 . exact (Nat.log2_lt h0).mpr (by omega)
theorem fn_int {i:Int}(h:i.natAbs<1000000000):Fn 30 0 (.int i):=by
 have hl:=log2_small h
 refine⟨?_,Nat.le_refl _,rfl,?_,?_⟩
 . simp only[PyData.weight]
   split <;> omega
 . simp only[PyData.intsShort,PyData.shown]
   refine decide_eq_true ?_
   have e:=int_text_length_le10 (a:=i) (k:=9) (by decide) (by simpa using h)
   have e2:(Str.ofString (toString i)).length=(toString i).length:=by
    rw[Str.ofString_eq_toList]
    show ((toString i).toList.map Char.toNat).toArray.size=_
    rw[List.size_toArray,List.length_map,String.length_toList]
   show (Str.ofString (toString i)).length<=13
   omega
 . simp only[PyData.showable]
   exact decide_eq_true (by omega)
theorem fn_all {n p:Nat}:∀{ds:List PyData},(∀d∈ds,Fn n p d)->PyData.weightAll ds<=ds.length*(n+1)/\PyData.depthAll ds<=p/\PyData.canLayAll0 ds=true/\PyData.intsShortAll 13 ds=true/\PyData.showableAll ds=true
 | [],_=>⟨by simp[PyData.weightAll],by simp[PyData.depthAll],by simp[PyData.canLayAll0],by simp[PyData.intsShortAll],by simp[PyData.showableAll]⟩
 | d::ds,h=>by
  obtain⟨a,b,c,e,f⟩:=fn_all (ds:=ds) fun x hx=>h x (List.mem_cons_of_mem _ hx)
  have g:=h d List.mem_cons_self
  refine⟨?_,?_,?_,?_,?_⟩
  . simp only[PyData.weightAll,List.length_cons]
    have:=g.wt
    rw[Nat.add_mul]
    omega
  . simp only[PyData.depthAll]
    have:=g.dp
    omega
  . simp only[PyData.canLayAll0,g.cl,c,Bool.and_self]
  . simp only[PyData.intsShortAll,g.sh,e,Bool.and_self]
  . simp only[PyData.showableAll,g.sw,f,Bool.and_self]
theorem fn_tup {n p L:Nat}{ds:List PyData}(h:∀d∈ds,Fn n p d)(hl:ds.length<=L):Fn (L*(n+1)) (p+1) (.tuple ds):=by
 obtain⟨a,b,c,e,f⟩:=fn_all h
 refine⟨?_,?_,?_,?_,?_⟩
 . simp only[PyData.weight]
   exact Nat.le_trans a (Nat.mul_le_mul_right _ hl)
 . simp only[PyData.depth];omega
 . simp only[PyData.canLay0];exact c
 . simp only[PyData.intsShort];exact e
 . simp only[PyData.showable];exact f
theorem Fn.len {n p:Nat}{d:PyData}(h:Fn n p d)(hn:n<=1048576)(hp:p<=60):d.shown.length<=sizeLine/\d.hasDict=false:=by
 have hl:PyData.layable0 d=true:=by
  show (PyData.canLay0 d && decide (PyData.depth d<=64) && decide (PyData.weight d<=2 ^ 20))=true
  rw[h.cl,decide_eq_true (show PyData.depth d<=64 by have:=h.dp;omega),decide_eq_true (show PyData.weight d<=2 ^ 20 by have:=h.wt;omega)]
  rfl
 have e:=shown_le13 hl h.sh
 have:sizeLine=16777216:=rfl
 exact⟨by omega,PyData.hasDict_of_layable hl⟩
section
variable {X:Cx}
theorem call_repr {k:Nat}(hr:Room k X.A):CallR X (.builtin "repr") (fun xs H Q=>∃x d,xs=[x]/\Shows H x d/\Fn 1048576 50 d/\Q (.str d.shown) H):=by
 intro pins s σ H xs us Q I r h
 obtain⟨x,d,rfl,sh,f,q⟩:=h
 obtain⟨u,rfl,rx⟩:=vals1 r
 obtain⟨hz,hnd⟩:=f.len (Nat.le_refl _) (by decide)
 have hu:=hr.units
 cases sh with
 | non=>
  cases (show u=Value.none from rx)
  exact PySem.P.repr_of_none ⟨.str _,H,I.tok _,⟨_,rfl⟩,by simpa only [PyData.shown] using q⟩
 | bl b=>
  cases (show u=Value.bool b from rx)
  exact PySem.P.repr_of_bool ⟨.str _,H,I.tok _,⟨_,rfl⟩,by simpa only [PyData.shown] using q⟩
 | int i=>
  obtain⟨t,rfl⟩:=rx
  exact PySem.P.repr_of_int (by have:=f.sw;simpa only [PyData.showable,decide_eq_true_eq] using this) ⟨.str _,H,I.tok _,⟨_,rfl⟩,by simpa only [PyData.shown] using q⟩
 | str z=>
  obtain⟨t,rfl⟩:=rx
  exact PySem.P.repr_of_str ⟨.str _,H,I.tok _,⟨_,rfl⟩,by simpa only [PyData.shown] using q⟩ (by simpa only [PyData.shown] using hz)
 | tup e al=>
  cases (show u=Value.ref _ from rx)
  obtain⟨as,rd⟩:=Shows.reads I.hok (.tup e al) (u:=.ref _) rfl
  exact repr_of_reads' rd f.sw (PyData.noDict_hsm hnd) hr.gd (by have:=f.dp;omega) (fun _ _ e=>e) (fun h' u tk hk=>⟨.str _,H,I.kept hk,⟨u,rfl⟩,q⟩) hz
 | lst e al=>
  cases (show u=Value.ref _ from rx)
  obtain⟨as,rd⟩:=Shows.reads I.hok (.lst e al) (u:=.ref _) rfl
  exact repr_of_reads' rd f.sw (PyData.noDict_hsm hnd) hr.gd (by have:=f.dp;omega) (fun _ _ e=>e) (fun h' u tk hk=>⟨.str _,H,I.kept hk,⟨u,rfl⟩,q⟩) hz
end
end L2
namespace L2
open PySem PySem.Spec PyProof.Rows
section
variable {X:Cx}{es xs:List Expr}{t t1:TA}
theorem pa_int {i j pos} (hr:PA X es t):PA X (.Constant (.int i) j pos::es) (tCons (tC (.int i)) t):=pa_cons pe_int hr (by rfl)
theorem pa_lst {pos} (h:PA X xs t1)(hr:PA X es t):PA X (.List xs pos::es) (tCons (tLst t1) t):=pa_cons (pe_lst h) hr (by rfl)
end
inductive LitInts:List Expr->List Int->Prop where
 | nil:LitInts [] []
 | cons {i:Int}{j:Nat}{pos:Pos}{es:List Expr}{ns:List Int}:LitInts es ns->LitInts (.Constant (.int i) j pos::es) (i::ns)
theorem pa_lits {X:Cx}{es:List Expr}{ns:List Int}(h:LitInts es ns):PA X es (fun _ H Q=>Q (ns.map V.int) H):=by
 induction h with
 | nil=>exact pa_nil
 | cons _ ih=>
  intro pos pins s σ H Q I q
  exact (pa_int ih) pos pins s σ H Q I q
inductive LitIntss:List Expr->List (List Int)->Prop where
 | nil:LitIntss [] []
 | cons {xs:List Expr}{ns:List Int}{pos:Pos}{es:List Expr}{nss:List (List Int)}:LitInts xs ns->ns.length<=sizeLine->LitIntss es nss->LitIntss (.List xs pos::es) (ns::nss)
def tLitss:List (List Int)->TA
 | []=>tNil
 | ns::r=>fun σ H Q=>∀p,H p=none->tLitss r σ (upd H p (.lst (ns.map V.int))) fun xs H2=>Q (.ref p::xs) H2
theorem pa_litss {X:Cx}{es:List Expr}{nss:List (List Int)}(h:LitIntss es nss):PA X es (tLitss nss):=by
 induction h with
 | nil=>exact pa_nil
 | cons hx hl _ ih=>
  intro pos pins s σ H Q I q
  exact (pa_lst (pa_lits hx) ih) pos pins s σ H Q I ⟨by rw[List.length_map];exact hl,fun p hp=>q p hp⟩
end L2
namespace WM
theorem nd_sub {α:Type} [DecidableEq α]:∀{l₁ l₂:List α},l₁.Nodup->(∀x∈l₁,x∈l₂)->l₁.length<=l₂.length
 | [],_,_,_=>Nat.zero_le _
 | x::r,l₂,h,s=>by
  obtain⟨h1,h2⟩:=List.nodup_cons.mp h
  have hx:x∈l₂:=s x List.mem_cons_self
  have ih:=nd_sub (l₁:=r) (l₂:=l₂.erase x) h2 fun y hy=>by
   have hne:y≠x:=fun e=>h1 (e ▸ hy)
   exact (List.mem_erase_of_ne hne).mpr (s y (List.mem_cons_of_mem _ hy))
  rw[List.length_erase_of_mem hx] at ih
  have:0<l₂.length:=List.length_pos_of_mem hx
  rw[List.length_cons]
  omega
def lowTo (n:Nat):List Int:=(List.range n).map fun (i:Nat)=>(i:Int)
theorem mem_ints {n:Nat}{x:Int}:x∈lowTo n↔0<=x/\x<n:=by
 unfold lowTo
 rw[List.mem_map]
 constructor
 . rintro ⟨i,hi,rfl⟩
   have:=List.mem_range.mp hi
   omega
 . rintro ⟨h0,h1⟩
   exact⟨x.toNat,List.mem_range.mpr (by omega),by omega⟩
theorem nd_len {n:Nat}{l:List Int}(h:l.Nodup)(hb:∀x∈l,0<=x/\x<n):l.length<=n:=by
 have:=nd_sub h (l₂:=lowTo n) fun x hx=>mem_ints.mpr (hb x hx)
 simpa [lowTo] using this
theorem rise_same:∀{l₁ l₂:List Int},l₁.Pairwise (· < ·)->l₂.Pairwise (· < ·)->(∀x,x∈l₁↔x∈l₂)->l₁=l₂
 | [],[],_,_,_=>rfl
 | [],y::_,_,_,h=>by have:=(h y).mpr List.mem_cons_self;simp at this
 | x::_,[],_,_,h=>by have:=(h x).mp List.mem_cons_self;simp at this
 | x::r,y::q,h1,h2,h=>by
  obtain⟨a1,b1⟩:=List.pairwise_cons.mp h1
  obtain⟨a2,b2⟩:=List.pairwise_cons.mp h2
  have e:x=y:=by
   rcases List.mem_cons.mp ((h x).mp List.mem_cons_self) with e | e
   . exact e
   . rcases List.mem_cons.mp ((h y).mpr List.mem_cons_self) with e' | e'
     . exact e'.symm
     . have:=a2 x e;have:=a1 y e';omega
  subst e
  refine congrArg (x :: ·) (rise_same b1 b2 fun z=>?_)
  constructor
  . intro hz
    rcases List.mem_cons.mp ((h z).mp (List.mem_cons_of_mem _ hz)) with e | e
    . subst e;have:=a1 z hz;omega
    . exact e
  . intro hz
    rcases List.mem_cons.mp ((h z).mpr (List.mem_cons_of_mem _ hz)) with e | e
    . subst e;have:=a2 z hz;omega
    . exact e
theorem ints_rise (n:Nat):(lowTo n).Pairwise (· < ·):=by
 unfold lowTo
 rw[List.pairwise_map]
 exact List.pairwise_lt_range.imp fun h=>by omega
abbrev T3:=Int×Int×Int
def tl (t:T3):List Int:=[t.1,t.2.1,t.2.2]
structure GW (n:Int)(ts:List T3):Prop where
 n1:1<=n
 n24:n<=24
 len:ts.length<64
 rng:∀t∈ts,0<=t.1/\t.1<t.2.1/\t.2.1<n/\1<=t.2.2/\t.2.2<=99
 dis:ts.Pairwise fun s t=>¬ (s.1=t.1/\s.2.1=t.2.1)
def Adj (ts:List T3)(x y l:Int):Prop:=(x,y,l)∈ts\/(y,x,l)∈ts
theorem GW.uniq {n:Int}{ts:List T3}(g:GW n ts){x y l l':Int}(h:Adj ts x y l)(h':Adj ts x y l'):l=l':=by
 have key:∀{ts:List T3},ts.Pairwise (fun s t=>¬ (s.1=t.1/\s.2.1=t.2.1))->∀{a b l l':Int},(a,b,l)∈ts->(a,b,l')∈ts->l=l':=by
  intro ts
  induction ts with
  | nil=>intro _ a b l l' h;simp at h
  | cons t r ih=>
   intro hp a b l l' h h'
   obtain⟨q,hr⟩:=List.pairwise_cons.mp hp
   rcases List.mem_cons.mp h with e | e
   . rcases List.mem_cons.mp h' with e' | e'
     . rw[<-e] at e';injection e' with _ e2;injection e2 with _ e3;exact e3.symm
     . exact absurd (by rw[<-e];exact⟨rfl,rfl⟩) (q _ e')
   . rcases List.mem_cons.mp h' with e' | e'
     . exact absurd (by rw[<-e'];exact⟨rfl,rfl⟩) (q _ e)
     . exact ih hr e e'
 rcases h with h | h <;> rcases h' with h' | h'
 . exact key g.dis h h'
 . have:=g.rng _ h;have:=g.rng _ h';simp only at *;omega
 . have:=g.rng _ h;have:=g.rng _ h';simp only at *;omega
 . exact key g.dis h h'
theorem GW.adj {n:Int}{ts:List T3}(g:GW n ts){x y l:Int}(h:Adj ts x y l):0<=x/\x<n/\0<=y/\y<n/\x≠y/\1<=l/\l<=99:=by
 rcases h with h | h <;> (have:=g.rng _ h;simp only at *;omega)
def fd (p:Int):List T3->List (List Int)
 | []=>[]
 | t::r=>(if t.1=p then [[t.2.1,t.2.2]] else [])++(if t.2.1=p then [[t.1,t.2.2]] else [])++fd p r
theorem fd_append (p:Int):∀a b:List T3,fd p (a++b)=fd p a++fd p b
 | [],b=>rfl
 | t::r,b=>by show _++_++fd p (r++b)=_;rw[fd_append p r b];simp[fd,List.append_assoc]
theorem mem_fd {p:Int}{k:List Int}:∀{ts:List T3},k∈fd p ts↔∃y l,k=[y,l]/\Adj ts p y l
 | []=>by simp[fd,Adj]
 | (a,b,c)::r=>by
  have ih:=mem_fd (p:=p) (k:=k) (ts:=r)
  show k∈_++_++fd p r↔_
  rw[List.mem_append,List.mem_append,ih]
  simp only
  constructor
  . rintro ((h | h) | ⟨y,l,e,h⟩)
    . split at h
      . rename_i e;simp at h;subst e;exact⟨b,c,h,.inl List.mem_cons_self⟩
      . simp at h
    . split at h
      . rename_i e;simp at h;subst e;exact⟨a,c,h,.inr List.mem_cons_self⟩
      . simp at h
    . exact⟨y,l,e,h.elim (fun z=>.inl (List.mem_cons_of_mem _ z)) fun z=>.inr (List.mem_cons_of_mem _ z)⟩
  . rintro ⟨y,l,e,h⟩
    rcases h with h | h
    . rcases List.mem_cons.mp h with q | q
      . injection q with q1 q2;injection q2 with q2 q3;subst q1 q2 q3
        exact .inl (.inl (by simp[e]))
      . exact .inr ⟨y,l,e,.inl q⟩
    . rcases List.mem_cons.mp h with q | q
      . injection q with q1 q2;injection q2 with q2 q3;subst q1 q2 q3
        exact .inl (.inr (by simp[e]))
      . exact .inr ⟨y,l,e,.inr q⟩
theorem fd_len {n:Int}(p:Int):∀{ts:List T3},(∀t∈ts,t.1<t.2.1)->(fd p ts).length<=ts.length
 | [],_=>Nat.le_refl _
 | t::r,h=>by
  have ih:=fd_len (n:=n) p (ts:=r) fun t ht=>h t (List.mem_cons_of_mem _ ht)
  have h0:=h t List.mem_cons_self
  show (_++_++fd p r).length<=_
  rw[List.length_append,List.length_append,List.length_cons]
  have:(if t.1=p then [[t.2.1,t.2.2]] else ([]:List (List Int))).length+(if t.2.1=p then [[t.1,t.2.2]] else ([]:List (List Int))).length<=1:=by
   split <;> split <;> simp <;> omega
  omega
def hd (k:List Int):Int:=k.getD 0 0
theorem fd_heads {n:Int}{ts:List T3}(g:GW n ts)(p:Int):((fd p ts).map hd).Nodup:=by
 have key:∀(ts:List T3),(∀t∈ts,t.1<t.2.1)->ts.Pairwise (fun s t=>¬ (s.1=t.1/\s.2.1=t.2.1))->((fd p ts).map hd).Nodup:=by
  intro ts
  induction ts with
  | nil=>intro _ _;exact List.nodup_nil
  | cons t r ih=>
   intro hlt hp
   obtain⟨q,hr⟩:=List.pairwise_cons.mp hp
   have h0:=hlt t List.mem_cons_self
   have hr':∀t∈r,t.1<t.2.1:=fun t ht=>hlt t (List.mem_cons_of_mem _ ht)
   have ih':=ih hr' hr
   have no:∀y c,(∀l,Adj r p y l->False)->([y,c]:List Int)=[y,c]->¬ y∈(fd p r).map hd:=by
    intro y c hn _ hm
    obtain⟨k,hk,e⟩:=List.mem_map.mp hm
    obtain⟨y',l,ek,ha⟩:=mem_fd.mp hk
    subst ek
    have:y'=y:=e
    subst this
    exact hn l ha
   show ((_++_++fd p r).map hd).Nodup
   by_cases h1:t.1=p
   . have h2:¬ t.2.1=p:=by omega
     rw[if_pos h1,if_neg h2]
     show (t.2.1::(fd p r).map hd).Nodup
     refine List.nodup_cons.mpr ⟨no _ t.2.2 (fun l ha=>?_) rfl,ih'⟩
     rcases ha with ha | ha
     . exact q _ ha ⟨h1,rfl⟩
     . have:=hr' _ ha;simp only at this;omega
   . by_cases h2:t.2.1=p
     . rw[if_neg h1,if_pos h2]
       show (t.1::(fd p r).map hd).Nodup
       refine List.nodup_cons.mpr ⟨no _ t.2.2 (fun l ha=>?_) rfl,ih'⟩
       rcases ha with ha | ha
       . have:=hr' _ ha;simp only at this;omega
       . exact q _ ha ⟨rfl,h2⟩
     . rw[if_neg h1,if_neg h2]
       exact ih'
 exact key ts (fun t ht=>(g.rng t ht).2.1) g.dis
inductive Rch (ts:List T3):Int->Prop where
 | z:Rch ts 0
 | s {x y l:Int}:Rch ts x->Adj ts x y l->Rch ts y
theorem rch_all {ts:List T3}{l:List Int}(h0:0∈l)(hc:∀x∈l,∀y k,Adj ts x y k->y∈l){x:Int}(h:Rch ts x):x∈l:=by
 induction h with
 | z=>exact h0
 | s _ ha ih=>exact hc _ ih _ _ ha
end WM
namespace WM
inductive Way (ts:List T3):Int->Int->Int->Prop where
 | nil (x:Int):Way ts x x 0
 | cons {x z y l d:Int}:Adj ts x z l->Way ts z y d->Way ts x y (l+d)
theorem Way.one {ts:List T3}{x y l:Int}(h:Adj ts x y l):Way ts x y l:=by
 have:=Way.cons h (.nil y)
 rwa [Int.add_zero] at this
theorem Way.trans {ts:List T3}{x y z d e:Int}(h:Way ts x y d)(h':Way ts y z e):Way ts x z (d+e):=by
 induction h with
 | nil=>rw[Int.zero_add];exact h'
 | cons ha _ ih=>rw[Int.add_assoc];exact .cons ha (ih h')
theorem Way.snoc {ts:List T3}{x y z d l:Int}(h:Way ts x y d)(ha:Adj ts y z l):Way ts x z (d+l):=h.trans (.one ha)
end WM
namespace WM
end WM
namespace WM
end WM
namespace WM
end WM
namespace WM
end WM
namespace L2
open PySem PySem.Spec PyProof.Rows
def intO:KeyOrd:=⟨Int,fun a b=>decide (a<b),fun a=>decide_eq_false (by omega),fun a b c h1 h2=>decide_eq_true (by have:=of_decide_eq_true h1;have:=of_decide_eq_true h2;omega),
 fun a b c h=>by
  have h':a<c:=of_decide_eq_true h
  by_cases hab:a<b
  . exact .inl (decide_eq_true hab)
  . exact .inr (decide_eq_true (by omega)),
 fun a b h1 h2=>by have:=of_decide_eq_false h1;have:=of_decide_eq_false h2;omega⟩
theorem asks_ints {prog:Program}{w:World}{A:Around}{s:Shared}{a:Addr}{vs:List Value}{ns:List Int}(hI:IntsAre vs ns)(h2:2<=vs.length) :
 SortT.Asks prog w A s a vs (O:=intO) (fun i=>ns.getD i 0) oneType':=by
 have hl:=hI.length
 have at_:∀i,i<vs.length->∃t,vs.getD i Value.none = .int (ns.getD i 0) t:=fun i hi=>by
  obtain⟨n,hn⟩:∃n,ns[i]? = some n:=⟨_,List.getElem?_eq_getElem (by omega)⟩
  obtain⟨t,ht⟩:=hI.get i n hn
  exact⟨t,by rw[List.getD_eq_getElem?_getD,List.getD_eq_getElem?_getD,ht,hn];rfl⟩
 refine⟨fun h' Q E kh q=>?_,fun h' i j Q E kh hi hj q=>?_⟩
 . rw[ksk_kind (keys:=vs.toArray) (kz:=ns) (by simpa using hI) (by simpa using h2)]
   exact wpAny_pure q
 . obtain⟨t,e1⟩:=at_ i hi
   obtain⟨u,e2⟩:=at_ j hj
   rw[e1,e2]
   exact PySem.W.kat_lt_int q
theorem put_ints {vs:List Value}{ns:List Int}{out:List Nat}(hI:IntsAre vs ns)(p:SortT.Put (O:=intO) (fun i=>ns.getD i 0) vs.length out) :
 ∃ms:List Int,ms.Perm ns/\ms.Pairwise (· <= ·)/\Vals (ms.map V.int) (out.map fun i=>vs.getD i Value.none)/\ms.length=ns.length:=by
 have hl:=hI.length
 have hb:∀i∈out,i<vs.length:=fun i hi=>List.mem_range.mp (p.perm.mem_iff.mp hi)
 refine⟨out.map fun i=>ns.getD i 0,?_,?_,?_,?_⟩
 . have h1:=p.perm.map fun i=>ns.getD i 0
   have h2:(List.range vs.length).map (fun i=>ns.getD i 0)=ns:=by
    rw[show vs.length=ns.length by omega]
    apply List.ext_getElem?
    intro j
    rw[List.getElem?_map]
    by_cases hj:j<ns.length
    . rw[List.getElem?_range hj,List.getElem?_eq_getElem hj];simp[hj]
    . rw[List.getElem?_eq_none (by rw[List.length_range];omega),List.getElem?_eq_none (by omega)];rfl
   rw[h2] at h1
   exact h1
 . refine List.pairwise_iff_getElem.mpr fun i j hi hj hij=>?_
   rw[List.length_map] at hi hj
   have:=p.rise i j out[i] out[j] (Nat.le_of_lt hij) (by simp) (by simp)
   have h3:decide (ns.getD out[j] 0<ns.getD out[i] 0)=false:=this
   have h4:=of_decide_eq_false h3
   rw[List.getElem_map,List.getElem_map]
   omega
 . have:∀l:List Nat,(∀i∈l,i<vs.length)->Vals ((l.map fun i=>ns.getD i 0).map V.int) (l.map fun i=>vs.getD i Value.none):=by
    intro l
    induction l with
    | nil=>intro _;exact .nil
    | cons i l ih=>
     intro h
     have hi:=h i List.mem_cons_self
     obtain⟨n,hn⟩:∃n,ns[i]? = some n:=⟨_,List.getElem?_eq_getElem (by omega)⟩
     obtain⟨t,ht⟩:=hI.get i n hn
     refine .cons ?_ (ih fun j hj=>h j (List.mem_cons_of_mem _ hj))
     show RelV (V.int (ns.getD i 0)) (vs.getD i Value.none)
     rw[List.getD_eq_getElem?_getD,List.getD_eq_getElem?_getD,ht,hn]
     exact⟨t,rfl⟩
   exact this out hb
 . rw[List.length_map,p.perm.length_eq,List.length_range];omega
section
variable {X:Cx}
end
section
variable {X:Cx}{pins:List (Addr×Obj)}{σ:St}{H:Hp}{s:Shared}
end
section
variable {X:Cx}
end
end L2
namespace L2
open PySem PySem.Spec PyProof.Rows
section
variable {κ:Type} [DecidableEq κ]
end
end L2
namespace L2
open PySem PySem.Spec PyProof.Rows
section
variable {X:Cx}
end
end L2
namespace L2
open PySem PySem.Spec PyProof.Rows
section
variable {X:Cx}
theorem call_sumL (hc:X.calm=true):CallR X (.builtin "sum") (fun xs H Q=>∃(p:Addr)(ns:List Int),xs=[.ref p]/\SqL X.K H p (ns.map V.int)/\Q (.int ns.sum) H):=by
 intro pins s σ H xs us Q I r h
 obtain⟨p,ns,rfl,hq,q⟩:=h
 obtain⟨u,rfl,rx⟩:=vals1 r
 cases rx
 obtain⟨its,r',pl,hz⟩:=I.list hq
 have hi:=intsAre_of r'
 have hl:=pl.isList
 obtain⟨zs,ez⟩:=hi.allInts.items
 have en:=hi.numsOf
 rw[ez] at hl
 have es:preSum (numAt zs) zs.size=ns.sum:=by
  rw[preSum_eq,List.take_of_length_le (by simp),<-en,show its=its.toArray.toList from rfl,ez,nums_intItems]
 refine sum_intListG (I.ok.hd hc) hl fun h' tk t' hk=>⟨.int ns.sum,H,I.kept hk,⟨t',?_⟩,q⟩
 rw[es]
end
end L2
namespace L2
open PySem PySem.Spec PyProof.Rows
section
variable {X:Cx}{pins:List (Addr×Obj)}{σ:St}{H3:Hp}{s3:Shared}{scope:Scope}{fp:List Addr}{N' own cn:List Str}{ci:List Nat}{cv:List V}{yc:Str}
end
end L2
namespace L2
open PySem PySem.Spec PyProof.Rows
def tLRange (ta:TA):TE:=fun σ H Q=>ta σ H fun vs H1=>∃j:Int,vs=[.int j]/\0<=j/\j<=1000/\∀l,H1 l=none->Q (.ref l) (upd H1 l (.lst ((WM.lowTo j.toNat).map V.int)))
theorem vals_low:∀(vs:List Value)(n:Nat),vs.length=n->(∀(j:Nat)(v:Value),vs[j]? = some v->∃t,v = .int (0+(j:Int)*1) t)->Vals ((WM.lowTo n).map V.int) vs:=by
 have key:∀(vs:List Value)(a:Nat),(∀(j:Nat)(v:Value),vs[j]? = some v->∃t,v = .int ((a+j:Nat):Int) t)->Vals ((List.range' a vs.length).map fun (i:Nat)=>V.int (i:Int)) vs:=by
  intro vs
  induction vs with
  | nil=>intro _ _;exact .nil
  | cons v r ih=>
   intro a h
   obtain⟨t,ht⟩:=h 0 v rfl
   rw[List.length_cons,List.range'_succ,List.map_cons]
   refine .cons ⟨t,by rw[ht];rfl⟩ (ih (a+1) fun j u hj=>?_)
   obtain⟨t',ht'⟩:=h (j+1) u hj
   exact⟨t',by rw[ht'];congr 1;omega⟩
 intro vs n e h
 subst e
 have:=key vs 0 fun j v hj=>by
  obtain⟨t,ht⟩:=h j v hj
  exact⟨t,by rw[ht];congr 1;omega⟩
 unfold WM.lowTo
 rw[List.map_map,List.range_eq_range']
 exact this
section
variable {X:Cx}
theorem pe_lrange {a:Expr}{ta:TA}{p1 p2 pos1 pos2:Pos}(hc:X.calm=true)(hgL:Gl X "list") (hmL:X.mg "list" = none) (hgR:Gl X "range") (hmR:X.mg "range" = none) (ha:PA X [a] ta)(hs:starEach [a] X.env=[(false,eval a X.env)]:=by rfl)
 (he:starEach [.Call (.Name "range" p2) [a] [] pos2] X.env=[(false,eval (.Call (.Name "range" p2) [a] [] pos2) X.env)]:=by rfl):PE X (.Call (.Name "list" p1) [.Call (.Name "range" p2) [a] [] pos2] [] pos1) (tLRange ta):=by
 intro pins s σ H Q I h
 refine wpAny_Call_Name_kw (ld_blt I hgL hmL (by decide +kernel:bootBuiltins "list" = some (.type "list")) ?_ (by decide) (by decide))
 refine PyProof.Rows.callWith_type1 ?_ he rfl
 rw[he]
 refine Calls.spliced_cons ?_
 refine Call_ (ld_blt I hgR hmR boot_range (PyProof.Rows.callWith_type1 (thn (ha pos2 pins s σ H _ I h) fun us s1 ⟨vs,H1,I1,r1,q1⟩=>?_) hs rfl))
 obtain⟨j,e,h0,h1,q⟩:=q1
 subst e
 cases r1 with
 | cons r rr=>
  cases rr
  obtain⟨t,rfl⟩:=r
  refine call_range_1 ?_
  refine Calls.spliced_nil ?_
  have hz:Builtin.Range.rangeSize 0 j 1=(j.toNat:Int):=by rw[rangeSize_one];split <;> omega
  refine call_list_range (I.ok.hd hc) (IsRange.new ..) (small_one (by omega) (by omega) (by omega) (by omega)) hz (by omega) fun h' tk acc c' kp hD hI=>?_
  have kp1:∀b o,s1.heap.get? b=some o->h'.get? b=some o:=fun b o e=>kp b o (Heap.get?_push_of_some _ e)
  have rv:Vals ((WM.lowTo j.toNat).map V.int) acc.toList:=vals_low acc.toList _ (by rw[Array.length_toList];exact hI.1) fun i v hi=>hI.2 i v (by rw[<-hi,Array.getElem?_toList])
  have hsz:s1.heap.objs.size<=(s1.heap.push { cls:=.type "range",data:=.fields #[.int 0 s1.toks,.int j t,.int 1 (s1.toks+1)] }).objs.size:=by rw[Heap.size_push];exact Nat.le_succ _
  refine⟨.ref _,_,I1.laid (t':=tk) kp1 hsz (show ObjOk X.prog X.w _ h' _ (.lst ((WM.lowTo j.toNat).map V.int)) from ⟨?_,acc.toList,c',rv,by rw[Array.toArray_toList];exact hD⟩),rfl,q _ (I1.hok.fresh hsz)⟩
  rw[List.length_map,WM.lowTo,List.length_map,List.length_range]
  have:sizeLine=16777216:=rfl
  omega
theorem call_sortedI:CallR X (.builtin "sorted") (fun xs H Q=>∃(p:Addr)(ns:List Int),xs=[.ref p]/\SqL X.K H p (ns.map V.int)/\ns.length<64 /\
 ∀(l:Addr)(ms:List Int),H l=none->ms.Perm ns->ms.Pairwise (· <= ·)->Q (.ref l) (upd H l (.lst (ms.map V.int)))):=by
 intro pins s σ H xs us Q I r h
 obtain⟨p,ns,rfl,hq,h64,q⟩:=h
 obtain⟨u,rfl,rx⟩:=vals1 r
 cases rx
 obtain⟨its,r',pl,hz⟩:=I.list hq
 have hI:IntsAre its ns:=intsAre_of r'
 have hl:=hI.length
 refine SortT.sorted_list (O:=intO) (key:=fun i=>ns.getD i 0) (κ:=oneType') pl.isList (by omega) (fun h2 s' a fa kp=>asks_ints hI h2) fun D h' out c pt hD kp ho=>?_
 obtain⟨ms,hp,hr,rz,hlz⟩:=put_ints hI pt
 refine⟨.ref D,_,sorted_fin (t':=s.toks) I hD kp ho rz ?_,rfl,q D ms (I.hok.fresh hD) hp hr⟩
 have:sizeLine=16777216:=rfl
 rw[List.length_map]
 omega
end
section
variable {X:Cx}{pl:List (Addr×Obj)}{N':List Str}{sc:Scope}{fp:List Addr}{s3:Shared}{H3:Hp}
theorem call_len_seqC:CallR (cxComp X pl N' sc fp s3 H3) (.builtin "len") (fun xs H Q=>∃p ys,xs=[.ref p]/\(SqL X.K H p ys\/SqT X.K H p ys)/\Q (.int ys.length) H):=call_len_seq
end
section
variable {X:Cx}
def rNeE (K:PySem.W.Frag):R2:=fun x y H Q=>∃(a b:Addr)(xs:List V),x = .ref a/\y = .ref b/\SqL K H a xs/\SqL K H b []/\Q (.bl (!xs.isEmpty)) H
def rEqE (K:PySem.W.Frag):R2:=fun x y H Q=>∃(a b:Addr)(xs:List V),x = .ref a/\y = .ref b/\SqL K H a xs/\SqL K H b []/\Q (.bl xs.isEmpty) H
theorem op_neE (hu:X.A.units<cLine):OpR X (compareOp .NotEq) (rNeE X.K):=by
 intro pins s σ H x y v u Q I rx ry h
 obtain⟨a,b,xs,rfl,rfl,ha,hb,q⟩:=h
 cases rx
 cases ry
 obtain⟨its,r,pl,hz⟩:=I.list ha
 obtain⟨its2,r2,pl2,hz2⟩:=I.list hb
 have l1:=r.length
 have l2:=r2.length
 cases xs with
 | nil=>
  refine PySem.EqBoolInt.of_rcne (SeqAt.RcNeAt.lists (e:=fun _=>true) pl.isList pl2.isList (by rw[List.size_toArray,List.size_toArray,<-l1,<-l2]) hu (fun j a b=>absurd a (by rw[List.size_toArray,<-l1];exact Nat.not_lt_zero _))) ⟨.bl _,H,I,rfl,?_⟩
  rw[List.size_toArray,<-l1]
  exact q
 | cons x xs=>
  refine PySem.EqBoolInt.of_rcne (SeqAt.RcNeAt.lists_lengths pl.isList pl2.isList (by rw[List.size_toArray,List.size_toArray,<-l1,<-l2];rfl) hu) ⟨.bl _,H,I,rfl,?_⟩
  exact q
theorem op_eqE (hu:X.A.units<cLine):OpR X (compareOp .Eq) (rEqE X.K):=by
 intro pins s σ H x y v u Q I rx ry h
 obtain⟨a,b,xs,rfl,rfl,ha,hb,q⟩:=h
 cases rx
 cases ry
 obtain⟨its,r,pl,hz⟩:=I.list ha
 obtain⟨its2,r2,pl2,hz2⟩:=I.list hb
 have l1:=r.length
 have l2:=r2.length
 cases xs with
 | nil=>
  refine SeqAt.eq_listAt (e:=fun _=>true) pl.isList pl2.isList (by rw[List.size_toArray,List.size_toArray,<-l1,<-l2]) hu (fun j a b=>absurd a (by rw[List.size_toArray,<-l1];exact Nat.not_lt_zero _)) ⟨.bl _,H,I,rfl,?_⟩
  rw[List.size_toArray,<-l1]
  exact q
 | cons x xs=>
  refine SeqAt.eq_list_lengthsAt pl.isList pl2.isList (by rw[List.size_toArray,List.size_toArray,<-l1,<-l2];rfl) hu ⟨.bl _,H,I,rfl,?_⟩
  exact q
end
end L2
namespace L2
open PySem PyProof.Rows
def Kp (s0:Shared)(h:Heap):Prop:=∀b o,s0.heap.get? b=some o->h.get? b=some o
section
variable {prog:Program}{w:World}{A:Around}{s0:Shared}{I S:Addr}{its:List Value}{itAt:Nat->Heap->Prop}
theorem Kp.but {h h':Heap}(K:Kp s0 h)(hI:s0.heap.objs.size<=I)(k:∀b o,b≠I->h.get? b=some o->h'.get? b=some o):Kp s0 h':=fun b o e=>
 k b o (Nat.ne_of_lt (Nat.lt_of_lt_of_le (Heap.lt_size e) hI)) (K b o e)
end
end L2
namespace L2
open PySem PyProof.Rows
theorem wpAny_of_eq {α:Type}{M:Model}{A:Around}{E:Value->Shared->Prop}{s:Shared}{m m':Sem α}{Q:α->Shared->Prop}(e:m=m')(h:wpAny M A m' Q E s):wpAny M A m Q E s:=by subst e;exact h
section
variable {X:Cx}
end
end L2
namespace L2
open PySem PyProof.Rows
section
variable {prog:Program}{w:World}{A:Around}{s0:Shared}{D I l:Addr}{its:List Value}{qs:List (Key×Value)}
end
section
variable {X:Cx}
end
end L2
namespace L2
open PySem PySem.Spec PyProof.Rows
section
variable {X:Cx}
theorem pe_tyN {x:Str}{T:String}{pos:Pos}(hg:Gl X x)(hm:X.mg x=none)(hv:bootBuiltins x=some (.type T))(hn:x ≠ "__name__" := by decide) (hdb:(x==("__debug__" : Str))=false:=by decide):PE X (.Name x pos) (tC (.ty T)):=
 fun pins s σ H Q I h=>ld_blt I hg hm hv ⟨.ty T,H,I,rfl,h⟩ hn hdb
theorem call_isinst:CallR X (.builtin "isinstance") (fun xs H Q=>∃x T t b,xs=[x,.ty T]/\TyOf X.K H x t/\PySem.W.kitOne X.K t (.type T)=some b/\Q (.bl b) H):=by
 intro pins s σ H xs us Q I r h
 obtain⟨x,T,t,b,rfl,ty,e,q⟩:=h
 obtain⟨u,w',rfl,rx,rT⟩:=vals2 r
 cases (show w'=Value.type T from rT)
 exact isinst_ok I rx ty e fun tk=>⟨.bl b,H,I.tok tk,rfl,q⟩
theorem ps_no {st:Stmt}:PS X st (fun _ _ _=>False):=fun _ _ _ _ _ _ h=>h.elim
end
section
variable {prog:Program}{w:World}{A:Around}{s0:Shared}{I l:Addr}{bs:List Bool}
theorem all_loop {R:Result->Shared->Prop}(hA:A.handled=none)(hI:s0.heap.objs.size<=I)(hl:s0.heap.IsList l (bs.map Value.bool).toArray)
 (hR:∀(h:Heap)(tk:Nat),Kp s0 h->R (.ok (.ret (.bool (bs.all id)))) { s0 with heap:=h,toks:=tk }) :
 ∀(r j:Nat)(h:Heap)(tk:Nat),bs.length-j=r->j<=bs.length->Kp s0 h->h.IsListIter I l j->(bs.take j).all id=true ->
  codeAny (model prog w) A (.builtin "all.loop" { pos:=[.ref I] }) R { s0 with heap:=h,toks:=tk }:=by
 have hl':∀h,Kp s0 h->h.IsList l (bs.map Value.bool).toArray:=fun h K=>by
  obtain⟨o,ho,hc⟩:=hl
  exact⟨o,K _ _ ho,hc⟩
 intro r
 induction r with
 | zero=>
  intro j h tk hr hj K hit ha
  refine codeAny_builtin PySem.F.entry_all_loop ?_
  unfold Builtin.«all.loop»
  refine wpAny_bind (wpAny_pyNext_list_end hA hit (hl' h K) (by rw[List.getElem?_toArray];exact List.getElem?_eq_none (by rw[List.length_map];omega)) fun h' b=>?_)
  refine wpAny_bind (wpAny_rule (wpAny_pure ?_))
  rw[List.take_of_length_le (by omega)] at ha
  have:=hR h' tk (K.but hI b)
  rw[ha] at this
  exact this
 | succ r ih=>
  intro j h tk hr hj K hit ha
  obtain⟨x,hx⟩:∃x,bs[j]? = some x:=⟨_,List.getElem?_eq_getElem (by omega)⟩
  refine codeAny_builtin PySem.F.entry_all_loop ?_
  unfold Builtin.«all.loop»
  refine wpAny_bind (wpAny_pyNext_list_item hit (hl' h K) (x:=.bool x) (by rw[List.getElem?_toArray,List.getElem?_map,hx];rfl) fun h' hit' b=>?_)
  have K':Kp s0 h':=K.but hI fun c o hc e=>by rw[b.2 c hc];exact e
  refine wpAny_bind (wpAny_holding (wpAny_truthy_bool (wpAny_bind (wpAny_letGo ?_))))
  cases x with
  | true=>
   refine wpAny_pure ⟨rfl,?_⟩
   exact ih (j+1) h' tk (by omega) (by omega) K' hit' (by rw[List.take_add_one,hx,List.all_append,ha];rfl)
  | false=>
   refine wpAny_bind (wpAny_rule (wpAny_pure ?_))
   have e:bs.all id=false:=by
    cases z:bs.all id with
    | false=>rfl
    | true=>have:=List.all_eq_true.mp z false (List.mem_of_getElem? hx);simp at this
   have:=hR h' tk K'
   rw[e] at this
   exact this
end
section
variable {X:Cx}
theorem bools_of:∀{bs:List Bool}{its:List Value},Vals (bs.map V.bl) its->its=bs.map Value.bool
 | [],[],_=>rfl
 | b::bs,u::its,h=>by
  cases h with
  | cons h1 h2=>rw[List.map_cons,<-bools_of h2,show u=Value.bool b from h1]
 | [],_::_,h=>by cases h
 | _::_,[],h=>by cases h
theorem call_all (hc:X.calm=true):CallR X (.builtin "all") (fun xs H Q=>∃(p:Addr)(bs:List Bool),xs=[.ref p]/\SqL X.K H p (bs.map V.bl)/\Q (.bl (bs.all id)) H):=by
 intro pins s σ H xs us Q I r h
 obtain⟨p,bs,rfl,hq,q⟩:=h
 obtain⟨u,rfl,rx⟩:=vals1 r
 cases rx
 obtain⟨its,r',pl,hz⟩:=I.list hq
 rw[bools_of r'] at pl
 refine wpAny_call (codeAny_call_builtin PySem.F.plain_all PySem.F.entry_all (wpAny_of_eq (m':=pure ()) rfl (wpAny_pure ?_)))
 unfold Builtin.all
 refine wpAny_bind (wpAny_of_eq (m':=pure (Value.ref p)) rfl (wpAny_pure (wpAny_bind (wpAny_pyIter_list pl.isList (wpAny_pure ⟨rfl,?_⟩)))))
 refine all_loop (s0:=s) (l:=p) (bs:=bs) (I.ok.hd hc) (Nat.le_refl _) pl.isList ?_ bs.length 0 _ s.toks rfl (Nat.zero_le _) (fun b o e=>Heap.get?_push_of_some _ e) ?_ rfl
 . exact fun h tk K=>⟨.bl _,H,I.kept K,rfl,q⟩
 . exact⟨_,Heap.get?_push_size _ rfl,rfl,rfl⟩
end
end L2
namespace L2
open PySem PySem.Spec PyProof.Rows
end L2
namespace L2
open PySem PySem.Spec PyProof.Rows
section
variable {X:Cx}
variable {o e:Expr}{es:List Expr}{to:TE}{t:TA}{name:Str}{apos cpos:Pos}{id:String}{r:V->List V->Hp->VK->Prop}
end
section
variable {prog:Program}{w:World}{A:Around}{E:Value->Shared->Prop}
end
section
variable {X:Cx}
end
section
variable {X:Cx}{pl:List (Addr×Obj)}{N':List Str}{sc:Scope}{fp:List Addr}{s3:Shared}{H3:Hp}
end
end L2
namespace L2
open PySem PySem.Spec PyProof.Rows
section
variable {X:Cx}
end
end L2
namespace L2
open PySem PySem.Spec PyProof.Rows
section
variable {prog:Program}{w:World}{A:Around}{s:Shared}{l:Addr}{its:List Value}{ns:List Int}{v:Int}{tv:Tok}
end
section
variable {X:Cx}
end
end L2
namespace WM
open L2
theorem filt_step {α:Type}{l:List α}{i:Nat}{x:α}(p:α->Bool)(h:l[i]? = some x):(l.take (i+1)).filter p=(l.take i).filter p++(if p x=true then [x] else []):=by
 rw[List.take_add_one,h,List.filter_append]
 show _++List.filter p [x]=_
 rw[List.filter_cons]
 rfl
end WM
namespace L2
open PySem PyProof.Rows
end L2
namespace WM
end WM
namespace L2
open PySem PySem.Spec PyProof.Rows
section
variable {X:Cx}
end
end L2
namespace SortT
open PySem PySem.W PySem.Calls PyProof.Rows
section
variable {prog:Program}{w:World}{A:Around}{E:Value->Shared->Prop}{s:Shared}
theorem gather_tup {t:Addr}{us:List Value}{Q:List Value->Shared->Prop}(ht:IsTup s.heap t us.toArray)(hz:us.length<=sizeLine)
 (q:Q us { s with heap:=(s.heap.push (seqObj "list" #[] 0)).update s.heap.objs.size (Obj.mapSeq (· ++ us.toArray)) }):wpAny (model prog w) A (collect (.ref t)) Q E s:=by
 obtain⟨ob,hob,cob,m,dob⟩:=ht
 have hob':(s.heap.push (seqObj "list" #[] 0)).get? t=some ob:=Heap.get?_push_of_some _ hob
 have new:(s.heap.push (seqObj "list" #[] 0)).get? s.heap.objs.size=some (seqObj "list" #[] 0):=Heap.get?_push_size _ rfl
 unfold collect
 refine wpAny_bind (wpAny_runValue (codeAny_builtin entry_proto_collect' (wpAny_bind (wpAny_newList (wpAny_pure ⟨Code.quiet_builtin _ (by decide +kernel),codeAny_builtin entry_list_iadd' ?_⟩)))))
 show wpAny _ _ (Builtin.List.listExtendWith _ (.ref t) _) _ _ _
 unfold Builtin.List.listExtendWith
 refine wpAny_bind (wpAny_typeOf (T := "tuple") ⟨ob,hob',cob⟩ ?_)
 have yes:(Value.type "tuple" == Value.type "tuple")=true:=rfl
 rw[if_pos (by rw[yes];simp)]
 refine wpAny_bind (listItems_at hob' dob (wpAny_bind (listItems_at (xs:=#[]) (n:=0) new rfl ?_)))
 rw[if_neg (by simp)]
 refine wpAny_bind (listUpdate_at (xs:=#[]) (n:=0) new rfl (wpAny_pure ?_) (Nat.zero_le _) (by simp;omega))
 refine wpAny_bind (wpAny_load (get?_update_seq new _) ?_)
 have e:((#[]:Array Value)++us.toArray).toList=us:=by simp
 show wpAny _ _ (pure ((#[]:Array Value)++us.toArray).toList) Q E _
 rw[e]
 exact wpAny_pure q
theorem sorted_tup {t:Addr}{us:List Value}{Q:Value->Shared->Prop}{O:KeyOrd}{key:Nat->O.α}{κ:SortKind}(ht:IsTup s.heap t us.toArray)(h64:us.length<64)
 (ask:2<=us.length->∀(s':Shared)(a:Addr),(∀b o,s.heap.get? b=some o->b≠a)->(∀b o,s.heap.get? b=some o->s'.heap.get? b=some o)->Asks prog w A.in1.in1 s' a us key κ)
 (h:∀(D:Addr)(h':Heap)(out:List Nat)(c:Nat),Put key us.length out->s.heap.objs.size<=D->(∀b o,s.heap.get? b=some o->h'.get? b=some o) ->
  h'.get? D=some (seqObj "list" (out.map fun i=>us.getD i Value.none).toArray c)->Q (.ref D) { s with heap:=h' }) :
 wpAny (model prog w) A (call (.builtin "sorted") [.ref t]) Q E s:=by
 refine Calls.call_function_entry kind_sorted plain_sorted entry_sorted (args_sorted1 _) ?_
 unfold Builtin.«sorted»
 refine wpAny_bind (m:=checkCount "sorted" 1 1 _) (wpAny_pure (wpAny_bind (gather_tup ht (by rw[sizeLine_eq];omega) (wpAny_bind (wpAny_newList ?_ (by rw[sizeLine_eq];omega))))))
 generalize hh1:(s.heap.push (seqObj "list" #[] 0)).update s.heap.objs.size (Obj.mapSeq (· ++ us.toArray))=h1
 have hsz:h1.objs.size=s.heap.objs.size+1:=by rw[<-hh1,Heap.size_update,size_push']
 have hk:∀b o,s.heap.get? b=some o->h1.get? b=some o:=fun b o z=>by
  rw[<-hh1,Heap.get?_update_ne _ _ _ _ (Nat.ne_of_lt (Heap.lt_size z)),Heap.get?_push_ne _ _ _ (Nat.ne_of_lt (Heap.lt_size z))]
  exact z
 have hoL:(h1.push (seqObj "list" us.toArray 0)).get? h1.objs.size=some (seqObj "list" us.toArray 0):=Heap.get?_push_size _ rfl
 have keep1:∀b o,h1.get? b=some o->(h1.push (seqObj "list" us.toArray 0)).get? b=some o:=fun b o q=>Heap.get?_push_of_some _ q
 refine wpAny_bind (wpAny_holding (wpAny_call_entry slot_list_sort ⟨_,hoL,rfl⟩ entry_list_sort (list_sort (O:=O) (key:=key) (κ:=κ) hoL h64
  (fun h2=>ask h2 _ _ (fun b o e=>Nat.ne_of_lt (Heap.lt_size (hk b o e))) fun b o e=>keep1 b o (hk b o e)) fun out hp=>⟨_,rfl,?_⟩) (args_list_sort _)))
 refine wpAny_pure ⟨_,rfl,?_⟩
 obtain⟨c,hc⟩:=sortedHeap_at (vs:=us) (out:=(out.map fun i=>us.getD i Value.none).toArray) hoL
 refine h _ _ out c hp (by rw[hsz];exact Nat.le_succ _) (fun b o e=>?_) hc
 have hb:b<h1.objs.size:=Heap.lt_size (hk b o e)
 rw[sortedHeap_old (Nat.ne_of_lt hb) (by rw[Heap.size_push];exact Nat.lt_succ_of_lt hb)]
 exact keep1 b o (hk b o e)
end
end SortT
namespace L2
open PySem PySem.Spec PyProof.Rows
section
variable {X:Cx}
end
section
variable {X:Cx}{pl:List (Addr×Obj)}{N':List Str}{sc:Scope}{fp:List Addr}{s3:Shared}{H3:Hp}
end
end L2
namespace L2
open PySem PySem.Spec PyProof.Rows
section
variable {X:Cx}
def rCatA (K:PySem.W.Frag):R2:=fun x y H Q=>∃a b xs ys,x = .ref a/\y = .ref b/\SqT K H a xs/\SqT K H b ys/\xs.length+ys.length<=sizeLine /\
 (xs=[]->Q (.ref b) H)/\(xs≠[]->ys=[]->Q (.ref a) H)/\(xs≠[]->ys≠[]->∀p,H p=none->Q (.ref p) (upd H p (.tup (xs++ys))))
theorem cat_nil {prog:Program}{w:World}{A:Around}{E:Value->Shared->Prop}{s:Shared}{t b:Addr}{ws:List Value}{Q:Value->Shared->Prop}(ht:IsTup s.heap t #[])(hb:IsTup s.heap b ws.toArray)
 (h:Q (.ref b) s):wpAny (model prog w) A (binaryOp .Add (.ref t) (.ref b)) Q E s:=by
 obtain⟨⟨cls,dd,data,sl⟩,ho,hc,n,hd⟩:=id ht
 obtain⟨⟨cls2,dd2,data2,sl2⟩,ho2,hc2,n2,hd2⟩:=id hb
 simp only at hc hd hc2 hd2
 subst hc hd hc2 hd2
 exact concat_meets ⟨_,ho,rfl⟩ ⟨_,ho2,rfl⟩ noFill_tuple_add seq_tuple_add PySem.F.slot_tuple_add PySem.F.entry_tuple_add (PySem.F.args_tuple_add_2 _ _)
  (tuple_addW0 t b #[] ws.toArray n n2 dd dd2 sl sl2 rfl) ⟨ho,ho2,h⟩
theorem op_catA:OpR X (binaryOp .Add) (rCatA X.K):=by
 intro pins s σ H x y v u Q I rx ry h
 obtain⟨a,b,xs,ys,rfl,rfl,ha,hb,hz,q0,q1,q2⟩:=h
 by_cases hx:xs=[]
 . subst hx
   cases rx
   cases ry
   obtain⟨its,r1,p1,_⟩:=I.tuple ha
   obtain⟨its2,r2,p2,_⟩:=I.tuple hb
   cases r1
   exact cat_nil p1 p2 ⟨.ref b,H,I,rfl,q0 rfl⟩
 . exact op_catT pins s σ H _ _ v u Q I rx ry ⟨a,b,xs,ys,rfl,rfl,ha,hb,hx,hz,q1 hx,q2 hx⟩
end
end L2
namespace L2
open PySem PySem.Spec PyProof.Rows
section
variable {X:Cx}
end
end L2
namespace HT
open PySem PySem.Spec PyProof.Rows
section
open PySem.SeqAt
open PySem.AutoSeq1 (wpAny_loadPart')
open PySem.MeetsSeq PySem.MeetsSeq2 PySem.MeetsSeq3
end
end HT
namespace L2
open PySem PySem.Spec PyProof.Rows
section
variable {X:Cx}
end
end L2
namespace HT
open PySem PySem.Spec PyProof.Rows
section
variable {prog:Program}{w:World}{A:Around}{E:Value->Shared->Prop}{s:Shared}
theorem fm_congr {α β:Type}{f g:α->Option β}:∀{l:List α},(∀m∈l,f m=g m)->l.filterMap f=l.filterMap g
 | [],_=>rfl
 | a::l,h=>by
  have ih:=fm_congr (l:=l) fun m hm=>h m (List.mem_cons_of_mem _ hm)
  rw[List.filterMap_cons,List.filterMap_cons,h a List.mem_cons_self,ih]
end
end HT
namespace L2
open PySem PySem.Spec PyProof.Rows
section
variable {X:Cx}{e:Expr}{te:TE}{pos p2 p3 p4:Pos}
theorem vals_reverse {xs:List V}{us:List Value}(h:Vals xs us):Vals xs.reverse us.reverse:=by
 induction h with
 | nil=>exact .nil
 | cons r _ ih=>rw[List.reverse_cons,List.reverse_cons];exact ih.append (.cons r .nil)
end
end L2
namespace L2
open PySem PySem.Spec PyProof.Rows
section
variable {X:Cx}{pins:List (Addr×Obj)}{σ:St}{H:Hp}{s:Shared}{h':Heap}
theorem Inv.turnedLaid {t':Nat}{fp:List Addr}{a:Addr}{o:HO}(I:Inv X pins σ H s)(hf:∀b∈fp,FpOk X pins H b)(k:∀b u,b∉fp->s.heap.get? b=some u->h'.get? b=some u)(hp:s.heap.objs.size<=a)
 (new:ObjOk X.prog X.w (upd H a o) h' a o):Inv X pins σ (upd H a o) { s with heap:=h',toks:=t' }:=by
 have fr:H a=none:=I.hok.fresh hp
 have nfp:∀b u,H b=some u->b∉fp:=fun b u e z=>by rw[(hf b z).1] at e;cases e
 have na:∀b u,H b=some u->b≠a:=fun b u e z=>by rw[z,fr] at e;cases e
 refine I.step (g':=s.gens) (d':=s.drawn) (ch:=fp) (fun b hb=>?_) (fun b u _ _ hc e _=>k b u hc e) (fun b u _ _ hc e _=>⟨u.slots,k b u hc e⟩) (fun b u hc e n=>?_) (fun b u hc e=>⟨u,k b u hc e⟩)
  (fun b xs e=>by rw[upd_ne (na b _ e)];exact e) (fun b u w e=>by rw[upd_ne (na b _ e)];exact e) (fun b ps e=>⟨#[],by rw[upd_ne (na b _ e),e];simp⟩) (fun m hm=>?_) (fun b u e=>?_) I.bare
 . obtain⟨f0,f1,f2,f3,f4,f5⟩:=hf b hb
   exact⟨f3,f1,f4,f5⟩
 . rw[upd_ne (Nat.ne_of_lt (Nat.lt_of_lt_of_le (Heap.lt_size e) hp))]
   exact n
 . obtain⟨u,es,ep,ho,r⟩:=hm
   exact⟨u,es,ep,k _ u (fun z=>(hf _ z).2.1 rfl) ho,r⟩
 . by_cases z:b=a
   . subst z
     rw[upd_same] at e
     cases e
     exact new
   . rw[upd_ne z] at e
     refine (I.hok b u e).stay (fun c v hc q=>k c v ?_ q) (fun c q=>by rw[upd_ne (na c _ q)];exact q) fun c xs q=>by rw[upd_ne (na c _ q)];exact q
     rcases hc with z | z
     . rw[z];exact nfp b u e
     . exact nfp c _ z
end
def Itn (K:PySem.W.Frag)(a:Addr):It:=
 ⟨fun i H=>∃xs x,SqL K H a xs/\xs[i]? = some x,fun i H x H'=>∃T v,x = .ref T/\H T=none/\H'=upd H T (.tup [.int i,v])/\∀xs,SqL K H a xs->xs[i]? = some v,fun i H=>∃xs,SqL K H a xs/\xs.length<=i⟩
theorem turn_enum {P:Program}{w:World}{K:PySem.W.Frag}{elts:List Expr} {x1} {tp:Pos}(a e it:Addr):Turn P w K (.Tuple elts x1 tp) (Itn K a) [e,it] e (fun i h=>(∃old,IsEnum h e it (i:Nat) old)/\h.IsListIter it a i/\e≠it) where
 mem:=by simp
 obj:=fun i h st b hb=>by
  obtain⟨⟨old,he⟩,⟨o,e1,c,d⟩,_⟩:=st
  rcases List.mem_cons.mp hb with rfl | hb
  . exact⟨_,he,fun v z=>by cases z⟩
  . have e2:b=it:=by simpa using hb
    subst e2
    exact⟨o,e1,fun v z=>by rw[d] at z;cases z⟩
 keep:=fun i h h' st k=>by
  obtain⟨⟨old,he⟩,hit,ne⟩:=st
  exact⟨⟨old,k e (by simp) _ he⟩,hit.at fun o x=>k it (by simp) o x,ne⟩
 item:=by
  intro X hP hw hK hc i pins s σ H E I hf st hg
  subst hP hw hK
  obtain⟨⟨old,he⟩,hit,ne⟩:=st
  obtain⟨xs,x,hq,hx⟩:=hg
  obtain⟨its,rv,p,hz⟩:=I.list hq
  obtain⟨u,hu,ru⟩:=rv.get hx
  have elt:e<s.heap.objs.size:=Heap.lt_size he
  have ilt:it<s.heap.objs.size:=by obtain⟨_,q,_⟩:=id hit;exact Heap.lt_size q
  refine wpAny_pyNext_enum_item he hit p.isList (x:=u) (by simpa using hu) ne fun h' heo hit' hT hsz hk=>?_
  refine⟨_,rfl,wpAny_letOwnedTupleGo_enum heo fun h2 he2 hs2=>?_⟩
  have hT2:h2.get? s.heap.objs.size=some { cls:=.type "tuple",data:=.seq #[.int i s.toks,u] }:=(hs2.2 _ (Nat.ne_of_gt elt)).trans hT
  refine⟨.ref s.heap.objs.size,upd H s.heap.objs.size (.tup [.int i,x]),I.turnedLaid (t':=s.toks+1) (fp:=[e,it]) hf (fun b o hb q=>?_) (Nat.le_refl _) ?_,rfl,⟨_,x,rfl,I.hok.fresh (Nat.le_refl _),rfl,fun ys hy=>by rw[I.list_inj hy hq];exact hx⟩,⟨⟨u,?_⟩,?_,ne⟩,fun b hb=>?_⟩
  . exact (hs2.2 b fun z=>hb (by simp[z])).trans (hk b o (fun z=>hb (by simp[z])) (fun z=>hb (by simp[z])) q)
  . exact⟨⟨by show 2<=sizeLine;decide,_,hT2,rfl⟩,[.int i s.toks,u],.cons ⟨_,rfl⟩ (.cons ru .nil),⟨_,hT2,rfl,_,rfl⟩⟩
  . have:=he2
    rwa [show ((i:Nat):Int)+1=((i+1:Nat):Int) by omega] at this
  . exact hit'.at fun o q=>(hs2.2 it (Ne.symm ne)).trans q
  . rcases List.mem_cons.mp hb with rfl | hb
    . rw[upd_ne (Nat.ne_of_lt elt)];exact (hf _ (by simp)).1
    . have e2:b=it:=by simpa using hb
      subst e2
      rw[upd_ne (Nat.ne_of_lt ilt)];exact (hf _ (by simp)).1
 done:=by
  intro X hP hw hK hc i pins s σ H E I hf st hg
  subst hP hw hK
  obtain⟨⟨old,he⟩,hit,ne⟩:=st
  obtain⟨xs,hq,hx⟩:=hg
  obtain⟨its,rv,p,hz⟩:=I.list hq
  obtain⟨f0,f1,f2,f3,f4,f5⟩:=hf it (by simp)
  have hl:=rv.length
  exact wpAny_pyNext_enum_end (I.ok.hd hc) he hit p.isList (by simp;omega) fun h' eb=>⟨rfl,I.turned (t':=s.toks) (fun b o hb e=>eb b o hb e) f0 f1 f3 f4 f5⟩
 self:=fun _ _ _ _ _ st h=>by
  obtain⟨⟨old,he⟩,_⟩:=st
  exact wpAny_pyIter_enum he h
section
variable {X:Cx}
def iEnum (K:PySem.W.Frag)(ta:TA):TI:=fun σ H R=>ta σ H fun vs H1=>∃a,vs=[.ref a]/\(∃xs,SqL K H1 a xs)/\R (Itn K a) H1
theorem pi_enum {elts:List Expr} {x1} {tp:Pos}{a:Expr}{ta:TA}{p pos:Pos}(hg:Gl X "enumerate") (hm:X.mg "enumerate" = none) (ha:PA X [a] ta)(hs:starEach [a] X.env=[(false,eval a X.env)]:=by rfl):PI X (.Tuple elts x1 tp) (.Call (.Name "enumerate" p) [a] [] pos) (iEnum X.K ta):=by
 intro pins s σ H R I h
 refine Call_ (ld_blt I hg hm boot_enumerate (PyProof.Rows.callWith_type1 (thn (ha pos pins s σ H _ I h) fun us s1 ⟨vs,H1,I1,r1,q1⟩=>?_) hs rfl))
 obtain⟨l,e,⟨xs,hq⟩,q⟩:=q1
 subst e
 obtain⟨u,rfl,rx⟩:=vals1 r1
 cases rx
 obtain⟨its,rv,pl,hz⟩:=I1.list hq
 refine call_enumerate_list pl.isList fun h' he hit hsz hk=>?_
 refine wpAny_pyIter_enum he ?_
 refine⟨s1.heap.objs.size+1,[s1.heap.objs.size+1,s1.heap.objs.size],_,_,H1,rfl,I1.kept (t':=s1.toks) hk,turn_enum l _ _,⟨⟨_,he⟩,hit,Nat.succ_ne_self _⟩,fun b hb=>?_,q⟩
 rcases List.mem_cons.mp hb with rfl | hb
 . exact I1.fpOk (Nat.le_succ _) (I1.hok.fresh (Nat.le_succ _))
 . have e2:b=s1.heap.objs.size:=by simpa using hb
   subst e2
   exact I1.fpOk (Nat.le_refl _) (I1.hok.fresh (Nat.le_refl _))
end
theorem for_enum {K:PySem.W.Frag}{a:Addr}{xs:List V}{g:TG}{tb:TS}{D:Ends}{σ:St}{H:Hp}(Pv:Nat->St->Hp->Prop)(h0:Pv 0 σ H)(hl:∀i σ H,i<=xs.length->Pv i σ H->SqL K H a xs)
 (hs:∀i x σ H T,xs[i]? = some x->Pv i σ H->H T=none->g (.ref T) σ (upd H T (.tup [.int i,x])) fun σ2 H2=>tb { D with nx:=Pv (i+1),ct:=Pv (i+1),bk:=D.nx } σ2 H2)(hd:∀ σ H,Pv xs.length σ H->D.nx σ H) :
 ∃W:Nat->Nat->St->Hp->Prop,(∃m,W 0 m σ H)/\∀i m σ H,W i m σ H ->
  ((Itn K a).stop i H/\D.nx σ H)\/((Itn K a).go i H/\∃N:St->Hp->Prop,(∀ σ' H',N σ' H'->∃m',m'<m/\W (i+1) m' σ' H')/\∀x H',(Itn K a).yld i H x H'->g x σ H' fun σ2 H2=>tb { D with nx:=N,ct:=N,bk:=D.nx } σ2 H2):=by
 refine⟨fun i m σ H=>i<=xs.length/\m=xs.length-i/\Pv i σ H,⟨_,Nat.zero_le _,rfl,h0⟩,fun i m σ H h=>?_⟩
 obtain⟨hi,rfl,hp⟩:=h
 by_cases c:i<xs.length
 . refine .inr ⟨⟨xs,xs[i],hl i σ H hi hp,List.getElem?_eq_getElem c⟩,Pv (i+1),fun σ' H' hp'=>⟨xs.length-(i+1),by omega,c,rfl,hp'⟩,fun x H' y=>?_⟩
   obtain⟨T,v,rfl,hT,rfl,hv⟩:=y
   exact hs i v σ H T (hv xs (hl i σ H hi hp)) hp hT
 . have e:i=xs.length:=by omega
   subst e
   exact .inl ⟨⟨xs,hl _ σ H hi hp,Nat.le_refl _⟩,hd σ H hp⟩
end L2
namespace L2
open PySem PySem.Spec PyProof.Rows
section
variable {X:Cx}
theorem vals_ty:∀(Ts:List String)(its:List Value),Vals (Ts.map V.ty) its->its=Ts.map Value.type:=by
 intro Ts
 induction Ts with
 | nil=>intro its h;cases h;rfl
 | cons a r ih=>
  intro its h
  cases h with
  | cons h1 h2=>rw[ih _ h2,show _=Value.type a from h1];rfl
theorem call_isinstTs:CallR X (.builtin "isinstance") (fun xs H Q=>∃(x:V)(tp:Addr)(Ts:List String)(t:Value)(b:Bool),xs=[x,.ref tp]/\H tp=some (.tup (Ts.map V.ty))/\TyOf X.K H x t/\PySem.W.kitAny X.K t (Ts.map Value.type)=some b/\Q (.bl b) H):=by
 intro pins s σ H xs us Q I r h
 obtain⟨x,tp,Ts,t,b,rfl,ht,ty,e,q⟩:=h
 obtain⟨u,w',rfl,rx,rT⟩:=vals2 r
 cases (show w'=Value.ref tp from rT)
 obtain⟨⟨z,o2,e2,d2⟩,its,rv,ob,e3,c3,n3,s3⟩:=(show ObjOk X.prog X.w H s.heap tp (.tup (Ts.map V.ty)) from I.hok tp _ ht)
 have hits:=vals_ty Ts its rv
 obtain⟨c',d',da',sl'⟩:=ob
 simp only at c3 s3
 subst c3 s3 hits
 have h:∀tk,EP X pins σ Q (.bool b) { s with toks:=tk }:=fun tk=>⟨.bl b,H,I.tok tk,rfl,q⟩
 cases ty with
 | non=>cases (show u=Value.none from rx);exact PySem.W.kia_tup PySem.W.kitx_none I.kIn True.intro e3 e (fun z=>nomatch z) h
 | bl y=>cases (show u=Value.bool y from rx);exact PySem.W.kia_tup PySem.W.kitx_bool I.kIn True.intro e3 e (fun z=>nomatch z) h
 | int i=>obtain⟨t,q⟩:=(show ∃t,u=Value.int i t from rx);cases q;exact PySem.W.kia_tup PySem.W.kitx_int I.kIn True.intro e3 e (fun z=>nomatch z) h
 | str y=>obtain⟨t,q⟩:=(show ∃t,u=Value.str y t from rx);cases q;exact PySem.W.kia_tup PySem.W.kitx_str I.kIn True.intro e3 e (fun z=>nomatch z) h
 | flt y=>obtain⟨t,q⟩:=(show ∃t,u=Value.float y t from rx);cases q;exact PySem.W.kia_tup PySem.W.kitx_float I.kIn True.intro e3 e (fun z=>nomatch z) h
 | @lst a xs ea=>
  cases (show u=Value.ref a from rx)
  obtain⟨_,_,n,_,h1⟩:=(show ObjOk X.prog X.w H s.heap a (.lst xs) from I.hok a _ ea)
  exact PySem.W.kia_tup PySem.W.kitx_list I.kIn ⟨_,h1,rfl⟩ e3 e (fun z=>nomatch z) h
 | @frz a ob xs ea=>
  cases (show u=Value.ref a from rx)
  obtain⟨_,_,_,n,_,h1⟩:=(show ObjOk X.prog X.w H s.heap a (.frz ob (.lst xs)) from I.hok a _ ea)
  exact PySem.W.kia_tup PySem.W.kitx_list I.kIn ⟨_,h1,rfl⟩ e3 e (fun z=>nomatch z) h
 | @tup a xs ea=>
  cases (show u=Value.ref a from rx)
  obtain⟨_,_,_,p⟩:=(show ObjOk X.prog X.w H s.heap a (.tup xs) from I.hok a _ ea)
  obtain⟨o,h1,h2,_⟩:=p
  exact PySem.W.kia_tup PySem.W.kitx_tuple I.kIn ⟨o,h1,h2⟩ e3 e (fun z=>nomatch z) h
 | @dK a kvs ea=>
  cases (show u=Value.ref a from rx)
  obtain⟨_,_,vs,_,p⟩:=(show ObjOk X.prog X.w H s.heap a (.dK kvs) from I.hok a _ ea)
  obtain⟨o,es,ep,h1,h2,_⟩:=p
  exact PySem.W.kia_tup PySem.W.kitx_dict I.kIn ⟨o,h1,h2.1⟩ e3 e (fun z=>nomatch z) h
 | @dT a kvs ea=>
  cases (show u=Value.ref a from rx)
  obtain⟨_,_,xs,_,o,es,ep,h1,h2,_⟩:=(show ObjOk X.prog X.w H s.heap a (.dT kvs) from I.hok a _ ea)
  exact PySem.W.kia_tup PySem.W.kitx_dict I.kIn ⟨o,h1,h2.1⟩ e3 e (fun z=>nomatch z) h
 | @ins a C dx fs ea cl ha hn htk hm=>
  cases (show u=Value.ref a from rx)
  obtain⟨mA,O,_⟩:=ins_get I.hok ea
  obtain⟨od,J,_⟩:=O.look
  exact PySem.W.kia_tup (PySem.W.kitx_own (cl.get _) cl.hd ha hn htk hm) I.kIn J e3 e (fun z=>nomatch z) h
end
end L2
namespace L2
open PySem PySem.Spec PyProof.Rows
open PySem.AutoSeq1 (wpAny_loadPart')
section
variable {prog:Program}{w:World}{A:Around}{E:Value->Shared->Prop}{s:Shared}
theorem nextOf_tup {it t:Addr}{i:Nat}{items:Array Value}{x:Value}{Q:Value->Shared->Prop}(hi:s.heap.IsTupleIter it t i)(ht:s.heap.IsTuple t items)(hx:items[i]? = some x)
 (hQ:∀h',h'.IsTupleIter it t (i+1)->Heap.SameBut it s.heap h'->Q x { s with heap:=h' }):wpAny (model prog w) A (Builtin.SmallTypes.nextOf (.ref it)) Q E s:=by
 obtain⟨oi,hoi,ci,di⟩:=id hi
 obtain⟨ot,hot,_,nt,dt⟩:=ht
 unfold Builtin.SmallTypes.nextOf
 refine wpAny_bind (wpAny_callSpecial?_slot (name:=Str.ofString "__next__") hi.typeIs PySem.F.slot_tuple_iterator_next (wpAny_call_entry PySem.F.slot_tuple_iterator_next hi.typeIs PySem.F.entry_tuple_iterator_next ?_ (PySem.F.args_tuple_iterator_next_1 _)))
 show wpAny (model prog w) _ (field (.ref it) 0 >>= _) _ _ s;refine wpAny_bind (wpAny_field hoi di (x:=.ref t) rfl ?_)
 show wpAny (model prog w) _ (if (Value.ref t==Value.none)=true then _ else _) _ _ s;rw[if_neg (show ¬ ((Value.ref t==Value.none)=true) from Bool.false_ne_true)]
 show wpAny (model prog w) _ (field (.ref it) 1 >>= _) _ _ s;refine wpAny_bind (wpAny_field hoi di (x:=.int i 0) rfl ?_)
 show wpAny (model prog w) _ (seqItems? (.ref t) >>= _) _ _ s;refine wpAny_bind (wpAny_seqItems hot dt ?_)
 simp only[hx,Int.toNat_natCast]
 refine wpAny_bind (wpAny_setField hoi di (by simp) (wpAny_pure ⟨x,rfl,wpAny_pure (hQ _ ?_ (Heap.SameBut.update ..))⟩))
 refine⟨_,Heap.get?_update_self _ hoi (Obj.isFreed_of_fields (Obj.data_mapFields di _)),(Obj.cls_mapFields ..).trans ci,?_⟩
 rw[Obj.data_mapFields di];simp[rawInt]
theorem endOf_tup {it t:Addr}{i:Nat}{items:Array Value}{Q:Value->Shared->Prop}(hA:A.handled=none)(hi:s.heap.IsTupleIter it t i)(ht:s.heap.IsTuple t items)(hx:items[i]? = none)
 (hE:∀h' e,Heap.ExtBut it s.heap h'->(∃o,h'.get? e=some o/\o.cls = .type "StopIteration")->E (.ref e) { s with heap:=h' }):wpAny (model prog w) A (Builtin.SmallTypes.nextOf (.ref it)) Q E s:=by
 obtain⟨oi,hoi,ci,di⟩:=id hi
 obtain⟨ot,hot,_,nt,dt⟩:=ht
 unfold Builtin.SmallTypes.nextOf
 refine wpAny_bind (wpAny_callSpecial?_slot (name:=Str.ofString "__next__") hi.typeIs PySem.F.slot_tuple_iterator_next (wpAny_call_entry PySem.F.slot_tuple_iterator_next hi.typeIs PySem.F.entry_tuple_iterator_next ?_ (PySem.F.args_tuple_iterator_next_1 _)))
 show wpAny (model prog w) _ (field (.ref it) 0 >>= _) _ _ s;refine wpAny_bind (wpAny_field hoi di (x:=.ref t) rfl ?_)
 show wpAny (model prog w) _ (if (Value.ref t==Value.none)=true then _ else _) _ _ s;rw[if_neg (show ¬ ((Value.ref t==Value.none)=true) from Bool.false_ne_true)]
 show wpAny (model prog w) _ (field (.ref it) 1 >>= _) _ _ s;refine wpAny_bind (wpAny_field hoi di (x:=.int i 0) rfl ?_)
 show wpAny (model prog w) _ (seqItems? (.ref t) >>= _) _ _ s;refine wpAny_bind (wpAny_seqItems hot dt ?_)
 simp only[hx,Int.toNat_natCast]
 refine wpAny_bind (wpAny_rule (wpAny_bind (wpAny_setField hoi di (by simp) ?_)))
 show wpAny (model prog w) _ (newExc (.type "StopIteration") [] >>= _) _ _ _;refine wpAny_bind ?_
 simp only[newTuple,newExc]
 refine wpAny_bind (wpAny_newObj_type ?_ (by size_fits));refine wpAny_bind (m:=firstArgMember _ _) (PySem.wpAny_of_eq (a:=Value.none) (by first | rfl | (simp only[firstArgMember];rfl)) ?_)
 refine wpAny_newObj_type ?_ (by size_fits);simp only[raiseNew];refine wpAny_bind (wpAny_handled ?_)
 first
  | rw[show A.in1.handled=none from hA]
  | rw[hA]
 exact wpAny_bind (wpAny_pure (wpAny_throw (hE _ _ (((Heap.SameBut.update ..).extBut.push _).push _) ⟨_,Heap.get?_push_size _ rfl,rfl⟩)))
end
theorem draws_tup {prog:Program}{w:World}{A:Around}(hA:A.handled=none)(it t:Addr)(hne:t≠it)(items:Array Value) :
 Draws prog w A it [it,t] items.size (fun i v=>items[i]? = some v) (fun i h=>h.IsTupleIter it t i/\h.IsTuple t items) where
 live:=fun _ _ st=>by
  obtain⟨⟨o,ho,_⟩,_⟩:=st
  exact⟨o,ho⟩
 frame:=fun _ h h' st hk=>by
  obtain⟨⟨o,ho,r⟩,o2,ho2,r2⟩:=st
  exact⟨⟨o,hk it (by simp) o ho,r⟩,o2,hk t (by simp) o2 ho2,r2⟩
 item:=fun i s Q E hi st hQ=>nextOf_tup st.1 st.2 (x:=items[i]) (by simp[hi]) fun h' a b=>hQ _ h' s.toks (by simp[hi]) ⟨a,st.2.extBut b.extBut hne⟩ b
 done:=fun s Q E st hE=>endOf_tup hA st.1 st.2 (by simp) hE
section
variable {X:Cx}
end
end L2
namespace L2
open PySem PySem.Spec PyProof.Rows
end L2
namespace L2
open PySem PySem.Spec PyProof.Rows
open PySem.AutoSeq1 (wpAny_loadPart')
theorem Inv.turnedFp {X:Cx}{pins:List (Addr×Obj)}{σ:L2.St}{H:Hp}{s:Shared}{h':Heap}{t':Nat}{fp:List Addr}(I:Inv X pins σ H s)(hf:∀b∈fp,FpOk X pins H b)(k:∀b u,b∉fp->s.heap.get? b=some u->h'.get? b=some u):Inv X pins σ H { s with heap:=h',toks:=t' }:=by
 have nfp:∀b u,H b=some u->b∉fp:=fun b u e z=>by rw[(hf b z).1] at e;cases e
 refine I.step (g':=s.gens) (d':=s.drawn) (ch:=fp) (fun b hb=>?_) (fun b u _ _ hc e _=>k b u hc e) (fun b u _ _ hc e _=>⟨u.slots,k b u hc e⟩) (fun _ _ _ _ n=>n) (fun b u hc e=>⟨u,k b u hc e⟩)
  (fun _ _ e=>e) (fun _ _ _ e=>e) (fun b ps e=>⟨#[],by rw[e];simp⟩) (fun m hm=>?_) (fun b u e=>?_) I.bare
 . obtain⟨f0,f1,f2,f3,f4,f5⟩:=hf b hb
   exact⟨f3,f1,f4,f5⟩
 . obtain⟨u,es,ep,ho,r⟩:=hm
   exact⟨u,es,ep,k _ u (fun z=>(hf _ z).2.1 rfl) ho,r⟩
 . refine (I.hok b u e).stay (fun c v hc q=>k c v ?_ q) (fun _ q=>q) fun _ _ q=>q
   rcases hc with z | z
   . rw[z];exact nfp b u e
   . exact nfp c _ z
structure ZAp (zp tI tO i1 i2:Addr)(fp1 fp2:List Addr):Prop where
 zTI:tI≠zp
 zTO:tO≠zp
 z1:i1≠zp
 z2:i2≠zp
 IO:tI≠tO
 I1:tI≠i1
 I2:tI≠i2
 O1:tO≠i1
 O2:tO≠i2
 i12:i1≠i2
 a1:zp∉fp1/\tO∉fp1/\i2∉fp1
 a2:zp∉fp2/\tO∉fp2/\i1∉fp2
section
variable {prog:Program}{w:World}{A:Around}{E:Value->Shared->Prop}{s:Shared}
theorem zipD_item {zp tI tO i1 i2:Addr}{fp1 fp2:List Addr}{n1 n2 k:Nat}{P1 P2:Nat->Value->Prop}{St1 St2:Nat->Heap->Prop}{a b:Value}{Q:Value->Shared->Prop}(D1:Draws prog w A i1 fp1 n1 P1 St1)(D2:Draws prog w A i2 fp2 n2 P2 St2)(Z:ZAp zp tI tO i1 i2 fp1 fp2)
 (gz:IsZip s.heap zp tI tO .none)(gI:IsPair s.heap tI (.ref i1) (.ref i2))(gO:IsPair s.heap tO a b)(s1:St1 k s.heap)(s2:St2 k s.heap)(l1:k<n1)(l2:k<n2)
 (qd:∀x y h' tk,P1 k x->P2 k y->IsZip h' zp tI tO (rawInt s.heap.objs.size)->IsPair h' tO x y->St1 (k+1) h'->St2 (k+1) h'->IsPair h' s.heap.objs.size x y->h'.objs.size=s.heap.objs.size+1 ->
  (∀c o,c≠zp->c≠tO->c≠i1->c≠i2->s.heap.get? c=some o->h'.get? c=some o)->Q (.ref s.heap.objs.size) { s with heap:=h',toks:=tk }) :
 wpAny (model prog w) A (Builtin.«zip.__next__» ⟨[.ref zp],[]⟩) (fun fin s'=>∃v,fin = .done (.ret v)/\Q v s') E s:=by
 obtain⟨hp,g,d,tk₀,os⟩:=s
 show wpAny _ _ (field (.ref zp) 2 >>= _) _ _ _
 refine wpAny_bind (wpAny_field gz rfl (x:=.bool false) rfl ?_)
 show wpAny _ _ (field (.ref zp) 3 >>= _) _ _ _
 refine wpAny_bind (wpAny_field gz rfl (x:=.ref tI) rfl (wpAny_bind (wpAny_seqItems gI rfl ?_)))
 show wpAny _ _ (Builtin.SmallTypes.ownedTupleIsFree (.ref zp) >>= _) _ _ _
 unfold Builtin.SmallTypes.ownedTupleIsFree
 refine wpAny_bind (wpAny_bind (wpAny_field gz rfl (x:=.none) rfl (wpAny_pure ?_)))
 simp only[if_true]
 refine wpAny_bind (wpAny_rule (wpAny_bind (wpAny_field gz rfl (x:=.ref tO) rfl (wpAny_bind (wpAny_setField_rec gz (by simp) fun h₁ z₁ e₁=>?_)))))
 replace z₁:IsZip h₁ zp tI tO .ellipsis:=z₁
 replace e₁:Heap.SameBut zp hp h₁:=e₁
 refine wpAny_bind ?_
 simp only[List.zipIdx_cons,List.zipIdx_nil,List.forIn_cons,List.forIn_nil]
 have t1:St1 k h₁:=D1.frame k hp h₁ s1 fun b hb o e=>e₁.extBut _ _ (fun x=>Z.a1.1 (x ▸ hb)) e
 have t2:St2 k h₁:=D2.frame k hp h₁ s2 fun b hb o e=>e₁.extBut _ _ (fun x=>Z.a2.1 (x ▸ hb)) e
 refine wpAny_bind (wpAny_bind (wpAny_onRaise ?_))
 show wpAny _ _ (Builtin.SmallTypes.nextOf (.ref i1) >>= _) _ _ _
 refine wpAny_bind (D1.item k _ _ _ l1 t1 fun x h₂ tk₂ p1 u1 e₂=>wpAny_pure ?_)
 replace e₂:Heap.SameBut i1 h₁ h₂:=e₂
 have hO₂:IsPair h₂ tO a b:=e₂.extBut _ _ Z.O1 (e₁.extBut _ _ Z.zTO gO)
 refine wpAny_bind (wpAny_seqItems hO₂ rfl (wpAny_bind (wpAny_updateSeq_pair hO₂ fun h₃ hO₃ e₃=>?_)))
 replace hO₃:IsPair h₃ tO x b:=hO₃
 replace e₃:Heap.SameBut tO h₂ h₃:=e₃
 refine wpAny_bind (wpAny_letGo (wpAny_pure ?_))
 have u1₃:St1 (k+1) h₃:=D1.frame _ h₂ h₃ u1 fun b hb o e=>e₃.extBut _ _ (fun x=>Z.a1.2.1 (x ▸ hb)) e
 have t2₃:St2 k h₃:=D2.frame k h₁ h₃ t2 fun b hb o e=>e₃.extBut _ _ (fun x=>Z.a2.2.1 (x ▸ hb)) (e₂.extBut _ _ (fun x=>Z.a2.2.2 (x ▸ hb)) e)
 refine wpAny_bind (wpAny_bind (wpAny_onRaise ?_))
 show wpAny _ _ (Builtin.SmallTypes.nextOf (.ref i2) >>= _) _ _ _
 refine wpAny_bind (D2.item k _ _ _ l2 t2₃ fun y h₄ tk₄ p2 u2 e₄=>wpAny_pure ?_)
 replace e₄:Heap.SameBut i2 h₃ h₄:=e₄
 have hO₄:IsPair h₄ tO x b:=e₄.extBut _ _ Z.O2 hO₃
 refine wpAny_bind (wpAny_seqItems hO₄ rfl (wpAny_bind (wpAny_updateSeq_pair hO₄ fun h₅ hO₅ e₅=>?_)))
 replace hO₅:IsPair h₅ tO x y:=hO₅
 replace e₅:Heap.SameBut tO h₄ h₅:=e₅
 refine wpAny_bind (wpAny_letGo (wpAny_pure (wpAny_pure (wpAny_bind (wpAny_seqItems hO₅ rfl (wpAny_bind (wpAny_newTuple ?_)))))))
 have u1₅:St1 (k+1) h₅:=D1.frame _ h₃ h₅ u1₃ fun b hb o e=>e₅.extBut _ _ (fun x=>Z.a1.2.1 (x ▸ hb)) (e₄.extBut _ _ (fun x=>Z.a1.2.2 (x ▸ hb)) e)
 have u2₅:St2 (k+1) h₅:=D2.frame _ h₄ h₅ u2 fun b hb o e=>e₅.extBut _ _ (fun x=>Z.a2.2.1 (x ▸ hb)) e
 have sz:h₅.objs.size=hp.objs.size:=by rw[e₅.1,e₄.1,e₃.1,e₂.1,e₁.1]
 have z₅:IsZip h₅ zp tI tO .ellipsis:=e₅.extBut _ _ Z.zTO.symm (e₄.extBut _ _ Z.z2.symm (e₃.extBut _ _ Z.zTO.symm (e₂.extBut _ _ Z.z1.symm z₁)))
 have k₅:∀c o,c≠zp->c≠tO->c≠i1->c≠i2->hp.get? c=some o->h₅.get? c=some o:=fun c o c1 c2 c3 c4 e=>e₅.extBut _ _ c2 (e₄.extBut _ _ c4 (e₃.extBut _ _ c2 (e₂.extBut _ _ c3 (e₁.extBut _ _ c1 e))))
 have zlt:zp<h₅.objs.size:=Heap.lt_size z₅
 show wpAny _ _ (Builtin.SmallTypes.ownedTupleHandOut (.ref zp) (.ref h₅.objs.size) >>= _) _ _ _
 unfold Builtin.SmallTypes.ownedTupleHandOut
 have z₆:IsZip (h₅.push { cls:=.type "tuple",data:=.seq #[x,y] }) zp tI tO .ellipsis:=Heap.get?_push_of_some _ z₅
 refine wpAny_bind (wpAny_bind (wpAny_setField_rec z₆ (by simp) fun h₇ z₇ e₇=>?_))
 replace z₇:IsZip h₇ zp tI tO (rawInt h₅.objs.size):=z₇
 refine wpAny_setField_rec z₇ (by simp) fun h₈ z₈ e₈=>?_
 replace z₈:IsZip h₈ zp tI tO (rawInt h₅.objs.size):=z₈
 have up:∀c o,c≠zp->h₅.get? c=some o->h₈.get? c=some o:=fun c o c1 e=>e₈.extBut _ _ c1 (e₇.extBut _ _ c1 (Heap.get?_push_of_some _ e))
 have hT₈:IsPair h₈ h₅.objs.size x y:=e₈.extBut _ _ (Nat.ne_of_gt zlt) (e₇.extBut _ _ (Nat.ne_of_gt zlt) (Heap.get?_push_size _ rfl))
 have sz8:h₈.objs.size=h₅.objs.size+1:=by rw[e₈.1,e₇.1,Heap.size_push]
 rw[sz] at z₈ hT₈ sz8
 refine wpAny_pure ⟨_,rfl,?_⟩
 show Q (.ref h₅.objs.size) _
 rw[sz]
 exact qd x y h₈ tk₄ p1 p2 z₈ (up _ _ Z.zTO hO₅) (D1.frame _ h₅ h₈ u1₅ fun b hb o e=>up b o (fun x=>Z.a1.1 (x ▸ hb)) e) (D2.frame _ h₅ h₈ u2₅ fun b hb o e=>up b o (fun x=>Z.a2.1 (x ▸ hb)) e) hT₈ sz8 fun c o c1 c2 c3 c4 e=>up c o c1 (k₅ c o c1 c2 c3 c4 e)
theorem zipD_end {zp tI tO i1 i2:Addr}{fp1 fp2:List Addr}{St:Heap->Prop}{a b:Value}{Q:Fin->Shared->Prop}(fr:∀h h',St h->(∀b∈fp1,∀o,h.get? b=some o->h'.get? b=some o)->St h')
 (dn:∀(s:Shared)(Q:Value->Shared->Prop)(E:Value->Shared->Prop),St s.heap->(∀h' e,Heap.ExtBut i1 s.heap h'->(∃o,h'.get? e=some o/\o.cls = .type "StopIteration")->E (.ref e) { s with heap:=h' })->wpAny (model prog w) A (Builtin.SmallTypes.nextOf (.ref i1)) Q E s) (Z:ZAp zp tI tO i1 i2 fp1 fp2)
 (gz:IsZip s.heap zp tI tO .none)(gI:IsPair s.heap tI (.ref i1) (.ref i2))(gO:IsPair s.heap tO a b)(s1:St s.heap)
 (qe:∀h' e,(∀c o,c≠zp->c≠i1->s.heap.get? c=some o->h'.get? c=some o)->(∃o,h'.get? e=some o/\o.cls = .type "StopIteration")->E (.ref e) { s with heap:=h' }) :
 wpAny (model prog w) A (Builtin.«zip.__next__» ⟨[.ref zp],[]⟩) Q E s:=by
 obtain⟨hp,g,d,tk₀,os⟩:=s
 show wpAny _ _ (field (.ref zp) 2 >>= _) _ _ _
 refine wpAny_bind (wpAny_field gz rfl (x:=.bool false) rfl ?_)
 show wpAny _ _ (field (.ref zp) 3 >>= _) _ _ _
 refine wpAny_bind (wpAny_field gz rfl (x:=.ref tI) rfl (wpAny_bind (wpAny_seqItems gI rfl ?_)))
 show wpAny _ _ (Builtin.SmallTypes.ownedTupleIsFree (.ref zp) >>= _) _ _ _
 unfold Builtin.SmallTypes.ownedTupleIsFree
 refine wpAny_bind (wpAny_bind (wpAny_field gz rfl (x:=.none) rfl (wpAny_pure ?_)))
 simp only[if_true]
 refine wpAny_bind (wpAny_rule (wpAny_bind (wpAny_field gz rfl (x:=.ref tO) rfl (wpAny_bind (wpAny_setField_rec gz (by simp) fun h₁ z₁ e₁=>?_)))))
 replace z₁:IsZip h₁ zp tI tO .ellipsis:=z₁
 replace e₁:Heap.SameBut zp hp h₁:=e₁
 refine wpAny_bind ?_
 simp only[List.zipIdx_cons,List.zipIdx_nil,List.forIn_cons,List.forIn_nil]
 refine wpAny_bind (wpAny_bind (wpAny_onRaise ?_))
 show wpAny _ _ (Builtin.SmallTypes.nextOf (.ref i1) >>= _) _ _ _
 refine wpAny_bind (dn _ _ _ (fr hp h₁ s1 fun b hb o e=>e₁.extBut _ _ (fun x=>Z.a1.1 (x ▸ hb)) e) fun h₂ e e₂ he=>?_)
 replace e₂:Heap.ExtBut i1 h₁ h₂:=e₂
 obtain⟨oe,hoe,hce⟩:=he
 have z₂:IsZip h₂ zp tI tO .ellipsis:=e₂ _ _ Z.z1.symm z₁
 have ne:e≠zp:=fun x=>by subst x;rw[z₂] at hoe;cases hoe;simp at hce
 exact wpAny_setField_rec z₂ (by simp) fun h₃ _ e₃=>qe h₃ e (fun c o c1 c3 x=>e₃.extBut _ _ c1 (e₂ _ _ c3 (e₁.extBut _ _ c1 x))) ⟨oe,e₃.extBut _ _ ne hoe,hce⟩
end
abbrev zt1 (h:Heap)(l1:Addr):Heap:=h.push { cls:=.type "tuple_iterator",data:=.fields #[.ref l1,.int 0 0] }
abbrev zt2 (h:Heap)(l1 l2:Addr):Heap:=(zt1 h l1).push { cls:=.type "tuple_iterator",data:=.fields #[.ref l2,.int 0 0] }
abbrev zt3 (h:Heap)(l1 l2:Addr):Heap:=(zt2 h l1 l2).push { cls:=.type "tuple",data:=.seq #[.ref h.objs.size,.ref (zt1 h l1).objs.size] }
abbrev zt4 (h:Heap)(l1 l2:Addr):Heap:=(zt3 h l1 l2).push { cls:=.type "tuple",data:=.seq #[.none,.none] }
abbrev zt5 (h:Heap)(l1 l2:Addr):Heap:=(zt4 h l1 l2).push { cls:=.type "zip",data:=.fields #[.none,.bool false,.bool false,.ref (zt2 h l1 l2).objs.size,.ref (zt3 h l1 l2).objs.size] }
theorem meets_zipT (l1 l2:Addr)(xs ys:Array Value):Meets (Builtin.«zip.__new__» ⟨[.type "zip",.ref l1,.ref l2],[]⟩) (fun _ R s=>s.heap.IsTuple l1 xs/\s.heap.IsTuple l2 ys/\R (.ok (.ret (.ref (zt4 s.heap l1 l2).objs.size))) { s with heap:=zt5 s.heap l1 l2 }):=by
 refine .of_wp fun prog w A R s hs=>?_
 obtain⟨hp,g,d,tk,os⟩:=s
 obtain⟨h1,h2,hR⟩:=hs
 have su:=sub_zip
 have t1:Heap.IsTuple (Shared.heap ⟨hp,g,d,tk,os⟩) l1 xs:=h1
 have t2:Heap.IsTuple (Shared.heap ⟨hp.push { cls:=.type "tuple_iterator",data:=.fields #[.ref l1,.int 0 0] },g,d,tk,os⟩) l2 ys:=by
  obtain⟨o,ho,r⟩:=h2
  exact⟨o,Heap.get?_push_of_some _ ho,r⟩
 wp_walk using wpAny_pyIter_tuple t1,wpAny_pyIter_tuple t2
 exact⟨_,rfl,hR⟩
section
variable {prog:Program}{w:World}{A:Around}{E:Value->Shared->Prop}{s:Shared}
theorem call_zipT {l1 l2:Addr}{xs ys:Array Value}{Q:Value->Shared->Prop}(h1:s.heap.IsTuple l1 xs)(h2:s.heap.IsTuple l2 ys)
 (h:∀h',IsZip h' (s.heap.objs.size+4) (s.heap.objs.size+2) (s.heap.objs.size+3) .none->IsPair h' (s.heap.objs.size+2) (.ref s.heap.objs.size) (.ref (s.heap.objs.size+1))->IsPair h' (s.heap.objs.size+3) .none .none ->
  h'.IsTupleIter s.heap.objs.size l1 0->h'.IsTupleIter (s.heap.objs.size+1) l2 0->(∀c o,s.heap.get? c=some o->h'.get? c=some o)->Q (.ref (s.heap.objs.size+4)) { s with heap:=h' }) :
 wpAny (model prog w) A (call (.type "zip") [.ref l1,.ref l2]) Q E s:=by
 refine callType_new PySem.F.called_zip (by decide) (PySem.F.typeCall_zip_2 _ _) (PySem.F.newCall_zip_2 _ _) (fun obj=>PySem.F.args_object_init_3 obj _ _) PySem.F.entry_zip_new (meets_zipT l1 l2 xs ys) ⟨h1,h2,?_⟩
 have z1:(zt1 s.heap l1).objs.size=s.heap.objs.size+1:=Heap.size_push ..
 have z2:(zt2 s.heap l1 l2).objs.size=s.heap.objs.size+2:=by rw[Heap.size_push,z1]
 have z3:(zt3 s.heap l1 l2).objs.size=s.heap.objs.size+3:=by rw[Heap.size_push,z2]
 have z4:(zt4 s.heap l1 l2).objs.size=s.heap.objs.size+4:=by rw[Heap.size_push,z3]
 have up:∀{h:Heap}{c:Addr}{o o':Obj},h.get? c=some o->(h.push o').get? c=some o:=fun e=>Heap.get?_push_of_some _ e
 have g5:(zt5 s.heap l1 l2).get? (zt4 s.heap l1 l2).objs.size=some _:=Heap.get?_push_size _ rfl
 have g4:(zt5 s.heap l1 l2).get? (zt3 s.heap l1 l2).objs.size=some _:=up (Heap.get?_push_size _ rfl)
 have g3:(zt5 s.heap l1 l2).get? (zt2 s.heap l1 l2).objs.size=some _:=up (up (Heap.get?_push_size _ rfl))
 have g2:(zt5 s.heap l1 l2).get? (zt1 s.heap l1).objs.size=some _:=up (up (up (Heap.get?_push_size _ rfl)))
 have g1:(zt5 s.heap l1 l2).get? s.heap.objs.size=some _:=up (up (up (up (Heap.get?_push_size _ rfl))))
 show _/\_
 rw[z2,z3,z4] at g5
 rw[z1,z2] at g3
 rw[z3] at g4
 rw[z1] at g2
 rw[z4]
 exact⟨⟨_,g5,rfl⟩,h _ g5 g3 g4 ⟨_,g1,rfl,rfl⟩ ⟨_,g2,rfl,rfl⟩ fun c o x=>up (up (up (up (up x))))⟩
end
def ItzT (K:PySem.W.Frag)(a b:Addr):It:=
 ⟨fun i H=>∃xs ys x y,SqT K H a xs/\SqT K H b ys/\xs[i]? = some x/\ys[i]? = some y,fun i H x H'=>∃T u v,x = .ref T/\H T=none/\H'=upd H T (.tup [u,v])/\(∀xs,SqT K H a xs->xs[i]? = some u)/\∀ys,SqT K H b ys->ys[i]? = some v,fun i H=>∃xs,SqT K H a xs/\xs.length<=i⟩
theorem apart_tups {zp tI tO i1 i2 a b:Addr}(h1:i1<i2)(h2:i2<tI)(h3:tI<tO)(h4:tO<zp)(ha:a<i1)(hb:b<i1):ZAp zp tI tO i1 i2 [i1,a] [i2,b]:=by
 have t1:=Nat.lt_trans h1 h2
 have t2:=Nat.lt_trans h2 h3
 have t3:=Nat.lt_trans h3 h4
 have t4:=Nat.lt_trans t1 h3
 have t5:=Nat.lt_trans t2 h4
 have t6:=Nat.lt_trans t4 h4
 have nm:∀{x y zp:Addr},x≠y->x≠zp->x∉[y,zp]:=fun p q h=>by
  rcases List.mem_cons.mp h with e | e
  . exact p e
  . exact q (List.mem_singleton.mp e)
 exact⟨Nat.ne_of_lt t3,Nat.ne_of_lt h4,Nat.ne_of_lt t6,Nat.ne_of_lt t5,Nat.ne_of_lt h3,Nat.ne_of_gt t1,Nat.ne_of_gt h2,Nat.ne_of_gt t4,Nat.ne_of_gt t2,Nat.ne_of_lt h1,
  ⟨nm (Nat.ne_of_gt t6) (Nat.ne_of_gt (Nat.lt_trans ha t6)),nm (Nat.ne_of_gt t4) (Nat.ne_of_gt (Nat.lt_trans ha t4)),nm (Nat.ne_of_gt h1) (Nat.ne_of_gt (Nat.lt_trans ha h1))⟩,
  ⟨nm (Nat.ne_of_gt t5) (Nat.ne_of_gt (Nat.lt_trans hb t6)),nm (Nat.ne_of_gt t2) (Nat.ne_of_gt (Nat.lt_trans hb t4)),nm (Nat.ne_of_lt h1) (Nat.ne_of_gt hb)⟩⟩
theorem turn_zipT {P:Program}{w:World}{K:PySem.W.Frag}{elts:List Expr} {x1} {tp:Pos}(a b zp tI tO i1 i2:Addr)(o1:i1<i2)(o2:i2<tI)(o3:tI<tO)(o4:tO<zp)(oa:a<i1)(ob:b<i1) :
 Turn P w K (.Tuple elts x1 tp) (ItzT K a b) [zp,tI,tO,i1,i2] zp (fun i h=>IsZip h zp tI tO .none/\IsPair h tI (.ref i1) (.ref i2)/\(∃u v,IsPair h tO u v)/\h.IsTupleIter i1 a i/\h.IsTupleIter i2 b i) where
 mem:=by simp
 obj:=fun i h st c hc=>by
  obtain⟨gz,hI,⟨u,v,hO⟩,⟨p1,e1,c1,d1⟩,⟨p2,e2,c2,d2⟩⟩:=st
  simp only[List.mem_cons,List.not_mem_nil,or_false] at hc
  rcases hc with rfl | rfl | rfl | rfl | rfl
  . exact⟨_,gz,fun v zp=>by cases zp⟩
  . exact⟨_,hI,fun v zp=>by cases zp⟩
  . exact⟨_,hO,fun v zp=>by cases zp⟩
  . exact⟨p1,e1,fun v zp=>by rw[d1] at zp;cases zp⟩
  . exact⟨p2,e2,fun v zp=>by rw[d2] at zp;cases zp⟩
 keep:=fun i h h' st k=>by
  obtain⟨gz,hI,⟨u,v,hO⟩,⟨p1,e1,r1⟩,⟨p2,e2,r2⟩⟩:=st
  exact⟨k zp (by simp) _ gz,k tI (by simp) _ hI,⟨u,v,k tO (by simp) _ hO⟩,⟨p1,k i1 (by simp) _ e1,r1⟩,⟨p2,k i2 (by simp) _ e2,r2⟩⟩
 item:=by
  intro X hP hw hK hc i pins s σ H E I hf st hg
  subst hP hw hK
  obtain⟨gz,hI,⟨u0,v0,hO⟩,h1,h2⟩:=st
  obtain⟨xs,ys,x,y,hq1,hq2,hx,hy⟩:=hg
  obtain⟨its1,rv1,p1,hz1⟩:=I.tuple hq1
  obtain⟨its2,rv2,p2,hz2⟩:=I.tuple hq2
  obtain⟨u1,hu1,ru1⟩:=rv1.get hx
  obtain⟨u2,hu2,ru2⟩:=rv2.get hy
  have zlt:zp<s.heap.objs.size:=Heap.lt_size gz
  have Z:=apart_tups o1 o2 o3 o4 oa ob
  have lt1:i<its1.toArray.size:=by simpa using (List.getElem?_eq_some_iff.mp hu1).1
  have lt2:i<its2.toArray.size:=by simpa using (List.getElem?_eq_some_iff.mp hu2).1
  have hT:s.TypeIs (.ref zp) "zip" := ⟨_,gz,rfl⟩
  unfold pyNext
  refine wpAny_bind (wpAny_attempt (wpAny_callSpecial?_slot (name:=Str.ofString "__next__") hT PySem.F.slot_zip_next (wpAny_call_entry PySem.F.slot_zip_next hT PySem.F.entry_zip_next
   (zipD_item (draws_tup (A:=X.A.in1) (I.ok.hd hc) i1 a (Nat.ne_of_lt oa) its1.toArray) (draws_tup (A:=X.A.in1) (I.ok.hd hc) i2 b (Nat.ne_of_lt (Nat.lt_trans ob o1)) its2.toArray) Z gz hI hO ⟨h1,p1⟩ ⟨h2,p2⟩ lt1 lt2 fun y1 y2 h' tk hy1 hy2 z' hO' s1' s2' hT' hsz hk=>wpAny_pure ?_) (PySem.F.args_zip_next_1 _))))
  obtain rfl:y1=u1:=by
   have h1:its1[i]? = some y1:=by simpa using hy1
   rw[hu1] at h1;exact (Option.some.inj h1).symm
  obtain rfl:y2=u2:=by
   have h1:its2[i]? = some y2:=by simpa using hy2
   rw[hu2] at h1;exact (Option.some.inj h1).symm
  refine⟨_,rfl,wpAny_letOwnedTupleGo_zip z' fun h2' z2 e2=>?_⟩
  have hT2:IsPair h2' s.heap.objs.size y1 y2:=e2.extBut _ _ (Nat.ne_of_gt zlt) hT'
  have fpl:∀c∈[zp,tI,tO,i1,i2],c<s.heap.objs.size:=fun c hc=>by
   simp only[List.mem_cons,List.not_mem_nil,or_false] at hc
   have t1:=Nat.lt_trans o4 zlt
   have t2:=Nat.lt_trans o3 t1
   have t3:=Nat.lt_trans o2 t2
   rcases hc with rfl | rfl | rfl | rfl | rfl
   . exact zlt
   . exact t2
   . exact t1
   . exact Nat.lt_trans o1 t3
   . exact t3
  refine⟨.ref s.heap.objs.size,upd H s.heap.objs.size (.tup [x,y]),I.turnedLaid (t':=tk) (fp:=[zp,tI,tO,i1,i2]) hf (fun c o hb q=>?_) (Nat.le_refl _) ?_,rfl,⟨_,x,y,rfl,I.hok.fresh (Nat.le_refl _),rfl,fun zs hzs=>by rw[I.tuple_inj hzs hq1];exact hx,fun zs hzs=>by rw[I.tuple_inj hzs hq2];exact hy⟩,⟨z2,?_,⟨_,_,e2.extBut _ _ Z.zTO hO'⟩,?_,?_⟩,fun c hc=>?_⟩
  . exact e2.extBut _ _ (fun w=>hb (by simp[w])) (hk c o (fun w=>hb (by simp[w])) (fun w=>hb (by simp[w])) (fun w=>hb (by simp[w])) (fun w=>hb (by simp[w])) q)
  . exact⟨⟨by show 2<=sizeLine;decide,_,hT2,rfl⟩,[y1,y2],.cons ru1 (.cons ru2 .nil),⟨_,hT2,rfl,_,rfl⟩⟩
  . exact e2.extBut _ _ Z.zTI (hk _ _ Z.zTI Z.IO Z.I1 Z.I2 hI)
  . obtain⟨⟨o,ho,r⟩,_⟩:=s1'
    exact⟨o,e2.extBut _ _ Z.z1 ho,r⟩
  . obtain⟨⟨o,ho,r⟩,_⟩:=s2'
    exact⟨o,e2.extBut _ _ Z.z2 ho,r⟩
  . rw[upd_ne (Nat.ne_of_lt (fpl c hc))];exact (hf _ hc).1
 done:=by
  intro X hP hw hK hc i pins s σ H E I hf st hg
  subst hP hw hK
  obtain⟨gz,hI,⟨u0,v0,hO⟩,h1,h2⟩:=st
  obtain⟨xs,hq,hx⟩:=hg
  obtain⟨its,rv,p,_⟩:=I.tuple hq
  have hl:=rv.length
  have Z:=apart_tups o1 o2 o3 o4 oa ob
  have hT:s.TypeIs (.ref zp) "zip" := ⟨_,gz,rfl⟩
  have f1:=hf zp (by simp)
  have f2:=hf i1 (by simp)
  unfold pyNext
  refine wpAny_bind (wpAny_attempt (wpAny_callSpecial?_slot (name:=Str.ofString "__next__") hT PySem.F.slot_zip_next (wpAny_call_entry PySem.F.slot_zip_next hT PySem.F.entry_zip_next
   (zipD_end (A:=X.A.in1) (St:=fun h=>h.IsTupleIter i1 a i/\h.IsTuple a its.toArray) (fun h h' st k=>by
    obtain⟨⟨o,ho,r⟩,o2,ho2,r2⟩:=st
    exact⟨⟨o,k i1 (by simp) o ho,r⟩,o2,k a (by simp) o2 ho2,r2⟩) (fun s Q E st qe=>endOf_tup (I.ok.hd hc) st.1 st.2 (by simp;omega) qe) Z gz hI hO ⟨h1,p⟩ fun h' e hk he=>?_) (PySem.F.args_zip_next_1 _))))
  obtain⟨o,ho,hcl⟩:=he
  refine wpAny_bind (wpAny_isInstance (T := "StopIteration") (b:=true) ⟨o,ho,hcl⟩ isSubtype_stop (wpAny_pure ?_))
  exact⟨rfl,I.turnedFp (t':=s.toks) (fp:=[zp,tI,tO,i1,i2]) hf fun c u hb q=>hk c u (fun w=>hb (by simp[w])) (fun w=>hb (by simp[w])) q⟩
 self:=fun _ _ _ _ _ st h=>wpAny_pyIter_zip st.1 h
section
variable {X:Cx}
def iZipT (K:PySem.W.Frag)(ta:TA):TI:=fun σ H R=>ta σ H fun vs H1=>∃a b,vs=[.ref a,.ref b]/\(∃xs,SqT K H1 a xs)/\(∃ys,SqT K H1 b ys)/\R (ItzT K a b) H1
theorem pi_zipT {elts:List Expr} {x1} {tp:Pos}{a b:Expr}{ta:TA}{p pos:Pos}(hg:Gl X "zip") (hm:X.mg "zip" = none) (ha:PA X [a,b] ta)(hs:starEach [a,b] X.env=(false,eval a X.env)::starEach [b] X.env:=by rfl)(hs2:(backTo pos (starEach [b] X.env)).any (·.1)=false:=by rfl):PI X (.Tuple elts x1 tp) (.Call (.Name "zip" p) [a,b] [] pos) (iZipT X.K ta):=by
 intro pins s σ H R I h
 refine Call_ (ld_blt I hg hm (by decide +kernel) (PyProof.Rows.callWith_type1 (T := "zip") (thn (ha pos pins s σ H _ I h) fun us s1 ⟨vs,H1,I1,r1,q1⟩=>?_) hs hs2))
 obtain⟨l1,l2,e,⟨xs,hq1⟩,⟨ys,hq2⟩,q⟩:=q1
 subst e
 obtain⟨u1,u2,rfl,rx1,rx2⟩:=vals2 r1
 cases rx1
 cases rx2
 obtain⟨its1,_,p1,_⟩:=I1.tuple hq1
 obtain⟨its2,_,p2,_⟩:=I1.tuple hq2
 have ll1:l1<s1.heap.objs.size:=by obtain⟨o,ho,_⟩:=id p1;exact Heap.lt_size ho
 have ll2:l2<s1.heap.objs.size:=by obtain⟨o,ho,_⟩:=id p2;exact Heap.lt_size ho
 refine call_zipT p1 p2 fun h' hz hI hO h1 h2 hk=>?_
 refine wpAny_pyIter_zip hz ?_
 refine⟨s1.heap.objs.size+4,[s1.heap.objs.size+4,s1.heap.objs.size+2,s1.heap.objs.size+3,s1.heap.objs.size,s1.heap.objs.size+1],_,_,H1,rfl,I1.kept (t':=s1.toks) hk,
  turn_zipT l1 l2 _ _ _ _ _ (Nat.lt_succ_self _) (Nat.lt_succ_self _) (Nat.lt_succ_self _) (Nat.lt_succ_self _) ll1 ll2,⟨hz,hI,⟨_,_,hO⟩,h1,h2⟩,fun b hb=>?_,q⟩
 have hle:s1.heap.objs.size<=b:=by
  simp only[List.mem_cons,List.not_mem_nil,or_false] at hb
  rcases hb with rfl | rfl | rfl | rfl | rfl
  . exact Nat.le_add_right _ _
  . exact Nat.le_add_right _ _
  . exact Nat.le_add_right _ _
  . exact Nat.le_refl _
  . exact Nat.le_add_right _ _
 exact I1.fpOk hle (I1.hok.fresh hle)
end
end L2
namespace WM
def nx (n k:Nat):Nat:=if k+1=n then 0 else k+1
def pq (n k:Nat):Nat:=if k=0 then n-1 else k-1
def sm (m:Nat->Int):Nat->Int
 | 0=>0
 | k+1=>sm m k+m k
structure Ring (ts:List T3)(n:Nat)(r m:Nat->Int):Prop where
 n3:3<=n
 inj:∀i j,i<n->j<n->r i=r j->i=j
 rng:∀i,i<n->0<=r i/\r i<n
 pos:∀i,i<n->1<=m i/\m i<=99
 adj:∀x y l,Adj ts x y l↔∃k,k<n/\l=m k/\((x=r k/\y=r (nx n k))\/(y=r k/\x=r (nx n k)))
 sum:(ts.map (·.2.2)).sum=sm m n
theorem nx_lt {n k:Nat}(h:k<n):nx n k<n:=by unfold nx;split <;> omega
theorem pq_lt {n k:Nat}(h:k<n):pq n k<n:=by unfold pq;split <;> omega
theorem nx_pq {n k:Nat}(h:k<n)(h3:3<=n):nx n (pq n k)=k:=by unfold nx pq;split <;> split <;> omega
theorem pq_nx {n k:Nat}(h:k<n)(h3:3<=n):pq n (nx n k)=k:=by unfold nx pq;split <;> split <;> omega
theorem nx_inj {n i j:Nat}(hi:i<n)(hj:j<n)(h:nx n i=nx n j):i=j:=by
 unfold nx at h
 split at h <;> split at h <;> omega
theorem sm_congr {m m':Nat->Int}:∀{n:Nat},(∀k,k<n->m k=m' k)->sm m n=sm m' n
 | 0,_=>rfl
 | n+1,h=>by
  show sm m n+m n=sm m' n+m' n
  rw[sm_congr fun k hk=>h k (by omega),h n (by omega)]
theorem sm_shift (m:Nat->Int):∀n:Nat,sm (fun k=>m (k+1)) n=sm m (n+1)-m 0
 | 0=>by show (0:Int)=0+m 0-m 0;omega
 | n+1=>by
  show sm (fun k=>m (k+1)) n+m (n+1)=sm m (n+1)+m (n+1)-m 0
  rw[sm_shift m n]
  omega
theorem sm_rot (m:Nat->Int){n:Nat}(h:0<n):sm (fun k=>m (nx n k)) n=sm m n:=by
 obtain⟨k,rfl⟩:∃k,n=k+1:=⟨n-1,by omega⟩
 show sm (fun j=>m (nx (k+1) j)) k+m (nx (k+1) k)=_
 rw[sm_congr (m':=fun j=>m (j+1)) fun j hj=>by
  show m (nx (k+1) j)=m (j+1)
  unfold nx
  rw[if_neg (by omega)],sm_shift]
 unfold nx
 rw[if_pos rfl]
 omega
theorem sm_rev (m:Nat->Int):∀n:Nat,sm (fun k=>m (n-1-k)) n=sm m n:=by
 have key:∀(j n:Nat),j<=n->sm (fun k=>m (n-1-k)) j=sm m n-sm m (n-j):=by
  intro j
  induction j with
  | zero=>intro n _;show (0:Int)=sm m n-sm m n;omega
  | succ j ih=>
   intro n h
   show sm (fun k=>m (n-1-k)) j+m (n-1-j)=_
   rw[ih n (by omega)]
   obtain⟨q,hq⟩:∃q,n-j=q+1:=⟨n-j-1,by omega⟩
   rw[hq,show n-1-j=q by omega,show n-(j+1)=q by omega]
   show sm m n-(sm m q+m q)+m q=_
   omega
 intro n
 rw[key n n (Nat.le_refl _),Nat.sub_self]
 show _-0=_
 omega
theorem Ring.rot {ts:List T3}{n:Nat}{r m:Nat->Int}(h:Ring ts n r m):Ring ts n (fun k=>r (nx n k)) (fun k=>m (nx n k)):=by
 have h3:=h.n3
 refine⟨h3,fun i j hi hj e=>nx_inj hi hj (h.inj _ _ (nx_lt hi) (nx_lt hj) e),fun i hi=>h.rng _ (nx_lt hi),fun i hi=>h.pos _ (nx_lt hi),fun x y l=>?_,by rw[h.sum,sm_rot m (by omega)]⟩
 rw[h.adj]
 constructor
 . rintro ⟨k,hk,e,c⟩
   exact⟨pq n k,pq_lt hk,by rw[nx_pq hk h3];exact e,by rw[nx_pq hk h3];exact c⟩
 . rintro ⟨k,hk,e,c⟩
   exact⟨nx n k,nx_lt hk,e,c⟩
def rv (n k:Nat):Nat:=if k=0 then 0 else n-k
theorem rv_lt {n k:Nat}(h:k<n):rv n k<n:=by unfold rv;split <;> omega
theorem Ring.rev {ts:List T3}{n:Nat}{r m:Nat->Int}(h:Ring ts n r m):Ring ts n (fun k=>r (rv n k)) (fun k=>m (n-1-k)):=by
 have h3:=h.n3
 have e1:∀k,k<n->nx n (n-1-k)=rv n k:=fun k hk=>by unfold nx rv;split <;> split <;> omega
 have e2:∀k,k<n->rv n (nx n k)=n-1-k:=fun k hk=>by unfold nx rv;split <;> split <;> omega
 refine⟨h3,fun i j hi hj e=>?_,fun i hi=>h.rng _ (rv_lt hi),fun i hi=>h.pos _ (by omega),fun x y l=>?_,by rw[h.sum,sm_rev m n]⟩
 . have:=h.inj _ _ (rv_lt hi) (rv_lt hj) e
   unfold rv at this
   split at this <;> split at this <;> omega
 . rw[h.adj]
   constructor
   . rintro ⟨k,hk,e,c⟩
     refine⟨n-1-k,by omega,by rw[show n-1-(n-1-k)=k by omega];exact e,?_⟩
     rw[e2 _ (by omega),<-e1 _ (by omega),show n-1-(n-1-k)=k by omega]
     exact c.elim (fun ⟨a,b⟩=>.inr ⟨b,a⟩) (fun ⟨a,b⟩=>.inl ⟨b,a⟩)
   . rintro ⟨k,hk,e,c⟩
     refine⟨n-1-k,by omega,e,?_⟩
     rw[e2 _ hk,<-e1 _ hk] at c
     exact c.elim (fun ⟨a,b⟩=>.inr ⟨b,a⟩) (fun ⟨a,b⟩=>.inl ⟨b,a⟩)
theorem Ring.fwd {ts:List T3}{n:Nat}{r m:Nat->Int}(h:Ring ts n r m){i:Nat}:∀j,i<=j->j<n->Way ts (r i) (r j) (sm m j-sm m i)
 | 0,h1,_=>by
  have:i=0:=by omega
  subst this
  rw[Int.sub_self]
  exact .nil _
 | j+1,h1,h2=>by
  by_cases c:i=j+1
  . subst c;rw[Int.sub_self];exact .nil _
  . have w:=h.fwd (i:=i) j (by omega) (by omega)
    have a:Adj ts (r j) (r (j+1)) (m j):=(h.adj _ _ _).mpr ⟨j,by omega,rfl,.inl ⟨rfl,by unfold nx;rw[if_neg (by omega)]⟩⟩
    have e:sm m (j+1)=sm m j+m j:=rfl
    have:=w.snoc a
    rwa [show sm m j-sm m i+m j=sm m (j+1)-sm m i by omega] at this
end WM
namespace WM
def tie3 (x y l:Int):T3:=(min x y,max x y,l)
theorem perm_sum {l₁ l₂:List Int}(h:l₁.Perm l₂):l₁.sum=l₂.sum:=by
 induction h with
 | nil=>rfl
 | cons x _ ih=>rw[List.sum_cons,List.sum_cons,ih]
 | swap x y l=>simp only[List.sum_cons];omega
 | trans _ _ a b=>exact a.trans b
theorem sum_range (f:Nat->Int):∀n:Nat,((List.range n).map f).sum=sm f n
 | 0=>rfl
 | n+1=>by
  rw[List.range_succ,List.map_append,List.sum_append,sum_range f n]
  show _+(f n+0)=sm f n+f n
  omega
theorem ring_seats {n:Nat}{S L:Nat->Int}{ts:List T3}(h3:3<=n)(inj:∀i j,i<n->j<n->S i=S j->i=j)(rng:∀i,i<n->0<=S i/\S i<n)(pos:∀i,i<n->1<=L i/\L i<=99)
 (hp:ts.Perm ((List.range n).map fun k=>tie3 (S k) (S (nx n k)) (L k))):Ring ts n S L:=by
 have mem:∀t:T3,t∈ts↔∃k,k<n/\tie3 (S k) (S (nx n k)) (L k)=t:=fun t=>by
  rw[hp.mem_iff,List.mem_map]
  constructor
  . rintro ⟨k,hk,e⟩;exact⟨k,List.mem_range.mp hk,e⟩
  . rintro ⟨k,hk,e⟩;exact⟨k,List.mem_range.mpr hk,e⟩
 refine⟨h3,inj,rng,pos,fun x y l=>?_,?_⟩
 . unfold Adj
   rw[mem,mem]
   constructor
   . rintro (⟨k,hk,e⟩ | ⟨k,hk,e⟩) <;>
     . unfold tie3 at e
       simp only[Prod.mk.injEq] at e
       exact⟨k,hk,e.2.2.symm,by omega⟩
   . rintro ⟨k,hk,rfl,c⟩
     by_cases z:S k<=S (nx n k)
     . rcases c with ⟨rfl,rfl⟩ | ⟨rfl,rfl⟩
       . exact .inl ⟨k,hk,by unfold tie3;rw[Int.min_eq_left z,Int.max_eq_right z]⟩
       . exact .inr ⟨k,hk,by unfold tie3;rw[Int.min_eq_left z,Int.max_eq_right z]⟩
     . rcases c with ⟨rfl,rfl⟩ | ⟨rfl,rfl⟩
       . exact .inr ⟨k,hk,by unfold tie3;rw[Int.min_eq_right (by omega),Int.max_eq_left (by omega)]⟩
       . exact .inl ⟨k,hk,by unfold tie3;rw[Int.min_eq_right (by omega),Int.max_eq_left (by omega)]⟩
 . rw[perm_sum (hp.map _),List.map_map]
   show ((List.range n).map L).sum=_
   exact sum_range L n
theorem gw_seats {n:Nat}{S L:Nat->Int}{ts:List T3}(h3:3<=n)(h24:n<=24)(inj:∀i j,i<n->j<n->S i=S j->i=j)(rng:∀i,i<n->0<=S i/\S i<n)(pos:∀i,i<n->1<=L i/\L i<=99)
 (hp:ts.Perm ((List.range n).map fun k=>tie3 (S k) (S (nx n k)) (L k))):GW (n:Int) ts:=by
 refine⟨by omega,by omega,?_,fun t ht=>?_,?_⟩
 . rw[hp.length_eq,List.length_map,List.length_range];omega
 . obtain⟨k,hk,rfl⟩:=List.mem_map.mp (hp.mem_iff.mp ht)
   have hk:=List.mem_range.mp hk
   have a:=rng k hk
   have b:=rng _ (nx_lt hk)
   have c:=pos k hk
   have d:S k≠S (nx n k):=fun e=>by
    have:=inj _ _ hk (nx_lt hk) e
    unfold nx at this
    split at this <;> omega
   unfold tie3
   simp only
   omega
 . refine (hp.pairwise_iff fun {a b} h=>fun z=>h ⟨z.1.symm,z.2.symm⟩).mpr ?_
   rw[List.pairwise_map]
   refine List.pairwise_lt_range.imp_of_mem fun {j k} hj hk hjk z=>?_
   have hj:=List.mem_range.mp hj
   have hk:=List.mem_range.mp hk
   unfold tie3 at z
   simp only at z
   have i1:=inj j k hj hk
   have i2:=inj j (nx n k) hj (nx_lt hk)
   have i3:=inj (nx n j) k (nx_lt hj) hk
   have e:S j=S k\/(S j=S (nx n k)/\S (nx n j)=S k):=by omega
   rcases e with e | ⟨e1,e2⟩
   . have:=i1 e;omega
   . have a:=i2 e1
     have b:=i3 e2
     unfold nx at a b
     split at a <;> split at b <;> omega
theorem way_rch {ts:List T3}{x y d:Int}(w:Way ts x y d)(h:Rch ts x):Rch ts y:=by
 induction w with
 | nil=>exact h
 | cons a _ ih=>exact ih (.s h a)
theorem Ring.rch {ts:List T3}{n:Nat}{r m:Nat->Int}(h:Ring ts n r m)(h0:r 0=0){i:Nat}(hi:i<n):Rch ts (r i):=
 way_rch (h.fwd (i:=0) i (by omega) hi) (by rw[h0];exact .z)
theorem Ring.two {ts:List T3}{n:Nat}{r m:Nat->Int}(h:Ring ts n r m){i:Nat}(hi:i<n)(y:Int):(∃l,Adj ts (r i) y l)↔y=r (nx n i)\/y=r (pq n i):=by
 have h3:=h.n3
 constructor
 . rintro ⟨l,a⟩
   obtain⟨k,hk,_,c⟩:=(h.adj _ _ _).mp a
   rcases c with ⟨c1,c2⟩ | ⟨c1,c2⟩
   . have:=h.inj _ _ hi hk c1
     subst this
     exact .inl c2
   . have:=h.inj _ _ hi (nx_lt hk) c2
     subst this
     right
     rw[pq_nx hk h3]
     exact c1
 . rintro (rfl | rfl)
   . exact⟨_,(h.adj _ _ _).mpr ⟨i,hi,rfl,.inl ⟨rfl,rfl⟩⟩⟩
   . exact⟨_,(h.adj _ _ _).mpr ⟨pq n i,pq_lt hi,rfl,.inr ⟨rfl,by rw[nx_pq hi h3]⟩⟩⟩
theorem Ring.ne2 {ts:List T3}{n:Nat}{r m:Nat->Int}(h:Ring ts n r m){i:Nat}(hi:i<n):r (nx n i)≠r (pq n i):=fun e=>by
 have h3:=h.n3
 have:=h.inj _ _ (nx_lt hi) (pq_lt hi) e
 unfold nx pq at this
 split at this <;> split at this <;> omega
theorem rise2 {hs:List Int}(h:hs.Pairwise (· < ·)){a b:Int}(hm:∀y,y∈hs↔y=a\/y=b)(ne:a≠b):hs=[min a b,max a b]:=by
 refine rise_same h ?_ fun x=>?_
 . rw[List.pairwise_cons]
   exact⟨fun y hy=>by rw[List.mem_singleton.mp hy];omega,List.pairwise_singleton _ _⟩
 . rw[hm]
   simp only[List.mem_cons,List.not_mem_nil,or_false]
   omega
theorem Ring.adjN {ts:List T3}{n:Nat}{r m:Nat->Int}(h:Ring ts n r m){i:Nat}(hi:i<n):Adj ts (r i) (r (nx n i)) (m i):=(h.adj _ _ _).mpr ⟨i,hi,rfl,.inl ⟨rfl,rfl⟩⟩
theorem Ring.adjP {ts:List T3}{n:Nat}{r m:Nat->Int}(h:Ring ts n r m){i:Nat}(hi:i<n):Adj ts (r i) (r (pq n i)) (m (pq n i)):=(h.adj _ _ _).mpr ⟨pq n i,pq_lt hi,rfl,.inr ⟨rfl,by rw[nx_pq hi h.n3]⟩⟩
theorem Ring.at {ts:List T3}{n:Nat}{r m:Nat->Int}(h:Ring ts n r m){x:Int}(h0:0<=x)(h1:x<n):∃i,i<n/\r i=x:=by
 have hl:((List.range n).map r).length=n:=by rw[List.length_map,List.length_range]
 have nd:((List.range n).map r).Nodup:=by
  rw[List.Nodup,List.pairwise_map]
  exact List.pairwise_lt_range.imp_of_mem fun {a b} ha hb hab e=>by
   have:=h.inj a b (List.mem_range.mp ha) (List.mem_range.mp hb) e
   omega
 by_cases c:x∈(List.range n).map r
 . obtain⟨i,hi,e⟩:=List.mem_map.mp c
   exact⟨i,List.mem_range.mp hi,e⟩
 . exfalso
   have:=nd_len (n:=n) (l:=x::(List.range n).map r) (List.nodup_cons.mpr ⟨c,nd⟩) fun y hy=>by
    rcases List.mem_cons.mp hy with rfl | hy
    . exact⟨h0,h1⟩
    . obtain⟨i,hi,rfl⟩:=List.mem_map.mp hy
      exact h.rng i (List.mem_range.mp hi)
   rw[List.length_cons,hl] at this
   omega
end WM
namespace WM
theorem rch_in {n:Int}{ts:List T3}(g:GW n ts){x:Int}(h:Rch ts x):0<=x/\x<n:=by
 induction h with
 | z=>have:=g.n1;omega
 | s _ a _=>have:=g.adj a;exact⟨this.2.2.1,this.2.2.2.1⟩
theorem Ring.whole {ts:List T3}{n:Nat}{r m:Nat->Int}(g:GW (n:Int) ts)(h:Ring ts n r m)(h0:r 0=0){met:List Int}(nd:met.Nodup)(z:0∈met)(cl:∀x∈met,∀y k,Adj ts x y k->y∈met)(rc:∀x∈met,Rch ts x):(met.length:Int)=n:=by
 have a:=nd_len nd fun x hx=>rch_in g (rc x hx)
 have b:=nd_sub (l₁:=(List.range n).map r) (l₂:=met) (by
  rw[List.Nodup,List.pairwise_map]
  exact List.pairwise_lt_range.imp_of_mem fun {a b} ha hb hab e=>by
   have:=h.inj a b (List.mem_range.mp ha) (List.mem_range.mp hb) e
   omega) fun x hx=>by
  obtain⟨i,hi,rfl⟩:=List.mem_map.mp hx
  exact rch_all z cl (h.rch h0 (List.mem_range.mp hi))
 rw[List.length_map,List.length_range] at b
 omega
theorem filt_ne {hs:List Int}{a b:Int}(e:hs=[min a b,max a b])(ne:a≠b):hs.filter (fun y=>!decide (y=b))=[a]:=by
 subst e
 by_cases c:a<b
 . rw[Int.min_eq_left (by omega),Int.max_eq_right (by omega),List.filter_cons,if_pos (by simp[ne]),List.filter_cons,if_neg (by simp)];rfl
 . rw[Int.min_eq_right (by omega),Int.max_eq_left (by omega),List.filter_cons,if_neg (by simp),List.filter_cons,if_pos (by simp[ne])];rfl
end WM
namespace L2
open PySem PySem.Spec PyProof.Rows
def CXO (P:Program)(w:World):CXT:=fun outer H s E e s'=>
 ∃(ea t:Addr)(C:Value)(H':Hp)(B:Heap),e = .ref ea/\s'.os=s.os/\AllBare s'.gens/\Un (frs outer) [] H H' s.heap s'.heap/\HOk P w H' s'.heap /\
  Heap.FlyingW B outer ea C (.ref t) s'.heap/\(∀b u,H' b=some u->∃o,B.get? b=some o)/\(∀b o,s.heap.get? b=some o->H b=none->b∉frs outer->B.get? b=some o)/\(∀b o,s.heap.get? b=some o->b∉frs outer->∃o',B.get? b=some o')/\E C none H'
theorem ObjOk.there {P:Program}{w:World}{H:Hp}{h:Heap}{a:Addr}{o:HO}(x:ObjOk P w H h a o):∃ob,h.get? a=some ob:=by
 cases o with
 | lst xs=>obtain⟨_,_,_,_,e⟩:=x;exact⟨_,e⟩
 | tup xs=>obtain⟨⟨_,o2,e2,_⟩,_⟩:=x;exact⟨_,e2⟩
 | dK kvs=>obtain⟨_,_,_,_,o,_,_,e,_⟩:=x;exact⟨_,e⟩
 | dT kvs=>obtain⟨_,_,_,_,o,_,_,e,_⟩:=x;exact⟨_,e⟩
 | set S n=>obtain⟨o,_,_,_,e,_⟩:=x;exact⟨_,e⟩
 | ins C dx fs=>obtain⟨_,_,_,e,_⟩:=x;exact⟨_,e⟩
 | own y=>obtain⟨_,e⟩:=x;exact⟨_,e⟩
 | xd fs=>obtain⟨_,⟨_,_,_,e,_⟩,_⟩:=x;exact⟨_,e⟩
 | rng lo hi=>obtain⟨_,_,_,e⟩:=x;exact⟨_,e⟩
 | frz ob u=>obtain⟨e,_⟩:=x;exact⟨_,e⟩
 | tbl ps=>exact⟨_,show h.get? a=some _ from x⟩
 | met f y=>exact⟨_,show h.get? a=some _ from x⟩
 | ext φ=>obtain⟨_,⟨_,e⟩,_⟩:=x;exact⟨_,e⟩
theorem HOk.stays {P:Program}{w:World}{H:Hp}{h h' B:Heap}(x:HOk P w H h)(k:B.StaysIn h)(k':B.StaysIn h')(tr:∀b u,H b=some u->∃o,B.get? b=some o):HOk P w H h':=fun a o e=>
 (x a o e).stay (fun b u hb q=>by
  have:∃v,H b=some v:=by
   rcases hb with rfl | hb
   . exact⟨_,e⟩
   . exact⟨_,hb⟩
  obtain⟨v,hv⟩:=this
  obtain⟨o',ho'⟩:=tr b v hv
  have e2:o'=u:=Option.some.inj ((k b o' ho').symm.trans q)
  exact e2 ▸ k' b o' ho') (fun _ q=>q) fun _ _ q=>q
section
variable {P:Program}{w:World}{K:PySem.W.Frag}{mg:Str->Option Value}{base:Heap}{N:List Str}{qual:Str}{scope:Scope}{f:Addr}{cd:Value}{A:Around}{outer:List Env}{s0 s:Shared}{H0 H:Hp}{E:XK}{pins:List (Addr×Obj)}{σ:St}
theorem raised_xe {h':Heap}{ea:Addr}{C:Value}{vs:List Value}(I:Inv (cxOf (CXO P w) P w K mg base N qual scope f cd A outer s0 H0 E) pins σ H s)(hx:Heap.MadeExcOf s.heap h' ea C vs)(hE:E C none H) :
 (cxOf (CXO P w) P w K mg base N qual scope f cd A outer s0 H0 E).xe (.ref ea) { s with heap:=h' }:=by
 have hfr:frs (cxOf (CXO P w) P w K mg base N qual scope f cd A outer s0 H0 E).stack=(envOfC qual scope s0.heap.objs.size f cd::outer).filterMap (·.frame):=rfl
 have hin:∀env∈(envOfC qual scope s0.heap.objs.size f cd::outer),∀a,env.frame=some a->a∈(envOfC qual scope s0.heap.objs.size f cd::outer).filterMap (·.frame):=fun env he b hb=>List.mem_filterMap.mpr ⟨env,he,hb⟩
 refine wpAny_leaves_madeW (base:=PySem.W.hideAll s.heap ((envOfC qual scope s0.heap.objs.size f cd::outer).filterMap (·.frame))) I.ok.frames rfl (fun b o q=>PySem.W.of_hideAll _ q) (PySem.W.funFrames_hide I.stack hin) hx fun h'' t fl _ _ up=>?_
 have st:(PySem.W.hideAll s.heap ((envOfC qual scope s0.heap.objs.size f cd::outer).filterMap (·.frame))).StaysIn h'':=fl.1
 have old:∀b o,s0.heap.get? b=some o->H0 b=none->b∉frs outer->(PySem.W.hideAll s.heap ((envOfC qual scope s0.heap.objs.size f cd::outer).filterMap (·.frame))).get? b=some o:=fun b o e n hb=>by
  refine PySem.W.hideAll_get _ (I.base.keep b o e n hb (by intro z;cases z)) fun z=>?_
  rcases List.mem_cons.mp (I.stkSub b z) with q | q
  . exact absurd (Heap.lt_size e) (by rw[q];exact Nat.not_lt_of_le (Nat.le_refl _))
  . exact hb q
 have al:∀b o,s0.heap.get? b=some o->b∉frs outer->∃o',(PySem.W.hideAll s.heap ((envOfC qual scope s0.heap.objs.size f cd::outer).filterMap (·.frame))).get? b=some o':=fun b o e hb=>by
  obtain⟨o1,e1⟩:=I.base.there b o e (by intro z;cases z)
  refine⟨o1,PySem.W.hideAll_get _ e1 fun z=>?_⟩
  rcases List.mem_cons.mp (I.stkSub b z) with q | q
  . exact absurd (Heap.lt_size e) (by rw[q];exact Nat.not_lt_of_le (Nat.le_refl _))
  . exact hb q
 have tr:∀b u,H b=some u->∃o,(PySem.W.hideAll s.heap ((envOfC qual scope s0.heap.objs.size f cd::outer).filterMap (·.frame))).get? b=some o:=fun b u e=>by
  obtain⟨o,ho⟩:=(I.hok b u e).there
  refine⟨o,PySem.W.hideAll_get _ ho fun z=>?_⟩
  have:=I.stkFree b z
  rw[e] at this
  cases this
 refine⟨ea,t,C,H,_,rfl,I.os,I.bare,⟨fun b o e n hb hx'=>st b o (old b o e n hb),fun b o e n hb hx'=>?_,I.base.free,fun b o e hx'=>?_,I.base.tups,I.base.frzs,I.base.tbls⟩,I.hok.stays (fun b o q=>PySem.W.of_hideAll _ q) st tr,fl,tr,old,al,hE⟩
 . obtain⟨sl,e1⟩:=I.base.slot b o e n hb (by intro z;cases z)
   obtain⟨_,o2,e2,nd⟩:=I.stack.mem (show b∈(envOfC qual scope s0.heap.objs.size f cd::outer).filterMap (·.frame) from List.mem_cons_of_mem _ hb)
   have e3:o2={ o with slots:=sl }:=Option.some.inj (e2.symm.trans e1)
   obtain⟨sl2,e4⟩:=up b _ (hx.keeps b _ e1) (fun vs=>by rw[<-e3];exact nd vs)
   exact⟨sl2,e4⟩
 . obtain⟨o1,e1⟩:=I.base.there b o e (by intro z;cases z)
   by_cases hb:b∈(envOfC qual scope s0.heap.objs.size f cd::outer).filterMap (·.frame)
   . obtain⟨_,o2,e2,nd⟩:=I.stack.mem hb
     obtain⟨sl2,e4⟩:=up b _ (hx.keeps b _ e2) nd
     exact⟨_,e4⟩
   . exact⟨_,st b _ (PySem.W.hideAll_get _ e1 hb)⟩
end
abbrev bmV:List Value:=[.type "ValueError",.type "Exception",.type "BaseException",.type "object"]
theorem exc_obj {K:PySem.W.Frag}{h:Heap}{C:Addr}{bmB:List Value}{newId:String}(X:K.In h)(q:PySem.W.excIn K C bmB newId=true) :
 ∃bm N nm qn bs hdct sn sub ab col dd k0 k1 k2 k3 k5 mN,h.get? C=some (excClassObj nm qn C N bs bm hdct sn sub ab col dd k0 k1 k2 k3 k5 newId)/\h.Ns N mN/\mN "__init__" = none/\OwnTail h bmB bm:=by
 unfold PySem.W.excIn at q
 split at q
 . next dd cd sl look=>
   split at q
   . next D bm k0 k1 k2 k3 n k5 em es=>
     simp only[Bool.and_eq_true,beq_iff_eq,Bool.not_eq_true'] at q
     obtain⟨⟨⟨⟨⟨q1,q2⟩,q3⟩,q4⟩,q5⟩,q6⟩:=q
     subst q1 q2
     cases cd
     simp only at em q3 q5 q6
     subst em q3
     cases sl
     simp only at es
     subst es
     exact⟨_,_,_,_,_,_,_,_,_,_,_,_,_,_,_,_,_,X _ _ look,.of_isNs (PySem.W.isNs_of_in X q5),PySem.W.nsMap_none_of_in X q5 q6,PySem.W.tail_of_in X q4⟩
   . cases q
 . cases q
def tRaise (C:Addr)(t:TA)(E:XK):TS:=fun _ σ H=>t σ H fun _ H1=>E (.ref C) none H1
theorem ps_raise {X:Cx}{x:Str}{C:Addr}{e:Expr}{t:TA}{E:XK}{np cpos pos:Pos}(hg:Gl X x)(hm:X.mg x=some (.ref C))(q:PySem.W.excIn X.K C bmV "ValueError.__new__" = true) (hc:X.calm=true)(ha:PA X [e] t)
 (hxe:∀(pins:List (Addr×Obj))(σ:St)(H:Hp)(s:Shared)(h':Heap)(ea:Addr)(vs:List Value),Inv X pins σ H s->Heap.MadeExcOf s.heap h' ea (.ref C) vs->E (.ref C) none H->X.xe (.ref ea) { s with heap:=h' })
 (hs:starEach [e] X.env=[(false,eval e X.env)]:=by rfl)(hd:(x==("__debug__" : Str))=false:=by decide) (hl:∀ σ H Q,t σ H Q->t σ H fun vs H1=>vs.length<=1/\Q vs H1) :
 PS X (.Raise (some (.Call (.Name x np) [e] [] cpos)) none pos) (tRaise C t E):=by
 intro pins s σ H D I h
 obtain⟨bm,Nn,nm,qn,bs,hdct,sn,sub,ab,col,dd,k0,k1,k2,k3,k5,mN,hC,hN,hni,T⟩:=exc_obj I.mod.kin q
 refine wpAny_Raise_call_subT (C:=C) (nm:=nm) (q:=qn) (N:=Nn) (bs:=bs) (bm:=bm) (hdct:=hdct) (sn:=sn) (sub:=sub) (ab:=ab) (col:=col) (dd:=dd) (k0:=k0) (k1:=k1) (k2:=k2) (k3:=k3) (k5:=k5)
  PySem.F.excBase_ValueError (mN:=mN) (T.hasType (by rfl)) (I.ok.hd hc) (by rw[hs];rfl) hni (ld_glob I hg hm ⟨rfl,?_⟩ hd)
 have ha':=ha cpos pins s σ H _ I (hl σ H _ h)
 rw[hs] at ha' ⊢
 refine Calls.evalArgs_plain (thn ha' fun us s2 ⟨vs,H2,I2,r2,z2,q2⟩=>?_)
 exact⟨rfl,by rw[<-r2.length];have:sizeLine=16777216:=rfl;show vs.length<=_;omega,I2.bk _ _ hC,hN.keeps I2.bk,T.keeps I2.bk,fun h' ea mx=>hxe pins σ H2 s2 h' ea us I2 mx q2⟩
theorem Fun.okX {P:Program}{w:World}{K:PySem.W.Frag}{mg:Str->Option Value}{base:Heap}{x qual:Str}{st:Stmt}{f:Addr}{fd:FuncData}{N ps:List Str}{k:Nat}{sp:Sp}(F:Fun K x qual st f fd)(S:FnScope N ps (defScope st))(len:∀vs H Q E,sp vs H Q E->vs.length=ps.length)
 (hbody:∀(cdv:Value)(A:Around)(outer:List Env)(s:Shared)(H:Hp)(vs:List V)(Q:VK)(E:XK),Room k (A.deeper (envOfC qual (defScope st) s.heap.objs.size f cdv))->sp vs H Q E ->
  ∃t,PSs (cxOf (CXO P w) P w K mg base N qual (defScope st) f cdv A outer s H E) (defBody st) t/\t { nx:=fun _ H'=>Q .non H',rt:=Q } (start N vs) H):FnOk P w K mg base (CXO P w) (k+1) f fd ps sp:=by
 obtain⟨oc,od,kV,doc,pm,an,cdv,ct,osl,rfl,lk,hcd⟩:=F.ex
 exact fn_of lk hcd S len fun A outer s H vs Q E hr hsp=>hbody cdv A outer s H vs Q E hr hsp
end L2
namespace L2
open PySem PySem.Spec PyProof.Rows
section
variable {X:Cx}{pins:List (Addr×Obj)}{σ:St}{H:Hp}{s:Shared}
theorem unbind_ok {M:Model}{A:Around}{E:Value->Shared->Prop}{i:Nat}{x:Str}{v:V}{Q:Unit->Shared->Prop}(I:Inv X pins σ H s)(hN:X.N.Nodup)(hi:X.N[i]? = some x)(hk:X.env.kindOf x=some .local)(hv:σ[i]? = some (some v))
 (h:∀s',Inv X pins (σ.set i none) H s'->Q () s'):wpAny M A (unbindName X.env x) Q E s:=by
 obtain⟨m,hn,hl⟩:=id I.loc
 have hcls:(X.env.scope.kind == .class || (X.env.scope.kind == .module && X.env.locals != X.env.globals))=false:=by rw[I.ok.kind];rfl
 have hk':X.env.scope.names.lookup x=some .local:=hk
 obtain⟨u,_,lk⟩:=hl i x v hi hv (.inl hk')
 have hm:m x=some u:=by
  rcases lk with ⟨_,e⟩ | ⟨q,_⟩
  . exact e
  . rcases q with q | q <;> (rw[hk] at q;cases q)
 obtain⟨oL,_,_,hoL,_⟩:=id hn
 have neL:∀b o,X.s₀.heap.get? b=some o->b≠X.env.locals:=fun b o e=>Nat.ne_of_lt (Nat.lt_of_lt_of_le (Heap.lt_size e) I.ok.above)
 refine wpAny_unbindName_local hk hn hm hcls fun h' uu hn' hs=>h _ ⟨I.ok,I.os,I.bare,⟨fun b o e n hb hx=>(hs.2 b (neL b o e)).trans (I.base.keep b o e n hb hx),fun b o e n hb hx=>?_,I.base.free,fun b o e hx=>?_,I.base.tups,I.base.frzs,I.base.tbls⟩,⟨_,hn',fun j y v' e1 e2 e3=>?_⟩,fun y c e=>?_,I.free,I.freeC,fun p hp=>?_,fun b ob e=>?_,by simpa using I.len⟩
 . obtain⟨sl,e1⟩:=I.base.slot b o e n hb hx
   exact⟨sl,(hs.2 b (neL b o e)).trans e1⟩
 . obtain⟨o',e1⟩:=I.base.there b o e hx
   exact⟨o',(hs.2 b (neL b o e)).trans e1⟩
 . have hj:j≠i:=fun z=>by
    subst z
    have:j<σ.length:=(List.getElem?_eq_some_iff.mp hv).1
    rw[List.getElem?_set_self this] at e2
    cases e2
   rw[List.getElem?_set_ne (Ne.symm hj)] at e2
   obtain⟨u',r',q⟩:=hl j y v' e1 e2 e3
   refine⟨u',r',?_⟩
   rcases q with ⟨k,e⟩ | ⟨k,c,e,z⟩
   . have ny:y≠x:=fun e=>hj (nodup_ix hN e1 (e ▸ hi))
     exact .inl ⟨k,by simp[ny,e]⟩
   . exact .inr ⟨k,c,e,z.sameBut hs (I.cne y c e)⟩
 . obtain⟨w',z⟩:=I.cell y c e
   exact⟨w',z.sameBut hs (I.cne y c e)⟩
 . obtain⟨e,n,ne,nf,d⟩:=I.pin p hp
   exact⟨(hs.2 p.1 ne).trans e,n,ne,nf,d⟩
 . refine (I.hok b ob e).stay (fun c w' hc q=>(hs.2 c ?_).trans q) (fun _ q=>q) fun _ _ q=>q
   rintro rfl
   rcases hc with rfl | hc
   . rw[I.free] at e;cases e
   . rw[I.free] at hc;cases hc
end
theorem match_base {M:Model}{A:Around}{E:Value->Shared->Prop}{s:Shared}{nm qn nm' qn':Str}{C W Nn Nn':Addr}{bs bm bs' bm':List Value}{hdct hdct':Bool}{sn sn':List Str}{sub sub':List Value}{ab ab':Bool}{col col':Option Bool}{dd dd':Option Addr}
 {k0 k1 k2 k3 k5 k0' k1' k2' k3' k5':Option Value}{newId newId':String}{e:Addr}{oe:Obj}{Q:Bool->Shared->Prop}
 (hC:s.heap.get? C=some (excClassObj nm qn C Nn bs bm hdct sn sub ab col dd k0 k1 k2 k3 k5 newId))(hW:s.heap.get? W=some (excClassObj nm' qn' W Nn' bs' bm' hdct' sn' sub' ab' col' dd' k0' k1' k2' k3' k5' newId'))
 (he:s.heap.get? e=some oe)(hcls:oe.cls = .ref C)(hb:bm'.contains (.type "BaseException")=true) (hs:(Value.ref C::bm).contains (.ref W)=true)(hq:Q true s):wpAny M A (excMatches (.ref e) (.ref W)) Q E s:=by
 obtain⟨h,g,d,t,os⟩:=s
 have hWB:(Value.ref W::bm').contains (.type "BaseException")=true:=by rw[List.contains_cons,hb,Bool.or_true]
 have f:=tc_notTuple
 unfold excMatches
 repeat (first | (with_reducible refine wpAny_loadPart_at he ?_;rw[hcls]) | with_reducible refine wpAny_loadPart_at hW ?_ | (with_reducible refine wpAny_isSubtype_exc hW ?_;rw[hWB]) | (with_reducible refine wpAny_isSubtype_exc hC ?_;rw[hs]) | wp_step)
 exact hq
end L2
namespace L2
open PySem PySem.Spec PyProof.Rows
def subIn (K:PySem.W.Frag)(C W:Addr):Bool:=match K.lookup C with
 | some ⟨_,_,.cls cd,_⟩=>cd.mro.contains (.ref W)
 | _=>false
theorem sub_of {K:PySem.W.Frag}{h:Heap}{C W:Addr}{nm qn:Str}{Nn:Addr}{bs bm:List Value}{hdct:Bool}{sn:List Str}{sub:List Value}{ab:Bool}{col:Option Bool}{dd:Option Addr}{k0 k1 k2 k3 k5:Option Value}{newId:String}
 (X:K.In h)(q:subIn K C W=true)(hC:h.get? C=some (excClassObj nm qn C Nn bs bm hdct sn sub ab col dd k0 k1 k2 k3 k5 newId)):(Value.ref C::bm).contains (.ref W)=true:=by
 unfold subIn at q
 split at q
 . next look=>
   have e:=(X _ _ look).symm.trans hC
   unfold excClassObj at e
   cases e
   exact q
 . cases q
def Cx.held (X:Cx)(ea:Addr)(oe:Obj):Cx:={ X with A:=X.A.mark (some (.ref ea)),calm:=false,pn:=(ea,oe)::X.pn,xe:=fun _ _=>False }
section
variable {X:Cx}{pins:List (Addr×Obj)}{σ:St}{H:Hp}{s:Shared}{ea:Addr}{oe:Obj}
theorem Inv.hold (I:Inv X pins σ H s)(h1:s.heap.get? ea=some oe)(h2:H ea=none)(h3:ea≠X.env.locals)(h4:ea∉X.fs)(h5:∀v,oe.data ≠ .cell v):Inv (X.held ea oe) pins σ H s:=
 ⟨⟨I.ok.mod,I.ok.kind,I.ok.glob,I.ok.blt,I.ok.above,I.ok.inj,I.ok.has,I.ok.cab,(fun z=>by cases z),I.ok.frames,I.ok.stk,I.ok.exf,I.ok.bs,I.ok.bsz,I.ok.noex,I.ok.exfs,I.ok.funs,I.ok.frf⟩,I.os,I.bare,I.base,I.loc,I.cell,I.free,I.freeC,
  fun p hp=>by
   rcases List.mem_cons.mp (show p∈(ea,oe)::(X.pn++pins) from hp) with rfl | hp
   . exact⟨h1,h2,h3,h4,h5⟩
   . exact I.pin p hp,I.hok,I.len⟩
theorem Inv.letgo (ok:X.Ok)(I:Inv (X.held ea oe) pins σ H s):Inv X pins σ H s:=
 ⟨ok,I.os,I.bare,I.base,I.loc,I.cell,I.free,I.freeC,fun p hp=>I.pin p (List.mem_cons_of_mem _ hp),I.hok,I.len⟩
end
theorem landed_un {st:List Env}{H1 H':Hp}{s1 s':Shared}{ea:Addr}{C a0:Value}{B h5:Heap}(un:Un (frs st) [] H1 H' s1.heap s'.heap)(fl:Heap.FlyingW B st ea C a0 s'.heap)
 (old:∀b o,s1.heap.get? b=some o->H1 b=none->b∉frs st->B.get? b=some o)(al:∀b o,s1.heap.get? b=some o->b∉frs st->∃o',B.get? b=some o')(st5:B.StaysIn h5)(up:s'.heap.UpToSlots h5):Un (frs st) [] H1 H' s1.heap h5:=by
 refine⟨fun b o e n hb _=>st5 b o (old b o e n hb),fun b o e n hb _=>?_,un.free,fun b o e _=>?_,un.tups,un.frzs,un.tbls⟩
 . obtain⟨sl2,e2⟩:=un.slot b o e n hb (by intro z;cases z)
   obtain⟨_,o3,e3,nd⟩:=fl.2.2.1.mem hb
   obtain⟨sl4,e4⟩:=up b _ e3 nd
   have e5:=Option.some.inj (e3.symm.trans e2)
   rw[e5] at e4
   exact⟨sl4,e4⟩
 . by_cases hb:b∈frs st
   . obtain⟨_,o3,e3,nd⟩:=fl.2.2.1.mem hb
     obtain⟨sl4,e4⟩:=up b _ e3 nd
     exact⟨_,e4⟩
   . obtain⟨o3,e3⟩:=al b o e hb
     exact⟨_,st5 b o3 e3⟩
def endsH (i:Nat)(D:Ends):Ends:={ D with nx:=fun σ H=>D.nx (σ.set i none) H,bk:=fun σ H=>D.bk (σ.set i none) H,ct:=fun σ H=>D.ct (σ.set i none) H }
def EH (K:PySem.W.Frag)(W:Addr)(ts:Addr->Obj->Addr->TS)(i:Nat)(D:Ends)(σ:St):XK:=fun C _ H'=>∃Ca,C = .ref Ca/\PySem.W.excIn K Ca bmV "ValueError.__new__" = true/\subIn K Ca W=true/\∀ea oe,oe.cls = .ref Ca->H' ea=none->ts ea oe Ca (endsH i D) (σ.set i (some (.ref ea))) H'
def tTry (K:PySem.W.Frag)(W:Addr)(tb:XK->TS)(ts:Addr->Obj->Addr->TS)(i:Nat):TS:=fun D σ H=>tb (EH K W ts i D σ) D σ H
def PX (X:Cx)(body:List Stmt)(tb:XK->TS):Prop:=∀(pins:List (Addr×Obj))(s:Shared)(σ:St)(H:Hp)(D:Ends)(E1:XK),Inv X pins σ H s->tb E1 D σ H ->
 wpAny (model X.prog X.w) X.A (execs body X.env) (SP X pins D) (fun e s'=>∃H1 s1,Inv X pins σ H1 s1/\CXO X.prog X.w X.stack H1 s1 E1 e s') s
theorem ps_try {X:Cx}{body:List Stmt}{n x:Str}{i:Nat}{b0:Stmt}{suite:List Stmt}{pos hpos np:Pos}{W:Addr}{tb:XK->TS}{ts:Addr->Obj->Addr->TS}(hN:X.N.Nodup)(hi:X.N[i]? = some n)(hk:X.env.kindOf n=some .local)
 (hst:X.stack=X.env::X.outer)(hfl:X.env.frame=some X.env.locals)(hex:X.ex=[])(hg:Gl X x)(hm:X.mg x=some (.ref W))(qW:PySem.W.excIn X.K W bmV "ValueError.__new__" = true)
 (hb:PX X body tb)(hs:∀(ea:Addr)(oe:Obj)(C:Addr),oe.cls = .ref C->PSs (X.held ea oe) (b0::suite) (ts ea oe C))(hd:(x==("__debug__" : Str))=false:=by decide) :
 PS X (.Try body [.ExceptHandler (some (.Name x np)) (some n) (b0::suite) hpos] [] [] pos) (tTry X.K W tb ts i):=by
 intro pins s σ H D I h
 refine wpAny_Try_except (wpAny_mono (hb pins s σ H D _ I h) (fun fl s' hq=>?_) fun e s' hq=>?_)
 . cases fl with
   | next=>exact wpAny_execs_nil hq
   | brk=>exact hq
   | cont=>exact hq
   | ret u=>exact hq
 . obtain⟨H1,s1,I1,ea,t,C,H',B,rfl,os,bare,un,hok,fl,tr,old,al,Ca,rfl,qC,sub,hts⟩:=hq
   have hfr:X.A.frames=some (X.env::X.outer):=by rw[<-hst];exact I.ok.frames
   have fl':=fl
   rw[hst] at fl'
   have hHe:H' ea=none:=by
    cases z:H' ea with
    | none=>rfl
    | some u=>
     obtain⟨o,ho⟩:=tr ea u z
     rw[fl.2.1] at ho;cases ho
   refine wpAny_looks_onW hfr hfl fl' fun h4 held up4=>?_
   refine wpAny_landsW held fun h5 fl5 up5=>?_
   have key:∀(h6:Heap),Heap.FlyingW B (X.env::X.outer) ea (.ref Ca) (.ref t) h6->s'.heap.UpToSlots h6->∃oe,h6.get? ea=some oe/\oe.cls = .ref Ca/\Inv (X.held ea oe) pins σ H' { s' with heap:=h6 }:=fun h6 fl6 up6=>by
    obtain⟨oe,ws,hoe,hc,hdt,_⟩:=fl6.first
    have un6:Un (frs X.stack) [] H1 H' s1.heap h6:=landed_un un fl old al fl6.1 up6
    have I6:Inv X pins σ H' { s' with heap:=h6 }:=I1.call' (s':={ s' with heap:=h6 }) os un6 (hok.stays fl.1 fl6.1 tr) bare (fun b z=>absurd z (by simp))
    have nfr:ea∉frs X.stack:=fun z=>by
     rw[hst] at z
     obtain⟨_,o,ho,nd⟩:=fl6.2.2.1.mem z
     rw[hoe] at ho
     cases ho
     exact nd ws hdt
    have hfs:frs X.stack=X.env.locals::X.fs:=by
     rw[hst]
     unfold frs
     rw[List.filterMap_cons,hfl]
     rfl
    rw[hfs] at nfr
    exact⟨oe,hoe,hc,I6.hold hoe hHe (fun z=>nfr (z ▸ List.mem_cons_self)) (fun z=>nfr (List.mem_cons_of_mem _ z)) (fun v z=>by rw[hdt] at z;cases z)⟩
   obtain⟨oe5,hoe5,hc5,I5⟩:=key h5 fl5 (up4.trans up5)
   refine wpAny_handleBy_cons (codeAny_handlers_test (ld_glob (X:=X.held ea oe5) I5 hg hm ?_ hd)) (by intro q;cases q)
   obtain⟨bm,Nn,nm,qn,bs,hdct,sn,sb,ab,col,dd,k0,k1,k2,k3,k5,mN,hC,_,_,_⟩:=exc_obj I5.kIn qC
   obtain⟨bm',Nn',nm',qn',bs',hdct',sn',sb',ab',col',dd',k0',k1',k2',k3',k5',mN',hW,_,_,TW⟩:=exc_obj I5.kIn qW
   refine match_base hC hW hoe5 hc5 (TW.hasType (by rfl)) (sub_of I5.kIn sub hC) ?_
   refine codeAny_handlers_suite_as (lands_againW fl5 fun h6 fl6 up6=>?_)
   obtain⟨oe6,hoe6,hc6,I6⟩:=key h6 fl6 ((up4.trans up5).trans up6)
   refine store_ok (X:=X.held ea oe6) I6 hN hi (.inl hk) (v:=.ref ea) rfl (fun s7 I7=>?_) (.inr hk)
   refine wpAny_mono (hs ea oe6 Ca hc6 pins s7 _ H' (endsH i D) I7 (hts ea oe6 hc6 hHe)) (fun f s8 hq=>?_) fun _ _ z=>z.elim
   have fin:∀{σ':St}{H2:Hp}{Q:Unit->Shared->Prop},Inv (X.held ea oe6) pins σ' H2 s8->(∀s9,Inv X pins (σ'.set i none) H2 s9->Q () s9)->wpAny (model X.prog X.w) X.A (do bindName X.env n .none;unbindBehindTheSuite X.env n hpos) Q X.xe s8:=fun {σ' H2 Q} J hQ=>by
    have J1:=Inv.letgo I.ok J
    have hiσ:i<σ'.length:=by rw[J1.len];exact (List.getElem?_eq_some_iff.mp hi).1
    refine wpAny_bind (wpAny_bindName (store_ok J1 hN hi (.inl hk) (v:=.non) rfl (fun s9 J2=>?_) (.inr hk)))
    unfold unbindBehindTheSuite
    refine wpAny_onRaise (unbind_ok J2 hN hi hk (v:=.non) (List.getElem?_set_self hiσ) fun s10 J3=>?_)
    rw[List.set_set] at J3
    exact hQ s10 J3
   cases f with
   | next=>
    obtain⟨σ',H2,J,q⟩:=hq
    exact fin J fun s9 J9=>⟨_,H2,J9,q⟩
   | brk=>
    obtain⟨σ',H2,J,q⟩:=hq
    exact fin J fun s9 J9=>⟨_,H2,J9,q⟩
   | cont=>
    obtain⟨σ',H2,J,q⟩:=hq
    exact fin J fun s9 J9=>⟨_,H2,J9,q⟩
   | ret u=>
    obtain⟨v,σ',H2,J,r,q⟩:=hq
    exact fin J fun s9 J9=>⟨v,_,H2,J9,r,q⟩
end L2
namespace L2
open PySem PySem.Spec PySem.W PyProof.Rows Builtin Builtin.ObjectAttr Builtin.Getset_descriptor
section
variable {prog:Program}{w:World}{A:Around}{E:Value->Shared->Prop}{s:Shared}{K:Frag}{x C:Addr}{ox:Obj}
structure ExcAt (K:Frag)(C:Addr):Prop where
 ga:findIn K (.ref C) "__getattribute__" = some (some (.builtin "BaseException.__getattribute__"))
 gn:findIn K (.ref C) "__getattr__" = some none
 cl:findIn K (.ref C) "__class__" = some (some (.builtin "object.__class__"))
 mo:mroIn K C (.type "object")=some true
 mb:mroIn K C (.type "BaseException")=some true
 ci:(clsIn K C).isSome=true
def IsExc (h:Heap)(x C:Addr):Prop:=∃o,h.get? x=some o/\o.cls = .ref C
theorem IsExc.type {M:Model}{h:Heap}{x C:Addr}(I:IsExc h x C):Looks M h (typeOf (.ref x)) (.ref C):=by
 obtain⟨o,e,c⟩:=I
 rw[<-c]
 exact (Looks.ld e).andThen .now
theorem exc_cget {tp:Value}{R:Result->Shared->Prop}(X:K.In s.heap)(I:IsExc s.heap x C)(hm:mroIn K C (.type "object")=some true) (h:R (.ok (.ret (.ref C))) s) :
 codeAny (model prog w) A (.call (.builtin "getset_descriptor.__get__") ⟨[.builtin "object.__class__",.ref x,tp],[]⟩) R s:=by
 obtain⟨h0,g0,d0,t0,o0⟩:=s
 have T0:=I.type (M:=model prog w)
 have T1:=looks_mroIn (M:=model prog w) X hm
 refine codeAny_call_builtin KF.slot_gs.plain KF.entry_gs (KF.slot_gs.check _ _ _ _ _ _ _ _ KF.type_class (KF.args_gs _ _ _) ?_)
 unfold Builtin.«getset_descriptor.__get__» descrGet;rw[dga_obj]
 apply wpAny_bind;apply wpAny_pure
 unfold descrGetter descrCheckInstance descrNameAndClass isInstance;simp only[KF.owner_class]
 repeat lk
 refine⟨Code.quiet_builtin _ (by decide +kernel),codeAny_builtin KF.entry_class (?_:wpAny _ _ _ _ _ _)⟩
 unfold Builtin.«object.__class__»;unfold shownTypeOf
 repeat lk
 exact h
theorem exc_entry {tk:Tok}{Q:PySem.Fin->Shared->Prop}(X:K.In s.heap)(I:IsExc s.heap x C)(F':ExcAt K C)(hq:Q (.done (.ret (.ref C))) s) :
 wpAny (model prog w) A (Builtin.«object.__getattribute__» ⟨[.ref x,.str "__class__" tk],[]⟩) Q E s:=by
 obtain⟨h,g,d,t,os⟩:=s
 have L0:=I.type (M:=model prog w)
 have L1:=looks_findIn (M:=model prog w) X F'.cl
 have hT5:(⟨h,g,d,t,os⟩:Shared).TypeIs (.builtin "object.__class__") "getset_descriptor" := F.typeOf_object_class
 have f5:=F.typeOf_object_class
 have f6:=F.slot_gs_get.lookup
 have f7:=F.slot_gs_set.lookup
 repeat (any_goals (first | assumption | with_reducible refine L0.at ?_ | with_reducible refine L1.at ?_ | wp_step))
 refine exc_cget (s:=⟨h,g,d,t,os⟩) X I F'.mo ?_
 repeat (any_goals (first | assumption | wp_step))
theorem exc_check {M:Model}{nameV:Value}{Q:Unit->Shared->Prop}(X:K.In s.heap)(I:IsExc s.heap x C)(F':ExcAt K C)(hq:Q () s):wpAny M A (checkBuiltinCall "BaseException.__getattribute__" ⟨[.ref x,nameV],[]⟩) Q E s:=by
 obtain⟨h,g,d,t,os⟩:=s
 have L0:=I.type (M:=M)
 have L1:=looks_mroIn (M:=M) X F'.mb
 have e1:builtinKind "BaseException.__getattribute__" = some .slot:=by decide +kernel
 have e2:splitId "BaseException.__getattribute__" = some ("BaseException", "__getattribute__"):=by decide +kernel
 have ha:=F.args_bexc_ga (.ref x) nameV
 simp only[checkBuiltinCall,e1,e2]
 refine wpAny_bind ?_
 unfold isInstance
 repeat (any_goals (first | assumption | with_reducible refine L0.at ?_ | with_reducible refine L1.at ?_ | wp_step))
theorem exc_call {tk:Tok}{R:Result->Shared->Prop}(X:K.In s.heap)(I:IsExc s.heap x C)(F':ExcAt K C)(hq:R (.ok (.ret (.ref C))) s) :
 codeAny (model prog w) A (.call (.builtin "BaseException.__getattribute__") ⟨[.ref x,.str "__class__" tk],[]⟩) R s:=
 codeAny_call_builtin F.attrBase_ValueError.ga.plain F.entry_bexc_ga (exc_check X I F' (exc_entry X I F' hq))
theorem exc_by {tk:Tok}{fill:Bool}{Q:Value->Shared->Prop}(X:K.In s.heap)(I:IsExc s.heap x C)(F':ExcAt K C)(hq:Q (.ref C) s):wpAny (model prog w) A (getAttrBy (.ref x) (.str "__class__" tk) fill) Q E s:=by
 obtain⟨h,g,d,t,os⟩:=s
 have L0:=I.type (M:=model prog w)
 have L1:=looks_findIn (M:=model prog w) X F'.ga
 have L2:=looks_findIn (M:=model prog w) X F'.gn
 have f3:=F.attrBase_ValueError.ga.bind (.ref x)
 have hx2:(Value.builtin "BaseException.__getattribute__" == Value.builtin "object.__getattribute__")=false:=by decide +kernel
 have hx1:(onTheHeap (Value.ref C) && Value.builtin "BaseException.__getattribute__" == Value.builtin "object.__getattribute__")=false:=by rw[hx2];rfl
 repeat (any_goals (first | assumption | with_reducible refine L0.at ?_ | with_reducible refine L1.at ?_ | with_reducible refine L2.at ?_ | wp_step))
 refine exc_call (s:=⟨h,g,d,t,os⟩) X I F' ?_
 repeat (any_goals (first | assumption | wp_step))
theorem exc_attr {Q:Option Value->Shared->Prop}(X:K.In s.heap)(I:IsExc s.heap x C)(F':ExcAt K C)(hq:Q (some (.ref C)) { s with toks:=s.toks+1 }):wpAny (model prog w) A (getAttr? (.ref x) "__class__") Q E s:=by
 obtain⟨h,g,d,t,os⟩:=s
 unfold getAttr? getAttrBy?
 repeat (any_goals (first | assumption | with_reducible apply exc_by (s:=⟨h,g,d,t+1,os⟩) X I F' | wp_step))
theorem kitx_exc (F':ExcAt K C):KitX K (.ref x) (.ref C) (fun h=>IsExc h x C) where
 ty:=fun _ _ _ I=>I.type
 it:=fun _ _ X _=>by
  obtain⟨cdD,hcD⟩:=Option.isSome_iff_exists.mp F'.ci
  unfold clsIn at hcD
  split at hcD
  . next ho=>
    intro A' Q' E' s' k q
    unfold isType loadHead
    exact wpAny_bind (wpAny_loadPart (k _ _ (X _ _ ho)) (wpAny_pure q))
  . cases hcD
 ne:=fun h tp dd its n sl X htp=>by
  obtain⟨cdD,hcD⟩:=Option.isSome_iff_exists.mp F'.ci
  refine Bool.eq_false_iff.mpr fun q=>?_
  have e:C=tp:=Value.ref.inj (beq_iff_eq.mp q)
  subst e
  unfold clsIn at hcD
  split at hcD
  . next ho=>
    have z:=(X _ _ ho).symm.trans htp
    cases z
  . cases hcD
 ca:=fun X I k=>exc_attr X I F' k
end
structure HeldAt (X:Cx)(ea C:Addr):Prop where
 pin:∃oe,(ea,oe)∈X.pn/\oe.cls = .ref C
section
variable {X:Cx}
theorem held_inst {pins:List (Addr×Obj)}{σ:St}{H:Hp}{s:Shared}{ea C:Addr}(h:HeldAt X ea C)(I:Inv X pins σ H s):IsExc s.heap ea C:=by
 obtain⟨oe,hp,hc⟩:=h.pin
 obtain⟨e,_⟩:=I.pin (ea,oe) (List.mem_append_left _ hp)
 exact⟨oe,e,hc⟩
theorem call_isinstX {ea C:Addr}(hh:HeldAt X ea C):CallR X (.builtin "isinstance") (fun xs H Q=>∃W b,ExcAt X.K C/\xs=[.ref ea,.ref W]/\PySem.W.kitOne X.K (.ref C) (.ref W)=some b/\Q (.bl b) H):=by
 intro pins s σ H xs us Q I r h
 obtain⟨W,b,F',rfl,e,q⟩:=h
 obtain⟨u,w',rfl,rx,rT⟩:=vals2 r
 cases (show u=Value.ref ea from rx)
 cases (show w'=Value.ref W from rT)
 have J:=held_inst hh I
 exact PySem.W.kia_one (kitx_exc F') I.kIn J e (fun z=>nomatch z) fun tk=>⟨.bl b,H,I.tok tk,rfl,q⟩
theorem call_isinstXT {ea C:Addr}(hh:HeldAt X ea C):CallR X (.builtin "isinstance") (fun xs H Q=>∃T b,ExcAt X.K C/\xs=[.ref ea,.ty T]/\PySem.W.kitOne X.K (.ref C) (.type T)=some b/\Q (.bl b) H):=by
 intro pins s σ H xs us Q I r h
 obtain⟨T,b,F',rfl,e,q⟩:=h
 obtain⟨u,w',rfl,rx,rT⟩:=vals2 r
 cases (show u=Value.ref ea from rx)
 cases (show w'=Value.type T from rT)
 have J:=held_inst hh I
 exact PySem.W.kia_one (kitx_exc F') I.kIn J e (fun z=>nomatch z) fun tk=>⟨.bl b,H,I.tok tk,rfl,q⟩
theorem call_isinstXs {ea C:Addr}(hh:HeldAt X ea C):CallR X (.builtin "isinstance") (fun xs H Q=>∃(tp:Addr)(Ws:List Addr)(b:Bool),ExcAt X.K C/\xs=[.ref ea,.ref tp]/\H tp=some (.tup (Ws.map V.ref))/\PySem.W.kitAny X.K (.ref C) (Ws.map Value.ref)=some b/\Q (.bl b) H):=by
 intro pins s σ H xs us Q I r h
 obtain⟨tp,Ws,b,F',rfl,ht,e,q⟩:=h
 obtain⟨u,w',rfl,rx,rT⟩:=vals2 r
 cases (show u=Value.ref ea from rx)
 cases (show w'=Value.ref tp from rT)
 have J:=held_inst hh I
 obtain⟨⟨z,o2,e2,d2⟩,its,rv,ob,e3,c3,n3,s3⟩:=(show ObjOk X.prog X.w H s.heap tp (.tup (Ws.map V.ref)) from I.hok tp _ ht)
 have hits:its=Ws.map Value.ref:=by
  have:∀(Ws:List Addr)(its:List Value),Vals (Ws.map V.ref) its->its=Ws.map Value.ref:=by
   intro Ws
   induction Ws with
   | nil=>intro its h;cases h;rfl
   | cons a r ih=>
    intro its h
    cases h with
    | cons h1 h2=>rw[ih _ h2,show _=Value.ref a from h1];rfl
  exact this Ws its rv
 obtain⟨c',d',da',sl'⟩:=ob
 simp only at c3 s3
 subst c3 s3 hits
 exact PySem.W.kia_tup (kitx_exc F') I.kIn J e3 e (fun z=>nomatch z) fun tk=>⟨.bl b,H,I.tok tk,rfl,q⟩
theorem held_at {X:Cx}{ea C:Addr}{oe:Obj}(h:oe.cls = .ref C):HeldAt (X.held ea oe) ea C:=⟨⟨oe,List.mem_cons_self,h⟩⟩
variable {k:Nat}{f:Addr}{fd:FuncData}{ps:List Str}{sp:Sp}{x:Str}{p pos epos:Pos}{e:Expr}{es:List Expr}{t:TA}
theorem call_x {pins:List (Addr×Obj)}{s:Shared}{σ:St}{H:Hp}{Q:VK}{E1:XK}(F:FnOk X.prog X.w X.K X.mg X.base (CXO X.prog X.w) k f fd ps sp)(hr:Room k X.A)(hg:Gl X x)(hm:X.mg x=some (.ref f))(hk:PySem.W.keepIn X.K (.ref f)=true)(hb:Binds X.K fd ps [])
 (ha:PA X.nox (e::es) t)(I:Inv X pins σ H s)(h:t σ H fun vs H1=>sp vs H1 Q E1)(hdb:(x==("__debug__" : Str))=false:=by decide) (he:starEach (e::es) X.env=(false,eval e X.env)::starEach es X.env:=by rfl)(hpl:(backTo pos (starEach es X.env)).any (·.1)=false:=by rfl) :
 wpAny (model X.prog X.w) X.A (eval (.Call (.Name x p) (e::es) [] pos) X.env) (EP X pins σ Q) (fun e s'=>∃H1 s1,Inv X pins σ H1 s1/\CXO X.prog X.w X.stack H1 s1 E1 e s') s:=by
 refine wpAny_Call_Name_kw (ld_glob I hg hm ?_ hdb)
 refine PySem.W.callWith_K (h₀:=X.base) I.ok.mod.kin hk (wpAny_mono (ha pos pins s σ H _ (I.wish _) h) (fun us s1 ⟨vs,H1,I1,r,q⟩=>⟨I1.unwish.kIn,?_⟩) fun _ _ z=>False.elim z) he hpl
 have I2:=I1.unwish
 have hl:us.length=ps.length:=by rw[<-r.length];exact F.len _ _ _ _ q
 refine wpAny_call (codeAny_mono (F.run X.A X.stack s1 H1 ⟨us,[]⟩ us vs Q E1 hr I2.env0 (by have:=hb s1 us I2.kIn (by rw[List.append_nil];exact hl);rw[List.append_nil] at this;exact this) r q) fun r s' hq=>?_)
 cases r with
 | error e=>exact⟨H1,s1,I2,hq⟩
 | ok fl=>
  cases fl with
  | ret u=>exact I2.after hq
  | next=>exact False.elim hq
  | brk=>exact False.elim hq
  | cont=>exact False.elim hq
theorem px_expr (F:FnOk X.prog X.w X.K X.mg X.base (CXO X.prog X.w) k f fd ps sp)(hr:Room k X.A)(hg:Gl X x)(hm:X.mg x=some (.ref f))(hk:PySem.W.keepIn X.K (.ref f)=true)(hb:Binds X.K fd ps [])
 (ha:PA X.nox (e::es) t)(hs:swapsWith (.Call (.Name x p) (e::es) [] pos) none epos.line X.env=pure false:=by rfl)(hdb:(x==("__debug__" : Str))=false:=by decide) (he:starEach (e::es) X.env=(false,eval e X.env)::starEach es X.env:=by rfl)(hpl:(backTo pos (starEach es X.env)).any (·.1)=false:=by rfl) :
 PX X [.Expr (.Call (.Name x p) (e::es) [] pos) epos] (fun E1 D σ H=>t σ H fun vs H1=>sp vs H1 (fun _ H2=>D.nx σ H2) E1):=by
 intro pins s σ H D E1 I h
 refine wpAny_execs_cons (wpAny_Expr_any (wpAny_mono (call_x F hr hg hm hk hb ha I h hdb he hpl) (fun v s1 ⟨y,H1,I1,r1,q1⟩=>?_) fun _ _ z=>z) I.quiet hs)
 exact wpAny_execs_nil ⟨σ,H1,I1,q1⟩
end
end L2
namespace L2
open PySem PySem.Spec PyProof.Rows
theorem rev_pick (l:List Value):((List.range l.length).filterMap fun m=>l[l.length-1-m]?)=l.reverse:=by
 have e:((List.range l.length).filterMap fun m=>l[l.length-1-m]?)=((List.range l.length).map fun k=>l.length-1-k).filterMap (l[·]?):=by
  rw[List.filterMap_map];rfl
 have h:=PySem.W.krv_all l.toArray
 rw[List.size_toArray] at h
 rw[e,PySem.W.krv_range,List.filterMap_reverse]
 congr 1
 simpa using h
theorem sliceRange_dn (n:Nat):sliceRange ((n:Int)-1) (-1) (-1)=(List.range n).map fun k=>n-1-k:=by
 unfold sliceRange
 rw[if_neg (by decide)]
 cases n with
 | zero=>rfl
 | succ m=>
  rw[if_pos (by omega)]
  have e:(((m+1:Nat):Int)-1 - -1 - -1-1)/(- -1)=((m+1:Nat):Int):=by rw[Int.neg_neg,Int.ediv_one];omega
  rw[e]
  show List.map _ (List.range ((m+1:Nat):Int).toNat)=_
  rw[Int.toNat_natCast]
  apply List.map_congr_left
  intro k hk
  have:=List.mem_range.mp hk
  omega
theorem sliceRange_dn0 (n:Nat):sliceRange (n:Int) 0 (-1)=(List.range n).map fun k=>n-k:=by
 unfold sliceRange
 rw[if_neg (by decide)]
 cases n with
 | zero=>rfl
 | succ m=>
  rw[if_pos (by omega)]
  have e:(((m+1:Nat):Int)-0 - -1-1)/(- -1)=((m+1:Nat):Int):=by rw[Int.neg_neg,Int.ediv_one];omega
  rw[e]
  show List.map _ (List.range ((m+1:Nat):Int).toNat)=_
  rw[Int.toNat_natCast]
  apply List.map_congr_left
  intro k hk
  have:=List.mem_range.mp hk
  omega
theorem pick_rv (its:List Value):slicePick its.toArray none none (some (-1))=its.reverse.toArray:=by
 unfold slicePick
 rw[show sliceBounds none none (some (-1)) its.toArray.size=((its.length:Int)-1,-1,-1) by simp[sliceBounds]]
 rw[sliceRange_dn,List.filterMap_map,<-rev_pick]
 congr 1
 apply HT.fm_congr
 intro m hm
 show its.toArray[its.length-1-m]? = _
 rw[List.getElem?_toArray]
theorem pick_rv0 (a:Value)(l:List Value):slicePick (a::l).toArray none (some 0) (some (-1))=l.reverse.toArray:=by
 unfold slicePick
 rw[show sliceBounds none (some 0) (some (-1)) (a::l).toArray.size=((l.length:Int),0,-1) by simp[sliceBounds] <;> omega]
 rw[sliceRange_dn0,List.filterMap_map,<-rev_pick]
 congr 1
 apply HT.fm_congr
 intro m hm
 have:=List.mem_range.mp hm
 show (a::l).toArray[l.length-m]? = _
 rw[List.getElem?_toArray,show l.length-m=(l.length-1-m)+1 by omega,List.getElem?_cons_succ]
section
variable {X:Cx}{e:Expr}{te:TE}{pos p2:Pos}
def tRevL (K:PySem.W.Frag)(te:TE):TE:=fun σ H Q=>te σ H fun x H1=>∃a xs,x = .ref a/\SqL K H1 a xs/\∀p,H1 p=none->Q (.ref p) (upd H1 p (.lst xs.reverse))
def tRev0 (K:PySem.W.Frag)(te:TE):TE:=fun σ H Q=>te σ H fun x H1=>∃a y xs,x = .ref a/\SqL K H1 a (y::xs)/\∀p,H1 p=none->Q (.ref p) (upd H1 p (.lst xs.reverse))
theorem pe_revL {m:Expr}{ops:Value->Value->List Value}(he:PE X e te)(hm:PE X m (tC (.int (-1))))(hsub:∀a d,subscripted (.Slice none none (some m) p2) false a d=operate (ops a d) (getItem a d)):PE X (.Subscript e (.Slice none none (some m) p2) pos) (tRevL X.K te):=by
 intro pins s σ H Q I h
 refine Subscript_ (thn (he pins s σ H _ I h) fun v s1 ⟨x,H1,I1,r1,q1⟩=>?_)
 obtain⟨a,xs,rfl,hx,q⟩:=q1
 refine wpAny_Slice ?_
 rw[evalPart_none]
 refine wpAny_pure (wpAny_pure ?_)
 rw[evalPart_some]
 refine thn (hm pins s1 σ H1 (fun y H2=>y = .int (-1)/\H2=H1) I1 ⟨rfl,rfl⟩) fun vk s3 ⟨y,H3,I3,rk,ey,eH⟩=>?_
 subst ey eH
 obtain⟨t,rfl⟩:=rk
 cases r1
 have I4:Inv X pins σ H3 { s3 with heap:=s3.heap.push { cls:=.type "slice",data:=.fields #[.none,.none,.int (-1) t] } }:=I3.kept (t':=s3.toks) fun b ob q=>Heap.get?_push_of_some _ q
 obtain⟨its,r,ht,hz⟩:=I4.list hx
 have hlen:=r.length
 show wpAny (model X.prog X.w) X.A (subscriptTail e (.Slice none none (some m) p2) (.ref a) (.ref s3.heap.objs.size)) (EP X pins σ Q) X.xe { s3 with heap:=s3.heap.push { cls:=.type "slice",data:=.fields #[.none,.none,.int (-1) t] } }
 refine tail_any (ops:=ops (.ref a) (.ref s3.heap.objs.size)) ht.isList.typeIs slot_list_getitem.lookup (wpAny_getItem_list_slice ht.isList ⟨_,Heap.get?_push_size _ rfl,rfl,rfl⟩ .none .none (.int (-1) t) (by decide) ?_ (by rw[List.size_toArray];omega)) (hsub _ _)
 rw[pick_rv]
 refine⟨.ref _,_,I4.laid (t':=s3.toks) (o:=.lst xs.reverse) (fun b ob q=>Heap.get?_push_of_some _ q) (Nat.le_refl _) ?_,rfl,q _ (I4.hok.fresh (Nat.le_refl _))⟩
 exact⟨by rw[List.length_reverse];exact hz,_,0,vals_reverse r,Heap.get?_push_size _ rfl⟩
theorem pe_rev0 {z m:Expr}{ops:Value->Value->List Value}(he:PE X e te)(hz0:PE X z (tC (.int 0)))(hm:PE X m (tC (.int (-1))))(hsub:∀a d,subscripted (.Slice none (some z) (some m) p2) false a d=operate (ops a d) (getItem a d)):PE X (.Subscript e (.Slice none (some z) (some m) p2) pos) (tRev0 X.K te):=by
 intro pins s σ H Q I h
 refine Subscript_ (thn (he pins s σ H _ I h) fun v s1 ⟨x,H1,I1,r1,q1⟩=>?_)
 obtain⟨a,y,xs,rfl,hx,q⟩:=q1
 refine wpAny_Slice ?_
 rw[evalPart_none]
 refine wpAny_pure ?_
 rw[evalPart_some]
 refine thn (hz0 pins s1 σ H1 (fun y H2=>y = .int 0/\H2=H1) I1 ⟨rfl,rfl⟩) fun vz s2 ⟨y0,H2,I2,rz,ey0,eH0⟩=>?_
 subst ey0 eH0
 obtain⟨tz,rfl⟩:=rz
 rw[evalPart_some]
 refine thn (hm pins s2 σ H2 (fun y H3=>y = .int (-1)/\H3=H2) I2 ⟨rfl,rfl⟩) fun vk s3 ⟨y,H3,I3,rk,ey,eH⟩=>?_
 subst ey eH
 obtain⟨t,rfl⟩:=rk
 cases r1
 have I4:Inv X pins σ H3 { s3 with heap:=s3.heap.push { cls:=.type "slice",data:=.fields #[.none,.int 0 tz,.int (-1) t] } }:=I3.kept (t':=s3.toks) fun b ob q=>Heap.get?_push_of_some _ q
 obtain⟨its,r,ht,hz⟩:=I4.list hx
 have hlen:=r.length
 cases r with
 | cons ry r=>
 rename_i u us
 show wpAny (model X.prog X.w) X.A (subscriptTail e (.Slice none (some z) (some m) p2) (.ref a) (.ref s3.heap.objs.size)) (EP X pins σ Q) X.xe { s3 with heap:=s3.heap.push { cls:=.type "slice",data:=.fields #[.none,.int 0 tz,.int (-1) t] } }
 refine tail_any (ops:=ops (.ref a) (.ref s3.heap.objs.size)) ht.isList.typeIs slot_list_getitem.lookup (wpAny_getItem_list_slice ht.isList ⟨_,Heap.get?_push_size _ rfl,rfl,rfl⟩ .none (.int 0 tz) (.int (-1) t) (by decide) ?_ (by rw[List.size_toArray];omega)) (hsub _ _)
 rw[pick_rv0]
 refine⟨.ref _,_,I4.laid (t':=s3.toks) (o:=.lst xs.reverse) (fun b ob q=>Heap.get?_push_of_some _ q) (Nat.le_refl _) ?_,rfl,q _ (I4.hok.fresh (Nat.le_refl _))⟩
 have:(xs.length:Nat)<=sizeLine:=Nat.le_trans (Nat.le_succ _) hz
 exact⟨by rw[List.length_reverse];exact this,_,0,vals_reverse r,Heap.get?_push_size _ rfl⟩
end
end L2
namespace L2
open PySem PySem.Spec PyProof.Rows
def isI (k:Int):Value->Bool
 | .int a _=>a==k
 | _=>false
section
variable {X:Cx}
theorem mt_indexL:MtM X "list.index" (fun x vs H Q=>∃(p:Addr)(ns:List Int)(i:Nat)(v:Int),x = .ref p/\vs=[.int v]/\H p=some (.lst (ns.map V.int))/\ns[i]? = some v/\(∀j,j<i->ns[j]?≠some v)/\Q (.int i) H):=by
 intro pins s σ H x vs v us Q I rx rv h
 obtain⟨l,ns,i,k,rfl,rfl,hH,hi,hno,q⟩:=h
 cases rx
 obtain⟨u,rfl,t,rfl⟩:=vals1 rv
 obtain⟨z,its,n,r,hl,e⟩:=I.lstM hH
 have hI:=intsAre_of r
 have hsz:its.length=ns.length:=hI.length
 have hil:i<ns.length:=(List.getElem?_eq_some_iff.mp hi).1
 have z':ns.length<=sizeLine:=by simpa using z
 rw[sizeLine_eq] at z'
 have look:∀j (hj:j<its.length),∃t',its[j] = .int (ns.getD j 0) t':=fun j hj=>hI.int_at j _ (List.getElem?_eq_getElem hj)
 have gd:∀j,j<ns.length->ns[j]? = some (ns.getD j 0):=fun j hj=>by rw[List.getD_eq_getElem?_getD,List.getElem?_eq_getElem hj];rfl
 refine call_meets PySem.F.slot_list_index ⟨_,e,rfl⟩ PySem.F.entry_list_index (PySem.F.args_list_index_2 _ _)
  (MeetsSeq.list_index l its.toArray n (.int k t) (isI k) (fun y hy=>?_) i (by rw[List.size_toArray];omega) (by omega) ?_ (fun j hj hlt=>?_)) ⟨e,⟨.int i,H,I.tok _,⟨_,rfl⟩,q⟩⟩
 . obtain⟨j,hj,ej⟩:=List.getElem_of_mem (show y∈its by simpa using hy)
   obtain⟨t',et⟩:=look j hj
   rw[<-ej,et]
   exact MeetsSeq.EqGives.int _ k t' t
 . obtain⟨t',et⟩:=look i (by omega)
   show isI k (its.toArray[i]'_)=true
   rw[List.getElem_toArray,et]
   have:=gd i hil
   rw[hi] at this
   rw[<-Option.some.inj this]
   simp[isI]
 . rw[List.size_toArray] at hj
   obtain⟨t',et⟩:=look j hj
   rw[List.getElem_toArray,et]
   have:ns.getD j 0≠k:=fun z=>hno j hlt (by rw[gd j (by omega),z])
   simpa [isI] using this
end
end L2
namespace L2
section
open PySem PySem.W PyProof.Rows
noncomputable def topRunT (p:Program)(w:World)(n₀:Nat)(ann:Option Value):Nat->SharedT->Thread->Option SharedT
 | 0,_,_=>none
 | n+1,s,t=>match through t with
  | true=>some s
  | false=>match Fast.tw6613529449190102663 n₀ ann t with
   | false=>none
   | true=>match Fast.tw10156331382660048174 (Fast.tw11892475500146522536 Fast.tw14364793385576792824) p w s t with
    | some (s',t')=>topRunT p w n₀ ann n s' t'
    | none=>none
theorem topRun_of {p:Program}{w:World}{n₀:Nat}{ann:Option Value}:∀{n:Nat}{s s':SharedT}{t:Thread},topRunT p w n₀ ann n s t=some s'->topRun treeTable p w n₀ ann n s.abs t=some s'.abs
 | 0,_,_,_,h=>by cases h
 | n+1,s,s',t,h=>by
  unfold topRunT at h
  rw[<-Fast.te6613529449190102663,<-Fast.te10156331382660048174,<-Fast.te11892475500146522536,<-Fast.te14364793385576792824] at h
  unfold topRun
  cases he:through t with
  | true=>rw[he] at h;cases h;rfl
  | false=>
   rw[he] at h
   cases hk:stepOk n₀ ann t with
   | false=>rw[hk] at h;cases h
   | true=>
    rw[hk] at h
    cases hs:stepT (denote treeTable) p w s t with
    | none=>rw[hs] at h;cases h
    | some r=>obtain⟨s₂,t₂⟩:=r;rw[hs] at h;rw[stepT_spec hs];exact topRun_of h
def bt:List Obj->Nat->BT->BT
 | [],_,t=>t
 | o::l,i,t=>bt l (i+1) (t.ins i o)
noncomputable def bT (P:Params):BT:=bt (boot_heap P).objs.toList 0 .nil
noncomputable def bS (w:World)(os:OsState):SharedT:=⟨bT w.params,(boot_heap w.params).objs.size,(boot_heap w.params).life,Array.mk [],boot_drawn,boot_toks,os⟩
theorem bA (w:World)(os:OsState):(bS w os).abs=⟨boot_heap w.params,Array.mk [],boot_drawn,boot_toks,os⟩:=by kernel_rfl
noncomputable abbrev runT (p:Program)(N:Nat)(w:World)(os:OsState):Option SharedT:=topRunT p w (boot_heap w.params).objs.size ((boot_heap w.params).nsMap mainGlobals "__annotations__") N (bS w os) (topStub p)
abbrev chkT (p:Program)(h h':Heap)(s:Shared):Bool:=staticsOk (importedModules p.main.body) h h' && namesBound p h' && gensDone s && laidKept h h'
theorem left_of {p q:Program}{loose:List Str}{Xt:Shared->Bool}{α:Type}{Yf:Shared->α}{Ya:World->α}{N:Nat}(e:opening p=plainProg p.main.scope.names)(hN:Nat.ble 600 N=true)(f:∀s,fenceModules? p s=some s)
 (h:∀(w:World)(os:OsState),(runT p N w os).map (fun s=>(chkT p (boot_heap w.params) s.abs.heap s.abs,Fast.tw4187177175401517315 q loose (importedModules p.main.body) Xt true s.abs,Yf s.abs))=some (true,openGood q loose,Ya w)):LeftO p q loose Xt Yf Ya N:=by
 intro w
 obtain⟨⟨h0,gs,d,k,os⟩,e1,e2⟩:=Option.map_eq_some_iff.mp (boot_open e hN f w)
 obtain⟨rfl,rfl,rfl,rfl⟩:h0=boot_heap w.params/\gs=Array.mk []/\d=boot_drawn/\k=boot_toks:=by simpa using e2
 obtain⟨s,r,a⟩:=Option.map_eq_some_iff.mp (h w os)
 obtain⟨b,a⟩:=Prod.mk.inj a
 rw[<-Fast.te4187177175401517315] at a
 have y:=topRun_of r
 rw[bA] at y
 unfold openEnds
 rw[e1]
 show (topFrom treeTable p w N _).map _=_
 unfold topFrom
 have z:((boot_heap w.params).isNs mainGlobals && (Array.mk []:Array GenState).size==0)=true:=by kernel_rfl
 dsimp only
 rw[z]
 dsimp only
 rw[y]
 show Option.map _ (match chkT p (boot_heap w.params) s.abs.heap s.abs with | true=>some s.abs | false=>none)=_
 rw[b]
 exact congrArg some a
end
end L2
namespace K60
open PySem L2 WM
def top (i:Nat):Stmt:=PySem.Challenge.pw_labelways_k60_ring_labels.main.body.getD i (.Pass ⟨0,0,0,0⟩)
abbrev sFeed:Stmt:=top 26
abbrev sTake:Stmt:=top 27
abbrev sSame:Stmt:=top 28
abbrev sRing:Stmt:=top 29
abbrev sTie:Stmt:=top 30
abbrev sWof:Stmt:=top 31
abbrev sDue:Stmt:=top 32
abbrev sOth:Stmt:=top 33
abbrev sRef:Stmt:=top 34
abbrev sTies:Stmt:=top 15
abbrev sLong:Stmt:=top 16
abbrev sBeside:Stmt:=top 17
abbrev sWhole:Stmt:=top 18
abbrev sJw:Stmt:=top 19
abbrev sIsR:Stmt:=top 21
abbrev sGo:Stmt:=top 22
abbrev sNr:Stmt:=top 23
abbrev sRl:Stmt:=top 24
abbrev sLaw:Stmt:=top 35
def FeedP (H:Hp)(t p:Addr)(N:Nat):Prop:=∃(ns:List Int)(spot rest:Int),H t=some (.lst [.ref p,.int spot,.int rest])/\H p=some (.lst (ns.map V.int))/\p≠t/\0<=spot/\spot<=N/\0<=rest/\ns.length<=64/\0<ns.length
def FeedAt (H:Hp)(t:Addr)(N:Nat):Prop:=∃p:Addr,FeedP H t p N
theorem FeedAt.mono {H:Hp}{t:Addr}{N M:Nat}(h:FeedAt H t N)(l:N<=M):FeedAt H t M:=by
 obtain⟨p,ns,spot,rest,a,b,c,d,e,f⟩:=h
 exact⟨p,ns,spot,rest,a,b,c,d,by omega,f⟩
def Sm (t:Addr)(H H':Hp):Prop:=∀b o,b≠t->H b=some o->H' b=some o
theorem Sm.trans {t:Addr}{H H1 H2:Hp}(a:Sm t H H1)(b:Sm t H1 H2):Sm t H H2:=fun c o n e=>b c o n (a c o n e)
theorem Sm.of {t:Addr}{H H':Hp}(h:Same H H'):Sm t H H':=fun b o _ e=>h b o e
theorem same_laid {l:Addr}{H:Hp}{o:HO}(h:H l=none):Same H (upd H l o):=fun b u e=>by rw[upd_ne (ne_of_none e h)];exact e
theorem same_chg {l:Addr}{H H':Hp}{o:HO}(s:Same H H')(h:H l=none):Same H (upd H' l o):=fun b u e=>by rw[upd_ne (ne_of_none e h)];exact s b u e
theorem FeedAt.keep {H H':Hp}{t:Addr}{N:Nat}(h:FeedAt H t N)(k:Same H H'):FeedAt H' t N:=by
 obtain⟨p,ns,spot,rest,a,b,c⟩:=h
 exact⟨p,ns,spot,rest,k _ _ a,k _ _ b,c⟩
theorem FeedAt.ne {H:Hp}{t b:Addr}{N:Nat}(h:FeedAt H t N)(hb:H b=none):b≠t:=by
 obtain⟨p,ns,spot,rest,a,_⟩:=h
 exact (ne_of_none a hb).symm
theorem none_back {H H':Hp}{p:Addr}(s:Same H H')(h:H' p=none):H p=none:=by
 cases e:H p with
 | none=>rfl
 | some o=>rw[s p o e] at h;cases h
theorem sqL_same {K:PySem.W.Frag}{H H':Hp}{a:Addr}{xs:List V}(h:SqL K H a xs)(s:Same H H'):SqL K H' a xs:=by
 rcases h with (h | ⟨o,h⟩) | h
 . exact .inl (.inl (s _ _ h))
 . exact .inl (.inr ⟨o,s _ _ h⟩)
 . exact .inr h
def spFeed (K:PySem.W.Frag):Sp:=fun vs H Q _=>∃(a:Addr)(ns:List Int),vs=[.ref a]/\SqL K H a (ns.map V.int)/\ns.length<=63/\∀(t:Addr)(H':Hp),H t=none->FeedAt H' t 0->Same H H'->Q (.ref t) H'
def spTakeP:Sp:=fun vs H Q _=>∃(t p:Addr)(N:Nat)(many:Int),vs=[.ref t,.int many]/\FeedP H t p N/\N<1000000/\0<many/\many<1000000 /\
 ∀(r:Int)(H':Hp),0<=r->r<many->FeedP H' t p (N+1)->(∀b,b≠t->H' b=H b)->Q (.int r) H'
def spTake:Sp:=fun vs H Q _=>∃(t:Addr)(N:Nat)(many:Int),vs=[.ref t,.int many]/\FeedAt H t N/\N<1000000/\0<many/\many<1000000 /\
 ∀(r:Int)(H':Hp),0<=r->r<many->FeedAt H' t (N+1)->(∀b,b≠t->H' b=H b)->Q (.int r) H'
section
variable {P:Program}{w:World}{K:PySem.W.Frag}{mg:Str->Option Value}{base:Heap}
theorem scFeed:FnScope ["_law_script"] ["_law_script"] (defScope sFeed):=⟨rfl,rfl,rfl,by decide +kernel,rfl,by decide +kernel,by decide +kernel⟩
theorem ok_feed {f:Addr}{fd:FuncData}(F:Fun K "_law_feed" "_law_feed" sFeed f fd) (mInt:mg "int" = none):FnOk P w K mg base CX0 1 f fd ["_law_script"] (spFeed K):=by
 refine F.ok scFeed (fun vs H Q E h=>?_) (fun cdv A outer s H vs Q E hr h=>?_)
 . obtain⟨a,ns,rfl,_⟩:=h
   rfl
 . obtain⟨a,ns,rfl,hS,hl,k⟩:=h
   have hu0:=hr.units0
   refine⟨_,pss_one (ps_ret (pe_lst (pa_cons (pe_op op_cat (pe_slice sl_list (pv 0) po_none (po_some pe_int)) (pe_op op_rep (pe_lst (pa_cons pe_int pa_nil)) (pe_callTy call_int1 (by rfl) mInt (by decide +kernel) (pa_cons (pe_cmpR (op_eqE hu0) (pv 0) (pe_lst pa_nil) (nomark _)) pa_nil)))) (pa_int (pa_int pa_nil))))),?_⟩
   refine⟨_,rfl,_,rfl,a,_,rfl,hS,fun p hp=>?_⟩
   have s1:=same_laid (o:=.lst (cutV (ns.map V.int) none (some 63))) hp
   have h1:(upd H p (.lst (cutV (ns.map V.int) none (some 63)))) p=some (.lst (cutV (ns.map V.int) none (some 63))):=upd_same
   generalize upd H p (.lst (cutV (ns.map V.int) none (some 63)))=H1 at s1 h1 ⊢
   have e1:cutV (ns.map V.int) none (some 63)=ns.map V.int:=by
    unfold cutV
    rw[HT.sIx_none,List.drop_zero,Nat.sub_zero,List.length_map,show (63:Int)=((63:Nat):Int) from rfl,HT.sIx_nat]
    rw[show min 63 ns.length=ns.length by omega,List.take_of_length_le (by rw[List.length_map];exact Nat.le_refl _)]
   rw[e1] at h1
   refine⟨by show 1<=sizeLine;decide,fun q hq=>?_⟩
   have s2:=same_chg (o:=.lst [.int 0]) s1 (none_back s1 hq)
   have h2:(upd H1 q (.lst [.int 0])) q=some (.lst [.int 0]):=upd_same
   have n2:p≠q:=(ne_of_none h1 hq)
   have h12:(upd H1 q (.lst [.int 0])) p=some (.lst (ns.map V.int)):=by rw[upd_ne n2];exact h1
   generalize upd H1 q (.lst [.int 0])=H2 at s2 h2 h12 ⊢
   refine⟨_,rfl,by show 0<=sizeLine;decide,fun r hr'=>?_⟩
   have s3:=same_chg (o:=.lst []) s2 (none_back s2 hr')
   have h3:(upd H2 r (.lst [])) r=some (.lst []):=upd_same
   have h23:(upd H2 r (.lst [])) q=some (.lst [.int 0]):=by rw[upd_ne (ne_of_none h2 hr')];exact h2
   have h13:(upd H2 r (.lst [])) p=some (.lst (ns.map V.int)):=by rw[upd_ne (ne_of_none h12 hr')];exact h12
   generalize upd H2 r (.lst [])=H3 at s3 h3 h23 h13 ⊢
   refine⟨a,r,_,rfl,rfl,sqL_same hS s3,SqL.of h3,.inr ⟨_,rfl,?_⟩⟩
   have hk:(-(2 ^ 63):Int)<=(if (ns.map V.int).isEmpty=true then (1:Int) else 0)/\(if (ns.map V.int).isEmpty=true then (1:Int) else 0)<2 ^ 63/\[V.int 0].length*(if (ns.map V.int).isEmpty=true then (1:Int) else 0).toNat<=sizeLine/\(List.replicate (if (ns.map V.int).isEmpty=true then (1:Int) else 0).toNat [V.int 0]).flatten=(if ns=[] then [(0:Int)] else []).map V.int:=by
    cases ns with
    | nil=>exact⟨by decide,by decide,by decide,rfl⟩
    | cons _ _=>exact⟨(by decide:(-(2 ^ 63):Int)<=0),(by decide:(0:Int)<2 ^ 63),(by decide:1*(0:Int).toNat<=sizeLine),rfl⟩
   obtain⟨k1,k2,k3,k4⟩:=hk
   refine⟨q,_,_,rfl,rfl,h23,k1,k2,k3,fun u hu=>?_⟩
   rw[k4]
   have s4:=same_chg (o:=.lst ((if ns=[] then [(0:Int)] else []).map V.int)) s3 (none_back s3 hu)
   have h4:(upd H3 u (.lst ((if ns=[] then [(0:Int)] else []).map V.int))) u=some (.lst ((if ns=[] then [(0:Int)] else []).map V.int)):=upd_same
   have h14:(upd H3 u (.lst ((if ns=[] then [(0:Int)] else []).map V.int))) p=some (.lst (ns.map V.int)):=by rw[upd_ne (ne_of_none h13 hu)];exact h13
   generalize upd H3 u (.lst ((if ns=[] then [(0:Int)] else []).map V.int))=H4 at s4 h4 h14 ⊢
   refine⟨p,u,_,_,rfl,rfl,h14,h4,by simp only[List.length_map];split <;> simp only[List.length_cons,List.length_nil] <;> exact Nat.le_trans (Nat.add_le_add_right hl _) (by decide),fun v hv=>?_⟩
   rw[<-List.map_append]
   have s5:=same_chg (o:=.lst ((ns++if ns=[] then [(0:Int)] else []).map V.int)) s4 (none_back s4 hv)
   have h5:(upd H4 v (.lst ((ns++if ns=[] then [(0:Int)] else []).map V.int))) v=some (.lst ((ns++if ns=[] then [(0:Int)] else []).map V.int)):=upd_same
   generalize upd H4 v (.lst ((ns++if ns=[] then [(0:Int)] else []).map V.int))=H5 at s5 h5 ⊢
   refine⟨by show 3<=sizeLine;decide,fun t ht=>?_⟩
   have nvt:v≠t:=ne_of_none h5 ht
   refine k t _ (none_back s5 ht) ⟨v,_,0,0,upd_same,by rw[upd_ne nvt];exact h5,nvt,Int.le_refl _,Int.le_refl _,Int.le_refl _,?_,?_⟩ (same_chg s5 (none_back s5 ht))
   . rw[List.length_append];split <;> simp only[List.length_cons,List.length_nil] <;> omega
   . rw[List.length_append]
     cases ns with
     | nil=>decide
     | cons x y=>simp only[List.length_cons];omega
theorem scTake:FnScope ["_law_feed_here", "_law_many", "_law_found", "_law_spot", "_law_cell", "_law_mixed"] ["_law_feed_here", "_law_many"] (defScope sTake):=⟨rfl,rfl,rfl,by decide +kernel,rfl,by decide +kernel,by decide +kernel⟩
theorem mod_in {a m:Int}(h:0<m):0<=a%m/\a%m<m:=⟨Int.emod_nonneg _ (by omega),Int.emod_lt_of_pos _ h⟩
theorem ok_takeP {f:Addr}{fd:FuncData}(F:Fun K "_law_take" "_law_take" sTake f fd) (mLen:mg "len" = none):FnOk P w K mg base CX0 1 f fd ["_law_feed_here", "_law_many"] spTakeP:=by
 refine F.ok scTake (fun vs H Q E h=>?_) (fun cdv A outer s H vs Q E hr h=>?_)
 . obtain⟨t,p,N,many,rfl,_⟩:=h
   rfl
 . obtain⟨t,p,N,many,rfl,T,hN,hm0,hm1,k⟩:=h
   obtain⟨ns,spot,rest,ht,hp,hne,hs0,hs1,hr0,hl,hl0⟩:=T
   refine⟨_,pss_cons (ps_if (pt_cmpR op_gt (pe_ix ix_list (pv 0) pe_int (fun _ _=>rfl)) pe_int (nomark _))
    (pss_cons (ps_set (i:=2) scTake.nd rfl (Or.inl rfl) (pe_op op_mod (pe_ix ix_list (pv 0) pe_int (fun _ _=>rfl)) (pv 1)))
    (pss_cons (ps_asg (pe_op op_fdiv (pe_ix ix_list (pv 0) pe_int (fun _ _=>rfl)) (pv 1)) (pg_sub (pv 0) pe_int set_list))
    (pss_one (ps_ret (pv 2))))) pss_nil)
    (pss_cons (ps_set (i:=3) scTake.nd rfl (Or.inl rfl) (pe_ix ix_list (pv 0) pe_int (fun _ _=>rfl)))
    (pss_cons (ps_asg (pe_op op_add (pv 3) pe_int) (pg_sub (pv 0) pe_int set_list))
    (pss_cons (ps_set (i:=4) scTake.nd rfl (Or.inl rfl) (pe_ix ix_list (pe_ix ix_list (pv 0) pe_int (fun _ _=>rfl)) (pe_op op_mod (pv 3) (pe_callB call_len_seq (by rfl) mLen PySem.boot_len (pa_cons (pe_ix ix_list (pv 0) pe_int (fun _ _=>rfl)) pa_nil))) (fun _ _=>rfl)))
    (pss_cons (ps_if (pw_and (pt_cmpR op_ge (pv 4) (pe_op op_pow pe_int pe_int) (nomark _)) (pw_and1 (pt_cmpR op_lt (pv 3) (pe_callB call_len_seq (by rfl) mLen PySem.boot_len (pa_cons (pe_ix ix_list (pv 0) pe_int (fun _ _=>rfl)) pa_nil)) (nomark _)))).pt
     (pss_cons (ps_asg (pe_op op_fdiv (pv 4) (pv 1)) (pg_sub (pv 0) pe_int set_list)) (pss_one (ps_ret (pe_op op_mod (pv 4) (pv 1))))) pss_nil)
    (pss_cons (ps_set (i:=5) scTake.nd rfl (Or.inl rfl) (pe_op op_mod (pe_op op_mul (pe_op op_add (pe_op op_add (pe_op op_add (pe_op op_mod (pv 4) pe_int) (pe_op op_mul (pe_op op_mul pe_int (pv 3)) (pv 3))) (pe_op op_mul pe_int (pv 3))) pe_int) pe_int) pe_int))
    (pss_cons (ps_set (i:=5) scTake.nd rfl (Or.inl rfl) (pe_op op_mod (pe_op op_add (pe_op op_add (pe_op op_mul (pv 5) (pv 5)) (pe_op op_mul pe_int (pv 3))) pe_int) pe_int))
    (pss_one (ps_ret (pe_op op_mod (pe_op op_mod (pe_op op_add (pe_op op_mul (pv 5) pe_int) (pv 3)) pe_int) (pv 1)))))))))),?_⟩
   have cd:CDiv 0 many:=⟨hm0,by omega⟩
   refine⟨_,rfl,t,_,_,_,rfl,rfl,SqL.of ht,rfl,_,_,rfl,rfl,_,rfl,?_⟩
   refine ite2 (fun hc=>?_) (fun hc=>?_)
   . have hpos:0<rest:=of_decide_eq_true hc
     refine⟨_,rfl,t,_,_,_,rfl,rfl,SqL.of ht,rfl,_,rfl,_,_,rfl,rfl,hm0,?_⟩
     refine⟨_,rfl,t,_,_,_,rfl,rfl,SqL.of ht,rfl,_,rfl,_,_,rfl,rfl,cd,?_⟩
     refine⟨_,rfl,t,_,_,2,rfl,rfl,ht,rfl,?_⟩
     refine⟨_,rfl,?_⟩
     refine k _ _ (mod_in hm0).1 (mod_in hm0).2 ⟨ns,spot,rest/many,upd_same,by rw[upd_ne hne];exact hp,hne,hs0,by omega,Int.ediv_nonneg hr0 (by omega),hl,hl0⟩ fun b hb=>upd_ne hb
   . -- spot=feed[1];feed[1]=spot+1
     refine⟨_,rfl,t,_,_,_,rfl,rfl,SqL.of ht,rfl,?_⟩
     refine⟨_,rfl,_,_,rfl,rfl,_,rfl,t,_,_,1,rfl,rfl,ht,rfl,?_⟩
     have ht1:(upd H t (.lst [.ref p,.int (spot+1),.int rest])) t=some (.lst [.ref p,.int (spot+1),.int rest]):=upd_same
     have hp1:(upd H t (.lst [.ref p,.int (spot+1),.int rest])) p=some (.lst (ns.map V.int)):=by rw[upd_ne hne];exact hp
     have h2:0<((ns.map V.int).length:Int):=by rw[List.length_map];omega
     have ex:∃c,atI (ns.map V.int) (spot%((ns.map V.int).length:Int))=some (.int c):=by
      have hb:=mod_in (a:=spot) h2
      obtain⟨j,hj⟩:=Int.eq_ofNat_of_zero_le hb.1
      have hlt:j<ns.length:=by
       have h2:=hb.2
       rw[hj,List.length_map] at h2
       omega
      refine⟨ns[j],?_⟩
      rw[hj]
      exact atI_nat (by simp[hlt])
     obtain⟨c,hc⟩:=ex
     refine⟨_,rfl,t,_,_,_,rfl,rfl,SqL.of ht1,rfl,_,rfl,_,rfl,t,_,_,_,rfl,rfl,SqL.of ht1,rfl,p,_,rfl,.inl (SqL.of hp1),_,_,rfl,rfl,h2,p,_,_,_,rfl,rfl,SqL.of hp1,hc,?_⟩
     refine⟨_,rfl,_,_,rfl,rfl,⟨by decide,by decide,by decide⟩,_,_,rfl,rfl,_,rfl,?_⟩
     refine ite2 (fun h3=>?_) (fun h3=>?_)
     all_goals first
      | (refine⟨_,rfl,_,rfl,t,_,_,_,rfl,rfl,SqL.of ht1,rfl,p,_,rfl,.inl (SqL.of hp1),_,_,rfl,rfl,_,rfl,?_⟩;refine ite2 (fun h4=>?_) (fun h4=>?_))
      | refine iteF ?_
     all_goals first
      | (refine⟨_,rfl,_,rfl,_,_,rfl,rfl,⟨hm0,by omega⟩,_,rfl,t,_,_,2,rfl,rfl,ht1,rfl,?_⟩
         refine⟨_,rfl,_,rfl,_,_,rfl,rfl,hm0,?_⟩
         refine k _ _ (mod_in hm0).1 (mod_in hm0).2 ⟨ns,spot+1,_,upd_same,by rw[upd_ne hne];exact hp1,hne,by omega,by omega,Int.ediv_nonneg (Int.le_trans (show (0:Int)<=10 ^ (18:Int).toNat by decide) (of_decide_eq_true h3)) (by omega),hl,hl0⟩ fun b hb=>by rw[upd_ne hb,upd_ne hb])
      | (refine⟨_,rfl,_,_,rfl,rfl,(by dsimp only;decide),_,rfl,_,_,rfl,rfl,.inl ⟨by decide,by decide⟩,_,rfl,_,_,rfl,rfl,.inr ⟨by omega,by omega⟩,_,_,rfl,rfl,_,rfl,_,_,rfl,rfl,.inl ⟨by decide,by decide⟩,_,_,rfl,rfl,_,_,rfl,rfl,_,_,rfl,rfl,.inr ⟨by decide,by decide⟩,_,_,rfl,rfl,(by dsimp only;decide),?_⟩
         generalize hx:(c%1000003+37*spot*spot+11*spot+5)*48271%2147483629=x1
         have hx1:0<=x1/\x1<2147483629:=by rw[<-hx];exact mod_in (by decide)
         refine⟨_,rfl,_,rfl,_,_,rfl,rfl,.inl ⟨by omega,by omega⟩,_,rfl,_,_,rfl,rfl,.inl ⟨by decide,by decide⟩,_,_,rfl,rfl,_,_,rfl,rfl,_,_,rfl,rfl,(by dsimp only;decide),?_⟩
         refine⟨_,rfl,_,_,rfl,rfl,.inr ⟨by decide,by decide⟩,_,rfl,_,_,rfl,rfl,_,_,rfl,rfl,(by dsimp only;decide),_,rfl,_,_,rfl,rfl,hm0,?_⟩
         refine k _ _ (mod_in hm0).1 (mod_in hm0).2 ⟨ns,spot+1,rest,ht1,hp1,hne,by omega,by omega,hr0,hl,hl0⟩ fun b hb=>upd_ne hb)
theorem ok_take {f:Addr}{fd:FuncData}(F:Fun K "_law_take" "_law_take" sTake f fd) (mLen:mg "len" = none):FnOk P w K mg base CX0 1 f fd ["_law_feed_here", "_law_many"] spTake:=
 (ok_takeP F mLen).imp fun vs H Q E ⟨t,N,many,e,⟨p,T⟩,a,b,c,k⟩=>⟨t,p,N,many,e,T,a,b,c,fun r H' h0 h1 T' he=>k r H' h0 h1 ⟨p,T'⟩ he⟩
end
theorem sm_eq {t:Addr}{H H':Hp}(h:∀b,b≠t->H' b=H b):Sm t H H':=fun b o n e=>by rw[h b n];exact e
theorem Sm.laid {t l:Addr}{H:Hp}{o:HO}(h:H l=none):Sm t H (upd H l o):=fun b u _ e=>by rw[upd_ne (ne_of_none e h)];exact e
theorem Sm.chg {t l:Addr}{H H':Hp}{o:HO}(s:Sm t H H')(h:H l=none):Sm t H (upd H' l o):=fun b u n e=>by rw[upd_ne (ne_of_none e h)];exact s b u n e
theorem FeedP.keepF {H H':Hp}{t p:Addr}{N M:Nat}(h:FeedP H t p N)(k1:∀o,H t=some o->H' t=some o)(k2:∀o,H p=some o->H' p=some o)(l:N<=M):FeedP H' t p M:=by
 obtain⟨ns,spot,rest,a,b,c,d,e,f⟩:=h
 exact⟨ns,spot,rest,k1 _ a,k2 _ b,c,d,by omega,f⟩
theorem FeedP.same {H H':Hp}{t p:Addr}{N:Nat}(h:FeedP H t p N)(s:Same H H'):FeedP H' t p N:=h.keepF (fun o e=>s _ _ e) (fun o e=>s _ _ e) (Nat.le_refl _)
theorem FeedP.mono {H:Hp}{t p:Addr}{N M:Nat}(h:FeedP H t p N)(l:N<=M):FeedP H t p M:=h.keepF (fun _ e=>e) (fun _ e=>e) l
theorem FeedP.laid {H:Hp}{t p l:Addr}{N:Nat}{o:HO}(h:FeedP H t p N)(hl:H l=none):FeedP (upd H l o) t p N:=h.same (same_laid hl)
theorem FeedP.upd {H:Hp}{t p l:Addr}{N:Nat}{o:HO}(h:FeedP H t p N)(n1:l≠t)(n2:l≠p):FeedP (upd H l o) t p N:=h.keepF (fun _ e=>by rw[upd_ne n1.symm];exact e) (fun _ e=>by rw[upd_ne n2.symm];exact e) (Nat.le_refl _)
theorem FeedP.ne {H:Hp}{t p b:Addr}{N:Nat}(h:FeedP H t p N)(hb:H b=none):b≠t/\b≠p:=by
 obtain⟨ns,spot,rest,a,q,_⟩:=h
 exact⟨(ne_of_none a hb).symm,(ne_of_none q hb).symm⟩
theorem menu_at {L:List Int}{r:Int}(h0:0<=r)(h1:r<L.length):∃n,n∈L/\atI (L.map V.int) r=some (.int n):=by
 obtain⟨j,rfl⟩:=Int.eq_ofNat_of_zero_le h0
 have hj:j<L.length:=by omega
 exact⟨L[j],List.getElem_mem hj,atI_nat (by simp[hj])⟩
theorem small_line {n:Nat}(h:n<=100000):n<sizeLine:=Nat.lt_of_le_of_lt h (by decide)
def WebAt (H:Hp)(wa:Addr)(n:Int)(ts:List T3):Prop:=∃(ta:Addr)(tys:List V),H wa=some (.tup [.int n,.ref ta])/\H ta=some (.tup tys)/\TupsAre H tys (ts.map tl)/\GW n ts
theorem WebAt.keepT {H H':Hp}{wa:Addr}{n:Int}{ts:List T3}(h:WebAt H wa n ts)(k:∀b ys,H b=some (.tup ys)->H' b=some (.tup ys)):WebAt H' wa n ts:=by
 obtain⟨ta,tys,a,b,c,d⟩:=h
 exact⟨ta,tys,k _ _ a,k _ _ b,c.keep k,d⟩
theorem WebAt.keep {H H':Hp}{wa:Addr}{n:Int}{ts:List T3}(h:WebAt H wa n ts)(k:Same H H'):WebAt H' wa n ts:=h.keepT fun b _ e=>k b _ e
theorem ifT {c:Bool}{p q:Prop}(h:c=true)(hp:p):(if c=true then p else q):=by rw[if_pos h];exact hp
theorem ifF {c:Bool}{p q:Prop}(h:c=false)(hq:q):(if c=true then p else q):=by rw[if_neg (by simp[h])];exact hq
section
variable {X:Cx}{pl:List (Addr×Obj)}{N':List Str}{sc:Scope}{fp:List Addr}{s3:Shared}{H3:Hp}
end
end K60
namespace K60
open PySem L2 WM
def spTies:Sp:=fun vs H Q _=>∃(wa:Addr)(n:Int)(ts:List T3)(p:Int),vs=[.ref wa,.int p]/\WebAt H wa n ts /\
 ∀(l:Addr)(zs:List V)(ms:List (List Int))(H':Hp),Same H H'->H l=none->H' l=some (.lst zs)->TupsAre H' zs ms->ms.Perm (fd p ts)->Rises ms->Q (.ref l) H'
section
variable {P:Program}{w:World}{K:PySem.W.Frag}{mg:Str->Option Value}{base:Heap}
theorem scTies:FnScope ["web", "place", "found", "a", "b", "long"] ["web", "place"] (defScope sTies):=⟨rfl,rfl,rfl,by decide +kernel,rfl,by decide +kernel,by decide +kernel⟩
theorem ok_ties {f:Addr}{fd':FuncData}(F:Fun K "ties_at" "ties_at" sTies f fd') (mSorted:mg "sorted" = none):FnOk P w K mg base CX0 1 f fd' ["web", "place"] spTies:=by
 refine F.ok scTies (fun vs H Q E h=>?_) (fun cdv A outer s H vs Q E hr h=>?_)
 . obtain⟨wa,n,ts,p,rfl,_⟩:=h
   rfl
 . obtain⟨wa,n,ts,p,rfl,⟨ta,tys,hwa,hta,TA,G⟩,k⟩:=h
   refine⟨_,pss_cons (ps_set (i:=2) scTies.nd rfl (Or.inl rfl) (pe_lst pa_nil))
    (pss_cons (ps_for PassesOwn.never rfl (pi_tup (pe_ix ix_tup (pv 0) pe_int (fun _ _=>rfl))) (pg_tup rfl (pgs_cons (pg_name (i:=3) scTies.nd rfl (Or.inl rfl)) (pgs_cons (pg_name (i:=4) scTies.nd rfl (Or.inl rfl)) (pgs_cons (pg_name (i:=5) scTies.nd rfl (Or.inl rfl)) pgs_nil))))
     (pss_cons (ps_if (pt_cmpR op_eq (pv 3) (pv 1) (nomark _)) (pss_one (ps_expr (pe_bm PySem.F.plainAttrs_list PySem.F.slot_list_append PySem.F.type_list_append mt_append (pv 2) (pa_cons (pe_tup (pa_cons (pv 4) (pa_cons (pv 5) pa_nil))) pa_nil)))) pss_nil)
     (pss_one (ps_if (pt_cmpR op_eq (pv 4) (pv 1) (nomark _)) (pss_one (ps_expr (pe_bm PySem.F.plainAttrs_list PySem.F.slot_list_append PySem.F.type_list_append mt_append (pv 2) (pa_cons (pe_tup (pa_cons (pv 3) (pa_cons (pv 5) pa_nil))) pa_nil)))) pss_nil))))
    (pss_one (ps_ret (pe_callB call_sorted (by rfl) mSorted (by decide +kernel) (pa_cons (pv 2) pa_nil))))),?_⟩
   refine⟨Nat.zero_le _,fun l hl=>?_⟩
   have hwl:wa≠l:=ne_of_none hwa hl
   have htl:ta≠l:=ne_of_none hta hl
   have hlt:tys.length=ts.length:=by rw[TA.length,List.length_map]
   refine⟨_,rfl,wa,_,_,_,rfl,rfl,SqT.of (by rw[upd_ne hwl];exact hwa),rfl,ta,rfl,⟨_,SqT.of (by rw[upd_ne htl];exact hta)⟩,for_tup (K:=K) (a:=ta) (xs:=tys)
    (fun i σ H2=>∃(va vb vl:Option V)(xs:List V),σ=[some (.ref wa),some (.int p),some (.ref l),va,vb,vl]/\Same H H2/\H2 l=some (.lst xs)/\TupsAre H2 xs (fd p (ts.take i)))
    ⟨none,none,none,[],rfl,same_laid hl,upd_same,trivial⟩ (fun i σ H2 _ ⟨_,_,_,_,_,s2,_⟩=>SqT.of (s2 _ _ hta)) ?turn ?after⟩
   case turn=>
    rintro i y σ H2 hi ⟨va,vb,vl,xs,rfl,s2,hl2,T2⟩
    obtain⟨ya,ky,rfl,hky,hya,_⟩:=TA.get hi
    rw[List.getElem?_map] at hky
    obtain⟨⟨a,b,c⟩,hti,rfl⟩:∃t:T3,ts[i]? = some t/\tl t=ky:=by
     cases e:ts[i]? with
     | none=>rw[e] at hky;cases hky
     | some t=>rw[e] at hky;exact⟨t,rfl,Option.some.inj hky⟩
    have hil:i<ts.length:=(List.getElem?_eq_some_iff.mp hti).1
    have hlen:∀{xs':List V}{H3:Hp},TupsAre H3 xs' (fd p (ts.take i))->xs'.length<sizeLine:=fun T=>by
     have e1:=T.length
     have e2:=fd_len (n:=n) p (ts:=ts.take i) fun t ht=>(G.rng t (List.mem_of_mem_take ht)).2.1
     rw[List.length_take] at e2
     exact small_line (by have:=G.len;omega)
    have hfd:fd p (ts.take (i+1))=fd p (ts.take i)++((if a=p then [[b,c]] else [])++(if b=p then [[a,c]] else [])):=by
     rw[List.take_add_one,hti,fd_append]
     show _++((if a=p then [[b,c]] else [])++(if b=p then [[a,c]] else [])++[])=_
     rw[List.append_nil]
    have hab:a<b:=(G.rng _ (List.mem_of_getElem? hti)).2.1
    refine⟨ya,_,rfl,SqT.of (s2 _ _ hya),rfl,_,_,rfl,_,_,rfl,_,_,rfl,rfl,?_⟩
    have app:∀{x:Int},∀q,H2 q=none->∃xs',(upd (upd H2 q (.tup [.int x,.int c])) l (.lst (xs++[.ref q]))) l=some (.lst xs')/\Same H (upd (upd H2 q (.tup [.int x,.int c])) l (.lst (xs++[.ref q])))/\TupsAre (upd (upd H2 q (.tup [.int x,.int c])) l (.lst (xs++[.ref q]))) xs' (fd p (ts.take i)++[[x,c]]):=by
     intro x q hq
     have nlq:l≠q:=ne_of_none hl2 hq
     refine⟨_,upd_same,same_chg (s2.trans (same_laid hq)) hl,(T2.keep fun e ys he=>?_).snoc ⟨q,rfl,by rw[upd_ne nlq.symm,upd_same];rfl,by simp⟩⟩
     rw[upd_ne (ne_of he hl2 (by intro z;cases z)),upd_ne (ne_of_none he hq)]
     exact he
    refine⟨_,rfl,_,rfl,rfl,_,rfl,?_⟩
    refine ite2 (fun h1=>?_) (fun h1=>?_)
    . have e1:a=p:=by have:=of_decide_eq_true h1;injection this
      have n2:¬ b=p:=by omega
      refine⟨_,rfl,.inl ⟨rfl,_,SqL.of hl2⟩,_,rfl,_,rfl,by show 2<=sizeLine;decide,fun q hq=>?_⟩
      have nlq:l≠q:=ne_of_none hl2 hq
      refine⟨l,_,_,rfl,rfl,by rw[upd_ne nlq];exact hl2,hlen T2,?_⟩
      refine⟨_,rfl,_,rfl,rfl,_,rfl,?_⟩
      rw[show decide (V.int b=V.int p)=false from decide_eq_false fun e=>n2 (by injection e)]
      refine iteF ?_
      obtain⟨xs',g1,g2,g3⟩:=app (x:=b) q hq
      refine⟨_,_,_,xs',rfl,g2,g1,?_⟩
      rw[hfd,if_pos e1,if_neg n2]
      exact g3
    . have n1:¬ a=p:=fun e=>by
       have:=h1
       rw[e] at this
       exact this (decide_eq_true rfl)
      refine⟨_,rfl,_,rfl,rfl,_,rfl,?_⟩
      refine ite2 (fun h2=>?_) (fun h2=>?_)
      . have e2:b=p:=by have:=of_decide_eq_true h2;injection this
        refine⟨_,rfl,.inl ⟨rfl,_,SqL.of hl2⟩,_,rfl,_,rfl,by show 2<=sizeLine;decide,fun q hq=>?_⟩
        have nlq:l≠q:=ne_of_none hl2 hq
        refine⟨l,_,_,rfl,rfl,by rw[upd_ne nlq];exact hl2,hlen T2,?_⟩
        obtain⟨xs',g1,g2,g3⟩:=app (x:=a) q hq
        refine⟨_,_,_,xs',rfl,g2,g1,?_⟩
        rw[hfd,if_neg n1,if_pos e2]
        exact g3
      . have n2:¬ b=p:=fun e=>by
         have:=h2
         rw[e] at this
         exact this (decide_eq_true rfl)
        refine⟨_,_,_,xs,rfl,s2,hl2,?_⟩
        rw[hfd,if_neg n1,if_neg n2,List.append_nil,List.append_nil]
        exact T2
   case after=>
    rintro σ H2 ⟨va,vb,vl,xs,rfl,s2,hl2,T2⟩
    rw[hlt,List.take_of_length_le (Nat.le_refl _)] at T2
    have e2:=fd_len (n:=n) p (ts:=ts) fun t ht=>(G.rng t ht).2.1
    refine⟨_,rfl,l,xs,fd p ts,rfl,SqL.of hl2,T2,by have:=G.len;omega,fun l' zs ms hl' T3 hp hrs=>?_⟩
    have nll:l'≠l:=fun e=>by rw[e,hl2] at hl';cases hl'
    have hl0:H l'=none:=by
     cases q:H l' with
     | none=>rfl
     | some o=>have:=s2 l' o q;rw[hl'] at this;cases this
    exact k l' zs ms _ (s2.trans (same_laid hl')) hl0 upd_same (T3.keep fun e ys he=>same_laid hl' _ _ he) hp hrs
end
def spLong:Sp:=fun vs H Q _=>∃(wa:Addr)(n:Int)(ts:List T3)(one other:Int),vs=[.ref wa,.int one,.int other]/\WebAt H wa n ts /\
 ∀(r:V)(H':Hp),Same H H'->((∃l,Adj ts one other l/\r = .int l)\/((∀l,¬ Adj ts one other l)/\r = .non))->Q r H'
def spBeside:Sp:=fun vs H Q _=>∃(wa:Addr)(n:Int)(ts:List T3)(p:Int),vs=[.ref wa,.int p]/\WebAt H wa n ts /\
 ∀(l:Addr)(hs:List Int)(H':Hp),Same H H'->H l=none->H' l=some (.tup (hs.map V.int))->hs.Pairwise (· < ·)->(∀y,y∈hs↔∃k,Adj ts p y k)->Q (.ref l) H'
def spWhole:Sp:=fun vs H Q _=>∃(wa:Addr)(n:Int)(ts:List T3),vs=[.ref wa]/\WebAt H wa n ts /\
 ∀(met:List Int)(H':Hp),Same H H'->met.Nodup->0∈met->(∀x∈met,∀y k,Adj ts x y k->y∈met)->(∀x∈met,Rch ts x)->Q (.bl (decide ((met.length:Int)=n))) H'
theorem heads_rise {ms:List (List Int)}(h:Rises ms)(hk:∀k∈ms,∃y l,k=[y,l])(hn:(ms.map hd).Nodup):(ms.map hd).Pairwise (· < ·):=by
 rw[List.pairwise_map]
 rw[List.Nodup,List.pairwise_map] at hn
 have both:ms.Pairwise fun a b=>HT.lexLt b a=false/\hd a≠hd b:=by
  rw[List.pairwise_iff_getElem]
  intro i j hi hj hij
  exact⟨List.pairwise_iff_getElem.mp h i j hi hj hij,List.pairwise_iff_getElem.mp hn i j hi hj hij⟩
 refine both.imp_of_mem fun {a b} ha hb hab=>?_
 obtain⟨y,l,rfl⟩:=hk a ha
 obtain⟨z,m,rfl⟩:=hk b hb
 obtain⟨h1,h2⟩:=hab
 have h2':y≠z:=h2
 rw[HT.lexLt_cons,if_neg (Ne.symm h2')] at h1
 have:=of_decide_eq_false h1
 show y<z
 omega
section
variable {P:Program}{w:World}{K:PySem.W.Frag}{mg:Str->Option Value}{base:Heap}
theorem scLong:FnScope ["web", "one", "other", "place", "long"] ["web", "one", "other"] (defScope sLong):=⟨rfl,rfl,rfl,by decide +kernel,rfl,by decide +kernel,by decide +kernel⟩
theorem ok_long {f fT:Addr}{fd' fdT:FuncData}(F:Fun K "long_of" "long_of" sLong f fd') (FT:Fun K "ties_at" "ties_at" sTies fT fdT) (bT:Binds K fdT ["web", "place"] []) (mT:mg "ties_at" = some (.ref fT)) (mSorted:mg "sorted" = none) :
 FnOk P w K mg base CX0 2 f fd' ["web", "one", "other"] spLong:=by
 have GT:FnOk P w K mg base CX0 1 fT fdT ["web", "place"] spTies:=ok_ties FT mSorted
 refine F.ok scLong (fun vs H Q E h=>?_) (fun cdv A outer s H vs Q E hr h=>?_)
 . obtain⟨wa,n,ts,one,other,rfl,_⟩:=h
   rfl
 . obtain⟨wa,n,ts,one,other,rfl,W,k⟩:=h
   refine⟨_,pss_cons (ps_for PassesOwn.never rfl (pi_list (pe_call GT hr rfl mT FT.kp bT .nil pass0 (pa_cons (pv 0) (pa_cons (pv 1) pa_nil)))) (pg_tup rfl (pgs_cons (pg_name (i:=3) scLong.nd rfl (Or.inl rfl)) (pgs_cons (pg_name (i:=4) scLong.nd rfl (Or.inl rfl)) pgs_nil)))
    (pss_one (ps_if (pt_cmpR op_eq (pv 3) (pv 2) (nomark _)) (pss_one (ps_ret (pv 4))) pss_nil)))
    (pss_one (ps_ret pe_non)),?_⟩
   refine⟨_,rfl,_,rfl,wa,n,ts,one,rfl,W,fun l zs ms H1 s1 hl0 hl1 T1 hp _=>?_⟩
   refine⟨l,rfl,⟨_,SqL.of hl1⟩,for_list (K:=K) (a:=l) (xs:=zs) (fun i σ H2=>∃va vb:Option V,σ=[some (.ref wa),some (.int one),some (.int other),va,vb]/\H2=H1/\∀j k,j<i->ms[j]? = some k->hd k≠other)
    ⟨none,none,rfl,rfl,fun j _ h=>by omega⟩ (fun i σ H2 _ ⟨_,_,_,e,_⟩=>e ▸ SqL.of hl1) ?turn ?after⟩
   case turn=>
    rintro i y σ H2 hi ⟨va,vb,rfl,rfl,hno⟩
    obtain⟨ya,ky,rfl,hky,hya,_⟩:=T1.get hi
    have hm:ky∈fd one ts:=hp.mem_iff.mp (List.mem_of_getElem? hky)
    obtain⟨z,c,rfl,ha⟩:=mem_fd.mp hm
    refine⟨ya,_,rfl,SqT.of hya,rfl,_,_,rfl,_,_,rfl,rfl,?_⟩
    refine⟨_,rfl,_,rfl,rfl,_,rfl,?_⟩
    refine ite2 (fun h1=>?_) (fun h1=>?_)
    . have e1:z=other:=by have:=of_decide_eq_true h1;injection this
      subst e1
      exact⟨_,rfl,k _ _ s1 (.inl ⟨c,ha,rfl⟩)⟩
    . have n1:z≠other:=fun e=>by
       have:=h1
       rw[e] at this
       exact this (decide_eq_true rfl)
      refine⟨_,_,rfl,rfl,fun j kj hj hkj=>?_⟩
      by_cases hji:j<i
      . exact hno j kj hji hkj
      . have e:j=i:=by omega
        subst e
        rw[hky] at hkj
        cases hkj
        exact n1
   case after=>
    rintro σ H2 ⟨va,vb,rfl,rfl,hno⟩
    refine k _ _ s1 (.inr ⟨fun c ha=>?_,rfl⟩)
    have hm:[other,c]∈ms:=hp.mem_iff.mpr (mem_fd.mpr ⟨other,c,rfl,ha⟩)
    obtain⟨j,hj,e⟩:=List.getElem_of_mem hm
    exact hno j _ (by have:=T1.length;omega) (by rw[List.getElem?_eq_getElem hj,e]) rfl
theorem scBeside:FnScope ["web", "place"] ["web", "place"] (defScope sBeside):=⟨rfl,rfl,rfl,by decide +kernel,rfl,by decide +kernel,by decide +kernel⟩
theorem ok_beside {f fT:Addr}{fd' fdT:FuncData}(F:Fun K "beside" "beside" sBeside f fd') (FT:Fun K "ties_at" "ties_at" sTies fT fdT) (bT:Binds K fdT ["web", "place"] []) (mT:mg "ties_at" = some (.ref fT)) (mSorted:mg "sorted" = none) (mTuple:mg "tuple" = none) :
 FnOk P w K mg base CX0 2 f fd' ["web", "place"] spBeside:=by
 have GT:FnOk P w K mg base CX0 1 fT fdT ["web", "place"] spTies:=ok_ties FT mSorted
 refine F.ok scBeside (fun vs H Q E h=>?_) (fun cdv A outer s H vs Q E hr h=>?_)
 . obtain⟨wa,n,ts,p,rfl,_⟩:=h
   rfl
 . obtain⟨wa,n,ts,p,rfl,W,k⟩:=h
   have G:GW n ts:=by obtain⟨_,_,_,_,_,g⟩:=W;exact g
   refine⟨_,pss_one (ps_ret (pe_callTy call_tuple_of (by rfl) mTuple (by decide +kernel) (pa_cons
    (pe_comp (own:=["other", "long"]) (cn:=[]) (ci:=[]) rfl (csc rfl rfl) trivial rfl
     (pi_list (pe_call GT hr rfl mT FT.kp bT .nil pass0 (pa_cons (pv 0) (pa_cons (pv 1) pa_nil))))
     (fun _ _ _ _=>pg_tupC (n:=2) rfl (pgs_cons (pg_name (i:=0) (nd_of rfl) rfl (Or.inl rfl)) (pgs_cons (pg_name (i:=1) (nd_of rfl) rfl (Or.inl rfl)) pgs_nil)))
     (fun _ _ _ _=>pts_nil) (fun _ _ _ _=>pv 0)) pa_nil))),?_⟩
   refine⟨_,rfl,_,rfl,wa,n,ts,p,rfl,W,fun l zs ms H1 s1 hl0 hl1 T1 hp hrs=>?_⟩
   have hlz:=T1.length
   have hlm:ms.length<64:=by
    have e2:=fd_len (n:=n) p (ts:=ts) fun t ht=>(G.rng t ht).2.1
    have:=G.len
    rw[hp.length_eq];omega
   refine⟨l,rfl,⟨_,SqL.of hl1⟩,[],rfl,fun D hD=>?_⟩
   have nlD:l≠D:=ne_of_none hl1 hD
   refine comp_list (a:=l) (xs:=zs) (fun i ys H6=>ys=((ms.take i).map hd).map V.int/\H6=upd H1 D (.lst ys)) ⟨rfl,rfl⟩ (fun i ys H6 h=>?_) (fun i ys H6 h=>?_) (fun i x ys H6 hx h=>?_) (fun ys H6 h=>?_)
   . obtain⟨_,rfl⟩:=h
     exact SqL.of (by rw[upd_ne nlD];exact hl1)
   . obtain⟨rfl,_⟩:=h
     rw[List.length_map,List.length_map,List.length_take]
     exact small_line (by omega)
   . obtain⟨rfl,rfl⟩:=h
     obtain⟨ya,ky,rfl,hky,hya,_⟩:=T1.get hx
     obtain⟨z,c,rfl,ha⟩:=mem_fd.mp (hp.mem_iff.mp (List.mem_of_getElem? hky))
     refine⟨ya,_,rfl,SqT.of (by rw[upd_ne (ne_of_none hya hD)];exact hya),rfl,_,_,rfl,_,_,rfl,rfl,⟨rfl,rfl⟩,?_⟩
     refine tyes ?_
     refine⟨_,rfl,upd_same,?_,upd_upd⟩
     rw[List.take_add_one,hky]
     simp[hd]
   . obtain⟨rfl,rfl⟩:=h
     refine⟨D,_,rfl,.inl ⟨SqL.of upd_same,fun q hq=>?_⟩⟩
     rw[hlz,List.take_of_length_le (Nat.le_refl _)] at hq ⊢
     have nqD:q≠D:=fun e=>by rw[e,upd_same] at hq;cases hq
     have hq1:H1 q=none:=by rw[upd_ne nqD] at hq;exact hq
     have s2:Same H (upd (upd H1 D (.lst ((ms.map hd).map V.int))) q (.tup ((ms.map hd).map V.int))):=s1.trans (same_chg (same_laid hD) hq1)
     have hk:∀k∈ms,∃y l,k=[y,l]:=fun k hk=>by
      obtain⟨y,l,e,_⟩:=mem_fd.mp (hp.mem_iff.mp hk)
      exact⟨y,l,e⟩
     refine k q (ms.map hd) _ s2 ?_ upd_same (heads_rise hrs hk ((hp.map hd).nodup_iff.mpr (fd_heads G p))) fun y=>?_
     . cases e:H q with
       | none=>rfl
       | some o=>have:=s1 q o e;rw[hq1] at this;cases this
     . constructor
       . intro hy
         obtain⟨k,hk,rfl⟩:=List.mem_map.mp hy
         obtain⟨y,l,rfl,ha⟩:=mem_fd.mp (hp.mem_iff.mp hk)
         exact⟨l,ha⟩
       . rintro ⟨l,ha⟩
         exact List.mem_map.mpr ⟨[y,l],hp.mem_iff.mpr (mem_fd.mpr ⟨y,l,rfl,ha⟩),rfl⟩
end
end K60
namespace K60
open PySem L2 WM
theorem eqV_int (a b:Int):eqV (.int a) (.int b)=(a==b):=rfl
theorem inV_ints {z:Int}:∀{l:List Int},inV (.int z) (l.map V.int)=decide (z∈l)
 | []=>rfl
 | x::r=>by
  show (eqV (.int x) (.int z) || inV (.int z) (r.map V.int))=_
  rw[inV_ints (l:=r),eqV_int]
  by_cases h:x=z
  . subst h;simp
  . have h':(x==z)=false:=by simpa using h
    rw[h',Bool.false_or]
    simp[Ne.symm h]
theorem flat_ints:∀(l:List Int),(l.map V.int).all flatV=true
 | []=>rfl
 | _::r=>by rw[List.map_cons,List.all_cons,flat_ints r];rfl
theorem dec_int' {i j:Int}:decide (V.int i=V.int j)=decide (i=j):=by
 by_cases h:i=j
 . subst h;simp
 . rw[decide_eq_false h,decide_eq_false fun e=>h (by injection e)]
structure Mt (n:Int)(ts:List T3)(met:List Int):Prop where
 nd:met.Nodup
 z:0∈met
 rc:∀x∈met,Rch ts x
 bd:∀x∈met,0<=x/\x<n
theorem Mt.start {n:Int}{ts:List T3}(g:GW n ts):Mt n ts [0]:=
 ⟨by simp,by simp,fun x hx=>by rw[List.mem_singleton.mp hx];exact .z,fun x hx=>by rw[List.mem_singleton.mp hx];exact⟨Int.le_refl _,by have:=g.n1;omega⟩⟩
theorem Mt.more {n:Int}{ts:List T3}(g:GW n ts){met:List Int}(h:Mt n ts met){x y k:Int}(hx:x∈met)(ha:Adj ts x y k)(hy:¬ y∈met):Mt n ts (met++[y]):=by
 refine⟨nd_snoc h.nd hy,List.mem_append_left _ h.z,fun z hz=>?_,fun z hz=>?_⟩
 . rcases List.mem_append.mp hz with q | q
   . exact h.rc z q
   . rw[List.mem_singleton.mp q];exact .s (h.rc x hx) ha
 . rcases List.mem_append.mp hz with q | q
   . exact h.bd z q
   . rw[List.mem_singleton.mp q];have:=g.adj ha;exact⟨this.2.2.1,this.2.2.2.1⟩
theorem Mt.len {n:Int}{ts:List T3}(g:GW n ts){met:List Int}(h:Mt n ts met):(met.length:Int)<=n:=by
 have hb:∀x∈met,0<=x/\x<(n.toNat:Int):=fun x hx=>by have:=h.bd x hx;have:=g.n1;omega
 have:=nd_len h.nd hb
 have:=g.n1
 omega
def spJw:Sp:=fun vs H Q _=>∃(wa pl:Addr)(n:Int)(ts:List T3),vs=[.ref wa,.ref pl,.int 0]/\WebAt H wa n ts/\H pl=some (.lst ((lowTo n.toNat).map V.int)) /\
 ∀(la:Addr)(met ms:List Int)(H':Hp),Same H H'->H' la=some (.lst (ms.map V.int))->ms.length=met.length->met.Nodup->0∈met->(∀x∈met,∀y k,Adj ts x y k->y∈met)->(∀x∈met,Rch ts x)->Q (.ref la) H'
section
variable {P:Program}{w:World}{K:PySem.W.Frag}{mg:Str->Option Value}{base:Heap}
theorem scJw:FnScope ["web", "places", "start", "met", "gone", "place"] ["web", "places", "start"] (defScope sJw):=⟨rfl,rfl,rfl,by decide +kernel,rfl,by decide +kernel,by decide +kernel⟩
theorem ok_jw {f fB fT:Addr}{fd' fdB fdT:FuncData}(F:Fun K "joined_within" "joined_within" sJw f fd') (FB:Fun K "beside" "beside" sBeside fB fdB) (bB:Binds K fdB ["web", "place"] []) (mB:mg "beside" = some (.ref fB))
 (FT:Fun K "ties_at" "ties_at" sTies fT fdT) (bT:Binds K fdT ["web", "place"] []) (mT:mg "ties_at" = some (.ref fT)) (mSorted:mg "sorted" = none) (mTuple:mg "tuple" = none) (mLen:mg "len" = none) :
 FnOk P w K mg base CX0 3 f fd' ["web", "places", "start"] spJw:=by
 have GB:FnOk P w K mg base CX0 2 fB fdB ["web", "place"] spBeside:=ok_beside FB FT bT mT mSorted mTuple
 refine F.ok scJw (fun vs H Q E h=>?_) (fun cdv A outer s H vs Q E hr h=>?_)
 . obtain⟨wa,pl,n,ts,rfl,_⟩:=h
   rfl
 . obtain⟨wa,pl,n,ts,rfl,W,hpl,k⟩:=h
   obtain⟨ta,tys,hwa,_,_,G⟩:=id W
   refine⟨_,pss_cons (ps_set (i:=3) scJw.nd rfl (Or.inl rfl) (pe_lst (pa_cons (pv 2) pa_nil))) (pss_cons (ps_set (i:=4) scJw.nd rfl (Or.inl rfl) pe_int)
    (pss_cons (ps_while PassesOwn.never (pt_cmpR op_lt (pv 4) (pe_callB call_len_seq (by rfl) mLen PySem.boot_len (pa_cons (pv 3) pa_nil)) (nomark _))
     (pss_cons (ps_for PassesOwn.never rfl (pi_tup (pe_call GB hr rfl mB FB.kp bB .nil pass0 (pa_cons (pv 0) (pa_cons (pe_ix ix_list (pv 3) (pv 4) (fun _ _=>rfl)) pa_nil)))) (pg_name (i:=5) scJw.nd rfl (Or.inl rfl))
      (pss_one (ps_if (PW.pt (pw_and (pt_cmpR op_in_seq (pv 5) (pv 1) (by with_unfolding_all rfl)) (pw_and1 (pt_cmpR op_notIn_seq (pv 5) (pv 3) (by with_unfolding_all rfl))))) (pss_one (ps_expr (pe_bm PySem.F.plainAttrs_list PySem.F.slot_list_append PySem.F.type_list_append mt_append (pv 3) (pa_cons (pv 5) pa_nil)))) pss_nil)))
     (pss_one (ps_aug (i:=4) scJw.nd rfl (Or.inl rfl) pe_int ip_add))))
    (pss_one (ps_ret (pe_callB call_sortedI (by rfl) mSorted (by decide +kernel) (pa_cons (pv 3) pa_nil)))))),?_⟩
   refine⟨_,rfl,by show 1<=sizeLine;decide,fun ma hma=>?_⟩
   have hnw:wa≠ma:=ne_of_none hwa hma
   refine⟨fun m σ H2=>∃(g:Nat)(met:List Int)(vp:Option V),σ=[some (.ref wa),some (.ref pl),some (.int 0),some (.ref ma),some (.int g),vp]/\m=(n-g).toNat/\Same H H2/\H2 ma=some (.lst (met.map V.int))/\Mt n ts met/\g<=met.length/\(∀j x,j<g->met[j]? = some x->∀y c,Adj ts x y c->y∈met),
    ⟨_,0,[0],none,rfl,rfl,same_laid hma,upd_same,Mt.start G,Nat.zero_le _,fun j x h=>by omega⟩,?_⟩
   rintro m σ H2 ⟨g,met,vp,rfl,rfl,s2,hm2,M,hg,hcl⟩
   refine⟨_,rfl,_,rfl,ma,_,rfl,.inl (SqL.of hm2),_,_,rfl,rfl,_,rfl,?_⟩
   have hlen:=M.len G
   refine ite2 (fun hc=>?_) (fun hc=>?_)
   . have hlt:g<met.length:=by
      have:=of_decide_eq_true hc
      rw[List.length_map] at this
      omega
     refine⟨fun σ' H'=>∃(met':List Int)(vp:Option V),σ'=[some (.ref wa),some (.ref pl),some (.int 0),some (.ref ma),some (.int (g+1)),vp]/\Same H H'/\H' ma=some (.lst (met'.map V.int))/\Mt n ts met'/\g+1<=met'.length/\(∀j x,j<g+1->met'[j]? = some x->∀y c,Adj ts x y c->y∈met'),?_,?_⟩
     . rintro σ' H' ⟨met',vp',rfl,s',hm',M',hg',hc'⟩
       exact⟨(n-(g+1:Nat)).toNat,by omega,g+1,met',vp',rfl,rfl,s',hm',M',hg',hc'⟩
     . -- for place in beside(web,met[gone])
       refine⟨_,rfl,_,rfl,_,rfl,ma,_,_,_,rfl,rfl,SqL.of hm2,atI_nat (v:=V.int met[g]) (by simp[hlt]),wa,n,ts,met[g],rfl,W.keep s2,fun la hs H3 s3 hla0 hla hrise hmem=>?_⟩
       have hm3:H3 ma=some (.lst (met.map V.int)):=s3 _ _ hm2
       have nlm:la≠ma:=ne_of hla hm3 (by intro z;cases z)
       refine⟨la,rfl,⟨_,SqT.of hla⟩,for_tup (K:=K) (a:=la) (xs:=hs.map V.int) (fun i σ H4=>∃(ex:List Int)(vp:Option V),σ=[some (.ref wa),some (.ref pl),some (.int 0),some (.ref ma),some (.int g),vp]/\Same H H4/\H4 la=some (.tup (hs.map V.int))/\H4 ma=some (.lst ((met++ex).map V.int))/\Mt n ts (met++ex)/\∀j y,j<i->hs[j]? = some y->y∈met++ex)
        ⟨[],vp,rfl,s2.trans s3,hla,by rw[List.append_nil];exact hm3,by rw[List.append_nil];exact M,fun j y h=>by omega⟩ (fun i σ H4 _ ⟨_,_,_,_,e,_⟩=>SqT.of e) ?turn ?after⟩
       case turn=>
        rintro i x σ H4 hi ⟨ex,vp,rfl,s4,hla4,hm4,M4,hin⟩
        obtain⟨y,hy,rfl⟩:∃y,hs[i]? = some y/\V.int y=x:=by
         rw[List.getElem?_map] at hi
         cases e:hs[i]? with
         | none=>rw[e] at hi;cases hi
         | some y=>rw[e] at hi;exact⟨y,rfl,Option.some.inj hi⟩
        obtain⟨c,ha⟩:=(hmem y).mp (List.mem_of_getElem? hy)
        have ylow:y∈lowTo n.toNat:=mem_ints.mpr (by have:=G.adj ha;have:=G.n1;omega)
        refine⟨_,rfl,_,rfl,pl,_,rfl,.inl (SqL.of (s4 _ _ hpl)),rfl,flat_ints _,_,rfl,?_⟩
        refine ifT (show inV (.int y) ((lowTo n.toNat).map V.int)=true by rw[inV_ints];exact decide_eq_true ylow) ?_
        refine⟨_,rfl,_,rfl,ma,_,rfl,.inl (SqL.of hm4),rfl,flat_ints _,_,rfl,?_⟩
        refine ite2 (fun hc2=>?_) (fun hc2=>?_)
        . have hno:¬ y∈met++ex:=fun hy2=>by
           have hc3:(!inV (.int y) ((met++ex).map V.int))=true:=hc2
           rw[inV_ints,decide_eq_true hy2] at hc3
           cases hc3
          have hl4:=M4.len G
          refine⟨_,rfl,.inl ⟨rfl,_,SqL.of hm4⟩,_,rfl,ma,_,_,rfl,rfl,hm4,small_line (by rw[List.length_map];have:=G.n24;omega),?_⟩
          refine⟨ex++[y],_,rfl,same_chg s4 hma,by rw[upd_ne nlm];exact hla4,by rw[upd_same,<-List.append_assoc,List.map_append (l₁:=met++ex)];rfl,?_,fun j z hj hz=>?_⟩
          . rw[<-List.append_assoc]
            exact M4.more G (List.mem_append_left _ (List.getElem_mem hlt)) ha hno
          . rw[<-List.append_assoc]
            by_cases hji:j<i
            . exact List.mem_append_left _ (hin j z hji hz)
            . have e:j=i:=by omega
              subst e
              rw[hy] at hz
              cases hz
              simp
        . have hyes:y∈met++ex:=by
           by_cases hy2:y∈met++ex
           . exact hy2
           . exfalso
             apply hc2
             show (!inV (.int y) ((met++ex).map V.int))=true
             rw[inV_ints,decide_eq_false hy2]
             rfl
          refine⟨ex,_,rfl,s4,hla4,hm4,M4,fun j z hj hz=>?_⟩
          by_cases hji:j<i
          . exact hin j z hji hz
          . have e:j=i:=by omega
            subst e
            rw[hy] at hz
            cases hz
            exact hyes
       case after=>
        rintro σ H4 ⟨ex,vp,rfl,s4,hla4,hm4,M4,hin⟩
        refine⟨_,rfl,_,_,rfl,rfl,?_⟩
        refine⟨met++ex,_,rfl,s4,hm4,M4,by rw[List.length_append];omega,fun j x hj hx y c ha=>?_⟩
        by_cases hjg:j<g
        . rw[List.getElem?_append_left (by omega)] at hx
          exact List.mem_append_left _ (hcl j x hjg hx y c ha)
        . have e:j=g:=by omega
          subst e
          rw[List.getElem?_append_left hlt,List.getElem?_eq_getElem hlt] at hx
          cases hx
          obtain⟨i,hi,e⟩:=List.getElem_of_mem ((hmem y).mpr ⟨c,ha⟩)
          exact hin i y (by rw[List.length_map];exact hi) (by rw[List.getElem?_eq_getElem hi,e])
   . have hge:g=met.length:=by
      have h1:¬ ((g:Int)<((met.map V.int).length:Int)):=fun z=>hc (decide_eq_true z)
      rw[List.length_map] at h1
      omega
     subst hge
     have hn24:=G.n24
     refine⟨_,rfl,ma,met,rfl,SqL.of hm2,by omega,fun la ms hla hp _=>?_⟩
     refine k la met ms _ (s2.trans (same_laid hla)) upd_same hp.length_eq M.nd M.z (fun x hx y c ha=>?_) M.rc
     obtain⟨j,hj,e⟩:=List.getElem_of_mem hx
     exact hcl j x hj (by rw[List.getElem?_eq_getElem hj,e]) y c ha
theorem scWhole:FnScope ["web"] ["web"] (defScope sWhole):=⟨rfl,rfl,rfl,by decide +kernel,rfl,by decide +kernel,by decide +kernel⟩
theorem ok_whole {f fJ fB fT:Addr}{fd' fdJ fdB fdT:FuncData}(F:Fun K "is_whole" "is_whole" sWhole f fd') (FJ:Fun K "joined_within" "joined_within" sJw fJ fdJ) (bJ:Binds K fdJ ["web", "places", "start"] []) (mJ:mg "joined_within" = some (.ref fJ))
 (FB:Fun K "beside" "beside" sBeside fB fdB) (bB:Binds K fdB ["web", "place"] []) (mB:mg "beside" = some (.ref fB))
 (FT:Fun K "ties_at" "ties_at" sTies fT fdT) (bT:Binds K fdT ["web", "place"] []) (mT:mg "ties_at" = some (.ref fT)) (mSorted:mg "sorted" = none) (mTuple:mg "tuple" = none) (mLen:mg "len" = none) (mRange:mg "range" = none) (mList:mg "list" = none) :
 FnOk P w K mg base CX0 4 f fd' ["web"] spWhole:=by
 have GJ:FnOk P w K mg base CX0 3 fJ fdJ ["web", "places", "start"] spJw:=ok_jw FJ FB bB mB FT bT mT mSorted mTuple mLen
 refine F.ok scWhole (fun vs H Q E h=>?_) (fun cdv A outer s H vs Q E hr h=>?_)
 . obtain⟨wa,n,ts,rfl,_⟩:=h
   rfl
 . obtain⟨wa,n,ts,rfl,W,k⟩:=h
   obtain⟨ta,tys,hwa,_,_,G⟩:=id W
   have hn1:=G.n1
   have hn24:=G.n24
   refine⟨_,pss_one (ps_ret (pe_cmpR op_eq (pe_callB call_len_seq (by rfl) mLen PySem.boot_len (pa_cons (pe_call GJ hr rfl mJ FJ.kp bJ .nil pass0 (pa_cons (pv 0) (pa_cons (pe_lrange rfl rfl mList rfl mRange (pa_cons (pe_ix ix_tup (pv 0) pe_int (fun _ _=>rfl)) pa_nil)) (pa_int pa_nil)))) pa_nil)) (pe_ix ix_tup (pv 0) pe_int (fun _ _=>rfl)) (nomark _))),?_⟩
   refine⟨_,rfl,_,rfl,wa,_,_,_,rfl,rfl,SqT.of hwa,rfl,n,rfl,by omega,by omega,fun pl hpl=>?_⟩
   refine⟨wa,pl,n,ts,rfl,W.keep (same_laid hpl),upd_same,fun la met ms H' s' hla hl nd z cl rc=>?_⟩
   have s2:=(same_laid hpl).trans s'
   refine⟨la,_,rfl,.inl (SqL.of hla),_,rfl,wa,_,_,_,rfl,rfl,SqT.of (s2 _ _ hwa),rfl,rfl,?_⟩
   rw[dec_int',List.length_map,hl]
   exact k met H' s2 nd z cl rc
end
end K60
namespace K60
open PySem L2 WM
theorem ints_len (n:Nat):(lowTo n).length=n:=by unfold lowTo;rw[List.length_map,List.length_range]
theorem erase_map:∀(l:List Int)(k:Nat),(l.map V.int).eraseIdx k=(l.eraseIdx k).map V.int
 | [],_=>rfl
 | _::_,0=>rfl
 | x::r,k+1=>by
  show V.int x::(r.map V.int).eraseIdx k=V.int x::(r.eraseIdx k).map V.int
  rw[erase_map r k]
theorem erase_perm:∀{l:List Int}{k:Nat}(h:k<l.length),(l[k]::l.eraseIdx k).Perm l
 | [],_,h=>absurd h (Nat.not_lt_zero _)
 | _::_,0,_=>List.Perm.refl _
 | x::r,k+1,h=>by
  have hk:k<r.length:=by simpa using h
  show (r[k]::x::r.eraseIdx k).Perm (x::r)
  exact (List.Perm.swap x r[k] _).trans ((erase_perm hk).cons x)
def spTie:Sp:=fun vs H Q _=>∃x y l:Int,vs=[.int x,.int y,.int l]/\∀p,H p=none->Q (.ref p) (upd H p (.tup ((tl (tie3 x y l)).map V.int)))
def spRing:Sp:=fun vs H Q _=>∃(t:Addr)(N:Nat)(most:Int),vs=[.ref t,.int most]/\FeedAt H t N/\N<900000/\3<=most/\most<=24 /\
 ∀(p ls ll:Addr)(n:Nat)(S L:List Int)(H':Hp),H' p=some (.tup [.ref ls,.ref ll])->H' ls=some (.lst (S.map V.int))->H' ll=some (.lst (L.map V.int))->ls≠t->ll≠t->3<=n->n<=24->S.Perm (lowTo n)->L.length=n->(∀l∈L,1<=l/\l<=99)->FeedAt H' t (N+100)->Sm t H H'->Q (.ref p) H'
section
variable {P:Program}{w:World}{K:PySem.W.Frag}{mg:Str->Option Value}{base:Heap}
theorem scTie:FnScope ["_law_one", "_law_other", "_law_long"] ["_law_one", "_law_other", "_law_long"] (defScope sTie):=⟨rfl,rfl,rfl,by decide +kernel,rfl,by decide +kernel,by decide +kernel⟩
theorem ok_tie {f:Addr}{fd':FuncData}(F:Fun K "_law_tie" "_law_tie" sTie f fd') (mMin:mg "min" = none) (mMax:mg "max" = none):FnOk P w K mg base CX0 1 f fd' ["_law_one", "_law_other", "_law_long"] spTie:=by
 refine F.ok scTie (fun vs H Q E h=>?_) (fun cdv A outer s H vs Q E hr h=>?_)
 . obtain⟨x,y,l,rfl,_⟩:=h
   rfl
 . obtain⟨x,y,l,rfl,k⟩:=h
   refine⟨_,pss_one (ps_ret (pe_tup (pa_cons (pe_callB (call_min2 rfl) (by rfl) mMin (by decide +kernel) (pa_cons (pv 0) (pa_cons (pv 1) pa_nil))) (pa_cons (pe_callB (call_max2 rfl) (by rfl) mMax (by decide +kernel) (pa_cons (pv 0) (pa_cons (pv 1) pa_nil))) (pa_cons (pv 2) pa_nil))))),?_⟩
   refine⟨_,rfl,_,rfl,x,y,rfl,_,rfl,_,rfl,x,y,rfl,_,rfl,by show 3<=sizeLine;decide,fun p hp=>?_⟩
   have:=k p hp
   have e1:min x y=if y<x then y else x:=by split <;> omega
   have e2:max x y=if y > x then y else x:=by split <;> omega
   unfold tie3 tl at this
   simp only[List.map_cons,List.map_nil] at this
   rw[e1,e2] at this
   exact this
theorem scRing:FnScope ["_law_feed_here", "_law_most", "_law_many", "_law_left", "_law_seats", "_law_pool"] ["_law_feed_here", "_law_most"] (defScope sRing):=⟨rfl,rfl,rfl,by decide +kernel,rfl,by decide +kernel,by decide +kernel⟩
theorem ps_as {X:Cx}{st:Stmt}{u u':TS}(h:PS X st u)(m:∀D σ H,u' D σ H->u D σ H):PS X st u':=fun pins s σ H D I q=>h pins s σ H D I (m D σ H q)
structure RW (H:Hp)(t p lf D:Addr)(n:Nat)(N:Nat)(row left:List Int)(H2:Hp):Prop where
 pm:(row++left).Perm (lowTo n)
 lf:H2 lf=some (.lst (left.map V.int))
 ls:H2 D=some (.lst (row.map V.int))
 tp:FeedP H2 t p (N+row.length)
 sm:Sm t H H2
theorem RW.on {H H2 H3:Hp}{t p lf D:Addr}{n N:Nat}{row left:List Int}(h:RW H t p lf D n N row left H2)(s:Same H2 H3):RW H t p lf D n N row left H3:=⟨h.pm,s _ _ h.lf,s _ _ h.ls,h.tp.same s,h.sm.trans (Sm.of s)⟩
theorem ok_ring {f fD:Addr}{fd fdD:FuncData}(F:Fun K "_law_ring" "_law_ring" sRing f fd) (FD:Fun K "_law_take" "_law_take" sTake fD fdD) (bD:Binds K fdD ["_law_feed_here", "_law_many"] []) (mD:mg "_law_take" = some (.ref fD)) (mLen:mg "len" = none)
 (mRange:mg "range" = none) (mList:mg "list" = none):FnOk P w K mg base CX0 2 f fd ["_law_feed_here", "_law_most"] spRing:=by
 have GD:FnOk P w K mg base CX0 1 fD fdD ["_law_feed_here", "_law_many"] spTakeP:=ok_takeP FD mLen
 refine F.ok scRing (fun vs H Q E h=>?_) (fun cdv A outer s H vs Q E hr h=>?_)
 . obtain⟨t,N,n,rfl,_⟩:=h
   rfl
 . obtain⟨t,N,most,rfl,TT,hN,hm3,hm24,k⟩:=h
   obtain⟨p,T⟩:=TT
   have hu0:=hr.units0
   obtain⟨es,q0,q1,q2,j3,q3,q4,p1,p2,p3,hbd,hes⟩:∃es q0 q1 q2 j3 q3 q4 p1 p2 p3,defBody sRing=(defBody sRing).getD 0 (.Pass ⟨0,0,0,0⟩)::(defBody sRing).getD 1 (.Pass ⟨0,0,0,0⟩)::(defBody sRing).getD 2 (.Pass ⟨0,0,0,0⟩)::(defBody sRing).getD 3 (.Pass ⟨0,0,0,0⟩)::(defBody sRing).getD 4 (.Pass ⟨0,0,0,0⟩) :: .Assign [.Name "_law_pool" q0] (.Subscript (.List es p1) (.Call (.Name "_law_take" q1) [.Name "_law_feed_here" q2,.Constant (.int 4) j3 q3] [] q4) p2) p3::(defBody sRing).drop 6 /\
    LitIntss es [[1],[1,2],[1,1,2,4],[1,3,97,98,99]]:=⟨_,_,_,_,_,_,_,_,_,_,rfl,.cons (.cons .nil) (by show 1<=sizeLine;decide) (.cons (.cons (.cons .nil)) (by show 2<=sizeLine;decide) (.cons (.cons (.cons (.cons (.cons .nil)))) (by show 4<=sizeLine;decide) (.cons (.cons (.cons (.cons (.cons (.cons .nil))))) (by show 5<=sizeLine;decide) (.nil))))⟩
   rw[hbd]
   refine⟨_,pss_cons (ps_set (i:=2) scRing.nd rfl (Or.inl rfl) (pe_op op_add pe_int (pe_call GD hr rfl mD FD.kp bD .nil pass0 (pa_cons (pv 0) (pa_int pa_nil)))))
    (pss_cons (ps_as (u':=fun (D:Ends) σ H=>∃(N:Nat)(many:Int),σ=[some (.ref t),some (.int most),some (.int many),none,none,none]/\FeedP H t p N/\N<1000000/\3<=many/\many<=24/\∀(many':Int)(H':Hp),3<=many'->many'<=24->FeedP H' t p (N+1)->(∀b,b≠t->H' b=H b)->D.nx [some (.ref t),some (.int most),some (.int many'),none,none,none] H')
     (ps_if (pt_cmpR op_eq (pe_call GD hr rfl mD FD.kp bD .nil pass0 (pa_cons (pv 0) (pa_int pa_nil))) pe_int (nomark _)) (pss_one (ps_set (i:=2) scRing.nd rfl (Or.inl rfl) (pv 1))) pss_nil) (fun D σ H z=>by
      obtain⟨N,many,rfl,T0,hN,h3,h24,z⟩:=z
      refine⟨_,rfl,t,p,_,8,rfl,T0,hN,by decide,by decide,fun r1 H1 a1 b1 T1 he1=>?_⟩
      refine⟨rfl,_,rfl,?_⟩
      refine ite2 (fun _=>?_) (fun _=>?_)
      . exact⟨_,rfl,z most H1 hm3 hm24 T1 he1⟩
      . exact z many H1 h3 h24 T1 he1))
    (pss_cons (ps_set (i:=3) scRing.nd rfl (Or.inl rfl) (pe_lrange rfl rfl mList rfl mRange (pa_cons (pv 2) pa_nil)))
    (pss_cons (ps_set (i:=4) scRing.nd rfl (Or.inl rfl) (pe_lst pa_nil))
    (pss_cons (ps_while PassesOwn.never (pt_cmpR (op_neE hu0) (pv 3) (pe_lst pa_nil) (nomark _))
     (pss_one (ps_expr (pe_bm PySem.F.plainAttrs_list PySem.F.slot_list_append PySem.F.type_list_append mt_append (pv 4)
      (pa_cons (pe_bm PySem.F.plainAttrs_list PySem.F.slot_list_pop PySem.F.type_list_pop mt_popAt (pv 3)
       (pa_cons (pe_call GD hr rfl mD FD.kp bD .nil pass0 (pa_cons (pv 0) (pa_cons (pe_callB call_len_seq (by rfl) mLen PySem.boot_len (pa_cons (pv 3) pa_nil)) pa_nil))) pa_nil)) pa_nil)))))
    (pss_cons (ps_set (i:=5) scRing.nd rfl (Or.inr rfl) (pe_ix ix_list (pe_lst (pa_litss hes)) (pe_call GD hr rfl mD FD.kp bD .nil pass0 (pa_cons (pv 0) (pa_int pa_nil))) (fun _ _=>rfl)))
    (pss_one (ps_ret (pe_tup (pa_cons (pv 4) (pa_cons (pe_comp (own:=["_law_place"]) (cn:=["_law_pool", "_law_feed_here"]) (ci:=[5,0]) rfl (csc rfl rfl) ⟨rfl,rfl,rfl,rfl,rfl,rfl,trivial⟩ rfl
     (pi_list (pv 4)) (fun _ _ _ _=>pg_name (i:=0) (nd_of rfl) rfl (Or.inl rfl)) (fun _ _ _ _=>pts_nil)
     (fun _ _ _ _=>pe_ix ix_listC (pv 1) (pe_call GD hr rfl mD FD.kp bD .nil pass0 (pa_cons (pv 2) (pa_cons (pe_callB call_len_seqC (by rfl) mLen PySem.boot_len (pa_cons (pv 1) pa_nil)) pa_nil))) (fun _ _=>rfl))) pa_nil)))))))))),?_⟩
   refine⟨_,rfl,t,p,N,7,rfl,T,by omega,by decide,by decide,fun r0 H0 a0 b0 T0 he0=>?_⟩
   refine⟨_,_,rfl,rfl,?_⟩
   refine⟨N+1,3+r0,rfl,T0,by omega,by omega,by omega,fun many H1 h3 h24 T1 he1=>?_⟩
   have s1:Sm t H H1:=(sm_eq he0).trans (sm_eq he1)
   clear he0 he1 T0 a0 b0 r0 T
   refine⟨_,rfl,many,rfl,by omega,by omega,fun lf hlf=>?_⟩
   have nlt:lf≠t:=(T1.ne hlf).1
   have nlp:lf≠p:=(T1.ne hlf).2
   refine⟨Nat.zero_le _,fun D hD=>?_⟩
   have hD1:H1 D=none:=none_back (same_laid hlf) hD
   have nDt:D≠t:=(T1.ne hD1).1
   have nDp:D≠p:=(T1.ne hD1).2
   have nDl:D≠lf:=fun z=>by rw[z,upd_same] at hD;cases hD
   have hlf0:H lf=none:=by
    cases q:H lf with
    | none=>rfl
    | some o=>rw[s1 _ _ nlt q] at hlf;cases hlf
   have hD0:H D=none:=by
    cases q:H D with
    | none=>rfl
    | some o=>rw[s1 _ _ nDt q] at hD1;cases hD1
   have W0:RW H t p lf D many.toNat (N+2) [] (lowTo many.toNat) (upd (upd H1 lf (.lst ((lowTo many.toNat).map V.int))) D (.lst [])):=
    ⟨List.Perm.refl _,same_laid hD _ _ upd_same,upd_same,(T1.laid hlf).laid hD,s1.trans ((Sm.laid hlf).trans (Sm.laid hD))⟩
   generalize upd (upd H1 lf (.lst ((lowTo many.toNat).map V.int))) D (.lst [])=H2 at W0 ⊢
   clear hlf hD T1 s1
   refine⟨fun m σ H3=>∃(row left:List Int),σ=[some (.ref t),some (.int most),some (.int many),some (.ref lf),some (.ref D),none]/\m=left.length/\RW H t p lf D many.toNat (N+2) row left H3,⟨_,[],lowTo many.toNat,rfl,rfl,W0⟩,?_⟩
   rintro m σ H3 ⟨row,left,rfl,rfl,W⟩
   have hll:row.length+left.length=many.toNat:=by
    have:=W.pm.length_eq
    rw[List.length_append,ints_len] at this
    exact this
   refine⟨_,rfl,by show 0<=sizeLine;decide,fun e0 he0=>?_⟩
   have W1:=W.on (same_laid (o:=.lst []) he0)
   have h00:(upd H3 e0 (.lst [])) e0=some (.lst []):=upd_same
   generalize upd H3 e0 (.lst [])=H4 at W1 h00 ⊢
   refine⟨lf,e0,_,rfl,rfl,SqL.of W1.lf,SqL.of h00,_,rfl,?_⟩
   refine ite2 (fun hc=>?_) (fun hc=>?_)
   . have hl0:0<left.length:=by
      cases left with
      | nil=>cases hc
      | cons _ _=>exact Nat.succ_pos _
     refine⟨fun σ' H'=>∃(row' left':List Int),σ'=[some (.ref t),some (.int most),some (.int many),some (.ref lf),some (.ref D),none]/\left'.length<left.length/\RW H t p lf D many.toNat (N+2) row' left' H',fun σ' H' ⟨row',left',e,hlt,W'⟩=>⟨_,hlt,row',left',e,rfl,W'⟩,?_⟩
     refine⟨_,rfl,.inl ⟨rfl,_,SqL.of W1.ls⟩,_,rfl,.inl ⟨rfl,_,SqL.of W1.lf⟩,?_⟩
     refine⟨_,rfl,_,rfl,lf,_,rfl,.inl (SqL.of W1.lf),t,p,_,_,rfl,W1.tp,by omega,by rw[List.length_map];omega,by rw[List.length_map];omega,fun rr H5 h0 h1 T5 e5=>?_⟩
     rw[List.length_map] at h1
     have hlt:rr.toNat<left.length:=by omega
     refine⟨lf,left.map V.int,rr,rr.toNat,.int left[rr.toNat],rfl,rfl,by rw[e5 lf nlt];exact W1.lf,by omega,by omega,PySem.StrLaws.seqIndex_nonneg h0 (by rw[List.length_map];omega),by rw[List.getElem?_map,List.getElem?_eq_getElem hlt];rfl,?_⟩
     rw[erase_map left rr.toNat]
     refine⟨D,_,_,rfl,rfl,by rw[upd_ne nDl,e5 D nDt];exact W1.ls,by rw[List.length_map];exact small_line (by omega),?_⟩
     refine⟨row++[left[rr.toNat]],left.eraseIdx rr.toNat,rfl,by rw[List.length_eraseIdx,if_pos hlt];omega,?_⟩
     refine⟨?_,by rw[upd_ne nDl.symm,upd_same],by rw[List.map_append];exact upd_same,?_,((W1.sm.trans (sm_eq e5)).chg hlf0).chg hD0⟩
     . refine List.Perm.trans ?_ W1.pm
       rw[List.append_assoc]
       exact (erase_perm hlt).append_left row
     . rw[List.length_append]
       exact ((T5.upd nlt nlp).upd nDt nDp).mono (by simp;omega)
   have hleft:left=[]:=by
    cases left with
    | nil=>rfl
    | cons a r=>exact absurd (show (!(List.map V.int (a::r)).isEmpty)=true from rfl) hc
   subst hleft
   have hrl:row.length=many.toNat:=by simpa using hll
   have hpm:row.Perm (lowTo many.toNat):=by have:=W1.pm;rwa [List.append_nil] at this
   have s4:=W1.sm
   have T4:=W1.tp
   have hD4:=W1.ls
   clear W W1 W0 hc h00 hll
   rw[hrl] at T4
   intro a1 e1 a2 e2 a3 e3 a4 e4
   refine⟨by show 4<=sizeLine;decide,fun al el=>?_⟩
   have g1:=(same_laid (o:=.lst [.int 1]) e1)
   have g2:=g1.trans (same_laid (o:=.lst [.int 1,.int 2]) e2)
   have g3:=g2.trans (same_laid (o:=.lst [.int 1,.int 1,.int 2,.int 4]) e3)
   have g4:=g3.trans (same_laid (o:=.lst [.int 1,.int 3,.int 97,.int 98,.int 99]) e4)
   have g5:=g4.trans (same_laid (o:=.lst [.ref a1,.ref a2,.ref a3,.ref a4]) el)
   have u4:=same_laid (o:=.lst [.ref a1,.ref a2,.ref a3,.ref a4]) el
   have u3:=(same_laid (o:=.lst [.int 1,.int 3,.int 97,.int 98,.int 99]) e4).trans u4
   have u2:=(same_laid (o:=.lst [.int 1,.int 1,.int 2,.int 4]) e3).trans u3
   have u1:=(same_laid (o:=.lst [.int 1,.int 2]) e2).trans u2
   have f1:(upd (upd (upd (upd (upd H4 a1 (.lst [.int 1])) a2 (.lst [.int 1,.int 2])) a3 (.lst [.int 1,.int 1,.int 2,.int 4])) a4 (.lst [.int 1,.int 3,.int 97,.int 98,.int 99])) al (.lst [.ref a1,.ref a2,.ref a3,.ref a4])) a1=some (.lst [.int 1]):=u1 a1 _ upd_same
   have f2:(upd (upd (upd (upd (upd H4 a1 (.lst [.int 1])) a2 (.lst [.int 1,.int 2])) a3 (.lst [.int 1,.int 1,.int 2,.int 4])) a4 (.lst [.int 1,.int 3,.int 97,.int 98,.int 99])) al (.lst [.ref a1,.ref a2,.ref a3,.ref a4])) a2=some (.lst [.int 1,.int 2]):=u2 a2 _ upd_same
   have f3:(upd (upd (upd (upd (upd H4 a1 (.lst [.int 1])) a2 (.lst [.int 1,.int 2])) a3 (.lst [.int 1,.int 1,.int 2,.int 4])) a4 (.lst [.int 1,.int 3,.int 97,.int 98,.int 99])) al (.lst [.ref a1,.ref a2,.ref a3,.ref a4])) a3=some (.lst [.int 1,.int 1,.int 2,.int 4]):=u3 a3 _ upd_same
   have f4:(upd (upd (upd (upd (upd H4 a1 (.lst [.int 1])) a2 (.lst [.int 1,.int 2])) a3 (.lst [.int 1,.int 1,.int 2,.int 4])) a4 (.lst [.int 1,.int 3,.int 97,.int 98,.int 99])) al (.lst [.ref a1,.ref a2,.ref a3,.ref a4])) a4=some (.lst [.int 1,.int 3,.int 97,.int 98,.int 99]):=u4 a4 _ upd_same
   have f5:(upd (upd (upd (upd (upd H4 a1 (.lst [.int 1])) a2 (.lst [.int 1,.int 2])) a3 (.lst [.int 1,.int 1,.int 2,.int 4])) a4 (.lst [.int 1,.int 3,.int 97,.int 98,.int 99])) al (.lst [.ref a1,.ref a2,.ref a3,.ref a4])) al=some (.lst [.ref a1,.ref a2,.ref a3,.ref a4]):=upd_same
   have n1:a1≠t:=(T4.ne e1).1
   have n2:a2≠t:=(T4.ne (none_back g1 e2)).1
   have n3:a3≠t:=(T4.ne (none_back g2 e3)).1
   have n4:a4≠t:=(T4.ne (none_back g3 e4)).1
   have n5:al≠t:=(T4.ne (none_back g4 el)).1
   clear u1 u2 u3 u4 g1 g2 g3 g4
   show tCall spTakeP [] E0 _ _ (upd (upd (upd (upd (upd H4 a1 (.lst [.int 1])) a2 (.lst [.int 1,.int 2])) a3 (.lst [.int 1,.int 1,.int 2,.int 4])) a4 (.lst [.int 1,.int 3,.int 97,.int 98,.int 99])) al (.lst [.ref a1,.ref a2,.ref a3,.ref a4])) _
   generalize upd (upd (upd (upd (upd H4 a1 (.lst [.int 1])) a2 (.lst [.int 1,.int 2])) a3 (.lst [.int 1,.int 1,.int 2,.int 4])) a4 (.lst [.int 1,.int 3,.int 97,.int 98,.int 99])) al (.lst [.ref a1,.ref a2,.ref a3,.ref a4])=G at g5 f1 f2 f3 f4 f5 ⊢
   clear e1 e2 e3 e4 el
   refine⟨_,rfl,t,p,_,4,rfl,T4.same g5,by omega,by decide,by decide,fun r H5 h0 h1 T5 he5=>?_⟩
   obtain⟨pl,L,hat,hpl,hL,hL0,npl⟩:∃(pl:Addr)(L:List Int),atI [V.ref a1,V.ref a2,V.ref a3,V.ref a4] r=some (.ref pl)/\H5 pl=some (.lst (L.map V.int))/\(∀l∈L,1<=l/\l<=99)/\(0<L.length/\L.length<=5)/\pl≠t:=by
    have hr4:r=0\/r=1\/r=2\/r=3:=by omega
    rcases hr4 with rfl | rfl | rfl | rfl
    . exact⟨a1,[1],rfl,by rw[he5 _ n1];exact f1,by decide,by decide,n1⟩
    . exact⟨a2,[1,2],rfl,by rw[he5 _ n2];exact f2,by decide,by decide,n2⟩
    . exact⟨a3,[1,1,2,4],rfl,by rw[he5 _ n3];exact f3,by decide,by decide,n3⟩
    . exact⟨a4,[1,3,97,98,99],rfl,by rw[he5 _ n4];exact f4,by decide,by decide,n4⟩
   refine⟨al,_,_,_,rfl,rfl,SqL.of (by rw[he5 al n5];exact f5),hat,?_⟩
   have s5:Sm t H4 H5:=(Sm.of g5).trans (sm_eq he5)
   have hD5:=s5 _ _ nDt hD4
   have s05:=s4.trans s5
   clear f1 f2 f3 f4 f5 n1 n2 n3 n4 n5 g5 he5 hD4 T4 s4 s5 hat
   refine⟨_,rfl,_,rfl,D,rfl,⟨_,SqL.of hD5⟩,[.ref pl,.ref t],rfl,fun D2 hD2=>?_⟩
   have n2t:=(T5.ne hD2).1
   have n2p:=(T5.ne hD2).2
   refine comp_list (a:=D) (xs:=row.map V.int) (fun i ys H6=>i<=many.toNat/\∃L2:List Int,ys=L2.map V.int/\L2.length=i/\(∀l∈L2,1<=l/\l<=99)/\FeedP H6 t p (N+2+many.toNat+1+i)/\Sm t H5 H6/\H6 D2=some (.lst ys))
    ⟨Nat.zero_le _,[],rfl,rfl,by simp,T5.laid hD2,Sm.laid hD2,upd_same⟩ (fun i ys H6 z=>?_) (fun i ys H6 z=>?_) (fun i x ys H6 hx z=>?_) (fun ys H6 z=>?_)
   . obtain⟨_,L2,_,_,_,_,s6,_⟩:=z
     exact SqL.of (s6 _ _ nDt hD5)
   . obtain⟨hi,L2,rfl,hl2,_⟩:=z
     rw[List.length_map,hl2]
     exact small_line (by omega)
   . obtain⟨_,L2,rfl,hl2,hb2,T6,s6,hD6⟩:=z
     have hi:i<many.toNat:=by have:=(List.getElem?_eq_some_iff.mp hx).1;rw[List.length_map,hrl] at this;exact this
     have hpl6:=s6 _ _ npl hpl
     refine⟨⟨rfl,rfl⟩,?_⟩
     refine tyes ?_
     refine⟨_,rfl,_,rfl,_,rfl,pl,_,rfl,.inl (SqL.of hpl6),t,p,_,_,rfl,T6,by omega,by rw[List.length_map];omega,by rw[List.length_map];omega,fun r7 H7 h70 h71 T7 he7=>?_⟩
     rw[List.length_map] at h71
     obtain⟨l,hl,hat⟩:=menu_at (L:=L) h70 h71
     refine⟨pl,_,_,_,rfl,rfl,SqL.of (by rw[he7 pl npl];exact hpl6),hat,by rw[he7 D2 n2t];exact hD6,hi,L2++[l],by rw[List.map_append];rfl,by rw[List.length_append,hl2];rfl,fun x hx'=>?_,T7.upd n2t n2p,(s6.trans (sm_eq he7)).chg hD2,upd_same⟩
     rcases List.mem_append.mp hx' with z | z
     . exact hb2 x z
     . rw[List.mem_singleton.mp z];exact hL l hl
   . obtain⟨_,L2,rfl,hl2,hb2,T6,s6,hD6⟩:=z
     rw[List.length_map,hrl] at hl2 T6
     have hDD:=s6 _ _ nDt hD5
     refine⟨by show 2<=sizeLine;decide,fun q hq=>?_⟩
     have sq:=same_laid (o:=.tup [.ref D,.ref D2]) hq
     exact k q D D2 many.toNat row L2 _ upd_same (sq _ _ hDD) (sq _ _ hD6) nDt n2t (by omega) (by omega) hpm hl2 hb2 ⟨p,(T6.same sq).mono (by omega)⟩ (s05.trans (s6.trans (Sm.of sq)))
end
end K60
namespace K60
open PySem L2 WM
theorem getE {L:List Int}{n i:Nat}(hl:L.length=n)(hi:i<n):(L.map V.int)[i]? = some (.int (L.getD i 0)):=by
 rw[List.getElem?_map,List.getElem?_eq_getElem (by omega),List.getD_eq_getElem?_getD,List.getElem?_eq_getElem (by omega)];rfl
theorem mod_nx {n k:Nat}(h:k<n)(h0:0<n):(((k:Int)+1)%(n:Int))=((nx n k:Nat):Int):=by
 unfold nx
 by_cases c:k+1=n
 . rw[if_pos c,show (k:Int)+1=(n:Int) by omega,Int.emod_self];rfl
 . rw[if_neg c,Int.emod_eq_of_lt (by omega) (by omega)];omega
def seatF (S:List Int)(k:Nat):Int:=S.getD k 0
def spWof:Sp:=fun vs H Q _=>∃(ls ll:Addr)(n:Nat)(S L:List Int),vs=[.ref ls,.ref ll]/\H ls=some (.lst (S.map V.int))/\H ll=some (.lst (L.map V.int))/\3<=n/\n<=24/\S.Perm (lowTo n)/\L.length=n/\(∀l∈L,1<=l/\l<=99) /\
 ∀(wa:Addr)(ts:List T3)(H':Hp),H wa=none->WebAt H' wa n ts->ts.length=n->Ring ts n (seatF S) (seatF L)->Same H H'->Q (.ref wa) H'
theorem perm_t3 {ts:List T3}{ms:List (List Int)}(hpm:ms.Perm (ts.map tl)):∃ts':List T3,ts'.map tl=ms/\ts'.Perm ts:=by
 refine⟨ms.map fun k=>(k.getD 0 0,k.getD 1 0,k.getD 2 0),?_,?_⟩
 . rw[List.map_map]
   conv=>rhs;rw[<-List.map_id ms]
   refine List.map_congr_left fun k hk=>?_
   obtain⟨t',_,rfl⟩:=List.mem_map.mp (hpm.mem_iff.mp hk)
   rfl
 . have:=hpm.map fun k:List Int=>((k.getD 0 0,k.getD 1 0,k.getD 2 0):T3)
   rw[List.map_map] at this
   have e:ts.map ((fun k:List Int=>((k.getD 0 0,k.getD 1 0,k.getD 2 0):T3))∘tl)=ts:=by
    conv=>rhs;rw[<-List.map_id ts]
    exact List.map_congr_left fun t' _=>rfl
   rw[e] at this
   exact this
theorem seat_facts {S:List Int}{n:Nat}(hp:S.Perm (lowTo n)):S.length=n/\(∀i j,i<n->j<n->S.getD i 0=S.getD j 0->i=j)/\(∀i,i<n->0<=S.getD i 0/\S.getD i 0<n)/\(0<n->∃i,i<n/\S.getD i 0=0):=by
 have hl:S.length=n:=by rw[hp.length_eq,ints_len]
 have nd:S.Nodup:=hp.nodup_iff.mpr ((ints_rise _).imp fun h=>by omega)
 have ge:∀i (h:i<n),S.getD i 0=S[i]'(by omega):=fun i h=>by rw[List.getD_eq_getElem?_getD,List.getElem?_eq_getElem (by omega)];rfl
 refine⟨hl,fun i j hi hj e=>?_,fun i hi=>?_,fun h0=>?_⟩
 . rw[ge i hi,ge j hj] at e
   exact (List.getElem_inj nd).mp e
 . rw[ge i hi]
   exact mem_ints.mp (hp.mem_iff.mp (List.getElem_mem _))
 . have:(0:Int)∈S:=hp.mem_iff.mpr (mem_ints.mpr ⟨Int.le_refl _,by omega⟩)
   obtain⟨i,hi,e⟩:=List.getElem_of_mem this
   exact⟨i,by omega,by rw[ge i (by omega)];exact e⟩
section
variable {P:Program}{w:World}{K:PySem.W.Frag}{mg:Str->Option Value}{base:Heap}
theorem scWof:FnScope ["_law_seats", "_law_longs", "_law_many", "_law_ties"] ["_law_seats", "_law_longs"] (defScope sWof):=⟨rfl,rfl,rfl,by decide +kernel,rfl,by decide +kernel,by decide +kernel⟩
theorem ok_wof {f fT:Addr}{fd fdT:FuncData}(F:Fun K "_law_web_of" "_law_web_of" sWof f fd) (FT:Fun K "_law_tie" "_law_tie" sTie fT fdT) (bT:Binds K fdT ["_law_one", "_law_other", "_law_long"] []) (mT:mg "_law_tie" = some (.ref fT)) (mLen:mg "len" = none)
 (mRange:mg "range" = none) (mTuple:mg "tuple" = none) (mSorted:mg "sorted" = none) (mMin:mg "min" = none) (mMax:mg "max" = none):FnOk P w K mg base CX0 2 f fd ["_law_seats", "_law_longs"] spWof:=by
 have GT:FnOk P w K mg base CX0 1 fT fdT ["_law_one", "_law_other", "_law_long"] spTie:=ok_tie FT mMin mMax
 refine F.ok scWof (fun vs H Q E h=>?_) (fun cdv A outer s H vs Q E hr h=>?_)
 . obtain⟨ls,ll,n,S,L,rfl,_⟩:=h
   rfl
 . obtain⟨ls,ll,n,S,L,rfl,hS,hL,h3,h24,hp,hLl,hLb,k⟩:=h
   obtain⟨hSl,inj,rng,hz⟩:=seat_facts hp
   refine⟨_,pss_cons (ps_set (i:=2) scWof.nd rfl (Or.inr rfl) (pe_callB call_len_seq (by rfl) mLen PySem.boot_len (pa_cons (pv 0) pa_nil)))
    (pss_cons (ps_setC (i:=3) (own:=["_law_k"]) (cn:=["_law_seats", "_law_many", "_law_longs"]) (ci:=[0,2,1]) scWof.nd rfl (Or.inl rfl) rfl (csc rfl rfl) ⟨rfl,rfl,rfl,rfl,rfl,rfl,rfl,rfl,rfl,trivial⟩ rfl
     (pi_range1 rfl mRange (pa_cons (pv 2) pa_nil)) (fun _ _ _ _=>pg_name (i:=0) (nd_of rfl) rfl (Or.inl rfl)) (fun _ _ _ _=>pts_nil)
     (fun _ _ _ _=>pe_call GT hr rfl mT FT.kp bT .nil pass0 (pa_cons (pe_ix ix_listC (pv 1) (pv 0) (fun _ _=>rfl)) (pa_cons (pe_ix ix_listC (pv 1) (pe_op op_mod (pe_op op_add (pv 0) pe_int) (pv 2)) (fun _ _=>rfl)) (pa_cons (pe_ix ix_listC (pv 3) (pv 0) (fun _ _=>rfl)) pa_nil)))))
    (pss_one (ps_ret (pe_tup (pa_cons (pv 2) (pa_cons (pe_callTy call_tuple_of (by rfl) mTuple (by decide +kernel) (pa_cons (pe_callB call_sorted (by rfl) mSorted (by decide +kernel) (pa_cons (pv 3) pa_nil)) pa_nil)) pa_nil)))))),?_⟩
   refine⟨_,rfl,ls,_,rfl,.inl (SqL.of hS),?_⟩
   rw[show ((S.map V.int).length:Int)=(n:Int) by rw[List.length_map,hSl]]
   refine⟨_,rfl,(n:Int),rfl,by omega,by omega,[.ref ls,.int n,.ref ll],rfl,fun D hD=>?_⟩
   refine comp_range (lo:=0) (n:=(n:Int).toNat) (fun q ys H1=>q<=n/\TupsAre H1 ys (((List.range q).map fun k=>tie3 (seatF S k) (seatF S (nx n k)) (seatF L k)).map tl)/\Same H H1/\H1 D=some (.lst ys))
    ⟨Nat.zero_le _,trivial,same_laid hD,upd_same⟩ (fun q ys H1 z=>?_) (fun q ys H1 hq z=>?_) (fun ys H1 z=>?_)
   . obtain⟨hq,TA,_⟩:=z
     rw[TA.length,List.length_map,List.length_map,List.length_range]
     exact small_line (by omega)
   . obtain⟨_,TA,s1,hD1⟩:=z
     rw[Int.toNat_natCast] at hq
     rw[Int.zero_add]
     have hS1:=s1 _ _ hS
     have hL1:=s1 _ _ hL
     refine⟨⟨rfl,rfl⟩,?_⟩
     refine tyes ?_
     refine⟨_,rfl,_,rfl,ls,_,_,_,rfl,rfl,SqL.of hS1,atI_nat (getE hSl hq),?_⟩
     refine⟨_,rfl,_,rfl,_,_,rfl,rfl,_,rfl,_,_,rfl,rfl,(by omega),?_⟩
     dsimp only
     rw[mod_nx hq (by omega)]
     refine⟨ls,_,_,_,rfl,rfl,SqL.of hS1,atI_nat (getE hSl (nx_lt hq)),?_⟩
     refine⟨_,rfl,_,rfl,ll,_,_,_,rfl,rfl,SqL.of hL1,atI_nat (getE hLl hq),?_⟩
     refine⟨_,_,_,rfl,fun p hp'=>?_⟩
     have npD:p≠D:=fun z=>by rw[z,hD1] at hp';cases hp'
     have sp:=same_laid (o:=.tup ((tl (tie3 (S.getD q 0) (S.getD (nx n q) 0) (L.getD q 0))).map V.int)) hp'
     refine⟨sp _ _ hD1,hq,?_,same_chg (s1.trans sp) hD,upd_same⟩
     rw[List.range_succ,List.map_append,List.map_append]
     refine (TA.keep fun b zs e=>?_).snoc ⟨p,rfl,?_,by simp[tl]⟩
     . rw[upd_ne (ne_of e hD1 (by intro z;cases z))]
       exact sp _ _ e
     . rw[upd_ne npD,upd_same];rfl
   . obtain⟨_,TA,s1,hD1⟩:=z
     rw[Int.toNat_natCast] at TA
     refine⟨_,rfl,_,rfl,D,ys,_,rfl,SqL.of hD1,TA,by rw[List.length_map,List.length_map,List.length_range];omega,fun l us ms hl TA2 hpm _=>?_⟩
     refine⟨l,us,rfl,.inl ⟨SqL.of upd_same,fun ta hta=>?_⟩⟩
     obtain⟨ts,ets,hpt⟩:=perm_t3 hpm
     refine⟨by show 2<=sizeLine;decide,fun wa hwa=>?_⟩
     have pos:∀i,i<n->1<=L.getD i 0/\L.getD i 0<=99:=fun i hi=>by
      rw[List.getD_eq_getElem?_getD,List.getElem?_eq_getElem (by omega)]
      exact hLb _ (List.getElem_mem _)
     have R0:Ring ts n (seatF S) (seatF L):=ring_seats h3 inj rng pos hpt
     have G0:GW n ts:=gw_seats h3 h24 inj rng pos hpt
     have sl:=(same_laid (o:=.lst us) hl).trans (same_laid (o:=.tup us) hta)
     have sw:=sl.trans (same_laid (o:=.tup [.int (n:Int),.ref ta]) hwa)
     refine k wa ts _ (none_back (s1.trans sl) hwa) ⟨ta,us,upd_same,same_laid hwa _ _ upd_same,?_,G0⟩ (by rw[hpt.length_eq,List.length_map,List.length_range]) R0 (s1.trans sw)
     rw[ets]
     exact TA2.keep fun b zs e=>sw _ _ e
end
end K60
namespace K60
open PySem L2 WM
theorem atI_neg {α:Type}{xs:List α}{c:Nat}(h1:1<=c)(h2:c<=xs.length):atI xs (-(c:Int))=xs[xs.length-c]?:=by
 unfold atI ixN
 rw[if_neg (by omega),if_pos (by omega),show (-(c:Int)+(xs.length:Int)).toNat=xs.length-c by omega]
 rfl
def rlist (r:Nat->Int)(j:Nat):List V:=(List.range j).map fun k=>V.int (r k)
theorem rlist_len (r:Nat->Int)(j:Nat):(rlist r j).length=j:=by unfold rlist;rw[List.length_map,List.length_range]
theorem rlist_get {r:Nat->Int}{j i:Nat}(h:i<j):(rlist r j)[i]? = some (.int (r i)):=by unfold rlist;rw[List.getElem?_map,List.getElem?_range h];rfl
theorem rlist_succ (r:Nat->Int)(j:Nat):rlist r (j+1)=rlist r j++[.int (r j)]:=by unfold rlist;rw[List.range_succ,List.map_append];rfl
theorem rlist_neg {r:Nat->Int}{j c:Nat}(h1:1<=c)(h2:c<=j):atI (rlist r j) (-(c:Int))=some (.int (r (j-c))):=by
 rw[atI_neg h1 (by rw[rlist_len];exact h2),rlist_len]
 exact rlist_get (by omega)
theorem rlist_pq {r:Nat->Int}{n k:Nat}(h:k<n):atI (rlist r n) ((k:Int)-1)=some (.int (r (pq n k))):=by
 unfold pq
 by_cases c:k=0
 . subst c
   rw[if_pos rfl,show ((0:Nat):Int)-1 = -((1:Nat):Int) by omega,rlist_neg (by omega) (by omega)]
 . rw[if_neg c,show (k:Int)-1=((k-1:Nat):Int) by omega]
   exact atI_nat (rlist_get (by omega))
def spIsR:Sp:=fun vs H Q _=>∃(wa:Addr)(n:Nat)(ts:List T3)(r m:Nat->Int),vs=[.ref wa]/\WebAt H wa n ts/\Ring ts n r m/\r 0=0/\∀H',Same H H'->Q (.bl true) H'
def spNr:Sp:=fun vs H Q _=>∃(wa:Addr)(n:Nat)(ts:List T3)(r m:Nat->Int)(k:Nat),vs=[.ref wa,.int (r (pq n k)),.int (r k)]/\WebAt H wa n ts/\Ring ts n r m/\k<n/\∀H',Same H H'->Q (.int (r (nx n k))) H'
def spGo:Sp:=fun vs H Q _=>∃(wa:Addr)(n:Nat)(ts:List T3)(r m:Nat->Int),vs=[.ref wa]/\WebAt H wa n ts/\Ring ts n r m/\r 0=0/\r 1<r (n-1)/\∀l H',Same H H'->H l=none->H' l=some (.lst (rlist r n))->Q (.ref l) H'
def labR (m r:Nat->Int)(n i:Nat):List V:=[.int (sm m i),.int (sm m n),.int (r (nx n i)),.int (r (pq n i))]
def LabR (H:Hp)(lp:Addr)(n:Nat)(r m:Nat->Int):Prop:=∃ys:List V,H lp=some (.tup ys)/\ys.length=n/\∀i,i<n->∃a,ys[(r i).toNat]? = some (.ref a)/\H a=some (.tup (labR m r n i))
theorem LabR.same {H H':Hp}{lp:Addr}{n:Nat}{r m:Nat->Int}(h:LabR H lp n r m)(s:Same H H'):LabR H' lp n r m:=
 let ⟨ys,h1,h2,h3⟩:=h;⟨ys,s _ _ h1,h2,fun i hi=>let ⟨a,e1,e2⟩:=h3 i hi;⟨a,e1,s _ _ e2⟩⟩
def spRl:Sp:=fun vs H Q _=>∃(wa:Addr)(n:Nat)(ts:List T3)(r m:Nat->Int),vs=[.ref wa]/\WebAt H wa n ts/\Ring ts n r m/\r 0=0/\r 1<r (n-1)/\∀(lp:Addr)(H':Hp),Same H H'->LabR H' lp n r m->Q (.ref lp) H'
section
variable {P:Program}{w:World}{K:PySem.W.Frag}{mg:Str->Option Value}{base:Heap}
theorem all_rep (m:Nat):(List.replicate m true).all id=true:=List.all_eq_true.mpr fun b hb=>(List.mem_replicate.mp hb).2
theorem scIsR:FnScope ["web"] ["web"] (defScope sIsR):=⟨rfl,rfl,rfl,by decide +kernel,rfl,by decide +kernel,by decide +kernel⟩
theorem ok_isR {f fW fB:Addr}{fd' fdW fdB:FuncData}(F:Fun K "is_ring" "is_ring" sIsR f fd') (FW:Fun K "is_whole" "is_whole" sWhole fW fdW) (bW:Binds K fdW ["web"] []) (mW:mg "is_whole" = some (.ref fW)) (GW':FnOk P w K mg base CX0 4 fW fdW ["web"] spWhole)
 (FB:Fun K "beside" "beside" sBeside fB fdB) (bB:Binds K fdB ["web", "place"] []) (mB:mg "beside" = some (.ref fB)) (GB:FnOk P w K mg base CX0 4 fB fdB ["web", "place"] spBeside)
 (mLen:mg "len" = none) (mRange:mg "range" = none) (mAll:mg "all" = none):FnOk P w K mg base CX0 5 f fd' ["web"] spIsR:=by
 refine F.ok scIsR (fun vs H Q E h=>?_) (fun cdv A outer s H vs Q E hr h=>?_)
 . obtain⟨wa,n,ts,r,m,rfl,_⟩:=h
   rfl
 . obtain⟨wa,n,ts,r,m,rfl,W,R,r0,k⟩:=h
   obtain⟨ta,tys,hwa,_,_,G⟩:=id W
   have h3:=R.n3
   have h24:=G.n24
   refine⟨_,pss_cons (ps_if (PW.pt (pw_or (pt_cmpR op_lt (pe_ix ix_tup (pv 0) pe_int (fun _ _=>rfl)) pe_int (nomark _)) (pw_or1 (pt_not (pt_val (pe_call GW' hr rfl mW FW.kp bW .nil pass0 (pa_cons (pv 0) pa_nil))))))) (pss_one (ps_ret pe_bl)) pss_nil)
    (pss_one (ps_ret (pe_callB (call_all rfl) (by rfl) mAll (by decide +kernel) (pa_cons (pe_comp (own:=["place"]) (cn:=["web"]) (ci:=[0]) rfl (csc rfl rfl) ⟨rfl,rfl,rfl,trivial⟩ rfl (pi_range1 rfl mRange (pa_cons (pe_ix ix_tup (pv 0) pe_int (fun _ _=>rfl)) pa_nil))
     (fun _ _ _ _=>pg_name (i:=0) (nd_of rfl) rfl (Or.inl rfl)) (fun _ _ _ _=>pts_nil)
     (fun _ _ _ _=>pe_cmpR op_eq (pe_callB call_len_seqC (by rfl) mLen PySem.boot_len (pa_cons (pe_call GB hr rfl mB FB.kp bB .nil pass0 (pa_cons (pv 1) (pa_cons (pv 0) pa_nil))) pa_nil)) pe_int (nomark _))) pa_nil)))),?_⟩
   refine⟨_,rfl,_,_,_,_,rfl,rfl,SqT.of hwa,rfl,_,_,rfl,rfl,_,rfl,ifF (decide_eq_false (by omega)) ?_⟩
   refine⟨_,rfl,wa,n,ts,rfl,W,fun met H1 s1 nd z cl rc=>?_⟩
   rw[decide_eq_true (R.whole G r0 nd z cl rc)]
   refine⟨_,rfl,iteF ?_⟩
   have hwa1:=s1 _ _ hwa
   refine⟨_,rfl,_,_,_,_,rfl,rfl,SqT.of hwa1,rfl,(n:Int),rfl,by omega,by omega,[.ref wa],rfl,fun D hD=>?_⟩
   refine comp_range (lo:=0) (n:=(n:Int).toNat) (fun q ys H4=>q<=n/\ys=(List.replicate q true).map V.bl/\Same H1 H4/\H4 D=some (.lst ys)) ⟨Nat.zero_le _,rfl,same_laid hD,upd_same⟩ (fun q ys H4 z=>?_) (fun q ys H4 hq z=>?_) (fun ys H4 z=>?_)
   . obtain⟨hq,rfl,_⟩:=z
     rw[List.length_map,List.length_replicate]
     exact small_line (by omega)
   . obtain⟨_,rfl,s4,hD4⟩:=z
     rw[Int.toNat_natCast] at hq
     rw[Int.zero_add]
     refine⟨⟨rfl,rfl⟩,?_⟩
     refine tyes ?_
     refine⟨_,rfl,_,rfl,wa,n,ts,(q:Int),rfl,(W.keep s1).keep s4,fun l hs H5 s5 hl0 hl hrise hmem=>?_⟩
     obtain⟨i,hi,e⟩:=R.at (x:=(q:Int)) (by omega) (by omega)
     have ehs:hs=[min (r (nx n i)) (r (pq n i)),max (r (nx n i)) (r (pq n i))]:=rise2 hrise (fun y=>by rw[hmem,<-e];exact R.two hi y) (R.ne2 hi)
     refine⟨l,_,rfl,.inr (SqT.of hl),rfl,s5 _ _ hD4,hq,?_,same_chg (s4.trans s5) hD,upd_same⟩
     rw[ehs,List.replicate_succ',List.map_append];rfl
   . obtain⟨_,rfl,s4,hD4⟩:=z
     refine⟨D,_,rfl,SqL.of hD4,?_⟩
     rw[all_rep]
     exact k _ (s1.trans s4)
theorem scNr:FnScope ["web", "back", "place"] ["web", "back", "place"] (defScope sNr):=⟨rfl,rfl,rfl,by decide +kernel,rfl,by decide +kernel,by decide +kernel⟩
theorem ok_nr {f fB:Addr}{fd' fdB:FuncData}(F:Fun K "next_round" "next_round" sNr f fd') (FB:Fun K "beside" "beside" sBeside fB fdB) (bB:Binds K fdB ["web", "place"] []) (mB:mg "beside" = some (.ref fB)) (GB:FnOk P w K mg base CX0 4 fB fdB ["web", "place"] spBeside):FnOk P w K mg base CX0 5 f fd' ["web", "back", "place"] spNr:=by
 refine F.ok scNr (fun vs H Q E h=>?_) (fun cdv A outer s H vs Q E hr h=>?_)
 . obtain⟨wa,n,ts,r,m,k',rfl,_⟩:=h
   rfl
 . obtain⟨wa,n,ts,r,m,i,rfl,W,R,hi,k⟩:=h
   refine⟨_,pss_one (ps_ret (pe_ix ix_list (pe_comp (own:=["other"]) (cn:=["back"]) (ci:=[1]) rfl (csc rfl rfl) ⟨rfl,rfl,rfl,trivial⟩ rfl (pi_tup (pe_call GB hr rfl mB FB.kp bB .nil pass0 (pa_cons (pv 0) (pa_cons (pv 2) pa_nil))))
    (fun _ _ _ _=>pg_name (i:=0) (nd_of rfl) rfl (Or.inl rfl)) (fun _ _ _ _=>pts_one (pt_cmpR op_ne (pv 0) (pv 1) (nomark _))) (fun _ _ _ _=>pv 0)) pe_int (fun _ _=>rfl))),?_⟩
   refine⟨_,rfl,_,rfl,wa,n,ts,r i,rfl,W,fun la hs H1 s1 hla0 hla hrise hmem=>?_⟩
   have ehs:hs=[min (r (nx n i)) (r (pq n i)),max (r (nx n i)) (r (pq n i))]:=rise2 hrise (fun y=>by rw[hmem];exact R.two hi y) (R.ne2 hi)
   have ef:=filt_ne ehs (R.ne2 hi)
   have hl2:hs.length=2:=by rw[ehs];rfl
   refine⟨la,rfl,⟨_,SqT.of hla⟩,[.int (r (pq n i))],rfl,fun D hD=>?_⟩
   refine comp_tup (a:=la) (xs:=hs.map V.int) (fun j ys H4=>ys=((hs.take j).filter fun y=>!decide (y=r (pq n i))).map V.int/\H4=upd H1 D (.lst ys)) ⟨rfl,rfl⟩ (fun j ys H4 h=>?_) (fun j ys H4 h=>?_) (fun j v ys H4 hv h=>?_) (fun ys H4 h=>?_)
   . obtain⟨_,rfl⟩:=h
     exact SqT.of (same_laid hD _ _ hla)
   . obtain⟨rfl,_⟩:=h
     rw[List.length_map]
     exact Nat.lt_of_le_of_lt (List.length_filter_le _ _) (small_line (by rw[List.length_take];omega))
   . obtain⟨rfl,rfl⟩:=h
     obtain⟨y,hy,rfl⟩:∃y,hs[j]? = some y/\V.int y=v:=by
      rw[List.getElem?_map] at hv
      cases e:hs[j]? with
      | none=>rw[e] at hv;cases hv
      | some y=>rw[e] at hv;exact⟨y,rfl,Option.some.inj hv⟩
     have st:=filt_step (fun y:Int=>!decide (y=r (pq n i))) hy
     refine⟨⟨rfl,rfl⟩,?_⟩
     refine⟨_,rfl,_,rfl,rfl,_,rfl,?_⟩
     rw[dec_int']
     refine ite2 (fun c=>?_) (fun c=>?_)
     . refine⟨_,rfl,upd_same,?_,upd_upd⟩
       rw[st,if_pos c,List.map_append];rfl
     . refine⟨?_,rfl⟩
       rw[st,if_neg c,List.append_nil]
   . obtain⟨rfl,rfl⟩:=h
     rw[List.length_map,List.take_of_length_le (Nat.le_refl _),ef]
     exact⟨D,_,_,_,rfl,rfl,SqL.of upd_same,rfl,k _ (s1.trans (same_laid hD))⟩
theorem scGo:FnScope ["web", "met"] ["web"] (defScope sGo):=⟨rfl,rfl,rfl,by decide +kernel,rfl,by decide +kernel,by decide +kernel⟩
theorem ok_go {f fB fN:Addr}{fd' fdB fdN:FuncData}(F:Fun K "going_round" "going_round" sGo f fd') (FB:Fun K "beside" "beside" sBeside fB fdB) (bB:Binds K fdB ["web", "place"] []) (mB:mg "beside" = some (.ref fB)) (GB:FnOk P w K mg base CX0 5 fB fdB ["web", "place"] spBeside)
 (FN:Fun K "next_round" "next_round" sNr fN fdN) (bN:Binds K fdN ["web", "back", "place"] []) (mN:mg "next_round" = some (.ref fN)) (GN:FnOk P w K mg base CX0 5 fN fdN ["web", "back", "place"] spNr) (mLen:mg "len" = none):FnOk P w K mg base CX0 6 f fd' ["web"] spGo:=by
 refine F.ok scGo (fun vs H Q E h=>?_) (fun cdv A outer s H vs Q E hr h=>?_)
 . obtain⟨wa,n,ts,r,m,rfl,_⟩:=h
   rfl
 . obtain⟨wa,n,ts,r,m,rfl,W,R,r0,r1,k⟩:=h
   obtain⟨ta,tys,hwa,_,_,G⟩:=id W
   have h3:=R.n3
   have h24:=G.n24
   refine⟨_,pss_cons (ps_set (i:=1) scGo.nd rfl (Or.inl rfl) (pe_lst (pa_cons pe_int (pa_cons (pe_ix ix_tup (pe_call GB hr rfl mB FB.kp bB .nil pass0 (pa_cons (pv 0) (pa_cons pe_int pa_nil))) pe_int (fun _ _=>rfl)) pa_nil))))
    (pss_cons (ps_while PassesOwn.never (pt_cmpR op_lt (pe_callB call_len_seq (by rfl) mLen PySem.boot_len (pa_cons (pv 1) pa_nil)) (pe_ix ix_tup (pv 0) pe_int (fun _ _=>rfl)) (nomark _))
     (pss_one (ps_expr (pe_bm PySem.F.plainAttrs_list PySem.F.slot_list_append PySem.F.type_list_append mt_append (pv 1) (pa_cons
      (pe_call GN hr rfl mN FN.kp bN .nil pass0 (pa_cons (pv 0) (pa_cons (pe_ix ix_list (pv 1) (pe_un un_neg pe_int) (fun _ _=>rfl)) (pa_cons (pe_ix ix_list (pv 1) (pe_un un_neg pe_int) (fun _ _=>rfl)) pa_nil)))) pa_nil)))))
    (pss_one (ps_ret (pv 1)))),?_⟩
   refine⟨_,rfl,wa,n,ts,0,rfl,W,fun la hs H1 s1 hla0 hla hrise hmem=>?_⟩
   have e1:nx n 0=1:=by unfold nx;rw[if_neg (by omega)]
   have e2:pq n 0=n-1:=by unfold pq;rw[if_pos rfl]
   have ehs:hs=[min (r (nx n 0)) (r (pq n 0)),max (r (nx n 0)) (r (pq n 0))]:=rise2 hrise (fun y=>by rw[hmem,<-r0];exact R.two (by omega) y) (R.ne2 (by omega))
   rw[e1,e2,Int.min_eq_left (by omega),Int.max_eq_right (by omega)] at ehs
   subst ehs
   refine⟨la,_,_,_,rfl,rfl,SqT.of hla,rfl,?_⟩
   refine⟨by show 2<=sizeLine;decide,fun D hD=>?_⟩
   have hD0:H D=none:=none_back s1 hD
   have el:([V.int 0,V.int (r 1)]:List V)=rlist r 2:=by
    show _=[V.int (r 0),V.int (r 1)]
    rw[r0]
   refine⟨fun μ σ H2=>∃j:Nat,σ=[some (.ref wa),some (.ref D)] /\ μ = n-j/\2<=j/\j<=n/\Same H H2/\H2 D=some (.lst (rlist r j)),⟨_,2,rfl,rfl,Nat.le_refl _,by omega,s1.trans (same_laid hD),by rw[upd_same,el]⟩,?_⟩
   rintro μ σ H2 ⟨j,rfl,rfl,hj2,hjn,s2,hD2⟩
   refine⟨_,rfl,D,_,rfl,.inl (SqL.of hD2),_,rfl,_,_,_,_,rfl,rfl,SqT.of (s2 _ _ hwa),rfl,_,_,rfl,rfl,_,rfl,?_⟩
   rw[rlist_len]
   refine ite2 (fun hc=>?_) (fun hc=>?_)
   . have hlt:j<n:=by have:=of_decide_eq_true hc;omega
     refine⟨fun σ' H'=>σ'=[some (.ref wa),some (.ref D)]/\Same H H'/\H' D=some (.lst (rlist r (j+1))),fun σ' H' ⟨e,s',h'⟩=>⟨n-(j+1),by omega,j+1,e,rfl,by omega,hlt,s',h'⟩,?_⟩
     have ep:pq n (j-1)=j-2:=by unfold pq;rw[if_neg (by omega)];omega
     have en:nx n (j-1)=j:=by unfold nx;rw[if_neg (by omega)];omega
     refine⟨_,rfl,.inl ⟨rfl,_,SqL.of hD2⟩,?_⟩
     refine⟨_,rfl,_,rfl,2,rfl,D,_,_,_,rfl,rfl,SqL.of hD2,rlist_neg (c:=2) (by omega) (by omega),?_⟩
     refine⟨_,rfl,1,rfl,D,_,_,_,rfl,rfl,SqL.of hD2,rlist_neg (c:=1) (by omega) (by omega),?_⟩
     refine⟨wa,n,ts,r,m,j-1,by rw[ep];rfl,W.keep s2,R,by omega,fun H3 s3=>?_⟩
     have hD3:=s3 _ _ hD2
     refine⟨D,_,_,rfl,rfl,hD3,by rw[rlist_len];exact small_line (by omega),rfl,same_chg (s2.trans s3) hD0,?_⟩
     rw[upd_same,rlist_succ,en]
   . have hge:j=n:=by
      have:¬ ((j:Int)<(n:Int)):=fun z=>hc (decide_eq_true z)
      omega
     subst hge
     exact⟨_,rfl,k D H2 s2 hD0 hD2⟩
end
end K60
namespace K60
open PySem L2 WM
structure RL (H:Hp)(d l:Addr)(n:Nat)(r m:Nat->Int)(i:Nat)(H2:Hp):Prop where
 sm':Same H H2
 ls:H2 l=some (.lst (rlist r n))
 dd:∃kvs:List (Key×V),H2 d=some (.dK kvs)/\kvs.length<=i/\∀j,j<i->∃a,valV kvs (Sum.inl (r j))=some (.ref a)/\H2 a=some (.tup (labR m r n j))
section
variable {P:Program}{w:World}{K:PySem.W.Frag}{mg:Str->Option Value}{base:Heap}
theorem scRl:FnScope ["web", "places", "whole", "along", "labels", "k", "place", "fore"] ["web"] (defScope sRl):=⟨rfl,rfl,rfl,by decide +kernel,rfl,by decide +kernel,by decide +kernel⟩
theorem ok_rl {f fI fG fL:Addr}{fd' fdI fdG fdL:FuncData}(F:Fun K "ring_labels" "ring_labels" sRl f fd') (FI:Fun K "is_ring" "is_ring" sIsR fI fdI) (bI:Binds K fdI ["web"] []) (mI:mg "is_ring" = some (.ref fI)) (GI:FnOk P w K mg base CX0 6 fI fdI ["web"] spIsR)
 (FG:Fun K "going_round" "going_round" sGo fG fdG) (bG:Binds K fdG ["web"] []) (mG:mg "going_round" = some (.ref fG)) (GG:FnOk P w K mg base CX0 6 fG fdG ["web"] spGo)
 (FL:Fun K "long_of" "long_of" sLong fL fdL) (bL:Binds K fdL ["web", "one", "other"] []) (mL:mg "long_of" = some (.ref fL)) (GL:FnOk P w K mg base CX0 6 fL fdL ["web", "one", "other"] spLong)
 (mLen:mg "len" = none) (mRange:mg "range" = none) (mTuple:mg "tuple" = none) (mSum:mg "sum" = none) (mEnum:mg "enumerate" = none):FnOk P w K mg base CX0 7 f fd' ["web"] spRl:=by
 refine F.ok scRl (fun vs H Q E h=>?_) (fun cdv A outer s H vs Q E hr h=>?_)
 . obtain⟨wa,n,ts,r,m,rfl,_⟩:=h
   rfl
 . obtain⟨wa,n,ts,r,m,rfl,W,R,r0,r1,k⟩:=h
   obtain⟨ta,tys,hwa,hta,TA,G⟩:=id W
   have h3:=R.n3
   have h24:=G.n24
   have hu:=hu_of hr
   refine⟨_,pss_cons (ps_if (pt_not (pt_val (pe_call GI hr rfl mI FI.kp bI .nil pass0 (pa_cons (pv 0) pa_nil)))) (pss_one ps_no) pss_nil)
    (pss_cons (ps_set (i:=1) scRl.nd rfl (Or.inl rfl) (pe_call GG hr rfl mG FG.kp bG .nil pass0 (pa_cons (pv 0) pa_nil)))
    (pss_cons (ps_set (i:=2) scRl.nd rfl (Or.inl rfl) (pe_callB (call_sumL rfl) (by rfl) mSum (by decide +kernel) (pa_cons (pe_comp (own:=["a", "b", "long"]) (cn:=[]) (ci:=[]) rfl (csc rfl rfl) trivial rfl (pi_tup (pe_ix ix_tup (pv 0) pe_int (fun _ _=>rfl)))
     (fun _ _ _ _=>pg_tupC (n:=3) rfl (pgs_cons (pg_name (i:=0) (nd_of rfl) rfl (Or.inl rfl)) (pgs_cons (pg_name (i:=1) (nd_of rfl) rfl (Or.inl rfl)) (pgs_cons (pg_name (i:=2) (nd_of rfl) rfl (Or.inl rfl)) pgs_nil)))) (fun _ _ _ _=>pts_nil) (fun _ _ _ _=>pv 2)) pa_nil)))
    (pss_cons (ps_set (i:=3) scRl.nd rfl (Or.inl rfl) pe_int)
    (pss_cons (ps_set (i:=4) scRl.nd rfl (Or.inr rfl) pe_dnewK)
    (pss_cons (ps_for PassesOwn.never rfl (pi_enum rfl mEnum (pa_cons (pv 1) pa_nil)) (pg_tup rfl (pgs_cons (pg_name (i:=5) scRl.nd rfl (Or.inl rfl)) (pgs_cons (pg_name (i:=6) scRl.nd rfl (Or.inl rfl)) pgs_nil)))
     (pss_cons (ps_set (i:=7) scRl.nd rfl (Or.inl rfl) (pe_ix ix_list (pv 1) (pe_op op_mod (pe_op op_add (pv 5) pe_int) (pe_callB call_len_seq (by rfl) mLen PySem.boot_len (pa_cons (pv 1) pa_nil))) (fun _ _=>rfl)))
     (pss_cons (ps_dput hu (pv 4) (pv 6) (pe_tup (pa_cons (pv 3) (pa_cons (pv 2) (pa_cons (pv 7) (pa_cons (pe_ix ix_list (pv 1) (pe_op op_sub (pv 5) pe_int) (fun _ _=>rfl)) pa_nil))))) rfl)
     (pss_one (ps_aug (i:=3) scRl.nd rfl (Or.inl rfl) (pe_call GL hr rfl mL FL.kp bL .nil pass0 (pa_cons (pv 0) (pa_cons (pv 6) (pa_cons (pv 7) pa_nil)))) ip_add)))))
    (pss_one (ps_ret (pe_callTy call_tuple_of (by rfl) mTuple (by decide +kernel) (pa_cons (pe_comp (own:=["place"]) (cn:=["labels"]) (ci:=[4]) rfl (csc rfl rfl) ⟨rfl,rfl,rfl,trivial⟩ rfl (pi_range1 rfl mRange (pa_cons (pe_ix ix_tup (pv 0) pe_int (fun _ _=>rfl)) pa_nil))
     (fun _ _ _ _=>pg_name (i:=0) (nd_of rfl) rfl (Or.inl rfl)) (fun _ _ _ _=>pts_nil) (fun _ _ _ _=>pe_dget hu (pv 1) (pv 0) (fun _ _=>rfl))) pa_nil))))))))),?_⟩
   refine⟨_,rfl,wa,n,ts,r,m,rfl,W,R,r0,fun H1 s1=>?_⟩
   refine⟨_,rfl,iteF ?_⟩
   refine⟨_,rfl,wa,n,ts,r,m,rfl,W.keep s1,R,r0,r1,fun l H2 s2 hl0 hl=>?_⟩
   have s02:=s1.trans s2
   have hl00:H l=none:=none_back s1 hl0
   refine⟨_,rfl,_,_,_,_,rfl,rfl,SqT.of (s02 _ _ hwa),rfl,ta,rfl,⟨_,SqT.of (s02 _ _ hta)⟩,[],rfl,fun D hD=>?_⟩
   refine comp_tup (a:=ta) (xs:=tys) (fun i ys H4=>ys=((ts.take i).map (·.2.2)).map V.int/\H4=upd H2 D (.lst ys)) ⟨rfl,rfl⟩ (fun i ys H4 z=>?_) (fun i ys H4 z=>?_) (fun i v ys H4 hv z=>?_) (fun ys H4 z=>?_)
   . obtain⟨_,rfl⟩:=z
     exact SqT.of (same_laid hD _ _ (s02 _ _ hta))
   . obtain⟨rfl,_⟩:=z
     have:=G.len
     rw[List.length_map,List.length_map,List.length_take]
     exact small_line (by omega)
   . obtain⟨rfl,rfl⟩:=z
     obtain⟨ya,ky,rfl,hky,hya,_⟩:=TA.get hv
     rw[List.getElem?_map] at hky
     obtain⟨⟨a,b,c⟩,hti,rfl⟩:∃t:T3,ts[i]? = some t/\tl t=ky:=by
      cases e:ts[i]? with
      | none=>rw[e] at hky;cases hky
      | some t=>rw[e] at hky;exact⟨t,rfl,Option.some.inj hky⟩
     refine⟨ya,_,rfl,SqT.of (same_laid hD _ _ (s02 _ _ hya)),rfl,_,_,rfl,_,_,rfl,_,_,rfl,rfl,⟨rfl,rfl⟩,?_⟩
     refine tyes ?_
     refine⟨_,rfl,upd_same,?_,upd_upd⟩
     rw[List.take_add_one,hti,List.map_append,List.map_append];rfl
   . obtain⟨rfl,rfl⟩:=z
     have hlt:tys.length=ts.length:=by rw[TA.length,List.length_map]
     rw[hlt,List.take_of_length_le (Nat.le_refl _)]
     refine⟨D,ts.map (·.2.2),rfl,SqL.of upd_same,?_⟩
     rw[R.sum]
     have s3:=s02.trans (same_laid (o:=.lst ((ts.map (·.2.2)).map V.int)) hD)
     have hl3:(upd H2 D (.lst ((ts.map (·.2.2)).map V.int))) l=some (.lst (rlist r n)):=same_laid hD _ _ hl
     generalize upd H2 D (.lst ((ts.map (·.2.2)).map V.int))=H3 at s3 hl3 ⊢
     intro d hd
     have hd0:H d=none:=none_back s3 hd
     have nld:l≠d:=ne_of_none hl3 hd
     have I0:RL H d l n r m 0 (upd H3 d (.dK [])):=⟨s3.trans (same_laid hd),same_laid hd _ _ hl3,[],upd_same,Nat.le_refl _,fun j hj=>absurd hj (Nat.not_lt_zero _)⟩
     generalize upd H3 d (.dK [])=H5 at I0 ⊢
     refine⟨_,rfl,l,rfl,⟨_,SqL.of I0.ls⟩,for_enum (K:=K) (a:=l) (xs:=rlist r n) (fun i σ H6=>∃v5 v6 v7:Option V,σ=[some (.ref wa),some (.ref l),some (.int (sm m n)),some (.int (sm m i)),some (.ref d),v5,v6,v7]/\RL H d l n r m i H6)
      ⟨none,none,none,rfl,I0⟩ (fun i σ H6 _ ⟨_,_,_,_,z⟩=>SqL.of z.ls) ?turn ?after⟩
     case turn=>
      rintro i x σ H6 T hx ⟨v5,v6,v7,rfl,Z⟩ hT
      have hi:i<n:=by have:=(List.getElem?_eq_some_iff.mp hx).1;rw[rlist_len] at this;exact this
      rw[rlist_get hi] at hx
      cases hx
      have Z1:RL H d l n r m i (upd H6 T (.tup [.int i,.int (r i)])):=by
       obtain⟨kvs,a,b,c⟩:=Z.dd
       have sT:=same_laid (o:=.tup [.int i,.int (r i)]) hT
       exact⟨Z.sm'.trans sT,sT _ _ Z.ls,kvs,sT _ _ a,b,fun j hj=>let ⟨q,e1,e2⟩:=c j hj;⟨q,e1,sT _ _ e2⟩⟩
      have hT1:(upd H6 T (.tup [.int i,.int (r i)])) T=some (.tup [.int i,.int (r i)]):=upd_same
      generalize upd H6 T (.tup [.int i,.int (r i)])=H7 at Z1 hT1 ⊢
      refine⟨T,_,rfl,SqT.of hT1,rfl,_,_,rfl,_,_,rfl,rfl,?_⟩
      refine⟨_,rfl,_,rfl,_,_,rfl,rfl,_,rfl,l,_,rfl,.inl (SqL.of Z1.ls),_,_,rfl,rfl,by rw[rlist_len];omega,?_⟩
      dsimp only
      rw[rlist_len,mod_nx hi (by omega)]
      refine⟨l,_,_,_,rfl,rfl,SqL.of Z1.ls,atI_nat (rlist_get (nx_lt hi)),?_⟩
      refine⟨_,rfl,_,rfl,_,rfl,_,rfl,_,rfl,_,_,rfl,rfl,l,_,_,_,rfl,rfl,SqL.of Z1.ls,rlist_pq hi,?_⟩
      refine⟨by show 4<=sizeLine;decide,fun p hp=>?_⟩
      obtain⟨kvs,hk,hkl,hks⟩:=Z1.dd
      have sp:=same_laid (o:=.tup (labR m r n i)) hp
      have npd:p≠d:=fun z=>by rw[z,hk] at hp;cases hp
      refine⟨_,rfl,_,rfl,d,_,rfl,DPut.k (k:=Sum.inl (r i)) (sp _ _ hk) (Nat.lt_of_le_of_lt hkl (small_line (by omega))),?_⟩
      have Z2:RL H d l n r m (i+1) (upd (upd H7 p (.tup (labR m r n i))) d (.dK (putK kvs (Sum.inl (r i)) (.ref p)))):=by
       refine⟨same_chg (Z1.sm'.trans sp) hd0,by rw[upd_ne nld];exact sp _ _ Z1.ls,_,upd_same,Nat.le_trans (length_putK _ _ _) (by omega),fun j hj=>?_⟩
       rw[valV_put]
       by_cases c:j=i
       . subst c
         exact⟨p,if_pos rfl,by rw[upd_ne npd,upd_same]⟩
       . obtain⟨a,e1,e2⟩:=hks j (by omega)
         have ne:¬ (Sum.inl (r j):Key)=Sum.inl (r i):=fun z=>c (R.inj j i (by omega) hi (Sum.inl.inj z))
         exact⟨a,by rw[if_neg ne];exact e1,by rw[upd_ne (ne_of e2 hk (by intro z;cases z))];exact sp _ _ e2⟩
      refine⟨_,rfl,_,rfl,_,rfl,_,rfl,wa,n,ts,r i,r (nx n i),rfl,W.keep Z2.sm',fun v H9 s9 hv=>?_⟩
      have ev:v = .int (m i):=by
       rcases hv with ⟨c,ha,rfl⟩ | ⟨no,_⟩
       . rw[G.uniq ha (R.adjN hi)]
       . exact absurd (R.adjN hi) (no _)
      subst ev
      refine⟨_,_,rfl,rfl,?_⟩
      refine⟨_,_,_,rfl,Z2.sm'.trans s9,s9 _ _ Z2.ls,?_⟩
      obtain⟨kvs2,a,b,c⟩:=Z2.dd
      exact⟨kvs2,s9 _ _ a,b,fun j hj=>let ⟨q,e1,e2⟩:=c j hj;⟨q,e1,s9 _ _ e2⟩⟩
     case after=>
      rintro σ H6 ⟨v5,v6,v7,rfl,Z⟩
      rw[rlist_len] at Z
      obtain⟨kvs,hk,hkl,hks⟩:=Z.dd
      refine⟨_,rfl,_,_,_,_,rfl,rfl,SqT.of (Z.sm' _ _ hwa),rfl,(n:Int),rfl,by omega,by omega,[.ref d],rfl,fun D2 hD2=>?_⟩
      refine comp_range (lo:=0) (n:=(n:Int).toNat) (fun q ys H7=>q<=n/\ys.length=q/\(∀i,i<n->r i<q->∃a,ys[(r i).toNat]? = some (.ref a)/\H6 a=some (.tup (labR m r n i)))/\H7=upd H6 D2 (.lst ys)) ⟨Nat.zero_le _,rfl,fun i hi z=>by have:=R.rng i hi;omega,rfl⟩ (fun q ys H7 z=>?_) (fun q ys H7 hq z=>?_) (fun ys H7 z=>?_)
      . obtain⟨hq,hl,_⟩:=z
        rw[hl]
        exact small_line (by omega)
      . obtain⟨_,hl,hy,rfl⟩:=z
        rw[Int.toNat_natCast] at hq
        rw[Int.zero_add]
        obtain⟨i,hi,e⟩:=R.at (x:=(q:Int)) (by omega) (by omega)
        obtain⟨a,e1,e2⟩:=hks i hi
        refine⟨⟨rfl,rfl⟩,?_⟩
        refine tyes ?_
        rw[e] at e1
        refine⟨_,rfl,_,rfl,d,.ref a,rfl,e1 ▸ DGet.k (k:=Sum.inl (q:Int)) (same_laid hD2 _ _ hk),upd_same,hq,by rw[List.length_append,hl];rfl,fun i' hi' z=>?_,upd_upd⟩
        have hb:=R.rng i' hi'
        by_cases c:r i'<q
        . obtain⟨b,e3,e4⟩:=hy i' hi' c
          exact⟨b,by rw[List.getElem?_append_left (by omega)];exact e3,e4⟩
        . have ei:r i'=q:=by omega
          have:=R.inj i' i hi' hi (ei.trans e.symm)
          subst this
          refine⟨a,?_,e2⟩
          rw[ei,Int.toNat_natCast,List.getElem?_append_right (by omega),hl,Nat.sub_self];rfl
      . obtain⟨_,hl,hy,rfl⟩:=z
        rw[Int.toNat_natCast] at hl hy
        refine⟨D2,ys,rfl,.inl ⟨SqL.of upd_same,fun lp hlp=>?_⟩⟩
        have s7:=(same_laid (o:=.lst ys) hD2).trans (same_laid (o:=.tup ys) hlp)
        refine k lp _ (Z.sm'.trans s7) ⟨ys,upd_same,hl,fun i hi=>?_⟩
        obtain⟨a,e1,e2⟩:=hy i hi (R.rng i hi).2
        exact⟨a,e1,s7 _ _ e2⟩
end
end K60
namespace K60
open PySem L2 WM
theorem _root_.WM.Ring.congr {ts:List T3}{n:Nat}{r m r' m':Nat->Int}(h:Ring ts n r m)(hr:∀k,k<n->r' k=r k)(hm:∀k,k<n->m' k=m k):Ring ts n r' m':=by
 refine⟨h.n3,fun i j hi hj e=>h.inj i j hi hj (by rw[<-hr i hi,<-hr j hj];exact e),fun i hi=>by rw[hr i hi];exact h.rng i hi,fun i hi=>by rw[hm i hi];exact h.pos i hi,fun x y l=>?_,by rw[h.sum,sm_congr hm]⟩
 rw[h.adj]
 constructor
 . rintro ⟨k,hk,e,c⟩
   exact⟨k,hk,by rw[hm k hk];exact e,by rw[hr k hk,hr _ (nx_lt hk)];exact c⟩
 . rintro ⟨k,hk,e,c⟩
   exact⟨k,hk,by rw[<-hm k hk];exact e,by rw[<-hr k hk,<-hr _ (nx_lt hk)];exact c⟩
def turnL (S:List Int)(a:Nat):List Int:=S.drop a++S.take a
theorem turn_len (S:List Int)(a:Nat):(turnL S a).length=S.length:=by unfold turnL;rw[List.length_append,List.length_drop,List.length_take];omega
theorem turn_get {S:List Int}{n a k:Nat}(hS:S.length=n)(ha:a<=n)(hk:k<n):(turnL S a).getD k 0=S.getD (if k+a<n then k+a else k+a-n) 0:=by
 unfold turnL
 rw[List.getD_eq_getElem?_getD,List.getD_eq_getElem?_getD]
 by_cases c:k+a<n
 . rw[if_pos c,List.getElem?_append_left (by rw[List.length_drop];omega),List.getElem?_drop,Nat.add_comm]
 . rw[if_neg c,List.getElem?_append_right (by rw[List.length_drop];omega),List.length_drop,List.getElem?_take_of_lt (by omega),hS,show k-(n-a)=k+a-n by omega]
theorem _root_.WM.Ring.turn {ts:List T3}{n:Nat}{S L:List Int}(R:Ring ts n (seatF S) (seatF L))(hS:S.length=n)(hL:L.length=n):∀a,a<n->Ring ts n (seatF (turnL S a)) (seatF (turnL L a))
 | 0,h=>R.congr (fun k hk=>by unfold seatF;rw[turn_get hS (by omega) hk,if_pos (by omega)];rfl) (fun k hk=>by unfold seatF;rw[turn_get hL (by omega) hk,if_pos (by omega)];rfl)
 | a+1,h=>by
  have key:∀(T:List Int),T.length=n->∀k,k<n->seatF (turnL T (a+1)) k=seatF (turnL T a) (nx n k):=fun T hT k hk=>by
   unfold seatF
   rw[turn_get hT (by omega) hk,turn_get hT (by omega) (nx_lt hk)]
   congr 1
   unfold nx
   split <;> split <;> split <;> omega
  exact (R.turn hS hL a (by omega)).rot.congr (key S hS) (key L hL)
def backL (S:List Int):List Int:=S.take 1++(S.drop 1).reverse
theorem back_len (S:List Int)(h:1<=S.length):(backL S).length=S.length:=by unfold backL;rw[List.length_append,List.length_reverse,List.length_drop,List.length_take];omega
theorem back_get {S:List Int}{n k:Nat}(hS:S.length=n)(hk:k<n):(backL S).getD k 0=S.getD (rv n k) 0:=by
 unfold backL rv
 rw[List.getD_eq_getElem?_getD,List.getD_eq_getElem?_getD]
 by_cases c:k=0
 . subst c
   rw[if_pos rfl,List.getElem?_append_left (by rw[List.length_take];omega),List.getElem?_take_of_lt (by omega)]
 . rw[if_neg c,List.getElem?_append_right (by rw[List.length_take];omega),List.length_take,List.getElem?_reverse (by rw[List.length_drop];omega),List.length_drop,List.getElem?_drop,show 1+(S.length-1-1-(k-min 1 S.length))=n-k by omega]
theorem rev_get {S:List Int}{n k:Nat}(hS:S.length=n)(hk:k<n):S.reverse.getD k 0=S.getD (n-1-k) 0:=by
 rw[List.getD_eq_getElem?_getD,List.getD_eq_getElem?_getD,List.getElem?_reverse (by omega),hS]
def DueOf (n:Nat)(S L:List Int)(r m:Nat->Int):Prop:=∀ts:List T3,Ring ts n (seatF S) (seatF L)->Ring ts n r m/\r 0=0/\r 1<r (n-1)
theorem due_fwd {n a:Nat}{S L:List Int}(h3:3<=n)(hS:S.length=n)(hL:L.length=n)(ha:a<n)(h0:S.getD a 0=0)(c:¬ seatF (turnL S a) 1 > seatF (turnL S a) (n-1)):DueOf n S L (seatF (turnL S a)) (seatF (turnL L a)):=fun ts R=>by
 have T:=R.turn hS hL a ha
 refine⟨T,by unfold seatF;rw[turn_get hS (by omega) (by omega),if_pos (by omega),Nat.zero_add];exact h0,?_⟩
 rcases Int.lt_trichotomy (seatF (turnL S a) 1) (seatF (turnL S a) (n-1)) with z | z | z
 . exact z
 . have:=T.inj 1 (n-1) (by omega) (by omega) z
   omega
 . exact absurd z c
theorem due_back {n a:Nat}{S L:List Int}(h3:3<=n)(hS:S.length=n)(hL:L.length=n)(ha:a<n)(h0:S.getD a 0=0)(c:seatF (turnL S a) 1 > seatF (turnL S a) (n-1)):DueOf n S L (seatF (backL (turnL S a))) (seatF (turnL L a).reverse):=fun ts R=>by
 have T:=R.turn hS hL a ha
 have lS:(turnL S a).length=n:=by rw[turn_len,hS]
 have lL:(turnL L a).length=n:=by rw[turn_len,hL]
 have bk:∀k,k<n->seatF (backL (turnL S a)) k=seatF (turnL S a) (rv n k):=fun k hk=>back_get lS hk
 refine⟨T.rev.congr bk fun k hk=>rev_get lL hk,?_,?_⟩
 . rw[bk 0 (by omega)]
   show seatF (turnL S a) 0=0
   unfold seatF
   rw[turn_get hS (by omega) (by omega),if_pos (by omega),Nat.zero_add]
   exact h0
 . rw[bk 1 (by omega),bk (n-1) (by omega)]
   unfold rv
   rw[if_neg (by omega),if_neg (by omega),show n-(n-1)=1 by omega]
   exact c
end K60
namespace K60
open PySem L2 WM
theorem pss_no {X:Cx}{st:List Stmt}:PSs X st (fun _ _ _=>False):=fun _ _ _ _ _ _ h=>h.elim
def NoR (n:Nat)(ts:List T3):Prop:=n<3\/(∃C:Int->Prop,C 0/\(∀x y k,C x->Adj ts x y k->C y)/\∃q:Int,0<=q/\q<n/\¬ C q) \/
 ∃p:Nat,p<n/\∀hs:List Int,hs.Pairwise (· < ·)->(∀y,y∈hs↔∃k,Adj ts p y k)->hs.length≠2
theorem rch_C {ts:List T3}{C:Int->Prop}(c0:C 0)(cl:∀x y k,C x->Adj ts x y k->C y){x:Int}(h:Rch ts x):C x:=by
 induction h with
 | z=>exact c0
 | s _ a ih=>exact cl _ _ _ ih a
theorem NoR.odd {n:Nat}{ts:List T3}(h:NoR n ts)(g:GW (n:Int) ts)(h3:¬ n<3){met:List Int}(nd:met.Nodup)(rc:∀x∈met,Rch ts x)(d:(met.length:Int)=n):∃p:Nat,p<n/\∀hs:List Int,hs.Pairwise (· < ·)->(∀y,y∈hs↔∃k,Adj ts p y k)->hs.length≠2:=by
 rcases h with h | ⟨C,c0,cl,q,q0,q1,nq⟩ | h
 . exact absurd h h3
 . exfalso
   have a:=nd_len (n:=n) (l:=q::met) (List.nodup_cons.mpr ⟨fun z=>nq (rch_C c0 cl (rc q z)),nd⟩) fun x hx=>by
    rcases List.mem_cons.mp hx with rfl | z
    . exact⟨q0,q1⟩
    . exact rch_in g (rc x z)
   rw[List.length_cons] at a
   omega
 . exact h
def spIsN:Sp:=fun vs H Q _=>∃(wa:Addr)(n:Nat)(ts:List T3),vs=[.ref wa]/\WebAt H wa n ts/\NoR n ts/\∀H',Same H H'->Q (.bl false) H'
def spRlR (c:Addr):Sp:=fun vs H _ E=>∃(wa:Addr)(n:Nat)(ts:List T3),vs=[.ref wa]/\WebAt H wa n ts/\NoR n ts/\∀H',Same H H'->E (.ref c) none H'
def spRef:Sp:=fun vs H Q _=>∃(wa:Addr)(n:Nat)(ts:List T3),vs=[.ref wa]/\WebAt H wa n ts/\NoR n ts/\∀H',Same H H'->Q (.bl true) H'
theorem all_no {bs:List Bool}{i:Nat}(h:bs[i]? = some false):bs.all id=false:=by
 cases e:bs.all id with
 | false=>rfl
 | true=>have:=List.all_eq_true.mp e false (List.mem_of_getElem? h);cases this
inductive GlobL (X:Cx):List Expr->List Addr->Prop
 | nil:GlobL X [] []
 | cons {x:Str}{p:Pos}{c:Addr}{es:List Expr}{cs:List Addr}:PE X (.Name x p) (tC (.ref c))->GlobL X es cs->GlobL X (.Name x p::es) (c::cs)
theorem pa_glob {X:Cx}{es:List Expr}{cs:List Addr}(h:GlobL X es cs):PA X es (fun _ H Q=>Q (cs.map V.ref) H):=by
 induction h with
 | nil=>exact pa_nil
 | cons he _ ih=>exact pa_cons he ih
structure ErrR (K:PySem.W.Frag)(mg:Str->Option Value)(cW cR:Addr)(cs:List Addr):Prop where
 mW:mg "WayError" = some (.ref cW)
 mR:mg "NoRing" = some (.ref cR)
 qW:PySem.W.excIn K cW bmV "ValueError.__new__" = true
 qR:PySem.W.excIn K cR bmV "ValueError.__new__" = true
 sb:L2.subIn K cR cW=true
 ex:ExcAt K cR
 ms:[mg "NoLabels",mg "NoLeast",mg "NoOrder",mg "NoPart",mg "NoPlan",mg "NoPosts",mg "NoRow",mg "NoText",mg "NoTie",mg "NoTree",mg "TooMany"]=cs.map fun c=>some (.ref c)
 k1:PySem.W.kitAny K (.ref cR) (cs.map Value.ref)=some false
 kR:PySem.W.kitOne K (.ref cR) (.ref cR)=some true
 kV:PySem.W.kitOne K (.ref cR) (.type "ValueError")=some true
section
variable {P:Program}{w:World}{K:PySem.W.Frag}{mg:Str->Option Value}{base:Heap}
theorem ok_isN {f fW fB:Addr}{fd' fdW fdB:FuncData}(F:Fun K "is_ring" "is_ring" sIsR f fd') (FW:Fun K "is_whole" "is_whole" sWhole fW fdW) (bW:Binds K fdW ["web"] []) (mW:mg "is_whole" = some (.ref fW)) (GW':FnOk P w K mg base CX0 4 fW fdW ["web"] spWhole)
 (FB:Fun K "beside" "beside" sBeside fB fdB) (bB:Binds K fdB ["web", "place"] []) (mB:mg "beside" = some (.ref fB)) (GB:FnOk P w K mg base CX0 4 fB fdB ["web", "place"] spBeside)
 (mLen:mg "len" = none) (mRange:mg "range" = none) (mAll:mg "all" = none):FnOk P w K mg base CX0 5 f fd' ["web"] spIsN:=by
 refine F.ok scIsR (fun vs H Q E h=>?_) (fun cdv A outer s H vs Q E hr h=>?_)
 . obtain⟨wa,n,ts,rfl,_⟩:=h
   rfl
 . obtain⟨wa,n,ts,rfl,W,NR,k⟩:=h
   obtain⟨ta,tys,hwa,_,_,G⟩:=id W
   have h24:=G.n24
   refine⟨_,pss_cons (ps_if (PW.pt (pw_or (pt_cmpR op_lt (pe_ix ix_tup (pv 0) pe_int (fun _ _=>rfl)) pe_int (nomark _)) (pw_or1 (pt_not (pt_val (pe_call GW' hr rfl mW FW.kp bW .nil pass0 (pa_cons (pv 0) pa_nil))))))) (pss_one (ps_ret pe_bl)) pss_nil)
    (pss_one (ps_ret (pe_callB (call_all rfl) (by rfl) mAll (by decide +kernel) (pa_cons (pe_comp (own:=["place"]) (cn:=["web"]) (ci:=[0]) rfl (csc rfl rfl) ⟨rfl,rfl,rfl,trivial⟩ rfl (pi_range1 rfl mRange (pa_cons (pe_ix ix_tup (pv 0) pe_int (fun _ _=>rfl)) pa_nil))
     (fun _ _ _ _=>pg_name (i:=0) (nd_of rfl) rfl (Or.inl rfl)) (fun _ _ _ _=>pts_nil)
     (fun _ _ _ _=>pe_cmpR op_eq (pe_callB call_len_seqC (by rfl) mLen PySem.boot_len (pa_cons (pe_call GB hr rfl mB FB.kp bB .nil pass0 (pa_cons (pv 1) (pa_cons (pv 0) pa_nil))) pa_nil)) pe_int (nomark _))) pa_nil)))),?_⟩
   refine⟨_,rfl,_,_,_,_,rfl,rfl,SqT.of hwa,rfl,_,_,rfl,rfl,_,rfl,?_⟩
   by_cases h3:n<3
   . exact ifT (decide_eq_true (by omega)) (k _ (Same.refl _))
   refine ifF (decide_eq_false (by omega)) ?_
   refine⟨_,rfl,wa,n,ts,rfl,W,fun met H1 s1 nd z cl rc=>?_⟩
   by_cases d:(met.length:Int)=n
   . rw[decide_eq_true d]
     refine⟨_,rfl,iteF ?_⟩
     obtain⟨p,hp,odd⟩:=NR.odd G h3 nd rc d
     have hwa1:=s1 _ _ hwa
     refine⟨_,rfl,_,_,_,_,rfl,rfl,SqT.of hwa1,rfl,(n:Int),rfl,by omega,by omega,[.ref wa],rfl,fun D hD=>?_⟩
     refine comp_range (lo:=0) (n:=(n:Int).toNat) (fun q ys H4=>q<=n/\(∃bs:List Bool,ys=bs.map V.bl/\bs.length=q/\(p<q->bs[p]? = some false))/\Same H1 H4/\H4 D=some (.lst ys)) ⟨Nat.zero_le _,⟨[],rfl,rfl,fun z=>absurd z (Nat.not_lt_zero _)⟩,same_laid hD,upd_same⟩ (fun q ys H4 z=>?_) (fun q ys H4 hq z=>?_) (fun ys H4 z=>?_)
     . obtain⟨hq,⟨bs,rfl,hb,_⟩,_⟩:=z
       rw[List.length_map,hb]
       exact small_line (by omega)
     . obtain⟨_,⟨bs,rfl,hb,hbp⟩,s4,hD4⟩:=z
       rw[Int.toNat_natCast] at hq
       rw[Int.zero_add]
       refine⟨⟨rfl,rfl⟩,?_⟩
       refine tyes ?_
       refine⟨_,rfl,_,rfl,wa,n,ts,(q:Int),rfl,(W.keep s1).keep s4,fun l hs H5 s5 hl0 hl hrise hmem=>?_⟩
       refine⟨l,_,rfl,.inr (SqT.of hl),rfl,s5 _ _ hD4,hq,⟨bs++[_],by rw[List.map_append];rfl,by rw[List.length_append,hb];rfl,fun hpq=>?_⟩,same_chg (s4.trans s5) hD,upd_same⟩
       by_cases c:p=q
       . subst c
         have no:=odd hs hrise hmem
         rw[List.getElem?_append_right (by omega),hb,Nat.sub_self]
         refine congrArg some (decide_eq_false fun z=>no ?_)
         injection z with z
         rw[List.length_map] at z
         omega
       . rw[List.getElem?_append_left (by omega)]
         exact hbp (by omega)
     . obtain⟨_,⟨bs,rfl,hb,hbp⟩,s4,hD4⟩:=z
       rw[Int.toNat_natCast] at hbp
       refine⟨D,_,rfl,SqL.of hD4,?_⟩
       rw[all_no (hbp hp)]
       exact k _ (s1.trans s4)
   . rw[decide_eq_false d]
     exact⟨_,rfl,iteT (k _ s1)⟩
theorem ok_rlR {f fI c:Addr}{fd' fdI:FuncData}(F:Fun K "ring_labels" "ring_labels" sRl f fd') (FI:Fun K "is_ring" "is_ring" sIsR fI fdI) (bI:Binds K fdI ["web"] []) (mI:mg "is_ring" = some (.ref fI)) (GI:FnOk P w K mg base CX0 6 fI fdI ["web"] spIsN)
 (mC:mg "NoRing" = some (.ref c)) (qC:PySem.W.excIn K c bmV "ValueError.__new__" = true):FnOk P w K mg base (CXO P w) 7 f fd' ["web"] (spRlR c):=by
 refine F.okX scRl (fun vs H Q E h=>?_) (fun cdv A outer s H vs Q E hr h=>?_)
 . obtain⟨wa,n,ts,rfl,_⟩:=h
   rfl
 . obtain⟨wa,n,ts,rfl,W,NR,k⟩:=h
   refine⟨_,pss_cons (ps_if (pt_not (pt_val (pe_call GI hr rfl mI FI.kp bI .nil pass0 (pa_cons (pv 0) pa_nil)))) (pss_one (ps_raise (E:=E) rfl mC qC rfl (pa_cons pe_str pa_nil) (fun pins σ H s h' ea vs I mx hE=>raised_xe I mx hE) (hl:=fun σ H Q h=>⟨Nat.le_refl 1,h⟩))) pss_nil) pss_no,?_⟩
   refine⟨_,rfl,wa,n,ts,rfl,W,NR,fun H' s'=>?_⟩
   refine⟨_,rfl,iteT ?_⟩
   exact k H' s'
theorem scRef:FnScope ["_law_web", "_law_caught", "e"] ["_law_web"] (defScope sRef):=⟨rfl,rfl,rfl,by decide +kernel,rfl,by decide +kernel,by decide +kernel⟩
theorem ok_ref {f fB cW cR c1 c2 c3 c4 c5 c6 c7 c8 c9 c10 c11:Addr}{fd' fdB:FuncData}(F:Fun K "_law_refused" "_law_refused" sRef f fd') (FB:Fun K "ring_labels" "ring_labels" sRl fB fdB) (bB:Binds K fdB ["web"] []) (mB:mg "ring_labels" = some (.ref fB))
 (G:FnOk P w K mg base (CXO P w) 7 fB fdB ["web"] (spRlR cR)) (C:ErrR K mg cW cR [c1,c2,c3,c4,c5,c6,c7,c8,c9,c10,c11])(mIsi:mg "isinstance" = none) (mVal:mg "ValueError" = none) :
 FnOk P w K mg base CX0 8 f fd' ["_law_web"] spRef:=by
 obtain⟨h1,h2,h3,h4,h5,h6,h7,h8,h9,h10,h11⟩:mg "NoLabels" = some (.ref c1)/\mg "NoLeast" = some (.ref c2)/\mg "NoOrder" = some (.ref c3)/\mg "NoPart" = some (.ref c4)/\mg "NoPlan" = some (.ref c5)/\mg "NoPosts" = some (.ref c6)/\mg "NoRow" = some (.ref c7)/\mg "NoText" = some (.ref c8)/\mg "NoTie" = some (.ref c9)/\mg "NoTree" = some (.ref c10)/\mg "TooMany" = some (.ref c11):=by
  have:=C.ms
  simpa using this
 refine F.ok scRef (fun vs H Q E h=>?_) (fun cdv A outer s H vs Q E hr h=>?_)
 . obtain⟨wa,n,ts,rfl,_⟩:=h
   rfl
 . obtain⟨wa,n,ts,rfl,W,NR,k⟩:=h
   refine⟨_,pss_cons (ps_set (i:=1) scRef.nd rfl (Or.inl rfl) pe_bl)
    (pss_cons (ps_try (i:=2) scRef.nd rfl rfl rfl rfl rfl rfl C.mW C.qW (px_expr G hr rfl mB FB.kp bB (pa_cons (pv 0) pa_nil))
     (fun ea oe c hc=>pss_cons (ps_set (i:=1) scRef.nd rfl (Or.inl rfl) (pe_and (pe_callB (call_isinstX (held_at hc)) (by rfl) mIsi (by decide +kernel) (pa_cons (pv 2) (pa_cons (pe_glob (v:=.ref cR) rfl C.mR rfl) pa_nil))) (pe_one (pe_callB (call_isinstXT (held_at hc)) (by rfl) mIsi (by decide +kernel) (pa_cons (pv 2) (pa_cons (pe_tyN (T := "ValueError") (by rfl) mVal (by decide +kernel)) pa_nil))))))
      (pss_one (ps_if (pt_val (pe_callB (call_isinstXs (held_at hc)) (by rfl) mIsi (by decide +kernel) (pa_cons (pv 2) (pa_cons (pe_tup (pa_glob (.cons (pe_glob (v:=.ref c1) rfl h1 rfl) (.cons (pe_glob (v:=.ref c2) rfl h2 rfl) (.cons (pe_glob (v:=.ref c3) rfl h3 rfl) (.cons (pe_glob (v:=.ref c4) rfl h4 rfl) (.cons (pe_glob (v:=.ref c5) rfl h5 rfl) (.cons (pe_glob (v:=.ref c6) rfl h6 rfl)
       (.cons (pe_glob (v:=.ref c7) rfl h7 rfl) (.cons (pe_glob (v:=.ref c8) rfl h8 rfl) (.cons (pe_glob (v:=.ref c9) rfl h9 rfl) (.cons (pe_glob (v:=.ref c10) rfl h10 rfl) (.cons (pe_glob (v:=.ref c11) rfl h11 rfl) .nil)))))))))))) ) pa_nil)))) (pss_one (ps_set (i:=1) scRef.nd rfl (Or.inl rfl) pe_bl)) pss_nil))))
    (pss_one (ps_ret (pv 1)))),?_⟩
   refine⟨_,rfl,wa,n,ts,rfl,W,NR,fun H' s'=>?_⟩
   refine⟨cR,rfl,C.qR,C.sb,fun ea oe hc hea=>?_⟩
   refine⟨_,rfl,cR,true,C.ex,rfl,C.kR,?_⟩
   refine⟨true,rfl,iteT ?_⟩
   refine⟨_,rfl, "ValueError",true,C.ex,rfl,C.kV,?_⟩
   refine⟨_,rfl,(by show 11<=sizeLine;decide),fun p hp=>?_⟩
   refine⟨p,[c1,c2,c3,c4,c5,c6,c7,c8,c9,c10,c11],false,C.ex,rfl,upd_same,C.k1,?_⟩
   refine⟨_,rfl,iteF ?_⟩
   exact⟨_,rfl,k _ (s'.trans (same_laid hp))⟩
end
end K60
namespace K60
open PySem L2 WM
theorem pe_as {X:Cx}{e:Expr}{te te':TE}(h:PE X e te)(m:∀ σ H Q,te' σ H Q->te σ H Q):PE X e te':=fun pins s σ H Q I q=>h pins s σ H Q I (m σ H Q q)
theorem cut_lo {xs:List V}{a:Nat}(h:a<=xs.length):cutV xs (some (a:Int)) none=xs.drop a:=by
 unfold cutV
 rw[HT.sIx_none,HT.sIx_nat,Nat.min_eq_left h]
 exact List.take_of_length_le (by rw[List.length_drop];exact Nat.le_refl _)
theorem cut_hi {xs:List V}{a:Nat}(h:a<=xs.length):cutV xs none (some (a:Int))=xs.take a:=by
 unfold cutV
 rw[HT.sIx_none,List.drop_zero,Nat.sub_zero,HT.sIx_nat,Nat.min_eq_left h]
theorem map_rlist {L:List Int}{n:Nat}(h:L.length=n):L.map V.int=rlist (seatF L) n:=by
 apply List.ext_getElem?
 intro i
 by_cases c:i<n
 . rw[rlist_get c,getE h c];rfl
 . rw[List.getElem?_eq_none (by rw[List.length_map];omega),List.getElem?_eq_none (by rw[rlist_len];omega)]
theorem sum_sm (L:List Int):∀k,k<=L.length->(L.take k).sum=sm (seatF L) k
 | 0,_=>rfl
 | k+1,h=>by
  rw[List.take_add_one,List.sum_append,sum_sm L k (by omega),List.getElem?_eq_getElem (by omega)]
  show _+(L[k]+0)=sm (seatF L) k+seatF L k
  unfold seatF
  rw[List.getD_eq_getElem?_getD,List.getElem?_eq_getElem (by omega),Int.add_zero]
  rfl
def spDue:Sp:=fun vs H Q _=>∃(ls ll:Addr)(n:Nat)(S L:List Int),vs=[.ref ls,.ref ll]/\H ls=some (.lst (S.map V.int))/\H ll=some (.lst (L.map V.int))/\3<=n/\n<=24/\S.Perm (lowTo n)/\L.length=n/\(∀l∈L,1<=l/\l<=99) /\
 ∀(lp:Addr)(r m:Nat->Int)(H':Hp),Same H H'->DueOf n S L r m->LabR H' lp n r m->Q (.ref lp) H'
section
variable {P:Program}{w:World}{K:PySem.W.Frag}{mg:Str->Option Value}{base:Heap}
theorem scDue:FnScope ["_law_seats", "_law_longs", "_law_many", "_law_at", "_law_line", "_law_behind", "_law_found", "_law_k"] ["_law_seats", "_law_longs"] (defScope sDue):=⟨rfl,rfl,rfl,by decide +kernel,rfl,by decide +kernel,by decide +kernel⟩
theorem ok_due {f:Addr}{fd':FuncData}(F:Fun K "_law_due" "_law_due" sDue f fd') (mLen:mg "len" = none) (mRange:mg "range" = none) (mTuple:mg "tuple" = none) (mSum:mg "sum" = none):FnOk P w K mg base CX0 1 f fd' ["_law_seats", "_law_longs"] spDue:=by
 refine F.ok scDue (fun vs H Q E h=>?_) (fun cdv A outer s H vs Q E hr h=>?_)
 . obtain⟨ls,ll,n,S,L,rfl,_⟩:=h
   rfl
 . obtain⟨ls,ll,n,S,L,rfl,hS,hL,h3,h24,hp,hLl,hLb,k⟩:=h
   obtain⟨hSl,inj,rng,hz⟩:=seat_facts hp
   have hu:=hu_of hr
   have pos:∀i,i<n->1<=L.getD i 0/\L.getD i 0<=99:=fun i hi=>by
    rw[List.getD_eq_getElem?_getD,List.getElem?_eq_getElem (by omega)]
    exact hLb _ (List.getElem_mem _)
   have R0:Ring _ n (seatF S) (seatF L):=ring_seats h3 inj rng pos (List.Perm.refl _)
   obtain⟨a,ha,ea⟩:=hz (by omega)
   have gS:∀i,i<n->S[i]? = some (S.getD i 0):=fun i hi=>by rw[List.getD_eq_getElem?_getD,List.getElem?_eq_getElem (by omega)];rfl
   refine⟨_,pss_cons (ps_set (i:=2) scDue.nd rfl (Or.inl rfl) (pe_callB call_len_seq (by rfl) mLen PySem.boot_len (pa_cons (pv 0) pa_nil)))
    (pss_cons (ps_set (i:=3) scDue.nd rfl (Or.inl rfl) (pe_bm PySem.F.plainAttrs_list PySem.F.slot_list_index PySem.F.type_list_index mt_indexL (pv 0) (pa_cons pe_int pa_nil)))
    (pss_cons (ps_set (i:=4) scDue.nd rfl (Or.inl rfl) (pe_op op_cat (pe_slice sl_list (pv 0) (po_some (pv 3)) po_none) (pe_slice sl_list (pv 0) po_none (po_some (pv 3)))))
    (pss_cons (ps_set (i:=5) scDue.nd rfl (Or.inl rfl) (pe_op op_cat (pe_slice sl_list (pv 1) (po_some (pv 3)) po_none) (pe_slice sl_list (pv 1) po_none (po_some (pv 3)))))
    (pss_cons (ps_as (u':=fun (D:Ends) σ H=>∃(X Y:List Int)(px py:Addr)(v2 v3:V),σ=[some (.ref ls),some (.ref ll),some v2,some v3,some (.ref px),some (.ref py),none,none]/\H px=some (.lst (X.map V.int))/\H py=some (.lst (Y.map V.int))/\X.length=n/\Y.length=n /\
     ∀(X' Y':List Int)(px' py':Addr)(H':Hp),Same H H'->H' px'=some (.lst (X'.map V.int))->H' py'=some (.lst (Y'.map V.int))->X'.length=n->Y'.length=n->(¬ seatF X 1 > seatF X (n-1)/\X'=X/\Y'=Y)\/(seatF X 1 > seatF X (n-1)/\X'=backL X/\Y'=Y.reverse)->D.nx [some (.ref ls),some (.ref ll),some v2,some v3,some (.ref px'),some (.ref py'),none,none] H')
     (ps_if (pt_cmpR op_gt (pe_ix ix_list (pv 4) pe_int (fun _ _=>rfl)) (pe_ix ix_list (pv 4) (pe_un un_neg pe_int) (fun _ _=>rfl)) (nomark _))
      (pss_cons (ps_set (i:=4) scDue.nd rfl (Or.inl rfl) (pe_op op_cat (pe_slice sl_list (pv 4) po_none (po_some pe_int)) (pe_rev0 (ops:=fun a d=>[a,d]) (pv 4) pe_int (pe_as (pe_un un_neg pe_int) (fun σ H Q q=>⟨1,rfl,q⟩)) (fun _ _=>by with_unfolding_all rfl))))
      (pss_one (ps_set (i:=5) scDue.nd rfl (Or.inl rfl) (pe_revL (ops:=fun a d=>[a,d]) (pv 5) (pe_as (pe_un un_neg pe_int) (fun σ H Q q=>⟨1,rfl,q⟩)) (fun _ _=>by with_unfolding_all rfl))))) pss_nil) ?join)
    (pss_cons (ps_set (i:=6) scDue.nd rfl (Or.inr rfl) pe_dnewK)
    (pss_cons (ps_for PassesOwn.never rfl (pi_range1 rfl mRange (pa_cons (pv 2) pa_nil)) (pg_name (i:=7) scDue.nd rfl (Or.inl rfl))
     (pss_one (ps_dput hu (pv 6) (pe_ix ix_list (pv 4) (pv 7) (fun _ _=>rfl)) (pe_tup (pa_cons (pe_callB (call_sumL rfl) (by rfl) mSum (by decide +kernel) (pa_cons (pe_slice sl_list (pv 5) po_none (po_some (pv 7))) pa_nil)) (pa_cons (pe_callB (call_sumL rfl) (by rfl) mSum (by decide +kernel) (pa_cons (pv 5) pa_nil))
      (pa_cons (pe_ix ix_list (pv 4) (pe_op op_mod (pe_op op_add (pv 7) pe_int) (pv 2)) (fun _ _=>rfl)) (pa_cons (pe_ix ix_list (pv 4) (pe_op op_sub (pv 7) pe_int) (fun _ _=>rfl)) pa_nil))))) rfl)))
    (pss_one (ps_ret (pe_callTy call_tuple_of (by rfl) mTuple (by decide +kernel) (pa_cons (pe_comp (own:=["_law_place"]) (cn:=["_law_found"]) (ci:=[6]) rfl (csc rfl rfl) ⟨rfl,rfl,rfl,trivial⟩ rfl (pi_range1 rfl mRange (pa_cons (pv 2) pa_nil))
     (fun _ _ _ _=>pg_name (i:=0) (nd_of rfl) rfl (Or.inl rfl)) (fun _ _ _ _=>pts_nil) (fun _ _ _ _=>pe_dget hu (pv 1) (pv 0) (fun _ _=>rfl))) pa_nil)))))))))),?_⟩
   case join=>
    rintro D σ H1 ⟨X,Y,px,py,v2,v3,rfl,hx,hy,lx,ly,k1⟩
    have hx':H1 px=some (.lst (rlist (seatF X) n)):=by rw[hx,map_rlist lx]
    refine⟨_,rfl,px,_,_,_,rfl,rfl,SqL.of hx',atI_nat (j:=1) (rlist_get (by omega)),?_⟩
    refine⟨_,rfl,1,rfl,px,_,_,_,rfl,rfl,SqL.of hx',rlist_neg (c:=1) (by omega) (by omega),?_⟩
    refine⟨_,_,rfl,rfl,_,rfl,?_⟩
    refine ite2 (fun hc=>?_) (fun hc=>?_)
    . have hc:=of_decide_eq_true hc
      obtain⟨x0,Xr,rfl⟩:∃x0 Xr,X=x0::Xr:=by
       cases X with
       | nil=>exfalso;simp at lx;omega
       | cons a b=>exact⟨_,_,rfl⟩
      have lr:Xr.length+1=n:=lx
      refine⟨_,rfl,_,rfl,px,_,rfl,SqL.of hx,fun p hp'=>?_⟩
      rw[show cutV ((x0::Xr).map V.int) none (some 1)=[V.int x0] from cut_hi (a:=1) (by simp)]
      have s1:=same_laid (o:=.lst [V.int x0]) hp'
      have e1:(upd H1 p (.lst [V.int x0])) p=some (.lst [V.int x0]):=upd_same
      generalize upd H1 p (.lst [V.int x0])=H2 at s1 e1 ⊢
      refine⟨_,rfl,px,_,_,rfl,SqL.of (s1 _ _ hx),fun p2 hp2=>?_⟩
      have s2:=same_laid (o:=.lst (Xr.map V.int).reverse) hp2
      have e2:(upd H2 p2 (.lst (Xr.map V.int).reverse)) p2=some (.lst (Xr.map V.int).reverse):=upd_same
      generalize upd H2 p2 (.lst (Xr.map V.int).reverse)=H3 at s2 e2 ⊢
      refine⟨p,p2,_,_,rfl,rfl,s2 _ _ e1,e2,by rw[List.length_reverse,List.length_map];exact Nat.le_of_lt (small_line (by show 1+Xr.length<=_;omega)),fun q hq=>?_⟩
      have s3:=same_laid (o:=.lst ([V.int x0]++(Xr.map V.int).reverse)) hq
      have e3:(upd H3 q (.lst ([V.int x0]++(Xr.map V.int).reverse))) q=some (.lst ((backL (x0::Xr)).map V.int)):=by
       rw[upd_same]
       unfold backL
       rw[List.map_append,List.map_reverse];rfl
      generalize upd H3 q (.lst ([V.int x0]++(Xr.map V.int).reverse))=H4 at s3 e3 ⊢
      refine⟨_,rfl,py,_,rfl,SqL.of (s3 _ _ (s2 _ _ (s1 _ _ hy))),fun p3 hp3=>?_⟩
      refine k1 _ Y.reverse q p3 _ (((s1.trans s2).trans s3).trans (same_laid hp3)) (same_laid hp3 _ _ e3) (by rw[upd_same,List.map_reverse]) (by rw[back_len _ (by simp)];exact lx) (by rw[List.length_reverse];exact ly) (.inr ⟨hc,rfl,rfl⟩)
    . exact k1 X Y px py H1 (Same.refl _) hx hy lx ly (.inl ⟨fun z=>hc (decide_eq_true z),rfl,rfl⟩)
   refine⟨_,rfl,ls,_,rfl,.inl (SqL.of hS),?_⟩
   rw[show ((S.map V.int).length:Int)=(n:Int) by rw[List.length_map,hSl]]
   refine⟨_,rfl,.inl ⟨rfl,_,SqL.of hS⟩,?_⟩
   refine⟨ls,S,a,0,rfl,rfl,hS,by rw[gS a ha,ea],fun j hj e=>?_,?_⟩
   . rw[gS j (by omega)] at e
     have:=inj j a (by omega) ha ((Option.some.inj e).trans ea.symm)
     omega
   refine⟨_,rfl,_,rfl,_,rfl,ls,_,rfl,SqL.of hS,fun p1 hp1=>?_⟩
   rw[cut_lo (by rw[List.length_map];omega)]
   have s1:=same_laid (o:=.lst ((S.map V.int).drop a)) hp1
   have e1:(upd H p1 (.lst ((S.map V.int).drop a))) p1=some (.lst ((S.map V.int).drop a)):=upd_same
   generalize upd H p1 (.lst ((S.map V.int).drop a))=H1 at s1 e1 ⊢
   refine⟨_,rfl,_,rfl,_,rfl,ls,_,rfl,SqL.of (s1 _ _ hS),fun p2 hp2=>?_⟩
   rw[cut_hi (by rw[List.length_map];omega)]
   have s2:=s1.trans (same_laid (o:=.lst ((S.map V.int).take a)) hp2)
   have e12:=same_laid (o:=.lst ((S.map V.int).take a)) hp2 _ _ e1
   have e2:(upd H1 p2 (.lst ((S.map V.int).take a))) p2=some (.lst ((S.map V.int).take a)):=upd_same
   generalize upd H1 p2 (.lst ((S.map V.int).take a))=H2 at s2 e12 e2 ⊢
   refine⟨p1,p2,_,_,rfl,rfl,e12,e2,by simp only[List.length_drop,List.length_take,List.length_map];exact Nat.le_of_lt (small_line (by omega)),fun px hpx=>?_⟩
   have s3:=s2.trans (same_laid (o:=.lst ((S.map V.int).drop a++(S.map V.int).take a)) hpx)
   have e3:(upd H2 px (.lst ((S.map V.int).drop a++(S.map V.int).take a))) px=some (.lst ((turnL S a).map V.int)):=by
    rw[upd_same]
    unfold turnL
    rw[List.map_append,List.map_drop,List.map_take]
   generalize upd H2 px (.lst ((S.map V.int).drop a++(S.map V.int).take a))=H3 at s3 e3 ⊢
   refine⟨_,rfl,_,rfl,_,rfl,ll,_,rfl,SqL.of (s3 _ _ hL),fun p4 hp4=>?_⟩
   rw[cut_lo (by rw[List.length_map];omega)]
   have s4:=same_laid (o:=.lst ((L.map V.int).drop a)) hp4
   have e4:(upd H3 p4 (.lst ((L.map V.int).drop a))) p4=some (.lst ((L.map V.int).drop a)):=upd_same
   generalize upd H3 p4 (.lst ((L.map V.int).drop a))=H4 at s4 e4 ⊢
   refine⟨_,rfl,_,rfl,_,rfl,ll,_,rfl,SqL.of (s4 _ _ (s3 _ _ hL)),fun p5 hp5=>?_⟩
   rw[cut_hi (by rw[List.length_map];omega)]
   have s5:=s4.trans (same_laid (o:=.lst ((L.map V.int).take a)) hp5)
   have e45:=same_laid (o:=.lst ((L.map V.int).take a)) hp5 _ _ e4
   have e5:(upd H4 p5 (.lst ((L.map V.int).take a))) p5=some (.lst ((L.map V.int).take a)):=upd_same
   generalize upd H4 p5 (.lst ((L.map V.int).take a))=H5 at s5 e45 e5 ⊢
   refine⟨p4,p5,_,_,rfl,rfl,e45,e5,by simp only[List.length_drop,List.length_take,List.length_map];exact Nat.le_of_lt (small_line (by omega)),fun py hpy=>?_⟩
   have s6:=s5.trans (same_laid (o:=.lst ((L.map V.int).drop a++(L.map V.int).take a)) hpy)
   have e6:(upd H5 py (.lst ((L.map V.int).drop a++(L.map V.int).take a))) py=some (.lst ((turnL L a).map V.int)):=by
    rw[upd_same]
    unfold turnL
    rw[List.map_append,List.map_drop,List.map_take]
   generalize upd H5 py (.lst ((L.map V.int).drop a++(L.map V.int).take a))=H6 at s6 e6 ⊢
   refine⟨turnL S a,turnL L a,px,py,_,_,rfl,s6 _ _ e3,e6,by rw[turn_len,hSl],by rw[turn_len,hLl],fun line bh pl pb H7 s7 hl hb ll' lb' cs=>?_⟩
   have due:DueOf n S L (seatF line) (seatF bh):=by
    rcases cs with ⟨c,rfl,rfl⟩ | ⟨c,rfl,rfl⟩
    . exact due_fwd h3 hSl hLl ha ea c
    . exact due_back h3 hSl hLl ha ea c
   have R:=(due _ R0).1
   have s07:=(s3.trans s6).trans s7
   generalize hr':seatF line=r at R due
   generalize hm':seatF bh=m at R due
   have hl':H7 pl=some (.lst (rlist r n)):=by rw[hl,map_rlist ll',hr']
   have hb':H7 pb=some (.lst (bh.map V.int)):=hb
   have smk:∀j,j<=n->(bh.take j).sum=sm m j:=fun j hj=>by rw[sum_sm bh j (by omega),hm']
   intro d hd
   have hd0:H d=none:=none_back s07 hd
   have nld:pl≠d:=ne_of_none hl' hd
   have nbd:pb≠d:=ne_of_none hb' hd
   have I0:RL H d pl n r m 0 (upd H7 d (.dK [])):=⟨s07.trans (same_laid hd),same_laid hd _ _ hl',[],upd_same,Nat.le_refl _,fun j hj=>absurd hj (Nat.not_lt_zero _)⟩
   have J0:(upd H7 d (.dK [])) pb=some (.lst (bh.map V.int)):=same_laid hd _ _ hb'
   generalize upd H7 d (.dK [])=H8 at I0 J0 ⊢
   refine⟨_,rfl,(n:Int),rfl,by omega,by omega,for_range (lo:=0) (n:=(n:Int).toNat) (fun i σ H9=>∃v7:Option V,σ=[some (.ref ls),some (.ref ll),some (.int n),some (.int a),some (.ref pl),some (.ref pb),some (.ref d),v7]/\RL H d pl n r m i H9/\H9 pb=some (.lst (bh.map V.int))) ⟨_,rfl,I0,J0⟩ (fun i σ H9 hi z=>?_) (fun σ H9 z=>?_)⟩
   . obtain⟨v7,rfl,Z,J⟩:=z
     rw[Int.toNat_natCast] at hi
     rw[Int.zero_add]
     refine⟨_,rfl,_,rfl,_,rfl,pb,_,rfl,SqL.of J,fun p1 hp1=>?_⟩
     rw[show cutV (bh.map V.int) none (some (i:Int))=(bh.take i).map V.int by rw[cut_hi (by rw[List.length_map];omega),List.map_take]]
     have sp1:=same_laid (o:=.lst ((bh.take i).map V.int)) hp1
     have Z1:RL H d pl n r m i (upd H9 p1 (.lst ((bh.take i).map V.int))):=by
      obtain⟨kvs,a,b,c⟩:=Z.dd
      exact⟨Z.sm'.trans sp1,sp1 _ _ Z.ls,kvs,sp1 _ _ a,b,fun j hj=>let ⟨q,e1,e2⟩:=c j hj;⟨q,e1,sp1 _ _ e2⟩⟩
     have J1:=sp1 _ _ J
     have e1:(upd H9 p1 (.lst ((bh.take i).map V.int))) p1=some (.lst ((bh.take i).map V.int)):=upd_same
     generalize upd H9 p1 (.lst ((bh.take i).map V.int))=H10 at Z1 J1 e1 ⊢
     refine⟨p1,bh.take i,rfl,SqL.of e1,?_⟩
     refine⟨_,rfl,pb,bh,rfl,SqL.of J1,?_⟩
     refine⟨_,rfl,_,rfl,_,_,rfl,rfl,_,rfl,_,_,rfl,rfl,by omega,?_⟩
     dsimp only
     rw[mod_nx hi (by omega)]
     refine⟨pl,_,_,_,rfl,rfl,SqL.of Z1.ls,atI_nat (rlist_get (nx_lt hi)),?_⟩
     refine⟨_,rfl,_,rfl,_,_,rfl,rfl,pl,_,_,_,rfl,rfl,SqL.of Z1.ls,rlist_pq hi,?_⟩
     rw[smk i (by omega),show bh.sum=sm m n by rw[<-smk n (Nat.le_refl _),List.take_of_length_le (by omega)]]
     refine⟨by show 4<=sizeLine;decide,fun p hp=>?_⟩
     obtain⟨kvs,hk,hkl,hks⟩:=Z1.dd
     have sp:=same_laid (o:=.tup (labR m r n i)) hp
     have npd:p≠d:=fun z=>by rw[z,hk] at hp;cases hp
     refine⟨_,rfl,_,rfl,_,rfl,pl,_,_,_,rfl,rfl,SqL.of (sp _ _ Z1.ls),atI_nat (rlist_get hi),d,_,rfl,DPut.k (k:=Sum.inl (r i)) (sp _ _ hk) (Nat.lt_of_le_of_lt hkl (small_line (by omega))),?_⟩
     refine⟨_,rfl,⟨same_chg (Z1.sm'.trans sp) hd0,by rw[upd_ne nld];exact sp _ _ Z1.ls,_,upd_same,Nat.le_trans (length_putK _ _ _) (by omega),fun j hj=>?_⟩,by rw[upd_ne nbd];exact sp _ _ J1⟩
     rw[valV_put]
     by_cases c:j=i
     . subst c
       exact⟨p,if_pos rfl,by rw[upd_ne npd,upd_same];rfl⟩
     . obtain⟨a,e1,e2⟩:=hks j (by omega)
       have ne:¬ (Sum.inl (r j):Key)=Sum.inl (r i):=fun z=>c (R.inj j i (by omega) hi (Sum.inl.inj z))
       exact⟨a,by rw[if_neg ne];exact e1,by rw[upd_ne (ne_of e2 hk (by intro z;cases z))];exact sp _ _ e2⟩
   . obtain⟨v7,rfl,Z,J⟩:=z
     rw[Int.toNat_natCast] at Z
     obtain⟨kvs,hk,hkl,hks⟩:=Z.dd
     refine⟨_,rfl,(n:Int),rfl,by omega,by omega,[.ref d],rfl,fun D2 hD2=>?_⟩
     refine comp_range (lo:=0) (n:=(n:Int).toNat) (fun q ys H10=>q<=n/\ys.length=q/\(∀i,i<n->r i<q->∃a,ys[(r i).toNat]? = some (.ref a)/\H9 a=some (.tup (labR m r n i)))/\H10=upd H9 D2 (.lst ys)) ⟨Nat.zero_le _,rfl,fun i hi z=>by have:=R.rng i hi;omega,rfl⟩ (fun q ys H10 z=>?_) (fun q ys H10 hq z=>?_) (fun ys H10 z=>?_)
     . obtain⟨hq,hl,_⟩:=z
       rw[hl]
       exact small_line (by omega)
     . obtain⟨_,hl,hy,rfl⟩:=z
       rw[Int.toNat_natCast] at hq
       rw[Int.zero_add]
       obtain⟨i,hi,e⟩:=R.at (x:=(q:Int)) (by omega) (by omega)
       obtain⟨b,e1,e2⟩:=hks i hi
       refine⟨⟨rfl,rfl⟩,?_⟩
       refine tyes ?_
       rw[e] at e1
       refine⟨_,rfl,_,rfl,d,.ref b,rfl,e1 ▸ DGet.k (k:=Sum.inl (q:Int)) (same_laid hD2 _ _ hk),upd_same,hq,by rw[List.length_append,hl];rfl,fun i' hi' z=>?_,upd_upd⟩
       have hb:=R.rng i' hi'
       by_cases c:r i'<q
       . obtain⟨b,e3,e4⟩:=hy i' hi' c
         exact⟨b,by rw[List.getElem?_append_left (by omega)];exact e3,e4⟩
       . have ei:r i'=q:=by omega
         have:=R.inj i' i hi' hi (ei.trans e.symm)
         subst this
         refine⟨b,?_,e2⟩
         rw[ei,Int.toNat_natCast,List.getElem?_append_right (by omega),hl,Nat.sub_self];rfl
     . obtain⟨_,hl,hy,rfl⟩:=z
       rw[Int.toNat_natCast] at hl hy
       refine⟨D2,ys,rfl,.inl ⟨SqL.of upd_same,fun lp hlp=>?_⟩⟩
       have s9:=(same_laid (o:=.lst ys) hD2).trans (same_laid (o:=.tup ys) hlp)
       refine k lp r m _ (Z.sm'.trans s9) due ⟨ys,upd_same,hl,fun i hi=>?_⟩
       obtain⟨b,e1,e2⟩:=hy i hi (R.rng i hi).2
       exact⟨b,e1,s9 _ _ e2⟩
end
end K60
namespace K60
open PySem L2 WM
def SV (H:Hp):Nat->V->V->Prop
 | 0,a,b=>∃i:Int,a = .int i/\b = .int i
 | h+1,a,b=>∃(p q:Addr)(xs ys:List V),a = .ref p/\b = .ref q/\H p=some (.tup xs)/\H q=some (.tup ys)/\xs.length=ys.length/\xs.length<=24/\∀(i:Nat)(x y:V),xs[i]? = some x->ys[i]? = some y->SV H h x y
theorem SV.keep {H H':Hp}(s:Same H H'):∀{h:Nat}{a b:V},SV H h a b->SV H' h a b
 | 0,_,_,h=>h
 | _+1,_,_,⟨p,q,xs,ys,e1,e2,e3,e4,e5,e6,e7⟩=>⟨p,q,xs,ys,e1,e2,s _ _ e3,s _ _ e4,e5,e6,fun i x y hx hy=>(e7 i x y hx hy).keep s⟩
def spSm (h:Nat):Sp:=fun vs H Q _=>∃a b:V,vs=[a,b]/\SV H h a b/\∀H',Same H H'->Q (.bl true) H'
theorem comp_zipT {K:PySem.W.Frag}{a b:Addr}{xs ys:List V}{own:Nat}{g:TG}{ti:TT}{te:TE}{cv:List V}{D:Addr}{H1:Hp}{Q:VK}(hxy:xs.length=ys.length)(Pv:Nat->List V->Hp->Prop)(h0:Pv 0 [] (upd H1 D (.lst [])))(hl:∀i zs H,Pv i zs H->SqT K H a xs/\SqT K H b ys)(hz:∀i zs H,Pv i zs H->zs.length<sizeLine)
 (hs:∀i x y zs H T,xs[i]? = some x->ys[i]? = some y->Pv i zs H->H T=none->g (.ref T) (List.replicate own none++cv.map some) (upd H T (.tup [x,y])) fun σ2 H2=>(σ2.length=own+cv.length/\σ2.drop own=cv.map some) /\
  ti σ2 H2 fun b H3=>if b=true then te σ2 H3 fun y H4=>H4 D=some (.lst zs)/\Pv (i+1) (zs++[y]) (upd H4 D (.lst (zs++[y]))) else Pv (i+1) zs H3)
 (hd:∀zs H,Pv xs.length zs H->Q (.ref D) H):CompRd (ItzT K a b) own cv g ti te D H1 Q:=by
 refine⟨fun i m zs H=>m=xs.length-i/\i<=xs.length/\Pv i zs H,⟨xs.length,rfl,Nat.zero_le _,h0⟩,?_⟩
 rintro i m zs H ⟨rfl,hi,p⟩
 obtain⟨q1,q2⟩:=hl i zs H p
 by_cases c:i<xs.length
 . refine .inr ⟨⟨xs,ys,xs[i],ys[i],q1,q2,List.getElem?_eq_getElem c,List.getElem?_eq_getElem (by omega)⟩,hz i zs H p,Pv (i+1),fun zs' H' p'=>⟨xs.length-(i+1),by omega,rfl,c,p'⟩,fun x H' y=>?_⟩
   obtain⟨T,u,v,rfl,hT,rfl,hu,hv⟩:=y
   exact hs i u v zs H T (hu xs q1) (hv ys q2) p hT
 . have e:i=xs.length:=by omega
   subst e
   exact .inl ⟨⟨xs,q1,Nat.le_refl _⟩,hd zs H p⟩
theorem all_yes:∀n,(List.replicate n (V.bl true)).all flatV=true/\inV (.bl false) (List.replicate n (V.bl true))=false
 | 0=>⟨rfl,rfl⟩
 | n+1=>by
  obtain⟨a,b⟩:=all_yes n
  rw[List.replicate_succ]
  exact⟨by rw[List.all_cons,a];rfl,by unfold inV at b ⊢;rw[List.any_cons,b];rfl⟩
section
variable {P:Program}{w:World}{K:PySem.W.Frag}{mg:Str->Option Value}{base:Heap}
theorem scSame:FnScope ["_law_found", "_law_due_here"] ["_law_found", "_law_due_here"] (defScope sSame):=⟨rfl,rfl,rfl,by decide +kernel,rfl,by decide +kernel,by decide +kernel⟩
theorem ok_same0 {f:Addr}{fd':FuncData}(F:Fun K "_law_same" "_law_same" sSame f fd') (mIsi:mg "isinstance" = none) (mTuple:mg "tuple" = none) (mList:mg "list" = none) (mBool:mg "bool" = none):FnOk P w K mg base CX0 1 f fd' ["_law_found", "_law_due_here"] (spSm 0):=by
 refine F.ok scSame (fun vs H Q E h=>?_) (fun cdv A outer s H vs Q E hr h=>?_)
 . obtain⟨a,b,rfl,_⟩:=h
   rfl
 . obtain⟨a,b,rfl,⟨i,rfl,rfl⟩,k⟩:=h
   refine⟨_,pss_cons (ps_if (PW.pt (pw_or (pt_cmpR op_ne (pe_callB call_isinst (by rfl) mIsi (by decide +kernel) (pa_cons (pv 1) (pa_cons (pe_tyN (T := "tuple") (by rfl) mTuple (by decide +kernel)) pa_nil))) (pe_callB call_isinst (by rfl) mIsi (by decide +kernel) (pa_cons (pv 0) (pa_cons (pe_tyN (T := "tuple") (by rfl) mTuple (by decide +kernel)) pa_nil))) (nomark _))
    (pw_or1 (pt_cmpR op_ne (pe_callB call_isinst (by rfl) mIsi (by decide +kernel) (pa_cons (pv 1) (pa_cons (pe_tyN (T := "list") (by rfl) mList (by decide +kernel)) pa_nil))) (pe_callB call_isinst (by rfl) mIsi (by decide +kernel) (pa_cons (pv 0) (pa_cons (pe_tyN (T := "list") (by rfl) mList (by decide +kernel)) pa_nil))) (nomark _))))) (pss_one (ps_ret pe_bl)) pss_nil)
    (pss_cons (ps_if (pt_not (pt_val (pe_callB call_isinstTs (by rfl) mIsi (by decide +kernel) (pa_cons (pv 1) (pa_cons (pe_tup (pa_cons (pe_tyN (T := "tuple") (by rfl) mTuple (by decide +kernel)) (pa_cons (pe_tyN (T := "list") (by rfl) mList (by decide +kernel)) pa_nil))) pa_nil)))))
     (pss_one (ps_ret (pe_and (pe_cmpR op_eq (pe_callB call_isinst (by rfl) mIsi (by decide +kernel) (pa_cons (pv 0) (pa_cons (pe_tyN (T := "bool") (by rfl) mBool (by decide +kernel)) pa_nil))) (pe_callB call_isinst (by rfl) mIsi (by decide +kernel) (pa_cons (pv 1) (pa_cons (pe_tyN (T := "bool") (by rfl) mBool (by decide +kernel)) pa_nil))) (nomark _))
      (pe_one (pe_cmpR op_eq (pv 0) (pv 1) (nomark _)))))) pss_nil)
    (pss_cons ps_no (pss_one ps_no))),?_⟩
   refine⟨_,rfl,_,_,_,false,rfl,.int i,rfl,_,rfl,_,_,_,false,rfl,.int i,rfl,rfl,_,rfl,ifF rfl ?_⟩
   refine⟨_,rfl,_,_,_,false,rfl,.int i,rfl,_,rfl,_,_,_,false,rfl,.int i,rfl,rfl,_,rfl,ifF rfl ?_⟩
   refine⟨_,rfl,by show 2<=sizeLine;decide,fun p hp=>?_⟩
   refine⟨_,p,["tuple", "list"],_,false,rfl,upd_same,.int i,rfl,_,rfl,iteT ?_⟩
   refine⟨_,rfl,_,_,_,false,rfl,.int i,rfl,_,rfl,_,_,_,false,rfl,.int i,rfl,rfl,_,rfl,ifT rfl ?_⟩
   refine⟨_,rfl,_,rfl,rfl,?_⟩
   rw[decide_eq_true rfl]
   exact k _ (same_laid hp)
theorem ok_sameS {h:Nat}{f:Addr}{fd':FuncData}(F:Fun K "_law_same" "_law_same" sSame f fd') (bF:Binds K fd' ["_law_found", "_law_due_here"] []) (mF:mg "_law_same" = some (.ref f)) (mIsi:mg "isinstance" = none) (mTuple:mg "tuple" = none) (mList:mg "list" = none) (mLen:mg "len" = none) (mZip:mg "zip" = none)
 (G:FnOk P w K mg base CX0 (h+1) f fd' ["_law_found", "_law_due_here"] (spSm h)):FnOk P w K mg base CX0 (h+2) f fd' ["_law_found", "_law_due_here"] (spSm (h+1)):=by
 refine F.ok scSame (fun vs H Q E h=>?_) (fun cdv A outer s H vs Q E hr h=>?_)
 . obtain⟨a,b,rfl,_⟩:=h
   rfl
 . obtain⟨a,b,rfl,⟨p,q,xs,ys,rfl,rfl,hp,hq,hl,h24,al⟩,k⟩:=h
   refine⟨_,pss_cons (ps_if (PW.pt (pw_or (pt_cmpR op_ne (pe_callB call_isinst (by rfl) mIsi (by decide +kernel) (pa_cons (pv 1) (pa_cons (pe_tyN (T := "tuple") (by rfl) mTuple (by decide +kernel)) pa_nil))) (pe_callB call_isinst (by rfl) mIsi (by decide +kernel) (pa_cons (pv 0) (pa_cons (pe_tyN (T := "tuple") (by rfl) mTuple (by decide +kernel)) pa_nil))) (nomark _))
    (pw_or1 (pt_cmpR op_ne (pe_callB call_isinst (by rfl) mIsi (by decide +kernel) (pa_cons (pv 1) (pa_cons (pe_tyN (T := "list") (by rfl) mList (by decide +kernel)) pa_nil))) (pe_callB call_isinst (by rfl) mIsi (by decide +kernel) (pa_cons (pv 0) (pa_cons (pe_tyN (T := "list") (by rfl) mList (by decide +kernel)) pa_nil))) (nomark _))))) (pss_one (ps_ret pe_bl)) pss_nil)
    (pss_cons (ps_if (pt_not (pt_val (pe_callB call_isinstTs (by rfl) mIsi (by decide +kernel) (pa_cons (pv 1) (pa_cons (pe_tup (pa_cons (pe_tyN (T := "tuple") (by rfl) mTuple (by decide +kernel)) (pa_cons (pe_tyN (T := "list") (by rfl) mList (by decide +kernel)) pa_nil))) pa_nil))))) (pss_one ps_no) pss_nil)
    (pss_cons (ps_if (pt_cmpR op_ne (pe_callB call_len_seq (by rfl) mLen PySem.boot_len (pa_cons (pv 0) pa_nil)) (pe_callB call_len_seq (by rfl) mLen PySem.boot_len (pa_cons (pv 1) pa_nil)) (nomark _)) (pss_one (ps_ret pe_bl)) pss_nil)
    (pss_one (ps_ret (pe_cmpR op_notIn_seq pe_bl (pe_comp (own:=["_law_one", "_law_other"]) (cn:=[]) (ci:=[]) rfl (csc rfl rfl) trivial rfl (pi_zipT rfl mZip (pa_cons (pv 0) (pa_cons (pv 1) pa_nil)))
     (fun _ _ _ _=>pg_tupC (n:=2) rfl (pgs_cons (pg_name (i:=0) (nd_of rfl) rfl (Or.inl rfl)) (pgs_cons (pg_name (i:=1) (nd_of rfl) rfl (Or.inl rfl)) pgs_nil))) (fun _ _ _ _=>pts_nil)
     (fun _ _ _ _=>pe_call G hr rfl mF F.kp bF .nil pass0 (pa_cons (pv 0) (pa_cons (pv 1) pa_nil)))) (by with_unfolding_all rfl)))))),?_⟩
   refine⟨_,rfl,_,_,_,true,rfl,.tup hq,rfl,_,rfl,_,_,_,true,rfl,.tup hp,rfl,rfl,_,rfl,ifF rfl ?_⟩
   refine⟨_,rfl,_,_,_,false,rfl,.tup hq,rfl,_,rfl,_,_,_,false,rfl,.tup hp,rfl,rfl,_,rfl,ifF rfl ?_⟩
   refine⟨_,rfl,by show 2<=sizeLine;decide,fun t ht=>?_⟩
   have s1:=same_laid (o:=.tup [.ty "tuple",.ty "list"]) ht
   refine⟨_,t,["tuple", "list"],_,true,rfl,upd_same,.tup (s1 _ _ hq),rfl,_,rfl,iteF ?_⟩
   have hp1:=s1 _ _ hp
   have hq1:=s1 _ _ hq
   generalize upd H t (.tup [.ty "tuple",.ty "list"])=H1 at s1 hp1 hq1 ⊢
   refine⟨_,rfl,p,xs,rfl,.inr (SqT.of hp1),_,rfl,q,ys,rfl,.inr (SqT.of hq1),rfl,_,rfl,?_⟩
   refine ifF (by rw[hl];simp) ?_
   refine⟨_,rfl,_,rfl,p,q,rfl,⟨xs,SqT.of hp1⟩,⟨ys,SqT.of hq1⟩,[],rfl,fun D hD=>?_⟩
   refine comp_zipT (xs:=xs) (ys:=ys) hl (fun i zs H5=>i<=xs.length/\zs=List.replicate i (V.bl true)/\Same H1 H5/\H5 D=some (.lst zs)) ⟨Nat.zero_le _,rfl,same_laid hD,upd_same⟩ (fun i zs H5 z=>⟨SqT.of (z.2.2.1 _ _ hp1),SqT.of (z.2.2.1 _ _ hq1)⟩) (fun i zs H5 z=>?_) (fun i x y zs H5 T hx hy z hT=>?_) (fun zs H5 z=>?_)
   . obtain⟨hi,rfl,_⟩:=z
     rw[List.length_replicate]
     exact small_line (by omega)
   . obtain⟨hi,rfl,s5,hD5⟩:=z
     have sT:=same_laid (o:=.tup [x,y]) hT
     refine⟨T,_,rfl,SqT.of upd_same,rfl,_,_,rfl,_,_,rfl,rfl,⟨rfl,rfl⟩,?_⟩
     refine tyes ?_
     refine⟨_,rfl,_,rfl,x,y,rfl,((al i x y hx hy).keep s1).keep (s5.trans sT),fun H6 s6=>?_⟩
     refine⟨s6 _ _ (sT _ _ hD5),(List.getElem?_eq_some_iff.mp hx).1,?_,same_chg ((s5.trans sT).trans s6) hD,upd_same⟩
     rw[List.replicate_succ']
   . obtain⟨_,rfl,s5,hD5⟩:=z
     refine⟨D,_,rfl,.inl (SqL.of hD5),rfl,(all_yes _).1,?_⟩
     rw[(all_yes _).2]
     exact k _ (s1.trans s5)
end
end K60
namespace K60
open PySem L2 WM
theorem cut_eq {ts:List T3}{a:Nat}(h:a<ts.length):ts=ts.take a++ts[a]::ts.drop (a+1):=by
 conv=>lhs;rw[<-List.take_append_drop a ts,List.drop_eq_getElem_cons h]
theorem gw_cut {n:Int}{ts:List T3}(G:GW n ts){a:Nat}(h:a<ts.length):GW n (ts.take a++ts.drop (a+1)):=by
 have sub:(ts.take a++ts.drop (a+1)).Sublist ts:=by
  conv=>rhs;rw[cut_eq h]
  exact List.Sublist.append (List.Sublist.refl _) (List.sublist_cons_self _ _)
 exact⟨G.n1,G.n24,Nat.lt_of_le_of_lt sub.length_le G.len,fun t ht=>G.rng t (sub.subset ht),G.dis.sublist sub⟩
theorem noR_cut {n:Nat}{ts:List T3}{r m:Nat->Int}(G:GW (n:Int) ts)(R:Ring ts n r m){a:Nat}(h:a<ts.length):NoR n (ts.take a++ts.drop (a+1)):=by
 have e:=cut_eq h
 have m0:ts[a]∈ts:=List.getElem_mem h
 have b0:=G.rng _ m0
 have dis:∀s∈ts.take a++ts.drop (a+1),¬ (s.1=ts[a].1/\s.2.1=ts[a].2.1):=by
  have d:=G.dis
  rw[e] at d
  obtain⟨_,d2,d3⟩:=List.pairwise_append.mp d
  intro s hs
  rcases List.mem_append.mp hs with z | z
  . exact d3 s z _ List.mem_cons_self
  . exact fun q=>(List.pairwise_cons.mp d2).1 s z ⟨q.1.symm,q.2.symm⟩
 have sub:∀s∈ts.take a++ts.drop (a+1),s∈ts:=fun s hs=>by
  rcases List.mem_append.mp hs with z | z
  . exact List.mem_of_mem_take z
  . exact List.mem_of_mem_drop z
 obtain⟨i,hi,ei⟩:=R.at (x:=ts[a].1) (by omega) (by omega)
 have two:=R.two hi
 have y0:ts[a].2.1=r (nx n i)\/ts[a].2.1=r (pq n i):=(two _).mp ⟨ts[a].2.2,by rw[ei];exact .inl m0⟩
 refine .inr (.inr ⟨(ts[a].1).toNat,by omega,fun hs hr hm z=>?_⟩)
 rw[show ((ts[a].1.toNat:Nat):Int)=ts[a].1 by omega] at hm
 have key:∀y∈hs,y≠ts[a].2.1/\(y=r (nx n i)\/y=r (pq n i)):=fun y hy=>by
  obtain⟨k,q⟩:=(hm y).mp hy
  refine⟨fun ye=>?_,(two y).mp ⟨k,?_⟩⟩
  . rcases q with q | q
    . exact dis _ q ⟨rfl,ye⟩
    . have:=G.rng _ (sub _ q)
      dsimp only at this
      omega
  . rw[ei]
    exact q.elim (fun q=>.inl (sub _ q)) fun q=>.inr (sub _ q)
 obtain⟨u,v,rfl⟩:∃u v,hs=[u,v]:=by
  match hs,z with
  | [u,v],_=>exact⟨u,v,rfl⟩
 have lt:u<v:=by simpa using hr
 have k1:=key u (by simp)
 have k2:=key v (by simp)
 rcases y0 with y0 | y0 <;> rcases k1 with ⟨a1,b1 | b1⟩ <;> rcases k2 with ⟨a2,b2 | b2⟩ <;> omega
theorem dis_symm {s t:T3}(h:¬ (s.1=t.1/\s.2.1=t.2.1)):¬ (t.1=s.1/\t.2.1=s.2.1):=fun q=>h ⟨q.1.symm,q.2.symm⟩
theorem tie3_mem {x y l:Int}{ts:List T3}{k:Int}:((tie3 x y l).1,(tie3 x y l).2.1,k)∈ts->Adj ts x y k:=fun h=>by
 unfold tie3 at h
 dsimp only at h
 by_cases c:x<=y
 . rw[Int.min_eq_left c,Int.max_eq_right c] at h;exact .inl h
 . rw[Int.min_eq_right (by omega),Int.max_eq_left (by omega)] at h;exact .inr h
theorem adj_tie3 {x y l:Int}{ts:List T3}(h:tie3 x y l∈ts):Adj ts x y l:=tie3_mem (l:=l) h
theorem chord {n:Nat}{ts us:List T3}{S L:List Int}{l:Int}(G:GW (n:Int) ts)(hlen:ts.length=n)(R:Ring ts n (seatF S) (seatF L))(h4:3<n)(hl:1<=l/\l<=99)(hp:us.Perm (ts++[tie3 (seatF S 0) (seatF S 2) l])):GW (n:Int) us/\NoR n us:=by
 have r0:=R.rng 0 (by omega)
 have r2:=R.rng 2 (by omega)
 have ne:seatF S 0≠seatF S 2:=fun z=>by have:=R.inj 0 2 (by omega) (by omega) z;omega
 have e1:nx n 0=1:=by unfold nx;rw[if_neg (by omega)]
 have e2:pq n 0=n-1:=by unfold pq;rw[if_pos rfl]
 have no:∀k,¬ Adj ts (seatF S 0) (seatF S 2) k:=fun k q=>by
  rcases (R.two (i:=0) (by omega) _).mp ⟨k,q⟩ with z | z
  . rw[e1] at z
    have:=R.inj 2 1 (by omega) (by omega) z
    omega
  . rw[e2] at z
    have:=R.inj 2 (n-1) (by omega) (by omega) z
    omega
 have n24:=G.n24
 refine⟨⟨G.n1,G.n24,by rw[hp.length_eq,List.length_append,hlen];show n+1<64;omega,fun t ht=>?_,?_⟩,.inr (.inr ⟨(seatF S 0).toNat,by omega,fun hs _ hm z=>?_⟩)⟩
 . rcases List.mem_append.mp (hp.mem_iff.mp ht) with q | q
   . exact G.rng t q
   . rw[List.mem_singleton.mp q]
     unfold tie3
     dsimp only
     omega
 . refine hp.symm.pairwise (List.pairwise_append.mpr ⟨G.dis,List.pairwise_singleton _ _,fun s hs t ht=>?_⟩) dis_symm
   rw[List.mem_singleton.mp ht]
   intro q
   refine no s.2.2 (tie3_mem (l:=l) ?_)
   rw[<-q.1,<-q.2]
   exact hs
 . rw[show (((seatF S 0).toNat:Nat):Int)=seatF S 0 by omega] at hm
   have up:∀{x y k:Int},Adj ts x y k->Adj us x y k:=fun q=>q.elim (fun q=>.inl (hp.mem_iff.mpr (List.mem_append_left _ q))) fun q=>.inr (hp.mem_iff.mpr (List.mem_append_left _ q))
   have a1:=R.adjN (i:=0) (by omega)
   have a2:=R.adjP (i:=0) (by omega)
   rw[e1] at a1
   rw[e2] at a2
   have a3:Adj us (seatF S 0) (seatF S 2) l:=adj_tie3 (hp.mem_iff.mpr (List.mem_append_right _ (List.mem_singleton.mpr rfl)))
   have b:=nd_sub (l₁:=[seatF S 1,seatF S (n-1),seatF S 2]) (l₂:=hs) (by
    have q1:seatF S 1≠seatF S (n-1):=fun z=>by have:=R.inj 1 (n-1) (by omega) (by omega) z;omega
    have q2:seatF S 1≠seatF S 2:=fun z=>by have:=R.inj 1 2 (by omega) (by omega) z;omega
    have q3:seatF S (n-1)≠seatF S 2:=fun z=>by have:=R.inj (n-1) 2 (by omega) (by omega) z;omega
    simp[q1,q2,q3]) fun x hx=>by
    rw[hm]
    rcases List.mem_cons.mp hx with rfl | hx
    . exact⟨_,up a1⟩
    rcases List.mem_cons.mp hx with rfl | hx
    . exact⟨_,up a2⟩
    rw[List.mem_singleton.mp hx]
    exact⟨_,a3⟩
   rw[z] at b
   simp at b
theorem apart {n:Nat}{ts:List T3}{l:Int}(G:GW (n:Int) ts)(hlen:ts.length=n)(h3:3<=n)(h22:n<22)(hl:1<=l/\l<=99) :
 GW ((n+3:Nat):Int) (ts++[((n:Int),(n:Int)+1,1),((n:Int),(n:Int)+2,2),((n:Int)+1,(n:Int)+2,l)])/\NoR (n+3) (ts++[((n:Int),(n:Int)+1,1),((n:Int),(n:Int)+2,2),((n:Int)+1,(n:Int)+2,l)]):=by
 have new:∀t∈[((n:Int),(n:Int)+1,1),((n:Int),(n:Int)+2,2),((n:Int)+1,(n:Int)+2,l)],(n:Int)<=t.1/\t.1<t.2.1/\t.2.1<(n:Int)+3/\1<=t.2.2/\t.2.2<=99:=by
  intro t ht
  simp only[List.mem_cons,List.not_mem_nil,or_false] at ht
  rcases ht with rfl | rfl | rfl <;> dsimp only <;> omega
 refine⟨⟨by omega,by omega,by rw[List.length_append,hlen];show n+3<64;omega,fun t ht=>?_,?_⟩,.inr (.inl ⟨fun x=>x<n,by omega,fun x y k hx q=>?_,(n:Int),by omega,by omega,by omega⟩)⟩
 . rcases List.mem_append.mp ht with q | q
   . have:=G.rng t q
     omega
   . have:=new t q
     omega
 . refine List.pairwise_append.mpr ⟨G.dis,by simp <;> omega,fun s hs t ht q=>?_⟩
   have a:=G.rng s hs
   have b:=new t ht
   omega
 . rcases q with q | q
   . rcases List.mem_append.mp q with z | z
     . have:=G.rng _ z;dsimp only at this;omega
     . have:=new _ z;dsimp only at this;omega
   . rcases List.mem_append.mp q with z | z
     . have:=G.rng _ z;dsimp only at this;omega
     . have:=new _ z;dsimp only at this;omega
end K60
namespace K60
open PySem L2 WM
section
variable {X:Cx}
theorem call_sortedTT:CallR X (.builtin "sorted") (fun xs H Q=>∃p ys ks,xs=[.ref p]/\SqT X.K H p ys/\TupsAre H ys ks/\ks.length<64 /\
 ∀l zs ms,H l=none->TupsAre H zs ms->ms.Perm ks->Rises ms->Q (.ref l) (upd H l (.lst zs))):=by
 intro pins s σ H xs us Q I r h
 obtain⟨p,ys,ks,rfl,hq,T,h64,q⟩:=h
 obtain⟨u,rfl,rx⟩:=vals1 r
 cases rx
 obtain⟨its,r',pl,hz⟩:=I.tuple hq
 have hl:=T.length
 have hv:=r'.length
 refine SortT.sorted_tup (O:=lexO) (key:=fun i=>ks.getD i []) (κ:=PyProof.Rows.tuples' true) pl (by omega) (fun h2 s' a fa kp=>asks_tups I T r' (by omega) fa kp) fun D h' out c pt hD kp ho=>?_
 obtain⟨zs,ms,T2,hp,hr,rz,hlz⟩:=put_tups T r' pt
 exact⟨.ref D,_,sorted_fin (t':=s.toks) I hD kp ho rz (by omega),rfl,q D zs ms (I.hok.fresh hD) T2 hp hr⟩
end
theorem catA_any {K:PySem.W.Frag}{H:Hp}{a b:Addr}{xs ys:List V}{Q:VK}(ha:H a=some (.tup xs))(hb:H b=some (.tup ys))(hz:xs.length+ys.length<=1000)(k:∀c H',Same H H'->H' c=some (.tup (xs++ys))->Q (.ref c) H'):rCatA K (.ref a) (.ref b) H Q:=
 ⟨a,b,xs,ys,rfl,rfl,SqT.of ha,SqT.of hb,Nat.le_of_lt (small_line (by omega)),fun e=>k b H (Same.refl _) (by rw[e];exact hb),fun _ e=>k a H (Same.refl _) (by rw[e,List.append_nil];exact ha),fun _ _ p hp=>k p _ (same_laid hp) upd_same⟩
def Gd (H:Hp)(ys:List V):Prop:=∀y∈ys,∃(wa:Addr)(k:Nat)(ts:List T3),y = .ref wa/\WebAt H wa k ts/\NoR k ts
theorem Gd.keep {H H':Hp}{ys:List V}(h:Gd H ys)(k:∀b zs,H b=some (.tup zs)->H' b=some (.tup zs)):Gd H' ys:=fun y hy=>let ⟨wa,n,ts,e,W,N⟩:=h y hy;⟨wa,n,ts,e,W.keepT k,N⟩
theorem Gd.more {H:Hp}{ys:List V}(h:Gd H ys){wa:Addr}{n:Nat}{ts:List T3}(W:WebAt H wa n ts)(N:NoR n ts):Gd H (ys++[.ref wa]):=fun y hy=>by
 rcases List.mem_append.mp hy with z | z
 . exact h y z
 . rw[List.mem_singleton.mp z];exact⟨wa,n,ts,rfl,W,N⟩
theorem tups_cut {H:Hp}:∀{tys:List V}{ks:List (List Int)}(a:Nat),TupsAre H tys ks->TupsAre H (tys.take a++tys.drop (a+1)) (ks.take a++ks.drop (a+1))
 | [],[],a,_=>by simp[TupsAre]
 | [],_::_,_,h=>h.elim
 | _::_,[],_,h=>h.elim
 | _::_,_::_,0,h=>h.2
 | _::_,_::_,a+1,h=>⟨h.1,tups_cut a h.2⟩
theorem web0 {H:Hp}{wa u:Addr}(k:Nat)(h1:1<=k)(h2:k<=24)(hw:H wa=some (.tup [.int (k:Int),.ref u]))(hu:H u=some (.tup [])):WebAt H wa k []:=
 ⟨u,[],hw,hu,trivial,⟨by omega,by omega,by decide,fun t ht=>by simp at ht,List.Pairwise.nil⟩⟩
structure OB (Hb:Hp)(D ta ls ll:Addr)(n:Nat)(ts:List T3)(S L:List Int)(tys:List V):Prop where
 hD:Hb D=none
 ta':Hb ta=some (.tup tys)
 TA:TupsAre Hb tys (ts.map tl)
 hS:Hb ls=some (.lst (S.map V.int))
 hL:Hb ll=some (.lst (L.map V.int))
 G:GW (n:Int) ts
 len:ts.length=n
 R:Ring ts n (seatF S) (seatF L)
 n3:3<=n
 lS:S.length=n
 lL:L.length=n
def spOth:Sp:=fun vs H Q _=>∃(t:Addr)(N:Nat)(ls ll:Addr)(n:Nat)(S L:List Int),vs=[.ref t,.ref ls,.ref ll]/\FeedAt H t N/\N<900000/\H ls=some (.lst (S.map V.int))/\H ll=some (.lst (L.map V.int))/\ls≠t/\ll≠t/\3<=n/\n<=24/\S.Perm (lowTo n)/\L.length=n/\(∀l∈L,1<=l/\l<=99) /\
 ∀(D:Addr)(ys:List V)(H':Hp),H' D=some (.lst ys)->ys.length<=6->Gd H' ys->FeedAt H' t (N+1)->Sm t H H'->D≠t->Q (.ref D) H'
section
variable {P:Program}{w:World}{K:PySem.W.Frag}{mg:Str->Option Value}{base:Heap}
theorem scOth:FnScope ["_law_feed_here", "_law_seats", "_law_longs", "_law_many", "_law_ties", "_law_at", "_law_some", "_law_more"] ["_law_feed_here", "_law_seats", "_law_longs"] (defScope sOth):=⟨rfl,rfl,rfl,by decide +kernel,rfl,by decide +kernel,by decide +kernel⟩
theorem ok_oth {f fW fT fK:Addr}{fd' fdW fdT fdK:FuncData}(F:Fun K "_law_others" "_law_others" sOth f fd') (FW:Fun K "_law_web_of" "_law_web_of" sWof fW fdW) (bW:Binds K fdW ["_law_seats", "_law_longs"] []) (mW:mg "_law_web_of" = some (.ref fW)) (GWo:FnOk P w K mg base CX0 2 fW fdW ["_law_seats", "_law_longs"] spWof)
 (FT:Fun K "_law_tie" "_law_tie" sTie fT fdT) (bT:Binds K fdT ["_law_one", "_law_other", "_law_long"] []) (mT:mg "_law_tie" = some (.ref fT)) (GT:FnOk P w K mg base CX0 2 fT fdT ["_law_one", "_law_other", "_law_long"] spTie)
 (FK:Fun K "_law_take" "_law_take" sTake fK fdK) (bK:Binds K fdK ["_law_feed_here", "_law_many"] []) (mK:mg "_law_take" = some (.ref fK)) (GK:FnOk P w K mg base CX0 2 fK fdK ["_law_feed_here", "_law_many"] spTake)
 (mLen:mg "len" = none) (mTuple:mg "tuple" = none) (mSorted:mg "sorted" = none):FnOk P w K mg base CX0 3 f fd' ["_law_feed_here", "_law_seats", "_law_longs"] spOth:=by
 refine F.ok scOth (fun vs H Q E h=>?_) (fun cdv A outer s H vs Q E hr h=>?_)
 . obtain⟨t,N,ls,ll,n,S,L,rfl,_⟩:=h
   rfl
 . obtain⟨t,N,ls,ll,n,S,L,rfl,T,hN,hS,hL,nls,nll,h3,h24,hp,hLl,hLb,k⟩:=h
   obtain⟨hSl,inj,rng,hz⟩:=seat_facts hp
   have pos:∀i,i<n->1<=seatF L i/\seatF L i<=99:=fun i hi=>by
    unfold seatF
    rw[List.getD_eq_getElem?_getD,List.getElem?_eq_getElem (by omega)]
    exact hLb _ (List.getElem_mem _)
   refine⟨_,pss_cons (ps_asg (pe_call GWo hr rfl mW FW.kp bW .nil pass0 (pa_cons (pv 1) (pa_cons (pv 2) pa_nil))) (pg_tup rfl (pgs_cons (pg_name (i:=3) scOth.nd rfl (Or.inl rfl)) (pgs_cons (pg_name (i:=4) scOth.nd rfl (Or.inl rfl)) pgs_nil))))
    (pss_cons (ps_set (i:=5) scOth.nd rfl (Or.inl rfl) (pe_call GK hr rfl mK FK.kp bK .nil pass0 (pa_cons (pv 0) (pa_cons (pe_callB call_len_seq (by rfl) mLen PySem.boot_len (pa_cons (pv 4) pa_nil)) pa_nil))))
    (pss_cons (ps_set (i:=6) scOth.nd rfl (Or.inl rfl) (pe_lst (pa_cons (pe_tup (pa_cons (pv 3) (pa_cons (pe_op op_catA (pe_slice sl_tup (pv 4) po_none (po_some (pv 5))) (pe_slice sl_tup (pv 4) (po_some (pe_op op_add (pv 5) pe_int)) po_none)) pa_nil)))
     (pa_cons (pe_tup (pa_cons pe_int (pa_cons (pe_tup pa_nil) pa_nil))) (pa_cons (pe_tup (pa_cons pe_int (pa_cons (pe_tup (pa_cons (pe_tup (pa_cons pe_int (pa_cons pe_int (pa_cons (pe_ix ix_list (pv 2) pe_int (fun _ _=>rfl)) pa_nil)))) pa_nil)) pa_nil))) (pa_cons (pe_tup (pa_cons pe_int (pa_cons (pe_tup pa_nil) pa_nil))) pa_nil))))))
    (pss_cons (ps_as (u':=fun (D':Ends) σ H=>∃(Hb:Hp)(D ta:Addr)(ts:List T3)(tys ys:List V)(v5:V),σ=[some (.ref t),some (.ref ls),some (.ref ll),some (.int n),some (.ref ta),some v5,some (.ref D),none]/\OB Hb D ta ls ll n ts S L tys/\Same Hb H/\H D=some (.lst ys)/\ys.length<=4/\Gd H ys /\
     ∀(ys':List V)(H':Hp),Same Hb H'->H' D=some (.lst ys')->ys'.length<=5->Gd H' ys'->D'.nx [some (.ref t),some (.ref ls),some (.ref ll),some (.int n),some (.ref ta),some v5,some (.ref D),none] H')
     (ps_if (pt_cmpR op_gt (pv 3) pe_int (nomark _)) (pss_one (ps_expr (pe_bm PySem.F.plainAttrs_list PySem.F.slot_list_append PySem.F.type_list_append mt_append (pv 6) (pa_cons (pe_tup (pa_cons (pv 3) (pa_cons (pe_callTy call_tuple_of (by rfl) mTuple (by decide +kernel) (pa_cons (pe_callB call_sortedTT (by rfl) mSorted (by decide +kernel) (pa_cons (pe_op op_catA (pv 4) (pe_tup (pa_cons
      (pe_call GT hr rfl mT FT.kp bT .nil pass0 (pa_cons (pe_ix ix_list (pv 1) pe_int (fun _ _=>rfl)) (pa_cons (pe_ix ix_list (pv 1) pe_int (fun _ _=>rfl)) (pa_cons (pe_ix ix_list (pv 2) pe_int (fun _ _=>rfl)) pa_nil)))) pa_nil))) pa_nil)) pa_nil)) pa_nil))) pa_nil)))) pss_nil) ?j1)
    (pss_cons (ps_as (u':=fun (D':Ends) σ H=>∃(Hb:Hp)(D ta:Addr)(ts:List T3)(tys ys:List V)(v5:V),σ=[some (.ref t),some (.ref ls),some (.ref ll),some (.int n),some (.ref ta),some v5,some (.ref D),none]/\OB Hb D ta ls ll n ts S L tys/\Same Hb H/\H D=some (.lst ys)/\ys.length<=5/\Gd H ys /\
     ∀(v7:Option V)(ys':List V)(H':Hp),Same Hb H'->H' D=some (.lst ys')->ys'.length<=6->Gd H' ys'->D'.nx [some (.ref t),some (.ref ls),some (.ref ll),some (.int n),some (.ref ta),some v5,some (.ref D),v7] H')
     (ps_if (pt_cmpR op_lt (pv 3) pe_int (nomark _)) (pss_cons (ps_set (i:=7) scOth.nd rfl (Or.inl rfl) (pe_tup (pa_cons (pe_tup (pa_cons (pv 3) (pa_cons (pe_op op_add (pv 3) pe_int) (pa_cons pe_int pa_nil)))) (pa_cons (pe_tup (pa_cons (pv 3) (pa_cons (pe_op op_add (pv 3) pe_int) (pa_cons pe_int pa_nil)))) (pa_cons (pe_tup (pa_cons (pe_op op_add (pv 3) pe_int) (pa_cons (pe_op op_add (pv 3) pe_int) (pa_cons (pe_ix ix_list (pv 2) pe_int (fun _ _=>rfl)) pa_nil)))) pa_nil)))))
      (pss_one (ps_expr (pe_bm PySem.F.plainAttrs_list PySem.F.slot_list_append PySem.F.type_list_append mt_append (pv 6) (pa_cons (pe_tup (pa_cons (pe_op op_add (pv 3) pe_int) (pa_cons (pe_op op_catA (pv 4) (pv 7)) pa_nil))) pa_nil))))) pss_nil) ?j2)
    (pss_one (ps_ret (pv 6))))))),?_⟩
   case j1=>
    rintro D' σ H1 ⟨Hb,D,ta,ts,tys,ys,v5,rfl,B,s1,hD1,ly,gd,k1⟩
    refine⟨_,rfl,_,_,rfl,rfl,_,rfl,?_⟩
    refine ite2 (fun hc=>?_) (fun hc=>k1 ys H1 s1 hD1 (by omega) gd)
    have hc:=of_decide_eq_true hc
    have hlt:tys.length=n:=by rw[B.TA.length,List.length_map,B.len]
    refine⟨_,rfl,.inl ⟨rfl,_,SqL.of hD1⟩,?_⟩
    refine⟨_,rfl,_,rfl,?_⟩
    refine⟨_,rfl,ls,_,_,_,rfl,rfl,SqL.of (s1 _ _ B.hS),atI_nat (j:=0) (getE B.lS (by omega)),?_⟩
    refine⟨_,rfl,ls,_,_,_,rfl,rfl,SqL.of (s1 _ _ B.hS),atI_nat (j:=2) (getE B.lS (by omega)),?_⟩
    refine⟨_,rfl,ll,_,_,_,rfl,rfl,SqL.of (s1 _ _ B.hL),atI_nat (j:=1) (getE B.lL (by omega)),?_⟩
    refine⟨_,_,_,rfl,fun p hp=>?_⟩
    have s2:=same_laid (o:=.tup ((tl (tie3 (S.getD 0 0) (S.getD 2 0) (L.getD 1 0))).map V.int)) hp
    have e2:(upd H1 p (.tup ((tl (tie3 (S.getD 0 0) (S.getD 2 0) (L.getD 1 0))).map V.int))) p=some (.tup ((tl (tie3 (S.getD 0 0) (S.getD 2 0) (L.getD 1 0))).map V.int)):=upd_same
    generalize upd H1 p (.tup ((tl (tie3 (S.getD 0 0) (S.getD 2 0) (L.getD 1 0))).map V.int))=H2 at s2 e2 ⊢
    refine⟨by show 1<=sizeLine;decide,fun q hq=>?_⟩
    have s3:=s2.trans (same_laid (o:=.tup [.ref p]) hq)
    have e3:=same_laid (o:=.tup [.ref p]) hq _ _ e2
    have q3:(upd H2 q (.tup [.ref p])) q=some (.tup [.ref p]):=upd_same
    generalize upd H2 q (.tup [.ref p])=H3 at s3 e3 q3 ⊢
    refine catA_any (s3 _ _ (s1 _ _ B.ta')) q3 (by rw[hlt];show n+1<=1000;omega) fun c H4 s4 hc4=>?_
    have s14:=s3.trans s4
    have TA4:TupsAre H4 (tys++[.ref p]) ((ts++[tie3 (S.getD 0 0) (S.getD 2 0) (L.getD 1 0)]).map tl):=by
     rw[List.map_append]
     exact (B.TA.keep fun b zs e=>s14 _ _ (s1 _ _ e)).snoc ⟨p,rfl,s4 _ _ e3,by simp[tl]⟩
    refine⟨c,_,_,rfl,SqT.of hc4,TA4,by rw[List.length_map,List.length_append,B.len];show n+1<64;omega,fun l zs ms hl TA5 hpm _=>?_⟩
    refine⟨l,zs,rfl,.inl ⟨SqL.of upd_same,fun tb htb=>?_⟩⟩
    obtain⟨us,eus,hpu⟩:=perm_t3 hpm
    have s5:=(same_laid (o:=.lst zs) hl).trans (same_laid (o:=.tup zs) htb)
    have e5:(upd (upd H4 l (.lst zs)) tb (.tup zs)) tb=some (.tup zs):=upd_same
    generalize upd (upd H4 l (.lst zs)) tb (.tup zs)=H5 at s5 e5 ⊢
    refine⟨by show 2<=sizeLine;decide,fun wa hwa=>?_⟩
    have s6:=same_laid (o:=.tup [.int n,.ref tb]) hwa
    have e6:(upd H5 wa (.tup [.int n,.ref tb])) wa=some (.tup [.int n,.ref tb]):=upd_same
    generalize upd H5 wa (.tup [.int n,.ref tb])=H6 at s6 e6 ⊢
    have s16:=s14.trans (s5.trans s6)
    have hD6:=s16 _ _ hD1
    have tk:∀b xs,H6 b=some (.tup xs)->(upd H6 D (.lst (ys++[.ref wa]))) b=some (.tup xs):=fun b xs e=>by rw[upd_ne (ne_of e hD6 (by intro z;cases z))];exact e
    obtain⟨GC,NC⟩:=chord B.G B.len B.R (by omega) (pos 1 (by omega)) hpu
    have W6:WebAt H6 wa n us:=⟨tb,zs,e6,s6 _ _ e5,by rw[eus];exact TA5.keep fun b xs e=>s6 _ _ (s5 _ _ e),GC⟩
    refine⟨D,_,_,rfl,rfl,hD6,small_line (by omega),?_⟩
    exact k1 _ _ (same_chg (s1.trans s16) B.hD) upd_same (by rw[List.length_append];show ys.length+1<=5;omega) (((gd.keep fun b xs e=>s16 _ _ e).more W6 NC).keep tk)
   case j2=>
    rintro D' σ H1 ⟨Hb,D,ta,ts,tys,ys,v5,rfl,B,s1,hD1,ly,gd,k1⟩
    refine⟨_,rfl,_,_,rfl,rfl,_,rfl,?_⟩
    refine ite2 (fun hc=>?_) (fun hc=>k1 none ys H1 s1 hD1 (by omega) gd)
    have hc:=of_decide_eq_true hc
    have hlt:tys.length=n:=by rw[B.TA.length,List.length_map,B.len]
    refine⟨_,rfl,_,rfl,_,_,rfl,rfl,by show 3<=sizeLine;decide,fun p1 hp1=>?_⟩
    have s2:=same_laid (o:=.tup [.int n,.int ((n:Int)+1),.int 1]) hp1
    have a2:(upd H1 p1 (.tup [.int n,.int ((n:Int)+1),.int 1])) p1=some (.tup [.int n,.int ((n:Int)+1),.int 1]):=upd_same
    generalize upd H1 p1 (.tup [.int n,.int ((n:Int)+1),.int 1])=H2 at s2 a2 ⊢
    refine⟨_,rfl,_,rfl,_,_,rfl,rfl,by show 3<=sizeLine;decide,fun p2 hp2=>?_⟩
    have s3:=same_laid (o:=.tup [.int n,.int ((n:Int)+2),.int 2]) hp2
    have a3:(upd H2 p2 (.tup [.int n,.int ((n:Int)+2),.int 2])) p2=some (.tup [.int n,.int ((n:Int)+2),.int 2]):=upd_same
    generalize upd H2 p2 (.tup [.int n,.int ((n:Int)+2),.int 2])=H3 at s3 a3 ⊢
    refine⟨_,rfl,_,_,rfl,rfl,_,rfl,_,_,rfl,rfl,_,rfl,ll,_,_,_,rfl,rfl,SqL.of (s3 _ _ (s2 _ _ (s1 _ _ B.hL))),atI_nat (j:=0) (getE B.lL (by omega)),by show 3<=sizeLine;decide,fun p3 hp3=>?_⟩
    have s4:=same_laid (o:=.tup [.int ((n:Int)+1),.int ((n:Int)+2),.int (L.getD 0 0)]) hp3
    have a4:(upd H3 p3 (.tup [.int ((n:Int)+1),.int ((n:Int)+2),.int (L.getD 0 0)])) p3=some (.tup [.int ((n:Int)+1),.int ((n:Int)+2),.int (L.getD 0 0)]):=upd_same
    generalize upd H3 p3 (.tup [.int ((n:Int)+1),.int ((n:Int)+2),.int (L.getD 0 0)])=H4 at s4 a4 ⊢
    refine⟨by show 3<=sizeLine;decide,fun q hq=>?_⟩
    have s5:=same_laid (o:=.tup [.ref p1,.ref p2,.ref p3]) hq
    have a5:(upd H4 q (.tup [.ref p1,.ref p2,.ref p3])) q=some (.tup [.ref p1,.ref p2,.ref p3]):=upd_same
    generalize upd H4 q (.tup [.ref p1,.ref p2,.ref p3])=H5 at s5 a5 ⊢
    have s15:=(s2.trans s3).trans (s4.trans s5)
    refine⟨_,rfl,.inl ⟨rfl,_,SqL.of (s15 _ _ hD1)⟩,?_⟩
    refine⟨_,rfl,_,_,rfl,rfl,_,rfl,_,rfl,?_⟩
    refine catA_any (s15 _ _ (s1 _ _ B.ta')) a5 (by rw[hlt];show n+3<=1000;omega) fun c H6 s6 hc6=>?_
    refine⟨by show 2<=sizeLine;decide,fun wa hwa=>?_⟩
    have s7:=same_laid (o:=.tup [.int ((n:Int)+3),.ref c]) hwa
    have e7:(upd H6 wa (.tup [.int ((n:Int)+3),.ref c])) wa=some (.tup [.int ((n:Int)+3),.ref c]):=upd_same
    generalize upd H6 wa (.tup [.int ((n:Int)+3),.ref c])=H7 at s7 e7 ⊢
    have s17:=s15.trans (s6.trans s7)
    have hD7:=s17 _ _ hD1
    have tk:∀b xs,H7 b=some (.tup xs)->(upd H7 D (.lst (ys++[.ref wa]))) b=some (.tup xs):=fun b xs e=>by rw[upd_ne (ne_of e hD7 (by intro z;cases z))];exact e
    obtain⟨GC,NC⟩:=apart (l:=L.getD 0 0) B.G B.len B.n3 (by omega) (pos 0 (by have:=B.n3;omega))
    have u7:Same H5 H7:=s6.trans s7
    have TA7:TupsAre H7 (tys++[.ref p1,.ref p2,.ref p3]) ((ts++[((n:Int),(n:Int)+1,1),((n:Int),(n:Int)+2,2),((n:Int)+1,(n:Int)+2,L.getD 0 0)]).map tl):=by
     have e1:tys++[V.ref p1,.ref p2,.ref p3]=((tys++[.ref p1])++[.ref p2])++[.ref p3]:=by simp
     rw[e1,List.map_append]
     have e2:∀(a b c:List Int),ts.map tl++[a,b,c]=((ts.map tl++[a])++[b])++[c]:=fun a b c=>by simp
     show TupsAre H7 _ (ts.map tl++[_,_,_])
     rw[e2]
     have x1:∃a,V.ref p1 = .ref a/\H7 a=some (.tup (List.map V.int (tl ((n:Int),(n:Int)+1,1))))/\tl ((n:Int),(n:Int)+1,1)≠[]:=⟨p1,rfl,u7 _ _ (s5 _ _ (s4 _ _ (s3 _ _ a2))),by simp[tl]⟩
     have x2:∃a,V.ref p2 = .ref a/\H7 a=some (.tup (List.map V.int (tl ((n:Int),(n:Int)+2,2))))/\tl ((n:Int),(n:Int)+2,2)≠[]:=⟨p2,rfl,u7 _ _ (s5 _ _ (s4 _ _ a3)),by simp[tl]⟩
     have x3:∃a,V.ref p3 = .ref a/\H7 a=some (.tup (List.map V.int (tl ((n:Int)+1,(n:Int)+2,L.getD 0 0))))/\tl ((n:Int)+1,(n:Int)+2,L.getD 0 0)≠[]:=⟨p3,rfl,u7 _ _ (s5 _ _ a4),by simp[tl]⟩
     exact (((B.TA.keep fun b zs e=>s17 _ _ (s1 _ _ e)).snoc x1).snoc x2).snoc x3
    have W7:WebAt H7 wa ((n+3:Nat):Int) _:=⟨c,_,e7,s7 _ _ hc6,TA7,GC⟩
    refine⟨D,_,_,rfl,rfl,hD7,small_line (by omega),?_⟩
    exact k1 _ _ _ (same_chg (s1.trans s17) B.hD) upd_same (by rw[List.length_append];show ys.length+1<=6;omega) (((gd.keep fun b xs e=>s17 _ _ e).more W7 NC).keep tk)
   refine⟨_,rfl,_,rfl,ls,ll,n,S,L,rfl,hS,hL,h3,h24,hp,hLl,hLb,fun wa ts H1 hwa0 W len R s1=>?_⟩
   obtain⟨ta,tys,hwa,hta,TA,G⟩:=id W
   have hlt:tys.length=n:=by rw[TA.length,List.length_map,len]
   refine⟨wa,_,rfl,SqT.of hwa,rfl,_,_,rfl,_,_,rfl,rfl,?_⟩
   have T1:=T.keep s1
   refine⟨_,rfl,_,rfl,ta,tys,rfl,.inr (SqT.of hta),?_⟩
   rw[hlt]
   refine⟨t,N,_,rfl,T1,by omega,by omega,by omega,fun a0 H2 a1 a2 T2 s2=>?_⟩
   obtain⟨a,rfl⟩:∃a:Nat,a0=a:=⟨a0.toNat,by omega⟩
   have ha:a<n:=by omega
   obtain⟨p0,ns0,sp0,rs0,ht0,_⟩:=id T1
   have tk:∀b zs,H1 b=some (.tup zs)->H2 b=some (.tup zs):=fun b zs e=>by rw[s2 b (ne_of e ht0 (by intro z;cases z))];exact e
   have hta2:=tk _ _ hta
   have TA2:=TA.keep tk
   have hS2:H2 ls=some (.lst (S.map V.int)):=by rw[s2 ls nls];exact s1 _ _ hS
   have hL2:H2 ll=some (.lst (L.map V.int)):=by rw[s2 ll nll];exact s1 _ _ hL
   refine⟨_,rfl,_,rfl,_,rfl,_,rfl,ta,tys,rfl,SqT.of hta2,?_,fun p1 hp1=>?_⟩
   . intro z
     have z2:=z.2
     rw[HT.sIx_nat] at z2
     omega
   rw[cut_hi (by omega)]
   have s3:=same_laid (o:=.tup (tys.take a)) hp1
   have e3:(upd H2 p1 (.tup (tys.take a))) p1=some (.tup (tys.take a)):=upd_same
   generalize upd H2 p1 (.tup (tys.take a))=H3 at s3 e3 ⊢
   refine⟨_,rfl,_,rfl,_,_,rfl,rfl,_,rfl,ta,tys,rfl,SqT.of (s3 _ _ hta2),?_,fun p2 hp2=>?_⟩
   . intro z
     have z1:=z.1
     rw[show (a:Int)+1=((a+1:Nat):Int) by omega,HT.sIx_nat] at z1
     omega
   rw[show (a:Int)+1=((a+1:Nat):Int) by omega,cut_lo (by omega)]
   have s4:=s3.trans (same_laid (o:=.tup (tys.drop (a+1))) hp2)
   have e34:=same_laid (o:=.tup (tys.drop (a+1))) hp2 _ _ e3
   have e4:(upd H3 p2 (.tup (tys.drop (a+1)))) p2=some (.tup (tys.drop (a+1))):=upd_same
   generalize upd H3 p2 (.tup (tys.drop (a+1)))=H4 at s4 e34 e4 ⊢
   refine catA_any e34 e4 (by rw[List.length_take,List.length_drop];omega) fun c H5 s5 hc5=>?_
   have s25:=s4.trans s5
   refine⟨by show 2<=sizeLine;decide,fun w1 hw1=>?_⟩
   have s6:=same_laid (o:=.tup [.int n,.ref c]) hw1
   have e6:(upd H5 w1 (.tup [.int n,.ref c])) w1=some (.tup [.int n,.ref c]):=upd_same
   generalize upd H5 w1 (.tup [.int n,.ref c])=H6 at s6 e6 ⊢
   refine⟨Nat.zero_le _,fun u2 hu2=>?_⟩
   have s7:=same_laid (o:=.tup []) hu2
   have e7:(upd H6 u2 (.tup [])) u2=some (.tup []):=upd_same
   generalize upd H6 u2 (.tup [])=H7 at s7 e7 ⊢
   refine⟨by show 2<=sizeLine;decide,fun w2 hw2=>?_⟩
   have s8:=same_laid (o:=.tup [.int 1,.ref u2]) hw2
   have e8:(upd H7 w2 (.tup [.int 1,.ref u2])) w2=some (.tup [.int 1,.ref u2]):=upd_same
   generalize upd H7 w2 (.tup [.int 1,.ref u2])=H8 at s8 e8 ⊢
   refine⟨_,rfl,ll,_,_,_,rfl,rfl,SqL.of (s8 _ _ (s7 _ _ (s6 _ _ (s25 _ _ hL2)))),atI_nat (j:=0) (getE hLl (by omega)),by show 3<=sizeLine;decide,fun v1 hv1=>?_⟩
   have s9:=same_laid (o:=.tup [.int 0,.int 1,.int (L.getD 0 0)]) hv1
   have e9:(upd H8 v1 (.tup [.int 0,.int 1,.int (L.getD 0 0)])) v1=some (.tup [.int 0,.int 1,.int (L.getD 0 0)]):=upd_same
   generalize upd H8 v1 (.tup [.int 0,.int 1,.int (L.getD 0 0)])=H9 at s9 e9 ⊢
   refine⟨by show 1<=sizeLine;decide,fun v2 hv2=>?_⟩
   have s10:=same_laid (o:=.tup [.ref v1]) hv2
   have e10:(upd H9 v2 (.tup [.ref v1])) v2=some (.tup [.ref v1]):=upd_same
   generalize upd H9 v2 (.tup [.ref v1])=H10 at s10 e10 ⊢
   refine⟨by show 2<=sizeLine;decide,fun w3 hw3=>?_⟩
   have s11:=same_laid (o:=.tup [.int 2,.ref v2]) hw3
   have e11:(upd H10 w3 (.tup [.int 2,.ref v2])) w3=some (.tup [.int 2,.ref v2]):=upd_same
   generalize upd H10 w3 (.tup [.int 2,.ref v2])=H11 at s11 e11 ⊢
   refine⟨Nat.zero_le _,fun u4 hu4=>?_⟩
   have s12:=same_laid (o:=.tup []) hu4
   have e12:(upd H11 u4 (.tup [])) u4=some (.tup []):=upd_same
   generalize upd H11 u4 (.tup [])=H12 at s12 e12 ⊢
   refine⟨by show 2<=sizeLine;decide,fun w4 hw4=>?_⟩
   have s13:=same_laid (o:=.tup [.int 2,.ref u4]) hw4
   have e13:(upd H12 w4 (.tup [.int 2,.ref u4])) w4=some (.tup [.int 2,.ref u4]):=upd_same
   generalize upd H12 w4 (.tup [.int 2,.ref u4])=H13 at s13 e13 ⊢
   refine⟨by show 4<=sizeLine;decide,fun D hD=>?_⟩
   have r12:=s13
   have r11:=s12.trans r12
   have r10:=s11.trans r11
   have r9:=s10.trans r10
   have r8:=s9.trans r9
   have r7:=s8.trans r8
   have r6:=s7.trans r7
   have r5:=s6.trans r6
   have r2:=s25.trans r5
   have W1:WebAt H13 w1 n (ts.take a++ts.drop (a+1)):=⟨c,_,r6 _ _ e6,r5 _ _ hc5,by
    rw[List.map_append,List.map_take,List.map_drop]
    exact tups_cut a (TA2.keep fun b zs e=>r2 _ _ e),gw_cut G (by omega)⟩
   have W2:WebAt H13 w2 ((1:Nat):Int) []:=web0 1 (by decide) (by decide) (r8 _ _ e8) (r7 _ _ e7)
   have l0:=pos 0 (by omega)
   have W3:WebAt H13 w3 ((2:Nat):Int) [(0,1,L.getD 0 0)]:=⟨v2,[.ref v1],r11 _ _ e11,r10 _ _ e10,⟨⟨v1,rfl,r9 _ _ e9,by simp[tl]⟩,trivial⟩,⟨by decide,by decide,by show 1<64;decide,fun t ht=>by rw[List.mem_singleton.mp ht];exact⟨by show (0:Int)<=0;decide,by show (0:Int)<1;decide,by show (1:Int)<2;decide,l0.1,l0.2⟩,List.pairwise_singleton _ _⟩⟩
   have W4:WebAt H13 w4 ((2:Nat):Int) []:=web0 2 (by decide) (by decide) e13 (r12 _ _ e12)
   have gd:Gd H13 [.ref w1,.ref w2,.ref w3,.ref w4]:=fun y hy=>by
    simp only[List.mem_cons,List.not_mem_nil,or_false] at hy
    rcases hy with rfl | rfl | rfl | rfl
    . exact⟨w1,n,_,rfl,W1,noR_cut G R (by omega)⟩
    . exact⟨w2,1,_,rfl,W2,.inl (by decide)⟩
    . exact⟨w3,2,_,rfl,W3,.inl (by decide)⟩
    . exact⟨w4,2,_,rfl,W4,.inl (by decide)⟩
   have T13:FeedAt H13 t (N+1):=T2.keep r2
   have B:OB H13 D ta ls ll n ts S L tys:=⟨hD,r2 _ _ hta2,TA2.keep fun b zs e=>r2 _ _ e,r2 _ _ hS2,r2 _ _ hL2,G,len,R,h3,hSl,hLl⟩
   have sD:=same_laid (o:=.lst [.ref w1,.ref w2,.ref w3,.ref w4]) hD
   refine⟨H13,D,ta,ts,tys,_,_,rfl,B,sD,upd_same,Nat.le_refl 4,gd.keep fun b zs e=>sD _ _ e,fun ys' H' sH hD' l5 gd'=>?_⟩
   refine⟨H13,D,ta,ts,tys,ys',_,rfl,B,sH,hD',l5,gd',fun v7 ys2 H9' sH2 hD2 l6 gd2=>?_⟩
   refine⟨_,rfl,k D ys2 H9' hD2 l6 gd2 (T13.keep sH2) (fun b o nb e=>sH2 _ _ (r2 _ _ (by rw[s2 b nb];exact s1 _ _ e))) (T13.ne hD)⟩
end
end K60
namespace K60
open PySem L2 WM
def tieT (t:T3):PyData:=.tuple ((tl t).map PyData.int)
def webPy (n:Int)(ts:List T3):PyData:=.tuple [.int n,.tuple (ts.map tieT)]
theorem sh_ints {H:Hp}:∀l:List Int,ShowsAll H (l.map V.int) (l.map PyData.int)
 | []=>.nil
 | _::r=>.cons (.int _) (sh_ints r)
theorem sh_ties {H:Hp}:∀{xs:List V}{ts:List T3},TupsAre H xs (ts.map tl)->ShowsAll H xs (ts.map tieT)
 | [],[],_=>.nil
 | [],_::_,h=>h.elim
 | _::_,[],h=>h.elim
 | x::xs,t::ts,h=>by
  obtain⟨⟨a,rfl,ha,_⟩,hr⟩:=h
  exact .cons (.tup ha (sh_ints _)) (sh_ties hr)
theorem sh_web {H:Hp}{wa:Addr}{n:Int}{ts:List T3}(W:WebAt H wa n ts):Shows H (.ref wa) (webPy n ts):=by
 obtain⟨ta,tys,h1,h2,h3,_⟩:=W
 exact .tup h1 (.cons (.int _) (.cons (.tup h2 (sh_ties h3)) .nil))
theorem web_fn {n:Int}{ts:List T3}(g:GW n ts):Fn 12034 3 (webPy n ts):=by
 have h1:=g.n1
 have h2:=g.n24
 have hl:=g.len
 have ht:Fn 6016 2 (.tuple (ts.map tieT)):=by
  refine (fn_tup (n:=93) (p:=1) (L:=64) (fun d hd=>?_) (by rw[List.length_map];omega)).mono (by decide) (by decide)
  obtain⟨t,ht,rfl⟩:=List.mem_map.mp hd
  obtain⟨r1,r2,r3,r4,r5⟩:=g.rng t ht
  refine (fn_tup (n:=30) (p:=0) (L:=3) (fun d hd=>?_) (by rw[List.length_map];exact Nat.le_refl 3)).mono (by decide) (by decide)
  obtain⟨i,hi,rfl⟩:=List.mem_map.mp hd
  have hi':i=t.1\/i=t.2.1\/i=t.2.2:=by simpa [tl] using hi
  exact fn_int (by omega)
 refine (fn_tup (n:=6016) (p:=2) (L:=2) (ds:=[.int n,.tuple (ts.map tieT)]) (fun d hd=>?_) (Nat.le_refl 2)).mono (by decide) (by decide)
 rcases List.mem_cons.mp hd with rfl | hd
 . exact (fn_int (by omega)).mono (by decide) (by decide)
 . rcases List.mem_cons.mp hd with rfl | hd
   . exact ht
   . cases hd
theorem labR_SV {H:Hp}{lp lq:Addr}{n:Nat}{r m:Nat->Int}{ts:List T3}(R:Ring ts n r m)(h24:n<=24)(a:LabR H lp n r m)(b:LabR H lq n r m):SV H 2 (.ref lp) (.ref lq):=by
 obtain⟨xs,ha,la,ga⟩:=a
 obtain⟨ys,hb,lb,gb⟩:=b
 refine⟨lp,lq,xs,ys,rfl,rfl,ha,hb,by omega,by omega,fun i x y hx hy=>?_⟩
 have hi:i<n:=by have:=(List.getElem?_eq_some_iff.mp hx).1;omega
 obtain⟨j,hj,ej⟩:=R.at (x:=(i:Int)) (by omega) (by omega)
 obtain⟨p,e1,h1⟩:=ga j hj
 obtain⟨q,e2,h2⟩:=gb j hj
 rw[ej,Int.toNat_natCast,hx] at e1
 rw[ej,Int.toNat_natCast,hy] at e2
 cases e1
 cases e2
 refine⟨p,q,_,_,rfl,rfl,h1,h2,rfl,by show 4<=24;decide,fun i x y hx hy=>?_⟩
 rw[hx] at hy
 cases hy
 have:=List.mem_of_getElem? hx
 unfold labR at this
 simp only[List.mem_cons,List.not_mem_nil,or_false] at this
 rcases this with rfl | rfl | rfl | rfl <;> exact⟨_,rfl,rfl⟩
def spLaw (K:PySem.W.Frag):Sp:=fun vs H Q _=>∃(a:Addr)(ns:List Int),vs=[.ref a]/\SqL K H a (ns.map V.int)/\ns.length<=63/\∀H',Q (.bl true) H'
section
variable {P:Program}{w:World}{K:PySem.W.Frag}{mg:Str->Option Value}{base:Heap}
theorem scLaw:FnScope ["_law_script", "_law_feed_here", "_law_k", "_law_seats", "_law_longs", "_law_web", "_law_kept", "_law_due_here", "_law_turn"] ["_law_script"] (defScope sLaw):=⟨rfl,rfl,rfl,by decide +kernel,rfl,by decide +kernel,by decide +kernel⟩
theorem ok_law {cW cR c1 c2 c3 c4 c5 c6 c7 c8 c9 c10 c11:Addr}{f fFe fTk fSa fRg fTi fWo fDu fOt fRf fTs fLo fBe fWh fJw fIr fGo fNr fRl:Addr}{fd' fdFe fdTk fdSa fdRg fdTi fdWo fdDu fdOt fdRf fdTs fdLo fdBe fdWh fdJw fdIr fdGo fdNr fdRl:FuncData}(F:Fun K "law" "law" sLaw f fd') (C:ErrR K mg cW cR [c1,c2,c3,c4,c5,c6,c7,c8,c9,c10,c11])
 (FFe:Fun K "_law_feed" "_law_feed" sFeed fFe fdFe) (bFe:Binds K fdFe ["_law_script"] []) (mFe:mg "_law_feed" = some (.ref fFe))
 (FTk:Fun K "_law_take" "_law_take" sTake fTk fdTk) (bTk:Binds K fdTk ["_law_feed_here", "_law_many"] []) (mTk:mg "_law_take" = some (.ref fTk))
 (FSa:Fun K "_law_same" "_law_same" sSame fSa fdSa) (bSa:Binds K fdSa ["_law_found", "_law_due_here"] []) (mSa:mg "_law_same" = some (.ref fSa))
 (FRg:Fun K "_law_ring" "_law_ring" sRing fRg fdRg) (bRg:Binds K fdRg ["_law_feed_here", "_law_most"] []) (mRg:mg "_law_ring" = some (.ref fRg))
 (FTi:Fun K "_law_tie" "_law_tie" sTie fTi fdTi) (bTi:Binds K fdTi ["_law_one", "_law_other", "_law_long"] []) (mTi:mg "_law_tie" = some (.ref fTi))
 (FWo:Fun K "_law_web_of" "_law_web_of" sWof fWo fdWo) (bWo:Binds K fdWo ["_law_seats", "_law_longs"] []) (mWo:mg "_law_web_of" = some (.ref fWo))
 (FDu:Fun K "_law_due" "_law_due" sDue fDu fdDu) (bDu:Binds K fdDu ["_law_seats", "_law_longs"] []) (mDu:mg "_law_due" = some (.ref fDu))
 (FOt:Fun K "_law_others" "_law_others" sOth fOt fdOt) (bOt:Binds K fdOt ["_law_feed_here", "_law_seats", "_law_longs"] []) (mOt:mg "_law_others" = some (.ref fOt))
 (FRf:Fun K "_law_refused" "_law_refused" sRef fRf fdRf) (bRf:Binds K fdRf ["_law_web"] []) (mRf:mg "_law_refused" = some (.ref fRf))
 (FTs:Fun K "ties_at" "ties_at" sTies fTs fdTs) (bTs:Binds K fdTs ["web", "place"] []) (mTs:mg "ties_at" = some (.ref fTs))
 (FLo:Fun K "long_of" "long_of" sLong fLo fdLo) (bLo:Binds K fdLo ["web", "one", "other"] []) (mLo:mg "long_of" = some (.ref fLo))
 (FBe:Fun K "beside" "beside" sBeside fBe fdBe) (bBe:Binds K fdBe ["web", "place"] []) (mBe:mg "beside" = some (.ref fBe))
 (FWh:Fun K "is_whole" "is_whole" sWhole fWh fdWh) (bWh:Binds K fdWh ["web"] []) (mWh:mg "is_whole" = some (.ref fWh))
 (FJw:Fun K "joined_within" "joined_within" sJw fJw fdJw) (bJw:Binds K fdJw ["web", "places", "start"] []) (mJw:mg "joined_within" = some (.ref fJw))
 (FIr:Fun K "is_ring" "is_ring" sIsR fIr fdIr) (bIr:Binds K fdIr ["web"] []) (mIr:mg "is_ring" = some (.ref fIr))
 (FGo:Fun K "going_round" "going_round" sGo fGo fdGo) (bGo:Binds K fdGo ["web"] []) (mGo:mg "going_round" = some (.ref fGo))
 (FNr:Fun K "next_round" "next_round" sNr fNr fdNr) (bNr:Binds K fdNr ["web", "back", "place"] []) (mNr:mg "next_round" = some (.ref fNr))
 (FRl:Fun K "ring_labels" "ring_labels" sRl fRl fdRl) (bRl:Binds K fdRl ["web"] []) (mRl:mg "ring_labels" = some (.ref fRl))
 (mLen:mg "len" = none) (mRange:mg "range" = none) (mTuple:mg "tuple" = none) (mSorted:mg "sorted" = none) (mList:mg "list" = none) (mInt:mg "int" = none) (mMin:mg "min" = none) (mMax:mg "max" = none) (mAll:mg "all" = none) (mSum:mg "sum" = none) (mEnum:mg "enumerate" = none) (mIsi:mg "isinstance" = none) (mBool:mg "bool" = none) (mZip:mg "zip" = none) (mRepr:mg "repr" = none) (mVal:mg "ValueError" = none):FnOk P w K mg base CX0 9 f fd' ["_law_script"] (spLaw K):=by
 have GFe:FnOk P w K mg base CX0 8 fFe fdFe ["_law_script"] (spFeed K):=(ok_feed FFe mInt).mono (by decide)
 have GRg:FnOk P w K mg base CX0 8 fRg fdRg ["_law_feed_here", "_law_most"] spRing:=(ok_ring FRg FTk bTk mTk mLen mRange mList).mono (by decide)
 have GWo2:FnOk P w K mg base CX0 2 fWo fdWo ["_law_seats", "_law_longs"] spWof:=ok_wof FWo FTi bTi mTi mLen mRange mTuple mSorted mMin mMax
 have GWo:FnOk P w K mg base CX0 8 fWo fdWo ["_law_seats", "_law_longs"] spWof:=GWo2.mono (by decide)
 have GBe:FnOk P w K mg base CX0 2 fBe fdBe ["web", "place"] spBeside:=ok_beside FBe FTs bTs mTs mSorted mTuple
 have GLo:FnOk P w K mg base CX0 2 fLo fdLo ["web", "one", "other"] spLong:=ok_long FLo FTs bTs mTs mSorted
 have GWh:FnOk P w K mg base CX0 4 fWh fdWh ["web"] spWhole:=ok_whole FWh FJw bJw mJw FBe bBe mBe FTs bTs mTs mSorted mTuple mLen mRange mList
 have GIr:FnOk P w K mg base CX0 5 fIr fdIr ["web"] spIsR:=ok_isR FIr FWh bWh mWh GWh FBe bBe mBe (GBe.mono (by decide)) mLen mRange mAll
 have GIn:FnOk P w K mg base CX0 5 fIr fdIr ["web"] spIsN:=ok_isN FIr FWh bWh mWh GWh FBe bBe mBe (GBe.mono (by decide)) mLen mRange mAll
 have GNr:FnOk P w K mg base CX0 5 fNr fdNr ["web", "back", "place"] spNr:=ok_nr FNr FBe bBe mBe (GBe.mono (by decide))
 have GGo:FnOk P w K mg base CX0 6 fGo fdGo ["web"] spGo:=ok_go FGo FBe bBe mBe (GBe.mono (by decide)) FNr bNr mNr GNr mLen
 have GRl:FnOk P w K mg base CX0 8 fRl fdRl ["web"] spRl:=(ok_rl FRl FIr bIr mIr (GIr.mono (by decide)) FGo bGo mGo GGo FLo bLo mLo (GLo.mono (by decide)) mLen mRange mTuple mSum mEnum).mono (by decide)
 have GRR:FnOk P w K mg base (CXO P w) 7 fRl fdRl ["web"] (spRlR cR):=ok_rlR FRl FIr bIr mIr (GIn.mono (by decide)) C.mR C.qR
 have GRf:FnOk P w K mg base CX0 8 fRf fdRf ["_law_web"] spRef:=ok_ref FRf FRl bRl mRl GRR C mIsi mVal
 have GDu:FnOk P w K mg base CX0 8 fDu fdDu ["_law_seats", "_law_longs"] spDue:=(ok_due FDu mLen mRange mTuple mSum).mono (by decide)
 have GS0:FnOk P w K mg base CX0 1 fSa fdSa ["_law_found", "_law_due_here"] (spSm 0):=ok_same0 FSa mIsi mTuple mList mBool
 have GS1:FnOk P w K mg base CX0 2 fSa fdSa ["_law_found", "_law_due_here"] (spSm 1):=ok_sameS FSa bSa mSa mIsi mTuple mList mLen mZip GS0
 have GSa:FnOk P w K mg base CX0 8 fSa fdSa ["_law_found", "_law_due_here"] (spSm 2):=(ok_sameS FSa bSa mSa mIsi mTuple mList mLen mZip GS1).mono (by decide)
 have GTi:FnOk P w K mg base CX0 2 fTi fdTi ["_law_one", "_law_other", "_law_long"] spTie:=(ok_tie FTi mMin mMax).mono (by decide)
 have GTk:FnOk P w K mg base CX0 2 fTk fdTk ["_law_feed_here", "_law_many"] spTake:=(ok_take FTk mLen).mono (by decide)
 have GOt:FnOk P w K mg base CX0 8 fOt fdOt ["_law_feed_here", "_law_seats", "_law_longs"] spOth:=(ok_oth FOt FWo bWo mWo GWo2 FTi bTi mTi GTi FTk bTk mTk GTk mLen mTuple mSorted).mono (by decide)
 refine F.ok scLaw (fun vs H Q E h=>?_) (fun cdv A outer s H vs Q E hr h=>?_)
 . obtain⟨a,ns,rfl,_⟩:=h
   rfl
 . obtain⟨a,ns,rfl,hS,hlen,k⟩:=h
   refine⟨_,pss_cons (ps_set (i:=1) scLaw.nd rfl (Or.inl rfl) (pe_call GFe hr rfl mFe FFe.kp bFe .nil pass0 (pa_cons (pv 0) pa_nil)))
    (pss_cons (ps_for PassesOwn.never rfl (pi_range1 rfl mRange (pa_cons pe_int pa_nil)) (pg_name (i:=2) scLaw.nd rfl (Or.inl rfl))
     (pss_cons (ps_asg (pe_call GRg hr rfl mRg FRg.kp bRg .nil pass0 (pa_cons (pv 1) (pa_cons pe_int pa_nil))) (pg_tup rfl (pgs_cons (pg_name (i:=3) scLaw.nd rfl (Or.inl rfl)) (pgs_cons (pg_name (i:=4) scLaw.nd rfl (Or.inl rfl)) pgs_nil))))
     (pss_cons (ps_set (i:=5) scLaw.nd rfl (Or.inl rfl) (pe_call GWo hr rfl mWo FWo.kp bWo .nil pass0 (pa_cons (pv 3) (pa_cons (pv 4) pa_nil))))
     (pss_cons (ps_set (i:=6) scLaw.nd rfl (Or.inl rfl) (pe_callB (call_repr hr) (by rfl) mRepr (by decide +kernel) (pa_cons (pv 5) pa_nil)))
     (pss_cons (ps_set (i:=7) scLaw.nd rfl (Or.inl rfl) (pe_call GDu hr rfl mDu FDu.kp bDu .nil pass0 (pa_cons (pv 3) (pa_cons (pv 4) pa_nil))))
     (pss_cons (ps_for PassesOwn.never rfl (pi_range1 rfl mRange (pa_cons pe_int pa_nil)) (pg_name (i:=8) scLaw.nd rfl (Or.inl rfl))
      (pss_one (ps_if (pt_not (pt_val (pe_call GSa hr rfl mSa FSa.kp bSa .nil pass0 (pa_cons (pe_call GRl hr rfl mRl FRl.kp bRl .nil pass0 (pa_cons (pv 5) pa_nil)) (pa_cons (pv 7) pa_nil))))) (pss_one (ps_ret pe_bl)) pss_nil)))
     (pss_cons (ps_if (pt_cmpR op_in_seq pe_bl (pe_comp (own:=["_law_other"]) (cn:=[]) (ci:=[]) rfl (csc rfl rfl) trivial rfl (pi_list (pe_call GOt hr rfl mOt FOt.kp bOt .nil pass0 (pa_cons (pv 1) (pa_cons (pv 3) (pa_cons (pv 4) pa_nil)))))
      (fun _ _ _ _=>pg_name (i:=0) (nd_of rfl) rfl (Or.inl rfl)) (fun _ _ _ _=>pts_nil) (fun _ _ _ _=>pe_call GRf hr rfl mRf FRf.kp bRf .nil pass0 (pa_cons (pv 0) pa_nil))) (by with_unfolding_all rfl)) (pss_one (ps_ret pe_bl)) pss_nil)
     (pss_one (ps_if (pt_cmpR op_ne (pe_callB (call_repr hr) (by rfl) mRepr (by decide +kernel) (pa_cons (pv 5) pa_nil)) (pv 6) (nomark _)) (pss_one (ps_ret pe_bl)) pss_nil)))))))))
    (pss_one (ps_ret pe_bl))),?_⟩
   refine⟨_,rfl,a,ns,rfl,hS,hlen,fun t H1 ht T1 s1=>?_⟩
   refine⟨3,rfl,by decide,by decide,for_range (lo:=0) (n:=3) (fun q σ H2=>∃v2 v3 v4 v5 v6 v7 v8:Option V,σ=[some (.ref a),some (.ref t),v2,v3,v4,v5,v6,v7,v8]/\FeedAt H2 t (101*q)) ⟨_,_,_,_,_,_,_,rfl,T1⟩ (fun q σ H2 hq z=>?_) (fun σ H2 z=>?_)⟩
   . obtain⟨v2,v3,v4,v5,v6,v7,v8,rfl,T2⟩:=z
     rw[Int.zero_add]
     refine⟨_,rfl,t,_,24,rfl,T2,by omega,by decide,by decide,fun p ls ll n S L H3 hp hls hll nls nll n3 n24 hS' hL hLb T3 s3=>?_⟩
     refine⟨p,_,rfl,SqT.of hp,rfl,_,_,rfl,_,_,rfl,rfl,?_⟩
     refine⟨_,rfl,_,rfl,ls,ll,n,S,L,rfl,hls,hll,n3,n24,hS',hL,hLb,fun wa ts H4 hwa0 W len R s4=>?_⟩
     obtain⟨ta,tys,hwa,_,_,G⟩:=id W
     have fw:Fn 1048576 50 (webPy n ts):=(web_fn G).mono (by decide) (by decide)
     refine⟨_,rfl,_,_,rfl,sh_web W,fw,?_⟩
     refine⟨_,rfl,_,rfl,ls,ll,n,S,L,rfl,s4 _ _ hls,s4 _ _ hll,n3,n24,hS',hL,hLb,fun lp r m H5 s5 due LB=>?_⟩
     obtain⟨R2,r0,r1⟩:=due ts R
     have W5:=W.keep s5
     have T5:=(T3.keep s4).keep s5
     refine⟨2,rfl,by decide,by decide,for_range (lo:=0) (n:=2) (fun x σ H7=>∃v8:Option V,σ=[some (.ref a),some (.ref t),some (.int q),some (.ref ls),some (.ref ll),some (.ref wa),some (.str (webPy n ts).shown),some (.ref lp),v8]/\Same H5 H7) ⟨_,rfl,Same.refl _⟩ (fun x σ H7 hx z=>?_) (fun σ H7 z=>?_)⟩
     . obtain⟨v8,rfl,s7⟩:=z
       rw[Int.zero_add]
       refine⟨_,rfl,wa,n,ts,r,m,rfl,W5.keep s7,R2,r0,r1,fun lq H8 s8 LQ=>?_⟩
       refine⟨_,rfl,_,_,rfl,labR_SV R2 n24 LQ ((LB.same s7).same s8),fun H9 s9=>?_⟩
       exact⟨_,rfl,iteF ⟨_,rfl,(s7.trans s8).trans s9⟩⟩
     . obtain⟨v8,rfl,s7⟩:=z
       have T7:=T5.keep s7
       have W7:=W5.keep s7
       refine⟨_,rfl,_,rfl,_,rfl,t,_,ls,ll,n,S,L,rfl,T7,by omega,s7 _ _ (s5 _ _ (s4 _ _ hls)),s7 _ _ (s5 _ _ (s4 _ _ hll)),nls,nll,n3,n24,hS',hL,hLb,fun D ys H8 hD8 l6 gd T8 s8 nD=>?_⟩
       obtain⟨p0,ns0,sp0,rs0,ht0,_⟩:=id T7
       have W8:WebAt H8 wa n ts:=W7.keepT fun b zs e=>s8 b _ (ne_of e ht0 (by intro z;cases z)) e
       refine⟨D,rfl,⟨_,SqL.of hD8⟩,[],rfl,fun D2 hD2=>?_⟩
       refine comp_list (a:=D) (xs:=ys) (fun i zs H9=>i<=ys.length/\zs=List.replicate i (V.bl true)/\Same H8 H9/\H9 D2=some (.lst zs)) ⟨Nat.zero_le _,rfl,same_laid hD2,upd_same⟩ (fun i zs H9 z=>SqL.of (z.2.2.1 _ _ hD8)) (fun i zs H9 z=>?_) (fun i y zs H9 hy z=>?_) (fun zs H9 z=>?_)
       . obtain⟨hi,rfl,_⟩:=z
         rw[List.length_replicate]
         exact small_line (by omega)
       . obtain⟨hi,rfl,s9,hD9⟩:=z
         obtain⟨wb,kb,tb,rfl,Wb,NR⟩:=gd y (List.mem_of_getElem? hy)
         refine⟨⟨rfl,rfl⟩,?_⟩
         refine tyes ?_
         refine⟨_,rfl,wb,kb,tb,rfl,Wb.keep s9,NR,fun H10 s10=>?_⟩
         refine⟨s10 _ _ hD9,(List.getElem?_eq_some_iff.mp hy).1,?_,same_chg (s9.trans s10) hD2,upd_same⟩
         rw[List.replicate_succ']
       . obtain⟨_,rfl,s9,hD9⟩:=z
         refine⟨D2,_,rfl,.inl (SqL.of hD9),rfl,(all_yes _).1,?_⟩
         rw[(all_yes _).2]
         refine⟨_,rfl,ifF rfl ?_⟩
         refine⟨_,rfl,_,_,rfl,sh_web (W8.keep s9),fw,?_⟩
         refine⟨_,rfl,rfl,_,rfl,ifF (by simp) ?_⟩
         exact⟨_,_,_,_,_,_,_,rfl,(T8.keep s9).mono (by omega)⟩
   . obtain⟨v2,v3,v4,v5,v6,v7,v8,rfl,T2⟩:=z
     exact k _
end
end K60
namespace K60
open PySem L2 WM
abbrev sT:String->Str:=Str.ofString
abbrev kH:=PyData.keyHash
abbrev dE:=DictEntry.mk
abbrev vS:=Value.str
abbrev vI:=Value.int
abbrev vR:=Value.ref
abbrev vB:=Value.bool
abbrev vN:Value:=Value.none
abbrev vT:=Value.type
abbrev oM:=Obj.mk
abbrev cQ (x:Array Value):Obj:=oM (vT "code") .none (.fields x) #[]
abbrev fQ (x:FuncData):Obj:=oM (vT "function") .none (.func x) #[]
abbrev fT (x:String)(i:Nat)(m:Value)(c:Nat):Obj:=fQ (.mk (sT x) (sT x) (L2.defArgs (top i)) (FuncBody.stmts (L2.defBody (top i))) (L2.defScope (top i)) 3 [] vN vN vN m .none (vR c) vN 0)
abbrev qS (x:String)(n:Nat):Value:=vS (sT x) n
abbrev kE (P:Params)(x:String)(n:Nat):Value->DictEntry:=dE (kH P (sT x)) (qS x n)
def Kf:Params->PySem.W.Frag:=fun P=>[
(2,oM vN .none (Data.dict #[]) #[]),
(3,oM (vT "dict") .none (Data.dict #[kE P "__name__" 165 (qS "law_labelways_k60_ring_labels" 521),kE P "__doc__" 166 vN,kE P "__package__" 167 vN,kE P "__loader__" 168 (Value.builtin "__main__.__loader__#opaque"),kE P "__spec__" 169 vN,kE P "__annotations__" 170 (vR 6),kE P "__builtins__" 171 (vR 4),kE P "__file__" 173 (qS "/claim/cut.py" 172),kE P "__cached__" 174 vN,kE P "WayError" 206 (vR 24),kE P "NoLabels" 233 (vR 44),kE P "NoLeast" 260 (vR 63),kE P "NoPlan" 287 (vR 82),kE P "NoText" 314 (vR 101),kE P "NoOrder" 330 (vR 113),kE P "NoTree" 346 (vR 125),kE P "NoRing" 362 (vR 137),kE P "NoPosts" 378 (vR 149),kE P "NoTie" 394 (vR 161),kE P "NoPart" 410 (vR 173),kE P "NoRow" 426 (vR 185),kE P "TooMany" 442 (vR 197),kE P "ties_at" 456 (vR 206),kE P "long_of" 467 (vR 213),kE P "beside" 473 (vR 218),kE P "is_whole" 480 (vR 225),kE P "joined_within" 492 (vR 232),kE P "is_ring" 500 (vR 237),kE P "going_round" 508 (vR 244),kE P "next_round" 514 (vR 249),kE P "ring_labels" 520 (vR 254),kE P "_law_feed" 529 (vR 261),kE P "_law_take" 541 (vR 268),kE P "_law_same" 547 (vR 273),kE P "_law_ring" 553 (vR 278),kE P "_law_tie" 562 (vR 285),kE P "_law_web_of" 568 (vR 290),kE P "_law_due" 574 (vR 295),kE P "_law_others" 588 (vR 302),kE P "_law_refused" 597 (vR 309),kE P "law" 603 (vR 314)] 41) #[]),
(23,oM (vT "dict") .none (Data.dict #[kE P "__module__" 196 (qS "labelways.errors" 187),kE P "__firstlineno__" 200 (vI 2 199),kE P "__static_attributes__" 201 (vR 22),kE P "__weakref__" 203 (vR 25),kE P "__doc__" 204 vN] 3) #[]),
(24,oM (vT "type") .none (Data.cls (ClassData.mk (sT "WayError") [vT "ValueError"] [vR 24,vT "ValueError",vT "Exception",vT "BaseException",vT "object"] 23 (sT "WayError") true [] [vR 44,vR 63,vR 82,vR 101,vR 113,vR 125,vR 137,vR 149,vR 161,vR 173,vR 185,vR 197] false .none false)) #[.some (vR 15),.none,.some (qS "WayError" 189),.some (qS "WayError" 197),.some (Value.builtin "ValueError.__new__"),.some (vB true)]),
(25,oM (vT "getset_descriptor") .none (Data.fields #[qS "__weakref__" 202,vR 24,Value.builtin "ExceptionGroup.__weakref__",vN]) #[]),
(40,cQ #[qS "__init__" 219,qS "NoLabels.__init__" 220,qS "/claim/cut.py" 221,vI 6 0,vI 3 0,vI 0 0,vI 0 0,vI 3 0,vR 35,vB true,vI 181 0,vR 36,vN,vR 37,vR 38,vR 39,vI 225 0,vI 6 0,qS "/claim/cut.py" 226]),
(41,fQ (.mk (sT "__init__") (sT "NoLabels.__init__") (Arguments.mk [] [Arg.mk (sT "self") .none (Pos.mk 6 17 6 21),Arg.mk (sT "word") .none (Pos.mk 6 23 6 27),Arg.mk (sT "at") .none (Pos.mk 6 29 6 31)] .none [] [] .none []) (FuncBody.stmts [Stmt.Assign [Expr.Attribute (Expr.Name (sT "self") (Pos.mk 7 8 7 12)) (sT "word") (Pos.mk 7 8 7 17)] (Expr.Name (sT "word") (Pos.mk 7 20 7 24)) (Pos.mk 7 8 7 24),Stmt.Assign [Expr.Attribute (Expr.Name (sT "self") (Pos.mk 8 8 8 12)) (sT "at") (Pos.mk 8 8 8 15)] (Expr.Name (sT "at") (Pos.mk 8 18 8 20)) (Pos.mk 8 8 8 20)]) (Scope.mk ScopeKind.function [(sT "self",NameKind.local),(sT "word",NameKind.local),(sT "at",NameKind.local)] false false []) 3 [] vN vN vN (qS "labelways.errors" 187) .none (vR 40) vN 0)),
(43,oM (vT "dict") .none (Data.dict #[kE P "__module__" 214 (qS "labelways.errors" 187),kE P "__firstlineno__" 218 (vI 4 217),kE P "__init__" 227 (vR 41),kE P "__static_attributes__" 230 (vR 42),kE P "__doc__" 231 vN] 2) #[]),
(44,oM (vT "type") .none (Data.cls (ClassData.mk (sT "NoLabels") [vR 24] [vR 44,vR 24,vT "ValueError",vT "Exception",vT "BaseException",vT "object"] 43 (sT "NoLabels") true [] [] false .none false)) #[.some (vR 28),.none,.some (qS "NoLabels" 207),.some (qS "NoLabels" 215),.some (Value.builtin "ValueError.__new__"),.some (vB true)]),
(59,cQ #[qS "__init__" 246,qS "NoLeast.__init__" 247,qS "/claim/cut.py" 248,vI 11 0,vI 3 0,vI 0 0,vI 0 0,vI 3 0,vR 54,vB true,vI 181 0,vR 55,vN,vR 56,vR 57,vR 58,vI 252 0,vI 11 0,qS "/claim/cut.py" 253]),
(60,fQ (.mk (sT "__init__") (sT "NoLeast.__init__") (Arguments.mk [] [Arg.mk (sT "self") .none (Pos.mk 11 17 11 21),Arg.mk (sT "word") .none (Pos.mk 11 23 11 27),Arg.mk (sT "at") .none (Pos.mk 11 29 11 31)] .none [] [] .none []) (FuncBody.stmts [Stmt.Assign [Expr.Attribute (Expr.Name (sT "self") (Pos.mk 12 8 12 12)) (sT "word") (Pos.mk 12 8 12 17)] (Expr.Name (sT "word") (Pos.mk 12 20 12 24)) (Pos.mk 12 8 12 24),Stmt.Assign [Expr.Attribute (Expr.Name (sT "self") (Pos.mk 13 8 13 12)) (sT "at") (Pos.mk 13 8 13 15)] (Expr.Name (sT "at") (Pos.mk 13 18 13 20)) (Pos.mk 13 8 13 20)]) (Scope.mk ScopeKind.function [(sT "self",NameKind.local),(sT "word",NameKind.local),(sT "at",NameKind.local)] false false []) 3 [] vN vN vN (qS "labelways.errors" 187) .none (vR 59) vN 0)),
(62,oM (vT "dict") .none (Data.dict #[kE P "__module__" 241 (qS "labelways.errors" 187),kE P "__firstlineno__" 245 (vI 9 244),kE P "__init__" 254 (vR 60),kE P "__static_attributes__" 257 (vR 61),kE P "__doc__" 258 vN] 2) #[]),
(63,oM (vT "type") .none (Data.cls (ClassData.mk (sT "NoLeast") [vR 24] [vR 63,vR 24,vT "ValueError",vT "Exception",vT "BaseException",vT "object"] 62 (sT "NoLeast") true [] [] false .none false)) #[.some (vR 47),.none,.some (qS "NoLeast" 234),.some (qS "NoLeast" 242),.some (Value.builtin "ValueError.__new__"),.some (vB true)]),
(78,cQ #[qS "__init__" 273,qS "NoPlan.__init__" 274,qS "/claim/cut.py" 275,vI 16 0,vI 3 0,vI 0 0,vI 0 0,vI 3 0,vR 73,vB true,vI 181 0,vR 74,vN,vR 75,vR 76,vR 77,vI 279 0,vI 16 0,qS "/claim/cut.py" 280]),
(79,fQ (.mk (sT "__init__") (sT "NoPlan.__init__") (Arguments.mk [] [Arg.mk (sT "self") .none (Pos.mk 16 17 16 21),Arg.mk (sT "word") .none (Pos.mk 16 23 16 27),Arg.mk (sT "at") .none (Pos.mk 16 29 16 31)] .none [] [] .none []) (FuncBody.stmts [Stmt.Assign [Expr.Attribute (Expr.Name (sT "self") (Pos.mk 17 8 17 12)) (sT "word") (Pos.mk 17 8 17 17)] (Expr.Name (sT "word") (Pos.mk 17 20 17 24)) (Pos.mk 17 8 17 24),Stmt.Assign [Expr.Attribute (Expr.Name (sT "self") (Pos.mk 18 8 18 12)) (sT "at") (Pos.mk 18 8 18 15)] (Expr.Name (sT "at") (Pos.mk 18 18 18 20)) (Pos.mk 18 8 18 20)]) (Scope.mk ScopeKind.function [(sT "self",NameKind.local),(sT "word",NameKind.local),(sT "at",NameKind.local)] false false []) 3 [] vN vN vN (qS "labelways.errors" 187) .none (vR 78) vN 0)),
(81,oM (vT "dict") .none (Data.dict #[kE P "__module__" 268 (qS "labelways.errors" 187),kE P "__firstlineno__" 272 (vI 14 271),kE P "__init__" 281 (vR 79),kE P "__static_attributes__" 284 (vR 80),kE P "__doc__" 285 vN] 2) #[]),
(82,oM (vT "type") .none (Data.cls (ClassData.mk (sT "NoPlan") [vR 24] [vR 82,vR 24,vT "ValueError",vT "Exception",vT "BaseException",vT "object"] 81 (sT "NoPlan") true [] [] false .none false)) #[.some (vR 66),.none,.some (qS "NoPlan" 261),.some (qS "NoPlan" 269),.some (Value.builtin "ValueError.__new__"),.some (vB true)]),
(97,cQ #[qS "__init__" 300,qS "NoText.__init__" 301,qS "/claim/cut.py" 302,vI 21 0,vI 3 0,vI 0 0,vI 0 0,vI 3 0,vR 92,vB true,vI 181 0,vR 93,vN,vR 94,vR 95,vR 96,vI 306 0,vI 21 0,qS "/claim/cut.py" 307]),
(98,fQ (.mk (sT "__init__") (sT "NoText.__init__") (Arguments.mk [] [Arg.mk (sT "self") .none (Pos.mk 21 17 21 21),Arg.mk (sT "line") .none (Pos.mk 21 23 21 27),Arg.mk (sT "word") .none (Pos.mk 21 29 21 33)] .none [] [] .none []) (FuncBody.stmts [Stmt.Assign [Expr.Attribute (Expr.Name (sT "self") (Pos.mk 22 8 22 12)) (sT "line") (Pos.mk 22 8 22 17)] (Expr.Name (sT "line") (Pos.mk 22 20 22 24)) (Pos.mk 22 8 22 24),Stmt.Assign [Expr.Attribute (Expr.Name (sT "self") (Pos.mk 23 8 23 12)) (sT "word") (Pos.mk 23 8 23 17)] (Expr.Name (sT "word") (Pos.mk 23 20 23 24)) (Pos.mk 23 8 23 24)]) (Scope.mk ScopeKind.function [(sT "self",NameKind.local),(sT "line",NameKind.local),(sT "word",NameKind.local)] false false []) 3 [] vN vN vN (qS "labelways.errors" 187) .none (vR 97) vN 0)),
(100,oM (vT "dict") .none (Data.dict #[kE P "__module__" 295 (qS "labelways.errors" 187),kE P "__firstlineno__" 299 (vI 19 298),kE P "__init__" 308 (vR 98),kE P "__static_attributes__" 311 (vR 99),kE P "__doc__" 312 vN] 2) #[]),
(101,oM (vT "type") .none (Data.cls (ClassData.mk (sT "NoText") [vR 24] [vR 101,vR 24,vT "ValueError",vT "Exception",vT "BaseException",vT "object"] 100 (sT "NoText") true [] [] false .none false)) #[.some (vR 85),.none,.some (qS "NoText" 288),.some (qS "NoText" 296),.some (Value.builtin "ValueError.__new__"),.some (vB true)]),
(112,oM (vT "dict") .none (Data.dict #[kE P "__module__" 322 (qS "labelways.errors" 187),kE P "__firstlineno__" 326 (vI 24 325),kE P "__static_attributes__" 327 (vR 111),kE P "__doc__" 328 vN] 2) #[]),
(113,oM (vT "type") .none (Data.cls (ClassData.mk (sT "NoOrder") [vR 24] [vR 113,vR 24,vT "ValueError",vT "Exception",vT "BaseException",vT "object"] 112 (sT "NoOrder") true [] [] false .none false)) #[.some (vR 104),.none,.some (qS "NoOrder" 315),.some (qS "NoOrder" 323),.some (Value.builtin "ValueError.__new__"),.some (vB true)]),
(124,oM (vT "dict") .none (Data.dict #[kE P "__module__" 338 (qS "labelways.errors" 187),kE P "__firstlineno__" 342 (vI 26 341),kE P "__static_attributes__" 343 (vR 123),kE P "__doc__" 344 vN] 2) #[]),
(125,oM (vT "type") .none (Data.cls (ClassData.mk (sT "NoTree") [vR 24] [vR 125,vR 24,vT "ValueError",vT "Exception",vT "BaseException",vT "object"] 124 (sT "NoTree") true [] [] false .none false)) #[.some (vR 116),.none,.some (qS "NoTree" 331),.some (qS "NoTree" 339),.some (Value.builtin "ValueError.__new__"),.some (vB true)]),
(136,oM (vT "dict") .none (Data.dict #[kE P "__module__" 354 (qS "labelways.errors" 187),kE P "__firstlineno__" 358 (vI 28 357),kE P "__static_attributes__" 359 (vR 135),kE P "__doc__" 360 vN] 2) #[]),
(137,oM (vT "type") .none (Data.cls (ClassData.mk (sT "NoRing") [vR 24] [vR 137,vR 24,vT "ValueError",vT "Exception",vT "BaseException",vT "object"] 136 (sT "NoRing") true [] [] false .none false)) #[.some (vR 128),.none,.some (qS "NoRing" 347),.some (qS "NoRing" 355),.some (Value.builtin "ValueError.__new__"),.some (vB true)]),
(148,oM (vT "dict") .none (Data.dict #[kE P "__module__" 370 (qS "labelways.errors" 187),kE P "__firstlineno__" 374 (vI 30 373),kE P "__static_attributes__" 375 (vR 147),kE P "__doc__" 376 vN] 2) #[]),
(149,oM (vT "type") .none (Data.cls (ClassData.mk (sT "NoPosts") [vR 24] [vR 149,vR 24,vT "ValueError",vT "Exception",vT "BaseException",vT "object"] 148 (sT "NoPosts") true [] [] false .none false)) #[.some (vR 140),.none,.some (qS "NoPosts" 363),.some (qS "NoPosts" 371),.some (Value.builtin "ValueError.__new__"),.some (vB true)]),
(160,oM (vT "dict") .none (Data.dict #[kE P "__module__" 386 (qS "labelways.errors" 187),kE P "__firstlineno__" 390 (vI 32 389),kE P "__static_attributes__" 391 (vR 159),kE P "__doc__" 392 vN] 2) #[]),
(161,oM (vT "type") .none (Data.cls (ClassData.mk (sT "NoTie") [vR 24] [vR 161,vR 24,vT "ValueError",vT "Exception",vT "BaseException",vT "object"] 160 (sT "NoTie") true [] [] false .none false)) #[.some (vR 152),.none,.some (qS "NoTie" 379),.some (qS "NoTie" 387),.some (Value.builtin "ValueError.__new__"),.some (vB true)]),
(172,oM (vT "dict") .none (Data.dict #[kE P "__module__" 402 (qS "labelways.errors" 187),kE P "__firstlineno__" 406 (vI 34 405),kE P "__static_attributes__" 407 (vR 171),kE P "__doc__" 408 vN] 2) #[]),
(173,oM (vT "type") .none (Data.cls (ClassData.mk (sT "NoPart") [vR 24] [vR 173,vR 24,vT "ValueError",vT "Exception",vT "BaseException",vT "object"] 172 (sT "NoPart") true [] [] false .none false)) #[.some (vR 164),.none,.some (qS "NoPart" 395),.some (qS "NoPart" 403),.some (Value.builtin "ValueError.__new__"),.some (vB true)]),
(184,oM (vT "dict") .none (Data.dict #[kE P "__module__" 418 (qS "labelways.errors" 187),kE P "__firstlineno__" 422 (vI 36 421),kE P "__static_attributes__" 423 (vR 183),kE P "__doc__" 424 vN] 2) #[]),
(185,oM (vT "type") .none (Data.cls (ClassData.mk (sT "NoRow") [vR 24] [vR 185,vR 24,vT "ValueError",vT "Exception",vT "BaseException",vT "object"] 184 (sT "NoRow") true [] [] false .none false)) #[.some (vR 176),.none,.some (qS "NoRow" 411),.some (qS "NoRow" 419),.some (Value.builtin "ValueError.__new__"),.some (vB true)]),
(196,oM (vT "dict") .none (Data.dict #[kE P "__module__" 434 (qS "labelways.errors" 187),kE P "__firstlineno__" 438 (vI 38 437),kE P "__static_attributes__" 439 (vR 195),kE P "__doc__" 440 vN] 2) #[]),
(197,oM (vT "type") .none (Data.cls (ClassData.mk (sT "TooMany") [vR 24] [vR 197,vR 24,vT "ValueError",vT "Exception",vT "BaseException",vT "object"] 196 (sT "TooMany") true [] [] false .none false)) #[.some (vR 188),.none,.some (qS "TooMany" 427),.some (qS "TooMany" 435),.some (Value.builtin "ValueError.__new__"),.some (vB true)]),
(205,cQ #[qS "ties_at" 445,qS "ties_at" 446,qS "/claim/cut.py" 447,vI 41 0,vI 2 0,vI 0 0,vI 0 0,vI 3 0,vR 200,vB true,vI 181 0,vR 201,vN,vR 202,vR 203,vR 204,vI 454 0,vI 41 0,qS "/claim/cut.py" 455]),
(206,fQ (.mk (sT "ties_at") (sT "ties_at") (L2.defArgs (top 15)) (FuncBody.stmts (L2.defBody (top 15))) (L2.defScope (top 15)) 3 [] vN vN vN (qS "labelways.webs" 443) .none (vR 205) vN 0)),
(212,cQ #[qS "long_of" 457,qS "long_of" 458,qS "/claim/cut.py" 459,vI 49 0,vI 3 0,vI 0 0,vI 0 0,vI 3 0,vR 207,vB true,vI 181 0,vR 208,vN,vR 209,vR 210,vR 211,vI 465 0,vI 49 0,qS "/claim/cut.py" 466]),
(213,fQ (.mk (sT "long_of") (sT "long_of") (L2.defArgs (top 16)) (FuncBody.stmts (L2.defBody (top 16))) (L2.defScope (top 16)) 3 [] vN vN vN (qS "labelways.webs" 443) .none (vR 212) vN 0)),
(217,cQ #[qS "beside" 468,qS "beside" 469,qS "/claim/cut.py" 470,vI 54 0,vI 2 0,vI 0 0,vI 0 0,vI 3 0,vR 214,vB true,vI 181 0,vR 215,vN,vN,vN,vR 216,vI 471 0,vI 54 0,qS "/claim/cut.py" 472]),
(218,fQ (.mk (sT "beside") (sT "beside") (L2.defArgs (top 17)) (FuncBody.stmts (L2.defBody (top 17))) (L2.defScope (top 17)) 3 [] vN vN vN (qS "labelways.webs" 443) .none (vR 217) vN 0)),
(224,cQ #[qS "is_whole" 474,qS "is_whole" 475,qS "/claim/cut.py" 476,vI 56 0,vI 1 0,vI 0 0,vI 0 0,vI 3 0,vR 219,vB true,vI 181 0,vR 220,vN,vR 221,vR 222,vR 223,vI 478 0,vI 56 0,qS "/claim/cut.py" 479]),
(225,fQ (.mk (sT "is_whole") (sT "is_whole") (L2.defArgs (top 18)) (FuncBody.stmts (L2.defBody (top 18))) (L2.defScope (top 18)) 3 [] vN vN vN (qS "labelways.webs" 443) .none (vR 224) vN 0)),
(231,cQ #[qS "joined_within" 481,qS "joined_within" 482,qS "/claim/cut.py" 483,vI 58 0,vI 3 0,vI 0 0,vI 0 0,vI 3 0,vR 226,vB true,vI 181 0,vR 227,vN,vR 228,vR 229,vR 230,vI 490 0,vI 58 0,qS "/claim/cut.py" 491]),
(232,fQ (.mk (sT "joined_within") (sT "joined_within") (L2.defArgs (top 19)) (FuncBody.stmts (L2.defBody (top 19))) (L2.defScope (top 19)) 3 [] vN vN vN (qS "labelways.webs" 443) .none (vR 231) vN 0)),
(236,cQ #[qS "is_ring" 495,qS "is_ring" 496,qS "/claim/cut.py" 497,vI 68 0,vI 1 0,vI 0 0,vI 0 0,vI 3 0,vR 233,vB true,vI 181 0,vR 234,vN,vN,vN,vR 235,vI 498 0,vI 68 0,qS "/claim/cut.py" 499]),
(237,fQ (.mk (sT "is_ring") (sT "is_ring") (L2.defArgs (top 21)) (FuncBody.stmts (L2.defBody (top 21))) (L2.defScope (top 21)) 3 [] vN vN vN (qS "labelways.rings" 493) .none (vR 236) vN 0)),
(243,cQ #[qS "going_round" 501,qS "going_round" 502,qS "/claim/cut.py" 503,vI 72 0,vI 1 0,vI 0 0,vI 0 0,vI 3 0,vR 238,vB true,vI 181 0,vR 239,vN,vR 240,vR 241,vR 242,vI 506 0,vI 72 0,qS "/claim/cut.py" 507]),
(244,fQ (.mk (sT "going_round") (sT "going_round") (L2.defArgs (top 22)) (FuncBody.stmts (L2.defBody (top 22))) (L2.defScope (top 22)) 3 [] vN vN vN (qS "labelways.rings" 493) .none (vR 243) vN 0)),
(248,cQ #[qS "next_round" 509,qS "next_round" 510,qS "/claim/cut.py" 511,vI 77 0,vI 3 0,vI 0 0,vI 0 0,vI 3 0,vR 245,vB true,vI 181 0,vR 246,vN,vN,vN,vR 247,vI 512 0,vI 77 0,qS "/claim/cut.py" 513]),
(249,fQ (.mk (sT "next_round") (sT "next_round") (L2.defArgs (top 23)) (FuncBody.stmts (L2.defBody (top 23))) (L2.defScope (top 23)) 3 [] vN vN vN (qS "labelways.rings" 493) .none (vR 248) vN 0)),
(253,cQ #[qS "ring_labels" 515,qS "ring_labels" 516,qS "/claim/cut.py" 517,vI 79 0,vI 1 0,vI 0 0,vI 0 0,vI 3 0,vR 250,vB true,vI 181 0,vR 251,vN,vN,vN,vR 252,vI 518 0,vI 79 0,qS "/claim/cut.py" 519]),
(254,fQ (.mk (sT "ring_labels") (sT "ring_labels") (L2.defArgs (top 24)) (FuncBody.stmts (L2.defBody (top 24))) (L2.defScope (top 24)) 3 [] vN vN vN (qS "labelways.rings" 493) .none (vR 253) vN 0)),
(260,cQ #[qS "_law_feed" 523,qS "_law_feed" 524,qS "/claim/cut.py" 525,vI 92 0,vI 1 0,vI 0 0,vI 0 0,vI 3 0,vR 255,vB true,vI 181 0,vR 256,vN,vR 257,vR 258,vR 259,vI 527 0,vI 92 0,qS "/claim/cut.py" 528]),
(261,fT "_law_feed" 26 (qS "law_labelways_k60_ring_labels" 521) 260),
(267,cQ #[qS "_law_take" 530,qS "_law_take" 531,qS "/claim/cut.py" 532,vI 94 0,vI 2 0,vI 0 0,vI 0 0,vI 3 0,vR 262,vB true,vI 181 0,vR 263,vN,vR 264,vR 265,vR 266,vI 539 0,vI 94 0,qS "/claim/cut.py" 540]),
(268,fT "_law_take" 27 (qS "law_labelways_k60_ring_labels" 521) 267),
(272,cQ #[qS "_law_same" 542,qS "_law_same" 543,qS "/claim/cut.py" 544,vI 108 0,vI 2 0,vI 0 0,vI 0 0,vI 3 0,vR 269,vB true,vI 181 0,vR 270,vN,vN,vN,vR 271,vI 545 0,vI 108 0,qS "/claim/cut.py" 546]),
(273,fT "_law_same" 28 (qS "law_labelways_k60_ring_labels" 521) 272),
(277,cQ #[qS "_law_ring" 548,qS "_law_ring" 549,qS "/claim/cut.py" 550,vI 116 0,vI 2 0,vI 0 0,vI 0 0,vI 3 0,vR 274,vB true,vI 181 0,vR 275,vN,vN,vN,vR 276,vI 551 0,vI 116 0,qS "/claim/cut.py" 552]),
(278,fT "_law_ring" 29 (qS "law_labelways_k60_ring_labels" 521) 277),
(284,cQ #[qS "_law_tie" 554,qS "_law_tie" 555,qS "/claim/cut.py" 556,vI 126 0,vI 3 0,vI 0 0,vI 0 0,vI 3 0,vR 279,vB true,vI 181 0,vR 280,vN,vR 281,vR 282,vR 283,vI 560 0,vI 126 0,qS "/claim/cut.py" 561]),
(285,fT "_law_tie" 30 (qS "law_labelways_k60_ring_labels" 521) 284),
(289,cQ #[qS "_law_web_of" 563,qS "_law_web_of" 564,qS "/claim/cut.py" 565,vI 128 0,vI 2 0,vI 0 0,vI 0 0,vI 3 0,vR 286,vB true,vI 181 0,vR 287,vN,vN,vN,vR 288,vI 566 0,vI 128 0,qS "/claim/cut.py" 567]),
(290,fT "_law_web_of" 31 (qS "law_labelways_k60_ring_labels" 521) 289),
(294,cQ #[qS "_law_due" 569,qS "_law_due" 570,qS "/claim/cut.py" 571,vI 132 0,vI 2 0,vI 0 0,vI 0 0,vI 3 0,vR 291,vB true,vI 181 0,vR 292,vN,vN,vN,vR 293,vI 572 0,vI 132 0,qS "/claim/cut.py" 573]),
(295,fT "_law_due" 32 (qS "law_labelways_k60_ring_labels" 521) 294),
(301,cQ #[qS "_law_others" 575,qS "_law_others" 576,qS "/claim/cut.py" 577,vI 144 0,vI 3 0,vI 0 0,vI 0 0,vI 3 0,vR 296,vB true,vI 181 0,vR 297,vN,vR 298,vR 299,vR 300,vI 586 0,vI 144 0,qS "/claim/cut.py" 587]),
(302,fT "_law_others" 33 (qS "law_labelways_k60_ring_labels" 521) 301),
(308,cQ #[qS "_law_refused" 589,qS "_law_refused" 590,qS "/claim/cut.py" 591,vI 154 0,vI 1 0,vI 0 0,vI 0 0,vI 3 0,vR 303,vB true,vI 181 0,vR 304,vN,vR 305,vR 306,vR 307,vI 595 0,vI 154 0,qS "/claim/cut.py" 596]),
(309,fT "_law_refused" 34 (qS "law_labelways_k60_ring_labels" 521) 308),
(313,cQ #[qS "law" 598,qS "law" 599,qS "/claim/cut.py" 600,vI 163 0,vI 1 0,vI 0 0,vI 0 0,vI 3 0,vR 310,vB true,vI 181 0,vR 311,vN,vN,vN,vR 312,vI 601 0,vI 163 0,qS "/claim/cut.py" 602]),
(314,fT "law" 35 (qS "law_labelways_k60_ring_labels" 521) 313)]
def Ka:List Addr:=[2,3,23,24,25,40,41,43,44,59,60,62,63,78,79,81,82,97,98,100,101,112,113,124,125,136,137,148,149,160,161,172,173,184,185,196,197,205,206,212,213,217,218,224,225,231,232,236,237,243,244,248,249,253,254,260,261,267,268,272,273,277,278,284,285,289,290,294,295,301,302,308,309,313,314]
theorem usl1:∀{us:List Value},us.length=1->∃u0,us=[u0]
 | [u0],_=>⟨u0,rfl⟩
theorem usl2:∀{us:List Value},us.length=2->∃u0 u1,us=[u0,u1]
 | [u0,u1],_=>⟨u0,u1,rfl⟩
theorem usl3:∀{us:List Value},us.length=3->∃u0 u1 u2,us=[u0,u1,u2]
 | [u0,u1,u2],_=>⟨u0,u1,u2,rfl⟩
theorem walk {l:PySem.W.OpenLaw}{q:Program}{loose:List Str}{XP:(Str->Option Value)->Heap->Prop}{YP:World->Heap->Prop}{d:DefRec}{K:Params->PySem.W.Frag}(hn:l.most=some 63)(hdf:d.params.defaults=[])
 (hY:∀(w:World)(h:Heap),YP w h->(K w.params).In h)
 (F:∀(w:World)(mg:Str->Option Value)(fa:Addr)(h:Heap),(K w.params).In h->h.Ns mainGlobals mg->mg d.name=some (.ref fa) ->
  ∃fd:FuncData,(∀(s:Shared)(u:Value),BindsTo s fd ⟨[u],[]⟩ [("_law_script",u)])/\∀base:Heap,(K w.params).In base->base.Ns mainGlobals mg->FnOk l.prog w (K w.params) mg base CX0 9 fa fd ["_law_script"] (spLaw (K w.params))) :
 PySem.W.WalkO q loose XP YP l.row.toRowW d [] (fun f vs=>PySem.call f vs):=
 L2.walk_of (n:=63) (k:=9) (x := "_law_script") (CX:=fun _=>CX0) (sp:=fun w=>spLaw (K w.params)) hn (by decide) hdf ⟨rfl,by decide,by decide,rfl⟩ hY F (fun _ _ a ns hl _ hS=>⟨a,ns,rfl,hS,hl,fun _=>rfl⟩) fun _ _ _ _ _ z=>z
theorem fk {K:PySem.W.Frag}(x:Str)(st:Stmt)(f:Addr)(pm cd:Value)(l:K.lookup f=some ⟨.type "function",.none,.func (PySem.W.fnOf x x (defArgs st) (defBody st) (defScope st) .none .none .none pm .none cd .none),#[]⟩:=by kernel_rfl) (c:PySem.W.codeIn K cd x=true:=by kernel_rfl)(k:PySem.W.keepIn K (.ref f)=true:=by kernel_rfl):Fun K x x st f (PySem.W.fnOf x x (defArgs st) (defBody st) (defScope st) .none .none .none pm .none cd .none):=fun_mk l c k
abbrev pw:Program:=PySem.Challenge.pw_labelways_k60_ring_labels
def V:Program:={ pw with main:={ pw.main with body:=[top 1,top 2,top 3,top 4,top 5,top 6,top 7,top 8,top 9,top 10,top 11,top 12,top 13,top 15,top 16,top 17,top 18,top 19,top 21,top 22,top 23,top 24,top 26,top 27,top 28,top 29,top 30,top 31,top 32,top 33,top 34,top 35] } }
abbrev RR:PySem.W.RowW:=PySem.W.OpenRow.toRowW (PySem.Challenge.rw_labelways_k60_ring_labels).row
theorem Ke:∀P,Ka=(Kf P).map (·.1):=fun P=>by kernel_rfl
abbrev HK:PySem.W.Hook:=PySem.W.kHook Kf Ka Ke
theorem left:PySem.W.LeftO pw V [] (fun s=>PySem.W.xlAt V [] s && PySem.W.recOk (PySem.W.RowW.records RR) s) (PySem.W.Hook.obs HK) (PySem.W.Hook.val HK) 7064:=L2.left_of (by kernel_rfl) (by decide) (fun _=>rfl) fun w os=>by kernel_rfl
def dL:DefRec:={ name := "law",params:=defArgs sLaw,body:=defBody sLaw,scope:=defScope sLaw,pos:=⟨163,0,177,15⟩ }
theorem facts (w:World)(mg:Str->Option Value)(fa:Addr)(h:Heap)(KX:(Kf w.params).In h)(G:h.Ns mainGlobals mg)(hmg:mg "law" = some (.ref fa)):∃fd:FuncData,(∀(s:Shared)(u:Value),BindsTo s fd ⟨[u],[]⟩ [("_law_script",u)])/\∀base:Heap,(Kf w.params).In base->base.Ns mainGlobals mg->FnOk (PySem.Challenge.rw_labelways_k60_ring_labels).prog w (Kf w.params) mg base CX0 9 fa fd ["_law_script"] (spLaw (Kf w.params)):=by
 have mk:∀(x:Str)(f:Addr),PySem.W.nsIn (Kf w.params) mainGlobals x=some (some (.ref f))->mg x=some (.ref f):=fun x f e=>PySem.W.mg_of KX G e
 have mn:∀x:Str,PySem.W.nsIn (Kf w.params) mainGlobals x=some none->mg x=none:=fun x e=>PySem.W.mg_none_of KX G e
 have FFe:=fk (K:=Kf w.params) "_law_feed" sFeed 261 (qS "law_labelways_k60_ring_labels" 521) (vR 260)
 have bFe:=FFe.binds (ps:=["_law_script"]) fun _ _ _ _ _ _ us hl=>by obtain⟨u0,rfl⟩:=usl1 hl;rfl
 have mFe:=mk "_law_feed" 261 (by kernel_rfl)
 have FTk:=fk (K:=Kf w.params) "_law_take" sTake 268 (qS "law_labelways_k60_ring_labels" 521) (vR 267)
 have bTk:=FTk.binds (ps:=["_law_feed_here", "_law_many"]) fun _ _ _ _ _ _ us hl=>by obtain⟨u0,u1,rfl⟩:=usl2 hl;rfl
 have mTk:=mk "_law_take" 268 (by kernel_rfl)
 have FSa:=fk (K:=Kf w.params) "_law_same" sSame 273 (qS "law_labelways_k60_ring_labels" 521) (vR 272)
 have bSa:=FSa.binds (ps:=["_law_found", "_law_due_here"]) fun _ _ _ _ _ _ us hl=>by obtain⟨u0,u1,rfl⟩:=usl2 hl;rfl
 have mSa:=mk "_law_same" 273 (by kernel_rfl)
 have FRg:=fk (K:=Kf w.params) "_law_ring" sRing 278 (qS "law_labelways_k60_ring_labels" 521) (vR 277)
 have bRg:=FRg.binds (ps:=["_law_feed_here", "_law_most"]) fun _ _ _ _ _ _ us hl=>by obtain⟨u0,u1,rfl⟩:=usl2 hl;rfl
 have mRg:=mk "_law_ring" 278 (by kernel_rfl)
 have FTi:=fk (K:=Kf w.params) "_law_tie" sTie 285 (qS "law_labelways_k60_ring_labels" 521) (vR 284)
 have bTi:=FTi.binds (ps:=["_law_one", "_law_other", "_law_long"]) fun _ _ _ _ _ _ us hl=>by obtain⟨u0,u1,u2,rfl⟩:=usl3 hl;rfl
 have mTi:=mk "_law_tie" 285 (by kernel_rfl)
 have FWo:=fk (K:=Kf w.params) "_law_web_of" sWof 290 (qS "law_labelways_k60_ring_labels" 521) (vR 289)
 have bWo:=FWo.binds (ps:=["_law_seats", "_law_longs"]) fun _ _ _ _ _ _ us hl=>by obtain⟨u0,u1,rfl⟩:=usl2 hl;rfl
 have mWo:=mk "_law_web_of" 290 (by kernel_rfl)
 have FDu:=fk (K:=Kf w.params) "_law_due" sDue 295 (qS "law_labelways_k60_ring_labels" 521) (vR 294)
 have bDu:=FDu.binds (ps:=["_law_seats", "_law_longs"]) fun _ _ _ _ _ _ us hl=>by obtain⟨u0,u1,rfl⟩:=usl2 hl;rfl
 have mDu:=mk "_law_due" 295 (by kernel_rfl)
 have FOt:=fk (K:=Kf w.params) "_law_others" sOth 302 (qS "law_labelways_k60_ring_labels" 521) (vR 301)
 have bOt:=FOt.binds (ps:=["_law_feed_here", "_law_seats", "_law_longs"]) fun _ _ _ _ _ _ us hl=>by obtain⟨u0,u1,u2,rfl⟩:=usl3 hl;rfl
 have mOt:=mk "_law_others" 302 (by kernel_rfl)
 have FRf:=fk (K:=Kf w.params) "_law_refused" sRef 309 (qS "law_labelways_k60_ring_labels" 521) (vR 308)
 have bRf:=FRf.binds (ps:=["_law_web"]) fun _ _ _ _ _ _ us hl=>by obtain⟨u0,rfl⟩:=usl1 hl;rfl
 have mRf:=mk "_law_refused" 309 (by kernel_rfl)
 have FTs:=fk (K:=Kf w.params) "ties_at" sTies 206 (qS "labelways.webs" 443) (vR 205)
 have bTs:=FTs.binds (ps:=["web", "place"]) fun _ _ _ _ _ _ us hl=>by obtain⟨u0,u1,rfl⟩:=usl2 hl;rfl
 have mTs:=mk "ties_at" 206 (by kernel_rfl)
 have FLo:=fk (K:=Kf w.params) "long_of" sLong 213 (qS "labelways.webs" 443) (vR 212)
 have bLo:=FLo.binds (ps:=["web", "one", "other"]) fun _ _ _ _ _ _ us hl=>by obtain⟨u0,u1,u2,rfl⟩:=usl3 hl;rfl
 have mLo:=mk "long_of" 213 (by kernel_rfl)
 have FBe:=fk (K:=Kf w.params) "beside" sBeside 218 (qS "labelways.webs" 443) (vR 217)
 have bBe:=FBe.binds (ps:=["web", "place"]) fun _ _ _ _ _ _ us hl=>by obtain⟨u0,u1,rfl⟩:=usl2 hl;rfl
 have mBe:=mk "beside" 218 (by kernel_rfl)
 have FWh:=fk (K:=Kf w.params) "is_whole" sWhole 225 (qS "labelways.webs" 443) (vR 224)
 have bWh:=FWh.binds (ps:=["web"]) fun _ _ _ _ _ _ us hl=>by obtain⟨u0,rfl⟩:=usl1 hl;rfl
 have mWh:=mk "is_whole" 225 (by kernel_rfl)
 have FJw:=fk (K:=Kf w.params) "joined_within" sJw 232 (qS "labelways.webs" 443) (vR 231)
 have bJw:=FJw.binds (ps:=["web", "places", "start"]) fun _ _ _ _ _ _ us hl=>by obtain⟨u0,u1,u2,rfl⟩:=usl3 hl;rfl
 have mJw:=mk "joined_within" 232 (by kernel_rfl)
 have FIr:=fk (K:=Kf w.params) "is_ring" sIsR 237 (qS "labelways.rings" 493) (vR 236)
 have bIr:=FIr.binds (ps:=["web"]) fun _ _ _ _ _ _ us hl=>by obtain⟨u0,rfl⟩:=usl1 hl;rfl
 have mIr:=mk "is_ring" 237 (by kernel_rfl)
 have FGo:=fk (K:=Kf w.params) "going_round" sGo 244 (qS "labelways.rings" 493) (vR 243)
 have bGo:=FGo.binds (ps:=["web"]) fun _ _ _ _ _ _ us hl=>by obtain⟨u0,rfl⟩:=usl1 hl;rfl
 have mGo:=mk "going_round" 244 (by kernel_rfl)
 have FNr:=fk (K:=Kf w.params) "next_round" sNr 249 (qS "labelways.rings" 493) (vR 248)
 have bNr:=FNr.binds (ps:=["web", "back", "place"]) fun _ _ _ _ _ _ us hl=>by obtain⟨u0,u1,u2,rfl⟩:=usl3 hl;rfl
 have mNr:=mk "next_round" 249 (by kernel_rfl)
 have FRl:=fk (K:=Kf w.params) "ring_labels" sRl 254 (qS "labelways.rings" 493) (vR 253)
 have bRl:=FRl.binds (ps:=["web"]) fun _ _ _ _ _ _ us hl=>by obtain⟨u0,rfl⟩:=usl1 hl;rfl
 have mRl:=mk "ring_labels" 254 (by kernel_rfl)
 have FZ:=fk (K:=Kf w.params) "law" sLaw 314 (qS "law_labelways_k60_ring_labels" 521) (vR 313)
 have mb0:=mn "len" (by kernel_rfl)
 have mb1:=mn "range" (by kernel_rfl)
 have mb2:=mn "tuple" (by kernel_rfl)
 have mb3:=mn "sorted" (by kernel_rfl)
 have mb4:=mn "list" (by kernel_rfl)
 have mb5:=mn "int" (by kernel_rfl)
 have mb6:=mn "min" (by kernel_rfl)
 have mb7:=mn "max" (by kernel_rfl)
 have mb8:=mn "all" (by kernel_rfl)
 have mb9:=mn "sum" (by kernel_rfl)
 have mb10:=mn "enumerate" (by kernel_rfl)
 have mb11:=mn "isinstance" (by kernel_rfl)
 have mb12:=mn "bool" (by kernel_rfl)
 have mb13:=mn "zip" (by kernel_rfl)
 have mb14:=mn "repr" (by kernel_rfl)
 have mb15:=mn "ValueError" (by kernel_rfl)
 have e:=hmg.symm.trans (mk "law" 314 (by kernel_rfl))
 cases e
 have ER:ErrR (Kf w.params) mg 24 137 [44,63,113,173,82,149,185,101,161,125,197]:=⟨(mk "WayError" 24 (by kernel_rfl)),(mk "NoRing" 137 (by kernel_rfl)),by kernel_rfl,by kernel_rfl,by kernel_rfl,⟨by kernel_rfl,by kernel_rfl,by kernel_rfl,by kernel_rfl,by kernel_rfl,by kernel_rfl⟩,by rw[mk "NoLabels" 44 (by kernel_rfl),mk "NoLeast" 63 (by kernel_rfl),mk "NoOrder" 113 (by kernel_rfl),mk "NoPart" 173 (by kernel_rfl),mk "NoPlan" 82 (by kernel_rfl),mk "NoPosts" 149 (by kernel_rfl),mk "NoRow" 185 (by kernel_rfl),mk "NoText" 101 (by kernel_rfl),mk "NoTie" 161 (by kernel_rfl),mk "NoTree" 125 (by kernel_rfl),mk "TooMany" 197 (by kernel_rfl)];rfl,by kernel_rfl,by kernel_rfl,by kernel_rfl⟩
 exact⟨_,fun s v=>.of_eq rfl,fun base _ _=>ok_law FZ ER FFe bFe mFe FTk bTk mTk FSa bSa mSa FRg bRg mRg FTi bTi mTi FWo bWo mWo FDu bDu mDu FOt bOt mOt FRf bRf mRf FTs bTs mTs FLo bLo mLo FBe bBe mBe FWh bWh mWh FJw bJw mJw FIr bIr mIr FGo bGo mGo FNr bNr mNr FRl bRl mRl mb0 mb1 mb2 mb3 mb4 mb5 mb6 mb7 mb8 mb9 mb10 mb11 mb12 mb13 mb14 mb15⟩
end K60
open PySem PySem.W PyProof.Rows
set_option maxRecDepth 100000 in
set_option maxHeartbeats 0 in
theorem PySem.Challenge.cw_labelways_k60_ring_labels_holds : PySem.Challenge.rw_labelways_k60_ring_labels.Holds := by
 refine holds_law (by decide +kernel) fun said=>?_
 refine holds_open (q:=K60.V) (loose:=[]) (Xt:=fun s=>xlAt K60.V [] s && recOk (RowW.records K60.RR) s) (XP:=XL K60.V []) (Yf:=Hook.obs K60.HK) (Ya:=Hook.val K60.HK) (YP:=Hook.says K60.HK) (d:=K60.dL) (kwd:=[]) (N:=7064) K60.left (Hook.of K60.HK) (Hook.keeps K60.HK) (fun s e=>xl_of s (Bool.and_eq_true_iff.mp e).1) XL.keeps (by kernel_rfl) (by kernel_rfl) (by kernel_rfl) (fun s e=>recFacts_of (Bool.and_eq_true_iff.mp e).2) (by kernel_rfl) said (by decide +kernel) ⟨rfl,rfl,rfl,rfl,rfl,by decide +kernel⟩ ?hw ?hc
 case hw=>w_witness2
 case hc=>
  exact K60.walk (l:=PySem.Challenge.rw_labelways_k60_ring_labels) (K:=K60.Kf) rfl rfl (fun w h Y=>PySem.W.kIn_of Y) K60.facts
