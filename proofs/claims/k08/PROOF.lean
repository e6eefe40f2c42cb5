import PyProof.Rows.All
import Wide.All
import OpenK.AllK
import Wide.FinOn
import Lean
import PyProof.EqAt
import PyProof.EqKinds
import PyProof.TupleCall
import PyProof.ListRange
import PyProof.Rows.StrKeys3
import PySem.Challenge.RW_labelways_k08_labels_by_an_order
set_option Elab.async false
set_option linter.all false
set_option maxRecDepth 100000
namespace L2
open PySem PySem.Spec PyProof.Rows
abbrev Key:=Sum Int Str
def keyIs:Key->Value->Bool
 | .inl k,v=>Value.isInt k v
 | .inr x,v=>Value.isStrOf x v
def keyH (w:World):Key->Int
 | .inl k=>hashInt k
 | .inr x=>hashStr w x
theorem keyIs_shape:∀{k:Key}{v:Value},keyIs k v=true->(∃i t,k=Sum.inl i/\v=Value.int i t)\/(∃x t,k=Sum.inr x/\v=Value.str x t)
 | .inl i,v,h=>by
  obtain⟨t,e⟩:=Value.isInt_shape (k:=i) (v:=v) h
  exact .inl ⟨i,t,rfl,e⟩
 | .inr x,v,h=>by
  obtain⟨t,e⟩:=Value.isStrOf_shape (x:=x) (v:=v) h
  exact .inr ⟨x,t,rfl,e⟩
theorem keyIs_int (i:Int)(t:Tok):keyIs (.inl i) (.int i t)=true:=by simp[keyIs,Value.isInt]
theorem keyIs_str (x:Str)(t:Tok):keyIs (.inr x) (.str x t)=true:=by simp[keyIs,Value.isStrOf]
theorem key_ll (a b:Int):decide ((Sum.inl a:Key)=Sum.inl b)=(a==b):=by
 by_cases e:a=b
 . subst e;simp
 . have h:¬ (Sum.inl a:Key)=Sum.inl b:=fun q=>e (Sum.inl.inj q)
   rw[decide_eq_false h]
   exact (beq_eq_false_iff_ne.mpr e).symm
theorem key_rr (a b:Str):decide ((Sum.inr a:Key)=Sum.inr b)=decide (a=b):=by
 by_cases e:a=b
 . subst e;simp
 . have h:¬ (Sum.inr a:Key)=Sum.inr b:=fun q=>e (Sum.inr.inj q)
   rw[decide_eq_false h,decide_eq_false e]
theorem key_lr (a:Int)(b:Str):decide ((Sum.inl a:Key)=Sum.inr b)=false:=decide_eq_false (fun q=>nomatch q)
theorem key_rl (a:Str)(b:Int):decide ((Sum.inr a:Key)=Sum.inl b)=false:=decide_eq_false (fun q=>nomatch q)
def mixKind (prog:Program)(w:World):PySem.KeyKind prog w Key where
 is:=keyIs
 hash:=keyH w
 inj:=fun v a b ha hb=>by
  rcases keyIs_shape ha with ⟨i,t,rfl,rfl⟩ | ⟨x,t,rfl,rfl⟩
  . rcases keyIs_shape hb with ⟨j,u,rfl,e⟩ | ⟨y,u,rfl,e⟩
    . injection e with e1 _;rw[e1]
    . exact nomatch e
  . rcases keyIs_shape hb with ⟨j,u,rfl,e⟩ | ⟨y,u,rfl,e⟩
    . exact nomatch e
    . injection e with e1 _;rw[e1]
 byValue:=fun k v h=>by
  rcases keyIs_shape h with ⟨i,t,rfl,rfl⟩ | ⟨x,t,rfl,rfl⟩ <;> rfl
 pyHash:=fun hv h=>by
  rcases keyIs_shape hv with ⟨i,t,rfl,rfl⟩ | ⟨x,t,rfl,rfl⟩
  . exact wpAny_pyHash_int h
  . exact wpAny_pyHash_str h
 eqBool:=fun hu hv h=>by
  rcases keyIs_shape hu with ⟨i,t,rfl,rfl⟩ | ⟨x,t,rfl,rfl⟩
  . rcases keyIs_shape hv with ⟨j,u,rfl,rfl⟩ | ⟨y,u,rfl,rfl⟩
    . rw[key_ll] at h;exact wpAny_eqBool_int h
    . rw[key_lr] at h;exact SeqAt.EqAt.int_str i t y u _ _ _ _ h
  . rcases keyIs_shape hv with ⟨j,u,rfl,rfl⟩ | ⟨y,u,rfl,rfl⟩
    . rw[key_rl] at h;exact SeqAt.EqAt.str_int x t j u _ _ _ _ h
    . rw[key_rr] at h;exact wpAny_eqBool_str h
 «strs» := fun k x t v h=>by
  rcases keyIs_shape h with ⟨i,u,rfl,e⟩ | ⟨y,u,rfl,e⟩
  . exact nomatch e
  . injection e with e1 _
    subst e1
    cases v <;> rfl
theorem mixKind_int (prog:Program)(w:World)(i:Int)(t:Tok):(mixKind prog w).is (.inl i) (.int i t)=true:=keyIs_int i t
theorem mixKind_str (prog:Program)(w:World)(x:Str)(t:Tok):(mixKind prog w).is (.inr x) (.str x t)=true:=keyIs_str x t
end L2
namespace L2
open PySem PySem.Spec PyProof.Rows
inductive V where
 | non | bl (b:Bool) | int (i:Int) | str (x:Str) | byt (b:Array UInt8) | flt (b:UInt64) | ref (a:Addr) | ty (n:String)
 deriving DecidableEq
def RelV:V->Value->Prop
 | .non,u=>u=Value.none
 | .bl b,u=>u=Value.bool b
 | .int i,u=>∃t,u=Value.int i t
 | .str x,u=>∃t,u=Value.str x t
 | .byt b,u=>∃t,u=Value.bytes b t
 | .flt b,u=>∃t,u=Value.float b t
 | .ref a,u=>u=Value.ref a
 | .ty n,u=>u=Value.type n
abbrev Vals:List V->List Value->Prop:=Paired RelV
theorem Vals.length {xs:List V}{us:List Value}(r:Vals xs us):xs.length=us.length:=Paired.length r
theorem Vals.get:∀{xs:List V}{us:List Value}{i:Nat}{x:V},Vals xs us->xs[i]? = some x->∃u,us[i]? = some u/\RelV x u
 | _,_,_,_,.nil,e=>by simp at e
 | _,_,0,_,.cons r _,e=>by simp at e;subst e;exact⟨_,rfl,r⟩
 | _,_,i+1,x,.cons _ t,e=>by
  obtain⟨u,h1,h2⟩:=Vals.get (i:=i) (x:=x) t (by simpa using e)
  exact⟨u,by simpa using h1,h2⟩
theorem Vals.set {x:V}{u:Value}(r:RelV x u):∀{xs:List V}{us:List Value}(i:Nat),Vals xs us->Vals (xs.set i x) (us.set i u)
 | _,_,_,.nil=>.nil
 | _,_,0,.cons _ t=>.cons r t
 | _,_,i+1,.cons q t=>.cons q (Vals.set r i t)
theorem Vals.append:∀{xs ys:List V}{us ws:List Value},Vals xs us->Vals ys ws->Vals (xs++ys) (us++ws)
 | _,_,_,_,.nil,s=>s
 | _,_,_,_,.cons r t,s=>.cons r (Vals.append t s)
theorem Vals.take:∀{xs:List V}{us:List Value}(n:Nat),Vals xs us->Vals (xs.take n) (us.take n)
 | _,_,0,_=>.nil
 | _,_,_+1,.nil=>.nil
 | _,_,n+1,.cons r t=>.cons r (Vals.take n t)
theorem Vals.drop:∀{xs:List V}{us:List Value}(n:Nat),Vals xs us->Vals (xs.drop n) (us.drop n)
 | _,_,0,r=>r
 | _,_,_+1,.nil=>.nil
 | _,_,n+1,.cons _ t=>Vals.drop n t
def RelO:Option V->Option Value->Prop
 | some v,some u=>RelV v u
 | none,none=>True
 | _,_=>False
def KV {κ:Type}:List (κ×V)->List (κ×Value)->Prop:=Paired fun (p:κ×V)(q:κ×Value)=>p.1=q.1/\RelV p.2 q.2
def kV:Key->V
 | .inl i=>.int i
 | .inr x=>.str x
inductive HO where
 /-- a list -/
 | lst (xs:List V)
 /-- a tuple (never changes) -/
 | tup (xs:List V)
 /-- a dict whose keys are ints and texts;one whose keys are tuples of ints and texts (the empty one is both) -/
 | dK (kvs:List (Key×V)) | dT (kvs:List (List Key×V))
 /-- a set of ints: its members,its size -/
 | set (S:Int->Bool)(n:Nat)
 /-- an instance of the class at C,its dict at dx,its attributes -/
 | ins (C dx:Addr)(fs:List (Str×V))
 /-- the dict of the instance at x -/
 | own (x:Addr)
 /-- the dict of an exception -/
 | xd (fs:List (Str×V))
 /-- a bound method,f of x -/
 | met (f x:Addr)
 /-- a range object lo,lo+1,.. below hi -/
 | rng (lo hi:Int)
 /-- a thing that is known to the object (the script;a dict while a loop walks it): read,never written while it is so -/
 | frz (o:Obj)(u:HO)
 /-- a code object's table -/
 | tbl (ps:Array Value)
 /-- any other thing,by what is true of its one object (a def of one's own: SetO a S n:=HO.ext fun h=>..) -/
 | ext (φ:Heap->Prop)
abbrev Hp:=Addr->Option HO
def upd (H:Hp)(a:Addr)(o:HO):Hp:=fun b=>if b=a then some o else H b
theorem upd_same {H:Hp}{a:Addr}{o:HO}:upd H a o a=some o:=by unfold upd;rw[if_pos rfl]
theorem upd_ne {H:Hp}{a b:Addr}{o:HO}(h:b≠a):upd H a o b=H b:=by unfold upd;rw[if_neg h]
theorem upd_upd {H:Hp}{a:Addr}{o u:HO}:upd (upd H a o) a u=upd H a u:=by
 funext b;unfold upd;split <;> rfl
theorem ne_of {H:Hp}{a b:Addr}{o u:HO}(h:H a=some o)(h':H b=some u)(d:o≠u):a≠b:=by
 intro e;subst e;rw[h] at h';exact d (Option.some.inj h')
theorem ne_of_none {H:Hp}{a b:Addr}{o:HO}(h:H a=some o)(h':H b=none):a≠b:=by
 intro e;subst e;rw[h] at h';cases h'
section
variable (P:Program)(w:World)
def ObjOk (H:Hp)(h:Heap)(a:Addr):HO->Prop
 | .lst xs=>xs.length<=sizeLine/\∃(its:List Value)(n:Nat),Vals xs its/\h.get? a=some { cls:=.type "list",data:=.seq its.toArray n }
 | .tup xs=>(xs.length<=sizeLine/\∃o,h.get? a=some o/\o.dict=none)/\∃its:List Value,Vals xs its/\IsTup h a its.toArray
 | .dK kvs=>kvs.length<=sizeLine/\(a==sysModules)=false/\∃vs,KV kvs vs/\h.DictOf (mixKind P w) a vs
 | .dT kvs=>kvs.length<=sizeLine/\(a==sysModules)=false/\∃xs:List (List Key×Addr×Value),
  Paired (fun (p:List Key×V)(q:List Key×Addr×Value)=>p.1=q.1/\H q.2.1=some (.tup (p.1.map kV))/\RelV p.2 q.2.2) kvs xs /\
  ∃o es ep,h.get? a=some o/\o.ExactDict/\o.data = .dict es ep/\es.toList=xs.map (entryOfKey (tupleKind (mixKind P w)))/\(xs.map (·.1)).Nodup
 | .set S n=>h.SetOf (intKind P w) a S n
 | .ins C dx fs=>H dx=some (.own a)/\fs.length<=1000/\dx≠a/\h.get? a=some (PySem.W.instObj C dx) /\
  ∃mA,h.Ns1 dx mA/\(∀f,RelO (fs.lookup f) (mA f))/\PySem.Within mA (fs.map (·.1))
 | .own _=>∃o,h.get? a=some o
 | .xd fs=>∃mA,h.Ns1 a mA/\∀f,RelO (fs.lookup f) (mA f)
 | .rng lo hi=>∃t u v,h.get? a=some { cls:=.type "range",data:=.fields #[.int lo t,.int hi u,.int 1 v] }
 | .frz o u=>h.get? a=some o/\ObjOk H h a u
 | .tbl ps=>h.get? a=some { cls:=.none,data:=.fields ps }
 | .met f x=>h.get? a=some (PySem.W.methodObj (.ref f) (.ref x))
 | .ext φ=>φ h/\(∃o,h.get? a=some o)/\∀h1 h2:Heap,φ h1->(∀o,h1.get? a=some o->h2.get? a=some o)->φ h2
def HOk (H:Hp)(h:Heap):Prop:=∀a o,H a=some o->ObjOk P w H h a o
end
section
variable {P:Program}{w:World}{H H':Hp}{h h':Heap}{a:Addr}{o:HO}
theorem ObjOk.lt (x:ObjOk P w H h a o):a<h.objs.size:=by
 cases o with
 | lst xs=>obtain⟨_,_,_,_,e⟩:=x;exact Heap.lt_size e
 | tup xs=>obtain⟨_,_,_,p⟩:=x;exact p.lt
 | dK kvs=>obtain⟨_,_,_,_,o,_,_,e,_⟩:=x;exact Heap.lt_size e
 | dT kvs=>obtain⟨_,_,_,_,o,_,_,e,_⟩:=x;exact Heap.lt_size e
 | set S n=>obtain⟨o,_,_,_,e,_⟩:=x;exact Heap.lt_size e
 | ins C dx fs=>obtain⟨_,_,_,e,_⟩:=x;exact Heap.lt_size e
 | own y=>obtain⟨_,e⟩:=x;exact Heap.lt_size e
 | xd fs=>obtain⟨_,⟨_,_,_,e,_⟩,_⟩:=x;exact Heap.lt_size e
 | rng lo hi=>obtain⟨_,_,_,e⟩:=x;exact Heap.lt_size e
 | frz ob u=>obtain⟨e,_⟩:=x;exact Heap.lt_size e
 | tbl ps=>exact Heap.lt_size (show h.get? a=some _ from x)
 | met f y=>exact Heap.lt_size (show h.get? a=some _ from x)
 | ext φ=>obtain⟨_,⟨_,e⟩,_⟩:=x;exact Heap.lt_size e
theorem Paired.mapP {α β:Type}{F G:α->β->Prop}:∀{l₁:List α}{l₂:List β},Paired F l₁ l₂->(∀a b,F a b->G a b)->Paired G l₁ l₂
 | _,_,.nil,_=>.nil
 | _,_,.cons r t,f=>.cons (f _ _ r) (Paired.mapP t f)
theorem ObjOk.stay (x:ObjOk P w H h a o)(k:∀b u,(b=a\/H b=some (.own a))->h.get? b=some u->h'.get? b=some u)
 (ho:∀b,H b=some (.own a)->H' b=some (.own a))(ht:∀b xs,H b=some (.tup xs)->H' b=some (.tup xs)):ObjOk P w H' h' a o:=by
 induction o with
 | lst xs=>obtain⟨z,its,n,r,e⟩:=x;exact⟨z,its,n,r,k _ _ (.inl rfl) e⟩
 | tup xs=>obtain⟨⟨z,o2,e2,d2⟩,its,r,ob,e,c⟩:=x;exact⟨⟨z,o2,k _ _ (.inl rfl) e2,d2⟩,its,r,ob,k _ _ (.inl rfl) e,c⟩
 | dK kvs=>obtain⟨z,y,vs,r,ob,es,ep,e,c⟩:=x;exact⟨z,y,vs,r,ob,es,ep,k _ _ (.inl rfl) e,c⟩
 | dT kvs=>
  obtain⟨z,y,xs,r,ob,es,ep,e,c⟩:=x
  exact⟨z,y,xs,Paired.mapP r fun p q z=>⟨z.1,ht _ _ z.2.1,z.2.2⟩,ob,es,ep,k _ _ (.inl rfl) e,c⟩
 | set S n=>obtain⟨ob,es,ep,t,e,c⟩:=x;exact⟨ob,es,ep,t,k _ _ (.inl rfl) e,c⟩
 | ins C dx fs=>
  obtain⟨d,z,ne,e,mA,⟨od,es,ep,e2,c⟩,r⟩:=x
  exact⟨ho _ d,z,ne,k _ _ (.inl rfl) e,mA,⟨od,es,ep,k _ _ (.inr d) e2,c⟩,r⟩
 | own y=>obtain⟨ob,e⟩:=x;exact⟨ob,k _ _ (.inl rfl) e⟩
 | xd fs=>obtain⟨mA,⟨od,es,ep,e,c⟩,r⟩:=x;exact⟨mA,⟨od,es,ep,k _ _ (.inl rfl) e,c⟩,r⟩
 | rng lo hi=>obtain⟨t,u,v,e⟩:=x;exact⟨t,u,v,k _ _ (.inl rfl) e⟩
 | frz ob u ih=>obtain⟨e,q⟩:=x;exact⟨k _ _ (.inl rfl) e,ih q⟩
 | tbl ps=>
  have e:h.get? a=some { cls:=.none,data:=.fields ps }:=x
  show h'.get? a=some { cls:=.none,data:=.fields ps }
  exact k a _ (.inl rfl) e
 | met f y=>
  have e:h.get? a=some (PySem.W.methodObj (.ref f) (.ref y)):=x
  show h'.get? a=some (PySem.W.methodObj (.ref f) (.ref y))
  exact k a _ (.inl rfl) e
 | ext φ=>obtain⟨p,⟨o,e⟩,st⟩:=x;exact⟨st _ _ p fun o q=>k _ _ (.inl rfl) q,⟨o,k _ _ (.inl rfl) e⟩,st⟩
theorem HOk.lt (x:HOk P w H h)(e:H a=some o):a<h.objs.size:=(x a o e).lt
theorem HOk.fresh (x:HOk P w H h)(e:h.objs.size<=a):H a=none:=by
 cases q:H a with
 | none=>rfl
 | some u=>exact absurd (Nat.lt_of_lt_of_le (x.lt q) e) (Nat.lt_irrefl _)
theorem HOk.kept (x:HOk P w H h)(k:∀b u,h.get? b=some u->h'.get? b=some u):HOk P w H h':=fun a o e=>
 (x a o e).stay (fun b u _ q=>k b u q) (fun _ q=>q) fun _ _ q=>q
theorem HOk.laid (x:HOk P w H h)(k:∀b u,h.get? b=some u->h'.get? b=some u)(hp:h.objs.size<=a)(new:ObjOk P w (upd H a o) h' a o):HOk P w (upd H a o) h':=fun b u e=>by
 have hn:=x.fresh hp
 by_cases hb:b=a
 . subst hb;rw[upd_same] at e;cases e;exact new
 . rw[upd_ne hb] at e
   exact (x b u e).stay (fun c v _ q=>k c v q) (fun c q=>by rw[upd_ne (ne_of_none q hn)];exact q) fun c xs q=>by rw[upd_ne (ne_of_none q hn)];exact q
end
def Rd (H:Hp)(a:Addr)(u:HO):Prop:=H a=some u\/∃o,H a=some (.frz o u)
theorem Rd.ok {P:Program}{w:World}{H:Hp}{h:Heap}{a:Addr}{u:HO}(r:Rd H a u)(x:HOk P w H h):ObjOk P w H h a u:=by
 rcases r with r | ⟨o,r⟩
 . exact x a u r
 . obtain⟨_,q⟩:=x a _ r
   exact q
def Mut:Option HO->Prop
 | some (.lst _)=>True
 | some (.dK _)=>True
 | some (.dT _)=>True
 | some (.set _ _)=>True
 | some (.ins _ _ _)=>True
 | some (.ext _)=>True
 | _=>False
section
variable {P:Program}{w:World}{H:Hp}{h h':Heap}{x e:Addr}{o':HO}
theorem HOk.write (ok:HOk P w H h)(mu:Mut (H x))(he:e=x\/H e=some (.own x))(k:∀b u,b≠e->h.get? b=some u->h'.get? b=some u)(heo:∃u,h'.get? e=some u)
 (new:ObjOk P w (upd H x o') h' x o'):HOk P w (upd H x o') h':=fun b u q=>by
 have nown:∀c y,H c=some (.own y)->c≠x:=fun c y r z=>by subst z;rw[r] at mu;exact mu
 have ntup:∀c xs,H c=some (.tup xs)->c≠x:=fun c xs r z=>by subst z;rw[r] at mu;exact mu
 by_cases hb:b=x
 . subst hb;rw[upd_same] at q;cases q;exact new
 . rw[upd_ne hb] at q
   by_cases hbe:b=e
   . have q':H b=some (.own x):=by
      rcases he with z | z
      . exact absurd (hbe.trans z) hb
      . rw[hbe];exact z
     rw[q] at q';cases q'
     obtain⟨v,hv⟩:=heo
     exact⟨v,by rw[hbe];exact hv⟩
   . refine (ok b u q).stay (fun c v hc r=>k c v ?_ r) (fun c r=>by rw[upd_ne (nown c b r)];exact r) fun c xs r=>by rw[upd_ne (ntup c xs r)];exact r
     rcases hc with rfl | hc
     . exact hbe
     . rintro rfl
       rcases he with z | z
       . exact nown c b hc z
       . rw[hc] at z;cases z;exact hb rfl
end
structure Un (fs ex:List Addr)(H H':Hp)(h h':Heap):Prop where
 keep:∀b o,h.get? b=some o->H b=none->b∉fs->b∉ex->h'.get? b=some o
 slot:∀b o,h.get? b=some o->H b=none->b∈fs->b∉ex->∃sl,h'.get? b=some { o with slots:=sl }
 free:∀b o,h.get? b=some o->H b=none->b∉ex->H' b=none
 there:∀b o,h.get? b=some o->b∉ex->∃o',h'.get? b=some o'
 tups:∀b xs,H b=some (.tup xs)->H' b=some (.tup xs)
 frzs:∀b o u,H b=some (.frz o u)->H' b=some (.frz o u)
 tbls:∀b ps,H b=some (.tbl ps)->∃more,H' b=some (.tbl (ps++more))
section
variable {fs fs' ex ex':List Addr}{H H1 H2:Hp}{h h1 h2 h':Heap}{a x e:Addr}{o:HO}
theorem Un.any (u:Un fs ex H H1 h h1){b:Addr}{ob:Obj}(q:h.get? b=some ob)(n:H b=none)(hx:b∉ex):∃sl,h1.get? b=some { ob with slots:=sl }:=by
 by_cases hb:b∈fs
 . exact u.slot b ob q n hb hx
 . exact⟨ob.slots,u.keep b ob q n hb hx⟩
theorem Un.kept (k:∀b u,h.get? b=some u->h'.get? b=some u):Un fs ex H H h h':=
 ⟨fun b ob q _ _ _=>k b ob q,fun b ob q _ _ _=>⟨ob.slots,k b ob q⟩,fun _ _ _ n _=>n,fun b ob q _=>⟨ob,k b ob q⟩,fun _ _ q=>q,fun _ _ _ q=>q,fun _ ps q=>⟨#[],by rw[q];simp⟩⟩
theorem Un.refl:Un fs ex H H h h:=Un.kept fun _ _ q=>q
theorem Un.laid (k:∀b u,h.get? b=some u->h'.get? b=some u)(hp:h.objs.size<=a)(hn:H a=none):Un fs ex H (upd H a o) h h' where
 keep:=fun b u q _ _ _=>k b u q
 slot:=fun b u q _ _ _=>⟨u.slots,k b u q⟩
 free:=fun b u q n _=>by rw[upd_ne (Nat.ne_of_lt (Nat.lt_of_lt_of_le (Heap.lt_size q) hp))];exact n
 there:=fun b u q _=>⟨u,k b u q⟩
 tups:=fun b xs q=>by rw[upd_ne (ne_of_none q hn)];exact q
 frzs:=fun b u xs q=>by rw[upd_ne (ne_of_none q hn)];exact q
 tbls:=fun b ps q=>⟨#[],by rw[upd_ne (ne_of_none q hn),q];simp⟩
theorem Un.write (mu:Mut (H x))(he:e=x\/H e=some (.own x))(k:∀b u,b≠e->h.get? b=some u->h'.get? b=some u)(heo:∃u,h'.get? e=some u):Un fs ex H (upd H x o) h h':=by
 have hx:∀b,H b=none->b≠x:=fun b n z=>by subst z;rw[n] at mu;exact mu
 have hb:∀b,H b=none->b≠e:=fun b n z=>by
  subst z
  rcases he with r | r
  . exact hx b n r
  . rw[n] at r;cases r
 have hm:∀b u,H b=some u->¬ Mut (some u)->b≠x:=fun b u q nm z=>by subst z;rw[q] at mu;exact nm mu
 refine⟨fun b u q n _ _=>k b u (hb b n) q,fun b u q n _ _=>⟨u.slots,k b u (hb b n) q⟩,fun b u q n _=>by rw[upd_ne (hx b n)];exact n,fun b u q _=>?_,
  fun b xs q=>by rw[upd_ne (hm b _ q fun z=>z)];exact q,fun b u xs q=>by rw[upd_ne (hm b _ q fun z=>z)];exact q,fun b ps q=>⟨#[],by rw[upd_ne (hm b _ q fun z=>z),q];simp⟩⟩
 by_cases hbe:b=e
 . subst hbe;exact heo
 . exact⟨u,k b u hbe q⟩
end
def trk (h:Heap)(H:Hp):List Addr:=(List.range h.objs.size).filter fun a=>(H a).isSome
def hidT (h:Heap)(H:Hp):Heap:=PySem.W.hideAll h (trk h H)
theorem hidT_size (h:Heap)(H:Hp):(hidT h H).objs.size=h.objs.size:=PySem.W.hideAll_size _ _
theorem hidT_get {h:Heap}{H:Hp}{b:Addr}{o:Obj}(e:h.get? b=some o)(n:H b=none):(hidT h H).get? b=some o:=
 PySem.W.hideAll_get _ e fun hm=>by
  have q:(H b).isSome=true:=(List.mem_filter.mp hm).2
  rw[n] at q;simp at q
theorem of_hidT {h:Heap}{H:Hp}{b:Addr}{o:Obj}(e:(hidT h H).get? b=some o):h.get? b=some o/\H b=none:=by
 have e':h.get? b=some o:=PySem.W.of_hideAll (trk h H) e
 refine⟨e',?_⟩
 cases q:H b with
 | none=>rfl
 | some x=>
  have hm:b∈trk h H:=List.mem_filter.mpr ⟨List.mem_range.mpr (Heap.lt_size e'),by simp[q]⟩
  have z:(hidT h H).get? b=none:=PySem.W.hideAll_none (trk h H) hm
  rw[z] at e;cases e
def allNews (g h:Heap)(L:Addr):List (Addr×Obj):=(List.range h.objs.size).filterMap fun a=>if a=L\/(g.get? a).isSome=true then none else (h.get? a).map fun o=>(a,o)
theorem mem_allNews {g h:Heap}{L a:Addr}{o:Obj}(h1:a≠L)(h2:g.get? a=none)(h3:h.get? a=some o):(a,o)∈allNews g h L:=
 List.mem_filterMap.mpr ⟨a,List.mem_range.mpr (Heap.lt_size h3),by simp[h1,h2,h3]⟩
theorem of_mem_allNews {g h:Heap}{L:Addr}{p:Addr×Obj}(hp:p∈allNews g h L):p.1≠L/\g.get? p.1=none/\h.get? p.1=some p.2:=by
 obtain⟨b,_,e⟩:=List.mem_filterMap.mp hp
 split at e
 . cases e
 . rename_i hn
   cases q:h.get? b with
   | none=>rw[q] at e;simp at e
   | some u=>
    rw[q] at e
    simp only[Option.map_some,Option.some.injEq] at e
    subst e
    refine⟨fun z=>hn (.inl z),?_,q⟩
    show g.get? b=none
    cases r:g.get? b with
    | none=>rfl
    | some v=>exact (hn (.inr (by simp[r]))).elim
theorem news_all {g h:Heap}{L:Addr}:News g L h (allNews g h L):=fun p hp=>let ⟨a,b,c⟩:=of_mem_allNews hp;⟨c,a,b⟩
end L2
namespace L2
open PySem PySem.Spec PyProof.Rows
structure Mod (K:PySem.W.Frag)(mg:Str->Option Value)(base:Heap):Prop where
 kin:K.In base
 glob:base.Ns mainGlobals mg
 blt:∃mb,base.Ns builtinsNs mb/\∀x:Str,x ≠ "__name__" -> mb x=bootBuiltins x
 nolimit:base.NoLimit
structure Cx where
 prog:Program
 w:World
 K:PySem.W.Frag
 mg:Str->Option Value
 base:Heap
 A:Around
 N:List Str
 s₀:Shared
 H₀:Hp
 env:Env
 outer:List Env
 stack:List Env
 ex:List Addr
 fn:Str->Bool
 calm:Bool
 pn:List (Addr×Obj)
 xe:Value->Shared->Prop
def frs (l:List Env):List Addr:=l.filterMap (·.frame)
abbrev Cx.fs (X:Cx):List Addr:=frs X.outer
def Vis (sc:Scope)(x:Str):Prop:=sc.names.lookup x=some .local\/sc.names.lookup x=some .cell\/sc.names.lookup x=some .free
def Loc (sc:Scope)(x:Str):Prop:=sc.names.lookup x=some .local\/sc.names.lookup x=some .cell
def Look (env:Env)(h:Heap)(m:Str->Option Value)(x:Str)(u:Value):Prop:=
 (env.kindOf x=some .local/\m x=some u)\/((env.kindOf x=some .cell\/env.kindOf x=some .free)/\∃c,env.cells.lookup x=some c/\h.IsCell c (some u))
structure Cx.Ok (X:Cx):Prop where
 mod:Mod X.K X.mg X.base
 kind:X.env.scope.kind = .function
 glob:X.env.globals=mainGlobals
 blt:X.env.builtins=builtinsNs
 above:X.s₀.heap.objs.size<=X.env.locals
 inj:∀x y c,X.env.cells.lookup x=some c->X.env.cells.lookup y=some c->x=y
 has:∀x,(X.env.kindOf x=some .cell\/X.env.kindOf x=some .free)->∃c,X.env.cells.lookup x=some c
 cab:∀x c,X.fn x=true->X.env.cells.lookup x=some c->X.s₀.heap.objs.size<=c
 hd:X.calm=true->X.A.handled=none
 frames:X.A.frames=some X.stack
 stk:X.stack=X.outer\/(X.stack=X.env::X.outer/\X.env.frame=some X.env.locals)
 exf:∀b∈X.ex,b≠X.env.locals/\∀x c,X.env.cells.lookup x=some c->c≠b
 bs:∀b o,X.base.get? b=some o->X.s₀.heap.get? b=some o/\X.H₀ b=none
 bsz:X.base.objs.size<=X.s₀.heap.objs.size
 noex:∀b o,X.base.get? b=some o->b∉X.ex
 exfs:∀b∈X.ex,b∉X.fs
 funs:X.s₀.heap.FunFrames X.base X.outer
 frf:∀b∈X.fs,X.H₀ b=none
structure Inv (X:Cx)(pins:List (Addr×Obj))(σ:List (Option V))(H:Hp)(s:Shared):Prop where
 ok:X.Ok
 os:s.os=X.s₀.os
 bare:AllBare s.gens
 base:Un X.fs X.ex X.H₀ H X.s₀.heap s.heap
 loc:∃m,s.heap.Ns X.env.locals m/\∀(i:Nat)(x:Str)(v:V),X.N[i]? = some x->σ[i]? = some (some v)->Vis X.env.scope x->∃u,RelV v u/\Look X.env s.heap m x u
 cell:∀x c,X.env.cells.lookup x=some c->∃v,s.heap.IsCell c v
 free:H X.env.locals=none
 freeC:∀x c,X.env.cells.lookup x=some c->H c=none
 pin:∀p∈X.pn++pins,s.heap.get? p.1=some p.2/\H p.1=none/\p.1≠X.env.locals/\p.1∉X.fs/\∀v,p.2.data ≠ .cell v
 hok:HOk X.prog X.w H s.heap
 len:σ.length=X.N.length
section
variable {X:Cx}{pins:List (Addr×Obj)}{σ:List (Option V)}{H H':Hp}{s:Shared}{h':Heap}
theorem Cx.Ok.nofr (ok:X.Ok){b:Addr}{o:Obj}(e:X.base.get? b=some o):b∉X.fs:=fun hb=>by
 have:=(ok.funs.mem hb).1
 rw[e] at this;cases this
theorem Inv.bs (I:Inv X pins σ H s):∀b o,X.base.get? b=some o->s.heap.get? b=some o/\H b=none:=fun b o e=>
 ⟨I.base.keep b o (I.ok.bs b o e).1 (I.ok.bs b o e).2 (I.ok.nofr e) (I.ok.noex b o e),I.base.free b o (I.ok.bs b o e).1 (I.ok.bs b o e).2 (I.ok.noex b o e)⟩
theorem Inv.bk (I:Inv X pins σ H s):∀b o,X.base.get? b=some o->s.heap.get? b=some o:=fun b o e=>(I.bs b o e).1
theorem Inv.mod (I:Inv X pins σ H s):Mod X.K X.mg X.base:=I.ok.mod
theorem Inv.kIn (I:Inv X pins σ H s):X.K.In s.heap:=I.ok.mod.kin.keeps I.bk
theorem Inv.fr (I:Inv X pins σ H s):∃m,Fr X.base X.env.locals s.heap m:=
 let ⟨m,hn,_⟩:=I.loc
 ⟨m,hn,I.bk,Nat.le_trans I.ok.bsz I.ok.above⟩
theorem Inv.lt (I:Inv X pins σ H s):X.env.locals<s.heap.objs.size:=let ⟨_,hn,_⟩:=I.loc;hn.lt
theorem Inv.sz (I:Inv X pins σ H s):X.s₀.heap.objs.size<=s.heap.objs.size:=Nat.le_trans I.ok.above (Nat.le_of_lt I.lt)
theorem Inv.nofs (I:Inv X pins σ H s){a:Addr}(h:s.heap.objs.size<=a):a∉X.fs:=fun hb=>by
 obtain⟨_,o,ho,_⟩:=I.ok.funs.mem hb
 exact absurd (Nat.lt_of_lt_of_le (Heap.lt_size ho) (Nat.le_trans I.sz h)) (Nat.lt_irrefl _)
theorem Inv.cne (I:Inv X pins σ H s):∀x c,X.env.cells.lookup x=some c->c≠X.env.locals:=fun x c e z=>by
 obtain⟨v,o,ho,hd⟩:=I.cell x c e
 obtain⟨m,⟨o',es,ep,ho',hd',_⟩,_⟩:=I.loc
 rw[z,ho'] at ho;cases ho;rw[hd'] at hd;cases hd
theorem Inv.funs (I:Inv X pins σ H s):s.heap.FunFrames X.base X.outer:=by
 have all:∀(l:List Env),(∀b∈frs l,b∈X.fs)->X.s₀.heap.FunFrames X.base l->s.heap.FunFrames X.base l:=by
  intro l
  induction l with
  | nil=>intro _ _;trivial
  | cons env r ih=>
   intro hs hl
   obtain⟨hk,⟨L,o,hf,hn,ho,hd⟩,hr⟩:=hl
   have hL:L∈X.fs:=hs L (by unfold frs;rw[List.filterMap_cons,hf];exact List.mem_cons_self)
   obtain⟨sl,e⟩:=I.base.slot L o ho (I.ok.frf L hL) hL fun z=>I.ok.exfs L z hL
   exact⟨hk,⟨L,_,hf,hn,e,hd⟩,ih (fun b hb=>hs b (by unfold frs;rw[List.filterMap_cons,hf];exact List.mem_cons_of_mem _ hb)) hr⟩
 exact all X.outer (fun _ hb=>hb) I.ok.funs
theorem Inv.stack (I:Inv X pins σ H s):s.heap.FunFrames X.base X.stack:=by
 rcases I.ok.stk with e | ⟨e,hf⟩
 . rw[e];exact I.funs
 . rw[e]
   obtain⟨m,hn,_⟩:=I.loc
   refine .cons (by rw[I.ok.kind];decide) hf hn ?_ I.funs
   exact Heap.get?_none_of_le (Nat.le_trans I.ok.bsz I.ok.above)
theorem Inv.stkSub (I:Inv X pins σ H s):∀b∈frs X.stack,b∈X.env.locals::X.fs:=fun b hb=>by
 rcases I.ok.stk with e | ⟨e,hf⟩
 . rw[e] at hb;exact List.mem_cons_of_mem _ hb
 . rw[e] at hb
   unfold frs at hb
   rw[List.filterMap_cons,hf] at hb
   exact hb
theorem Inv.stkFree (I:Inv X pins σ H s):∀b∈frs X.stack,H b=none:=fun b hb=>by
 rcases List.mem_cons.mp (I.stkSub b hb) with e | hb
 . rw[e];exact I.free
 . obtain⟨_,o,ho,_⟩:=I.ok.funs.mem hb
   exact I.base.free b o ho (I.ok.frf b hb) fun z=>I.ok.exfs b z hb
theorem Inv.step {g':Array GenState}{t':Nat}{d':Drawn}{ch:List Addr}(I:Inv X pins σ H s)
 (hch:∀b∈ch,(b∈X.ex\/X.s₀.heap.objs.size<=b)/\b≠X.env.locals/\(∀x c,X.env.cells.lookup x=some c->c≠b)/\∀p∈X.pn++pins,p.1≠b)
 (keep:∀b o,b≠X.env.locals->b∉X.fs->b∉ch->s.heap.get? b=some o->H b=none->h'.get? b=some o)
 (slot:∀b o,b≠X.env.locals->b∈X.fs->b∉ch->s.heap.get? b=some o->H b=none->∃sl,h'.get? b=some { o with slots:=sl })(free:∀b o,b∉ch->s.heap.get? b=some o->H b=none->H' b=none)
 (there:∀b o,b∉ch->s.heap.get? b=some o->∃o',h'.get? b=some o')
 (tups:∀b xs,H b=some (.tup xs)->H' b=some (.tup xs))(frzs:∀b o u,H b=some (.frz o u)->H' b=some (.frz o u))(tbls:∀b ps,H b=some (.tbl ps)->∃more,H' b=some (.tbl (ps++more)))
 (ns:∀m,s.heap.Ns X.env.locals m->h'.Ns X.env.locals m)(hok:HOk X.prog X.w H' h')(hg:AllBare g') :
 Inv X pins σ H' { s with heap:=h',gens:=g',drawn:=d',toks:=t' }:=by
 have neL:∀b o,X.s₀.heap.get? b=some o->b≠X.env.locals:=fun b o e=>Nat.ne_of_lt (Nat.lt_of_lt_of_le (Heap.lt_size e) I.ok.above)
 have neC:∀b o,X.s₀.heap.get? b=some o->b∉X.ex->b∉ch:=fun b o e hx hb=>by
  rcases (hch b hb).1 with z | z
  . exact hx z
  . exact absurd (Nat.lt_of_lt_of_le (Heap.lt_size e) z) (Nat.lt_irrefl _)
 have cellK:∀x c,X.env.cells.lookup x=some c->∀v,s.heap.IsCell c v->h'.IsCell c v:=fun x c e v ⟨o,ho,hd⟩=>by
  have nch:c∉ch:=fun z=>(hch c z).2.2.1 x c e rfl
  by_cases hc:c∈X.fs
  . obtain⟨sl,q⟩:=slot c o (I.cne x c e) hc nch ho (I.freeC x c e)
    exact⟨_,q,hd⟩
  . exact⟨o,keep c o (I.cne x c e) hc nch ho (I.freeC x c e),hd⟩
 refine⟨I.ok,I.os,hg,⟨fun b o e n hb hx=>?_,fun b o e n hb hx=>?_,fun b o e n hx=>?_,fun b o e hx=>?_,fun b xs e=>tups b xs (I.base.tups b xs e),fun b o xs e=>frzs b o xs (I.base.frzs b o xs e),fun b ps e=>?_⟩,?_,fun x c e=>?_,?_,fun x c e=>?_,fun p hp=>?_,hok,I.len⟩
 . exact keep b o (neL b o e) hb (neC b o e hx) (I.base.keep b o e n hb hx) (I.base.free b o e n hx)
 . obtain⟨sl,e1⟩:=I.base.slot b o e n hb hx
   obtain⟨sl',e2⟩:=slot b _ (neL b o e) hb (neC b o e hx) e1 (I.base.free b o e n hx)
   exact⟨sl',e2⟩
 . obtain⟨o',e1⟩:=I.base.there b o e hx
   exact free b o' (neC b o e hx) e1 (I.base.free b o e n hx)
 . obtain⟨o',e1⟩:=I.base.there b o e hx
   exact there b o' (neC b o e hx) e1
 . obtain⟨m1,e1⟩:=I.base.tbls b ps e
   obtain⟨m2,e2⟩:=tbls b _ e1
   exact⟨m1++m2,by rw[e2,Array.append_assoc]⟩
 . obtain⟨m,hn,hl⟩:=I.loc
   refine⟨m,ns m hn,fun i x v e1 e2 e3=>?_⟩
   obtain⟨u,r,l⟩:=hl i x v e1 e2 e3
   refine⟨u,r,?_⟩
   rcases l with l | ⟨k,c,e,z⟩
   . exact .inl l
   . exact .inr ⟨k,c,e,cellK x c e _ z⟩
 . obtain⟨v,z⟩:=I.cell x c e
   exact⟨v,cellK x c e v z⟩
 . obtain⟨m,⟨o,_,_,ho,_⟩,_⟩:=I.loc
   exact free _ o (fun z=>(hch _ z).2.1 rfl) ho I.free
 . obtain⟨v,o,ho,hd⟩:=I.cell x c e
   exact free c o (fun z=>(hch c z).2.2.1 x c e rfl) ho (I.freeC x c e)
 . obtain⟨e,n,ne,nf,d⟩:=I.pin p hp
   have nch:p.1∉ch:=fun z=>(hch p.1 z).2.2.2 p hp rfl
   exact⟨keep p.1 p.2 ne nf nch e n,free p.1 p.2 nch e n,ne,nf,d⟩
theorem Inv.un {t':Nat}(I:Inv X pins σ H s)(u:Un X.fs [] H H' s.heap h')(hok:HOk X.prog X.w H' h'):Inv X pins σ H' { s with heap:=h',toks:=t' }:=by
 obtain⟨m,⟨o,es,ep,ho,r⟩,_⟩:=id I.loc
 obtain⟨sl,hL⟩:=u.any ho I.free (by simp)
 exact I.step (g':=s.gens) (d':=s.drawn) (ch:=[]) (fun _ z=>nomatch z) (fun b o _ hb _ e n=>u.keep b o e n hb (by simp)) (fun b o _ hb _ e n=>u.slot b o e n hb (by simp)) (fun b o _ e n=>u.free b o e n (by simp)) (fun b o _ e=>u.there b o e (by simp)) u.tups u.frzs u.tbls (fun m' hm=>by
  obtain⟨o',es',ep',ho',r'⟩:=hm
  rw[ho] at ho';cases ho'
  exact⟨_,es',ep',hL,r'⟩) hok I.bare
theorem Inv.call {g':Array GenState}{t':Nat}{d':Drawn}{ch:List Addr}(I:Inv X pins σ H s)(u:Un (frs X.stack) ch H H' s.heap h')(hok:HOk X.prog X.w H' h')(hg:AllBare g')
 (hch:∀b∈ch,(b∈X.ex\/X.s₀.heap.objs.size<=b)/\b≠X.env.locals/\(∀x c,X.env.cells.lookup x=some c->c≠b)/\∀p∈X.pn++pins,p.1≠b) :
 Inv X pins σ H' { s with heap:=h',gens:=g',drawn:=d',toks:=t' }:=by
 obtain⟨m,⟨o,es,ep,ho,r⟩,_⟩:=id I.loc
 obtain⟨sl,hL⟩:=u.any ho I.free fun z=>(hch _ z).2.1 rfl
 exact I.step (ch:=ch) hch (fun b o hL hb hc e n=>u.keep b o e n (fun z=>(List.mem_cons.mp (I.stkSub b z)).elim hL hb) hc) (fun b o _ _ hc e n=>u.any e n hc) (fun b o hc e n=>u.free b o e n hc) (fun b o hc e=>u.there b o e hc) u.tups u.frzs u.tbls (fun m' hm=>by
  obtain⟨o',es',ep',ho',r'⟩:=hm
  rw[ho] at ho';cases ho'
  exact⟨_,es',ep',hL,r'⟩) hok hg
theorem Inv.turned {t':Nat}{it:Addr}(I:Inv X pins σ H s)(k:∀b o,b≠it->s.heap.get? b=some o->h'.get? b=some o)(hn:H it=none)(hL:it≠X.env.locals)
 (h1:it∈X.ex\/X.s₀.heap.objs.size<=it)(h2:∀x c,X.env.cells.lookup x=some c->c≠it)(h3:∀p∈X.pn++pins,p.1≠it):Inv X pins σ H { s with heap:=h',toks:=t' }:=by
 have nit:∀b u,H b=some u->b≠it:=fun b u e z=>by rw[z,hn] at e;cases e
 refine I.step (g':=s.gens) (d':=s.drawn) (ch:=[it]) (fun b hb=>?_) (fun b o _ _ hc e _=>k b o (fun z=>hc (by simp[z])) e) (fun b o _ _ hc e _=>⟨o.slots,k b o (fun z=>hc (by simp[z])) e⟩) (fun _ _ _ _ n=>n)
  (fun b o hc e=>⟨o,k b o (fun z=>hc (by simp[z])) e⟩) (fun _ _ e=>e) (fun _ _ _ e=>e) (fun b ps e=>⟨#[],by rw[e];simp⟩) (fun m hm=>?_) (fun b u e=>?_) I.bare
 . have e:b=it:=by simpa using hb
   subst e
   exact⟨h1,hL,h2,h3⟩
 . obtain⟨o,es,ep,ho,r⟩:=hm
   exact⟨o,es,ep,k _ o (Ne.symm hL) ho,r⟩
 . refine (I.hok b u e).stay (fun c v hc q=>k c v ?_ q) (fun _ q=>q) fun _ _ q=>q
   rcases hc with z | z
   . rw[z];exact nit b u e
   . exact nit c _ z
theorem Inv.tok (I:Inv X pins σ H s)(t:Nat):Inv X pins σ H { s with toks:=t }:=I.un (h':=s.heap) (t':=t) Un.refl I.hok
theorem Inv.kept {t':Nat}(I:Inv X pins σ H s)(k:∀b u,s.heap.get? b=some u->h'.get? b=some u):Inv X pins σ H { s with heap:=h',toks:=t' }:=I.un (Un.kept k) (I.hok.kept k)
theorem Inv.laid {a:Addr}{o:HO}{t':Nat}(I:Inv X pins σ H s)(k:∀b u,s.heap.get? b=some u->h'.get? b=some u)(hp:s.heap.objs.size<=a)(new:ObjOk X.prog X.w (upd H a o) h' a o) :
 Inv X pins σ (upd H a o) { s with heap:=h',toks:=t' }:=I.un (Un.laid k hp (I.hok.fresh hp)) (I.hok.laid k hp new)
theorem Inv.write {x e:Addr}{o:HO}{t':Nat}(I:Inv X pins σ H s)(mu:Mut (H x))(he:e=x\/H e=some (.own x))(k:∀b u,b≠e->s.heap.get? b=some u->h'.get? b=some u)(heo:∃u,h'.get? e=some u)
 (new:ObjOk X.prog X.w (upd H x o) h' x o):Inv X pins σ (upd H x o) { s with heap:=h',toks:=t' }:=I.un (Un.write mu he k heo) (I.hok.write mu he k heo new)
theorem Inv.weak {σ':List (Option V)}(I:Inv X pins σ H s)(hl:σ'.length=σ.length)(w:∀(i:Nat) v,σ'[i]? = some (some v)->σ[i]? = some (some v)):Inv X pins σ' H s:=
 ⟨I.ok,I.os,I.bare,I.base,let ⟨m,hn,hl'⟩:=I.loc;⟨m,hn,fun i x v e1 e2 e3=>hl' i x v e1 (w i v e2) e3⟩,I.cell,I.free,I.freeC,I.pin,I.hok,hl.trans I.len⟩
theorem Inv.pins_of {pins':List (Addr×Obj)}(I:Inv X pins σ H s)(h:∀p∈pins',s.heap.get? p.1=some p.2/\H p.1=none/\p.1≠X.env.locals/\p.1∉X.fs/\∀v,p.2.data ≠ .cell v):Inv X pins' σ H s:=
 ⟨I.ok,I.os,I.bare,I.base,I.loc,I.cell,I.free,I.freeC,fun p hp=>(List.mem_append.mp hp).elim (fun z=>I.pin p (List.mem_append_left _ z)) (h p),I.hok,I.len⟩
theorem nodup_ix {N:List Str}(hN:N.Nodup){i j:Nat}{x:Str}(a:N[i]? = some x)(b:N[j]? = some x):i=j:=by
 obtain⟨h1,e1⟩:=List.getElem?_eq_some_iff.mp a
 obtain⟨h2,e2⟩:=List.getElem?_eq_some_iff.mp b
 exact (List.getElem_inj hN).mp (e1.trans e2.symm)
theorem store_ok2 {M:Model}{A:Around}{E:Value->Shared->Prop}{i:Nat}{x:Str}{v:V}{u:Value}{Q:Unit->Shared->Prop}(I:Inv X pins σ H s)(hN:X.N.Nodup)(hi:X.N[i]? = some x)(hx:Loc X.env.scope x)(r:RelV v u)
 (h:∀s',Inv X pins (σ.set i (some v)) H s'->(∃a,Heap.SameBut a s.heap s'.heap/\(a=X.env.locals\/X.env.cells.lookup x=some a))->Q () s')(hf:X.fn x=true\/X.env.scope.names.lookup x=some .local:=by first | exact .inl rfl | exact .inr rfl | assumption):wpAny M A (storeName X.env x u) Q E s:=by
 obtain⟨m,hn,hl⟩:=id I.loc
 have hcls:(X.env.scope.kind == .class || (X.env.scope.kind == .module && X.env.locals != X.env.globals))=false:=by rw[I.ok.kind];rfl
 have hiσ:i<σ.length:=by rw[I.len];exact (List.getElem?_eq_some_iff.mp hi).1
 have cne:=I.cne
 have tracked:∀{a:Addr}{h':Heap},(∃o,s.heap.get? a=some o/\H a=none)->Heap.SameBut a s.heap h'->HOk X.prog X.w H h':=fun {a h'} ha hs b ob e=>by
  obtain⟨_,_,hfree⟩:=ha
  refine (I.hok b ob e).stay (fun c w' hc q=>(hs.2 c ?_).trans q) (fun _ q=>q) fun _ _ q=>q
  rintro rfl
  rcases hc with rfl | hc
  . rw[hfree] at e;cases e
  . rw[hfree] at hc;cases hc
 rcases hx with hk | hk
 . refine wpAny_storeName_local hk hn (fun h' hn' hs=>?_) hcls
   obtain⟨oL,_,_,hoL,_⟩:=id hn
   refine h _ ⟨I.ok,I.os,I.bare,⟨fun b o e n hb hx=>?_,fun b o e n hb hx=>?_,I.base.free,fun b o e hx=>?_,I.base.tups,I.base.frzs,I.base.tbls⟩,⟨_,hn',fun j y v' e1 e2 e3=>?_⟩,fun y c e=>?_,I.free,I.freeC,fun p hp=>?_,tracked ⟨oL,hoL,I.free⟩ hs,by simpa using I.len⟩ ⟨_,hs,.inl rfl⟩
   . exact (hs.2 b (Nat.ne_of_lt (Nat.lt_of_lt_of_le (Heap.lt_size e) I.ok.above))).trans (I.base.keep b o e n hb hx)
   . obtain⟨sl,e1⟩:=I.base.slot b o e n hb hx
     exact⟨sl,(hs.2 b (Nat.ne_of_lt (Nat.lt_of_lt_of_le (Heap.lt_size e) I.ok.above))).trans e1⟩
   . obtain⟨o',e1⟩:=I.base.there b o e hx
     exact⟨o',(hs.2 b (Nat.ne_of_lt (Nat.lt_of_lt_of_le (Heap.lt_size e) I.ok.above))).trans e1⟩
   . by_cases hj:j=i
     . subst hj
       rw[hi] at e1;cases e1
       rw[List.getElem?_set_self hiσ] at e2
       cases e2
       exact⟨u,r,.inl ⟨hk,by simp⟩⟩
     . rw[List.getElem?_set_ne (Ne.symm hj)] at e2
       obtain⟨u',r',q⟩:=hl j y v' e1 e2 e3
       refine⟨u',r',?_⟩
       rcases q with ⟨k,e⟩ | ⟨k,c,e,z⟩
       . refine .inl ⟨k,?_⟩
         have:y≠x:=fun e=>hj (nodup_ix hN e1 (e ▸ hi))
         simp[this,e]
       . exact .inr ⟨k,c,e,z.sameBut hs (cne y c e)⟩
   . obtain⟨w',z⟩:=I.cell y c e
     exact⟨w',z.sameBut hs (cne y c e)⟩
   . obtain⟨e,n,ne,nf,d⟩:=I.pin p hp
     exact⟨(hs.2 p.1 ne).trans e,n,ne,nf,d⟩
 . have hfn:X.fn x=true:=by
    rcases hf with z | z
    . exact z
    . rw[z] at hk;cases hk
   obtain⟨c,hc⟩:=I.ok.has x (.inl hk)
   obtain⟨w',z⟩:=I.cell x c hc
   refine wpAny_storeName_cell I.ok.kind hk hc z (fun h' hc' hs=>?_)
   obtain⟨oc,hoc,hocd⟩:=id z
   refine h { s with heap:=h' } ⟨I.ok,I.os,I.bare,⟨fun b o e n hb hx=>?_,fun b o e n hb hx=>?_,I.base.free,fun b o e hx=>?_,I.base.tups,I.base.frzs,I.base.tbls⟩,⟨m,hn.sameBut hs (Ne.symm (cne x c hc)),fun j y v' e1 e2 e3=>?_⟩,fun y c' e=>?_,I.free,I.freeC,fun p hp=>?_,tracked ⟨oc,hoc,I.freeC x c hc⟩ hs,by simpa using I.len⟩ ⟨c,hs,.inr hc⟩
   . exact (hs.2 b (Nat.ne_of_lt (Nat.lt_of_lt_of_le (Heap.lt_size e) (I.ok.cab x c hfn hc)))).trans (I.base.keep b o e n hb hx)
   . obtain⟨sl,e1⟩:=I.base.slot b o e n hb hx
     exact⟨sl,(hs.2 b (Nat.ne_of_lt (Nat.lt_of_lt_of_le (Heap.lt_size e) (I.ok.cab x c hfn hc)))).trans e1⟩
   . obtain⟨o',e1⟩:=I.base.there b o e hx
     exact⟨o',(hs.2 b (Nat.ne_of_lt (Nat.lt_of_lt_of_le (Heap.lt_size e) (I.ok.cab x c hfn hc)))).trans e1⟩
   . by_cases hj:j=i
     . subst hj
       rw[hi] at e1;cases e1
       rw[List.getElem?_set_self hiσ] at e2
       cases e2
       exact⟨u,r,.inr ⟨.inl hk,c,hc,hc'⟩⟩
     . rw[List.getElem?_set_ne (Ne.symm hj)] at e2
       obtain⟨u',r',q⟩:=hl j y v' e1 e2 e3
       refine⟨u',r',?_⟩
       rcases q with q | ⟨k,c',e,z'⟩
       . exact .inl q
       . refine .inr ⟨k,c',e,z'.sameBut hs ?_⟩
         rintro rfl
         exact hj (nodup_ix hN e1 (I.ok.inj _ _ _ e hc ▸ hi))
   . by_cases hcc:c'=c
     . subst hcc;exact⟨_,hc'⟩
     . obtain⟨w2,z2⟩:=I.cell y c' e
       exact⟨w2,z2.sameBut hs hcc⟩
   . obtain⟨e,n,ne,nf,d⟩:=I.pin p hp
     refine⟨(hs.2 p.1 ?_).trans e,n,ne,nf,d⟩
     intro q
     rw[q,hoc] at e
     have q':oc=p.2:=Option.some.inj e
     exact d w' (by rw[<-q'];exact hocd)
theorem store_ok {M:Model}{A:Around}{E:Value->Shared->Prop}{i:Nat}{x:Str}{v:V}{u:Value}{Q:Unit->Shared->Prop}(I:Inv X pins σ H s)(hN:X.N.Nodup)(hi:X.N[i]? = some x)(hx:Loc X.env.scope x)(r:RelV v u)
 (h:∀s',Inv X pins (σ.set i (some v)) H s'->Q () s')(hf:X.fn x=true\/X.env.scope.names.lookup x=some .local:=by first | exact .inl rfl | exact .inr rfl | assumption):wpAny M A (storeName X.env x u) Q E s:=
 store_ok2 I hN hi hx r (fun s' I' _=>h s' I') hf
theorem Inv.call' {s':Shared}{ch:List Addr}(I:Inv X pins σ H s)(ho:s'.os=s.os)(u:Un (frs X.stack) ch H H' s.heap s'.heap)(hok:HOk X.prog X.w H' s'.heap)(hg:AllBare s'.gens)
 (hch:∀b∈ch,(b∈X.ex\/X.s₀.heap.objs.size<=b)/\b≠X.env.locals/\(∀x c,X.env.cells.lookup x=some c->c≠b)/\∀p∈X.pn++pins,p.1≠b):Inv X pins σ H' s':=by
 obtain⟨h',g',d',t',o'⟩:=s'
 have e:o'=s.os:=ho
 subst e
 exact I.call (g':=g') (t':=t') (d':=d') u hok hg hch
end
abbrev XK:=Value->Option Addr->Hp->Prop
abbrev St:=List (Option V)
abbrev VK:=V->Hp->Prop
abbrev TE:=St->Hp->VK->Prop
abbrev TT:=St->Hp->(Bool->Hp->Prop)->Prop
abbrev TA:=St->Hp->(List V->Hp->Prop)->Prop
structure Ends where
 nx:St->Hp->Prop
 rt:VK
 bk:St->Hp->Prop:=fun _ _=>False
 ct:St->Hp->Prop:=fun _ _=>False
abbrev TS:=Ends->St->Hp->Prop
def EP (X:Cx)(pins:List (Addr×Obj))(σ:St)(Q:VK)(u:Value)(s':Shared):Prop:=∃v H',Inv X pins σ H' s'/\RelV v u/\Q v H'
def TP (X:Cx)(pins:List (Addr×Obj))(σ:St)(Q:Bool->Hp->Prop)(b:Bool)(s':Shared):Prop:=∃H',Inv X pins σ H' s'/\Q b H'
def AP (X:Cx)(pins:List (Addr×Obj))(σ:St)(Q:List V->Hp->Prop)(us:List Value)(s':Shared):Prop:=∃vs H',Inv X pins σ H' s'/\Vals vs us/\Q vs H'
def SP (X:Cx)(pins:List (Addr×Obj))(D:Ends)(f:Flow)(s':Shared):Prop:=
 match f with
 | .next=>∃ σ' H',Inv X pins σ' H' s'/\D.nx σ' H'
 | .brk=>∃ σ' H',Inv X pins σ' H' s'/\D.bk σ' H'
 | .cont=>∃ σ' H',Inv X pins σ' H' s'/\D.ct σ' H'
 | .ret u=>∃v σ' H',Inv X pins σ' H' s'/\RelV v u/\D.rt v H'
def PE (X:Cx)(e:Expr)(t:TE):Prop:=
 ∀(pins:List (Addr×Obj))(s:Shared)(σ:St)(H:Hp)(Q:VK),Inv X pins σ H s->t σ H Q->wpAny (model X.prog X.w) X.A (eval e X.env) (EP X pins σ Q) X.xe s
def PT (X:Cx)(e:Expr)(t:TT):Prop:=
 ∀(pins:List (Addr×Obj))(s:Shared)(σ:St)(H:Hp)(Q:Bool->Hp->Prop),Inv X pins σ H s->t σ H Q->wpAny (model X.prog X.w) X.A (isTrue e X.env (eval e X.env)) (TP X pins σ Q) X.xe s
def PW (X:Cx)(e:Expr)(t:TT):Prop:=
 ∀(whole:Sem Value)(pins:List (Addr×Obj))(s:Shared)(σ:St)(H:Hp)(Q:Bool->Hp->Prop),Inv X pins σ H s->t σ H Q->wpAny (model X.prog X.w) X.A (isTrue e X.env whole) (TP X pins σ Q) X.xe s
theorem PW.pt {X:Cx}{e:Expr}{t:TT}(h:PW X e t):PT X e t:=h _
def PA (X:Cx)(es:List Expr)(t:TA):Prop:=
 ∀(pos:Pos)(pins:List (Addr×Obj))(s:Shared)(σ:St)(H:Hp)(Q:List V->Hp->Prop),Inv X pins σ H s->t σ H Q->wpAny (model X.prog X.w) X.A (spliced (backTo pos (starEach es X.env))) (AP X pins σ Q) X.xe s
def PS (X:Cx)(st:Stmt)(t:TS):Prop:=
 ∀(pins:List (Addr×Obj))(s:Shared)(σ:St)(H:Hp)(D:Ends),Inv X pins σ H s->t D σ H->wpAny (model X.prog X.w) X.A (exec st X.env) (SP X pins D) X.xe s
def PSs (X:Cx)(st:List Stmt)(t:TS):Prop:=
 ∀(pins:List (Addr×Obj))(s:Shared)(σ:St)(H:Hp)(D:Ends),Inv X pins σ H s->t D σ H->wpAny (model X.prog X.w) X.A (execs st X.env) (SP X pins D) X.xe s
theorem thn {α:Type}{t:Sem α}{Q Q':α->Shared->Prop}{M:Model}{A:Around}{E:Value->Shared->Prop}{s:Shared}(h:wpAny M A t Q E s)(hQ:∀a s,Q a s->Q' a s):wpAny M A t Q' E s:=wpAny_mono h hQ fun _ _ x=>x
end L2
namespace L2
open PySem PySem.Spec PyProof.Rows
section
variable {X:Cx}
theorem bin {a b:Expr}{ta tb:TE}(ha:PE X a ta)(hb:PE X b tb){pins:List (Addr×Obj)}{s:Shared}{σ:St}{H:Hp}{R:V->V->Hp->Prop}(I:Inv X pins σ H s)(h:ta σ H fun x H1=>tb σ H1 fun y H2=>R x y H2)
 {α:Type}{Q:α->Shared->Prop}{f:Value->Value->Sem α}
 (hf:∀v u s2 x y H2,Inv X pins σ H2 s2->RelV x v->RelV y u->R x y H2->wpAny (model X.prog X.w) X.A (f v u) Q X.xe s2) :
 wpAny (model X.prog X.w) X.A (eval a X.env) (fun v s₁=>wpAny (model X.prog X.w) X.A (eval b X.env) (fun u s₂=>wpAny (model X.prog X.w) X.A (f v u) Q X.xe s₂) X.xe s₁) X.xe s:=by
 refine thn (ha pins s σ H _ I h) fun v s1 ⟨x,H1,I1,r1,q1⟩=>?_
 refine thn (hb pins s1 σ H1 _ I1 q1) fun u s2 ⟨y,H2,I2,r2,q2⟩=>?_
 exact hf v u s2 x y H2 I2 r1 r2 q2
def tVar (i:Nat):TE:=fun σ H Q=>∃v,σ[i]? = some (some v)/\Q v H
def tC (v:V):TE:=fun _ H Q=>Q v H
theorem pe_var {i:Nat}{x:Str}{pos:Pos}(hN:X.N[i]? = some x)(hv:Vis X.env.scope x)(hd:(x==("__debug__" : Str))=false:=by decide) (hcd:(x==("__classdict__" : Str))=false:=by decide):PE X (.Name x pos) (tVar i):=by
 intro pins s σ H Q I h
 obtain⟨v,e,h⟩:=h
 obtain⟨m,hn,hl⟩:=I.loc
 obtain⟨u,r,l⟩:=hl i x v hN e hv
 have fin:EP X pins σ Q u s:=⟨v,H,I,r,h⟩
 rcases l with ⟨hk,hm⟩ | ⟨hk,c,hc,hcell⟩
 . exact wpAny_Name (wpAny_loadName_local I.ok.kind hk hn hm fin) hd
 . rcases hk with hk | hk
   . exact wpAny_Name (wpAny_loadName_cell I.ok.kind hk hc hcell fin) hd
   . exact wpAny_Name (wpAny_loadName_free I.ok.kind hk hc hcell fin hcd) hd
theorem pe_int {i j pos}:PE X (.Constant (.int i) j pos) (tC (.int i)):=fun _ _ _ H _ I h=>wpAny_Constant_int ⟨.int i,H,I.tok _,⟨_,rfl⟩,h⟩
theorem pe_bl {b j pos}:PE X (.Constant (.bool b) j pos) (tC (.bl b)):=fun _ _ _ H _ I h=>Constant_bool ⟨.bl b,H,I,rfl,h⟩
theorem pe_non {j pos}:PE X (.Constant .none j pos) (tC .non):=fun _ _ _ H _ I h=>Constant_none ⟨.non,H,I,rfl,h⟩
theorem pe_str {x j pos}:PE X (.Constant (.str x) j pos) (tC (.str x)):=fun _ _ _ H _ I h=>Calls.Constant_str ⟨.str x,H,I.tok _,⟨_,rfl⟩,h⟩
def Gl (X:Cx)(x:Str):Prop:=X.env.kindOf x=some .globalImplicit
theorem ld_glob {E:Value->Shared->Prop}{pins:List (Addr×Obj)}{s:Shared}{σ:St}{H:Hp}{x:Str}{u:Value}{pos:Pos}{Q:Value->Shared->Prop}(I:Inv X pins σ H s)(hg:Gl X x)(hm:X.mg x=some u)(h:Q u s)
 (hd:(x==("__debug__" : Str))=false:=by decide):wpAny (model X.prog X.w) X.A (eval (.Name x pos) X.env) Q E s:=
 Calls.Name_function_global I.ok.kind hg (Calls.loadGlobal_global (by rw[I.ok.glob];exact I.mod.glob.keeps I.bk) hm h) hd
theorem ld_blt {E:Value->Shared->Prop}{pins:List (Addr×Obj)}{s:Shared}{σ:St}{H:Hp}{x:Str}{u:Value}{pos:Pos}{Q:Value->Shared->Prop}(I:Inv X pins σ H s)(hg:Gl X x)(hm:X.mg x=none)(hv:bootBuiltins x=some u)(h:Q u s)
 (hn:x ≠ "__name__" := by decide) (hd:(x==("__debug__" : Str))=false:=by decide):wpAny (model X.prog X.w) X.A (eval (.Name x pos) X.env) Q E s:=by
 obtain⟨mb,h1,h2⟩:=I.mod.blt
 exact Calls.Name_function_global I.ok.kind hg (Calls.loadGlobal_builtin (by rw[I.ok.glob];exact I.mod.glob.keeps I.bk) hm (by rw[I.ok.blt];exact h1.keeps I.bk) ((h2 x hn).trans hv) h) hd
theorem pe_glob {x:Str}{v:V}{u:Value}{pos:Pos}(hg:Gl X x)(hm:X.mg x=some u)(r:RelV v u)(hd:(x==("__debug__" : Str))=false:=by decide):PE X (.Name x pos) (tC v):=
 fun _ _ _ H _ I h=>ld_glob I hg hm ⟨v,H,I,r,h⟩ hd
variable {a b:Expr}{ta tb:TE}{pos:Pos}
def PC (X:Cx)(op:CmpOp)(a b:Expr)(t:TE):Prop:=
 ∀(pins:List (Addr×Obj))(s:Shared)(σ:St)(H:Hp)(Q:VK),Inv X pins σ H s->t σ H Q ->
  wpAny (model X.prog X.w) X.A (eval a X.env) (fun v s₁=>wpAny (model X.prog X.w) X.A (eval b X.env) (fun u s₂=>wpAny (model X.prog X.w) X.A (compareOp op v u) (EP X pins σ Q) X.xe s₂) X.xe s₁) X.xe s
def tB (t:TE):TT:=fun σ H Q=>t σ H fun x H1=>∃c,x = .bl c/\Q c H1
theorem pt_cmp {op:CmpOp}{t:TE}(h:PC X op a b t)(h1:behindInMarks op b=false:=by first | exact nobehind _ (by decide) (by decide) | rfl):PT X (.Compare a [op] [b] pos) (tB t):=by
 intro pins s σ H Q I hw
 refine wpAny_isTrue_Compare1 (thn (h pins s σ H _ I hw) fun v s1 h1=>thn h1 fun u s2 h2=>thn h2 fun c s3 ⟨x,H1,I1,r1,q1⟩=>?_) h1
 obtain⟨d,rfl,q⟩:=q1
 cases r1
 exact wpAny_truthy_bool ⟨H1,I1,q⟩
theorem pt_val {e:Expr}{t:TE}(h:PE X e t)(he:∀whole,isTrue e X.env whole=(do let v <-whole;standAt e.pos;holding [v] (truthy v)):=by intro _;rfl):PT X e (tB t):=by
 intro pins s σ H Q I hw
 refine isTrue_plain (thn (h pins s σ H _ I hw) fun v s1 ⟨x,H1,I1,r1,q1⟩=>?_) (he _)
 obtain⟨d,rfl,q⟩:=q1
 cases r1
 exact wpAny_truthy_bool ⟨H1,I1,q⟩
variable {tA tB':TT}{rest:List Expr}
def tAnd (t u:TT):TT:=fun σ H Q=>t σ H fun c H1=>if c=true then u σ H1 Q else Q false H1
def tOr (t u:TT):TT:=fun σ H Q=>t σ H fun c H1=>if c=true then Q true H1 else u σ H1 Q
def tNot (t:TT):TT:=fun σ H Q=>t σ H fun c H1=>Q (!c) H1
theorem pw_and1 (ha:PT X a tA):PW X (.BoolOp .And [a] pos) tA:=by
 intro wh pins s σ H Q I h
 refine isTrue_and (thn (ha pins s σ H Q I h) fun c s1 e=>?_)
 cases c with
 | true=>exact isTrue_and_nil e
 | false=>exact e
theorem pw_or1 (ha:PT X a tA):PW X (.BoolOp .Or [a] pos) tA:=by
 intro wh pins s σ H Q I h
 refine isTrue_or (thn (ha pins s σ H Q I h) fun c s1 e=>?_)
 cases c with
 | false=>exact isTrue_or_nil e
 | true=>exact e
theorem pw_and (ha:PT X a tA)(hb:PW X (.BoolOp .And (b::rest) pos) tB'):PW X (.BoolOp .And (a::b::rest) pos) (tAnd tA tB'):=by
 intro wh pins s σ H Q I h
 refine isTrue_and (thn (ha pins s σ H _ I h) fun c s1 ⟨H1,I1,q1⟩=>?_)
 cases c with
 | true=>exact hb wh pins s1 σ H1 Q I1 q1
 | false=>exact⟨H1,I1,q1⟩
theorem pw_or (ha:PT X a tA)(hb:PW X (.BoolOp .Or (b::rest) pos) tB'):PW X (.BoolOp .Or (a::b::rest) pos) (tOr tA tB'):=by
 intro wh pins s σ H Q I h
 refine isTrue_or (thn (ha pins s σ H _ I h) fun c s1 ⟨H1,I1,q1⟩=>?_)
 cases c with
 | true=>exact⟨H1,I1,q1⟩
 | false=>exact hb wh pins s1 σ H1 Q I1 q1
theorem pt_not (ha:PT X a tA):PT X (.UnaryOp .Not a pos) (tNot tA):=by
 intro pins s σ H Q I h
 exact isTrue_not (ha pins s σ H (fun c H1=>Q (!c) H1) I h)
def tAndV (ta tb:TE):TE:=fun σ H Q=>ta σ H fun x H1=>∃c,x = .bl c/\if c=true then tb σ H1 Q else Q (.bl false) H1
def tOrV (ta tb:TE):TE:=fun σ H Q=>ta σ H fun x H1=>∃c,x = .bl c/\if c=true then Q (.bl true) H1 else tb σ H1 Q
def tNotV (ta:TE):TE:=fun σ H Q=>ta σ H fun x H1=>∃c,x = .bl c/\Q (.bl (!c)) H1
theorem pe_one {op} {t:TE}(h:PE X a t):PE X (.BoolOp op [a] pos) t:=fun pins s σ H Q I hw=>BoolOp_one (h pins s σ H Q I hw)
theorem pe_and (ha:PE X a ta)(hb:PE X (.BoolOp .And (b::rest) pos) tb):PE X (.BoolOp .And (a::b::rest) pos) (tAndV ta tb):=by
 intro pins s σ H Q I h
 refine BoolOp_and (thn (ha pins s σ H _ I h) fun v s1 ⟨x,H1,I1,r1,q1⟩=>?_)
 obtain⟨c,rfl,q1⟩:=q1
 cases r1
 refine wpAny_truthy_bool ?_
 cases c with
 | true=>exact hb pins s1 σ H1 Q I1 q1
 | false=>exact⟨.bl false,H1,I1,rfl,q1⟩
theorem pe_or (ha:PE X a ta)(hb:PE X (.BoolOp .Or (b::rest) pos) tb):PE X (.BoolOp .Or (a::b::rest) pos) (tOrV ta tb):=by
 intro pins s σ H Q I h
 refine BoolOp_or (thn (ha pins s σ H _ I h) fun v s1 ⟨x,H1,I1,r1,q1⟩=>?_)
 obtain⟨c,rfl,q1⟩:=q1
 cases r1
 refine wpAny_truthy_bool ?_
 cases c with
 | false=>exact hb pins s1 σ H1 Q I1 q1
 | true=>exact⟨.bl true,H1,I1,rfl,q1⟩
theorem pe_not (ha:PE X a ta):PE X (.UnaryOp .Not a pos) (tNotV ta):=by
 intro pins s σ H Q I h
 refine UnaryOp_ (thn (ha pins s σ H _ I h) fun v s1 ⟨x,H1,I1,r1,q1⟩=>?_)
 obtain⟨c,rfl,q1⟩:=q1
 cases r1
 exact not_of (wpAny_truthy_bool ⟨.bl (!c),H1,I1,rfl,q1⟩)
def tIf (t:TT)(ta tb:TE):TE:=fun σ H Q=>t σ H fun c H1=>if c=true then ta σ H1 Q else tb σ H1 Q
theorem pe_ifExp {c:Expr}(hc:PT X c tA)(ha:PE X a ta)(hb:PE X b tb):PE X (.IfExp c a b pos) (tIf tA ta tb):=by
 intro pins s σ H Q I h
 refine wpAny_IfExp (thn (hc pins s σ H _ I h) fun d s1 ⟨H1,I1,q1⟩=>?_)
 cases d with
 | true=>exact ha pins s1 σ H1 Q I1 q1
 | false=>exact hb pins s1 σ H1 Q I1 q1
end
end L2
namespace L2
open PySem PySem.Spec PyProof.Rows
def SqL (K:PySem.W.Frag)(H:Hp)(a:Addr)(xs:List V):Prop:=
 Rd H a (.lst xs) \/
  ∃(o:Obj)(its:Array Value)(n:Nat),K.lookup a=some o/\o.cls = .type "list" /\ o.dict=none/\o.data = .seq its n/\its.size<=sizeLine/\Vals xs its.toList
def SqT (K:PySem.W.Frag)(H:Hp)(a:Addr)(xs:List V):Prop:=
 Rd H a (.tup xs) \/
  ∃(o:Obj)(its:Array Value)(n:Nat),K.lookup a=some o/\o.cls = .type "tuple" /\ o.data = .seq its n/\its.size<=sizeLine/\Vals xs its.toList
def absV:Value->Option V
 | .none=>some .non
 | .bool b=>some (.bl b)
 | .int i _=>some (.int i)
 | .str x _=>some (.str x)
 | .bytes b _=>some (.byt b)
 | .float b _=>some (.flt b)
 | .ref a=>some (.ref a)
 | .type n=>some (.ty n)
 | _=>none
theorem RelV.abs {x:V}{u:Value}(r:RelV x u):absV u=some x:=by
 cases x with
 | non=>cases r;rfl
 | bl _=>cases r;rfl
 | int _=>obtain⟨t,rfl⟩:=r;rfl
 | str _=>obtain⟨t,rfl⟩:=r;rfl
 | byt _=>obtain⟨t,rfl⟩:=r;rfl
 | flt _=>obtain⟨t,rfl⟩:=r;rfl
 | ref _=>cases r;rfl
 | ty _=>cases r;rfl
theorem RelV.inj {x y:V}{u:Value}(r:RelV x u)(q:RelV y u):x=y:=Option.some.inj (r.abs.symm.trans q.abs)
theorem Vals.inj:∀{xs ys:List V}{us:List Value},Vals xs us->Vals ys us->xs=ys
 | _,_,_,.nil,.nil=>rfl
 | _,_,_,.cons r t,.cons r' t'=>by rw[r.inj r',Vals.inj t t']
section
variable {X:Cx}{pins:List (Addr×Obj)}{σ:St}{H:Hp}{s:Shared}{a:Addr}{xs ys:List V}
theorem SqL.of {K:PySem.W.Frag}(h:H a=some (.lst xs)):SqL K H a xs:=.inl (.inl h)
theorem SqT.of {K:PySem.W.Frag}(h:H a=some (.tup xs)):SqT K H a xs:=.inl (.inl h)
theorem Inv.list (I:Inv X pins σ H s)(h:SqL X.K H a xs):∃its:List Value,Vals xs its/\PlainL s.heap a its.toArray/\xs.length<=sizeLine:=by
 rcases h with h | ⟨o,its,n,hk,hc,hd,hs,hz,r⟩
 . obtain⟨z,its,n,r,e⟩:=h.ok I.hok
   exact⟨its,r,⟨_,n,e,rfl,rfl,rfl⟩,z⟩
 . refine⟨its.toList,r,⟨o,n,I.kIn a o hk,hc,hd,by simpa using hs⟩,?_⟩
   have e:=r.length
   simp only[Array.length_toList] at e
   omega
theorem Inv.tuple (I:Inv X pins σ H s)(h:SqT X.K H a xs):∃its:List Value,Vals xs its/\IsTup s.heap a its.toArray/\xs.length<=sizeLine:=by
 rcases h with h | ⟨o,its,n,hk,hc,hs,hz,r⟩
 . obtain⟨⟨z,_⟩,its,r,p⟩:=h.ok I.hok
   exact⟨its,r,p,z⟩
 . refine⟨its.toList,r,⟨o,I.kIn a o hk,hc,n,by simpa using hs⟩,?_⟩
   have e:=r.length
   simp only[Array.length_toList] at e
   omega
theorem Inv.list_inj (I:Inv X pins σ H s)(h:SqL X.K H a xs)(h':SqL X.K H a ys):xs=ys:=by
 obtain⟨its,r,⟨o,n,e,_,_,d⟩,_⟩:=I.list h
 obtain⟨its',r',⟨o',n',e',_,_,d'⟩,_⟩:=I.list h'
 rw[e] at e';cases e'
 rw[d] at d'
 injection d' with d1 _
 have:its=its':=by simpa using congrArg Array.toList d1
 subst this
 exact r.inj r'
theorem Inv.tuple_inj (I:Inv X pins σ H s)(h:SqT X.K H a xs)(h':SqT X.K H a ys):xs=ys:=by
 obtain⟨its,r,⟨o,e,_,n,d⟩,_⟩:=I.tuple h
 obtain⟨its',r',⟨o',e',_,n',d'⟩,_⟩:=I.tuple h'
 rw[e] at e';cases e'
 rw[d] at d'
 injection d' with d1 _
 have:its=its':=by simpa using congrArg Array.toList d1
 subst this
 exact r.inj r'
end
abbrev Cx.wish (X:Cx)(E:Value->Shared->Prop):Cx:={ X with xe:=E }
abbrev Cx.nox (X:Cx):Cx:=X.wish fun _ _=>False
theorem Cx.Ok.wish {X:Cx}(ok:X.Ok)(E:Value->Shared->Prop):(X.wish E).Ok:=
 ⟨ok.mod,ok.kind,ok.glob,ok.blt,ok.above,ok.inj,ok.has,ok.cab,ok.hd,ok.frames,ok.stk,ok.exf,ok.bs,ok.bsz,ok.noex,ok.exfs,ok.funs,ok.frf⟩
theorem Cx.Ok.unwish {X:Cx}{E:Value->Shared->Prop}(ok:(X.wish E).Ok):X.Ok:=
 ⟨ok.mod,ok.kind,ok.glob,ok.blt,ok.above,ok.inj,ok.has,ok.cab,ok.hd,ok.frames,ok.stk,ok.exf,ok.bs,ok.bsz,ok.noex,ok.exfs,ok.funs,ok.frf⟩
section
variable {X:Cx}{pins:List (Addr×Obj)}{σ:St}{H:Hp}{s:Shared}{E:Value->Shared->Prop}
theorem Inv.wish (I:Inv X pins σ H s)(E:Value->Shared->Prop):Inv (X.wish E) pins σ H s:=⟨I.ok.wish E,I.os,I.bare,I.base,I.loc,I.cell,I.free,I.freeC,I.pin,I.hok,I.len⟩
theorem Inv.unwish (I:Inv (X.wish E) pins σ H s):Inv X pins σ H s:=⟨I.ok.unwish,I.os,I.bare,I.base,I.loc,I.cell,I.free,I.freeC,I.pin,I.hok,I.len⟩
theorem SP.unwish {D:Ends}{f:Flow}{s':Shared}(h:SP (X.wish E) pins D f s'):SP X pins D f s':=by
 cases f with
 | next=>obtain⟨σ',H',I,q⟩:=h;exact⟨σ',H',I.unwish,q⟩
 | brk=>obtain⟨σ',H',I,q⟩:=h;exact⟨σ',H',I.unwish,q⟩
 | cont=>obtain⟨σ',H',I,q⟩:=h;exact⟨σ',H',I.unwish,q⟩
 | ret u=>obtain⟨v,σ',H',I,r,q⟩:=h;exact⟨v,σ',H',I.unwish,r,q⟩
theorem PSs.nox {st:List Stmt}{t:TS}(h:PSs X.nox st t):PSs X st t:=fun pins s σ H D I hw=>
 wpAny_mono (h pins s σ H D (I.wish _) hw) (fun _ _ q=>q.unwish) fun _ _ z=>False.elim z
end
section
variable {X:Cx}{st:Stmt}{rest:List Stmt}{t u:TS}{e:Expr}{te:TE}{pos:Pos}
def tNext:TS:=fun D σ H=>D.nx σ H
def tSeq (t u:TS):TS:=fun D σ H=>t { D with nx:=u D } σ H
theorem pss_nil:PSs X [] tNext:=fun _ _ σ H _ I h=>wpAny_execs_nil ⟨σ,H,I,h⟩
theorem pss_cons (h1:PS X st t)(h2:PSs X rest u):PSs X (st::rest) (tSeq t u):=by
 intro pins s σ H D I h
 refine wpAny_execs_cons (thn (h1 pins s σ H { D with nx:=u D } I h) fun f s1 q=>?_)
 cases f with
 | next=>
  obtain⟨σ',H',I',q⟩:=q
  exact h2 pins s1 σ' H' D I' q
 | ret v=>exact q
 | brk=>exact q
 | cont=>exact q
theorem pss_one (h1:PS X st t):PSs X [st] t:=by
 intro pins s σ H D I h
 refine wpAny_execs_cons (thn (h1 pins s σ H D I h) fun f s1 q=>?_)
 cases f with
 | next=>exact wpAny_execs_nil q
 | ret v=>exact q
 | brk=>exact q
 | cont=>exact q
theorem Inv.quiet {pins:List (Addr×Obj)}{σ:St}{H:Hp}{s:Shared}(I:Inv X pins σ H s):interactive X.env=false:=by simp[interactive,I.ok.kind]
def tDrop (te:TE):TS:=fun D σ H=>te σ H fun _ H1=>D.nx σ H1
theorem ps_expr (he:PE X e te)(hs:swapsWith e none pos.line X.env=pure false:=by rfl):PS X (.Expr e pos) (tDrop te):=by
 intro pins s σ H D I h
 exact wpAny_Expr_any (thn (he pins s σ H _ I h) fun v s1 ⟨x,H1,I1,r1,q1⟩=>⟨σ,H1,I1,q1⟩) I.quiet hs
def tRet (te:TE):TS:=fun D σ H=>te σ H D.rt
theorem ps_ret (he:PE X e te):PS X (.Return (some e) pos) (tRet te):=by
 intro pins s σ H D I h
 exact wpAny_Return_some (thn (he pins s σ H _ I h) fun v s1 ⟨x,H1,I1,r1,q1⟩=>⟨x,σ,H1,I1,r1,q1⟩)
def tIfS (c:TT)(t u:TS):TS:=fun D σ H=>c σ H fun b H1=>if b=true then t D σ H1 else u D σ H1
theorem ps_if {c:Expr}{a b:List Stmt}{tc:TT}(hc:PT X c tc)(ha:PSs X a t)(hb:PSs X b u):PS X (.If c a b pos) (tIfS tc t u):=by
 intro pins s σ H D I h
 refine wpAny_If (thn (hc pins s σ H _ I h) fun d s1 ⟨H1,I1,q1⟩=>?_)
 cases d with
 | true=>exact ha pins s1 σ H1 D I1 q1
 | false=>exact hb pins s1 σ H1 D I1 q1
end
abbrev TG:=V->St->Hp->(St->Hp->Prop)->Prop
abbrev TGs:=List V->St->Hp->(St->Hp->Prop)->Prop
def PG (X:Cx)(target:Expr)(t:TG):Prop:=
 ∀(pins:List (Addr×Obj))(s:Shared)(σ:St)(H:Hp)(v:V)(u:Value)(Q:St->Hp->Prop),Inv X pins σ H s->RelV v u->t v σ H Q ->
  wpAny (model X.prog X.w) X.A (assign target X.env u) (fun _ s'=>∃ σ' H',Inv X pins σ' H' s'/\Q σ' H') X.xe s
def PGs (X:Cx)(ts:List Expr)(t:TGs):Prop:=
 ∀(pins:List (Addr×Obj))(s:Shared)(σ:St)(H:Hp)(vs:List V)(us:List Value)(Q:St->Hp->Prop),Inv X pins σ H s->Vals vs us->t vs σ H Q ->
  wpAny (model X.prog X.w) X.A (assignInOrder ((assignEach ts X.env).map (·.2)) us) (fun _ s'=>∃ σ' H',Inv X pins σ' H' s'/\Q σ' H') X.xe s
abbrev TSet:=V->V->V->Hp->(Hp->Prop)->Prop
def PSet (X:Cx)(t:TSet):Prop:=
 ∀(pins:List (Addr×Obj))(s:Shared)(σ:St)(H:Hp)(o i v:V)(ov iv u:Value)(Q:Hp->Prop),Inv X pins σ H s->RelV o ov->RelV i iv->RelV v u->t o i v H Q ->
  wpAny (model X.prog X.w) X.A (setItem ov iv u) (fun _ s'=>∃H',Inv X pins σ H' s'/\Q H') X.xe s
section
variable {X:Cx}{pos:Pos}
def gName (i:Nat):TG:=fun v σ H Q=>Q (σ.set i (some v)) H
theorem pg_name {i:Nat}{x:Str}(hN:X.N.Nodup)(hi:X.N[i]? = some x)(hx:Loc X.env.scope x)(hf:X.fn x=true\/X.env.scope.names.lookup x=some .local:=by first | exact .inl rfl | exact .inr rfl | assumption):PG X (.Name x pos) (gName i):=by
 intro pins s σ H v u Q I r h
 exact wpAny_assign_Name (store_ok I hN hi hx r (fun s' I'=>⟨_,H,I',h⟩) hf)
def gNil:TGs:=fun vs σ H Q=>vs=[]/\Q σ H
def gCons (t:TG)(u:TGs):TGs:=fun vs σ H Q=>∃v r,vs=v::r/\t v σ H fun σ' H'=>u r σ' H' Q
theorem pgs_nil:PGs X [] gNil:=by
 intro pins s σ H vs us Q I r h
 obtain⟨e,h⟩:=h
 subst e
 cases r
 exact assignInOrder_nil ⟨σ,H,I,h⟩
theorem pgs_cons {e:Expr}{es:List Expr}{t:TG}{u:TGs}(h1:PG X e t)(h2:PGs X es u)
 (hs:(assignEach (e::es) X.env).map (·.2)=assign e X.env::(assignEach es X.env).map (·.2):=by rfl):PGs X (e::es) (gCons t u):=by
 intro pins s σ H vs us Q I r h
 obtain⟨v,vr,e1,h⟩:=h
 subst e1
 cases r with
 | cons r rr=>
  rw[hs]
  refine assignInOrder_cons (thn (h1 pins s σ H _ _ _ I r h) fun _ s1 ⟨σ1,H1,I1,q1⟩=>?_)
  exact h2 pins s1 σ1 H1 _ _ Q I1 rr q1
def gTup (K:PySem.W.Frag)(n:Nat)(t:TGs):TG:=fun v σ H Q=>∃a xs,v = .ref a/\SqT K H a xs/\xs.length=n/\t xs σ H Q
theorem pg_tup {es:List Expr}{k:Nat}{t:TGs}{n:Nat}(hc:X.calm=true)(h:PGs X es t)
 (hn:(assignEach es X.env).length=n:=by rfl)(hst:(assignEach es X.env).findIdx? (·.1)=none:=by rfl):PG X (.Tuple es k pos) (gTup X.K n t):=by
 intro pins s σ H v u Q I r hw
 obtain⟨a,xs,e1,hq,hl,hw⟩:=hw
 subst e1
 cases r
 obtain⟨its,rv,ht,hz⟩:=I.tuple hq
 refine assign_Tuple_tuple (I.ok.hd hc) ht (by simp[hn,<-hl,rv.length]) hst fun h' hx=>?_
 have I1:Inv X pins σ H { s with heap:=h' }:=I.kept (t':=s.toks) fun b o e=>hx b o (Nat.ne_of_lt (Heap.lt_size e)) e
 exact h pins _ σ H xs _ Q I1 (by simpa using rv) hw
def gSub (to ti:TE)(t:TSet):TG:=fun v σ H Q=>to σ H fun o H1=>ti σ H1 fun i H2=>t o i v H2 fun H3=>Q σ H3
theorem pg_sub {o i:Expr}{to ti:TE}{t:TSet}(ho:PE X o to)(hi:PE X i ti)(hs:PSet X t)
 (ha:∀v,assign (.Subscript o i pos) X.env v=(do
  let ov <-holding [v] (eval o X.env)
  let iv <-holding [v,ov] (eval i X.env)
  standAt pos
  holding [v,ov,iv] (setItem ov iv v)
  release [v,ov,iv] []):=by intro _;rfl):PG X (.Subscript o i pos) (gSub to ti t):=by
 intro pins s σ H v u Q I r h
 rw[ha]
 refine wpAny_bind (wpAny_holding (thn (ho pins s σ H _ I h) fun ov s1 ⟨x,H1,I1,r1,q1⟩=>?_))
 refine wpAny_bind (wpAny_holding (thn (hi pins s1 σ H1 _ I1 q1) fun iv s2 ⟨y,H2,I2,r2,q2⟩=>?_))
 refine wpAny_bind (wpAny_standAt (wpAny_bind (wpAny_holding (thn (hs pins s2 σ H2 x y v ov iv u _ I2 r1 r2 r q2) fun _ s3 ⟨H3,I3,q3⟩=>?_))))
 exact wpAny_release ⟨σ,H3,I3,q3⟩
def tAsg (te:TE)(g:TG):TS:=fun D σ H=>te σ H fun x H1=>g x σ H1 D.nx
theorem ps_asg {tg e:Expr}{te:TE}{g:TG}(he:PE X e te)(hg:PG X tg g)(hs:swapsWithSole [tg] e pos.line X.env=pure false:=by rfl)(hw:swappedStores [tg] e X.env=pure none:=by rfl)
 (h1:(assignEach [tg] X.env).map (·.2)=[assign tg X.env]:=by rfl):PS X (.Assign [tg] e pos) (tAsg te g):=by
 intro pins s σ H D I h
 refine wpAny_Assign_stores (thn (he pins s σ H _ I h) fun v s1 ⟨x,H1,I1,r1,q1⟩=>?_) hs hw
 rw[h1]
 exact thn (hg pins s1 σ H1 x v _ I1 r1 q1) fun _ s2 q=>q
theorem ps_set {i:Nat}{x:Str}{e:Expr}{te:TE}{pos':Pos}(hN:X.N.Nodup)(hi:X.N[i]? = some x)(hx:Loc X.env.scope x)(he:PE X e te)(hs:swapsWith e (some (.Name x pos')) pos.line X.env=pure false:=by rfl)(hf:X.fn x=true\/X.env.scope.names.lookup x=some .local:=by first | exact .inl rfl | exact .inr rfl | assumption) :
 PS X (.Assign [.Name x pos'] e pos) (tAsg te (gName i)):=by
 intro pins s σ H D I h
 refine wpAny_Assign_Name (thn (he pins s σ H _ I h) fun v s1 ⟨y,H1,I1,r1,q1⟩=>?_) hs
 exact store_ok I1 hN hi hx r1 (fun s2 I2=>⟨_,H1,I2,q1⟩) hf
end
section
variable {X:Cx}{pos:Pos}
def tWhile (c:TT)(tb:TS):TS:=fun D σ H=>∃W:Nat->St->Hp->Prop,(∃m,W m σ H)/\∀m σ H,W m σ H ->
 c σ H fun b H1=>if b=true then ∃N:St->Hp->Prop,(∀ σ' H',N σ' H'->∃m',m'<m/\W m' σ' H')/\tb { D with nx:=N,ct:=N,bk:=D.nx } σ H1 else D.nx σ H1
theorem ps_while {c:Expr}{body:List Stmt}{tc:TT}{tb:TS}(hp:PassesOwn (model X.prog X.w) X.A X.env X.xe)(hc:PT X c tc)(hb:PSs X body tb):PS X (.While c body [] pos) (tWhile tc tb):=by
 intro pins s σ H D I h
 obtain⟨W,⟨m0,w0⟩,turn⟩:=h
 refine wpAny_While (codeAny_whileLoop (fun n s'=>∃ σ' H',Inv X pins σ' H' s'/\W n σ' H') ?_ m0 ⟨σ,H,I,w0⟩)
 rintro n s1 ⟨σ1,H1,I1,w1⟩
 refine wpAny_passesOwn hp (thn (hc pins s1 σ1 H1 _ I1 (turn n σ1 H1 w1)) fun b s2 ⟨H2,I2,q2⟩=>?_)
 cases b with
 | true=>
  obtain⟨N,hN,q2⟩:=q2
  rw[if_pos rfl]
  refine wpAny_passesOwn hp (thn (hb pins s2 σ1 H2 _ I2 q2) fun f s3 q3=>?_)
  cases f with
  | next=>
   obtain⟨σ3,H3,I3,n3⟩:=q3
   obtain⟨m',hm,w3⟩:=hN σ3 H3 n3
   exact⟨m',hm,σ3,H3,I3,w3⟩
  | cont=>
   obtain⟨σ3,H3,I3,n3⟩:=q3
   obtain⟨m',hm,w3⟩:=hN σ3 H3 n3
   exact⟨m',hm,σ3,H3,I3,w3⟩
  | brk=>exact q3
  | ret v=>exact q3
 | false=>
  rw[if_neg Bool.false_ne_true]
  exact wpAny_execs_nil ⟨σ1,H2,I2,q2⟩
end
structure It where
 go:Nat->Hp->Prop
 yld:Nat->Hp->V->Hp->Prop
 stop:Nat->Hp->Prop
def FpOk (X:Cx)(pins:List (Addr×Obj))(H:Hp)(b:Addr):Prop:=
 H b=none/\b≠X.env.locals/\b∉X.fs/\(b∈X.ex\/X.s₀.heap.objs.size<=b)/\(∀x c,X.env.cells.lookup x=some c->c≠b)/\∀p∈X.pn++pins,p.1≠b
theorem Inv.fpOk {X:Cx}{pins:List (Addr×Obj)}{σ:St}{H H':Hp}{s:Shared}{b:Addr}(I:Inv X pins σ H s)(hb:s.heap.objs.size<=b)(hn:H' b=none):FpOk X pins H' b:=by
 refine⟨hn,Nat.ne_of_gt (Nat.lt_of_lt_of_le I.lt hb),I.nofs hb,.inr (Nat.le_trans I.sz hb),fun x c e z=>?_,fun p hp z=>?_⟩
 . obtain⟨v,q⟩:=I.cell x c e
   exact absurd (Nat.lt_of_lt_of_le q.lt (by rw[z];exact hb)) (Nat.lt_irrefl _)
 . exact absurd (Nat.lt_of_lt_of_le (Heap.lt_size (I.pin p hp).1) (by rw[z];exact hb)) (Nat.lt_irrefl _)
structure Turn (P:Program)(w:World)(K:PySem.W.Frag)(tg:Expr)(J:It)(fp:List Addr)(it:Addr)(tn:Nat->Heap->Prop):Prop where
 mem:it∈fp
 obj:∀i h,tn i h->∀b∈fp,∃o,h.get? b=some o/\∀v,o.data ≠ .cell v
 keep:∀i h h',tn i h->(∀b∈fp,∀o,h.get? b=some o->h'.get? b=some o)->tn i h'
 item:∀(X:Cx),X.prog=P->X.w=w->X.K=K->X.calm=true->∀(i:Nat)(pins:List (Addr×Obj))(s:Shared)(σ:St)(H:Hp)(E:Value->Shared->Prop),Inv X pins σ H s->(∀b∈fp,FpOk X pins H b)->tn i s.heap->J.go i H ->
  wpAny (model P w) X.A (pyNext (.ref it)) (fun r s1=>∃u,r=some u /\
   wpAny (model P w) X.A (letOwnedTupleGo tg (.ref it) u) (fun _ s2=>∃x H',Inv X pins σ H' s2/\RelV x u/\J.yld i H x H'/\tn (i+1) s2.heap/\∀b∈fp,H' b=none) E s1) E s
 done:∀(X:Cx),X.prog=P->X.w=w->X.K=K->X.calm=true->∀(i:Nat)(pins:List (Addr×Obj))(s:Shared)(σ:St)(H:Hp)(E:Value->Shared->Prop),Inv X pins σ H s->(∀b∈fp,FpOk X pins H b)->tn i s.heap->J.stop i H ->
  wpAny (model P w) X.A (pyNext (.ref it)) (fun r s1=>r=none/\Inv X pins σ H s1) E s
 self:∀(A:Around)(i:Nat)(s:Shared)(Q:Value->Shared->Prop)(E:Value->Shared->Prop),tn i s.heap->Q (.ref it) s->wpAny (model P w) A (pyIter (.ref it)) Q E s
abbrev TI:=St->Hp->(It->Hp->Prop)->Prop
def PIE (X:Cx)(pins:List (Addr×Obj))(σ:St)(tg:Expr)(R:It->Hp->Prop)(itv:Value)(s2:Shared):Prop:=
 ∃(it:Addr)(fp:List Addr)(tn:Nat->Heap->Prop)(J:It)(H':Hp),itv = .ref it/\Inv X pins σ H' s2/\Turn X.prog X.w X.K tg J fp it tn/\tn 0 s2.heap/\(∀b∈fp,FpOk X pins H' b)/\R J H'
def PI (X:Cx)(tg iter:Expr)(wi:TI):Prop:=
 ∀(pins:List (Addr×Obj))(s:Shared)(σ:St)(H:Hp)(R:It->Hp->Prop),Inv X pins σ H s->wi σ H R ->
  wpAny (model X.prog X.w) X.A (eval iter X.env) (fun v s1=>wpAny (model X.prog X.w) X.A (pyIter v) (PIE X pins σ tg R) X.xe s1) X.xe s
theorem go_of {M:Model}{A:Around}{E:Value->Shared->Prop}{s:Shared}{tg:Expr}{it:Addr}{u:Value}{o:Obj}{n:String}{vs:Array Value}{Q:Unit->Shared->Prop}(ho:s.heap.get? it=some o)(hc:o.cls = .type n)(hd:o.data = .fields vs)
 (hn:["enumerate", "zip", "dict_itemiterator", "dict_reverseitemiterator", "odict_iterator", "itertools.zip_longest", "itertools.pairwise"].contains n=false) (hQ:Q () s):wpAny M A (letOwnedTupleGo tg (.ref it) u) Q E s:=by
 unfold letOwnedTupleGo
 cases tg <;> first
  | exact wpAny_pure hQ
  | (cases u <;> first
   | exact wpAny_pure hQ
   | (refine wpAny_bind (wpAny_load ho ?_)
      rw[hc,hd]
      show wpAny M A (if (["enumerate", "zip", "dict_itemiterator", "dict_reverseitemiterator", "odict_iterator", "itertools.zip_longest", "itertools.pairwise"].contains n && vs[0]? == some (rawInt _))=true then _ else _) Q E s
      rw[if_neg (by intro h;rw[hn,Bool.false_and] at h;cases h)]
      exact wpAny_pure hQ))
def Itl (K:PySem.W.Frag)(a:Addr):It:=
 ⟨fun i H=>∃xs x,SqL K H a xs/\xs[i]? = some x,fun i H x H'=>H'=H/\∀xs,SqL K H a xs->xs[i]? = some x,fun i H=>∃xs,SqL K H a xs/\xs.length<=i⟩
def Itt (K:PySem.W.Frag)(a:Addr):It:=
 ⟨fun i H=>∃xs x,SqT K H a xs/\xs[i]? = some x,fun i H x H'=>H'=H/\∀xs,SqT K H a xs->xs[i]? = some x,fun i H=>∃xs,SqT K H a xs/\xs.length<=i⟩
def Itr (lo:Int)(n:Nat):It:=⟨fun i _=>i<n,fun i H x H'=>H'=H/\x = .int (lo+i),fun i _=>n<=i⟩
theorem turn_list {P:Program}{w:World}{K:PySem.W.Frag}{tg:Expr}(a it:Addr):Turn P w K tg (Itl K a) [it] it (fun i h=>h.IsListIter it a i) where
 mem:=by simp
 obj:=fun i h st b hb=>by
  have e:b=it:=by simpa using hb
  subst e
  obtain⟨o,e,c,d⟩:=st
  exact⟨o,e,fun v z=>by rw[d] at z;cases z⟩
 keep:=fun i h h' st k=>st.at fun o e=>k it (by simp) o e
 item:=by
  intro X hP hw hK hc i pins s σ H E I hf st hg
  subst hP hw hK
  obtain⟨xs,x,hq,hx⟩:=hg
  obtain⟨its,rv,p,hz⟩:=I.list hq
  obtain⟨u,hu,ru⟩:=rv.get hx
  obtain⟨f0,f1,f2,f3,f4,f5⟩:=hf it (by simp)
  refine wpAny_pyNext_list_item st p.isList (x:=u) (by simpa using hu) fun h' st' sb=>?_
  have I1:Inv X pins σ H { s with heap:=h' }:=I.turned (t':=s.toks) (fun b o hb e=>(sb.2 b hb).trans e) f0 f1 f3 f4 f5
  obtain⟨o,e,c,d⟩:=id st'
  exact⟨u,rfl,go_of (s:={ s with heap:=h' }) e c d (by decide) ⟨x,H,I1,ru,⟨rfl,fun ys hy=>by rw[I.list_inj hy hq];exact hx⟩,st',fun b hb=>(hf b hb).1⟩⟩
 done:=by
  intro X hP hw hK hc i pins s σ H E I hf st hg
  subst hP hw hK
  obtain⟨xs,hq,hx⟩:=hg
  obtain⟨its,rv,p,hz⟩:=I.list hq
  obtain⟨f0,f1,f2,f3,f4,f5⟩:=hf it (by simp)
  have hl:=rv.length
  exact wpAny_pyNext_list_end (I.ok.hd hc) st p.isList (by simp;omega) fun h' eb=>⟨rfl,I.turned (t':=s.toks) (fun b o hb e=>eb b o hb e) f0 f1 f3 f4 f5⟩
 self:=fun _ _ _ _ _ st h=>wpAny_pyIter_listiter st h
theorem turn_tuple {P:Program}{w:World}{K:PySem.W.Frag}{tg:Expr}(a it:Addr):Turn P w K tg (Itt K a) [it] it (fun i h=>h.IsTupleIter it a i) where
 mem:=by simp
 obj:=fun i h st b hb=>by
  have e:b=it:=by simpa using hb
  subst e
  obtain⟨o,e,c,d⟩:=st
  exact⟨o,e,fun v z=>by rw[d] at z;cases z⟩
 keep:=fun i h h' st k=>st.at fun o e=>k it (by simp) o e
 item:=by
  intro X hP hw hK hc i pins s σ H E I hf st hg
  subst hP hw hK
  obtain⟨xs,x,hq,hx⟩:=hg
  obtain⟨its,rv,p,hz⟩:=I.tuple hq
  obtain⟨u,hu,ru⟩:=rv.get hx
  obtain⟨f0,f1,f2,f3,f4,f5⟩:=hf it (by simp)
  refine wpAny_pyNext_tuple_item st (show s.heap.IsTuple a its.toArray from p) (x:=u) (by simpa using hu) fun h' st' sb=>?_
  have I1:Inv X pins σ H { s with heap:=h' }:=I.turned (t':=s.toks) (fun b o hb e=>(sb.2 b hb).trans e) f0 f1 f3 f4 f5
  obtain⟨o,e,c,d⟩:=id st'
  exact⟨u,rfl,go_of (s:={ s with heap:=h' }) e c d (by decide) ⟨x,H,I1,ru,⟨rfl,fun ys hy=>by rw[I.tuple_inj hy hq];exact hx⟩,st',fun b hb=>(hf b hb).1⟩⟩
 done:=by
  intro X hP hw hK hc i pins s σ H E I hf st hg
  subst hP hw hK
  obtain⟨xs,hq,hx⟩:=hg
  obtain⟨its,rv,p,hz⟩:=I.tuple hq
  obtain⟨f0,f1,f2,f3,f4,f5⟩:=hf it (by simp)
  have hl:=rv.length
  exact wpAny_pyNext_tuple_end (I.ok.hd hc) st (show s.heap.IsTuple a its.toArray from p) (by simp;omega) fun h' eb=>⟨rfl,I.turned (t':=s.toks) (fun b o hb e=>eb b o hb e) f0 f1 f3 f4 f5⟩
 self:=fun _ _ _ _ _ st h=>wpAny_pyIter_tupleiter st h
theorem turn_range {P:Program}{w:World}{K:PySem.W.Frag}{tg:Expr}(it:Addr)(lo:Int)(n:Nat):Turn P w K tg (Itr lo n) [it] it (fun i h=>IsRangeIter h it (lo+(i:Nat)*1) ((n:Int)-(i:Nat)) 1) where
 mem:=by simp
 obj:=fun i h st b hb=>by
  have e:b=it:=by simpa using hb
  subst e
  exact⟨_,st,fun v z=>by
   have z':Data.fields _=Data.cell v:=z
   cases z'⟩
 keep:=fun i h h' st k=>k it (by simp) _ st
 item:=by
  intro X hP hw hK hc i pins s σ H E I hf st hg
  subst hP hw hK
  obtain⟨f0,f1,f2,f3,f4,f5⟩:=hf it (by simp)
  have W:=Walks.range (prog:=X.prog) (w:=X.w) (I.ok.hd hc) it lo 1 n
  refine W.item i s _ _ hg st fun v h' tk hv st' kk=>?_
  obtain⟨t,rfl⟩:=hv
  have I1:Inv X pins σ H { s with heap:=h',toks:=tk }:=I.turned (fun b o hb e=>kk b o (by simpa using hb) e) f0 f1 f3 f4 f5
  refine⟨_,rfl,go_of (s:={ s with heap:=h',toks:=tk }) (n := "range_iterator") st' rfl rfl (by decide) ⟨.int (lo+i),H,I1,⟨t,?_⟩,⟨rfl,rfl⟩,st',fun b hb=>(hf b hb).1⟩⟩
  rw[Int.mul_one]
 done:=by
  intro X hP hw hK hc i pins s σ H E I hf st hg
  subst hP hw hK
  obtain⟨f0,f1,f2,f3,f4,f5⟩:=hf it (by simp)
  exact wpAny_pyNext_range_end (I.ok.hd hc) st (by have:n<=i:=hg;omega) fun h' eb=>⟨rfl,I.turned (t':=s.toks) (fun b o hb e=>eb b o hb e) f0 f1 f3 f4 f5⟩
 self:=fun _ _ _ _ _ st h=>wpAny_pyIter_rangeiter st h
end L2
namespace L2
open PySem PySem.Spec PyProof.Rows
section
variable {X:Cx}{tg:Expr}
def iList (K:PySem.W.Frag)(tl:TE):TI:=fun σ H R=>tl σ H fun x H1=>∃a,x = .ref a/\(∃xs,SqL K H1 a xs)/\R (Itl K a) H1
def iTup (K:PySem.W.Frag)(tl:TE):TI:=fun σ H R=>tl σ H fun x H1=>∃a,x = .ref a/\(∃xs,SqT K H1 a xs)/\R (Itt K a) H1
theorem pi_list {l:Expr}{tl:TE}(hl:PE X l tl):PI X tg l (iList X.K tl):=by
 intro pins s σ H R I h
 refine thn (hl pins s σ H _ I h) fun v s1 ⟨x,H1,I1,r1,q1⟩=>?_
 obtain⟨a,e,⟨xs,hq⟩,q⟩:=q1
 subst e
 cases r1
 obtain⟨its,rv,p,hz⟩:=I1.list hq
 refine wpAny_pyIter_list p.isList ?_
 refine⟨s1.heap.objs.size,[s1.heap.objs.size],_,_,H1,rfl,I1.kept (t':=s1.toks) fun b o e=>Heap.get?_push_of_some _ e,turn_list a _,⟨_,Heap.get?_push_size _ rfl,rfl,rfl⟩,fun b hb=>?_,q⟩
 have e:b=s1.heap.objs.size:=by simpa using hb
 subst e
 exact I1.fpOk (Nat.le_refl _) (I1.hok.fresh (Nat.le_refl _))
theorem pi_tup {l:Expr}{tl:TE}(hl:PE X l tl):PI X tg l (iTup X.K tl):=by
 intro pins s σ H R I h
 refine thn (hl pins s σ H _ I h) fun v s1 ⟨x,H1,I1,r1,q1⟩=>?_
 obtain⟨a,e,⟨xs,hq⟩,q⟩:=q1
 subst e
 cases r1
 obtain⟨its,rv,p,hz⟩:=I1.tuple hq
 refine wpAny_pyIter_tuple (show s1.heap.IsTuple a its.toArray from p) ?_
 refine⟨s1.heap.objs.size,[s1.heap.objs.size],_,_,H1,rfl,I1.kept (t':=s1.toks) fun b o e=>Heap.get?_push_of_some _ e,turn_tuple a _,⟨_,Heap.get?_push_size _ rfl,rfl,rfl⟩,fun b hb=>?_,q⟩
 have e:b=s1.heap.objs.size:=by simpa using hb
 subst e
 exact I1.fpOk (Nat.le_refl _) (I1.hok.fresh (Nat.le_refl _))
theorem range_it {pins:List (Addr×Obj)}{σ:St}{H:Hp}{s:Shared}{R:It->Hp->Prop}{E:Value->Shared->Prop}{lo hi:Int}{t u v:Tok}{tk:Nat}(I:Inv X pins σ H s)(h1 : -(2 ^ 62)<=lo)(h2:lo<2 ^ 62)(h3 : -(2 ^ 62)<=hi)(h4:hi<2 ^ 62)
 (q:R (Itr lo (hi-lo).toNat) H):wpAny (model X.prog X.w) X.A (pyIter (.ref s.heap.objs.size)) (PIE X pins σ tg R) E { s with heap:=s.heap.push { cls:=.type "range",data:=.fields #[.int lo t,.int hi u,.int 1 v] },toks:=tk }:=by
 refine wpAny_pyIter_range (IsRange.new ..) (small_one h1 h2 h3 h4) ?_
 have I1:Inv X pins σ H { s with heap:=s.heap.push { cls:=.type "range",data:=.fields #[.int lo t,.int hi u,.int 1 v] },toks:=tk }:=I.kept fun b o e=>Heap.get?_push_of_some _ e
 refine⟨(s.heap.push { cls:=.type "range",data:=.fields #[.int lo t,.int hi u,.int 1 v] }).objs.size,[(s.heap.push { cls:=.type "range",data:=.fields #[.int lo t,.int hi u,.int 1 v] }).objs.size],_,_,H,rfl,
  I1.kept (t':=tk) fun b o e=>Heap.get?_push_of_some _ e,turn_range _ lo (hi-lo).toNat,?_,fun b hb=>?_,q⟩
 . have e1:lo+((0:Nat):Int)*1=lo:=by simp
   have e2:(((hi-lo).toNat:Nat):Int)-((0:Nat):Int)=Builtin.Range.rangeSize lo hi 1:=by rw[rangeSize_one];split <;> omega
   show IsRangeIter _ _ (lo+((0:Nat):Int)*1) ((((hi-lo).toNat:Nat):Int)-((0:Nat):Int)) 1
   rw[e1,e2]
   exact Heap.get?_push_size _ rfl
 . have e:b=(s.heap.push { cls:=.type "range",data:=.fields #[.int lo t,.int hi u,.int 1 v] }).objs.size:=by simpa using hb
   subst e
   exact I1.fpOk (Nat.le_refl _) (I1.hok.fresh (Nat.le_refl _))
def iRng1 (ta:TA):TI:=fun σ H R=>ta σ H fun vs H1=>∃j:Int,vs=[.int j] /\ -(2 ^ 62)<=j/\j<2 ^ 62/\R (Itr 0 j.toNat) H1
def iRng2 (ta:TA):TI:=fun σ H R=>ta σ H fun vs H1=>∃i j:Int,vs=[.int i,.int j]/\(-(2 ^ 62)<=i/\i<2 ^ 62 /\ -(2 ^ 62)<=j/\j<2 ^ 62)/\R (Itr i (j-i).toNat) H1
theorem pi_range1 {a:Expr}{ta:TA}{p pos:Pos}(hg:Gl X "range") (hm:X.mg "range" = none) (ha:PA X [a] ta)(hs:starEach [a] X.env=[(false,eval a X.env)]:=by rfl):PI X tg (.Call (.Name "range" p) [a] [] pos) (iRng1 ta):=by
 intro pins s σ H R I h
 refine Call_ (ld_blt I hg hm boot_range (PyProof.Rows.callWith_type1 (thn (ha pos pins s σ H _ I h) fun us s1 ⟨vs,H1,I1,r1,q1⟩=>?_) hs rfl))
 obtain⟨j,e,q1,q2,q⟩:=q1
 subst e
 cases r1 with
 | cons r rr=>
  cases rr
  obtain⟨t,rfl⟩:=r
  exact call_range_1 (range_it I1 (by omega) (by omega) q1 q2 (by simpa using q))
theorem pi_range2 {a b:Expr}{ta:TA}{p pos:Pos}(hg:Gl X "range") (hm:X.mg "range" = none) (ha:PA X [a,b] ta)(hs:starEach [a,b] X.env=[(false,eval a X.env),(false,eval b X.env)]:=by rfl)(hs2:starEach [b] X.env=[(false,eval b X.env)]:=by rfl) :
 PI X tg (.Call (.Name "range" p) [a,b] [] pos) (iRng2 ta):=by
 intro pins s σ H R I h
 refine Call_ (ld_blt I hg hm boot_range (PyProof.Rows.callWith_type1 (thn (ha pos pins s σ H _ I h) fun us s1 ⟨vs,H1,I1,r1,q1⟩=>?_) (by rw[hs,hs2]) (by rw[hs2];rfl)))
 obtain⟨i,j,e,⟨q1,q2,q3,q4⟩,q⟩:=q1
 subst e
 cases r1 with
 | cons r rr=>
  cases rr with
  | cons r' rr=>
   cases rr
   obtain⟨t,rfl⟩:=r
   obtain⟨t',rfl⟩:=r'
   exact call_range_2 (range_it I1 q1 q2 q3 q4 q)
def tFor (wi:TI)(g:TG)(tb:TS):TS:=fun D σ H=>wi σ H fun J H1=>∃W:Nat->Nat->St->Hp->Prop,(∃m,W 0 m σ H1)/\∀i m σ H,W i m σ H ->
 (J.stop i H/\D.nx σ H)\/(J.go i H/\∃N:St->Hp->Prop,(∀ σ' H',N σ' H'->∃m',m'<m/\W (i+1) m' σ' H')/\∀x H',J.yld i H x H'->g x σ H' fun σ2 H2=>tb { D with nx:=N,ct:=N,bk:=D.nx } σ2 H2)
def pinsAt (fp:List Addr)(h:Heap):List (Addr×Obj):=fp.filterMap fun b=>(h.get? b).map fun o=>(b,o)
theorem mem_pinsAt {fp:List Addr}{h:Heap}{b:Addr}{o:Obj}(hb:b∈fp)(e:h.get? b=some o):(b,o)∈pinsAt fp h:=List.mem_filterMap.mpr ⟨b,hb,by rw[e];rfl⟩
theorem of_pinsAt {fp:List Addr}{h:Heap}{p:Addr×Obj}(hp:p∈pinsAt fp h):p.1∈fp/\h.get? p.1=some p.2:=by
 obtain⟨b,hb,e⟩:=List.mem_filterMap.mp hp
 cases q:h.get? b with
 | none=>rw[q] at e;cases e
 | some o=>
  rw[q] at e
  have e':(b,o)=p:=Option.some.inj e
  subst e'
  exact⟨hb,q⟩
theorem Inv.pinned {pins:List (Addr×Obj)}{σ:St}{H:Hp}{s:Shared}{fp:List Addr}(I:Inv X pins σ H s)(hf:∀b∈fp,FpOk X pins H b)(ho:∀b∈fp,∃o,s.heap.get? b=some o/\∀v,o.data ≠ .cell v):Inv X (pins++pinsAt fp s.heap) σ H s:=
 I.pins_of fun p hp=>(List.mem_append.mp hp).elim (fun z=>I.pin p (List.mem_append_right _ z)) fun z=>by
  obtain⟨hb,e⟩:=of_pinsAt z
  obtain⟨f0,f1,f2,_⟩:=hf p.1 hb
  obtain⟨o,e',d⟩:=ho p.1 hb
  rw[e] at e';cases e'
  exact⟨e,f0,f1,f2,d⟩
theorem Inv.unpinned {pins pl:List (Addr×Obj)}{σ:St}{H:Hp}{s:Shared}(I:Inv X (pins++pl) σ H s):Inv X pins σ H s:=I.pins_of fun p hp=>I.pin p (List.mem_append_right _ (List.mem_append_left _ hp))
theorem ps_for {iter:Expr}{body:List Stmt}{wi:TI}{g:TG}{tb:TS}{pos:Pos}(hp:PassesOwn (model X.prog X.w) X.A X.env X.xe)(hc:X.calm=true)(hi:PI X tg iter wi)(hg:PG X tg g)(hb:PSs X body tb)
 (hs:∀x,foldedSetIterable iter X.env x=pure x:=by intro _;rfl):PS X (.For tg iter body [] pos) (tFor wi g tb):=by
 intro pins s σ H D I h
 refine wpAny_For (thn (hi pins s σ H _ I h) fun v s1 h1=>thn h1 fun itv s2 h2=>?_) hs
 obtain⟨it,fp,tn,J,H2,e,I2,T,st2,f2,W,⟨m0,w0⟩,turn⟩:=h2
 subst e
 have stat:∀{H':Hp},(∀b∈fp,H' b=none)->∀b∈fp,FpOk X pins H' b:=fun hn b hb=>⟨hn b hb,(f2 b hb).2⟩
 refine codeAny_forLoop_any (fun n s'=>∃i σ' H',Inv X pins σ' H' s'/\tn i s'.heap/\(∀b∈fp,H' b=none)/\W i n σ' H') ?_ m0 ⟨0,σ,H2,I2,st2,fun b hb=>(f2 b hb).1,w0⟩
 rintro n s3 ⟨i,σ3,H3,I3,st3,fr3,w3⟩
 rcases turn i n σ3 H3 w3 with ⟨stop,qn⟩ | ⟨go,N,hN,step⟩
 . refine wpAny_passesOwn hp (thn (T.done X rfl rfl rfl hc i pins s3 σ3 H3 X.xe I3 (stat fr3) st3 stop) fun r s4 ⟨hr,I4⟩=>?_)
   subst hr
   exact wpAny_execs_nil ⟨σ3,H3,I4,qn⟩
 . refine wpAny_passesOwn hp (thn (T.item X rfl rfl rfl hc i pins s3 σ3 H3 X.xe I3 (stat fr3) st3 go) fun r s4 ⟨u,hr,h4⟩=>?_)
   subst hr
   refine wpAny_passesOwn hp (thn h4 fun _ s5 ⟨x,H5,I5,r5,y5,st5,fr5⟩=>?_)
   have I5':=I5.pinned (stat fr5) (T.obj _ _ st5)
   refine wpAny_passesOwn hp (thn (hg _ s5 σ3 H5 x u _ I5' r5 (step x H5 y5)) fun _ s6 ⟨σ6,H6,I6,q6⟩=>?_)
   refine wpAny_passesOwn hp (thn (hb _ s6 σ6 H6 _ I6 q6) fun f s7 q7=>?_)
   have again:∀{σ7:St}{H7:Hp},Inv X (pins++pinsAt fp s5.heap) σ7 H7 s7->N σ7 H7->∃m,m<n/\∃i σ' H',Inv X pins σ' H' s7/\tn i s7.heap/\(∀b∈fp,H' b=none)/\W i m σ' H':=fun {σ7 H7} I7 n7=>by
    obtain⟨m',hm,w7⟩:=hN σ7 H7 n7
    refine⟨m',hm,i+1,σ7,H7,I7.unpinned,T.keep _ _ _ st5 fun b hb o e=>(I7.pin (b,o) (List.mem_append_right _ (List.mem_append_right _ (mem_pinsAt hb e)))).1,fun b hb=>?_,w7⟩
    obtain⟨o,e,d⟩:=T.obj _ _ st5 b hb
    exact (I7.pin (b,o) (List.mem_append_right _ (List.mem_append_right _ (mem_pinsAt hb e)))).2.1
   cases f with
   | next=>obtain⟨σ7,H7,I7,n7⟩:=q7;exact again I7 n7
   | cont=>obtain⟨σ7,H7,I7,n7⟩:=q7;exact again I7 n7
   | brk=>obtain⟨σ7,H7,I7,q7⟩:=q7;exact⟨σ7,H7,I7.unpinned,q7⟩
   | ret v=>obtain⟨x7,σ7,H7,I7,r7,q7⟩:=q7;exact⟨x7,σ7,H7,I7.unpinned,r7,q7⟩
end
theorem for_list {K:PySem.W.Frag}{a:Addr}{xs:List V}{g:TG}{tb:TS}{D:Ends}{σ:St}{H:Hp}(Pv:Nat->St->Hp->Prop)(h0:Pv 0 σ H)(hl:∀i σ H,i<=xs.length->Pv i σ H->SqL K H a xs)
 (hs:∀i x σ H,xs[i]? = some x->Pv i σ H->g x σ H fun σ2 H2=>tb { D with nx:=Pv (i+1),ct:=Pv (i+1),bk:=D.nx } σ2 H2)(hd:∀ σ H,Pv xs.length σ H->D.nx σ H) :
 ∃W:Nat->Nat->St->Hp->Prop,(∃m,W 0 m σ H)/\∀i m σ H,W i m σ H ->
  ((Itl K a).stop i H/\D.nx σ H)\/((Itl K a).go i H/\∃N:St->Hp->Prop,(∀ σ' H',N σ' H'->∃m',m'<m/\W (i+1) m' σ' H')/\∀x H',(Itl K a).yld i H x H'->g x σ H' fun σ2 H2=>tb { D with nx:=N,ct:=N,bk:=D.nx } σ2 H2):=by
 refine⟨fun i m σ H=>m=xs.length-i/\i<=xs.length/\Pv i σ H,⟨xs.length,by simp,Nat.zero_le _,h0⟩,?_⟩
 rintro i m σ H ⟨rfl,hi,p⟩
 have q:=hl i σ H hi p
 by_cases hlt:i<xs.length
 . refine .inr ⟨⟨xs,xs[i],q,by simp[hlt]⟩,Pv (i+1),fun σ' H' p'=>⟨xs.length-(i+1),by omega,rfl,hlt,p'⟩,fun x H' y=>?_⟩
   obtain⟨e,y⟩:=y
   subst e
   exact hs i x σ _ (y xs q) p
 . have e:i=xs.length:=by omega
   subst e
   exact .inl ⟨⟨xs,q,Nat.le_refl _⟩,hd σ H p⟩
theorem for_tup {K:PySem.W.Frag}{a:Addr}{xs:List V}{g:TG}{tb:TS}{D:Ends}{σ:St}{H:Hp}(Pv:Nat->St->Hp->Prop)(h0:Pv 0 σ H)(hl:∀i σ H,i<=xs.length->Pv i σ H->SqT K H a xs)
 (hs:∀i x σ H,xs[i]? = some x->Pv i σ H->g x σ H fun σ2 H2=>tb { D with nx:=Pv (i+1),ct:=Pv (i+1),bk:=D.nx } σ2 H2)(hd:∀ σ H,Pv xs.length σ H->D.nx σ H) :
 ∃W:Nat->Nat->St->Hp->Prop,(∃m,W 0 m σ H)/\∀i m σ H,W i m σ H ->
  ((Itt K a).stop i H/\D.nx σ H)\/((Itt K a).go i H/\∃N:St->Hp->Prop,(∀ σ' H',N σ' H'->∃m',m'<m/\W (i+1) m' σ' H')/\∀x H',(Itt K a).yld i H x H'->g x σ H' fun σ2 H2=>tb { D with nx:=N,ct:=N,bk:=D.nx } σ2 H2):=by
 refine⟨fun i m σ H=>m=xs.length-i/\i<=xs.length/\Pv i σ H,⟨xs.length,by simp,Nat.zero_le _,h0⟩,?_⟩
 rintro i m σ H ⟨rfl,hi,p⟩
 have q:=hl i σ H hi p
 by_cases hlt:i<xs.length
 . refine .inr ⟨⟨xs,xs[i],q,by simp[hlt]⟩,Pv (i+1),fun σ' H' p'=>⟨xs.length-(i+1),by omega,rfl,hlt,p'⟩,fun x H' y=>?_⟩
   obtain⟨e,y⟩:=y
   subst e
   exact hs i x σ _ (y xs q) p
 . have e:i=xs.length:=by omega
   subst e
   exact .inl ⟨⟨xs,q,Nat.le_refl _⟩,hd σ H p⟩
theorem for_range {lo:Int}{n:Nat}{g:TG}{tb:TS}{D:Ends}{σ:St}{H:Hp}(Pv:Nat->St->Hp->Prop)(h0:Pv 0 σ H)
 (hs:∀i σ H,i<n->Pv i σ H->g (.int (lo+i)) σ H fun σ2 H2=>tb { D with nx:=Pv (i+1),ct:=Pv (i+1),bk:=D.nx } σ2 H2)(hd:∀ σ H,Pv n σ H->D.nx σ H) :
 ∃W:Nat->Nat->St->Hp->Prop,(∃m,W 0 m σ H)/\∀i m σ H,W i m σ H ->
  ((Itr lo n).stop i H/\D.nx σ H)\/((Itr lo n).go i H/\∃N:St->Hp->Prop,(∀ σ' H',N σ' H'->∃m',m'<m/\W (i+1) m' σ' H')/\∀x H',(Itr lo n).yld i H x H'->g x σ H' fun σ2 H2=>tb { D with nx:=N,ct:=N,bk:=D.nx } σ2 H2):=by
 refine⟨fun i m σ H=>m=n-i/\i<=n/\Pv i σ H,⟨n,by simp,Nat.zero_le _,h0⟩,?_⟩
 rintro i m σ H ⟨rfl,hi,p⟩
 by_cases hlt:i<n
 . refine .inr ⟨hlt,Pv (i+1),fun σ' H' p'=>⟨n-(i+1),by omega,rfl,hlt,p'⟩,fun x H' y=>?_⟩
   obtain⟨e,y⟩:=y
   subst e y
   exact hs i σ _ hlt p
 . have e:i=n:=by omega
   subst e
   exact .inl ⟨Nat.le_refl _,hd σ H p⟩
end L2
namespace L2
open PySem PySem.Spec PyProof.Rows
abbrev R2:=V->V->Hp->VK->Prop
def OpR (X:Cx)(f:Value->Value->Sem Value)(r:R2):Prop:=
 ∀(pins:List (Addr×Obj))(s:Shared)(σ:St)(H:Hp)(x y:V)(v u:Value)(Q:VK),Inv X pins σ H s->RelV x v->RelV y u->r x y H Q ->
  wpAny (model X.prog X.w) X.A (f v u) (EP X pins σ Q) X.xe s
def UnR (X:Cx)(f:Value->Sem Value)(r:V->Hp->VK->Prop):Prop:=
 ∀(pins:List (Addr×Obj))(s:Shared)(σ:St)(H:Hp)(x:V)(v:Value)(Q:VK),Inv X pins σ H s->RelV x v->r x H Q ->
  wpAny (model X.prog X.w) X.A (f v) (EP X pins σ Q) X.xe s
def CallR (X:Cx)(f:Value)(r:List V->Hp->VK->Prop):Prop:=
 ∀(pins:List (Addr×Obj))(s:Shared)(σ:St)(H:Hp)(xs:List V)(us:List Value)(Q:VK),Inv X pins σ H s->Vals xs us->r xs H Q ->
  wpAny (model X.prog X.w) X.A (call f us) (EP X pins σ Q) X.xe s
def TruR (X:Cx)(r:V->Hp->(Bool->Hp->Prop)->Prop):Prop:=
 ∀(pins:List (Addr×Obj))(s:Shared)(σ:St)(H:Hp)(x:V)(v:Value)(Q:Bool->Hp->Prop),Inv X pins σ H s->RelV x v->r x H Q ->
  wpAny (model X.prog X.w) X.A (truthy v) (TP X pins σ Q) X.xe s
def tOp (r:R2)(ta tb:TE):TE:=fun σ H Q=>ta σ H fun x H1=>tb σ H1 fun y H2=>r x y H2 Q
def tUn (r:V->Hp->VK->Prop)(ta:TE):TE:=fun σ H Q=>ta σ H fun x H1=>r x H1 Q
def rI (C:Int->Int->Prop)(g:Int->Int->V):R2:=fun x y H Q=>∃i j,x = .int i/\y = .int j/\C i j/\Q (g i j) H
def rI0 (g:Int->Int->V):R2:=fun x y H Q=>∃i j,x = .int i/\y = .int j/\Q (g i j) H
def rU (g:Int->V):V->Hp->VK->Prop:=fun x H Q=>∃i,x = .int i/\Q (g i) H
section
variable {X:Cx}{a b c:Expr}{ta tb tc:TE}{pos:Pos}
theorem binT (ha:PE X a ta)(hb:PE X b tb){pins:List (Addr×Obj)}{s:Shared}{σ:St}{H:Hp}{R:V->V->Hp->Prop}(I:Inv X pins σ H s)
 (h:ta σ H fun x H1=>tb σ H1 fun y H2=>R x y H2){Q:Value->Shared->Prop}{f:Value->Value->Sem Value}
 (hf:∀v u s2 x y H2,Inv X pins σ H2 s2->RelV x v->RelV y u->R x y H2->wpAny (model X.prog X.w) X.A (f v u) Q X.xe s2) :
 wpAny (model X.prog X.w) X.A (eval a X.env) (fun v s₁=>wpAny (model X.prog X.w) X.A (eval b X.env) (fun u s₂=>wpAny (model X.prog X.w) X.A (f v u) Q X.xe s₂) X.xe s₁) X.xe s:=by
 refine thn (ha pins s σ H _ I h) fun v s1 ⟨x,H1,I1,r1,q1⟩=>?_
 refine thn (hb pins s1 σ H1 _ I1 q1) fun u s2 ⟨y,H2,I2,r2,q2⟩=>?_
 exact hf v u s2 x y H2 I2 r1 r2 q2
theorem pe_op {op:Operator}{r:R2}(ho:OpR X (binaryOp op) r)(ha:PE X a ta)(hb:PE X b tb):PE X (.BinOp a op b pos) (tOp r ta tb):=by
 intro pins s σ H Q I h
 exact wpAny_BinOp (binT ha hb I h fun v u s2 x y H2 I2 rx ry q=>ho pins s2 σ H2 x y v u Q I2 rx ry q)
theorem pe_un {op:UnaryOp}{r:V->Hp->VK->Prop}(ho:UnR X (unaryOp op) r)(ha:PE X a ta):PE X (.UnaryOp op a pos) (tUn r ta):=by
 intro pins s σ H Q I h
 exact UnaryOp_ (thn (ha pins s σ H _ I h) fun v s1 ⟨x,H1,I1,r1,q1⟩=>ho pins s1 σ H1 x v Q I1 r1 q1)
theorem opI {f:Value->Value->Sem Value}{C:Int->Int->Prop}{g:Int->Int->Int}
 (rule:∀(i j:Int)(t u:Tok)(s:Shared)(Q:Value->Shared->Prop)(E:Value->Shared->Prop),C i j->Q (.int (g i j) s.toks) { s with toks:=s.toks+1 }->wpAny (model X.prog X.w) X.A (f (.int i t) (.int j u)) Q E s) :
 OpR X f (rI C fun i j=>.int (g i j)):=by
 intro pins s σ H x y v u Q I rx ry h
 obtain⟨i,j,rfl,rfl,hc,q⟩:=h
 obtain⟨t,rfl⟩:=rx
 obtain⟨t',rfl⟩:=ry
 exact rule i j t t' s _ _ hc ⟨.int (g i j),H,I.tok _,⟨_,rfl⟩,q⟩
theorem opI0 {f:Value->Value->Sem Value}{g:Int->Int->Int}
 (rule:∀(i j:Int)(t u:Tok)(s:Shared)(Q:Value->Shared->Prop)(E:Value->Shared->Prop),Q (.int (g i j) s.toks) { s with toks:=s.toks+1 }->wpAny (model X.prog X.w) X.A (f (.int i t) (.int j u)) Q E s) :
 OpR X f (rI0 fun i j=>.int (g i j)):=by
 intro pins s σ H x y v u Q I rx ry h
 obtain⟨i,j,rfl,rfl,q⟩:=h
 obtain⟨t,rfl⟩:=rx
 obtain⟨t',rfl⟩:=ry
 exact rule i j t t' s _ _ ⟨.int (g i j),H,I.tok _,⟨_,rfl⟩,q⟩
theorem opB0 {f:Value->Value->Sem Value}{g:Int->Int->Bool}
 (rule:∀(i j:Int)(t u:Tok)(s:Shared)(Q:Value->Shared->Prop)(E:Value->Shared->Prop),Q (.bool (g i j)) s->wpAny (model X.prog X.w) X.A (f (.int i t) (.int j u)) Q E s) :
 OpR X f (rI0 fun i j=>.bl (g i j)):=by
 intro pins s σ H x y v u Q I rx ry h
 obtain⟨i,j,rfl,rfl,q⟩:=h
 obtain⟨t,rfl⟩:=rx
 obtain⟨t',rfl⟩:=ry
 exact rule i j t t' s _ _ ⟨.bl (g i j),H,I,rfl,q⟩
def CDiv (i j:Int):Prop:=0<j/\j<1073741824
def CPow (i j:Int):Prop:=0<=j/\j<=1000000/\i.natAbs<2 ^ 64
def CMul (i j:Int):Prop:=(-(2 ^ 64)<i/\i<2 ^ 64)\/(-(2 ^ 64)<j/\j<2 ^ 64)
theorem CMul.ok {i j:Int}(h:CMul i j):IntMulOk i j:=by
 rcases h with ⟨h1,h2⟩ | ⟨h1,h2⟩
 . exact .of_left (intBits_le_64 h1 h2)
 . exact .of_right (intBits_le_64 h1 h2)
theorem op_add:OpR X (binaryOp .Add) (rI0 fun i j=>.int (i+j)):=opI0 fun _ _ _ _ _ _ _ q=>add_int q
theorem op_sub:OpR X (binaryOp .Sub) (rI0 fun i j=>.int (i-j)):=opI0 fun _ _ _ _ _ _ _ q=>sub_int q
theorem op_mul:OpR X (binaryOp .Mult) (rI CMul fun i j=>.int (i*j)):=opI fun _ _ _ _ _ _ _ hc q=>mul_int q hc.ok
theorem op_fdiv:OpR X (binaryOp .FloorDiv) (rI CDiv fun i j=>.int (i/j)):=opI fun i j _ _ _ _ _ hc q=>by
 have h1:(0:Int)<j:=hc.1
 have h2:j<1073741824:=hc.2
 exact floordiv_int (by omega) (by rw[Int.fdiv_eq_ediv_of_nonneg i (by omega)];exact q) (.inl (PyProof.noPylong_small (by omega)))
theorem op_mod:OpR X (binaryOp .Mod) (rI (fun _ j=>0<j) fun i j=>.int (i%j)):=opI fun i j _ _ _ _ _ hc q=>by
 have h1:(0:Int)<j:=hc
 exact mod_int' (by omega) (by rw[Int.fmod_eq_emod_of_nonneg i (by omega)];exact q)
theorem op_pow:OpR X (binaryOp .Pow) (rI CPow fun i j=>.int (i ^ j.toNat)):=opI fun _ _ _ _ _ _ _ hc q=>pow_int_small hc.1 hc.2.1 hc.2.2 q
theorem unI {f:Value->Sem Value}{g:Int->Int}
 (rule:∀(i:Int)(t:Tok)(s:Shared)(Q:Value->Shared->Prop)(E:Value->Shared->Prop),Q (.int (g i) s.toks) { s with toks:=s.toks+1 }->wpAny (model X.prog X.w) X.A (f (.int i t)) Q E s) :
 UnR X f (rU fun i=>.int (g i)):=by
 intro pins s σ H x v Q I rx h
 obtain⟨i,rfl,q⟩:=h
 obtain⟨t,rfl⟩:=rx
 exact rule i t s _ _ ⟨.int (g i),H,I.tok _,⟨_,rfl⟩,q⟩
theorem un_neg:UnR X (unaryOp .USub) (rU fun i=>.int (-i)):=unI fun _ _ _ _ _ q=>neg_int q
end
def scal:V->V->Bool
 | .non,.non=>true | .non,.int _=>true | .int _,.non=>true | .non,.bl _=>true | .bl _,.non=>true | .non,.str _=>true | .str _,.non=>true
 | .int _,.int _=>true | .bl _,.bl _=>true | .str _,.str _=>true | .byt _,.byt _=>true
 | .int _,.str _=>true | .str _,.int _=>true | .bl _,.str _=>true | .str _,.bl _=>true
 | _,_=>false
def rEq:R2:=fun x y H Q=>scal x y=true/\Q (.bl (decide (x=y))) H
def rNe:R2:=fun x y H Q=>scal x y=true/\Q (.bl (!decide (x=y))) H
theorem dec_int {i j:Int}:decide (V.int i=V.int j)=(i==j):=by
 rw[Bool.eq_iff_iff]
 simp
theorem dec_bl {i j:Bool}:decide (V.bl i=V.bl j)=(i==j):=by
 rw[Bool.eq_iff_iff]
 simp
theorem dec_str {i j:Str}:decide (V.str i=V.str j)=(i==j):=by
 rw[Bool.eq_iff_iff]
 simp
theorem dec_byt {i j:Array UInt8}:decide (V.byt i=V.byt j)=(i.toList==j.toList):=by
 rw[Bool.eq_iff_iff]
 cases i
 cases j
 simp
section
variable {X:Cx}{a b c:Expr}{ta tb tc:TE}{pos:Pos}
theorem fin_bl {pins:List (Addr×Obj)}{σ:St}{H:Hp}{s:Shared}{Q:VK}{k k':Bool}(I:Inv X pins σ H s)(q:Q (.bl k) H)(e:k=k'):EP X pins σ Q (.bool k') s:=by
 subst e
 exact⟨.bl k,H,I,rfl,q⟩
theorem op_eq:OpR X (compareOp .Eq) rEq:=by
 intro pins s σ H x y v u Q I rx ry h
 obtain⟨hs,q⟩:=h
 cases x with
 | non=>
  cases rx
  cases y with
  | non=>cases ry;exact PySem.EqNone.eq_none_none (fin_bl I q (by simp))
  | bl j=>cases ry;exact PySem.EqNone.eq_none_bool (fin_bl I q (by simp))
  | int j=>obtain⟨t',rfl⟩:=ry;exact PySem.EqNone.eq_none_int (fin_bl I q (by simp))
  | str j=>obtain⟨t',rfl⟩:=ry;exact PySem.EqNone.eq_none_str (fin_bl I q (by simp))
  | _=>exact absurd (show false=true from hs) Bool.false_ne_true
 | bl i=>
  cases rx
  cases y with
  | non=>cases ry;exact PySem.EqNone.eq_bool_none (fin_bl I q (by simp))
  | bl j=>cases ry;exact eq_bool (fin_bl I q dec_bl)
  | str j=>obtain⟨t',rfl⟩:=ry;exact PySem.EqMixed.eq_bool_str (fin_bl I q (by simp))
  | _=>exact absurd (show false=true from hs) Bool.false_ne_true
 | int i=>
  obtain⟨t,rfl⟩:=rx
  cases y with
  | non=>cases ry;exact PySem.EqNone.eq_int_none (fin_bl I q (by simp))
  | int j=>obtain⟨t',rfl⟩:=ry;exact eq_int (fin_bl I q dec_int)
  | str j=>obtain⟨t',rfl⟩:=ry;exact PySem.EqMixed.eq_int_str (fin_bl I q (by simp))
  | _=>exact absurd (show false=true from hs) Bool.false_ne_true
 | str i=>
  obtain⟨t,rfl⟩:=rx
  cases y with
  | non=>cases ry;exact PySem.EqNone.eq_str_none (fin_bl I q (by simp))
  | bl j=>cases ry;exact PySem.EqMixed.eq_str_bool (fin_bl I q (by simp))
  | int j=>obtain⟨t',rfl⟩:=ry;exact PySem.EqMixed.eq_str_int (fin_bl I q (by simp))
  | str j=>obtain⟨t',rfl⟩:=ry;exact eq_str (fin_bl I q dec_str)
  | _=>exact absurd (show false=true from hs) Bool.false_ne_true
 | byt i=>
  obtain⟨t,rfl⟩:=rx
  cases y with
  | byt j=>obtain⟨t',rfl⟩:=ry;exact PySem.W.eq_bytes (fin_bl I q dec_byt)
  | _=>exact absurd (show false=true from hs) Bool.false_ne_true
 | _=>cases y <;> exact absurd (show false=true from hs) Bool.false_ne_true
theorem op_ne:OpR X (compareOp .NotEq) rNe:=by
 intro pins s σ H x y v u Q I rx ry h
 obtain⟨hs,q⟩:=h
 cases x with
 | non=>
  cases rx
  cases y with
  | non=>cases ry;exact PySem.EqNone.ne_none_none (fin_bl I q (by simp))
  | bl j=>cases ry;exact PySem.EqNone.ne_none_bool (fin_bl I q (by simp))
  | int j=>obtain⟨t',rfl⟩:=ry;exact PySem.EqNone.ne_none_int (fin_bl I q (by simp))
  | str j=>obtain⟨t',rfl⟩:=ry;exact PySem.EqNone.ne_none_str (fin_bl I q (by simp))
  | _=>exact absurd (show false=true from hs) Bool.false_ne_true
 | bl i=>
  cases rx
  cases y with
  | non=>cases ry;exact PySem.EqNone.ne_bool_none (fin_bl I q (by simp))
  | bl j=>cases ry;exact ne_bool (fin_bl I q (congrArg not dec_bl))
  | str j=>obtain⟨t',rfl⟩:=ry;exact PySem.EqMixed.ne_bool_str (fin_bl I q (by simp))
  | _=>exact absurd (show false=true from hs) Bool.false_ne_true
 | int i=>
  obtain⟨t,rfl⟩:=rx
  cases y with
  | non=>cases ry;exact PySem.EqNone.ne_int_none (fin_bl I q (by simp))
  | int j=>obtain⟨t',rfl⟩:=ry;exact ne_int (fin_bl I q (congrArg not dec_int))
  | str j=>obtain⟨t',rfl⟩:=ry;exact PySem.EqMixed.ne_int_str (fin_bl I q (by simp))
  | _=>exact absurd (show false=true from hs) Bool.false_ne_true
 | str i=>
  obtain⟨t,rfl⟩:=rx
  cases y with
  | non=>cases ry;exact PySem.EqNone.ne_str_none (fin_bl I q (by simp))
  | bl j=>cases ry;exact PySem.EqMixed.ne_str_bool (fin_bl I q (by simp))
  | int j=>obtain⟨t',rfl⟩:=ry;exact PySem.EqMixed.ne_str_int (fin_bl I q (by simp))
  | str j=>obtain⟨t',rfl⟩:=ry;exact ne_str (fin_bl I q (congrArg not dec_str))
  | _=>exact absurd (show false=true from hs) Bool.false_ne_true
 | byt i=>
  obtain⟨t,rfl⟩:=rx
  cases y with
  | byt j=>obtain⟨t',rfl⟩:=ry;exact PySem.W.ne_bytes (fin_bl I q (congrArg not dec_byt))
  | _=>exact absurd (show false=true from hs) Bool.false_ne_true
 | _=>cases y <;> exact absurd (show false=true from hs) Bool.false_ne_true
theorem op_lt:OpR X (compareOp .Lt) (rI0 fun i j=>.bl (decide (i<j))):=opB0 fun _ _ _ _ _ _ _ q=>lt_int q
theorem op_le:OpR X (compareOp .LtE) (rI0 fun i j=>.bl (decide (i<=j))):=opB0 fun _ _ _ _ _ _ _ q=>le_int q
theorem op_gt:OpR X (compareOp .Gt) (rI0 fun i j=>.bl (decide (j<i))):=opB0 fun _ _ _ _ _ _ _ q=>gt_int q
theorem op_ge:OpR X (compareOp .GtE) (rI0 fun i j=>.bl (decide (j<=i))):=opB0 fun _ _ _ _ _ _ _ q=>ge_int q
theorem op_isN:OpR X (compareOp .Is) (fun x y H Q=>y = .non/\Q (.bl (decide (x = .non))) H):=by
 intro pins s σ H x y v u Q I rx ry h
 obtain⟨rfl,q⟩:=h
 cases ry
 refine is_none_gen (fin_bl I q ?_)
 cases x <;> first
  | (cases rx;rfl)
  | (obtain⟨t,rfl⟩:=rx;rfl)
theorem op_notN:OpR X (compareOp .IsNot) (fun x y H Q=>y = .non/\Q (.bl (!decide (x = .non))) H):=by
 intro pins s σ H x y v u Q I rx ry h
 obtain⟨rfl,q⟩:=h
 cases ry
 refine isnot_none_gen (fin_bl I q ?_)
 cases x <;> first
  | (cases rx;rfl)
  | (obtain⟨t,rfl⟩:=rx;rfl)
theorem nomark (b:Expr){op:CmpOp}(h:op ≠ .In:=by decide)(h2:op ≠ .NotIn:=by decide):behindInMarks op b=false:=by
 have e1:(op==CmpOp.In)=false:=by cases op <;> first | rfl | exact absurd rfl h
 have e2:(op==CmpOp.NotIn)=false:=by cases op <;> first | rfl | exact absurd rfl h2
 cases b <;> simp[behindInMarks,e1,e2]
theorem pe_cmpR {op:CmpOp}{r:R2}(ho:OpR X (compareOp op) r)(ha:PE X a ta)(hb:PE X b tb)(hm:behindInMarks op b=false):PE X (.Compare a [op] [b] pos) (tOp r ta tb):=by
 intro pins s σ H Q I h
 exact wpAny_Compare1 (binT ha hb I h fun v u s2 x y H2 I2 rx ry q=>ho pins s2 σ H2 x y v u Q I2 rx ry q) hm
def tTest (t:TE):TT:=fun σ H Q=>t σ H fun x H'=>∃k,x = .bl k/\Q k H'
theorem pt_cmpR {op:CmpOp}{r:R2}(ho:OpR X (compareOp op) r)(ha:PE X a ta)(hb:PE X b tb)(hm:behindInMarks op b=false):PT X (.Compare a [op] [b] pos) (tTest (tOp r ta tb)):=by
 intro pins s σ H Q I h
 refine wpAny_isTrue_Compare1 (thn (ha pins s σ H _ I h) fun v s1 ⟨x,H1,I1,r1,q1⟩=>thn (hb pins s1 σ H1 _ I1 q1) fun u s2 ⟨y,H2,I2,r2,q2⟩=>
  thn (ho pins s2 σ H2 x y v u _ I2 r1 r2 q2) fun c s3 ⟨z,H3,I3,r3,k,e,q3⟩=>?_) hm
 subst e
 cases r3
 exact wpAny_truthy_bool ⟨H3,I3,q3⟩
def TruV (K:PySem.W.Frag)(x:V)(H:Hp)(k:Bool):Prop:=
 match x with
 | .non=>k=false
 | .bl b=>k=b
 | .int i=>k=(i != 0)
 | .str y=>y.length<=sizeLine/\k=((y.length:Int) != 0)
 | .byt y=>y.size<=sizeLine/\k=((y.size:Int) != 0)
 | .ref p=>(∃xs,SqL K H p xs/\k = !xs.isEmpty)\/(∃xs,SqT K H p xs/\k = !xs.isEmpty)\/∃kvs,H p=some (.dK kvs)/\k = !kvs.isEmpty
 | _=>False
theorem isEmpty_kv {κ:Type}{kvs:List (κ×V)}{vs:List (κ×Value)}(r:KV kvs vs):(!vs.isEmpty) = !kvs.isEmpty:=by
 cases r <;> rfl
theorem isEmpty_of {xs:List V}{its:List Value}(r:Vals xs its):(!its.toArray.isEmpty) = !xs.isEmpty:=by
 cases r <;> simp
theorem line63:(sizeLine:Nat)<2 ^ 63:=by rw[sizeLine_eq];decide
theorem tru_ok:TruR X (fun x H Q=>∃k,TruV X.K x H k/\Q k H):=by
 intro pins s σ H x v Q I rx h
 obtain⟨k,e,q⟩:=h
 have hl:=line63
 have hs:sizeLine=16777216:=sizeLine_eq
 cases x with
 | non=>
  cases rx
  have e':k=false:=e
  subst e'
  exact truthy_none ⟨H,I,q⟩
 | bl b=>
  cases rx
  have e':k=b:=e
  subst e'
  exact wpAny_truthy_bool ⟨H,I,q⟩
 | int i=>
  obtain⟨t,rfl⟩:=rx
  have e':k=(i != 0):=e
  subst e'
  exact PySem.P.truthy_int ⟨H,I,q⟩
 | str y=>
  obtain⟨t,rfl⟩:=rx
  obtain⟨hy,e'⟩:y.length<=sizeLine/\k=((y.length:Int) != 0):=e
  subst e'
  exact PySem.P.truthy_str (by omega) ⟨H,I.tok _,q⟩
 | byt y=>
  obtain⟨t,rfl⟩:=rx
  obtain⟨hy,e'⟩:y.size<=sizeLine/\k=((y.size:Int) != 0):=e
  subst e'
  exact PySem.W.truthy_bytes (by omega) ⟨H,I.tok _,q⟩
 | ref p=>
  cases rx
  have e':(∃xs,SqL X.K H p xs/\k = !xs.isEmpty)\/(∃xs,SqT X.K H p xs/\k = !xs.isEmpty)\/∃kvs,H p=some (.dK kvs)/\k = !kvs.isEmpty:=e
  rcases e' with ⟨xs,hx,e'⟩ | ⟨xs,hx,e'⟩ | ⟨kvs,hx,e'⟩
  . subst e'
    obtain⟨its,r,pl,hz⟩:=I.list hx
    have hlen:=r.length
    exact wpAny_truthy_list pl.isList (by simp only[List.size_toArray];omega) ⟨H,I.tok _,by rw[isEmpty_of r];exact q⟩
  . subst e'
    obtain⟨its,r,pl,hz⟩:=I.tuple hx
    have hlen:=r.length
    exact truthy_tuple pl (by simp only[List.size_toArray];omega) ⟨H,I.tok _,by rw[isEmpty_of r];exact q⟩
  . subst e'
    obtain⟨hz,hS,vs,r,m⟩:kvs.length<=sizeLine/\(p==sysModules)=false/\∃vs,KV kvs vs/\s.heap.DictOf (mixKind X.prog X.w) p vs:=I.hok p _ hx
    have hlen:kvs.length=vs.length:=Paired.length r
    exact wpAny_truthy_dict hS m (by omega) ⟨H,I.tok _,by rw[isEmpty_kv r];exact q⟩
 | _=>exact (show False from e).elim
theorem pt_truth (ha:PE X a ta)(he:∀whole,isTrue a X.env whole=(do let v <-whole;standAt a.pos;holding [v] (truthy v))) :
 PT X a (fun σ H Q=>ta σ H fun x H'=>∃k,TruV X.K x H' k/\Q k H'):=by
 intro pins s σ H Q I h
 exact isTrue_plain (thn (ha pins s σ H _ I h) fun v s1 ⟨x,H1,I1,r1,q1⟩=>tru_ok pins s1 σ H1 x v Q I1 r1 q1) (he _)
theorem vals1 {x:V}{us:List Value}(r:Vals [x] us):∃u,us=[u]/\RelV x u:=by
 cases r with
 | cons r1 r2=>cases r2;exact⟨_,rfl,r1⟩
theorem vals2 {x y:V}{us:List Value}(r:Vals [x,y] us):∃u w',us=[u,w']/\RelV x u/\RelV y w':=by
 cases r with
 | cons r1 r2=>
  cases r2 with
  | cons r3 r4=>cases r4;exact⟨_,_,rfl,r1,r3⟩
theorem call_min2 (hc:X.calm=true):CallR X (.builtin "min") (fun xs H Q=>∃i j,xs=[.int i,.int j]/\Q (.int (if j<i then j else i)) H):=by
 intro pins s σ H xs us Q I r h
 obtain⟨i,j,rfl,q⟩:=h
 obtain⟨u,w',rfl,⟨t,rfl⟩,⟨t',rfl⟩⟩:=vals2 r
 refine min_two_ints (I.ok.hd hc) fun h' tk k=>⟨_,H,I.kept k,?_,q⟩
 by_cases hj:j<i
 . rw[if_pos hj,if_pos hj];exact⟨_,rfl⟩
 . rw[if_neg hj,if_neg hj];exact⟨_,rfl⟩
theorem call_int1:CallR X (.type "int") (fun xs H Q=>(∃i,xs=[.int i]/\Q (.int i) H)\/∃k,xs=[.bl k]/\Q (.int (if k then 1 else 0)) H):=by
 intro pins s σ H xs us Q I r h
 rcases h with ⟨i,rfl,q⟩ | ⟨k,rfl,q⟩
 . obtain⟨u,rfl,t,rfl⟩:=vals1 r
   exact call_int_int ⟨.int i,H,I,⟨_,rfl⟩,q⟩
 . obtain⟨u,rfl,r1⟩:=vals1 r
   cases r1
   exact call_int_bool ⟨.int (if k then 1 else 0),H,I.tok _,⟨_,rfl⟩,q⟩
end
end L2
namespace L2
open PySem PySem.Spec PyProof.Rows
structure ObjM (h:Heap)(x dx C:Addr)(mA:Str->Option Value):Prop where
 obj:h.get? x=some (PySem.W.instObj C dx)
 ns:h.Ns1 dx mA
 ne:dx≠x
theorem lookIn_ns {h:Heap}{dx:Addr}{mA:Str->Option Value}(n:h.Ns1 dx mA):∃od,h.get? dx=some od/\∀name,PySem.W.lookIn name od=some (mA name):=by
 obtain⟨o,es,ep,ho,hd,hk,_,hm⟩:=n
 refine⟨o,ho,fun name=>?_⟩
 have e:=hm name
 unfold nsFind findBy at e
 rw[<-Array.find?_toList] at e
 unfold PySem.W.lookIn
 rw[hd]
 dsimp only
 split
 . rename_i y q
   rw[q] at e
   exact congrArg some e
 . rename_i q
   rw[q] at e
   have a:es.toList.any (·.refKey)=false:=by
    rw[List.any_eq_false]
    intro y hy
    obtain⟨z,t,hkey⟩:=hk y (Array.mem_toList_iff.mp hy)
    simp[DictEntry.refKey,hkey]
   have a':¬ es.toList.any (·.refKey)=true:=by rw[a];exact Bool.false_ne_true
   rw[if_neg a']
   exact congrArg some e
theorem ObjM.look {h:Heap}{x dx C:Addr}{mA:Str->Option Value}(I:ObjM h x dx C mA):∃od,PySem.W.InstAt h x (PySem.W.instObj C dx) C (some od)/\∀name,PySem.W.lookIn name od=some (mA name):=
 let ⟨od,ho,hl⟩:=lookIn_ns I.ns
 ⟨od,⟨I.obj,rfl,rfl,ho⟩,hl⟩
section
variable {prog:Program}{w:World}{A:Around}{E:Value->Shared->Prop}{s:Shared}{K:PySem.W.Frag}{x dx C f:Addr}{mA:Str->Option Value}{name:Str}{v:Value}
end
theorem RelO.some_of {v:V}{o:Option Value}(r:RelO (some v) o):∃u,o=some u/\RelV v u:=by
 cases o with
 | none=>exact (show False from r).elim
 | some u=>exact⟨u,rfl,r⟩
section
variable {P:Program}{w:World}{H H':Hp}{h h':Heap}{a C dx:Addr}{fs fs':List (Str×V)}
theorem ins_get (hok:HOk P w H h)(e:H a=some (.ins C dx fs)):∃mA,ObjM h a dx C mA/\(∀f,RelO (fs.lookup f) (mA f))/\PySem.Within mA (fs.map (·.1))/\fs.length<=1000/\H dx=some (.own a):=by
 obtain⟨d,z,ne,ob,mA,n,r,q⟩:=(show ObjOk P w H h a (.ins C dx fs) from hok a _ e)
 exact⟨mA,⟨ob,n,ne⟩,r,q,z,d⟩
end
structure Cls (K:PySem.W.Frag)(C:Addr):Prop where
 pg:PySem.W.plainGet K C Str.empty=true
 hd:PySem.W.hasDictIn K C=true
 po:PySem.W.plainOver K C=true
 sa:PySem.W.findIn K (.ref C) "__setattr__" = some (some (.builtin "object.__setattr__"))
theorem Cls.get {K:PySem.W.Frag}{C:Addr}(c:Cls K C)(f:Str):PySem.W.plainGet K C f=true:=c.pg
section
variable {X:Cx}{pins:List (Addr×Obj)}{σ:St}{H:Hp}{s:Shared}{a C dx:Addr}{fs:List (Str×V)}{f:Str}{v:V}{A:Around}{E:Value->Shared->Prop}
end
section
variable {X:Cx}{o e value:Expr}{f:Str}{pos pos' tpos:Pos}{ta tv:TE}
end
section
variable {X:Cx}{pins:List (Addr×Obj)}{σ:St}{H:Hp}{s:Shared}{A:Around}{E:Value->Shared->Prop}{Q:Value->Shared->Prop}{c:Value}{b:Bool}
inductive TyOf (K:PySem.W.Frag)(H:Hp):V->Value->Prop where
 | non:TyOf K H .non (.type "NoneType")
 | bl (x:Bool):TyOf K H (.bl x) (.type "bool")
 | int (i:Int):TyOf K H (.int i) (.type "int")
 | str (x:Str):TyOf K H (.str x) (.type "str")
 | flt (x:UInt64):TyOf K H (.flt x) (.type "float")
 | lst {a:Addr}{xs:List V}(e:H a=some (.lst xs)):TyOf K H (.ref a) (.type "list")
 | frz {a:Addr}{o:Obj}{xs:List V}(e:H a=some (.frz o (.lst xs))):TyOf K H (.ref a) (.type "list")
 | tup {a:Addr}{xs:List V}(e:H a=some (.tup xs)):TyOf K H (.ref a) (.type "tuple")
 | dK {a:Addr}{kvs:List (Key×V)}(e:H a=some (.dK kvs)):TyOf K H (.ref a) (.type "dict")
 | dT {a:Addr}{kvs:List (List Key×V)}(e:H a=some (.dT kvs)):TyOf K H (.ref a) (.type "dict")
 | ins {a C dx:Addr}{fs:List (Str×V)}(e:H a=some (.ins C dx fs))(cl:Cls K C)(ha:PySem.W.findIn K (.ref C) "__class__" = some (some (.builtin "object.__class__")))
  (hn:PySem.W.specialIn K (.builtin "object.__class__") "__get__" = some (some (.builtin "getset_descriptor.__get__"))) (htk:PySem.W.takesIn K (.builtin "object.__class__")=some true)
  (hm:PySem.W.mroIn K C (.type "object")=some true):TyOf K H (.ref a) (.ref C)
theorem isinst_ok {x:V}{u t:Value}(I:Inv X pins σ H s)(rx:RelV x u)(ty:TyOf X.K H x t)(e:PySem.W.kitOne X.K t c=some b)(h:∀tk,Q (.bool b) { s with toks:=tk }) :
 wpAny (model X.prog X.w) A (call (.builtin "isinstance") [u,c]) Q E s:=by
 cases ty with
 | non=>cases (show u=Value.none from rx);exact PySem.W.kia_one PySem.W.kitx_none I.kIn True.intro e (fun z=>nomatch z) h
 | bl y=>cases (show u=Value.bool y from rx);exact PySem.W.kia_one PySem.W.kitx_bool I.kIn True.intro e (fun z=>nomatch z) h
 | int i=>obtain⟨t,q⟩:=(show ∃t,u=Value.int i t from rx);cases q;exact PySem.W.kia_one PySem.W.kitx_int I.kIn True.intro e (fun z=>nomatch z) h
 | str y=>obtain⟨t,q⟩:=(show ∃t,u=Value.str y t from rx);cases q;exact PySem.W.kia_one PySem.W.kitx_str I.kIn True.intro e (fun z=>nomatch z) h
 | flt y=>obtain⟨t,q⟩:=(show ∃t,u=Value.float y t from rx);cases q;exact PySem.W.kia_one PySem.W.kitx_float I.kIn True.intro e (fun z=>nomatch z) h
 | @lst a xs ea=>
  cases (show u=Value.ref a from rx)
  obtain⟨_,_,n,_,h1⟩:=(show ObjOk X.prog X.w H s.heap a (.lst xs) from I.hok a _ ea)
  exact PySem.W.kia_one PySem.W.kitx_list I.kIn ⟨_,h1,rfl⟩ e (fun z=>nomatch z) h
 | @frz a ob xs ea=>
  cases (show u=Value.ref a from rx)
  obtain⟨_,_,_,n,_,h1⟩:=(show ObjOk X.prog X.w H s.heap a (.frz ob (.lst xs)) from I.hok a _ ea)
  exact PySem.W.kia_one PySem.W.kitx_list I.kIn ⟨_,h1,rfl⟩ e (fun z=>nomatch z) h
 | @tup a xs ea=>
  cases (show u=Value.ref a from rx)
  obtain⟨_,_,_,p⟩:=(show ObjOk X.prog X.w H s.heap a (.tup xs) from I.hok a _ ea)
  obtain⟨o,h1,h2,_⟩:=p
  exact PySem.W.kia_one PySem.W.kitx_tuple I.kIn ⟨o,h1,h2⟩ e (fun z=>nomatch z) h
 | @dK a kvs ea=>
  cases (show u=Value.ref a from rx)
  obtain⟨_,_,vs,_,p⟩:=(show ObjOk X.prog X.w H s.heap a (.dK kvs) from I.hok a _ ea)
  obtain⟨o,es,ep,h1,h2,_⟩:=p
  exact PySem.W.kia_one PySem.W.kitx_dict I.kIn ⟨o,h1,h2.1⟩ e (fun z=>nomatch z) h
 | @dT a kvs ea=>
  cases (show u=Value.ref a from rx)
  obtain⟨_,_,xs,_,o,es,ep,h1,h2,_⟩:=(show ObjOk X.prog X.w H s.heap a (.dT kvs) from I.hok a _ ea)
  exact PySem.W.kia_one PySem.W.kitx_dict I.kIn ⟨o,h1,h2.1⟩ e (fun z=>nomatch z) h
 | @ins a C dx fs ea cl ha hn htk hm=>
  cases (show u=Value.ref a from rx)
  obtain⟨mA,O,_⟩:=ins_get I.hok ea
  obtain⟨od,J,_⟩:=O.look
  exact PySem.W.kia_one (PySem.W.kitx_own (cl.get _) cl.hd ha hn htk hm) I.kIn J e (fun z=>nomatch z) h
end
end L2
namespace L2
open PySem PySem.Spec PyProof.Rows
structure Room (k:Nat)(A:Around):Prop where
 hd:A.handled=none
 dp:A.depth+3*k+5<recursionLimit
 un:A.units+16*k+200<cLine
 gd:A.guards=some []
theorem Room.mono {j k:Nat}{A:Around}(r:Room k A)(h:j<=k):Room j A:=⟨r.hd,by have:=r.dp;omega,by have:=r.un;omega,r.gd⟩
theorem Room.deeper {k:Nat}{A:Around}(r:Room (k+1) A)(env:Env):Room k (A.deeper env):=
 ⟨r.hd,by have:=r.dp;show A.depth+1+3*k+5<_;omega,by have:=r.un;show A.units+3+16*k+200<_;omega,r.gd⟩
theorem Room.in1 {k:Nat}{A:Around}(r:Room (k+1) A):Room k A.in1:=
 ⟨r.hd,by have:=r.dp;show A.depth+3*k+5<_;omega,by have:=r.un;show A.units+1+16*k+200<_;omega,r.gd⟩
theorem Room.depth {k:Nat}{A:Around}(r:Room k A):A.depth<recursionLimit:=by have:=r.dp;omega
theorem Room.units {k:Nat}{A:Around}(r:Room k A):A.units+64<cLine:=by have:=r.un;omega
theorem Room.units0 {k:Nat}{A:Around}(r:Room k A):A.units<cLine:=by have:=r.un;omega
def tNil:TA:=fun _ H Q=>Q [] H
def tCons (ta:TE)(tr:TA):TA:=fun σ H Q=>ta σ H fun x H1=>tr σ H1 fun xs H2=>Q (x::xs) H2
section
variable {X:Cx}{e:Expr}{es:List Expr}{te:TE}{t:TA}{pos:Pos}
theorem pa_nil:PA X [] tNil:=fun _ _ _ _ H Q I h=>Calls.spliced_nil ⟨[],H,I,.nil,h⟩
theorem pa_cons (ha:PE X e te)(hr:PA X es t)(hs:starEach (e::es) X.env=(false,eval e X.env)::starEach es X.env:=by rfl):PA X (e::es) (tCons te t):=by
 intro pos pins s σ H Q I h
 rw[hs]
 show wpAny _ _ (spliced ((false,eval e X.env)::backTo pos (starEach es X.env))) _ _ s
 refine Calls.spliced_cons (thn (ha pins s σ H _ I h) fun u s1 ⟨x,H1,I1,r1,q1⟩=>?_)
 exact thn (hr pos pins s1 σ H1 _ I1 q1) fun us s2 ⟨xs,H2,I2,r2,q2⟩=>⟨x::xs,H2,I2,.cons r1 r2,q2⟩
def tTup (t:TA):TE:=fun σ H Q=>t σ H fun xs H1=>xs.length<=sizeLine/\∀p,H1 p=none->Q (.ref p) (upd H1 p (.tup xs))
def tLst (t:TA):TE:=fun σ H Q=>t σ H fun xs H1=>xs.length<=sizeLine/\∀p,H1 p=none->Q (.ref p) (upd H1 p (.lst xs))
theorem pe_tup {x1} (h:PA X es t):PE X (.Tuple es x1 pos) (tTup t):=by
 intro pins s σ H Q I hq
 refine wpAny_Tuple_spliced (thn (h pos pins s σ H _ I hq) fun us s1 ⟨xs,H1,I1,r,z,q⟩=>⟨by rw[<-r.length];exact z,?_⟩)
 have hf:H1 s1.heap.objs.size=none:=I1.hok.fresh (Nat.le_refl _)
 refine⟨.ref s1.heap.objs.size,upd H1 s1.heap.objs.size (.tup xs),I1.laid (t':=s1.toks) (fun b u e=>Heap.get?_push_of_some _ e) (Nat.le_refl _) ?_,rfl,q _ hf⟩
 exact⟨⟨z,_,Heap.get?_push_size _ rfl,rfl⟩,us,r,⟨_,Heap.get?_push_size _ rfl,rfl,_,rfl⟩⟩
theorem pe_lst (h:PA X es t):PE X (.List es pos) (tLst t):=by
 intro pins s σ H Q I hq
 refine wpAny_List_spliced (thn (h pos pins s σ H _ I hq) fun us s1 ⟨xs,H1,I1,r,z,q⟩=>⟨by rw[<-r.length];exact z,?_⟩)
 have hf:H1 s1.heap.objs.size=none:=I1.hok.fresh (Nat.le_refl _)
 refine⟨.ref s1.heap.objs.size,upd H1 s1.heap.objs.size (.lst xs),I1.laid (t':=s1.toks) (fun b u e=>Heap.get?_push_of_some _ e) (Nat.le_refl _) ?_,rfl,q _ hf⟩
 exact⟨z,us,0,r,Heap.get?_push_size _ rfl⟩
end
abbrev Sp:=List V->Hp->VK->XK->Prop
abbrev CXT:=List Env->Hp->Shared->XK->Value->Shared->Prop
structure Env0 (P:Program)(w:World)(K:PySem.W.Frag)(mg:Str->Option Value)(base:Heap)(A:Around)(outer:List Env)(s:Shared)(H:Hp):Prop where
 frames:A.frames=some outer
 mod:Mod K mg base
 bs:∀b o,base.get? b=some o->s.heap.get? b=some o/\H b=none
 bsz:base.objs.size<=s.heap.objs.size
 funs:s.heap.FunFrames base outer
 frf:∀b∈frs outer,H b=none
 hok:HOk P w H s.heap
 bare:AllBare s.gens
def CE (outer:List Env)(P:Program)(w:World)(H:Hp)(s:Shared)(Q:VK)(u:Value)(s':Shared):Prop:=
 ∃v H',s'.os=s.os/\AllBare s'.gens/\Un (frs outer) [] H H' s.heap s'.heap/\HOk P w H' s'.heap/\RelV v u/\Q v H'
def CR (CX:CXT)(outer:List Env)(P:Program)(w:World)(H:Hp)(s:Shared)(Q:VK)(E:XK)(r:Result)(s':Shared):Prop:=
 match r with
 | .ok (.ret u)=>CE outer P w H s Q u s'
 | .ok _=>False
 | .error e=>CX outer H s E e s'
structure FnOk (P:Program)(w:World)(K:PySem.W.Frag)(mg:Str->Option Value)(base:Heap)(CX:CXT)(k:Nat)(f:Addr)(fd:FuncData)(ps:List Str)(sp:Sp):Prop where
 len:∀vs H Q E,sp vs H Q E->vs.length=ps.length
 run:∀(A:Around)(outer:List Env)(s:Shared)(H:Hp)(args:Args)(us:List Value)(vs:List V)(Q:VK)(E:XK),Room k A->Env0 P w K mg base A outer s H->BindsTo s fd args (ps.zip us)->Vals vs us->sp vs H Q E ->
  codeAny (model P w) A (.call (.ref f) args) (CR CX outer P w H s Q E) s
theorem FnOk.mono {P:Program}{w:World}{K:PySem.W.Frag}{mg:Str->Option Value}{base:Heap}{CX:CXT}{j k:Nat}{f:Addr}{fd:FuncData}{ps:List Str}{sp:Sp}(F:FnOk P w K mg base CX j f fd ps sp)(h:j<=k) :
 FnOk P w K mg base CX k f fd ps sp:=⟨F.len,fun A outer s H args us vs Q E hr=>F.run A outer s H args us vs Q E (hr.mono h)⟩
theorem FnOk.imp {P:Program}{w:World}{K:PySem.W.Frag}{mg:Str->Option Value}{base:Heap}{CX:CXT}{k:Nat}{f:Addr}{fd:FuncData}{ps:List Str}{sp sp':Sp}(F:FnOk P w K mg base CX k f fd ps sp)
 (h:∀vs H Q E,sp' vs H Q E->sp vs H Q E):FnOk P w K mg base CX k f fd ps sp':=
 ⟨fun vs H Q E q=>F.len vs H Q E (h _ _ _ _ q),fun A outer s H args us vs Q E hr he hb hv hs=>F.run A outer s H args us vs Q E hr he hb hv (h _ _ _ _ hs)⟩
section
variable {X:Cx}{pins:List (Addr×Obj)}{σ:St}{H:Hp}{s s':Shared}
theorem Inv.env0 (I:Inv X pins σ H s):Env0 X.prog X.w X.K X.mg X.base X.A X.stack s H:=
 ⟨I.ok.frames,I.ok.mod,I.bs,Nat.le_trans I.ok.bsz I.sz,I.stack,I.stkFree,I.hok,I.bare⟩
theorem Inv.after {Q:VK}{u:Value}(I:Inv X pins σ H s)(h:CE X.stack X.prog X.w H s Q u s'):EP X pins σ Q u s':=by
 obtain⟨v,H',os,bare,un,hok,r,q⟩:=h
 obtain⟨hh,g,d,t,os'⟩:=s'
 obtain rfl:os'=s.os:=os
 exact⟨v,H',I.call (h':=hh) (g':=g) (d':=d) (t':=t) (ch:=[]) un hok bare (fun b z=>absurd z (by simp)),r,q⟩
end
def tCall (sp:Sp)(dvs:List V)(E:XK)(t:TA):TE:=fun σ H Q=>t σ H fun vs H1=>sp (vs++dvs) H1 Q E
def Binds (K:PySem.W.Frag)(fd:FuncData)(ps:List Str)(ds:List Value):Prop:=
 ∀(s:Shared)(us:List Value),K.In s.heap->(us++ds).length=ps.length->BindsTo s fd ⟨us,[]⟩ (ps.zip (us++ds))
theorem Binds.all {K:PySem.W.Frag}{fd:FuncData}{ps:List Str}(h:∀us:List Value,us.length=ps.length->bindArgs fd ⟨us,[]⟩=pure (ps.zip us)):Binds K fd ps []:=fun s us _ hl=>by
 rw[List.append_nil] at hl ⊢
 exact .of_eq (h us hl)
def Passes (CX:CXT)(X:Cx)(E:XK):Prop:=∀(pins:List (Addr×Obj))(σ:St)(H:Hp)(s:Shared)(e:Value)(s':Shared),Inv X pins σ H s->CX X.stack H s E e s'->X.xe e s'
section
variable {X:Cx}{CX:CXT}{k:Nat}{f C:Addr}{fd:FuncData}{ps:List Str}{sp:Sp}{dvs:List V}{ds:List Value}{E:XK}{x m:Str}{p pos apos:Pos}{e o:Expr}{es:List Expr}{ta:TE}{t:TA}
theorem run_fn {pins:List (Addr×Obj)}{σ:St}{H:Hp}{s:Shared}{Q:VK}{us:List Value}{vs:List V}(F:FnOk X.prog X.w X.K X.mg X.base CX k f fd ps sp)(hr:Room k X.A)(hb:Binds X.K fd ps ds)(hd:Vals dvs ds)(hx:Passes CX X E)
 (I:Inv X pins σ H s)(r:Vals vs us)(h:sp (vs++dvs) H Q E):wpAny (model X.prog X.w) X.A (call (.ref f) us) (EP X pins σ Q) X.xe s:=by
 have r2:Vals (vs++dvs) (us++ds):=r.append hd
 have hl:(us++ds).length=ps.length:=by rw[<-r2.length];exact F.len _ _ _ _ h
 refine wpAny_call (codeAny_mono (F.run X.A X.stack s H ⟨us,[]⟩ (us++ds) (vs++dvs) Q E hr I.env0 (hb s us I.kIn hl) r2 h) fun r s' hq=>?_)
 cases r with
 | error e=>exact hx pins σ H s e s' I hq
 | ok fl=>
  cases fl with
  | ret u=>exact I.after hq
  | next=>exact False.elim hq
  | brk=>exact False.elim hq
  | cont=>exact False.elim hq
theorem pe_call (F:FnOk X.prog X.w X.K X.mg X.base CX k f fd ps sp)(hr:Room k X.A)(hg:Gl X x)(hm:X.mg x=some (.ref f))(hk:PySem.W.keepIn X.K (.ref f)=true)(hb:Binds X.K fd ps ds)(hd:Vals dvs ds)(hx:Passes CX X E)
 (ha:PA X (e::es) t)(hdb:(x==("__debug__" : Str))=false:=by decide) (he:starEach (e::es) X.env=(false,eval e X.env)::starEach es X.env:=by rfl)(hpl:(backTo pos (starEach es X.env)).any (·.1)=false:=by rfl) :
 PE X (.Call (.Name x p) (e::es) [] pos) (tCall sp dvs E t):=by
 intro pins s σ H Q I h
 refine wpAny_Call_Name_kw (ld_glob I hg hm ?_ hdb)
 refine PySem.W.callWith_K (h₀:=X.base) I.ok.mod.kin hk (thn (ha pos pins s σ H _ I h) fun us s1 ⟨vs,H1,I1,r,q⟩=>⟨I1.kIn,?_⟩) he hpl
 exact run_fn F hr hb hd hx I1 r q
end
section
variable {X:Cx}{CX:CXT}{k:Nat}{f C:Addr}{fd:FuncData}{ps ks:List Str}{sp:Sp}{E:XK}{x m:Str}{p pos apos kpos:Pos}{e o:Expr}{es:List Expr}{kws:List Keyword}{te ta:TE}{t tk:TA}{nm:Option Str}
variable {g:List Value->List Value->List Value}{gV:List V->List V->List V}
end
structure FnScope (N P:List Str)(sc:Scope):Prop where
 kind:sc.kind = .function
 co:sc.isCoroutine=false
 gen:sc.isGenerator=false
 nd:N.Nodup
 pre:N.take P.length=P
 par:∀x∈P,sc.names.lookup x=some .local\/sc.names.lookup x=some .cell
 nofree:∀y∈sc.names,y.2 ≠ .free
theorem bindL_out {kindOf:Str->Option NameKind}{x:Str}:∀{binds:List (Str×Value)}{m:Str->Option Value},(∀v,(x,v)∉binds)->bindL kindOf binds m x=m x
 | [],_,_=>rfl
 | (n,v)::r,m,h=>by
  unfold bindL
  rw[bindL_out fun w hw=>h w (List.mem_cons_of_mem _ hw)]
  split
  . have:x≠n:=by rintro rfl;exact h v List.mem_cons_self
    simp[this]
  . rfl
theorem bindC_out {kindOf:Str->Option NameKind}{x:Str}:∀{binds:List (Str×Value)}{m:Str->Option Value},(∀v,(x,v)∉binds)->bindC kindOf binds m x=m x
 | [],_,_=>rfl
 | (n,v)::r,m,h=>by
  unfold bindC
  rw[bindC_out fun w hw=>h w (List.mem_cons_of_mem _ hw)]
  split
  . rfl
  . have:x≠n:=by rintro rfl;exact h v List.mem_cons_self
    simp[this]
theorem bindL_get {kindOf:Str->Option NameKind}{x:Str}{v:Value}:∀{P:List Str}{vs:List Value}{i:Nat}{m:Str->Option Value},P.Nodup->P[i]? = some x->vs[i]? = some v->kindOf x=some .local ->
 bindL kindOf (P.zip vs) m x=some v
 | [],_,_,_,_,h,_,_=>by simp at h
 | _::_,[],_,_,_,_,h,_=>by simp at h
 | p::P,w::vs,0,m,nd,h1,h2,hk=>by
  simp at h1 h2;subst h1;subst h2
  show bindL kindOf ((p,w)::P.zip vs) m p=_
  unfold bindL
  rw[bindL_out fun v hv=>(List.nodup_cons.mp nd).1 (List.of_mem_zip hv).1,if_pos hk]
  simp
 | p::P,w::vs,i+1,m,nd,h1,h2,hk=>by
  show bindL kindOf ((p,w)::P.zip vs) m x=_
  unfold bindL
  exact bindL_get (i:=i) (List.nodup_cons.mp nd).2 (by simpa using h1) (by simpa using h2) hk
theorem bindC_get {kindOf:Str->Option NameKind}{x:Str}{v:Value}:∀{P:List Str}{vs:List Value}{i:Nat}{m:Str->Option Value},P.Nodup->P[i]? = some x->vs[i]? = some v->kindOf x≠some .local ->
 bindC kindOf (P.zip vs) m x=some v
 | [],_,_,_,_,h,_,_=>by simp at h
 | _::_,[],_,_,_,_,h,_=>by simp at h
 | p::P,w::vs,0,m,nd,h1,h2,hk=>by
  simp at h1 h2;subst h1;subst h2
  show bindC kindOf ((p,w)::P.zip vs) m p=_
  unfold bindC
  rw[bindC_out fun v hv=>(List.nodup_cons.mp nd).1 (List.of_mem_zip hv).1,if_neg hk]
  simp
 | p::P,w::vs,i+1,m,nd,h1,h2,hk=>by
  show bindC kindOf ((p,w)::P.zip vs) m x=_
  unfold bindC
  exact bindC_get (i:=i) (List.nodup_cons.mp nd).2 (by simpa using h1) (by simpa using h2) hk
def start (N:List Str)(vs:List V):St:=vs.map some++List.replicate (N.length-vs.length) none
def cxOf (CX:CXT)(P:Program)(w:World)(K:PySem.W.Frag)(mg:Str->Option Value)(base:Heap)(N:List Str)(qual:Str)(scope:Scope)(f:Addr)(cd:Value)(A:Around)(outer:List Env)(s:Shared)(H:Hp)(E:XK):Cx where
 prog:=P
 w:=w
 K:=K
 mg:=mg
 base:=base
 A:=A.deeper (envOfC qual scope s.heap.objs.size f cd)
 N:=N
 s₀:=s
 H₀:=H
 env:=envOfC qual scope s.heap.objs.size f cd
 outer:=outer
 stack:=envOfC qual scope s.heap.objs.size f cd::outer
 ex:=[]
 calm:=true
 fn:=fun _=>true
 pn:=[]
 xe:=fun e s'=>wpAny (model P w) (A.deeper (envOfC qual scope s.heap.objs.size f cd)) (leaving (envOfC qual scope s.heap.objs.size f cd) e) (fun _ s''=>CX outer H s E e s'') (fun e' s''=>CX outer H s E e' s'') s'
theorem cell_has {sc:Scope}{n:Nat}{x:Str}(h:sc.names.lookup x=some .cell):∃c,(cellsFrom n sc.names []).lookup x=some c:=by
 have q:=PySem.W.cellsFrom_some sc.names n [] (.inl h)
 exact Option.isSome_iff_exists.mp q
theorem inv_start {CX:CXT}{P:Program}{w:World}{K:PySem.W.Frag}{mg:Str->Option Value}{base:Heap}{N ps:List Str}{qual:Str}{scope:Scope}{f:Addr}{cd:Value}{A:Around}{outer:List Env}{s s1:Shared}{H:Hp}{E:XK}{us:List Value}{vs:List V}
 (S:FnScope N ps scope)(hd:A.handled=none)(e0:Env0 P w K mg base A outer s H)(hl:vs.length=ps.length)(r:Vals vs us)
 (x:InCallC s s.heap.objs.size (bindL (envOfC qual scope s.heap.objs.size f cd).kindOf (ps.zip us) fun _=>none) (cellsFrom (s.heap.objs.size+1) scope.names []) (bindC (envOfC qual scope s.heap.objs.size f cd).kindOf (ps.zip us) fun _=>none) s1) :
 Inv (cxOf CX P w K mg base N qual scope f cd A outer s H E) [] (start N vs) H s1:=by
 have hpl:ps.length<=N.length:=by have:=congrArg List.length S.pre;rw[List.length_take] at this;omega
 obtain⟨h1,tk,rfl,hk⟩:=x.done
 have noA:∀b:Addr,b∉(cxOf CX P w K mg base N qual scope f cd A outer s H E).ex:=fun b z=>absurd (show b∈([]:List Addr) from z) (by simp)
 refine⟨⟨e0.mod,S.kind,rfl,rfl,Nat.le_refl _,fun y z c h1 h2=>?_,fun y hy=>?_,fun y c _ h=>?_,fun _=>hd,Around.frames_deeper e0.frames,.inr ⟨rfl,rfl⟩,fun b z=>absurd z (noA b),e0.bs,e0.bsz,fun b _ _=>noA b,fun b z=>absurd z (noA b),e0.funs,e0.frf⟩,
  rfl,e0.bare,Un.kept hk,⟨_,x.toInCall.ns,fun i y v h1 h2 h3=>?_⟩,fun y c h=>⟨_,x.cell y c h⟩,e0.hok.fresh (Nat.le_refl _),fun y c h=>?_,fun p hp=>absurd (show p∈([]:List (Addr×Obj)) from hp) (by simp),e0.hok.kept hk,?_⟩
 . exact name_of_addr x.apart (PySem.mem_of_lookup h1) (PySem.mem_of_lookup h2)
 . have hy:scope.names.lookup y=some .cell\/scope.names.lookup y=some .free:=hy
   rcases hy with hy | hy
   . exact cell_has hy
   . exact absurd rfl (S.nofree _ (PySem.mem_of_lookup hy))
 . exact Nat.le_of_lt (x.above y c (PySem.mem_of_lookup h))
 . have hi:i<vs.length:=by
    unfold start at h2
    by_cases hi:i<vs.length
    . exact hi
    . rw[List.getElem?_append_right (by simpa using hi)] at h2
      rw[List.getElem?_replicate] at h2
      split at h2 <;> cases h2
   have ha:vs[i]? = some v:=by
    unfold start at h2
    rw[List.getElem?_append_left (by simpa using hi),List.getElem?_map] at h2
    cases e:vs[i]? with
    | none=>rw[e] at h2;cases h2
    | some a=>rw[e] at h2;cases h2;rfl
   obtain⟨u,hu,rv⟩:=r.get ha
   have hp:ps[i]? = some y:=by
    rw[<-S.pre,List.getElem?_take_of_lt (by omega)];exact h1
   have ndP:ps.Nodup:=by rw[<-S.pre];exact S.nd.sublist (List.take_sublist _ _)
   refine⟨u,rv,?_⟩
   rcases S.par y (List.mem_of_getElem? hp) with k | k
   . exact .inl ⟨k,bindL_get ndP hp hu k⟩
   . obtain⟨c,e⟩:=cell_has (n:=s.heap.objs.size+1) k
     refine .inr ⟨.inl k,c,e,?_⟩
     have q:=x.cell y c e
     rw[bindC_get ndP hp hu (by show scope.names.lookup y≠_;rw[k];decide)] at q
     exact q
 . exact e0.hok.fresh (Nat.le_of_lt (x.above y c (PySem.mem_of_lookup h)))
 . unfold start
   show _=N.length
   rw[List.length_append,List.length_map,List.length_replicate]
   omega
theorem fn_of {CX:CXT}{P:Program}{w:World}{K:PySem.W.Frag}{mg:Str->Option Value}{base:Heap}{k:Nat}{f:Addr}{name qual:Str}{params:Arguments}{body:List Stmt}{scope:Scope}{dV kV doc pm cdv ct oc:Value}{an od:Option Addr}
 {osl:Array (Option Value)}{N ps:List Str}{sp:Sp}(lk:K.lookup f=some ⟨oc,od,.func (PySem.W.fnOf name qual params body scope dV kV doc pm an cdv ct),osl⟩)(hcd:PySem.W.codeIn K cdv qual=true)(S:FnScope N ps scope)
 (len:∀vs H Q E,sp vs H Q E->vs.length=ps.length)
 (hbody:∀(A:Around)(outer:List Env)(s:Shared)(H:Hp)(vs:List V)(Q:VK)(E:XK),Room k (A.deeper (envOfC qual scope s.heap.objs.size f cdv))->sp vs H Q E ->
  ∃t,PSs (cxOf CX P w K mg base N qual scope f cdv A outer s H E) body t/\t { nx:=fun _ H'=>Q .non H',rt:=Q } (start N vs) H) :
 FnOk P w K mg base CX (k+1) f (PySem.W.fnOf name qual params body scope dV kV doc pm an cdv ct) ps sp:=by
 refine⟨len,fun A outer s H args us vs Q E hr e0 hb r hsp=>?_⟩
 have hl:=len _ _ _ _ hsp
 have KX:K.In s.heap:=e0.mod.kin.keeps fun b o e=>(e0.bs b o e).1
 have lim:s.heap.NoLimit:=e0.mod.nolimit.keeps fun b o e=>(e0.bs b o e).1
 have hkind:∀y∈ps.zip us,scope.names.lookup y.1=some .local\/(scope.names.lookup y.1=some .cell/\((cellsFrom (s.heap.objs.size+1) scope.names []).lookup y.1).isSome=true):=fun ⟨n,v⟩ hy=>by
  rcases S.par n (List.of_mem_zip hy).1 with q | q
  . exact .inl q
  . exact .inr ⟨q,PySem.W.cellsFrom_some _ _ _ (.inl q)⟩
 refine codeAny_call_function hr.depth (KX _ _ lk) rfl S.co S.gen rfl (PySem.W.codeRec_of KX hcd) (hb _ _ _ _ ?_)
 refine wpAny_newFunctionEnv_cells S.kind hkind fun env he s1 x=>?_
 subst he
 refine⟨lim.keeps x.toInCall.keep,codeAny_func ?_⟩
 obtain⟨t,ht,hq⟩:=hbody A outer s H vs Q E (hr.deeper _) hsp
 have I:Inv (cxOf CX P w K mg base N qual scope f cdv A outer s H E) [] (start N vs) H s1:=inv_start S hr.hd e0 hl r x
 refine wpAny_mono (ht [] s1 (start N vs) H _ I hq) (fun fl s' hs=>?_) fun e s' hs=>hs
 have fin:∀{σ':St}{H':Hp}{v:V}{u:Value},Inv (cxOf CX P w K mg base N qual scope f cdv A outer s H E) [] σ' H' s'->RelV v u->Q v H'->CE outer P w H s Q u s':=
  fun {σ' H' v u} J rv q=>⟨v,H',J.os,J.bare,J.base,J.hok,rv,q⟩
 cases fl with
 | ret u=>
  obtain⟨v,σ',H',J,rv,q⟩:=hs
  exact fin J rv q
 | next=>
  obtain⟨σ',H',J,q⟩:=hs
  exact fin (v:=V.non) (u:=Value.none) J rfl q
 | brk=>
  obtain⟨_,_,_,q⟩:=hs
  exact False.elim q
 | cont=>
  obtain⟨_,_,_,q⟩:=hs
  exact False.elim q
end L2
namespace L2
open PySem PySem.Spec PyProof.Rows
section
variable {X:Cx}{x:Str}{p pos:Pos}{e:Expr}{es:List Expr}{t:TA}{id T:String}{r:List V->Hp->VK->Prop}
def tCB (r:List V->Hp->VK->Prop)(t:TA):TE:=fun σ H Q=>t σ H fun vs H1=>r vs H1 Q
theorem pe_callB (hc:CallR X (.builtin id) r)(hg:Gl X x)(hm:X.mg x=none)(hv:bootBuiltins x=some (.builtin id))(ha:PA X (e::es) t)(hn:x ≠ "__name__" := by decide) (hdb:(x==("__debug__" : Str))=false:=by decide)
 (he:starEach (e::es) X.env=(false,eval e X.env)::starEach es X.env:=by rfl)(hpl:(backTo pos (starEach es X.env)).any (·.1)=false:=by rfl):PE X (.Call (.Name x p) (e::es) [] pos) (tCB r t):=by
 intro pins s σ H Q I h
 refine wpAny_Call_Name_kw (ld_blt I hg hm hv ?_ hn hdb)
 exact PyProof.Rows.callWith_builtin1 (thn (ha pos pins s σ H _ I h) fun us s1 ⟨vs,H1,I1,r1,q1⟩=>hc pins s1 σ H1 vs us Q I1 r1 q1) he hpl
theorem pe_callTy (hc:CallR X (.type T) r)(hg:Gl X x)(hm:X.mg x=none)(hv:bootBuiltins x=some (.type T))(ha:PA X (e::es) t)(hn:x ≠ "__name__" := by decide) (hdb:(x==("__debug__" : Str))=false:=by decide)
 (he:starEach (e::es) X.env=(false,eval e X.env)::starEach es X.env:=by rfl)(hpl:(backTo pos (starEach es X.env)).any (·.1)=false:=by rfl):PE X (.Call (.Name x p) (e::es) [] pos) (tCB r t):=by
 intro pins s σ H Q I h
 refine wpAny_Call_Name_kw (ld_blt I hg hm hv ?_ hn hdb)
 exact PyProof.Rows.callWith_type1 (thn (ha pos pins s σ H _ I h) fun us s1 ⟨vs,H1,I1,r1,q1⟩=>hc pins s1 σ H1 vs us Q I1 r1 q1) he hpl
end
end L2
namespace L2
open PySem PySem.Spec PyProof.Rows
section
variable {κ:Type} [DecidableEq κ]
def valV (kvs:List (κ×V))(k:κ):Option V:=(kvs.find? fun kv=>decide (kv.1=k)).map (·.2)
def putK (kvs:List (κ×V))(k:κ)(v:V):List (κ×V):=
 if (kvs.any fun kv=>decide (kv.1=k))=true then kvs.map (fun kv=>if kv.1=k then (kv.1,v) else kv) else kvs++[(k,v)]
def dropK (kvs:List (κ×V))(k:κ):List (κ×V):=kvs.filter fun kv=>decide (kv.1≠k)
theorem valV_nil {k:κ}:valV ([]:List (κ×V)) k=none:=rfl
theorem valV_pos {p:κ×V}{r:List (κ×V)}{k:κ}(e:p.1=k):valV (p::r) k=some p.2:=by simp[valV,List.find?_cons,e]
theorem valV_neg {p:κ×V}{r:List (κ×V)}{k:κ}(e:¬ p.1=k):valV (p::r) k=valV r k:=by simp[valV,List.find?_cons,e]
theorem valV_any (k:κ):∀kvs:List (κ×V),(kvs.any fun kv=>decide (kv.1=k))=(valV kvs k).isSome
 | []=>rfl
 | p::r=>by
  rw[List.any_cons]
  by_cases e:p.1=k
  . simp only[valV_pos e,decide_eq_true e,Bool.true_or,Option.isSome_some]
  . rw[valV_neg e,decide_eq_false e,Bool.false_or];exact valV_any k r
theorem valV_map (k j:κ)(y:V):∀kvs:List (κ×V),valV (kvs.map fun kv=>if kv.1=k then (kv.1,y) else kv) j=(valV kvs j).map fun x=>if j=k then y else x
 | []=>rfl
 | p::r=>by
  have ih:=valV_map k j y r
  rw[List.map_cons]
  by_cases h:p.1=k
  . rw[if_pos h]
    by_cases e:p.1=j
    . rw[valV_pos (p:=(p.1,y)) e,valV_pos e,Option.map_some,if_pos (e.symm.trans h)]
    . rw[valV_neg (p:=(p.1,y)) e,valV_neg e,ih]
  . rw[if_neg h]
    by_cases e:p.1=j
    . rw[valV_pos (p:=p) e,valV_pos e,Option.map_some,if_neg (fun z=>h (e.trans z))]
    . rw[valV_neg (p:=p) e,valV_neg e,ih]
theorem valV_snoc (k j:κ)(y:V):∀kvs:List (κ×V),valV kvs k=none->valV (kvs++[(k,y)]) j=if j=k then some y else valV kvs j
 | [],_=>by
  by_cases e:k=j
  . rw[if_pos e.symm];exact valV_pos (p:=(k,y)) e
  . rw[if_neg (fun z=>e z.symm)];exact valV_neg (p:=(k,y)) e
 | p::r,hn=>by
  rw[List.cons_append]
  have hk:¬ p.1=k:=fun z=>by rw[valV_pos z] at hn;cases hn
  rw[valV_neg hk] at hn
  have ih:=valV_snoc k j y r hn
  by_cases e:p.1=j
  . rw[valV_pos e,valV_pos e,if_neg (fun z=>hk (e.trans z))]
  . rw[valV_neg e,valV_neg e,ih]
theorem valV_put (kvs:List (κ×V))(k j:κ)(y:V):valV (putK kvs k y) j=if j=k then some y else valV kvs j:=by
 unfold putK
 by_cases a:(kvs.any fun kv=>decide (kv.1=k))=true
 . rw[if_pos a,valV_map]
   rw[valV_any] at a
   by_cases e:j=k
   . obtain⟨x,hx⟩:=Option.isSome_iff_exists.mp a
     rw[if_pos e,e,hx,Option.map_some,if_pos rfl]
   . rw[if_neg e]
     cases valV kvs j with
     | none=>rfl
     | some x=>rw[Option.map_some,if_neg e]
 . rw[if_neg a]
   refine valV_snoc k j y kvs ?_
   rw[valV_any] at a
   cases q:valV kvs k with
   | none=>rfl
   | some x=>rw[q] at a;exact (a rfl).elim
theorem length_putK (kvs:List (κ×V))(k:κ)(v:V):(putK kvs k v).length<=kvs.length+1:=by
 unfold putK
 split
 . rw[List.length_map];omega
 . rw[List.length_append,List.length_cons,List.length_nil];omega
theorem putK_new {kvs:List (κ×V)}{k:κ}(v:V)(h:valV kvs k=none):putK kvs k v=kvs++[(k,v)]:=by
 unfold putK
 rw[valV_any,h]
 exact if_neg (by decide)
theorem RelO.isSome_eq {o:Option V}{u:Option Value}(r:RelO o u):o.isSome=u.isSome:=by
 cases o with
 | none=>cases u with
  | none=>rfl
  | some _=>exact (show False from r).elim
 | some _=>cases u with
  | none=>exact (show False from r).elim
  | some _=>rfl
theorem RelO.getD {o:Option V}{u:Option Value}{d:V}{d':Value}(r:RelO o u)(rd:RelV d d'):RelV (o.getD d) (u.getD d'):=by
 cases o with
 | none=>cases u with
  | none=>exact rd
  | some _=>exact (show False from r).elim
 | some _=>cases u with
  | none=>exact (show False from r).elim
  | some _=>exact r
theorem KV.val {kvs:List (κ×V)}{vs:List (κ×Value)}(r:KV kvs vs)(k:κ):RelO (valV kvs k) (valueAt vs k):=by
 unfold KV at r
 induction r with
 | nil=>exact True.intro
 | @cons p q ps qs h t ih=>
  obtain⟨h1,h2⟩:=h
  by_cases e:p.1=k
  . have e':q.1=k:=h1.symm.trans e
    have b:valueAt (q::qs) k=some q.2:=by simp[valueAt,List.find?_cons,e']
    rw[valV_pos e,b];exact h2
  . have e':¬ q.1=k:=fun z=>e (h1.trans z)
    have b:valueAt (q::qs) k=valueAt qs k:=by simp[valueAt,List.find?_cons,e']
    rw[valV_neg e,b];exact ih
theorem KV.any {kvs:List (κ×V)}{vs:List (κ×Value)}(r:KV kvs vs)(k:κ):(kvs.any fun kv=>decide (kv.1=k))=vs.any fun kv=>decide (kv.1=k):=by
 unfold KV at r
 induction r with
 | nil=>rfl
 | cons h t ih=>rw[List.any_cons,List.any_cons,ih,h.1]
theorem KV.repl {kvs:List (κ×V)}{vs:List (κ×Value)}(r:KV kvs vs)(k:κ){y:V}{u:Value}(ry:RelV y u) :
 KV (kvs.map fun kv=>if kv.1=k then (kv.1,y) else kv) (vs.map fun kv=>if kv.1=k then (kv.1,u) else kv):=by
 unfold KV at r ⊢
 induction r with
 | nil=>exact .nil
 | @cons p q ps qs h t ih=>
  rw[List.map_cons,List.map_cons]
  refine .cons ?_ ih
  obtain⟨h1,h2⟩:=h
  by_cases e:p.1=k
  . rw[if_pos e,if_pos (h1.symm.trans e)];exact⟨h1,ry⟩
  . rw[if_neg e,if_neg (fun z=>e (h1.trans z))];exact⟨h1,h2⟩
theorem KV.put {kvs:List (κ×V)}{vs:List (κ×Value)}(r:KV kvs vs)(k:κ){y:V}{u:Value}(ry:RelV y u):KV (putK kvs k y) (stored vs k u):=by
 unfold putK stored
 rw[r.any k]
 by_cases e:(vs.any fun kv=>decide (kv.1=k))=true
 . rw[if_pos e,if_pos e];exact r.repl k ry
 . rw[if_neg e,if_neg e];exact Paired.snoc r ⟨rfl,ry⟩
theorem KV.drop {kvs:List (κ×V)}{vs:List (κ×Value)}(r:KV kvs vs)(k:κ):KV (dropK kvs k) (without vs k):=by
 unfold KV at r ⊢
 unfold dropK without
 induction r with
 | nil=>exact .nil
 | @cons p q ps qs h t ih=>
  obtain⟨h1,h2⟩:=h
  rw[List.filter_cons,List.filter_cons]
  by_cases e:p.1=k
  . have a:¬ decide (p.1≠k)=true:=by simp[e]
    have b:¬ decide (q.1≠k)=true:=by simp[h1.symm.trans e]
    rw[if_neg a,if_neg b];exact ih
  . have e':¬ q.1=k:=fun z=>e (h1.trans z)
    have a:decide (p.1≠k)=true:=by simp[e]
    have b:decide (q.1≠k)=true:=by simp[e']
    rw[if_pos a,if_pos b];exact .cons ⟨h1,h2⟩ ih
theorem KV.length {kvs:List (κ×V)}{vs:List (κ×Value)}(r:KV kvs vs):kvs.length=vs.length:=Paired.length r
theorem dropK_le (kvs:List (κ×V))(k:κ):(dropK kvs k).length<=kvs.length:=List.length_filter_le _ _
end
theorem kV_is {P:Program}{w:World}{k:Key}{u:Value}(r:RelV (kV k) u):(mixKind P w).is k u=true:=by
 cases k with
 | inl i=>obtain⟨t,e⟩:=(show ∃t,u=Value.int i t from r);subst e;exact mixKind_int P w i t
 | inr x=>obtain⟨t,e⟩:=(show ∃t,u=Value.str x t from r);subst e;exact mixKind_str P w x t
theorem items_are {P:Program}{w:World}:∀{ks:List Key}{us:List Value},Vals (ks.map kV) us->ItemsAre (mixKind P w) ks us
 | [],_,r=>by rw[List.map_nil] at r;cases r;exact .nil
 | k::ks,_,r=>by
  rw[List.map_cons] at r
  cases r with
  | cons h t=>exact .cons (kV_is h) (items_are t)
abbrev KT (H:Hp):List (List Key×V)->List (List Key×Addr×Value)->Prop:=Paired fun p q=>p.1=q.1/\H q.2.1=some (.tup (p.1.map kV))/\RelV p.2 q.2.2
theorem KT.val {H:Hp}{kvs:List (List Key×V)}{xs:List (List Key×Addr×Value)}(r:KT H kvs xs)(k:List Key):RelO (valV kvs k) ((atKey xs k).map (·.2)):=by
 induction r with
 | nil=>exact True.intro
 | @cons p q ps qs h t ih=>
  obtain⟨h1,_,h2⟩:=h
  by_cases e:p.1=k
  . have e':q.1=k:=h1.symm.trans e
    have b:atKey (q::qs) k=some q.2:=by simp[atKey,List.find?_cons,e']
    rw[valV_pos e,b];exact h2
  . have e':¬ q.1=k:=fun z=>e (h1.trans z)
    have b:atKey (q::qs) k=atKey qs k:=by simp[atKey,List.find?_cons,e']
    rw[valV_neg e,b];exact ih
theorem KT.repl {H:Hp}{kvs:List (List Key×V)}{xs:List (List Key×Addr×Value)}(r:KT H kvs xs)(k:List Key){y:V}{u:Value}(ry:RelV y u) :
 KT H (kvs.map fun kv=>if kv.1=k then (kv.1,y) else kv) (xs.map (putAt k u)):=by
 induction r with
 | nil=>exact .nil
 | @cons p q ps qs h t ih=>
  rw[List.map_cons,List.map_cons]
  refine .cons ?_ ih
  obtain⟨h1,h2,h3⟩:=h
  unfold putAt
  by_cases e:p.1=k
  . rw[if_pos e,if_pos (h1.symm.trans e)];exact⟨h1,h2,ry⟩
  . rw[if_neg e,if_neg (fun z=>e (h1.trans z))];exact⟨h1,h2,h3⟩
theorem KT.put {H:Hp}{kvs:List (List Key×V)}{xs:List (List Key×Addr×Value)}(r:KT H kvs xs)(k:List Key){b:Addr}{y:V}{u:Value}(hb:H b=some (.tup (k.map kV)))(ry:RelV y u) :
 KT H (putK kvs k y) (storedH xs k b u):=by
 have e:(kvs.any fun kv=>decide (kv.1=k))=(atKey xs k).isSome:=by
  rw[valV_any,(r.val k).isSome_eq,Option.isSome_map]
 unfold putK storedH
 rw[e]
 by_cases q:(atKey xs k).isSome=true
 . rw[if_pos q,if_pos q];exact r.repl k ry
 . rw[if_neg q,if_neg q];exact Paired.snoc r ⟨rfl,hb,ry⟩
theorem KT.keeps {H H':Hp}{kvs:List (List Key×V)}{xs:List (List Key×Addr×Value)}(r:KT H kvs xs)(ht:∀b ys,H b=some (.tup ys)->H' b=some (.tup ys)):KT H' kvs xs:=
 Paired.mapP r fun _ _ z=>⟨z.1,ht _ _ z.2.1,z.2.2⟩
section
variable {P:Program}{w:World}{H:Hp}{h:Heap}{a:Addr}
theorem rd_of {u:HO}(ok:HOk P w H h)(e:Rd H a u):ObjOk P w H h a u:=e.ok ok
theorem dk_rd {kvs:List (Key×V)}(ok:HOk P w H h)(e:Rd H a (.dK kvs)):kvs.length<=sizeLine/\(a==sysModules)=false/\∃vs,KV kvs vs/\h.DictOf (mixKind P w) a vs:=
 show ObjOk P w H h a (.dK kvs) from rd_of ok e
theorem dk_of {kvs:List (Key×V)}(ok:HOk P w H h)(e:H a=some (.dK kvs)):kvs.length<=sizeLine/\(a==sysModules)=false/\∃vs,KV kvs vs/\h.DictOf (mixKind P w) a vs:=dk_rd ok (.inl e)
theorem key_of {ks:List Key}(ok:HOk P w H h)(e:H a=some (.tup (ks.map kV))):(tupleKind (mixKind P w)).is h ks a:=by
 obtain⟨_,its,r,o,h1,h2,n,h3⟩:=(show ObjOk P w H h a (.tup (ks.map kV)) from ok a _ e)
 exact⟨o,its.toArray,n,h1,h2,h3,by simpa using items_are r⟩
theorem dt_rd {kvs:List (List Key×V)}(ok:HOk P w H h)(e:Rd H a (.dT kvs)):kvs.length<=sizeLine/\(a==sysModules)=false /\
 ∃xs,KT H kvs xs/\h.DictOfH (tupleKind (mixKind P w)) a xs:=by
 obtain⟨z,y,xs,r,o,es,ep,h1,h2,h3,h4,h5⟩:=(show ObjOk P w H h a (.dT kvs) from rd_of ok e)
 refine⟨z,y,xs,r,o,es,ep,h1,h2,h3,h4,fun x hx=>?_,h5⟩
 have all:∀{l:List (List Key×V)}{m:List (List Key×Addr×Value)},KT H l m->∀x∈m,(tupleKind (mixKind P w)).is h x.1 x.2.1:=by
  intro l m q
  induction q with
  | nil=>intro x hx;exact nomatch hx
  | @cons p q ps qs hq t ih=>
   intro x hx
   rcases List.mem_cons.mp hx with e | hx
   . subst e
     exact key_of ok (by rw[<-hq.1];exact hq.2.1)
   . exact ih x hx
 exact all r x hx
theorem dt_of {kvs:List (List Key×V)}(ok:HOk P w H h)(e:H a=some (.dT kvs)):kvs.length<=sizeLine/\(a==sysModules)=false /\
 ∃xs,KT H kvs xs/\h.DictOfH (tupleKind (mixKind P w)) a xs:=dt_rd ok (.inl e)
end
def DGet (H:Hp)(a:Addr)(y:V)(r:Option V):Prop:=
 (∃kvs k,Rd H a (.dK kvs)/\y=kV k/\r=valV kvs k)\/∃kvs k b,Rd H a (.dT kvs)/\y = .ref b/\H b=some (.tup (k.map kV))/\r=valV kvs k
def DPut (H:Hp)(a:Addr)(y v:V)(H':Hp):Prop:=
 (∃kvs k,H a=some (.dK kvs)/\y=kV k/\kvs.length<sizeLine/\H'=upd H a (.dK (putK kvs k v))) \/
 ∃kvs k b,H a=some (.dT kvs)/\y = .ref b/\H b=some (.tup (k.map kV))/\kvs.length<sizeLine/\H'=upd H a (.dT (putK kvs k v))
theorem DGet.k {H:Hp}{a:Addr}{kvs:List (Key×V)}{k:Key}(e:H a=some (.dK kvs)):DGet H a (kV k) (valV kvs k):=.inl ⟨kvs,k,.inl e,rfl,rfl⟩
theorem DGet.t {H:Hp}{a b:Addr}{kvs:List (List Key×V)}{k:List Key}(e:H a=some (.dT kvs))(eb:H b=some (.tup (k.map kV))):DGet H a (.ref b) (valV kvs k):=.inr ⟨kvs,k,b,.inl e,rfl,eb,rfl⟩
theorem DPut.k {H:Hp}{a:Addr}{kvs:List (Key×V)}{k:Key}{v:V}(e:H a=some (.dK kvs))(hl:kvs.length<sizeLine):DPut H a (kV k) v (upd H a (.dK (putK kvs k v))):=.inl ⟨kvs,k,e,rfl,hl,rfl⟩
theorem DPut.t {H:Hp}{a b:Addr}{kvs:List (List Key×V)}{k:List Key}{v:V}(e:H a=some (.dT kvs))(eb:H b=some (.tup (k.map kV)))(hl:kvs.length<sizeLine) :
 DPut H a (.ref b) v (upd H a (.dT (putK kvs k v))):=.inr ⟨kvs,k,b,e,rfl,eb,hl,rfl⟩
section
variable {X:Cx}{pins:List (Addr×Obj)}{σ:St}{H:Hp}{s:Shared}{a:Addr}{y v:V}{u r:Value}{o:Option V}{A:Around}{E:Value->Shared->Prop}
theorem Inv.big (I:Inv X pins σ H s):sysModules<s.heap.objs.size:=by
 have h:mainGlobals<s.heap.objs.size:=(I.mod.glob.keeps I.bk).lt
 exact Nat.lt_trans (by decide) h
theorem d_getItem {Q:Value->Shared->Prop}(hu:A.units+1<cLine)(I:Inv X pins σ H s)(g:DGet H a y (some v))(ry:RelV y u)(h:∀w' s',Inv X pins σ H s'->RelV v w'->Q w' s') :
 wpAny (model X.prog X.w) A (getItem (.ref a) u) Q E s:=by
 rcases g with ⟨kvs,k,e,ey,l⟩ | ⟨kvs,k,b,e,ey,eb,l⟩
 . subst ey
   obtain⟨z,hd,vs,rel,dd⟩:=dk_rd I.hok e
   obtain⟨w',hw,rw'⟩:=RelO.some_of (v:=v) (o:=valueAt vs k) (by rw[l];exact rel.val k)
   exact wpAny_getItem_of (kV_is ry) dd.mapOf hw (h w' _ (I.tok _) rw')
 . subst ey
   cases (show u=Value.ref b from ry)
   obtain⟨z,hd,xs,rel,dd⟩:=dt_rd I.hok e
   obtain⟨w',hw,rw'⟩:=RelO.some_of (v:=v) (o:=(atKey xs k).map (·.2)) (by rw[l];exact rel.val k)
   obtain⟨p,hp,hp2⟩:=Option.map_eq_some_iff.mp hw
   refine wpAny_getItem_heap (tupleKind_room_in1 hu) (key_of I.hok eb) dd hp ?_
   rw[hp2]
   exact h w' _ (I.tok _) rw'
theorem d_in {Q:Value->Shared->Prop}(hu:A.units+1<cLine)(I:Inv X pins σ H s)(g:DGet H a y o)(ry:RelV y u)(h:∀s',Inv X pins σ H s'->Q (.bool o.isSome) s') :
 wpAny (model X.prog X.w) A (compareOp .In u (.ref a)) Q E s:=by
 rcases g with ⟨kvs,k,e,ey,l⟩ | ⟨kvs,k,b,e,ey,eb,l⟩
 . subst ey
   obtain⟨z,hd,vs,rel,dd⟩:=dk_rd I.hok e
   refine wpAny_in_of (kV_is ry) hd dd.mapOf ?_
   rw[<-(rel.val k).isSome_eq,<-l]
   exact h _ (I.tok _)
 . subst ey
   cases (show u=Value.ref b from ry)
   obtain⟨z,hd,xs,rel,dd⟩:=dt_rd I.hok e
   refine wpAny_in_heap (tupleKind_room_in1 hu) (key_of I.hok eb) hd dd ?_
   have q:=(rel.val k).isSome_eq
   rw[Option.isSome_map] at q
   rw[<-q,<-l]
   exact h _ (I.tok _)
theorem d_write {h':Heap}{t':Nat}{ob:HO}(I:Inv X pins σ H s)(mu:Mut (H a))(hs:Heap.SameBut a s.heap h')(he:∃q,h'.get? a=some q)(new:ObjOk X.prog X.w (upd H a ob) h' a ob) :
 Inv X pins σ (upd H a ob) { s with heap:=h',toks:=t' }:=
 I.write (x:=a) (e:=a) mu (.inl rfl) (fun b q hb z=>(hs.2 b hb).trans z) he new
theorem dk_new {P:Program}{w:World}{H':Hp}{h':Heap}{kvs:List (Key×V)}{vs:List (Key×Value)}(z:kvs.length<=sizeLine)(hd:(a==sysModules)=false)(rel:KV kvs vs)(dd:h'.DictOf (mixKind P w) a vs) :
 ObjOk P w H' h' a (.dK kvs):=⟨z,hd,vs,rel,dd⟩
theorem d_setItem {H':Hp}{Q:Unit->Shared->Prop}(hu:A.units+1<cLine)(I:Inv X pins σ H s)(g:DPut H a y v H')(ry:RelV y u)(rv:RelV v r)(h:∀s',Inv X pins σ H' s'->Q () s') :
 wpAny (model X.prog X.w) A (setItem (.ref a) u r) Q E s:=by
 rcases g with ⟨kvs,k,e,ey,l,eH⟩ | ⟨kvs,k,b,e,ey,eb,l,eH⟩
 . subst ey eH
   obtain⟨z,hd,vs,rel,dd⟩:=dk_of I.hok e
   have hz:vs.length<=sizeLine:=by rw[<-rel.length];exact z
   have hl:(putK kvs k v).length<=sizeLine:=by have:=length_putK kvs k v;omega
   refine wpAny_setItem_pairs (hsz:=hz) (kV_is ry) dd fun h' dd' hs=>h _ ?_
   have he:∃q,h'.get? a=some q:=let ⟨q,_,_,hq,_⟩:=dd';⟨q,hq⟩
   exact d_write I (by rw[e];exact True.intro) hs he (dk_new hl hd (rel.put k rv) dd')
 . subst ey eH
   cases (show u=Value.ref b from ry)
   obtain⟨z,hd,xs,rel,dd⟩:=dt_of I.hok e
   have hz:xs.length<=sizeLine:=by rw[<-Paired.length rel];exact z
   have hl:(putK kvs k v).length<=sizeLine:=by have:=length_putK kvs k v;omega
   refine wpAny_setItem_heap (hsz:=hz) (tupleKind_room_in1 hu) (key_of I.hok eb) dd fun h' dd' hs=>h _ ?_
   obtain⟨q,es,ep,hq,h2,h3,h4,_,h5⟩:=dd'
   refine d_write I (by rw[e];exact True.intro) hs ⟨q,hq⟩ ⟨hl,hd,_,(rel.put k eb rv).keeps fun c ys ec=>?_,q,es,ep,hq,h2,h3,h4,h5⟩
   rw[upd_ne (ne_of ec e (fun z=>nomatch z))]
   exact ec
end
section
variable {X:Cx}{pins:List (Addr×Obj)}{σ:St}{H:Hp}{s:Shared}{a:Addr}{kvs:List (Key×V)}{k:Key}{u:Value}{A:Around}{E:Value->Shared->Prop}
theorem d_delItem {Q:Unit->Shared->Prop}(I:Inv X pins σ H s)(e:H a=some (.dK kvs))(ry:RelV (kV k) u)(l:(valV kvs k).isSome=true)(h:∀s',Inv X pins σ (upd H a (.dK (dropK kvs k))) s'->Q () s') :
 wpAny (model X.prog X.w) A (delItem (.ref a) u) Q E s:=by
 obtain⟨z,hd,vs,rel,dd⟩:=dk_of I.hok e
 refine wpAny_delItem_slot dd.typeIs (by decide) PySem.F.slot_dict_delitem
  (call_meetsIn PySem.F.slot_dict_delitem dd.typeIs PySem.F.entry_dict_delitem (PySem.F.args_dict_delitem_2 _ _) (meets_dict_delitem_pairs (mixKind X.prog X.w) a (kV_is ry)) ⟨vs,dd,by rw[<-rel.length];exact z,by rw[<-(rel.val k).isSome_eq];exact l,fun h' dd' hs=>h _ ?_⟩)
 have he:∃q,h'.get? a=some q:=let ⟨q,_,_,hq,_⟩:=dd';⟨q,hq⟩
 exact d_write I (by rw[e];exact True.intro) hs he (dk_new (Nat.le_trans (dropK_le kvs k) z) hd (rel.drop k) dd')
theorem d_pop {v:V}{more:List Value}{Q:Value->Shared->Prop}(I:Inv X pins σ H s)(e:H a=some (.dK kvs))(ry:RelV (kV k) u)(l:valV kvs k=some v)(hm:more=[]\/∃x,more=[x])
 (h:∀w' s',Inv X pins σ (upd H a (.dK (dropK kvs k))) s'->RelV v w'->Q w' s'):wpAny (model X.prog X.w) A (call (.builtin "dict.pop") (.ref a::u::more)) Q E s:=by
 obtain⟨z,hd,vs,rel,dd⟩:=dk_of I.hok e
 obtain⟨w',hw,rw'⟩:=RelO.some_of (v:=v) (o:=valueAt vs k) (by rw[<-l];exact rel.val k)
 have hp:(keyPart u).isSome=true:=by
  cases k with
  | inl i=>obtain⟨t,q⟩:=(show ∃t,u=Value.int i t from ry);subst q;rfl
  | inr x=>obtain⟨t,q⟩:=(show ∃t,u=Value.str x t from ry);subst q;rfl
 have ha:argsOk "dict.pop" ⟨.ref a::u::more,[]⟩:=by
  rcases hm with q | ⟨x,q⟩
  . subst q;exact PySem.F.args_dict_pop_2 _ _
  . subst q;exact PySem.F.args_dict_pop_3 _ _ _
 refine call_meetsIn PySem.F.slot_dict_pop dd.typeIs PySem.F.entry_dict_pop ha (meets_dict_pop_there (mixKind X.prog X.w) a (kV_is ry) more hm hp)
  ⟨vs,w',dd,by rw[<-rel.length];exact z,hw,fun h' dd' hs=>h w' _ ?_ rw'⟩
 have he:∃q,h'.get? a=some q:=let ⟨q,_,_,hq,_⟩:=dd';⟨q,hq⟩
 exact d_write I (by rw[e];exact True.intro) hs he (dk_new (Nat.le_trans (dropK_le kvs k) z) hd (rel.drop k) dd')
end
def NoSl (i:Expr):Prop:=∀ov iv,subscripted i false ov iv=operate [ov,iv] (getItem ov iv)
theorem subD_of {prog:Program}{w:World}{A:Around}{E:Value->Shared->Prop}{s:Shared}{env:Env}{value slice:Expr}{pos:Pos}{T id:String}{Q:Value->Shared->Prop}
 (hl:typeLookup (.type T) "__getitem__" = pure (some (.builtin id))) (hs:NoSl slice)
 (h:wpAny (model prog w) A (eval value env) (fun o s₁=>wpAny (model prog w) A (eval slice env) (fun i s₂=>s₂.TypeIs o T/\wpAny (model prog w) A (getItem o i) Q E s₂) E s₁) E s) :
 wpAny (model prog w) A (eval (.Subscript value slice pos) env) Q E s:=by
 refine Subscript_ (wpAny_mono h (fun o s₁ h₁=>wpAny_mono h₁ (fun i s₂ h₂=>?_) fun _ _ x=>x) fun _ _ x=>x)
 obtain⟨hT,h₂⟩:=h₂
 unfold subscriptTail
 refine wpAny_bind ?_
 rw[getitemInPython_of_ne hT.not_modules]
 refine wpAny_bind (wpAny_specialOf hT hl ?_)
 have fin:wpAny (model prog w) A (subscripted slice false o i) (fun r s₃=>wpAny (model prog w) A (letTemporaryGo value o r >>= fun _=>pure r) Q E s₃) E s₂:=by
  rw[hs o i]
  exact wpAny_operating (wpAny_mono h₂ (fun r s₃ h₃=>wpAny_bind (wpAny_letTemporaryGo (wpAny_pure h₃))) fun _ _ x=>x)
 first
  | exact wpAny_pure (wpAny_bind fin)
  | exact wpAny_bind (wpAny_pure (wpAny_bind fin))
  | exact wpAny_bind fin
theorem dict_typeIs {X:Cx}{pins:List (Addr×Obj)}{σ:St}{H:Hp}{s:Shared}{a:Addr}{y:V}{o:Option V}(I:Inv X pins σ H s)(g:DGet H a y o):s.TypeIs (.ref a) "dict" := by
 rcases g with ⟨kvs,k,e,_,_⟩ | ⟨kvs,k,b,e,_,_,_⟩
 . obtain⟨_,_,vs,_,dd⟩:=dk_rd I.hok e
   exact dd.typeIs
 . obtain⟨_,_,xs,_,dd⟩:=dt_rd I.hok e
   exact dd.typeIs
def tDGet (td ty:TE):TE:=fun σ H Q=>td σ H fun x H1=>ty σ H1 fun y H2=>∃a v,x = .ref a/\DGet H2 a y (some v)/\Q v H2
def tDIn (ty td:TE):TE:=fun σ H Q=>ty σ H fun y H1=>td σ H1 fun x H2=>∃a o,x = .ref a/\DGet H2 a y o/\Q (.bl o.isSome) H2
def sDPut (td ty tv:TE):TS:=fun D σ H=>tv σ H fun v H1=>td σ H1 fun x H2=>ty σ H2 fun y H3=>∃a H4,x = .ref a/\DPut H3 a y v H4/\D.nx σ H4
section
variable {X:Cx}{o i e value:Expr}{pos pos' tpos:Pos}{td ty tv:TE}
theorem pe_dget (hu:X.A.units+1<cLine)(ho:PE X o td)(hi:PE X i ty)(hs:NoSl i):PE X (.Subscript o i pos) (tDGet td ty):=by
 intro pins s σ H Q I h
 refine subD_of PySem.F.slot_dict_getitem.lookup hs (thn (ho pins s σ H _ I h) fun u s1 ⟨x,H1,I1,rx,q1⟩=>thn (hi pins s1 σ H1 _ I1 q1) fun iv s2 ⟨y,H2,I2,ry,a,v,ex,g,q2⟩=>?_)
 subst ex
 obtain rfl:u=Value.ref a:=rx
 exact⟨dict_typeIs I2 g,d_getItem hu I2 g ry fun w' s3 I3 rw'=>⟨v,H2,I3,rw',q2⟩⟩
theorem pc_din (hu:X.A.units+1<cLine)(hi:PE X i ty)(ho:PE X o td):PC X .In i o (tDIn ty td):=by
 intro pins s σ H Q I h
 refine thn (hi pins s σ H _ I h) fun iv s1 ⟨y,H1,I1,ry,q1⟩=>thn (ho pins s1 σ H1 _ I1 q1) fun u s2 ⟨x,H2,I2,rx,a,ov,ex,g,q2⟩=>?_
 subst ex
 obtain rfl:u=Value.ref a:=rx
 exact d_in hu I2 g ry fun s3 I3=>⟨.bl ov.isSome,H2,I3,rfl,q2⟩
theorem ps_dput (hu:X.A.units+1<cLine)(ho:PE X o td)(hi:PE X i ty)(hv:PE X value tv)(hs:swapsWith value (some (.Subscript o i pos')) pos.line X.env=pure false) :
 PS X (.Assign [.Subscript o i pos'] value pos) (sDPut td ty tv):=by
 intro pins s σ H D I h
 refine wpAny_Assign_Subscript (thn (hv pins s σ H _ I h) fun r s1 ⟨v,H1,I1,rv,q1⟩=>thn (ho pins s1 σ H1 _ I1 q1) fun u s2 ⟨x,H2,I2,rx,q2⟩=>thn (hi pins s2 σ H2 _ I2 q2) fun iv s3 ⟨y,H3,I3,ry,a,H4,ex,g,q3⟩=>?_) hs
 subst ex
 obtain rfl:u=Value.ref a:=rx
 exact d_setItem hu I3 g ry rv fun s4 I4=>⟨σ,H4,I4,q3⟩
end
theorem dk_empty {P:Program}{w:World}{H:Hp}(h:Heap)(hb:sysModules<h.objs.size):ObjOk P w H (h.push { cls:=.type "dict",data:=.dict #[] }) h.objs.size (.dK []):=
 ⟨Nat.zero_le _,beq_eq_false_iff_ne.mpr (Ne.symm (Nat.ne_of_lt hb)),[],.nil,Heap.DictOf.new h⟩
theorem dt_empty {P:Program}{w:World}{H:Hp}(h:Heap)(hb:sysModules<h.objs.size):ObjOk P w H (h.push { cls:=.type "dict",data:=.dict #[] }) h.objs.size (.dT []):=
 ⟨Nat.zero_le _,beq_eq_false_iff_ne.mpr (Ne.symm (Nat.ne_of_lt hb)),[],.nil,_,#[],0,Heap.get?_push_size _ rfl,⟨rfl,rfl,rfl⟩,rfl,rfl,List.nodup_nil⟩
def tDNewT:TE:=fun _ H Q=>∀p,H p=none->Q (.ref p) (upd H p (.dT []))
section
variable {X:Cx}{pos:Pos}
theorem pe_dnewT:PE X (.Dict [] [] pos) tDNewT:=fun pins s σ H Q I h=>
 wpAny_Dict_empty ⟨.ref s.heap.objs.size,_,I.laid (a:=s.heap.objs.size) (o:=.dT []) (t':=s.toks) (fun _ _ q=>Heap.get?_push_of_some _ q) (Nat.le_refl _) (dt_empty s.heap I.big),rfl,h _ (I.hok.fresh (Nat.le_refl _))⟩
end
def tPairs:List (TE×TE)->St->Hp->(List (V×V)->Hp->Prop)->Prop
 | [],_,H,Q=>Q [] H
 | (tk,tv)::r,σ,H,Q=>tk σ H fun x H1=>tv σ H1 fun y H2=>tPairs r σ H2 fun ps H3=>Q ((x,y)::ps) H3
abbrev VV:List (V×V)->List (Value×Value)->Prop:=Paired fun p q=>RelV p.1 q.1/\RelV p.2 q.2
def PPs (X:Cx)(pos:Pos)(keys:List (Option Expr))(values:List Expr)(trs:List (TE×TE)):Prop:=
 ∀(pins:List (Addr×Obj))(s:Shared)(σ:St)(H:Hp)(Q:List (V×V)->Hp->Prop),Inv X pins σ H s->tPairs trs σ H Q ->
  wpAny (model X.prog X.w) X.A (evalPairs (pairTrees keys values X.env pos)) (fun vs s'=>∃ps H',Inv X pins σ H' s'/\VV ps vs/\Q ps H') X.xe s
theorem pps_nil {X:Cx}{pos:Pos}:PPs X pos [] [] []:=fun pins s σ H Q I h=>pairTrees_nil_walk ⟨[],H,I,.nil,h⟩
theorem pps_cons {X:Cx}{pos:Pos}{k v:Expr}{ks:List (Option Expr)}{vs:List Expr}{tk tv:TE}{trs:List (TE×TE)}(hk:PE X k tk)(hv:PE X v tv)(hr:PPs X pos ks vs trs) :
 PPs X pos (some k::ks) (v::vs) ((tk,tv)::trs):=fun pins s σ H Q I h=>
 pairTrees_cons_walk (thn (hk pins s σ H _ I h) fun u s1 ⟨x,H1,I1,rx,q1⟩=>thn (hv pins s1 σ H1 _ I1 q1) fun w2 s2 ⟨y,H2,I2,ry,q2⟩=>
  thn (hr pins s2 σ H2 _ I2 q2) fun ws s3 ⟨ps,H3,I3,rel,q3⟩=>⟨(x,y)::ps,H3,I3,.cons ⟨rx,ry⟩ rel,q3⟩)
def mergeK (kvs more:List (Key×V)):List (Key×V):=more.foldl (fun acc kv=>putK acc kv.1 kv.2) kvs
theorem KV.merge:∀{more:List (Key×V)}{rs:List (Key×Value)}{kvs:List (Key×V)}{vs:List (Key×Value)},KV more rs->KV kvs vs->KV (mergeK kvs more) (merged vs rs):=by
 intro more rs kvs vs r
 unfold KV at r
 induction r generalizing kvs vs with
 | nil=>intro q;exact q
 | @cons p q ps qs h t ih=>
  intro r0
  have e:KV (putK kvs p.1 p.2) (stored vs q.1 q.2):=by
   have:=r0.put p.1 h.2
   rw[<-h.1];exact this
  exact ih e
theorem length_mergeK:∀(more kvs:List (Key×V)),(mergeK kvs more).length<=kvs.length+more.length
 | [],kvs=>by show kvs.length<=kvs.length+0;omega
 | p::r,kvs=>by
  have h1:=length_mergeK r (putK kvs p.1 p.2)
  have h2:=length_putK kvs p.1 p.2
  show (mergeK (putK kvs p.1 p.2) r).length<=_
  rw[List.length_cons];omega
theorem carries_of {P:Program}{w:World}:∀{kvs:List (Key×V)}{ws:List (Value×Value)},VV (kvs.map fun kv=>(kV kv.1,kv.2)) ws->∃rs,Carries (mixKind P w) ws rs/\KV kvs rs
 | [],_,r=>by rw[List.map_nil] at r;cases r;exact⟨[],True.intro,.nil⟩
 | p::kvs,_,r=>by
  rw[List.map_cons] at r
  cases r with
  | @cons a b as bs h t=>
   obtain⟨rs,c,q⟩:=carries_of (P:=P) (w:=w) t
   obtain⟨b1,b2⟩:=b
   exact⟨(p.1,b2)::rs,⟨kV_is h.1,rfl,c⟩,.cons ⟨rfl,h.2⟩ q⟩
def tDisp (trs:List (TE×TE)):TE:=fun σ H Q=>∀p,H p=none->tPairs trs σ (upd H p (.dK [])) fun ps H2=>H2 p=some (.dK [])/\∃kvs:List (Key×V),ps=kvs.map (fun kv=>(kV kv.1,kv.2))/\kvs.length<=15/\Q (.ref p) (upd H2 p (.dK (mergeK [] kvs)))
theorem pe_disp {X:Cx}{pos:Pos}{keys:List (Option Expr)}{values:List Expr}{trs:List (TE×TE)}(h:PPs X pos keys values trs)(hall:keys.all (·.isSome)=true)(hl:keys.length=values.length)(h0:keys≠[])
 (h15:keys.length<=15):PE X (.Dict keys values pos) (tDisp trs):=by
 intro pins s σ H Q I q
 have hn:=I.hok.fresh (Nat.le_refl s.heap.objs.size)
 have I1:=I.laid (a:=s.heap.objs.size) (o:=.dK []) (h':=s.heap.push { cls:=.type "dict",data:=.dict #[] }) (t':=s.toks) (fun _ _ q=>Heap.get?_push_of_some _ q) (Nat.le_refl _) (dk_empty s.heap I.big)
 refine wpAny_Dict_walk (knd:=mixKind X.prog X.w) hall hl h0 h15 (thn (h pins _ σ _ _ I1 (q _ hn)) fun ws s2 ⟨ps,H2,I2,rel,e,kvs,ep,lk,q2⟩=>?_)
 subst ep
 obtain⟨rs,c,rk⟩:=carries_of (P:=X.prog) (w:=X.w) rel
 obtain⟨z,hd,vs0,r0,dd⟩:=dk_of I2.hok e
 cases r0
 refine⟨rs,c,dd,fun h' dd' hs=>⟨.ref s.heap.objs.size,_,?_,rfl,q2⟩⟩
 have hz:(mergeK [] kvs).length<=sizeLine:=by
  have h1:=length_mergeK kvs []
  rw[List.length_nil] at h1
  rw[sizeLine_eq];omega
 have he:∃q,h'.get? s.heap.objs.size=some q:=let ⟨q,_,_,hq,_⟩:=dd';⟨q,hq⟩
 exact d_write I2 (by rw[e];exact True.intro) hs he (dk_new hz hd (rk.merge .nil) dd')
structure M1 (X:Cx)(o:Expr)(m:Str)(apos:Pos)(e:Expr)(cpos:Pos):Prop where
 base:attributeBase o m X.env (eval o X.env)=eval o X.env
 few:((backTo cpos (starEach [e] X.env)).all (fun x=>!x.1) && (backToKw cpos (keywordEach [] X.env)).all (fun x=>x.1.isSome)
  && decide (([e]:List Expr).length+([]:List Keyword).length+(if ([]:List Keyword).isEmpty then 0 else 1)<30))=true
 line:(apos.endLine==cpos.line)=true
 trees:backTo cpos (starEach [e] X.env)=[(false,eval e X.env)]
structure M2 (X:Cx)(o:Expr)(m:Str)(apos:Pos)(e f:Expr)(cpos:Pos):Prop where
 base:attributeBase o m X.env (eval o X.env)=eval o X.env
 few:((backTo cpos (starEach [e,f] X.env)).all (fun x=>!x.1) && (backToKw cpos (keywordEach [] X.env)).all (fun x=>x.1.isSome)
  && decide (([e,f]:List Expr).length+([]:List Keyword).length+(if ([]:List Keyword).isEmpty then 0 else 1)<30))=true
 line:(apos.endLine==cpos.line)=true
 trees:backTo cpos (starEach [e,f] X.env)=[(false,eval e X.env),(false,eval f X.env)]
def IsD (H:Hp)(a:Addr):Prop:=(∃kvs,Rd H a (.dK kvs))\/∃kvs,Rd H a (.dT kvs)
theorem isD_at {X:Cx}{pins:List (Addr×Obj)}{σ:St}{H:Hp}{s:Shared}{a:Addr}(I:Inv X pins σ H s)(d:IsD H a) :
 s.TypeIs (.ref a) "dict" /\ (∀b,Value.ref a = .ref b->∃ob,s.heap.get? b=some ob/\ob.dict=none)/\(a==sysModules)=false:=by
 rcases d with ⟨kvs,e⟩ | ⟨kvs,e⟩
 . obtain⟨_,hd,vs,_,dd⟩:=dk_rd I.hok e
   refine⟨dd.typeIs,fun b q=>?_,hd⟩
   cases q
   obtain⟨ob,_,_,h1,h2,_⟩:=dd
   exact⟨ob,h1,h2.2.1⟩
 . obtain⟨_,hd,xs,_,dd⟩:=dt_rd I.hok e
   refine⟨dd.typeIs,fun b q=>?_,hd⟩
   cases q
   obtain⟨ob,_,_,h1,h2,_⟩:=dd
   exact⟨ob,h1,h2.2.1⟩
section
variable {X:Cx}{pins:List (Addr×Obj)}{σ:St}{H:Hp}{s:Shared}{a:Addr}{y d:V}{u r:Value}{o:Option V}{A:Around}{E:Value->Shared->Prop}
theorem d_get2 {Q:Value->Shared->Prop}(hu:A.units+1<cLine)(I:Inv X pins σ H s)(g:DGet H a y o)(ry:RelV y u)(rd:RelV d r)(h:∀w' s',Inv X pins σ H s'->RelV (o.getD d) w'->Q w' s') :
 wpAny (model X.prog X.w) A (call (.builtin "dict.get") [.ref a,u,r]) Q E s:=by
 rcases g with ⟨kvs,k,e,ey,l⟩ | ⟨kvs,k,b,e,ey,eb,l⟩
 . subst ey
   obtain⟨z,hd,vs,rel,dd⟩:=dk_rd I.hok e
   refine call_meetsIn PySem.F.slot_dict_get dd.typeIs PySem.F.entry_dict_get (PySem.F.args_dict_get_3 _ _ _) (meets_dict_get_default (mixKind X.prog X.w) a (kV_is ry) hd r) ⟨_,dd.mapOf,h _ _ (I.tok _) ?_⟩
   rw[l]
   exact (rel.val k).getD rd
 . subst ey
   cases (show u=Value.ref b from ry)
   obtain⟨z,hd,xs,rel,dd⟩:=dt_rd I.hok e
   refine call_meetsIn PySem.F.slot_dict_get dd.typeIs PySem.F.entry_dict_get (PySem.F.args_dict_get_3 _ _ _) (meetsH_dict_get_default (tupleKind (mixKind X.prog X.w)) a b hd r) ⟨tupleKind_room_in1 hu,k,xs,key_of I.hok eb,dd,h _ _ (I.tok _) ?_⟩
   rw[l]
   exact (rel.val k).getD rd
end
def tDGet2 (td ty tx:TE):TE:=fun σ H Q=>td σ H fun x H1=>∃a,x = .ref a/\IsD H1 a/\ty σ H1 fun y H2=>tx σ H2 fun z H3=>∃o,DGet H3 a y o/\Q (o.getD z) H3
def tDPop1 (td ty:TE):TE:=fun σ H Q=>td σ H fun x H1=>∃a,x = .ref a/\IsD H1 a/\ty σ H1 fun y H2=>∃kvs k v,H2 a=some (.dK kvs)/\y=kV k/\valV kvs k=some v/\Q v (upd H2 a (.dK (dropK kvs k)))
section
variable {X:Cx}{o e f:Expr}{apos cpos:Pos}{td ty tx:TE}
theorem pe_dget2 (hu:X.A.units+1<cLine)(ho:PE X o td)(he:PE X e ty)(hf:PE X f tx)(m:M2 X o "get" apos e f cpos):PE X (.Call (.Attribute o "get" apos) [e,f] [] cpos) (tDGet2 td ty tx):=by
 intro pins s σ H Q I h
 refine wpAny_Call_method m.base m.few m.line PySem.F.plainAttrs_dict PySem.F.slot_dict_get PySem.F.type_dict_get (thn (ho pins s σ H _ I h) fun u s1 ⟨x,H1,I1,rx,a,ex,d,q1⟩=>?_)
 subst ex
 obtain rfl:u=Value.ref a:=rx
 obtain⟨t1,t2,_⟩:=isD_at I1 d
 refine⟨t1,t2,?_⟩
 rw[m.trees]
 refine Calls.callWith_builtin rfl (Calls.evalArgs_plain (Calls.spliced_cons (thn (he pins s1 σ H1 _ I1 q1) fun iv s2 ⟨y,H2,I2,ry,q2⟩=>
  Calls.spliced_cons (thn (hf pins s2 σ H2 _ I2 q2) fun fv s3 ⟨z,H3,I3,rz,ov,g,q3⟩=>Calls.spliced_nil ?_))))
 exact d_get2 hu I3 g ry rz fun w' s4 I4 rw'=>⟨_,H3,I4,rw',q3⟩
theorem pe_dpop1 (ho:PE X o td)(he:PE X e ty)(m:M1 X o "pop" apos e cpos):PE X (.Call (.Attribute o "pop" apos) [e] [] cpos) (tDPop1 td ty):=by
 intro pins s σ H Q I h
 refine wpAny_Call_method m.base m.few m.line PySem.F.plainAttrs_dict PySem.F.slot_dict_pop PySem.F.type_dict_pop (thn (ho pins s σ H _ I h) fun u s1 ⟨x,H1,I1,rx,a,ex,d,q1⟩=>?_)
 subst ex
 obtain rfl:u=Value.ref a:=rx
 obtain⟨t1,t2,_⟩:=isD_at I1 d
 refine⟨t1,t2,?_⟩
 rw[m.trees]
 refine Calls.callWith_builtin rfl (Calls.evalArgs_plain (Calls.spliced_cons (thn (he pins s1 σ H1 _ I1 q1) fun iv s2 ⟨y,H2,I2,ry,kvs,k,v,ea,ey,l,q2⟩=>Calls.spliced_nil ?_)))
 subst ey
 exact d_pop I2 ea ry l (.inl rfl) fun w' s3 I3 rw'=>⟨v,_,I3,rw',q2⟩
end
section
variable {X:Cx}{pins:List (Addr×Obj)}{σ:St}{H:Hp}{s:Shared}{a:Addr}{kvs:List (Key×V)}{A:Around}{E:Value->Shared->Prop}
end
section
variable {X:Cx}{pins:List (Addr×Obj)}{σ:St}{H:Hp}{s:Shared}{a:Addr}{y:V}{u:Value}{A:Around}{E:Value->Shared->Prop}
end
end L2
namespace HT
open PySem PyProof.Rows
def lexLt:List Int->List Int->Bool
 | [],[]=>false
 | [],_::_=>true
 | _::_,[]=>false
 | x::xs,y::ys=>if x=y then lexLt xs ys else decide (x<y)
theorem lexLt_cons (x y:Int)(xs ys:List Int):lexLt (x::xs) (y::ys)=if x=y then lexLt xs ys else decide (x<y):=rfl
theorem lexLt_nil_nil:lexLt [] []=false:=rfl
theorem lexLt_nil_cons (y:Int)(ys:List Int):lexLt [] (y::ys)=true:=rfl
theorem lexLt_cons_nil (x:Int)(xs:List Int):lexLt (x::xs) []=false:=rfl
theorem eqAt_int (A:Around)(s:Shared)(a:Int)(t:Tok)(c:Int)(u:Tok):∃e,SeqAt.EqAt A s (.int a t) (.int c u) e/\(e=true↔a=c):=
 ⟨(a==c),SeqAt.EqAt.int_int a t c u,by simp⟩
theorem rcLt_int (A:Around)(s:Shared)(a:Int)(t:Tok)(c:Int)(u:Tok)(prog:Program)(w:World)(E:Value->Shared->Prop)(Q:Value->Shared->Prop)(h:Q (.bool (decide (a<c))) s) :
 wpAny (model prog w) A (richCompare .Lt (.int a t) (.int c u)) Q E s:=
 (PyProof.Rows.lt_int h:wpAny (model prog w) A (compareOp .Lt (.int a t) (.int c u)) Q E s)
section
open PySem.SeqAt
open PySem.AutoSeq1 (wpAny_loadPart')
open PySem.MeetsSeq PySem.MeetsSeq2 PySem.MeetsSeq3
theorem tuple_lt_ints (l b:Addr)(items items2:Array Value)(n n2:Nat)(dd dd2:Option Addr)(sl sl2:Array (Option Value))(ns ms:List Int)(hi:IntsAre items.toList ns)(hj:IntsAre items2.toList ms) :
 Meets (Builtin.«tuple.__lt__» ⟨[.ref l,.ref b],[]⟩)
  (fun _ R s=>s.heap.get? l=some { cls:=.type "tuple",dict:=dd,data:=.seq items n,slots:=sl }/\s.heap.get? b=some { cls:=.type "tuple",dict:=dd2,data:=.seq items2 n2,slots:=sl2 } /\
   R (.ok (.ret (.bool (lexLt ns ms)))) s):=
 .of_wp fun prog w A R s h=>by
  obtain⟨hp,g,d,tk,os⟩:=s;obtain⟨hl,hb,h⟩:=h
  have f2:=AutoSeq1.sub_tuple_tuple
  have z1:items.size=ns.length:=by rw[<-hi.length];simp
  have z2:items2.size=ms.length:=by rw[<-hj.length];simp
  wp_walk using wpAny_loadPart' hl,wpAny_loadPart' hb,wpAny_forIn_list _ (fun rest b s'=>b.1=none/\s'=⟨hp,g,d,tk,os⟩/\∃(vs ws:List Value)(ns' ms':List Int),rest=vs.zip ws /\
   IntsAre vs ns'/\IntsAre ws ms'/\ns'.length+items2.size=ms'.length+items.size/\R (.ok (.ret (.bool (lexLt ns' ms')))) ⟨hp,g,d,tk,os⟩) _
  case turn=>
   rintro ⟨y,x⟩ rest b s' ⟨hb',rfl,vs,ws,ns',ms',hz,hvi,hwi,hlen,hR⟩
   cases hvi with
   | nil=>rw[List.zip_nil_left] at hz;cases hz
   | cons a t hvi'=>
    cases hwi with
    | nil=>rw[List.zip_nil_right] at hz;cases hz
    | cons c u hwi'=>
     rw[List.zip_cons_cons] at hz
     injection hz with hyx hrest
     injection hyx with hy hx
     subst hy hx
     rw[lexLt_cons] at hR
     simp only[List.length_cons] at hlen
     obtain⟨e,he,hiff⟩:=eqAt_int A.in1 ⟨hp,g,d,tk,os⟩ a t c u
     refine wpAny_bind (he prog w _ _ ?_)
     cases e with
     | true=>
      rw[if_pos (hiff.mp rfl)] at hR
      wp_walk
      exact⟨rfl,rfl,_,_,_,_,hrest,hvi',hwi',by omega,hR⟩
     | false=>
      rw[if_neg (fun q=>absurd (hiff.mpr q) Bool.false_ne_true)] at hR
      have hri:=rcLt_int A.in1 ⟨hp,g,d,tk,os⟩ a t c u prog w
      wp_walk using hri
      exact⟨_,rfl,by simpa using hR⟩
  case fin=>
   rintro ⟨b1,b2⟩ s' ⟨hb',rfl,vs,ws,ns',ms',hz,hvi,hwi,hlen,hR⟩
   simp only at hb'
   subst hb'
   have hv:lexLt ns' ms'=decide (items.size<items2.size):=by
    cases hvi with
    | nil=>
     cases hwi with
     | nil=>
      simp only[List.length_nil] at hlen
      rw[lexLt_nil_nil]
      exact (decide_eq_false (by omega)).symm
     | cons c u hw=>
      simp only[List.length_nil,List.length_cons] at hlen
      rw[lexLt_nil_cons]
      exact (decide_eq_true (by omega)).symm
    | cons a t hv=>
     cases hwi with
     | nil=>
      simp only[List.length_nil,List.length_cons] at hlen
      rw[lexLt_cons_nil]
      exact (decide_eq_false (by omega)).symm
     | cons c u hw=>
      rw[List.zip_cons_cons] at hz
      cases hz
   rw[hv] at hR
   wp_walk
   exact⟨_,rfl,by simpa [Builtin.Tuple.tupleCompareSizes] using hR⟩
  case h=>
   exact⟨rfl,rfl,items.toList,items2.toList,ns,ms,rfl,hi,hj,by omega,h⟩
end
section
variable {prog:Program}{w:World}{A:Around}{E:Value->Shared->Prop}{s:Shared}
theorem lt_tupInts {l b:Addr}{items items2:Array Value}{ns ms:List Int}{Q:Value->Shared->Prop}(hl:IsTup s.heap l items)(hb:IsTup s.heap b items2)(hi:IntsAre items.toList ns)(hj:IntsAre items2.toList ms)
 (hu:A.units<cLine)(h:Q (.bool (lexLt ns ms)) s):wpAny (model prog w) A (compareOp .Lt (.ref l) (.ref b)) Q E s:=by
 obtain⟨⟨cls,dd,data,sl⟩,ho,hc,n,hd⟩:=id hl
 obtain⟨⟨cls2,dd2,data2,sl2⟩,ho2,hc2,n2,hd2⟩:=id hb
 simp only at hc hd hc2 hd2
 subst hc hd hc2 hd2
 exact richCompare_meets_room (op:=.Lt) ⟨_,ho,rfl⟩ ⟨_,ho2,rfl⟩ PySem.F.slot_tuple_lt PySem.F.entry_tuple_lt (PySem.F.args_tuple_lt_2 _ _) (tuple_lt_ints l b items items2 n n2 dd dd2 sl sl2 ns ms hi hj)
  ⟨ho,ho2,show Value.bool (lexLt ns ms)≠Value.notImplemented/\Q (.bool (lexLt ns ms)) s from ⟨(fun x=>nomatch x),h⟩⟩ hu
theorem cat_tup {t b:Addr}{vs ws:List Value}{Q:Value->Shared->Prop}(ht:IsTup s.heap t vs.toArray)(hb:IsTup s.heap b ws.toArray)(hv:vs≠[])
 (h1:ws=[]->Q (.ref t) s)(h2:ws≠[]->Q (.ref s.heap.objs.size) { s with heap:=s.heap.push { cls:=.type "tuple",data:=.seq (vs++ws).toArray } })
 (hsz:vs.length+ws.length<=sizeLine):wpAny (model prog w) A (binaryOp .Add (.ref t) (.ref b)) Q E s:=by
 obtain⟨⟨cls,dd,data,sl⟩,ho,hc,n,hd⟩:=id ht
 obtain⟨⟨cls2,dd2,data2,sl2⟩,ho2,hc2,n2,hd2⟩:=id hb
 simp only at hc hd hc2 hd2
 subst hc hd hc2 hd2
 have e:vs.toArray++ws.toArray=(vs++ws).toArray:=by simp
 by_cases hw:ws=[]
 . exact concat_meets ⟨_,ho,rfl⟩ ⟨_,ho2,rfl⟩ noFill_tuple_add seq_tuple_add PySem.F.slot_tuple_add PySem.F.entry_tuple_add (PySem.F.args_tuple_add_2 _ _)
    (tuple_addW1 t b vs.toArray ws.toArray n n2 dd dd2 sl sl2 (by simpa using hv) (by simp[hw])) ⟨ho,ho2,h1 hw⟩
 . refine concat_meets ⟨_,ho,rfl⟩ ⟨_,ho2,rfl⟩ noFill_tuple_add seq_tuple_add PySem.F.slot_tuple_add PySem.F.entry_tuple_add (PySem.F.args_tuple_add_2 _ _)
    (tuple_addW2 t b vs.toArray ws.toArray n n2 dd dd2 sl sl2 (by simpa using hv) (by simpa using hw) (by rw[List.size_toArray,List.size_toArray];exact hsz)) ⟨ho,ho2,?_⟩
   rw[e]
   exact h2 hw
def sIx (n d:Nat):Option Int->Nat
 | none=>d
 | some v=>if v<0 then (v+(n:Int)).toNat else min v.toNat n
theorem sIx_none (n d:Nat):sIx n d none=d:=rfl
theorem sIx_nat (n d k:Nat):sIx n d (some (k:Int))=min k n:=by
 show (if (k:Int)<0 then ((k:Int)+(n:Int)).toNat else min (k:Int).toNat n)=min k n
 rw[if_neg (by omega),Int.toNat_natCast]
theorem sIx_le (n d:Nat)(hd:d<=n)(o:Option Int):sIx n d o<=n:=by
 cases o with
 | none=>exact hd
 | some v=>
  show (if v<0 then (v+(n:Int)).toNat else min v.toNat n)<=n
  by_cases hv:v<0
  . rw[if_pos hv];omega
  . rw[if_neg hv];exact Nat.min_le_right _ _
theorem clip_eq (v:Int)(n d:Nat):(if v<0 then max (v+(n:Int)) 0 else min v (n:Int))=((sIx n d (some v):Nat):Int):=by
 show (if v<0 then max (v+(n:Int)) 0 else min v (n:Int))=(((if v<0 then (v+(n:Int)).toNat else min v.toNat n):Nat):Int)
 by_cases hv:v<0
 . simp only[if_pos hv];omega
 . simp only[if_neg hv];omega
theorem adjust_gen (lo hi:Option Int) (n:Nat):Builtin.Slice.sliceAdjust lo hi 1 (n:Int)=(((sIx n 0 lo:Nat):Int),((sIx n n hi:Nat):Int)):=by
 have h1:¬ ((1:Int)<0):=by omega
 unfold Builtin.Slice.sliceAdjust
 simp only[h1,if_false]
 refine Prod.ext ?_ ?_
 . cases lo with
   | none=>rfl
   | some v=>exact clip_eq v n 0
 . cases hi with
   | none=>rfl
   | some v=>exact clip_eq v n n
theorem places_gen (i j:Nat):Builtin.Slice.slicePlaces (i:Int) (j:Int) 1=j-i:=by
 unfold Builtin.Slice.slicePlaces
 have h1:(1:Int) > 0:=by omega
 simp only[h1,if_true,Int.ediv_one]
 split <;> omega
theorem slicePart_ {v:Value} {o:Option Int} {Q:Option Int->Shared->Prop} (p:IsPart v o) (h:Q o s):wpAny (model prog w) A (Builtin.Slice.slicePartIndex v) Q E s:=by
 cases p with
 | none=>exact slicePart_none h
 | int i t=>exact slicePart_int h
theorem sliceApplied_gen {sl:Addr}{vl vu:Value}{lo hi:Option Int}{n:Nat}{Q:Int×Int×Nat->Shared->Prop}(hs:s.heap.IsSliceOf sl vl vu .none)(pl:IsPart vl lo)(pu:IsPart vu hi)
 (h:Q (((sIx n 0 lo:Nat):Int),1,sIx n n hi-sIx n 0 lo) s):wpAny (model prog w) A (Builtin.Slice.sliceApplied (.ref sl) (pure (n:Int))) Q E s:=by
 obtain⟨os,hos,hcs,hds⟩:=id hs
 unfold Builtin.Slice.sliceApplied Builtin.Slice.sliceFields
 refine wpAny_bind (wpAny_bind (wpAny_field hos hds (x:=vl) rfl (wpAny_bind (wpAny_field hos hds (x:=vu) rfl (wpAny_bind (wpAny_field hos hds (x:=.none) rfl (wpAny_pure ?_)))))))
 refine wpAny_bind (slicePart_none ?_)
 show wpAny _ _ (if ((1:Int)==0)=true then _ else _) _ _ s
 rw[if_neg (by decide)]
 refine wpAny_bind (slicePart_ pl (wpAny_bind (slicePart_ pu (wpAny_bind (wpAny_pure ?_)))))
 show wpAny _ _ (match Builtin.Slice.sliceAdjust lo hi 1 (n:Int) with | (lo,hi)=>pure (lo,(1:Int),Builtin.Slice.slicePlaces lo hi 1)) _ _ s
 rw[adjust_gen lo hi n]
 show wpAny _ _ (pure (((sIx n 0 lo:Nat):Int),(1:Int),Builtin.Slice.slicePlaces ((sIx n 0 lo:Nat):Int) ((sIx n n hi:Nat):Int) 1)) _ _ s
 rw[places_gen]
 exact wpAny_pure h
theorem pick_gen (xs:Array Value)(i k:Nat):((List.range k).filterMap fun (m:Nat)=>xs[((i:Int)+(m:Int)*1).toNat]?).toArray=((xs.toList.drop i).take k).toArray:=by
 have e:(fun (m:Nat)=>xs[((i:Int)+(m:Int)*1).toNat]?)=fun m=>xs[i+m]?:=by
  funext m
  have:((i:Int)+(m:Int)*1).toNat=i+m:=by omega
  rw[this]
 rw[e]
 have:=pick_run xs i k
 rw[List.filterMap_map] at this
 have e2:((fun x=>xs[x]?)∘fun x=>i+x)=fun m=>xs[i+m]?:=rfl
 rw[e2] at this
 rw[this]
theorem getItem_tuple_cut {t sl:Addr}{items:Array Value}{vl vu:Value}{lo hi:Option Int}{Q:Value->Shared->Prop}(ht:IsTup s.heap t items)(hs:s.heap.IsSliceOf sl vl vu .none)(pl:IsPart vl lo)(pu:IsPart vu hi)
 (hw:¬ (sIx items.size 0 lo=0/\sIx items.size items.size hi=items.size))
 (h:Q (.ref s.heap.objs.size) { s with heap:=s.heap.push { cls:=.type "tuple",data:=.seq ((items.toList.drop (sIx items.size 0 lo)).take (sIx items.size items.size hi-sIx items.size 0 lo)).toArray } })
 (hsz:items.size<=sizeLine):wpAny (model prog w) A (getItem (.ref t) (.ref sl)) Q E s:=by
 have htake:sizeOk (.seq ((items.toList.drop (sIx items.size 0 lo)).take (sIx items.size items.size hi-sIx items.size 0 lo)).toArray):=by
  show ((items.toList.drop (sIx items.size 0 lo)).take (sIx items.size items.size hi-sIx items.size 0 lo)).toArray.size<=sizeLine
  rw[List.size_toArray,List.length_take,List.length_drop,Array.length_toList]
  omega
 have hj:sIx items.size items.size hi<=items.size:=sIx_le _ _ (Nat.le_refl _) hi
 obtain⟨os,hos,hcs,hds⟩:=id hs
 have hTs:s.TypeIs (.ref sl) "slice" := ⟨os,hos,hcs⟩
 unfold getItem
 try with_reducible refine wpAny_holding ?_
 first | refine wpAny_bind (wpAny_pure ?_) | skip
 refine wpAny_bind (wpAny_sequenceKey ht.typeIs (by decide) ?_)
 refine wpAny_bind (wpAny_callSpecial?_slot (name:=Str.ofString "__getitem__") ht.typeIs PyProof.Rows.slot_tuple_getitem
  (wpAny_call_entry PyProof.Rows.slot_tuple_getitem ht.typeIs entry_tuple_getitem ?_ (args_tuple_getitem _ _)))
 show wpAny _ _ (Builtin.Tuple.tupleItemsOf (.ref t) >>= _) _ _ s
 refine wpAny_bind (tupleItemsOf_ ht ?_)
 refine wpAny_bind (wpAny_typeOf hTs ?_)
 rw[if_pos (by decide)]
 refine wpAny_bind (sliceApplied_gen hs pl pu ?_)
 have hno:¬ ((((sIx items.size 0 lo:Nat):Int)==0 && (1:Int)==1 && (sIx items.size items.size hi-sIx items.size 0 lo)==items.size)=true):=by
  intro q
  rw[Bool.and_eq_true,Bool.and_eq_true] at q
  have q1:((sIx items.size 0 lo:Nat):Int)=0:=eq_of_beq q.1.1
  have q2:sIx items.size items.size hi-sIx items.size 0 lo=items.size:=eq_of_beq q.2
  exact hw ⟨by omega,by omega⟩
 show wpAny _ _ (if (((sIx items.size 0 lo:Nat):Int)==0 && (1:Int)==1 && (sIx items.size items.size hi-sIx items.size 0 lo)==items.size)=true then _ else _) _ _ s
 rw[if_neg hno,pick_gen]
 first
  | exact wpAny_bind (m:=Builtin.Tuple.tupleExact _) (wpAny_newObj_type (wpAny_pure ⟨_,rfl,wpAny_pure h⟩) htake)
  | exact wpAny_bind (m:=Builtin.Tuple.tupleExact _) (wpAny_newObj_type (wpAny_bind (wpAny_pure (wpAny_pure ⟨_,rfl,wpAny_pure h⟩))) htake)
  | exact wpAny_bind (wpAny_bind (m:=Builtin.Tuple.tupleExact _) (wpAny_newObj_type (wpAny_pure (wpAny_pure ⟨_,rfl,wpAny_pure h⟩)) htake))
  | exact wpAny_bind (wpAny_bind (m:=Builtin.Tuple.tupleExact _) (wpAny_newObj_type (wpAny_pure ⟨_,rfl,wpAny_pure h⟩) htake))
end
end HT
namespace L2
open PySem PySem.Spec PyProof.Rows
abbrev TO:=St->Hp->(Option Int->Hp->Prop)->Prop
def PO (X:Cx)(e:Option Expr)(t:TO):Prop:=
 ∀(pins:List (Addr×Obj))(s:Shared)(σ:St)(H:Hp)(Q:Option Int->Hp->Prop),Inv X pins σ H s->t σ H Q ->
  wpAny (model X.prog X.w) X.A (evalPart e X.env) (fun u s'=>∃o H',Inv X pins σ H' s'/\IsPart u o/\Q o H') X.xe s
def tNoPart:TO:=fun _ H Q=>Q none H
def tPart (t:TE):TO:=fun σ H Q=>t σ H fun x H1=>∃i,x = .int i/\Q (some i) H1
theorem intsAre_of {ns:List Int}:∀{us:List Value},Vals (ns.map V.int) us->IntsAre us ns:=by
 induction ns with
 | nil=>intro us r;rw[List.map_nil] at r;cases r;exact .nil
 | cons n ns ih=>
  intro us r
  rw[List.map_cons] at r
  cases r with
  | cons r1 r2=>
   obtain⟨t,e⟩:=r1
   subst e
   exact .cons n t (ih r2)
section
variable {X:Cx}{e:Expr}{te:TE}{lo hi:Option Expr}{tl th:TO}{pos p2:Pos}
theorem po_none:PO X none tNoPart:=by
 intro pins s σ H Q I h
 rw[evalPart_none]
 exact wpAny_pure ⟨none,H,I,.none,h⟩
theorem po_some (h:PE X e te):PO X (some e) (tPart te):=by
 intro pins s σ H Q I hw
 rw[evalPart_some]
 refine thn (h pins s σ H _ I hw) fun u s1 ⟨x,H1,I1,r1,q1⟩=>?_
 obtain⟨i,rfl,q⟩:=q1
 obtain⟨t,rfl⟩:=r1
 exact⟨some i,H1,I1,.int i t,q⟩
def SlR (X:Cx)(r:V->Option Int->Option Int->Hp->VK->Prop):Prop:=
 ∀(pins:List (Addr×Obj))(s:Shared)(σ:St)(H:Hp)(x:V)(v vl vu:Value)(lo hi:Option Int)(sl:Addr)(Q:VK),Inv X pins σ H s->RelV x v->s.heap.IsSliceOf sl vl vu .none->IsPart vl lo->IsPart vu hi->r x lo hi H Q ->
  ∃T id,typeLookup (.type T) "__getitem__" = pure (some (.builtin id))/\s.TypeIs v T/\wpAny (model X.prog X.w) X.A (getItem v (.ref sl)) (EP X pins σ Q) X.xe s
def tSl (r:V->Option Int->Option Int->Hp->VK->Prop)(te:TE)(tl th:TO):TE:=fun σ H Q=>te σ H fun x H1=>tl σ H1 fun l H2=>th σ H2 fun u H3=>r x l u H3 Q
theorem pe_slice {r:V->Option Int->Option Int->Hp->VK->Prop}(hr:SlR X r)(he:PE X e te)(hl:PO X lo tl)(hu:PO X hi th):PE X (.Subscript e (.Slice lo hi none p2) pos) (tSl r te tl th):=by
 intro pins s σ H Q I h
 refine Subscript_ (thn (he pins s σ H _ I h) fun v s1 ⟨x,H1,I1,r1,q1⟩=>?_)
 refine wpAny_Slice (thn (hl pins s1 σ H1 _ I1 q1) fun vl s2 ⟨l,H2,I2,pl,q2⟩=>thn (hu pins s2 σ H2 _ I2 q2) fun vu s3 ⟨u,H3,I3,pu,q3⟩=>?_)
 rw[evalPart_none]
 refine wpAny_pure ?_
 have I4:Inv X pins σ H3 { s3 with heap:=s3.heap.push { cls:=.type "slice",data:=.fields #[vl,vu,.none] } }:=I3.kept (t':=s3.toks) fun b ob q=>Heap.get?_push_of_some _ q
 obtain⟨T,id,hT,ht,hg⟩:=hr pins { s3 with heap:=s3.heap.push { cls:=.type "slice",data:=.fields #[vl,vu,.none] } } σ H3 x v vl vu l u s3.heap.objs.size Q I4 r1 (Heap.IsSliceOf.new ..) pl pu q3
 show wpAny (model X.prog X.w) X.A (subscriptTail e (.Slice lo hi none p2) v (.ref s3.heap.objs.size)) (EP X pins σ Q) X.xe { s3 with heap:=s3.heap.push { cls:=.type "slice",data:=.fields #[vl,vu,.none] } }
 exact tail_any (ops:=[.ref s3.heap.objs.size,v]) ht hT hg (by with_unfolding_all rfl)
def cutV (xs:List V)(lo hi:Option Int):List V:=(xs.drop (HT.sIx xs.length 0 lo)).take (HT.sIx xs.length xs.length hi-HT.sIx xs.length 0 lo)
theorem cutV_length (xs:List V)(lo hi:Option Int):(cutV xs lo hi).length<=xs.length:=by
 unfold cutV
 rw[List.length_take,List.length_drop]
 omega
def rSlT (K:PySem.W.Frag):V->Option Int->Option Int->Hp->VK->Prop:=fun x lo hi H Q=>∃a xs,x = .ref a/\SqT K H a xs /\
 ¬ (HT.sIx xs.length 0 lo=0/\HT.sIx xs.length xs.length hi=xs.length)/\∀p,H p=none->Q (.ref p) (upd H p (.tup (cutV xs lo hi)))
theorem sl_tup:SlR X (rSlT X.K):=by
 intro pins s σ H x v vl vu lo hi sl Q I rx hs pl pu h
 obtain⟨a,xs,rfl,hx,hw,q⟩:=h
 cases rx
 obtain⟨its,r,ht,hz⟩:=I.tuple hx
 have hlen:its.toArray.size=xs.length:=by rw[List.size_toArray];exact r.length.symm
 refine⟨"tuple",_,PyProof.Rows.slot_tuple_getitem.lookup,ht.typeIs,?_⟩
 refine HT.getItem_tuple_cut ht hs pl pu (by rw[hlen];exact hw) ?_ (by rw[hlen];exact hz)
 rw[hlen]
 refine⟨.ref s.heap.objs.size,_,I.laid (t':=s.toks) (o:=.tup (cutV xs lo hi)) (fun b ob q=>Heap.get?_push_of_some _ q) (Nat.le_refl _) ?_,rfl,q _ (I.hok.fresh (Nat.le_refl _))⟩
 exact⟨⟨Nat.le_trans (cutV_length xs lo hi) hz,_,Heap.get?_push_size _ rfl,rfl⟩,_,(r.drop (HT.sIx xs.length 0 lo)).take (HT.sIx xs.length xs.length hi-HT.sIx xs.length 0 lo),IsTup.new _ _⟩
def rCatT (K:PySem.W.Frag):R2:=fun x y H Q=>∃a b xs ys,x = .ref a/\y = .ref b/\SqT K H a xs/\SqT K H b ys/\xs≠[]/\xs.length+ys.length<=sizeLine /\
 (ys=[]->Q (.ref a) H)/\(ys≠[]->∀p,H p=none->Q (.ref p) (upd H p (.tup (xs++ys))))
theorem Vals.nil_iff {xs:List V}{us:List Value}(r:Vals xs us):us=[]↔xs=[]:=by
 cases r with
 | nil=>simp
 | cons _ _=>simp
theorem op_catT:OpR X (binaryOp .Add) (rCatT X.K):=by
 intro pins s σ H x y v u Q I rx ry h
 obtain⟨a,b,xs,ys,rfl,rfl,ha,hb,hx,hz,q1,q2⟩:=h
 cases rx
 cases ry
 obtain⟨its,r1,p1,_⟩:=I.tuple ha
 obtain⟨its2,r2,p2,_⟩:=I.tuple hb
 refine HT.cat_tup p1 p2 (fun z=>hx (r1.nil_iff.mp z)) (fun z=>⟨.ref a,H,I,rfl,q1 (r2.nil_iff.mp z)⟩) (fun z=>?_) (by rw[<-r1.length,<-r2.length];exact hz)
 refine⟨.ref s.heap.objs.size,_,I.laid (t':=s.toks) (o:=.tup (xs++ys)) (fun b ob q=>Heap.get?_push_of_some _ q) (Nat.le_refl _) ?_,rfl,q2 (fun w=>z (r2.nil_iff.mpr w)) _ (I.hok.fresh (Nat.le_refl _))⟩
 exact⟨⟨by rw[List.length_append];exact hz,_,Heap.get?_push_size _ rfl,rfl⟩,_,r1.append r2,IsTup.new _ _⟩
end
end L2
namespace L2
open PySem PySem.Spec PyProof.Rows
def ixN (n:Nat)(i:Int):Option Nat:=if 0<=i then (if i<n then some i.toNat else none) else if -(n:Int)<=i then some (i+n).toNat else none
def atI {α:Type}(xs:List α)(i:Int):Option α:=(ixN xs.length i).bind fun j=>xs[j]?
theorem ixN_seq {n:Nat}{i:Int}{j:Nat}(h:ixN n i=some j):seqIndex? i n=some j/\j<n /\ -(n:Int)<=i/\i<n:=by
 unfold ixN at h
 by_cases h0:0<=i
 . rw[if_pos h0] at h
   by_cases h1:i<n
   . rw[if_pos h1] at h
     have e:i.toNat=j:=Option.some.inj h
     exact⟨by rw[seqIndex_of h0 h1,e],by omega,by omega,h1⟩
   . rw[if_neg h1] at h;cases h
 . rw[if_neg h0] at h
   by_cases h1 : -(n:Int)<=i
   . rw[if_pos h1] at h
     have e:(i+n).toNat=j:=Option.some.inj h
     exact⟨by rw[seqIndex_neg (by omega) h1,e],by omega,h1,by omega⟩
   . rw[if_neg h1] at h;cases h
theorem atI_get {α:Type}{xs:List α}{i:Int}{v:α}(h:atI xs i=some v):∃j,seqIndex? i xs.length=some j/\xs[j]? = some v/\j<xs.length /\ -(xs.length:Int)<=i/\i<xs.length:=by
 unfold atI at h
 cases e:ixN xs.length i with
 | none=>rw[e] at h;cases h
 | some j=>
  rw[e] at h
  obtain⟨h1,h2,h3,h4⟩:=ixN_seq e
  exact⟨j,h1,h,h2,h3,h4⟩
theorem atI_nat {α:Type}{xs:List α}{j:Nat}{v:α}(h:xs[j]? = some v):atI xs (j:Int)=some v:=by
 have hj:j<xs.length:=(List.getElem?_eq_some_iff.mp h).1
 have e:ixN xs.length (j:Int)=some j:=by
  unfold ixN
  rw[if_pos (by omega),if_pos (by omega)];simp
 unfold atI;rw[e];exact h
def PlainIx (b:Expr):Prop:=∀o i,subscripted b false o i=operate [o,i] (getItem o i)
def IxR (X:Cx)(r:R2):Prop:=
 ∀(value slice:Expr)(pins:List (Addr×Obj))(s:Shared)(σ:St)(H:Hp)(x y:V)(v u:Value)(Q:VK),Inv X pins σ H s->RelV x v->RelV y u->r x y H Q ->
  subscripted slice false v u=operate [v,u] (getItem v u)->wpAny (model X.prog X.w) X.A (subscriptTail value slice v u) (EP X pins σ Q) X.xe s
def MtR (X:Cx)(id:String)(r:V->List V->Hp->VK->Prop):Prop:=
 ∀(pins:List (Addr×Obj))(s:Shared)(σ:St)(H:Hp)(x:V)(xs:List V)(v:Value)(us:List Value)(Q:VK),Inv X pins σ H s->RelV x v->Vals xs us->r x xs H Q ->
  wpAny (model X.prog X.w) X.A (call (.builtin id) (v::us)) (EP X pins σ Q) X.xe s
section
variable {X:Cx}{a b:Expr}{ta tb:TE}{pos:Pos}
theorem pe_ix {r:R2}(hr:IxR X r)(ha:PE X a ta)(hb:PE X b tb)(hs:PlainIx b):PE X (.Subscript a b pos) (tOp r ta tb):=by
 intro pins s σ H Q I h
 exact Subscript_ (binT ha hb I h fun v u s2 x y H2 I2 rx ry q=>hr a b pins s2 σ H2 x y v u Q I2 rx ry q (hs _ _))
def rIxL (K:PySem.W.Frag):R2:=fun x y H Q=>∃p xs i v,x = .ref p/\y = .int i/\SqL K H p xs/\atI xs i=some v/\Q v H
def rIxT (K:PySem.W.Frag):R2:=fun x y H Q=>∃p xs i v,x = .ref p/\y = .int i/\SqT K H p xs/\atI xs i=some v/\Q v H
theorem ix_list:IxR X (rIxL X.K):=by
 intro value slice pins s σ H x y v u Q I rx ry h hs
 obtain⟨p,xs,i,z,rfl,rfl,hq,he,q⟩:=h
 cases rx
 obtain⟨t,rfl⟩:=ry
 obtain⟨its,r,pl,hz⟩:=I.list hq
 obtain⟨j,h1,h2,h3,h4,h5⟩:=atI_get he
 obtain⟨w,ew,rw'⟩:=r.get h2
 have hl:=r.length
 have hn:=line63
 have fin:EP X pins σ Q w s:=⟨z,H,I,rw',q⟩
 by_cases h0:0<=i
 . have hj:i.toNat=j:=by
    rw[seqIndex_of h0 h5] at h1
    exact Option.some.inj h1
   exact item_listR pl.isList h0 (by omega) (by rw[hj];simpa using ew) fin hs
 . have hj:(i+(its.toArray.size:Int)).toNat=j:=by
    rw[seqIndex_neg (by omega) h4] at h1
    rw[List.size_toArray,<-hl]
    exact Option.some.inj h1
   exact subscriptTail_builtinR (x:=w) pl.isList.typeIs slot_list_getitem.lookup
    (wpAny_getItem_list_neg (Q:=fun r s'=>r=w/\EP X pins σ Q r s') pl.isList (by omega) (by rw[List.size_toArray] <;> omega) (by omega) (by rw[hj];simpa using ew) ⟨rfl,fin⟩) hs
theorem ix_tup:IxR X (rIxT X.K):=by
 intro value slice pins s σ H x y v u Q I rx ry h hs
 obtain⟨p,xs,i,z,rfl,rfl,hq,he,q⟩:=h
 cases rx
 obtain⟨t,rfl⟩:=ry
 obtain⟨its,r,pl,hz⟩:=I.tuple hq
 obtain⟨j,h1,h2,h3,h4,h5⟩:=atI_get he
 obtain⟨w,ew,rw'⟩:=r.get h2
 have hl:=r.length
 have hn:=line63
 have fin:EP X pins σ Q w s:=⟨z,H,I,rw',q⟩
 exact subscriptTail_builtinR (x:=w) pl.typeIs slot_tuple_getitem.lookup
  (getItem_tuple (j:=j) (Q:=fun r s'=>r=w/\EP X pins σ Q r s') pl (by omega) (by omega) (by rw[List.size_toArray,<-hl];exact h1) (by simpa using ew) ⟨rfl,fin⟩) hs
theorem mapSeq_set (its:List Value)(n j:Nat)(u:Value):Obj.mapSeq (·.setIfInBounds j u) { cls:=.type "list",data:=.seq its.toArray n }={ cls:=.type "list",data:=.seq (its.set j u).toArray n }:=by
 simp[Obj.mapSeq]
theorem Inv.lst {pins:List (Addr×Obj)}{σ:St}{H:Hp}{s:Shared}{p:Addr}{xs:List V}(I:Inv X pins σ H s)(h:H p=some (.lst xs)) :
 ∃(its:List Value)(n:Nat),Vals xs its/\s.heap.get? p=some { cls:=.type "list",data:=.seq its.toArray n }/\xs.length<=sizeLine:=by
 obtain⟨z,its,n,r,e⟩:=I.hok p _ h
 exact⟨its,n,r,e,z⟩
theorem Inv.lstUpd {pins:List (Addr×Obj)}{σ:St}{H:Hp}{s:Shared}{p:Addr}{xs ys:List V}{its its':List Value}{n n':Nat}{f:Obj->Obj}(I:Inv X pins σ H s)(h:H p=some (.lst xs))
 (ho:s.heap.get? p=some { cls:=.type "list",data:=.seq its.toArray n }) (hf:f { cls:=.type "list",data:=.seq its.toArray n }={ cls:=.type "list",data:=.seq its'.toArray n' }) (r:Vals ys its')(hz:ys.length<=sizeLine)(t:Nat) :
 Inv X pins σ (upd H p (.lst ys)) { s with heap:=s.heap.update p f,toks:=t }:=by
 have e:(s.heap.update p f).get? p=some { cls:=.type "list",data:=.seq its'.toArray n' }:=by
  rw[Heap.get?_update_self f ho (by rw[hf] <;> rfl),hf]
 refine I.write (x:=p) (e:=p) (by rw[h];trivial) (.inl rfl) (fun b u hb q=>(Heap.get?_update_other _ _ (Ne.symm hb)).trans q) ⟨_,e⟩ ?_
 exact⟨hz,its',n',r,e⟩
def rSetL:V->V->V->Hp->(Hp->Prop)->Prop:=fun o i v H Q=>∃p xs k j,o = .ref p/\i = .int k/\H p=some (.lst xs)/\ixN xs.length k=some j/\Q (upd H p (.lst (xs.set j v)))
theorem set_list:PSet X rSetL:=by
 intro pins s σ H o i v ov iv u Q I ro ri rv h
 obtain⟨p,xs,k,j,rfl,rfl,hp,hj,q⟩:=h
 cases ro
 obtain⟨t,rfl⟩:=ri
 obtain⟨its,n,r,ho,hz⟩:=I.lst hp
 obtain⟨h1,h2,h3,h4⟩:=ixN_seq hj
 have hl:=r.length
 have hn:=line63
 have I':Inv X pins σ (upd H p (.lst (xs.set j v))) { s with heap:=s.heap.update p (Obj.mapSeq (·.setIfInBounds j u)) }:=
  I.lstUpd hp ho (mapSeq_set its n j u) (r.set rv j) (by rw[List.length_set];exact hz) s.toks
 by_cases h0:0<=k
 . have hk:k.toNat=j:=by
    rw[seqIndex_of h0 h4] at h1
    exact Option.some.inj h1
   exact PySem.W.ki_setAt ho h0 (by omega) (by rw[List.size_toArray,<-hl];exact h4) (by rw[hk];exact⟨_,I',q⟩)
 . have hk:(k+(its.toArray.size:Int)).toNat=j:=by
    rw[seqIndex_neg (by omega) h3] at h1
    rw[List.size_toArray,<-hl]
    exact Option.some.inj h1
   exact PySem.W.ki_setBack ho (by omega) (by rw[List.size_toArray,<-hl];exact h3) (by omega) (by rw[hk];exact⟨_,I',q⟩)
theorem slice_bounds (lo hi:Option Int)(n:Nat):(sliceBounds lo hi none n).1=((HT.sIx n 0 lo:Nat):Int)/\(sliceBounds lo hi none n).2.1=((HT.sIx n n hi:Nat):Int)/\(sliceBounds lo hi none n).2.2=1:=by
 refine⟨?_,?_,rfl⟩
 . cases lo with
   | none=>simp[sliceBounds,HT.sIx]
   | some i=>
    simp only[sliceBounds,HT.sIx,Option.getD_none,show (1:Int) > 0 by decide,if_true]
    by_cases h:i<0
    . simp only[h,if_true] <;> omega
    . simp only[h,if_false] <;> omega
 . cases hi with
   | none=>simp[sliceBounds,HT.sIx]
   | some i=>
    simp only[sliceBounds,HT.sIx,Option.getD_none,show (1:Int) > 0 by decide,if_true]
    by_cases h:i<0
    . simp only[h,if_true] <;> omega
    . simp only[h,if_false] <;> omega
theorem slicePick_cut (its:List Value)(lo hi:Option Int):slicePick its.toArray lo hi none=((its.drop (HT.sIx its.length 0 lo)).take (HT.sIx its.length its.length hi-HT.sIx its.length 0 lo)).toArray:=by
 obtain⟨h1,h2,h3⟩:=slice_bounds lo hi its.toArray.size
 unfold slicePick
 rw[h1,h2,h3]
 simp only[sliceRange_one,pick_run,List.size_toArray] <;> rfl
def rSlL (K:PySem.W.Frag):V->Option Int->Option Int->Hp->VK->Prop:=fun x lo hi H Q=>∃a xs,x = .ref a/\SqL K H a xs/\∀p,H p=none->Q (.ref p) (upd H p (.lst (cutV xs lo hi)))
theorem sl_list:SlR X (rSlL X.K):=by
 intro pins s σ H x v vl vu lo hi sl Q I rx hs pl pu h
 obtain⟨a,xs,rfl,hx,q⟩:=h
 cases rx
 obtain⟨its,r,ht,hz⟩:=I.list hx
 have hlen:=r.length
 refine⟨"list",_,slot_list_getitem.lookup,ht.isList.typeIs,?_⟩
 refine wpAny_getItem_list_slice ht.isList hs pl pu .none (by simp) ?_ (by rw[List.size_toArray] <;> omega)
 rw[slicePick_cut,<-hlen]
 refine⟨.ref s.heap.objs.size,_,I.laid (t':=s.toks) (o:=.lst (cutV xs lo hi)) (fun b ob q=>Heap.get?_push_of_some _ q) (Nat.le_refl _) ?_,rfl,q _ (I.hok.fresh (Nat.le_refl _))⟩
 exact⟨Nat.le_trans (cutV_length xs lo hi) hz,_,0,(r.drop (HT.sIx xs.length 0 lo)).take (HT.sIx xs.length xs.length hi-HT.sIx xs.length 0 lo),Heap.get?_push_size _ rfl⟩
theorem call_len_seq:CallR X (.builtin "len") (fun xs H Q=>∃p ys,xs=[.ref p]/\(SqL X.K H p ys\/SqT X.K H p ys)/\Q (.int ys.length) H):=by
 intro pins s σ H xs us Q I r h
 obtain⟨p,ys,rfl,hq,q⟩:=h
 obtain⟨u,rfl,rx⟩:=vals1 r
 cases rx
 have hn:=line63
 rcases hq with hq | hq
 . obtain⟨its,r',pl,hz⟩:=I.list hq
   have hlen:=r'.length
   exact Calls.call_len_list pl.isList (by simp only[List.size_toArray] <;> omega) ⟨.int ys.length,H,I.tok _,⟨s.toks+1,by rw[List.size_toArray,hlen]⟩,q⟩
 . obtain⟨its,r',pl,hz⟩:=I.tuple hq
   have hlen:=r'.length
   exact len_tuple pl (by simp only[List.size_toArray] <;> omega) ⟨.int ys.length,H,I.tok _,⟨s.toks+1,by rw[List.size_toArray,hlen]⟩,q⟩
theorem call_list_of:CallR X (.type "list") (fun xs H Q=>∃p ys,xs=[.ref p]/\(SqL X.K H p ys\/SqT X.K H p ys)/\∀l,H l=none->Q (.ref l) (upd H l (.lst ys))):=by
 intro pins s σ H xs us Q I r h
 obtain⟨p,ys,rfl,hq,q⟩:=h
 obtain⟨u,rfl,rx⟩:=vals1 r
 cases rx
 have fin:∀(its:List Value),Vals ys its->ys.length<=sizeLine->∀(h':Heap)(c':Nat),(∀b o',s.heap.get? b=some o'->h'.get? b=some o') ->
  h'.get? s.heap.objs.size=some { cls:=.type "list",dict:=none,data:=.seq its.toArray c',slots:=#[] }->EP X pins σ Q (.ref s.heap.objs.size) { s with heap:=h' }:=fun its r' hz h' c' kp e=>
  ⟨.ref s.heap.objs.size,_,I.laid (t':=s.toks) kp (Nat.le_refl _) (show ObjOk X.prog X.w _ h' _ (.lst ys) from ⟨hz,its,c',r',e⟩),rfl,q _ (I.hok.fresh (Nat.le_refl _))⟩
 rcases hq with hq | hq
 . obtain⟨its,r',pl,hz⟩:=I.list hq
   have hlen:=r'.length
   obtain⟨o,ho,hc,n,hd⟩:=pl.isList
   exact call_list_seq p (.inl rfl) ho hc hd (fun h' c' kp e=>fin its r' hz h' c' kp e) (by simp only[List.size_toArray] <;> omega)
 . obtain⟨its,r',pl,hz⟩:=I.tuple hq
   have hlen:=r'.length
   obtain⟨o,ho,hc,n,hd⟩:=pl
   exact call_list_seq p (.inr rfl) ho hc hd (fun h' c' kp e=>fin its r' hz h' c' kp e) (by simp only[List.size_toArray] <;> omega)
theorem call_tuple_of:CallR X (.type "tuple") (fun xs H Q=>∃p ys,xs=[.ref p]/\((SqL X.K H p ys/\∀l,H l=none->Q (.ref l) (upd H l (.tup ys)))\/(SqT X.K H p ys/\Q (.ref p) H))):=by
 intro pins s σ H xs us Q I r h
 obtain⟨p,ys,rfl,h⟩:=h
 obtain⟨u,rfl,rx⟩:=vals1 r
 cases rx
 rcases h with ⟨hq,q⟩ | ⟨hq,q⟩
 . obtain⟨its,r',pl,hz⟩:=I.list hq
   have hlen:=r'.length
   refine call_tuple_list pl.isList (fun h' kp=>?_) (by simp only[List.size_toArray] <;> omega)
   have I1:Inv X pins σ H { s with heap:=h' }:=I.kept (t':=s.toks) kp
   have I2:Inv X pins σ (upd H h'.objs.size (.tup ys)) { s with heap:=h'.push { cls:=.type "tuple",data:=.seq its.toArray } }:=
    I1.laid (t':=s.toks) (fun b o e=>Heap.get?_push_of_some _ e) (Nat.le_refl _) (show ObjOk X.prog X.w _ _ _ (.tup ys) from ⟨⟨hz,_,Heap.get?_push_size _ rfl,rfl⟩,its,r',IsTup.new _ _⟩)
   exact⟨.ref h'.objs.size,_,I2,rfl,q _ (I1.hok.fresh (Nat.le_refl _))⟩
 . obtain⟨its,r',pl,hz⟩:=I.tuple hq
   exact call_tuple_same pl ⟨.ref p,H,I,rfl,q⟩
def tyV (K:PySem.W.Frag)(T:String)(x:V)(H:Hp):Prop:=match x with
 | .str _=>T = "str"
 | .int _=>T = "int"
 | .ref p=>(T = "list" /\ ∃xs,SqL K H p xs)\/(T = "tuple" /\ ∃o,K.lookup p=some o/\o.cls = .type "tuple" /\ o.dict=none) \/
  (T = "dict" /\ ((∃kvs,H p=some (.dK kvs))\/∃kvs,H p=some (.dT kvs)))\/(T = "set" /\ ∃S n,H p=some (.set S n))
 | _=>False
theorem tyV_is {pins:List (Addr×Obj)}{σ:St}{H:Hp}{s:Shared}{T:String}{x:V}{v:Value}(I:Inv X pins σ H s)(r:RelV x v)(ty:tyV X.K T x H) :
 s.TypeIs v T/\∀a,v = .ref a->∃ob,s.heap.get? a=some ob/\ob.dict=none:=by
 cases x with
 | str z=>
  obtain⟨t,rfl⟩:=r
  cases (show T = "str" from ty)
  exact⟨typeIs_str s z t,fun _ e=>nomatch e⟩
 | int i=>
  obtain⟨t,rfl⟩:=r
  cases (show T = "int" from ty)
  exact⟨typeIs_int s i t,fun _ e=>nomatch e⟩
 | ref p=>
  cases r
  rcases ty with ⟨rfl,xs,hq⟩ | ⟨rfl,o,hk,hc,hd⟩ | ⟨rfl,hk⟩ | ⟨rfl,S,n,hk⟩
  . obtain⟨its,_,pl,_⟩:=I.list hq
    refine⟨pl.isList.typeIs,fun a e=>?_⟩
    cases e
    obtain⟨o,n,e,c,hd,_⟩:=pl
    exact⟨o,e,hd⟩
  . refine⟨⟨o,I.kIn p o hk,hc⟩,fun a e=>?_⟩
    cases e
    exact⟨o,I.kIn _ o hk,hd⟩
  . have z:∃o,s.heap.get? p=some o/\o.ExactDict:=by
     rcases hk with ⟨kvs,hk⟩ | ⟨kvs,hk⟩
     . obtain⟨_,_,_,_,o,_,_,e,ex,_⟩:=I.hok p _ hk
       exact⟨o,e,ex⟩
     . obtain⟨_,_,_,_,o,_,_,e,ex,_⟩:=I.hok p _ hk
       exact⟨o,e,ex⟩
    obtain⟨o,e,ex⟩:=z
    refine⟨⟨o,e,ex.1⟩,fun a e2=>?_⟩
    cases e2
    exact⟨o,e,ex.2.1⟩
  . obtain⟨o,_,_,_,e,ex,_⟩:=I.hok p _ hk
    refine⟨⟨o,e,ex.1⟩,fun a e2=>?_⟩
    cases e2
    exact⟨o,e,ex.2.1⟩
 | _=>exact False.elim ty
def tBM (K:PySem.W.Frag)(T:String)(r:V->List V->Hp->VK->Prop)(to:TE)(t:TA):TE:=fun σ H Q=>to σ H fun x H1=>tyV K T x H1/\t σ H1 fun xs H2=>r x xs H2 Q
variable {o e:Expr}{es:List Expr}{to:TE}{t:TA}{name:Str}{apos cpos:Pos}{T id:String}{r:V->List V->Hp->VK->Prop}
theorem pe_bm (pa:PlainAttrs T)(slot:Slot T name id)(hty:typeOf (.builtin id)=pure (.type "method_descriptor")) (hm:MtR X id r)(ho:PE X o to)(ha:PA X (e::es) t)
 (hbase:attributeBase o name X.env (eval o X.env)=eval o X.env:=by rfl)
 (hfew:((backTo cpos (starEach (e::es) X.env)).all (fun x=>!x.1) && (backToKw cpos (keywordEach [] X.env)).all (fun x=>x.1.isSome)
  && decide ((e::es).length+([]:List Keyword).length+(if ([]:List Keyword).isEmpty then 0 else 1)<30))=true:=by rfl)
 (hline:(apos.endLine==cpos.line)=true:=by rfl)(hs:starEach (e::es) X.env=(false,eval e X.env)::starEach es X.env:=by rfl)(hplain:(backTo cpos (starEach es X.env)).any (·.1)=false:=by rfl) :
 PE X (.Call (.Attribute o name apos) (e::es) [] cpos) (tBM X.K T r to t):=by
 intro pins s σ H Q I h
 refine wpAny_Call_method_late hbase hfew hline rfl (thn (ho pins s σ H _ I h) fun v s1 ⟨x,H1,I1,r1,ty,q1⟩=>?_)
 obtain⟨h1,h2⟩:=tyV_is I1 r1 ty
 refine⟨T,id,pa,slot,hty,h1,h2,?_⟩
 have hA:=ha cpos pins s1 σ H1 _ I1 q1
 rw[hs] at hA ⊢
 refine Calls.callWith_builtin (by show (false || (backTo cpos (starEach es X.env)).any (·.1))=false;rw[hplain] <;> rfl) (Calls.evalArgs_plain ?_)
 exact thn hA fun us s2 ⟨vs,H2,I2,r2,q2⟩=>hm pins s2 σ H2 x vs v us Q I2 r1 r2 q2
end
end L2
namespace L2
open PySem PySem.Spec PyProof.Rows
def MtM (X:Cx)(id:String)(r:V->List V->Hp->VK->Prop):Prop:=
 ∀(pins:List (Addr×Obj))(s:Shared)(σ:St)(H:Hp)(x:V)(xs:List V)(v:Value)(us:List Value)(Q:VK),Inv X pins σ H s->RelV x v->Vals xs us->r x xs H Q ->
  wpAny (model X.prog X.w) X.A (call (.builtin id) (v::us)) (EP X pins σ Q) X.xe s
theorem Vals.one:∀{x:V}{us:List Value},Vals [x] us->∃u,us=[u]/\RelV x u
 | _,_,.cons r .nil=>⟨_,rfl,r⟩
theorem Vals.eraseIdx:∀{xs:List V}{us:List Value}(i:Nat),Vals xs us->Vals (xs.eraseIdx i) (us.eraseIdx i)
 | _,_,_,.nil=>.nil
 | _,_,0,.cons _ t=>t
 | _,_,i+1,.cons r t=>.cons r (Vals.eraseIdx i t)
theorem Vals.rep {xs:List V}{us:List Value}(h:Vals xs us):∀k:Nat,Vals (List.replicate k xs).flatten (List.replicate k us).flatten
 | 0=>.nil
 | k+1=>by
  rw[List.replicate_succ,List.replicate_succ,List.flatten_cons,List.flatten_cons]
  exact Vals.append h (Vals.rep h k)
theorem len_erase {α:Type}:∀(l:List α)(i:Nat),(l.eraseIdx i).length<=l.length
 | [],_=>Nat.le_refl _
 | _::_,0=>Nat.le_succ _
 | _::r,i+1=>Nat.succ_le_succ (len_erase r i)
theorem foldl_rep (its:List Value):∀(k:Nat)(acc:List Value),
 List.foldl (fun x1 x2=>x1++x2) acc.toArray (List.replicate k its.toArray)=(acc++(List.replicate k its).flatten).toArray
 | 0,acc=>by simp
 | k+1,acc=>by
  have e:acc.toArray++its.toArray=(acc++its).toArray:=by simp
  have e2:(acc++its)++(List.replicate k its).flatten=acc++(List.replicate (k+1) its).flatten:=by
   rw[List.replicate_succ,List.flatten_cons,List.append_assoc]
  rw[<-e2,<-foldl_rep its k (acc++its),<-e,List.replicate_succ,List.foldl_cons]
section
variable {X:Cx}{pins:List (Addr×Obj)}{σ:St}{H:Hp}{s:Shared}{l b:Addr}{xs ys zs:List V}
theorem Inv.lset {its its':List Value}{n:Nat}{f:Array Value->Array Value}{t':Nat}(I:Inv X pins σ H s)(hH:H l=some (.lst xs))
 (e:s.heap.get? l=some { cls:=.type "list",data:=.seq its.toArray n }) (hf:f its.toArray=its'.toArray)(hv:Vals ys its')(hz:ys.length<=sizeLine) :
 Inv X pins σ (upd H l (.lst ys)) { s with heap:=s.heap.update l (Obj.mapSeq f),toks:=t' }:=by
 have q:=PySem.IsL.update e f
 rw[hf] at q
 refine I.write (x:=l) (e:=l) (by rw[hH];exact trivial) (.inl rfl) (fun b' u hb hu=>(Heap.get?_update_other s.heap (Obj.mapSeq f) (Ne.symm hb)).trans hu) ⟨_,q⟩ ?_
 exact⟨hz,its',_,hv,q⟩
theorem Inv.lnew {its:List Value}{t':Nat}(I:Inv X pins σ H s)(hv:Vals ys its)(hz:ys.length<=sizeLine) :
 Inv X pins σ (upd H s.heap.objs.size (.lst ys)) { s with heap:=s.heap.push { cls:=.type "list",data:=.seq its.toArray },toks:=t' }:=
 I.laid (fun _ _ q=>Heap.get?_push_of_some _ q) (Nat.le_refl _) ⟨hz,its,0,hv,Heap.get?_push_size _ rfl⟩
theorem Inv.fresh (I:Inv X pins σ H s):H s.heap.objs.size=none:=I.hok.fresh (Nat.le_refl _)
theorem Inv.lstM (I:Inv X pins σ H s)(hH:H l=some (.lst xs)):xs.length<=sizeLine/\∃(its:List Value)(n:Nat),Vals xs its/\xs.length=its.length/\s.heap.get? l=some { cls:=.type "list",data:=.seq its.toArray n }:=by
 obtain⟨z,its,n,r,e⟩:=I.hok l _ hH
 exact⟨z,its,n,r,r.length,e⟩
theorem notLongL {n:Nat}(h:n<=sizeLine):Builtin.List.listTooLong n=false:=by
 unfold Builtin.List.listTooLong
 exact decide_eq_false (by omega)
end
section
variable {X:Cx}
def rAppend:V->List V->Hp->VK->Prop:=fun x vs H Q=>∃l xs y,x = .ref l/\vs=[y]/\H l=some (.lst xs)/\xs.length<sizeLine/\Q .non (upd H l (.lst (xs++[y])))
theorem mt_append:MtM X "list.append" rAppend:=by
 intro pins s σ H x vs v us Q I rx rv h
 obtain⟨l,xs,y,rfl,rfl,hH,hz,q⟩:=h
 cases rx
 obtain⟨u,rfl,ru⟩:=rv.one
 obtain⟨z,its,n,r,hl,e⟩:=I.lstM hH
 refine call_meets F.slot_list_append ⟨_,e,rfl⟩ F.entry_list_append (F.args_list_append_2 _ _) (PySem.list_append l its.toArray n u (by rw[List.size_toArray];omega)) ⟨e,?_⟩
 refine⟨.non,_,I.lset (its':=its++[u]) hH e (by simp) (r.append (.cons ru .nil)) ?_,rfl,q⟩
 rw[List.length_append,List.length_singleton]
 omega
def rPopAt:V->List V->Hp->VK->Prop:=fun x vs H Q=>∃l xs i k y,x = .ref l/\vs=[.int i]/\H l=some (.lst xs) /\ -(2 ^ 63)<=i/\i<2 ^ 63/\seqIndex? i xs.length=some k/\xs[k]? = some y/\Q y (upd H l (.lst (xs.eraseIdx k)))
theorem mt_popAt:MtM X "list.pop" rPopAt:=by
 intro pins s σ H x vs v us Q I rx rv h
 obtain⟨l,xs,i,k,y,rfl,rfl,hH,h1,h2,hk,hy,q⟩:=h
 cases rx
 obtain⟨u,rfl,ru⟩:=rv.one
 obtain⟨t,rfl⟩:=ru
 obtain⟨z,its,n,r,hl,e⟩:=I.lstM hH
 obtain⟨w,hw,rw'⟩:=r.get hy
 refine call_meets F.slot_list_pop ⟨_,e,rfl⟩ F.entry_list_pop (F.args_list_pop_2 _ _)
  (MeetsSeq.list_pop_at l its.toArray n i t k w (fitsIndex_both h1 h2) (by rw[List.size_toArray,<-hl];exact hk) (by rw[<-Array.getElem?_toList];exact hw) (by rw[List.size_toArray];omega)) ⟨e,?_⟩
 refine⟨y,_,I.lset (its':=its.eraseIdx k) hH e ?_ (r.eraseIdx k) ?_,rw',q⟩
 . show its.toArray.eraseIdxIfInBounds k=(its.eraseIdx k).toArray
   rw[List.eraseIdxIfInBounds_toArray]
 . have:=len_erase xs k
   omega
def rCat:R2:=fun x y H Q=>∃l b xs zs,x = .ref l/\y = .ref b/\H l=some (.lst xs)/\H b=some (.lst zs)/\xs.length+zs.length<=sizeLine/\∀p,H p=none->Q (.ref p) (upd H p (.lst (xs++zs)))
theorem op_cat:OpR X (binaryOp .Add) rCat:=by
 intro pins s σ H x y v u Q I rx ry h
 obtain⟨l,b,xs,zs,rfl,rfl,hH,hB,hz,q⟩:=h
 cases rx
 cases ry
 obtain⟨z,its,n,r,hl,e⟩:=I.lstM hH
 obtain⟨z2,its2,n2,r2,hl2,e2⟩:=I.lstM hB
 refine PySem.P.add_list e e2 ?_ (by rw[List.size_toArray,List.size_toArray];omega)
 have ea:its.toArray++its2.toArray=(its++its2).toArray:=by simp
 rw[ea]
 exact⟨.ref _,_,I.lnew (t':=s.toks) (r.append r2) (by rw[List.length_append];omega),rfl,q _ I.fresh⟩
def rRep:R2:=fun x y H Q=>∃l k xs,x = .ref l/\y = .int k/\H l=some (.lst xs) /\ -(2 ^ 63)<=k/\k<2 ^ 63/\xs.length*k.toNat<=sizeLine /\
 ∀p,H p=none->Q (.ref p) (upd H p (.lst (List.replicate k.toNat xs).flatten))
theorem len_rep {α:Type}(xs:List α)(k:Nat):(List.replicate k xs).flatten.length=k*xs.length:=by
 induction k with
 | zero=>simp
 | succ k ih=>rw[List.replicate_succ,List.flatten_cons,List.length_append,ih,Nat.succ_mul,Nat.add_comm]
theorem op_rep:OpR X (binaryOp .Mult) rRep:=by
 intro pins s σ H x y v u Q I rx ry h
 obtain⟨l,k,xs,rfl,rfl,hH,h1,h2,hz,q⟩:=h
 cases rx
 obtain⟨t,rfl⟩:=ry
 obtain⟨z,its,n,r,hl,e⟩:=I.lstM hH
 have hlen:its.toArray.size*k.toNat<=sizeLine:=by rw[List.size_toArray,<-hl];exact hz
 have hcap:¬ its.toArray.size*k.toNat > (2 ^ 63-1)/8:=by
  have:(sizeLine:Nat)<=(2 ^ 63-1)/8:=by decide
  omega
 have hfit:¬ (!Builtin.List.listFitsIndex k)=true:=by
  rw[fitsIndex_both h1 h2]
  exact Bool.false_ne_true
 have hlong:¬ Builtin.List.listTooLong (its.toArray.size*k.toNat)=true:=by
  rw[notLongL hlen]
  exact Bool.false_ne_true
 have hnew:List.foldl (fun x1 x2=>x1++x2) #[] (List.replicate (if its.toArray.isEmpty=true then 0 else k.toNat) its.toArray)=(List.replicate k.toNat its).flatten.toArray:=by
  have f0:∀m:Nat,List.foldl (fun x1 x2=>x1++x2) #[] (List.replicate m its.toArray)=(List.replicate m its).flatten.toArray:=fun m=>by
   have:=foldl_rep its m []
   rw[List.nil_append] at this
   exact this
  rw[f0]
  cases its with
  | nil=>simp
  | cons a r'=>rw[if_neg (by simp)]
 refine wpAny_binaryOp_repeat_ref (T := "list") (U := "int") (by decide) ⟨_,e,rfl⟩ (fun s'=>typeIs_int s' k t) noFill_list_mul F.fills_int_mul F.slot_int_rmul repeat_list F.slot_int_index.lookup
  (call_meets F.slot_int_rmul (typeIs_int s k t) F.entry_int_rmul (F.args_int_rmul_2 _ _) (int___rmul___int_list k t l its.toArray n)
   ⟨e,rfl,⟨_,e,rfl⟩,call_meets F.slot_list_mul ⟨_,e,rfl⟩ F.entry_list_mul (F.args_list_mul_2 _ _) (AutoListH.list___mul___list_int_3 l its.toArray n k t hfit hcap hlong) ⟨e,?_⟩⟩)
 rw[hnew]
 exact⟨.ref _,_,I.lnew (t':=s.toks) (r.rep k.toNat) (by rw[len_rep,Nat.mul_comm];exact hz),rfl,q _ I.fresh⟩
end
section
variable {prog:Program}{w:World}{A:Around}{E:Value->Shared->Prop}{s:Shared}
set_option maxRecDepth 100000 in
end
section
variable {X:Cx}
end
end L2
namespace Att
open PySem PySem.W PySem.Calls PyProof.Rows
theorem ints_of_wellAll {P:Params}{h:Heap}:∀(ns:List Int)(vs:List Value),WellAll P h vs (ns.map WData.int)->IntsAre vs ns:=by
 intro ns
 induction ns with
 | nil=>
  intro vs w
  rw[List.map_nil] at w
  cases w
  exact .nil
 | cons n ns ih=>
  intro vs w
  rw[List.map_cons] at w
  cases w with
  | cons a b=>
   cases a
   exact .cons _ _ (ih _ b)
theorem script_of {l:OpenLaw}{n:Nat}(hn:l.most=some n){P:Params}{h:Heap}{args:List WData}{vals:List Value}
 (hpre:l.row.toRowW.claim.pre args=true)(hwl:WellAll P h vals args) :
 ∃a vs ns,vals=[Value.ref a]/\args=[WData.list (ns.map WData.int)]/\h.get? a=some { cls:=.type "list",data:=.seq vs.toArray }/\IntsAre vs ns/\ns.length<=n:=by
 have hsh:WShape.hasAll [] args [.list .int]=true:=(pre_splitW hpre).1
 have hc:l.pre.holds [] { args:=args }=true:=(pre_splitW hpre).2
 obtain⟨d,r,rfl,h1,h2⟩:=hasAllW_cons hsh
 obtain rfl:=hasAllW_nil h2
 obtain⟨xs,rfl,h3⟩:=hasW_list h1
 obtain⟨ns,rfl⟩:=items_int h3
 have hlen:ns.length<=n:=by
  unfold OpenLaw.pre at hc
  have h4:(WTm.not (.lt (.lit (.int (n:Int))) (.len (.arg 0)))).holds [] { args:=[.list (ns.map .int)] }=true:=by
   have h4:=(holds_andW hc).1
   rw[hn] at h4
   exact h4
  have h5:=condW_of h4 (w_not (w_lt w_lit (w_len_list (w_arg rfl))))
  rw[List.length_map] at h5
  refine Nat.le_of_not_lt fun q=>?_
  have q':(n:Int)<((ns.length:Nat):Int):=by omega
  first
   | (rw[decide_eq_true q'] at h5;exact absurd h5 (by decide))
   | (simp at h5;omega)
 cases hwl with
 | cons w1 w2=>
  cases w2
  cases w1 with
  | list ho hall=>exact⟨_,_,ns,rfl,rfl,ho,ints_of_wellAll ns _ hall,hlen⟩
theorem post_true (l:OpenLaw)(args:List WData):l.row.toRowW.claim.post args (.bool true) args=true:=
 postW_of (r:=l.row.toRowW) (X:=(true==true))
  (show WShape.has [] (.bool true) .bool=true by first | rfl | decide | simp[WShape.has,WShape.arms,WShape.armsAll])
  (show (WTm.eq .res (.lit (.bool true))).value [] { args:=args,res:=some (.bool true),after:=args }=some (.bool (true==true)) from w_eq_bool (w_res rfl) w_lit) rfl
theorem attach_call {l:OpenLaw}{n:Nat}{q:Program}{loose:List Str}{XP:(Str->Option Value)->Heap->Prop}{YP:World->Heap->Prop}{d:DefRec}
 (hn:l.most=some n)(hdf:d.params.defaults=[])
 (call:∀(w:World)(s₀ s₁:Shared)(mg mb:Str->Option Value)(fa:Addr)(o:Obj)(pm cd doc:Value)(a:Addr)(vs:List Value)(ns:List Int),
  Ground q loose [] XP w s₀ mg mb s₁.heap->YP w s₁.heap ->
  s₁.heap.get? fa=some o->o.data = .func (docDef d.name d.params d.body d.scope pm cd doc)->s₁.heap.CodeRec cd d.name->mg d.name=some (.ref fa) ->
  s₁.heap.get? a=some { cls:=.type "list",data:=.seq vs.toArray }->IntsAre vs ns->ns.length<=n->s₁.gens = #[] ->
  codeAny (model l.prog w) callerA (.call (.ref fa) ⟨[.ref a],[]⟩) (fun r s'=>r = .ok (.ret (.bool true))/\OldK s₁.heap s'.heap/\s'.os=s₁.os/\AllBare s'.gens) s₁) :
 WalkO q loose XP YP l.row.toRowW d [] (fun f vs=>PySem.call f vs):=by
 intro w s₀ s₁ mg mb G Y fa o pm cd doc dV kV ho hd hcd hD hmg hg args vals as hpre hlay hrd hwl hlo
 obtain rfl:dV = .none:=Dflts.none hD hdf
 obtain rfl:kV = .none:=Dflts.noKw hD
 obtain⟨a,vs,ns,rfl,rfl,hobj,hints,hlen⟩:=script_of hn hpre hwl
 refine enter_call (codeAny_mono (call w s₀ s₁ mg mb fa o pm cd doc a vs ns G Y ho (fd_plain hd) hcd hmg hobj hints hlen hg) fun r s' hq=>?_)
 obtain⟨rfl,h2,h3,h4⟩:=hq
 exact⟨.inl ⟨.bool true,.bool true,[],rfl,fun _=>rfl,.bool true,post_true l _,fun _=>⟨List.Pairwise.nil,fun _ hm=>(nomatch hm)⟩⟩,h2,h3,h4⟩
section
variable {prog:Program}{w:World}{A:Around}{E:Value->Shared->Prop}{s:Shared}{K:Frag}
end
end Att
namespace L2
open PySem PySem.Spec PyProof.Rows
theorem vals_ints:∀{vs:List Value}{ns:List Int},IntsAre vs ns->Vals (ns.map V.int) vs
 | _,_,.nil=>.nil
 | _,_,.cons n t h=>.cons ⟨t,rfl⟩ (vals_ints h)
end L2
namespace L2
open PySem PySem.Spec PyProof.Rows
end L2
namespace L2
open PySem PySem.Spec PyProof.Rows
def defArgs (s:Stmt):Arguments:=match s with
 | .FunctionDef _ a _ _ _ _ _ _ _ _=>a
 | _=>{ posonlyargs:=[],args:=[],vararg:=none,kwonlyargs:=[],kw_defaults:=[],kwarg:=none,defaults:=[] }
def defBody (s:Stmt):List Stmt:=match s with
 | .FunctionDef _ _ b _ _ _ _ _ _ _=>b
 | _=>[]
def defScope (s:Stmt):Scope:=match s with
 | .FunctionDef _ _ _ _ _ _ sc _ _ _=>sc
 | _=>{ kind:=.function,names:=[],isGenerator:=false,isCoroutine:=false }
abbrev CX0:CXT:=fun _ _ _ _ _ _=>False
abbrev E0:XK:=fun _ _ _=>False
theorem pass0 {X:Cx}:Passes CX0 X E0:=fun _ _ _ _ _ _ _ h=>h.elim
structure Fun (K:PySem.W.Frag)(x qual:Str)(st:Stmt)(f:Addr)(fd:FuncData):Prop where
 ex:∃(oc:Value)(od:Option Addr)(kV doc pm:Value)(an:Option Addr)(cdv ct:Value)(osl:Array (Option Value)),
  fd=PySem.W.fnOf x qual (defArgs st) (defBody st) (defScope st) .none kV doc pm an cdv ct/\K.lookup f=some ⟨oc,od,.func fd,osl⟩/\PySem.W.codeIn K cdv qual=true
 kp:PySem.W.keepIn K (.ref f)=true
section
variable {P:Program}{w:World}{K:PySem.W.Frag}{mg:Str->Option Value}{base:Heap}
theorem Fun.ok {x qual:Str}{st:Stmt}{f:Addr}{fd:FuncData}{N ps:List Str}{k:Nat}{sp:Sp}(F:Fun K x qual st f fd)(S:FnScope N ps (defScope st))(len:∀vs H Q E,sp vs H Q E->vs.length=ps.length)
 (hbody:∀(cdv:Value)(A:Around)(outer:List Env)(s:Shared)(H:Hp)(vs:List V)(Q:VK)(E:XK),Room k (A.deeper (envOfC qual (defScope st) s.heap.objs.size f cdv))->sp vs H Q E ->
  ∃t,PSs (cxOf CX0 P w K mg base N qual (defScope st) f cdv A outer s H E).nox (defBody st) t/\t { nx:=fun _ H'=>Q .non H',rt:=Q } (start N vs) H):FnOk P w K mg base CX0 (k+1) f fd ps sp:=by
 obtain⟨oc,od,kV,doc,pm,an,cdv,ct,osl,rfl,lk,hcd⟩:=F.ex
 refine fn_of lk hcd S len fun A outer s H vs Q E hr hsp=>?_
 obtain⟨t,h,q⟩:=hbody cdv A outer s H vs Q E hr hsp
 exact⟨t,h.nox,q⟩
theorem Fun.binds {x qual:Str}{st:Stmt}{f:Addr}{fd:FuncData}{ps:List Str}(F:Fun K x qual st f fd)
 (h:∀(kV doc pm:Value)(an:Option Addr)(cdv ct:Value)(us:List Value),us.length=ps.length->bindArgs (PySem.W.fnOf x qual (defArgs st) (defBody st) (defScope st) .none kV doc pm an cdv ct) ⟨us,[]⟩=pure (ps.zip us)):Binds K fd ps []:=by
 obtain⟨oc,od,kV,doc,pm,an,cdv,ct,osl,rfl,lk,hcd⟩:=F.ex
 exact .all (h kV doc pm an cdv ct)
theorem fun_mk {x qual:Str}{st:Stmt}{f:Addr}{oc:Value}{od an:Option Addr}{osl:Array (Option Value)}{kV doc pm cdv ct:Value}(l:K.lookup f=some ⟨oc,od,.func (PySem.W.fnOf x qual (defArgs st) (defBody st) (defScope st) .none kV doc pm an cdv ct),osl⟩)
 (c:PySem.W.codeIn K cdv qual=true)(k:PySem.W.keepIn K (.ref f)=true):Fun K x qual st f (PySem.W.fnOf x qual (defArgs st) (defBody st) (defScope st) .none kV doc pm an cdv ct):=⟨⟨oc,od,kV,doc,pm,an,cdv,ct,osl,rfl,l,c⟩,k⟩
end
theorem hu_of {A:Around}{k:Nat}(hr:Room k A):A.units+1<cLine:=Nat.lt_of_le_of_lt (Nat.add_le_add_left (by decide:1<=64) _) hr.units
section
variable {X:Cx}
theorem pv (i:Nat){x:Str}{pos:Pos}(hN:X.N[i]? = some x:=by rfl)(hv:Vis X.env.scope x:=by first | exact Or.inl rfl | exact Or.inr (Or.inl rfl) | exact Or.inr (Or.inr rfl))(hd:(x==("__debug__" : Str))=false:=by decide)
 (hcd:(x==("__classdict__" : Str))=false:=by decide):PE X (.Name x pos) (tVar i):=pe_var hN hv hd hcd
end
theorem iteF {A B:Prop}(h:B):if false=true then A else B:=by
 rw[if_neg Bool.false_ne_true]
 exact h
theorem iteT {A B:Prop}(h:A):if true=true then A else B:=by
 rw[if_pos rfl]
 exact h
theorem ite2 {c A B:Prop} [Decidable c] (h1:c->A)(h2:¬ c->B):if c then A else B:=by
 by_cases h:c
 . rw[if_pos h]
   exact h1 h
 . rw[if_neg h]
   exact h2 h
def Same (H H':Hp):Prop:=∀b o,H b=some o->H' b=some o
theorem Same.refl (H:Hp):Same H H:=fun _ _ h=>h
theorem Same.trans {H H1 H2:Hp}(a:Same H H1)(b:Same H1 H2):Same H H2:=fun c o h=>b c o (a c o h)
end L2
namespace L2
open PySem PySem.Spec PyProof.Rows
section
variable {κ:Type} [DecidableEq κ]
theorem valV_not {kvs:List (κ×V)}{k:κ}(h:valV kvs k=none):¬ k∈kvs.map (·.1):=by
 intro m
 obtain⟨p,hp,e⟩:=List.mem_map.mp m
 have q:(kvs.any fun kv=>decide (kv.1=k))=true:=List.any_eq_true.mpr ⟨p,hp,decide_eq_true e⟩
 rw[valV_any,h] at q
 exact absurd q (by simp)
theorem valV_in {kvs:List (κ×V)}{k:κ}{v:V}(h:valV kvs k=some v):k∈kvs.map (·.1):=by
 have q:(kvs.any fun kv=>decide (kv.1=k))=true:=by
  rw[valV_any,h]
  all_goals rfl
 obtain⟨p,hp,e⟩:=List.any_eq_true.mp q
 exact List.mem_map.mpr ⟨p,hp,of_decide_eq_true e⟩
theorem nd_snoc:∀{l:List κ}{k:κ},l.Nodup->¬ k∈l->(l++[k]).Nodup
 | [],k,_,_=>by simp
 | a::r,k,h,hk=>by
  obtain⟨h1,h2⟩:=List.nodup_cons.mp h
  show (a::(r++[k])).Nodup
  refine List.nodup_cons.mpr ⟨fun m=>?_,nd_snoc h2 fun m=>hk (List.mem_cons.mpr (Or.inr m))⟩
  rcases List.mem_append.mp m with q | q
  . exact h1 q
  . exact hk (List.mem_cons.mpr (Or.inl (List.mem_singleton.mp q).symm))
theorem nd_putK {kvs:List (κ×V)}{k:κ}(v:V)(hn:(kvs.map (·.1)).Nodup)(h:valV kvs k=none):((putK kvs k v).map (·.1)).Nodup:=by
 rw[putK_new v h,List.map_append]
 exact nd_snoc hn (valV_not h)
theorem dropK_pos {p:κ×V}{r:List (κ×V)}{k:κ}(e:p.1=k):dropK (p::r) k=dropK r k:=by
 unfold dropK
 rw[List.filter_cons,if_neg (by simp[e])]
theorem dropK_neg {p:κ×V}{r:List (κ×V)}{k:κ}(e:¬ p.1=k):dropK (p::r) k=p::dropK r k:=by
 unfold dropK
 rw[List.filter_cons,if_pos (by simp[e])]
theorem dropK_mem {kvs:List (κ×V)}{k:κ}{p:κ×V}(h:p∈dropK kvs k):p∈kvs:=(List.mem_filter.mp h).1
theorem nd_dropK:∀{kvs:List (κ×V)}{k:κ},(kvs.map (·.1)).Nodup->((dropK kvs k).map (·.1)).Nodup
 | [],_,_=>List.nodup_nil
 | p::r,k,h=>by
  have h:(p.1::r.map (·.1)).Nodup:=h
  obtain⟨h1,h2⟩:=List.nodup_cons.mp h
  by_cases e:p.1=k
  . rw[dropK_pos e]
    exact nd_dropK h2
  . rw[dropK_neg e]
    show (p.1::(dropK r k).map (·.1)).Nodup
    refine List.nodup_cons.mpr ⟨fun m=>h1 ?_,nd_dropK h2⟩
    obtain⟨q,hq,eq⟩:=List.mem_map.mp m
    exact List.mem_map.mpr ⟨q,dropK_mem hq,eq⟩
end
end L2
namespace L2
open PySem PySem.Spec PyProof.Rows
section
variable {X:Cx}
end
end L2
set_option Elab.async false
set_option linter.all false
set_option maxRecDepth 100000
set_option maxHeartbeats 4000000
namespace L2
open PySem PySem.Spec PyProof.Rows
theorem compLoop_gen {prog:Program}{w:World}{A:Around}{R:Result->Shared->Prop}{s:Shared}{elt target iter:Expr}{ifs:List Expr}{scope:Scope}{pos:Pos}{it acc:Value}{env:Env}(I:Nat->Shared->Prop)
 (turn:∀n s,I n s->wpAny (model prog w) A (pyNext it) (fun r s₁=>match r with
  | none=>R (.ok .next) s₁
  | some v=>wpAny (model prog w) A (letOwnedTupleGo target it v) (fun _ s₁'=>wpAny (model prog w) A (assign target env v) (fun _ s₂=>
   wpAny (model prog w) A (forIn ifs true fun c r=>if r=true then do let ok <-isTrue c env (eval c env);pure (ForInStep.yield ok) else pure (ForInStep.yield r)) (fun ok s₃=>
    if ok=true then wpAny (model prog w) A (eval elt env) (fun x s₄=>
     wpAny (model prog w) A (call (.builtin "list.append") [acc,x]) (fun _ s₅=>∃m,m<n/\I m s₅) (fun _ _=>False) s₄) (fun _ _=>False) s₃
    else ∃m,m<n/\I m s₃) (fun _ _=>False) s₂) (fun _ _=>False) s₁') (fun _ _=>False) s₁) (fun _ _=>False) s)
 (n:Nat)(h:I n s):codeAny (model prog w) A (.compLoop (.ListComp elt [⟨target,iter,ifs,0⟩] scope pos) 0 it acc env) R s:=by
 refine codeAny_loop rfl I (fun n s hI=>?_) n h
 show wpAny _ A ((compTurn (.ListComp elt [⟨target,iter,ifs,0⟩] scope pos) 0 it acc env).onRaise (fun x=>do noteFrame x env;theTreesLotGoes x)) _ _ s
 refine wpAny_noted ?_
 rw[compTurn_list]
 refine wpAny_bind (wpAny_standAt (wpAny_bind (wpAny_mono (turn n s hI) (fun r s₁ h₁=>?_) fun _ _ h'=>h'.elim)))
 cases r with
 | none=>exact wpAny_pure h₁
 | some v=>
  refine wpAny_bind (wpAny_mono h₁ (fun _ s₁' h₁'=>?_) fun _ _ h'=>h'.elim)
  refine wpAny_bind (wpAny_mono h₁' (fun _ s₂ h₂=>wpAny_bind (wpAny_mono h₂ (fun ok s₃ h₃=>?_) fun _ _ h'=>h'.elim)) fun _ _ h'=>h'.elim)
  cases ok with
  | false=>exact wpAny_pure ⟨rfl,h₃⟩
  | true=>
   exact wpAny_bind (wpAny_bind (wpAny_mono h₃ (fun x s₄ h₄=>wpAny_bind (wpAny_mono h₄ (fun _ s₅ h₅=>wpAny_pure (wpAny_pure ⟨rfl,h₅⟩)) fun _ _ h'=>h'.elim)) fun _ _ h'=>h'.elim))
def PTs (X:Cx)(ifs:List Expr)(t:TT):Prop:=
 ∀(pins:List (Addr×Obj))(s:Shared)(σ:St)(H:Hp)(Q:Bool->Hp->Prop),Inv X pins σ H s->t σ H Q ->
  wpAny (model X.prog X.w) X.A (forIn ifs true fun c r=>if r=true then do let ok <-isTrue c X.env (eval c X.env);pure (ForInStep.yield ok) else pure (ForInStep.yield r)) (TP X pins σ Q) X.xe s
def tYes:TT:=fun _ H Q=>Q true H
theorem tyes {σ:St}{H:Hp}{A B:Hp->Prop}(h:A H):tYes σ H (fun b H3=>if b=true then A H3 else B H3):=by
 show (if true=true then A H else B H)
 exact iteT h
theorem pts_nil {X:Cx}:PTs X [] tYes:=fun _ _ _ H _ I h=>wpAny_tests_nil ⟨H,I,h⟩
theorem pts_one {X:Cx}{c:Expr}{t:TT}(h:PT X c t):PTs X [c] t:=fun pins s σ H Q I q=>wpAny_tests_one (h pins s σ H Q I q)
def clOf (cells:List (Str×Addr)):List (Str×NameKind)->List (Str×Addr)->List (Str×Addr)
 | [],acc=>acc
 | (n,k)::r,acc=>if (k == .free)=true then (match cells.lookup n with | some c=>clOf cells r ((n,c)::acc) | none=>clOf cells r acc) else clOf cells r acc
theorem clOf_sub {cells:List (Str×Addr)}{x:Str}{c:Addr}:∀(names:List (Str×NameKind))(acc:List (Str×Addr)),(clOf cells names acc).lookup x=some c->acc.lookup x=some c\/cells.lookup x=some c
 | [],acc,h=>.inl h
 | (n,k)::r,acc,h=>by
  unfold clOf at h
  split at h
  . cases hc:cells.lookup n with
    | none=>rw[hc] at h;exact clOf_sub r acc h
    | some c'=>
     rw[hc] at h
     rcases clOf_sub r _ h with q | q
     . rw[List.lookup_cons] at q
       cases hx:x==n with
       | true=>
        rw[hx] at q
        have e:x=n:=by simpa using hx
        have e2:c'=c:=by simpa using q
        rw[e,hc,e2]
        exact .inr rfl
       | false=>rw[hx] at q;exact .inl q
     . exact .inr q
  . exact clOf_sub r acc h
theorem clOf_acc {cells:List (Str×Addr)}{x:Str}:∀(names:List (Str×NameKind))(acc:List (Str×Addr)),(∃c,acc.lookup x=some c)->∃c,(clOf cells names acc).lookup x=some c
 | [],acc,h=>h
 | (n,k)::r,acc,h=>by
  unfold clOf
  split
  . cases hc:cells.lookup n with
    | none=>exact clOf_acc r acc h
    | some c'=>
     refine clOf_acc r _ ?_
     rw[List.lookup_cons]
     cases hx:x==n with
     | true=>exact⟨c',rfl⟩
     | false=>exact h
  . exact clOf_acc r acc h
theorem clOf_has {cells:List (Str×Addr)}{x:Str}(hx:∃c,cells.lookup x=some c):∀(names:List (Str×NameKind))(acc:List (Str×Addr)),(x,NameKind.free)∈names->∃c,(clOf cells names acc).lookup x=some c
 | [],acc,h=>by simp at h
 | (n,k)::r,acc,h=>by
  rcases List.mem_cons.mp h with e | h
  . cases e
    obtain⟨c,hc⟩:=hx
    unfold clOf
    rw[if_pos (by rfl),hc]
    exact clOf_acc r _ ⟨c,by rw[List.lookup_cons];simp⟩
  . unfold clOf
    split
    . cases hc:cells.lookup n with
      | none=>exact clOf_has hx r acc h
      | some c'=>exact clOf_has hx r _ h
    . exact clOf_has hx r acc h
theorem closure_go {env:Env}:∀(names:List (Str×NameKind))(acc:List (Str×Addr)),(∀y∈names,y.2 = .free->∃c,env.cells.lookup y.1=some c) ->
 (forIn names acc fun (x:Str×NameKind)(cs:List (Str×Addr))=>(if (x.2 == .free)=true then (do let a <-cellOf env x.1;pure (ForInStep.yield ((x.1,a)::cs))) else pure (ForInStep.yield cs):Sem (ForInStep (List (Str×Addr)))))=pure (clOf env.cells names acc)
 | [],acc,_=>rfl
 | (n,k)::r,acc,h=>by
  rw[List.forIn_cons]
  have hr:∀y∈r,y.2 = .free->∃c,env.cells.lookup y.1=some c:=fun y hy=>h y (List.mem_cons_of_mem _ hy)
  unfold clOf
  cases hk:(k==NameKind.free) with
  | true=>
   obtain⟨c,hc⟩:=h (n,k) List.mem_cons_self (by simpa using hk)
   simp only[hk,if_true,cellOf,hc,pure_bind]
   exact closure_go r _ hr
  | false=>
   simp only[hk,Bool.false_eq_true,if_false,pure_bind]
   exact closure_go r _ hr
theorem closureFor_eq {scope:Scope}{env:Env}(h:∀y∈scope.names,y.2 = .free->∃c,env.cells.lookup y.1=some c):closureFor scope env=pure (clOf env.cells scope.names []):=by
 have e:=closure_go scope.names [] h
 simp only[closureFor]
 simp only[bind_pure]
 exact e
theorem lookup_relabel {env:Env}{x:Str}:∀(names:List (Str×NameKind)),
 (names.map fun (n,k)=>if (k==NameKind.free && env.scope.kind == .function && env.kindOf n==some .cell) then (n,NameKind.cell) else (n,k)).lookup x =
  (names.lookup x).map fun k=>if (k==NameKind.free && env.scope.kind == .function && env.kindOf x==some .cell)=true then NameKind.cell else k
 | []=>rfl
 | (n,k)::r=>by
  have ih:=lookup_relabel (env:=env) (x:=x) r
  rw[List.map_cons]
  show List.lookup x ((if (k==NameKind.free && env.scope.kind == .function && env.kindOf n==some .cell)=true then (n,NameKind.cell) else (n,k))::_)=_
  by_cases c:(k==NameKind.free && env.scope.kind == .function && env.kindOf n==some .cell)=true
  . rw[if_pos c,List.lookup_cons,List.lookup_cons]
    cases hx:x==n with
    | true=>
     have e:x=n:=by simpa using hx
     subst e
     show some NameKind.cell=Option.map _ (some k)
     rw[Option.map_some,if_pos c]
    | false=>exact ih
  . rw[if_neg c,List.lookup_cons,List.lookup_cons]
    cases hx:x==n with
    | true=>
     have e:x=n:=by simpa using hx
     subst e
     show some k=Option.map _ (some k)
     rw[Option.map_some,if_neg c]
    | false=>exact ih
def cxComp (X:Cx)(pl:List (Addr×Obj))(N':List Str)(scope:Scope)(fp:List Addr)(s3:Shared)(H3:Hp):Cx where
 prog:=X.prog
 w:=X.w
 K:=X.K
 mg:=X.mg
 base:=X.base
 A:=X.A
 N:=N'
 s₀:=s3
 H₀:=H3
 env:=compEnvC scope (clOf X.env.cells scope.names []) s3.heap.objs.size X.env
 outer:=X.stack
 stack:=X.stack
 ex:=fp
 fn:=fun _=>false
 calm:=X.calm
 pn:=pl
 xe:=fun _ _=>False
def CapOk (X:Cx)(scope:Scope):List Str->List Nat->Prop
 | [],[]=>True
 | x::cn,j::ci=>X.N[j]? = some x/\X.env.kindOf x=some .cell/\scope.names.lookup x=some .free/\CapOk X scope cn ci
 | _,_=>False
theorem CapOk.get {X:Cx}{scope:Scope}:∀{cn:List Str}{ci:List Nat}{k:Nat}{x:Str},CapOk X scope cn ci->cn[k]? = some x->∃j,ci[k]? = some j/\X.N[j]? = some x/\X.env.kindOf x=some .cell/\scope.names.lookup x=some .free
 | [],_,_,_,_,h=>by simp at h
 | _::_,[],_,_,c,_=>c.elim
 | y::cn,j::ci,0,x,c,h=>by
  obtain⟨a,b,b',_⟩:=c
  have e:y=x:=by simpa using h
  subst e
  exact⟨j,rfl,a,b,b'⟩
 | y::cn,j::ci,k+1,x,c,h=>by
  obtain⟨j',h1,h2⟩:=CapOk.get (k:=k) c.2.2.2 (by simpa using h)
  exact⟨j',by simpa using h1,h2⟩
structure CompSc (X:Cx)(scope:Scope):Prop where
 kind:scope.kind = .function
 nocell:∀y∈scope.names,y.2 ≠ .cell
 names:∀y∈scope.names,y.2 = .local->scope.names.lookup y.1=some .local
 free:∀y∈scope.names,y.2 = .free->X.env.kindOf y.1=some .cell
section
variable {X:Cx}{pins:List (Addr×Obj)}{σ:St}{H3:Hp}{s3:Shared}{scope:Scope}{fp:List Addr}{N' own cn:List Str}{ci:List Nat}{cv:List V}
theorem comp_has (ok:X.Ok)(S:CompSc X scope){x:Str}(h:(relabel scope X.env).names.lookup x=some .cell\/(relabel scope X.env).names.lookup x=some .free) :
 ∃c,(clOf X.env.cells scope.names []).lookup x=some c:=by
 have e:(relabel scope X.env).names.lookup x=(scope.names.lookup x).map fun k=>if (k==NameKind.free && X.env.scope.kind == .function && X.env.kindOf x==some .cell)=true then NameKind.cell else k:=lookup_relabel scope.names
 have hf:scope.names.lookup x=some .free:=by
  cases q:scope.names.lookup x with
  | none=>rw[e,q] at h;simp at h
  | some k=>
   by_cases hk:k = .free
   . rw[hk]
   . have hb:(k==NameKind.free)=false:=by simpa using hk
     rw[e,q] at h
     simp only[Option.map_some,hb,Bool.false_and,Bool.false_eq_true,if_false,Option.some.injEq] at h
     rcases h with h | h
     . exact absurd h (S.nocell _ (PySem.mem_of_lookup q))
     . exact absurd h hk
 exact clOf_has (ok.has x (.inl (S.free _ (PySem.mem_of_lookup hf) rfl))) scope.names [] (PySem.mem_of_lookup hf)
theorem comp_cl {x:Str}{c:Addr}(h:(clOf X.env.cells scope.names []).lookup x=some c):X.env.cells.lookup x=some c:=by
 rcases clOf_sub _ _ h with q | q
 . simp at q
 . exact q
theorem comp_ok (I:Inv X pins σ H3 s3)(S:CompSc X scope)(f:∀b∈fp,FpOk X pins H3 b)(fz:∀b∈fp,b<s3.heap.objs.size):(cxComp X (X.pn++pins) N' scope fp s3 H3).Ok where
 mod:=I.ok.mod
 kind:=S.kind
 glob:=I.ok.glob
 blt:=I.ok.blt
 above:=Nat.le_refl _
 inj:=fun x y c h1 h2=>I.ok.inj x y c (comp_cl h1) (comp_cl h2)
 has:=fun x h=>comp_has I.ok S h
 cab:=fun x c h=>by cases h
 hd:=I.ok.hd
 frames:=I.ok.frames
 stk:=.inl rfl
 exf:=fun b hb=>⟨Nat.ne_of_lt (fz b hb),fun x c h=>(f b hb).2.2.2.2.1 x c (comp_cl h)⟩
 bs:=I.bs
 bsz:=Nat.le_trans I.ok.bsz I.sz
 noex:=fun b o e hb=>by
  rcases (f b hb).2.2.2.1 with z | z
  . exact I.ok.noex b o e z
  . exact absurd (Nat.lt_of_lt_of_le (Heap.lt_size e) (Nat.le_trans I.ok.bsz z)) (Nat.lt_irrefl _)
 exfs:=fun b hb z=>by
  rcases List.mem_cons.mp (I.stkSub b z) with q | q
  . exact (f b hb).2.1 q
  . exact (f b hb).2.2.1 q
 funs:=I.stack
 frf:=I.stkFree
theorem comp_inv {h1:Heap}{t:Nat}(I:Inv X pins σ H3 s3)(S:CompSc X scope)(f:∀b∈fp,FpOk X pins H3 b)(fz:∀b∈fp,b<s3.heap.objs.size)
 (hN:N'=own++cn)(hc:CapOk X scope cn ci)(hv:ci.map (fun j=>σ[j]?)=cv.map fun v=>some (some v))(hl:cn.length=ci.length)
 (hns:h1.Ns s3.heap.objs.size (fun _=>none))(hk:∀b o,s3.heap.get? b=some o->h1.get? b=some o) :
 Inv (cxComp X (X.pn++pins) N' scope fp s3 H3) [] (List.replicate own.length none++cv.map some) H3 { s3 with heap:=h1,toks:=t }:=by
 have lenv:cv.length=ci.length:=by
  have:=congrArg List.length hv
  simpa using this.symm
 refine⟨comp_ok I S f fz,rfl,I.bare,Un.kept hk,⟨_,hns,fun i x v e1 e2 e3=>?_⟩,fun x c e=>?_,I.hok.fresh (Nat.le_refl _),fun x c e=>I.freeC x c (comp_cl e),fun p hp=>?_,I.hok.kept hk,?_⟩
 . -- a captured name
   have hi:own.length<=i:=by
    by_cases hi:own.length<=i
    . exact hi
    . rw[List.getElem?_append_left (by simpa using hi),List.getElem?_replicate] at e2
      split at e2 <;> cases e2
   rw[List.getElem?_append_right (by simpa using hi),List.length_replicate,List.getElem?_map] at e2
   have e1':(own++cn)[i]? = some x:=by rw[<-hN];exact e1
   rw[List.getElem?_append_right hi] at e1'
   obtain⟨j,hj,hNj,hkx,hfr⟩:=hc.get e1'
   have hcv:cv[i-own.length]? = some v:=by
    cases q:cv[i-own.length]? with
    | none=>rw[q] at e2;cases e2
    | some v'=>rw[q] at e2;cases e2;rfl
   have hσ:σ[j]? = some (some v):=by
    have:=congrArg (fun l:List (Option (Option V))=>l[i-own.length]?) hv
    simp only[List.getElem?_map,hj,hcv,Option.map_some,Option.some.injEq] at this
    exact this
   obtain⟨m,_,hl'⟩:=I.loc
   obtain⟨u,r,q⟩:=hl' j x v hNj hσ (.inr (.inl hkx))
   have hkd:(relabel scope X.env).names.lookup x=some .cell\/(relabel scope X.env).names.lookup x=some .free:=by
    have e:(relabel scope X.env).names.lookup x=(scope.names.lookup x).map fun k=>if (k==NameKind.free && X.env.scope.kind == .function && X.env.kindOf x==some .cell)=true then NameKind.cell else k:=lookup_relabel scope.names
    rw[e,hfr,Option.map_some]
    by_cases cc:(NameKind.free==NameKind.free && X.env.scope.kind == .function && X.env.kindOf x==some .cell)=true
    . rw[if_pos cc];exact .inl rfl
    . rw[if_neg cc];exact .inr rfl
   obtain⟨c',hc'⟩:=comp_has I.ok S hkd
   refine⟨u,r,.inr ⟨hkd,c',hc',?_⟩⟩
   rcases q with ⟨z,_⟩ | ⟨_,c,hcc,o,ho,hd⟩
   . rw[hkx] at z;cases z
   . have e:c=c':=Option.some.inj (hcc.symm.trans (comp_cl hc'))
     subst e
     exact⟨o,hk c o ho,hd⟩
 . obtain⟨v,o,ho,hd⟩:=I.cell x c (comp_cl e)
   exact⟨v,o,hk c o ho,hd⟩
 . have hp':p∈X.pn++pins:=by rw[List.append_nil] at hp;exact hp
   obtain⟨e,n,ne,nf,d⟩:=I.pin p hp'
   refine⟨hk _ _ e,n,Nat.ne_of_lt (Heap.lt_size e),fun z=>?_,d⟩
   rcases List.mem_cons.mp (I.stkSub p.1 z) with q | q
   . exact ne q
   . exact nf q
 . show (List.replicate own.length none++cv.map some).length=N'.length
   rw[hN,List.length_append,List.length_append,List.length_replicate,List.length_map,lenv,hl]
def CompRd (J:It)(own:Nat)(cv:List V)(g:TG)(ti:TT)(te:TE)(D:Addr)(H1:Hp)(Q:VK):Prop:=∃W:Nat->Nat->List V->Hp->Prop,(∃m,W 0 m [] (upd H1 D (.lst [])))/\∀i m ys H,W i m ys H ->
 (J.stop i H/\Q (.ref D) H)\/(J.go i H/\ys.length<sizeLine/\∃N:List V->Hp->Prop,(∀ys' H',N ys' H'->∃m',m'<m/\W (i+1) m' ys' H') /\
  ∀x H',J.yld i H x H'->g x (List.replicate own none++cv.map some) H' fun σ2 H2=>(σ2.length=own+cv.length/\σ2.drop own=cv.map some) /\
   ti σ2 H2 fun b H3=>if b=true then te σ2 H3 fun y H4=>H4 D=some (.lst ys)/\N (ys++[y]) (upd H4 D (.lst (ys++[y]))) else N ys H3)
def tComp (own:Nat)(ci:List Nat)(wi:TI)(g:TG)(ti:TT)(te:TE):TE:=fun σ H Q=>wi σ H fun J H1=>∃cv:List V,ci.map (fun j=>σ[j]?)=cv.map (fun v=>some (some v)) /\
 ∀D,H1 D=none->CompRd J own cv g ti te D H1 Q
theorem comp_core {elt target iter:Expr}{ifs:List Expr}{pos cpos:Pos}{wi:TI}{g:TG}{ti:TT}{te:TE}{use:Option (Value->Sem Unit)}{Q0:Value->Shared->Prop}{s:Shared}{H:Hp}{Q:VK}(hcalm:X.calm=true)(S:CompSc X scope)(hc:CapOk X scope cn ci)(hl:cn.length=ci.length)
 (hi:PI X target iter wi)(hg:∀pl fp s3 H3,PG (cxComp X pl (own++cn) scope fp s3 H3) target g)(ht:∀pl fp s3 H3,PTs (cxComp X pl (own++cn) scope fp s3 H3) ifs ti)
 (he:∀pl fp s3 H3,PE (cxComp X pl (own++cn) scope fp s3 H3) elt te)(hs:∀x,foldedSetIterable iter X.env x=pure x)(I:Inv X pins σ H s)(h:tComp own.length ci wi g ti te σ H Q)
 (fin:∀(D C:Addr)(H5:Hp)(s6:Shared)(m6:Str->Option Value),Inv X pins σ H5 s6->s6.heap.Ns C m6->H5 C=none->C≠X.env.locals->X.s₀.heap.objs.size<=C->(∀x c,X.env.cells.lookup x=some c->c≠C) ->
  (∀p∈X.pn++pins,p.1≠C)->Q (.ref D) H5->compPost (model X.prog X.w) X.A X.xe use Q0 (.ref D) C (.ok .next) s6) :
 wpAny (model X.prog X.w) X.A (comprehension (.ListComp elt [⟨target,iter,ifs,0⟩] scope pos) scope X.env cpos (newList []) false (eval iter X.env) use) Q0 X.xe s:=by
 have hcl:closureFor scope X.env=pure (clOf X.env.cells scope.names []):=closureFor_eq fun y hy hf=>I.ok.has y.1 (.inl (S.free y hy hf))
 refine wpAny_comprehension_free (use:=use) rfl hs hcl S.kind S.names ?_
 refine thn (hi pins s σ H _ I h) fun v s1 h1=>thn h1 fun itv s2 h2=>?_
 obtain⟨it,fp,tn,J,H2,e,I2,T,st2,f2,cv,hv,hD⟩:=h2
 subst e
 have lenv:cv.length=ci.length:=by
  have:=congrArg List.length hv
  simpa using this.symm
 have I3:=I2.lnew (ys:=[]) (its:=[]) (t':=s2.toks) .nil (Nat.zero_le _)
 obtain⟨W,⟨m0,w0⟩,turn⟩:=hD s2.heap.objs.size I2.fresh
 have fz:∀b∈fp,b<s2.heap.objs.size:=fun b hb=>by
  obtain⟨o,ho,_⟩:=T.obj _ _ st2 b hb
  exact Heap.lt_size ho
 refine wpAny_newObj_type ?_
 refine wpAny_newFunctionEnv S.nocell (by intro y hy;simp at hy) (fun h4 hns4 hsb4=>?_) S.kind
 generalize hs3:({ s2 with heap:=s2.heap.push { cls:=.type "list",dict:=none,data:=.seq ([]:List Value).toArray } }:Shared)=s3 at hns4 hsb4 ⊢
 have I3':Inv X pins σ (upd H2 s2.heap.objs.size (.lst [])) s3:=by rw[<-hs3];exact I3
 have hsz3:s3.heap.objs.size=s2.heap.objs.size+1:=by rw[<-hs3];exact Heap.size_push ..
 have k23:∀b o,s2.heap.get? b=some o->s3.heap.get? b=some o:=fun b o e=>by rw[<-hs3];exact Heap.get?_push_of_some _ e
 have k34:∀b o,s3.heap.get? b=some o->h4.get? b=some o:=fun b o e=>hsb4.extBut b o (Nat.ne_of_lt (Heap.lt_size e)) (Heap.get?_push_of_some _ e)
 have nD:∀b∈fp,b≠s2.heap.objs.size:=fun b hb=>Nat.ne_of_lt (fz b hb)
 have f3:∀b∈fp,FpOk X pins (upd H2 s2.heap.objs.size (.lst [])) b:=fun b hb=>⟨by rw[upd_ne (nD b hb)];exact (f2 b hb).1,(f2 b hb).2⟩
 have fz3:∀b∈fp,b<s3.heap.objs.size:=fun b hb=>by rw[hsz3];exact Nat.lt_succ_of_lt (fz b hb)
 have I4:Inv (cxComp X (X.pn++pins) (own++cn) scope fp s3 (upd H2 s2.heap.objs.size (.lst []))) [] (List.replicate own.length none++cv.map some) (upd H2 s2.heap.objs.size (.lst [])) { s3 with heap:=h4,toks:=s3.toks+([]:List (Str×Value)).length }:=
  comp_inv I3' S f3 fz3 rfl hc hv hl hns4 k34
 have st4:tn 0 h4:=T.keep _ _ _ st2 fun b hb o e=>k34 b o (k23 b o e)
 generalize hX:cxComp X (X.pn++pins) (own++cn) scope fp s3 (upd H2 s2.heap.objs.size (.lst []))=X' at I4
 have hg':PG X' target g:=by rw[<-hX];exact hg _ _ _ _
 have ht':PTs X' ifs ti:=by rw[<-hX];exact ht _ _ _ _
 have he':PE X' elt te:=by rw[<-hX];exact he _ _ _ _
 have ePr:X'.prog=X.prog:=by rw[<-hX];rfl
 have eW:X'.w=X.w:=by rw[<-hX];rfl
 have eK:X'.K=X.K:=by rw[<-hX];rfl
 have eA:X'.A=X.A:=by rw[<-hX];rfl
 have eE:X'.env=compEnvC scope (clOf X.env.cells scope.names []) s3.heap.objs.size X.env:=by rw[<-hX];rfl
 have eXe:X'.xe=fun _ _=>False:=by rw[<-hX];rfl
 have eC:X'.calm=true:=by rw[<-hX];exact hcalm
 have eex:X'.ex=fp:=by rw[<-hX];rfl
 have epn:X'.pn=X.pn++pins:=by rw[<-hX];rfl
 have es0:X'.s₀=s3:=by rw[<-hX];rfl
 have eH0:X'.H₀=upd H2 s2.heap.objs.size (.lst []):=by rw[<-hX];rfl
 have efs:X'.fs=frs X.stack:=by rw[<-hX];rfl
 have ok':=I4.ok
 have stat:∀{H':Hp},(∀b∈fp,H' b=none)->∀b∈fp,FpOk X' [] H' b:=fun hn b hb=>by
  have hb':b∈X'.ex:=by rw[eex];exact hb
  refine⟨hn b hb,(ok'.exf b hb').1,ok'.exfs b hb',.inl hb',(ok'.exf b hb').2,fun p hp=>?_⟩
  rw[epn,List.append_nil] at hp
  exact (f2 b hb).2.2.2.2.2 p hp
 have wk:∀(σ2:St),(σ2.length=own.length+cv.length/\σ2.drop own.length=cv.map some)->∀{pl:List (Addr×Obj)}{H':Hp}{s':Shared},Inv X' pl σ2 H' s'->Inv X' pl (List.replicate own.length none++cv.map some) H' s':=fun σ2 hq pl H' s' I'=>by
  refine I'.weak (by rw[hq.1,List.length_append,List.length_replicate,List.length_map]) fun i v hi=>?_
  by_cases hlt:i<own.length
  . rw[List.getElem?_append_left (by simpa using hlt),List.getElem?_replicate] at hi
    split at hi <;> cases hi
  . rw[List.getElem?_append_right (by simpa using hlt),List.length_replicate,<-hq.2,List.getElem?_drop] at hi
    rw[show own.length+(i-own.length)=i by omega] at hi
    exact hi
 have loop:codeAny (model X.prog X.w) X.A (.compLoop (.ListComp elt [⟨target,iter,ifs,0⟩] scope pos) 0 (.ref it) (.ref s2.heap.objs.size) (compEnvC scope (clOf X.env.cells scope.names []) s3.heap.objs.size X.env))
  (compPost (model X.prog X.w) X.A X.xe use Q0 (.ref s2.heap.objs.size) s3.heap.objs.size) { s3 with heap:=h4,toks:=s3.toks+([]:List (Str×Value)).length }:=by
  refine compLoop_gen (fun n s'=>∃i ys H',Inv X' [] (List.replicate own.length none++cv.map some) H' s'/\tn i s'.heap/\(∀b∈fp,H' b=none)/\W i n ys H') ?_ m0
   ⟨0,[],_,I4,st4,fun b hb=>(f3 b hb).1,w0⟩
  rintro n s5 ⟨i,ys,H5,I5,st5,fr5,w5⟩
  rcases turn i n ys H5 w5 with ⟨stop,qn⟩ | ⟨go,hsz,N,hN,step⟩
  . have d:=T.done X' ePr eW eK eC i [] s5 _ H5 (fun _ _=>False) I5 (stat fr5) st5 stop
    rw[eA] at d
    refine thn d fun r s6 ⟨hr,I6⟩=>?_
    subst hr
    obtain⟨m6,hn6,_⟩:=I6.loc
    rw[eE] at hn6
    have hn6':s6.heap.Ns s3.heap.objs.size m6:=hn6
    have un6:Un (frs X.stack) fp (upd H2 s2.heap.objs.size (.lst [])) H5 s3.heap s6.heap:=by
     have b6:=I6.base
     rw[efs,eex,eH0,es0] at b6
     exact b6
    have os6:s6.os=s3.os:=by have o6:=I6.os;rw[es0] at o6;exact o6
    have hok6:HOk X.prog X.w H5 s6.heap:=by have o6:=I6.hok;rw[ePr,eW] at o6;exact o6
    have I7:Inv X pins σ H5 s6:=I3'.call' (ch:=fp) os6 un6 hok6 I6.bare fun b hb=>⟨(f2 b hb).2.2.2.1,(f2 b hb).2.1,(f2 b hb).2.2.2.2.1,(f2 b hb).2.2.2.2.2⟩
    have fr6:H5 s3.heap.objs.size=none:=by
     have q:=I6.free
     rw[eE] at q
     exact q
    refine fin s2.heap.objs.size s3.heap.objs.size H5 s6 m6 I7 hn6' fr6 (Nat.ne_of_gt I3'.lt) I3'.sz (fun x c e=>?_) (fun p hp=>?_) qn
    . obtain⟨_,o,ho,_⟩:=I3'.cell x c e
      exact Nat.ne_of_lt (Heap.lt_size ho)
    . exact Nat.ne_of_lt (Heap.lt_size (I3'.pin p hp).1)
  . have d:=T.item X' ePr eW eK eC i [] s5 _ H5 (fun _ _=>False) I5 (stat fr5) st5 go
    rw[eA] at d
    refine thn d fun r s6 ⟨u,hr,h6⟩=>?_
    subst hr
    refine thn h6 fun _ s7 ⟨x,H7,I7,r7,y7,st7,fr7⟩=>?_
    have I7':=I7.pinned (stat fr7) (T.obj _ _ st7)
    have g7:=hg' _ s7 _ H7 x u _ I7' r7 (step x H7 y7)
    rw[ePr,eW,eA,eE,eXe] at g7
    refine thn g7 fun _ s8 ⟨σ8,H8,I8,q8,ti8⟩=>?_
    have t8:=ht' _ s8 σ8 H8 _ I8 ti8
    rw[ePr,eW,eA,eE,eXe] at t8
    refine thn t8 fun ok s9 ⟨H9,I9,q9⟩=>?_
    have again:∀{ys':List V}{H':Hp}{s':Shared},Inv X' ([]++pinsAt fp s7.heap) σ8 H' s'->N ys' H' ->
     ∃m,m<n/\∃i ys H',Inv X' [] (List.replicate own.length none++cv.map some) H' s'/\tn i s'.heap/\(∀b∈fp,H' b=none)/\W i m ys H':=fun {ys' H' s'} I' n'=>by
     obtain⟨m',hm,w'⟩:=hN ys' H' n'
     refine⟨m',hm,i+1,ys',H',(wk σ8 q8 I').unpinned,T.keep _ _ _ st7 fun b hb o e=>(I'.pin (b,o) (List.mem_append_right _ (List.mem_append_right _ (mem_pinsAt hb e)))).1,fun b hb=>?_,w'⟩
     obtain⟨o,e,_⟩:=T.obj _ _ st7 b hb
     exact (I'.pin (b,o) (List.mem_append_right _ (List.mem_append_right _ (mem_pinsAt hb e)))).2.1
    cases ok with
    | false=>exact again I9 q9
    | true=>
     have e9:=he' _ s9 σ8 H9 _ I9 q9
     rw[ePr,eW,eA,eE,eXe] at e9
     refine thn e9 fun u10 s10 ⟨y,H10,I10,r10,hD10,n10⟩=>?_
     have a10:=mt_append (X:=X') _ s10 σ8 H10 (.ref s2.heap.objs.size) [y] (.ref s2.heap.objs.size) [u10] (fun _ H'=>N (ys++[y]) H') I10 rfl (.cons r10 .nil) ⟨_,_,_,rfl,rfl,hD10,hsz,n10⟩
     rw[ePr,eW,eA,eXe] at a10
     exact thn a10 fun _ s11 ⟨_,H11,I11,_,n11⟩=>again I11 n11
 exact codeAny_compStart_list loop (T.self X.A 0 _ _ _ st4 loop)
theorem pe_comp {elt target iter:Expr}{ifs:List Expr}{pos:Pos}{wi:TI}{g:TG}{ti:TT}{te:TE}(hcalm:X.calm=true)(S:CompSc X scope)(hc:CapOk X scope cn ci)(hl:cn.length=ci.length)
 (hi:PI X target iter wi)(hg:∀pl fp s3 H3,PG (cxComp X pl (own++cn) scope fp s3 H3) target g)(ht:∀pl fp s3 H3,PTs (cxComp X pl (own++cn) scope fp s3 H3) ifs ti)
 (he:∀pl fp s3 H3,PE (cxComp X pl (own++cn) scope fp s3 H3) elt te)(hs:∀x,foldedSetIterable iter X.env x=pure x:=by intro _;rfl) :
 PE X (.ListComp elt [⟨target,iter,ifs,0⟩] scope pos) (tComp own.length ci wi g ti te):=by
 intro pins s σ H Q I h
 rw[eval_ListComp]
 exact comp_core hcalm S hc hl hi hg ht he hs I h fun D C H5 s6 m6 I7 hn fr nL ge nC nP q=>⟨m6,hn,fun h' hs'=>⟨.ref D,H5,I7.turned (t':=s6.toks) (it:=C) (fun b o hb e=>hs'.extBut b o hb e) fr nL (.inr ge) nC nP,rfl,q⟩⟩
theorem ps_setC {elt target iter:Expr}{ifs:List Expr}{pos pos' cpos:Pos}{wi:TI}{g:TG}{ti:TT}{te:TE}{i:Nat}{x:Str}(hN:X.N.Nodup)(hix:X.N[i]? = some x)(hx:Loc X.env.scope x)(hcalm:X.calm=true)(S:CompSc X scope)(hc:CapOk X scope cn ci)(hl:cn.length=ci.length)
 (hi:PI X target iter wi)(hg:∀pl fp s3 H3,PG (cxComp X pl (own++cn) scope fp s3 H3) target g)(ht:∀pl fp s3 H3,PTs (cxComp X pl (own++cn) scope fp s3 H3) ifs ti)
 (he:∀pl fp s3 H3,PE (cxComp X pl (own++cn) scope fp s3 H3) elt te)(hs:∀x,foldedSetIterable iter X.env x=pure x:=by intro _;rfl)
 (hsw:swapsWith (.ListComp elt [⟨target,iter,ifs,0⟩] scope cpos) (some (.Name x pos')) pos.line X.env=pure true:=by rfl)
 (hf:X.fn x=true\/X.env.scope.names.lookup x=some .local:=by first | exact .inl rfl | exact .inr rfl | assumption) :
 PS X (.Assign [.Name x pos'] (.ListComp elt [⟨target,iter,ifs,0⟩] scope cpos) pos) (tAsg (tComp own.length ci wi g ti te) (gName i)):=by
 intro pins s σ H D I h
 rw[exec_Assign_Name_used _ _ _ _ hsw]
 refine wpAny_bind (wpAny_standAt (wpAny_bind ?_))
 show wpAny _ X.A (do let _ <-comprehension (.ListComp elt [⟨target,iter,ifs,0⟩] scope cpos) scope X.env _ (newList []) false (eval iter X.env) (some (assign (.Name x pos') X.env))) _ _ s
 refine wpAny_bind (wpAny_mono (comp_core (use:=some (assign (.Name x pos') X.env)) (Q0:=fun _ s'=>SP X pins D .next s') hcalm S hc hl hi hg ht he hs I h (fun D' C H5 s6 m6 I7 hn fr nL ge nC nP q=>?_)) (fun _ s' hq=>wpAny_pure (wpAny_pure hq)) fun _ _ e=>e)
 obtain⟨oC,es,ep,hoC,hd,r1⟩:=hn
 have nf:C∉X.fs:=fun hb=>by
  obtain⟨_,o,ho,_⟩:=I7.ok.funs.mem hb
  exact absurd (Nat.lt_of_lt_of_le (Heap.lt_size ho) ge) (Nat.lt_irrefl _)
 have I7':Inv X (pins++[(C,oC)]) σ H5 s6:=I7.pins_of fun p hp=>by
  rcases List.mem_append.mp hp with z | z
  . exact I7.pin p (List.mem_append_right _ z)
  . rw[List.mem_singleton.mp z]
    exact⟨hoC,fr,nL,nf,fun v e=>by rw[hd] at e;cases e⟩
 show wpAny _ X.A (assign (.Name x pos') X.env (.ref D')) _ _ s6
 refine wpAny_assign_Name (store_ok I7' hN hix hx (show RelV (.ref D') (.ref D') from rfl) (fun s' I'=>?_) hf)
 have hC':=(I'.pin (C,oC) (List.mem_append_right _ (List.mem_append_right _ (List.mem_singleton.mpr rfl)))).1
 refine⟨m6,⟨oC,es,ep,hC',hd,r1⟩,fun h' hs'=>⟨_,H5,?_,q⟩⟩
 have I2:Inv X pins (σ.set i (some (.ref D'))) H5 s':=I'.pins_of fun p hp=>I'.pin p (List.mem_append_right _ (List.mem_append_left _ hp))
 exact I2.turned (t':=s'.toks) (it:=C) (fun b o hb e=>hs'.extBut b o hb e) fr nL (.inr ge) nC nP
end
def cscOk (outer inner:Scope):Bool:=inner.names.all fun y=>(y.2 != .cell) && (y.2 != .local || inner.names.lookup y.1==some .local) && (y.2 != .free || outer.names.lookup y.1==some .cell)
theorem csc {X:Cx}{scope:Scope}(hk:scope.kind = .function)(h:cscOk X.env.scope scope=true):CompSc X scope:=by
 have a:=List.all_eq_true.mp h
 refine⟨hk,fun y hy e=>?_,fun y hy e=>?_,fun y hy e=>?_⟩
 . have:=a y hy
   rw[e] at this
   simp at this
 . have:=a y hy
   rw[e] at this
   simpa using this
 . have:=a y hy
   rw[e] at this
   have h2:X.env.scope.names.lookup y.1=some .cell:=by simpa using this
   exact h2
theorem nd_of {l:List Str}(h:decide l.Nodup=true):l.Nodup:=of_decide_eq_true h
section
variable {X:Cx}{pl:List (Addr×Obj)}{N':List Str}{sc:Scope}{fp:List Addr}{s3:Shared}{H3:Hp}
theorem ix_tupC:IxR (cxComp X pl N' sc fp s3 H3) (rIxT X.K):=ix_tup
theorem ix_listC:IxR (cxComp X pl N' sc fp s3 H3) (rIxL X.K):=ix_list
theorem pg_tupC {es:List Expr}{k:Nat}{t:TGs}{n:Nat}{pos:Pos}(hc:X.calm=true)(h:PGs (cxComp X pl N' sc fp s3 H3) es t)
 (hn:(assignEach es (cxComp X pl N' sc fp s3 H3).env).length=n:=by rfl)(hst:(assignEach es (cxComp X pl N' sc fp s3 H3).env).findIdx? (·.1)=none:=by rfl):PG (cxComp X pl N' sc fp s3 H3) (.Tuple es k pos) (gTup X.K n t):=pg_tup hc h hn hst
end
theorem comp_list {K:PySem.W.Frag}{a:Addr}{xs:List V}{own:Nat}{g:TG}{ti:TT}{te:TE}{cv:List V}{D:Addr}{H1:Hp}{Q:VK}(Pv:Nat->List V->Hp->Prop)(h0:Pv 0 [] (upd H1 D (.lst [])))(hl:∀i ys H,Pv i ys H->SqL K H a xs)(hz:∀i ys H,Pv i ys H->ys.length<sizeLine)
 (hs:∀i x ys H,xs[i]? = some x->Pv i ys H->g x (List.replicate own none++cv.map some) H fun σ2 H2=>(σ2.length=own+cv.length/\σ2.drop own=cv.map some) /\
  ti σ2 H2 fun b H3=>if b=true then te σ2 H3 fun y H4=>H4 D=some (.lst ys)/\Pv (i+1) (ys++[y]) (upd H4 D (.lst (ys++[y]))) else Pv (i+1) ys H3)
 (hd:∀ys H,Pv xs.length ys H->Q (.ref D) H) :
 CompRd (Itl K a) own cv g ti te D H1 Q:=by
 refine⟨fun i m ys H=>m=xs.length-i/\i<=xs.length/\Pv i ys H,⟨xs.length,rfl,Nat.zero_le _,h0⟩,?_⟩
 rintro i m ys H ⟨rfl,hi,p⟩
 have q:=hl i ys H p
 by_cases hlt:i<xs.length
 . refine .inr ⟨⟨xs,xs[i],q,by simp[hlt]⟩,hz i ys H p,Pv (i+1),fun ys' H' p'=>⟨xs.length-(i+1),by omega,rfl,hlt,p'⟩,fun x H' y=>?_⟩
   obtain⟨e,y⟩:=y
   subst e
   exact hs i x ys _ (y xs q) p
 . have e:i=xs.length:=by omega
   subst e
   exact .inl ⟨⟨xs,q,Nat.le_refl _⟩,hd ys H p⟩
theorem comp_tup {K:PySem.W.Frag}{a:Addr}{xs:List V}{own:Nat}{g:TG}{ti:TT}{te:TE}{cv:List V}{D:Addr}{H1:Hp}{Q:VK}(Pv:Nat->List V->Hp->Prop)(h0:Pv 0 [] (upd H1 D (.lst [])))(hl:∀i ys H,Pv i ys H->SqT K H a xs)(hz:∀i ys H,Pv i ys H->ys.length<sizeLine)
 (hs:∀i x ys H,xs[i]? = some x->Pv i ys H->g x (List.replicate own none++cv.map some) H fun σ2 H2=>(σ2.length=own+cv.length/\σ2.drop own=cv.map some) /\
  ti σ2 H2 fun b H3=>if b=true then te σ2 H3 fun y H4=>H4 D=some (.lst ys)/\Pv (i+1) (ys++[y]) (upd H4 D (.lst (ys++[y]))) else Pv (i+1) ys H3)
 (hd:∀ys H,Pv xs.length ys H->Q (.ref D) H) :
 CompRd (Itt K a) own cv g ti te D H1 Q:=by
 refine⟨fun i m ys H=>m=xs.length-i/\i<=xs.length/\Pv i ys H,⟨xs.length,rfl,Nat.zero_le _,h0⟩,?_⟩
 rintro i m ys H ⟨rfl,hi,p⟩
 have q:=hl i ys H p
 by_cases hlt:i<xs.length
 . refine .inr ⟨⟨xs,xs[i],q,by simp[hlt]⟩,hz i ys H p,Pv (i+1),fun ys' H' p'=>⟨xs.length-(i+1),by omega,rfl,hlt,p'⟩,fun x H' y=>?_⟩
   obtain⟨e,y⟩:=y
   subst e
   exact hs i x ys _ (y xs q) p
 . have e:i=xs.length:=by omega
   subst e
   exact .inl ⟨⟨xs,q,Nat.le_refl _⟩,hd ys H p⟩
theorem comp_range {lo:Int}{n own:Nat}{g:TG}{ti:TT}{te:TE}{cv:List V}{D:Addr}{H1:Hp}{Q:VK}(Pv:Nat->List V->Hp->Prop)(h0:Pv 0 [] (upd H1 D (.lst [])))(hz:∀i ys H,Pv i ys H->ys.length<sizeLine)
 (hs:∀i ys H,i<n->Pv i ys H->g (.int (lo+i)) (List.replicate own none++cv.map some) H fun σ2 H2=>(σ2.length=own+cv.length/\σ2.drop own=cv.map some) /\
  ti σ2 H2 fun b H3=>if b=true then te σ2 H3 fun y H4=>H4 D=some (.lst ys)/\Pv (i+1) (ys++[y]) (upd H4 D (.lst (ys++[y]))) else Pv (i+1) ys H3)
 (hd:∀ys H,Pv n ys H->Q (.ref D) H) :
 CompRd (Itr lo n) own cv g ti te D H1 Q:=by
 refine⟨fun i m ys H=>m=n-i/\i<=n/\Pv i ys H,⟨n,rfl,Nat.zero_le _,h0⟩,?_⟩
 rintro i m ys H ⟨rfl,hi,p⟩
 by_cases hlt:i<n
 . refine .inr ⟨hlt,hz i ys H p,Pv (i+1),fun ys' H' p'=>⟨n-(i+1),by omega,rfl,hlt,p'⟩,fun x H' y=>?_⟩
   obtain⟨e,y⟩:=y
   subst e
   subst y
   exact hs i ys _ hlt p
 . have e:i=n:=by omega
   subst e
   exact .inl ⟨Nat.le_refl _,hd ys H p⟩
end L2
namespace SortT
open PySem.W PyProof.Rows
def ev {α:Type}(lt:Nat->Nat->Bool):KasT α->α
 | .ret a=>a
 | .ask i j k=>ev lt (k (lt i j))
theorem ev_bind {α β:Type}(lt:Nat->Nat->Bool)(f:α->KasT β):∀t:KasT α,ev lt (t.bind f)=ev lt (f (ev lt t))
 | .ret _=>rfl
 | .ask i j k=>ev_bind lt f (k (lt i j))
section
variable {O:KeyOrd}{key:Nat->O.α}
def kk (key:Nat->O.α)(p:Array Nat)(i:Nat):O.α:=key (p.getD i 0)
def Sr (key:Nat->O.α)(p:Array Nat)(n:Nat):Prop:=∀i j,i<=j->j<n->O.kle (kk key p i) (kk key p j)
def Fl (key:Nat->O.α)(p:Array Nat)(n:Nat):Prop:=∀i j,i<=j->j<n->O.kle (kk key p j) (kk key p i)
theorem kk_congr {p q:Array Nat}{i j:Nat}(h:p[i]? = q[j]?):kk key p i=kk key q j:=by
 unfold kk;rw[Array.getD_eq_getD_getElem?,Array.getD_eq_getD_getElem?,h]
theorem kk_rev {p:Array Nat}{i j:Nat}(hj:j<=p.size)(k:Nat):kk key (kas_rev p i j) k=if i<=k/\k<j then kk key p (i+j-1-k) else kk key p k:=by
 have e:=getElem?_mirror_all (i:=i) hj k
 unfold kas_rev
 by_cases h1:i<=k/\k<j
 . rw[if_pos h1] at e ⊢;exact kk_congr e
 . rw[if_neg h1] at e ⊢;exact kk_congr e
theorem kk_rev_eq {p:Array Nat}{i j:Nat}(hj:j<=p.size)(he:∀k,i<=k->k<j->kk key p k=kk key p (j-1))(k:Nat):kk key (kas_rev p i j) k=kk key p k:=by
 rw[kk_rev hj]
 split
 . rw[he _ (by omega) (by omega),he k (by omega) (by omega)]
 . rfl
theorem kk_bubble {p:Array Nat}{src d:Nat}(hs:src<p.size)(hd:d<=src)(k:Nat) :
 kk key (bubble p src d) k=if k=src-d then kk key p src else if src-d<k/\k<=src then kk key p (k-1) else kk key p k:=by
 have e:=getElem?_bubble hs d hd k
 by_cases h1:k=src-d
 . rw[if_pos h1] at e ⊢;exact kk_congr e
 . rw[if_neg h1] at e ⊢
   by_cases h2:src-d<k/\k<=src
   . rw[if_pos h2] at e ⊢;exact kk_congr e
   . rw[if_neg h2] at e ⊢;exact kk_congr e
def lt_ (key:Nat->O.α)(i j:Nat):Bool:=O.blt (key i) (key j)
theorem rev_perm (p:Array Nat)(i j:Nat):(kas_rev p i j).Perm p:=mirror_perm _ _ _ _
theorem rev_size (p:Array Nat)(i j:Nat):(kas_rev p i j).size=p.size:=(rev_perm p i j).size_eq
theorem asc_ok {p:Array Nat}:∀(f n:Nat),1<=n->Sr key p n->∃m,ev (lt_ key) (kas_asc p f n)=m/\n<=m/\m<=n+f/\Sr key p m/\(m=n+f\/O.klt (kk key p m) (kk key p (m-1)))
 | 0,n,_,hs=>⟨n,rfl,Nat.le_refl _,Nat.le_refl _,hs,.inl rfl⟩
 | f+1,n,h1,hs=>by
  show ∃m,ev (lt_ key) (if lt_ key (p.getD n 0) (p.getD (n-1) 0)=true then KasT.ret n else kas_asc p f (n+1))=m/\_
  cases hl:lt_ key (p.getD n 0) (p.getD (n-1) 0) with
  | true=>exact⟨n,by simp[ev],Nat.le_refl _,by omega,hs,.inr hl⟩
  | false=>
   have hs':Sr key p (n+1):=fun i j hij hj=>by
    by_cases hjn:j<n
    . exact hs i j hij hjn
    . have hj':j=n:=by omega
      subst hj'
      by_cases hi':i=j
      . subst hi';exact KeyOrd.kle_refl _
      . exact KeyOrd.kle_trans (hs i (j-1) (by omega) (by omega)) hl
   obtain⟨m,e,a,b,c,d⟩:=asc_ok f (n+1) (by omega) hs'
   refine⟨m,by simpa using e,by omega,by omega,c,?_⟩
   rcases d with d | d
   . exact .inl (by omega)
   . exact .inr d
theorem tail3_ok {p:Array Nat}{n nrem:Nat}(h1:1<=n)(hn:n<=nrem)(hz:nrem<=p.size)(hs:Fl key p n) :
 ∃m q,ev (lt_ key) (kas_tail3 n nrem p)=(m,q)/\q.Perm p/\1<=m/\m<=nrem/\Sr key q m:=by
 unfold kas_tail3
 have hs':Sr key (kas_rev p 0 n) n:=fun i j hij hj=>by
  rw[kk_rev (by omega),kk_rev (by omega),if_pos (by omega),if_pos (by omega)]
  exact hs _ _ (by omega) (by omega)
 obtain⟨m,e,a,b,c,_⟩:=asc_ok (nrem-n) n h1 hs'
 exact⟨m,kas_rev p 0 n,by rw[ev_bind,e];rfl,rev_perm _ _ _,by omega,by omega,c⟩
theorem desc_ok:∀(f n q:Nat)(p:Array Nat),1<=n->n+f<=p.size->Fl key p n->q+1<=n->(∀i,n-(q+1)<=i->i<n->kk key p i=kk key p (n-1)) ->
 ∃p' n' q',ev (lt_ key) (kas_desc f p n q)=(p',n',q')/\p'.Perm p/\n<=n'/\n'<=n+f/\Fl key p' n'/\q'+1<=n'/\(∀i,n'-(q'+1)<=i->i<n'->kk key p' i=kk key p' (n'-1))
 | 0,n,q,p,_,_,hs,hq,he=>⟨p,n,q,rfl,.refl _,Nat.le_refl _,Nat.le_refl _,hs,hq,he⟩
 | f+1,n,q,p,h1,hz,hs,hq,he=>by
  show ∃p' n' q',ev (lt_ key) (if lt_ key (p.getD n 0) (p.getD (n-1) 0)=true then _ else KasT.ask _ _ _)=(p',n',q')/\_
  cases hl:lt_ key (p.getD n 0) (p.getD (n-1) 0) with
  | true=>
   have step:∀xs:Array Nat,(∀k,kk key xs k=kk key p k)->Fl key xs (n+1):=fun xs hk i j hij hj=>by
    rw[hk,hk]
    by_cases hjn:j<n
    . exact hs i j hij hjn
    . have hj':j=n:=by omega
      subst hj'
      by_cases hi':i=j
      . subst hi';exact KeyOrd.kle_refl _
      . exact KeyOrd.kle_trans (KeyOrd.kle_of_klt hl) (hs i (j-1) (by omega) (by omega))
   by_cases hq0:q > 0
   . have hk:=kk_rev_eq (key:=key) (p:=p) (i:=n-(q+1)) (j:=n) (by omega) he
     obtain⟨p',n',q',e,a,b,c,d⟩:=desc_ok f (n+1) 0 (kas_rev p (n-(q+1)) n) (by omega) (by rw[rev_size];omega) (step _ hk) (by omega) (fun i h1 h2=>by congr 1;omega)
     exact⟨p',n',q',by simpa [hq0] using e,a.trans (rev_perm _ _ _),by omega,by omega,d⟩
   . obtain⟨p',n',q',e,a,b,c,d⟩:=desc_ok f (n+1) 0 p (by omega) (by omega) (step _ fun _=>rfl) (by omega) (fun i h1 h2=>by congr 1;omega)
     exact⟨p',n',q',by simpa [hq0] using e,a,by omega,by omega,d⟩
  | false=>
   show ∃p' n' q',ev (lt_ key) (if lt_ key (p.getD (n-1) 0) (p.getD n 0)=true then KasT.ret (p,n,q) else kas_desc f p (n+1) (q+1))=(p',n',q')/\_
   cases hr:lt_ key (p.getD (n-1) 0) (p.getD n 0) with
   | true=>exact⟨p,n,q,by simp[ev],.refl _,Nat.le_refl _,by omega,hs,hq,he⟩
   | false=>
    have heq:kk key p n=kk key p (n-1):=KeyOrd.kle_antisymm hr hl
    have hs':Fl key p (n+1):=fun i j hij hj=>by
     by_cases hjn:j<n
     . exact hs i j hij hjn
     . have hj':j=n:=by omega
       subst hj'
       by_cases hi':i=j
       . subst hi';exact KeyOrd.kle_refl _
       . rw[heq];exact hs i (j-1) (by omega) (by omega)
    obtain⟨p',n',q',e,a,b,c,d⟩:=desc_ok f (n+1) (q+1) p (by omega) (by omega) hs' (by omega) (fun i h1 h2=>by
     rw[show n+1-1=n by omega]
     by_cases hix:i=n
     . subst hix;rfl
     . rw[heq];exact he i (by omega) (by omega))
    exact⟨p',n',q',by simpa using e,a,by omega,by omega,d⟩
theorem descPart_ok {p:Array Nat}{n nrem:Nat}(hn:n+1<=nrem)(hz:nrem<=p.size)(hs:Fl key p (n+1)) :
 ∃m q,ev (lt_ key) (kas_descPart n nrem p)=(m,q)/\q.Perm p/\1<=m/\m<=nrem/\Sr key q m:=by
 unfold kas_descPart
 rw[ev_bind]
 obtain⟨p',n',q',e,a,b,c,d,hq,he⟩:=desc_ok (nrem-(n+1)) (n+1) 0 p (by omega) (by omega) hs (by omega) (fun i h1 h2=>by congr 1;omega)
 rw[e]
 dsimp only
 have hz':p'.size=p.size:=a.size_eq
 by_cases hq0:q' > 0
 . rw[if_pos hq0]
   have hk:=kk_rev_eq (key:=key) (p:=p') (i:=n'-(q'+1)) (j:=n') (by omega) he
   obtain⟨m,r,e2,a2,b2,c2,d2⟩:=tail3_ok (key:=key) (p:=kas_rev p' (n'-(q'+1)) n') (n:=n') (nrem:=nrem) (by omega) (by omega) (by rw[rev_size];omega) (fun i j hij hj=>by rw[hk,hk];exact d i j hij hj)
   exact⟨m,r,e2,a2.trans ((rev_perm _ _ _).trans a),b2,c2,d2⟩
 . rw[if_neg hq0]
   obtain⟨m,r,e2,a2,b2,c2,d2⟩:=tail3_ok (key:=key) (p:=p') (n:=n') (nrem:=nrem) (by omega) (by omega) (by omega) d
   exact⟨m,r,e2,a2.trans a,b2,c2,d2⟩
theorem count_ok {p:Array Nat}{nrem:Nat}(h1:1<=nrem)(hz:nrem<=p.size):∃m q,ev (lt_ key) (kas_count nrem p)=(m,q)/\q.Perm p/\1<=m/\m<=nrem/\Sr key q m:=by
 unfold kas_count
 rw[ev_bind]
 obtain⟨n,e,a,b,hsn,hor⟩:=asc_ok (key:=key) (p:=p) (nrem-1) 1 (Nat.le_refl _) (fun i j hij hj=>by have:i=j:=(by omega);subst this;exact KeyOrd.kle_refl _)
 rw[e]
 by_cases hnn:n=nrem
 . rw[if_pos (by simpa using hnn)]
   exact⟨n,p,rfl,.refl _,a,by omega,hsn⟩
 . rw[if_neg (by simpa using hnn)]
   have hlt:O.klt (kk key p n) (kk key p (n-1)):=hor.resolve_left (by omega)
   by_cases hgt:n > 1
   . rw[if_pos hgt]
     show ∃m q,ev (lt_ key) (if lt_ key (p.getD 0 0) (p.getD (n-1) 0)=true then KasT.ret (n,p) else kas_descPart n nrem (kas_rev p 0 n))=(m,q)/\_
     cases hr:lt_ key (p.getD 0 0) (p.getD (n-1) 0) with
     | true=>exact⟨n,p,by simp[ev],.refl _,a,by omega,hsn⟩
     | false=>
      have hall:∀k,0<=k->k<n->kk key p k=kk key p (n-1):=fun k _ hk=>
       KeyOrd.kle_antisymm (hsn k (n-1) (by omega) (by omega)) (KeyOrd.kle_trans hr (hsn 0 k (by omega) hk))
      have hk:=kk_rev_eq (key:=key) (p:=p) (i:=0) (j:=n) (by omega) hall
      obtain⟨m,q,e2,a2,b2,c2,d2⟩:=descPart_ok (key:=key) (p:=kas_rev p 0 n) (n:=n) (nrem:=nrem) (by omega) (by rw[rev_size];omega) (fun i j hij hj=>by
       rw[hk,hk]
       by_cases hjn:j<n
       . rw[hall i (by omega) (by omega),hall j (by omega) hjn];exact KeyOrd.kle_refl _
       . have hj':j=n:=by omega
         subst hj'
         by_cases hi':i=j
         . subst hi';exact KeyOrd.kle_refl _
         . rw[hall i (by omega) (by omega)];exact KeyOrd.kle_of_klt hlt)
      exact⟨m,q,by simpa using e2,a2.trans (rev_perm _ _ _),b2,c2,d2⟩
   . rw[if_neg hgt]
     have hn1:n=1:=by omega
     subst hn1
     refine descPart_ok (by omega) hz fun i j hij hj=>?_
     by_cases hi':i=j
     . subst hi';exact KeyOrd.kle_refl _
     . have hi0:i=0:=by omega
       have hj1:j=1:=by omega
       subst hi0;subst hj1
       exact KeyOrd.kle_of_klt hlt
theorem place_ok {p:Array Nat}{k:Nat}(hs:Sr key p k):∀(f l r:Nat),l<=r->r<=k->r-l<=f->(∀i,i<l->O.kle (kk key p i) (kk key p k))->(∀i,r<=i->i<k->O.klt (kk key p k) (kk key p i)) ->
 ∃m,ev (lt_ key) (kas_place p k f l r)=m/\m<=k/\(∀i,i<m->O.kle (kk key p i) (kk key p k))/\(∀i,m<=i->i<k->O.klt (kk key p k) (kk key p i))
 | 0,l,r,hlr,hrk,hf,hlo,hhi=>⟨l,rfl,by omega,hlo,fun i h1 h2=>hhi i (by omega) h2⟩
 | f+1,l,r,hlr,hrk,hf,hlo,hhi=>by
  unfold kas_place
  by_cases hge:l ≥ r
  . rw[if_pos hge]
    exact⟨l,rfl,by omega,hlo,fun i h1 h2=>hhi i (by omega) h2⟩
  . rw[if_neg hge]
    show ∃m,ev (lt_ key) (if lt_ key (p.getD k 0) (p.getD ((l+r)/2) 0)=true then kas_place p k f l ((l+r)/2) else kas_place p k f ((l+r)/2+1) r)=m/\_
    cases hl:lt_ key (p.getD k 0) (p.getD ((l+r)/2) 0) with
    | true=>
     obtain⟨m,e,x⟩:=place_ok hs f l ((l+r)/2) (by omega) (by omega) (by omega) hlo (fun i h1 h2=>KeyOrd.klt_of_klt_of_kle hl (hs _ _ h1 h2))
     exact⟨m,by simpa using e,x⟩
    | false=>
     obtain⟨m,e,x⟩:=place_ok hs f ((l+r)/2+1) r (by omega) (by omega) (by omega) (fun i h1=>KeyOrd.kle_trans (hs i ((l+r)/2) (by omega) (by omega)) (show O.kle _ _ from hl)) hhi
     exact⟨m,by simpa using e,x⟩
theorem bin_ok:∀(f:Nat)(p:Array Nat)(k:Nat),k+f=p.size->Sr key p k->∃q,ev (lt_ key) (kas_bin f p k)=q/\q.Perm p/\Sr key q (k+f)
 | 0,p,k,_,hs=>⟨p,rfl,.refl _,hs⟩
 | f+1,p,k,hz,hs=>by
  unfold kas_bin
  rw[ev_bind]
  obtain⟨l,e,hlk,hlo,hhi⟩:=place_ok (key:=key) hs k 0 k (by omega) (by omega) (by omega) (fun i h=>by omega) (fun i h1 h2=>by omega)
  rw[e]
  have hs':Sr key (bubble p k (k-l)) (k+1):=fun i j hij hj=>by
   rw[kk_bubble (by omega) (by omega),kk_bubble (by omega) (by omega),show k-(k-l)=l by omega]
   repeat' split
   all_goals first
    | (exfalso;omega)
    | exact KeyOrd.kle_refl _
    | exact hlo _ (by omega)
    | exact KeyOrd.kle_of_klt (hhi _ (by omega) (by omega))
    | exact hs _ _ (by omega) (by omega)
  obtain⟨q,e2,a,b⟩:=bin_ok f (bubble p k (k-l)) (k+1) (by rw[(bubble_perm p k (k-l)).size_eq];omega) hs'
  exact⟨q,e2,a.trans (bubble_perm _ _ _),by rw[show k+(f+1)=k+1+f by omega];exact b⟩
theorem sort_ok (n:Nat)(h1:1<=n):∃q,ev (lt_ key) (kas_sort n)=q/\q.Perm (List.range n).toArray/\Sr key q n:=by
 unfold kas_sort
 rw[ev_bind]
 have hz:(List.range n).toArray.size=n:=by simp
 obtain⟨m,q,e,a,b,c,d⟩:=count_ok (key:=key) (p:=(List.range n).toArray) h1 (by omega)
 rw[e]
 dsimp only
 have hq:q.size=n:=by rw[a.size_eq,hz]
 by_cases hm:m<n
 . rw[if_pos hm]
   obtain⟨r,e2,a2,b2⟩:=bin_ok (key:=key) (n-max m 1) q (max m 1) (by omega) (by rw[show max m 1=m by omega];exact d)
   exact⟨r,e2,a2.trans a,by rw[show max m 1+(n-max m 1)=n by omega] at b2;exact b2⟩
 . rw[if_neg hm]
   have:m=n:=by omega
   subst this
   exact⟨q,rfl,a,d⟩
end
end SortT
namespace SortT
open PySem.W PyProof.Rows
def WinP {α:Type}(n:Nat)(R:α->Prop):KasT α->Prop
 | .ret a=>R a
 | .ask i j k=>i<n/\j<n/\∀b,WinP n R (k b)
theorem WinP.bind {α β:Type}{n:Nat}{R:α->Prop}{R':β->Prop}{f:α->KasT β}(hf:∀a,R a->WinP n R' (f a)):∀(t:KasT α),WinP n R t->WinP n R' (t.bind f)
 | .ret a,h=>hf a h
 | .ask _ _ k,h=>⟨h.1,h.2.1,fun b=>WinP.bind hf (k b) (h.2.2 b)⟩
def Bd (n:Nat)(p:Array Nat):Prop:=∀i,p.getD i 0<n
theorem Bd.perm {n:Nat}{p q:Array Nat}(h:Bd n q)(hp:p.Perm q):Bd n p:=fun i=>by
 have h0:0<n:=Nat.lt_of_le_of_lt (Nat.zero_le _) (h 0)
 by_cases hi:i<p.size
 . have e:p.getD i 0=p[i]:=by simp[Array.getD,hi]
   rw[e]
   have hm:p[i]∈q.toList:=(Array.perm_iff_toList_perm.mp hp).mem_iff.mp (by simp)
   obtain⟨j,hj,ej⟩:=List.getElem_of_mem hm
   have hj':j<q.size:=by simpa using hj
   have:=h j
   rw[show q.getD j 0=q[j] by simp[Array.getD,hj']] at this
   rw[<-ej]
   simpa using this
 . have e:p.getD i 0=0:=by simp[Array.getD,hi]
   rw[e];exact h0
theorem asc_win {n:Nat}{p:Array Nat}(hp:Bd n p):∀f m,WinP n (fun _=>True) (kas_asc p f m)
 | 0,_=>trivial
 | f+1,m=>⟨hp _,hp _,fun b=>by
  cases b with
  | true=>exact trivial
  | false=>exact asc_win hp f (m+1)⟩
theorem desc_win {n:Nat}:∀(f:Nat)(p:Array Nat)(m q:Nat),Bd n p->WinP n (fun r=>Bd n r.1) (kas_desc f p m q)
 | 0,_,_,_,hp=>hp
 | f+1,p,m,q,hp=>⟨hp _,hp _,fun b=>by
  cases b with
  | true=>
   show WinP n _ (if q > 0 then kas_desc f (kas_rev p (m-(q+1)) m) (m+1) 0 else kas_desc f p (m+1) 0)
   split
   . exact desc_win f _ _ _ (hp.perm (rev_perm _ _ _))
   . exact desc_win f _ _ _ hp
  | false=>
   refine⟨hp _,hp _,fun d=>?_⟩
   cases d with
   | true=>exact hp
   | false=>exact desc_win f _ _ _ hp⟩
theorem tail3_win {n m nrem:Nat}{p:Array Nat}(hp:Bd n p):WinP n (fun r=>Bd n r.2) (kas_tail3 m nrem p):=by
 unfold kas_tail3
 exact WinP.bind (R:=fun _=>True) (R':=fun r=>Bd n r.2) (f:=fun k=>KasT.ret (k,kas_rev p 0 m)) (fun a _=>hp.perm (rev_perm p 0 m)) _ (asc_win (hp.perm (rev_perm p 0 m)) _ _)
theorem descPart_win {n m nrem:Nat}{p:Array Nat}(hp:Bd n p):WinP n (fun r=>Bd n r.2) (kas_descPart m nrem p):=
 WinP.bind (fun r hr=>by
  split
  . exact tail3_win (hr.perm (rev_perm _ _ _))
  . exact tail3_win hr) _ (desc_win _ _ _ _ hp)
theorem count_win {n nrem:Nat}{p:Array Nat}(hp:Bd n p):WinP n (fun r=>Bd n r.2) (kas_count nrem p):=
 WinP.bind (fun r _=>by
  split
  . exact hp
  . split
    . refine⟨hp _,hp _,fun b=>?_⟩
      cases b with
      | true=>exact hp
      | false=>exact descPart_win (hp.perm (rev_perm _ _ _))
    . exact descPart_win hp) _ (asc_win hp _ _)
theorem place_win {n k:Nat}{p:Array Nat}(hp:Bd n p):∀f l r,WinP n (fun _=>True) (kas_place p k f l r)
 | 0,_,_=>trivial
 | f+1,l,r=>by
  unfold kas_place
  split
  . exact trivial
  . refine⟨hp _,hp _,fun b=>?_⟩
    cases b with
    | true=>exact place_win hp f _ _
    | false=>exact place_win hp f _ _
theorem bin_win {n:Nat}:∀(f:Nat)(p:Array Nat)(k:Nat),Bd n p->WinP n (fun _=>True) (kas_bin f p k)
 | 0,_,_,_=>trivial
 | f+1,p,k,hp=>WinP.bind (fun l _=>bin_win f _ _ (hp.perm (bubble_perm _ _ _))) _ (place_win hp _ _ _)
theorem sort_win {n:Nat}(h:0<n):WinP n (fun _=>True) (kas_sort n):=
 WinP.bind (fun r hr=>by
  split
  . exact bin_win _ _ _ hr
  . exact trivial) _ (count_win fun i=>by
    by_cases hi:i<n
    . simp[Array.getD,hi]
    . simp[Array.getD,hi];exact h)
end SortT
namespace SortT
open PySem PySem.W PySem.Calls PyProof.Rows
theorem wp_ev {α:Type}{cmp:Nat->Nat->(Bool->Shared->Prop)->Shared->Prop}{lt:Nat->Nat->Bool}{n:Nat}{s:Shared}(hc:∀i j C,i<n->j<n->C (lt i j) s->cmp i j C s){R:α->Prop}{Q:α->Shared->Prop} :
 ∀t:KasT α,WinP n R t->Q (ev lt t) s->t.kasWp cmp Q s
 | .ret _,_,h=>h
 | .ask i j k,w,h=>hc i j _ w.1 w.2.1 (wp_ev hc (k (lt i j)) (w.2.2 _) h)
section
variable {prog:Program}{w:World}{A:Around}{E:Value->Shared->Prop}{s:Shared}
structure Put {O:KeyOrd}(key:Nat->O.α)(n:Nat)(out:List Nat):Prop where
 perm:out.Perm (List.range n)
 rise:∀(i j a b:Nat),i<=j->out[i]? = some a->out[j]? = some b->O.kle (key a) (key b)
theorem put_of {O:KeyOrd}{key:Nat->O.α}{n:Nat}{q:Array Nat}(hp:q.Perm (List.range n).toArray)(hs:Sr key q n):Put key n q.toList:=by
 have hl:q.toList.Perm (List.range n):=Array.perm_iff_toList_perm.mp hp
 refine⟨hl,fun i j a b hij ha hb=>?_⟩
 have hz:q.size=n:=by have:=hp.size_eq;simpa using this
 have hj:j<q.toList.length:=(List.getElem?_eq_some_iff.mp hb).1
 have hj':j<n:=by rw[<-hz];simpa using hj
 have h:=hs i j hij hj'
 have ga:q.getD i 0=a:=by
  rw[Array.getD_eq_getD_getElem?,<-Array.getElem?_toList,ha];rfl
 have gb:q.getD j 0=b:=by
  rw[Array.getD_eq_getD_getElem?,<-Array.getElem?_toList,hb];rfl
 unfold kk at h
 rw[ga,gb] at h
 exact h
structure Asks (prog:Program)(w:World)(A:Around)(s:Shared)(a:Addr)(vs:List Value){O:KeyOrd}(key:Nat->O.α)(κ:SortKind):Prop where
 kind:∀(h':Heap)(Q:SortKind->Shared->Prop)(E:Value->Shared->Prop),(∀b o,b≠a->s.heap.get? b=some o->h'.get? b=some o)->Q κ { s with heap:=h' }->wpAny (model prog w) A (keyKind' vs.toArray) Q E { s with heap:=h' }
 less:∀(h':Heap)(i j:Nat)(Q:Bool->Shared->Prop)(E:Value->Shared->Prop),(∀b o,b≠a->s.heap.get? b=some o->h'.get? b=some o)->i<vs.length->j<vs.length->Q (O.blt (key i) (key j)) { s with heap:=h' } ->
  wpAny (model prog w) A (keyLt' κ (vs.getD i Value.none) (vs.getD j Value.none)) Q E { s with heap:=h' }
theorem list_sort {a:Addr}{vs:List Value}{n:Nat}{P:PySem.Fin->Shared->Prop}{O:KeyOrd}{key:Nat->O.α}{κ:SortKind}(ho:s.heap.get? a=some (seqObj "list" vs.toArray n)) (h64:vs.length<64)
 (ask:2<=vs.length->Asks prog w A s a vs key κ)
 (h:∀out:List Nat,Put key vs.length out->P (.done (.ret .none)) { s with heap:=sortedHeap s.heap a vs (out.map fun i=>vs.getD i Value.none).toArray }) :
 wpAny (model prog w) A (Builtin.«list.sort» ⟨[.ref a],[]⟩) P E s:=by
 rw[list_sort_plain]
 have ha:a<s.heap.objs.size:=Heap.lt_size ho
 refine wpAny_bind (listItems_at ho rfl ?_)
 refine wpAny_bind (listUpdate_at ho rfl ?_ (by rw[List.size_toArray,sizeLine_eq];omega) (Nat.zero_le _))
 obtain⟨e1,ho1⟩:∃e1,(s.heap.update a (Obj.mapSeq fun _=>#[])).get? a=some (seqObj "list" #[] e1):=⟨_,get?_update_seq ho (fun _=>#[])⟩
 refine wpAny_bind (seqEpoch_at ho1 rfl ?_)
 refine wpAny_bind (wpAny_newTuple ?_ (by show vs.length<=_;rw[sizeLine_eq];omega))
 refine wpAny_bind (wpAny_newList ?_ (Nat.zero_le _))
 refine wpAny_holding ?_
 have ho6:(((s.heap.update a (Obj.mapSeq fun _=>#[])).push (seqObj "tuple" vs.toArray 0)).push (seqObj "list" #[] 0)).get? a=some (seqObj "list" #[] e1):=by
  rw[Heap.get?_push_ne _ _ _ (by rw[size_push',Heap.size_update];exact Nat.ne_of_lt (Nat.lt_succ_of_lt ha)),Heap.get?_push_ne _ _ _ (by rw[Heap.size_update];exact Nat.ne_of_lt ha)]
  exact ho1
 have keep:∀b o,b≠a->s.heap.get? b=some o->(((s.heap.update a (Obj.mapSeq fun _=>#[])).push (seqObj "tuple" vs.toArray 0)).push (seqObj "list" #[] 0)).get? b=some o:=fun b o hb e=>by
  refine Heap.get?_push_of_some _ (Heap.get?_push_of_some _ ?_)
  rw[Heap.get?_update_ne _ _ _ _ hb]
  exact e
 show wpAny (model prog w) A _ P E { s with heap:=((s.heap.update a (Obj.mapSeq fun _=>#[])).push (seqObj "tuple" vs.toArray 0)).push (seqObj "list" #[] 0) }
 dsimp only
 by_cases h2:vs.toArray.size<2
 . rw[if_pos h2,if_pos h2]
   refine wpAny_bind (wpAny_pure ?_)
   rw[StateT.run_pure]
   refine wpAny_bind (wpAny_pure ?_)
   dsimp only
   refine wpAny_bind (seqEpoch_at ho6 rfl ?_)
   refine wpAny_bind (listUpdate_at ho6 rfl ?_ (Nat.zero_le _) (by rw[Array.size_map];show (pairsOf vs).size<=_;rw[pairsOf_size,sizeLine_eq];omega))
   simp only[bne_self_eq_false,Bool.false_eq_true,if_false]
   refine wpAny_pure ?_
   have hlen:vs.length<2:=by simpa using h2
   have hout:(arrOf (SortSt.mk' general' (vs.toArray.zip vs.toArray) #[] 7 none)).map (·.2)=((List.range vs.length).map fun i=>vs.getD i Value.none).toArray:=by
    show (vs.toArray.zip vs.toArray).map (·.2)=_
    match vs,hlen with
    | [],_=>simp
    | [v],_=>simp
    | _::_::_,h=>exfalso;simp only[List.length_cons] at h;omega
   have fin:=h (List.range vs.length) ⟨.refl _,fun i j x y hij hx hy=>by
    have hj:j<(List.range vs.length).length:=(List.getElem?_eq_some_iff.mp hy).1
    rw[List.length_range] at hj
    have e:i=j:=by omega
    subst e
    rw[hx] at hy
    cases hy
    exact KeyOrd.kle_refl _⟩
   rw[<-hout] at fin
   exact fin
 . rw[if_neg h2,if_neg h2]
   have h2':2<=vs.length:=by
    have:¬ vs.length<2:=by simpa using h2
    omega
   have K:=ask h2'
   refine wpAny_bind (K.kind _ _ _ keep ?_)
   obtain⟨q,eq,hp,hs⟩:=sort_ok (key:=key) vs.length (by omega)
   have run:(kas_sort vs.length).kasWp (kas_ask prog w A κ vs) (fun p s'=>p=q/\s'={ s with heap:=((s.heap.update a (Obj.mapSeq fun _=>#[])).push (seqObj "tuple" vs.toArray 0)).push (seqObj "list" #[] 0) })
    { s with heap:=((s.heap.update a (Obj.mapSeq fun _=>#[])).push (seqObj "tuple" vs.toArray 0)).push (seqObj "list" #[] 0) }:=
    wp_ev (lt:=lt_ key) (n:=vs.length) (fun i j C hi hj hC=>K.less _ i j C _ keep hi hj hC) _ (sort_win (by omega)) ⟨eq,rfl⟩
   refine wpAny_bind (wpAny_mono (kat_run (ks:=vs) (vs:=vs) (Q:=fun st' s'=>∃p:Array Nat,p.size=vs.length/\arrOf st'=p.map (kas_item (vs.toArray.zip vs.toArray))/\failedOf st'=none/\p=q/\s'={ s with heap:=((s.heap.update a (Obj.mapSeq fun _=>#[])).push (seqObj "tuple" vs.toArray 0)).push (seqObj "list" #[] 0) })
    rfl h2' h64 (fun p' st' s' a1 a2 a3 a4=>⟨p',a1,a2,a3,a4⟩) run) ?_ fun _ _ e=>e)
   rintro ⟨⟨⟩,st'⟩ s' ⟨p,hsz,har,hf,rfl,rfl⟩
   dsimp only
   refine wpAny_bind (seqEpoch_at ho6 rfl ?_)
   refine wpAny_bind (listUpdate_at ho6 rfl ?_ (Nat.zero_le _) (by rw[Array.size_map,har,Array.size_map,hsz,sizeLine_eq];omega))
   rw[hf]
   simp only[bne_self_eq_false,Bool.false_eq_true,if_false]
   refine wpAny_pure ?_
   have hout:=kat_snds (ks:=vs) (vs:=vs) rfl har
   have fin:=h p.toList (put_of hp hs)
   rw[<-hout] at fin
   exact fin
theorem sorted_list {l:Addr}{vs:List Value}{Q:Value->Shared->Prop}{O:KeyOrd}{key:Nat->O.α}{κ:SortKind}(hl:s.heap.IsList l vs.toArray)(h64:vs.length<64)
 (ask:2<=vs.length->∀(s':Shared)(a:Addr),(∀b o,s.heap.get? b=some o->b≠a)->(∀b o,s.heap.get? b=some o->s'.heap.get? b=some o)->Asks prog w A.in1.in1 s' a vs key κ)
 (h:∀(D:Addr)(h':Heap)(out:List Nat)(c:Nat),Put key vs.length out->s.heap.objs.size<=D->(∀b o,s.heap.get? b=some o->h'.get? b=some o) ->
  h'.get? D=some (seqObj "list" (out.map fun i=>vs.getD i Value.none).toArray c)->Q (.ref D) { s with heap:=h' }) :
 wpAny (model prog w) A (call (.builtin "sorted") [.ref l]) Q E s:=by
 refine Calls.call_function_entry kind_sorted plain_sorted entry_sorted (args_sorted1 _) ?_
 unfold Builtin.«sorted»
 refine wpAny_bind (m:=checkCount "sorted" 1 1 _) (wpAny_pure ?_)
 refine wpAny_bind (collect_list hl ?_ (by rw[sizeLine_eq];omega))
 refine wpAny_bind (wpAny_newList ?_ (by rw[sizeLine_eq];omega))
 have hsz:((s.heap.push (seqObj "list" #[] 0)).update s.heap.objs.size (Obj.mapSeq (· ++ vs.toArray))).objs.size=s.heap.objs.size+1:=by
  rw[Heap.size_update,size_push']
 have hoL:(((s.heap.push (seqObj "list" #[] 0)).update s.heap.objs.size (Obj.mapSeq (· ++ vs.toArray))).push (seqObj "list" vs.toArray 0)).get? (s.heap.objs.size+1)=some (seqObj "list" vs.toArray 0):=by
  rw[<-hsz];exact Heap.get?_push_size _ rfl
 have keep:∀b o,s.heap.get? b=some o->(((s.heap.push (seqObj "list" #[] 0)).update s.heap.objs.size (Obj.mapSeq (· ++ vs.toArray))).push (seqObj "list" vs.toArray 0)).get? b=some o:=fun b o q=>by
  have hlt:b<s.heap.objs.size:=Heap.lt_size q
  rw[Heap.get?_push_ne _ _ _ (by rw[hsz];exact Nat.ne_of_lt (Nat.lt_succ_of_lt hlt)),Heap.get?_update_ne _ _ _ _ (Nat.ne_of_lt hlt),Heap.get?_push_ne _ _ _ (Nat.ne_of_lt hlt)]
  exact q
 show wpAny _ _ _ _ _ { s with heap:=((s.heap.push (seqObj "list" #[] 0)).update s.heap.objs.size (Obj.mapSeq (· ++ vs.toArray))).push (seqObj "list" vs.toArray 0) }
 rw[hsz]
 refine wpAny_bind (wpAny_holding (wpAny_call_entry slot_list_sort ⟨_,hoL,rfl⟩ entry_list_sort (list_sort (O:=O) (key:=key) (κ:=κ) hoL h64 (fun h2=>ask h2 _ _ (fun b o e=>Nat.ne_of_lt (Nat.lt_succ_of_lt (Heap.lt_size e))) keep) fun out hp=>⟨_,rfl,?_⟩) (args_list_sort _)))
 refine wpAny_pure ⟨_,rfl,?_⟩
 obtain⟨c,hc⟩:=sortedAll_at s.heap vs (out.map fun i=>vs.getD i Value.none).toArray
 exact h _ _ out c hp (Nat.le_succ _) (fun b o e=>sortedAll_old e) hc
end
end SortT
namespace DRaw
open PySem PySem.W PySem.Calls PyProof.Rows
def At (h:Heap)(d:Addr)(es:Array DictEntry)(ep:Nat):Prop:=∃o,h.get? d=some o/\o.ExactDict/\o.data = .dict es ep
theorem At.keep {h h':Heap}{d:Addr}{es:Array DictEntry}{ep:Nat}(x:At h d es ep)(k:∀o,h.get? d=some o->h'.get? d=some o):At h' d es ep:=
 let ⟨o,ho,r⟩:=x;⟨o,k o ho,r⟩
theorem At.lt {h:Heap}{d:Addr}{es:Array DictEntry}{ep:Nat}(x:At h d es ep):d<h.objs.size:=let ⟨_,ho,_⟩:=x;Heap.lt_size ho
theorem At.typeIs {s:Shared}{d:Addr}{es:Array DictEntry}{ep:Nat}(x:At s.heap d es ep):s.TypeIs (.ref d) "dict" := let ⟨o,ho,hc,_⟩:=x;⟨o,ho,hc.1⟩
section
variable {prog:Program}{w:World}{A:Around}{E:Value->Shared->Prop}{s:Shared}{it d:Addr}{es:Array DictEntry}{i ep:Nat}
theorem iter {Q:Value->Shared->Prop}(hd:(d==sysModules)=false)(hm:At s.heap d es ep)
 (hQ:Q (.ref s.heap.objs.size) { s with heap:=s.heap.push { cls:=.type "dict_keyiterator",data:=.fields #[.ref d,.int 0 0,.int es.size 0,.int ep 0] } }) :
 wpAny (model prog w) A (pyIter (.ref d)) Q E s:=by
 obtain⟨o,ho,hc,hdat⟩:=id hm
 have hT:=hm.typeIs
 refine wpAny_pyIter_slot hT F.slot_dict_iter (wpAny_call_entry F.slot_dict_iter hT F.entry_dict_iter ?_ (F.args_dict_iter_1 _))
 unfold Builtin.«dict.__iter__»
 refine wpAny_bind ?_
 unfold Builtin.Dict.dictSlotNone
 refine wpAny_bind (wpAny_notOrdered_dict hT ?_)
 show wpAny _ _ (pure (Value.ref d)) _ _ s
 refine wpAny_pure ?_
 show wpAny _ _ (Builtin.Dict.showsAll d >>= _) _ _ s
 unfold Builtin.Dict.showsAll
 rw[if_neg (by rw[hd];exact Bool.false_ne_true)]
 refine wpAny_bind (wpAny_pure ?_)
 refine wpAny_bind (wpAny_dictEntries ho hdat ?_)
 refine wpAny_bind (wpAny_dictEpoch ho hdat ?_)
 refine wpAny_bind (wpAny_newObj_type (wpAny_pure ⟨_,rfl, "dict_keyiterator",_,⟨_,Heap.get?_push_size _ rfl,rfl⟩,F.slot_dict_keyiterator_next.lookup,?_⟩))
 simpa [rawInt] using hQ
theorem next {Q:Option Value->Shared->Prop}(hit:s.heap.IsKeyIter it d i es.size ep)(hm:At s.heap d es ep)(hlt':i<es.size)
 (hQ:∀h',h'.IsKeyIter it d (i+1) es.size ep->Heap.SameBut it s.heap h'->Q (some es[i].key) { s with heap:=h' }):wpAny (model prog w) A (pyNext (.ref it)) Q E s:=by
 obtain⟨o,ho,hc,hd⟩:=id hit
 obtain⟨od,hod,hcd,hdd⟩:=id hm
 unfold pyNext
 refine wpAny_bind (wpAny_attempt (wpAny_callSpecial?_slot (name:=Str.ofString "__next__") hit.typeIs F.slot_dict_keyiterator_next
  (wpAny_call_entry F.slot_dict_keyiterator_next hit.typeIs F.entry_dict_keyiterator_next ?_ (F.args_dict_keyiterator_next_1 _))))
 refine wpAny_bind (wpAny_pure ?_)
 refine wpAny_bind ?_
 refine wpAny_bind ?_
 first | refine wpAny_bind (wpAny_typeNameOfWhole_keyiter hit.typeIs (wpAny_pure ?_)) | refine wpAny_bind (wpAny_typeNameOf_keyiter hit.typeIs (wpAny_pure ?_))
 refine wpAny_bind (wpAny_fieldsOf ho hd ?_)
 have hown:Builtin.Dict_items.ownsTuple "dict_keyiterator" = false:=by decide
 simp only[hown,Bool.false_eq_true,if_false]
 show wpAny _ _ (if (Value.ref d==Value.none)=true then _ else _) _ _ s
 rw[if_neg (show ¬ ((Value.ref d==Value.none)=true) from Bool.false_ne_true)]
 refine wpAny_bind (wpAny_pure ?_)
 refine wpAny_bind (wpAny_dictEntries hod hdd ?_)
 rw[if_neg (by simp)]
 refine wpAny_bind (wpAny_pure ?_)
 refine wpAny_bind (wpAny_dictEpoch hod hdd ?_)
 rw[if_neg (by simp)]
 refine wpAny_pure ?_
 simp only[show ¬ ((i:Int)<0) from by omega,if_false,Int.toNat_natCast,Array.getElem?_eq_getElem hlt']
 refine wpAny_bind ?_
 first | refine wpAny_bind (wpAny_typeNameOfWhole_keyiter hit.typeIs (wpAny_pure ?_)) | refine wpAny_bind (wpAny_typeNameOf_keyiter hit.typeIs (wpAny_pure ?_))
 refine wpAny_bind (wpAny_isOneOf_keyiter hit.typeIs ?_)
 show wpAny _ _ (setField (.ref it) 1 (rawInt ((i:Int)+1)) >>= _) _ _ s
 refine wpAny_bind (wpAny_setField ho hd (by simp) ?_)
 have hit':(s.heap.update it (Obj.mapFields (·.setIfInBounds 1 (rawInt ((i:Int)+1))))).IsKeyIter it d (i+1) es.size ep:=
  ⟨_,Heap.get?_update_self _ ho (Obj.isFreed_of_fields (Obj.data_mapFields hd _)),(Obj.cls_mapFields ..).trans hc,by rw[Obj.data_mapFields hd];simp[rawInt]⟩
 refine wpAny_bind (wpAny_holding ?_)
 refine wpAny_bind (wpAny_isOneOf_keyiter (s:={ s with heap:=s.heap.update it (Obj.mapFields (·.setIfInBounds 1 (rawInt ((i:Int)+1)))) }) hit'.typeIs ?_)
 show wpAny _ _ (pure es[i].key) _ _ _
 exact wpAny_pure (wpAny_pure ⟨_,rfl,wpAny_pure (hQ _ hit' (Heap.SameBut.update ..))⟩)
theorem stop {Q:Option Value->Shared->Prop}(hh:A.handled=none)(hit:s.heap.IsKeyIter it d i es.size ep)(hm:At s.heap d es ep)(hge:es.size<=i)
 (hQ:∀h',Heap.ExtBut it s.heap h'->Q none { s with heap:=h' }):wpAny (model prog w) A (pyNext (.ref it)) Q E s:=by
 obtain⟨o,ho,hc,hd⟩:=id hit
 obtain⟨od,hod,hcd,hdd⟩:=id hm
 unfold pyNext
 refine wpAny_bind (wpAny_attempt (wpAny_callSpecial?_slot (name:=Str.ofString "__next__") hit.typeIs F.slot_dict_keyiterator_next
  (wpAny_call_entry F.slot_dict_keyiterator_next hit.typeIs F.entry_dict_keyiterator_next ?_ (F.args_dict_keyiterator_next_1 _))))
 refine wpAny_bind (wpAny_pure ?_)
 refine wpAny_bind ?_
 refine wpAny_bind ?_
 first | refine wpAny_bind (wpAny_typeNameOfWhole_keyiter hit.typeIs (wpAny_pure ?_)) | refine wpAny_bind (wpAny_typeNameOf_keyiter hit.typeIs (wpAny_pure ?_))
 refine wpAny_bind (wpAny_fieldsOf ho hd ?_)
 have hown:Builtin.Dict_items.ownsTuple "dict_keyiterator" = false:=by decide
 simp only[hown,Bool.false_eq_true,if_false]
 show wpAny _ _ (if (Value.ref d==Value.none)=true then _ else _) _ _ s
 rw[if_neg (show ¬ ((Value.ref d==Value.none)=true) from Bool.false_ne_true)]
 refine wpAny_bind (wpAny_pure ?_)
 refine wpAny_bind (wpAny_dictEntries hod hdd ?_)
 rw[if_neg (by simp)]
 refine wpAny_bind (wpAny_pure ?_)
 refine wpAny_bind (wpAny_dictEpoch hod hdd ?_)
 rw[if_neg (by simp)]
 refine wpAny_pure ?_
 simp only[show ¬ ((i:Int)<0) from by omega,if_false,Int.toNat_natCast,Array.getElem?_eq_none hge]
 refine wpAny_bind ?_
 first | refine wpAny_bind (wpAny_typeNameOfWhole_keyiter hit.typeIs (wpAny_pure ?_)) | refine wpAny_bind (wpAny_typeNameOf_keyiter hit.typeIs (wpAny_pure ?_))
 show wpAny _ _ (setField (.ref it) 0 .none >>= _) _ _ s
 refine wpAny_bind (wpAny_setField ho hd (by simp) ?_)
 show wpAny _ _ (newExc (.type "StopIteration") [] >>= _) _ _ _
 refine wpAny_bind ?_
 simp only[newExc,newTuple]
 refine wpAny_bind (wpAny_newObj_type ?_ (by size_fits))
 refine wpAny_bind (m:=firstArgMember _ _) (wpAny_of_eq (a:=Value.none) (by first | rfl | (simp only[firstArgMember];rfl)) ?_)
 refine wpAny_newObj_type ?_ (by size_fits)
 simp only[raiseNew]
 refine wpAny_bind (wpAny_handled ?_)
 rw[show A.in1.handled=none from hh]
 refine wpAny_bind (wpAny_pure (wpAny_throw ?_))
 refine wpAny_bind (wpAny_isInstance (T := "StopIteration") (b:=true) ⟨_,Heap.get?_push_size _ rfl,rfl⟩ isSubtype_stop ?_)
 exact wpAny_pure (hQ _ (((Heap.SameBut.update ..).extBut.push _).push _))
end
section
variable {prog:Program}{w:World}{A:Around}{d:Addr}{es:Array DictEntry}{ep:Nat}
theorem walks (hh:A.handled=none)(I:Addr)(hne:d≠I):Walks prog w A I [I,d] [I] es.size (fun i v=>∃e,es[i]? = some e/\v=e.key) (fun i h=>h.IsKeyIter I d i es.size ep/\At h d es ep) where
 sub:=fun b hb=>by simp at hb;simp[hb]
 frame:=fun _ _ _ st hk=>⟨st.1.at fun o e=>hk I (by simp) o e,st.2.keep fun o e=>hk d (by simp) o e⟩
 item:=fun i s Q E hi st hQ=>next st.1 st.2 hi fun h' hit' hs'=>
  hQ _ h' s.toks ⟨es[i],by simp[hi],rfl⟩ ⟨hit',st.2.keep fun o e=>hs'.extBut d o hne e⟩ fun b o hb e=>hs'.extBut b o (fun h=>hb (by simp[h])) e
 done:=fun s Q E st hQ=>stop hh st.1 st.2 (Nat.le_refl _) fun h' he'=>hQ h' s.toks fun b o hb e=>he' b o (fun h=>hb (by simp[h])) e
 self:=fun _ _ _ _ st hQ=>wpAny_pyIter_keyiter st.1 hQ
theorem src (lo:(d==sysModules)=false):KdlSrc prog w "dict" d d es.size (fun i v=>∃e,es[i]? = some e/\v=e.key) (fun h=>At h d es ep) where
 type:=fun _ hm=>hm.typeIs
 there:=fun _ hm=>⟨hm.lt,hm.lt⟩
 keep:=fun _ _ hm hk=>hm.keep fun o e=>hk d (.inl rfl) o e
 notList:=by decide
 notTuple:=by decide
 hint:=fun _ _ _ _ hm hq=>kdl_hint_dict hm.typeIs hq
 iter:=fun _ _ hh hm=>⟨_,_,(fun _ _ hq=>iter lo hm hq),walks hh _ (Nat.ne_of_lt hm.lt),⟨⟨_,Heap.get?_push_size _ rfl,rfl,rfl⟩,hm.keep fun o e=>Heap.get?_push_of_some _ e⟩⟩
end
end DRaw
namespace SortT
open PySem PySem.W PySem.Calls PyProof.Rows
theorem sorted_dict {prog:Program}{w:World}{A:Around}{E:Value->Shared->Prop}{s:Shared}{d:Addr}{es:Array DictEntry}{ep:Nat}{vs:List Value}{Q:Value->Shared->Prop}{O:KeyOrd}{key:Nat->O.α}{κ:SortKind}
 (hh:A.handled=none)(lo:(d==sysModules)=false)(hm:DRaw.At s.heap d es ep)(hvs:vs=es.toList.map (·.key))(h64:vs.length<64)
 (ask:2<=vs.length->∀(s':Shared)(a:Addr),(∀b o,s.heap.get? b=some o->b≠a)->(∀b o,s.heap.get? b=some o->s'.heap.get? b=some o)->Asks prog w A.in1.in1 s' a vs key κ)
 (h:∀(h1:Heap)(D:Addr)(h':Heap)(t':Nat)(out:List Nat)(c:Nat),Put key vs.length out->(∀b o,s.heap.get? b=some o->h1.get? b=some o)->h1.objs.size<=D->(∀b o,h1.get? b=some o->h'.get? b=some o) ->
  h'.get? D=some (seqObj "list" (out.map fun i=>vs.getD i Value.none).toArray c)->Q (.ref D) { s with heap:=h',toks:=t' }) :
 wpAny (model prog w) A (call (.builtin "sorted") [.ref d]) Q E s:=by
 have hlen:vs.length=es.size:=by rw[hvs];simp
 refine call_function_entry kind_sorted plain_sorted entry_sorted (args_sorted1 _) ?_
 unfold Builtin.«sorted»
 refine wpAny_bind (m:=checkCount "sorted" 1 1 _) (wpAny_pure ?_)
 refine wpAny_bind (kdu_collect (A:=A.in1) (DRaw.src (es:=es) (ep:=ep) lo) hh hm (by rw[sizeLine_eq];omega) fun h1 tk acc hk hacc=>?_)
 have el:acc.toList=vs:=by
  apply List.ext_getElem?
  intro j
  by_cases hj:j<es.size
  . have hz:j<acc.size:=by rw[hacc.1];exact hj
    obtain⟨e,he,hv⟩:=hacc.2 j acc[j] (by simp[hz])
    rw[Array.getElem?_toList,Array.getElem?_eq_getElem hz,hv,hvs,List.getElem?_map,Array.getElem?_toList,he]
    rfl
  . rw[List.getElem?_eq_none (by rw[Array.length_toList,hacc.1];omega),List.getElem?_eq_none (by omega)]
 rw[el]
 refine wpAny_bind (wpAny_newList ?_ (by rw[sizeLine_eq];omega))
 have hoL:(h1.push (seqObj "list" vs.toArray 0)).get? h1.objs.size=some (seqObj "list" vs.toArray 0):=Heap.get?_push_size _ rfl
 have keep1:∀b o,h1.get? b=some o->(h1.push (seqObj "list" vs.toArray 0)).get? b=some o:=fun b o q=>Heap.get?_push_of_some _ q
 refine wpAny_bind (wpAny_holding (wpAny_call_entry slot_list_sort ⟨_,hoL,rfl⟩ entry_list_sort (list_sort (O:=O) (key:=key) (κ:=κ) hoL h64
  (fun h2=>ask h2 _ _ (fun b o e=>Nat.ne_of_lt (Heap.lt_size (hk b o e))) fun b o e=>keep1 b o (hk b o e)) fun out hp=>⟨_,rfl,?_⟩) (args_list_sort _)))
 refine wpAny_pure ⟨_,rfl,?_⟩
 obtain⟨c,hc⟩:=sortedHeap_at (vs:=vs) (out:=(out.map fun i=>vs.getD i Value.none).toArray) hoL
 refine h h1 _ _ _ out c hp hk (Nat.le_refl _) (fun b o e=>?_) hc
 have hb:b<h1.objs.size:=Heap.lt_size e
 rw[sortedHeap_old (Nat.ne_of_lt hb) (by rw[Heap.size_push];exact Nat.lt_succ_of_lt hb)]
 exact keep1 b o e
end SortT
namespace L2
open PySem PySem.Spec PyProof.Rows
theorem lex_irrefl:∀a:List Int,HT.lexLt a a=false
 | []=>rfl
 | x::r=>by rw[HT.lexLt_cons,if_pos rfl];exact lex_irrefl r
theorem lex_trans:∀a b c:List Int,HT.lexLt a b=true->HT.lexLt b c=true->HT.lexLt a c=true
 | [],[],_,h,_=>by cases h
 | [],_::_,[],_,h=>by cases h
 | [],_::_,_::_,_,_=>rfl
 | _::_,[],_,h,_=>by cases h
 | _::_,_::_,[],_,h=>by cases h
 | x::a,y::b,z::c,h1,h2=>by
  rw[HT.lexLt_cons] at h1 h2 ⊢
  by_cases e1:x=y
  . subst e1
    rw[if_pos rfl] at h1
    by_cases e2:x=z
    . subst e2
      rw[if_pos rfl] at h2 ⊢
      exact lex_trans a b c h1 h2
    . rw[if_neg e2] at h2 ⊢;exact h2
  . rw[if_neg e1] at h1
    have l1:x<y:=of_decide_eq_true h1
    by_cases e2:y=z
    . subst e2;rw[if_neg e1];exact h1
    . rw[if_neg e2] at h2
      have l2:y<z:=of_decide_eq_true h2
      rw[if_neg (by omega)]
      exact decide_eq_true (by omega)
theorem lex_total:∀a b:List Int,HT.lexLt a b=false->HT.lexLt b a=false->a=b
 | [],[],_,_=>rfl
 | [],_::_,h,_=>by cases h
 | _::_,[],_,h=>by cases h
 | x::a,y::b,h1,h2=>by
  rw[HT.lexLt_cons] at h1 h2
  by_cases e:x=y
  . subst e
    rw[if_pos rfl] at h1 h2
    rw[lex_total a b h1 h2]
  . rw[if_neg e] at h1
    rw[if_neg (Ne.symm e)] at h2
    have l1:=of_decide_eq_false h1
    have l2:=of_decide_eq_false h2
    omega
theorem lex_neg (a b c:List Int)(h:HT.lexLt a c=true):HT.lexLt a b=true\/HT.lexLt b c=true:=by
 cases h1:HT.lexLt a b with
 | true=>exact .inl rfl
 | false=>
  cases h2:HT.lexLt b a with
  | true=>exact .inr (lex_trans b a c h2 h)
  | false=>rw[<-lex_total a b h1 h2];exact .inr h
def lexO:KeyOrd:=⟨List Int,HT.lexLt,lex_irrefl,lex_trans,lex_neg,lex_total⟩
def Rises (ms:List (List Int)):Prop:=ms.Pairwise fun a b=>HT.lexLt b a=false
def TupsAre (H:Hp):List V->List (List Int)->Prop
 | [],[]=>True
 | x::xs,k::ks=>(∃a,x = .ref a/\H a=some (.tup (k.map V.int))/\k≠[])/\TupsAre H xs ks
 | _,_=>False
theorem TupsAre.length {H:Hp}:∀{xs:List V}{ks:List (List Int)},TupsAre H xs ks->xs.length=ks.length
 | [],[],_=>rfl
 | [],_::_,h=>h.elim
 | _::_,[],h=>h.elim
 | _::_,_::_,h=>by rw[List.length_cons,List.length_cons,TupsAre.length h.2]
theorem TupsAre.get {H:Hp}:∀{xs:List V}{ks:List (List Int)}{i:Nat}{x:V},TupsAre H xs ks->xs[i]? = some x->∃a k,x = .ref a/\ks[i]? = some k/\H a=some (.tup (k.map V.int))/\k≠[]
 | [],_,_,_,_,h=>by simp at h
 | _::_,[],_,_,h,_=>h.elim
 | y::_,k::_,0,x,h,e=>by
  obtain⟨⟨a,h1,h2,h3⟩,_⟩:=h
  have e':y=x:=by simpa using e
  subst e'
  exact⟨a,k,h1,rfl,h2,h3⟩
 | _::_,_::_,i+1,x,h,e=>by
  obtain⟨a,k,h1,h2,h3⟩:=TupsAre.get (i:=i) h.2 (by simpa using e)
  exact⟨a,k,h1,by simpa using h2,h3⟩
theorem TupsAre.mk {H:Hp}:∀{xs:List V}{ks:List (List Int)},xs.length=ks.length->(∀(i:Nat)(x:V)(k:List Int),xs[i]? = some x->ks[i]? = some k->∃a,x=V.ref a/\H a=some (.tup (k.map V.int))/\k≠[])->TupsAre H xs ks
 | [],[],_,_=>trivial
 | [],_::_,e,_=>by simp at e
 | _::_,[],e,_=>by simp at e
 | x::xs,k::ks,e,h=>⟨h 0 x k rfl rfl,TupsAre.mk (by simpa using e) fun i x' k' h1 h2=>h (i+1) x' k' (by simpa using h1) (by simpa using h2)⟩
theorem TupsAre.keep {H H':Hp}{xs:List V}{ks:List (List Int)}(h:TupsAre H xs ks)(k:∀b ys,H b=some (.tup ys)->H' b=some (.tup ys)):TupsAre H' xs ks:=
 TupsAre.mk h.length fun i x c h1 h2=>by
  obtain⟨a,c',e1,e2,e3,e4⟩:=h.get h1
  rw[h2] at e2
  cases e2
  exact⟨a,e1,k a _ e3,e4⟩
theorem TupsAre.snoc {H:Hp}:∀{xs:List V}{ks:List (List Int)}{x:V}{k:List Int},TupsAre H xs ks->(∃a,x = .ref a/\H a=some (.tup (k.map V.int))/\k≠[])->TupsAre H (xs++[x]) (ks++[k])
 | [],[],_,_,_,h=>⟨h,trivial⟩
 | [],_::_,_,_,t,_=>t.elim
 | _::_,[],_,_,t,_=>t.elim
 | _::_,_::_,_,_,t,h=>⟨t.1,TupsAre.snoc t.2 h⟩
section
variable {prog:Program}{w:World}{A:Around}{s:Shared}
theorem katLex_ints {fin:Bool}{Q:Bool->Shared->Prop}:∀(ns ms:List Int)(us ws:List Value)(i:Nat),IntsAre us ns->IntsAre ws ms->fin=decide (ns.length<ms.length)->Q (HT.lexLt ns ms) s ->
 PySem.W.KatLex prog w A true fin Q (us.zip ws) i s
 | [],[],_,_,_,.nil,.nil,e,q=>by subst e;exact q
 | [],_::_,_,_,_,.nil,.cons _ _ _,e,q=>by subst e;exact q
 | _::_,[],_,_,_,.cons _ _ _,.nil,e,q=>by subst e;exact q
 | n::ns,m::ms,_,_,i,.cons _ t hu,.cons _ u hw,e,q=>by
  rw[HT.lexLt_cons] at q
  refine PySem.W.kat_cons (wpAny_eqBool_int ?_)
  by_cases h:n=m
  . rw[if_pos h] at q
    rw[show (n==m)=true by simpa using h]
    exact PySem.W.kat_yes (katLex_ints ns ms _ _ (i+1) hu hw (by rw[e];simp) q)
  . rw[if_neg h] at q
    rw[show (n==m)=false by simpa using h]
    refine PySem.W.kat_no ?_
    cases i with
    | zero=>exact oneLt_int q
    | succ j=>exact PySem.W.kat_one _ _ (PyProof.Rows.lt_int q)
theorem asks_tups {X:Cx}{pins:List (Addr×Obj)}{σ:St}{H:Hp}{s s':Shared}{a:Addr}{ys:List V}{ks:List (List Int)}{vs:List Value}{A:Around}(I:Inv X pins σ H s)(T:TupsAre H ys ks)(r:Vals ys vs)(hne:0<vs.length)
 (fa:∀b o,s.heap.get? b=some o->b≠a)(kp:∀b o,s.heap.get? b=some o->s'.heap.get? b=some o):SortT.Asks X.prog X.w A s' a vs (O:=lexO) (fun i=>ks.getD i []) (tuples' true):=by
 have hl:=T.length
 have hv:=r.length
 have at_:∀(h':Heap),(∀b o,b≠a->s'.heap.get? b=some o->h'.get? b=some o)->∀i,i<vs.length->∃(p:Addr)(k:List Int)(us:List Value)(o:Obj)(n:Nat),vs[i]? = some (Value.ref p)/\ks[i]? = some k/\k≠[]/\IntsAre us k/\h'.get? p=some o/\o.cls = .type "tuple" /\ o.data = .seq us.toArray n:=fun h' kh i hi=>by
  have hy:i<ys.length:=by omega
  obtain⟨p,k,e1,e2,e3,e4⟩:=T.get (i:=i) (x:=ys[i]) (by simp[hy])
  obtain⟨u,hu,ru⟩:=r.get (i:=i) (x:=ys[i]) (by simp[hy])
  rw[e1] at ru
  cases (show u=Value.ref p from ru)
  obtain⟨_,its,rv,o,ho,hc,n,hd⟩:=I.hok p _ e3
  exact⟨p,k,its,o,n,hu,e2,e4,intsAre_of rv,kh p o (fa p o ho) (kp p o ho),hc,hd⟩
 refine⟨fun h' Q E kh q=>?_,fun h' i j Q E kh hi hj q=>?_⟩
 . -- all keys are tuples whose first items are ints
   have tups:∀(m:Nat),m<=vs.length->∃fs:List Value,PySem.W.KatTups h' (vs.drop (vs.length-m)) fs/\fs.length=m/\∀f∈fs,∃x t,f=Value.int x t:=by
    intro m
    induction m with
    | zero=>intro _;exact⟨[],by rw[Nat.sub_zero,List.drop_length];exact trivial,rfl,fun f hf=>by simp at hf⟩
    | succ m ih=>
     intro hm
     obtain⟨fs,t,e,hf⟩:=ih (by omega)
     obtain⟨p,k,us,o,n,hu,hk,hk0,hI,ho,hc,hd⟩:=at_ h' kh (vs.length-(m+1)) (by omega)
     have ed:vs.drop (vs.length-(m+1))=Value.ref p::vs.drop (vs.length-m):=by
      have hlt:vs.length-(m+1)<vs.length:=by omega
      rw[List.drop_eq_getElem_cons hlt,show vs.length-(m+1)+1=vs.length-m by omega]
      have:vs[vs.length-(m+1)]=Value.ref p:=by
       rw[List.getElem?_eq_getElem hlt] at hu
       exact Option.some.inj hu
      rw[this]
     cases hI with
     | nil=>exact absurd rfl hk0
     | cons x tx hI'=>
      refine⟨Value.int x tx::fs,by rw[ed];exact PySem.W.KatTups.cons ho hc hd rfl t,by rw[List.length_cons,e],fun f hf'=>?_⟩
      rcases List.mem_cons.mp hf' with rfl | hf'
      . exact⟨x,tx,rfl⟩
      . exact hf f hf'
   obtain⟨fs,t,e,hf⟩:=tups vs.length (Nat.le_refl _)
   rw[Nat.sub_self,List.drop_zero] at t
   refine PySem.W.kat_kind (T:=Value.type "int") t (by omega) (fun v hv=>?_) (by rfl) q
   obtain⟨x,tx,rfl⟩:=hf v hv
   exact PySem.W.Looks.of_pure rfl
 . obtain⟨p,k,us,o,n,hu,hk,_,hI,ho,hc,hd⟩:=at_ h' kh i hi
   obtain⟨p2,k2,us2,o2,n2,hu2,hk2,_,hI2,ho2,hc2,hd2⟩:=at_ h' kh j hj
   have e1:vs.getD i Value.none = .ref p:=by rw[List.getD_eq_getElem?_getD,hu];rfl
   have e2:vs.getD j Value.none = .ref p2:=by rw[List.getD_eq_getElem?_getD,hu2];rfl
   have g1:ks.getD i []=k:=by rw[List.getD_eq_getElem?_getD,hk];rfl
   have g2:ks.getD j []=k2:=by rw[List.getD_eq_getElem?_getD,hk2];rfl
   rw[e1,e2]
   refine PySem.W.kat_lt (s:={ s' with heap:=h' }) ho hd ho2 hd2 ?_
   have q':Q (HT.lexLt k k2) { s' with heap:=h' }:=by
    have:lexO.blt (ks.getD i []) (ks.getD j [])=HT.lexLt k k2:=by rw[g1,g2];rfl
    rw[<-this];exact q
   have l1:=hI.length
   have l2:=hI2.length
   exact katLex_ints k k2 us us2 0 hI hI2 (by simp only[List.size_toArray];rw[l1,l2]) q'
theorem put_tups {H:Hp}{ys:List V}{ks:List (List Int)}{vs:List Value}{out:List Nat}(T:TupsAre H ys ks)(r:Vals ys vs)(p:SortT.Put (O:=lexO) (fun i=>ks.getD i []) vs.length out) :
 ∃zs ms,TupsAre H zs ms/\ms.Perm ks/\Rises ms/\Vals zs (out.map fun i=>vs.getD i Value.none)/\zs.length=ys.length:=by
 have hl:=T.length
 have hv:=r.length
 have hb:∀i∈out,i<vs.length:=fun i hi=>List.mem_range.mp (p.perm.mem_iff.mp hi)
 refine⟨out.map fun i=>ys.getD i .non,out.map fun i=>ks.getD i [],TupsAre.mk (by rw[List.length_map,List.length_map]) fun j x k hx hk=>?_,?_,?_,?_,?_⟩
 . rw[List.getElem?_map] at hx hk
   cases e:out[j]? with
   | none=>rw[e] at hx;cases hx
   | some i=>
    rw[e] at hx hk
    have hi:=hb i (List.mem_of_getElem? e)
    have hy:i<ys.length:=by omega
    obtain⟨a,c,e1,e2,e3,e4⟩:=T.get (i:=i) (x:=ys[i]) (by simp[hy])
    have ex:ys.getD i .non=x:=Option.some.inj hx
    have ek:ks.getD i []=k:=Option.some.inj hk
    rw[List.getD_eq_getElem?_getD,List.getElem?_eq_getElem hy] at ex
    rw[List.getD_eq_getElem?_getD,e2] at ek
    have ex':ys[i]=x:=ex
    have ek':c=k:=ek
    subst ek'
    exact⟨a,by rw[<-ex'];exact e1,e3,e4⟩
 . have h1:=p.perm.map fun i=>ks.getD i []
   have h2:(List.range vs.length).map (fun i=>ks.getD i [])=ks:=by
    rw[show vs.length=ks.length by omega]
    apply List.ext_getElem?
    intro j
    rw[List.getElem?_map]
    by_cases hj:j<ks.length
    . rw[List.getElem?_range hj,List.getElem?_eq_getElem hj];simp[hj]
    . rw[List.getElem?_eq_none (by rw[List.length_range];omega),List.getElem?_eq_none (by omega)];rfl
   rw[h2] at h1
   exact h1
 . refine List.pairwise_iff_getElem.mpr fun i j hi hj hij=>?_
   rw[List.length_map] at hi hj
   have:=p.rise i j out[i] out[j] (Nat.le_of_lt hij) (by simp) (by simp)
   have h3:HT.lexLt (ks.getD out[j] []) (ks.getD out[i] [])=false:=this
   simpa using h3
 . have:∀l:List Nat,(∀i∈l,i<vs.length)->Vals (l.map fun i=>ys.getD i .non) (l.map fun i=>vs.getD i Value.none):=by
    intro l
    induction l with
    | nil=>intro _;exact .nil
    | cons i l ih=>
     intro h
     have hi:=h i List.mem_cons_self
     have hy:i<ys.length:=by omega
     obtain⟨u,hu,ru⟩:=r.get (i:=i) (x:=ys[i]) (by simp[hy])
     refine .cons ?_ (ih fun j hj=>h j (List.mem_cons_of_mem _ hj))
     show RelV (ys.getD i V.non) (vs.getD i Value.none)
     rw[List.getD_eq_getElem?_getD,List.getElem?_eq_getElem hy,List.getD_eq_getElem?_getD,hu]
     exact ru
   exact this out hb
 . rw[List.length_map,p.perm.length_eq,List.length_range];omega
theorem sorted_fin {X:Cx}{pins:List (Addr×Obj)}{σ:St}{H:Hp}{s:Shared}{h':Heap}{D:Addr}{c t':Nat}{zs:List V}{us:List Value}(I:Inv X pins σ H s)(hD:s.heap.objs.size<=D)(kp:∀b o,s.heap.get? b=some o->h'.get? b=some o)
 (ho:h'.get? D=some (seqObj "list" us.toArray c)) (r:Vals zs us)(hz:zs.length<=sizeLine):Inv X pins σ (upd H D (.lst zs)) { s with heap:=h',toks:=t' }:=
 I.laid kp hD (show ObjOk X.prog X.w _ _ _ (.lst zs) from ⟨hz,us,c,r,ho⟩)
end
section
variable {X:Cx}
theorem call_sorted:CallR X (.builtin "sorted") (fun xs H Q=>∃p ys ks,xs=[.ref p]/\SqL X.K H p ys/\TupsAre H ys ks/\ks.length<64 /\
 ∀l zs ms,H l=none->TupsAre H zs ms->ms.Perm ks->Rises ms->Q (.ref l) (upd H l (.lst zs))):=by
 intro pins s σ H xs us Q I r h
 obtain⟨p,ys,ks,rfl,hq,T,h64,q⟩:=h
 obtain⟨u,rfl,rx⟩:=vals1 r
 cases rx
 obtain⟨its,r',pl,hz⟩:=I.list hq
 have hl:=T.length
 have hv:=r'.length
 refine SortT.sorted_list (O:=lexO) (key:=fun i=>ks.getD i []) (κ:=tuples' true) pl.isList (by omega) (fun h2 s' a fa kp=>asks_tups I T r' (by omega) fa kp) fun D h' out c pt hD kp ho=>?_
 obtain⟨zs,ms,T2,hp,hr,rz,hlz⟩:=put_tups T r' pt
 exact⟨.ref D,_,sorted_fin (t':=s.toks) I hD kp ho rz (by omega),rfl,q D zs ms (I.hok.fresh hD) T2 hp hr⟩
theorem call_sortedD (hc:X.calm=true):CallR X (.builtin "sorted") (fun xs H Q=>∃p kvs ks,xs=[.ref p]/\H p=some (.dT kvs)/\kvs.map (·.1)=ks.map (List.map Sum.inl)/\(∀k∈ks,k≠[])/\ks.length<64 /\
 ∀l zs ms,H l=none->TupsAre H zs ms->ms.Perm ks->Rises ms->Q (.ref l) (upd H l (.lst zs))):=by
 intro pins s σ H xs us Q I r h
 obtain⟨p,kvs,ks,rfl,hd,hks,hk0,h64,q⟩:=h
 obtain⟨u,rfl,rx⟩:=vals1 r
 cases rx
 obtain⟨hz,lo,xs,rel,o,es,ep,ho,hx,hdat,hes,hnd⟩:=I.hok p _ hd
 have key:∀(kvs:List (List Key×V))(xs:List (List Key×Addr×Value))(ks:List (List Int)),KT H kvs xs->kvs.map (·.1)=ks.map (List.map Sum.inl)->(∀k∈ks,k≠[]) ->
  TupsAre H (xs.map fun q=>V.ref q.2.1) ks/\Vals (xs.map fun q=>V.ref q.2.1) ((xs.map (entryOfKey (tupleKind (mixKind X.prog X.w)))).map (·.key)):=by
  intro kvs xs ks rel
  induction rel generalizing ks with
  | nil=>
   intro e _
   cases ks with
   | nil=>exact⟨trivial,.nil⟩
   | cons k ks=>simp at e
  | cons hpq _ ih=>
   intro e h0
   cases ks with
   | nil=>simp at e
   | cons k ks=>
    simp only[List.map_cons,List.cons.injEq] at e
    obtain⟨T,V⟩:=ih ks e.2 fun c hc=>h0 c (List.mem_cons_of_mem _ hc)
    obtain⟨e1,e2,_⟩:=hpq
    refine⟨⟨⟨_,rfl,?_,h0 k List.mem_cons_self⟩,T⟩,.cons rfl V⟩
    rw[e2,e.1,List.map_map]
    rfl
 obtain⟨T,rv⟩:=key kvs xs ks rel hks hk0
 have hl:=T.length
 have hv:=rv.length
 have evs:(xs.map (entryOfKey (tupleKind (mixKind X.prog X.w)))).map (·.key)=es.toList.map (·.key):=by rw[hes]
 refine SortT.sorted_dict (O:=lexO) (key:=fun i=>ks.getD i []) (κ:=tuples' true) (vs:=(xs.map (entryOfKey (tupleKind (mixKind X.prog X.w)))).map (·.key)) (I.ok.hd hc) lo ⟨o,ho,hx,hdat⟩ evs (by omega) (fun h2 s' a fa kp=>asks_tups I T rv (by omega) fa kp) fun h1 D h' t' out c pt k1 hD k2 ho=>?_
 obtain⟨zs,ms,T2,hp,hr,rz,hlz⟩:=put_tups T rv pt
 have I1:Inv X pins σ H { s with heap:=h1,toks:=s.toks }:=I.kept k1
 refine⟨.ref D,_,sorted_fin (s:={ s with heap:=h1,toks:=s.toks }) (t':=t') I1 hD k2 ho rz ?_,rfl,q D zs ms (I1.hok.fresh hD) T2 hp hr⟩
 have:sizeLine=16777216:=rfl
 omega
end
end L2
namespace L2
open PySem PySem.Spec PyProof.Rows
mutual
inductive Shows (H:Hp):V->PyData->Prop
 | non:Shows H .non .none
 | bl (b:Bool):Shows H (.bl b) (.bool b)
 | int (i:Int):Shows H (.int i) (.int i)
 | str (x:Str):Shows H (.str x) (.str x)
 | tup {a:Addr}{xs:List V}{ds:List PyData}:H a=some (.tup xs)->ShowsAll H xs ds->Shows H (.ref a) (.tuple ds)
 | lst {a:Addr}{xs:List V}{ds:List PyData}:H a=some (.lst xs)->ShowsAll H xs ds->Shows H (.ref a) (.list ds)
inductive ShowsAll (H:Hp):List V->List PyData->Prop
 | nil:ShowsAll H [] []
 | cons {x:V}{xs:List V}{d:PyData}{ds:List PyData}:Shows H x d->ShowsAll H xs ds->ShowsAll H (x::xs) (d::ds)
end
section
variable {P:Program}{w:World}{H:Hp}{h:Heap}
mutual
theorem Shows.reads (ok:HOk P w H h):∀{x:V}{d:PyData},Shows H x d->∀{u:Value},RelV x u->∃as,Reads h u d as
 | _,_,.non,u,r=>by cases (show u=Value.none from r);exact⟨_,.none⟩
 | _,_,.bl b,u,r=>by cases (show u=Value.bool b from r);exact⟨_,.bool b⟩
 | _,_,.int i,u,r=>by obtain⟨t,rfl⟩:=r;exact⟨_,.int i t⟩
 | _,_,.str x,u,r=>by obtain⟨t,rfl⟩:=r;exact⟨_,.str x t⟩
 | _,_,.tup (a:=a) e s,u,r=>by
  cases (show u=Value.ref a from r)
  obtain⟨_,its,rv,o,ho,hc,n,hd⟩:=ok a _ e
  obtain⟨as,ra⟩:=ShowsAll.reads ok s rv
  exact⟨_,.tuple ho hc hd (by simpa using ra)⟩
 | _,_,.lst (a:=a) e s,u,r=>by
  cases (show u=Value.ref a from r)
  obtain⟨_,its,n,rv,ho⟩:=ok a _ e
  obtain⟨as,ra⟩:=ShowsAll.reads ok s rv
  exact⟨_,.list ho rfl rfl (by simpa using ra)⟩
theorem ShowsAll.reads (ok:HOk P w H h):∀{xs:List V}{ds:List PyData},ShowsAll H xs ds->∀{us:List Value},Vals xs us->∃as,ReadsAll h us ds as
 | _,_,.nil,us,r=>by cases r;exact⟨_,.nil⟩
 | _,_,.cons s t,us,r=>by
  cases r with
  | cons r1 r2=>
   obtain⟨a1,h1⟩:=Shows.reads ok s r1
   obtain⟨a2,h2⟩:=ShowsAll.reads ok t r2
   exact⟨_,.cons h1 h2⟩
end
end
structure Fn (n p:Nat)(d:PyData):Prop where
 wt:d.weight<=n
 dp:d.depth<=p
 cl:d.canLay0=true
 sh:d.intsShort 13=true
 sw:d.showable=true
theorem Fn.mono {n p n' p':Nat}{d:PyData}(h:Fn n p d)(hn:n<=n')(hp:p<=p'):Fn n' p' d:=⟨Nat.le_trans h.wt hn,Nat.le_trans h.dp hp,h.cl,h.sh,h.sw⟩
theorem fn_none:Fn 0 0 .none:=⟨Nat.le_refl _,Nat.le_refl _,rfl,rfl,rfl⟩
theorem fn_bool (b:Bool):Fn 0 0 (.bool b):=⟨Nat.le_refl _,Nat.le_refl _,rfl,rfl,rfl⟩
theorem log2_small {i:Int}(h:i.natAbs<1000000000):i.natAbs.log2<30:=by
 by_cases h0:i.natAbs=0
 . rw[h0];decide
 . exact (Nat.log2_lt h0).mpr (by omega)
theorem fn_int {i:Int}(h:i.natAbs<1000000000):Fn 30 0 (.int i):=by
 have hl:=log2_small h
 refine⟨?_,Nat.le_refl _,rfl,?_,?_⟩
 . simp only[PyData.weight]
   split <;> omega
 . simp only[PyData.intsShort,PyData.shown]
   refine decide_eq_true ?_
   have e:=int_text_length_le10 (a:=i) (k:=9) (by decide) (by simpa using h)
   have e2:(Str.ofString (toString i)).length=(toString i).length:=by
    rw[Str.ofString_eq_toList]
    show ((toString i).toList.map Char.toNat).toArray.size=_
    rw[List.size_toArray,List.length_map,String.length_toList]
   show (Str.ofString (toString i)).length<=13
   omega
 . simp only[PyData.showable]
   exact decide_eq_true (by omega)
theorem fn_all {n p:Nat}:∀{ds:List PyData},(∀d∈ds,Fn n p d)->PyData.weightAll ds<=ds.length*(n+1)/\PyData.depthAll ds<=p/\PyData.canLayAll0 ds=true/\PyData.intsShortAll 13 ds=true/\PyData.showableAll ds=true
 | [],_=>⟨by simp[PyData.weightAll],by simp[PyData.depthAll],by simp[PyData.canLayAll0],by simp[PyData.intsShortAll],by simp[PyData.showableAll]⟩
 | d::ds,h=>by
  obtain⟨a,b,c,e,f⟩:=fn_all (ds:=ds) fun x hx=>h x (List.mem_cons_of_mem _ hx)
  have g:=h d List.mem_cons_self
  refine⟨?_,?_,?_,?_,?_⟩
  . simp only[PyData.weightAll,List.length_cons]
    have:=g.wt
    rw[Nat.add_mul]
    omega
  . simp only[PyData.depthAll]
    have:=g.dp
    omega
  . simp only[PyData.canLayAll0,g.cl,c,Bool.and_self]
  . simp only[PyData.intsShortAll,g.sh,e,Bool.and_self]
  . simp only[PyData.showableAll,g.sw,f,Bool.and_self]
theorem fn_tup {n p L:Nat}{ds:List PyData}(h:∀d∈ds,Fn n p d)(hl:ds.length<=L):Fn (L*(n+1)) (p+1) (.tuple ds):=by
 obtain⟨a,b,c,e,f⟩:=fn_all h
 refine⟨?_,?_,?_,?_,?_⟩
 . simp only[PyData.weight]
   exact Nat.le_trans a (Nat.mul_le_mul_right _ hl)
 . simp only[PyData.depth];omega
 . simp only[PyData.canLay0];exact c
 . simp only[PyData.intsShort];exact e
 . simp only[PyData.showable];exact f
theorem Fn.len {n p:Nat}{d:PyData}(h:Fn n p d)(hn:n<=1048576)(hp:p<=60):d.shown.length<=sizeLine/\d.hasDict=false:=by
 have hl:PyData.layable0 d=true:=by
  show (PyData.canLay0 d && decide (PyData.depth d<=64) && decide (PyData.weight d<=2 ^ 20))=true
  rw[h.cl,decide_eq_true (show PyData.depth d<=64 by have:=h.dp;omega),decide_eq_true (show PyData.weight d<=2 ^ 20 by have:=h.wt;omega)]
  rfl
 have e:=shown_le13 hl h.sh
 have:sizeLine=16777216:=rfl
 exact⟨by omega,PyData.hasDict_of_layable hl⟩
section
variable {X:Cx}
theorem call_repr {k:Nat}(hr:Room k X.A):CallR X (.builtin "repr") (fun xs H Q=>∃x d,xs=[x]/\Shows H x d/\Fn 1048576 50 d/\Q (.str d.shown) H):=by
 intro pins s σ H xs us Q I r h
 obtain⟨x,d,rfl,sh,f,q⟩:=h
 obtain⟨u,rfl,rx⟩:=vals1 r
 obtain⟨hz,hnd⟩:=f.len (Nat.le_refl _) (by decide)
 have hu:=hr.units
 cases sh with
 | non=>
  cases (show u=Value.none from rx)
  exact PySem.P.repr_of_none ⟨.str _,H,I.tok _,⟨_,rfl⟩,by simpa only [PyData.shown] using q⟩
 | bl b=>
  cases (show u=Value.bool b from rx)
  exact PySem.P.repr_of_bool ⟨.str _,H,I.tok _,⟨_,rfl⟩,by simpa only [PyData.shown] using q⟩
 | int i=>
  obtain⟨t,rfl⟩:=rx
  exact PySem.P.repr_of_int (by have:=f.sw;simpa only [PyData.showable,decide_eq_true_eq] using this) ⟨.str _,H,I.tok _,⟨_,rfl⟩,by simpa only [PyData.shown] using q⟩
 | str z=>
  obtain⟨t,rfl⟩:=rx
  exact PySem.P.repr_of_str ⟨.str _,H,I.tok _,⟨_,rfl⟩,by simpa only [PyData.shown] using q⟩ (by simpa only [PyData.shown] using hz)
 | tup e al=>
  cases (show u=Value.ref _ from rx)
  obtain⟨as,rd⟩:=Shows.reads I.hok (.tup e al) (u:=.ref _) rfl
  exact repr_of_reads' rd f.sw (PyData.noDict_hsm hnd) hr.gd (by have:=f.dp;omega) (fun _ _ e=>e) (fun h' u tk hk=>⟨.str _,H,I.kept hk,⟨u,rfl⟩,q⟩) hz
 | lst e al=>
  cases (show u=Value.ref _ from rx)
  obtain⟨as,rd⟩:=Shows.reads I.hok (.lst e al) (u:=.ref _) rfl
  exact repr_of_reads' rd f.sw (PyData.noDict_hsm hnd) hr.gd (by have:=f.dp;omega) (fun _ _ e=>e) (fun h' u tk hk=>⟨.str _,H,I.kept hk,⟨u,rfl⟩,q⟩) hz
end
end L2
namespace L2
open PySem PySem.Spec PyProof.Rows
section
variable {X:Cx}{es xs:List Expr}{t t1:TA}
theorem pa_int {i j pos} (hr:PA X es t):PA X (.Constant (.int i) j pos::es) (tCons (tC (.int i)) t):=pa_cons pe_int hr (by rfl)
theorem pa_lst {pos} (h:PA X xs t1)(hr:PA X es t):PA X (.List xs pos::es) (tCons (tLst t1) t):=pa_cons (pe_lst h) hr (by rfl)
end
inductive LitInts:List Expr->List Int->Prop where
 | nil:LitInts [] []
 | cons {i:Int}{j:Nat}{pos:Pos}{es:List Expr}{ns:List Int}:LitInts es ns->LitInts (.Constant (.int i) j pos::es) (i::ns)
theorem pa_lits {X:Cx}{es:List Expr}{ns:List Int}(h:LitInts es ns):PA X es (fun _ H Q=>Q (ns.map V.int) H):=by
 induction h with
 | nil=>exact pa_nil
 | cons _ ih=>
  intro pos pins s σ H Q I q
  exact (pa_int ih) pos pins s σ H Q I q
inductive LitIntss:List Expr->List (List Int)->Prop where
 | nil:LitIntss [] []
 | cons {xs:List Expr}{ns:List Int}{pos:Pos}{es:List Expr}{nss:List (List Int)}:LitInts xs ns->ns.length<=sizeLine->LitIntss es nss->LitIntss (.List xs pos::es) (ns::nss)
def tLitss:List (List Int)->TA
 | []=>tNil
 | ns::r=>fun σ H Q=>∀p,H p=none->tLitss r σ (upd H p (.lst (ns.map V.int))) fun xs H2=>Q (.ref p::xs) H2
theorem pa_litss {X:Cx}{es:List Expr}{nss:List (List Int)}(h:LitIntss es nss):PA X es (tLitss nss):=by
 induction h with
 | nil=>exact pa_nil
 | cons hx hl _ ih=>
  intro pos pins s σ H Q I q
  exact (pa_lst (pa_lits hx) ih) pos pins s σ H Q I ⟨by rw[List.length_map];exact hl,fun p hp=>q p hp⟩
end L2
namespace WM
theorem nd_sub {α:Type} [DecidableEq α]:∀{l₁ l₂:List α},l₁.Nodup->(∀x∈l₁,x∈l₂)->l₁.length<=l₂.length
 | [],_,_,_=>Nat.zero_le _
 | x::r,l₂,h,s=>by
  obtain⟨h1,h2⟩:=List.nodup_cons.mp h
  have hx:x∈l₂:=s x List.mem_cons_self
  have ih:=nd_sub (l₁:=r) (l₂:=l₂.erase x) h2 fun y hy=>by
   have hne:y≠x:=fun e=>h1 (e ▸ hy)
   exact (List.mem_erase_of_ne hne).mpr (s y (List.mem_cons_of_mem _ hy))
  rw[List.length_erase_of_mem hx] at ih
  have:0<l₂.length:=List.length_pos_of_mem hx
  rw[List.length_cons]
  omega
def lowTo (n:Nat):List Int:=(List.range n).map fun (i:Nat)=>(i:Int)
theorem mem_ints {n:Nat}{x:Int}:x∈lowTo n↔0<=x/\x<n:=by
 unfold lowTo
 rw[List.mem_map]
 constructor
 . rintro ⟨i,hi,rfl⟩
   have:=List.mem_range.mp hi
   omega
 . rintro ⟨h0,h1⟩
   exact⟨x.toNat,List.mem_range.mpr (by omega),by omega⟩
theorem nd_len {n:Nat}{l:List Int}(h:l.Nodup)(hb:∀x∈l,0<=x/\x<n):l.length<=n:=by
 have:=nd_sub h (l₂:=lowTo n) fun x hx=>mem_ints.mpr (hb x hx)
 simpa [lowTo] using this
theorem ints_rise (n:Nat):(lowTo n).Pairwise (· < ·):=by
 unfold lowTo
 rw[List.pairwise_map]
 exact List.pairwise_lt_range.imp fun h=>by omega
abbrev T3:=Int×Int×Int
def tl (t:T3):List Int:=[t.1,t.2.1,t.2.2]
structure GW (n:Int)(ts:List T3):Prop where
 n1:1<=n
 n24:n<=24
 len:ts.length<64
 rng:∀t∈ts,0<=t.1/\t.1<t.2.1/\t.2.1<n/\1<=t.2.2/\t.2.2<=99
 dis:ts.Pairwise fun s t=>¬ (s.1=t.1/\s.2.1=t.2.1)
def Adj (ts:List T3)(x y l:Int):Prop:=(x,y,l)∈ts\/(y,x,l)∈ts
theorem Adj.symm {ts:List T3}{x y l:Int}(h:Adj ts x y l):Adj ts y x l:=h.elim .inr .inl
theorem GW.uniq {n:Int}{ts:List T3}(g:GW n ts){x y l l':Int}(h:Adj ts x y l)(h':Adj ts x y l'):l=l':=by
 have key:∀{ts:List T3},ts.Pairwise (fun s t=>¬ (s.1=t.1/\s.2.1=t.2.1))->∀{a b l l':Int},(a,b,l)∈ts->(a,b,l')∈ts->l=l':=by
  intro ts
  induction ts with
  | nil=>intro _ a b l l' h;simp at h
  | cons t r ih=>
   intro hp a b l l' h h'
   obtain⟨q,hr⟩:=List.pairwise_cons.mp hp
   rcases List.mem_cons.mp h with e | e
   . rcases List.mem_cons.mp h' with e' | e'
     . rw[<-e] at e';injection e' with _ e2;injection e2 with _ e3;exact e3.symm
     . exact absurd (by rw[<-e];exact⟨rfl,rfl⟩) (q _ e')
   . rcases List.mem_cons.mp h' with e' | e'
     . exact absurd (by rw[<-e'];exact⟨rfl,rfl⟩) (q _ e)
     . exact ih hr e e'
 rcases h with h | h <;> rcases h' with h' | h'
 . exact key g.dis h h'
 . have:=g.rng _ h;have:=g.rng _ h';simp only at *;omega
 . have:=g.rng _ h;have:=g.rng _ h';simp only at *;omega
 . exact key g.dis h h'
theorem GW.adj {n:Int}{ts:List T3}(g:GW n ts){x y l:Int}(h:Adj ts x y l):0<=x/\x<n/\0<=y/\y<n/\x≠y/\1<=l/\l<=99:=by
 rcases h with h | h <;> (have:=g.rng _ h;simp only at *;omega)
def fd (p:Int):List T3->List (List Int)
 | []=>[]
 | t::r=>(if t.1=p then [[t.2.1,t.2.2]] else [])++(if t.2.1=p then [[t.1,t.2.2]] else [])++fd p r
theorem fd_append (p:Int):∀a b:List T3,fd p (a++b)=fd p a++fd p b
 | [],b=>rfl
 | t::r,b=>by show _++_++fd p (r++b)=_;rw[fd_append p r b];simp[fd,List.append_assoc]
theorem mem_fd {p:Int}{k:List Int}:∀{ts:List T3},k∈fd p ts↔∃y l,k=[y,l]/\Adj ts p y l
 | []=>by simp[fd,Adj]
 | (a,b,c)::r=>by
  have ih:=mem_fd (p:=p) (k:=k) (ts:=r)
  show k∈_++_++fd p r↔_
  rw[List.mem_append,List.mem_append,ih]
  simp only
  constructor
  . rintro ((h | h) | ⟨y,l,e,h⟩)
    . split at h
      . rename_i e;simp at h;subst e;exact⟨b,c,h,.inl List.mem_cons_self⟩
      . simp at h
    . split at h
      . rename_i e;simp at h;subst e;exact⟨a,c,h,.inr List.mem_cons_self⟩
      . simp at h
    . exact⟨y,l,e,h.elim (fun z=>.inl (List.mem_cons_of_mem _ z)) fun z=>.inr (List.mem_cons_of_mem _ z)⟩
  . rintro ⟨y,l,e,h⟩
    rcases h with h | h
    . rcases List.mem_cons.mp h with q | q
      . injection q with q1 q2;injection q2 with q2 q3;subst q1 q2 q3
        exact .inl (.inl (by simp[e]))
      . exact .inr ⟨y,l,e,.inl q⟩
    . rcases List.mem_cons.mp h with q | q
      . injection q with q1 q2;injection q2 with q2 q3;subst q1 q2 q3
        exact .inl (.inr (by simp[e]))
      . exact .inr ⟨y,l,e,.inr q⟩
theorem fd_len {n:Int}(p:Int):∀{ts:List T3},(∀t∈ts,t.1<t.2.1)->(fd p ts).length<=ts.length
 | [],_=>Nat.le_refl _
 | t::r,h=>by
  have ih:=fd_len (n:=n) p (ts:=r) fun t ht=>h t (List.mem_cons_of_mem _ ht)
  have h0:=h t List.mem_cons_self
  show (_++_++fd p r).length<=_
  rw[List.length_append,List.length_append,List.length_cons]
  have:(if t.1=p then [[t.2.1,t.2.2]] else ([]:List (List Int))).length+(if t.2.1=p then [[t.1,t.2.2]] else ([]:List (List Int))).length<=1:=by
   split <;> split <;> simp <;> omega
  omega
def hd (k:List Int):Int:=k.getD 0 0
theorem fd_heads {n:Int}{ts:List T3}(g:GW n ts)(p:Int):((fd p ts).map hd).Nodup:=by
 have key:∀(ts:List T3),(∀t∈ts,t.1<t.2.1)->ts.Pairwise (fun s t=>¬ (s.1=t.1/\s.2.1=t.2.1))->((fd p ts).map hd).Nodup:=by
  intro ts
  induction ts with
  | nil=>intro _ _;exact List.nodup_nil
  | cons t r ih=>
   intro hlt hp
   obtain⟨q,hr⟩:=List.pairwise_cons.mp hp
   have h0:=hlt t List.mem_cons_self
   have hr':∀t∈r,t.1<t.2.1:=fun t ht=>hlt t (List.mem_cons_of_mem _ ht)
   have ih':=ih hr' hr
   have no:∀y c,(∀l,Adj r p y l->False)->([y,c]:List Int)=[y,c]->¬ y∈(fd p r).map hd:=by
    intro y c hn _ hm
    obtain⟨k,hk,e⟩:=List.mem_map.mp hm
    obtain⟨y',l,ek,ha⟩:=mem_fd.mp hk
    subst ek
    have:y'=y:=e
    subst this
    exact hn l ha
   show ((_++_++fd p r).map hd).Nodup
   by_cases h1:t.1=p
   . have h2:¬ t.2.1=p:=by omega
     rw[if_pos h1,if_neg h2]
     show (t.2.1::(fd p r).map hd).Nodup
     refine List.nodup_cons.mpr ⟨no _ t.2.2 (fun l ha=>?_) rfl,ih'⟩
     rcases ha with ha | ha
     . exact q _ ha ⟨h1,rfl⟩
     . have:=hr' _ ha;simp only at this;omega
   . by_cases h2:t.2.1=p
     . rw[if_neg h1,if_pos h2]
       show (t.1::(fd p r).map hd).Nodup
       refine List.nodup_cons.mpr ⟨no _ t.2.2 (fun l ha=>?_) rfl,ih'⟩
       rcases ha with ha | ha
       . have:=hr' _ ha;simp only at this;omega
       . exact q _ ha ⟨rfl,h2⟩
     . rw[if_neg h1,if_neg h2]
       exact ih'
 exact key ts (fun t ht=>(g.rng t ht).2.1) g.dis
end WM
namespace WM
inductive Way (ts:List T3):Int->Int->Int->Prop where
 | nil (x:Int):Way ts x x 0
 | cons {x z y l d:Int}:Adj ts x z l->Way ts z y d->Way ts x y (l+d)
theorem Way.nn {n:Int}{ts:List T3}(g:GW n ts){x y d:Int}(h:Way ts x y d):0<=d:=by
 induction h with
 | nil=>exact Int.le_refl _
 | cons ha _ ih=>have:=g.adj ha;omega
theorem Way.one {ts:List T3}{x y l:Int}(h:Adj ts x y l):Way ts x y l:=by
 have:=Way.cons h (.nil y)
 rwa [Int.add_zero] at this
theorem Way.trans {ts:List T3}{x y z d e:Int}(h:Way ts x y d)(h':Way ts y z e):Way ts x z (d+e):=by
 induction h with
 | nil=>rw[Int.zero_add];exact h'
 | cons ha _ ih=>rw[Int.add_assoc];exact .cons ha (ih h')
theorem Way.symm {ts:List T3}{x y d:Int}(h:Way ts x y d):Way ts y x d:=by
 induction h with
 | nil=>exact .nil _
 | cons ha _ ih=>have:=ih.trans (.one ha.symm);rwa [Int.add_comm] at this
theorem Way.snoc {ts:List T3}{x y z d l:Int}(h:Way ts x y d)(ha:Adj ts y z l):Way ts x z (d+l):=h.trans (.one ha)
def IsD (ts:List T3)(x y d:Int):Prop:=Way ts x y d/\∀e,Way ts x y e->d<=e
def Len (ts:List T3)(x y:Int):Option Int->Prop
 | some d=>IsD ts x y d
 | none=>∀d,¬ Way ts x y d
theorem IsD.uniq {ts:List T3}{x y d e:Int}(h:IsD ts x y d)(h':IsD ts x y e):d=e:=Int.le_antisymm (h.2 _ h'.1) (h'.2 _ h.1)
theorem Len.uniq {ts:List T3}{x y:Int}{o o':Option Int}(h:Len ts x y o)(h':Len ts x y o'):o=o':=by
 cases o with
 | none=>
  cases o' with
  | none=>rfl
  | some e=>exact absurd h'.1 (h e)
 | some d=>
  cases o' with
  | none=>exact absurd h.1 (h' d)
  | some e=>exact congrArg some (IsD.uniq h h')
theorem IsD.symm {ts:List T3}{x y d:Int}(h:IsD ts x y d):IsD ts y x d:=⟨h.1.symm,fun e he=>h.2 e he.symm⟩
theorem Len.symm {ts:List T3}{x y:Int}{o:Option Int}(h:Len ts x y o):Len ts y x o:=by
 cases o with
 | none=>exact fun d hd=>h d hd.symm
 | some d=>exact IsD.symm h
theorem isD_self {n:Int}{ts:List T3}(g:GW n ts)(x:Int):IsD ts x x 0:=⟨.nil x,fun _ h=>h.nn g⟩
structure Dj (ts:List T3)(s:Int)(kn wt:Int->Option Int):Prop where
 kd:∀p d,kn p=some d->IsD ts s p d
 wk:∀p d,wt p=some d->kn p=none/\Way ts s p d
 ord:∀p d q e,kn p=some d->wt q=some e->d<=e
 nb:∀p d q l,kn p=some d->Adj ts p q l->(∃e,kn q=some e)\/∃e,wt q=some e/\e<=d+l
 st:(∃d,kn s=some d)\/wt s=some 0
theorem Dj.front {n:Int}{ts:List T3}(g:GW n ts){s:Int}{kn wt:Int->Option Int}(h:Dj ts s kn wt){y d:Int}(w:Way ts s y d):(∃e,kn y=some e)\/∃q e,wt q=some e/\e<=d:=by
 have key:∀{x y d:Int},Way ts x y d->∀dx,kn x=some dx->(∃e,kn y=some e)\/∃q e,wt q=some e/\e<=dx+d:=by
  intro x y d w
  induction w with
  | nil=>intro dx hx;exact .inl ⟨dx,hx⟩
  | cons ha w' ih=>
   intro dx hx
   rename_i x z y l d
   have hl:=g.adj ha
   have hw:=w'.nn g
   rcases h.nb x dx z l hx ha with ⟨e,he⟩ | ⟨e,he,hle⟩
   . have hez:e<=dx+l:=(h.kd z e he).2 _ ((h.kd x dx hx).1.snoc ha)
     rcases ih e he with q | ⟨q,e',hq,hle⟩
     . exact .inl q
     . exact .inr ⟨q,e',hq,by omega⟩
   . exact .inr ⟨z,e,he,by omega⟩
 rcases h.st with ⟨ds,hs⟩ | hs
 . have:ds=0:=IsD.uniq (h.kd s ds hs) (isD_self g s)
   subst this
   rcases key w 0 hs with q | ⟨q,e,a,b⟩
   . exact .inl q
   . exact .inr ⟨q,e,a,by omega⟩
 . exact .inr ⟨s,0,hs,w.nn g⟩
theorem Dj.pick {n:Int}{ts:List T3}(g:GW n ts){s:Int}{kn wt:Int->Option Int}(h:Dj ts s kn wt){p d:Int}(hp:wt p=some d)(hm:∀q e,wt q=some e->d<=e):IsD ts s p d:=by
 obtain⟨hk,hw⟩:=h.wk p d hp
 refine⟨hw,fun e he=>?_⟩
 rcases h.front g he with ⟨e',q⟩ | ⟨q,e',hq,hle⟩
 . rw[hk] at q;cases q
 . exact Int.le_trans (hm q e' hq) hle
theorem Dj.done {n:Int}{ts:List T3}(g:GW n ts){s:Int}{kn wt:Int->Option Int}(h:Dj ts s kn wt)(hw:∀q,wt q=none)(y:Int):Len ts s y (kn y):=by
 cases e:kn y with
 | some d=>exact h.kd y d e
 | none=>
  intro d w
  rcases h.front g w with ⟨e',q⟩ | ⟨q,e',hq,_⟩
  . rw[e] at q;cases q
  . rw[hw] at hq;cases hq
structure Dm (ts:List T3)(s p d:Int)(kn wt:Int->Option Int)(seen:Int->Prop):Prop where
 kd:∀q e,kn q=some e->IsD ts s q e
 wk:∀q e,wt q=some e->kn q=none/\Way ts s q e
 ord:∀q e r f,kn q=some e->wt r=some f->e<=f
 nb:∀q e r l,kn q=some e->Adj ts q r l->(q=p/\¬ seen r)\/(∃f,kn r=some f)\/∃f,wt r=some f/\f<=e+l
 st:∃e,kn s=some e
 pd:kn p=some d
 mx:∀q e,kn q=some e->e<=d
theorem Dj.enter {n:Int}{ts:List T3}(g:GW n ts){s:Int}{kn wt:Int->Option Int}(h:Dj ts s kn wt){p d:Int}(hp:wt p=some d)(hm:∀q e,wt q=some e->d<=e) :
 Dm ts s p d (fun q=>if q=p then some d else kn q) (fun q=>if q=p then none else wt q) (fun _=>False):=by
 have hd:=h.pick g hp hm
 have hk:=(h.wk p d hp).1
 refine⟨fun q e hq=>?_,fun q e hq=>?_,fun q e r f hq hr=>?_,fun q e r l hq ha=>?_,?_,if_pos rfl,fun q e hq=>?_⟩
 . by_cases hqp:q=p
   . rw[if_pos hqp] at hq;cases hq;rw[hqp];exact hd
   . rw[if_neg hqp] at hq;exact h.kd q e hq
 . by_cases hqp:q=p
   . rw[if_pos hqp] at hq;cases hq
   . rw[if_neg hqp] at hq ⊢;exact h.wk q e hq
 . by_cases hrp:r=p
   . rw[if_pos hrp] at hr;cases hr
   . rw[if_neg hrp] at hr
     by_cases hqp:q=p
     . rw[if_pos hqp] at hq;cases hq;exact hm r f hr
     . rw[if_neg hqp] at hq;exact h.ord q e r f hq hr
 . by_cases hqp:q=p
   . exact .inl ⟨hqp,fun z=>z⟩
   . rw[if_neg hqp] at hq
     by_cases hrp:r=p
     . exact .inr (.inl ⟨d,if_pos hrp⟩)
     . rcases h.nb q e r l hq ha with ⟨f,hf⟩ | ⟨f,hf,hle⟩
       . exact .inr (.inl ⟨f,by rw[if_neg hrp];exact hf⟩)
       . exact .inr (.inr ⟨f,by rw[if_neg hrp];exact hf,hle⟩)
 . by_cases hsp:s=p
   . exact⟨d,if_pos hsp⟩
   . rcases h.st with ⟨e,he⟩ | he
     . exact⟨e,by rw[if_neg hsp];exact he⟩
     . -- s waits with 0: then d is 0 too,and p is come to by a way of 0
       have h0:=hm s 0 he
       have:=hd.1.nn g
       have hd0:d=0:=by omega
       subst hd0
       exfalso
       have:∀{x y d:Int},Way ts x y d->d=0->x=y:=by
        intro x y d w
        cases w with
        | nil=>intro _;rfl
        | cons ha w'=>intro e;have:=g.adj ha;have:=w'.nn g;omega
       exact hsp (this hd.1 rfl)
 . by_cases hqp:q=p
   . rw[if_pos hqp] at hq;cases hq;exact Int.le_refl _
   . rw[if_neg hqp] at hq;exact h.ord q e p d hq hp
theorem Dm.skip {ts:List T3}{s p d:Int}{kn wt:Int->Option Int}{seen:Int->Prop}(h:Dm ts s p d kn wt seen){r:Int}(hr:∃f,kn r=some f):Dm ts s p d kn wt (fun x=>seen x\/x=r):=
 ⟨h.kd,h.wk,h.ord,fun q e x l hq ha=>by
  rcases h.nb q e x l hq ha with ⟨a,b⟩ | c
  . by_cases hx:x=r
    . subst hx;exact .inr (.inl hr)
    . exact .inl ⟨a,fun z=>z.elim b hx⟩
  . exact .inr c,h.st,h.pd,h.mx⟩
theorem Dm.wait {n:Int}{ts:List T3}(g:GW n ts){s p d:Int}{kn wt:Int->Option Int}{seen:Int->Prop}(h:Dm ts s p d kn wt seen){r l:Int}(ha:Adj ts p r l)(hr:kn r=none){f:Int}
 (hf:(wt r=none/\f=d+l)\/∃e,wt r=some e/\f=min (d+l) e):Dm ts s p d kn (fun x=>if x=r then some f else wt x) (fun x=>seen x\/x=r):=by
 have hl:=g.adj ha
 have hway:Way ts s r (d+l):=(h.kd p d h.pd).1.snoc ha
 have hf1:f<=d+l:=by
  rcases hf with ⟨_,e⟩ | ⟨e,_,e'⟩
  . omega
  . omega
 have hf2:Way ts s r f:=by
  rcases hf with ⟨_,rfl⟩ | ⟨e,he,rfl⟩
  . exact hway
  . by_cases hle:d+l<=e
    . rw[Int.min_eq_left hle];exact hway
    . rw[Int.min_eq_right (by omega)];exact (h.wk r e he).2
 have hf3:d<=f:=by
  rcases hf with ⟨_,rfl⟩ | ⟨e,he,rfl⟩
  . omega
  . have:=h.ord p d r e h.pd he;omega
 refine⟨h.kd,fun q e hq=>?_,fun q e x y hq hx=>?_,fun q e x k hq hax=>?_,h.st,h.pd,h.mx⟩
 . by_cases hqr:q=r
   . rw[if_pos hqr] at hq;cases hq;rw[hqr];exact⟨hr,hf2⟩
   . rw[if_neg hqr] at hq;exact h.wk q e hq
 . by_cases hxr:x=r
   . rw[if_pos hxr] at hx;cases hx;have:=h.mx q e hq;omega
   . rw[if_neg hxr] at hx;exact h.ord q e x y hq hx
 . by_cases hxr:x=r
   . subst hxr
     refine .inr (.inr ⟨f,if_pos rfl,?_⟩)
     rcases h.nb q e x k hq hax with ⟨a,_⟩ | ⟨y,hy⟩ | ⟨y,hy,hle⟩
     . subst a
       rw[h.pd] at hq;cases hq
       rw[g.uniq hax ha];exact hf1
     . rw[hr] at hy;cases hy
     . rcases hf with ⟨e1,_⟩ | ⟨e1,he1,e2⟩
       . rw[e1] at hy;cases hy
       . rw[he1] at hy;cases hy;omega
   . rcases h.nb q e x k hq hax with ⟨a,b⟩ | c | ⟨y,hy,hle⟩
     . exact .inl ⟨a,fun z=>z.elim b hxr⟩
     . exact .inr (.inl c)
     . exact .inr (.inr ⟨y,by rw[if_neg hxr];exact hy,hle⟩)
theorem Dm.leave {ts:List T3}{s p d:Int}{kn wt:Int->Option Int}{seen:Int->Prop}(h:Dm ts s p d kn wt seen)(hs:∀r l,Adj ts p r l->seen r):Dj ts s kn wt:=
 ⟨h.kd,h.wk,h.ord,fun q e r l hq ha=>by
  rcases h.nb q e r l hq ha with ⟨a,b⟩ | c
  . subst a;exact absurd (hs r l ha) b
  . exact c,.inl h.st⟩
inductive WayK (ts:List T3)(k:Int):Int->Int->Int->Prop where
 | nil (x:Int):WayK ts k x x 0
 | tie {x y l:Int}:Adj ts x y l->WayK ts k x y l
 | cons {x z y l d:Int}:Adj ts x z l->z<k->WayK ts k z y d->WayK ts k x y (l+d)
theorem WayK.way {ts:List T3}{k x y d:Int}(h:WayK ts k x y d):Way ts x y d:=by
 induction h with
 | nil=>exact .nil _
 | tie ha=>exact .one ha
 | cons ha _ _ ih=>exact .cons ha ih
theorem Way.toK {n:Int}{ts:List T3}(g:GW n ts){x y d:Int}(h:Way ts x y d):WayK ts n x y d:=by
 induction h with
 | nil=>exact .nil _
 | cons ha _ ih=>exact .cons ha (g.adj ha).2.2.2.1 ih
theorem WayK.split {n:Int}{ts:List T3}(g:GW n ts){k x y d:Int}(h:WayK ts (k+1) x y d):WayK ts k x y d\/∃d1 d2,WayK ts k x k d1/\WayK ts k k y d2/\d1+d2<=d:=by
 induction h with
 | nil=>exact .inl (.nil _)
 | tie ha=>exact .inl (.tie ha)
 | cons ha hz w ih=>
  rename_i x z y l d
  by_cases hk:z<k
  . rcases ih with q | ⟨d1,d2,a,b,c⟩
    . exact .inl (.cons ha hk q)
    . exact .inr ⟨l+d1,d2,.cons ha hk a,b,by omega⟩
  . have e:z=k:=by omega
    subst e
    rcases ih with q | ⟨d1,d2,a,b,c⟩
    . exact .inr ⟨l,d,.tie ha,q,Int.le_refl _⟩
    . have:=a.way.nn g
      exact .inr ⟨l,d2,.tie ha,b,by omega⟩
theorem WayK.zero {n:Int}{ts:List T3}(g:GW n ts){x y d:Int}(h:WayK ts 0 x y d):(x=y/\d=0)\/Adj ts x y d:=by
 cases h with
 | nil=>exact .inl ⟨rfl,rfl⟩
 | tie ha=>exact .inr ha
 | cons ha hz _=>have:=g.adj ha;omega
structure Fw (ts:List T3)(n:Int)(F:Int->Int->Option Int):Prop where
 snd:∀x y d,0<=x->x<n->0<=y->y<n->F x y=some d->Way ts x y d
def Cov (ts:List T3)(n k:Int)(F:Int->Int->Option Int):Prop:=∀x y d,0<=x->x<n->0<=y->y<n->WayK ts k x y d->∃e,F x y=some e/\e<=d
theorem Fw.len {n:Int}{ts:List T3}(g:GW n ts){F:Int->Int->Option Int}(h:Fw ts n F)(c:Cov ts n n F){x y:Int}(hx:0<=x)(hx':x<n)(hy:0<=y)(hy':y<n):Len ts x y (F x y):=by
 cases e:F x y with
 | some d=>
  refine⟨h.snd x y d hx hx' hy hy' e,fun e' he=>?_⟩
  obtain⟨f,hf,hle⟩:=c x y e' hx hx' hy hy' (he.toK g)
  rw[e] at hf;cases hf;exact hle
 | none=>
  intro d hd
  obtain⟨f,hf,_⟩:=c x y d hx hx' hy hy' (hd.toK g)
  rw[e] at hf;cases hf
end WM
namespace WM
def fnl (kn:List (Option Int))(p:Int):Option Int:=if 0<=p then kn.getD p.toNat none else none
def cnt (kn:List (Option Int)):Nat:=(kn.filter Option.isSome).length
theorem cnt_le (kn:List (Option Int)):cnt kn<=kn.length:=List.length_filter_le _ _
theorem fnl_set {kn:List (Option Int)}{p:Int}{o:Option Int}(h0:0<=p)(h1:p.toNat<kn.length)(q:Int):fnl (kn.set p.toNat o) q=if q=p then o else fnl kn q:=by
 unfold fnl
 by_cases hq:0<=q
 . rw[if_pos hq,if_pos hq,List.getD_eq_getElem?_getD,List.getD_eq_getElem?_getD,List.getElem?_set]
   by_cases e:q=p
   . subst e;simp[h1]
   . have:¬ p.toNat=q.toNat:=by omega
     rw[if_neg this,if_neg e]
 . rw[if_neg hq,if_neg (by omega),if_neg hq]
theorem cnt_set:∀{kn:List (Option Int)}{j:Nat}{d:Int},kn[j]? = some none->cnt (kn.set j (some d))=cnt kn+1
 | [],_,_,h=>by simp at h
 | o::r,0,d,h=>by
  have:o=none:=by simpa using h
  subst this
  simp[cnt,List.set]
 | o::r,j+1,d,h=>by
  have ih:=cnt_set (kn:=r) (j:=j) (d:=d) (by simpa using h)
  unfold cnt at ih ⊢
  rw[List.set_cons_succ]
  cases o with
  | none=>rw[List.filter_cons_of_neg (by simp),List.filter_cons_of_neg (by simp)];exact ih
  | some x=>rw[List.filter_cons_of_pos (by simp),List.filter_cons_of_pos (by simp),List.length_cons,List.length_cons,ih]
theorem cnt_rep (n:Nat):cnt (List.replicate n none)=0:=by
 unfold cnt
 rw[List.filter_replicate]
 simp
theorem fnl_rep (n:Nat)(q:Int):fnl (List.replicate n none) q=none:=by
 unfold fnl
 split
 . rw[List.getD_eq_getElem?_getD,List.getElem?_replicate]
   split <;> rfl
 . rfl
structure Dl (ts:List T3)(n s:Int)(kn:List (Option Int))(wt:Int->Option Int):Prop where
 dj:Dj ts s (fnl kn) wt
 ln:kn.length=n.toNat
 bk:∀p d,fnl kn p=some d->d<=99*cnt kn
 bw:∀p e,wt p=some e->e<=99*cnt kn/\0<=p/\p<n
structure Dn (ts:List T3)(n s p d:Int)(kn:List (Option Int))(wt:Int->Option Int)(seen:Int->Prop):Prop where
 dm:Dm ts s p d (fnl kn) wt seen
 ln:kn.length=n.toNat
 bk:∀q e,fnl kn q=some e->e<=99*cnt kn
 bd:d+99<=99*cnt kn
 bw:∀q e,wt q=some e->e<=99*cnt kn/\0<=q/\q<n
theorem Dl.start {n:Int}{ts:List T3}(g:GW n ts){s:Int}(h0:0<=s)(h1:s<n):Dl ts n s (List.replicate n.toNat none) (fun q=>if q=s then some 0 else none):=by
 refine⟨⟨fun p d h=>?_,fun p d h=>?_,fun p d q e h=>?_,fun p d q l h=>?_,.inr (if_pos rfl)⟩,List.length_replicate,fun p d h=>?_,fun p e h=>?_⟩
 . rw[fnl_rep] at h;cases h
 . by_cases e:p=s
   . rw[if_pos e] at h;cases h;rw[e];exact⟨fnl_rep _ _,.nil s⟩
   . rw[if_neg e] at h;cases h
 . rw[fnl_rep] at h;cases h
 . rw[fnl_rep] at h;cases h
 . rw[fnl_rep] at h;cases h
 . by_cases e:p=s
   . rw[if_pos e] at h;cases h;rw[e,cnt_rep];exact⟨by simp,h0,h1⟩
   . rw[if_neg e] at h;cases h
theorem Dl.enter {n:Int}{ts:List T3}(g:GW n ts){s:Int}{kn:List (Option Int)}{wt:Int->Option Int}(h:Dl ts n s kn wt){p d:Int}(hp:wt p=some d)(hm:∀q e,wt q=some e->d<=e) :
 kn[p.toNat]? = some none/\0<=p/\p<n/\cnt (kn.set p.toNat (some d))=cnt kn+1/\Dn ts n s p d (kn.set p.toNat (some d)) (fun q=>if q=p then none else wt q) (fun _=>False):=by
 obtain⟨hb,h0,h1⟩:=h.bw p d hp
 have hl:=h.ln
 have hlt:p.toNat<kn.length:=by omega
 have hk:=(h.dj.wk p d hp).1
 have hn:kn[p.toNat]? = some none:=by
  unfold fnl at hk
  rw[if_pos h0,List.getD_eq_getElem?_getD,List.getElem?_eq_getElem hlt] at hk
  rw[List.getElem?_eq_getElem hlt]
  exact congrArg some hk
 have hc:=cnt_set (d:=d) hn
 have ef:fnl (kn.set p.toNat (some d))=fun q=>if q=p then some d else fnl kn q:=funext fun q=>fnl_set h0 hlt q
 refine⟨hn,h0,h1,hc,⟨?_,by rw[List.length_set];exact hl,fun q e hq=>?_,by rw[hc];omega,fun q e hq=>?_⟩⟩
 . rw[ef];exact h.dj.enter g hp hm
 . rw[ef] at hq
   simp only at hq
   rw[hc]
   by_cases e':q=p
   . rw[if_pos e'] at hq;cases hq;omega
   . rw[if_neg e'] at hq;have:=h.bk q e hq;omega
 . by_cases e':q=p
   . rw[if_pos e'] at hq;cases hq
   . rw[if_neg e'] at hq;have:=h.bw q e hq;rw[hc];exact⟨by omega,this.2⟩
theorem Dn.skip {n:Int}{ts:List T3}{s p d:Int}{kn:List (Option Int)}{wt:Int->Option Int}{seen:Int->Prop}(h:Dn ts n s p d kn wt seen){r f:Int}(hr:fnl kn r=some f):Dn ts n s p d kn wt (fun x=>seen x\/x=r):=
 ⟨h.dm.skip ⟨f,hr⟩,h.ln,h.bk,h.bd,h.bw⟩
theorem Dn.wait {n:Int}{ts:List T3}(g:GW n ts){s p d:Int}{kn:List (Option Int)}{wt:Int->Option Int}{seen:Int->Prop}(h:Dn ts n s p d kn wt seen){r l:Int}(ha:Adj ts p r l)(hr:fnl kn r=none) :
 Dn ts n s p d kn (fun x=>if x=r then some (if (wt r).getD (d+l)<d+l then (wt r).getD (d+l) else d+l) else wt x) (fun x=>seen x\/x=r):=by
 have hl:=g.adj ha
 have hf:(wt r=none/\(if (wt r).getD (d+l)<d+l then (wt r).getD (d+l) else d+l)=d+l)\/∃e,wt r=some e/\(if (wt r).getD (d+l)<d+l then (wt r).getD (d+l) else d+l)=min (d+l) e:=by
  cases e:wt r with
  | none=>exact .inl ⟨rfl,by simp⟩
  | some x=>
   refine .inr ⟨x,rfl,?_⟩
   simp only[Option.getD_some]
   split <;> omega
 refine⟨h.dm.wait g ha hr hf,h.ln,h.bk,h.bd,fun q e hq=>?_⟩
 by_cases e':q=r
 . rw[if_pos e'] at hq
   have hd:=h.bd
   have e2:=Option.some.inj hq
   refine⟨?_,by omega,by omega⟩
   split at e2 <;> omega
 . rw[if_neg e'] at hq;exact h.bw q e hq
theorem Dn.leave {n:Int}{ts:List T3}{s p d:Int}{kn:List (Option Int)}{wt:Int->Option Int}{seen:Int->Prop}(h:Dn ts n s p d kn wt seen)(hs:∀r l,Adj ts p r l->seen r):Dl ts n s kn wt:=
 ⟨h.dm.leave hs,h.ln,h.bk,h.bw⟩
structure Lens (ts:List T3)(n s:Int)(kn:List (Option Int)):Prop where
 ln:kn.length=n.toNat
 len:∀y,0<=y->y<n->Len ts s y (fnl kn y)
 bd:∀o∈kn,∀d,o=some d->0<=d/\d<=2376
theorem Dl.done {n:Int}{ts:List T3}(g:GW n ts){s:Int}{kn:List (Option Int)}{wt:Int->Option Int}(h:Dl ts n s kn wt)(hw:∀q,wt q=none):Lens ts n s kn:=by
 refine⟨h.ln,fun y _ _=>h.dj.done g hw y,fun o ho d e=>?_⟩
 obtain⟨j,hj,ej⟩:=List.getElem_of_mem ho
 have hf:fnl kn (j:Int)=some d:=by
  unfold fnl
  rw[if_pos (by omega),List.getD_eq_getElem?_getD,Int.toNat_natCast,List.getElem?_eq_getElem hj,ej,e];rfl
 have h1:=h.bk _ _ hf
 have h2:=(h.dj.kd _ _ hf).1.nn g
 have h3:=cnt_le kn
 have:=h.ln
 have:=g.n24
 omega
end WM
namespace WM
def oadd:Option Int->Option Int->Option Int
 | some a,some b=>some (a+b)
 | _,_=>none
def oles:Option Int->Option Int->Option Int
 | none,o=>o
 | some a,none=>some a
 | some a,some b=>some (if b<a then b else a)
theorem WayK.mono {ts:List T3}{k k' x y d:Int}(h:WayK ts k x y d)(hk:k<=k'):WayK ts k' x y d:=by
 induction h with
 | nil=>exact .nil _
 | tie ha=>exact .tie ha
 | cons ha hz _ ih=>exact .cons ha (by omega) ih
structure Fm (ts:List T3)(n k:Int)(F:Int->Int->Option Int)(done:Int->Int->Prop):Prop where
 fw:Fw ts n F
 cv:Cov ts n k F
 dn:∀x y d,0<=x->x<n->0<=y->y<n->done x y->WayK ts (k+1) x y d->∃e,F x y=some e/\e<=d
theorem oles_le {o p:Option Int}{d:Int}(h:(∃e,o=some e/\e<=d)\/∃e,p=some e/\e<=d):∃e,oles o p=some e/\e<=d:=by
 rcases h with ⟨e,rfl,h⟩ | ⟨e,rfl,h⟩
 . cases p with
   | none=>exact⟨e,rfl,h⟩
   | some b=>exact⟨_,rfl,by split <;> omega⟩
 . cases o with
   | none=>exact⟨e,rfl,h⟩
   | some a=>exact⟨_,rfl,by split <;> omega⟩
theorem oles_or {o p:Option Int}{d:Int}(h:oles o p=some d):o=some d\/p=some d:=by
 cases o with
 | none=>exact .inr h
 | some a=>
  cases p with
  | none=>exact .inl h
  | some b=>
   have e:(if b<a then b else a)=d:=Option.some.inj h
   split at e
   . exact .inr (by rw[e])
   . exact .inl (by rw[e])
theorem oadd_some {o p:Option Int}{d:Int}(h:oadd o p=some d):∃a b,o=some a/\p=some b/\a+b=d:=by
 cases o with
 | none=>cases h
 | some a=>
  cases p with
  | none=>cases h
  | some b=>exact⟨a,b,rfl,rfl,Option.some.inj h⟩
theorem Fm.step {n:Int}{ts:List T3}(g:GW n ts){k:Int}{F:Int->Int->Option Int}{done:Int->Int->Prop}(h:Fm ts n k F done){a b:Int}(ha:0<=a)(ha':a<n)(hb:0<=b)(hb':b<n)(hk:0<=k)(hk':k<n) :
 Fm ts n k (fun x y=>if x=a/\y=b then oles (F a b) (oadd (F a k) (F k b)) else F x y) (fun x y=>done x y\/(x=a/\y=b)):=by
 have snd:∀d,oles (F a b) (oadd (F a k) (F k b))=some d->Way ts a b d:=fun d hd=>by
  rcases oles_or hd with e | e
  . exact h.fw.snd a b d ha ha' hb hb' e
  . obtain⟨d1,d2,e1,e2,rfl⟩:=oadd_some e
    exact (h.fw.snd a k d1 ha ha' hk hk' e1).trans (h.fw.snd k b d2 hk hk' hb hb' e2)
 have cov1:∀d,WayK ts (k+1) a b d->∃e,oles (F a b) (oadd (F a k) (F k b))=some e/\e<=d:=fun d w=>by
  refine oles_le ?_
  rcases w.split g with q | ⟨d1,d2,q1,q2,hle⟩
  . exact .inl (h.cv a b d ha ha' hb hb' q)
  . obtain⟨e1,f1,l1⟩:=h.cv a k d1 ha ha' hk hk' q1
    obtain⟨e2,f2,l2⟩:=h.cv k b d2 hk hk' hb hb' q2
    exact .inr ⟨e1+e2,by rw[f1,f2];rfl,by omega⟩
 refine⟨⟨fun x y d hx hx' hy hy' e=>?_⟩,fun x y d hx hx' hy hy' w=>?_,fun x y d hx hx' hy hy' hd w=>?_⟩
 . by_cases c:x=a/\y=b
   . rw[if_pos c] at e;rw[c.1,c.2];exact snd d e
   . rw[if_neg c] at e;exact h.fw.snd x y d hx hx' hy hy' e
 . by_cases c:x=a/\y=b
   . rw[if_pos c];rw[c.1,c.2] at w;exact cov1 d (w.mono (by omega))
   . rw[if_neg c];exact h.cv x y d hx hx' hy hy' w
 . by_cases c:x=a/\y=b
   . rw[if_pos c];rw[c.1,c.2] at w;exact cov1 d w
   . rw[if_neg c];exact h.dn x y d hx hx' hy hy' (hd.resolve_right c) w
theorem Fm.enter {n:Int}{ts:List T3}{k:Int}{F:Int->Int->Option Int}(h:Fw ts n F)(c:Cov ts n k F):Fm ts n k F (fun _ _=>False):=⟨h,c,fun _ _ _ _ _ _ _ z=>z.elim⟩
theorem Fm.leave {n:Int}{ts:List T3}{k:Int}{F:Int->Int->Option Int}{done:Int->Int->Prop}(h:Fm ts n k F done)(hd:∀x y,0<=x->x<n->0<=y->y<n->done x y):Fw ts n F/\Cov ts n (k+1) F:=
 ⟨h.fw,fun x y d hx hx' hy hy' w=>h.dn x y d hx hx' hy hy' (hd x y hx hx' hy hy') w⟩
def Ft (ts:List T3)(n:Int)(F:Int->Int->Option Int):Prop:=∀x y d,0<=x->x<n->0<=y->y<n->(F x y=some d↔(x=y/\d=0)\/Adj ts x y d)
theorem Ft.fw {n:Int}{ts:List T3}(g:GW n ts){F:Int->Int->Option Int}(h:Ft ts n F):Fw ts n F/\Cov ts n 0 F:=by
 refine⟨⟨fun x y d hx hx' hy hy' e=>?_⟩,fun x y d hx hx' hy hy' w=>?_⟩
 . rcases (h x y d hx hx' hy hy').mp e with ⟨rfl,rfl⟩ | ha
   . exact .nil x
   . exact .one ha
 . refine⟨d,(h x y d hx hx' hy hy').mpr ?_,Int.le_refl _⟩
   rcases w.zero g with q | q
   . exact .inl q
   . exact .inr q
theorem Ft.nil (n:Int){F:Int->Int->Option Int}(h:∀x y,0<=x->x<n->0<=y->y<n->F x y=if x=y then some 0 else none):Ft [] n F:=fun x y d hx hx' hy hy'=>by
 rw[h x y hx hx' hy hy']
 constructor
 . intro e
   split at e
   . rename_i c;exact .inl ⟨c,(Option.some.inj e).symm⟩
   . cases e
 . rintro (⟨rfl,rfl⟩ | ha)
   . rw[if_pos rfl]
   . rcases ha with z | z <;> simp at z
theorem Ft.put {n:Int}{pre post:List T3}{a b l:Int}(g:GW n (pre++(a,b,l)::post)){F:Int->Int->Option Int}(h:Ft pre n F) :
 Ft (pre++[(a,b,l)]) n (fun x y=>if x=b/\y=a then some l else if x=a/\y=b then some l else F x y):=fun x y d hx hx' hy hy'=>by
 have hr:=g.rng (a,b,l) (by simp)
 simp only at hr
 have sub:∀{x y d:Int},Adj pre x y d->Adj (pre++(a,b,l)::post) x y d:=fun z=>z.elim (fun z=>.inl (List.mem_append_left _ z)) fun z=>.inr (List.mem_append_left _ z)
 have own:Adj (pre++(a,b,l)::post) a b l:=.inl (by simp)
 have hadj:Adj (pre++[(a,b,l)]) x y d↔Adj pre x y d\/(x=a/\y=b/\d=l)\/(x=b/\y=a/\d=l):=by
  unfold Adj
  simp only[List.mem_append,List.mem_singleton,Prod.mk.injEq]
  constructor
  . rintro ((z | z) | (z | z))
    . exact .inl (.inl z)
    . exact .inr (.inl z)
    . exact .inl (.inr z)
    . exact .inr (.inr ⟨z.2.1,z.1,z.2.2⟩)
  . rintro ((z | z) | z | z)
    . exact .inl (.inl z)
    . exact .inr (.inl z)
    . exact .inl (.inr z)
    . exact .inr (.inr ⟨z.2.1,z.1,z.2.2⟩)
 rw[hadj]
 show (if x=b/\y=a then some l else if x=a/\y=b then some l else F x y)=some d↔_
 by_cases c1:x=b/\y=a
 . rw[if_pos c1]
   constructor
   . intro e;exact .inr (.inr (.inr ⟨c1.1,c1.2,(Option.some.inj e).symm⟩))
   . rintro (⟨e,_⟩ | z | ⟨e1,e2,e3⟩ | ⟨_,_,e3⟩)
     . omega
     . have z':=sub z;rw[c1.1,c1.2] at z';rw[g.uniq z' own.symm]
     . rw[e3]
     . rw[e3]
 . rw[if_neg c1]
   by_cases c2:x=a/\y=b
   . rw[if_pos c2]
     constructor
     . intro e;exact .inr (.inr (.inl ⟨c2.1,c2.2,(Option.some.inj e).symm⟩))
     . rintro (⟨e,_⟩ | z | ⟨e1,e2,e3⟩ | ⟨_,_,e3⟩)
       . omega
       . have z':=sub z;rw[c2.1,c2.2] at z';rw[g.uniq z' own]
       . rw[e3]
       . rw[e3]
   . rw[if_neg c2,h x y d hx hx' hy hy']
     constructor
     . rintro (z | z)
       . exact .inl z
       . exact .inr (.inl z)
     . rintro (z | z | z | z)
       . exact .inl z
       . exact .inr z
       . exact absurd ⟨z.1,z.2.1⟩ c2
       . exact absurd ⟨z.1,z.2.1⟩ c1
def mat (M:List (List (Option Int)))(x y:Int):Option Int:=if 0<=x then fnl (M.getD x.toNat []) y else none
def setm (M:List (List (Option Int)))(a b:Int)(v:Option Int):List (List (Option Int)):=M.set a.toNat ((M.getD a.toNat []).set b.toNat v)
structure Sqm (n:Int)(M:List (List (Option Int))):Prop where
 ln:M.length=n.toNat
 rw_:∀r∈M,r.length=n.toNat
theorem Sqm.row {n:Int}{M:List (List (Option Int))}(h:Sqm n M){a:Int}(ha:0<=a)(ha':a<n):∃r,M[a.toNat]? = some r/\M.getD a.toNat []=r/\r.length=n.toNat:=by
 have hl:=h.ln
 have hlt:a.toNat<M.length:=by omega
 exact⟨M[a.toNat],List.getElem?_eq_getElem hlt,by rw[List.getD_eq_getElem?_getD,List.getElem?_eq_getElem hlt];rfl,h.rw_ _ (List.getElem_mem hlt)⟩
theorem Sqm.set {n:Int}{M:List (List (Option Int))}(h:Sqm n M){a b:Int}{v:Option Int}(ha:0<=a)(ha':a<n):Sqm n (setm M a b v):=by
 obtain⟨r,h1,h2,h3⟩:=h.row ha ha'
 refine⟨by unfold setm;rw[List.length_set];exact h.ln,fun q hq=>?_⟩
 unfold setm at hq
 rcases List.mem_or_eq_of_mem_set hq with z | z
 . exact h.rw_ q z
 . rw[z,List.length_set,h2,h3]
theorem mat_set {n:Int}{M:List (List (Option Int))}(h:Sqm n M){a b:Int}{v:Option Int}(ha:0<=a)(ha':a<n)(hb:0<=b)(hb':b<n){x y:Int}(hx:0<=x)(hx':x<n) :
 mat (setm M a b v) x y=if x=a/\y=b then v else mat M x y:=by
 obtain⟨r,h1,h2,h3⟩:=h.row ha ha'
 have hl:=h.ln
 unfold mat setm
 rw[if_pos hx,if_pos hx,List.getD_eq_getElem?_getD,List.getElem?_set]
 by_cases e:x=a
 . subst e
   rw[if_pos rfl,if_pos (by omega),Option.getD_some,h2,fnl_set hb (by omega)]
   by_cases e2:y=b
   . rw[if_pos e2,if_pos ⟨rfl,e2⟩]
   . rw[if_neg e2,if_neg fun z=>e2 z.2]
 . rw[if_neg (by omega),if_neg fun z=>e z.1,<-List.getD_eq_getElem?_getD]
theorem Fm.congr {n:Int}{ts:List T3}{k:Int}{F G:Int->Int->Option Int}{done done':Int->Int->Prop}(h:Fm ts n k F done)(e:∀x y,0<=x->x<n->0<=y->y<n->G x y=F x y)(hd:∀x y,0<=x->x<n->0<=y->y<n->done' x y->done x y):Fm ts n k G done':=
 ⟨⟨fun x y d a b c d' z=>h.fw.snd x y d a b c d' (by rw[<-e x y a b c d'];exact z)⟩,fun x y d a b c d' w=>by rw[e x y a b c d'];exact h.cv x y d a b c d' w,fun x y d a b c d' z w=>by rw[e x y a b c d'];exact h.dn x y d a b c d' (hd x y a b c d' z) w⟩
theorem Ft.congr {n:Int}{ts:List T3}{F G:Int->Int->Option Int}(h:Ft ts n F)(e:∀x y,0<=x->x<n->0<=y->y<n->G x y=F x y):Ft ts n G:=fun x y d a b c d'=>by rw[e x y a b c d'];exact h x y d a b c d'
def Rows (ts:List T3)(n:Int)(M:List (List (Option Int))):Prop:=M.length=n.toNat/\∀x,0<=x->x<n->Lens ts n x (M.getD x.toNat [])
theorem way_bound {n:Int}{ts:List T3}(g:GW n ts)(x y:Int)(hx:0<=x)(hx':x<n)(d:Int)(h:IsD ts x y d):0<=d/\d<=2376:=by
 have ex:∀(m:Nat)(kn:List (Option Int))(wt:Int->Option Int),Dl ts n x kn wt->n.toNat-cnt kn<=m->(∃L:List Int,∀q e,wt q=some e->q∈L)->∃kn',Lens ts n x kn':=by
  intro m
  induction m with
  | zero=>
   intro kn wt D hm _
   refine⟨kn,D.done g fun q=>?_⟩
   cases e:wt q with
   | none=>rfl
   | some d=>
    have hk:=(D.dj.wk q d e).1
    obtain⟨_,h0,h1⟩:=D.bw q d e
    have hl:=D.ln
    have hlt:q.toNat<kn.length:=by omega
    have hn:kn[q.toNat]? = some none:=by
     unfold fnl at hk
     rw[if_pos h0,List.getD_eq_getElem?_getD,List.getElem?_eq_getElem hlt] at hk
     rw[List.getElem?_eq_getElem hlt]
     exact congrArg some hk
    have h1:=cnt_set (d:=0) hn
    have h2:=cnt_le (kn.set q.toNat (some 0))
    rw[List.length_set] at h2
    omega
  | succ m ih=>
   intro kn wt D hm hL
   by_cases hw:∀q,wt q=none
   . exact⟨kn,D.done g hw⟩
   . -- pick the nearest
     obtain⟨L,hL⟩:=hL
     have pick:∀L:List Int,(∃q∈L,(wt q).isSome)->∃p d,wt p=some d/\∀q∈L,∀e,wt q=some e->d<=e:=by
      intro L
      induction L with
      | nil=>rintro ⟨q,hq,_⟩;simp at hq
      | cons z L ihL=>
       rintro ⟨q,hq,hs⟩
       by_cases hr:∃q∈L,(wt q).isSome
       . obtain⟨p,d,hp,hmin⟩:=ihL hr
         cases ez:wt z with
         | none=>
          refine⟨p,d,hp,fun q' hq' e he=>?_⟩
          rcases List.mem_cons.mp hq' with rfl | hq'
          . rw[ez] at he;cases he
          . exact hmin q' hq' e he
         | some dz=>
          by_cases hz:dz<d
          . refine⟨z,dz,ez,fun q' hq' e he=>?_⟩
            rcases List.mem_cons.mp hq' with rfl | hq'
            . rw[ez] at he;cases he;exact Int.le_refl _
            . have:=hmin q' hq' e he;omega
          . refine⟨p,d,hp,fun q' hq' e he=>?_⟩
            rcases List.mem_cons.mp hq' with rfl | hq'
            . rw[ez] at he;cases he;omega
            . exact hmin q' hq' e he
       . rcases List.mem_cons.mp hq with rfl | hq
         . obtain⟨d,hd⟩:=Option.isSome_iff_exists.mp hs
           refine⟨q,d,hd,fun q' hq' e he=>?_⟩
           rcases List.mem_cons.mp hq' with rfl | hq'
           . rw[hd] at he;cases he;exact Int.le_refl _
           . exact absurd ⟨q',hq',by rw[he];rfl⟩ hr
         . exact absurd ⟨q,hq,hs⟩ hr
     obtain⟨p,d,hp,hmin⟩:=pick L (by
      apply Classical.byContradiction
      intro hno
      refine hw fun q=>?_
      cases e:wt q with
      | none=>rfl
      | some d=>exact absurd ⟨q,hL q d e,by rw[e];rfl⟩ hno)
     obtain⟨hn,h0,h1,hc,N⟩:=D.enter g hp (fun q e he=>hmin q (hL q e he) e he)
     have all:∀(ns:List (Int×Int))(wt':Int->Option Int)(seen:Int->Prop),Dn ts n x p d (kn.set p.toNat (some d)) wt' seen->(∃L:List Int,∀q e,wt' q=some e->q∈L)->(∀r l,(r,l)∈ns->Adj ts p r l) ->
      ∃(wt'':Int->Option Int)(seen':Int->Prop),Dn ts n x p d (kn.set p.toNat (some d)) wt'' seen'/\(∃L:List Int,∀q e,wt'' q=some e->q∈L)/\(∀r,seen r->seen' r)/\∀r l,(r,l)∈ns->seen' r:=by
      intro ns
      induction ns with
      | nil=>intro wt' seen N hL _;exact⟨wt',seen,N,hL,fun _ z=>z,fun r l z=>by simp at z⟩
      | cons t ns ih'=>
       intro wt' seen N hL' ha
       obtain⟨r,l⟩:=t
       have har:=ha r l List.mem_cons_self
       have ha':∀r l,(r,l)∈ns->Adj ts p r l:=fun r l z=>ha r l (List.mem_cons_of_mem _ z)
       cases ek:fnl (kn.set p.toNat (some d)) r with
       | some f=>
        obtain⟨w2,s2,N2,L2,m2,a2⟩:=ih' wt' _ (N.skip ek) hL' ha'
        refine⟨w2,s2,N2,L2,fun q z=>m2 q (.inl z),fun q l' z=>?_⟩
        rcases List.mem_cons.mp z with e | z
        . cases e;exact m2 _ (.inr rfl)
        . exact a2 q l' z
       | none=>
        obtain⟨L',hL'⟩:=hL'
        obtain⟨w2,s2,N2,L2,m2,a2⟩:=ih' _ _ (N.wait g har ek) ⟨r::L',fun q e he=>by
         by_cases e':q=r
         . rw[e'];exact List.mem_cons_self
         . rw[if_neg e'] at he;exact List.mem_cons_of_mem _ (hL' q e he)⟩ ha'
        refine⟨w2,s2,N2,L2,fun q z=>m2 q (.inl z),fun q l' z=>?_⟩
        rcases List.mem_cons.mp z with e | z
        . cases e;exact m2 _ (.inr rfl)
        . exact a2 q l' z
     have nbr:∃ns:List (Int×Int),(∀r l,(r,l)∈ns->Adj ts p r l)/\∀r l,Adj ts p r l->(r,l)∈ns:=by
      refine⟨(ts.filterMap fun t=>if t.1=p then some (t.2.1,t.2.2) else none)++(ts.filterMap fun t=>if t.2.1=p then some (t.1,t.2.2) else none),fun r l z=>?_,fun r l z=>?_⟩
      . rcases List.mem_append.mp z with z | z
        . obtain⟨⟨a,b,c⟩,ht,e⟩:=List.mem_filterMap.mp z
          split at e
          . rename_i c1
            have c1':a=p:=c1
            have e':=Option.some.inj e
            simp only[Prod.mk.injEq] at e'
            obtain⟨rfl,rfl⟩:=e'
            subst c1'
            exact .inl ht
          . cases e
        . obtain⟨⟨a,b,c⟩,ht,e⟩:=List.mem_filterMap.mp z
          split at e
          . rename_i c1
            have c1':b=p:=c1
            have e':=Option.some.inj e
            simp only[Prod.mk.injEq] at e'
            obtain⟨rfl,rfl⟩:=e'
            subst c1'
            exact .inr ht
          . cases e
      . rcases z with z | z
        . exact List.mem_append_left _ (List.mem_filterMap.mpr ⟨_,z,by simp⟩)
        . exact List.mem_append_right _ (List.mem_filterMap.mpr ⟨_,z,by simp⟩)
     obtain⟨ns,hns1,hns2⟩:=nbr
     obtain⟨w2,s2,N2,L2,_,a2⟩:=all ns _ _ N ⟨L,fun q e he=>by
      by_cases e':q=p
      . rw[if_pos e'] at he;cases he
      . rw[if_neg e'] at he;exact hL q e he⟩ hns1
     exact ih _ _ (N2.leave fun r l ha=>a2 r l (hns2 r l ha)) (by omega) L2
 obtain⟨kn,K⟩:=ex n.toNat _ _ (Dl.start g hx hx') (by omega) ⟨[x],fun q e he=>by
  by_cases e':q=x
  . simp[e']
  . rw[if_neg e'] at he;cases he⟩
 have hy:(0<=y/\y<n)\/y=x:=by
  have:∀{x y d:Int},Way ts x y d->x=y\/(0<=y/\y<n):=by
   intro x y d w
   induction w with
   | nil=>exact .inl rfl
   | cons ha _ ih=>
    rcases ih with rfl | q
    . have:=g.adj ha;exact .inr ⟨this.2.2.1,this.2.2.2.1⟩
    . exact .inr q
  rcases this h.1 with e | q
  . exact .inr e.symm
  . exact .inl q
 have hy':0<=y/\y<n:=hy.elim id fun e=>by omega
 have hl:=K.len y hy'.1 hy'.2
 have hlen:=K.ln
 have hlt:y.toNat<kn.length:=by omega
 have e1:fnl kn y=kn[y.toNat]:=by
  unfold fnl
  rw[if_pos hy'.1,List.getD_eq_getElem?_getD,List.getElem?_eq_getElem hlt];rfl
 have e2:=Len.uniq hl (show Len ts x y (some d) from h)
 exact K.bd _ (List.getElem_mem hlt) d (by rw[<-e1];exact e2)
theorem rows_of {n:Int}{ts:List T3}(g:GW n ts){M:List (List (Option Int))}(h:Sqm n M)(f:Fw ts n (mat M))(c:Cov ts n n (mat M)):Rows ts n M:=by
 refine⟨h.ln,fun x hx hx'=>?_⟩
 obtain⟨r,h1,h2,h3⟩:=h.row hx hx'
 have e:∀y,mat M x y=fnl r y:=fun y=>by unfold mat;rw[if_pos hx,h2]
 rw[h2]
 refine⟨h3,fun y hy hy'=>by rw[<-e];exact f.len g c hx hx' hy hy',fun o ho d ed=>?_⟩
 obtain⟨j,hj,ej⟩:=List.getElem_of_mem ho
 have hf:fnl r (j:Int)=some d:=by
  unfold fnl
  rw[if_pos (by omega),List.getD_eq_getElem?_getD,Int.toNat_natCast,List.getElem?_eq_getElem hj,ej,ed];rfl
 have hl:=f.len g c hx hx' (y:=(j:Int)) (by omega) (by omega)
 rw[e,hf] at hl
 exact way_bound g x j hx hx' d hl
end WM
namespace WM
def Btw (ts:List T3)(x y p:Int):Prop:=∃a b,IsD ts x p a/\IsD ts p y b/\IsD ts x y (a+b)
def Nxt (ts:List T3)(x y p:Int):Prop:=∃l b,Adj ts x p l/\IsD ts p y b/\IsD ts x y (l+b)
theorem Way.in_ {n:Int}{ts:List T3}(g:GW n ts){x y d:Int}(w:Way ts x y d)(hx:0<=x)(hx':x<n):0<=y/\y<n:=by
 induction w with
 | nil=>exact⟨hx,hx'⟩
 | cons ha _ ih=>have:=g.adj ha;exact ih this.2.2.1 this.2.2.2.1
theorem Way.least {n:Int}{ts:List T3}(g:GW n ts){x y d:Int}(h:Way ts x y d):∃e,IsD ts x y e:=by
 have:∀(m:Nat)(d:Int),Way ts x y d->d.toNat<=m->∃e,IsD ts x y e:=by
  intro m
  induction m with
  | zero=>
   intro d hd hm
   have:=hd.nn g
   have e:d=0:=by omega
   subst e
   exact⟨0,hd,fun f hf=>hf.nn g⟩
  | succ m ih=>
   intro d hd hm
   by_cases hl:∃f,Way ts x y f/\f<d
   . obtain⟨f,hf,hlt⟩:=hl
     have:=hf.nn g
     exact ih f hf (by omega)
   . refine⟨d,hd,fun f hf=>?_⟩
     apply Classical.byContradiction
     intro hn
     exact hl ⟨f,hf,by omega⟩
 exact this _ d h (Nat.le_refl _)
theorem Nxt.exists {n:Int}{ts:List T3}(g:GW n ts){x y d:Int}(h:IsD ts x y d)(hne:x≠y):∃p,Nxt ts x y p:=by
 obtain⟨hw,hmin⟩:=h
 cases hw with
 | nil=>exact absurd rfl hne
 | cons ha w=>
  rename_i z l e
  obtain⟨f,hf⟩:=w.least g
  have h1:=hf.2 _ w
  have h2:=hmin _ (.cons ha hf.1)
  have:f=e:=by omega
  subst this
  exact⟨z,l,f,ha,hf,.cons ha hf.1,hmin⟩
theorem Nxt.ne {n:Int}{ts:List T3}(g:GW n ts){x y p:Int}(h:Nxt ts x y p):x≠y:=by
 obtain⟨l,b,ha,hb,hd⟩:=h
 intro e
 subst e
 have:=IsD.uniq hd (isD_self g x)
 have:=g.adj ha
 have:=hb.1.nn g
 omega
theorem Len.via {ts:List T3}{x y p a d:Int}{o:Option Int}(h1:IsD ts x p a)(h2:IsD ts x y d)(h3:Len ts p y o):∃b,o=some b/\d<=a+b:=by
 cases o with
 | none=>exact absurd (h1.1.symm.trans h2.1) (h3 _)
 | some b=>exact⟨b,rfl,h2.2 _ (h1.1.trans h3.1)⟩
end WM
namespace WM
end WM
namespace L2
open PySem PySem.Spec PyProof.Rows
def intO:KeyOrd:=⟨Int,fun a b=>decide (a<b),fun a=>decide_eq_false (by omega),fun a b c h1 h2=>decide_eq_true (by have:=of_decide_eq_true h1;have:=of_decide_eq_true h2;omega),
 fun a b c h=>by
  have h':a<c:=of_decide_eq_true h
  by_cases hab:a<b
  . exact .inl (decide_eq_true hab)
  . exact .inr (decide_eq_true (by omega)),
 fun a b h1 h2=>by have:=of_decide_eq_false h1;have:=of_decide_eq_false h2;omega⟩
theorem asks_ints {prog:Program}{w:World}{A:Around}{s:Shared}{a:Addr}{vs:List Value}{ns:List Int}(hI:IntsAre vs ns)(h2:2<=vs.length) :
 SortT.Asks prog w A s a vs (O:=intO) (fun i=>ns.getD i 0) oneType':=by
 have hl:=hI.length
 have at_:∀i,i<vs.length->∃t,vs.getD i Value.none = .int (ns.getD i 0) t:=fun i hi=>by
  obtain⟨n,hn⟩:∃n,ns[i]? = some n:=⟨_,List.getElem?_eq_getElem (by omega)⟩
  obtain⟨t,ht⟩:=hI.get i n hn
  exact⟨t,by rw[List.getD_eq_getElem?_getD,List.getD_eq_getElem?_getD,ht,hn];rfl⟩
 refine⟨fun h' Q E kh q=>?_,fun h' i j Q E kh hi hj q=>?_⟩
 . rw[ksk_kind (keys:=vs.toArray) (kz:=ns) (by simpa using hI) (by simpa using h2)]
   exact wpAny_pure q
 . obtain⟨t,e1⟩:=at_ i hi
   obtain⟨u,e2⟩:=at_ j hj
   rw[e1,e2]
   exact PySem.W.kat_lt_int q
theorem put_ints {vs:List Value}{ns:List Int}{out:List Nat}(hI:IntsAre vs ns)(p:SortT.Put (O:=intO) (fun i=>ns.getD i 0) vs.length out) :
 ∃ms:List Int,ms.Perm ns/\ms.Pairwise (· <= ·)/\Vals (ms.map V.int) (out.map fun i=>vs.getD i Value.none)/\ms.length=ns.length:=by
 have hl:=hI.length
 have hb:∀i∈out,i<vs.length:=fun i hi=>List.mem_range.mp (p.perm.mem_iff.mp hi)
 refine⟨out.map fun i=>ns.getD i 0,?_,?_,?_,?_⟩
 . have h1:=p.perm.map fun i=>ns.getD i 0
   have h2:(List.range vs.length).map (fun i=>ns.getD i 0)=ns:=by
    rw[show vs.length=ns.length by omega]
    apply List.ext_getElem?
    intro j
    rw[List.getElem?_map]
    by_cases hj:j<ns.length
    . rw[List.getElem?_range hj,List.getElem?_eq_getElem hj];simp[hj]
    . rw[List.getElem?_eq_none (by rw[List.length_range];omega),List.getElem?_eq_none (by omega)];rfl
   rw[h2] at h1
   exact h1
 . refine List.pairwise_iff_getElem.mpr fun i j hi hj hij=>?_
   rw[List.length_map] at hi hj
   have:=p.rise i j out[i] out[j] (Nat.le_of_lt hij) (by simp) (by simp)
   have h3:decide (ns.getD out[j] 0<ns.getD out[i] 0)=false:=this
   have h4:=of_decide_eq_false h3
   rw[List.getElem_map,List.getElem_map]
   omega
 . have:∀l:List Nat,(∀i∈l,i<vs.length)->Vals ((l.map fun i=>ns.getD i 0).map V.int) (l.map fun i=>vs.getD i Value.none):=by
    intro l
    induction l with
    | nil=>intro _;exact .nil
    | cons i l ih=>
     intro h
     have hi:=h i List.mem_cons_self
     obtain⟨n,hn⟩:∃n,ns[i]? = some n:=⟨_,List.getElem?_eq_getElem (by omega)⟩
     obtain⟨t,ht⟩:=hI.get i n hn
     refine .cons ?_ (ih fun j hj=>h j (List.mem_cons_of_mem _ hj))
     show RelV (V.int (ns.getD i 0)) (vs.getD i Value.none)
     rw[List.getD_eq_getElem?_getD,List.getD_eq_getElem?_getD,ht,hn]
     exact⟨t,rfl⟩
   exact this out hb
 . rw[List.length_map,p.perm.length_eq,List.length_range];omega
section
variable {X:Cx}
theorem call_sortedK (hc:X.calm=true):CallR X (.builtin "sorted") (fun xs H Q=>∃p kvs ns,xs=[.ref p]/\H p=some (.dK kvs)/\kvs.map (·.1)=ns.map Sum.inl/\ns.length<64 /\
 ∀(l:Addr)(ms:List Int),H l=none->ms.Perm ns->ms.Pairwise (· <= ·)->Q (.ref l) (upd H l (.lst (ms.map V.int)))):=by
 intro pins s σ H xs us Q I r h
 obtain⟨p,kvs,ns,rfl,hd,hks,h64,q⟩:=h
 obtain⟨u,rfl,rx⟩:=vals1 r
 cases rx
 obtain⟨hz,lo,vs,rel,o,es,ep,ho,hx,hdat,_,hpr,hnd⟩:=dk_of I.hok hd
 have key:∀(es:List DictEntry)(kvs:List (Key×V))(vs:List (Key×Value))(ns:List Int),KV kvs vs->Pairs (mixKind X.prog X.w) es vs->kvs.map (·.1)=ns.map Sum.inl->IntsAre (es.map (·.key)) ns:=by
  intro es
  induction es with
  | nil=>
   intro kvs vs ns rel pr e
   cases pr
   cases rel
   cases ns with
   | nil=>exact .nil
   | cons n ns=>simp at e
  | cons d es ih=>
   intro kvs vs ns rel pr e
   cases pr with
   | cons k1 k2 k3=>
    cases rel with
    | cons hpq t=>
     cases ns with
     | nil=>simp at e
     | cons n ns=>
      simp only[List.map_cons,List.cons.injEq] at e
      rw[<-hpq.1,e.1] at k1
      obtain⟨t0,e0⟩:=Value.isInt_shape (k:=n) (v:=d.key) k1
      rw[List.map_cons,e0]
      exact .cons n t0 (ih _ _ _ t k3 e.2)
 have hI:IntsAre (es.toList.map (·.key)) ns:=key _ _ _ _ rel hpr hks
 have hl:=hI.length
 refine SortT.sorted_dict (O:=intO) (key:=fun i=>ns.getD i 0) (κ:=oneType') (vs:=es.toList.map (·.key)) (I.ok.hd hc) lo ⟨o,ho,hx,hdat⟩ rfl (by omega) (fun h2 s' a fa kp=>asks_ints hI h2) fun h1 D h' t' out c pt k1 hD k2 ho=>?_
 obtain⟨ms,hp,hr,rz,hlz⟩:=put_ints hI pt
 have I1:Inv X pins σ H { s with heap:=h1,toks:=s.toks }:=I.kept k1
 refine⟨.ref D,_,sorted_fin (s:={ s with heap:=h1,toks:=s.toks }) (t':=t') I1 hD k2 ho rz ?_,rfl,q D ms (I1.hok.fresh hD) hp hr⟩
 have:sizeLine=16777216:=rfl
 rw[List.length_map]
 omega
end
def CodePhi (c:Addr)(q:Str):Heap->Prop:=fun h=>∃o vs t,h.get? c=some o/\o.data = .fields vs/\vs[1]? = some (.str q t)
def TabAt (H:Hp)(P:Addr)(pos:Pos)(q:Str):Prop:=∃ps,H P=some (.tbl ps)/\TriplesOk ps.toList/\(codeAmong pos ps.toList=none\/∃c,codeAmong pos ps.toList=some (.ref c)/\H c=some (.ext (CodePhi c q)))
def SmT (H H':Hp):Prop:=∀b o,H b=some o->(∃ps,o = .tbl ps)\/H' b=some o
theorem SmT.refl (H:Hp):SmT H H:=fun _ _ e=>.inr e
theorem SmT.of {H H':Hp}(h:Same H H'):SmT H H':=fun b o e=>.inr (h b o e)
theorem SmT.trans {H H1 H2:Hp}(a:SmT H H1)(b:SmT H1 H2):SmT H H2:=fun c o e=>by
 rcases a c o e with z | z
 . exact .inl z
 . exact b c o z
theorem TabAt.keep {H H':Hp}{P:Addr}{pos:Pos}{q:Str}(h:TabAt H P pos q)(k:∀o,H P=some o->H' P=some o)(k2:∀c φ,H c=some (.ext φ)->H' c=some (.ext φ)):TabAt H' P pos q:=by
 obtain⟨ps,a,b,c⟩:=h
 exact⟨ps,k _ a,b,c.imp id fun ⟨c,e,f⟩=>⟨c,e,k2 _ _ f⟩⟩
theorem TabAt.same {H H':Hp}{P:Addr}{pos:Pos}{q:Str}(h:TabAt H P pos q)(k:Same H H'):TabAt H' P pos q:=h.keep (fun _=>k _ _) fun _ _=>k _ _
def BmAt (mg:Str->Option Value)(h:Heap):Prop:=∃bm ob,mg "__builtins__" = some (.ref bm)/\bm≠builtinsNs/\h.get? bm=some ob/\ob.cls = .type "module" /\ ob.dict=some builtinsNs/\ob.data = .plain
theorem ns_inj {h:Heap}{a:Addr}{m m':Str->Option Value}(x:h.Ns a m)(y:h.Ns a m'):m=m':=by
 obtain⟨o,es,ep,e,d,_,f⟩:=x
 obtain⟨o',es',ep',e',d',_,f'⟩:=y
 rw[e] at e';cases e'
 rw[d] at d';cases d'
 funext n
 rw[<-f n,<-f' n]
section
variable {X:Cx}{pins:List (Addr×Obj)}{σ:St}{H:Hp}{s:Shared}
theorem Inv.growL {Pt c':Addr}{ps more:Array Value}{o:HO}{t':Nat}{h':Heap}(I:Inv X pins σ H s)(hP:H Pt=some (.tbl ps))(hp:s.heap.objs.size<=c')(k:∀b u,b≠Pt->s.heap.get? b=some u->h'.get? b=some u)
 (newP:h'.get? Pt=some (PySem.W.tabObj (ps++more)))(new:ObjOk X.prog X.w (upd (upd H Pt (.tbl (ps++more))) c' o) h' c' o) :
 Inv X pins σ (upd (upd H Pt (.tbl (ps++more))) c' o) { s with heap:=h',toks:=t' }:=by
 have hc:H c'=none:=I.hok.fresh hp
 have nP:∀b,H b=none->b≠Pt:=fun b n z=>by rw[z,hP] at n;cases n
 have nc:∀b u,s.heap.get? b=some u->b≠c':=fun b u e=>Nat.ne_of_lt (Nat.lt_of_lt_of_le (Heap.lt_size e) hp)
 have up:∀b u,H b=some u->b≠Pt->(upd (upd H Pt (.tbl (ps++more))) c' o) b=some u:=fun b u e hb=>by rw[upd_ne (ne_of_none e hc),upd_ne hb];exact e
 refine I.un ⟨fun b u e n _ _=>k b u (nP b n) e,fun b u e n _ _=>⟨u.slots,k b u (nP b n) e⟩,fun b u e n _=>by rw[upd_ne (nc b u e),upd_ne (nP b n)];exact n,fun b u e _=>?_,fun b xs e=>up b _ e (ne_of e hP (by intro z;cases z)),fun b ob u e=>up b _ e (ne_of e hP (by intro z;cases z)),fun b qs e=>?_⟩ ?_
 . by_cases hb:b=Pt
   . rw[hb];exact⟨_,newP⟩
   . exact⟨u,k b u hb e⟩
 . by_cases hb:b=Pt
   . subst hb
     rw[hP] at e;cases e
     exact⟨more,by rw[upd_ne (ne_of_none hP hc),upd_same]⟩
   . exact⟨#[],by rw[up b _ e hb];simp⟩
 . intro b u e
   by_cases hbc:b=c'
   . subst hbc;rw[upd_same] at e;cases e;exact new
   . rw[upd_ne hbc] at e
     by_cases hb:b=Pt
     . subst hb;rw[upd_same] at e;cases e;exact newP
     . rw[upd_ne hb] at e
       refine (I.hok b u e).stay (fun d v hd q=>k d v ?_ q) (fun d q=>up d _ q (ne_of q hP (by intro z;cases z))) fun d xs q=>up d _ q (ne_of q hP (by intro z;cases z))
       rcases hd with z | z
       . rw[z];exact hb
       . exact ne_of z hP (by intro z';cases z')
theorem lam_ev {P c:Addr}{params:Arguments}{body:Expr}{lscope:Scope}{lpos:Pos}{Q:Value->Shared->Prop}{E:Value->Shared->Prop}(I:Inv X pins σ H s)(T:TabAt H P lpos (X.env.qual ++ "<lambda>"))
 (hcode:X.env.code = .ref c)(C:PySem.W.CodeHd X.base c P)(hbm:BmAt X.mg X.base)(hfree:∀y∈lscope.names,y.2 = .free->X.env.kindOf y.1=some .cell)(hdef:defaultsOf params X.env=([],[]))
 (h:∀(f:Addr)(pm cv ctv:Value)(s':Shared)(H':Hp),Inv X pins σ H' s'->SmT H H'->TabAt H' P lpos (X.env.qual ++ "<lambda>")->s.heap.objs.size<=f ->
  s'.heap.get? f=some { cls:=.type "function",data:=.func (PySem.W.kla_fn "<lambda>" (X.env.qual ++ "<lambda>") params body lscope (clOf X.env.cells lscope.names []) pm cv ctv) } ->
  s'.heap.CodeRec cv (X.env.qual ++ "<lambda>")->Q (.ref f) s') :
 wpAny (model X.prog X.w) X.A (eval (.Lambda params body lscope lpos) X.env) Q E s:=by
 obtain⟨ps,hP,ht,hcase⟩:=T
 have oP:s.heap.get? P=some (PySem.W.tabObj ps):=I.hok P _ hP
 have hg:=I.mod.glob.keeps I.bk
 have C':PySem.W.CodeHd s.heap c P:=C.keeps I.bk
 have hcl:closureFor lscope X.env=pure (clOf X.env.cells lscope.names []):=closureFor_eq fun y hy hf=>I.ok.has y.1 (.inl (hfree y hy hf))
 have nP:∀b o,X.base.get? b=some o->b≠P:=fun b o e z=>by
  have:=(I.bs b o e).2
  rw[z,hP] at this;cases this
 have hgP:mainGlobals≠P:=by
  obtain⟨o,es,ep,e,_⟩:=I.mod.glob
  exact nP _ _ e
 have hb:s.heap.BuiltinsAt X.mg P:=by
  obtain⟨bm,ob,b1,b2,b3,b4,b5,b6⟩:=hbm
  refine⟨bm,ob,b1,b2,fun z=>?_,nP _ _ b3,I.bk _ _ b3,b4,b5,b6⟩
  obtain⟨o,es,ep,e,hd,_⟩:=I.mod.glob
  rw[z,e] at b3;cases b3;rw[hd] at b6;cases b6
 refine PySem.W.kla_eval hdef ?_
 rcases hcase with hn | ⟨c1,hc1,hH⟩
 . refine PySem.W.kla_makeFunction (mg:=X.mg) hcl I.ok.glob hg hcode C' oP ht hn hgP hb fun c' ctv h' tk hx hge hlt hrec htb=>?_
   obtain⟨c2,oc,vs,t,e2,hoc,hd,hv⟩:=id hrec
   cases e2
   have kp:∀b u,b≠P->s.heap.get? b=some u->(h'.push (PySem.W.kla_obj "<lambda>" (X.env.qual ++ "<lambda>") params body lscope (clOf X.env.cells lscope.names []) ((X.mg "__name__").getD .none) c' ctv)).get? b=some u:=fun b u hb' e=>Heap.get?_push_of_some _ (hx b u hb' e)
   have hcn:H c'=none:=I.hok.fresh hge
   have nPc:P≠c':=ne_of_none hP hcn
   refine h h'.objs.size ((X.mg "__name__").getD .none) (.ref c') ctv _ _ (I.growL (c':=c') (o:=.ext (CodePhi c' (X.env.qual ++ "<lambda>"))) (t':=tk) hP hge kp (Heap.get?_push_of_some _ htb) ⟨⟨oc,vs,t,Heap.get?_push_of_some _ hoc,hd,hv⟩,⟨oc,Heap.get?_push_of_some _ hoc⟩,fun h1 h2 ⟨o1,v1,t1,a1,a2,a3⟩ k12=>⟨o1,v1,t1,k12 _ a1,a2,a3⟩⟩) ?_ ?_ ?_ ?_ ?_
   . intro b o e
     by_cases hbP:b=P
     . left
       rw[hbP,hP] at e
       exact⟨ps,(Option.some.inj e).symm⟩
     . right
       rw[upd_ne (ne_of_none e hcn),upd_ne hbP];exact e
   . refine⟨ps ++ #[rawInt lpos.line,rawInt lpos.col,.ref c'],by rw[upd_ne nPc,upd_same],?_,.inr ⟨c',?_,upd_same⟩⟩
     . rw[Array.toList_append];exact TriplesOk_snoc _ _ _ _ ht
     . rw[Array.toList_append];exact codeAmong_snoc _ ht hn
   . have:=Nat.le_of_lt (Nat.lt_of_le_of_lt hge hlt)
     exact this
   . exact Heap.get?_push_size _ rfl
   . exact hrec.keeps fun b o e=>Heap.get?_push_of_some _ e
 . obtain⟨⟨oc,vs,t,hoc,hd,hv⟩,_⟩:=I.hok c1 _ hH
   refine PySem.W.kla_makeFunctionHit (mg:=X.mg) hcl I.ok.glob hg hcode C' oP ht hc1 hb fun ctv h' tk hk hsz=>?_
   refine h h'.objs.size ((X.mg "__name__").getD .none) (.ref c1) ctv _ _ (I.kept (t':=tk) fun b u e=>Heap.get?_push_of_some _ (hk b u e)) (SmT.refl _) ⟨ps,hP,ht,.inr ⟨c1,hc1,hH⟩⟩ hsz (Heap.get?_push_size _ rfl) ⟨c1,oc,vs,t,rfl,Heap.get?_push_of_some _ (hk _ _ hoc),hd,hv⟩
end
theorem free_of {X:Cx}{sc:Scope}(h:(sc.names.all fun y=>y.2 != .free || X.env.kindOf y.1==some .cell)=true):∀y∈sc.names,y.2 = .free->X.env.kindOf y.1=some .cell:=fun y hy e=>by
 have a:=List.all_eq_true.mp h y hy
 rw[e] at a
 simpa using a
section
variable {X:Cx}
def tMinKey (j:Nat)(P:Addr)(lpos:Pos)(q:Str)(t:TA):TE:=fun σ H Q=>t σ H fun vs H1=>∃(l d:Addr)(ns:List Int)(kvs:List (Key×V))(val:Int->Int),vs=[.ref l]/\H1 l=some (.lst (ns.map V.int))/\ns≠[]/\σ[j]? = some (some (.ref d))/\H1 d=some (.dK kvs) /\
 (∀n∈ns,valV kvs (Sum.inl n)=some (.int (val n)))/\TabAt H1 P lpos q/\∀(M:Int)(H2:Hp),M∈ns->(∀n∈ns,val M<=val n)->SmT H1 H2->TabAt H2 P lpos q->Q (.int M) H2
theorem pe_minkey {k j:Nat}{P c:Addr}{dn pn:Str}{e:Expr}{t:TA}{params:Arguments}{lscope:Scope}{lpos pos np p1 p2 p3 kpos:Pos}
 (hc:X.calm=true)(hr:Room (k+1) X.A)(hg:Gl X "min") (hm:X.mg "min" = none) (he:PA X [e] t)(hcode:X.env.code = .ref c)(C:PySem.W.CodeHd X.base c P)(hbm:BmAt X.mg X.base)
 (hN:X.N[j]? = some dn)(hkd:X.env.kindOf dn=some .cell)(hS:lscope.kind = .function)(hco:lscope.isCoroutine=false)(hgen:lscope.isGenerator=false)(hcell:∀x∈lscope.names,x.2 ≠ .cell)
 (hfree:∀y∈lscope.names,y.2 = .free->X.env.kindOf y.1=some .cell)(hdn:lscope.names.lookup dn=some .free)(hpn:lscope.names.lookup pn=some .local)(hdef:defaultsOf params X.env=([],[]))
 (hbind:∀(q:Str)(body:Expr)(cl:List (Str×Addr))(pm cdv ct v:Value),bindArgs (PySem.W.kla_fn "<lambda>" q params body lscope cl pm cdv ct) ⟨[v],[]⟩=pure [(pn,v)])
 (hd1:(dn==("__debug__" : Str))=false:=by decide) (hd2:(dn==("__classdict__" : Str))=false:=by decide) (hd3:(pn==("__debug__" : Str))=false:=by decide)
 (hs1:backTo pos (starEach [e] X.env)=(false,eval e X.env)::backTo pos (starEach [] X.env):=by rfl)(hs2:(backTo pos (starEach [e] X.env)).any (·.1)=false:=by rfl) :
 PE X (.Call (.Name "min" np) [e] [⟨some "key",.Lambda params (.Subscript (.Name dn p1) (.Name pn p2) p3) lscope lpos,kpos⟩] pos) (tMinKey j P lpos (X.env.qual ++ "<lambda>") t):=by
 intro pins s σ H Q I h
 refine wpAny_Call_Name_kw (ld_blt I hg hm (by decide +kernel:bootBuiltins "min" = some (.builtin "min")) ?_)
 refine PyProof.Rows.callWith_kw (thn (he pos pins s σ H _ I h) fun us s1 ⟨vs,H1,I1,r,q1⟩=>?_) hs1 hs2
 obtain⟨l,d,ns,kvs,val,rfl,hl,hne,hσ,hdd,hval,T,q⟩:=q1
 obtain⟨u,rfl,rx⟩:=vals1 r
 cases rx
 show wpAny _ _ (evalAll ((do let v <-eval (.Lambda params (.Subscript (.Name dn p1) (.Name pn p2) p3) lscope lpos) X.env;standAt pos;pure v)::[])) _ _ s1
 refine wpAny_evalAll_cons (wpAny_bind (lam_ev I1 T hcode C hbm hfree hdef fun f pm cv ctv s2 H2 I2 sm T2 hfge hf hrec=>wpAny_bind (wpAny_standAt (wpAny_pure (wpAny_evalAll_nil ?_)))))
 show wpAny _ _ (call (.builtin "min") [.ref l] [(Str.ofString "key",.ref f)]) _ _ s2
 have keep2:∀b o,H1 b=some o->(∀ps,o ≠ .tbl ps)->H2 b=some o:=fun b o e ho=>by
  rcases sm b o e with ⟨ps,z⟩ | z
  . exact absurd z (ho ps)
  . exact z
 have hl2:H2 l=some (.lst (ns.map V.int)):=keep2 _ _ hl (by intro ps z;cases z)
 have hd2':H2 d=some (.dK kvs):=keep2 _ _ hdd (by intro ps z;cases z)
 obtain⟨_,its,nn,rv,ho⟩:=I2.hok l _ hl2
 obtain⟨hz,lo,vs,rel,od,es,ep,hod,hdr⟩:=dk_of I2.hok hd2'
 have hI:IntsAre its ns:=intsAre_of rv
 obtain⟨m,F0⟩:=I2.fr
 have notL:∀b o,H2 b=some o->b≠X.env.locals:=fun b o e z=>by rw[z,I2.free] at e;cases e
 have kp:∀(h':Heap)(own:List (Addr×Obj)),Fr X.base X.env.locals h' m->News X.base X.env.locals h' (allNews X.base s2.heap X.env.locals++own)->∀b o,b≠X.env.locals->s2.heap.get? b=some o->h'.get? b=some o:=fun h' own F' N' b o hb e'=>by
  cases qb:X.base.get? b with
  | some u=>
   have z:=I2.bk b u qb
   rw[e'] at z;cases z
   exact F'.keep b _ qb
  | none=>exact (N' (b,o) (List.mem_append_left _ (mem_allNews hb qb e'))).1
 obtain⟨m',hn',hloc⟩:=I2.loc
 have em:m'=m:=ns_inj hn' F0.ns
 subst em
 obtain⟨ud,rd,lk⟩:=hloc j dn (.ref d) hN hσ (.inr (.inl hkd))
 cases (show ud=Value.ref d from rd)
 obtain⟨cc,hcc,oc,hoc,hdc⟩:∃cc,X.env.cells.lookup dn=some cc/\s2.heap.IsCell cc (some (.ref d)):=by
  rcases lk with ⟨z,_⟩ | ⟨_,cc,a,b⟩
  . rw[hkd] at z;cases z
  . exact⟨cc,a,b⟩
 have hcl:(clOf X.env.cells lscope.names []).lookup dn=some cc:=by
  obtain⟨c',hc'⟩:=clOf_has ⟨cc,hcc⟩ lscope.names [] (PySem.mem_of_lookup hdn)
  rcases clOf_sub _ _ hc' with z | z
  . simp at z
  . rw[hcc] at z;cases z;exact hc'
 have hsz0:X.env.locals<s1.heap.objs.size:=I1.lt
 have hfL:f≠X.env.locals:=Nat.ne_of_gt (Nat.lt_of_lt_of_le hsz0 hfge)
 refine PyProof.Rows.kmk_min_letter (h₀:=X.base) (L:=X.env.locals) (m:=m') (news:=allNews X.base s2.heap X.env.locals) (ns:=ns) val (I2.ok.hd hc) F0 news_all (fun h' F' N'=>?_) hI (List.length_pos_iff.mpr hne) (fun n tn h' tk own hn F' N'=>?_) (fun M tM h' tk F' N' hM hbest=>?_)
 . exact⟨_,kp h' [] F' (by rw[List.append_nil];exact N') l _ (notL _ _ hl2) ho,rfl,nn,rfl⟩
 . have kk:=kp h' own F' N'
   obtain⟨c1,o1,v1,t1,e1,ho1,hd1',hv1⟩:=id hrec
   subst e1
   have hc1L:c1≠X.env.locals\/True:=.inr trivial
   have rec':h'.CodeRec (.ref c1) (X.env.qual ++ "<lambda>"):=by
    refine⟨c1,o1,v1,t1,rfl,kk c1 o1 (fun z=>?_) ho1,hd1',hv1⟩
    obtain⟨oL,esL,epL,hoL,hdL,_⟩:=F0.ns
    rw[z,hoL] at ho1;cases ho1;rw[hdL] at hd1';cases hd1'
   refine wpAny_call (PySem.W.kla_callFunE hr.in1.depth (kk f _ hfL hf) rfl hco hgen rfl rec' ?_)
   rw[hbind]
   refine wpAny_pure (wpAny_newFunctionEnv hcell (fun y hy=>?_) (fun h₁ hns hsb=>?_) hS)
   . obtain rfl:y=(pn,Value.int n tn):=List.mem_singleton.mp hy
     exact hpn
   . have hk₁:∀b o,h'.get? b=some o->h₁.get? b=some o:=fun b o e'=>hsb.extBut b o (Nat.ne_of_lt (Heap.lt_size e')) (Heap.get?_push_of_some _ e')
     refine⟨I2.mod.nolimit.keeps fun b o e'=>hk₁ b o (F'.keep b o e'),?_⟩
     show codeAny _ _ (.expr (.Subscript (.Name dn p1) (.Name pn p2) p3) (PySem.W.envX (X.env.qual ++ "<lambda>") lscope h'.objs.size f (.ref c1) (clOf X.env.cells lscope.names []))) _ _
     refine PySem.W.kla_codeExpr (subD_of PySem.F.slot_dict_getitem.lookup (fun _ _=>rfl) ?_)
     refine wpAny_Name (wpAny_loadName_free hS (show (PySem.W.envX (X.env.qual ++ "<lambda>") lscope h'.objs.size f (.ref c1) (clOf X.env.cells lscope.names [])).kindOf dn=some .free from hdn) hcl ⟨oc,hk₁ _ _ (kk cc oc (I2.cne dn cc hcc) hoc),hdc⟩ ?_ hd2) hd1
     refine wpAny_Name (wpAny_loadName_local hS (show (PySem.W.envX (X.env.qual ++ "<lambda>") lscope h'.objs.size f (.ref c1) (clOf X.env.cells lscope.names [])).kindOf pn=some .local from hpn) hns (v:=.int n tn) (by simp) ?_) hd3
     have dd:h₁.DictOf (mixKind X.prog X.w) d vs:=⟨od,es,ep,hk₁ _ _ (kk d od (notL _ _ hd2') hod),hdr⟩
     refine⟨dd.typeIs,?_⟩
     obtain⟨w',hw,rw'⟩:=RelO.some_of (v:=.int (val n)) (o:=valueAt vs (Sum.inl n)) (by rw[<-hval n hn];exact rel.val (Sum.inl n))
     obtain⟨t',rfl⟩:=rw'
     refine wpAny_getItem_of (kV_is (k:=Sum.inl n) ⟨tn,rfl⟩) dd.mapOf hw ?_
     exact⟨h₁,_,t',rfl,rfl,⟨F'.ns.keeps hk₁,fun b o e'=>hk₁ b o (F'.keep b o e'),F'.above⟩,fun p hp=>⟨hk₁ _ _ (N' p hp).1,(N' p hp).2⟩⟩
 . have kk:=kp h' [] F' (by rw[List.append_nil];exact N')
   have I3:Inv X pins σ H2 { s2 with heap:=h',toks:=tk }:=by
    refine I2.step (g':=s2.gens) (d':=s2.drawn) (ch:=[]) (fun _ z=>nomatch z) (fun b o hb _ _ e' _=>kk b o hb e') (fun b o hb _ _ e' _=>⟨o.slots,kk b o hb e'⟩) (fun _ _ _ _ n=>n) (fun b o _ e'=>?_) (fun _ _ e'=>e') (fun _ _ _ e'=>e') (fun b ps e'=>⟨#[],by rw[e'];simp⟩) (fun mm hmm=>?_) ?_ I2.bare
    . by_cases hb:b=X.env.locals
      . obtain⟨oL,esL,epL,hoL,_⟩:=F'.ns
        exact⟨oL,by rw[hb];exact hoL⟩
      . exact⟨o,kk b o hb e'⟩
    . have:=ns_inj hmm F0.ns
      subst this
      exact F'.ns
    . intro b u e'
      refine (I2.hok b u e').stay (fun x v hx z=>kk x v ?_ z) (fun _ z=>z) fun _ _ z=>z
      rcases hx with z1 | z1
      . rw[z1];exact notL _ _ e'
      . exact notL _ _ z1
   exact⟨.int M,H2,I3,⟨tM,rfl⟩,q M H2 hM hbest sm T2⟩
end
theorem law_callT {P:Program}{w:World}{K:PySem.W.Frag}{mg mb:Str->Option Value}{CX:CXT}{k:Nat}{fa a PT:Addr}{fd:FuncData}{x:Str}{sp:Sp}{s₁:Shared}{vs:List Value}{ns:List Int}
 (KX:K.In s₁.heap)(hns:s₁.heap.Ns mainGlobals mg)(hb:s₁.heap.Ns builtinsNs mb)(hbb:∀x:Str,x ≠ "__name__" -> mb x=bootBuiltins x) (hlim:s₁.heap.NoLimit)(hg:s₁.gens = #[])
 (ha:s₁.heap.get? a=some { cls:=.type "list",data:=.seq vs.toArray }) (hi:IntsAre vs ns)(hl:ns.length<=sizeLine)(hr:Room k callerA)
 (hT:s₁.heap.get? PT=some (PySem.W.tabObj #[]))(hC:isCodeTable s₁.heap PT)(hK:PySem.W.noTabs K=true)(hbm:BmAt mg s₁.heap)
 (F:∀base:Heap,K.In base->base.Ns mainGlobals mg->BmAt mg base->FnOk P w K mg base CX k fa fd [x] sp)(hbind:∀(s:Shared)(u:Value),BindsTo s fd ⟨[u],[]⟩ [(x,u)])
 (hsp:∀H:Hp,H PT=some (.tbl #[])->SqL K H a (ns.map V.int)->sp [.ref a] H (fun v _=>v = .bl true) fun _ _ _=>False)
 (hCX:∀H e s',CX [] H s₁ (fun _ _ _=>False) e s'->False) :
 codeAny (model P w) callerA (.call (.ref fa) ⟨[.ref a],[]⟩) (fun r s'=>r = .ok (.ret (.bool true))/\OldK s₁.heap s'.heap/\s'.os=s₁.os/\AllBare s'.gens) s₁:=by
 have rv:=vals_ints hi
 have lenV:=hi.length
 have npa:PT≠a:=fun e=>by rw[e,ha] at hT;cases hT
 have kPT:K.lookup PT=none:=by
  cases q:K.lookup PT with
  | none=>rfl
  | some o=>
   have e:=KX PT o q
   rw[hT] at e
   cases e
   have h2:=List.all_eq_true.mp hK (PT,_) (PySem.W.mem_of_lookupK q)
   exact absurd (show false=true from h2) Bool.false_ne_true
 have core:∀H:Hp,(∀b u,H b=some u->(b=PT/\u = .tbl #[])\/(b=a/\K.lookup a=none/\∃o xs,u = .frz o (.lst xs)))->H PT=some (.tbl #[])->SqL K H a (ns.map V.int)->HOk P w H s₁.heap ->
  codeAny (model P w) callerA (.call (.ref fa) ⟨[.ref a],[]⟩) (fun r s'=>r = .ok (.ret (.bool true))/\OldK s₁.heap s'.heap/\s'.os=s₁.os/\AllBare s'.gens) s₁:=by
  intro H hA hP hS hok
  have base_of:∀{b:Addr}{o:Obj},s₁.heap.get? b=some o->H b=none->(hidT s₁.heap H).get? b=some o:=fun e n=>hidT_get e n
  have noA:∀{b:Addr}{o:Obj},s₁.heap.get? b=some o->(∀ps,o.data ≠ .fields ps)->(∀ps n,o.data ≠ .seq ps n)->H b=none:=fun {b o} e d1 d2=>by
   cases q:H b with
   | none=>rfl
   | some u=>
    rcases hA b u q with ⟨rfl,_⟩ | ⟨rfl,_⟩
    . rw[hT] at e;cases e;exact absurd rfl (d1 #[])
    . rw[ha] at e;cases e;exact absurd rfl (d2 _ _)
  have nsK:∀{b:Addr}{m:Str->Option Value},s₁.heap.Ns b m->(hidT s₁.heap H).Ns b m:=fun {b m} ⟨o,es,ep,e,d,r⟩=>⟨o,es,ep,base_of e (noA e (fun ps z=>by rw[d] at z;cases z) (fun ps n z=>by rw[d] at z;cases z)),d,r⟩
  have hKb:K.In (hidT s₁.heap H):=fun b o e=>base_of (KX b o e) (by
   cases q:H b with
   | none=>rfl
   | some u=>
    rcases hA b u q with ⟨rfl,_⟩ | ⟨rfl,z,_⟩
    . rw[kPT] at e;cases e
    . rw[z] at e;cases e)
  have hBm:BmAt mg (hidT s₁.heap H):=by
   obtain⟨bm,ob,b1,b2,b3,b4,b5,b6⟩:=hbm
   exact⟨bm,ob,b1,b2,base_of b3 (noA b3 (fun ps z=>by rw[b6] at z;cases z) (fun ps n z=>by rw[b6] at z;cases z)),b4,b5,b6⟩
  have hM:Mod K mg (hidT s₁.heap H):=⟨hKb,nsK hns,⟨mb,nsK hb,hbb⟩,let ⟨mc,h1,h2⟩:=hlim;⟨mc,nsK h1,h2⟩⟩
  have e0:Env0 P w K mg (hidT s₁.heap H) callerA [] s₁ H:=⟨rfl,hM,fun b o e=>of_hidT e,Nat.le_of_eq (hidT_size _ _),trivial,fun b hb=>absurd (show b∈([]:List Addr) from hb) (by simp),hok,.of_eq hg⟩
  refine codeAny_mono ((F _ hKb (nsK hns) hBm).run callerA [] s₁ H ⟨[.ref a],[]⟩ [.ref a] [.ref a] _ _ hr e0 (hbind s₁ (.ref a)) (.cons rfl .nil) (hsp H hP hS)) fun r s' h=>?_
  cases r with
  | error e=>exact (hCX H e s' h).elim
  | ok fl=>
   cases fl with
   | next=>exact False.elim h
   | brk=>exact False.elim h
   | cont=>exact False.elim h
   | ret u=>
    obtain⟨v,H',os,bare,un,hok',r',q⟩:=h
    have q':v = .bl true:=q
    subst q'
    obtain rfl:u=Value.bool true:=r'
    obtain⟨more,hPn⟩:=un.tbls PT _ hP
    have objP:s'.heap.get? PT=some { cls:=.none,data:=.fields (#[]++more) }:=hok' PT _ hPn
    have keep:∀b o,b≠PT->s₁.heap.get? b=some o->s'.heap.get? b=some o:=fun b o hb e=>by
     cases q:H b with
     | none=>exact un.keep b o e q (by intro z;exact absurd (show b∈([]:List Addr) from z) (by simp)) (by simp)
     | some u=>
      rcases hA b u q with ⟨z,_⟩ | ⟨_,_,ob,xs,z⟩
      . exact absurd z hb
      . subst z
        have z2:=un.frzs b ob _ q
        obtain⟨e1,_⟩:=hok b _ q
        obtain⟨e2,_⟩:=hok' b _ z2
        rw[e] at e1;cases e1
        exact e2
    refine⟨rfl,⟨fun b o e=>?_,fun b o e=>?_⟩,os,bare⟩
    . by_cases hb:b=PT
      . subst hb
        rw[hT] at e;cases e
        exact .inr (.inl ⟨hC,rfl,#[],more,rfl,objP⟩)
      . exact .inl (keep b o hb e)
    . by_cases hb:b=PT
      . rw[hb];exact⟨_,objP⟩
      . exact⟨o,keep b o hb e⟩
 have okP:∀H:Hp,ObjOk P w H s₁.heap PT (.tbl #[]):=fun H=>hT
 cases hk:K.lookup a with
 | some o=>
  have e:=KX a o hk
  rw[ha] at e
  cases e
  refine core (fun b=>if b=PT then some (.tbl #[]) else none) (fun b u z=>?_) (if_pos rfl) (.inr ⟨_,vs.toArray,_,hk,rfl,rfl,rfl,by rw[List.size_toArray,lenV];exact hl,by simpa using rv⟩) (fun b u z=>?_)
  all_goals
   have z':(if b=PT then some (HO.tbl #[]) else none)=some u:=z
   by_cases hb:b=PT
   . rw[if_pos hb] at z';cases z'
     first
      | exact .inl ⟨hb,rfl⟩
      | (subst hb;exact okP _)
   . rw[if_neg hb] at z';cases z'
 | none=>
  refine core (fun b=>if b=PT then some (.tbl #[]) else if b=a then some (.frz { cls:=.type "list",data:=.seq vs.toArray } (.lst (ns.map V.int))) else none) (fun b u z=>?_) (if_pos rfl)
   (.inl (.inr ⟨{ cls:=.type "list",data:=.seq vs.toArray },by show (if a=PT then _ else if a=a then _ else _)=_;rw[if_neg npa.symm,if_pos rfl]⟩)) (fun b u z=>?_)
  all_goals
   have z':(if b=PT then some (HO.tbl #[]) else if b=a then some (.frz { cls:=.type "list",data:=.seq vs.toArray } (.lst (ns.map V.int))) else none)=some u:=z
   by_cases hb:b=PT
   . rw[if_pos hb] at z';cases z'
     first
      | exact .inl ⟨hb,rfl⟩
      | (subst hb;exact okP _)
   . rw[if_neg hb] at z'
     by_cases hba:b=a
     . rw[if_pos hba] at z';cases z'
       first
        | exact .inr ⟨hba,hk,_,_,rfl⟩
        | (subst hba;exact⟨ha,by rw[List.length_map];exact hl,vs,_,rv,ha⟩)
     . rw[if_neg hba] at z';cases z'
theorem walk_T {l:PySem.W.OpenLaw}{n k:Nat}{q:Program}{loose:List Str}{XP:(Str->Option Value)->Heap->Prop}{YP:World->Heap->Prop}{d:DefRec}{K:Params->PySem.W.Frag}{CX:CXT}{sp:PySem.W.Frag->Addr->Sp}{x tn:Str}
 (hn:l.most=some n)(hn2:n<=sizeLine)(hdf:d.params.defaults=[])(hr:Room k callerA)(hrec:∃dn,(recsOf q).find? (fun e=>e.name==tn)=some dn)
 (hY:∀(w:World)(h:Heap),YP w h->(K w.params).In h)
 (F:∀(w:World)(mg:Str->Option Value)(fa:Addr)(h:Heap),(K w.params).In h->h.Ns mainGlobals mg->mg d.name=some (.ref fa) ->
  ∃(fd:FuncData)(c PT:Addr),PySem.W.tabIn (K w.params) tn=some (c,PT)/\PySem.W.noTabs (K w.params)=true/\(∀(s:Shared)(u:Value),BindsTo s fd ⟨[u],[]⟩ [(x,u)]) /\
   ∀base:Heap,(K w.params).In base->base.Ns mainGlobals mg->BmAt mg base->FnOk l.prog w (K w.params) mg base CX k fa fd [x] (sp (K w.params) PT))
 (hsp:∀(K:PySem.W.Frag)(PT:Addr)(H:Hp)(a:Addr)(ns:List Int),ns.length<=n->H PT=some (.tbl #[])->SqL K H a (ns.map V.int)->sp K PT [.ref a] H (fun v _=>v = .bl true) fun _ _ _=>False)
 (hCX:∀(H:Hp)(s:Shared)(e:Value)(s':Shared),CX [] H s (fun _ _ _=>False) e s'->False) :
 PySem.W.WalkO q loose XP YP l.row.toRowW d [] (fun f vs=>PySem.call f vs):=by
 refine Att.attach_call hn hdf fun w s₀ s₁ mg mb fa o pm cd doc a vs ns G Y ho hd hcd hmg hobj hints hlen hg=>?_
 have KX:=hY w _ Y
 obtain⟨fd,c,PT,htab,hnt,hb,hF⟩:=F w mg fa _ KX G.T.g hmg
 obtain⟨dn,hdn⟩:=hrec
 obtain⟨C,hPT⟩:=PySem.W.tab_of G.T KX hdn htab
 exact law_callT KX G.T.g G.T.b G.T.builtins G.T.nolimit hg hobj hints (Nat.le_trans hlen hn2) hr hPT (C.tab hPT).isCodeTable hnt G.T.bmain hF hb (fun H hP hS=>hsp _ PT H a ns hlen hP hS) fun H e s'=>hCX H s₁ e s'
end L2
namespace L2
open PySem PySem.Spec PyProof.Rows
structure FunC (K:PySem.W.Frag)(x qual:Str)(st:Stmt)(f:Addr)(fd:FuncData)(c:Addr):Prop where
 ex:∃(oc:Value)(od:Option Addr)(kV doc pm:Value)(an:Option Addr)(ct:Value)(osl:Array (Option Value)),
  fd=PySem.W.fnOf x qual (defArgs st) (defBody st) (defScope st) .none kV doc pm an (.ref c) ct/\K.lookup f=some ⟨oc,od,.func fd,osl⟩/\PySem.W.codeIn K (.ref c) qual=true
 kp:PySem.W.keepIn K (.ref f)=true
theorem FunC.fn {K:PySem.W.Frag}{x qual:Str}{st:Stmt}{f c:Addr}{fd:FuncData}(F:FunC K x qual st f fd c):Fun K x qual st f fd:=by
 obtain⟨oc,od,kV,doc,pm,an,ct,osl,h⟩:=F.ex
 exact⟨⟨oc,od,kV,doc,pm,an,.ref c,ct,osl,h⟩,F.kp⟩
theorem FunC.ok {P:Program}{w:World}{K:PySem.W.Frag}{mg:Str->Option Value}{base:Heap}{x qual:Str}{st:Stmt}{f c:Addr}{fd:FuncData}{N ps:List Str}{k:Nat}{sp:Sp}(F:FunC K x qual st f fd c)(S:FnScope N ps (defScope st))(len:∀vs H Q E,sp vs H Q E->vs.length=ps.length)
 (hbody:∀(A:Around)(outer:List Env)(s:Shared)(H:Hp)(vs:List V)(Q:VK)(E:XK),Room k (A.deeper (envOfC qual (defScope st) s.heap.objs.size f (.ref c)))->sp vs H Q E ->
  ∃t,PSs (cxOf CX0 P w K mg base N qual (defScope st) f (.ref c) A outer s H E).nox (defBody st) t/\t { nx:=fun _ H'=>Q .non H',rt:=Q } (start N vs) H):FnOk P w K mg base CX0 (k+1) f fd ps sp:=by
 obtain⟨oc,od,kV,doc,pm,an,ct,osl,rfl,lk,hcd⟩:=F.ex
 refine fn_of lk hcd S len fun A outer s H vs Q E hr hsp=>?_
 obtain⟨t,h,q⟩:=hbody A outer s H vs Q E hr hsp
 exact⟨t,h.nox,q⟩
theorem funC_mk {K:PySem.W.Frag}{x qual:Str}{st:Stmt}{f c:Addr}{oc:Value}{od an:Option Addr}{osl:Array (Option Value)}{kV doc pm ct:Value}(l:K.lookup f=some ⟨oc,od,.func (PySem.W.fnOf x qual (defArgs st) (defBody st) (defScope st) .none kV doc pm an (.ref c) ct),osl⟩)
 (hc:PySem.W.codeIn K (.ref c) qual=true)(k:PySem.W.keepIn K (.ref f)=true):FunC K x qual st f (PySem.W.fnOf x qual (defArgs st) (defBody st) (defScope st) .none kV doc pm an (.ref c) ct) c:=⟨⟨oc,od,kV,doc,pm,an,ct,osl,rfl,l,hc⟩,k⟩
section
variable {κ:Type} [DecidableEq κ]
theorem mem_putK {kvs:List (κ×V)}{k:κ}{v:V}{kv:κ×V}(h:kv∈putK kvs k v):kv∈kvs\/kv=(k,v):=by
 unfold putK at h
 split at h
 . obtain⟨q,hq,e⟩:=List.mem_map.mp h
   by_cases hk:q.1=k
   . rw[if_pos hk] at e;rw[<-e,hk];exact .inr rfl
   . rw[if_neg hk] at e;rw[<-e];exact .inl hq
 . rcases List.mem_append.mp h with q | q
   . exact .inl q
   . exact .inr (List.mem_singleton.mp q)
theorem nd_put {kvs:List (κ×V)}{k:κ}{v:V}(h:(kvs.map (·.1)).Nodup):((putK kvs k v).map (·.1)).Nodup:=by
 cases e:valV kvs k with
 | none=>exact nd_putK v h e
 | some x=>
  have ha:(kvs.any fun kv=>decide (kv.1=k))=true:=by rw[valV_any,e];rfl
  unfold putK
  rw[if_pos ha]
  have e3:(kvs.map fun kv=>if kv.1=k then (kv.1,v) else kv).map (·.1)=kvs.map (·.1):=by
   rw[List.map_map]
   refine List.map_congr_left fun kv _=>?_
   show (if kv.1=k then (kv.1,v) else kv).1=kv.1
   split <;> rfl
  rw[e3];exact h
theorem valV_drop (k j:κ):∀kvs:List (κ×V),valV (dropK kvs k) j=if j=k then none else valV kvs j
 | []=>by show (none:Option V)=_;split <;> rfl
 | p::r=>by
  have ih:=valV_drop k j r
  by_cases e:p.1=k
  . rw[dropK_pos e,ih]
    by_cases hj:j=k
    . rw[if_pos hj,if_pos hj]
    . rw[if_neg hj,if_neg hj,valV_neg fun z=>hj (z.symm.trans e)]
  . rw[dropK_neg e]
    by_cases hj:p.1=j
    . rw[valV_pos hj,valV_pos hj,if_neg fun z=>e (hj.trans z)]
    . rw[valV_neg hj,valV_neg hj,ih]
end
def unkW:Key->Int
 | .inl i=>i
 | .inr _=>0
structure WD (n:Int)(kvs:List (Key×V))(wt:Int->Option Int):Prop where
 sh:∀kv∈kvs,∃p d,kv=(Sum.inl p,V.int d)/\0<=p/\p<n
 nd:(kvs.map (·.1)).Nodup
 at_:∀p:Int,valV kvs (Sum.inl p)=(wt p).map V.int
def keysW (kvs:List (Key×V)):List Int:=kvs.map fun kv=>unkW kv.1
theorem WD.keys {n:Int}{kvs:List (Key×V)}{wt:Int->Option Int}(h:WD n kvs wt):kvs.map (·.1)=(keysW kvs).map Sum.inl:=by
 unfold keysW
 rw[List.map_map]
 refine List.map_congr_left fun kv hkv=>?_
 obtain⟨p,d,e,_⟩:=h.sh kv hkv
 rw[e];rfl
theorem WD.nds {n:Int}{kvs:List (Key×V)}{wt:Int->Option Int}(h:WD n kvs wt):(keysW kvs).Nodup:=by
 have e:=h.nd
 rw[h.keys,List.Nodup,List.pairwise_map] at e
 exact e.imp fun h e'=>h (by rw[e'])
theorem WD.len {n:Int}{kvs:List (Key×V)}{wt:Int->Option Int}(h:WD n kvs wt)(h0:0<=n):(kvs.length:Int)<=n:=by
 have:=WM.nd_len (n:=n.toNat) h.nds fun x hx=>by
  obtain⟨kv,hkv,e⟩:=List.mem_map.mp hx
  obtain⟨p,d,e2,h1,h2⟩:=h.sh kv hkv
  have:x=p:=by rw[<-e,e2];rfl
  omega
 unfold keysW at this
 rw[List.length_map] at this
 omega
theorem WD.mem {n:Int}{kvs:List (Key×V)}{wt:Int->Option Int}(h:WD n kvs wt){p:Int}:p∈keysW kvs↔∃e,wt p=some e:=by
 have e:p∈keysW kvs↔(Sum.inl p:Key)∈kvs.map (·.1):=by
  rw[h.keys]
  constructor
  . intro m;exact List.mem_map.mpr ⟨p,m,rfl⟩
  . intro m
    obtain⟨q,hq,e⟩:=List.mem_map.mp m
    cases e;exact hq
 rw[e]
 have ha:=h.at_ p
 constructor
 . intro m
   cases hw:wt p with
   | some d=>exact⟨d,rfl⟩
   | none=>rw[hw] at ha;exact absurd m (valV_not ha)
 . rintro ⟨d,hw⟩
   rw[hw] at ha
   exact valV_in ha
theorem WD.one {n s:Int}(h0:0<=s)(h1:s<n):WD n [(Sum.inl s,V.int 0)] (fun q=>if q=s then some 0 else none):=by
 refine⟨fun kv hkv=>?_,by simp,fun p=>?_⟩
 . rw[List.mem_singleton.mp hkv];exact⟨s,0,rfl,h0,h1⟩
 . by_cases e:p=s
   . rw[if_pos e,e];exact valV_pos rfl
   . rw[if_neg e];exact (valV_neg fun z=>e (Sum.inl.inj z).symm).trans valV_nil
theorem WD.put {n:Int}{kvs:List (Key×V)}{wt:Int->Option Int}(h:WD n kvs wt){p d:Int}(h0:0<=p)(h1:p<n):WD n (putK kvs (Sum.inl p) (.int d)) (fun q=>if q=p then some d else wt q):=by
 refine⟨fun kv hkv=>?_,nd_put h.nd,fun q=>?_⟩
 . rcases mem_putK hkv with z | z
   . exact h.sh kv z
   . exact⟨p,d,z,h0,h1⟩
 . rw[valV_put]
   by_cases e:q=p
   . rw[if_pos e,if_pos (by rw[e])];rfl
   . rw[if_neg e,if_neg fun z=>e (Sum.inl.inj z)];exact h.at_ q
theorem WD.drop {n:Int}{kvs:List (Key×V)}{wt:Int->Option Int}(h:WD n kvs wt){p:Int}:WD n (dropK kvs (Sum.inl p)) (fun q=>if q=p then none else wt q):=by
 refine⟨fun kv hkv=>h.sh kv (dropK_mem hkv),nd_dropK h.nd,fun q=>?_⟩
 rw[valV_drop]
 by_cases e:q=p
 . rw[if_pos e,if_pos (by rw[e])];rfl
 . rw[if_neg e,if_neg fun z=>e (Sum.inl.inj z)];exact h.at_ q
def oV:Option Int->V
 | none=>.non
 | some d=>.int d
theorem ixN_in {n:Nat}{i:Int}(h0:0<=i)(h1:i<n):ixN n i=some i.toNat:=by
 unfold ixN
 rw[if_pos h0,if_pos h1]
theorem atI_in {α:Type}{xs:List α}{i:Int}{v:α}(h0:0<=i)(h:xs[i.toNat]? = some v):atI xs i=some v:=by
 have:=atI_nat h
 rwa [Int.toNat_of_nonneg h0] at this
theorem SmT.get {H H':Hp}(k:SmT H H'){b:Addr}{o:HO}(e:H b=some o)(h:∀ps,o ≠ .tbl ps):H' b=some o:=by
 rcases k b o e with ⟨ps,z⟩ | z
 . exact absurd z (h ps)
 . exact z
theorem SmT.chg {H H':Hp}{l:Addr}{o:HO}(k:SmT H H')(h:H l=none):SmT H (upd H' l o):=fun b u e=>by
 rcases k b u e with z | z
 . exact .inl z
 . right
   rw[upd_ne (ne_of_none e h)];exact z
theorem TabAt.chg {H:Hp}{P l:Addr}{pos:Pos}{q:Str}{o:HO}{xs:List V}(T:TabAt H P pos q)(h:H l=some (.lst xs)):TabAt (upd H l o) P pos q:=by
 obtain⟨ps,hps,_⟩:=id T
 refine T.keep (fun u hu=>?_) fun c φ hc=>?_
 . rw[upd_ne (ne_of hps h (by intro z;cases z))];exact hu
 . rw[upd_ne (ne_of hc h (by intro z;cases z))];exact hc
end L2
namespace L2
open PySem PySem.Spec PyProof.Rows
theorem ints_all {xs ys:List Int}:((List.range (min xs.length ys.length)).all (fun j=>xs.getD j 0==ys.getD j 0) && xs.length==ys.length)=decide (xs=ys):=by
 by_cases h:xs=ys
 . subst h;simp
 . rw[decide_eq_false h]
   by_cases hl:xs.length=ys.length
   . have:∃j,j<xs.length/\xs.getD j 0≠ys.getD j 0:=by
      apply Classical.byContradiction
      intro hn
      refine h (List.ext_getElem hl fun j h1 h2=>?_)
      apply Classical.byContradiction
      intro hne
      exact hn ⟨j,h1,by simpa [List.getD_eq_getElem?_getD,h1,h2] using hne⟩
     obtain⟨j,hj,hne⟩:=this
     rw[Bool.and_eq_false_iff]
     left
     rw[List.all_eq_false]
     exact⟨j,by rw[List.mem_range];omega,by simpa using hne⟩
   . simp[hl]
section
variable {X:Cx}
theorem eqAts {A:Around}{s:Shared}{us ws:List Value}{xs ys:List Int}(h1:IntsAre us xs)(h2:IntsAre ws ys)(j:Nat)(a:j<us.toArray.size)(b:j<ws.toArray.size):SeqAt.EqAt A s us.toArray[j] ws.toArray[j] (xs.getD j 0==ys.getD j 0):=by
 have l1:=h1.length
 have l2:=h2.length
 rw[List.size_toArray] at a b
 obtain⟨n,hn⟩:∃n,xs[j]? = some n:=⟨_,List.getElem?_eq_getElem (by omega)⟩
 obtain⟨m,hm⟩:∃m,ys[j]? = some m:=⟨_,List.getElem?_eq_getElem (by omega)⟩
 obtain⟨t,ht⟩:=h1.get j n hn
 obtain⟨u,hu⟩:=h2.get j m hm
 have e1:us.toArray[j] = .int n t:=by
  rw[List.getElem?_eq_getElem a] at ht
  simpa using Option.some.inj ht
 have e2:ws.toArray[j] = .int m u:=by
  rw[List.getElem?_eq_getElem b] at hu
  simpa using Option.some.inj hu
 rw[e1,e2,List.getD_eq_getElem?_getD,List.getD_eq_getElem?_getD,hn,hm]
 exact SeqAt.EqAt.int_int n t m u
end
end L2
namespace L2
open PySem PySem.Spec PyProof.Rows
section
variable {X:Cx}
end
end L2
namespace L2
open PySem PySem.Spec PyProof.Rows
def compEnv1 (scope:Scope)(yc:Str)(cl:List (Str×Addr))(C:Addr)(env:Env):Env:=
 { scope:=relabel scope env,locals:=C,globals:=env.globals,cells:=(yc,C+1)::cl,qual:=env.qual,func:=none,code:=env.code,frame:=env.frame,builtins:=env.builtins }
theorem nfe_cell {M:Model}{A:Around}{E:Value->Shared->Prop}{s:Shared}{scope:Scope}{globals:Addr}{cl:List (Str×Addr)}{qual yc:Str}{env:Env}{Q:Env->Shared->Prop}(hcf:∀n acc,cellsFrom n scope.names acc=(yc,n)::acc)
 (hQ:∀h':Heap,h'.Ns s.heap.objs.size (fun _=>none)->(∀b o,s.heap.get? b=some o->h'.get? b=some o)->h'.IsCell (s.heap.objs.size+1) none ->
  Q (newEnv scope s.heap.objs.size globals ((yc,s.heap.objs.size+1)::cl) qual none .none (some env) builtinsNs) { s with heap:=h',toks:=s.toks }) :
 wpAny M A (newFunctionEnv scope globals cl [] qual none .none (some env)) Q E s:=by
 simp only[newFunctionEnv,Option.isSome_some,if_true]
 refine wpAny_bind (wpAny_alloc ?_)
 refine wpAny_bind (wpAny_layCells _ (fun name kind cells=>by cases hkc:kind==NameKind.cell <;> simp[hkc]) _ _ _ _ ?_)
 have ok:=cellsFrom_ok scope.names (s.heap.push { cls:=.type "dict",data:=.dict #[] }) (s.heap.objs.size+1) [] ⟨fun _ _ hm=>(nomatch hm),List.Pairwise.nil⟩ (by rw[Heap.size_push];exact Nat.le_refl _)
 rw[Heap.size_push] at ok
 rw[show ({ s with heap:=s.heap.push { cls:=.type "dict",data:=.dict #[] } }:Shared).heap.objs.size=s.heap.objs.size+1 from Heap.size_push ..]
 rw[hcf] at ok ⊢
 refine wpAny_bind ?_
 rw[List.forIn_nil]
 refine wpAny_pure (wpAny_pure ?_)
 exact hQ _ ((Heap.Ns.new s.heap (.type "dict")).keeps (pushCells_keeps _ _)) (fun b o e=>pushCells_keeps _ _ b o (Heap.get?_push_of_some _ e)) (ok.empty _ _ List.mem_cons_self).1
def cxComp1 (X:Cx)(pl:List (Addr×Obj))(N':List Str)(scope:Scope)(yc:Str)(fp:List Addr)(s3:Shared)(H3:Hp):Cx where
 prog:=X.prog
 w:=X.w
 K:=X.K
 mg:=X.mg
 base:=X.base
 A:=X.A
 N:=N'
 s₀:=s3
 H₀:=H3
 env:=compEnv1 scope yc (clOf X.env.cells scope.names []) s3.heap.objs.size X.env
 outer:=X.stack
 stack:=X.stack
 ex:=fp
 fn:=fun x=>x==yc
 calm:=X.calm
 pn:=pl
 xe:=fun _ _=>False
structure CompSc1 (X:Cx)(scope:Scope)(yc:Str):Prop where
 kind:scope.kind = .function
 cf:∀n acc,cellsFrom n scope.names acc=(yc,n)::acc
 own:scope.names.lookup yc=some .cell
 one:∀y∈scope.names,y.2 = .cell->y.1=yc
 names:∀y∈scope.names,y.2 = .local->scope.names.lookup y.1=some .local
 free:∀y∈scope.names,y.2 = .free->X.env.kindOf y.1=some .cell
section
variable {X:Cx}{pins:List (Addr×Obj)}{σ:St}{H3:Hp}{s3:Shared}{scope:Scope}{fp:List Addr}{N' own cn:List Str}{ci:List Nat}{cv:List V}{yc:Str}
theorem look1 {x:Str}{c n:Addr}{cl:List (Str×Addr)}(h:((yc,n)::cl).lookup x=some c):(x=yc/\c=n)\/(x≠yc/\cl.lookup x=some c):=by
 rw[List.lookup_cons] at h
 cases hx:x==yc with
 | true=>rw[hx] at h;cases h;exact .inl ⟨by simpa using hx,rfl⟩
 | false=>rw[hx] at h;exact .inr ⟨by simpa using hx,h⟩
theorem look1_ne {x:Str}{n:Addr}{cl:List (Str×Addr)}(h:x≠yc):((yc,n)::cl).lookup x=cl.lookup x:=by
 rw[List.lookup_cons,show (x==yc)=false by simpa using h]
theorem comp1_has (ok:X.Ok)(S:CompSc1 X scope yc){x:Str}{n:Addr}(h:(relabel scope X.env).names.lookup x=some .cell\/(relabel scope X.env).names.lookup x=some .free) :
 ∃c,((yc,n)::clOf X.env.cells scope.names []).lookup x=some c:=by
 by_cases hxy:x=yc
 . subst hxy
   exact⟨n,by rw[List.lookup_cons,beq_self_eq_true]⟩
 rw[look1_ne hxy]
 have e:(relabel scope X.env).names.lookup x=(scope.names.lookup x).map fun k=>if (k==NameKind.free && X.env.scope.kind == .function && X.env.kindOf x==some .cell)=true then NameKind.cell else k:=lookup_relabel scope.names
 have hf:scope.names.lookup x=some .free:=by
  cases q:scope.names.lookup x with
  | none=>rw[e,q] at h;simp at h
  | some k=>
   by_cases hk:k = .free
   . rw[hk]
   . have hb:(k==NameKind.free)=false:=by simpa using hk
     rw[e,q] at h
     simp only[Option.map_some,hb,Bool.false_and,Bool.false_eq_true,if_false,Option.some.injEq] at h
     rcases h with h | h
     . exact absurd (S.one _ (PySem.mem_of_lookup q) h) hxy
     . exact absurd h hk
 exact clOf_has (ok.has x (.inl (S.free _ (PySem.mem_of_lookup hf) rfl))) scope.names [] (PySem.mem_of_lookup hf)
theorem comp1_cl (I:Inv X pins σ H3 s3){x:Str}{c n:Addr}(h:((yc,n)::clOf X.env.cells scope.names []).lookup x=some c):(x=yc/\c=n)\/(x≠yc/\X.env.cells.lookup x=some c/\c<s3.heap.objs.size):=by
 rcases look1 h with z | ⟨z,e⟩
 . exact .inl z
 . have e':=comp_cl e
   obtain⟨v,o,ho,_⟩:=I.cell x c e'
   exact .inr ⟨z,e',Heap.lt_size ho⟩
theorem comp1_ok (I:Inv X pins σ H3 s3)(S:CompSc1 X scope yc)(f:∀b∈fp,FpOk X pins H3 b)(fz:∀b∈fp,b<s3.heap.objs.size):(cxComp1 X (X.pn++pins) N' scope yc fp s3 H3).Ok where
 mod:=I.ok.mod
 kind:=S.kind
 glob:=I.ok.glob
 blt:=I.ok.blt
 above:=Nat.le_refl _
 inj:=fun x y c h1 h2=>by
  rcases comp1_cl I h1 with ⟨a,b⟩ | ⟨a,b,d⟩ <;> rcases comp1_cl I h2 with ⟨a',b'⟩ | ⟨a',b',d'⟩
  . rw[a,a']
  . rw[b] at d';exact absurd d' (Nat.not_lt.mpr (Nat.le_succ _))
  . rw[b'] at d;exact absurd d (Nat.not_lt.mpr (Nat.le_succ _))
  . exact I.ok.inj x y c b b'
 has:=fun x h=>comp1_has I.ok S h
 cab:=fun x c h e=>by
  have hx:x=yc:=by simpa using (show (x==yc)=true from h)
  rcases comp1_cl I e with ⟨_,b⟩ | ⟨a,_⟩
  . rw[b];exact Nat.le_succ _
  . exact absurd hx a
 hd:=I.ok.hd
 frames:=I.ok.frames
 stk:=.inl rfl
 exf:=fun b hb=>⟨Nat.ne_of_lt (fz b hb),fun x c h=>by
  have:=fz b hb
  rcases comp1_cl I h with ⟨_,d⟩ | ⟨_,d,_⟩
  . intro z
    rw[<-z,d] at this;exact absurd this (Nat.not_lt.mpr (Nat.le_succ _))
  . exact (f b hb).2.2.2.2.1 x c d⟩
 bs:=I.bs
 bsz:=Nat.le_trans I.ok.bsz I.sz
 noex:=fun b o e hb=>by
  rcases (f b hb).2.2.2.1 with z | z
  . exact I.ok.noex b o e z
  . exact absurd (Nat.lt_of_lt_of_le (Heap.lt_size e) (Nat.le_trans I.ok.bsz z)) (Nat.lt_irrefl _)
 exfs:=fun b hb z=>by
  rcases List.mem_cons.mp (I.stkSub b z) with q | q
  . exact (f b hb).2.1 q
  . exact (f b hb).2.2.1 q
 funs:=I.stack
 frf:=I.stkFree
theorem comp1_inv {h1:Heap}{t:Nat}(I:Inv X pins σ H3 s3)(S:CompSc1 X scope yc)(f:∀b∈fp,FpOk X pins H3 b)(fz:∀b∈fp,b<s3.heap.objs.size)
 (hN:N'=own++cn)(hc:CapOk X scope cn ci)(hv:ci.map (fun j=>σ[j]?)=cv.map fun v=>some (some v))(hl:cn.length=ci.length)
 (hns:h1.Ns s3.heap.objs.size (fun _=>none))(hk:∀b o,s3.heap.get? b=some o->h1.get? b=some o)(hcl:h1.IsCell (s3.heap.objs.size+1) none) :
 Inv (cxComp1 X (X.pn++pins) N' scope yc fp s3 H3) [] (List.replicate own.length none++cv.map some) H3 { s3 with heap:=h1,toks:=t }:=by
 have lenv:cv.length=ci.length:=by
  have:=congrArg List.length hv
  simpa using this.symm
 refine⟨comp1_ok I S f fz,rfl,I.bare,Un.kept hk,⟨_,hns,fun i x v e1 e2 e3=>?_⟩,fun x c e=>?_,I.hok.fresh (Nat.le_refl _),fun x c e=>?_,fun p hp=>?_,I.hok.kept hk,?_⟩
 . -- a captured name
   have hi:own.length<=i:=by
    by_cases hi:own.length<=i
    . exact hi
    . rw[List.getElem?_append_left (by simpa using hi),List.getElem?_replicate] at e2
      split at e2 <;> cases e2
   rw[List.getElem?_append_right (by simpa using hi),List.length_replicate,List.getElem?_map] at e2
   have e1':(own++cn)[i]? = some x:=by rw[<-hN];exact e1
   rw[List.getElem?_append_right hi] at e1'
   obtain⟨j,hj,hNj,hkx,hfr⟩:=hc.get e1'
   have hcv:cv[i-own.length]? = some v:=by
    cases q:cv[i-own.length]? with
    | none=>rw[q] at e2;cases e2
    | some v'=>rw[q] at e2;cases e2;rfl
   have hσ:σ[j]? = some (some v):=by
    have:=congrArg (fun l:List (Option (Option V))=>l[i-own.length]?) hv
    simp only[List.getElem?_map,hj,hcv,Option.map_some,Option.some.injEq] at this
    exact this
   obtain⟨m,_,hl'⟩:=I.loc
   obtain⟨u,r,q⟩:=hl' j x v hNj hσ (.inr (.inl hkx))
   have hkd:(relabel scope X.env).names.lookup x=some .cell\/(relabel scope X.env).names.lookup x=some .free:=by
    have e:(relabel scope X.env).names.lookup x=(scope.names.lookup x).map fun k=>if (k==NameKind.free && X.env.scope.kind == .function && X.env.kindOf x==some .cell)=true then NameKind.cell else k:=lookup_relabel scope.names
    rw[e,hfr,Option.map_some]
    by_cases cc:(NameKind.free==NameKind.free && X.env.scope.kind == .function && X.env.kindOf x==some .cell)=true
    . rw[if_pos cc];exact .inl rfl
    . rw[if_neg cc];exact .inr rfl
   obtain⟨c',hc'⟩:=comp1_has (n:=s3.heap.objs.size+1) I.ok S hkd
   have hxy:x≠yc:=fun z=>by rw[z,S.own] at hfr;cases hfr
   refine⟨u,r,.inr ⟨hkd,c',hc',?_⟩⟩
   rcases q with ⟨z,_⟩ | ⟨_,c,hcc,o,ho,hd⟩
   . rw[hkx] at z;cases z
   . have e:c=c':=Option.some.inj (hcc.symm.trans (comp_cl ((look1_ne hxy).symm.trans hc')))
     subst e
     exact⟨o,hk c o ho,hd⟩
 . rcases comp1_cl I e with ⟨_,d⟩ | ⟨_,d,_⟩
   . rw[d];exact⟨_,hcl⟩
   . obtain⟨v,o,ho,hd⟩:=I.cell x c d
     exact⟨v,o,hk c o ho,hd⟩
 . rcases comp1_cl I e with ⟨_,d⟩ | ⟨_,d,_⟩
   . rw[d];exact I.hok.fresh (Nat.le_succ _)
   . exact I.freeC x c d
 . have hp':p∈X.pn++pins:=by rw[List.append_nil] at hp;exact hp
   obtain⟨e,n,ne,nf,d⟩:=I.pin p hp'
   refine⟨hk _ _ e,n,Nat.ne_of_lt (Heap.lt_size e),fun z=>?_,d⟩
   rcases List.mem_cons.mp (I.stkSub p.1 z) with q | q
   . exact ne q
   . exact nf q
 . show (List.replicate own.length none++cv.map some).length=N'.length
   rw[hN,List.length_append,List.length_append,List.length_replicate,List.length_map,lenv,hl]
theorem comp1_core {elt target iter:Expr}{ifs:List Expr}{pos cpos:Pos}{wi:TI}{g:TG}{ti:TT}{te:TE}{use:Option (Value->Sem Unit)}{Q0:Value->Shared->Prop}{s:Shared}{H:Hp}{Q:VK}(hcalm:X.calm=true)(S:CompSc1 X scope yc)(hc:CapOk X scope cn ci)(hl:cn.length=ci.length)
 (hi:PI X target iter wi)(hg:∀pl fp s3 H3,PG (cxComp1 X pl (own++cn) scope yc fp s3 H3) target g)(ht:∀pl fp s3 H3,PTs (cxComp1 X pl (own++cn) scope yc fp s3 H3) ifs ti)
 (he:∀pl fp s3 H3,PE (cxComp1 X pl (own++cn) scope yc fp s3 H3) elt te)(hs:∀x,foldedSetIterable iter X.env x=pure x)(I:Inv X pins σ H s)(h:tComp own.length ci wi g ti te σ H Q)
 (fin:∀(D C:Addr)(H5:Hp)(s6:Shared)(m6:Str->Option Value),Inv X pins σ H5 s6->s6.heap.Ns C m6->H5 C=none->C≠X.env.locals->X.s₀.heap.objs.size<=C->(∀x c,X.env.cells.lookup x=some c->c≠C) ->
  (∀p∈X.pn++pins,p.1≠C)->Q (.ref D) H5->compPost (model X.prog X.w) X.A X.xe use Q0 (.ref D) C (.ok .next) s6) :
 wpAny (model X.prog X.w) X.A (comprehension (.ListComp elt [⟨target,iter,ifs,0⟩] scope pos) scope X.env cpos (newList []) false (eval iter X.env) use) Q0 X.xe s:=by
 have hcl:closureFor scope X.env=pure (clOf X.env.cells scope.names []):=closureFor_eq fun y hy hf=>I.ok.has y.1 (.inl (S.free y hy hf))
 refine wpAny_comprehension_free (use:=use) rfl hs hcl S.kind S.names ?_
 refine thn (hi pins s σ H _ I h) fun v s1 h1=>thn h1 fun itv s2 h2=>?_
 obtain⟨it,fp,tn,J,H2,e,I2,T,st2,f2,cv,hv,hD⟩:=h2
 subst e
 have lenv:cv.length=ci.length:=by
  have:=congrArg List.length hv
  simpa using this.symm
 have I3:=I2.lnew (ys:=[]) (its:=[]) (t':=s2.toks) .nil (Nat.zero_le _)
 obtain⟨W,⟨m0,w0⟩,turn⟩:=hD s2.heap.objs.size I2.fresh
 have fz:∀b∈fp,b<s2.heap.objs.size:=fun b hb=>by
  obtain⟨o,ho,_⟩:=T.obj _ _ st2 b hb
  exact Heap.lt_size ho
 refine wpAny_newObj_type ?_
 refine nfe_cell S.cf (fun h4 hns4 hk4 hc4=>?_)
 generalize hs3:({ s2 with heap:=s2.heap.push { cls:=.type "list",dict:=none,data:=.seq ([]:List Value).toArray } }:Shared)=s3 at hns4 hk4 hc4 ⊢
 have I3':Inv X pins σ (upd H2 s2.heap.objs.size (.lst [])) s3:=by rw[<-hs3];exact I3
 have hsz3:s3.heap.objs.size=s2.heap.objs.size+1:=by rw[<-hs3];exact Heap.size_push ..
 have k23:∀b o,s2.heap.get? b=some o->s3.heap.get? b=some o:=fun b o e=>by rw[<-hs3];exact Heap.get?_push_of_some _ e
 have k34:∀b o,s3.heap.get? b=some o->h4.get? b=some o:=hk4
 have nD:∀b∈fp,b≠s2.heap.objs.size:=fun b hb=>Nat.ne_of_lt (fz b hb)
 have f3:∀b∈fp,FpOk X pins (upd H2 s2.heap.objs.size (.lst [])) b:=fun b hb=>⟨by rw[upd_ne (nD b hb)];exact (f2 b hb).1,(f2 b hb).2⟩
 have fz3:∀b∈fp,b<s3.heap.objs.size:=fun b hb=>by rw[hsz3];exact Nat.lt_succ_of_lt (fz b hb)
 have I4:Inv (cxComp1 X (X.pn++pins) (own++cn) scope yc fp s3 (upd H2 s2.heap.objs.size (.lst []))) [] (List.replicate own.length none++cv.map some) (upd H2 s2.heap.objs.size (.lst [])) { s3 with heap:=h4,toks:=s3.toks }:=
  comp1_inv I3' S f3 fz3 rfl hc hv hl hns4 k34 hc4
 have st4:tn 0 h4:=T.keep _ _ _ st2 fun b hb o e=>k34 b o (k23 b o e)
 generalize hX:cxComp1 X (X.pn++pins) (own++cn) scope yc fp s3 (upd H2 s2.heap.objs.size (.lst []))=X' at I4
 have hg':PG X' target g:=by rw[<-hX];exact hg _ _ _ _
 have ht':PTs X' ifs ti:=by rw[<-hX];exact ht _ _ _ _
 have he':PE X' elt te:=by rw[<-hX];exact he _ _ _ _
 have ePr:X'.prog=X.prog:=by rw[<-hX];rfl
 have eW:X'.w=X.w:=by rw[<-hX];rfl
 have eK:X'.K=X.K:=by rw[<-hX];rfl
 have eA:X'.A=X.A:=by rw[<-hX];rfl
 have eE:X'.env=compEnv1 scope yc (clOf X.env.cells scope.names []) s3.heap.objs.size X.env:=by rw[<-hX];rfl
 have eXe:X'.xe=fun _ _=>False:=by rw[<-hX];rfl
 have eC:X'.calm=true:=by rw[<-hX];exact hcalm
 have eex:X'.ex=fp:=by rw[<-hX];rfl
 have epn:X'.pn=X.pn++pins:=by rw[<-hX];rfl
 have es0:X'.s₀=s3:=by rw[<-hX];rfl
 have eH0:X'.H₀=upd H2 s2.heap.objs.size (.lst []):=by rw[<-hX];rfl
 have efs:X'.fs=frs X.stack:=by rw[<-hX];rfl
 have ok':=I4.ok
 have stat:∀{H':Hp},(∀b∈fp,H' b=none)->∀b∈fp,FpOk X' [] H' b:=fun hn b hb=>by
  have hb':b∈X'.ex:=by rw[eex];exact hb
  refine⟨hn b hb,(ok'.exf b hb').1,ok'.exfs b hb',.inl hb',(ok'.exf b hb').2,fun p hp=>?_⟩
  rw[epn,List.append_nil] at hp
  exact (f2 b hb).2.2.2.2.2 p hp
 have wk:∀(σ2:St),(σ2.length=own.length+cv.length/\σ2.drop own.length=cv.map some)->∀{pl:List (Addr×Obj)}{H':Hp}{s':Shared},Inv X' pl σ2 H' s'->Inv X' pl (List.replicate own.length none++cv.map some) H' s':=fun σ2 hq pl H' s' I'=>by
  refine I'.weak (by rw[hq.1,List.length_append,List.length_replicate,List.length_map]) fun i v hi=>?_
  by_cases hlt:i<own.length
  . rw[List.getElem?_append_left (by simpa using hlt),List.getElem?_replicate] at hi
    split at hi <;> cases hi
  . rw[List.getElem?_append_right (by simpa using hlt),List.length_replicate,<-hq.2,List.getElem?_drop] at hi
    rw[show own.length+(i-own.length)=i by omega] at hi
    exact hi
 have loop:codeAny (model X.prog X.w) X.A (.compLoop (.ListComp elt [⟨target,iter,ifs,0⟩] scope pos) 0 (.ref it) (.ref s2.heap.objs.size) (compEnv1 scope yc (clOf X.env.cells scope.names []) s3.heap.objs.size X.env))
  (compPost (model X.prog X.w) X.A X.xe use Q0 (.ref s2.heap.objs.size) s3.heap.objs.size) { s3 with heap:=h4,toks:=s3.toks }:=by
  refine compLoop_gen (fun n s'=>∃i ys H',Inv X' [] (List.replicate own.length none++cv.map some) H' s'/\tn i s'.heap/\(∀b∈fp,H' b=none)/\W i n ys H') ?_ m0
   ⟨0,[],_,I4,st4,fun b hb=>(f3 b hb).1,w0⟩
  rintro n s5 ⟨i,ys,H5,I5,st5,fr5,w5⟩
  rcases turn i n ys H5 w5 with ⟨stop,qn⟩ | ⟨go,hsz,N,hN,step⟩
  . have d:=T.done X' ePr eW eK eC i [] s5 _ H5 (fun _ _=>False) I5 (stat fr5) st5 stop
    rw[eA] at d
    refine thn d fun r s6 ⟨hr,I6⟩=>?_
    subst hr
    obtain⟨m6,hn6,_⟩:=I6.loc
    rw[eE] at hn6
    have hn6':s6.heap.Ns s3.heap.objs.size m6:=hn6
    have un6:Un (frs X.stack) fp (upd H2 s2.heap.objs.size (.lst [])) H5 s3.heap s6.heap:=by
     have b6:=I6.base
     rw[efs,eex,eH0,es0] at b6
     exact b6
    have os6:s6.os=s3.os:=by have o6:=I6.os;rw[es0] at o6;exact o6
    have hok6:HOk X.prog X.w H5 s6.heap:=by have o6:=I6.hok;rw[ePr,eW] at o6;exact o6
    have I7:Inv X pins σ H5 s6:=I3'.call' (ch:=fp) os6 un6 hok6 I6.bare fun b hb=>⟨(f2 b hb).2.2.2.1,(f2 b hb).2.1,(f2 b hb).2.2.2.2.1,(f2 b hb).2.2.2.2.2⟩
    have fr6:H5 s3.heap.objs.size=none:=by
     have q:=I6.free
     rw[eE] at q
     exact q
    refine fin s2.heap.objs.size s3.heap.objs.size H5 s6 m6 I7 hn6' fr6 (Nat.ne_of_gt I3'.lt) I3'.sz (fun x c e=>?_) (fun p hp=>?_) qn
    . obtain⟨_,o,ho,_⟩:=I3'.cell x c e
      exact Nat.ne_of_lt (Heap.lt_size ho)
    . exact Nat.ne_of_lt (Heap.lt_size (I3'.pin p hp).1)
  . have d:=T.item X' ePr eW eK eC i [] s5 _ H5 (fun _ _=>False) I5 (stat fr5) st5 go
    rw[eA] at d
    refine thn d fun r s6 ⟨u,hr,h6⟩=>?_
    subst hr
    refine thn h6 fun _ s7 ⟨x,H7,I7,r7,y7,st7,fr7⟩=>?_
    have I7':=I7.pinned (stat fr7) (T.obj _ _ st7)
    have g7:=hg' _ s7 _ H7 x u _ I7' r7 (step x H7 y7)
    rw[ePr,eW,eA,eE,eXe] at g7
    refine thn g7 fun _ s8 ⟨σ8,H8,I8,q8,ti8⟩=>?_
    have t8:=ht' _ s8 σ8 H8 _ I8 ti8
    rw[ePr,eW,eA,eE,eXe] at t8
    refine thn t8 fun ok s9 ⟨H9,I9,q9⟩=>?_
    have again:∀{ys':List V}{H':Hp}{s':Shared},Inv X' ([]++pinsAt fp s7.heap) σ8 H' s'->N ys' H' ->
     ∃m,m<n/\∃i ys H',Inv X' [] (List.replicate own.length none++cv.map some) H' s'/\tn i s'.heap/\(∀b∈fp,H' b=none)/\W i m ys H':=fun {ys' H' s'} I' n'=>by
     obtain⟨m',hm,w'⟩:=hN ys' H' n'
     refine⟨m',hm,i+1,ys',H',(wk σ8 q8 I').unpinned,T.keep _ _ _ st7 fun b hb o e=>(I'.pin (b,o) (List.mem_append_right _ (List.mem_append_right _ (mem_pinsAt hb e)))).1,fun b hb=>?_,w'⟩
     obtain⟨o,e,_⟩:=T.obj _ _ st7 b hb
     exact (I'.pin (b,o) (List.mem_append_right _ (List.mem_append_right _ (mem_pinsAt hb e)))).2.1
    cases ok with
    | false=>exact again I9 q9
    | true=>
     have e9:=he' _ s9 σ8 H9 _ I9 q9
     rw[ePr,eW,eA,eE,eXe] at e9
     refine thn e9 fun u10 s10 ⟨y,H10,I10,r10,hD10,n10⟩=>?_
     have a10:=mt_append (X:=X') _ s10 σ8 H10 (.ref s2.heap.objs.size) [y] (.ref s2.heap.objs.size) [u10] (fun _ H'=>N (ys++[y]) H') I10 rfl (.cons r10 .nil) ⟨_,_,_,rfl,rfl,hD10,hsz,n10⟩
     rw[ePr,eW,eA,eXe] at a10
     exact thn a10 fun _ s11 ⟨_,H11,I11,_,n11⟩=>again I11 n11
 exact codeAny_compStart_list loop (T.self X.A 0 _ _ _ st4 loop)
theorem ps_setC1 {elt target iter:Expr}{ifs:List Expr}{pos pos' cpos:Pos}{wi:TI}{g:TG}{ti:TT}{te:TE}{i:Nat}{x:Str}(hN:X.N.Nodup)(hix:X.N[i]? = some x)(hx:Loc X.env.scope x)(hcalm:X.calm=true)(S:CompSc1 X scope yc)(hc:CapOk X scope cn ci)(hl:cn.length=ci.length)
 (hi:PI X target iter wi)(hg:∀pl fp s3 H3,PG (cxComp1 X pl (own++cn) scope yc fp s3 H3) target g)(ht:∀pl fp s3 H3,PTs (cxComp1 X pl (own++cn) scope yc fp s3 H3) ifs ti)
 (he:∀pl fp s3 H3,PE (cxComp1 X pl (own++cn) scope yc fp s3 H3) elt te)(hs:∀x,foldedSetIterable iter X.env x=pure x:=by intro _;rfl)
 (hsw:swapsWith (.ListComp elt [⟨target,iter,ifs,0⟩] scope cpos) (some (.Name x pos')) pos.line X.env=pure true:=by rfl)
 (hf:X.fn x=true\/X.env.scope.names.lookup x=some .local:=by first | exact .inl rfl | exact .inr rfl | assumption) :
 PS X (.Assign [.Name x pos'] (.ListComp elt [⟨target,iter,ifs,0⟩] scope cpos) pos) (tAsg (tComp own.length ci wi g ti te) (gName i)):=by
 intro pins s σ H D I h
 rw[exec_Assign_Name_used _ _ _ _ hsw]
 refine wpAny_bind (wpAny_standAt (wpAny_bind ?_))
 show wpAny _ X.A (do let _ <-comprehension (.ListComp elt [⟨target,iter,ifs,0⟩] scope cpos) scope X.env _ (newList []) false (eval iter X.env) (some (assign (.Name x pos') X.env))) _ _ s
 refine wpAny_bind (wpAny_mono (comp1_core (use:=some (assign (.Name x pos') X.env)) (Q0:=fun _ s'=>SP X pins D .next s') hcalm S hc hl hi hg ht he hs I h (fun D' C H5 s6 m6 I7 hn fr nL ge nC nP q=>?_)) (fun _ s' hq=>wpAny_pure (wpAny_pure hq)) fun _ _ e=>e)
 obtain⟨oC,es,ep,hoC,hd,r1⟩:=hn
 have nf:C∉X.fs:=fun hb=>by
  obtain⟨_,o,ho,_⟩:=I7.ok.funs.mem hb
  exact absurd (Nat.lt_of_lt_of_le (Heap.lt_size ho) ge) (Nat.lt_irrefl _)
 have I7':Inv X (pins++[(C,oC)]) σ H5 s6:=I7.pins_of fun p hp=>by
  rcases List.mem_append.mp hp with z | z
  . exact I7.pin p (List.mem_append_right _ z)
  . rw[List.mem_singleton.mp z]
    exact⟨hoC,fr,nL,nf,fun v e=>by rw[hd] at e;cases e⟩
 show wpAny _ X.A (assign (.Name x pos') X.env (.ref D')) _ _ s6
 refine wpAny_assign_Name (store_ok I7' hN hix hx (show RelV (.ref D') (.ref D') from rfl) (fun s' I'=>?_) hf)
 have hC':=(I'.pin (C,oC) (List.mem_append_right _ (List.mem_append_right _ (List.mem_singleton.mpr rfl)))).1
 refine⟨m6,⟨oC,es,ep,hC',hd,r1⟩,fun h' hs'=>⟨_,H5,?_,q⟩⟩
 have I2:Inv X pins (σ.set i (some (.ref D'))) H5 s':=I'.pins_of fun p hp=>I'.pin p (List.mem_append_right _ (List.mem_append_left _ hp))
 exact I2.turned (t':=s'.toks) (it:=C) (fun b o hb e=>hs'.extBut b o hb e) fr nL (.inr ge) nC nP
end
def cscOk1 (outer inner:Scope)(yc:Str):Bool:=inner.names.all fun y=>(y.2 != .cell || y.1==yc) && (y.2 != .local || inner.names.lookup y.1==some .local) && (y.2 != .free || outer.names.lookup y.1==some .cell)
theorem csc1 {X:Cx}{scope:Scope}{yc:Str}(hk:scope.kind = .function)(hcf:∀n acc,cellsFrom n scope.names acc=(yc,n)::acc)(ho:scope.names.lookup yc=some .cell)(h:cscOk1 X.env.scope scope yc=true):CompSc1 X scope yc:=by
 have a:=List.all_eq_true.mp h
 refine⟨hk,hcf,ho,fun y hy e=>?_,fun y hy e=>?_,fun y hy e=>?_⟩
 . have:=a y hy
   rw[e] at this
   simpa using this
 . have:=a y hy
   rw[e] at this
   simpa using this
 . have:=a y hy
   rw[e] at this
   have h2:X.env.scope.names.lookup y.1=some .cell:=by simpa using this
   exact h2
end L2
namespace L2
open PySem PySem.Spec PyProof.Rows
def tLRange (ta:TA):TE:=fun σ H Q=>ta σ H fun vs H1=>∃j:Int,vs=[.int j]/\0<=j/\j<=1000/\∀l,H1 l=none->Q (.ref l) (upd H1 l (.lst ((WM.lowTo j.toNat).map V.int)))
theorem vals_low:∀(vs:List Value)(n:Nat),vs.length=n->(∀(j:Nat)(v:Value),vs[j]? = some v->∃t,v = .int (0+(j:Int)*1) t)->Vals ((WM.lowTo n).map V.int) vs:=by
 have key:∀(vs:List Value)(a:Nat),(∀(j:Nat)(v:Value),vs[j]? = some v->∃t,v = .int ((a+j:Nat):Int) t)->Vals ((List.range' a vs.length).map fun (i:Nat)=>V.int (i:Int)) vs:=by
  intro vs
  induction vs with
  | nil=>intro _ _;exact .nil
  | cons v r ih=>
   intro a h
   obtain⟨t,ht⟩:=h 0 v rfl
   rw[List.length_cons,List.range'_succ,List.map_cons]
   refine .cons ⟨t,by rw[ht];rfl⟩ (ih (a+1) fun j u hj=>?_)
   obtain⟨t',ht'⟩:=h (j+1) u hj
   exact⟨t',by rw[ht'];congr 1;omega⟩
 intro vs n e h
 subst e
 have:=key vs 0 fun j v hj=>by
  obtain⟨t,ht⟩:=h j v hj
  exact⟨t,by rw[ht];congr 1;omega⟩
 unfold WM.lowTo
 rw[List.map_map,List.range_eq_range']
 exact this
section
variable {X:Cx}
theorem pe_lrange {a:Expr}{ta:TA}{p1 p2 pos1 pos2:Pos}(hc:X.calm=true)(hgL:Gl X "list") (hmL:X.mg "list" = none) (hgR:Gl X "range") (hmR:X.mg "range" = none) (ha:PA X [a] ta)(hs:starEach [a] X.env=[(false,eval a X.env)]:=by rfl)
 (he:starEach [.Call (.Name "range" p2) [a] [] pos2] X.env=[(false,eval (.Call (.Name "range" p2) [a] [] pos2) X.env)]:=by rfl):PE X (.Call (.Name "list" p1) [.Call (.Name "range" p2) [a] [] pos2] [] pos1) (tLRange ta):=by
 intro pins s σ H Q I h
 refine wpAny_Call_Name_kw (ld_blt I hgL hmL (by decide +kernel:bootBuiltins "list" = some (.type "list")) ?_ (by decide) (by decide))
 refine PyProof.Rows.callWith_type1 ?_ he rfl
 rw[he]
 refine Calls.spliced_cons ?_
 refine Call_ (ld_blt I hgR hmR boot_range (PyProof.Rows.callWith_type1 (thn (ha pos2 pins s σ H _ I h) fun us s1 ⟨vs,H1,I1,r1,q1⟩=>?_) hs rfl))
 obtain⟨j,e,h0,h1,q⟩:=q1
 subst e
 cases r1 with
 | cons r rr=>
  cases rr
  obtain⟨t,rfl⟩:=r
  refine call_range_1 ?_
  refine Calls.spliced_nil ?_
  have hz:Builtin.Range.rangeSize 0 j 1=(j.toNat:Int):=by rw[rangeSize_one];split <;> omega
  refine call_list_range (I.ok.hd hc) (IsRange.new ..) (small_one (by omega) (by omega) (by omega) (by omega)) hz (by omega) fun h' tk acc c' kp hD hI=>?_
  have kp1:∀b o,s1.heap.get? b=some o->h'.get? b=some o:=fun b o e=>kp b o (Heap.get?_push_of_some _ e)
  have rv:Vals ((WM.lowTo j.toNat).map V.int) acc.toList:=vals_low acc.toList _ (by rw[Array.length_toList];exact hI.1) fun i v hi=>hI.2 i v (by rw[<-hi,Array.getElem?_toList])
  have hsz:s1.heap.objs.size<=(s1.heap.push { cls:=.type "range",data:=.fields #[.int 0 s1.toks,.int j t,.int 1 (s1.toks+1)] }).objs.size:=by rw[Heap.size_push];exact Nat.le_succ _
  refine⟨.ref _,_,I1.laid (t':=tk) kp1 hsz (show ObjOk X.prog X.w _ h' _ (.lst ((WM.lowTo j.toNat).map V.int)) from ⟨?_,acc.toList,c',rv,by rw[Array.toArray_toList];exact hD⟩),rfl,q _ (I1.hok.fresh hsz)⟩
  rw[List.length_map,WM.lowTo,List.length_map,List.length_range]
  have:sizeLine=16777216:=rfl
  omega
theorem call_sortedI:CallR X (.builtin "sorted") (fun xs H Q=>∃(p:Addr)(ns:List Int),xs=[.ref p]/\SqL X.K H p (ns.map V.int)/\ns.length<64 /\
 ∀(l:Addr)(ms:List Int),H l=none->ms.Perm ns->ms.Pairwise (· <= ·)->Q (.ref l) (upd H l (.lst (ms.map V.int)))):=by
 intro pins s σ H xs us Q I r h
 obtain⟨p,ns,rfl,hq,h64,q⟩:=h
 obtain⟨u,rfl,rx⟩:=vals1 r
 cases rx
 obtain⟨its,r',pl,hz⟩:=I.list hq
 have hI:IntsAre its ns:=intsAre_of r'
 have hl:=hI.length
 refine SortT.sorted_list (O:=intO) (key:=fun i=>ns.getD i 0) (κ:=oneType') pl.isList (by omega) (fun h2 s' a fa kp=>asks_ints hI h2) fun D h' out c pt hD kp ho=>?_
 obtain⟨ms,hp,hr,rz,hlz⟩:=put_ints hI pt
 refine⟨.ref D,_,sorted_fin (t':=s.toks) I hD kp ho rz ?_,rfl,q D ms (I.hok.fresh hD) hp hr⟩
 have:sizeLine=16777216:=rfl
 rw[List.length_map]
 omega
end
section
variable {X:Cx}{pl:List (Addr×Obj)}{N':List Str}{sc:Scope}{fp:List Addr}{s3:Shared}{H3:Hp}
theorem call_len_seqC:CallR (cxComp X pl N' sc fp s3 H3) (.builtin "len") (fun xs H Q=>∃p ys,xs=[.ref p]/\(SqL X.K H p ys\/SqT X.K H p ys)/\Q (.int ys.length) H):=call_len_seq
theorem pe_bmC {o e:Expr}{es:List Expr}{to:TE}{t:TA}{name:Str}{apos cpos:Pos}{T id:String}{r:V->List V->Hp->VK->Prop}(pa:PlainAttrs T)(slot:Slot T name id)(hty:typeOf (.builtin id)=pure (.type "method_descriptor")) (hm:MtR (cxComp X pl N' sc fp s3 H3) id r)(ho:PE (cxComp X pl N' sc fp s3 H3) o to)(ha:PA (cxComp X pl N' sc fp s3 H3) (e::es) t)
 (hbase:attributeBase o name (cxComp X pl N' sc fp s3 H3).env (eval o (cxComp X pl N' sc fp s3 H3).env)=eval o (cxComp X pl N' sc fp s3 H3).env:=by rfl)
 (hfew:((backTo cpos (starEach (e::es) (cxComp X pl N' sc fp s3 H3).env)).all (fun x=>!x.1) && (backToKw cpos (keywordEach [] (cxComp X pl N' sc fp s3 H3).env)).all (fun x=>x.1.isSome)
  && decide ((e::es).length+([]:List Keyword).length+(if ([]:List Keyword).isEmpty then 0 else 1)<30))=true:=by rfl)
 (hline:(apos.endLine==cpos.line)=true:=by rfl)(hs:starEach (e::es) (cxComp X pl N' sc fp s3 H3).env=(false,eval e (cxComp X pl N' sc fp s3 H3).env)::starEach es (cxComp X pl N' sc fp s3 H3).env:=by rfl)(hplain:(backTo cpos (starEach es (cxComp X pl N' sc fp s3 H3).env)).any (·.1)=false:=by rfl) :
 PE (cxComp X pl N' sc fp s3 H3) (.Call (.Attribute o name apos) (e::es) [] cpos) (tBM X.K T r to t):=pe_bm pa slot hty hm ho ha hbase hfew hline hs hplain
end
section
variable {X:Cx}
def rNeE (K:PySem.W.Frag):R2:=fun x y H Q=>∃(a b:Addr)(xs:List V),x = .ref a/\y = .ref b/\SqL K H a xs/\SqL K H b []/\Q (.bl (!xs.isEmpty)) H
def rEqE (K:PySem.W.Frag):R2:=fun x y H Q=>∃(a b:Addr)(xs:List V),x = .ref a/\y = .ref b/\SqL K H a xs/\SqL K H b []/\Q (.bl xs.isEmpty) H
theorem op_neE (hu:X.A.units<cLine):OpR X (compareOp .NotEq) (rNeE X.K):=by
 intro pins s σ H x y v u Q I rx ry h
 obtain⟨a,b,xs,rfl,rfl,ha,hb,q⟩:=h
 cases rx
 cases ry
 obtain⟨its,r,pl,hz⟩:=I.list ha
 obtain⟨its2,r2,pl2,hz2⟩:=I.list hb
 have l1:=r.length
 have l2:=r2.length
 cases xs with
 | nil=>
  refine PySem.EqBoolInt.of_rcne (SeqAt.RcNeAt.lists (e:=fun _=>true) pl.isList pl2.isList (by rw[List.size_toArray,List.size_toArray,<-l1,<-l2]) hu (fun j a b=>absurd a (by rw[List.size_toArray,<-l1];exact Nat.not_lt_zero _))) ⟨.bl _,H,I,rfl,?_⟩
  rw[List.size_toArray,<-l1]
  exact q
 | cons x xs=>
  refine PySem.EqBoolInt.of_rcne (SeqAt.RcNeAt.lists_lengths pl.isList pl2.isList (by rw[List.size_toArray,List.size_toArray,<-l1,<-l2];rfl) hu) ⟨.bl _,H,I,rfl,?_⟩
  exact q
theorem op_eqE (hu:X.A.units<cLine):OpR X (compareOp .Eq) (rEqE X.K):=by
 intro pins s σ H x y v u Q I rx ry h
 obtain⟨a,b,xs,rfl,rfl,ha,hb,q⟩:=h
 cases rx
 cases ry
 obtain⟨its,r,pl,hz⟩:=I.list ha
 obtain⟨its2,r2,pl2,hz2⟩:=I.list hb
 have l1:=r.length
 have l2:=r2.length
 cases xs with
 | nil=>
  refine SeqAt.eq_listAt (e:=fun _=>true) pl.isList pl2.isList (by rw[List.size_toArray,List.size_toArray,<-l1,<-l2]) hu (fun j a b=>absurd a (by rw[List.size_toArray,<-l1];exact Nat.not_lt_zero _)) ⟨.bl _,H,I,rfl,?_⟩
  rw[List.size_toArray,<-l1]
  exact q
 | cons x xs=>
  refine SeqAt.eq_list_lengthsAt pl.isList pl2.isList (by rw[List.size_toArray,List.size_toArray,<-l1,<-l2];rfl) hu ⟨.bl _,H,I,rfl,?_⟩
  exact q
end
end L2
namespace L2
open PySem PyProof.Rows
def Kp (s0:Shared)(h:Heap):Prop:=∀b o,s0.heap.get? b=some o->h.get? b=some o
structure MinIt (prog:Program)(w:World)(A:Around)(s0:Shared)(I:Addr)(its:List Value)(itAt:Nat->Heap->Prop):Prop where
 stay:∀j h h',itAt j h->h'.get? I=h.get? I->itAt j h'
 next:∀(j:Nat)(h:Heap)(tk:Nat)(v:Value)(Q:Option Value->Shared->Prop)(E:Value->Shared->Prop),Kp s0 h->itAt j h->its[j]? = some v ->
  (∀h',itAt (j+1) h'->(∀b,b≠I->h'.get? b=h.get? b)->Q (some v) { s0 with heap:=h',toks:=tk })->wpAny (model prog w) A (pyNext (.ref I)) Q E { s0 with heap:=h,toks:=tk }
 fin:∀(j:Nat)(h:Heap)(tk:Nat)(Q:Option Value->Shared->Prop)(E:Value->Shared->Prop),Kp s0 h->itAt j h->its[j]? = none ->
  (∀h',(∀b o,b≠I->h.get? b=some o->h'.get? b=some o)->Q none { s0 with heap:=h',toks:=tk })->wpAny (model prog w) A (pyNext (.ref I)) Q E { s0 with heap:=h,toks:=tk }
section
variable {prog:Program}{w:World}{A:Around}{s0:Shared}{I S:Addr}{its:List Value}{itAt:Nat->Heap->Prop}
theorem Kp.upd {h:Heap}{f:Obj->Obj}(K:Kp s0 h)(hS:s0.heap.objs.size<=S):Kp s0 (h.update S f):=fun b o e=>by
 rw[Heap.get?_update_ne _ _ _ _ (Nat.ne_of_lt (Nat.lt_of_lt_of_le (Heap.lt_size e) hS))];exact K b o e
theorem Kp.but {h h':Heap}(K:Kp s0 h)(hI:s0.heap.objs.size<=I)(k:∀b o,b≠I->h.get? b=some o->h'.get? b=some o):Kp s0 h':=fun b o e=>
 k b o (Nat.ne_of_lt (Nat.lt_of_lt_of_le (Heap.lt_size e) hI)) (K b o e)
theorem minD_loop {R:Result->Shared->Prop}{kw:List (Str×Value)}(M:MinIt prog w A.in1 s0 I its itAt)(bt:Nat->Nat->Bool)(hS:s0.heap.objs.size<=S)(hI:s0.heap.objs.size<=I)(hSI:S≠I)
 (cmp:∀(i j:Nat)(vi vj:Value)(h:Heap)(tk:Nat)(Q E:Value->Shared->Prop),Kp s0 h->its[i]? = some vi->its[j]? = some vj->Q (.bool (bt i j)) { s0 with heap:=h,toks:=tk }->wpAny (model prog w) A.in1 (richCompare .Lt vi vj) Q E { s0 with heap:=h,toks:=tk })
 (hR:∀(v:Value)(h:Heap)(tk:Nat),its[argBest bt (its.length-1)]? = some v->Kp s0 h->R (.ok (.ret v)) { s0 with heap:=h,toks:=tk })
 : ∀(r j:Nat)(h:Heap)(tk:Nat)(vb:Value)(c:Nat),its.length-(j+1)=r->j+1<=its.length->Kp s0 h->itAt (j+1) h->its[argBest bt j]? = some vb ->
  h.get? S=some { cls:=.type "list",data:=.seq #[vb,vb] c }->codeAny (model prog w) A (.builtin "min.loop" { pos:=[.ref I,.none,.ref S],kw:=kw }) R { s0 with heap:=h,toks:=tk }:=by
 intro r
 induction r with
 | zero=>
  intro j h tk vb c hr hj K hit hv hSo
  refine codeAny_builtin PySem.F.entry_min_loop ?_
  unfold Builtin.«min.loop»
  refine wpAny_bind (wpAny_seqItems hSo rfl ?_)
  dsimp only
  refine wpAny_bind (wpAny_tryCatch (M.fin (j+1) h tk _ _ K hit (List.getElem?_eq_none (by omega)) fun h' k=>?_))
  have hS':=k S _ hSI hSo
  refine wpAny_bind (wpAny_updateSeq hS' rfl (wpAny_bind (wpAny_letGo (wpAny_pure ?_))) (by show 2<=sizeLine;decide) (by show 0<=sizeLine+1;decide))
  refine hR vb _ tk ?_ ((K.but hI k).upd hS)
  rw[show its.length-1=j by omega];exact hv
 | succ r ih=>
  intro j h tk vb c hr hj K hit hv hSo
  obtain⟨x,hx⟩:∃x,its[j+1]? = some x:=⟨_,List.getElem?_eq_getElem (by omega)⟩
  refine codeAny_builtin PySem.F.entry_min_loop ?_
  unfold Builtin.«min.loop»
  refine wpAny_bind (wpAny_seqItems hSo rfl ?_)
  dsimp only
  refine wpAny_bind (wpAny_tryCatch (M.next (j+1) h tk x _ _ K hit hx fun h' hit' k=>?_))
  have K':Kp s0 h':=K.but hI fun b o hb e=>by rw[k b hb];exact e
  have hS':h'.get? S=some { cls:=.type "list",data:=.seq #[vb,vb] c }:=by rw[k S hSI];exact hSo
  refine wpAny_bind (wpAny_pure ?_)
  refine wpAny_bind (wpAny_tryCatch (wpAny_holding (wpAny_bind (cmp (j+1) (argBest bt j) x vb h' tk _ _ K' hx hv ?_))))
  refine wpAny_bind (wpAny_holding (wpAny_truthy_bool (wpAny_bind (wpAny_letGo (wpAny_pure ?_)))))
  have eb:argBest bt (j+1)=if bt (j+1) (argBest bt j)=true then j+1 else argBest bt j:=argBest.eq_2 bt j
  cases e:bt (j+1) (argBest bt j) with
  | true=>
   rw[if_pos e] at eb
   refine wpAny_bind (wpAny_updateSeq hS' rfl (wpAny_bind (wpAny_letGo (wpAny_pure ⟨rfl,?_⟩))) (by show 2<=sizeLine;decide) (by show 2<=sizeLine+1;decide))
   exact ih (j+1) _ tk x c (by omega) (by omega) (K'.upd hS) (M.stay _ _ _ hit' (Heap.get?_update_ne _ _ _ _ (Ne.symm hSI))) (by rw[eb];exact hx) (Heap.get?_update_self _ hS' rfl)
  | false=>
   rw[e,if_neg (by decide)] at eb
   refine wpAny_bind (wpAny_letGo (wpAny_pure ⟨rfl,?_⟩))
   exact ih (j+1) h' tk vb c (by omega) (by omega) K' hit' (by rw[eb];exact hv) hS'
theorem minD_first {R:Result->Shared->Prop}{d:Value}(M:MinIt prog w A.in1 s0 I its itAt)(bt:Nat->Nat->Bool)(hS:s0.heap.objs.size<=S)(hI:s0.heap.objs.size<=I)(hSI:S≠I)
 (cmp:∀(i j:Nat)(vi vj:Value)(h:Heap)(tk:Nat)(Q E:Value->Shared->Prop),Kp s0 h->its[i]? = some vi->its[j]? = some vj->Q (.bool (bt i j)) { s0 with heap:=h,toks:=tk }->wpAny (model prog w) A.in1 (richCompare .Lt vi vj) Q E { s0 with heap:=h,toks:=tk })
 (hR:∀(v:Value)(h:Heap)(tk:Nat),its[argBest bt (its.length-1)]? = some v->Kp s0 h->R (.ok (.ret v)) { s0 with heap:=h,toks:=tk })
 (h0:its=[]->∀(h:Heap)(tk:Nat),Kp s0 h->R (.ok (.ret d)) { s0 with heap:=h,toks:=tk })
 (h:Heap)(tk:Nat)(c:Nat)(K:Kp s0 h)(hit:itAt 0 h)(hSo:h.get? S=some { cls:=.type "list",data:=.seq #[] c }) :
 codeAny (model prog w) A (.builtin "min.loop" { pos:=[.ref I,.none,.ref S],kw:=[(Str.ofString "default",d)] }) R { s0 with heap:=h,toks:=tk }:=by
 refine codeAny_builtin PySem.F.entry_min_loop ?_
 unfold Builtin.«min.loop»
 refine wpAny_bind (wpAny_seqItems hSo rfl ?_)
 dsimp only
 cases e:its with
 | nil=>
  subst e
  refine wpAny_bind (wpAny_tryCatch (M.fin 0 h tk _ _ K hit rfl fun h' k=>?_))
  exact wpAny_bind (wpAny_rule (wpAny_pure (h0 rfl h' tk (K.but hI k))))
 | cons x xs=>
  have hx:its[0]? = some x:=by rw[e];rfl
  refine wpAny_bind (wpAny_tryCatch (M.next 0 h tk x _ _ K hit hx fun h' hit' k=>?_))
  have K':Kp s0 h':=K.but hI fun b o hb e=>by rw[k b hb];exact e
  have hS':h'.get? S=some { cls:=.type "list",data:=.seq #[] c }:=by rw[k S hSI];exact hSo
  refine wpAny_bind (wpAny_pure ?_)
  refine wpAny_bind (wpAny_updateSeq hS' rfl (wpAny_pure ⟨rfl,?_⟩) (by show 0<=sizeLine;decide) (by show 2<=sizeLine+1;decide))
  refine minD_loop M bt hS hI hSI cmp hR (its.length-1) 0 _ tk x (c+1) rfl (by rw[e];simp) (K'.upd hS) (M.stay _ _ _ hit' (Heap.get?_update_ne _ _ _ _ (Ne.symm hSI))) hx (Heap.get?_update_self _ hS' rfl)
end
end L2
namespace L2
open PySem PyProof.Rows
theorem wpAny_of_eq {α:Type}{M:Model}{A:Around}{E:Value->Shared->Prop}{s:Shared}{m m':Sem α}{Q:α->Shared->Prop}(e:m=m')(h:wpAny M A m' Q E s):wpAny M A m Q E s:=by subst e;exact h
theorem argBest_ord {O:KeyOrd}(ky:Nat->O.α):∀k,argBest (fun i j=>O.blt (ky i) (ky j)) k<=k/\∀j,j<=k->O.blt (ky j) (ky (argBest (fun i j=>O.blt (ky i) (ky j)) k))=false
 | 0=>⟨Nat.le_refl _,fun j hj=>by obtain rfl:j=0:=(by omega);exact O.irrefl _⟩
 | k+1=>by
  obtain⟨h1,h2⟩:=argBest_ord ky k
  rw[argBest.eq_2]
  cases e:O.blt (ky (k+1)) (ky (argBest (fun i j=>O.blt (ky i) (ky j)) k)) with
  | true=>
   rw[if_pos rfl]
   refine⟨Nat.le_refl _,fun j hj=>?_⟩
   by_cases c:j=k+1
   . subst c;exact O.irrefl _
   . cases e2:O.blt (ky j) (ky (k+1)) with
     | false=>rfl
     | true=>rw[<-h2 j (by omega)];exact (O.trans _ _ _ e2 e).symm
  | false=>
   rw[if_neg (by decide)]
   refine⟨by omega,fun j hj=>?_⟩
   by_cases c:j=k+1
   . subst c;exact e
   . exact h2 j (by omega)
theorem call_minD {prog:Program}{w:World}{A:Around}{s:Shared}{p:Addr}{its:List Value}{d:Value}{Q E:Value->Shared->Prop}(hA:A.handled=none)(bt:Nat->Nat->Bool)(hp:s.heap.IsList p its.toArray\/s.heap.IsTuple p its.toArray)
 (cmp:∀(i j:Nat)(vi vj:Value)(h:Heap)(tk:Nat)(Q E:Value->Shared->Prop),Kp s h->its[i]? = some vi->its[j]? = some vj->Q (.bool (bt i j)) { s with heap:=h,toks:=tk }->wpAny (model prog w) A.in1 (richCompare .Lt vi vj) Q E { s with heap:=h,toks:=tk })
 (hR:∀(v:Value)(h:Heap)(tk:Nat),its[argBest bt (its.length-1)]? = some v->Kp s h->Q v { s with heap:=h,toks:=tk })
 (h0:its=[]->∀(h:Heap)(tk:Nat),Kp s h->Q d { s with heap:=h,toks:=tk }) :
 wpAny (model prog w) A (call (.builtin "min") [.ref p] [(Str.ofString "default",d)]) Q E s:=by
 refine wpAny_call (codeAny_call_builtin PySem.F.plain_min PySem.F.entry_min (wpAny_of_eq (show checkBuiltinCall "min" { pos:=[.ref p],kw:=[(Str.ofString "default",d)] }=pure () from rfl) (wpAny_pure ?_)))
 unfold Builtin.min
 refine wpAny_bind (wpAny_of_eq (show Builtin.Builtins.bindParams "min" ["key", "default"] 0 { kw:=[(Str.ofString "default",d)] }=pure [none,some d] from rfl) (wpAny_pure ?_))
 dsimp only
 refine wpAny_bind (wpAny_pure ?_)
 have kp0:∀(o1 o2:Obj),Kp s ((s.heap.push o1).push o2):=fun o1 o2 b o e=>Heap.get?_push_of_some _ (Heap.get?_push_of_some _ e)
 rcases hp with hp | hp
 . refine wpAny_bind (wpAny_pyIter_list hp (wpAny_bind (wpAny_newList (wpAny_pure ⟨rfl,?_⟩) (by show 0<=sizeLine;decide))))
   have hSe:(s.heap.push { cls:=.type "list_iterator",data:=.fields #[.ref p,.int 0 0] }).objs.size=s.heap.objs.size+1:=Heap.size_push ..
   rw[hSe]
   refine minD_first (s0:=s) (I:=s.heap.objs.size) (S:=s.heap.objs.size+1) (itAt:=fun j h=>h.IsListIter s.heap.objs.size p j) ⟨fun j h h' a e=>?_,fun j h tk v Q E K hit hv q=>?_,fun j h tk Q E K hit hv q=>?_⟩ bt (Nat.le_succ _) (Nat.le_refl _) (Nat.succ_ne_self _) cmp hR h0 _ s.toks 0 (kp0 _ _) ?_ ?_
   . obtain⟨o,ho,hc⟩:=a
     exact⟨o,by rw[e];exact ho,hc⟩
   . obtain⟨o,ho,hc⟩:=hp
     exact wpAny_pyNext_list_item hit ⟨o,K _ _ ho,hc⟩ (by rw[List.getElem?_toArray];exact hv) fun h' a b=>q h' a fun c hc=>b.2 c hc
   . obtain⟨o,ho,hc⟩:=hp
     exact wpAny_pyNext_list_end hA hit ⟨o,K _ _ ho,hc⟩ (by rw[List.getElem?_toArray];exact hv) fun h' b=>q h' b
   . exact⟨_,Heap.get?_push_of_some _ (Heap.get?_push_size _ rfl),rfl,rfl⟩
   . rw[<-hSe];exact Heap.get?_push_size _ rfl
 . refine wpAny_bind (wpAny_pyIter_tuple hp (wpAny_bind (wpAny_newList (wpAny_pure ⟨rfl,?_⟩) (by show 0<=sizeLine;decide))))
   have hSe:(s.heap.push { cls:=.type "tuple_iterator",data:=.fields #[.ref p,.int 0 0] }).objs.size=s.heap.objs.size+1:=Heap.size_push ..
   rw[hSe]
   refine minD_first (s0:=s) (I:=s.heap.objs.size) (S:=s.heap.objs.size+1) (itAt:=fun j h=>h.IsTupleIter s.heap.objs.size p j) ⟨fun j h h' a e=>?_,fun j h tk v Q E K hit hv q=>?_,fun j h tk Q E K hit hv q=>?_⟩ bt (Nat.le_succ _) (Nat.le_refl _) (Nat.succ_ne_self _) cmp hR h0 _ s.toks 0 (kp0 _ _) ?_ ?_
   . obtain⟨o,ho,hc⟩:=a
     exact⟨o,by rw[e];exact ho,hc⟩
   . obtain⟨o,ho,hc⟩:=hp
     exact wpAny_pyNext_tuple_item hit ⟨o,K _ _ ho,hc⟩ (by rw[List.getElem?_toArray];exact hv) fun h' a b=>q h' a fun c hc=>b.2 c hc
   . obtain⟨o,ho,hc⟩:=hp
     exact wpAny_pyNext_tuple_end hA hit ⟨o,K _ _ ho,hc⟩ (by rw[List.getElem?_toArray];exact hv) fun h' b=>q h' b
   . exact⟨_,Heap.get?_push_of_some _ (Heap.get?_push_size _ rfl),rfl,rfl⟩
   . rw[<-hSe];exact Heap.get?_push_size _ rfl
section
variable {X:Cx}
def rMinD (K:PySem.W.Frag)(x dv:V)(H:Hp)(Q:VK):Prop:=∃(p:Addr)(ys:List V),x = .ref p/\(SqL K H p ys\/SqT K H p ys)/\(ys=[]->Q dv H) /\
 ((∃ks,TupsAre H ys ks/\∀(i:Nat)(y:V)(k:List Int),ys[i]? = some y->ks[i]? = some k->(∀k'∈ks,HT.lexLt k' k=false)->Q y H)\/(∃ns:List Int,ys=ns.map V.int/\∀n∈ns,(∀m∈ns,n<=m)->Q (.int n) H))
def tMinD (K:PySem.W.Frag)(t:TA)(td:TE):TE:=fun σ H Q=>t σ H fun vs H1=>∃x,vs=[x]/\td σ H1 fun dv H2=>rMinD K x dv H2 Q
theorem pe_minD {e de:Expr}{t:TA}{td:TE}{pos np kpos:Pos}(hc:X.calm=true)(hu:X.A.units+1<cLine)(hg:Gl X "min") (hm:X.mg "min" = none) (he:PA X [e] t)(hd:PE X de td)
 (hs1:backTo pos (starEach [e] X.env)=(false,eval e X.env)::backTo pos (starEach [] X.env):=by rfl)(hs2:(backTo pos (starEach [e] X.env)).any (·.1)=false:=by rfl) :
 PE X (.Call (.Name "min" np) [e] [⟨some "default",de,kpos⟩] pos) (tMinD X.K t td):=by
 intro pins s σ H Q I h
 refine wpAny_Call_Name_kw (ld_blt I hg hm (by decide +kernel:bootBuiltins "min" = some (.builtin "min")) ?_)
 refine PyProof.Rows.callWith_kw (thn (he pos pins s σ H _ I h) fun us s1 ⟨vs,H1,I1,r,q1⟩=>?_) hs1 hs2
 obtain⟨x,rfl,q1⟩:=q1
 obtain⟨u,rfl,rx⟩:=vals1 r
 show wpAny _ _ (evalAll ((do let v <-eval de X.env;standAt pos;pure v)::[])) _ _ s1
 refine wpAny_evalAll_cons (wpAny_bind (thn (hd pins s1 σ H1 _ I1 q1) fun ud s2 ⟨dv,H2,I2,rd,q2⟩=>wpAny_bind (wpAny_standAt (wpAny_pure (wpAny_evalAll_nil ?_)))))
 show wpAny _ _ (call (.builtin "min") [u] [(Str.ofString "default",ud)]) _ _ s2
 obtain⟨p,ys,rfl,hp,q0,hk⟩:=q2
 cases rx
 obtain⟨its,rv,hpp⟩:∃its:List Value,Vals ys its/\(s2.heap.IsList p its.toArray\/s2.heap.IsTuple p its.toArray):=by
  rcases hp with hp | hp
  . obtain⟨its,r',pl,_⟩:=I2.list hp
    exact⟨its,r',.inl pl.isList⟩
  . obtain⟨its,r',pl,_⟩:=I2.tuple hp
    exact⟨its,r',.inr pl⟩
 have hlen:=rv.length
 have e0:its=[]->ys=[]:=fun z=>List.length_eq_zero_iff.mp (by rw[hlen,z];rfl)
 rcases hk with ⟨ks,T,q⟩ | ⟨ns,rfl,q⟩
 . have hl:=T.length
   refine call_minD (I2.ok.hd hc) (fun i j=>lexO.blt (ks.getD i []) (ks.getD j [])) hpp (fun i j vi vj h tk Q E K hi hj q=>?_) (fun v h tk hv K=>?_) (fun z h tk K=>⟨dv,H2,I2.kept K,rd,q0 (e0 z)⟩)
   . have look:∀(i:Nat)(v:Value),its[i]? = some v->∃(p:Addr)(k:List Int)(us:List Value),v = .ref p/\ks[i]? = some k/\IntsAre us k/\IsTup h p us.toArray:=fun i v hv=>by
      have hi:i<ys.length:=by have:=(List.getElem?_eq_some_iff.mp hv).1;omega
      obtain⟨p,k,e1,e2,e3,_⟩:=T.get (i:=i) (x:=ys[i]) (by simp[hi])
      obtain⟨u,hu,ru⟩:=rv.get (i:=i) (x:=ys[i]) (by simp[hi])
      rw[hv] at hu;cases hu
      rw[e1] at ru
      cases (show v=Value.ref p from ru)
      obtain⟨_,us,rv',o,ho,hc⟩:=I2.hok p _ e3
      exact⟨p,k,us,rfl,e2,intsAre_of rv',o,K _ _ ho,hc⟩
     obtain⟨p1,k1,us1,rfl,g1,i1,t1⟩:=look i vi hi
     obtain⟨p2,k2,us2,rfl,g2,i2,t2⟩:=look j vj hj
     refine HT.lt_tupInts (ns:=k1) (ms:=k2) t1 t2 i1 i2 hu ?_
     have:lexO.blt (ks.getD i []) (ks.getD j [])=HT.lexLt k1 k2:=by rw[List.getD_eq_getElem?_getD,List.getD_eq_getElem?_getD,g1,g2];rfl
     rw[<-this];exact q
   . obtain⟨b1,b2⟩:=argBest_ord (O:=lexO) (fun i=>ks.getD i []) (its.length-1)
     have hlt:=(List.getElem?_eq_some_iff.mp hv).1
     generalize eb:argBest (fun i j=>lexO.blt (ks.getD i []) (ks.getD j [])) (its.length-1)=bi at hv hlt b1 b2
     have hy:bi<ys.length:=by omega
     obtain⟨u,hu,ru⟩:=rv.get (i:=bi) (x:=ys[bi]) (by simp[hy])
     rw[hv] at hu;cases hu
     obtain⟨pa,k,e1,e2,e3,_⟩:=T.get (i:=bi) (x:=ys[bi]) (by simp[hy])
     refine⟨ys[bi],H2,I2.kept K,ru,q bi ys[bi] k (by simp[hy]) e2 fun k' hk'=>?_⟩
     obtain⟨j,hj,ej⟩:=List.getElem_of_mem hk'
     have:=b2 j (by omega)
     have g1:ks.getD j []=k':=by rw[List.getD_eq_getElem?_getD,List.getElem?_eq_getElem hj,ej];rfl
     have g2:ks.getD bi []=k:=by rw[List.getD_eq_getElem?_getD,e2];rfl
     rw[g1,g2] at this
     exact this
 . have hI:IntsAre its ns:=intsAre_of rv
   have hl:=hI.length
   have look:∀(i:Nat)(v:Value),its[i]? = some v->∃t,v = .int (ns.getD i 0) t:=fun i v hv=>by
    have hi:i<ns.length:=by have:=(List.getElem?_eq_some_iff.mp hv).1;omega
    obtain⟨u,hu,ru⟩:=rv.get (i:=i) (x:=.int ns[i]) (by simp[hi])
    rw[hv] at hu;cases hu
    obtain⟨t,rfl⟩:=(show ∃t,v=Value.int ns[i] t from ru)
    exact⟨t,by rw[List.getD_eq_getElem?_getD,List.getElem?_eq_getElem hi];rfl⟩
   refine call_minD (I2.ok.hd hc) (fun i j=>decide (ns.getD i 0<ns.getD j 0)) hpp (fun i j vi vj h tk Q E K hi hj q=>?_) (fun v h tk hv K=>?_) (fun z h tk K=>⟨dv,H2,I2.kept K,rd,q0 (e0 z)⟩)
   . obtain⟨t1,rfl⟩:=look i vi hi
     obtain⟨t2,rfl⟩:=look j vj hj
     exact PyProof.Rows.lt_int q
   . obtain⟨b1,b2⟩:=argBest_lt (fun i=>ns.getD i 0) (its.length-1)
     have hlt:=(List.getElem?_eq_some_iff.mp hv).1
     generalize eb:argBest (fun i j=>decide (ns.getD i 0<ns.getD j 0)) (its.length-1)=bi at hv hlt b1 b2
     obtain⟨t,rfl⟩:=look bi v hv
     have hy:bi<ns.length:=by omega
     refine⟨.int (ns.getD bi 0),H2,I2.kept K,⟨t,rfl⟩,q _ ?_ fun m hm=>?_⟩
     . rw[List.getD_eq_getElem?_getD,List.getElem?_eq_getElem hy];exact List.getElem_mem hy
     . obtain⟨j,hj,ej⟩:=List.getElem_of_mem hm
       have:=b2 j (by omega)
       have g1:ns.getD j 0=m:=by rw[List.getD_eq_getElem?_getD,List.getElem?_eq_getElem hj,ej];rfl
       rw[g1] at this
       exact this
end
end L2
namespace L2
open PySem PyProof.Rows
section
variable {prog:Program}{w:World}{A:Around}{s0:Shared}{D I l:Addr}{its:List Value}{qs:List (Key×Value)}
end
section
variable {X:Cx}
end
end L2
namespace L2
open PySem PySem.Spec PyProof.Rows
section
variable {X:Cx}
theorem pe_tyN {x:Str}{T:String}{pos:Pos}(hg:Gl X x)(hm:X.mg x=none)(hv:bootBuiltins x=some (.type T))(hn:x ≠ "__name__" := by decide) (hdb:(x==("__debug__" : Str))=false:=by decide):PE X (.Name x pos) (tC (.ty T)):=
 fun pins s σ H Q I h=>ld_blt I hg hm hv ⟨.ty T,H,I,rfl,h⟩ hn hdb
theorem call_isinst:CallR X (.builtin "isinstance") (fun xs H Q=>∃x T t b,xs=[x,.ty T]/\TyOf X.K H x t/\PySem.W.kitOne X.K t (.type T)=some b/\Q (.bl b) H):=by
 intro pins s σ H xs us Q I r h
 obtain⟨x,T,t,b,rfl,ty,e,q⟩:=h
 obtain⟨u,w',rfl,rx,rT⟩:=vals2 r
 cases (show w'=Value.type T from rT)
 exact isinst_ok I rx ty e fun tk=>⟨.bl b,H,I.tok tk,rfl,q⟩
theorem ps_no {st:Stmt}:PS X st (fun _ _ _=>False):=fun _ _ _ _ _ _ h=>h.elim
end
section
variable {prog:Program}{w:World}{A:Around}{s0:Shared}{I l:Addr}{bs:List Bool}
theorem all_loop {R:Result->Shared->Prop}(hA:A.handled=none)(hI:s0.heap.objs.size<=I)(hl:s0.heap.IsList l (bs.map Value.bool).toArray)
 (hR:∀(h:Heap)(tk:Nat),Kp s0 h->R (.ok (.ret (.bool (bs.all id)))) { s0 with heap:=h,toks:=tk }) :
 ∀(r j:Nat)(h:Heap)(tk:Nat),bs.length-j=r->j<=bs.length->Kp s0 h->h.IsListIter I l j->(bs.take j).all id=true ->
  codeAny (model prog w) A (.builtin "all.loop" { pos:=[.ref I] }) R { s0 with heap:=h,toks:=tk }:=by
 have hl':∀h,Kp s0 h->h.IsList l (bs.map Value.bool).toArray:=fun h K=>by
  obtain⟨o,ho,hc⟩:=hl
  exact⟨o,K _ _ ho,hc⟩
 intro r
 induction r with
 | zero=>
  intro j h tk hr hj K hit ha
  refine codeAny_builtin PySem.F.entry_all_loop ?_
  unfold Builtin.«all.loop»
  refine wpAny_bind (wpAny_pyNext_list_end hA hit (hl' h K) (by rw[List.getElem?_toArray];exact List.getElem?_eq_none (by rw[List.length_map];omega)) fun h' b=>?_)
  refine wpAny_bind (wpAny_rule (wpAny_pure ?_))
  rw[List.take_of_length_le (by omega)] at ha
  have:=hR h' tk (K.but hI b)
  rw[ha] at this
  exact this
 | succ r ih=>
  intro j h tk hr hj K hit ha
  obtain⟨x,hx⟩:∃x,bs[j]? = some x:=⟨_,List.getElem?_eq_getElem (by omega)⟩
  refine codeAny_builtin PySem.F.entry_all_loop ?_
  unfold Builtin.«all.loop»
  refine wpAny_bind (wpAny_pyNext_list_item hit (hl' h K) (x:=.bool x) (by rw[List.getElem?_toArray,List.getElem?_map,hx];rfl) fun h' hit' b=>?_)
  have K':Kp s0 h':=K.but hI fun c o hc e=>by rw[b.2 c hc];exact e
  refine wpAny_bind (wpAny_holding (wpAny_truthy_bool (wpAny_bind (wpAny_letGo ?_))))
  cases x with
  | true=>
   refine wpAny_pure ⟨rfl,?_⟩
   exact ih (j+1) h' tk (by omega) (by omega) K' hit' (by rw[List.take_add_one,hx,List.all_append,ha];rfl)
  | false=>
   refine wpAny_bind (wpAny_rule (wpAny_pure ?_))
   have e:bs.all id=false:=by
    cases z:bs.all id with
    | false=>rfl
    | true=>have:=List.all_eq_true.mp z false (List.mem_of_getElem? hx);simp at this
   have:=hR h' tk K'
   rw[e] at this
   exact this
end
section
variable {X:Cx}
theorem bools_of:∀{bs:List Bool}{its:List Value},Vals (bs.map V.bl) its->its=bs.map Value.bool
 | [],[],_=>rfl
 | b::bs,u::its,h=>by
  cases h with
  | cons h1 h2=>rw[List.map_cons,<-bools_of h2,show u=Value.bool b from h1]
 | [],_::_,h=>by cases h
 | _::_,[],h=>by cases h
theorem call_all (hc:X.calm=true):CallR X (.builtin "all") (fun xs H Q=>∃(p:Addr)(bs:List Bool),xs=[.ref p]/\SqL X.K H p (bs.map V.bl)/\Q (.bl (bs.all id)) H):=by
 intro pins s σ H xs us Q I r h
 obtain⟨p,bs,rfl,hq,q⟩:=h
 obtain⟨u,rfl,rx⟩:=vals1 r
 cases rx
 obtain⟨its,r',pl,hz⟩:=I.list hq
 rw[bools_of r'] at pl
 refine wpAny_call (codeAny_call_builtin PySem.F.plain_all PySem.F.entry_all (wpAny_of_eq (m':=pure ()) rfl (wpAny_pure ?_)))
 unfold Builtin.all
 refine wpAny_bind (wpAny_of_eq (m':=pure (Value.ref p)) rfl (wpAny_pure (wpAny_bind (wpAny_pyIter_list pl.isList (wpAny_pure ⟨rfl,?_⟩)))))
 refine all_loop (s0:=s) (l:=p) (bs:=bs) (I.ok.hd hc) (Nat.le_refl _) pl.isList ?_ bs.length 0 _ s.toks rfl (Nat.zero_le _) (fun b o e=>Heap.get?_push_of_some _ e) ?_ rfl
 . exact fun h tk K=>⟨.bl _,H,I.kept K,rfl,q⟩
 . exact⟨_,Heap.get?_push_size _ rfl,rfl,rfl⟩
end
theorem set_new {prog:Program}{w:World}{h:Heap}(led:Bool):(h.push { cls:=.type "set",data:=.set #[] 0 (SetTable.fresh 0 0 led) }).SetOf (intKind prog w) h.objs.size (fun _=>false) 0:=by
 refine⟨_,#[],0,_,Heap.get?_push_size _ rfl,⟨rfl,rfl,rfl⟩,rfl,?_,fun k=>⟨fun z=>by simp at z,fun ⟨e,he,_⟩=>by simp at he⟩,by decide,?_,rfl⟩
 . first | exact ElemsOf.nil | trivial | (intro e he;simp at he)
 . cases led <;> first | rfl | decide +kernel
end L2
namespace L2
open PySem PySem.Spec PyProof.Rows
theorem call_setTup {prog:Program}{w:World}{A:Around}{s:Shared}{l:Addr}{its:List Value}{ns:List Int}{Q E:Value->Shared->Prop}(hA:A.handled=none)(hl:s.heap.IsTuple l its.toArray)(hi:IntsAre its ns)(hz:its.length+1<scanBound)
 (q:∀(h:Heap)(tk:Nat),Kp s h->h.SetOf (intKind prog w) s.heap.objs.size (fun k'=>(firstMet (fun i=>ns.getD i 0) its.length).any fun x=>x==k') (firstMet (fun i=>ns.getD i 0) its.length).length->Q (.ref s.heap.objs.size) { s with heap:=h,toks:=tk }) :
 wpAny (model prog w) A (call (.type "set") [.ref l]) Q E s:=by
 refine wpAny_call (codeAny_of_tree (wpAny_pure ⟨Code.quiet_builtin _ (by decide +kernel),codeAny_builtin PySem.F.entry_type_call ?_⟩))
 unfold Builtin.«type.__call__»
 dsimp only
 rw[if_neg (by rw[PySem.F.called_set.notType];decide)]
 rw[if_neg (by rw[PySem.F.called_set.canCreate];decide)]
 obtain⟨c,tl,hm⟩:=PySem.F.called_set.mro
 refine wpAny_bind (wpAny_of_eq (PySem.F.typeCall_set_1 _) (wpAny_pure (wpAny_bind (wpAny_of_eq hm (wpAny_pure ?_)))))
 refine wpAny_bind (wpAny_of_eq PySem.F.called_set.made (wpAny_pure (wpAny_bind (wpAny_pure ?_))))
 refine wpAny_bind (wpAny_holding (wpAny_call (codeAny_mono (code_set_new_1 (E:=E) (.ref l) (Q₁:=fun obj s₁=>obj = .ref s.heap.objs.size/\∃led,s₁={ s with heap:=s.heap.push { cls:=.type "set",data:=.set #[] 0 (SetTable.fresh 0 0 led) } }) fun led=>⟨rfl,led,rfl⟩) fun r s₁ e=>?_)))
 match r,e with
 | .ok (.ret obj),e=>
  obtain⟨rfl,led,rfl⟩:=e
  have h0:Kp s (s.heap.push { cls:=.type "set",data:=.set #[] 0 (SetTable.fresh 0 0 led) }):=fun b o e=>Heap.get?_push_of_some _ e
  have ht:∀h,Kp s h->h.IsTuple l its.toArray:=fun h K=>by
   obtain⟨o,ho,hr⟩:=hl
   exact⟨o,K _ _ ho,hr⟩
  have hlt:l<s.heap.objs.size:=by
   obtain⟨o,ho,_⟩:=hl
   exact Heap.lt_size ho
  have tyS:Shared.TypeIs { s with heap:=s.heap.push { cls:=.type "set",data:=.set #[] 0 (SetTable.fresh 0 0 led) } } (.ref s.heap.objs.size) "set" := ⟨_,Heap.get?_push_size _ rfl,rfl⟩
  show wpAny _ _ _ _ _ _
  refine wpAny_bind (wpAny_isInstance tyS PySem.F.called_set.sub ?_)
  refine wpAny_bind (wpAny_holding ?_)
  unfold callSpecial?
  refine wpAny_bind (wpAny_specialOf tyS PySem.F.called_set.init.lookup (wpAny_holding (wpAny_bind (wpAny_of_eq (PySem.F.called_set.init.bind _) (wpAny_pure (wpAny_bind (wpAny_call (codeAny_call_builtin PySem.F.called_set.init.plain PySem.F.entry_set_init (check_set_init_1 tyS ?_)))))))))
  unfold Builtin.«set.__init__»
  refine wpAny_bind (wpAny_of_eq (m':=pure ()) rfl (wpAny_pure ?_))
  dsimp only
  refine wpAny_bind (wpAny_bind (wpAny_bind (wpAny_typeOf tyS (wpAny_of_eq (m':=pure (Value.type "set")) rfl (wpAny_pure (wpAny_of_eq (m':=pure "set") rfl (wpAny_pure ?_)))))))
  refine wpAny_bind (wpAny_of_eq (m':=pure ()) rfl (wpAny_pure (wpAny_bind (wpAny_pure ?_))))
  refine wpAny_bind (wpAny_bind (wpAny_bind (wpAny_load (Heap.get?_push_size _ rfl) ?_)))
  refine wpAny_of_eq (m':=pure (#[],0,SetTable.fresh 0 0 led)) (by cases led <;> rfl) (wpAny_pure (wpAny_of_eq (m':=pure false) (by cases led <;> rfl) (wpAny_pure ?_)))
  have tyT:∀h tk,Kp s h->Shared.TypeIs { s with heap:=h,toks:=tk } (.ref l) "tuple" := fun h tk K=>by
   obtain⟨o,ho,hr⟩:=ht h K
   exact⟨o,ho,hr.1⟩
  show wpAny _ _ (Builtin.Frozenset.updateFrom "set.__init__" s.heap.objs.size (.ref l) >>= _) _ _ _
  unfold Builtin.Frozenset.updateFrom
  refine wpAny_bind (wpAny_bind (wpAny_bind (wpAny_isInstance (tyT _ _ h0) PySem.F.sub_tuple_set (wpAny_isInstance (tyT _ _ h0) (b:=false) rfl ?_))))
  refine wpAny_bind (wpAny_typeOf (tyT _ _ h0) ?_)
  refine wpAny_bind (wpAny_pyIter_tuple (ht _ h0) (wpAny_bind (wpAny_runValue ?_)))
  have hsz:(s.heap.push { cls:=.type "set",data:=.set #[] 0 (SetTable.fresh 0 0 led) }).objs.size=s.heap.objs.size+1:=Heap.size_push ..
  refine codeAny_set_update_loopS (Walks.toS (Walks.tuple (A:=(A.under (Code.builtin "type.__call__" { pos:=[.type "set",.ref l] })).in1.in1) hA (s.heap.push { cls:=.type "set",data:=.set #[] 0 (SetTable.fresh 0 0 led) }).objs.size l (Nat.ne_of_lt (by rw[hsz];exact Nat.lt_succ_of_lt hlt)) its.toArray)) s.heap.objs.size ?_ (fun i=>ns.getD i 0) ?_ (by simpa using hz) its.toArray.size 0 _ rfl (Nat.zero_le _) ?_ ?_ ?_
  . rw[hsz]
    intro z
    rcases List.mem_cons.mp z with z | z
    . exact absurd z (Nat.ne_of_lt (Nat.lt_succ_self _))
    . exact absurd (List.mem_singleton.mp z) (Nat.ne_of_gt hlt)
  . intro i v hv
    rw[List.getElem?_toArray] at hv
    exact hi.int_at i v hv
  . exact⟨⟨_,Heap.get?_push_size _ rfl,rfl,rfl⟩,ht _ fun b o e=>Heap.get?_push_of_some _ (h0 b o e)⟩
  . have:=set_new (prog:=prog) (w:=w) (h:=s.heap) led
    obtain⟨o,es,ep,t,ho,hr⟩:=this
    exact⟨o,es,ep,t,Heap.get?_push_of_some _ ho,hr⟩
  . intro s' mv so
    refine wpAny_pure (wpAny_pure (wpAny_pure (wpAny_pure ?_)))
    obtain⟨h',g',d',t',o'⟩:=s'
    obtain rfl:g'=s.gens:=mv.gens
    obtain rfl:d'=s.drawn:=mv.drawn
    obtain rfl:o'=s.os:=mv.os
    refine q h' t' (fun b o e=>mv.heap b o ?_ (Heap.get?_push_of_some _ (h0 b o e))) (by simpa using so)
    have hb:b<s.heap.objs.size:=Heap.lt_size e
    intro z
    rw[hsz] at z
    rcases List.mem_cons.mp z with z | z
    . exact absurd z (Nat.ne_of_lt hb)
    . exact absurd (List.mem_singleton.mp z) (Nat.ne_of_lt (Nat.lt_succ_of_lt hb))
 | .ok .next,e=>exact e.elim
 | .ok .brk,e=>exact e.elim
 | .ok .cont,e=>exact e.elim
 | .error v,e=>exact e
end L2
namespace L2
open PySem PySem.Spec PyProof.Rows
theorem firstMet_nd {ns:List Int}(h:ns.Nodup):∀k,k<=ns.length->firstMet (fun i=>ns.getD i 0) k=ns.take k
 | 0,_=>rfl
 | k+1,hk=>by
  rw[firstMet_succ,firstMet_nd h k (by omega)]
  have hx:ns[k]? = some (ns.getD k 0):=by rw[List.getD_eq_getElem?_getD,List.getElem?_eq_getElem (by omega)];rfl
  unfold step_dedup
  rw[if_neg,List.take_add_one,hx]
  . rfl
  . intro z
    obtain⟨y,hy,e⟩:=List.any_eq_true.mp z
    have e':y=ns.getD k 0:=by simpa using e
    obtain⟨j,hj,ej⟩:=List.getElem_of_mem hy
    rw[List.length_take] at hj
    rw[List.getElem_take] at ej
    obtain⟨hk',ek⟩:=List.getElem?_eq_some_iff.mp hx
    have:=(List.nodup_iff_pairwise_ne.mp h)
    have:=List.pairwise_iff_getElem.mp this j k (by omega) (by omega) (by omega)
    exact this (by rw[ej,ek,e'])
section
variable {X:Cx}
theorem call_setT (hc:X.calm=true):CallR X (.type "set") (fun xs H Q=>∃(p:Addr)(ns:List Int),xs=[.ref p]/\SqT X.K H p (ns.map V.int)/\ns.length<=1000 /\
 ∀d S,H d=none->Q (.ref d) (upd H d (.set S (firstMet (fun i=>ns.getD i 0) ns.length).length))):=by
 intro pins s σ H xs us Q I r h
 obtain⟨p,ns,rfl,hq,hl,q⟩:=h
 obtain⟨u,rfl,rx⟩:=vals1 r
 cases rx
 obtain⟨its,rv,pl,hz⟩:=I.tuple hq
 have hi:=intsAre_of rv
 have hil:=hi.length
 refine call_setTup (I.ok.hd hc) pl hi (by have:scanBound=4096:=rfl;omega) fun h tk K so=>?_
 rw[hil] at so
 exact⟨.ref s.heap.objs.size,_,I.laid (a:=s.heap.objs.size) (t':=tk) K (Nat.le_refl _) (show ObjOk X.prog X.w _ _ _ (.set _ _) from so),rfl,q _ _ I.fresh⟩
theorem call_lenS:CallR X (.builtin "len") (fun xs H Q=>∃(a:Addr)(S:Int->Bool)(n:Nat),xs=[.ref a]/\H a=some (.set S n)/\Q (.int n) H):=by
 intro pins s σ H xs us Q I r h
 obtain⟨a,S,n,rfl,ha,q⟩:=h
 obtain⟨u,rfl,rx⟩:=vals1 r
 cases rx
 obtain⟨o,es,ep,t,ho,ex,hd,_,_,hb,hf,hn⟩:=(show ObjOk X.prog X.w H s.heap a (.set S n) from I.hok a _ ha)
 refine call_len_set ho ex hd hf (by have:scanBound=4096:=rfl;omega) ⟨.int n,H,I.tok _,⟨_,by rw[hn]⟩,q⟩
def tBMT (r:V->List V->Hp->VK->Prop)(to:TE)(t:TA):TE:=fun σ H Q=>to σ H fun x H1=>(∃p ys,x = .ref p/\H1 p=some (.tup ys))/\t σ H1 fun xs H2=>r x xs H2 Q
variable {o e:Expr}{es:List Expr}{to:TE}{t:TA}{name:Str}{apos cpos:Pos}{id:String}{r:V->List V->Hp->VK->Prop}
theorem pe_bmT (slot:Slot "tuple" name id) (hty:typeOf (.builtin id)=pure (.type "method_descriptor")) (hm:MtR X id r)(ho:PE X o to)(ha:PA X (e::es) t)
 (hbase:attributeBase o name X.env (eval o X.env)=eval o X.env:=by rfl)
 (hfew:((backTo cpos (starEach (e::es) X.env)).all (fun x=>!x.1) && (backToKw cpos (keywordEach [] X.env)).all (fun x=>x.1.isSome)
  && decide ((e::es).length+([]:List Keyword).length+(if ([]:List Keyword).isEmpty then 0 else 1)<30))=true:=by rfl)
 (hline:(apos.endLine==cpos.line)=true:=by rfl)(hs:starEach (e::es) X.env=(false,eval e X.env)::starEach es X.env:=by rfl)(hplain:(backTo cpos (starEach es X.env)).any (·.1)=false:=by rfl) :
 PE X (.Call (.Attribute o name apos) (e::es) [] cpos) (tBMT r to t):=by
 intro pins s σ H Q I h
 refine wpAny_Call_method_late hbase hfew hline rfl (thn (ho pins s σ H _ I h) fun v s1 ⟨x,H1,I1,r1,⟨p,ys,ex,hp⟩,q1⟩=>?_)
 subst ex
 cases (show v=Value.ref p from r1)
 obtain⟨⟨_,o2,ho2,hd2⟩,its,rv,ob,hob,hcl,_⟩:=(show ObjOk X.prog X.w H1 s1.heap p (.tup ys) from I1.hok p _ hp)
 refine⟨"tuple",id,PySem.F.plainAttrs_tuple,slot,hty,⟨ob,hob,hcl⟩,fun a ea=>?_,?_⟩
 . cases ea
   exact⟨o2,ho2,hd2⟩
 have hA:=ha cpos pins s1 σ H1 _ I1 q1
 rw[hs] at hA ⊢
 refine Calls.callWith_builtin (by show (false || (backTo cpos (starEach es X.env)).any (·.1))=false;rw[hplain] <;> rfl) (Calls.evalArgs_plain ?_)
 exact thn hA fun us s2 ⟨vs,H2,I2,r2,q2⟩=>hm pins s2 σ H2 (.ref p) vs (.ref p) us Q I2 rfl r2 q2
end
section
variable {prog:Program}{w:World}{A:Around}{E:Value->Shared->Prop}
theorem index_for {its:Array Value}{ns:List Int}{v:Int}{tv:Tok}{i:Nat}{R:Option PySem.Fin×Unit->Shared->Prop}(hi:IntsAre its.toList ns)(hv:ns[i]? = some v)(hno:∀j,j<i->ns[j]?≠some v)
 (f:Nat->Option PySem.Fin×Unit->Sem (ForInStep (Option PySem.Fin×Unit)))
 (hf:∀(j:Nat)(x:Option PySem.Fin×Unit),f j x=(match its[j]? with
  | some y=>do
   let b <-eqBool y (.int v tv)
   if b=true then do
    let r <-retInt j
    pure (.done (some r,()))
   else pure (.yield (none,()))
  | _=>pure (.yield (none,()))))
 (s:Shared)(hR:∀tk,R (some (.done (.ret (.int i s.toks))),()) { s with toks:=tk }) :
 ∀(r j:Nat)(b:Option PySem.Fin×Unit),i-j=r->j<=i->wpAny (model prog w) A (forIn (List.range' j (its.size-j) 1) b f) R E s:=by
 have hsz:its.size=ns.length:=by have:=hi.length;simpa using this
 have hil:i<ns.length:=(List.getElem?_eq_some_iff.mp hv).1
 have look:∀j,j<ns.length->∃t,its[j]? = some (.int (ns.getD j 0) t):=fun j hj=>by
  have hj':j<its.size:=by omega
  obtain⟨t,ht⟩:=hi.int_at j (its[j]'hj') (by rw[Array.getElem?_toList,Array.getElem?_eq_getElem hj'])
  exact⟨t,by rw[Array.getElem?_eq_getElem hj',ht]⟩
 intro r
 induction r with
 | zero=>
  intro j b hr hj
  obtain rfl:j=i:=by omega
  rw[show its.size-j=(its.size-j-1)+1 by omega,List.range'_succ,List.forIn_cons,hf]
  obtain⟨t,ht⟩:=look j hil
  rw[ht]
  refine wpAny_bind (wpAny_bind (wpAny_eqBool_int ?_))
  have e:ns.getD j 0=v:=by rw[List.getD_eq_getElem?_getD,hv];rfl
  rw[e,show (v==v)=true by simp]
  refine wpAny_bind (wpAny_bind (wpAny_mkInt (wpAny_pure (wpAny_pure (wpAny_pure ?_)))))
  exact hR _
 | succ r ih=>
  intro j b hr hj
  rw[show its.size-j=(its.size-(j+1))+1 by omega,List.range'_succ,List.forIn_cons,hf]
  obtain⟨t,ht⟩:=look j (by omega)
  rw[ht]
  refine wpAny_bind (wpAny_bind (wpAny_eqBool_int ?_))
  have hj':ns[j]? = some (ns.getD j 0):=by rw[List.getD_eq_getElem?_getD,List.getElem?_eq_getElem (by omega)];rfl
  have e:¬ ns.getD j 0=v:=fun z=>hno j (by omega) (by rw[hj',z])
  rw[show (ns.getD j 0==v)=false by simpa using e]
  refine wpAny_pure ?_
  exact ih (j+1) _ (by omega) (by omega)
end
section
variable {X:Cx}
theorem mt_index:MtR X "tuple.index" (fun x xs H Q=>∃(p:Addr)(ns:List Int)(i:Nat)(v:Int),x = .ref p/\xs=[.int v]/\SqT X.K H p (ns.map V.int)/\ns[i]? = some v/\(∀j,j<i->ns[j]?≠some v)/\Q (.int i) H):=by
 intro pins s σ H x xs v us Q I rx r h
 obtain⟨p,ns,i,k,rfl,rfl,hq,hi,hno,q⟩:=h
 cases (show v=Value.ref p from rx)
 obtain⟨u,rfl,t,rfl⟩:=vals1 r
 obtain⟨its,rv,⟨ob,hob,hcl,n,hdat⟩,hz⟩:=I.tuple hq
 have hI:=intsAre_of rv
 refine wpAny_call (codeAny_call_builtin PySem.F.slot_tuple_index.plain PySem.F.entry_tuple_index (PySem.F.slot_tuple_index.check _ _ _ _ _ _ _ _ ⟨ob,hob,hcl⟩ (PySem.F.args_tuple_index_2 _ _) ?_))
 unfold Builtin.«tuple.index»
 refine wpAny_bind (wpAny_of_eq (m':=pure (Value.ref p,[Value.int k t])) rfl (wpAny_pure ?_))
 refine wpAny_bind (wpAny_bind (wpAny_seqItems hob hdat (wpAny_pure ?_)))
 refine wpAny_bind (wpAny_pure (wpAny_bind (wpAny_pure (wpAny_bind ?_))))
 rw[Std.Legacy.Range.forIn_eq_forIn_range']
 have hsz:(Std.Legacy.Range.mk 0 (min its.toArray.size its.toArray.size) 1 (by decide)).size=its.toArray.size-0:=by
  show (min its.toArray.size its.toArray.size-0+1-1)/1=_
  rw[Nat.min_self];omega
 rw[hsz]
 refine index_for (its:=its.toArray) (ns:=ns) (v:=k) (tv:=t) (i:=i) hI hi hno _ (fun j x=>by rfl) s (fun tk=>?_) i 0 _ (by omega) (Nat.zero_le _)
 exact wpAny_pure ⟨.int i,H,I.tok _,⟨_,rfl⟩,q⟩
end
section
variable {X:Cx}{pl:List (Addr×Obj)}{N':List Str}{sc:Scope}{fp:List Addr}{s3:Shared}{H3:Hp}
theorem mt_indexC:MtR (cxComp X pl N' sc fp s3 H3) "tuple.index" (fun x xs H Q=>∃(p:Addr)(ns:List Int)(i:Nat)(v:Int),x = .ref p/\xs=[.int v]/\SqT X.K H p (ns.map V.int)/\ns[i]? = some v/\(∀j,j<i->ns[j]?≠some v)/\Q (.int i) H):=mt_index
end
end L2
namespace L2
open PySem PySem.Spec PyProof.Rows
section
variable {X:Cx}
end
end L2
namespace L2
open PySem PySem.Spec PyProof.Rows
section
variable {prog:Program}{w:World}{A:Around}{s:Shared}{l:Addr}{its:List Value}{ns:List Int}{v:Int}{tv:Tok}
end
section
variable {X:Cx}
end
end L2
namespace WM
open L2
structure En where
 h:Int
 l:Int
 u:Option Int
 d:Option Int
def Hub (es:List En):Prop:=es.Pairwise fun a b=>a.h<b.h
end WM
namespace L2
open PySem PyProof.Rows
end L2
namespace WM
end WM
namespace L2
open PySem PySem.Spec PyProof.Rows
section
variable {X:Cx}
end
end L2
namespace SortT
open PySem PySem.W PySem.Calls PyProof.Rows
section
variable {prog:Program}{w:World}{A:Around}{E:Value->Shared->Prop}{s:Shared}
theorem gather_tup {t:Addr}{us:List Value}{Q:List Value->Shared->Prop}(ht:IsTup s.heap t us.toArray)(hz:us.length<=sizeLine)
 (q:Q us { s with heap:=(s.heap.push (seqObj "list" #[] 0)).update s.heap.objs.size (Obj.mapSeq (· ++ us.toArray)) }):wpAny (model prog w) A (collect (.ref t)) Q E s:=by
 obtain⟨ob,hob,cob,m,dob⟩:=ht
 have hob':(s.heap.push (seqObj "list" #[] 0)).get? t=some ob:=Heap.get?_push_of_some _ hob
 have new:(s.heap.push (seqObj "list" #[] 0)).get? s.heap.objs.size=some (seqObj "list" #[] 0):=Heap.get?_push_size _ rfl
 unfold collect
 refine wpAny_bind (wpAny_runValue (codeAny_builtin entry_proto_collect' (wpAny_bind (wpAny_newList (wpAny_pure ⟨Code.quiet_builtin _ (by decide +kernel),codeAny_builtin entry_list_iadd' ?_⟩)))))
 show wpAny _ _ (Builtin.List.listExtendWith _ (.ref t) _) _ _ _
 unfold Builtin.List.listExtendWith
 refine wpAny_bind (wpAny_typeOf (T := "tuple") ⟨ob,hob',cob⟩ ?_)
 have yes:(Value.type "tuple" == Value.type "tuple")=true:=rfl
 rw[if_pos (by rw[yes];simp)]
 refine wpAny_bind (listItems_at hob' dob (wpAny_bind (listItems_at (xs:=#[]) (n:=0) new rfl ?_)))
 rw[if_neg (by simp)]
 refine wpAny_bind (listUpdate_at (xs:=#[]) (n:=0) new rfl (wpAny_pure ?_) (Nat.zero_le _) (by simp;omega))
 refine wpAny_bind (wpAny_load (get?_update_seq new _) ?_)
 have e:((#[]:Array Value)++us.toArray).toList=us:=by simp
 show wpAny _ _ (pure ((#[]:Array Value)++us.toArray).toList) Q E _
 rw[e]
 exact wpAny_pure q
theorem sorted_tup {t:Addr}{us:List Value}{Q:Value->Shared->Prop}{O:KeyOrd}{key:Nat->O.α}{κ:SortKind}(ht:IsTup s.heap t us.toArray)(h64:us.length<64)
 (ask:2<=us.length->∀(s':Shared)(a:Addr),(∀b o,s.heap.get? b=some o->b≠a)->(∀b o,s.heap.get? b=some o->s'.heap.get? b=some o)->Asks prog w A.in1.in1 s' a us key κ)
 (h:∀(D:Addr)(h':Heap)(out:List Nat)(c:Nat),Put key us.length out->s.heap.objs.size<=D->(∀b o,s.heap.get? b=some o->h'.get? b=some o) ->
  h'.get? D=some (seqObj "list" (out.map fun i=>us.getD i Value.none).toArray c)->Q (.ref D) { s with heap:=h' }) :
 wpAny (model prog w) A (call (.builtin "sorted") [.ref t]) Q E s:=by
 refine Calls.call_function_entry kind_sorted plain_sorted entry_sorted (args_sorted1 _) ?_
 unfold Builtin.«sorted»
 refine wpAny_bind (m:=checkCount "sorted" 1 1 _) (wpAny_pure (wpAny_bind (gather_tup ht (by rw[sizeLine_eq];omega) (wpAny_bind (wpAny_newList ?_ (by rw[sizeLine_eq];omega))))))
 generalize hh1:(s.heap.push (seqObj "list" #[] 0)).update s.heap.objs.size (Obj.mapSeq (· ++ us.toArray))=h1
 have hsz:h1.objs.size=s.heap.objs.size+1:=by rw[<-hh1,Heap.size_update,size_push']
 have hk:∀b o,s.heap.get? b=some o->h1.get? b=some o:=fun b o z=>by
  rw[<-hh1,Heap.get?_update_ne _ _ _ _ (Nat.ne_of_lt (Heap.lt_size z)),Heap.get?_push_ne _ _ _ (Nat.ne_of_lt (Heap.lt_size z))]
  exact z
 have hoL:(h1.push (seqObj "list" us.toArray 0)).get? h1.objs.size=some (seqObj "list" us.toArray 0):=Heap.get?_push_size _ rfl
 have keep1:∀b o,h1.get? b=some o->(h1.push (seqObj "list" us.toArray 0)).get? b=some o:=fun b o q=>Heap.get?_push_of_some _ q
 refine wpAny_bind (wpAny_holding (wpAny_call_entry slot_list_sort ⟨_,hoL,rfl⟩ entry_list_sort (list_sort (O:=O) (key:=key) (κ:=κ) hoL h64
  (fun h2=>ask h2 _ _ (fun b o e=>Nat.ne_of_lt (Heap.lt_size (hk b o e))) fun b o e=>keep1 b o (hk b o e)) fun out hp=>⟨_,rfl,?_⟩) (args_list_sort _)))
 refine wpAny_pure ⟨_,rfl,?_⟩
 obtain⟨c,hc⟩:=sortedHeap_at (vs:=us) (out:=(out.map fun i=>us.getD i Value.none).toArray) hoL
 refine h _ _ out c hp (by rw[hsz];exact Nat.le_succ _) (fun b o e=>?_) hc
 have hb:b<h1.objs.size:=Heap.lt_size (hk b o e)
 rw[sortedHeap_old (Nat.ne_of_lt hb) (by rw[Heap.size_push];exact Nat.lt_succ_of_lt hb)]
 exact keep1 b o (hk b o e)
end
end SortT
namespace L2
open PySem PySem.Spec PyProof.Rows
section
variable {X:Cx}
theorem call_sortedTI:CallR X (.builtin "sorted") (fun xs H Q=>∃(p:Addr)(ns:List Int),xs=[.ref p]/\SqT X.K H p (ns.map V.int)/\ns.length<64 /\
 ∀(l:Addr)(ms:List Int),H l=none->ms.Perm ns->ms.Pairwise (· <= ·)->Q (.ref l) (upd H l (.lst (ms.map V.int)))):=by
 intro pins s σ H xs us Q I r h
 obtain⟨p,ns,rfl,hq,h64,q⟩:=h
 obtain⟨u,rfl,rx⟩:=vals1 r
 cases rx
 obtain⟨its,r',pl,hz⟩:=I.tuple hq
 have hI:IntsAre its ns:=intsAre_of r'
 have hl:=hI.length
 refine SortT.sorted_tup (O:=intO) (key:=fun i=>ns.getD i 0) (κ:=oneType') pl (by omega) (fun h2 s' a fa kp=>asks_ints hI h2) fun D h' out c pt hD kp ho=>?_
 obtain⟨ms,hp,hr,rz,hlz⟩:=put_ints hI pt
 refine⟨.ref D,_,sorted_fin (t':=s.toks) I hD kp ho rz ?_,rfl,q D ms (I.hok.fresh hD) hp hr⟩
 have:sizeLine=16777216:=rfl
 rw[List.length_map]
 omega
end
section
variable {X:Cx}{pl:List (Addr×Obj)}{N':List Str}{sc:Scope}{fp:List Addr}{s3:Shared}{H3:Hp}
end
end L2
namespace L2
open PySem PySem.Spec PyProof.Rows
section
variable {X:Cx}
def rCatA (K:PySem.W.Frag):R2:=fun x y H Q=>∃a b xs ys,x = .ref a/\y = .ref b/\SqT K H a xs/\SqT K H b ys/\xs.length+ys.length<=sizeLine /\
 (xs=[]->Q (.ref b) H)/\(xs≠[]->ys=[]->Q (.ref a) H)/\(xs≠[]->ys≠[]->∀p,H p=none->Q (.ref p) (upd H p (.tup (xs++ys))))
theorem cat_nil {prog:Program}{w:World}{A:Around}{E:Value->Shared->Prop}{s:Shared}{t b:Addr}{ws:List Value}{Q:Value->Shared->Prop}(ht:IsTup s.heap t #[])(hb:IsTup s.heap b ws.toArray)
 (h:Q (.ref b) s):wpAny (model prog w) A (binaryOp .Add (.ref t) (.ref b)) Q E s:=by
 obtain⟨⟨cls,dd,data,sl⟩,ho,hc,n,hd⟩:=id ht
 obtain⟨⟨cls2,dd2,data2,sl2⟩,ho2,hc2,n2,hd2⟩:=id hb
 simp only at hc hd hc2 hd2
 subst hc hd hc2 hd2
 exact concat_meets ⟨_,ho,rfl⟩ ⟨_,ho2,rfl⟩ noFill_tuple_add seq_tuple_add PySem.F.slot_tuple_add PySem.F.entry_tuple_add (PySem.F.args_tuple_add_2 _ _)
  (tuple_addW0 t b #[] ws.toArray n n2 dd dd2 sl sl2 rfl) ⟨ho,ho2,h⟩
theorem op_catA:OpR X (binaryOp .Add) (rCatA X.K):=by
 intro pins s σ H x y v u Q I rx ry h
 obtain⟨a,b,xs,ys,rfl,rfl,ha,hb,hz,q0,q1,q2⟩:=h
 by_cases hx:xs=[]
 . subst hx
   cases rx
   cases ry
   obtain⟨its,r1,p1,_⟩:=I.tuple ha
   obtain⟨its2,r2,p2,_⟩:=I.tuple hb
   cases r1
   exact cat_nil p1 p2 ⟨.ref b,H,I,rfl,q0 rfl⟩
 . exact op_catT pins s σ H _ _ v u Q I rx ry ⟨a,b,xs,ys,rfl,rfl,ha,hb,hx,hz,q1 hx,q2 hx⟩
end
end L2
namespace L2
open PySem PySem.Spec PyProof.Rows
section
variable {X:Cx}
end
end L2
namespace HT
open PySem PySem.Spec PyProof.Rows
section
open PySem.SeqAt
open PySem.AutoSeq1 (wpAny_loadPart')
open PySem.MeetsSeq PySem.MeetsSeq2 PySem.MeetsSeq3
end
end HT
namespace L2
open PySem PySem.Spec PyProof.Rows
section
variable {X:Cx}
end
end L2
namespace HT
open PySem PySem.Spec PyProof.Rows
section
variable {prog:Program}{w:World}{A:Around}{E:Value->Shared->Prop}{s:Shared}
theorem getItem_tuple_all {t sl:Addr}{items:Array Value}{vl vu:Value}{lo hi:Option Int}{Q:Value->Shared->Prop}(ht:IsTup s.heap t items)(hs:s.heap.IsSliceOf sl vl vu .none)(pl:IsPart vl lo)(pu:IsPart vu hi)
 (hw:sIx items.size 0 lo=0/\sIx items.size items.size hi=items.size)(h:Q (.ref t) s):wpAny (model prog w) A (getItem (.ref t) (.ref sl)) Q E s:=by
 obtain⟨os,hos,hcs,hds⟩:=id hs
 have hTs:s.TypeIs (.ref sl) "slice" := ⟨os,hos,hcs⟩
 unfold getItem
 try with_reducible refine wpAny_holding ?_
 first | refine wpAny_bind (wpAny_pure ?_) | skip
 refine wpAny_bind (wpAny_sequenceKey ht.typeIs (by decide) ?_)
 refine wpAny_bind (wpAny_callSpecial?_slot (name:=Str.ofString "__getitem__") ht.typeIs PyProof.Rows.slot_tuple_getitem
  (wpAny_call_entry PyProof.Rows.slot_tuple_getitem ht.typeIs entry_tuple_getitem ?_ (args_tuple_getitem _ _)))
 show wpAny _ _ (Builtin.Tuple.tupleItemsOf (.ref t) >>= _) _ _ s
 refine wpAny_bind (tupleItemsOf_ ht ?_)
 refine wpAny_bind (wpAny_typeOf hTs ?_)
 rw[if_pos (by decide)]
 refine wpAny_bind (sliceApplied_gen hs pl pu ?_)
 have hyes:(((sIx items.size 0 lo:Nat):Int)==0 && (1:Int)==1 && (sIx items.size items.size hi-sIx items.size 0 lo)==items.size)=true:=by
  rw[hw.1,hw.2];simp
 show wpAny _ _ (if (((sIx items.size 0 lo:Nat):Int)==0 && (1:Int)==1 && (sIx items.size items.size hi-sIx items.size 0 lo)==items.size)=true then _ else _) _ _ s
 rw[if_pos hyes]
 unfold Builtin.Tuple.tupleIsExact
 refine wpAny_bind (wpAny_bind (wpAny_typeOf ht.typeIs (wpAny_pure ?_)))
 rw[if_pos (by decide)]
 first
  | exact wpAny_bind (wpAny_rule (wpAny_pure ⟨_,rfl,wpAny_pure h⟩))
  | exact wpAny_bind (wpAny_rule (wpAny_pure (wpAny_pure ⟨_,rfl,wpAny_pure h⟩)))
  | exact wpAny_bind (wpAny_rule (wpAny_bind (wpAny_pure (wpAny_pure ⟨_,rfl,wpAny_pure h⟩))))
  | exact wpAny_rule (wpAny_pure ⟨_,rfl,wpAny_pure h⟩)
theorem sliceApplied_rev {sl:Addr}{vk:Value}{n:Nat}{os:Obj}{Q:Int×Int×Nat->Shared->Prop}(hos:s.heap.get? sl=some os)(hds:os.data = .fields #[.none,.none,vk])(pk:IsPart vk (some (-1)))
 (h:Q ((n:Int)-1,-1,n) s):wpAny (model prog w) A (Builtin.Slice.sliceApplied (.ref sl) (pure (n:Int))) Q E s:=by
 unfold Builtin.Slice.sliceApplied Builtin.Slice.sliceFields
 refine wpAny_bind (wpAny_bind (wpAny_field hos hds (x:=.none) rfl (wpAny_bind (wpAny_field hos hds (x:=.none) rfl (wpAny_bind (wpAny_field hos hds (x:=vk) rfl (wpAny_pure ?_)))))))
 refine wpAny_bind (slicePart_ pk ?_)
 show wpAny _ _ (if ((-1:Int)==0)=true then _ else _) _ _ s
 rw[if_neg (by decide)]
 refine wpAny_bind (slicePart_none (wpAny_bind (slicePart_none (wpAny_bind (wpAny_pure ?_)))))
 have e:Builtin.Slice.sliceAdjust none none (-1) (n:Int)=((n:Int)-1,-1):=rfl
 show wpAny _ _ (match Builtin.Slice.sliceAdjust none none (-1) (n:Int) with | (lo,hi)=>pure (lo,(-1:Int),Builtin.Slice.slicePlaces lo hi (-1))) _ _ s
 rw[e]
 have e2:Builtin.Slice.slicePlaces ((n:Int)-1) (-1) (-1)=n:=by
  unfold Builtin.Slice.slicePlaces
  rw[if_neg (by decide)]
  cases n with
  | zero=>rfl
  | succ m=>
   rw[if_pos (by omega),Int.neg_neg,Int.ediv_one]
   omega
 show wpAny _ _ (pure ((n:Int)-1,(-1:Int),Builtin.Slice.slicePlaces ((n:Int)-1) (-1) (-1))) _ _ s
 rw[e2]
 exact wpAny_pure h
theorem fm_congr {α β:Type}{f g:α->Option β}:∀{l:List α},(∀m∈l,f m=g m)->l.filterMap f=l.filterMap g
 | [],_=>rfl
 | a::l,h=>by
  have ih:=fm_congr (l:=l) fun m hm=>h m (List.mem_cons_of_mem _ hm)
  rw[List.filterMap_cons,List.filterMap_cons,h a List.mem_cons_self,ih]
theorem pick_rev (xs:Array Value):((List.range xs.size).filterMap fun (m:Nat)=>xs[(((xs.size:Int)-1)+(m:Int)*(-1)).toNat]?).toArray=xs.toList.reverse.toArray:=by
 have e:((List.range xs.size).filterMap fun (m:Nat)=>xs[(((xs.size:Int)-1)+(m:Int)*(-1)).toNat]?)=((List.range xs.size).map fun k=>xs.size-1-k).filterMap (xs[·]?):=by
  rw[List.filterMap_map]
  apply fm_congr
  intro m hm
  have:=List.mem_range.mp hm
  show xs[_]? = xs[_]?
  rw[show (((xs.size:Int)-1)+(m:Int)*(-1)).toNat=xs.size-1-m by omega]
 rw[e,PySem.W.krv_range,List.filterMap_reverse,PySem.W.krv_all]
theorem getItem_tuple_rev {t sl:Addr}{items:Array Value}{vk:Value}{os:Obj}{Q:Value->Shared->Prop}(ht:IsTup s.heap t items)(hos:s.heap.get? sl=some os)(hcs:os.cls = .type "slice") (hds:os.data = .fields #[.none,.none,vk])(pk:IsPart vk (some (-1)))
 (h:Q (.ref s.heap.objs.size) { s with heap:=s.heap.push { cls:=.type "tuple",data:=.seq items.toList.reverse.toArray } }) (hsz:items.size<=sizeLine):wpAny (model prog w) A (getItem (.ref t) (.ref sl)) Q E s:=by
 have hTs:s.TypeIs (.ref sl) "slice" := ⟨os,hos,hcs⟩
 have htake:sizeOk (.seq items.toList.reverse.toArray):=by
  show items.toList.reverse.toArray.size<=sizeLine
  rw[List.size_toArray,List.length_reverse,Array.length_toList]
  exact hsz
 unfold getItem
 try with_reducible refine wpAny_holding ?_
 first | refine wpAny_bind (wpAny_pure ?_) | skip
 refine wpAny_bind (wpAny_sequenceKey ht.typeIs (by decide) ?_)
 refine wpAny_bind (wpAny_callSpecial?_slot (name:=Str.ofString "__getitem__") ht.typeIs PyProof.Rows.slot_tuple_getitem
  (wpAny_call_entry PyProof.Rows.slot_tuple_getitem ht.typeIs entry_tuple_getitem ?_ (args_tuple_getitem _ _)))
 show wpAny _ _ (Builtin.Tuple.tupleItemsOf (.ref t) >>= _) _ _ s
 refine wpAny_bind (tupleItemsOf_ ht ?_)
 refine wpAny_bind (wpAny_typeOf hTs ?_)
 rw[if_pos (by decide)]
 refine wpAny_bind (sliceApplied_rev hos hds pk ?_)
 have hno:¬ ((((items.size:Int)-1)==0 && (-1:Int)==1 && items.size==items.size)=true):=by
  intro q
  rw[Bool.and_eq_true,Bool.and_eq_true] at q
  exact absurd q.1.2 (by decide)
 show wpAny _ _ (if (((items.size:Int)-1)==0 && (-1:Int)==1 && items.size==items.size)=true then _ else _) _ _ s
 rw[if_neg hno,pick_rev]
 first
  | exact wpAny_bind (m:=Builtin.Tuple.tupleExact _) (wpAny_newObj_type (wpAny_pure ⟨_,rfl,wpAny_pure h⟩) htake)
  | exact wpAny_bind (m:=Builtin.Tuple.tupleExact _) (wpAny_newObj_type (wpAny_bind (wpAny_pure (wpAny_pure ⟨_,rfl,wpAny_pure h⟩))) htake)
  | exact wpAny_bind (wpAny_bind (m:=Builtin.Tuple.tupleExact _) (wpAny_newObj_type (wpAny_pure (wpAny_pure ⟨_,rfl,wpAny_pure h⟩)) htake))
  | exact wpAny_bind (wpAny_bind (m:=Builtin.Tuple.tupleExact _) (wpAny_newObj_type (wpAny_pure ⟨_,rfl,wpAny_pure h⟩) htake))
end
end HT
namespace L2
open PySem PySem.Spec PyProof.Rows
section
variable {X:Cx}{e:Expr}{te:TE}{pos p2 p3 p4:Pos}
def rSlA (K:PySem.W.Frag):V->Option Int->Option Int->Hp->VK->Prop:=fun x lo hi H Q=>∃a xs,x = .ref a/\SqT K H a xs /\
 ((HT.sIx xs.length 0 lo=0/\HT.sIx xs.length xs.length hi=xs.length)->Q (.ref a) H)/\(¬ (HT.sIx xs.length 0 lo=0/\HT.sIx xs.length xs.length hi=xs.length)->∀p,H p=none->Q (.ref p) (upd H p (.tup (cutV xs lo hi))))
theorem sl_tupA:SlR X (rSlA X.K):=by
 intro pins s σ H x v vl vu lo hi sl Q I rx hs pl pu h
 obtain⟨a,xs,rfl,hx,q1,q2⟩:=h
 by_cases c:HT.sIx xs.length 0 lo=0/\HT.sIx xs.length xs.length hi=xs.length
 . cases rx
   obtain⟨its,r,ht,hz⟩:=I.tuple hx
   have hlen:its.toArray.size=xs.length:=by rw[List.size_toArray];exact r.length.symm
   refine⟨"tuple",_,PyProof.Rows.slot_tuple_getitem.lookup,ht.typeIs,?_⟩
   exact HT.getItem_tuple_all ht hs pl pu (by rw[hlen];exact c) ⟨.ref a,H,I,rfl,q1 c⟩
 . exact sl_tup pins s σ H _ v vl vu lo hi sl Q I rx hs pl pu ⟨a,xs,rfl,hx,c,q2 c⟩
def tRev (K:PySem.W.Frag)(te:TE):TE:=fun σ H Q=>te σ H fun x H1=>∃a xs,x = .ref a/\SqT K H1 a xs/\∀p,H1 p=none->Q (.ref p) (upd H1 p (.tup xs.reverse))
theorem vals_reverse {xs:List V}{us:List Value}(h:Vals xs us):Vals xs.reverse us.reverse:=by
 induction h with
 | nil=>exact .nil
 | cons r _ ih=>rw[List.reverse_cons,List.reverse_cons];exact ih.append (.cons r .nil)
theorem pe_rev {m:Expr}{ops:Value->Value->List Value}(he:PE X e te)(hm:PE X m (tC (.int (-1))))(hsub:∀a d,subscripted (.Slice none none (some m) p2) false a d=operate (ops a d) (getItem a d)):PE X (.Subscript e (.Slice none none (some m) p2) pos) (tRev X.K te):=by
 intro pins s σ H Q I h
 refine Subscript_ (thn (he pins s σ H _ I h) fun v s1 ⟨x,H1,I1,r1,q1⟩=>?_)
 obtain⟨a,xs,rfl,hx,q⟩:=q1
 refine wpAny_Slice ?_
 rw[evalPart_none]
 refine wpAny_pure (wpAny_pure ?_)
 rw[evalPart_some]
 refine thn (hm pins s1 σ H1 (fun y H2=>y = .int (-1)/\H2=H1) I1 ⟨rfl,rfl⟩) fun vk s3 ⟨y,H3,I3,rk,ey,eH⟩=>?_
 subst ey eH
 obtain⟨t,rfl⟩:=rk
 cases r1
 have I4:Inv X pins σ H3 { s3 with heap:=s3.heap.push { cls:=.type "slice",data:=.fields #[.none,.none,.int (-1) t] } }:=I3.kept (t':=s3.toks) fun b ob q=>Heap.get?_push_of_some _ q
 obtain⟨its,r,ht,hz⟩:=I4.tuple hx
 have hlen:its.toArray.size=xs.length:=by rw[List.size_toArray];exact r.length.symm
 show wpAny (model X.prog X.w) X.A (subscriptTail e (.Slice none none (some m) p2) (.ref a) (.ref s3.heap.objs.size)) (EP X pins σ Q) X.xe { s3 with heap:=s3.heap.push { cls:=.type "slice",data:=.fields #[.none,.none,.int (-1) t] } }
 refine tail_any (ops:=ops (.ref a) (.ref s3.heap.objs.size)) ht.typeIs PyProof.Rows.slot_tuple_getitem.lookup (HT.getItem_tuple_rev ht (Heap.get?_push_size _ rfl) rfl rfl (.int (-1) t) ?_ (by rw[hlen];exact hz)) (hsub _ _)
 refine⟨.ref _,_,I4.laid (t':=s3.toks) (o:=.tup xs.reverse) (fun b ob q=>Heap.get?_push_of_some _ q) (Nat.le_refl _) ?_,rfl,q _ (I4.hok.fresh (Nat.le_refl _))⟩
 exact⟨⟨by rw[List.length_reverse];exact hz,_,Heap.get?_push_size _ rfl,rfl⟩,_,vals_reverse r,IsTup.new _ _⟩
end
end L2
namespace L2
open PySem PySem.Spec PyProof.Rows
def CXO (P:Program)(w:World):CXT:=fun outer H s E e s'=>
 ∃(ea t:Addr)(C:Value)(H':Hp)(B:Heap),e = .ref ea/\s'.os=s.os/\AllBare s'.gens/\Un (frs outer) [] H H' s.heap s'.heap/\HOk P w H' s'.heap /\
  Heap.FlyingW B outer ea C (.ref t) s'.heap/\(∀b u,H' b=some u->∃o,B.get? b=some o)/\(∀b o,s.heap.get? b=some o->H b=none->b∉frs outer->B.get? b=some o)/\(∀b o,s.heap.get? b=some o->b∉frs outer->∃o',B.get? b=some o')/\E C none H'
theorem ObjOk.there {P:Program}{w:World}{H:Hp}{h:Heap}{a:Addr}{o:HO}(x:ObjOk P w H h a o):∃ob,h.get? a=some ob:=by
 cases o with
 | lst xs=>obtain⟨_,_,_,_,e⟩:=x;exact⟨_,e⟩
 | tup xs=>obtain⟨⟨_,o2,e2,_⟩,_⟩:=x;exact⟨_,e2⟩
 | dK kvs=>obtain⟨_,_,_,_,o,_,_,e,_⟩:=x;exact⟨_,e⟩
 | dT kvs=>obtain⟨_,_,_,_,o,_,_,e,_⟩:=x;exact⟨_,e⟩
 | set S n=>obtain⟨o,_,_,_,e,_⟩:=x;exact⟨_,e⟩
 | ins C dx fs=>obtain⟨_,_,_,e,_⟩:=x;exact⟨_,e⟩
 | own y=>obtain⟨_,e⟩:=x;exact⟨_,e⟩
 | xd fs=>obtain⟨_,⟨_,_,_,e,_⟩,_⟩:=x;exact⟨_,e⟩
 | rng lo hi=>obtain⟨_,_,_,e⟩:=x;exact⟨_,e⟩
 | frz ob u=>obtain⟨e,_⟩:=x;exact⟨_,e⟩
 | tbl ps=>exact⟨_,show h.get? a=some _ from x⟩
 | met f y=>exact⟨_,show h.get? a=some _ from x⟩
 | ext φ=>obtain⟨_,⟨_,e⟩,_⟩:=x;exact⟨_,e⟩
theorem HOk.stays {P:Program}{w:World}{H:Hp}{h h' B:Heap}(x:HOk P w H h)(k:B.StaysIn h)(k':B.StaysIn h')(tr:∀b u,H b=some u->∃o,B.get? b=some o):HOk P w H h':=fun a o e=>
 (x a o e).stay (fun b u hb q=>by
  have:∃v,H b=some v:=by
   rcases hb with rfl | hb
   . exact⟨_,e⟩
   . exact⟨_,hb⟩
  obtain⟨v,hv⟩:=this
  obtain⟨o',ho'⟩:=tr b v hv
  have e2:o'=u:=Option.some.inj ((k b o' ho').symm.trans q)
  exact e2 ▸ k' b o' ho') (fun _ q=>q) fun _ _ q=>q
section
variable {P:Program}{w:World}{K:PySem.W.Frag}{mg:Str->Option Value}{base:Heap}{N:List Str}{qual:Str}{scope:Scope}{f:Addr}{cd:Value}{A:Around}{outer:List Env}{s0 s:Shared}{H0 H:Hp}{E:XK}{pins:List (Addr×Obj)}{σ:St}
theorem raised_xe {h':Heap}{ea:Addr}{C:Value}{vs:List Value}(I:Inv (cxOf (CXO P w) P w K mg base N qual scope f cd A outer s0 H0 E) pins σ H s)(hx:Heap.MadeExcOf s.heap h' ea C vs)(hE:E C none H) :
 (cxOf (CXO P w) P w K mg base N qual scope f cd A outer s0 H0 E).xe (.ref ea) { s with heap:=h' }:=by
 have hfr:frs (cxOf (CXO P w) P w K mg base N qual scope f cd A outer s0 H0 E).stack=(envOfC qual scope s0.heap.objs.size f cd::outer).filterMap (·.frame):=rfl
 have hin:∀env∈(envOfC qual scope s0.heap.objs.size f cd::outer),∀a,env.frame=some a->a∈(envOfC qual scope s0.heap.objs.size f cd::outer).filterMap (·.frame):=fun env he b hb=>List.mem_filterMap.mpr ⟨env,he,hb⟩
 refine wpAny_leaves_madeW (base:=PySem.W.hideAll s.heap ((envOfC qual scope s0.heap.objs.size f cd::outer).filterMap (·.frame))) I.ok.frames rfl (fun b o q=>PySem.W.of_hideAll _ q) (PySem.W.funFrames_hide I.stack hin) hx fun h'' t fl _ _ up=>?_
 have st:(PySem.W.hideAll s.heap ((envOfC qual scope s0.heap.objs.size f cd::outer).filterMap (·.frame))).StaysIn h'':=fl.1
 have old:∀b o,s0.heap.get? b=some o->H0 b=none->b∉frs outer->(PySem.W.hideAll s.heap ((envOfC qual scope s0.heap.objs.size f cd::outer).filterMap (·.frame))).get? b=some o:=fun b o e n hb=>by
  refine PySem.W.hideAll_get _ (I.base.keep b o e n hb (by intro z;cases z)) fun z=>?_
  rcases List.mem_cons.mp (I.stkSub b z) with q | q
  . exact absurd (Heap.lt_size e) (by rw[q];exact Nat.not_lt_of_le (Nat.le_refl _))
  . exact hb q
 have al:∀b o,s0.heap.get? b=some o->b∉frs outer->∃o',(PySem.W.hideAll s.heap ((envOfC qual scope s0.heap.objs.size f cd::outer).filterMap (·.frame))).get? b=some o':=fun b o e hb=>by
  obtain⟨o1,e1⟩:=I.base.there b o e (by intro z;cases z)
  refine⟨o1,PySem.W.hideAll_get _ e1 fun z=>?_⟩
  rcases List.mem_cons.mp (I.stkSub b z) with q | q
  . exact absurd (Heap.lt_size e) (by rw[q];exact Nat.not_lt_of_le (Nat.le_refl _))
  . exact hb q
 have tr:∀b u,H b=some u->∃o,(PySem.W.hideAll s.heap ((envOfC qual scope s0.heap.objs.size f cd::outer).filterMap (·.frame))).get? b=some o:=fun b u e=>by
  obtain⟨o,ho⟩:=(I.hok b u e).there
  refine⟨o,PySem.W.hideAll_get _ ho fun z=>?_⟩
  have:=I.stkFree b z
  rw[e] at this
  cases this
 refine⟨ea,t,C,H,_,rfl,I.os,I.bare,⟨fun b o e n hb hx'=>st b o (old b o e n hb),fun b o e n hb hx'=>?_,I.base.free,fun b o e hx'=>?_,I.base.tups,I.base.frzs,I.base.tbls⟩,I.hok.stays (fun b o q=>PySem.W.of_hideAll _ q) st tr,fl,tr,old,al,hE⟩
 . obtain⟨sl,e1⟩:=I.base.slot b o e n hb (by intro z;cases z)
   obtain⟨_,o2,e2,nd⟩:=I.stack.mem (show b∈(envOfC qual scope s0.heap.objs.size f cd::outer).filterMap (·.frame) from List.mem_cons_of_mem _ hb)
   have e3:o2={ o with slots:=sl }:=Option.some.inj (e2.symm.trans e1)
   obtain⟨sl2,e4⟩:=up b _ (hx.keeps b _ e1) (fun vs=>by rw[<-e3];exact nd vs)
   exact⟨sl2,e4⟩
 . obtain⟨o1,e1⟩:=I.base.there b o e (by intro z;cases z)
   by_cases hb:b∈(envOfC qual scope s0.heap.objs.size f cd::outer).filterMap (·.frame)
   . obtain⟨_,o2,e2,nd⟩:=I.stack.mem hb
     obtain⟨sl2,e4⟩:=up b _ (hx.keeps b _ e2) nd
     exact⟨_,e4⟩
   . exact⟨_,st b _ (PySem.W.hideAll_get _ e1 hb)⟩
end
abbrev bmV:List Value:=[.type "ValueError",.type "Exception",.type "BaseException",.type "object"]
theorem exc_obj {K:PySem.W.Frag}{h:Heap}{C:Addr}{bmB:List Value}{newId:String}(X:K.In h)(q:PySem.W.excIn K C bmB newId=true) :
 ∃bm N nm qn bs hdct sn sub ab col dd k0 k1 k2 k3 k5 mN,h.get? C=some (excClassObj nm qn C N bs bm hdct sn sub ab col dd k0 k1 k2 k3 k5 newId)/\h.Ns N mN/\mN "__init__" = none/\OwnTail h bmB bm:=by
 unfold PySem.W.excIn at q
 split at q
 . next dd cd sl look=>
   split at q
   . next D bm k0 k1 k2 k3 n k5 em es=>
     simp only[Bool.and_eq_true,beq_iff_eq,Bool.not_eq_true'] at q
     obtain⟨⟨⟨⟨⟨q1,q2⟩,q3⟩,q4⟩,q5⟩,q6⟩:=q
     subst q1 q2
     cases cd
     simp only at em q3 q5 q6
     subst em q3
     cases sl
     simp only at es
     subst es
     exact⟨_,_,_,_,_,_,_,_,_,_,_,_,_,_,_,_,_,X _ _ look,.of_isNs (PySem.W.isNs_of_in X q5),PySem.W.nsMap_none_of_in X q5 q6,PySem.W.tail_of_in X q4⟩
   . cases q
 . cases q
def tRaise (C:Addr)(t:TA)(E:XK):TS:=fun _ σ H=>t σ H fun _ H1=>E (.ref C) none H1
theorem ps_raise {X:Cx}{x:Str}{C:Addr}{e:Expr}{t:TA}{E:XK}{np cpos pos:Pos}(hg:Gl X x)(hm:X.mg x=some (.ref C))(q:PySem.W.excIn X.K C bmV "ValueError.__new__" = true) (hc:X.calm=true)(ha:PA X [e] t)
 (hxe:∀(pins:List (Addr×Obj))(σ:St)(H:Hp)(s:Shared)(h':Heap)(ea:Addr)(vs:List Value),Inv X pins σ H s->Heap.MadeExcOf s.heap h' ea (.ref C) vs->E (.ref C) none H->X.xe (.ref ea) { s with heap:=h' })
 (hs:starEach [e] X.env=[(false,eval e X.env)]:=by rfl)(hd:(x==("__debug__" : Str))=false:=by decide) (hl:∀ σ H Q,t σ H Q->t σ H fun vs H1=>vs.length<=1/\Q vs H1) :
 PS X (.Raise (some (.Call (.Name x np) [e] [] cpos)) none pos) (tRaise C t E):=by
 intro pins s σ H D I h
 obtain⟨bm,Nn,nm,qn,bs,hdct,sn,sub,ab,col,dd,k0,k1,k2,k3,k5,mN,hC,hN,hni,T⟩:=exc_obj I.mod.kin q
 refine wpAny_Raise_call_subT (C:=C) (nm:=nm) (q:=qn) (N:=Nn) (bs:=bs) (bm:=bm) (hdct:=hdct) (sn:=sn) (sub:=sub) (ab:=ab) (col:=col) (dd:=dd) (k0:=k0) (k1:=k1) (k2:=k2) (k3:=k3) (k5:=k5)
  PySem.F.excBase_ValueError (mN:=mN) (T.hasType (by rfl)) (I.ok.hd hc) (by rw[hs];rfl) hni (ld_glob I hg hm ⟨rfl,?_⟩ hd)
 have ha':=ha cpos pins s σ H _ I (hl σ H _ h)
 rw[hs] at ha' ⊢
 refine Calls.evalArgs_plain (thn ha' fun us s2 ⟨vs,H2,I2,r2,z2,q2⟩=>?_)
 exact⟨rfl,by rw[<-r2.length];have:sizeLine=16777216:=rfl;show vs.length<=_;omega,I2.bk _ _ hC,hN.keeps I2.bk,T.keeps I2.bk,fun h' ea mx=>hxe pins σ H2 s2 h' ea us I2 mx q2⟩
theorem Fun.okX {P:Program}{w:World}{K:PySem.W.Frag}{mg:Str->Option Value}{base:Heap}{x qual:Str}{st:Stmt}{f:Addr}{fd:FuncData}{N ps:List Str}{k:Nat}{sp:Sp}(F:Fun K x qual st f fd)(S:FnScope N ps (defScope st))(len:∀vs H Q E,sp vs H Q E->vs.length=ps.length)
 (hbody:∀(cdv:Value)(A:Around)(outer:List Env)(s:Shared)(H:Hp)(vs:List V)(Q:VK)(E:XK),Room k (A.deeper (envOfC qual (defScope st) s.heap.objs.size f cdv))->sp vs H Q E ->
  ∃t,PSs (cxOf (CXO P w) P w K mg base N qual (defScope st) f cdv A outer s H E) (defBody st) t/\t { nx:=fun _ H'=>Q .non H',rt:=Q } (start N vs) H):FnOk P w K mg base (CXO P w) (k+1) f fd ps sp:=by
 obtain⟨oc,od,kV,doc,pm,an,cdv,ct,osl,rfl,lk,hcd⟩:=F.ex
 exact fn_of lk hcd S len fun A outer s H vs Q E hr hsp=>hbody cdv A outer s H vs Q E hr hsp
end L2
namespace L2
open PySem PySem.Spec PyProof.Rows
section
variable {X:Cx}{pins:List (Addr×Obj)}{σ:St}{H:Hp}{s:Shared}
theorem unbind_ok {M:Model}{A:Around}{E:Value->Shared->Prop}{i:Nat}{x:Str}{v:V}{Q:Unit->Shared->Prop}(I:Inv X pins σ H s)(hN:X.N.Nodup)(hi:X.N[i]? = some x)(hk:X.env.kindOf x=some .local)(hv:σ[i]? = some (some v))
 (h:∀s',Inv X pins (σ.set i none) H s'->Q () s'):wpAny M A (unbindName X.env x) Q E s:=by
 obtain⟨m,hn,hl⟩:=id I.loc
 have hcls:(X.env.scope.kind == .class || (X.env.scope.kind == .module && X.env.locals != X.env.globals))=false:=by rw[I.ok.kind];rfl
 have hk':X.env.scope.names.lookup x=some .local:=hk
 obtain⟨u,_,lk⟩:=hl i x v hi hv (.inl hk')
 have hm:m x=some u:=by
  rcases lk with ⟨_,e⟩ | ⟨q,_⟩
  . exact e
  . rcases q with q | q <;> (rw[hk] at q;cases q)
 obtain⟨oL,_,_,hoL,_⟩:=id hn
 have neL:∀b o,X.s₀.heap.get? b=some o->b≠X.env.locals:=fun b o e=>Nat.ne_of_lt (Nat.lt_of_lt_of_le (Heap.lt_size e) I.ok.above)
 refine wpAny_unbindName_local hk hn hm hcls fun h' uu hn' hs=>h _ ⟨I.ok,I.os,I.bare,⟨fun b o e n hb hx=>(hs.2 b (neL b o e)).trans (I.base.keep b o e n hb hx),fun b o e n hb hx=>?_,I.base.free,fun b o e hx=>?_,I.base.tups,I.base.frzs,I.base.tbls⟩,⟨_,hn',fun j y v' e1 e2 e3=>?_⟩,fun y c e=>?_,I.free,I.freeC,fun p hp=>?_,fun b ob e=>?_,by simpa using I.len⟩
 . obtain⟨sl,e1⟩:=I.base.slot b o e n hb hx
   exact⟨sl,(hs.2 b (neL b o e)).trans e1⟩
 . obtain⟨o',e1⟩:=I.base.there b o e hx
   exact⟨o',(hs.2 b (neL b o e)).trans e1⟩
 . have hj:j≠i:=fun z=>by
    subst z
    have:j<σ.length:=(List.getElem?_eq_some_iff.mp hv).1
    rw[List.getElem?_set_self this] at e2
    cases e2
   rw[List.getElem?_set_ne (Ne.symm hj)] at e2
   obtain⟨u',r',q⟩:=hl j y v' e1 e2 e3
   refine⟨u',r',?_⟩
   rcases q with ⟨k,e⟩ | ⟨k,c,e,z⟩
   . have ny:y≠x:=fun e=>hj (nodup_ix hN e1 (e ▸ hi))
     exact .inl ⟨k,by simp[ny,e]⟩
   . exact .inr ⟨k,c,e,z.sameBut hs (I.cne y c e)⟩
 . obtain⟨w',z⟩:=I.cell y c e
   exact⟨w',z.sameBut hs (I.cne y c e)⟩
 . obtain⟨e,n,ne,nf,d⟩:=I.pin p hp
   exact⟨(hs.2 p.1 ne).trans e,n,ne,nf,d⟩
 . refine (I.hok b ob e).stay (fun c w' hc q=>(hs.2 c ?_).trans q) (fun _ q=>q) fun _ _ q=>q
   rintro rfl
   rcases hc with rfl | hc
   . rw[I.free] at e;cases e
   . rw[I.free] at hc;cases hc
end
theorem match_base {M:Model}{A:Around}{E:Value->Shared->Prop}{s:Shared}{nm qn nm' qn':Str}{C W Nn Nn':Addr}{bs bm bs' bm':List Value}{hdct hdct':Bool}{sn sn':List Str}{sub sub':List Value}{ab ab':Bool}{col col':Option Bool}{dd dd':Option Addr}
 {k0 k1 k2 k3 k5 k0' k1' k2' k3' k5':Option Value}{newId newId':String}{e:Addr}{oe:Obj}{Q:Bool->Shared->Prop}
 (hC:s.heap.get? C=some (excClassObj nm qn C Nn bs bm hdct sn sub ab col dd k0 k1 k2 k3 k5 newId))(hW:s.heap.get? W=some (excClassObj nm' qn' W Nn' bs' bm' hdct' sn' sub' ab' col' dd' k0' k1' k2' k3' k5' newId'))
 (he:s.heap.get? e=some oe)(hcls:oe.cls = .ref C)(hb:bm'.contains (.type "BaseException")=true) (hs:(Value.ref C::bm).contains (.ref W)=true)(hq:Q true s):wpAny M A (excMatches (.ref e) (.ref W)) Q E s:=by
 obtain⟨h,g,d,t,os⟩:=s
 have hWB:(Value.ref W::bm').contains (.type "BaseException")=true:=by rw[List.contains_cons,hb,Bool.or_true]
 have f:=tc_notTuple
 unfold excMatches
 repeat (first | (with_reducible refine wpAny_loadPart_at he ?_;rw[hcls]) | with_reducible refine wpAny_loadPart_at hW ?_ | (with_reducible refine wpAny_isSubtype_exc hW ?_;rw[hWB]) | (with_reducible refine wpAny_isSubtype_exc hC ?_;rw[hs]) | wp_step)
 exact hq
end L2
namespace L2
open PySem PySem.Spec PyProof.Rows
def subIn (K:PySem.W.Frag)(C W:Addr):Bool:=match K.lookup C with
 | some ⟨_,_,.cls cd,_⟩=>cd.mro.contains (.ref W)
 | _=>false
theorem sub_of {K:PySem.W.Frag}{h:Heap}{C W:Addr}{nm qn:Str}{Nn:Addr}{bs bm:List Value}{hdct:Bool}{sn:List Str}{sub:List Value}{ab:Bool}{col:Option Bool}{dd:Option Addr}{k0 k1 k2 k3 k5:Option Value}{newId:String}
 (X:K.In h)(q:subIn K C W=true)(hC:h.get? C=some (excClassObj nm qn C Nn bs bm hdct sn sub ab col dd k0 k1 k2 k3 k5 newId)):(Value.ref C::bm).contains (.ref W)=true:=by
 unfold subIn at q
 split at q
 . next look=>
   have e:=(X _ _ look).symm.trans hC
   unfold excClassObj at e
   cases e
   exact q
 . cases q
def Cx.held (X:Cx)(ea:Addr)(oe:Obj):Cx:={ X with A:=X.A.mark (some (.ref ea)),calm:=false,pn:=(ea,oe)::X.pn,xe:=fun _ _=>False }
section
variable {X:Cx}{pins:List (Addr×Obj)}{σ:St}{H:Hp}{s:Shared}{ea:Addr}{oe:Obj}
theorem Inv.hold (I:Inv X pins σ H s)(h1:s.heap.get? ea=some oe)(h2:H ea=none)(h3:ea≠X.env.locals)(h4:ea∉X.fs)(h5:∀v,oe.data ≠ .cell v):Inv (X.held ea oe) pins σ H s:=
 ⟨⟨I.ok.mod,I.ok.kind,I.ok.glob,I.ok.blt,I.ok.above,I.ok.inj,I.ok.has,I.ok.cab,(fun z=>by cases z),I.ok.frames,I.ok.stk,I.ok.exf,I.ok.bs,I.ok.bsz,I.ok.noex,I.ok.exfs,I.ok.funs,I.ok.frf⟩,I.os,I.bare,I.base,I.loc,I.cell,I.free,I.freeC,
  fun p hp=>by
   rcases List.mem_cons.mp (show p∈(ea,oe)::(X.pn++pins) from hp) with rfl | hp
   . exact⟨h1,h2,h3,h4,h5⟩
   . exact I.pin p hp,I.hok,I.len⟩
theorem Inv.letgo (ok:X.Ok)(I:Inv (X.held ea oe) pins σ H s):Inv X pins σ H s:=
 ⟨ok,I.os,I.bare,I.base,I.loc,I.cell,I.free,I.freeC,fun p hp=>I.pin p (List.mem_cons_of_mem _ hp),I.hok,I.len⟩
end
theorem landed_un {st:List Env}{H1 H':Hp}{s1 s':Shared}{ea:Addr}{C a0:Value}{B h5:Heap}(un:Un (frs st) [] H1 H' s1.heap s'.heap)(fl:Heap.FlyingW B st ea C a0 s'.heap)
 (old:∀b o,s1.heap.get? b=some o->H1 b=none->b∉frs st->B.get? b=some o)(al:∀b o,s1.heap.get? b=some o->b∉frs st->∃o',B.get? b=some o')(st5:B.StaysIn h5)(up:s'.heap.UpToSlots h5):Un (frs st) [] H1 H' s1.heap h5:=by
 refine⟨fun b o e n hb _=>st5 b o (old b o e n hb),fun b o e n hb _=>?_,un.free,fun b o e _=>?_,un.tups,un.frzs,un.tbls⟩
 . obtain⟨sl2,e2⟩:=un.slot b o e n hb (by intro z;cases z)
   obtain⟨_,o3,e3,nd⟩:=fl.2.2.1.mem hb
   obtain⟨sl4,e4⟩:=up b _ e3 nd
   have e5:=Option.some.inj (e3.symm.trans e2)
   rw[e5] at e4
   exact⟨sl4,e4⟩
 . by_cases hb:b∈frs st
   . obtain⟨_,o3,e3,nd⟩:=fl.2.2.1.mem hb
     obtain⟨sl4,e4⟩:=up b _ e3 nd
     exact⟨_,e4⟩
   . obtain⟨o3,e3⟩:=al b o e hb
     exact⟨_,st5 b o3 e3⟩
def endsH (i:Nat)(D:Ends):Ends:={ D with nx:=fun σ H=>D.nx (σ.set i none) H,bk:=fun σ H=>D.bk (σ.set i none) H,ct:=fun σ H=>D.ct (σ.set i none) H }
def EH (K:PySem.W.Frag)(W:Addr)(ts:Addr->Obj->Addr->TS)(i:Nat)(D:Ends)(σ:St):XK:=fun C _ H'=>∃Ca,C = .ref Ca/\PySem.W.excIn K Ca bmV "ValueError.__new__" = true/\subIn K Ca W=true/\∀ea oe,oe.cls = .ref Ca->H' ea=none->ts ea oe Ca (endsH i D) (σ.set i (some (.ref ea))) H'
def tTry (K:PySem.W.Frag)(W:Addr)(tb:XK->TS)(ts:Addr->Obj->Addr->TS)(i:Nat):TS:=fun D σ H=>tb (EH K W ts i D σ) D σ H
def PX (X:Cx)(body:List Stmt)(tb:XK->TS):Prop:=∀(pins:List (Addr×Obj))(s:Shared)(σ:St)(H:Hp)(D:Ends)(E1:XK),Inv X pins σ H s->tb E1 D σ H ->
 wpAny (model X.prog X.w) X.A (execs body X.env) (SP X pins D) (fun e s'=>∃H1 s1,Inv X pins σ H1 s1/\CXO X.prog X.w X.stack H1 s1 E1 e s') s
theorem ps_try {X:Cx}{body:List Stmt}{n x:Str}{i:Nat}{b0:Stmt}{suite:List Stmt}{pos hpos np:Pos}{W:Addr}{tb:XK->TS}{ts:Addr->Obj->Addr->TS}(hN:X.N.Nodup)(hi:X.N[i]? = some n)(hk:X.env.kindOf n=some .local)
 (hst:X.stack=X.env::X.outer)(hfl:X.env.frame=some X.env.locals)(hex:X.ex=[])(hg:Gl X x)(hm:X.mg x=some (.ref W))(qW:PySem.W.excIn X.K W bmV "ValueError.__new__" = true)
 (hb:PX X body tb)(hs:∀(ea:Addr)(oe:Obj)(C:Addr),oe.cls = .ref C->PSs (X.held ea oe) (b0::suite) (ts ea oe C))(hd:(x==("__debug__" : Str))=false:=by decide) :
 PS X (.Try body [.ExceptHandler (some (.Name x np)) (some n) (b0::suite) hpos] [] [] pos) (tTry X.K W tb ts i):=by
 intro pins s σ H D I h
 refine wpAny_Try_except (wpAny_mono (hb pins s σ H D _ I h) (fun fl s' hq=>?_) fun e s' hq=>?_)
 . cases fl with
   | next=>exact wpAny_execs_nil hq
   | brk=>exact hq
   | cont=>exact hq
   | ret u=>exact hq
 . obtain⟨H1,s1,I1,ea,t,C,H',B,rfl,os,bare,un,hok,fl,tr,old,al,Ca,rfl,qC,sub,hts⟩:=hq
   have hfr:X.A.frames=some (X.env::X.outer):=by rw[<-hst];exact I.ok.frames
   have fl':=fl
   rw[hst] at fl'
   have hHe:H' ea=none:=by
    cases z:H' ea with
    | none=>rfl
    | some u=>
     obtain⟨o,ho⟩:=tr ea u z
     rw[fl.2.1] at ho;cases ho
   refine wpAny_looks_onW hfr hfl fl' fun h4 held up4=>?_
   refine wpAny_landsW held fun h5 fl5 up5=>?_
   have key:∀(h6:Heap),Heap.FlyingW B (X.env::X.outer) ea (.ref Ca) (.ref t) h6->s'.heap.UpToSlots h6->∃oe,h6.get? ea=some oe/\oe.cls = .ref Ca/\Inv (X.held ea oe) pins σ H' { s' with heap:=h6 }:=fun h6 fl6 up6=>by
    obtain⟨oe,ws,hoe,hc,hdt,_⟩:=fl6.first
    have un6:Un (frs X.stack) [] H1 H' s1.heap h6:=landed_un un fl old al fl6.1 up6
    have I6:Inv X pins σ H' { s' with heap:=h6 }:=I1.call' (s':={ s' with heap:=h6 }) os un6 (hok.stays fl.1 fl6.1 tr) bare (fun b z=>absurd z (by simp))
    have nfr:ea∉frs X.stack:=fun z=>by
     rw[hst] at z
     obtain⟨_,o,ho,nd⟩:=fl6.2.2.1.mem z
     rw[hoe] at ho
     cases ho
     exact nd ws hdt
    have hfs:frs X.stack=X.env.locals::X.fs:=by
     rw[hst]
     unfold frs
     rw[List.filterMap_cons,hfl]
     rfl
    rw[hfs] at nfr
    exact⟨oe,hoe,hc,I6.hold hoe hHe (fun z=>nfr (z ▸ List.mem_cons_self)) (fun z=>nfr (List.mem_cons_of_mem _ z)) (fun v z=>by rw[hdt] at z;cases z)⟩
   obtain⟨oe5,hoe5,hc5,I5⟩:=key h5 fl5 (up4.trans up5)
   refine wpAny_handleBy_cons (codeAny_handlers_test (ld_glob (X:=X.held ea oe5) I5 hg hm ?_ hd)) (by intro q;cases q)
   obtain⟨bm,Nn,nm,qn,bs,hdct,sn,sb,ab,col,dd,k0,k1,k2,k3,k5,mN,hC,_,_,_⟩:=exc_obj I5.kIn qC
   obtain⟨bm',Nn',nm',qn',bs',hdct',sn',sb',ab',col',dd',k0',k1',k2',k3',k5',mN',hW,_,_,TW⟩:=exc_obj I5.kIn qW
   refine match_base hC hW hoe5 hc5 (TW.hasType (by rfl)) (sub_of I5.kIn sub hC) ?_
   refine codeAny_handlers_suite_as (lands_againW fl5 fun h6 fl6 up6=>?_)
   obtain⟨oe6,hoe6,hc6,I6⟩:=key h6 fl6 ((up4.trans up5).trans up6)
   refine store_ok (X:=X.held ea oe6) I6 hN hi (.inl hk) (v:=.ref ea) rfl (fun s7 I7=>?_) (.inr hk)
   refine wpAny_mono (hs ea oe6 Ca hc6 pins s7 _ H' (endsH i D) I7 (hts ea oe6 hc6 hHe)) (fun f s8 hq=>?_) fun _ _ z=>z.elim
   have fin:∀{σ':St}{H2:Hp}{Q:Unit->Shared->Prop},Inv (X.held ea oe6) pins σ' H2 s8->(∀s9,Inv X pins (σ'.set i none) H2 s9->Q () s9)->wpAny (model X.prog X.w) X.A (do bindName X.env n .none;unbindBehindTheSuite X.env n hpos) Q X.xe s8:=fun {σ' H2 Q} J hQ=>by
    have J1:=Inv.letgo I.ok J
    have hiσ:i<σ'.length:=by rw[J1.len];exact (List.getElem?_eq_some_iff.mp hi).1
    refine wpAny_bind (wpAny_bindName (store_ok J1 hN hi (.inl hk) (v:=.non) rfl (fun s9 J2=>?_) (.inr hk)))
    unfold unbindBehindTheSuite
    refine wpAny_onRaise (unbind_ok J2 hN hi hk (v:=.non) (List.getElem?_set_self hiσ) fun s10 J3=>?_)
    rw[List.set_set] at J3
    exact hQ s10 J3
   cases f with
   | next=>
    obtain⟨σ',H2,J,q⟩:=hq
    exact fin J fun s9 J9=>⟨_,H2,J9,q⟩
   | brk=>
    obtain⟨σ',H2,J,q⟩:=hq
    exact fin J fun s9 J9=>⟨_,H2,J9,q⟩
   | cont=>
    obtain⟨σ',H2,J,q⟩:=hq
    exact fin J fun s9 J9=>⟨_,H2,J9,q⟩
   | ret u=>
    obtain⟨v,σ',H2,J,r,q⟩:=hq
    exact fin J fun s9 J9=>⟨v,_,H2,J9,r,q⟩
end L2
namespace L2
open PySem PySem.Spec PySem.W PyProof.Rows Builtin Builtin.ObjectAttr Builtin.Getset_descriptor
section
variable {prog:Program}{w:World}{A:Around}{E:Value->Shared->Prop}{s:Shared}{K:Frag}{x C:Addr}{ox:Obj}
structure ExcAt (K:Frag)(C:Addr):Prop where
 ga:findIn K (.ref C) "__getattribute__" = some (some (.builtin "BaseException.__getattribute__"))
 gn:findIn K (.ref C) "__getattr__" = some none
 cl:findIn K (.ref C) "__class__" = some (some (.builtin "object.__class__"))
 mo:mroIn K C (.type "object")=some true
 mb:mroIn K C (.type "BaseException")=some true
 ci:(clsIn K C).isSome=true
def IsExc (h:Heap)(x C:Addr):Prop:=∃o,h.get? x=some o/\o.cls = .ref C
theorem IsExc.type {M:Model}{h:Heap}{x C:Addr}(I:IsExc h x C):Looks M h (typeOf (.ref x)) (.ref C):=by
 obtain⟨o,e,c⟩:=I
 rw[<-c]
 exact (Looks.ld e).andThen .now
theorem exc_cget {tp:Value}{R:Result->Shared->Prop}(X:K.In s.heap)(I:IsExc s.heap x C)(hm:mroIn K C (.type "object")=some true) (h:R (.ok (.ret (.ref C))) s) :
 codeAny (model prog w) A (.call (.builtin "getset_descriptor.__get__") ⟨[.builtin "object.__class__",.ref x,tp],[]⟩) R s:=by
 obtain⟨h0,g0,d0,t0,o0⟩:=s
 have T0:=I.type (M:=model prog w)
 have T1:=looks_mroIn (M:=model prog w) X hm
 refine codeAny_call_builtin KF.slot_gs.plain KF.entry_gs (KF.slot_gs.check _ _ _ _ _ _ _ _ KF.type_class (KF.args_gs _ _ _) ?_)
 unfold Builtin.«getset_descriptor.__get__» descrGet;rw[dga_obj]
 apply wpAny_bind;apply wpAny_pure
 unfold descrGetter descrCheckInstance descrNameAndClass isInstance;simp only[KF.owner_class]
 repeat lk
 refine⟨Code.quiet_builtin _ (by decide +kernel),codeAny_builtin KF.entry_class (?_:wpAny _ _ _ _ _ _)⟩
 unfold Builtin.«object.__class__»;unfold shownTypeOf
 repeat lk
 exact h
theorem exc_entry {tk:Tok}{Q:PySem.Fin->Shared->Prop}(X:K.In s.heap)(I:IsExc s.heap x C)(F':ExcAt K C)(hq:Q (.done (.ret (.ref C))) s) :
 wpAny (model prog w) A (Builtin.«object.__getattribute__» ⟨[.ref x,.str "__class__" tk],[]⟩) Q E s:=by
 obtain⟨h,g,d,t,os⟩:=s
 have L0:=I.type (M:=model prog w)
 have L1:=looks_findIn (M:=model prog w) X F'.cl
 have hT5:(⟨h,g,d,t,os⟩:Shared).TypeIs (.builtin "object.__class__") "getset_descriptor" := F.typeOf_object_class
 have f5:=F.typeOf_object_class
 have f6:=F.slot_gs_get.lookup
 have f7:=F.slot_gs_set.lookup
 repeat (any_goals (first | assumption | with_reducible refine L0.at ?_ | with_reducible refine L1.at ?_ | wp_step))
 refine exc_cget (s:=⟨h,g,d,t,os⟩) X I F'.mo ?_
 repeat (any_goals (first | assumption | wp_step))
theorem exc_check {M:Model}{nameV:Value}{Q:Unit->Shared->Prop}(X:K.In s.heap)(I:IsExc s.heap x C)(F':ExcAt K C)(hq:Q () s):wpAny M A (checkBuiltinCall "BaseException.__getattribute__" ⟨[.ref x,nameV],[]⟩) Q E s:=by
 obtain⟨h,g,d,t,os⟩:=s
 have L0:=I.type (M:=M)
 have L1:=looks_mroIn (M:=M) X F'.mb
 have e1:builtinKind "BaseException.__getattribute__" = some .slot:=by decide +kernel
 have e2:splitId "BaseException.__getattribute__" = some ("BaseException", "__getattribute__"):=by decide +kernel
 have ha:=F.args_bexc_ga (.ref x) nameV
 simp only[checkBuiltinCall,e1,e2]
 refine wpAny_bind ?_
 unfold isInstance
 repeat (any_goals (first | assumption | with_reducible refine L0.at ?_ | with_reducible refine L1.at ?_ | wp_step))
theorem exc_call {tk:Tok}{R:Result->Shared->Prop}(X:K.In s.heap)(I:IsExc s.heap x C)(F':ExcAt K C)(hq:R (.ok (.ret (.ref C))) s) :
 codeAny (model prog w) A (.call (.builtin "BaseException.__getattribute__") ⟨[.ref x,.str "__class__" tk],[]⟩) R s:=
 codeAny_call_builtin F.attrBase_ValueError.ga.plain F.entry_bexc_ga (exc_check X I F' (exc_entry X I F' hq))
theorem exc_by {tk:Tok}{fill:Bool}{Q:Value->Shared->Prop}(X:K.In s.heap)(I:IsExc s.heap x C)(F':ExcAt K C)(hq:Q (.ref C) s):wpAny (model prog w) A (getAttrBy (.ref x) (.str "__class__" tk) fill) Q E s:=by
 obtain⟨h,g,d,t,os⟩:=s
 have L0:=I.type (M:=model prog w)
 have L1:=looks_findIn (M:=model prog w) X F'.ga
 have L2:=looks_findIn (M:=model prog w) X F'.gn
 have f3:=F.attrBase_ValueError.ga.bind (.ref x)
 have hx2:(Value.builtin "BaseException.__getattribute__" == Value.builtin "object.__getattribute__")=false:=by decide +kernel
 have hx1:(onTheHeap (Value.ref C) && Value.builtin "BaseException.__getattribute__" == Value.builtin "object.__getattribute__")=false:=by rw[hx2];rfl
 repeat (any_goals (first | assumption | with_reducible refine L0.at ?_ | with_reducible refine L1.at ?_ | with_reducible refine L2.at ?_ | wp_step))
 refine exc_call (s:=⟨h,g,d,t,os⟩) X I F' ?_
 repeat (any_goals (first | assumption | wp_step))
theorem exc_attr {Q:Option Value->Shared->Prop}(X:K.In s.heap)(I:IsExc s.heap x C)(F':ExcAt K C)(hq:Q (some (.ref C)) { s with toks:=s.toks+1 }):wpAny (model prog w) A (getAttr? (.ref x) "__class__") Q E s:=by
 obtain⟨h,g,d,t,os⟩:=s
 unfold getAttr? getAttrBy?
 repeat (any_goals (first | assumption | with_reducible apply exc_by (s:=⟨h,g,d,t+1,os⟩) X I F' | wp_step))
theorem kitx_exc (F':ExcAt K C):KitX K (.ref x) (.ref C) (fun h=>IsExc h x C) where
 ty:=fun _ _ _ I=>I.type
 it:=fun _ _ X _=>by
  obtain⟨cdD,hcD⟩:=Option.isSome_iff_exists.mp F'.ci
  unfold clsIn at hcD
  split at hcD
  . next ho=>
    intro A' Q' E' s' k q
    unfold isType loadHead
    exact wpAny_bind (wpAny_loadPart (k _ _ (X _ _ ho)) (wpAny_pure q))
  . cases hcD
 ne:=fun h tp dd its n sl X htp=>by
  obtain⟨cdD,hcD⟩:=Option.isSome_iff_exists.mp F'.ci
  refine Bool.eq_false_iff.mpr fun q=>?_
  have e:C=tp:=Value.ref.inj (beq_iff_eq.mp q)
  subst e
  unfold clsIn at hcD
  split at hcD
  . next ho=>
    have z:=(X _ _ ho).symm.trans htp
    cases z
  . cases hcD
 ca:=fun X I k=>exc_attr X I F' k
end
structure HeldAt (X:Cx)(ea C:Addr):Prop where
 pin:∃oe,(ea,oe)∈X.pn/\oe.cls = .ref C
section
variable {X:Cx}
theorem held_inst {pins:List (Addr×Obj)}{σ:St}{H:Hp}{s:Shared}{ea C:Addr}(h:HeldAt X ea C)(I:Inv X pins σ H s):IsExc s.heap ea C:=by
 obtain⟨oe,hp,hc⟩:=h.pin
 obtain⟨e,_⟩:=I.pin (ea,oe) (List.mem_append_left _ hp)
 exact⟨oe,e,hc⟩
theorem call_isinstX {ea C:Addr}(hh:HeldAt X ea C):CallR X (.builtin "isinstance") (fun xs H Q=>∃W b,ExcAt X.K C/\xs=[.ref ea,.ref W]/\PySem.W.kitOne X.K (.ref C) (.ref W)=some b/\Q (.bl b) H):=by
 intro pins s σ H xs us Q I r h
 obtain⟨W,b,F',rfl,e,q⟩:=h
 obtain⟨u,w',rfl,rx,rT⟩:=vals2 r
 cases (show u=Value.ref ea from rx)
 cases (show w'=Value.ref W from rT)
 have J:=held_inst hh I
 exact PySem.W.kia_one (kitx_exc F') I.kIn J e (fun z=>nomatch z) fun tk=>⟨.bl b,H,I.tok tk,rfl,q⟩
theorem call_isinstXT {ea C:Addr}(hh:HeldAt X ea C):CallR X (.builtin "isinstance") (fun xs H Q=>∃T b,ExcAt X.K C/\xs=[.ref ea,.ty T]/\PySem.W.kitOne X.K (.ref C) (.type T)=some b/\Q (.bl b) H):=by
 intro pins s σ H xs us Q I r h
 obtain⟨T,b,F',rfl,e,q⟩:=h
 obtain⟨u,w',rfl,rx,rT⟩:=vals2 r
 cases (show u=Value.ref ea from rx)
 cases (show w'=Value.type T from rT)
 have J:=held_inst hh I
 exact PySem.W.kia_one (kitx_exc F') I.kIn J e (fun z=>nomatch z) fun tk=>⟨.bl b,H,I.tok tk,rfl,q⟩
theorem call_isinstXs {ea C:Addr}(hh:HeldAt X ea C):CallR X (.builtin "isinstance") (fun xs H Q=>∃(tp:Addr)(Ws:List Addr)(b:Bool),ExcAt X.K C/\xs=[.ref ea,.ref tp]/\H tp=some (.tup (Ws.map V.ref))/\PySem.W.kitAny X.K (.ref C) (Ws.map Value.ref)=some b/\Q (.bl b) H):=by
 intro pins s σ H xs us Q I r h
 obtain⟨tp,Ws,b,F',rfl,ht,e,q⟩:=h
 obtain⟨u,w',rfl,rx,rT⟩:=vals2 r
 cases (show u=Value.ref ea from rx)
 cases (show w'=Value.ref tp from rT)
 have J:=held_inst hh I
 obtain⟨⟨z,o2,e2,d2⟩,its,rv,ob,e3,c3,n3,s3⟩:=(show ObjOk X.prog X.w H s.heap tp (.tup (Ws.map V.ref)) from I.hok tp _ ht)
 have hits:its=Ws.map Value.ref:=by
  have:∀(Ws:List Addr)(its:List Value),Vals (Ws.map V.ref) its->its=Ws.map Value.ref:=by
   intro Ws
   induction Ws with
   | nil=>intro its h;cases h;rfl
   | cons a r ih=>
    intro its h
    cases h with
    | cons h1 h2=>rw[ih _ h2,show _=Value.ref a from h1];rfl
  exact this Ws its rv
 obtain⟨c',d',da',sl'⟩:=ob
 simp only at c3 s3
 subst c3 s3 hits
 exact PySem.W.kia_tup (kitx_exc F') I.kIn J e3 e (fun z=>nomatch z) fun tk=>⟨.bl b,H,I.tok tk,rfl,q⟩
theorem held_at {X:Cx}{ea C:Addr}{oe:Obj}(h:oe.cls = .ref C):HeldAt (X.held ea oe) ea C:=⟨⟨oe,List.mem_cons_self,h⟩⟩
variable {k:Nat}{f:Addr}{fd:FuncData}{ps:List Str}{sp:Sp}{x:Str}{p pos epos:Pos}{e:Expr}{es:List Expr}{t:TA}
theorem call_x {pins:List (Addr×Obj)}{s:Shared}{σ:St}{H:Hp}{Q:VK}{E1:XK}(F:FnOk X.prog X.w X.K X.mg X.base (CXO X.prog X.w) k f fd ps sp)(hr:Room k X.A)(hg:Gl X x)(hm:X.mg x=some (.ref f))(hk:PySem.W.keepIn X.K (.ref f)=true)(hb:Binds X.K fd ps [])
 (ha:PA X.nox (e::es) t)(I:Inv X pins σ H s)(h:t σ H fun vs H1=>sp vs H1 Q E1)(hdb:(x==("__debug__" : Str))=false:=by decide) (he:starEach (e::es) X.env=(false,eval e X.env)::starEach es X.env:=by rfl)(hpl:(backTo pos (starEach es X.env)).any (·.1)=false:=by rfl) :
 wpAny (model X.prog X.w) X.A (eval (.Call (.Name x p) (e::es) [] pos) X.env) (EP X pins σ Q) (fun e s'=>∃H1 s1,Inv X pins σ H1 s1/\CXO X.prog X.w X.stack H1 s1 E1 e s') s:=by
 refine wpAny_Call_Name_kw (ld_glob I hg hm ?_ hdb)
 refine PySem.W.callWith_K (h₀:=X.base) I.ok.mod.kin hk (wpAny_mono (ha pos pins s σ H _ (I.wish _) h) (fun us s1 ⟨vs,H1,I1,r,q⟩=>⟨I1.unwish.kIn,?_⟩) fun _ _ z=>False.elim z) he hpl
 have I2:=I1.unwish
 have hl:us.length=ps.length:=by rw[<-r.length];exact F.len _ _ _ _ q
 refine wpAny_call (codeAny_mono (F.run X.A X.stack s1 H1 ⟨us,[]⟩ us vs Q E1 hr I2.env0 (by have:=hb s1 us I2.kIn (by rw[List.append_nil];exact hl);rw[List.append_nil] at this;exact this) r q) fun r s' hq=>?_)
 cases r with
 | error e=>exact⟨H1,s1,I2,hq⟩
 | ok fl=>
  cases fl with
  | ret u=>exact I2.after hq
  | next=>exact False.elim hq
  | brk=>exact False.elim hq
  | cont=>exact False.elim hq
theorem px_expr (F:FnOk X.prog X.w X.K X.mg X.base (CXO X.prog X.w) k f fd ps sp)(hr:Room k X.A)(hg:Gl X x)(hm:X.mg x=some (.ref f))(hk:PySem.W.keepIn X.K (.ref f)=true)(hb:Binds X.K fd ps [])
 (ha:PA X.nox (e::es) t)(hs:swapsWith (.Call (.Name x p) (e::es) [] pos) none epos.line X.env=pure false:=by rfl)(hdb:(x==("__debug__" : Str))=false:=by decide) (he:starEach (e::es) X.env=(false,eval e X.env)::starEach es X.env:=by rfl)(hpl:(backTo pos (starEach es X.env)).any (·.1)=false:=by rfl) :
 PX X [.Expr (.Call (.Name x p) (e::es) [] pos) epos] (fun E1 D σ H=>t σ H fun vs H1=>sp vs H1 (fun _ H2=>D.nx σ H2) E1):=by
 intro pins s σ H D E1 I h
 refine wpAny_execs_cons (wpAny_Expr_any (wpAny_mono (call_x F hr hg hm hk hb ha I h hdb he hpl) (fun v s1 ⟨y,H1,I1,r1,q1⟩=>?_) fun _ _ z=>z) I.quiet hs)
 exact wpAny_execs_nil ⟨σ,H1,I1,q1⟩
end
end L2
namespace L2
section
open PySem PySem.W PyProof.Rows
noncomputable def topRunT (p:Program)(w:World)(n₀:Nat)(ann:Option Value):Nat->SharedT->Thread->Option SharedT
 | 0,_,_=>none
 | n+1,s,t=>match through t with
  | true=>some s
  | false=>match Fast.tw6613529449190102663 n₀ ann t with
   | false=>none
   | true=>match Fast.tw10156331382660048174 (Fast.tw11892475500146522536 Fast.tw14364793385576792824) p w s t with
    | some (s',t')=>topRunT p w n₀ ann n s' t'
    | none=>none
theorem topRun_of {p:Program}{w:World}{n₀:Nat}{ann:Option Value}:∀{n:Nat}{s s':SharedT}{t:Thread},topRunT p w n₀ ann n s t=some s'->topRun treeTable p w n₀ ann n s.abs t=some s'.abs
 | 0,_,_,_,h=>by cases h
 | n+1,s,s',t,h=>by
  unfold topRunT at h
  rw[<-Fast.te6613529449190102663,<-Fast.te10156331382660048174,<-Fast.te11892475500146522536,<-Fast.te14364793385576792824] at h
  unfold topRun
  cases he:through t with
  | true=>rw[he] at h;cases h;rfl
  | false=>
   rw[he] at h
   cases hk:stepOk n₀ ann t with
   | false=>rw[hk] at h;cases h
   | true=>
    rw[hk] at h
    cases hs:stepT (denote treeTable) p w s t with
    | none=>rw[hs] at h;cases h
    | some r=>obtain⟨s₂,t₂⟩:=r;rw[hs] at h;rw[stepT_spec hs];exact topRun_of h
def bt:List Obj->Nat->BT->BT
 | [],_,t=>t
 | o::l,i,t=>bt l (i+1) (t.ins i o)
noncomputable def bT (P:Params):BT:=bt (boot_heap P).objs.toList 0 .nil
noncomputable def bS (w:World)(os:OsState):SharedT:=⟨bT w.params,(boot_heap w.params).objs.size,(boot_heap w.params).life,Array.mk [],boot_drawn,boot_toks,os⟩
theorem bA (w:World)(os:OsState):(bS w os).abs=⟨boot_heap w.params,Array.mk [],boot_drawn,boot_toks,os⟩:=by kernel_rfl
noncomputable abbrev runT (p:Program)(N:Nat)(w:World)(os:OsState):Option SharedT:=topRunT p w (boot_heap w.params).objs.size ((boot_heap w.params).nsMap mainGlobals "__annotations__") N (bS w os) (topStub p)
abbrev chkT (p:Program)(h h':Heap)(s:Shared):Bool:=staticsOk (importedModules p.main.body) h h' && namesBound p h' && gensDone s && laidKept h h'
theorem left_of {p q:Program}{loose:List Str}{Xt:Shared->Bool}{α:Type}{Yf:Shared->α}{Ya:World->α}{N:Nat}(e:opening p=plainProg p.main.scope.names)(hN:Nat.ble 600 N=true)(f:∀s,fenceModules? p s=some s)
 (h:∀(w:World)(os:OsState),(runT p N w os).map (fun s=>(chkT p (boot_heap w.params) s.abs.heap s.abs,Fast.tw4187177175401517315 q loose (importedModules p.main.body) Xt true s.abs,Yf s.abs))=some (true,openGood q loose,Ya w)):LeftO p q loose Xt Yf Ya N:=by
 intro w
 obtain⟨⟨h0,gs,d,k,os⟩,e1,e2⟩:=Option.map_eq_some_iff.mp (boot_open e hN f w)
 obtain⟨rfl,rfl,rfl,rfl⟩:h0=boot_heap w.params/\gs=Array.mk []/\d=boot_drawn/\k=boot_toks:=by simpa using e2
 obtain⟨s,r,a⟩:=Option.map_eq_some_iff.mp (h w os)
 obtain⟨b,a⟩:=Prod.mk.inj a
 rw[<-Fast.te4187177175401517315] at a
 have y:=topRun_of r
 rw[bA] at y
 unfold openEnds
 rw[e1]
 show (topFrom treeTable p w N _).map _=_
 unfold topFrom
 have z:((boot_heap w.params).isNs mainGlobals && (Array.mk []:Array GenState).size==0)=true:=by kernel_rfl
 dsimp only
 rw[z]
 dsimp only
 rw[y]
 show Option.map _ (match chkT p (boot_heap w.params) s.abs.heap s.abs with | true=>some s.abs | false=>none)=_
 rw[b]
 exact congrArg some a
end
end L2
namespace K08
open PySem L2 WM
def top (i:Nat):Stmt:=PySem.Challenge.pw_labelways_k08_labels_by_an_order.main.body.getD i (.Pass ⟨0,0,0,0⟩)
abbrev sNum:Stmt:=top 15
abbrev sWi:Stmt:=top 16
abbrev sTof:Stmt:=top 17
abbrev sPl:Stmt:=top 18
abbrev sTies:Stmt:=top 20
abbrev sLens:Stmt:=top 22
abbrev sFrom:Stmt:=top 23
abbrev sNear:Stmt:=top 24
abbrev sBwr:Stmt:=top 25
abbrev sNbr:Stmt:=top 26
abbrev sOrd:Stmt:=top 28
abbrev sByo:Stmt:=top 29
abbrev sLbr:Stmt:=top 30
abbrev sIsh:Stmt:=top 31
abbrev sEbr:Stmt:=top 32
abbrev sTape:Stmt:=top 34
abbrev sDraw:Stmt:=top 35
abbrev sN:Stmt:=top 36
abbrev sWeb:Stmt:=top 37
abbrev sRow:Stmt:=top 38
abbrev sAdd:Stmt:=top 39
abbrev sLes:Stmt:=top 40
abbrev sFar:Stmt:=top 41
abbrev sOn:Stmt:=top 42
abbrev sJoi:Stmt:=top 43
abbrev sNxs:Stmt:=top 44
abbrev sOrder:Stmt:=top 45
abbrev sEnt8:Stmt:=top 46
abbrev sLabs8:Stmt:=top 47
abbrev sWord:Stmt:=top 48
abbrev sStr:Stmt:=top 49
abbrev sIso:Stmt:=top 50
abbrev sLaw:Stmt:=top 51
def TapeP (H:Hp)(t p:Addr)(N:Nat):Prop:=∃(ns:List Int)(spot rest:Int),H t=some (.lst [.ref p,.int spot,.int rest])/\H p=some (.lst (ns.map V.int))/\p≠t/\0<=spot/\spot<=N/\0<=rest/\ns.length<=63
def TapeAt (H:Hp)(t:Addr)(N:Nat):Prop:=∃p:Addr,TapeP H t p N
theorem TapeAt.mono {H:Hp}{t:Addr}{N M:Nat}(h:TapeAt H t N)(l:N<=M):TapeAt H t M:=by
 obtain⟨p,ns,spot,rest,a,b,c,d,e,f⟩:=h
 exact⟨p,ns,spot,rest,a,b,c,d,by omega,f⟩
def Sm (t:Addr)(H H':Hp):Prop:=∀b o,b≠t->H b=some o->H' b=some o
theorem Sm.refl (t:Addr)(H:Hp):Sm t H H:=fun _ _ _ e=>e
theorem Sm.trans {t:Addr}{H H1 H2:Hp}(a:Sm t H H1)(b:Sm t H1 H2):Sm t H H2:=fun c o n e=>b c o n (a c o n e)
theorem Sm.of {t:Addr}{H H':Hp}(h:Same H H'):Sm t H H':=fun b o _ e=>h b o e
theorem Sm.laid {t l:Addr}{H:Hp}{o:HO}(h:H l=none):Sm t H (upd H l o):=fun b u _ e=>by rw[upd_ne (ne_of_none e h)];exact e
theorem Sm.chg {t l:Addr}{H H':Hp}{o:HO}(s:Sm t H H')(h:H l=none):Sm t H (upd H' l o):=fun b u n e=>by rw[upd_ne (ne_of_none e h)];exact s b u n e
theorem same_laid {l:Addr}{H:Hp}{o:HO}(h:H l=none):Same H (upd H l o):=fun b u e=>by rw[upd_ne (ne_of_none e h)];exact e
theorem same_chg {l:Addr}{H H':Hp}{o:HO}(s:Same H H')(h:H l=none):Same H (upd H' l o):=fun b u e=>by rw[upd_ne (ne_of_none e h)];exact s b u e
theorem TapeAt.keep {H H':Hp}{t:Addr}{N:Nat}(h:TapeAt H t N)(k:Same H H'):TapeAt H' t N:=by
 obtain⟨p,ns,spot,rest,a,b,c⟩:=h
 exact⟨p,ns,spot,rest,k _ _ a,k _ _ b,c⟩
theorem TapeAt.laid {H:Hp}{t l:Addr}{N:Nat}{o:HO}(h:TapeAt H t N)(hl:H l=none):TapeAt (upd H l o) t N:=h.keep (same_laid hl)
theorem TapeAt.ne {H:Hp}{t b:Addr}{N:Nat}(h:TapeAt H t N)(hb:H b=none):b≠t:=by
 obtain⟨p,ns,spot,rest,a,_⟩:=h
 exact (ne_of_none a hb).symm
theorem TapeAt.chg {H:Hp}{t l:Addr}{N:Nat}{o u:HO}(h:TapeAt H t N)(hl:H l=some u)(hu:∀xs,u ≠ .lst xs):TapeAt (upd H l o) t N:=by
 obtain⟨p,ns,spot,rest,a,b,c⟩:=h
 exact⟨p,ns,spot,rest,by rw[upd_ne (ne_of a hl fun z=>hu _ z.symm)];exact a,by rw[upd_ne (ne_of b hl fun z=>hu _ z.symm)];exact b,c⟩
theorem TapeP.keepF {H H':Hp}{t p:Addr}{N M:Nat}(h:TapeP H t p N)(k1:∀o,H t=some o->H' t=some o)(k2:∀o,H p=some o->H' p=some o)(l:N<=M):TapeP H' t p M:=by
 obtain⟨ns,spot,rest,a,b,c,d,e,f⟩:=h
 exact⟨ns,spot,rest,k1 _ a,k2 _ b,c,d,by omega,f⟩
def spDrawP:Sp:=fun vs H Q _=>∃(t p:Addr)(N:Nat)(many:Int),vs=[.ref t,.int many]/\TapeP H t p N/\N<1000000/\0<many/\many<1000000 /\
 ∀(r:Int)(H':Hp),0<=r->r<many->TapeP H' t p (N+1)->(∀b,b≠t->H' b=H b)->Q (.int r) H'
def spDraw:Sp:=fun vs H Q _=>∃(t:Addr)(N:Nat)(many:Int),vs=[.ref t,.int many]/\TapeAt H t N/\N<1000000/\0<many/\many<1000000 /\
 ∀(r:Int)(H':Hp),0<=r->r<many->TapeAt H' t (N+1)->(∀b,b≠t->H' b=H b)->Q (.int r) H'
def spTape (K:PySem.W.Frag):Sp:=fun vs H Q _=>∃(a:Addr)(ns:List Int),vs=[.ref a]/\SqL K H a (ns.map V.int)/\ns.length<=63/\∀(t:Addr)(H':Hp),H t=none->TapeAt H' t 0->Same H H'->Q (.ref t) H'
section
variable {P:Program}{w:World}{K:PySem.W.Frag}{mg:Str->Option Value}{base:Heap}
theorem scTape:FnScope ["_law_script"] ["_law_script"] (defScope sTape):=⟨rfl,rfl,rfl,by decide +kernel,rfl,by decide +kernel,by decide +kernel⟩
theorem ok_tape {f:Addr}{fd:FuncData}(F:Fun K "_law_tape" "_law_tape" sTape f fd):FnOk P w K mg base CX0 1 f fd ["_law_script"] (spTape K):=by
 refine F.ok scTape (fun vs H Q E h=>?_) (fun cdv A outer s H vs Q E hr h=>?_)
 . obtain⟨a,ns,rfl,_⟩:=h
   rfl
 . obtain⟨a,ns,rfl,hS,hl,k⟩:=h
   refine⟨_,pss_one (ps_ret (pe_lst (pa_cons (pe_slice sl_list (pv 0) po_none (po_some pe_int)) (pa_int (pa_int pa_nil))))),?_⟩
   refine⟨_,rfl,_,rfl,a,_,rfl,hS,fun p hp=>⟨by show 3<=sizeLine;decide,fun t ht=>?_⟩⟩
   have npt:p≠t:=fun e=>by rw[e,upd_same] at ht;cases ht
   have e1:cutV (ns.map V.int) none (some 63)=(ns.take 63).map V.int:=by
    unfold cutV
    rw[HT.sIx_none,List.drop_zero,Nat.sub_zero,List.length_map,show (63:Int)=((63:Nat):Int) from rfl,HT.sIx_nat,List.map_take]
    rw[show min 63 ns.length=ns.length by omega,List.take_of_length_le (by rw[List.length_map];exact Nat.le_refl _),List.take_of_length_le (by rw[List.length_map];exact hl)]
   have ht0:H t=none:=by rw[upd_ne npt.symm] at ht;exact ht
   refine k t _ ht0 ⟨p,ns.take 63,0,0,upd_same,?_,npt,Int.le_refl _,Int.le_refl _,Int.le_refl _,by rw[List.length_take];omega⟩ ?_
   . rw[upd_ne npt,upd_same,e1]
   . exact same_chg (same_laid hp) ht0
theorem scDraw:FnScope ["_law_tape_here", "_law_many", "_law_found", "_law_spot", "_law_cell", "_law_mixed"] ["_law_tape_here", "_law_many"] (defScope sDraw):=⟨rfl,rfl,rfl,by decide +kernel,rfl,by decide +kernel,by decide +kernel⟩
theorem mod_in {a m:Int}(h:0<m):0<=a%m/\a%m<m:=⟨Int.emod_nonneg _ (by omega),Int.emod_lt_of_pos _ h⟩
theorem ok_drawP {f:Addr}{fd:FuncData}(F:Fun K "_law_draw" "_law_draw" sDraw f fd) (mLen:mg "len" = none):FnOk P w K mg base CX0 1 f fd ["_law_tape_here", "_law_many"] spDrawP:=by
 refine F.ok scDraw (fun vs H Q E h=>?_) (fun cdv A outer s H vs Q E hr h=>?_)
 . obtain⟨t,p,N,many,rfl,_⟩:=h
   rfl
 . obtain⟨t,p,N,many,rfl,T,hN,hm0,hm1,k⟩:=h
   obtain⟨ns,spot,rest,ht,hp,hne,hs0,hs1,hr0,hl⟩:=T
   refine⟨_,pss_cons (ps_if (pt_cmpR op_gt (pe_ix ix_list (pv 0) pe_int (fun _ _=>rfl)) pe_int (nomark _))
    (pss_cons (ps_set (i:=2) scDraw.nd rfl (Or.inl rfl) (pe_op op_mod (pe_ix ix_list (pv 0) pe_int (fun _ _=>rfl)) (pv 1)))
    (pss_cons (ps_asg (pe_op op_fdiv (pe_ix ix_list (pv 0) pe_int (fun _ _=>rfl)) (pv 1)) (pg_sub (pv 0) pe_int set_list))
    (pss_one (ps_ret (pv 2))))) pss_nil)
    (pss_cons (ps_set (i:=3) scDraw.nd rfl (Or.inl rfl) (pe_ix ix_list (pv 0) pe_int (fun _ _=>rfl)))
    (pss_cons (ps_asg (pe_op op_add (pv 3) pe_int) (pg_sub (pv 0) pe_int set_list))
    (pss_cons (ps_set (i:=4) scDraw.nd rfl (Or.inl rfl) (pe_ifExp (pt_cmpR op_gt (pe_callB call_len_seq (by rfl) mLen PySem.boot_len (pa_cons (pe_ix ix_list (pv 0) pe_int (fun _ _=>rfl)) pa_nil)) pe_int (nomark _))
     (pe_ix ix_list (pe_ix ix_list (pv 0) pe_int (fun _ _=>rfl)) (pe_op op_mod (pv 3) (pe_callB call_len_seq (by rfl) mLen PySem.boot_len (pa_cons (pe_ix ix_list (pv 0) pe_int (fun _ _=>rfl)) pa_nil))) (fun _ _=>rfl)) pe_int))
    (pss_cons (ps_if (pw_and (pt_cmpR op_ge (pv 4) (pe_op op_pow pe_int pe_int) (nomark _)) (pw_and1 (pt_cmpR op_lt (pv 3) (pe_callB call_len_seq (by rfl) mLen PySem.boot_len (pa_cons (pe_ix ix_list (pv 0) pe_int (fun _ _=>rfl)) pa_nil)) (nomark _)))).pt
     (pss_cons (ps_asg (pe_op op_fdiv (pv 4) (pv 1)) (pg_sub (pv 0) pe_int set_list)) (pss_one (ps_ret (pe_op op_mod (pv 4) (pv 1))))) pss_nil)
    (pss_cons (ps_set (i:=5) scDraw.nd rfl (Or.inl rfl) (pe_op op_mod (pe_op op_mul (pe_op op_add (pe_op op_mod (pv 4) pe_int) pe_int) (pe_op op_add pe_int (pe_op op_mul pe_int (pv 3)))) pe_int))
    (pss_one (ps_ret (pe_op op_mod (pe_op op_fdiv (pe_op op_mod (pe_op op_mul (pe_op op_add (pv 5) (pe_op op_mul (pe_op op_mul pe_int (pv 3)) (pv 3))) pe_int) pe_int) pe_int) (pv 1))))))))),?_⟩
   have cd:CDiv 0 many:=⟨hm0,by omega⟩
   refine⟨_,rfl,t,_,_,_,rfl,rfl,SqL.of ht,rfl,_,_,rfl,rfl,_,rfl,?_⟩
   refine ite2 (fun hc=>?_) (fun hc=>?_)
   . have hpos:0<rest:=of_decide_eq_true hc
     refine⟨_,rfl,t,_,_,_,rfl,rfl,SqL.of ht,rfl,_,rfl,_,_,rfl,rfl,hm0,?_⟩
     refine⟨_,rfl,t,_,_,_,rfl,rfl,SqL.of ht,rfl,_,rfl,_,_,rfl,rfl,cd,?_⟩
     refine⟨_,rfl,t,_,_,2,rfl,rfl,ht,rfl,?_⟩
     refine⟨_,rfl,?_⟩
     refine k _ _ (mod_in hm0).1 (mod_in hm0).2 ⟨ns,spot,rest/many,upd_same,by rw[upd_ne hne];exact hp,hne,hs0,by omega,Int.ediv_nonneg hr0 (by omega),hl⟩ fun b hb=>upd_ne hb
   . -- spot=tape[1];tape[1]=spot+1
     refine⟨_,rfl,t,_,_,_,rfl,rfl,SqL.of ht,rfl,?_⟩
     refine⟨_,rfl,_,_,rfl,rfl,_,rfl,t,_,_,1,rfl,rfl,ht,rfl,?_⟩
     have ht1:(upd H t (.lst [.ref p,.int (spot+1),.int rest])) t=some (.lst [.ref p,.int (spot+1),.int rest]):=upd_same
     have hp1:(upd H t (.lst [.ref p,.int (spot+1),.int rest])) p=some (.lst (ns.map V.int)):=by rw[upd_ne hne];exact hp
     have ex:0<((ns.map V.int).length:Int)->∃c,atI (ns.map V.int) (spot%((ns.map V.int).length:Int))=some (.int c):=fun h=>by
      have hb:=mod_in (a:=spot) h
      obtain⟨j,hj⟩:=Int.eq_ofNat_of_zero_le hb.1
      have hlt:j<ns.length:=by
       have h2:=hb.2
       rw[hj,List.length_map] at h2
       omega
      refine⟨ns[j],?_⟩
      rw[hj]
      exact atI_nat (by simp[hlt])
     refine⟨_,rfl,t,_,_,_,rfl,rfl,SqL.of ht1,rfl,p,_,rfl,.inl (SqL.of hp1),_,_,rfl,rfl,_,rfl,?_⟩
     refine ite2 (fun h2=>?a) (fun h2=>?b)
     case' a=>
      obtain⟨c,hc⟩:=ex (of_decide_eq_true h2)
      refine⟨_,rfl,t,_,_,_,rfl,rfl,SqL.of ht1,rfl,_,rfl,_,rfl,t,_,_,_,rfl,rfl,SqL.of ht1,rfl,p,_,rfl,.inl (SqL.of hp1),_,_,rfl,rfl,of_decide_eq_true h2,p,_,_,_,rfl,rfl,SqL.of hp1,hc,?_⟩
     all_goals
      refine⟨_,rfl,_,_,rfl,rfl,⟨by decide,by decide,by decide⟩,_,_,rfl,rfl,_,rfl,?_⟩
      refine ite2 (fun h3=>?_) (fun h3=>?_)
     all_goals first
      | (refine⟨_,rfl,_,rfl,t,_,_,_,rfl,rfl,SqL.of ht1,rfl,p,_,rfl,.inl (SqL.of hp1),_,_,rfl,rfl,_,rfl,?_⟩;refine ite2 (fun h4=>?_) (fun h4=>?_))
      | refine iteF ?_
     all_goals first
      | (refine⟨_,rfl,_,rfl,_,_,rfl,rfl,⟨hm0,by omega⟩,_,rfl,t,_,_,2,rfl,rfl,ht1,rfl,?_⟩
         refine⟨_,rfl,_,rfl,_,_,rfl,rfl,hm0,?_⟩
         refine k _ _ (mod_in hm0).1 (mod_in hm0).2 ⟨ns,spot+1,_,upd_same,by rw[upd_ne hne];exact hp1,hne,by omega,by omega,Int.ediv_nonneg (Int.le_trans (show (0:Int)<=10 ^ (18:Int).toNat by decide) (of_decide_eq_true h3)) (by omega),hl⟩ fun b hb=>by rw[upd_ne hb,upd_ne hb])
      | (refine⟨_,rfl,_,_,rfl,rfl,(by dsimp only;decide),_,_,rfl,rfl,_,rfl,_,_,rfl,rfl,.inl ⟨by decide,by decide⟩,_,_,rfl,rfl,_,_,rfl,rfl,.inl ⟨by omega,by omega⟩,_,_,rfl,rfl,(by dsimp only;decide),?_⟩
         refine⟨_,rfl,_,rfl,_,_,rfl,rfl,.inl ⟨by decide,by decide⟩,_,rfl,_,_,rfl,rfl,.inr ⟨by omega,by omega⟩,_,_,rfl,rfl,_,_,rfl,rfl,.inr ⟨by decide,by decide⟩,_,_,rfl,rfl,(by dsimp only;decide),_,_,rfl,rfl,⟨by decide,by decide⟩,_,rfl,_,_,rfl,rfl,hm0,?_⟩
         refine k _ _ (mod_in hm0).1 (mod_in hm0).2 ⟨ns,spot+1,rest,ht1,hp1,hne,by omega,by omega,hr0,hl⟩ fun b hb=>upd_ne hb)
theorem ok_draw {f:Addr}{fd:FuncData}(F:Fun K "_law_draw" "_law_draw" sDraw f fd) (mLen:mg "len" = none):FnOk P w K mg base CX0 1 f fd ["_law_tape_here", "_law_many"] spDraw:=
 (ok_drawP F mLen).imp fun vs H Q E ⟨t,N,many,e,⟨p,T⟩,a,b,c,k⟩=>⟨t,p,N,many,e,T,a,b,c,fun r H' h0 h1 T' he=>k r H' h0 h1 ⟨p,T'⟩ he⟩
end
theorem menu_at {L:List Int}{r:Int}(h0:0<=r)(h1:r<L.length):∃n,n∈L/\atI (L.map V.int) r=some (.int n):=by
 obtain⟨j,rfl⟩:=Int.eq_ofNat_of_zero_le h0
 have hj:j<L.length:=by omega
 exact⟨L[j],List.getElem_mem hj,atI_nat (by simp[hj])⟩
def spN:Sp:=fun vs H Q _=>∃(t:Addr)(N:Nat),vs=[.ref t]/\TapeAt H t N/\N<900000/\∀(n:Int)(H':Hp),1<=n->n<=12->TapeAt H' t (N+1)->Sm t H H'->Q (.int n) H'
def WebAt (H:Hp)(wa:Addr)(n:Int)(ts:List T3):Prop:=∃(ta:Addr)(tys:List V),H wa=some (.tup [.int n,.ref ta])/\H ta=some (.tup tys)/\TupsAre H tys (ts.map tl)/\GW n ts
theorem WebAt.keepT {H H':Hp}{wa:Addr}{n:Int}{ts:List T3}(h:WebAt H wa n ts)(k:∀b ys,H b=some (.tup ys)->H' b=some (.tup ys)):WebAt H' wa n ts:=by
 obtain⟨ta,tys,a,b,c,d⟩:=h
 exact⟨ta,tys,k _ _ a,k _ _ b,c.keep k,d⟩
theorem WebAt.keep {H H':Hp}{wa:Addr}{n:Int}{ts:List T3}(h:WebAt H wa n ts)(k:Same H H'):WebAt H' wa n ts:=h.keepT fun b _ e=>k b _ e
theorem WebAt.sm {H H':Hp}{wa t:Addr}{N:Nat}{n:Int}{ts:List T3}(h:WebAt H wa n ts)(T:TapeAt H t N)(k:Sm t H H'):WebAt H' wa n ts:=h.keepT fun b _ e=>by
 obtain⟨p,ns,spot,rest,a,_⟩:=T
 exact k b _ (ne_of e a (by intro z;cases z)) e
def spWeb:Sp:=fun vs H Q _=>∃(t:Addr)(N:Nat)(n:Int),vs=[.ref t,.int n]/\TapeAt H t N/\N<900000/\1<=n/\n<=24 /\
 ∀(wa:Addr)(ts:List T3)(H':Hp),H wa=none->WebAt H' wa n ts->TapeAt H' t (N+200)->Sm t H H'->Q (.ref wa) H'
def JD (n:Int)(kvs:List (List Key×V)):Prop:=(∀kv∈kvs,∃a b l:Int,kv=([Sum.inl a,Sum.inl b],V.int l)/\0<=a/\a<b/\b<n/\1<=l/\l<=99)/\(kvs.map (·.1)).Nodup
theorem JD.nil (n:Int):JD n []:=⟨fun _ h=>by simp at h,List.nodup_nil⟩
theorem JD.put {n:Int}{kvs:List (List Key×V)}(h:JD n kvs){a b l:Int}(h0:0<=a)(h1:a<b)(h2:b<n)(h3:1<=l)(h4:l<=99):JD n (putK kvs [Sum.inl a,Sum.inl b] (.int l)):=by
 cases e:valV kvs [Sum.inl a,Sum.inl b] with
 | none=>
  refine⟨fun kv hkv=>?_,nd_putK _ h.2 e⟩
  rw[putK_new _ e] at hkv
  rcases List.mem_append.mp hkv with q | q
  . exact h.1 kv q
  . rw[List.mem_singleton.mp q];exact⟨a,b,l,rfl,h0,h1,h2,h3,h4⟩
 | some v=>
  have ha:(kvs.any fun kv=>decide (kv.1=[Sum.inl a,Sum.inl b]))=true:=by rw[valV_any,e];rfl
  unfold putK
  rw[if_pos ha]
  refine⟨fun kv hkv=>?_,?_⟩
  . obtain⟨q,hq,e2⟩:=List.mem_map.mp hkv
    by_cases hk:q.1=[Sum.inl a,Sum.inl b]
    . rw[if_pos hk,hk] at e2;rw[<-e2];exact⟨a,b,l,rfl,h0,h1,h2,h3,h4⟩
    . rw[if_neg hk] at e2;rw[<-e2];exact h.1 q hq
  . have e3:(kvs.map fun kv=>if kv.1=[Sum.inl a,Sum.inl b] then (kv.1,V.int l) else kv).map (·.1)=kvs.map (·.1):=by
     rw[List.map_map]
     refine List.map_congr_left fun kv _=>?_
     show (if kv.1=[Sum.inl a,Sum.inl b] then (kv.1,V.int l) else kv).1=kv.1
     split <;> rfl
    rw[e3];exact h.2
def unk:Key->Int
 | .inl i=>i
 | .inr _=>0
def keysI (kvs:List (List Key×V)):List (List Int):=kvs.map fun kv=>kv.1.map unk
theorem JD.keys {n:Int}{kvs:List (List Key×V)}(h:JD n kvs):kvs.map (·.1)=(keysI kvs).map (List.map Sum.inl):=by
 unfold keysI
 rw[List.map_map]
 refine List.map_congr_left fun kv hkv=>?_
 obtain⟨a,b,l,e,_⟩:=h.1 kv hkv
 rw[e];rfl
theorem JD.ne {n:Int}{kvs:List (List Key×V)}(h:JD n kvs):∀k∈keysI kvs,k≠[]:=fun k hk=>by
 obtain⟨kv,hkv,e⟩:=List.mem_map.mp hk
 obtain⟨a,b,l,e2,_⟩:=h.1 kv hkv
 rw[<-e,e2];simp[List.map]
theorem JD.nd {n:Int}{kvs:List (List Key×V)}(h:JD n kvs):(keysI kvs).Nodup:=by
 have e:=h.2
 rw[h.keys] at e
 rw[List.Nodup,List.pairwise_map] at e
 exact e.imp fun h e'=>h (by rw[e'])
theorem JD.val {n:Int}{kvs:List (List Key×V)}(h:JD n kvs){k:List Int}(hk:k∈keysI kvs):∃a b l,k=[a,b]/\valV kvs [Sum.inl a,Sum.inl b]=some (.int l)/\0<=a/\a<b/\b<n/\1<=l/\l<=99:=by
 obtain⟨kv,hkv,e⟩:=List.mem_map.mp hk
 obtain⟨a,b,l,e2,h0,h1,h2,h3,h4⟩:=h.1 kv hkv
 have ek:k=[a,b]:=by rw[<-e,e2];rfl
 have hm:(kvs.any fun kv=>decide (kv.1=[Sum.inl a,Sum.inl b]))=true:=List.any_eq_true.mpr ⟨kv,hkv,decide_eq_true (by rw[e2])⟩
 rw[valV_any] at hm
 cases hv:valV kvs [Sum.inl a,Sum.inl b] with
 | none=>rw[hv] at hm;cases hm
 | some v=>
  have hv0:=hv
  unfold valV at hv
  cases hf:kvs.find? fun kv=>decide (kv.1=[Sum.inl a,Sum.inl b]) with
  | none=>rw[hf] at hv;cases hv
  | some q=>
   rw[hf] at hv
   obtain⟨a',b',l',e3,_,_,_,g3,g4⟩:=h.1 q (List.mem_of_find?_eq_some hf)
   have ev:v = .int l':=by rw[e3] at hv;exact (Option.some.inj hv).symm
   exact⟨a,b,l',ek,by rw[hv0,ev],h0,h1,h2,g3,g4⟩
section
variable {P:Program}{w:World}{K:PySem.W.Frag}{mg:Str->Option Value}{base:Heap}
theorem scN:FnScope ["_law_tape_here"] ["_law_tape_here"] (defScope sN):=⟨rfl,rfl,rfl,by decide +kernel,rfl,by decide +kernel,by decide +kernel⟩
theorem ok_n {f fD:Addr}{fd fdD:FuncData}(F:Fun K "_law_n" "_law_n" sN f fd) (FD:Fun K "_law_draw" "_law_draw" sDraw fD fdD) (bD:Binds K fdD ["_law_tape_here", "_law_many"] []) (mD:mg "_law_draw" = some (.ref fD)) (mLen:mg "len" = none) :
 FnOk P w K mg base CX0 2 f fd ["_law_tape_here"] spN:=by
 have GD:FnOk P w K mg base CX0 1 fD fdD ["_law_tape_here", "_law_many"] spDraw:=ok_draw FD mLen
 refine F.ok scN (fun vs H Q E h=>?_) (fun cdv A outer s H vs Q E hr h=>?_)
 . obtain⟨t,N,rfl,_⟩:=h
   rfl
 . obtain⟨t,N,rfl,T,hN,k⟩:=h
   obtain⟨es,q1,q2,j3,q3,q4,p1,p2,p3,hb,hes⟩:∃es q1 q2 j3 q3 q4 p1 p2 p3,defBody sN=[.Return (some (.Subscript (.List es p1) (.Call (.Name "_law_draw" q1) [.Name "_law_tape_here" q2,.Constant (.int 12) j3 q3] [] q4) p2)) p3] /\
    LitInts es [1,2,3,4,5,6,7,8,6,5,4,12]:=⟨_,_,_,_,_,_,_,_,_,rfl,by repeat constructor⟩
   rw[hb]
   refine⟨_,pss_one (ps_ret (pe_ix ix_list (pe_lst (pa_lits hes))
    (pe_call GD hr rfl mD FD.kp bD .nil pass0 (pa_cons (pv 0) (pa_cons pe_int pa_nil))) (fun _ _=>rfl))),?_⟩
   refine⟨by show 12<=sizeLine;decide,fun l hl=>?_⟩
   refine⟨_,rfl,t,N,12,rfl,T.laid hl,by omega,by decide,by decide,fun r H' h0 h1 T' he=>?_⟩
   have nlt:l≠t:=T.ne hl
   obtain⟨n,hn,ha⟩:=menu_at (L:=[1,2,3,4,5,6,7,8,6,5,4,12]) h0 h1
   have hb:1<=n/\n<=12:=by
    have:∀m∈([1,2,3,4,5,6,7,8,6,5,4,12]:List Int),1<=m/\m<=12:=by decide
    exact this n hn
   refine⟨l,_,_,_,rfl,rfl,SqL.of (by rw[he l nlt];exact upd_same),ha,?_⟩
   refine k n H' hb.1 hb.2 T' fun b o hb e=>?_
   rw[he b hb,upd_ne (ne_of_none e hl)]
   exact e
end
section
variable {P:Program}{w:World}{K:PySem.W.Frag}{mg:Str->Option Value}{base:Heap}
structure WI (H:Hp)(t d la:Addr)(n:Int)(N m:Nat)(H2:Hp):Prop where
 sm:Sm t H H2
 tp:TapeAt H2 t N
 dc:∃kvs,H2 d=some (.dT kvs)/\JD n kvs/\kvs.length<=m
 lg:∃l0 l1 l2:Int,H2 la=some (.lst [.int l0,.int l1,.int l2])/\(∀l∈[l0,l1,l2],1<=l/\l<=99)
theorem WI.draw {H H2 H3:Hp}{t d la:Addr}{n:Int}{N m:Nat}(h:WI H t d la n N m H2)(hd:d≠t)(hl:la≠t)(T:TapeAt H3 t (N+1))(he:∀b,b≠t->H3 b=H2 b):WI H t d la n (N+1) m H3:=by
 refine⟨fun b o nb e=>by rw[he b nb];exact h.sm b o nb e,T,?_,?_⟩
 . rw[he d hd];exact h.dc
 . rw[he la hl];exact h.lg
theorem WI.laid {H H2:Hp}{t d la l:Addr}{n:Int}{N m:Nat}{o:HO}(h:WI H t d la n N m H2)(hl:H2 l=none):WI H t d la n N m (upd H2 l o):=by
 obtain⟨kvs,a,b⟩:=h.dc
 obtain⟨l0,l1,l2,c,e⟩:=h.lg
 exact⟨h.sm.trans (Sm.laid hl),h.tp.laid hl,⟨kvs,by rw[upd_ne (ne_of_none a hl)];exact a,b⟩,⟨l0,l1,l2,by rw[upd_ne (ne_of_none c hl)];exact c,e⟩⟩
theorem WI.put {H H2:Hp}{t d la:Addr}{n:Int}{N m:Nat}{kvs:List (List Key×V)}(h:WI H t d la n N m H2)(hd0:H d=none)(hd:H2 d=some (.dT kvs)){a b l:Int}(h0:0<=a)(h1:a<b)(h2:b<n)(h3:1<=l)(h4:l<=99) :
 WI H t d la n N (m+1) (upd H2 d (.dT (putK kvs [Sum.inl a,Sum.inl b] (.int l)))):=by
 obtain⟨kvs',e,j,hm⟩:=h.dc
 rw[hd] at e
 cases e
 obtain⟨l0,l1,l2,c,e⟩:=h.lg
 refine⟨h.sm.chg hd0,h.tp.chg hd (by intro xs z;cases z),⟨_,upd_same,j.put h0 h1 h2 h3 h4,?_⟩,⟨l0,l1,l2,by rw[upd_ne (ne_of c hd (by intro z;cases z))];exact c,e⟩⟩
 have:=length_putK kvs [Sum.inl a,Sum.inl b] (V.int l)
 omega
theorem WI.up {H H2:Hp}{t d la:Addr}{n:Int}{N m N' m':Nat}(h:WI H t d la n N m H2)(hN:N<=N')(hm:m<=m'):WI H t d la n N' m' H2:=by
 obtain⟨kvs,a,b,c⟩:=h.dc
 exact⟨h.sm,h.tp.mono hN,⟨kvs,a,b,by omega⟩,h.lg⟩
theorem at3 {l0 l1 l2 r:Int}(h:∀l∈[l0,l1,l2],1<=l/\l<=99)(h0:0<=r)(h1:r<3):∃l,atI [V.int l0,V.int l1,V.int l2] r=some (.int l)/\1<=l/\l<=99:=by
 obtain⟨l,hl,ha⟩:=menu_at (L:=[l0,l1,l2]) h0 h1
 exact⟨l,ha,h l hl⟩
theorem small_line {n:Nat}(h:n<=100000):n<sizeLine:=Nat.lt_of_le_of_lt h (by decide)
theorem ties_of {n:Int}{kvs:List (List Key×V)}{ms:List (List Int)}(h:JD n kvs)(hp:ms.Perm (keysI kvs))(hl:kvs.length<64)(hn:1<=n)(hn2:n<=24){ts:List T3}(e:ts.map (fun t=>[t.1,t.2.1])=ms)(hr:∀t∈ts,0<=t.1/\t.1<t.2.1/\t.2.1<n/\1<=t.2.2/\t.2.2<=99):GW n ts:=by
 have hlen:ts.length=kvs.length:=by
  have:=hp.length_eq
  rw[<-e] at this
  simpa [keysI] using this
 refine⟨hn,hn2,by omega,hr,?_⟩
 have nd:(ts.map fun t:T3=>[t.1,t.2.1]).Nodup:=by rw[e];exact hp.nodup_iff.mpr h.nd
 rw[List.Nodup,List.pairwise_map] at nd
 exact nd.imp fun hne hc=>hne (by rw[hc.1,hc.2])
theorem scWeb:FnScope ["_law_tape_here", "_law_n_here", "_law_longs", "_law_joined_here", "_law_b", "_law_k", "_law_a"] ["_law_tape_here", "_law_n_here"] (defScope sWeb):=⟨rfl,rfl,rfl,by decide +kernel,rfl,by decide +kernel,by decide +kernel⟩
theorem ok_web {f fD:Addr}{fd fdD:FuncData}(F:Fun K "_law_web" "_law_web" sWeb f fd) (FD:Fun K "_law_draw" "_law_draw" sDraw fD fdD) (bD:Binds K fdD ["_law_tape_here", "_law_many"] []) (mD:mg "_law_draw" = some (.ref fD)) (mLen:mg "len" = none)
 (mRange:mg "range" = none) (mTuple:mg "tuple" = none) (mSorted:mg "sorted" = none):FnOk P w K mg base CX0 2 f fd ["_law_tape_here", "_law_n_here"] spWeb:=by
 have GD:FnOk P w K mg base CX0 1 fD fdD ["_law_tape_here", "_law_many"] spDraw:=ok_draw FD mLen
 refine F.ok scWeb (fun vs H Q E h=>?_) (fun cdv A outer s H vs Q E hr h=>?_)
 . obtain⟨t,N,n,rfl,_⟩:=h
   rfl
 . obtain⟨t,N,n,rfl,T,hN,hn1,hn2,k⟩:=h
   have hu:=hu_of hr
   obtain⟨es,q0,q1,q2,j3,q3,q4,p1,p2,p3,hbd,hes⟩:∃es q0 q1 q2 j3 q3 q4 p1 p2 p3,defBody sWeb = .Assign [.Name "_law_longs" q0] (.Subscript (.List es p1) (.Call (.Name "_law_draw" q1) [.Name "_law_tape_here" q2,.Constant (.int 4) j3 q3] [] q4) p2) p3::(defBody sWeb).drop 1 /\
    LitIntss es [[1,1,1],[1,2,1],[1,2,3],[5,99,7]]:=⟨_,_,_,_,_,_,_,_,_,_,rfl,.cons (.cons (.cons (.cons .nil))) (by show 3<=sizeLine;decide) (.cons (.cons (.cons (.cons .nil))) (by show 3<=sizeLine;decide) (.cons (.cons (.cons (.cons .nil))) (by show 3<=sizeLine;decide) (.cons (.cons (.cons (.cons .nil))) (by show 3<=sizeLine;decide) (.nil))))⟩
   rw[hbd]
   refine⟨_,pss_cons (ps_set (i:=2) scWeb.nd rfl (Or.inl rfl) (pe_ix ix_list (pe_lst (pa_litss hes))
    (pe_call GD hr rfl mD FD.kp bD .nil pass0 (pa_cons (pv 0) (pa_int pa_nil))) (fun _ _=>rfl)))
    (pss_cons (ps_set (i:=3) scWeb.nd rfl (Or.inr rfl) pe_dnewT)
    (pss_cons (ps_if (pt_cmpR op_gt (pe_call GD hr rfl mD FD.kp bD .nil pass0 (pa_cons (pv 0) (pa_int pa_nil))) pe_int (nomark _))
     (pss_one (ps_for PassesOwn.never rfl (pi_range2 rfl mRange (pa_int (pa_cons (pv 1) pa_nil))) (pg_name (i:=4) scWeb.nd rfl (Or.inl rfl))
      (pss_one (ps_dput hu (pv 3) (pe_tup (pa_cons (pe_call GD hr rfl mD FD.kp bD .nil pass0 (pa_cons (pv 0) (pa_cons (pv 4) pa_nil))) (pa_cons (pv 4) pa_nil)))
       (pe_ix ix_list (pv 2) (pe_call GD hr rfl mD FD.kp bD .nil pass0 (pa_cons (pv 0) (pa_int pa_nil))) (fun _ _=>rfl)) rfl)))) pss_nil)
    (pss_cons (ps_for PassesOwn.never rfl (pi_range1 rfl mRange (pa_cons (pe_call GD hr rfl mD FD.kp bD .nil pass0 (pa_cons (pv 0) (pa_cons (pe_op op_add (pe_op op_add pe_int (pv 1)) (pe_op op_fdiv (pv 1) pe_int)) pa_nil))) pa_nil)) (pg_name (i:=5) scWeb.nd rfl (Or.inl rfl))
     (pss_cons (ps_set (i:=6) scWeb.nd rfl (Or.inl rfl) (pe_call GD hr rfl mD FD.kp bD .nil pass0 (pa_cons (pv 0) (pa_cons (pv 1) pa_nil))))
     (pss_cons (ps_set (i:=4) scWeb.nd rfl (Or.inl rfl) (pe_call GD hr rfl mD FD.kp bD .nil pass0 (pa_cons (pv 0) (pa_cons (pv 1) pa_nil))))
     (pss_one (ps_if (pt_cmpR op_lt (pv 6) (pv 4) (nomark _)) (pss_one (ps_dput hu (pv 3) (pe_tup (pa_cons (pv 6) (pa_cons (pv 4) pa_nil)))
      (pe_ix ix_list (pv 2) (pe_call GD hr rfl mD FD.kp bD .nil pass0 (pa_cons (pv 0) (pa_int pa_nil))) (fun _ _=>rfl)) rfl)) pss_nil)))))
    (pss_one (ps_ret (pe_tup (pa_cons (pv 1) (pa_cons (pe_callTy call_tuple_of (by rfl) mTuple (by decide +kernel) (pa_cons
     (pe_comp (own:=["_law_pair"]) (cn:=["_law_joined_here"]) (ci:=[3]) rfl (csc rfl rfl) ⟨rfl,rfl,rfl,trivial⟩ rfl
      (pi_list (pe_callB (call_sortedD rfl) (by rfl) mSorted (by decide +kernel) (pa_cons (pv 3) pa_nil))) (fun _ _ _ _=>pg_name (i:=0) (nd_of rfl) rfl (Or.inl rfl)) (fun _ _ _ _=>pts_nil)
      (fun _ _ _ _=>pe_tup (pa_cons (pe_ix ix_tupC (pv 0) pe_int (fun _ _=>rfl)) (pa_cons (pe_ix ix_tupC (pv 0) pe_int (fun _ _=>rfl)) (pa_cons (pe_dget hu (pv 1) (pv 0) (fun _ _=>rfl)) pa_nil))))) pa_nil)) pa_nil)))))))),?_⟩
   intro a1 e1 a2 e2 a3 e3 a4 e4
   refine⟨by show 4<=sizeLine;decide,fun al el=>?_⟩
   have T5:=((((T.laid (o:=.lst [.int 1,.int 1,.int 1]) e1).laid (o:=.lst [.int 1,.int 2,.int 1]) e2).laid (o:=.lst [.int 1,.int 2,.int 3]) e3).laid (o:=.lst [.int 5,.int 99,.int 7]) e4).laid (o:=.lst [.ref a1,.ref a2,.ref a3,.ref a4]) el
   refine⟨_,rfl,t,N,4,rfl,T5,by omega,by decide,by decide,fun r H1 h0 h1 T1 he1=>?_⟩
   have nel:al≠t:=((((T.laid (o:=.lst [.int 1,.int 1,.int 1]) e1).laid (o:=.lst [.int 1,.int 2,.int 1]) e2).laid (o:=.lst [.int 1,.int 2,.int 3]) e3).laid (o:=.lst [.int 5,.int 99,.int 7]) e4).ne el
   obtain⟨la,l0,l1,l2,hat,hla,hb,nla⟩:∃(la:Addr)(l0 l1 l2:Int),atI [V.ref a1,V.ref a2,V.ref a3,V.ref a4] r=some (.ref la)/\H1 la=some (.lst [.int l0,.int l1,.int l2])/\(∀l∈[l0,l1,l2],1<=l/\l<=99)/\la≠t:=by
    have n1:a1≠t:=T.ne e1
    have n2:a2≠t:=(T.laid (o:=.lst [.int 1,.int 1,.int 1]) e1).ne e2
    have n3:a3≠t:=((T.laid (o:=.lst [.int 1,.int 1,.int 1]) e1).laid (o:=.lst [.int 1,.int 2,.int 1]) e2).ne e3
    have n4:a4≠t:=(((T.laid (o:=.lst [.int 1,.int 1,.int 1]) e1).laid (o:=.lst [.int 1,.int 2,.int 1]) e2).laid (o:=.lst [.int 1,.int 2,.int 3]) e3).ne e4
    have g1:H1 a1=some (.lst [.int 1,.int 1,.int 1]):=by rw[he1 a1 n1];exact same_laid el _ _ (same_laid e4 _ _ (same_laid e3 _ _ (same_laid e2 _ _ upd_same)))
    have g2:H1 a2=some (.lst [.int 1,.int 2,.int 1]):=by rw[he1 a2 n2];exact same_laid el _ _ (same_laid e4 _ _ (same_laid e3 _ _ upd_same))
    have g3:H1 a3=some (.lst [.int 1,.int 2,.int 3]):=by rw[he1 a3 n3];exact same_laid el _ _ (same_laid e4 _ _ upd_same)
    have g4:H1 a4=some (.lst [.int 5,.int 99,.int 7]):=by rw[he1 a4 n4];exact same_laid el _ _ upd_same
    have hr4:r=0\/r=1\/r=2\/r=3:=by omega
    rcases hr4 with rfl | rfl | rfl | rfl
    . exact⟨a1,1,1,1,rfl,g1,by decide,n1⟩
    . exact⟨a2,1,2,1,rfl,g2,by decide,n2⟩
    . exact⟨a3,1,2,3,rfl,g3,by decide,n3⟩
    . exact⟨a4,5,99,7,rfl,g4,by decide,n4⟩
   refine⟨al,_,_,_,rfl,rfl,SqL.of (by rw[he1 al nel];exact upd_same),hat,?_⟩
   have sm1:Sm t H H1:=fun b o nb e=>by
    rw[he1 b nb]
    exact same_laid el _ _ (same_laid e4 _ _ (same_laid e3 _ _ (same_laid e2 _ _ (same_laid e1 _ _ e))))
   intro d hd
   have nd:d≠t:=T1.ne hd
   have hd0:H d=none:=by
    cases q:H d with
    | none=>rfl
    | some o=>have:=sm1 d o nd q;rw[hd] at this;cases this
   have W0:WI H t d la n (N+1) 0 (upd H1 d (.dT [])):=⟨sm1.chg hd0,T1.laid hd,⟨[],upd_same,JD.nil n,Nat.le_refl _⟩,⟨l0,l1,l2,by rw[upd_ne (ne_of_none hla hd)];exact hla,hb⟩⟩
   refine⟨_,rfl,t,N+1,3,rfl,W0.tp,by omega,by decide,by decide,fun r1 H2 _ _ T2 he2=>?_⟩
   have W2:=W0.draw nd nla T2 he2
   refine⟨_,_,rfl,rfl,_,rfl,?_⟩
   refine ite2 (fun _=>?a) (fun _=>?b)
   case' a=>
    refine⟨_,rfl,1,n,rfl,⟨by decide,by decide,by omega,by omega⟩,for_range (lo:=1) (n:=(n-1).toNat) (fun i σ H3=>∃vb:Option V,σ=[some (.ref t),some (.int n),some (.ref la),some (.ref d),vb,none,none]/\WI H t d la n (N+2+2*i) i H3) ⟨none,rfl,W2⟩ ?turn ?after⟩
    case turn=>
     rintro i σ H3 hi ⟨vb,rfl,W⟩
     obtain⟨m0,m1,m2,hm,hmb⟩:=W.lg
     refine⟨_,rfl,_,rfl,t,N+2+2*i,3,rfl,W.tp,by omega,by decide,by decide,fun r3 H4 g0 g1 T4 he4=>?_⟩
     have W4:=W.draw nd nla T4 he4
     obtain⟨lg,hlg,hg1,hg2⟩:=at3 hmb g0 g1
     refine⟨la,_,_,_,rfl,rfl,SqL.of (by rw[he4 la nla];exact hm),hlg,?_⟩
     refine⟨_,rfl,_,rfl,_,rfl,t,N+2+2*i+1,1+i,rfl,W4.tp,by omega,by omega,by omega,fun r5 H5 q0 q1 T5 he5=>?_⟩
     have W5:=W4.draw nd nla T5 he5
     refine⟨_,rfl,by show 2<=sizeLine;decide,fun p hp=>?_⟩
     have W6:=W5.laid (o:=.tup [.int r5,.int (1+i)]) hp
     obtain⟨kvs,hk,J,hkl⟩:=W6.dc
     refine⟨d,_,rfl,DPut.t (k:=[Sum.inl r5,Sum.inl (1+(i:Int))]) hk upd_same (small_line (by omega)),?_⟩
     exact⟨_,rfl,(W6.put hd0 hk q0 q1 (by omega) hg1 hg2).up (by omega) (by omega)⟩
    case' after=>
     rintro σ H3 ⟨vb,rfl,W⟩
     have W3:WI H t d la n (N+50) 23 H3:=W.up (by omega) (by omega)
   case' b=>
    have W3:WI H t d la n (N+50) 23 H2:=W2.up (by omega) (by omega)
   all_goals
    refine⟨_,rfl,_,rfl,_,_,rfl,rfl,_,rfl,_,_,rfl,rfl,⟨by decide,by decide⟩,_,_,rfl,rfl,t,N+50,_,rfl,W3.tp,by omega,by omega,by omega,fun r4 H4 p0 p1 T4 he4=>?_⟩
    have W4:=W3.draw nd nla T4 he4
    refine⟨r4,rfl,by omega,by omega,for_range (lo:=0) (n:=r4.toNat) (fun i σ H5=>∃vb vk va:Option V,σ=[some (.ref t),some (.int n),some (.ref la),some (.ref d),vb,vk,va]/\WI H t d la n (N+51+3*i) (23+i) H5) ⟨_,_,_,rfl,W4⟩ ?turn2 ?after2⟩
    case turn2=>
     rintro i σ H5 hi ⟨vb,vk,va,rfl,W⟩
     refine⟨_,rfl,_,rfl,t,N+51+3*i,n,rfl,W.tp,by omega,by omega,by omega,fun a H6 a0 a1 T6 he6=>?_⟩
     have W6:=W.draw nd nla T6 he6
     refine⟨_,rfl,_,rfl,t,N+51+3*i+1,n,rfl,W6.tp,by omega,by omega,by omega,fun b H7 b0 b1 T7 he7=>?_⟩
     have W7:=W6.draw nd nla T7 he7
     refine⟨_,rfl,_,rfl,_,_,rfl,rfl,_,rfl,?_⟩
     refine ite2 (fun hc=>?_) (fun hc=>?_)
     . have hab:a<b:=of_decide_eq_true hc
       obtain⟨m0,m1,m2,hm,hmb⟩:=W7.lg
       refine⟨_,rfl,_,rfl,t,N+51+3*i+1+1,3,rfl,W7.tp,by omega,by decide,by decide,fun r3 H8 g0 g1 T8 he8=>?_⟩
       have W8:=W7.draw nd nla T8 he8
       obtain⟨lg,hlg,hg1,hg2⟩:=at3 hmb g0 g1
       refine⟨la,_,_,_,rfl,rfl,SqL.of (by rw[he8 la nla];exact hm),hlg,?_⟩
       refine⟨_,rfl,_,rfl,_,rfl,by show 2<=sizeLine;decide,fun p hp=>?_⟩
       have W9:=W8.laid (o:=.tup [.int a,.int b]) hp
       obtain⟨kvs,hk,J,hkl⟩:=W9.dc
       refine⟨d,_,rfl,DPut.t (k:=[Sum.inl a,Sum.inl b]) hk upd_same (small_line (by omega)),?_⟩
       exact⟨_,_,_,rfl,(W9.put hd0 hk a0 hab b1 hg1 hg2).up (by omega) (by omega)⟩
     . exact⟨_,_,_,rfl,W7.up (by omega) (by omega)⟩
    case after2=>
     rintro σ H5 ⟨vb,vk,va,rfl,W⟩
     obtain⟨kvs,hk,J,hkl⟩:=W.dc
     have hk64:kvs.length<64:=by omega
     refine⟨_,rfl,_,rfl,d,kvs,keysI kvs,rfl,hk,J.keys,J.ne,by rw[keysI,List.length_map];exact hk64,fun l zs ms hl TA hp _=>?_⟩
     refine⟨l,rfl,⟨_,SqL.of upd_same⟩,[.ref d],rfl,fun D hD=>?_⟩
     have hlz:=TA.length
     have hlm:ms.length=kvs.length:=by rw[hp.length_eq,keysI,List.length_map]
     have nlD:l≠D:=fun e=>by rw[<-e,upd_same] at hD;cases hD
     have hk1:(upd H5 l (.lst zs)) d=some (.dT kvs):=same_laid hl _ _ hk
     have hD5:H5 D=none:=by rw[upd_ne nlD.symm] at hD;exact hD
     refine comp_list (a:=l) (xs:=zs) (fun i ys H6=>∃ts:List T3,ts.length=i/\ts.map (fun t:T3=>[t.1,t.2.1])=ms.take i/\(∀t∈ts,0<=t.1/\t.1<t.2.1/\t.2.1<n/\1<=t.2.2/\t.2.2<=99)/\H6 D=some (.lst ys)/\TupsAre H6 ys (ts.map tl)/\Same (upd H5 l (.lst zs)) H6)
      ⟨[],rfl,rfl,fun _ h=>by simp at h,upd_same,trivial,same_laid hD⟩ (fun i ys H6 h=>?_) (fun i ys H6 h=>?_) (fun i x ys H6 hx h=>?_) (fun ys H6 h=>?_)
     . obtain⟨_,_,_,_,_,_,s6⟩:=h
       exact SqL.of (s6 _ _ upd_same)
     . obtain⟨ts,e1,e2,_,_,T6,_⟩:=h
       have e3:=T6.length
       rw[List.length_map] at e3
       have e4:=congrArg List.length e2
       rw[List.length_map,List.length_take] at e4
       exact small_line (by omega)
     . obtain⟨ts,e1,e2,hts,hD6,T6,s6⟩:=h
       obtain⟨pa,kx,ex,hkx,hpa,_⟩:=TA.get hx
       subst ex
       have hpa6:H6 pa=some (.tup (kx.map V.int)):=s6 _ _ (same_laid hl _ _ hpa)
       obtain⟨a,b,lg,ek,hv,a0,ab,bn,lg1,lg2⟩:=J.val (hp.mem_iff.mp (List.mem_of_getElem? hkx))
       subst ek
       refine⟨⟨rfl,rfl⟩,?_⟩
       refine tyes ?_
       refine⟨_,rfl,pa,_,_,_,rfl,rfl,SqT.of hpa6,rfl,_,rfl,pa,_,_,_,rfl,rfl,SqT.of hpa6,rfl,_,rfl,_,rfl,d,_,rfl,hv ▸ DGet.t (k:=[Sum.inl a,Sum.inl b]) (s6 _ _ hk1) hpa6,by show 3<=sizeLine;decide,fun p hp6=>?_⟩
       have nDp:D≠p:=ne_of_none hD6 hp6
       refine⟨by rw[upd_ne nDp];exact hD6,ts++[(a,b,lg)],by rw[List.length_append,e1];rfl,?_,?_,upd_same,?_,?_⟩
       . rw[List.map_append,e2,List.take_add_one,hkx];rfl
       . intro t ht
         rcases List.mem_append.mp ht with q | q
         . exact hts t q
         . rw[List.mem_singleton.mp q];exact⟨a0,ab,bn,lg1,lg2⟩
       . rw[List.map_append]
         refine (T6.keep fun c xs e=>?_).snoc ⟨p,rfl,by rw[upd_ne nDp.symm,upd_same];rfl,by simp[tl]⟩
         rw[upd_ne (ne_of e hD6 (by intro z;cases z)),upd_ne (ne_of_none e hp6)]
         exact e
       . exact same_chg (s6.trans (same_laid hp6)) hD
     . obtain⟨ts,e1,e2,hts,hD6,T6,s6⟩:=h
       refine⟨D,ys,rfl,.inl ⟨SqL.of hD6,fun ta hta=>?_⟩⟩
       refine⟨by show 2<=sizeLine;decide,fun wa hwa=>?_⟩
       rw[hlz,List.take_of_length_le (Nat.le_refl _)] at e2
       have G:GW n ts:=ties_of J hp hk64 hn1 hn2 e2 hts
       have nwt:wa≠ta:=fun e=>by rw[e,upd_same] at hwa;cases hwa
       have h6wa:H6 wa=none:=by rw[upd_ne nwt] at hwa;exact hwa
       have s7:Same H6 (upd (upd H6 ta (.tup ys)) wa (.tup [.int n,.ref ta])):=same_chg (same_laid hta) h6wa
       have T7:TapeAt (upd (upd H6 ta (.tup ys)) wa (.tup [.int n,.ref ta])) t (N+200):=((W.tp.mono (by omega)).keep ((same_laid hl).trans (s6.trans s7)))
       have nwa:wa≠t:=((W.tp.keep ((same_laid hl).trans s6)).ne h6wa)
       have sm7:Sm t H (upd (upd H6 ta (.tup ys)) wa (.tup [.int n,.ref ta])):=W.sm.trans (Sm.of ((same_laid hl).trans (s6.trans s7)))
       refine k wa ts _ ?_ ⟨ta,ys,upd_same,by rw[upd_ne nwt.symm,upd_same],T6.keep fun c xs e=>s7 _ _ e,G⟩ T7 sm7
       cases q:H wa with
       | none=>rfl
       | some o=>
        have:=(W.sm.trans (Sm.of ((same_laid hl).trans s6))) wa o nwa q
        rw[h6wa] at this;cases this
end
def spTies:Sp:=fun vs H Q _=>∃(wa:Addr)(n:Int)(ts:List T3)(p:Int),vs=[.ref wa,.int p]/\WebAt H wa n ts /\
 ∀(l:Addr)(zs:List V)(ms:List (List Int))(H':Hp),Same H H'->H l=none->H' l=some (.lst zs)->TupsAre H' zs ms->ms.Perm (fd p ts)->Rises ms->Q (.ref l) H'
section
variable {P:Program}{w:World}{K:PySem.W.Frag}{mg:Str->Option Value}{base:Heap}
theorem scTies:FnScope ["web", "place", "found", "a", "b", "long"] ["web", "place"] (defScope sTies):=⟨rfl,rfl,rfl,by decide +kernel,rfl,by decide +kernel,by decide +kernel⟩
theorem ok_ties {f:Addr}{fd':FuncData}(F:Fun K "ties_at" "ties_at" sTies f fd') (mSorted:mg "sorted" = none):FnOk P w K mg base CX0 1 f fd' ["web", "place"] spTies:=by
 refine F.ok scTies (fun vs H Q E h=>?_) (fun cdv A outer s H vs Q E hr h=>?_)
 . obtain⟨wa,n,ts,p,rfl,_⟩:=h
   rfl
 . obtain⟨wa,n,ts,p,rfl,⟨ta,tys,hwa,hta,TA,G⟩,k⟩:=h
   refine⟨_,pss_cons (ps_set (i:=2) scTies.nd rfl (Or.inl rfl) (pe_lst pa_nil))
    (pss_cons (ps_for PassesOwn.never rfl (pi_tup (pe_ix ix_tup (pv 0) pe_int (fun _ _=>rfl))) (pg_tup rfl (pgs_cons (pg_name (i:=3) scTies.nd rfl (Or.inl rfl)) (pgs_cons (pg_name (i:=4) scTies.nd rfl (Or.inl rfl)) (pgs_cons (pg_name (i:=5) scTies.nd rfl (Or.inl rfl)) pgs_nil))))
     (pss_cons (ps_if (pt_cmpR op_eq (pv 3) (pv 1) (nomark _)) (pss_one (ps_expr (pe_bm PySem.F.plainAttrs_list PySem.F.slot_list_append PySem.F.type_list_append mt_append (pv 2) (pa_cons (pe_tup (pa_cons (pv 4) (pa_cons (pv 5) pa_nil))) pa_nil)))) pss_nil)
     (pss_one (ps_if (pt_cmpR op_eq (pv 4) (pv 1) (nomark _)) (pss_one (ps_expr (pe_bm PySem.F.plainAttrs_list PySem.F.slot_list_append PySem.F.type_list_append mt_append (pv 2) (pa_cons (pe_tup (pa_cons (pv 3) (pa_cons (pv 5) pa_nil))) pa_nil)))) pss_nil))))
    (pss_one (ps_ret (pe_callB call_sorted (by rfl) mSorted (by decide +kernel) (pa_cons (pv 2) pa_nil))))),?_⟩
   refine⟨Nat.zero_le _,fun l hl=>?_⟩
   have hwl:wa≠l:=ne_of_none hwa hl
   have htl:ta≠l:=ne_of_none hta hl
   have hlt:tys.length=ts.length:=by rw[TA.length,List.length_map]
   refine⟨_,rfl,wa,_,_,_,rfl,rfl,SqT.of (by rw[upd_ne hwl];exact hwa),rfl,ta,rfl,⟨_,SqT.of (by rw[upd_ne htl];exact hta)⟩,for_tup (K:=K) (a:=ta) (xs:=tys)
    (fun i σ H2=>∃(va vb vl:Option V)(xs:List V),σ=[some (.ref wa),some (.int p),some (.ref l),va,vb,vl]/\Same H H2/\H2 l=some (.lst xs)/\TupsAre H2 xs (fd p (ts.take i)))
    ⟨none,none,none,[],rfl,same_laid hl,upd_same,trivial⟩ (fun i σ H2 _ ⟨_,_,_,_,_,s2,_⟩=>SqT.of (s2 _ _ hta)) ?turn ?after⟩
   case turn=>
    rintro i y σ H2 hi ⟨va,vb,vl,xs,rfl,s2,hl2,T2⟩
    obtain⟨ya,ky,rfl,hky,hya,_⟩:=TA.get hi
    rw[List.getElem?_map] at hky
    obtain⟨⟨a,b,c⟩,hti,rfl⟩:∃t:T3,ts[i]? = some t/\tl t=ky:=by
     cases e:ts[i]? with
     | none=>rw[e] at hky;cases hky
     | some t=>rw[e] at hky;exact⟨t,rfl,Option.some.inj hky⟩
    have hil:i<ts.length:=(List.getElem?_eq_some_iff.mp hti).1
    have hlen:∀{xs':List V}{H3:Hp},TupsAre H3 xs' (fd p (ts.take i))->xs'.length<sizeLine:=fun T=>by
     have e1:=T.length
     have e2:=fd_len (n:=n) p (ts:=ts.take i) fun t ht=>(G.rng t (List.mem_of_mem_take ht)).2.1
     rw[List.length_take] at e2
     exact small_line (by have:=G.len;omega)
    have hfd:fd p (ts.take (i+1))=fd p (ts.take i)++((if a=p then [[b,c]] else [])++(if b=p then [[a,c]] else [])):=by
     rw[List.take_add_one,hti,fd_append]
     show _++((if a=p then [[b,c]] else [])++(if b=p then [[a,c]] else [])++[])=_
     rw[List.append_nil]
    have hab:a<b:=(G.rng _ (List.mem_of_getElem? hti)).2.1
    refine⟨ya,_,rfl,SqT.of (s2 _ _ hya),rfl,_,_,rfl,_,_,rfl,_,_,rfl,rfl,?_⟩
    have app:∀{x:Int},∀q,H2 q=none->∃xs',(upd (upd H2 q (.tup [.int x,.int c])) l (.lst (xs++[.ref q]))) l=some (.lst xs')/\Same H (upd (upd H2 q (.tup [.int x,.int c])) l (.lst (xs++[.ref q])))/\TupsAre (upd (upd H2 q (.tup [.int x,.int c])) l (.lst (xs++[.ref q]))) xs' (fd p (ts.take i)++[[x,c]]):=by
     intro x q hq
     have nlq:l≠q:=ne_of_none hl2 hq
     refine⟨_,upd_same,same_chg (s2.trans (same_laid hq)) hl,(T2.keep fun e ys he=>?_).snoc ⟨q,rfl,by rw[upd_ne nlq.symm,upd_same];rfl,by simp⟩⟩
     rw[upd_ne (ne_of he hl2 (by intro z;cases z)),upd_ne (ne_of_none he hq)]
     exact he
    refine⟨_,rfl,_,rfl,rfl,_,rfl,?_⟩
    refine ite2 (fun h1=>?_) (fun h1=>?_)
    . have e1:a=p:=by have:=of_decide_eq_true h1;injection this
      have n2:¬ b=p:=by omega
      refine⟨_,rfl,.inl ⟨rfl,_,SqL.of hl2⟩,_,rfl,_,rfl,by show 2<=sizeLine;decide,fun q hq=>?_⟩
      have nlq:l≠q:=ne_of_none hl2 hq
      refine⟨l,_,_,rfl,rfl,by rw[upd_ne nlq];exact hl2,hlen T2,?_⟩
      refine⟨_,rfl,_,rfl,rfl,_,rfl,?_⟩
      rw[show decide (V.int b=V.int p)=false from decide_eq_false fun e=>n2 (by injection e)]
      refine iteF ?_
      obtain⟨xs',g1,g2,g3⟩:=app (x:=b) q hq
      refine⟨_,_,_,xs',rfl,g2,g1,?_⟩
      rw[hfd,if_pos e1,if_neg n2]
      exact g3
    . have n1:¬ a=p:=fun e=>by
       have:=h1
       rw[e] at this
       exact this (decide_eq_true rfl)
      refine⟨_,rfl,_,rfl,rfl,_,rfl,?_⟩
      refine ite2 (fun h2=>?_) (fun h2=>?_)
      . have e2:b=p:=by have:=of_decide_eq_true h2;injection this
        refine⟨_,rfl,.inl ⟨rfl,_,SqL.of hl2⟩,_,rfl,_,rfl,by show 2<=sizeLine;decide,fun q hq=>?_⟩
        have nlq:l≠q:=ne_of_none hl2 hq
        refine⟨l,_,_,rfl,rfl,by rw[upd_ne nlq];exact hl2,hlen T2,?_⟩
        obtain⟨xs',g1,g2,g3⟩:=app (x:=a) q hq
        refine⟨_,_,_,xs',rfl,g2,g1,?_⟩
        rw[hfd,if_neg n1,if_pos e2]
        exact g3
      . have n2:¬ b=p:=fun e=>by
         have:=h2
         rw[e] at this
         exact this (decide_eq_true rfl)
        refine⟨_,_,_,xs,rfl,s2,hl2,?_⟩
        rw[hfd,if_neg n1,if_neg n2,List.append_nil,List.append_nil]
        exact T2
   case after=>
    rintro σ H2 ⟨va,vb,vl,xs,rfl,s2,hl2,T2⟩
    rw[hlt,List.take_of_length_le (Nat.le_refl _)] at T2
    have e2:=fd_len (n:=n) p (ts:=ts) fun t ht=>(G.rng t ht).2.1
    refine⟨_,rfl,l,xs,fd p ts,rfl,SqL.of hl2,T2,by have:=G.len;omega,fun l' zs ms hl' T3 hp hrs=>?_⟩
    have nll:l'≠l:=fun e=>by rw[e,hl2] at hl';cases hl'
    have hl0:H l'=none:=by
     cases q:H l' with
     | none=>rfl
     | some o=>have:=s2 l' o q;rw[hl'] at this;cases this
    exact k l' zs ms _ (s2.trans (same_laid hl')) hl0 upd_same (T3.keep fun e ys he=>same_laid hl' _ _ he) hp hrs
end
theorem heads_rise {ms:List (List Int)}(h:Rises ms)(hk:∀k∈ms,∃y l,k=[y,l])(hn:(ms.map hd).Nodup):(ms.map hd).Pairwise (· < ·):=by
 rw[List.pairwise_map]
 rw[List.Nodup,List.pairwise_map] at hn
 have both:ms.Pairwise fun a b=>HT.lexLt b a=false/\hd a≠hd b:=by
  rw[List.pairwise_iff_getElem]
  intro i j hi hj hij
  exact⟨List.pairwise_iff_getElem.mp h i j hi hj hij,List.pairwise_iff_getElem.mp hn i j hi hj hij⟩
 refine both.imp_of_mem fun {a b} ha hb hab=>?_
 obtain⟨y,l,rfl⟩:=hk a ha
 obtain⟨z,m,rfl⟩:=hk b hb
 obtain⟨h1,h2⟩:=hab
 have h2':y≠z:=h2
 rw[HT.lexLt_cons,if_neg (Ne.symm h2')] at h1
 have:=of_decide_eq_false h1
 show y<z
 omega
theorem dec_int' {i j:Int}:decide (V.int i=V.int j)=decide (i=j):=by
 by_cases h:i=j
 . subst h;simp
 . rw[decide_eq_false h,decide_eq_false fun e=>h (by injection e)]
def lamP:Pos:=⟨73,36,73,64⟩
abbrev lamQ:Str:=(("nearest" : Str) ++ ".<locals>.") ++ "<lambda>"
abbrev Tb (H:Hp)(PT:Addr):Prop:=TabAt H PT lamP lamQ
def spNear (PT:Addr):Sp:=fun vs H Q _=>∃(d:Addr)(n:Int)(kvs:List (Key×V))(wt:Int->Option Int),vs=[.ref d]/\H d=some (.dK kvs)/\WD n kvs wt/\0<=n/\n<=24/\kvs≠[]/\Tb H PT /\
 ∀(M e:Int)(H':Hp),wt M=some e->(∀q f,wt q=some f->e<=f)->SmT H H'->Tb H' PT->Q (.int M) H'
def spFrom (PT:Addr):Sp:=fun vs H Q _=>∃(wa:Addr)(n:Int)(ts:List T3)(s:Int),vs=[.ref wa,.int s]/\WebAt H wa n ts/\0<=s/\s<n/\Tb H PT /\
 ∀(l:Addr)(kn:List (Option Int))(H':Hp),SmT H H'->Tb H' PT->H' l=some (.tup (kn.map oV))->Lens ts n s kn->Q (.ref l) H'
theorem WebAt.smT {H H':Hp}{wa:Addr}{n:Int}{ts:List T3}(h:WebAt H wa n ts)(k:SmT H H'):WebAt H' wa n ts:=h.keepT fun b ys e=>by
 rcases k b _ e with ⟨ps,z⟩ | z
 . cases z
 . exact z
section
variable {P:Program}{w:World}{K:PySem.W.Frag}{mg:Str->Option Value}{base:Heap}{PT:Addr}
theorem scNear:FnScope ["waiting"] ["waiting"] (defScope sNear):=⟨rfl,rfl,rfl,by decide +kernel,rfl,by decide +kernel,by decide +kernel⟩
theorem ok_near {f c:Addr}{fd':FuncData}(F:FunC K "nearest" "nearest" sNear f fd' c) (C:PySem.W.CodeHd base c PT)(hbm:BmAt mg base)(mMin:mg "min" = none) (mSorted:mg "sorted" = none):FnOk P w K mg base CX0 2 f fd' ["waiting"] (spNear PT):=by
 refine F.ok scNear (fun vs H Q E h=>?_) (fun A outer s H vs Q E hr h=>?_)
 . obtain⟨d,n,kvs,wt,rfl,_⟩:=h
   rfl
 . obtain⟨d,n,kvs,wt,rfl,hd,W,hn0,hn,hne,T,k⟩:=h
   refine⟨_,pss_one (ps_ret (pe_minkey (k:=0) (j:=0) (P:=PT) (c:=c) (dn := "waiting") (pn := "place") rfl hr rfl mMin (pa_cons (pe_callB (call_sortedK rfl) (by rfl) mSorted (by decide +kernel) (pa_cons (pv 0) pa_nil)) pa_nil) rfl C hbm rfl rfl rfl rfl rfl (by decide +kernel) (free_of rfl) rfl rfl rfl (fun _ _ _ _ _ _ _=>rfl))),?_⟩
   have hl:=W.len hn0
   refine⟨_,rfl,d,kvs,keysW kvs,rfl,hd,W.keys,by unfold keysW;rw[List.length_map];omega,fun l ms hl' hp _=>?_⟩
   have mem:∀x,x∈ms->∃e,wt x=some e:=fun x hx=>W.mem.mp (hp.mem_iff.mp hx)
   refine⟨l,d,ms,kvs,fun x=>(wt x).getD 0,rfl,upd_same,fun e=>?_,rfl,by rw[upd_ne (ne_of_none hd hl')];exact hd,fun x hx=>?_,T.same (same_laid hl'),fun M H2 hM hb sm T2=>?_⟩
   . subst e
     have:=hp.length_eq
     unfold keysW at this
     rw[List.length_map] at this
     exact hne (List.eq_nil_of_length_eq_zero this.symm)
   . obtain⟨e,he⟩:=mem x hx
     show valV kvs (Sum.inl x)=some (.int ((wt x).getD 0))
     rw[W.at_ x,he];rfl
   . obtain⟨e,he⟩:=mem M hM
     refine k M e H2 he (fun q f hq=>?_) ((SmT.of (same_laid hl')).trans sm) T2
     have hq':q∈ms:=hp.mem_iff.mpr (W.mem.mpr ⟨f,hq⟩)
     have:=hb q hq'
     simp only[he,hq,Option.getD_some] at this
     exact this
theorem scFrom:FnScope ["web", "start", "known", "waiting", "place", "other", "long", "far"] ["web", "start"] (defScope sFrom):=⟨rfl,rfl,rfl,by decide +kernel,rfl,by decide +kernel,by decide +kernel⟩
theorem map_oV_set {kn:List (Option Int)}{j:Nat}{o:Option Int}:(kn.map oV).set j (oV o)=(kn.set j o).map oV:=by rw[List.map_set]
theorem oV_non {o:Option Int}:decide (oV o=V.non)=o.isNone:=by
 cases o with
 | none=>rfl
 | some d=>exact decide_eq_false (by intro e;cases e)
theorem ok_from {f fN fT c:Addr}{fd' fdN fdT:FuncData}(F:Fun K "lengths_from" "lengths_from" sFrom f fd') (FN:FunC K "nearest" "nearest" sNear fN fdN c) (bN:Binds K fdN ["waiting"] []) (mN:mg "nearest" = some (.ref fN)) (FT:Fun K "ties_at" "ties_at" sTies fT fdT) (bT:Binds K fdT ["web", "place"] []) (mT:mg "ties_at" = some (.ref fT))
 (C:PySem.W.CodeHd base c PT)(hbm:BmAt mg base)(mMin:mg "min" = none) (mSorted:mg "sorted" = none) (mTuple:mg "tuple" = none):FnOk P w K mg base CX0 3 f fd' ["web", "start"] (spFrom PT):=by
 have GN:FnOk P w K mg base CX0 2 fN fdN ["waiting"] (spNear PT):=ok_near FN C hbm mMin mSorted
 have GT:FnOk P w K mg base CX0 2 fT fdT ["web", "place"] spTies:=(ok_ties FT mSorted).mono (by decide)
 refine F.ok scFrom (fun vs H Q E h=>?_) (fun cdv A outer s H vs Q E hr h=>?_)
 . obtain⟨wa,n,ts,st,rfl,_⟩:=h
   rfl
 . obtain⟨wa,n,ts,st,rfl,W,hs0,hs1,T,k⟩:=h
   obtain⟨ta,tys,hwa,_,_,G⟩:=id W
   have hu:=hu_of hr
   have hn1:=G.n1
   have hn24:=G.n24
   refine⟨_,pss_cons (ps_set (i:=2) scFrom.nd rfl (Or.inl rfl) (pe_op op_rep (pe_lst (pa_cons pe_non pa_nil)) (pe_ix ix_tup (pv 0) pe_int (fun _ _=>rfl))))
    (pss_cons (ps_set (i:=3) scFrom.nd rfl (Or.inl rfl) (pe_disp (pps_cons (pv 1) pe_int pps_nil) rfl rfl (by decide) (by decide)))
    (pss_cons (ps_while PassesOwn.never (pt_truth (pv 3) (fun _=>rfl))
     (pss_cons (ps_set (i:=4) scFrom.nd rfl (Or.inl rfl) (pe_call GN hr rfl mN FN.kp bN .nil pass0 (pa_cons (pv 3) pa_nil)))
     (pss_cons (ps_asg (pe_dpop1 (pv 3) (pv 4) ⟨rfl,rfl,rfl,rfl⟩) (pg_sub (pv 2) (pv 4) set_list))
     (pss_one (ps_for PassesOwn.never rfl (pi_list (pe_call GT hr rfl mT FT.kp bT .nil pass0 (pa_cons (pv 0) (pa_cons (pv 4) pa_nil)))) (pg_tup rfl (pgs_cons (pg_name (i:=5) scFrom.nd rfl (Or.inl rfl)) (pgs_cons (pg_name (i:=6) scFrom.nd rfl (Or.inl rfl)) pgs_nil)))
      (pss_one (ps_if (pt_cmpR op_isN (pe_ix ix_list (pv 2) (pv 5) (fun _ _=>rfl)) pe_non (nomark _))
       (pss_cons (ps_set (i:=7) scFrom.nd rfl (Or.inl rfl) (pe_op op_add (pe_ix ix_list (pv 2) (pv 4) (fun _ _=>rfl)) (pv 6)))
       (pss_one (ps_dput hu (pv 3) (pv 5) (pe_callB (call_min2 rfl) (by rfl) mMin (by decide +kernel) (pa_cons (pv 7) (pa_cons (pe_dget2 hu (pv 3) (pv 5) (pv 7) ⟨rfl,rfl,rfl,rfl⟩) pa_nil))) rfl))) pss_nil)))))))
    (pss_one (ps_ret (pe_callTy call_tuple_of (by rfl) mTuple (by decide +kernel) (pa_cons (pv 2) pa_nil)))))),?_⟩
   refine⟨by show 1<=sizeLine;decide,fun l0 hl0=>?_⟩
   refine⟨_,rfl,wa,_,_,_,rfl,rfl,SqT.of (same_laid hl0 _ _ hwa),rfl,l0,n,_,rfl,rfl,upd_same,by omega,by omega,?_,fun kl hkl=>?_⟩
   . have:sizeLine=16777216:=rfl
     show 1*n.toNat<=sizeLine
     omega
   have s1:Same H (upd (upd H l0 (.lst [.non])) kl (.lst (List.replicate n.toNat [V.non]).flatten)):=(same_laid hl0).trans (same_laid hkl)
   have erep:(List.replicate n.toNat [V.non]).flatten=(List.replicate n.toNat (none:Option Int)).map oV:=by
    generalize n.toNat=m
    induction m with
    | zero=>rfl
    | succ m ih=>rw[List.replicate_succ,List.flatten_cons,ih,List.replicate_succ];rfl
   rw[erep] at s1 ⊢
   have hk1:(upd (upd H l0 (.lst [.non])) kl (.lst ((List.replicate n.toNat (none:Option Int)).map oV))) kl=some (.lst ((List.replicate n.toNat (none:Option Int)).map oV)):=upd_same
   generalize hH1:upd (upd H l0 (.lst [.non])) kl (.lst ((List.replicate n.toNat (none:Option Int)).map oV))=H1 at s1 hk1 ⊢
   intro wd hwd
   refine⟨_,rfl,upd_same,[(Sum.inl st,.int 0)],rfl,by show 1<=15;decide,?_⟩
   have s2:Same H (upd (upd H1 wd (.dK [])) wd (.dK [(Sum.inl st,.int 0)])):=by rw[upd_upd];exact s1.trans (same_laid hwd)
   have nkw:kl≠wd:=ne_of_none hk1 hwd
   rw[show mergeK [] [((Sum.inl st:Key),V.int 0)]=[((Sum.inl st:Key),V.int 0)] from rfl,upd_upd]
   rw[upd_upd] at s2
   refine⟨fun m σ H2=>∃(kn:List (Option Int))(kvs:List (Key×V))(wt:Int->Option Int)(v4 v5 v6 v7:Option V),σ=[some (.ref wa),some (.int st),some (.ref kl),some (.ref wd),v4,v5,v6,v7]/\m=n.toNat-cnt kn/\SmT H H2/\Tb H2 PT/\H2 kl=some (.lst (kn.map oV))/\H2 wd=some (.dK kvs)/\WD n kvs wt/\Dl ts n st kn wt,
    ⟨_,_,_,_,_,_,_,_,rfl,rfl,SmT.of s2,T.same s2,by rw[upd_ne nkw];exact hk1,upd_same,WD.one hs0 hs1,Dl.start G hs0 hs1⟩,?_⟩
   rintro m σ H2 ⟨kn,kvs,wt,v4,v5,v6,v7,rfl,rfl,sm,T2,hk2,hw2,WW,D⟩
   cases hkb:kvs.isEmpty with
   | true=>
    refine⟨_,rfl,false,.inr (.inr ⟨kvs,hw2,by rw[hkb];rfl⟩),?_⟩
    refine iteF ?_
    have hkv:kvs=[]:=List.isEmpty_iff.mp hkb
    have hnone:∀q,wt q=none:=fun q=>by
     cases e:wt q with
     | none=>rfl
     | some d=>
      have:=WW.mem.mpr ⟨d,e⟩
      rw[hkv] at this
      simp[keysW] at this
    refine⟨_,rfl,kl,_,rfl,.inl ⟨SqL.of hk2,fun q hq=>?_⟩⟩
    exact k q kn _ (sm.trans (SmT.of (same_laid hq))) (T2.same (same_laid hq)) upd_same (D.done G hnone)
   | false=>
    refine⟨_,rfl,true,.inr (.inr ⟨kvs,hw2,by rw[hkb];rfl⟩),?_⟩
    refine iteT ?_
    have hne:kvs≠[]:=by intro e;rw[e] at hkb;cases hkb
    refine⟨fun σ' H'=>∃(kn':List (Option Int))(kvs':List (Key×V))(wt':Int->Option Int)(v4 v5 v6 v7:Option V),σ'=[some (.ref wa),some (.int st),some (.ref kl),some (.ref wd),v4,v5,v6,v7]/\cnt kn'=cnt kn+1/\SmT H H'/\Tb H' PT/\H' kl=some (.lst (kn'.map oV))/\H' wd=some (.dK kvs')/\WD n kvs' wt'/\Dl ts n st kn' wt',?_,?_⟩
    . rintro σ' H' ⟨kn',kvs',wt',v4',v5',v6',v7',rfl,hc,sm',T',hk',hw',WW',D'⟩
      have h1:=cnt_le kn'
      have h2:=D'.ln
      exact⟨n.toNat-cnt kn',by omega,kn',kvs',wt',v4',v5',v6',v7',rfl,rfl,sm',T',hk',hw',WW',D'⟩
    refine⟨_,rfl,wd,n,kvs,wt,rfl,hw2,WW,by omega,hn24,hne,T2,fun M e H3 hM hmin sm3 T3=>?_⟩
    have hk3:H3 kl=some (.lst (kn.map oV)):=sm3.get hk2 (by intro ps z;cases z)
    have hw3:H3 wd=some (.dK kvs):=sm3.get hw2 (by intro ps z;cases z)
    obtain⟨hknM,hM0,hM1,hcnt,N0⟩:=D.enter G hM hmin
    have hval:valV kvs (Sum.inl M)=some (.int e):=by rw[WW.at_ M,hM];rfl
    refine⟨_,rfl,wd,rfl,.inl ⟨kvs,.inl hw3⟩,_,rfl,kvs,Sum.inl M,_,hw3,rfl,hval,?_⟩
    have hlk:(kn.map oV).length=n.toNat:=by rw[List.length_map];exact D.ln
    have hk3':(upd H3 wd (.dK (dropK kvs (Sum.inl M)))) kl=some (.lst (kn.map oV)):=by rw[upd_ne nkw];exact hk3
    refine⟨_,rfl,_,rfl,kl,_,M,M.toNat,rfl,rfl,hk3',ixN_in hM0 (by rw[hlk];omega),?_⟩
    rw[show V.int e=oV (some e) from rfl,map_oV_set]
    have sm4:SmT H (upd (upd H3 wd (.dK (dropK kvs (Sum.inl M)))) kl (.lst ((kn.set M.toNat (some e)).map oV))):=by
     intro b o hb
     rcases (sm.trans sm3) b o hb with z | z
     . exact .inl z
     . right
       have n1:b≠wd:=fun q=>by
        have hbn:H b=none:=by
         rw[q]
         cases e':H wd with
         | none=>rfl
         | some o'=>have:=s1 wd o' e';rw[hwd] at this;cases this
        rw[hbn] at hb;cases hb
       have n2:b≠kl:=fun q=>by
        have hbn:H b=none:=by
         rw[q]
         cases e':H kl with
         | none=>rfl
         | some o'=>have:=same_laid (o:=.lst [.non]) hl0 kl o' e';rw[hkl] at this;cases this
        rw[hbn] at hb;cases hb
       rw[upd_ne n2,upd_ne n1];exact z
    have T4:Tb (upd (upd H3 wd (.dK (dropK kvs (Sum.inl M)))) kl (.lst ((kn.set M.toNat (some e)).map oV))) PT:=by
     refine T3.keep (fun o ho=>?_) fun c φ hc=>?_
     . obtain⟨ps,hps,_⟩:=T3
       have e1:=ho
       rw[hps] at e1;cases e1
       rw[upd_ne (ne_of ho hk3 (by intro z;cases z)),upd_ne (ne_of ho hw3 (by intro z;cases z))];exact ho
     . rw[upd_ne (ne_of hc hk3 (by intro z;cases z)),upd_ne (ne_of hc hw3 (by intro z;cases z))];exact hc
    have hk4:(upd (upd H3 wd (.dK (dropK kvs (Sum.inl M)))) kl (.lst ((kn.set M.toNat (some e)).map oV))) kl=some (.lst ((kn.set M.toNat (some e)).map oV)):=upd_same
    have hw4:(upd (upd H3 wd (.dK (dropK kvs (Sum.inl M)))) kl (.lst ((kn.set M.toNat (some e)).map oV))) wd=some (.dK (dropK kvs (Sum.inl M))):=by rw[upd_ne nkw.symm,upd_same]
    generalize upd (upd H3 wd (.dK (dropK kvs (Sum.inl M)))) kl (.lst ((kn.set M.toNat (some e)).map oV))=H4 at sm4 T4 hk4 hw4 ⊢
    refine⟨_,rfl,_,rfl,wa,n,ts,M,rfl,W.smT sm4,fun l zs ms H5 s5 hl5 hl5' T5 hp _=>?_⟩
    have hlz:=T5.length
    refine⟨l,rfl,⟨_,SqL.of hl5'⟩,for_list (K:=K) (a:=l) (xs:=zs) (fun i σ H6=>∃(kvs':List (Key×V))(wt':Int->Option Int)(v5 v6 v7:Option V),σ=[some (.ref wa),some (.int st),some (.ref kl),some (.ref wd),some (.int M),v5,v6,v7]/\(∀b o,b≠wd->H5 b=some o->H6 b=some o)/\H6 wd=some (.dK kvs')/\WD n kvs' wt'/\Dn ts n st M e (kn.set M.toNat (some e)) wt' (fun r=>∃j k,j<i/\ms[j]? = some k/\hd k=r))
     ⟨_,_,_,_,_,rfl,fun _ _ _ z=>z,s5 _ _ hw4,WW.drop,⟨⟨N0.dm.kd,N0.dm.wk,N0.dm.ord,fun q e' r l' hq ha=>(N0.dm.nb q e' r l' hq ha).imp (fun z=>⟨z.1,fun ⟨j,_,hj,_⟩=>absurd hj (Nat.not_lt_zero _)⟩) id,N0.dm.st,N0.dm.pd,N0.dm.mx⟩,N0.ln,N0.bk,N0.bd,N0.bw⟩⟩
     (fun i σ H6 _ ⟨_,_,_,_,_,_,s6,_⟩=>SqL.of (s6 l _ (ne_of hl5' (s5 _ _ hw4) (by intro z;cases z)) hl5')) ?turn ?after⟩
    case after=>
     rintro σ H6 ⟨kvs',wt',v5,v6,v7,rfl,s6,hw6,WW6,N6⟩
     have hk5:H5 kl=some (.lst ((kn.set M.toNat (some e)).map oV)):=s5 _ _ hk4
     refine⟨_,kvs',wt',_,_,_,_,rfl,hcnt,?_,?_,s6 kl _ nkw hk5,hw6,WW6,N6.leave fun r c ha=>?_⟩
     . intro b o hb
       rcases (sm4.trans (SmT.of s5)) b o hb with z | z
       . exact .inl z
       . right
         refine s6 b o (fun q=>?_) z
         have hbn:H b=none:=by
          rw[q]
          cases e':H wd with
          | none=>rfl
          | some o'=>have:=s1 wd o' e';rw[hwd] at this;cases this
         rw[hbn] at hb;cases hb
     . refine (T4.same s5).keep (fun o ho=>?_) fun c φ hc=>?_
       . obtain⟨ps,hps,_⟩:=T4.same s5
         refine s6 PT o (fun q=>?_) ho
         rw[q,s5 _ _ hw4] at hps;cases hps
       . refine s6 c _ (fun q=>?_) hc
         rw[q,s5 _ _ hw4] at hc;cases hc
     . have hm:[r,c]∈ms:=hp.mem_iff.mpr (mem_fd.mpr ⟨r,c,rfl,ha⟩)
       obtain⟨j,hj,ej⟩:=List.getElem_of_mem hm
       exact⟨j,[r,c],by omega,by rw[List.getElem?_eq_getElem hj,ej],rfl⟩
    case turn=>
     rintro i y σ H6 hi ⟨kvs',wt',v5,v6,v7,rfl,s6,hw6,WW6,N6⟩
     obtain⟨ya,ky,rfl,hky,hya,_⟩:=T5.get hi
     obtain⟨r,c,rfl,ha⟩:=mem_fd.mp (hp.mem_iff.mp (List.mem_of_getElem? hky))
     have hadj:=G.adj ha
     have hk6:H6 kl=some (.lst ((kn.set M.toNat (some e)).map oV)):=s6 kl _ nkw (s5 _ _ hk4)
     have hln:(kn.set M.toNat (some e)).length=n.toNat:=N6.ln
     have seen_of:∀{x:Int},(x=r\/∃j k,j<i/\ms[j]? = some k/\hd k=x)->∃j k,j<i+1/\ms[j]? = some k/\hd k=x:=fun {x} z=>by
      rcases z with rfl | ⟨j,k',hj,hk',e'⟩
      . exact⟨i,[x,c],Nat.lt_succ_self _,hky,rfl⟩
      . exact⟨j,k',Nat.lt_succ_of_lt hj,hk',e'⟩
     have sub:∀{x:Int},(∃j k,j<i+1/\ms[j]? = some k/\hd k=x)->(∃j k,j<i/\ms[j]? = some k/\hd k=x)\/x=r:=fun {x} ⟨j,k',hj,hk',e'⟩=>by
      by_cases hji:j<i
      . exact .inl ⟨j,k',hji,hk',e'⟩
      . have:j=i:=by omega
        subst this
        rw[hky] at hk';cases hk'
        exact .inr e'.symm
     have conv:∀{wt2:Int->Option Int},Dn ts n st M e (kn.set M.toNat (some e)) wt2 (fun x=>(∃j k,j<i/\ms[j]? = some k/\hd k=x)\/x=r)->Dn ts n st M e (kn.set M.toNat (some e)) wt2 (fun x=>∃j k,j<i+1/\ms[j]? = some k/\hd k=x):=fun {wt2} N=>
      ⟨⟨N.dm.kd,N.dm.wk,N.dm.ord,fun q e' r' l' hq ha'=>(N.dm.nb q e' r' l' hq ha').imp (fun z=>⟨z.1,fun y=>z.2 (sub y)⟩) id,N.dm.st,N.dm.pd,N.dm.mx⟩,N.ln,N.bk,N.bd,N.bw⟩
     refine⟨ya,_,rfl,SqT.of (s6 _ _ (ne_of hya (s5 _ _ hw4) (by intro z;cases z)) hya),rfl,_,_,rfl,_,_,rfl,rfl,?_⟩
     obtain⟨o,ho⟩:∃o,(kn.set M.toNat (some e))[r.toNat]? = some o:=⟨_,List.getElem?_eq_getElem (by omega)⟩
     have hfnl:fnl (kn.set M.toNat (some e)) r=o:=by
      unfold fnl
      rw[if_pos hadj.2.2.1,List.getD_eq_getElem?_getD,ho];rfl
     refine⟨_,rfl,_,rfl,kl,_,_,oV o,rfl,rfl,SqL.of hk6,atI_in hadj.2.2.1 (by rw[List.getElem?_map,ho];rfl),rfl,_,rfl,?_⟩
     rw[oV_non]
     cases o with
     | some f0=>
      refine iteF ?_
      exact⟨kvs',wt',_,_,_,rfl,s6,hw6,WW6,conv (N6.skip hfnl)⟩
     | none=>
      refine iteT ?_
      have hkM:(kn.set M.toNat (some e))[M.toNat]? = some (some e):=by
       rw[List.getElem?_set_self (by have:=D.ln;omega)]
      refine⟨_,rfl,_,rfl,kl,_,_,oV (some e),rfl,rfl,SqL.of hk6,atI_in hM0 (by rw[List.getElem?_map,hkM];rfl),_,rfl,_,_,rfl,rfl,?_⟩
      refine⟨_,rfl,_,rfl,wd,rfl,.inl ⟨kvs',.inl hw6⟩,_,rfl,_,rfl,_,DGet.k (k:=Sum.inl r) hw6,?_⟩
      have hg:((valV kvs' (Sum.inl r)).getD (V.int (e+c)))=V.int ((wt' r).getD (e+c)):=by
       rw[WW6.at_ r]
       cases wt' r <;> rfl
      rw[hg]
      refine⟨_,_,rfl,?_⟩
      have hwl:=WW6.len (by omega)
      refine⟨_,rfl,_,rfl,wd,_,rfl,DPut.k (k:=Sum.inl r) hw6 (small_line (by omega)),?_⟩
      exact⟨_,_,_,_,_,rfl,fun b o' hb z=>by rw[upd_ne hb];exact s6 b o' hb z,upd_same,WW6.put hadj.2.2.1 hadj.2.2.2.1,conv (N6.wait G ha hfnl)⟩
end
def spBwr:Sp:=fun vs H Q _=>∃(lh lt:Addr)(n:Int)(ts:List T3)(x y:Int)(kn1 kn2:List (Option Int)),vs=[.ref lh,.ref lt,.int y]/\GW n ts/\0<=x/\x<n/\0<=y/\y<n/\H lh=some (.tup (kn1.map oV))/\H lt=some (.tup (kn2.map oV))/\Lens ts n x kn1/\Lens ts n y kn2 /\
 ∀(l:Addr)(xs:List Int)(H':Hp),Same H H'->H' l=some (.tup (xs.map V.int))->xs.Pairwise (· < ·)->(∀p,p∈xs↔Btw ts x y p)->Q (.ref l) H'
def spNbr:Sp:=fun vs H Q _=>∃(wa lt:Addr)(n:Int)(ts:List T3)(x y:Int)(kn:List (Option Int)),vs=[.ref wa,.int x,.ref lt]/\WebAt H wa n ts/\0<=x/\x<n/\0<=y/\y<n/\H lt=some (.tup (kn.map oV))/\Lens ts n y kn /\
 ∀(l:Addr)(xs:List Int)(H':Hp),Same H H'->H' l=some (.tup (xs.map V.int))->xs.Pairwise (· < ·)->(∀p,p∈xs↔Nxt ts x y p)->Q (.ref l) H'
theorem Lens_get {ts:List T3}{n s:Int}{kn:List (Option Int)}(h:Lens ts n s kn){y:Int}(h0:0<=y)(h1:y<n):(kn.map oV)[y.toNat]? = some (oV (fnl kn y)):=by
 have hl:=h.ln
 have hlt:y.toNat<kn.length:=by omega
 rw[List.getElem?_map,List.getElem?_eq_getElem hlt]
 unfold fnl
 rw[if_pos h0,List.getD_eq_getElem?_getD,List.getElem?_eq_getElem hlt]
 rfl
theorem ints_succ (q:Nat):lowTo (q+1)=lowTo q++[(q:Int)]:=by unfold lowTo;rw[List.range_succ,List.map_append];rfl
theorem ints_len (q:Nat):(lowTo q).length=q:=by unfold lowTo;rw[List.length_map,List.length_range]
section
variable {P:Program}{w:World}{K:PySem.W.Frag}{mg:Str->Option Value}{base:Heap}{PT:Addr}
theorem scBwr:FnScope ["here", "there", "other", "reached"] ["here", "there", "other"] (defScope sBwr):=⟨rfl,rfl,rfl,by decide +kernel,rfl,by decide +kernel,by decide +kernel⟩
theorem ok_bwr {f:Addr}{fd':FuncData}(F:Fun K "between_rows" "between_rows" sBwr f fd') (mRange:mg "range" = none) (mTuple:mg "tuple" = none) (mLen:mg "len" = none):FnOk P w K mg base CX0 1 f fd' ["here", "there", "other"] spBwr:=by
 refine F.ok scBwr (fun vs H Q E h=>?_) (fun cdv A outer s H2 vs Q E hr h=>?_)
 . obtain⟨lh,lt,n,ts,x,y,kn1,kn2,rfl,_⟩:=h
   rfl
 . obtain⟨lh,lt,n,ts,x,y,kn1,kn2,rfl,G,hx0,hx1,hy0,hy1,hh2,hl2,L1,L2,k⟩:=h
   have hn24:=G.n24
   have hln:=L1.ln
   refine⟨_,pss_cons (ps_if (pt_cmpR op_isN (pe_ix ix_tup (pv 0) (pv 2) (fun _ _=>rfl)) pe_non (nomark _)) (pss_one (ps_ret (pe_tup pa_nil))) pss_nil)
    (pss_cons (ps_setC (i:=3) (own:=["place"]) (cn:=["here"]) (ci:=[0]) scBwr.nd rfl (Or.inl rfl) rfl (csc rfl rfl) ⟨rfl,rfl,rfl,trivial⟩ rfl
     (pi_range1 rfl mRange (pa_cons (pe_callB call_len_seq (by rfl) mLen PySem.boot_len (pa_cons (pv 0) pa_nil)) pa_nil)) (fun _ _ _ _=>pg_name (i:=0) (nd_of rfl) rfl (Or.inl rfl))
     (fun _ _ _ _=>pts_one (pt_cmpR op_notN (pe_ix ix_tupC (pv 1) (pv 0) (fun _ _=>rfl)) pe_non (nomark _))) (fun _ _ _ _=>pv 0))
    (pss_one (ps_ret (pe_callTy call_tuple_of (by rfl) mTuple (by decide +kernel) (pa_cons
     (pe_comp (own:=["place"]) (cn:=["here", "there", "other"]) (ci:=[0,1,2]) rfl (csc rfl rfl) ⟨rfl,rfl,rfl,rfl,rfl,rfl,rfl,rfl,rfl,trivial⟩ rfl
      (pi_list (pv 3)) (fun _ _ _ _=>pg_name (i:=0) (nd_of rfl) rfl (Or.inl rfl))
      (fun _ _ _ _=>pts_one (pt_cmpR op_eq (pe_op op_add (pe_ix ix_tupC (pv 1) (pv 0) (fun _ _=>rfl)) (pe_ix ix_tupC (pv 2) (pv 0) (fun _ _=>rfl))) (pe_ix ix_tupC (pv 1) (pv 3) (fun _ _=>rfl)) (nomark _)))
      (fun _ _ _ _=>pv 0)) pa_nil))))),?_⟩
   have hy:=L1.len y hy0 hy1
   refine⟨_,rfl,_,rfl,lh,_,_,oV (fnl kn1 y),rfl,rfl,SqT.of hh2,atI_in hy0 (Lens_get L1 hy0 hy1),rfl,_,rfl,?_⟩
   rw[oV_non]
   cases hd:fnl kn1 y with
   | none=>
    refine iteT ?_
    rw[hd] at hy
    refine⟨Nat.zero_le _,fun l hl=>k l [] _ (same_laid hl) upd_same List.Pairwise.nil fun p=>⟨fun z=>by simp at z,fun ⟨a,b,_,_,z⟩=>absurd z.1 (hy _)⟩⟩
   | some d=>
    refine iteF ?_
    rw[hd] at hy
    have hyD:WM.IsD ts x y d:=hy
    refine⟨_,rfl,lh,_,rfl,.inr (SqT.of hh2),n,by rw[List.length_map,hln];exact congrArg (fun z=>[V.int z]) (Int.toNat_of_nonneg (by omega)),by omega,by omega,[.ref lh],rfl,fun D hD=>?_⟩
    refine comp_range (lo:=0) (n:=n.toNat) (fun q ys H3=>q<=n.toNat/\ys=((lowTo q).filter fun o=>(fnl kn1 o).isSome).map V.int/\Same H2 H3/\H3 D=some (.lst ys)) ⟨Nat.zero_le _,rfl,same_laid hD,upd_same⟩ (fun q ys H3 h=>?_) (fun q ys H3 hq h=>?_) (fun ys H3 h=>?_)
    . obtain⟨hq,rfl,_⟩:=h
      rw[List.length_map]
      refine Nat.lt_of_le_of_lt (List.length_filter_le _ _) (small_line ?_)
      rw[ints_len];omega
    . obtain⟨_,rfl,s3,hD3⟩:=h
      rw[Int.zero_add]
      refine⟨⟨rfl,rfl⟩,?_⟩
      refine⟨_,rfl,_,rfl,lh,_,_,oV (fnl kn1 q),rfl,rfl,SqT.of (s3 _ _ hh2),atI_in (by omega) (Lens_get L1 (by omega) (by omega)),rfl,_,rfl,?_⟩
      rw[oV_non]
      cases e:fnl kn1 q with
      | none=>
       refine iteF ?_
       refine⟨hq,?_,s3,hD3⟩
       rw[ints_succ,List.filter_append,List.filter_cons_of_neg (by rw[e];decide),List.filter_nil,List.append_nil]
      | some a=>
       refine iteT ?_
       refine⟨_,rfl,hD3,hq,?_,same_chg s3 hD,upd_same⟩
       rw[ints_succ,List.filter_append,List.filter_cons_of_pos (by rw[e];rfl),List.filter_nil,List.map_append]
       rfl
    . obtain⟨_,rfl,s3,hD3⟩:=h
      generalize hR:((lowTo n.toNat).filter fun o=>(fnl kn1 o).isSome)=R at hD3 ⊢
      have hRm:∀p,p∈R↔(0<=p/\p<n)/\∃a,fnl kn1 p=some a:=fun p=>by
       rw[<-hR,List.mem_filter,mem_ints,Option.isSome_iff_exists]
       constructor
       . rintro ⟨z1,z2⟩;exact⟨by omega,z2⟩
       . rintro ⟨z1,z2⟩;exact⟨by omega,z2⟩
      have hRr:R.Pairwise (· < ·):=by rw[<-hR];exact (ints_rise _).sublist List.filter_sublist
      have hRl:R.length<=24:=by
       rw[<-hR]
       exact Nat.le_trans (List.length_filter_le _ _) (by rw[ints_len];omega)
      have both:∀p,p∈R->∃a b,fnl kn1 p=some a/\fnl kn2 p=some b/\WM.IsD ts x p a/\WM.IsD ts p y b:=fun p hp=>by
       obtain⟨⟨h0,h1⟩,a,ha⟩:=(hRm p).mp hp
       have l1:=L1.len p h0 h1
       rw[ha] at l1
       obtain⟨b,hb,_⟩:=Len.via (show WM.IsD ts x p a from l1) hyD (Len.symm (L2.len p h0 h1))
       have l2:=L2.len p h0 h1
       rw[hb] at l2
       exact⟨a,b,ha,hb,l1,WM.IsD.symm l2⟩
      refine⟨_,rfl,D,rfl,⟨_,SqL.of hD3⟩,[.ref lh,.ref lt,.int y],rfl,fun D2 hD2=>?_⟩
      have nDD:D≠D2:=ne_of_none hD3 hD2
      refine comp_list (a:=D) (xs:=R.map V.int) (fun i ys H4=>ys=((R.take i).filter fun p=>decide ((fnl kn1 p).getD 0+(fnl kn2 p).getD 0=d)).map V.int/\Same H3 H4/\H4 D2=some (.lst ys)) ⟨rfl,same_laid hD2,upd_same⟩ (fun i ys H4 h=>?_) (fun i ys H4 h=>?_) (fun i v ys H4 hv h=>?_) (fun ys H4 h=>?_)
      . obtain⟨_,s4,_⟩:=h
        exact SqL.of (s4 _ _ hD3)
      . obtain⟨rfl,_⟩:=h
        rw[List.length_map]
        refine Nat.lt_of_le_of_lt (List.length_filter_le _ _) (small_line ?_)
        rw[List.length_take];omega
      . obtain⟨rfl,s4,hD4⟩:=h
        obtain⟨p,hp,rfl⟩:∃p,R[i]? = some p/\V.int p=v:=by
         rw[List.getElem?_map] at hv
         cases e:R[i]? with
         | none=>rw[e] at hv;cases hv
         | some p=>rw[e] at hv;exact⟨p,rfl,Option.some.inj hv⟩
        have hpR:=List.mem_of_getElem? hp
        obtain⟨⟨h0,h1⟩,_⟩:=(hRm p).mp hpR
        obtain⟨a,b,ha,hb,_,_⟩:=both p hpR
        have hlh4:H4 lh=some (.tup (kn1.map oV)):=s4 _ _ (s3 _ _ hh2)
        have hlt4:H4 lt=some (.tup (kn2.map oV)):=s4 _ _ (s3 _ _ hl2)
        refine⟨⟨rfl,rfl⟩,?_⟩
        refine⟨_,rfl,_,rfl,lh,_,_,.int a,rfl,rfl,SqT.of hlh4,atI_in h0 (by rw[Lens_get L1 h0 h1,ha];rfl),?_⟩
        refine⟨_,rfl,_,rfl,lt,_,_,.int b,rfl,rfl,SqT.of hlt4,atI_in h0 (by rw[Lens_get L2 h0 h1,hb];rfl),_,_,rfl,rfl,?_⟩
        refine⟨_,rfl,_,rfl,lh,_,_,.int d,rfl,rfl,SqT.of hlh4,atI_in hy0 (by rw[Lens_get L1 hy0 hy1,hd];rfl),rfl,_,rfl,?_⟩
        rw[dec_int']
        have etk:(R.take (i+1)).filter (fun p=>decide ((fnl kn1 p).getD 0+(fnl kn2 p).getD 0=d))=(R.take i).filter (fun p=>decide ((fnl kn1 p).getD 0+(fnl kn2 p).getD 0=d))++(if a+b=d then [p] else []):=by
         rw[List.take_add_one,hp,List.filter_append]
         show _++List.filter _ [p]=_
         rw[List.filter_cons,ha,hb]
         by_cases c:a+b=d
         . rw[if_pos (by simpa using c),if_pos c];rfl
         . rw[if_neg (by simpa using c),if_neg c];rfl
        refine ite2 (fun c=>?_) (fun c=>?_)
        . have c':=of_decide_eq_true c
          refine⟨_,rfl,hD4,?_,same_chg s4 hD2,upd_same⟩
          rw[etk,if_pos c',List.map_append];rfl
        . have c':¬ a+b=d:=fun z=>c (decide_eq_true z)
          refine⟨?_,s4,hD4⟩
          rw[etk,if_neg c',List.append_nil]
      . obtain⟨rfl,s4,hD4⟩:=h
        rw[List.length_map,List.take_of_length_le (Nat.le_refl _)] at hD4
        refine⟨D2,_,rfl,.inl ⟨SqL.of hD4,fun q hq=>?_⟩⟩
        refine k q _ _ ((s3.trans s4).trans (same_laid hq)) upd_same (hRr.sublist List.filter_sublist) fun p=>?_
        rw[List.mem_filter]
        constructor
        . rintro ⟨hp,c⟩
          obtain⟨a,b,ha,hb,ia,ib⟩:=both p hp
          have c':=of_decide_eq_true c
          rw[ha,hb] at c'
          exact⟨a,b,ia,ib,by rw[show a+b=d from c'];exact hyD⟩
        . rintro ⟨a,b,ia,ib,iab⟩
          have hp:=ia.1.in_ G hx0 hx1
          have l1:=Len.uniq (L1.len p hp.1 hp.2) (show Len ts x p (some a) from ia)
          have l2:=Len.uniq (L2.len p hp.1 hp.2) (show Len ts y p (some b) from WM.IsD.symm ib)
          refine⟨(hRm p).mpr ⟨hp,a,l1⟩,decide_eq_true ?_⟩
          rw[l1,l2]
          exact WM.IsD.uniq iab hyD
theorem scNbr:FnScope ["web", "one", "there"] ["web", "one", "there"] (defScope sNbr):=⟨rfl,rfl,rfl,by decide +kernel,rfl,by decide +kernel,by decide +kernel⟩
def sl1 (k:List Int):Int:=k.getD 1 0
theorem ok_nbr {f fT:Addr}{fd' fdT:FuncData}(F:Fun K "next_by_row" "next_by_row" sNbr f fd')
 (FT:Fun K "ties_at" "ties_at" sTies fT fdT) (bT:Binds K fdT ["web", "place"] []) (mT:mg "ties_at" = some (.ref fT)) (mSorted:mg "sorted" = none) (mTuple:mg "tuple" = none):FnOk P w K mg base CX0 3 f fd' ["web", "one", "there"] spNbr:=by
 have GT:FnOk P w K mg base CX0 2 fT fdT ["web", "place"] spTies:=(ok_ties FT mSorted).mono (by decide)
 refine F.ok scNbr (fun vs H Q E h=>?_) (fun cdv A outer s H1 vs Q E hr h=>?_)
 . obtain⟨wa,lt,n,ts,x,y,kn,rfl,_⟩:=h
   rfl
 . obtain⟨wa,lt,n,ts,x,y,kn,rfl,W,hx0,hx1,hy0,hy1,hl1,L,k⟩:=h
   obtain⟨ta,tys,hwa,_,_,G⟩:=id W
   refine⟨_,pss_cons (ps_if (pt_cmpR op_isN (pe_ix ix_tup (pv 2) (pv 1) (fun _ _=>rfl)) pe_non (nomark _)) (pss_one (ps_ret (pe_tup pa_nil))) pss_nil)
    (pss_one (ps_ret (pe_callTy call_tuple_of (by rfl) mTuple (by decide +kernel) (pa_cons
     (pe_comp (own:=["place", "long"]) (cn:=["there", "one"]) (ci:=[2,1]) rfl (csc rfl rfl) ⟨rfl,rfl,rfl,rfl,rfl,rfl,trivial⟩ rfl
      (pi_list (pe_call GT hr rfl mT FT.kp bT .nil pass0 (pa_cons (pv 0) (pa_cons (pv 1) pa_nil))))
      (fun _ _ _ _=>pg_tupC (n:=2) rfl (pgs_cons (pg_name (i:=0) (nd_of rfl) rfl (Or.inl rfl)) (pgs_cons (pg_name (i:=1) (nd_of rfl) rfl (Or.inl rfl)) pgs_nil)))
      (fun _ _ _ _=>pts_one (pt_cmpR op_eq (pe_op op_add (pv 1) (pe_ix ix_tupC (pv 2) (pv 0) (fun _ _=>rfl))) (pe_ix ix_tupC (pv 2) (pv 3) (fun _ _=>rfl)) (nomark _)))
      (fun _ _ _ _=>pv 0)) pa_nil)))),?_⟩
   have hx:=L.len x hx0 hx1
   refine⟨_,rfl,_,rfl,lt,_,_,oV (fnl kn x),rfl,rfl,SqT.of hl1,atI_in hx0 (Lens_get L hx0 hx1),rfl,_,rfl,?_⟩
   rw[oV_non]
   cases hd:fnl kn x with
   | none=>
    refine iteT ?_
    rw[hd] at hx
    refine⟨Nat.zero_le _,fun l hl=>k l [] _ (same_laid hl) upd_same List.Pairwise.nil fun p=>⟨fun z=>by simp at z,fun ⟨a,b,_,_,z⟩=>absurd z.1.symm (hx _)⟩⟩
   | some d=>
    refine iteF ?_
    rw[hd] at hx
    have hxD:WM.IsD ts x y d:=WM.IsD.symm hx
    refine⟨_,rfl,_,rfl,wa,n,ts,x,rfl,W,fun l zs ms H2 s2 hl0 hl2 TT hp hrs=>?_⟩
    have hlz:=TT.length
    have hlt2:H2 lt=some (.tup (kn.map oV)):=s2 _ _ hl1
    have hlm:ms.length<64:=by
     have e2:=fd_len (n:=n) x (ts:=ts) fun t ht=>(G.rng t ht).2.1
     have:=G.len
     rw[hp.length_eq];omega
    have near:∀k,k∈ms->∃z c b,k=[z,c]/\Adj ts x z c/\fnl kn z=some b/\WM.IsD ts z y b:=fun k hk=>by
     obtain⟨z,c,e,ha⟩:=mem_fd.mp (hp.mem_iff.mp hk)
     have hadj:=G.adj ha
     have lz:=L.len z hadj.2.2.1 hadj.2.2.2.1
     cases hz:fnl kn z with
     | none=>rw[hz] at lz;exact absurd (hx.1.snoc ha) (lz _)
     | some b=>rw[hz] at lz;exact⟨z,c,b,e,ha,hz,WM.IsD.symm lz⟩
    refine⟨l,rfl,⟨_,SqL.of hl2⟩,[.ref lt,.int x],rfl,fun D hD=>?_⟩
    have nlD:l≠D:=ne_of_none hl2 hD
    refine comp_list (a:=l) (xs:=zs) (fun i ys H3=>ys=(((ms.take i).filter fun k=>decide (sl1 k+(fnl kn (WM.hd k)).getD 0=d)).map WM.hd).map V.int/\H3=upd H2 D (.lst ys)) ⟨rfl,rfl⟩ (fun i ys H3 h=>?_) (fun i ys H3 h=>?_) (fun i v ys H3 hv h=>?_) (fun ys H3 h=>?_)
    . obtain⟨_,rfl⟩:=h
      exact SqL.of (by rw[upd_ne nlD];exact hl2)
    . obtain⟨rfl,_⟩:=h
      rw[List.length_map,List.length_map]
      refine Nat.lt_of_le_of_lt (List.length_filter_le _ _) (small_line ?_)
      rw[List.length_take];omega
    . obtain⟨rfl,rfl⟩:=h
      obtain⟨ya,ky,rfl,hky,hya,_⟩:=TT.get hv
      obtain⟨z,c,b,rfl,ha,hb,ib⟩:=near ky (List.mem_of_getElem? hky)
      have hadj:=G.adj ha
      refine⟨ya,_,rfl,SqT.of (by rw[upd_ne (ne_of_none hya hD)];exact hya),rfl,_,_,rfl,_,_,rfl,rfl,⟨rfl,rfl⟩,?_⟩
      have hltD:(upd H2 D (.lst ((((ms.take i).filter fun k=>decide (sl1 k+(fnl kn (WM.hd k)).getD 0=d)).map WM.hd).map V.int))) lt=some (.tup (kn.map oV)):=by rw[upd_ne (ne_of_none hlt2 hD)];exact hlt2
      refine⟨_,rfl,_,rfl,_,rfl,lt,_,_,.int b,rfl,rfl,SqT.of hltD,atI_in hadj.2.2.1 (by rw[Lens_get L hadj.2.2.1 hadj.2.2.2.1,hb];rfl),_,_,rfl,rfl,?_⟩
      refine⟨_,rfl,_,rfl,lt,_,_,.int d,rfl,rfl,SqT.of hltD,atI_in hx0 (by rw[Lens_get L hx0 hx1,hd];rfl),rfl,_,rfl,?_⟩
      rw[dec_int']
      have etk:(ms.take (i+1)).filter (fun k=>decide (sl1 k+(fnl kn (WM.hd k)).getD 0=d))=(ms.take i).filter (fun k=>decide (sl1 k+(fnl kn (WM.hd k)).getD 0=d))++(if c+b=d then [[z,c]] else []):=by
       rw[List.take_add_one,hky,List.filter_append]
       show _++List.filter _ [[z,c]]=_
       rw[List.filter_cons]
       have e1:decide (sl1 [z,c]+(fnl kn (WM.hd [z,c])).getD 0=d)=decide (c+b=d):=by
        show decide (c+(fnl kn z).getD 0=d)=_
        rw[hb];rfl
       rw[e1]
       by_cases cc:c+b=d
       . rw[if_pos (by simpa using cc),if_pos cc];rfl
       . rw[if_neg (by simpa using cc),if_neg cc];rfl
      refine ite2 (fun cc=>?_) (fun cc=>?_)
      . have c':=of_decide_eq_true cc
        refine⟨_,rfl,upd_same,?_,upd_upd⟩
        rw[etk,if_pos c',List.map_append,List.map_append];rfl
      . have c':¬ c+b=d:=fun q=>cc (decide_eq_true q)
        refine⟨?_,rfl⟩
        rw[etk,if_neg c',List.append_nil]
    . obtain⟨rfl,rfl⟩:=h
      refine⟨D,_,rfl,.inl ⟨SqL.of upd_same,fun q hq=>?_⟩⟩
      rw[hlz,List.take_of_length_le (Nat.le_refl _)] at hq ⊢
      have s4:=(same_laid (o:=.lst ((((ms.filter fun k=>decide (sl1 k+(fnl kn (WM.hd k)).getD 0=d)).map WM.hd).map V.int))) hD).trans (same_laid (o:=.tup ((((ms.filter fun k=>decide (sl1 k+(fnl kn (WM.hd k)).getD 0=d)).map WM.hd).map V.int))) hq)
      have hk:∀k∈ms,∃y l,k=[y,l]:=fun k hk=>by
       obtain⟨z,c,b,e,_⟩:=near k hk
       exact⟨z,c,e⟩
      have hrise:=heads_rise hrs hk ((hp.map WM.hd).nodup_iff.mpr (fd_heads G x))
      refine k q _ _ (s2.trans s4) upd_same (hrise.sublist (List.filter_sublist.map _)) fun p=>?_
      rw[List.mem_map]
      constructor
      . rintro ⟨k0,hk0,rfl⟩
        obtain⟨hm,c⟩:=List.mem_filter.mp hk0
        obtain⟨z,c0,b,rfl,ha,hb,ib⟩:=near k0 hm
        have c':=of_decide_eq_true c
        have c2:c0+b=d:=by
         have:c0+(fnl kn z).getD 0=d:=c'
         rw[hb] at this;exact this
        exact⟨c0,b,ha,ib,by rw[c2];exact hxD⟩
      . rintro ⟨c0,b,ha,ib,iab⟩
        have hm:[p,c0]∈ms:=hp.mem_iff.mpr (mem_fd.mpr ⟨p,c0,rfl,ha⟩)
        refine⟨[p,c0],List.mem_filter.mpr ⟨hm,decide_eq_true ?_⟩,rfl⟩
        have hadj:=G.adj ha
        have lp:=Len.uniq (L.len p hadj.2.2.1 hadj.2.2.2.1) (show Len ts y p (some b) from WM.IsD.symm ib)
        show c0+(fnl kn p).getD 0=d
        rw[lp]
        exact WM.IsD.uniq iab hxD
end
def RowsAt (H:Hp)(rs:List Addr)(M:List (List (Option Int))):Prop:=rs.length=M.length/\∀(i:Nat)(r:Addr)(row:List (Option Int)),rs[i]? = some r->M[i]? = some row->H r=some (.tup (row.map oV))
theorem RowsAt.smT {H H':Hp}{rs:List Addr}{M:List (List (Option Int))}(h:RowsAt H rs M)(k:SmT H H'):RowsAt H' rs M:=⟨h.1,fun i r row a b=>k.get (h.2 i r row a b) (by intro ps z;cases z)⟩
def spLens (PT:Addr):Sp:=fun vs H Q _=>∃(wa:Addr)(n:Int)(ts:List T3),vs=[.ref wa]/\WebAt H wa n ts/\Tb H PT /\
 ∀(l:Addr)(rs:List Addr)(M:List (List (Option Int)))(H':Hp),SmT H H'->Tb H' PT->H' l=some (.tup (rs.map V.ref))->RowsAt H' rs M->Rows ts n M->Q (.ref l) H'
section
variable {P:Program}{w:World}{K:PySem.W.Frag}{mg:Str->Option Value}{base:Heap}{PT:Addr}
theorem scLens:FnScope ["web"] ["web"] (defScope sLens):=⟨rfl,rfl,rfl,by decide +kernel,rfl,by decide +kernel,by decide +kernel⟩
theorem ok_lens {f fF:Addr}{fd' fdF:FuncData}(F:Fun K "lengths" "lengths" sLens f fd') (FF:Fun K "lengths_from" "lengths_from" sFrom fF fdF) (bF:Binds K fdF ["web", "start"] []) (mF:mg "lengths_from" = some (.ref fF)) (GF:FnOk P w K mg base CX0 3 fF fdF ["web", "start"] (spFrom PT))
 (mRange:mg "range" = none) (mTuple:mg "tuple" = none):FnOk P w K mg base CX0 4 f fd' ["web"] (spLens PT):=by
 refine F.ok scLens (fun vs H Q E h=>?_) (fun cdv A outer s H vs Q E hr h=>?_)
 . obtain⟨wa,n,ts,rfl,_⟩:=h
   rfl
 . obtain⟨wa,n,ts,rfl,W,T,k⟩:=h
   obtain⟨ta,tys,hwa,_,_,G⟩:=id W
   have hn24:=G.n24
   have hn1:=G.n1
   refine⟨_,pss_one (ps_ret (pe_callTy call_tuple_of (by rfl) mTuple (by decide +kernel) (pa_cons
    (pe_comp (own:=["place"]) (cn:=["web"]) (ci:=[0]) rfl (csc rfl rfl) ⟨rfl,rfl,rfl,trivial⟩ rfl
     (pi_range1 rfl mRange (pa_cons (pe_ix ix_tup (pv 0) pe_int (fun _ _=>rfl)) pa_nil)) (fun _ _ _ _=>pg_name (i:=0) (nd_of rfl) rfl (Or.inl rfl)) (fun _ _ _ _=>pts_nil)
     (fun _ _ _ _=>pe_call GF hr rfl mF FF.kp bF .nil pass0 (pa_cons (pv 1) (pa_cons (pv 0) pa_nil)))) pa_nil))),?_⟩
   refine⟨_,rfl,wa,_,_,_,rfl,rfl,SqT.of hwa,rfl,n,rfl,by omega,by omega,[.ref wa],rfl,fun D hD=>?_⟩
   refine comp_range (lo:=0) (n:=n.toNat) (fun q ys H1=>q<=n.toNat/\∃(rs:List Addr)(M:List (List (Option Int))),ys=rs.map V.ref/\rs.length=q/\RowsAt H1 rs M/\(∀x:Nat,x<q->Lens ts n x (M.getD x []))/\SmT H H1/\Tb H1 PT/\H1 D=some (.lst ys))
    ⟨Nat.zero_le _,[],[],rfl,rfl,⟨rfl,fun i r row h=>by simp at h⟩,fun x hx=>absurd hx (Nat.not_lt_zero _),SmT.of (same_laid hD),T.same (same_laid hD),upd_same⟩ (fun q ys H1 h=>?_) (fun q ys H1 hq h=>?_) (fun ys H1 h=>?_)
   . obtain⟨hq,rs,M,rfl,hl,_⟩:=h
     rw[List.length_map,hl]
     exact small_line (by omega)
   . obtain⟨_,rs,M,rfl,hl,R,L,sm,T1,hD1⟩:=h
     rw[Int.zero_add]
     refine⟨⟨rfl,rfl⟩,?_⟩
     refine tyes ?_
     refine⟨_,rfl,_,rfl,wa,n,ts,q,rfl,W.smT sm,by omega,by omega,T1,fun l kn H2 sm2 T2 hl2 L2=>?_⟩
     have hD2:H2 D=some (.lst (rs.map V.ref)):=sm2.get hD1 (by intro ps z;cases z)
     refine⟨hD2,hq,rs++[l],M++[kn],by rw[List.map_append];rfl,by rw[List.length_append,hl];rfl,⟨by rw[List.length_append,List.length_append,R.1];rfl,fun i r row h1 h2=>?_⟩,fun x hx=>?_,(sm.trans sm2).chg hD,T2.chg hD2,upd_same⟩
     . have key:H2 r=some (.tup (row.map oV)):=by
        by_cases hi:i<rs.length
        . rw[List.getElem?_append_left hi] at h1
          rw[List.getElem?_append_left (by rw[<-R.1];exact hi)] at h2
          exact sm2.get (R.2 i r row h1 h2) (by intro ps z;cases z)
        . rw[List.getElem?_append_right (by omega)] at h1
          rw[List.getElem?_append_right (by rw[<-R.1];omega),<-R.1] at h2
          cases hz:i-rs.length with
          | zero=>
           rw[hz] at h1 h2
           have e1:l=r:=by simpa using h1
           have e2:kn=row:=by simpa using h2
           subst e1 e2
           exact hl2
          | succ k=>rw[hz] at h1;simp at h1
       rw[upd_ne (ne_of key hD2 (by intro z;cases z))]
       exact key
     . by_cases hx':x<q
       . rw[List.getD_eq_getElem?_getD,List.getElem?_append_left (by rw[<-R.1,hl];exact hx'),<-List.getD_eq_getElem?_getD]
         exact L x hx'
       . have e:x=q:=by omega
         subst e
         rw[List.getD_eq_getElem?_getD,List.getElem?_append_right (by rw[<-R.1,hl];exact Nat.le_refl _),<-R.1,hl]
         simpa using L2
   . obtain⟨_,rs,M,rfl,hl,R,L,sm,T1,hD1⟩:=h
     refine⟨D,_,rfl,.inl ⟨SqL.of hD1,fun q hq=>?_⟩⟩
     refine k q rs M _ (sm.trans (SmT.of (same_laid hq))) (T1.same (same_laid hq)) upd_same (R.smT (SmT.of (same_laid hq))) ⟨by rw[<-R.1,hl],fun x hx hx'=>?_⟩
     have:=L x.toNat (by omega)
     rw[show ((x.toNat:Nat):Int)=x by omega] at this
     exact this
end
theorem ifT {c:Bool}{p q:Prop}(h:c=true)(hp:p):(if c=true then p else q):=by rw[if_pos h];exact hp
theorem ifF {c:Bool}{p q:Prop}(h:c=false)(hq:q):(if c=true then p else q):=by rw[if_neg (by simp[h])];exact hq
theorem oV_some_ne (a:Int):decide (oV (some a)=V.non)=false:=decide_eq_false (by intro z;cases z)
def spAdd:Sp:=fun vs H Q _=>∃a b:Option Int,vs=[oV a,oV b]/\Q (oV (oadd a b)) H
def spLes:Sp:=fun vs H Q _=>∃a b:Option Int,vs=[oV a,oV b]/\Q (oV (oles a b)) H
def LRows (H:Hp)(rs:List Addr)(M:List (List (Option Int))):Prop:=rs.length=M.length/\rs.Nodup/\∀(i:Nat)(r:Addr)(row:List (Option Int)),rs[i]? = some r->M[i]? = some row->H r=some (.lst (row.map oV))
theorem LRows.keep {H H':Hp}{rs:List Addr}{M:List (List (Option Int))}(h:LRows H rs M)(k:∀b ys,H b=some (.lst ys)->b∈rs->H' b=some (.lst ys)):LRows H' rs M:=⟨h.1,h.2.1,fun i r row a b=>k r _ (h.2.2 i r row a b) (List.mem_of_getElem? a)⟩
theorem LRows.get {H:Hp}{rs:List Addr}{M:List (List (Option Int))}{n a:Int}(h:LRows H rs M)(S:Sqm n M)(ha:0<=a)(ha':a<n):∃r row,rs[a.toNat]? = some r/\M[a.toNat]? = some row/\M.getD a.toNat []=row/\row.length=n.toNat/\H r=some (.lst (row.map oV))/\∀y,fnl row y=mat M a y:=by
 obtain⟨row,h1,h2,h3⟩:=S.row ha ha'
 have hl:a.toNat<rs.length:=by rw[h.1,S.ln];omega
 exact⟨rs[a.toNat],row,List.getElem?_eq_getElem hl,h1,h2,h3,h.2.2 _ _ _ (List.getElem?_eq_getElem hl) h1,fun y=>by unfold mat;rw[if_pos ha,h2]⟩
theorem LRows.set {H:Hp}{rs:List Addr}{M:List (List (Option Int))}{n a b:Int}{v:Option Int}{r:Addr}{row:List (Option Int)}(h:LRows H rs M)(S:Sqm n M)(ha:0<=a)(ha':a<n)(h1:rs[a.toNat]? = some r)(h2:M[a.toNat]? = some row) :
 LRows (upd H r (.lst ((row.map oV).set b.toNat (oV v)))) rs (setm M a b v):=by
 refine⟨by unfold setm;rw[List.length_set];exact h.1,h.2.1,fun i r' row' a1 a2=>?_⟩
 unfold setm at a2
 rw[List.getElem?_set] at a2
 have hlt:a.toNat<M.length:=(List.getElem?_eq_some_iff.mp h2).1
 by_cases e:a.toNat=i
 . subst e
   rw[if_pos rfl,if_pos hlt] at a2
   rw[h1] at a1
   cases a1
   cases a2
   rw[upd_same,List.getD_eq_getElem?_getD,h2,Option.getD_some,List.map_set]
 . rw[if_neg e] at a2
   have hne:r'≠r:=fun z=>by
    subst z
    exact e ((List.getElem?_inj ((List.getElem?_eq_some_iff.mp h1).1) h.2.1).mp (h1.trans a1.symm))
   rw[upd_ne hne]
   exact h.2.2 i r' row' a1 a2
theorem row_at {row:List (Option Int)}{n y:Int}(hl:row.length=n.toNat)(h0:0<=y)(h1:y<n):atI (row.map oV) y=some (oV (fnl row y)):=by
 have hlt:y.toNat<row.length:=by omega
 refine atI_in h0 ?_
 rw[List.getElem?_map,List.getElem?_eq_getElem hlt]
 unfold fnl
 rw[if_pos h0,List.getD_eq_getElem?_getD,List.getElem?_eq_getElem hlt];rfl
def rowI (a:Int)(j:Nat):List (Option Int):=(List.range j).map fun (b:Nat)=>if a=(b:Int) then some 0 else none
theorem rowI_succ (a:Int)(j:Nat):rowI a (j+1)=rowI a j++[if a=(j:Int) then some 0 else none]:=by unfold rowI;rw[List.range_succ,List.map_append];rfl
theorem rowI_len (a:Int)(j:Nat):(rowI a j).length=j:=by unfold rowI;rw[List.length_map,List.length_range]
theorem rowI_get {a:Int}{j:Nat}{y:Int}(h0:0<=y)(h1:y<j):fnl (rowI a j) y=if a=y then some 0 else none:=by
 unfold fnl rowI
 rw[if_pos h0,List.getD_eq_getElem?_getD,List.getElem?_map,List.getElem?_range (by omega)]
 show (if a=((y.toNat:Nat):Int) then some 0 else none)=_
 rw[show ((y.toNat:Nat):Int)=y by omega]
def spFar:Sp:=fun vs H Q _=>∃(wa:Addr)(n:Int)(ts:List T3),vs=[.ref wa]/\WebAt H wa n ts /\
 ∀(fl:Addr)(rs:List Addr)(M:List (List (Option Int)))(H':Hp),Same H H'->H' fl=some (.lst (rs.map V.ref))->LRows H' rs M->Rows ts n M->Q (.ref fl) H'
section
variable {P:Program}{w:World}{K:PySem.W.Frag}{mg:Str->Option Value}{base:Heap}
theorem scAdd:FnScope ["_law_one", "_law_other"] ["_law_one", "_law_other"] (defScope sAdd):=⟨rfl,rfl,rfl,by decide +kernel,rfl,by decide +kernel,by decide +kernel⟩
theorem ok_add {f:Addr}{fd':FuncData}(F:Fun K "_law_added" "_law_added" sAdd f fd'):FnOk P w K mg base CX0 1 f fd' ["_law_one", "_law_other"] spAdd:=by
 refine F.ok scAdd (fun vs H Q E h=>?_) (fun cdv A outer s H vs Q E hr h=>?_)
 . obtain⟨a,b,rfl,_⟩:=h
   rfl
 . obtain⟨a,b,rfl,k⟩:=h
   refine⟨_,pss_one (ps_ret (pe_ifExp (PW.pt (pw_or (pt_cmpR op_isN (pv 0) pe_non (nomark _)) (pw_or1 (pt_cmpR op_isN (pv 1) pe_non (nomark _))))) pe_non (pe_op op_add (pv 0) (pv 1)))),?_⟩
   cases a with
   | none=>exact⟨_,rfl,rfl,_,rfl,ifT (decide_eq_true rfl) (ifT rfl k)⟩
   | some a=>
    refine⟨_,rfl,rfl,_,rfl,ifF (oV_some_ne a) ?_⟩
    cases b with
    | none=>exact⟨_,rfl,rfl,_,rfl,ifT (decide_eq_true rfl) k⟩
    | some b=>exact⟨_,rfl,rfl,_,rfl,ifF (oV_some_ne b) ⟨_,rfl,_,rfl,a,b,rfl,rfl,k⟩⟩
theorem scLes:FnScope ["_law_one", "_law_other"] ["_law_one", "_law_other"] (defScope sLes):=⟨rfl,rfl,rfl,by decide +kernel,rfl,by decide +kernel,by decide +kernel⟩
theorem ok_les {f:Addr}{fd':FuncData}(F:Fun K "_law_lesser" "_law_lesser" sLes f fd') (mMin:mg "min" = none):FnOk P w K mg base CX0 1 f fd' ["_law_one", "_law_other"] spLes:=by
 refine F.ok scLes (fun vs H Q E h=>?_) (fun cdv A outer s H vs Q E hr h=>?_)
 . obtain⟨a,b,rfl,_⟩:=h
   rfl
 . obtain⟨a,b,rfl,k⟩:=h
   refine⟨_,pss_cons (ps_if (PW.pt (pw_or (pt_cmpR op_isN (pv 0) pe_non (nomark _)) (pw_or1 (pt_cmpR op_isN (pv 1) pe_non (nomark _))))) (pss_one (ps_ret (pe_ifExp (pt_cmpR op_isN (pv 0) pe_non (nomark _)) (pv 1) (pv 0)))) pss_nil)
    (pss_one (ps_ret (pe_callB (call_min2 rfl) (by rfl) mMin (by decide +kernel) (pa_cons (pv 0) (pa_cons (pv 1) pa_nil))))),?_⟩
   cases a with
   | none=>exact⟨_,rfl,rfl,_,rfl,ifT (decide_eq_true rfl) (ifT rfl ⟨_,rfl,rfl,_,rfl,ifT (decide_eq_true rfl) ⟨_,rfl,k⟩⟩)⟩
   | some a=>
    refine⟨_,rfl,rfl,_,rfl,ifF (oV_some_ne a) ?_⟩
    cases b with
    | none=>exact⟨_,rfl,rfl,_,rfl,ifT (decide_eq_true rfl) ⟨_,rfl,rfl,_,rfl,ifF (oV_some_ne a) ⟨_,rfl,k⟩⟩⟩
    | some b=>exact⟨_,rfl,rfl,_,rfl,ifF (oV_some_ne b) ⟨_,rfl,_,rfl,a,b,rfl,k⟩⟩
theorem scFar:FnScope ["_law_web_here", "_law_n_here", "_law_ties", "_law_far_here", "_law_a", "_law_b", "_law_long", "_law_k", "_law_way"] ["_law_web_here"] (defScope sFar):=⟨rfl,rfl,rfl,by decide +kernel,rfl,by decide +kernel,by decide +kernel⟩
theorem ok_far {f fA fL:Addr}{fd' fdA fdL:FuncData}(F:Fun K "_law_far" "_law_far" sFar f fd') (FA:Fun K "_law_added" "_law_added" sAdd fA fdA) (bA:Binds K fdA ["_law_one", "_law_other"] []) (mA:mg "_law_added" = some (.ref fA))
 (FL:Fun K "_law_lesser" "_law_lesser" sLes fL fdL) (bL:Binds K fdL ["_law_one", "_law_other"] []) (mL:mg "_law_lesser" = some (.ref fL)) (mRange:mg "range" = none) (mMin:mg "min" = none):FnOk P w K mg base CX0 2 f fd' ["_law_web_here"] spFar:=by
 have GA:FnOk P w K mg base CX0 1 fA fdA ["_law_one", "_law_other"] spAdd:=ok_add FA
 have GL:FnOk P w K mg base CX0 1 fL fdL ["_law_one", "_law_other"] spLes:=ok_les FL mMin
 refine F.ok scFar (fun vs H Q E h=>?_) (fun cdv A outer s H vs Q E hr h=>?_)
 . obtain⟨wa,n,ts,rfl,_⟩:=h
   rfl
 . obtain⟨wa,n,ts,rfl,W,k⟩:=h
   obtain⟨ta,tys,hwa,hta,TA,G⟩:=id W
   have hn1:=G.n1
   have hn24:=G.n24
   refine⟨_,pss_cons (ps_asg (pv 0) (pg_tup rfl (pgs_cons (pg_name (i:=1) scFar.nd rfl (Or.inr rfl)) (pgs_cons (pg_name (i:=2) scFar.nd rfl (Or.inl rfl)) pgs_nil))))
    (pss_cons (ps_setC1 (yc := "_law_a") (i:=3) (own:=["_law_a"]) (cn:=["_law_n_here"]) (ci:=[1]) scFar.nd rfl (Or.inl rfl) rfl (csc1 rfl (fun _ _=>rfl) rfl rfl) ⟨rfl,rfl,rfl,trivial⟩ rfl
     (pi_range1 rfl mRange (pa_cons (pv 1) pa_nil)) (fun _ _ _ _=>pg_name (i:=0) (nd_of rfl) rfl (Or.inr rfl)) (fun _ _ _ _=>pts_nil)
     (fun _ _ _ _=>pe_comp (own:=["_law_b"]) (cn:=["_law_a"]) (ci:=[0]) rfl (csc rfl rfl) ⟨rfl,rfl,rfl,trivial⟩ rfl
      (pi_range1 rfl mRange (pa_cons (pv 1) pa_nil)) (fun _ _ _ _=>pg_name (i:=0) (nd_of rfl) rfl (Or.inl rfl)) (fun _ _ _ _=>pts_nil)
      (fun _ _ _ _=>pe_ifExp (pt_cmpR op_eq (pv 1) (pv 0) (nomark _)) pe_int pe_non)))
    (pss_cons (ps_for PassesOwn.never rfl (pi_tup (pv 2)) (pg_tup rfl (pgs_cons (pg_name (i:=4) scFar.nd rfl (Or.inl rfl)) (pgs_cons (pg_name (i:=5) scFar.nd rfl (Or.inl rfl)) (pgs_cons (pg_name (i:=6) scFar.nd rfl (Or.inl rfl)) pgs_nil))))
     (pss_cons (ps_asg (pv 6) (pg_sub (pe_ix ix_list (pv 3) (pv 4) (fun _ _=>rfl)) (pv 5) set_list))
     (pss_one (ps_asg (pv 6) (pg_sub (pe_ix ix_list (pv 3) (pv 5) (fun _ _=>rfl)) (pv 4) set_list)))))
    (pss_cons (ps_for PassesOwn.never rfl (pi_range1 rfl mRange (pa_cons (pv 1) pa_nil)) (pg_name (i:=7) scFar.nd rfl (Or.inl rfl))
     (pss_one (ps_for PassesOwn.never rfl (pi_range1 rfl mRange (pa_cons (pv 1) pa_nil)) (pg_name (i:=4) scFar.nd rfl (Or.inl rfl))
      (pss_one (ps_for PassesOwn.never rfl (pi_range1 rfl mRange (pa_cons (pv 1) pa_nil)) (pg_name (i:=5) scFar.nd rfl (Or.inl rfl))
       (pss_cons (ps_set (i:=8) scFar.nd rfl (Or.inl rfl) (pe_call GA hr rfl mA FA.kp bA .nil pass0 (pa_cons (pe_ix ix_list (pe_ix ix_list (pv 3) (pv 4) (fun _ _=>rfl)) (pv 7) (fun _ _=>rfl)) (pa_cons (pe_ix ix_list (pe_ix ix_list (pv 3) (pv 7) (fun _ _=>rfl)) (pv 5) (fun _ _=>rfl)) pa_nil))))
       (pss_one (ps_asg (pe_call GL hr rfl mL FL.kp bL .nil pass0 (pa_cons (pe_ix ix_list (pe_ix ix_list (pv 3) (pv 4) (fun _ _=>rfl)) (pv 5) (fun _ _=>rfl)) (pa_cons (pv 8) pa_nil))) (pg_sub (pe_ix ix_list (pv 3) (pv 4) (fun _ _=>rfl)) (pv 5) set_list)))))))))
    (pss_one (ps_ret (pv 3)))))),?_⟩
   refine⟨_,rfl,wa,_,rfl,SqT.of hwa,rfl,_,_,rfl,_,_,rfl,rfl,?_⟩
   refine⟨_,rfl,n,rfl,by omega,by omega,[.int n],rfl,fun D hD=>?_⟩
   refine comp_range (lo:=0) (n:=n.toNat) (fun q ys H1=>q<=n.toNat/\∃(rs:List Addr)(M:List (List (Option Int))),ys=rs.map V.ref/\rs.length=q/\LRows H1 rs M/\(∀x:Nat,x<q->M[x]? = some (rowI x n.toNat))/\(∀r∈rs,H r=none/\r≠D)/\Same H H1/\H1 D=some (.lst ys))
    ⟨Nat.zero_le _,[],[],rfl,rfl,⟨rfl,List.nodup_nil,fun i r row h=>by simp at h⟩,fun x hx=>absurd hx (Nat.not_lt_zero _),fun r h=>by simp at h,same_laid hD,upd_same⟩ (fun q ys H1 h=>?_) (fun q ys H1 hq h=>?_) (fun ys H1 h=>?_)
   . obtain⟨hq,rs,M,rfl,hl,_⟩:=h
     rw[List.length_map,hl]
     exact small_line (by omega)
   . obtain⟨_,rs,M,rfl,hl,R,L,fr,sm,hD1⟩:=h
     rw[Int.zero_add]
     refine⟨⟨rfl,rfl⟩,?_⟩
     refine tyes ?_
     refine⟨_,rfl,n,rfl,by omega,by omega,[.int q],rfl,fun D2 hD2=>?_⟩
     have nD2:D2≠D:=fun z=>by rw[z,hD1] at hD2;cases hD2
     refine comp_range (lo:=0) (n:=n.toNat) (fun j ys H2=>j<=n.toNat/\ys=(rowI q j).map oV/\Same H1 H2/\H2 D2=some (.lst ys))
      ⟨Nat.zero_le _,rfl,same_laid hD2,upd_same⟩ (fun j ys H2 h=>?_) (fun j ys H2 hj h=>?_) (fun ys H2 h=>?_)
     . obtain⟨hj,rfl,_⟩:=h
       rw[List.length_map,rowI_len]
       exact small_line (by omega)
     . obtain⟨_,rfl,s2,h2⟩:=h
       rw[Int.zero_add]
       refine⟨⟨rfl,rfl⟩,?_⟩
       refine tyes ?_
       refine⟨_,rfl,_,rfl,rfl,_,rfl,?_⟩
       by_cases e:(q:Int)=(j:Int)
       . refine ifT (decide_eq_true (congrArg V.int e)) ?_
         refine⟨h2,hj,?_,same_chg s2 hD2,upd_same⟩
         rw[rowI_succ,if_pos e,List.map_append];rfl
       . refine ifF (decide_eq_false fun z=>e (V.int.inj z)) ?_
         refine⟨h2,hj,?_,same_chg s2 hD2,upd_same⟩
         rw[rowI_succ,if_neg e,List.map_append];rfl
     . obtain⟨_,rfl,s2,h2⟩:=h
       have hD22:H2 D=some (.lst (rs.map V.ref)):=s2 _ _ hD1
       have frD2:H D2=none:=by
        cases z:H D2 with
        | none=>rfl
        | some o=>rw[sm _ _ z] at hD2;cases hD2
       have nin:D2∉rs:=fun z=>by
        obtain⟨i,hi,e⟩:=List.getElem_of_mem z
        have hM:i<M.length:=by rw[<-R.1];exact hi
        have:=R.2.2 i D2 M[i] (by rw[List.getElem?_eq_getElem hi,e]) (List.getElem?_eq_getElem hM)
        rw[hD2] at this;cases this
       refine⟨hD22,hq,rs++[D2],M++[rowI q n.toNat],by rw[List.map_append];rfl,by rw[List.length_append,hl];rfl,⟨by rw[List.length_append,List.length_append,R.1];rfl,?_,fun i r row h1 h3=>?_⟩,fun x hx=>?_,fun r hr'=>?_,same_chg (sm.trans s2) hD,upd_same⟩
       . exact List.nodup_append.mpr ⟨R.2.1,by simp,fun a ha b hb=>by
          have e:b=D2:=by simpa using hb
          rw[e];exact fun z=>nin (z ▸ ha)⟩
       . have key:H2 r=some (.lst (row.map oV))/\r≠D:=by
          by_cases hi:i<rs.length
          . rw[List.getElem?_append_left hi] at h1
            rw[List.getElem?_append_left (by rw[<-R.1];exact hi)] at h3
            exact⟨s2 _ _ (R.2.2 i r row h1 h3),(fr r (List.mem_of_getElem? h1)).2⟩
          . rw[List.getElem?_append_right (by omega)] at h1
            rw[List.getElem?_append_right (by rw[<-R.1];omega),<-R.1] at h3
            cases hz:i-rs.length with
            | zero=>
             rw[hz] at h1 h3
             have e1:D2=r:=by simpa using h1
             have e2:rowI q n.toNat=row:=by simpa using h3
             subst e1 e2
             exact⟨h2,nD2⟩
            | succ k=>rw[hz] at h1;simp at h1
         rw[upd_ne key.2]
         exact key.1
       . by_cases hx':x<q
         . rw[List.getElem?_append_left (by rw[<-R.1,hl];exact hx')]
           exact L x hx'
         . have e:x=q:=by omega
           subst e
           rw[List.getElem?_append_right (by rw[<-R.1,hl];exact Nat.le_refl _),<-R.1,hl]
           simp
       . rcases List.mem_append.mp hr' with z | z
         . exact fr r z
         . have e:r=D2:=by simpa using z
           rw[e];exact⟨frD2,nD2⟩
   . obtain⟨_,rs,M,rfl,hl,R,L,fr,sm,hD1⟩:=h
     have hML:M.length=n.toNat:=by rw[<-R.1,hl]
     have S0:Sqm n M:=⟨hML,fun r hr'=>by
      obtain⟨i,hi,e⟩:=List.getElem_of_mem hr'
      have:=L i (by omega)
      rw[List.getElem?_eq_getElem hi,e] at this
      rw[Option.some.inj this,rowI_len]⟩
     have M0:∀x y,0<=x->x<n->0<=y->y<n->mat M x y=if x=y then some 0 else none:=fun x y hx hx' hy hy'=>by
      unfold mat
      rw[if_pos hx,List.getD_eq_getElem?_getD,L x.toNat (by omega),Option.getD_some,rowI_get hy (by omega),show ((x.toNat:Nat):Int)=x by omega]
     have wr:∀{H2:Hp}{r:Addr}{o:HO},r∈rs->Same H H2->Same H (upd H2 r o):=fun {H2 r o} hr' s2=>same_chg s2 (fr r hr').1
     have wD:∀{H2:Hp}{r:Addr}{o:HO},r∈rs->H2 D=some (.lst (rs.map V.ref))->(upd H2 r o) D=some (.lst (rs.map V.ref)):=fun {H2 r o} hr' e=>by rw[upd_ne (fr r hr').2.symm];exact e
     refine⟨_,rfl,ta,rfl,⟨_,SqT.of (sm _ _ hta)⟩,for_tup (K:=K) (a:=ta) (xs:=tys)
      (fun i σ H2=>∃(v4 v5 v6 v7 v8:Option V)(M:List (List (Option Int))),σ=[some (.ref wa),some (.int n),some (.ref ta),some (.ref D),v4,v5,v6,v7,v8]/\Same H H2/\H2 D=some (.lst (rs.map V.ref))/\LRows H2 rs M/\Sqm n M/\Ft (ts.take i) n (mat M))
      ⟨_,_,_,_,_,M,rfl,sm,hD1,R,S0,by rw[List.take_zero];exact Ft.nil n M0⟩ (fun i σ H2 _ ⟨_,_,_,_,_,_,_,s,_⟩=>SqT.of (s _ _ hta)) ?turn1 ?after1⟩
     case turn1=>
      rintro i y σ H2 hi ⟨v4,v5,v6,v7,v8,M2,rfl,s2,hD2,R2,S2,T2⟩
      obtain⟨ya,ky,rfl,hky,hya,_⟩:=TA.get hi
      rw[List.getElem?_map] at hky
      obtain⟨⟨a,b,c⟩,hti,rfl⟩:∃t:T3,ts[i]? = some t/\tl t=ky:=by
       cases e:ts[i]? with
       | none=>rw[e] at hky;cases hky
       | some t=>rw[e] at hky;exact⟨t,rfl,Option.some.inj hky⟩
      have hm:=List.mem_of_getElem? hti
      have hr3:=G.rng _ hm
      simp only at hr3
      obtain⟨ra,rowa,a1,a2,a3,a4,a5,_⟩:=R2.get S2 (a:=a) (by omega) (by omega)
      have ma:=List.mem_of_getElem? a1
      refine⟨ya,_,rfl,SqT.of (s2 _ _ hya),rfl,_,_,rfl,_,_,rfl,_,_,rfl,rfl,?_⟩
      refine⟨_,rfl,_,rfl,_,rfl,D,_,_,.ref ra,rfl,rfl,SqL.of hD2,atI_in (by omega) (by rw[List.getElem?_map,a1];rfl),_,rfl,ra,_,b,b.toNat,rfl,rfl,a5,ixN_in (by omega) (by rw[List.length_map,a4];omega),?_⟩
      have R3:LRows (upd H2 ra (.lst ((rowa.map oV).set b.toNat (.int c)))) rs (setm M2 a b (some c)):=R2.set S2 (v:=some c) (by omega) (by omega) a1 a2
      have S3:Sqm n (setm M2 a b (some c)):=S2.set (by omega) (by omega)
      have s3:=wr (o:=.lst ((rowa.map oV).set b.toNat (.int c))) ma s2
      have hD3:=wD (o:=.lst ((rowa.map oV).set b.toNat (.int c))) ma hD2
      generalize upd H2 ra (.lst ((rowa.map oV).set b.toNat (.int c)))=H3 at R3 s3 hD3 ⊢
      obtain⟨rb,rowb,b1,b2,b3,b4,b5,_⟩:=R3.get S3 (a:=b) (by omega) (by omega)
      have mb:=List.mem_of_getElem? b1
      refine⟨_,rfl,_,rfl,_,rfl,D,_,_,.ref rb,rfl,rfl,SqL.of hD3,atI_in (show 0<=b by omega) (by rw[List.getElem?_map,b1];rfl),_,rfl,rb,_,a,a.toNat,rfl,rfl,b5,ixN_in (by omega) (by rw[List.length_map,b4];omega),?_⟩
      have R4:LRows (upd H3 rb (.lst ((rowb.map oV).set a.toNat (.int c)))) rs (setm (setm M2 a b (some c)) b a (some c)):=R3.set S3 (v:=some c) (by omega) (by omega) b1 b2
      refine⟨_,_,_,_,_,_,rfl,wr mb s3,wD mb hD3,R4,S3.set (by omega) (by omega),?_⟩
      have hsp:ts=ts.take i++(a,b,c)::ts.drop (i+1):=by
       have hil:=(List.getElem?_eq_some_iff.mp hti)
       conv=>lhs;rw[<-List.take_append_drop i ts,List.drop_eq_getElem_cons hil.1,hil.2]
      have htk:ts.take (i+1)=ts.take i++[(a,b,c)]:=by rw[List.take_add_one,hti];rfl
      rw[htk]
      refine (Ft.put (post:=ts.drop (i+1)) (by rw[<-hsp];exact G) T2).congr fun x y hx hx' hy hy'=>?_
      rw[mat_set S3 (by omega) (by omega) (by omega) (by omega) hx hx',mat_set S2 (by omega) (by omega) (by omega) (by omega) hx hx']
     case after1=>
      rintro σ H2 ⟨v4,v5,v6,v7,v8,M2,rfl,s2,hD2,R2,S2,T2⟩
      have hlt:tys.length=ts.length:=by rw[TA.length,List.length_map]
      rw[hlt,List.take_length] at T2
      have FC:=T2.fw G
      refine⟨_,rfl,n,rfl,by omega,by omega,for_range (lo:=0) (n:=n.toNat)
       (fun kk σ H3=>∃(v4 v5 v6 v7 v8:Option V)(M:List (List (Option Int))),σ=[some (.ref wa),some (.int n),some (.ref ta),some (.ref D),v4,v5,v6,v7,v8]/\Same H H3/\H3 D=some (.lst (rs.map V.ref))/\LRows H3 rs M/\Sqm n M/\Fw ts n (mat M)/\Cov ts n (kk:Int) (mat M))
       ⟨_,_,_,_,_,M2,rfl,s2,hD2,R2,S2,FC.1,FC.2⟩ ?turn2 ?after2⟩
      case after2=>
       rintro σ H3 ⟨v4,v5,v6,v7,v8,M3,rfl,s3,hD3,R3,S3,f3,c3⟩
       rw[show ((n.toNat:Nat):Int)=n by omega] at c3
       exact⟨_,rfl,k D rs M3 H3 s3 hD3 R3 (rows_of G S3 f3 c3)⟩
      case turn2=>
       rintro kk σ H3 hkk ⟨v4,v5,v6,v7,v8,M3,rfl,s3,hD3,R3,S3,f3,c3⟩
       rw[Int.zero_add]
       refine⟨_,rfl,n,rfl,by omega,by omega,for_range (lo:=0) (n:=n.toNat)
        (fun aa σ H4=>∃(v4 v5 v6 v8:Option V)(M:List (List (Option Int))),σ=[some (.ref wa),some (.int n),some (.ref ta),some (.ref D),v4,v5,v6,some (.int (kk:Int)),v8]/\Same H H4/\H4 D=some (.lst (rs.map V.ref))/\LRows H4 rs M/\Sqm n M/\Fm ts n (kk:Int) (mat M) (fun x _=>x<(aa:Int)))
        ⟨_,_,_,_,M3,rfl,s3,hD3,R3,S3,(Fm.enter f3 c3).congr (fun _ _ _ _ _ _=>rfl) fun x y hx _ _ _ z=>by omega⟩ ?turn3 ?after3⟩
       case after3=>
        rintro σ H4 ⟨v4,v5,v6,v8,M4,rfl,s4,hD4,R4,S4,F4⟩
        have fc:=F4.leave fun x y _ hx' _ _=>by omega
        exact⟨_,_,_,_,_,M4,rfl,s4,hD4,R4,S4,fc.1,fc.2⟩
       case turn3=>
        rintro aa σ H4 haa ⟨v4,v5,v6,v8,M4,rfl,s4,hD4,R4,S4,F4⟩
        rw[Int.zero_add]
        refine⟨_,rfl,n,rfl,by omega,by omega,for_range (lo:=0) (n:=n.toNat)
         (fun bb σ H5=>∃(v5 v6 v8:Option V)(M:List (List (Option Int))),σ=[some (.ref wa),some (.int n),some (.ref ta),some (.ref D),some (.int (aa:Int)),v5,v6,some (.int (kk:Int)),v8]/\Same H H5/\H5 D=some (.lst (rs.map V.ref))/\LRows H5 rs M/\Sqm n M/\Fm ts n (kk:Int) (mat M) (fun x y=>x<(aa:Int)\/(x=(aa:Int)/\y<(bb:Int))))
         ⟨_,_,_,M4,rfl,s4,hD4,R4,S4,F4.congr (fun _ _ _ _ _ _=>rfl) fun x y _ _ hy _ z=>by omega⟩ ?turn4 ?after4⟩
        case after4=>
         rintro σ H5 ⟨v5,v6,v8,M5,rfl,s5,hD5,R5,S5,F5⟩
         exact⟨_,_,_,_,M5,rfl,s5,hD5,R5,S5,F5.congr (fun _ _ _ _ _ _=>rfl) fun x y _ _ _ hy' z=>by omega⟩
        case turn4=>
         rintro bb σ H5 hbb ⟨v5,v6,v8,M5,rfl,s5,hD5,R5,S5,F5⟩
         rw[Int.zero_add]
         obtain⟨ra,rowa,a1,a2,a3,a4,a5,a6⟩:=R5.get S5 (a:=(aa:Int)) (by omega) (by omega)
         obtain⟨rk,rowk,k1,k2,k3,k4,k5,k6⟩:=R5.get S5 (a:=(kk:Int)) (by omega) (by omega)
         have ma:=List.mem_of_getElem? a1
         refine⟨_,rfl,_,rfl,D,_,_,.ref ra,rfl,rfl,SqL.of hD5,atI_in (by omega) (by rw[List.getElem?_map,a1];rfl),_,rfl,ra,_,_,_,rfl,rfl,SqL.of a5,row_at a4 (by omega) (by omega),?_⟩
         refine⟨_,rfl,_,rfl,D,_,_,.ref rk,rfl,rfl,SqL.of hD5,atI_in (by omega) (by rw[List.getElem?_map,k1];rfl),_,rfl,rk,_,_,_,rfl,rfl,SqL.of k5,row_at k4 (by omega) (by omega),?_⟩
         refine⟨_,_,rfl,?_⟩
         refine⟨_,rfl,_,rfl,D,_,_,.ref ra,rfl,rfl,SqL.of hD5,atI_in (by omega) (by rw[List.getElem?_map,a1];rfl),_,rfl,ra,_,_,_,rfl,rfl,SqL.of a5,row_at a4 (by omega) (by omega),?_⟩
         refine⟨_,rfl,_,_,rfl,?_⟩
         refine⟨_,rfl,_,rfl,D,_,_,.ref ra,rfl,rfl,SqL.of hD5,atI_in (by omega) (by rw[List.getElem?_map,a1];rfl),_,rfl,ra,_,_,(bb:Int).toNat,rfl,rfl,a5,ixN_in (by omega) (by rw[List.length_map,a4];omega),?_⟩
         refine⟨_,_,_,_,rfl,wr ma s5,wD ma hD5,R5.set S5 (by omega) (by omega) a1 a2,S5.set (by omega) (by omega),?_⟩
         refine (Fm.step G F5 (a:=(aa:Int)) (b:=(bb:Int)) (by omega) (by omega) (by omega) (by omega) (by omega) (by omega)).congr (fun x y hx hx' hy hy'=>?_) fun x y _ _ _ _ z=>by omega
         rw[mat_set S5 (by omega) (by omega) (by omega) (by omega) hx hx',a6,a6,k6]
end
def PD (ts:List T3)(kvs:List (List Key×V)):Prop:=∀x y:Int,(∀l,valV kvs [Sum.inl x,Sum.inl y]=some (.int l)↔Adj ts x y l)/\∀v,valV kvs [Sum.inl x,Sum.inl y]=some v->∃l,v = .int l
theorem PD.nil:PD [] []:=fun x y=>⟨fun l=>by simp[valV_nil,Adj],fun v h=>by simp[valV_nil] at h⟩
theorem pair_eq {x y a b:Int}:([Sum.inl x,Sum.inl y]:List Key)=[Sum.inl a,Sum.inl b]↔x=a/\y=b:=by simp
theorem PD.put {n:Int}{ts pre:List T3}{a b c:Int}{post:List T3}(g:GW n ts)(e:ts=pre++(a,b,c)::post){kvs:List (List Key×V)}(h:PD pre kvs):PD (pre++[(a,b,c)]) (putK (putK kvs [Sum.inl a,Sum.inl b] (.int c)) [Sum.inl b,Sum.inl a] (.int c)):=by
 have hin:(a,b,c)∈ts:=by rw[e];simp
 have hab:=(g.rng _ hin).2.1
 simp only at hab
 have sub:∀ {x y l},Adj (pre++[(a,b,c)]) x y l->Adj ts x y l:=fun h=>by
  rw[e]
  rcases h with h | h
  . refine .inl ?_
    rcases List.mem_append.mp h with q | q
    . exact List.mem_append_left _ q
    . rw[List.mem_singleton.mp q];simp
  . refine .inr ?_
    rcases List.mem_append.mp h with q | q
    . exact List.mem_append_left _ q
    . rw[List.mem_singleton.mp q];simp
 have new:Adj (pre++[(a,b,c)]) a b c:=.inl (by simp)
 intro x y
 rw[valV_put,valV_put]
 by_cases h1:x=b/\y=a
 . obtain⟨rfl,rfl⟩:=h1
   rw[if_pos rfl]
   refine⟨fun l=>⟨fun hl=>?_,fun ha=>?_⟩,fun v hv=>⟨c,(Option.some.inj hv).symm⟩⟩
   . have:c=l:=by have:=Option.some.inj hl;injection this
     subst this
     exact new.symm
   . rw[g.uniq (sub ha) (sub new.symm)]
 . rw[if_neg (fun z=>h1 (pair_eq.mp z))]
   by_cases h2:x=a/\y=b
   . obtain⟨rfl,rfl⟩:=h2
     rw[if_pos rfl]
     refine⟨fun l=>⟨fun hl=>?_,fun ha=>?_⟩,fun v hv=>⟨c,(Option.some.inj hv).symm⟩⟩
     . have:c=l:=by have:=Option.some.inj hl;injection this
       subst this
       exact new
     . rw[g.uniq (sub ha) (sub new)]
   . rw[if_neg (fun z=>h2 (pair_eq.mp z))]
     refine⟨fun l=>?_,(h x y).2⟩
     rw[(h x y).1 l]
     constructor
     . rintro (q | q)
       . exact .inl (List.mem_append_left _ q)
       . exact .inr (List.mem_append_left _ q)
     . rintro (q | q)
       . rcases List.mem_append.mp q with q | q
         . exact .inl q
         . exfalso
           have:=List.mem_singleton.mp q
           injection this with q1 q2
           injection q2 with q2 q3
           exact h2 ⟨q1,q2⟩
       . rcases List.mem_append.mp q with q | q
         . exact .inr q
         . exfalso
           have:=List.mem_singleton.mp q
           injection this with q1 q2
           injection q2 with q2 q3
           exact h1 ⟨q2,q1⟩
theorem PD.some {ts:List T3}{kvs:List (List Key×V)}(h:PD ts kvs)(x y:Int):(valV kvs [Sum.inl x,Sum.inl y]).isSome=true↔∃l,Adj ts x y l:=by
 constructor
 . intro hs
   obtain⟨v,hv⟩:=Option.isSome_iff_exists.mp hs
   obtain⟨l,rfl⟩:=(h x y).2 v hv
   exact⟨l,((h x y).1 l).mp hv⟩
 . rintro ⟨l,ha⟩
   rw[((h x y).1 l).mpr ha]
   rfl
theorem scal_oV (a b:Option Int):scal (oV a) (oV b)=true:=by cases a <;> cases b <;> rfl
theorem oV_none_eq:decide (oV none=V.non)=true:=decide_eq_true rfl
theorem dec_oV (a b:Option Int):decide (oV a=oV b)=decide (a=b):=decide_eq_decide.mpr ⟨fun h=>by
 cases a with
 | none=>
  cases b with
  | none=>rfl
  | some b=>cases h
 | some a=>
  cases b with
  | none=>cases h
  | some b=>rw[V.int.inj h],fun h=>by rw[h]⟩
def FarAt (H:Hp)(fl:Addr)(n:Int)(ts:List T3)(M:List (List (Option Int))):Prop:=∃rs:List Addr,H fl=some (.lst (rs.map V.ref))/\LRows H rs M/\Rows ts n M
theorem rows_sq {n:Int}{ts:List T3}{M:List (List (Option Int))}(R:Rows ts n M):Sqm n M:=⟨R.1,fun r hr=>by
 obtain⟨i,hi,e⟩:=List.getElem_of_mem hr
 have h1:=R.1
 have:=(R.2 (i:Int) (by omega) (by omega)).ln
 rw[Int.toNat_natCast,List.getD_eq_getElem?_getD,List.getElem?_eq_getElem hi,Option.getD_some,e] at this
 exact this⟩
theorem FarAt.keep {H H':Hp}{fl:Addr}{n:Int}{ts:List T3}{M:List (List (Option Int))}(h:FarAt H fl n ts M)(k:∀b ys,H b=some (.lst ys)->H' b=some (.lst ys)):FarAt H' fl n ts M:=by
 obtain⟨rs,a,b,c⟩:=h
 exact⟨rs,k _ _ a,b.keep fun b ys e _=>k b ys e,c⟩
theorem FarAt.get {H:Hp}{fl:Addr}{n:Int}{ts:List T3}{M:List (List (Option Int))}(h:FarAt H fl n ts M){x y:Int}(hx:0<=x)(hx':x<n)(hy:0<=y)(hy':y<n) :
 ∃(rs:List V)(r:Addr)(row:List V),H fl=some (.lst rs)/\atI rs x=some (.ref r)/\H r=some (.lst row)/\atI row y=some (oV (mat M x y))/\Len ts x y (mat M x y):=by
 obtain⟨rs,a,b,c⟩:=h
 obtain⟨r,row,e1,e2,e3,e4,e5,e6⟩:=b.get (rows_sq c) hx hx'
 have L:=c.2 x hx hx'
 rw[e3] at L
 refine⟨_,r,_,a,atI_in hx (by rw[List.getElem?_map,e1];rfl),e5,?_,?_⟩
 . rw[<-e6];exact row_at e4 hy hy'
 . rw[<-e6];exact L.len y hy hy'
def onB (M:List (List (Option Int)))(p x y:Int):Bool:=match mat M x y with
 | none=>false
 | some d=>decide (oadd (mat M x p) (mat M p y)=some d)
theorem onB_iff {H:Hp}{fl:Addr}{n:Int}{ts:List T3}{M:List (List (Option Int))}(h:FarAt H fl n ts M){p x y:Int}(hp:0<=p)(hp':p<n)(hx:0<=x)(hx':x<n)(hy:0<=y)(hy':y<n):onB M p x y=true↔Btw ts x y p:=by
 obtain⟨_,_,_,_,_,_,_,l1⟩:=h.get hx hx' hy hy'
 obtain⟨_,_,_,_,_,_,_,l2⟩:=h.get hx hx' hp hp'
 obtain⟨_,_,_,_,_,_,_,l3⟩:=h.get hp hp' hy hy'
 unfold onB
 constructor
 . intro z
   cases e:mat M x y with
   | none=>rw[e] at z;cases z
   | some d=>
    rw[e] at z l1
    obtain⟨a,b,e1,e2,e3⟩:=oadd_some (of_decide_eq_true z)
    rw[e1] at l2
    rw[e2] at l3
    exact⟨a,b,l2,l3,by rw[e3];exact l1⟩
 . rintro ⟨a,b,h1,h2,h3⟩
   have e1:=Len.uniq l1 (show Len ts x y (some (a+b)) from h3)
   have e2:=Len.uniq l2 (show Len ts x p (some a) from h1)
   have e3:=Len.uniq l3 (show Len ts p y (some b) from h2)
   rw[e1,e2,e3]
   exact decide_eq_true rfl
def spOn:Sp:=fun vs H Q _=>∃(fl:Addr)(n:Int)(ts:List T3)(M:List (List (Option Int)))(p x y:Int),vs=[.ref fl,.int p,.int x,.int y]/\FarAt H fl n ts M/\0<=p/\p<n/\0<=x/\x<n/\0<=y/\y<n/\Q (.bl (onB M p x y)) H
def spJoi:Sp:=fun vs H Q _=>∃(wa:Addr)(n:Int)(ts:List T3),vs=[.ref wa]/\WebAt H wa n ts/\∀(d:Addr)(kvs:List (List Key×V))(H':Hp),Same H H'->H' d=some (.dT kvs)->PD ts kvs->Q (.ref d) H'
def spNxs:Sp:=fun vs H Q _=>∃(wa fl:Addr)(n:Int)(ts:List T3)(M:List (List (Option Int)))(x y:Int),vs=[.ref wa,.ref fl,.int x,.int y]/\WebAt H wa n ts/\FarAt H fl n ts M/\0<=x/\x<n/\0<=y/\y<n /\
 ∀(l:Addr)(xs:List Int)(H':Hp),Same H H'->H' l=some (.lst (xs.map V.int))->xs.Pairwise (· < ·)->(∀p,p∈xs↔Nxt ts x y p)->Q (.ref l) H'
section
variable {P:Program}{w:World}{K:PySem.W.Frag}{mg:Str->Option Value}{base:Heap}
theorem scOn:FnScope ["_law_far_here", "_law_place", "_law_one", "_law_other", "_law_due"] ["_law_far_here", "_law_place", "_law_one", "_law_other"] (defScope sOn):=⟨rfl,rfl,rfl,by decide +kernel,rfl,by decide +kernel,by decide +kernel⟩
theorem ok_on {f fA:Addr}{fd' fdA:FuncData}(F:Fun K "_law_on" "_law_on" sOn f fd') (FA:Fun K "_law_added" "_law_added" sAdd fA fdA) (bA:Binds K fdA ["_law_one", "_law_other"] []) (mA:mg "_law_added" = some (.ref fA)):FnOk P w K mg base CX0 2 f fd' ["_law_far_here", "_law_place", "_law_one", "_law_other"] spOn:=by
 have GA:FnOk P w K mg base CX0 1 fA fdA ["_law_one", "_law_other"] spAdd:=ok_add FA
 refine F.ok scOn (fun vs H Q E h=>?_) (fun cdv A outer s H vs Q E hr h=>?_)
 . obtain⟨fl,n,ts,M,p,x,y,rfl,_⟩:=h
   rfl
 . obtain⟨fl,n,ts,M,p,x,y,rfl,FR,hp,hp',hx,hx',hy,hy',k⟩:=h
   refine⟨_,pss_cons (ps_set (i:=4) scOn.nd rfl (Or.inl rfl) (pe_ix ix_list (pe_ix ix_list (pv 0) (pv 2) (fun _ _=>rfl)) (pv 3) (fun _ _=>rfl)))
    (pss_one (ps_ret (pe_and (pe_cmpR op_notN (pv 4) pe_non (nomark _)) (pe_one (pe_cmpR op_eq (pe_call GA hr rfl mA FA.kp bA .nil pass0 (pa_cons (pe_ix ix_list (pe_ix ix_list (pv 0) (pv 2) (fun _ _=>rfl)) (pv 1) (fun _ _=>rfl)) (pa_cons (pe_ix ix_list (pe_ix ix_list (pv 0) (pv 1) (fun _ _=>rfl)) (pv 3) (fun _ _=>rfl)) pa_nil))) (pv 4) (nomark _)))))),?_⟩
   obtain⟨r1,a1,w1,f1,g1,i1,j1,_⟩:=FR.get hx hx' hy hy'
   obtain⟨r2,a2,w2,f2,g2,i2,j2,_⟩:=FR.get hx hx' hp hp'
   obtain⟨r3,a3,w3,f3,g3,i3,j3,_⟩:=FR.get hp hp' hy hy'
   refine⟨_,rfl,_,rfl,fl,_,_,.ref a1,rfl,rfl,SqL.of f1,g1,_,rfl,a1,_,_,_,rfl,rfl,SqL.of i1,j1,?_⟩
   refine⟨_,rfl,rfl,_,rfl,?_⟩
   unfold onB at k
   cases e:mat M x y with
   | none=>
    rw[e] at k
    exact ifF (by rw[oV_none_eq];rfl) k
   | some d=>
    rw[e] at k
    refine ifT (by rw[oV_some_ne];rfl) ?_
    refine⟨_,rfl,_,rfl,fl,_,_,.ref a2,rfl,rfl,SqL.of f2,g2,_,rfl,a2,_,_,_,rfl,rfl,SqL.of i2,j2,?_⟩
    refine⟨_,rfl,_,rfl,fl,_,_,.ref a3,rfl,rfl,SqL.of f3,g3,_,rfl,a3,_,_,_,rfl,rfl,SqL.of i3,j3,?_⟩
    refine⟨_,_,rfl,_,rfl,scal_oV _ (some d),?_⟩
    rw[dec_oV]
    exact k
theorem scJoi:FnScope ["_law_web_here", "_law_found", "_law_a", "_law_b", "_law_long"] ["_law_web_here"] (defScope sJoi):=⟨rfl,rfl,rfl,by decide +kernel,rfl,by decide +kernel,by decide +kernel⟩
theorem ok_joi {f:Addr}{fd':FuncData}(F:Fun K "_law_joined" "_law_joined" sJoi f fd'):FnOk P w K mg base CX0 1 f fd' ["_law_web_here"] spJoi:=by
 refine F.ok scJoi (fun vs H Q E h=>?_) (fun cdv A outer s H vs Q E hr h=>?_)
 . obtain⟨wa,n,ts,rfl,_⟩:=h
   rfl
 . obtain⟨wa,n,ts,rfl,W,k⟩:=h
   obtain⟨ta,tys,hwa,hta,TA,G⟩:=id W
   have hlt:tys.length=ts.length:=by rw[TA.length,List.length_map]
   have hu:=hu_of hr
   refine⟨_,pss_cons (ps_set (i:=1) scJoi.nd rfl (Or.inl rfl) pe_dnewT)
    (pss_cons (ps_for PassesOwn.never rfl (pi_tup (pe_ix ix_tup (pv 0) pe_int (fun _ _=>rfl))) (pg_tup rfl (pgs_cons (pg_name (i:=2) scJoi.nd rfl (Or.inl rfl)) (pgs_cons (pg_name (i:=3) scJoi.nd rfl (Or.inl rfl)) (pgs_cons (pg_name (i:=4) scJoi.nd rfl (Or.inl rfl)) pgs_nil))))
     (pss_cons (ps_dput hu (pv 1) (pe_tup (pa_cons (pv 2) (pa_cons (pv 3) pa_nil))) (pv 4) rfl) (pss_one (ps_dput hu (pv 1) (pe_tup (pa_cons (pv 3) (pa_cons (pv 2) pa_nil))) (pv 4) rfl))))
    (pss_one (ps_ret (pv 1)))),?_⟩
   intro d hd
   refine⟨_,rfl,wa,_,_,_,rfl,rfl,SqT.of (same_laid hd _ _ hwa),rfl,ta,rfl,⟨_,SqT.of (same_laid hd _ _ hta)⟩,for_tup (K:=K) (a:=ta) (xs:=tys)
    (fun j σ H5=>∃(v2 v3 v4:Option V)(kvs:List (List Key×V)),σ=[some (.ref wa),some (.ref d),v2,v3,v4]/\Same H H5/\H5 d=some (.dT kvs)/\kvs.length<=2*j/\PD (ts.take j) kvs)
    ⟨_,_,_,[],rfl,same_laid hd,upd_same,Nat.le_refl _,PD.nil⟩ (fun j σ H5 _ ⟨_,_,_,_,_,s5,_⟩=>SqT.of (s5 _ _ hta)) ?turn1 ?after1⟩
   case turn1=>
    rintro j y σ H5 hj ⟨v2,v3,v4,kvs,rfl,s5,hd5,hkl,pd⟩
    obtain⟨ya,ky,rfl,hky,hya,_⟩:=TA.get hj
    rw[List.getElem?_map] at hky
    obtain⟨⟨x,z,c⟩,htj,rfl⟩:∃t:T3,ts[j]? = some t/\tl t=ky:=by
     cases e:ts[j]? with
     | none=>rw[e] at hky;cases hky
     | some t=>rw[e] at hky;exact⟨t,rfl,Option.some.inj hky⟩
    have hjl:j<ts.length:=(List.getElem?_eq_some_iff.mp htj).1
    have h64:=G.len
    refine⟨ya,_,rfl,SqT.of (s5 _ _ hya),rfl,_,_,rfl,_,_,rfl,_,_,rfl,rfl,?_⟩
    refine⟨_,rfl,_,rfl,_,rfl,_,rfl,by show 2<=sizeLine;decide,fun p hp=>?_⟩
    refine⟨d,_,rfl,DPut.t (k:=[Sum.inl x,Sum.inl z]) (same_laid hp _ _ hd5) upd_same (small_line (by omega)),?_⟩
    refine⟨_,rfl,_,rfl,_,rfl,_,rfl,by show 2<=sizeLine;decide,fun p2 hp2=>?_⟩
    refine⟨d,_,rfl,DPut.t (k:=[Sum.inl z,Sum.inl x]) (same_laid hp2 _ _ upd_same) upd_same (small_line (Nat.le_trans (length_putK _ _ _) (by omega))),?_⟩
    refine⟨_,_,_,_,rfl,?_,upd_same,Nat.le_trans (length_putK _ _ _) (Nat.le_trans (Nat.succ_le_succ (length_putK _ _ _)) (by omega)),?_⟩
    . have a1:Same H (upd (upd H5 p (.tup [.int x,.int z])) d (.dT (putK kvs [Sum.inl x,Sum.inl z] (.int c)))):=same_chg (s5.trans (same_laid hp)) hd
      exact same_chg (a1.trans (same_laid hp2)) hd
    . rw[List.take_add_one,htj]
      refine PD.put G (post:=ts.drop (j+1)) ?_ pd
      have e1:ts.drop j=(x,z,c)::ts.drop (j+1):=by
       rw[List.drop_eq_getElem_cons hjl]
       rw[List.getElem?_eq_getElem hjl] at htj
       rw[Option.some.inj htj]
      rw[<-e1,List.take_append_drop]
   case after1=>
    rintro σ H5 ⟨v2,v3,v4,kvs,rfl,s5,hd5,hkl,pd⟩
    rw[hlt,List.take_of_length_le (Nat.le_refl _)] at pd
    exact⟨_,rfl,k d kvs H5 s5 hd5 pd⟩
end
def nb (kvs:List (List Key×V))(M:List (List (Option Int)))(x y d p:Int):Bool:=match valV kvs [Sum.inl x,Sum.inl p],mat M p y with
 | some (.int l),some b=>decide (l+b=d)
 | _,_=>false
section
variable {P:Program}{w:World}{K:PySem.W.Frag}{mg:Str->Option Value}{base:Heap}
theorem scNxs:FnScope ["_law_web_here", "_law_far_here", "_law_one", "_law_other", "_law_due", "_law_pairs", "_law_some"] ["_law_web_here", "_law_far_here", "_law_one", "_law_other"] (defScope sNxs):=⟨rfl,rfl,rfl,by decide +kernel,rfl,by decide +kernel,by decide +kernel⟩
theorem ok_nxs {f fJ:Addr}{fd' fdJ:FuncData}(F:Fun K "_law_nexts" "_law_nexts" sNxs f fd') (FJ:Fun K "_law_joined" "_law_joined" sJoi fJ fdJ) (bJ:Binds K fdJ ["_law_web_here"] []) (mJ:mg "_law_joined" = some (.ref fJ)) (mRange:mg "range" = none):FnOk P w K mg base CX0 2 f fd' ["_law_web_here", "_law_far_here", "_law_one", "_law_other"] spNxs:=by
 have GJ:FnOk P w K mg base CX0 1 fJ fdJ ["_law_web_here"] spJoi:=ok_joi FJ
 refine F.ok scNxs (fun vs H Q E h=>?_) (fun cdv A outer s H vs Q E hr h=>?_)
 . obtain⟨wa,fl,n,ts,M,x,y,rfl,_⟩:=h
   rfl
 . obtain⟨wa,fl,n,ts,M,x,y,rfl,W,FR,hx,hx',hy,hy',k⟩:=h
   obtain⟨ta,tys,hwa,hta,TA,G⟩:=id W
   have hu:=hu_of hr
   have hn1:=G.n1
   have hn24:=G.n24
   refine⟨_,pss_cons (ps_set (i:=4) scNxs.nd rfl (Or.inr rfl) (pe_ix ix_list (pe_ix ix_list (pv 1) (pv 2) (fun _ _=>rfl)) (pv 3) (fun _ _=>rfl)))
    (pss_cons (ps_if (PW.pt (pw_or (pt_cmpR op_eq (pv 2) (pv 3) (nomark _)) (pw_or1 (pt_cmpR op_isN (pv 4) pe_non (nomark _))))) (pss_one (ps_ret (pe_lst pa_nil))) pss_nil)
    (pss_cons (ps_set (i:=5) scNxs.nd rfl (Or.inr rfl) (pe_call GJ hr rfl mJ FJ.kp bJ .nil pass0 (pa_cons (pv 0) pa_nil)))
    (pss_cons (ps_setC (i:=6) (own:=["_law_place"]) (cn:=["_law_one", "_law_pairs"]) (ci:=[2,5]) scNxs.nd rfl (Or.inl rfl) rfl (csc rfl rfl) ⟨rfl,rfl,rfl,rfl,rfl,rfl,trivial⟩ rfl
     (pi_range1 rfl mRange (pa_cons (pe_ix ix_tup (pv 0) pe_int (fun _ _=>rfl)) pa_nil)) (fun _ _ _ _=>pg_name (i:=0) (nd_of rfl) rfl (Or.inl rfl))
     (fun _ _ _ _=>pts_one (pt_cmp (pc_din hu (pe_tup (pa_cons (pv 1) (pa_cons (pv 0) pa_nil))) (pv 2)))) (fun _ _ _ _=>pv 0))
    (pss_one (ps_ret (pe_comp (own:=["_law_place"]) (cn:=["_law_pairs", "_law_one", "_law_far_here", "_law_other", "_law_due"]) (ci:=[5,2,1,3,4]) rfl (csc rfl rfl) ⟨rfl,rfl,rfl,rfl,rfl,rfl,rfl,rfl,rfl,rfl,rfl,rfl,rfl,rfl,rfl,trivial⟩ rfl
     (pi_list (pv 6)) (fun _ _ _ _=>pg_name (i:=0) (nd_of rfl) rfl (Or.inl rfl))
     (fun _ _ _ _=>pts_one (pt_cmpR op_eq (pe_op op_add (pe_dget hu (pv 1) (pe_tup (pa_cons (pv 2) (pa_cons (pv 0) pa_nil))) (fun _ _=>rfl)) (pe_ix ix_listC (pe_ix ix_listC (pv 3) (pv 0) (fun _ _=>rfl)) (pv 4) (fun _ _=>rfl))) (pv 5) (nomark _)))
     (fun _ _ _ _=>pv 0))))))),?_⟩
   obtain⟨r1,a1,w1,f1,g1,i1,j1,l1⟩:=FR.get hx hx' hy hy'
   refine⟨_,rfl,_,rfl,fl,_,_,.ref a1,rfl,rfl,SqL.of f1,g1,_,rfl,a1,_,_,_,rfl,rfl,SqL.of i1,j1,?_⟩
   refine⟨_,rfl,_,rfl,rfl,_,rfl,?_⟩
   by_cases hxy:x=y
   . refine ifT (decide_eq_true (congrArg V.int hxy)) (ifT rfl ?_)
     exact⟨Nat.zero_le _,fun l hl=>k l [] _ (same_laid hl) upd_same List.Pairwise.nil fun p=>⟨fun z=>by simp at z,fun z=>absurd hxy (Nxt.ne G z)⟩⟩
   refine ifF (decide_eq_false fun z=>hxy (V.int.inj z)) ?_
   refine⟨_,rfl,rfl,_,rfl,?_⟩
   cases e:mat M x y with
   | none=>
    rw[e] at l1
    refine ifT oV_none_eq ?_
    exact⟨Nat.zero_le _,fun l hl=>k l [] _ (same_laid hl) upd_same List.Pairwise.nil fun p=>⟨fun z=>by simp at z,fun ⟨l,b,_,_,z⟩=>absurd z.1 (l1 _)⟩⟩
   | some d=>
    rw[e] at l1
    have hxy':WM.IsD ts x y d:=l1
    refine ifF (oV_some_ne d) ?_
    refine⟨_,rfl,wa,n,ts,rfl,W,fun dd kvs H1 s1 hd1 pd=>?_⟩
    refine⟨_,rfl,wa,_,_,_,rfl,rfl,SqT.of (s1 _ _ hwa),rfl,n,rfl,by omega,by omega,[.int x,.ref dd],rfl,fun D hD=>?_⟩
    refine comp_range (lo:=0) (n:=n.toNat) (fun q ys H7=>q<=n.toNat/\ys=((lowTo q).filter fun o=>(valV kvs [Sum.inl x,Sum.inl o]).isSome).map V.int/\Same H1 H7/\H7 D=some (.lst ys)) ⟨Nat.zero_le _,rfl,same_laid hD,upd_same⟩ (fun q ys H7 h=>?_) (fun q ys H7 hq h=>?_) (fun ys H7 h=>?_)
    . obtain⟨hq,rfl,_⟩:=h
      rw[List.length_map]
      refine Nat.lt_of_le_of_lt (List.length_filter_le _ _) (small_line ?_)
      rw[lowTo,List.length_map,List.length_range]
      omega
    . obtain⟨_,rfl,s7,hD7⟩:=h
      rw[Int.zero_add]
      refine⟨⟨rfl,rfl⟩,?_⟩
      refine⟨_,rfl,_,rfl,by show 2<=sizeLine;decide,fun p hp=>?_⟩
      refine⟨_,rfl,dd,_,rfl,DGet.t (k:=[Sum.inl x,Sum.inl (q:Int)]) (same_laid hp _ _ (s7 _ _ hd1)) upd_same,_,rfl,?_⟩
      refine ite2 (fun hc=>?_) (fun hc=>?_)
      . refine⟨_,rfl,same_laid hp _ _ hD7,hq,?_,same_chg (s7.trans (same_laid hp)) hD,upd_same⟩
        rw[ints_succ,List.filter_append,List.filter_cons_of_pos (p:=fun o=>(valV kvs [Sum.inl x,Sum.inl o]).isSome) hc,List.filter_nil,List.map_append]
        rfl
      . refine⟨hq,?_,s7.trans (same_laid hp),same_laid hp _ _ ?_⟩
        . rw[ints_succ,List.filter_append,List.filter_cons_of_neg (p:=fun o=>(valV kvs [Sum.inl x,Sum.inl o]).isSome) hc,List.filter_nil,List.append_nil]
        . exact hD7
    . obtain⟨_,rfl,s7,hD7⟩:=h
      generalize hsm:((lowTo n.toNat).filter fun o=>(valV kvs [Sum.inl x,Sum.inl o]).isSome)=sm at hD7 ⊢
      have sm_rise:sm.Pairwise (· < ·):=by rw[<-hsm];exact (ints_rise _).sublist List.filter_sublist
      have sm_mem:∀p,p∈sm↔∃l,Adj ts x p l:=fun p=>by
       rw[<-hsm,List.mem_filter,pd.some]
       refine⟨fun h=>h.2,fun h=>⟨mem_ints.mpr ?_,h⟩⟩
       obtain⟨c,ha⟩:=h
       have:=G.adj ha
       omega
      have sm_len:sm.length<=24:=by
       rw[<-hsm]
       refine Nat.le_trans (List.length_filter_le _ _) ?_
       rw[lowTo,List.length_map,List.length_range]
       omega
      have nb_iff:∀p,p∈sm.filter (nb kvs M x y d)↔Nxt ts x y p:=fun p=>by
       rw[List.mem_filter,sm_mem]
       constructor
       . rintro ⟨⟨l,ha⟩,hb⟩
         have hadj:=G.adj ha
         obtain⟨_,_,_,_,_,_,_,l3⟩:=FR.get (x:=p) (y:=y) (by omega) (by omega) hy hy'
         unfold nb at hb
         rw[((pd x p).1 l).mpr ha] at hb
         cases e2:mat M p y with
         | none=>rw[e2] at hb;cases hb
         | some b=>
          rw[e2] at hb l3
          have hs:l+b=d:=of_decide_eq_true hb
          exact⟨l,b,ha,l3,by rw[hs];exact hxy'⟩
       . rintro ⟨l,b,ha,h2,h3⟩
         have hadj:=G.adj ha
         obtain⟨_,_,_,_,_,_,_,l3⟩:=FR.get (x:=p) (y:=y) (by omega) (by omega) hy hy'
         refine⟨⟨l,ha⟩,?_⟩
         unfold nb
         rw[((pd x p).1 l).mpr ha,Len.uniq l3 (show Len ts p y (some b) from h2)]
         exact decide_eq_true (WM.IsD.uniq h3 hxy')
      refine⟨_,rfl,D,rfl,⟨_,SqL.of hD7⟩,[.ref dd,.int x,.ref fl,.int y,.int d],rfl,fun D2 hD2=>?_⟩
      have nDD:D≠D2:=ne_of_none hD7 hD2
      refine comp_list (a:=D) (xs:=sm.map V.int) (fun i ys H8=>ys=((sm.take i).filter (nb kvs M x y d)).map V.int/\Same H7 H8/\H8 D2=some (.lst ys)) ⟨rfl,same_laid hD2,upd_same⟩ (fun i ys H8 h=>?_) (fun i ys H8 h=>?_) (fun i v ys H8 hv h=>?_) (fun ys H8 h=>?_)
      . exact SqL.of (h.2.1 _ _ hD7)
      . rw[h.1,List.length_map]
        refine Nat.lt_of_le_of_lt (List.length_filter_le _ _) (small_line ?_)
        rw[List.length_take];omega
      . obtain⟨rfl,s8,hD8⟩:=h
        obtain⟨p,hp,rfl⟩:∃p,sm[i]? = some p/\V.int p=v:=by
         rw[List.getElem?_map] at hv
         cases e:sm[i]? with
         | none=>rw[e] at hv;cases hv
         | some p=>rw[e] at hv;exact⟨p,rfl,Option.some.inj hv⟩
        obtain⟨l,ha⟩:=(sm_mem p).mp (List.mem_of_getElem? hp)
        have hadj:=G.adj ha
        have hval:=((pd x p).1 l).mpr ha
        have s18:Same H H8:=s1.trans (s7.trans s8)
        refine⟨⟨rfl,rfl⟩,?_⟩
        refine⟨_,rfl,_,rfl,_,rfl,by show 2<=sizeLine;decide,fun q hq=>?_⟩
        have sq:Same H (upd H8 q (.tup [.int x,.int p])):=s18.trans (same_laid hq)
        obtain⟨r3,a3,w3,f3,g3,i3,j3,l3⟩:=(FR.keep fun b ys e=>sq _ _ e).get (x:=p) (y:=y) (by omega) (by omega) hy hy'
        obtain⟨b,eb⟩:∃b,mat M p y=some b:=by
         cases e2:mat M p y with
         | none=>rw[e2] at l3;exact absurd ((WM.Way.one ha).symm.trans hxy'.1) (l3 _)
         | some b=>exact⟨b,rfl⟩
        rw[eb] at j3
        refine⟨dd,_,rfl,hval ▸ DGet.t (k:=[Sum.inl x,Sum.inl p]) (same_laid hq _ _ (s8 _ _ (s7 _ _ hd1))) upd_same,?_⟩
        refine⟨_,rfl,_,rfl,fl,_,_,.ref a3,rfl,rfl,SqL.of f3,g3,_,rfl,a3,_,_,_,rfl,rfl,SqL.of i3,j3,l,b,rfl,rfl,?_⟩
        refine⟨_,rfl,rfl,_,rfl,?_⟩
        have ek:sm.take (i+1)=sm.take i++[p]:=by rw[List.take_add_one,hp];rfl
        have enb:nb kvs M x y d p=decide (l+b=d):=by unfold nb;rw[hval,eb]
        by_cases hs:l+b=d
        . refine ifT (decide_eq_true (congrArg V.int hs)) ?_
          refine⟨_,rfl,same_laid hq _ _ hD8,?_,same_chg (s8.trans (same_laid hq)) hD2,upd_same⟩
          rw[ek,List.filter_append,List.filter_cons_of_pos (by rw[enb];exact decide_eq_true hs),List.filter_nil,List.map_append]
          rfl
        . refine ifF (decide_eq_false fun z=>hs (V.int.inj z)) ?_
          refine⟨?_,s8.trans (same_laid hq),same_laid hq _ _ hD8⟩
          rw[ek,List.filter_append,List.filter_cons_of_neg (by rw[enb,decide_eq_false hs];decide),List.filter_nil,List.append_nil]
      . obtain⟨rfl,s8,hD8⟩:=h
        rw[List.length_map,List.take_length] at hD8
        exact k D2 _ H8 (s1.trans (s7.trans s8)) hD8 (sm_rise.sublist List.filter_sublist) nb_iff
end
def numD:PyData->Bool
 | .int _=>true
 | _=>false
def withinD (d:PyData)(a b:Int):Bool:=match d with
 | .int i=>decide (a<=i) && decide (i<=b)
 | _=>false
def tupD (d:PyData):Bool:=match d with
 | .tuple _=>true
 | _=>false
def tupN (d:PyData)(n:Int):Bool:=match d with
 | .tuple ds=>decide ((ds.length:Int)=n)
 | _=>false
theorem shAll_len {H:Hp}{xs:List V}{ds:List PyData}(h:ShowsAll H xs ds):xs.length=ds.length:=by
 induction xs generalizing ds with
 | nil=>cases h;rfl
 | cons x xs ih=>
  cases h with
  | cons a b=>rw[List.length_cons,List.length_cons,ih b]
theorem shAll_get {H:Hp}{xs:List V}{ds:List PyData}{i:Nat}{d:PyData}(h:ShowsAll H xs ds)(e:ds[i]? = some d):∃x,xs[i]? = some x/\Shows H x d:=by
 induction xs generalizing ds i with
 | nil=>cases h;simp at e
 | cons x xs ih=>
  cases h with
  | cons a b=>
   cases i with
   | zero=>
    simp at e
    subst e
    exact⟨x,rfl,a⟩
   | succ i=>exact ih b (by simpa using e)
theorem shows_keep {H H':Hp}(k:Same H H'){v:V}{d:PyData}(s:Shows H v d):Shows H' v d:=
 Shows.rec (motive_1:=fun v d _=>Shows H' v d) (motive_2:=fun xs ds _=>ShowsAll H' xs ds) .non (fun b=>.bl b) (fun i=>.int i) (fun x=>.str x) (fun e _ ih=>.tup (k _ _ e) ih) (fun e _ ih=>.lst (k _ _ e) ih) .nil (fun _ _ i1 i2=>.cons i1 i2) s
theorem isi_of {K:PySem.W.Frag}{H:Hp}{v:V}{d:PyData}(s:Shows H v d):∃t bi bb bt:_,TyOf K H v t/\PySem.W.kitOne K t (.type "int")=some bi/\PySem.W.kitOne K t (.type "bool")=some bb/\PySem.W.kitOne K t (.type "tuple")=some bt/\(bi && !bb)=numD d/\bt=tupD d/\(numD d=true->∃i,v = .int i/\d = .int i)/\(tupD d=true->∃a xs ds,v = .ref a/\H a=some (.tup xs)/\d = .tuple ds/\ShowsAll H xs ds):=by
 cases s with
 | non=>exact⟨_,_,_,_,.non,rfl,rfl,rfl,rfl,rfl,(fun z=>by cases z),(fun z=>by cases z)⟩
 | bl b=>exact⟨_,_,_,_,.bl b,rfl,rfl,rfl,rfl,rfl,(fun z=>by cases z),(fun z=>by cases z)⟩
 | int i=>exact⟨_,_,_,_,.int i,rfl,rfl,rfl,rfl,rfl,(fun z=>⟨i,rfl,rfl⟩),(fun z=>by cases z)⟩
 | str x=>exact⟨_,_,_,_,.str x,rfl,rfl,rfl,rfl,rfl,(fun z=>by cases z),(fun z=>by cases z)⟩
 | tup e al=>exact⟨_,_,_,_,.tup e,rfl,rfl,rfl,rfl,rfl,(fun z=>by cases z),(fun z=>⟨_,_,_,rfl,e,rfl,al⟩)⟩
 | lst e al=>exact⟨_,_,_,_,.lst e,rfl,rfl,rfl,rfl,rfl,(fun z=>by cases z),(fun z=>by cases z)⟩
def spNum:Sp:=fun vs H Q _=>∃(v:V)(d:PyData),vs=[v]/\Shows H v d/\Q (.bl (numD d)) H
def spWi:Sp:=fun vs H Q _=>∃(v:V)(d:PyData)(a b:Int),vs=[v,.int a,.int b]/\Shows H v d/\Q (.bl (withinD d a b)) H
def spTof:Sp:=fun vs H Q _=>∃(v:V)(d:PyData)(n:Int),vs=[v,.int n]/\Shows H v d/\Q (.bl (tupN d n)) H
section
variable {P:Program}{w:World}{K:PySem.W.Frag}{mg:Str->Option Value}{base:Heap}
theorem scNum:FnScope ["thing"] ["thing"] (defScope sNum):=⟨rfl,rfl,rfl,by decide +kernel,rfl,by decide +kernel,by decide +kernel⟩
theorem ok_num {f:Addr}{fd':FuncData}(F:Fun K "is_number" "is_number" sNum f fd') (mIsi:mg "isinstance" = none) (mInt:mg "int" = none) (mBool:mg "bool" = none):FnOk P w K mg base CX0 1 f fd' ["thing"] spNum:=by
 refine F.ok scNum (fun vs H Q E h=>?_) (fun cdv A outer s H vs Q E hr h=>?_)
 . obtain⟨v,d,rfl,_⟩:=h
   rfl
 . obtain⟨v,d,rfl,S,k⟩:=h
   obtain⟨t,bi,bb,bt,ty,e1,e2,_,e4,_⟩:=isi_of (K:=K) S
   refine⟨_,pss_one (ps_ret (pe_and (pe_callB call_isinst (by rfl) mIsi (by decide +kernel) (pa_cons (pv 0) (pa_cons (pe_tyN (T := "int") (by rfl) mInt (by decide +kernel)) pa_nil)))
    (pe_one (pe_not (pe_callB call_isinst (by rfl) mIsi (by decide +kernel) (pa_cons (pv 0) (pa_cons (pe_tyN (T := "bool") (by rfl) mBool (by decide +kernel)) pa_nil))))))),?_⟩
   refine⟨_,rfl,_,_,t,bi,rfl,ty,e1,bi,rfl,?_⟩
   rw[<-e4] at k
   cases bi with
   | false=>exact iteF k
   | true=>exact iteT ⟨_,rfl,_,_,t,bb,rfl,ty,e2,bb,rfl,k⟩
theorem scWi:FnScope ["thing", "least", "most"] ["thing", "least", "most"] (defScope sWi):=⟨rfl,rfl,rfl,by decide +kernel,rfl,by decide +kernel,by decide +kernel⟩
theorem ok_wi {f fN:Addr}{fd' fdN:FuncData}(F:Fun K "is_within" "is_within" sWi f fd') (FN:Fun K "is_number" "is_number" sNum fN fdN) (bN:Binds K fdN ["thing"] []) (mN:mg "is_number" = some (.ref fN)) (mIsi:mg "isinstance" = none) (mInt:mg "int" = none) (mBool:mg "bool" = none) :
 FnOk P w K mg base CX0 2 f fd' ["thing", "least", "most"] spWi:=by
 have GN:FnOk P w K mg base CX0 1 fN fdN ["thing"] spNum:=ok_num FN mIsi mInt mBool
 refine F.ok scWi (fun vs H Q E h=>?_) (fun cdv A outer s H vs Q E hr h=>?_)
 . obtain⟨v,d,a,b,rfl,_⟩:=h
   rfl
 . obtain⟨v,d,a,b,rfl,S,k⟩:=h
   refine⟨_,pss_one (ps_ret (pe_and (pe_call GN hr rfl mN FN.kp bN .nil pass0 (pa_cons (pv 0) pa_nil)) (pe_and (pe_cmpR op_le (pv 1) (pv 0) (nomark _)) (pe_one (pe_cmpR op_le (pv 0) (pv 2) (nomark _)))))),?_⟩
   refine⟨_,rfl,v,d,rfl,S,numD d,rfl,?_⟩
   obtain⟨_,_,_,_,_,_,_,_,_,_,hi,_⟩:=isi_of (K:=K) S
   cases hn:numD d with
   | false=>
    refine iteF ?_
    have:withinD d a b=false:=by
     cases d <;> first | rfl | cases hn
    rw[this] at k
    exact k
   | true=>
    refine iteT ?_
    obtain⟨i,rfl,rfl⟩:=hi hn
    have k':Q (.bl (decide (a<=i) && decide (i<=b))) H:=k
    refine⟨_,rfl,_,rfl,_,_,rfl,rfl,_,rfl,?_⟩
    by_cases c:a<=i
    . rw[decide_eq_true c,Bool.true_and] at k'
      exact ifT (decide_eq_true c) ⟨_,rfl,_,rfl,_,_,rfl,rfl,k'⟩
    . rw[decide_eq_false c,Bool.false_and] at k'
      exact ifF (decide_eq_false c) k'
theorem scTof:FnScope ["thing", "count"] ["thing", "count"] (defScope sTof):=⟨rfl,rfl,rfl,by decide +kernel,rfl,by decide +kernel,by decide +kernel⟩
theorem ok_tof {f:Addr}{fd':FuncData}(F:Fun K "is_tuple_of" "is_tuple_of" sTof f fd') (mIsi:mg "isinstance" = none) (mTuple:mg "tuple" = none) (mLen:mg "len" = none):FnOk P w K mg base CX0 1 f fd' ["thing", "count"] spTof:=by
 refine F.ok scTof (fun vs H Q E h=>?_) (fun cdv A outer s H vs Q E hr h=>?_)
 . obtain⟨v,d,n,rfl,_⟩:=h
   rfl
 . obtain⟨v,d,n,rfl,S,k⟩:=h
   obtain⟨t,bi,bb,bt,ty,_,_,e3,_,e5,_,ht⟩:=isi_of (K:=K) S
   refine⟨_,pss_one (ps_ret (pe_and (pe_callB call_isinst (by rfl) mIsi (by decide +kernel) (pa_cons (pv 0) (pa_cons (pe_tyN (T := "tuple") (by rfl) mTuple (by decide +kernel)) pa_nil)))
    (pe_one (pe_cmpR op_eq (pe_callB call_len_seq (by rfl) mLen PySem.boot_len (pa_cons (pv 0) pa_nil)) (pv 1) (nomark _))))),?_⟩
   refine⟨_,rfl,_,_,t,bt,rfl,ty,e3,bt,rfl,?_⟩
   rw[e5]
   cases hn:tupD d with
   | false=>
    refine iteF ?_
    have:tupN d n=false:=by
     cases d <;> first | rfl | cases hn
    rw[this] at k
    exact k
   | true=>
    refine iteT ?_
    obtain⟨a,xs,ds,rfl,ha,rfl,al⟩:=ht hn
    refine⟨_,rfl,a,xs,rfl,.inr (SqT.of ha),_,rfl,rfl,?_⟩
    rw[dec_int',shAll_len al]
    exact k
end
structure Ordr (n:Int)(os:List Int):Prop where
 ln:os.length=n.toNat
 nd:os.Nodup
 rng:∀p∈os,0<=p/\p<n
def IsOrd (n:Int)(d:PyData):Prop:=∃os:List Int,d = .tuple (os.map PyData.int)/\Ordr n os
def spOrd:Sp:=fun vs H Q _=>∃(wa p:Addr)(n:Int)(ts:List T3)(os:List Int),vs=[.ref wa,.ref p]/\WebAt H wa n ts/\H p=some (.tup (os.map V.int))/\Ordr n os/\∀H',Same H H'->Q (.bl true) H'
def spOrdG:Sp:=fun vs H Q _=>∃(wa:Addr)(v:V)(d:PyData)(n:Int)(ts:List T3),vs=[.ref wa,v]/\WebAt H wa n ts/\Shows H v d/\∀(b:Bool) H',(b=true↔IsOrd n d)->Same H H'->Q (.bl b) H'
def spPl:Sp:=fun vs H Q _=>∃(n:Int)(v:V)(d:PyData),vs=[.int n,v]/\Shows H v d/\Q (.bl (withinD d 0 (n-1))) H
theorem within_int {d:PyData}{a b:Int}(h:withinD d a b=true):∃i,d = .int i/\a<=i/\i<=b:=by
 cases d with
 | int i=>
  have h':(decide (a<=i) && decide (i<=b))=true:=h
  rw[Bool.and_eq_true,decide_eq_true_iff,decide_eq_true_iff] at h'
  exact⟨i,rfl,h'.1,h'.2⟩
 | _=>cases h
theorem ints_of {n:Int}:∀{ds:List PyData},(ds.all fun d=>withinD d 0 (n-1))=true->∃os:List Int,ds=os.map PyData.int/\∀p∈os,0<=p/\p<n
 | [],_=>⟨[],rfl,fun p h=>by cases h⟩
 | d::ds,h=>by
  rw[List.all_cons,Bool.and_eq_true] at h
  obtain⟨i,rfl,h0,h1⟩:=within_int h.1
  obtain⟨os,rfl,hr⟩:=ints_of h.2
  refine⟨i::os,rfl,fun p hp=>?_⟩
  rcases List.mem_cons.mp hp with rfl | hp
  . exact⟨h0,by omega⟩
  . exact hr p hp
theorem all_ints {n:Int}:∀{os:List Int},(∀p∈os,0<=p/\p<n)->((os.map PyData.int).all fun d=>withinD d 0 (n-1))=true
 | [],_=>rfl
 | i::os,h=>by
  rw[List.map_cons,List.all_cons,Bool.and_eq_true]
  have:=h i List.mem_cons_self
  refine⟨?_,all_ints fun p hp=>h p (List.mem_cons_of_mem _ hp)⟩
  show (decide (0<=i) && decide (i<=n-1))=true
  rw[Bool.and_eq_true,decide_eq_true_iff,decide_eq_true_iff]
  omega
theorem int_inj:∀{a b:List Int},a.map PyData.int=b.map PyData.int->a=b
 | [],[],_=>rfl
 | [],_::_,h=>by cases h
 | _::_,[],h=>by cases h
 | x::a,y::b,h=>by
  rw[List.map_cons,List.map_cons] at h
  injection h with h1 h2
  injection h1 with h1
  rw[h1,int_inj h2]
theorem sh_int {H:Hp}:∀{xs:List V}{os:List Int},ShowsAll H xs (os.map PyData.int)->xs=os.map V.int
 | [],[],_=>rfl
 | [],_::_,h=>by cases h
 | _::_,[],h=>by cases h
 | x::xs,o::os,h=>by
  cases h with
  | cons a b=>
   cases a
   rw[sh_int b]
   rfl
theorem firstMet_full {val:Nat->Int}:∀{k:Nat},(PyProof.Rows.firstMet val k).length=k->((List.range k).map val).Nodup/\PyProof.Rows.firstMet val k=(List.range k).map val
 | 0,_=>⟨by simp,rfl⟩
 | k+1,h=>by
  rw[PyProof.Rows.firstMet_succ] at h ⊢
  have hl:=PyProof.Rows.firstMet_length_le val k
  unfold PyProof.Rows.step_dedup at h ⊢
  by_cases c:((PyProof.Rows.firstMet val k).any fun x=>x==val k)=true
  . rw[if_pos c] at h
    omega
  . rw[if_neg c] at h ⊢
    rw[List.length_append] at h
    obtain⟨h1,h2⟩:=firstMet_full (val:=val) (k:=k) (by simpa using h)
    rw[List.range_succ,List.map_append]
    refine⟨?_,by rw[h2];rfl⟩
    rw[h2] at c
    refine List.nodup_append.mpr ⟨h1,by simp,fun a ha b hb=>?_⟩
    have eb:b=val k:=by simpa using hb
    rw[eb]
    rintro rfl
    exact c (by simpa using ha)
theorem map_getD (os:List Int):(List.range os.length).map (fun i=>os.getD i 0)=os:=by
 apply List.ext_getElem
 . simp
 . intro i h1 h2
   simp[List.getD_eq_getElem?_getD,h2]
section
variable {P:Program}{w:World}{K:PySem.W.Frag}{mg:Str->Option Value}{base:Heap}
theorem scPl:FnScope ["n", "thing"] ["n", "thing"] (defScope sPl):=⟨rfl,rfl,rfl,by decide +kernel,rfl,by decide +kernel,by decide +kernel⟩
theorem ok_pl {f fW fN:Addr}{fd' fdW fdN:FuncData}(F:Fun K "is_place" "is_place" sPl f fd') (FW:Fun K "is_within" "is_within" sWi fW fdW) (bW:Binds K fdW ["thing", "least", "most"] []) (mW:mg "is_within" = some (.ref fW)) (FN:Fun K "is_number" "is_number" sNum fN fdN) (bN:Binds K fdN ["thing"] []) (mN:mg "is_number" = some (.ref fN)) (mIsi:mg "isinstance" = none) (mInt:mg "int" = none) (mBool:mg "bool" = none) :
 FnOk P w K mg base CX0 3 f fd' ["n", "thing"] spPl:=by
 have GW':FnOk P w K mg base CX0 2 fW fdW ["thing", "least", "most"] spWi:=ok_wi FW FN bN mN mIsi mInt mBool
 refine F.ok scPl (fun vs H Q E h=>?_) (fun cdv A outer s H vs Q E hr h=>?_)
 . obtain⟨n,v,d,rfl,_⟩:=h
   rfl
 . obtain⟨n,v,d,rfl,S,k⟩:=h
   refine⟨_,pss_one (ps_ret (pe_call GW' hr rfl mW FW.kp bW .nil pass0 (pa_cons (pv 1) (pa_cons pe_int (pa_cons (pe_op op_sub (pv 0) pe_int) pa_nil))))),?_⟩
   exact⟨_,rfl,_,rfl,_,_,rfl,rfl,v,d,0,n-1,rfl,S,k⟩
theorem scOrd:FnScope ["web", "thing", "n"] ["web", "thing"] (defScope sOrd):=⟨rfl,rfl,rfl,by decide +kernel,rfl,by decide +kernel,by decide +kernel⟩
theorem ok_ordG {f fT fP:Addr}{fd' fdT fdP:FuncData}(F:Fun K "is_order" "is_order" sOrd f fd') (FT:Fun K "is_tuple_of" "is_tuple_of" sTof fT fdT) (bT:Binds K fdT ["thing", "count"] []) (mT:mg "is_tuple_of" = some (.ref fT)) (GT:FnOk P w K mg base CX0 3 fT fdT ["thing", "count"] spTof)
 (FP:Fun K "is_place" "is_place" sPl fP fdP) (bP:Binds K fdP ["n", "thing"] []) (mP:mg "is_place" = some (.ref fP)) (GP:FnOk P w K mg base CX0 3 fP fdP ["n", "thing"] spPl)
 (mLen:mg "len" = none) (mAll:mg "all" = none) (mSet:mg "set" = none):FnOk P w K mg base CX0 4 f fd' ["web", "thing"] spOrdG:=by
 refine F.ok scOrd (fun vs H Q E h=>?_) (fun cdv A outer s H vs Q E hr h=>?_)
 . obtain⟨wa,v,d,n,ts,rfl,_⟩:=h
   rfl
 . obtain⟨wa,v,d,n,ts,rfl,W,S,k⟩:=h
   obtain⟨ta,tys,hwa,_,_,G⟩:=id W
   have hn1:=G.n1
   have hn24:=G.n24
   refine⟨_,pss_cons (ps_set (i:=2) scOrd.nd rfl (Or.inr rfl) (pe_ix ix_tup (pv 0) pe_int (fun _ _=>rfl)))
    (pss_cons (ps_if (PW.pt (pw_or (pt_not (pt_val (pe_call GT hr rfl mT FT.kp bT .nil pass0 (pa_cons (pv 1) (pa_cons (pv 2) pa_nil)))))
     (pw_or1 (pt_not (pt_val (pe_callB (call_all rfl) (by rfl) mAll (by decide +kernel) (pa_cons (pe_comp (own:=["place"]) (cn:=["n"]) (ci:=[2]) rfl (csc rfl rfl) ⟨rfl,rfl,rfl,trivial⟩ rfl (pi_tup (pv 1)) (fun _ _ _ _=>pg_name (i:=0) (nd_of rfl) rfl (Or.inl rfl))
      (fun _ _ _ _=>pts_nil) (fun _ _ _ _=>pe_call GP hr rfl mP FP.kp bP .nil pass0 (pa_cons (pv 1) (pa_cons (pv 0) pa_nil)))) pa_nil))))))) (pss_one (ps_ret pe_bl)) pss_nil)
    (pss_one (ps_ret (pe_cmpR op_eq (pe_callB call_lenS (by rfl) mLen PySem.boot_len (pa_cons (pe_callTy (call_setT rfl) (by rfl) mSet (by decide +kernel) (pa_cons (pv 1) pa_nil)) pa_nil)) (pv 2) (nomark _))))),?_⟩
   refine⟨_,rfl,wa,_,_,_,rfl,rfl,SqT.of hwa,rfl,?_⟩
   refine⟨_,rfl,_,rfl,v,d,n,rfl,S,tupN d n,rfl,?_⟩
   cases hn:tupN d n with
   | false=>
    refine iteT (iteT ?_)
    refine k false H ⟨(fun z=>by cases z),?_⟩ (Same.refl _)
    rintro ⟨os,rfl,O⟩
    have hn':decide (((os.map PyData.int).length:Int)=n)=false:=hn
    rw[List.length_map,O.ln] at hn'
    exact absurd (of_decide_eq_false hn') (by omega)
   | true=>
    refine iteF ?_
    obtain⟨ds,rfl,hl⟩:∃ds,d = .tuple ds/\(ds.length:Int)=n:=by
     cases d with
     | tuple ds=>
      have hn':decide ((ds.length:Int)=n)=true:=hn
      exact⟨ds,rfl,of_decide_eq_true hn'⟩
     | _=>cases hn
    cases S with
    | @tup a xs _ ha al=>
     have hxl:=shAll_len al
     refine⟨_,rfl,a,rfl,⟨_,SqT.of ha⟩,[.int n],rfl,fun D hD=>?_⟩
     refine comp_tup (a:=a) (xs:=xs) (fun i ys H4=>ys=((ds.take i).map fun x=>withinD x 0 (n-1)).map V.bl/\H4=upd H D (.lst ys)) ⟨rfl,rfl⟩ (fun i ys H4 z=>?_) (fun i ys H4 z=>?_) (fun i x ys H4 hx z=>?_) (fun ys H4 z=>?_)
     . obtain⟨_,rfl⟩:=z
       exact SqT.of (same_laid hD _ _ ha)
     . obtain⟨rfl,_⟩:=z
       rw[List.length_map,List.length_map,List.length_take]
       exact small_line (by omega)
     . obtain⟨rfl,rfl⟩:=z
       have hi:i<ds.length:=by have:=(List.getElem?_eq_some_iff.mp hx).1;omega
       obtain⟨x',hx',Sx⟩:=shAll_get al (List.getElem?_eq_getElem hi)
       rw[hx] at hx'
       cases hx'
       refine⟨⟨rfl,rfl⟩,?_⟩
       refine tyes ?_
       refine⟨_,rfl,_,rfl,n,x,ds[i],rfl,shows_keep (same_laid hD) Sx,upd_same,?_,upd_upd⟩
       rw[List.take_add_one,List.getElem?_eq_getElem hi,List.map_append,List.map_append];rfl
     . obtain⟨rfl,rfl⟩:=z
       rw[hxl,List.take_of_length_le (Nat.le_refl _)]
       refine⟨D,_,rfl,SqL.of upd_same,(ds.map fun x=>withinD x 0 (n-1)).all id,rfl,?_⟩
       have ea:(ds.map fun x=>withinD x 0 (n-1)).all id=ds.all fun x=>withinD x 0 (n-1):=by rw[List.all_map];rfl
       rw[ea]
       have sD:=same_laid (o:=.lst ((ds.map fun x=>withinD x 0 (n-1)).map V.bl)) hD
       generalize upd H D (.lst ((ds.map fun x=>withinD x 0 (n-1)).map V.bl))=H4 at sD ⊢
       cases hall:(ds.all fun x=>withinD x 0 (n-1)) with
       | false=>
        refine iteT (k false _ ⟨(fun z=>by cases z),?_⟩ sD)
        rintro ⟨os,e,O⟩
        cases e
        rw[all_ints O.rng] at hall
        cases hall
       | true=>
        refine iteF ?_
        obtain⟨os,rfl,hr'⟩:=ints_of hall
        have hxs:=sh_int al
        subst hxs
        rw[List.length_map] at hl
        refine⟨_,rfl,a,os,rfl,SqT.of (sD _ _ ha),by omega,fun dd SS hdd=>?_⟩
        refine⟨dd,SS,_,rfl,upd_same,_,rfl,rfl,?_⟩
        refine k _ _ ?_ (sD.trans (same_laid hdd))
        rw[dec_int',decide_eq_true_iff]
        constructor
        . intro z
          obtain⟨nd,_⟩:=firstMet_full (val:=fun i=>os.getD i 0) (k:=os.length) (by omega)
          rw[map_getD] at nd
          exact⟨os,rfl,by omega,nd,hr'⟩
        . rintro ⟨os',e,O⟩
          have e':=int_inj (PyData.tuple.inj e)
          subst e'
          rw[firstMet_nd O.nd os.length (Nat.le_refl _),List.take_of_length_le (Nat.le_refl _)]
          exact hl
theorem ok_ord_of {k:Nat}{f:Addr}{fd':FuncData}(F:FnOk P w K mg base CX0 k f fd' ["web", "thing"] spOrdG):FnOk P w K mg base CX0 k f fd' ["web", "thing"] spOrd:=F.imp fun vs H Q E h=>by
 obtain⟨wa,p,n,ts,os,rfl,W,hp,O,k⟩:=h
 have al:∀os:List Int,ShowsAll H (os.map V.int) (os.map PyData.int):=fun os=>by
  induction os with
  | nil=>exact .nil
  | cons a r ih=>exact .cons (.int a) ih
 refine⟨wa,.ref p,.tuple (os.map PyData.int),n,ts,rfl,W,.tup hp (al os),fun b H' hb s=>?_⟩
 rw[hb.mpr ⟨os,rfl,O⟩]
 exact k H' s
end
def eV (e:En):List V:=[.int e.h,.int e.l,oV e.u,oV e.d]
def EnsAt (H:Hp)(as:List Addr)(es:List En):Prop:=as.length=es.length/\∀(i:Nat)(a:Addr),as[i]? = some a->∃e,es[i]? = some e/\H a=some (.tup (eV e))
def LabAt (H:Hp)(p:Addr)(es:List En):Prop:=∃as:List Addr,H p=some (.tup (as.map V.ref))/\EnsAt H as es/\es.length<=1000
theorem EnsAt.keep {H H':Hp}{as:List Addr}{es:List En}(h:EnsAt H as es)(k:∀b ys,H b=some (.tup ys)->H' b=some (.tup ys)):EnsAt H' as es:=
 ⟨h.1,fun i a ha=>let ⟨e,h1,h2⟩:=h.2 i a ha;⟨e,h1,k _ _ h2⟩⟩
theorem EnsAt.snoc {H:Hp}{as:List Addr}{es:List En}{a:Addr}{e:En}(h:EnsAt H as es)(ha:H a=some (.tup (eV e))):EnsAt H (as++[a]) (es++[e]):=by
 refine⟨by rw[List.length_append,List.length_append,h.1];rfl,fun i b hb=>?_⟩
 by_cases c:i<as.length
 . rw[List.getElem?_append_left c] at hb
   obtain⟨e',h1,h2⟩:=h.2 i b hb
   exact⟨e',by rw[List.getElem?_append_left (by rw[<-h.1];exact c)];exact h1,h2⟩
 . rw[List.getElem?_append_right (by omega)] at hb
   have hi:i-as.length=0:=by
    cases z:i-as.length with
    | zero=>rfl
    | succ m=>rw[z] at hb;simp at hb
   rw[hi] at hb
   have:a=b:=by simpa using hb
   subst this
   exact⟨e,by rw[List.getElem?_append_right (by rw[<-h.1];omega),<-h.1,hi];rfl,ha⟩
theorem LabAt.keep {H H':Hp}{p:Addr}{es:List En}(h:LabAt H p es)(k:∀b ys,H b=some (.tup ys)->H' b=some (.tup ys)):LabAt H' p es:=
 let ⟨as,h1,h2,h3⟩:=h;⟨as,k _ _ h1,h2.keep k,h3⟩
theorem LabAt.same {H H':Hp}{p:Addr}{es:List En}(h:LabAt H p es)(k:Same H H'):LabAt H' p es:=h.keep fun b ys e=>k _ _ e
def rkf (rks:List Int)(p:Int):Int:=rks.getD p.toNat 0
def HubOf (ts:List T3)(rk:Int->Int)(h v:Int):Prop:=(∃d,WM.IsD ts h v d)/\∀p,Btw ts h v p->rk h<=rk p
def MinO (P:Int->Prop):Option Int->Prop
 | none=>∀p,¬ P p
 | some m=>P m/\∀p,P p->m<=p
theorem MinO.congr {P P':Int->Prop}(e:∀p,P p↔P' p):∀{o:Option Int},MinO P o->MinO P' o
 | none,h=>fun p z=>h p ((e p).mpr z)
 | some _,h=>⟨(e _).mp h.1,fun p z=>h.2 p ((e p).mpr z)⟩
structure EntOf (ts:List T3)(n:Int)(rk:Int->Int)(v:Int)(e:En):Prop where
 rng:0<=e.h/\e.h<n
 hub:HubOf ts rk e.h v
 len:WM.IsD ts v e.h e.l
 up:MinO (Nxt ts v e.h) e.u
 dn:MinO (Nxt ts e.h v) e.d
structure LabOf (ts:List T3)(n:Int)(rk:Int->Int)(v:Int)(es:List En):Prop where
 hub:Hub es
 ent:∀e∈es,EntOf ts n rk v e
 all:∀h,0<=h->h<n->HubOf ts rk h v->∃e∈es,e.h=h
 len:es.length<=24
theorem HubOf.congr {ts:List T3}{n:Int}{rk rk':Int->Int}{h v:Int}(G:GW n ts)(e:∀p,0<=p->p<n->rk p=rk' p)(h0:0<=h)(h1:h<n)(x:HubOf ts rk h v):HubOf ts rk' h v:=by
 refine⟨x.1,fun p hp=>?_⟩
 obtain⟨a,b,ia,_⟩:=id hp
 have:=ia.1.in_ G h0 h1
 rw[<-e h h0 h1,<-e p this.1 this.2]
 exact x.2 p hp
theorem LabOf.congr {ts:List T3}{n:Int}{rk rk':Int->Int}{v:Int}{es:List En}(G:GW n ts)(e:∀p,0<=p->p<n->rk p=rk' p)(x:LabOf ts n rk v es):LabOf ts n rk' v es:=
 ⟨x.hub,fun a ha=>let y:=x.ent a ha;⟨y.rng,y.hub.congr G e y.rng.1 y.rng.2,y.len,y.up,y.dn⟩,fun h h0 h1 z=>x.all h h0 h1 (z.congr G (fun p a b=>(e p a b).symm) h0 h1),x.len⟩
def LabsAt (H:Hp)(l:Addr)(ess:List (List En)):Prop:=∃as:List Addr,H l=some (.tup (as.map V.ref))/\as.length=ess.length/\∀(i:Nat)(a:Addr),as[i]? = some a->∃es,ess[i]? = some es/\LabAt H a es
theorem RowsAt.at {H:Hp}{rs:List Addr}{M:List (List (Option Int))}{ts:List T3}{n x:Int}(RA:RowsAt H rs M)(RR:Rows ts n M)(h0:0<=x)(h1:x<n) :
 ∃r,(rs.map V.ref)[x.toNat]? = some (.ref r)/\H r=some (.tup ((M.getD x.toNat []).map oV))/\Lens ts n x (M.getD x.toNat []):=by
 have hM:x.toNat<M.length:=by rw[RR.1];omega
 have hr:x.toNat<rs.length:=by rw[RA.1];exact hM
 have e:M[x.toNat]? = some (M.getD x.toNat []):=by rw[List.getD_eq_getElem?_getD,List.getElem?_eq_getElem hM];rfl
 exact⟨rs[x.toNat],by rw[List.getElem?_map,List.getElem?_eq_getElem hr];rfl,RA.2 _ _ _ (List.getElem?_eq_getElem hr) e,RR.2 x h0 h1⟩
theorem RowsAt.same {H H':Hp}{rs:List Addr}{M:List (List (Option Int))}(h:RowsAt H rs M)(k:Same H H'):RowsAt H' rs M:=⟨h.1,fun i r row a b=>k _ _ (h.2 i r row a b)⟩
theorem minD_of {K:PySem.W.Frag}{H:Hp}{p:Addr}{xs:List Int}{Q:VK}(hp:SqT K H p (xs.map V.int))(h:∀u,MinO (· ∈ xs) u->Q (oV u) H):rMinD K (.ref p) .non H Q:=by
 refine⟨p,_,rfl,.inr hp,fun e=>?_,.inr ⟨xs,rfl,fun n hn hm=>h (some n) ⟨hn,hm⟩⟩⟩
 have:xs=[]:=by simpa using e
 exact h none fun q hq=>by rw[this] at hq;simp at hq
structure Look (H:Hp)(rl ra:Addr)(rs:List Addr)(M:List (List (Option Int)))(rks:List Int)(n:Int)(ts:List T3):Prop where
 tab:H rl=some (.tup (rs.map V.ref))
 rows:RowsAt H rs M
 right:Rows ts n M
 rk:H ra=some (.lst (rks.map V.int))
 rln:rks.length=n.toNat
 web:GW n ts
theorem Look.same {H H':Hp}{rl ra:Addr}{rs:List Addr}{M:List (List (Option Int))}{rks:List Int}{n:Int}{ts:List T3}(L:Look H rl ra rs M rks n ts)(k:Same H H'):Look H' rl ra rs M rks n ts:=⟨k _ _ L.tab,L.rows.same k,L.right,k _ _ L.rk,L.rln,L.web⟩
theorem Look.rank {H:Hp}{rl ra:Addr}{rs:List Addr}{M:List (List (Option Int))}{rks:List Int}{n:Int}{ts:List T3}(L:Look H rl ra rs M rks n ts){x:Int}(h0:0<=x)(h1:x<n):(rks.map V.int)[x.toNat]? = some (.int (rkf rks x)):=by
 have:x.toNat<rks.length:=by rw[L.rln];omega
 rw[List.getElem?_map,List.getElem?_eq_getElem this]
 unfold rkf
 rw[List.getD_eq_getElem?_getD,List.getElem?_eq_getElem this]
 rfl
def spIsh:Sp:=fun vs H Q _=>∃(rl ra:Addr)(rs:List Addr)(M:List (List (Option Int)))(rks:List Int)(n:Int)(ts:List T3)(h v:Int),vs=[.ref rl,.ref ra,.int h,.int v]/\Look H rl ra rs M rks n ts/\0<=h/\h<n/\0<=v/\v<n /\
 ∀(b:Bool)(H':Hp),Same H H'->(b=true↔HubOf ts (rkf rks) h v)->Q (.bl b) H'
def spEbr:Sp:=fun vs H Q _=>∃(wa rl ra:Addr)(rs:List Addr)(M:List (List (Option Int)))(rks:List Int)(n:Int)(ts:List T3)(v h:Int),vs=[.ref wa,.ref rl,.int v,.int h]/\WebAt H wa n ts/\Look H rl ra rs M rks n ts/\0<=h/\h<n/\0<=v/\v<n/\HubOf ts (rkf rks) h v /\
 ∀(a:Addr)(e:En)(H':Hp),Same H H'->H' a=some (.tup (eV e))->e.h=h->EntOf ts n (rkf rks) v e->Q (.ref a) H'
def spLbr:Sp:=fun vs H Q _=>∃(wa rl ra:Addr)(rs:List Addr)(M:List (List (Option Int)))(rks:List Int)(n:Int)(ts:List T3)(v:Int),vs=[.ref wa,.ref rl,.ref ra,.int v]/\WebAt H wa n ts/\Look H rl ra rs M rks n ts/\0<=v/\v<n /\
 ∀(a:Addr)(es:List En)(H':Hp),Same H H'->LabAt H' a es->LabOf ts n (rkf rks) v es->Q (.ref a) H'
section
variable {P:Program}{w:World}{K:PySem.W.Frag}{mg:Str->Option Value}{base:Heap}
theorem scIsh:FnScope ["rows", "ranks", "hub", "place"] ["rows", "ranks", "hub", "place"] (defScope sIsh):=⟨rfl,rfl,rfl,by decide +kernel,rfl,by decide +kernel,by decide +kernel⟩
theorem ok_ish {f fB:Addr}{fd' fdB:FuncData}(F:Fun K "is_hub" "is_hub" sIsh f fd') (FB:Fun K "between_rows" "between_rows" sBwr fB fdB) (bB:Binds K fdB ["here", "there", "other"] []) (mB:mg "between_rows" = some (.ref fB)) (mRange:mg "range" = none) (mTuple:mg "tuple" = none) (mLen:mg "len" = none) (mAll:mg "all" = none) :
 FnOk P w K mg base CX0 2 f fd' ["rows", "ranks", "hub", "place"] spIsh:=by
 have GB:FnOk P w K mg base CX0 1 fB fdB ["here", "there", "other"] spBwr:=ok_bwr FB mRange mTuple mLen
 refine F.ok scIsh (fun vs H Q E h=>?_) (fun cdv A outer s H vs Q E hr h=>?_)
 . obtain⟨rl,ra,rs,M,rks,n,ts,h,v,rfl,_⟩:=h
   rfl
 . obtain⟨rl,ra,rs,M,rks,n,ts,h,v,rfl,L,h0,h1,v0,v1,k⟩:=h
   have G:=L.web
   have hn24:=G.n24
   refine⟨_,pss_cons (ps_if (pt_cmpR op_isN (pe_ix ix_tup (pe_ix ix_tup (pv 0) (pv 2) (fun _ _=>rfl)) (pv 3) (fun _ _=>rfl)) pe_non (nomark _)) (pss_one (ps_ret pe_bl)) pss_nil)
    (pss_one (ps_ret (pe_callB (call_all rfl) (by rfl) mAll (by decide +kernel) (pa_cons (pe_comp (own:=["other"]) (cn:=["ranks", "hub"]) (ci:=[1,2]) rfl (csc rfl rfl) ⟨rfl,rfl,rfl,rfl,rfl,rfl,trivial⟩ rfl
     (pi_tup (pe_call GB hr rfl mB FB.kp bB .nil pass0 (pa_cons (pe_ix ix_tup (pv 0) (pv 2) (fun _ _=>rfl)) (pa_cons (pe_ix ix_tup (pv 0) (pv 3) (fun _ _=>rfl)) (pa_cons (pv 3) pa_nil))))) (fun _ _ _ _=>pg_name (i:=0) (nd_of rfl) rfl (Or.inl rfl))
     (fun _ _ _ _=>pts_nil) (fun _ _ _ _=>pe_cmpR op_le (pe_ix ix_listC (pv 1) (pv 2) (fun _ _=>rfl)) (pe_ix ix_listC (pv 1) (pv 0) (fun _ _=>rfl)) (nomark _))) pa_nil)))),?_⟩
   obtain⟨rh,gh,hh,Lh⟩:=L.rows.at L.right h0 h1
   obtain⟨rv,gv,hv,Lv⟩:=L.rows.at L.right v0 v1
   have lhv:=Lh.len v v0 v1
   refine⟨_,rfl,_,rfl,rl,_,_,.ref rh,rfl,rfl,SqT.of L.tab,atI_in h0 gh,_,rfl,rh,_,_,oV (fnl (M.getD h.toNat []) v),rfl,rfl,SqT.of hh,atI_in v0 (Lens_get Lh v0 v1),rfl,_,rfl,?_⟩
   rw[oV_non]
   cases ed:fnl (M.getD h.toNat []) v with
   | none=>
    rw[ed] at lhv
    refine iteT ?_
    exact k false H (Same.refl _) ⟨(fun z=>by cases z),(fun z=>by obtain⟨d,hd⟩:=z.1;exact absurd hd.1 (lhv d))⟩
   | some d=>
    rw[ed] at lhv
    refine iteF ?_
    refine⟨_,rfl,_,rfl,rl,_,_,.ref rh,rfl,rfl,SqT.of L.tab,atI_in h0 gh,_,rfl,_,rfl,rl,_,_,.ref rv,rfl,rfl,SqT.of L.tab,atI_in v0 gv,_,rfl,rh,rv,n,ts,h,v,_,_,rfl,G,h0,h1,v0,v1,hh,hv,Lh,Lv,fun l xs H1 s1 hl hrise hmem=>?_⟩
    have hxr:∀p∈xs,0<=p/\p<n:=fun p hp=>by
     obtain⟨a,b,ia,_⟩:=(hmem p).mp hp
     exact ia.1.in_ G h0 h1
    have hxl:xs.length<=24:=by
     have:=nd_len (n:=n.toNat) (l:=xs) (hrise.imp fun z=>by omega) fun x hx=>by have:=hxr x hx;omega
     omega
    refine⟨l,rfl,⟨_,SqT.of hl⟩,[.ref ra,.int h],rfl,fun D hD=>?_⟩
    have hra:=s1 _ _ L.rk
    refine comp_tup (a:=l) (xs:=xs.map V.int) (fun i ys H4=>ys=((xs.take i).map fun p=>decide (rkf rks h<=rkf rks p)).map V.bl/\H4=upd H1 D (.lst ys)) ⟨rfl,rfl⟩ (fun i ys H4 z=>?_) (fun i ys H4 z=>?_) (fun i x ys H4 hx z=>?_) (fun ys H4 z=>?_)
    . obtain⟨_,rfl⟩:=z
      exact SqT.of (by rw[upd_ne (ne_of_none hl hD)];exact hl)
    . obtain⟨rfl,_⟩:=z
      rw[List.length_map,List.length_map,List.length_take]
      exact small_line (by omega)
    . obtain⟨rfl,rfl⟩:=z
      obtain⟨p,hp,rfl⟩:∃p,xs[i]? = some p/\V.int p=x:=by
       rw[List.getElem?_map] at hx
       cases e:xs[i]? with
       | none=>rw[e] at hx;cases hx
       | some p=>rw[e] at hx;exact⟨p,rfl,Option.some.inj hx⟩
      have hpr:=hxr p (List.mem_of_getElem? hp)
      have hra4:=same_laid (o:=.lst (((xs.take i).map fun p=>decide (rkf rks h<=rkf rks p)).map V.bl)) hD _ _ hra
      refine⟨⟨rfl,rfl⟩,?_⟩
      refine tyes ?_
      refine⟨_,rfl,_,rfl,ra,_,_,.int (rkf rks h),rfl,rfl,SqL.of hra4,atI_in h0 (L.rank h0 h1),_,rfl,_,rfl,ra,_,_,.int (rkf rks p),rfl,rfl,SqL.of hra4,atI_in hpr.1 (L.rank hpr.1 hpr.2),_,_,rfl,rfl,upd_same,?_,upd_upd⟩
      rw[List.take_add_one,hp,List.map_append,List.map_append];rfl
    . obtain⟨rfl,rfl⟩:=z
      rw[List.length_map,List.take_of_length_le (Nat.le_refl _)]
      refine⟨D,_,rfl,SqL.of upd_same,?_⟩
      refine k _ _ (s1.trans (same_laid hD)) ⟨fun z=>⟨⟨d,lhv⟩,fun p hp=>?_⟩,fun z=>List.all_eq_true.mpr fun b hb=>?_⟩
      . have:=List.all_eq_true.mp z _ (List.mem_map.mpr ⟨p,(hmem p).mpr hp,rfl⟩)
        exact of_decide_eq_true this
      . obtain⟨p,hp,rfl⟩:=List.mem_map.mp hb
        exact decide_eq_true (z.2 p ((hmem p).mp hp))
theorem scEbr:FnScope ["web", "rows", "place", "hub", "up", "down"] ["web", "rows", "place", "hub"] (defScope sEbr):=⟨rfl,rfl,rfl,by decide +kernel,rfl,by decide +kernel,by decide +kernel⟩
theorem ok_ebr {f fN fT:Addr}{fd' fdN fdT:FuncData}(F:Fun K "entry_by_rows" "entry_by_rows" sEbr f fd') (FN:Fun K "next_by_row" "next_by_row" sNbr fN fdN) (bN:Binds K fdN ["web", "one", "there"] []) (mN:mg "next_by_row" = some (.ref fN))
 (FT:Fun K "ties_at" "ties_at" sTies fT fdT) (bT:Binds K fdT ["web", "place"] []) (mT:mg "ties_at" = some (.ref fT)) (mSorted:mg "sorted" = none) (mTuple:mg "tuple" = none) (mMin:mg "min" = none):FnOk P w K mg base CX0 4 f fd' ["web", "rows", "place", "hub"] spEbr:=by
 have GN:FnOk P w K mg base CX0 3 fN fdN ["web", "one", "there"] spNbr:=ok_nbr FN FT bT mT mSorted mTuple
 refine F.ok scEbr (fun vs H Q E h=>?_) (fun cdv A outer s H vs Q E hr h=>?_)
 . obtain⟨wa,rl,ra,rs,M,rks,n,ts,v,h,rfl,_⟩:=h
   rfl
 . obtain⟨wa,rl,ra,rs,M,rks,n,ts,v,h,rfl,W,L,h0,h1,v0,v1,hh,k⟩:=h
   have hu:=hu_of hr
   refine⟨_,pss_cons (ps_set (i:=4) scEbr.nd rfl (Or.inl rfl) (pe_minD rfl hu (by rfl) mMin (pa_cons (pe_call GN hr rfl mN FN.kp bN .nil pass0 (pa_cons (pv 0) (pa_cons (pv 2) (pa_cons (pe_ix ix_tup (pv 1) (pv 3) (fun _ _=>rfl)) pa_nil)))) pa_nil) pe_non))
    (pss_cons (ps_set (i:=5) scEbr.nd rfl (Or.inl rfl) (pe_minD rfl hu (by rfl) mMin (pa_cons (pe_call GN hr rfl mN FN.kp bN .nil pass0 (pa_cons (pv 0) (pa_cons (pv 3) (pa_cons (pe_ix ix_tup (pv 1) (pv 2) (fun _ _=>rfl)) pa_nil)))) pa_nil) pe_non))
    (pss_one (ps_ret (pe_tup (pa_cons (pv 3) (pa_cons (pe_ix ix_tup (pe_ix ix_tup (pv 1) (pv 2) (fun _ _=>rfl)) (pv 3) (fun _ _=>rfl)) (pa_cons (pv 4) (pa_cons (pv 5) pa_nil)))))))),?_⟩
   obtain⟨rh,gh,ha,Lh⟩:=L.rows.at L.right h0 h1
   obtain⟨rv,gv,hv,Lv⟩:=L.rows.at L.right v0 v1
   refine⟨_,rfl,_,rfl,_,rfl,_,rfl,rl,_,_,.ref rh,rfl,rfl,SqT.of L.tab,atI_in h0 gh,wa,rh,n,ts,v,h,_,rfl,W,v0,v1,h0,h1,ha,Lh,fun l1 xs H1 s1 hl1 _ hm1=>?_⟩
   refine⟨_,rfl,?_⟩
   unfold tC
   refine minD_of (SqT.of hl1) fun u hu1=>?_
   have L1:=L.same s1
   refine⟨_,rfl,_,rfl,_,rfl,_,rfl,rl,_,_,.ref rv,rfl,rfl,SqT.of L1.tab,atI_in v0 gv,wa,rv,n,ts,h,v,_,rfl,W.keep s1,h0,h1,v0,v1,s1 _ _ hv,Lv,fun l2 ys H2 s2 hl2 _ hm2=>?_⟩
   refine⟨_,rfl,?_⟩
   dsimp only
   refine minD_of (SqT.of hl2) fun d hd1=>?_
   have s12:=s1.trans s2
   have L2':=L.same s12
   obtain⟨dd,hdd⟩:=hh.1
   have lv:=Len.uniq (Lv.len h h0 h1) (show Len ts v h (some dd) from WM.IsD.symm hdd)
   refine⟨_,rfl,_,rfl,_,rfl,rl,_,_,.ref rv,rfl,rfl,SqT.of L2'.tab,atI_in v0 gv,_,rfl,rv,_,_,.int dd,rfl,rfl,SqT.of (s12 _ _ hv),atI_in h0 (by rw[Lens_get Lv h0 h1,lv];rfl),_,rfl,_,rfl,by show 4<=sizeLine;decide,fun a ha'=>?_⟩
   exact k a ⟨h,dd,u,d⟩ _ (s12.trans (same_laid ha')) upd_same rfl ⟨⟨h0,h1⟩,hh,WM.IsD.symm hdd,hu1.congr hm1,hd1.congr hm2⟩
end
theorem rows_bd {n:Int}{ts:List T3}{M:List (List (Option Int))}(R:Rows ts n M){x y d:Int}(x0:0<=x)(x1:x<n)(y0:0<=y)(y1:y<n)(h:WM.IsD ts x y d):0<=d/\d<=2376:=by
 have L:=R.2 x x0 x1
 have l:=L.len y y0 y1
 cases e:fnl (M.getD x.toNat []) y with
 | none=>rw[e] at l;exact absurd h.1 (l d)
 | some d'=>
  rw[e] at l
  have ed:d'=d:=WM.IsD.uniq l h
  subst ed
  refine L.bd (some d') ?_ d' rfl
  unfold fnl at e
  rw[if_pos y0,List.getD_eq_getElem?_getD] at e
  cases e2:(M.getD x.toNat [])[y.toNat]? with
  | none=>rw[e2] at e;cases e
  | some o=>
   rw[e2] at e
   have eo:o=some d':=e
   rw[<-eo]
   exact List.mem_of_getElem? e2
def RkOf (n:Int)(os:List Int)(rk:Int->Int):Prop:=∀p,0<=p->p<n->0<=rk p/\os[(rk p).toNat]? = some p
def LabsOf (ts:List T3)(n:Int)(rk:Int->Int)(ess:List (List En)):Prop:=ess.length=n.toNat/\∀(i:Nat)(es:List En),ess[i]? = some es->LabOf ts n rk i es
def spByo (PT:Addr):Sp:=fun vs H Q _=>∃(wa p:Addr)(n:Int)(ts:List T3)(os:List Int),vs=[.ref wa,.ref p]/\WebAt H wa n ts/\H p=some (.tup (os.map V.int))/\Ordr n os/\Tb H PT /\
 ∀(l:Addr)(ess:List (List En))(rk:Int->Int)(H':Hp),SmT H H'->Tb H' PT->LabsAt H' l ess->RkOf n os rk->LabsOf ts n rk ess->(∀es∈ess,∀e∈es,0<=e.l/\e.l<=2376)->Q (.ref l) H'
theorem Ordr.mem {n:Int}{os:List Int}(O:Ordr n os){p:Int}(h0:0<=p)(h1:p<n):p∈os:=by
 apply Classical.byContradiction
 intro hn
 have:=nd_len (n:=n.toNat) (l:=p::os) (List.nodup_cons.mpr ⟨hn,O.nd⟩) fun x hx=>by
  rcases List.mem_cons.mp hx with rfl | hx
  . omega
  . have:=O.rng x hx;omega
 rw[List.length_cons,O.ln] at this
 omega
section
variable {P:Program}{w:World}{K:PySem.W.Frag}{mg:Str->Option Value}{base:Heap}{PT:Addr}
theorem scLbr:FnScope ["web", "rows", "ranks", "place", "hubs"] ["web", "rows", "ranks", "place"] (defScope sLbr):=⟨rfl,rfl,rfl,by decide +kernel,rfl,by decide +kernel,by decide +kernel⟩
theorem ok_lbr {f fI fE:Addr}{fd' fdI fdE:FuncData}(F:Fun K "label_by_ranks" "label_by_ranks" sLbr f fd') (FI:Fun K "is_hub" "is_hub" sIsh fI fdI) (bI:Binds K fdI ["rows", "ranks", "hub", "place"] []) (mI:mg "is_hub" = some (.ref fI)) (GI:FnOk P w K mg base CX0 4 fI fdI ["rows", "ranks", "hub", "place"] spIsh)
 (FE:Fun K "entry_by_rows" "entry_by_rows" sEbr fE fdE) (bE:Binds K fdE ["web", "rows", "place", "hub"] []) (mE:mg "entry_by_rows" = some (.ref fE)) (GE:FnOk P w K mg base CX0 4 fE fdE ["web", "rows", "place", "hub"] spEbr) (mRange:mg "range" = none) (mTuple:mg "tuple" = none) :
 FnOk P w K mg base CX0 5 f fd' ["web", "rows", "ranks", "place"] spLbr:=by
 refine F.ok scLbr (fun vs H Q E h=>?_) (fun cdv A outer s H vs Q E hr h=>?_)
 . obtain⟨wa,rl,ra,rs,M,rks,n,ts,v,rfl,_⟩:=h
   rfl
 . obtain⟨wa,rl,ra,rs,M,rks,n,ts,v,rfl,W,L,v0,v1,k⟩:=h
   obtain⟨ta,tys,hwa,_,_,G⟩:=id W
   have hn1:=G.n1
   have hn24:=G.n24
   refine⟨_,pss_cons (ps_setC (i:=4) (own:=["hub"]) (cn:=["rows", "ranks", "place"]) (ci:=[1,2,3]) scLbr.nd rfl (Or.inl rfl) rfl (csc rfl rfl) ⟨rfl,rfl,rfl,rfl,rfl,rfl,rfl,rfl,rfl,trivial⟩ rfl
    (pi_range1 rfl mRange (pa_cons (pe_ix ix_tup (pv 0) pe_int (fun _ _=>rfl)) pa_nil)) (fun _ _ _ _=>pg_name (i:=0) (nd_of rfl) rfl (Or.inl rfl))
    (fun _ _ _ _=>pts_one (pt_val (pe_call GI hr rfl mI FI.kp bI .nil pass0 (pa_cons (pv 1) (pa_cons (pv 2) (pa_cons (pv 0) (pa_cons (pv 3) pa_nil))))))) (fun _ _ _ _=>pv 0))
    (pss_one (ps_ret (pe_callTy call_tuple_of (by rfl) mTuple (by decide +kernel) (pa_cons (pe_comp (own:=["hub"]) (cn:=["web", "rows", "place"]) (ci:=[0,1,3]) rfl (csc rfl rfl) ⟨rfl,rfl,rfl,rfl,rfl,rfl,rfl,rfl,rfl,trivial⟩ rfl
     (pi_list (pv 4)) (fun _ _ _ _=>pg_name (i:=0) (nd_of rfl) rfl (Or.inl rfl)) (fun _ _ _ _=>pts_nil)
     (fun _ _ _ _=>pe_call GE hr rfl mE FE.kp bE .nil pass0 (pa_cons (pv 1) (pa_cons (pv 2) (pa_cons (pv 3) (pa_cons (pv 0) pa_nil)))))) pa_nil)))),?_⟩
   refine⟨_,rfl,wa,_,_,_,rfl,rfl,SqT.of hwa,rfl,n,rfl,by omega,by omega,[.ref rl,.ref ra,.int v],rfl,fun D hD=>?_⟩
   refine comp_range (lo:=0) (n:=n.toNat) (fun q ys H3=>q<=n.toNat/\(∃hs:List Int,ys=hs.map V.int/\hs.Pairwise (· < ·)/\∀p,p∈hs↔(0<=p/\p<(q:Int))/\HubOf ts (rkf rks) p v)/\Same H H3/\H3 D=some (.lst ys)) ⟨Nat.zero_le _,⟨[],rfl,List.Pairwise.nil,fun p=>⟨fun z=>by simp at z,fun z=>absurd z.1 (by omega)⟩⟩,same_laid hD,upd_same⟩ (fun q ys H3 z=>?_) (fun q ys H3 hq z=>?_) (fun ys H3 z=>?_)
   . obtain⟨hq,⟨hs,rfl,hp,hm⟩,_⟩:=z
     rw[List.length_map]
     have:=nd_len (n:=q) (l:=hs) (hp.imp fun z=>by omega) fun x hx=>by have:=((hm x).mp hx).1;omega
     exact small_line (by omega)
   . obtain⟨_,⟨hs,rfl,hp,hm⟩,s3,hD3⟩:=z
     rw[Int.zero_add]
     refine⟨⟨rfl,rfl⟩,?_⟩
     refine⟨_,rfl,_,rfl,_,rfl,_,rfl,rl,ra,rs,M,rks,n,ts,q,v,rfl,L.same s3,by omega,by omega,v0,v1,fun b H4 s4 hb=>?_⟩
     refine⟨_,rfl,?_⟩
     refine ite2 (fun c=>?_) (fun c=>?_)
     . refine⟨_,rfl,s4 _ _ hD3,hq,⟨hs++[(q:Int)],by rw[List.map_append];rfl,List.pairwise_append.mpr ⟨hp,List.pairwise_singleton _ _,fun a ha b hb'=>?_⟩,fun p=>?_⟩,same_chg (s3.trans s4) hD,upd_same⟩
       . have:b=(q:Int):=by simpa using hb'
         have:=((hm a).mp ha).1
         omega
       . rw[List.mem_append,hm]
         constructor
         . rintro (⟨a,b⟩ | a)
           . exact⟨by omega,b⟩
           . have:p=(q:Int):=by simpa using a
             subst this
             exact⟨by omega,hb.mp c⟩
         . rintro ⟨a,b⟩
           by_cases e:p=(q:Int)
           . exact .inr (by simpa using e)
           . exact .inl ⟨by omega,b⟩
     . refine⟨hq,⟨hs,rfl,hp,fun p=>?_⟩,s3.trans s4,s4 _ _ hD3⟩
       rw[hm]
       constructor
       . rintro ⟨a,b⟩;exact⟨by omega,b⟩
       . rintro ⟨a,b⟩
         refine⟨?_,b⟩
         have:p≠(q:Int):=fun z=>by subst z;exact c (hb.mpr b)
         omega
   . obtain⟨_,⟨hs,rfl,hp,hm⟩,s3,hD3⟩:=z
     have hsl:hs.length<=24:=by
      have:=nd_len (n:=n.toNat) (l:=hs) (hp.imp fun z=>by omega) fun x hx=>by have:=((hm x).mp hx).1;omega
      omega
     refine⟨_,rfl,D,rfl,⟨_,SqL.of hD3⟩,[.ref wa,.ref rl,.int v],rfl,fun D2 hD2=>?_⟩
     refine comp_list (a:=D) (xs:=hs.map V.int) (fun i ys H5=>i<=hs.length/\(∃(as:List Addr)(es:List En),ys=as.map V.ref/\EnsAt H5 as es/\es.map (·.h)=hs.take i/\∀e∈es,EntOf ts n (rkf rks) v e)/\Same H3 H5/\H5 D2=some (.lst ys)) ⟨Nat.zero_le _,⟨[],[],rfl,⟨rfl,fun i a z=>by simp at z⟩,rfl,by simp⟩,same_laid hD2,upd_same⟩ (fun i ys H5 z=>?_) (fun i ys H5 z=>?_) (fun i x ys H5 hx z=>?_) (fun ys H5 z=>?_)
     . exact SqL.of (z.2.2.1 _ _ hD3)
     . obtain⟨_,⟨as,es,rfl,EA,em,_⟩,_⟩:=z
       have:=congrArg List.length em
       rw[List.length_map,List.length_take] at this
       rw[List.length_map,EA.1]
       exact small_line (by omega)
     . obtain⟨_,⟨as,es,rfl,EA,em,he⟩,s5,hD5⟩:=z
       obtain⟨p,hpi,rfl⟩:∃p,hs[i]? = some p/\V.int p=x:=by
        rw[List.getElem?_map] at hx
        cases e:hs[i]? with
        | none=>rw[e] at hx;cases hx
        | some p=>rw[e] at hx;exact⟨p,rfl,Option.some.inj hx⟩
       have hpm:=(hm p).mp (List.mem_of_getElem? hpi)
       have s35:=s3.trans s5
       refine⟨⟨rfl,rfl⟩,?_⟩
       refine tyes ?_
       refine⟨_,rfl,_,rfl,_,rfl,_,rfl,wa,rl,ra,rs,M,rks,n,ts,v,p,rfl,W.keep s35,L.same s35,by omega,by omega,v0,v1,hpm.2,fun a e H6 s6 ha ep he'=>?_⟩
       refine⟨s6 _ _ hD5,(List.getElem?_eq_some_iff.mp hpi).1,⟨as++[a],es++[e],by rw[List.map_append];rfl,(EA.keep fun b zs z=>?_).snoc ?_,?_,fun x hx'=>?_⟩,same_chg (s5.trans s6) hD2,upd_same⟩
       . rw[upd_ne (ne_of z hD5 (by intro y;cases y))];exact s6 _ _ z
       . rw[upd_ne (ne_of ha (s6 _ _ hD5) (by intro y;cases y))];exact ha
       . rw[List.map_append,em,List.take_add_one,hpi,<-ep];rfl
       . rcases List.mem_append.mp hx' with z | z
         . exact he x z
         . have:x=e:=by simpa using z
           subst this;exact he'
     . obtain⟨_,⟨as,es,rfl,EA,em,he⟩,s5,hD5⟩:=z
       rw[List.length_map,List.take_of_length_le (Nat.le_refl _)] at em
       have hel:es.length<=24:=by have:=congrArg List.length em;rw[List.length_map] at this;omega
       refine⟨D2,_,rfl,.inl ⟨SqL.of hD5,fun l hl=>?_⟩⟩
       refine k l es _ ((s3.trans s5).trans (same_laid hl)) ⟨as,upd_same,EA.keep fun b zs z=>same_laid hl _ _ z,by omega⟩ ⟨?_,he,fun h h0 h1 z=>?_,hel⟩
       . have:=hp
         rw[<-em,List.pairwise_map] at this
         exact this
       . have:h∈es.map (·.h):=by rw[em];exact (hm h).mpr ⟨by omega,z⟩
         obtain⟨e,e1,e2⟩:=List.mem_map.mp this
         exact⟨e,e1,e2⟩
theorem scByo:FnScope ["web", "order", "rows", "ranks"] ["web", "order"] (defScope sByo):=⟨rfl,rfl,rfl,by decide +kernel,rfl,by decide +kernel,by decide +kernel⟩
theorem ok_byo {f fO fL fB:Addr}{fd' fdO fdL fdB:FuncData}(F:Fun K "by_order" "by_order" sByo f fd') (FO:Fun K "is_order" "is_order" sOrd fO fdO) (bO:Binds K fdO ["web", "thing"] []) (mO:mg "is_order" = some (.ref fO)) (GO:FnOk P w K mg base CX0 5 fO fdO ["web", "thing"] spOrd)
 (FL:Fun K "lengths" "lengths" sLens fL fdL) (bL:Binds K fdL ["web"] []) (mL:mg "lengths" = some (.ref fL)) (GL:FnOk P w K mg base CX0 5 fL fdL ["web"] (spLens PT))
 (FB:Fun K "label_by_ranks" "label_by_ranks" sLbr fB fdB) (bB:Binds K fdB ["web", "rows", "ranks", "place"] []) (mB:mg "label_by_ranks" = some (.ref fB)) (GB:FnOk P w K mg base CX0 5 fB fdB ["web", "rows", "ranks", "place"] spLbr) (mRange:mg "range" = none) (mTuple:mg "tuple" = none) :
 FnOk P w K mg base CX0 6 f fd' ["web", "order"] (spByo PT):=by
 refine F.ok scByo (fun vs H Q E h=>?_) (fun cdv A outer s H vs Q E hr h=>?_)
 . obtain⟨wa,p,n,ts,os,rfl,_⟩:=h
   rfl
 . obtain⟨wa,p,n,ts,os,rfl,W,hp,O,T,k⟩:=h
   obtain⟨ta,tys,hwa,_,_,G⟩:=id W
   have hn1:=G.n1
   have hn24:=G.n24
   refine⟨_,pss_cons (ps_if (pt_not (pt_val (pe_call GO hr rfl mO FO.kp bO .nil pass0 (pa_cons (pv 0) (pa_cons (pv 1) pa_nil))))) (pss_one ps_no) pss_nil)
    (pss_cons (ps_set (i:=2) scByo.nd rfl (Or.inr rfl) (pe_call GL hr rfl mL FL.kp bL .nil pass0 (pa_cons (pv 0) pa_nil)))
    (pss_cons (ps_set (i:=3) scByo.nd rfl (Or.inr rfl) (pe_comp (own:=["place"]) (cn:=["order"]) (ci:=[1]) rfl (csc rfl rfl) ⟨rfl,rfl,rfl,trivial⟩ rfl
     (pi_range1 rfl mRange (pa_cons (pe_ix ix_tup (pv 0) pe_int (fun _ _=>rfl)) pa_nil)) (fun _ _ _ _=>pg_name (i:=0) (nd_of rfl) rfl (Or.inl rfl)) (fun _ _ _ _=>pts_nil)
     (fun _ _ _ _=>pe_bmT PySem.F.slot_tuple_index PySem.F.type_tuple_index mt_indexC (pv 1) (pa_cons (pv 0) pa_nil))))
    (pss_one (ps_ret (pe_callTy call_tuple_of (by rfl) mTuple (by decide +kernel) (pa_cons (pe_comp (own:=["place"]) (cn:=["web", "rows", "ranks"]) (ci:=[0,2,3]) rfl (csc rfl rfl) ⟨rfl,rfl,rfl,rfl,rfl,rfl,rfl,rfl,rfl,trivial⟩ rfl
     (pi_range1 rfl mRange (pa_cons (pe_ix ix_tup (pv 0) pe_int (fun _ _=>rfl)) pa_nil)) (fun _ _ _ _=>pg_name (i:=0) (nd_of rfl) rfl (Or.inl rfl)) (fun _ _ _ _=>pts_nil)
     (fun _ _ _ _=>pe_call GB hr rfl mB FB.kp bB .nil pass0 (pa_cons (pv 1) (pa_cons (pv 2) (pa_cons (pv 3) (pa_cons (pv 0) pa_nil)))))) pa_nil)))))),?_⟩
   refine⟨_,rfl,_,rfl,wa,p,n,ts,os,rfl,W,hp,O,fun H0 s0=>?_⟩
   refine⟨_,rfl,iteF ?_⟩
   refine⟨_,rfl,wa,n,ts,rfl,W.keep s0,T.same s0,fun rl rs M H1 sm1 T1 hrl RA RR=>?_⟩
   have sm01:SmT H H1:=(SmT.of s0).trans sm1
   have hwa1:H1 wa=some (.tup [.int n,.ref ta]):=sm01.get hwa (by intro ps z;cases z)
   have hp1:H1 p=some (.tup (os.map V.int)):=sm01.get hp (by intro ps z;cases z)
   have W1:WebAt H1 wa n ts:=W.smT sm01
   refine⟨_,rfl,wa,_,_,_,rfl,rfl,SqT.of hwa1,rfl,n,rfl,by omega,by omega,[.ref p],rfl,fun D hD=>?_⟩
   refine comp_range (lo:=0) (n:=n.toNat) (fun q ys H3=>q<=n.toNat/\(∃rk:List Int,ys=rk.map V.int/\rk.length=q/\∀(j:Nat)(x:Int),rk[j]? = some x->0<=x/\os[x.toNat]? = some (j:Int))/\H3=upd H1 D (.lst ys)) ⟨Nat.zero_le _,⟨[],rfl,rfl,fun j x z=>by simp at z⟩,rfl⟩ (fun q ys H3 z=>?_) (fun q ys H3 hq z=>?_) (fun ys H3 z=>?_)
   . obtain⟨_,⟨rk,rfl,hl,_⟩,_⟩:=z
     rw[List.length_map]
     exact small_line (by omega)
   . obtain⟨_,⟨rk,rfl,hl,hrk⟩,rfl⟩:=z
     rw[Int.zero_add]
     obtain⟨i,hi,ei⟩:=List.getElem_of_mem (O.mem (p:=(q:Int)) (by omega) (by omega))
     have hoi:os[i]? = some (q:Int):=by rw[List.getElem?_eq_getElem hi,ei]
     have hp3:=same_laid (o:=.lst (rk.map V.int)) hD _ _ hp1
     refine⟨⟨rfl,rfl⟩,?_⟩
     refine tyes ?_
     refine⟨_,rfl,⟨p,_,rfl,hp3⟩,_,rfl,p,os,i,q,rfl,rfl,SqT.of hp3,hoi,fun j hj e=>?_,upd_same,hq,⟨rk++[(i:Int)],by rw[List.map_append];rfl,by rw[List.length_append,hl];rfl,fun j x hx=>?_⟩,upd_upd⟩
     . obtain⟨hj',ej⟩:=List.getElem?_eq_some_iff.mp e
       exact List.pairwise_iff_getElem.mp (List.nodup_iff_pairwise_ne.mp O.nd) j i hj' hi hj (by rw[ej,ei])
     . by_cases c:j<rk.length
       . rw[List.getElem?_append_left c] at hx
         exact hrk j x hx
       . have hj:j=q:=by
          have:=(List.getElem?_eq_some_iff.mp hx).1
          rw[List.length_append] at this
          simp at this;omega
         subst hj
         rw[List.getElem?_append_right (by omega),hl,Nat.sub_self] at hx
         have:(i:Int)=x:=by simpa using hx
         subst this
         exact⟨by omega,hoi⟩
   . obtain⟨_,⟨rk,rfl,hl,hrk⟩,rfl⟩:=z
     have sD:Same H1 (upd H1 D (.lst (rk.map V.int))):=same_laid hD
     have hDr:(upd H1 D (.lst (rk.map V.int))) D=some (.lst (rk.map V.int)):=upd_same
     generalize upd H1 D (.lst (rk.map V.int))=H4 at sD hDr ⊢
     have L:Look H4 rl D rs M rk n ts:=⟨sD _ _ hrl,RA.same sD,RR,hDr,hl,G⟩
     have W4:=W1.keep sD
     refine⟨_,rfl,wa,_,_,_,rfl,rfl,SqT.of (sD _ _ hwa1),rfl,n,rfl,by omega,by omega,[.ref wa,.ref rl,.ref D],rfl,fun D2 hD2=>?_⟩
     refine comp_range (lo:=0) (n:=n.toNat) (fun q ys H5=>q<=n.toNat/\(∃(as:List Addr)(ess:List (List En)),ys=as.map V.ref/\as.length=q/\ess.length=q/\(∀(i:Nat)(a:Addr),as[i]? = some a->∃es,ess[i]? = some es/\LabAt H5 a es)/\∀(i:Nat)(es:List En),ess[i]? = some es->LabOf ts n (rkf rk) i es)/\Same H4 H5/\H5 D2=some (.lst ys)) ⟨Nat.zero_le _,⟨[],[],rfl,rfl,rfl,fun i a z=>by simp at z,fun i a z=>by simp at z⟩,same_laid hD2,upd_same⟩ (fun q ys H5 z=>?_) (fun q ys H5 hq z=>?_) (fun ys H5 z=>?_)
     . obtain⟨_,⟨as,ess,rfl,h1,_⟩,_⟩:=z
       rw[List.length_map]
       exact small_line (by omega)
     . obtain⟨_,⟨as,ess,rfl,h1,h2,h3,h4⟩,s5,hD5⟩:=z
       rw[Int.zero_add]
       refine⟨⟨rfl,rfl⟩,?_⟩
       refine tyes ?_
       refine⟨_,rfl,_,rfl,_,rfl,_,rfl,wa,rl,D,rs,M,rk,n,ts,q,rfl,W4.keep s5,L.same s5,by omega,by omega,fun a es H6 s6 la lo=>?_⟩
       refine⟨s6 _ _ hD5,hq,⟨as++[a],ess++[es],by rw[List.map_append];rfl,by rw[List.length_append,h1];rfl,by rw[List.length_append,h2];rfl,fun i b hb=>?_,fun i es' he=>?_⟩,same_chg (s5.trans s6) hD2,upd_same⟩
       . have keep:∀c zs,H6 c=some (.tup zs)->(upd H6 D2 (.lst (as.map V.ref++[.ref a]))) c=some (.tup zs):=fun c zs z=>by rw[upd_ne (ne_of z (s6 _ _ hD5) (by intro y;cases y))];exact z
         by_cases c:i<as.length
         . rw[List.getElem?_append_left c] at hb
           obtain⟨es',e1,e2⟩:=h3 i b hb
           exact⟨es',by rw[List.getElem?_append_left (by omega)];exact e1,(e2.same s6).keep keep⟩
         . have hi:i=q:=by
            have:=(List.getElem?_eq_some_iff.mp hb).1
            rw[List.length_append] at this
            simp at this;omega
           subst hi
           rw[List.getElem?_append_right (by omega),h1,Nat.sub_self] at hb
           have:a=b:=by simpa using hb
           subst this
           exact⟨es,by rw[List.getElem?_append_right (by omega),h2,Nat.sub_self];rfl,la.keep keep⟩
       . by_cases c:i<ess.length
         . rw[List.getElem?_append_left c] at he
           exact h4 i es' he
         . have hi:i=q:=by
            have:=(List.getElem?_eq_some_iff.mp he).1
            rw[List.length_append] at this
            simp at this;omega
           subst hi
           rw[List.getElem?_append_right (by omega),h2,Nat.sub_self] at he
           have:es=es':=by simpa using he
           subst this
           exact lo
     . obtain⟨_,⟨as,ess,rfl,h1,h2,h3,h4⟩,s5,hD5⟩:=z
       refine⟨D2,_,rfl,.inl ⟨SqL.of hD5,fun l hl'=>?_⟩⟩
       have s6:Same H1 (upd H5 l (.tup (as.map V.ref))):=(sD.trans s5).trans (same_laid hl')
       refine k l ess (rkf rk) _ (sm01.trans (SmT.of s6)) (T1.same s6) ⟨as,upd_same,by omega,fun i a ha=>?_⟩ (fun p h0 h1'=>?_) ⟨h2,h4⟩ ?bound
       case bound=>
        intro es hes e he
        obtain⟨i,hi,ei⟩:=List.getElem_of_mem hes
        have EO:=(h4 i es (by rw[List.getElem?_eq_getElem hi,ei])).ent e he
        exact rows_bd RR (by omega) (by omega) EO.rng.1 EO.rng.2 EO.len
       . obtain⟨es,e1,e2⟩:=h3 i a ha
         exact⟨es,e1,e2.same (same_laid hl')⟩
       . have hlt:p.toNat<rk.length:=by omega
         have e:rk[p.toNat]? = some (rkf rk p):=by
          unfold rkf
          rw[List.getD_eq_getElem?_getD,List.getElem?_eq_getElem hlt];rfl
         obtain⟨a,b⟩:=hrk _ _ e
         exact⟨a,by rw[b,Int.toNat_of_nonneg h0]⟩
end
theorem erase_map:∀(l:List Int)(k:Nat),(l.map V.int).eraseIdx k=(l.eraseIdx k).map V.int
 | [],_=>rfl
 | _::_,0=>rfl
 | x::r,k+1=>by
  show V.int x::(r.map V.int).eraseIdx k=V.int x::(r.eraseIdx k).map V.int
  rw[erase_map r k]
theorem erase_perm:∀{l:List Int}{k:Nat}(h:k<l.length),(l[k]::l.eraseIdx k).Perm l
 | [],_,h=>absurd h (Nat.not_lt_zero _)
 | _::_,0,_=>List.Perm.refl _
 | x::r,k+1,h=>by
  have hk:k<r.length:=by simpa using h
  show (r[k]::x::r.eraseIdx k).Perm (x::r)
  exact (List.Perm.swap x r[k] _).trans ((erase_perm hk).cons x)
def spOrder:Sp:=fun vs H Q _=>∃(t:Addr)(N:Nat)(n:Int),vs=[.ref t,.int n]/\TapeAt H t N/\N<900000/\1<=n/\n<=24 /\
 ∀(l:Addr)(os:List Int)(H':Hp),H' l=some (.tup (os.map V.int))->Ordr n os->TapeAt H' t (N+24)->Sm t H H'->Q (.ref l) H'
section
variable {P:Program}{w:World}{K:PySem.W.Frag}{mg:Str->Option Value}{base:Heap}
theorem scOrder:FnScope ["_law_tape_here", "_law_n_here", "_law_left", "_law_found", "_law_k"] ["_law_tape_here", "_law_n_here"] (defScope sOrder):=⟨rfl,rfl,rfl,by decide +kernel,rfl,by decide +kernel,by decide +kernel⟩
theorem ok_order {f fD:Addr}{fd' fdD:FuncData}(F:Fun K "_law_order" "_law_order" sOrder f fd') (FD:Fun K "_law_draw" "_law_draw" sDraw fD fdD) (bD:Binds K fdD ["_law_tape_here", "_law_many"] []) (mD:mg "_law_draw" = some (.ref fD))
 (mLen:mg "len" = none) (mRange:mg "range" = none) (mTuple:mg "tuple" = none) (mList:mg "list" = none):FnOk P w K mg base CX0 2 f fd' ["_law_tape_here", "_law_n_here"] spOrder:=by
 have GD:FnOk P w K mg base CX0 1 fD fdD ["_law_tape_here", "_law_many"] spDrawP:=ok_drawP FD mLen
 refine F.ok scOrder (fun vs H Q E h=>?_) (fun cdv A outer s H vs Q E hr h=>?_)
 . obtain⟨t,N,n,rfl,_⟩:=h
   rfl
 . obtain⟨t,N,n,rfl,TT,hN,hn1,hn24,k⟩:=h
   obtain⟨tp,TP⟩:=TT
   refine⟨_,pss_cons (ps_set (i:=2) scOrder.nd rfl (Or.inl rfl) (pe_lrange rfl rfl mList rfl mRange (pa_cons (pv 1) pa_nil)))
    (pss_cons (ps_set (i:=3) scOrder.nd rfl (Or.inl rfl) (pe_lst pa_nil))
    (pss_cons (ps_for PassesOwn.never rfl (pi_range1 rfl mRange (pa_cons (pv 1) pa_nil)) (pg_name (i:=4) scOrder.nd rfl (Or.inl rfl))
     (pss_one (ps_expr (pe_bm PySem.F.plainAttrs_list PySem.F.slot_list_append PySem.F.type_list_append mt_append (pv 3)
      (pa_cons (pe_bm PySem.F.plainAttrs_list PySem.F.slot_list_pop PySem.F.type_list_pop mt_popAt (pv 2)
       (pa_cons (pe_call GD hr rfl mD FD.kp bD .nil pass0 (pa_cons (pv 0) (pa_cons (pe_callB call_len_seq (by rfl) mLen PySem.boot_len (pa_cons (pv 2) pa_nil)) pa_nil))) pa_nil)) pa_nil)))))
    (pss_one (ps_ret (pe_callTy call_tuple_of (by rfl) mTuple (by decide +kernel) (pa_cons (pv 3) pa_nil)))))),?_⟩
   refine⟨_,rfl,n,rfl,by omega,by omega,fun lf hlf=>?_⟩
   obtain⟨ns0,sp0,re0,ht0,hp0,_⟩:=id TP
   have nlt:lf≠t:=(ne_of_none ht0 hlf).symm
   have nlp:lf≠tp:=(ne_of_none hp0 hlf).symm
   refine⟨Nat.zero_le _,fun D hD=>?_⟩
   have nDl:D≠lf:=fun z=>by rw[z,upd_same] at hD;cases hD
   have hD0:H D=none:=by rw[upd_ne nDl] at hD;exact hD
   have nDt:D≠t:=(ne_of_none ht0 hD0).symm
   have nDp:D≠tp:=(ne_of_none hp0 hD0).symm
   refine⟨_,rfl,n,rfl,by omega,by omega,for_range (lo:=0) (n:=n.toNat) (fun q σ H2=>∃(v4:Option V)(row left:List Int),σ=[some (.ref t),some (.int n),some (.ref lf),some (.ref D),v4]/\row.length=q/\(row++left).Perm (lowTo n.toNat)/\H2 lf=some (.lst (left.map V.int))/\H2 D=some (.lst (row.map V.int))/\TapeP H2 t tp (N+q)/\Sm t H H2)
    ⟨none,[],lowTo n.toNat,rfl,rfl,List.Perm.refl _,by rw[upd_ne nDl.symm,upd_same],upd_same,TP.keepF (fun o e=>by rw[upd_ne nDt.symm,upd_ne nlt.symm];exact e) (fun o e=>by rw[upd_ne nDp.symm,upd_ne nlp.symm];exact e) (by omega),(Sm.laid hlf).chg hD0⟩ ?turn ?after⟩
   case after=>
    rintro σ H2 ⟨v4,row,left,rfl,hl,hp,hlf2,hD2,TP2,s2⟩
    have hleft:left=[]:=by
     have:=hp.length_eq
     rw[List.length_append,ints_len,hl] at this
     exact List.length_eq_zero_iff.mp (by omega)
    subst hleft
    rw[List.append_nil] at hp
    have nd:row.Nodup:=hp.nodup_iff.mpr ((ints_rise _).imp fun h=>by omega)
    refine⟨_,rfl,D,_,rfl,.inl ⟨SqL.of hD2,fun l hl'=>?_⟩⟩
    refine k l row _ upd_same ⟨hl,nd,fun p hp'=>?_⟩ (TapeAt.mono (TapeAt.laid ⟨tp,TP2⟩ hl') (by omega)) (s2.trans (Sm.laid hl'))
    have:=mem_ints.mp (hp.mem_iff.mp hp')
    omega
   case turn=>
    rintro q σ H2 hq ⟨v4,row,left,rfl,hl,hp,hlf2,hD2,TP2,s2⟩
    have hll:row.length+left.length=n.toNat:=by
     have:=hp.length_eq
     rw[List.length_append,ints_len] at this
     exact this
    refine⟨_,rfl,.inl ⟨rfl,_,SqL.of hD2⟩,_,rfl,.inl ⟨rfl,_,SqL.of hlf2⟩,?_⟩
    refine⟨_,rfl,_,rfl,lf,_,rfl,.inl (SqL.of hlf2),t,tp,N+q,_,rfl,TP2,by omega,by rw[List.length_map];omega,by rw[List.length_map];omega,fun rr H3 h0 h1 TP3 e3=>?_⟩
    rw[List.length_map] at h1
    have hlt:rr.toNat<left.length:=by omega
    refine⟨lf,left.map V.int,rr,rr.toNat,.int left[rr.toNat],rfl,rfl,by rw[e3 lf nlt];exact hlf2,by omega,by omega,PySem.StrLaws.seqIndex_nonneg h0 (by rw[List.length_map];omega),by rw[List.getElem?_map,List.getElem?_eq_getElem hlt];rfl,?_⟩
    rw[erase_map left rr.toNat]
    have s3:Sm t H H3:=fun b o nb e=>by rw[e3 b nb];exact s2 b o nb e
    have hlf0:H lf=none:=hlf
    refine⟨D,_,_,rfl,rfl,by rw[upd_ne nDl,e3 D nDt];exact hD2,by rw[List.length_map];exact small_line (by omega),?_⟩
    refine⟨_,row++[left[rr.toNat]],left.eraseIdx rr.toNat,rfl,by rw[List.length_append,hl];rfl,?_,by rw[upd_ne nDl.symm,upd_same],by rw[List.map_append];exact upd_same,TP3.keepF (fun o e=>by rw[upd_ne nDt.symm,upd_ne nlt.symm];exact e) (fun o e=>by rw[upd_ne nDp.symm,upd_ne nlp.symm];exact e) (by omega),(s3.chg hlf0).chg hD0⟩
    refine List.Perm.trans ?_ hp
    rw[List.append_assoc]
    exact (erase_perm hlt).append_left row
end
def spRow:Sp:=fun vs H Q _=>∃(t:Addr)(N:Nat),vs=[.ref t]/\TapeAt H t N/\N<900000/\∀(wa:Addr)(n:Int)(ts:List T3)(H':Hp),WebAt H' wa n ts->TapeAt H' t (N+100)->Sm t H H'->Q (.ref wa) H'
def RowTie (row:List Int)(i:Nat)(t:T3):Prop:=∃x y,row[i]? = some x/\row[i+1]? = some y/\t.1<t.2.1/\((t.1=x/\t.2.1=y)\/(t.1=y/\t.2.1=x))/\1<=t.2.2/\t.2.2<=99
theorem row_gw {n:Int}{row:List Int}{ts ts':List T3}(h1:1<=n)(h24:n<=24)(hp:row.Perm (lowTo n.toNat))(hl:ts.length+1=n.toNat)(ht:∀i t,ts[i]? = some t->RowTie row i t)(hq:ts'.Perm ts):GW n ts':=by
 have nd:row.Nodup:=hp.nodup_iff.mpr ((ints_rise _).imp fun h=>by omega)
 have inr:∀x∈row,0<=x/\x<n:=fun x hx=>by
  have:=mem_ints.mp (hp.mem_iff.mp hx)
  omega
 refine⟨h1,h24,by rw[hq.length_eq];omega,fun t htt=>?_,?_⟩
 . obtain⟨i,hi,e⟩:=List.getElem_of_mem (hq.mem_iff.mp htt)
   obtain⟨x,y,hx,hy,hlt,hor,c1,c2⟩:=ht i t (by rw[List.getElem?_eq_getElem hi,e])
   have a:=inr x (List.mem_of_getElem? hx)
   have b:=inr y (List.mem_of_getElem? hy)
   rcases hor with ⟨e1,e2⟩ | ⟨e1,e2⟩ <;> omega
 . refine (hq.pairwise_iff (fun {a b} h z=>h ⟨z.1.symm,z.2.symm⟩)).mpr ?_
   refine List.pairwise_iff_getElem.mpr fun i j hi hj hij=>?_
   obtain⟨x,y,hx,hy,hlt,hor,_⟩:=ht i ts[i] (List.getElem?_eq_getElem hi)
   obtain⟨x',y',hx',hy',hlt',hor',_⟩:=ht j ts[j] (List.getElem?_eq_getElem hj)
   rintro ⟨e1,e2⟩
   have inj:∀{a b:Nat}{v:Int},row[a]? = some v->row[b]? = some v->a=b:=fun {a b v} h h'=>(List.getElem?_inj (List.getElem?_eq_some_iff.mp h).1 nd).mp (h.trans h'.symm)
   rcases hor with ⟨p1,p2⟩ | ⟨p1,p2⟩ <;> rcases hor' with ⟨q1,q2⟩ | ⟨q1,q2⟩
   . have:x=x':=by omega
     rw[this] at hx
     have:=inj hx hx'
     omega
   . have f1:x=y':=by omega
     have f2:y=x':=by omega
     rw[f1] at hx
     rw[f2] at hy
     have:=inj hx hy'
     omega
   . have f1:y=x':=by omega
     have f2:x=y':=by omega
     rw[f2] at hx
     have:=inj hx hy'
     omega
   . have:x=x':=by omega
     rw[this] at hx
     have:=inj hx hx'
     omega
theorem cut2 {row:List Int}{i:Nat}{x y:Int}(hx:row[i]? = some x)(hy:row[i+1]? = some y):cutV (row.map V.int) (some (i:Int)) (some ((i:Int)+2))=[x,y].map V.int:=by
 have h1:=(List.getElem?_eq_some_iff.mp hx)
 have h2:=(List.getElem?_eq_some_iff.mp hy)
 obtain⟨b1,e1⟩:=h1
 obtain⟨b2,e2⟩:=h2
 have s1:HT.sIx (row.map V.int).length 0 (some (i:Int))=i:=by unfold HT.sIx;rw[List.length_map];simp only;split <;> omega
 have s2:HT.sIx (row.map V.int).length (row.map V.int).length (some ((i:Int)+2))=i+2:=by unfold HT.sIx;rw[List.length_map];simp only;split <;> omega
 unfold cutV
 rw[s1,s2,show i+2-i=2 by omega,<-List.map_drop,<-List.map_take,List.drop_eq_getElem_cons b1,List.drop_eq_getElem_cons b2,e1,e2]
 rfl
theorem two_sorted {x y:Int}(hne:x≠y){ms:List Int}(hp:ms.Perm [x,y])(hr:ms.Pairwise (· <= ·)):∃a b,ms=[a,b]/\a<b/\((a=x/\b=y)\/(a=y/\b=x)):=by
 have hl:=hp.length_eq
 match ms,hl with
 | [a,b],_=>
  have hab:a<=b:=by simpa using hr
  have ha:a=x\/a=y:=by simpa using hp.mem_iff.mp (show a∈[a,b] by simp)
  have hx:x=a\/x=b:=by simpa using hp.mem_iff.mpr (show x∈[x,y] by simp)
  have hy:y=a\/y=b:=by simpa using hp.mem_iff.mpr (show y∈[x,y] by simp)
  refine⟨a,b,rfl,?_,?_⟩
  . omega
  . omega
section
variable {P:Program}{w:World}{K:PySem.W.Frag}{mg:Str->Option Value}{base:Heap}
theorem scRow:FnScope ["_law_tape_here", "_law_n_here", "_law_left", "_law_row", "_law_ties", "_law_k", "_law_pair"] ["_law_tape_here"] (defScope sRow):=⟨rfl,rfl,rfl,by decide +kernel,rfl,by decide +kernel,by decide +kernel⟩
theorem ok_row {f fD:Addr}{fd' fdD:FuncData}(F:Fun K "_law_row_web" "_law_row_web" sRow f fd') (FD:Fun K "_law_draw" "_law_draw" sDraw fD fdD) (bD:Binds K fdD ["_law_tape_here", "_law_many"] []) (mD:mg "_law_draw" = some (.ref fD))
 (mLen:mg "len" = none) (mRange:mg "range" = none) (mTuple:mg "tuple" = none) (mSorted:mg "sorted" = none) (mList:mg "list" = none):FnOk P w K mg base CX0 2 f fd' ["_law_tape_here"] spRow:=by
 have GD:FnOk P w K mg base CX0 1 fD fdD ["_law_tape_here", "_law_many"] spDrawP:=ok_drawP FD mLen
 refine F.ok scRow (fun vs H Q E h=>?_) (fun cdv A outer s H vs Q E hr h=>?_)
 . obtain⟨t,N,rfl,_⟩:=h
   rfl
 . obtain⟨t,N,rfl,TT,hN,k⟩:=h
   obtain⟨tp,TP⟩:=TT
   refine⟨_,pss_cons (ps_set (i:=1) scRow.nd rfl (Or.inl rfl) (pe_op op_add pe_int (pe_call GD hr rfl mD FD.kp bD .nil pass0 (pa_cons (pv 0) (pa_int pa_nil)))))
    (pss_cons (ps_set (i:=2) scRow.nd rfl (Or.inr rfl) (pe_lrange rfl rfl mList rfl mRange (pa_cons (pv 1) pa_nil)))
    (pss_cons (ps_setC (i:=3) (own:=["_law_k"]) (cn:=["_law_left", "_law_tape_here"]) (ci:=[2,0]) scRow.nd rfl (Or.inl rfl) rfl (csc rfl rfl) ⟨rfl,rfl,rfl,rfl,rfl,rfl,trivial⟩ rfl
     (pi_range1 rfl mRange (pa_cons (pv 1) pa_nil)) (fun _ _ _ _=>pg_name (i:=0) (nd_of rfl) rfl (Or.inl rfl)) (fun _ _ _ _=>pts_nil)
     (fun _ _ _ _=>pe_bmC PySem.F.plainAttrs_list PySem.F.slot_list_pop PySem.F.type_list_pop mt_popAt (pv 1)
      (pa_cons (pe_call GD hr rfl mD FD.kp bD .nil pass0 (pa_cons (pv 2) (pa_cons (pe_callB call_len_seqC (by rfl) mLen PySem.boot_len (pa_cons (pv 1) pa_nil)) pa_nil))) pa_nil)))
    (pss_cons (ps_set (i:=4) scRow.nd rfl (Or.inl rfl) (pe_lst pa_nil))
    (pss_cons (ps_for PassesOwn.never rfl (pi_range1 rfl mRange (pa_cons (pe_op op_sub (pv 1) pe_int) pa_nil)) (pg_name (i:=5) scRow.nd rfl (Or.inl rfl))
     (pss_cons (ps_set (i:=6) scRow.nd rfl (Or.inl rfl) (pe_callB call_sortedI (by rfl) mSorted (by decide +kernel) (pa_cons (pe_slice sl_list (pv 3) (po_some (pv 5)) (po_some (pe_op op_add (pv 5) pe_int))) pa_nil)))
     (pss_one (ps_expr (pe_bm PySem.F.plainAttrs_list PySem.F.slot_list_append PySem.F.type_list_append mt_append (pv 4)
      (pa_cons (pe_tup (pa_cons (pe_ix ix_list (pv 6) pe_int (fun _ _=>rfl)) (pa_cons (pe_ix ix_list (pv 6) pe_int (fun _ _=>rfl)) (pa_cons (pe_op op_sub pe_int (pe_call GD hr rfl mD FD.kp bD .nil pass0 (pa_cons (pv 0) (pa_int pa_nil)))) pa_nil)))) pa_nil))))))
    (pss_one (ps_ret (pe_tup (pa_cons (pv 1) (pa_cons (pe_callTy call_tuple_of (by rfl) mTuple (by decide +kernel) (pa_cons (pe_callB call_sorted (by rfl) mSorted (by decide +kernel) (pa_cons (pv 4) pa_nil)) pa_nil)) pa_nil))))))))),?_⟩
   refine⟨_,rfl,t,tp,N,13,rfl,TP,by omega,by decide,by decide,fun r H1 r0 r1 TP1 e1=>?_⟩
   refine⟨12,r,rfl,rfl,?_⟩
   have s1:Sm t H H1:=fun b o nb e=>by rw[e1 b nb];exact e
   dsimp only
   generalize hn:12+r=n
   have hn1:12<=n:=by omega
   have hn24:n<=24:=by omega
   refine⟨_,rfl,n,rfl,by omega,by omega,fun lf hlf=>?_⟩
   have nlt:lf≠t:=by
    obtain⟨ns,spot,rest,a,_⟩:=TP1
    exact (ne_of_none a hlf).symm
   have nlp:lf≠tp:=by
    obtain⟨ns,spot,rest,_,a,_⟩:=TP1
    exact (ne_of_none a hlf).symm
   have hlf0:H lf=none:=by
    cases z:H lf with
    | none=>rfl
    | some o=>rw[s1 _ _ nlt z] at hlf;cases hlf
   refine⟨_,rfl,n,rfl,by omega,by omega,[.ref lf,.ref t],rfl,fun D hD=>?_⟩
   have nDl:D≠lf:=fun z=>by rw[z,upd_same] at hD;cases hD
   have hD1:H1 D=none:=by rw[upd_ne nDl] at hD;exact hD
   have nDt:D≠t:=by
    obtain⟨ns,spot,rest,a,_⟩:=TP1
    exact (ne_of_none a hD1).symm
   have nDp:D≠tp:=by
    obtain⟨ns,spot,rest,_,a,_⟩:=TP1
    exact (ne_of_none a hD1).symm
   have hD0:H D=none:=by
    cases z:H D with
    | none=>rfl
    | some o=>rw[s1 _ _ nDt z] at hD1;cases hD1
   refine comp_range (lo:=0) (n:=n.toNat) (fun q ys H2=>q<=n.toNat/\∃row left:List Int,ys=row.map V.int/\row.length=q/\(row++left).Perm (lowTo n.toNat)/\H2 lf=some (.lst (left.map V.int))/\H2 D=some (.lst ys)/\TapeP H2 t tp (N+1+q)/\Sm t H H2)
    ⟨Nat.zero_le _,[],lowTo n.toNat,rfl,rfl,List.Perm.refl _,by rw[upd_ne nDl.symm,upd_same],upd_same,TP1.keepF (fun o e=>by rw[upd_ne nDt.symm,upd_ne nlt.symm];exact e) (fun o e=>by rw[upd_ne nDp.symm,upd_ne nlp.symm];exact e) (by omega),(s1.chg hlf0).chg hD0⟩ (fun q ys H2 h=>?_) (fun q ys H2 hq h=>?_) (fun ys H2 h=>?_)
   . obtain⟨hq,row,left,rfl,hl,_⟩:=h
     rw[List.length_map,hl]
     exact small_line (by omega)
   . obtain⟨_,row,left,rfl,hl,hp,hlf2,hD2,TP2,s2⟩:=h
     have hll:row.length+left.length=n.toNat:=by
      have:=hp.length_eq
      rw[List.length_append,ints_len] at this
      exact this
     refine⟨⟨rfl,rfl⟩,?_⟩
     refine tyes ?_
     refine⟨_,rfl,.inl ⟨rfl,_,SqL.of hlf2⟩,?_⟩
     refine⟨_,rfl,_,rfl,lf,_,rfl,.inl (SqL.of hlf2),t,tp,N+1+q,_,rfl,TP2,by omega,by rw[List.length_map];omega,by rw[List.length_map];omega,fun rr H3 h0 h1 TP3 e3=>?_⟩
     rw[List.length_map] at h1
     have hlt:rr.toNat<left.length:=by omega
     refine⟨lf,left.map V.int,rr,rr.toNat,.int left[rr.toNat],rfl,rfl,by rw[e3 lf nlt];exact hlf2,by omega,by omega,PySem.StrLaws.seqIndex_nonneg h0 (by rw[List.length_map];omega),by rw[List.getElem?_map,List.getElem?_eq_getElem hlt];rfl,?_⟩
     have eer:(left.map V.int).eraseIdx rr.toNat=(left.eraseIdx rr.toNat).map V.int:=erase_map left rr.toNat
     rw[eer]
     have s3:Sm t H H3:=fun b o nb e=>by rw[e3 b nb];exact s2 b o nb e
     refine⟨by rw[upd_ne nDl,e3 D nDt];exact hD2,hq,row++[left[rr.toNat]],left.eraseIdx rr.toNat,by rw[List.map_append];rfl,by rw[List.length_append,hl];rfl,?_,by rw[upd_ne nDl.symm,upd_same],upd_same,TP3.keepF (fun o e=>by rw[upd_ne nDt.symm,upd_ne nlt.symm];exact e) (fun o e=>by rw[upd_ne nDp.symm,upd_ne nlp.symm];exact e) (by omega),(s3.chg hlf0).chg hD0⟩
     refine List.Perm.trans ?_ hp
     rw[List.append_assoc]
     exact (erase_perm hlt).append_left row
   . obtain⟨_,row,left,rfl,hl,hp,hlf2,hD2,TP2,s2⟩:=h
     have hleft:left=[]:=by
      have:=hp.length_eq
      rw[List.length_append,ints_len,hl] at this
      exact List.length_eq_zero_iff.mp (by omega)
     subst hleft
     rw[List.append_nil] at hp
     have nd:row.Nodup:=hp.nodup_iff.mpr ((ints_rise _).imp fun h=>by omega)
     refine⟨Nat.zero_le _,fun tl' htl=>?_⟩
     have ntt:tl'≠t:=by
      obtain⟨ns,spot,rest,a,_⟩:=TP2
      exact (ne_of_none a htl).symm
     have ntp:tl'≠tp:=by
      obtain⟨ns,spot,rest,_,a,_⟩:=TP2
      exact (ne_of_none a htl).symm
     have ntD:tl'≠D:=(ne_of_none hD2 htl).symm
     have htl0:H tl'=none:=by
      cases z:H tl' with
      | none=>rfl
      | some o=>rw[s2 _ _ ntt z] at htl;cases htl
     refine⟨_,rfl,n,1,rfl,rfl,n-1,rfl,by omega,by omega,for_range (lo:=0) (n:=(n-1).toNat)
      (fun i σ H3=>i<=(n-1).toNat/\∃(v5 v6:Option V)(zs:List V)(ts:List T3),σ=[some (.ref t),some (.int n),some (.ref lf),some (.ref D),some (.ref tl'),v5,v6]/\Sm t H H3/\H3 D=some (.lst (row.map V.int))/\H3 tl'=some (.lst zs)/\TupsAre H3 zs (ts.map tl)/\ts.length=i/\(∀j t,ts[j]? = some t->RowTie row j t)/\TapeP H3 t tp (N+30+i))
      ⟨Nat.zero_le _,_,_,[],[],rfl,s2.chg htl0,by rw[upd_ne ntD.symm];exact hD2,upd_same,trivial,rfl,fun j t h=>by simp at h,TP2.keepF (fun o e=>by rw[upd_ne ntt.symm];exact e) (fun o e=>by rw[upd_ne ntp.symm];exact e) (by omega)⟩ ?turn ?after⟩
     case turn=>
      rintro i σ H3 hi ⟨_,v5,v6,zs,ts,rfl,s3,hD3,hz3,TA3,hts,hrt,TP3⟩
      rw[Int.zero_add]
      obtain⟨x,hx⟩:∃x,row[i]? = some x:=⟨_,List.getElem?_eq_getElem (by omega)⟩
      obtain⟨y,hy⟩:∃y,row[i+1]? = some y:=⟨_,List.getElem?_eq_getElem (by omega)⟩
      have hxy:x≠y:=fun z=>by
       subst z
       have:=(List.getElem?_inj (List.getElem?_eq_some_iff.mp hx).1 nd).mp (hx.trans hy.symm)
       omega
      refine⟨_,rfl,_,rfl,(i:Int),rfl,_,rfl,(i:Int),2,rfl,rfl,(i:Int)+2,rfl,D,_,rfl,SqL.of hD3,fun c1 hc1=>?_⟩
      rw[cut2 hx hy]
      refine⟨c1,[x,y],rfl,SqL.of upd_same,by show 2<64;decide,fun c2 ms hc2 hpm hrm=>?_⟩
      obtain⟨a,b,rfl,hab,hor⟩:=two_sorted hxy hpm hrm
      have s4:Same H3 (upd (upd H3 c1 (.lst ([x,y].map V.int))) c2 (.lst ([a,b].map V.int))):=(same_laid hc1).trans (same_laid hc2)
      have hc24:(upd (upd H3 c1 (.lst ([x,y].map V.int))) c2 (.lst ([a,b].map V.int))) c2=some (.lst ([a,b].map V.int)):=upd_same
      generalize upd (upd H3 c1 (.lst ([x,y].map V.int))) c2 (.lst ([a,b].map V.int))=H4 at s4 hc24 ⊢
      have TP4:TapeP H4 t tp (N+30+i):=TP3.keepF (fun o e=>s4 _ _ e) (fun o e=>s4 _ _ e) (Nat.le_refl _)
      refine⟨_,rfl,.inl ⟨rfl,_,SqL.of (s4 _ _ hz3)⟩,?_⟩
      refine⟨_,rfl,c2,_,_,.int a,rfl,rfl,SqL.of hc24,rfl,_,rfl,c2,_,_,.int b,rfl,rfl,SqL.of hc24,rfl,?_⟩
      refine⟨_,rfl,t,tp,N+30+i,3,rfl,TP4,by omega,by decide,by decide,fun dr H5 d0 d1 TP5 e5=>?_⟩
      refine⟨99,dr,rfl,rfl,?_⟩
      refine⟨by show 3<=sizeLine;decide,fun q hq=>?_⟩
      have hz5:H5 tl'=some (.lst zs):=by rw[e5 tl' ntt];exact s4 _ _ hz3
      have hD5:H5 D=some (.lst (row.map V.int)):=by rw[e5 D nDt];exact s4 _ _ hD3
      have nqt:tl'≠q:=ne_of_none hz5 hq
      refine⟨tl',zs,_,rfl,rfl,by rw[upd_ne nqt];exact hz5,?_,?_⟩
      . have e:=TA3.length
        rw[List.length_map,hts] at e
        exact small_line (by omega)
      have s5:Sm t H H5:=fun b o nb e=>by rw[e5 b nb];exact s4 _ _ (s3 b o nb e)
      refine⟨hi,_,_,_,ts++[(a,b,99-dr)],rfl,(s5.trans (Sm.laid hq)).chg htl0,?_,upd_same,?_,by rw[List.length_append,hts];rfl,?_,?_⟩
      . rw[upd_ne ntD.symm,upd_ne (ne_of_none hD5 hq)];exact hD5
      . rw[List.map_append]
        refine (TA3.keep fun c xs e=>?_).snoc ⟨q,rfl,by rw[upd_ne nqt.symm,upd_same];rfl,by simp[tl]⟩
        have e':H5 c=some (.tup xs):=by
         have nct:c≠t:=by
          obtain⟨ns,spot,rest,a,_⟩:=TP3
          exact ne_of e a (by intro z;cases z)
         rw[e5 c nct];exact s4 _ _ e
        rw[upd_ne (ne_of e' hz5 (by intro z;cases z)),upd_ne (ne_of_none e' hq)]
        exact e'
      . intro j tt hj
        by_cases hjl:j<ts.length
        . rw[List.getElem?_append_left hjl] at hj
          exact hrt j tt hj
        . rw[List.getElem?_append_right (by omega)] at hj
          cases hz:j-ts.length with
          | zero=>
           rw[hz] at hj
           have e:(a,b,99-dr)=tt:=by simpa using hj
           subst e
           have ej:j=i:=by omega
           subst ej
           exact⟨x,y,hx,hy,hab,hor,by show 1<=99-dr;omega,by show 99-dr<=99;omega⟩
          | succ m=>rw[hz] at hj;simp at hj
      . have nqtt:q≠t:=by
         obtain⟨ns,spot,rest,a,_⟩:=TP5
         exact (ne_of_none a hq).symm
        have nqtp:q≠tp:=by
         obtain⟨ns,spot,rest,_,a,_⟩:=TP5
         exact (ne_of_none a hq).symm
        exact TP5.keepF (fun o e=>by rw[upd_ne ntt.symm,upd_ne nqtt.symm];exact e) (fun o e=>by rw[upd_ne ntp.symm,upd_ne nqtp.symm];exact e) (by omega)
     case after=>
      rintro σ H3 ⟨_,v5,v6,zs,ts,rfl,s3,hD3,hz3,TA3,hts,hrt,TP3⟩
      refine⟨_,rfl,_,rfl,tl',zs,ts.map tl,rfl,SqL.of hz3,TA3,by rw[List.length_map];omega,fun l1 us ms hl1 TA4 hpm _=>?_⟩
      refine⟨l1,us,rfl,.inl ⟨SqL.of upd_same,fun l2 hl2=>?_⟩⟩
      obtain⟨ts',ets,hpt⟩:∃ts':List T3,ts'.map tl=ms/\ts'.Perm ts:=by
       refine⟨ms.map fun k=>(k.getD 0 0,k.getD 1 0,k.getD 2 0),?_,?_⟩
       . rw[List.map_map]
         conv=>rhs;rw[<-List.map_id ms]
         refine List.map_congr_left fun k hk=>?_
         obtain⟨t',_,rfl⟩:=List.mem_map.mp (hpm.mem_iff.mp hk)
         rfl
       . have:=hpm.map fun k:List Int=>((k.getD 0 0,k.getD 1 0,k.getD 2 0):T3)
         rw[List.map_map] at this
         have e:ts.map ((fun k:List Int=>((k.getD 0 0,k.getD 1 0,k.getD 2 0):T3))∘tl)=ts:=by
          conv=>rhs;rw[<-List.map_id ts]
          exact List.map_congr_left fun t' _=>rfl
         rw[e] at this
         exact this
      have G:GW n ts':=row_gw (by omega) hn24 hp (by omega) hrt hpt
      refine⟨by show 2<=sizeLine;decide,fun wa hwa=>?_⟩
      have s34:Same H3 (upd (upd (upd H3 l1 (.lst us)) l2 (.tup us)) wa (.tup [.int n,.ref l2])):=((same_laid hl1).trans (same_laid hl2)).trans (same_laid hwa)
      refine k wa n ts' _ ⟨l2,us,upd_same,?_,?_,G⟩ ⟨tp,TP3.keepF (fun o e=>s34 _ _ e) (fun o e=>s34 _ _ e) (by omega)⟩ (s3.trans (Sm.of s34))
      . rw[upd_ne (ne_of_none upd_same hwa)];exact upd_same
      . rw[ets];exact TA4.keep fun c xs e=>s34 _ _ e
end
section
variable {P:Program}{w:World}{K:PySem.W.Frag}{mg:Str->Option Value}{base:Heap}
theorem FnOk.toX {k:Nat}{f:Addr}{fd:FuncData}{ps:List Str}{sp:Sp}(F:FnOk P w K mg base CX0 k f fd ps sp):FnOk P w K mg base (CXO P w) k f fd ps sp:=
 ⟨F.len,fun A outer s H args us vs Q E hr he hb hv hs=>PySem.codeAny_mono (F.run A outer s H args us vs Q E hr he hb hv hs) fun r s' hq=>by
  cases r with
  | error e=>exact hq.elim
  | ok fl=>cases fl <;> exact hq⟩
theorem FnOk.either {k:Nat}{f:Addr}{fd:FuncData}{ps:List Str}{CX:CXT}{sp sp':Sp}(F:FnOk P w K mg base CX k f fd ps sp)(F':FnOk P w K mg base CX k f fd ps sp'):FnOk P w K mg base CX k f fd ps (fun vs H Q E=>sp vs H Q E\/sp' vs H Q E):=
 ⟨fun vs H Q E h=>h.elim (F.len vs H Q E) (F'.len vs H Q E),fun A outer s H args us vs Q E hr he hb hv hs=>hs.elim (F.run A outer s H args us vs Q E hr he hb hv) (F'.run A outer s H args us vs Q E hr he hb hv)⟩
theorem pss_no {X:Cx}{st:List Stmt}:PSs X st (fun _ _ _=>False):=fun _ _ _ _ _ _ h=>h.elim
def spByoR (c:Addr):Sp:=fun vs H _ E=>∃(wa:Addr)(v:V)(d:PyData)(n:Int)(ts:List T3),vs=[.ref wa,v]/\WebAt H wa n ts/\Shows H v d/\¬ IsOrd n d/\∀H',Same H H'->E (.ref c) none H'
theorem ok_byoR {f fO c:Addr}{fd' fdO:FuncData}(F:Fun K "by_order" "by_order" sByo f fd') (FO:Fun K "is_order" "is_order" sOrd fO fdO) (bO:Binds K fdO ["web", "thing"] []) (mO:mg "is_order" = some (.ref fO)) (GO:FnOk P w K mg base CX0 5 fO fdO ["web", "thing"] spOrdG)
 (mC:mg "NoOrder" = some (.ref c)) (qC:PySem.W.excIn K c bmV "ValueError.__new__" = true):FnOk P w K mg base (CXO P w) 6 f fd' ["web", "order"] (spByoR c):=by
 refine F.okX scByo (fun vs H Q E h=>?_) (fun cdv A outer s H vs Q E hr h=>?_)
 . obtain⟨wa,v,d,n,ts,rfl,_⟩:=h
   rfl
 . obtain⟨wa,v,d,n,ts,rfl,W,S,no,k⟩:=h
   refine⟨_,pss_cons (ps_if (pt_not (pt_val (pe_call GO hr rfl mO FO.kp bO .nil pass0 (pa_cons (pv 0) (pa_cons (pv 1) pa_nil))))) (pss_one (ps_raise (E:=E) rfl mC qC rfl (pa_cons pe_str pa_nil) (fun pins σ H s h' ea vs I mx hE=>raised_xe I mx hE) (hl:=fun σ H Q h=>⟨Nat.le_refl 1,h⟩))) pss_nil) pss_no,?_⟩
   refine⟨_,rfl,_,rfl,wa,v,d,n,ts,rfl,W,S,fun b H' hb s'=>?_⟩
   have:b=false:=by
    cases b with
    | false=>rfl
    | true=>exact absurd (hb.mp rfl) no
   subst this
   refine⟨_,rfl,iteT ?_⟩
   exact k H' s'
structure Errs (K:PySem.W.Frag)(mg:Str->Option Value)(cW cO:Addr)(cs1 cs2:List Addr):Prop where
 mW:mg "WayError" = some (.ref cW)
 mO:mg "NoOrder" = some (.ref cO)
 qW:PySem.W.excIn K cW bmV "ValueError.__new__" = true
 qO:PySem.W.excIn K cO bmV "ValueError.__new__" = true
 sb:L2.subIn K cO cW=true
 ex:ExcAt K cO
 m1:[mg "NoLabels",mg "NoLeast",mg "NoPart",mg "NoPlan",mg "NoPosts",mg "NoRing"]=cs1.map fun c=>some (.ref c)
 m2:[mg "NoRow",mg "NoText",mg "NoTie",mg "NoTree",mg "TooMany"]=cs2.map fun c=>some (.ref c)
 k1:PySem.W.kitAny K (.ref cO) (cs1.map Value.ref)=some false
 k2:PySem.W.kitAny K (.ref cO) (cs2.map Value.ref)=some false
 kO:PySem.W.kitOne K (.ref cO) (.ref cO)=some true
 kV:PySem.W.kitOne K (.ref cO) (.type "ValueError")=some true
def spWord (PT:Addr):Sp:=fun vs H Q _=>∃(wa:Addr)(v:V)(d:PyData)(n:Int)(ts:List T3),vs=[.ref wa,v]/\WebAt H wa n ts/\Shows H v d/\Tb H PT /\
 (IsOrd n d->∀H',SmT H H'->Tb H' PT->Q (.str "labels") H')/\(¬ IsOrd n d->∀H',Same H H'->Q (.str "order") H')
theorem scWord:FnScope ["_law_web_here", "_law_thing", "_law_found", "e", "_law_others"] ["_law_web_here", "_law_thing"] (defScope sWord):=⟨rfl,rfl,rfl,by decide +kernel,rfl,by decide +kernel,by decide +kernel⟩
theorem ok_word {PT:Addr}{f fB cW cO c1 c2 c3 c4 c5 c6 c7 c8 c9 c10 c11:Addr}{fd' fdB:FuncData}(F:Fun K "_law_word" "_law_word" sWord f fd') (FB:Fun K "by_order" "by_order" sByo fB fdB) (bB:Binds K fdB ["web", "order"] []) (mB:mg "by_order" = some (.ref fB))
 (GB:FnOk P w K mg base CX0 6 fB fdB ["web", "order"] (spByo PT)) (GR:FnOk P w K mg base (CXO P w) 6 fB fdB ["web", "order"] (spByoR cO)) (C:Errs K mg cW cO [c1,c2,c3,c4,c5,c6] [c7,c8,c9,c10,c11])(mIsi:mg "isinstance" = none) (mVal:mg "ValueError" = none) :
 FnOk P w K mg base CX0 7 f fd' ["_law_web_here", "_law_thing"] (spWord PT):=by
 have G:FnOk P w K mg base (CXO P w) 6 fB fdB ["web", "order"] (fun vs H Q E=>spByo PT vs H Q E\/spByoR cO vs H Q E):=FnOk.either (FnOk.toX GB) GR
 obtain⟨h1,h2,h3,h4,h5,h6⟩:mg "NoLabels" = some (.ref c1)/\mg "NoLeast" = some (.ref c2)/\mg "NoPart" = some (.ref c3)/\mg "NoPlan" = some (.ref c4)/\mg "NoPosts" = some (.ref c5)/\mg "NoRing" = some (.ref c6):=by
  have:=C.m1
  simpa using this
 obtain⟨h7,h8,h9,h10,h11⟩:mg "NoRow" = some (.ref c7)/\mg "NoText" = some (.ref c8)/\mg "NoTie" = some (.ref c9)/\mg "NoTree" = some (.ref c10)/\mg "TooMany" = some (.ref c11):=by
  have:=C.m2
  simpa using this
 refine F.ok scWord (fun vs H Q E h=>?_) (fun cdv A outer s H vs Q E hr h=>?_)
 . obtain⟨wa,v,d,n,ts,rfl,_⟩:=h
   rfl
 . obtain⟨wa,v,d,n,ts,rfl,W,S,T,kY,kN⟩:=h
   refine⟨_,pss_cons (ps_set (i:=2) scWord.nd rfl (Or.inl rfl) pe_str)
    (pss_cons (ps_try (i:=3) scWord.nd rfl rfl rfl rfl rfl rfl C.mW C.qW (px_expr G hr rfl mB FB.kp bB (pa_cons (pv 0) (pa_cons (pv 1) pa_nil)))
     (fun ea oe c hc=>pss_cons (ps_set (i:=4) scWord.nd rfl (Or.inl rfl) (pe_callB (call_isinstXs (held_at hc)) (by rfl) mIsi (by decide +kernel) (pa_cons (pv 3) (pa_cons (pe_tup (pa_cons (pe_glob (v:=.ref c1) rfl h1 rfl) (pa_cons (pe_glob (v:=.ref c2) rfl h2 rfl) (pa_cons (pe_glob (v:=.ref c3) rfl h3 rfl) (pa_cons (pe_glob (v:=.ref c4) rfl h4 rfl) (pa_cons (pe_glob (v:=.ref c5) rfl h5 rfl) (pa_cons (pe_glob (v:=.ref c6) rfl h6 rfl) pa_nil))))))) pa_nil))))
      (pss_cons (ps_set (i:=4) scWord.nd rfl (Or.inl rfl) (pe_or (pv 4) (pe_one (pe_callB (call_isinstXs (held_at hc)) (by rfl) mIsi (by decide +kernel) (pa_cons (pv 3) (pa_cons (pe_tup (pa_cons (pe_glob (v:=.ref c7) rfl h7 rfl) (pa_cons (pe_glob (v:=.ref c8) rfl h8 rfl) (pa_cons (pe_glob (v:=.ref c9) rfl h9 rfl) (pa_cons (pe_glob (v:=.ref c10) rfl h10 rfl) (pa_cons (pe_glob (v:=.ref c11) rfl h11 rfl) pa_nil)))))) pa_nil))))))
      (pss_cons (ps_set (i:=2) scWord.nd rfl (Or.inl rfl) pe_str)
      (pss_one (ps_if (PW.pt (pw_and (pt_val (pe_callB (call_isinstX (held_at hc)) (by rfl) mIsi (by decide +kernel) (pa_cons (pv 3) (pa_cons (pe_glob (v:=.ref cO) rfl C.mO rfl) pa_nil)))) (pw_and (pt_val (pe_callB (call_isinstXT (held_at hc)) (by rfl) mIsi (by decide +kernel) (pa_cons (pv 3) (pa_cons (pe_tyN (T := "ValueError") (by rfl) mVal (by decide +kernel)) pa_nil)))) (pw_and1 (pt_not (pt_val (pv 4)))))))
       (pss_one (ps_set (i:=2) scWord.nd rfl (Or.inl rfl) pe_str)) pss_nil))))))
    (pss_one (ps_ret (pv 2)))),?_⟩
   by_cases hO:IsOrd n d
   . obtain⟨os,rfl,O⟩:=id hO
     cases S with
     | @tup a xs _ ha al=>
      have hxs:=sh_int al
      subst hxs
      refine⟨_,rfl,_,rfl,Or.inl ⟨wa,a,n,ts,os,rfl,W,ha,O,T,fun l ess rk H' sm Tb' _ _ _ _=>?_⟩⟩
      exact⟨_,rfl,kY hO H' sm Tb'⟩
   . refine⟨_,rfl,_,rfl,Or.inr ⟨wa,v,d,n,ts,rfl,W,S,hO,fun H' s'=>?_⟩⟩
     refine⟨cO,rfl,C.qO,C.sb,fun ea oe hc hea=>?_⟩
     refine⟨_,rfl,(by show 6<=sizeLine;decide),fun p hp=>?_⟩
     refine⟨p,[c1,c2,c3,c4,c5,c6],false,C.ex,rfl,upd_same,C.k1,?_⟩
     have s1:=s'.trans (same_laid (o:=.tup ([c1,c2,c3,c4,c5,c6].map V.ref)) hp)
     refine⟨_,rfl,false,rfl,iteF ?_⟩
     refine⟨_,rfl,(by show 5<=sizeLine;decide),fun p2 hp2=>?_⟩
     have s2:=s1.trans (same_laid (o:=.tup ([c7,c8,c9,c10,c11].map V.ref)) hp2)
     refine⟨p2,[c7,c8,c9,c10,c11],false,C.ex,rfl,upd_same,C.k2,?_⟩
     refine⟨_,rfl,cO,true,C.ex,rfl,C.kO,true,rfl,iteT ?_⟩
     refine⟨_,rfl, "ValueError",true,C.ex,rfl,C.kV,true,rfl,iteT ?_⟩
     refine⟨_,rfl,false,rfl,iteT ?_⟩
     exact⟨_,rfl,kN hO _ s2⟩
end
theorem MinO.uniq {P:Int->Prop}:∀{a b:Option Int},MinO P a->MinO P b->a=b
 | none,none,_,_=>rfl
 | none,some m,h,h'=>absurd h'.1 (h m)
 | some m,none,h,h'=>absurd h.1 (h' m)
 | some m,some k,h,h'=>congrArg some (Int.le_antisymm (h.2 k h'.1) (h'.2 m h.1))
theorem EntOf.uniq {ts:List T3}{n v:Int}{rk:Int->Int}{e e':En}(x:EntOf ts n rk v e)(y:EntOf ts n rk v e')(h:e.h=e'.h):e=e':=by
 obtain⟨h1,l1,u1,d1⟩:=e
 obtain⟨h2,l2,u2,d2⟩:=e'
 have hh:h1=h2:=h
 subst hh
 have e1:l1=l2:=WM.IsD.uniq x.len y.len
 have e2:u1=u2:=MinO.uniq x.up y.up
 have e3:d1=d2:=MinO.uniq x.dn y.dn
 rw[e1,e2,e3]
theorem rise_eq:∀{a b:List En},Hub a->Hub b->(∀e,e∈a↔e∈b)->a=b
 | [],[],_,_,_=>rfl
 | [],y::b,_,_,h=>absurd ((h y).mpr List.mem_cons_self) (by simp)
 | x::a,[],_,_,h=>absurd ((h x).mp List.mem_cons_self) (by simp)
 | x::a,y::b,ha,hb,h=>by
  obtain⟨hx,ha'⟩:=List.pairwise_cons.mp ha
  obtain⟨hy,hb'⟩:=List.pairwise_cons.mp hb
  have exy:x=y:=by
   rcases List.mem_cons.mp ((h x).mp List.mem_cons_self) with e | m
   . exact e
   . rcases List.mem_cons.mp ((h y).mpr List.mem_cons_self) with e | m'
     . exact e.symm
     . have:=hy x m
       have:=hx y m'
       omega
  subst exy
  rw[rise_eq ha' hb' fun e=>⟨fun m=>?_,fun m=>?_⟩]
  . rcases List.mem_cons.mp ((h e).mp (List.mem_cons_of_mem _ m)) with z | z
    . subst z
      exact absurd (hx e m) (by omega)
    . exact z
  . rcases List.mem_cons.mp ((h e).mpr (List.mem_cons_of_mem _ m)) with z | z
    . subst z
      exact absurd (hy e m) (by omega)
    . exact z
theorem LabOf.uniq {ts:List T3}{n v:Int}{rk:Int->Int}{es es':List En}(x:LabOf ts n rk v es)(y:LabOf ts n rk v es'):es=es':=by
 refine rise_eq x.hub y.hub fun e=>⟨fun m=>?_,fun m=>?_⟩
 . have E:=x.ent e m
   obtain⟨e',m',h'⟩:=y.all e.h E.rng.1 E.rng.2 E.hub
   rw[E.uniq (y.ent e' m') h'.symm]
   exact m'
 . have E:=y.ent e m
   obtain⟨e',m',h'⟩:=x.all e.h E.rng.1 E.rng.2 E.hub
   rw[E.uniq (x.ent e' m') h'.symm]
   exact m'
theorem RkOf.eq {n:Int}{os:List Int}{rk rk':Int->Int}(nd:os.Nodup)(a:RkOf n os rk)(b:RkOf n os rk'){p:Int}(h0:0<=p)(h1:p<n):rk p=rk' p:=by
 obtain⟨a0,a1⟩:=a p h0 h1
 obtain⟨b0,b1⟩:=b p h0 h1
 obtain⟨i1,e1⟩:=List.getElem?_eq_some_iff.mp a1
 obtain⟨i2,e2⟩:=List.getElem?_eq_some_iff.mp b1
 have:=(List.getElem_inj nd).mp (e1.trans e2.symm)
 omega
theorem LabsOf.uniq {ts:List T3}{n:Int}{os:List Int}{rk rk':Int->Int}{ess ess':List (List En)}(G:GW n ts)(nd:os.Nodup)(a:RkOf n os rk)(b:RkOf n os rk')(x:LabsOf ts n rk ess)(y:LabsOf ts n rk' ess'):ess=ess':=by
 apply List.ext_getElem (x.1.trans y.1.symm)
 intro i h1 h2
 exact (x.2 i _ (List.getElem?_eq_getElem h1)).uniq ((y.2 i _ (List.getElem?_eq_getElem h2)).congr G fun p p0 p1=>b.eq nd a p0 p1)
def spEnt8:Sp:=fun vs H Q _=>∃(wa fl:Addr)(n:Int)(ts:List T3)(M:List (List (Option Int)))(v h:Int),vs=[.ref wa,.ref fl,.int v,.int h]/\WebAt H wa n ts/\FarAt H fl n ts M/\0<=v/\v<n/\0<=h/\h<n/\(∃d,WM.IsD ts h v d) /\
 ∀(a:Addr)(e:En)(H':Hp),Same H H'->H' a=some (.tup (eV e))->e.h=h->WM.IsD ts v h e.l->MinO (Nxt ts v h) e.u->MinO (Nxt ts h v) e.d->Q (.ref a) H'
theorem at0 {x:Int}{l:List Int}:atI ((x::l).map V.int) 0=some (.int x):=atI_nat (j:=0) rfl
theorem first_min {P:Int->Prop}{xs:List Int}(r:xs.Pairwise (· < ·))(m:∀p,p∈xs↔P p)(ne:∃p,P p):∃x r,xs=x::r/\MinO P (some x):=by
 obtain⟨p,hp⟩:=ne
 cases xs with
 | nil=>exact absurd ((m p).mpr hp) (by simp)
 | cons x l=>
  refine⟨x,l,rfl,(m x).mp List.mem_cons_self,fun q hq=>?_⟩
  rcases List.mem_cons.mp ((m q).mpr hq) with e | e
  . omega
  . have:=(List.pairwise_cons.mp r).1 q e
    omega
section
variable {P:Program}{w:World}{K:PySem.W.Frag}{mg:Str->Option Value}{base:Heap}
theorem scEnt8:FnScope ["_law_web_here", "_law_far_here", "_law_place", "_law_hub"] ["_law_web_here", "_law_far_here", "_law_place", "_law_hub"] (defScope sEnt8):=⟨rfl,rfl,rfl,by decide +kernel,rfl,by decide +kernel,by decide +kernel⟩
theorem ok_ent8 {f fN:Addr}{fd' fdN:FuncData}(F:Fun K "_law_entry" "_law_entry" sEnt8 f fd') (FN:Fun K "_law_nexts" "_law_nexts" sNxs fN fdN) (bN:Binds K fdN ["_law_web_here", "_law_far_here", "_law_one", "_law_other"] []) (mN:mg "_law_nexts" = some (.ref fN)) (GN:FnOk P w K mg base CX0 2 fN fdN ["_law_web_here", "_law_far_here", "_law_one", "_law_other"] spNxs) :
 FnOk P w K mg base CX0 3 f fd' ["_law_web_here", "_law_far_here", "_law_place", "_law_hub"] spEnt8:=by
 refine F.ok scEnt8 (fun vs H Q E h=>?_) (fun cdv A outer s H vs Q E hr h=>?_)
 . obtain⟨wa,fl,n,ts,M,v,h,rfl,_⟩:=h
   rfl
 . obtain⟨wa,fl,n,ts,M,v,h,rfl,W,FR,v0,v1,h0,h1,⟨d,hd⟩,k⟩:=h
   obtain⟨_,_,_,_,_,G⟩:=id W
   refine⟨_,pss_cons (ps_if (pt_cmpR op_eq (pv 2) (pv 3) (nomark _)) (pss_one (ps_ret (pe_tup (pa_cons (pv 3) (pa_cons pe_int (pa_cons pe_non (pa_cons pe_non pa_nil))))))) pss_nil)
    (pss_one (ps_ret (pe_tup (pa_cons (pv 3) (pa_cons (pe_ix ix_list (pe_ix ix_list (pv 1) (pv 2) (fun _ _=>rfl)) (pv 3) (fun _ _=>rfl))
     (pa_cons (pe_ix ix_list (pe_call GN hr rfl mN FN.kp bN .nil pass0 (pa_cons (pv 0) (pa_cons (pv 1) (pa_cons (pv 2) (pa_cons (pv 3) pa_nil))))) pe_int (fun _ _=>rfl))
     (pa_cons (pe_ix ix_list (pe_call GN hr rfl mN FN.kp bN .nil pass0 (pa_cons (pv 0) (pa_cons (pv 1) (pa_cons (pv 3) (pa_cons (pv 2) pa_nil))))) pe_int (fun _ _=>rfl)) pa_nil))))))),?_⟩
   refine⟨_,rfl,_,rfl,rfl,_,rfl,?_⟩
   by_cases c:v=h
   . subst c
     refine ifT (decide_eq_true rfl) ?_
     refine⟨_,rfl,(by show 4<=sizeLine;decide),fun p hp=>?_⟩
     have hz:MinO (Nxt ts v v) none:=fun p hp=>Nxt.ne G hp rfl
     exact k p ⟨v,0,none,none⟩ _ (same_laid hp) upd_same rfl (isD_self G v) hz hz
   . refine ifF (decide_eq_false fun z=>c (V.int.inj z)) ?_
     obtain⟨rs,r,row,f1,f2,f3,f4,f5⟩:=FR.get v0 v1 h0 h1
     have hv:WM.IsD ts v h d:=hd.symm
     obtain⟨d',em⟩:∃d',mat M v h=some d':=by
      cases e:mat M v h with
      | some d'=>exact⟨d',rfl⟩
      | none=>rw[e] at f5;exact absurd hv.1 (f5 d)
     rw[em] at f4 f5
     refine⟨_,rfl,_,rfl,_,rfl,fl,_,_,.ref r,rfl,rfl,SqL.of f1,f2,_,rfl,r,_,_,_,rfl,rfl,SqL.of f3,f4,?_⟩
     refine⟨_,rfl,_,rfl,_,rfl,_,rfl,wa,fl,n,ts,M,v,h,rfl,W,FR,v0,v1,h0,h1,fun l xs H1 s1 hl rise mem=>?_⟩
     obtain⟨u,ur,rfl,mu⟩:=first_min rise mem (Nxt.exists G hv c)
     refine⟨l,_,0,.int u,rfl,rfl,SqL.of hl,at0,?_⟩
     refine⟨_,rfl,_,rfl,_,rfl,_,rfl,wa,fl,n,ts,M,h,v,rfl,W.keep s1,FR.keep fun b ys e=>s1 _ _ e,h0,h1,v0,v1,fun l2 xs2 H2 s2 hl2 rise2 mem2=>?_⟩
     obtain⟨dn,dr,rfl,md⟩:=first_min rise2 mem2 (Nxt.exists G hd fun z=>c z.symm)
     refine⟨l2,_,0,.int dn,rfl,rfl,SqL.of hl2,at0,?_⟩
     refine⟨(by show 4<=sizeLine;decide),fun p hp=>?_⟩
     exact k p ⟨h,d',some u,some dn⟩ _ ((s1.trans s2).trans (same_laid hp)) upd_same rfl f5 mu md
end
def spLabs8:Sp:=fun vs H Q _=>∃(wa p:Addr)(n:Int)(ts:List T3)(os:List Int),vs=[.ref wa,.ref p]/\WebAt H wa n ts/\H p=some (.tup (os.map V.int))/\Ordr n os /\
 ∀(l:Addr)(ess:List (List En))(rk:Int->Int)(H':Hp),Same H H'->LabsAt H' l ess->RkOf n os rk->LabsOf ts n rk ess->(∀es∈ess,∀e∈es,0<=e.l/\e.l<=2376)->Q (.ref l) H'
theorem RkOf.ex {n:Int}{os:List Int}(O:Ordr n os):∃rk,RkOf n os rk:=by
 classical
 refine⟨fun p=>if h:∃i:Nat,os[i]? = some p then ((Classical.choose h:Nat):Int) else 0,fun p h0 h1=>?_⟩
 obtain⟨i,hi,ei⟩:=List.getElem_of_mem (O.mem (p:=p) h0 h1)
 have hex:∃i:Nat,os[i]? = some p:=⟨i,by rw[List.getElem?_eq_getElem hi,ei]⟩
 simp only[hex,dif_pos]
 exact⟨by omega,by rw[Int.toNat_natCast];exact Classical.choose_spec hex⟩
theorem take_rk {n:Int}{os:List Int}{rk:Int->Int}(O:Ordr n os)(R:RkOf n os rk){h x:Int}(h0:0<=h)(h1:h<n)(x0:0<=x)(x1:x<n):x∈os.take (rk h).toNat↔rk x<rk h:=by
 obtain⟨a0,a1⟩:=R h h0 h1
 obtain⟨b0,b1⟩:=R x x0 x1
 obtain⟨i1,e1⟩:=List.getElem?_eq_some_iff.mp a1
 obtain⟨i2,e2⟩:=List.getElem?_eq_some_iff.mp b1
 constructor
 . intro m
   obtain⟨j,hj,ej⟩:=List.getElem_of_mem m
   rw[List.length_take] at hj
   rw[List.getElem_take] at ej
   have:=(List.getElem_inj O.nd).mp (ej.trans e2.symm)
   omega
 . intro l
   rw[<-e2]
   exact List.mem_take_iff_getElem.mpr ⟨(rk x).toNat,by omega,rfl⟩
theorem hub_iff {H:Hp}{fl:Addr}{n:Int}{ts:List T3}{M:List (List (Option Int))}{os:List Int}{rk:Int->Int}(G:GW n ts)(FR:FarAt H fl n ts M)(O:Ordr n os)(R:RkOf n os rk){h v:Int}(h0:0<=h)(h1:h<n)(v0:0<=v)(v1:v<n) :
 HubOf ts rk h v↔(mat M h v).isSome=true/\((os.take (rk h).toNat).filter fun x=>onB M x h v)=[]:=by
 obtain⟨_,_,_,_,_,_,_,l1⟩:=FR.get h0 h1 v0 v1
 constructor
 . rintro ⟨⟨d,hd⟩,z⟩
   refine⟨?_,List.filter_eq_nil_iff.mpr fun x hx c=>?_⟩
   . cases e:mat M h v with
     | none=>rw[e] at l1;exact absurd hd.1 (l1 d)
     | some _=>rfl
   . have xr:=O.rng x (List.mem_of_mem_take hx)
     have:=z x ((onB_iff FR xr.1 xr.2 h0 h1 v0 v1).mp c)
     have:=(take_rk O R h0 h1 xr.1 xr.2).mp hx
     omega
 . rintro ⟨z1,z2⟩
   refine⟨?_,fun x hx=>?_⟩
   . cases e:mat M h v with
     | none=>rw[e] at z1;cases z1
     | some d=>rw[e] at l1;exact⟨d,l1⟩
   . obtain⟨a,b,ia,_⟩:=id hx
     have xr:=ia.1.in_ G h0 h1
     by_cases c:rk x<rk h
     . exact absurd ((onB_iff FR xr.1 xr.2 h0 h1 v0 v1).mpr hx) (List.filter_eq_nil_iff.mp z2 x ((take_rk O R h0 h1 xr.1 xr.2).mpr c))
     . omega
theorem int_at {l:List Int}{i:Nat}{x:V}(h:(l.map V.int)[i]? = some x):∃y,l[i]? = some y/\V.int y=x:=by
 rw[List.getElem?_map] at h
 cases e:l[i]? with
 | none=>rw[e] at h;cases h
 | some y=>rw[e] at h;exact⟨y,rfl,Option.some.inj h⟩
section
variable {P:Program}{w:World}{K:PySem.W.Frag}{mg:Str->Option Value}{base:Heap}
theorem scLabs8:FnScope ["_law_web_here", "_law_order_here", "_law_far_here", "_law_labels_here", "_law_place", "_law_entries", "_law_hub", "_law_sooner"] ["_law_web_here", "_law_order_here"] (defScope sLabs8):=⟨rfl,rfl,rfl,by decide +kernel,rfl,by decide +kernel,by decide +kernel⟩
theorem ok_labs8 {f fF fO fE:Addr}{fd' fdF fdO fdE:FuncData}(F:Fun K "_law_labels" "_law_labels" sLabs8 f fd') (FF:Fun K "_law_far" "_law_far" sFar fF fdF) (bF:Binds K fdF ["_law_web_here"] []) (mF:mg "_law_far" = some (.ref fF)) (GF:FnOk P w K mg base CX0 3 fF fdF ["_law_web_here"] spFar)
 (FO:Fun K "_law_on" "_law_on" sOn fO fdO) (bO:Binds K fdO ["_law_far_here", "_law_place", "_law_one", "_law_other"] []) (mO:mg "_law_on" = some (.ref fO)) (GO:FnOk P w K mg base CX0 3 fO fdO ["_law_far_here", "_law_place", "_law_one", "_law_other"] spOn)
 (FE:Fun K "_law_entry" "_law_entry" sEnt8 fE fdE) (bE:Binds K fdE ["_law_web_here", "_law_far_here", "_law_place", "_law_hub"] []) (mE:mg "_law_entry" = some (.ref fE)) (GE:FnOk P w K mg base CX0 3 fE fdE ["_law_web_here", "_law_far_here", "_law_place", "_law_hub"] spEnt8)
 (mRange:mg "range" = none) (mTuple:mg "tuple" = none):FnOk P w K mg base CX0 4 f fd' ["_law_web_here", "_law_order_here"] spLabs8:=by
 refine F.ok scLabs8 (fun vs H Q E h=>?_) (fun cdv A outer s H vs Q E hr h=>?_)
 . obtain⟨wa,p,n,ts,os,rfl,_⟩:=h
   rfl
 . obtain⟨wa,p,n,ts,os,rfl,W,hp,O,k⟩:=h
   obtain⟨ta,tys,hwa,_,_,G⟩:=id W
   have hn1:=G.n1
   have hn24:=G.n24
   have hu0:=hr.units0
   refine⟨_,pss_cons (ps_set (i:=2) scLabs8.nd rfl (Or.inr rfl) (pe_call GF hr rfl mF FF.kp bF .nil pass0 (pa_cons (pv 0) pa_nil)))
    (pss_cons (ps_set (i:=3) scLabs8.nd rfl (Or.inl rfl) (pe_lst pa_nil))
    (pss_cons (ps_for PassesOwn.never rfl (pi_range1 rfl mRange (pa_cons (pe_ix ix_tup (pv 0) pe_int (fun _ _=>rfl)) pa_nil)) (pg_name (i:=4) scLabs8.nd rfl (Or.inr rfl))
     (pss_cons (ps_set (i:=5) scLabs8.nd rfl (Or.inl rfl) (pe_lst pa_nil))
     (pss_cons (ps_for PassesOwn.never rfl (pi_range1 rfl mRange (pa_cons (pe_ix ix_tup (pv 0) pe_int (fun _ _=>rfl)) pa_nil)) (pg_name (i:=6) scLabs8.nd rfl (Or.inr rfl))
      (pss_cons (ps_setC (i:=7) (own:=["_law_one"]) (cn:=["_law_far_here", "_law_hub", "_law_place"]) (ci:=[2,6,4]) scLabs8.nd rfl (Or.inl rfl) rfl (csc rfl rfl) ⟨rfl,rfl,rfl,rfl,rfl,rfl,rfl,rfl,rfl,trivial⟩ rfl
       (pi_tup (pe_slice sl_tupA (pv 1) po_none (po_some (pe_bmT PySem.F.slot_tuple_index PySem.F.type_tuple_index mt_index (pv 1) (pa_cons (pv 6) pa_nil))))) (fun _ _ _ _=>pg_name (i:=0) (nd_of rfl) rfl (Or.inl rfl))
       (fun _ _ _ _=>pts_one (pt_val (pe_call GO hr rfl mO FO.kp bO .nil pass0 (pa_cons (pv 1) (pa_cons (pv 0) (pa_cons (pv 2) (pa_cons (pv 3) pa_nil))))))) (fun _ _ _ _=>pv 0))
      (pss_one (ps_if (PW.pt (pw_and (pt_cmpR op_notN (pe_ix ix_list (pe_ix ix_list (pv 2) (pv 6) (fun _ _=>rfl)) (pv 4) (fun _ _=>rfl)) pe_non (nomark _)) (pw_and1 (pt_cmpR (op_eqE hu0) (pv 7) (pe_lst pa_nil) (nomark _)))))
       (pss_one (ps_expr (pe_bm PySem.F.plainAttrs_list PySem.F.slot_list_append PySem.F.type_list_append mt_append (pv 5) (pa_cons (pe_call GE hr rfl mE FE.kp bE .nil pass0 (pa_cons (pv 0) (pa_cons (pv 2) (pa_cons (pv 4) (pa_cons (pv 6) pa_nil))))) pa_nil)))) pss_nil))))
     (pss_one (ps_expr (pe_bm PySem.F.plainAttrs_list PySem.F.slot_list_append PySem.F.type_list_append mt_append (pv 3) (pa_cons (pe_callTy call_tuple_of (by rfl) mTuple (by decide +kernel) (pa_cons (pv 5) pa_nil)) pa_nil)))))))
    (pss_one (ps_ret (pe_callTy call_tuple_of (by rfl) mTuple (by decide +kernel) (pa_cons (pv 3) pa_nil)))))),?_⟩
   refine⟨_,rfl,wa,n,ts,rfl,W,fun fl frs FM H0 s0 hfl FLR FRR=>?_⟩
   have FR0:FarAt H0 fl n ts FM:=⟨frs,hfl,FLR,FRR⟩
   have W0:=W.keep s0
   have hwa0:=s0 _ _ hwa
   have hp0:=s0 _ _ hp
   obtain⟨rk,R⟩:=RkOf.ex O
   refine⟨Nat.zero_le _,fun D hD=>?_⟩
   refine⟨_,rfl,wa,_,_,_,rfl,rfl,SqT.of (same_laid hD _ _ hwa0),rfl,n,rfl,by omega,by omega,for_range (lo:=0) (n:=n.toNat) (fun q σ H1=>∃(v4 v5 v6 v7:Option V)(bs:List Addr)(ess:List (List En)),σ=[some (.ref wa),some (.ref p),some (.ref fl),some (.ref D),v4,v5,v6,v7]/\bs.length=q/\ess.length=q/\H1 D=some (.lst (bs.map V.ref))/\(∀(i:Nat)(b:Addr),bs[i]? = some b->∃es,ess[i]? = some es/\LabAt H1 b es)/\(∀(i:Nat)(es:List En),ess[i]? = some es->LabOf ts n rk i es)/\Same H0 H1)
    ⟨none,none,none,none,[],[],rfl,rfl,rfl,upd_same,(fun i b z=>by simp at z),(fun i b z=>by simp at z),same_laid hD⟩ ?turn ?after⟩
   case after=>
    rintro σ H1 ⟨v4,v5,v6,v7,bs,ess,rfl,hbl,hel,hD1,hlab,hall,s1⟩
    refine⟨_,rfl,D,_,rfl,.inl ⟨SqL.of hD1,fun l hl=>?_⟩⟩
    refine k l ess rk _ (s0.trans (s1.trans (same_laid hl))) ⟨bs,upd_same,by omega,fun i b hb=>?_⟩ R ⟨hel,hall⟩ ?bound
    case bound=>
     intro es hes e he
     obtain⟨i,hi,ei⟩:=List.getElem_of_mem hes
     have EO:=(hall i es (by rw[List.getElem?_eq_getElem hi,ei])).ent e he
     exact rows_bd FRR (by omega) (by omega) EO.rng.1 EO.rng.2 EO.len
    obtain⟨es,e1,e2⟩:=hlab i b hb
    exact⟨es,e1,e2.same (same_laid hl)⟩
   case turn=>
    rintro q σ H1 hq ⟨v4,v5,v6,v7,bs,ess,rfl,hbl,hel,hD1,hlab,hall,s1⟩
    rw[Int.zero_add]
    have q0:(0:Int)<=q:=by omega
    have qn:(q:Int)<n:=by omega
    refine⟨Nat.zero_le _,fun E' hE=>?_⟩
    have nED:D≠E':=ne_of_none hD1 hE
    refine⟨_,rfl,wa,_,_,_,rfl,rfl,SqT.of (same_laid hE _ _ (s1 _ _ hwa0)),rfl,n,rfl,by omega,by omega,for_range (lo:=0) (n:=n.toNat) (fun j σ H2=>∃(v6 v7:Option V)(as:List Addr)(es:List En),σ=[some (.ref wa),some (.ref p),some (.ref fl),some (.ref D),some (.int q),some (.ref E'),v6,v7]/\H2 E'=some (.lst (as.map V.ref))/\EnsAt H2 as es/\Hub es/\(∀e∈es,EntOf ts n rk q e/\e.h<j)/\(∀h:Int,0<=h->h<j->HubOf ts rk h q->∃e∈es,e.h=h)/\es.length<=j/\Same H1 H2)
     ⟨v6,v7,[],[],rfl,upd_same,⟨rfl,fun i a z=>by simp at z⟩,List.Pairwise.nil,(fun e z=>by simp at z),(fun h a b=>by omega),Nat.le_refl _,same_laid hE⟩ ?turn2 ?after2⟩
    case after2=>
     rintro σ H2 ⟨v6,v7,as,es,rfl,hE2,EA,hub,ent,alh,hln,s2⟩
     refine⟨_,rfl,.inl ⟨rfl,_,SqL.of (s2 _ _ hD1)⟩,?_⟩
     refine⟨_,rfl,E',_,rfl,.inl ⟨SqL.of hE2,fun l hl=>?_⟩⟩
     have sl:=same_laid (o:=.tup (as.map V.ref)) hl
     refine⟨D,_,.ref l,rfl,rfl,sl _ _ (s2 _ _ hD1),?_,?_⟩
     . rw[List.length_map]
       exact small_line (by omega)
     . have kT:∀b ys,H1 b=some (.tup ys)->(upd (upd H2 l (.tup (as.map V.ref))) D (.lst (bs.map V.ref++[.ref l]))) b=some (.tup ys):=fun b ys e=>by
        have hb:b≠D:=fun z=>by rw[z,hD1] at e;cases e
        rw[upd_ne hb]
        exact sl _ _ (s2 _ _ e)
       have nlD:l≠D:=fun z=>by rw[z,s2 _ _ hD1] at hl;cases hl
       have hl':(upd (upd H2 l (.tup (as.map V.ref))) D (.lst (bs.map V.ref++[.ref l]))) l=some (.tup (as.map V.ref)):=by rw[upd_ne nlD];exact upd_same
       refine⟨_,_,_,_,bs++[l],ess++[es],rfl,by rw[List.length_append,hbl];rfl,by rw[List.length_append,hel];rfl,by rw[upd_same,List.map_append];rfl,fun i b hb=>?_,fun i es' he=>?_,same_chg ((s1.trans s2).trans sl) hD⟩
       . by_cases c:i<bs.length
         . rw[List.getElem?_append_left c] at hb
           obtain⟨es',e1,e2⟩:=hlab i b hb
           exact⟨es',by rw[List.getElem?_append_left (by omega)];exact e1,e2.keep kT⟩
         . have hi:i=bs.length:=by
            have:=(List.getElem?_eq_some_iff.mp hb).1
            rw[List.length_append] at this
            simp at this;omega
           subst hi
           rw[List.getElem?_append_right (Nat.le_refl _),Nat.sub_self] at hb
           have eb:l=b:=by simpa using hb
           subst eb
           refine⟨es,by rw[List.getElem?_append_right (by omega),hbl,hel,Nat.sub_self];rfl,as,hl',EA.keep fun b ys e=>?_,by omega⟩
           have hb:b≠D:=fun z=>by rw[z,s2 _ _ hD1] at e;cases e
           rw[upd_ne hb]
           exact sl _ _ e
       . by_cases c:i<ess.length
         . rw[List.getElem?_append_left c] at he
           exact hall i es' he
         . have hi:i=ess.length:=by
            have:=(List.getElem?_eq_some_iff.mp he).1
            rw[List.length_append] at this
            simp at this;omega
           subst hi
           rw[List.getElem?_append_right (Nat.le_refl _),Nat.sub_self] at he
           have ee:es=es':=by simpa using he
           subst ee
           rw[hel]
           exact⟨hub,fun e he=>(ent e he).1,fun h h0 h1 z=>alh h h0 (by omega) z,by omega⟩
    case turn2=>
     rintro j σ H2 hj ⟨v6,v7,as,es,rfl,hE2,EA,hub,ent,alh,hln,s2⟩
     rw[Int.zero_add]
     have j0:(0:Int)<=j:=by omega
     have jn:(j:Int)<n:=by omega
     obtain⟨rj0,hoi⟩:=R (j:Int) j0 jn
     obtain⟨hil,hie⟩:=List.getElem?_eq_some_iff.mp hoi
     have hp2:=s2 _ _ (s1 _ _ hp0)
     have hno:∀m,m<(rk j).toNat->os[m]?≠some (j:Int):=fun m hm e=>by
      obtain⟨hm',em⟩:=List.getElem?_eq_some_iff.mp e
      have:=(List.getElem_inj O.nd).mp (em.trans hie.symm)
      omega
     have ec:cutV (os.map V.int) none (some (((rk j).toNat:Nat):Int))=(os.take (rk j).toNat).map V.int:=by
      unfold cutV
      rw[HT.sIx_none,HT.sIx_nat,List.drop_zero,Nat.sub_zero,List.length_map,Nat.min_eq_left (by omega),List.map_take]
     refine⟨_,rfl,_,rfl,⟨p,_,rfl,hp2⟩,_,rfl,p,os,(rk j).toNat,j,rfl,rfl,SqT.of hp2,hoi,hno,(((rk j).toNat:Nat):Int),rfl,p,_,rfl,SqT.of hp2,fun z=>?whole,fun _ t ht=>?_⟩
     case whole=>
      have z2:=z.2
      rw[HT.sIx_nat,List.length_map] at z2
      omega
     rw[ec]
     have st:=same_laid (o:=.tup ((os.take (rk j).toNat).map V.int)) ht
     have ht3:(upd H2 t (.tup ((os.take (rk j).toNat).map V.int))) t=some (.tup ((os.take (rk j).toNat).map V.int)):=upd_same
     generalize upd H2 t (.tup ((os.take (rk j).toNat).map V.int))=H3 at st ht3 ⊢
     have FR3:FarAt H3 fl n ts FM:=FR0.keep fun b ys e=>st _ _ (s2 _ _ (s1 _ _ e))
     refine⟨t,rfl,⟨_,SqT.of ht3⟩,[.ref fl,.int j,.int q],rfl,fun D3 hD3=>?_⟩
     refine comp_tup (a:=t) (xs:=(os.take (rk j).toNat).map V.int) (fun m ys H4=>ys=(((os.take (rk j).toNat).take m).filter fun x=>onB FM x j q).map V.int/\H4=upd H3 D3 (.lst ys)) ⟨rfl,rfl⟩ (fun m ys H4 z=>?_) (fun m ys H4 z=>?_) (fun m x ys H4 hx z=>?_) (fun ys H4 z=>?_)
     . obtain⟨_,rfl⟩:=z
       exact SqT.of (by rw[upd_ne (ne_of_none ht3 hD3)];exact ht3)
     . obtain⟨rfl,_⟩:=z
       rw[List.length_map]
       refine Nat.lt_of_le_of_lt (List.length_filter_le _ _) ?_
       rw[List.length_take,List.length_take]
       exact small_line (by have:=O.ln;omega)
     . obtain⟨rfl,rfl⟩:=z
       obtain⟨y,hy,rfl⟩:=int_at hx
       have yr:=O.rng y (List.mem_of_mem_take (List.mem_of_getElem? hy))
       have sty:((os.take (rk j).toNat).take (m+1)).filter (fun x=>onB FM x j q)=((os.take (rk j).toNat).take m).filter (fun x=>onB FM x j q)++[y].filter (fun x=>onB FM x j q):=by rw[List.take_add_one,hy,List.filter_append];rfl
       refine⟨⟨rfl,rfl⟩,?_⟩
       refine⟨_,rfl,_,rfl,_,rfl,_,rfl,fl,n,ts,FM,y,j,q,rfl,FR3.keep fun b ys e=>same_laid hD3 _ _ e,yr.1,yr.2,j0,jn,q0,qn,?_⟩
       refine⟨_,rfl,?_⟩
       by_cases c:onB FM y j q=true
       . refine ifT c ?_
         refine⟨_,rfl,upd_same,?_,upd_upd⟩
         rw[sty,List.filter_cons_of_pos (p:=fun x=>onB FM x j q) c,List.filter_nil,List.map_append];rfl
       . refine ifF (Bool.not_eq_true _ ▸ c) ⟨?_,rfl⟩
         rw[sty,List.filter_cons_of_neg (p:=fun x=>onB FM x j q) c,List.filter_nil,List.append_nil]
     . obtain⟨rfl,rfl⟩:=z
       rw[List.length_map,List.take_of_length_le (Nat.le_refl _)]
       have sD3:=same_laid (o:=.lst (((os.take (rk j).toNat).filter fun x=>onB FM x j q).map V.int)) hD3
       have hDl:(upd H3 D3 (.lst (((os.take (rk j).toNat).filter fun x=>onB FM x j q).map V.int))) D3=some (.lst (((os.take (rk j).toNat).filter fun x=>onB FM x j q).map V.int)):=upd_same
       generalize upd H3 D3 (.lst (((os.take (rk j).toNat).filter fun x=>onB FM x j q).map V.int))=H4 at sD3 hDl ⊢
       have FR4:FarAt H4 fl n ts FM:=FR3.keep fun b ys e=>sD3 _ _ e
       have s24:Same H2 H4:=st.trans sD3
       have key:=hub_iff G FR4 O R j0 jn q0 qn
       obtain⟨rs1,r1,row1,f1,g1,i1,j1,l1⟩:=FR4.get (x:=(j:Int)) (y:=(q:Int)) j0 jn q0 qn
       refine⟨_,rfl,_,rfl,fl,_,_,.ref r1,rfl,rfl,SqL.of f1,g1,_,rfl,r1,_,_,_,rfl,rfl,SqL.of i1,j1,rfl,_,rfl,?_⟩
       have stay:∀{Hx:Hp},Same H2 Hx->¬ HubOf ts rk j q->∃(v6 v7:Option V)(as:List Addr)(es:List En),[some (V.ref wa),some (.ref p),some (.ref fl),some (.ref D),some (.int q),some (.ref E'),some (.int j),some (.ref D3)]=[some (.ref wa),some (.ref p),some (.ref fl),some (.ref D),some (.int q),some (.ref E'),v6,v7]/\Hx E'=some (.lst (as.map V.ref))/\EnsAt Hx as es/\Hub es/\(∀e∈es,EntOf ts n rk q e/\e.h<((j+1:Nat):Int))/\(∀h:Int,0<=h->h<((j+1:Nat):Int)->HubOf ts rk h q->∃e∈es,e.h=h)/\es.length<=j+1/\Same H1 Hx:=fun {Hx} sx nh=>
        ⟨_,_,as,es,rfl,sx _ _ hE2,EA.keep fun b ys e=>sx _ _ e,hub,fun e he=>⟨(ent e he).1,by have:=(ent e he).2;omega⟩,fun h h0 h1 z=>by
         by_cases c:h=j
         . subst c;exact absurd z nh
         . exact alh h h0 (by omega) z,by omega,s2.trans sx⟩
       cases e:mat FM j q with
       | none=>
        have nh:¬ HubOf ts rk j q:=fun z=>by have:=(key.mp z).1;rw[e] at this;cases this
        refine ifF (by rw[oV_none_eq];rfl) ?_
        exact iteF (stay s24 nh)
       | some d=>
        refine ifT (by rw[oV_some_ne];rfl) ?_
        refine⟨_,rfl,Nat.zero_le _,fun b hb=>?_⟩
        have sb:=same_laid (o:=.lst []) hb
        refine⟨D3,b,_,rfl,rfl,SqL.of (sb _ _ hDl),SqL.of upd_same,_,rfl,?_⟩
        by_cases c:((os.take (rk j).toNat).filter fun x=>onB FM x j q)=[]
        . have yh:HubOf ts rk j q:=key.mpr ⟨by rw[e];rfl,c⟩
          refine ifT (by rw[c];rfl) ?_
          have s25:=s24.trans sb
          generalize upd H4 b (.lst [])=H5 at s25 sb ⊢
          refine⟨_,rfl,.inl ⟨rfl,_,SqL.of (s25 _ _ hE2)⟩,?_⟩
          refine⟨_,rfl,_,rfl,_,rfl,_,rfl,wa,fl,n,ts,FM,q,j,rfl,W0.keep (s1.trans (s2.trans s25)),FR4.keep fun b ys e=>sb _ _ e,q0,qn,j0,jn,yh.1,fun a en H6 s6 ha eh el eu ed=>?_⟩
          have hE6:=s6 _ _ (s25 _ _ hE2)
          refine⟨E',_,.ref a,rfl,rfl,hE6,?_,?_⟩
          . rw[List.length_map,EA.1]
            exact small_line (by omega)
          . have kT:∀b ys,H2 b=some (.tup ys)->(upd H6 E' (.lst (as.map V.ref++[.ref a]))) b=some (.tup ys):=fun b ys e=>by
             have hb:b≠E':=fun z=>by rw[z,hE2] at e;cases e
             rw[upd_ne hb]
             exact s6 _ _ (s25 _ _ e)
            have naE:a≠E':=fun z=>by rw[z,hE6] at ha;cases ha
            have EO:EntOf ts n rk q en:=by
             refine⟨by rw[eh];exact⟨j0,jn⟩,by rw[eh];exact yh,by rw[eh];exact el,by rw[eh];exact eu,by rw[eh];exact ed⟩
            refine⟨_,_,as++[a],es++[en],rfl,by rw[upd_same,List.map_append];rfl,(EA.keep kT).snoc (by rw[upd_ne naE];exact ha),?_,fun e he=>?_,fun h h0 h1 z=>?_,by rw[List.length_append];show es.length+1<=j+1;omega,same_chg ((s2.trans s25).trans s6) hE⟩
            . refine List.pairwise_append.mpr ⟨hub,List.pairwise_singleton _ _,fun x hx y hy=>?_⟩
              have ey:y=en:=by simpa using hy
              rw[ey,eh]
              exact (ent x hx).2
            . rcases List.mem_append.mp he with m | m
              . exact⟨(ent e m).1,by have:=(ent e m).2;omega⟩
              . have ee:e=en:=by simpa using m
                rw[ee]
                exact⟨EO,by rw[eh];omega⟩
            . by_cases ch:h=j
              . exact⟨en,by simp,by rw[eh,ch]⟩
              . obtain⟨e',m,he'⟩:=alh h h0 (by omega) z
                exact⟨e',List.mem_append_left _ m,he'⟩
        . have nh:¬ HubOf ts rk j q:=fun z=>c (key.mp z).2
          refine ifF ?_ (stay (s24.trans sb) nh)
          cases z:((os.take (rk j).toNat).filter fun x=>onB FM x j q) with
          | nil=>exact absurd z c
          | cons _ _=>rfl
end
section
variable {X:Cx}
def rEqL (K:PySem.W.Frag):R2:=fun x y H Q=>∃(a b:Addr)(xs ys:List Int),x = .ref a/\y = .ref b/\SqL K H a (xs.map V.int)/\SqL K H b (ys.map V.int)/\Q (.bl (decide (xs=ys))) H
theorem op_eqL (hu:X.A.units<cLine):OpR X (compareOp .Eq) (rEqL X.K):=by
 intro pins s σ H x y v u Q I rx ry h
 obtain⟨a,b,xs,ys,rfl,rfl,ha,hb,q⟩:=h
 cases rx
 cases ry
 obtain⟨its,r,pl,hz⟩:=I.list ha
 obtain⟨its2,r2,pl2,hz2⟩:=I.list hb
 have h1:=intsAre_of r
 have h2:=intsAre_of r2
 have l1:=h1.length
 have l2:=h2.length
 by_cases hl:its.length=its2.length
 . refine SeqAt.eq_listAt (e:=fun j=>xs.getD j 0==ys.getD j 0) pl.isList pl2.isList (by rw[List.size_toArray,List.size_toArray];exact hl) hu (fun j a b=>eqAts h1 h2 j a b) ⟨.bl _,H,I,rfl,?_⟩
   rw[List.size_toArray]
   have e:=ints_all (xs:=xs) (ys:=ys)
   rw[show min xs.length ys.length=its.length by omega,show (xs.length==ys.length)=true by simpa using (by omega),Bool.and_true] at e
   rw[e]
   exact q
 . refine SeqAt.eq_list_lengthsAt pl.isList pl2.isList (by rw[List.size_toArray,List.size_toArray];simpa using hl) hu ⟨.bl _,H,I,rfl,?_⟩
   have hne:xs≠ys:=fun e=>hl (by rw[l1,l2,e])
   rw[decide_eq_false hne] at q
   exact q
end
section
variable {X:Cx}{pl:List (Addr×Obj)}{N':List Str}{sc:Scope}{fp:List Addr}{s3:Shared}{H3:Hp}
theorem call_isinstC:CallR (cxComp X pl N' sc fp s3 H3) (.builtin "isinstance") (fun xs H Q=>∃x T t b,xs=[x,.ty T]/\TyOf X.K H x t/\PySem.W.kitOne X.K t (.type T)=some b/\Q (.bl b) H):=call_isinst
end
theorem nums_of:∀{ds:List PyData},ds.all numD=true->∃os:List Int,ds=os.map PyData.int
 | [],_=>⟨[],rfl⟩
 | d::ds,h=>by
  rw[List.all_cons,Bool.and_eq_true] at h
  obtain⟨os,rfl⟩:=nums_of h.2
  cases d with
  | int i=>exact⟨i::os,rfl⟩
  | _=>cases h.1
theorem all_nums:∀os:List Int,(os.map PyData.int).all numD=true
 | []=>rfl
 | _::os=>all_nums os
theorem sorted_low {n:Int}{os ms:List Int}(n0:0<=n)(pm:ms.Perm os)(so:ms.Pairwise (· <= ·)):ms=lowTo n.toNat↔Ordr n os:=by
 have hlen:(lowTo n.toNat).length=n.toNat:=by unfold lowTo;simp
 have hmem:∀p:Int,p∈lowTo n.toNat↔0<=p/\p<n:=fun p=>by
  unfold lowTo
  rw[List.mem_map]
  constructor
  . rintro ⟨i,hi,rfl⟩
    have:=List.mem_range.mp hi
    omega
  . intro h
    exact⟨p.toNat,List.mem_range.mpr (by omega),by omega⟩
 have hlow:(lowTo n.toNat).Pairwise (· < ·):=by
  unfold lowTo
  refine List.Pairwise.map _ (fun a b h=>?_) List.pairwise_lt_range
  exact Int.ofNat_lt.mpr h
 constructor
 . intro e
   subst e
   refine⟨by rw[<-pm.length_eq,hlen],pm.nodup_iff.mp (hlow.imp fun h=>by omega),fun p hp=>(hmem p).mp (pm.mem_iff.mpr hp)⟩
 . intro O
   have nd:ms.Nodup:=pm.nodup_iff.mpr O.nd
   have ms_lt:ms.Pairwise (· < ·):=by
    refine (so.and nd).imp fun h=>?_
    have:=h.1
    have:=h.2
    omega
   have pm2:ms.Perm (lowTo n.toNat):=by
    refine (List.perm_ext_iff_of_nodup nd (hlow.imp fun h=>by omega)).mpr fun p=>?_
    rw[hmem,pm.mem_iff]
    exact⟨O.rng p,fun h=>O.mem h.1 h.2⟩
   exact pm2.eq_of_pairwise (fun a b _ _ h1 h2=>by omega) ms_lt hlow
def spIso:Sp:=fun vs H Q _=>∃(v:V)(d:PyData)(n:Int),vs=[.int n,v]/\Shows H v d/\1<=n/\n<=24/\(∀ds,d = .tuple ds->ds.length<64)/\∀(b:Bool) H',(b=true↔IsOrd n d)->Same H H'->Q (.bl b) H'
section
variable {P:Program}{w:World}{K:PySem.W.Frag}{mg:Str->Option Value}{base:Heap}
theorem scIso:FnScope ["_law_n_here", "_law_thing"] ["_law_n_here", "_law_thing"] (defScope sIso):=⟨rfl,rfl,rfl,by decide +kernel,rfl,by decide +kernel,by decide +kernel⟩
theorem ok_iso {f:Addr}{fd':FuncData}(F:Fun K "_law_is_order" "_law_is_order" sIso f fd') (mIsi:mg "isinstance" = none) (mInt:mg "int" = none) (mBool:mg "bool" = none) (mTuple:mg "tuple" = none) (mSorted:mg "sorted" = none) (mList:mg "list" = none) (mRange:mg "range" = none) :
 FnOk P w K mg base CX0 1 f fd' ["_law_n_here", "_law_thing"] spIso:=by
 refine F.ok scIso (fun vs H Q E h=>?_) (fun cdv A outer s H vs Q E hr h=>?_)
 . obtain⟨v,d,n,rfl,_⟩:=h
   rfl
 . obtain⟨v,d,n,rfl,S,n1,n24,hsm,k⟩:=h
   have hu0:=hr.units0
   obtain⟨t,bi,bb,bt,ty,_,_,e3,_,e5,_,ht⟩:=isi_of (K:=K) S
   refine⟨_,pss_cons (ps_if (pt_not (pt_val (pe_callB call_isinst (by rfl) mIsi (by decide +kernel) (pa_cons (pv 1) (pa_cons (pe_tyN (T := "tuple") (by rfl) mTuple (by decide +kernel)) pa_nil))))) (pss_one (ps_ret pe_bl)) pss_nil)
    (pss_cons (ps_if (pt_cmpR (op_neE hu0) (pe_comp (own:=["_law_one"]) (cn:=[]) (ci:=[]) rfl (csc rfl rfl) trivial rfl (pi_tup (pv 1)) (fun _ _ _ _=>pg_name (i:=0) (nd_of rfl) rfl (Or.inl rfl))
     (fun _ _ _ _=>pts_one (PW.pt (pw_or (pt_not (pt_val (pe_callB call_isinstC (by rfl) mIsi (by decide +kernel) (pa_cons (pv 0) (pa_cons (pe_tyN (T := "int") (by rfl) mInt (by decide +kernel)) pa_nil))))) (pw_or1 (pt_val (pe_callB call_isinstC (by rfl) mIsi (by decide +kernel) (pa_cons (pv 0) (pa_cons (pe_tyN (T := "bool") (by rfl) mBool (by decide +kernel)) pa_nil)))))))) (fun _ _ _ _=>pv 0)) (pe_lst pa_nil) (nomark _)) (pss_one (ps_ret pe_bl)) pss_nil)
    (pss_one (ps_ret (pe_cmpR (op_eqL hu0) (pe_callB call_sortedTI (by rfl) mSorted (by decide +kernel) (pa_cons (pv 1) pa_nil)) (pe_lrange rfl rfl mList rfl mRange (pa_cons (pv 0) pa_nil)) (nomark _))))),?_⟩
   refine⟨_,rfl,_,_,t,bt,rfl,ty,e3,bt,rfl,?_⟩
   rw[e5]
   cases hn:tupD d with
   | false=>
    refine iteT (k false H ⟨(fun z=>by cases z),?_⟩ (Same.refl _))
    rintro ⟨os,rfl,_⟩
    cases hn
   | true=>
    refine iteF ?_
    obtain⟨a,xs,ds,rfl,ha,rfl,al⟩:=ht hn
    have hxl:=shAll_len al
    have hl64:=hsm ds rfl
    refine⟨_,rfl,a,rfl,⟨_,SqT.of ha⟩,[],rfl,fun D hD=>?_⟩
    refine comp_tup (a:=a) (xs:=xs) (fun i ys H4=>(ys=[]↔(ds.take i).all numD=true)/\ys.length<=(ds.take i).length/\H4=upd H D (.lst ys)) ⟨⟨fun _=>rfl,fun _=>rfl⟩,Nat.zero_le _,rfl⟩ (fun i ys H4 z=>?_) (fun i ys H4 z=>?_) (fun i x ys H4 hx z=>?_) (fun ys H4 z=>?_)
    . obtain⟨_,_,rfl⟩:=z
      exact SqT.of (same_laid hD _ _ ha)
    . obtain⟨_,hl,_⟩:=z
      rw[List.length_take] at hl
      exact small_line (by omega)
    . obtain⟨hy,hl,rfl⟩:=z
      have hi:i<ds.length:=by have:=(List.getElem?_eq_some_iff.mp hx).1;omega
      obtain⟨x',hx',Sx⟩:=shAll_get al (List.getElem?_eq_getElem hi)
      rw[hx] at hx'
      cases hx'
      have Sx1:=shows_keep (same_laid (o:=.lst ys) hD) Sx
      obtain⟨tx,xi,xb,xt,tyx,x1,x2,_,x4,_⟩:=isi_of (K:=K) Sx1
      have et:(ds.take (i+1)).all numD=((ds.take i).all numD && numD ds[i]):=by
       rw[List.take_add_one,List.getElem?_eq_getElem hi,List.all_append]
       show ((ds.take i).all numD && (numD ds[i] && true))=_
       rw[Bool.and_true]
      refine⟨⟨rfl,rfl⟩,?_⟩
      refine⟨_,rfl,_,_,tx,xi,rfl,tyx,x1,xi,rfl,?_⟩
      have yes:numD ds[i]=true->(ys=[]↔(ds.take (i+1)).all numD=true)/\ys.length<=(ds.take (i+1)).length/\upd H D (.lst ys)=upd H D (.lst ys):=fun e=>⟨by rw[et,e,Bool.and_true];exact hy,by rw[List.length_take] at hl ⊢;omega,rfl⟩
      have no:numD ds[i]=false->(ys++[x]=[]↔(ds.take (i+1)).all numD=true)/\(ys++[x]).length<=(ds.take (i+1)).length/\upd (upd H D (.lst ys)) D (.lst (ys++[x]))=upd H D (.lst (ys++[x])):=fun e=>⟨by rw[et,e,Bool.and_false];simp,by rw[List.length_append,List.length_take];rw[List.length_take] at hl;show ys.length+1<=_;omega,upd_upd⟩
      cases xi with
      | false=>
       refine iteT (iteT ?_)
       exact⟨_,rfl,upd_same,no (by rw[<-x4];rfl)⟩
      | true=>
       refine iteF ?_
       refine⟨_,rfl,_,_,tx,xb,rfl,tyx,x2,xb,rfl,?_⟩
       cases xb with
       | true=>exact iteT ⟨_,rfl,upd_same,no (by rw[<-x4];rfl)⟩
       | false=>exact iteF (yes (by rw[<-x4];rfl))
    . obtain⟨hy,hl,rfl⟩:=z
      rw[hxl,List.take_of_length_le (Nat.le_refl _)] at hy
      refine⟨Nat.zero_le _,fun b hb=>?_⟩
      have sb:=(same_laid (o:=.lst ys) hD).trans (same_laid (o:=.lst []) hb)
      have hD2:(upd (upd H D (.lst ys)) b (.lst [])) D=some (.lst ys):=same_laid hb _ _ upd_same
      refine⟨D,b,ys,rfl,rfl,SqL.of hD2,SqL.of upd_same,_,rfl,?_⟩
      generalize upd (upd H D (.lst ys)) b (.lst [])=H5 at sb ⊢
      cases hall:ds.all numD with
      | false=>
       have hne:ys≠[]:=fun z=>by have:=hy.mp z;rw[hall] at this;cases this
       have e0:(!ys.isEmpty)=true:=by cases ys with
        | nil=>exact absurd rfl hne
        | cons _ _=>rfl
       refine ifT e0 (k false _ ⟨(fun z=>by cases z),?_⟩ sb)
       rintro ⟨os,e,_⟩
       cases e
       rw[all_nums] at hall
       cases hall
      | true=>
       have he:ys=[]:=hy.mpr hall
       subst he
       refine ifF rfl ?_
       obtain⟨os,rfl⟩:=nums_of hall
       have hxs:=sh_int al
       subst hxs
       rw[List.length_map] at hl64
       refine⟨_,rfl,a,os,rfl,SqT.of (sb _ _ ha),hl64,fun l ms hl2 pm so=>?_⟩
       refine⟨_,rfl,n,rfl,?_⟩
       refine⟨by omega,by omega,fun l2 hl3=>⟨l,l2,ms,lowTo n.toNat,rfl,rfl,SqL.of (same_laid hl3 _ _ upd_same),SqL.of upd_same,?_⟩⟩
       refine k _ _ ?_ (sb.trans ((same_laid hl2).trans (same_laid hl3)))
       rw[decide_eq_true_iff,sorted_low (by omega) pm so]
       constructor
       . intro O
         exact⟨os,rfl,O⟩
       . rintro ⟨os',e,O⟩
         have e':=int_inj (PyData.tuple.inj e)
         subst e'
         exact O
end
inductive NL:PyData->Prop
 | non:NL .none
 | bl (b:Bool):NL (.bool b)
 | int (i:Int):NL (.int i)
 | str (x:Str):NL (.str x)
 | tup (ds:List PyData)(h:∀d∈ds,NL d):NL (.tuple ds)
theorem shows_keepN {H H':Hp}(k:∀b ys,H b=some (.tup ys)->H' b=some (.tup ys)){v:V}{d:PyData}(s:Shows H v d)(n:NL d):Shows H' v d:=by
 refine Shows.rec (motive_1:=fun v d _=>NL d->Shows H' v d) (motive_2:=fun xs ds _=>(∀d∈ds,NL d)->ShowsAll H' xs ds) (fun _=>.non) (fun b _=>.bl b) (fun i _=>.int i) (fun x _=>.str x) (fun e _ ih n=>?_) (fun e _ ih n=>by cases n) (fun _=>.nil) (fun _ _ i1 i2 h=>.cons (i1 (h _ List.mem_cons_self)) (i2 fun d hd=>h d (List.mem_cons_of_mem _ hd))) s n
 cases n with
 | tup ds h=>exact .tup (k _ _ e) (ih h)
def Small (d:PyData):Prop:=∀ds,d = .tuple ds->ds.length<64
def Th (H:Hp)(v:V):Prop:=∃d,Shows H v d/\NL d/\Small d
theorem Th.keep {H H':Hp}{v:V}(h:Th H v)(k:∀b ys,H b=some (.tup ys)->H' b=some (.tup ys)):Th H' v:=let ⟨d,s,n,m⟩:=h;⟨d,shows_keepN k s n,n,m⟩
theorem Th.same {H H':Hp}{v:V}(h:Th H v)(k:Same H H'):Th H' v:=h.keep fun b ys e=>k _ _ e
theorem th_int {H:Hp}(i:Int):Th H (.int i):=⟨.int i,.int i,.int i,fun ds e=>by cases e⟩
theorem th_non {H:Hp}:Th H .non:=⟨.none,.non,.non,fun ds e=>by cases e⟩
theorem th_bl {H:Hp}(b:Bool):Th H (.bl b):=⟨.bool b,.bl b,.bl b,fun ds e=>by cases e⟩
theorem th_str {H:Hp}(x:Str):Th H (.str x):=⟨.str x,.str x,.str x,fun ds e=>by cases e⟩
theorem th_all {H:Hp}:∀{xs:List V},(∀x∈xs,Th H x)->∃ds,ShowsAll H xs ds/\(∀d∈ds,NL d)/\ds.length=xs.length
 | [],_=>⟨[],.nil,(fun d h=>by cases h),rfl⟩
 | x::xs,h=>by
  obtain⟨d,s,n,_⟩:=h x List.mem_cons_self
  obtain⟨ds,ss,ns,hl⟩:=th_all fun y hy=>h y (List.mem_cons_of_mem _ hy)
  refine⟨d::ds,.cons s ss,fun e he=>?_,by rw[List.length_cons,List.length_cons,hl]⟩
  rcases List.mem_cons.mp he with rfl | he
  . exact n
  . exact ns e he
theorem th_tup {H:Hp}{p:Addr}{xs:List V}(hp:H p=some (.tup xs))(h:∀x∈xs,Th H x)(hl:xs.length<64):Th H (.ref p):=by
 obtain⟨ds,s,n,e⟩:=th_all h
 exact⟨.tuple ds,.tup hp s,.tup ds n,fun ds' e'=>by cases e';omega⟩
theorem cut_mem {xs:List V}{lo hi:Option Int}{x:V}(h:x∈cutV xs lo hi):x∈xs:=List.mem_of_mem_drop (List.mem_of_mem_take h)
section
variable {X:Cx}
def rCatV:R2:=fun x y H Q=>∃(a b:Addr)(xs ys:List V),x = .ref a/\y = .ref b/\H a=some (.tup xs)/\H b=some (.tup ys)/\xs.length+ys.length<=sizeLine/\∀(p:Addr)(H':Hp),Same H H'->H' p=some (.tup (xs++ys))->Q (.ref p) H'
theorem op_catV:OpR X (binaryOp .Add) rCatV:=fun pins s σ H x y v u Q I rx ry h=>by
 obtain⟨a,b,xs,ys,rfl,rfl,ha,hb,hz,q⟩:=h
 refine op_catA pins s σ H _ _ v u Q I rx ry ⟨a,b,xs,ys,rfl,rfl,SqT.of ha,SqT.of hb,hz,fun e=>?_,fun _ e=>?_,fun _ _ p hp=>q p _ (same_laid hp) upd_same⟩
 . subst e;exact q b H (Same.refl _) hb
 . subst e;exact q a H (Same.refl _) (by rw[List.append_nil];exact ha)
def rSlV:V->Option Int->Option Int->Hp->VK->Prop:=fun x lo hi H Q=>∃(a:Addr)(xs:List V),x = .ref a/\H a=some (.tup xs)/\∀(p:Addr)(H':Hp),Same H H'->H' p=some (.tup (cutV xs lo hi))->Q (.ref p) H'
theorem sl_tupV:SlR X rSlV:=fun pins s σ H x v vl vu lo hi sl Q I rx hs pl pu h=>by
 obtain⟨a,xs,rfl,ha,q⟩:=h
 refine sl_tupA pins s σ H _ v vl vu lo hi sl Q I rx hs pl pu ⟨a,xs,rfl,SqT.of ha,fun e=>?_,fun _ p hp=>q p _ (same_laid hp) upd_same⟩
 refine q a H (Same.refl _) ?_
 have:cutV xs lo hi=xs:=by
  unfold cutV
  rw[e.1,e.2,List.drop_zero,Nat.sub_zero,List.take_of_length_le (Nat.le_refl _)]
 rw[this]
 exact ha
end
theorem at_some {os:List Int}{i:Int}(h0 : -1<=i)(h1:i<os.length)(hl:0<os.length):∃o,atI (os.map V.int) i=some (.int o):=by
 have hx:∃j,j<os.length/\ixN (os.map V.int).length i=some j:=by
  unfold ixN
  rw[List.length_map]
  by_cases c:0<=i
  . rw[if_pos c,if_pos h1]
    exact⟨i.toNat,by omega,rfl⟩
  . rw[if_neg c,if_pos (by omega)]
    exact⟨(i+os.length).toNat,by omega,rfl⟩
 obtain⟨j,hj,e⟩:=hx
 refine⟨os[j],?_⟩
 unfold atI
 rw[e]
 show (os.map V.int)[j]? = _
 rw[List.getElem?_map,List.getElem?_eq_getElem hj]
 rfl
def spStr:Sp:=fun vs H Q _=>∃(t p:Addr)(N:Nat)(n:Int)(os:List Int),vs=[.ref t,.int n,.ref p]/\TapeAt H t N/\N<900000/\1<=n/\n<=24/\H p=some (.tup (os.map V.int))/\Ordr n os /\
 ∀(l l1:Addr)(xs:List V)(H':Hp),Sm t H H'->TapeAt H' t (N+1)->H' l=some (.lst (.ref l1::xs))->H' l1=some (.lst (os.map V.int))->(∀x∈xs,Th H' x)->xs.length<=100->Q (.ref l) H'
section
variable {P:Program}{w:World}{K:PySem.W.Frag}{mg:Str->Option Value}{base:Heap}
theorem scStr:FnScope ["_law_tape_here", "_law_n_here", "_law_order_here", "_law_at", "_law_some", "_law_one"] ["_law_tape_here", "_law_n_here", "_law_order_here"] (defScope sStr):=⟨rfl,rfl,rfl,by decide +kernel,rfl,by decide +kernel,by decide +kernel⟩
theorem ok_str {f fD:Addr}{fd' fdD:FuncData}(F:Fun K "_law_strange" "_law_strange" sStr f fd') (FD:Fun K "_law_draw" "_law_draw" sDraw fD fdD) (bD:Binds K fdD ["_law_tape_here", "_law_many"] []) (mD:mg "_law_draw" = some (.ref fD)) (mLen:mg "len" = none) (mList:mg "list" = none) :
 FnOk P w K mg base CX0 2 f fd' ["_law_tape_here", "_law_n_here", "_law_order_here"] spStr:=by
 have GD:FnOk P w K mg base CX0 1 fD fdD ["_law_tape_here", "_law_many"] spDraw:=ok_draw FD mLen
 refine F.ok scStr (fun vs H Q E h=>?_) (fun cdv A outer s H vs Q E hr h=>?_)
 . obtain⟨t,p,N,n,os,rfl,_⟩:=h
   rfl
 . obtain⟨t,p,N,n,os,rfl,T,hN,n1,n24,hp,O,k⟩:=h
   refine⟨_,pss_cons (ps_set (i:=3) scStr.nd rfl (Or.inl rfl) (pe_call GD hr rfl mD FD.kp bD .nil pass0 (pa_cons (pv 0) (pa_cons (pv 1) pa_nil))))
    (pss_cons (ps_set (i:=4) scStr.nd rfl (Or.inl rfl) (pe_lst (pa_cons (pe_callTy call_list_of (by rfl) mList (by decide +kernel) (pa_cons (pv 2) pa_nil)) (pa_cons (pe_slice sl_tupV (pv 2) (po_some pe_int) po_none)
     (pa_cons (pe_op op_catV (pv 2) (pe_tup (pa_cons (pv 3) pa_nil))) (pa_cons pe_non (pa_cons pe_bl (pa_cons pe_str (pa_cons (pe_tup pa_nil) (pa_cons (pe_tup (pa_cons (pv 2) pa_nil)) pa_nil))))))))))
    (pss_cons (ps_for PassesOwn.never rfl (pi_list (pe_lst (pa_cons (pv 1) (pa_cons (pe_un un_neg pe_int) (pa_cons pe_non (pa_cons pe_str (pa_cons (pe_ix ix_tup (pv 2) (pe_op op_sub (pv 3) pe_int) (fun _ _=>rfl))
     (pa_cons (pe_cmpR op_eq (pe_ix ix_tup (pv 2) (pv 3) (fun _ _=>rfl)) pe_int (nomark _)) (pa_cons (pe_tup (pa_cons (pe_ix ix_tup (pv 2) (pv 3) (fun _ _=>rfl)) pa_nil)) pa_nil))))))))) (pg_name (i:=5) scStr.nd rfl (Or.inl rfl))
     (pss_one (ps_expr (pe_bm PySem.F.plainAttrs_list PySem.F.slot_list_append PySem.F.type_list_append mt_append (pv 4) (pa_cons (pe_op op_catV (pe_op op_catV (pe_slice sl_tupV (pv 2) po_none (po_some (pv 3))) (pe_tup (pa_cons (pv 5) pa_nil))) (pe_slice sl_tupV (pv 2) (po_some (pe_op op_add (pv 3) pe_int)) po_none)) pa_nil)))))
    (pss_one (ps_ret (pv 4))))),?_⟩
   have hol:os.length=n.toNat:=O.ln
   have npt:p≠t:=by
    obtain⟨_,_,_,_,a,_⟩:=id T
    exact ne_of hp a (by intro z;cases z)
   have six:∀m:Nat,m<=1000->m<=sizeLine:=fun m h=>by have:sizeLine=16777216:=rfl;omega
   refine⟨_,rfl,_,rfl,t,N,n,rfl,T,by omega,by omega,by omega,fun r H1 r0 r1 T1 e1=>?_⟩
   have hp1:H1 p=some (.tup (os.map V.int)):=by rw[e1 p npt];exact hp
   have m1:Sm t H H1:=fun b o nb e=>by rw[e1 b nb];exact e
   refine⟨_,rfl,p,_,rfl,.inr (SqT.of hp1),fun l1 hl1=>?_⟩
   have s2:=same_laid (o:=.lst (os.map V.int)) hl1
   have h21:(upd H1 l1 (.lst (os.map V.int))) l1=some (.lst (os.map V.int)):=upd_same
   generalize upd H1 l1 (.lst (os.map V.int))=H2 at s2 h21 ⊢
   refine⟨_,rfl,1,rfl,p,_,rfl,s2 _ _ hp1,fun p2 H3 s3 h32=>?_⟩
   refine⟨_,rfl,_,rfl,six 1 (by decide),fun p4 hp4=>?_⟩
   have s4:=same_laid (o:=.tup [.int r]) hp4
   have h44:(upd H3 p4 (.tup [.int r])) p4=some (.tup [.int r]):=upd_same
   generalize upd H3 p4 (.tup [.int r])=H4 at s4 h44 ⊢
   have s14:Same H1 H4:=s2.trans (s3.trans s4)
   refine⟨p,p4,_,_,rfl,rfl,s14 _ _ hp1,h44,six _ (by rw[List.length_map];show os.length+1<=_;omega),fun p5 H5 s5 h55=>?_⟩
   refine⟨six 0 (by decide),fun p6 hp6=>?_⟩
   have s6:=same_laid (o:=.tup []) hp6
   have h66:(upd H5 p6 (.tup [])) p6=some (.tup []):=upd_same
   generalize upd H5 p6 (.tup [])=H6 at s6 h66 ⊢
   refine⟨_,rfl,six 1 (by decide),fun p7 hp7=>?_⟩
   have s7:=same_laid (o:=.tup [.ref p]) hp7
   have h77:(upd H6 p7 (.tup [.ref p])) p7=some (.tup [.ref p]):=upd_same
   generalize upd H6 p7 (.tup [.ref p])=H7 at s7 h77 ⊢
   refine⟨six 8 (by decide),fun l hl=>?_⟩
   have s17:Same H1 H7:=s14.trans (s5.trans (s6.trans s7))
   have s8:=same_laid (o:=.lst [.ref l1,.ref p2,.ref p5,.non,.bl true,.str "order",.ref p6,.ref p7]) hl
   have h88:(upd H7 l (.lst [.ref l1,.ref p2,.ref p5,.non,.bl true,.str "order",.ref p6,.ref p7])) l=some (.lst [.ref l1,.ref p2,.ref p5,.non,.bl true,.str "order",.ref p6,.ref p7]):=upd_same
   have hl1H:H1 l=none:=by
    cases z:H1 l with
    | none=>rfl
    | some o=>rw[s17 _ _ z] at hl;cases hl
   generalize upd H7 l (.lst [.ref l1,.ref p2,.ref p5,.non,.bl true,.str "order",.ref p6,.ref p7])=H8 at s8 h88 ⊢
   have s18:Same H1 H8:=s17.trans s8
   have hp8:=s18 _ _ hp1
   obtain⟨o1,a1⟩:=at_some (os:=os) (i:=r-1) (by omega) (by omega) (by omega)
   obtain⟨o2,a2⟩:=at_some (os:=os) (i:=r) (by omega) (by omega) (by omega)
   refine⟨_,rfl,1,rfl,?_⟩
   refine⟨_,rfl,_,rfl,_,_,rfl,rfl,p,_,_,_,rfl,rfl,SqT.of hp8,a1,?_⟩
   refine⟨_,rfl,_,rfl,p,_,_,_,rfl,rfl,SqT.of hp8,a2,rfl,?_⟩
   refine⟨_,rfl,_,rfl,p,_,_,_,rfl,rfl,SqT.of hp8,a2,six 1 (by decide),fun p9 hp9=>?_⟩
   have s9:=same_laid (o:=.tup [.int o2]) hp9
   have h99:(upd H8 p9 (.tup [.int o2])) p9=some (.tup [.int o2]):=upd_same
   generalize upd H8 p9 (.tup [.int o2])=H9 at s9 h99 ⊢
   refine⟨six 7 (by decide),fun l2 hl2=>?_⟩
   have s2':=same_laid (o:=.lst [V.int n,V.int (-1),V.non,V.str "0",V.int o1,V.bl (decide (V.int o2=V.int 1)),V.ref p9]) hl2
   have hL2:(upd H9 l2 (.lst [V.int n,V.int (-1),V.non,V.str "0",V.int o1,V.bl (decide (V.int o2=V.int 1)),V.ref p9])) l2=some (.lst [V.int n,V.int (-1),V.non,V.str "0",V.int o1,V.bl (decide (V.int o2=V.int 1)),V.ref p9]):=upd_same
   show ∃a,V.ref l2=V.ref a/\(∃xs,SqL K (upd H9 l2 (.lst [V.int n,V.int (-1),V.non,V.str "0",V.int o1,V.bl (decide (V.int o2=V.int 1)),V.ref p9])) a xs)/\_
   have s8L:Same H8 (upd H9 l2 (.lst [V.int n,V.int (-1),V.non,V.str "0",V.int o1,V.bl (decide (V.int o2=V.int 1)),V.ref p9])):=s9.trans s2'
   have nl2:l2≠l:=fun z=>by rw[z,s9 _ _ h88] at hl2;cases hl2
   have thL:∀x∈[V.int n,V.int (-1),V.non,V.str "0",V.int o1,V.bl (decide (V.int o2=V.int 1)),V.ref p9],Th (upd H9 l2 (.lst [V.int n,V.int (-1),V.non,V.str "0",V.int o1,V.bl (decide (V.int o2=V.int 1)),V.ref p9])) x:=by
    have h9:Th (upd H9 l2 (.lst [V.int n,V.int (-1),V.non,V.str "0",V.int o1,V.bl (decide (V.int o2=V.int 1)),V.ref p9])) (.ref p9):=th_tup (s2' _ _ h99) (fun x hx=>by have e:x=V.int o2:=(by simpa using hx);rw[e];exact th_int _) (by show 1<64;decide)
    intro x hx
    simp only[List.mem_cons,List.not_mem_nil,or_false] at hx
    rcases hx with rfl | rfl | rfl | rfl | rfl | rfl | rfl
    . exact th_int _
    . exact th_int _
    . exact th_non
    . exact th_str _
    . exact th_int _
    . exact th_bl _
    . exact h9
   generalize upd H9 l2 (.lst [V.int n,V.int (-1),V.non,V.str "0",V.int o1,V.bl (decide (V.int o2=V.int 1)),V.ref p9])=HL at s2' hL2 s8L thL ⊢
   have hLl:[V.int n,V.int (-1),V.non,V.str "0",V.int o1,V.bl (decide (V.int o2=V.int 1)),V.ref p9].length<=7:=Nat.le_refl 7
   generalize [V.int n,V.int (-1),V.non,V.str "0",V.int o1,V.bl (decide (V.int o2=V.int 1)),V.ref p9]=L at hL2 thL hLl ⊢
   have allI:∀{Hx:Hp},∀x∈os.map V.int,Th Hx x:=fun {Hx} x hx=>by
    obtain⟨o,_,rfl⟩:=List.mem_map.mp hx
    exact th_int _
   have s27:Same H2 H7:=s3.trans (s4.trans (s5.trans (s6.trans s7)))
   have nl1:l1≠l:=fun z=>by
    have:=s27 _ _ h21
    rw[z,hl] at this
    cases this
   have th7:∀x∈[V.ref p2,.ref p5,.non,.bl true,.str "order",.ref p6,.ref p7],Th HL x:=by
    have hpL:=s8L _ _ hp8
    have hlen:(os.map V.int).length<64:=by rw[List.length_map];omega
    have e2:Th HL (.ref p2):=th_tup (s8L _ _ (s8 _ _ (s4.trans (s5.trans (s6.trans s7)) _ _ h32))) (fun x hx=>allI x (cut_mem hx)) (Nat.lt_of_le_of_lt (cutV_length _ _ _) hlen)
    have e5:Th HL (.ref p5):=th_tup (s8L _ _ (s8 _ _ (s6.trans s7 _ _ h55))) (fun x hx=>by
     rcases List.mem_append.mp hx with m | m
     . exact allI x m
     . have e:x=V.int r:=(by simpa using m)
       rw[e];exact th_int _) (by rw[List.length_append,List.length_map];show os.length+1<64;omega)
    have e6:Th HL (.ref p6):=th_tup (s8L _ _ (s8 _ _ (s7 _ _ h66))) (fun x hx=>by cases hx) (by decide)
    have ep:Th HL (.ref p):=th_tup hpL allI hlen
    have e7:Th HL (.ref p7):=th_tup (s8L _ _ (s8 _ _ h77)) (fun x hx=>by have e:x=V.ref p:=(by simpa using hx);rw[e];exact ep) (by show 1<64;decide)
    intro x hx
    simp only[List.mem_cons,List.not_mem_nil,or_false] at hx
    rcases hx with rfl | rfl | rfl | rfl | rfl | rfl | rfl
    . exact e2
    . exact e5
    . exact th_non
    . exact th_bl _
    . exact th_str _
    . exact e6
    . exact e7
   have hlL:HL l=some (.lst (.ref l1::[.ref p2,.ref p5,.non,.bl true,.str "order",.ref p6,.ref p7])):=s8L _ _ h88
   have h1L:HL l1=some (.lst (os.map V.int)):=s8L _ _ (s8 _ _ (s27 _ _ h21))
   refine⟨l2,rfl,⟨_,SqL.of hL2⟩,for_list (a:=l2) (xs:=L) (fun i σ H'=>∃(v5:Option V)(xs:List V),σ=[some (.ref t),some (.int n),some (.ref p),some (.int r),some (.ref l),v5]/\H' l=some (.lst (.ref l1::xs))/\(∀x∈xs,Th H' x)/\xs.length<=7+i/\Sm l HL H') ⟨none,_,rfl,hlL,th7,Nat.le_refl _,Sm.refl _ _⟩ (fun i σ H' hi z=>?_) (fun i x σ H' hx z=>?_) (fun σ H' z=>?_)⟩
   . obtain⟨_,_,_,_,_,_,sm⟩:=z
     exact SqL.of (sm _ _ nl2 hL2)
   . obtain⟨v5,xs,rfl,hl',th,hxl,sm⟩:=z
     have npl:p≠l:=fun z=>by
      have:=s8L _ _ hp8
      rw[z,hlL] at this
      cases this
     have hp':H' p=some (.tup (os.map V.int)):=sm _ _ npl (s8L _ _ hp8)
     have kT:∀b ys,HL b=some (.tup ys)->H' b=some (.tup ys):=fun b ys e=>sm _ _ (fun z=>by rw[z,hlL] at e;cases e) e
     have thx:Th H' x:=(thL x (List.mem_of_getElem? hx)).keep kT
     have hil:i<L.length:=(List.getElem?_eq_some_iff.mp hx).1
     refine⟨_,rfl,.inl ⟨rfl,_,SqL.of hl'⟩,?_⟩
     refine⟨_,rfl,_,rfl,r,rfl,p,_,rfl,hp',fun q1 Ha sa hq1=>?_⟩
     refine⟨_,rfl,six 1 (by decide),fun q2 hq2=>?_⟩
     have sb:=same_laid (o:=.tup [x]) hq2
     have hb2:(upd Ha q2 (.tup [x])) q2=some (.tup [x]):=upd_same
     generalize upd Ha q2 (.tup [x])=Hb at sb hb2 ⊢
     have lcut:∀lo hi,(cutV (os.map V.int) lo hi).length<=24:=fun lo hi=>by
      have:=cutV_length (os.map V.int) lo hi
      rw[List.length_map] at this
      omega
     refine⟨q1,q2,_,_,rfl,rfl,sb _ _ hq1,hb2,six _ (by have:=lcut none (some r);show _+1<=_;omega),fun q3 Hc sc hq3=>?_⟩
     refine⟨_,rfl,_,rfl,_,_,rfl,rfl,_,rfl,p,_,rfl,(sa.trans (sb.trans sc)) _ _ hp',fun q4 Hd sd hq4=>?_⟩
     refine⟨q3,q4,_,_,rfl,rfl,sd _ _ hq3,hq4,six _ (by rw[List.length_append];have:=lcut none (some r);have:=lcut (some (r+1)) none;show _+1+_<=_;omega),fun q5 He se hq5=>?_⟩
     have s5e:Same H' He:=sa.trans (sb.trans (sc.trans (sd.trans se)))
     have hle:=s5e _ _ hl'
     refine⟨l,_,.ref q5,rfl,rfl,hle,?_,?_⟩
     . rw[List.length_cons]
       have:sizeLine=16777216:=rfl
       omega
     . have kT2:∀b ys,He b=some (.tup ys)->(upd He l (.lst (.ref l1::xs++[.ref q5]))) b=some (.tup ys):=fun b ys e=>by
        have hb:b≠l:=fun z=>by rw[z,hle] at e;cases e
        rw[upd_ne hb]
        exact e
       have th5:Th He (.ref q5):=th_tup hq5 (fun y hy=>by
        rcases List.mem_append.mp hy with m | m
        . rcases List.mem_append.mp m with m | m
          . exact allI y (cut_mem m)
          . have e:y=x:=(by simpa using m)
            rw[e]
            exact thx.same s5e
        . exact allI y (cut_mem m)) (by rw[List.length_append,List.length_append];have:=lcut none (some r);have:=lcut (some (r+1)) none;show _+1+_<64;omega)
       refine⟨_,xs++[.ref q5],rfl,by rw[upd_same];rfl,fun y hy=>?_,by rw[List.length_append];show xs.length+1<=7+(i+1);omega,fun b o nb e=>?_⟩
       . rcases List.mem_append.mp hy with m | m
         . exact ((th y m).same s5e).keep kT2
         . have e:y = .ref q5:=(by simpa using m)
           rw[e]
           exact th5.keep kT2
       . rw[upd_ne nb]
         exact s5e _ _ (sm _ _ nb e)
   . obtain⟨v5,xs,rfl,hl',th,hxl,sm⟩:=z
     have ntl:t≠l:=fun z=>by
      obtain⟨_,_,_,_,a,_⟩:=id T1
      rw[z,hl1H] at a
      cases a
     obtain⟨tp,TP⟩:=id T1
     have ntpl:tp≠l:=fun z=>by
      obtain⟨_,_,_,_,b,_⟩:=id TP
      rw[z,hl1H] at b
      cases b
     have s1L:Same H1 HL:=s18.trans s8L
     exact⟨_,rfl,k l l1 xs H' (m1.trans fun b o nb e=>sm _ _ (fun z=>by rw[z,hl1H] at e;cases e) (s1L _ _ e)) ⟨tp,TP.keepF (fun o e=>sm _ _ ntl (s1L _ _ e)) (fun o e=>sm _ _ ntpl (s1L _ _ e)) (Nat.le_refl _)⟩ hl' (sm _ _ nl1 h1L) th (by omega)⟩
end
def oD:Option Int->PyData
 | none=>.none
 | some i=>.int i
def entD (e:En):PyData:=.tuple [.int e.h,.int e.l,oD e.u,oD e.d]
def labD (es:List En):PyData:=.tuple (es.map entD)
def labsD (ess:List (List En)):PyData:=.tuple (ess.map labD)
theorem sh_oV (H:Hp)(o:Option Int):Shows H (oV o) (oD o):=by
 cases o with
 | none=>exact .non
 | some d=>exact .int d
theorem sh_ens {H:Hp}:∀{as:List Addr}{es:List En},EnsAt H as es->ShowsAll H (as.map V.ref) (es.map entD)
 | [],[],_=>.nil
 | [],_::_,h=>by have:=h.1;simp at this
 | _::_,[],h=>by have:=h.1;simp at this
 | a::as,e::es,h=>by
  obtain⟨e',h1,h2⟩:=h.2 0 a rfl
  have:e=e':=by simpa using h1
  subst this
  refine .cons (.tup h2 (.cons (.int _) (.cons (.int _) (.cons (sh_oV H _) (.cons (sh_oV H _) .nil))))) (sh_ens ⟨by have:=h.1;simpa using this,fun i b hb=>?_⟩)
  obtain⟨e2,h3,h4⟩:=h.2 (i+1) b (by simpa using hb)
  exact⟨e2,by simpa using h3,h4⟩
theorem sh_labs' {H:Hp}:∀{as:List Addr}{ess:List (List En)},as.length=ess.length->(∀(i:Nat)(a:Addr),as[i]? = some a->∃es,ess[i]? = some es/\LabAt H a es)->ShowsAll H (as.map V.ref) (ess.map labD)
 | [],[],_,_=>.nil
 | [],_::_,h,_=>by simp at h
 | _::_,[],h,_=>by simp at h
 | a::as,es::ess,h,k=>by
  obtain⟨es',h1,as',h2,h3,_⟩:=k 0 a rfl
  have:es=es':=by simpa using h1
  subst this
  refine .cons (.tup h2 (sh_ens h3)) (sh_labs' (by simpa using h) fun i b hb=>?_)
  obtain⟨e2,h4,h5⟩:=k (i+1) b (by simpa using hb)
  exact⟨e2,by simpa using h4,h5⟩
theorem sh_labs {H:Hp}{l:Addr}{ess:List (List En)}(h:LabsAt H l ess):Shows H (.ref l) (labsD ess):=by
 obtain⟨as,h1,h2,h3⟩:=h
 exact .tup h1 (sh_labs' h2 h3)
theorem fn_oD {o:Option Int}(h:∀d,o=some d->d.natAbs<1000000000):Fn 30 0 (oD o):=by
 cases o with
 | none=>exact fn_none.mono (by decide) (by decide)
 | some d=>exact fn_int (h d rfl)
theorem nxt_rng {n:Int}{ts:List T3}(G:GW n ts){x y p:Int}(h:Nxt ts x y p):0<=p/\p<n:=by
 obtain⟨l,b,a,_⟩:=h
 rcases a with a | a
 . have:=G.rng _ a
   simp only at this
   omega
 . have:=G.rng _ a
   simp only at this
   omega
theorem min_rng {n:Int}{ts:List T3}(G:GW n ts){x y:Int}{o:Option Int}(h:MinO (Nxt ts x y) o):∀d,o=some d->d.natAbs<1000000000:=by
 intro d e
 subst e
 have:=nxt_rng G h.1
 have:=G.n24
 omega
theorem fn_labs {n:Int}{ts:List T3}{rk:Int->Int}{ess:List (List En)}(G:GW n ts)(L:LabsOf ts n rk ess)(bd:∀es∈ess,∀e∈es,0<=e.l/\e.l<=2376):Fn 1048576 50 (labsD ess):=by
 have hn:=G.n24
 have hl:=L.1
 refine (fn_tup (n:=3000) (p:=2) (L:=24) (fun d hd=>?_) (by rw[List.length_map];omega)).mono (by decide) (by decide)
 obtain⟨es,hes,rfl⟩:=List.mem_map.mp hd
 obtain⟨i,hi,ei⟩:=List.getElem_of_mem hes
 have LO:=L.2 i es (by rw[List.getElem?_eq_getElem hi,ei])
 refine (fn_tup (n:=124) (p:=1) (L:=24) (fun d hd=>?_) (by rw[List.length_map];exact LO.len)).mono (by decide) (by decide)
 obtain⟨e,he,rfl⟩:=List.mem_map.mp hd
 have E:=LO.ent e he
 have hr:=E.rng
 have hb:=bd es hes e he
 refine (fn_tup (n:=30) (p:=0) (L:=4) (ds:=[.int e.h,.int e.l,oD e.u,oD e.d]) (fun d hd=>?_) (Nat.le_refl 4)).mono (by decide) (by decide)
 simp only[List.mem_cons,List.not_mem_nil,or_false] at hd
 rcases hd with rfl | rfl | rfl | rfl
 . exact fn_int (by omega)
 . exact fn_int (by omega)
 . exact fn_oD (min_rng G E.up)
 . exact fn_oD (min_rng G E.dn)
def tieT (t:T3):PyData:=.tuple ((tl t).map PyData.int)
def webPy (n:Int)(ts:List T3):PyData:=.tuple [.int n,.tuple (ts.map tieT)]
theorem sh_ints {H:Hp}:∀l:List Int,ShowsAll H (l.map V.int) (l.map PyData.int)
 | []=>.nil
 | _::r=>.cons (.int _) (sh_ints r)
theorem sh_ties {H:Hp}:∀{xs:List V}{ts:List T3},TupsAre H xs (ts.map tl)->ShowsAll H xs (ts.map tieT)
 | [],[],_=>.nil
 | [],_::_,h=>h.elim
 | _::_,[],h=>h.elim
 | x::xs,t::ts,h=>by
  obtain⟨⟨a,rfl,ha,_⟩,hr⟩:=h
  exact .cons (.tup ha (sh_ints _)) (sh_ties hr)
theorem sh_web {H:Hp}{wa:Addr}{n:Int}{ts:List T3}(W:WebAt H wa n ts):Shows H (.ref wa) (webPy n ts):=by
 obtain⟨ta,tys,h1,h2,h3,_⟩:=W
 exact .tup h1 (.cons (.int _) (.cons (.tup h2 (sh_ties h3)) .nil))
theorem web_fn {n:Int}{ts:List T3}(g:GW n ts):Fn 12034 3 (webPy n ts):=by
 have h1:=g.n1
 have h2:=g.n24
 have hl:=g.len
 have ht:Fn 6016 2 (.tuple (ts.map tieT)):=by
  refine (fn_tup (n:=93) (p:=1) (L:=64) (fun d hd=>?_) (by rw[List.length_map];omega)).mono (by decide) (by decide)
  obtain⟨t,ht,rfl⟩:=List.mem_map.mp hd
  obtain⟨r1,r2,r3,r4,r5⟩:=g.rng t ht
  refine (fn_tup (n:=30) (p:=0) (L:=3) (fun d hd=>?_) (by rw[List.length_map];exact Nat.le_refl 3)).mono (by decide) (by decide)
  obtain⟨i,hi,rfl⟩:=List.mem_map.mp hd
  have hi':i=t.1\/i=t.2.1\/i=t.2.2:=by simpa [tl] using hi
  exact fn_int (by omega)
 refine (fn_tup (n:=6016) (p:=2) (L:=2) (ds:=[.int n,.tuple (ts.map tieT)]) (fun d hd=>?_) (Nat.le_refl 2)).mono (by decide) (by decide)
 rcases List.mem_cons.mp hd with rfl | hd
 . exact (fn_int (by omega)).mono (by decide) (by decide)
 . rcases List.mem_cons.mp hd with rfl | hd
   . exact ht
   . cases hd
theorem pair_fn {n:Int}{ts:List T3}{os:List Int}(g:GW n ts)(O:Ordr n os):Fn 1048576 50 (.tuple [webPy n ts,.tuple (os.map PyData.int)]):=by
 have h2:=g.n24
 have hl:=O.ln
 refine (fn_tup (n:=12034) (p:=3) (L:=2) (ds:=[webPy n ts,.tuple (os.map PyData.int)]) (fun d hd=>?_) (Nat.le_refl 2)).mono (by decide) (by decide)
 simp only[List.mem_cons,List.not_mem_nil,or_false] at hd
 rcases hd with rfl | rfl
 . exact web_fn g
 . refine (fn_tup (n:=30) (p:=0) (L:=24) (fun d hd=>?_) (by rw[List.length_map];omega)).mono (by decide) (by decide)
   obtain⟨i,hi,rfl⟩:=List.mem_map.mp hd
   have:=O.rng i hi
   exact fn_int (by omega)
theorem shows_keepT {H H':Hp}(k:SmT H H'){v:V}{d:PyData}(s:Shows H v d):Shows H' v d:=
 Shows.rec (motive_1:=fun v d _=>Shows H' v d) (motive_2:=fun xs ds _=>ShowsAll H' xs ds) .non (fun b=>.bl b) (fun i=>.int i) (fun x=>.str x) (fun e _ ih=>.tup (k.get e (by intro ps z;cases z)) ih) (fun e _ ih=>.lst (k.get e (by intro ps z;cases z)) ih) .nil (fun _ _ i1 i2=>.cons i1 i2) s
def spLaw (K:PySem.W.Frag)(PT:Addr):Sp:=fun vs H Q _=>∃(a:Addr)(ns:List Int),vs=[.ref a]/\SqL K H a (ns.map V.int)/\ns.length<=63/\H PT=some (.tbl #[])/\∀(H':Hp),Q (.bl true) H'
theorem TapeAt.smT {H H':Hp}{t:Addr}{N:Nat}(h:TapeAt H t N)(k:SmT H H'):TapeAt H' t N:=by
 obtain⟨p,ns,spot,rest,a,b,c⟩:=h
 exact⟨p,ns,spot,rest,k.get a (by intro ps z;cases z),k.get b (by intro ps z;cases z),c⟩
theorem Tb_sm {H H':Hp}{t PT:Addr}{N:Nat}(T:Tb H PT)(tp:TapeAt H t N)(k:∀b o,b≠t->H b=some o->H' b=some o):Tb H' PT:=by
 obtain⟨p,ns,spot,rest,a,_⟩:=tp
 obtain⟨ps,hps,_⟩:=id T
 exact T.keep (fun o ho=>k _ _ (ne_of hps a (by intro z;cases z)) ho) fun c φ hc=>k _ _ (ne_of hc a (by intro z;cases z)) hc
theorem pe_as8 {X:Cx}{e:Expr}{te te':TE}(h:PE X e te)(m:∀ σ H Q,te' σ H Q->te σ H Q):PE X e te':=fun pins s σ H Q I q=>h pins s σ H Q I (m σ H Q q)
theorem TapeAt.neT {H:Hp}{t b:Addr}{N:Nat}{ys:List V}(h:TapeAt H t N)(hb:H b=some (.tup ys)):b≠t:=by
 obtain⟨p,ns,spot,rest,a,_⟩:=h
 exact ne_of hb a (by intro z;cases z)
def Ob (H:Hp)(v:V):Prop:=∃d,Shows H v d/\Small d
theorem Ob.sm {H H':Hp}{v:V}(h:Ob H v)(k:SmT H H'):Ob H' v:=let ⟨d,s,m⟩:=h;⟨d,shows_keepT k s,m⟩
theorem Th.ob {H:Hp}{v:V}(h:Th H v):Ob H v:=let ⟨d,s,_,m⟩:=h;⟨d,s,m⟩
section
variable {P:Program}{w:World}{K:PySem.W.Frag}{mg:Str->Option Value}{base:Heap}{PT:Addr}
theorem scLaw:FnScope ["_law_script", "_law_tape_here", "_law_k", "_law_web_here", "_law_order_here", "_law_kept", "_law_thing", "_law_good"] ["_law_script"] (defScope sLaw):=⟨rfl,rfl,rfl,by decide +kernel,rfl,by decide +kernel,by decide +kernel⟩
theorem ok_law {f fTa fD fN fW fT fNe fF fLe fBw fNb fNu fWi fTo fPl fIo fBy fLb fIh fEb fA fLs fFr fOn fJ fNs fOr fRw fEn fLa fWo fSr fIs c cW cO c1 c2 c3 c4 c5 c6 c7 c8 c9 c10 c11:Addr}{fd' fdTa fdD fdN fdW fdT fdNe fdF fdLe fdBw fdNb fdNu fdWi fdTo fdPl fdIo fdBy fdLb fdIh fdEb fdA fdLs fdFr fdOn fdJ fdNs fdOr fdRw fdEn fdLa fdWo fdSr fdIs:FuncData}(F:Fun K "law" "law" sLaw f fd') (C:PySem.W.CodeHd base c PT)(hbm:BmAt mg base)(ER:Errs K mg cW cO [c1,c2,c3,c4,c5,c6] [c7,c8,c9,c10,c11])
 (FTa:Fun K "_law_tape" "_law_tape" sTape fTa fdTa) (bTa:Binds K fdTa ["_law_script"] []) (mTa:mg "_law_tape" = some (.ref fTa))
 (FD:Fun K "_law_draw" "_law_draw" sDraw fD fdD) (bD:Binds K fdD ["_law_tape_here", "_law_many"] []) (mD:mg "_law_draw" = some (.ref fD))
 (FN:Fun K "_law_n" "_law_n" sN fN fdN) (bN:Binds K fdN ["_law_tape_here"] []) (mN:mg "_law_n" = some (.ref fN))
 (FW:Fun K "_law_web" "_law_web" sWeb fW fdW) (bW:Binds K fdW ["_law_tape_here", "_law_n_here"] []) (mW:mg "_law_web" = some (.ref fW))
 (FT:Fun K "ties_at" "ties_at" sTies fT fdT) (bT:Binds K fdT ["web", "place"] []) (mT:mg "ties_at" = some (.ref fT))
 (FNe:FunC K "nearest" "nearest" sNear fNe fdNe c) (bNe:Binds K fdNe ["waiting"] []) (mNe:mg "nearest" = some (.ref fNe))
 (FF:Fun K "lengths_from" "lengths_from" sFrom fF fdF) (bF:Binds K fdF ["web", "start"] []) (mF:mg "lengths_from" = some (.ref fF))
 (FLe:Fun K "lengths" "lengths" sLens fLe fdLe) (bLe:Binds K fdLe ["web"] []) (mLe:mg "lengths" = some (.ref fLe))
 (FBw:Fun K "between_rows" "between_rows" sBwr fBw fdBw) (bBw:Binds K fdBw ["here", "there", "other"] []) (mBw:mg "between_rows" = some (.ref fBw))
 (FNb:Fun K "next_by_row" "next_by_row" sNbr fNb fdNb) (bNb:Binds K fdNb ["web", "one", "there"] []) (mNb:mg "next_by_row" = some (.ref fNb))
 (FNu:Fun K "is_number" "is_number" sNum fNu fdNu) (bNu:Binds K fdNu ["thing"] []) (mNu:mg "is_number" = some (.ref fNu))
 (FWi:Fun K "is_within" "is_within" sWi fWi fdWi) (bWi:Binds K fdWi ["thing", "least", "most"] []) (mWi:mg "is_within" = some (.ref fWi))
 (FTo:Fun K "is_tuple_of" "is_tuple_of" sTof fTo fdTo) (bTo:Binds K fdTo ["thing", "count"] []) (mTo:mg "is_tuple_of" = some (.ref fTo))
 (FPl:Fun K "is_place" "is_place" sPl fPl fdPl) (bPl:Binds K fdPl ["n", "thing"] []) (mPl:mg "is_place" = some (.ref fPl))
 (FIo:Fun K "is_order" "is_order" sOrd fIo fdIo) (bIo:Binds K fdIo ["web", "thing"] []) (mIo:mg "is_order" = some (.ref fIo))
 (FBy:Fun K "by_order" "by_order" sByo fBy fdBy) (bBy:Binds K fdBy ["web", "order"] []) (mBy:mg "by_order" = some (.ref fBy))
 (FLb:Fun K "label_by_ranks" "label_by_ranks" sLbr fLb fdLb) (bLb:Binds K fdLb ["web", "rows", "ranks", "place"] []) (mLb:mg "label_by_ranks" = some (.ref fLb))
 (FIh:Fun K "is_hub" "is_hub" sIsh fIh fdIh) (bIh:Binds K fdIh ["rows", "ranks", "hub", "place"] []) (mIh:mg "is_hub" = some (.ref fIh))
 (FEb:Fun K "entry_by_rows" "entry_by_rows" sEbr fEb fdEb) (bEb:Binds K fdEb ["web", "rows", "place", "hub"] []) (mEb:mg "entry_by_rows" = some (.ref fEb))
 (FA:Fun K "_law_added" "_law_added" sAdd fA fdA) (bA:Binds K fdA ["_law_one", "_law_other"] []) (mA:mg "_law_added" = some (.ref fA))
 (FLs:Fun K "_law_lesser" "_law_lesser" sLes fLs fdLs) (bLs:Binds K fdLs ["_law_one", "_law_other"] []) (mLs:mg "_law_lesser" = some (.ref fLs))
 (FFr:Fun K "_law_far" "_law_far" sFar fFr fdFr) (bFr:Binds K fdFr ["_law_web_here"] []) (mFr:mg "_law_far" = some (.ref fFr))
 (FOn:Fun K "_law_on" "_law_on" sOn fOn fdOn) (bOn:Binds K fdOn ["_law_far_here", "_law_place", "_law_one", "_law_other"] []) (mOn:mg "_law_on" = some (.ref fOn))
 (FJ:Fun K "_law_joined" "_law_joined" sJoi fJ fdJ) (bJ:Binds K fdJ ["_law_web_here"] []) (mJ:mg "_law_joined" = some (.ref fJ))
 (FNs:Fun K "_law_nexts" "_law_nexts" sNxs fNs fdNs) (bNs:Binds K fdNs ["_law_web_here", "_law_far_here", "_law_one", "_law_other"] []) (mNs:mg "_law_nexts" = some (.ref fNs))
 (FOr:Fun K "_law_order" "_law_order" sOrder fOr fdOr) (bOr:Binds K fdOr ["_law_tape_here", "_law_n_here"] []) (mOr:mg "_law_order" = some (.ref fOr))
 (FRw:Fun K "_law_row_web" "_law_row_web" sRow fRw fdRw) (bRw:Binds K fdRw ["_law_tape_here"] []) (mRw:mg "_law_row_web" = some (.ref fRw))
 (FEn:Fun K "_law_entry" "_law_entry" sEnt8 fEn fdEn) (bEn:Binds K fdEn ["_law_web_here", "_law_far_here", "_law_place", "_law_hub"] []) (mEn:mg "_law_entry" = some (.ref fEn))
 (FLa:Fun K "_law_labels" "_law_labels" sLabs8 fLa fdLa) (bLa:Binds K fdLa ["_law_web_here", "_law_order_here"] []) (mLa:mg "_law_labels" = some (.ref fLa))
 (FWo:Fun K "_law_word" "_law_word" sWord fWo fdWo) (bWo:Binds K fdWo ["_law_web_here", "_law_thing"] []) (mWo:mg "_law_word" = some (.ref fWo))
 (FSr:Fun K "_law_strange" "_law_strange" sStr fSr fdSr) (bSr:Binds K fdSr ["_law_tape_here", "_law_n_here", "_law_order_here"] []) (mSr:mg "_law_strange" = some (.ref fSr))
 (FIs:Fun K "_law_is_order" "_law_is_order" sIso fIs fdIs) (bIs:Binds K fdIs ["_law_n_here", "_law_thing"] []) (mIs:mg "_law_is_order" = some (.ref fIs))
 (mLen:mg "len" = none) (mRange:mg "range" = none) (mTuple:mg "tuple" = none) (mSorted:mg "sorted" = none) (mMin:mg "min" = none) (mList:mg "list" = none) (mIsi:mg "isinstance" = none) (mInt:mg "int" = none) (mBool:mg "bool" = none) (mAll:mg "all" = none) (mSet:mg "set" = none) (mRepr:mg "repr" = none) (mVal:mg "ValueError" = none):FnOk P w K mg base CX0 8 f fd' ["_law_script"] (spLaw K PT):=by
 have GTa:FnOk P w K mg base CX0 7 fTa fdTa ["_law_script"] (spTape K):=(ok_tape FTa).mono (by decide)
 have GD:FnOk P w K mg base CX0 7 fD fdD ["_law_tape_here", "_law_many"] spDraw:=(ok_draw FD mLen).mono (by decide)
 have GN:FnOk P w K mg base CX0 7 fN fdN ["_law_tape_here"] spN:=(ok_n FN FD bD mD mLen).mono (by decide)
 have GW':FnOk P w K mg base CX0 7 fW fdW ["_law_tape_here", "_law_n_here"] spWeb:=(ok_web FW FD bD mD mLen mRange mTuple mSorted).mono (by decide)
 have GRw:FnOk P w K mg base CX0 7 fRw fdRw ["_law_tape_here"] spRow:=(ok_row FRw FD bD mD mLen mRange mTuple mSorted mList).mono (by decide)
 have GOr:FnOk P w K mg base CX0 7 fOr fdOr ["_law_tape_here", "_law_n_here"] spOrder:=(ok_order FOr FD bD mD mLen mRange mTuple mList).mono (by decide)
 have GF:FnOk P w K mg base CX0 3 fF fdF ["web", "start"] (spFrom PT):=ok_from FF FNe bNe mNe FT bT mT C hbm mMin mSorted mTuple
 have GLe:FnOk P w K mg base CX0 5 fLe fdLe ["web"] (spLens PT):=(ok_lens FLe FF bF mF GF mRange mTuple).mono (by decide)
 have GTo:FnOk P w K mg base CX0 3 fTo fdTo ["thing", "count"] spTof:=(ok_tof FTo mIsi mTuple mLen).mono (by decide)
 have GPl:FnOk P w K mg base CX0 3 fPl fdPl ["n", "thing"] spPl:=ok_pl FPl FWi bWi mWi FNu bNu mNu mIsi mInt mBool
 have GOG:FnOk P w K mg base CX0 4 fIo fdIo ["web", "thing"] spOrdG:=ok_ordG FIo FTo bTo mTo GTo FPl bPl mPl GPl mLen mAll mSet
 have GOG5:FnOk P w K mg base CX0 5 fIo fdIo ["web", "thing"] spOrdG:=GOG.mono (by decide)
 have GIo:FnOk P w K mg base CX0 7 fIo fdIo ["web", "thing"] spOrdG:=GOG.mono (by decide)
 have GIh:FnOk P w K mg base CX0 4 fIh fdIh ["rows", "ranks", "hub", "place"] spIsh:=(ok_ish FIh FBw bBw mBw mRange mTuple mLen mAll).mono (by decide)
 have GEb:FnOk P w K mg base CX0 4 fEb fdEb ["web", "rows", "place", "hub"] spEbr:=ok_ebr FEb FNb bNb mNb FT bT mT mSorted mTuple mMin
 have GLb:FnOk P w K mg base CX0 5 fLb fdLb ["web", "rows", "ranks", "place"] spLbr:=ok_lbr FLb FIh bIh mIh GIh FEb bEb mEb GEb mRange mTuple
 have GB6:FnOk P w K mg base CX0 6 fBy fdBy ["web", "order"] (spByo PT):=ok_byo FBy FIo bIo mIo (ok_ord_of GOG5) FLe bLe mLe GLe FLb bLb mLb GLb mRange mTuple
 have GBy:FnOk P w K mg base CX0 7 fBy fdBy ["web", "order"] (spByo PT):=GB6.mono (by decide)
 have GBR:FnOk P w K mg base (CXO P w) 6 fBy fdBy ["web", "order"] (spByoR cO):=ok_byoR FBy FIo bIo mIo GOG5 ER.mO ER.qO
 have GWo:FnOk P w K mg base CX0 7 fWo fdWo ["_law_web_here", "_law_thing"] (spWord PT):=ok_word FWo FBy bBy mBy GB6 GBR ER mIsi mVal
 have GFr:FnOk P w K mg base CX0 3 fFr fdFr ["_law_web_here"] spFar:=(ok_far FFr FA bA mA FLs bLs mLs mRange mMin).mono (by decide)
 have GOn:FnOk P w K mg base CX0 3 fOn fdOn ["_law_far_here", "_law_place", "_law_one", "_law_other"] spOn:=(ok_on FOn FA bA mA).mono (by decide)
 have GNs:FnOk P w K mg base CX0 2 fNs fdNs ["_law_web_here", "_law_far_here", "_law_one", "_law_other"] spNxs:=ok_nxs FNs FJ bJ mJ mRange
 have GEn:FnOk P w K mg base CX0 3 fEn fdEn ["_law_web_here", "_law_far_here", "_law_place", "_law_hub"] spEnt8:=ok_ent8 FEn FNs bNs mNs GNs
 have GLa:FnOk P w K mg base CX0 7 fLa fdLa ["_law_web_here", "_law_order_here"] spLabs8:=(ok_labs8 FLa FFr bFr mFr GFr FOn bOn mOn GOn FEn bEn mEn GEn mRange mTuple).mono (by decide)
 have GSr:FnOk P w K mg base CX0 7 fSr fdSr ["_law_tape_here", "_law_n_here", "_law_order_here"] spStr:=(ok_str FSr FD bD mD mLen mList).mono (by decide)
 have GIs:FnOk P w K mg base CX0 7 fIs fdIs ["_law_n_here", "_law_thing"] spIso:=(ok_iso FIs mIsi mInt mBool mTuple mSorted mList mRange).mono (by decide)
 refine F.ok scLaw (fun vs H Q E h=>?_) (fun cdv A outer s H vs Q E hr h=>?_)
 . obtain⟨a,ns,rfl,_⟩:=h
   rfl
 . obtain⟨a,ns,rfl,hS,hlen,hP,k⟩:=h
   refine⟨_,pss_cons (ps_set (i:=1) scLaw.nd rfl (Or.inl rfl) (pe_call GTa hr rfl mTa FTa.kp bTa .nil pass0 (pa_cons (pv 0) pa_nil)))
    (pss_cons (ps_for PassesOwn.never rfl (pi_range1 rfl mRange (pa_cons pe_int pa_nil)) (pg_name (i:=2) scLaw.nd rfl (Or.inl rfl))
     (pss_cons (ps_set (i:=3) scLaw.nd rfl (Or.inl rfl) (pe_call GW' hr rfl mW FW.kp bW .nil pass0 (pa_cons (pv 1) (pa_cons (pe_call GN hr rfl mN FN.kp bN .nil pass0 (pa_cons (pv 1) pa_nil)) pa_nil))))
     (pss_cons (ps_if (PW.pt (pw_and (pt_cmpR op_eq (pv 2) pe_int (nomark _)) (pw_and1 (pt_cmpR op_eq (pe_call GD hr rfl mD FD.kp bD .nil pass0 (pa_cons (pv 1) (pa_cons pe_int pa_nil))) pe_int (nomark _)))))
      (pss_one (ps_set (i:=3) scLaw.nd rfl (Or.inl rfl) (pe_call GRw hr rfl mRw FRw.kp bRw .nil pass0 (pa_cons (pv 1) pa_nil)))) pss_nil)
     (pss_cons (ps_set (i:=4) scLaw.nd rfl (Or.inl rfl) (pe_call GOr hr rfl mOr FOr.kp bOr .nil pass0 (pa_cons (pv 1) (pa_cons (pe_ix ix_tup (pv 3) pe_int (fun _ _=>rfl)) pa_nil))))
     (pss_cons (ps_set (i:=5) scLaw.nd rfl (Or.inl rfl) (pe_callB (call_repr hr) (by rfl) mRepr (by decide +kernel) (pa_cons (pe_tup (pa_cons (pv 3) (pa_cons (pv 4) pa_nil))) pa_nil)))
     (pss_cons (ps_if (PW.pt (pw_or (pt_cmpR op_ne (pe_callB (call_repr hr) (by rfl) mRepr (by decide +kernel) (pa_cons (pe_call GBy hr rfl mBy FBy.kp bBy .nil pass0 (pa_cons (pv 3) (pa_cons (pv 4) pa_nil))) pa_nil)) (pe_callB (call_repr hr) (by rfl) mRepr (by decide +kernel) (pa_cons (pe_call GLa hr rfl mLa FLa.kp bLa .nil pass0 (pa_cons (pv 3) (pa_cons (pv 4) pa_nil))) pa_nil)) (nomark _))
      (pw_or1 (pt_cmpR op_ne (pe_callB (call_repr hr) (by rfl) mRepr (by decide +kernel) (pa_cons (pe_tup (pa_cons (pv 3) (pa_cons (pv 4) pa_nil))) pa_nil)) (pv 5) (nomark _))))) (pss_one (ps_ret pe_bl)) pss_nil)
     (pss_one (ps_for PassesOwn.never rfl (pi_list (pe_op op_cat (pe_lst (pa_cons (pv 4) (pa_cons (pe_rev (ops:=fun a d=>[a,d]) (pv 4) (pe_as8 (pe_un un_neg pe_int) (fun σ H Q q=>⟨1,rfl,q⟩)) (fun _ _=>by with_unfolding_all rfl)) pa_nil))) (pe_call GSr hr rfl mSr FSr.kp bSr .nil pass0 (pa_cons (pv 1) (pa_cons (pe_ix ix_tup (pv 3) pe_int (fun _ _=>rfl)) (pa_cons (pv 4) pa_nil)))))) (pg_name (i:=6) scLaw.nd rfl (Or.inl rfl))
      (pss_cons (ps_set (i:=7) scLaw.nd rfl (Or.inl rfl) (pe_call GIs hr rfl mIs FIs.kp bIs .nil pass0 (pa_cons (pe_ix ix_tup (pv 3) pe_int (fun _ _=>rfl)) (pa_cons (pv 6) pa_nil))))
      (pss_cons (ps_if (pt_cmpR op_ne (pe_callB (call_repr hr) (by rfl) mRepr (by decide +kernel) (pa_cons (pe_call GIo hr rfl mIo FIo.kp bIo .nil pass0 (pa_cons (pv 3) (pa_cons (pv 6) pa_nil))) pa_nil)) (pe_callB (call_repr hr) (by rfl) mRepr (by decide +kernel) (pa_cons (pv 7) pa_nil)) (nomark _)) (pss_one (ps_ret pe_bl)) pss_nil)
      (pss_one (ps_if (pt_cmpR op_ne (pe_call GWo hr rfl mWo FWo.kp bWo .nil pass0 (pa_cons (pv 3) (pa_cons (pv 6) pa_nil))) (pe_ix ix_list (pe_lst (pa_cons pe_str (pa_cons pe_str pa_nil))) (pe_callTy call_int1 (by rfl) mInt (by decide +kernel) (pa_cons (pv 7) pa_nil)) (fun _ _=>rfl)) (nomark _)) (pss_one (ps_ret pe_bl)) pss_nil))))))))))))
    (pss_one (ps_ret pe_bl))),?_⟩
   refine⟨_,rfl,a,ns,rfl,hS,hlen,fun t H1 ht T1 s1=>?_⟩
   have B1:Tb H1 PT:=⟨#[],s1 _ _ hP,trivial,.inl rfl⟩
   refine⟨4,rfl,by decide,by decide,for_range (lo:=0) (n:=4) (fun i σ H2=>∃(v2 v3 v4 v5 v6 v7:Option V),σ=[some (.ref a),some (.ref t),v2,v3,v4,v5,v6,v7]/\TapeAt H2 t (2000*i)/\Tb H2 PT) ⟨none,none,none,none,none,none,rfl,T1,B1⟩ ?turn ?after⟩
   case after=>
    rintro σ H2 ⟨v2,v3,v4,v5,v6,v7,rfl,T2,B2⟩
    exact k _
   case turn=>
    rintro i σ H2 hi ⟨v2,v3,v4,v5,v6,v7,rfl,T2,B2⟩
    refine⟨_,rfl,_,rfl,t,2000*i,rfl,T2,by omega,fun n H3 hn1 hn12 T30 s3=>?_⟩
    have B3:Tb H3 PT:=Tb_sm B2 T2 s3
    refine⟨t,_,n,rfl,T30,by omega,hn1,by omega,fun wa ts H4 hwa0 W4 T4 s40=>?_⟩
    have B4:Tb H4 PT:=Tb_sm B3 T30 s40
    refine⟨_,rfl,rfl,_,rfl,?_⟩
    refine ite2 (fun hc=>?x) (fun hc=>?c)
    case' x=>
     refine⟨_,rfl,t,_,4,rfl,T4,by omega,by decide,by decide,fun r H41 r0 r1 T41 e41=>?_⟩
     refine⟨rfl,_,rfl,?_⟩
     have m41:Sm t H4 H41:=fun b o nb e=>by rw[e41 b nb];exact e
     have B41:Tb H41 PT:=Tb_sm B4 T4 m41
     have W41:WebAt H41 wa n ts:=W4.sm T4 m41
     refine ite2 (fun hd=>?a) (fun hd=>?b)
    case' a=>
     refine⟨_,rfl,t,_,rfl,T41,by omega,fun wa n ts H4 W4 T4' s4=>?_⟩
     have B4:Tb H4 PT:=Tb_sm B41 T41 s4
     have T4:TapeAt H4 t (2000*i+1000):=T4'.mono (by omega)
    case' b=>
     have B4:Tb H41 PT:=B41
     have W4:WebAt H41 wa n ts:=W41
     have T4:TapeAt H41 t (2000*i+1000):=T41.mono (by omega)
    case' c=>
     have T4:TapeAt H4 t (2000*i+1000):=T4.mono (by omega)
     refine iteF ?_
    all_goals
     obtain⟨ta,tys,hwa,_,_,G⟩:=id W4
     have hn24:=G.n24
     have hn1:=G.n1
     refine⟨_,rfl,_,rfl,wa,_,_,_,rfl,rfl,SqT.of hwa,rfl,t,_,n,rfl,T4,by omega,hn1,hn24,fun p os H5 hp5 O T5 s5=>?_⟩
     have B5:=Tb_sm B4 T4 s5
     have W5:=W4.sm T4 s5
     refine⟨_,rfl,_,rfl,(by show 2<=sizeLine;decide),fun pr hpr=>?_⟩
     have s6:=same_laid (o:=.tup [.ref wa,.ref p]) hpr
     have h66:(upd H5 pr (.tup [.ref wa,.ref p])) pr=some (.tup [.ref wa,.ref p]):=upd_same
     generalize upd H5 pr (.tup [.ref wa,.ref p])=H6 at s6 h66 ⊢
     have shP:∀{Hx:Hp}{q:Addr},WebAt Hx wa n ts->Hx p=some (.tup (os.map V.int))->Hx q=some (.tup [.ref wa,.ref p])->Shows Hx (.ref q) (.tuple [webPy n ts,.tuple (os.map PyData.int)]):=fun W h1 h2=>.tup h2 (.cons (sh_web W) (.cons (.tup h1 (sh_ints os)) .nil))
     have W6:=W5.keep s6
     have hp6:=s6 _ _ hp5
     have T6:=T5.keep s6
     refine⟨.ref pr,_,rfl,shP W6 hp6 h66,pair_fn G O,?_⟩
     refine⟨_,rfl,_,rfl,wa,p,n,ts,os,rfl,W6,hp6,O,B5.same s6,fun l ess rk H7 sm7 B7 LA RK LO bd=>?_⟩
     refine⟨.ref l,_,rfl,sh_labs LA,fn_labs G LO bd,?_⟩
     have W7:WebAt H7 wa n ts:=W6.smT sm7
     have hp7:H7 p=some (.tup (os.map V.int)):=sm7.get hp6 (by intro ps z;cases z)
     have T7:=T6.smT sm7
     refine⟨_,rfl,_,rfl,wa,p,n,ts,os,rfl,W7,hp7,O,fun l' ess' rk' H8 s8 LA' RK' LO' bd'=>?_⟩
     have eq8:ess=ess':=LabsOf.uniq G O.nd RK RK' LO LO'
     subst eq8
     refine⟨.ref l',_,rfl,sh_labs LA',fn_labs G LO bd,?_⟩
     refine⟨rfl,_,rfl,?_⟩
     refine ifF (by simp) ?_
     have W8:=W7.keep s8
     have hp8:=s8 _ _ hp7
     refine⟨_,rfl,_,rfl,(by show 2<=sizeLine;decide),fun pr2 hpr2=>?_⟩
     have s9:=same_laid (o:=.tup [.ref wa,.ref p]) hpr2
     have h99:(upd H8 pr2 (.tup [.ref wa,.ref p])) pr2=some (.tup [.ref wa,.ref p]):=upd_same
     generalize upd H8 pr2 (.tup [.ref wa,.ref p])=H9 at s9 h99 ⊢
     have W9:=W8.keep s9
     have hp9:=s9 _ _ hp8
     have T9:=(T7.keep s8).keep s9
     have B9:=(B7.same s8).same s9
     refine⟨.ref pr2,_,rfl,shP W9 hp9 h99,pair_fn G O,?_⟩
     refine⟨_,rfl,rfl,_,rfl,?_⟩
     refine ifF (by simp) ?_
     refine⟨_,rfl,_,rfl,p,_,rfl,SqT.of hp9,fun rv hrv=>?_⟩
     have s10:=same_laid (o:=.tup (os.map V.int).reverse) hrv
     have h10:(upd H9 rv (.tup (os.map V.int).reverse)) rv=some (.tup (os.map V.int).reverse):=upd_same
     generalize upd H9 rv (.tup (os.map V.int).reverse)=H10 at s10 h10 ⊢
     refine⟨(by show 2<=sizeLine;decide),fun L1 hL1=>?_⟩
     have s11:=same_laid (o:=.lst [.ref p,.ref rv]) hL1
     have h11:(upd H10 L1 (.lst [.ref p,.ref rv])) L1=some (.lst [.ref p,.ref rv]):=upd_same
     generalize upd H10 L1 (.lst [.ref p,.ref rv])=H11 at s11 h11 ⊢
     have W11:=(W9.keep s10).keep s11
     have hp11:=s11 _ _ (s10 _ _ hp9)
     have T11:=(T9.keep s10).keep s11
     have B11:=(B9.same s10).same s11
     obtain⟨ta',tys',hwa11,_⟩:=id W11
     refine⟨_,rfl,_,rfl,wa,_,_,_,rfl,rfl,SqT.of hwa11,rfl,_,rfl,t,p,_,n,os,rfl,T11,by omega,hn1,hn24,hp11,O,fun l2 ll xs H12 sm12 T12 hl2 hll th hxl=>?_⟩
     have nL1:L1≠t:=fun z=>by
      obtain⟨_,_,_,_,a,_⟩:=id T11
      rw[z,a] at h11
      cases h11
     have hL12:H12 L1=some (.lst [.ref p,.ref rv]):=sm12 _ _ nL1 h11
     have W12:=W11.sm T11 sm12
     have npt:p≠t:=T11.neT hp11
     have hp12:=sm12 _ _ npt hp11
     have nrt:rv≠t:=T11.neT (s11 _ _ h10)
     have hr12:=sm12 _ _ nrt (s11 _ _ h10)
     have B12:=Tb_sm B11 T11 sm12
     refine⟨L1,l2,_,_,rfl,rfl,hL12,hl2,?_,fun LL hLL=>?_⟩
     . have:sizeLine=16777216:=rfl
       show 2+(xs.length+1)<=_
       omega
     have s13:=same_laid (o:=.lst ([.ref p,.ref rv]++(.ref ll::xs))) hLL
     have h13:(upd H12 LL (.lst ([.ref p,.ref rv]++(.ref ll::xs)))) LL=some (.lst ([.ref p,.ref rv]++(.ref ll::xs))):=upd_same
     generalize upd H12 LL (.lst ([.ref p,.ref rv]++(.ref ll::xs)))=H13 at s13 h13 ⊢
     have hol:os.length<=24:=by have:=O.ln;omega
     have obs:∀x∈[V.ref p,.ref rv]++(.ref ll::xs),Ob H13 x:=by
      intro x hx
      rcases List.mem_append.mp hx with m | m
      . simp only[List.mem_cons,List.not_mem_nil,or_false] at m
        rcases m with rfl | rfl
        . exact⟨.tuple (os.map PyData.int),.tup (s13 _ _ hp12) (sh_ints os),fun ds e=>by cases e;rw[List.length_map];omega⟩
        . refine⟨.tuple (os.reverse.map PyData.int),.tup (s13 _ _ hr12) ?_,fun ds e=>by cases e;rw[List.length_map,List.length_reverse];omega⟩
          rw[<-List.map_reverse]
          exact sh_ints _
      . rcases List.mem_cons.mp m with rfl | m
        . exact⟨.list (os.map PyData.int),.lst (s13 _ _ hll) (sh_ints os),fun ds e=>by cases e⟩
        . exact ((th x m).same s13).ob
     refine⟨LL,rfl,⟨_,SqL.of h13⟩,for_list (a:=LL) (xs:=[V.ref p,.ref rv]++(.ref ll::xs)) (fun j σ H'=>∃(v2 v5 v6 v7:Option V),σ=[some (.ref a),some (.ref t),v2,some (.ref wa),some (.ref p),v5,v6,v7]/\SmT H13 H'/\Tb H' PT) ⟨_,_,_,_,rfl,SmT.refl _,B12.same s13⟩ (fun j σ H' hj z=>?_) (fun j x σ H' hx z=>?_) (fun σ H' z=>?_)⟩
     . obtain⟨_,_,_,_,_,sm,_⟩:=z
       exact SqL.of (sm.get h13 (by intro ps z;cases z))
     . obtain⟨v2,v5,v6,v7,rfl,sm,B⟩:=z
       obtain⟨d,S,sml⟩:=(obs x (List.mem_of_getElem? hx)).sm sm
       have W':WebAt H' wa n ts:=(W12.keep s13).smT sm
       obtain⟨ta2,tys2,hwa2,_⟩:=id W'
       refine⟨_,rfl,wa,_,_,_,rfl,rfl,SqT.of hwa2,rfl,_,rfl,x,d,n,rfl,S,hn1,hn24,sml,fun b Hb hb sb=>?_⟩
       refine⟨_,rfl,_,rfl,wa,x,d,n,ts,rfl,W'.keep sb,shows_keep sb S,fun b2 Hc hb2 sc=>?_⟩
       have eb:b2=b:=by
        cases b <;> cases b2 <;> simp_all
       subst eb
       refine⟨.bl b2,.bool b2,rfl,.bl b2,(fn_bool b2).mono (by decide) (by decide),?_⟩
       refine⟨_,rfl,.bl b2,.bool b2,rfl,.bl b2,(fn_bool b2).mono (by decide) (by decide),?_⟩
       refine⟨rfl,_,rfl,?_⟩
       refine ifF (by simp) ?_
       have sbc:=sb.trans sc
       refine⟨_,rfl,_,rfl,wa,x,d,n,ts,rfl,W'.keep sbc,shows_keep sbc S,B.same sbc,fun hO Hd smd Bd=>?_,fun hO Hd sd=>?_⟩
       . have e2:b2=true:=hb.mpr hO
         subst e2
         refine⟨(by show 2<=sizeLine;decide),fun L3 hL3=>?_⟩
         have s3':=same_laid (o:=.lst [.str "order",.str "labels"]) hL3
         refine⟨_,rfl,.inr ⟨true,rfl,?_⟩⟩
         refine⟨L3,_,1,.str "labels",rfl,rfl,SqL.of upd_same,rfl,?_⟩
         refine⟨rfl,_,rfl,?_⟩
         refine ifF (by simp) ?_
         exact⟨_,_,_,_,rfl,(sm.trans (SmT.of sbc)).trans (smd.trans (SmT.of s3')),Bd.same s3'⟩
       . have e2:b2=false:=by
          cases b2 with
          | false=>rfl
          | true=>exact absurd (hb.mp rfl) hO
         subst e2
         refine⟨(by show 2<=sizeLine;decide),fun L3 hL3=>?_⟩
         have s3':=same_laid (o:=.lst [.str "order",.str "labels"]) hL3
         refine⟨_,rfl,.inr ⟨false,rfl,?_⟩⟩
         refine⟨L3,_,0,.str "order",rfl,rfl,SqL.of upd_same,rfl,?_⟩
         refine⟨rfl,_,rfl,?_⟩
         refine ifF (by simp) ?_
         exact⟨_,_,_,_,rfl,(sm.trans (SmT.of sbc)).trans (SmT.of (sd.trans s3')),((B.same sbc).same sd).same s3'⟩
     . obtain⟨v2,v5,v6,v7,rfl,sm,B⟩:=z
       exact⟨_,_,_,_,_,_,rfl,((T12.keep s13).smT sm).mono (by omega),B⟩
end
abbrev sT:String->Str:=Str.ofString
abbrev kH:=PyData.keyHash
abbrev dE:=DictEntry.mk
abbrev vS:=Value.str
abbrev vI:=Value.int
abbrev vR:=Value.ref
abbrev vB:=Value.bool
abbrev vN:Value:=Value.none
abbrev vT:=Value.type
abbrev oM:=Obj.mk
abbrev tQ (x:Array Value):Obj:=oM (vT "tuple") .none (.seq x) #[]
abbrev cQ (x:Array Value):Obj:=oM (vT "code") .none (.fields x) #[]
abbrev fQ (x:FuncData):Obj:=oM (vT "function") .none (.func x) #[]
abbrev fT (x:String)(i:Nat)(m:Value)(c:Nat):Obj:=fQ (.mk (sT x) (sT x) (L2.defArgs (top i)) (FuncBody.stmts (L2.defBody (top i))) (L2.defScope (top i)) 3 [] vN vN vN m .none (vR c) vN 0)
abbrev qS (x:String)(n:Nat):Value:=vS (sT x) n
abbrev kE (P:Params)(x:String)(n:Nat):Value->DictEntry:=dE (kH P (sT x)) (qS x n)
def Kf:Params->PySem.W.Frag:=fun P=>[
(2,oM vN .none (Data.dict #[]) #[]),
(3,oM (vT "dict") .none (Data.dict #[kE P "__name__" 165 (qS "law_labelways_k08_labels_by_an_order" 571),kE P "__doc__" 166 vN,kE P "__package__" 167 vN,kE P "__loader__" 168 (Value.builtin "__main__.__loader__#opaque"),kE P "__spec__" 169 vN,kE P "__annotations__" 170 (vR 6),kE P "__builtins__" 171 (vR 4),kE P "__file__" 173 (qS "/claim/cut.py" 172),kE P "__cached__" 174 vN,kE P "WayError" 206 (vR 24),kE P "NoLabels" 233 (vR 44),kE P "NoLeast" 260 (vR 63),kE P "NoPlan" 287 (vR 82),kE P "NoText" 314 (vR 101),kE P "NoOrder" 330 (vR 113),kE P "NoTree" 346 (vR 125),kE P "NoRing" 362 (vR 137),kE P "NoPosts" 378 (vR 149),kE P "NoTie" 394 (vR 161),kE P "NoPart" 410 (vR 173),kE P "NoRow" 426 (vR 185),kE P "TooMany" 442 (vR 197),kE P "is_number" 451 (vR 206),kE P "is_within" 460 (vR 213),kE P "is_tuple_of" 468 (vR 220),kE P "is_place" 476 (vR 227),kE P "ties_at" 490 (vR 234),kE P "lengths" 498 (vR 239),kE P "lengths_from" 512 (vR 246),kE P "nearest" 520 (vR 253),kE P "between_rows" 526 (vR 258),kE P "next_by_row" 532 (vR 263),kE P "is_order" 540 (vR 268),kE P "by_order" 546 (vR 273),kE P "label_by_ranks" 552 (vR 278),kE P "is_hub" 558 (vR 283),kE P "entry_by_rows" 570 (vR 290),kE P "_law_tape" 579 (vR 297),kE P "_law_draw" 591 (vR 304),kE P "_law_n" 598 (vR 311),kE P "_law_web" 604 (vR 316),kE P "_law_row_web" 610 (vR 321),kE P "_law_added" 618 (vR 328),kE P "_law_lesser" 626 (vR 335),kE P "_law_far" 632 (vR 340),kE P "_law_on" 643 (vR 347),kE P "_law_joined" 654 (vR 354),kE P "_law_nexts" 660 (vR 359),kE P "_law_order" 671 (vR 366),kE P "_law_entry" 681 (vR 373),kE P "_law_labels" 687 (vR 378),kE P "_law_word" 698 (vR 385),kE P "_law_strange" 710 (vR 392),kE P "_law_is_order" 716 (vR 397),kE P "law" 730 (vR 404)] 55) #[]),
(23,oM (vT "dict") .none (Data.dict #[kE P "__module__" 196 (qS "labelways.errors" 187),kE P "__firstlineno__" 200 (vI 2 199),kE P "__static_attributes__" 201 (vR 22),kE P "__weakref__" 203 (vR 25),kE P "__doc__" 204 vN] 3) #[]),
(24,oM (vT "type") .none (Data.cls (ClassData.mk (sT "WayError") [vT "ValueError"] [vR 24,vT "ValueError",vT "Exception",vT "BaseException",vT "object"] 23 (sT "WayError") true [] [vR 44,vR 63,vR 82,vR 101,vR 113,vR 125,vR 137,vR 149,vR 161,vR 173,vR 185,vR 197] false .none false)) #[.some (vR 15),.none,.some (qS "WayError" 189),.some (qS "WayError" 197),.some (Value.builtin "ValueError.__new__"),.some (vB true)]),
(25,oM (vT "getset_descriptor") .none (Data.fields #[qS "__weakref__" 202,vR 24,Value.builtin "ExceptionGroup.__weakref__",vN]) #[]),
(40,cQ #[qS "__init__" 219,qS "NoLabels.__init__" 220,qS "/claim/cut.py" 221,vI 6 0,vI 3 0,vI 0 0,vI 0 0,vI 3 0,vR 35,vB true,vI 181 0,vR 36,vN,vR 37,vR 38,vR 39,vI 225 0,vI 6 0,qS "/claim/cut.py" 226]),
(41,fQ (.mk (sT "__init__") (sT "NoLabels.__init__") (Arguments.mk [] [Arg.mk (sT "self") .none (Pos.mk 6 17 6 21),Arg.mk (sT "word") .none (Pos.mk 6 23 6 27),Arg.mk (sT "at") .none (Pos.mk 6 29 6 31)] .none [] [] .none []) (FuncBody.stmts [Stmt.Assign [Expr.Attribute (Expr.Name (sT "self") (Pos.mk 7 8 7 12)) (sT "word") (Pos.mk 7 8 7 17)] (Expr.Name (sT "word") (Pos.mk 7 20 7 24)) (Pos.mk 7 8 7 24),Stmt.Assign [Expr.Attribute (Expr.Name (sT "self") (Pos.mk 8 8 8 12)) (sT "at") (Pos.mk 8 8 8 15)] (Expr.Name (sT "at") (Pos.mk 8 18 8 20)) (Pos.mk 8 8 8 20)]) (Scope.mk ScopeKind.function [(sT "self",NameKind.local),(sT "word",NameKind.local),(sT "at",NameKind.local)] false false []) 3 [] vN vN vN (qS "labelways.errors" 187) .none (vR 40) vN 0)),
(43,oM (vT "dict") .none (Data.dict #[kE P "__module__" 214 (qS "labelways.errors" 187),kE P "__firstlineno__" 218 (vI 4 217),kE P "__init__" 227 (vR 41),kE P "__static_attributes__" 230 (vR 42),kE P "__doc__" 231 vN] 2) #[]),
(44,oM (vT "type") .none (Data.cls (ClassData.mk (sT "NoLabels") [vR 24] [vR 44,vR 24,vT "ValueError",vT "Exception",vT "BaseException",vT "object"] 43 (sT "NoLabels") true [] [] false .none false)) #[.some (vR 28),.none,.some (qS "NoLabels" 207),.some (qS "NoLabels" 215),.some (Value.builtin "ValueError.__new__"),.some (vB true)]),
(59,cQ #[qS "__init__" 246,qS "NoLeast.__init__" 247,qS "/claim/cut.py" 248,vI 11 0,vI 3 0,vI 0 0,vI 0 0,vI 3 0,vR 54,vB true,vI 181 0,vR 55,vN,vR 56,vR 57,vR 58,vI 252 0,vI 11 0,qS "/claim/cut.py" 253]),
(60,fQ (.mk (sT "__init__") (sT "NoLeast.__init__") (Arguments.mk [] [Arg.mk (sT "self") .none (Pos.mk 11 17 11 21),Arg.mk (sT "word") .none (Pos.mk 11 23 11 27),Arg.mk (sT "at") .none (Pos.mk 11 29 11 31)] .none [] [] .none []) (FuncBody.stmts [Stmt.Assign [Expr.Attribute (Expr.Name (sT "self") (Pos.mk 12 8 12 12)) (sT "word") (Pos.mk 12 8 12 17)] (Expr.Name (sT "word") (Pos.mk 12 20 12 24)) (Pos.mk 12 8 12 24),Stmt.Assign [Expr.Attribute (Expr.Name (sT "self") (Pos.mk 13 8 13 12)) (sT "at") (Pos.mk 13 8 13 15)] (Expr.Name (sT "at") (Pos.mk 13 18 13 20)) (Pos.mk 13 8 13 20)]) (Scope.mk ScopeKind.function [(sT "self",NameKind.local),(sT "word",NameKind.local),(sT "at",NameKind.local)] false false []) 3 [] vN vN vN (qS "labelways.errors" 187) .none (vR 59) vN 0)),
(62,oM (vT "dict") .none (Data.dict #[kE P "__module__" 241 (qS "labelways.errors" 187),kE P "__firstlineno__" 245 (vI 9 244),kE P "__init__" 254 (vR 60),kE P "__static_attributes__" 257 (vR 61),kE P "__doc__" 258 vN] 2) #[]),
(63,oM (vT "type") .none (Data.cls (ClassData.mk (sT "NoLeast") [vR 24] [vR 63,vR 24,vT "ValueError",vT "Exception",vT "BaseException",vT "object"] 62 (sT "NoLeast") true [] [] false .none false)) #[.some (vR 47),.none,.some (qS "NoLeast" 234),.some (qS "NoLeast" 242),.some (Value.builtin "ValueError.__new__"),.some (vB true)]),
(78,cQ #[qS "__init__" 273,qS "NoPlan.__init__" 274,qS "/claim/cut.py" 275,vI 16 0,vI 3 0,vI 0 0,vI 0 0,vI 3 0,vR 73,vB true,vI 181 0,vR 74,vN,vR 75,vR 76,vR 77,vI 279 0,vI 16 0,qS "/claim/cut.py" 280]),
(79,fQ (.mk (sT "__init__") (sT "NoPlan.__init__") (Arguments.mk [] [Arg.mk (sT "self") .none (Pos.mk 16 17 16 21),Arg.mk (sT "word") .none (Pos.mk 16 23 16 27),Arg.mk (sT "at") .none (Pos.mk 16 29 16 31)] .none [] [] .none []) (FuncBody.stmts [Stmt.Assign [Expr.Attribute (Expr.Name (sT "self") (Pos.mk 17 8 17 12)) (sT "word") (Pos.mk 17 8 17 17)] (Expr.Name (sT "word") (Pos.mk 17 20 17 24)) (Pos.mk 17 8 17 24),Stmt.Assign [Expr.Attribute (Expr.Name (sT "self") (Pos.mk 18 8 18 12)) (sT "at") (Pos.mk 18 8 18 15)] (Expr.Name (sT "at") (Pos.mk 18 18 18 20)) (Pos.mk 18 8 18 20)]) (Scope.mk ScopeKind.function [(sT "self",NameKind.local),(sT "word",NameKind.local),(sT "at",NameKind.local)] false false []) 3 [] vN vN vN (qS "labelways.errors" 187) .none (vR 78) vN 0)),
(81,oM (vT "dict") .none (Data.dict #[kE P "__module__" 268 (qS "labelways.errors" 187),kE P "__firstlineno__" 272 (vI 14 271),kE P "__init__" 281 (vR 79),kE P "__static_attributes__" 284 (vR 80),kE P "__doc__" 285 vN] 2) #[]),
(82,oM (vT "type") .none (Data.cls (ClassData.mk (sT "NoPlan") [vR 24] [vR 82,vR 24,vT "ValueError",vT "Exception",vT "BaseException",vT "object"] 81 (sT "NoPlan") true [] [] false .none false)) #[.some (vR 66),.none,.some (qS "NoPlan" 261),.some (qS "NoPlan" 269),.some (Value.builtin "ValueError.__new__"),.some (vB true)]),
(97,cQ #[qS "__init__" 300,qS "NoText.__init__" 301,qS "/claim/cut.py" 302,vI 21 0,vI 3 0,vI 0 0,vI 0 0,vI 3 0,vR 92,vB true,vI 181 0,vR 93,vN,vR 94,vR 95,vR 96,vI 306 0,vI 21 0,qS "/claim/cut.py" 307]),
(98,fQ (.mk (sT "__init__") (sT "NoText.__init__") (Arguments.mk [] [Arg.mk (sT "self") .none (Pos.mk 21 17 21 21),Arg.mk (sT "line") .none (Pos.mk 21 23 21 27),Arg.mk (sT "word") .none (Pos.mk 21 29 21 33)] .none [] [] .none []) (FuncBody.stmts [Stmt.Assign [Expr.Attribute (Expr.Name (sT "self") (Pos.mk 22 8 22 12)) (sT "line") (Pos.mk 22 8 22 17)] (Expr.Name (sT "line") (Pos.mk 22 20 22 24)) (Pos.mk 22 8 22 24),Stmt.Assign [Expr.Attribute (Expr.Name (sT "self") (Pos.mk 23 8 23 12)) (sT "word") (Pos.mk 23 8 23 17)] (Expr.Name (sT "word") (Pos.mk 23 20 23 24)) (Pos.mk 23 8 23 24)]) (Scope.mk ScopeKind.function [(sT "self",NameKind.local),(sT "line",NameKind.local),(sT "word",NameKind.local)] false false []) 3 [] vN vN vN (qS "labelways.errors" 187) .none (vR 97) vN 0)),
(100,oM (vT "dict") .none (Data.dict #[kE P "__module__" 295 (qS "labelways.errors" 187),kE P "__firstlineno__" 299 (vI 19 298),kE P "__init__" 308 (vR 98),kE P "__static_attributes__" 311 (vR 99),kE P "__doc__" 312 vN] 2) #[]),
(101,oM (vT "type") .none (Data.cls (ClassData.mk (sT "NoText") [vR 24] [vR 101,vR 24,vT "ValueError",vT "Exception",vT "BaseException",vT "object"] 100 (sT "NoText") true [] [] false .none false)) #[.some (vR 85),.none,.some (qS "NoText" 288),.some (qS "NoText" 296),.some (Value.builtin "ValueError.__new__"),.some (vB true)]),
(112,oM (vT "dict") .none (Data.dict #[kE P "__module__" 322 (qS "labelways.errors" 187),kE P "__firstlineno__" 326 (vI 24 325),kE P "__static_attributes__" 327 (vR 111),kE P "__doc__" 328 vN] 2) #[]),
(113,oM (vT "type") .none (Data.cls (ClassData.mk (sT "NoOrder") [vR 24] [vR 113,vR 24,vT "ValueError",vT "Exception",vT "BaseException",vT "object"] 112 (sT "NoOrder") true [] [] false .none false)) #[.some (vR 104),.none,.some (qS "NoOrder" 315),.some (qS "NoOrder" 323),.some (Value.builtin "ValueError.__new__"),.some (vB true)]),
(124,oM (vT "dict") .none (Data.dict #[kE P "__module__" 338 (qS "labelways.errors" 187),kE P "__firstlineno__" 342 (vI 26 341),kE P "__static_attributes__" 343 (vR 123),kE P "__doc__" 344 vN] 2) #[]),
(125,oM (vT "type") .none (Data.cls (ClassData.mk (sT "NoTree") [vR 24] [vR 125,vR 24,vT "ValueError",vT "Exception",vT "BaseException",vT "object"] 124 (sT "NoTree") true [] [] false .none false)) #[.some (vR 116),.none,.some (qS "NoTree" 331),.some (qS "NoTree" 339),.some (Value.builtin "ValueError.__new__"),.some (vB true)]),
(136,oM (vT "dict") .none (Data.dict #[kE P "__module__" 354 (qS "labelways.errors" 187),kE P "__firstlineno__" 358 (vI 28 357),kE P "__static_attributes__" 359 (vR 135),kE P "__doc__" 360 vN] 2) #[]),
(137,oM (vT "type") .none (Data.cls (ClassData.mk (sT "NoRing") [vR 24] [vR 137,vR 24,vT "ValueError",vT "Exception",vT "BaseException",vT "object"] 136 (sT "NoRing") true [] [] false .none false)) #[.some (vR 128),.none,.some (qS "NoRing" 347),.some (qS "NoRing" 355),.some (Value.builtin "ValueError.__new__"),.some (vB true)]),
(148,oM (vT "dict") .none (Data.dict #[kE P "__module__" 370 (qS "labelways.errors" 187),kE P "__firstlineno__" 374 (vI 30 373),kE P "__static_attributes__" 375 (vR 147),kE P "__doc__" 376 vN] 2) #[]),
(149,oM (vT "type") .none (Data.cls (ClassData.mk (sT "NoPosts") [vR 24] [vR 149,vR 24,vT "ValueError",vT "Exception",vT "BaseException",vT "object"] 148 (sT "NoPosts") true [] [] false .none false)) #[.some (vR 140),.none,.some (qS "NoPosts" 363),.some (qS "NoPosts" 371),.some (Value.builtin "ValueError.__new__"),.some (vB true)]),
(160,oM (vT "dict") .none (Data.dict #[kE P "__module__" 386 (qS "labelways.errors" 187),kE P "__firstlineno__" 390 (vI 32 389),kE P "__static_attributes__" 391 (vR 159),kE P "__doc__" 392 vN] 2) #[]),
(161,oM (vT "type") .none (Data.cls (ClassData.mk (sT "NoTie") [vR 24] [vR 161,vR 24,vT "ValueError",vT "Exception",vT "BaseException",vT "object"] 160 (sT "NoTie") true [] [] false .none false)) #[.some (vR 152),.none,.some (qS "NoTie" 379),.some (qS "NoTie" 387),.some (Value.builtin "ValueError.__new__"),.some (vB true)]),
(172,oM (vT "dict") .none (Data.dict #[kE P "__module__" 402 (qS "labelways.errors" 187),kE P "__firstlineno__" 406 (vI 34 405),kE P "__static_attributes__" 407 (vR 171),kE P "__doc__" 408 vN] 2) #[]),
(173,oM (vT "type") .none (Data.cls (ClassData.mk (sT "NoPart") [vR 24] [vR 173,vR 24,vT "ValueError",vT "Exception",vT "BaseException",vT "object"] 172 (sT "NoPart") true [] [] false .none false)) #[.some (vR 164),.none,.some (qS "NoPart" 395),.some (qS "NoPart" 403),.some (Value.builtin "ValueError.__new__"),.some (vB true)]),
(184,oM (vT "dict") .none (Data.dict #[kE P "__module__" 418 (qS "labelways.errors" 187),kE P "__firstlineno__" 422 (vI 36 421),kE P "__static_attributes__" 423 (vR 183),kE P "__doc__" 424 vN] 2) #[]),
(185,oM (vT "type") .none (Data.cls (ClassData.mk (sT "NoRow") [vR 24] [vR 185,vR 24,vT "ValueError",vT "Exception",vT "BaseException",vT "object"] 184 (sT "NoRow") true [] [] false .none false)) #[.some (vR 176),.none,.some (qS "NoRow" 411),.some (qS "NoRow" 419),.some (Value.builtin "ValueError.__new__"),.some (vB true)]),
(196,oM (vT "dict") .none (Data.dict #[kE P "__module__" 434 (qS "labelways.errors" 187),kE P "__firstlineno__" 438 (vI 38 437),kE P "__static_attributes__" 439 (vR 195),kE P "__doc__" 440 vN] 2) #[]),
(197,oM (vT "type") .none (Data.cls (ClassData.mk (sT "TooMany") [vR 24] [vR 197,vR 24,vT "ValueError",vT "Exception",vT "BaseException",vT "object"] 196 (sT "TooMany") true [] [] false .none false)) #[.some (vR 188),.none,.some (qS "TooMany" 427),.some (qS "TooMany" 435),.some (Value.builtin "ValueError.__new__"),.some (vB true)]),
(205,cQ #[qS "is_number" 445,qS "is_number" 446,qS "/claim/cut.py" 447,vI 41 0,vI 1 0,vI 0 0,vI 0 0,vI 3 0,vR 200,vB true,vI 181 0,vR 201,vN,vR 202,vR 203,vR 204,vI 449 0,vI 41 0,qS "/claim/cut.py" 450]),
(206,fQ (.mk (sT "is_number") (sT "is_number") (L2.defArgs (top 15)) (FuncBody.stmts (L2.defBody (top 15))) (L2.defScope (top 15)) 3 [] vN vN vN (qS "labelways.kinds" 443) .none (vR 205) vN 0)),
(212,cQ #[qS "is_within" 452,qS "is_within" 453,qS "/claim/cut.py" 454,vI 43 0,vI 3 0,vI 0 0,vI 0 0,vI 3 0,vR 207,vB true,vI 181 0,vR 208,vN,vR 209,vR 210,vR 211,vI 458 0,vI 43 0,qS "/claim/cut.py" 459]),
(213,fQ (.mk (sT "is_within") (sT "is_within") (L2.defArgs (top 16)) (FuncBody.stmts (L2.defBody (top 16))) (L2.defScope (top 16)) 3 [] vN vN vN (qS "labelways.kinds" 443) .none (vR 212) vN 0)),
(219,cQ #[qS "is_tuple_of" 461,qS "is_tuple_of" 462,qS "/claim/cut.py" 463,vI 45 0,vI 2 0,vI 0 0,vI 0 0,vI 3 0,vR 214,vB true,vI 181 0,vR 215,vN,vR 216,vR 217,vR 218,vI 466 0,vI 45 0,qS "/claim/cut.py" 467]),
(220,fQ (.mk (sT "is_tuple_of") (sT "is_tuple_of") (L2.defArgs (top 17)) (FuncBody.stmts (L2.defBody (top 17))) (L2.defScope (top 17)) 3 [] vN vN vN (qS "labelways.kinds" 443) .none (vR 219) vN 0)),
(226,cQ #[qS "is_place" 469,qS "is_place" 470,qS "/claim/cut.py" 471,vI 47 0,vI 2 0,vI 0 0,vI 0 0,vI 3 0,vR 221,vB true,vI 181 0,vR 222,vN,vR 223,vR 224,vR 225,vI 474 0,vI 47 0,qS "/claim/cut.py" 475]),
(227,fQ (.mk (sT "is_place") (sT "is_place") (L2.defArgs (top 18)) (FuncBody.stmts (L2.defBody (top 18))) (L2.defScope (top 18)) 3 [] vN vN vN (qS "labelways.kinds" 443) .none (vR 226) vN 0)),
(233,cQ #[qS "ties_at" 479,qS "ties_at" 480,qS "/claim/cut.py" 481,vI 50 0,vI 2 0,vI 0 0,vI 0 0,vI 3 0,vR 228,vB true,vI 181 0,vR 229,vN,vR 230,vR 231,vR 232,vI 488 0,vI 50 0,qS "/claim/cut.py" 489]),
(234,fQ (.mk (sT "ties_at") (sT "ties_at") (L2.defArgs (top 20)) (FuncBody.stmts (L2.defBody (top 20))) (L2.defScope (top 20)) 3 [] vN vN vN (qS "labelways.webs" 477) .none (vR 233) vN 0)),
(238,cQ #[qS "lengths" 493,qS "lengths" 494,qS "/claim/cut.py" 495,vI 59 0,vI 1 0,vI 0 0,vI 0 0,vI 3 0,vR 235,vB true,vI 181 0,vR 236,vN,vN,vN,vR 237,vI 496 0,vI 59 0,qS "/claim/cut.py" 497]),
(239,fQ (.mk (sT "lengths") (sT "lengths") (L2.defArgs (top 22)) (FuncBody.stmts (L2.defBody (top 22))) (L2.defScope (top 22)) 3 [] vN vN vN (qS "labelways.lengths" 491) .none (vR 238) vN 0)),
(245,cQ #[qS "lengths_from" 499,qS "lengths_from" 500,qS "/claim/cut.py" 501,vI 61 0,vI 2 0,vI 0 0,vI 0 0,vI 3 0,vR 240,vB true,vI 181 0,vR 241,vN,vR 242,vR 243,vR 244,vI 510 0,vI 61 0,qS "/claim/cut.py" 511]),
(246,fQ (.mk (sT "lengths_from") (sT "lengths_from") (L2.defArgs (top 23)) (FuncBody.stmts (L2.defBody (top 23))) (L2.defScope (top 23)) 3 [] vN vN vN (qS "labelways.lengths" 491) .none (vR 245) vN 0)),
(252,cQ #[qS "nearest" 513,qS "nearest" 514,qS "/claim/cut.py" 515,vI 72 0,vI 1 0,vI 0 0,vI 0 0,vI 3 0,vR 247,vB true,vI 181 0,vR 248,vN,vR 249,vR 250,vR 251,vI 518 0,vI 72 0,qS "/claim/cut.py" 519]),
(253,fQ (.mk (sT "nearest") (sT "nearest") (L2.defArgs (top 24)) (FuncBody.stmts (L2.defBody (top 24))) (L2.defScope (top 24)) 3 [] vN vN vN (qS "labelways.lengths" 491) .none (vR 252) vN 0)),
(257,cQ #[qS "between_rows" 521,qS "between_rows" 522,qS "/claim/cut.py" 523,vI 74 0,vI 3 0,vI 0 0,vI 0 0,vI 3 0,vR 254,vB true,vI 181 0,vR 255,vN,vN,vN,vR 256,vI 524 0,vI 74 0,qS "/claim/cut.py" 525]),
(258,fQ (.mk (sT "between_rows") (sT "between_rows") (L2.defArgs (top 25)) (FuncBody.stmts (L2.defBody (top 25))) (L2.defScope (top 25)) 3 [] vN vN vN (qS "labelways.lengths" 491) .none (vR 257) vN 0)),
(262,cQ #[qS "next_by_row" 527,qS "next_by_row" 528,qS "/claim/cut.py" 529,vI 79 0,vI 3 0,vI 0 0,vI 0 0,vI 3 0,vR 259,vB true,vI 181 0,vR 260,vN,vN,vN,vR 261,vI 530 0,vI 79 0,qS "/claim/cut.py" 531]),
(263,fQ (.mk (sT "next_by_row") (sT "next_by_row") (L2.defArgs (top 26)) (FuncBody.stmts (L2.defBody (top 26))) (L2.defScope (top 26)) 3 [] vN vN vN (qS "labelways.lengths" 491) .none (vR 262) vN 0)),
(267,cQ #[qS "is_order" 535,qS "is_order" 536,qS "/claim/cut.py" 537,vI 84 0,vI 2 0,vI 0 0,vI 0 0,vI 3 0,vR 264,vB true,vI 181 0,vR 265,vN,vN,vN,vR 266,vI 538 0,vI 84 0,qS "/claim/cut.py" 539]),
(268,fQ (.mk (sT "is_order") (sT "is_order") (L2.defArgs (top 28)) (FuncBody.stmts (L2.defBody (top 28))) (L2.defScope (top 28)) 3 [] vN vN vN (qS "labelways.orders" 533) .none (vR 267) vN 0)),
(272,cQ #[qS "by_order" 541,qS "by_order" 542,qS "/claim/cut.py" 543,vI 89 0,vI 2 0,vI 0 0,vI 0 0,vI 3 0,vR 269,vB true,vI 181 0,vR 270,vN,vN,vN,vR 271,vI 544 0,vI 89 0,qS "/claim/cut.py" 545]),
(273,fQ (.mk (sT "by_order") (sT "by_order") (L2.defArgs (top 29)) (FuncBody.stmts (L2.defBody (top 29))) (L2.defScope (top 29)) 3 [] vN vN vN (qS "labelways.orders" 533) .none (vR 272) vN 0)),
(277,cQ #[qS "label_by_ranks" 547,qS "label_by_ranks" 548,qS "/claim/cut.py" 549,vI 95 0,vI 4 0,vI 0 0,vI 0 0,vI 3 0,vR 274,vB true,vI 181 0,vR 275,vN,vN,vN,vR 276,vI 550 0,vI 95 0,qS "/claim/cut.py" 551]),
(278,fQ (.mk (sT "label_by_ranks") (sT "label_by_ranks") (L2.defArgs (top 30)) (FuncBody.stmts (L2.defBody (top 30))) (L2.defScope (top 30)) 3 [] vN vN vN (qS "labelways.orders" 533) .none (vR 277) vN 0)),
(282,cQ #[qS "is_hub" 553,qS "is_hub" 554,qS "/claim/cut.py" 555,vI 98 0,vI 4 0,vI 0 0,vI 0 0,vI 3 0,vR 279,vB true,vI 181 0,vR 280,vN,vN,vN,vR 281,vI 556 0,vI 98 0,qS "/claim/cut.py" 557]),
(283,fQ (.mk (sT "is_hub") (sT "is_hub") (L2.defArgs (top 31)) (FuncBody.stmts (L2.defBody (top 31))) (L2.defScope (top 31)) 3 [] vN vN vN (qS "labelways.orders" 533) .none (vR 282) vN 0)),
(289,cQ #[qS "entry_by_rows" 559,qS "entry_by_rows" 560,qS "/claim/cut.py" 561,vI 102 0,vI 4 0,vI 0 0,vI 0 0,vI 3 0,vR 284,vB true,vI 181 0,vR 285,vN,vR 286,vR 287,vR 288,vI 568 0,vI 102 0,qS "/claim/cut.py" 569]),
(290,fQ (.mk (sT "entry_by_rows") (sT "entry_by_rows") (L2.defArgs (top 32)) (FuncBody.stmts (L2.defBody (top 32))) (L2.defScope (top 32)) 3 [] vN vN vN (qS "labelways.orders" 533) .none (vR 289) vN 0)),
(296,cQ #[qS "_law_tape" 573,qS "_law_tape" 574,qS "/claim/cut.py" 575,vI 107 0,vI 1 0,vI 0 0,vI 0 0,vI 3 0,vR 291,vB true,vI 181 0,vR 292,vN,vR 293,vR 294,vR 295,vI 577 0,vI 107 0,qS "/claim/cut.py" 578]),
(297,fT "_law_tape" 34 (qS "law_labelways_k08_labels_by_an_order" 571) 296),
(303,cQ #[qS "_law_draw" 580,qS "_law_draw" 581,qS "/claim/cut.py" 582,vI 109 0,vI 2 0,vI 0 0,vI 0 0,vI 3 0,vR 298,vB true,vI 181 0,vR 299,vN,vR 300,vR 301,vR 302,vI 589 0,vI 109 0,qS "/claim/cut.py" 590]),
(304,fT "_law_draw" 35 (qS "law_labelways_k08_labels_by_an_order" 571) 303),
(310,cQ #[qS "_law_n" 592,qS "_law_n" 593,qS "/claim/cut.py" 594,vI 122 0,vI 1 0,vI 0 0,vI 0 0,vI 3 0,vR 305,vB true,vI 181 0,vR 306,vN,vR 307,vR 308,vR 309,vI 596 0,vI 122 0,qS "/claim/cut.py" 597]),
(311,fT "_law_n" 36 (qS "law_labelways_k08_labels_by_an_order" 571) 310),
(315,cQ #[qS "_law_web" 599,qS "_law_web" 600,qS "/claim/cut.py" 601,vI 124 0,vI 2 0,vI 0 0,vI 0 0,vI 3 0,vR 312,vB true,vI 181 0,vR 313,vN,vN,vN,vR 314,vI 602 0,vI 124 0,qS "/claim/cut.py" 603]),
(316,fT "_law_web" 37 (qS "law_labelways_k08_labels_by_an_order" 571) 315),
(320,cQ #[qS "_law_row_web" 605,qS "_law_row_web" 606,qS "/claim/cut.py" 607,vI 136 0,vI 1 0,vI 0 0,vI 0 0,vI 3 0,vR 317,vB true,vI 181 0,vR 318,vN,vN,vN,vR 319,vI 608 0,vI 136 0,qS "/claim/cut.py" 609]),
(321,fT "_law_row_web" 38 (qS "law_labelways_k08_labels_by_an_order" 571) 320),
(327,cQ #[qS "_law_added" 611,qS "_law_added" 612,qS "/claim/cut.py" 613,vI 145 0,vI 2 0,vI 0 0,vI 0 0,vI 3 0,vR 322,vB true,vI 181 0,vR 323,vN,vR 324,vR 325,vR 326,vI 616 0,vI 145 0,qS "/claim/cut.py" 617]),
(328,fT "_law_added" 39 (qS "law_labelways_k08_labels_by_an_order" 571) 327),
(334,cQ #[qS "_law_lesser" 619,qS "_law_lesser" 620,qS "/claim/cut.py" 621,vI 147 0,vI 2 0,vI 0 0,vI 0 0,vI 3 0,vR 329,vB true,vI 181 0,vR 330,vN,vR 331,vR 332,vR 333,vI 624 0,vI 147 0,qS "/claim/cut.py" 625]),
(335,fT "_law_lesser" 40 (qS "law_labelways_k08_labels_by_an_order" 571) 334),
(339,cQ #[qS "_law_far" 627,qS "_law_far" 628,qS "/claim/cut.py" 629,vI 151 0,vI 1 0,vI 0 0,vI 0 0,vI 3 0,vR 336,vB true,vI 181 0,vR 337,vN,vN,vN,vR 338,vI 630 0,vI 151 0,qS "/claim/cut.py" 631]),
(340,fT "_law_far" 41 (qS "law_labelways_k08_labels_by_an_order" 571) 339),
(346,cQ #[qS "_law_on" 633,qS "_law_on" 634,qS "/claim/cut.py" 635,vI 163 0,vI 4 0,vI 0 0,vI 0 0,vI 3 0,vR 341,vB true,vI 181 0,vR 342,vN,vR 343,vR 344,vR 345,vI 641 0,vI 163 0,qS "/claim/cut.py" 642]),
(347,fT "_law_on" 42 (qS "law_labelways_k08_labels_by_an_order" 571) 346),
(353,cQ #[qS "_law_joined" 644,qS "_law_joined" 645,qS "/claim/cut.py" 646,vI 166 0,vI 1 0,vI 0 0,vI 0 0,vI 3 0,vR 348,vB true,vI 181 0,vR 349,vN,vR 350,vR 351,vR 352,vI 652 0,vI 166 0,qS "/claim/cut.py" 653]),
(354,fT "_law_joined" 43 (qS "law_labelways_k08_labels_by_an_order" 571) 353),
(358,cQ #[qS "_law_nexts" 655,qS "_law_nexts" 656,qS "/claim/cut.py" 657,vI 172 0,vI 4 0,vI 0 0,vI 0 0,vI 3 0,vR 355,vB true,vI 181 0,vR 356,vN,vN,vN,vR 357,vI 658 0,vI 172 0,qS "/claim/cut.py" 659]),
(359,fT "_law_nexts" 44 (qS "law_labelways_k08_labels_by_an_order" 571) 358),
(365,cQ #[qS "_law_order" 661,qS "_law_order" 662,qS "/claim/cut.py" 663,vI 179 0,vI 2 0,vI 0 0,vI 0 0,vI 3 0,vR 360,vB true,vI 181 0,vR 361,vN,vR 362,vR 363,vR 364,vI 669 0,vI 179 0,qS "/claim/cut.py" 670]),
(366,fT "_law_order" 45 (qS "law_labelways_k08_labels_by_an_order" 571) 365),
(372,cQ #[qS "_law_entry" 672,qS "_law_entry" 673,qS "/claim/cut.py" 674,vI 185 0,vI 4 0,vI 0 0,vI 0 0,vI 3 0,vR 367,vB true,vI 181 0,vR 368,vN,vR 369,vR 370,vR 371,vI 679 0,vI 185 0,qS "/claim/cut.py" 680]),
(373,fT "_law_entry" 46 (qS "law_labelways_k08_labels_by_an_order" 571) 372),
(377,cQ #[qS "_law_labels" 682,qS "_law_labels" 683,qS "/claim/cut.py" 684,vI 189 0,vI 2 0,vI 0 0,vI 0 0,vI 3 0,vR 374,vB true,vI 181 0,vR 375,vN,vN,vN,vR 376,vI 685 0,vI 189 0,qS "/claim/cut.py" 686]),
(378,fT "_law_labels" 47 (qS "law_labelways_k08_labels_by_an_order" 571) 377),
(384,cQ #[qS "_law_word" 688,qS "_law_word" 689,qS "/claim/cut.py" 690,vI 200 0,vI 2 0,vI 0 0,vI 0 0,vI 3 0,vR 379,vB true,vI 181 0,vR 380,vN,vR 381,vR 382,vR 383,vI 696 0,vI 200 0,qS "/claim/cut.py" 697]),
(385,fT "_law_word" 48 (qS "law_labelways_k08_labels_by_an_order" 571) 384),
(391,cQ #[qS "_law_strange" 699,qS "_law_strange" 700,qS "/claim/cut.py" 701,vI 211 0,vI 3 0,vI 0 0,vI 0 0,vI 3 0,vR 386,vB true,vI 181 0,vR 387,vN,vR 388,vR 389,vR 390,vI 708 0,vI 211 0,qS "/claim/cut.py" 709]),
(392,fT "_law_strange" 49 (qS "law_labelways_k08_labels_by_an_order" 571) 391),
(396,cQ #[qS "_law_is_order" 711,qS "_law_is_order" 712,qS "/claim/cut.py" 713,vI 217 0,vI 2 0,vI 0 0,vI 0 0,vI 3 0,vR 393,vB true,vI 181 0,vR 394,vN,vN,vN,vR 395,vI 714 0,vI 217 0,qS "/claim/cut.py" 715]),
(397,fT "_law_is_order" 50 (qS "law_labelways_k08_labels_by_an_order" 571) 396),
(403,cQ #[qS "law" 717,qS "law" 718,qS "/claim/cut.py" 719,vI 223 0,vI 1 0,vI 0 0,vI 0 0,vI 3 0,vR 398,vB true,vI 181 0,vR 399,vN,vR 400,vR 401,vR 402,vI 728 0,vI 223 0,qS "/claim/cut.py" 729]),
(404,fT "law" 51 (qS "law_labelways_k08_labels_by_an_order" 571) 403)]
def Ka:List Addr:=[2,3,23,24,25,40,41,43,44,59,60,62,63,78,79,81,82,97,98,100,101,112,113,124,125,136,137,148,149,160,161,172,173,184,185,196,197,205,206,212,213,219,220,226,227,233,234,238,239,245,246,252,253,257,258,262,263,267,268,272,273,277,278,282,283,289,290,296,297,303,304,310,311,315,316,320,321,327,328,334,335,339,340,346,347,353,354,358,359,365,366,372,373,377,378,384,385,391,392,396,397,403,404]
theorem usl1:∀{us:List Value},us.length=1->∃u0,us=[u0]
 | [u0],_=>⟨u0,rfl⟩
theorem usl2:∀{us:List Value},us.length=2->∃u0 u1,us=[u0,u1]
 | [u0,u1],_=>⟨u0,u1,rfl⟩
theorem usl3:∀{us:List Value},us.length=3->∃u0 u1 u2,us=[u0,u1,u2]
 | [u0,u1,u2],_=>⟨u0,u1,u2,rfl⟩
theorem usl4:∀{us:List Value},us.length=4->∃u0 u1 u2 u3,us=[u0,u1,u2,u3]
 | [u0,u1,u2,u3],_=>⟨u0,u1,u2,u3,rfl⟩
theorem walk {l:PySem.W.OpenLaw}{q:Program}{loose:List Str}{XP:(Str->Option Value)->Heap->Prop}{YP:World->Heap->Prop}{d:DefRec}{K:Params->PySem.W.Frag}(hn:l.most=some 63)(hdf:d.params.defaults=[])(hrec:∃dn,(PyProof.Rows.recsOf q).find? (fun e=>e.name==("nearest" : Str))=some dn)
 (hY:∀(w:World)(h:Heap),YP w h->(K w.params).In h)
 (F:∀(w:World)(mg:Str->Option Value)(fa:Addr)(h:Heap),(K w.params).In h->h.Ns mainGlobals mg->mg d.name=some (.ref fa) ->
  ∃(fd:FuncData)(c P:Addr),PySem.W.tabIn (K w.params) "nearest" = some (c,P)/\PySem.W.noTabs (K w.params)=true/\(∀(s:Shared)(u:Value),BindsTo s fd ⟨[u],[]⟩ [("_law_script",u)])/\∀base:Heap,(K w.params).In base->base.Ns mainGlobals mg->BmAt mg base->FnOk l.prog w (K w.params) mg base CX0 8 fa fd ["_law_script"] (spLaw (K w.params) P)) :
 PySem.W.WalkO q loose XP YP l.row.toRowW d [] (fun f vs=>PySem.call f vs):=
 L2.walk_T (n:=63) (k:=8) (x := "_law_script") (tn := "nearest") (CX:=CX0) (sp:=spLaw) hn (by decide) hdf ⟨rfl,by decide,by decide,rfl⟩ hrec hY F (fun _ _ _ a ns hl hP hS=>⟨a,ns,rfl,hS,hl,hP,fun _=>rfl⟩) fun _ _ _ _ z=>z
theorem fk {K:PySem.W.Frag}(x:Str)(st:Stmt)(f:Addr)(pm cd:Value)(l:K.lookup f=some ⟨.type "function",.none,.func (PySem.W.fnOf x x (defArgs st) (defBody st) (defScope st) .none .none .none pm .none cd .none),#[]⟩:=by kernel_rfl) (c:PySem.W.codeIn K cd x=true:=by kernel_rfl)(k:PySem.W.keepIn K (.ref f)=true:=by kernel_rfl):Fun K x x st f (PySem.W.fnOf x x (defArgs st) (defBody st) (defScope st) .none .none .none pm .none cd .none):=fun_mk l c k
theorem fkC {K:PySem.W.Frag}(x:Str)(st:Stmt)(f:Addr)(pm:Value)(cc:Addr)(l:K.lookup f=some ⟨.type "function",.none,.func (PySem.W.fnOf x x (defArgs st) (defBody st) (defScope st) .none .none .none pm .none (.ref cc) .none),#[]⟩:=by kernel_rfl) (c:PySem.W.codeIn K (.ref cc) x=true:=by kernel_rfl)(k:PySem.W.keepIn K (.ref f)=true:=by kernel_rfl):FunC K x x st f (PySem.W.fnOf x x (defArgs st) (defBody st) (defScope st) .none .none .none pm .none (.ref cc) .none) cc:=funC_mk l c k
abbrev pw:Program:=PySem.Challenge.pw_labelways_k08_labels_by_an_order
def V:Program:={ pw with main:={ pw.main with body:=[top 1,top 2,top 3,top 4,top 5,top 6,top 7,top 8,top 9,top 10,top 11,top 12,top 13,top 15,top 16,top 17,top 18,top 20,top 22,top 23,top 24,top 25,top 26,top 28,top 29,top 30,top 31,top 32,top 34,top 35,top 36,top 37,top 38,top 39,top 40,top 41,top 42,top 43,top 44,top 45,top 46,top 47,top 48,top 49,top 50,top 51] } }
abbrev RR:PySem.W.RowW:=PySem.W.OpenRow.toRowW (PySem.Challenge.rw_labelways_k08_labels_by_an_order).row
theorem Ke:∀P,Ka=(Kf P).map (·.1):=fun P=>by kernel_rfl
abbrev HK:PySem.W.Hook:=PySem.W.kHook Kf Ka Ke
theorem left:PySem.W.LeftO pw V [] (fun s=>PySem.W.xlAt V [] s && PySem.W.recOk (PySem.W.RowW.records RR) s) (PySem.W.Hook.obs HK) (PySem.W.Hook.val HK) 7946:=L2.left_of (by kernel_rfl) (by decide) (fun _=>rfl) fun w os=>by kernel_rfl
def dL:DefRec:={ name := "law",params:=defArgs sLaw,body:=defBody sLaw,scope:=defScope sLaw,pos:=⟨223,0,239,15⟩ }
theorem facts (w:World)(mg:Str->Option Value)(fa:Addr)(h:Heap)(KX:(Kf w.params).In h)(G:h.Ns mainGlobals mg)(hmg:mg "law" = some (.ref fa)):∃(fd:FuncData)(c P:Addr),PySem.W.tabIn (Kf w.params) "nearest" = some (c,P)/\PySem.W.noTabs (Kf w.params)=true/\(∀(s:Shared)(u:Value),BindsTo s fd ⟨[u],[]⟩ [("_law_script",u)])/\∀base:Heap,(Kf w.params).In base->base.Ns mainGlobals mg->BmAt mg base->FnOk (PySem.Challenge.rw_labelways_k08_labels_by_an_order).prog w (Kf w.params) mg base CX0 8 fa fd ["_law_script"] (spLaw (Kf w.params) P):=by
 have mk:∀(x:Str)(f:Addr),PySem.W.nsIn (Kf w.params) mainGlobals x=some (some (.ref f))->mg x=some (.ref f):=fun x f e=>PySem.W.mg_of KX G e
 have mn:∀x:Str,PySem.W.nsIn (Kf w.params) mainGlobals x=some none->mg x=none:=fun x e=>PySem.W.mg_none_of KX G e
 have FTa:=fk (K:=Kf w.params) "_law_tape" sTape 297 (qS "law_labelways_k08_labels_by_an_order" 571) (vR 296)
 have bTa:=FTa.binds (ps:=["_law_script"]) fun _ _ _ _ _ _ us hl=>by obtain⟨u0,rfl⟩:=usl1 hl;rfl
 have mTa:=mk "_law_tape" 297 (by kernel_rfl)
 have FD:=fk (K:=Kf w.params) "_law_draw" sDraw 304 (qS "law_labelways_k08_labels_by_an_order" 571) (vR 303)
 have bD:=FD.binds (ps:=["_law_tape_here", "_law_many"]) fun _ _ _ _ _ _ us hl=>by obtain⟨u0,u1,rfl⟩:=usl2 hl;rfl
 have mD:=mk "_law_draw" 304 (by kernel_rfl)
 have FN:=fk (K:=Kf w.params) "_law_n" sN 311 (qS "law_labelways_k08_labels_by_an_order" 571) (vR 310)
 have bN:=FN.binds (ps:=["_law_tape_here"]) fun _ _ _ _ _ _ us hl=>by obtain⟨u0,rfl⟩:=usl1 hl;rfl
 have mN:=mk "_law_n" 311 (by kernel_rfl)
 have FW:=fk (K:=Kf w.params) "_law_web" sWeb 316 (qS "law_labelways_k08_labels_by_an_order" 571) (vR 315)
 have bW:=FW.binds (ps:=["_law_tape_here", "_law_n_here"]) fun _ _ _ _ _ _ us hl=>by obtain⟨u0,u1,rfl⟩:=usl2 hl;rfl
 have mW:=mk "_law_web" 316 (by kernel_rfl)
 have FT:=fk (K:=Kf w.params) "ties_at" sTies 234 (qS "labelways.webs" 477) (vR 233)
 have bT:=FT.binds (ps:=["web", "place"]) fun _ _ _ _ _ _ us hl=>by obtain⟨u0,u1,rfl⟩:=usl2 hl;rfl
 have mT:=mk "ties_at" 234 (by kernel_rfl)
 have FNe:=fkC (K:=Kf w.params) "nearest" sNear 253 (qS "labelways.lengths" 491) 252
 have bNe:=FNe.fn.binds (ps:=["waiting"]) fun _ _ _ _ _ _ us hl=>by obtain⟨u0,rfl⟩:=usl1 hl;rfl
 have mNe:=mk "nearest" 253 (by kernel_rfl)
 have FF:=fk (K:=Kf w.params) "lengths_from" sFrom 246 (qS "labelways.lengths" 491) (vR 245)
 have bF:=FF.binds (ps:=["web", "start"]) fun _ _ _ _ _ _ us hl=>by obtain⟨u0,u1,rfl⟩:=usl2 hl;rfl
 have mF:=mk "lengths_from" 246 (by kernel_rfl)
 have FLe:=fk (K:=Kf w.params) "lengths" sLens 239 (qS "labelways.lengths" 491) (vR 238)
 have bLe:=FLe.binds (ps:=["web"]) fun _ _ _ _ _ _ us hl=>by obtain⟨u0,rfl⟩:=usl1 hl;rfl
 have mLe:=mk "lengths" 239 (by kernel_rfl)
 have FBw:=fk (K:=Kf w.params) "between_rows" sBwr 258 (qS "labelways.lengths" 491) (vR 257)
 have bBw:=FBw.binds (ps:=["here", "there", "other"]) fun _ _ _ _ _ _ us hl=>by obtain⟨u0,u1,u2,rfl⟩:=usl3 hl;rfl
 have mBw:=mk "between_rows" 258 (by kernel_rfl)
 have FNb:=fk (K:=Kf w.params) "next_by_row" sNbr 263 (qS "labelways.lengths" 491) (vR 262)
 have bNb:=FNb.binds (ps:=["web", "one", "there"]) fun _ _ _ _ _ _ us hl=>by obtain⟨u0,u1,u2,rfl⟩:=usl3 hl;rfl
 have mNb:=mk "next_by_row" 263 (by kernel_rfl)
 have FNu:=fk (K:=Kf w.params) "is_number" sNum 206 (qS "labelways.kinds" 443) (vR 205)
 have bNu:=FNu.binds (ps:=["thing"]) fun _ _ _ _ _ _ us hl=>by obtain⟨u0,rfl⟩:=usl1 hl;rfl
 have mNu:=mk "is_number" 206 (by kernel_rfl)
 have FWi:=fk (K:=Kf w.params) "is_within" sWi 213 (qS "labelways.kinds" 443) (vR 212)
 have bWi:=FWi.binds (ps:=["thing", "least", "most"]) fun _ _ _ _ _ _ us hl=>by obtain⟨u0,u1,u2,rfl⟩:=usl3 hl;rfl
 have mWi:=mk "is_within" 213 (by kernel_rfl)
 have FTo:=fk (K:=Kf w.params) "is_tuple_of" sTof 220 (qS "labelways.kinds" 443) (vR 219)
 have bTo:=FTo.binds (ps:=["thing", "count"]) fun _ _ _ _ _ _ us hl=>by obtain⟨u0,u1,rfl⟩:=usl2 hl;rfl
 have mTo:=mk "is_tuple_of" 220 (by kernel_rfl)
 have FPl:=fk (K:=Kf w.params) "is_place" sPl 227 (qS "labelways.kinds" 443) (vR 226)
 have bPl:=FPl.binds (ps:=["n", "thing"]) fun _ _ _ _ _ _ us hl=>by obtain⟨u0,u1,rfl⟩:=usl2 hl;rfl
 have mPl:=mk "is_place" 227 (by kernel_rfl)
 have FIo:=fk (K:=Kf w.params) "is_order" sOrd 268 (qS "labelways.orders" 533) (vR 267)
 have bIo:=FIo.binds (ps:=["web", "thing"]) fun _ _ _ _ _ _ us hl=>by obtain⟨u0,u1,rfl⟩:=usl2 hl;rfl
 have mIo:=mk "is_order" 268 (by kernel_rfl)
 have FBy:=fk (K:=Kf w.params) "by_order" sByo 273 (qS "labelways.orders" 533) (vR 272)
 have bBy:=FBy.binds (ps:=["web", "order"]) fun _ _ _ _ _ _ us hl=>by obtain⟨u0,u1,rfl⟩:=usl2 hl;rfl
 have mBy:=mk "by_order" 273 (by kernel_rfl)
 have FLb:=fk (K:=Kf w.params) "label_by_ranks" sLbr 278 (qS "labelways.orders" 533) (vR 277)
 have bLb:=FLb.binds (ps:=["web", "rows", "ranks", "place"]) fun _ _ _ _ _ _ us hl=>by obtain⟨u0,u1,u2,u3,rfl⟩:=usl4 hl;rfl
 have mLb:=mk "label_by_ranks" 278 (by kernel_rfl)
 have FIh:=fk (K:=Kf w.params) "is_hub" sIsh 283 (qS "labelways.orders" 533) (vR 282)
 have bIh:=FIh.binds (ps:=["rows", "ranks", "hub", "place"]) fun _ _ _ _ _ _ us hl=>by obtain⟨u0,u1,u2,u3,rfl⟩:=usl4 hl;rfl
 have mIh:=mk "is_hub" 283 (by kernel_rfl)
 have FEb:=fk (K:=Kf w.params) "entry_by_rows" sEbr 290 (qS "labelways.orders" 533) (vR 289)
 have bEb:=FEb.binds (ps:=["web", "rows", "place", "hub"]) fun _ _ _ _ _ _ us hl=>by obtain⟨u0,u1,u2,u3,rfl⟩:=usl4 hl;rfl
 have mEb:=mk "entry_by_rows" 290 (by kernel_rfl)
 have FA:=fk (K:=Kf w.params) "_law_added" sAdd 328 (qS "law_labelways_k08_labels_by_an_order" 571) (vR 327)
 have bA:=FA.binds (ps:=["_law_one", "_law_other"]) fun _ _ _ _ _ _ us hl=>by obtain⟨u0,u1,rfl⟩:=usl2 hl;rfl
 have mA:=mk "_law_added" 328 (by kernel_rfl)
 have FLs:=fk (K:=Kf w.params) "_law_lesser" sLes 335 (qS "law_labelways_k08_labels_by_an_order" 571) (vR 334)
 have bLs:=FLs.binds (ps:=["_law_one", "_law_other"]) fun _ _ _ _ _ _ us hl=>by obtain⟨u0,u1,rfl⟩:=usl2 hl;rfl
 have mLs:=mk "_law_lesser" 335 (by kernel_rfl)
 have FFr:=fk (K:=Kf w.params) "_law_far" sFar 340 (qS "law_labelways_k08_labels_by_an_order" 571) (vR 339)
 have bFr:=FFr.binds (ps:=["_law_web_here"]) fun _ _ _ _ _ _ us hl=>by obtain⟨u0,rfl⟩:=usl1 hl;rfl
 have mFr:=mk "_law_far" 340 (by kernel_rfl)
 have FOn:=fk (K:=Kf w.params) "_law_on" sOn 347 (qS "law_labelways_k08_labels_by_an_order" 571) (vR 346)
 have bOn:=FOn.binds (ps:=["_law_far_here", "_law_place", "_law_one", "_law_other"]) fun _ _ _ _ _ _ us hl=>by obtain⟨u0,u1,u2,u3,rfl⟩:=usl4 hl;rfl
 have mOn:=mk "_law_on" 347 (by kernel_rfl)
 have FJ:=fk (K:=Kf w.params) "_law_joined" sJoi 354 (qS "law_labelways_k08_labels_by_an_order" 571) (vR 353)
 have bJ:=FJ.binds (ps:=["_law_web_here"]) fun _ _ _ _ _ _ us hl=>by obtain⟨u0,rfl⟩:=usl1 hl;rfl
 have mJ:=mk "_law_joined" 354 (by kernel_rfl)
 have FNs:=fk (K:=Kf w.params) "_law_nexts" sNxs 359 (qS "law_labelways_k08_labels_by_an_order" 571) (vR 358)
 have bNs:=FNs.binds (ps:=["_law_web_here", "_law_far_here", "_law_one", "_law_other"]) fun _ _ _ _ _ _ us hl=>by obtain⟨u0,u1,u2,u3,rfl⟩:=usl4 hl;rfl
 have mNs:=mk "_law_nexts" 359 (by kernel_rfl)
 have FOr:=fk (K:=Kf w.params) "_law_order" sOrder 366 (qS "law_labelways_k08_labels_by_an_order" 571) (vR 365)
 have bOr:=FOr.binds (ps:=["_law_tape_here", "_law_n_here"]) fun _ _ _ _ _ _ us hl=>by obtain⟨u0,u1,rfl⟩:=usl2 hl;rfl
 have mOr:=mk "_law_order" 366 (by kernel_rfl)
 have FRw:=fk (K:=Kf w.params) "_law_row_web" sRow 321 (qS "law_labelways_k08_labels_by_an_order" 571) (vR 320)
 have bRw:=FRw.binds (ps:=["_law_tape_here"]) fun _ _ _ _ _ _ us hl=>by obtain⟨u0,rfl⟩:=usl1 hl;rfl
 have mRw:=mk "_law_row_web" 321 (by kernel_rfl)
 have FEn:=fk (K:=Kf w.params) "_law_entry" sEnt8 373 (qS "law_labelways_k08_labels_by_an_order" 571) (vR 372)
 have bEn:=FEn.binds (ps:=["_law_web_here", "_law_far_here", "_law_place", "_law_hub"]) fun _ _ _ _ _ _ us hl=>by obtain⟨u0,u1,u2,u3,rfl⟩:=usl4 hl;rfl
 have mEn:=mk "_law_entry" 373 (by kernel_rfl)
 have FLa:=fk (K:=Kf w.params) "_law_labels" sLabs8 378 (qS "law_labelways_k08_labels_by_an_order" 571) (vR 377)
 have bLa:=FLa.binds (ps:=["_law_web_here", "_law_order_here"]) fun _ _ _ _ _ _ us hl=>by obtain⟨u0,u1,rfl⟩:=usl2 hl;rfl
 have mLa:=mk "_law_labels" 378 (by kernel_rfl)
 have FWo:=fk (K:=Kf w.params) "_law_word" sWord 385 (qS "law_labelways_k08_labels_by_an_order" 571) (vR 384)
 have bWo:=FWo.binds (ps:=["_law_web_here", "_law_thing"]) fun _ _ _ _ _ _ us hl=>by obtain⟨u0,u1,rfl⟩:=usl2 hl;rfl
 have mWo:=mk "_law_word" 385 (by kernel_rfl)
 have FSr:=fk (K:=Kf w.params) "_law_strange" sStr 392 (qS "law_labelways_k08_labels_by_an_order" 571) (vR 391)
 have bSr:=FSr.binds (ps:=["_law_tape_here", "_law_n_here", "_law_order_here"]) fun _ _ _ _ _ _ us hl=>by obtain⟨u0,u1,u2,rfl⟩:=usl3 hl;rfl
 have mSr:=mk "_law_strange" 392 (by kernel_rfl)
 have FIs:=fk (K:=Kf w.params) "_law_is_order" sIso 397 (qS "law_labelways_k08_labels_by_an_order" 571) (vR 396)
 have bIs:=FIs.binds (ps:=["_law_n_here", "_law_thing"]) fun _ _ _ _ _ _ us hl=>by obtain⟨u0,u1,rfl⟩:=usl2 hl;rfl
 have mIs:=mk "_law_is_order" 397 (by kernel_rfl)
 have FZ:=fk (K:=Kf w.params) "law" sLaw 404 (qS "law_labelways_k08_labels_by_an_order" 571) (vR 403)
 have mb0:=mn "len" (by kernel_rfl)
 have mb1:=mn "range" (by kernel_rfl)
 have mb2:=mn "tuple" (by kernel_rfl)
 have mb3:=mn "sorted" (by kernel_rfl)
 have mb4:=mn "min" (by kernel_rfl)
 have mb5:=mn "list" (by kernel_rfl)
 have mb6:=mn "isinstance" (by kernel_rfl)
 have mb7:=mn "int" (by kernel_rfl)
 have mb8:=mn "bool" (by kernel_rfl)
 have mb9:=mn "all" (by kernel_rfl)
 have mb10:=mn "set" (by kernel_rfl)
 have mb11:=mn "repr" (by kernel_rfl)
 have mb12:=mn "ValueError" (by kernel_rfl)
 have e:=hmg.symm.trans (mk "law" 404 (by kernel_rfl))
 cases e
 have ER:Errs (Kf w.params) mg 24 113 [44,63,173,82,149,137] [185,101,161,125,197]:=⟨(mk "WayError" 24 (by kernel_rfl)),(mk "NoOrder" 113 (by kernel_rfl)),by kernel_rfl,by kernel_rfl,by kernel_rfl,⟨by kernel_rfl,by kernel_rfl,by kernel_rfl,by kernel_rfl,by kernel_rfl,by kernel_rfl⟩,by rw[mk "NoLabels" 44 (by kernel_rfl),mk "NoLeast" 63 (by kernel_rfl),mk "NoPart" 173 (by kernel_rfl),mk "NoPlan" 82 (by kernel_rfl),mk "NoPosts" 149 (by kernel_rfl),mk "NoRing" 137 (by kernel_rfl)];rfl,by rw[mk "NoRow" 185 (by kernel_rfl),mk "NoText" 101 (by kernel_rfl),mk "NoTie" 161 (by kernel_rfl),mk "NoTree" 125 (by kernel_rfl),mk "TooMany" 197 (by kernel_rfl)];rfl,by kernel_rfl,by kernel_rfl,by kernel_rfl,by kernel_rfl⟩
 exact⟨_,252,248,by kernel_rfl,by kernel_rfl,fun s v=>.of_eq rfl,fun base hb _ hbm=>ok_law FZ (PySem.W.codeHd_of_K hb (show PySem.W.codeHdIn (Kf w.params) 252 248=true by kernel_rfl)) hbm ER FTa bTa mTa FD bD mD FN bN mN FW bW mW FT bT mT FNe bNe mNe FF bF mF FLe bLe mLe FBw bBw mBw FNb bNb mNb FNu bNu mNu FWi bWi mWi FTo bTo mTo FPl bPl mPl FIo bIo mIo FBy bBy mBy FLb bLb mLb FIh bIh mIh FEb bEb mEb FA bA mA FLs bLs mLs FFr bFr mFr FOn bOn mOn FJ bJ mJ FNs bNs mNs FOr bOr mOr FRw bRw mRw FEn bEn mEn FLa bLa mLa FWo bWo mWo FSr bSr mSr FIs bIs mIs mb0 mb1 mb2 mb3 mb4 mb5 mb6 mb7 mb8 mb9 mb10 mb11 mb12⟩
end K08
open PySem PySem.W PyProof.Rows
set_option maxRecDepth 100000 in
set_option maxHeartbeats 0 in
theorem PySem.Challenge.cw_labelways_k08_labels_by_an_order_holds : PySem.Challenge.rw_labelways_k08_labels_by_an_order.Holds := by
 refine holds_law (by decide +kernel) fun said=>?_
 refine holds_open (q:=K08.V) (loose:=[]) (Xt:=fun s=>xlAt K08.V [] s && recOk (RowW.records K08.RR) s) (XP:=XL K08.V []) (Yf:=Hook.obs K08.HK) (Ya:=Hook.val K08.HK) (YP:=Hook.says K08.HK) (d:=K08.dL) (kwd:=[]) (N:=7946) K08.left (Hook.of K08.HK) (Hook.keeps K08.HK) (fun s e=>xl_of s (Bool.and_eq_true_iff.mp e).1) XL.keeps (by kernel_rfl) (by kernel_rfl) (by kernel_rfl) (fun s e=>recFacts_of (Bool.and_eq_true_iff.mp e).2) (by kernel_rfl) said (by decide +kernel) ⟨rfl,rfl,rfl,rfl,rfl,by decide +kernel⟩ ?hw ?hc
 case hw=>w_witness2
 case hc=>
  exact K08.walk (l:=PySem.Challenge.rw_labelways_k08_labels_by_an_order) (K:=K08.Kf) rfl rfl ⟨((PyProof.Rows.recsOf K08.V).find? (fun e=>e.name==("nearest" : Str))).get (by decide +kernel),by simp⟩ (fun w h Y=>PySem.W.kIn_of Y) K08.facts
