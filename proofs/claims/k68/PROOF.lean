import PyProof.Rows.All
import Wide.All
import OpenK.AllK
import Wide.FinOn
import Lean
import PyProof.EqAt
import PyProof.EqKinds
import PyProof.TupleCall
import PyProof.ListRange
import PyProof.Rows.StrKeys3
import PyProof.ZipIter
import PyProof.FactsAll.set
import PySem.Challenge.RW_labelways_k68_whole_labels_of_a_part
set_option Elab.async false
set_option linter.all false
set_option maxRecDepth 100000
namespace L2
open PySem PySem.Spec PyProof.Rows
abbrev Key:=Sum Int Str
def keyIs:Key->Value->Bool
 | .inl k,v=>Value.isInt k v
 | .inr x,v=>Value.isStrOf x v
def keyH (w:World):Key->Int
 | .inl k=>hashInt k
 | .inr x=>hashStr w x
theorem keyIs_shape:∀{k:Key}{v:Value},keyIs k v=true->(∃i t,k=Sum.inl i/\v=Value.int i t)\/(∃x t,k=Sum.inr x/\v=Value.str x t)
 | .inl i,v,h=>by
  obtain⟨t,e⟩:=Value.isInt_shape (k:=i) (v:=v) h
  exact .inl ⟨i,t,rfl,e⟩
 | .inr x,v,h=>by
  obtain⟨t,e⟩:=Value.isStrOf_shape (x:=x) (v:=v) h
  exact .inr ⟨x,t,rfl,e⟩
theorem keyIs_int (i:Int)(t:Tok):keyIs (.inl i) (.int i t)=true:=by simp[keyIs,Value.isInt]
theorem keyIs_str (x:Str)(t:Tok):keyIs (.inr x) (.str x t)=true:=by simp[keyIs,Value.isStrOf]
theorem key_ll (a b:Int):decide ((Sum.inl a:Key)=Sum.inl b)=(a==b):=by
 by_cases e:a=b
 . subst e;simp
 . have h:¬ (Sum.inl a:Key)=Sum.inl b:=fun q=>e (Sum.inl.inj q)
   rw[decide_eq_false h]
   exact (beq_eq_false_iff_ne.mpr e).symm
theorem key_rr (a b:Str):decide ((Sum.inr a:Key)=Sum.inr b)=decide (a=b):=by
 by_cases e:a=b
 . subst e;simp
 . have h:¬ (Sum.inr a:Key)=Sum.inr b:=fun q=>e (Sum.inr.inj q)
   rw[decide_eq_false h,decide_eq_false e]
theorem key_lr (a:Int)(b:Str):decide ((Sum.inl a:Key)=Sum.inr b)=false:=decide_eq_false (fun q=>nomatch q)
theorem key_rl (a:Str)(b:Int):decide ((Sum.inr a:Key)=Sum.inl b)=false:=decide_eq_false (fun q=>nomatch q)
def mixKind (prog:Program)(w:World):PySem.KeyKind prog w Key where
 is:=keyIs
 hash:=keyH w
 inj:=fun v a b ha hb=>by
  rcases keyIs_shape ha with ⟨i,t,rfl,rfl⟩ | ⟨x,t,rfl,rfl⟩
  . rcases keyIs_shape hb with ⟨j,u,rfl,e⟩ | ⟨y,u,rfl,e⟩
    . injection e with e1 _;rw[e1]
    . exact nomatch e
  . rcases keyIs_shape hb with ⟨j,u,rfl,e⟩ | ⟨y,u,rfl,e⟩
    . exact nomatch e
    . injection e with e1 _;rw[e1]
 byValue:=fun k v h=>by
  rcases keyIs_shape h with ⟨i,t,rfl,rfl⟩ | ⟨x,t,rfl,rfl⟩ <;> rfl
 pyHash:=fun hv h=>by
  rcases keyIs_shape hv with ⟨i,t,rfl,rfl⟩ | ⟨x,t,rfl,rfl⟩
  . exact wpAny_pyHash_int h
  . exact wpAny_pyHash_str h
 eqBool:=fun hu hv h=>by
  rcases keyIs_shape hu with ⟨i,t,rfl,rfl⟩ | ⟨x,t,rfl,rfl⟩
  . rcases keyIs_shape hv with ⟨j,u,rfl,rfl⟩ | ⟨y,u,rfl,rfl⟩
    . rw[key_ll] at h;exact wpAny_eqBool_int h
    . rw[key_lr] at h;exact SeqAt.EqAt.int_str i t y u _ _ _ _ h
  . rcases keyIs_shape hv with ⟨j,u,rfl,rfl⟩ | ⟨y,u,rfl,rfl⟩
    . rw[key_rl] at h;exact SeqAt.EqAt.str_int x t j u _ _ _ _ h
    . rw[key_rr] at h;exact wpAny_eqBool_str h
 «strs» := fun k x t v h=>by
  rcases keyIs_shape h with ⟨i,u,rfl,e⟩ | ⟨y,u,rfl,e⟩
  . exact nomatch e
  . injection e with e1 _
    subst e1
    cases v <;> rfl
theorem mixKind_int (prog:Program)(w:World)(i:Int)(t:Tok):(mixKind prog w).is (.inl i) (.int i t)=true:=keyIs_int i t
theorem mixKind_str (prog:Program)(w:World)(x:Str)(t:Tok):(mixKind prog w).is (.inr x) (.str x t)=true:=keyIs_str x t
end L2
namespace L2
open PySem PySem.Spec PyProof.Rows
inductive V where
 | non | bl (b:Bool) | int (i:Int) | str (x:Str) | byt (b:Array UInt8) | flt (b:UInt64) | ref (a:Addr) | ty (n:String)
 deriving DecidableEq
def RelV:V->Value->Prop
 | .non,u=>u=Value.none
 | .bl b,u=>u=Value.bool b
 | .int i,u=>∃t,u=Value.int i t
 | .str x,u=>∃t,u=Value.str x t
 | .byt b,u=>∃t,u=Value.bytes b t
 | .flt b,u=>∃t,u=Value.float b t
 | .ref a,u=>u=Value.ref a
 | .ty n,u=>u=Value.type n
abbrev Vals:List V->List Value->Prop:=Paired RelV
theorem Vals.length {xs:List V}{us:List Value}(r:Vals xs us):xs.length=us.length:=Paired.length r
theorem Vals.get:∀{xs:List V}{us:List Value}{i:Nat}{x:V},Vals xs us->xs[i]? = some x->∃u,us[i]? = some u/\RelV x u
 | _,_,_,_,.nil,e=>by simp at e
 | _,_,0,_,.cons r _,e=>by simp at e;subst e;exact⟨_,rfl,r⟩
 | _,_,i+1,x,.cons _ t,e=>by
  obtain⟨u,h1,h2⟩:=Vals.get (i:=i) (x:=x) t (by simpa using e)
  exact⟨u,by simpa using h1,h2⟩
theorem Vals.set {x:V}{u:Value}(r:RelV x u):∀{xs:List V}{us:List Value}(i:Nat),Vals xs us->Vals (xs.set i x) (us.set i u)
 | _,_,_,.nil=>.nil
 | _,_,0,.cons _ t=>.cons r t
 | _,_,i+1,.cons q t=>.cons q (Vals.set r i t)
theorem Vals.append:∀{xs ys:List V}{us ws:List Value},Vals xs us->Vals ys ws->Vals (xs++ys) (us++ws)
 | _,_,_,_,.nil,s=>s
 | _,_,_,_,.cons r t,s=>.cons r (Vals.append t s)
theorem Vals.take:∀{xs:List V}{us:List Value}(n:Nat),Vals xs us->Vals (xs.take n) (us.take n)
 | _,_,0,_=>.nil
 | _,_,_+1,.nil=>.nil
 | _,_,n+1,.cons r t=>.cons r (Vals.take n t)
theorem Vals.drop:∀{xs:List V}{us:List Value}(n:Nat),Vals xs us->Vals (xs.drop n) (us.drop n)
 | _,_,0,r=>r
 | _,_,_+1,.nil=>.nil
 | _,_,n+1,.cons _ t=>Vals.drop n t
def RelO:Option V->Option Value->Prop
 | some v,some u=>RelV v u
 | none,none=>True
 | _,_=>False
def KV {κ:Type}:List (κ×V)->List (κ×Value)->Prop:=Paired fun (p:κ×V)(q:κ×Value)=>p.1=q.1/\RelV p.2 q.2
def kV:Key->V
 | .inl i=>.int i
 | .inr x=>.str x
inductive HO where
 /-- a list -/
 | lst (xs:List V)
 /-- a tuple (never changes) -/
 | tup (xs:List V)
 /-- a dict whose keys are ints and texts;one whose keys are tuples of ints and texts (the empty one is both) -/
 | dK (kvs:List (Key×V)) | dT (kvs:List (List Key×V))
 /-- a set of ints: its members,its size -/
 | set (S:Int->Bool)(n:Nat)
 /-- an instance of the class at C,its dict at dx,its attributes -/
 | ins (C dx:Addr)(fs:List (Str×V))
 /-- the dict of the instance at x -/
 | own (x:Addr)
 /-- the dict of an exception -/
 | xd (fs:List (Str×V))
 /-- a bound method,f of x -/
 | met (f x:Addr)
 /-- a range object lo,lo+1,.. below hi -/
 | rng (lo hi:Int)
 /-- a thing that is known to the object (the script;a dict while a loop walks it): read,never written while it is so -/
 | frz (o:Obj)(u:HO)
 /-- a code object's table -/
 | tbl (ps:Array Value)
 /-- any other thing,by what is true of its one object (a def of one's own: SetO a S n:=HO.ext fun h=>..) -/
 | ext (φ:Heap->Prop)
abbrev Hp:=Addr->Option HO
def upd (H:Hp)(a:Addr)(o:HO):Hp:=fun b=>if b=a then some o else H b
theorem upd_same {H:Hp}{a:Addr}{o:HO}:upd H a o a=some o:=by unfold upd;rw[if_pos rfl]
theorem upd_ne {H:Hp}{a b:Addr}{o:HO}(h:b≠a):upd H a o b=H b:=by unfold upd;rw[if_neg h]
theorem upd_upd {H:Hp}{a:Addr}{o u:HO}:upd (upd H a o) a u=upd H a u:=by
 funext b;unfold upd;split <;> rfl
theorem ne_of {H:Hp}{a b:Addr}{o u:HO}(h:H a=some o)(h':H b=some u)(d:o≠u):a≠b:=by
 intro e;subst e;rw[h] at h';exact d (Option.some.inj h')
theorem ne_of_none {H:Hp}{a b:Addr}{o:HO}(h:H a=some o)(h':H b=none):a≠b:=by
 intro e;subst e;rw[h] at h';cases h'
section
variable (P:Program)(w:World)
def ObjOk (H:Hp)(h:Heap)(a:Addr):HO->Prop
 | .lst xs=>xs.length<=sizeLine/\∃(its:List Value)(n:Nat),Vals xs its/\h.get? a=some { cls:=.type "list",data:=.seq its.toArray n }
 | .tup xs=>(xs.length<=sizeLine/\∃o,h.get? a=some o/\o.dict=none)/\∃its:List Value,Vals xs its/\IsTup h a its.toArray
 | .dK kvs=>kvs.length<=sizeLine/\(a==sysModules)=false/\∃vs,KV kvs vs/\h.DictOf (mixKind P w) a vs
 | .dT kvs=>kvs.length<=sizeLine/\(a==sysModules)=false/\∃xs:List (List Key×Addr×Value),
  Paired (fun (p:List Key×V)(q:List Key×Addr×Value)=>p.1=q.1/\H q.2.1=some (.tup (p.1.map kV))/\RelV p.2 q.2.2) kvs xs /\
  ∃o es ep,h.get? a=some o/\o.ExactDict/\o.data = .dict es ep/\es.toList=xs.map (entryOfKey (tupleKind (mixKind P w)))/\(xs.map (·.1)).Nodup
 | .set S n=>h.SetOf (intKind P w) a S n
 | .ins C dx fs=>H dx=some (.own a)/\fs.length<=1000/\dx≠a/\h.get? a=some (PySem.W.instObj C dx) /\
  ∃mA,h.Ns1 dx mA/\(∀f,RelO (fs.lookup f) (mA f))/\PySem.Within mA (fs.map (·.1))
 | .own _=>∃o,h.get? a=some o
 | .xd fs=>∃mA,h.Ns1 a mA/\∀f,RelO (fs.lookup f) (mA f)
 | .rng lo hi=>∃t u v,h.get? a=some { cls:=.type "range",data:=.fields #[.int lo t,.int hi u,.int 1 v] }
 | .frz o u=>h.get? a=some o/\ObjOk H h a u
 | .tbl ps=>h.get? a=some { cls:=.none,data:=.fields ps }
 | .met f x=>h.get? a=some (PySem.W.methodObj (.ref f) (.ref x))
 | .ext φ=>φ h/\(∃o,h.get? a=some o)/\∀h1 h2:Heap,φ h1->(∀o,h1.get? a=some o->h2.get? a=some o)->φ h2
def HOk (H:Hp)(h:Heap):Prop:=∀a o,H a=some o->ObjOk P w H h a o
end
section
variable {P:Program}{w:World}{H H':Hp}{h h':Heap}{a:Addr}{o:HO}
theorem ObjOk.lt (x:ObjOk P w H h a o):a<h.objs.size:=by
 cases o with
 | lst xs=>obtain⟨_,_,_,_,e⟩:=x;exact Heap.lt_size e
 | tup xs=>obtain⟨_,_,_,p⟩:=x;exact p.lt
 | dK kvs=>obtain⟨_,_,_,_,o,_,_,e,_⟩:=x;exact Heap.lt_size e
 | dT kvs=>obtain⟨_,_,_,_,o,_,_,e,_⟩:=x;exact Heap.lt_size e
 | set S n=>obtain⟨o,_,_,_,e,_⟩:=x;exact Heap.lt_size e
 | ins C dx fs=>obtain⟨_,_,_,e,_⟩:=x;exact Heap.lt_size e
 | own y=>obtain⟨_,e⟩:=x;exact Heap.lt_size e
 | xd fs=>obtain⟨_,⟨_,_,_,e,_⟩,_⟩:=x;exact Heap.lt_size e
 | rng lo hi=>obtain⟨_,_,_,e⟩:=x;exact Heap.lt_size e
 | frz ob u=>obtain⟨e,_⟩:=x;exact Heap.lt_size e
 | tbl ps=>exact Heap.lt_size (show h.get? a=some _ from x)
 | met f y=>exact Heap.lt_size (show h.get? a=some _ from x)
 | ext φ=>obtain⟨_,⟨_,e⟩,_⟩:=x;exact Heap.lt_size e
theorem Paired.mapP {α β:Type}{F G:α->β->Prop}:∀{l₁:List α}{l₂:List β},Paired F l₁ l₂->(∀a b,F a b->G a b)->Paired G l₁ l₂
 | _,_,.nil,_=>.nil
 | _,_,.cons r t,f=>.cons (f _ _ r) (Paired.mapP t f)
theorem ObjOk.stay (x:ObjOk P w H h a o)(k:∀b u,(b=a\/H b=some (.own a))->h.get? b=some u->h'.get? b=some u)
 (ho:∀b,H b=some (.own a)->H' b=some (.own a))(ht:∀b xs,H b=some (.tup xs)->H' b=some (.tup xs)):ObjOk P w H' h' a o:=by
 induction o with
 | lst xs=>obtain⟨z,its,n,r,e⟩:=x;exact⟨z,its,n,r,k _ _ (.inl rfl) e⟩
 | tup xs=>obtain⟨⟨z,o2,e2,d2⟩,its,r,ob,e,c⟩:=x;exact⟨⟨z,o2,k _ _ (.inl rfl) e2,d2⟩,its,r,ob,k _ _ (.inl rfl) e,c⟩
 | dK kvs=>obtain⟨z,y,vs,r,ob,es,ep,e,c⟩:=x;exact⟨z,y,vs,r,ob,es,ep,k _ _ (.inl rfl) e,c⟩
 | dT kvs=>
  obtain⟨z,y,xs,r,ob,es,ep,e,c⟩:=x
  exact⟨z,y,xs,Paired.mapP r fun p q z=>⟨z.1,ht _ _ z.2.1,z.2.2⟩,ob,es,ep,k _ _ (.inl rfl) e,c⟩
 | set S n=>obtain⟨ob,es,ep,t,e,c⟩:=x;exact⟨ob,es,ep,t,k _ _ (.inl rfl) e,c⟩
 | ins C dx fs=>
  obtain⟨d,z,ne,e,mA,⟨od,es,ep,e2,c⟩,r⟩:=x
  exact⟨ho _ d,z,ne,k _ _ (.inl rfl) e,mA,⟨od,es,ep,k _ _ (.inr d) e2,c⟩,r⟩
 | own y=>obtain⟨ob,e⟩:=x;exact⟨ob,k _ _ (.inl rfl) e⟩
 | xd fs=>obtain⟨mA,⟨od,es,ep,e,c⟩,r⟩:=x;exact⟨mA,⟨od,es,ep,k _ _ (.inl rfl) e,c⟩,r⟩
 | rng lo hi=>obtain⟨t,u,v,e⟩:=x;exact⟨t,u,v,k _ _ (.inl rfl) e⟩
 | frz ob u ih=>obtain⟨e,q⟩:=x;exact⟨k _ _ (.inl rfl) e,ih q⟩
 | tbl ps=>
  have e:h.get? a=some { cls:=.none,data:=.fields ps }:=x
  show h'.get? a=some { cls:=.none,data:=.fields ps }
  exact k a _ (.inl rfl) e
 | met f y=>
  have e:h.get? a=some (PySem.W.methodObj (.ref f) (.ref y)):=x
  show h'.get? a=some (PySem.W.methodObj (.ref f) (.ref y))
  exact k a _ (.inl rfl) e
 | ext φ=>obtain⟨p,⟨o,e⟩,st⟩:=x;exact⟨st _ _ p fun o q=>k _ _ (.inl rfl) q,⟨o,k _ _ (.inl rfl) e⟩,st⟩
theorem HOk.lt (x:HOk P w H h)(e:H a=some o):a<h.objs.size:=(x a o e).lt
theorem HOk.fresh (x:HOk P w H h)(e:h.objs.size<=a):H a=none:=by
 cases q:H a with
 | none=>rfl
 | some u=>exact absurd (Nat.lt_of_lt_of_le (x.lt q) e) (Nat.lt_irrefl _)
theorem HOk.kept (x:HOk P w H h)(k:∀b u,h.get? b=some u->h'.get? b=some u):HOk P w H h':=fun a o e=>
 (x a o e).stay (fun b u _ q=>k b u q) (fun _ q=>q) fun _ _ q=>q
theorem HOk.laid (x:HOk P w H h)(k:∀b u,h.get? b=some u->h'.get? b=some u)(hp:h.objs.size<=a)(new:ObjOk P w (upd H a o) h' a o):HOk P w (upd H a o) h':=fun b u e=>by
 have hn:=x.fresh hp
 by_cases hb:b=a
 . subst hb;rw[upd_same] at e;cases e;exact new
 . rw[upd_ne hb] at e
   exact (x b u e).stay (fun c v _ q=>k c v q) (fun c q=>by rw[upd_ne (ne_of_none q hn)];exact q) fun c xs q=>by rw[upd_ne (ne_of_none q hn)];exact q
end
def Rd (H:Hp)(a:Addr)(u:HO):Prop:=H a=some u\/∃o,H a=some (.frz o u)
theorem Rd.ok {P:Program}{w:World}{H:Hp}{h:Heap}{a:Addr}{u:HO}(r:Rd H a u)(x:HOk P w H h):ObjOk P w H h a u:=by
 rcases r with r | ⟨o,r⟩
 . exact x a u r
 . obtain⟨_,q⟩:=x a _ r
   exact q
def Mut:Option HO->Prop
 | some (.lst _)=>True
 | some (.dK _)=>True
 | some (.dT _)=>True
 | some (.set _ _)=>True
 | some (.ins _ _ _)=>True
 | some (.ext _)=>True
 | _=>False
section
variable {P:Program}{w:World}{H:Hp}{h h':Heap}{x e:Addr}{o':HO}
theorem HOk.write (ok:HOk P w H h)(mu:Mut (H x))(he:e=x\/H e=some (.own x))(k:∀b u,b≠e->h.get? b=some u->h'.get? b=some u)(heo:∃u,h'.get? e=some u)
 (new:ObjOk P w (upd H x o') h' x o'):HOk P w (upd H x o') h':=fun b u q=>by
 have nown:∀c y,H c=some (.own y)->c≠x:=fun c y r z=>by subst z;rw[r] at mu;exact mu
 have ntup:∀c xs,H c=some (.tup xs)->c≠x:=fun c xs r z=>by subst z;rw[r] at mu;exact mu
 by_cases hb:b=x
 . subst hb;rw[upd_same] at q;cases q;exact new
 . rw[upd_ne hb] at q
   by_cases hbe:b=e
   . have q':H b=some (.own x):=by
      rcases he with z | z
      . exact absurd (hbe.trans z) hb
      . rw[hbe];exact z
     rw[q] at q';cases q'
     obtain⟨v,hv⟩:=heo
     exact⟨v,by rw[hbe];exact hv⟩
   . refine (ok b u q).stay (fun c v hc r=>k c v ?_ r) (fun c r=>by rw[upd_ne (nown c b r)];exact r) fun c xs r=>by rw[upd_ne (ntup c xs r)];exact r
     rcases hc with rfl | hc
     . exact hbe
     . rintro rfl
       rcases he with z | z
       . exact nown c b hc z
       . rw[hc] at z;cases z;exact hb rfl
end
structure Un (fs ex:List Addr)(H H':Hp)(h h':Heap):Prop where
 keep:∀b o,h.get? b=some o->H b=none->b∉fs->b∉ex->h'.get? b=some o
 slot:∀b o,h.get? b=some o->H b=none->b∈fs->b∉ex->∃sl,h'.get? b=some { o with slots:=sl }
 free:∀b o,h.get? b=some o->H b=none->b∉ex->H' b=none
 there:∀b o,h.get? b=some o->b∉ex->∃o',h'.get? b=some o'
 tups:∀b xs,H b=some (.tup xs)->H' b=some (.tup xs)
 frzs:∀b o u,H b=some (.frz o u)->H' b=some (.frz o u)
 tbls:∀b ps,H b=some (.tbl ps)->∃more,H' b=some (.tbl (ps++more))
section
variable {fs fs' ex ex':List Addr}{H H1 H2:Hp}{h h1 h2 h':Heap}{a x e:Addr}{o:HO}
theorem Un.any (u:Un fs ex H H1 h h1){b:Addr}{ob:Obj}(q:h.get? b=some ob)(n:H b=none)(hx:b∉ex):∃sl,h1.get? b=some { ob with slots:=sl }:=by
 by_cases hb:b∈fs
 . exact u.slot b ob q n hb hx
 . exact⟨ob.slots,u.keep b ob q n hb hx⟩
theorem Un.kept (k:∀b u,h.get? b=some u->h'.get? b=some u):Un fs ex H H h h':=
 ⟨fun b ob q _ _ _=>k b ob q,fun b ob q _ _ _=>⟨ob.slots,k b ob q⟩,fun _ _ _ n _=>n,fun b ob q _=>⟨ob,k b ob q⟩,fun _ _ q=>q,fun _ _ _ q=>q,fun _ ps q=>⟨#[],by rw[q];simp⟩⟩
theorem Un.refl:Un fs ex H H h h:=Un.kept fun _ _ q=>q
theorem Un.laid (k:∀b u,h.get? b=some u->h'.get? b=some u)(hp:h.objs.size<=a)(hn:H a=none):Un fs ex H (upd H a o) h h' where
 keep:=fun b u q _ _ _=>k b u q
 slot:=fun b u q _ _ _=>⟨u.slots,k b u q⟩
 free:=fun b u q n _=>by rw[upd_ne (Nat.ne_of_lt (Nat.lt_of_lt_of_le (Heap.lt_size q) hp))];exact n
 there:=fun b u q _=>⟨u,k b u q⟩
 tups:=fun b xs q=>by rw[upd_ne (ne_of_none q hn)];exact q
 frzs:=fun b u xs q=>by rw[upd_ne (ne_of_none q hn)];exact q
 tbls:=fun b ps q=>⟨#[],by rw[upd_ne (ne_of_none q hn),q];simp⟩
theorem Un.write (mu:Mut (H x))(he:e=x\/H e=some (.own x))(k:∀b u,b≠e->h.get? b=some u->h'.get? b=some u)(heo:∃u,h'.get? e=some u):Un fs ex H (upd H x o) h h':=by
 have hx:∀b,H b=none->b≠x:=fun b n z=>by subst z;rw[n] at mu;exact mu
 have hb:∀b,H b=none->b≠e:=fun b n z=>by
  subst z
  rcases he with r | r
  . exact hx b n r
  . rw[n] at r;cases r
 have hm:∀b u,H b=some u->¬ Mut (some u)->b≠x:=fun b u q nm z=>by subst z;rw[q] at mu;exact nm mu
 refine⟨fun b u q n _ _=>k b u (hb b n) q,fun b u q n _ _=>⟨u.slots,k b u (hb b n) q⟩,fun b u q n _=>by rw[upd_ne (hx b n)];exact n,fun b u q _=>?_,
  fun b xs q=>by rw[upd_ne (hm b _ q fun z=>z)];exact q,fun b u xs q=>by rw[upd_ne (hm b _ q fun z=>z)];exact q,fun b ps q=>⟨#[],by rw[upd_ne (hm b _ q fun z=>z),q];simp⟩⟩
 by_cases hbe:b=e
 . subst hbe;exact heo
 . exact⟨u,k b u hbe q⟩
end
def trk (h:Heap)(H:Hp):List Addr:=(List.range h.objs.size).filter fun a=>(H a).isSome
def hidT (h:Heap)(H:Hp):Heap:=PySem.W.hideAll h (trk h H)
theorem hidT_size (h:Heap)(H:Hp):(hidT h H).objs.size=h.objs.size:=PySem.W.hideAll_size _ _
theorem hidT_get {h:Heap}{H:Hp}{b:Addr}{o:Obj}(e:h.get? b=some o)(n:H b=none):(hidT h H).get? b=some o:=
 PySem.W.hideAll_get _ e fun hm=>by
  have q:(H b).isSome=true:=(List.mem_filter.mp hm).2
  rw[n] at q;simp at q
theorem of_hidT {h:Heap}{H:Hp}{b:Addr}{o:Obj}(e:(hidT h H).get? b=some o):h.get? b=some o/\H b=none:=by
 have e':h.get? b=some o:=PySem.W.of_hideAll (trk h H) e
 refine⟨e',?_⟩
 cases q:H b with
 | none=>rfl
 | some x=>
  have hm:b∈trk h H:=List.mem_filter.mpr ⟨List.mem_range.mpr (Heap.lt_size e'),by simp[q]⟩
  have z:(hidT h H).get? b=none:=PySem.W.hideAll_none (trk h H) hm
  rw[z] at e;cases e
def allNews (g h:Heap)(L:Addr):List (Addr×Obj):=(List.range h.objs.size).filterMap fun a=>if a=L\/(g.get? a).isSome=true then none else (h.get? a).map fun o=>(a,o)
theorem mem_allNews {g h:Heap}{L a:Addr}{o:Obj}(h1:a≠L)(h2:g.get? a=none)(h3:h.get? a=some o):(a,o)∈allNews g h L:=
 List.mem_filterMap.mpr ⟨a,List.mem_range.mpr (Heap.lt_size h3),by simp[h1,h2,h3]⟩
theorem of_mem_allNews {g h:Heap}{L:Addr}{p:Addr×Obj}(hp:p∈allNews g h L):p.1≠L/\g.get? p.1=none/\h.get? p.1=some p.2:=by
 obtain⟨b,_,e⟩:=List.mem_filterMap.mp hp
 split at e
 . cases e
 . rename_i hn
   cases q:h.get? b with
   | none=>rw[q] at e;simp at e
   | some u=>
    rw[q] at e
    simp only[Option.map_some,Option.some.injEq] at e
    subst e
    refine⟨fun z=>hn (.inl z),?_,q⟩
    show g.get? b=none
    cases r:g.get? b with
    | none=>rfl
    | some v=>exact (hn (.inr (by simp[r]))).elim
theorem news_all {g h:Heap}{L:Addr}:News g L h (allNews g h L):=fun p hp=>let ⟨a,b,c⟩:=of_mem_allNews hp;⟨c,a,b⟩
end L2
namespace L2
open PySem PySem.Spec PyProof.Rows
structure Mod (K:PySem.W.Frag)(mg:Str->Option Value)(base:Heap):Prop where
 kin:K.In base
 glob:base.Ns mainGlobals mg
 blt:∃mb,base.Ns builtinsNs mb/\∀x:Str,x ≠ "__name__" -> mb x=bootBuiltins x
 nolimit:base.NoLimit
structure Cx where
 prog:Program
 w:World
 K:PySem.W.Frag
 mg:Str->Option Value
 base:Heap
 A:Around
 N:List Str
 s₀:Shared
 H₀:Hp
 env:Env
 outer:List Env
 stack:List Env
 ex:List Addr
 fn:Str->Bool
 calm:Bool
 pn:List (Addr×Obj)
 xe:Value->Shared->Prop
def frs (l:List Env):List Addr:=l.filterMap (·.frame)
abbrev Cx.fs (X:Cx):List Addr:=frs X.outer
def Vis (sc:Scope)(x:Str):Prop:=sc.names.lookup x=some .local\/sc.names.lookup x=some .cell\/sc.names.lookup x=some .free
def Loc (sc:Scope)(x:Str):Prop:=sc.names.lookup x=some .local\/sc.names.lookup x=some .cell
def Look (env:Env)(h:Heap)(m:Str->Option Value)(x:Str)(u:Value):Prop:=
 (env.kindOf x=some .local/\m x=some u)\/((env.kindOf x=some .cell\/env.kindOf x=some .free)/\∃c,env.cells.lookup x=some c/\h.IsCell c (some u))
structure Cx.Ok (X:Cx):Prop where
 mod:Mod X.K X.mg X.base
 kind:X.env.scope.kind = .function
 glob:X.env.globals=mainGlobals
 blt:X.env.builtins=builtinsNs
 above:X.s₀.heap.objs.size<=X.env.locals
 inj:∀x y c,X.env.cells.lookup x=some c->X.env.cells.lookup y=some c->x=y
 has:∀x,(X.env.kindOf x=some .cell\/X.env.kindOf x=some .free)->∃c,X.env.cells.lookup x=some c
 cab:∀x c,X.fn x=true->X.env.cells.lookup x=some c->X.s₀.heap.objs.size<=c
 hd:X.calm=true->X.A.handled=none
 frames:X.A.frames=some X.stack
 stk:X.stack=X.outer\/(X.stack=X.env::X.outer/\X.env.frame=some X.env.locals)
 exf:∀b∈X.ex,b≠X.env.locals/\∀x c,X.env.cells.lookup x=some c->c≠b
 bs:∀b o,X.base.get? b=some o->X.s₀.heap.get? b=some o/\X.H₀ b=none
 bsz:X.base.objs.size<=X.s₀.heap.objs.size
 noex:∀b o,X.base.get? b=some o->b∉X.ex
 exfs:∀b∈X.ex,b∉X.fs
 funs:X.s₀.heap.FunFrames X.base X.outer
 frf:∀b∈X.fs,X.H₀ b=none
structure Inv (X:Cx)(pins:List (Addr×Obj))(σ:List (Option V))(H:Hp)(s:Shared):Prop where
 ok:X.Ok
 os:s.os=X.s₀.os
 bare:AllBare s.gens
 base:Un X.fs X.ex X.H₀ H X.s₀.heap s.heap
 loc:∃m,s.heap.Ns X.env.locals m/\∀(i:Nat)(x:Str)(v:V),X.N[i]? = some x->σ[i]? = some (some v)->Vis X.env.scope x->∃u,RelV v u/\Look X.env s.heap m x u
 cell:∀x c,X.env.cells.lookup x=some c->∃v,s.heap.IsCell c v
 free:H X.env.locals=none
 freeC:∀x c,X.env.cells.lookup x=some c->H c=none
 pin:∀p∈X.pn++pins,s.heap.get? p.1=some p.2/\H p.1=none/\p.1≠X.env.locals/\p.1∉X.fs/\∀v,p.2.data ≠ .cell v
 hok:HOk X.prog X.w H s.heap
 len:σ.length=X.N.length
section
variable {X:Cx}{pins:List (Addr×Obj)}{σ:List (Option V)}{H H':Hp}{s:Shared}{h':Heap}
theorem Cx.Ok.nofr (ok:X.Ok){b:Addr}{o:Obj}(e:X.base.get? b=some o):b∉X.fs:=fun hb=>by
 have:=(ok.funs.mem hb).1
 rw[e] at this;cases this
theorem Inv.bs (I:Inv X pins σ H s):∀b o,X.base.get? b=some o->s.heap.get? b=some o/\H b=none:=fun b o e=>
 ⟨I.base.keep b o (I.ok.bs b o e).1 (I.ok.bs b o e).2 (I.ok.nofr e) (I.ok.noex b o e),I.base.free b o (I.ok.bs b o e).1 (I.ok.bs b o e).2 (I.ok.noex b o e)⟩
theorem Inv.bk (I:Inv X pins σ H s):∀b o,X.base.get? b=some o->s.heap.get? b=some o:=fun b o e=>(I.bs b o e).1
theorem Inv.mod (I:Inv X pins σ H s):Mod X.K X.mg X.base:=I.ok.mod
theorem Inv.kIn (I:Inv X pins σ H s):X.K.In s.heap:=I.ok.mod.kin.keeps I.bk
theorem Inv.fr (I:Inv X pins σ H s):∃m,Fr X.base X.env.locals s.heap m:=
 let ⟨m,hn,_⟩:=I.loc
 ⟨m,hn,I.bk,Nat.le_trans I.ok.bsz I.ok.above⟩
theorem Inv.lt (I:Inv X pins σ H s):X.env.locals<s.heap.objs.size:=let ⟨_,hn,_⟩:=I.loc;hn.lt
theorem Inv.sz (I:Inv X pins σ H s):X.s₀.heap.objs.size<=s.heap.objs.size:=Nat.le_trans I.ok.above (Nat.le_of_lt I.lt)
theorem Inv.nofs (I:Inv X pins σ H s){a:Addr}(h:s.heap.objs.size<=a):a∉X.fs:=fun hb=>by
 obtain⟨_,o,ho,_⟩:=I.ok.funs.mem hb
 exact absurd (Nat.lt_of_lt_of_le (Heap.lt_size ho) (Nat.le_trans I.sz h)) (Nat.lt_irrefl _)
theorem Inv.cne (I:Inv X pins σ H s):∀x c,X.env.cells.lookup x=some c->c≠X.env.locals:=fun x c e z=>by
 obtain⟨v,o,ho,hd⟩:=I.cell x c e
 obtain⟨m,⟨o',es,ep,ho',hd',_⟩,_⟩:=I.loc
 rw[z,ho'] at ho;cases ho;rw[hd'] at hd;cases hd
theorem Inv.funs (I:Inv X pins σ H s):s.heap.FunFrames X.base X.outer:=by
 have all:∀(l:List Env),(∀b∈frs l,b∈X.fs)->X.s₀.heap.FunFrames X.base l->s.heap.FunFrames X.base l:=by
  intro l
  induction l with
  | nil=>intro _ _;trivial
  | cons env r ih=>
   intro hs hl
   obtain⟨hk,⟨L,o,hf,hn,ho,hd⟩,hr⟩:=hl
   have hL:L∈X.fs:=hs L (by unfold frs;rw[List.filterMap_cons,hf];exact List.mem_cons_self)
   obtain⟨sl,e⟩:=I.base.slot L o ho (I.ok.frf L hL) hL fun z=>I.ok.exfs L z hL
   exact⟨hk,⟨L,_,hf,hn,e,hd⟩,ih (fun b hb=>hs b (by unfold frs;rw[List.filterMap_cons,hf];exact List.mem_cons_of_mem _ hb)) hr⟩
 exact all X.outer (fun _ hb=>hb) I.ok.funs
theorem Inv.stack (I:Inv X pins σ H s):s.heap.FunFrames X.base X.stack:=by
 rcases I.ok.stk with e | ⟨e,hf⟩
 . rw[e];exact I.funs
 . rw[e]
   obtain⟨m,hn,_⟩:=I.loc
   refine .cons (by rw[I.ok.kind];decide) hf hn ?_ I.funs
   exact Heap.get?_none_of_le (Nat.le_trans I.ok.bsz I.ok.above)
theorem Inv.stkSub (I:Inv X pins σ H s):∀b∈frs X.stack,b∈X.env.locals::X.fs:=fun b hb=>by
 rcases I.ok.stk with e | ⟨e,hf⟩
 . rw[e] at hb;exact List.mem_cons_of_mem _ hb
 . rw[e] at hb
   unfold frs at hb
   rw[List.filterMap_cons,hf] at hb
   exact hb
theorem Inv.stkFree (I:Inv X pins σ H s):∀b∈frs X.stack,H b=none:=fun b hb=>by
 rcases List.mem_cons.mp (I.stkSub b hb) with e | hb
 . rw[e];exact I.free
 . obtain⟨_,o,ho,_⟩:=I.ok.funs.mem hb
   exact I.base.free b o ho (I.ok.frf b hb) fun z=>I.ok.exfs b z hb
theorem Inv.step {g':Array GenState}{t':Nat}{d':Drawn}{ch:List Addr}(I:Inv X pins σ H s)
 (hch:∀b∈ch,(b∈X.ex\/X.s₀.heap.objs.size<=b)/\b≠X.env.locals/\(∀x c,X.env.cells.lookup x=some c->c≠b)/\∀p∈X.pn++pins,p.1≠b)
 (keep:∀b o,b≠X.env.locals->b∉X.fs->b∉ch->s.heap.get? b=some o->H b=none->h'.get? b=some o)
 (slot:∀b o,b≠X.env.locals->b∈X.fs->b∉ch->s.heap.get? b=some o->H b=none->∃sl,h'.get? b=some { o with slots:=sl })(free:∀b o,b∉ch->s.heap.get? b=some o->H b=none->H' b=none)
 (there:∀b o,b∉ch->s.heap.get? b=some o->∃o',h'.get? b=some o')
 (tups:∀b xs,H b=some (.tup xs)->H' b=some (.tup xs))(frzs:∀b o u,H b=some (.frz o u)->H' b=some (.frz o u))(tbls:∀b ps,H b=some (.tbl ps)->∃more,H' b=some (.tbl (ps++more)))
 (ns:∀m,s.heap.Ns X.env.locals m->h'.Ns X.env.locals m)(hok:HOk X.prog X.w H' h')(hg:AllBare g') :
 Inv X pins σ H' { s with heap:=h',gens:=g',drawn:=d',toks:=t' }:=by
 have neL:∀b o,X.s₀.heap.get? b=some o->b≠X.env.locals:=fun b o e=>Nat.ne_of_lt (Nat.lt_of_lt_of_le (Heap.lt_size e) I.ok.above)
 have neC:∀b o,X.s₀.heap.get? b=some o->b∉X.ex->b∉ch:=fun b o e hx hb=>by
  rcases (hch b hb).1 with z | z
  . exact hx z
  . exact absurd (Nat.lt_of_lt_of_le (Heap.lt_size e) z) (Nat.lt_irrefl _)
 have cellK:∀x c,X.env.cells.lookup x=some c->∀v,s.heap.IsCell c v->h'.IsCell c v:=fun x c e v ⟨o,ho,hd⟩=>by
  have nch:c∉ch:=fun z=>(hch c z).2.2.1 x c e rfl
  by_cases hc:c∈X.fs
  . obtain⟨sl,q⟩:=slot c o (I.cne x c e) hc nch ho (I.freeC x c e)
    exact⟨_,q,hd⟩
  . exact⟨o,keep c o (I.cne x c e) hc nch ho (I.freeC x c e),hd⟩
 refine⟨I.ok,I.os,hg,⟨fun b o e n hb hx=>?_,fun b o e n hb hx=>?_,fun b o e n hx=>?_,fun b o e hx=>?_,fun b xs e=>tups b xs (I.base.tups b xs e),fun b o xs e=>frzs b o xs (I.base.frzs b o xs e),fun b ps e=>?_⟩,?_,fun x c e=>?_,?_,fun x c e=>?_,fun p hp=>?_,hok,I.len⟩
 . exact keep b o (neL b o e) hb (neC b o e hx) (I.base.keep b o e n hb hx) (I.base.free b o e n hx)
 . obtain⟨sl,e1⟩:=I.base.slot b o e n hb hx
   obtain⟨sl',e2⟩:=slot b _ (neL b o e) hb (neC b o e hx) e1 (I.base.free b o e n hx)
   exact⟨sl',e2⟩
 . obtain⟨o',e1⟩:=I.base.there b o e hx
   exact free b o' (neC b o e hx) e1 (I.base.free b o e n hx)
 . obtain⟨o',e1⟩:=I.base.there b o e hx
   exact there b o' (neC b o e hx) e1
 . obtain⟨m1,e1⟩:=I.base.tbls b ps e
   obtain⟨m2,e2⟩:=tbls b _ e1
   exact⟨m1++m2,by rw[e2,Array.append_assoc]⟩
 . obtain⟨m,hn,hl⟩:=I.loc
   refine⟨m,ns m hn,fun i x v e1 e2 e3=>?_⟩
   obtain⟨u,r,l⟩:=hl i x v e1 e2 e3
   refine⟨u,r,?_⟩
   rcases l with l | ⟨k,c,e,z⟩
   . exact .inl l
   . exact .inr ⟨k,c,e,cellK x c e _ z⟩
 . obtain⟨v,z⟩:=I.cell x c e
   exact⟨v,cellK x c e v z⟩
 . obtain⟨m,⟨o,_,_,ho,_⟩,_⟩:=I.loc
   exact free _ o (fun z=>(hch _ z).2.1 rfl) ho I.free
 . obtain⟨v,o,ho,hd⟩:=I.cell x c e
   exact free c o (fun z=>(hch c z).2.2.1 x c e rfl) ho (I.freeC x c e)
 . obtain⟨e,n,ne,nf,d⟩:=I.pin p hp
   have nch:p.1∉ch:=fun z=>(hch p.1 z).2.2.2 p hp rfl
   exact⟨keep p.1 p.2 ne nf nch e n,free p.1 p.2 nch e n,ne,nf,d⟩
theorem Inv.un {t':Nat}(I:Inv X pins σ H s)(u:Un X.fs [] H H' s.heap h')(hok:HOk X.prog X.w H' h'):Inv X pins σ H' { s with heap:=h',toks:=t' }:=by
 obtain⟨m,⟨o,es,ep,ho,r⟩,_⟩:=id I.loc
 obtain⟨sl,hL⟩:=u.any ho I.free (by simp)
 exact I.step (g':=s.gens) (d':=s.drawn) (ch:=[]) (fun _ z=>nomatch z) (fun b o _ hb _ e n=>u.keep b o e n hb (by simp)) (fun b o _ hb _ e n=>u.slot b o e n hb (by simp)) (fun b o _ e n=>u.free b o e n (by simp)) (fun b o _ e=>u.there b o e (by simp)) u.tups u.frzs u.tbls (fun m' hm=>by
  obtain⟨o',es',ep',ho',r'⟩:=hm
  rw[ho] at ho';cases ho'
  exact⟨_,es',ep',hL,r'⟩) hok I.bare
theorem Inv.call {g':Array GenState}{t':Nat}{d':Drawn}{ch:List Addr}(I:Inv X pins σ H s)(u:Un (frs X.stack) ch H H' s.heap h')(hok:HOk X.prog X.w H' h')(hg:AllBare g')
 (hch:∀b∈ch,(b∈X.ex\/X.s₀.heap.objs.size<=b)/\b≠X.env.locals/\(∀x c,X.env.cells.lookup x=some c->c≠b)/\∀p∈X.pn++pins,p.1≠b) :
 Inv X pins σ H' { s with heap:=h',gens:=g',drawn:=d',toks:=t' }:=by
 obtain⟨m,⟨o,es,ep,ho,r⟩,_⟩:=id I.loc
 obtain⟨sl,hL⟩:=u.any ho I.free fun z=>(hch _ z).2.1 rfl
 exact I.step (ch:=ch) hch (fun b o hL hb hc e n=>u.keep b o e n (fun z=>(List.mem_cons.mp (I.stkSub b z)).elim hL hb) hc) (fun b o _ _ hc e n=>u.any e n hc) (fun b o hc e n=>u.free b o e n hc) (fun b o hc e=>u.there b o e hc) u.tups u.frzs u.tbls (fun m' hm=>by
  obtain⟨o',es',ep',ho',r'⟩:=hm
  rw[ho] at ho';cases ho'
  exact⟨_,es',ep',hL,r'⟩) hok hg
theorem Inv.turned {t':Nat}{it:Addr}(I:Inv X pins σ H s)(k:∀b o,b≠it->s.heap.get? b=some o->h'.get? b=some o)(hn:H it=none)(hL:it≠X.env.locals)
 (h1:it∈X.ex\/X.s₀.heap.objs.size<=it)(h2:∀x c,X.env.cells.lookup x=some c->c≠it)(h3:∀p∈X.pn++pins,p.1≠it):Inv X pins σ H { s with heap:=h',toks:=t' }:=by
 have nit:∀b u,H b=some u->b≠it:=fun b u e z=>by rw[z,hn] at e;cases e
 refine I.step (g':=s.gens) (d':=s.drawn) (ch:=[it]) (fun b hb=>?_) (fun b o _ _ hc e _=>k b o (fun z=>hc (by simp[z])) e) (fun b o _ _ hc e _=>⟨o.slots,k b o (fun z=>hc (by simp[z])) e⟩) (fun _ _ _ _ n=>n)
  (fun b o hc e=>⟨o,k b o (fun z=>hc (by simp[z])) e⟩) (fun _ _ e=>e) (fun _ _ _ e=>e) (fun b ps e=>⟨#[],by rw[e];simp⟩) (fun m hm=>?_) (fun b u e=>?_) I.bare
 . have e:b=it:=by simpa using hb
   subst e
   exact⟨h1,hL,h2,h3⟩
 . obtain⟨o,es,ep,ho,r⟩:=hm
   exact⟨o,es,ep,k _ o (Ne.symm hL) ho,r⟩
 . refine (I.hok b u e).stay (fun c v hc q=>k c v ?_ q) (fun _ q=>q) fun _ _ q=>q
   rcases hc with z | z
   . rw[z];exact nit b u e
   . exact nit c _ z
theorem Inv.tok (I:Inv X pins σ H s)(t:Nat):Inv X pins σ H { s with toks:=t }:=I.un (h':=s.heap) (t':=t) Un.refl I.hok
theorem Inv.kept {t':Nat}(I:Inv X pins σ H s)(k:∀b u,s.heap.get? b=some u->h'.get? b=some u):Inv X pins σ H { s with heap:=h',toks:=t' }:=I.un (Un.kept k) (I.hok.kept k)
theorem Inv.laid {a:Addr}{o:HO}{t':Nat}(I:Inv X pins σ H s)(k:∀b u,s.heap.get? b=some u->h'.get? b=some u)(hp:s.heap.objs.size<=a)(new:ObjOk X.prog X.w (upd H a o) h' a o) :
 Inv X pins σ (upd H a o) { s with heap:=h',toks:=t' }:=I.un (Un.laid k hp (I.hok.fresh hp)) (I.hok.laid k hp new)
theorem Inv.write {x e:Addr}{o:HO}{t':Nat}(I:Inv X pins σ H s)(mu:Mut (H x))(he:e=x\/H e=some (.own x))(k:∀b u,b≠e->s.heap.get? b=some u->h'.get? b=some u)(heo:∃u,h'.get? e=some u)
 (new:ObjOk X.prog X.w (upd H x o) h' x o):Inv X pins σ (upd H x o) { s with heap:=h',toks:=t' }:=I.un (Un.write mu he k heo) (I.hok.write mu he k heo new)
theorem Inv.weak {σ':List (Option V)}(I:Inv X pins σ H s)(hl:σ'.length=σ.length)(w:∀(i:Nat) v,σ'[i]? = some (some v)->σ[i]? = some (some v)):Inv X pins σ' H s:=
 ⟨I.ok,I.os,I.bare,I.base,let ⟨m,hn,hl'⟩:=I.loc;⟨m,hn,fun i x v e1 e2 e3=>hl' i x v e1 (w i v e2) e3⟩,I.cell,I.free,I.freeC,I.pin,I.hok,hl.trans I.len⟩
theorem Inv.pins_of {pins':List (Addr×Obj)}(I:Inv X pins σ H s)(h:∀p∈pins',s.heap.get? p.1=some p.2/\H p.1=none/\p.1≠X.env.locals/\p.1∉X.fs/\∀v,p.2.data ≠ .cell v):Inv X pins' σ H s:=
 ⟨I.ok,I.os,I.bare,I.base,I.loc,I.cell,I.free,I.freeC,fun p hp=>(List.mem_append.mp hp).elim (fun z=>I.pin p (List.mem_append_left _ z)) (h p),I.hok,I.len⟩
theorem nodup_ix {N:List Str}(hN:N.Nodup){i j:Nat}{x:Str}(a:N[i]? = some x)(b:N[j]? = some x):i=j:=by
 obtain⟨h1,e1⟩:=List.getElem?_eq_some_iff.mp a
 obtain⟨h2,e2⟩:=List.getElem?_eq_some_iff.mp b
 exact (List.getElem_inj hN).mp (e1.trans e2.symm)
theorem store_ok2 {M:Model}{A:Around}{E:Value->Shared->Prop}{i:Nat}{x:Str}{v:V}{u:Value}{Q:Unit->Shared->Prop}(I:Inv X pins σ H s)(hN:X.N.Nodup)(hi:X.N[i]? = some x)(hx:Loc X.env.scope x)(r:RelV v u)
 (h:∀s',Inv X pins (σ.set i (some v)) H s'->(∃a,Heap.SameBut a s.heap s'.heap/\(a=X.env.locals\/X.env.cells.lookup x=some a))->Q () s')(hf:X.fn x=true\/X.env.scope.names.lookup x=some .local:=by first | exact .inl rfl | exact .inr rfl | assumption):wpAny M A (storeName X.env x u) Q E s:=by
 obtain⟨m,hn,hl⟩:=id I.loc
 have hcls:(X.env.scope.kind == .class || (X.env.scope.kind == .module && X.env.locals != X.env.globals))=false:=by rw[I.ok.kind];rfl
 have hiσ:i<σ.length:=by rw[I.len];exact (List.getElem?_eq_some_iff.mp hi).1
 have cne:=I.cne
 have tracked:∀{a:Addr}{h':Heap},(∃o,s.heap.get? a=some o/\H a=none)->Heap.SameBut a s.heap h'->HOk X.prog X.w H h':=fun {a h'} ha hs b ob e=>by
  obtain⟨_,_,hfree⟩:=ha
  refine (I.hok b ob e).stay (fun c w' hc q=>(hs.2 c ?_).trans q) (fun _ q=>q) fun _ _ q=>q
  rintro rfl
  rcases hc with rfl | hc
  . rw[hfree] at e;cases e
  . rw[hfree] at hc;cases hc
 rcases hx with hk | hk
 . refine wpAny_storeName_local hk hn (fun h' hn' hs=>?_) hcls
   obtain⟨oL,_,_,hoL,_⟩:=id hn
   refine h _ ⟨I.ok,I.os,I.bare,⟨fun b o e n hb hx=>?_,fun b o e n hb hx=>?_,I.base.free,fun b o e hx=>?_,I.base.tups,I.base.frzs,I.base.tbls⟩,⟨_,hn',fun j y v' e1 e2 e3=>?_⟩,fun y c e=>?_,I.free,I.freeC,fun p hp=>?_,tracked ⟨oL,hoL,I.free⟩ hs,by simpa using I.len⟩ ⟨_,hs,.inl rfl⟩
   . exact (hs.2 b (Nat.ne_of_lt (Nat.lt_of_lt_of_le (Heap.lt_size e) I.ok.above))).trans (I.base.keep b o e n hb hx)
   . obtain⟨sl,e1⟩:=I.base.slot b o e n hb hx
     exact⟨sl,(hs.2 b (Nat.ne_of_lt (Nat.lt_of_lt_of_le (Heap.lt_size e) I.ok.above))).trans e1⟩
   . obtain⟨o',e1⟩:=I.base.there b o e hx
     exact⟨o',(hs.2 b (Nat.ne_of_lt (Nat.lt_of_lt_of_le (Heap.lt_size e) I.ok.above))).trans e1⟩
   . by_cases hj:j=i
     . subst hj
       rw[hi] at e1;cases e1
       rw[List.getElem?_set_self hiσ] at e2
       cases e2
       exact⟨u,r,.inl ⟨hk,by simp⟩⟩
     . rw[List.getElem?_set_ne (Ne.symm hj)] at e2
       obtain⟨u',r',q⟩:=hl j y v' e1 e2 e3
       refine⟨u',r',?_⟩
       rcases q with ⟨k,e⟩ | ⟨k,c,e,z⟩
       . refine .inl ⟨k,?_⟩
         have:y≠x:=fun e=>hj (nodup_ix hN e1 (e ▸ hi))
         simp[this,e]
       . exact .inr ⟨k,c,e,z.sameBut hs (cne y c e)⟩
   . obtain⟨w',z⟩:=I.cell y c e
     exact⟨w',z.sameBut hs (cne y c e)⟩
   . obtain⟨e,n,ne,nf,d⟩:=I.pin p hp
     exact⟨(hs.2 p.1 ne).trans e,n,ne,nf,d⟩
 . have hfn:X.fn x=true:=by
    rcases hf with z | z
    . exact z
    . rw[z] at hk;cases hk
   obtain⟨c,hc⟩:=I.ok.has x (.inl hk)
   obtain⟨w',z⟩:=I.cell x c hc
   refine wpAny_storeName_cell I.ok.kind hk hc z (fun h' hc' hs=>?_)
   obtain⟨oc,hoc,hocd⟩:=id z
   refine h { s with heap:=h' } ⟨I.ok,I.os,I.bare,⟨fun b o e n hb hx=>?_,fun b o e n hb hx=>?_,I.base.free,fun b o e hx=>?_,I.base.tups,I.base.frzs,I.base.tbls⟩,⟨m,hn.sameBut hs (Ne.symm (cne x c hc)),fun j y v' e1 e2 e3=>?_⟩,fun y c' e=>?_,I.free,I.freeC,fun p hp=>?_,tracked ⟨oc,hoc,I.freeC x c hc⟩ hs,by simpa using I.len⟩ ⟨c,hs,.inr hc⟩
   . exact (hs.2 b (Nat.ne_of_lt (Nat.lt_of_lt_of_le (Heap.lt_size e) (I.ok.cab x c hfn hc)))).trans (I.base.keep b o e n hb hx)
   . obtain⟨sl,e1⟩:=I.base.slot b o e n hb hx
     exact⟨sl,(hs.2 b (Nat.ne_of_lt (Nat.lt_of_lt_of_le (Heap.lt_size e) (I.ok.cab x c hfn hc)))).trans e1⟩
   . obtain⟨o',e1⟩:=I.base.there b o e hx
     exact⟨o',(hs.2 b (Nat.ne_of_lt (Nat.lt_of_lt_of_le (Heap.lt_size e) (I.ok.cab x c hfn hc)))).trans e1⟩
   . by_cases hj:j=i
     . subst hj
       rw[hi] at e1;cases e1
       rw[List.getElem?_set_self hiσ] at e2
       cases e2
       exact⟨u,r,.inr ⟨.inl hk,c,hc,hc'⟩⟩
     . rw[List.getElem?_set_ne (Ne.symm hj)] at e2
       obtain⟨u',r',q⟩:=hl j y v' e1 e2 e3
       refine⟨u',r',?_⟩
       rcases q with q | ⟨k,c',e,z'⟩
       . exact .inl q
       . refine .inr ⟨k,c',e,z'.sameBut hs ?_⟩
         rintro rfl
         exact hj (nodup_ix hN e1 (I.ok.inj _ _ _ e hc ▸ hi))
   . by_cases hcc:c'=c
     . subst hcc;exact⟨_,hc'⟩
     . obtain⟨w2,z2⟩:=I.cell y c' e
       exact⟨w2,z2.sameBut hs hcc⟩
   . obtain⟨e,n,ne,nf,d⟩:=I.pin p hp
     refine⟨(hs.2 p.1 ?_).trans e,n,ne,nf,d⟩
     intro q
     rw[q,hoc] at e
     have q':oc=p.2:=Option.some.inj e
     exact d w' (by rw[<-q'];exact hocd)
theorem store_ok {M:Model}{A:Around}{E:Value->Shared->Prop}{i:Nat}{x:Str}{v:V}{u:Value}{Q:Unit->Shared->Prop}(I:Inv X pins σ H s)(hN:X.N.Nodup)(hi:X.N[i]? = some x)(hx:Loc X.env.scope x)(r:RelV v u)
 (h:∀s',Inv X pins (σ.set i (some v)) H s'->Q () s')(hf:X.fn x=true\/X.env.scope.names.lookup x=some .local:=by first | exact .inl rfl | exact .inr rfl | assumption):wpAny M A (storeName X.env x u) Q E s:=
 store_ok2 I hN hi hx r (fun s' I' _=>h s' I') hf
theorem Inv.call' {s':Shared}{ch:List Addr}(I:Inv X pins σ H s)(ho:s'.os=s.os)(u:Un (frs X.stack) ch H H' s.heap s'.heap)(hok:HOk X.prog X.w H' s'.heap)(hg:AllBare s'.gens)
 (hch:∀b∈ch,(b∈X.ex\/X.s₀.heap.objs.size<=b)/\b≠X.env.locals/\(∀x c,X.env.cells.lookup x=some c->c≠b)/\∀p∈X.pn++pins,p.1≠b):Inv X pins σ H' s':=by
 obtain⟨h',g',d',t',o'⟩:=s'
 have e:o'=s.os:=ho
 subst e
 exact I.call (g':=g') (t':=t') (d':=d') u hok hg hch
end
abbrev XK:=Value->Option Addr->Hp->Prop
abbrev St:=List (Option V)
abbrev VK:=V->Hp->Prop
abbrev TE:=St->Hp->VK->Prop
abbrev TT:=St->Hp->(Bool->Hp->Prop)->Prop
abbrev TA:=St->Hp->(List V->Hp->Prop)->Prop
structure Ends where
 nx:St->Hp->Prop
 rt:VK
 bk:St->Hp->Prop:=fun _ _=>False
 ct:St->Hp->Prop:=fun _ _=>False
abbrev TS:=Ends->St->Hp->Prop
def EP (X:Cx)(pins:List (Addr×Obj))(σ:St)(Q:VK)(u:Value)(s':Shared):Prop:=∃v H',Inv X pins σ H' s'/\RelV v u/\Q v H'
def TP (X:Cx)(pins:List (Addr×Obj))(σ:St)(Q:Bool->Hp->Prop)(b:Bool)(s':Shared):Prop:=∃H',Inv X pins σ H' s'/\Q b H'
def AP (X:Cx)(pins:List (Addr×Obj))(σ:St)(Q:List V->Hp->Prop)(us:List Value)(s':Shared):Prop:=∃vs H',Inv X pins σ H' s'/\Vals vs us/\Q vs H'
def SP (X:Cx)(pins:List (Addr×Obj))(D:Ends)(f:Flow)(s':Shared):Prop:=
 match f with
 | .next=>∃ σ' H',Inv X pins σ' H' s'/\D.nx σ' H'
 | .brk=>∃ σ' H',Inv X pins σ' H' s'/\D.bk σ' H'
 | .cont=>∃ σ' H',Inv X pins σ' H' s'/\D.ct σ' H'
 | .ret u=>∃v σ' H',Inv X pins σ' H' s'/\RelV v u/\D.rt v H'
def PE (X:Cx)(e:Expr)(t:TE):Prop:=
 ∀(pins:List (Addr×Obj))(s:Shared)(σ:St)(H:Hp)(Q:VK),Inv X pins σ H s->t σ H Q->wpAny (model X.prog X.w) X.A (eval e X.env) (EP X pins σ Q) X.xe s
def PT (X:Cx)(e:Expr)(t:TT):Prop:=
 ∀(pins:List (Addr×Obj))(s:Shared)(σ:St)(H:Hp)(Q:Bool->Hp->Prop),Inv X pins σ H s->t σ H Q->wpAny (model X.prog X.w) X.A (isTrue e X.env (eval e X.env)) (TP X pins σ Q) X.xe s
def PW (X:Cx)(e:Expr)(t:TT):Prop:=
 ∀(whole:Sem Value)(pins:List (Addr×Obj))(s:Shared)(σ:St)(H:Hp)(Q:Bool->Hp->Prop),Inv X pins σ H s->t σ H Q->wpAny (model X.prog X.w) X.A (isTrue e X.env whole) (TP X pins σ Q) X.xe s
theorem PW.pt {X:Cx}{e:Expr}{t:TT}(h:PW X e t):PT X e t:=h _
def PA (X:Cx)(es:List Expr)(t:TA):Prop:=
 ∀(pos:Pos)(pins:List (Addr×Obj))(s:Shared)(σ:St)(H:Hp)(Q:List V->Hp->Prop),Inv X pins σ H s->t σ H Q->wpAny (model X.prog X.w) X.A (spliced (backTo pos (starEach es X.env))) (AP X pins σ Q) X.xe s
def PS (X:Cx)(st:Stmt)(t:TS):Prop:=
 ∀(pins:List (Addr×Obj))(s:Shared)(σ:St)(H:Hp)(D:Ends),Inv X pins σ H s->t D σ H->wpAny (model X.prog X.w) X.A (exec st X.env) (SP X pins D) X.xe s
def PSs (X:Cx)(st:List Stmt)(t:TS):Prop:=
 ∀(pins:List (Addr×Obj))(s:Shared)(σ:St)(H:Hp)(D:Ends),Inv X pins σ H s->t D σ H->wpAny (model X.prog X.w) X.A (execs st X.env) (SP X pins D) X.xe s
theorem thn {α:Type}{t:Sem α}{Q Q':α->Shared->Prop}{M:Model}{A:Around}{E:Value->Shared->Prop}{s:Shared}(h:wpAny M A t Q E s)(hQ:∀a s,Q a s->Q' a s):wpAny M A t Q' E s:=wpAny_mono h hQ fun _ _ x=>x
end L2
namespace L2
open PySem PySem.Spec PyProof.Rows
section
variable {X:Cx}
def tVar (i:Nat):TE:=fun σ H Q=>∃v,σ[i]? = some (some v)/\Q v H
def tC (v:V):TE:=fun _ H Q=>Q v H
theorem pe_var {i:Nat}{x:Str}{pos:Pos}(hN:X.N[i]? = some x)(hv:Vis X.env.scope x)(hd:(x==("__debug__" : Str))=false:=by decide) (hcd:(x==("__classdict__" : Str))=false:=by decide):PE X (.Name x pos) (tVar i):=by
 intro pins s σ H Q I h
 obtain⟨v,e,h⟩:=h
 obtain⟨m,hn,hl⟩:=I.loc
 obtain⟨u,r,l⟩:=hl i x v hN e hv
 have fin:EP X pins σ Q u s:=⟨v,H,I,r,h⟩
 rcases l with ⟨hk,hm⟩ | ⟨hk,c,hc,hcell⟩
 . exact wpAny_Name (wpAny_loadName_local I.ok.kind hk hn hm fin) hd
 . rcases hk with hk | hk
   . exact wpAny_Name (wpAny_loadName_cell I.ok.kind hk hc hcell fin) hd
   . exact wpAny_Name (wpAny_loadName_free I.ok.kind hk hc hcell fin hcd) hd
theorem pe_int {i j pos}:PE X (.Constant (.int i) j pos) (tC (.int i)):=fun _ _ _ H _ I h=>wpAny_Constant_int ⟨.int i,H,I.tok _,⟨_,rfl⟩,h⟩
theorem pe_bl {b j pos}:PE X (.Constant (.bool b) j pos) (tC (.bl b)):=fun _ _ _ H _ I h=>Constant_bool ⟨.bl b,H,I,rfl,h⟩
theorem pe_non {j pos}:PE X (.Constant .none j pos) (tC .non):=fun _ _ _ H _ I h=>Constant_none ⟨.non,H,I,rfl,h⟩
def Gl (X:Cx)(x:Str):Prop:=X.env.kindOf x=some .globalImplicit
theorem ld_glob {E:Value->Shared->Prop}{pins:List (Addr×Obj)}{s:Shared}{σ:St}{H:Hp}{x:Str}{u:Value}{pos:Pos}{Q:Value->Shared->Prop}(I:Inv X pins σ H s)(hg:Gl X x)(hm:X.mg x=some u)(h:Q u s)
 (hd:(x==("__debug__" : Str))=false:=by decide):wpAny (model X.prog X.w) X.A (eval (.Name x pos) X.env) Q E s:=
 Calls.Name_function_global I.ok.kind hg (Calls.loadGlobal_global (by rw[I.ok.glob];exact I.mod.glob.keeps I.bk) hm h) hd
theorem ld_blt {E:Value->Shared->Prop}{pins:List (Addr×Obj)}{s:Shared}{σ:St}{H:Hp}{x:Str}{u:Value}{pos:Pos}{Q:Value->Shared->Prop}(I:Inv X pins σ H s)(hg:Gl X x)(hm:X.mg x=none)(hv:bootBuiltins x=some u)(h:Q u s)
 (hn:x ≠ "__name__" := by decide) (hd:(x==("__debug__" : Str))=false:=by decide):wpAny (model X.prog X.w) X.A (eval (.Name x pos) X.env) Q E s:=by
 obtain⟨mb,h1,h2⟩:=I.mod.blt
 exact Calls.Name_function_global I.ok.kind hg (Calls.loadGlobal_builtin (by rw[I.ok.glob];exact I.mod.glob.keeps I.bk) hm (by rw[I.ok.blt];exact h1.keeps I.bk) ((h2 x hn).trans hv) h) hd
variable {a b:Expr}{ta tb:TE}{pos:Pos}
def PC (X:Cx)(op:CmpOp)(a b:Expr)(t:TE):Prop:=
 ∀(pins:List (Addr×Obj))(s:Shared)(σ:St)(H:Hp)(Q:VK),Inv X pins σ H s->t σ H Q ->
  wpAny (model X.prog X.w) X.A (eval a X.env) (fun v s₁=>wpAny (model X.prog X.w) X.A (eval b X.env) (fun u s₂=>wpAny (model X.prog X.w) X.A (compareOp op v u) (EP X pins σ Q) X.xe s₂) X.xe s₁) X.xe s
def tB (t:TE):TT:=fun σ H Q=>t σ H fun x H1=>∃c,x = .bl c/\Q c H1
theorem pt_cmp {op:CmpOp}{t:TE}(h:PC X op a b t)(h1:behindInMarks op b=false:=by first | exact nobehind _ (by decide) (by decide) | rfl):PT X (.Compare a [op] [b] pos) (tB t):=by
 intro pins s σ H Q I hw
 refine wpAny_isTrue_Compare1 (thn (h pins s σ H _ I hw) fun v s1 h1=>thn h1 fun u s2 h2=>thn h2 fun c s3 ⟨x,H1,I1,r1,q1⟩=>?_) h1
 obtain⟨d,rfl,q⟩:=q1
 cases r1
 exact wpAny_truthy_bool ⟨H1,I1,q⟩
theorem pt_val {e:Expr}{t:TE}(h:PE X e t)(he:∀whole,isTrue e X.env whole=(do let v <-whole;standAt e.pos;holding [v] (truthy v)):=by intro _;rfl):PT X e (tB t):=by
 intro pins s σ H Q I hw
 refine isTrue_plain (thn (h pins s σ H _ I hw) fun v s1 ⟨x,H1,I1,r1,q1⟩=>?_) (he _)
 obtain⟨d,rfl,q⟩:=q1
 cases r1
 exact wpAny_truthy_bool ⟨H1,I1,q⟩
variable {tA tB':TT}{rest:List Expr}
def tAnd (t u:TT):TT:=fun σ H Q=>t σ H fun c H1=>if c=true then u σ H1 Q else Q false H1
def tOr (t u:TT):TT:=fun σ H Q=>t σ H fun c H1=>if c=true then Q true H1 else u σ H1 Q
def tNot (t:TT):TT:=fun σ H Q=>t σ H fun c H1=>Q (!c) H1
theorem pw_and1 (ha:PT X a tA):PW X (.BoolOp .And [a] pos) tA:=by
 intro wh pins s σ H Q I h
 refine isTrue_and (thn (ha pins s σ H Q I h) fun c s1 e=>?_)
 cases c with
 | true=>exact isTrue_and_nil e
 | false=>exact e
theorem pw_or1 (ha:PT X a tA):PW X (.BoolOp .Or [a] pos) tA:=by
 intro wh pins s σ H Q I h
 refine isTrue_or (thn (ha pins s σ H Q I h) fun c s1 e=>?_)
 cases c with
 | false=>exact isTrue_or_nil e
 | true=>exact e
theorem pw_and (ha:PT X a tA)(hb:PW X (.BoolOp .And (b::rest) pos) tB'):PW X (.BoolOp .And (a::b::rest) pos) (tAnd tA tB'):=by
 intro wh pins s σ H Q I h
 refine isTrue_and (thn (ha pins s σ H _ I h) fun c s1 ⟨H1,I1,q1⟩=>?_)
 cases c with
 | true=>exact hb wh pins s1 σ H1 Q I1 q1
 | false=>exact⟨H1,I1,q1⟩
theorem pw_or (ha:PT X a tA)(hb:PW X (.BoolOp .Or (b::rest) pos) tB'):PW X (.BoolOp .Or (a::b::rest) pos) (tOr tA tB'):=by
 intro wh pins s σ H Q I h
 refine isTrue_or (thn (ha pins s σ H _ I h) fun c s1 ⟨H1,I1,q1⟩=>?_)
 cases c with
 | true=>exact⟨H1,I1,q1⟩
 | false=>exact hb wh pins s1 σ H1 Q I1 q1
theorem pt_not (ha:PT X a tA):PT X (.UnaryOp .Not a pos) (tNot tA):=by
 intro pins s σ H Q I h
 exact isTrue_not (ha pins s σ H (fun c H1=>Q (!c) H1) I h)
def tAndV (ta tb:TE):TE:=fun σ H Q=>ta σ H fun x H1=>∃c,x = .bl c/\if c=true then tb σ H1 Q else Q (.bl false) H1
def tNotV (ta:TE):TE:=fun σ H Q=>ta σ H fun x H1=>∃c,x = .bl c/\Q (.bl (!c)) H1
theorem pe_one {op} {t:TE}(h:PE X a t):PE X (.BoolOp op [a] pos) t:=fun pins s σ H Q I hw=>BoolOp_one (h pins s σ H Q I hw)
theorem pe_and (ha:PE X a ta)(hb:PE X (.BoolOp .And (b::rest) pos) tb):PE X (.BoolOp .And (a::b::rest) pos) (tAndV ta tb):=by
 intro pins s σ H Q I h
 refine BoolOp_and (thn (ha pins s σ H _ I h) fun v s1 ⟨x,H1,I1,r1,q1⟩=>?_)
 obtain⟨c,rfl,q1⟩:=q1
 cases r1
 refine wpAny_truthy_bool ?_
 cases c with
 | true=>exact hb pins s1 σ H1 Q I1 q1
 | false=>exact⟨.bl false,H1,I1,rfl,q1⟩
theorem pe_not (ha:PE X a ta):PE X (.UnaryOp .Not a pos) (tNotV ta):=by
 intro pins s σ H Q I h
 refine UnaryOp_ (thn (ha pins s σ H _ I h) fun v s1 ⟨x,H1,I1,r1,q1⟩=>?_)
 obtain⟨c,rfl,q1⟩:=q1
 cases r1
 exact not_of (wpAny_truthy_bool ⟨.bl (!c),H1,I1,rfl,q1⟩)
def tIf (t:TT)(ta tb:TE):TE:=fun σ H Q=>t σ H fun c H1=>if c=true then ta σ H1 Q else tb σ H1 Q
theorem pe_ifExp {c:Expr}(hc:PT X c tA)(ha:PE X a ta)(hb:PE X b tb):PE X (.IfExp c a b pos) (tIf tA ta tb):=by
 intro pins s σ H Q I h
 refine wpAny_IfExp (thn (hc pins s σ H _ I h) fun d s1 ⟨H1,I1,q1⟩=>?_)
 cases d with
 | true=>exact ha pins s1 σ H1 Q I1 q1
 | false=>exact hb pins s1 σ H1 Q I1 q1
end
end L2
namespace L2
open PySem PySem.Spec PyProof.Rows
def SqL (K:PySem.W.Frag)(H:Hp)(a:Addr)(xs:List V):Prop:=
 Rd H a (.lst xs) \/
  ∃(o:Obj)(its:Array Value)(n:Nat),K.lookup a=some o/\o.cls = .type "list" /\ o.dict=none/\o.data = .seq its n/\its.size<=sizeLine/\Vals xs its.toList
def SqT (K:PySem.W.Frag)(H:Hp)(a:Addr)(xs:List V):Prop:=
 Rd H a (.tup xs) \/
  ∃(o:Obj)(its:Array Value)(n:Nat),K.lookup a=some o/\o.cls = .type "tuple" /\ o.data = .seq its n/\its.size<=sizeLine/\Vals xs its.toList
def absV:Value->Option V
 | .none=>some .non
 | .bool b=>some (.bl b)
 | .int i _=>some (.int i)
 | .str x _=>some (.str x)
 | .bytes b _=>some (.byt b)
 | .float b _=>some (.flt b)
 | .ref a=>some (.ref a)
 | .type n=>some (.ty n)
 | _=>none
theorem RelV.abs {x:V}{u:Value}(r:RelV x u):absV u=some x:=by
 cases x with
 | non=>cases r;rfl
 | bl _=>cases r;rfl
 | int _=>obtain⟨t,rfl⟩:=r;rfl
 | str _=>obtain⟨t,rfl⟩:=r;rfl
 | byt _=>obtain⟨t,rfl⟩:=r;rfl
 | flt _=>obtain⟨t,rfl⟩:=r;rfl
 | ref _=>cases r;rfl
 | ty _=>cases r;rfl
theorem RelV.inj {x y:V}{u:Value}(r:RelV x u)(q:RelV y u):x=y:=Option.some.inj (r.abs.symm.trans q.abs)
theorem Vals.inj:∀{xs ys:List V}{us:List Value},Vals xs us->Vals ys us->xs=ys
 | _,_,_,.nil,.nil=>rfl
 | _,_,_,.cons r t,.cons r' t'=>by rw[r.inj r',Vals.inj t t']
section
variable {X:Cx}{pins:List (Addr×Obj)}{σ:St}{H:Hp}{s:Shared}{a:Addr}{xs ys:List V}
theorem SqL.of {K:PySem.W.Frag}(h:H a=some (.lst xs)):SqL K H a xs:=.inl (.inl h)
theorem SqT.of {K:PySem.W.Frag}(h:H a=some (.tup xs)):SqT K H a xs:=.inl (.inl h)
theorem Inv.list (I:Inv X pins σ H s)(h:SqL X.K H a xs):∃its:List Value,Vals xs its/\PlainL s.heap a its.toArray/\xs.length<=sizeLine:=by
 rcases h with h | ⟨o,its,n,hk,hc,hd,hs,hz,r⟩
 . obtain⟨z,its,n,r,e⟩:=h.ok I.hok
   exact⟨its,r,⟨_,n,e,rfl,rfl,rfl⟩,z⟩
 . refine⟨its.toList,r,⟨o,n,I.kIn a o hk,hc,hd,by simpa using hs⟩,?_⟩
   have e:=r.length
   simp only[Array.length_toList] at e
   omega
theorem Inv.tuple (I:Inv X pins σ H s)(h:SqT X.K H a xs):∃its:List Value,Vals xs its/\IsTup s.heap a its.toArray/\xs.length<=sizeLine:=by
 rcases h with h | ⟨o,its,n,hk,hc,hs,hz,r⟩
 . obtain⟨⟨z,_⟩,its,r,p⟩:=h.ok I.hok
   exact⟨its,r,p,z⟩
 . refine⟨its.toList,r,⟨o,I.kIn a o hk,hc,n,by simpa using hs⟩,?_⟩
   have e:=r.length
   simp only[Array.length_toList] at e
   omega
theorem Inv.list_inj (I:Inv X pins σ H s)(h:SqL X.K H a xs)(h':SqL X.K H a ys):xs=ys:=by
 obtain⟨its,r,⟨o,n,e,_,_,d⟩,_⟩:=I.list h
 obtain⟨its',r',⟨o',n',e',_,_,d'⟩,_⟩:=I.list h'
 rw[e] at e';cases e'
 rw[d] at d'
 injection d' with d1 _
 have:its=its':=by simpa using congrArg Array.toList d1
 subst this
 exact r.inj r'
theorem Inv.tuple_inj (I:Inv X pins σ H s)(h:SqT X.K H a xs)(h':SqT X.K H a ys):xs=ys:=by
 obtain⟨its,r,⟨o,e,_,n,d⟩,_⟩:=I.tuple h
 obtain⟨its',r',⟨o',e',_,n',d'⟩,_⟩:=I.tuple h'
 rw[e] at e';cases e'
 rw[d] at d'
 injection d' with d1 _
 have:its=its':=by simpa using congrArg Array.toList d1
 subst this
 exact r.inj r'
end
abbrev Cx.wish (X:Cx)(E:Value->Shared->Prop):Cx:={ X with xe:=E }
abbrev Cx.nox (X:Cx):Cx:=X.wish fun _ _=>False
theorem Cx.Ok.wish {X:Cx}(ok:X.Ok)(E:Value->Shared->Prop):(X.wish E).Ok:=
 ⟨ok.mod,ok.kind,ok.glob,ok.blt,ok.above,ok.inj,ok.has,ok.cab,ok.hd,ok.frames,ok.stk,ok.exf,ok.bs,ok.bsz,ok.noex,ok.exfs,ok.funs,ok.frf⟩
theorem Cx.Ok.unwish {X:Cx}{E:Value->Shared->Prop}(ok:(X.wish E).Ok):X.Ok:=
 ⟨ok.mod,ok.kind,ok.glob,ok.blt,ok.above,ok.inj,ok.has,ok.cab,ok.hd,ok.frames,ok.stk,ok.exf,ok.bs,ok.bsz,ok.noex,ok.exfs,ok.funs,ok.frf⟩
section
variable {X:Cx}{pins:List (Addr×Obj)}{σ:St}{H:Hp}{s:Shared}{E:Value->Shared->Prop}
theorem Inv.wish (I:Inv X pins σ H s)(E:Value->Shared->Prop):Inv (X.wish E) pins σ H s:=⟨I.ok.wish E,I.os,I.bare,I.base,I.loc,I.cell,I.free,I.freeC,I.pin,I.hok,I.len⟩
theorem Inv.unwish (I:Inv (X.wish E) pins σ H s):Inv X pins σ H s:=⟨I.ok.unwish,I.os,I.bare,I.base,I.loc,I.cell,I.free,I.freeC,I.pin,I.hok,I.len⟩
theorem SP.unwish {D:Ends}{f:Flow}{s':Shared}(h:SP (X.wish E) pins D f s'):SP X pins D f s':=by
 cases f with
 | next=>obtain⟨σ',H',I,q⟩:=h;exact⟨σ',H',I.unwish,q⟩
 | brk=>obtain⟨σ',H',I,q⟩:=h;exact⟨σ',H',I.unwish,q⟩
 | cont=>obtain⟨σ',H',I,q⟩:=h;exact⟨σ',H',I.unwish,q⟩
 | ret u=>obtain⟨v,σ',H',I,r,q⟩:=h;exact⟨v,σ',H',I.unwish,r,q⟩
theorem PSs.nox {st:List Stmt}{t:TS}(h:PSs X.nox st t):PSs X st t:=fun pins s σ H D I hw=>
 wpAny_mono (h pins s σ H D (I.wish _) hw) (fun _ _ q=>q.unwish) fun _ _ z=>False.elim z
end
section
variable {X:Cx}{st:Stmt}{rest:List Stmt}{t u:TS}{e:Expr}{te:TE}{pos:Pos}
def tNext:TS:=fun D σ H=>D.nx σ H
def tSeq (t u:TS):TS:=fun D σ H=>t { D with nx:=u D } σ H
theorem pss_nil:PSs X [] tNext:=fun _ _ σ H _ I h=>wpAny_execs_nil ⟨σ,H,I,h⟩
theorem pss_cons (h1:PS X st t)(h2:PSs X rest u):PSs X (st::rest) (tSeq t u):=by
 intro pins s σ H D I h
 refine wpAny_execs_cons (thn (h1 pins s σ H { D with nx:=u D } I h) fun f s1 q=>?_)
 cases f with
 | next=>
  obtain⟨σ',H',I',q⟩:=q
  exact h2 pins s1 σ' H' D I' q
 | ret v=>exact q
 | brk=>exact q
 | cont=>exact q
theorem pss_one (h1:PS X st t):PSs X [st] t:=by
 intro pins s σ H D I h
 refine wpAny_execs_cons (thn (h1 pins s σ H D I h) fun f s1 q=>?_)
 cases f with
 | next=>exact wpAny_execs_nil q
 | ret v=>exact q
 | brk=>exact q
 | cont=>exact q
theorem Inv.quiet {pins:List (Addr×Obj)}{σ:St}{H:Hp}{s:Shared}(I:Inv X pins σ H s):interactive X.env=false:=by simp[interactive,I.ok.kind]
def tDrop (te:TE):TS:=fun D σ H=>te σ H fun _ H1=>D.nx σ H1
theorem ps_expr (he:PE X e te)(hs:swapsWith e none pos.line X.env=pure false:=by rfl):PS X (.Expr e pos) (tDrop te):=by
 intro pins s σ H D I h
 exact wpAny_Expr_any (thn (he pins s σ H _ I h) fun v s1 ⟨x,H1,I1,r1,q1⟩=>⟨σ,H1,I1,q1⟩) I.quiet hs
def tRet (te:TE):TS:=fun D σ H=>te σ H D.rt
theorem ps_ret (he:PE X e te):PS X (.Return (some e) pos) (tRet te):=by
 intro pins s σ H D I h
 exact wpAny_Return_some (thn (he pins s σ H _ I h) fun v s1 ⟨x,H1,I1,r1,q1⟩=>⟨x,σ,H1,I1,r1,q1⟩)
def tIfS (c:TT)(t u:TS):TS:=fun D σ H=>c σ H fun b H1=>if b=true then t D σ H1 else u D σ H1
theorem ps_if {c:Expr}{a b:List Stmt}{tc:TT}(hc:PT X c tc)(ha:PSs X a t)(hb:PSs X b u):PS X (.If c a b pos) (tIfS tc t u):=by
 intro pins s σ H D I h
 refine wpAny_If (thn (hc pins s σ H _ I h) fun d s1 ⟨H1,I1,q1⟩=>?_)
 cases d with
 | true=>exact ha pins s1 σ H1 D I1 q1
 | false=>exact hb pins s1 σ H1 D I1 q1
end
abbrev TG:=V->St->Hp->(St->Hp->Prop)->Prop
abbrev TGs:=List V->St->Hp->(St->Hp->Prop)->Prop
def PG (X:Cx)(target:Expr)(t:TG):Prop:=
 ∀(pins:List (Addr×Obj))(s:Shared)(σ:St)(H:Hp)(v:V)(u:Value)(Q:St->Hp->Prop),Inv X pins σ H s->RelV v u->t v σ H Q ->
  wpAny (model X.prog X.w) X.A (assign target X.env u) (fun _ s'=>∃ σ' H',Inv X pins σ' H' s'/\Q σ' H') X.xe s
def PGs (X:Cx)(ts:List Expr)(t:TGs):Prop:=
 ∀(pins:List (Addr×Obj))(s:Shared)(σ:St)(H:Hp)(vs:List V)(us:List Value)(Q:St->Hp->Prop),Inv X pins σ H s->Vals vs us->t vs σ H Q ->
  wpAny (model X.prog X.w) X.A (assignInOrder ((assignEach ts X.env).map (·.2)) us) (fun _ s'=>∃ σ' H',Inv X pins σ' H' s'/\Q σ' H') X.xe s
abbrev TSet:=V->V->V->Hp->(Hp->Prop)->Prop
def PSet (X:Cx)(t:TSet):Prop:=
 ∀(pins:List (Addr×Obj))(s:Shared)(σ:St)(H:Hp)(o i v:V)(ov iv u:Value)(Q:Hp->Prop),Inv X pins σ H s->RelV o ov->RelV i iv->RelV v u->t o i v H Q ->
  wpAny (model X.prog X.w) X.A (setItem ov iv u) (fun _ s'=>∃H',Inv X pins σ H' s'/\Q H') X.xe s
section
variable {X:Cx}{pos:Pos}
def gName (i:Nat):TG:=fun v σ H Q=>Q (σ.set i (some v)) H
theorem pg_name {i:Nat}{x:Str}(hN:X.N.Nodup)(hi:X.N[i]? = some x)(hx:Loc X.env.scope x)(hf:X.fn x=true\/X.env.scope.names.lookup x=some .local:=by first | exact .inl rfl | exact .inr rfl | assumption):PG X (.Name x pos) (gName i):=by
 intro pins s σ H v u Q I r h
 exact wpAny_assign_Name (store_ok I hN hi hx r (fun s' I'=>⟨_,H,I',h⟩) hf)
def gNil:TGs:=fun vs σ H Q=>vs=[]/\Q σ H
def gCons (t:TG)(u:TGs):TGs:=fun vs σ H Q=>∃v r,vs=v::r/\t v σ H fun σ' H'=>u r σ' H' Q
theorem pgs_nil:PGs X [] gNil:=by
 intro pins s σ H vs us Q I r h
 obtain⟨e,h⟩:=h
 subst e
 cases r
 exact assignInOrder_nil ⟨σ,H,I,h⟩
theorem pgs_cons {e:Expr}{es:List Expr}{t:TG}{u:TGs}(h1:PG X e t)(h2:PGs X es u)
 (hs:(assignEach (e::es) X.env).map (·.2)=assign e X.env::(assignEach es X.env).map (·.2):=by rfl):PGs X (e::es) (gCons t u):=by
 intro pins s σ H vs us Q I r h
 obtain⟨v,vr,e1,h⟩:=h
 subst e1
 cases r with
 | cons r rr=>
  rw[hs]
  refine assignInOrder_cons (thn (h1 pins s σ H _ _ _ I r h) fun _ s1 ⟨σ1,H1,I1,q1⟩=>?_)
  exact h2 pins s1 σ1 H1 _ _ Q I1 rr q1
def gTup (K:PySem.W.Frag)(n:Nat)(t:TGs):TG:=fun v σ H Q=>∃a xs,v = .ref a/\SqT K H a xs/\xs.length=n/\t xs σ H Q
theorem pg_tup {es:List Expr}{k:Nat}{t:TGs}{n:Nat}(hc:X.calm=true)(h:PGs X es t)
 (hn:(assignEach es X.env).length=n:=by rfl)(hst:(assignEach es X.env).findIdx? (·.1)=none:=by rfl):PG X (.Tuple es k pos) (gTup X.K n t):=by
 intro pins s σ H v u Q I r hw
 obtain⟨a,xs,e1,hq,hl,hw⟩:=hw
 subst e1
 cases r
 obtain⟨its,rv,ht,hz⟩:=I.tuple hq
 refine assign_Tuple_tuple (I.ok.hd hc) ht (by simp[hn,<-hl,rv.length]) hst fun h' hx=>?_
 have I1:Inv X pins σ H { s with heap:=h' }:=I.kept (t':=s.toks) fun b o e=>hx b o (Nat.ne_of_lt (Heap.lt_size e)) e
 exact h pins _ σ H xs _ Q I1 (by simpa using rv) hw
def gSub (to ti:TE)(t:TSet):TG:=fun v σ H Q=>to σ H fun o H1=>ti σ H1 fun i H2=>t o i v H2 fun H3=>Q σ H3
theorem pg_sub {o i:Expr}{to ti:TE}{t:TSet}(ho:PE X o to)(hi:PE X i ti)(hs:PSet X t)
 (ha:∀v,assign (.Subscript o i pos) X.env v=(do
  let ov <-holding [v] (eval o X.env)
  let iv <-holding [v,ov] (eval i X.env)
  standAt pos
  holding [v,ov,iv] (setItem ov iv v)
  release [v,ov,iv] []):=by intro _;rfl):PG X (.Subscript o i pos) (gSub to ti t):=by
 intro pins s σ H v u Q I r h
 rw[ha]
 refine wpAny_bind (wpAny_holding (thn (ho pins s σ H _ I h) fun ov s1 ⟨x,H1,I1,r1,q1⟩=>?_))
 refine wpAny_bind (wpAny_holding (thn (hi pins s1 σ H1 _ I1 q1) fun iv s2 ⟨y,H2,I2,r2,q2⟩=>?_))
 refine wpAny_bind (wpAny_standAt (wpAny_bind (wpAny_holding (thn (hs pins s2 σ H2 x y v ov iv u _ I2 r1 r2 r q2) fun _ s3 ⟨H3,I3,q3⟩=>?_))))
 exact wpAny_release ⟨σ,H3,I3,q3⟩
def tAsg (te:TE)(g:TG):TS:=fun D σ H=>te σ H fun x H1=>g x σ H1 D.nx
theorem ps_asg {tg e:Expr}{te:TE}{g:TG}(he:PE X e te)(hg:PG X tg g)(hs:swapsWithSole [tg] e pos.line X.env=pure false:=by rfl)(hw:swappedStores [tg] e X.env=pure none:=by rfl)
 (h1:(assignEach [tg] X.env).map (·.2)=[assign tg X.env]:=by rfl):PS X (.Assign [tg] e pos) (tAsg te g):=by
 intro pins s σ H D I h
 refine wpAny_Assign_stores (thn (he pins s σ H _ I h) fun v s1 ⟨x,H1,I1,r1,q1⟩=>?_) hs hw
 rw[h1]
 exact thn (hg pins s1 σ H1 x v _ I1 r1 q1) fun _ s2 q=>q
theorem ps_set {i:Nat}{x:Str}{e:Expr}{te:TE}{pos':Pos}(hN:X.N.Nodup)(hi:X.N[i]? = some x)(hx:Loc X.env.scope x)(he:PE X e te)(hs:swapsWith e (some (.Name x pos')) pos.line X.env=pure false:=by rfl)(hf:X.fn x=true\/X.env.scope.names.lookup x=some .local:=by first | exact .inl rfl | exact .inr rfl | assumption) :
 PS X (.Assign [.Name x pos'] e pos) (tAsg te (gName i)):=by
 intro pins s σ H D I h
 refine wpAny_Assign_Name (thn (he pins s σ H _ I h) fun v s1 ⟨y,H1,I1,r1,q1⟩=>?_) hs
 exact store_ok I1 hN hi hx r1 (fun s2 I2=>⟨_,H1,I2,q1⟩) hf
end
section
variable {X:Cx}{pos:Pos}
def tWhile (c:TT)(tb:TS):TS:=fun D σ H=>∃W:Nat->St->Hp->Prop,(∃m,W m σ H)/\∀m σ H,W m σ H ->
 c σ H fun b H1=>if b=true then ∃N:St->Hp->Prop,(∀ σ' H',N σ' H'->∃m',m'<m/\W m' σ' H')/\tb { D with nx:=N,ct:=N,bk:=D.nx } σ H1 else D.nx σ H1
theorem ps_while {c:Expr}{body:List Stmt}{tc:TT}{tb:TS}(hp:PassesOwn (model X.prog X.w) X.A X.env X.xe)(hc:PT X c tc)(hb:PSs X body tb):PS X (.While c body [] pos) (tWhile tc tb):=by
 intro pins s σ H D I h
 obtain⟨W,⟨m0,w0⟩,turn⟩:=h
 refine wpAny_While (codeAny_whileLoop (fun n s'=>∃ σ' H',Inv X pins σ' H' s'/\W n σ' H') ?_ m0 ⟨σ,H,I,w0⟩)
 rintro n s1 ⟨σ1,H1,I1,w1⟩
 refine wpAny_passesOwn hp (thn (hc pins s1 σ1 H1 _ I1 (turn n σ1 H1 w1)) fun b s2 ⟨H2,I2,q2⟩=>?_)
 cases b with
 | true=>
  obtain⟨N,hN,q2⟩:=q2
  rw[if_pos rfl]
  refine wpAny_passesOwn hp (thn (hb pins s2 σ1 H2 _ I2 q2) fun f s3 q3=>?_)
  cases f with
  | next=>
   obtain⟨σ3,H3,I3,n3⟩:=q3
   obtain⟨m',hm,w3⟩:=hN σ3 H3 n3
   exact⟨m',hm,σ3,H3,I3,w3⟩
  | cont=>
   obtain⟨σ3,H3,I3,n3⟩:=q3
   obtain⟨m',hm,w3⟩:=hN σ3 H3 n3
   exact⟨m',hm,σ3,H3,I3,w3⟩
  | brk=>exact q3
  | ret v=>exact q3
 | false=>
  rw[if_neg Bool.false_ne_true]
  exact wpAny_execs_nil ⟨σ1,H2,I2,q2⟩
end
structure It where
 go:Nat->Hp->Prop
 yld:Nat->Hp->V->Hp->Prop
 stop:Nat->Hp->Prop
def FpOk (X:Cx)(pins:List (Addr×Obj))(H:Hp)(b:Addr):Prop:=
 H b=none/\b≠X.env.locals/\b∉X.fs/\(b∈X.ex\/X.s₀.heap.objs.size<=b)/\(∀x c,X.env.cells.lookup x=some c->c≠b)/\∀p∈X.pn++pins,p.1≠b
theorem Inv.fpOk {X:Cx}{pins:List (Addr×Obj)}{σ:St}{H H':Hp}{s:Shared}{b:Addr}(I:Inv X pins σ H s)(hb:s.heap.objs.size<=b)(hn:H' b=none):FpOk X pins H' b:=by
 refine⟨hn,Nat.ne_of_gt (Nat.lt_of_lt_of_le I.lt hb),I.nofs hb,.inr (Nat.le_trans I.sz hb),fun x c e z=>?_,fun p hp z=>?_⟩
 . obtain⟨v,q⟩:=I.cell x c e
   exact absurd (Nat.lt_of_lt_of_le q.lt (by rw[z];exact hb)) (Nat.lt_irrefl _)
 . exact absurd (Nat.lt_of_lt_of_le (Heap.lt_size (I.pin p hp).1) (by rw[z];exact hb)) (Nat.lt_irrefl _)
structure Turn (P:Program)(w:World)(K:PySem.W.Frag)(tg:Expr)(J:It)(fp:List Addr)(it:Addr)(tn:Nat->Heap->Prop):Prop where
 mem:it∈fp
 obj:∀i h,tn i h->∀b∈fp,∃o,h.get? b=some o/\∀v,o.data ≠ .cell v
 keep:∀i h h',tn i h->(∀b∈fp,∀o,h.get? b=some o->h'.get? b=some o)->tn i h'
 item:∀(X:Cx),X.prog=P->X.w=w->X.K=K->X.calm=true->∀(i:Nat)(pins:List (Addr×Obj))(s:Shared)(σ:St)(H:Hp)(E:Value->Shared->Prop),Inv X pins σ H s->(∀b∈fp,FpOk X pins H b)->tn i s.heap->J.go i H ->
  wpAny (model P w) X.A (pyNext (.ref it)) (fun r s1=>∃u,r=some u /\
   wpAny (model P w) X.A (letOwnedTupleGo tg (.ref it) u) (fun _ s2=>∃x H',Inv X pins σ H' s2/\RelV x u/\J.yld i H x H'/\tn (i+1) s2.heap/\∀b∈fp,H' b=none) E s1) E s
 done:∀(X:Cx),X.prog=P->X.w=w->X.K=K->X.calm=true->∀(i:Nat)(pins:List (Addr×Obj))(s:Shared)(σ:St)(H:Hp)(E:Value->Shared->Prop),Inv X pins σ H s->(∀b∈fp,FpOk X pins H b)->tn i s.heap->J.stop i H ->
  wpAny (model P w) X.A (pyNext (.ref it)) (fun r s1=>r=none/\Inv X pins σ H s1) E s
 self:∀(A:Around)(i:Nat)(s:Shared)(Q:Value->Shared->Prop)(E:Value->Shared->Prop),tn i s.heap->Q (.ref it) s->wpAny (model P w) A (pyIter (.ref it)) Q E s
abbrev TI:=St->Hp->(It->Hp->Prop)->Prop
def PIE (X:Cx)(pins:List (Addr×Obj))(σ:St)(tg:Expr)(R:It->Hp->Prop)(itv:Value)(s2:Shared):Prop:=
 ∃(it:Addr)(fp:List Addr)(tn:Nat->Heap->Prop)(J:It)(H':Hp),itv = .ref it/\Inv X pins σ H' s2/\Turn X.prog X.w X.K tg J fp it tn/\tn 0 s2.heap/\(∀b∈fp,FpOk X pins H' b)/\R J H'
def PI (X:Cx)(tg iter:Expr)(wi:TI):Prop:=
 ∀(pins:List (Addr×Obj))(s:Shared)(σ:St)(H:Hp)(R:It->Hp->Prop),Inv X pins σ H s->wi σ H R ->
  wpAny (model X.prog X.w) X.A (eval iter X.env) (fun v s1=>wpAny (model X.prog X.w) X.A (pyIter v) (PIE X pins σ tg R) X.xe s1) X.xe s
theorem go_of {M:Model}{A:Around}{E:Value->Shared->Prop}{s:Shared}{tg:Expr}{it:Addr}{u:Value}{o:Obj}{n:String}{vs:Array Value}{Q:Unit->Shared->Prop}(ho:s.heap.get? it=some o)(hc:o.cls = .type n)(hd:o.data = .fields vs)
 (hn:["enumerate", "zip", "dict_itemiterator", "dict_reverseitemiterator", "odict_iterator", "itertools.zip_longest", "itertools.pairwise"].contains n=false) (hQ:Q () s):wpAny M A (letOwnedTupleGo tg (.ref it) u) Q E s:=by
 unfold letOwnedTupleGo
 cases tg <;> first
  | exact wpAny_pure hQ
  | (cases u <;> first
   | exact wpAny_pure hQ
   | (refine wpAny_bind (wpAny_load ho ?_)
      rw[hc,hd]
      show wpAny M A (if (["enumerate", "zip", "dict_itemiterator", "dict_reverseitemiterator", "odict_iterator", "itertools.zip_longest", "itertools.pairwise"].contains n && vs[0]? == some (rawInt _))=true then _ else _) Q E s
      rw[if_neg (by intro h;rw[hn,Bool.false_and] at h;cases h)]
      exact wpAny_pure hQ))
def Itl (K:PySem.W.Frag)(a:Addr):It:=
 ⟨fun i H=>∃xs x,SqL K H a xs/\xs[i]? = some x,fun i H x H'=>H'=H/\∀xs,SqL K H a xs->xs[i]? = some x,fun i H=>∃xs,SqL K H a xs/\xs.length<=i⟩
def Itt (K:PySem.W.Frag)(a:Addr):It:=
 ⟨fun i H=>∃xs x,SqT K H a xs/\xs[i]? = some x,fun i H x H'=>H'=H/\∀xs,SqT K H a xs->xs[i]? = some x,fun i H=>∃xs,SqT K H a xs/\xs.length<=i⟩
def Itr (lo:Int)(n:Nat):It:=⟨fun i _=>i<n,fun i H x H'=>H'=H/\x = .int (lo+i),fun i _=>n<=i⟩
theorem turn_list {P:Program}{w:World}{K:PySem.W.Frag}{tg:Expr}(a it:Addr):Turn P w K tg (Itl K a) [it] it (fun i h=>h.IsListIter it a i) where
 mem:=by simp
 obj:=fun i h st b hb=>by
  have e:b=it:=by simpa using hb
  subst e
  obtain⟨o,e,c,d⟩:=st
  exact⟨o,e,fun v z=>by rw[d] at z;cases z⟩
 keep:=fun i h h' st k=>st.at fun o e=>k it (by simp) o e
 item:=by
  intro X hP hw hK hc i pins s σ H E I hf st hg
  subst hP hw hK
  obtain⟨xs,x,hq,hx⟩:=hg
  obtain⟨its,rv,p,hz⟩:=I.list hq
  obtain⟨u,hu,ru⟩:=rv.get hx
  obtain⟨f0,f1,f2,f3,f4,f5⟩:=hf it (by simp)
  refine wpAny_pyNext_list_item st p.isList (x:=u) (by simpa using hu) fun h' st' sb=>?_
  have I1:Inv X pins σ H { s with heap:=h' }:=I.turned (t':=s.toks) (fun b o hb e=>(sb.2 b hb).trans e) f0 f1 f3 f4 f5
  obtain⟨o,e,c,d⟩:=id st'
  exact⟨u,rfl,go_of (s:={ s with heap:=h' }) e c d (by decide) ⟨x,H,I1,ru,⟨rfl,fun ys hy=>by rw[I.list_inj hy hq];exact hx⟩,st',fun b hb=>(hf b hb).1⟩⟩
 done:=by
  intro X hP hw hK hc i pins s σ H E I hf st hg
  subst hP hw hK
  obtain⟨xs,hq,hx⟩:=hg
  obtain⟨its,rv,p,hz⟩:=I.list hq
  obtain⟨f0,f1,f2,f3,f4,f5⟩:=hf it (by simp)
  have hl:=rv.length
  exact wpAny_pyNext_list_end (I.ok.hd hc) st p.isList (by simp;omega) fun h' eb=>⟨rfl,I.turned (t':=s.toks) (fun b o hb e=>eb b o hb e) f0 f1 f3 f4 f5⟩
 self:=fun _ _ _ _ _ st h=>wpAny_pyIter_listiter st h
theorem turn_tuple {P:Program}{w:World}{K:PySem.W.Frag}{tg:Expr}(a it:Addr):Turn P w K tg (Itt K a) [it] it (fun i h=>h.IsTupleIter it a i) where
 mem:=by simp
 obj:=fun i h st b hb=>by
  have e:b=it:=by simpa using hb
  subst e
  obtain⟨o,e,c,d⟩:=st
  exact⟨o,e,fun v z=>by rw[d] at z;cases z⟩
 keep:=fun i h h' st k=>st.at fun o e=>k it (by simp) o e
 item:=by
  intro X hP hw hK hc i pins s σ H E I hf st hg
  subst hP hw hK
  obtain⟨xs,x,hq,hx⟩:=hg
  obtain⟨its,rv,p,hz⟩:=I.tuple hq
  obtain⟨u,hu,ru⟩:=rv.get hx
  obtain⟨f0,f1,f2,f3,f4,f5⟩:=hf it (by simp)
  refine wpAny_pyNext_tuple_item st (show s.heap.IsTuple a its.toArray from p) (x:=u) (by simpa using hu) fun h' st' sb=>?_
  have I1:Inv X pins σ H { s with heap:=h' }:=I.turned (t':=s.toks) (fun b o hb e=>(sb.2 b hb).trans e) f0 f1 f3 f4 f5
  obtain⟨o,e,c,d⟩:=id st'
  exact⟨u,rfl,go_of (s:={ s with heap:=h' }) e c d (by decide) ⟨x,H,I1,ru,⟨rfl,fun ys hy=>by rw[I.tuple_inj hy hq];exact hx⟩,st',fun b hb=>(hf b hb).1⟩⟩
 done:=by
  intro X hP hw hK hc i pins s σ H E I hf st hg
  subst hP hw hK
  obtain⟨xs,hq,hx⟩:=hg
  obtain⟨its,rv,p,hz⟩:=I.tuple hq
  obtain⟨f0,f1,f2,f3,f4,f5⟩:=hf it (by simp)
  have hl:=rv.length
  exact wpAny_pyNext_tuple_end (I.ok.hd hc) st (show s.heap.IsTuple a its.toArray from p) (by simp;omega) fun h' eb=>⟨rfl,I.turned (t':=s.toks) (fun b o hb e=>eb b o hb e) f0 f1 f3 f4 f5⟩
 self:=fun _ _ _ _ _ st h=>wpAny_pyIter_tupleiter st h
theorem turn_range {P:Program}{w:World}{K:PySem.W.Frag}{tg:Expr}(it:Addr)(lo:Int)(n:Nat):Turn P w K tg (Itr lo n) [it] it (fun i h=>IsRangeIter h it (lo+(i:Nat)*1) ((n:Int)-(i:Nat)) 1) where
 mem:=by simp
 obj:=fun i h st b hb=>by
  have e:b=it:=by simpa using hb
  subst e
  exact⟨_,st,fun v z=>by
   have z':Data.fields _=Data.cell v:=z
   cases z'⟩
 keep:=fun i h h' st k=>k it (by simp) _ st
 item:=by
  intro X hP hw hK hc i pins s σ H E I hf st hg
  subst hP hw hK
  obtain⟨f0,f1,f2,f3,f4,f5⟩:=hf it (by simp)
  have W:=Walks.range (prog:=X.prog) (w:=X.w) (I.ok.hd hc) it lo 1 n
  refine W.item i s _ _ hg st fun v h' tk hv st' kk=>?_
  obtain⟨t,rfl⟩:=hv
  have I1:Inv X pins σ H { s with heap:=h',toks:=tk }:=I.turned (fun b o hb e=>kk b o (by simpa using hb) e) f0 f1 f3 f4 f5
  refine⟨_,rfl,go_of (s:={ s with heap:=h',toks:=tk }) (n := "range_iterator") st' rfl rfl (by decide) ⟨.int (lo+i),H,I1,⟨t,?_⟩,⟨rfl,rfl⟩,st',fun b hb=>(hf b hb).1⟩⟩
  rw[Int.mul_one]
 done:=by
  intro X hP hw hK hc i pins s σ H E I hf st hg
  subst hP hw hK
  obtain⟨f0,f1,f2,f3,f4,f5⟩:=hf it (by simp)
  exact wpAny_pyNext_range_end (I.ok.hd hc) st (by have:n<=i:=hg;omega) fun h' eb=>⟨rfl,I.turned (t':=s.toks) (fun b o hb e=>eb b o hb e) f0 f1 f3 f4 f5⟩
 self:=fun _ _ _ _ _ st h=>wpAny_pyIter_rangeiter st h
end L2
namespace L2
open PySem PySem.Spec PyProof.Rows
section
variable {X:Cx}{tg:Expr}
def iList (K:PySem.W.Frag)(tl:TE):TI:=fun σ H R=>tl σ H fun x H1=>∃a,x = .ref a/\(∃xs,SqL K H1 a xs)/\R (Itl K a) H1
def iTup (K:PySem.W.Frag)(tl:TE):TI:=fun σ H R=>tl σ H fun x H1=>∃a,x = .ref a/\(∃xs,SqT K H1 a xs)/\R (Itt K a) H1
theorem pi_list {l:Expr}{tl:TE}(hl:PE X l tl):PI X tg l (iList X.K tl):=by
 intro pins s σ H R I h
 refine thn (hl pins s σ H _ I h) fun v s1 ⟨x,H1,I1,r1,q1⟩=>?_
 obtain⟨a,e,⟨xs,hq⟩,q⟩:=q1
 subst e
 cases r1
 obtain⟨its,rv,p,hz⟩:=I1.list hq
 refine wpAny_pyIter_list p.isList ?_
 refine⟨s1.heap.objs.size,[s1.heap.objs.size],_,_,H1,rfl,I1.kept (t':=s1.toks) fun b o e=>Heap.get?_push_of_some _ e,turn_list a _,⟨_,Heap.get?_push_size _ rfl,rfl,rfl⟩,fun b hb=>?_,q⟩
 have e:b=s1.heap.objs.size:=by simpa using hb
 subst e
 exact I1.fpOk (Nat.le_refl _) (I1.hok.fresh (Nat.le_refl _))
theorem pi_tup {l:Expr}{tl:TE}(hl:PE X l tl):PI X tg l (iTup X.K tl):=by
 intro pins s σ H R I h
 refine thn (hl pins s σ H _ I h) fun v s1 ⟨x,H1,I1,r1,q1⟩=>?_
 obtain⟨a,e,⟨xs,hq⟩,q⟩:=q1
 subst e
 cases r1
 obtain⟨its,rv,p,hz⟩:=I1.tuple hq
 refine wpAny_pyIter_tuple (show s1.heap.IsTuple a its.toArray from p) ?_
 refine⟨s1.heap.objs.size,[s1.heap.objs.size],_,_,H1,rfl,I1.kept (t':=s1.toks) fun b o e=>Heap.get?_push_of_some _ e,turn_tuple a _,⟨_,Heap.get?_push_size _ rfl,rfl,rfl⟩,fun b hb=>?_,q⟩
 have e:b=s1.heap.objs.size:=by simpa using hb
 subst e
 exact I1.fpOk (Nat.le_refl _) (I1.hok.fresh (Nat.le_refl _))
theorem range_it {pins:List (Addr×Obj)}{σ:St}{H:Hp}{s:Shared}{R:It->Hp->Prop}{E:Value->Shared->Prop}{lo hi:Int}{t u v:Tok}{tk:Nat}(I:Inv X pins σ H s)(h1 : -(2 ^ 62)<=lo)(h2:lo<2 ^ 62)(h3 : -(2 ^ 62)<=hi)(h4:hi<2 ^ 62)
 (q:R (Itr lo (hi-lo).toNat) H):wpAny (model X.prog X.w) X.A (pyIter (.ref s.heap.objs.size)) (PIE X pins σ tg R) E { s with heap:=s.heap.push { cls:=.type "range",data:=.fields #[.int lo t,.int hi u,.int 1 v] },toks:=tk }:=by
 refine wpAny_pyIter_range (IsRange.new ..) (small_one h1 h2 h3 h4) ?_
 have I1:Inv X pins σ H { s with heap:=s.heap.push { cls:=.type "range",data:=.fields #[.int lo t,.int hi u,.int 1 v] },toks:=tk }:=I.kept fun b o e=>Heap.get?_push_of_some _ e
 refine⟨(s.heap.push { cls:=.type "range",data:=.fields #[.int lo t,.int hi u,.int 1 v] }).objs.size,[(s.heap.push { cls:=.type "range",data:=.fields #[.int lo t,.int hi u,.int 1 v] }).objs.size],_,_,H,rfl,
  I1.kept (t':=tk) fun b o e=>Heap.get?_push_of_some _ e,turn_range _ lo (hi-lo).toNat,?_,fun b hb=>?_,q⟩
 . have e1:lo+((0:Nat):Int)*1=lo:=by simp
   have e2:(((hi-lo).toNat:Nat):Int)-((0:Nat):Int)=Builtin.Range.rangeSize lo hi 1:=by rw[rangeSize_one];split <;> omega
   show IsRangeIter _ _ (lo+((0:Nat):Int)*1) ((((hi-lo).toNat:Nat):Int)-((0:Nat):Int)) 1
   rw[e1,e2]
   exact Heap.get?_push_size _ rfl
 . have e:b=(s.heap.push { cls:=.type "range",data:=.fields #[.int lo t,.int hi u,.int 1 v] }).objs.size:=by simpa using hb
   subst e
   exact I1.fpOk (Nat.le_refl _) (I1.hok.fresh (Nat.le_refl _))
def iRng1 (ta:TA):TI:=fun σ H R=>ta σ H fun vs H1=>∃j:Int,vs=[.int j] /\ -(2 ^ 62)<=j/\j<2 ^ 62/\R (Itr 0 j.toNat) H1
def iRng2 (ta:TA):TI:=fun σ H R=>ta σ H fun vs H1=>∃i j:Int,vs=[.int i,.int j]/\(-(2 ^ 62)<=i/\i<2 ^ 62 /\ -(2 ^ 62)<=j/\j<2 ^ 62)/\R (Itr i (j-i).toNat) H1
theorem pi_range1 {a:Expr}{ta:TA}{p pos:Pos}(hg:Gl X "range") (hm:X.mg "range" = none) (ha:PA X [a] ta)(hs:starEach [a] X.env=[(false,eval a X.env)]:=by rfl):PI X tg (.Call (.Name "range" p) [a] [] pos) (iRng1 ta):=by
 intro pins s σ H R I h
 refine Call_ (ld_blt I hg hm boot_range (PyProof.Rows.callWith_type1 (thn (ha pos pins s σ H _ I h) fun us s1 ⟨vs,H1,I1,r1,q1⟩=>?_) hs rfl))
 obtain⟨j,e,q1,q2,q⟩:=q1
 subst e
 cases r1 with
 | cons r rr=>
  cases rr
  obtain⟨t,rfl⟩:=r
  exact call_range_1 (range_it I1 (by omega) (by omega) q1 q2 (by simpa using q))
theorem pi_range2 {a b:Expr}{ta:TA}{p pos:Pos}(hg:Gl X "range") (hm:X.mg "range" = none) (ha:PA X [a,b] ta)(hs:starEach [a,b] X.env=[(false,eval a X.env),(false,eval b X.env)]:=by rfl)(hs2:starEach [b] X.env=[(false,eval b X.env)]:=by rfl) :
 PI X tg (.Call (.Name "range" p) [a,b] [] pos) (iRng2 ta):=by
 intro pins s σ H R I h
 refine Call_ (ld_blt I hg hm boot_range (PyProof.Rows.callWith_type1 (thn (ha pos pins s σ H _ I h) fun us s1 ⟨vs,H1,I1,r1,q1⟩=>?_) (by rw[hs,hs2]) (by rw[hs2];rfl)))
 obtain⟨i,j,e,⟨q1,q2,q3,q4⟩,q⟩:=q1
 subst e
 cases r1 with
 | cons r rr=>
  cases rr with
  | cons r' rr=>
   cases rr
   obtain⟨t,rfl⟩:=r
   obtain⟨t',rfl⟩:=r'
   exact call_range_2 (range_it I1 q1 q2 q3 q4 q)
def tFor (wi:TI)(g:TG)(tb:TS):TS:=fun D σ H=>wi σ H fun J H1=>∃W:Nat->Nat->St->Hp->Prop,(∃m,W 0 m σ H1)/\∀i m σ H,W i m σ H ->
 (J.stop i H/\D.nx σ H)\/(J.go i H/\∃N:St->Hp->Prop,(∀ σ' H',N σ' H'->∃m',m'<m/\W (i+1) m' σ' H')/\∀x H',J.yld i H x H'->g x σ H' fun σ2 H2=>tb { D with nx:=N,ct:=N,bk:=D.nx } σ2 H2)
def pinsAt (fp:List Addr)(h:Heap):List (Addr×Obj):=fp.filterMap fun b=>(h.get? b).map fun o=>(b,o)
theorem mem_pinsAt {fp:List Addr}{h:Heap}{b:Addr}{o:Obj}(hb:b∈fp)(e:h.get? b=some o):(b,o)∈pinsAt fp h:=List.mem_filterMap.mpr ⟨b,hb,by rw[e];rfl⟩
theorem of_pinsAt {fp:List Addr}{h:Heap}{p:Addr×Obj}(hp:p∈pinsAt fp h):p.1∈fp/\h.get? p.1=some p.2:=by
 obtain⟨b,hb,e⟩:=List.mem_filterMap.mp hp
 cases q:h.get? b with
 | none=>rw[q] at e;cases e
 | some o=>
  rw[q] at e
  have e':(b,o)=p:=Option.some.inj e
  subst e'
  exact⟨hb,q⟩
theorem Inv.pinned {pins:List (Addr×Obj)}{σ:St}{H:Hp}{s:Shared}{fp:List Addr}(I:Inv X pins σ H s)(hf:∀b∈fp,FpOk X pins H b)(ho:∀b∈fp,∃o,s.heap.get? b=some o/\∀v,o.data ≠ .cell v):Inv X (pins++pinsAt fp s.heap) σ H s:=
 I.pins_of fun p hp=>(List.mem_append.mp hp).elim (fun z=>I.pin p (List.mem_append_right _ z)) fun z=>by
  obtain⟨hb,e⟩:=of_pinsAt z
  obtain⟨f0,f1,f2,_⟩:=hf p.1 hb
  obtain⟨o,e',d⟩:=ho p.1 hb
  rw[e] at e';cases e'
  exact⟨e,f0,f1,f2,d⟩
theorem Inv.unpinned {pins pl:List (Addr×Obj)}{σ:St}{H:Hp}{s:Shared}(I:Inv X (pins++pl) σ H s):Inv X pins σ H s:=I.pins_of fun p hp=>I.pin p (List.mem_append_right _ (List.mem_append_left _ hp))
theorem ps_for {iter:Expr}{body:List Stmt}{wi:TI}{g:TG}{tb:TS}{pos:Pos}(hp:PassesOwn (model X.prog X.w) X.A X.env X.xe)(hc:X.calm=true)(hi:PI X tg iter wi)(hg:PG X tg g)(hb:PSs X body tb)
 (hs:∀x,foldedSetIterable iter X.env x=pure x:=by intro _;rfl):PS X (.For tg iter body [] pos) (tFor wi g tb):=by
 intro pins s σ H D I h
 refine wpAny_For (thn (hi pins s σ H _ I h) fun v s1 h1=>thn h1 fun itv s2 h2=>?_) hs
 obtain⟨it,fp,tn,J,H2,e,I2,T,st2,f2,W,⟨m0,w0⟩,turn⟩:=h2
 subst e
 have stat:∀{H':Hp},(∀b∈fp,H' b=none)->∀b∈fp,FpOk X pins H' b:=fun hn b hb=>⟨hn b hb,(f2 b hb).2⟩
 refine codeAny_forLoop_any (fun n s'=>∃i σ' H',Inv X pins σ' H' s'/\tn i s'.heap/\(∀b∈fp,H' b=none)/\W i n σ' H') ?_ m0 ⟨0,σ,H2,I2,st2,fun b hb=>(f2 b hb).1,w0⟩
 rintro n s3 ⟨i,σ3,H3,I3,st3,fr3,w3⟩
 rcases turn i n σ3 H3 w3 with ⟨stop,qn⟩ | ⟨go,N,hN,step⟩
 . refine wpAny_passesOwn hp (thn (T.done X rfl rfl rfl hc i pins s3 σ3 H3 X.xe I3 (stat fr3) st3 stop) fun r s4 ⟨hr,I4⟩=>?_)
   subst hr
   exact wpAny_execs_nil ⟨σ3,H3,I4,qn⟩
 . refine wpAny_passesOwn hp (thn (T.item X rfl rfl rfl hc i pins s3 σ3 H3 X.xe I3 (stat fr3) st3 go) fun r s4 ⟨u,hr,h4⟩=>?_)
   subst hr
   refine wpAny_passesOwn hp (thn h4 fun _ s5 ⟨x,H5,I5,r5,y5,st5,fr5⟩=>?_)
   have I5':=I5.pinned (stat fr5) (T.obj _ _ st5)
   refine wpAny_passesOwn hp (thn (hg _ s5 σ3 H5 x u _ I5' r5 (step x H5 y5)) fun _ s6 ⟨σ6,H6,I6,q6⟩=>?_)
   refine wpAny_passesOwn hp (thn (hb _ s6 σ6 H6 _ I6 q6) fun f s7 q7=>?_)
   have again:∀{σ7:St}{H7:Hp},Inv X (pins++pinsAt fp s5.heap) σ7 H7 s7->N σ7 H7->∃m,m<n/\∃i σ' H',Inv X pins σ' H' s7/\tn i s7.heap/\(∀b∈fp,H' b=none)/\W i m σ' H':=fun {σ7 H7} I7 n7=>by
    obtain⟨m',hm,w7⟩:=hN σ7 H7 n7
    refine⟨m',hm,i+1,σ7,H7,I7.unpinned,T.keep _ _ _ st5 fun b hb o e=>(I7.pin (b,o) (List.mem_append_right _ (List.mem_append_right _ (mem_pinsAt hb e)))).1,fun b hb=>?_,w7⟩
    obtain⟨o,e,d⟩:=T.obj _ _ st5 b hb
    exact (I7.pin (b,o) (List.mem_append_right _ (List.mem_append_right _ (mem_pinsAt hb e)))).2.1
   cases f with
   | next=>obtain⟨σ7,H7,I7,n7⟩:=q7;exact again I7 n7
   | cont=>obtain⟨σ7,H7,I7,n7⟩:=q7;exact again I7 n7
   | brk=>obtain⟨σ7,H7,I7,q7⟩:=q7;exact⟨σ7,H7,I7.unpinned,q7⟩
   | ret v=>obtain⟨x7,σ7,H7,I7,r7,q7⟩:=q7;exact⟨x7,σ7,H7,I7.unpinned,r7,q7⟩
end
theorem for_list {K:PySem.W.Frag}{a:Addr}{xs:List V}{g:TG}{tb:TS}{D:Ends}{σ:St}{H:Hp}(Pv:Nat->St->Hp->Prop)(h0:Pv 0 σ H)(hl:∀i σ H,i<=xs.length->Pv i σ H->SqL K H a xs)
 (hs:∀i x σ H,xs[i]? = some x->Pv i σ H->g x σ H fun σ2 H2=>tb { D with nx:=Pv (i+1),ct:=Pv (i+1),bk:=D.nx } σ2 H2)(hd:∀ σ H,Pv xs.length σ H->D.nx σ H) :
 ∃W:Nat->Nat->St->Hp->Prop,(∃m,W 0 m σ H)/\∀i m σ H,W i m σ H ->
  ((Itl K a).stop i H/\D.nx σ H)\/((Itl K a).go i H/\∃N:St->Hp->Prop,(∀ σ' H',N σ' H'->∃m',m'<m/\W (i+1) m' σ' H')/\∀x H',(Itl K a).yld i H x H'->g x σ H' fun σ2 H2=>tb { D with nx:=N,ct:=N,bk:=D.nx } σ2 H2):=by
 refine⟨fun i m σ H=>m=xs.length-i/\i<=xs.length/\Pv i σ H,⟨xs.length,by simp,Nat.zero_le _,h0⟩,?_⟩
 rintro i m σ H ⟨rfl,hi,p⟩
 have q:=hl i σ H hi p
 by_cases hlt:i<xs.length
 . refine .inr ⟨⟨xs,xs[i],q,by simp[hlt]⟩,Pv (i+1),fun σ' H' p'=>⟨xs.length-(i+1),by omega,rfl,hlt,p'⟩,fun x H' y=>?_⟩
   obtain⟨e,y⟩:=y
   subst e
   exact hs i x σ _ (y xs q) p
 . have e:i=xs.length:=by omega
   subst e
   exact .inl ⟨⟨xs,q,Nat.le_refl _⟩,hd σ H p⟩
theorem for_tup {K:PySem.W.Frag}{a:Addr}{xs:List V}{g:TG}{tb:TS}{D:Ends}{σ:St}{H:Hp}(Pv:Nat->St->Hp->Prop)(h0:Pv 0 σ H)(hl:∀i σ H,i<=xs.length->Pv i σ H->SqT K H a xs)
 (hs:∀i x σ H,xs[i]? = some x->Pv i σ H->g x σ H fun σ2 H2=>tb { D with nx:=Pv (i+1),ct:=Pv (i+1),bk:=D.nx } σ2 H2)(hd:∀ σ H,Pv xs.length σ H->D.nx σ H) :
 ∃W:Nat->Nat->St->Hp->Prop,(∃m,W 0 m σ H)/\∀i m σ H,W i m σ H ->
  ((Itt K a).stop i H/\D.nx σ H)\/((Itt K a).go i H/\∃N:St->Hp->Prop,(∀ σ' H',N σ' H'->∃m',m'<m/\W (i+1) m' σ' H')/\∀x H',(Itt K a).yld i H x H'->g x σ H' fun σ2 H2=>tb { D with nx:=N,ct:=N,bk:=D.nx } σ2 H2):=by
 refine⟨fun i m σ H=>m=xs.length-i/\i<=xs.length/\Pv i σ H,⟨xs.length,by simp,Nat.zero_le _,h0⟩,?_⟩
 rintro i m σ H ⟨rfl,hi,p⟩
 have q:=hl i σ H hi p
 by_cases hlt:i<xs.length
 . refine .inr ⟨⟨xs,xs[i],q,by simp[hlt]⟩,Pv (i+1),fun σ' H' p'=>⟨xs.length-(i+1),by omega,rfl,hlt,p'⟩,fun x H' y=>?_⟩
   obtain⟨e,y⟩:=y
   subst e
   exact hs i x σ _ (y xs q) p
 . have e:i=xs.length:=by omega
   subst e
   exact .inl ⟨⟨xs,q,Nat.le_refl _⟩,hd σ H p⟩
theorem for_range {lo:Int}{n:Nat}{g:TG}{tb:TS}{D:Ends}{σ:St}{H:Hp}(Pv:Nat->St->Hp->Prop)(h0:Pv 0 σ H)
 (hs:∀i σ H,i<n->Pv i σ H->g (.int (lo+i)) σ H fun σ2 H2=>tb { D with nx:=Pv (i+1),ct:=Pv (i+1),bk:=D.nx } σ2 H2)(hd:∀ σ H,Pv n σ H->D.nx σ H) :
 ∃W:Nat->Nat->St->Hp->Prop,(∃m,W 0 m σ H)/\∀i m σ H,W i m σ H ->
  ((Itr lo n).stop i H/\D.nx σ H)\/((Itr lo n).go i H/\∃N:St->Hp->Prop,(∀ σ' H',N σ' H'->∃m',m'<m/\W (i+1) m' σ' H')/\∀x H',(Itr lo n).yld i H x H'->g x σ H' fun σ2 H2=>tb { D with nx:=N,ct:=N,bk:=D.nx } σ2 H2):=by
 refine⟨fun i m σ H=>m=n-i/\i<=n/\Pv i σ H,⟨n,by simp,Nat.zero_le _,h0⟩,?_⟩
 rintro i m σ H ⟨rfl,hi,p⟩
 by_cases hlt:i<n
 . refine .inr ⟨hlt,Pv (i+1),fun σ' H' p'=>⟨n-(i+1),by omega,rfl,hlt,p'⟩,fun x H' y=>?_⟩
   obtain⟨e,y⟩:=y
   subst e y
   exact hs i σ _ hlt p
 . have e:i=n:=by omega
   subst e
   exact .inl ⟨Nat.le_refl _,hd σ H p⟩
end L2
namespace L2
open PySem PySem.Spec PyProof.Rows
abbrev R2:=V->V->Hp->VK->Prop
def OpR (X:Cx)(f:Value->Value->Sem Value)(r:R2):Prop:=
 ∀(pins:List (Addr×Obj))(s:Shared)(σ:St)(H:Hp)(x y:V)(v u:Value)(Q:VK),Inv X pins σ H s->RelV x v->RelV y u->r x y H Q ->
  wpAny (model X.prog X.w) X.A (f v u) (EP X pins σ Q) X.xe s
def CallR (X:Cx)(f:Value)(r:List V->Hp->VK->Prop):Prop:=
 ∀(pins:List (Addr×Obj))(s:Shared)(σ:St)(H:Hp)(xs:List V)(us:List Value)(Q:VK),Inv X pins σ H s->Vals xs us->r xs H Q ->
  wpAny (model X.prog X.w) X.A (call f us) (EP X pins σ Q) X.xe s
def TruR (X:Cx)(r:V->Hp->(Bool->Hp->Prop)->Prop):Prop:=
 ∀(pins:List (Addr×Obj))(s:Shared)(σ:St)(H:Hp)(x:V)(v:Value)(Q:Bool->Hp->Prop),Inv X pins σ H s->RelV x v->r x H Q ->
  wpAny (model X.prog X.w) X.A (truthy v) (TP X pins σ Q) X.xe s
def tOp (r:R2)(ta tb:TE):TE:=fun σ H Q=>ta σ H fun x H1=>tb σ H1 fun y H2=>r x y H2 Q
def rI (C:Int->Int->Prop)(g:Int->Int->V):R2:=fun x y H Q=>∃i j,x = .int i/\y = .int j/\C i j/\Q (g i j) H
def rI0 (g:Int->Int->V):R2:=fun x y H Q=>∃i j,x = .int i/\y = .int j/\Q (g i j) H
section
variable {X:Cx}{a b c:Expr}{ta tb tc:TE}{pos:Pos}
theorem binT (ha:PE X a ta)(hb:PE X b tb){pins:List (Addr×Obj)}{s:Shared}{σ:St}{H:Hp}{R:V->V->Hp->Prop}(I:Inv X pins σ H s)
 (h:ta σ H fun x H1=>tb σ H1 fun y H2=>R x y H2){Q:Value->Shared->Prop}{f:Value->Value->Sem Value}
 (hf:∀v u s2 x y H2,Inv X pins σ H2 s2->RelV x v->RelV y u->R x y H2->wpAny (model X.prog X.w) X.A (f v u) Q X.xe s2) :
 wpAny (model X.prog X.w) X.A (eval a X.env) (fun v s₁=>wpAny (model X.prog X.w) X.A (eval b X.env) (fun u s₂=>wpAny (model X.prog X.w) X.A (f v u) Q X.xe s₂) X.xe s₁) X.xe s:=by
 refine thn (ha pins s σ H _ I h) fun v s1 ⟨x,H1,I1,r1,q1⟩=>?_
 refine thn (hb pins s1 σ H1 _ I1 q1) fun u s2 ⟨y,H2,I2,r2,q2⟩=>?_
 exact hf v u s2 x y H2 I2 r1 r2 q2
theorem pe_op {op:Operator}{r:R2}(ho:OpR X (binaryOp op) r)(ha:PE X a ta)(hb:PE X b tb):PE X (.BinOp a op b pos) (tOp r ta tb):=by
 intro pins s σ H Q I h
 exact wpAny_BinOp (binT ha hb I h fun v u s2 x y H2 I2 rx ry q=>ho pins s2 σ H2 x y v u Q I2 rx ry q)
theorem opI {f:Value->Value->Sem Value}{C:Int->Int->Prop}{g:Int->Int->Int}
 (rule:∀(i j:Int)(t u:Tok)(s:Shared)(Q:Value->Shared->Prop)(E:Value->Shared->Prop),C i j->Q (.int (g i j) s.toks) { s with toks:=s.toks+1 }->wpAny (model X.prog X.w) X.A (f (.int i t) (.int j u)) Q E s) :
 OpR X f (rI C fun i j=>.int (g i j)):=by
 intro pins s σ H x y v u Q I rx ry h
 obtain⟨i,j,rfl,rfl,hc,q⟩:=h
 obtain⟨t,rfl⟩:=rx
 obtain⟨t',rfl⟩:=ry
 exact rule i j t t' s _ _ hc ⟨.int (g i j),H,I.tok _,⟨_,rfl⟩,q⟩
theorem opI0 {f:Value->Value->Sem Value}{g:Int->Int->Int}
 (rule:∀(i j:Int)(t u:Tok)(s:Shared)(Q:Value->Shared->Prop)(E:Value->Shared->Prop),Q (.int (g i j) s.toks) { s with toks:=s.toks+1 }->wpAny (model X.prog X.w) X.A (f (.int i t) (.int j u)) Q E s) :
 OpR X f (rI0 fun i j=>.int (g i j)):=by
 intro pins s σ H x y v u Q I rx ry h
 obtain⟨i,j,rfl,rfl,q⟩:=h
 obtain⟨t,rfl⟩:=rx
 obtain⟨t',rfl⟩:=ry
 exact rule i j t t' s _ _ ⟨.int (g i j),H,I.tok _,⟨_,rfl⟩,q⟩
theorem opB0 {f:Value->Value->Sem Value}{g:Int->Int->Bool}
 (rule:∀(i j:Int)(t u:Tok)(s:Shared)(Q:Value->Shared->Prop)(E:Value->Shared->Prop),Q (.bool (g i j)) s->wpAny (model X.prog X.w) X.A (f (.int i t) (.int j u)) Q E s) :
 OpR X f (rI0 fun i j=>.bl (g i j)):=by
 intro pins s σ H x y v u Q I rx ry h
 obtain⟨i,j,rfl,rfl,q⟩:=h
 obtain⟨t,rfl⟩:=rx
 obtain⟨t',rfl⟩:=ry
 exact rule i j t t' s _ _ ⟨.bl (g i j),H,I,rfl,q⟩
def CDiv (i j:Int):Prop:=0<j/\j<1073741824
def CPow (i j:Int):Prop:=0<=j/\j<=1000000/\i.natAbs<2 ^ 64
def CMul (i j:Int):Prop:=(-(2 ^ 64)<i/\i<2 ^ 64)\/(-(2 ^ 64)<j/\j<2 ^ 64)
theorem CMul.ok {i j:Int}(h:CMul i j):IntMulOk i j:=by
 rcases h with ⟨h1,h2⟩ | ⟨h1,h2⟩
 . exact .of_left (intBits_le_64 h1 h2)
 . exact .of_right (intBits_le_64 h1 h2)
theorem op_add:OpR X (binaryOp .Add) (rI0 fun i j=>.int (i+j)):=opI0 fun _ _ _ _ _ _ _ q=>add_int q
theorem op_sub:OpR X (binaryOp .Sub) (rI0 fun i j=>.int (i-j)):=opI0 fun _ _ _ _ _ _ _ q=>sub_int q
theorem op_mul:OpR X (binaryOp .Mult) (rI CMul fun i j=>.int (i*j)):=opI fun _ _ _ _ _ _ _ hc q=>mul_int q hc.ok
theorem op_fdiv:OpR X (binaryOp .FloorDiv) (rI CDiv fun i j=>.int (i/j)):=opI fun i j _ _ _ _ _ hc q=>by
 have h1:(0:Int)<j:=hc.1
 have h2:j<1073741824:=hc.2
 exact floordiv_int (by omega) (by rw[Int.fdiv_eq_ediv_of_nonneg i (by omega)];exact q) (.inl (PyProof.noPylong_small (by omega)))
theorem op_mod:OpR X (binaryOp .Mod) (rI (fun _ j=>0<j) fun i j=>.int (i%j)):=opI fun i j _ _ _ _ _ hc q=>by
 have h1:(0:Int)<j:=hc
 exact mod_int' (by omega) (by rw[Int.fmod_eq_emod_of_nonneg i (by omega)];exact q)
theorem op_pow:OpR X (binaryOp .Pow) (rI CPow fun i j=>.int (i ^ j.toNat)):=opI fun _ _ _ _ _ _ _ hc q=>pow_int_small hc.1 hc.2.1 hc.2.2 q
end
def scal:V->V->Bool
 | .non,.non=>true | .non,.int _=>true | .int _,.non=>true | .non,.bl _=>true | .bl _,.non=>true | .non,.str _=>true | .str _,.non=>true
 | .int _,.int _=>true | .bl _,.bl _=>true | .str _,.str _=>true | .byt _,.byt _=>true
 | .int _,.str _=>true | .str _,.int _=>true | .bl _,.str _=>true | .str _,.bl _=>true
 | _,_=>false
def rEq:R2:=fun x y H Q=>scal x y=true/\Q (.bl (decide (x=y))) H
def rNe:R2:=fun x y H Q=>scal x y=true/\Q (.bl (!decide (x=y))) H
theorem dec_int {i j:Int}:decide (V.int i=V.int j)=(i==j):=by
 rw[Bool.eq_iff_iff]
 simp
theorem dec_bl {i j:Bool}:decide (V.bl i=V.bl j)=(i==j):=by
 rw[Bool.eq_iff_iff]
 simp
theorem dec_str {i j:Str}:decide (V.str i=V.str j)=(i==j):=by
 rw[Bool.eq_iff_iff]
 simp
theorem dec_byt {i j:Array UInt8}:decide (V.byt i=V.byt j)=(i.toList==j.toList):=by
 rw[Bool.eq_iff_iff]
 cases i
 cases j
 simp
section
variable {X:Cx}{a b c:Expr}{ta tb tc:TE}{pos:Pos}
theorem fin_bl {pins:List (Addr×Obj)}{σ:St}{H:Hp}{s:Shared}{Q:VK}{k k':Bool}(I:Inv X pins σ H s)(q:Q (.bl k) H)(e:k=k'):EP X pins σ Q (.bool k') s:=by
 subst e
 exact⟨.bl k,H,I,rfl,q⟩
theorem op_eq:OpR X (compareOp .Eq) rEq:=by
 intro pins s σ H x y v u Q I rx ry h
 obtain⟨hs,q⟩:=h
 cases x with
 | non=>
  cases rx
  cases y with
  | non=>cases ry;exact PySem.EqNone.eq_none_none (fin_bl I q (by simp))
  | bl j=>cases ry;exact PySem.EqNone.eq_none_bool (fin_bl I q (by simp))
  | int j=>obtain⟨t',rfl⟩:=ry;exact PySem.EqNone.eq_none_int (fin_bl I q (by simp))
  | str j=>obtain⟨t',rfl⟩:=ry;exact PySem.EqNone.eq_none_str (fin_bl I q (by simp))
  | _=>exact absurd (show false=true from hs) Bool.false_ne_true
 | bl i=>
  cases rx
  cases y with
  | non=>cases ry;exact PySem.EqNone.eq_bool_none (fin_bl I q (by simp))
  | bl j=>cases ry;exact eq_bool (fin_bl I q dec_bl)
  | str j=>obtain⟨t',rfl⟩:=ry;exact PySem.EqMixed.eq_bool_str (fin_bl I q (by simp))
  | _=>exact absurd (show false=true from hs) Bool.false_ne_true
 | int i=>
  obtain⟨t,rfl⟩:=rx
  cases y with
  | non=>cases ry;exact PySem.EqNone.eq_int_none (fin_bl I q (by simp))
  | int j=>obtain⟨t',rfl⟩:=ry;exact eq_int (fin_bl I q dec_int)
  | str j=>obtain⟨t',rfl⟩:=ry;exact PySem.EqMixed.eq_int_str (fin_bl I q (by simp))
  | _=>exact absurd (show false=true from hs) Bool.false_ne_true
 | str i=>
  obtain⟨t,rfl⟩:=rx
  cases y with
  | non=>cases ry;exact PySem.EqNone.eq_str_none (fin_bl I q (by simp))
  | bl j=>cases ry;exact PySem.EqMixed.eq_str_bool (fin_bl I q (by simp))
  | int j=>obtain⟨t',rfl⟩:=ry;exact PySem.EqMixed.eq_str_int (fin_bl I q (by simp))
  | str j=>obtain⟨t',rfl⟩:=ry;exact eq_str (fin_bl I q dec_str)
  | _=>exact absurd (show false=true from hs) Bool.false_ne_true
 | byt i=>
  obtain⟨t,rfl⟩:=rx
  cases y with
  | byt j=>obtain⟨t',rfl⟩:=ry;exact PySem.W.eq_bytes (fin_bl I q dec_byt)
  | _=>exact absurd (show false=true from hs) Bool.false_ne_true
 | _=>cases y <;> exact absurd (show false=true from hs) Bool.false_ne_true
theorem op_ne:OpR X (compareOp .NotEq) rNe:=by
 intro pins s σ H x y v u Q I rx ry h
 obtain⟨hs,q⟩:=h
 cases x with
 | non=>
  cases rx
  cases y with
  | non=>cases ry;exact PySem.EqNone.ne_none_none (fin_bl I q (by simp))
  | bl j=>cases ry;exact PySem.EqNone.ne_none_bool (fin_bl I q (by simp))
  | int j=>obtain⟨t',rfl⟩:=ry;exact PySem.EqNone.ne_none_int (fin_bl I q (by simp))
  | str j=>obtain⟨t',rfl⟩:=ry;exact PySem.EqNone.ne_none_str (fin_bl I q (by simp))
  | _=>exact absurd (show false=true from hs) Bool.false_ne_true
 | bl i=>
  cases rx
  cases y with
  | non=>cases ry;exact PySem.EqNone.ne_bool_none (fin_bl I q (by simp))
  | bl j=>cases ry;exact ne_bool (fin_bl I q (congrArg not dec_bl))
  | str j=>obtain⟨t',rfl⟩:=ry;exact PySem.EqMixed.ne_bool_str (fin_bl I q (by simp))
  | _=>exact absurd (show false=true from hs) Bool.false_ne_true
 | int i=>
  obtain⟨t,rfl⟩:=rx
  cases y with
  | non=>cases ry;exact PySem.EqNone.ne_int_none (fin_bl I q (by simp))
  | int j=>obtain⟨t',rfl⟩:=ry;exact ne_int (fin_bl I q (congrArg not dec_int))
  | str j=>obtain⟨t',rfl⟩:=ry;exact PySem.EqMixed.ne_int_str (fin_bl I q (by simp))
  | _=>exact absurd (show false=true from hs) Bool.false_ne_true
 | str i=>
  obtain⟨t,rfl⟩:=rx
  cases y with
  | non=>cases ry;exact PySem.EqNone.ne_str_none (fin_bl I q (by simp))
  | bl j=>cases ry;exact PySem.EqMixed.ne_str_bool (fin_bl I q (by simp))
  | int j=>obtain⟨t',rfl⟩:=ry;exact PySem.EqMixed.ne_str_int (fin_bl I q (by simp))
  | str j=>obtain⟨t',rfl⟩:=ry;exact ne_str (fin_bl I q (congrArg not dec_str))
  | _=>exact absurd (show false=true from hs) Bool.false_ne_true
 | byt i=>
  obtain⟨t,rfl⟩:=rx
  cases y with
  | byt j=>obtain⟨t',rfl⟩:=ry;exact PySem.W.ne_bytes (fin_bl I q (congrArg not dec_byt))
  | _=>exact absurd (show false=true from hs) Bool.false_ne_true
 | _=>cases y <;> exact absurd (show false=true from hs) Bool.false_ne_true
theorem op_lt:OpR X (compareOp .Lt) (rI0 fun i j=>.bl (decide (i<j))):=opB0 fun _ _ _ _ _ _ _ q=>lt_int q
theorem op_le:OpR X (compareOp .LtE) (rI0 fun i j=>.bl (decide (i<=j))):=opB0 fun _ _ _ _ _ _ _ q=>le_int q
theorem op_gt:OpR X (compareOp .Gt) (rI0 fun i j=>.bl (decide (j<i))):=opB0 fun _ _ _ _ _ _ _ q=>gt_int q
theorem op_ge:OpR X (compareOp .GtE) (rI0 fun i j=>.bl (decide (j<=i))):=opB0 fun _ _ _ _ _ _ _ q=>ge_int q
theorem op_isN:OpR X (compareOp .Is) (fun x y H Q=>y = .non/\Q (.bl (decide (x = .non))) H):=by
 intro pins s σ H x y v u Q I rx ry h
 obtain⟨rfl,q⟩:=h
 cases ry
 refine is_none_gen (fin_bl I q ?_)
 cases x <;> first
  | (cases rx;rfl)
  | (obtain⟨t,rfl⟩:=rx;rfl)
theorem op_notN:OpR X (compareOp .IsNot) (fun x y H Q=>y = .non/\Q (.bl (!decide (x = .non))) H):=by
 intro pins s σ H x y v u Q I rx ry h
 obtain⟨rfl,q⟩:=h
 cases ry
 refine isnot_none_gen (fin_bl I q ?_)
 cases x <;> first
  | (cases rx;rfl)
  | (obtain⟨t,rfl⟩:=rx;rfl)
theorem nomark (b:Expr){op:CmpOp}(h:op ≠ .In:=by decide)(h2:op ≠ .NotIn:=by decide):behindInMarks op b=false:=by
 have e1:(op==CmpOp.In)=false:=by cases op <;> first | rfl | exact absurd rfl h
 have e2:(op==CmpOp.NotIn)=false:=by cases op <;> first | rfl | exact absurd rfl h2
 cases b <;> simp[behindInMarks,e1,e2]
theorem pe_cmpR {op:CmpOp}{r:R2}(ho:OpR X (compareOp op) r)(ha:PE X a ta)(hb:PE X b tb)(hm:behindInMarks op b=false):PE X (.Compare a [op] [b] pos) (tOp r ta tb):=by
 intro pins s σ H Q I h
 exact wpAny_Compare1 (binT ha hb I h fun v u s2 x y H2 I2 rx ry q=>ho pins s2 σ H2 x y v u Q I2 rx ry q) hm
def tTest (t:TE):TT:=fun σ H Q=>t σ H fun x H'=>∃k,x = .bl k/\Q k H'
theorem pt_cmpR {op:CmpOp}{r:R2}(ho:OpR X (compareOp op) r)(ha:PE X a ta)(hb:PE X b tb)(hm:behindInMarks op b=false):PT X (.Compare a [op] [b] pos) (tTest (tOp r ta tb)):=by
 intro pins s σ H Q I h
 refine wpAny_isTrue_Compare1 (thn (ha pins s σ H _ I h) fun v s1 ⟨x,H1,I1,r1,q1⟩=>thn (hb pins s1 σ H1 _ I1 q1) fun u s2 ⟨y,H2,I2,r2,q2⟩=>
  thn (ho pins s2 σ H2 x y v u _ I2 r1 r2 q2) fun c s3 ⟨z,H3,I3,r3,k,e,q3⟩=>?_) hm
 subst e
 cases r3
 exact wpAny_truthy_bool ⟨H3,I3,q3⟩
def TruV (K:PySem.W.Frag)(x:V)(H:Hp)(k:Bool):Prop:=
 match x with
 | .non=>k=false
 | .bl b=>k=b
 | .int i=>k=(i != 0)
 | .str y=>y.length<=sizeLine/\k=((y.length:Int) != 0)
 | .byt y=>y.size<=sizeLine/\k=((y.size:Int) != 0)
 | .ref p=>(∃xs,SqL K H p xs/\k = !xs.isEmpty)\/(∃xs,SqT K H p xs/\k = !xs.isEmpty)\/∃kvs,H p=some (.dK kvs)/\k = !kvs.isEmpty
 | _=>False
theorem isEmpty_kv {κ:Type}{kvs:List (κ×V)}{vs:List (κ×Value)}(r:KV kvs vs):(!vs.isEmpty) = !kvs.isEmpty:=by
 cases r <;> rfl
theorem isEmpty_of {xs:List V}{its:List Value}(r:Vals xs its):(!its.toArray.isEmpty) = !xs.isEmpty:=by
 cases r <;> simp
theorem line63:(sizeLine:Nat)<2 ^ 63:=by rw[sizeLine_eq];decide
theorem tru_ok:TruR X (fun x H Q=>∃k,TruV X.K x H k/\Q k H):=by
 intro pins s σ H x v Q I rx h
 obtain⟨k,e,q⟩:=h
 have hl:=line63
 have hs:sizeLine=16777216:=sizeLine_eq
 cases x with
 | non=>
  cases rx
  have e':k=false:=e
  subst e'
  exact truthy_none ⟨H,I,q⟩
 | bl b=>
  cases rx
  have e':k=b:=e
  subst e'
  exact wpAny_truthy_bool ⟨H,I,q⟩
 | int i=>
  obtain⟨t,rfl⟩:=rx
  have e':k=(i != 0):=e
  subst e'
  exact PySem.P.truthy_int ⟨H,I,q⟩
 | str y=>
  obtain⟨t,rfl⟩:=rx
  obtain⟨hy,e'⟩:y.length<=sizeLine/\k=((y.length:Int) != 0):=e
  subst e'
  exact PySem.P.truthy_str (by omega) ⟨H,I.tok _,q⟩
 | byt y=>
  obtain⟨t,rfl⟩:=rx
  obtain⟨hy,e'⟩:y.size<=sizeLine/\k=((y.size:Int) != 0):=e
  subst e'
  exact PySem.W.truthy_bytes (by omega) ⟨H,I.tok _,q⟩
 | ref p=>
  cases rx
  have e':(∃xs,SqL X.K H p xs/\k = !xs.isEmpty)\/(∃xs,SqT X.K H p xs/\k = !xs.isEmpty)\/∃kvs,H p=some (.dK kvs)/\k = !kvs.isEmpty:=e
  rcases e' with ⟨xs,hx,e'⟩ | ⟨xs,hx,e'⟩ | ⟨kvs,hx,e'⟩
  . subst e'
    obtain⟨its,r,pl,hz⟩:=I.list hx
    have hlen:=r.length
    exact wpAny_truthy_list pl.isList (by simp only[List.size_toArray];omega) ⟨H,I.tok _,by rw[isEmpty_of r];exact q⟩
  . subst e'
    obtain⟨its,r,pl,hz⟩:=I.tuple hx
    have hlen:=r.length
    exact truthy_tuple pl (by simp only[List.size_toArray];omega) ⟨H,I.tok _,by rw[isEmpty_of r];exact q⟩
  . subst e'
    obtain⟨hz,hS,vs,r,m⟩:kvs.length<=sizeLine/\(p==sysModules)=false/\∃vs,KV kvs vs/\s.heap.DictOf (mixKind X.prog X.w) p vs:=I.hok p _ hx
    have hlen:kvs.length=vs.length:=Paired.length r
    exact wpAny_truthy_dict hS m (by omega) ⟨H,I.tok _,by rw[isEmpty_kv r];exact q⟩
 | _=>exact (show False from e).elim
theorem pt_truth (ha:PE X a ta)(he:∀whole,isTrue a X.env whole=(do let v <-whole;standAt a.pos;holding [v] (truthy v))) :
 PT X a (fun σ H Q=>ta σ H fun x H'=>∃k,TruV X.K x H' k/\Q k H'):=by
 intro pins s σ H Q I h
 exact isTrue_plain (thn (ha pins s σ H _ I h) fun v s1 ⟨x,H1,I1,r1,q1⟩=>tru_ok pins s1 σ H1 x v Q I1 r1 q1) (he _)
theorem vals1 {x:V}{us:List Value}(r:Vals [x] us):∃u,us=[u]/\RelV x u:=by
 cases r with
 | cons r1 r2=>cases r2;exact⟨_,rfl,r1⟩
theorem vals2 {x y:V}{us:List Value}(r:Vals [x,y] us):∃u w',us=[u,w']/\RelV x u/\RelV y w':=by
 cases r with
 | cons r1 r2=>
  cases r2 with
  | cons r3 r4=>cases r4;exact⟨_,_,rfl,r1,r3⟩
theorem call_min2 (hc:X.calm=true):CallR X (.builtin "min") (fun xs H Q=>∃i j,xs=[.int i,.int j]/\Q (.int (if j<i then j else i)) H):=by
 intro pins s σ H xs us Q I r h
 obtain⟨i,j,rfl,q⟩:=h
 obtain⟨u,w',rfl,⟨t,rfl⟩,⟨t',rfl⟩⟩:=vals2 r
 refine min_two_ints (I.ok.hd hc) fun h' tk k=>⟨_,H,I.kept k,?_,q⟩
 by_cases hj:j<i
 . rw[if_pos hj,if_pos hj];exact⟨_,rfl⟩
 . rw[if_neg hj,if_neg hj];exact⟨_,rfl⟩
theorem call_int1:CallR X (.type "int") (fun xs H Q=>(∃i,xs=[.int i]/\Q (.int i) H)\/∃k,xs=[.bl k]/\Q (.int (if k then 1 else 0)) H):=by
 intro pins s σ H xs us Q I r h
 rcases h with ⟨i,rfl,q⟩ | ⟨k,rfl,q⟩
 . obtain⟨u,rfl,t,rfl⟩:=vals1 r
   exact call_int_int ⟨.int i,H,I,⟨_,rfl⟩,q⟩
 . obtain⟨u,rfl,r1⟩:=vals1 r
   cases r1
   exact call_int_bool ⟨.int (if k then 1 else 0),H,I.tok _,⟨_,rfl⟩,q⟩
end
end L2
namespace L2
open PySem PySem.Spec PyProof.Rows
structure ObjM (h:Heap)(x dx C:Addr)(mA:Str->Option Value):Prop where
 obj:h.get? x=some (PySem.W.instObj C dx)
 ns:h.Ns1 dx mA
 ne:dx≠x
theorem lookIn_ns {h:Heap}{dx:Addr}{mA:Str->Option Value}(n:h.Ns1 dx mA):∃od,h.get? dx=some od/\∀name,PySem.W.lookIn name od=some (mA name):=by
 obtain⟨o,es,ep,ho,hd,hk,_,hm⟩:=n
 refine⟨o,ho,fun name=>?_⟩
 have e:=hm name
 unfold nsFind findBy at e
 rw[<-Array.find?_toList] at e
 unfold PySem.W.lookIn
 rw[hd]
 dsimp only
 split
 . rename_i y q
   rw[q] at e
   exact congrArg some e
 . rename_i q
   rw[q] at e
   have a:es.toList.any (·.refKey)=false:=by
    rw[List.any_eq_false]
    intro y hy
    obtain⟨z,t,hkey⟩:=hk y (Array.mem_toList_iff.mp hy)
    simp[DictEntry.refKey,hkey]
   have a':¬ es.toList.any (·.refKey)=true:=by rw[a];exact Bool.false_ne_true
   rw[if_neg a']
   exact congrArg some e
theorem ObjM.look {h:Heap}{x dx C:Addr}{mA:Str->Option Value}(I:ObjM h x dx C mA):∃od,PySem.W.InstAt h x (PySem.W.instObj C dx) C (some od)/\∀name,PySem.W.lookIn name od=some (mA name):=
 let ⟨od,ho,hl⟩:=lookIn_ns I.ns
 ⟨od,⟨I.obj,rfl,rfl,ho⟩,hl⟩
section
variable {prog:Program}{w:World}{A:Around}{E:Value->Shared->Prop}{s:Shared}{K:PySem.W.Frag}{x dx C f:Addr}{mA:Str->Option Value}{name:Str}{v:Value}
end
theorem RelO.some_of {v:V}{o:Option Value}(r:RelO (some v) o):∃u,o=some u/\RelV v u:=by
 cases o with
 | none=>exact (show False from r).elim
 | some u=>exact⟨u,rfl,r⟩
section
variable {P:Program}{w:World}{H H':Hp}{h h':Heap}{a C dx:Addr}{fs fs':List (Str×V)}
theorem ins_get (hok:HOk P w H h)(e:H a=some (.ins C dx fs)):∃mA,ObjM h a dx C mA/\(∀f,RelO (fs.lookup f) (mA f))/\PySem.Within mA (fs.map (·.1))/\fs.length<=1000/\H dx=some (.own a):=by
 obtain⟨d,z,ne,ob,mA,n,r,q⟩:=(show ObjOk P w H h a (.ins C dx fs) from hok a _ e)
 exact⟨mA,⟨ob,n,ne⟩,r,q,z,d⟩
end
structure Cls (K:PySem.W.Frag)(C:Addr):Prop where
 pg:PySem.W.plainGet K C Str.empty=true
 hd:PySem.W.hasDictIn K C=true
 po:PySem.W.plainOver K C=true
 sa:PySem.W.findIn K (.ref C) "__setattr__" = some (some (.builtin "object.__setattr__"))
theorem Cls.get {K:PySem.W.Frag}{C:Addr}(c:Cls K C)(f:Str):PySem.W.plainGet K C f=true:=c.pg
section
variable {X:Cx}{pins:List (Addr×Obj)}{σ:St}{H:Hp}{s:Shared}{a C dx:Addr}{fs:List (Str×V)}{f:Str}{v:V}{A:Around}{E:Value->Shared->Prop}
end
section
variable {X:Cx}{o e value:Expr}{f:Str}{pos pos' tpos:Pos}{ta tv:TE}
end
section
variable {X:Cx}{pins:List (Addr×Obj)}{σ:St}{H:Hp}{s:Shared}{A:Around}{E:Value->Shared->Prop}{Q:Value->Shared->Prop}{c:Value}{b:Bool}
inductive TyOf (K:PySem.W.Frag)(H:Hp):V->Value->Prop where
 | non:TyOf K H .non (.type "NoneType")
 | bl (x:Bool):TyOf K H (.bl x) (.type "bool")
 | int (i:Int):TyOf K H (.int i) (.type "int")
 | str (x:Str):TyOf K H (.str x) (.type "str")
 | flt (x:UInt64):TyOf K H (.flt x) (.type "float")
 | lst {a:Addr}{xs:List V}(e:H a=some (.lst xs)):TyOf K H (.ref a) (.type "list")
 | frz {a:Addr}{o:Obj}{xs:List V}(e:H a=some (.frz o (.lst xs))):TyOf K H (.ref a) (.type "list")
 | tup {a:Addr}{xs:List V}(e:H a=some (.tup xs)):TyOf K H (.ref a) (.type "tuple")
 | dK {a:Addr}{kvs:List (Key×V)}(e:H a=some (.dK kvs)):TyOf K H (.ref a) (.type "dict")
 | dT {a:Addr}{kvs:List (List Key×V)}(e:H a=some (.dT kvs)):TyOf K H (.ref a) (.type "dict")
 | ins {a C dx:Addr}{fs:List (Str×V)}(e:H a=some (.ins C dx fs))(cl:Cls K C)(ha:PySem.W.findIn K (.ref C) "__class__" = some (some (.builtin "object.__class__")))
  (hn:PySem.W.specialIn K (.builtin "object.__class__") "__get__" = some (some (.builtin "getset_descriptor.__get__"))) (htk:PySem.W.takesIn K (.builtin "object.__class__")=some true)
  (hm:PySem.W.mroIn K C (.type "object")=some true):TyOf K H (.ref a) (.ref C)
theorem isinst_ok {x:V}{u t:Value}(I:Inv X pins σ H s)(rx:RelV x u)(ty:TyOf X.K H x t)(e:PySem.W.kitOne X.K t c=some b)(h:∀tk,Q (.bool b) { s with toks:=tk }) :
 wpAny (model X.prog X.w) A (call (.builtin "isinstance") [u,c]) Q E s:=by
 cases ty with
 | non=>cases (show u=Value.none from rx);exact PySem.W.kia_one PySem.W.kitx_none I.kIn True.intro e (fun z=>nomatch z) h
 | bl y=>cases (show u=Value.bool y from rx);exact PySem.W.kia_one PySem.W.kitx_bool I.kIn True.intro e (fun z=>nomatch z) h
 | int i=>obtain⟨t,q⟩:=(show ∃t,u=Value.int i t from rx);cases q;exact PySem.W.kia_one PySem.W.kitx_int I.kIn True.intro e (fun z=>nomatch z) h
 | str y=>obtain⟨t,q⟩:=(show ∃t,u=Value.str y t from rx);cases q;exact PySem.W.kia_one PySem.W.kitx_str I.kIn True.intro e (fun z=>nomatch z) h
 | flt y=>obtain⟨t,q⟩:=(show ∃t,u=Value.float y t from rx);cases q;exact PySem.W.kia_one PySem.W.kitx_float I.kIn True.intro e (fun z=>nomatch z) h
 | @lst a xs ea=>
  cases (show u=Value.ref a from rx)
  obtain⟨_,_,n,_,h1⟩:=(show ObjOk X.prog X.w H s.heap a (.lst xs) from I.hok a _ ea)
  exact PySem.W.kia_one PySem.W.kitx_list I.kIn ⟨_,h1,rfl⟩ e (fun z=>nomatch z) h
 | @frz a ob xs ea=>
  cases (show u=Value.ref a from rx)
  obtain⟨_,_,_,n,_,h1⟩:=(show ObjOk X.prog X.w H s.heap a (.frz ob (.lst xs)) from I.hok a _ ea)
  exact PySem.W.kia_one PySem.W.kitx_list I.kIn ⟨_,h1,rfl⟩ e (fun z=>nomatch z) h
 | @tup a xs ea=>
  cases (show u=Value.ref a from rx)
  obtain⟨_,_,_,p⟩:=(show ObjOk X.prog X.w H s.heap a (.tup xs) from I.hok a _ ea)
  obtain⟨o,h1,h2,_⟩:=p
  exact PySem.W.kia_one PySem.W.kitx_tuple I.kIn ⟨o,h1,h2⟩ e (fun z=>nomatch z) h
 | @dK a kvs ea=>
  cases (show u=Value.ref a from rx)
  obtain⟨_,_,vs,_,p⟩:=(show ObjOk X.prog X.w H s.heap a (.dK kvs) from I.hok a _ ea)
  obtain⟨o,es,ep,h1,h2,_⟩:=p
  exact PySem.W.kia_one PySem.W.kitx_dict I.kIn ⟨o,h1,h2.1⟩ e (fun z=>nomatch z) h
 | @dT a kvs ea=>
  cases (show u=Value.ref a from rx)
  obtain⟨_,_,xs,_,o,es,ep,h1,h2,_⟩:=(show ObjOk X.prog X.w H s.heap a (.dT kvs) from I.hok a _ ea)
  exact PySem.W.kia_one PySem.W.kitx_dict I.kIn ⟨o,h1,h2.1⟩ e (fun z=>nomatch z) h
 | @ins a C dx fs ea cl ha hn htk hm=>
  cases (show u=Value.ref a from rx)
  obtain⟨mA,O,_⟩:=ins_get I.hok ea
  obtain⟨od,J,_⟩:=O.look
  exact PySem.W.kia_one (PySem.W.kitx_own (cl.get _) cl.hd ha hn htk hm) I.kIn J e (fun z=>nomatch z) h
end
end L2
namespace L2
open PySem PySem.Spec PyProof.Rows
structure Room (k:Nat)(A:Around):Prop where
 hd:A.handled=none
 dp:A.depth+3*k+5<recursionLimit
 un:A.units+16*k+200<cLine
 gd:A.guards=some []
theorem Room.mono {j k:Nat}{A:Around}(r:Room k A)(h:j<=k):Room j A:=⟨r.hd,by have:=r.dp;omega,by have:=r.un;omega,r.gd⟩
theorem Room.deeper {k:Nat}{A:Around}(r:Room (k+1) A)(env:Env):Room k (A.deeper env):=
 ⟨r.hd,by have:=r.dp;show A.depth+1+3*k+5<_;omega,by have:=r.un;show A.units+3+16*k+200<_;omega,r.gd⟩
theorem Room.in1 {k:Nat}{A:Around}(r:Room (k+1) A):Room k A.in1:=
 ⟨r.hd,by have:=r.dp;show A.depth+3*k+5<_;omega,by have:=r.un;show A.units+1+16*k+200<_;omega,r.gd⟩
theorem Room.depth {k:Nat}{A:Around}(r:Room k A):A.depth<recursionLimit:=by have:=r.dp;omega
theorem Room.units {k:Nat}{A:Around}(r:Room k A):A.units+64<cLine:=by have:=r.un;omega
theorem Room.units0 {k:Nat}{A:Around}(r:Room k A):A.units<cLine:=by have:=r.un;omega
def tNil:TA:=fun _ H Q=>Q [] H
def tCons (ta:TE)(tr:TA):TA:=fun σ H Q=>ta σ H fun x H1=>tr σ H1 fun xs H2=>Q (x::xs) H2
section
variable {X:Cx}{e:Expr}{es:List Expr}{te:TE}{t:TA}{pos:Pos}
theorem pa_nil:PA X [] tNil:=fun _ _ _ _ H Q I h=>Calls.spliced_nil ⟨[],H,I,.nil,h⟩
theorem pa_cons (ha:PE X e te)(hr:PA X es t)(hs:starEach (e::es) X.env=(false,eval e X.env)::starEach es X.env:=by rfl):PA X (e::es) (tCons te t):=by
 intro pos pins s σ H Q I h
 rw[hs]
 show wpAny _ _ (spliced ((false,eval e X.env)::backTo pos (starEach es X.env))) _ _ s
 refine Calls.spliced_cons (thn (ha pins s σ H _ I h) fun u s1 ⟨x,H1,I1,r1,q1⟩=>?_)
 exact thn (hr pos pins s1 σ H1 _ I1 q1) fun us s2 ⟨xs,H2,I2,r2,q2⟩=>⟨x::xs,H2,I2,.cons r1 r2,q2⟩
def tTup (t:TA):TE:=fun σ H Q=>t σ H fun xs H1=>xs.length<=sizeLine/\∀p,H1 p=none->Q (.ref p) (upd H1 p (.tup xs))
def tLst (t:TA):TE:=fun σ H Q=>t σ H fun xs H1=>xs.length<=sizeLine/\∀p,H1 p=none->Q (.ref p) (upd H1 p (.lst xs))
theorem pe_tup {x1} (h:PA X es t):PE X (.Tuple es x1 pos) (tTup t):=by
 intro pins s σ H Q I hq
 refine wpAny_Tuple_spliced (thn (h pos pins s σ H _ I hq) fun us s1 ⟨xs,H1,I1,r,z,q⟩=>⟨by rw[<-r.length];exact z,?_⟩)
 have hf:H1 s1.heap.objs.size=none:=I1.hok.fresh (Nat.le_refl _)
 refine⟨.ref s1.heap.objs.size,upd H1 s1.heap.objs.size (.tup xs),I1.laid (t':=s1.toks) (fun b u e=>Heap.get?_push_of_some _ e) (Nat.le_refl _) ?_,rfl,q _ hf⟩
 exact⟨⟨z,_,Heap.get?_push_size _ rfl,rfl⟩,us,r,⟨_,Heap.get?_push_size _ rfl,rfl,_,rfl⟩⟩
theorem pe_lst (h:PA X es t):PE X (.List es pos) (tLst t):=by
 intro pins s σ H Q I hq
 refine wpAny_List_spliced (thn (h pos pins s σ H _ I hq) fun us s1 ⟨xs,H1,I1,r,z,q⟩=>⟨by rw[<-r.length];exact z,?_⟩)
 have hf:H1 s1.heap.objs.size=none:=I1.hok.fresh (Nat.le_refl _)
 refine⟨.ref s1.heap.objs.size,upd H1 s1.heap.objs.size (.lst xs),I1.laid (t':=s1.toks) (fun b u e=>Heap.get?_push_of_some _ e) (Nat.le_refl _) ?_,rfl,q _ hf⟩
 exact⟨z,us,0,r,Heap.get?_push_size _ rfl⟩
end
abbrev Sp:=List V->Hp->VK->XK->Prop
abbrev CXT:=List Env->Hp->Shared->XK->Value->Shared->Prop
structure Env0 (P:Program)(w:World)(K:PySem.W.Frag)(mg:Str->Option Value)(base:Heap)(A:Around)(outer:List Env)(s:Shared)(H:Hp):Prop where
 frames:A.frames=some outer
 mod:Mod K mg base
 bs:∀b o,base.get? b=some o->s.heap.get? b=some o/\H b=none
 bsz:base.objs.size<=s.heap.objs.size
 funs:s.heap.FunFrames base outer
 frf:∀b∈frs outer,H b=none
 hok:HOk P w H s.heap
 bare:AllBare s.gens
def CE (outer:List Env)(P:Program)(w:World)(H:Hp)(s:Shared)(Q:VK)(u:Value)(s':Shared):Prop:=
 ∃v H',s'.os=s.os/\AllBare s'.gens/\Un (frs outer) [] H H' s.heap s'.heap/\HOk P w H' s'.heap/\RelV v u/\Q v H'
def CR (CX:CXT)(outer:List Env)(P:Program)(w:World)(H:Hp)(s:Shared)(Q:VK)(E:XK)(r:Result)(s':Shared):Prop:=
 match r with
 | .ok (.ret u)=>CE outer P w H s Q u s'
 | .ok _=>False
 | .error e=>CX outer H s E e s'
structure FnOk (P:Program)(w:World)(K:PySem.W.Frag)(mg:Str->Option Value)(base:Heap)(CX:CXT)(k:Nat)(f:Addr)(fd:FuncData)(ps:List Str)(sp:Sp):Prop where
 len:∀vs H Q E,sp vs H Q E->vs.length=ps.length
 run:∀(A:Around)(outer:List Env)(s:Shared)(H:Hp)(args:Args)(us:List Value)(vs:List V)(Q:VK)(E:XK),Room k A->Env0 P w K mg base A outer s H->BindsTo s fd args (ps.zip us)->Vals vs us->sp vs H Q E ->
  codeAny (model P w) A (.call (.ref f) args) (CR CX outer P w H s Q E) s
theorem FnOk.mono {P:Program}{w:World}{K:PySem.W.Frag}{mg:Str->Option Value}{base:Heap}{CX:CXT}{j k:Nat}{f:Addr}{fd:FuncData}{ps:List Str}{sp:Sp}(F:FnOk P w K mg base CX j f fd ps sp)(h:j<=k) :
 FnOk P w K mg base CX k f fd ps sp:=⟨F.len,fun A outer s H args us vs Q E hr=>F.run A outer s H args us vs Q E (hr.mono h)⟩
theorem FnOk.imp {P:Program}{w:World}{K:PySem.W.Frag}{mg:Str->Option Value}{base:Heap}{CX:CXT}{k:Nat}{f:Addr}{fd:FuncData}{ps:List Str}{sp sp':Sp}(F:FnOk P w K mg base CX k f fd ps sp)
 (h:∀vs H Q E,sp' vs H Q E->sp vs H Q E):FnOk P w K mg base CX k f fd ps sp':=
 ⟨fun vs H Q E q=>F.len vs H Q E (h _ _ _ _ q),fun A outer s H args us vs Q E hr he hb hv hs=>F.run A outer s H args us vs Q E hr he hb hv (h _ _ _ _ hs)⟩
section
variable {X:Cx}{pins:List (Addr×Obj)}{σ:St}{H:Hp}{s s':Shared}
theorem Inv.env0 (I:Inv X pins σ H s):Env0 X.prog X.w X.K X.mg X.base X.A X.stack s H:=
 ⟨I.ok.frames,I.ok.mod,I.bs,Nat.le_trans I.ok.bsz I.sz,I.stack,I.stkFree,I.hok,I.bare⟩
theorem Inv.after {Q:VK}{u:Value}(I:Inv X pins σ H s)(h:CE X.stack X.prog X.w H s Q u s'):EP X pins σ Q u s':=by
 obtain⟨v,H',os,bare,un,hok,r,q⟩:=h
 obtain⟨hh,g,d,t,os'⟩:=s'
 obtain rfl:os'=s.os:=os
 exact⟨v,H',I.call (h':=hh) (g':=g) (d':=d) (t':=t) (ch:=[]) un hok bare (fun b z=>absurd z (by simp)),r,q⟩
end
def tCall (sp:Sp)(dvs:List V)(E:XK)(t:TA):TE:=fun σ H Q=>t σ H fun vs H1=>sp (vs++dvs) H1 Q E
def Binds (K:PySem.W.Frag)(fd:FuncData)(ps:List Str)(ds:List Value):Prop:=
 ∀(s:Shared)(us:List Value),K.In s.heap->(us++ds).length=ps.length->BindsTo s fd ⟨us,[]⟩ (ps.zip (us++ds))
theorem Binds.all {K:PySem.W.Frag}{fd:FuncData}{ps:List Str}(h:∀us:List Value,us.length=ps.length->bindArgs fd ⟨us,[]⟩=pure (ps.zip us)):Binds K fd ps []:=fun s us _ hl=>by
 rw[List.append_nil] at hl ⊢
 exact .of_eq (h us hl)
def Passes (CX:CXT)(X:Cx)(E:XK):Prop:=∀(pins:List (Addr×Obj))(σ:St)(H:Hp)(s:Shared)(e:Value)(s':Shared),Inv X pins σ H s->CX X.stack H s E e s'->X.xe e s'
section
variable {X:Cx}{CX:CXT}{k:Nat}{f C:Addr}{fd:FuncData}{ps:List Str}{sp:Sp}{dvs:List V}{ds:List Value}{E:XK}{x m:Str}{p pos apos:Pos}{e o:Expr}{es:List Expr}{ta:TE}{t:TA}
theorem run_fn {pins:List (Addr×Obj)}{σ:St}{H:Hp}{s:Shared}{Q:VK}{us:List Value}{vs:List V}(F:FnOk X.prog X.w X.K X.mg X.base CX k f fd ps sp)(hr:Room k X.A)(hb:Binds X.K fd ps ds)(hd:Vals dvs ds)(hx:Passes CX X E)
 (I:Inv X pins σ H s)(r:Vals vs us)(h:sp (vs++dvs) H Q E):wpAny (model X.prog X.w) X.A (call (.ref f) us) (EP X pins σ Q) X.xe s:=by
 have r2:Vals (vs++dvs) (us++ds):=r.append hd
 have hl:(us++ds).length=ps.length:=by rw[<-r2.length];exact F.len _ _ _ _ h
 refine wpAny_call (codeAny_mono (F.run X.A X.stack s H ⟨us,[]⟩ (us++ds) (vs++dvs) Q E hr I.env0 (hb s us I.kIn hl) r2 h) fun r s' hq=>?_)
 cases r with
 | error e=>exact hx pins σ H s e s' I hq
 | ok fl=>
  cases fl with
  | ret u=>exact I.after hq
  | next=>exact False.elim hq
  | brk=>exact False.elim hq
  | cont=>exact False.elim hq
theorem pe_call (F:FnOk X.prog X.w X.K X.mg X.base CX k f fd ps sp)(hr:Room k X.A)(hg:Gl X x)(hm:X.mg x=some (.ref f))(hk:PySem.W.keepIn X.K (.ref f)=true)(hb:Binds X.K fd ps ds)(hd:Vals dvs ds)(hx:Passes CX X E)
 (ha:PA X (e::es) t)(hdb:(x==("__debug__" : Str))=false:=by decide) (he:starEach (e::es) X.env=(false,eval e X.env)::starEach es X.env:=by rfl)(hpl:(backTo pos (starEach es X.env)).any (·.1)=false:=by rfl) :
 PE X (.Call (.Name x p) (e::es) [] pos) (tCall sp dvs E t):=by
 intro pins s σ H Q I h
 refine wpAny_Call_Name_kw (ld_glob I hg hm ?_ hdb)
 refine PySem.W.callWith_K (h₀:=X.base) I.ok.mod.kin hk (thn (ha pos pins s σ H _ I h) fun us s1 ⟨vs,H1,I1,r,q⟩=>⟨I1.kIn,?_⟩) he hpl
 exact run_fn F hr hb hd hx I1 r q
end
section
variable {X:Cx}{CX:CXT}{k:Nat}{f C:Addr}{fd:FuncData}{ps ks:List Str}{sp:Sp}{E:XK}{x m:Str}{p pos apos kpos:Pos}{e o:Expr}{es:List Expr}{kws:List Keyword}{te ta:TE}{t tk:TA}{nm:Option Str}
variable {g:List Value->List Value->List Value}{gV:List V->List V->List V}
end
structure FnScope (N P:List Str)(sc:Scope):Prop where
 kind:sc.kind = .function
 co:sc.isCoroutine=false
 gen:sc.isGenerator=false
 nd:N.Nodup
 pre:N.take P.length=P
 par:∀x∈P,sc.names.lookup x=some .local\/sc.names.lookup x=some .cell
 nofree:∀y∈sc.names,y.2 ≠ .free
theorem bindL_out {kindOf:Str->Option NameKind}{x:Str}:∀{binds:List (Str×Value)}{m:Str->Option Value},(∀v,(x,v)∉binds)->bindL kindOf binds m x=m x
 | [],_,_=>rfl
 | (n,v)::r,m,h=>by
  unfold bindL
  rw[bindL_out fun w hw=>h w (List.mem_cons_of_mem _ hw)]
  split
  . have:x≠n:=by rintro rfl;exact h v List.mem_cons_self
    simp[this]
  . rfl
theorem bindC_out {kindOf:Str->Option NameKind}{x:Str}:∀{binds:List (Str×Value)}{m:Str->Option Value},(∀v,(x,v)∉binds)->bindC kindOf binds m x=m x
 | [],_,_=>rfl
 | (n,v)::r,m,h=>by
  unfold bindC
  rw[bindC_out fun w hw=>h w (List.mem_cons_of_mem _ hw)]
  split
  . rfl
  . have:x≠n:=by rintro rfl;exact h v List.mem_cons_self
    simp[this]
theorem bindL_get {kindOf:Str->Option NameKind}{x:Str}{v:Value}:∀{P:List Str}{vs:List Value}{i:Nat}{m:Str->Option Value},P.Nodup->P[i]? = some x->vs[i]? = some v->kindOf x=some .local ->
 bindL kindOf (P.zip vs) m x=some v
 | [],_,_,_,_,h,_,_=>by simp at h
 | _::_,[],_,_,_,_,h,_=>by simp at h
 | p::P,w::vs,0,m,nd,h1,h2,hk=>by
  simp at h1 h2;subst h1;subst h2
  show bindL kindOf ((p,w)::P.zip vs) m p=_
  unfold bindL
  rw[bindL_out fun v hv=>(List.nodup_cons.mp nd).1 (List.of_mem_zip hv).1,if_pos hk]
  simp
 | p::P,w::vs,i+1,m,nd,h1,h2,hk=>by
  show bindL kindOf ((p,w)::P.zip vs) m x=_
  unfold bindL
  exact bindL_get (i:=i) (List.nodup_cons.mp nd).2 (by simpa using h1) (by simpa using h2) hk
theorem bindC_get {kindOf:Str->Option NameKind}{x:Str}{v:Value}:∀{P:List Str}{vs:List Value}{i:Nat}{m:Str->Option Value},P.Nodup->P[i]? = some x->vs[i]? = some v->kindOf x≠some .local ->
 bindC kindOf (P.zip vs) m x=some v
 | [],_,_,_,_,h,_,_=>by simp at h
 | _::_,[],_,_,_,_,h,_=>by simp at h
 | p::P,w::vs,0,m,nd,h1,h2,hk=>by
  simp at h1 h2;subst h1;subst h2
  show bindC kindOf ((p,w)::P.zip vs) m p=_
  unfold bindC
  rw[bindC_out fun v hv=>(List.nodup_cons.mp nd).1 (List.of_mem_zip hv).1,if_neg hk]
  simp
 | p::P,w::vs,i+1,m,nd,h1,h2,hk=>by
  show bindC kindOf ((p,w)::P.zip vs) m x=_
  unfold bindC
  exact bindC_get (i:=i) (List.nodup_cons.mp nd).2 (by simpa using h1) (by simpa using h2) hk
def start (N:List Str)(vs:List V):St:=vs.map some++List.replicate (N.length-vs.length) none
def cxOf (CX:CXT)(P:Program)(w:World)(K:PySem.W.Frag)(mg:Str->Option Value)(base:Heap)(N:List Str)(qual:Str)(scope:Scope)(f:Addr)(cd:Value)(A:Around)(outer:List Env)(s:Shared)(H:Hp)(E:XK):Cx where
 prog:=P
 w:=w
 K:=K
 mg:=mg
 base:=base
 A:=A.deeper (envOfC qual scope s.heap.objs.size f cd)
 N:=N
 s₀:=s
 H₀:=H
 env:=envOfC qual scope s.heap.objs.size f cd
 outer:=outer
 stack:=envOfC qual scope s.heap.objs.size f cd::outer
 ex:=[]
 calm:=true
 fn:=fun _=>true
 pn:=[]
 xe:=fun e s'=>wpAny (model P w) (A.deeper (envOfC qual scope s.heap.objs.size f cd)) (leaving (envOfC qual scope s.heap.objs.size f cd) e) (fun _ s''=>CX outer H s E e s'') (fun e' s''=>CX outer H s E e' s'') s'
theorem cell_has {sc:Scope}{n:Nat}{x:Str}(h:sc.names.lookup x=some .cell):∃c,(cellsFrom n sc.names []).lookup x=some c:=by
 have q:=PySem.W.cellsFrom_some sc.names n [] (.inl h)
 exact Option.isSome_iff_exists.mp q
theorem inv_start {CX:CXT}{P:Program}{w:World}{K:PySem.W.Frag}{mg:Str->Option Value}{base:Heap}{N ps:List Str}{qual:Str}{scope:Scope}{f:Addr}{cd:Value}{A:Around}{outer:List Env}{s s1:Shared}{H:Hp}{E:XK}{us:List Value}{vs:List V}
 (S:FnScope N ps scope)(hd:A.handled=none)(e0:Env0 P w K mg base A outer s H)(hl:vs.length=ps.length)(r:Vals vs us)
 (x:InCallC s s.heap.objs.size (bindL (envOfC qual scope s.heap.objs.size f cd).kindOf (ps.zip us) fun _=>none) (cellsFrom (s.heap.objs.size+1) scope.names []) (bindC (envOfC qual scope s.heap.objs.size f cd).kindOf (ps.zip us) fun _=>none) s1) :
 Inv (cxOf CX P w K mg base N qual scope f cd A outer s H E) [] (start N vs) H s1:=by
 have hpl:ps.length<=N.length:=by have:=congrArg List.length S.pre;rw[List.length_take] at this;omega
 obtain⟨h1,tk,rfl,hk⟩:=x.done
 have noA:∀b:Addr,b∉(cxOf CX P w K mg base N qual scope f cd A outer s H E).ex:=fun b z=>absurd (show b∈([]:List Addr) from z) (by simp)
 refine⟨⟨e0.mod,S.kind,rfl,rfl,Nat.le_refl _,fun y z c h1 h2=>?_,fun y hy=>?_,fun y c _ h=>?_,fun _=>hd,Around.frames_deeper e0.frames,.inr ⟨rfl,rfl⟩,fun b z=>absurd z (noA b),e0.bs,e0.bsz,fun b _ _=>noA b,fun b z=>absurd z (noA b),e0.funs,e0.frf⟩,
  rfl,e0.bare,Un.kept hk,⟨_,x.toInCall.ns,fun i y v h1 h2 h3=>?_⟩,fun y c h=>⟨_,x.cell y c h⟩,e0.hok.fresh (Nat.le_refl _),fun y c h=>?_,fun p hp=>absurd (show p∈([]:List (Addr×Obj)) from hp) (by simp),e0.hok.kept hk,?_⟩
 . exact name_of_addr x.apart (PySem.mem_of_lookup h1) (PySem.mem_of_lookup h2)
 . have hy:scope.names.lookup y=some .cell\/scope.names.lookup y=some .free:=hy
   rcases hy with hy | hy
   . exact cell_has hy
   . exact absurd rfl (S.nofree _ (PySem.mem_of_lookup hy))
 . exact Nat.le_of_lt (x.above y c (PySem.mem_of_lookup h))
 . have hi:i<vs.length:=by
    unfold start at h2
    by_cases hi:i<vs.length
    . exact hi
    . rw[List.getElem?_append_right (by simpa using hi)] at h2
      rw[List.getElem?_replicate] at h2
      split at h2 <;> cases h2
   have ha:vs[i]? = some v:=by
    unfold start at h2
    rw[List.getElem?_append_left (by simpa using hi),List.getElem?_map] at h2
    cases e:vs[i]? with
    | none=>rw[e] at h2;cases h2
    | some a=>rw[e] at h2;cases h2;rfl
   obtain⟨u,hu,rv⟩:=r.get ha
   have hp:ps[i]? = some y:=by
    rw[<-S.pre,List.getElem?_take_of_lt (by omega)];exact h1
   have ndP:ps.Nodup:=by rw[<-S.pre];exact S.nd.sublist (List.take_sublist _ _)
   refine⟨u,rv,?_⟩
   rcases S.par y (List.mem_of_getElem? hp) with k | k
   . exact .inl ⟨k,bindL_get ndP hp hu k⟩
   . obtain⟨c,e⟩:=cell_has (n:=s.heap.objs.size+1) k
     refine .inr ⟨.inl k,c,e,?_⟩
     have q:=x.cell y c e
     rw[bindC_get ndP hp hu (by show scope.names.lookup y≠_;rw[k];decide)] at q
     exact q
 . exact e0.hok.fresh (Nat.le_of_lt (x.above y c (PySem.mem_of_lookup h)))
 . unfold start
   show _=N.length
   rw[List.length_append,List.length_map,List.length_replicate]
   omega
theorem fn_of {CX:CXT}{P:Program}{w:World}{K:PySem.W.Frag}{mg:Str->Option Value}{base:Heap}{k:Nat}{f:Addr}{name qual:Str}{params:Arguments}{body:List Stmt}{scope:Scope}{dV kV doc pm cdv ct oc:Value}{an od:Option Addr}
 {osl:Array (Option Value)}{N ps:List Str}{sp:Sp}(lk:K.lookup f=some ⟨oc,od,.func (PySem.W.fnOf name qual params body scope dV kV doc pm an cdv ct),osl⟩)(hcd:PySem.W.codeIn K cdv qual=true)(S:FnScope N ps scope)
 (len:∀vs H Q E,sp vs H Q E->vs.length=ps.length)
 (hbody:∀(A:Around)(outer:List Env)(s:Shared)(H:Hp)(vs:List V)(Q:VK)(E:XK),Room k (A.deeper (envOfC qual scope s.heap.objs.size f cdv))->sp vs H Q E ->
  ∃t,PSs (cxOf CX P w K mg base N qual scope f cdv A outer s H E) body t/\t { nx:=fun _ H'=>Q .non H',rt:=Q } (start N vs) H) :
 FnOk P w K mg base CX (k+1) f (PySem.W.fnOf name qual params body scope dV kV doc pm an cdv ct) ps sp:=by
 refine⟨len,fun A outer s H args us vs Q E hr e0 hb r hsp=>?_⟩
 have hl:=len _ _ _ _ hsp
 have KX:K.In s.heap:=e0.mod.kin.keeps fun b o e=>(e0.bs b o e).1
 have lim:s.heap.NoLimit:=e0.mod.nolimit.keeps fun b o e=>(e0.bs b o e).1
 have hkind:∀y∈ps.zip us,scope.names.lookup y.1=some .local\/(scope.names.lookup y.1=some .cell/\((cellsFrom (s.heap.objs.size+1) scope.names []).lookup y.1).isSome=true):=fun ⟨n,v⟩ hy=>by
  rcases S.par n (List.of_mem_zip hy).1 with q | q
  . exact .inl q
  . exact .inr ⟨q,PySem.W.cellsFrom_some _ _ _ (.inl q)⟩
 refine codeAny_call_function hr.depth (KX _ _ lk) rfl S.co S.gen rfl (PySem.W.codeRec_of KX hcd) (hb _ _ _ _ ?_)
 refine wpAny_newFunctionEnv_cells S.kind hkind fun env he s1 x=>?_
 subst he
 refine⟨lim.keeps x.toInCall.keep,codeAny_func ?_⟩
 obtain⟨t,ht,hq⟩:=hbody A outer s H vs Q E (hr.deeper _) hsp
 have I:Inv (cxOf CX P w K mg base N qual scope f cdv A outer s H E) [] (start N vs) H s1:=inv_start S hr.hd e0 hl r x
 refine wpAny_mono (ht [] s1 (start N vs) H _ I hq) (fun fl s' hs=>?_) fun e s' hs=>hs
 have fin:∀{σ':St}{H':Hp}{v:V}{u:Value},Inv (cxOf CX P w K mg base N qual scope f cdv A outer s H E) [] σ' H' s'->RelV v u->Q v H'->CE outer P w H s Q u s':=
  fun {σ' H' v u} J rv q=>⟨v,H',J.os,J.bare,J.base,J.hok,rv,q⟩
 cases fl with
 | ret u=>
  obtain⟨v,σ',H',J,rv,q⟩:=hs
  exact fin J rv q
 | next=>
  obtain⟨σ',H',J,q⟩:=hs
  exact fin (v:=V.non) (u:=Value.none) J rfl q
 | brk=>
  obtain⟨_,_,_,q⟩:=hs
  exact False.elim q
 | cont=>
  obtain⟨_,_,_,q⟩:=hs
  exact False.elim q
end L2
namespace L2
open PySem PySem.Spec PyProof.Rows
section
variable {X:Cx}{x:Str}{p pos:Pos}{e:Expr}{es:List Expr}{t:TA}{id T:String}{r:List V->Hp->VK->Prop}
def tCB (r:List V->Hp->VK->Prop)(t:TA):TE:=fun σ H Q=>t σ H fun vs H1=>r vs H1 Q
theorem pe_callB (hc:CallR X (.builtin id) r)(hg:Gl X x)(hm:X.mg x=none)(hv:bootBuiltins x=some (.builtin id))(ha:PA X (e::es) t)(hn:x ≠ "__name__" := by decide) (hdb:(x==("__debug__" : Str))=false:=by decide)
 (he:starEach (e::es) X.env=(false,eval e X.env)::starEach es X.env:=by rfl)(hpl:(backTo pos (starEach es X.env)).any (·.1)=false:=by rfl):PE X (.Call (.Name x p) (e::es) [] pos) (tCB r t):=by
 intro pins s σ H Q I h
 refine wpAny_Call_Name_kw (ld_blt I hg hm hv ?_ hn hdb)
 exact PyProof.Rows.callWith_builtin1 (thn (ha pos pins s σ H _ I h) fun us s1 ⟨vs,H1,I1,r1,q1⟩=>hc pins s1 σ H1 vs us Q I1 r1 q1) he hpl
theorem pe_callTy (hc:CallR X (.type T) r)(hg:Gl X x)(hm:X.mg x=none)(hv:bootBuiltins x=some (.type T))(ha:PA X (e::es) t)(hn:x ≠ "__name__" := by decide) (hdb:(x==("__debug__" : Str))=false:=by decide)
 (he:starEach (e::es) X.env=(false,eval e X.env)::starEach es X.env:=by rfl)(hpl:(backTo pos (starEach es X.env)).any (·.1)=false:=by rfl):PE X (.Call (.Name x p) (e::es) [] pos) (tCB r t):=by
 intro pins s σ H Q I h
 refine wpAny_Call_Name_kw (ld_blt I hg hm hv ?_ hn hdb)
 exact PyProof.Rows.callWith_type1 (thn (ha pos pins s σ H _ I h) fun us s1 ⟨vs,H1,I1,r1,q1⟩=>hc pins s1 σ H1 vs us Q I1 r1 q1) he hpl
end
end L2
namespace L2
open PySem PySem.Spec PyProof.Rows
section
variable {κ:Type} [DecidableEq κ]
def valV (kvs:List (κ×V))(k:κ):Option V:=(kvs.find? fun kv=>decide (kv.1=k)).map (·.2)
def putK (kvs:List (κ×V))(k:κ)(v:V):List (κ×V):=
 if (kvs.any fun kv=>decide (kv.1=k))=true then kvs.map (fun kv=>if kv.1=k then (kv.1,v) else kv) else kvs++[(k,v)]
def dropK (kvs:List (κ×V))(k:κ):List (κ×V):=kvs.filter fun kv=>decide (kv.1≠k)
theorem valV_nil {k:κ}:valV ([]:List (κ×V)) k=none:=rfl
theorem valV_pos {p:κ×V}{r:List (κ×V)}{k:κ}(e:p.1=k):valV (p::r) k=some p.2:=by simp[valV,List.find?_cons,e]
theorem valV_neg {p:κ×V}{r:List (κ×V)}{k:κ}(e:¬ p.1=k):valV (p::r) k=valV r k:=by simp[valV,List.find?_cons,e]
theorem valV_any (k:κ):∀kvs:List (κ×V),(kvs.any fun kv=>decide (kv.1=k))=(valV kvs k).isSome
 | []=>rfl
 | p::r=>by
  rw[List.any_cons]
  by_cases e:p.1=k
  . simp only[valV_pos e,decide_eq_true e,Bool.true_or,Option.isSome_some]
  . rw[valV_neg e,decide_eq_false e,Bool.false_or];exact valV_any k r
theorem valV_map (k j:κ)(y:V):∀kvs:List (κ×V),valV (kvs.map fun kv=>if kv.1=k then (kv.1,y) else kv) j=(valV kvs j).map fun x=>if j=k then y else x
 | []=>rfl
 | p::r=>by
  have ih:=valV_map k j y r
  rw[List.map_cons]
  by_cases h:p.1=k
  . rw[if_pos h]
    by_cases e:p.1=j
    . rw[valV_pos (p:=(p.1,y)) e,valV_pos e,Option.map_some,if_pos (e.symm.trans h)]
    . rw[valV_neg (p:=(p.1,y)) e,valV_neg e,ih]
  . rw[if_neg h]
    by_cases e:p.1=j
    . rw[valV_pos (p:=p) e,valV_pos e,Option.map_some,if_neg (fun z=>h (e.trans z))]
    . rw[valV_neg (p:=p) e,valV_neg e,ih]
theorem valV_snoc (k j:κ)(y:V):∀kvs:List (κ×V),valV kvs k=none->valV (kvs++[(k,y)]) j=if j=k then some y else valV kvs j
 | [],_=>by
  by_cases e:k=j
  . rw[if_pos e.symm];exact valV_pos (p:=(k,y)) e
  . rw[if_neg (fun z=>e z.symm)];exact valV_neg (p:=(k,y)) e
 | p::r,hn=>by
  rw[List.cons_append]
  have hk:¬ p.1=k:=fun z=>by rw[valV_pos z] at hn;cases hn
  rw[valV_neg hk] at hn
  have ih:=valV_snoc k j y r hn
  by_cases e:p.1=j
  . rw[valV_pos e,valV_pos e,if_neg (fun z=>hk (e.trans z))]
  . rw[valV_neg e,valV_neg e,ih]
theorem valV_put (kvs:List (κ×V))(k j:κ)(y:V):valV (putK kvs k y) j=if j=k then some y else valV kvs j:=by
 unfold putK
 by_cases a:(kvs.any fun kv=>decide (kv.1=k))=true
 . rw[if_pos a,valV_map]
   rw[valV_any] at a
   by_cases e:j=k
   . obtain⟨x,hx⟩:=Option.isSome_iff_exists.mp a
     rw[if_pos e,e,hx,Option.map_some,if_pos rfl]
   . rw[if_neg e]
     cases valV kvs j with
     | none=>rfl
     | some x=>rw[Option.map_some,if_neg e]
 . rw[if_neg a]
   refine valV_snoc k j y kvs ?_
   rw[valV_any] at a
   cases q:valV kvs k with
   | none=>rfl
   | some x=>rw[q] at a;exact (a rfl).elim
theorem length_putK (kvs:List (κ×V))(k:κ)(v:V):(putK kvs k v).length<=kvs.length+1:=by
 unfold putK
 split
 . rw[List.length_map];omega
 . rw[List.length_append,List.length_cons,List.length_nil];omega
theorem putK_new {kvs:List (κ×V)}{k:κ}(v:V)(h:valV kvs k=none):putK kvs k v=kvs++[(k,v)]:=by
 unfold putK
 rw[valV_any,h]
 exact if_neg (by decide)
theorem RelO.isSome_eq {o:Option V}{u:Option Value}(r:RelO o u):o.isSome=u.isSome:=by
 cases o with
 | none=>cases u with
  | none=>rfl
  | some _=>exact (show False from r).elim
 | some _=>cases u with
  | none=>exact (show False from r).elim
  | some _=>rfl
theorem RelO.getD {o:Option V}{u:Option Value}{d:V}{d':Value}(r:RelO o u)(rd:RelV d d'):RelV (o.getD d) (u.getD d'):=by
 cases o with
 | none=>cases u with
  | none=>exact rd
  | some _=>exact (show False from r).elim
 | some _=>cases u with
  | none=>exact (show False from r).elim
  | some _=>exact r
theorem KV.val {kvs:List (κ×V)}{vs:List (κ×Value)}(r:KV kvs vs)(k:κ):RelO (valV kvs k) (valueAt vs k):=by
 unfold KV at r
 induction r with
 | nil=>exact True.intro
 | @cons p q ps qs h t ih=>
  obtain⟨h1,h2⟩:=h
  by_cases e:p.1=k
  . have e':q.1=k:=h1.symm.trans e
    have b:valueAt (q::qs) k=some q.2:=by simp[valueAt,List.find?_cons,e']
    rw[valV_pos e,b];exact h2
  . have e':¬ q.1=k:=fun z=>e (h1.trans z)
    have b:valueAt (q::qs) k=valueAt qs k:=by simp[valueAt,List.find?_cons,e']
    rw[valV_neg e,b];exact ih
theorem KV.any {kvs:List (κ×V)}{vs:List (κ×Value)}(r:KV kvs vs)(k:κ):(kvs.any fun kv=>decide (kv.1=k))=vs.any fun kv=>decide (kv.1=k):=by
 unfold KV at r
 induction r with
 | nil=>rfl
 | cons h t ih=>rw[List.any_cons,List.any_cons,ih,h.1]
theorem KV.repl {kvs:List (κ×V)}{vs:List (κ×Value)}(r:KV kvs vs)(k:κ){y:V}{u:Value}(ry:RelV y u) :
 KV (kvs.map fun kv=>if kv.1=k then (kv.1,y) else kv) (vs.map fun kv=>if kv.1=k then (kv.1,u) else kv):=by
 unfold KV at r ⊢
 induction r with
 | nil=>exact .nil
 | @cons p q ps qs h t ih=>
  rw[List.map_cons,List.map_cons]
  refine .cons ?_ ih
  obtain⟨h1,h2⟩:=h
  by_cases e:p.1=k
  . rw[if_pos e,if_pos (h1.symm.trans e)];exact⟨h1,ry⟩
  . rw[if_neg e,if_neg (fun z=>e (h1.trans z))];exact⟨h1,h2⟩
theorem KV.put {kvs:List (κ×V)}{vs:List (κ×Value)}(r:KV kvs vs)(k:κ){y:V}{u:Value}(ry:RelV y u):KV (putK kvs k y) (stored vs k u):=by
 unfold putK stored
 rw[r.any k]
 by_cases e:(vs.any fun kv=>decide (kv.1=k))=true
 . rw[if_pos e,if_pos e];exact r.repl k ry
 . rw[if_neg e,if_neg e];exact Paired.snoc r ⟨rfl,ry⟩
theorem KV.drop {kvs:List (κ×V)}{vs:List (κ×Value)}(r:KV kvs vs)(k:κ):KV (dropK kvs k) (without vs k):=by
 unfold KV at r ⊢
 unfold dropK without
 induction r with
 | nil=>exact .nil
 | @cons p q ps qs h t ih=>
  obtain⟨h1,h2⟩:=h
  rw[List.filter_cons,List.filter_cons]
  by_cases e:p.1=k
  . have a:¬ decide (p.1≠k)=true:=by simp[e]
    have b:¬ decide (q.1≠k)=true:=by simp[h1.symm.trans e]
    rw[if_neg a,if_neg b];exact ih
  . have e':¬ q.1=k:=fun z=>e (h1.trans z)
    have a:decide (p.1≠k)=true:=by simp[e]
    have b:decide (q.1≠k)=true:=by simp[e']
    rw[if_pos a,if_pos b];exact .cons ⟨h1,h2⟩ ih
theorem KV.length {kvs:List (κ×V)}{vs:List (κ×Value)}(r:KV kvs vs):kvs.length=vs.length:=Paired.length r
theorem dropK_le (kvs:List (κ×V))(k:κ):(dropK kvs k).length<=kvs.length:=List.length_filter_le _ _
end
theorem kV_is {P:Program}{w:World}{k:Key}{u:Value}(r:RelV (kV k) u):(mixKind P w).is k u=true:=by
 cases k with
 | inl i=>obtain⟨t,e⟩:=(show ∃t,u=Value.int i t from r);subst e;exact mixKind_int P w i t
 | inr x=>obtain⟨t,e⟩:=(show ∃t,u=Value.str x t from r);subst e;exact mixKind_str P w x t
theorem items_are {P:Program}{w:World}:∀{ks:List Key}{us:List Value},Vals (ks.map kV) us->ItemsAre (mixKind P w) ks us
 | [],_,r=>by rw[List.map_nil] at r;cases r;exact .nil
 | k::ks,_,r=>by
  rw[List.map_cons] at r
  cases r with
  | cons h t=>exact .cons (kV_is h) (items_are t)
abbrev KT (H:Hp):List (List Key×V)->List (List Key×Addr×Value)->Prop:=Paired fun p q=>p.1=q.1/\H q.2.1=some (.tup (p.1.map kV))/\RelV p.2 q.2.2
theorem KT.val {H:Hp}{kvs:List (List Key×V)}{xs:List (List Key×Addr×Value)}(r:KT H kvs xs)(k:List Key):RelO (valV kvs k) ((atKey xs k).map (·.2)):=by
 induction r with
 | nil=>exact True.intro
 | @cons p q ps qs h t ih=>
  obtain⟨h1,_,h2⟩:=h
  by_cases e:p.1=k
  . have e':q.1=k:=h1.symm.trans e
    have b:atKey (q::qs) k=some q.2:=by simp[atKey,List.find?_cons,e']
    rw[valV_pos e,b];exact h2
  . have e':¬ q.1=k:=fun z=>e (h1.trans z)
    have b:atKey (q::qs) k=atKey qs k:=by simp[atKey,List.find?_cons,e']
    rw[valV_neg e,b];exact ih
theorem KT.repl {H:Hp}{kvs:List (List Key×V)}{xs:List (List Key×Addr×Value)}(r:KT H kvs xs)(k:List Key){y:V}{u:Value}(ry:RelV y u) :
 KT H (kvs.map fun kv=>if kv.1=k then (kv.1,y) else kv) (xs.map (putAt k u)):=by
 induction r with
 | nil=>exact .nil
 | @cons p q ps qs h t ih=>
  rw[List.map_cons,List.map_cons]
  refine .cons ?_ ih
  obtain⟨h1,h2,h3⟩:=h
  unfold putAt
  by_cases e:p.1=k
  . rw[if_pos e,if_pos (h1.symm.trans e)];exact⟨h1,h2,ry⟩
  . rw[if_neg e,if_neg (fun z=>e (h1.trans z))];exact⟨h1,h2,h3⟩
theorem KT.put {H:Hp}{kvs:List (List Key×V)}{xs:List (List Key×Addr×Value)}(r:KT H kvs xs)(k:List Key){b:Addr}{y:V}{u:Value}(hb:H b=some (.tup (k.map kV)))(ry:RelV y u) :
 KT H (putK kvs k y) (storedH xs k b u):=by
 have e:(kvs.any fun kv=>decide (kv.1=k))=(atKey xs k).isSome:=by
  rw[valV_any,(r.val k).isSome_eq,Option.isSome_map]
 unfold putK storedH
 rw[e]
 by_cases q:(atKey xs k).isSome=true
 . rw[if_pos q,if_pos q];exact r.repl k ry
 . rw[if_neg q,if_neg q];exact Paired.snoc r ⟨rfl,hb,ry⟩
theorem KT.keeps {H H':Hp}{kvs:List (List Key×V)}{xs:List (List Key×Addr×Value)}(r:KT H kvs xs)(ht:∀b ys,H b=some (.tup ys)->H' b=some (.tup ys)):KT H' kvs xs:=
 Paired.mapP r fun _ _ z=>⟨z.1,ht _ _ z.2.1,z.2.2⟩
section
variable {P:Program}{w:World}{H:Hp}{h:Heap}{a:Addr}
theorem rd_of {u:HO}(ok:HOk P w H h)(e:Rd H a u):ObjOk P w H h a u:=e.ok ok
theorem dk_rd {kvs:List (Key×V)}(ok:HOk P w H h)(e:Rd H a (.dK kvs)):kvs.length<=sizeLine/\(a==sysModules)=false/\∃vs,KV kvs vs/\h.DictOf (mixKind P w) a vs:=
 show ObjOk P w H h a (.dK kvs) from rd_of ok e
theorem dk_of {kvs:List (Key×V)}(ok:HOk P w H h)(e:H a=some (.dK kvs)):kvs.length<=sizeLine/\(a==sysModules)=false/\∃vs,KV kvs vs/\h.DictOf (mixKind P w) a vs:=dk_rd ok (.inl e)
theorem key_of {ks:List Key}(ok:HOk P w H h)(e:H a=some (.tup (ks.map kV))):(tupleKind (mixKind P w)).is h ks a:=by
 obtain⟨_,its,r,o,h1,h2,n,h3⟩:=(show ObjOk P w H h a (.tup (ks.map kV)) from ok a _ e)
 exact⟨o,its.toArray,n,h1,h2,h3,by simpa using items_are r⟩
theorem dt_rd {kvs:List (List Key×V)}(ok:HOk P w H h)(e:Rd H a (.dT kvs)):kvs.length<=sizeLine/\(a==sysModules)=false /\
 ∃xs,KT H kvs xs/\h.DictOfH (tupleKind (mixKind P w)) a xs:=by
 obtain⟨z,y,xs,r,o,es,ep,h1,h2,h3,h4,h5⟩:=(show ObjOk P w H h a (.dT kvs) from rd_of ok e)
 refine⟨z,y,xs,r,o,es,ep,h1,h2,h3,h4,fun x hx=>?_,h5⟩
 have all:∀{l:List (List Key×V)}{m:List (List Key×Addr×Value)},KT H l m->∀x∈m,(tupleKind (mixKind P w)).is h x.1 x.2.1:=by
  intro l m q
  induction q with
  | nil=>intro x hx;exact nomatch hx
  | @cons p q ps qs hq t ih=>
   intro x hx
   rcases List.mem_cons.mp hx with e | hx
   . subst e
     exact key_of ok (by rw[<-hq.1];exact hq.2.1)
   . exact ih x hx
 exact all r x hx
theorem dt_of {kvs:List (List Key×V)}(ok:HOk P w H h)(e:H a=some (.dT kvs)):kvs.length<=sizeLine/\(a==sysModules)=false /\
 ∃xs,KT H kvs xs/\h.DictOfH (tupleKind (mixKind P w)) a xs:=dt_rd ok (.inl e)
end
def DGet (H:Hp)(a:Addr)(y:V)(r:Option V):Prop:=
 (∃kvs k,Rd H a (.dK kvs)/\y=kV k/\r=valV kvs k)\/∃kvs k b,Rd H a (.dT kvs)/\y = .ref b/\H b=some (.tup (k.map kV))/\r=valV kvs k
def DPut (H:Hp)(a:Addr)(y v:V)(H':Hp):Prop:=
 (∃kvs k,H a=some (.dK kvs)/\y=kV k/\kvs.length<sizeLine/\H'=upd H a (.dK (putK kvs k v))) \/
 ∃kvs k b,H a=some (.dT kvs)/\y = .ref b/\H b=some (.tup (k.map kV))/\kvs.length<sizeLine/\H'=upd H a (.dT (putK kvs k v))
theorem DGet.k {H:Hp}{a:Addr}{kvs:List (Key×V)}{k:Key}(e:H a=some (.dK kvs)):DGet H a (kV k) (valV kvs k):=.inl ⟨kvs,k,.inl e,rfl,rfl⟩
theorem DPut.k {H:Hp}{a:Addr}{kvs:List (Key×V)}{k:Key}{v:V}(e:H a=some (.dK kvs))(hl:kvs.length<sizeLine):DPut H a (kV k) v (upd H a (.dK (putK kvs k v))):=.inl ⟨kvs,k,e,rfl,hl,rfl⟩
section
variable {X:Cx}{pins:List (Addr×Obj)}{σ:St}{H:Hp}{s:Shared}{a:Addr}{y v:V}{u r:Value}{o:Option V}{A:Around}{E:Value->Shared->Prop}
theorem Inv.big (I:Inv X pins σ H s):sysModules<s.heap.objs.size:=by
 have h:mainGlobals<s.heap.objs.size:=(I.mod.glob.keeps I.bk).lt
 exact Nat.lt_trans (by decide) h
theorem d_getItem {Q:Value->Shared->Prop}(hu:A.units+1<cLine)(I:Inv X pins σ H s)(g:DGet H a y (some v))(ry:RelV y u)(h:∀w' s',Inv X pins σ H s'->RelV v w'->Q w' s') :
 wpAny (model X.prog X.w) A (getItem (.ref a) u) Q E s:=by
 rcases g with ⟨kvs,k,e,ey,l⟩ | ⟨kvs,k,b,e,ey,eb,l⟩
 . subst ey
   obtain⟨z,hd,vs,rel,dd⟩:=dk_rd I.hok e
   obtain⟨w',hw,rw'⟩:=RelO.some_of (v:=v) (o:=valueAt vs k) (by rw[l];exact rel.val k)
   exact wpAny_getItem_of (kV_is ry) dd.mapOf hw (h w' _ (I.tok _) rw')
 . subst ey
   cases (show u=Value.ref b from ry)
   obtain⟨z,hd,xs,rel,dd⟩:=dt_rd I.hok e
   obtain⟨w',hw,rw'⟩:=RelO.some_of (v:=v) (o:=(atKey xs k).map (·.2)) (by rw[l];exact rel.val k)
   obtain⟨p,hp,hp2⟩:=Option.map_eq_some_iff.mp hw
   refine wpAny_getItem_heap (tupleKind_room_in1 hu) (key_of I.hok eb) dd hp ?_
   rw[hp2]
   exact h w' _ (I.tok _) rw'
theorem d_in {Q:Value->Shared->Prop}(hu:A.units+1<cLine)(I:Inv X pins σ H s)(g:DGet H a y o)(ry:RelV y u)(h:∀s',Inv X pins σ H s'->Q (.bool o.isSome) s') :
 wpAny (model X.prog X.w) A (compareOp .In u (.ref a)) Q E s:=by
 rcases g with ⟨kvs,k,e,ey,l⟩ | ⟨kvs,k,b,e,ey,eb,l⟩
 . subst ey
   obtain⟨z,hd,vs,rel,dd⟩:=dk_rd I.hok e
   refine wpAny_in_of (kV_is ry) hd dd.mapOf ?_
   rw[<-(rel.val k).isSome_eq,<-l]
   exact h _ (I.tok _)
 . subst ey
   cases (show u=Value.ref b from ry)
   obtain⟨z,hd,xs,rel,dd⟩:=dt_rd I.hok e
   refine wpAny_in_heap (tupleKind_room_in1 hu) (key_of I.hok eb) hd dd ?_
   have q:=(rel.val k).isSome_eq
   rw[Option.isSome_map] at q
   rw[<-q,<-l]
   exact h _ (I.tok _)
theorem d_write {h':Heap}{t':Nat}{ob:HO}(I:Inv X pins σ H s)(mu:Mut (H a))(hs:Heap.SameBut a s.heap h')(he:∃q,h'.get? a=some q)(new:ObjOk X.prog X.w (upd H a ob) h' a ob) :
 Inv X pins σ (upd H a ob) { s with heap:=h',toks:=t' }:=
 I.write (x:=a) (e:=a) mu (.inl rfl) (fun b q hb z=>(hs.2 b hb).trans z) he new
theorem dk_new {P:Program}{w:World}{H':Hp}{h':Heap}{kvs:List (Key×V)}{vs:List (Key×Value)}(z:kvs.length<=sizeLine)(hd:(a==sysModules)=false)(rel:KV kvs vs)(dd:h'.DictOf (mixKind P w) a vs) :
 ObjOk P w H' h' a (.dK kvs):=⟨z,hd,vs,rel,dd⟩
theorem d_setItem {H':Hp}{Q:Unit->Shared->Prop}(hu:A.units+1<cLine)(I:Inv X pins σ H s)(g:DPut H a y v H')(ry:RelV y u)(rv:RelV v r)(h:∀s',Inv X pins σ H' s'->Q () s') :
 wpAny (model X.prog X.w) A (setItem (.ref a) u r) Q E s:=by
 rcases g with ⟨kvs,k,e,ey,l,eH⟩ | ⟨kvs,k,b,e,ey,eb,l,eH⟩
 . subst ey eH
   obtain⟨z,hd,vs,rel,dd⟩:=dk_of I.hok e
   have hz:vs.length<=sizeLine:=by rw[<-rel.length];exact z
   have hl:(putK kvs k v).length<=sizeLine:=by have:=length_putK kvs k v;omega
   refine wpAny_setItem_pairs (hsz:=hz) (kV_is ry) dd fun h' dd' hs=>h _ ?_
   have he:∃q,h'.get? a=some q:=let ⟨q,_,_,hq,_⟩:=dd';⟨q,hq⟩
   exact d_write I (by rw[e];exact True.intro) hs he (dk_new hl hd (rel.put k rv) dd')
 . subst ey eH
   cases (show u=Value.ref b from ry)
   obtain⟨z,hd,xs,rel,dd⟩:=dt_of I.hok e
   have hz:xs.length<=sizeLine:=by rw[<-Paired.length rel];exact z
   have hl:(putK kvs k v).length<=sizeLine:=by have:=length_putK kvs k v;omega
   refine wpAny_setItem_heap (hsz:=hz) (tupleKind_room_in1 hu) (key_of I.hok eb) dd fun h' dd' hs=>h _ ?_
   obtain⟨q,es,ep,hq,h2,h3,h4,_,h5⟩:=dd'
   refine d_write I (by rw[e];exact True.intro) hs ⟨q,hq⟩ ⟨hl,hd,_,(rel.put k eb rv).keeps fun c ys ec=>?_,q,es,ep,hq,h2,h3,h4,h5⟩
   rw[upd_ne (ne_of ec e (fun z=>nomatch z))]
   exact ec
end
section
variable {X:Cx}{pins:List (Addr×Obj)}{σ:St}{H:Hp}{s:Shared}{a:Addr}{kvs:List (Key×V)}{k:Key}{u:Value}{A:Around}{E:Value->Shared->Prop}
theorem d_pop {v:V}{more:List Value}{Q:Value->Shared->Prop}(I:Inv X pins σ H s)(e:H a=some (.dK kvs))(ry:RelV (kV k) u)(l:valV kvs k=some v)(hm:more=[]\/∃x,more=[x])
 (h:∀w' s',Inv X pins σ (upd H a (.dK (dropK kvs k))) s'->RelV v w'->Q w' s'):wpAny (model X.prog X.w) A (call (.builtin "dict.pop") (.ref a::u::more)) Q E s:=by
 obtain⟨z,hd,vs,rel,dd⟩:=dk_of I.hok e
 obtain⟨w',hw,rw'⟩:=RelO.some_of (v:=v) (o:=valueAt vs k) (by rw[<-l];exact rel.val k)
 have hp:(keyPart u).isSome=true:=by
  cases k with
  | inl i=>obtain⟨t,q⟩:=(show ∃t,u=Value.int i t from ry);subst q;rfl
  | inr x=>obtain⟨t,q⟩:=(show ∃t,u=Value.str x t from ry);subst q;rfl
 have ha:argsOk "dict.pop" ⟨.ref a::u::more,[]⟩:=by
  rcases hm with q | ⟨x,q⟩
  . subst q;exact PySem.F.args_dict_pop_2 _ _
  . subst q;exact PySem.F.args_dict_pop_3 _ _ _
 refine call_meetsIn PySem.F.slot_dict_pop dd.typeIs PySem.F.entry_dict_pop ha (meets_dict_pop_there (mixKind X.prog X.w) a (kV_is ry) more hm hp)
  ⟨vs,w',dd,by rw[<-rel.length];exact z,hw,fun h' dd' hs=>h w' _ ?_ rw'⟩
 have he:∃q,h'.get? a=some q:=let ⟨q,_,_,hq,_⟩:=dd';⟨q,hq⟩
 exact d_write I (by rw[e];exact True.intro) hs he (dk_new (Nat.le_trans (dropK_le kvs k) z) hd (rel.drop k) dd')
end
def NoSl (i:Expr):Prop:=∀ov iv,subscripted i false ov iv=operate [ov,iv] (getItem ov iv)
theorem subD_of {prog:Program}{w:World}{A:Around}{E:Value->Shared->Prop}{s:Shared}{env:Env}{value slice:Expr}{pos:Pos}{T id:String}{Q:Value->Shared->Prop}
 (hl:typeLookup (.type T) "__getitem__" = pure (some (.builtin id))) (hs:NoSl slice)
 (h:wpAny (model prog w) A (eval value env) (fun o s₁=>wpAny (model prog w) A (eval slice env) (fun i s₂=>s₂.TypeIs o T/\wpAny (model prog w) A (getItem o i) Q E s₂) E s₁) E s) :
 wpAny (model prog w) A (eval (.Subscript value slice pos) env) Q E s:=by
 refine Subscript_ (wpAny_mono h (fun o s₁ h₁=>wpAny_mono h₁ (fun i s₂ h₂=>?_) fun _ _ x=>x) fun _ _ x=>x)
 obtain⟨hT,h₂⟩:=h₂
 unfold subscriptTail
 refine wpAny_bind ?_
 rw[getitemInPython_of_ne hT.not_modules]
 refine wpAny_bind (wpAny_specialOf hT hl ?_)
 have fin:wpAny (model prog w) A (subscripted slice false o i) (fun r s₃=>wpAny (model prog w) A (letTemporaryGo value o r >>= fun _=>pure r) Q E s₃) E s₂:=by
  rw[hs o i]
  exact wpAny_operating (wpAny_mono h₂ (fun r s₃ h₃=>wpAny_bind (wpAny_letTemporaryGo (wpAny_pure h₃))) fun _ _ x=>x)
 first
  | exact wpAny_pure (wpAny_bind fin)
  | exact wpAny_bind (wpAny_pure (wpAny_bind fin))
  | exact wpAny_bind fin
theorem dict_typeIs {X:Cx}{pins:List (Addr×Obj)}{σ:St}{H:Hp}{s:Shared}{a:Addr}{y:V}{o:Option V}(I:Inv X pins σ H s)(g:DGet H a y o):s.TypeIs (.ref a) "dict" := by
 rcases g with ⟨kvs,k,e,_,_⟩ | ⟨kvs,k,b,e,_,_,_⟩
 . obtain⟨_,_,vs,_,dd⟩:=dk_rd I.hok e
   exact dd.typeIs
 . obtain⟨_,_,xs,_,dd⟩:=dt_rd I.hok e
   exact dd.typeIs
def tDGet (td ty:TE):TE:=fun σ H Q=>td σ H fun x H1=>ty σ H1 fun y H2=>∃a v,x = .ref a/\DGet H2 a y (some v)/\Q v H2
def tDIn (ty td:TE):TE:=fun σ H Q=>ty σ H fun y H1=>td σ H1 fun x H2=>∃a o,x = .ref a/\DGet H2 a y o/\Q (.bl o.isSome) H2
def sDPut (td ty tv:TE):TS:=fun D σ H=>tv σ H fun v H1=>td σ H1 fun x H2=>ty σ H2 fun y H3=>∃a H4,x = .ref a/\DPut H3 a y v H4/\D.nx σ H4
section
variable {X:Cx}{o i e value:Expr}{pos pos' tpos:Pos}{td ty tv:TE}
theorem pe_dget (hu:X.A.units+1<cLine)(ho:PE X o td)(hi:PE X i ty)(hs:NoSl i):PE X (.Subscript o i pos) (tDGet td ty):=by
 intro pins s σ H Q I h
 refine subD_of PySem.F.slot_dict_getitem.lookup hs (thn (ho pins s σ H _ I h) fun u s1 ⟨x,H1,I1,rx,q1⟩=>thn (hi pins s1 σ H1 _ I1 q1) fun iv s2 ⟨y,H2,I2,ry,a,v,ex,g,q2⟩=>?_)
 subst ex
 obtain rfl:u=Value.ref a:=rx
 exact⟨dict_typeIs I2 g,d_getItem hu I2 g ry fun w' s3 I3 rw'=>⟨v,H2,I3,rw',q2⟩⟩
theorem pc_din (hu:X.A.units+1<cLine)(hi:PE X i ty)(ho:PE X o td):PC X .In i o (tDIn ty td):=by
 intro pins s σ H Q I h
 refine thn (hi pins s σ H _ I h) fun iv s1 ⟨y,H1,I1,ry,q1⟩=>thn (ho pins s1 σ H1 _ I1 q1) fun u s2 ⟨x,H2,I2,rx,a,ov,ex,g,q2⟩=>?_
 subst ex
 obtain rfl:u=Value.ref a:=rx
 exact d_in hu I2 g ry fun s3 I3=>⟨.bl ov.isSome,H2,I3,rfl,q2⟩
theorem ps_dput (hu:X.A.units+1<cLine)(ho:PE X o td)(hi:PE X i ty)(hv:PE X value tv)(hs:swapsWith value (some (.Subscript o i pos')) pos.line X.env=pure false) :
 PS X (.Assign [.Subscript o i pos'] value pos) (sDPut td ty tv):=by
 intro pins s σ H D I h
 refine wpAny_Assign_Subscript (thn (hv pins s σ H _ I h) fun r s1 ⟨v,H1,I1,rv,q1⟩=>thn (ho pins s1 σ H1 _ I1 q1) fun u s2 ⟨x,H2,I2,rx,q2⟩=>thn (hi pins s2 σ H2 _ I2 q2) fun iv s3 ⟨y,H3,I3,ry,a,H4,ex,g,q3⟩=>?_) hs
 subst ex
 obtain rfl:u=Value.ref a:=rx
 exact d_setItem hu I3 g ry rv fun s4 I4=>⟨σ,H4,I4,q3⟩
end
theorem dk_empty {P:Program}{w:World}{H:Hp}(h:Heap)(hb:sysModules<h.objs.size):ObjOk P w H (h.push { cls:=.type "dict",data:=.dict #[] }) h.objs.size (.dK []):=
 ⟨Nat.zero_le _,beq_eq_false_iff_ne.mpr (Ne.symm (Nat.ne_of_lt hb)),[],.nil,Heap.DictOf.new h⟩
section
variable {X:Cx}{pos:Pos}
end
def tPairs:List (TE×TE)->St->Hp->(List (V×V)->Hp->Prop)->Prop
 | [],_,H,Q=>Q [] H
 | (tk,tv)::r,σ,H,Q=>tk σ H fun x H1=>tv σ H1 fun y H2=>tPairs r σ H2 fun ps H3=>Q ((x,y)::ps) H3
abbrev VV:List (V×V)->List (Value×Value)->Prop:=Paired fun p q=>RelV p.1 q.1/\RelV p.2 q.2
def PPs (X:Cx)(pos:Pos)(keys:List (Option Expr))(values:List Expr)(trs:List (TE×TE)):Prop:=
 ∀(pins:List (Addr×Obj))(s:Shared)(σ:St)(H:Hp)(Q:List (V×V)->Hp->Prop),Inv X pins σ H s->tPairs trs σ H Q ->
  wpAny (model X.prog X.w) X.A (evalPairs (pairTrees keys values X.env pos)) (fun vs s'=>∃ps H',Inv X pins σ H' s'/\VV ps vs/\Q ps H') X.xe s
theorem pps_nil {X:Cx}{pos:Pos}:PPs X pos [] [] []:=fun pins s σ H Q I h=>pairTrees_nil_walk ⟨[],H,I,.nil,h⟩
theorem pps_cons {X:Cx}{pos:Pos}{k v:Expr}{ks:List (Option Expr)}{vs:List Expr}{tk tv:TE}{trs:List (TE×TE)}(hk:PE X k tk)(hv:PE X v tv)(hr:PPs X pos ks vs trs) :
 PPs X pos (some k::ks) (v::vs) ((tk,tv)::trs):=fun pins s σ H Q I h=>
 pairTrees_cons_walk (thn (hk pins s σ H _ I h) fun u s1 ⟨x,H1,I1,rx,q1⟩=>thn (hv pins s1 σ H1 _ I1 q1) fun w2 s2 ⟨y,H2,I2,ry,q2⟩=>
  thn (hr pins s2 σ H2 _ I2 q2) fun ws s3 ⟨ps,H3,I3,rel,q3⟩=>⟨(x,y)::ps,H3,I3,.cons ⟨rx,ry⟩ rel,q3⟩)
def mergeK (kvs more:List (Key×V)):List (Key×V):=more.foldl (fun acc kv=>putK acc kv.1 kv.2) kvs
theorem KV.merge:∀{more:List (Key×V)}{rs:List (Key×Value)}{kvs:List (Key×V)}{vs:List (Key×Value)},KV more rs->KV kvs vs->KV (mergeK kvs more) (merged vs rs):=by
 intro more rs kvs vs r
 unfold KV at r
 induction r generalizing kvs vs with
 | nil=>intro q;exact q
 | @cons p q ps qs h t ih=>
  intro r0
  have e:KV (putK kvs p.1 p.2) (stored vs q.1 q.2):=by
   have:=r0.put p.1 h.2
   rw[<-h.1];exact this
  exact ih e
theorem length_mergeK:∀(more kvs:List (Key×V)),(mergeK kvs more).length<=kvs.length+more.length
 | [],kvs=>by show kvs.length<=kvs.length+0;omega
 | p::r,kvs=>by
  have h1:=length_mergeK r (putK kvs p.1 p.2)
  have h2:=length_putK kvs p.1 p.2
  show (mergeK (putK kvs p.1 p.2) r).length<=_
  rw[List.length_cons];omega
theorem carries_of {P:Program}{w:World}:∀{kvs:List (Key×V)}{ws:List (Value×Value)},VV (kvs.map fun kv=>(kV kv.1,kv.2)) ws->∃rs,Carries (mixKind P w) ws rs/\KV kvs rs
 | [],_,r=>by rw[List.map_nil] at r;cases r;exact⟨[],True.intro,.nil⟩
 | p::kvs,_,r=>by
  rw[List.map_cons] at r
  cases r with
  | @cons a b as bs h t=>
   obtain⟨rs,c,q⟩:=carries_of (P:=P) (w:=w) t
   obtain⟨b1,b2⟩:=b
   exact⟨(p.1,b2)::rs,⟨kV_is h.1,rfl,c⟩,.cons ⟨rfl,h.2⟩ q⟩
def tDisp (trs:List (TE×TE)):TE:=fun σ H Q=>∀p,H p=none->tPairs trs σ (upd H p (.dK [])) fun ps H2=>H2 p=some (.dK [])/\∃kvs:List (Key×V),ps=kvs.map (fun kv=>(kV kv.1,kv.2))/\kvs.length<=15/\Q (.ref p) (upd H2 p (.dK (mergeK [] kvs)))
theorem pe_disp {X:Cx}{pos:Pos}{keys:List (Option Expr)}{values:List Expr}{trs:List (TE×TE)}(h:PPs X pos keys values trs)(hall:keys.all (·.isSome)=true)(hl:keys.length=values.length)(h0:keys≠[])
 (h15:keys.length<=15):PE X (.Dict keys values pos) (tDisp trs):=by
 intro pins s σ H Q I q
 have hn:=I.hok.fresh (Nat.le_refl s.heap.objs.size)
 have I1:=I.laid (a:=s.heap.objs.size) (o:=.dK []) (h':=s.heap.push { cls:=.type "dict",data:=.dict #[] }) (t':=s.toks) (fun _ _ q=>Heap.get?_push_of_some _ q) (Nat.le_refl _) (dk_empty s.heap I.big)
 refine wpAny_Dict_walk (knd:=mixKind X.prog X.w) hall hl h0 h15 (thn (h pins _ σ _ _ I1 (q _ hn)) fun ws s2 ⟨ps,H2,I2,rel,e,kvs,ep,lk,q2⟩=>?_)
 subst ep
 obtain⟨rs,c,rk⟩:=carries_of (P:=X.prog) (w:=X.w) rel
 obtain⟨z,hd,vs0,r0,dd⟩:=dk_of I2.hok e
 cases r0
 refine⟨rs,c,dd,fun h' dd' hs=>⟨.ref s.heap.objs.size,_,?_,rfl,q2⟩⟩
 have hz:(mergeK [] kvs).length<=sizeLine:=by
  have h1:=length_mergeK kvs []
  rw[List.length_nil] at h1
  rw[sizeLine_eq];omega
 have he:∃q,h'.get? s.heap.objs.size=some q:=let ⟨q,_,_,hq,_⟩:=dd';⟨q,hq⟩
 exact d_write I2 (by rw[e];exact True.intro) hs he (dk_new hz hd (rk.merge .nil) dd')
structure M1 (X:Cx)(o:Expr)(m:Str)(apos:Pos)(e:Expr)(cpos:Pos):Prop where
 base:attributeBase o m X.env (eval o X.env)=eval o X.env
 few:((backTo cpos (starEach [e] X.env)).all (fun x=>!x.1) && (backToKw cpos (keywordEach [] X.env)).all (fun x=>x.1.isSome)
  && decide (([e]:List Expr).length+([]:List Keyword).length+(if ([]:List Keyword).isEmpty then 0 else 1)<30))=true
 line:(apos.endLine==cpos.line)=true
 trees:backTo cpos (starEach [e] X.env)=[(false,eval e X.env)]
structure M2 (X:Cx)(o:Expr)(m:Str)(apos:Pos)(e f:Expr)(cpos:Pos):Prop where
 base:attributeBase o m X.env (eval o X.env)=eval o X.env
 few:((backTo cpos (starEach [e,f] X.env)).all (fun x=>!x.1) && (backToKw cpos (keywordEach [] X.env)).all (fun x=>x.1.isSome)
  && decide (([e,f]:List Expr).length+([]:List Keyword).length+(if ([]:List Keyword).isEmpty then 0 else 1)<30))=true
 line:(apos.endLine==cpos.line)=true
 trees:backTo cpos (starEach [e,f] X.env)=[(false,eval e X.env),(false,eval f X.env)]
def IsD (H:Hp)(a:Addr):Prop:=(∃kvs,Rd H a (.dK kvs))\/∃kvs,Rd H a (.dT kvs)
theorem isD_at {X:Cx}{pins:List (Addr×Obj)}{σ:St}{H:Hp}{s:Shared}{a:Addr}(I:Inv X pins σ H s)(d:IsD H a) :
 s.TypeIs (.ref a) "dict" /\ (∀b,Value.ref a = .ref b->∃ob,s.heap.get? b=some ob/\ob.dict=none)/\(a==sysModules)=false:=by
 rcases d with ⟨kvs,e⟩ | ⟨kvs,e⟩
 . obtain⟨_,hd,vs,_,dd⟩:=dk_rd I.hok e
   refine⟨dd.typeIs,fun b q=>?_,hd⟩
   cases q
   obtain⟨ob,_,_,h1,h2,_⟩:=dd
   exact⟨ob,h1,h2.2.1⟩
 . obtain⟨_,hd,xs,_,dd⟩:=dt_rd I.hok e
   refine⟨dd.typeIs,fun b q=>?_,hd⟩
   cases q
   obtain⟨ob,_,_,h1,h2,_⟩:=dd
   exact⟨ob,h1,h2.2.1⟩
section
variable {X:Cx}{pins:List (Addr×Obj)}{σ:St}{H:Hp}{s:Shared}{a:Addr}{y d:V}{u r:Value}{o:Option V}{A:Around}{E:Value->Shared->Prop}
theorem d_get2 {Q:Value->Shared->Prop}(hu:A.units+1<cLine)(I:Inv X pins σ H s)(g:DGet H a y o)(ry:RelV y u)(rd:RelV d r)(h:∀w' s',Inv X pins σ H s'->RelV (o.getD d) w'->Q w' s') :
 wpAny (model X.prog X.w) A (call (.builtin "dict.get") [.ref a,u,r]) Q E s:=by
 rcases g with ⟨kvs,k,e,ey,l⟩ | ⟨kvs,k,b,e,ey,eb,l⟩
 . subst ey
   obtain⟨z,hd,vs,rel,dd⟩:=dk_rd I.hok e
   refine call_meetsIn PySem.F.slot_dict_get dd.typeIs PySem.F.entry_dict_get (PySem.F.args_dict_get_3 _ _ _) (meets_dict_get_default (mixKind X.prog X.w) a (kV_is ry) hd r) ⟨_,dd.mapOf,h _ _ (I.tok _) ?_⟩
   rw[l]
   exact (rel.val k).getD rd
 . subst ey
   cases (show u=Value.ref b from ry)
   obtain⟨z,hd,xs,rel,dd⟩:=dt_rd I.hok e
   refine call_meetsIn PySem.F.slot_dict_get dd.typeIs PySem.F.entry_dict_get (PySem.F.args_dict_get_3 _ _ _) (meetsH_dict_get_default (tupleKind (mixKind X.prog X.w)) a b hd r) ⟨tupleKind_room_in1 hu,k,xs,key_of I.hok eb,dd,h _ _ (I.tok _) ?_⟩
   rw[l]
   exact (rel.val k).getD rd
end
def tDGet2 (td ty tx:TE):TE:=fun σ H Q=>td σ H fun x H1=>∃a,x = .ref a/\IsD H1 a/\ty σ H1 fun y H2=>tx σ H2 fun z H3=>∃o,DGet H3 a y o/\Q (o.getD z) H3
def tDPop1 (td ty:TE):TE:=fun σ H Q=>td σ H fun x H1=>∃a,x = .ref a/\IsD H1 a/\ty σ H1 fun y H2=>∃kvs k v,H2 a=some (.dK kvs)/\y=kV k/\valV kvs k=some v/\Q v (upd H2 a (.dK (dropK kvs k)))
section
variable {X:Cx}{o e f:Expr}{apos cpos:Pos}{td ty tx:TE}
theorem pe_dget2 (hu:X.A.units+1<cLine)(ho:PE X o td)(he:PE X e ty)(hf:PE X f tx)(m:M2 X o "get" apos e f cpos):PE X (.Call (.Attribute o "get" apos) [e,f] [] cpos) (tDGet2 td ty tx):=by
 intro pins s σ H Q I h
 refine wpAny_Call_method m.base m.few m.line PySem.F.plainAttrs_dict PySem.F.slot_dict_get PySem.F.type_dict_get (thn (ho pins s σ H _ I h) fun u s1 ⟨x,H1,I1,rx,a,ex,d,q1⟩=>?_)
 subst ex
 obtain rfl:u=Value.ref a:=rx
 obtain⟨t1,t2,_⟩:=isD_at I1 d
 refine⟨t1,t2,?_⟩
 rw[m.trees]
 refine Calls.callWith_builtin rfl (Calls.evalArgs_plain (Calls.spliced_cons (thn (he pins s1 σ H1 _ I1 q1) fun iv s2 ⟨y,H2,I2,ry,q2⟩=>
  Calls.spliced_cons (thn (hf pins s2 σ H2 _ I2 q2) fun fv s3 ⟨z,H3,I3,rz,ov,g,q3⟩=>Calls.spliced_nil ?_))))
 exact d_get2 hu I3 g ry rz fun w' s4 I4 rw'=>⟨_,H3,I4,rw',q3⟩
theorem pe_dpop1 (ho:PE X o td)(he:PE X e ty)(m:M1 X o "pop" apos e cpos):PE X (.Call (.Attribute o "pop" apos) [e] [] cpos) (tDPop1 td ty):=by
 intro pins s σ H Q I h
 refine wpAny_Call_method m.base m.few m.line PySem.F.plainAttrs_dict PySem.F.slot_dict_pop PySem.F.type_dict_pop (thn (ho pins s σ H _ I h) fun u s1 ⟨x,H1,I1,rx,a,ex,d,q1⟩=>?_)
 subst ex
 obtain rfl:u=Value.ref a:=rx
 obtain⟨t1,t2,_⟩:=isD_at I1 d
 refine⟨t1,t2,?_⟩
 rw[m.trees]
 refine Calls.callWith_builtin rfl (Calls.evalArgs_plain (Calls.spliced_cons (thn (he pins s1 σ H1 _ I1 q1) fun iv s2 ⟨y,H2,I2,ry,kvs,k,v,ea,ey,l,q2⟩=>Calls.spliced_nil ?_)))
 subst ey
 exact d_pop I2 ea ry l (.inl rfl) fun w' s3 I3 rw'=>⟨v,_,I3,rw',q2⟩
end
section
variable {X:Cx}{pins:List (Addr×Obj)}{σ:St}{H:Hp}{s:Shared}{a:Addr}{kvs:List (Key×V)}{A:Around}{E:Value->Shared->Prop}
end
section
variable {X:Cx}{pins:List (Addr×Obj)}{σ:St}{H:Hp}{s:Shared}{a:Addr}{y:V}{u:Value}{A:Around}{E:Value->Shared->Prop}
end
end L2
namespace HT
open PySem PyProof.Rows
def lexLt:List Int->List Int->Bool
 | [],[]=>false
 | [],_::_=>true
 | _::_,[]=>false
 | x::xs,y::ys=>if x=y then lexLt xs ys else decide (x<y)
theorem lexLt_cons (x y:Int)(xs ys:List Int):lexLt (x::xs) (y::ys)=if x=y then lexLt xs ys else decide (x<y):=rfl
theorem lexLt_nil_nil:lexLt [] []=false:=rfl
theorem lexLt_nil_cons (y:Int)(ys:List Int):lexLt [] (y::ys)=true:=rfl
theorem lexLt_cons_nil (x:Int)(xs:List Int):lexLt (x::xs) []=false:=rfl
theorem eqAt_int (A:Around)(s:Shared)(a:Int)(t:Tok)(c:Int)(u:Tok):∃e,SeqAt.EqAt A s (.int a t) (.int c u) e/\(e=true↔a=c):=
 ⟨(a==c),SeqAt.EqAt.int_int a t c u,by simp⟩
theorem rcLt_int (A:Around)(s:Shared)(a:Int)(t:Tok)(c:Int)(u:Tok)(prog:Program)(w:World)(E:Value->Shared->Prop)(Q:Value->Shared->Prop)(h:Q (.bool (decide (a<c))) s) :
 wpAny (model prog w) A (richCompare .Lt (.int a t) (.int c u)) Q E s:=
 (PyProof.Rows.lt_int h:wpAny (model prog w) A (compareOp .Lt (.int a t) (.int c u)) Q E s)
section
open PySem.SeqAt
open PySem.AutoSeq1 (wpAny_loadPart')
open PySem.MeetsSeq PySem.MeetsSeq2 PySem.MeetsSeq3
theorem tuple_lt_ints (l b:Addr)(items items2:Array Value)(n n2:Nat)(dd dd2:Option Addr)(sl sl2:Array (Option Value))(ns ms:List Int)(hi:IntsAre items.toList ns)(hj:IntsAre items2.toList ms) :
 Meets (Builtin.«tuple.__lt__» ⟨[.ref l,.ref b],[]⟩)
  (fun _ R s=>s.heap.get? l=some { cls:=.type "tuple",dict:=dd,data:=.seq items n,slots:=sl }/\s.heap.get? b=some { cls:=.type "tuple",dict:=dd2,data:=.seq items2 n2,slots:=sl2 } /\
   R (.ok (.ret (.bool (lexLt ns ms)))) s):=
 .of_wp fun prog w A R s h=>by
  obtain⟨hp,g,d,tk,os⟩:=s;obtain⟨hl,hb,h⟩:=h
  have f2:=AutoSeq1.sub_tuple_tuple
  have z1:items.size=ns.length:=by rw[<-hi.length];simp
  have z2:items2.size=ms.length:=by rw[<-hj.length];simp
  wp_walk using wpAny_loadPart' hl,wpAny_loadPart' hb,wpAny_forIn_list _ (fun rest b s'=>b.1=none/\s'=⟨hp,g,d,tk,os⟩/\∃(vs ws:List Value)(ns' ms':List Int),rest=vs.zip ws /\
   IntsAre vs ns'/\IntsAre ws ms'/\ns'.length+items2.size=ms'.length+items.size/\R (.ok (.ret (.bool (lexLt ns' ms')))) ⟨hp,g,d,tk,os⟩) _
  case turn=>
   rintro ⟨y,x⟩ rest b s' ⟨hb',rfl,vs,ws,ns',ms',hz,hvi,hwi,hlen,hR⟩
   cases hvi with
   | nil=>rw[List.zip_nil_left] at hz;cases hz
   | cons a t hvi'=>
    cases hwi with
    | nil=>rw[List.zip_nil_right] at hz;cases hz
    | cons c u hwi'=>
     rw[List.zip_cons_cons] at hz
     injection hz with hyx hrest
     injection hyx with hy hx
     subst hy hx
     rw[lexLt_cons] at hR
     simp only[List.length_cons] at hlen
     obtain⟨e,he,hiff⟩:=eqAt_int A.in1 ⟨hp,g,d,tk,os⟩ a t c u
     refine wpAny_bind (he prog w _ _ ?_)
     cases e with
     | true=>
      rw[if_pos (hiff.mp rfl)] at hR
      wp_walk
      exact⟨rfl,rfl,_,_,_,_,hrest,hvi',hwi',by omega,hR⟩
     | false=>
      rw[if_neg (fun q=>absurd (hiff.mpr q) Bool.false_ne_true)] at hR
      have hri:=rcLt_int A.in1 ⟨hp,g,d,tk,os⟩ a t c u prog w
      wp_walk using hri
      exact⟨_,rfl,by simpa using hR⟩
  case fin=>
   rintro ⟨b1,b2⟩ s' ⟨hb',rfl,vs,ws,ns',ms',hz,hvi,hwi,hlen,hR⟩
   simp only at hb'
   subst hb'
   have hv:lexLt ns' ms'=decide (items.size<items2.size):=by
    cases hvi with
    | nil=>
     cases hwi with
     | nil=>
      simp only[List.length_nil] at hlen
      rw[lexLt_nil_nil]
      exact (decide_eq_false (by omega)).symm
     | cons c u hw=>
      simp only[List.length_nil,List.length_cons] at hlen
      rw[lexLt_nil_cons]
      exact (decide_eq_true (by omega)).symm
    | cons a t hv=>
     cases hwi with
     | nil=>
      simp only[List.length_nil,List.length_cons] at hlen
      rw[lexLt_cons_nil]
      exact (decide_eq_false (by omega)).symm
     | cons c u hw=>
      rw[List.zip_cons_cons] at hz
      cases hz
   rw[hv] at hR
   wp_walk
   exact⟨_,rfl,by simpa [Builtin.Tuple.tupleCompareSizes] using hR⟩
  case h=>
   exact⟨rfl,rfl,items.toList,items2.toList,ns,ms,rfl,hi,hj,by omega,h⟩
end
section
variable {prog:Program}{w:World}{A:Around}{E:Value->Shared->Prop}{s:Shared}
theorem lt_tupInts {l b:Addr}{items items2:Array Value}{ns ms:List Int}{Q:Value->Shared->Prop}(hl:IsTup s.heap l items)(hb:IsTup s.heap b items2)(hi:IntsAre items.toList ns)(hj:IntsAre items2.toList ms)
 (hu:A.units<cLine)(h:Q (.bool (lexLt ns ms)) s):wpAny (model prog w) A (compareOp .Lt (.ref l) (.ref b)) Q E s:=by
 obtain⟨⟨cls,dd,data,sl⟩,ho,hc,n,hd⟩:=id hl
 obtain⟨⟨cls2,dd2,data2,sl2⟩,ho2,hc2,n2,hd2⟩:=id hb
 simp only at hc hd hc2 hd2
 subst hc hd hc2 hd2
 exact richCompare_meets_room (op:=.Lt) ⟨_,ho,rfl⟩ ⟨_,ho2,rfl⟩ PySem.F.slot_tuple_lt PySem.F.entry_tuple_lt (PySem.F.args_tuple_lt_2 _ _) (tuple_lt_ints l b items items2 n n2 dd dd2 sl sl2 ns ms hi hj)
  ⟨ho,ho2,show Value.bool (lexLt ns ms)≠Value.notImplemented/\Q (.bool (lexLt ns ms)) s from ⟨(fun x=>nomatch x),h⟩⟩ hu
def sIx (n d:Nat):Option Int->Nat
 | none=>d
 | some v=>if v<0 then (v+(n:Int)).toNat else min v.toNat n
theorem sIx_none (n d:Nat):sIx n d none=d:=rfl
theorem sIx_nat (n d k:Nat):sIx n d (some (k:Int))=min k n:=by
 show (if (k:Int)<0 then ((k:Int)+(n:Int)).toNat else min (k:Int).toNat n)=min k n
 rw[if_neg (by omega),Int.toNat_natCast]
end
end HT
namespace L2
open PySem PySem.Spec PyProof.Rows
abbrev TO:=St->Hp->(Option Int->Hp->Prop)->Prop
def PO (X:Cx)(e:Option Expr)(t:TO):Prop:=
 ∀(pins:List (Addr×Obj))(s:Shared)(σ:St)(H:Hp)(Q:Option Int->Hp->Prop),Inv X pins σ H s->t σ H Q ->
  wpAny (model X.prog X.w) X.A (evalPart e X.env) (fun u s'=>∃o H',Inv X pins σ H' s'/\IsPart u o/\Q o H') X.xe s
def tNoPart:TO:=fun _ H Q=>Q none H
def tPart (t:TE):TO:=fun σ H Q=>t σ H fun x H1=>∃i,x = .int i/\Q (some i) H1
theorem intsAre_of {ns:List Int}:∀{us:List Value},Vals (ns.map V.int) us->IntsAre us ns:=by
 induction ns with
 | nil=>intro us r;rw[List.map_nil] at r;cases r;exact .nil
 | cons n ns ih=>
  intro us r
  rw[List.map_cons] at r
  cases r with
  | cons r1 r2=>
   obtain⟨t,e⟩:=r1
   subst e
   exact .cons n t (ih r2)
section
variable {X:Cx}{e:Expr}{te:TE}{lo hi:Option Expr}{tl th:TO}{pos p2:Pos}
theorem po_none:PO X none tNoPart:=by
 intro pins s σ H Q I h
 rw[evalPart_none]
 exact wpAny_pure ⟨none,H,I,.none,h⟩
theorem po_some (h:PE X e te):PO X (some e) (tPart te):=by
 intro pins s σ H Q I hw
 rw[evalPart_some]
 refine thn (h pins s σ H _ I hw) fun u s1 ⟨x,H1,I1,r1,q1⟩=>?_
 obtain⟨i,rfl,q⟩:=q1
 obtain⟨t,rfl⟩:=r1
 exact⟨some i,H1,I1,.int i t,q⟩
def SlR (X:Cx)(r:V->Option Int->Option Int->Hp->VK->Prop):Prop:=
 ∀(pins:List (Addr×Obj))(s:Shared)(σ:St)(H:Hp)(x:V)(v vl vu:Value)(lo hi:Option Int)(sl:Addr)(Q:VK),Inv X pins σ H s->RelV x v->s.heap.IsSliceOf sl vl vu .none->IsPart vl lo->IsPart vu hi->r x lo hi H Q ->
  ∃T id,typeLookup (.type T) "__getitem__" = pure (some (.builtin id))/\s.TypeIs v T/\wpAny (model X.prog X.w) X.A (getItem v (.ref sl)) (EP X pins σ Q) X.xe s
def tSl (r:V->Option Int->Option Int->Hp->VK->Prop)(te:TE)(tl th:TO):TE:=fun σ H Q=>te σ H fun x H1=>tl σ H1 fun l H2=>th σ H2 fun u H3=>r x l u H3 Q
theorem pe_slice {r:V->Option Int->Option Int->Hp->VK->Prop}(hr:SlR X r)(he:PE X e te)(hl:PO X lo tl)(hu:PO X hi th):PE X (.Subscript e (.Slice lo hi none p2) pos) (tSl r te tl th):=by
 intro pins s σ H Q I h
 refine Subscript_ (thn (he pins s σ H _ I h) fun v s1 ⟨x,H1,I1,r1,q1⟩=>?_)
 refine wpAny_Slice (thn (hl pins s1 σ H1 _ I1 q1) fun vl s2 ⟨l,H2,I2,pl,q2⟩=>thn (hu pins s2 σ H2 _ I2 q2) fun vu s3 ⟨u,H3,I3,pu,q3⟩=>?_)
 rw[evalPart_none]
 refine wpAny_pure ?_
 have I4:Inv X pins σ H3 { s3 with heap:=s3.heap.push { cls:=.type "slice",data:=.fields #[vl,vu,.none] } }:=I3.kept (t':=s3.toks) fun b ob q=>Heap.get?_push_of_some _ q
 obtain⟨T,id,hT,ht,hg⟩:=hr pins { s3 with heap:=s3.heap.push { cls:=.type "slice",data:=.fields #[vl,vu,.none] } } σ H3 x v vl vu l u s3.heap.objs.size Q I4 r1 (Heap.IsSliceOf.new ..) pl pu q3
 show wpAny (model X.prog X.w) X.A (subscriptTail e (.Slice lo hi none p2) v (.ref s3.heap.objs.size)) (EP X pins σ Q) X.xe { s3 with heap:=s3.heap.push { cls:=.type "slice",data:=.fields #[vl,vu,.none] } }
 exact tail_any (ops:=[.ref s3.heap.objs.size,v]) ht hT hg (by with_unfolding_all rfl)
def cutV (xs:List V)(lo hi:Option Int):List V:=(xs.drop (HT.sIx xs.length 0 lo)).take (HT.sIx xs.length xs.length hi-HT.sIx xs.length 0 lo)
theorem cutV_length (xs:List V)(lo hi:Option Int):(cutV xs lo hi).length<=xs.length:=by
 unfold cutV
 rw[List.length_take,List.length_drop]
 omega
end
end L2
namespace L2
open PySem PySem.Spec PyProof.Rows
def ixN (n:Nat)(i:Int):Option Nat:=if 0<=i then (if i<n then some i.toNat else none) else if -(n:Int)<=i then some (i+n).toNat else none
def atI {α:Type}(xs:List α)(i:Int):Option α:=(ixN xs.length i).bind fun j=>xs[j]?
theorem ixN_seq {n:Nat}{i:Int}{j:Nat}(h:ixN n i=some j):seqIndex? i n=some j/\j<n /\ -(n:Int)<=i/\i<n:=by
 unfold ixN at h
 by_cases h0:0<=i
 . rw[if_pos h0] at h
   by_cases h1:i<n
   . rw[if_pos h1] at h
     have e:i.toNat=j:=Option.some.inj h
     exact⟨by rw[seqIndex_of h0 h1,e],by omega,by omega,h1⟩
   . rw[if_neg h1] at h;cases h
 . rw[if_neg h0] at h
   by_cases h1 : -(n:Int)<=i
   . rw[if_pos h1] at h
     have e:(i+n).toNat=j:=Option.some.inj h
     exact⟨by rw[seqIndex_neg (by omega) h1,e],by omega,h1,by omega⟩
   . rw[if_neg h1] at h;cases h
theorem atI_get {α:Type}{xs:List α}{i:Int}{v:α}(h:atI xs i=some v):∃j,seqIndex? i xs.length=some j/\xs[j]? = some v/\j<xs.length /\ -(xs.length:Int)<=i/\i<xs.length:=by
 unfold atI at h
 cases e:ixN xs.length i with
 | none=>rw[e] at h;cases h
 | some j=>
  rw[e] at h
  obtain⟨h1,h2,h3,h4⟩:=ixN_seq e
  exact⟨j,h1,h,h2,h3,h4⟩
theorem atI_nat {α:Type}{xs:List α}{j:Nat}{v:α}(h:xs[j]? = some v):atI xs (j:Int)=some v:=by
 have hj:j<xs.length:=(List.getElem?_eq_some_iff.mp h).1
 have e:ixN xs.length (j:Int)=some j:=by
  unfold ixN
  rw[if_pos (by omega),if_pos (by omega)];simp
 unfold atI;rw[e];exact h
def PlainIx (b:Expr):Prop:=∀o i,subscripted b false o i=operate [o,i] (getItem o i)
def IxR (X:Cx)(r:R2):Prop:=
 ∀(value slice:Expr)(pins:List (Addr×Obj))(s:Shared)(σ:St)(H:Hp)(x y:V)(v u:Value)(Q:VK),Inv X pins σ H s->RelV x v->RelV y u->r x y H Q ->
  subscripted slice false v u=operate [v,u] (getItem v u)->wpAny (model X.prog X.w) X.A (subscriptTail value slice v u) (EP X pins σ Q) X.xe s
def MtR (X:Cx)(id:String)(r:V->List V->Hp->VK->Prop):Prop:=
 ∀(pins:List (Addr×Obj))(s:Shared)(σ:St)(H:Hp)(x:V)(xs:List V)(v:Value)(us:List Value)(Q:VK),Inv X pins σ H s->RelV x v->Vals xs us->r x xs H Q ->
  wpAny (model X.prog X.w) X.A (call (.builtin id) (v::us)) (EP X pins σ Q) X.xe s
section
variable {X:Cx}{a b:Expr}{ta tb:TE}{pos:Pos}
theorem pe_ix {r:R2}(hr:IxR X r)(ha:PE X a ta)(hb:PE X b tb)(hs:PlainIx b):PE X (.Subscript a b pos) (tOp r ta tb):=by
 intro pins s σ H Q I h
 exact Subscript_ (binT ha hb I h fun v u s2 x y H2 I2 rx ry q=>hr a b pins s2 σ H2 x y v u Q I2 rx ry q (hs _ _))
def rIxL (K:PySem.W.Frag):R2:=fun x y H Q=>∃p xs i v,x = .ref p/\y = .int i/\SqL K H p xs/\atI xs i=some v/\Q v H
def rIxT (K:PySem.W.Frag):R2:=fun x y H Q=>∃p xs i v,x = .ref p/\y = .int i/\SqT K H p xs/\atI xs i=some v/\Q v H
theorem ix_list:IxR X (rIxL X.K):=by
 intro value slice pins s σ H x y v u Q I rx ry h hs
 obtain⟨p,xs,i,z,rfl,rfl,hq,he,q⟩:=h
 cases rx
 obtain⟨t,rfl⟩:=ry
 obtain⟨its,r,pl,hz⟩:=I.list hq
 obtain⟨j,h1,h2,h3,h4,h5⟩:=atI_get he
 obtain⟨w,ew,rw'⟩:=r.get h2
 have hl:=r.length
 have hn:=line63
 have fin:EP X pins σ Q w s:=⟨z,H,I,rw',q⟩
 by_cases h0:0<=i
 . have hj:i.toNat=j:=by
    rw[seqIndex_of h0 h5] at h1
    exact Option.some.inj h1
   exact item_listR pl.isList h0 (by omega) (by rw[hj];simpa using ew) fin hs
 . have hj:(i+(its.toArray.size:Int)).toNat=j:=by
    rw[seqIndex_neg (by omega) h4] at h1
    rw[List.size_toArray,<-hl]
    exact Option.some.inj h1
   exact subscriptTail_builtinR (x:=w) pl.isList.typeIs slot_list_getitem.lookup
    (wpAny_getItem_list_neg (Q:=fun r s'=>r=w/\EP X pins σ Q r s') pl.isList (by omega) (by rw[List.size_toArray] <;> omega) (by omega) (by rw[hj];simpa using ew) ⟨rfl,fin⟩) hs
theorem ix_tup:IxR X (rIxT X.K):=by
 intro value slice pins s σ H x y v u Q I rx ry h hs
 obtain⟨p,xs,i,z,rfl,rfl,hq,he,q⟩:=h
 cases rx
 obtain⟨t,rfl⟩:=ry
 obtain⟨its,r,pl,hz⟩:=I.tuple hq
 obtain⟨j,h1,h2,h3,h4,h5⟩:=atI_get he
 obtain⟨w,ew,rw'⟩:=r.get h2
 have hl:=r.length
 have hn:=line63
 have fin:EP X pins σ Q w s:=⟨z,H,I,rw',q⟩
 exact subscriptTail_builtinR (x:=w) pl.typeIs slot_tuple_getitem.lookup
  (getItem_tuple (j:=j) (Q:=fun r s'=>r=w/\EP X pins σ Q r s') pl (by omega) (by omega) (by rw[List.size_toArray,<-hl];exact h1) (by simpa using ew) ⟨rfl,fin⟩) hs
theorem mapSeq_set (its:List Value)(n j:Nat)(u:Value):Obj.mapSeq (·.setIfInBounds j u) { cls:=.type "list",data:=.seq its.toArray n }={ cls:=.type "list",data:=.seq (its.set j u).toArray n }:=by
 simp[Obj.mapSeq]
theorem Inv.lst {pins:List (Addr×Obj)}{σ:St}{H:Hp}{s:Shared}{p:Addr}{xs:List V}(I:Inv X pins σ H s)(h:H p=some (.lst xs)) :
 ∃(its:List Value)(n:Nat),Vals xs its/\s.heap.get? p=some { cls:=.type "list",data:=.seq its.toArray n }/\xs.length<=sizeLine:=by
 obtain⟨z,its,n,r,e⟩:=I.hok p _ h
 exact⟨its,n,r,e,z⟩
theorem Inv.lstUpd {pins:List (Addr×Obj)}{σ:St}{H:Hp}{s:Shared}{p:Addr}{xs ys:List V}{its its':List Value}{n n':Nat}{f:Obj->Obj}(I:Inv X pins σ H s)(h:H p=some (.lst xs))
 (ho:s.heap.get? p=some { cls:=.type "list",data:=.seq its.toArray n }) (hf:f { cls:=.type "list",data:=.seq its.toArray n }={ cls:=.type "list",data:=.seq its'.toArray n' }) (r:Vals ys its')(hz:ys.length<=sizeLine)(t:Nat) :
 Inv X pins σ (upd H p (.lst ys)) { s with heap:=s.heap.update p f,toks:=t }:=by
 have e:(s.heap.update p f).get? p=some { cls:=.type "list",data:=.seq its'.toArray n' }:=by
  rw[Heap.get?_update_self f ho (by rw[hf] <;> rfl),hf]
 refine I.write (x:=p) (e:=p) (by rw[h];trivial) (.inl rfl) (fun b u hb q=>(Heap.get?_update_other _ _ (Ne.symm hb)).trans q) ⟨_,e⟩ ?_
 exact⟨hz,its',n',r,e⟩
def rSetL:V->V->V->Hp->(Hp->Prop)->Prop:=fun o i v H Q=>∃p xs k j,o = .ref p/\i = .int k/\H p=some (.lst xs)/\ixN xs.length k=some j/\Q (upd H p (.lst (xs.set j v)))
theorem set_list:PSet X rSetL:=by
 intro pins s σ H o i v ov iv u Q I ro ri rv h
 obtain⟨p,xs,k,j,rfl,rfl,hp,hj,q⟩:=h
 cases ro
 obtain⟨t,rfl⟩:=ri
 obtain⟨its,n,r,ho,hz⟩:=I.lst hp
 obtain⟨h1,h2,h3,h4⟩:=ixN_seq hj
 have hl:=r.length
 have hn:=line63
 have I':Inv X pins σ (upd H p (.lst (xs.set j v))) { s with heap:=s.heap.update p (Obj.mapSeq (·.setIfInBounds j u)) }:=
  I.lstUpd hp ho (mapSeq_set its n j u) (r.set rv j) (by rw[List.length_set];exact hz) s.toks
 by_cases h0:0<=k
 . have hk:k.toNat=j:=by
    rw[seqIndex_of h0 h4] at h1
    exact Option.some.inj h1
   exact PySem.W.ki_setAt ho h0 (by omega) (by rw[List.size_toArray,<-hl];exact h4) (by rw[hk];exact⟨_,I',q⟩)
 . have hk:(k+(its.toArray.size:Int)).toNat=j:=by
    rw[seqIndex_neg (by omega) h3] at h1
    rw[List.size_toArray,<-hl]
    exact Option.some.inj h1
   exact PySem.W.ki_setBack ho (by omega) (by rw[List.size_toArray,<-hl];exact h3) (by omega) (by rw[hk];exact⟨_,I',q⟩)
theorem slice_bounds (lo hi:Option Int)(n:Nat):(sliceBounds lo hi none n).1=((HT.sIx n 0 lo:Nat):Int)/\(sliceBounds lo hi none n).2.1=((HT.sIx n n hi:Nat):Int)/\(sliceBounds lo hi none n).2.2=1:=by
 refine⟨?_,?_,rfl⟩
 . cases lo with
   | none=>simp[sliceBounds,HT.sIx]
   | some i=>
    simp only[sliceBounds,HT.sIx,Option.getD_none,show (1:Int) > 0 by decide,if_true]
    by_cases h:i<0
    . simp only[h,if_true] <;> omega
    . simp only[h,if_false] <;> omega
 . cases hi with
   | none=>simp[sliceBounds,HT.sIx]
   | some i=>
    simp only[sliceBounds,HT.sIx,Option.getD_none,show (1:Int) > 0 by decide,if_true]
    by_cases h:i<0
    . simp only[h,if_true] <;> omega
    . simp only[h,if_false] <;> omega
theorem slicePick_cut (its:List Value)(lo hi:Option Int):slicePick its.toArray lo hi none=((its.drop (HT.sIx its.length 0 lo)).take (HT.sIx its.length its.length hi-HT.sIx its.length 0 lo)).toArray:=by
 obtain⟨h1,h2,h3⟩:=slice_bounds lo hi its.toArray.size
 unfold slicePick
 rw[h1,h2,h3]
 simp only[sliceRange_one,pick_run,List.size_toArray] <;> rfl
def rSlL (K:PySem.W.Frag):V->Option Int->Option Int->Hp->VK->Prop:=fun x lo hi H Q=>∃a xs,x = .ref a/\SqL K H a xs/\∀p,H p=none->Q (.ref p) (upd H p (.lst (cutV xs lo hi)))
theorem sl_list:SlR X (rSlL X.K):=by
 intro pins s σ H x v vl vu lo hi sl Q I rx hs pl pu h
 obtain⟨a,xs,rfl,hx,q⟩:=h
 cases rx
 obtain⟨its,r,ht,hz⟩:=I.list hx
 have hlen:=r.length
 refine⟨"list",_,slot_list_getitem.lookup,ht.isList.typeIs,?_⟩
 refine wpAny_getItem_list_slice ht.isList hs pl pu .none (by simp) ?_ (by rw[List.size_toArray] <;> omega)
 rw[slicePick_cut,<-hlen]
 refine⟨.ref s.heap.objs.size,_,I.laid (t':=s.toks) (o:=.lst (cutV xs lo hi)) (fun b ob q=>Heap.get?_push_of_some _ q) (Nat.le_refl _) ?_,rfl,q _ (I.hok.fresh (Nat.le_refl _))⟩
 exact⟨Nat.le_trans (cutV_length xs lo hi) hz,_,0,(r.drop (HT.sIx xs.length 0 lo)).take (HT.sIx xs.length xs.length hi-HT.sIx xs.length 0 lo),Heap.get?_push_size _ rfl⟩
def flatV:V->Bool
 | .non=>true
 | .bl _=>true
 | .int _=>true
 | .str _=>true
 | _=>false
def eqV:V->V->Bool
 | .non,.non=>true
 | .bl a,.bl b=>a==b
 | .bl a,.int b=>(if a then 1 else 0)==b
 | .int a,.bl b=>a==(if b then 1 else 0)
 | .int a,.int b=>a==b
 | .str a,.str b=>a==b
 | _,_=>false
theorem eqAt_V {A:Around}{s:Shared}{y x:V}{u v:Value}(ry:RelV y u)(rx:RelV x v)(fy:flatV y=true)(fx:flatV x=true):SeqAt.EqAt A s u v (eqV y x):=by
 cases y with
 | non=>
  cases ry
  cases x with
  | non=>cases rx;exact SeqAt.EqAt.same _
  | bl b=>cases rx;exact SeqAt.EqAt.none_bool b
  | int b=>obtain⟨t,rfl⟩:=rx;exact SeqAt.EqAt.none_int b t
  | str b=>obtain⟨t,rfl⟩:=rx;exact SeqAt.EqAt.none_str b t
  | _=>exact absurd (show false=true from fx) Bool.false_ne_true
 | bl a=>
  cases ry
  cases x with
  | non=>cases rx;exact SeqAt.EqAt.bool_none a
  | bl b=>cases rx;exact SeqAt.EqAt.bool_bool a b
  | int b=>obtain⟨t,rfl⟩:=rx;exact SeqAt.EqAt.bool_int a b t
  | str b=>obtain⟨t,rfl⟩:=rx;exact SeqAt.EqAt.bool_str a b t
  | _=>exact absurd (show false=true from fx) Bool.false_ne_true
 | int a=>
  obtain⟨t',rfl⟩:=ry
  cases x with
  | non=>cases rx;exact SeqAt.EqAt.int_none a t'
  | bl b=>cases rx;exact SeqAt.EqAt.int_bool a t' b
  | int b=>obtain⟨t,rfl⟩:=rx;exact SeqAt.EqAt.int_int a t' b t
  | str b=>obtain⟨t,rfl⟩:=rx;exact SeqAt.EqAt.int_str a t' b t
  | _=>exact absurd (show false=true from fx) Bool.false_ne_true
 | str a=>
  obtain⟨t',rfl⟩:=ry
  cases x with
  | non=>cases rx;exact SeqAt.EqAt.str_none a t'
  | bl b=>cases rx;exact SeqAt.EqAt.str_bool a t' b
  | int b=>obtain⟨t,rfl⟩:=rx;exact SeqAt.EqAt.str_int a t' b t
  | str b=>obtain⟨t,rfl⟩:=rx;exact SeqAt.EqAt.str_str a t' b t
  | _=>exact absurd (show false=true from fx) Bool.false_ne_true
 | _=>exact absurd (show false=true from fy) Bool.false_ne_true
def eqU (x:V)(u:Value):Bool:=match u with
 | .none=>eqV .non x
 | .bool b=>eqV (.bl b) x
 | .int i _=>eqV (.int i) x
 | .str z _=>eqV (.str z) x
 | _=>false
theorem eqU_of {x y:V}{u:Value}(r:RelV y u)(f:flatV y=true):eqU x u=eqV y x:=by
 cases y with
 | non=>cases r;rfl
 | bl b=>cases r;rfl
 | int i=>obtain⟨t,rfl⟩:=r;rfl
 | str z=>obtain⟨t,rfl⟩:=r;rfl
 | _=>exact absurd (show false=true from f) Bool.false_ne_true
theorem any_eqU {x:V}:∀{xs:List V}{us:List Value},Vals xs us->xs.all flatV=true->us.any (eqU x)=xs.any fun y=>eqV y x
 | _,_,.nil,_=>rfl
 | y::xs,u::us,.cons r t,f=>by
  rw[List.all_cons,Bool.and_eq_true] at f
  rw[List.any_cons,List.any_cons,eqU_of r f.1,any_eqU t f.2]
theorem mem_eqAt {A:Around}{s:Shared}{x:V}{v:Value}(rx:RelV x v)(fx:flatV x=true):∀{xs:List V}{us:List Value},Vals xs us->xs.all flatV=true->∀u∈us,SeqAt.EqAt A s u v (eqU x u)
 | _,_,.nil,_=>fun u hu=>by cases hu
 | y::xs,u::us,.cons r t,f=>fun u' hu=>by
  rw[List.all_cons,Bool.and_eq_true] at f
  rcases List.mem_cons.mp hu with rfl | hu
  . rw[eqU_of r f.1];exact eqAt_V r rx f.1 fx
  . exact mem_eqAt rx fx t f.2 u' hu
def inV (x:V)(xs:List V):Bool:=xs.any fun y=>eqV y x
def rIn (K:PySem.W.Frag)(neg:Bool):R2:=fun x y H Q=>∃p xs,y = .ref p/\(SqL K H p xs\/SqT K H p xs)/\flatV x=true/\xs.all flatV=true/\Q (.bl (if neg then !inV x xs else inV x xs)) H
theorem op_in_seq:OpR X (compareOp .In) (rIn X.K false):=by
 intro pins s σ H x y v u Q I rx ry h
 obtain⟨p,xs,rfl,hq,fx,fs,q⟩:=h
 cases ry
 rcases hq with hq | hq
 . obtain⟨its,r,pl,hz⟩:=I.list hq
   refine SeqAt.in_listAt (eqU x) pl.isList (fun w hw=>mem_eqAt rx fx r fs w (by simpa using hw)) ⟨.bl _,H,I,rfl,?_⟩
   rw[show its.toArray.any (eqU x)=its.any (eqU x) by simp,any_eqU r fs]
   exact q
 . obtain⟨its,r,pl,hz⟩:=I.tuple hq
   refine SeqAt.in_tupleAt (eqU x) pl (fun w hw=>mem_eqAt rx fx r fs w (by simpa using hw)) ⟨.bl _,H,I,rfl,?_⟩
   rw[show its.toArray.any (eqU x)=its.any (eqU x) by simp,any_eqU r fs]
   exact q
theorem op_notIn_seq:OpR X (compareOp .NotIn) (rIn X.K true):=by
 intro pins s σ H x y v u Q I rx ry h
 obtain⟨p,xs,rfl,hq,fx,fs,q⟩:=h
 cases ry
 rcases hq with hq | hq
 . obtain⟨its,r,pl,hz⟩:=I.list hq
   refine SeqAt.notIn_listAt (eqU x) pl.isList (fun w hw=>mem_eqAt rx fx r fs w (by simpa using hw)) ⟨.bl _,H,I,rfl,?_⟩
   rw[show its.toArray.any (eqU x)=its.any (eqU x) by simp,any_eqU r fs]
   exact q
 . obtain⟨its,r,pl,hz⟩:=I.tuple hq
   refine SeqAt.notIn_tupleAt (eqU x) pl (fun w hw=>mem_eqAt rx fx r fs w (by simpa using hw)) ⟨.bl _,H,I,rfl,?_⟩
   rw[show its.toArray.any (eqU x)=its.any (eqU x) by simp,any_eqU r fs]
   exact q
theorem call_len_seq:CallR X (.builtin "len") (fun xs H Q=>∃p ys,xs=[.ref p]/\(SqL X.K H p ys\/SqT X.K H p ys)/\Q (.int ys.length) H):=by
 intro pins s σ H xs us Q I r h
 obtain⟨p,ys,rfl,hq,q⟩:=h
 obtain⟨u,rfl,rx⟩:=vals1 r
 cases rx
 have hn:=line63
 rcases hq with hq | hq
 . obtain⟨its,r',pl,hz⟩:=I.list hq
   have hlen:=r'.length
   exact Calls.call_len_list pl.isList (by simp only[List.size_toArray] <;> omega) ⟨.int ys.length,H,I.tok _,⟨s.toks+1,by rw[List.size_toArray,hlen]⟩,q⟩
 . obtain⟨its,r',pl,hz⟩:=I.tuple hq
   have hlen:=r'.length
   exact len_tuple pl (by simp only[List.size_toArray] <;> omega) ⟨.int ys.length,H,I.tok _,⟨s.toks+1,by rw[List.size_toArray,hlen]⟩,q⟩
theorem call_tuple_of:CallR X (.type "tuple") (fun xs H Q=>∃p ys,xs=[.ref p]/\((SqL X.K H p ys/\∀l,H l=none->Q (.ref l) (upd H l (.tup ys)))\/(SqT X.K H p ys/\Q (.ref p) H))):=by
 intro pins s σ H xs us Q I r h
 obtain⟨p,ys,rfl,h⟩:=h
 obtain⟨u,rfl,rx⟩:=vals1 r
 cases rx
 rcases h with ⟨hq,q⟩ | ⟨hq,q⟩
 . obtain⟨its,r',pl,hz⟩:=I.list hq
   have hlen:=r'.length
   refine call_tuple_list pl.isList (fun h' kp=>?_) (by simp only[List.size_toArray] <;> omega)
   have I1:Inv X pins σ H { s with heap:=h' }:=I.kept (t':=s.toks) kp
   have I2:Inv X pins σ (upd H h'.objs.size (.tup ys)) { s with heap:=h'.push { cls:=.type "tuple",data:=.seq its.toArray } }:=
    I1.laid (t':=s.toks) (fun b o e=>Heap.get?_push_of_some _ e) (Nat.le_refl _) (show ObjOk X.prog X.w _ _ _ (.tup ys) from ⟨⟨hz,_,Heap.get?_push_size _ rfl,rfl⟩,its,r',IsTup.new _ _⟩)
   exact⟨.ref h'.objs.size,_,I2,rfl,q _ (I1.hok.fresh (Nat.le_refl _))⟩
 . obtain⟨its,r',pl,hz⟩:=I.tuple hq
   exact call_tuple_same pl ⟨.ref p,H,I,rfl,q⟩
def tyV (K:PySem.W.Frag)(T:String)(x:V)(H:Hp):Prop:=match x with
 | .str _=>T = "str"
 | .int _=>T = "int"
 | .ref p=>(T = "list" /\ ∃xs,SqL K H p xs)\/(T = "tuple" /\ ∃o,K.lookup p=some o/\o.cls = .type "tuple" /\ o.dict=none) \/
  (T = "dict" /\ ((∃kvs,H p=some (.dK kvs))\/∃kvs,H p=some (.dT kvs)))\/(T = "set" /\ ∃S n,H p=some (.set S n))
 | _=>False
theorem tyV_is {pins:List (Addr×Obj)}{σ:St}{H:Hp}{s:Shared}{T:String}{x:V}{v:Value}(I:Inv X pins σ H s)(r:RelV x v)(ty:tyV X.K T x H) :
 s.TypeIs v T/\∀a,v = .ref a->∃ob,s.heap.get? a=some ob/\ob.dict=none:=by
 cases x with
 | str z=>
  obtain⟨t,rfl⟩:=r
  cases (show T = "str" from ty)
  exact⟨typeIs_str s z t,fun _ e=>nomatch e⟩
 | int i=>
  obtain⟨t,rfl⟩:=r
  cases (show T = "int" from ty)
  exact⟨typeIs_int s i t,fun _ e=>nomatch e⟩
 | ref p=>
  cases r
  rcases ty with ⟨rfl,xs,hq⟩ | ⟨rfl,o,hk,hc,hd⟩ | ⟨rfl,hk⟩ | ⟨rfl,S,n,hk⟩
  . obtain⟨its,_,pl,_⟩:=I.list hq
    refine⟨pl.isList.typeIs,fun a e=>?_⟩
    cases e
    obtain⟨o,n,e,c,hd,_⟩:=pl
    exact⟨o,e,hd⟩
  . refine⟨⟨o,I.kIn p o hk,hc⟩,fun a e=>?_⟩
    cases e
    exact⟨o,I.kIn _ o hk,hd⟩
  . have z:∃o,s.heap.get? p=some o/\o.ExactDict:=by
     rcases hk with ⟨kvs,hk⟩ | ⟨kvs,hk⟩
     . obtain⟨_,_,_,_,o,_,_,e,ex,_⟩:=I.hok p _ hk
       exact⟨o,e,ex⟩
     . obtain⟨_,_,_,_,o,_,_,e,ex,_⟩:=I.hok p _ hk
       exact⟨o,e,ex⟩
    obtain⟨o,e,ex⟩:=z
    refine⟨⟨o,e,ex.1⟩,fun a e2=>?_⟩
    cases e2
    exact⟨o,e,ex.2.1⟩
  . obtain⟨o,_,_,_,e,ex,_⟩:=I.hok p _ hk
    refine⟨⟨o,e,ex.1⟩,fun a e2=>?_⟩
    cases e2
    exact⟨o,e,ex.2.1⟩
 | _=>exact False.elim ty
def tBM (K:PySem.W.Frag)(T:String)(r:V->List V->Hp->VK->Prop)(to:TE)(t:TA):TE:=fun σ H Q=>to σ H fun x H1=>tyV K T x H1/\t σ H1 fun xs H2=>r x xs H2 Q
variable {o e:Expr}{es:List Expr}{to:TE}{t:TA}{name:Str}{apos cpos:Pos}{T id:String}{r:V->List V->Hp->VK->Prop}
theorem pe_bm (pa:PlainAttrs T)(slot:Slot T name id)(hty:typeOf (.builtin id)=pure (.type "method_descriptor")) (hm:MtR X id r)(ho:PE X o to)(ha:PA X (e::es) t)
 (hbase:attributeBase o name X.env (eval o X.env)=eval o X.env:=by rfl)
 (hfew:((backTo cpos (starEach (e::es) X.env)).all (fun x=>!x.1) && (backToKw cpos (keywordEach [] X.env)).all (fun x=>x.1.isSome)
  && decide ((e::es).length+([]:List Keyword).length+(if ([]:List Keyword).isEmpty then 0 else 1)<30))=true:=by rfl)
 (hline:(apos.endLine==cpos.line)=true:=by rfl)(hs:starEach (e::es) X.env=(false,eval e X.env)::starEach es X.env:=by rfl)(hplain:(backTo cpos (starEach es X.env)).any (·.1)=false:=by rfl) :
 PE X (.Call (.Attribute o name apos) (e::es) [] cpos) (tBM X.K T r to t):=by
 intro pins s σ H Q I h
 refine wpAny_Call_method_late hbase hfew hline rfl (thn (ho pins s σ H _ I h) fun v s1 ⟨x,H1,I1,r1,ty,q1⟩=>?_)
 obtain⟨h1,h2⟩:=tyV_is I1 r1 ty
 refine⟨T,id,pa,slot,hty,h1,h2,?_⟩
 have hA:=ha cpos pins s1 σ H1 _ I1 q1
 rw[hs] at hA ⊢
 refine Calls.callWith_builtin (by show (false || (backTo cpos (starEach es X.env)).any (·.1))=false;rw[hplain] <;> rfl) (Calls.evalArgs_plain ?_)
 exact thn hA fun us s2 ⟨vs,H2,I2,r2,q2⟩=>hm pins s2 σ H2 x vs v us Q I2 r1 r2 q2
end
end L2
namespace L2
open PySem PySem.Spec PyProof.Rows
def MtM (X:Cx)(id:String)(r:V->List V->Hp->VK->Prop):Prop:=
 ∀(pins:List (Addr×Obj))(s:Shared)(σ:St)(H:Hp)(x:V)(xs:List V)(v:Value)(us:List Value)(Q:VK),Inv X pins σ H s->RelV x v->Vals xs us->r x xs H Q ->
  wpAny (model X.prog X.w) X.A (call (.builtin id) (v::us)) (EP X pins σ Q) X.xe s
theorem Vals.one:∀{x:V}{us:List Value},Vals [x] us->∃u,us=[u]/\RelV x u
 | _,_,.cons r .nil=>⟨_,rfl,r⟩
theorem Vals.eraseIdx:∀{xs:List V}{us:List Value}(i:Nat),Vals xs us->Vals (xs.eraseIdx i) (us.eraseIdx i)
 | _,_,_,.nil=>.nil
 | _,_,0,.cons _ t=>t
 | _,_,i+1,.cons r t=>.cons r (Vals.eraseIdx i t)
theorem Vals.rep {xs:List V}{us:List Value}(h:Vals xs us):∀k:Nat,Vals (List.replicate k xs).flatten (List.replicate k us).flatten
 | 0=>.nil
 | k+1=>by
  rw[List.replicate_succ,List.replicate_succ,List.flatten_cons,List.flatten_cons]
  exact Vals.append h (Vals.rep h k)
theorem len_erase {α:Type}:∀(l:List α)(i:Nat),(l.eraseIdx i).length<=l.length
 | [],_=>Nat.le_refl _
 | _::_,0=>Nat.le_succ _
 | _::r,i+1=>Nat.succ_le_succ (len_erase r i)
theorem foldl_rep (its:List Value):∀(k:Nat)(acc:List Value),
 List.foldl (fun x1 x2=>x1++x2) acc.toArray (List.replicate k its.toArray)=(acc++(List.replicate k its).flatten).toArray
 | 0,acc=>by simp
 | k+1,acc=>by
  have e:acc.toArray++its.toArray=(acc++its).toArray:=by simp
  have e2:(acc++its)++(List.replicate k its).flatten=acc++(List.replicate (k+1) its).flatten:=by
   rw[List.replicate_succ,List.flatten_cons,List.append_assoc]
  rw[<-e2,<-foldl_rep its k (acc++its),<-e,List.replicate_succ,List.foldl_cons]
section
variable {X:Cx}{pins:List (Addr×Obj)}{σ:St}{H:Hp}{s:Shared}{l b:Addr}{xs ys zs:List V}
theorem Inv.lset {its its':List Value}{n:Nat}{f:Array Value->Array Value}{t':Nat}(I:Inv X pins σ H s)(hH:H l=some (.lst xs))
 (e:s.heap.get? l=some { cls:=.type "list",data:=.seq its.toArray n }) (hf:f its.toArray=its'.toArray)(hv:Vals ys its')(hz:ys.length<=sizeLine) :
 Inv X pins σ (upd H l (.lst ys)) { s with heap:=s.heap.update l (Obj.mapSeq f),toks:=t' }:=by
 have q:=PySem.IsL.update e f
 rw[hf] at q
 refine I.write (x:=l) (e:=l) (by rw[hH];exact trivial) (.inl rfl) (fun b' u hb hu=>(Heap.get?_update_other s.heap (Obj.mapSeq f) (Ne.symm hb)).trans hu) ⟨_,q⟩ ?_
 exact⟨hz,its',_,hv,q⟩
theorem Inv.lnew {its:List Value}{t':Nat}(I:Inv X pins σ H s)(hv:Vals ys its)(hz:ys.length<=sizeLine) :
 Inv X pins σ (upd H s.heap.objs.size (.lst ys)) { s with heap:=s.heap.push { cls:=.type "list",data:=.seq its.toArray },toks:=t' }:=
 I.laid (fun _ _ q=>Heap.get?_push_of_some _ q) (Nat.le_refl _) ⟨hz,its,0,hv,Heap.get?_push_size _ rfl⟩
theorem Inv.fresh (I:Inv X pins σ H s):H s.heap.objs.size=none:=I.hok.fresh (Nat.le_refl _)
theorem Inv.lstM (I:Inv X pins σ H s)(hH:H l=some (.lst xs)):xs.length<=sizeLine/\∃(its:List Value)(n:Nat),Vals xs its/\xs.length=its.length/\s.heap.get? l=some { cls:=.type "list",data:=.seq its.toArray n }:=by
 obtain⟨z,its,n,r,e⟩:=I.hok l _ hH
 exact⟨z,its,n,r,r.length,e⟩
theorem notLongL {n:Nat}(h:n<=sizeLine):Builtin.List.listTooLong n=false:=by
 unfold Builtin.List.listTooLong
 exact decide_eq_false (by omega)
end
section
variable {X:Cx}
def rAppend:V->List V->Hp->VK->Prop:=fun x vs H Q=>∃l xs y,x = .ref l/\vs=[y]/\H l=some (.lst xs)/\xs.length<sizeLine/\Q .non (upd H l (.lst (xs++[y])))
theorem mt_append:MtM X "list.append" rAppend:=by
 intro pins s σ H x vs v us Q I rx rv h
 obtain⟨l,xs,y,rfl,rfl,hH,hz,q⟩:=h
 cases rx
 obtain⟨u,rfl,ru⟩:=rv.one
 obtain⟨z,its,n,r,hl,e⟩:=I.lstM hH
 refine call_meets F.slot_list_append ⟨_,e,rfl⟩ F.entry_list_append (F.args_list_append_2 _ _) (PySem.list_append l its.toArray n u (by rw[List.size_toArray];omega)) ⟨e,?_⟩
 refine⟨.non,_,I.lset (its':=its++[u]) hH e (by simp) (r.append (.cons ru .nil)) ?_,rfl,q⟩
 rw[List.length_append,List.length_singleton]
 omega
def rExtend:V->List V->Hp->VK->Prop:=fun x vs H Q=>∃l b xs zs,x = .ref l/\vs=[.ref b]/\H l=some (.lst xs)/\H b=some (.lst zs)/\xs.length+zs.length<=sizeLine/\Q .non (upd H l (.lst (xs++zs)))
theorem mt_extend:MtM X "list.extend" rExtend:=by
 intro pins s σ H x vs v us Q I rx rv h
 obtain⟨l,b,xs,zs,rfl,rfl,hH,hB,hz,q⟩:=h
 cases rx
 obtain⟨u,rfl,ru⟩:=rv.one
 cases ru
 obtain⟨z,its,n,r,hl,e⟩:=I.lstM hH
 obtain⟨z2,its2,n2,r2,hl2,e2⟩:=I.lstM hB
 have hsz:its.toArray.size+its2.toArray.size<=sizeLine:=by rw[List.size_toArray,List.size_toArray];omega
 have hlong:¬ (!its.toArray.isEmpty && Builtin.List.listTooLong (its.toArray.size+its2.toArray.size))=true:=by
  rw[notLongL hsz,Bool.and_false]
  exact Bool.false_ne_true
 refine call_meets F.slot_list_extend ⟨_,e,rfl⟩ F.entry_list_extend (F.args_list_extend_2 _ _)
  (AutoSeq1.list_extend_list_list_0 l its.toArray n b its2.toArray n2 hlong (by rw[List.size_toArray];omega) (by omega)) ⟨e,e2,?_⟩
 refine⟨.non,_,I.lset (its':=its++its2) hH e (by simp) (r.append r2) ?_,rfl,q⟩
 rw[List.length_append]
 omega
def rPopAt:V->List V->Hp->VK->Prop:=fun x vs H Q=>∃l xs i k y,x = .ref l/\vs=[.int i]/\H l=some (.lst xs) /\ -(2 ^ 63)<=i/\i<2 ^ 63/\seqIndex? i xs.length=some k/\xs[k]? = some y/\Q y (upd H l (.lst (xs.eraseIdx k)))
theorem mt_popAt:MtM X "list.pop" rPopAt:=by
 intro pins s σ H x vs v us Q I rx rv h
 obtain⟨l,xs,i,k,y,rfl,rfl,hH,h1,h2,hk,hy,q⟩:=h
 cases rx
 obtain⟨u,rfl,ru⟩:=rv.one
 obtain⟨t,rfl⟩:=ru
 obtain⟨z,its,n,r,hl,e⟩:=I.lstM hH
 obtain⟨w,hw,rw'⟩:=r.get hy
 refine call_meets F.slot_list_pop ⟨_,e,rfl⟩ F.entry_list_pop (F.args_list_pop_2 _ _)
  (MeetsSeq.list_pop_at l its.toArray n i t k w (fitsIndex_both h1 h2) (by rw[List.size_toArray,<-hl];exact hk) (by rw[<-Array.getElem?_toList];exact hw) (by rw[List.size_toArray];omega)) ⟨e,?_⟩
 refine⟨y,_,I.lset (its':=its.eraseIdx k) hH e ?_ (r.eraseIdx k) ?_,rw',q⟩
 . show its.toArray.eraseIdxIfInBounds k=(its.eraseIdx k).toArray
   rw[List.eraseIdxIfInBounds_toArray]
 . have:=len_erase xs k
   omega
def rCat:R2:=fun x y H Q=>∃l b xs zs,x = .ref l/\y = .ref b/\H l=some (.lst xs)/\H b=some (.lst zs)/\xs.length+zs.length<=sizeLine/\∀p,H p=none->Q (.ref p) (upd H p (.lst (xs++zs)))
theorem op_cat:OpR X (binaryOp .Add) rCat:=by
 intro pins s σ H x y v u Q I rx ry h
 obtain⟨l,b,xs,zs,rfl,rfl,hH,hB,hz,q⟩:=h
 cases rx
 cases ry
 obtain⟨z,its,n,r,hl,e⟩:=I.lstM hH
 obtain⟨z2,its2,n2,r2,hl2,e2⟩:=I.lstM hB
 refine PySem.P.add_list e e2 ?_ (by rw[List.size_toArray,List.size_toArray];omega)
 have ea:its.toArray++its2.toArray=(its++its2).toArray:=by simp
 rw[ea]
 exact⟨.ref _,_,I.lnew (t':=s.toks) (r.append r2) (by rw[List.length_append];omega),rfl,q _ I.fresh⟩
def rRep:R2:=fun x y H Q=>∃l k xs,x = .ref l/\y = .int k/\H l=some (.lst xs) /\ -(2 ^ 63)<=k/\k<2 ^ 63/\xs.length*k.toNat<=sizeLine /\
 ∀p,H p=none->Q (.ref p) (upd H p (.lst (List.replicate k.toNat xs).flatten))
theorem len_rep {α:Type}(xs:List α)(k:Nat):(List.replicate k xs).flatten.length=k*xs.length:=by
 induction k with
 | zero=>simp
 | succ k ih=>rw[List.replicate_succ,List.flatten_cons,List.length_append,ih,Nat.succ_mul,Nat.add_comm]
theorem op_rep:OpR X (binaryOp .Mult) rRep:=by
 intro pins s σ H x y v u Q I rx ry h
 obtain⟨l,k,xs,rfl,rfl,hH,h1,h2,hz,q⟩:=h
 cases rx
 obtain⟨t,rfl⟩:=ry
 obtain⟨z,its,n,r,hl,e⟩:=I.lstM hH
 have hlen:its.toArray.size*k.toNat<=sizeLine:=by rw[List.size_toArray,<-hl];exact hz
 have hcap:¬ its.toArray.size*k.toNat > (2 ^ 63-1)/8:=by
  have:(sizeLine:Nat)<=(2 ^ 63-1)/8:=by decide
  omega
 have hfit:¬ (!Builtin.List.listFitsIndex k)=true:=by
  rw[fitsIndex_both h1 h2]
  exact Bool.false_ne_true
 have hlong:¬ Builtin.List.listTooLong (its.toArray.size*k.toNat)=true:=by
  rw[notLongL hlen]
  exact Bool.false_ne_true
 have hnew:List.foldl (fun x1 x2=>x1++x2) #[] (List.replicate (if its.toArray.isEmpty=true then 0 else k.toNat) its.toArray)=(List.replicate k.toNat its).flatten.toArray:=by
  have f0:∀m:Nat,List.foldl (fun x1 x2=>x1++x2) #[] (List.replicate m its.toArray)=(List.replicate m its).flatten.toArray:=fun m=>by
   have:=foldl_rep its m []
   rw[List.nil_append] at this
   exact this
  rw[f0]
  cases its with
  | nil=>simp
  | cons a r'=>rw[if_neg (by simp)]
 refine wpAny_binaryOp_repeat_ref (T := "list") (U := "int") (by decide) ⟨_,e,rfl⟩ (fun s'=>typeIs_int s' k t) noFill_list_mul F.fills_int_mul F.slot_int_rmul repeat_list F.slot_int_index.lookup
  (call_meets F.slot_int_rmul (typeIs_int s k t) F.entry_int_rmul (F.args_int_rmul_2 _ _) (int___rmul___int_list k t l its.toArray n)
   ⟨e,rfl,⟨_,e,rfl⟩,call_meets F.slot_list_mul ⟨_,e,rfl⟩ F.entry_list_mul (F.args_list_mul_2 _ _) (AutoListH.list___mul___list_int_3 l its.toArray n k t hfit hcap hlong) ⟨e,?_⟩⟩)
 rw[hnew]
 exact⟨.ref _,_,I.lnew (t':=s.toks) (r.rep k.toNat) (by rw[len_rep,Nat.mul_comm];exact hz),rfl,q _ I.fresh⟩
end
section
variable {prog:Program}{w:World}{A:Around}{E:Value->Shared->Prop}{s:Shared}
set_option maxRecDepth 100000 in
end
section
variable {X:Cx}
end
end L2
namespace Att
open PySem PySem.W PySem.Calls PyProof.Rows
theorem ints_of_wellAll {P:Params}{h:Heap}:∀(ns:List Int)(vs:List Value),WellAll P h vs (ns.map WData.int)->IntsAre vs ns:=by
 intro ns
 induction ns with
 | nil=>
  intro vs w
  rw[List.map_nil] at w
  cases w
  exact .nil
 | cons n ns ih=>
  intro vs w
  rw[List.map_cons] at w
  cases w with
  | cons a b=>
   cases a
   exact .cons _ _ (ih _ b)
theorem script_of {l:OpenLaw}{n:Nat}(hn:l.most=some n){P:Params}{h:Heap}{args:List WData}{vals:List Value}
 (hpre:l.row.toRowW.claim.pre args=true)(hwl:WellAll P h vals args) :
 ∃a vs ns,vals=[Value.ref a]/\args=[WData.list (ns.map WData.int)]/\h.get? a=some { cls:=.type "list",data:=.seq vs.toArray }/\IntsAre vs ns/\ns.length<=n:=by
 have hsh:WShape.hasAll [] args [.list .int]=true:=(pre_splitW hpre).1
 have hc:l.pre.holds [] { args:=args }=true:=(pre_splitW hpre).2
 obtain⟨d,r,rfl,h1,h2⟩:=hasAllW_cons hsh
 obtain rfl:=hasAllW_nil h2
 obtain⟨xs,rfl,h3⟩:=hasW_list h1
 obtain⟨ns,rfl⟩:=items_int h3
 have hlen:ns.length<=n:=by
  unfold OpenLaw.pre at hc
  have h4:(WTm.not (.lt (.lit (.int (n:Int))) (.len (.arg 0)))).holds [] { args:=[.list (ns.map .int)] }=true:=by
   have h4:=(holds_andW hc).1
   rw[hn] at h4
   exact h4
  have h5:=condW_of h4 (w_not (w_lt w_lit (w_len_list (w_arg rfl))))
  rw[List.length_map] at h5
  refine Nat.le_of_not_lt fun q=>?_
  have q':(n:Int)<((ns.length:Nat):Int):=by omega
  first
   | (rw[decide_eq_true q'] at h5;exact absurd h5 (by decide))
   | (simp at h5;omega)
 cases hwl with
 | cons w1 w2=>
  cases w2
  cases w1 with
  | list ho hall=>exact⟨_,_,ns,rfl,rfl,ho,ints_of_wellAll ns _ hall,hlen⟩
theorem post_true (l:OpenLaw)(args:List WData):l.row.toRowW.claim.post args (.bool true) args=true:=
 postW_of (r:=l.row.toRowW) (X:=(true==true))
  (show WShape.has [] (.bool true) .bool=true by first | rfl | decide | simp[WShape.has,WShape.arms,WShape.armsAll])
  (show (WTm.eq .res (.lit (.bool true))).value [] { args:=args,res:=some (.bool true),after:=args }=some (.bool (true==true)) from w_eq_bool (w_res rfl) w_lit) rfl
theorem attach_call {l:OpenLaw}{n:Nat}{q:Program}{loose:List Str}{XP:(Str->Option Value)->Heap->Prop}{YP:World->Heap->Prop}{d:DefRec}
 (hn:l.most=some n)(hdf:d.params.defaults=[])
 (call:∀(w:World)(s₀ s₁:Shared)(mg mb:Str->Option Value)(fa:Addr)(o:Obj)(pm cd doc:Value)(a:Addr)(vs:List Value)(ns:List Int),
  Ground q loose [] XP w s₀ mg mb s₁.heap->YP w s₁.heap ->
  s₁.heap.get? fa=some o->o.data = .func (docDef d.name d.params d.body d.scope pm cd doc)->s₁.heap.CodeRec cd d.name->mg d.name=some (.ref fa) ->
  s₁.heap.get? a=some { cls:=.type "list",data:=.seq vs.toArray }->IntsAre vs ns->ns.length<=n->s₁.gens = #[] ->
  codeAny (model l.prog w) callerA (.call (.ref fa) ⟨[.ref a],[]⟩) (fun r s'=>r = .ok (.ret (.bool true))/\OldK s₁.heap s'.heap/\s'.os=s₁.os/\AllBare s'.gens) s₁) :
 WalkO q loose XP YP l.row.toRowW d [] (fun f vs=>PySem.call f vs):=by
 intro w s₀ s₁ mg mb G Y fa o pm cd doc dV kV ho hd hcd hD hmg hg args vals as hpre hlay hrd hwl hlo
 obtain rfl:dV = .none:=Dflts.none hD hdf
 obtain rfl:kV = .none:=Dflts.noKw hD
 obtain⟨a,vs,ns,rfl,rfl,hobj,hints,hlen⟩:=script_of hn hpre hwl
 refine enter_call (codeAny_mono (call w s₀ s₁ mg mb fa o pm cd doc a vs ns G Y ho (fd_plain hd) hcd hmg hobj hints hlen hg) fun r s' hq=>?_)
 obtain⟨rfl,h2,h3,h4⟩:=hq
 exact⟨.inl ⟨.bool true,.bool true,[],rfl,fun _=>rfl,.bool true,post_true l _,fun _=>⟨List.Pairwise.nil,fun _ hm=>(nomatch hm)⟩⟩,h2,h3,h4⟩
section
variable {prog:Program}{w:World}{A:Around}{E:Value->Shared->Prop}{s:Shared}{K:Frag}
end
end Att
namespace L2
open PySem PySem.Spec PyProof.Rows
theorem vals_ints:∀{vs:List Value}{ns:List Int},IntsAre vs ns->Vals (ns.map V.int) vs
 | _,_,.nil=>.nil
 | _,_,.cons n t h=>.cons ⟨t,rfl⟩ (vals_ints h)
end L2
namespace L2
open PySem PySem.Spec PyProof.Rows
end L2
namespace L2
open PySem PySem.Spec PyProof.Rows
def defArgs (s:Stmt):Arguments:=match s with
 | .FunctionDef _ a _ _ _ _ _ _ _ _=>a
 | _=>{ posonlyargs:=[],args:=[],vararg:=none,kwonlyargs:=[],kw_defaults:=[],kwarg:=none,defaults:=[] }
def defBody (s:Stmt):List Stmt:=match s with
 | .FunctionDef _ _ b _ _ _ _ _ _ _=>b
 | _=>[]
def defScope (s:Stmt):Scope:=match s with
 | .FunctionDef _ _ _ _ _ _ sc _ _ _=>sc
 | _=>{ kind:=.function,names:=[],isGenerator:=false,isCoroutine:=false }
abbrev CX0:CXT:=fun _ _ _ _ _ _=>False
abbrev E0:XK:=fun _ _ _=>False
theorem pass0 {X:Cx}:Passes CX0 X E0:=fun _ _ _ _ _ _ _ h=>h.elim
structure Fun (K:PySem.W.Frag)(x qual:Str)(st:Stmt)(f:Addr)(fd:FuncData):Prop where
 ex:∃(oc:Value)(od:Option Addr)(kV doc pm:Value)(an:Option Addr)(cdv ct:Value)(osl:Array (Option Value)),
  fd=PySem.W.fnOf x qual (defArgs st) (defBody st) (defScope st) .none kV doc pm an cdv ct/\K.lookup f=some ⟨oc,od,.func fd,osl⟩/\PySem.W.codeIn K cdv qual=true
 kp:PySem.W.keepIn K (.ref f)=true
section
variable {P:Program}{w:World}{K:PySem.W.Frag}{mg:Str->Option Value}{base:Heap}
theorem Fun.ok {x qual:Str}{st:Stmt}{f:Addr}{fd:FuncData}{N ps:List Str}{k:Nat}{sp:Sp}(F:Fun K x qual st f fd)(S:FnScope N ps (defScope st))(len:∀vs H Q E,sp vs H Q E->vs.length=ps.length)
 (hbody:∀(cdv:Value)(A:Around)(outer:List Env)(s:Shared)(H:Hp)(vs:List V)(Q:VK)(E:XK),Room k (A.deeper (envOfC qual (defScope st) s.heap.objs.size f cdv))->sp vs H Q E ->
  ∃t,PSs (cxOf CX0 P w K mg base N qual (defScope st) f cdv A outer s H E).nox (defBody st) t/\t { nx:=fun _ H'=>Q .non H',rt:=Q } (start N vs) H):FnOk P w K mg base CX0 (k+1) f fd ps sp:=by
 obtain⟨oc,od,kV,doc,pm,an,cdv,ct,osl,rfl,lk,hcd⟩:=F.ex
 refine fn_of lk hcd S len fun A outer s H vs Q E hr hsp=>?_
 obtain⟨t,h,q⟩:=hbody cdv A outer s H vs Q E hr hsp
 exact⟨t,h.nox,q⟩
theorem Fun.binds {x qual:Str}{st:Stmt}{f:Addr}{fd:FuncData}{ps:List Str}(F:Fun K x qual st f fd)
 (h:∀(kV doc pm:Value)(an:Option Addr)(cdv ct:Value)(us:List Value),us.length=ps.length->bindArgs (PySem.W.fnOf x qual (defArgs st) (defBody st) (defScope st) .none kV doc pm an cdv ct) ⟨us,[]⟩=pure (ps.zip us)):Binds K fd ps []:=by
 obtain⟨oc,od,kV,doc,pm,an,cdv,ct,osl,rfl,lk,hcd⟩:=F.ex
 exact .all (h kV doc pm an cdv ct)
theorem fun_mk {x qual:Str}{st:Stmt}{f:Addr}{oc:Value}{od an:Option Addr}{osl:Array (Option Value)}{kV doc pm cdv ct:Value}(l:K.lookup f=some ⟨oc,od,.func (PySem.W.fnOf x qual (defArgs st) (defBody st) (defScope st) .none kV doc pm an cdv ct),osl⟩)
 (c:PySem.W.codeIn K cdv qual=true)(k:PySem.W.keepIn K (.ref f)=true):Fun K x qual st f (PySem.W.fnOf x qual (defArgs st) (defBody st) (defScope st) .none kV doc pm an cdv ct):=⟨⟨oc,od,kV,doc,pm,an,cdv,ct,osl,rfl,l,c⟩,k⟩
end
theorem hu_of {A:Around}{k:Nat}(hr:Room k A):A.units+1<cLine:=Nat.lt_of_le_of_lt (Nat.add_le_add_left (by decide:1<=64) _) hr.units
section
variable {X:Cx}
theorem pv (i:Nat){x:Str}{pos:Pos}(hN:X.N[i]? = some x:=by rfl)(hv:Vis X.env.scope x:=by first | exact Or.inl rfl | exact Or.inr (Or.inl rfl) | exact Or.inr (Or.inr rfl))(hd:(x==("__debug__" : Str))=false:=by decide)
 (hcd:(x==("__classdict__" : Str))=false:=by decide):PE X (.Name x pos) (tVar i):=pe_var hN hv hd hcd
end
theorem iteF {A B:Prop}(h:B):if false=true then A else B:=by
 rw[if_neg Bool.false_ne_true]
 exact h
theorem iteT {A B:Prop}(h:A):if true=true then A else B:=by
 rw[if_pos rfl]
 exact h
theorem ite2 {c A B:Prop} [Decidable c] (h1:c->A)(h2:¬ c->B):if c then A else B:=by
 by_cases h:c
 . rw[if_pos h]
   exact h1 h
 . rw[if_neg h]
   exact h2 h
def Same (H H':Hp):Prop:=∀b o,H b=some o->H' b=some o
theorem Same.refl (H:Hp):Same H H:=fun _ _ h=>h
theorem Same.trans {H H1 H2:Hp}(a:Same H H1)(b:Same H1 H2):Same H H2:=fun c o h=>b c o (a c o h)
end L2
namespace L2
open PySem PySem.Spec PyProof.Rows
section
variable {κ:Type} [DecidableEq κ]
theorem valV_not {kvs:List (κ×V)}{k:κ}(h:valV kvs k=none):¬ k∈kvs.map (·.1):=by
 intro m
 obtain⟨p,hp,e⟩:=List.mem_map.mp m
 have q:(kvs.any fun kv=>decide (kv.1=k))=true:=List.any_eq_true.mpr ⟨p,hp,decide_eq_true e⟩
 rw[valV_any,h] at q
 exact absurd q (by simp)
theorem valV_in {kvs:List (κ×V)}{k:κ}{v:V}(h:valV kvs k=some v):k∈kvs.map (·.1):=by
 have q:(kvs.any fun kv=>decide (kv.1=k))=true:=by
  rw[valV_any,h]
  all_goals rfl
 obtain⟨p,hp,e⟩:=List.any_eq_true.mp q
 exact List.mem_map.mpr ⟨p,hp,of_decide_eq_true e⟩
theorem nd_snoc:∀{l:List κ}{k:κ},l.Nodup->¬ k∈l->(l++[k]).Nodup
 | [],k,_,_=>by simp
 | a::r,k,h,hk=>by
  obtain⟨h1,h2⟩:=List.nodup_cons.mp h
  show (a::(r++[k])).Nodup
  refine List.nodup_cons.mpr ⟨fun m=>?_,nd_snoc h2 fun m=>hk (List.mem_cons.mpr (Or.inr m))⟩
  rcases List.mem_append.mp m with q | q
  . exact h1 q
  . exact hk (List.mem_cons.mpr (Or.inl (List.mem_singleton.mp q).symm))
theorem nd_putK {kvs:List (κ×V)}{k:κ}(v:V)(hn:(kvs.map (·.1)).Nodup)(h:valV kvs k=none):((putK kvs k v).map (·.1)).Nodup:=by
 rw[putK_new v h,List.map_append]
 exact nd_snoc hn (valV_not h)
theorem dropK_pos {p:κ×V}{r:List (κ×V)}{k:κ}(e:p.1=k):dropK (p::r) k=dropK r k:=by
 unfold dropK
 rw[List.filter_cons,if_neg (by simp[e])]
theorem dropK_neg {p:κ×V}{r:List (κ×V)}{k:κ}(e:¬ p.1=k):dropK (p::r) k=p::dropK r k:=by
 unfold dropK
 rw[List.filter_cons,if_pos (by simp[e])]
theorem dropK_mem {kvs:List (κ×V)}{k:κ}{p:κ×V}(h:p∈dropK kvs k):p∈kvs:=(List.mem_filter.mp h).1
theorem nd_dropK:∀{kvs:List (κ×V)}{k:κ},(kvs.map (·.1)).Nodup->((dropK kvs k).map (·.1)).Nodup
 | [],_,_=>List.nodup_nil
 | p::r,k,h=>by
  have h:(p.1::r.map (·.1)).Nodup:=h
  obtain⟨h1,h2⟩:=List.nodup_cons.mp h
  by_cases e:p.1=k
  . rw[dropK_pos e]
    exact nd_dropK h2
  . rw[dropK_neg e]
    show (p.1::(dropK r k).map (·.1)).Nodup
    refine List.nodup_cons.mpr ⟨fun m=>h1 ?_,nd_dropK h2⟩
    obtain⟨q,hq,eq⟩:=List.mem_map.mp m
    exact List.mem_map.mpr ⟨q,dropK_mem hq,eq⟩
end
end L2
namespace L2
open PySem PySem.Spec PyProof.Rows
section
variable {X:Cx}
end
end L2
set_option Elab.async false
set_option linter.all false
set_option maxRecDepth 100000
set_option maxHeartbeats 4000000
namespace L2
open PySem PySem.Spec PyProof.Rows
theorem compLoop_gen {prog:Program}{w:World}{A:Around}{R:Result->Shared->Prop}{s:Shared}{elt target iter:Expr}{ifs:List Expr}{scope:Scope}{pos:Pos}{it acc:Value}{env:Env}(I:Nat->Shared->Prop)
 (turn:∀n s,I n s->wpAny (model prog w) A (pyNext it) (fun r s₁=>match r with
  | none=>R (.ok .next) s₁
  | some v=>wpAny (model prog w) A (letOwnedTupleGo target it v) (fun _ s₁'=>wpAny (model prog w) A (assign target env v) (fun _ s₂=>
   wpAny (model prog w) A (forIn ifs true fun c r=>if r=true then do let ok <-isTrue c env (eval c env);pure (ForInStep.yield ok) else pure (ForInStep.yield r)) (fun ok s₃=>
    if ok=true then wpAny (model prog w) A (eval elt env) (fun x s₄=>
     wpAny (model prog w) A (call (.builtin "list.append") [acc,x]) (fun _ s₅=>∃m,m<n/\I m s₅) (fun _ _=>False) s₄) (fun _ _=>False) s₃
    else ∃m,m<n/\I m s₃) (fun _ _=>False) s₂) (fun _ _=>False) s₁') (fun _ _=>False) s₁) (fun _ _=>False) s)
 (n:Nat)(h:I n s):codeAny (model prog w) A (.compLoop (.ListComp elt [⟨target,iter,ifs,0⟩] scope pos) 0 it acc env) R s:=by
 refine codeAny_loop rfl I (fun n s hI=>?_) n h
 show wpAny _ A ((compTurn (.ListComp elt [⟨target,iter,ifs,0⟩] scope pos) 0 it acc env).onRaise (fun x=>do noteFrame x env;theTreesLotGoes x)) _ _ s
 refine wpAny_noted ?_
 rw[compTurn_list]
 refine wpAny_bind (wpAny_standAt (wpAny_bind (wpAny_mono (turn n s hI) (fun r s₁ h₁=>?_) fun _ _ h'=>h'.elim)))
 cases r with
 | none=>exact wpAny_pure h₁
 | some v=>
  refine wpAny_bind (wpAny_mono h₁ (fun _ s₁' h₁'=>?_) fun _ _ h'=>h'.elim)
  refine wpAny_bind (wpAny_mono h₁' (fun _ s₂ h₂=>wpAny_bind (wpAny_mono h₂ (fun ok s₃ h₃=>?_) fun _ _ h'=>h'.elim)) fun _ _ h'=>h'.elim)
  cases ok with
  | false=>exact wpAny_pure ⟨rfl,h₃⟩
  | true=>
   exact wpAny_bind (wpAny_bind (wpAny_mono h₃ (fun x s₄ h₄=>wpAny_bind (wpAny_mono h₄ (fun _ s₅ h₅=>wpAny_pure (wpAny_pure ⟨rfl,h₅⟩)) fun _ _ h'=>h'.elim)) fun _ _ h'=>h'.elim))
def PTs (X:Cx)(ifs:List Expr)(t:TT):Prop:=
 ∀(pins:List (Addr×Obj))(s:Shared)(σ:St)(H:Hp)(Q:Bool->Hp->Prop),Inv X pins σ H s->t σ H Q ->
  wpAny (model X.prog X.w) X.A (forIn ifs true fun c r=>if r=true then do let ok <-isTrue c X.env (eval c X.env);pure (ForInStep.yield ok) else pure (ForInStep.yield r)) (TP X pins σ Q) X.xe s
def tYes:TT:=fun _ H Q=>Q true H
theorem tyes {σ:St}{H:Hp}{A B:Hp->Prop}(h:A H):tYes σ H (fun b H3=>if b=true then A H3 else B H3):=by
 show (if true=true then A H else B H)
 exact iteT h
theorem pts_nil {X:Cx}:PTs X [] tYes:=fun _ _ _ H _ I h=>wpAny_tests_nil ⟨H,I,h⟩
theorem pts_one {X:Cx}{c:Expr}{t:TT}(h:PT X c t):PTs X [c] t:=fun pins s σ H Q I q=>wpAny_tests_one (h pins s σ H Q I q)
def clOf (cells:List (Str×Addr)):List (Str×NameKind)->List (Str×Addr)->List (Str×Addr)
 | [],acc=>acc
 | (n,k)::r,acc=>if (k == .free)=true then (match cells.lookup n with | some c=>clOf cells r ((n,c)::acc) | none=>clOf cells r acc) else clOf cells r acc
theorem clOf_sub {cells:List (Str×Addr)}{x:Str}{c:Addr}:∀(names:List (Str×NameKind))(acc:List (Str×Addr)),(clOf cells names acc).lookup x=some c->acc.lookup x=some c\/cells.lookup x=some c
 | [],acc,h=>.inl h
 | (n,k)::r,acc,h=>by
  unfold clOf at h
  split at h
  . cases hc:cells.lookup n with
    | none=>rw[hc] at h;exact clOf_sub r acc h
    | some c'=>
     rw[hc] at h
     rcases clOf_sub r _ h with q | q
     . rw[List.lookup_cons] at q
       cases hx:x==n with
       | true=>
        rw[hx] at q
        have e:x=n:=by simpa using hx
        have e2:c'=c:=by simpa using q
        rw[e,hc,e2]
        exact .inr rfl
       | false=>rw[hx] at q;exact .inl q
     . exact .inr q
  . exact clOf_sub r acc h
theorem clOf_acc {cells:List (Str×Addr)}{x:Str}:∀(names:List (Str×NameKind))(acc:List (Str×Addr)),(∃c,acc.lookup x=some c)->∃c,(clOf cells names acc).lookup x=some c
 | [],acc,h=>h
 | (n,k)::r,acc,h=>by
  unfold clOf
  split
  . cases hc:cells.lookup n with
    | none=>exact clOf_acc r acc h
    | some c'=>
     refine clOf_acc r _ ?_
     rw[List.lookup_cons]
     cases hx:x==n with
     | true=>exact⟨c',rfl⟩
     | false=>exact h
  . exact clOf_acc r acc h
theorem clOf_has {cells:List (Str×Addr)}{x:Str}(hx:∃c,cells.lookup x=some c):∀(names:List (Str×NameKind))(acc:List (Str×Addr)),(x,NameKind.free)∈names->∃c,(clOf cells names acc).lookup x=some c
 | [],acc,h=>by simp at h
 | (n,k)::r,acc,h=>by
  rcases List.mem_cons.mp h with e | h
  . cases e
    obtain⟨c,hc⟩:=hx
    unfold clOf
    rw[if_pos (by rfl),hc]
    exact clOf_acc r _ ⟨c,by rw[List.lookup_cons];simp⟩
  . unfold clOf
    split
    . cases hc:cells.lookup n with
      | none=>exact clOf_has hx r acc h
      | some c'=>exact clOf_has hx r _ h
    . exact clOf_has hx r acc h
theorem closure_go {env:Env}:∀(names:List (Str×NameKind))(acc:List (Str×Addr)),(∀y∈names,y.2 = .free->∃c,env.cells.lookup y.1=some c) ->
 (forIn names acc fun (x:Str×NameKind)(cs:List (Str×Addr))=>(if (x.2 == .free)=true then (do let a <-cellOf env x.1;pure (ForInStep.yield ((x.1,a)::cs))) else pure (ForInStep.yield cs):Sem (ForInStep (List (Str×Addr)))))=pure (clOf env.cells names acc)
 | [],acc,_=>rfl
 | (n,k)::r,acc,h=>by
  rw[List.forIn_cons]
  have hr:∀y∈r,y.2 = .free->∃c,env.cells.lookup y.1=some c:=fun y hy=>h y (List.mem_cons_of_mem _ hy)
  unfold clOf
  cases hk:(k==NameKind.free) with
  | true=>
   obtain⟨c,hc⟩:=h (n,k) List.mem_cons_self (by simpa using hk)
   simp only[hk,if_true,cellOf,hc,pure_bind]
   exact closure_go r _ hr
  | false=>
   simp only[hk,Bool.false_eq_true,if_false,pure_bind]
   exact closure_go r _ hr
theorem closureFor_eq {scope:Scope}{env:Env}(h:∀y∈scope.names,y.2 = .free->∃c,env.cells.lookup y.1=some c):closureFor scope env=pure (clOf env.cells scope.names []):=by
 have e:=closure_go scope.names [] h
 simp only[closureFor]
 simp only[bind_pure]
 exact e
theorem lookup_relabel {env:Env}{x:Str}:∀(names:List (Str×NameKind)),
 (names.map fun (n,k)=>if (k==NameKind.free && env.scope.kind == .function && env.kindOf n==some .cell) then (n,NameKind.cell) else (n,k)).lookup x =
  (names.lookup x).map fun k=>if (k==NameKind.free && env.scope.kind == .function && env.kindOf x==some .cell)=true then NameKind.cell else k
 | []=>rfl
 | (n,k)::r=>by
  have ih:=lookup_relabel (env:=env) (x:=x) r
  rw[List.map_cons]
  show List.lookup x ((if (k==NameKind.free && env.scope.kind == .function && env.kindOf n==some .cell)=true then (n,NameKind.cell) else (n,k))::_)=_
  by_cases c:(k==NameKind.free && env.scope.kind == .function && env.kindOf n==some .cell)=true
  . rw[if_pos c,List.lookup_cons,List.lookup_cons]
    cases hx:x==n with
    | true=>
     have e:x=n:=by simpa using hx
     subst e
     show some NameKind.cell=Option.map _ (some k)
     rw[Option.map_some,if_pos c]
    | false=>exact ih
  . rw[if_neg c,List.lookup_cons,List.lookup_cons]
    cases hx:x==n with
    | true=>
     have e:x=n:=by simpa using hx
     subst e
     show some k=Option.map _ (some k)
     rw[Option.map_some,if_neg c]
    | false=>exact ih
def cxComp (X:Cx)(pl:List (Addr×Obj))(N':List Str)(scope:Scope)(fp:List Addr)(s3:Shared)(H3:Hp):Cx where
 prog:=X.prog
 w:=X.w
 K:=X.K
 mg:=X.mg
 base:=X.base
 A:=X.A
 N:=N'
 s₀:=s3
 H₀:=H3
 env:=compEnvC scope (clOf X.env.cells scope.names []) s3.heap.objs.size X.env
 outer:=X.stack
 stack:=X.stack
 ex:=fp
 fn:=fun _=>false
 calm:=X.calm
 pn:=pl
 xe:=fun _ _=>False
def CapOk (X:Cx)(scope:Scope):List Str->List Nat->Prop
 | [],[]=>True
 | x::cn,j::ci=>X.N[j]? = some x/\X.env.kindOf x=some .cell/\scope.names.lookup x=some .free/\CapOk X scope cn ci
 | _,_=>False
theorem CapOk.get {X:Cx}{scope:Scope}:∀{cn:List Str}{ci:List Nat}{k:Nat}{x:Str},CapOk X scope cn ci->cn[k]? = some x->∃j,ci[k]? = some j/\X.N[j]? = some x/\X.env.kindOf x=some .cell/\scope.names.lookup x=some .free
 | [],_,_,_,_,h=>by simp at h
 | _::_,[],_,_,c,_=>c.elim
 | y::cn,j::ci,0,x,c,h=>by
  obtain⟨a,b,b',_⟩:=c
  have e:y=x:=by simpa using h
  subst e
  exact⟨j,rfl,a,b,b'⟩
 | y::cn,j::ci,k+1,x,c,h=>by
  obtain⟨j',h1,h2⟩:=CapOk.get (k:=k) c.2.2.2 (by simpa using h)
  exact⟨j',by simpa using h1,h2⟩
structure CompSc (X:Cx)(scope:Scope):Prop where
 kind:scope.kind = .function
 nocell:∀y∈scope.names,y.2 ≠ .cell
 names:∀y∈scope.names,y.2 = .local->scope.names.lookup y.1=some .local
 free:∀y∈scope.names,y.2 = .free->X.env.kindOf y.1=some .cell
section
variable {X:Cx}{pins:List (Addr×Obj)}{σ:St}{H3:Hp}{s3:Shared}{scope:Scope}{fp:List Addr}{N' own cn:List Str}{ci:List Nat}{cv:List V}
theorem comp_has (ok:X.Ok)(S:CompSc X scope){x:Str}(h:(relabel scope X.env).names.lookup x=some .cell\/(relabel scope X.env).names.lookup x=some .free) :
 ∃c,(clOf X.env.cells scope.names []).lookup x=some c:=by
 have e:(relabel scope X.env).names.lookup x=(scope.names.lookup x).map fun k=>if (k==NameKind.free && X.env.scope.kind == .function && X.env.kindOf x==some .cell)=true then NameKind.cell else k:=lookup_relabel scope.names
 have hf:scope.names.lookup x=some .free:=by
  cases q:scope.names.lookup x with
  | none=>rw[e,q] at h;simp at h
  | some k=>
   by_cases hk:k = .free
   . rw[hk]
   . have hb:(k==NameKind.free)=false:=by simpa using hk
     rw[e,q] at h
     simp only[Option.map_some,hb,Bool.false_and,Bool.false_eq_true,if_false,Option.some.injEq] at h
     rcases h with h | h
     . exact absurd h (S.nocell _ (PySem.mem_of_lookup q))
     . exact absurd h hk
 exact clOf_has (ok.has x (.inl (S.free _ (PySem.mem_of_lookup hf) rfl))) scope.names [] (PySem.mem_of_lookup hf)
theorem comp_cl {x:Str}{c:Addr}(h:(clOf X.env.cells scope.names []).lookup x=some c):X.env.cells.lookup x=some c:=by
 rcases clOf_sub _ _ h with q | q
 . simp at q
 . exact q
theorem comp_ok (I:Inv X pins σ H3 s3)(S:CompSc X scope)(f:∀b∈fp,FpOk X pins H3 b)(fz:∀b∈fp,b<s3.heap.objs.size):(cxComp X (X.pn++pins) N' scope fp s3 H3).Ok where
 mod:=I.ok.mod
 kind:=S.kind
 glob:=I.ok.glob
 blt:=I.ok.blt
 above:=Nat.le_refl _
 inj:=fun x y c h1 h2=>I.ok.inj x y c (comp_cl h1) (comp_cl h2)
 has:=fun x h=>comp_has I.ok S h
 cab:=fun x c h=>by cases h
 hd:=I.ok.hd
 frames:=I.ok.frames
 stk:=.inl rfl
 exf:=fun b hb=>⟨Nat.ne_of_lt (fz b hb),fun x c h=>(f b hb).2.2.2.2.1 x c (comp_cl h)⟩
 bs:=I.bs
 bsz:=Nat.le_trans I.ok.bsz I.sz
 noex:=fun b o e hb=>by
  rcases (f b hb).2.2.2.1 with z | z
  . exact I.ok.noex b o e z
  . exact absurd (Nat.lt_of_lt_of_le (Heap.lt_size e) (Nat.le_trans I.ok.bsz z)) (Nat.lt_irrefl _)
 exfs:=fun b hb z=>by
  rcases List.mem_cons.mp (I.stkSub b z) with q | q
  . exact (f b hb).2.1 q
  . exact (f b hb).2.2.1 q
 funs:=I.stack
 frf:=I.stkFree
theorem comp_inv {h1:Heap}{t:Nat}(I:Inv X pins σ H3 s3)(S:CompSc X scope)(f:∀b∈fp,FpOk X pins H3 b)(fz:∀b∈fp,b<s3.heap.objs.size)
 (hN:N'=own++cn)(hc:CapOk X scope cn ci)(hv:ci.map (fun j=>σ[j]?)=cv.map fun v=>some (some v))(hl:cn.length=ci.length)
 (hns:h1.Ns s3.heap.objs.size (fun _=>none))(hk:∀b o,s3.heap.get? b=some o->h1.get? b=some o) :
 Inv (cxComp X (X.pn++pins) N' scope fp s3 H3) [] (List.replicate own.length none++cv.map some) H3 { s3 with heap:=h1,toks:=t }:=by
 have lenv:cv.length=ci.length:=by
  have:=congrArg List.length hv
  simpa using this.symm
 refine⟨comp_ok I S f fz,rfl,I.bare,Un.kept hk,⟨_,hns,fun i x v e1 e2 e3=>?_⟩,fun x c e=>?_,I.hok.fresh (Nat.le_refl _),fun x c e=>I.freeC x c (comp_cl e),fun p hp=>?_,I.hok.kept hk,?_⟩
 . -- a captured name
   have hi:own.length<=i:=by
    by_cases hi:own.length<=i
    . exact hi
    . rw[List.getElem?_append_left (by simpa using hi),List.getElem?_replicate] at e2
      split at e2 <;> cases e2
   rw[List.getElem?_append_right (by simpa using hi),List.length_replicate,List.getElem?_map] at e2
   have e1':(own++cn)[i]? = some x:=by rw[<-hN];exact e1
   rw[List.getElem?_append_right hi] at e1'
   obtain⟨j,hj,hNj,hkx,hfr⟩:=hc.get e1'
   have hcv:cv[i-own.length]? = some v:=by
    cases q:cv[i-own.length]? with
    | none=>rw[q] at e2;cases e2
    | some v'=>rw[q] at e2;cases e2;rfl
   have hσ:σ[j]? = some (some v):=by
    have:=congrArg (fun l:List (Option (Option V))=>l[i-own.length]?) hv
    simp only[List.getElem?_map,hj,hcv,Option.map_some,Option.some.injEq] at this
    exact this
   obtain⟨m,_,hl'⟩:=I.loc
   obtain⟨u,r,q⟩:=hl' j x v hNj hσ (.inr (.inl hkx))
   have hkd:(relabel scope X.env).names.lookup x=some .cell\/(relabel scope X.env).names.lookup x=some .free:=by
    have e:(relabel scope X.env).names.lookup x=(scope.names.lookup x).map fun k=>if (k==NameKind.free && X.env.scope.kind == .function && X.env.kindOf x==some .cell)=true then NameKind.cell else k:=lookup_relabel scope.names
    rw[e,hfr,Option.map_some]
    by_cases cc:(NameKind.free==NameKind.free && X.env.scope.kind == .function && X.env.kindOf x==some .cell)=true
    . rw[if_pos cc];exact .inl rfl
    . rw[if_neg cc];exact .inr rfl
   obtain⟨c',hc'⟩:=comp_has I.ok S hkd
   refine⟨u,r,.inr ⟨hkd,c',hc',?_⟩⟩
   rcases q with ⟨z,_⟩ | ⟨_,c,hcc,o,ho,hd⟩
   . rw[hkx] at z;cases z
   . have e:c=c':=Option.some.inj (hcc.symm.trans (comp_cl hc'))
     subst e
     exact⟨o,hk c o ho,hd⟩
 . obtain⟨v,o,ho,hd⟩:=I.cell x c (comp_cl e)
   exact⟨v,o,hk c o ho,hd⟩
 . have hp':p∈X.pn++pins:=by rw[List.append_nil] at hp;exact hp
   obtain⟨e,n,ne,nf,d⟩:=I.pin p hp'
   refine⟨hk _ _ e,n,Nat.ne_of_lt (Heap.lt_size e),fun z=>?_,d⟩
   rcases List.mem_cons.mp (I.stkSub p.1 z) with q | q
   . exact ne q
   . exact nf q
 . show (List.replicate own.length none++cv.map some).length=N'.length
   rw[hN,List.length_append,List.length_append,List.length_replicate,List.length_map,lenv,hl]
def CompRd (J:It)(own:Nat)(cv:List V)(g:TG)(ti:TT)(te:TE)(D:Addr)(H1:Hp)(Q:VK):Prop:=∃W:Nat->Nat->List V->Hp->Prop,(∃m,W 0 m [] (upd H1 D (.lst [])))/\∀i m ys H,W i m ys H ->
 (J.stop i H/\Q (.ref D) H)\/(J.go i H/\ys.length<sizeLine/\∃N:List V->Hp->Prop,(∀ys' H',N ys' H'->∃m',m'<m/\W (i+1) m' ys' H') /\
  ∀x H',J.yld i H x H'->g x (List.replicate own none++cv.map some) H' fun σ2 H2=>(σ2.length=own+cv.length/\σ2.drop own=cv.map some) /\
   ti σ2 H2 fun b H3=>if b=true then te σ2 H3 fun y H4=>H4 D=some (.lst ys)/\N (ys++[y]) (upd H4 D (.lst (ys++[y]))) else N ys H3)
def tComp (own:Nat)(ci:List Nat)(wi:TI)(g:TG)(ti:TT)(te:TE):TE:=fun σ H Q=>wi σ H fun J H1=>∃cv:List V,ci.map (fun j=>σ[j]?)=cv.map (fun v=>some (some v)) /\
 ∀D,H1 D=none->CompRd J own cv g ti te D H1 Q
theorem comp_core {elt target iter:Expr}{ifs:List Expr}{pos cpos:Pos}{wi:TI}{g:TG}{ti:TT}{te:TE}{use:Option (Value->Sem Unit)}{Q0:Value->Shared->Prop}{s:Shared}{H:Hp}{Q:VK}(hcalm:X.calm=true)(S:CompSc X scope)(hc:CapOk X scope cn ci)(hl:cn.length=ci.length)
 (hi:PI X target iter wi)(hg:∀pl fp s3 H3,PG (cxComp X pl (own++cn) scope fp s3 H3) target g)(ht:∀pl fp s3 H3,PTs (cxComp X pl (own++cn) scope fp s3 H3) ifs ti)
 (he:∀pl fp s3 H3,PE (cxComp X pl (own++cn) scope fp s3 H3) elt te)(hs:∀x,foldedSetIterable iter X.env x=pure x)(I:Inv X pins σ H s)(h:tComp own.length ci wi g ti te σ H Q)
 (fin:∀(D C:Addr)(H5:Hp)(s6:Shared)(m6:Str->Option Value),Inv X pins σ H5 s6->s6.heap.Ns C m6->H5 C=none->C≠X.env.locals->X.s₀.heap.objs.size<=C->(∀x c,X.env.cells.lookup x=some c->c≠C) ->
  (∀p∈X.pn++pins,p.1≠C)->Q (.ref D) H5->compPost (model X.prog X.w) X.A X.xe use Q0 (.ref D) C (.ok .next) s6) :
 wpAny (model X.prog X.w) X.A (comprehension (.ListComp elt [⟨target,iter,ifs,0⟩] scope pos) scope X.env cpos (newList []) false (eval iter X.env) use) Q0 X.xe s:=by
 have hcl:closureFor scope X.env=pure (clOf X.env.cells scope.names []):=closureFor_eq fun y hy hf=>I.ok.has y.1 (.inl (S.free y hy hf))
 refine wpAny_comprehension_free (use:=use) rfl hs hcl S.kind S.names ?_
 refine thn (hi pins s σ H _ I h) fun v s1 h1=>thn h1 fun itv s2 h2=>?_
 obtain⟨it,fp,tn,J,H2,e,I2,T,st2,f2,cv,hv,hD⟩:=h2
 subst e
 have lenv:cv.length=ci.length:=by
  have:=congrArg List.length hv
  simpa using this.symm
 have I3:=I2.lnew (ys:=[]) (its:=[]) (t':=s2.toks) .nil (Nat.zero_le _)
 obtain⟨W,⟨m0,w0⟩,turn⟩:=hD s2.heap.objs.size I2.fresh
 have fz:∀b∈fp,b<s2.heap.objs.size:=fun b hb=>by
  obtain⟨o,ho,_⟩:=T.obj _ _ st2 b hb
  exact Heap.lt_size ho
 refine wpAny_newObj_type ?_
 refine wpAny_newFunctionEnv S.nocell (by intro y hy;simp at hy) (fun h4 hns4 hsb4=>?_) S.kind
 generalize hs3:({ s2 with heap:=s2.heap.push { cls:=.type "list",dict:=none,data:=.seq ([]:List Value).toArray } }:Shared)=s3 at hns4 hsb4 ⊢
 have I3':Inv X pins σ (upd H2 s2.heap.objs.size (.lst [])) s3:=by rw[<-hs3];exact I3
 have hsz3:s3.heap.objs.size=s2.heap.objs.size+1:=by rw[<-hs3];exact Heap.size_push ..
 have k23:∀b o,s2.heap.get? b=some o->s3.heap.get? b=some o:=fun b o e=>by rw[<-hs3];exact Heap.get?_push_of_some _ e
 have k34:∀b o,s3.heap.get? b=some o->h4.get? b=some o:=fun b o e=>hsb4.extBut b o (Nat.ne_of_lt (Heap.lt_size e)) (Heap.get?_push_of_some _ e)
 have nD:∀b∈fp,b≠s2.heap.objs.size:=fun b hb=>Nat.ne_of_lt (fz b hb)
 have f3:∀b∈fp,FpOk X pins (upd H2 s2.heap.objs.size (.lst [])) b:=fun b hb=>⟨by rw[upd_ne (nD b hb)];exact (f2 b hb).1,(f2 b hb).2⟩
 have fz3:∀b∈fp,b<s3.heap.objs.size:=fun b hb=>by rw[hsz3];exact Nat.lt_succ_of_lt (fz b hb)
 have I4:Inv (cxComp X (X.pn++pins) (own++cn) scope fp s3 (upd H2 s2.heap.objs.size (.lst []))) [] (List.replicate own.length none++cv.map some) (upd H2 s2.heap.objs.size (.lst [])) { s3 with heap:=h4,toks:=s3.toks+([]:List (Str×Value)).length }:=
  comp_inv I3' S f3 fz3 rfl hc hv hl hns4 k34
 have st4:tn 0 h4:=T.keep _ _ _ st2 fun b hb o e=>k34 b o (k23 b o e)
 generalize hX:cxComp X (X.pn++pins) (own++cn) scope fp s3 (upd H2 s2.heap.objs.size (.lst []))=X' at I4
 have hg':PG X' target g:=by rw[<-hX];exact hg _ _ _ _
 have ht':PTs X' ifs ti:=by rw[<-hX];exact ht _ _ _ _
 have he':PE X' elt te:=by rw[<-hX];exact he _ _ _ _
 have ePr:X'.prog=X.prog:=by rw[<-hX];rfl
 have eW:X'.w=X.w:=by rw[<-hX];rfl
 have eK:X'.K=X.K:=by rw[<-hX];rfl
 have eA:X'.A=X.A:=by rw[<-hX];rfl
 have eE:X'.env=compEnvC scope (clOf X.env.cells scope.names []) s3.heap.objs.size X.env:=by rw[<-hX];rfl
 have eXe:X'.xe=fun _ _=>False:=by rw[<-hX];rfl
 have eC:X'.calm=true:=by rw[<-hX];exact hcalm
 have eex:X'.ex=fp:=by rw[<-hX];rfl
 have epn:X'.pn=X.pn++pins:=by rw[<-hX];rfl
 have es0:X'.s₀=s3:=by rw[<-hX];rfl
 have eH0:X'.H₀=upd H2 s2.heap.objs.size (.lst []):=by rw[<-hX];rfl
 have efs:X'.fs=frs X.stack:=by rw[<-hX];rfl
 have ok':=I4.ok
 have stat:∀{H':Hp},(∀b∈fp,H' b=none)->∀b∈fp,FpOk X' [] H' b:=fun hn b hb=>by
  have hb':b∈X'.ex:=by rw[eex];exact hb
  refine⟨hn b hb,(ok'.exf b hb').1,ok'.exfs b hb',.inl hb',(ok'.exf b hb').2,fun p hp=>?_⟩
  rw[epn,List.append_nil] at hp
  exact (f2 b hb).2.2.2.2.2 p hp
 have wk:∀(σ2:St),(σ2.length=own.length+cv.length/\σ2.drop own.length=cv.map some)->∀{pl:List (Addr×Obj)}{H':Hp}{s':Shared},Inv X' pl σ2 H' s'->Inv X' pl (List.replicate own.length none++cv.map some) H' s':=fun σ2 hq pl H' s' I'=>by
  refine I'.weak (by rw[hq.1,List.length_append,List.length_replicate,List.length_map]) fun i v hi=>?_
  by_cases hlt:i<own.length
  . rw[List.getElem?_append_left (by simpa using hlt),List.getElem?_replicate] at hi
    split at hi <;> cases hi
  . rw[List.getElem?_append_right (by simpa using hlt),List.length_replicate,<-hq.2,List.getElem?_drop] at hi
    rw[show own.length+(i-own.length)=i by omega] at hi
    exact hi
 have loop:codeAny (model X.prog X.w) X.A (.compLoop (.ListComp elt [⟨target,iter,ifs,0⟩] scope pos) 0 (.ref it) (.ref s2.heap.objs.size) (compEnvC scope (clOf X.env.cells scope.names []) s3.heap.objs.size X.env))
  (compPost (model X.prog X.w) X.A X.xe use Q0 (.ref s2.heap.objs.size) s3.heap.objs.size) { s3 with heap:=h4,toks:=s3.toks+([]:List (Str×Value)).length }:=by
  refine compLoop_gen (fun n s'=>∃i ys H',Inv X' [] (List.replicate own.length none++cv.map some) H' s'/\tn i s'.heap/\(∀b∈fp,H' b=none)/\W i n ys H') ?_ m0
   ⟨0,[],_,I4,st4,fun b hb=>(f3 b hb).1,w0⟩
  rintro n s5 ⟨i,ys,H5,I5,st5,fr5,w5⟩
  rcases turn i n ys H5 w5 with ⟨stop,qn⟩ | ⟨go,hsz,N,hN,step⟩
  . have d:=T.done X' ePr eW eK eC i [] s5 _ H5 (fun _ _=>False) I5 (stat fr5) st5 stop
    rw[eA] at d
    refine thn d fun r s6 ⟨hr,I6⟩=>?_
    subst hr
    obtain⟨m6,hn6,_⟩:=I6.loc
    rw[eE] at hn6
    have hn6':s6.heap.Ns s3.heap.objs.size m6:=hn6
    have un6:Un (frs X.stack) fp (upd H2 s2.heap.objs.size (.lst [])) H5 s3.heap s6.heap:=by
     have b6:=I6.base
     rw[efs,eex,eH0,es0] at b6
     exact b6
    have os6:s6.os=s3.os:=by have o6:=I6.os;rw[es0] at o6;exact o6
    have hok6:HOk X.prog X.w H5 s6.heap:=by have o6:=I6.hok;rw[ePr,eW] at o6;exact o6
    have I7:Inv X pins σ H5 s6:=I3'.call' (ch:=fp) os6 un6 hok6 I6.bare fun b hb=>⟨(f2 b hb).2.2.2.1,(f2 b hb).2.1,(f2 b hb).2.2.2.2.1,(f2 b hb).2.2.2.2.2⟩
    have fr6:H5 s3.heap.objs.size=none:=by
     have q:=I6.free
     rw[eE] at q
     exact q
    refine fin s2.heap.objs.size s3.heap.objs.size H5 s6 m6 I7 hn6' fr6 (Nat.ne_of_gt I3'.lt) I3'.sz (fun x c e=>?_) (fun p hp=>?_) qn
    . obtain⟨_,o,ho,_⟩:=I3'.cell x c e
      exact Nat.ne_of_lt (Heap.lt_size ho)
    . exact Nat.ne_of_lt (Heap.lt_size (I3'.pin p hp).1)
  . have d:=T.item X' ePr eW eK eC i [] s5 _ H5 (fun _ _=>False) I5 (stat fr5) st5 go
    rw[eA] at d
    refine thn d fun r s6 ⟨u,hr,h6⟩=>?_
    subst hr
    refine thn h6 fun _ s7 ⟨x,H7,I7,r7,y7,st7,fr7⟩=>?_
    have I7':=I7.pinned (stat fr7) (T.obj _ _ st7)
    have g7:=hg' _ s7 _ H7 x u _ I7' r7 (step x H7 y7)
    rw[ePr,eW,eA,eE,eXe] at g7
    refine thn g7 fun _ s8 ⟨σ8,H8,I8,q8,ti8⟩=>?_
    have t8:=ht' _ s8 σ8 H8 _ I8 ti8
    rw[ePr,eW,eA,eE,eXe] at t8
    refine thn t8 fun ok s9 ⟨H9,I9,q9⟩=>?_
    have again:∀{ys':List V}{H':Hp}{s':Shared},Inv X' ([]++pinsAt fp s7.heap) σ8 H' s'->N ys' H' ->
     ∃m,m<n/\∃i ys H',Inv X' [] (List.replicate own.length none++cv.map some) H' s'/\tn i s'.heap/\(∀b∈fp,H' b=none)/\W i m ys H':=fun {ys' H' s'} I' n'=>by
     obtain⟨m',hm,w'⟩:=hN ys' H' n'
     refine⟨m',hm,i+1,ys',H',(wk σ8 q8 I').unpinned,T.keep _ _ _ st7 fun b hb o e=>(I'.pin (b,o) (List.mem_append_right _ (List.mem_append_right _ (mem_pinsAt hb e)))).1,fun b hb=>?_,w'⟩
     obtain⟨o,e,_⟩:=T.obj _ _ st7 b hb
     exact (I'.pin (b,o) (List.mem_append_right _ (List.mem_append_right _ (mem_pinsAt hb e)))).2.1
    cases ok with
    | false=>exact again I9 q9
    | true=>
     have e9:=he' _ s9 σ8 H9 _ I9 q9
     rw[ePr,eW,eA,eE,eXe] at e9
     refine thn e9 fun u10 s10 ⟨y,H10,I10,r10,hD10,n10⟩=>?_
     have a10:=mt_append (X:=X') _ s10 σ8 H10 (.ref s2.heap.objs.size) [y] (.ref s2.heap.objs.size) [u10] (fun _ H'=>N (ys++[y]) H') I10 rfl (.cons r10 .nil) ⟨_,_,_,rfl,rfl,hD10,hsz,n10⟩
     rw[ePr,eW,eA,eXe] at a10
     exact thn a10 fun _ s11 ⟨_,H11,I11,_,n11⟩=>again I11 n11
 exact codeAny_compStart_list loop (T.self X.A 0 _ _ _ st4 loop)
theorem pe_comp {elt target iter:Expr}{ifs:List Expr}{pos:Pos}{wi:TI}{g:TG}{ti:TT}{te:TE}(hcalm:X.calm=true)(S:CompSc X scope)(hc:CapOk X scope cn ci)(hl:cn.length=ci.length)
 (hi:PI X target iter wi)(hg:∀pl fp s3 H3,PG (cxComp X pl (own++cn) scope fp s3 H3) target g)(ht:∀pl fp s3 H3,PTs (cxComp X pl (own++cn) scope fp s3 H3) ifs ti)
 (he:∀pl fp s3 H3,PE (cxComp X pl (own++cn) scope fp s3 H3) elt te)(hs:∀x,foldedSetIterable iter X.env x=pure x:=by intro _;rfl) :
 PE X (.ListComp elt [⟨target,iter,ifs,0⟩] scope pos) (tComp own.length ci wi g ti te):=by
 intro pins s σ H Q I h
 rw[eval_ListComp]
 exact comp_core hcalm S hc hl hi hg ht he hs I h fun D C H5 s6 m6 I7 hn fr nL ge nC nP q=>⟨m6,hn,fun h' hs'=>⟨.ref D,H5,I7.turned (t':=s6.toks) (it:=C) (fun b o hb e=>hs'.extBut b o hb e) fr nL (.inr ge) nC nP,rfl,q⟩⟩
theorem ps_setC {elt target iter:Expr}{ifs:List Expr}{pos pos' cpos:Pos}{wi:TI}{g:TG}{ti:TT}{te:TE}{i:Nat}{x:Str}(hN:X.N.Nodup)(hix:X.N[i]? = some x)(hx:Loc X.env.scope x)(hcalm:X.calm=true)(S:CompSc X scope)(hc:CapOk X scope cn ci)(hl:cn.length=ci.length)
 (hi:PI X target iter wi)(hg:∀pl fp s3 H3,PG (cxComp X pl (own++cn) scope fp s3 H3) target g)(ht:∀pl fp s3 H3,PTs (cxComp X pl (own++cn) scope fp s3 H3) ifs ti)
 (he:∀pl fp s3 H3,PE (cxComp X pl (own++cn) scope fp s3 H3) elt te)(hs:∀x,foldedSetIterable iter X.env x=pure x:=by intro _;rfl)
 (hsw:swapsWith (.ListComp elt [⟨target,iter,ifs,0⟩] scope cpos) (some (.Name x pos')) pos.line X.env=pure true:=by rfl)
 (hf:X.fn x=true\/X.env.scope.names.lookup x=some .local:=by first | exact .inl rfl | exact .inr rfl | assumption) :
 PS X (.Assign [.Name x pos'] (.ListComp elt [⟨target,iter,ifs,0⟩] scope cpos) pos) (tAsg (tComp own.length ci wi g ti te) (gName i)):=by
 intro pins s σ H D I h
 rw[exec_Assign_Name_used _ _ _ _ hsw]
 refine wpAny_bind (wpAny_standAt (wpAny_bind ?_))
 show wpAny _ X.A (do let _ <-comprehension (.ListComp elt [⟨target,iter,ifs,0⟩] scope cpos) scope X.env _ (newList []) false (eval iter X.env) (some (assign (.Name x pos') X.env))) _ _ s
 refine wpAny_bind (wpAny_mono (comp_core (use:=some (assign (.Name x pos') X.env)) (Q0:=fun _ s'=>SP X pins D .next s') hcalm S hc hl hi hg ht he hs I h (fun D' C H5 s6 m6 I7 hn fr nL ge nC nP q=>?_)) (fun _ s' hq=>wpAny_pure (wpAny_pure hq)) fun _ _ e=>e)
 obtain⟨oC,es,ep,hoC,hd,r1⟩:=hn
 have nf:C∉X.fs:=fun hb=>by
  obtain⟨_,o,ho,_⟩:=I7.ok.funs.mem hb
  exact absurd (Nat.lt_of_lt_of_le (Heap.lt_size ho) ge) (Nat.lt_irrefl _)
 have I7':Inv X (pins++[(C,oC)]) σ H5 s6:=I7.pins_of fun p hp=>by
  rcases List.mem_append.mp hp with z | z
  . exact I7.pin p (List.mem_append_right _ z)
  . rw[List.mem_singleton.mp z]
    exact⟨hoC,fr,nL,nf,fun v e=>by rw[hd] at e;cases e⟩
 show wpAny _ X.A (assign (.Name x pos') X.env (.ref D')) _ _ s6
 refine wpAny_assign_Name (store_ok I7' hN hix hx (show RelV (.ref D') (.ref D') from rfl) (fun s' I'=>?_) hf)
 have hC':=(I'.pin (C,oC) (List.mem_append_right _ (List.mem_append_right _ (List.mem_singleton.mpr rfl)))).1
 refine⟨m6,⟨oC,es,ep,hC',hd,r1⟩,fun h' hs'=>⟨_,H5,?_,q⟩⟩
 have I2:Inv X pins (σ.set i (some (.ref D'))) H5 s':=I'.pins_of fun p hp=>I'.pin p (List.mem_append_right _ (List.mem_append_left _ hp))
 exact I2.turned (t':=s'.toks) (it:=C) (fun b o hb e=>hs'.extBut b o hb e) fr nL (.inr ge) nC nP
end
def cscOk (outer inner:Scope):Bool:=inner.names.all fun y=>(y.2 != .cell) && (y.2 != .local || inner.names.lookup y.1==some .local) && (y.2 != .free || outer.names.lookup y.1==some .cell)
theorem csc {X:Cx}{scope:Scope}(hk:scope.kind = .function)(h:cscOk X.env.scope scope=true):CompSc X scope:=by
 have a:=List.all_eq_true.mp h
 refine⟨hk,fun y hy e=>?_,fun y hy e=>?_,fun y hy e=>?_⟩
 . have:=a y hy
   rw[e] at this
   simp at this
 . have:=a y hy
   rw[e] at this
   simpa using this
 . have:=a y hy
   rw[e] at this
   have h2:X.env.scope.names.lookup y.1=some .cell:=by simpa using this
   exact h2
theorem nd_of {l:List Str}(h:decide l.Nodup=true):l.Nodup:=of_decide_eq_true h
section
variable {X:Cx}{pl:List (Addr×Obj)}{N':List Str}{sc:Scope}{fp:List Addr}{s3:Shared}{H3:Hp}
theorem ix_tupC:IxR (cxComp X pl N' sc fp s3 H3) (rIxT X.K):=ix_tup
theorem ix_listC:IxR (cxComp X pl N' sc fp s3 H3) (rIxL X.K):=ix_list
theorem pg_tupC {es:List Expr}{k:Nat}{t:TGs}{n:Nat}{pos:Pos}(hc:X.calm=true)(h:PGs (cxComp X pl N' sc fp s3 H3) es t)
 (hn:(assignEach es (cxComp X pl N' sc fp s3 H3).env).length=n:=by rfl)(hst:(assignEach es (cxComp X pl N' sc fp s3 H3).env).findIdx? (·.1)=none:=by rfl):PG (cxComp X pl N' sc fp s3 H3) (.Tuple es k pos) (gTup X.K n t):=pg_tup hc h hn hst
theorem op_notInC:OpR (cxComp X pl N' sc fp s3 H3) (compareOp .NotIn) (rIn X.K true):=op_notIn_seq
end
theorem comp_list {K:PySem.W.Frag}{a:Addr}{xs:List V}{own:Nat}{g:TG}{ti:TT}{te:TE}{cv:List V}{D:Addr}{H1:Hp}{Q:VK}(Pv:Nat->List V->Hp->Prop)(h0:Pv 0 [] (upd H1 D (.lst [])))(hl:∀i ys H,Pv i ys H->SqL K H a xs)(hz:∀i ys H,Pv i ys H->ys.length<sizeLine)
 (hs:∀i x ys H,xs[i]? = some x->Pv i ys H->g x (List.replicate own none++cv.map some) H fun σ2 H2=>(σ2.length=own+cv.length/\σ2.drop own=cv.map some) /\
  ti σ2 H2 fun b H3=>if b=true then te σ2 H3 fun y H4=>H4 D=some (.lst ys)/\Pv (i+1) (ys++[y]) (upd H4 D (.lst (ys++[y]))) else Pv (i+1) ys H3)
 (hd:∀ys H,Pv xs.length ys H->Q (.ref D) H) :
 CompRd (Itl K a) own cv g ti te D H1 Q:=by
 refine⟨fun i m ys H=>m=xs.length-i/\i<=xs.length/\Pv i ys H,⟨xs.length,rfl,Nat.zero_le _,h0⟩,?_⟩
 rintro i m ys H ⟨rfl,hi,p⟩
 have q:=hl i ys H p
 by_cases hlt:i<xs.length
 . refine .inr ⟨⟨xs,xs[i],q,by simp[hlt]⟩,hz i ys H p,Pv (i+1),fun ys' H' p'=>⟨xs.length-(i+1),by omega,rfl,hlt,p'⟩,fun x H' y=>?_⟩
   obtain⟨e,y⟩:=y
   subst e
   exact hs i x ys _ (y xs q) p
 . have e:i=xs.length:=by omega
   subst e
   exact .inl ⟨⟨xs,q,Nat.le_refl _⟩,hd ys H p⟩
theorem comp_tup {K:PySem.W.Frag}{a:Addr}{xs:List V}{own:Nat}{g:TG}{ti:TT}{te:TE}{cv:List V}{D:Addr}{H1:Hp}{Q:VK}(Pv:Nat->List V->Hp->Prop)(h0:Pv 0 [] (upd H1 D (.lst [])))(hl:∀i ys H,Pv i ys H->SqT K H a xs)(hz:∀i ys H,Pv i ys H->ys.length<sizeLine)
 (hs:∀i x ys H,xs[i]? = some x->Pv i ys H->g x (List.replicate own none++cv.map some) H fun σ2 H2=>(σ2.length=own+cv.length/\σ2.drop own=cv.map some) /\
  ti σ2 H2 fun b H3=>if b=true then te σ2 H3 fun y H4=>H4 D=some (.lst ys)/\Pv (i+1) (ys++[y]) (upd H4 D (.lst (ys++[y]))) else Pv (i+1) ys H3)
 (hd:∀ys H,Pv xs.length ys H->Q (.ref D) H) :
 CompRd (Itt K a) own cv g ti te D H1 Q:=by
 refine⟨fun i m ys H=>m=xs.length-i/\i<=xs.length/\Pv i ys H,⟨xs.length,rfl,Nat.zero_le _,h0⟩,?_⟩
 rintro i m ys H ⟨rfl,hi,p⟩
 have q:=hl i ys H p
 by_cases hlt:i<xs.length
 . refine .inr ⟨⟨xs,xs[i],q,by simp[hlt]⟩,hz i ys H p,Pv (i+1),fun ys' H' p'=>⟨xs.length-(i+1),by omega,rfl,hlt,p'⟩,fun x H' y=>?_⟩
   obtain⟨e,y⟩:=y
   subst e
   exact hs i x ys _ (y xs q) p
 . have e:i=xs.length:=by omega
   subst e
   exact .inl ⟨⟨xs,q,Nat.le_refl _⟩,hd ys H p⟩
theorem comp_range {lo:Int}{n own:Nat}{g:TG}{ti:TT}{te:TE}{cv:List V}{D:Addr}{H1:Hp}{Q:VK}(Pv:Nat->List V->Hp->Prop)(h0:Pv 0 [] (upd H1 D (.lst [])))(hz:∀i ys H,Pv i ys H->ys.length<sizeLine)
 (hs:∀i ys H,i<n->Pv i ys H->g (.int (lo+i)) (List.replicate own none++cv.map some) H fun σ2 H2=>(σ2.length=own+cv.length/\σ2.drop own=cv.map some) /\
  ti σ2 H2 fun b H3=>if b=true then te σ2 H3 fun y H4=>H4 D=some (.lst ys)/\Pv (i+1) (ys++[y]) (upd H4 D (.lst (ys++[y]))) else Pv (i+1) ys H3)
 (hd:∀ys H,Pv n ys H->Q (.ref D) H) :
 CompRd (Itr lo n) own cv g ti te D H1 Q:=by
 refine⟨fun i m ys H=>m=n-i/\i<=n/\Pv i ys H,⟨n,rfl,Nat.zero_le _,h0⟩,?_⟩
 rintro i m ys H ⟨rfl,hi,p⟩
 by_cases hlt:i<n
 . refine .inr ⟨hlt,hz i ys H p,Pv (i+1),fun ys' H' p'=>⟨n-(i+1),by omega,rfl,hlt,p'⟩,fun x H' y=>?_⟩
   obtain⟨e,y⟩:=y
   subst e
   subst y
   exact hs i ys _ hlt p
 . have e:i=n:=by omega
   subst e
   exact .inl ⟨Nat.le_refl _,hd ys H p⟩
end L2
namespace SortT
open PySem.W PyProof.Rows
def ev {α:Type}(lt:Nat->Nat->Bool):KasT α->α
 | .ret a=>a
 | .ask i j k=>ev lt (k (lt i j))
theorem ev_bind {α β:Type}(lt:Nat->Nat->Bool)(f:α->KasT β):∀t:KasT α,ev lt (t.bind f)=ev lt (f (ev lt t))
 | .ret _=>rfl
 | .ask i j k=>ev_bind lt f (k (lt i j))
section
variable {O:KeyOrd}{key:Nat->O.α}
def kk (key:Nat->O.α)(p:Array Nat)(i:Nat):O.α:=key (p.getD i 0)
def Sr (key:Nat->O.α)(p:Array Nat)(n:Nat):Prop:=∀i j,i<=j->j<n->O.kle (kk key p i) (kk key p j)
def Fl (key:Nat->O.α)(p:Array Nat)(n:Nat):Prop:=∀i j,i<=j->j<n->O.kle (kk key p j) (kk key p i)
theorem kk_congr {p q:Array Nat}{i j:Nat}(h:p[i]? = q[j]?):kk key p i=kk key q j:=by
 unfold kk;rw[Array.getD_eq_getD_getElem?,Array.getD_eq_getD_getElem?,h]
theorem kk_rev {p:Array Nat}{i j:Nat}(hj:j<=p.size)(k:Nat):kk key (kas_rev p i j) k=if i<=k/\k<j then kk key p (i+j-1-k) else kk key p k:=by
 have e:=getElem?_mirror_all (i:=i) hj k
 unfold kas_rev
 by_cases h1:i<=k/\k<j
 . rw[if_pos h1] at e ⊢;exact kk_congr e
 . rw[if_neg h1] at e ⊢;exact kk_congr e
theorem kk_rev_eq {p:Array Nat}{i j:Nat}(hj:j<=p.size)(he:∀k,i<=k->k<j->kk key p k=kk key p (j-1))(k:Nat):kk key (kas_rev p i j) k=kk key p k:=by
 rw[kk_rev hj]
 split
 . rw[he _ (by omega) (by omega),he k (by omega) (by omega)]
 . rfl
theorem kk_bubble {p:Array Nat}{src d:Nat}(hs:src<p.size)(hd:d<=src)(k:Nat) :
 kk key (bubble p src d) k=if k=src-d then kk key p src else if src-d<k/\k<=src then kk key p (k-1) else kk key p k:=by
 have e:=getElem?_bubble hs d hd k
 by_cases h1:k=src-d
 . rw[if_pos h1] at e ⊢;exact kk_congr e
 . rw[if_neg h1] at e ⊢
   by_cases h2:src-d<k/\k<=src
   . rw[if_pos h2] at e ⊢;exact kk_congr e
   . rw[if_neg h2] at e ⊢;exact kk_congr e
def lt_ (key:Nat->O.α)(i j:Nat):Bool:=O.blt (key i) (key j)
theorem rev_perm (p:Array Nat)(i j:Nat):(kas_rev p i j).Perm p:=mirror_perm _ _ _ _
theorem rev_size (p:Array Nat)(i j:Nat):(kas_rev p i j).size=p.size:=(rev_perm p i j).size_eq
theorem asc_ok {p:Array Nat}:∀(f n:Nat),1<=n->Sr key p n->∃m,ev (lt_ key) (kas_asc p f n)=m/\n<=m/\m<=n+f/\Sr key p m/\(m=n+f\/O.klt (kk key p m) (kk key p (m-1)))
 | 0,n,_,hs=>⟨n,rfl,Nat.le_refl _,Nat.le_refl _,hs,.inl rfl⟩
 | f+1,n,h1,hs=>by
  show ∃m,ev (lt_ key) (if lt_ key (p.getD n 0) (p.getD (n-1) 0)=true then KasT.ret n else kas_asc p f (n+1))=m/\_
  cases hl:lt_ key (p.getD n 0) (p.getD (n-1) 0) with
  | true=>exact⟨n,by simp[ev],Nat.le_refl _,by omega,hs,.inr hl⟩
  | false=>
   have hs':Sr key p (n+1):=fun i j hij hj=>by
    by_cases hjn:j<n
    . exact hs i j hij hjn
    . have hj':j=n:=by omega
      subst hj'
      by_cases hi':i=j
      . subst hi';exact KeyOrd.kle_refl _
      . exact KeyOrd.kle_trans (hs i (j-1) (by omega) (by omega)) hl
   obtain⟨m,e,a,b,c,d⟩:=asc_ok f (n+1) (by omega) hs'
   refine⟨m,by simpa using e,by omega,by omega,c,?_⟩
   rcases d with d | d
   . exact .inl (by omega)
   . exact .inr d
theorem tail3_ok {p:Array Nat}{n nrem:Nat}(h1:1<=n)(hn:n<=nrem)(hz:nrem<=p.size)(hs:Fl key p n) :
 ∃m q,ev (lt_ key) (kas_tail3 n nrem p)=(m,q)/\q.Perm p/\1<=m/\m<=nrem/\Sr key q m:=by
 unfold kas_tail3
 have hs':Sr key (kas_rev p 0 n) n:=fun i j hij hj=>by
  rw[kk_rev (by omega),kk_rev (by omega),if_pos (by omega),if_pos (by omega)]
  exact hs _ _ (by omega) (by omega)
 obtain⟨m,e,a,b,c,_⟩:=asc_ok (nrem-n) n h1 hs'
 exact⟨m,kas_rev p 0 n,by rw[ev_bind,e];rfl,rev_perm _ _ _,by omega,by omega,c⟩
theorem desc_ok:∀(f n q:Nat)(p:Array Nat),1<=n->n+f<=p.size->Fl key p n->q+1<=n->(∀i,n-(q+1)<=i->i<n->kk key p i=kk key p (n-1)) ->
 ∃p' n' q',ev (lt_ key) (kas_desc f p n q)=(p',n',q')/\p'.Perm p/\n<=n'/\n'<=n+f/\Fl key p' n'/\q'+1<=n'/\(∀i,n'-(q'+1)<=i->i<n'->kk key p' i=kk key p' (n'-1))
 | 0,n,q,p,_,_,hs,hq,he=>⟨p,n,q,rfl,.refl _,Nat.le_refl _,Nat.le_refl _,hs,hq,he⟩
 | f+1,n,q,p,h1,hz,hs,hq,he=>by
  show ∃p' n' q',ev (lt_ key) (if lt_ key (p.getD n 0) (p.getD (n-1) 0)=true then _ else KasT.ask _ _ _)=(p',n',q')/\_
  cases hl:lt_ key (p.getD n 0) (p.getD (n-1) 0) with
  | true=>
   have step:∀xs:Array Nat,(∀k,kk key xs k=kk key p k)->Fl key xs (n+1):=fun xs hk i j hij hj=>by
    rw[hk,hk]
    by_cases hjn:j<n
    . exact hs i j hij hjn
    . have hj':j=n:=by omega
      subst hj'
      by_cases hi':i=j
      . subst hi';exact KeyOrd.kle_refl _
      . exact KeyOrd.kle_trans (KeyOrd.kle_of_klt hl) (hs i (j-1) (by omega) (by omega))
   by_cases hq0:q > 0
   . have hk:=kk_rev_eq (key:=key) (p:=p) (i:=n-(q+1)) (j:=n) (by omega) he
     obtain⟨p',n',q',e,a,b,c,d⟩:=desc_ok f (n+1) 0 (kas_rev p (n-(q+1)) n) (by omega) (by rw[rev_size];omega) (step _ hk) (by omega) (fun i h1 h2=>by congr 1;omega)
     exact⟨p',n',q',by simpa [hq0] using e,a.trans (rev_perm _ _ _),by omega,by omega,d⟩
   . obtain⟨p',n',q',e,a,b,c,d⟩:=desc_ok f (n+1) 0 p (by omega) (by omega) (step _ fun _=>rfl) (by omega) (fun i h1 h2=>by congr 1;omega)
     exact⟨p',n',q',by simpa [hq0] using e,a,by omega,by omega,d⟩
  | false=>
   show ∃p' n' q',ev (lt_ key) (if lt_ key (p.getD (n-1) 0) (p.getD n 0)=true then KasT.ret (p,n,q) else kas_desc f p (n+1) (q+1))=(p',n',q')/\_
   cases hr:lt_ key (p.getD (n-1) 0) (p.getD n 0) with
   | true=>exact⟨p,n,q,by simp[ev],.refl _,Nat.le_refl _,by omega,hs,hq,he⟩
   | false=>
    have heq:kk key p n=kk key p (n-1):=KeyOrd.kle_antisymm hr hl
    have hs':Fl key p (n+1):=fun i j hij hj=>by
     by_cases hjn:j<n
     . exact hs i j hij hjn
     . have hj':j=n:=by omega
       subst hj'
       by_cases hi':i=j
       . subst hi';exact KeyOrd.kle_refl _
       . rw[heq];exact hs i (j-1) (by omega) (by omega)
    obtain⟨p',n',q',e,a,b,c,d⟩:=desc_ok f (n+1) (q+1) p (by omega) (by omega) hs' (by omega) (fun i h1 h2=>by
     rw[show n+1-1=n by omega]
     by_cases hix:i=n
     . subst hix;rfl
     . rw[heq];exact he i (by omega) (by omega))
    exact⟨p',n',q',by simpa using e,a,by omega,by omega,d⟩
theorem descPart_ok {p:Array Nat}{n nrem:Nat}(hn:n+1<=nrem)(hz:nrem<=p.size)(hs:Fl key p (n+1)) :
 ∃m q,ev (lt_ key) (kas_descPart n nrem p)=(m,q)/\q.Perm p/\1<=m/\m<=nrem/\Sr key q m:=by
 unfold kas_descPart
 rw[ev_bind]
 obtain⟨p',n',q',e,a,b,c,d,hq,he⟩:=desc_ok (nrem-(n+1)) (n+1) 0 p (by omega) (by omega) hs (by omega) (fun i h1 h2=>by congr 1;omega)
 rw[e]
 dsimp only
 have hz':p'.size=p.size:=a.size_eq
 by_cases hq0:q' > 0
 . rw[if_pos hq0]
   have hk:=kk_rev_eq (key:=key) (p:=p') (i:=n'-(q'+1)) (j:=n') (by omega) he
   obtain⟨m,r,e2,a2,b2,c2,d2⟩:=tail3_ok (key:=key) (p:=kas_rev p' (n'-(q'+1)) n') (n:=n') (nrem:=nrem) (by omega) (by omega) (by rw[rev_size];omega) (fun i j hij hj=>by rw[hk,hk];exact d i j hij hj)
   exact⟨m,r,e2,a2.trans ((rev_perm _ _ _).trans a),b2,c2,d2⟩
 . rw[if_neg hq0]
   obtain⟨m,r,e2,a2,b2,c2,d2⟩:=tail3_ok (key:=key) (p:=p') (n:=n') (nrem:=nrem) (by omega) (by omega) (by omega) d
   exact⟨m,r,e2,a2.trans a,b2,c2,d2⟩
theorem count_ok {p:Array Nat}{nrem:Nat}(h1:1<=nrem)(hz:nrem<=p.size):∃m q,ev (lt_ key) (kas_count nrem p)=(m,q)/\q.Perm p/\1<=m/\m<=nrem/\Sr key q m:=by
 unfold kas_count
 rw[ev_bind]
 obtain⟨n,e,a,b,hsn,hor⟩:=asc_ok (key:=key) (p:=p) (nrem-1) 1 (Nat.le_refl _) (fun i j hij hj=>by have:i=j:=(by omega);subst this;exact KeyOrd.kle_refl _)
 rw[e]
 by_cases hnn:n=nrem
 . rw[if_pos (by simpa using hnn)]
   exact⟨n,p,rfl,.refl _,a,by omega,hsn⟩
 . rw[if_neg (by simpa using hnn)]
   have hlt:O.klt (kk key p n) (kk key p (n-1)):=hor.resolve_left (by omega)
   by_cases hgt:n > 1
   . rw[if_pos hgt]
     show ∃m q,ev (lt_ key) (if lt_ key (p.getD 0 0) (p.getD (n-1) 0)=true then KasT.ret (n,p) else kas_descPart n nrem (kas_rev p 0 n))=(m,q)/\_
     cases hr:lt_ key (p.getD 0 0) (p.getD (n-1) 0) with
     | true=>exact⟨n,p,by simp[ev],.refl _,a,by omega,hsn⟩
     | false=>
      have hall:∀k,0<=k->k<n->kk key p k=kk key p (n-1):=fun k _ hk=>
       KeyOrd.kle_antisymm (hsn k (n-1) (by omega) (by omega)) (KeyOrd.kle_trans hr (hsn 0 k (by omega) hk))
      have hk:=kk_rev_eq (key:=key) (p:=p) (i:=0) (j:=n) (by omega) hall
      obtain⟨m,q,e2,a2,b2,c2,d2⟩:=descPart_ok (key:=key) (p:=kas_rev p 0 n) (n:=n) (nrem:=nrem) (by omega) (by rw[rev_size];omega) (fun i j hij hj=>by
       rw[hk,hk]
       by_cases hjn:j<n
       . rw[hall i (by omega) (by omega),hall j (by omega) hjn];exact KeyOrd.kle_refl _
       . have hj':j=n:=by omega
         subst hj'
         by_cases hi':i=j
         . subst hi';exact KeyOrd.kle_refl _
         . rw[hall i (by omega) (by omega)];exact KeyOrd.kle_of_klt hlt)
      exact⟨m,q,by simpa using e2,a2.trans (rev_perm _ _ _),b2,c2,d2⟩
   . rw[if_neg hgt]
     have hn1:n=1:=by omega
     subst hn1
     refine descPart_ok (by omega) hz fun i j hij hj=>?_
     by_cases hi':i=j
     . subst hi';exact KeyOrd.kle_refl _
     . have hi0:i=0:=by omega
       have hj1:j=1:=by omega
       subst hi0;subst hj1
       exact KeyOrd.kle_of_klt hlt
theorem place_ok {p:Array Nat}{k:Nat}(hs:Sr key p k):∀(f l r:Nat),l<=r->r<=k->r-l<=f->(∀i,i<l->O.kle (kk key p i) (kk key p k))->(∀i,r<=i->i<k->O.klt (kk key p k) (kk key p i)) ->
 ∃m,ev (lt_ key) (kas_place p k f l r)=m/\m<=k/\(∀i,i<m->O.kle (kk key p i) (kk key p k))/\(∀i,m<=i->i<k->O.klt (kk key p k) (kk key p i))
 | 0,l,r,hlr,hrk,hf,hlo,hhi=>⟨l,rfl,by omega,hlo,fun i h1 h2=>hhi i (by omega) h2⟩
 | f+1,l,r,hlr,hrk,hf,hlo,hhi=>by
  unfold kas_place
  by_cases hge:l ≥ r
  . rw[if_pos hge]
    exact⟨l,rfl,by omega,hlo,fun i h1 h2=>hhi i (by omega) h2⟩
  . rw[if_neg hge]
    show ∃m,ev (lt_ key) (if lt_ key (p.getD k 0) (p.getD ((l+r)/2) 0)=true then kas_place p k f l ((l+r)/2) else kas_place p k f ((l+r)/2+1) r)=m/\_
    cases hl:lt_ key (p.getD k 0) (p.getD ((l+r)/2) 0) with
    | true=>
     obtain⟨m,e,x⟩:=place_ok hs f l ((l+r)/2) (by omega) (by omega) (by omega) hlo (fun i h1 h2=>KeyOrd.klt_of_klt_of_kle hl (hs _ _ h1 h2))
     exact⟨m,by simpa using e,x⟩
    | false=>
     obtain⟨m,e,x⟩:=place_ok hs f ((l+r)/2+1) r (by omega) (by omega) (by omega) (fun i h1=>KeyOrd.kle_trans (hs i ((l+r)/2) (by omega) (by omega)) (show O.kle _ _ from hl)) hhi
     exact⟨m,by simpa using e,x⟩
theorem bin_ok:∀(f:Nat)(p:Array Nat)(k:Nat),k+f=p.size->Sr key p k->∃q,ev (lt_ key) (kas_bin f p k)=q/\q.Perm p/\Sr key q (k+f)
 | 0,p,k,_,hs=>⟨p,rfl,.refl _,hs⟩
 | f+1,p,k,hz,hs=>by
  unfold kas_bin
  rw[ev_bind]
  obtain⟨l,e,hlk,hlo,hhi⟩:=place_ok (key:=key) hs k 0 k (by omega) (by omega) (by omega) (fun i h=>by omega) (fun i h1 h2=>by omega)
  rw[e]
  have hs':Sr key (bubble p k (k-l)) (k+1):=fun i j hij hj=>by
   rw[kk_bubble (by omega) (by omega),kk_bubble (by omega) (by omega),show k-(k-l)=l by omega]
   repeat' split
   all_goals first
    | (exfalso;omega)
    | exact KeyOrd.kle_refl _
    | exact hlo _ (by omega)
    | exact KeyOrd.kle_of_klt (hhi _ (by omega) (by omega))
    | exact hs _ _ (by omega) (by omega)
  obtain⟨q,e2,a,b⟩:=bin_ok f (bubble p k (k-l)) (k+1) (by rw[(bubble_perm p k (k-l)).size_eq];omega) hs'
  exact⟨q,e2,a.trans (bubble_perm _ _ _),by rw[show k+(f+1)=k+1+f by omega];exact b⟩
theorem sort_ok (n:Nat)(h1:1<=n):∃q,ev (lt_ key) (kas_sort n)=q/\q.Perm (List.range n).toArray/\Sr key q n:=by
 unfold kas_sort
 rw[ev_bind]
 have hz:(List.range n).toArray.size=n:=by simp
 obtain⟨m,q,e,a,b,c,d⟩:=count_ok (key:=key) (p:=(List.range n).toArray) h1 (by omega)
 rw[e]
 dsimp only
 have hq:q.size=n:=by rw[a.size_eq,hz]
 by_cases hm:m<n
 . rw[if_pos hm]
   obtain⟨r,e2,a2,b2⟩:=bin_ok (key:=key) (n-max m 1) q (max m 1) (by omega) (by rw[show max m 1=m by omega];exact d)
   exact⟨r,e2,a2.trans a,by rw[show max m 1+(n-max m 1)=n by omega] at b2;exact b2⟩
 . rw[if_neg hm]
   have:m=n:=by omega
   subst this
   exact⟨q,rfl,a,d⟩
end
end SortT
namespace SortT
open PySem.W PyProof.Rows
def WinP {α:Type}(n:Nat)(R:α->Prop):KasT α->Prop
 | .ret a=>R a
 | .ask i j k=>i<n/\j<n/\∀b,WinP n R (k b)
theorem WinP.bind {α β:Type}{n:Nat}{R:α->Prop}{R':β->Prop}{f:α->KasT β}(hf:∀a,R a->WinP n R' (f a)):∀(t:KasT α),WinP n R t->WinP n R' (t.bind f)
 | .ret a,h=>hf a h
 | .ask _ _ k,h=>⟨h.1,h.2.1,fun b=>WinP.bind hf (k b) (h.2.2 b)⟩
def Bd (n:Nat)(p:Array Nat):Prop:=∀i,p.getD i 0<n
theorem Bd.perm {n:Nat}{p q:Array Nat}(h:Bd n q)(hp:p.Perm q):Bd n p:=fun i=>by
 have h0:0<n:=Nat.lt_of_le_of_lt (Nat.zero_le _) (h 0)
 by_cases hi:i<p.size
 . have e:p.getD i 0=p[i]:=by simp[Array.getD,hi]
   rw[e]
   have hm:p[i]∈q.toList:=(Array.perm_iff_toList_perm.mp hp).mem_iff.mp (by simp)
   obtain⟨j,hj,ej⟩:=List.getElem_of_mem hm
   have hj':j<q.size:=by simpa using hj
   have:=h j
   rw[show q.getD j 0=q[j] by simp[Array.getD,hj']] at this
   rw[<-ej]
   simpa using this
 . have e:p.getD i 0=0:=by simp[Array.getD,hi]
   rw[e];exact h0
theorem asc_win {n:Nat}{p:Array Nat}(hp:Bd n p):∀f m,WinP n (fun _=>True) (kas_asc p f m)
 | 0,_=>trivial
 | f+1,m=>⟨hp _,hp _,fun b=>by
  cases b with
  | true=>exact trivial
  | false=>exact asc_win hp f (m+1)⟩
theorem desc_win {n:Nat}:∀(f:Nat)(p:Array Nat)(m q:Nat),Bd n p->WinP n (fun r=>Bd n r.1) (kas_desc f p m q)
 | 0,_,_,_,hp=>hp
 | f+1,p,m,q,hp=>⟨hp _,hp _,fun b=>by
  cases b with
  | true=>
   show WinP n _ (if q > 0 then kas_desc f (kas_rev p (m-(q+1)) m) (m+1) 0 else kas_desc f p (m+1) 0)
   split
   . exact desc_win f _ _ _ (hp.perm (rev_perm _ _ _))
   . exact desc_win f _ _ _ hp
  | false=>
   refine⟨hp _,hp _,fun d=>?_⟩
   cases d with
   | true=>exact hp
   | false=>exact desc_win f _ _ _ hp⟩
theorem tail3_win {n m nrem:Nat}{p:Array Nat}(hp:Bd n p):WinP n (fun r=>Bd n r.2) (kas_tail3 m nrem p):=by
 unfold kas_tail3
 exact WinP.bind (R:=fun _=>True) (R':=fun r=>Bd n r.2) (f:=fun k=>KasT.ret (k,kas_rev p 0 m)) (fun a _=>hp.perm (rev_perm p 0 m)) _ (asc_win (hp.perm (rev_perm p 0 m)) _ _)
theorem descPart_win {n m nrem:Nat}{p:Array Nat}(hp:Bd n p):WinP n (fun r=>Bd n r.2) (kas_descPart m nrem p):=
 WinP.bind (fun r hr=>by
  split
  . exact tail3_win (hr.perm (rev_perm _ _ _))
  . exact tail3_win hr) _ (desc_win _ _ _ _ hp)
theorem count_win {n nrem:Nat}{p:Array Nat}(hp:Bd n p):WinP n (fun r=>Bd n r.2) (kas_count nrem p):=
 WinP.bind (fun r _=>by
  split
  . exact hp
  . split
    . refine⟨hp _,hp _,fun b=>?_⟩
      cases b with
      | true=>exact hp
      | false=>exact descPart_win (hp.perm (rev_perm _ _ _))
    . exact descPart_win hp) _ (asc_win hp _ _)
theorem place_win {n k:Nat}{p:Array Nat}(hp:Bd n p):∀f l r,WinP n (fun _=>True) (kas_place p k f l r)
 | 0,_,_=>trivial
 | f+1,l,r=>by
  unfold kas_place
  split
  . exact trivial
  . refine⟨hp _,hp _,fun b=>?_⟩
    cases b with
    | true=>exact place_win hp f _ _
    | false=>exact place_win hp f _ _
theorem bin_win {n:Nat}:∀(f:Nat)(p:Array Nat)(k:Nat),Bd n p->WinP n (fun _=>True) (kas_bin f p k)
 | 0,_,_,_=>trivial
 | f+1,p,k,hp=>WinP.bind (fun l _=>bin_win f _ _ (hp.perm (bubble_perm _ _ _))) _ (place_win hp _ _ _)
theorem sort_win {n:Nat}(h:0<n):WinP n (fun _=>True) (kas_sort n):=
 WinP.bind (fun r hr=>by
  split
  . exact bin_win _ _ _ hr
  . exact trivial) _ (count_win fun i=>by
    by_cases hi:i<n
    . simp[Array.getD,hi]
    . simp[Array.getD,hi];exact h)
end SortT
namespace SortT
open PySem PySem.W PySem.Calls PyProof.Rows
theorem wp_ev {α:Type}{cmp:Nat->Nat->(Bool->Shared->Prop)->Shared->Prop}{lt:Nat->Nat->Bool}{n:Nat}{s:Shared}(hc:∀i j C,i<n->j<n->C (lt i j) s->cmp i j C s){R:α->Prop}{Q:α->Shared->Prop} :
 ∀t:KasT α,WinP n R t->Q (ev lt t) s->t.kasWp cmp Q s
 | .ret _,_,h=>h
 | .ask i j k,w,h=>hc i j _ w.1 w.2.1 (wp_ev hc (k (lt i j)) (w.2.2 _) h)
section
variable {prog:Program}{w:World}{A:Around}{E:Value->Shared->Prop}{s:Shared}
structure Put {O:KeyOrd}(key:Nat->O.α)(n:Nat)(out:List Nat):Prop where
 perm:out.Perm (List.range n)
 rise:∀(i j a b:Nat),i<=j->out[i]? = some a->out[j]? = some b->O.kle (key a) (key b)
theorem put_of {O:KeyOrd}{key:Nat->O.α}{n:Nat}{q:Array Nat}(hp:q.Perm (List.range n).toArray)(hs:Sr key q n):Put key n q.toList:=by
 have hl:q.toList.Perm (List.range n):=Array.perm_iff_toList_perm.mp hp
 refine⟨hl,fun i j a b hij ha hb=>?_⟩
 have hz:q.size=n:=by have:=hp.size_eq;simpa using this
 have hj:j<q.toList.length:=(List.getElem?_eq_some_iff.mp hb).1
 have hj':j<n:=by rw[<-hz];simpa using hj
 have h:=hs i j hij hj'
 have ga:q.getD i 0=a:=by
  rw[Array.getD_eq_getD_getElem?,<-Array.getElem?_toList,ha];rfl
 have gb:q.getD j 0=b:=by
  rw[Array.getD_eq_getD_getElem?,<-Array.getElem?_toList,hb];rfl
 unfold kk at h
 rw[ga,gb] at h
 exact h
structure Asks (prog:Program)(w:World)(A:Around)(s:Shared)(a:Addr)(vs:List Value){O:KeyOrd}(key:Nat->O.α)(κ:SortKind):Prop where
 kind:∀(h':Heap)(Q:SortKind->Shared->Prop)(E:Value->Shared->Prop),(∀b o,b≠a->s.heap.get? b=some o->h'.get? b=some o)->Q κ { s with heap:=h' }->wpAny (model prog w) A (keyKind' vs.toArray) Q E { s with heap:=h' }
 less:∀(h':Heap)(i j:Nat)(Q:Bool->Shared->Prop)(E:Value->Shared->Prop),(∀b o,b≠a->s.heap.get? b=some o->h'.get? b=some o)->i<vs.length->j<vs.length->Q (O.blt (key i) (key j)) { s with heap:=h' } ->
  wpAny (model prog w) A (keyLt' κ (vs.getD i Value.none) (vs.getD j Value.none)) Q E { s with heap:=h' }
theorem list_sort {a:Addr}{vs:List Value}{n:Nat}{P:PySem.Fin->Shared->Prop}{O:KeyOrd}{key:Nat->O.α}{κ:SortKind}(ho:s.heap.get? a=some (seqObj "list" vs.toArray n)) (h64:vs.length<64)
 (ask:2<=vs.length->Asks prog w A s a vs key κ)
 (h:∀out:List Nat,Put key vs.length out->P (.done (.ret .none)) { s with heap:=sortedHeap s.heap a vs (out.map fun i=>vs.getD i Value.none).toArray }) :
 wpAny (model prog w) A (Builtin.«list.sort» ⟨[.ref a],[]⟩) P E s:=by
 rw[list_sort_plain]
 have ha:a<s.heap.objs.size:=Heap.lt_size ho
 refine wpAny_bind (listItems_at ho rfl ?_)
 refine wpAny_bind (listUpdate_at ho rfl ?_ (by rw[List.size_toArray,sizeLine_eq];omega) (Nat.zero_le _))
 obtain⟨e1,ho1⟩:∃e1,(s.heap.update a (Obj.mapSeq fun _=>#[])).get? a=some (seqObj "list" #[] e1):=⟨_,get?_update_seq ho (fun _=>#[])⟩
 refine wpAny_bind (seqEpoch_at ho1 rfl ?_)
 refine wpAny_bind (wpAny_newTuple ?_ (by show vs.length<=_;rw[sizeLine_eq];omega))
 refine wpAny_bind (wpAny_newList ?_ (Nat.zero_le _))
 refine wpAny_holding ?_
 have ho6:(((s.heap.update a (Obj.mapSeq fun _=>#[])).push (seqObj "tuple" vs.toArray 0)).push (seqObj "list" #[] 0)).get? a=some (seqObj "list" #[] e1):=by
  rw[Heap.get?_push_ne _ _ _ (by rw[size_push',Heap.size_update];exact Nat.ne_of_lt (Nat.lt_succ_of_lt ha)),Heap.get?_push_ne _ _ _ (by rw[Heap.size_update];exact Nat.ne_of_lt ha)]
  exact ho1
 have keep:∀b o,b≠a->s.heap.get? b=some o->(((s.heap.update a (Obj.mapSeq fun _=>#[])).push (seqObj "tuple" vs.toArray 0)).push (seqObj "list" #[] 0)).get? b=some o:=fun b o hb e=>by
  refine Heap.get?_push_of_some _ (Heap.get?_push_of_some _ ?_)
  rw[Heap.get?_update_ne _ _ _ _ hb]
  exact e
 show wpAny (model prog w) A _ P E { s with heap:=((s.heap.update a (Obj.mapSeq fun _=>#[])).push (seqObj "tuple" vs.toArray 0)).push (seqObj "list" #[] 0) }
 dsimp only
 by_cases h2:vs.toArray.size<2
 . rw[if_pos h2,if_pos h2]
   refine wpAny_bind (wpAny_pure ?_)
   rw[StateT.run_pure]
   refine wpAny_bind (wpAny_pure ?_)
   dsimp only
   refine wpAny_bind (seqEpoch_at ho6 rfl ?_)
   refine wpAny_bind (listUpdate_at ho6 rfl ?_ (Nat.zero_le _) (by rw[Array.size_map];show (pairsOf vs).size<=_;rw[pairsOf_size,sizeLine_eq];omega))
   simp only[bne_self_eq_false,Bool.false_eq_true,if_false]
   refine wpAny_pure ?_
   have hlen:vs.length<2:=by simpa using h2
   have hout:(arrOf (SortSt.mk' general' (vs.toArray.zip vs.toArray) #[] 7 none)).map (·.2)=((List.range vs.length).map fun i=>vs.getD i Value.none).toArray:=by
    show (vs.toArray.zip vs.toArray).map (·.2)=_
    match vs,hlen with
    | [],_=>simp
    | [v],_=>simp
    | _::_::_,h=>exfalso;simp only[List.length_cons] at h;omega
   have fin:=h (List.range vs.length) ⟨.refl _,fun i j x y hij hx hy=>by
    have hj:j<(List.range vs.length).length:=(List.getElem?_eq_some_iff.mp hy).1
    rw[List.length_range] at hj
    have e:i=j:=by omega
    subst e
    rw[hx] at hy
    cases hy
    exact KeyOrd.kle_refl _⟩
   rw[<-hout] at fin
   exact fin
 . rw[if_neg h2,if_neg h2]
   have h2':2<=vs.length:=by
    have:¬ vs.length<2:=by simpa using h2
    omega
   have K:=ask h2'
   refine wpAny_bind (K.kind _ _ _ keep ?_)
   obtain⟨q,eq,hp,hs⟩:=sort_ok (key:=key) vs.length (by omega)
   have run:(kas_sort vs.length).kasWp (kas_ask prog w A κ vs) (fun p s'=>p=q/\s'={ s with heap:=((s.heap.update a (Obj.mapSeq fun _=>#[])).push (seqObj "tuple" vs.toArray 0)).push (seqObj "list" #[] 0) })
    { s with heap:=((s.heap.update a (Obj.mapSeq fun _=>#[])).push (seqObj "tuple" vs.toArray 0)).push (seqObj "list" #[] 0) }:=
    wp_ev (lt:=lt_ key) (n:=vs.length) (fun i j C hi hj hC=>K.less _ i j C _ keep hi hj hC) _ (sort_win (by omega)) ⟨eq,rfl⟩
   refine wpAny_bind (wpAny_mono (kat_run (ks:=vs) (vs:=vs) (Q:=fun st' s'=>∃p:Array Nat,p.size=vs.length/\arrOf st'=p.map (kas_item (vs.toArray.zip vs.toArray))/\failedOf st'=none/\p=q/\s'={ s with heap:=((s.heap.update a (Obj.mapSeq fun _=>#[])).push (seqObj "tuple" vs.toArray 0)).push (seqObj "list" #[] 0) })
    rfl h2' h64 (fun p' st' s' a1 a2 a3 a4=>⟨p',a1,a2,a3,a4⟩) run) ?_ fun _ _ e=>e)
   rintro ⟨⟨⟩,st'⟩ s' ⟨p,hsz,har,hf,rfl,rfl⟩
   dsimp only
   refine wpAny_bind (seqEpoch_at ho6 rfl ?_)
   refine wpAny_bind (listUpdate_at ho6 rfl ?_ (Nat.zero_le _) (by rw[Array.size_map,har,Array.size_map,hsz,sizeLine_eq];omega))
   rw[hf]
   simp only[bne_self_eq_false,Bool.false_eq_true,if_false]
   refine wpAny_pure ?_
   have hout:=kat_snds (ks:=vs) (vs:=vs) rfl har
   have fin:=h p.toList (put_of hp hs)
   rw[<-hout] at fin
   exact fin
theorem sorted_list {l:Addr}{vs:List Value}{Q:Value->Shared->Prop}{O:KeyOrd}{key:Nat->O.α}{κ:SortKind}(hl:s.heap.IsList l vs.toArray)(h64:vs.length<64)
 (ask:2<=vs.length->∀(s':Shared)(a:Addr),(∀b o,s.heap.get? b=some o->b≠a)->(∀b o,s.heap.get? b=some o->s'.heap.get? b=some o)->Asks prog w A.in1.in1 s' a vs key κ)
 (h:∀(D:Addr)(h':Heap)(out:List Nat)(c:Nat),Put key vs.length out->s.heap.objs.size<=D->(∀b o,s.heap.get? b=some o->h'.get? b=some o) ->
  h'.get? D=some (seqObj "list" (out.map fun i=>vs.getD i Value.none).toArray c)->Q (.ref D) { s with heap:=h' }) :
 wpAny (model prog w) A (call (.builtin "sorted") [.ref l]) Q E s:=by
 refine Calls.call_function_entry kind_sorted plain_sorted entry_sorted (args_sorted1 _) ?_
 unfold Builtin.«sorted»
 refine wpAny_bind (m:=checkCount "sorted" 1 1 _) (wpAny_pure ?_)
 refine wpAny_bind (collect_list hl ?_ (by rw[sizeLine_eq];omega))
 refine wpAny_bind (wpAny_newList ?_ (by rw[sizeLine_eq];omega))
 have hsz:((s.heap.push (seqObj "list" #[] 0)).update s.heap.objs.size (Obj.mapSeq (· ++ vs.toArray))).objs.size=s.heap.objs.size+1:=by
  rw[Heap.size_update,size_push']
 have hoL:(((s.heap.push (seqObj "list" #[] 0)).update s.heap.objs.size (Obj.mapSeq (· ++ vs.toArray))).push (seqObj "list" vs.toArray 0)).get? (s.heap.objs.size+1)=some (seqObj "list" vs.toArray 0):=by
  rw[<-hsz];exact Heap.get?_push_size _ rfl
 have keep:∀b o,s.heap.get? b=some o->(((s.heap.push (seqObj "list" #[] 0)).update s.heap.objs.size (Obj.mapSeq (· ++ vs.toArray))).push (seqObj "list" vs.toArray 0)).get? b=some o:=fun b o q=>by
  have hlt:b<s.heap.objs.size:=Heap.lt_size q
  rw[Heap.get?_push_ne _ _ _ (by rw[hsz];exact Nat.ne_of_lt (Nat.lt_succ_of_lt hlt)),Heap.get?_update_ne _ _ _ _ (Nat.ne_of_lt hlt),Heap.get?_push_ne _ _ _ (Nat.ne_of_lt hlt)]
  exact q
 show wpAny _ _ _ _ _ { s with heap:=((s.heap.push (seqObj "list" #[] 0)).update s.heap.objs.size (Obj.mapSeq (· ++ vs.toArray))).push (seqObj "list" vs.toArray 0) }
 rw[hsz]
 refine wpAny_bind (wpAny_holding (wpAny_call_entry slot_list_sort ⟨_,hoL,rfl⟩ entry_list_sort (list_sort (O:=O) (key:=key) (κ:=κ) hoL h64 (fun h2=>ask h2 _ _ (fun b o e=>Nat.ne_of_lt (Nat.lt_succ_of_lt (Heap.lt_size e))) keep) fun out hp=>⟨_,rfl,?_⟩) (args_list_sort _)))
 refine wpAny_pure ⟨_,rfl,?_⟩
 obtain⟨c,hc⟩:=sortedAll_at s.heap vs (out.map fun i=>vs.getD i Value.none).toArray
 exact h _ _ out c hp (Nat.le_succ _) (fun b o e=>sortedAll_old e) hc
end
end SortT
namespace DRaw
open PySem PySem.W PySem.Calls PyProof.Rows
def At (h:Heap)(d:Addr)(es:Array DictEntry)(ep:Nat):Prop:=∃o,h.get? d=some o/\o.ExactDict/\o.data = .dict es ep
theorem At.keep {h h':Heap}{d:Addr}{es:Array DictEntry}{ep:Nat}(x:At h d es ep)(k:∀o,h.get? d=some o->h'.get? d=some o):At h' d es ep:=
 let ⟨o,ho,r⟩:=x;⟨o,k o ho,r⟩
theorem At.lt {h:Heap}{d:Addr}{es:Array DictEntry}{ep:Nat}(x:At h d es ep):d<h.objs.size:=let ⟨_,ho,_⟩:=x;Heap.lt_size ho
theorem At.typeIs {s:Shared}{d:Addr}{es:Array DictEntry}{ep:Nat}(x:At s.heap d es ep):s.TypeIs (.ref d) "dict" := let ⟨o,ho,hc,_⟩:=x;⟨o,ho,hc.1⟩
section
variable {prog:Program}{w:World}{A:Around}{E:Value->Shared->Prop}{s:Shared}{it d:Addr}{es:Array DictEntry}{i ep:Nat}
theorem iter {Q:Value->Shared->Prop}(hd:(d==sysModules)=false)(hm:At s.heap d es ep)
 (hQ:Q (.ref s.heap.objs.size) { s with heap:=s.heap.push { cls:=.type "dict_keyiterator",data:=.fields #[.ref d,.int 0 0,.int es.size 0,.int ep 0] } }) :
 wpAny (model prog w) A (pyIter (.ref d)) Q E s:=by
 obtain⟨o,ho,hc,hdat⟩:=id hm
 have hT:=hm.typeIs
 refine wpAny_pyIter_slot hT F.slot_dict_iter (wpAny_call_entry F.slot_dict_iter hT F.entry_dict_iter ?_ (F.args_dict_iter_1 _))
 unfold Builtin.«dict.__iter__»
 refine wpAny_bind ?_
 unfold Builtin.Dict.dictSlotNone
 refine wpAny_bind (wpAny_notOrdered_dict hT ?_)
 show wpAny _ _ (pure (Value.ref d)) _ _ s
 refine wpAny_pure ?_
 show wpAny _ _ (Builtin.Dict.showsAll d >>= _) _ _ s
 unfold Builtin.Dict.showsAll
 rw[if_neg (by rw[hd];exact Bool.false_ne_true)]
 refine wpAny_bind (wpAny_pure ?_)
 refine wpAny_bind (wpAny_dictEntries ho hdat ?_)
 refine wpAny_bind (wpAny_dictEpoch ho hdat ?_)
 refine wpAny_bind (wpAny_newObj_type (wpAny_pure ⟨_,rfl, "dict_keyiterator",_,⟨_,Heap.get?_push_size _ rfl,rfl⟩,F.slot_dict_keyiterator_next.lookup,?_⟩))
 simpa [rawInt] using hQ
theorem next {Q:Option Value->Shared->Prop}(hit:s.heap.IsKeyIter it d i es.size ep)(hm:At s.heap d es ep)(hlt':i<es.size)
 (hQ:∀h',h'.IsKeyIter it d (i+1) es.size ep->Heap.SameBut it s.heap h'->Q (some es[i].key) { s with heap:=h' }):wpAny (model prog w) A (pyNext (.ref it)) Q E s:=by
 obtain⟨o,ho,hc,hd⟩:=id hit
 obtain⟨od,hod,hcd,hdd⟩:=id hm
 unfold pyNext
 refine wpAny_bind (wpAny_attempt (wpAny_callSpecial?_slot (name:=Str.ofString "__next__") hit.typeIs F.slot_dict_keyiterator_next
  (wpAny_call_entry F.slot_dict_keyiterator_next hit.typeIs F.entry_dict_keyiterator_next ?_ (F.args_dict_keyiterator_next_1 _))))
 refine wpAny_bind (wpAny_pure ?_)
 refine wpAny_bind ?_
 refine wpAny_bind ?_
 first | refine wpAny_bind (wpAny_typeNameOfWhole_keyiter hit.typeIs (wpAny_pure ?_)) | refine wpAny_bind (wpAny_typeNameOf_keyiter hit.typeIs (wpAny_pure ?_))
 refine wpAny_bind (wpAny_fieldsOf ho hd ?_)
 have hown:Builtin.Dict_items.ownsTuple "dict_keyiterator" = false:=by decide
 simp only[hown,Bool.false_eq_true,if_false]
 show wpAny _ _ (if (Value.ref d==Value.none)=true then _ else _) _ _ s
 rw[if_neg (show ¬ ((Value.ref d==Value.none)=true) from Bool.false_ne_true)]
 refine wpAny_bind (wpAny_pure ?_)
 refine wpAny_bind (wpAny_dictEntries hod hdd ?_)
 rw[if_neg (by simp)]
 refine wpAny_bind (wpAny_pure ?_)
 refine wpAny_bind (wpAny_dictEpoch hod hdd ?_)
 rw[if_neg (by simp)]
 refine wpAny_pure ?_
 simp only[show ¬ ((i:Int)<0) from by omega,if_false,Int.toNat_natCast,Array.getElem?_eq_getElem hlt']
 refine wpAny_bind ?_
 first | refine wpAny_bind (wpAny_typeNameOfWhole_keyiter hit.typeIs (wpAny_pure ?_)) | refine wpAny_bind (wpAny_typeNameOf_keyiter hit.typeIs (wpAny_pure ?_))
 refine wpAny_bind (wpAny_isOneOf_keyiter hit.typeIs ?_)
 show wpAny _ _ (setField (.ref it) 1 (rawInt ((i:Int)+1)) >>= _) _ _ s
 refine wpAny_bind (wpAny_setField ho hd (by simp) ?_)
 have hit':(s.heap.update it (Obj.mapFields (·.setIfInBounds 1 (rawInt ((i:Int)+1))))).IsKeyIter it d (i+1) es.size ep:=
  ⟨_,Heap.get?_update_self _ ho (Obj.isFreed_of_fields (Obj.data_mapFields hd _)),(Obj.cls_mapFields ..).trans hc,by rw[Obj.data_mapFields hd];simp[rawInt]⟩
 refine wpAny_bind (wpAny_holding ?_)
 refine wpAny_bind (wpAny_isOneOf_keyiter (s:={ s with heap:=s.heap.update it (Obj.mapFields (·.setIfInBounds 1 (rawInt ((i:Int)+1)))) }) hit'.typeIs ?_)
 show wpAny _ _ (pure es[i].key) _ _ _
 exact wpAny_pure (wpAny_pure ⟨_,rfl,wpAny_pure (hQ _ hit' (Heap.SameBut.update ..))⟩)
theorem stop {Q:Option Value->Shared->Prop}(hh:A.handled=none)(hit:s.heap.IsKeyIter it d i es.size ep)(hm:At s.heap d es ep)(hge:es.size<=i)
 (hQ:∀h',Heap.ExtBut it s.heap h'->Q none { s with heap:=h' }):wpAny (model prog w) A (pyNext (.ref it)) Q E s:=by
 obtain⟨o,ho,hc,hd⟩:=id hit
 obtain⟨od,hod,hcd,hdd⟩:=id hm
 unfold pyNext
 refine wpAny_bind (wpAny_attempt (wpAny_callSpecial?_slot (name:=Str.ofString "__next__") hit.typeIs F.slot_dict_keyiterator_next
  (wpAny_call_entry F.slot_dict_keyiterator_next hit.typeIs F.entry_dict_keyiterator_next ?_ (F.args_dict_keyiterator_next_1 _))))
 refine wpAny_bind (wpAny_pure ?_)
 refine wpAny_bind ?_
 refine wpAny_bind ?_
 first | refine wpAny_bind (wpAny_typeNameOfWhole_keyiter hit.typeIs (wpAny_pure ?_)) | refine wpAny_bind (wpAny_typeNameOf_keyiter hit.typeIs (wpAny_pure ?_))
 refine wpAny_bind (wpAny_fieldsOf ho hd ?_)
 have hown:Builtin.Dict_items.ownsTuple "dict_keyiterator" = false:=by decide
 simp only[hown,Bool.false_eq_true,if_false]
 show wpAny _ _ (if (Value.ref d==Value.none)=true then _ else _) _ _ s
 rw[if_neg (show ¬ ((Value.ref d==Value.none)=true) from Bool.false_ne_true)]
 refine wpAny_bind (wpAny_pure ?_)
 refine wpAny_bind (wpAny_dictEntries hod hdd ?_)
 rw[if_neg (by simp)]
 refine wpAny_bind (wpAny_pure ?_)
 refine wpAny_bind (wpAny_dictEpoch hod hdd ?_)
 rw[if_neg (by simp)]
 refine wpAny_pure ?_
 simp only[show ¬ ((i:Int)<0) from by omega,if_false,Int.toNat_natCast,Array.getElem?_eq_none hge]
 refine wpAny_bind ?_
 first | refine wpAny_bind (wpAny_typeNameOfWhole_keyiter hit.typeIs (wpAny_pure ?_)) | refine wpAny_bind (wpAny_typeNameOf_keyiter hit.typeIs (wpAny_pure ?_))
 show wpAny _ _ (setField (.ref it) 0 .none >>= _) _ _ s
 refine wpAny_bind (wpAny_setField ho hd (by simp) ?_)
 show wpAny _ _ (newExc (.type "StopIteration") [] >>= _) _ _ _
 refine wpAny_bind ?_
 simp only[newExc,newTuple]
 refine wpAny_bind (wpAny_newObj_type ?_ (by size_fits))
 refine wpAny_bind (m:=firstArgMember _ _) (wpAny_of_eq (a:=Value.none) (by first | rfl | (simp only[firstArgMember];rfl)) ?_)
 refine wpAny_newObj_type ?_ (by size_fits)
 simp only[raiseNew]
 refine wpAny_bind (wpAny_handled ?_)
 rw[show A.in1.handled=none from hh]
 refine wpAny_bind (wpAny_pure (wpAny_throw ?_))
 refine wpAny_bind (wpAny_isInstance (T := "StopIteration") (b:=true) ⟨_,Heap.get?_push_size _ rfl,rfl⟩ isSubtype_stop ?_)
 exact wpAny_pure (hQ _ (((Heap.SameBut.update ..).extBut.push _).push _))
end
section
variable {prog:Program}{w:World}{A:Around}{d:Addr}{es:Array DictEntry}{ep:Nat}
theorem walks (hh:A.handled=none)(I:Addr)(hne:d≠I):Walks prog w A I [I,d] [I] es.size (fun i v=>∃e,es[i]? = some e/\v=e.key) (fun i h=>h.IsKeyIter I d i es.size ep/\At h d es ep) where
 sub:=fun b hb=>by simp at hb;simp[hb]
 frame:=fun _ _ _ st hk=>⟨st.1.at fun o e=>hk I (by simp) o e,st.2.keep fun o e=>hk d (by simp) o e⟩
 item:=fun i s Q E hi st hQ=>next st.1 st.2 hi fun h' hit' hs'=>
  hQ _ h' s.toks ⟨es[i],by simp[hi],rfl⟩ ⟨hit',st.2.keep fun o e=>hs'.extBut d o hne e⟩ fun b o hb e=>hs'.extBut b o (fun h=>hb (by simp[h])) e
 done:=fun s Q E st hQ=>stop hh st.1 st.2 (Nat.le_refl _) fun h' he'=>hQ h' s.toks fun b o hb e=>he' b o (fun h=>hb (by simp[h])) e
 self:=fun _ _ _ _ st hQ=>wpAny_pyIter_keyiter st.1 hQ
theorem src (lo:(d==sysModules)=false):KdlSrc prog w "dict" d d es.size (fun i v=>∃e,es[i]? = some e/\v=e.key) (fun h=>At h d es ep) where
 type:=fun _ hm=>hm.typeIs
 there:=fun _ hm=>⟨hm.lt,hm.lt⟩
 keep:=fun _ _ hm hk=>hm.keep fun o e=>hk d (.inl rfl) o e
 notList:=by decide
 notTuple:=by decide
 hint:=fun _ _ _ _ hm hq=>kdl_hint_dict hm.typeIs hq
 iter:=fun _ _ hh hm=>⟨_,_,(fun _ _ hq=>iter lo hm hq),walks hh _ (Nat.ne_of_lt hm.lt),⟨⟨_,Heap.get?_push_size _ rfl,rfl,rfl⟩,hm.keep fun o e=>Heap.get?_push_of_some _ e⟩⟩
end
end DRaw
namespace SortT
open PySem PySem.W PySem.Calls PyProof.Rows
theorem sorted_dict {prog:Program}{w:World}{A:Around}{E:Value->Shared->Prop}{s:Shared}{d:Addr}{es:Array DictEntry}{ep:Nat}{vs:List Value}{Q:Value->Shared->Prop}{O:KeyOrd}{key:Nat->O.α}{κ:SortKind}
 (hh:A.handled=none)(lo:(d==sysModules)=false)(hm:DRaw.At s.heap d es ep)(hvs:vs=es.toList.map (·.key))(h64:vs.length<64)
 (ask:2<=vs.length->∀(s':Shared)(a:Addr),(∀b o,s.heap.get? b=some o->b≠a)->(∀b o,s.heap.get? b=some o->s'.heap.get? b=some o)->Asks prog w A.in1.in1 s' a vs key κ)
 (h:∀(h1:Heap)(D:Addr)(h':Heap)(t':Nat)(out:List Nat)(c:Nat),Put key vs.length out->(∀b o,s.heap.get? b=some o->h1.get? b=some o)->h1.objs.size<=D->(∀b o,h1.get? b=some o->h'.get? b=some o) ->
  h'.get? D=some (seqObj "list" (out.map fun i=>vs.getD i Value.none).toArray c)->Q (.ref D) { s with heap:=h',toks:=t' }) :
 wpAny (model prog w) A (call (.builtin "sorted") [.ref d]) Q E s:=by
 have hlen:vs.length=es.size:=by rw[hvs];simp
 refine call_function_entry kind_sorted plain_sorted entry_sorted (args_sorted1 _) ?_
 unfold Builtin.«sorted»
 refine wpAny_bind (m:=checkCount "sorted" 1 1 _) (wpAny_pure ?_)
 refine wpAny_bind (kdu_collect (A:=A.in1) (DRaw.src (es:=es) (ep:=ep) lo) hh hm (by rw[sizeLine_eq];omega) fun h1 tk acc hk hacc=>?_)
 have el:acc.toList=vs:=by
  apply List.ext_getElem?
  intro j
  by_cases hj:j<es.size
  . have hz:j<acc.size:=by rw[hacc.1];exact hj
    obtain⟨e,he,hv⟩:=hacc.2 j acc[j] (by simp[hz])
    rw[Array.getElem?_toList,Array.getElem?_eq_getElem hz,hv,hvs,List.getElem?_map,Array.getElem?_toList,he]
    rfl
  . rw[List.getElem?_eq_none (by rw[Array.length_toList,hacc.1];omega),List.getElem?_eq_none (by omega)]
 rw[el]
 refine wpAny_bind (wpAny_newList ?_ (by rw[sizeLine_eq];omega))
 have hoL:(h1.push (seqObj "list" vs.toArray 0)).get? h1.objs.size=some (seqObj "list" vs.toArray 0):=Heap.get?_push_size _ rfl
 have keep1:∀b o,h1.get? b=some o->(h1.push (seqObj "list" vs.toArray 0)).get? b=some o:=fun b o q=>Heap.get?_push_of_some _ q
 refine wpAny_bind (wpAny_holding (wpAny_call_entry slot_list_sort ⟨_,hoL,rfl⟩ entry_list_sort (list_sort (O:=O) (key:=key) (κ:=κ) hoL h64
  (fun h2=>ask h2 _ _ (fun b o e=>Nat.ne_of_lt (Heap.lt_size (hk b o e))) fun b o e=>keep1 b o (hk b o e)) fun out hp=>⟨_,rfl,?_⟩) (args_list_sort _)))
 refine wpAny_pure ⟨_,rfl,?_⟩
 obtain⟨c,hc⟩:=sortedHeap_at (vs:=vs) (out:=(out.map fun i=>vs.getD i Value.none).toArray) hoL
 refine h h1 _ _ _ out c hp hk (Nat.le_refl _) (fun b o e=>?_) hc
 have hb:b<h1.objs.size:=Heap.lt_size e
 rw[sortedHeap_old (Nat.ne_of_lt hb) (by rw[Heap.size_push];exact Nat.lt_succ_of_lt hb)]
 exact keep1 b o e
end SortT
namespace L2
open PySem PySem.Spec PyProof.Rows
theorem lex_irrefl:∀a:List Int,HT.lexLt a a=false
 | []=>rfl
 | x::r=>by rw[HT.lexLt_cons,if_pos rfl];exact lex_irrefl r
theorem lex_trans:∀a b c:List Int,HT.lexLt a b=true->HT.lexLt b c=true->HT.lexLt a c=true
 | [],[],_,h,_=>by cases h
 | [],_::_,[],_,h=>by cases h
 | [],_::_,_::_,_,_=>rfl
 | _::_,[],_,h,_=>by cases h
 | _::_,_::_,[],_,h=>by cases h
 | x::a,y::b,z::c,h1,h2=>by
  rw[HT.lexLt_cons] at h1 h2 ⊢
  by_cases e1:x=y
  . subst e1
    rw[if_pos rfl] at h1
    by_cases e2:x=z
    . subst e2
      rw[if_pos rfl] at h2 ⊢
      exact lex_trans a b c h1 h2
    . rw[if_neg e2] at h2 ⊢;exact h2
  . rw[if_neg e1] at h1
    have l1:x<y:=of_decide_eq_true h1
    by_cases e2:y=z
    . subst e2;rw[if_neg e1];exact h1
    . rw[if_neg e2] at h2
      have l2:y<z:=of_decide_eq_true h2
      rw[if_neg (by omega)]
      exact decide_eq_true (by omega)
theorem lex_total:∀a b:List Int,HT.lexLt a b=false->HT.lexLt b a=false->a=b
 | [],[],_,_=>rfl
 | [],_::_,h,_=>by cases h
 | _::_,[],_,h=>by cases h
 | x::a,y::b,h1,h2=>by
  rw[HT.lexLt_cons] at h1 h2
  by_cases e:x=y
  . subst e
    rw[if_pos rfl] at h1 h2
    rw[lex_total a b h1 h2]
  . rw[if_neg e] at h1
    rw[if_neg (Ne.symm e)] at h2
    have l1:=of_decide_eq_false h1
    have l2:=of_decide_eq_false h2
    omega
theorem lex_neg (a b c:List Int)(h:HT.lexLt a c=true):HT.lexLt a b=true\/HT.lexLt b c=true:=by
 cases h1:HT.lexLt a b with
 | true=>exact .inl rfl
 | false=>
  cases h2:HT.lexLt b a with
  | true=>exact .inr (lex_trans b a c h2 h)
  | false=>rw[<-lex_total a b h1 h2];exact .inr h
def lexO:KeyOrd:=⟨List Int,HT.lexLt,lex_irrefl,lex_trans,lex_neg,lex_total⟩
def Rises (ms:List (List Int)):Prop:=ms.Pairwise fun a b=>HT.lexLt b a=false
def TupsAre (H:Hp):List V->List (List Int)->Prop
 | [],[]=>True
 | x::xs,k::ks=>(∃a,x = .ref a/\H a=some (.tup (k.map V.int))/\k≠[])/\TupsAre H xs ks
 | _,_=>False
theorem TupsAre.length {H:Hp}:∀{xs:List V}{ks:List (List Int)},TupsAre H xs ks->xs.length=ks.length
 | [],[],_=>rfl
 | [],_::_,h=>h.elim
 | _::_,[],h=>h.elim
 | _::_,_::_,h=>by rw[List.length_cons,List.length_cons,TupsAre.length h.2]
theorem TupsAre.get {H:Hp}:∀{xs:List V}{ks:List (List Int)}{i:Nat}{x:V},TupsAre H xs ks->xs[i]? = some x->∃a k,x = .ref a/\ks[i]? = some k/\H a=some (.tup (k.map V.int))/\k≠[]
 | [],_,_,_,_,h=>by simp at h
 | _::_,[],_,_,h,_=>h.elim
 | y::_,k::_,0,x,h,e=>by
  obtain⟨⟨a,h1,h2,h3⟩,_⟩:=h
  have e':y=x:=by simpa using e
  subst e'
  exact⟨a,k,h1,rfl,h2,h3⟩
 | _::_,_::_,i+1,x,h,e=>by
  obtain⟨a,k,h1,h2,h3⟩:=TupsAre.get (i:=i) h.2 (by simpa using e)
  exact⟨a,k,h1,by simpa using h2,h3⟩
theorem TupsAre.mk {H:Hp}:∀{xs:List V}{ks:List (List Int)},xs.length=ks.length->(∀(i:Nat)(x:V)(k:List Int),xs[i]? = some x->ks[i]? = some k->∃a,x=V.ref a/\H a=some (.tup (k.map V.int))/\k≠[])->TupsAre H xs ks
 | [],[],_,_=>trivial
 | [],_::_,e,_=>by simp at e
 | _::_,[],e,_=>by simp at e
 | x::xs,k::ks,e,h=>⟨h 0 x k rfl rfl,TupsAre.mk (by simpa using e) fun i x' k' h1 h2=>h (i+1) x' k' (by simpa using h1) (by simpa using h2)⟩
theorem TupsAre.keep {H H':Hp}{xs:List V}{ks:List (List Int)}(h:TupsAre H xs ks)(k:∀b ys,H b=some (.tup ys)->H' b=some (.tup ys)):TupsAre H' xs ks:=
 TupsAre.mk h.length fun i x c h1 h2=>by
  obtain⟨a,c',e1,e2,e3,e4⟩:=h.get h1
  rw[h2] at e2
  cases e2
  exact⟨a,e1,k a _ e3,e4⟩
theorem TupsAre.snoc {H:Hp}:∀{xs:List V}{ks:List (List Int)}{x:V}{k:List Int},TupsAre H xs ks->(∃a,x = .ref a/\H a=some (.tup (k.map V.int))/\k≠[])->TupsAre H (xs++[x]) (ks++[k])
 | [],[],_,_,_,h=>⟨h,trivial⟩
 | [],_::_,_,_,t,_=>t.elim
 | _::_,[],_,_,t,_=>t.elim
 | _::_,_::_,_,_,t,h=>⟨t.1,TupsAre.snoc t.2 h⟩
section
variable {prog:Program}{w:World}{A:Around}{s:Shared}
theorem katLex_ints {fin:Bool}{Q:Bool->Shared->Prop}:∀(ns ms:List Int)(us ws:List Value)(i:Nat),IntsAre us ns->IntsAre ws ms->fin=decide (ns.length<ms.length)->Q (HT.lexLt ns ms) s ->
 PySem.W.KatLex prog w A true fin Q (us.zip ws) i s
 | [],[],_,_,_,.nil,.nil,e,q=>by subst e;exact q
 | [],_::_,_,_,_,.nil,.cons _ _ _,e,q=>by subst e;exact q
 | _::_,[],_,_,_,.cons _ _ _,.nil,e,q=>by subst e;exact q
 | n::ns,m::ms,_,_,i,.cons _ t hu,.cons _ u hw,e,q=>by
  rw[HT.lexLt_cons] at q
  refine PySem.W.kat_cons (wpAny_eqBool_int ?_)
  by_cases h:n=m
  . rw[if_pos h] at q
    rw[show (n==m)=true by simpa using h]
    exact PySem.W.kat_yes (katLex_ints ns ms _ _ (i+1) hu hw (by rw[e];simp) q)
  . rw[if_neg h] at q
    rw[show (n==m)=false by simpa using h]
    refine PySem.W.kat_no ?_
    cases i with
    | zero=>exact oneLt_int q
    | succ j=>exact PySem.W.kat_one _ _ (PyProof.Rows.lt_int q)
theorem asks_tups {X:Cx}{pins:List (Addr×Obj)}{σ:St}{H:Hp}{s s':Shared}{a:Addr}{ys:List V}{ks:List (List Int)}{vs:List Value}{A:Around}(I:Inv X pins σ H s)(T:TupsAre H ys ks)(r:Vals ys vs)(hne:0<vs.length)
 (fa:∀b o,s.heap.get? b=some o->b≠a)(kp:∀b o,s.heap.get? b=some o->s'.heap.get? b=some o):SortT.Asks X.prog X.w A s' a vs (O:=lexO) (fun i=>ks.getD i []) (tuples' true):=by
 have hl:=T.length
 have hv:=r.length
 have at_:∀(h':Heap),(∀b o,b≠a->s'.heap.get? b=some o->h'.get? b=some o)->∀i,i<vs.length->∃(p:Addr)(k:List Int)(us:List Value)(o:Obj)(n:Nat),vs[i]? = some (Value.ref p)/\ks[i]? = some k/\k≠[]/\IntsAre us k/\h'.get? p=some o/\o.cls = .type "tuple" /\ o.data = .seq us.toArray n:=fun h' kh i hi=>by
  have hy:i<ys.length:=by omega
  obtain⟨p,k,e1,e2,e3,e4⟩:=T.get (i:=i) (x:=ys[i]) (by simp[hy])
  obtain⟨u,hu,ru⟩:=r.get (i:=i) (x:=ys[i]) (by simp[hy])
  rw[e1] at ru
  cases (show u=Value.ref p from ru)
  obtain⟨_,its,rv,o,ho,hc,n,hd⟩:=I.hok p _ e3
  exact⟨p,k,its,o,n,hu,e2,e4,intsAre_of rv,kh p o (fa p o ho) (kp p o ho),hc,hd⟩
 refine⟨fun h' Q E kh q=>?_,fun h' i j Q E kh hi hj q=>?_⟩
 . -- all keys are tuples whose first items are ints
   have tups:∀(m:Nat),m<=vs.length->∃fs:List Value,PySem.W.KatTups h' (vs.drop (vs.length-m)) fs/\fs.length=m/\∀f∈fs,∃x t,f=Value.int x t:=by
    intro m
    induction m with
    | zero=>intro _;exact⟨[],by rw[Nat.sub_zero,List.drop_length];exact trivial,rfl,fun f hf=>by simp at hf⟩
    | succ m ih=>
     intro hm
     obtain⟨fs,t,e,hf⟩:=ih (by omega)
     obtain⟨p,k,us,o,n,hu,hk,hk0,hI,ho,hc,hd⟩:=at_ h' kh (vs.length-(m+1)) (by omega)
     have ed:vs.drop (vs.length-(m+1))=Value.ref p::vs.drop (vs.length-m):=by
      have hlt:vs.length-(m+1)<vs.length:=by omega
      rw[List.drop_eq_getElem_cons hlt,show vs.length-(m+1)+1=vs.length-m by omega]
      have:vs[vs.length-(m+1)]=Value.ref p:=by
       rw[List.getElem?_eq_getElem hlt] at hu
       exact Option.some.inj hu
      rw[this]
     cases hI with
     | nil=>exact absurd rfl hk0
     | cons x tx hI'=>
      refine⟨Value.int x tx::fs,by rw[ed];exact PySem.W.KatTups.cons ho hc hd rfl t,by rw[List.length_cons,e],fun f hf'=>?_⟩
      rcases List.mem_cons.mp hf' with rfl | hf'
      . exact⟨x,tx,rfl⟩
      . exact hf f hf'
   obtain⟨fs,t,e,hf⟩:=tups vs.length (Nat.le_refl _)
   rw[Nat.sub_self,List.drop_zero] at t
   refine PySem.W.kat_kind (T:=Value.type "int") t (by omega) (fun v hv=>?_) (by rfl) q
   obtain⟨x,tx,rfl⟩:=hf v hv
   exact PySem.W.Looks.of_pure rfl
 . obtain⟨p,k,us,o,n,hu,hk,_,hI,ho,hc,hd⟩:=at_ h' kh i hi
   obtain⟨p2,k2,us2,o2,n2,hu2,hk2,_,hI2,ho2,hc2,hd2⟩:=at_ h' kh j hj
   have e1:vs.getD i Value.none = .ref p:=by rw[List.getD_eq_getElem?_getD,hu];rfl
   have e2:vs.getD j Value.none = .ref p2:=by rw[List.getD_eq_getElem?_getD,hu2];rfl
   have g1:ks.getD i []=k:=by rw[List.getD_eq_getElem?_getD,hk];rfl
   have g2:ks.getD j []=k2:=by rw[List.getD_eq_getElem?_getD,hk2];rfl
   rw[e1,e2]
   refine PySem.W.kat_lt (s:={ s' with heap:=h' }) ho hd ho2 hd2 ?_
   have q':Q (HT.lexLt k k2) { s' with heap:=h' }:=by
    have:lexO.blt (ks.getD i []) (ks.getD j [])=HT.lexLt k k2:=by rw[g1,g2];rfl
    rw[<-this];exact q
   have l1:=hI.length
   have l2:=hI2.length
   exact katLex_ints k k2 us us2 0 hI hI2 (by simp only[List.size_toArray];rw[l1,l2]) q'
theorem put_tups {H:Hp}{ys:List V}{ks:List (List Int)}{vs:List Value}{out:List Nat}(T:TupsAre H ys ks)(r:Vals ys vs)(p:SortT.Put (O:=lexO) (fun i=>ks.getD i []) vs.length out) :
 ∃zs ms,TupsAre H zs ms/\ms.Perm ks/\Rises ms/\Vals zs (out.map fun i=>vs.getD i Value.none)/\zs.length=ys.length:=by
 have hl:=T.length
 have hv:=r.length
 have hb:∀i∈out,i<vs.length:=fun i hi=>List.mem_range.mp (p.perm.mem_iff.mp hi)
 refine⟨out.map fun i=>ys.getD i .non,out.map fun i=>ks.getD i [],TupsAre.mk (by rw[List.length_map,List.length_map]) fun j x k hx hk=>?_,?_,?_,?_,?_⟩
 . rw[List.getElem?_map] at hx hk
   cases e:out[j]? with
   | none=>rw[e] at hx;cases hx
   | some i=>
    rw[e] at hx hk
    have hi:=hb i (List.mem_of_getElem? e)
    have hy:i<ys.length:=by omega
    obtain⟨a,c,e1,e2,e3,e4⟩:=T.get (i:=i) (x:=ys[i]) (by simp[hy])
    have ex:ys.getD i .non=x:=Option.some.inj hx
    have ek:ks.getD i []=k:=Option.some.inj hk
    rw[List.getD_eq_getElem?_getD,List.getElem?_eq_getElem hy] at ex
    rw[List.getD_eq_getElem?_getD,e2] at ek
    have ex':ys[i]=x:=ex
    have ek':c=k:=ek
    subst ek'
    exact⟨a,by rw[<-ex'];exact e1,e3,e4⟩
 . have h1:=p.perm.map fun i=>ks.getD i []
   have h2:(List.range vs.length).map (fun i=>ks.getD i [])=ks:=by
    rw[show vs.length=ks.length by omega]
    apply List.ext_getElem?
    intro j
    rw[List.getElem?_map]
    by_cases hj:j<ks.length
    . rw[List.getElem?_range hj,List.getElem?_eq_getElem hj];simp[hj]
    . rw[List.getElem?_eq_none (by rw[List.length_range];omega),List.getElem?_eq_none (by omega)];rfl
   rw[h2] at h1
   exact h1
 . refine List.pairwise_iff_getElem.mpr fun i j hi hj hij=>?_
   rw[List.length_map] at hi hj
   have:=p.rise i j out[i] out[j] (Nat.le_of_lt hij) (by simp) (by simp)
   have h3:HT.lexLt (ks.getD out[j] []) (ks.getD out[i] [])=false:=this
   simpa using h3
 . have:∀l:List Nat,(∀i∈l,i<vs.length)->Vals (l.map fun i=>ys.getD i .non) (l.map fun i=>vs.getD i Value.none):=by
    intro l
    induction l with
    | nil=>intro _;exact .nil
    | cons i l ih=>
     intro h
     have hi:=h i List.mem_cons_self
     have hy:i<ys.length:=by omega
     obtain⟨u,hu,ru⟩:=r.get (i:=i) (x:=ys[i]) (by simp[hy])
     refine .cons ?_ (ih fun j hj=>h j (List.mem_cons_of_mem _ hj))
     show RelV (ys.getD i V.non) (vs.getD i Value.none)
     rw[List.getD_eq_getElem?_getD,List.getElem?_eq_getElem hy,List.getD_eq_getElem?_getD,hu]
     exact ru
   exact this out hb
 . rw[List.length_map,p.perm.length_eq,List.length_range];omega
theorem sorted_fin {X:Cx}{pins:List (Addr×Obj)}{σ:St}{H:Hp}{s:Shared}{h':Heap}{D:Addr}{c t':Nat}{zs:List V}{us:List Value}(I:Inv X pins σ H s)(hD:s.heap.objs.size<=D)(kp:∀b o,s.heap.get? b=some o->h'.get? b=some o)
 (ho:h'.get? D=some (seqObj "list" us.toArray c)) (r:Vals zs us)(hz:zs.length<=sizeLine):Inv X pins σ (upd H D (.lst zs)) { s with heap:=h',toks:=t' }:=
 I.laid kp hD (show ObjOk X.prog X.w _ _ _ (.lst zs) from ⟨hz,us,c,r,ho⟩)
end
section
variable {X:Cx}
theorem call_sorted:CallR X (.builtin "sorted") (fun xs H Q=>∃p ys ks,xs=[.ref p]/\SqL X.K H p ys/\TupsAre H ys ks/\ks.length<64 /\
 ∀l zs ms,H l=none->TupsAre H zs ms->ms.Perm ks->Rises ms->Q (.ref l) (upd H l (.lst zs))):=by
 intro pins s σ H xs us Q I r h
 obtain⟨p,ys,ks,rfl,hq,T,h64,q⟩:=h
 obtain⟨u,rfl,rx⟩:=vals1 r
 cases rx
 obtain⟨its,r',pl,hz⟩:=I.list hq
 have hl:=T.length
 have hv:=r'.length
 refine SortT.sorted_list (O:=lexO) (key:=fun i=>ks.getD i []) (κ:=tuples' true) pl.isList (by omega) (fun h2 s' a fa kp=>asks_tups I T r' (by omega) fa kp) fun D h' out c pt hD kp ho=>?_
 obtain⟨zs,ms,T2,hp,hr,rz,hlz⟩:=put_tups T r' pt
 exact⟨.ref D,_,sorted_fin (t':=s.toks) I hD kp ho rz (by omega),rfl,q D zs ms (I.hok.fresh hD) T2 hp hr⟩
end
end L2
namespace L2
open PySem PySem.Spec PyProof.Rows
mutual
inductive Shows (H:Hp):V->PyData->Prop
 | non:Shows H .non .none
 | bl (b:Bool):Shows H (.bl b) (.bool b)
 | int (i:Int):Shows H (.int i) (.int i)
 | str (x:Str):Shows H (.str x) (.str x)
 | tup {a:Addr}{xs:List V}{ds:List PyData}:H a=some (.tup xs)->ShowsAll H xs ds->Shows H (.ref a) (.tuple ds)
 | lst {a:Addr}{xs:List V}{ds:List PyData}:H a=some (.lst xs)->ShowsAll H xs ds->Shows H (.ref a) (.list ds)
inductive ShowsAll (H:Hp):List V->List PyData->Prop
 | nil:ShowsAll H [] []
 | cons {x:V}{xs:List V}{d:PyData}{ds:List PyData}:Shows H x d->ShowsAll H xs ds->ShowsAll H (x::xs) (d::ds)
end
section
variable {P:Program}{w:World}{H:Hp}{h:Heap}
mutual
theorem Shows.reads (ok:HOk P w H h):∀{x:V}{d:PyData},Shows H x d->∀{u:Value},RelV x u->∃as,Reads h u d as
 | _,_,.non,u,r=>by cases (show u=Value.none from r);exact⟨_,.none⟩
 | _,_,.bl b,u,r=>by cases (show u=Value.bool b from r);exact⟨_,.bool b⟩
 | _,_,.int i,u,r=>by obtain⟨t,rfl⟩:=r;exact⟨_,.int i t⟩
 | _,_,.str x,u,r=>by obtain⟨t,rfl⟩:=r;exact⟨_,.str x t⟩
 | _,_,.tup (a:=a) e s,u,r=>by
  cases (show u=Value.ref a from r)
  obtain⟨_,its,rv,o,ho,hc,n,hd⟩:=ok a _ e
  obtain⟨as,ra⟩:=ShowsAll.reads ok s rv
  exact⟨_,.tuple ho hc hd (by simpa using ra)⟩
 | _,_,.lst (a:=a) e s,u,r=>by
  cases (show u=Value.ref a from r)
  obtain⟨_,its,n,rv,ho⟩:=ok a _ e
  obtain⟨as,ra⟩:=ShowsAll.reads ok s rv
  exact⟨_,.list ho rfl rfl (by simpa using ra)⟩
theorem ShowsAll.reads (ok:HOk P w H h):∀{xs:List V}{ds:List PyData},ShowsAll H xs ds->∀{us:List Value},Vals xs us->∃as,ReadsAll h us ds as
 | _,_,.nil,us,r=>by cases r;exact⟨_,.nil⟩
 | _,_,.cons s t,us,r=>by
  cases r with
  | cons r1 r2=>
   obtain⟨a1,h1⟩:=Shows.reads ok s r1
   obtain⟨a2,h2⟩:=ShowsAll.reads ok t r2
   exact⟨_,.cons h1 h2⟩
end
end
section
variable {X:Cx}
end
end L2
namespace L2
open PySem PySem.Spec PyProof.Rows
section
variable {X:Cx}{es xs:List Expr}{t t1:TA}
theorem pa_int {i j pos} (hr:PA X es t):PA X (.Constant (.int i) j pos::es) (tCons (tC (.int i)) t):=pa_cons pe_int hr (by rfl)
theorem pa_lst {pos} (h:PA X xs t1)(hr:PA X es t):PA X (.List xs pos::es) (tCons (tLst t1) t):=pa_cons (pe_lst h) hr (by rfl)
end
inductive LitInts:List Expr->List Int->Prop where
 | nil:LitInts [] []
 | cons {i:Int}{j:Nat}{pos:Pos}{es:List Expr}{ns:List Int}:LitInts es ns->LitInts (.Constant (.int i) j pos::es) (i::ns)
theorem pa_lits {X:Cx}{es:List Expr}{ns:List Int}(h:LitInts es ns):PA X es (fun _ H Q=>Q (ns.map V.int) H):=by
 induction h with
 | nil=>exact pa_nil
 | cons _ ih=>
  intro pos pins s σ H Q I q
  exact (pa_int ih) pos pins s σ H Q I q
inductive LitIntss:List Expr->List (List Int)->Prop where
 | nil:LitIntss [] []
 | cons {xs:List Expr}{ns:List Int}{pos:Pos}{es:List Expr}{nss:List (List Int)}:LitInts xs ns->ns.length<=sizeLine->LitIntss es nss->LitIntss (.List xs pos::es) (ns::nss)
def tLitss:List (List Int)->TA
 | []=>tNil
 | ns::r=>fun σ H Q=>∀p,H p=none->tLitss r σ (upd H p (.lst (ns.map V.int))) fun xs H2=>Q (.ref p::xs) H2
theorem pa_litss {X:Cx}{es:List Expr}{nss:List (List Int)}(h:LitIntss es nss):PA X es (tLitss nss):=by
 induction h with
 | nil=>exact pa_nil
 | cons hx hl _ ih=>
  intro pos pins s σ H Q I q
  exact (pa_lst (pa_lits hx) ih) pos pins s σ H Q I ⟨by rw[List.length_map];exact hl,fun p hp=>q p hp⟩
end L2
namespace WM
theorem nd_sub {α:Type} [DecidableEq α]:∀{l₁ l₂:List α},l₁.Nodup->(∀x∈l₁,x∈l₂)->l₁.length<=l₂.length
 | [],_,_,_=>Nat.zero_le _
 | x::r,l₂,h,s=>by
  obtain⟨h1,h2⟩:=List.nodup_cons.mp h
  have hx:x∈l₂:=s x List.mem_cons_self
  have ih:=nd_sub (l₁:=r) (l₂:=l₂.erase x) h2 fun y hy=>by
   have hne:y≠x:=fun e=>h1 (e ▸ hy)
   exact (List.mem_erase_of_ne hne).mpr (s y (List.mem_cons_of_mem _ hy))
  rw[List.length_erase_of_mem hx] at ih
  have:0<l₂.length:=List.length_pos_of_mem hx
  rw[List.length_cons]
  omega
def lowTo (n:Nat):List Int:=(List.range n).map fun (i:Nat)=>(i:Int)
theorem mem_ints {n:Nat}{x:Int}:x∈lowTo n↔0<=x/\x<n:=by
 unfold lowTo
 rw[List.mem_map]
 constructor
 . rintro ⟨i,hi,rfl⟩
   have:=List.mem_range.mp hi
   omega
 . rintro ⟨h0,h1⟩
   exact⟨x.toNat,List.mem_range.mpr (by omega),by omega⟩
theorem nd_len {n:Nat}{l:List Int}(h:l.Nodup)(hb:∀x∈l,0<=x/\x<n):l.length<=n:=by
 have:=nd_sub h (l₂:=lowTo n) fun x hx=>mem_ints.mpr (hb x hx)
 simpa [lowTo] using this
theorem ints_rise (n:Nat):(lowTo n).Pairwise (· < ·):=by
 unfold lowTo
 rw[List.pairwise_map]
 exact List.pairwise_lt_range.imp fun h=>by omega
abbrev T3:=Int×Int×Int
def tl (t:T3):List Int:=[t.1,t.2.1,t.2.2]
structure GW (n:Int)(ts:List T3):Prop where
 n1:1<=n
 n24:n<=24
 len:ts.length<64
 rng:∀t∈ts,0<=t.1/\t.1<t.2.1/\t.2.1<n/\1<=t.2.2/\t.2.2<=99
 dis:ts.Pairwise fun s t=>¬ (s.1=t.1/\s.2.1=t.2.1)
def Adj (ts:List T3)(x y l:Int):Prop:=(x,y,l)∈ts\/(y,x,l)∈ts
theorem Adj.symm {ts:List T3}{x y l:Int}(h:Adj ts x y l):Adj ts y x l:=h.elim .inr .inl
theorem GW.uniq {n:Int}{ts:List T3}(g:GW n ts){x y l l':Int}(h:Adj ts x y l)(h':Adj ts x y l'):l=l':=by
 have key:∀{ts:List T3},ts.Pairwise (fun s t=>¬ (s.1=t.1/\s.2.1=t.2.1))->∀{a b l l':Int},(a,b,l)∈ts->(a,b,l')∈ts->l=l':=by
  intro ts
  induction ts with
  | nil=>intro _ a b l l' h;simp at h
  | cons t r ih=>
   intro hp a b l l' h h'
   obtain⟨q,hr⟩:=List.pairwise_cons.mp hp
   rcases List.mem_cons.mp h with e | e
   . rcases List.mem_cons.mp h' with e' | e'
     . rw[<-e] at e';injection e' with _ e2;injection e2 with _ e3;exact e3.symm
     . exact absurd (by rw[<-e];exact⟨rfl,rfl⟩) (q _ e')
   . rcases List.mem_cons.mp h' with e' | e'
     . exact absurd (by rw[<-e'];exact⟨rfl,rfl⟩) (q _ e)
     . exact ih hr e e'
 rcases h with h | h <;> rcases h' with h' | h'
 . exact key g.dis h h'
 . have:=g.rng _ h;have:=g.rng _ h';simp only at *;omega
 . have:=g.rng _ h;have:=g.rng _ h';simp only at *;omega
 . exact key g.dis h h'
theorem GW.adj {n:Int}{ts:List T3}(g:GW n ts){x y l:Int}(h:Adj ts x y l):0<=x/\x<n/\0<=y/\y<n/\x≠y/\1<=l/\l<=99:=by
 rcases h with h | h <;> (have:=g.rng _ h;simp only at *;omega)
def fd (p:Int):List T3->List (List Int)
 | []=>[]
 | t::r=>(if t.1=p then [[t.2.1,t.2.2]] else [])++(if t.2.1=p then [[t.1,t.2.2]] else [])++fd p r
theorem fd_append (p:Int):∀a b:List T3,fd p (a++b)=fd p a++fd p b
 | [],b=>rfl
 | t::r,b=>by show _++_++fd p (r++b)=_;rw[fd_append p r b];simp[fd,List.append_assoc]
theorem mem_fd {p:Int}{k:List Int}:∀{ts:List T3},k∈fd p ts↔∃y l,k=[y,l]/\Adj ts p y l
 | []=>by simp[fd,Adj]
 | (a,b,c)::r=>by
  have ih:=mem_fd (p:=p) (k:=k) (ts:=r)
  show k∈_++_++fd p r↔_
  rw[List.mem_append,List.mem_append,ih]
  simp only
  constructor
  . rintro ((h | h) | ⟨y,l,e,h⟩)
    . split at h
      . rename_i e;simp at h;subst e;exact⟨b,c,h,.inl List.mem_cons_self⟩
      . simp at h
    . split at h
      . rename_i e;simp at h;subst e;exact⟨a,c,h,.inr List.mem_cons_self⟩
      . simp at h
    . exact⟨y,l,e,h.elim (fun z=>.inl (List.mem_cons_of_mem _ z)) fun z=>.inr (List.mem_cons_of_mem _ z)⟩
  . rintro ⟨y,l,e,h⟩
    rcases h with h | h
    . rcases List.mem_cons.mp h with q | q
      . injection q with q1 q2;injection q2 with q2 q3;subst q1 q2 q3
        exact .inl (.inl (by simp[e]))
      . exact .inr ⟨y,l,e,.inl q⟩
    . rcases List.mem_cons.mp h with q | q
      . injection q with q1 q2;injection q2 with q2 q3;subst q1 q2 q3
        exact .inl (.inr (by simp[e]))
      . exact .inr ⟨y,l,e,.inr q⟩
theorem fd_len {n:Int}(p:Int):∀{ts:List T3},(∀t∈ts,t.1<t.2.1)->(fd p ts).length<=ts.length
 | [],_=>Nat.le_refl _
 | t::r,h=>by
  have ih:=fd_len (n:=n) p (ts:=r) fun t ht=>h t (List.mem_cons_of_mem _ ht)
  have h0:=h t List.mem_cons_self
  show (_++_++fd p r).length<=_
  rw[List.length_append,List.length_append,List.length_cons]
  have:(if t.1=p then [[t.2.1,t.2.2]] else ([]:List (List Int))).length+(if t.2.1=p then [[t.1,t.2.2]] else ([]:List (List Int))).length<=1:=by
   split <;> split <;> simp <;> omega
  omega
def hd (k:List Int):Int:=k.getD 0 0
theorem fd_heads {n:Int}{ts:List T3}(g:GW n ts)(p:Int):((fd p ts).map hd).Nodup:=by
 have key:∀(ts:List T3),(∀t∈ts,t.1<t.2.1)->ts.Pairwise (fun s t=>¬ (s.1=t.1/\s.2.1=t.2.1))->((fd p ts).map hd).Nodup:=by
  intro ts
  induction ts with
  | nil=>intro _ _;exact List.nodup_nil
  | cons t r ih=>
   intro hlt hp
   obtain⟨q,hr⟩:=List.pairwise_cons.mp hp
   have h0:=hlt t List.mem_cons_self
   have hr':∀t∈r,t.1<t.2.1:=fun t ht=>hlt t (List.mem_cons_of_mem _ ht)
   have ih':=ih hr' hr
   have no:∀y c,(∀l,Adj r p y l->False)->([y,c]:List Int)=[y,c]->¬ y∈(fd p r).map hd:=by
    intro y c hn _ hm
    obtain⟨k,hk,e⟩:=List.mem_map.mp hm
    obtain⟨y',l,ek,ha⟩:=mem_fd.mp hk
    subst ek
    have:y'=y:=e
    subst this
    exact hn l ha
   show ((_++_++fd p r).map hd).Nodup
   by_cases h1:t.1=p
   . have h2:¬ t.2.1=p:=by omega
     rw[if_pos h1,if_neg h2]
     show (t.2.1::(fd p r).map hd).Nodup
     refine List.nodup_cons.mpr ⟨no _ t.2.2 (fun l ha=>?_) rfl,ih'⟩
     rcases ha with ha | ha
     . exact q _ ha ⟨h1,rfl⟩
     . have:=hr' _ ha;simp only at this;omega
   . by_cases h2:t.2.1=p
     . rw[if_neg h1,if_pos h2]
       show (t.1::(fd p r).map hd).Nodup
       refine List.nodup_cons.mpr ⟨no _ t.2.2 (fun l ha=>?_) rfl,ih'⟩
       rcases ha with ha | ha
       . have:=hr' _ ha;simp only at this;omega
       . exact q _ ha ⟨rfl,h2⟩
     . rw[if_neg h1,if_neg h2]
       exact ih'
 exact key ts (fun t ht=>(g.rng t ht).2.1) g.dis
end WM
namespace WM
inductive Way (ts:List T3):Int->Int->Int->Prop where
 | nil (x:Int):Way ts x x 0
 | cons {x z y l d:Int}:Adj ts x z l->Way ts z y d->Way ts x y (l+d)
theorem Way.nn {n:Int}{ts:List T3}(g:GW n ts){x y d:Int}(h:Way ts x y d):0<=d:=by
 induction h with
 | nil=>exact Int.le_refl _
 | cons ha _ ih=>have:=g.adj ha;omega
theorem Way.one {ts:List T3}{x y l:Int}(h:Adj ts x y l):Way ts x y l:=by
 have:=Way.cons h (.nil y)
 rwa [Int.add_zero] at this
theorem Way.trans {ts:List T3}{x y z d e:Int}(h:Way ts x y d)(h':Way ts y z e):Way ts x z (d+e):=by
 induction h with
 | nil=>rw[Int.zero_add];exact h'
 | cons ha _ ih=>rw[Int.add_assoc];exact .cons ha (ih h')
theorem Way.symm {ts:List T3}{x y d:Int}(h:Way ts x y d):Way ts y x d:=by
 induction h with
 | nil=>exact .nil _
 | cons ha _ ih=>have:=ih.trans (.one ha.symm);rwa [Int.add_comm] at this
theorem Way.snoc {ts:List T3}{x y z d l:Int}(h:Way ts x y d)(ha:Adj ts y z l):Way ts x z (d+l):=h.trans (.one ha)
def IsD (ts:List T3)(x y d:Int):Prop:=Way ts x y d/\∀e,Way ts x y e->d<=e
def Len (ts:List T3)(x y:Int):Option Int->Prop
 | some d=>IsD ts x y d
 | none=>∀d,¬ Way ts x y d
theorem IsD.uniq {ts:List T3}{x y d e:Int}(h:IsD ts x y d)(h':IsD ts x y e):d=e:=Int.le_antisymm (h.2 _ h'.1) (h'.2 _ h.1)
theorem Len.uniq {ts:List T3}{x y:Int}{o o':Option Int}(h:Len ts x y o)(h':Len ts x y o'):o=o':=by
 cases o with
 | none=>
  cases o' with
  | none=>rfl
  | some e=>exact absurd h'.1 (h e)
 | some d=>
  cases o' with
  | none=>exact absurd h.1 (h' d)
  | some e=>exact congrArg some (IsD.uniq h h')
theorem IsD.symm {ts:List T3}{x y d:Int}(h:IsD ts x y d):IsD ts y x d:=⟨h.1.symm,fun e he=>h.2 e he.symm⟩
theorem Len.symm {ts:List T3}{x y:Int}{o:Option Int}(h:Len ts x y o):Len ts y x o:=by
 cases o with
 | none=>exact fun d hd=>h d hd.symm
 | some d=>exact IsD.symm h
theorem isD_self {n:Int}{ts:List T3}(g:GW n ts)(x:Int):IsD ts x x 0:=⟨.nil x,fun _ h=>h.nn g⟩
structure Dj (ts:List T3)(s:Int)(kn wt:Int->Option Int):Prop where
 kd:∀p d,kn p=some d->IsD ts s p d
 wk:∀p d,wt p=some d->kn p=none/\Way ts s p d
 ord:∀p d q e,kn p=some d->wt q=some e->d<=e
 nb:∀p d q l,kn p=some d->Adj ts p q l->(∃e,kn q=some e)\/∃e,wt q=some e/\e<=d+l
 st:(∃d,kn s=some d)\/wt s=some 0
theorem Dj.front {n:Int}{ts:List T3}(g:GW n ts){s:Int}{kn wt:Int->Option Int}(h:Dj ts s kn wt){y d:Int}(w:Way ts s y d):(∃e,kn y=some e)\/∃q e,wt q=some e/\e<=d:=by
 have key:∀{x y d:Int},Way ts x y d->∀dx,kn x=some dx->(∃e,kn y=some e)\/∃q e,wt q=some e/\e<=dx+d:=by
  intro x y d w
  induction w with
  | nil=>intro dx hx;exact .inl ⟨dx,hx⟩
  | cons ha w' ih=>
   intro dx hx
   rename_i x z y l d
   have hl:=g.adj ha
   have hw:=w'.nn g
   rcases h.nb x dx z l hx ha with ⟨e,he⟩ | ⟨e,he,hle⟩
   . have hez:e<=dx+l:=(h.kd z e he).2 _ ((h.kd x dx hx).1.snoc ha)
     rcases ih e he with q | ⟨q,e',hq,hle⟩
     . exact .inl q
     . exact .inr ⟨q,e',hq,by omega⟩
   . exact .inr ⟨z,e,he,by omega⟩
 rcases h.st with ⟨ds,hs⟩ | hs
 . have:ds=0:=IsD.uniq (h.kd s ds hs) (isD_self g s)
   subst this
   rcases key w 0 hs with q | ⟨q,e,a,b⟩
   . exact .inl q
   . exact .inr ⟨q,e,a,by omega⟩
 . exact .inr ⟨s,0,hs,w.nn g⟩
theorem Dj.pick {n:Int}{ts:List T3}(g:GW n ts){s:Int}{kn wt:Int->Option Int}(h:Dj ts s kn wt){p d:Int}(hp:wt p=some d)(hm:∀q e,wt q=some e->d<=e):IsD ts s p d:=by
 obtain⟨hk,hw⟩:=h.wk p d hp
 refine⟨hw,fun e he=>?_⟩
 rcases h.front g he with ⟨e',q⟩ | ⟨q,e',hq,hle⟩
 . rw[hk] at q;cases q
 . exact Int.le_trans (hm q e' hq) hle
theorem Dj.done {n:Int}{ts:List T3}(g:GW n ts){s:Int}{kn wt:Int->Option Int}(h:Dj ts s kn wt)(hw:∀q,wt q=none)(y:Int):Len ts s y (kn y):=by
 cases e:kn y with
 | some d=>exact h.kd y d e
 | none=>
  intro d w
  rcases h.front g w with ⟨e',q⟩ | ⟨q,e',hq,_⟩
  . rw[e] at q;cases q
  . rw[hw] at hq;cases hq
structure Dm (ts:List T3)(s p d:Int)(kn wt:Int->Option Int)(seen:Int->Prop):Prop where
 kd:∀q e,kn q=some e->IsD ts s q e
 wk:∀q e,wt q=some e->kn q=none/\Way ts s q e
 ord:∀q e r f,kn q=some e->wt r=some f->e<=f
 nb:∀q e r l,kn q=some e->Adj ts q r l->(q=p/\¬ seen r)\/(∃f,kn r=some f)\/∃f,wt r=some f/\f<=e+l
 st:∃e,kn s=some e
 pd:kn p=some d
 mx:∀q e,kn q=some e->e<=d
theorem Dj.enter {n:Int}{ts:List T3}(g:GW n ts){s:Int}{kn wt:Int->Option Int}(h:Dj ts s kn wt){p d:Int}(hp:wt p=some d)(hm:∀q e,wt q=some e->d<=e) :
 Dm ts s p d (fun q=>if q=p then some d else kn q) (fun q=>if q=p then none else wt q) (fun _=>False):=by
 have hd:=h.pick g hp hm
 have hk:=(h.wk p d hp).1
 refine⟨fun q e hq=>?_,fun q e hq=>?_,fun q e r f hq hr=>?_,fun q e r l hq ha=>?_,?_,if_pos rfl,fun q e hq=>?_⟩
 . by_cases hqp:q=p
   . rw[if_pos hqp] at hq;cases hq;rw[hqp];exact hd
   . rw[if_neg hqp] at hq;exact h.kd q e hq
 . by_cases hqp:q=p
   . rw[if_pos hqp] at hq;cases hq
   . rw[if_neg hqp] at hq ⊢;exact h.wk q e hq
 . by_cases hrp:r=p
   . rw[if_pos hrp] at hr;cases hr
   . rw[if_neg hrp] at hr
     by_cases hqp:q=p
     . rw[if_pos hqp] at hq;cases hq;exact hm r f hr
     . rw[if_neg hqp] at hq;exact h.ord q e r f hq hr
 . by_cases hqp:q=p
   . exact .inl ⟨hqp,fun z=>z⟩
   . rw[if_neg hqp] at hq
     by_cases hrp:r=p
     . exact .inr (.inl ⟨d,if_pos hrp⟩)
     . rcases h.nb q e r l hq ha with ⟨f,hf⟩ | ⟨f,hf,hle⟩
       . exact .inr (.inl ⟨f,by rw[if_neg hrp];exact hf⟩)
       . exact .inr (.inr ⟨f,by rw[if_neg hrp];exact hf,hle⟩)
 . by_cases hsp:s=p
   . exact⟨d,if_pos hsp⟩
   . rcases h.st with ⟨e,he⟩ | he
     . exact⟨e,by rw[if_neg hsp];exact he⟩
     . -- s waits with 0: then d is 0 too,and p is come to by a way of 0
       have h0:=hm s 0 he
       have:=hd.1.nn g
       have hd0:d=0:=by omega
       subst hd0
       exfalso
       have:∀{x y d:Int},Way ts x y d->d=0->x=y:=by
        intro x y d w
        cases w with
        | nil=>intro _;rfl
        | cons ha w'=>intro e;have:=g.adj ha;have:=w'.nn g;omega
       exact hsp (this hd.1 rfl)
 . by_cases hqp:q=p
   . rw[if_pos hqp] at hq;cases hq;exact Int.le_refl _
   . rw[if_neg hqp] at hq;exact h.ord q e p d hq hp
theorem Dm.skip {ts:List T3}{s p d:Int}{kn wt:Int->Option Int}{seen:Int->Prop}(h:Dm ts s p d kn wt seen){r:Int}(hr:∃f,kn r=some f):Dm ts s p d kn wt (fun x=>seen x\/x=r):=
 ⟨h.kd,h.wk,h.ord,fun q e x l hq ha=>by
  rcases h.nb q e x l hq ha with ⟨a,b⟩ | c
  . by_cases hx:x=r
    . subst hx;exact .inr (.inl hr)
    . exact .inl ⟨a,fun z=>z.elim b hx⟩
  . exact .inr c,h.st,h.pd,h.mx⟩
theorem Dm.wait {n:Int}{ts:List T3}(g:GW n ts){s p d:Int}{kn wt:Int->Option Int}{seen:Int->Prop}(h:Dm ts s p d kn wt seen){r l:Int}(ha:Adj ts p r l)(hr:kn r=none){f:Int}
 (hf:(wt r=none/\f=d+l)\/∃e,wt r=some e/\f=min (d+l) e):Dm ts s p d kn (fun x=>if x=r then some f else wt x) (fun x=>seen x\/x=r):=by
 have hl:=g.adj ha
 have hway:Way ts s r (d+l):=(h.kd p d h.pd).1.snoc ha
 have hf1:f<=d+l:=by
  rcases hf with ⟨_,e⟩ | ⟨e,_,e'⟩
  . omega
  . omega
 have hf2:Way ts s r f:=by
  rcases hf with ⟨_,rfl⟩ | ⟨e,he,rfl⟩
  . exact hway
  . by_cases hle:d+l<=e
    . rw[Int.min_eq_left hle];exact hway
    . rw[Int.min_eq_right (by omega)];exact (h.wk r e he).2
 have hf3:d<=f:=by
  rcases hf with ⟨_,rfl⟩ | ⟨e,he,rfl⟩
  . omega
  . have:=h.ord p d r e h.pd he;omega
 refine⟨h.kd,fun q e hq=>?_,fun q e x y hq hx=>?_,fun q e x k hq hax=>?_,h.st,h.pd,h.mx⟩
 . by_cases hqr:q=r
   . rw[if_pos hqr] at hq;cases hq;rw[hqr];exact⟨hr,hf2⟩
   . rw[if_neg hqr] at hq;exact h.wk q e hq
 . by_cases hxr:x=r
   . rw[if_pos hxr] at hx;cases hx;have:=h.mx q e hq;omega
   . rw[if_neg hxr] at hx;exact h.ord q e x y hq hx
 . by_cases hxr:x=r
   . subst hxr
     refine .inr (.inr ⟨f,if_pos rfl,?_⟩)
     rcases h.nb q e x k hq hax with ⟨a,_⟩ | ⟨y,hy⟩ | ⟨y,hy,hle⟩
     . subst a
       rw[h.pd] at hq;cases hq
       rw[g.uniq hax ha];exact hf1
     . rw[hr] at hy;cases hy
     . rcases hf with ⟨e1,_⟩ | ⟨e1,he1,e2⟩
       . rw[e1] at hy;cases hy
       . rw[he1] at hy;cases hy;omega
   . rcases h.nb q e x k hq hax with ⟨a,b⟩ | c | ⟨y,hy,hle⟩
     . exact .inl ⟨a,fun z=>z.elim b hxr⟩
     . exact .inr (.inl c)
     . exact .inr (.inr ⟨y,by rw[if_neg hxr];exact hy,hle⟩)
theorem Dm.leave {ts:List T3}{s p d:Int}{kn wt:Int->Option Int}{seen:Int->Prop}(h:Dm ts s p d kn wt seen)(hs:∀r l,Adj ts p r l->seen r):Dj ts s kn wt:=
 ⟨h.kd,h.wk,h.ord,fun q e r l hq ha=>by
  rcases h.nb q e r l hq ha with ⟨a,b⟩ | c
  . subst a;exact absurd (hs r l ha) b
  . exact c,.inl h.st⟩
inductive WayK (ts:List T3)(k:Int):Int->Int->Int->Prop where
 | nil (x:Int):WayK ts k x x 0
 | tie {x y l:Int}:Adj ts x y l->WayK ts k x y l
 | cons {x z y l d:Int}:Adj ts x z l->z<k->WayK ts k z y d->WayK ts k x y (l+d)
theorem WayK.way {ts:List T3}{k x y d:Int}(h:WayK ts k x y d):Way ts x y d:=by
 induction h with
 | nil=>exact .nil _
 | tie ha=>exact .one ha
 | cons ha _ _ ih=>exact .cons ha ih
theorem Way.toK {n:Int}{ts:List T3}(g:GW n ts){x y d:Int}(h:Way ts x y d):WayK ts n x y d:=by
 induction h with
 | nil=>exact .nil _
 | cons ha _ ih=>exact .cons ha (g.adj ha).2.2.2.1 ih
theorem WayK.split {n:Int}{ts:List T3}(g:GW n ts){k x y d:Int}(h:WayK ts (k+1) x y d):WayK ts k x y d\/∃d1 d2,WayK ts k x k d1/\WayK ts k k y d2/\d1+d2<=d:=by
 induction h with
 | nil=>exact .inl (.nil _)
 | tie ha=>exact .inl (.tie ha)
 | cons ha hz w ih=>
  rename_i x z y l d
  by_cases hk:z<k
  . rcases ih with q | ⟨d1,d2,a,b,c⟩
    . exact .inl (.cons ha hk q)
    . exact .inr ⟨l+d1,d2,.cons ha hk a,b,by omega⟩
  . have e:z=k:=by omega
    subst e
    rcases ih with q | ⟨d1,d2,a,b,c⟩
    . exact .inr ⟨l,d,.tie ha,q,Int.le_refl _⟩
    . have:=a.way.nn g
      exact .inr ⟨l,d2,.tie ha,b,by omega⟩
theorem WayK.zero {n:Int}{ts:List T3}(g:GW n ts){x y d:Int}(h:WayK ts 0 x y d):(x=y/\d=0)\/Adj ts x y d:=by
 cases h with
 | nil=>exact .inl ⟨rfl,rfl⟩
 | tie ha=>exact .inr ha
 | cons ha hz _=>have:=g.adj ha;omega
structure Fw (ts:List T3)(n:Int)(F:Int->Int->Option Int):Prop where
 snd:∀x y d,0<=x->x<n->0<=y->y<n->F x y=some d->Way ts x y d
def Cov (ts:List T3)(n k:Int)(F:Int->Int->Option Int):Prop:=∀x y d,0<=x->x<n->0<=y->y<n->WayK ts k x y d->∃e,F x y=some e/\e<=d
theorem Fw.len {n:Int}{ts:List T3}(g:GW n ts){F:Int->Int->Option Int}(h:Fw ts n F)(c:Cov ts n n F){x y:Int}(hx:0<=x)(hx':x<n)(hy:0<=y)(hy':y<n):Len ts x y (F x y):=by
 cases e:F x y with
 | some d=>
  refine⟨h.snd x y d hx hx' hy hy' e,fun e' he=>?_⟩
  obtain⟨f,hf,hle⟩:=c x y e' hx hx' hy hy' (he.toK g)
  rw[e] at hf;cases hf;exact hle
 | none=>
  intro d hd
  obtain⟨f,hf,_⟩:=c x y d hx hx' hy hy' (hd.toK g)
  rw[e] at hf;cases hf
end WM
namespace WM
def fnl (kn:List (Option Int))(p:Int):Option Int:=if 0<=p then kn.getD p.toNat none else none
def cnt (kn:List (Option Int)):Nat:=(kn.filter Option.isSome).length
theorem cnt_le (kn:List (Option Int)):cnt kn<=kn.length:=List.length_filter_le _ _
theorem fnl_set {kn:List (Option Int)}{p:Int}{o:Option Int}(h0:0<=p)(h1:p.toNat<kn.length)(q:Int):fnl (kn.set p.toNat o) q=if q=p then o else fnl kn q:=by
 unfold fnl
 by_cases hq:0<=q
 . rw[if_pos hq,if_pos hq,List.getD_eq_getElem?_getD,List.getD_eq_getElem?_getD,List.getElem?_set]
   by_cases e:q=p
   . subst e;simp[h1]
   . have:¬ p.toNat=q.toNat:=by omega
     rw[if_neg this,if_neg e]
 . rw[if_neg hq,if_neg (by omega),if_neg hq]
theorem cnt_set:∀{kn:List (Option Int)}{j:Nat}{d:Int},kn[j]? = some none->cnt (kn.set j (some d))=cnt kn+1
 | [],_,_,h=>by simp at h
 | o::r,0,d,h=>by
  have:o=none:=by simpa using h
  subst this
  simp[cnt,List.set]
 | o::r,j+1,d,h=>by
  have ih:=cnt_set (kn:=r) (j:=j) (d:=d) (by simpa using h)
  unfold cnt at ih ⊢
  rw[List.set_cons_succ]
  cases o with
  | none=>rw[List.filter_cons_of_neg (by simp),List.filter_cons_of_neg (by simp)];exact ih
  | some x=>rw[List.filter_cons_of_pos (by simp),List.filter_cons_of_pos (by simp),List.length_cons,List.length_cons,ih]
theorem cnt_rep (n:Nat):cnt (List.replicate n none)=0:=by
 unfold cnt
 rw[List.filter_replicate]
 simp
theorem fnl_rep (n:Nat)(q:Int):fnl (List.replicate n none) q=none:=by
 unfold fnl
 split
 . rw[List.getD_eq_getElem?_getD,List.getElem?_replicate]
   split <;> rfl
 . rfl
structure Dl (ts:List T3)(n s:Int)(kn:List (Option Int))(wt:Int->Option Int):Prop where
 dj:Dj ts s (fnl kn) wt
 ln:kn.length=n.toNat
 bk:∀p d,fnl kn p=some d->d<=99*cnt kn
 bw:∀p e,wt p=some e->e<=99*cnt kn/\0<=p/\p<n
structure Dn (ts:List T3)(n s p d:Int)(kn:List (Option Int))(wt:Int->Option Int)(seen:Int->Prop):Prop where
 dm:Dm ts s p d (fnl kn) wt seen
 ln:kn.length=n.toNat
 bk:∀q e,fnl kn q=some e->e<=99*cnt kn
 bd:d+99<=99*cnt kn
 bw:∀q e,wt q=some e->e<=99*cnt kn/\0<=q/\q<n
theorem Dl.start {n:Int}{ts:List T3}(g:GW n ts){s:Int}(h0:0<=s)(h1:s<n):Dl ts n s (List.replicate n.toNat none) (fun q=>if q=s then some 0 else none):=by
 refine⟨⟨fun p d h=>?_,fun p d h=>?_,fun p d q e h=>?_,fun p d q l h=>?_,.inr (if_pos rfl)⟩,List.length_replicate,fun p d h=>?_,fun p e h=>?_⟩
 . rw[fnl_rep] at h;cases h
 . by_cases e:p=s
   . rw[if_pos e] at h;cases h;rw[e];exact⟨fnl_rep _ _,.nil s⟩
   . rw[if_neg e] at h;cases h
 . rw[fnl_rep] at h;cases h
 . rw[fnl_rep] at h;cases h
 . rw[fnl_rep] at h;cases h
 . by_cases e:p=s
   . rw[if_pos e] at h;cases h;rw[e,cnt_rep];exact⟨by simp,h0,h1⟩
   . rw[if_neg e] at h;cases h
theorem Dl.enter {n:Int}{ts:List T3}(g:GW n ts){s:Int}{kn:List (Option Int)}{wt:Int->Option Int}(h:Dl ts n s kn wt){p d:Int}(hp:wt p=some d)(hm:∀q e,wt q=some e->d<=e) :
 kn[p.toNat]? = some none/\0<=p/\p<n/\cnt (kn.set p.toNat (some d))=cnt kn+1/\Dn ts n s p d (kn.set p.toNat (some d)) (fun q=>if q=p then none else wt q) (fun _=>False):=by
 obtain⟨hb,h0,h1⟩:=h.bw p d hp
 have hl:=h.ln
 have hlt:p.toNat<kn.length:=by omega
 have hk:=(h.dj.wk p d hp).1
 have hn:kn[p.toNat]? = some none:=by
  unfold fnl at hk
  rw[if_pos h0,List.getD_eq_getElem?_getD,List.getElem?_eq_getElem hlt] at hk
  rw[List.getElem?_eq_getElem hlt]
  exact congrArg some hk
 have hc:=cnt_set (d:=d) hn
 have ef:fnl (kn.set p.toNat (some d))=fun q=>if q=p then some d else fnl kn q:=funext fun q=>fnl_set h0 hlt q
 refine⟨hn,h0,h1,hc,⟨?_,by rw[List.length_set];exact hl,fun q e hq=>?_,by rw[hc];omega,fun q e hq=>?_⟩⟩
 . rw[ef];exact h.dj.enter g hp hm
 . rw[ef] at hq
   simp only at hq
   rw[hc]
   by_cases e':q=p
   . rw[if_pos e'] at hq;cases hq;omega
   . rw[if_neg e'] at hq;have:=h.bk q e hq;omega
 . by_cases e':q=p
   . rw[if_pos e'] at hq;cases hq
   . rw[if_neg e'] at hq;have:=h.bw q e hq;rw[hc];exact⟨by omega,this.2⟩
theorem Dn.skip {n:Int}{ts:List T3}{s p d:Int}{kn:List (Option Int)}{wt:Int->Option Int}{seen:Int->Prop}(h:Dn ts n s p d kn wt seen){r f:Int}(hr:fnl kn r=some f):Dn ts n s p d kn wt (fun x=>seen x\/x=r):=
 ⟨h.dm.skip ⟨f,hr⟩,h.ln,h.bk,h.bd,h.bw⟩
theorem Dn.wait {n:Int}{ts:List T3}(g:GW n ts){s p d:Int}{kn:List (Option Int)}{wt:Int->Option Int}{seen:Int->Prop}(h:Dn ts n s p d kn wt seen){r l:Int}(ha:Adj ts p r l)(hr:fnl kn r=none) :
 Dn ts n s p d kn (fun x=>if x=r then some (if (wt r).getD (d+l)<d+l then (wt r).getD (d+l) else d+l) else wt x) (fun x=>seen x\/x=r):=by
 have hl:=g.adj ha
 have hf:(wt r=none/\(if (wt r).getD (d+l)<d+l then (wt r).getD (d+l) else d+l)=d+l)\/∃e,wt r=some e/\(if (wt r).getD (d+l)<d+l then (wt r).getD (d+l) else d+l)=min (d+l) e:=by
  cases e:wt r with
  | none=>exact .inl ⟨rfl,by simp⟩
  | some x=>
   refine .inr ⟨x,rfl,?_⟩
   simp only[Option.getD_some]
   split <;> omega
 refine⟨h.dm.wait g ha hr hf,h.ln,h.bk,h.bd,fun q e hq=>?_⟩
 by_cases e':q=r
 . rw[if_pos e'] at hq
   have hd:=h.bd
   have e2:=Option.some.inj hq
   refine⟨?_,by omega,by omega⟩
   split at e2 <;> omega
 . rw[if_neg e'] at hq;exact h.bw q e hq
theorem Dn.leave {n:Int}{ts:List T3}{s p d:Int}{kn:List (Option Int)}{wt:Int->Option Int}{seen:Int->Prop}(h:Dn ts n s p d kn wt seen)(hs:∀r l,Adj ts p r l->seen r):Dl ts n s kn wt:=
 ⟨h.dm.leave hs,h.ln,h.bk,h.bw⟩
structure Lens (ts:List T3)(n s:Int)(kn:List (Option Int)):Prop where
 ln:kn.length=n.toNat
 len:∀y,0<=y->y<n->Len ts s y (fnl kn y)
 bd:∀o∈kn,∀d,o=some d->0<=d/\d<=2376
theorem Dl.done {n:Int}{ts:List T3}(g:GW n ts){s:Int}{kn:List (Option Int)}{wt:Int->Option Int}(h:Dl ts n s kn wt)(hw:∀q,wt q=none):Lens ts n s kn:=by
 refine⟨h.ln,fun y _ _=>h.dj.done g hw y,fun o ho d e=>?_⟩
 obtain⟨j,hj,ej⟩:=List.getElem_of_mem ho
 have hf:fnl kn (j:Int)=some d:=by
  unfold fnl
  rw[if_pos (by omega),List.getD_eq_getElem?_getD,Int.toNat_natCast,List.getElem?_eq_getElem hj,ej,e];rfl
 have h1:=h.bk _ _ hf
 have h2:=(h.dj.kd _ _ hf).1.nn g
 have h3:=cnt_le kn
 have:=h.ln
 have:=g.n24
 omega
end WM
namespace WM
def oadd:Option Int->Option Int->Option Int
 | some a,some b=>some (a+b)
 | _,_=>none
def oles:Option Int->Option Int->Option Int
 | none,o=>o
 | some a,none=>some a
 | some a,some b=>some (if b<a then b else a)
theorem WayK.mono {ts:List T3}{k k' x y d:Int}(h:WayK ts k x y d)(hk:k<=k'):WayK ts k' x y d:=by
 induction h with
 | nil=>exact .nil _
 | tie ha=>exact .tie ha
 | cons ha hz _ ih=>exact .cons ha (by omega) ih
structure Fm (ts:List T3)(n k:Int)(F:Int->Int->Option Int)(done:Int->Int->Prop):Prop where
 fw:Fw ts n F
 cv:Cov ts n k F
 dn:∀x y d,0<=x->x<n->0<=y->y<n->done x y->WayK ts (k+1) x y d->∃e,F x y=some e/\e<=d
theorem oles_le {o p:Option Int}{d:Int}(h:(∃e,o=some e/\e<=d)\/∃e,p=some e/\e<=d):∃e,oles o p=some e/\e<=d:=by
 rcases h with ⟨e,rfl,h⟩ | ⟨e,rfl,h⟩
 . cases p with
   | none=>exact⟨e,rfl,h⟩
   | some b=>exact⟨_,rfl,by split <;> omega⟩
 . cases o with
   | none=>exact⟨e,rfl,h⟩
   | some a=>exact⟨_,rfl,by split <;> omega⟩
theorem oles_or {o p:Option Int}{d:Int}(h:oles o p=some d):o=some d\/p=some d:=by
 cases o with
 | none=>exact .inr h
 | some a=>
  cases p with
  | none=>exact .inl h
  | some b=>
   have e:(if b<a then b else a)=d:=Option.some.inj h
   split at e
   . exact .inr (by rw[e])
   . exact .inl (by rw[e])
theorem oadd_some {o p:Option Int}{d:Int}(h:oadd o p=some d):∃a b,o=some a/\p=some b/\a+b=d:=by
 cases o with
 | none=>cases h
 | some a=>
  cases p with
  | none=>cases h
  | some b=>exact⟨a,b,rfl,rfl,Option.some.inj h⟩
theorem Fm.step {n:Int}{ts:List T3}(g:GW n ts){k:Int}{F:Int->Int->Option Int}{done:Int->Int->Prop}(h:Fm ts n k F done){a b:Int}(ha:0<=a)(ha':a<n)(hb:0<=b)(hb':b<n)(hk:0<=k)(hk':k<n) :
 Fm ts n k (fun x y=>if x=a/\y=b then oles (F a b) (oadd (F a k) (F k b)) else F x y) (fun x y=>done x y\/(x=a/\y=b)):=by
 have snd:∀d,oles (F a b) (oadd (F a k) (F k b))=some d->Way ts a b d:=fun d hd=>by
  rcases oles_or hd with e | e
  . exact h.fw.snd a b d ha ha' hb hb' e
  . obtain⟨d1,d2,e1,e2,rfl⟩:=oadd_some e
    exact (h.fw.snd a k d1 ha ha' hk hk' e1).trans (h.fw.snd k b d2 hk hk' hb hb' e2)
 have cov1:∀d,WayK ts (k+1) a b d->∃e,oles (F a b) (oadd (F a k) (F k b))=some e/\e<=d:=fun d w=>by
  refine oles_le ?_
  rcases w.split g with q | ⟨d1,d2,q1,q2,hle⟩
  . exact .inl (h.cv a b d ha ha' hb hb' q)
  . obtain⟨e1,f1,l1⟩:=h.cv a k d1 ha ha' hk hk' q1
    obtain⟨e2,f2,l2⟩:=h.cv k b d2 hk hk' hb hb' q2
    exact .inr ⟨e1+e2,by rw[f1,f2];rfl,by omega⟩
 refine⟨⟨fun x y d hx hx' hy hy' e=>?_⟩,fun x y d hx hx' hy hy' w=>?_,fun x y d hx hx' hy hy' hd w=>?_⟩
 . by_cases c:x=a/\y=b
   . rw[if_pos c] at e;rw[c.1,c.2];exact snd d e
   . rw[if_neg c] at e;exact h.fw.snd x y d hx hx' hy hy' e
 . by_cases c:x=a/\y=b
   . rw[if_pos c];rw[c.1,c.2] at w;exact cov1 d (w.mono (by omega))
   . rw[if_neg c];exact h.cv x y d hx hx' hy hy' w
 . by_cases c:x=a/\y=b
   . rw[if_pos c];rw[c.1,c.2] at w;exact cov1 d w
   . rw[if_neg c];exact h.dn x y d hx hx' hy hy' (hd.resolve_right c) w
theorem Fm.enter {n:Int}{ts:List T3}{k:Int}{F:Int->Int->Option Int}(h:Fw ts n F)(c:Cov ts n k F):Fm ts n k F (fun _ _=>False):=⟨h,c,fun _ _ _ _ _ _ _ z=>z.elim⟩
theorem Fm.leave {n:Int}{ts:List T3}{k:Int}{F:Int->Int->Option Int}{done:Int->Int->Prop}(h:Fm ts n k F done)(hd:∀x y,0<=x->x<n->0<=y->y<n->done x y):Fw ts n F/\Cov ts n (k+1) F:=
 ⟨h.fw,fun x y d hx hx' hy hy' w=>h.dn x y d hx hx' hy hy' (hd x y hx hx' hy hy') w⟩
def Ft (ts:List T3)(n:Int)(F:Int->Int->Option Int):Prop:=∀x y d,0<=x->x<n->0<=y->y<n->(F x y=some d↔(x=y/\d=0)\/Adj ts x y d)
theorem Ft.fw {n:Int}{ts:List T3}(g:GW n ts){F:Int->Int->Option Int}(h:Ft ts n F):Fw ts n F/\Cov ts n 0 F:=by
 refine⟨⟨fun x y d hx hx' hy hy' e=>?_⟩,fun x y d hx hx' hy hy' w=>?_⟩
 . rcases (h x y d hx hx' hy hy').mp e with ⟨rfl,rfl⟩ | ha
   . exact .nil x
   . exact .one ha
 . refine⟨d,(h x y d hx hx' hy hy').mpr ?_,Int.le_refl _⟩
   rcases w.zero g with q | q
   . exact .inl q
   . exact .inr q
theorem Ft.nil (n:Int){F:Int->Int->Option Int}(h:∀x y,0<=x->x<n->0<=y->y<n->F x y=if x=y then some 0 else none):Ft [] n F:=fun x y d hx hx' hy hy'=>by
 rw[h x y hx hx' hy hy']
 constructor
 . intro e
   split at e
   . rename_i c;exact .inl ⟨c,(Option.some.inj e).symm⟩
   . cases e
 . rintro (⟨rfl,rfl⟩ | ha)
   . rw[if_pos rfl]
   . rcases ha with z | z <;> simp at z
theorem Ft.put {n:Int}{pre post:List T3}{a b l:Int}(g:GW n (pre++(a,b,l)::post)){F:Int->Int->Option Int}(h:Ft pre n F) :
 Ft (pre++[(a,b,l)]) n (fun x y=>if x=b/\y=a then some l else if x=a/\y=b then some l else F x y):=fun x y d hx hx' hy hy'=>by
 have hr:=g.rng (a,b,l) (by simp)
 simp only at hr
 have sub:∀{x y d:Int},Adj pre x y d->Adj (pre++(a,b,l)::post) x y d:=fun z=>z.elim (fun z=>.inl (List.mem_append_left _ z)) fun z=>.inr (List.mem_append_left _ z)
 have own:Adj (pre++(a,b,l)::post) a b l:=.inl (by simp)
 have hadj:Adj (pre++[(a,b,l)]) x y d↔Adj pre x y d\/(x=a/\y=b/\d=l)\/(x=b/\y=a/\d=l):=by
  unfold Adj
  simp only[List.mem_append,List.mem_singleton,Prod.mk.injEq]
  constructor
  . rintro ((z | z) | (z | z))
    . exact .inl (.inl z)
    . exact .inr (.inl z)
    . exact .inl (.inr z)
    . exact .inr (.inr ⟨z.2.1,z.1,z.2.2⟩)
  . rintro ((z | z) | z | z)
    . exact .inl (.inl z)
    . exact .inr (.inl z)
    . exact .inl (.inr z)
    . exact .inr (.inr ⟨z.2.1,z.1,z.2.2⟩)
 rw[hadj]
 show (if x=b/\y=a then some l else if x=a/\y=b then some l else F x y)=some d↔_
 by_cases c1:x=b/\y=a
 . rw[if_pos c1]
   constructor
   . intro e;exact .inr (.inr (.inr ⟨c1.1,c1.2,(Option.some.inj e).symm⟩))
   . rintro (⟨e,_⟩ | z | ⟨e1,e2,e3⟩ | ⟨_,_,e3⟩)
     . omega
     . have z':=sub z;rw[c1.1,c1.2] at z';rw[g.uniq z' own.symm]
     . rw[e3]
     . rw[e3]
 . rw[if_neg c1]
   by_cases c2:x=a/\y=b
   . rw[if_pos c2]
     constructor
     . intro e;exact .inr (.inr (.inl ⟨c2.1,c2.2,(Option.some.inj e).symm⟩))
     . rintro (⟨e,_⟩ | z | ⟨e1,e2,e3⟩ | ⟨_,_,e3⟩)
       . omega
       . have z':=sub z;rw[c2.1,c2.2] at z';rw[g.uniq z' own]
       . rw[e3]
       . rw[e3]
   . rw[if_neg c2,h x y d hx hx' hy hy']
     constructor
     . rintro (z | z)
       . exact .inl z
       . exact .inr (.inl z)
     . rintro (z | z | z | z)
       . exact .inl z
       . exact .inr z
       . exact absurd ⟨z.1,z.2.1⟩ c2
       . exact absurd ⟨z.1,z.2.1⟩ c1
def mat (M:List (List (Option Int)))(x y:Int):Option Int:=if 0<=x then fnl (M.getD x.toNat []) y else none
def setm (M:List (List (Option Int)))(a b:Int)(v:Option Int):List (List (Option Int)):=M.set a.toNat ((M.getD a.toNat []).set b.toNat v)
structure Sqm (n:Int)(M:List (List (Option Int))):Prop where
 ln:M.length=n.toNat
 rw_:∀r∈M,r.length=n.toNat
theorem Sqm.row {n:Int}{M:List (List (Option Int))}(h:Sqm n M){a:Int}(ha:0<=a)(ha':a<n):∃r,M[a.toNat]? = some r/\M.getD a.toNat []=r/\r.length=n.toNat:=by
 have hl:=h.ln
 have hlt:a.toNat<M.length:=by omega
 exact⟨M[a.toNat],List.getElem?_eq_getElem hlt,by rw[List.getD_eq_getElem?_getD,List.getElem?_eq_getElem hlt];rfl,h.rw_ _ (List.getElem_mem hlt)⟩
theorem Sqm.set {n:Int}{M:List (List (Option Int))}(h:Sqm n M){a b:Int}{v:Option Int}(ha:0<=a)(ha':a<n):Sqm n (setm M a b v):=by
 obtain⟨r,h1,h2,h3⟩:=h.row ha ha'
 refine⟨by unfold setm;rw[List.length_set];exact h.ln,fun q hq=>?_⟩
 unfold setm at hq
 rcases List.mem_or_eq_of_mem_set hq with z | z
 . exact h.rw_ q z
 . rw[z,List.length_set,h2,h3]
theorem mat_set {n:Int}{M:List (List (Option Int))}(h:Sqm n M){a b:Int}{v:Option Int}(ha:0<=a)(ha':a<n)(hb:0<=b)(hb':b<n){x y:Int}(hx:0<=x)(hx':x<n) :
 mat (setm M a b v) x y=if x=a/\y=b then v else mat M x y:=by
 obtain⟨r,h1,h2,h3⟩:=h.row ha ha'
 have hl:=h.ln
 unfold mat setm
 rw[if_pos hx,if_pos hx,List.getD_eq_getElem?_getD,List.getElem?_set]
 by_cases e:x=a
 . subst e
   rw[if_pos rfl,if_pos (by omega),Option.getD_some,h2,fnl_set hb (by omega)]
   by_cases e2:y=b
   . rw[if_pos e2,if_pos ⟨rfl,e2⟩]
   . rw[if_neg e2,if_neg fun z=>e2 z.2]
 . rw[if_neg (by omega),if_neg fun z=>e z.1,<-List.getD_eq_getElem?_getD]
theorem Fm.congr {n:Int}{ts:List T3}{k:Int}{F G:Int->Int->Option Int}{done done':Int->Int->Prop}(h:Fm ts n k F done)(e:∀x y,0<=x->x<n->0<=y->y<n->G x y=F x y)(hd:∀x y,0<=x->x<n->0<=y->y<n->done' x y->done x y):Fm ts n k G done':=
 ⟨⟨fun x y d a b c d' z=>h.fw.snd x y d a b c d' (by rw[<-e x y a b c d'];exact z)⟩,fun x y d a b c d' w=>by rw[e x y a b c d'];exact h.cv x y d a b c d' w,fun x y d a b c d' z w=>by rw[e x y a b c d'];exact h.dn x y d a b c d' (hd x y a b c d' z) w⟩
theorem Ft.congr {n:Int}{ts:List T3}{F G:Int->Int->Option Int}(h:Ft ts n F)(e:∀x y,0<=x->x<n->0<=y->y<n->G x y=F x y):Ft ts n G:=fun x y d a b c d'=>by rw[e x y a b c d'];exact h x y d a b c d'
def Rows (ts:List T3)(n:Int)(M:List (List (Option Int))):Prop:=M.length=n.toNat/\∀x,0<=x->x<n->Lens ts n x (M.getD x.toNat [])
theorem way_bound {n:Int}{ts:List T3}(g:GW n ts)(x y:Int)(hx:0<=x)(hx':x<n)(d:Int)(h:IsD ts x y d):0<=d/\d<=2376:=by
 have ex:∀(m:Nat)(kn:List (Option Int))(wt:Int->Option Int),Dl ts n x kn wt->n.toNat-cnt kn<=m->(∃L:List Int,∀q e,wt q=some e->q∈L)->∃kn',Lens ts n x kn':=by
  intro m
  induction m with
  | zero=>
   intro kn wt D hm _
   refine⟨kn,D.done g fun q=>?_⟩
   cases e:wt q with
   | none=>rfl
   | some d=>
    have hk:=(D.dj.wk q d e).1
    obtain⟨_,h0,h1⟩:=D.bw q d e
    have hl:=D.ln
    have hlt:q.toNat<kn.length:=by omega
    have hn:kn[q.toNat]? = some none:=by
     unfold fnl at hk
     rw[if_pos h0,List.getD_eq_getElem?_getD,List.getElem?_eq_getElem hlt] at hk
     rw[List.getElem?_eq_getElem hlt]
     exact congrArg some hk
    have h1:=cnt_set (d:=0) hn
    have h2:=cnt_le (kn.set q.toNat (some 0))
    rw[List.length_set] at h2
    omega
  | succ m ih=>
   intro kn wt D hm hL
   by_cases hw:∀q,wt q=none
   . exact⟨kn,D.done g hw⟩
   . -- pick the nearest
     obtain⟨L,hL⟩:=hL
     have pick:∀L:List Int,(∃q∈L,(wt q).isSome)->∃p d,wt p=some d/\∀q∈L,∀e,wt q=some e->d<=e:=by
      intro L
      induction L with
      | nil=>rintro ⟨q,hq,_⟩;simp at hq
      | cons z L ihL=>
       rintro ⟨q,hq,hs⟩
       by_cases hr:∃q∈L,(wt q).isSome
       . obtain⟨p,d,hp,hmin⟩:=ihL hr
         cases ez:wt z with
         | none=>
          refine⟨p,d,hp,fun q' hq' e he=>?_⟩
          rcases List.mem_cons.mp hq' with rfl | hq'
          . rw[ez] at he;cases he
          . exact hmin q' hq' e he
         | some dz=>
          by_cases hz:dz<d
          . refine⟨z,dz,ez,fun q' hq' e he=>?_⟩
            rcases List.mem_cons.mp hq' with rfl | hq'
            . rw[ez] at he;cases he;exact Int.le_refl _
            . have:=hmin q' hq' e he;omega
          . refine⟨p,d,hp,fun q' hq' e he=>?_⟩
            rcases List.mem_cons.mp hq' with rfl | hq'
            . rw[ez] at he;cases he;omega
            . exact hmin q' hq' e he
       . rcases List.mem_cons.mp hq with rfl | hq
         . obtain⟨d,hd⟩:=Option.isSome_iff_exists.mp hs
           refine⟨q,d,hd,fun q' hq' e he=>?_⟩
           rcases List.mem_cons.mp hq' with rfl | hq'
           . rw[hd] at he;cases he;exact Int.le_refl _
           . exact absurd ⟨q',hq',by rw[he];rfl⟩ hr
         . exact absurd ⟨q,hq,hs⟩ hr
     obtain⟨p,d,hp,hmin⟩:=pick L (by
      apply Classical.byContradiction
      intro hno
      refine hw fun q=>?_
      cases e:wt q with
      | none=>rfl
      | some d=>exact absurd ⟨q,hL q d e,by rw[e];rfl⟩ hno)
     obtain⟨hn,h0,h1,hc,N⟩:=D.enter g hp (fun q e he=>hmin q (hL q e he) e he)
     have all:∀(ns:List (Int×Int))(wt':Int->Option Int)(seen:Int->Prop),Dn ts n x p d (kn.set p.toNat (some d)) wt' seen->(∃L:List Int,∀q e,wt' q=some e->q∈L)->(∀r l,(r,l)∈ns->Adj ts p r l) ->
      ∃(wt'':Int->Option Int)(seen':Int->Prop),Dn ts n x p d (kn.set p.toNat (some d)) wt'' seen'/\(∃L:List Int,∀q e,wt'' q=some e->q∈L)/\(∀r,seen r->seen' r)/\∀r l,(r,l)∈ns->seen' r:=by
      intro ns
      induction ns with
      | nil=>intro wt' seen N hL _;exact⟨wt',seen,N,hL,fun _ z=>z,fun r l z=>by simp at z⟩
      | cons t ns ih'=>
       intro wt' seen N hL' ha
       obtain⟨r,l⟩:=t
       have har:=ha r l List.mem_cons_self
       have ha':∀r l,(r,l)∈ns->Adj ts p r l:=fun r l z=>ha r l (List.mem_cons_of_mem _ z)
       cases ek:fnl (kn.set p.toNat (some d)) r with
       | some f=>
        obtain⟨w2,s2,N2,L2,m2,a2⟩:=ih' wt' _ (N.skip ek) hL' ha'
        refine⟨w2,s2,N2,L2,fun q z=>m2 q (.inl z),fun q l' z=>?_⟩
        rcases List.mem_cons.mp z with e | z
        . cases e;exact m2 _ (.inr rfl)
        . exact a2 q l' z
       | none=>
        obtain⟨L',hL'⟩:=hL'
        obtain⟨w2,s2,N2,L2,m2,a2⟩:=ih' _ _ (N.wait g har ek) ⟨r::L',fun q e he=>by
         by_cases e':q=r
         . rw[e'];exact List.mem_cons_self
         . rw[if_neg e'] at he;exact List.mem_cons_of_mem _ (hL' q e he)⟩ ha'
        refine⟨w2,s2,N2,L2,fun q z=>m2 q (.inl z),fun q l' z=>?_⟩
        rcases List.mem_cons.mp z with e | z
        . cases e;exact m2 _ (.inr rfl)
        . exact a2 q l' z
     have nbr:∃ns:List (Int×Int),(∀r l,(r,l)∈ns->Adj ts p r l)/\∀r l,Adj ts p r l->(r,l)∈ns:=by
      refine⟨(ts.filterMap fun t=>if t.1=p then some (t.2.1,t.2.2) else none)++(ts.filterMap fun t=>if t.2.1=p then some (t.1,t.2.2) else none),fun r l z=>?_,fun r l z=>?_⟩
      . rcases List.mem_append.mp z with z | z
        . obtain⟨⟨a,b,c⟩,ht,e⟩:=List.mem_filterMap.mp z
          split at e
          . rename_i c1
            have c1':a=p:=c1
            have e':=Option.some.inj e
            simp only[Prod.mk.injEq] at e'
            obtain⟨rfl,rfl⟩:=e'
            subst c1'
            exact .inl ht
          . cases e
        . obtain⟨⟨a,b,c⟩,ht,e⟩:=List.mem_filterMap.mp z
          split at e
          . rename_i c1
            have c1':b=p:=c1
            have e':=Option.some.inj e
            simp only[Prod.mk.injEq] at e'
            obtain⟨rfl,rfl⟩:=e'
            subst c1'
            exact .inr ht
          . cases e
      . rcases z with z | z
        . exact List.mem_append_left _ (List.mem_filterMap.mpr ⟨_,z,by simp⟩)
        . exact List.mem_append_right _ (List.mem_filterMap.mpr ⟨_,z,by simp⟩)
     obtain⟨ns,hns1,hns2⟩:=nbr
     obtain⟨w2,s2,N2,L2,_,a2⟩:=all ns _ _ N ⟨L,fun q e he=>by
      by_cases e':q=p
      . rw[if_pos e'] at he;cases he
      . rw[if_neg e'] at he;exact hL q e he⟩ hns1
     exact ih _ _ (N2.leave fun r l ha=>a2 r l (hns2 r l ha)) (by omega) L2
 obtain⟨kn,K⟩:=ex n.toNat _ _ (Dl.start g hx hx') (by omega) ⟨[x],fun q e he=>by
  by_cases e':q=x
  . simp[e']
  . rw[if_neg e'] at he;cases he⟩
 have hy:(0<=y/\y<n)\/y=x:=by
  have:∀{x y d:Int},Way ts x y d->x=y\/(0<=y/\y<n):=by
   intro x y d w
   induction w with
   | nil=>exact .inl rfl
   | cons ha _ ih=>
    rcases ih with rfl | q
    . have:=g.adj ha;exact .inr ⟨this.2.2.1,this.2.2.2.1⟩
    . exact .inr q
  rcases this h.1 with e | q
  . exact .inr e.symm
  . exact .inl q
 have hy':0<=y/\y<n:=hy.elim id fun e=>by omega
 have hl:=K.len y hy'.1 hy'.2
 have hlen:=K.ln
 have hlt:y.toNat<kn.length:=by omega
 have e1:fnl kn y=kn[y.toNat]:=by
  unfold fnl
  rw[if_pos hy'.1,List.getD_eq_getElem?_getD,List.getElem?_eq_getElem hlt];rfl
 have e2:=Len.uniq hl (show Len ts x y (some d) from h)
 exact K.bd _ (List.getElem_mem hlt) d (by rw[<-e1];exact e2)
theorem rows_of {n:Int}{ts:List T3}(g:GW n ts){M:List (List (Option Int))}(h:Sqm n M)(f:Fw ts n (mat M))(c:Cov ts n n (mat M)):Rows ts n M:=by
 refine⟨h.ln,fun x hx hx'=>?_⟩
 obtain⟨r,h1,h2,h3⟩:=h.row hx hx'
 have e:∀y,mat M x y=fnl r y:=fun y=>by unfold mat;rw[if_pos hx,h2]
 rw[h2]
 refine⟨h3,fun y hy hy'=>by rw[<-e];exact f.len g c hx hx' hy hy',fun o ho d ed=>?_⟩
 obtain⟨j,hj,ej⟩:=List.getElem_of_mem ho
 have hf:fnl r (j:Int)=some d:=by
  unfold fnl
  rw[if_pos (by omega),List.getD_eq_getElem?_getD,Int.toNat_natCast,List.getElem?_eq_getElem hj,ej,ed];rfl
 have hl:=f.len g c hx hx' (y:=(j:Int)) (by omega) (by omega)
 rw[e,hf] at hl
 exact way_bound g x j hx hx' d hl
end WM
namespace WM
def Btw (ts:List T3)(x y p:Int):Prop:=∃a b,IsD ts x p a/\IsD ts p y b/\IsD ts x y (a+b)
def Nxt (ts:List T3)(x y p:Int):Prop:=∃l b,Adj ts x p l/\IsD ts p y b/\IsD ts x y (l+b)
theorem Btw.symm {ts:List T3}{x y p:Int}(h:Btw ts x y p):Btw ts y x p:=by
 obtain⟨a,b,h1,h2,h3⟩:=h
 exact⟨b,a,h2.symm,h1.symm,by rw[Int.add_comm];exact h3.symm⟩
theorem Way.zero {n:Int}{ts:List T3}(g:GW n ts){x y:Int}(h:Way ts x y 0):x=y:=by
 have:∀{x y d:Int},Way ts x y d->d=0->x=y:=by
  intro x y d w
  cases w with
  | nil=>intro _;rfl
  | cons ha w'=>intro e;have:=g.adj ha;have:=w'.nn g;omega
 exact this h rfl
theorem Way.in_ {n:Int}{ts:List T3}(g:GW n ts){x y d:Int}(w:Way ts x y d)(hx:0<=x)(hx':x<n):0<=y/\y<n:=by
 induction w with
 | nil=>exact⟨hx,hx'⟩
 | cons ha _ ih=>have:=g.adj ha;exact ih this.2.2.1 this.2.2.2.1
theorem Btw.self {n:Int}{ts:List T3}(g:GW n ts){x y d:Int}(h:IsD ts x y d):Btw ts x y x:=⟨0,d,isD_self g x,h,by rw[Int.zero_add];exact h⟩
theorem isD_zero {n:Int}{ts:List T3}(g:GW n ts){x y d:Int}(h:IsD ts x y d):d=0↔x=y:=by
 constructor
 . intro e;subst e;exact h.1.zero g
 . intro e;subst e;exact IsD.uniq h (isD_self g x)
theorem Btw.trans {ts:List T3}{x y p q:Int}(h:Btw ts x y p)(h':Btw ts x p q):Btw ts x y q:=by
 obtain⟨a,b,h1,h2,h3⟩:=h
 obtain⟨c,e,k1,k2,k3⟩:=h'
 have e1:a=c+e:=IsD.uniq h1 k3
 refine⟨c,e+b,k1,⟨k2.1.trans h2.1,fun f hf=>?_⟩,?_⟩
 . have:=h3.2 _ (k1.1.trans hf)
   omega
 . rw[e1,Int.add_assoc] at h3;exact h3
theorem Way.least {n:Int}{ts:List T3}(g:GW n ts){x y d:Int}(h:Way ts x y d):∃e,IsD ts x y e:=by
 have:∀(m:Nat)(d:Int),Way ts x y d->d.toNat<=m->∃e,IsD ts x y e:=by
  intro m
  induction m with
  | zero=>
   intro d hd hm
   have:=hd.nn g
   have e:d=0:=by omega
   subst e
   exact⟨0,hd,fun f hf=>hf.nn g⟩
  | succ m ih=>
   intro d hd hm
   by_cases hl:∃f,Way ts x y f/\f<d
   . obtain⟨f,hf,hlt⟩:=hl
     have:=hf.nn g
     exact ih f hf (by omega)
   . refine⟨d,hd,fun f hf=>?_⟩
     apply Classical.byContradiction
     intro hn
     exact hl ⟨f,hf,by omega⟩
 exact this _ d h (Nat.le_refl _)
theorem Nxt.exists {n:Int}{ts:List T3}(g:GW n ts){x y d:Int}(h:IsD ts x y d)(hne:x≠y):∃p,Nxt ts x y p:=by
 obtain⟨hw,hmin⟩:=h
 cases hw with
 | nil=>exact absurd rfl hne
 | cons ha w=>
  rename_i z l e
  obtain⟨f,hf⟩:=w.least g
  have h1:=hf.2 _ w
  have h2:=hmin _ (.cons ha hf.1)
  have:f=e:=by omega
  subst this
  exact⟨z,l,f,ha,hf,.cons ha hf.1,hmin⟩
theorem Nxt.ne {n:Int}{ts:List T3}(g:GW n ts){x y p:Int}(h:Nxt ts x y p):x≠y:=by
 obtain⟨l,b,ha,hb,hd⟩:=h
 intro e
 subst e
 have:=IsD.uniq hd (isD_self g x)
 have:=g.adj ha
 have:=hb.1.nn g
 omega
theorem Nxt.btw {n:Int}{ts:List T3}(g:GW n ts){x y p q:Int}(h:Btw ts x y p)(h':Nxt ts p y q):Btw ts x y q:=by
 obtain⟨a,b,h1,h2,h3⟩:=h
 obtain⟨l,c,ha,hc,hd⟩:=h'
 have e1:b=l+c:=IsD.uniq h2 hd
 refine⟨a+l,c,⟨h1.1.snoc ha,fun f hf=>?_⟩,hc,?_⟩
 . have:=h3.2 _ (hf.trans hc.1)
   omega
 . rw[e1,<-Int.add_assoc] at h3;exact h3
theorem Len.via {ts:List T3}{x y p a d:Int}{o:Option Int}(h1:IsD ts x p a)(h2:IsD ts x y d)(h3:Len ts p y o):∃b,o=some b/\d<=a+b:=by
 cases o with
 | none=>exact absurd (h1.1.symm.trans h2.1) (h3 _)
 | some b=>exact⟨b,rfl,h2.2 _ (h1.1.trans h3.1)⟩
end WM
namespace WM
end WM
namespace L2
open PySem PySem.Spec PyProof.Rows
def intO:KeyOrd:=⟨Int,fun a b=>decide (a<b),fun a=>decide_eq_false (by omega),fun a b c h1 h2=>decide_eq_true (by have:=of_decide_eq_true h1;have:=of_decide_eq_true h2;omega),
 fun a b c h=>by
  have h':a<c:=of_decide_eq_true h
  by_cases hab:a<b
  . exact .inl (decide_eq_true hab)
  . exact .inr (decide_eq_true (by omega)),
 fun a b h1 h2=>by have:=of_decide_eq_false h1;have:=of_decide_eq_false h2;omega⟩
theorem asks_ints {prog:Program}{w:World}{A:Around}{s:Shared}{a:Addr}{vs:List Value}{ns:List Int}(hI:IntsAre vs ns)(h2:2<=vs.length) :
 SortT.Asks prog w A s a vs (O:=intO) (fun i=>ns.getD i 0) oneType':=by
 have hl:=hI.length
 have at_:∀i,i<vs.length->∃t,vs.getD i Value.none = .int (ns.getD i 0) t:=fun i hi=>by
  obtain⟨n,hn⟩:∃n,ns[i]? = some n:=⟨_,List.getElem?_eq_getElem (by omega)⟩
  obtain⟨t,ht⟩:=hI.get i n hn
  exact⟨t,by rw[List.getD_eq_getElem?_getD,List.getD_eq_getElem?_getD,ht,hn];rfl⟩
 refine⟨fun h' Q E kh q=>?_,fun h' i j Q E kh hi hj q=>?_⟩
 . rw[ksk_kind (keys:=vs.toArray) (kz:=ns) (by simpa using hI) (by simpa using h2)]
   exact wpAny_pure q
 . obtain⟨t,e1⟩:=at_ i hi
   obtain⟨u,e2⟩:=at_ j hj
   rw[e1,e2]
   exact PySem.W.kat_lt_int q
theorem put_ints {vs:List Value}{ns:List Int}{out:List Nat}(hI:IntsAre vs ns)(p:SortT.Put (O:=intO) (fun i=>ns.getD i 0) vs.length out) :
 ∃ms:List Int,ms.Perm ns/\ms.Pairwise (· <= ·)/\Vals (ms.map V.int) (out.map fun i=>vs.getD i Value.none)/\ms.length=ns.length:=by
 have hl:=hI.length
 have hb:∀i∈out,i<vs.length:=fun i hi=>List.mem_range.mp (p.perm.mem_iff.mp hi)
 refine⟨out.map fun i=>ns.getD i 0,?_,?_,?_,?_⟩
 . have h1:=p.perm.map fun i=>ns.getD i 0
   have h2:(List.range vs.length).map (fun i=>ns.getD i 0)=ns:=by
    rw[show vs.length=ns.length by omega]
    apply List.ext_getElem?
    intro j
    rw[List.getElem?_map]
    by_cases hj:j<ns.length
    . rw[List.getElem?_range hj,List.getElem?_eq_getElem hj];simp[hj]
    . rw[List.getElem?_eq_none (by rw[List.length_range];omega),List.getElem?_eq_none (by omega)];rfl
   rw[h2] at h1
   exact h1
 . refine List.pairwise_iff_getElem.mpr fun i j hi hj hij=>?_
   rw[List.length_map] at hi hj
   have:=p.rise i j out[i] out[j] (Nat.le_of_lt hij) (by simp) (by simp)
   have h3:decide (ns.getD out[j] 0<ns.getD out[i] 0)=false:=this
   have h4:=of_decide_eq_false h3
   rw[List.getElem_map,List.getElem_map]
   omega
 . have:∀l:List Nat,(∀i∈l,i<vs.length)->Vals ((l.map fun i=>ns.getD i 0).map V.int) (l.map fun i=>vs.getD i Value.none):=by
    intro l
    induction l with
    | nil=>intro _;exact .nil
    | cons i l ih=>
     intro h
     have hi:=h i List.mem_cons_self
     obtain⟨n,hn⟩:∃n,ns[i]? = some n:=⟨_,List.getElem?_eq_getElem (by omega)⟩
     obtain⟨t,ht⟩:=hI.get i n hn
     refine .cons ?_ (ih fun j hj=>h j (List.mem_cons_of_mem _ hj))
     show RelV (V.int (ns.getD i 0)) (vs.getD i Value.none)
     rw[List.getD_eq_getElem?_getD,List.getD_eq_getElem?_getD,ht,hn]
     exact⟨t,rfl⟩
   exact this out hb
 . rw[List.length_map,p.perm.length_eq,List.length_range];omega
section
variable {X:Cx}
theorem call_sortedK (hc:X.calm=true):CallR X (.builtin "sorted") (fun xs H Q=>∃p kvs ns,xs=[.ref p]/\H p=some (.dK kvs)/\kvs.map (·.1)=ns.map Sum.inl/\ns.length<64 /\
 ∀(l:Addr)(ms:List Int),H l=none->ms.Perm ns->ms.Pairwise (· <= ·)->Q (.ref l) (upd H l (.lst (ms.map V.int)))):=by
 intro pins s σ H xs us Q I r h
 obtain⟨p,kvs,ns,rfl,hd,hks,h64,q⟩:=h
 obtain⟨u,rfl,rx⟩:=vals1 r
 cases rx
 obtain⟨hz,lo,vs,rel,o,es,ep,ho,hx,hdat,_,hpr,hnd⟩:=dk_of I.hok hd
 have key:∀(es:List DictEntry)(kvs:List (Key×V))(vs:List (Key×Value))(ns:List Int),KV kvs vs->Pairs (mixKind X.prog X.w) es vs->kvs.map (·.1)=ns.map Sum.inl->IntsAre (es.map (·.key)) ns:=by
  intro es
  induction es with
  | nil=>
   intro kvs vs ns rel pr e
   cases pr
   cases rel
   cases ns with
   | nil=>exact .nil
   | cons n ns=>simp at e
  | cons d es ih=>
   intro kvs vs ns rel pr e
   cases pr with
   | cons k1 k2 k3=>
    cases rel with
    | cons hpq t=>
     cases ns with
     | nil=>simp at e
     | cons n ns=>
      simp only[List.map_cons,List.cons.injEq] at e
      rw[<-hpq.1,e.1] at k1
      obtain⟨t0,e0⟩:=Value.isInt_shape (k:=n) (v:=d.key) k1
      rw[List.map_cons,e0]
      exact .cons n t0 (ih _ _ _ t k3 e.2)
 have hI:IntsAre (es.toList.map (·.key)) ns:=key _ _ _ _ rel hpr hks
 have hl:=hI.length
 refine SortT.sorted_dict (O:=intO) (key:=fun i=>ns.getD i 0) (κ:=oneType') (vs:=es.toList.map (·.key)) (I.ok.hd hc) lo ⟨o,ho,hx,hdat⟩ rfl (by omega) (fun h2 s' a fa kp=>asks_ints hI h2) fun h1 D h' t' out c pt k1 hD k2 ho=>?_
 obtain⟨ms,hp,hr,rz,hlz⟩:=put_ints hI pt
 have I1:Inv X pins σ H { s with heap:=h1,toks:=s.toks }:=I.kept k1
 refine⟨.ref D,_,sorted_fin (s:={ s with heap:=h1,toks:=s.toks }) (t':=t') I1 hD k2 ho rz ?_,rfl,q D ms (I1.hok.fresh hD) hp hr⟩
 have:sizeLine=16777216:=rfl
 rw[List.length_map]
 omega
end
def CodePhi (c:Addr)(q:Str):Heap->Prop:=fun h=>∃o vs t,h.get? c=some o/\o.data = .fields vs/\vs[1]? = some (.str q t)
def TabAt (H:Hp)(P:Addr)(pos:Pos)(q:Str):Prop:=∃ps,H P=some (.tbl ps)/\TriplesOk ps.toList/\(codeAmong pos ps.toList=none\/∃c,codeAmong pos ps.toList=some (.ref c)/\H c=some (.ext (CodePhi c q)))
def SmT (H H':Hp):Prop:=∀b o,H b=some o->(∃ps,o = .tbl ps)\/H' b=some o
theorem SmT.refl (H:Hp):SmT H H:=fun _ _ e=>.inr e
theorem SmT.of {H H':Hp}(h:Same H H'):SmT H H':=fun b o e=>.inr (h b o e)
theorem SmT.trans {H H1 H2:Hp}(a:SmT H H1)(b:SmT H1 H2):SmT H H2:=fun c o e=>by
 rcases a c o e with z | z
 . exact .inl z
 . exact b c o z
theorem TabAt.keep {H H':Hp}{P:Addr}{pos:Pos}{q:Str}(h:TabAt H P pos q)(k:∀o,H P=some o->H' P=some o)(k2:∀c φ,H c=some (.ext φ)->H' c=some (.ext φ)):TabAt H' P pos q:=by
 obtain⟨ps,a,b,c⟩:=h
 exact⟨ps,k _ a,b,c.imp id fun ⟨c,e,f⟩=>⟨c,e,k2 _ _ f⟩⟩
theorem TabAt.same {H H':Hp}{P:Addr}{pos:Pos}{q:Str}(h:TabAt H P pos q)(k:Same H H'):TabAt H' P pos q:=h.keep (fun _=>k _ _) fun _ _=>k _ _
def BmAt (mg:Str->Option Value)(h:Heap):Prop:=∃bm ob,mg "__builtins__" = some (.ref bm)/\bm≠builtinsNs/\h.get? bm=some ob/\ob.cls = .type "module" /\ ob.dict=some builtinsNs/\ob.data = .plain
theorem ns_inj {h:Heap}{a:Addr}{m m':Str->Option Value}(x:h.Ns a m)(y:h.Ns a m'):m=m':=by
 obtain⟨o,es,ep,e,d,_,f⟩:=x
 obtain⟨o',es',ep',e',d',_,f'⟩:=y
 rw[e] at e';cases e'
 rw[d] at d';cases d'
 funext n
 rw[<-f n,<-f' n]
section
variable {X:Cx}{pins:List (Addr×Obj)}{σ:St}{H:Hp}{s:Shared}
theorem Inv.growL {Pt c':Addr}{ps more:Array Value}{o:HO}{t':Nat}{h':Heap}(I:Inv X pins σ H s)(hP:H Pt=some (.tbl ps))(hp:s.heap.objs.size<=c')(k:∀b u,b≠Pt->s.heap.get? b=some u->h'.get? b=some u)
 (newP:h'.get? Pt=some (PySem.W.tabObj (ps++more)))(new:ObjOk X.prog X.w (upd (upd H Pt (.tbl (ps++more))) c' o) h' c' o) :
 Inv X pins σ (upd (upd H Pt (.tbl (ps++more))) c' o) { s with heap:=h',toks:=t' }:=by
 have hc:H c'=none:=I.hok.fresh hp
 have nP:∀b,H b=none->b≠Pt:=fun b n z=>by rw[z,hP] at n;cases n
 have nc:∀b u,s.heap.get? b=some u->b≠c':=fun b u e=>Nat.ne_of_lt (Nat.lt_of_lt_of_le (Heap.lt_size e) hp)
 have up:∀b u,H b=some u->b≠Pt->(upd (upd H Pt (.tbl (ps++more))) c' o) b=some u:=fun b u e hb=>by rw[upd_ne (ne_of_none e hc),upd_ne hb];exact e
 refine I.un ⟨fun b u e n _ _=>k b u (nP b n) e,fun b u e n _ _=>⟨u.slots,k b u (nP b n) e⟩,fun b u e n _=>by rw[upd_ne (nc b u e),upd_ne (nP b n)];exact n,fun b u e _=>?_,fun b xs e=>up b _ e (ne_of e hP (by intro z;cases z)),fun b ob u e=>up b _ e (ne_of e hP (by intro z;cases z)),fun b qs e=>?_⟩ ?_
 . by_cases hb:b=Pt
   . rw[hb];exact⟨_,newP⟩
   . exact⟨u,k b u hb e⟩
 . by_cases hb:b=Pt
   . subst hb
     rw[hP] at e;cases e
     exact⟨more,by rw[upd_ne (ne_of_none hP hc),upd_same]⟩
   . exact⟨#[],by rw[up b _ e hb];simp⟩
 . intro b u e
   by_cases hbc:b=c'
   . subst hbc;rw[upd_same] at e;cases e;exact new
   . rw[upd_ne hbc] at e
     by_cases hb:b=Pt
     . subst hb;rw[upd_same] at e;cases e;exact newP
     . rw[upd_ne hb] at e
       refine (I.hok b u e).stay (fun d v hd q=>k d v ?_ q) (fun d q=>up d _ q (ne_of q hP (by intro z;cases z))) fun d xs q=>up d _ q (ne_of q hP (by intro z;cases z))
       rcases hd with z | z
       . rw[z];exact hb
       . exact ne_of z hP (by intro z';cases z')
theorem lam_ev {P c:Addr}{params:Arguments}{body:Expr}{lscope:Scope}{lpos:Pos}{Q:Value->Shared->Prop}{E:Value->Shared->Prop}(I:Inv X pins σ H s)(T:TabAt H P lpos (X.env.qual ++ "<lambda>"))
 (hcode:X.env.code = .ref c)(C:PySem.W.CodeHd X.base c P)(hbm:BmAt X.mg X.base)(hfree:∀y∈lscope.names,y.2 = .free->X.env.kindOf y.1=some .cell)(hdef:defaultsOf params X.env=([],[]))
 (h:∀(f:Addr)(pm cv ctv:Value)(s':Shared)(H':Hp),Inv X pins σ H' s'->SmT H H'->TabAt H' P lpos (X.env.qual ++ "<lambda>")->s.heap.objs.size<=f ->
  s'.heap.get? f=some { cls:=.type "function",data:=.func (PySem.W.kla_fn "<lambda>" (X.env.qual ++ "<lambda>") params body lscope (clOf X.env.cells lscope.names []) pm cv ctv) } ->
  s'.heap.CodeRec cv (X.env.qual ++ "<lambda>")->Q (.ref f) s') :
 wpAny (model X.prog X.w) X.A (eval (.Lambda params body lscope lpos) X.env) Q E s:=by
 obtain⟨ps,hP,ht,hcase⟩:=T
 have oP:s.heap.get? P=some (PySem.W.tabObj ps):=I.hok P _ hP
 have hg:=I.mod.glob.keeps I.bk
 have C':PySem.W.CodeHd s.heap c P:=C.keeps I.bk
 have hcl:closureFor lscope X.env=pure (clOf X.env.cells lscope.names []):=closureFor_eq fun y hy hf=>I.ok.has y.1 (.inl (hfree y hy hf))
 have nP:∀b o,X.base.get? b=some o->b≠P:=fun b o e z=>by
  have:=(I.bs b o e).2
  rw[z,hP] at this;cases this
 have hgP:mainGlobals≠P:=by
  obtain⟨o,es,ep,e,_⟩:=I.mod.glob
  exact nP _ _ e
 have hb:s.heap.BuiltinsAt X.mg P:=by
  obtain⟨bm,ob,b1,b2,b3,b4,b5,b6⟩:=hbm
  refine⟨bm,ob,b1,b2,fun z=>?_,nP _ _ b3,I.bk _ _ b3,b4,b5,b6⟩
  obtain⟨o,es,ep,e,hd,_⟩:=I.mod.glob
  rw[z,e] at b3;cases b3;rw[hd] at b6;cases b6
 refine PySem.W.kla_eval hdef ?_
 rcases hcase with hn | ⟨c1,hc1,hH⟩
 . refine PySem.W.kla_makeFunction (mg:=X.mg) hcl I.ok.glob hg hcode C' oP ht hn hgP hb fun c' ctv h' tk hx hge hlt hrec htb=>?_
   obtain⟨c2,oc,vs,t,e2,hoc,hd,hv⟩:=id hrec
   cases e2
   have kp:∀b u,b≠P->s.heap.get? b=some u->(h'.push (PySem.W.kla_obj "<lambda>" (X.env.qual ++ "<lambda>") params body lscope (clOf X.env.cells lscope.names []) ((X.mg "__name__").getD .none) c' ctv)).get? b=some u:=fun b u hb' e=>Heap.get?_push_of_some _ (hx b u hb' e)
   have hcn:H c'=none:=I.hok.fresh hge
   have nPc:P≠c':=ne_of_none hP hcn
   refine h h'.objs.size ((X.mg "__name__").getD .none) (.ref c') ctv _ _ (I.growL (c':=c') (o:=.ext (CodePhi c' (X.env.qual ++ "<lambda>"))) (t':=tk) hP hge kp (Heap.get?_push_of_some _ htb) ⟨⟨oc,vs,t,Heap.get?_push_of_some _ hoc,hd,hv⟩,⟨oc,Heap.get?_push_of_some _ hoc⟩,fun h1 h2 ⟨o1,v1,t1,a1,a2,a3⟩ k12=>⟨o1,v1,t1,k12 _ a1,a2,a3⟩⟩) ?_ ?_ ?_ ?_ ?_
   . intro b o e
     by_cases hbP:b=P
     . left
       rw[hbP,hP] at e
       exact⟨ps,(Option.some.inj e).symm⟩
     . right
       rw[upd_ne (ne_of_none e hcn),upd_ne hbP];exact e
   . refine⟨ps ++ #[rawInt lpos.line,rawInt lpos.col,.ref c'],by rw[upd_ne nPc,upd_same],?_,.inr ⟨c',?_,upd_same⟩⟩
     . rw[Array.toList_append];exact TriplesOk_snoc _ _ _ _ ht
     . rw[Array.toList_append];exact codeAmong_snoc _ ht hn
   . have:=Nat.le_of_lt (Nat.lt_of_le_of_lt hge hlt)
     exact this
   . exact Heap.get?_push_size _ rfl
   . exact hrec.keeps fun b o e=>Heap.get?_push_of_some _ e
 . obtain⟨⟨oc,vs,t,hoc,hd,hv⟩,_⟩:=I.hok c1 _ hH
   refine PySem.W.kla_makeFunctionHit (mg:=X.mg) hcl I.ok.glob hg hcode C' oP ht hc1 hb fun ctv h' tk hk hsz=>?_
   refine h h'.objs.size ((X.mg "__name__").getD .none) (.ref c1) ctv _ _ (I.kept (t':=tk) fun b u e=>Heap.get?_push_of_some _ (hk b u e)) (SmT.refl _) ⟨ps,hP,ht,.inr ⟨c1,hc1,hH⟩⟩ hsz (Heap.get?_push_size _ rfl) ⟨c1,oc,vs,t,rfl,Heap.get?_push_of_some _ (hk _ _ hoc),hd,hv⟩
end
theorem free_of {X:Cx}{sc:Scope}(h:(sc.names.all fun y=>y.2 != .free || X.env.kindOf y.1==some .cell)=true):∀y∈sc.names,y.2 = .free->X.env.kindOf y.1=some .cell:=fun y hy e=>by
 have a:=List.all_eq_true.mp h y hy
 rw[e] at a
 simpa using a
section
variable {X:Cx}
def tMinKey (j:Nat)(P:Addr)(lpos:Pos)(q:Str)(t:TA):TE:=fun σ H Q=>t σ H fun vs H1=>∃(l d:Addr)(ns:List Int)(kvs:List (Key×V))(val:Int->Int),vs=[.ref l]/\H1 l=some (.lst (ns.map V.int))/\ns≠[]/\σ[j]? = some (some (.ref d))/\H1 d=some (.dK kvs) /\
 (∀n∈ns,valV kvs (Sum.inl n)=some (.int (val n)))/\TabAt H1 P lpos q/\∀(M:Int)(H2:Hp),M∈ns->(∀n∈ns,val M<=val n)->SmT H1 H2->TabAt H2 P lpos q->Q (.int M) H2
theorem pe_minkey {k j:Nat}{P c:Addr}{dn pn:Str}{e:Expr}{t:TA}{params:Arguments}{lscope:Scope}{lpos pos np p1 p2 p3 kpos:Pos}
 (hc:X.calm=true)(hr:Room (k+1) X.A)(hg:Gl X "min") (hm:X.mg "min" = none) (he:PA X [e] t)(hcode:X.env.code = .ref c)(C:PySem.W.CodeHd X.base c P)(hbm:BmAt X.mg X.base)
 (hN:X.N[j]? = some dn)(hkd:X.env.kindOf dn=some .cell)(hS:lscope.kind = .function)(hco:lscope.isCoroutine=false)(hgen:lscope.isGenerator=false)(hcell:∀x∈lscope.names,x.2 ≠ .cell)
 (hfree:∀y∈lscope.names,y.2 = .free->X.env.kindOf y.1=some .cell)(hdn:lscope.names.lookup dn=some .free)(hpn:lscope.names.lookup pn=some .local)(hdef:defaultsOf params X.env=([],[]))
 (hbind:∀(q:Str)(body:Expr)(cl:List (Str×Addr))(pm cdv ct v:Value),bindArgs (PySem.W.kla_fn "<lambda>" q params body lscope cl pm cdv ct) ⟨[v],[]⟩=pure [(pn,v)])
 (hd1:(dn==("__debug__" : Str))=false:=by decide) (hd2:(dn==("__classdict__" : Str))=false:=by decide) (hd3:(pn==("__debug__" : Str))=false:=by decide)
 (hs1:backTo pos (starEach [e] X.env)=(false,eval e X.env)::backTo pos (starEach [] X.env):=by rfl)(hs2:(backTo pos (starEach [e] X.env)).any (·.1)=false:=by rfl) :
 PE X (.Call (.Name "min" np) [e] [⟨some "key",.Lambda params (.Subscript (.Name dn p1) (.Name pn p2) p3) lscope lpos,kpos⟩] pos) (tMinKey j P lpos (X.env.qual ++ "<lambda>") t):=by
 intro pins s σ H Q I h
 refine wpAny_Call_Name_kw (ld_blt I hg hm (by decide +kernel:bootBuiltins "min" = some (.builtin "min")) ?_)
 refine PyProof.Rows.callWith_kw (thn (he pos pins s σ H _ I h) fun us s1 ⟨vs,H1,I1,r,q1⟩=>?_) hs1 hs2
 obtain⟨l,d,ns,kvs,val,rfl,hl,hne,hσ,hdd,hval,T,q⟩:=q1
 obtain⟨u,rfl,rx⟩:=vals1 r
 cases rx
 show wpAny _ _ (evalAll ((do let v <-eval (.Lambda params (.Subscript (.Name dn p1) (.Name pn p2) p3) lscope lpos) X.env;standAt pos;pure v)::[])) _ _ s1
 refine wpAny_evalAll_cons (wpAny_bind (lam_ev I1 T hcode C hbm hfree hdef fun f pm cv ctv s2 H2 I2 sm T2 hfge hf hrec=>wpAny_bind (wpAny_standAt (wpAny_pure (wpAny_evalAll_nil ?_)))))
 show wpAny _ _ (call (.builtin "min") [.ref l] [(Str.ofString "key",.ref f)]) _ _ s2
 have keep2:∀b o,H1 b=some o->(∀ps,o ≠ .tbl ps)->H2 b=some o:=fun b o e ho=>by
  rcases sm b o e with ⟨ps,z⟩ | z
  . exact absurd z (ho ps)
  . exact z
 have hl2:H2 l=some (.lst (ns.map V.int)):=keep2 _ _ hl (by intro ps z;cases z)
 have hd2':H2 d=some (.dK kvs):=keep2 _ _ hdd (by intro ps z;cases z)
 obtain⟨_,its,nn,rv,ho⟩:=I2.hok l _ hl2
 obtain⟨hz,lo,vs,rel,od,es,ep,hod,hdr⟩:=dk_of I2.hok hd2'
 have hI:IntsAre its ns:=intsAre_of rv
 obtain⟨m,F0⟩:=I2.fr
 have notL:∀b o,H2 b=some o->b≠X.env.locals:=fun b o e z=>by rw[z,I2.free] at e;cases e
 have kp:∀(h':Heap)(own:List (Addr×Obj)),Fr X.base X.env.locals h' m->News X.base X.env.locals h' (allNews X.base s2.heap X.env.locals++own)->∀b o,b≠X.env.locals->s2.heap.get? b=some o->h'.get? b=some o:=fun h' own F' N' b o hb e'=>by
  cases qb:X.base.get? b with
  | some u=>
   have z:=I2.bk b u qb
   rw[e'] at z;cases z
   exact F'.keep b _ qb
  | none=>exact (N' (b,o) (List.mem_append_left _ (mem_allNews hb qb e'))).1
 obtain⟨m',hn',hloc⟩:=I2.loc
 have em:m'=m:=ns_inj hn' F0.ns
 subst em
 obtain⟨ud,rd,lk⟩:=hloc j dn (.ref d) hN hσ (.inr (.inl hkd))
 cases (show ud=Value.ref d from rd)
 obtain⟨cc,hcc,oc,hoc,hdc⟩:∃cc,X.env.cells.lookup dn=some cc/\s2.heap.IsCell cc (some (.ref d)):=by
  rcases lk with ⟨z,_⟩ | ⟨_,cc,a,b⟩
  . rw[hkd] at z;cases z
  . exact⟨cc,a,b⟩
 have hcl:(clOf X.env.cells lscope.names []).lookup dn=some cc:=by
  obtain⟨c',hc'⟩:=clOf_has ⟨cc,hcc⟩ lscope.names [] (PySem.mem_of_lookup hdn)
  rcases clOf_sub _ _ hc' with z | z
  . simp at z
  . rw[hcc] at z;cases z;exact hc'
 have hsz0:X.env.locals<s1.heap.objs.size:=I1.lt
 have hfL:f≠X.env.locals:=Nat.ne_of_gt (Nat.lt_of_lt_of_le hsz0 hfge)
 refine PyProof.Rows.kmk_min_letter (h₀:=X.base) (L:=X.env.locals) (m:=m') (news:=allNews X.base s2.heap X.env.locals) (ns:=ns) val (I2.ok.hd hc) F0 news_all (fun h' F' N'=>?_) hI (List.length_pos_iff.mpr hne) (fun n tn h' tk own hn F' N'=>?_) (fun M tM h' tk F' N' hM hbest=>?_)
 . exact⟨_,kp h' [] F' (by rw[List.append_nil];exact N') l _ (notL _ _ hl2) ho,rfl,nn,rfl⟩
 . have kk:=kp h' own F' N'
   obtain⟨c1,o1,v1,t1,e1,ho1,hd1',hv1⟩:=id hrec
   subst e1
   have hc1L:c1≠X.env.locals\/True:=.inr trivial
   have rec':h'.CodeRec (.ref c1) (X.env.qual ++ "<lambda>"):=by
    refine⟨c1,o1,v1,t1,rfl,kk c1 o1 (fun z=>?_) ho1,hd1',hv1⟩
    obtain⟨oL,esL,epL,hoL,hdL,_⟩:=F0.ns
    rw[z,hoL] at ho1;cases ho1;rw[hdL] at hd1';cases hd1'
   refine wpAny_call (PySem.W.kla_callFunE hr.in1.depth (kk f _ hfL hf) rfl hco hgen rfl rec' ?_)
   rw[hbind]
   refine wpAny_pure (wpAny_newFunctionEnv hcell (fun y hy=>?_) (fun h₁ hns hsb=>?_) hS)
   . obtain rfl:y=(pn,Value.int n tn):=List.mem_singleton.mp hy
     exact hpn
   . have hk₁:∀b o,h'.get? b=some o->h₁.get? b=some o:=fun b o e'=>hsb.extBut b o (Nat.ne_of_lt (Heap.lt_size e')) (Heap.get?_push_of_some _ e')
     refine⟨I2.mod.nolimit.keeps fun b o e'=>hk₁ b o (F'.keep b o e'),?_⟩
     show codeAny _ _ (.expr (.Subscript (.Name dn p1) (.Name pn p2) p3) (PySem.W.envX (X.env.qual ++ "<lambda>") lscope h'.objs.size f (.ref c1) (clOf X.env.cells lscope.names []))) _ _
     refine PySem.W.kla_codeExpr (subD_of PySem.F.slot_dict_getitem.lookup (fun _ _=>rfl) ?_)
     refine wpAny_Name (wpAny_loadName_free hS (show (PySem.W.envX (X.env.qual ++ "<lambda>") lscope h'.objs.size f (.ref c1) (clOf X.env.cells lscope.names [])).kindOf dn=some .free from hdn) hcl ⟨oc,hk₁ _ _ (kk cc oc (I2.cne dn cc hcc) hoc),hdc⟩ ?_ hd2) hd1
     refine wpAny_Name (wpAny_loadName_local hS (show (PySem.W.envX (X.env.qual ++ "<lambda>") lscope h'.objs.size f (.ref c1) (clOf X.env.cells lscope.names [])).kindOf pn=some .local from hpn) hns (v:=.int n tn) (by simp) ?_) hd3
     have dd:h₁.DictOf (mixKind X.prog X.w) d vs:=⟨od,es,ep,hk₁ _ _ (kk d od (notL _ _ hd2') hod),hdr⟩
     refine⟨dd.typeIs,?_⟩
     obtain⟨w',hw,rw'⟩:=RelO.some_of (v:=.int (val n)) (o:=valueAt vs (Sum.inl n)) (by rw[<-hval n hn];exact rel.val (Sum.inl n))
     obtain⟨t',rfl⟩:=rw'
     refine wpAny_getItem_of (kV_is (k:=Sum.inl n) ⟨tn,rfl⟩) dd.mapOf hw ?_
     exact⟨h₁,_,t',rfl,rfl,⟨F'.ns.keeps hk₁,fun b o e'=>hk₁ b o (F'.keep b o e'),F'.above⟩,fun p hp=>⟨hk₁ _ _ (N' p hp).1,(N' p hp).2⟩⟩
 . have kk:=kp h' [] F' (by rw[List.append_nil];exact N')
   have I3:Inv X pins σ H2 { s2 with heap:=h',toks:=tk }:=by
    refine I2.step (g':=s2.gens) (d':=s2.drawn) (ch:=[]) (fun _ z=>nomatch z) (fun b o hb _ _ e' _=>kk b o hb e') (fun b o hb _ _ e' _=>⟨o.slots,kk b o hb e'⟩) (fun _ _ _ _ n=>n) (fun b o _ e'=>?_) (fun _ _ e'=>e') (fun _ _ _ e'=>e') (fun b ps e'=>⟨#[],by rw[e'];simp⟩) (fun mm hmm=>?_) ?_ I2.bare
    . by_cases hb:b=X.env.locals
      . obtain⟨oL,esL,epL,hoL,_⟩:=F'.ns
        exact⟨oL,by rw[hb];exact hoL⟩
      . exact⟨o,kk b o hb e'⟩
    . have:=ns_inj hmm F0.ns
      subst this
      exact F'.ns
    . intro b u e'
      refine (I2.hok b u e').stay (fun x v hx z=>kk x v ?_ z) (fun _ z=>z) fun _ _ z=>z
      rcases hx with z1 | z1
      . rw[z1];exact notL _ _ e'
      . exact notL _ _ z1
   exact⟨.int M,H2,I3,⟨tM,rfl⟩,q M H2 hM hbest sm T2⟩
end
theorem law_callT {P:Program}{w:World}{K:PySem.W.Frag}{mg mb:Str->Option Value}{CX:CXT}{k:Nat}{fa a PT:Addr}{fd:FuncData}{x:Str}{sp:Sp}{s₁:Shared}{vs:List Value}{ns:List Int}
 (KX:K.In s₁.heap)(hns:s₁.heap.Ns mainGlobals mg)(hb:s₁.heap.Ns builtinsNs mb)(hbb:∀x:Str,x ≠ "__name__" -> mb x=bootBuiltins x) (hlim:s₁.heap.NoLimit)(hg:s₁.gens = #[])
 (ha:s₁.heap.get? a=some { cls:=.type "list",data:=.seq vs.toArray }) (hi:IntsAre vs ns)(hl:ns.length<=sizeLine)(hr:Room k callerA)
 (hT:s₁.heap.get? PT=some (PySem.W.tabObj #[]))(hC:isCodeTable s₁.heap PT)(hK:PySem.W.noTabs K=true)(hbm:BmAt mg s₁.heap)
 (F:∀base:Heap,K.In base->base.Ns mainGlobals mg->BmAt mg base->FnOk P w K mg base CX k fa fd [x] sp)(hbind:∀(s:Shared)(u:Value),BindsTo s fd ⟨[u],[]⟩ [(x,u)])
 (hsp:∀H:Hp,H PT=some (.tbl #[])->SqL K H a (ns.map V.int)->sp [.ref a] H (fun v _=>v = .bl true) fun _ _ _=>False)
 (hCX:∀H e s',CX [] H s₁ (fun _ _ _=>False) e s'->False) :
 codeAny (model P w) callerA (.call (.ref fa) ⟨[.ref a],[]⟩) (fun r s'=>r = .ok (.ret (.bool true))/\OldK s₁.heap s'.heap/\s'.os=s₁.os/\AllBare s'.gens) s₁:=by
 have rv:=vals_ints hi
 have lenV:=hi.length
 have npa:PT≠a:=fun e=>by rw[e,ha] at hT;cases hT
 have kPT:K.lookup PT=none:=by
  cases q:K.lookup PT with
  | none=>rfl
  | some o=>
   have e:=KX PT o q
   rw[hT] at e
   cases e
   have h2:=List.all_eq_true.mp hK (PT,_) (PySem.W.mem_of_lookupK q)
   exact absurd (show false=true from h2) Bool.false_ne_true
 have core:∀H:Hp,(∀b u,H b=some u->(b=PT/\u = .tbl #[])\/(b=a/\K.lookup a=none/\∃o xs,u = .frz o (.lst xs)))->H PT=some (.tbl #[])->SqL K H a (ns.map V.int)->HOk P w H s₁.heap ->
  codeAny (model P w) callerA (.call (.ref fa) ⟨[.ref a],[]⟩) (fun r s'=>r = .ok (.ret (.bool true))/\OldK s₁.heap s'.heap/\s'.os=s₁.os/\AllBare s'.gens) s₁:=by
  intro H hA hP hS hok
  have base_of:∀{b:Addr}{o:Obj},s₁.heap.get? b=some o->H b=none->(hidT s₁.heap H).get? b=some o:=fun e n=>hidT_get e n
  have noA:∀{b:Addr}{o:Obj},s₁.heap.get? b=some o->(∀ps,o.data ≠ .fields ps)->(∀ps n,o.data ≠ .seq ps n)->H b=none:=fun {b o} e d1 d2=>by
   cases q:H b with
   | none=>rfl
   | some u=>
    rcases hA b u q with ⟨rfl,_⟩ | ⟨rfl,_⟩
    . rw[hT] at e;cases e;exact absurd rfl (d1 #[])
    . rw[ha] at e;cases e;exact absurd rfl (d2 _ _)
  have nsK:∀{b:Addr}{m:Str->Option Value},s₁.heap.Ns b m->(hidT s₁.heap H).Ns b m:=fun {b m} ⟨o,es,ep,e,d,r⟩=>⟨o,es,ep,base_of e (noA e (fun ps z=>by rw[d] at z;cases z) (fun ps n z=>by rw[d] at z;cases z)),d,r⟩
  have hKb:K.In (hidT s₁.heap H):=fun b o e=>base_of (KX b o e) (by
   cases q:H b with
   | none=>rfl
   | some u=>
    rcases hA b u q with ⟨rfl,_⟩ | ⟨rfl,z,_⟩
    . rw[kPT] at e;cases e
    . rw[z] at e;cases e)
  have hBm:BmAt mg (hidT s₁.heap H):=by
   obtain⟨bm,ob,b1,b2,b3,b4,b5,b6⟩:=hbm
   exact⟨bm,ob,b1,b2,base_of b3 (noA b3 (fun ps z=>by rw[b6] at z;cases z) (fun ps n z=>by rw[b6] at z;cases z)),b4,b5,b6⟩
  have hM:Mod K mg (hidT s₁.heap H):=⟨hKb,nsK hns,⟨mb,nsK hb,hbb⟩,let ⟨mc,h1,h2⟩:=hlim;⟨mc,nsK h1,h2⟩⟩
  have e0:Env0 P w K mg (hidT s₁.heap H) callerA [] s₁ H:=⟨rfl,hM,fun b o e=>of_hidT e,Nat.le_of_eq (hidT_size _ _),trivial,fun b hb=>absurd (show b∈([]:List Addr) from hb) (by simp),hok,.of_eq hg⟩
  refine codeAny_mono ((F _ hKb (nsK hns) hBm).run callerA [] s₁ H ⟨[.ref a],[]⟩ [.ref a] [.ref a] _ _ hr e0 (hbind s₁ (.ref a)) (.cons rfl .nil) (hsp H hP hS)) fun r s' h=>?_
  cases r with
  | error e=>exact (hCX H e s' h).elim
  | ok fl=>
   cases fl with
   | next=>exact False.elim h
   | brk=>exact False.elim h
   | cont=>exact False.elim h
   | ret u=>
    obtain⟨v,H',os,bare,un,hok',r',q⟩:=h
    have q':v = .bl true:=q
    subst q'
    obtain rfl:u=Value.bool true:=r'
    obtain⟨more,hPn⟩:=un.tbls PT _ hP
    have objP:s'.heap.get? PT=some { cls:=.none,data:=.fields (#[]++more) }:=hok' PT _ hPn
    have keep:∀b o,b≠PT->s₁.heap.get? b=some o->s'.heap.get? b=some o:=fun b o hb e=>by
     cases q:H b with
     | none=>exact un.keep b o e q (by intro z;exact absurd (show b∈([]:List Addr) from z) (by simp)) (by simp)
     | some u=>
      rcases hA b u q with ⟨z,_⟩ | ⟨_,_,ob,xs,z⟩
      . exact absurd z hb
      . subst z
        have z2:=un.frzs b ob _ q
        obtain⟨e1,_⟩:=hok b _ q
        obtain⟨e2,_⟩:=hok' b _ z2
        rw[e] at e1;cases e1
        exact e2
    refine⟨rfl,⟨fun b o e=>?_,fun b o e=>?_⟩,os,bare⟩
    . by_cases hb:b=PT
      . subst hb
        rw[hT] at e;cases e
        exact .inr (.inl ⟨hC,rfl,#[],more,rfl,objP⟩)
      . exact .inl (keep b o hb e)
    . by_cases hb:b=PT
      . rw[hb];exact⟨_,objP⟩
      . exact⟨o,keep b o hb e⟩
 have okP:∀H:Hp,ObjOk P w H s₁.heap PT (.tbl #[]):=fun H=>hT
 cases hk:K.lookup a with
 | some o=>
  have e:=KX a o hk
  rw[ha] at e
  cases e
  refine core (fun b=>if b=PT then some (.tbl #[]) else none) (fun b u z=>?_) (if_pos rfl) (.inr ⟨_,vs.toArray,_,hk,rfl,rfl,rfl,by rw[List.size_toArray,lenV];exact hl,by simpa using rv⟩) (fun b u z=>?_)
  all_goals
   have z':(if b=PT then some (HO.tbl #[]) else none)=some u:=z
   by_cases hb:b=PT
   . rw[if_pos hb] at z';cases z'
     first
      | exact .inl ⟨hb,rfl⟩
      | (subst hb;exact okP _)
   . rw[if_neg hb] at z';cases z'
 | none=>
  refine core (fun b=>if b=PT then some (.tbl #[]) else if b=a then some (.frz { cls:=.type "list",data:=.seq vs.toArray } (.lst (ns.map V.int))) else none) (fun b u z=>?_) (if_pos rfl)
   (.inl (.inr ⟨{ cls:=.type "list",data:=.seq vs.toArray },by show (if a=PT then _ else if a=a then _ else _)=_;rw[if_neg npa.symm,if_pos rfl]⟩)) (fun b u z=>?_)
  all_goals
   have z':(if b=PT then some (HO.tbl #[]) else if b=a then some (.frz { cls:=.type "list",data:=.seq vs.toArray } (.lst (ns.map V.int))) else none)=some u:=z
   by_cases hb:b=PT
   . rw[if_pos hb] at z';cases z'
     first
      | exact .inl ⟨hb,rfl⟩
      | (subst hb;exact okP _)
   . rw[if_neg hb] at z'
     by_cases hba:b=a
     . rw[if_pos hba] at z';cases z'
       first
        | exact .inr ⟨hba,hk,_,_,rfl⟩
        | (subst hba;exact⟨ha,by rw[List.length_map];exact hl,vs,_,rv,ha⟩)
     . rw[if_neg hba] at z';cases z'
theorem walk_T {l:PySem.W.OpenLaw}{n k:Nat}{q:Program}{loose:List Str}{XP:(Str->Option Value)->Heap->Prop}{YP:World->Heap->Prop}{d:DefRec}{K:Params->PySem.W.Frag}{CX:CXT}{sp:PySem.W.Frag->Addr->Sp}{x tn:Str}
 (hn:l.most=some n)(hn2:n<=sizeLine)(hdf:d.params.defaults=[])(hr:Room k callerA)(hrec:∃dn,(recsOf q).find? (fun e=>e.name==tn)=some dn)
 (hY:∀(w:World)(h:Heap),YP w h->(K w.params).In h)
 (F:∀(w:World)(mg:Str->Option Value)(fa:Addr)(h:Heap),(K w.params).In h->h.Ns mainGlobals mg->mg d.name=some (.ref fa) ->
  ∃(fd:FuncData)(c PT:Addr),PySem.W.tabIn (K w.params) tn=some (c,PT)/\PySem.W.noTabs (K w.params)=true/\(∀(s:Shared)(u:Value),BindsTo s fd ⟨[u],[]⟩ [(x,u)]) /\
   ∀base:Heap,(K w.params).In base->base.Ns mainGlobals mg->BmAt mg base->FnOk l.prog w (K w.params) mg base CX k fa fd [x] (sp (K w.params) PT))
 (hsp:∀(K:PySem.W.Frag)(PT:Addr)(H:Hp)(a:Addr)(ns:List Int),ns.length<=n->H PT=some (.tbl #[])->SqL K H a (ns.map V.int)->sp K PT [.ref a] H (fun v _=>v = .bl true) fun _ _ _=>False)
 (hCX:∀(H:Hp)(s:Shared)(e:Value)(s':Shared),CX [] H s (fun _ _ _=>False) e s'->False) :
 PySem.W.WalkO q loose XP YP l.row.toRowW d [] (fun f vs=>PySem.call f vs):=by
 refine Att.attach_call hn hdf fun w s₀ s₁ mg mb fa o pm cd doc a vs ns G Y ho hd hcd hmg hobj hints hlen hg=>?_
 have KX:=hY w _ Y
 obtain⟨fd,c,PT,htab,hnt,hb,hF⟩:=F w mg fa _ KX G.T.g hmg
 obtain⟨dn,hdn⟩:=hrec
 obtain⟨C,hPT⟩:=PySem.W.tab_of G.T KX hdn htab
 exact law_callT KX G.T.g G.T.b G.T.builtins G.T.nolimit hg hobj hints (Nat.le_trans hlen hn2) hr hPT (C.tab hPT).isCodeTable hnt G.T.bmain hF hb (fun H hP hS=>hsp _ PT H a ns hlen hP hS) fun H e s'=>hCX H s₁ e s'
end L2
namespace L2
open PySem PySem.Spec PyProof.Rows
structure FunC (K:PySem.W.Frag)(x qual:Str)(st:Stmt)(f:Addr)(fd:FuncData)(c:Addr):Prop where
 ex:∃(oc:Value)(od:Option Addr)(kV doc pm:Value)(an:Option Addr)(ct:Value)(osl:Array (Option Value)),
  fd=PySem.W.fnOf x qual (defArgs st) (defBody st) (defScope st) .none kV doc pm an (.ref c) ct/\K.lookup f=some ⟨oc,od,.func fd,osl⟩/\PySem.W.codeIn K (.ref c) qual=true
 kp:PySem.W.keepIn K (.ref f)=true
theorem FunC.fn {K:PySem.W.Frag}{x qual:Str}{st:Stmt}{f c:Addr}{fd:FuncData}(F:FunC K x qual st f fd c):Fun K x qual st f fd:=by
 obtain⟨oc,od,kV,doc,pm,an,ct,osl,h⟩:=F.ex
 exact⟨⟨oc,od,kV,doc,pm,an,.ref c,ct,osl,h⟩,F.kp⟩
theorem FunC.ok {P:Program}{w:World}{K:PySem.W.Frag}{mg:Str->Option Value}{base:Heap}{x qual:Str}{st:Stmt}{f c:Addr}{fd:FuncData}{N ps:List Str}{k:Nat}{sp:Sp}(F:FunC K x qual st f fd c)(S:FnScope N ps (defScope st))(len:∀vs H Q E,sp vs H Q E->vs.length=ps.length)
 (hbody:∀(A:Around)(outer:List Env)(s:Shared)(H:Hp)(vs:List V)(Q:VK)(E:XK),Room k (A.deeper (envOfC qual (defScope st) s.heap.objs.size f (.ref c)))->sp vs H Q E ->
  ∃t,PSs (cxOf CX0 P w K mg base N qual (defScope st) f (.ref c) A outer s H E).nox (defBody st) t/\t { nx:=fun _ H'=>Q .non H',rt:=Q } (start N vs) H):FnOk P w K mg base CX0 (k+1) f fd ps sp:=by
 obtain⟨oc,od,kV,doc,pm,an,ct,osl,rfl,lk,hcd⟩:=F.ex
 refine fn_of lk hcd S len fun A outer s H vs Q E hr hsp=>?_
 obtain⟨t,h,q⟩:=hbody A outer s H vs Q E hr hsp
 exact⟨t,h.nox,q⟩
theorem funC_mk {K:PySem.W.Frag}{x qual:Str}{st:Stmt}{f c:Addr}{oc:Value}{od an:Option Addr}{osl:Array (Option Value)}{kV doc pm ct:Value}(l:K.lookup f=some ⟨oc,od,.func (PySem.W.fnOf x qual (defArgs st) (defBody st) (defScope st) .none kV doc pm an (.ref c) ct),osl⟩)
 (hc:PySem.W.codeIn K (.ref c) qual=true)(k:PySem.W.keepIn K (.ref f)=true):FunC K x qual st f (PySem.W.fnOf x qual (defArgs st) (defBody st) (defScope st) .none kV doc pm an (.ref c) ct) c:=⟨⟨oc,od,kV,doc,pm,an,ct,osl,rfl,l,hc⟩,k⟩
section
variable {κ:Type} [DecidableEq κ]
theorem mem_putK {kvs:List (κ×V)}{k:κ}{v:V}{kv:κ×V}(h:kv∈putK kvs k v):kv∈kvs\/kv=(k,v):=by
 unfold putK at h
 split at h
 . obtain⟨q,hq,e⟩:=List.mem_map.mp h
   by_cases hk:q.1=k
   . rw[if_pos hk] at e;rw[<-e,hk];exact .inr rfl
   . rw[if_neg hk] at e;rw[<-e];exact .inl hq
 . rcases List.mem_append.mp h with q | q
   . exact .inl q
   . exact .inr (List.mem_singleton.mp q)
theorem nd_put {kvs:List (κ×V)}{k:κ}{v:V}(h:(kvs.map (·.1)).Nodup):((putK kvs k v).map (·.1)).Nodup:=by
 cases e:valV kvs k with
 | none=>exact nd_putK v h e
 | some x=>
  have ha:(kvs.any fun kv=>decide (kv.1=k))=true:=by rw[valV_any,e];rfl
  unfold putK
  rw[if_pos ha]
  have e3:(kvs.map fun kv=>if kv.1=k then (kv.1,v) else kv).map (·.1)=kvs.map (·.1):=by
   rw[List.map_map]
   refine List.map_congr_left fun kv _=>?_
   show (if kv.1=k then (kv.1,v) else kv).1=kv.1
   split <;> rfl
  rw[e3];exact h
theorem valV_drop (k j:κ):∀kvs:List (κ×V),valV (dropK kvs k) j=if j=k then none else valV kvs j
 | []=>by show (none:Option V)=_;split <;> rfl
 | p::r=>by
  have ih:=valV_drop k j r
  by_cases e:p.1=k
  . rw[dropK_pos e,ih]
    by_cases hj:j=k
    . rw[if_pos hj,if_pos hj]
    . rw[if_neg hj,if_neg hj,valV_neg fun z=>hj (z.symm.trans e)]
  . rw[dropK_neg e]
    by_cases hj:p.1=j
    . rw[valV_pos hj,valV_pos hj,if_neg fun z=>e (hj.trans z)]
    . rw[valV_neg hj,valV_neg hj,ih]
end
def unkW:Key->Int
 | .inl i=>i
 | .inr _=>0
structure WD (n:Int)(kvs:List (Key×V))(wt:Int->Option Int):Prop where
 sh:∀kv∈kvs,∃p d,kv=(Sum.inl p,V.int d)/\0<=p/\p<n
 nd:(kvs.map (·.1)).Nodup
 at_:∀p:Int,valV kvs (Sum.inl p)=(wt p).map V.int
def keysW (kvs:List (Key×V)):List Int:=kvs.map fun kv=>unkW kv.1
theorem WD.keys {n:Int}{kvs:List (Key×V)}{wt:Int->Option Int}(h:WD n kvs wt):kvs.map (·.1)=(keysW kvs).map Sum.inl:=by
 unfold keysW
 rw[List.map_map]
 refine List.map_congr_left fun kv hkv=>?_
 obtain⟨p,d,e,_⟩:=h.sh kv hkv
 rw[e];rfl
theorem WD.nds {n:Int}{kvs:List (Key×V)}{wt:Int->Option Int}(h:WD n kvs wt):(keysW kvs).Nodup:=by
 have e:=h.nd
 rw[h.keys,List.Nodup,List.pairwise_map] at e
 exact e.imp fun h e'=>h (by rw[e'])
theorem WD.len {n:Int}{kvs:List (Key×V)}{wt:Int->Option Int}(h:WD n kvs wt)(h0:0<=n):(kvs.length:Int)<=n:=by
 have:=WM.nd_len (n:=n.toNat) h.nds fun x hx=>by
  obtain⟨kv,hkv,e⟩:=List.mem_map.mp hx
  obtain⟨p,d,e2,h1,h2⟩:=h.sh kv hkv
  have:x=p:=by rw[<-e,e2];rfl
  omega
 unfold keysW at this
 rw[List.length_map] at this
 omega
theorem WD.mem {n:Int}{kvs:List (Key×V)}{wt:Int->Option Int}(h:WD n kvs wt){p:Int}:p∈keysW kvs↔∃e,wt p=some e:=by
 have e:p∈keysW kvs↔(Sum.inl p:Key)∈kvs.map (·.1):=by
  rw[h.keys]
  constructor
  . intro m;exact List.mem_map.mpr ⟨p,m,rfl⟩
  . intro m
    obtain⟨q,hq,e⟩:=List.mem_map.mp m
    cases e;exact hq
 rw[e]
 have ha:=h.at_ p
 constructor
 . intro m
   cases hw:wt p with
   | some d=>exact⟨d,rfl⟩
   | none=>rw[hw] at ha;exact absurd m (valV_not ha)
 . rintro ⟨d,hw⟩
   rw[hw] at ha
   exact valV_in ha
theorem WD.one {n s:Int}(h0:0<=s)(h1:s<n):WD n [(Sum.inl s,V.int 0)] (fun q=>if q=s then some 0 else none):=by
 refine⟨fun kv hkv=>?_,by simp,fun p=>?_⟩
 . rw[List.mem_singleton.mp hkv];exact⟨s,0,rfl,h0,h1⟩
 . by_cases e:p=s
   . rw[if_pos e,e];exact valV_pos rfl
   . rw[if_neg e];exact (valV_neg fun z=>e (Sum.inl.inj z).symm).trans valV_nil
theorem WD.put {n:Int}{kvs:List (Key×V)}{wt:Int->Option Int}(h:WD n kvs wt){p d:Int}(h0:0<=p)(h1:p<n):WD n (putK kvs (Sum.inl p) (.int d)) (fun q=>if q=p then some d else wt q):=by
 refine⟨fun kv hkv=>?_,nd_put h.nd,fun q=>?_⟩
 . rcases mem_putK hkv with z | z
   . exact h.sh kv z
   . exact⟨p,d,z,h0,h1⟩
 . rw[valV_put]
   by_cases e:q=p
   . rw[if_pos e,if_pos (by rw[e])];rfl
   . rw[if_neg e,if_neg fun z=>e (Sum.inl.inj z)];exact h.at_ q
theorem WD.drop {n:Int}{kvs:List (Key×V)}{wt:Int->Option Int}(h:WD n kvs wt){p:Int}:WD n (dropK kvs (Sum.inl p)) (fun q=>if q=p then none else wt q):=by
 refine⟨fun kv hkv=>h.sh kv (dropK_mem hkv),nd_dropK h.nd,fun q=>?_⟩
 rw[valV_drop]
 by_cases e:q=p
 . rw[if_pos e,if_pos (by rw[e])];rfl
 . rw[if_neg e,if_neg fun z=>e (Sum.inl.inj z)];exact h.at_ q
def oV:Option Int->V
 | none=>.non
 | some d=>.int d
theorem ixN_in {n:Nat}{i:Int}(h0:0<=i)(h1:i<n):ixN n i=some i.toNat:=by
 unfold ixN
 rw[if_pos h0,if_pos h1]
theorem atI_in {α:Type}{xs:List α}{i:Int}{v:α}(h0:0<=i)(h:xs[i.toNat]? = some v):atI xs i=some v:=by
 have:=atI_nat h
 rwa [Int.toNat_of_nonneg h0] at this
theorem SmT.get {H H':Hp}(k:SmT H H'){b:Addr}{o:HO}(e:H b=some o)(h:∀ps,o ≠ .tbl ps):H' b=some o:=by
 rcases k b o e with ⟨ps,z⟩ | z
 . exact absurd z (h ps)
 . exact z
theorem SmT.chg {H H':Hp}{l:Addr}{o:HO}(k:SmT H H')(h:H l=none):SmT H (upd H' l o):=fun b u e=>by
 rcases k b u e with z | z
 . exact .inl z
 . right
   rw[upd_ne (ne_of_none e h)];exact z
theorem TabAt.chg {H:Hp}{P l:Addr}{pos:Pos}{q:Str}{o:HO}{xs:List V}(T:TabAt H P pos q)(h:H l=some (.lst xs)):TabAt (upd H l o) P pos q:=by
 obtain⟨ps,hps,_⟩:=id T
 refine T.keep (fun u hu=>?_) fun c φ hc=>?_
 . rw[upd_ne (ne_of hps h (by intro z;cases z))];exact hu
 . rw[upd_ne (ne_of hc h (by intro z;cases z))];exact hc
end L2
namespace L2
open PySem PySem.Spec PyProof.Rows
section
variable {X:Cx}
end
end L2
namespace L2
open PySem PySem.Spec PyProof.Rows
section
variable {X:Cx}
end
end L2
namespace L2
open PySem PySem.Spec PyProof.Rows
def compEnv1 (scope:Scope)(yc:Str)(cl:List (Str×Addr))(C:Addr)(env:Env):Env:=
 { scope:=relabel scope env,locals:=C,globals:=env.globals,cells:=(yc,C+1)::cl,qual:=env.qual,func:=none,code:=env.code,frame:=env.frame,builtins:=env.builtins }
theorem nfe_cell {M:Model}{A:Around}{E:Value->Shared->Prop}{s:Shared}{scope:Scope}{globals:Addr}{cl:List (Str×Addr)}{qual yc:Str}{env:Env}{Q:Env->Shared->Prop}(hcf:∀n acc,cellsFrom n scope.names acc=(yc,n)::acc)
 (hQ:∀h':Heap,h'.Ns s.heap.objs.size (fun _=>none)->(∀b o,s.heap.get? b=some o->h'.get? b=some o)->h'.IsCell (s.heap.objs.size+1) none ->
  Q (newEnv scope s.heap.objs.size globals ((yc,s.heap.objs.size+1)::cl) qual none .none (some env) builtinsNs) { s with heap:=h',toks:=s.toks }) :
 wpAny M A (newFunctionEnv scope globals cl [] qual none .none (some env)) Q E s:=by
 simp only[newFunctionEnv,Option.isSome_some,if_true]
 refine wpAny_bind (wpAny_alloc ?_)
 refine wpAny_bind (wpAny_layCells _ (fun name kind cells=>by cases hkc:kind==NameKind.cell <;> simp[hkc]) _ _ _ _ ?_)
 have ok:=cellsFrom_ok scope.names (s.heap.push { cls:=.type "dict",data:=.dict #[] }) (s.heap.objs.size+1) [] ⟨fun _ _ hm=>(nomatch hm),List.Pairwise.nil⟩ (by rw[Heap.size_push];exact Nat.le_refl _)
 rw[Heap.size_push] at ok
 rw[show ({ s with heap:=s.heap.push { cls:=.type "dict",data:=.dict #[] } }:Shared).heap.objs.size=s.heap.objs.size+1 from Heap.size_push ..]
 rw[hcf] at ok ⊢
 refine wpAny_bind ?_
 rw[List.forIn_nil]
 refine wpAny_pure (wpAny_pure ?_)
 exact hQ _ ((Heap.Ns.new s.heap (.type "dict")).keeps (pushCells_keeps _ _)) (fun b o e=>pushCells_keeps _ _ b o (Heap.get?_push_of_some _ e)) (ok.empty _ _ List.mem_cons_self).1
def cxComp1 (X:Cx)(pl:List (Addr×Obj))(N':List Str)(scope:Scope)(yc:Str)(fp:List Addr)(s3:Shared)(H3:Hp):Cx where
 prog:=X.prog
 w:=X.w
 K:=X.K
 mg:=X.mg
 base:=X.base
 A:=X.A
 N:=N'
 s₀:=s3
 H₀:=H3
 env:=compEnv1 scope yc (clOf X.env.cells scope.names []) s3.heap.objs.size X.env
 outer:=X.stack
 stack:=X.stack
 ex:=fp
 fn:=fun x=>x==yc
 calm:=X.calm
 pn:=pl
 xe:=fun _ _=>False
structure CompSc1 (X:Cx)(scope:Scope)(yc:Str):Prop where
 kind:scope.kind = .function
 cf:∀n acc,cellsFrom n scope.names acc=(yc,n)::acc
 own:scope.names.lookup yc=some .cell
 one:∀y∈scope.names,y.2 = .cell->y.1=yc
 names:∀y∈scope.names,y.2 = .local->scope.names.lookup y.1=some .local
 free:∀y∈scope.names,y.2 = .free->X.env.kindOf y.1=some .cell
section
variable {X:Cx}{pins:List (Addr×Obj)}{σ:St}{H3:Hp}{s3:Shared}{scope:Scope}{fp:List Addr}{N' own cn:List Str}{ci:List Nat}{cv:List V}{yc:Str}
theorem look1 {x:Str}{c n:Addr}{cl:List (Str×Addr)}(h:((yc,n)::cl).lookup x=some c):(x=yc/\c=n)\/(x≠yc/\cl.lookup x=some c):=by
 rw[List.lookup_cons] at h
 cases hx:x==yc with
 | true=>rw[hx] at h;cases h;exact .inl ⟨by simpa using hx,rfl⟩
 | false=>rw[hx] at h;exact .inr ⟨by simpa using hx,h⟩
theorem look1_ne {x:Str}{n:Addr}{cl:List (Str×Addr)}(h:x≠yc):((yc,n)::cl).lookup x=cl.lookup x:=by
 rw[List.lookup_cons,show (x==yc)=false by simpa using h]
theorem comp1_has (ok:X.Ok)(S:CompSc1 X scope yc){x:Str}{n:Addr}(h:(relabel scope X.env).names.lookup x=some .cell\/(relabel scope X.env).names.lookup x=some .free) :
 ∃c,((yc,n)::clOf X.env.cells scope.names []).lookup x=some c:=by
 by_cases hxy:x=yc
 . subst hxy
   exact⟨n,by rw[List.lookup_cons,beq_self_eq_true]⟩
 rw[look1_ne hxy]
 have e:(relabel scope X.env).names.lookup x=(scope.names.lookup x).map fun k=>if (k==NameKind.free && X.env.scope.kind == .function && X.env.kindOf x==some .cell)=true then NameKind.cell else k:=lookup_relabel scope.names
 have hf:scope.names.lookup x=some .free:=by
  cases q:scope.names.lookup x with
  | none=>rw[e,q] at h;simp at h
  | some k=>
   by_cases hk:k = .free
   . rw[hk]
   . have hb:(k==NameKind.free)=false:=by simpa using hk
     rw[e,q] at h
     simp only[Option.map_some,hb,Bool.false_and,Bool.false_eq_true,if_false,Option.some.injEq] at h
     rcases h with h | h
     . exact absurd (S.one _ (PySem.mem_of_lookup q) h) hxy
     . exact absurd h hk
 exact clOf_has (ok.has x (.inl (S.free _ (PySem.mem_of_lookup hf) rfl))) scope.names [] (PySem.mem_of_lookup hf)
theorem comp1_cl (I:Inv X pins σ H3 s3){x:Str}{c n:Addr}(h:((yc,n)::clOf X.env.cells scope.names []).lookup x=some c):(x=yc/\c=n)\/(x≠yc/\X.env.cells.lookup x=some c/\c<s3.heap.objs.size):=by
 rcases look1 h with z | ⟨z,e⟩
 . exact .inl z
 . have e':=comp_cl e
   obtain⟨v,o,ho,_⟩:=I.cell x c e'
   exact .inr ⟨z,e',Heap.lt_size ho⟩
theorem comp1_ok (I:Inv X pins σ H3 s3)(S:CompSc1 X scope yc)(f:∀b∈fp,FpOk X pins H3 b)(fz:∀b∈fp,b<s3.heap.objs.size):(cxComp1 X (X.pn++pins) N' scope yc fp s3 H3).Ok where
 mod:=I.ok.mod
 kind:=S.kind
 glob:=I.ok.glob
 blt:=I.ok.blt
 above:=Nat.le_refl _
 inj:=fun x y c h1 h2=>by
  rcases comp1_cl I h1 with ⟨a,b⟩ | ⟨a,b,d⟩ <;> rcases comp1_cl I h2 with ⟨a',b'⟩ | ⟨a',b',d'⟩
  . rw[a,a']
  . rw[b] at d';exact absurd d' (Nat.not_lt.mpr (Nat.le_succ _))
  . rw[b'] at d;exact absurd d (Nat.not_lt.mpr (Nat.le_succ _))
  . exact I.ok.inj x y c b b'
 has:=fun x h=>comp1_has I.ok S h
 cab:=fun x c h e=>by
  have hx:x=yc:=by simpa using (show (x==yc)=true from h)
  rcases comp1_cl I e with ⟨_,b⟩ | ⟨a,_⟩
  . rw[b];exact Nat.le_succ _
  . exact absurd hx a
 hd:=I.ok.hd
 frames:=I.ok.frames
 stk:=.inl rfl
 exf:=fun b hb=>⟨Nat.ne_of_lt (fz b hb),fun x c h=>by
  have:=fz b hb
  rcases comp1_cl I h with ⟨_,d⟩ | ⟨_,d,_⟩
  . intro z
    rw[<-z,d] at this;exact absurd this (Nat.not_lt.mpr (Nat.le_succ _))
  . exact (f b hb).2.2.2.2.1 x c d⟩
 bs:=I.bs
 bsz:=Nat.le_trans I.ok.bsz I.sz
 noex:=fun b o e hb=>by
  rcases (f b hb).2.2.2.1 with z | z
  . exact I.ok.noex b o e z
  . exact absurd (Nat.lt_of_lt_of_le (Heap.lt_size e) (Nat.le_trans I.ok.bsz z)) (Nat.lt_irrefl _)
 exfs:=fun b hb z=>by
  rcases List.mem_cons.mp (I.stkSub b z) with q | q
  . exact (f b hb).2.1 q
  . exact (f b hb).2.2.1 q
 funs:=I.stack
 frf:=I.stkFree
theorem comp1_inv {h1:Heap}{t:Nat}(I:Inv X pins σ H3 s3)(S:CompSc1 X scope yc)(f:∀b∈fp,FpOk X pins H3 b)(fz:∀b∈fp,b<s3.heap.objs.size)
 (hN:N'=own++cn)(hc:CapOk X scope cn ci)(hv:ci.map (fun j=>σ[j]?)=cv.map fun v=>some (some v))(hl:cn.length=ci.length)
 (hns:h1.Ns s3.heap.objs.size (fun _=>none))(hk:∀b o,s3.heap.get? b=some o->h1.get? b=some o)(hcl:h1.IsCell (s3.heap.objs.size+1) none) :
 Inv (cxComp1 X (X.pn++pins) N' scope yc fp s3 H3) [] (List.replicate own.length none++cv.map some) H3 { s3 with heap:=h1,toks:=t }:=by
 have lenv:cv.length=ci.length:=by
  have:=congrArg List.length hv
  simpa using this.symm
 refine⟨comp1_ok I S f fz,rfl,I.bare,Un.kept hk,⟨_,hns,fun i x v e1 e2 e3=>?_⟩,fun x c e=>?_,I.hok.fresh (Nat.le_refl _),fun x c e=>?_,fun p hp=>?_,I.hok.kept hk,?_⟩
 . -- a captured name
   have hi:own.length<=i:=by
    by_cases hi:own.length<=i
    . exact hi
    . rw[List.getElem?_append_left (by simpa using hi),List.getElem?_replicate] at e2
      split at e2 <;> cases e2
   rw[List.getElem?_append_right (by simpa using hi),List.length_replicate,List.getElem?_map] at e2
   have e1':(own++cn)[i]? = some x:=by rw[<-hN];exact e1
   rw[List.getElem?_append_right hi] at e1'
   obtain⟨j,hj,hNj,hkx,hfr⟩:=hc.get e1'
   have hcv:cv[i-own.length]? = some v:=by
    cases q:cv[i-own.length]? with
    | none=>rw[q] at e2;cases e2
    | some v'=>rw[q] at e2;cases e2;rfl
   have hσ:σ[j]? = some (some v):=by
    have:=congrArg (fun l:List (Option (Option V))=>l[i-own.length]?) hv
    simp only[List.getElem?_map,hj,hcv,Option.map_some,Option.some.injEq] at this
    exact this
   obtain⟨m,_,hl'⟩:=I.loc
   obtain⟨u,r,q⟩:=hl' j x v hNj hσ (.inr (.inl hkx))
   have hkd:(relabel scope X.env).names.lookup x=some .cell\/(relabel scope X.env).names.lookup x=some .free:=by
    have e:(relabel scope X.env).names.lookup x=(scope.names.lookup x).map fun k=>if (k==NameKind.free && X.env.scope.kind == .function && X.env.kindOf x==some .cell)=true then NameKind.cell else k:=lookup_relabel scope.names
    rw[e,hfr,Option.map_some]
    by_cases cc:(NameKind.free==NameKind.free && X.env.scope.kind == .function && X.env.kindOf x==some .cell)=true
    . rw[if_pos cc];exact .inl rfl
    . rw[if_neg cc];exact .inr rfl
   obtain⟨c',hc'⟩:=comp1_has (n:=s3.heap.objs.size+1) I.ok S hkd
   have hxy:x≠yc:=fun z=>by rw[z,S.own] at hfr;cases hfr
   refine⟨u,r,.inr ⟨hkd,c',hc',?_⟩⟩
   rcases q with ⟨z,_⟩ | ⟨_,c,hcc,o,ho,hd⟩
   . rw[hkx] at z;cases z
   . have e:c=c':=Option.some.inj (hcc.symm.trans (comp_cl ((look1_ne hxy).symm.trans hc')))
     subst e
     exact⟨o,hk c o ho,hd⟩
 . rcases comp1_cl I e with ⟨_,d⟩ | ⟨_,d,_⟩
   . rw[d];exact⟨_,hcl⟩
   . obtain⟨v,o,ho,hd⟩:=I.cell x c d
     exact⟨v,o,hk c o ho,hd⟩
 . rcases comp1_cl I e with ⟨_,d⟩ | ⟨_,d,_⟩
   . rw[d];exact I.hok.fresh (Nat.le_succ _)
   . exact I.freeC x c d
 . have hp':p∈X.pn++pins:=by rw[List.append_nil] at hp;exact hp
   obtain⟨e,n,ne,nf,d⟩:=I.pin p hp'
   refine⟨hk _ _ e,n,Nat.ne_of_lt (Heap.lt_size e),fun z=>?_,d⟩
   rcases List.mem_cons.mp (I.stkSub p.1 z) with q | q
   . exact ne q
   . exact nf q
 . show (List.replicate own.length none++cv.map some).length=N'.length
   rw[hN,List.length_append,List.length_append,List.length_replicate,List.length_map,lenv,hl]
theorem comp1_core {elt target iter:Expr}{ifs:List Expr}{pos cpos:Pos}{wi:TI}{g:TG}{ti:TT}{te:TE}{use:Option (Value->Sem Unit)}{Q0:Value->Shared->Prop}{s:Shared}{H:Hp}{Q:VK}(hcalm:X.calm=true)(S:CompSc1 X scope yc)(hc:CapOk X scope cn ci)(hl:cn.length=ci.length)
 (hi:PI X target iter wi)(hg:∀pl fp s3 H3,PG (cxComp1 X pl (own++cn) scope yc fp s3 H3) target g)(ht:∀pl fp s3 H3,PTs (cxComp1 X pl (own++cn) scope yc fp s3 H3) ifs ti)
 (he:∀pl fp s3 H3,PE (cxComp1 X pl (own++cn) scope yc fp s3 H3) elt te)(hs:∀x,foldedSetIterable iter X.env x=pure x)(I:Inv X pins σ H s)(h:tComp own.length ci wi g ti te σ H Q)
 (fin:∀(D C:Addr)(H5:Hp)(s6:Shared)(m6:Str->Option Value),Inv X pins σ H5 s6->s6.heap.Ns C m6->H5 C=none->C≠X.env.locals->X.s₀.heap.objs.size<=C->(∀x c,X.env.cells.lookup x=some c->c≠C) ->
  (∀p∈X.pn++pins,p.1≠C)->Q (.ref D) H5->compPost (model X.prog X.w) X.A X.xe use Q0 (.ref D) C (.ok .next) s6) :
 wpAny (model X.prog X.w) X.A (comprehension (.ListComp elt [⟨target,iter,ifs,0⟩] scope pos) scope X.env cpos (newList []) false (eval iter X.env) use) Q0 X.xe s:=by
 have hcl:closureFor scope X.env=pure (clOf X.env.cells scope.names []):=closureFor_eq fun y hy hf=>I.ok.has y.1 (.inl (S.free y hy hf))
 refine wpAny_comprehension_free (use:=use) rfl hs hcl S.kind S.names ?_
 refine thn (hi pins s σ H _ I h) fun v s1 h1=>thn h1 fun itv s2 h2=>?_
 obtain⟨it,fp,tn,J,H2,e,I2,T,st2,f2,cv,hv,hD⟩:=h2
 subst e
 have lenv:cv.length=ci.length:=by
  have:=congrArg List.length hv
  simpa using this.symm
 have I3:=I2.lnew (ys:=[]) (its:=[]) (t':=s2.toks) .nil (Nat.zero_le _)
 obtain⟨W,⟨m0,w0⟩,turn⟩:=hD s2.heap.objs.size I2.fresh
 have fz:∀b∈fp,b<s2.heap.objs.size:=fun b hb=>by
  obtain⟨o,ho,_⟩:=T.obj _ _ st2 b hb
  exact Heap.lt_size ho
 refine wpAny_newObj_type ?_
 refine nfe_cell S.cf (fun h4 hns4 hk4 hc4=>?_)
 generalize hs3:({ s2 with heap:=s2.heap.push { cls:=.type "list",dict:=none,data:=.seq ([]:List Value).toArray } }:Shared)=s3 at hns4 hk4 hc4 ⊢
 have I3':Inv X pins σ (upd H2 s2.heap.objs.size (.lst [])) s3:=by rw[<-hs3];exact I3
 have hsz3:s3.heap.objs.size=s2.heap.objs.size+1:=by rw[<-hs3];exact Heap.size_push ..
 have k23:∀b o,s2.heap.get? b=some o->s3.heap.get? b=some o:=fun b o e=>by rw[<-hs3];exact Heap.get?_push_of_some _ e
 have k34:∀b o,s3.heap.get? b=some o->h4.get? b=some o:=hk4
 have nD:∀b∈fp,b≠s2.heap.objs.size:=fun b hb=>Nat.ne_of_lt (fz b hb)
 have f3:∀b∈fp,FpOk X pins (upd H2 s2.heap.objs.size (.lst [])) b:=fun b hb=>⟨by rw[upd_ne (nD b hb)];exact (f2 b hb).1,(f2 b hb).2⟩
 have fz3:∀b∈fp,b<s3.heap.objs.size:=fun b hb=>by rw[hsz3];exact Nat.lt_succ_of_lt (fz b hb)
 have I4:Inv (cxComp1 X (X.pn++pins) (own++cn) scope yc fp s3 (upd H2 s2.heap.objs.size (.lst []))) [] (List.replicate own.length none++cv.map some) (upd H2 s2.heap.objs.size (.lst [])) { s3 with heap:=h4,toks:=s3.toks }:=
  comp1_inv I3' S f3 fz3 rfl hc hv hl hns4 k34 hc4
 have st4:tn 0 h4:=T.keep _ _ _ st2 fun b hb o e=>k34 b o (k23 b o e)
 generalize hX:cxComp1 X (X.pn++pins) (own++cn) scope yc fp s3 (upd H2 s2.heap.objs.size (.lst []))=X' at I4
 have hg':PG X' target g:=by rw[<-hX];exact hg _ _ _ _
 have ht':PTs X' ifs ti:=by rw[<-hX];exact ht _ _ _ _
 have he':PE X' elt te:=by rw[<-hX];exact he _ _ _ _
 have ePr:X'.prog=X.prog:=by rw[<-hX];rfl
 have eW:X'.w=X.w:=by rw[<-hX];rfl
 have eK:X'.K=X.K:=by rw[<-hX];rfl
 have eA:X'.A=X.A:=by rw[<-hX];rfl
 have eE:X'.env=compEnv1 scope yc (clOf X.env.cells scope.names []) s3.heap.objs.size X.env:=by rw[<-hX];rfl
 have eXe:X'.xe=fun _ _=>False:=by rw[<-hX];rfl
 have eC:X'.calm=true:=by rw[<-hX];exact hcalm
 have eex:X'.ex=fp:=by rw[<-hX];rfl
 have epn:X'.pn=X.pn++pins:=by rw[<-hX];rfl
 have es0:X'.s₀=s3:=by rw[<-hX];rfl
 have eH0:X'.H₀=upd H2 s2.heap.objs.size (.lst []):=by rw[<-hX];rfl
 have efs:X'.fs=frs X.stack:=by rw[<-hX];rfl
 have ok':=I4.ok
 have stat:∀{H':Hp},(∀b∈fp,H' b=none)->∀b∈fp,FpOk X' [] H' b:=fun hn b hb=>by
  have hb':b∈X'.ex:=by rw[eex];exact hb
  refine⟨hn b hb,(ok'.exf b hb').1,ok'.exfs b hb',.inl hb',(ok'.exf b hb').2,fun p hp=>?_⟩
  rw[epn,List.append_nil] at hp
  exact (f2 b hb).2.2.2.2.2 p hp
 have wk:∀(σ2:St),(σ2.length=own.length+cv.length/\σ2.drop own.length=cv.map some)->∀{pl:List (Addr×Obj)}{H':Hp}{s':Shared},Inv X' pl σ2 H' s'->Inv X' pl (List.replicate own.length none++cv.map some) H' s':=fun σ2 hq pl H' s' I'=>by
  refine I'.weak (by rw[hq.1,List.length_append,List.length_replicate,List.length_map]) fun i v hi=>?_
  by_cases hlt:i<own.length
  . rw[List.getElem?_append_left (by simpa using hlt),List.getElem?_replicate] at hi
    split at hi <;> cases hi
  . rw[List.getElem?_append_right (by simpa using hlt),List.length_replicate,<-hq.2,List.getElem?_drop] at hi
    rw[show own.length+(i-own.length)=i by omega] at hi
    exact hi
 have loop:codeAny (model X.prog X.w) X.A (.compLoop (.ListComp elt [⟨target,iter,ifs,0⟩] scope pos) 0 (.ref it) (.ref s2.heap.objs.size) (compEnv1 scope yc (clOf X.env.cells scope.names []) s3.heap.objs.size X.env))
  (compPost (model X.prog X.w) X.A X.xe use Q0 (.ref s2.heap.objs.size) s3.heap.objs.size) { s3 with heap:=h4,toks:=s3.toks }:=by
  refine compLoop_gen (fun n s'=>∃i ys H',Inv X' [] (List.replicate own.length none++cv.map some) H' s'/\tn i s'.heap/\(∀b∈fp,H' b=none)/\W i n ys H') ?_ m0
   ⟨0,[],_,I4,st4,fun b hb=>(f3 b hb).1,w0⟩
  rintro n s5 ⟨i,ys,H5,I5,st5,fr5,w5⟩
  rcases turn i n ys H5 w5 with ⟨stop,qn⟩ | ⟨go,hsz,N,hN,step⟩
  . have d:=T.done X' ePr eW eK eC i [] s5 _ H5 (fun _ _=>False) I5 (stat fr5) st5 stop
    rw[eA] at d
    refine thn d fun r s6 ⟨hr,I6⟩=>?_
    subst hr
    obtain⟨m6,hn6,_⟩:=I6.loc
    rw[eE] at hn6
    have hn6':s6.heap.Ns s3.heap.objs.size m6:=hn6
    have un6:Un (frs X.stack) fp (upd H2 s2.heap.objs.size (.lst [])) H5 s3.heap s6.heap:=by
     have b6:=I6.base
     rw[efs,eex,eH0,es0] at b6
     exact b6
    have os6:s6.os=s3.os:=by have o6:=I6.os;rw[es0] at o6;exact o6
    have hok6:HOk X.prog X.w H5 s6.heap:=by have o6:=I6.hok;rw[ePr,eW] at o6;exact o6
    have I7:Inv X pins σ H5 s6:=I3'.call' (ch:=fp) os6 un6 hok6 I6.bare fun b hb=>⟨(f2 b hb).2.2.2.1,(f2 b hb).2.1,(f2 b hb).2.2.2.2.1,(f2 b hb).2.2.2.2.2⟩
    have fr6:H5 s3.heap.objs.size=none:=by
     have q:=I6.free
     rw[eE] at q
     exact q
    refine fin s2.heap.objs.size s3.heap.objs.size H5 s6 m6 I7 hn6' fr6 (Nat.ne_of_gt I3'.lt) I3'.sz (fun x c e=>?_) (fun p hp=>?_) qn
    . obtain⟨_,o,ho,_⟩:=I3'.cell x c e
      exact Nat.ne_of_lt (Heap.lt_size ho)
    . exact Nat.ne_of_lt (Heap.lt_size (I3'.pin p hp).1)
  . have d:=T.item X' ePr eW eK eC i [] s5 _ H5 (fun _ _=>False) I5 (stat fr5) st5 go
    rw[eA] at d
    refine thn d fun r s6 ⟨u,hr,h6⟩=>?_
    subst hr
    refine thn h6 fun _ s7 ⟨x,H7,I7,r7,y7,st7,fr7⟩=>?_
    have I7':=I7.pinned (stat fr7) (T.obj _ _ st7)
    have g7:=hg' _ s7 _ H7 x u _ I7' r7 (step x H7 y7)
    rw[ePr,eW,eA,eE,eXe] at g7
    refine thn g7 fun _ s8 ⟨σ8,H8,I8,q8,ti8⟩=>?_
    have t8:=ht' _ s8 σ8 H8 _ I8 ti8
    rw[ePr,eW,eA,eE,eXe] at t8
    refine thn t8 fun ok s9 ⟨H9,I9,q9⟩=>?_
    have again:∀{ys':List V}{H':Hp}{s':Shared},Inv X' ([]++pinsAt fp s7.heap) σ8 H' s'->N ys' H' ->
     ∃m,m<n/\∃i ys H',Inv X' [] (List.replicate own.length none++cv.map some) H' s'/\tn i s'.heap/\(∀b∈fp,H' b=none)/\W i m ys H':=fun {ys' H' s'} I' n'=>by
     obtain⟨m',hm,w'⟩:=hN ys' H' n'
     refine⟨m',hm,i+1,ys',H',(wk σ8 q8 I').unpinned,T.keep _ _ _ st7 fun b hb o e=>(I'.pin (b,o) (List.mem_append_right _ (List.mem_append_right _ (mem_pinsAt hb e)))).1,fun b hb=>?_,w'⟩
     obtain⟨o,e,_⟩:=T.obj _ _ st7 b hb
     exact (I'.pin (b,o) (List.mem_append_right _ (List.mem_append_right _ (mem_pinsAt hb e)))).2.1
    cases ok with
    | false=>exact again I9 q9
    | true=>
     have e9:=he' _ s9 σ8 H9 _ I9 q9
     rw[ePr,eW,eA,eE,eXe] at e9
     refine thn e9 fun u10 s10 ⟨y,H10,I10,r10,hD10,n10⟩=>?_
     have a10:=mt_append (X:=X') _ s10 σ8 H10 (.ref s2.heap.objs.size) [y] (.ref s2.heap.objs.size) [u10] (fun _ H'=>N (ys++[y]) H') I10 rfl (.cons r10 .nil) ⟨_,_,_,rfl,rfl,hD10,hsz,n10⟩
     rw[ePr,eW,eA,eXe] at a10
     exact thn a10 fun _ s11 ⟨_,H11,I11,_,n11⟩=>again I11 n11
 exact codeAny_compStart_list loop (T.self X.A 0 _ _ _ st4 loop)
theorem ps_setC1 {elt target iter:Expr}{ifs:List Expr}{pos pos' cpos:Pos}{wi:TI}{g:TG}{ti:TT}{te:TE}{i:Nat}{x:Str}(hN:X.N.Nodup)(hix:X.N[i]? = some x)(hx:Loc X.env.scope x)(hcalm:X.calm=true)(S:CompSc1 X scope yc)(hc:CapOk X scope cn ci)(hl:cn.length=ci.length)
 (hi:PI X target iter wi)(hg:∀pl fp s3 H3,PG (cxComp1 X pl (own++cn) scope yc fp s3 H3) target g)(ht:∀pl fp s3 H3,PTs (cxComp1 X pl (own++cn) scope yc fp s3 H3) ifs ti)
 (he:∀pl fp s3 H3,PE (cxComp1 X pl (own++cn) scope yc fp s3 H3) elt te)(hs:∀x,foldedSetIterable iter X.env x=pure x:=by intro _;rfl)
 (hsw:swapsWith (.ListComp elt [⟨target,iter,ifs,0⟩] scope cpos) (some (.Name x pos')) pos.line X.env=pure true:=by rfl)
 (hf:X.fn x=true\/X.env.scope.names.lookup x=some .local:=by first | exact .inl rfl | exact .inr rfl | assumption) :
 PS X (.Assign [.Name x pos'] (.ListComp elt [⟨target,iter,ifs,0⟩] scope cpos) pos) (tAsg (tComp own.length ci wi g ti te) (gName i)):=by
 intro pins s σ H D I h
 rw[exec_Assign_Name_used _ _ _ _ hsw]
 refine wpAny_bind (wpAny_standAt (wpAny_bind ?_))
 show wpAny _ X.A (do let _ <-comprehension (.ListComp elt [⟨target,iter,ifs,0⟩] scope cpos) scope X.env _ (newList []) false (eval iter X.env) (some (assign (.Name x pos') X.env))) _ _ s
 refine wpAny_bind (wpAny_mono (comp1_core (use:=some (assign (.Name x pos') X.env)) (Q0:=fun _ s'=>SP X pins D .next s') hcalm S hc hl hi hg ht he hs I h (fun D' C H5 s6 m6 I7 hn fr nL ge nC nP q=>?_)) (fun _ s' hq=>wpAny_pure (wpAny_pure hq)) fun _ _ e=>e)
 obtain⟨oC,es,ep,hoC,hd,r1⟩:=hn
 have nf:C∉X.fs:=fun hb=>by
  obtain⟨_,o,ho,_⟩:=I7.ok.funs.mem hb
  exact absurd (Nat.lt_of_lt_of_le (Heap.lt_size ho) ge) (Nat.lt_irrefl _)
 have I7':Inv X (pins++[(C,oC)]) σ H5 s6:=I7.pins_of fun p hp=>by
  rcases List.mem_append.mp hp with z | z
  . exact I7.pin p (List.mem_append_right _ z)
  . rw[List.mem_singleton.mp z]
    exact⟨hoC,fr,nL,nf,fun v e=>by rw[hd] at e;cases e⟩
 show wpAny _ X.A (assign (.Name x pos') X.env (.ref D')) _ _ s6
 refine wpAny_assign_Name (store_ok I7' hN hix hx (show RelV (.ref D') (.ref D') from rfl) (fun s' I'=>?_) hf)
 have hC':=(I'.pin (C,oC) (List.mem_append_right _ (List.mem_append_right _ (List.mem_singleton.mpr rfl)))).1
 refine⟨m6,⟨oC,es,ep,hC',hd,r1⟩,fun h' hs'=>⟨_,H5,?_,q⟩⟩
 have I2:Inv X pins (σ.set i (some (.ref D'))) H5 s':=I'.pins_of fun p hp=>I'.pin p (List.mem_append_right _ (List.mem_append_left _ hp))
 exact I2.turned (t':=s'.toks) (it:=C) (fun b o hb e=>hs'.extBut b o hb e) fr nL (.inr ge) nC nP
end
def cscOk1 (outer inner:Scope)(yc:Str):Bool:=inner.names.all fun y=>(y.2 != .cell || y.1==yc) && (y.2 != .local || inner.names.lookup y.1==some .local) && (y.2 != .free || outer.names.lookup y.1==some .cell)
theorem csc1 {X:Cx}{scope:Scope}{yc:Str}(hk:scope.kind = .function)(hcf:∀n acc,cellsFrom n scope.names acc=(yc,n)::acc)(ho:scope.names.lookup yc=some .cell)(h:cscOk1 X.env.scope scope yc=true):CompSc1 X scope yc:=by
 have a:=List.all_eq_true.mp h
 refine⟨hk,hcf,ho,fun y hy e=>?_,fun y hy e=>?_,fun y hy e=>?_⟩
 . have:=a y hy
   rw[e] at this
   simpa using this
 . have:=a y hy
   rw[e] at this
   simpa using this
 . have:=a y hy
   rw[e] at this
   have h2:X.env.scope.names.lookup y.1=some .cell:=by simpa using this
   exact h2
end L2
namespace L2
open PySem PySem.Spec PyProof.Rows
def tLRange (ta:TA):TE:=fun σ H Q=>ta σ H fun vs H1=>∃j:Int,vs=[.int j]/\0<=j/\j<=1000/\∀l,H1 l=none->Q (.ref l) (upd H1 l (.lst ((WM.lowTo j.toNat).map V.int)))
theorem vals_low:∀(vs:List Value)(n:Nat),vs.length=n->(∀(j:Nat)(v:Value),vs[j]? = some v->∃t,v = .int (0+(j:Int)*1) t)->Vals ((WM.lowTo n).map V.int) vs:=by
 have key:∀(vs:List Value)(a:Nat),(∀(j:Nat)(v:Value),vs[j]? = some v->∃t,v = .int ((a+j:Nat):Int) t)->Vals ((List.range' a vs.length).map fun (i:Nat)=>V.int (i:Int)) vs:=by
  intro vs
  induction vs with
  | nil=>intro _ _;exact .nil
  | cons v r ih=>
   intro a h
   obtain⟨t,ht⟩:=h 0 v rfl
   rw[List.length_cons,List.range'_succ,List.map_cons]
   refine .cons ⟨t,by rw[ht];rfl⟩ (ih (a+1) fun j u hj=>?_)
   obtain⟨t',ht'⟩:=h (j+1) u hj
   exact⟨t',by rw[ht'];congr 1;omega⟩
 intro vs n e h
 subst e
 have:=key vs 0 fun j v hj=>by
  obtain⟨t,ht⟩:=h j v hj
  exact⟨t,by rw[ht];congr 1;omega⟩
 unfold WM.lowTo
 rw[List.map_map,List.range_eq_range']
 exact this
section
variable {X:Cx}
theorem pe_lrange {a:Expr}{ta:TA}{p1 p2 pos1 pos2:Pos}(hc:X.calm=true)(hgL:Gl X "list") (hmL:X.mg "list" = none) (hgR:Gl X "range") (hmR:X.mg "range" = none) (ha:PA X [a] ta)(hs:starEach [a] X.env=[(false,eval a X.env)]:=by rfl)
 (he:starEach [.Call (.Name "range" p2) [a] [] pos2] X.env=[(false,eval (.Call (.Name "range" p2) [a] [] pos2) X.env)]:=by rfl):PE X (.Call (.Name "list" p1) [.Call (.Name "range" p2) [a] [] pos2] [] pos1) (tLRange ta):=by
 intro pins s σ H Q I h
 refine wpAny_Call_Name_kw (ld_blt I hgL hmL (by decide +kernel:bootBuiltins "list" = some (.type "list")) ?_ (by decide) (by decide))
 refine PyProof.Rows.callWith_type1 ?_ he rfl
 rw[he]
 refine Calls.spliced_cons ?_
 refine Call_ (ld_blt I hgR hmR boot_range (PyProof.Rows.callWith_type1 (thn (ha pos2 pins s σ H _ I h) fun us s1 ⟨vs,H1,I1,r1,q1⟩=>?_) hs rfl))
 obtain⟨j,e,h0,h1,q⟩:=q1
 subst e
 cases r1 with
 | cons r rr=>
  cases rr
  obtain⟨t,rfl⟩:=r
  refine call_range_1 ?_
  refine Calls.spliced_nil ?_
  have hz:Builtin.Range.rangeSize 0 j 1=(j.toNat:Int):=by rw[rangeSize_one];split <;> omega
  refine call_list_range (I.ok.hd hc) (IsRange.new ..) (small_one (by omega) (by omega) (by omega) (by omega)) hz (by omega) fun h' tk acc c' kp hD hI=>?_
  have kp1:∀b o,s1.heap.get? b=some o->h'.get? b=some o:=fun b o e=>kp b o (Heap.get?_push_of_some _ e)
  have rv:Vals ((WM.lowTo j.toNat).map V.int) acc.toList:=vals_low acc.toList _ (by rw[Array.length_toList];exact hI.1) fun i v hi=>hI.2 i v (by rw[<-hi,Array.getElem?_toList])
  have hsz:s1.heap.objs.size<=(s1.heap.push { cls:=.type "range",data:=.fields #[.int 0 s1.toks,.int j t,.int 1 (s1.toks+1)] }).objs.size:=by rw[Heap.size_push];exact Nat.le_succ _
  refine⟨.ref _,_,I1.laid (t':=tk) kp1 hsz (show ObjOk X.prog X.w _ h' _ (.lst ((WM.lowTo j.toNat).map V.int)) from ⟨?_,acc.toList,c',rv,by rw[Array.toArray_toList];exact hD⟩),rfl,q _ (I1.hok.fresh hsz)⟩
  rw[List.length_map,WM.lowTo,List.length_map,List.length_range]
  have:sizeLine=16777216:=rfl
  omega
theorem call_sortedI:CallR X (.builtin "sorted") (fun xs H Q=>∃(p:Addr)(ns:List Int),xs=[.ref p]/\SqL X.K H p (ns.map V.int)/\ns.length<64 /\
 ∀(l:Addr)(ms:List Int),H l=none->ms.Perm ns->ms.Pairwise (· <= ·)->Q (.ref l) (upd H l (.lst (ms.map V.int)))):=by
 intro pins s σ H xs us Q I r h
 obtain⟨p,ns,rfl,hq,h64,q⟩:=h
 obtain⟨u,rfl,rx⟩:=vals1 r
 cases rx
 obtain⟨its,r',pl,hz⟩:=I.list hq
 have hI:IntsAre its ns:=intsAre_of r'
 have hl:=hI.length
 refine SortT.sorted_list (O:=intO) (key:=fun i=>ns.getD i 0) (κ:=oneType') pl.isList (by omega) (fun h2 s' a fa kp=>asks_ints hI h2) fun D h' out c pt hD kp ho=>?_
 obtain⟨ms,hp,hr,rz,hlz⟩:=put_ints hI pt
 refine⟨.ref D,_,sorted_fin (t':=s.toks) I hD kp ho rz ?_,rfl,q D ms (I.hok.fresh hD) hp hr⟩
 have:sizeLine=16777216:=rfl
 rw[List.length_map]
 omega
end
section
variable {X:Cx}{pl:List (Addr×Obj)}{N':List Str}{sc:Scope}{fp:List Addr}{s3:Shared}{H3:Hp}
theorem call_len_seqC:CallR (cxComp X pl N' sc fp s3 H3) (.builtin "len") (fun xs H Q=>∃p ys,xs=[.ref p]/\(SqL X.K H p ys\/SqT X.K H p ys)/\Q (.int ys.length) H):=call_len_seq
end
section
variable {X:Cx}
def rNeE (K:PySem.W.Frag):R2:=fun x y H Q=>∃(a b:Addr)(xs:List V),x = .ref a/\y = .ref b/\SqL K H a xs/\SqL K H b []/\Q (.bl (!xs.isEmpty)) H
def rEqE (K:PySem.W.Frag):R2:=fun x y H Q=>∃(a b:Addr)(xs:List V),x = .ref a/\y = .ref b/\SqL K H a xs/\SqL K H b []/\Q (.bl xs.isEmpty) H
theorem op_neE (hu:X.A.units<cLine):OpR X (compareOp .NotEq) (rNeE X.K):=by
 intro pins s σ H x y v u Q I rx ry h
 obtain⟨a,b,xs,rfl,rfl,ha,hb,q⟩:=h
 cases rx
 cases ry
 obtain⟨its,r,pl,hz⟩:=I.list ha
 obtain⟨its2,r2,pl2,hz2⟩:=I.list hb
 have l1:=r.length
 have l2:=r2.length
 cases xs with
 | nil=>
  refine PySem.EqBoolInt.of_rcne (SeqAt.RcNeAt.lists (e:=fun _=>true) pl.isList pl2.isList (by rw[List.size_toArray,List.size_toArray,<-l1,<-l2]) hu (fun j a b=>absurd a (by rw[List.size_toArray,<-l1];exact Nat.not_lt_zero _))) ⟨.bl _,H,I,rfl,?_⟩
  rw[List.size_toArray,<-l1]
  exact q
 | cons x xs=>
  refine PySem.EqBoolInt.of_rcne (SeqAt.RcNeAt.lists_lengths pl.isList pl2.isList (by rw[List.size_toArray,List.size_toArray,<-l1,<-l2];rfl) hu) ⟨.bl _,H,I,rfl,?_⟩
  exact q
theorem op_eqE (hu:X.A.units<cLine):OpR X (compareOp .Eq) (rEqE X.K):=by
 intro pins s σ H x y v u Q I rx ry h
 obtain⟨a,b,xs,rfl,rfl,ha,hb,q⟩:=h
 cases rx
 cases ry
 obtain⟨its,r,pl,hz⟩:=I.list ha
 obtain⟨its2,r2,pl2,hz2⟩:=I.list hb
 have l1:=r.length
 have l2:=r2.length
 cases xs with
 | nil=>
  refine SeqAt.eq_listAt (e:=fun _=>true) pl.isList pl2.isList (by rw[List.size_toArray,List.size_toArray,<-l1,<-l2]) hu (fun j a b=>absurd a (by rw[List.size_toArray,<-l1];exact Nat.not_lt_zero _)) ⟨.bl _,H,I,rfl,?_⟩
  rw[List.size_toArray,<-l1]
  exact q
 | cons x xs=>
  refine SeqAt.eq_list_lengthsAt pl.isList pl2.isList (by rw[List.size_toArray,List.size_toArray,<-l1,<-l2];rfl) hu ⟨.bl _,H,I,rfl,?_⟩
  exact q
end
end L2
namespace L2
open PySem PyProof.Rows
def Kp (s0:Shared)(h:Heap):Prop:=∀b o,s0.heap.get? b=some o->h.get? b=some o
structure MinIt (prog:Program)(w:World)(A:Around)(s0:Shared)(I:Addr)(its:List Value)(itAt:Nat->Heap->Prop):Prop where
 stay:∀j h h',itAt j h->h'.get? I=h.get? I->itAt j h'
 next:∀(j:Nat)(h:Heap)(tk:Nat)(v:Value)(Q:Option Value->Shared->Prop)(E:Value->Shared->Prop),Kp s0 h->itAt j h->its[j]? = some v ->
  (∀h',itAt (j+1) h'->(∀b,b≠I->h'.get? b=h.get? b)->Q (some v) { s0 with heap:=h',toks:=tk })->wpAny (model prog w) A (pyNext (.ref I)) Q E { s0 with heap:=h,toks:=tk }
 fin:∀(j:Nat)(h:Heap)(tk:Nat)(Q:Option Value->Shared->Prop)(E:Value->Shared->Prop),Kp s0 h->itAt j h->its[j]? = none ->
  (∀h',(∀b o,b≠I->h.get? b=some o->h'.get? b=some o)->Q none { s0 with heap:=h',toks:=tk })->wpAny (model prog w) A (pyNext (.ref I)) Q E { s0 with heap:=h,toks:=tk }
section
variable {prog:Program}{w:World}{A:Around}{s0:Shared}{I S:Addr}{its:List Value}{itAt:Nat->Heap->Prop}
theorem Kp.upd {h:Heap}{f:Obj->Obj}(K:Kp s0 h)(hS:s0.heap.objs.size<=S):Kp s0 (h.update S f):=fun b o e=>by
 rw[Heap.get?_update_ne _ _ _ _ (Nat.ne_of_lt (Nat.lt_of_lt_of_le (Heap.lt_size e) hS))];exact K b o e
theorem Kp.but {h h':Heap}(K:Kp s0 h)(hI:s0.heap.objs.size<=I)(k:∀b o,b≠I->h.get? b=some o->h'.get? b=some o):Kp s0 h':=fun b o e=>
 k b o (Nat.ne_of_lt (Nat.lt_of_lt_of_le (Heap.lt_size e) hI)) (K b o e)
theorem minD_loop {R:Result->Shared->Prop}{kw:List (Str×Value)}(M:MinIt prog w A.in1 s0 I its itAt)(bt:Nat->Nat->Bool)(hS:s0.heap.objs.size<=S)(hI:s0.heap.objs.size<=I)(hSI:S≠I)
 (cmp:∀(i j:Nat)(vi vj:Value)(h:Heap)(tk:Nat)(Q E:Value->Shared->Prop),Kp s0 h->its[i]? = some vi->its[j]? = some vj->Q (.bool (bt i j)) { s0 with heap:=h,toks:=tk }->wpAny (model prog w) A.in1 (richCompare .Lt vi vj) Q E { s0 with heap:=h,toks:=tk })
 (hR:∀(v:Value)(h:Heap)(tk:Nat),its[argBest bt (its.length-1)]? = some v->Kp s0 h->R (.ok (.ret v)) { s0 with heap:=h,toks:=tk })
 : ∀(r j:Nat)(h:Heap)(tk:Nat)(vb:Value)(c:Nat),its.length-(j+1)=r->j+1<=its.length->Kp s0 h->itAt (j+1) h->its[argBest bt j]? = some vb ->
  h.get? S=some { cls:=.type "list",data:=.seq #[vb,vb] c }->codeAny (model prog w) A (.builtin "min.loop" { pos:=[.ref I,.none,.ref S],kw:=kw }) R { s0 with heap:=h,toks:=tk }:=by
 intro r
 induction r with
 | zero=>
  intro j h tk vb c hr hj K hit hv hSo
  refine codeAny_builtin PySem.F.entry_min_loop ?_
  unfold Builtin.«min.loop»
  refine wpAny_bind (wpAny_seqItems hSo rfl ?_)
  dsimp only
  refine wpAny_bind (wpAny_tryCatch (M.fin (j+1) h tk _ _ K hit (List.getElem?_eq_none (by omega)) fun h' k=>?_))
  have hS':=k S _ hSI hSo
  refine wpAny_bind (wpAny_updateSeq hS' rfl (wpAny_bind (wpAny_letGo (wpAny_pure ?_))) (by show 2<=sizeLine;decide) (by show 0<=sizeLine+1;decide))
  refine hR vb _ tk ?_ ((K.but hI k).upd hS)
  rw[show its.length-1=j by omega];exact hv
 | succ r ih=>
  intro j h tk vb c hr hj K hit hv hSo
  obtain⟨x,hx⟩:∃x,its[j+1]? = some x:=⟨_,List.getElem?_eq_getElem (by omega)⟩
  refine codeAny_builtin PySem.F.entry_min_loop ?_
  unfold Builtin.«min.loop»
  refine wpAny_bind (wpAny_seqItems hSo rfl ?_)
  dsimp only
  refine wpAny_bind (wpAny_tryCatch (M.next (j+1) h tk x _ _ K hit hx fun h' hit' k=>?_))
  have K':Kp s0 h':=K.but hI fun b o hb e=>by rw[k b hb];exact e
  have hS':h'.get? S=some { cls:=.type "list",data:=.seq #[vb,vb] c }:=by rw[k S hSI];exact hSo
  refine wpAny_bind (wpAny_pure ?_)
  refine wpAny_bind (wpAny_tryCatch (wpAny_holding (wpAny_bind (cmp (j+1) (argBest bt j) x vb h' tk _ _ K' hx hv ?_))))
  refine wpAny_bind (wpAny_holding (wpAny_truthy_bool (wpAny_bind (wpAny_letGo (wpAny_pure ?_)))))
  have eb:argBest bt (j+1)=if bt (j+1) (argBest bt j)=true then j+1 else argBest bt j:=argBest.eq_2 bt j
  cases e:bt (j+1) (argBest bt j) with
  | true=>
   rw[if_pos e] at eb
   refine wpAny_bind (wpAny_updateSeq hS' rfl (wpAny_bind (wpAny_letGo (wpAny_pure ⟨rfl,?_⟩))) (by show 2<=sizeLine;decide) (by show 2<=sizeLine+1;decide))
   exact ih (j+1) _ tk x c (by omega) (by omega) (K'.upd hS) (M.stay _ _ _ hit' (Heap.get?_update_ne _ _ _ _ (Ne.symm hSI))) (by rw[eb];exact hx) (Heap.get?_update_self _ hS' rfl)
  | false=>
   rw[e,if_neg (by decide)] at eb
   refine wpAny_bind (wpAny_letGo (wpAny_pure ⟨rfl,?_⟩))
   exact ih (j+1) h' tk vb c (by omega) (by omega) K' hit' (by rw[eb];exact hv) hS'
theorem minD_first {R:Result->Shared->Prop}{d:Value}(M:MinIt prog w A.in1 s0 I its itAt)(bt:Nat->Nat->Bool)(hS:s0.heap.objs.size<=S)(hI:s0.heap.objs.size<=I)(hSI:S≠I)
 (cmp:∀(i j:Nat)(vi vj:Value)(h:Heap)(tk:Nat)(Q E:Value->Shared->Prop),Kp s0 h->its[i]? = some vi->its[j]? = some vj->Q (.bool (bt i j)) { s0 with heap:=h,toks:=tk }->wpAny (model prog w) A.in1 (richCompare .Lt vi vj) Q E { s0 with heap:=h,toks:=tk })
 (hR:∀(v:Value)(h:Heap)(tk:Nat),its[argBest bt (its.length-1)]? = some v->Kp s0 h->R (.ok (.ret v)) { s0 with heap:=h,toks:=tk })
 (h0:its=[]->∀(h:Heap)(tk:Nat),Kp s0 h->R (.ok (.ret d)) { s0 with heap:=h,toks:=tk })
 (h:Heap)(tk:Nat)(c:Nat)(K:Kp s0 h)(hit:itAt 0 h)(hSo:h.get? S=some { cls:=.type "list",data:=.seq #[] c }) :
 codeAny (model prog w) A (.builtin "min.loop" { pos:=[.ref I,.none,.ref S],kw:=[(Str.ofString "default",d)] }) R { s0 with heap:=h,toks:=tk }:=by
 refine codeAny_builtin PySem.F.entry_min_loop ?_
 unfold Builtin.«min.loop»
 refine wpAny_bind (wpAny_seqItems hSo rfl ?_)
 dsimp only
 cases e:its with
 | nil=>
  subst e
  refine wpAny_bind (wpAny_tryCatch (M.fin 0 h tk _ _ K hit rfl fun h' k=>?_))
  exact wpAny_bind (wpAny_rule (wpAny_pure (h0 rfl h' tk (K.but hI k))))
 | cons x xs=>
  have hx:its[0]? = some x:=by rw[e];rfl
  refine wpAny_bind (wpAny_tryCatch (M.next 0 h tk x _ _ K hit hx fun h' hit' k=>?_))
  have K':Kp s0 h':=K.but hI fun b o hb e=>by rw[k b hb];exact e
  have hS':h'.get? S=some { cls:=.type "list",data:=.seq #[] c }:=by rw[k S hSI];exact hSo
  refine wpAny_bind (wpAny_pure ?_)
  refine wpAny_bind (wpAny_updateSeq hS' rfl (wpAny_pure ⟨rfl,?_⟩) (by show 0<=sizeLine;decide) (by show 2<=sizeLine+1;decide))
  refine minD_loop M bt hS hI hSI cmp hR (its.length-1) 0 _ tk x (c+1) rfl (by rw[e];simp) (K'.upd hS) (M.stay _ _ _ hit' (Heap.get?_update_ne _ _ _ _ (Ne.symm hSI))) hx (Heap.get?_update_self _ hS' rfl)
end
end L2
namespace L2
open PySem PyProof.Rows
theorem wpAny_of_eq {α:Type}{M:Model}{A:Around}{E:Value->Shared->Prop}{s:Shared}{m m':Sem α}{Q:α->Shared->Prop}(e:m=m')(h:wpAny M A m' Q E s):wpAny M A m Q E s:=by subst e;exact h
theorem argBest_ord {O:KeyOrd}(ky:Nat->O.α):∀k,argBest (fun i j=>O.blt (ky i) (ky j)) k<=k/\∀j,j<=k->O.blt (ky j) (ky (argBest (fun i j=>O.blt (ky i) (ky j)) k))=false
 | 0=>⟨Nat.le_refl _,fun j hj=>by obtain rfl:j=0:=(by omega);exact O.irrefl _⟩
 | k+1=>by
  obtain⟨h1,h2⟩:=argBest_ord ky k
  rw[argBest.eq_2]
  cases e:O.blt (ky (k+1)) (ky (argBest (fun i j=>O.blt (ky i) (ky j)) k)) with
  | true=>
   rw[if_pos rfl]
   refine⟨Nat.le_refl _,fun j hj=>?_⟩
   by_cases c:j=k+1
   . subst c;exact O.irrefl _
   . cases e2:O.blt (ky j) (ky (k+1)) with
     | false=>rfl
     | true=>rw[<-h2 j (by omega)];exact (O.trans _ _ _ e2 e).symm
  | false=>
   rw[if_neg (by decide)]
   refine⟨by omega,fun j hj=>?_⟩
   by_cases c:j=k+1
   . subst c;exact e
   . exact h2 j (by omega)
theorem call_minD {prog:Program}{w:World}{A:Around}{s:Shared}{p:Addr}{its:List Value}{d:Value}{Q E:Value->Shared->Prop}(hA:A.handled=none)(bt:Nat->Nat->Bool)(hp:s.heap.IsList p its.toArray\/s.heap.IsTuple p its.toArray)
 (cmp:∀(i j:Nat)(vi vj:Value)(h:Heap)(tk:Nat)(Q E:Value->Shared->Prop),Kp s h->its[i]? = some vi->its[j]? = some vj->Q (.bool (bt i j)) { s with heap:=h,toks:=tk }->wpAny (model prog w) A.in1 (richCompare .Lt vi vj) Q E { s with heap:=h,toks:=tk })
 (hR:∀(v:Value)(h:Heap)(tk:Nat),its[argBest bt (its.length-1)]? = some v->Kp s h->Q v { s with heap:=h,toks:=tk })
 (h0:its=[]->∀(h:Heap)(tk:Nat),Kp s h->Q d { s with heap:=h,toks:=tk }) :
 wpAny (model prog w) A (call (.builtin "min") [.ref p] [(Str.ofString "default",d)]) Q E s:=by
 refine wpAny_call (codeAny_call_builtin PySem.F.plain_min PySem.F.entry_min (wpAny_of_eq (show checkBuiltinCall "min" { pos:=[.ref p],kw:=[(Str.ofString "default",d)] }=pure () from rfl) (wpAny_pure ?_)))
 unfold Builtin.min
 refine wpAny_bind (wpAny_of_eq (show Builtin.Builtins.bindParams "min" ["key", "default"] 0 { kw:=[(Str.ofString "default",d)] }=pure [none,some d] from rfl) (wpAny_pure ?_))
 dsimp only
 refine wpAny_bind (wpAny_pure ?_)
 have kp0:∀(o1 o2:Obj),Kp s ((s.heap.push o1).push o2):=fun o1 o2 b o e=>Heap.get?_push_of_some _ (Heap.get?_push_of_some _ e)
 rcases hp with hp | hp
 . refine wpAny_bind (wpAny_pyIter_list hp (wpAny_bind (wpAny_newList (wpAny_pure ⟨rfl,?_⟩) (by show 0<=sizeLine;decide))))
   have hSe:(s.heap.push { cls:=.type "list_iterator",data:=.fields #[.ref p,.int 0 0] }).objs.size=s.heap.objs.size+1:=Heap.size_push ..
   rw[hSe]
   refine minD_first (s0:=s) (I:=s.heap.objs.size) (S:=s.heap.objs.size+1) (itAt:=fun j h=>h.IsListIter s.heap.objs.size p j) ⟨fun j h h' a e=>?_,fun j h tk v Q E K hit hv q=>?_,fun j h tk Q E K hit hv q=>?_⟩ bt (Nat.le_succ _) (Nat.le_refl _) (Nat.succ_ne_self _) cmp hR h0 _ s.toks 0 (kp0 _ _) ?_ ?_
   . obtain⟨o,ho,hc⟩:=a
     exact⟨o,by rw[e];exact ho,hc⟩
   . obtain⟨o,ho,hc⟩:=hp
     exact wpAny_pyNext_list_item hit ⟨o,K _ _ ho,hc⟩ (by rw[List.getElem?_toArray];exact hv) fun h' a b=>q h' a fun c hc=>b.2 c hc
   . obtain⟨o,ho,hc⟩:=hp
     exact wpAny_pyNext_list_end hA hit ⟨o,K _ _ ho,hc⟩ (by rw[List.getElem?_toArray];exact hv) fun h' b=>q h' b
   . exact⟨_,Heap.get?_push_of_some _ (Heap.get?_push_size _ rfl),rfl,rfl⟩
   . rw[<-hSe];exact Heap.get?_push_size _ rfl
 . refine wpAny_bind (wpAny_pyIter_tuple hp (wpAny_bind (wpAny_newList (wpAny_pure ⟨rfl,?_⟩) (by show 0<=sizeLine;decide))))
   have hSe:(s.heap.push { cls:=.type "tuple_iterator",data:=.fields #[.ref p,.int 0 0] }).objs.size=s.heap.objs.size+1:=Heap.size_push ..
   rw[hSe]
   refine minD_first (s0:=s) (I:=s.heap.objs.size) (S:=s.heap.objs.size+1) (itAt:=fun j h=>h.IsTupleIter s.heap.objs.size p j) ⟨fun j h h' a e=>?_,fun j h tk v Q E K hit hv q=>?_,fun j h tk Q E K hit hv q=>?_⟩ bt (Nat.le_succ _) (Nat.le_refl _) (Nat.succ_ne_self _) cmp hR h0 _ s.toks 0 (kp0 _ _) ?_ ?_
   . obtain⟨o,ho,hc⟩:=a
     exact⟨o,by rw[e];exact ho,hc⟩
   . obtain⟨o,ho,hc⟩:=hp
     exact wpAny_pyNext_tuple_item hit ⟨o,K _ _ ho,hc⟩ (by rw[List.getElem?_toArray];exact hv) fun h' a b=>q h' a fun c hc=>b.2 c hc
   . obtain⟨o,ho,hc⟩:=hp
     exact wpAny_pyNext_tuple_end hA hit ⟨o,K _ _ ho,hc⟩ (by rw[List.getElem?_toArray];exact hv) fun h' b=>q h' b
   . exact⟨_,Heap.get?_push_of_some _ (Heap.get?_push_size _ rfl),rfl,rfl⟩
   . rw[<-hSe];exact Heap.get?_push_size _ rfl
section
variable {X:Cx}
def rMinD (K:PySem.W.Frag)(x dv:V)(H:Hp)(Q:VK):Prop:=∃(p:Addr)(ys:List V),x = .ref p/\(SqL K H p ys\/SqT K H p ys)/\(ys=[]->Q dv H) /\
 ((∃ks,TupsAre H ys ks/\∀(i:Nat)(y:V)(k:List Int),ys[i]? = some y->ks[i]? = some k->(∀k'∈ks,HT.lexLt k' k=false)->Q y H)\/(∃ns:List Int,ys=ns.map V.int/\∀n∈ns,(∀m∈ns,n<=m)->Q (.int n) H))
def tMinD (K:PySem.W.Frag)(t:TA)(td:TE):TE:=fun σ H Q=>t σ H fun vs H1=>∃x,vs=[x]/\td σ H1 fun dv H2=>rMinD K x dv H2 Q
theorem pe_minD {e de:Expr}{t:TA}{td:TE}{pos np kpos:Pos}(hc:X.calm=true)(hu:X.A.units+1<cLine)(hg:Gl X "min") (hm:X.mg "min" = none) (he:PA X [e] t)(hd:PE X de td)
 (hs1:backTo pos (starEach [e] X.env)=(false,eval e X.env)::backTo pos (starEach [] X.env):=by rfl)(hs2:(backTo pos (starEach [e] X.env)).any (·.1)=false:=by rfl) :
 PE X (.Call (.Name "min" np) [e] [⟨some "default",de,kpos⟩] pos) (tMinD X.K t td):=by
 intro pins s σ H Q I h
 refine wpAny_Call_Name_kw (ld_blt I hg hm (by decide +kernel:bootBuiltins "min" = some (.builtin "min")) ?_)
 refine PyProof.Rows.callWith_kw (thn (he pos pins s σ H _ I h) fun us s1 ⟨vs,H1,I1,r,q1⟩=>?_) hs1 hs2
 obtain⟨x,rfl,q1⟩:=q1
 obtain⟨u,rfl,rx⟩:=vals1 r
 show wpAny _ _ (evalAll ((do let v <-eval de X.env;standAt pos;pure v)::[])) _ _ s1
 refine wpAny_evalAll_cons (wpAny_bind (thn (hd pins s1 σ H1 _ I1 q1) fun ud s2 ⟨dv,H2,I2,rd,q2⟩=>wpAny_bind (wpAny_standAt (wpAny_pure (wpAny_evalAll_nil ?_)))))
 show wpAny _ _ (call (.builtin "min") [u] [(Str.ofString "default",ud)]) _ _ s2
 obtain⟨p,ys,rfl,hp,q0,hk⟩:=q2
 cases rx
 obtain⟨its,rv,hpp⟩:∃its:List Value,Vals ys its/\(s2.heap.IsList p its.toArray\/s2.heap.IsTuple p its.toArray):=by
  rcases hp with hp | hp
  . obtain⟨its,r',pl,_⟩:=I2.list hp
    exact⟨its,r',.inl pl.isList⟩
  . obtain⟨its,r',pl,_⟩:=I2.tuple hp
    exact⟨its,r',.inr pl⟩
 have hlen:=rv.length
 have e0:its=[]->ys=[]:=fun z=>List.length_eq_zero_iff.mp (by rw[hlen,z];rfl)
 rcases hk with ⟨ks,T,q⟩ | ⟨ns,rfl,q⟩
 . have hl:=T.length
   refine call_minD (I2.ok.hd hc) (fun i j=>lexO.blt (ks.getD i []) (ks.getD j [])) hpp (fun i j vi vj h tk Q E K hi hj q=>?_) (fun v h tk hv K=>?_) (fun z h tk K=>⟨dv,H2,I2.kept K,rd,q0 (e0 z)⟩)
   . have look:∀(i:Nat)(v:Value),its[i]? = some v->∃(p:Addr)(k:List Int)(us:List Value),v = .ref p/\ks[i]? = some k/\IntsAre us k/\IsTup h p us.toArray:=fun i v hv=>by
      have hi:i<ys.length:=by have:=(List.getElem?_eq_some_iff.mp hv).1;omega
      obtain⟨p,k,e1,e2,e3,_⟩:=T.get (i:=i) (x:=ys[i]) (by simp[hi])
      obtain⟨u,hu,ru⟩:=rv.get (i:=i) (x:=ys[i]) (by simp[hi])
      rw[hv] at hu;cases hu
      rw[e1] at ru
      cases (show v=Value.ref p from ru)
      obtain⟨_,us,rv',o,ho,hc⟩:=I2.hok p _ e3
      exact⟨p,k,us,rfl,e2,intsAre_of rv',o,K _ _ ho,hc⟩
     obtain⟨p1,k1,us1,rfl,g1,i1,t1⟩:=look i vi hi
     obtain⟨p2,k2,us2,rfl,g2,i2,t2⟩:=look j vj hj
     refine HT.lt_tupInts (ns:=k1) (ms:=k2) t1 t2 i1 i2 hu ?_
     have:lexO.blt (ks.getD i []) (ks.getD j [])=HT.lexLt k1 k2:=by rw[List.getD_eq_getElem?_getD,List.getD_eq_getElem?_getD,g1,g2];rfl
     rw[<-this];exact q
   . obtain⟨b1,b2⟩:=argBest_ord (O:=lexO) (fun i=>ks.getD i []) (its.length-1)
     have hlt:=(List.getElem?_eq_some_iff.mp hv).1
     generalize eb:argBest (fun i j=>lexO.blt (ks.getD i []) (ks.getD j [])) (its.length-1)=bi at hv hlt b1 b2
     have hy:bi<ys.length:=by omega
     obtain⟨u,hu,ru⟩:=rv.get (i:=bi) (x:=ys[bi]) (by simp[hy])
     rw[hv] at hu;cases hu
     obtain⟨pa,k,e1,e2,e3,_⟩:=T.get (i:=bi) (x:=ys[bi]) (by simp[hy])
     refine⟨ys[bi],H2,I2.kept K,ru,q bi ys[bi] k (by simp[hy]) e2 fun k' hk'=>?_⟩
     obtain⟨j,hj,ej⟩:=List.getElem_of_mem hk'
     have:=b2 j (by omega)
     have g1:ks.getD j []=k':=by rw[List.getD_eq_getElem?_getD,List.getElem?_eq_getElem hj,ej];rfl
     have g2:ks.getD bi []=k:=by rw[List.getD_eq_getElem?_getD,e2];rfl
     rw[g1,g2] at this
     exact this
 . have hI:IntsAre its ns:=intsAre_of rv
   have hl:=hI.length
   have look:∀(i:Nat)(v:Value),its[i]? = some v->∃t,v = .int (ns.getD i 0) t:=fun i v hv=>by
    have hi:i<ns.length:=by have:=(List.getElem?_eq_some_iff.mp hv).1;omega
    obtain⟨u,hu,ru⟩:=rv.get (i:=i) (x:=.int ns[i]) (by simp[hi])
    rw[hv] at hu;cases hu
    obtain⟨t,rfl⟩:=(show ∃t,v=Value.int ns[i] t from ru)
    exact⟨t,by rw[List.getD_eq_getElem?_getD,List.getElem?_eq_getElem hi];rfl⟩
   refine call_minD (I2.ok.hd hc) (fun i j=>decide (ns.getD i 0<ns.getD j 0)) hpp (fun i j vi vj h tk Q E K hi hj q=>?_) (fun v h tk hv K=>?_) (fun z h tk K=>⟨dv,H2,I2.kept K,rd,q0 (e0 z)⟩)
   . obtain⟨t1,rfl⟩:=look i vi hi
     obtain⟨t2,rfl⟩:=look j vj hj
     exact PyProof.Rows.lt_int q
   . obtain⟨b1,b2⟩:=argBest_lt (fun i=>ns.getD i 0) (its.length-1)
     have hlt:=(List.getElem?_eq_some_iff.mp hv).1
     generalize eb:argBest (fun i j=>decide (ns.getD i 0<ns.getD j 0)) (its.length-1)=bi at hv hlt b1 b2
     obtain⟨t,rfl⟩:=look bi v hv
     have hy:bi<ns.length:=by omega
     refine⟨.int (ns.getD bi 0),H2,I2.kept K,⟨t,rfl⟩,q _ ?_ fun m hm=>?_⟩
     . rw[List.getD_eq_getElem?_getD,List.getElem?_eq_getElem hy];exact List.getElem_mem hy
     . obtain⟨j,hj,ej⟩:=List.getElem_of_mem hm
       have:=b2 j (by omega)
       have g1:ns.getD j 0=m:=by rw[List.getD_eq_getElem?_getD,List.getElem?_eq_getElem hj,ej];rfl
       rw[g1] at this
       exact this
end
end L2
namespace L2
open PySem PyProof.Rows
theorem no_keys {prog:Program}{w:World}{A:Around}{s:Shared}{l:Addr}{its:Array Value}{Q:Option Value->Shared->Prop}{E:Value->Shared->Prop}(hA:A.handled=none)(hl:PlainL s.heap l its)
 (q:∀h' tk,Kp s h'->Q none { s with heap:=h',toks:=tk }):wpAny (model prog w) A (getAttr? (.ref l) (Str.ofString "keys")) Q E s:=by
 have ty:∀tk,Shared.TypeIs { s with toks:=tk } (.ref l) "list" := fun tk=>by
  obtain⟨o,ho,hc,_⟩:=hl.isList
  exact⟨o,ho,hc⟩
 unfold getAttr?
 refine wpAny_bind (wpAny_bind (wpAny_fresh (wpAny_pure ?_)))
 unfold getAttrBy?
 refine wpAny_bind (wpAny_attempt ?_)
 unfold getAttrBy
 refine wpAny_holding (wpAny_bind (wpAny_typeOf (ty _) (wpAny_bind (wpAny_of_eq (show typeLookup (.type "list") (Str.ofString "__getattribute__")=pure (some (.builtin "list.__getattribute__")) from rfl) (wpAny_pure ?_)))))
 show wpAny _ _ (getAttrByItsOwn _ _ _ _ _ _) _ _ _
 unfold getAttrByItsOwn
 refine wpAny_bind (wpAny_of_eq (show hookBefore (.type "list")=pure none from rfl) (wpAny_pure (wpAny_bind (wpAny_attempt (wpAny_holding ?_)))))
 show wpAny _ _ (boundAndCalled _ _ _) _ _ _
 unfold boundAndCalled
 refine wpAny_bind (wpAny_of_eq (show bindSpecial (.builtin "list.__getattribute__") (.ref l)=pure (.builtin "list.__getattribute__",[.ref l]) from rfl) (wpAny_pure ?_))
 refine wpAny_call (codeAny_call_builtin (by decide +kernel) PySem.am_entry_list_getattribute ?_)
 refine wpAny_bind (wpAny_isInstance (ty _) (b:=true) rfl ?_)
 refine wpAny_of_eq (m':=pure ()) rfl (wpAny_pure ?_)
 unfold Builtin.«object.__getattribute__»
 refine wpAny_bind (wpAny_of_eq (m':=pure (Value.ref l,[Value.str (Str.ofString "keys") s.toks])) rfl (wpAny_pure ?_))
 refine wpAny_bind (wpAny_pure (wpAny_bind (wpAny_typeOf (ty _) (wpAny_bind ?_))))
 unfold Builtin.ObjectAttr.find
 refine wpAny_bind (wpAny_of_eq (m':=pure none) rfl (wpAny_pure (wpAny_bind (wpAny_pure (wpAny_bind (wpAny_pure ?_))))))
 obtain⟨o,n,ho,hc,hd,hdat⟩:=id hl
 obtain⟨cls,dict,data,slots⟩:=o
 obtain rfl:cls=_:=hc
 obtain rfl:dict=_:=hd
 obtain rfl:data=_:=hdat
 refine wpAny_bind (wpAny_bind (wpAny_bind (wpAny_loadPart ho (wpAny_bind (wpAny_loadPart ho (wpAny_pure (wpAny_pure ?_)))))))
 refine wpAny_bind (wpAny_of_eq (m':=pure ()) rfl (wpAny_pure (wpAny_bind (wpAny_rule (wpAny_pure ?_)))))
 show wpAny _ _ (Builtin.ObjectAttr.noSuchAttribute (Value.ref l) (Str.ofString "keys")) _ _ _
 unfold Builtin.ObjectAttr.noSuchAttribute
 refine wpAny_bind (wpAny_bind (wpAny_bind (wpAny_typeOf (ty _) (wpAny_of_eq (m':=pure (Value.type "list")) rfl (wpAny_pure (wpAny_of_eq (m':=pure "list") rfl (wpAny_pure ?_)))))))
 refine wpAny_raiseAttrError hA (fun h' tk e ne=>?_) (by decide +kernel)
 obtain⟨t,u,he⟩:=ne.there
 have tye:∀tk,Shared.TypeIs { s with heap:=h',toks:=tk } (.ref e) "AttributeError" := fun tk=>⟨_,he,rfl⟩
 show wpAny _ _ (getattributeRaised _ _ _ _ _ _ _) _ _ _
 unfold getattributeRaised
 refine wpAny_bind (wpAny_isInstance (tye _) (b:=true) rfl ?_)
 refine wpAny_bind (wpAny_of_eq (m':=pure none) rfl (wpAny_pure ?_))
 refine wpAny_bind (wpAny_throw ?_)
 refine wpAny_bind (wpAny_isInstance (tye _) (b:=true) rfl (wpAny_pure ?_))
 exact q h' tk ne.keeps
theorem quiet_dul (a:Args):(Code.builtin "dict.update.loop" a).quiet=true:=plainId_quiet (id := "dict.update.loop") (by decide +kernel) a
theorem stored_len {κ:Type} [DecidableEq κ] (kvs:List (κ×Value))(k:κ)(v:Value):(stored kvs k v).length<=kvs.length+1:=by
 unfold stored
 split
 . rw[List.length_map];omega
 . rw[List.length_append];exact Nat.le_refl _
def stAll (qs:List (Key×Value)):List (Key×Value):=qs.foldl (fun a q=>stored a q.1 q.2) []
theorem stAll_snoc (qs:List (Key×Value))(q:Key×Value):stAll (qs++[q])=stored (stAll qs) q.1 q.2:=by unfold stAll;rw[List.foldl_append];rfl
theorem stAll_len (qs:List (Key×Value)):(stAll qs).length<=qs.length:=by
 have:∀(qs:List (Key×Value))(a:List (Key×Value)),(qs.foldl (fun a q=>stored a q.1 q.2) a).length<=a.length+qs.length:=by
  intro qs
  induction qs with
  | nil=>intro a;exact Nat.le_refl _
  | cons q qs ih=>
   intro a
   have h1:=ih (stored a q.1 q.2)
   have h2:=stored_len a q.1 q.2
   rw[List.foldl_cons,List.length_cons];omega
 have:=this qs []
 simpa [stAll] using this
section
variable {prog:Program}{w:World}{A:Around}{s0:Shared}{D I l:Addr}{its:List Value}{qs:List (Key×Value)}
theorem dict_loop {R:Result->Shared->Prop}(hA:A.handled=none)(hD:s0.heap.objs.size<=D)(hI:s0.heap.objs.size<=I)(hDI:D≠I)(hl:s0.heap.IsList l its.toArray)(hz:its.length<=sizeLine)(hqs:qs.length=its.length)
 (look:∀(i:Nat)(v:Value),its[i]? = some v->∃(p:Addr)(kv u:Value)(k:Key),v = .ref p/\IsTup s0.heap p #[kv,u]/\(mixKind prog w).is k kv=true/\qs[i]? = some (k,u))
 (hR:∀(h:Heap)(tk:Nat),Kp s0 h->h.DictOf (mixKind prog w) D (stAll qs)->R (.ok (.ret .none)) { s0 with heap:=h,toks:=tk }) :
 ∀(r j:Nat)(h:Heap)(tk:Nat),its.length-j=r->j<=its.length->Kp s0 h->h.IsListIter I l j->h.DictOf (mixKind prog w) D (stAll (qs.take j)) ->
  codeAny (model prog w) A (.builtin "dict.update.loop" { pos:=[.ref D,.ref I,rawInt j,.none] }) R { s0 with heap:=h,toks:=tk }:=by
 have hl':∀h,Kp s0 h->h.IsList l its.toArray:=fun h K=>by
  obtain⟨o,ho,hc⟩:=hl
  exact⟨o,K _ _ ho,hc⟩
 intro r
 induction r with
 | zero=>
  intro j h tk hr hj K hit hd
  refine codeAny_builtin (b:=Builtin.«dict.update.loop») (by rfl) ?_
  unfold Builtin.«dict.update.loop»
  refine wpAny_bind (wpAny_pyNext_list_end hA hit (hl' h K) (by rw[List.getElem?_toArray];exact List.getElem?_eq_none (by omega)) fun h' b=>?_)
  refine wpAny_bind (wpAny_of_eq (m':=pure ()) rfl (wpAny_pure (wpAny_pure ?_)))
  refine hR h' tk (K.but hI b) ?_
  obtain⟨o,es,ep,ho,hrest⟩:=hd
  rw[List.take_of_length_le (by omega)] at hrest
  exact⟨o,es,ep,b D o hDI ho,hrest⟩
 | succ r ih=>
  intro j h tk hr hj K hit hd
  obtain⟨x,hx⟩:∃x,its[j]? = some x:=⟨_,List.getElem?_eq_getElem (by omega)⟩
  obtain⟨p,kv,u,k,rfl,tp,hk,hq⟩:=look j x hx
  refine codeAny_builtin (b:=Builtin.«dict.update.loop») (by rfl) ?_
  unfold Builtin.«dict.update.loop»
  refine wpAny_bind (wpAny_pyNext_list_item hit (hl' h K) (by rw[List.getElem?_toArray];exact hx) fun h' hit' b=>?_)
  have K':Kp s0 h':=K.but hI fun c o hc e=>by rw[b.2 c hc];exact e
  obtain⟨o,ho,hc,n,hdat⟩:=tp
  refine wpAny_bind (wpAny_holding (wpAny_bind (wpAny_tryCatch ?_)))
  unfold Builtin.Dict.pairItems
  refine wpAny_bind (wpAny_typeOf (T := "tuple") ⟨o,K' _ _ ho,hc⟩ ?_)
  refine wpAny_bind (wpAny_seqItems (K' _ _ ho) hdat (wpAny_pure ?_))
  have hd':h'.DictOf (mixKind prog w) D (stAll (qs.take j)):=by
   obtain⟨o,es,ep,ho,hrest⟩:=hd
   exact⟨o,es,ep,by rw[b.2 D hDI];exact ho,hrest⟩
  refine wpAny_holding (wpAny_dictSet_pairs hk hd' (fun h2 hd2 b2=>?_) (Nat.le_trans (stAll_len _) (by rw[List.length_take];omega)))
  refine wpAny_pure ⟨quiet_dul _,?_⟩
  refine ih (j+1) h2 (tk+1) (by omega) (by omega) (fun c o e=>?_) ?_ ?_
  . rw[b2.2 c (Nat.ne_of_lt (Nat.lt_of_lt_of_le (Heap.lt_size e) hD))];exact K' c o e
  . obtain⟨o,ho,hc⟩:=hit'
    exact⟨o,by rw[b2.2 I (Ne.symm hDI)];exact ho,hc⟩
  . rw[List.take_add_one,hq]
    show h2.DictOf _ D (stAll (qs.take j++[(k,u)]))
    rw[stAll_snoc]
    exact hd2
end
theorem dict_empty {prog:Program}{w:World}(h:Heap):(h.push { cls:=.type "dict",data:=.dict #[] }).DictOf (mixKind prog w) h.objs.size []:=
 ⟨_,#[],0,Heap.get?_push_size _ rfl,⟨rfl,rfl,rfl⟩,rfl,by
  first | exact KeysOf.nil | (intro x hx;simp at hx) | trivial | decide,by
  first | exact .nil | trivial,List.nodup_nil⟩
theorem call_dictPairs {prog:Program}{w:World}{A:Around}{s:Shared}{l:Addr}{its:List Value}{qs:List (Key×Value)}{Q E:Value->Shared->Prop}(hA:A.handled=none)(hl:PlainL s.heap l its.toArray)(hz:its.length<=sizeLine)(hqs:qs.length=its.length)
 (look:∀(i:Nat)(v:Value),its[i]? = some v->∃(p:Addr)(kv u:Value)(k:Key),v = .ref p/\IsTup s.heap p #[kv,u]/\(mixKind prog w).is k kv=true/\qs[i]? = some (k,u))
 (q:∀(D:Addr)(h:Heap)(tk:Nat),s.heap.objs.size<=D->Kp s h->h.DictOf (mixKind prog w) D (stAll qs)->Q (.ref D) { s with heap:=h,toks:=tk }) :
 wpAny (model prog w) A (call (.type "dict") [.ref l]) Q E s:=by
 refine callType_codes (Q₁:=fun obj s₁=>obj = .ref s.heap.objs.size/\s₁={ s with heap:=s.heap.push { cls:=.type "dict",data:=.dict #[] } }) PySem.F.kt_called_dict (PySem.F.kt_typeCall_dict_1 _) PySem.F.entry_dict_init ?_ (fun obj s₁ e=>?_)
 . refine codeAny_call_builtin (by decide +kernel) PySem.F.kt_entry_dict_new (wpAny_of_eq (PySem.F.kt_newCall_dict_1 _) (wpAny_pure ?_))
   unfold Builtin.«dict.__new__»
   refine wpAny_bind (wpAny_of_eq (m':=pure true) rfl (wpAny_pure (wpAny_bind (wpAny_of_eq (m':=pure true) rfl (wpAny_pure (wpAny_bind (wpAny_of_eq (m':=pure [Value.type "dict",Value.type "object"]) rfl (wpAny_pure ?_))))))))
   exact wpAny_bind (wpAny_newObjAsIs_type (wpAny_pure ⟨rfl,rfl⟩))
 . obtain⟨rfl,rfl⟩:=e
   refine⟨⟨_,Heap.get?_push_size _ rfl,rfl⟩,PySem.F.args_dict_init_2 _ _,?_⟩
   unfold Builtin.«dict.__init__»
   have h0:Kp s (s.heap.push { cls:=.type "dict",data:=.dict #[] }):=fun b o e=>Heap.get?_push_of_some _ e
   have hl1:∀h,Kp s h->PlainL h l its.toArray:=fun h K=>by
    obtain⟨o,n,ho,hr⟩:=hl
    exact⟨o,n,K _ _ ho,hr⟩
   refine wpAny_bind (wpAny_bind (wpAny_bind (wpAny_typeOf (T := "dict") ⟨_,Heap.get?_push_size _ rfl,rfl⟩ (wpAny_pure (wpAny_bind (wpAny_pure (wpAny_pure ?_)))))))
   show wpAny _ _ (Builtin.Dict.updateFrom "dict.__init__" s.heap.objs.size (.ref l) [] .none) _ _ _
   unfold Builtin.Dict.updateFrom
   refine wpAny_bind (wpAny_typeOf (T := "list") (let ⟨o,ho,hc,_⟩:=(hl1 _ h0).isList;⟨o,ho,hc⟩) ?_)
   refine wpAny_bind (no_keys hA (hl1 _ h0) fun h1 tk1 K1=>?_)
   have K1':Kp s h1:=fun b o e=>K1 b o (h0 b o e)
   refine wpAny_bind (wpAny_rule (wpAny_bind (wpAny_pyIter_list (hl1 _ K1').isList (wpAny_pure ⟨quiet_dul _,?_⟩))))
   have hsz:s.heap.objs.size<h1.objs.size:=Heap.lt_size (K1 _ _ (Heap.get?_push_size _ rfl))
   refine dict_loop (A:=A.in1) (s0:=s) (l:=l) (its:=its) (qs:=qs) hA (Nat.le_refl _) (Nat.le_of_lt hsz) (Nat.ne_of_lt hsz) hl.isList hz hqs look ?_ its.length 0 _ tk1 rfl (Nat.zero_le _) (fun b o e=>Heap.get?_push_of_some _ (K1' b o e)) ?_ ?_
   . exact fun h tk K hd=>⟨rfl,q _ h tk (Nat.le_refl _) K hd⟩
   . exact⟨_,Heap.get?_push_size _ rfl,rfl,rfl⟩
   obtain⟨o,es,ep,ho,hr⟩:=dict_empty (prog:=prog) (w:=w) s.heap
   exact⟨o,es,ep,Heap.get?_push_of_some _ (K1 _ _ ho),hr⟩
section
variable {X:Cx}
def PairsAre (H:Hp)(ys:List V)(ps:List (Key×V)):Prop:=ps.length=ys.length/\∀(i:Nat)(y:V),ys[i]? = some y->∃(p:Addr)(k:Key)(v:V),y = .ref p/\H p=some (.tup [kV k,v])/\ps[i]? = some (k,v)
def putAll (ps:List (Key×V)):List (Key×V):=ps.foldl (fun a p=>putK a p.1 p.2) []
theorem putAll_kv:∀(ps:List (Key×V))(qs:List (Key×Value))(a:List (Key×V))(b:List (Key×Value)),KV ps qs->KV a b->KV (ps.foldl (fun a p=>putK a p.1 p.2) a) (qs.foldl (fun a q=>stored a q.1 q.2) b)
 | [],[],_,_,_,h=>h
 | p::ps,q::qs,a,b,h,h'=>by
  cases h with
  | cons h1 h2=>
   rw[List.foldl_cons,List.foldl_cons]
   refine putAll_kv ps qs _ _ h2 ?_
   rw[<-h1.1]
   exact KV.put h' p.1 h1.2
 | [],_::_,_,_,h,_=>by cases h
 | _::_,[],_,_,h,_=>by cases h
theorem putAll_len (ps:List (Key×V)):(putAll ps).length<=ps.length:=by
 have:∀(ps:List (Key×V))(a:List (Key×V)),(ps.foldl (fun a p=>putK a p.1 p.2) a).length<=a.length+ps.length:=by
  intro ps
  induction ps with
  | nil=>intro a;exact Nat.le_refl _
  | cons q qs ih=>
   intro a
   have h1:=ih (putK a q.1 q.2)
   have h2:=length_putK a q.1 q.2
   rw[List.foldl_cons,List.length_cons];omega
 have:=this ps []
 simpa [putAll] using this
theorem call_dictL (hc:X.calm=true):CallR X (.type "dict") (fun xs H Q=>∃l ys ps,xs=[.ref l]/\SqL X.K H l ys/\PairsAre H ys ps/\∀d,H d=none->Q (.ref d) (upd H d (.dK (putAll ps)))):=by
 intro pins s σ H xs us Q I r h
 obtain⟨l,ys,ps,rfl,hq,⟨hpl,hps⟩,q⟩:=h
 obtain⟨u,rfl,rx⟩:=vals1 r
 cases rx
 obtain⟨its,rv,pl,hz⟩:=I.list hq
 have hlen:=rv.length
 have both:∀(i:Nat),i<its.length->∃(p:Addr)(kv u:Value)(k:Key)(v:V),its[i]? = some (.ref p)/\IsTup s.heap p #[kv,u]/\(mixKind X.prog X.w).is k kv=true/\RelV v u/\ps[i]? = some (k,v):=fun i hi=>by
  have hy:i<ys.length:=by omega
  obtain⟨p,k,v,e1,e2,e3⟩:=hps i ys[i] (by simp[hy])
  obtain⟨u,hu,ru⟩:=rv.get (i:=i) (x:=ys[i]) (by simp[hy])
  rw[e1] at ru
  cases (show u=Value.ref p from ru)
  obtain⟨_,us,rv',tp⟩:=I.hok p _ e2
  obtain⟨a,b,rfl,ra,rb⟩:=vals2 rv'
  exact⟨p,a,b,k,v,hu,tp,kV_is ra,rb,e3⟩
 obtain⟨qs,hql,hqk⟩:∃qs:List (Key×Value),qs.length=its.length/\∀(i:Nat),i<its.length->∃(p:Addr)(kv u:Value)(k:Key)(v:V),its[i]? = some (.ref p)/\IsTup s.heap p #[kv,u]/\(mixKind X.prog X.w).is k kv=true/\RelV v u/\ps[i]? = some (k,v)/\qs[i]? = some (k,u):=by
  have:∀m,m<=its.length->∃qs:List (Key×Value),qs.length=m/\∀(i:Nat),i<m->∃(p:Addr)(kv u:Value)(k:Key)(v:V),its[i]? = some (.ref p)/\IsTup s.heap p #[kv,u]/\(mixKind X.prog X.w).is k kv=true/\RelV v u/\ps[i]? = some (k,v)/\qs[i]? = some (k,u):=by
   intro m
   induction m with
   | zero=>intro _;exact⟨[],rfl,fun i hi=>absurd hi (Nat.not_lt_zero _)⟩
   | succ m ih=>
    intro hm
    obtain⟨qs,h1,h2⟩:=ih (by omega)
    obtain⟨p,kv,u,k,v,g1,g2,g3,g4,g5⟩:=both m (by omega)
    refine⟨qs++[(k,u)],by rw[List.length_append,h1];rfl,fun i hi=>?_⟩
    by_cases c:i=m
    . subst c
      exact⟨p,kv,u,k,v,g1,g2,g3,g4,g5,by rw[List.getElem?_append_right (by omega),h1,Nat.sub_self];rfl⟩
    . obtain⟨p,kv,u,k,v,f1,f2,f3,f4,f5,f6⟩:=h2 i (by omega)
      exact⟨p,kv,u,k,v,f1,f2,f3,f4,f5,by rw[List.getElem?_append_left (by omega)];exact f6⟩
  exact this its.length (Nat.le_refl _)
 have kv:KV ps qs:=by
  have:∀(ps:List (Key×V))(qs:List (Key×Value)),ps.length=qs.length->(∀i,i<ps.length->∃k v u,ps[i]? = some (k,v)/\qs[i]? = some (k,u)/\RelV v u)->KV ps qs:=by
   intro ps
   induction ps with
   | nil=>intro qs e _;cases qs with
    | nil=>exact .nil
    | cons _ _=>simp at e
   | cons p ps ih=>
    intro qs e h
    cases qs with
    | nil=>simp at e
    | cons q qs=>
     obtain⟨k,v,u,h1,h2,h3⟩:=h 0 (by simp)
     simp at h1 h2
     subst h1 h2
     refine .cons ⟨rfl,h3⟩ (ih qs (by simpa using e) fun i hi=>?_)
     obtain⟨k,v,u,h1,h2,h3⟩:=h (i+1) (by simp;omega)
     exact⟨k,v,u,by simpa using h1,by simpa using h2,h3⟩
  refine this ps qs (by omega) fun i hi=>?_
  obtain⟨p,kv,u,k,v,_,_,_,f4,f5,f6⟩:=hqk i (by omega)
  exact⟨k,v,u,f5,f6,f4⟩
 refine call_dictPairs (its:=its) (qs:=qs) (I.ok.hd hc) pl (by omega) hql (fun i v hv=>?_) (fun D h tk hD K dd=>?_)
 . obtain⟨p,kv,u,k,v',f1,f2,f3,f4,f5,f6⟩:=hqk i (List.getElem?_eq_some_iff.mp hv).1
   rw[hv] at f1;cases f1
   exact⟨p,kv,u,k,rfl,f2,f3,f6⟩
 . have hfr:H D=none:=I.hok.fresh hD
   have zz:(putAll ps).length<=sizeLine:=Nat.le_trans (putAll_len ps) (by omega)
   refine⟨.ref D,_,I.laid (a:=D) (o:=.dK (putAll ps)) (t':=tk) K hD (dk_new zz (beq_eq_false_iff_ne.mpr (Ne.symm (Nat.ne_of_lt (Nat.lt_of_lt_of_le I.big hD)))) (putAll_kv ps qs [] [] kv .nil) dd),rfl,q D hfr⟩
end
end L2
namespace L2
open PySem PySem.Spec PyProof.Rows
section
variable {X:Cx}
theorem pe_tyN {x:Str}{T:String}{pos:Pos}(hg:Gl X x)(hm:X.mg x=none)(hv:bootBuiltins x=some (.type T))(hn:x ≠ "__name__" := by decide) (hdb:(x==("__debug__" : Str))=false:=by decide):PE X (.Name x pos) (tC (.ty T)):=
 fun pins s σ H Q I h=>ld_blt I hg hm hv ⟨.ty T,H,I,rfl,h⟩ hn hdb
theorem call_isinst:CallR X (.builtin "isinstance") (fun xs H Q=>∃x T t b,xs=[x,.ty T]/\TyOf X.K H x t/\PySem.W.kitOne X.K t (.type T)=some b/\Q (.bl b) H):=by
 intro pins s σ H xs us Q I r h
 obtain⟨x,T,t,b,rfl,ty,e,q⟩:=h
 obtain⟨u,w',rfl,rx,rT⟩:=vals2 r
 cases (show w'=Value.type T from rT)
 exact isinst_ok I rx ty e fun tk=>⟨.bl b,H,I.tok tk,rfl,q⟩
theorem ps_no {st:Stmt}:PS X st (fun _ _ _=>False):=fun _ _ _ _ _ _ h=>h.elim
end
section
variable {prog:Program}{w:World}{A:Around}{s0:Shared}{I l:Addr}{bs:List Bool}
theorem all_loop {R:Result->Shared->Prop}(hA:A.handled=none)(hI:s0.heap.objs.size<=I)(hl:s0.heap.IsList l (bs.map Value.bool).toArray)
 (hR:∀(h:Heap)(tk:Nat),Kp s0 h->R (.ok (.ret (.bool (bs.all id)))) { s0 with heap:=h,toks:=tk }) :
 ∀(r j:Nat)(h:Heap)(tk:Nat),bs.length-j=r->j<=bs.length->Kp s0 h->h.IsListIter I l j->(bs.take j).all id=true ->
  codeAny (model prog w) A (.builtin "all.loop" { pos:=[.ref I] }) R { s0 with heap:=h,toks:=tk }:=by
 have hl':∀h,Kp s0 h->h.IsList l (bs.map Value.bool).toArray:=fun h K=>by
  obtain⟨o,ho,hc⟩:=hl
  exact⟨o,K _ _ ho,hc⟩
 intro r
 induction r with
 | zero=>
  intro j h tk hr hj K hit ha
  refine codeAny_builtin PySem.F.entry_all_loop ?_
  unfold Builtin.«all.loop»
  refine wpAny_bind (wpAny_pyNext_list_end hA hit (hl' h K) (by rw[List.getElem?_toArray];exact List.getElem?_eq_none (by rw[List.length_map];omega)) fun h' b=>?_)
  refine wpAny_bind (wpAny_rule (wpAny_pure ?_))
  rw[List.take_of_length_le (by omega)] at ha
  have:=hR h' tk (K.but hI b)
  rw[ha] at this
  exact this
 | succ r ih=>
  intro j h tk hr hj K hit ha
  obtain⟨x,hx⟩:∃x,bs[j]? = some x:=⟨_,List.getElem?_eq_getElem (by omega)⟩
  refine codeAny_builtin PySem.F.entry_all_loop ?_
  unfold Builtin.«all.loop»
  refine wpAny_bind (wpAny_pyNext_list_item hit (hl' h K) (x:=.bool x) (by rw[List.getElem?_toArray,List.getElem?_map,hx];rfl) fun h' hit' b=>?_)
  have K':Kp s0 h':=K.but hI fun c o hc e=>by rw[b.2 c hc];exact e
  refine wpAny_bind (wpAny_holding (wpAny_truthy_bool (wpAny_bind (wpAny_letGo ?_))))
  cases x with
  | true=>
   refine wpAny_pure ⟨rfl,?_⟩
   exact ih (j+1) h' tk (by omega) (by omega) K' hit' (by rw[List.take_add_one,hx,List.all_append,ha];rfl)
  | false=>
   refine wpAny_bind (wpAny_rule (wpAny_pure ?_))
   have e:bs.all id=false:=by
    cases z:bs.all id with
    | false=>rfl
    | true=>have:=List.all_eq_true.mp z false (List.mem_of_getElem? hx);simp at this
   have:=hR h' tk K'
   rw[e] at this
   exact this
end
section
variable {X:Cx}
theorem bools_of:∀{bs:List Bool}{its:List Value},Vals (bs.map V.bl) its->its=bs.map Value.bool
 | [],[],_=>rfl
 | b::bs,u::its,h=>by
  cases h with
  | cons h1 h2=>rw[List.map_cons,<-bools_of h2,show u=Value.bool b from h1]
 | [],_::_,h=>by cases h
 | _::_,[],h=>by cases h
theorem call_all (hc:X.calm=true):CallR X (.builtin "all") (fun xs H Q=>∃(p:Addr)(bs:List Bool),xs=[.ref p]/\SqL X.K H p (bs.map V.bl)/\Q (.bl (bs.all id)) H):=by
 intro pins s σ H xs us Q I r h
 obtain⟨p,bs,rfl,hq,q⟩:=h
 obtain⟨u,rfl,rx⟩:=vals1 r
 cases rx
 obtain⟨its,r',pl,hz⟩:=I.list hq
 rw[bools_of r'] at pl
 refine wpAny_call (codeAny_call_builtin PySem.F.plain_all PySem.F.entry_all (wpAny_of_eq (m':=pure ()) rfl (wpAny_pure ?_)))
 unfold Builtin.all
 refine wpAny_bind (wpAny_of_eq (m':=pure (Value.ref p)) rfl (wpAny_pure (wpAny_bind (wpAny_pyIter_list pl.isList (wpAny_pure ⟨rfl,?_⟩)))))
 refine all_loop (s0:=s) (l:=p) (bs:=bs) (I.ok.hd hc) (Nat.le_refl _) pl.isList ?_ bs.length 0 _ s.toks rfl (Nat.zero_le _) (fun b o e=>Heap.get?_push_of_some _ e) ?_ rfl
 . exact fun h tk K=>⟨.bl _,H,I.kept K,rfl,q⟩
 . exact⟨_,Heap.get?_push_size _ rfl,rfl,rfl⟩
end
theorem set_new {prog:Program}{w:World}{h:Heap}(led:Bool):(h.push { cls:=.type "set",data:=.set #[] 0 (SetTable.fresh 0 0 led) }).SetOf (intKind prog w) h.objs.size (fun _=>false) 0:=by
 refine⟨_,#[],0,_,Heap.get?_push_size _ rfl,⟨rfl,rfl,rfl⟩,rfl,?_,fun k=>⟨fun z=>by simp at z,fun ⟨e,he,_⟩=>by simp at he⟩,by decide,?_,rfl⟩
 . first | exact ElemsOf.nil | trivial | (intro e he;simp at he)
 . cases led <;> first | rfl | decide +kernel
end L2
namespace L2
open PySem PySem.Spec PyProof.Rows
theorem call_setTup {prog:Program}{w:World}{A:Around}{s:Shared}{l:Addr}{its:List Value}{ns:List Int}{Q E:Value->Shared->Prop}(hA:A.handled=none)(hl:s.heap.IsTuple l its.toArray)(hi:IntsAre its ns)(hz:its.length+1<scanBound)
 (q:∀(h:Heap)(tk:Nat),Kp s h->h.SetOf (intKind prog w) s.heap.objs.size (fun k'=>(firstMet (fun i=>ns.getD i 0) its.length).any fun x=>x==k') (firstMet (fun i=>ns.getD i 0) its.length).length->Q (.ref s.heap.objs.size) { s with heap:=h,toks:=tk }) :
 wpAny (model prog w) A (call (.type "set") [.ref l]) Q E s:=by
 refine wpAny_call (codeAny_of_tree (wpAny_pure ⟨Code.quiet_builtin _ (by decide +kernel),codeAny_builtin PySem.F.entry_type_call ?_⟩))
 unfold Builtin.«type.__call__»
 dsimp only
 rw[if_neg (by rw[PySem.F.called_set.notType];decide)]
 rw[if_neg (by rw[PySem.F.called_set.canCreate];decide)]
 obtain⟨c,tl,hm⟩:=PySem.F.called_set.mro
 refine wpAny_bind (wpAny_of_eq (PySem.F.typeCall_set_1 _) (wpAny_pure (wpAny_bind (wpAny_of_eq hm (wpAny_pure ?_)))))
 refine wpAny_bind (wpAny_of_eq PySem.F.called_set.made (wpAny_pure (wpAny_bind (wpAny_pure ?_))))
 refine wpAny_bind (wpAny_holding (wpAny_call (codeAny_mono (code_set_new_1 (E:=E) (.ref l) (Q₁:=fun obj s₁=>obj = .ref s.heap.objs.size/\∃led,s₁={ s with heap:=s.heap.push { cls:=.type "set",data:=.set #[] 0 (SetTable.fresh 0 0 led) } }) fun led=>⟨rfl,led,rfl⟩) fun r s₁ e=>?_)))
 match r,e with
 | .ok (.ret obj),e=>
  obtain⟨rfl,led,rfl⟩:=e
  have h0:Kp s (s.heap.push { cls:=.type "set",data:=.set #[] 0 (SetTable.fresh 0 0 led) }):=fun b o e=>Heap.get?_push_of_some _ e
  have ht:∀h,Kp s h->h.IsTuple l its.toArray:=fun h K=>by
   obtain⟨o,ho,hr⟩:=hl
   exact⟨o,K _ _ ho,hr⟩
  have hlt:l<s.heap.objs.size:=by
   obtain⟨o,ho,_⟩:=hl
   exact Heap.lt_size ho
  have tyS:Shared.TypeIs { s with heap:=s.heap.push { cls:=.type "set",data:=.set #[] 0 (SetTable.fresh 0 0 led) } } (.ref s.heap.objs.size) "set" := ⟨_,Heap.get?_push_size _ rfl,rfl⟩
  show wpAny _ _ _ _ _ _
  refine wpAny_bind (wpAny_isInstance tyS PySem.F.called_set.sub ?_)
  refine wpAny_bind (wpAny_holding ?_)
  unfold callSpecial?
  refine wpAny_bind (wpAny_specialOf tyS PySem.F.called_set.init.lookup (wpAny_holding (wpAny_bind (wpAny_of_eq (PySem.F.called_set.init.bind _) (wpAny_pure (wpAny_bind (wpAny_call (codeAny_call_builtin PySem.F.called_set.init.plain PySem.F.entry_set_init (check_set_init_1 tyS ?_)))))))))
  unfold Builtin.«set.__init__»
  refine wpAny_bind (wpAny_of_eq (m':=pure ()) rfl (wpAny_pure ?_))
  dsimp only
  refine wpAny_bind (wpAny_bind (wpAny_bind (wpAny_typeOf tyS (wpAny_of_eq (m':=pure (Value.type "set")) rfl (wpAny_pure (wpAny_of_eq (m':=pure "set") rfl (wpAny_pure ?_)))))))
  refine wpAny_bind (wpAny_of_eq (m':=pure ()) rfl (wpAny_pure (wpAny_bind (wpAny_pure ?_))))
  refine wpAny_bind (wpAny_bind (wpAny_bind (wpAny_load (Heap.get?_push_size _ rfl) ?_)))
  refine wpAny_of_eq (m':=pure (#[],0,SetTable.fresh 0 0 led)) (by cases led <;> rfl) (wpAny_pure (wpAny_of_eq (m':=pure false) (by cases led <;> rfl) (wpAny_pure ?_)))
  have tyT:∀h tk,Kp s h->Shared.TypeIs { s with heap:=h,toks:=tk } (.ref l) "tuple" := fun h tk K=>by
   obtain⟨o,ho,hr⟩:=ht h K
   exact⟨o,ho,hr.1⟩
  show wpAny _ _ (Builtin.Frozenset.updateFrom "set.__init__" s.heap.objs.size (.ref l) >>= _) _ _ _
  unfold Builtin.Frozenset.updateFrom
  refine wpAny_bind (wpAny_bind (wpAny_bind (wpAny_isInstance (tyT _ _ h0) PySem.F.sub_tuple_set (wpAny_isInstance (tyT _ _ h0) (b:=false) rfl ?_))))
  refine wpAny_bind (wpAny_typeOf (tyT _ _ h0) ?_)
  refine wpAny_bind (wpAny_pyIter_tuple (ht _ h0) (wpAny_bind (wpAny_runValue ?_)))
  have hsz:(s.heap.push { cls:=.type "set",data:=.set #[] 0 (SetTable.fresh 0 0 led) }).objs.size=s.heap.objs.size+1:=Heap.size_push ..
  refine codeAny_set_update_loopS (Walks.toS (Walks.tuple (A:=(A.under (Code.builtin "type.__call__" { pos:=[.type "set",.ref l] })).in1.in1) hA (s.heap.push { cls:=.type "set",data:=.set #[] 0 (SetTable.fresh 0 0 led) }).objs.size l (Nat.ne_of_lt (by rw[hsz];exact Nat.lt_succ_of_lt hlt)) its.toArray)) s.heap.objs.size ?_ (fun i=>ns.getD i 0) ?_ (by simpa using hz) its.toArray.size 0 _ rfl (Nat.zero_le _) ?_ ?_ ?_
  . rw[hsz]
    intro z
    rcases List.mem_cons.mp z with z | z
    . exact absurd z (Nat.ne_of_lt (Nat.lt_succ_self _))
    . exact absurd (List.mem_singleton.mp z) (Nat.ne_of_gt hlt)
  . intro i v hv
    rw[List.getElem?_toArray] at hv
    exact hi.int_at i v hv
  . exact⟨⟨_,Heap.get?_push_size _ rfl,rfl,rfl⟩,ht _ fun b o e=>Heap.get?_push_of_some _ (h0 b o e)⟩
  . have:=set_new (prog:=prog) (w:=w) (h:=s.heap) led
    obtain⟨o,es,ep,t,ho,hr⟩:=this
    exact⟨o,es,ep,t,Heap.get?_push_of_some _ ho,hr⟩
  . intro s' mv so
    refine wpAny_pure (wpAny_pure (wpAny_pure (wpAny_pure ?_)))
    obtain⟨h',g',d',t',o'⟩:=s'
    obtain rfl:g'=s.gens:=mv.gens
    obtain rfl:d'=s.drawn:=mv.drawn
    obtain rfl:o'=s.os:=mv.os
    refine q h' t' (fun b o e=>mv.heap b o ?_ (Heap.get?_push_of_some _ (h0 b o e))) (by simpa using so)
    have hb:b<s.heap.objs.size:=Heap.lt_size e
    intro z
    rw[hsz] at z
    rcases List.mem_cons.mp z with z | z
    . exact absurd z (Nat.ne_of_lt hb)
    . exact absurd (List.mem_singleton.mp z) (Nat.ne_of_lt (Nat.lt_succ_of_lt hb))
 | .ok .next,e=>exact e.elim
 | .ok .brk,e=>exact e.elim
 | .ok .cont,e=>exact e.elim
 | .error v,e=>exact e
end L2
namespace L2
open PySem PySem.Spec PyProof.Rows
theorem firstMet_nd {ns:List Int}(h:ns.Nodup):∀k,k<=ns.length->firstMet (fun i=>ns.getD i 0) k=ns.take k
 | 0,_=>rfl
 | k+1,hk=>by
  rw[firstMet_succ,firstMet_nd h k (by omega)]
  have hx:ns[k]? = some (ns.getD k 0):=by rw[List.getD_eq_getElem?_getD,List.getElem?_eq_getElem (by omega)];rfl
  unfold step_dedup
  rw[if_neg,List.take_add_one,hx]
  . rfl
  . intro z
    obtain⟨y,hy,e⟩:=List.any_eq_true.mp z
    have e':y=ns.getD k 0:=by simpa using e
    obtain⟨j,hj,ej⟩:=List.getElem_of_mem hy
    rw[List.length_take] at hj
    rw[List.getElem_take] at ej
    obtain⟨hk',ek⟩:=List.getElem?_eq_some_iff.mp hx
    have:=(List.nodup_iff_pairwise_ne.mp h)
    have:=List.pairwise_iff_getElem.mp this j k (by omega) (by omega) (by omega)
    exact this (by rw[ej,ek,e'])
section
variable {X:Cx}
theorem call_setT (hc:X.calm=true):CallR X (.type "set") (fun xs H Q=>∃(p:Addr)(ns:List Int),xs=[.ref p]/\SqT X.K H p (ns.map V.int)/\ns.length<=1000 /\
 ∀d S,H d=none->Q (.ref d) (upd H d (.set S (firstMet (fun i=>ns.getD i 0) ns.length).length))):=by
 intro pins s σ H xs us Q I r h
 obtain⟨p,ns,rfl,hq,hl,q⟩:=h
 obtain⟨u,rfl,rx⟩:=vals1 r
 cases rx
 obtain⟨its,rv,pl,hz⟩:=I.tuple hq
 have hi:=intsAre_of rv
 have hil:=hi.length
 refine call_setTup (I.ok.hd hc) pl hi (by have:scanBound=4096:=rfl;omega) fun h tk K so=>?_
 rw[hil] at so
 exact⟨.ref s.heap.objs.size,_,I.laid (a:=s.heap.objs.size) (t':=tk) K (Nat.le_refl _) (show ObjOk X.prog X.w _ _ _ (.set _ _) from so),rfl,q _ _ I.fresh⟩
theorem call_lenS:CallR X (.builtin "len") (fun xs H Q=>∃(a:Addr)(S:Int->Bool)(n:Nat),xs=[.ref a]/\H a=some (.set S n)/\Q (.int n) H):=by
 intro pins s σ H xs us Q I r h
 obtain⟨a,S,n,rfl,ha,q⟩:=h
 obtain⟨u,rfl,rx⟩:=vals1 r
 cases rx
 obtain⟨o,es,ep,t,ho,ex,hd,_,_,hb,hf,hn⟩:=(show ObjOk X.prog X.w H s.heap a (.set S n) from I.hok a _ ha)
 refine call_len_set ho ex hd hf (by have:scanBound=4096:=rfl;omega) ⟨.int n,H,I.tok _,⟨_,by rw[hn]⟩,q⟩
def tBMT (r:V->List V->Hp->VK->Prop)(to:TE)(t:TA):TE:=fun σ H Q=>to σ H fun x H1=>(∃p ys,x = .ref p/\H1 p=some (.tup ys))/\t σ H1 fun xs H2=>r x xs H2 Q
variable {o e:Expr}{es:List Expr}{to:TE}{t:TA}{name:Str}{apos cpos:Pos}{id:String}{r:V->List V->Hp->VK->Prop}
theorem pe_bmT (slot:Slot "tuple" name id) (hty:typeOf (.builtin id)=pure (.type "method_descriptor")) (hm:MtR X id r)(ho:PE X o to)(ha:PA X (e::es) t)
 (hbase:attributeBase o name X.env (eval o X.env)=eval o X.env:=by rfl)
 (hfew:((backTo cpos (starEach (e::es) X.env)).all (fun x=>!x.1) && (backToKw cpos (keywordEach [] X.env)).all (fun x=>x.1.isSome)
  && decide ((e::es).length+([]:List Keyword).length+(if ([]:List Keyword).isEmpty then 0 else 1)<30))=true:=by rfl)
 (hline:(apos.endLine==cpos.line)=true:=by rfl)(hs:starEach (e::es) X.env=(false,eval e X.env)::starEach es X.env:=by rfl)(hplain:(backTo cpos (starEach es X.env)).any (·.1)=false:=by rfl) :
 PE X (.Call (.Attribute o name apos) (e::es) [] cpos) (tBMT r to t):=by
 intro pins s σ H Q I h
 refine wpAny_Call_method_late hbase hfew hline rfl (thn (ho pins s σ H _ I h) fun v s1 ⟨x,H1,I1,r1,⟨p,ys,ex,hp⟩,q1⟩=>?_)
 subst ex
 cases (show v=Value.ref p from r1)
 obtain⟨⟨_,o2,ho2,hd2⟩,its,rv,ob,hob,hcl,_⟩:=(show ObjOk X.prog X.w H1 s1.heap p (.tup ys) from I1.hok p _ hp)
 refine⟨"tuple",id,PySem.F.plainAttrs_tuple,slot,hty,⟨ob,hob,hcl⟩,fun a ea=>?_,?_⟩
 . cases ea
   exact⟨o2,ho2,hd2⟩
 have hA:=ha cpos pins s1 σ H1 _ I1 q1
 rw[hs] at hA ⊢
 refine Calls.callWith_builtin (by show (false || (backTo cpos (starEach es X.env)).any (·.1))=false;rw[hplain] <;> rfl) (Calls.evalArgs_plain ?_)
 exact thn hA fun us s2 ⟨vs,H2,I2,r2,q2⟩=>hm pins s2 σ H2 (.ref p) vs (.ref p) us Q I2 rfl r2 q2
end
section
variable {prog:Program}{w:World}{A:Around}{E:Value->Shared->Prop}
theorem index_for {its:Array Value}{ns:List Int}{v:Int}{tv:Tok}{i:Nat}{R:Option PySem.Fin×Unit->Shared->Prop}(hi:IntsAre its.toList ns)(hv:ns[i]? = some v)(hno:∀j,j<i->ns[j]?≠some v)
 (f:Nat->Option PySem.Fin×Unit->Sem (ForInStep (Option PySem.Fin×Unit)))
 (hf:∀(j:Nat)(x:Option PySem.Fin×Unit),f j x=(match its[j]? with
  | some y=>do
   let b <-eqBool y (.int v tv)
   if b=true then do
    let r <-retInt j
    pure (.done (some r,()))
   else pure (.yield (none,()))
  | _=>pure (.yield (none,()))))
 (s:Shared)(hR:∀tk,R (some (.done (.ret (.int i s.toks))),()) { s with toks:=tk }) :
 ∀(r j:Nat)(b:Option PySem.Fin×Unit),i-j=r->j<=i->wpAny (model prog w) A (forIn (List.range' j (its.size-j) 1) b f) R E s:=by
 have hsz:its.size=ns.length:=by have:=hi.length;simpa using this
 have hil:i<ns.length:=(List.getElem?_eq_some_iff.mp hv).1
 have look:∀j,j<ns.length->∃t,its[j]? = some (.int (ns.getD j 0) t):=fun j hj=>by
  have hj':j<its.size:=by omega
  obtain⟨t,ht⟩:=hi.int_at j (its[j]'hj') (by rw[Array.getElem?_toList,Array.getElem?_eq_getElem hj'])
  exact⟨t,by rw[Array.getElem?_eq_getElem hj',ht]⟩
 intro r
 induction r with
 | zero=>
  intro j b hr hj
  obtain rfl:j=i:=by omega
  rw[show its.size-j=(its.size-j-1)+1 by omega,List.range'_succ,List.forIn_cons,hf]
  obtain⟨t,ht⟩:=look j hil
  rw[ht]
  refine wpAny_bind (wpAny_bind (wpAny_eqBool_int ?_))
  have e:ns.getD j 0=v:=by rw[List.getD_eq_getElem?_getD,hv];rfl
  rw[e,show (v==v)=true by simp]
  refine wpAny_bind (wpAny_bind (wpAny_mkInt (wpAny_pure (wpAny_pure (wpAny_pure ?_)))))
  exact hR _
 | succ r ih=>
  intro j b hr hj
  rw[show its.size-j=(its.size-(j+1))+1 by omega,List.range'_succ,List.forIn_cons,hf]
  obtain⟨t,ht⟩:=look j (by omega)
  rw[ht]
  refine wpAny_bind (wpAny_bind (wpAny_eqBool_int ?_))
  have hj':ns[j]? = some (ns.getD j 0):=by rw[List.getD_eq_getElem?_getD,List.getElem?_eq_getElem (by omega)];rfl
  have e:¬ ns.getD j 0=v:=fun z=>hno j (by omega) (by rw[hj',z])
  rw[show (ns.getD j 0==v)=false by simpa using e]
  refine wpAny_pure ?_
  exact ih (j+1) _ (by omega) (by omega)
end
section
variable {X:Cx}
theorem mt_index:MtR X "tuple.index" (fun x xs H Q=>∃(p:Addr)(ns:List Int)(i:Nat)(v:Int),x = .ref p/\xs=[.int v]/\SqT X.K H p (ns.map V.int)/\ns[i]? = some v/\(∀j,j<i->ns[j]?≠some v)/\Q (.int i) H):=by
 intro pins s σ H x xs v us Q I rx r h
 obtain⟨p,ns,i,k,rfl,rfl,hq,hi,hno,q⟩:=h
 cases (show v=Value.ref p from rx)
 obtain⟨u,rfl,t,rfl⟩:=vals1 r
 obtain⟨its,rv,⟨ob,hob,hcl,n,hdat⟩,hz⟩:=I.tuple hq
 have hI:=intsAre_of rv
 refine wpAny_call (codeAny_call_builtin PySem.F.slot_tuple_index.plain PySem.F.entry_tuple_index (PySem.F.slot_tuple_index.check _ _ _ _ _ _ _ _ ⟨ob,hob,hcl⟩ (PySem.F.args_tuple_index_2 _ _) ?_))
 unfold Builtin.«tuple.index»
 refine wpAny_bind (wpAny_of_eq (m':=pure (Value.ref p,[Value.int k t])) rfl (wpAny_pure ?_))
 refine wpAny_bind (wpAny_bind (wpAny_seqItems hob hdat (wpAny_pure ?_)))
 refine wpAny_bind (wpAny_pure (wpAny_bind (wpAny_pure (wpAny_bind ?_))))
 rw[Std.Legacy.Range.forIn_eq_forIn_range']
 have hsz:(Std.Legacy.Range.mk 0 (min its.toArray.size its.toArray.size) 1 (by decide)).size=its.toArray.size-0:=by
  show (min its.toArray.size its.toArray.size-0+1-1)/1=_
  rw[Nat.min_self];omega
 rw[hsz]
 refine index_for (its:=its.toArray) (ns:=ns) (v:=k) (tv:=t) (i:=i) hI hi hno _ (fun j x=>by rfl) s (fun tk=>?_) i 0 _ (by omega) (Nat.zero_le _)
 exact wpAny_pure ⟨.int i,H,I.tok _,⟨_,rfl⟩,q⟩
end
section
variable {X:Cx}{pl:List (Addr×Obj)}{N':List Str}{sc:Scope}{fp:List Addr}{s3:Shared}{H3:Hp}
theorem mt_indexC:MtR (cxComp X pl N' sc fp s3 H3) "tuple.index" (fun x xs H Q=>∃(p:Addr)(ns:List Int)(i:Nat)(v:Int),x = .ref p/\xs=[.int v]/\SqT X.K H p (ns.map V.int)/\ns[i]? = some v/\(∀j,j<i->ns[j]?≠some v)/\Q (.int i) H):=mt_index
end
end L2
namespace L2
open PySem PySem.Spec PyProof.Rows
section
variable {X:Cx}
end
end L2
namespace L2
open PySem PySem.Spec PyProof.Rows
section
variable {prog:Program}{w:World}{A:Around}{s:Shared}{l:Addr}{its:List Value}{ns:List Int}{v:Int}{tv:Tok}
end
section
variable {X:Cx}
end
end L2
namespace WM
open L2
structure En where
 h:Int
 l:Int
 u:Option Int
 d:Option Int
def Cd (es fs:List En)(c:Int×Int):Prop:=∃e∈es,∃f∈fs,f.h=e.h/\c=(e.l+f.l,e.h)
def LMin (P:Int×Int->Prop):Option (Int×Int)->Prop
 | none=>∀c,¬ P c
 | some c=>P c/\∀c',P c'->c.1<c'.1\/(c.1=c'.1/\c.2<=c'.2)
def Hub (es:List En):Prop:=es.Pairwise fun a b=>a.h<b.h
def entE (es:List En)(h:Int):Option En:=es.find? fun e=>decide (e.h=h)
theorem entE_iff {es:List En}(hs:Hub es){h:Int}{e:En}:entE es h=some e↔e∈es/\e.h=h:=by
 unfold entE
 constructor
 . intro z
   exact⟨List.mem_of_find?_eq_some z,of_decide_eq_true (List.find?_some (p:=fun e:En=>decide (e.h=h)) z)⟩
 . rintro ⟨hm,rfl⟩
   induction es with
   | nil=>simp at hm
   | cons a es ih=>
    rw[List.find?_cons]
    rcases List.mem_cons.mp hm with rfl | hm'
    . simp
    . have hp:=List.pairwise_cons.mp hs
      have:=hp.1 e hm'
      rw[decide_eq_false (show ¬ a.h=e.h by omega)]
      exact ih hp.2 hm'
def cOf (fs:List En)(e:En):Option (Int×Int):=(entE fs e.h).map fun f=>(e.l+f.l,e.h)
theorem cOf_mem {es fs:List En}(hf:Hub fs)(c:Int×Int):c∈es.filterMap (cOf fs)↔Cd es fs c:=by
 rw[List.mem_filterMap]
 constructor
 . rintro ⟨e,he,z⟩
   unfold cOf at z
   cases q:entE fs e.h with
   | none=>rw[q] at z;cases z
   | some f=>
    rw[q] at z
    obtain⟨h1,h2⟩:=(entE_iff hf).mp q
    exact⟨e,he,f,h1,h2,(Option.some.inj z).symm⟩
 . rintro ⟨e,he,f,hfm,h1,rfl⟩
   refine⟨e,he,?_⟩
   unfold cOf
   rw[(entE_iff hf).mpr ⟨hfm,h1⟩]
   rfl
theorem filt_step {α:Type}{l:List α}{i:Nat}{x:α}(p:α->Bool)(h:l[i]? = some x):(l.take (i+1)).filter p=(l.take i).filter p++(if p x=true then [x] else []):=by
 rw[List.take_add_one,h,List.filter_append]
 show _++List.filter p [x]=_
 rw[List.filter_cons]
 rfl
theorem fm_step {α β:Type}{l:List α}{i:Nat}{x:α}(f:α->Option β)(h:l[i]? = some x):(l.take (i+1)).filterMap f=(l.take i).filterMap f++(f x).toList:=by
 rw[List.take_add_one,h,List.filterMap_append]
 show _++List.filterMap f [x]=_
 cases e:f x with
 | none=>rw[List.filterMap_cons_none e];rfl
 | some y=>rw[List.filterMap_cons_some e];rfl
end WM
namespace L2
open PySem PyProof.Rows
theorem putAll_id {ps:List (Key×V)}(h:(ps.map (·.1)).Nodup):putAll ps=ps:=by
 have:∀(ps a:List (Key×V)),((a++ps).map (·.1)).Nodup->ps.foldl (fun a p=>putK a p.1 p.2) a=a++ps:=by
  intro ps
  induction ps with
  | nil=>intro a _;rw[List.append_nil];rfl
  | cons p ps ih=>
   intro a hn
   have e:putK a p.1 p.2=a++[p]:=by
    unfold putK
    rw[if_neg]
    intro z
    obtain⟨q,hq,e⟩:=List.any_eq_true.mp z
    have e':=of_decide_eq_true e
    rw[List.map_append,List.map_cons] at hn
    have:=(List.nodup_append.mp hn).2.2 q.1 (List.mem_map_of_mem hq) p.1 List.mem_cons_self
    exact this e'
   rw[List.foldl_cons,e,ih (a++[p]) (by rw[List.append_assoc];exact hn),List.append_assoc]
   rfl
 exact this ps [] h
end L2
namespace WM
structure EG (ts:List T3)(n v:Int)(e:En):Prop where
 rng:0<=e.h/\e.h<n
 len:IsD ts v e.h e.l
 up:e.h≠v->∃p,e.u=some p/\Nxt ts v e.h p
 dn:e.h≠v->∃p,e.d=some p/\Nxt ts e.h v p
structure LG (ts:List T3)(n v:Int)(es:List En):Prop where
 hub:Hub es
 ent:∀e∈es,EG ts n v e
 own:∃e∈es,e.h=v
def CovP (ts:List T3)(v w:Int)(es fs:List En):Prop:=∀d,IsD ts v w d->∃h,Btw ts v w h/\(∃e∈es,e.h=h)/\∃f∈fs,f.h=h
theorem told_right {n:Int}{ts:List T3}(g:GW n ts){v w:Int}{es fs:List En}(L1:LG ts n v es)(L2:LG ts n w fs)(C:CovP ts v w es fs){lm:Option (Int×Int)}(h:LMin (Cd es fs) lm) :
 Len ts v w (lm.map (·.1))/\∀c,lm=some c->Btw ts v w c.2:=by
 cases lm with
 | none=>
  refine⟨fun d hd=>?_,fun c z=>by cases z⟩
  obtain⟨d',hd'⟩:=Way.least g hd
  obtain⟨x,_,⟨e,he,e1⟩,⟨f,hf,f1⟩⟩:=C d' hd'
  exact h _ ⟨e,he,f,hf,by rw[f1,e1],rfl⟩
 | some c=>
  obtain⟨⟨e,he,f,hf,hfe,rfl⟩,hmin⟩:=h
  have ie:=(L1.ent e he).len
  have if':=(L2.ent f hf).len
  rw[hfe] at if'
  have wy:Way ts v w (e.l+f.l):=ie.1.trans if'.1.symm
  obtain⟨d,hd⟩:=Way.least g wy
  obtain⟨x,⟨a,b,ia,ib,iab⟩,⟨e',he',e1⟩,⟨f',hf',f1⟩⟩:=C d hd
  have ed:a+b=d:=iab.uniq hd
  have ea:e'.l=a:=by have:=(L1.ent e' he').len;rw[e1] at this;exact this.uniq ia
  have eb:f'.l=b:=by have:=(L2.ent f' hf').len;rw[f1] at this;exact this.uniq ib.symm
  have hm:=hmin (e'.l+f'.l,e'.h) ⟨e',he',f',hf',by rw[f1,e1],rfl⟩
  have h1:=hd.2 _ wy
  have es:e.l+f.l=d:=by
   rcases hm with z | z
   . have:e.l+f.l<e'.l+f'.l:=z
     omega
   . have:e.l+f.l=e'.l+f'.l:=z.1
     omega
  have id':IsD ts v w (e.l+f.l):=by rw[es];exact hd
  refine⟨id',fun c z=>?_⟩
  cases z
  exact⟨e.l,f.l,ie,if'.symm,id'⟩
theorem min_rk {P:Int->Prop}(rk:Int->Int):∀(m:Nat)(p:Int),P p->(rk p).toNat<=m->∃q,P q/\∀r,P r->(rk q).toNat<=(rk r).toNat
 | 0,p,hp,h=>⟨p,hp,fun r _=>by omega⟩
 | m+1,p,hp,h=>by
  by_cases c:∃r,P r/\(rk r).toNat<(rk p).toNat
  . obtain⟨r,hr,hlt⟩:=c
    exact min_rk rk m r hr (by omega)
  . exact⟨p,hp,fun r hr=>Nat.le_of_not_lt fun z=>c ⟨r,hr,z⟩⟩
end WM
namespace L2
open PySem PySem.Spec PyProof.Rows
section
variable {X:Cx}
end
end L2
namespace SortT
open PySem PySem.W PySem.Calls PyProof.Rows
section
variable {prog:Program}{w:World}{A:Around}{E:Value->Shared->Prop}{s:Shared}
end
end SortT
namespace L2
open PySem PySem.Spec PyProof.Rows
section
variable {X:Cx}
end
section
variable {X:Cx}{pl:List (Addr×Obj)}{N':List Str}{sc:Scope}{fp:List Addr}{s3:Shared}{H3:Hp}
end
end L2
namespace L2
open PySem PySem.Spec PyProof.Rows
section
variable {X:Cx}
end
end L2
namespace L2
open PySem PySem.Spec PyProof.Rows
section
variable {X:Cx}
end
end L2
namespace HT
open PySem PySem.Spec PyProof.Rows
section
open PySem.SeqAt
open PySem.AutoSeq1 (wpAny_loadPart')
open PySem.MeetsSeq PySem.MeetsSeq2 PySem.MeetsSeq3
end
end HT
namespace L2
open PySem PySem.Spec PyProof.Rows
section
variable {X:Cx}
end
end L2
namespace HT
open PySem PySem.Spec PyProof.Rows
section
variable {prog:Program}{w:World}{A:Around}{E:Value->Shared->Prop}{s:Shared}
end
end HT
namespace L2
open PySem PySem.Spec PyProof.Rows
section
variable {X:Cx}{e:Expr}{te:TE}{pos p2 p3 p4:Pos}
end
end L2
namespace L2
open PySem PySem.Spec PyProof.Rows
section
variable {X:Cx}{pins:List (Addr×Obj)}{σ:St}{H:Hp}{s:Shared}{h':Heap}
theorem Inv.turnedLaid {t':Nat}{fp:List Addr}{a:Addr}{o:HO}(I:Inv X pins σ H s)(hf:∀b∈fp,FpOk X pins H b)(k:∀b u,b∉fp->s.heap.get? b=some u->h'.get? b=some u)(hp:s.heap.objs.size<=a)
 (new:ObjOk X.prog X.w (upd H a o) h' a o):Inv X pins σ (upd H a o) { s with heap:=h',toks:=t' }:=by
 have fr:H a=none:=I.hok.fresh hp
 have nfp:∀b u,H b=some u->b∉fp:=fun b u e z=>by rw[(hf b z).1] at e;cases e
 have na:∀b u,H b=some u->b≠a:=fun b u e z=>by rw[z,fr] at e;cases e
 refine I.step (g':=s.gens) (d':=s.drawn) (ch:=fp) (fun b hb=>?_) (fun b u _ _ hc e _=>k b u hc e) (fun b u _ _ hc e _=>⟨u.slots,k b u hc e⟩) (fun b u hc e n=>?_) (fun b u hc e=>⟨u,k b u hc e⟩)
  (fun b xs e=>by rw[upd_ne (na b _ e)];exact e) (fun b u w e=>by rw[upd_ne (na b _ e)];exact e) (fun b ps e=>⟨#[],by rw[upd_ne (na b _ e),e];simp⟩) (fun m hm=>?_) (fun b u e=>?_) I.bare
 . obtain⟨f0,f1,f2,f3,f4,f5⟩:=hf b hb
   exact⟨f3,f1,f4,f5⟩
 . rw[upd_ne (Nat.ne_of_lt (Nat.lt_of_lt_of_le (Heap.lt_size e) hp))]
   exact n
 . obtain⟨u,es,ep,ho,r⟩:=hm
   exact⟨u,es,ep,k _ u (fun z=>(hf _ z).2.1 rfl) ho,r⟩
 . by_cases z:b=a
   . subst z
     rw[upd_same] at e
     cases e
     exact new
   . rw[upd_ne z] at e
     refine (I.hok b u e).stay (fun c v hc q=>k c v ?_ q) (fun c q=>by rw[upd_ne (na c _ q)];exact q) fun c xs q=>by rw[upd_ne (na c _ q)];exact q
     rcases hc with z | z
     . rw[z];exact nfp b u e
     . exact nfp c _ z
end
section
variable {X:Cx}
end
end L2
namespace L2
open PySem PySem.Spec PyProof.Rows
section
variable {X:Cx}
theorem vals_ty:∀(Ts:List String)(its:List Value),Vals (Ts.map V.ty) its->its=Ts.map Value.type:=by
 intro Ts
 induction Ts with
 | nil=>intro its h;cases h;rfl
 | cons a r ih=>
  intro its h
  cases h with
  | cons h1 h2=>rw[ih _ h2,show _=Value.type a from h1];rfl
theorem call_isinstTs:CallR X (.builtin "isinstance") (fun xs H Q=>∃(x:V)(tp:Addr)(Ts:List String)(t:Value)(b:Bool),xs=[x,.ref tp]/\H tp=some (.tup (Ts.map V.ty))/\TyOf X.K H x t/\PySem.W.kitAny X.K t (Ts.map Value.type)=some b/\Q (.bl b) H):=by
 intro pins s σ H xs us Q I r h
 obtain⟨x,tp,Ts,t,b,rfl,ht,ty,e,q⟩:=h
 obtain⟨u,w',rfl,rx,rT⟩:=vals2 r
 cases (show w'=Value.ref tp from rT)
 obtain⟨⟨z,o2,e2,d2⟩,its,rv,ob,e3,c3,n3,s3⟩:=(show ObjOk X.prog X.w H s.heap tp (.tup (Ts.map V.ty)) from I.hok tp _ ht)
 have hits:=vals_ty Ts its rv
 obtain⟨c',d',da',sl'⟩:=ob
 simp only at c3 s3
 subst c3 s3 hits
 have h:∀tk,EP X pins σ Q (.bool b) { s with toks:=tk }:=fun tk=>⟨.bl b,H,I.tok tk,rfl,q⟩
 cases ty with
 | non=>cases (show u=Value.none from rx);exact PySem.W.kia_tup PySem.W.kitx_none I.kIn True.intro e3 e (fun z=>nomatch z) h
 | bl y=>cases (show u=Value.bool y from rx);exact PySem.W.kia_tup PySem.W.kitx_bool I.kIn True.intro e3 e (fun z=>nomatch z) h
 | int i=>obtain⟨t,q⟩:=(show ∃t,u=Value.int i t from rx);cases q;exact PySem.W.kia_tup PySem.W.kitx_int I.kIn True.intro e3 e (fun z=>nomatch z) h
 | str y=>obtain⟨t,q⟩:=(show ∃t,u=Value.str y t from rx);cases q;exact PySem.W.kia_tup PySem.W.kitx_str I.kIn True.intro e3 e (fun z=>nomatch z) h
 | flt y=>obtain⟨t,q⟩:=(show ∃t,u=Value.float y t from rx);cases q;exact PySem.W.kia_tup PySem.W.kitx_float I.kIn True.intro e3 e (fun z=>nomatch z) h
 | @lst a xs ea=>
  cases (show u=Value.ref a from rx)
  obtain⟨_,_,n,_,h1⟩:=(show ObjOk X.prog X.w H s.heap a (.lst xs) from I.hok a _ ea)
  exact PySem.W.kia_tup PySem.W.kitx_list I.kIn ⟨_,h1,rfl⟩ e3 e (fun z=>nomatch z) h
 | @frz a ob xs ea=>
  cases (show u=Value.ref a from rx)
  obtain⟨_,_,_,n,_,h1⟩:=(show ObjOk X.prog X.w H s.heap a (.frz ob (.lst xs)) from I.hok a _ ea)
  exact PySem.W.kia_tup PySem.W.kitx_list I.kIn ⟨_,h1,rfl⟩ e3 e (fun z=>nomatch z) h
 | @tup a xs ea=>
  cases (show u=Value.ref a from rx)
  obtain⟨_,_,_,p⟩:=(show ObjOk X.prog X.w H s.heap a (.tup xs) from I.hok a _ ea)
  obtain⟨o,h1,h2,_⟩:=p
  exact PySem.W.kia_tup PySem.W.kitx_tuple I.kIn ⟨o,h1,h2⟩ e3 e (fun z=>nomatch z) h
 | @dK a kvs ea=>
  cases (show u=Value.ref a from rx)
  obtain⟨_,_,vs,_,p⟩:=(show ObjOk X.prog X.w H s.heap a (.dK kvs) from I.hok a _ ea)
  obtain⟨o,es,ep,h1,h2,_⟩:=p
  exact PySem.W.kia_tup PySem.W.kitx_dict I.kIn ⟨o,h1,h2.1⟩ e3 e (fun z=>nomatch z) h
 | @dT a kvs ea=>
  cases (show u=Value.ref a from rx)
  obtain⟨_,_,xs,_,o,es,ep,h1,h2,_⟩:=(show ObjOk X.prog X.w H s.heap a (.dT kvs) from I.hok a _ ea)
  exact PySem.W.kia_tup PySem.W.kitx_dict I.kIn ⟨o,h1,h2.1⟩ e3 e (fun z=>nomatch z) h
 | @ins a C dx fs ea cl ha hn htk hm=>
  cases (show u=Value.ref a from rx)
  obtain⟨mA,O,_⟩:=ins_get I.hok ea
  obtain⟨od,J,_⟩:=O.look
  exact PySem.W.kia_tup (PySem.W.kitx_own (cl.get _) cl.hd ha hn htk hm) I.kIn J e3 e (fun z=>nomatch z) h
end
end L2
namespace L2
open PySem PySem.Spec PyProof.Rows
open PySem.AutoSeq1 (wpAny_loadPart')
section
variable {prog:Program}{w:World}{A:Around}{E:Value->Shared->Prop}{s:Shared}
theorem nextOf_tup {it t:Addr}{i:Nat}{items:Array Value}{x:Value}{Q:Value->Shared->Prop}(hi:s.heap.IsTupleIter it t i)(ht:s.heap.IsTuple t items)(hx:items[i]? = some x)
 (hQ:∀h',h'.IsTupleIter it t (i+1)->Heap.SameBut it s.heap h'->Q x { s with heap:=h' }):wpAny (model prog w) A (Builtin.SmallTypes.nextOf (.ref it)) Q E s:=by
 obtain⟨oi,hoi,ci,di⟩:=id hi
 obtain⟨ot,hot,_,nt,dt⟩:=ht
 unfold Builtin.SmallTypes.nextOf
 refine wpAny_bind (wpAny_callSpecial?_slot (name:=Str.ofString "__next__") hi.typeIs PySem.F.slot_tuple_iterator_next (wpAny_call_entry PySem.F.slot_tuple_iterator_next hi.typeIs PySem.F.entry_tuple_iterator_next ?_ (PySem.F.args_tuple_iterator_next_1 _)))
 show wpAny (model prog w) _ (field (.ref it) 0 >>= _) _ _ s;refine wpAny_bind (wpAny_field hoi di (x:=.ref t) rfl ?_)
 show wpAny (model prog w) _ (if (Value.ref t==Value.none)=true then _ else _) _ _ s;rw[if_neg (show ¬ ((Value.ref t==Value.none)=true) from Bool.false_ne_true)]
 show wpAny (model prog w) _ (field (.ref it) 1 >>= _) _ _ s;refine wpAny_bind (wpAny_field hoi di (x:=.int i 0) rfl ?_)
 show wpAny (model prog w) _ (seqItems? (.ref t) >>= _) _ _ s;refine wpAny_bind (wpAny_seqItems hot dt ?_)
 simp only[hx,Int.toNat_natCast]
 refine wpAny_bind (wpAny_setField hoi di (by simp) (wpAny_pure ⟨x,rfl,wpAny_pure (hQ _ ?_ (Heap.SameBut.update ..))⟩))
 refine⟨_,Heap.get?_update_self _ hoi (Obj.isFreed_of_fields (Obj.data_mapFields di _)),(Obj.cls_mapFields ..).trans ci,?_⟩
 rw[Obj.data_mapFields di];simp[rawInt]
theorem endOf_tup {it t:Addr}{i:Nat}{items:Array Value}{Q:Value->Shared->Prop}(hA:A.handled=none)(hi:s.heap.IsTupleIter it t i)(ht:s.heap.IsTuple t items)(hx:items[i]? = none)
 (hE:∀h' e,Heap.ExtBut it s.heap h'->(∃o,h'.get? e=some o/\o.cls = .type "StopIteration")->E (.ref e) { s with heap:=h' }):wpAny (model prog w) A (Builtin.SmallTypes.nextOf (.ref it)) Q E s:=by
 obtain⟨oi,hoi,ci,di⟩:=id hi
 obtain⟨ot,hot,_,nt,dt⟩:=ht
 unfold Builtin.SmallTypes.nextOf
 refine wpAny_bind (wpAny_callSpecial?_slot (name:=Str.ofString "__next__") hi.typeIs PySem.F.slot_tuple_iterator_next (wpAny_call_entry PySem.F.slot_tuple_iterator_next hi.typeIs PySem.F.entry_tuple_iterator_next ?_ (PySem.F.args_tuple_iterator_next_1 _)))
 show wpAny (model prog w) _ (field (.ref it) 0 >>= _) _ _ s;refine wpAny_bind (wpAny_field hoi di (x:=.ref t) rfl ?_)
 show wpAny (model prog w) _ (if (Value.ref t==Value.none)=true then _ else _) _ _ s;rw[if_neg (show ¬ ((Value.ref t==Value.none)=true) from Bool.false_ne_true)]
 show wpAny (model prog w) _ (field (.ref it) 1 >>= _) _ _ s;refine wpAny_bind (wpAny_field hoi di (x:=.int i 0) rfl ?_)
 show wpAny (model prog w) _ (seqItems? (.ref t) >>= _) _ _ s;refine wpAny_bind (wpAny_seqItems hot dt ?_)
 simp only[hx,Int.toNat_natCast]
 refine wpAny_bind (wpAny_rule (wpAny_bind (wpAny_setField hoi di (by simp) ?_)))
 show wpAny (model prog w) _ (newExc (.type "StopIteration") [] >>= _) _ _ _;refine wpAny_bind ?_
 simp only[newTuple,newExc]
 refine wpAny_bind (wpAny_newObj_type ?_ (by size_fits));refine wpAny_bind (m:=firstArgMember _ _) (PySem.wpAny_of_eq (a:=Value.none) (by first | rfl | (simp only[firstArgMember];rfl)) ?_)
 refine wpAny_newObj_type ?_ (by size_fits);simp only[raiseNew];refine wpAny_bind (wpAny_handled ?_)
 first
  | rw[show A.in1.handled=none from hA]
  | rw[hA]
 exact wpAny_bind (wpAny_pure (wpAny_throw (hE _ _ (((Heap.SameBut.update ..).extBut.push _).push _) ⟨_,Heap.get?_push_size _ rfl,rfl⟩)))
end
theorem draws_tup {prog:Program}{w:World}{A:Around}(hA:A.handled=none)(it t:Addr)(hne:t≠it)(items:Array Value) :
 Draws prog w A it [it,t] items.size (fun i v=>items[i]? = some v) (fun i h=>h.IsTupleIter it t i/\h.IsTuple t items) where
 live:=fun _ _ st=>by
  obtain⟨⟨o,ho,_⟩,_⟩:=st
  exact⟨o,ho⟩
 frame:=fun _ h h' st hk=>by
  obtain⟨⟨o,ho,r⟩,o2,ho2,r2⟩:=st
  exact⟨⟨o,hk it (by simp) o ho,r⟩,o2,hk t (by simp) o2 ho2,r2⟩
 item:=fun i s Q E hi st hQ=>nextOf_tup st.1 st.2 (x:=items[i]) (by simp[hi]) fun h' a b=>hQ _ h' s.toks (by simp[hi]) ⟨a,st.2.extBut b.extBut hne⟩ b
 done:=fun s Q E st hE=>endOf_tup hA st.1 st.2 (by simp) hE
section
variable {X:Cx}
end
end L2
namespace L2
open PySem PySem.Spec PyProof.Rows
end L2
namespace L2
open PySem PySem.Spec PyProof.Rows
open PySem.AutoSeq1 (wpAny_loadPart')
theorem Inv.turnedFp {X:Cx}{pins:List (Addr×Obj)}{σ:L2.St}{H:Hp}{s:Shared}{h':Heap}{t':Nat}{fp:List Addr}(I:Inv X pins σ H s)(hf:∀b∈fp,FpOk X pins H b)(k:∀b u,b∉fp->s.heap.get? b=some u->h'.get? b=some u):Inv X pins σ H { s with heap:=h',toks:=t' }:=by
 have nfp:∀b u,H b=some u->b∉fp:=fun b u e z=>by rw[(hf b z).1] at e;cases e
 refine I.step (g':=s.gens) (d':=s.drawn) (ch:=fp) (fun b hb=>?_) (fun b u _ _ hc e _=>k b u hc e) (fun b u _ _ hc e _=>⟨u.slots,k b u hc e⟩) (fun _ _ _ _ n=>n) (fun b u hc e=>⟨u,k b u hc e⟩)
  (fun _ _ e=>e) (fun _ _ _ e=>e) (fun b ps e=>⟨#[],by rw[e];simp⟩) (fun m hm=>?_) (fun b u e=>?_) I.bare
 . obtain⟨f0,f1,f2,f3,f4,f5⟩:=hf b hb
   exact⟨f3,f1,f4,f5⟩
 . obtain⟨u,es,ep,ho,r⟩:=hm
   exact⟨u,es,ep,k _ u (fun z=>(hf _ z).2.1 rfl) ho,r⟩
 . refine (I.hok b u e).stay (fun c v hc q=>k c v ?_ q) (fun _ q=>q) fun _ _ q=>q
   rcases hc with z | z
   . rw[z];exact nfp b u e
   . exact nfp c _ z
structure ZAp (zp tI tO i1 i2:Addr)(fp1 fp2:List Addr):Prop where
 zTI:tI≠zp
 zTO:tO≠zp
 z1:i1≠zp
 z2:i2≠zp
 IO:tI≠tO
 I1:tI≠i1
 I2:tI≠i2
 O1:tO≠i1
 O2:tO≠i2
 i12:i1≠i2
 a1:zp∉fp1/\tO∉fp1/\i2∉fp1
 a2:zp∉fp2/\tO∉fp2/\i1∉fp2
section
variable {prog:Program}{w:World}{A:Around}{E:Value->Shared->Prop}{s:Shared}
theorem zipD_item {zp tI tO i1 i2:Addr}{fp1 fp2:List Addr}{n1 n2 k:Nat}{P1 P2:Nat->Value->Prop}{St1 St2:Nat->Heap->Prop}{a b:Value}{Q:Value->Shared->Prop}(D1:Draws prog w A i1 fp1 n1 P1 St1)(D2:Draws prog w A i2 fp2 n2 P2 St2)(Z:ZAp zp tI tO i1 i2 fp1 fp2)
 (gz:IsZip s.heap zp tI tO .none)(gI:IsPair s.heap tI (.ref i1) (.ref i2))(gO:IsPair s.heap tO a b)(s1:St1 k s.heap)(s2:St2 k s.heap)(l1:k<n1)(l2:k<n2)
 (qd:∀x y h' tk,P1 k x->P2 k y->IsZip h' zp tI tO (rawInt s.heap.objs.size)->IsPair h' tO x y->St1 (k+1) h'->St2 (k+1) h'->IsPair h' s.heap.objs.size x y->h'.objs.size=s.heap.objs.size+1 ->
  (∀c o,c≠zp->c≠tO->c≠i1->c≠i2->s.heap.get? c=some o->h'.get? c=some o)->Q (.ref s.heap.objs.size) { s with heap:=h',toks:=tk }) :
 wpAny (model prog w) A (Builtin.«zip.__next__» ⟨[.ref zp],[]⟩) (fun fin s'=>∃v,fin = .done (.ret v)/\Q v s') E s:=by
 obtain⟨hp,g,d,tk₀,os⟩:=s
 show wpAny _ _ (field (.ref zp) 2 >>= _) _ _ _
 refine wpAny_bind (wpAny_field gz rfl (x:=.bool false) rfl ?_)
 show wpAny _ _ (field (.ref zp) 3 >>= _) _ _ _
 refine wpAny_bind (wpAny_field gz rfl (x:=.ref tI) rfl (wpAny_bind (wpAny_seqItems gI rfl ?_)))
 show wpAny _ _ (Builtin.SmallTypes.ownedTupleIsFree (.ref zp) >>= _) _ _ _
 unfold Builtin.SmallTypes.ownedTupleIsFree
 refine wpAny_bind (wpAny_bind (wpAny_field gz rfl (x:=.none) rfl (wpAny_pure ?_)))
 simp only[if_true]
 refine wpAny_bind (wpAny_rule (wpAny_bind (wpAny_field gz rfl (x:=.ref tO) rfl (wpAny_bind (wpAny_setField_rec gz (by simp) fun h₁ z₁ e₁=>?_)))))
 replace z₁:IsZip h₁ zp tI tO .ellipsis:=z₁
 replace e₁:Heap.SameBut zp hp h₁:=e₁
 refine wpAny_bind ?_
 simp only[List.zipIdx_cons,List.zipIdx_nil,List.forIn_cons,List.forIn_nil]
 have t1:St1 k h₁:=D1.frame k hp h₁ s1 fun b hb o e=>e₁.extBut _ _ (fun x=>Z.a1.1 (x ▸ hb)) e
 have t2:St2 k h₁:=D2.frame k hp h₁ s2 fun b hb o e=>e₁.extBut _ _ (fun x=>Z.a2.1 (x ▸ hb)) e
 refine wpAny_bind (wpAny_bind (wpAny_onRaise ?_))
 show wpAny _ _ (Builtin.SmallTypes.nextOf (.ref i1) >>= _) _ _ _
 refine wpAny_bind (D1.item k _ _ _ l1 t1 fun x h₂ tk₂ p1 u1 e₂=>wpAny_pure ?_)
 replace e₂:Heap.SameBut i1 h₁ h₂:=e₂
 have hO₂:IsPair h₂ tO a b:=e₂.extBut _ _ Z.O1 (e₁.extBut _ _ Z.zTO gO)
 refine wpAny_bind (wpAny_seqItems hO₂ rfl (wpAny_bind (wpAny_updateSeq_pair hO₂ fun h₃ hO₃ e₃=>?_)))
 replace hO₃:IsPair h₃ tO x b:=hO₃
 replace e₃:Heap.SameBut tO h₂ h₃:=e₃
 refine wpAny_bind (wpAny_letGo (wpAny_pure ?_))
 have u1₃:St1 (k+1) h₃:=D1.frame _ h₂ h₃ u1 fun b hb o e=>e₃.extBut _ _ (fun x=>Z.a1.2.1 (x ▸ hb)) e
 have t2₃:St2 k h₃:=D2.frame k h₁ h₃ t2 fun b hb o e=>e₃.extBut _ _ (fun x=>Z.a2.2.1 (x ▸ hb)) (e₂.extBut _ _ (fun x=>Z.a2.2.2 (x ▸ hb)) e)
 refine wpAny_bind (wpAny_bind (wpAny_onRaise ?_))
 show wpAny _ _ (Builtin.SmallTypes.nextOf (.ref i2) >>= _) _ _ _
 refine wpAny_bind (D2.item k _ _ _ l2 t2₃ fun y h₄ tk₄ p2 u2 e₄=>wpAny_pure ?_)
 replace e₄:Heap.SameBut i2 h₃ h₄:=e₄
 have hO₄:IsPair h₄ tO x b:=e₄.extBut _ _ Z.O2 hO₃
 refine wpAny_bind (wpAny_seqItems hO₄ rfl (wpAny_bind (wpAny_updateSeq_pair hO₄ fun h₅ hO₅ e₅=>?_)))
 replace hO₅:IsPair h₅ tO x y:=hO₅
 replace e₅:Heap.SameBut tO h₄ h₅:=e₅
 refine wpAny_bind (wpAny_letGo (wpAny_pure (wpAny_pure (wpAny_bind (wpAny_seqItems hO₅ rfl (wpAny_bind (wpAny_newTuple ?_)))))))
 have u1₅:St1 (k+1) h₅:=D1.frame _ h₃ h₅ u1₃ fun b hb o e=>e₅.extBut _ _ (fun x=>Z.a1.2.1 (x ▸ hb)) (e₄.extBut _ _ (fun x=>Z.a1.2.2 (x ▸ hb)) e)
 have u2₅:St2 (k+1) h₅:=D2.frame _ h₄ h₅ u2 fun b hb o e=>e₅.extBut _ _ (fun x=>Z.a2.2.1 (x ▸ hb)) e
 have sz:h₅.objs.size=hp.objs.size:=by rw[e₅.1,e₄.1,e₃.1,e₂.1,e₁.1]
 have z₅:IsZip h₅ zp tI tO .ellipsis:=e₅.extBut _ _ Z.zTO.symm (e₄.extBut _ _ Z.z2.symm (e₃.extBut _ _ Z.zTO.symm (e₂.extBut _ _ Z.z1.symm z₁)))
 have k₅:∀c o,c≠zp->c≠tO->c≠i1->c≠i2->hp.get? c=some o->h₅.get? c=some o:=fun c o c1 c2 c3 c4 e=>e₅.extBut _ _ c2 (e₄.extBut _ _ c4 (e₃.extBut _ _ c2 (e₂.extBut _ _ c3 (e₁.extBut _ _ c1 e))))
 have zlt:zp<h₅.objs.size:=Heap.lt_size z₅
 show wpAny _ _ (Builtin.SmallTypes.ownedTupleHandOut (.ref zp) (.ref h₅.objs.size) >>= _) _ _ _
 unfold Builtin.SmallTypes.ownedTupleHandOut
 have z₆:IsZip (h₅.push { cls:=.type "tuple",data:=.seq #[x,y] }) zp tI tO .ellipsis:=Heap.get?_push_of_some _ z₅
 refine wpAny_bind (wpAny_bind (wpAny_setField_rec z₆ (by simp) fun h₇ z₇ e₇=>?_))
 replace z₇:IsZip h₇ zp tI tO (rawInt h₅.objs.size):=z₇
 refine wpAny_setField_rec z₇ (by simp) fun h₈ z₈ e₈=>?_
 replace z₈:IsZip h₈ zp tI tO (rawInt h₅.objs.size):=z₈
 have up:∀c o,c≠zp->h₅.get? c=some o->h₈.get? c=some o:=fun c o c1 e=>e₈.extBut _ _ c1 (e₇.extBut _ _ c1 (Heap.get?_push_of_some _ e))
 have hT₈:IsPair h₈ h₅.objs.size x y:=e₈.extBut _ _ (Nat.ne_of_gt zlt) (e₇.extBut _ _ (Nat.ne_of_gt zlt) (Heap.get?_push_size _ rfl))
 have sz8:h₈.objs.size=h₅.objs.size+1:=by rw[e₈.1,e₇.1,Heap.size_push]
 rw[sz] at z₈ hT₈ sz8
 refine wpAny_pure ⟨_,rfl,?_⟩
 show Q (.ref h₅.objs.size) _
 rw[sz]
 exact qd x y h₈ tk₄ p1 p2 z₈ (up _ _ Z.zTO hO₅) (D1.frame _ h₅ h₈ u1₅ fun b hb o e=>up b o (fun x=>Z.a1.1 (x ▸ hb)) e) (D2.frame _ h₅ h₈ u2₅ fun b hb o e=>up b o (fun x=>Z.a2.1 (x ▸ hb)) e) hT₈ sz8 fun c o c1 c2 c3 c4 e=>up c o c1 (k₅ c o c1 c2 c3 c4 e)
theorem zipD_end {zp tI tO i1 i2:Addr}{fp1 fp2:List Addr}{St:Heap->Prop}{a b:Value}{Q:Fin->Shared->Prop}(fr:∀h h',St h->(∀b∈fp1,∀o,h.get? b=some o->h'.get? b=some o)->St h')
 (dn:∀(s:Shared)(Q:Value->Shared->Prop)(E:Value->Shared->Prop),St s.heap->(∀h' e,Heap.ExtBut i1 s.heap h'->(∃o,h'.get? e=some o/\o.cls = .type "StopIteration")->E (.ref e) { s with heap:=h' })->wpAny (model prog w) A (Builtin.SmallTypes.nextOf (.ref i1)) Q E s) (Z:ZAp zp tI tO i1 i2 fp1 fp2)
 (gz:IsZip s.heap zp tI tO .none)(gI:IsPair s.heap tI (.ref i1) (.ref i2))(gO:IsPair s.heap tO a b)(s1:St s.heap)
 (qe:∀h' e,(∀c o,c≠zp->c≠i1->s.heap.get? c=some o->h'.get? c=some o)->(∃o,h'.get? e=some o/\o.cls = .type "StopIteration")->E (.ref e) { s with heap:=h' }) :
 wpAny (model prog w) A (Builtin.«zip.__next__» ⟨[.ref zp],[]⟩) Q E s:=by
 obtain⟨hp,g,d,tk₀,os⟩:=s
 show wpAny _ _ (field (.ref zp) 2 >>= _) _ _ _
 refine wpAny_bind (wpAny_field gz rfl (x:=.bool false) rfl ?_)
 show wpAny _ _ (field (.ref zp) 3 >>= _) _ _ _
 refine wpAny_bind (wpAny_field gz rfl (x:=.ref tI) rfl (wpAny_bind (wpAny_seqItems gI rfl ?_)))
 show wpAny _ _ (Builtin.SmallTypes.ownedTupleIsFree (.ref zp) >>= _) _ _ _
 unfold Builtin.SmallTypes.ownedTupleIsFree
 refine wpAny_bind (wpAny_bind (wpAny_field gz rfl (x:=.none) rfl (wpAny_pure ?_)))
 simp only[if_true]
 refine wpAny_bind (wpAny_rule (wpAny_bind (wpAny_field gz rfl (x:=.ref tO) rfl (wpAny_bind (wpAny_setField_rec gz (by simp) fun h₁ z₁ e₁=>?_)))))
 replace z₁:IsZip h₁ zp tI tO .ellipsis:=z₁
 replace e₁:Heap.SameBut zp hp h₁:=e₁
 refine wpAny_bind ?_
 simp only[List.zipIdx_cons,List.zipIdx_nil,List.forIn_cons,List.forIn_nil]
 refine wpAny_bind (wpAny_bind (wpAny_onRaise ?_))
 show wpAny _ _ (Builtin.SmallTypes.nextOf (.ref i1) >>= _) _ _ _
 refine wpAny_bind (dn _ _ _ (fr hp h₁ s1 fun b hb o e=>e₁.extBut _ _ (fun x=>Z.a1.1 (x ▸ hb)) e) fun h₂ e e₂ he=>?_)
 replace e₂:Heap.ExtBut i1 h₁ h₂:=e₂
 obtain⟨oe,hoe,hce⟩:=he
 have z₂:IsZip h₂ zp tI tO .ellipsis:=e₂ _ _ Z.z1.symm z₁
 have ne:e≠zp:=fun x=>by subst x;rw[z₂] at hoe;cases hoe;simp at hce
 exact wpAny_setField_rec z₂ (by simp) fun h₃ _ e₃=>qe h₃ e (fun c o c1 c3 x=>e₃.extBut _ _ c1 (e₂ _ _ c3 (e₁.extBut _ _ c1 x))) ⟨oe,e₃.extBut _ _ ne hoe,hce⟩
end
abbrev zt1 (h:Heap)(l1:Addr):Heap:=h.push { cls:=.type "tuple_iterator",data:=.fields #[.ref l1,.int 0 0] }
abbrev zt2 (h:Heap)(l1 l2:Addr):Heap:=(zt1 h l1).push { cls:=.type "tuple_iterator",data:=.fields #[.ref l2,.int 0 0] }
abbrev zt3 (h:Heap)(l1 l2:Addr):Heap:=(zt2 h l1 l2).push { cls:=.type "tuple",data:=.seq #[.ref h.objs.size,.ref (zt1 h l1).objs.size] }
abbrev zt4 (h:Heap)(l1 l2:Addr):Heap:=(zt3 h l1 l2).push { cls:=.type "tuple",data:=.seq #[.none,.none] }
abbrev zt5 (h:Heap)(l1 l2:Addr):Heap:=(zt4 h l1 l2).push { cls:=.type "zip",data:=.fields #[.none,.bool false,.bool false,.ref (zt2 h l1 l2).objs.size,.ref (zt3 h l1 l2).objs.size] }
theorem meets_zipT (l1 l2:Addr)(xs ys:Array Value):Meets (Builtin.«zip.__new__» ⟨[.type "zip",.ref l1,.ref l2],[]⟩) (fun _ R s=>s.heap.IsTuple l1 xs/\s.heap.IsTuple l2 ys/\R (.ok (.ret (.ref (zt4 s.heap l1 l2).objs.size))) { s with heap:=zt5 s.heap l1 l2 }):=by
 refine .of_wp fun prog w A R s hs=>?_
 obtain⟨hp,g,d,tk,os⟩:=s
 obtain⟨h1,h2,hR⟩:=hs
 have su:=sub_zip
 have t1:Heap.IsTuple (Shared.heap ⟨hp,g,d,tk,os⟩) l1 xs:=h1
 have t2:Heap.IsTuple (Shared.heap ⟨hp.push { cls:=.type "tuple_iterator",data:=.fields #[.ref l1,.int 0 0] },g,d,tk,os⟩) l2 ys:=by
  obtain⟨o,ho,r⟩:=h2
  exact⟨o,Heap.get?_push_of_some _ ho,r⟩
 wp_walk using wpAny_pyIter_tuple t1,wpAny_pyIter_tuple t2
 exact⟨_,rfl,hR⟩
section
variable {prog:Program}{w:World}{A:Around}{E:Value->Shared->Prop}{s:Shared}
theorem call_zipT {l1 l2:Addr}{xs ys:Array Value}{Q:Value->Shared->Prop}(h1:s.heap.IsTuple l1 xs)(h2:s.heap.IsTuple l2 ys)
 (h:∀h',IsZip h' (s.heap.objs.size+4) (s.heap.objs.size+2) (s.heap.objs.size+3) .none->IsPair h' (s.heap.objs.size+2) (.ref s.heap.objs.size) (.ref (s.heap.objs.size+1))->IsPair h' (s.heap.objs.size+3) .none .none ->
  h'.IsTupleIter s.heap.objs.size l1 0->h'.IsTupleIter (s.heap.objs.size+1) l2 0->(∀c o,s.heap.get? c=some o->h'.get? c=some o)->Q (.ref (s.heap.objs.size+4)) { s with heap:=h' }) :
 wpAny (model prog w) A (call (.type "zip") [.ref l1,.ref l2]) Q E s:=by
 refine callType_new PySem.F.called_zip (by decide) (PySem.F.typeCall_zip_2 _ _) (PySem.F.newCall_zip_2 _ _) (fun obj=>PySem.F.args_object_init_3 obj _ _) PySem.F.entry_zip_new (meets_zipT l1 l2 xs ys) ⟨h1,h2,?_⟩
 have z1:(zt1 s.heap l1).objs.size=s.heap.objs.size+1:=Heap.size_push ..
 have z2:(zt2 s.heap l1 l2).objs.size=s.heap.objs.size+2:=by rw[Heap.size_push,z1]
 have z3:(zt3 s.heap l1 l2).objs.size=s.heap.objs.size+3:=by rw[Heap.size_push,z2]
 have z4:(zt4 s.heap l1 l2).objs.size=s.heap.objs.size+4:=by rw[Heap.size_push,z3]
 have up:∀{h:Heap}{c:Addr}{o o':Obj},h.get? c=some o->(h.push o').get? c=some o:=fun e=>Heap.get?_push_of_some _ e
 have g5:(zt5 s.heap l1 l2).get? (zt4 s.heap l1 l2).objs.size=some _:=Heap.get?_push_size _ rfl
 have g4:(zt5 s.heap l1 l2).get? (zt3 s.heap l1 l2).objs.size=some _:=up (Heap.get?_push_size _ rfl)
 have g3:(zt5 s.heap l1 l2).get? (zt2 s.heap l1 l2).objs.size=some _:=up (up (Heap.get?_push_size _ rfl))
 have g2:(zt5 s.heap l1 l2).get? (zt1 s.heap l1).objs.size=some _:=up (up (up (Heap.get?_push_size _ rfl)))
 have g1:(zt5 s.heap l1 l2).get? s.heap.objs.size=some _:=up (up (up (up (Heap.get?_push_size _ rfl))))
 show _/\_
 rw[z2,z3,z4] at g5
 rw[z1,z2] at g3
 rw[z3] at g4
 rw[z1] at g2
 rw[z4]
 exact⟨⟨_,g5,rfl⟩,h _ g5 g3 g4 ⟨_,g1,rfl,rfl⟩ ⟨_,g2,rfl,rfl⟩ fun c o x=>up (up (up (up (up x))))⟩
end
def ItzT (K:PySem.W.Frag)(a b:Addr):It:=
 ⟨fun i H=>∃xs ys x y,SqT K H a xs/\SqT K H b ys/\xs[i]? = some x/\ys[i]? = some y,fun i H x H'=>∃T u v,x = .ref T/\H T=none/\H'=upd H T (.tup [u,v])/\(∀xs,SqT K H a xs->xs[i]? = some u)/\∀ys,SqT K H b ys->ys[i]? = some v,fun i H=>∃xs,SqT K H a xs/\xs.length<=i⟩
theorem apart_tups {zp tI tO i1 i2 a b:Addr}(h1:i1<i2)(h2:i2<tI)(h3:tI<tO)(h4:tO<zp)(ha:a<i1)(hb:b<i1):ZAp zp tI tO i1 i2 [i1,a] [i2,b]:=by
 have t1:=Nat.lt_trans h1 h2
 have t2:=Nat.lt_trans h2 h3
 have t3:=Nat.lt_trans h3 h4
 have t4:=Nat.lt_trans t1 h3
 have t5:=Nat.lt_trans t2 h4
 have t6:=Nat.lt_trans t4 h4
 have nm:∀{x y zp:Addr},x≠y->x≠zp->x∉[y,zp]:=fun p q h=>by
  rcases List.mem_cons.mp h with e | e
  . exact p e
  . exact q (List.mem_singleton.mp e)
 exact⟨Nat.ne_of_lt t3,Nat.ne_of_lt h4,Nat.ne_of_lt t6,Nat.ne_of_lt t5,Nat.ne_of_lt h3,Nat.ne_of_gt t1,Nat.ne_of_gt h2,Nat.ne_of_gt t4,Nat.ne_of_gt t2,Nat.ne_of_lt h1,
  ⟨nm (Nat.ne_of_gt t6) (Nat.ne_of_gt (Nat.lt_trans ha t6)),nm (Nat.ne_of_gt t4) (Nat.ne_of_gt (Nat.lt_trans ha t4)),nm (Nat.ne_of_gt h1) (Nat.ne_of_gt (Nat.lt_trans ha h1))⟩,
  ⟨nm (Nat.ne_of_gt t5) (Nat.ne_of_gt (Nat.lt_trans hb t6)),nm (Nat.ne_of_gt t2) (Nat.ne_of_gt (Nat.lt_trans hb t4)),nm (Nat.ne_of_lt h1) (Nat.ne_of_gt hb)⟩⟩
theorem turn_zipT {P:Program}{w:World}{K:PySem.W.Frag}{elts:List Expr} {x1} {tp:Pos}(a b zp tI tO i1 i2:Addr)(o1:i1<i2)(o2:i2<tI)(o3:tI<tO)(o4:tO<zp)(oa:a<i1)(ob:b<i1) :
 Turn P w K (.Tuple elts x1 tp) (ItzT K a b) [zp,tI,tO,i1,i2] zp (fun i h=>IsZip h zp tI tO .none/\IsPair h tI (.ref i1) (.ref i2)/\(∃u v,IsPair h tO u v)/\h.IsTupleIter i1 a i/\h.IsTupleIter i2 b i) where
 mem:=by simp
 obj:=fun i h st c hc=>by
  obtain⟨gz,hI,⟨u,v,hO⟩,⟨p1,e1,c1,d1⟩,⟨p2,e2,c2,d2⟩⟩:=st
  simp only[List.mem_cons,List.not_mem_nil,or_false] at hc
  rcases hc with rfl | rfl | rfl | rfl | rfl
  . exact⟨_,gz,fun v zp=>by cases zp⟩
  . exact⟨_,hI,fun v zp=>by cases zp⟩
  . exact⟨_,hO,fun v zp=>by cases zp⟩
  . exact⟨p1,e1,fun v zp=>by rw[d1] at zp;cases zp⟩
  . exact⟨p2,e2,fun v zp=>by rw[d2] at zp;cases zp⟩
 keep:=fun i h h' st k=>by
  obtain⟨gz,hI,⟨u,v,hO⟩,⟨p1,e1,r1⟩,⟨p2,e2,r2⟩⟩:=st
  exact⟨k zp (by simp) _ gz,k tI (by simp) _ hI,⟨u,v,k tO (by simp) _ hO⟩,⟨p1,k i1 (by simp) _ e1,r1⟩,⟨p2,k i2 (by simp) _ e2,r2⟩⟩
 item:=by
  intro X hP hw hK hc i pins s σ H E I hf st hg
  subst hP hw hK
  obtain⟨gz,hI,⟨u0,v0,hO⟩,h1,h2⟩:=st
  obtain⟨xs,ys,x,y,hq1,hq2,hx,hy⟩:=hg
  obtain⟨its1,rv1,p1,hz1⟩:=I.tuple hq1
  obtain⟨its2,rv2,p2,hz2⟩:=I.tuple hq2
  obtain⟨u1,hu1,ru1⟩:=rv1.get hx
  obtain⟨u2,hu2,ru2⟩:=rv2.get hy
  have zlt:zp<s.heap.objs.size:=Heap.lt_size gz
  have Z:=apart_tups o1 o2 o3 o4 oa ob
  have lt1:i<its1.toArray.size:=by simpa using (List.getElem?_eq_some_iff.mp hu1).1
  have lt2:i<its2.toArray.size:=by simpa using (List.getElem?_eq_some_iff.mp hu2).1
  have hT:s.TypeIs (.ref zp) "zip" := ⟨_,gz,rfl⟩
  unfold pyNext
  refine wpAny_bind (wpAny_attempt (wpAny_callSpecial?_slot (name:=Str.ofString "__next__") hT PySem.F.slot_zip_next (wpAny_call_entry PySem.F.slot_zip_next hT PySem.F.entry_zip_next
   (zipD_item (draws_tup (A:=X.A.in1) (I.ok.hd hc) i1 a (Nat.ne_of_lt oa) its1.toArray) (draws_tup (A:=X.A.in1) (I.ok.hd hc) i2 b (Nat.ne_of_lt (Nat.lt_trans ob o1)) its2.toArray) Z gz hI hO ⟨h1,p1⟩ ⟨h2,p2⟩ lt1 lt2 fun y1 y2 h' tk hy1 hy2 z' hO' s1' s2' hT' hsz hk=>wpAny_pure ?_) (PySem.F.args_zip_next_1 _))))
  obtain rfl:y1=u1:=by
   have h1:its1[i]? = some y1:=by simpa using hy1
   rw[hu1] at h1;exact (Option.some.inj h1).symm
  obtain rfl:y2=u2:=by
   have h1:its2[i]? = some y2:=by simpa using hy2
   rw[hu2] at h1;exact (Option.some.inj h1).symm
  refine⟨_,rfl,wpAny_letOwnedTupleGo_zip z' fun h2' z2 e2=>?_⟩
  have hT2:IsPair h2' s.heap.objs.size y1 y2:=e2.extBut _ _ (Nat.ne_of_gt zlt) hT'
  have fpl:∀c∈[zp,tI,tO,i1,i2],c<s.heap.objs.size:=fun c hc=>by
   simp only[List.mem_cons,List.not_mem_nil,or_false] at hc
   have t1:=Nat.lt_trans o4 zlt
   have t2:=Nat.lt_trans o3 t1
   have t3:=Nat.lt_trans o2 t2
   rcases hc with rfl | rfl | rfl | rfl | rfl
   . exact zlt
   . exact t2
   . exact t1
   . exact Nat.lt_trans o1 t3
   . exact t3
  refine⟨.ref s.heap.objs.size,upd H s.heap.objs.size (.tup [x,y]),I.turnedLaid (t':=tk) (fp:=[zp,tI,tO,i1,i2]) hf (fun c o hb q=>?_) (Nat.le_refl _) ?_,rfl,⟨_,x,y,rfl,I.hok.fresh (Nat.le_refl _),rfl,fun zs hzs=>by rw[I.tuple_inj hzs hq1];exact hx,fun zs hzs=>by rw[I.tuple_inj hzs hq2];exact hy⟩,⟨z2,?_,⟨_,_,e2.extBut _ _ Z.zTO hO'⟩,?_,?_⟩,fun c hc=>?_⟩
  . exact e2.extBut _ _ (fun w=>hb (by simp[w])) (hk c o (fun w=>hb (by simp[w])) (fun w=>hb (by simp[w])) (fun w=>hb (by simp[w])) (fun w=>hb (by simp[w])) q)
  . exact⟨⟨by show 2<=sizeLine;decide,_,hT2,rfl⟩,[y1,y2],.cons ru1 (.cons ru2 .nil),⟨_,hT2,rfl,_,rfl⟩⟩
  . exact e2.extBut _ _ Z.zTI (hk _ _ Z.zTI Z.IO Z.I1 Z.I2 hI)
  . obtain⟨⟨o,ho,r⟩,_⟩:=s1'
    exact⟨o,e2.extBut _ _ Z.z1 ho,r⟩
  . obtain⟨⟨o,ho,r⟩,_⟩:=s2'
    exact⟨o,e2.extBut _ _ Z.z2 ho,r⟩
  . rw[upd_ne (Nat.ne_of_lt (fpl c hc))];exact (hf _ hc).1
 done:=by
  intro X hP hw hK hc i pins s σ H E I hf st hg
  subst hP hw hK
  obtain⟨gz,hI,⟨u0,v0,hO⟩,h1,h2⟩:=st
  obtain⟨xs,hq,hx⟩:=hg
  obtain⟨its,rv,p,_⟩:=I.tuple hq
  have hl:=rv.length
  have Z:=apart_tups o1 o2 o3 o4 oa ob
  have hT:s.TypeIs (.ref zp) "zip" := ⟨_,gz,rfl⟩
  have f1:=hf zp (by simp)
  have f2:=hf i1 (by simp)
  unfold pyNext
  refine wpAny_bind (wpAny_attempt (wpAny_callSpecial?_slot (name:=Str.ofString "__next__") hT PySem.F.slot_zip_next (wpAny_call_entry PySem.F.slot_zip_next hT PySem.F.entry_zip_next
   (zipD_end (A:=X.A.in1) (St:=fun h=>h.IsTupleIter i1 a i/\h.IsTuple a its.toArray) (fun h h' st k=>by
    obtain⟨⟨o,ho,r⟩,o2,ho2,r2⟩:=st
    exact⟨⟨o,k i1 (by simp) o ho,r⟩,o2,k a (by simp) o2 ho2,r2⟩) (fun s Q E st qe=>endOf_tup (I.ok.hd hc) st.1 st.2 (by simp;omega) qe) Z gz hI hO ⟨h1,p⟩ fun h' e hk he=>?_) (PySem.F.args_zip_next_1 _))))
  obtain⟨o,ho,hcl⟩:=he
  refine wpAny_bind (wpAny_isInstance (T := "StopIteration") (b:=true) ⟨o,ho,hcl⟩ isSubtype_stop (wpAny_pure ?_))
  exact⟨rfl,I.turnedFp (t':=s.toks) (fp:=[zp,tI,tO,i1,i2]) hf fun c u hb q=>hk c u (fun w=>hb (by simp[w])) (fun w=>hb (by simp[w])) q⟩
 self:=fun _ _ _ _ _ st h=>wpAny_pyIter_zip st.1 h
section
variable {X:Cx}
def iZipT (K:PySem.W.Frag)(ta:TA):TI:=fun σ H R=>ta σ H fun vs H1=>∃a b,vs=[.ref a,.ref b]/\(∃xs,SqT K H1 a xs)/\(∃ys,SqT K H1 b ys)/\R (ItzT K a b) H1
theorem pi_zipT {elts:List Expr} {x1} {tp:Pos}{a b:Expr}{ta:TA}{p pos:Pos}(hg:Gl X "zip") (hm:X.mg "zip" = none) (ha:PA X [a,b] ta)(hs:starEach [a,b] X.env=(false,eval a X.env)::starEach [b] X.env:=by rfl)(hs2:(backTo pos (starEach [b] X.env)).any (·.1)=false:=by rfl):PI X (.Tuple elts x1 tp) (.Call (.Name "zip" p) [a,b] [] pos) (iZipT X.K ta):=by
 intro pins s σ H R I h
 refine Call_ (ld_blt I hg hm (by decide +kernel) (PyProof.Rows.callWith_type1 (T := "zip") (thn (ha pos pins s σ H _ I h) fun us s1 ⟨vs,H1,I1,r1,q1⟩=>?_) hs hs2))
 obtain⟨l1,l2,e,⟨xs,hq1⟩,⟨ys,hq2⟩,q⟩:=q1
 subst e
 obtain⟨u1,u2,rfl,rx1,rx2⟩:=vals2 r1
 cases rx1
 cases rx2
 obtain⟨its1,_,p1,_⟩:=I1.tuple hq1
 obtain⟨its2,_,p2,_⟩:=I1.tuple hq2
 have ll1:l1<s1.heap.objs.size:=by obtain⟨o,ho,_⟩:=id p1;exact Heap.lt_size ho
 have ll2:l2<s1.heap.objs.size:=by obtain⟨o,ho,_⟩:=id p2;exact Heap.lt_size ho
 refine call_zipT p1 p2 fun h' hz hI hO h1 h2 hk=>?_
 refine wpAny_pyIter_zip hz ?_
 refine⟨s1.heap.objs.size+4,[s1.heap.objs.size+4,s1.heap.objs.size+2,s1.heap.objs.size+3,s1.heap.objs.size,s1.heap.objs.size+1],_,_,H1,rfl,I1.kept (t':=s1.toks) hk,
  turn_zipT l1 l2 _ _ _ _ _ (Nat.lt_succ_self _) (Nat.lt_succ_self _) (Nat.lt_succ_self _) (Nat.lt_succ_self _) ll1 ll2,⟨hz,hI,⟨_,_,hO⟩,h1,h2⟩,fun b hb=>?_,q⟩
 have hle:s1.heap.objs.size<=b:=by
  simp only[List.mem_cons,List.not_mem_nil,or_false] at hb
  rcases hb with rfl | rfl | rfl | rfl | rfl
  . exact Nat.le_add_right _ _
  . exact Nat.le_add_right _ _
  . exact Nat.le_add_right _ _
  . exact Nat.le_refl _
  . exact Nat.le_add_right _ _
 exact I1.fpOk hle (I1.hok.fresh hle)
end
end L2
namespace L2
open PySem PySem.Spec PyProof.Rows
section
variable {P:Program}{w:World}{K:PySem.W.Frag}{mg:Str->Option Value}{base:Heap}{N:List Str}{qual:Str}{scope:Scope}{f:Addr}{cd:Value}{A:Around}{outer:List Env}{s0 s:Shared}{H0 H:Hp}{E:XK}{pins:List (Addr×Obj)}{σ:St}
end
end L2
namespace L2
open PySem PySem.Spec PyProof.Rows
section
variable {X:Cx}{pins:List (Addr×Obj)}{σ:St}{H:Hp}{s:Shared}
end
end L2
namespace L2
open PySem PySem.Spec PyProof.Rows
section
variable {X:Cx}{pins:List (Addr×Obj)}{σ:St}{H:Hp}{s:Shared}{ea:Addr}{oe:Obj}
end
end L2
namespace L2
open PySem PySem.Spec PySem.W PyProof.Rows Builtin Builtin.ObjectAttr Builtin.Getset_descriptor
section
variable {prog:Program}{w:World}{A:Around}{E:Value->Shared->Prop}{s:Shared}{K:Frag}{x C:Addr}{ox:Obj}
end
section
variable {X:Cx}
variable {k:Nat}{f:Addr}{fd:FuncData}{ps:List Str}{sp:Sp}{x:Str}{p pos epos:Pos}{e:Expr}{es:List Expr}{t:TA}
end
end L2
namespace L2
open PySem PySem.Spec PyProof.Rows
section
variable {X:Cx}{e:Expr}{te:TE}{pos p2:Pos}
end
end L2
namespace L2
open PySem PySem.Spec PyProof.Rows
section
variable {X:Cx}{a b:Expr}{rest:List Expr}{pos:Pos}{ta tb:TE}
theorem pe_orT (ha:PE X a ta)(hb:PE X (.BoolOp .Or (b::rest) pos) tb):PE X (.BoolOp .Or (a::b::rest) pos) (fun σ H Q=>ta σ H fun x H1=>∃k,TruV X.K x H1 k/\if k=true then Q x H1 else tb σ H1 Q):=by
 intro pins s σ H Q I h
 refine BoolOp_or (thn (ha pins s σ H _ I h) fun v s1 ⟨x,H1,I1,r1,q1⟩=>?_)
 refine thn (tru_ok pins s1 σ H1 x v (fun k H2=>if k=true then Q x H2 else tb σ H2 Q) I1 r1 q1) fun k s2 ⟨H2,I2,q2⟩=>?_
 cases k with
 | true=>exact⟨x,H2,I2,r1,q2⟩
 | false=>exact hb pins s2 σ H2 Q I2 q2
end
end L2
namespace L2
open PySem PySem.Spec PyProof.Rows
section
variable {X:Cx}
end
end L2
namespace L2
open PySem PySem.Spec PyProof.Rows
section
variable {X:Cx}
end
end L2
namespace STb
open PySem
def Ris (xs:Array Nat):Prop:=xs.toList.Pairwise (· < ·)
theorem Ris.lt {xs:Array Nat}(h:Ris xs){i j:Nat}{a b:Nat}(hij:i<j)(hi:xs[i]? = some a)(hj:xs[j]? = some b):a<b:=by
 obtain⟨h1,e1⟩:=Array.getElem?_eq_some_iff.mp hi
 obtain⟨h2,e2⟩:=Array.getElem?_eq_some_iff.mp hj
 have:=List.pairwise_iff_getElem.mp h i j (by simpa using h1) (by simpa using h2) hij
 simpa [e1,e2] using this
theorem go_spec {xs:Array Nat}(h:Ris xs)(j:Nat):∀(fuel lo hi:Nat),hi-lo<=fuel->lo<=hi->hi<=xs.size->(∀k v,k<lo->xs[k]? = some v->v<j)->(∀k v,hi<=k->xs[k]? = some v->j<=v) ->
 lo<=SetTable.below.go xs j fuel lo hi/\SetTable.below.go xs j fuel lo hi<=hi/\(∀k v,k<SetTable.below.go xs j fuel lo hi->xs[k]? = some v->v<j)/\(∀k v,SetTable.below.go xs j fuel lo hi<=k->xs[k]? = some v->j<=v):=by
 intro fuel
 induction fuel with
 | zero=>
  intro lo hi hf hl hs h1 h2
  have:lo=hi:=by omega
  subst this
  exact⟨Nat.le_refl _,Nat.le_refl _,h1,h2⟩
 | succ fuel ih=>
  intro lo hi hf hl hs h1 h2
  unfold SetTable.below.go
  by_cases c:lo<hi
  . rw[if_pos c]
    have hm:(lo+hi)/2<xs.size:=by omega
    have em:xs[(lo+hi)/2]? = some xs[(lo+hi)/2]:=Array.getElem?_eq_getElem hm
    have eg:xs.getD ((lo+hi)/2) j=xs[(lo+hi)/2]:=by simp[Array.getD,hm]
    dsimp only
    rw[eg]
    by_cases d:xs[(lo+hi)/2]<j
    . rw[if_pos d]
      obtain⟨a,b,c1,c2⟩:=ih ((lo+hi)/2+1) hi (by omega) (by omega) hs (fun k v hk e=>by
       by_cases z:k=(lo+hi)/2
       . subst z;rw[em] at e;cases e;exact d
       . have:=h.lt (i:=k) (j:=(lo+hi)/2) (by omega) e em;omega) h2
      exact⟨by omega,b,c1,c2⟩
    . rw[if_neg d]
      obtain⟨a,b,c1,c2⟩:=ih lo ((lo+hi)/2) (by omega) (by omega) (by omega) h1 (fun k v hk e=>by
       by_cases z:k=(lo+hi)/2
       . subst z;rw[em] at e;cases e;omega
       . have:=h.lt (i:=(lo+hi)/2) (j:=k) (by omega) em e;omega)
      exact⟨a,by omega,c1,c2⟩
  . rw[if_neg c]
    have:lo=hi:=by omega
    subst this
    exact⟨Nat.le_refl _,Nat.le_refl _,h1,h2⟩
theorem below_spec {xs:Array Nat}(h:Ris xs)(j:Nat):SetTable.below xs j<=xs.size/\(∀k v,k<SetTable.below xs j->xs[k]? = some v->v<j)/\(∀k v,SetTable.below xs j<=k->xs[k]? = some v->j<=v):=by
 obtain⟨_,a,b,c⟩:=go_spec h j xs.size 0 xs.size (by omega) (by omega) (Nat.le_refl _) (fun k v hk _=>absurd hk (Nat.not_lt_zero _)) (fun k v hk e=>by
  have:=(Array.getElem?_eq_some_iff.mp e).1;omega)
 exact⟨a,b,c⟩
theorem below_next {xs:Array Nat}(h:Ris xs){i a:Nat}(e:xs[i]? = some a):SetTable.below xs (a+1)=i+1:=by
 obtain⟨h1,h2,h3⟩:=below_spec h (a+1)
 have hi:=(Array.getElem?_eq_some_iff.mp e).1
 rcases Nat.lt_trichotomy (SetTable.below xs (a+1)) (i+1) with c | c | c
 . have:=h3 i a (by omega) e;omega
 . exact c
 . have hl:i+1<xs.size:=by omega
   have e2:xs[i+1]? = some xs[i+1]:=Array.getElem?_eq_getElem hl
   have a1:=h2 (i+1) _ c e2
   have a2:=h.lt (i:=i) (j:=i+1) (by omega) e e2
   omega
theorem below_zero {xs:Array Nat}(h:Ris xs):SetTable.below xs 0=0:=by
 obtain⟨h1,h2,h3⟩:=below_spec h 0
 rcases Nat.eq_zero_or_pos (SetTable.below xs 0) with c | c
 . exact c
 . have hl:0<xs.size:=by omega
   have:=h2 0 _ c (Array.getElem?_eq_getElem hl)
   omega
theorem insert_ris {xs:Array Nat}(h:Ris xs){j:Nat}(ne:xs[SetTable.below xs j]?≠some j):Ris (SetTable.insertAt xs (SetTable.below xs j) j):=by
 obtain⟨h1,h2,h3⟩:=below_spec h j
 unfold Ris
 rw[SetTable.toList_insertAt]
 have hp:(xs.toList.take (SetTable.below xs j)++xs.toList.drop (SetTable.below xs j)).Pairwise (· < ·):=by rw[List.take_append_drop];exact h
 obtain⟨p1,p2,p3⟩:=List.pairwise_append.mp hp
 have lo:∀a∈xs.toList.take (SetTable.below xs j),a<j:=fun a ha=>by
  obtain⟨k,hk,e⟩:=List.getElem_of_mem ha
  rw[List.length_take] at hk
  rw[List.getElem_take] at e
  exact h2 k a (by omega) (by rw[<-Array.getElem?_toList,List.getElem?_eq_getElem (by omega),e])
 have hi:∀a∈xs.toList.drop (SetTable.below xs j),j<a:=fun a ha=>by
  obtain⟨k,hk,e⟩:=List.getElem_of_mem ha
  rw[List.length_drop] at hk
  rw[List.getElem_drop] at e
  have eg:xs[SetTable.below xs j+k]? = some a:=by rw[<-Array.getElem?_toList,List.getElem?_eq_getElem (by omega),e]
  have:=h3 _ a (by omega) eg
  by_cases c:k=0
  . subst c
    rw[Nat.add_zero] at eg
    have:a≠j:=fun z=>ne (by rw[eg,z])
    omega
  . have hz:SetTable.below xs j<xs.size:=by simp at hk;omega
    have e0:xs[SetTable.below xs j]? = some xs[SetTable.below xs j]:=Array.getElem?_eq_getElem hz
    have a0:=h3 _ _ (Nat.le_refl _) e0
    have a1:=h.lt (i:=SetTable.below xs j) (j:=SetTable.below xs j+k) (by omega) e0 eg
    omega
 refine List.pairwise_append.mpr ⟨p1,List.pairwise_cons.mpr ⟨hi,p2⟩,fun a ha b hb=>?_⟩
 rcases List.mem_cons.mp hb with rfl | hb
 . exact lo a ha
 . exact p3 a ha b hb
structure GT (led:Bool)(t:SetTable):Prop where
 dm:t.dummies = #[]
 ld:t.led=led
 rs:t.plain=true->Ris t.place
theorem gt_fresh (led:Bool):GT led (SetTable.fresh 0 0 led):=⟨rfl,rfl,fun _=>List.Pairwise.nil⟩
theorem has_nil (j:Nat):SetTable.has #[] j=false:=by
 unfold SetTable.has
 simp
theorem slot_empty {t:SetTable}(hd:t.dummies = #[]){j:Nat}:(t.slot j = .empty->t.place[SetTable.below t.place j]?≠some j)/\t.slot j ≠ .dummy:=by
 unfold SetTable.slot
 rw[hd,has_nil]
 dsimp only
 constructor
 . intro h e
   rw[e] at h
   simp at h
 . split <;> simp
theorem probe_empty {t:SetTable}(hd:t.dummies = #[]){ha:Nat->Int}{hh:Int}{j:Nat}{d:Option Nat}:∀(fuel:Nat)(p:SetTable.Probe),p.dummy=none->SetTable.probe.go t ha hh fuel p=some (.empty j d)->t.slot j = .empty/\d=none:=by
 intro fuel
 induction fuel with
 | zero=>intro p _ h;unfold SetTable.probe.go at h;cases h
 | succ fuel ih=>
  intro p hp h
  unfold SetTable.probe.go at h
  cases e:t.slot p.j with
  | empty=>
   rw[e] at h
   simp only[Option.some.injEq,SetTable.Met.empty.injEq] at h
   exact⟨by rw[<-h.1];exact e,by rw[<-h.2];exact hp⟩
  | dummy=>exact absurd e (slot_empty hd).2
  | live i=>
   rw[e] at h
   dsimp only at h
   split at h
   . cases h
   . refine ih _ ?_ h
     unfold SetTable.advance
     split
     . exact hp
     . exact hp
theorem free_empty {t:SetTable}(hd:t.dummies = #[]){hh:Int}{j:Nat}{w:Bool}(h:t.freeSlot hh=some (j,w)):t.place[SetTable.below t.place j]?≠some j:=by
 unfold SetTable.freeSlot at h
 cases e:t.probe (fun _=>hh+1) hh (t.probeStart hh) with
 | none=>rw[e] at h;cases h
 | some met=>
  rw[e] at h
  cases met with
  | candidate a b c=>cases h
  | empty j' d=>
   obtain⟨e1,e2⟩:=probe_empty hd _ _ rfl e
   subst e2
   simp only[Option.getD_none,Option.some.injEq,Prod.mk.injEq] at h
   rw[<-h.1]
   exact (slot_empty hd).1 e1
theorem gt_put {led:Bool}{t:SetTable}(g:GT led t){j:Nat}(h:t.place[SetTable.below t.place j]?≠some j):GT led (t.put j).1:=by
 unfold SetTable.put
 refine⟨?_,g.ld,fun hp=>insert_ris (g.rs hp) h⟩
 dsimp only
 rw[g.dm,has_nil]
 rfl
theorem gt_stand {led:Bool}{t:SetTable}(g:GT led t)(n:Nat):GT led (t.standIn n):=⟨rfl,g.ld,fun h=>by cases h⟩
theorem gt_or {led:Bool}{t:SetTable}(g:GT led t)(n:Nat):GT led (t.orStandIn n):=by
 unfold SetTable.orStandIn
 split
 . exact g
 . exact gt_stand g n
theorem gt_lay {led:Bool}{t:SetTable}(g:GT led t)(es:Array (Int×Value))(h:Int)(x:Value):GT led (layNew t es h x).2.1:=by
 unfold layNew
 cases e:t.freeSlot h with
 | none=>exact gt_stand g _
 | some q=>
  obtain⟨j,w⟩:=q
  exact gt_or (gt_put g (free_empty g.dm e)) _
theorem ris_filter {f:Nat->Option Nat}:∀(l:List Nat),l.Pairwise (· < ·)->((l.filterMap fun j=>(f j).map (j,·)).map (·.1)).Pairwise (· < ·):=by
 intro l h
 rw[List.pairwise_map,List.pairwise_filterMap]
 refine h.imp fun {a b} hab x hx y hy=>?_
 cases ea:f a with
 | none=>rw[ea] at hx;cases hx
 | some u=>
  cases eb:f b with
  | none=>rw[eb] at hy;cases hy
  | some v=>
   rw[ea] at hx
   rw[eb] at hy
   cases hx
   cases hy
   exact hab
theorem gt_relay {led:Bool}{t:SetTable}(g:GT led t)(es:Array (Int×Value))(n:Nat):GT led (relayAll t es n).2.1:=by
 unfold relayAll
 cases e:t.relaid (es.map (·.1)) n with
 | none=>exact gt_stand g _
 | some q=>
  obtain⟨t',order⟩:=q
  dsimp only
  split
  . unfold SetTable.relaid SetTable.laid at e
    simp only[Option.bind_eq_bind,Option.bind_eq_some_iff,Option.pure_def,Option.some.injEq,Prod.mk.injEq] at e
    obtain⟨owner,_,e1,_⟩:=e
    rw[<-e1]
    refine⟨rfl,g.ld,fun _=>?_⟩
    show List.Pairwise _ (List.map _ _).toArray.toList
    exact ris_filter _ List.pairwise_lt_range
  . exact gt_stand g _
end STb
namespace STb
open PySem PySem.Spec PyProof.Rows L2
section
variable {prog:Program}{w:World}{A:Around}{E:Value->Shared->Prop}{s:Shared}
structure Brs (prog:Program)(w:World)(led:Bool)(S:Int->Bool)(n:Nat)(el:Array (Int×Value))(tb:SetTable):Prop where
 elm:ElemsOf (intKind prog w) el.toList
 mem:∀k,S k=true↔∃e∈el.toList,(intKind prog w).is k e.2=true
 few:el.size<scanBound
 fit:tb.fits el.size=true
 siz:el.size=n
 gt:GT led tb
def SetG (prog:Program)(w:World)(led:Bool)(h:Heap)(a:Addr)(S:Int->Bool)(n:Nat):Prop:=
 ∃ob el ep tb,h.get? a=some ob/\ob.ExactSet/\ob.data = .set el ep tb/\Brs prog w led S n el tb
theorem SetG.keep {led:Bool}{h h':Heap}{a:Addr}{S:Int->Bool}{n:Nat}(x:SetG prog w led h a S n)(k:∀o,h.get? a=some o->h'.get? a=some o):SetG prog w led h' a S n:=
 let ⟨ob,el,ep,tb,g1,g2,g3,g4⟩:=x;⟨ob,el,ep,tb,k _ g1,g2,g3,g4⟩
theorem SetG.congr {led:Bool}{h:Heap}{a:Addr}{S S':Int->Bool}{n n':Nat}(x:SetG prog w led h a S n)(e:∀k,S' k=S k)(en:n'=n):SetG prog w led h a S' n':=by
 obtain⟨ob,el,ep,tb,g1,g2,g3,g4⟩:=x
 subst en
 exact⟨ob,el,ep,tb,g1,g2,g3,⟨g4.elm,fun k=>by rw[e k];exact g4.mem k,g4.few,g4.fit,g4.siz,g4.gt⟩⟩
theorem put_at {h:Heap}{a:Addr}{ob:Obj}{el:Array (Int×Value)}{ep:Nat}{tb:SetTable}(g1:h.get? a=some ob)(g3:ob.data = .set el ep tb)(el':Array (Int×Value))(tb':SetTable) :
 (h.update a (Obj.putSet el' tb')).get? a=some { ob with data:=.set el' (ep+1) tb' }:=by
 have q:=Heap.get?_update_self (Obj.putSet el' tb') g1 (by rw[putSet_of el' tb' g3];rfl)
 rwa [putSet_of el' tb' g3] at q
theorem tail_g {led:Bool}{a:Addr}{ob:Obj}{el el1:Array (Int×Value)}{ep:Nat}{tb tb1:SetTable}{S:Int->Bool}{n:Nat}{wd:Bool}{R:Option Bool->Shared->Prop}{note:Bool->Sem Unit}
 (hn:∀(b:Bool)(s₁:Shared)(Q':Unit->Shared->Prop),Q' () s₁->wpAny (model prog w) A (note b) Q' E s₁)
 (g1:s.heap.get? a=some ob)(g2:ob.ExactSet)(g3:ob.data = .set el ep tb)(B:Brs prog w led S n el1 tb1)
 (q:∀h',Heap.SameBut a s.heap h'->SetG prog w led h' a S n->R (some true) { s with heap:=h' }) :
 wpAny (model prog w) A (storeSet a el1 tb1 >>= fun _=>if (!wd && tb1.tooFull)=true then (note (relayAll tb1 el1 (SetTable.grown el1.size)).2.2 >>= fun _=>storeSet a (relayAll tb1 el1 (SetTable.grown el1.size)).1 (relayAll tb1 el1 (SetTable.grown el1.size)).2.1 >>= fun _=>pure (some true)) else pure (some true)) R E s:=by
 refine wpAny_bind (wpAny_storeSet_of g1 g3 ?_ (fits_of_scanBound B.few))
 have p1:=put_at g1 g3 el1 tb1
 have b1:=Heap.SameBut.update s.heap a (Obj.putSet el1 tb1)
 by_cases c:(!wd && tb1.tooFull)=true
 . rw[if_pos c]
   have pm:=relayAll_perm tb1 el1 (SetTable.grown el1.size)
   have pf:=relayAll_fits tb1 el1 (SetTable.grown el1.size)
   have pg:=gt_relay B.gt el1 (SetTable.grown el1.size)
   generalize relayAll tb1 el1 (SetTable.grown el1.size)=ra at pm pf pg ⊢
   obtain⟨el2,tb2,gv⟩:=ra
   dsimp only at pm pf pg ⊢
   have z:el2.size=el1.size:=by rw[<-Array.length_toList,pm.length_eq,Array.length_toList]
   refine wpAny_bind (hn _ _ _ (wpAny_bind (wpAny_storeSet_of p1 rfl ?_ (fits_of_scanBound (by rw[z];exact B.few)))))
   refine wpAny_pure (q _ (b1.trans (Heap.SameBut.update _ a _)) ⟨_,el2,_,tb2,put_at p1 rfl el2 tb2,g2,rfl,⟨B.elm.perm pm,fun k=>(B.mem k).trans ?_,by rw[z];exact B.few,pf,by rw[z];exact B.siz,pg⟩⟩)
   exact⟨fun ⟨e,he,u⟩=>⟨e,pm.mem_iff.mpr he,u⟩,fun ⟨e,he,u⟩=>⟨e,pm.mem_iff.mp he,u⟩⟩
 . rw[if_neg c]
   exact wpAny_pure (q _ b1 ⟨_,el1,_,tb1,p1,g2,rfl,B⟩)
theorem add_g {led:Bool}{a:Addr}{S:Int->Bool}{n:Nat}{k:Int}{tk:Tok}{Q:Bool->Shared->Prop}(G:SetG prog w led s.heap a S n)(room:n+1<scanBound)
 (q:∀h',Heap.SameBut a s.heap h'->SetG prog w led h' a (fun j=>S j || decide (j=k)) (if S k then n else n+1)->Q (!S k) { s with heap:=h' }) :
 wpAny (model prog w) A (setAddHashed a (.int k tk) ((intKind prog w).hash k)) Q E s:=by
 have kk:(intKind prog w).is k (.int k tk)=true:=intKind_is _ _ _ _
 obtain⟨ob,el,ep,tb,g1,g2,g3,B⟩:=G
 unfold setAddHashed setAddHashedIn
 refine wpAny_holding (wpAny_bind (wpAny_setState_of g1 g3 B.fit ?_))
 dsimp only
 rw[byScan_of (knd:=intKind prog w) (x:=.int k tk) rfl B.few B.elm]
 rw[if_pos rfl]
 unfold setAddByScan
 refine wpAny_bind (wpAny_bind (wpAny_rule (wpAny_bind (wpAny_setScan_of kk g1 g3 B.fit B.elm ?_))))
 cases fi:el.toList.findIdx? (fun e=>(intKind prog w).is k e.2) with
 | some j=>
  obtain⟨hj,hp,_⟩:=List.findIdx?_eq_some_iff_getElem.mp fi
  have yes:S k=true:=(B.mem k).mpr ⟨_,List.getElem_mem hj,hp⟩
  refine wpAny_pure (wpAny_pure ?_)
  have r:=q s.heap (Heap.SameBut.refl a s.heap) ⟨ob,el,ep,tb,g1,g2,g3,⟨B.elm,fun i=>?_,B.few,B.fit,by rw[yes];exact B.siz,B.gt⟩⟩
  . rw[yes] at r
    exact r
  . rw[Bool.or_eq_true,decide_eq_true_eq,<-B.mem i]
    exact⟨fun z=>z.elim id fun e=>by rw[e];exact yes,.inl⟩
 | none=>
  have no:S k=false:=by
   cases hk:S k with
   | false=>rfl
   | true=>
    obtain⟨e,he,hp⟩:=(B.mem k).mp hk
    have:=List.findIdx?_eq_none_iff.mp fi e he
    rw[hp] at this
    cases this
  dsimp only
  have pm:=layNew_perm tb el ((intKind prog w).hash k) (.int k tk)
  have pf:=layNew_fits tb el ((intKind prog w).hash k) (.int k tk)
  have pg:=gt_lay B.gt el ((intKind prog w).hash k) (.int k tk)
  generalize layNew tb el ((intKind prog w).hash k) (.int k tk)=la at pm pf pg ⊢
  obtain⟨el1,tb1,wd,gv⟩:=la
  dsimp only at pm pf pg ⊢
  rw[Array.toList_push] at pm
  have z:el1.size=n+1:=by
   rw[<-Array.length_toList,pm.length_eq,List.length_append,Array.length_toList,B.siz]
   rfl
  have B1:Brs prog w led (fun j=>S j || decide (j=k)) (n+1) el1 tb1:=⟨(B.elm.push kk rfl).perm pm,mem_push_iff kk B.mem pm,by rw[z];exact room,pf,z,pg⟩
  have fin:∀h',Heap.SameBut a s.heap h'->SetG prog w led h' a (fun j=>S j || decide (j=k)) (n+1)->Q true { s with heap:=h' }:=fun h' hs hG=>by
   have r:=q h' hs
   rw[no] at r
   exact r hG
  have nt:∀(b:Bool)(s₁:Shared)(Q':Unit->Shared->Prop),Q' () s₁->wpAny (model prog w) A (match b with | true=>rule "set.scan.the-table-gave-way" | false=>pure ()) Q' E s₁:=fun b s₁ Q' u=>by
   cases b
   . exact wpAny_pure u
   . exact wpAny_rule u
  refine wpAny_bind (nt gv _ _ ?_)
  by_cases c:tb1.plain=true
  . rw[if_pos c]
    refine wpAny_bind (wpAny_of_eq (m':=pure true) rfl (wpAny_pure ?_))
    rw[if_pos rfl]
    exact tail_g nt g1 g2 g3 B1 fun h' hs hG=>wpAny_pure (fin h' hs hG)
  . rw[if_neg c]
    refine wpAny_bind (wpAny_pure ?_)
    rw[if_pos rfl]
    exact tail_g nt g1 g2 g3 B1 fun h' hs hG=>wpAny_pure (fin h' hs hG)
end
end STb
namespace STb
open PySem PySem.Spec PyProof.Rows L2
theorem si_next:Slot "set_iterator" "__next__" "set_iterator.__next__" := .of (owner := "set_iterator") (n := "__next__") (by rw[typeLookup_type,builtinLookup_eq_fast];kernel_rfl) (by decide +kernel) (by decide +kernel) (by decide +kernel) (by first | exact .inl (by decide +kernel) | exact .inr (by decide +kernel)) (by rw[isSubtype_type];kernel_rfl)
theorem si_iter:Slot "set_iterator" "__iter__" "set_iterator.__iter__" := .of (owner := "set_iterator") (n := "__iter__") (by rw[typeLookup_type,builtinLookup_eq_fast];kernel_rfl) (by decide +kernel) (by decide +kernel) (by decide +kernel) (by first | exact .inl (by decide +kernel) | exact .inr (by decide +kernel)) (by rw[isSubtype_type];kernel_rfl)
theorem si_entry_next:entryFor table "set_iterator.__next__" = some Builtin.«set_iterator.__next__» := entryFor_of_tree (by kernel_rfl)
theorem si_entry_iter:entryFor table "set_iterator.__iter__" = some Builtin.«dict_keyiterator.__iter__» := entryFor_alias (id' := "dict_keyiterator.__iter__") (by kernel_rfl) (by first | rfl | decide +kernel) (by decide +kernel) (by kernel_rfl)
theorem set_entry_iter:entryFor table "set.__iter__" = some Builtin.«frozenset.__iter__» := entryFor_alias (id' := "frozenset.__iter__") (by kernel_rfl) (by first | rfl | decide +kernel) (by decide +kernel) (by kernel_rfl)
theorem si_owner:Manifest.owners.lookup (String.ofList ['r','o','t','a','r','e','t','i','_','t','e','s'].reverse)=some Manifest.sig_set_iterator:=by kernel_rfl
theorem si_args_next (a:Value):argsOk "set_iterator.__next__" ⟨[a],[]⟩:=by
 unfold argsOk
 rw[signature?_of (id := "set_iterator.__next__") (n:=['_','_','t','x','e','n','_','_']) (o:=['r','o','t','a','r','e','t','i','_','t','e','s']) (by kernel_rfl) si_owner]
 kernel_rfl
theorem si_args_iter (a:Value):argsOk "set_iterator.__iter__" ⟨[a],[]⟩:=by
 unfold argsOk
 rw[signature?_of (id := "set_iterator.__iter__") (n:=['_','_','r','e','t','i','_','_']) (o:=['r','o','t','a','r','e','t','i','_','t','e','s']) (by kernel_rfl) si_owner]
 kernel_rfl
theorem er_perm {α:Type}:∀{l:List α}{k:Nat}{x:α},l[k]? = some x->(x::l.eraseIdx k).Perm l
 | [],_,_,h=>by simp at h
 | _::_,0,_,h=>by simp at h;subst h;exact List.Perm.refl _
 | y::r,k+1,x,h=>by
  show (x::y::r.eraseIdx k).Perm (y::r)
  exact (List.Perm.swap y x _).trans ((er_perm (by simpa using h)).cons y)
theorem pick_go {α:Type}(next:Nat->Nat):∀(fuel k:Nat)(left:List α)(out:Array α),left.length=fuel->(pickOrder.go next fuel k left out).toList.Perm (out.toList++left)
 | 0,k,left,out,h=>by
  have:left=[]:=List.length_eq_zero_iff.mp h
  subst this
  unfold pickOrder.go
  rw[List.append_nil]
 | fuel+1,k,left,out,h=>by
  unfold pickOrder.go
  have hl:next k%left.length<left.length:=Nat.mod_lt _ (by omega)
  have e:left[next k%left.length]? = some left[next k%left.length]:=List.getElem?_eq_getElem hl
  rw[e]
  dsimp only
  refine (pick_go next fuel (k+1) _ _ (by rw[List.length_eraseIdx,if_pos hl];omega)).trans ?_
  rw[Array.toList_push,List.append_assoc]
  exact (er_perm e).append_left _
theorem pick_perm {α:Type}(next:Nat->Nat)(xs:Array α):(pickOrder next xs).toList.Perm xs.toList:=by
 have:=pick_go next xs.size 0 xs.toList #[] (by simp)
 simpa [pickOrder] using this
section
variable {prog:Program}{w:World}{A:Around}{E:Value->Shared->Prop}
theorem ch_wp {src:Source}{n:Nat}{s:Shared}{Q:Nat->Shared->Prop}(hn:n≠0)(h:∀i d',i<n->Q i { s with drawn:=d' }):wpAny (model prog w) A (choose src n) Q E s:=
 fun _ _ _=>⟨hn,h _ _ (Nat.mod_lt _ (Nat.pos_of_ne_zero hn))⟩
theorem draw_wp {α:Type}:∀(k:Nat)(xs:List α)(s:Shared)(Q:List α->Shared->Prop),xs.length=k->(∀ys d',ys.Perm xs->Q ys { s with drawn:=d' })->wpAny (model prog w) A (drawOrder k xs) Q E s
 | 0,xs,s,Q,h,q=>by
  have:xs=[]:=List.length_eq_zero_iff.mp h
  subst this
  unfold drawOrder
  exact wpAny_pure (q [] s.drawn (List.Perm.refl _))
 | k+1,[],s,Q,h,q=>by cases h
 | k+1,x::r,s,Q,h,q=>by
  unfold drawOrder
  refine wpAny_bind (ch_wp (by simp) fun i d' hi=>?_)
  have e:(x::r)[i]? = some (x::r)[i]:=List.getElem?_eq_getElem hi
  rw[e]
  dsimp only
  refine wpAny_bind (draw_wp k _ _ _ (by rw[List.length_eraseIdx,if_pos hi];omega) fun ys d2 hp=>wpAny_pure ?_)
  exact q _ d2 ((hp.cons _).trans (er_perm e))
end
def RawS (h:Heap)(a:Addr)(el:Array (Int×Value))(ep:Nat)(tb:SetTable):Prop:=∃ob,h.get? a=some ob/\ob.ExactSet/\ob.data = .set el ep tb
theorem RawS.keep {h h':Heap}{a:Addr}{el:Array (Int×Value)}{ep:Nat}{tb:SetTable}(x:RawS h a el ep tb)(k:∀o,h.get? a=some o->h'.get? a=some o):RawS h' a el ep tb:=let ⟨ob,g,r⟩:=x;⟨ob,k _ g,r⟩
theorem RawS.typeIs {s:Shared}{a:Addr}{el:Array (Int×Value)}{ep:Nat}{tb:SetTable}(x:RawS s.heap a el ep tb):s.TypeIs (.ref a) "set" := let ⟨ob,g,c,_⟩:=x;⟨ob,g,c.1⟩
theorem RawS.lt {h:Heap}{a:Addr}{el:Array (Int×Value)}{ep:Nat}{tb:SetTable}(x:RawS h a el ep tb):a<h.objs.size:=let ⟨_,g,_⟩:=x;Heap.lt_size g
def SI (h:Heap)(I:Addr)(f:Value)(i n ep:Nat)(a:Addr):Prop:=∃o,h.get? I=some o/\o.cls = .type "set_iterator" /\ o.data = .fields #[f,.int i 0,.ref a,.int n 0,.int ep 0]
theorem SI.typeIs {s:Shared}{I:Addr}{f:Value}{i n ep:Nat}{a:Addr}(x:SI s.heap I f i n ep a):s.TypeIs (.ref I) "set_iterator" := let ⟨o,h,c,_⟩:=x;⟨o,h,c⟩
theorem SI.keep {h h':Heap}{I:Addr}{f:Value}{i n ep:Nat}{a:Addr}(x:SI h I f i n ep a)(k:∀o,h.get? I=some o->h'.get? I=some o):SI h' I f i n ep a:=let ⟨o,g,r⟩:=x;⟨o,k _ g,r⟩
section
variable {prog:Program}{w:World}{A:Around}{E:Value->Shared->Prop}{s:Shared}{a I:Addr}{el:Array (Int×Value)}{ep:Nat}{tb:SetTable}
def itObj (f:Value)(n ep:Nat)(a:Addr):Obj:={ cls:=.type "set_iterator",data:=.fields #[f,.int 0 0,.ref a,.int n 0,.int ep 0] }
theorem iter_wp {Q:Value->Shared->Prop}(hm:RawS s.heap a el ep tb)(hf:tb.fits el.size=true)
 (qa:(w.params.followText "set-order" = true\/tb.plain=true\/el.size<=1)->Q (.ref s.heap.objs.size) { s with heap:=s.heap.push (itObj (.int 0 0) el.size ep a) })
 (qb:∀(ys:List Nat)(d':Drawn),ys.Perm (List.range el.size)->Q (.ref (s.heap.push { cls:=.type "tuple",data:=.seq (ys.map fun (i:Nat)=>rawInt i).toArray }).objs.size) { s with heap:=(s.heap.push { cls:=.type "tuple",data:=.seq (ys.map fun (i:Nat)=>rawInt i).toArray }).push (itObj (.ref s.heap.objs.size) el.size ep a),drawn:=d' }) (hz:el.size<=100000) :
 wpAny (model prog w) A (pyIter (.ref a)) Q E s:=by
 obtain⟨ob,g1,g2,g3⟩:=id hm
 refine wpAny_pyIter_slot hm.typeIs F.slot_set_iter (wpAny_call_entry F.slot_set_iter hm.typeIs set_entry_iter ?_ (F.args_set_iter_1 _))
 unfold Builtin.«frozenset.__iter__»
 refine wpAny_bind ?_
 refine wpAny_bind (wpAny_pure (wpAny_pure ?_))
 refine wpAny_bind ?_
 unfold Builtin.Frozenset.sizeOf
 refine wpAny_bind (wpAny_setEntries_of g1 g3 hf (wpAny_pure ?_))
 unfold setDrawn setsByText
 refine wpAny_bind (wpAny_bind (wpAny_setState_of g1 g3 hf (wpAny_bind (wpAny_bind (wpAny_askSetting (wpAny_pure (wpAny_pure ?_)))))))
 show wpAny _ _ (if (!w.params.followText "set-order" && (!tb.plain && decide (el.size > 1)))=true then _ else _) _ _ s
 by_cases c:(!w.params.followText "set-order" && (!tb.plain && decide (el.size > 1)))=true
 . rw[if_pos c]
   refine wpAny_bind (draw_wp _ _ _ _ (by rw[List.length_range]) fun ys d' hp=>wpAny_bind ?_)
   unfold newTuple
   refine wpAny_newObj_type ?_ ?_
   . unfold setEpoch
     refine wpAny_bind (wpAny_bind (wpAny_setState_of (Heap.get?_push_of_some _ g1) g3 hf (wpAny_pure ?_)))
     refine wpAny_bind (wpAny_newObj_type (wpAny_pure ⟨_,rfl, "set_iterator",_,⟨_,Heap.get?_push_size _ rfl,rfl⟩,si_next.lookup,?_⟩))
     exact qb ys d' hp
   . show (List.toArray _).size<=sizeLine
     rw[List.size_toArray,List.length_map,hp.length_eq,List.length_range]
     have:sizeLine=16777216:=rfl
     omega
 . rw[if_neg c]
   refine wpAny_bind (wpAny_pure ?_)
   unfold setEpoch
   refine wpAny_bind (wpAny_bind (wpAny_setState_of g1 g3 hf (wpAny_pure ?_)))
   refine wpAny_bind (wpAny_newObj_type (wpAny_pure ⟨_,rfl, "set_iterator",_,⟨_,Heap.get?_push_size _ rfl,rfl⟩,si_next.lookup,?_⟩))
   refine qa ?_
   by_cases c1:w.params.followText "set-order" = true
   . exact .inl c1
   . right
     by_cases c2:tb.plain=true
     . exact .inl c2
     . right
       by_cases c3:el.size<=1
       . exact c3
       . exact absurd (by simp[c1,c2];omega) c
theorem sn_text {slot given:Nat}{Q:Option (Value×Nat)->Shared->Prop}(hm:RawS s.heap a el ep tb)(hf:tb.fits el.size=true)(ht:w.params.followText "set-order" = true)
 (q:Q (((pickOrder (w.params.setOrder a ep) el)[given]?).map fun e=>(e.2,slot)) s):wpAny (model prog w) A (setNext a slot given ep) Q E s:=by
 obtain⟨ob,g1,g2,g3⟩:=id hm
 unfold setNext setsByText
 refine wpAny_bind (wpAny_setState_of g1 g3 hf (wpAny_bind (wpAny_bind (wpAny_askSetting (wpAny_pure ?_)))))
 show wpAny _ _ (if w.params.followText "set-order" = true then _ else _) _ _ s
 rw[if_pos ht]
 show wpAny _ _ (if (ep != ep)=true then _ else _) _ _ s
 rw[if_neg (by simp)]
 unfold setWalk setsByText
 refine wpAny_bind (wpAny_bind (wpAny_setState_of g1 g3 hf (wpAny_bind (wpAny_bind (wpAny_askSetting (wpAny_pure ?_))))))
 show wpAny _ _ (if w.params.followText "set-order" = true then _ else _) _ _ s
 rw[if_pos ht]
 refine wpAny_bind (wpAny_askSetting (wpAny_pure (wpAny_pure q)))
theorem sn_plain {slot given i:Nat}{Q:Option (Value×Nat)->Shared->Prop}(hm:RawS s.heap a el ep tb)(hf:tb.fits el.size=true)(ht:w.params.followText "set-order" = false) (hp:tb.plain=true\/el.size<=1)(hl:tb.led=true)(hi:SetTable.below tb.place slot=i)
 (q:Q (match el[i]?,tb.place[i]? with | some (_,x),some j=>some (x,j+1) | _,_=>none) s):wpAny (model prog w) A (setNext a slot given ep) Q E s:=by
 obtain⟨ob,g1,g2,g3⟩:=id hm
 unfold setNext setsByText
 refine wpAny_bind (wpAny_setState_of g1 g3 hf (wpAny_bind (wpAny_bind (wpAny_askSetting (wpAny_pure ?_)))))
 show wpAny _ _ (if w.params.followText "set-order" = true then _ else _) _ _ s
 rw[if_neg (by rw[ht];simp)]
 show wpAny _ _ (if (!tb.plain && decide (el.size > 1))=true then _ else _) _ _ s
 rw[if_neg (by rcases hp with z | z <;> simp[z])]
 show wpAny _ _ ((if (!tb.led && !el.isEmpty)=true then _ else _) >>= _) _ _ s
 rw[if_neg (by rw[hl];simp)]
 refine wpAny_bind (wpAny_pure ?_)
 dsimp only
 rw[hi]
 exact wpAny_pure q
def SnTells (prog:Program)(w:World)(a:Addr)(slot i ep:Nat)(r:Option (Value×Nat))(s:Shared):Prop:=∀(A:Around)(E:Value->Shared->Prop)(Q:Option (Value×Nat)->Shared->Prop),Q r s->wpAny (model prog w) A (setNext a slot i ep) Q E s
theorem si_upd {h:Heap}{f f':Value}{i n:Nat}{o:Obj}(ho:h.get? I=some o)(hc:o.cls = .type "set_iterator") (hd:o.data = .fields #[f,.int i 0,.ref a,.int n 0,.int ep 0]) :
 SI ((h.update I (Obj.mapFields (·.setIfInBounds 0 f'))).update I (Obj.mapFields (·.setIfInBounds 1 (rawInt ((i:Int)+1))))) I f' (i+1) n ep a:=by
 have e1:(h.update I (Obj.mapFields (·.setIfInBounds 0 f'))).get? I=some (Obj.mapFields (·.setIfInBounds 0 f') o):=Heap.get?_update_self _ ho (Obj.isFreed_of_fields (Obj.data_mapFields hd _))
 have d1:=Obj.data_mapFields hd (·.setIfInBounds 0 f')
 refine⟨_,Heap.get?_update_self _ e1 (Obj.isFreed_of_fields (Obj.data_mapFields d1 _)),(Obj.cls_mapFields ..).trans ((Obj.cls_mapFields ..).trans hc),?_⟩
 rw[Obj.data_mapFields d1]
 simp[rawInt]
theorem si_up1 {h:Heap}{f:Value}{i n:Nat}{o:Obj}(ho:h.get? I=some o)(hc:o.cls = .type "set_iterator") (hd:o.data = .fields #[f,.int i 0,.ref a,.int n 0,.int ep 0]) :
 SI (h.update I (Obj.mapFields (·.setIfInBounds 1 (rawInt ((i:Int)+1))))) I f (i+1) n ep a:=by
 refine⟨_,Heap.get?_update_self _ ho (Obj.isFreed_of_fields (Obj.data_mapFields hd _)),(Obj.cls_mapFields ..).trans hc,?_⟩
 rw[Obj.data_mapFields hd]
 simp[rawInt]
theorem next_a {slot i nx:Nat}{x:Value}{Q:Option Value->Shared->Prop}(hit:SI s.heap I (.int slot 0) i el.size ep a)(hm:RawS s.heap a el ep tb)(hf:tb.fits el.size=true)(hs:SnTells prog w a slot i ep (some (x,nx)) s)
 (hQ:∀h',SI h' I (.int nx 0) (i+1) el.size ep a->Heap.SameBut I s.heap h'->Q (some x) { s with heap:=h' }):wpAny (model prog w) A (pyNext (.ref I)) Q E s:=by
 obtain⟨o,ho,hc,hd⟩:=id hit
 obtain⟨ob,g1,g2,g3⟩:=id hm
 unfold pyNext
 refine wpAny_bind (wpAny_attempt (wpAny_callSpecial?_slot (name:=Str.ofString "__next__") hit.typeIs si_next (wpAny_call_entry si_next hit.typeIs si_entry_next ?_ (si_args_next _))))
 unfold Builtin.«set_iterator.__next__»
 refine wpAny_bind (wpAny_pure ?_)
 refine wpAny_bind (wpAny_fieldsOf ho hd ?_)
 refine wpAny_bind (wpAny_setEntries_of g1 g3 hf ?_)
 rw[if_neg (by simp)]
 dsimp only
 rw[Int.toNat_natCast,Int.toNat_natCast,Int.toNat_natCast]
 refine wpAny_bind (hs _ _ _ ?_)
 dsimp only
 refine wpAny_bind (wpAny_setField ho hd (by simp) ?_)
 have e1:(s.heap.update I (Obj.mapFields (·.setIfInBounds 0 (rawInt (nx:Int))))).get? I=some (Obj.mapFields (·.setIfInBounds 0 (rawInt (nx:Int))) o):=Heap.get?_update_self _ ho (Obj.isFreed_of_fields (Obj.data_mapFields hd _))
 refine wpAny_bind (wpAny_setField e1 (Obj.data_mapFields hd _) (by simp) ?_)
 refine wpAny_pure ⟨_,rfl,wpAny_pure (hQ _ (si_upd ho hc hd) ((Heap.SameBut.update ..).trans (Heap.SameBut.update ..)))⟩
theorem stop_tail {h0:Heap}{Q:Option Value->Shared->Prop}(hh:A.handled=none)(hQ:∀h',(∀b o,h0.get? b=some o->h'.get? b=some o)->Q none { s with heap:=h' }){R:Fin->Shared->Prop} :
 wpAny (model prog w) A.in1 (newExc (.type "StopIteration") [] >>= fun e=>raiseNew (α:=Fin) e) R (fun e s'=>wpAny (model prog w) A (isInstance e (.type "StopIteration") >>= fun b=>if b=true then pure none else throw e) Q E s') { s with heap:=h0 }:=by
 refine wpAny_bind ?_
 simp only[newExc,newTuple]
 refine wpAny_bind (wpAny_newObj_type ?_ (by size_fits))
 refine wpAny_bind (m:=firstArgMember _ _) (wpAny_of_eq (m':=pure Value.none) (by first | rfl | (simp only[firstArgMember];rfl)) (wpAny_pure ?_))
 refine wpAny_newObj_type ?_ (by size_fits)
 simp only[raiseNew]
 refine wpAny_bind (wpAny_handled ?_)
 rw[show A.in1.handled=none from hh]
 refine wpAny_bind (wpAny_pure (wpAny_throw ?_))
 refine wpAny_bind (wpAny_isInstance (T := "StopIteration") (b:=true) ⟨_,Heap.get?_push_size _ rfl,rfl⟩ isSubtype_stop ?_)
 exact wpAny_pure (hQ _ fun b o e=>Heap.get?_push_of_some _ (Heap.get?_push_of_some _ e))
theorem end_a {slot i:Nat}{Q:Option Value->Shared->Prop}(hh:A.handled=none)(hit:SI s.heap I (.int slot 0) i el.size ep a)(hm:RawS s.heap a el ep tb)(hf:tb.fits el.size=true)(hs:SnTells prog w a slot i ep none s)
 (hQ:∀h',(∀b o,b≠I->s.heap.get? b=some o->h'.get? b=some o)->Q none { s with heap:=h' }):wpAny (model prog w) A (pyNext (.ref I)) Q E s:=by
 obtain⟨o,ho,hc,hd⟩:=id hit
 obtain⟨ob,g1,g2,g3⟩:=id hm
 unfold pyNext
 refine wpAny_bind (wpAny_attempt (wpAny_callSpecial?_slot (name:=Str.ofString "__next__") hit.typeIs si_next (wpAny_call_entry si_next hit.typeIs si_entry_next ?_ (si_args_next _))))
 unfold Builtin.«set_iterator.__next__»
 refine wpAny_bind (wpAny_pure ?_)
 refine wpAny_bind (wpAny_fieldsOf ho hd ?_)
 refine wpAny_bind (wpAny_setEntries_of g1 g3 hf ?_)
 rw[if_neg (by simp)]
 dsimp only
 rw[Int.toNat_natCast,Int.toNat_natCast,Int.toNat_natCast]
 refine wpAny_bind (hs _ _ _ ?_)
 dsimp only
 refine wpAny_bind (wpAny_setField ho hd (by simp) ?_)
 refine stop_tail hh fun h' k=>hQ h' fun b o' nb e=>k b o' ((Heap.SameBut.update s.heap I _).extBut b o' nb e)
end
end STb
namespace STb
open PySem PySem.Spec PyProof.Rows L2
section
variable {prog:Program}{w:World}{A:Around}{E:Value->Shared->Prop}{s:Shared}{a I tp:Addr}{el:Array (Int×Value)}{ep:Nat}{tb:SetTable}
def TupOf (h:Heap)(tp:Addr)(ys:List Nat):Prop:=∃o n,h.get? tp=some o/\o.data = .seq (ys.map fun (i:Nat)=>rawInt i).toArray n
theorem TupOf.keep {h h':Heap}{tp:Addr}{ys:List Nat}(x:TupOf h tp ys)(k:∀o,h.get? tp=some o->h'.get? tp=some o):TupOf h' tp ys:=let ⟨o,n,e,d⟩:=x;⟨o,n,k _ e,d⟩
theorem next_b {i y:Nat}{ys:List Nat}{e:Int×Value}{Q:Option Value->Shared->Prop}(hit:SI s.heap I (.ref tp) i el.size ep a)(hm:RawS s.heap a el ep tb)(hf:tb.fits el.size=true)(ht:TupOf s.heap tp ys)(hy:ys[i]? = some y)(he:el[y]? = some e)
 (hQ:∀h',SI h' I (.ref tp) (i+1) el.size ep a->Heap.SameBut I s.heap h'->Q (some e.2) { s with heap:=h' }):wpAny (model prog w) A (pyNext (.ref I)) Q E s:=by
 obtain⟨o,ho,hc,hd⟩:=id hit
 obtain⟨ob,g1,g2,g3⟩:=id hm
 obtain⟨ot,n,t1,t2⟩:=ht
 unfold pyNext
 refine wpAny_bind (wpAny_attempt (wpAny_callSpecial?_slot (name:=Str.ofString "__next__") hit.typeIs si_next (wpAny_call_entry si_next hit.typeIs si_entry_next ?_ (si_args_next _))))
 unfold Builtin.«set_iterator.__next__»
 refine wpAny_bind (wpAny_pure ?_)
 refine wpAny_bind (wpAny_fieldsOf ho hd ?_)
 refine wpAny_bind (wpAny_setEntries_of g1 g3 hf ?_)
 rw[if_neg (by simp)]
 refine wpAny_bind (wpAny_seqItems t1 t2 ?_)
 dsimp only
 have ey:(ys.map fun (i:Nat)=>rawInt i).toArray[(i:Int).toNat]? = some (.int (y:Int) 0):=by
  rw[Int.toNat_natCast,List.getElem?_toArray,List.getElem?_map,hy]
  rfl
 rw[ey]
 dsimp only
 rw[Int.toNat_natCast,Int.toNat_natCast]
 unfold setNextDrawn
 refine wpAny_bind (wpAny_bind (wpAny_setState_of g1 g3 hf ?_))
 show wpAny _ _ (if (ep != ep)=true then _ else _) _ _ s
 rw[if_neg (by simp)]
 obtain⟨e1,e2⟩:=e
 show wpAny _ _ (match el[y]? with | some (_,x)=>_ | _=>_) _ _ s
 rw[he]
 refine wpAny_pure ?_
 refine wpAny_bind (wpAny_setField ho hd (by simp) ?_)
 exact wpAny_pure ⟨_,rfl,wpAny_pure (hQ _ (si_up1 ho hc hd) (Heap.SameBut.update ..))⟩
theorem end_b {i:Nat}{ys:List Nat}{Q:Option Value->Shared->Prop}(hh:A.handled=none)(hit:SI s.heap I (.ref tp) i el.size ep a)(hm:RawS s.heap a el ep tb)(hf:tb.fits el.size=true)(ht:TupOf s.heap tp ys)(hy:ys[i]? = none)
 (hQ:∀h',(∀b o,b≠I->s.heap.get? b=some o->h'.get? b=some o)->Q none { s with heap:=h' }):wpAny (model prog w) A (pyNext (.ref I)) Q E s:=by
 obtain⟨o,ho,hc,hd⟩:=id hit
 obtain⟨ob,g1,g2,g3⟩:=id hm
 obtain⟨ot,n,t1,t2⟩:=ht
 unfold pyNext
 refine wpAny_bind (wpAny_attempt (wpAny_callSpecial?_slot (name:=Str.ofString "__next__") hit.typeIs si_next (wpAny_call_entry si_next hit.typeIs si_entry_next ?_ (si_args_next _))))
 unfold Builtin.«set_iterator.__next__»
 refine wpAny_bind (wpAny_pure ?_)
 refine wpAny_bind (wpAny_fieldsOf ho hd ?_)
 refine wpAny_bind (wpAny_setEntries_of g1 g3 hf ?_)
 rw[if_neg (by simp)]
 refine wpAny_bind (wpAny_seqItems t1 t2 ?_)
 dsimp only
 have ey:(ys.map fun (i:Nat)=>rawInt i).toArray[(i:Int).toNat]? = none:=by
  rw[Int.toNat_natCast,List.getElem?_toArray,List.getElem?_map,hy]
  rfl
 rw[ey]
 dsimp only
 refine wpAny_bind (wpAny_setField ho hd (by simp) ?_)
 have e1:(s.heap.update I (Obj.mapFields (·.setIfInBounds 0 (rawInt 0)))).get? I=some (Obj.mapFields (·.setIfInBounds 0 (rawInt 0)) o):=Heap.get?_update_self _ ho (Obj.isFreed_of_fields (Obj.data_mapFields hd _))
 refine wpAny_bind (wpAny_setField e1 (Obj.data_mapFields hd _) (by simp) ?_)
 refine stop_tail hh fun h' k=>hQ h' fun b o' nb e=>k b o' ((Heap.SameBut.update _ I _).extBut b o' nb ((Heap.SameBut.update s.heap I _).extBut b o' nb e))
theorem self_it {f:Value}{i:Nat}{Q:Value->Shared->Prop}(hit:SI s.heap I f i el.size ep a)(h:Q (.ref I) s):wpAny (model prog w) A (pyIter (.ref I)) Q E s:=by
 refine wpAny_pyIter_slot hit.typeIs si_iter (wpAny_call_entry si_iter hit.typeIs si_entry_iter ?_ (si_args_iter _))
 show wpAny _ _ (ret (.ref I)) _ _ s
 exact wpAny_pure ⟨_,rfl, "set_iterator",_,hit.typeIs,si_next.lookup,h⟩
def ordA (w:World)(a:Addr)(ep:Nat)(el:Array (Int×Value)):List (Int×Value):=if w.params.followText "set-order" = true then (pickOrder (w.params.setOrder a ep) el).toList else el.toList
theorem ordA_perm:(ordA w a ep el).Perm el.toList:=by
 unfold ordA
 split
 . exact pick_perm _ _
 . exact List.Perm.refl _
theorem ris_few {xs:Array Nat}(h:xs.size<=1):Ris xs:=by
 unfold Ris
 have hl:xs.toList.length<=1:=by simpa using h
 generalize xs.toList=l at hl
 cases l with
 | nil=>exact List.Pairwise.nil
 | cons x r=>cases r with
  | nil=>exact List.pairwise_singleton _ _
  | cons y r=>simp at hl
theorem walk_a (hh:A.handled=none)(hIa:a≠I)(hf:tb.fits el.size=true)(hc:w.params.followText "set-order" = true\/tb.plain=true\/el.size<=1) (gt:GT (!w.params.followText "set-order") tb) :
 Walks prog w A I [I,a] [I] el.size (fun i v=>∃e,(ordA w a ep el)[i]? = some e/\v=e.2) (fun i h=>∃slot:Nat,SI h I (.int slot 0) i el.size ep a/\RawS h a el ep tb/\(w.params.followText "set-order" = false->SetTable.below tb.place slot=i)) where
 sub:=fun b hb=>by simp at hb;simp[hb]
 frame:=fun _ _ _ ⟨slot,h1,h2,h3⟩ hk=>⟨slot,h1.keep fun o e=>hk I (by simp) o e,h2.keep fun o e=>hk a (by simp) o e,h3⟩
 item:=fun i s Q E hi ⟨slot,h1,h2,h3⟩ hQ=>by
  have lo:i<(ordA w a ep el).length:=by rw[ordA_perm.length_eq];simpa using hi
  cases ht:w.params.followText "set-order" with
  | true=>
   have ei:(pickOrder (w.params.setOrder a ep) el)[i]? = some (ordA w a ep el)[i]:=by
    rw[<-Array.getElem?_toList]
    have:(pickOrder (w.params.setOrder a ep) el).toList=ordA w a ep el:=by unfold ordA;rw[if_pos ht]
    rw[this]
    exact List.getElem?_eq_getElem lo
   refine next_a (x:=(ordA w a ep el)[i].2) (nx:=slot) h1 h2 hf (fun A' E' Q' q=>sn_text h2 hf ht (by rw[ei];exact q)) fun h' st sb=>?_
   exact hQ _ h' s.toks ⟨_,List.getElem?_eq_getElem lo,rfl⟩ ⟨slot,st,h2.keep fun o e=>sb.extBut a o hIa e,fun z=>by rw[ht] at z;cases z⟩ fun b o hb e=>sb.extBut b o (fun z=>hb (by simp[z])) e
  | false=>
   have hp:tb.plain=true\/el.size<=1:=hc.resolve_left (by rw[ht];simp)
   have ps:tb.place.size=el.size:=by
    simp only[SetTable.fits,Bool.and_eq_true,beq_iff_eq] at hf
    exact hf.1
   have rs:Ris tb.place:=hp.elim gt.rs fun z=>ris_few (by omega)
   have eo:ordA w a ep el=el.toList:=by unfold ordA;rw[if_neg (by rw[ht];simp)]
   have e1:el[i]? = some el[i]:=Array.getElem?_eq_getElem hi
   have e2:tb.place[i]? = some (tb.place[i]'(by omega)):=Array.getElem?_eq_getElem (by omega)
   refine next_a (x:=el[i].2) (nx:=tb.place[i]'(by omega)+1) h1 h2 hf (fun A' E' Q' q=>sn_plain (i:=i) h2 hf ht hp (by rw[gt.ld,ht];rfl) (h3 ht) (by rw[e1,e2];exact q)) fun h' st sb=>?_
   exact hQ _ h' s.toks ⟨el[i],by rw[eo,Array.getElem?_toList];exact e1,rfl⟩ ⟨_,st,h2.keep fun o e=>sb.extBut a o hIa e,fun _=>below_next rs e2⟩ fun b o hb e=>sb.extBut b o (fun z=>hb (by simp[z])) e
 done:=fun s Q E ⟨slot,h1,h2,h3⟩ hQ=>by
  cases ht:w.params.followText "set-order" with
  | true=>
   have ei:(pickOrder (w.params.setOrder a ep) el)[el.size]? = none:=by
    rw[<-Array.getElem?_toList]
    exact List.getElem?_eq_none (by rw[(pick_perm _ _).length_eq];simp)
   exact end_a hh h1 h2 hf (fun A' E' Q' q=>sn_text h2 hf ht (by rw[ei];exact q)) fun h' k=>hQ h' s.toks fun b o hb e=>k b o (fun z=>hb (by simp[z])) e
  | false=>
   have hp:tb.plain=true\/el.size<=1:=hc.resolve_left (by rw[ht];simp)
   exact end_a hh h1 h2 hf (fun A' E' Q' q=>sn_plain (i:=el.size) h2 hf ht hp (by rw[gt.ld,ht];rfl) (h3 ht) (by rw[Array.getElem?_eq_none (Nat.le_refl _)];exact q)) fun h' k=>hQ h' s.toks fun b o hb e=>k b o (fun z=>hb (by simp[z])) e
 self:=fun i s Q E ⟨slot,h1,_⟩ h=>self_it h1 h
theorem walk_b {ys:List Nat}(hh:A.handled=none)(hIa:a≠I)(hIt:tp≠I)(hf:tb.fits el.size=true)(hp:ys.Perm (List.range el.size)) :
 Walks prog w A I [I,a,tp] [I] el.size (fun i v=>∃y e,ys[i]? = some y/\el[y]? = some e/\v=e.2) (fun i h=>SI h I (.ref tp) i el.size ep a/\RawS h a el ep tb/\TupOf h tp ys) where
 sub:=fun b hb=>by simp at hb;simp[hb]
 frame:=fun _ _ _ ⟨h1,h2,h3⟩ hk=>⟨h1.keep fun o e=>hk I (by simp) o e,h2.keep fun o e=>hk a (by simp) o e,h3.keep fun o e=>hk tp (by simp) o e⟩
 item:=fun i s Q E hi ⟨h1,h2,h3⟩ hQ=>by
  have hl:ys.length=el.size:=by rw[hp.length_eq,List.length_range]
  have e1:ys[i]? = some ys[i]:=List.getElem?_eq_getElem (by omega)
  have hy:ys[i]<el.size:=List.mem_range.mp (hp.mem_iff.mp (List.getElem_mem _))
  have e2:el[ys[i]]? = some el[ys[i]]:=Array.getElem?_eq_getElem hy
  refine next_b h1 h2 hf h3 e1 e2 fun h' st sb=>?_
  exact hQ _ h' s.toks ⟨_,_,e1,e2,rfl⟩ ⟨st,h2.keep fun o e=>sb.extBut a o hIa e,h3.keep fun o e=>sb.extBut tp o hIt e⟩ fun b o hb e=>sb.extBut b o (fun z=>hb (by simp[z])) e
 done:=fun s Q E ⟨h1,h2,h3⟩ hQ=>by
  have hl:ys.length=el.size:=by rw[hp.length_eq,List.length_range]
  exact end_b hh h1 h2 hf h3 (List.getElem?_eq_none (by omega)) fun h' k=>hQ h' s.toks fun b o hb e=>k b o (fun z=>hb (by simp[z])) e
 self:=fun i s Q E ⟨h1,_⟩ h=>self_it h1 h
end
end STb
namespace STb
open PySem PySem.Spec PyProof.Rows PySem.Calls L2
section
variable {prog:Program}{w:World}{A:Around}{E:Value->Shared->Prop}{s:Shared}{a:Addr}{el:Array (Int×Value)}{ep:Nat}{tb:SetTable}
theorem hint_set {Q:Bool->Shared->Prop}(hT:s.TypeIs (.ref a) "set") (h:Q false s):wpAny (model prog w) A (Builtin.List.listLengthHint (.ref a)) Q E s:=by
 unfold Builtin.List.listLengthHint
 refine wpAny_bind (wpAny_specialOf hT PySem.F.slot_set_len.lookup ?_)
 generalize hid:("set.__len__" : String)=id0
 wp_delta
 rw[show splitId id0=some ("set", "__len__") from by subst hid;decide +kernel]
 subst hid
 refine wpAny_bind (wpAny_isInstance (T := "set") (b:=true) hT sub_set_self ?_)
 refine wpAny_ite_split (fun hab=>absurd hab (by decide)) (fun _=>?_)
 refine wpAny_ite_split (fun _=>wpAny_bind (wpAny_typeOf hT (wpAny_pure h))) (fun hab=>absurd (by decide +kernel) hab)
theorem gather {I S:Addr}{fp:List Addr}{n:Nat}{P:Nat->Value->Prop}{St:Nat->Heap->Prop}{res:Value}{c:Nat}{R:Result->Shared->Prop}{s0:Shared}(W:Walks prog w A.in1 I fp [I] n P St)(hSf:S∉fp)(hn:n<=sizeLine)(hI:s0.heap.objs.size<=I)
 (k0:∀b o,b≠S->s0.heap.get? b=some o->s.heap.get? b=some o)(st:St 0 s.heap)(hS:s.heap.get? S=some { cls:=.type "list",data:=.seq #[] c })
 (q:∀(s':Shared)(acc:Array Value)(c':Nat),s'.gens=s.gens->s'.drawn=s.drawn->s'.os=s.os->(∀b o,b≠S->s0.heap.get? b=some o->s'.heap.get? b=some o)->s'.heap.get? S=some { cls:=.type "list",dict:=none,data:=.seq acc c',slots:=#[] }->ItemsOf P acc n->R (.ok (.ret res)) s') :
 codeAny (model prog w) A (.builtin "list.extend.loop" ⟨[.ref S,.ref I,res],[]⟩) R s:=by
 refine codeAny_extend_loopS W.toS hn S hSf res n 0 s #[] c rfl (Nat.zero_le _) st hS (ItemsOf.nil _) fun s' acc c' mv hS' ha=>?_
 refine q s' acc c' mv.gens mv.drawn mv.os (fun b o hb e=>mv.heap b o (fun z=>?_) (k0 b o hb e)) hS' ha
 rcases List.mem_cons.mp z with z | z
 . exact hb z
 . have hlt:=Heap.lt_size e
   rw[List.mem_singleton.mp z] at hlt
   exact absurd (Nat.lt_of_lt_of_le hlt hI) (Nat.lt_irrefl _)
def Gath (el:Array (Int×Value))(acc:Array Value):Prop:=∃l:List (Int×Value),l.Perm el.toList/\acc.toList=l.map (·.2)
theorem gath_a {acc:Array Value}(h:ItemsOf (fun i v=>∃e,(ordA w a ep el)[i]? = some e/\v=e.2) acc el.size):Gath el acc:=by
 refine⟨ordA w a ep el,ordA_perm,?_⟩
 have hl:(ordA w a ep el).length=el.size:=by rw[ordA_perm.length_eq];simp
 apply List.ext_getElem?
 intro j
 by_cases hj:j<el.size
 . have hz:j<acc.size:=by rw[h.1];exact hj
   obtain⟨e,he,hv⟩:=h.2 j acc[j] (by simp[hz])
   rw[Array.getElem?_toList,Array.getElem?_eq_getElem hz,hv,List.getElem?_map,he]
   rfl
 . rw[List.getElem?_eq_none (by rw[Array.length_toList,h.1];omega),List.getElem?_eq_none (by rw[List.length_map];omega)]
theorem range_perm {α:Type}{l:List α}{ys:List Nat}(h:ys.Perm (List.range l.length)):(ys.filterMap fun i=>l[i]?).Perm l:=by
 refine (h.filterMap _).trans ?_
 rw[List.filterMap_getElem?_range_length]
theorem gath_b {ys:List Nat}{acc:Array Value}(hp:ys.Perm (List.range el.size))(h:ItemsOf (fun i v=>∃y e,ys[i]? = some y/\el[y]? = some e/\v=e.2) acc el.size):Gath el acc:=by
 have hl:ys.length=el.size:=by rw[hp.length_eq,List.length_range]
 refine⟨ys.map fun y=>el.toList.getD y (0,.none),?_,?_⟩
 . have e:(ys.map fun y=>el.toList.getD y (0,.none))=ys.filterMap fun i=>el.toList[i]?:=by
    rw[<-List.filterMap_eq_map]
    refine fm_eq fun y hy=>?_
    have hy':y<el.toList.length:=by have:=List.mem_range.mp (hp.mem_iff.mp hy);simpa using this
    simp only[Function.comp]
    rw[List.getD_eq_getElem?_getD,List.getElem?_eq_getElem hy']
    rfl
   rw[e]
   exact range_perm (by simpa using hp)
 . apply List.ext_getElem?
   intro j
   by_cases hj:j<el.size
   . have hz:j<acc.size:=by rw[h.1];exact hj
     obtain⟨y,e,h1,h2,hv⟩:=h.2 j acc[j] (by simp[hz])
     rw[Array.getElem?_toList,Array.getElem?_eq_getElem hz,hv,List.getElem?_map,List.getElem?_map,h1]
     show some e.2=some (el.toList.getD y (0,.none)).2
     rw[List.getD_eq_getElem?_getD,Array.getElem?_toList,h2]
     rfl
   . rw[List.getElem?_eq_none (by rw[Array.length_toList,h.1];omega),List.getElem?_eq_none (by rw[List.length_map,List.length_map];omega)]
where
 fm_eq {α β:Type}{f g:α->Option β}:∀{l:List α},(∀m∈l,f m=g m)->l.filterMap f=l.filterMap g
  | [],_=>rfl
  | x::r,h=>by
   rw[List.filterMap_cons,List.filterMap_cons,h x List.mem_cons_self,fm_eq fun m hm=>h m (List.mem_cons_of_mem _ hm)]
theorem set_extend {S:Addr}{res:Value}{c:Nat}{R:Result->Shared->Prop}(hh:A.handled=none)(hm:RawS s.heap a el ep tb)(hf:tb.fits el.size=true)(gt:GT (!w.params.followText "set-order") tb) (hz:el.size<=100000)(hSa:S≠a)
 (hS:s.heap.get? S=some { cls:=.type "list",data:=.seq #[] c })
 (q:∀(s':Shared)(acc:Array Value)(c':Nat),s'.gens=s.gens->s'.os=s.os->(∀b o,b≠S->s.heap.get? b=some o->s'.heap.get? b=some o)->s'.heap.get? S=some { cls:=.type "list",dict:=none,data:=.seq acc c',slots:=#[] }->Gath el acc->R (.ok (.ret res)) s') :
 wpAny (model prog w) A.in1 (Builtin.List.listExtendWith (.ref S) (.ref a) res)
  (fun fin s'=>match fin with | .done f=>R (.ok f) s' | .again c'=>c'.quiet=true/\codeAny (model prog w) A c' R s') (fun e s'=>R (.error e) s') s:=by
 have nS:el.size<=sizeLine:=by have:sizeLine=16777216:=rfl;omega
 unfold Builtin.List.listExtendWith
 refine wpAny_bind (wpAny_typeOf (T := "set") hm.typeIs ?_)
 have h1:Builtin.List.listSameRef (.ref S) (.ref a)=false:=by simp[Builtin.List.listSameRef,hSa]
 have h2:(Value.type "set" == Value.type "list")=false:=by decide
 have h3:(Value.type "set" == Value.type "tuple")=false:=by decide
 simp only[h1,h2,h3,Bool.or_false,Bool.false_eq_true,if_false]
 have nSI:∀I,s.heap.objs.size<=I->S≠I:=fun I h z=>absurd (Nat.lt_of_lt_of_le (Heap.lt_size hS) h) (by rw[z];exact Nat.lt_irrefl _)
 have naI:∀I,s.heap.objs.size<=I->a≠I:=fun I h z=>absurd (Nat.lt_of_lt_of_le hm.lt h) (by rw[z];exact Nat.lt_irrefl _)
 refine wpAny_bind (iter_wp hm hf (fun hc=>?_) (fun ys d' hp=>?_) hz)
 . have W:=walk_a (prog:=prog) (w:=w) (A:=A.in1) (I:=s.heap.objs.size) (ep:=ep) hh (naI _ (Nat.le_refl _)) hf hc gt
   have nf:S∉[s.heap.objs.size,a]:=by simp only[List.mem_cons,List.not_mem_nil,or_false,not_or];exact⟨nSI _ (Nat.le_refl _),hSa⟩
   have kp:∀b o,s.heap.get? b=some o->(s.heap.push (itObj (.int 0 0) el.size ep a)).get? b=some o:=fun b o e=>Heap.get?_push_of_some _ e
   have st0:∃slot:Nat,SI (s.heap.push (itObj (.int 0 0) el.size ep a)) s.heap.objs.size (.int slot 0) 0 el.size ep a/\RawS (s.heap.push (itObj (.int 0 0) el.size ep a)) a el ep tb/\(w.params.followText "set-order" = false->SetTable.below tb.place slot=0):=by
    refine⟨0,⟨_,Heap.get?_push_size _ rfl,rfl,rfl⟩,hm.keep fun o e=>kp _ o e,fun ht=>below_zero ?_⟩
    have ps:tb.place.size=el.size:=by
     simp only[SetTable.fits,Bool.and_eq_true,beq_iff_eq] at hf
     exact hf.1
    exact (hc.resolve_left (by rw[ht];simp)).elim gt.rs fun z=>ris_few (by omega)
   refine wpAny_bind (wpAny_holding (hint_set (RawS.typeIs (hm.keep fun o e=>kp _ o e)) ?_))
   refine wpAny_ite_split (fun _=>?_) (fun _=>?_)
   . refine wpAny_bind (wpAny_rule (wpAny_bind ?_))
     show wpAny _ _ (updateSeq S (·.push .none) >>= fun _=>updateSeq S (·.pop)) _ _ _
     refine wpAny_bind (wpAny_updateSeq (kp _ _ hS) rfl ?_)
     have hS2:=Heap.get?_update_self (Obj.mapSeq (·.push Value.none)) (kp _ _ hS) rfl
     refine wpAny_updateSeq (hz:=by seq_fits) hS2 rfl ?_
     have hS3:=Heap.get?_update_self (Obj.mapSeq (·.pop)) hS2 rfl
     have up:∀b o,b≠S->(s.heap.push (itObj (.int 0 0) el.size ep a)).get? b=some o->(((s.heap.push (itObj (.int 0 0) el.size ep a)).update S (Obj.mapSeq (·.push Value.none))).update S (Obj.mapSeq (·.pop))).get? b=some o:=fun b o hb e=>(Heap.get?_update_other _ _ (Ne.symm hb)).trans ((Heap.get?_update_other _ _ (Ne.symm hb)).trans e)
     refine wpAny_pure ⟨plainId_quiet PySem.F.plain_extend_loop _,gather W nf nS (Nat.le_refl _) (fun b o hb e=>up b o hb (kp b o e)) (W.frame 0 _ _ st0 fun b hb o e=>up b o (fun z=>nf (z ▸ hb)) e) hS3 fun s' acc c' e1 _ e3 k hS' ha=>q s' acc c' e1 e3 k hS' (gath_a ha)⟩
   . exact wpAny_pure ⟨plainId_quiet PySem.F.plain_extend_loop _,gather W nf nS (Nat.le_refl _) (fun b o _ e=>kp b o e) st0 (kp _ _ hS) fun s' acc c' e1 _ e3 k hS' ha=>q s' acc c' e1 e3 k hS' (gath_a ha)⟩
 . have hT:(s.heap.push { cls:=.type "tuple",data:=.seq (ys.map fun (i:Nat)=>rawInt i).toArray }).objs.size=s.heap.objs.size+1:=Heap.size_push ..
   have hI:s.heap.objs.size<=(s.heap.push { cls:=.type "tuple",data:=.seq (ys.map fun (i:Nat)=>rawInt i).toArray }).objs.size:=by rw[hT];exact Nat.le_succ _
   have ntI:s.heap.objs.size≠(s.heap.push { cls:=.type "tuple",data:=.seq (ys.map fun (i:Nat)=>rawInt i).toArray }).objs.size:=by rw[hT];exact Nat.ne_of_lt (Nat.lt_succ_self _)
   have W:=walk_b (prog:=prog) (w:=w) (A:=A.in1) (I:=(s.heap.push { cls:=.type "tuple",data:=.seq (ys.map fun (i:Nat)=>rawInt i).toArray }).objs.size) (tp:=s.heap.objs.size) (tb:=tb) (ep:=ep) hh (naI _ hI) ntI hf hp
   have nf:S∉[(s.heap.push { cls:=.type "tuple",data:=.seq (ys.map fun (i:Nat)=>rawInt i).toArray }).objs.size,a,s.heap.objs.size]:=by
    simp only[List.mem_cons,List.not_mem_nil,or_false,not_or]
    exact⟨nSI _ hI,hSa,nSI _ (Nat.le_refl _)⟩
   have kp:∀b o,s.heap.get? b=some o->((s.heap.push { cls:=.type "tuple",data:=.seq (ys.map fun (i:Nat)=>rawInt i).toArray }).push (itObj (.ref s.heap.objs.size) el.size ep a)).get? b=some o:=fun b o e=>Heap.get?_push_of_some _ (Heap.get?_push_of_some _ e)
   have st0:SI ((s.heap.push { cls:=.type "tuple",data:=.seq (ys.map fun (i:Nat)=>rawInt i).toArray }).push (itObj (.ref s.heap.objs.size) el.size ep a)) (s.heap.push { cls:=.type "tuple",data:=.seq (ys.map fun (i:Nat)=>rawInt i).toArray }).objs.size (.ref s.heap.objs.size) 0 el.size ep a/\RawS ((s.heap.push { cls:=.type "tuple",data:=.seq (ys.map fun (i:Nat)=>rawInt i).toArray }).push (itObj (.ref s.heap.objs.size) el.size ep a)) a el ep tb/\TupOf ((s.heap.push { cls:=.type "tuple",data:=.seq (ys.map fun (i:Nat)=>rawInt i).toArray }).push (itObj (.ref s.heap.objs.size) el.size ep a)) s.heap.objs.size ys:=
    ⟨⟨_,Heap.get?_push_size _ rfl,rfl,rfl⟩,hm.keep fun o e=>kp _ o e,⟨_,_,Heap.get?_push_of_some _ (Heap.get?_push_size _ rfl),rfl⟩⟩
   generalize (s.heap.push { cls:=.type "tuple",data:=.seq (ys.map fun (i:Nat)=>rawInt i).toArray }).objs.size=I0 at hT hI ntI W nf st0 kp ⊢
   generalize (s.heap.push { cls:=.type "tuple",data:=.seq (ys.map fun (i:Nat)=>rawInt i).toArray }).push (itObj (.ref s.heap.objs.size) el.size ep a)=h0 at st0 kp ⊢
   refine wpAny_bind (wpAny_holding (hint_set (RawS.typeIs (hm.keep fun o e=>kp _ o e)) ?_))
   refine wpAny_ite_split (fun _=>?_) (fun _=>?_)
   . refine wpAny_bind (wpAny_rule (wpAny_bind ?_))
     show wpAny _ _ (updateSeq S (·.push .none) >>= fun _=>updateSeq S (·.pop)) _ _ _
     refine wpAny_bind (wpAny_updateSeq (kp _ _ hS) rfl ?_)
     have hS2:=Heap.get?_update_self (Obj.mapSeq (·.push Value.none)) (kp _ _ hS) rfl
     refine wpAny_updateSeq (hz:=by seq_fits) hS2 rfl ?_
     have hS3:=Heap.get?_update_self (Obj.mapSeq (·.pop)) hS2 rfl
     have up:∀b o,b≠S->h0.get? b=some o->((h0.update S (Obj.mapSeq (·.push Value.none))).update S (Obj.mapSeq (·.pop))).get? b=some o:=fun b o hb e=>(Heap.get?_update_other _ _ (Ne.symm hb)).trans ((Heap.get?_update_other _ _ (Ne.symm hb)).trans e)
     refine wpAny_pure ⟨plainId_quiet PySem.F.plain_extend_loop _,gather (s0:=s) W nf nS hI (fun b o hb e=>up b o hb (kp b o e)) (W.frame 0 _ _ st0 fun b hb o e=>up b o (fun z=>nf (z ▸ hb)) e) hS3 fun s' acc c' e1 _ e3 k hS' ha=>q s' acc c' e1 e3 k hS' (gath_b hp ha)⟩
   . exact wpAny_pure ⟨plainId_quiet PySem.F.plain_extend_loop _,gather (s0:=s) W nf nS hI (fun b o _ e=>kp b o e) st0 (kp _ _ hS) fun s' acc c' e1 _ e3 k hS' ha=>q s' acc c' e1 e3 k hS' (gath_b hp ha)⟩
theorem set_collect {R:List Value->Shared->Prop}(hh:A.handled=none)(hm:RawS s.heap a el ep tb)(hf:tb.fits el.size=true)(gt:GT (!w.params.followText "set-order") tb) (hz:el.size<=100000)
 (q:∀(s':Shared)(acc:Array Value),s'.gens=s.gens->s'.os=s.os->(∀b o,s.heap.get? b=some o->s'.heap.get? b=some o)->Gath el acc->R acc.toList s'):wpAny (model prog w) A (collect (.ref a)) R E s:=by
 unfold collect
 refine wpAny_bind (wpAny_runValue (codeAny_builtin entry_proto_collect' ?_))
 rw[Around.under_plainId PySem.F.plain_proto_collect _]
 refine wpAny_bind (m:=newList []) (wpAny_newObj_type ?_)
 refine wpAny_pure ⟨plainId_quiet PySem.F.plain_list_iadd _,codeAny_builtin entry_list_iadd' ?_⟩
 rw[Around.under_plainId PySem.F.plain_list_iadd _]
 have hS:(s.heap.push { cls:=.type "list",data:=.seq ([]:List Value).toArray }).get? s.heap.objs.size=some { cls:=.type "list",data:=.seq #[] }:=Heap.get?_push_size _ rfl
 show wpAny _ A.in1 (Builtin.List.listExtendWith (.ref s.heap.objs.size) (.ref a) (.ref s.heap.objs.size)) _ _ _
 have key:=set_extend (prog:=prog) (w:=w) (A:=A) (s:={ s with heap:=s.heap.push { cls:=.type "list",data:=.seq ([]:List Value).toArray } }) (res:=.ref s.heap.objs.size)
  (R:=fun (u:Result)(s':Shared)=>∃(acc:Array Value)(c':Nat),u = .ok (.ret (.ref s.heap.objs.size))/\s'.gens=s.gens/\s'.os=s.os/\(∀b o,s.heap.get? b=some o->s'.heap.get? b=some o)/\s'.heap.get? s.heap.objs.size=some { cls:=.type "list",dict:=none,data:=.seq acc c',slots:=#[] }/\Gath el acc)
  hh (hm.keep fun o e=>Heap.get?_push_of_some _ e) hf gt hz (Nat.ne_of_gt hm.lt) hS (fun s' acc c' e1 e2 k hS' g=>⟨acc,c',rfl,e1,e2,fun b o e=>k b o (Nat.ne_of_lt (Heap.lt_size e)) (Heap.get?_push_of_some _ e),hS',g⟩)
 refine wpAny_mono key (fun fin s' x=>?_) fun e s' x=>?_
 . cases fin with
   | done f=>
    obtain⟨acc,c',e,e1,e2,k,hS',g⟩:=x
    cases e
    exact wpAny_bind (wpAny_load hS' (wpAny_pure (q s' acc e1 e2 k g)))
   | again c1=>
    refine⟨x.1,codeAny_mono x.2 fun u s2 y=>?_⟩
    obtain⟨acc,c',rfl,e1,e2,k,hS',g⟩:=y
    exact wpAny_bind (wpAny_load hS' (wpAny_pure (q s2 acc e1 e2 k g)))
 . obtain⟨_,_,e',_⟩:=x
   cases e'
end
end STb
namespace STb
open PySem PySem.Spec PyProof.Rows L2
section
variable {prog:Program}{w:World}{A:Around}{E:Value->Shared->Prop}{s:Shared}
theorem loop_g {I S:Addr}{fp:List Addr}{n:Nat}{P:Nat->Value->Prop}{St:Nat->Heap->Prop}{led:Bool}{R:Result->Shared->Prop}(W:Walks prog w A.in1 I fp [I] n P St)(hSf:S∉fp)(hSI:S≠I)(val:Nat->Int)(hv:∀i v,P i v->∃t,v = .int (val i) t)(hb:n+1<scanBound) :
 ∀(k i:Nat)(s:Shared),n-i=k->i<=n->St i s.heap->SetG prog w led s.heap S (fun z=>(firstMet val i).any fun x=>x==z) (firstMet val i).length ->
  (∀s':Shared,s'.gens=s.gens->s'.drawn=s.drawn->s'.os=s.os->(∀b o,b≠S->b≠I->s.heap.get? b=some o->s'.heap.get? b=some o)->SetG prog w led s'.heap S (fun z=>(firstMet val n).any fun x=>x==z) (firstMet val n).length->R (.ok (.ret .none)) s') ->
  codeAny (model prog w) A (.builtin "set.update.loop" ⟨[.ref S,.ref I],[]⟩) R s:=by
 intro k
 induction k with
 | zero=>
  intro i s hk hi st G q
  obtain rfl:i=n:=by omega
  refine codeAny_builtin PyProof.Rows.F.entry_set_update_loop ?_
  rw[Around.under_plainId PyProof.Rows.F.plain_set_update_loop _]
  refine wpAny_bind (m:=pyNext (.ref I)) (W.done s _ _ st fun h' tk kp=>?_)
  refine wpAny_pure (q _ rfl rfl rfl (fun b o _ hbI e=>kp b o (fun z=>hbI (by simpa using z)) e) (G.keep fun o e=>kp S o (fun z=>hSI (by simpa using z)) e))
 | succ k ih=>
  intro i s hk hi st G q
  have hlt:i<n:=by omega
  refine codeAny_builtin PyProof.Rows.F.entry_set_update_loop ?_
  rw[Around.under_plainId PyProof.Rows.F.plain_set_update_loop _]
  refine wpAny_bind (m:=pyNext (.ref I)) (W.item i s _ _ hlt st fun v h' tk hP st' kp=>?_)
  obtain⟨t,rfl⟩:=hv i v hP
  have G':SetG prog w led h' S (fun z=>(firstMet val i).any fun x=>x==z) (firstMet val i).length:=G.keep fun o e=>kp S o (fun z=>hSI (by simpa using z)) e
  refine wpAny_bind (m:=holding [Value.int (val i) t] (setAdd S (.int (val i) t))) (wpAny_holding ?_)
  unfold setAdd
  refine wpAny_holding (wpAny_bind ((intKind prog w).pyHash (k:=val i) (intKind_is _ _ _ _) ?_))
  refine add_g (s:={ s with heap:=h',toks:=tk+1 }) G' (by have:=firstMet_length_le val i;omega) fun h2 sb G2=>?_
  have Gi:SetG prog w led h2 S (fun z=>(firstMet val (i+1)).any fun x=>x==z) (firstMet val (i+1)).length:=G2.congr (fun z=>by rw[firstMet_succ,step_any]) (by rw[firstMet_succ,step_length])
  refine wpAny_pure ⟨plainId_quiet PyProof.Rows.F.plain_set_update_loop _,ih (i+1) _ (by omega) hlt (W.frame _ _ _ st' fun b hb o e=>(sb.2 b fun z=>hSf (z ▸ hb)).trans e) Gi fun s'' e1 e2 e3 kp2 G3=>?_⟩
  exact q s'' e1 e2 e3 (fun b o hbS hbI e=>kp2 b o hbS hbI ((sb.2 b hbS).trans (kp b o (fun z=>hbI (by simpa using z)) e))) G3
def setObj (w:World):Obj:={ cls:=.type "set",dict:=none,data:=.set #[] 0 (.fresh 0 0 (!w.params.followText "set-order")) }
theorem set_first (h:Heap):SetG prog w (!w.params.followText "set-order") (h.push (setObj w)) h.objs.size (fun _=>false) 0:=
 ⟨_,#[],0,_,Heap.get?_push_size _ rfl,⟨rfl,rfl,rfl⟩,rfl,⟨fun e he=>by simp at he,fun k=>by simp,by decide,by rfl,rfl,gt_fresh _⟩⟩
theorem new_g (a:Value){Q₁:Value->Shared->Prop}(h:Q₁ (.ref s.heap.objs.size) { s with heap:=s.heap.push (setObj w) }):codeAny (model prog w) A (.call (.builtin "set.__new__") ⟨[.type "set",a],[]⟩) (wants Q₁ E) s:=by
 refine codeAny_of_tree (wpAny_bind (m:=checkBuiltinCall "set.__new__" ⟨[.type "set",a],[]⟩) (wpAny_of_eq (PySem.F.newCall_set_1 a) (wpAny_pure ⟨plainId_quiet PySem.F.plain_set_new _,codeAny_builtin PySem.F.entry_set_new ?_⟩)))
 rw[Around.under_plainId PySem.F.plain_set_new _]
 unfold Builtin.«set.__new__» Builtin.Frozenset.newClass
 have sub:=sub_set_self
 obtain⟨hp,g,d,tk,os⟩:=s
 dsimp only
 wp_walk
 refine wpAny_askSetting (wpAny_pure ?_)
 dsimp only
 simp only[newObj]
 exact wpAny_bind (wpAny_alloc (wpAny_pure (wpAny_pure h)))
theorem mk_list {l:Addr}{its:List Value}{ns:List Int}{Q:Value->Shared->Prop}(hA:A.handled=none)(hl:s.heap.IsList l its.toArray)(hi:IntsAre its ns)(hz:its.length+1<scanBound)
 (q:∀(h:Heap)(tk:Nat),(∀b o,s.heap.get? b=some o->h.get? b=some o)->SetG prog w (!w.params.followText "set-order") h s.heap.objs.size (fun z=>(firstMet (fun i=>ns.getD i 0) its.length).any fun x=>x==z) (firstMet (fun i=>ns.getD i 0) its.length).length->Q (.ref s.heap.objs.size) { s with heap:=h,toks:=tk }) :
 wpAny (model prog w) A (call (.type "set") [.ref l]) Q E s:=by
 refine wpAny_call (codeAny_of_tree (wpAny_pure ⟨Code.quiet_builtin _ (by decide +kernel),codeAny_builtin PySem.F.entry_type_call ?_⟩))
 unfold Builtin.«type.__call__»
 dsimp only
 rw[if_neg (by rw[PySem.F.called_set.notType];decide)]
 rw[if_neg (by rw[PySem.F.called_set.canCreate];decide)]
 obtain⟨c,tl,hm⟩:=PySem.F.called_set.mro
 refine wpAny_bind (wpAny_of_eq (PySem.F.typeCall_set_1 _) (wpAny_pure (wpAny_bind (wpAny_of_eq hm (wpAny_pure ?_)))))
 refine wpAny_bind (wpAny_of_eq PySem.F.called_set.made (wpAny_pure (wpAny_bind (wpAny_pure ?_))))
 refine wpAny_bind (wpAny_holding (wpAny_call (codeAny_mono (new_g (E:=E) (.ref l) (Q₁:=fun obj s₁=>obj = .ref s.heap.objs.size/\s₁={ s with heap:=s.heap.push (setObj w) }) ⟨rfl,rfl⟩) fun r s₁ e=>?_)))
 match r,e with
 | .ok (.ret obj),e=>
  obtain⟨rfl,rfl⟩:=e
  have h0:∀b o,s.heap.get? b=some o->(s.heap.push (setObj w)).get? b=some o:=fun b o e=>Heap.get?_push_of_some _ e
  have ht:∀h:Heap,(∀b o,s.heap.get? b=some o->h.get? b=some o)->h.IsList l its.toArray:=fun h K=>by
   obtain⟨o,ho,hr⟩:=hl
   exact⟨o,K _ _ ho,hr⟩
  have hlt:l<s.heap.objs.size:=by
   obtain⟨o,ho,_⟩:=hl
   exact Heap.lt_size ho
  have tyS:Shared.TypeIs { s with heap:=s.heap.push (setObj w) } (.ref s.heap.objs.size) "set" := ⟨_,Heap.get?_push_size _ rfl,rfl⟩
  show wpAny _ _ _ _ _ _
  refine wpAny_bind (wpAny_isInstance tyS PySem.F.called_set.sub ?_)
  refine wpAny_bind (wpAny_holding ?_)
  unfold callSpecial?
  refine wpAny_bind (wpAny_specialOf tyS PySem.F.called_set.init.lookup (wpAny_holding (wpAny_bind (wpAny_of_eq (PySem.F.called_set.init.bind _) (wpAny_pure (wpAny_bind (wpAny_call (codeAny_call_builtin PySem.F.called_set.init.plain PySem.F.entry_set_init (check_set_init_1 tyS ?_)))))))))
  unfold Builtin.«set.__init__»
  refine wpAny_bind (wpAny_of_eq (m':=pure ()) rfl (wpAny_pure ?_))
  dsimp only
  refine wpAny_bind (wpAny_bind (wpAny_bind (wpAny_typeOf tyS (wpAny_of_eq (m':=pure (Value.type "set")) rfl (wpAny_pure (wpAny_of_eq (m':=pure "set") rfl (wpAny_pure ?_)))))))
  refine wpAny_bind (wpAny_of_eq (m':=pure ()) rfl (wpAny_pure (wpAny_bind (wpAny_pure ?_))))
  refine wpAny_bind (wpAny_bind (wpAny_bind (wpAny_load (Heap.get?_push_size _ rfl) ?_)))
  refine wpAny_of_eq (m':=pure (#[],0,SetTable.fresh 0 0 (!w.params.followText "set-order"))) (by unfold setObj;cases w.params.followText "set-order" <;> rfl) (wpAny_pure (wpAny_of_eq (m':=pure false) (by cases w.params.followText "set-order" <;> rfl) (wpAny_pure ?_)))
  have tyT:∀h tk,(∀b o,s.heap.get? b=some o->h.get? b=some o)->Shared.TypeIs { s with heap:=h,toks:=tk } (.ref l) "list" := fun h tk K=>by
   obtain⟨o,ho,hr⟩:=ht h K
   exact⟨o,ho,hr.1⟩
  show wpAny _ _ (Builtin.Frozenset.updateFrom "set.__init__" s.heap.objs.size (.ref l) >>= _) _ _ _
  unfold Builtin.Frozenset.updateFrom
  refine wpAny_bind (wpAny_bind (wpAny_bind (wpAny_isInstance (tyT _ _ h0) PySem.F.sub_list_set (wpAny_isInstance (tyT _ _ h0) (b:=false) PySem.F.sub_list_frozenset ?_))))
  refine wpAny_bind (wpAny_typeOf (tyT _ _ h0) ?_)
  refine wpAny_bind (wpAny_pyIter_list (ht _ h0) (wpAny_bind (wpAny_runValue ?_)))
  have hsz:(s.heap.push (setObj w)).objs.size=s.heap.objs.size+1:=Heap.size_push ..
  have nli:l≠(s.heap.push (setObj w)).objs.size:=Nat.ne_of_lt (by rw[hsz];exact Nat.lt_succ_of_lt hlt)
  have nsi:s.heap.objs.size≠(s.heap.push (setObj w)).objs.size:=by rw[hsz];exact Nat.ne_of_lt (Nat.lt_succ_self _)
  refine loop_g (led:=!w.params.followText "set-order") (Walks.list (prog:=prog) (w:=w) (A:=(A.under (Code.builtin "type.__call__" { pos:=[.type "set",.ref l] })).in1.in1) hA (s.heap.push (setObj w)).objs.size l nli its.toArray) ?_ nsi (fun i=>ns.getD i 0) ?_ (by simpa using hz) its.toArray.size 0 _ rfl (Nat.zero_le _) ?_ ?_ ?_
  . intro z
    rcases List.mem_cons.mp z with z | z
    . exact nsi z
    . exact absurd (List.mem_singleton.mp z) (Nat.ne_of_gt hlt)
  . intro i v hv
    rw[List.getElem?_toArray] at hv
    exact hi.int_at i v hv
  . exact⟨⟨_,Heap.get?_push_size _ rfl,rfl,rfl⟩,ht _ fun b o e=>Heap.get?_push_of_some _ (h0 b o e)⟩
  . exact (set_first (prog:=prog) (w:=w) s.heap).keep fun o e=>Heap.get?_push_of_some _ e
  . intro s' e1 e2 e3 kp so
    refine wpAny_pure (wpAny_pure (wpAny_pure (wpAny_pure ?_)))
    obtain⟨h',g',d',t',o'⟩:=s'
    cases e1
    cases e2
    cases e3
    refine q h' t' (fun b o e=>kp b o (Nat.ne_of_lt (Heap.lt_size e)) (fun z=>?_) (Heap.get?_push_of_some _ (h0 b o e))) (by simpa using so)
    have hb:b<s.heap.objs.size:=Heap.lt_size e
    rw[z,hsz] at hb
    exact absurd hb (Nat.not_lt.mpr (Nat.le_succ _))
 | .ok .next,e=>exact e.elim
 | .ok .brk,e=>exact e.elim
 | .ok .cont,e=>exact e.elim
 | .error v,e=>exact e
theorem mk_tup {l:Addr}{its:List Value}{ns:List Int}{Q:Value->Shared->Prop}(hA:A.handled=none)(hl:s.heap.IsTuple l its.toArray)(hi:IntsAre its ns)(hz:its.length+1<scanBound)
 (q:∀(h:Heap)(tk:Nat),(∀b o,s.heap.get? b=some o->h.get? b=some o)->SetG prog w (!w.params.followText "set-order") h s.heap.objs.size (fun z=>(firstMet (fun i=>ns.getD i 0) its.length).any fun x=>x==z) (firstMet (fun i=>ns.getD i 0) its.length).length->Q (.ref s.heap.objs.size) { s with heap:=h,toks:=tk }) :
 wpAny (model prog w) A (call (.type "set") [.ref l]) Q E s:=by
 refine wpAny_call (codeAny_of_tree (wpAny_pure ⟨Code.quiet_builtin _ (by decide +kernel),codeAny_builtin PySem.F.entry_type_call ?_⟩))
 unfold Builtin.«type.__call__»
 dsimp only
 rw[if_neg (by rw[PySem.F.called_set.notType];decide)]
 rw[if_neg (by rw[PySem.F.called_set.canCreate];decide)]
 obtain⟨c,tl,hm⟩:=PySem.F.called_set.mro
 refine wpAny_bind (wpAny_of_eq (PySem.F.typeCall_set_1 _) (wpAny_pure (wpAny_bind (wpAny_of_eq hm (wpAny_pure ?_)))))
 refine wpAny_bind (wpAny_of_eq PySem.F.called_set.made (wpAny_pure (wpAny_bind (wpAny_pure ?_))))
 refine wpAny_bind (wpAny_holding (wpAny_call (codeAny_mono (new_g (E:=E) (.ref l) (Q₁:=fun obj s₁=>obj = .ref s.heap.objs.size/\s₁={ s with heap:=s.heap.push (setObj w) }) ⟨rfl,rfl⟩) fun r s₁ e=>?_)))
 match r,e with
 | .ok (.ret obj),e=>
  obtain⟨rfl,rfl⟩:=e
  have h0:∀b o,s.heap.get? b=some o->(s.heap.push (setObj w)).get? b=some o:=fun b o e=>Heap.get?_push_of_some _ e
  have ht:∀h:Heap,(∀b o,s.heap.get? b=some o->h.get? b=some o)->h.IsTuple l its.toArray:=fun h K=>by
   obtain⟨o,ho,hr⟩:=hl
   exact⟨o,K _ _ ho,hr⟩
  have hlt:l<s.heap.objs.size:=by
   obtain⟨o,ho,_⟩:=hl
   exact Heap.lt_size ho
  have tyS:Shared.TypeIs { s with heap:=s.heap.push (setObj w) } (.ref s.heap.objs.size) "set" := ⟨_,Heap.get?_push_size _ rfl,rfl⟩
  show wpAny _ _ _ _ _ _
  refine wpAny_bind (wpAny_isInstance tyS PySem.F.called_set.sub ?_)
  refine wpAny_bind (wpAny_holding ?_)
  unfold callSpecial?
  refine wpAny_bind (wpAny_specialOf tyS PySem.F.called_set.init.lookup (wpAny_holding (wpAny_bind (wpAny_of_eq (PySem.F.called_set.init.bind _) (wpAny_pure (wpAny_bind (wpAny_call (codeAny_call_builtin PySem.F.called_set.init.plain PySem.F.entry_set_init (check_set_init_1 tyS ?_)))))))))
  unfold Builtin.«set.__init__»
  refine wpAny_bind (wpAny_of_eq (m':=pure ()) rfl (wpAny_pure ?_))
  dsimp only
  refine wpAny_bind (wpAny_bind (wpAny_bind (wpAny_typeOf tyS (wpAny_of_eq (m':=pure (Value.type "set")) rfl (wpAny_pure (wpAny_of_eq (m':=pure "set") rfl (wpAny_pure ?_)))))))
  refine wpAny_bind (wpAny_of_eq (m':=pure ()) rfl (wpAny_pure (wpAny_bind (wpAny_pure ?_))))
  refine wpAny_bind (wpAny_bind (wpAny_bind (wpAny_load (Heap.get?_push_size _ rfl) ?_)))
  refine wpAny_of_eq (m':=pure (#[],0,SetTable.fresh 0 0 (!w.params.followText "set-order"))) (by unfold setObj;cases w.params.followText "set-order" <;> rfl) (wpAny_pure (wpAny_of_eq (m':=pure false) (by cases w.params.followText "set-order" <;> rfl) (wpAny_pure ?_)))
  have tyT:∀h tk,(∀b o,s.heap.get? b=some o->h.get? b=some o)->Shared.TypeIs { s with heap:=h,toks:=tk } (.ref l) "tuple" := fun h tk K=>by
   obtain⟨o,ho,hr⟩:=ht h K
   exact⟨o,ho,hr.1⟩
  show wpAny _ _ (Builtin.Frozenset.updateFrom "set.__init__" s.heap.objs.size (.ref l) >>= _) _ _ _
  unfold Builtin.Frozenset.updateFrom
  refine wpAny_bind (wpAny_bind (wpAny_bind (wpAny_isInstance (tyT _ _ h0) PySem.F.sub_tuple_set (wpAny_isInstance (tyT _ _ h0) (b:=false) rfl ?_))))
  refine wpAny_bind (wpAny_typeOf (tyT _ _ h0) ?_)
  refine wpAny_bind (wpAny_pyIter_tuple (ht _ h0) (wpAny_bind (wpAny_runValue ?_)))
  have hsz:(s.heap.push (setObj w)).objs.size=s.heap.objs.size+1:=Heap.size_push ..
  have nli:l≠(s.heap.push (setObj w)).objs.size:=Nat.ne_of_lt (by rw[hsz];exact Nat.lt_succ_of_lt hlt)
  have nsi:s.heap.objs.size≠(s.heap.push (setObj w)).objs.size:=by rw[hsz];exact Nat.ne_of_lt (Nat.lt_succ_self _)
  refine loop_g (led:=!w.params.followText "set-order") (Walks.tuple (prog:=prog) (w:=w) (A:=(A.under (Code.builtin "type.__call__" { pos:=[.type "set",.ref l] })).in1.in1) hA (s.heap.push (setObj w)).objs.size l nli its.toArray) ?_ nsi (fun i=>ns.getD i 0) ?_ (by simpa using hz) its.toArray.size 0 _ rfl (Nat.zero_le _) ?_ ?_ ?_
  . intro z
    rcases List.mem_cons.mp z with z | z
    . exact nsi z
    . exact absurd (List.mem_singleton.mp z) (Nat.ne_of_gt hlt)
  . intro i v hv
    rw[List.getElem?_toArray] at hv
    exact hi.int_at i v hv
  . exact⟨⟨_,Heap.get?_push_size _ rfl,rfl,rfl⟩,ht _ fun b o e=>Heap.get?_push_of_some _ (h0 b o e)⟩
  . exact (set_first (prog:=prog) (w:=w) s.heap).keep fun o e=>Heap.get?_push_of_some _ e
  . intro s' e1 e2 e3 kp so
    refine wpAny_pure (wpAny_pure (wpAny_pure (wpAny_pure ?_)))
    obtain⟨h',g',d',t',o'⟩:=s'
    cases e1
    cases e2
    cases e3
    refine q h' t' (fun b o e=>kp b o (Nat.ne_of_lt (Heap.lt_size e)) (fun z=>?_) (Heap.get?_push_of_some _ (h0 b o e))) (by simpa using so)
    have hb:b<s.heap.objs.size:=Heap.lt_size e
    rw[z,hsz] at hb
    exact absurd hb (Nat.not_lt.mpr (Nat.le_succ _))
 | .ok .next,e=>exact e.elim
 | .ok .brk,e=>exact e.elim
 | .ok .cont,e=>exact e.elim
 | .error v,e=>exact e
end
end STb
namespace L2
open PySem PySem.Spec PyProof.Rows STb
theorem fm_nodup (val:Nat->Int):∀i,(firstMet val i).Nodup
 | 0=>List.nodup_nil
 | i+1=>by
  have ih:=fm_nodup val i
  rw[firstMet_succ]
  unfold step_dedup
  split
  . exact ih
  . rename_i h
    refine List.nodup_append.mpr ⟨ih,by simp,fun a ha b hb e=>h ?_⟩
    rw[List.mem_singleton.mp hb] at e
    subst e
    exact List.any_eq_true.mpr ⟨_,ha,by simp⟩
theorem perm_cover:∀{l2 l1:List Int},l2.Nodup->(∀x∈l2,x∈l1)->l1.length<=l2.length->l1.Perm l2
 | [],l1,_,_,h=>by
  have:l1=[]:=List.length_eq_zero_iff.mp (by simpa using h)
  subst this
  exact List.Perm.refl _
 | x::r,l1,nd,hs,h=>by
  have hx:x∈l1:=hs x List.mem_cons_self
  have nx:x∉r:=(List.nodup_cons.mp nd).1
  refine (List.perm_cons_erase hx).trans ((perm_cover (List.nodup_cons.mp nd).2 (fun y hy=>?_) ?_).cons x)
  . exact (List.mem_erase_of_ne (a:=y) (b:=x) (fun z=>nx (by rw[<-z];exact hy))).mpr (hs y (List.mem_cons_of_mem _ hy))
  . rw[List.length_erase_of_mem hx]
    simp only[List.length_cons] at h
    omega
theorem ints_of_el {prog:Program}{w:World}:∀{l:List (Int×Value)},ElemsOf (intKind prog w) l->∃ns:List Int,IntsAre (l.map (·.2)) ns/\∀z,z∈ns↔∃e∈l,(intKind prog w).is z e.2=true
 | [],_=>⟨[],.nil,fun z=>by simp⟩
 | e::r,h=>by
  obtain⟨ns,h1,h2⟩:=ints_of_el (l:=r) h.tail
  obtain⟨⟨k,hk,_⟩,_⟩:=h.head
  obtain⟨t,et⟩:=Value.isInt_shape hk
  refine⟨k::ns,?_,fun z=>?_⟩
  . rw[List.map_cons,et]
    exact .cons k t h1
  . rw[List.mem_cons,h2]
    constructor
    . rintro (rfl | ⟨e',he',hz⟩)
      . exact⟨e,List.mem_cons_self,hk⟩
      . exact⟨e',List.mem_cons_of_mem _ he',hz⟩
    . rintro ⟨e',he',hz⟩
      rcases List.mem_cons.mp he' with rfl | he'
      . exact .inl ((intKind prog w).inj _ _ _ hz hk)
      . exact .inr ⟨e',he',hz⟩
theorem fm_mem (ns:List Int)(z:Int):((firstMet (fun i=>ns.getD i 0) ns.length).any fun x=>x==z)=true↔z∈ns:=by
 rw[firstMet_any]
 have e:(List.range ns.length).map (fun i=>ns.getD i 0)=ns:=by
  apply List.ext_getElem
  . simp
  . intro i h1 h2
    simp[h2]
 rw[e,List.any_eq_true]
 exact⟨fun ⟨x,hx,h⟩=>by rw[<-eq_of_beq h];exact hx,fun h=>⟨z,h,by simp⟩⟩
theorem strict_of {ms:List Int}(h1:ms.Pairwise (· <= ·))(h2:ms.Nodup):ms.Pairwise (· < ·):=by
 rw[List.pairwise_iff_getElem] at h1 ⊢
 intro i j hi hj hij
 have a:=h1 i j hi hj hij
 have b:ms[i]≠ms[j]:=fun z=>by have:=(List.getElem_inj h2).mp z;omega
 omega
section
open PySem.W PySem.Calls SortT
variable {prog:Program}{w:World}{A:Around}{E:Value->Shared->Prop}{s:Shared}
theorem sorted_setG {a:Addr}{S:Int->Bool}{n:Nat}{Q:Value->Shared->Prop}(hh:A.handled=none)(G:SetG prog w (!w.params.followText "set-order") s.heap a S n) (h64:n<64)
 (q:∀(s1:Shared)(h':Heap)(D:Addr)(ms:List Int)(us:List Value)(c:Nat),s1.gens=s.gens->s1.os=s.os->(∀b o,s.heap.get? b=some o->s1.heap.get? b=some o)->(∀b o,s1.heap.get? b=some o->h'.get? b=some o)->s1.heap.objs.size<=D->h'.get? D=some (seqObj "list" us.toArray c)->Vals (ms.map V.int) us->ms.Pairwise (· <= ·)->(∀z,z∈ms↔S z=true)->ms.length=n->Q (.ref D) { s1 with heap:=h' }) :
 wpAny (model prog w) A (call (.builtin "sorted") [.ref a]) Q E s:=by
 obtain⟨ob,el,ep,tb,g1,g2,g3,B⟩:=G
 refine Calls.call_function_entry kind_sorted plain_sorted entry_sorted (args_sorted1 _) ?_
 unfold Builtin.«sorted»
 refine wpAny_bind (m:=checkCount "sorted" 1 1 _) (wpAny_pure ?_)
 refine wpAny_bind (set_collect (A:=A.in1) hh ⟨ob,g1,g2,g3⟩ B.fit B.gt (by have:=B.siz;omega) fun s1 acc e1 e2 k1 hg=>?_)
 obtain⟨l,lp,la⟩:=hg
 obtain⟨ns,hI,hm⟩:=ints_of_el (B.elm.perm lp)
 have hl:l.length=n:=by rw[lp.length_eq,Array.length_toList,B.siz]
 have hvl:acc.toList.length=n:=by rw[la,List.length_map,hl]
 rw[<-la] at hI
 generalize acc.toList=vs at hI hvl
 refine wpAny_bind (wpAny_newList ?_ (by rw[sizeLine_eq];omega))
 have hoL:(s1.heap.push (seqObj "list" vs.toArray 0)).get? s1.heap.objs.size=some (seqObj "list" vs.toArray 0):=Heap.get?_push_size _ rfl
 have kp1:∀b o,s1.heap.get? b=some o->(s1.heap.push (seqObj "list" vs.toArray 0)).get? b=some o:=fun b o z=>Heap.get?_push_of_some _ z
 refine wpAny_bind (wpAny_holding (wpAny_call_entry slot_list_sort ⟨_,hoL,rfl⟩ entry_list_sort (SortT.list_sort (O:=intO) (key:=fun i=>ns.getD i 0) (κ:=oneType') hoL (by omega) (fun h2=>asks_ints hI h2) fun out hp=>⟨_,rfl,?_⟩) (args_list_sort _)))
 refine wpAny_pure ⟨_,rfl,?_⟩
 obtain⟨c,hc⟩:=sortedHeap_at (vs:=vs) (out:=(out.map fun i=>vs.getD i Value.none).toArray) hoL
 obtain⟨ms,pm,pr,rz,pl⟩:=put_ints hI hp
 refine q s1 _ _ ms _ c e1 e2 k1 (fun b o z=>?_) (Nat.le_refl _) hc rz pr (fun z=>?_) (by rw[pl,<-hI.length,hvl])
 . have hb:b<s1.heap.objs.size:=Heap.lt_size z
   rw[sortedHeap_old (Nat.ne_of_lt hb) (by rw[Heap.size_push];exact Nat.lt_succ_of_lt hb)]
   exact kp1 b o z
 . rw[pm.mem_iff,hm z,B.mem z]
   exact⟨fun ⟨e,he,u⟩=>⟨e,lp.mem_iff.mp he,u⟩,fun ⟨e,he,u⟩=>⟨e,lp.mem_iff.mpr he,u⟩⟩
end
section
variable {X:Cx}
end
end L2
namespace L2
open PySem PySem.Spec PyProof.Rows STb
theorem nd_len60 {l:List Int}(h:l.Nodup)(hb:∀x∈l,0<=x/\x<60):l.length<=60:=by
 have h2:(l.map Int.toNat).Nodup:=by
  rw[List.Nodup,List.pairwise_map]
  refine List.Pairwise.imp_of_mem (fun {a b} ha hb' hne e=>hne ?_) h
  have:=hb a ha
  have:=hb b hb'
  omega
 have sub:∀(m:Nat)(l:List Nat),l.Nodup->(∀x∈l,x<m)->l.length<=m:=by
  intro m
  induction m with
  | zero=>intro l _ hb;cases l with
   | nil=>exact Nat.le_refl _
   | cons x _=>exact absurd (hb x List.mem_cons_self) (Nat.not_lt_zero _)
  | succ m ih=>
   intro l nd hb
   have:=ih (l.erase m) (nd.erase m) fun x hx=>by
    have hm:=hb x (List.mem_of_mem_erase hx)
    have:x≠m:=fun z=>by
     rw[z] at hx
     exact ((List.Nodup.mem_erase_iff nd).mp hx).1 rfl
    omega
   have hle:l.length<=(l.erase m).length+1:=by
    rw[List.length_erase]
    split <;> omega
   omega
 have:=sub 60 _ h2 fun x hx=>by
  obtain⟨y,hy,rfl⟩:=List.mem_map.mp hx
  have:=hb y hy
  omega
 rw[List.length_map] at this
 exact this
section
variable {X:Cx}
def tSortSetB (K:PySem.W.Frag)(ta:TA):TE:=fun σ H Q=>ta σ H fun vs H1=>∃(p:Addr)(ns:List Int),vs=[.ref p]/\(SqL K H1 p (ns.map V.int)\/SqT K H1 p (ns.map V.int))/\ns.length<4000/\(∀z∈ns,0<=z/\z<60)/\∀(l:Addr)(ms:List Int),H1 l=none->ms.Pairwise (· < ·)->(∀z:Int,z∈ms↔z∈ns)->Q (.ref l) (upd H1 l (.lst (ms.map V.int)))
theorem pe_sortedSetB {a:Expr}{ta:TA}{p1 p2 pos1 pos2:Pos}(hc:X.calm=true)(hgS:Gl X "sorted") (hmS:X.mg "sorted" = none) (hgT:Gl X "set") (hmT:X.mg "set" = none) (ha:PA X [a] ta)(hs:starEach [a] X.env=[(false,eval a X.env)]:=by rfl)
 (hs2:starEach [.Call (.Name "set" p2) [a] [] pos2] X.env=[(false,eval (.Call (.Name "set" p2) [a] [] pos2) X.env)]:=by rfl) :
 PE X (.Call (.Name "sorted" p1) [.Call (.Name "set" p2) [a] [] pos2] [] pos1) (tSortSetB X.K ta):=by
 intro pins s σ H Q I h
 refine wpAny_Call_Name_kw (ld_blt I hgS hmS (by decide +kernel:bootBuiltins "sorted" = some (.builtin "sorted")) ?_ (by decide) (by decide))
 refine PyProof.Rows.callWith_builtin1 ?_ hs2 rfl
 rw[hs2]
 refine Calls.spliced_cons ?_
 refine Call_ (ld_blt I hgT hmT (by decide +kernel:bootBuiltins "set" = some (.type "set")) (PyProof.Rows.callWith_type1 (thn (ha pos2 pins s σ H _ I h) fun us s1 ⟨vs,H1,I1,r1,q1⟩=>?_) hs rfl))
 obtain⟨p,ns,e,hq,h4k,h60,q⟩:=q1
 subst e
 obtain⟨u,rfl,rx⟩:=vals1 r1
 cases rx
 have lh:(firstMet (fun i=>ns.getD i 0) ns.length).length<=ns.length:=firstMet_length_le _ _
 have l60:(firstMet (fun i=>ns.getD i 0) ns.length).length<=60:=nd_len60 (fm_nodup _ _) fun x hx=>h60 x ((fm_mem ns x).mp (List.any_eq_true.mpr ⟨x,hx,by simp⟩))
 have key:∀(h:Heap)(tk:Nat),(∀b o,s1.heap.get? b=some o->h.get? b=some o)->SetG X.prog X.w (!X.w.params.followText "set-order") h s1.heap.objs.size (fun z=>(firstMet (fun i=>ns.getD i 0) ns.length).any fun x=>x==z) (firstMet (fun i=>ns.getD i 0) ns.length).length ->
  wpAny (model X.prog X.w) X.A (call (.builtin "sorted") [.ref s1.heap.objs.size]) (EP X pins σ Q) X.xe { s1 with heap:=h,toks:=tk }:=by
  intro h tk K so
  refine sorted_setG (I1.ok.hd hc) so (by omega) fun s2 h' D ms us c e1 e2 k1 k2 hD ho rz pr hm hlen=>?_
  obtain⟨hp2,g2,d2,t2,o2⟩:=s2
  cases e1
  cases e2
  have kk:∀b o,s1.heap.get? b=some o->hp2.get? b=some o:=fun b o z=>k1 b o (K b o z)
  have I2:Inv X pins σ H1 { s1 with heap:=hp2,gens:=s1.gens,drawn:=d2,toks:=t2 }:=I1.call (ch:=[]) (Un.kept kk) (I1.hok.kept kk) I1.bare fun _ z=>nomatch z
  have cov:=perm_cover (l2:=firstMet (fun i=>ns.getD i 0) ns.length) (l1:=ms) (fm_nodup _ _) (fun x hx=>(hm x).mpr (List.any_eq_true.mpr ⟨x,hx,by simp⟩)) (by omega)
  refine⟨.ref D,_,sorted_fin (t':=t2) I2 hD k2 ho rz ?_,rfl,q D ms (I2.hok.fresh hD) (strict_of pr (cov.nodup_iff.mpr (fm_nodup _ _))) fun z=>(hm z).trans (fm_mem ns z)⟩
  have:sizeLine=16777216:=rfl
  rw[List.length_map]
  omega
 have sb:scanBound=4096:=rfl
 rcases hq with hq | hq
 . obtain⟨its,rv,pl,hz⟩:=I1.list hq
   have hi:=intsAre_of rv
   have hil:=hi.length
   refine mk_list (I1.ok.hd hc) pl.isList hi (by omega) fun h tk K so=>?_
   rw[hil] at so
   exact Calls.spliced_nil (key h tk K so)
 . obtain⟨its,rv,pl,hz⟩:=I1.tuple hq
   have hi:=intsAre_of rv
   have hil:=hi.length
   refine mk_tup (I1.ok.hd hc) pl hi (by omega) fun h tk K so=>?_
   rw[hil] at so
   exact Calls.spliced_nil (key h tk K so)
end
end L2
namespace L2
section
open PySem PySem.W PyProof.Rows
noncomputable def topRunT (p:Program)(w:World)(n₀:Nat)(ann:Option Value):Nat->SharedT->Thread->Option SharedT
 | 0,_,_=>none
 | n+1,s,t=>match through t with
  | true=>some s
  | false=>match Fast.tw6613529449190102663 n₀ ann t with
   | false=>none
   | true=>match Fast.tw10156331382660048174 (Fast.tw11892475500146522536 Fast.tw14364793385576792824) p w s t with
    | some (s',t')=>topRunT p w n₀ ann n s' t'
    | none=>none
theorem topRun_of {p:Program}{w:World}{n₀:Nat}{ann:Option Value}:∀{n:Nat}{s s':SharedT}{t:Thread},topRunT p w n₀ ann n s t=some s'->topRun treeTable p w n₀ ann n s.abs t=some s'.abs
 | 0,_,_,_,h=>by cases h
 | n+1,s,s',t,h=>by
  unfold topRunT at h
  rw[<-Fast.te6613529449190102663,<-Fast.te10156331382660048174,<-Fast.te11892475500146522536,<-Fast.te14364793385576792824] at h
  unfold topRun
  cases he:through t with
  | true=>rw[he] at h;cases h;rfl
  | false=>
   rw[he] at h
   cases hk:stepOk n₀ ann t with
   | false=>rw[hk] at h;cases h
   | true=>
    rw[hk] at h
    cases hs:stepT (denote treeTable) p w s t with
    | none=>rw[hs] at h;cases h
    | some r=>obtain⟨s₂,t₂⟩:=r;rw[hs] at h;rw[stepT_spec hs];exact topRun_of h
def bt:List Obj->Nat->BT->BT
 | [],_,t=>t
 | o::l,i,t=>bt l (i+1) (t.ins i o)
noncomputable def bT (P:Params):BT:=bt (boot_heap P).objs.toList 0 .nil
noncomputable def bS (w:World)(os:OsState):SharedT:=⟨bT w.params,(boot_heap w.params).objs.size,(boot_heap w.params).life,Array.mk [],boot_drawn,boot_toks,os⟩
theorem bA (w:World)(os:OsState):(bS w os).abs=⟨boot_heap w.params,Array.mk [],boot_drawn,boot_toks,os⟩:=by kernel_rfl
noncomputable abbrev runT (p:Program)(N:Nat)(w:World)(os:OsState):Option SharedT:=topRunT p w (boot_heap w.params).objs.size ((boot_heap w.params).nsMap mainGlobals "__annotations__") N (bS w os) (topStub p)
abbrev chkT (p:Program)(h h':Heap)(s:Shared):Bool:=staticsOk (importedModules p.main.body) h h' && namesBound p h' && gensDone s && laidKept h h'
theorem left_of {p q:Program}{loose:List Str}{Xt:Shared->Bool}{α:Type}{Yf:Shared->α}{Ya:World->α}{N:Nat}(e:opening p=plainProg p.main.scope.names)(hN:Nat.ble 600 N=true)(f:∀s,fenceModules? p s=some s)
 (h:∀(w:World)(os:OsState),(runT p N w os).map (fun s=>(chkT p (boot_heap w.params) s.abs.heap s.abs,Fast.tw4187177175401517315 q loose (importedModules p.main.body) Xt true s.abs,Yf s.abs))=some (true,openGood q loose,Ya w)):LeftO p q loose Xt Yf Ya N:=by
 intro w
 obtain⟨⟨h0,gs,d,k,os⟩,e1,e2⟩:=Option.map_eq_some_iff.mp (boot_open e hN f w)
 obtain⟨rfl,rfl,rfl,rfl⟩:h0=boot_heap w.params/\gs=Array.mk []/\d=boot_drawn/\k=boot_toks:=by simpa using e2
 obtain⟨s,r,a⟩:=Option.map_eq_some_iff.mp (h w os)
 obtain⟨b,a⟩:=Prod.mk.inj a
 rw[<-Fast.te4187177175401517315] at a
 have y:=topRun_of r
 rw[bA] at y
 unfold openEnds
 rw[e1]
 show (topFrom treeTable p w N _).map _=_
 unfold topFrom
 have z:((boot_heap w.params).isNs mainGlobals && (Array.mk []:Array GenState).size==0)=true:=by kernel_rfl
 dsimp only
 rw[z]
 dsimp only
 rw[y]
 show Option.map _ (match chkT p (boot_heap w.params) s.abs.heap s.abs with | true=>some s.abs | false=>none)=_
 rw[b]
 exact congrArg some a
end
end L2
namespace K68
open PySem L2 WM
def top (i:Nat):Stmt:=PySem.Challenge.pw_labelways_k68_whole_labels_of_a_part.main.body.getD i (.Pass ⟨0,0,0,0⟩)
abbrev sFeed:Stmt:=top 38
abbrev sTake:Stmt:=top 39
abbrev sSame:Stmt:=top 40
abbrev sWebF:Stmt:=top 41
abbrev sRows:Stmt:=top 42
abbrev sOrdF:Stmt:=top 43
abbrev sLacks:Stmt:=top 44
abbrev sPart:Stmt:=top 45
abbrev sRight:Stmt:=top 46
abbrev sNum:Stmt:=top 5
abbrev sWi:Stmt:=top 6
abbrev sTof:Stmt:=top 7
abbrev sRis:Stmt:=top 8
abbrev sPl:Stmt:=top 9
abbrev sArp:Stmt:=top 10
abbrev sTies:Stmt:=top 12
abbrev sNear:Stmt:=top 16
abbrev sFrom:Stmt:=top 15
abbrev sLens:Stmt:=top 14
abbrev sBwr:Stmt:=top 17
abbrev sNbr:Stmt:=top 18
abbrev sIsP:Stmt:=top 20
abbrev sHold:Stmt:=top 21
abbrev sPweb:Stmt:=top 22
abbrev sNtie:Stmt:=top 23
abbrev sPord:Stmt:=top 24
abbrev sCutd:Stmt:=top 25
abbrev sCutl:Stmt:=top 26
abbrev sNent:Stmt:=top 27
abbrev sSum:Stmt:=top 30
abbrev sTold:Stmt:=top 29
abbrev sOrd:Stmt:=top 32
abbrev sByo:Stmt:=top 33
abbrev sLbr:Stmt:=top 34
abbrev sIsh:Stmt:=top 35
abbrev sEbr:Stmt:=top 36
abbrev sLaw:Stmt:=top 47
def FeedP (H:Hp)(t p:Addr)(N:Nat):Prop:=∃(ns:List Int)(spot rest:Int),H t=some (.lst [.ref p,.int spot,.int rest])/\H p=some (.lst (ns.map V.int))/\p≠t/\0<=spot/\spot<=N/\0<=rest/\ns.length<=64/\0<ns.length
def FeedAt (H:Hp)(t:Addr)(N:Nat):Prop:=∃p:Addr,FeedP H t p N
theorem FeedAt.mono {H:Hp}{t:Addr}{N M:Nat}(h:FeedAt H t N)(l:N<=M):FeedAt H t M:=by
 obtain⟨p,ns,spot,rest,a,b,c,d,e,f⟩:=h
 exact⟨p,ns,spot,rest,a,b,c,d,by omega,f⟩
def Sm (t:Addr)(H H':Hp):Prop:=∀b o,b≠t->H b=some o->H' b=some o
theorem Sm.refl (t:Addr)(H:Hp):Sm t H H:=fun _ _ _ e=>e
theorem Sm.trans {t:Addr}{H H1 H2:Hp}(a:Sm t H H1)(b:Sm t H1 H2):Sm t H H2:=fun c o n e=>b c o n (a c o n e)
theorem Sm.of {t:Addr}{H H':Hp}(h:Same H H'):Sm t H H':=fun b o _ e=>h b o e
theorem same_laid {l:Addr}{H:Hp}{o:HO}(h:H l=none):Same H (upd H l o):=fun b u e=>by rw[upd_ne (ne_of_none e h)];exact e
theorem same_chg {l:Addr}{H H':Hp}{o:HO}(s:Same H H')(h:H l=none):Same H (upd H' l o):=fun b u e=>by rw[upd_ne (ne_of_none e h)];exact s b u e
theorem FeedAt.keep {H H':Hp}{t:Addr}{N:Nat}(h:FeedAt H t N)(k:Same H H'):FeedAt H' t N:=by
 obtain⟨p,ns,spot,rest,a,b,c⟩:=h
 exact⟨p,ns,spot,rest,k _ _ a,k _ _ b,c⟩
theorem FeedAt.ne {H:Hp}{t b:Addr}{N:Nat}(h:FeedAt H t N)(hb:H b=none):b≠t:=by
 obtain⟨p,ns,spot,rest,a,_⟩:=h
 exact (ne_of_none a hb).symm
theorem none_back {H H':Hp}{p:Addr}(s:Same H H')(h:H' p=none):H p=none:=by
 cases e:H p with
 | none=>rfl
 | some o=>rw[s p o e] at h;cases h
theorem sqL_same {K:PySem.W.Frag}{H H':Hp}{a:Addr}{xs:List V}(h:SqL K H a xs)(s:Same H H'):SqL K H' a xs:=by
 rcases h with (h | ⟨o,h⟩) | h
 . exact .inl (.inl (s _ _ h))
 . exact .inl (.inr ⟨o,s _ _ h⟩)
 . exact .inr h
def spFeed (K:PySem.W.Frag):Sp:=fun vs H Q _=>∃(a:Addr)(ns:List Int),vs=[.ref a]/\SqL K H a (ns.map V.int)/\ns.length<=63/\∀(t:Addr)(H':Hp),H t=none->FeedAt H' t 0->Same H H'->Q (.ref t) H'
def spTakeP:Sp:=fun vs H Q _=>∃(t p:Addr)(N:Nat)(many:Int),vs=[.ref t,.int many]/\FeedP H t p N/\N<1000000/\0<many/\many<1000000 /\
 ∀(r:Int)(H':Hp),0<=r->r<many->FeedP H' t p (N+1)->(∀b,b≠t->H' b=H b)->Q (.int r) H'
def spTake:Sp:=fun vs H Q _=>∃(t:Addr)(N:Nat)(many:Int),vs=[.ref t,.int many]/\FeedAt H t N/\N<1000000/\0<many/\many<1000000 /\
 ∀(r:Int)(H':Hp),0<=r->r<many->FeedAt H' t (N+1)->(∀b,b≠t->H' b=H b)->Q (.int r) H'
section
variable {P:Program}{w:World}{K:PySem.W.Frag}{mg:Str->Option Value}{base:Heap}
theorem scFeed:FnScope ["_law_script"] ["_law_script"] (defScope sFeed):=⟨rfl,rfl,rfl,by decide +kernel,rfl,by decide +kernel,by decide +kernel⟩
theorem ok_feed {f:Addr}{fd:FuncData}(F:Fun K "_law_feed" "_law_feed" sFeed f fd) (mInt:mg "int" = none):FnOk P w K mg base CX0 1 f fd ["_law_script"] (spFeed K):=by
 refine F.ok scFeed (fun vs H Q E h=>?_) (fun cdv A outer s H vs Q E hr h=>?_)
 . obtain⟨a,ns,rfl,_⟩:=h
   rfl
 . obtain⟨a,ns,rfl,hS,hl,k⟩:=h
   have hu0:=hr.units0
   refine⟨_,pss_one (ps_ret (pe_lst (pa_cons (pe_op op_cat (pe_slice sl_list (pv 0) po_none (po_some pe_int)) (pe_op op_rep (pe_lst (pa_cons pe_int pa_nil)) (pe_callTy call_int1 (by rfl) mInt (by decide +kernel) (pa_cons (pe_cmpR (op_eqE hu0) (pv 0) (pe_lst pa_nil) (nomark _)) pa_nil)))) (pa_int (pa_int pa_nil))))),?_⟩
   refine⟨_,rfl,_,rfl,a,_,rfl,hS,fun p hp=>?_⟩
   have s1:=same_laid (o:=.lst (cutV (ns.map V.int) none (some 63))) hp
   have h1:(upd H p (.lst (cutV (ns.map V.int) none (some 63)))) p=some (.lst (cutV (ns.map V.int) none (some 63))):=upd_same
   generalize upd H p (.lst (cutV (ns.map V.int) none (some 63)))=H1 at s1 h1 ⊢
   have e1:cutV (ns.map V.int) none (some 63)=ns.map V.int:=by
    unfold cutV
    rw[HT.sIx_none,List.drop_zero,Nat.sub_zero,List.length_map,show (63:Int)=((63:Nat):Int) from rfl,HT.sIx_nat]
    rw[show min 63 ns.length=ns.length by omega,List.take_of_length_le (by rw[List.length_map];exact Nat.le_refl _)]
   rw[e1] at h1
   refine⟨by show 1<=sizeLine;decide,fun q hq=>?_⟩
   have s2:=same_chg (o:=.lst [.int 0]) s1 (none_back s1 hq)
   have h2:(upd H1 q (.lst [.int 0])) q=some (.lst [.int 0]):=upd_same
   have n2:p≠q:=(ne_of_none h1 hq)
   have h12:(upd H1 q (.lst [.int 0])) p=some (.lst (ns.map V.int)):=by rw[upd_ne n2];exact h1
   generalize upd H1 q (.lst [.int 0])=H2 at s2 h2 h12 ⊢
   refine⟨_,rfl,by show 0<=sizeLine;decide,fun r hr'=>?_⟩
   have s3:=same_chg (o:=.lst []) s2 (none_back s2 hr')
   have h3:(upd H2 r (.lst [])) r=some (.lst []):=upd_same
   have h23:(upd H2 r (.lst [])) q=some (.lst [.int 0]):=by rw[upd_ne (ne_of_none h2 hr')];exact h2
   have h13:(upd H2 r (.lst [])) p=some (.lst (ns.map V.int)):=by rw[upd_ne (ne_of_none h12 hr')];exact h12
   generalize upd H2 r (.lst [])=H3 at s3 h3 h23 h13 ⊢
   refine⟨a,r,_,rfl,rfl,sqL_same hS s3,SqL.of h3,.inr ⟨_,rfl,?_⟩⟩
   have hk:(-(2 ^ 63):Int)<=(if (ns.map V.int).isEmpty=true then (1:Int) else 0)/\(if (ns.map V.int).isEmpty=true then (1:Int) else 0)<2 ^ 63/\[V.int 0].length*(if (ns.map V.int).isEmpty=true then (1:Int) else 0).toNat<=sizeLine/\(List.replicate (if (ns.map V.int).isEmpty=true then (1:Int) else 0).toNat [V.int 0]).flatten=(if ns=[] then [(0:Int)] else []).map V.int:=by
    cases ns with
    | nil=>exact⟨by decide,by decide,by decide,rfl⟩
    | cons _ _=>exact⟨(by decide:(-(2 ^ 63):Int)<=0),(by decide:(0:Int)<2 ^ 63),(by decide:1*(0:Int).toNat<=sizeLine),rfl⟩
   obtain⟨k1,k2,k3,k4⟩:=hk
   refine⟨q,_,_,rfl,rfl,h23,k1,k2,k3,fun u hu=>?_⟩
   rw[k4]
   have s4:=same_chg (o:=.lst ((if ns=[] then [(0:Int)] else []).map V.int)) s3 (none_back s3 hu)
   have h4:(upd H3 u (.lst ((if ns=[] then [(0:Int)] else []).map V.int))) u=some (.lst ((if ns=[] then [(0:Int)] else []).map V.int)):=upd_same
   have h14:(upd H3 u (.lst ((if ns=[] then [(0:Int)] else []).map V.int))) p=some (.lst (ns.map V.int)):=by rw[upd_ne (ne_of_none h13 hu)];exact h13
   generalize upd H3 u (.lst ((if ns=[] then [(0:Int)] else []).map V.int))=H4 at s4 h4 h14 ⊢
   refine⟨p,u,_,_,rfl,rfl,h14,h4,by simp only[List.length_map];split <;> simp only[List.length_cons,List.length_nil] <;> exact Nat.le_trans (Nat.add_le_add_right hl _) (by decide),fun v hv=>?_⟩
   rw[<-List.map_append]
   have s5:=same_chg (o:=.lst ((ns++if ns=[] then [(0:Int)] else []).map V.int)) s4 (none_back s4 hv)
   have h5:(upd H4 v (.lst ((ns++if ns=[] then [(0:Int)] else []).map V.int))) v=some (.lst ((ns++if ns=[] then [(0:Int)] else []).map V.int)):=upd_same
   generalize upd H4 v (.lst ((ns++if ns=[] then [(0:Int)] else []).map V.int))=H5 at s5 h5 ⊢
   refine⟨by show 3<=sizeLine;decide,fun t ht=>?_⟩
   have nvt:v≠t:=ne_of_none h5 ht
   refine k t _ (none_back s5 ht) ⟨v,_,0,0,upd_same,by rw[upd_ne nvt];exact h5,nvt,Int.le_refl _,Int.le_refl _,Int.le_refl _,?_,?_⟩ (same_chg s5 (none_back s5 ht))
   . rw[List.length_append];split <;> simp only[List.length_cons,List.length_nil] <;> omega
   . rw[List.length_append]
     cases ns with
     | nil=>decide
     | cons x y=>simp only[List.length_cons];omega
theorem scTake:FnScope ["_law_feed_here", "_law_many", "_law_found", "_law_spot", "_law_cell", "_law_mixed"] ["_law_feed_here", "_law_many"] (defScope sTake):=⟨rfl,rfl,rfl,by decide +kernel,rfl,by decide +kernel,by decide +kernel⟩
theorem mod_in {a m:Int}(h:0<m):0<=a%m/\a%m<m:=⟨Int.emod_nonneg _ (by omega),Int.emod_lt_of_pos _ h⟩
theorem ok_takeP {f:Addr}{fd:FuncData}(F:Fun K "_law_take" "_law_take" sTake f fd) (mLen:mg "len" = none):FnOk P w K mg base CX0 1 f fd ["_law_feed_here", "_law_many"] spTakeP:=by
 refine F.ok scTake (fun vs H Q E h=>?_) (fun cdv A outer s H vs Q E hr h=>?_)
 . obtain⟨t,p,N,many,rfl,_⟩:=h
   rfl
 . obtain⟨t,p,N,many,rfl,T,hN,hm0,hm1,k⟩:=h
   obtain⟨ns,spot,rest,ht,hp,hne,hs0,hs1,hr0,hl,hl0⟩:=T
   refine⟨_,pss_cons (ps_if (pt_cmpR op_gt (pe_ix ix_list (pv 0) pe_int (fun _ _=>rfl)) pe_int (nomark _))
    (pss_cons (ps_set (i:=2) scTake.nd rfl (Or.inl rfl) (pe_op op_mod (pe_ix ix_list (pv 0) pe_int (fun _ _=>rfl)) (pv 1)))
    (pss_cons (ps_asg (pe_op op_fdiv (pe_ix ix_list (pv 0) pe_int (fun _ _=>rfl)) (pv 1)) (pg_sub (pv 0) pe_int set_list))
    (pss_one (ps_ret (pv 2))))) pss_nil)
    (pss_cons (ps_set (i:=3) scTake.nd rfl (Or.inl rfl) (pe_ix ix_list (pv 0) pe_int (fun _ _=>rfl)))
    (pss_cons (ps_asg (pe_op op_add (pv 3) pe_int) (pg_sub (pv 0) pe_int set_list))
    (pss_cons (ps_set (i:=4) scTake.nd rfl (Or.inl rfl) (pe_ix ix_list (pe_ix ix_list (pv 0) pe_int (fun _ _=>rfl)) (pe_op op_mod (pv 3) (pe_callB call_len_seq (by rfl) mLen PySem.boot_len (pa_cons (pe_ix ix_list (pv 0) pe_int (fun _ _=>rfl)) pa_nil))) (fun _ _=>rfl)))
    (pss_cons (ps_if (pw_and (pt_cmpR op_ge (pv 4) (pe_op op_pow pe_int pe_int) (nomark _)) (pw_and1 (pt_cmpR op_lt (pv 3) (pe_callB call_len_seq (by rfl) mLen PySem.boot_len (pa_cons (pe_ix ix_list (pv 0) pe_int (fun _ _=>rfl)) pa_nil)) (nomark _)))).pt
     (pss_cons (ps_asg (pe_op op_fdiv (pv 4) (pv 1)) (pg_sub (pv 0) pe_int set_list)) (pss_one (ps_ret (pe_op op_mod (pv 4) (pv 1))))) pss_nil)
    (pss_cons (ps_set (i:=5) scTake.nd rfl (Or.inl rfl) (pe_op op_mod (pe_op op_mul (pe_op op_add (pe_op op_add (pe_op op_add (pe_op op_mod (pv 4) pe_int) (pe_op op_mul (pe_op op_mul pe_int (pv 3)) (pv 3))) (pe_op op_mul pe_int (pv 3))) pe_int) pe_int) pe_int))
    (pss_cons (ps_set (i:=5) scTake.nd rfl (Or.inl rfl) (pe_op op_mod (pe_op op_add (pe_op op_add (pe_op op_mul (pv 5) (pv 5)) (pe_op op_mul pe_int (pv 3))) pe_int) pe_int))
    (pss_one (ps_ret (pe_op op_mod (pe_op op_mod (pe_op op_add (pe_op op_mul (pv 5) pe_int) (pv 3)) pe_int) (pv 1)))))))))),?_⟩
   have cd:CDiv 0 many:=⟨hm0,by omega⟩
   refine⟨_,rfl,t,_,_,_,rfl,rfl,SqL.of ht,rfl,_,_,rfl,rfl,_,rfl,?_⟩
   refine ite2 (fun hc=>?_) (fun hc=>?_)
   . have hpos:0<rest:=of_decide_eq_true hc
     refine⟨_,rfl,t,_,_,_,rfl,rfl,SqL.of ht,rfl,_,rfl,_,_,rfl,rfl,hm0,?_⟩
     refine⟨_,rfl,t,_,_,_,rfl,rfl,SqL.of ht,rfl,_,rfl,_,_,rfl,rfl,cd,?_⟩
     refine⟨_,rfl,t,_,_,2,rfl,rfl,ht,rfl,?_⟩
     refine⟨_,rfl,?_⟩
     refine k _ _ (mod_in hm0).1 (mod_in hm0).2 ⟨ns,spot,rest/many,upd_same,by rw[upd_ne hne];exact hp,hne,hs0,by omega,Int.ediv_nonneg hr0 (by omega),hl,hl0⟩ fun b hb=>upd_ne hb
   . -- spot=feed[1];feed[1]=spot+1
     refine⟨_,rfl,t,_,_,_,rfl,rfl,SqL.of ht,rfl,?_⟩
     refine⟨_,rfl,_,_,rfl,rfl,_,rfl,t,_,_,1,rfl,rfl,ht,rfl,?_⟩
     have ht1:(upd H t (.lst [.ref p,.int (spot+1),.int rest])) t=some (.lst [.ref p,.int (spot+1),.int rest]):=upd_same
     have hp1:(upd H t (.lst [.ref p,.int (spot+1),.int rest])) p=some (.lst (ns.map V.int)):=by rw[upd_ne hne];exact hp
     have h2:0<((ns.map V.int).length:Int):=by rw[List.length_map];omega
     have ex:∃c,atI (ns.map V.int) (spot%((ns.map V.int).length:Int))=some (.int c):=by
      have hb:=mod_in (a:=spot) h2
      obtain⟨j,hj⟩:=Int.eq_ofNat_of_zero_le hb.1
      have hlt:j<ns.length:=by
       have h2:=hb.2
       rw[hj,List.length_map] at h2
       omega
      refine⟨ns[j],?_⟩
      rw[hj]
      exact atI_nat (by simp[hlt])
     obtain⟨c,hc⟩:=ex
     refine⟨_,rfl,t,_,_,_,rfl,rfl,SqL.of ht1,rfl,_,rfl,_,rfl,t,_,_,_,rfl,rfl,SqL.of ht1,rfl,p,_,rfl,.inl (SqL.of hp1),_,_,rfl,rfl,h2,p,_,_,_,rfl,rfl,SqL.of hp1,hc,?_⟩
     refine⟨_,rfl,_,_,rfl,rfl,⟨by decide,by decide,by decide⟩,_,_,rfl,rfl,_,rfl,?_⟩
     refine ite2 (fun h3=>?_) (fun h3=>?_)
     all_goals first
      | (refine⟨_,rfl,_,rfl,t,_,_,_,rfl,rfl,SqL.of ht1,rfl,p,_,rfl,.inl (SqL.of hp1),_,_,rfl,rfl,_,rfl,?_⟩;refine ite2 (fun h4=>?_) (fun h4=>?_))
      | refine iteF ?_
     all_goals first
      | (refine⟨_,rfl,_,rfl,_,_,rfl,rfl,⟨hm0,by omega⟩,_,rfl,t,_,_,2,rfl,rfl,ht1,rfl,?_⟩
         refine⟨_,rfl,_,rfl,_,_,rfl,rfl,hm0,?_⟩
         refine k _ _ (mod_in hm0).1 (mod_in hm0).2 ⟨ns,spot+1,_,upd_same,by rw[upd_ne hne];exact hp1,hne,by omega,by omega,Int.ediv_nonneg (Int.le_trans (show (0:Int)<=10 ^ (18:Int).toNat by decide) (of_decide_eq_true h3)) (by omega),hl,hl0⟩ fun b hb=>by rw[upd_ne hb,upd_ne hb])
      | (refine⟨_,rfl,_,_,rfl,rfl,(by dsimp only;decide),_,rfl,_,_,rfl,rfl,.inl ⟨by decide,by decide⟩,_,rfl,_,_,rfl,rfl,.inr ⟨by omega,by omega⟩,_,_,rfl,rfl,_,rfl,_,_,rfl,rfl,.inl ⟨by decide,by decide⟩,_,_,rfl,rfl,_,_,rfl,rfl,_,_,rfl,rfl,.inr ⟨by decide,by decide⟩,_,_,rfl,rfl,(by dsimp only;decide),?_⟩
         generalize hx:(c%1000003+37*spot*spot+11*spot+5)*48271%2147483629=x1
         have hx1:0<=x1/\x1<2147483629:=by rw[<-hx];exact mod_in (by decide)
         refine⟨_,rfl,_,rfl,_,_,rfl,rfl,.inl ⟨by omega,by omega⟩,_,rfl,_,_,rfl,rfl,.inl ⟨by decide,by decide⟩,_,_,rfl,rfl,_,_,rfl,rfl,_,_,rfl,rfl,(by dsimp only;decide),?_⟩
         refine⟨_,rfl,_,_,rfl,rfl,.inr ⟨by decide,by decide⟩,_,rfl,_,_,rfl,rfl,_,_,rfl,rfl,(by dsimp only;decide),_,rfl,_,_,rfl,rfl,hm0,?_⟩
         refine k _ _ (mod_in hm0).1 (mod_in hm0).2 ⟨ns,spot+1,rest,ht1,hp1,hne,by omega,by omega,hr0,hl,hl0⟩ fun b hb=>upd_ne hb)
theorem ok_take {f:Addr}{fd:FuncData}(F:Fun K "_law_take" "_law_take" sTake f fd) (mLen:mg "len" = none):FnOk P w K mg base CX0 1 f fd ["_law_feed_here", "_law_many"] spTake:=
 (ok_takeP F mLen).imp fun vs H Q E ⟨t,N,many,e,⟨p,T⟩,a,b,c,k⟩=>⟨t,p,N,many,e,T,a,b,c,fun r H' h0 h1 T' he=>k r H' h0 h1 ⟨p,T'⟩ he⟩
end
end K68
namespace K68
open PySem L2 WM
theorem sm_eq {t:Addr}{H H':Hp}(h:∀b,b≠t->H' b=H b):Sm t H H':=fun b o n e=>by rw[h b n];exact e
theorem Sm.laid {t l:Addr}{H:Hp}{o:HO}(h:H l=none):Sm t H (upd H l o):=fun b u _ e=>by rw[upd_ne (ne_of_none e h)];exact e
theorem Sm.chg {t l:Addr}{H H':Hp}{o:HO}(s:Sm t H H')(h:H l=none):Sm t H (upd H' l o):=fun b u n e=>by rw[upd_ne (ne_of_none e h)];exact s b u n e
theorem FeedP.keepF {H H':Hp}{t p:Addr}{N M:Nat}(h:FeedP H t p N)(k1:∀o,H t=some o->H' t=some o)(k2:∀o,H p=some o->H' p=some o)(l:N<=M):FeedP H' t p M:=by
 obtain⟨ns,spot,rest,a,b,c,d,e,f⟩:=h
 exact⟨ns,spot,rest,k1 _ a,k2 _ b,c,d,by omega,f⟩
theorem FeedP.same {H H':Hp}{t p:Addr}{N:Nat}(h:FeedP H t p N)(s:Same H H'):FeedP H' t p N:=h.keepF (fun o e=>s _ _ e) (fun o e=>s _ _ e) (Nat.le_refl _)
theorem FeedP.mono {H:Hp}{t p:Addr}{N M:Nat}(h:FeedP H t p N)(l:N<=M):FeedP H t p M:=h.keepF (fun _ e=>e) (fun _ e=>e) l
theorem FeedP.laid {H:Hp}{t p l:Addr}{N:Nat}{o:HO}(h:FeedP H t p N)(hl:H l=none):FeedP (upd H l o) t p N:=h.same (same_laid hl)
theorem FeedP.upd {H:Hp}{t p l:Addr}{N:Nat}{o:HO}(h:FeedP H t p N)(n1:l≠t)(n2:l≠p):FeedP (upd H l o) t p N:=h.keepF (fun _ e=>by rw[upd_ne n1.symm];exact e) (fun _ e=>by rw[upd_ne n2.symm];exact e) (Nat.le_refl _)
theorem FeedP.ne {H:Hp}{t p b:Addr}{N:Nat}(h:FeedP H t p N)(hb:H b=none):b≠t/\b≠p:=by
 obtain⟨ns,spot,rest,a,q,_⟩:=h
 exact⟨(ne_of_none a hb).symm,(ne_of_none q hb).symm⟩
theorem FeedP.neT {H:Hp}{t p b:Addr}{N:Nat}{ys:List V}(h:FeedP H t p N)(hb:H b=some (.tup ys)):b≠t:=by
 obtain⟨ns,spot,rest,a,q,_⟩:=h
 exact ne_of hb a (by intro z;cases z)
theorem menu_at {L:List Int}{r:Int}(h0:0<=r)(h1:r<L.length):∃n,n∈L/\atI (L.map V.int) r=some (.int n):=by
 obtain⟨j,rfl⟩:=Int.eq_ofNat_of_zero_le h0
 have hj:j<L.length:=by omega
 exact⟨L[j],List.getElem_mem hj,atI_nat (by simp[hj])⟩
theorem small_line {n:Nat}(h:n<=100000):n<sizeLine:=Nat.lt_of_le_of_lt h (by decide)
def WebAt (H:Hp)(wa:Addr)(n:Int)(ts:List T3):Prop:=∃(ta:Addr)(tys:List V),H wa=some (.tup [.int n,.ref ta])/\H ta=some (.tup tys)/\TupsAre H tys (ts.map tl)/\GW n ts
theorem WebAt.keepT {H H':Hp}{wa:Addr}{n:Int}{ts:List T3}(h:WebAt H wa n ts)(k:∀b ys,H b=some (.tup ys)->H' b=some (.tup ys)):WebAt H' wa n ts:=by
 obtain⟨ta,tys,a,b,c,d⟩:=h
 exact⟨ta,tys,k _ _ a,k _ _ b,c.keep k,d⟩
theorem WebAt.keep {H H':Hp}{wa:Addr}{n:Int}{ts:List T3}(h:WebAt H wa n ts)(k:Same H H'):WebAt H' wa n ts:=h.keepT fun b _ e=>k b _ e
def spWebF:Sp:=fun vs H Q _=>∃(t:Addr)(N:Nat)(most:Int),vs=[.ref t,.int most]/\FeedAt H t N/\N<900000/\1<=most/\most<=11 /\
 ∀(wa:Addr)(n:Int)(ts:List T3)(H':Hp),H wa=none->n<=most->WebAt H' wa n ts->FeedAt H' t (N+400)->Sm t H H'->Q (.ref wa) H'
def TR (B:Int)(ts:List T3):Prop:=(∀t∈ts,0<=t.1/\t.1<t.2.1/\t.2.1<B/\1<=t.2.2/\t.2.2<=99)/\ts.Pairwise fun s t=>¬ (s.1=t.1/\s.2.1=t.2.1)
theorem TR.nil (B:Int):TR B []:=⟨fun _ h=>by simp at h,List.Pairwise.nil⟩
theorem TR.more {B:Int}{ts us:List T3}(h:TR B ts)(hu:∀t∈us,0<=t.1/\t.1<B/\t.2.1=B/\1<=t.2.2/\t.2.2<=99)(nd:(us.map (·.1)).Nodup):TR (B+1) (ts++us):=by
 refine⟨fun t ht=>?_,List.pairwise_append.mpr ⟨h.2,?_,fun s hs t ht e=>?_⟩⟩
 . rcases List.mem_append.mp ht with q | q
   . obtain⟨a,b,c,d⟩:=h.1 t q;exact⟨a,b,by omega,d⟩
   . obtain⟨a,b,c,d⟩:=hu t q;exact⟨a,by omega,by omega,d⟩
 . rw[List.Nodup,List.pairwise_map] at nd
   exact nd.imp fun h e=>h e.1
 . obtain⟨_,_,c,_⟩:=h.1 s hs
   obtain⟨_,_,d,_⟩:=hu t ht
   omega
theorem tups_app {H:Hp}:∀{xs ys:List V}{ks ls:List (List Int)},TupsAre H xs ks->TupsAre H ys ls->TupsAre H (xs++ys) (ks++ls)
 | [],ys,[],ls,_,h=>h
 | [],ys,_::_,ls,a,_=>a.elim
 | _::_,ys,[],ls,a,_=>a.elim
 | x::xs,ys,k::ks,ls,a,h=>⟨a.1,tups_app a.2 h⟩
structure WF (H:Hp)(t p D pl:Addr)(L:List Int)(N m:Nat)(B:Int)(H2:Hp):Prop where
 sm:Sm t H H2
 tp:FeedP H2 t p N
 pool:H2 pl=some (.lst (L.map V.int))
 ties:∃(ys:List V)(ts:List T3),H2 D=some (.lst ys)/\TupsAre H2 ys (ts.map tl)/\TR B ts/\ts.length<=m
theorem WF.on {H H2 H3:Hp}{t p D pl:Addr}{L:List Int}{N N' m:Nat}{B:Int}(h:WF H t p D pl L N m B H2)(nD:D≠t)(nl:pl≠t)(s:Sm t H2 H3)(T:FeedP H3 t p N'):WF H t p D pl L N' m B H3:=by
 obtain⟨ys,ts,a,b,c⟩:=h.ties
 exact⟨h.sm.trans s,T,s _ _ nl h.pool,ys,ts,s _ _ nD a,b.keep fun x zs e=>s _ _ (h.tp.neT e) e,c⟩
section
variable {P:Program}{w:World}{K:PySem.W.Frag}{mg:Str->Option Value}{base:Heap}
theorem scWebF:FnScope ["_law_feed_here", "_law_most", "_law_many", "_law_pool", "_law_dense", "_law_whole", "_law_ties", "_law_b", "_law_some"] ["_law_feed_here", "_law_most"] (defScope sWebF):=⟨rfl,rfl,rfl,by decide +kernel,rfl,by decide +kernel,by decide +kernel⟩
theorem ok_webF {f fD:Addr}{fd fdD:FuncData}(F:Fun K "_law_web" "_law_web" sWebF f fd) (FD:Fun K "_law_take" "_law_take" sTake fD fdD) (bD:Binds K fdD ["_law_feed_here", "_law_many"] []) (mD:mg "_law_take" = some (.ref fD)) (mLen:mg "len" = none)
 (mRange:mg "range" = none) (mTuple:mg "tuple" = none) (mSorted:mg "sorted" = none):FnOk P w K mg base CX0 2 f fd ["_law_feed_here", "_law_most"] spWebF:=by
 have GD:FnOk P w K mg base CX0 1 fD fdD ["_law_feed_here", "_law_many"] spTakeP:=ok_takeP FD mLen
 refine F.ok scWebF (fun vs H Q E h=>?_) (fun cdv A outer s H vs Q E hr h=>?_)
 . obtain⟨t,N,n,rfl,_⟩:=h
   rfl
 . obtain⟨t,N,most,rfl,TT,hN,hn1,hn2,k⟩:=h
   obtain⟨p,T⟩:=TT
   have hu:=hu_of hr
   have hu0:=hr.units0
   obtain⟨es,q0,q1,q2,j3,q3,q4,p1,p2,p3,hbd,hes⟩:∃es q0 q1 q2 j3 q3 q4 p1 p2 p3,defBody sWebF=(defBody sWebF).getD 0 (.Pass ⟨0,0,0,0⟩) :: .Assign [.Name "_law_pool" q0] (.Subscript (.List es p1) (.Call (.Name "_law_take" q1) [.Name "_law_feed_here" q2,.Constant (.int 4) j3 q3] [] q4) p2) p3::(defBody sWebF).drop 2 /\
    LitIntss es [[1],[1,2],[1,1,2,4],[1,3,97,98,99]]:=⟨_,_,_,_,_,_,_,_,_,_,rfl,.cons (.cons .nil) (by show 1<=sizeLine;decide) (.cons (.cons (.cons .nil)) (by show 2<=sizeLine;decide) (.cons (.cons (.cons (.cons (.cons .nil)))) (by show 4<=sizeLine;decide) (.cons (.cons (.cons (.cons (.cons (.cons .nil))))) (by show 5<=sizeLine;decide) (.nil))))⟩
   rw[hbd]
   refine⟨_,pss_cons (ps_set (i:=2) scWebF.nd rfl (Or.inl rfl) (pe_op op_add pe_int (pe_call GD hr rfl mD FD.kp bD .nil pass0 (pa_cons (pv 0) (pa_cons (pv 1) pa_nil)))))
    (pss_cons (ps_set (i:=3) scWebF.nd rfl (Or.inr rfl) (pe_ix ix_list (pe_lst (pa_litss hes))
     (pe_call GD hr rfl mD FD.kp bD .nil pass0 (pa_cons (pv 0) (pa_int pa_nil))) (fun _ _=>rfl)))
    (pss_cons (ps_set (i:=4) scWebF.nd rfl (Or.inr rfl) (pe_ix ix_list (pe_lst (pa_int (pa_int (pa_int pa_nil))))
     (pe_call GD hr rfl mD FD.kp bD .nil pass0 (pa_cons (pv 0) (pa_int pa_nil))) (fun _ _=>rfl)))
    (pss_cons (ps_set (i:=5) scWebF.nd rfl (Or.inl rfl) (pe_cmpR op_gt (pe_call GD hr rfl mD FD.kp bD .nil pass0 (pa_cons (pv 0) (pa_int pa_nil))) pe_int (nomark _)))
    (pss_cons (ps_set (i:=6) scWebF.nd rfl (Or.inl rfl) (pe_lst pa_nil))
    (pss_cons (ps_for PassesOwn.never rfl (pi_range2 rfl mRange (pa_int (pa_cons (pv 2) pa_nil))) (pg_name (i:=7) scWebF.nd rfl (Or.inr rfl))
     (pss_cons (ps_setC (i:=8) (own:=["_law_a"]) (cn:=["_law_feed_here", "_law_dense"]) (ci:=[0,4]) scWebF.nd rfl (Or.inl rfl) rfl (csc rfl rfl) ⟨rfl,rfl,rfl,rfl,rfl,rfl,trivial⟩ rfl
      (pi_range1 rfl mRange (pa_cons (pv 7) pa_nil)) (fun _ _ _ _=>pg_name (i:=0) (nd_of rfl) rfl (Or.inl rfl))
      (fun _ _ _ _=>pts_one (pt_cmpR op_eq (pe_call GD hr rfl mD FD.kp bD .nil pass0 (pa_cons (pv 1) (pa_cons (pv 2) pa_nil))) pe_int (nomark _)))
      (fun _ _ _ _=>pv 0))
     (pss_cons (ps_if (PW.pt (pw_and (pt_val (pv 5)) (pw_and1 (pt_cmpR (op_eqE hu0) (pv 8) (pe_lst pa_nil) (nomark _)))))
      (pss_one (ps_set (i:=8) scWebF.nd rfl (Or.inl rfl) (pe_lst (pa_cons (pe_call GD hr rfl mD FD.kp bD .nil pass0 (pa_cons (pv 0) (pa_cons (pv 7) pa_nil))) pa_nil)))) pss_nil)
     (pss_one (ps_expr (pe_bm PySem.F.plainAttrs_list PySem.F.slot_list_extend PySem.F.type_list_extend mt_extend (pv 6) (pa_cons
      (pe_comp (own:=["_law_a"]) (cn:=["_law_b", "_law_pool", "_law_feed_here"]) (ci:=[7,3,0]) rfl (csc rfl rfl) ⟨rfl,rfl,rfl,rfl,rfl,rfl,rfl,rfl,rfl,trivial⟩ rfl
       (pi_list (pv 8)) (fun _ _ _ _=>pg_name (i:=0) (nd_of rfl) rfl (Or.inl rfl)) (fun _ _ _ _=>pts_nil)
       (fun _ _ _ _=>pe_tup (pa_cons (pv 0) (pa_cons (pv 1) (pa_cons (pe_ix ix_listC (pv 2) (pe_call GD hr rfl mD FD.kp bD .nil pass0 (pa_cons (pv 3) (pa_cons (pe_callB call_len_seqC (by rfl) mLen PySem.boot_len (pa_cons (pv 2) pa_nil)) pa_nil))) (fun _ _=>rfl)) pa_nil))))) pa_nil)))))))
    (pss_one (ps_ret (pe_tup (pa_cons (pv 2) (pa_cons (pe_callTy call_tuple_of (by rfl) mTuple (by decide +kernel) (pa_cons (pe_callB call_sorted (by rfl) mSorted (by decide +kernel) (pa_cons (pv 6) pa_nil)) pa_nil)) pa_nil)))))))))),?_⟩
   refine⟨_,rfl,_,rfl,t,p,N,most,rfl,T,by omega,by omega,by omega,fun r0 H0 a0 b0 T0 he0=>?_⟩
   refine⟨_,_,rfl,rfl,?_⟩
   have s0:Sm t H H0:=sm_eq he0
   have hm1:1<=1+r0/\1+r0<=most:=by omega
   intro a1 e1 a2 e2 a3 e3 a4 e4
   refine⟨by show 4<=sizeLine;decide,fun al el=>?_⟩
   have g1:=(same_laid (o:=.lst [.int 1]) e1)
   have g2:=g1.trans (same_laid (o:=.lst [.int 1,.int 2]) e2)
   have g3:=g2.trans (same_laid (o:=.lst [.int 1,.int 1,.int 2,.int 4]) e3)
   have g4:=g3.trans (same_laid (o:=.lst [.int 1,.int 3,.int 97,.int 98,.int 99]) e4)
   have g5:=g4.trans (same_laid (o:=.lst [.ref a1,.ref a2,.ref a3,.ref a4]) el)
   have f1:(upd (upd (upd (upd (upd H0 a1 (.lst [.int 1])) a2 (.lst [.int 1,.int 2])) a3 (.lst [.int 1,.int 1,.int 2,.int 4])) a4 (.lst [.int 1,.int 3,.int 97,.int 98,.int 99])) al (.lst [.ref a1,.ref a2,.ref a3,.ref a4])) a1=some (.lst [.int 1]):=(same_laid (o:=.lst [.int 1,.int 2]) e2).trans ((same_laid (o:=.lst [.int 1,.int 1,.int 2,.int 4]) e3).trans ((same_laid (o:=.lst [.int 1,.int 3,.int 97,.int 98,.int 99]) e4).trans (same_laid (o:=.lst [.ref a1,.ref a2,.ref a3,.ref a4]) el))) a1 _ upd_same
   have f2:(upd (upd (upd (upd (upd H0 a1 (.lst [.int 1])) a2 (.lst [.int 1,.int 2])) a3 (.lst [.int 1,.int 1,.int 2,.int 4])) a4 (.lst [.int 1,.int 3,.int 97,.int 98,.int 99])) al (.lst [.ref a1,.ref a2,.ref a3,.ref a4])) a2=some (.lst [.int 1,.int 2]):=(same_laid (o:=.lst [.int 1,.int 1,.int 2,.int 4]) e3).trans ((same_laid (o:=.lst [.int 1,.int 3,.int 97,.int 98,.int 99]) e4).trans (same_laid (o:=.lst [.ref a1,.ref a2,.ref a3,.ref a4]) el)) a2 _ upd_same
   have f3:(upd (upd (upd (upd (upd H0 a1 (.lst [.int 1])) a2 (.lst [.int 1,.int 2])) a3 (.lst [.int 1,.int 1,.int 2,.int 4])) a4 (.lst [.int 1,.int 3,.int 97,.int 98,.int 99])) al (.lst [.ref a1,.ref a2,.ref a3,.ref a4])) a3=some (.lst [.int 1,.int 1,.int 2,.int 4]):=(same_laid (o:=.lst [.int 1,.int 3,.int 97,.int 98,.int 99]) e4).trans (same_laid (o:=.lst [.ref a1,.ref a2,.ref a3,.ref a4]) el) a3 _ upd_same
   have f4:(upd (upd (upd (upd (upd H0 a1 (.lst [.int 1])) a2 (.lst [.int 1,.int 2])) a3 (.lst [.int 1,.int 1,.int 2,.int 4])) a4 (.lst [.int 1,.int 3,.int 97,.int 98,.int 99])) al (.lst [.ref a1,.ref a2,.ref a3,.ref a4])) a4=some (.lst [.int 1,.int 3,.int 97,.int 98,.int 99]):=same_laid (o:=.lst [.ref a1,.ref a2,.ref a3,.ref a4]) el a4 _ upd_same
   have n1:a1≠t:=(T0.ne e1).1
   have n2:a2≠t:=(T0.ne (none_back g1 e2)).1
   have n3:a3≠t:=(T0.ne (none_back g2 e3)).1
   have n4:a4≠t:=(T0.ne (none_back g3 e4)).1
   have n5:al≠t:=(T0.ne (none_back g4 el)).1
   have f5:(upd (upd (upd (upd (upd H0 a1 (.lst [.int 1])) a2 (.lst [.int 1,.int 2])) a3 (.lst [.int 1,.int 1,.int 2,.int 4])) a4 (.lst [.int 1,.int 3,.int 97,.int 98,.int 99])) al (.lst [.ref a1,.ref a2,.ref a3,.ref a4])) al=some (.lst [.ref a1,.ref a2,.ref a3,.ref a4]):=upd_same
   show tCall spTakeP [] E0 _ _ (upd (upd (upd (upd (upd H0 a1 (.lst [.int 1])) a2 (.lst [.int 1,.int 2])) a3 (.lst [.int 1,.int 1,.int 2,.int 4])) a4 (.lst [.int 1,.int 3,.int 97,.int 98,.int 99])) al (.lst [.ref a1,.ref a2,.ref a3,.ref a4])) _
   generalize upd (upd (upd (upd (upd H0 a1 (.lst [.int 1])) a2 (.lst [.int 1,.int 2])) a3 (.lst [.int 1,.int 1,.int 2,.int 4])) a4 (.lst [.int 1,.int 3,.int 97,.int 98,.int 99])) al (.lst [.ref a1,.ref a2,.ref a3,.ref a4])=G at g5 f1 f2 f3 f4 f5 ⊢
   clear g1 g2 g3 g4 e1 e2 e3 e4 el
   refine⟨_,rfl,t,p,N+1,4,rfl,T0.same g5,by omega,by decide,by decide,fun r H1 h0 h1 T1 he1=>?_⟩
   obtain⟨pl,L,hat,hpl,hL,hL0,npl⟩:∃(pl:Addr)(L:List Int),atI [V.ref a1,V.ref a2,V.ref a3,V.ref a4] r=some (.ref pl)/\H1 pl=some (.lst (L.map V.int))/\(∀l∈L,1<=l/\l<=99)/\(0<L.length/\L.length<=5)/\pl≠t:=by
    have hr4:r=0\/r=1\/r=2\/r=3:=by omega
    rcases hr4 with rfl | rfl | rfl | rfl
    . exact⟨a1,[1],rfl,by rw[he1 _ n1];exact f1,by decide,by decide,n1⟩
    . exact⟨a2,[1,2],rfl,by rw[he1 _ n2];exact f2,by decide,by decide,n2⟩
    . exact⟨a3,[1,1,2,4],rfl,by rw[he1 _ n3];exact f3,by decide,by decide,n3⟩
    . exact⟨a4,[1,3,97,98,99],rfl,by rw[he1 _ n4];exact f4,by decide,by decide,n4⟩
   refine⟨al,_,_,_,rfl,rfl,SqL.of (by rw[he1 al n5];exact f5),hat,?_⟩
   have s1:Sm t H H1:=s0.trans ((Sm.of g5).trans (sm_eq he1))
   refine⟨by show 3<=sizeLine;decide,fun ad ed=>?_⟩
   refine⟨_,rfl,t,p,N+2,3,rfl,T1.laid ed,by omega,by decide,by decide,fun r2 H2 h20 h21 T2 he2=>?_⟩
   have nad:ad≠t:=(T1.ne ed).1
   obtain⟨dn,hdn,hda⟩:=menu_at (L:=[2,3,5]) h20 h21
   have hdb:0<dn/\dn<1000000:=by
    have:∀m∈([2,3,5]:List Int),0<m/\m<1000000:=by decide
    exact this dn hdn
   refine⟨ad,_,_,_,rfl,rfl,SqL.of (by rw[he2 ad nad];exact upd_same),hda,?_⟩
   have s2:Sm t H1 H2:=(Sm.laid ed).trans (sm_eq he2)
   have hpl2:=s2 _ _ npl hpl
   refine⟨_,rfl,t,p,N+3,3,rfl,T2,by omega,by decide,by decide,fun r3 H3 _ _ Tw he3=>?_⟩
   refine⟨_,_,rfl,rfl,?_⟩
   have s3:Sm t H2 H3:=sm_eq he3
   have hpl3:=s3 _ _ npl hpl2
   refine⟨by show 0<=sizeLine;decide,fun D hD=>?_⟩
   have nD:=(Tw.ne hD).1
   have nDp:=(Tw.ne hD).2
   have s13:Sm t H H3:=s1.trans (s2.trans s3)
   have hD0:H D=none:=by
    cases q:H D with
    | none=>rfl
    | some o=>rw[s13 _ _ nD q] at hD;cases hD
   have npD:pl≠D:=ne_of_none hpl3 hD
   have W0:WF H t p D pl L (N+4) 0 1 (upd H3 D (.lst [])):=⟨s13.trans (Sm.laid hD),Tw.laid hD,same_laid hD _ _ hpl3,[],[],upd_same,trivial,TR.nil 1,Nat.le_refl _⟩
   generalize upd H3 D (.lst [])=H4 at W0 ⊢
   refine⟨_,rfl,1,1+r0,rfl,⟨by decide,by decide,by omega,by omega⟩,for_range (lo:=1) (n:=(1+r0-1).toNat) (fun i σ H5=>∃(vb vs:Option V),σ=[some (.ref t),some (.int most),some (.int (1+r0)),some (.ref pl),some (.int dn),some (.bl (decide (0<r3))),some (.ref D),vb,vs]/\∃m,2*m<=i*(i+1)/\WF H t p D pl L (N+4+30*i) m (1+i) H5) ⟨none,none,rfl,0,by omega,(by rw[show (1:Int)+((0:Nat):Int)=1 from rfl];exact W0)⟩ ?turn ?after⟩
   case turn=>
    rintro i σ H5 hi ⟨vb,vs,rfl,m,hm,W⟩
    refine⟨_,rfl,1+(i:Int),rfl,by omega,by omega,[.ref t,.int dn],rfl,fun D1 hD1=>?_⟩
    have n1t:=(W.tp.ne hD1).1
    have n1p:=(W.tp.ne hD1).2
    refine comp_range (lo:=0) (n:=(1+(i:Int)).toNat) (fun j ys H6=>j<=1+i/\(∃as:List Int,ys=as.map V.int/\(∀a∈as,0<=a/\a<j)/\as.Nodup/\as.length<=j)/\FeedP H6 t p (N+4+30*i+j)/\Sm t H5 H6/\H6 D1=some (.lst ys))
     ⟨Nat.zero_le _,⟨[],rfl,by simp,List.nodup_nil,Nat.le_refl _⟩,W.tp.laid hD1,Sm.laid hD1,upd_same⟩ (fun j ys H6 z=>?_) (fun j ys H6 hj z=>?_) (fun ys H6 z=>?_)
    . obtain⟨_,⟨as,rfl,_,_,hk⟩,_⟩:=z
      rw[List.length_map]
      exact small_line (by omega)
    . obtain⟨_,⟨as,rfl,ha,nd,hk⟩,T6,s6,hD6⟩:=z
      rw[Int.zero_add]
      refine⟨⟨rfl,rfl⟩,?_⟩
      refine⟨_,rfl,_,rfl,t,p,_,dn,rfl,T6,by omega,hdb.1,hdb.2,fun r7 H7 _ _ T7 he7=>?_⟩
      have s7:Sm t H6 H7:=sm_eq he7
      have hD7:=s7 _ _ n1t hD6
      refine⟨rfl,_,rfl,?_⟩
      refine ite2 (fun _=>?_) (fun _=>?_)
      . refine⟨_,rfl,hD7,by omega,⟨as++[(j:Int)],by rw[List.map_append];rfl,fun a q=>?_,?_,by rw[List.length_append];simp;omega⟩,T7.upd n1t n1p,(s6.trans s7).chg hD1,upd_same⟩
        . rcases List.mem_append.mp q with z | z
          . have:=ha a z;omega
          . rw[List.mem_singleton.mp z];omega
        . exact List.nodup_append.mpr ⟨nd,by simp,fun a q b z e=>by rw[List.mem_singleton.mp z] at e;have:=ha a q;omega⟩
      . exact⟨by omega,⟨as,rfl,fun a q=>by have:=ha a q;omega,nd,by omega⟩,T7,s6.trans s7,hD7⟩
    . obtain⟨_,⟨as,rfl,ha,nd,hk⟩,T6,s6,hD6⟩:=z
      have W6:=W.on nD npl s6 T6
      have hDa:=hD6
      have npD1:D1≠t:=n1t
      refine⟨_,rfl,_,rfl,?_⟩
      refine ite2 (fun _=>?a) (fun _=>?c)
      case' a=>
       refine⟨_,rfl,by show 0<=sizeLine;decide,fun e0 he0=>?_⟩
       have W7:=W6.on nD npl (Sm.laid (o:=.lst []) he0) (W6.tp.laid he0)
       have hD7:=same_laid (o:=.lst []) he0 _ _ hD6
       have h00:(upd H6 e0 (.lst [])) e0=some (.lst []):=upd_same
       generalize upd H6 e0 (.lst [])=H7 at W7 hD7 h00 ⊢
       refine⟨D1,e0,_,rfl,rfl,SqL.of hD7,SqL.of h00,_,rfl,?_⟩
       refine ite2 (fun _=>?a1) (fun _=>?a2)
      case' a1=>
       refine⟨_,rfl,_,rfl,t,p,_,1+(i:Int),rfl,W7.tp,by omega,by omega,by omega,fun r8 H8 h80 h81 T8 he8=>?_⟩
       have W8':=W7.on nD npl (sm_eq he8) T8
       refine⟨by show 1<=sizeLine;decide,fun D2 hD2=>?_⟩
       have nD2:=(W8'.tp.ne hD2).1
       have W8:WF H t p D pl L (N+4+30*i+(i+2)) m (1+i) (upd H8 D2 (.lst [.int r8])):=W8'.on nD npl (Sm.laid (o:=.lst [.int r8]) hD2) ((W8'.tp.laid hD2).mono (by omega))
       obtain⟨as',hD2',ha',nd',hk'⟩:∃as':List Int,(upd H8 D2 (.lst [.int r8])) D2=some (.lst (as'.map V.int))/\(∀a∈as',0<=a/\a<1+(i:Int))/\as'.Nodup/\as'.length<=i+1:=⟨[r8],upd_same,fun a q=>by rw[List.mem_singleton.mp q];exact⟨h80,h81⟩,by simp,by simp⟩
       generalize upd H8 D2 (.lst [.int r8])=H9 at W8 hD2' ⊢
      case' a2=>
       obtain⟨as',hD2',ha',nd',hk'⟩:∃as':List Int,H7 D1=some (.lst (as'.map V.int))/\(∀a∈as',0<=a/\a<1+(i:Int))/\as'.Nodup/\as'.length<=i+1:=⟨as,hD7,fun a q=>by have:=ha a q;omega,nd,by omega⟩
       have W8:WF H t p D pl L (N+4+30*i+(i+2)) m (1+i) H7:=W7.on nD npl (Sm.refl _ _) (W7.tp.mono (by omega))
       have nD2:=n1t
       clear ha nd hk hD7 h00 hDa npD1
       generalize H7=H9 at W8 hD2' ⊢
       generalize D1=D2 at hD2' nD2 ⊢
      case' c=>
       refine iteF ?_
       obtain⟨as',hD2',ha',nd',hk'⟩:∃as':List Int,H6 D1=some (.lst (as'.map V.int))/\(∀a∈as',0<=a/\a<1+(i:Int))/\as'.Nodup/\as'.length<=i+1:=⟨as,hD6,fun a q=>by have:=ha a q;omega,nd,by omega⟩
       have W8:WF H t p D pl L (N+4+30*i+(i+2)) m (1+i) H6:=W6.on nD npl (Sm.refl _ _) (W6.tp.mono (by omega))
       have nD2:=n1t
       clear ha nd hk hDa npD1
       generalize H6=H9 at W8 hD2' ⊢
       generalize D1=D2 at hD2' nD2 ⊢
      all_goals
       obtain⟨ys9,ts9,hD9,TA9,tr9,hl9⟩:=W8.ties
       refine⟨_,rfl,.inl ⟨rfl,_,SqL.of hD9⟩,_,rfl,D2,rfl,⟨_,SqL.of hD2'⟩,[.int (1+(i:Int)),.ref pl,.ref t],rfl,fun D3 hD3=>?_⟩
       have nD3:=W8.tp.ne hD3
       refine comp_list (a:=D2) (xs:=as'.map V.int) (fun j ys Ha=>∃us:List T3,us.map (·.1)=as'.take j/\(∀u∈us,u.2.1=1+(i:Int)/\1<=u.2.2/\u.2.2<=99)/\Ha D3=some (.lst ys)/\TupsAre Ha ys (us.map tl)/\FeedP Ha t p (N+4+30*i+(i+2)+j)/\Sm t H9 Ha)
        ⟨[],rfl,by simp,upd_same,trivial,W8.tp.laid hD3,Sm.laid hD3⟩ (fun j ys Ha z=>?_) (fun j ys Ha z=>?_) (fun j x ys Ha hx z=>?_) (fun ys Ha z=>?_)
       . obtain⟨_,_,_,_,_,_,sa⟩:=z
         exact SqL.of (sa _ _ nD2 hD2')
       . obtain⟨us,e1,_,_,TA,_⟩:=z
         have e3:=TA.length
         rw[List.length_map] at e3
         have e4:=congrArg List.length e1
         rw[List.length_map,List.length_take] at e4
         exact small_line (by omega)
       . obtain⟨us,e1,hus,hDa,TA,TP,sa⟩:=z
         rw[List.getElem?_map] at hx
         cases hxa:as'[j]? with
         | none=>rw[hxa] at hx;cases hx
         | some av=>
         rw[hxa] at hx
         cases hx
         have hjl:j<as'.length:=(List.getElem?_eq_some_iff.mp hxa).1
         have hLn:0<((L.map V.int).length:Int)/\((L.map V.int).length:Int)<1000000:=by rw[List.length_map];omega
         have hpa:=sa _ _ npl W8.pool
         refine⟨⟨rfl,rfl⟩,?_⟩
         refine tyes ?_
         refine⟨_,rfl,_,rfl,_,rfl,_,rfl,_,rfl,pl,_,rfl,.inl (SqL.of hpa),t,p,_,_,rfl,TP,by omega,hLn.1,hLn.2,fun rb Hb g0 g1 Tb heb=>?_⟩
         have sb:Sm t Ha Hb:=sm_eq heb
         obtain⟨lg,hlg,hla⟩:=menu_at (L:=L) g0 (by rw[List.length_map] at g1;exact g1)
         refine⟨pl,_,_,_,rfl,rfl,SqL.of (sb _ _ npl hpa),hla,?_⟩
         refine⟨by show 3<=sizeLine;decide,fun q hq=>?_⟩
         have hDb:=sb _ _ nD3.1 hDa
         have nDq:D3≠q:=ne_of_none hDb hq
         refine⟨by rw[upd_ne nDq];exact hDb,us++[(av,1+(i:Int),lg)],?_,fun u hu=>?_,upd_same,?_,?_,?_⟩
         . rw[List.map_append,e1,List.take_add_one,hxa];rfl
         . rcases List.mem_append.mp hu with z | z
           . exact hus u z
           . rw[List.mem_singleton.mp z];exact⟨rfl,hL lg hlg⟩
         . rw[List.map_append]
           refine (TA.keep fun c zs e=>?_).snoc ⟨q,rfl,by rw[upd_ne nDq.symm,upd_same];rfl,by simp[tl]⟩
           have e':=sb _ _ (TP.neT e) e
           rw[upd_ne (ne_of e' hDb (by intro z;cases z)),upd_ne (ne_of_none e' hq)]
           exact e'
         . exact ((Tb.laid hq).upd nD3.1 nD3.2).mono (by omega)
         . exact (sa.trans (sb.trans (Sm.laid hq))).chg hD3
       . obtain⟨us,e1,hus,hDa,TA,TP,sa⟩:=z
         rw[List.length_map,List.take_of_length_le (Nat.le_refl _)] at e1
         rw[List.length_map] at TP
         have hul:us.length=as'.length:=by rw[<-e1,List.length_map]
         have hDDa:=sa _ _ nD hD9
         have h9l:=TA9.length
         have hal:=TA.length
         rw[List.length_map] at h9l hal
         have hii:i<=10:=by omega
         have hmm:i*(i+1)<=10*11:=Nat.mul_le_mul hii (by omega)
         refine⟨D,D3,_,_,rfl,rfl,hDDa,hDa,Nat.le_of_lt (small_line (by omega)),?_⟩
         refine⟨_,_,rfl,m+(i+1),?_,?_⟩
         . have:(i+1)*(i+1+1)=i*(i+1)+2*(i+1):=by rw[Nat.mul_comm (i+1) (i+1+1),Nat.add_mul (i+1) 1,Nat.add_mul i 1 (i+1)];omega
           omega
         . refine⟨(W8.sm.trans sa).chg hD0,(TP.upd nD nDp).mono (by omega),by rw[upd_ne npD];exact sa _ _ npl W8.pool,_,ts9++us,upd_same,?_,?_,by rw[List.length_append];omega⟩
           . rw[List.map_append]
             refine tups_app (TA9.keep fun c zs e=>?_) (TA.keep fun c zs e=>?_)
             . have e':=sa _ _ (W8.tp.neT e) e
               rw[upd_ne (ne_of e' hDDa (by intro z;cases z))];exact e'
             . rw[upd_ne (ne_of e hDDa (by intro z;cases z))];exact e
           . rw[show (1:Int)+((i+1:Nat):Int)=(1+(i:Int))+1 by omega]
             refine tr9.more (fun u hu=>?_) (by rw[e1];exact nd')
             have h1:=ha' u.1 (by rw[<-e1];exact List.mem_map_of_mem hu)
             have h2:=hus u hu
             exact⟨h1.1,h1.2,h2⟩
   case after=>
    rintro σ H5 ⟨vb,vs,rfl,m,hm,W⟩
    obtain⟨ys,ts,hD5,TA,tr,hl5⟩:=W.ties
    have hii:(1+r0-1).toNat<=10:=by omega
    have hmm:(1+r0-1).toNat*((1+r0-1).toNat+1)<=10*11:=Nat.mul_le_mul hii (by omega)
    refine⟨_,rfl,_,rfl,D,ys,ts.map tl,rfl,SqL.of hD5,TA,by rw[List.length_map];omega,fun l us ms hl TA4 hpm _=>?_⟩
    refine⟨l,us,rfl,.inl ⟨SqL.of upd_same,fun ta hta=>?_⟩⟩
    obtain⟨ts',ets,hpt⟩:∃ts':List T3,ts'.map tl=ms/\ts'.Perm ts:=by
     refine⟨ms.map fun k=>(k.getD 0 0,k.getD 1 0,k.getD 2 0),?_,?_⟩
     . rw[List.map_map]
       conv=>rhs;rw[<-List.map_id ms]
       refine List.map_congr_left fun k hk=>?_
       obtain⟨t',_,rfl⟩:=List.mem_map.mp (hpm.mem_iff.mp hk)
       rfl
     . have:=hpm.map fun k:List Int=>((k.getD 0 0,k.getD 1 0,k.getD 2 0):T3)
       rw[List.map_map] at this
       have e:ts.map ((fun k:List Int=>((k.getD 0 0,k.getD 1 0,k.getD 2 0):T3))∘tl)=ts:=by
        conv=>rhs;rw[<-List.map_id ts]
        exact List.map_congr_left fun t' _=>rfl
       rw[e] at this
       exact this
    refine⟨by show 2<=sizeLine;decide,fun wa hwa=>?_⟩
    have sl:=(same_laid (o:=.lst us) hl).trans (same_laid (o:=.tup us) hta)
    have sw:=sl.trans (same_laid (o:=.tup [.int (1+r0),.ref ta]) hwa)
    have nwt:wa≠t:=(W.tp.ne (none_back sl hwa)).1
    have h0:H wa=none:=by
     cases q:H wa with
     | none=>rfl
     | some o=>rw[sl _ _ (W.sm _ _ nwt q)] at hwa;cases hwa
    refine k wa (1+r0) ts' _ h0 (by omega) ⟨ta,us,upd_same,same_laid hwa _ _ upd_same,?_,?_⟩ ⟨p,(W.tp.same sw).mono (by omega)⟩ (W.sm.trans (Sm.of sw))
    . rw[ets]
      exact TA4.keep fun c zs e=>sw _ _ e
    . refine⟨by omega,by omega,by rw[hpt.length_eq];omega,fun t' ht'=>?_,?_⟩
      . have:=tr.1 t' (hpt.mem_iff.mp ht')
        have e:((1:Int)+((1+r0-1).toNat:Int))=1+r0:=by omega
        rw[e] at this
        exact this
      . exact (List.Perm.pairwise_iff (R:=fun s t:T3=>¬ (s.1=t.1/\s.2.1=t.2.1)) (fun h e=>h ⟨e.1.symm,e.2.symm⟩) hpt).mpr tr.2
end
end K68
namespace K68
open PySem L2 WM
theorem ifT {c:Bool}{p q:Prop}(h:c=true)(hp:p):(if c=true then p else q):=by rw[if_pos h];exact hp
theorem ifF {c:Bool}{p q:Prop}(h:c=false)(hq:q):(if c=true then p else q):=by rw[if_neg (by simp[h])];exact hq
def spTies:Sp:=fun vs H Q _=>∃(wa:Addr)(n:Int)(ts:List T3)(p:Int),vs=[.ref wa,.int p]/\WebAt H wa n ts /\
 ∀(l:Addr)(zs:List V)(ms:List (List Int))(H':Hp),Same H H'->H l=none->H' l=some (.lst zs)->TupsAre H' zs ms->ms.Perm (fd p ts)->Rises ms->Q (.ref l) H'
section
variable {P:Program}{w:World}{K:PySem.W.Frag}{mg:Str->Option Value}{base:Heap}
theorem scTies:FnScope ["web", "place", "found", "a", "b", "long"] ["web", "place"] (defScope sTies):=⟨rfl,rfl,rfl,by decide +kernel,rfl,by decide +kernel,by decide +kernel⟩
theorem ok_ties {f:Addr}{fd':FuncData}(F:Fun K "ties_at" "ties_at" sTies f fd') (mSorted:mg "sorted" = none):FnOk P w K mg base CX0 1 f fd' ["web", "place"] spTies:=by
 refine F.ok scTies (fun vs H Q E h=>?_) (fun cdv A outer s H vs Q E hr h=>?_)
 . obtain⟨wa,n,ts,p,rfl,_⟩:=h
   rfl
 . obtain⟨wa,n,ts,p,rfl,⟨ta,tys,hwa,hta,TA,G⟩,k⟩:=h
   refine⟨_,pss_cons (ps_set (i:=2) scTies.nd rfl (Or.inl rfl) (pe_lst pa_nil))
    (pss_cons (ps_for PassesOwn.never rfl (pi_tup (pe_ix ix_tup (pv 0) pe_int (fun _ _=>rfl))) (pg_tup rfl (pgs_cons (pg_name (i:=3) scTies.nd rfl (Or.inl rfl)) (pgs_cons (pg_name (i:=4) scTies.nd rfl (Or.inl rfl)) (pgs_cons (pg_name (i:=5) scTies.nd rfl (Or.inl rfl)) pgs_nil))))
     (pss_cons (ps_if (pt_cmpR op_eq (pv 3) (pv 1) (nomark _)) (pss_one (ps_expr (pe_bm PySem.F.plainAttrs_list PySem.F.slot_list_append PySem.F.type_list_append mt_append (pv 2) (pa_cons (pe_tup (pa_cons (pv 4) (pa_cons (pv 5) pa_nil))) pa_nil)))) pss_nil)
     (pss_one (ps_if (pt_cmpR op_eq (pv 4) (pv 1) (nomark _)) (pss_one (ps_expr (pe_bm PySem.F.plainAttrs_list PySem.F.slot_list_append PySem.F.type_list_append mt_append (pv 2) (pa_cons (pe_tup (pa_cons (pv 3) (pa_cons (pv 5) pa_nil))) pa_nil)))) pss_nil))))
    (pss_one (ps_ret (pe_callB call_sorted (by rfl) mSorted (by decide +kernel) (pa_cons (pv 2) pa_nil))))),?_⟩
   refine⟨Nat.zero_le _,fun l hl=>?_⟩
   have hwl:wa≠l:=ne_of_none hwa hl
   have htl:ta≠l:=ne_of_none hta hl
   have hlt:tys.length=ts.length:=by rw[TA.length,List.length_map]
   refine⟨_,rfl,wa,_,_,_,rfl,rfl,SqT.of (by rw[upd_ne hwl];exact hwa),rfl,ta,rfl,⟨_,SqT.of (by rw[upd_ne htl];exact hta)⟩,for_tup (K:=K) (a:=ta) (xs:=tys)
    (fun i σ H2=>∃(va vb vl:Option V)(xs:List V),σ=[some (.ref wa),some (.int p),some (.ref l),va,vb,vl]/\Same H H2/\H2 l=some (.lst xs)/\TupsAre H2 xs (fd p (ts.take i)))
    ⟨none,none,none,[],rfl,same_laid hl,upd_same,trivial⟩ (fun i σ H2 _ ⟨_,_,_,_,_,s2,_⟩=>SqT.of (s2 _ _ hta)) ?turn ?after⟩
   case turn=>
    rintro i y σ H2 hi ⟨va,vb,vl,xs,rfl,s2,hl2,T2⟩
    obtain⟨ya,ky,rfl,hky,hya,_⟩:=TA.get hi
    rw[List.getElem?_map] at hky
    obtain⟨⟨a,b,c⟩,hti,rfl⟩:∃t:T3,ts[i]? = some t/\tl t=ky:=by
     cases e:ts[i]? with
     | none=>rw[e] at hky;cases hky
     | some t=>rw[e] at hky;exact⟨t,rfl,Option.some.inj hky⟩
    have hil:i<ts.length:=(List.getElem?_eq_some_iff.mp hti).1
    have hlen:∀{xs':List V}{H3:Hp},TupsAre H3 xs' (fd p (ts.take i))->xs'.length<sizeLine:=fun T=>by
     have e1:=T.length
     have e2:=fd_len (n:=n) p (ts:=ts.take i) fun t ht=>(G.rng t (List.mem_of_mem_take ht)).2.1
     rw[List.length_take] at e2
     exact small_line (by have:=G.len;omega)
    have hfd:fd p (ts.take (i+1))=fd p (ts.take i)++((if a=p then [[b,c]] else [])++(if b=p then [[a,c]] else [])):=by
     rw[List.take_add_one,hti,fd_append]
     show _++((if a=p then [[b,c]] else [])++(if b=p then [[a,c]] else [])++[])=_
     rw[List.append_nil]
    have hab:a<b:=(G.rng _ (List.mem_of_getElem? hti)).2.1
    refine⟨ya,_,rfl,SqT.of (s2 _ _ hya),rfl,_,_,rfl,_,_,rfl,_,_,rfl,rfl,?_⟩
    have app:∀{x:Int},∀q,H2 q=none->∃xs',(upd (upd H2 q (.tup [.int x,.int c])) l (.lst (xs++[.ref q]))) l=some (.lst xs')/\Same H (upd (upd H2 q (.tup [.int x,.int c])) l (.lst (xs++[.ref q])))/\TupsAre (upd (upd H2 q (.tup [.int x,.int c])) l (.lst (xs++[.ref q]))) xs' (fd p (ts.take i)++[[x,c]]):=by
     intro x q hq
     have nlq:l≠q:=ne_of_none hl2 hq
     refine⟨_,upd_same,same_chg (s2.trans (same_laid hq)) hl,(T2.keep fun e ys he=>?_).snoc ⟨q,rfl,by rw[upd_ne nlq.symm,upd_same];rfl,by simp⟩⟩
     rw[upd_ne (ne_of he hl2 (by intro z;cases z)),upd_ne (ne_of_none he hq)]
     exact he
    refine⟨_,rfl,_,rfl,rfl,_,rfl,?_⟩
    refine ite2 (fun h1=>?_) (fun h1=>?_)
    . have e1:a=p:=by have:=of_decide_eq_true h1;injection this
      have n2:¬ b=p:=by omega
      refine⟨_,rfl,.inl ⟨rfl,_,SqL.of hl2⟩,_,rfl,_,rfl,by show 2<=sizeLine;decide,fun q hq=>?_⟩
      have nlq:l≠q:=ne_of_none hl2 hq
      refine⟨l,_,_,rfl,rfl,by rw[upd_ne nlq];exact hl2,hlen T2,?_⟩
      refine⟨_,rfl,_,rfl,rfl,_,rfl,?_⟩
      rw[show decide (V.int b=V.int p)=false from decide_eq_false fun e=>n2 (by injection e)]
      refine iteF ?_
      obtain⟨xs',g1,g2,g3⟩:=app (x:=b) q hq
      refine⟨_,_,_,xs',rfl,g2,g1,?_⟩
      rw[hfd,if_pos e1,if_neg n2]
      exact g3
    . have n1:¬ a=p:=fun e=>by
       have:=h1
       rw[e] at this
       exact this (decide_eq_true rfl)
      refine⟨_,rfl,_,rfl,rfl,_,rfl,?_⟩
      refine ite2 (fun h2=>?_) (fun h2=>?_)
      . have e2:b=p:=by have:=of_decide_eq_true h2;injection this
        refine⟨_,rfl,.inl ⟨rfl,_,SqL.of hl2⟩,_,rfl,_,rfl,by show 2<=sizeLine;decide,fun q hq=>?_⟩
        have nlq:l≠q:=ne_of_none hl2 hq
        refine⟨l,_,_,rfl,rfl,by rw[upd_ne nlq];exact hl2,hlen T2,?_⟩
        obtain⟨xs',g1,g2,g3⟩:=app (x:=a) q hq
        refine⟨_,_,_,xs',rfl,g2,g1,?_⟩
        rw[hfd,if_neg n1,if_pos e2]
        exact g3
      . have n2:¬ b=p:=fun e=>by
         have:=h2
         rw[e] at this
         exact this (decide_eq_true rfl)
        refine⟨_,_,_,xs,rfl,s2,hl2,?_⟩
        rw[hfd,if_neg n1,if_neg n2,List.append_nil,List.append_nil]
        exact T2
   case after=>
    rintro σ H2 ⟨va,vb,vl,xs,rfl,s2,hl2,T2⟩
    rw[hlt,List.take_of_length_le (Nat.le_refl _)] at T2
    have e2:=fd_len (n:=n) p (ts:=ts) fun t ht=>(G.rng t ht).2.1
    refine⟨_,rfl,l,xs,fd p ts,rfl,SqL.of hl2,T2,by have:=G.len;omega,fun l' zs ms hl' T3 hp hrs=>?_⟩
    have nll:l'≠l:=fun e=>by rw[e,hl2] at hl';cases hl'
    have hl0:H l'=none:=by
     cases q:H l' with
     | none=>rfl
     | some o=>have:=s2 l' o q;rw[hl'] at this;cases this
    exact k l' zs ms _ (s2.trans (same_laid hl')) hl0 upd_same (T3.keep fun e ys he=>same_laid hl' _ _ he) hp hrs
end
theorem heads_rise {ms:List (List Int)}(h:Rises ms)(hk:∀k∈ms,∃y l,k=[y,l])(hn:(ms.map hd).Nodup):(ms.map hd).Pairwise (· < ·):=by
 rw[List.pairwise_map]
 rw[List.Nodup,List.pairwise_map] at hn
 have both:ms.Pairwise fun a b=>HT.lexLt b a=false/\hd a≠hd b:=by
  rw[List.pairwise_iff_getElem]
  intro i j hi hj hij
  exact⟨List.pairwise_iff_getElem.mp h i j hi hj hij,List.pairwise_iff_getElem.mp hn i j hi hj hij⟩
 refine both.imp_of_mem fun {a b} ha hb hab=>?_
 obtain⟨y,l,rfl⟩:=hk a ha
 obtain⟨z,m,rfl⟩:=hk b hb
 obtain⟨h1,h2⟩:=hab
 have h2':y≠z:=h2
 rw[HT.lexLt_cons,if_neg (Ne.symm h2')] at h1
 have:=of_decide_eq_false h1
 show y<z
 omega
theorem eqV_int (a b:Int):eqV (.int a) (.int b)=(a==b):=rfl
theorem inV_ints {z:Int}:∀{l:List Int},inV (.int z) (l.map V.int)=decide (z∈l)
 | []=>rfl
 | x::r=>by
  show (eqV (.int x) (.int z) || inV (.int z) (r.map V.int))=_
  rw[inV_ints (l:=r),eqV_int]
  by_cases h:x=z
  . subst h;simp
  . have h':(x==z)=false:=by simpa using h
    rw[h',Bool.false_or]
    simp[Ne.symm h]
theorem flat_ints:∀(l:List Int),(l.map V.int).all flatV=true
 | []=>rfl
 | _::r=>by rw[List.map_cons,List.all_cons,flat_ints r];rfl
theorem dec_int' {i j:Int}:decide (V.int i=V.int j)=decide (i=j):=by
 by_cases h:i=j
 . subst h;simp
 . rw[decide_eq_false h,decide_eq_false fun e=>h (by injection e)]
end K68
namespace K68
open PySem L2 WM
def lamP:Pos:=⟨47,36,47,64⟩
abbrev lamQ:Str:=(("nearest" : Str) ++ ".<locals>.") ++ "<lambda>"
abbrev Tb (H:Hp)(PT:Addr):Prop:=TabAt H PT lamP lamQ
def spNear (PT:Addr):Sp:=fun vs H Q _=>∃(d:Addr)(n:Int)(kvs:List (Key×V))(wt:Int->Option Int),vs=[.ref d]/\H d=some (.dK kvs)/\WD n kvs wt/\0<=n/\n<=24/\kvs≠[]/\Tb H PT /\
 ∀(M e:Int)(H':Hp),wt M=some e->(∀q f,wt q=some f->e<=f)->SmT H H'->Tb H' PT->Q (.int M) H'
def spFrom (PT:Addr):Sp:=fun vs H Q _=>∃(wa:Addr)(n:Int)(ts:List T3)(s:Int),vs=[.ref wa,.int s]/\WebAt H wa n ts/\0<=s/\s<n/\Tb H PT /\
 ∀(l:Addr)(kn:List (Option Int))(H':Hp),SmT H H'->Tb H' PT->H' l=some (.tup (kn.map oV))->Lens ts n s kn->Q (.ref l) H'
theorem WebAt.smT {H H':Hp}{wa:Addr}{n:Int}{ts:List T3}(h:WebAt H wa n ts)(k:SmT H H'):WebAt H' wa n ts:=h.keepT fun b ys e=>by
 rcases k b _ e with ⟨ps,z⟩ | z
 . cases z
 . exact z
section
variable {P:Program}{w:World}{K:PySem.W.Frag}{mg:Str->Option Value}{base:Heap}{PT:Addr}
theorem scNear:FnScope ["waiting"] ["waiting"] (defScope sNear):=⟨rfl,rfl,rfl,by decide +kernel,rfl,by decide +kernel,by decide +kernel⟩
theorem ok_near {f c:Addr}{fd':FuncData}(F:FunC K "nearest" "nearest" sNear f fd' c) (C:PySem.W.CodeHd base c PT)(hbm:BmAt mg base)(mMin:mg "min" = none) (mSorted:mg "sorted" = none):FnOk P w K mg base CX0 2 f fd' ["waiting"] (spNear PT):=by
 refine F.ok scNear (fun vs H Q E h=>?_) (fun A outer s H vs Q E hr h=>?_)
 . obtain⟨d,n,kvs,wt,rfl,_⟩:=h
   rfl
 . obtain⟨d,n,kvs,wt,rfl,hd,W,hn0,hn,hne,T,k⟩:=h
   refine⟨_,pss_one (ps_ret (pe_minkey (k:=0) (j:=0) (P:=PT) (c:=c) (dn := "waiting") (pn := "place") rfl hr rfl mMin (pa_cons (pe_callB (call_sortedK rfl) (by rfl) mSorted (by decide +kernel) (pa_cons (pv 0) pa_nil)) pa_nil) rfl C hbm rfl rfl rfl rfl rfl (by decide +kernel) (free_of rfl) rfl rfl rfl (fun _ _ _ _ _ _ _=>rfl))),?_⟩
   have hl:=W.len hn0
   refine⟨_,rfl,d,kvs,keysW kvs,rfl,hd,W.keys,by unfold keysW;rw[List.length_map];omega,fun l ms hl' hp _=>?_⟩
   have mem:∀x,x∈ms->∃e,wt x=some e:=fun x hx=>W.mem.mp (hp.mem_iff.mp hx)
   refine⟨l,d,ms,kvs,fun x=>(wt x).getD 0,rfl,upd_same,fun e=>?_,rfl,by rw[upd_ne (ne_of_none hd hl')];exact hd,fun x hx=>?_,T.same (same_laid hl'),fun M H2 hM hb sm T2=>?_⟩
   . subst e
     have:=hp.length_eq
     unfold keysW at this
     rw[List.length_map] at this
     exact hne (List.eq_nil_of_length_eq_zero this.symm)
   . obtain⟨e,he⟩:=mem x hx
     show valV kvs (Sum.inl x)=some (.int ((wt x).getD 0))
     rw[W.at_ x,he];rfl
   . obtain⟨e,he⟩:=mem M hM
     refine k M e H2 he (fun q f hq=>?_) ((SmT.of (same_laid hl')).trans sm) T2
     have hq':q∈ms:=hp.mem_iff.mpr (W.mem.mpr ⟨f,hq⟩)
     have:=hb q hq'
     simp only[he,hq,Option.getD_some] at this
     exact this
theorem scFrom:FnScope ["web", "start", "known", "waiting", "place", "other", "long", "far"] ["web", "start"] (defScope sFrom):=⟨rfl,rfl,rfl,by decide +kernel,rfl,by decide +kernel,by decide +kernel⟩
theorem map_oV_set {kn:List (Option Int)}{j:Nat}{o:Option Int}:(kn.map oV).set j (oV o)=(kn.set j o).map oV:=by rw[List.map_set]
theorem oV_non {o:Option Int}:decide (oV o=V.non)=o.isNone:=by
 cases o with
 | none=>rfl
 | some d=>exact decide_eq_false (by intro e;cases e)
theorem ok_from {f fN fT c:Addr}{fd' fdN fdT:FuncData}(F:Fun K "lengths_from" "lengths_from" sFrom f fd') (FN:FunC K "nearest" "nearest" sNear fN fdN c) (bN:Binds K fdN ["waiting"] []) (mN:mg "nearest" = some (.ref fN)) (FT:Fun K "ties_at" "ties_at" sTies fT fdT) (bT:Binds K fdT ["web", "place"] []) (mT:mg "ties_at" = some (.ref fT))
 (C:PySem.W.CodeHd base c PT)(hbm:BmAt mg base)(mMin:mg "min" = none) (mSorted:mg "sorted" = none) (mTuple:mg "tuple" = none):FnOk P w K mg base CX0 3 f fd' ["web", "start"] (spFrom PT):=by
 have GN:FnOk P w K mg base CX0 2 fN fdN ["waiting"] (spNear PT):=ok_near FN C hbm mMin mSorted
 have GT:FnOk P w K mg base CX0 2 fT fdT ["web", "place"] spTies:=(ok_ties FT mSorted).mono (by decide)
 refine F.ok scFrom (fun vs H Q E h=>?_) (fun cdv A outer s H vs Q E hr h=>?_)
 . obtain⟨wa,n,ts,st,rfl,_⟩:=h
   rfl
 . obtain⟨wa,n,ts,st,rfl,W,hs0,hs1,T,k⟩:=h
   obtain⟨ta,tys,hwa,_,_,G⟩:=id W
   have hu:=hu_of hr
   have hn1:=G.n1
   have hn24:=G.n24
   refine⟨_,pss_cons (ps_set (i:=2) scFrom.nd rfl (Or.inl rfl) (pe_op op_rep (pe_lst (pa_cons pe_non pa_nil)) (pe_ix ix_tup (pv 0) pe_int (fun _ _=>rfl))))
    (pss_cons (ps_set (i:=3) scFrom.nd rfl (Or.inl rfl) (pe_disp (pps_cons (pv 1) pe_int pps_nil) rfl rfl (by decide) (by decide)))
    (pss_cons (ps_while PassesOwn.never (pt_truth (pv 3) (fun _=>rfl))
     (pss_cons (ps_set (i:=4) scFrom.nd rfl (Or.inl rfl) (pe_call GN hr rfl mN FN.kp bN .nil pass0 (pa_cons (pv 3) pa_nil)))
     (pss_cons (ps_asg (pe_dpop1 (pv 3) (pv 4) ⟨rfl,rfl,rfl,rfl⟩) (pg_sub (pv 2) (pv 4) set_list))
     (pss_one (ps_for PassesOwn.never rfl (pi_list (pe_call GT hr rfl mT FT.kp bT .nil pass0 (pa_cons (pv 0) (pa_cons (pv 4) pa_nil)))) (pg_tup rfl (pgs_cons (pg_name (i:=5) scFrom.nd rfl (Or.inl rfl)) (pgs_cons (pg_name (i:=6) scFrom.nd rfl (Or.inl rfl)) pgs_nil)))
      (pss_one (ps_if (pt_cmpR op_isN (pe_ix ix_list (pv 2) (pv 5) (fun _ _=>rfl)) pe_non (nomark _))
       (pss_cons (ps_set (i:=7) scFrom.nd rfl (Or.inl rfl) (pe_op op_add (pe_ix ix_list (pv 2) (pv 4) (fun _ _=>rfl)) (pv 6)))
       (pss_one (ps_dput hu (pv 3) (pv 5) (pe_callB (call_min2 rfl) (by rfl) mMin (by decide +kernel) (pa_cons (pv 7) (pa_cons (pe_dget2 hu (pv 3) (pv 5) (pv 7) ⟨rfl,rfl,rfl,rfl⟩) pa_nil))) rfl))) pss_nil)))))))
    (pss_one (ps_ret (pe_callTy call_tuple_of (by rfl) mTuple (by decide +kernel) (pa_cons (pv 2) pa_nil)))))),?_⟩
   refine⟨by show 1<=sizeLine;decide,fun l0 hl0=>?_⟩
   refine⟨_,rfl,wa,_,_,_,rfl,rfl,SqT.of (same_laid hl0 _ _ hwa),rfl,l0,n,_,rfl,rfl,upd_same,by omega,by omega,?_,fun kl hkl=>?_⟩
   . have:sizeLine=16777216:=rfl
     show 1*n.toNat<=sizeLine
     omega
   have s1:Same H (upd (upd H l0 (.lst [.non])) kl (.lst (List.replicate n.toNat [V.non]).flatten)):=(same_laid hl0).trans (same_laid hkl)
   have erep:(List.replicate n.toNat [V.non]).flatten=(List.replicate n.toNat (none:Option Int)).map oV:=by
    generalize n.toNat=m
    induction m with
    | zero=>rfl
    | succ m ih=>rw[List.replicate_succ,List.flatten_cons,ih,List.replicate_succ];rfl
   rw[erep] at s1 ⊢
   have hk1:(upd (upd H l0 (.lst [.non])) kl (.lst ((List.replicate n.toNat (none:Option Int)).map oV))) kl=some (.lst ((List.replicate n.toNat (none:Option Int)).map oV)):=upd_same
   generalize hH1:upd (upd H l0 (.lst [.non])) kl (.lst ((List.replicate n.toNat (none:Option Int)).map oV))=H1 at s1 hk1 ⊢
   intro wd hwd
   refine⟨_,rfl,upd_same,[(Sum.inl st,.int 0)],rfl,by show 1<=15;decide,?_⟩
   have s2:Same H (upd (upd H1 wd (.dK [])) wd (.dK [(Sum.inl st,.int 0)])):=by rw[upd_upd];exact s1.trans (same_laid hwd)
   have nkw:kl≠wd:=ne_of_none hk1 hwd
   rw[show mergeK [] [((Sum.inl st:Key),V.int 0)]=[((Sum.inl st:Key),V.int 0)] from rfl,upd_upd]
   rw[upd_upd] at s2
   refine⟨fun m σ H2=>∃(kn:List (Option Int))(kvs:List (Key×V))(wt:Int->Option Int)(v4 v5 v6 v7:Option V),σ=[some (.ref wa),some (.int st),some (.ref kl),some (.ref wd),v4,v5,v6,v7]/\m=n.toNat-cnt kn/\SmT H H2/\Tb H2 PT/\H2 kl=some (.lst (kn.map oV))/\H2 wd=some (.dK kvs)/\WD n kvs wt/\Dl ts n st kn wt,
    ⟨_,_,_,_,_,_,_,_,rfl,rfl,SmT.of s2,T.same s2,by rw[upd_ne nkw];exact hk1,upd_same,WD.one hs0 hs1,Dl.start G hs0 hs1⟩,?_⟩
   rintro m σ H2 ⟨kn,kvs,wt,v4,v5,v6,v7,rfl,rfl,sm,T2,hk2,hw2,WW,D⟩
   cases hkb:kvs.isEmpty with
   | true=>
    refine⟨_,rfl,false,.inr (.inr ⟨kvs,hw2,by rw[hkb];rfl⟩),?_⟩
    refine iteF ?_
    have hkv:kvs=[]:=List.isEmpty_iff.mp hkb
    have hnone:∀q,wt q=none:=fun q=>by
     cases e:wt q with
     | none=>rfl
     | some d=>
      have:=WW.mem.mpr ⟨d,e⟩
      rw[hkv] at this
      simp[keysW] at this
    refine⟨_,rfl,kl,_,rfl,.inl ⟨SqL.of hk2,fun q hq=>?_⟩⟩
    exact k q kn _ (sm.trans (SmT.of (same_laid hq))) (T2.same (same_laid hq)) upd_same (D.done G hnone)
   | false=>
    refine⟨_,rfl,true,.inr (.inr ⟨kvs,hw2,by rw[hkb];rfl⟩),?_⟩
    refine iteT ?_
    have hne:kvs≠[]:=by intro e;rw[e] at hkb;cases hkb
    refine⟨fun σ' H'=>∃(kn':List (Option Int))(kvs':List (Key×V))(wt':Int->Option Int)(v4 v5 v6 v7:Option V),σ'=[some (.ref wa),some (.int st),some (.ref kl),some (.ref wd),v4,v5,v6,v7]/\cnt kn'=cnt kn+1/\SmT H H'/\Tb H' PT/\H' kl=some (.lst (kn'.map oV))/\H' wd=some (.dK kvs')/\WD n kvs' wt'/\Dl ts n st kn' wt',?_,?_⟩
    . rintro σ' H' ⟨kn',kvs',wt',v4',v5',v6',v7',rfl,hc,sm',T',hk',hw',WW',D'⟩
      have h1:=cnt_le kn'
      have h2:=D'.ln
      exact⟨n.toNat-cnt kn',by omega,kn',kvs',wt',v4',v5',v6',v7',rfl,rfl,sm',T',hk',hw',WW',D'⟩
    refine⟨_,rfl,wd,n,kvs,wt,rfl,hw2,WW,by omega,hn24,hne,T2,fun M e H3 hM hmin sm3 T3=>?_⟩
    have hk3:H3 kl=some (.lst (kn.map oV)):=sm3.get hk2 (by intro ps z;cases z)
    have hw3:H3 wd=some (.dK kvs):=sm3.get hw2 (by intro ps z;cases z)
    obtain⟨hknM,hM0,hM1,hcnt,N0⟩:=D.enter G hM hmin
    have hval:valV kvs (Sum.inl M)=some (.int e):=by rw[WW.at_ M,hM];rfl
    refine⟨_,rfl,wd,rfl,.inl ⟨kvs,.inl hw3⟩,_,rfl,kvs,Sum.inl M,_,hw3,rfl,hval,?_⟩
    have hlk:(kn.map oV).length=n.toNat:=by rw[List.length_map];exact D.ln
    have hk3':(upd H3 wd (.dK (dropK kvs (Sum.inl M)))) kl=some (.lst (kn.map oV)):=by rw[upd_ne nkw];exact hk3
    refine⟨_,rfl,_,rfl,kl,_,M,M.toNat,rfl,rfl,hk3',ixN_in hM0 (by rw[hlk];omega),?_⟩
    rw[show V.int e=oV (some e) from rfl,map_oV_set]
    have sm4:SmT H (upd (upd H3 wd (.dK (dropK kvs (Sum.inl M)))) kl (.lst ((kn.set M.toNat (some e)).map oV))):=by
     intro b o hb
     rcases (sm.trans sm3) b o hb with z | z
     . exact .inl z
     . right
       have n1:b≠wd:=fun q=>by
        have hbn:H b=none:=by
         rw[q]
         cases e':H wd with
         | none=>rfl
         | some o'=>have:=s1 wd o' e';rw[hwd] at this;cases this
        rw[hbn] at hb;cases hb
       have n2:b≠kl:=fun q=>by
        have hbn:H b=none:=by
         rw[q]
         cases e':H kl with
         | none=>rfl
         | some o'=>have:=same_laid (o:=.lst [.non]) hl0 kl o' e';rw[hkl] at this;cases this
        rw[hbn] at hb;cases hb
       rw[upd_ne n2,upd_ne n1];exact z
    have T4:Tb (upd (upd H3 wd (.dK (dropK kvs (Sum.inl M)))) kl (.lst ((kn.set M.toNat (some e)).map oV))) PT:=by
     refine T3.keep (fun o ho=>?_) fun c φ hc=>?_
     . obtain⟨ps,hps,_⟩:=T3
       have e1:=ho
       rw[hps] at e1;cases e1
       rw[upd_ne (ne_of ho hk3 (by intro z;cases z)),upd_ne (ne_of ho hw3 (by intro z;cases z))];exact ho
     . rw[upd_ne (ne_of hc hk3 (by intro z;cases z)),upd_ne (ne_of hc hw3 (by intro z;cases z))];exact hc
    have hk4:(upd (upd H3 wd (.dK (dropK kvs (Sum.inl M)))) kl (.lst ((kn.set M.toNat (some e)).map oV))) kl=some (.lst ((kn.set M.toNat (some e)).map oV)):=upd_same
    have hw4:(upd (upd H3 wd (.dK (dropK kvs (Sum.inl M)))) kl (.lst ((kn.set M.toNat (some e)).map oV))) wd=some (.dK (dropK kvs (Sum.inl M))):=by rw[upd_ne nkw.symm,upd_same]
    generalize upd (upd H3 wd (.dK (dropK kvs (Sum.inl M)))) kl (.lst ((kn.set M.toNat (some e)).map oV))=H4 at sm4 T4 hk4 hw4 ⊢
    refine⟨_,rfl,_,rfl,wa,n,ts,M,rfl,W.smT sm4,fun l zs ms H5 s5 hl5 hl5' T5 hp _=>?_⟩
    have hlz:=T5.length
    refine⟨l,rfl,⟨_,SqL.of hl5'⟩,for_list (K:=K) (a:=l) (xs:=zs) (fun i σ H6=>∃(kvs':List (Key×V))(wt':Int->Option Int)(v5 v6 v7:Option V),σ=[some (.ref wa),some (.int st),some (.ref kl),some (.ref wd),some (.int M),v5,v6,v7]/\(∀b o,b≠wd->H5 b=some o->H6 b=some o)/\H6 wd=some (.dK kvs')/\WD n kvs' wt'/\Dn ts n st M e (kn.set M.toNat (some e)) wt' (fun r=>∃j k,j<i/\ms[j]? = some k/\hd k=r))
     ⟨_,_,_,_,_,rfl,fun _ _ _ z=>z,s5 _ _ hw4,WW.drop,⟨⟨N0.dm.kd,N0.dm.wk,N0.dm.ord,fun q e' r l' hq ha=>(N0.dm.nb q e' r l' hq ha).imp (fun z=>⟨z.1,fun ⟨j,_,hj,_⟩=>absurd hj (Nat.not_lt_zero _)⟩) id,N0.dm.st,N0.dm.pd,N0.dm.mx⟩,N0.ln,N0.bk,N0.bd,N0.bw⟩⟩
     (fun i σ H6 _ ⟨_,_,_,_,_,_,s6,_⟩=>SqL.of (s6 l _ (ne_of hl5' (s5 _ _ hw4) (by intro z;cases z)) hl5')) ?turn ?after⟩
    case after=>
     rintro σ H6 ⟨kvs',wt',v5,v6,v7,rfl,s6,hw6,WW6,N6⟩
     have hk5:H5 kl=some (.lst ((kn.set M.toNat (some e)).map oV)):=s5 _ _ hk4
     refine⟨_,kvs',wt',_,_,_,_,rfl,hcnt,?_,?_,s6 kl _ nkw hk5,hw6,WW6,N6.leave fun r c ha=>?_⟩
     . intro b o hb
       rcases (sm4.trans (SmT.of s5)) b o hb with z | z
       . exact .inl z
       . right
         refine s6 b o (fun q=>?_) z
         have hbn:H b=none:=by
          rw[q]
          cases e':H wd with
          | none=>rfl
          | some o'=>have:=s1 wd o' e';rw[hwd] at this;cases this
         rw[hbn] at hb;cases hb
     . refine (T4.same s5).keep (fun o ho=>?_) fun c φ hc=>?_
       . obtain⟨ps,hps,_⟩:=T4.same s5
         refine s6 PT o (fun q=>?_) ho
         rw[q,s5 _ _ hw4] at hps;cases hps
       . refine s6 c _ (fun q=>?_) hc
         rw[q,s5 _ _ hw4] at hc;cases hc
     . have hm:[r,c]∈ms:=hp.mem_iff.mpr (mem_fd.mpr ⟨r,c,rfl,ha⟩)
       obtain⟨j,hj,ej⟩:=List.getElem_of_mem hm
       exact⟨j,[r,c],by omega,by rw[List.getElem?_eq_getElem hj,ej],rfl⟩
    case turn=>
     rintro i y σ H6 hi ⟨kvs',wt',v5,v6,v7,rfl,s6,hw6,WW6,N6⟩
     obtain⟨ya,ky,rfl,hky,hya,_⟩:=T5.get hi
     obtain⟨r,c,rfl,ha⟩:=mem_fd.mp (hp.mem_iff.mp (List.mem_of_getElem? hky))
     have hadj:=G.adj ha
     have hk6:H6 kl=some (.lst ((kn.set M.toNat (some e)).map oV)):=s6 kl _ nkw (s5 _ _ hk4)
     have hln:(kn.set M.toNat (some e)).length=n.toNat:=N6.ln
     have seen_of:∀{x:Int},(x=r\/∃j k,j<i/\ms[j]? = some k/\hd k=x)->∃j k,j<i+1/\ms[j]? = some k/\hd k=x:=fun {x} z=>by
      rcases z with rfl | ⟨j,k',hj,hk',e'⟩
      . exact⟨i,[x,c],Nat.lt_succ_self _,hky,rfl⟩
      . exact⟨j,k',Nat.lt_succ_of_lt hj,hk',e'⟩
     have sub:∀{x:Int},(∃j k,j<i+1/\ms[j]? = some k/\hd k=x)->(∃j k,j<i/\ms[j]? = some k/\hd k=x)\/x=r:=fun {x} ⟨j,k',hj,hk',e'⟩=>by
      by_cases hji:j<i
      . exact .inl ⟨j,k',hji,hk',e'⟩
      . have:j=i:=by omega
        subst this
        rw[hky] at hk';cases hk'
        exact .inr e'.symm
     have conv:∀{wt2:Int->Option Int},Dn ts n st M e (kn.set M.toNat (some e)) wt2 (fun x=>(∃j k,j<i/\ms[j]? = some k/\hd k=x)\/x=r)->Dn ts n st M e (kn.set M.toNat (some e)) wt2 (fun x=>∃j k,j<i+1/\ms[j]? = some k/\hd k=x):=fun {wt2} N=>
      ⟨⟨N.dm.kd,N.dm.wk,N.dm.ord,fun q e' r' l' hq ha'=>(N.dm.nb q e' r' l' hq ha').imp (fun z=>⟨z.1,fun y=>z.2 (sub y)⟩) id,N.dm.st,N.dm.pd,N.dm.mx⟩,N.ln,N.bk,N.bd,N.bw⟩
     refine⟨ya,_,rfl,SqT.of (s6 _ _ (ne_of hya (s5 _ _ hw4) (by intro z;cases z)) hya),rfl,_,_,rfl,_,_,rfl,rfl,?_⟩
     obtain⟨o,ho⟩:∃o,(kn.set M.toNat (some e))[r.toNat]? = some o:=⟨_,List.getElem?_eq_getElem (by omega)⟩
     have hfnl:fnl (kn.set M.toNat (some e)) r=o:=by
      unfold fnl
      rw[if_pos hadj.2.2.1,List.getD_eq_getElem?_getD,ho];rfl
     refine⟨_,rfl,_,rfl,kl,_,_,oV o,rfl,rfl,SqL.of hk6,atI_in hadj.2.2.1 (by rw[List.getElem?_map,ho];rfl),rfl,_,rfl,?_⟩
     rw[oV_non]
     cases o with
     | some f0=>
      refine iteF ?_
      exact⟨kvs',wt',_,_,_,rfl,s6,hw6,WW6,conv (N6.skip hfnl)⟩
     | none=>
      refine iteT ?_
      have hkM:(kn.set M.toNat (some e))[M.toNat]? = some (some e):=by
       rw[List.getElem?_set_self (by have:=D.ln;omega)]
      refine⟨_,rfl,_,rfl,kl,_,_,oV (some e),rfl,rfl,SqL.of hk6,atI_in hM0 (by rw[List.getElem?_map,hkM];rfl),_,rfl,_,_,rfl,rfl,?_⟩
      refine⟨_,rfl,_,rfl,wd,rfl,.inl ⟨kvs',.inl hw6⟩,_,rfl,_,rfl,_,DGet.k (k:=Sum.inl r) hw6,?_⟩
      have hg:((valV kvs' (Sum.inl r)).getD (V.int (e+c)))=V.int ((wt' r).getD (e+c)):=by
       rw[WW6.at_ r]
       cases wt' r <;> rfl
      rw[hg]
      refine⟨_,_,rfl,?_⟩
      have hwl:=WW6.len (by omega)
      refine⟨_,rfl,_,rfl,wd,_,rfl,DPut.k (k:=Sum.inl r) hw6 (small_line (by omega)),?_⟩
      exact⟨_,_,_,_,_,rfl,fun b o' hb z=>by rw[upd_ne hb];exact s6 b o' hb z,upd_same,WW6.put hadj.2.2.1 hadj.2.2.2.1,conv (N6.wait G ha hfnl)⟩
end
def spBwr:Sp:=fun vs H Q _=>∃(lh lt:Addr)(n:Int)(ts:List T3)(x y:Int)(kn1 kn2:List (Option Int)),vs=[.ref lh,.ref lt,.int y]/\GW n ts/\0<=x/\x<n/\0<=y/\y<n/\H lh=some (.tup (kn1.map oV))/\H lt=some (.tup (kn2.map oV))/\Lens ts n x kn1/\Lens ts n y kn2 /\
 ∀(l:Addr)(xs:List Int)(H':Hp),Same H H'->H' l=some (.tup (xs.map V.int))->xs.Pairwise (· < ·)->(∀p,p∈xs↔Btw ts x y p)->Q (.ref l) H'
def spNbr:Sp:=fun vs H Q _=>∃(wa lt:Addr)(n:Int)(ts:List T3)(x y:Int)(kn:List (Option Int)),vs=[.ref wa,.int x,.ref lt]/\WebAt H wa n ts/\0<=x/\x<n/\0<=y/\y<n/\H lt=some (.tup (kn.map oV))/\Lens ts n y kn /\
 ∀(l:Addr)(xs:List Int)(H':Hp),Same H H'->H' l=some (.tup (xs.map V.int))->xs.Pairwise (· < ·)->(∀p,p∈xs↔Nxt ts x y p)->Q (.ref l) H'
theorem Lens_get {ts:List T3}{n s:Int}{kn:List (Option Int)}(h:Lens ts n s kn){y:Int}(h0:0<=y)(h1:y<n):(kn.map oV)[y.toNat]? = some (oV (fnl kn y)):=by
 have hl:=h.ln
 have hlt:y.toNat<kn.length:=by omega
 rw[List.getElem?_map,List.getElem?_eq_getElem hlt]
 unfold fnl
 rw[if_pos h0,List.getD_eq_getElem?_getD,List.getElem?_eq_getElem hlt]
 rfl
theorem ints_succ (q:Nat):lowTo (q+1)=lowTo q++[(q:Int)]:=by unfold lowTo;rw[List.range_succ,List.map_append];rfl
theorem ints_len (q:Nat):(lowTo q).length=q:=by unfold lowTo;rw[List.length_map,List.length_range]
section
variable {P:Program}{w:World}{K:PySem.W.Frag}{mg:Str->Option Value}{base:Heap}{PT:Addr}
theorem scBwr:FnScope ["here", "there", "other", "reached"] ["here", "there", "other"] (defScope sBwr):=⟨rfl,rfl,rfl,by decide +kernel,rfl,by decide +kernel,by decide +kernel⟩
theorem ok_bwr {f:Addr}{fd':FuncData}(F:Fun K "between_rows" "between_rows" sBwr f fd') (mRange:mg "range" = none) (mTuple:mg "tuple" = none) (mLen:mg "len" = none):FnOk P w K mg base CX0 1 f fd' ["here", "there", "other"] spBwr:=by
 refine F.ok scBwr (fun vs H Q E h=>?_) (fun cdv A outer s H2 vs Q E hr h=>?_)
 . obtain⟨lh,lt,n,ts,x,y,kn1,kn2,rfl,_⟩:=h
   rfl
 . obtain⟨lh,lt,n,ts,x,y,kn1,kn2,rfl,G,hx0,hx1,hy0,hy1,hh2,hl2,L1,L2,k⟩:=h
   have hn24:=G.n24
   have hln:=L1.ln
   refine⟨_,pss_cons (ps_if (pt_cmpR op_isN (pe_ix ix_tup (pv 0) (pv 2) (fun _ _=>rfl)) pe_non (nomark _)) (pss_one (ps_ret (pe_tup pa_nil))) pss_nil)
    (pss_cons (ps_setC (i:=3) (own:=["place"]) (cn:=["here"]) (ci:=[0]) scBwr.nd rfl (Or.inl rfl) rfl (csc rfl rfl) ⟨rfl,rfl,rfl,trivial⟩ rfl
     (pi_range1 rfl mRange (pa_cons (pe_callB call_len_seq (by rfl) mLen PySem.boot_len (pa_cons (pv 0) pa_nil)) pa_nil)) (fun _ _ _ _=>pg_name (i:=0) (nd_of rfl) rfl (Or.inl rfl))
     (fun _ _ _ _=>pts_one (pt_cmpR op_notN (pe_ix ix_tupC (pv 1) (pv 0) (fun _ _=>rfl)) pe_non (nomark _))) (fun _ _ _ _=>pv 0))
    (pss_one (ps_ret (pe_callTy call_tuple_of (by rfl) mTuple (by decide +kernel) (pa_cons
     (pe_comp (own:=["place"]) (cn:=["here", "there", "other"]) (ci:=[0,1,2]) rfl (csc rfl rfl) ⟨rfl,rfl,rfl,rfl,rfl,rfl,rfl,rfl,rfl,trivial⟩ rfl
      (pi_list (pv 3)) (fun _ _ _ _=>pg_name (i:=0) (nd_of rfl) rfl (Or.inl rfl))
      (fun _ _ _ _=>pts_one (pt_cmpR op_eq (pe_op op_add (pe_ix ix_tupC (pv 1) (pv 0) (fun _ _=>rfl)) (pe_ix ix_tupC (pv 2) (pv 0) (fun _ _=>rfl))) (pe_ix ix_tupC (pv 1) (pv 3) (fun _ _=>rfl)) (nomark _)))
      (fun _ _ _ _=>pv 0)) pa_nil))))),?_⟩
   have hy:=L1.len y hy0 hy1
   refine⟨_,rfl,_,rfl,lh,_,_,oV (fnl kn1 y),rfl,rfl,SqT.of hh2,atI_in hy0 (Lens_get L1 hy0 hy1),rfl,_,rfl,?_⟩
   rw[oV_non]
   cases hd:fnl kn1 y with
   | none=>
    refine iteT ?_
    rw[hd] at hy
    refine⟨Nat.zero_le _,fun l hl=>k l [] _ (same_laid hl) upd_same List.Pairwise.nil fun p=>⟨fun z=>by simp at z,fun ⟨a,b,_,_,z⟩=>absurd z.1 (hy _)⟩⟩
   | some d=>
    refine iteF ?_
    rw[hd] at hy
    have hyD:WM.IsD ts x y d:=hy
    refine⟨_,rfl,lh,_,rfl,.inr (SqT.of hh2),n,by rw[List.length_map,hln];exact congrArg (fun z=>[V.int z]) (Int.toNat_of_nonneg (by omega)),by omega,by omega,[.ref lh],rfl,fun D hD=>?_⟩
    refine comp_range (lo:=0) (n:=n.toNat) (fun q ys H3=>q<=n.toNat/\ys=((lowTo q).filter fun o=>(fnl kn1 o).isSome).map V.int/\Same H2 H3/\H3 D=some (.lst ys)) ⟨Nat.zero_le _,rfl,same_laid hD,upd_same⟩ (fun q ys H3 h=>?_) (fun q ys H3 hq h=>?_) (fun ys H3 h=>?_)
    . obtain⟨hq,rfl,_⟩:=h
      rw[List.length_map]
      refine Nat.lt_of_le_of_lt (List.length_filter_le _ _) (small_line ?_)
      rw[ints_len];omega
    . obtain⟨_,rfl,s3,hD3⟩:=h
      rw[Int.zero_add]
      refine⟨⟨rfl,rfl⟩,?_⟩
      refine⟨_,rfl,_,rfl,lh,_,_,oV (fnl kn1 q),rfl,rfl,SqT.of (s3 _ _ hh2),atI_in (by omega) (Lens_get L1 (by omega) (by omega)),rfl,_,rfl,?_⟩
      rw[oV_non]
      cases e:fnl kn1 q with
      | none=>
       refine iteF ?_
       refine⟨hq,?_,s3,hD3⟩
       rw[ints_succ,List.filter_append,List.filter_cons_of_neg (by rw[e];decide),List.filter_nil,List.append_nil]
      | some a=>
       refine iteT ?_
       refine⟨_,rfl,hD3,hq,?_,same_chg s3 hD,upd_same⟩
       rw[ints_succ,List.filter_append,List.filter_cons_of_pos (by rw[e];rfl),List.filter_nil,List.map_append]
       rfl
    . obtain⟨_,rfl,s3,hD3⟩:=h
      generalize hR:((lowTo n.toNat).filter fun o=>(fnl kn1 o).isSome)=R at hD3 ⊢
      have hRm:∀p,p∈R↔(0<=p/\p<n)/\∃a,fnl kn1 p=some a:=fun p=>by
       rw[<-hR,List.mem_filter,mem_ints,Option.isSome_iff_exists]
       constructor
       . rintro ⟨z1,z2⟩;exact⟨by omega,z2⟩
       . rintro ⟨z1,z2⟩;exact⟨by omega,z2⟩
      have hRr:R.Pairwise (· < ·):=by rw[<-hR];exact (ints_rise _).sublist List.filter_sublist
      have hRl:R.length<=24:=by
       rw[<-hR]
       exact Nat.le_trans (List.length_filter_le _ _) (by rw[ints_len];omega)
      have both:∀p,p∈R->∃a b,fnl kn1 p=some a/\fnl kn2 p=some b/\WM.IsD ts x p a/\WM.IsD ts p y b:=fun p hp=>by
       obtain⟨⟨h0,h1⟩,a,ha⟩:=(hRm p).mp hp
       have l1:=L1.len p h0 h1
       rw[ha] at l1
       obtain⟨b,hb,_⟩:=Len.via (show WM.IsD ts x p a from l1) hyD (Len.symm (L2.len p h0 h1))
       have l2:=L2.len p h0 h1
       rw[hb] at l2
       exact⟨a,b,ha,hb,l1,WM.IsD.symm l2⟩
      refine⟨_,rfl,D,rfl,⟨_,SqL.of hD3⟩,[.ref lh,.ref lt,.int y],rfl,fun D2 hD2=>?_⟩
      have nDD:D≠D2:=ne_of_none hD3 hD2
      refine comp_list (a:=D) (xs:=R.map V.int) (fun i ys H4=>ys=((R.take i).filter fun p=>decide ((fnl kn1 p).getD 0+(fnl kn2 p).getD 0=d)).map V.int/\Same H3 H4/\H4 D2=some (.lst ys)) ⟨rfl,same_laid hD2,upd_same⟩ (fun i ys H4 h=>?_) (fun i ys H4 h=>?_) (fun i v ys H4 hv h=>?_) (fun ys H4 h=>?_)
      . obtain⟨_,s4,_⟩:=h
        exact SqL.of (s4 _ _ hD3)
      . obtain⟨rfl,_⟩:=h
        rw[List.length_map]
        refine Nat.lt_of_le_of_lt (List.length_filter_le _ _) (small_line ?_)
        rw[List.length_take];omega
      . obtain⟨rfl,s4,hD4⟩:=h
        obtain⟨p,hp,rfl⟩:∃p,R[i]? = some p/\V.int p=v:=by
         rw[List.getElem?_map] at hv
         cases e:R[i]? with
         | none=>rw[e] at hv;cases hv
         | some p=>rw[e] at hv;exact⟨p,rfl,Option.some.inj hv⟩
        have hpR:=List.mem_of_getElem? hp
        obtain⟨⟨h0,h1⟩,_⟩:=(hRm p).mp hpR
        obtain⟨a,b,ha,hb,_,_⟩:=both p hpR
        have hlh4:H4 lh=some (.tup (kn1.map oV)):=s4 _ _ (s3 _ _ hh2)
        have hlt4:H4 lt=some (.tup (kn2.map oV)):=s4 _ _ (s3 _ _ hl2)
        refine⟨⟨rfl,rfl⟩,?_⟩
        refine⟨_,rfl,_,rfl,lh,_,_,.int a,rfl,rfl,SqT.of hlh4,atI_in h0 (by rw[Lens_get L1 h0 h1,ha];rfl),?_⟩
        refine⟨_,rfl,_,rfl,lt,_,_,.int b,rfl,rfl,SqT.of hlt4,atI_in h0 (by rw[Lens_get L2 h0 h1,hb];rfl),_,_,rfl,rfl,?_⟩
        refine⟨_,rfl,_,rfl,lh,_,_,.int d,rfl,rfl,SqT.of hlh4,atI_in hy0 (by rw[Lens_get L1 hy0 hy1,hd];rfl),rfl,_,rfl,?_⟩
        rw[dec_int']
        have etk:(R.take (i+1)).filter (fun p=>decide ((fnl kn1 p).getD 0+(fnl kn2 p).getD 0=d))=(R.take i).filter (fun p=>decide ((fnl kn1 p).getD 0+(fnl kn2 p).getD 0=d))++(if a+b=d then [p] else []):=by
         rw[List.take_add_one,hp,List.filter_append]
         show _++List.filter _ [p]=_
         rw[List.filter_cons,ha,hb]
         by_cases c:a+b=d
         . rw[if_pos (by simpa using c),if_pos c];rfl
         . rw[if_neg (by simpa using c),if_neg c];rfl
        refine ite2 (fun c=>?_) (fun c=>?_)
        . have c':=of_decide_eq_true c
          refine⟨_,rfl,hD4,?_,same_chg s4 hD2,upd_same⟩
          rw[etk,if_pos c',List.map_append];rfl
        . have c':¬ a+b=d:=fun z=>c (decide_eq_true z)
          refine⟨?_,s4,hD4⟩
          rw[etk,if_neg c',List.append_nil]
      . obtain⟨rfl,s4,hD4⟩:=h
        rw[List.length_map,List.take_of_length_le (Nat.le_refl _)] at hD4
        refine⟨D2,_,rfl,.inl ⟨SqL.of hD4,fun q hq=>?_⟩⟩
        refine k q _ _ ((s3.trans s4).trans (same_laid hq)) upd_same (hRr.sublist List.filter_sublist) fun p=>?_
        rw[List.mem_filter]
        constructor
        . rintro ⟨hp,c⟩
          obtain⟨a,b,ha,hb,ia,ib⟩:=both p hp
          have c':=of_decide_eq_true c
          rw[ha,hb] at c'
          exact⟨a,b,ia,ib,by rw[show a+b=d from c'];exact hyD⟩
        . rintro ⟨a,b,ia,ib,iab⟩
          have hp:=ia.1.in_ G hx0 hx1
          have l1:=Len.uniq (L1.len p hp.1 hp.2) (show Len ts x p (some a) from ia)
          have l2:=Len.uniq (L2.len p hp.1 hp.2) (show Len ts y p (some b) from WM.IsD.symm ib)
          refine⟨(hRm p).mpr ⟨hp,a,l1⟩,decide_eq_true ?_⟩
          rw[l1,l2]
          exact WM.IsD.uniq iab hyD
theorem scNbr:FnScope ["web", "one", "there"] ["web", "one", "there"] (defScope sNbr):=⟨rfl,rfl,rfl,by decide +kernel,rfl,by decide +kernel,by decide +kernel⟩
def sl1 (k:List Int):Int:=k.getD 1 0
theorem ok_nbr {f fT:Addr}{fd' fdT:FuncData}(F:Fun K "next_by_row" "next_by_row" sNbr f fd')
 (FT:Fun K "ties_at" "ties_at" sTies fT fdT) (bT:Binds K fdT ["web", "place"] []) (mT:mg "ties_at" = some (.ref fT)) (mSorted:mg "sorted" = none) (mTuple:mg "tuple" = none):FnOk P w K mg base CX0 3 f fd' ["web", "one", "there"] spNbr:=by
 have GT:FnOk P w K mg base CX0 2 fT fdT ["web", "place"] spTies:=(ok_ties FT mSorted).mono (by decide)
 refine F.ok scNbr (fun vs H Q E h=>?_) (fun cdv A outer s H1 vs Q E hr h=>?_)
 . obtain⟨wa,lt,n,ts,x,y,kn,rfl,_⟩:=h
   rfl
 . obtain⟨wa,lt,n,ts,x,y,kn,rfl,W,hx0,hx1,hy0,hy1,hl1,L,k⟩:=h
   obtain⟨ta,tys,hwa,_,_,G⟩:=id W
   refine⟨_,pss_cons (ps_if (pt_cmpR op_isN (pe_ix ix_tup (pv 2) (pv 1) (fun _ _=>rfl)) pe_non (nomark _)) (pss_one (ps_ret (pe_tup pa_nil))) pss_nil)
    (pss_one (ps_ret (pe_callTy call_tuple_of (by rfl) mTuple (by decide +kernel) (pa_cons
     (pe_comp (own:=["place", "long"]) (cn:=["there", "one"]) (ci:=[2,1]) rfl (csc rfl rfl) ⟨rfl,rfl,rfl,rfl,rfl,rfl,trivial⟩ rfl
      (pi_list (pe_call GT hr rfl mT FT.kp bT .nil pass0 (pa_cons (pv 0) (pa_cons (pv 1) pa_nil))))
      (fun _ _ _ _=>pg_tupC (n:=2) rfl (pgs_cons (pg_name (i:=0) (nd_of rfl) rfl (Or.inl rfl)) (pgs_cons (pg_name (i:=1) (nd_of rfl) rfl (Or.inl rfl)) pgs_nil)))
      (fun _ _ _ _=>pts_one (pt_cmpR op_eq (pe_op op_add (pv 1) (pe_ix ix_tupC (pv 2) (pv 0) (fun _ _=>rfl))) (pe_ix ix_tupC (pv 2) (pv 3) (fun _ _=>rfl)) (nomark _)))
      (fun _ _ _ _=>pv 0)) pa_nil)))),?_⟩
   have hx:=L.len x hx0 hx1
   refine⟨_,rfl,_,rfl,lt,_,_,oV (fnl kn x),rfl,rfl,SqT.of hl1,atI_in hx0 (Lens_get L hx0 hx1),rfl,_,rfl,?_⟩
   rw[oV_non]
   cases hd:fnl kn x with
   | none=>
    refine iteT ?_
    rw[hd] at hx
    refine⟨Nat.zero_le _,fun l hl=>k l [] _ (same_laid hl) upd_same List.Pairwise.nil fun p=>⟨fun z=>by simp at z,fun ⟨a,b,_,_,z⟩=>absurd z.1.symm (hx _)⟩⟩
   | some d=>
    refine iteF ?_
    rw[hd] at hx
    have hxD:WM.IsD ts x y d:=WM.IsD.symm hx
    refine⟨_,rfl,_,rfl,wa,n,ts,x,rfl,W,fun l zs ms H2 s2 hl0 hl2 TT hp hrs=>?_⟩
    have hlz:=TT.length
    have hlt2:H2 lt=some (.tup (kn.map oV)):=s2 _ _ hl1
    have hlm:ms.length<64:=by
     have e2:=fd_len (n:=n) x (ts:=ts) fun t ht=>(G.rng t ht).2.1
     have:=G.len
     rw[hp.length_eq];omega
    have near:∀k,k∈ms->∃z c b,k=[z,c]/\Adj ts x z c/\fnl kn z=some b/\WM.IsD ts z y b:=fun k hk=>by
     obtain⟨z,c,e,ha⟩:=mem_fd.mp (hp.mem_iff.mp hk)
     have hadj:=G.adj ha
     have lz:=L.len z hadj.2.2.1 hadj.2.2.2.1
     cases hz:fnl kn z with
     | none=>rw[hz] at lz;exact absurd (hx.1.snoc ha) (lz _)
     | some b=>rw[hz] at lz;exact⟨z,c,b,e,ha,hz,WM.IsD.symm lz⟩
    refine⟨l,rfl,⟨_,SqL.of hl2⟩,[.ref lt,.int x],rfl,fun D hD=>?_⟩
    have nlD:l≠D:=ne_of_none hl2 hD
    refine comp_list (a:=l) (xs:=zs) (fun i ys H3=>ys=(((ms.take i).filter fun k=>decide (sl1 k+(fnl kn (WM.hd k)).getD 0=d)).map WM.hd).map V.int/\H3=upd H2 D (.lst ys)) ⟨rfl,rfl⟩ (fun i ys H3 h=>?_) (fun i ys H3 h=>?_) (fun i v ys H3 hv h=>?_) (fun ys H3 h=>?_)
    . obtain⟨_,rfl⟩:=h
      exact SqL.of (by rw[upd_ne nlD];exact hl2)
    . obtain⟨rfl,_⟩:=h
      rw[List.length_map,List.length_map]
      refine Nat.lt_of_le_of_lt (List.length_filter_le _ _) (small_line ?_)
      rw[List.length_take];omega
    . obtain⟨rfl,rfl⟩:=h
      obtain⟨ya,ky,rfl,hky,hya,_⟩:=TT.get hv
      obtain⟨z,c,b,rfl,ha,hb,ib⟩:=near ky (List.mem_of_getElem? hky)
      have hadj:=G.adj ha
      refine⟨ya,_,rfl,SqT.of (by rw[upd_ne (ne_of_none hya hD)];exact hya),rfl,_,_,rfl,_,_,rfl,rfl,⟨rfl,rfl⟩,?_⟩
      have hltD:(upd H2 D (.lst ((((ms.take i).filter fun k=>decide (sl1 k+(fnl kn (WM.hd k)).getD 0=d)).map WM.hd).map V.int))) lt=some (.tup (kn.map oV)):=by rw[upd_ne (ne_of_none hlt2 hD)];exact hlt2
      refine⟨_,rfl,_,rfl,_,rfl,lt,_,_,.int b,rfl,rfl,SqT.of hltD,atI_in hadj.2.2.1 (by rw[Lens_get L hadj.2.2.1 hadj.2.2.2.1,hb];rfl),_,_,rfl,rfl,?_⟩
      refine⟨_,rfl,_,rfl,lt,_,_,.int d,rfl,rfl,SqT.of hltD,atI_in hx0 (by rw[Lens_get L hx0 hx1,hd];rfl),rfl,_,rfl,?_⟩
      rw[dec_int']
      have etk:(ms.take (i+1)).filter (fun k=>decide (sl1 k+(fnl kn (WM.hd k)).getD 0=d))=(ms.take i).filter (fun k=>decide (sl1 k+(fnl kn (WM.hd k)).getD 0=d))++(if c+b=d then [[z,c]] else []):=by
       rw[List.take_add_one,hky,List.filter_append]
       show _++List.filter _ [[z,c]]=_
       rw[List.filter_cons]
       have e1:decide (sl1 [z,c]+(fnl kn (WM.hd [z,c])).getD 0=d)=decide (c+b=d):=by
        show decide (c+(fnl kn z).getD 0=d)=_
        rw[hb];rfl
       rw[e1]
       by_cases cc:c+b=d
       . rw[if_pos (by simpa using cc),if_pos cc];rfl
       . rw[if_neg (by simpa using cc),if_neg cc];rfl
      refine ite2 (fun cc=>?_) (fun cc=>?_)
      . have c':=of_decide_eq_true cc
        refine⟨_,rfl,upd_same,?_,upd_upd⟩
        rw[etk,if_pos c',List.map_append,List.map_append];rfl
      . have c':¬ c+b=d:=fun q=>cc (decide_eq_true q)
        refine⟨?_,rfl⟩
        rw[etk,if_neg c',List.append_nil]
    . obtain⟨rfl,rfl⟩:=h
      refine⟨D,_,rfl,.inl ⟨SqL.of upd_same,fun q hq=>?_⟩⟩
      rw[hlz,List.take_of_length_le (Nat.le_refl _)] at hq ⊢
      have s4:=(same_laid (o:=.lst ((((ms.filter fun k=>decide (sl1 k+(fnl kn (WM.hd k)).getD 0=d)).map WM.hd).map V.int))) hD).trans (same_laid (o:=.tup ((((ms.filter fun k=>decide (sl1 k+(fnl kn (WM.hd k)).getD 0=d)).map WM.hd).map V.int))) hq)
      have hk:∀k∈ms,∃y l,k=[y,l]:=fun k hk=>by
       obtain⟨z,c,b,e,_⟩:=near k hk
       exact⟨z,c,e⟩
      have hrise:=heads_rise hrs hk ((hp.map WM.hd).nodup_iff.mpr (fd_heads G x))
      refine k q _ _ (s2.trans s4) upd_same (hrise.sublist (List.filter_sublist.map _)) fun p=>?_
      rw[List.mem_map]
      constructor
      . rintro ⟨k0,hk0,rfl⟩
        obtain⟨hm,c⟩:=List.mem_filter.mp hk0
        obtain⟨z,c0,b,rfl,ha,hb,ib⟩:=near k0 hm
        have c':=of_decide_eq_true c
        have c2:c0+b=d:=by
         have:c0+(fnl kn z).getD 0=d:=c'
         rw[hb] at this;exact this
        exact⟨c0,b,ha,ib,by rw[c2];exact hxD⟩
      . rintro ⟨c0,b,ha,ib,iab⟩
        have hm:[p,c0]∈ms:=hp.mem_iff.mpr (mem_fd.mpr ⟨p,c0,rfl,ha⟩)
        refine⟨[p,c0],List.mem_filter.mpr ⟨hm,decide_eq_true ?_⟩,rfl⟩
        have hadj:=G.adj ha
        have lp:=Len.uniq (L.len p hadj.2.2.1 hadj.2.2.2.1) (show Len ts y p (some b) from WM.IsD.symm ib)
        show c0+(fnl kn p).getD 0=d
        rw[lp]
        exact WM.IsD.uniq iab hxD
end
def RowsAt (H:Hp)(rs:List Addr)(M:List (List (Option Int))):Prop:=rs.length=M.length/\∀(i:Nat)(r:Addr)(row:List (Option Int)),rs[i]? = some r->M[i]? = some row->H r=some (.tup (row.map oV))
theorem RowsAt.smT {H H':Hp}{rs:List Addr}{M:List (List (Option Int))}(h:RowsAt H rs M)(k:SmT H H'):RowsAt H' rs M:=⟨h.1,fun i r row a b=>k.get (h.2 i r row a b) (by intro ps z;cases z)⟩
def spLens (PT:Addr):Sp:=fun vs H Q _=>∃(wa:Addr)(n:Int)(ts:List T3),vs=[.ref wa]/\WebAt H wa n ts/\Tb H PT /\
 ∀(l:Addr)(rs:List Addr)(M:List (List (Option Int)))(H':Hp),SmT H H'->Tb H' PT->H' l=some (.tup (rs.map V.ref))->RowsAt H' rs M->Rows ts n M->Q (.ref l) H'
section
variable {P:Program}{w:World}{K:PySem.W.Frag}{mg:Str->Option Value}{base:Heap}{PT:Addr}
theorem scLens:FnScope ["web"] ["web"] (defScope sLens):=⟨rfl,rfl,rfl,by decide +kernel,rfl,by decide +kernel,by decide +kernel⟩
theorem ok_lens {f fF:Addr}{fd' fdF:FuncData}(F:Fun K "lengths" "lengths" sLens f fd') (FF:Fun K "lengths_from" "lengths_from" sFrom fF fdF) (bF:Binds K fdF ["web", "start"] []) (mF:mg "lengths_from" = some (.ref fF)) (GF:FnOk P w K mg base CX0 3 fF fdF ["web", "start"] (spFrom PT))
 (mRange:mg "range" = none) (mTuple:mg "tuple" = none):FnOk P w K mg base CX0 4 f fd' ["web"] (spLens PT):=by
 refine F.ok scLens (fun vs H Q E h=>?_) (fun cdv A outer s H vs Q E hr h=>?_)
 . obtain⟨wa,n,ts,rfl,_⟩:=h
   rfl
 . obtain⟨wa,n,ts,rfl,W,T,k⟩:=h
   obtain⟨ta,tys,hwa,_,_,G⟩:=id W
   have hn24:=G.n24
   have hn1:=G.n1
   refine⟨_,pss_one (ps_ret (pe_callTy call_tuple_of (by rfl) mTuple (by decide +kernel) (pa_cons
    (pe_comp (own:=["place"]) (cn:=["web"]) (ci:=[0]) rfl (csc rfl rfl) ⟨rfl,rfl,rfl,trivial⟩ rfl
     (pi_range1 rfl mRange (pa_cons (pe_ix ix_tup (pv 0) pe_int (fun _ _=>rfl)) pa_nil)) (fun _ _ _ _=>pg_name (i:=0) (nd_of rfl) rfl (Or.inl rfl)) (fun _ _ _ _=>pts_nil)
     (fun _ _ _ _=>pe_call GF hr rfl mF FF.kp bF .nil pass0 (pa_cons (pv 1) (pa_cons (pv 0) pa_nil)))) pa_nil))),?_⟩
   refine⟨_,rfl,wa,_,_,_,rfl,rfl,SqT.of hwa,rfl,n,rfl,by omega,by omega,[.ref wa],rfl,fun D hD=>?_⟩
   refine comp_range (lo:=0) (n:=n.toNat) (fun q ys H1=>q<=n.toNat/\∃(rs:List Addr)(M:List (List (Option Int))),ys=rs.map V.ref/\rs.length=q/\RowsAt H1 rs M/\(∀x:Nat,x<q->Lens ts n x (M.getD x []))/\SmT H H1/\Tb H1 PT/\H1 D=some (.lst ys))
    ⟨Nat.zero_le _,[],[],rfl,rfl,⟨rfl,fun i r row h=>by simp at h⟩,fun x hx=>absurd hx (Nat.not_lt_zero _),SmT.of (same_laid hD),T.same (same_laid hD),upd_same⟩ (fun q ys H1 h=>?_) (fun q ys H1 hq h=>?_) (fun ys H1 h=>?_)
   . obtain⟨hq,rs,M,rfl,hl,_⟩:=h
     rw[List.length_map,hl]
     exact small_line (by omega)
   . obtain⟨_,rs,M,rfl,hl,R,L,sm,T1,hD1⟩:=h
     rw[Int.zero_add]
     refine⟨⟨rfl,rfl⟩,?_⟩
     refine tyes ?_
     refine⟨_,rfl,_,rfl,wa,n,ts,q,rfl,W.smT sm,by omega,by omega,T1,fun l kn H2 sm2 T2 hl2 L2=>?_⟩
     have hD2:H2 D=some (.lst (rs.map V.ref)):=sm2.get hD1 (by intro ps z;cases z)
     refine⟨hD2,hq,rs++[l],M++[kn],by rw[List.map_append];rfl,by rw[List.length_append,hl];rfl,⟨by rw[List.length_append,List.length_append,R.1];rfl,fun i r row h1 h2=>?_⟩,fun x hx=>?_,(sm.trans sm2).chg hD,T2.chg hD2,upd_same⟩
     . have key:H2 r=some (.tup (row.map oV)):=by
        by_cases hi:i<rs.length
        . rw[List.getElem?_append_left hi] at h1
          rw[List.getElem?_append_left (by rw[<-R.1];exact hi)] at h2
          exact sm2.get (R.2 i r row h1 h2) (by intro ps z;cases z)
        . rw[List.getElem?_append_right (by omega)] at h1
          rw[List.getElem?_append_right (by rw[<-R.1];omega),<-R.1] at h2
          cases hz:i-rs.length with
          | zero=>
           rw[hz] at h1 h2
           have e1:l=r:=by simpa using h1
           have e2:kn=row:=by simpa using h2
           subst e1 e2
           exact hl2
          | succ k=>rw[hz] at h1;simp at h1
       rw[upd_ne (ne_of key hD2 (by intro z;cases z))]
       exact key
     . by_cases hx':x<q
       . rw[List.getD_eq_getElem?_getD,List.getElem?_append_left (by rw[<-R.1,hl];exact hx'),<-List.getD_eq_getElem?_getD]
         exact L x hx'
       . have e:x=q:=by omega
         subst e
         rw[List.getD_eq_getElem?_getD,List.getElem?_append_right (by rw[<-R.1,hl];exact Nat.le_refl _),<-R.1,hl]
         simpa using L2
   . obtain⟨_,rs,M,rfl,hl,R,L,sm,T1,hD1⟩:=h
     refine⟨D,_,rfl,.inl ⟨SqL.of hD1,fun q hq=>?_⟩⟩
     refine k q rs M _ (sm.trans (SmT.of (same_laid hq))) (T1.same (same_laid hq)) upd_same (R.smT (SmT.of (same_laid hq))) ⟨by rw[<-R.1,hl],fun x hx hx'=>?_⟩
     have:=L x.toNat (by omega)
     rw[show ((x.toNat:Nat):Int)=x by omega] at this
     exact this
end
end K68
namespace K68
open PySem L2 WM
def spNum:Sp:=fun vs H Q _=>∃i:Int,vs=[.int i]/\Q (.bl true) H
def spWi:Sp:=fun vs H Q _=>∃i a b:Int,vs=[.int i,.int a,.int b]/\a<=i/\i<=b/\Q (.bl true) H
def spPl:Sp:=fun vs H Q _=>∃n i:Int,vs=[.int n,.int i]/\0<=i/\i<=n-1/\Q (.bl true) H
def spTof:Sp:=fun vs H Q _=>∃(p:Addr)(ys:List V),vs=[.ref p,.int ys.length]/\H p=some (.tup ys)/\Q (.bl true) H
structure Ordr (n:Int)(os:List Int):Prop where
 ln:os.length=n.toNat
 nd:os.Nodup
 rng:∀p∈os,0<=p/\p<n
def spOrd:Sp:=fun vs H Q _=>∃(wa p:Addr)(n:Int)(ts:List T3)(os:List Int),vs=[.ref wa,.ref p]/\WebAt H wa n ts/\H p=some (.tup (os.map V.int))/\Ordr n os/\∀H',Same H H'->Q (.bl true) H'
section
variable {P:Program}{w:World}{K:PySem.W.Frag}{mg:Str->Option Value}{base:Heap}
theorem scNum:FnScope ["thing"] ["thing"] (defScope sNum):=⟨rfl,rfl,rfl,by decide +kernel,rfl,by decide +kernel,by decide +kernel⟩
theorem ok_num {f:Addr}{fd':FuncData}(F:Fun K "is_number" "is_number" sNum f fd') (mIsi:mg "isinstance" = none) (mInt:mg "int" = none) (mBool:mg "bool" = none):FnOk P w K mg base CX0 1 f fd' ["thing"] spNum:=by
 refine F.ok scNum (fun vs H Q E h=>?_) (fun cdv A outer s H vs Q E hr h=>?_)
 . obtain⟨i,rfl,_⟩:=h
   rfl
 . obtain⟨i,rfl,k⟩:=h
   refine⟨_,pss_one (ps_ret (pe_and (pe_callB call_isinst (by rfl) mIsi (by decide +kernel) (pa_cons (pv 0) (pa_cons (pe_tyN (T := "int") (by rfl) mInt (by decide +kernel)) pa_nil)))
    (pe_one (pe_not (pe_callB call_isinst (by rfl) mIsi (by decide +kernel) (pa_cons (pv 0) (pa_cons (pe_tyN (T := "bool") (by rfl) mBool (by decide +kernel)) pa_nil))))))),?_⟩
   refine⟨_,rfl,_,_,_,true,rfl,.int i,rfl,true,rfl,iteT ?_⟩
   exact⟨_,rfl,_,_,_,false,rfl,.int i,rfl,false,rfl,k⟩
theorem scWi:FnScope ["thing", "least", "most"] ["thing", "least", "most"] (defScope sWi):=⟨rfl,rfl,rfl,by decide +kernel,rfl,by decide +kernel,by decide +kernel⟩
theorem ok_wi {f fN:Addr}{fd' fdN:FuncData}(F:Fun K "is_within" "is_within" sWi f fd') (FN:Fun K "is_number" "is_number" sNum fN fdN) (bN:Binds K fdN ["thing"] []) (mN:mg "is_number" = some (.ref fN)) (mIsi:mg "isinstance" = none) (mInt:mg "int" = none) (mBool:mg "bool" = none) :
 FnOk P w K mg base CX0 2 f fd' ["thing", "least", "most"] spWi:=by
 have GN:FnOk P w K mg base CX0 1 fN fdN ["thing"] spNum:=ok_num FN mIsi mInt mBool
 refine F.ok scWi (fun vs H Q E h=>?_) (fun cdv A outer s H vs Q E hr h=>?_)
 . obtain⟨i,a,b,rfl,_⟩:=h
   rfl
 . obtain⟨i,a,b,rfl,h1,h2,k⟩:=h
   refine⟨_,pss_one (ps_ret (pe_and (pe_call GN hr rfl mN FN.kp bN .nil pass0 (pa_cons (pv 0) pa_nil)) (pe_and (pe_cmpR op_le (pv 1) (pv 0) (nomark _)) (pe_one (pe_cmpR op_le (pv 0) (pv 2) (nomark _)))))),?_⟩
   refine⟨_,rfl,i,rfl,true,rfl,iteT ?_⟩
   refine⟨_,rfl,_,rfl,_,_,rfl,rfl,_,rfl,?_⟩
   refine ifT (decide_eq_true h1) ?_
   refine⟨_,rfl,_,rfl,_,_,rfl,rfl,?_⟩
   show Q (.bl (decide (i<=b))) H
   rw[decide_eq_true h2]
   exact k
theorem scPl:FnScope ["n", "thing"] ["n", "thing"] (defScope sPl):=⟨rfl,rfl,rfl,by decide +kernel,rfl,by decide +kernel,by decide +kernel⟩
theorem ok_pl {f fW fN:Addr}{fd' fdW fdN:FuncData}(F:Fun K "is_place" "is_place" sPl f fd') (FW:Fun K "is_within" "is_within" sWi fW fdW) (bW:Binds K fdW ["thing", "least", "most"] []) (mW:mg "is_within" = some (.ref fW)) (FN:Fun K "is_number" "is_number" sNum fN fdN) (bN:Binds K fdN ["thing"] []) (mN:mg "is_number" = some (.ref fN)) (mIsi:mg "isinstance" = none) (mInt:mg "int" = none) (mBool:mg "bool" = none) :
 FnOk P w K mg base CX0 3 f fd' ["n", "thing"] spPl:=by
 have GW':FnOk P w K mg base CX0 2 fW fdW ["thing", "least", "most"] spWi:=ok_wi FW FN bN mN mIsi mInt mBool
 refine F.ok scPl (fun vs H Q E h=>?_) (fun cdv A outer s H vs Q E hr h=>?_)
 . obtain⟨n,i,rfl,_⟩:=h
   rfl
 . obtain⟨n,i,rfl,h1,h2,k⟩:=h
   refine⟨_,pss_one (ps_ret (pe_call GW' hr rfl mW FW.kp bW .nil pass0 (pa_cons (pv 1) (pa_cons pe_int (pa_cons (pe_op op_sub (pv 0) pe_int) pa_nil))))),?_⟩
   exact⟨_,rfl,_,rfl,_,_,rfl,rfl,i,0,n-1,rfl,h1,h2,k⟩
theorem scTof:FnScope ["thing", "count"] ["thing", "count"] (defScope sTof):=⟨rfl,rfl,rfl,by decide +kernel,rfl,by decide +kernel,by decide +kernel⟩
theorem ok_tof {f:Addr}{fd':FuncData}(F:Fun K "is_tuple_of" "is_tuple_of" sTof f fd') (mIsi:mg "isinstance" = none) (mTuple:mg "tuple" = none) (mLen:mg "len" = none):FnOk P w K mg base CX0 1 f fd' ["thing", "count"] spTof:=by
 refine F.ok scTof (fun vs H Q E h=>?_) (fun cdv A outer s H vs Q E hr h=>?_)
 . obtain⟨p,ys,rfl,_⟩:=h
   rfl
 . obtain⟨p,ys,rfl,hp,k⟩:=h
   refine⟨_,pss_one (ps_ret (pe_and (pe_callB call_isinst (by rfl) mIsi (by decide +kernel) (pa_cons (pv 0) (pa_cons (pe_tyN (T := "tuple") (by rfl) mTuple (by decide +kernel)) pa_nil)))
    (pe_one (pe_cmpR op_eq (pe_callB call_len_seq (by rfl) mLen PySem.boot_len (pa_cons (pv 0) pa_nil)) (pv 1) (nomark _))))),?_⟩
   refine⟨_,rfl,_,_,_,true,rfl,.tup hp,rfl,true,rfl,iteT ?_⟩
   refine⟨_,rfl,p,_,rfl,.inr (SqT.of hp),_,rfl,rfl,?_⟩
   rw[decide_eq_true rfl]
   exact k
theorem scOrd:FnScope ["web", "thing", "n"] ["web", "thing"] (defScope sOrd):=⟨rfl,rfl,rfl,by decide +kernel,rfl,by decide +kernel,by decide +kernel⟩
theorem ok_ord {f fT fW fP fN:Addr}{fd' fdT fdW fdP fdN:FuncData}(F:Fun K "is_order" "is_order" sOrd f fd') (FT:Fun K "is_tuple_of" "is_tuple_of" sTof fT fdT) (bT:Binds K fdT ["thing", "count"] []) (mT:mg "is_tuple_of" = some (.ref fT))
 (FW:Fun K "is_within" "is_within" sWi fW fdW) (bW:Binds K fdW ["thing", "least", "most"] []) (mW:mg "is_within" = some (.ref fW)) (FP:Fun K "is_place" "is_place" sPl fP fdP) (bP:Binds K fdP ["n", "thing"] []) (mP:mg "is_place" = some (.ref fP)) (FN:Fun K "is_number" "is_number" sNum fN fdN) (bN:Binds K fdN ["thing"] []) (mN:mg "is_number" = some (.ref fN))
 (mIsi:mg "isinstance" = none) (mInt:mg "int" = none) (mBool:mg "bool" = none) (mTuple:mg "tuple" = none) (mLen:mg "len" = none) (mAll:mg "all" = none) (mSet:mg "set" = none):FnOk P w K mg base CX0 4 f fd' ["web", "thing"] spOrd:=by
 have GT:FnOk P w K mg base CX0 3 fT fdT ["thing", "count"] spTof:=(ok_tof FT mIsi mTuple mLen).mono (by decide)
 have GP:FnOk P w K mg base CX0 3 fP fdP ["n", "thing"] spPl:=ok_pl FP FW bW mW FN bN mN mIsi mInt mBool
 refine F.ok scOrd (fun vs H Q E h=>?_) (fun cdv A outer s H vs Q E hr h=>?_)
 . obtain⟨wa,p,n,ts,os,rfl,_⟩:=h
   rfl
 . obtain⟨wa,p,n,ts,os,rfl,W,hp,O,k⟩:=h
   obtain⟨ta,tys,hwa,_,_,G⟩:=id W
   have hn1:=G.n1
   have hn24:=G.n24
   have hol:os.length<=24:=by rw[O.ln];omega
   refine⟨_,pss_cons (ps_set (i:=2) scOrd.nd rfl (Or.inr rfl) (pe_ix ix_tup (pv 0) pe_int (fun _ _=>rfl)))
    (pss_cons (ps_if (PW.pt (pw_or (pt_not (pt_val (pe_call GT hr rfl mT FT.kp bT .nil pass0 (pa_cons (pv 1) (pa_cons (pv 2) pa_nil)))))
     (pw_or1 (pt_not (pt_val (pe_callB (call_all rfl) (by rfl) mAll (by decide +kernel) (pa_cons (pe_comp (own:=["place"]) (cn:=["n"]) (ci:=[2]) rfl (csc rfl rfl) ⟨rfl,rfl,rfl,trivial⟩ rfl (pi_tup (pv 1)) (fun _ _ _ _=>pg_name (i:=0) (nd_of rfl) rfl (Or.inl rfl))
      (fun _ _ _ _=>pts_nil) (fun _ _ _ _=>pe_call GP hr rfl mP FP.kp bP .nil pass0 (pa_cons (pv 1) (pa_cons (pv 0) pa_nil)))) pa_nil))))))) (pss_one (ps_ret pe_bl)) pss_nil)
    (pss_one (ps_ret (pe_cmpR op_eq (pe_callB call_lenS (by rfl) mLen PySem.boot_len (pa_cons (pe_callTy (call_setT rfl) (by rfl) mSet (by decide +kernel) (pa_cons (pv 1) pa_nil)) pa_nil)) (pv 2) (nomark _))))),?_⟩
   refine⟨_,rfl,wa,_,_,_,rfl,rfl,SqT.of hwa,rfl,?_⟩
   have hpl:(os.map V.int).length=n:=by rw[List.length_map,O.ln];omega
   refine⟨_,rfl,_,rfl,p,os.map V.int,by rw[hpl];rfl,hp,_,rfl,iteF ?_⟩
   refine⟨_,rfl,p,rfl,⟨_,SqT.of hp⟩,[.int n],rfl,fun D hD=>?_⟩
   refine comp_tup (a:=p) (xs:=os.map V.int) (fun i ys H4=>i<=os.length/\ys=(List.replicate i true).map V.bl/\H4=upd H D (.lst ys)) ⟨Nat.zero_le _,rfl,rfl⟩ (fun i ys H4 h=>?_) (fun i ys H4 h=>?_) (fun i v ys H4 hv h=>?_) (fun ys H4 h=>?_)
   . obtain⟨_,_,rfl⟩:=h
     exact SqT.of (by rw[upd_ne (ne_of_none hp hD)];exact hp)
   . obtain⟨hi,rfl,_⟩:=h
     rw[List.length_map,List.length_replicate]
     exact small_line (by omega)
   . obtain⟨_,rfl,rfl⟩:=h
     obtain⟨x,hx,rfl⟩:∃x,os[i]? = some x/\V.int x=v:=by
      rw[List.getElem?_map] at hv
      cases e:os[i]? with
      | none=>rw[e] at hv;cases hv
      | some x=>rw[e] at hv;exact⟨x,rfl,Option.some.inj hv⟩
     have hr':=O.rng x (List.mem_of_getElem? hx)
     refine⟨⟨rfl,rfl⟩,?_⟩
     refine tyes ?_
     refine⟨_,rfl,_,rfl,n,x,rfl,hr'.1,by omega,?_⟩
     refine⟨upd_same,(List.getElem?_eq_some_iff.mp hx).1,?_,upd_upd⟩
     rw[List.replicate_succ',List.map_append];rfl
   . obtain⟨_,rfl,rfl⟩:=h
     refine⟨D,List.replicate (os.map V.int).length true,rfl,SqL.of upd_same,_,rfl,?_⟩
     have hall:(List.replicate (os.map V.int).length true).all id=true:=List.all_eq_true.mpr fun b hb=>(List.mem_replicate.mp hb).2
     rw[hall]
     refine iteF ?_
     have hp5:=same_laid (o:=.lst ((List.replicate (os.map V.int).length true).map V.bl)) hD _ _ hp
     refine⟨_,rfl,p,os,rfl,SqT.of hp5,by omega,fun d S hd=>?_⟩
     refine⟨d,S,_,rfl,upd_same,_,rfl,rfl,?_⟩
     rw[firstMet_nd O.nd os.length (Nat.le_refl _),List.take_of_length_le (Nat.le_refl _),decide_eq_true (by rw[<-hpl,List.length_map])]
     exact k _ ((same_laid hD).trans (same_laid hd))
end
def risI:List Int->Bool
 | a::b::r=>decide (a<b) && risI (b::r)
 | _=>true
theorem risI_at:∀(ms:List Int),risI ms=(List.range (ms.length-1)).all fun k=>decide (ms.getD k 0<ms.getD (k+1) 0)
 | []=>rfl
 | [_]=>rfl
 | a::b::r=>by
  show (decide (a<b) && risI (b::r))=_
  rw[risI_at (b::r)]
  show _=(List.range (r.length+1)).all _
  rw[List.range_succ_eq_map,List.all_cons,List.all_map]
  rfl
theorem risI_iff:∀(ms:List Int),risI ms=true↔ms.Pairwise (· < ·)
 | []=>by simp[risI]
 | [_]=>by simp[risI]
 | a::b::r=>by
  have ih:=risI_iff (b::r)
  show (decide (a<b) && risI (b::r))=true↔_
  rw[Bool.and_eq_true,ih,decide_eq_true_iff,List.pairwise_cons (a:=a)]
  constructor
  . rintro ⟨h1,h2⟩
    refine⟨fun x hx=>?_,h2⟩
    rcases List.mem_cons.mp hx with rfl | hx
    . exact h1
    . have:=(List.pairwise_cons.mp h2).1 x hx
      omega
  . rintro ⟨h1,h2⟩
    exact⟨h1 b List.mem_cons_self,h2⟩
def spRis:Sp:=fun vs H Q _=>∃(p:Addr)(xs:List Int),vs=[.ref p]/\H p=some (.tup (xs.map V.int))/\xs.length<=1000/\∀H',Same H H'->Q (.bl (risI xs)) H'
section
variable {P:Program}{w:World}{K:PySem.W.Frag}{mg:Str->Option Value}{base:Heap}
theorem scRis:FnScope ["things"] ["things"] (defScope sRis):=⟨rfl,rfl,rfl,by decide +kernel,rfl,by decide +kernel,by decide +kernel⟩
theorem ok_ris {f:Addr}{fd':FuncData}(F:Fun K "is_rising" "is_rising" sRis f fd') (mLen:mg "len" = none) (mRange:mg "range" = none) (mAll:mg "all" = none):FnOk P w K mg base CX0 1 f fd' ["things"] spRis:=by
 refine F.ok scRis (fun vs H Q E h=>?_) (fun cdv A outer s H vs Q E hr h=>?_)
 . obtain⟨p,xs,rfl,_⟩:=h
   rfl
 . obtain⟨p,xs,rfl,hp,hl,k⟩:=h
   refine⟨_,pss_one (ps_ret (pe_callB (call_all rfl) (by rfl) mAll (by decide +kernel) (pa_cons (pe_comp (own:=["k"]) (cn:=["things"]) (ci:=[0]) rfl (csc rfl rfl) ⟨rfl,rfl,rfl,trivial⟩ rfl
    (pi_range2 rfl mRange (pa_cons pe_int (pa_cons (pe_callB call_len_seq (by rfl) mLen PySem.boot_len (pa_cons (pv 0) pa_nil)) pa_nil))) (fun _ _ _ _=>pg_name (i:=0) (nd_of rfl) rfl (Or.inl rfl)) (fun _ _ _ _=>pts_nil)
    (fun _ _ _ _=>pe_cmpR op_lt (pe_ix ix_tupC (pv 1) (pe_op op_sub (pv 0) pe_int) (fun _ _=>rfl)) (pe_ix ix_tupC (pv 1) (pv 0) (fun _ _=>rfl)) (nomark _))) pa_nil))),?_⟩
   refine⟨_,rfl,p,_,rfl,.inr (SqT.of hp),1,_,rfl,⟨by decide,by decide,by rw[List.length_map];omega,by rw[List.length_map];omega⟩,[.ref p],rfl,fun D hD=>?_⟩
   refine comp_range (lo:=1) (n:=(((xs.map V.int).length:Int)-1).toNat) (fun q ys H4=>q<=(((xs.map V.int).length:Int)-1).toNat/\ys=((List.range q).map fun k=>decide (xs.getD k 0<xs.getD (k+1) 0)).map V.bl/\H4=upd H D (.lst ys)) ⟨Nat.zero_le _,rfl,rfl⟩ (fun q ys H4 z=>?_) (fun q ys H4 hq z=>?_) (fun ys H4 z=>?_)
   . obtain⟨hq,rfl,_⟩:=z
     rw[List.length_map] at hq
     rw[List.length_map,List.length_map,List.length_range]
     exact small_line (by omega)
   . obtain⟨_,rfl,rfl⟩:=z
     rw[List.length_map] at hq
     have hp4:=same_laid (o:=.lst (((List.range q).map fun k=>decide (xs.getD k 0<xs.getD (k+1) 0)).map V.bl)) hD _ _ hp
     have h1:q<xs.length:=by omega
     have h2:q+1<xs.length:=by omega
     refine⟨⟨rfl,rfl⟩,?_⟩
     refine tyes ?_
     refine⟨_,rfl,_,rfl,_,_,rfl,rfl,p,_,_,.int xs[q],rfl,rfl,SqT.of hp4,atI_in (by omega) (by rw[show ((1:Int)+q-1).toNat=q by omega,List.getElem?_map,List.getElem?_eq_getElem h1];rfl),_,rfl,_,rfl,p,_,_,.int xs[q+1],rfl,rfl,SqT.of hp4,atI_in (by omega) (by rw[show ((1:Int)+q).toNat=q+1 by omega,List.getElem?_map,List.getElem?_eq_getElem h2];rfl),_,_,rfl,rfl,upd_same,by rw[List.length_map];omega,?_,upd_upd⟩
     have d1:xs.getD q 0=xs[q]:=by rw[List.getD_eq_getElem?_getD,List.getElem?_eq_getElem h1];rfl
     have d2:xs.getD (q+1) 0=xs[q+1]:=by rw[List.getD_eq_getElem?_getD,List.getElem?_eq_getElem h2];rfl
     rw[List.range_succ,List.map_append,List.map_append]
     show _=_++[V.bl (decide (xs.getD q 0<xs.getD (q+1) 0))]
     rw[d1,d2]
   . obtain⟨_,rfl,rfl⟩:=z
     refine⟨D,_,rfl,SqL.of upd_same,?_⟩
     have e:(((List.range (((xs.map V.int).length:Int)-1).toNat).map fun k=>decide (xs.getD k 0<xs.getD (k+1) 0)).all id)=risI xs:=by
      rw[risI_at,List.all_map,List.length_map,show ((xs.length:Int)-1).toNat=xs.length-1 by omega]
      rfl
     rw[e]
     exact k _ (same_laid hD)
end
structure PostsOk (n:Int)(ps:List Int):Prop where
 ne:ps≠[]
 ln:(ps.length:Int)<=n
 rng:∀p∈ps,0<=p/\p<n
 rise:ps.Pairwise (· < ·)
def spArp:Sp:=fun vs H Q _=>∃(n:Int)(p:Addr)(ps:List Int),vs=[.int n,.ref p]/\H p=some (.tup (ps.map V.int))/\PostsOk n ps/\n<=24/\∀H',Same H H'->Q (.bl true) H'
section
variable {P:Program}{w:World}{K:PySem.W.Frag}{mg:Str->Option Value}{base:Heap}
theorem scArp:FnScope ["n", "thing"] ["n", "thing"] (defScope sArp):=⟨rfl,rfl,rfl,by decide +kernel,rfl,by decide +kernel,by decide +kernel⟩
theorem ok_arp {f fP fR:Addr}{fd' fdP fdR:FuncData}(F:Fun K "are_places" "are_places" sArp f fd') (FP:Fun K "is_place" "is_place" sPl fP fdP) (bP:Binds K fdP ["n", "thing"] []) (mP:mg "is_place" = some (.ref fP)) (GP:FnOk P w K mg base CX0 3 fP fdP ["n", "thing"] spPl)
 (FR:Fun K "is_rising" "is_rising" sRis fR fdR) (bR:Binds K fdR ["things"] []) (mR:mg "is_rising" = some (.ref fR)) (mIsi:mg "isinstance" = none) (mTuple:mg "tuple" = none) (mLen:mg "len" = none) (mRange:mg "range" = none) (mAll:mg "all" = none) :
 FnOk P w K mg base CX0 4 f fd' ["n", "thing"] spArp:=by
 have GR:FnOk P w K mg base CX0 3 fR fdR ["things"] spRis:=(ok_ris FR mLen mRange mAll).mono (by decide)
 refine F.ok scArp (fun vs H Q E h=>?_) (fun cdv A outer s H vs Q E hr h=>?_)
 . obtain⟨n,p,ps,rfl,_⟩:=h
   rfl
 . obtain⟨n,p,ps,rfl,hp,O,hn,k⟩:=h
   have hln:=O.ln
   refine⟨_,pss_cons (ps_if (PW.pt (pw_or (pt_not (pt_val (pe_callB call_isinst (by rfl) mIsi (by decide +kernel) (pa_cons (pv 1) (pa_cons (pe_tyN (T := "tuple") (by rfl) mTuple (by decide +kernel)) pa_nil)))))
    (pw_or (pt_cmpR op_eq (pe_callB call_len_seq (by rfl) mLen PySem.boot_len (pa_cons (pv 1) pa_nil)) pe_int (nomark _))
    (pw_or1 (pt_cmpR op_gt (pe_callB call_len_seq (by rfl) mLen PySem.boot_len (pa_cons (pv 1) pa_nil)) (pv 0) (nomark _)))))) (pss_one (ps_ret pe_bl)) pss_nil)
    (pss_one (ps_ret (pe_and (pe_callB (call_all rfl) (by rfl) mAll (by decide +kernel) (pa_cons (pe_comp (own:=["place"]) (cn:=["n"]) (ci:=[0]) rfl (csc rfl rfl) ⟨rfl,rfl,rfl,trivial⟩ rfl
     (pi_tup (pv 1)) (fun _ _ _ _=>pg_name (i:=0) (nd_of rfl) rfl (Or.inl rfl)) (fun _ _ _ _=>pts_nil)
     (fun _ _ _ _=>pe_call GP hr rfl mP FP.kp bP .nil pass0 (pa_cons (pv 1) (pa_cons (pv 0) pa_nil)))) pa_nil))
     (pe_one (pe_call GR hr rfl mR FR.kp bR .nil pass0 (pa_cons (pv 1) pa_nil)))))),?_⟩
   have hpl:0<ps.length:=List.length_pos_iff.mpr O.ne
   refine⟨_,rfl,_,_,_,true,rfl,.tup hp,rfl,_,rfl,iteF ?_⟩
   refine⟨_,rfl,p,_,rfl,.inr (SqT.of hp),rfl,_,rfl,ifF (by rw[List.length_map];exact decide_eq_false fun z=>by have:=V.int.inj z;omega) ?_⟩
   refine⟨_,rfl,p,_,rfl,.inr (SqT.of hp),_,rfl,_,_,rfl,rfl,_,rfl,ifF (by rw[List.length_map];exact decide_eq_false (by omega)) ?_⟩
   refine⟨_,rfl,p,rfl,⟨_,SqT.of hp⟩,[.int n],rfl,fun D hD=>?_⟩
   refine comp_tup (a:=p) (xs:=ps.map V.int) (fun q ys H4=>q<=ps.length/\ys=(List.replicate q true).map V.bl/\H4=upd H D (.lst ys)) ⟨Nat.zero_le _,rfl,rfl⟩ (fun q ys H4 z=>?_) (fun q ys H4 z=>?_) (fun q v ys H4 hv z=>?_) (fun ys H4 z=>?_)
   . obtain⟨_,rfl,rfl⟩:=z
     exact SqT.of (same_laid hD _ _ hp)
   . obtain⟨hq,rfl,_⟩:=z
     rw[List.length_map,List.length_replicate]
     exact small_line (by omega)
   . obtain⟨_,rfl,rfl⟩:=z
     obtain⟨i,hi,rfl⟩:∃i,ps[q]? = some i/\V.int i=v:=by
      rw[List.getElem?_map] at hv
      cases e:ps[q]? with
      | none=>rw[e] at hv;cases hv
      | some i=>rw[e] at hv;exact⟨i,rfl,Option.some.inj hv⟩
     have hr':=O.rng i (List.mem_of_getElem? hi)
     have hql:=(List.getElem?_eq_some_iff.mp hi).1
     refine⟨⟨rfl,rfl⟩,?_⟩
     refine tyes ?_
     refine⟨_,rfl,_,rfl,n,i,rfl,hr'.1,by omega,upd_same,by omega,?_,upd_upd⟩
     rw[List.replicate_succ',List.map_append];rfl
   . obtain⟨_,rfl,rfl⟩:=z
     refine⟨D,_,rfl,SqL.of upd_same,true,?_,iteT ?_⟩
     . congr 1
       generalize (ps.map V.int).length=m
       induction m with
       | zero=>rfl
       | succ m ih=>rw[List.replicate_succ,List.all_cons];simpa using ih
     . refine⟨_,rfl,p,ps,rfl,same_laid hD _ _ hp,by omega,fun H' s'=>?_⟩
       rw[(risI_iff ps).mpr O.rise]
       exact k H' ((same_laid hD).trans s')
end
end K68
namespace K68
open PySem L2 WM
def eV (e:En):List V:=[.int e.h,.int e.l,oV e.u,oV e.d]
def EnsAt (H:Hp)(as:List Addr)(es:List En):Prop:=as.length=es.length/\∀(i:Nat)(a:Addr),as[i]? = some a->∃e,es[i]? = some e/\H a=some (.tup (eV e))
def LabAt (H:Hp)(p:Addr)(es:List En):Prop:=∃as:List Addr,H p=some (.tup (as.map V.ref))/\EnsAt H as es/\es.length<=1000
theorem EnsAt.keep {H H':Hp}{as:List Addr}{es:List En}(h:EnsAt H as es)(k:∀b ys,H b=some (.tup ys)->H' b=some (.tup ys)):EnsAt H' as es:=
 ⟨h.1,fun i a ha=>let ⟨e,h1,h2⟩:=h.2 i a ha;⟨e,h1,k _ _ h2⟩⟩
theorem EnsAt.snoc {H:Hp}{as:List Addr}{es:List En}{a:Addr}{e:En}(h:EnsAt H as es)(ha:H a=some (.tup (eV e))):EnsAt H (as++[a]) (es++[e]):=by
 refine⟨by rw[List.length_append,List.length_append,h.1];rfl,fun i b hb=>?_⟩
 by_cases c:i<as.length
 . rw[List.getElem?_append_left c] at hb
   obtain⟨e',h1,h2⟩:=h.2 i b hb
   exact⟨e',by rw[List.getElem?_append_left (by rw[<-h.1];exact c)];exact h1,h2⟩
 . rw[List.getElem?_append_right (by omega)] at hb
   have hi:i-as.length=0:=by
    cases z:i-as.length with
    | zero=>rfl
    | succ m=>rw[z] at hb;simp at hb
   rw[hi] at hb
   have:a=b:=by simpa using hb
   subst this
   exact⟨e,by rw[List.getElem?_append_right (by rw[<-h.1];omega),<-h.1,hi];rfl,ha⟩
theorem LabAt.keep {H H':Hp}{p:Addr}{es:List En}(h:LabAt H p es)(k:∀b ys,H b=some (.tup ys)->H' b=some (.tup ys)):LabAt H' p es:=
 let ⟨as,h1,h2,h3⟩:=h;⟨as,k _ _ h1,h2.keep k,h3⟩
theorem LabAt.same {H H':Hp}{p:Addr}{es:List En}(h:LabAt H p es)(k:Same H H'):LabAt H' p es:=h.keep fun b ys e=>k _ _ e
theorem EnsAt.at {H:Hp}{as:List Addr}{es:List En}(h:EnsAt H as es){i:Nat}{v:V}(hv:(as.map V.ref)[i]? = some v):∃a e,v = .ref a/\es[i]? = some e/\H a=some (.tup (eV e)):=by
 rw[List.getElem?_map] at hv
 cases z:as[i]? with
 | none=>rw[z] at hv;cases hv
 | some a=>
  rw[z] at hv
  obtain⟨e,h1,h2⟩:=h.2 i a z
  exact⟨a,e,(Option.some.inj hv).symm,h1,h2⟩
def spSum:Sp:=fun vs H Q _=>∃(p q:Addr)(es fs:List En),vs=[.ref p,.ref q]/\LabAt H p es/\LabAt H q fs/\Hub fs /\
 ∀(r:Addr)(lm:Option (Int×Int))(H':Hp),Same H H'->LMin (Cd es fs) lm->H' r=some (.tup [oV (lm.map (·.1)),oV (lm.map (·.2))])->Q (.ref r) H'
def spTold:Sp:=fun vs H Q _=>∃(p q:Addr)(es fs:List En),vs=[.ref p,.ref q]/\LabAt H p es/\LabAt H q fs/\Hub fs /\
 ∀(lm:Option (Int×Int))(H':Hp),Same H H'->LMin (Cd es fs) lm->Q (oV (lm.map (·.1))) H'
theorem line1000 {n:Nat}(h:n<=1000):n<sizeLine:=Nat.lt_of_le_of_lt h (by decide)
theorem dec_V {a b:Int}:decide (V.int a=V.int b)=decide (a=b):=by
 by_cases h:a=b
 . rw[decide_eq_true h,decide_eq_true (congrArg V.int h)]
 . rw[decide_eq_false h,decide_eq_false fun z=>h (V.int.inj z)]
section
variable {P:Program}{w:World}{K:PySem.W.Frag}{mg:Str->Option Value}{base:Heap}
theorem scSum:FnScope ["one", "other", "longs", "sums"] ["one", "other"] (defScope sSum):=⟨rfl,rfl,rfl,by decide +kernel,rfl,by decide +kernel,by decide +kernel⟩
theorem ok_sum {f:Addr}{fd':FuncData}(F:Fun K "least_sum" "least_sum" sSum f fd') (mDict:mg "dict" = none) (mMin:mg "min" = none):FnOk P w K mg base CX0 1 f fd' ["one", "other"] spSum:=by
 refine F.ok scSum (fun vs H Q E h=>?_) (fun cdv A outer s H vs Q E hr h=>?_)
 . obtain⟨p,q,es,fs,rfl,_⟩:=h
   rfl
 . obtain⟨p,q,es,fs,rfl,L1,L2',hF,k⟩:=h
   obtain⟨as,hp,EA,hl⟩:=id L1
   obtain⟨bs,hq,EB,hl2⟩:=id L2'
   have hu:=hu_of hr
   refine⟨_,pss_cons (ps_set (i:=2) scSum.nd rfl (Or.inr rfl) (pe_callTy (call_dictL rfl) (by rfl) mDict (by decide +kernel) (pa_cons
    (pe_comp (own:=["hub", "long", "up", "down"]) (cn:=[]) (ci:=[]) rfl (csc rfl rfl) trivial rfl (pi_tup (pv 1))
     (fun _ _ _ _=>pg_tupC (n:=4) rfl (pgs_cons (pg_name (i:=0) (nd_of rfl) rfl (Or.inl rfl)) (pgs_cons (pg_name (i:=1) (nd_of rfl) rfl (Or.inl rfl)) (pgs_cons (pg_name (i:=2) (nd_of rfl) rfl (Or.inl rfl)) (pgs_cons (pg_name (i:=3) (nd_of rfl) rfl (Or.inl rfl)) pgs_nil)))))
     (fun _ _ _ _=>pts_nil) (fun _ _ _ _=>pe_tup (pa_cons (pv 0) (pa_cons (pv 1) pa_nil)))) pa_nil)))
    (pss_cons (ps_setC (i:=3) (own:=["hub", "long", "up", "down"]) (cn:=["longs"]) (ci:=[2]) scSum.nd rfl (Or.inl rfl) rfl (csc rfl rfl) ⟨rfl,rfl,rfl,trivial⟩ rfl (pi_tup (pv 0))
     (fun _ _ _ _=>pg_tupC (n:=4) rfl (pgs_cons (pg_name (i:=0) (nd_of rfl) rfl (Or.inl rfl)) (pgs_cons (pg_name (i:=1) (nd_of rfl) rfl (Or.inl rfl)) (pgs_cons (pg_name (i:=2) (nd_of rfl) rfl (Or.inl rfl)) (pgs_cons (pg_name (i:=3) (nd_of rfl) rfl (Or.inl rfl)) pgs_nil)))))
     (fun _ _ _ _=>pts_one (pt_cmp (pc_din hu (pv 0) (pv 4)))) (fun _ _ _ _=>pe_tup (pa_cons (pe_op op_add (pv 1) (pe_dget hu (pv 4) (pv 0) (fun _ _=>rfl))) (pa_cons (pv 0) pa_nil))))
    (pss_one (ps_ret (pe_minD rfl hu (by rfl) mMin (pa_cons (pv 3) pa_nil) (pe_tup (pa_cons pe_non (pa_cons pe_non pa_nil))))))),?_⟩
   refine⟨_,rfl,q,rfl,⟨_,SqT.of hq⟩,[],rfl,fun D hD=>?_⟩
   refine comp_tup (a:=q) (xs:=bs.map V.ref) (fun i ys H4=>i<=fs.length/\ys.length=i/\(∀(j:Nat)(y:V),ys[j]? = some y->∃c e,y = .ref c/\fs[j]? = some e/\H4 c=some (.tup [.int e.h,.int e.l]))/\Same H H4/\H4 D=some (.lst ys)) ⟨Nat.zero_le _,rfl,fun j y z=>by simp at z,same_laid hD,upd_same⟩ (fun i ys H4 h=>?_) (fun i ys H4 h=>?_) (fun i v ys H4 hv h=>?_) (fun ys H4 h=>?_)
   . exact SqT.of (h.2.2.2.1 _ _ hq)
   . exact line1000 (by have:=h.1;have:=h.2.1;omega)
   . obtain⟨hi,hyl,hys,s4,hD4⟩:=h
     obtain⟨a,x,rfl,hx,ha⟩:=EB.at hv
     refine⟨a,_,rfl,SqT.of (s4 _ _ ha),rfl,_,_,rfl,_,_,rfl,_,_,rfl,_,_,rfl,rfl,⟨rfl,rfl⟩,?_⟩
     refine tyes ?_
     refine⟨_,rfl,_,rfl,by show 2<=sizeLine;decide,fun c hc=>?_⟩
     have nDc:D≠c:=ne_of_none hD4 hc
     refine⟨same_laid hc _ _ hD4,(List.getElem?_eq_some_iff.mp hx).1,by rw[List.length_append,hyl];rfl,fun j y hy=>?_,same_chg (s4.trans (same_laid hc)) hD,upd_same⟩
     by_cases cj:j<i
     . rw[List.getElem?_append_left (by omega)] at hy
       obtain⟨c',e,h1,h2,h3⟩:=hys j y hy
       refine⟨c',e,h1,h2,?_⟩
       rw[upd_ne (ne_of h3 hD4 (by intro z;cases z))]
       exact same_laid hc _ _ h3
     . have ej:j=i:=by
        have:=(List.getElem?_eq_some_iff.mp hy).1
        rw[List.length_append,hyl] at this
        simp at this;omega
       subst ej
       rw[List.getElem?_append_right (by omega),hyl,Nat.sub_self] at hy
       have ey:V.ref c=y:=by simpa using hy
       subst ey
       exact⟨c,x,rfl,hx,by rw[upd_ne (Ne.symm nDc)];exact upd_same⟩
   . obtain⟨_,hyl,hys,s4,hD4⟩:=h
     rw[List.length_map,EB.1] at hyl
     refine⟨D,ys,fs.map fun e=>(Sum.inl e.h,V.int e.l),rfl,SqL.of hD4,⟨by rw[List.length_map,hyl],fun j y hy=>?_⟩,fun dd hdd=>?_⟩
     . obtain⟨c,e,h1,h2,h3⟩:=hys j y hy
       exact⟨c,Sum.inl e.h,.int e.l,h1,h3,by rw[List.getElem?_map,h2];rfl⟩
     have hnd:((fs.map fun e=>((Sum.inl e.h:Key),V.int e.l)).map (·.1)).Nodup:=by
      rw[List.map_map,List.Nodup,List.pairwise_map]
      exact hF.imp fun h z=>by injection z with z;omega
     rw[putAll_id hnd]
     have hval:∀x:Int,valV (fs.map fun e=>((Sum.inl e.h:Key),V.int e.l)) (Sum.inl x)=(entE fs x).map fun e=>V.int e.l:=fun x=>by
      unfold valV entE
      rw[List.find?_map,Option.map_map]
      have:((fun kv:Key×V=>decide (kv.1=Sum.inl x))∘fun e:En=>((Sum.inl e.h:Key),V.int e.l))=fun e:En=>decide (e.h=x):=by
       funext e
       show decide ((Sum.inl e.h:Key)=Sum.inl x)=_
       by_cases c:e.h=x
       . rw[decide_eq_true c,decide_eq_true (by rw[c])]
       . rw[decide_eq_false c,decide_eq_false (by intro z;injection z with z;exact c z)]
      rw[this]
      rfl
     have s5:Same H (upd H4 dd (.dK (fs.map fun e=>(Sum.inl e.h,V.int e.l)))):=s4.trans (same_laid hdd)
     have hd5:(upd H4 dd (.dK (fs.map fun e=>((Sum.inl e.h:Key),V.int e.l)))) dd=some (.dK (fs.map fun e=>(Sum.inl e.h,V.int e.l))):=upd_same
     generalize upd H4 dd (.dK (fs.map fun e=>((Sum.inl e.h:Key),V.int e.l)))=H5 at s5 hd5 ⊢
     generalize (fs.map fun e=>((Sum.inl e.h:Key),V.int e.l))=kvs at hval hd5
     refine⟨_,rfl,p,rfl,⟨_,SqT.of (s5 _ _ hp)⟩,[.ref dd],rfl,fun D2 hD2=>?_⟩
     refine comp_tup (a:=p) (xs:=as.map V.ref) (fun i ys H6=>TupsAre H6 ys (((es.take i).filterMap (cOf fs)).map fun c=>[c.1,c.2])/\Same H5 H6/\H6 D2=some (.lst ys)) ⟨trivial,same_laid hD2,upd_same⟩ (fun i ys H6 h=>?_) (fun i ys H6 h=>?_) (fun i v ys H6 hv h=>?_) (fun ys H6 h=>?_)
     . exact SqT.of (h.2.1 _ _ (s5 _ _ hp))
     . have:=h.1.length
       rw[this,List.length_map]
       exact Nat.lt_of_le_of_lt (List.length_filterMap_le _ _) (line1000 (by rw[List.length_take];omega))
     . obtain⟨T6,s6,hD6⟩:=h
       obtain⟨a,x,rfl,hx,ha⟩:=EA.at hv
       refine⟨a,_,rfl,SqT.of (s6 _ _ (s5 _ _ ha)),rfl,_,_,rfl,_,_,rfl,_,_,rfl,_,_,rfl,rfl,⟨rfl,rfl⟩,?_⟩
       refine⟨_,rfl,_,rfl,dd,_,rfl,DGet.k (k:=Sum.inl x.h) (s6 _ _ hd5),_,rfl,?_⟩
       have st:=fm_step (cOf fs) hx
       have hv2:=hval x.h
       cases e:entE fs x.h with
       | none=>
        rw[e] at hv2
        rw[hv2]
        refine iteF ?_
        have ec:cOf fs x=none:=by unfold cOf;rw[e];rfl
        refine⟨?_,s6,hD6⟩
        rw[st,ec]
        simpa using T6
       | some g=>
        rw[e] at hv2
        have hv3:valV kvs (Sum.inl x.h)=some (.int g.l):=hv2
        rw[hv3]
        refine iteT ?_
        have ec:cOf fs x=some (x.l+g.l,x.h):=by unfold cOf;rw[e];rfl
        refine⟨_,rfl,_,rfl,_,rfl,dd,.int g.l,rfl,hv3 ▸ DGet.k (k:=Sum.inl x.h) (s6 _ _ hd5),_,_,rfl,rfl,_,rfl,by show 2<=sizeLine;decide,fun c hc=>?_⟩
        refine⟨same_laid hc _ _ hD6,?_,same_chg (s6.trans (same_laid hc)) hD2,upd_same⟩
        rw[st,ec,List.map_append]
        refine TupsAre.snoc (T6.keep fun b zs e=>?_) ⟨c,rfl,?_,by intro z;cases z⟩
        . rw[upd_ne (ne_of e hD6 (by intro z;cases z))]
          exact same_laid hc _ _ e
        . rw[upd_ne (Ne.symm (ne_of_none hD6 hc))]
          exact upd_same
     . obtain⟨T6,s6,hD6⟩:=h
       rw[List.length_map,EA.1,List.take_of_length_le (Nat.le_refl _)] at T6
       have hmem:=fun c=>cOf_mem (es:=es) hF c
       generalize es.filterMap (cOf fs)=cs at T6 hmem
       refine⟨_,rfl,_,rfl,by show 2<=sizeLine;decide,fun n hn=>?_⟩
       have s7:Same H (upd H6 n (.tup [.non,.non])):=(s5.trans s6).trans (same_laid hn)
       refine⟨D2,ys,rfl,.inl (SqL.of (same_laid hn _ _ hD6)),fun e0=>?_,.inl ⟨_,T6.keep fun b zs e=>same_laid hn _ _ e,fun i y kk hy hk hmin=>?_⟩⟩
       . refine k n none _ s7 (fun c z=>?_) upd_same
         have:cs=[]:=by
          have:=T6.length
          rw[e0,List.length_map] at this
          exact List.length_eq_zero_iff.mp this.symm
         rw[<-hmem,this] at z
         simp at z
       . obtain⟨a,k',e1,e2,e3,_⟩:=T6.get hy
         rw[hk] at e2
         cases e2
         rw[List.getElem?_map] at hk
         cases ec:cs[i]? with
         | none=>rw[ec] at hk;cases hk
         | some c=>
          rw[ec] at hk
          have ek:[c.1,c.2]=kk:=Option.some.inj hk
          subst ek e1
          refine k a (some c) _ s7 ⟨(hmem c).mp (List.mem_of_getElem? ec),fun c' hc'=>?_⟩ (same_laid hn _ _ e3)
          have:=hmin [c'.1,c'.2] (List.mem_map.mpr ⟨c',(hmem c').mpr hc',rfl⟩)
          rw[HT.lexLt_cons] at this
          by_cases q:c'.1=c.1
          . rw[if_pos q,HT.lexLt_cons] at this
            by_cases q2:c'.2=c.2
            . exact .inr ⟨q.symm,by omega⟩
            . rw[if_neg q2] at this
              have:=of_decide_eq_false this
              exact .inr ⟨q.symm,by omega⟩
          . rw[if_neg q] at this
            have:=of_decide_eq_false this
            exact .inl (by omega)
end
section
variable {P:Program}{w:World}{K:PySem.W.Frag}{mg:Str->Option Value}{base:Heap}
theorem scTold:FnScope ["one", "other"] ["one", "other"] (defScope sTold):=⟨rfl,rfl,rfl,by decide +kernel,rfl,by decide +kernel,by decide +kernel⟩
theorem ok_told {f fS:Addr}{fd' fdS:FuncData}(F:Fun K "told" "told" sTold f fd') (FS:Fun K "least_sum" "least_sum" sSum fS fdS) (bS:Binds K fdS ["one", "other"] []) (mS:mg "least_sum" = some (.ref fS)) (mDict:mg "dict" = none) (mMin:mg "min" = none):FnOk P w K mg base CX0 2 f fd' ["one", "other"] spTold:=by
 have GS:FnOk P w K mg base CX0 1 fS fdS ["one", "other"] spSum:=ok_sum FS mDict mMin
 refine F.ok scTold (fun vs H Q E h=>?_) (fun cdv A outer s H vs Q E hr h=>?_)
 . obtain⟨p,q,es,fs,rfl,_⟩:=h
   rfl
 . obtain⟨p,q,es,fs,rfl,L1,L2',hF,k⟩:=h
   refine⟨_,pss_one (ps_ret (pe_ix ix_tup (pe_call GS hr rfl mS FS.kp bS .nil pass0 (pa_cons (pv 0) (pa_cons (pv 1) pa_nil))) pe_int (fun _ _=>rfl))),?_⟩
   refine⟨_,rfl,_,rfl,p,q,es,fs,rfl,L1,L2',hF,fun r lm H' s1 hm hr'=>?_⟩
   exact⟨r,_,_,_,rfl,rfl,SqT.of hr',rfl,k lm H' s1 hm⟩
end
end K68
namespace K68
open PySem L2 WM
def rkf (rks:List Int)(p:Int):Int:=rks.getD p.toNat 0
def HubOf (ts:List T3)(rk:Int->Int)(h v:Int):Prop:=(∃d,WM.IsD ts h v d)/\∀p,Btw ts h v p->rk h<=rk p
def MinO (P:Int->Prop):Option Int->Prop
 | none=>∀p,¬ P p
 | some m=>P m/\∀p,P p->m<=p
theorem MinO.congr {P P':Int->Prop}(e:∀p,P p↔P' p):∀{o:Option Int},MinO P o->MinO P' o
 | none,h=>fun p z=>h p ((e p).mpr z)
 | some _,h=>⟨(e _).mp h.1,fun p z=>h.2 p ((e p).mpr z)⟩
structure EntOf (ts:List T3)(n:Int)(rk:Int->Int)(v:Int)(e:En):Prop where
 rng:0<=e.h/\e.h<n
 hub:HubOf ts rk e.h v
 len:WM.IsD ts v e.h e.l
 up:MinO (Nxt ts v e.h) e.u
 dn:MinO (Nxt ts e.h v) e.d
structure LabOf (ts:List T3)(n:Int)(rk:Int->Int)(v:Int)(es:List En):Prop where
 hub:Hub es
 ent:∀e∈es,EntOf ts n rk v e
 all:∀h,0<=h->h<n->HubOf ts rk h v->∃e∈es,e.h=h
 len:es.length<=24
theorem HubOf.congr {ts:List T3}{n:Int}{rk rk':Int->Int}{h v:Int}(G:GW n ts)(e:∀p,0<=p->p<n->rk p=rk' p)(h0:0<=h)(h1:h<n)(x:HubOf ts rk h v):HubOf ts rk' h v:=by
 refine⟨x.1,fun p hp=>?_⟩
 obtain⟨a,b,ia,_⟩:=id hp
 have:=ia.1.in_ G h0 h1
 rw[<-e h h0 h1,<-e p this.1 this.2]
 exact x.2 p hp
theorem LabOf.congr {ts:List T3}{n:Int}{rk rk':Int->Int}{v:Int}{es:List En}(G:GW n ts)(e:∀p,0<=p->p<n->rk p=rk' p)(x:LabOf ts n rk v es):LabOf ts n rk' v es:=
 ⟨x.hub,fun a ha=>let y:=x.ent a ha;⟨y.rng,y.hub.congr G e y.rng.1 y.rng.2,y.len,y.up,y.dn⟩,fun h h0 h1 z=>x.all h h0 h1 (z.congr G (fun p a b=>(e p a b).symm) h0 h1),x.len⟩
def LabsAt (H:Hp)(l:Addr)(ess:List (List En)):Prop:=∃as:List Addr,H l=some (.tup (as.map V.ref))/\as.length=ess.length/\∀(i:Nat)(a:Addr),as[i]? = some a->∃es,ess[i]? = some es/\LabAt H a es
theorem LabsAt.keep {H H':Hp}{l:Addr}{ess:List (List En)}(h:LabsAt H l ess)(k:∀b ys,H b=some (.tup ys)->H' b=some (.tup ys)):LabsAt H' l ess:=
 let ⟨as,h1,h2,h3⟩:=h;⟨as,k _ _ h1,h2,fun i a ha=>let ⟨es,e1,e2⟩:=h3 i a ha;⟨es,e1,e2.keep k⟩⟩
theorem RowsAt.at {H:Hp}{rs:List Addr}{M:List (List (Option Int))}{ts:List T3}{n x:Int}(RA:RowsAt H rs M)(RR:Rows ts n M)(h0:0<=x)(h1:x<n) :
 ∃r,(rs.map V.ref)[x.toNat]? = some (.ref r)/\H r=some (.tup ((M.getD x.toNat []).map oV))/\Lens ts n x (M.getD x.toNat []):=by
 have hM:x.toNat<M.length:=by rw[RR.1];omega
 have hr:x.toNat<rs.length:=by rw[RA.1];exact hM
 have e:M[x.toNat]? = some (M.getD x.toNat []):=by rw[List.getD_eq_getElem?_getD,List.getElem?_eq_getElem hM];rfl
 exact⟨rs[x.toNat],by rw[List.getElem?_map,List.getElem?_eq_getElem hr];rfl,RA.2 _ _ _ (List.getElem?_eq_getElem hr) e,RR.2 x h0 h1⟩
theorem RowsAt.same {H H':Hp}{rs:List Addr}{M:List (List (Option Int))}(h:RowsAt H rs M)(k:Same H H'):RowsAt H' rs M:=⟨h.1,fun i r row a b=>k _ _ (h.2 i r row a b)⟩
theorem minD_of {K:PySem.W.Frag}{H:Hp}{p:Addr}{xs:List Int}{Q:VK}(hp:SqT K H p (xs.map V.int))(h:∀u,MinO (· ∈ xs) u->Q (oV u) H):rMinD K (.ref p) .non H Q:=by
 refine⟨p,_,rfl,.inr hp,fun e=>?_,.inr ⟨xs,rfl,fun n hn hm=>h (some n) ⟨hn,hm⟩⟩⟩
 have:xs=[]:=by simpa using e
 exact h none fun q hq=>by rw[this] at hq;simp at hq
structure Look (H:Hp)(rl ra:Addr)(rs:List Addr)(M:List (List (Option Int)))(rks:List Int)(n:Int)(ts:List T3):Prop where
 tab:H rl=some (.tup (rs.map V.ref))
 rows:RowsAt H rs M
 right:Rows ts n M
 rk:H ra=some (.lst (rks.map V.int))
 rln:rks.length=n.toNat
 web:GW n ts
theorem Look.same {H H':Hp}{rl ra:Addr}{rs:List Addr}{M:List (List (Option Int))}{rks:List Int}{n:Int}{ts:List T3}(L:Look H rl ra rs M rks n ts)(k:Same H H'):Look H' rl ra rs M rks n ts:=⟨k _ _ L.tab,L.rows.same k,L.right,k _ _ L.rk,L.rln,L.web⟩
theorem Look.rank {H:Hp}{rl ra:Addr}{rs:List Addr}{M:List (List (Option Int))}{rks:List Int}{n:Int}{ts:List T3}(L:Look H rl ra rs M rks n ts){x:Int}(h0:0<=x)(h1:x<n):(rks.map V.int)[x.toNat]? = some (.int (rkf rks x)):=by
 have:x.toNat<rks.length:=by rw[L.rln];omega
 rw[List.getElem?_map,List.getElem?_eq_getElem this]
 unfold rkf
 rw[List.getD_eq_getElem?_getD,List.getElem?_eq_getElem this]
 rfl
def spIsh:Sp:=fun vs H Q _=>∃(rl ra:Addr)(rs:List Addr)(M:List (List (Option Int)))(rks:List Int)(n:Int)(ts:List T3)(h v:Int),vs=[.ref rl,.ref ra,.int h,.int v]/\Look H rl ra rs M rks n ts/\0<=h/\h<n/\0<=v/\v<n /\
 ∀(b:Bool)(H':Hp),Same H H'->(b=true↔HubOf ts (rkf rks) h v)->Q (.bl b) H'
def spEbr:Sp:=fun vs H Q _=>∃(wa rl ra:Addr)(rs:List Addr)(M:List (List (Option Int)))(rks:List Int)(n:Int)(ts:List T3)(v h:Int),vs=[.ref wa,.ref rl,.int v,.int h]/\WebAt H wa n ts/\Look H rl ra rs M rks n ts/\0<=h/\h<n/\0<=v/\v<n/\HubOf ts (rkf rks) h v /\
 ∀(a:Addr)(e:En)(H':Hp),Same H H'->H' a=some (.tup (eV e))->e.h=h->EntOf ts n (rkf rks) v e->Q (.ref a) H'
def spLbr:Sp:=fun vs H Q _=>∃(wa rl ra:Addr)(rs:List Addr)(M:List (List (Option Int)))(rks:List Int)(n:Int)(ts:List T3)(v:Int),vs=[.ref wa,.ref rl,.ref ra,.int v]/\WebAt H wa n ts/\Look H rl ra rs M rks n ts/\0<=v/\v<n /\
 ∀(a:Addr)(es:List En)(H':Hp),Same H H'->LabAt H' a es->LabOf ts n (rkf rks) v es->Q (.ref a) H'
section
variable {P:Program}{w:World}{K:PySem.W.Frag}{mg:Str->Option Value}{base:Heap}
theorem scIsh:FnScope ["rows", "ranks", "hub", "place"] ["rows", "ranks", "hub", "place"] (defScope sIsh):=⟨rfl,rfl,rfl,by decide +kernel,rfl,by decide +kernel,by decide +kernel⟩
theorem ok_ish {f fB:Addr}{fd' fdB:FuncData}(F:Fun K "is_hub" "is_hub" sIsh f fd') (FB:Fun K "between_rows" "between_rows" sBwr fB fdB) (bB:Binds K fdB ["here", "there", "other"] []) (mB:mg "between_rows" = some (.ref fB)) (mRange:mg "range" = none) (mTuple:mg "tuple" = none) (mLen:mg "len" = none) (mAll:mg "all" = none) :
 FnOk P w K mg base CX0 2 f fd' ["rows", "ranks", "hub", "place"] spIsh:=by
 have GB:FnOk P w K mg base CX0 1 fB fdB ["here", "there", "other"] spBwr:=ok_bwr FB mRange mTuple mLen
 refine F.ok scIsh (fun vs H Q E h=>?_) (fun cdv A outer s H vs Q E hr h=>?_)
 . obtain⟨rl,ra,rs,M,rks,n,ts,h,v,rfl,_⟩:=h
   rfl
 . obtain⟨rl,ra,rs,M,rks,n,ts,h,v,rfl,L,h0,h1,v0,v1,k⟩:=h
   have G:=L.web
   have hn24:=G.n24
   refine⟨_,pss_cons (ps_if (pt_cmpR op_isN (pe_ix ix_tup (pe_ix ix_tup (pv 0) (pv 2) (fun _ _=>rfl)) (pv 3) (fun _ _=>rfl)) pe_non (nomark _)) (pss_one (ps_ret pe_bl)) pss_nil)
    (pss_one (ps_ret (pe_callB (call_all rfl) (by rfl) mAll (by decide +kernel) (pa_cons (pe_comp (own:=["other"]) (cn:=["ranks", "hub"]) (ci:=[1,2]) rfl (csc rfl rfl) ⟨rfl,rfl,rfl,rfl,rfl,rfl,trivial⟩ rfl
     (pi_tup (pe_call GB hr rfl mB FB.kp bB .nil pass0 (pa_cons (pe_ix ix_tup (pv 0) (pv 2) (fun _ _=>rfl)) (pa_cons (pe_ix ix_tup (pv 0) (pv 3) (fun _ _=>rfl)) (pa_cons (pv 3) pa_nil))))) (fun _ _ _ _=>pg_name (i:=0) (nd_of rfl) rfl (Or.inl rfl))
     (fun _ _ _ _=>pts_nil) (fun _ _ _ _=>pe_cmpR op_le (pe_ix ix_listC (pv 1) (pv 2) (fun _ _=>rfl)) (pe_ix ix_listC (pv 1) (pv 0) (fun _ _=>rfl)) (nomark _))) pa_nil)))),?_⟩
   obtain⟨rh,gh,hh,Lh⟩:=L.rows.at L.right h0 h1
   obtain⟨rv,gv,hv,Lv⟩:=L.rows.at L.right v0 v1
   have lhv:=Lh.len v v0 v1
   refine⟨_,rfl,_,rfl,rl,_,_,.ref rh,rfl,rfl,SqT.of L.tab,atI_in h0 gh,_,rfl,rh,_,_,oV (fnl (M.getD h.toNat []) v),rfl,rfl,SqT.of hh,atI_in v0 (Lens_get Lh v0 v1),rfl,_,rfl,?_⟩
   rw[oV_non]
   cases ed:fnl (M.getD h.toNat []) v with
   | none=>
    rw[ed] at lhv
    refine iteT ?_
    exact k false H (Same.refl _) ⟨(fun z=>by cases z),(fun z=>by obtain⟨d,hd⟩:=z.1;exact absurd hd.1 (lhv d))⟩
   | some d=>
    rw[ed] at lhv
    refine iteF ?_
    refine⟨_,rfl,_,rfl,rl,_,_,.ref rh,rfl,rfl,SqT.of L.tab,atI_in h0 gh,_,rfl,_,rfl,rl,_,_,.ref rv,rfl,rfl,SqT.of L.tab,atI_in v0 gv,_,rfl,rh,rv,n,ts,h,v,_,_,rfl,G,h0,h1,v0,v1,hh,hv,Lh,Lv,fun l xs H1 s1 hl hrise hmem=>?_⟩
    have hxr:∀p∈xs,0<=p/\p<n:=fun p hp=>by
     obtain⟨a,b,ia,_⟩:=(hmem p).mp hp
     exact ia.1.in_ G h0 h1
    have hxl:xs.length<=24:=by
     have:=nd_len (n:=n.toNat) (l:=xs) (hrise.imp fun z=>by omega) fun x hx=>by have:=hxr x hx;omega
     omega
    refine⟨l,rfl,⟨_,SqT.of hl⟩,[.ref ra,.int h],rfl,fun D hD=>?_⟩
    have hra:=s1 _ _ L.rk
    refine comp_tup (a:=l) (xs:=xs.map V.int) (fun i ys H4=>ys=((xs.take i).map fun p=>decide (rkf rks h<=rkf rks p)).map V.bl/\H4=upd H1 D (.lst ys)) ⟨rfl,rfl⟩ (fun i ys H4 z=>?_) (fun i ys H4 z=>?_) (fun i x ys H4 hx z=>?_) (fun ys H4 z=>?_)
    . obtain⟨_,rfl⟩:=z
      exact SqT.of (by rw[upd_ne (ne_of_none hl hD)];exact hl)
    . obtain⟨rfl,_⟩:=z
      rw[List.length_map,List.length_map,List.length_take]
      exact small_line (by omega)
    . obtain⟨rfl,rfl⟩:=z
      obtain⟨p,hp,rfl⟩:∃p,xs[i]? = some p/\V.int p=x:=by
       rw[List.getElem?_map] at hx
       cases e:xs[i]? with
       | none=>rw[e] at hx;cases hx
       | some p=>rw[e] at hx;exact⟨p,rfl,Option.some.inj hx⟩
      have hpr:=hxr p (List.mem_of_getElem? hp)
      have hra4:=same_laid (o:=.lst (((xs.take i).map fun p=>decide (rkf rks h<=rkf rks p)).map V.bl)) hD _ _ hra
      refine⟨⟨rfl,rfl⟩,?_⟩
      refine tyes ?_
      refine⟨_,rfl,_,rfl,ra,_,_,.int (rkf rks h),rfl,rfl,SqL.of hra4,atI_in h0 (L.rank h0 h1),_,rfl,_,rfl,ra,_,_,.int (rkf rks p),rfl,rfl,SqL.of hra4,atI_in hpr.1 (L.rank hpr.1 hpr.2),_,_,rfl,rfl,upd_same,?_,upd_upd⟩
      rw[List.take_add_one,hp,List.map_append,List.map_append];rfl
    . obtain⟨rfl,rfl⟩:=z
      rw[List.length_map,List.take_of_length_le (Nat.le_refl _)]
      refine⟨D,_,rfl,SqL.of upd_same,?_⟩
      refine k _ _ (s1.trans (same_laid hD)) ⟨fun z=>⟨⟨d,lhv⟩,fun p hp=>?_⟩,fun z=>List.all_eq_true.mpr fun b hb=>?_⟩
      . have:=List.all_eq_true.mp z _ (List.mem_map.mpr ⟨p,(hmem p).mpr hp,rfl⟩)
        exact of_decide_eq_true this
      . obtain⟨p,hp,rfl⟩:=List.mem_map.mp hb
        exact decide_eq_true (z.2 p ((hmem p).mp hp))
theorem scEbr:FnScope ["web", "rows", "place", "hub", "up", "down"] ["web", "rows", "place", "hub"] (defScope sEbr):=⟨rfl,rfl,rfl,by decide +kernel,rfl,by decide +kernel,by decide +kernel⟩
theorem ok_ebr {f fN fT:Addr}{fd' fdN fdT:FuncData}(F:Fun K "entry_by_rows" "entry_by_rows" sEbr f fd') (FN:Fun K "next_by_row" "next_by_row" sNbr fN fdN) (bN:Binds K fdN ["web", "one", "there"] []) (mN:mg "next_by_row" = some (.ref fN))
 (FT:Fun K "ties_at" "ties_at" sTies fT fdT) (bT:Binds K fdT ["web", "place"] []) (mT:mg "ties_at" = some (.ref fT)) (mSorted:mg "sorted" = none) (mTuple:mg "tuple" = none) (mMin:mg "min" = none):FnOk P w K mg base CX0 4 f fd' ["web", "rows", "place", "hub"] spEbr:=by
 have GN:FnOk P w K mg base CX0 3 fN fdN ["web", "one", "there"] spNbr:=ok_nbr FN FT bT mT mSorted mTuple
 refine F.ok scEbr (fun vs H Q E h=>?_) (fun cdv A outer s H vs Q E hr h=>?_)
 . obtain⟨wa,rl,ra,rs,M,rks,n,ts,v,h,rfl,_⟩:=h
   rfl
 . obtain⟨wa,rl,ra,rs,M,rks,n,ts,v,h,rfl,W,L,h0,h1,v0,v1,hh,k⟩:=h
   have hu:=hu_of hr
   refine⟨_,pss_cons (ps_set (i:=4) scEbr.nd rfl (Or.inl rfl) (pe_minD rfl hu (by rfl) mMin (pa_cons (pe_call GN hr rfl mN FN.kp bN .nil pass0 (pa_cons (pv 0) (pa_cons (pv 2) (pa_cons (pe_ix ix_tup (pv 1) (pv 3) (fun _ _=>rfl)) pa_nil)))) pa_nil) pe_non))
    (pss_cons (ps_set (i:=5) scEbr.nd rfl (Or.inl rfl) (pe_minD rfl hu (by rfl) mMin (pa_cons (pe_call GN hr rfl mN FN.kp bN .nil pass0 (pa_cons (pv 0) (pa_cons (pv 3) (pa_cons (pe_ix ix_tup (pv 1) (pv 2) (fun _ _=>rfl)) pa_nil)))) pa_nil) pe_non))
    (pss_one (ps_ret (pe_tup (pa_cons (pv 3) (pa_cons (pe_ix ix_tup (pe_ix ix_tup (pv 1) (pv 2) (fun _ _=>rfl)) (pv 3) (fun _ _=>rfl)) (pa_cons (pv 4) (pa_cons (pv 5) pa_nil)))))))),?_⟩
   obtain⟨rh,gh,ha,Lh⟩:=L.rows.at L.right h0 h1
   obtain⟨rv,gv,hv,Lv⟩:=L.rows.at L.right v0 v1
   refine⟨_,rfl,_,rfl,_,rfl,_,rfl,rl,_,_,.ref rh,rfl,rfl,SqT.of L.tab,atI_in h0 gh,wa,rh,n,ts,v,h,_,rfl,W,v0,v1,h0,h1,ha,Lh,fun l1 xs H1 s1 hl1 _ hm1=>?_⟩
   refine⟨_,rfl,?_⟩
   unfold tC
   refine minD_of (SqT.of hl1) fun u hu1=>?_
   have L1:=L.same s1
   refine⟨_,rfl,_,rfl,_,rfl,_,rfl,rl,_,_,.ref rv,rfl,rfl,SqT.of L1.tab,atI_in v0 gv,wa,rv,n,ts,h,v,_,rfl,W.keep s1,h0,h1,v0,v1,s1 _ _ hv,Lv,fun l2 ys H2 s2 hl2 _ hm2=>?_⟩
   refine⟨_,rfl,?_⟩
   dsimp only
   refine minD_of (SqT.of hl2) fun d hd1=>?_
   have s12:=s1.trans s2
   have L2':=L.same s12
   obtain⟨dd,hdd⟩:=hh.1
   have lv:=Len.uniq (Lv.len h h0 h1) (show Len ts v h (some dd) from WM.IsD.symm hdd)
   refine⟨_,rfl,_,rfl,_,rfl,rl,_,_,.ref rv,rfl,rfl,SqT.of L2'.tab,atI_in v0 gv,_,rfl,rv,_,_,.int dd,rfl,rfl,SqT.of (s12 _ _ hv),atI_in h0 (by rw[Lens_get Lv h0 h1,lv];rfl),_,rfl,_,rfl,by show 4<=sizeLine;decide,fun a ha'=>?_⟩
   exact k a ⟨h,dd,u,d⟩ _ (s12.trans (same_laid ha')) upd_same rfl ⟨⟨h0,h1⟩,hh,WM.IsD.symm hdd,hu1.congr hm1,hd1.congr hm2⟩
end
theorem rows_bd {n:Int}{ts:List T3}{M:List (List (Option Int))}(R:Rows ts n M){x y d:Int}(x0:0<=x)(x1:x<n)(y0:0<=y)(y1:y<n)(h:WM.IsD ts x y d):0<=d/\d<=2376:=by
 have L:=R.2 x x0 x1
 have l:=L.len y y0 y1
 cases e:fnl (M.getD x.toNat []) y with
 | none=>rw[e] at l;exact absurd h.1 (l d)
 | some d'=>
  rw[e] at l
  have ed:d'=d:=WM.IsD.uniq l h
  subst ed
  refine L.bd (some d') ?_ d' rfl
  unfold fnl at e
  rw[if_pos y0,List.getD_eq_getElem?_getD] at e
  cases e2:(M.getD x.toNat [])[y.toNat]? with
  | none=>rw[e2] at e;cases e
  | some o=>
   rw[e2] at e
   have eo:o=some d':=e
   rw[<-eo]
   exact List.mem_of_getElem? e2
def RkOf (n:Int)(os:List Int)(rk:Int->Int):Prop:=∀p,0<=p->p<n->0<=rk p/\os[(rk p).toNat]? = some p
def LabsOf (ts:List T3)(n:Int)(rk:Int->Int)(ess:List (List En)):Prop:=ess.length=n.toNat/\∀(i:Nat)(es:List En),ess[i]? = some es->LabOf ts n rk i es
def spByo (PT:Addr):Sp:=fun vs H Q _=>∃(wa p:Addr)(n:Int)(ts:List T3)(os:List Int),vs=[.ref wa,.ref p]/\WebAt H wa n ts/\H p=some (.tup (os.map V.int))/\Ordr n os/\Tb H PT /\
 ∀(l:Addr)(ess:List (List En))(rk:Int->Int)(H':Hp),SmT H H'->Tb H' PT->LabsAt H' l ess->RkOf n os rk->LabsOf ts n rk ess->(∀es∈ess,∀e∈es,0<=e.l/\e.l<=2376)->Q (.ref l) H'
theorem Ordr.mem {n:Int}{os:List Int}(O:Ordr n os){p:Int}(h0:0<=p)(h1:p<n):p∈os:=by
 apply Classical.byContradiction
 intro hn
 have:=nd_len (n:=n.toNat) (l:=p::os) (List.nodup_cons.mpr ⟨hn,O.nd⟩) fun x hx=>by
  rcases List.mem_cons.mp hx with rfl | hx
  . omega
  . have:=O.rng x hx;omega
 rw[List.length_cons,O.ln] at this
 omega
section
variable {P:Program}{w:World}{K:PySem.W.Frag}{mg:Str->Option Value}{base:Heap}{PT:Addr}
theorem scLbr:FnScope ["web", "rows", "ranks", "place", "hubs"] ["web", "rows", "ranks", "place"] (defScope sLbr):=⟨rfl,rfl,rfl,by decide +kernel,rfl,by decide +kernel,by decide +kernel⟩
theorem ok_lbr {f fI fE:Addr}{fd' fdI fdE:FuncData}(F:Fun K "label_by_ranks" "label_by_ranks" sLbr f fd') (FI:Fun K "is_hub" "is_hub" sIsh fI fdI) (bI:Binds K fdI ["rows", "ranks", "hub", "place"] []) (mI:mg "is_hub" = some (.ref fI)) (GI:FnOk P w K mg base CX0 4 fI fdI ["rows", "ranks", "hub", "place"] spIsh)
 (FE:Fun K "entry_by_rows" "entry_by_rows" sEbr fE fdE) (bE:Binds K fdE ["web", "rows", "place", "hub"] []) (mE:mg "entry_by_rows" = some (.ref fE)) (GE:FnOk P w K mg base CX0 4 fE fdE ["web", "rows", "place", "hub"] spEbr) (mRange:mg "range" = none) (mTuple:mg "tuple" = none) :
 FnOk P w K mg base CX0 5 f fd' ["web", "rows", "ranks", "place"] spLbr:=by
 refine F.ok scLbr (fun vs H Q E h=>?_) (fun cdv A outer s H vs Q E hr h=>?_)
 . obtain⟨wa,rl,ra,rs,M,rks,n,ts,v,rfl,_⟩:=h
   rfl
 . obtain⟨wa,rl,ra,rs,M,rks,n,ts,v,rfl,W,L,v0,v1,k⟩:=h
   obtain⟨ta,tys,hwa,_,_,G⟩:=id W
   have hn1:=G.n1
   have hn24:=G.n24
   refine⟨_,pss_cons (ps_setC (i:=4) (own:=["hub"]) (cn:=["rows", "ranks", "place"]) (ci:=[1,2,3]) scLbr.nd rfl (Or.inl rfl) rfl (csc rfl rfl) ⟨rfl,rfl,rfl,rfl,rfl,rfl,rfl,rfl,rfl,trivial⟩ rfl
    (pi_range1 rfl mRange (pa_cons (pe_ix ix_tup (pv 0) pe_int (fun _ _=>rfl)) pa_nil)) (fun _ _ _ _=>pg_name (i:=0) (nd_of rfl) rfl (Or.inl rfl))
    (fun _ _ _ _=>pts_one (pt_val (pe_call GI hr rfl mI FI.kp bI .nil pass0 (pa_cons (pv 1) (pa_cons (pv 2) (pa_cons (pv 0) (pa_cons (pv 3) pa_nil))))))) (fun _ _ _ _=>pv 0))
    (pss_one (ps_ret (pe_callTy call_tuple_of (by rfl) mTuple (by decide +kernel) (pa_cons (pe_comp (own:=["hub"]) (cn:=["web", "rows", "place"]) (ci:=[0,1,3]) rfl (csc rfl rfl) ⟨rfl,rfl,rfl,rfl,rfl,rfl,rfl,rfl,rfl,trivial⟩ rfl
     (pi_list (pv 4)) (fun _ _ _ _=>pg_name (i:=0) (nd_of rfl) rfl (Or.inl rfl)) (fun _ _ _ _=>pts_nil)
     (fun _ _ _ _=>pe_call GE hr rfl mE FE.kp bE .nil pass0 (pa_cons (pv 1) (pa_cons (pv 2) (pa_cons (pv 3) (pa_cons (pv 0) pa_nil)))))) pa_nil)))),?_⟩
   refine⟨_,rfl,wa,_,_,_,rfl,rfl,SqT.of hwa,rfl,n,rfl,by omega,by omega,[.ref rl,.ref ra,.int v],rfl,fun D hD=>?_⟩
   refine comp_range (lo:=0) (n:=n.toNat) (fun q ys H3=>q<=n.toNat/\(∃hs:List Int,ys=hs.map V.int/\hs.Pairwise (· < ·)/\∀p,p∈hs↔(0<=p/\p<(q:Int))/\HubOf ts (rkf rks) p v)/\Same H H3/\H3 D=some (.lst ys)) ⟨Nat.zero_le _,⟨[],rfl,List.Pairwise.nil,fun p=>⟨fun z=>by simp at z,fun z=>absurd z.1 (by omega)⟩⟩,same_laid hD,upd_same⟩ (fun q ys H3 z=>?_) (fun q ys H3 hq z=>?_) (fun ys H3 z=>?_)
   . obtain⟨hq,⟨hs,rfl,hp,hm⟩,_⟩:=z
     rw[List.length_map]
     have:=nd_len (n:=q) (l:=hs) (hp.imp fun z=>by omega) fun x hx=>by have:=((hm x).mp hx).1;omega
     exact small_line (by omega)
   . obtain⟨_,⟨hs,rfl,hp,hm⟩,s3,hD3⟩:=z
     rw[Int.zero_add]
     refine⟨⟨rfl,rfl⟩,?_⟩
     refine⟨_,rfl,_,rfl,_,rfl,_,rfl,rl,ra,rs,M,rks,n,ts,q,v,rfl,L.same s3,by omega,by omega,v0,v1,fun b H4 s4 hb=>?_⟩
     refine⟨_,rfl,?_⟩
     refine ite2 (fun c=>?_) (fun c=>?_)
     . refine⟨_,rfl,s4 _ _ hD3,hq,⟨hs++[(q:Int)],by rw[List.map_append];rfl,List.pairwise_append.mpr ⟨hp,List.pairwise_singleton _ _,fun a ha b hb'=>?_⟩,fun p=>?_⟩,same_chg (s3.trans s4) hD,upd_same⟩
       . have:b=(q:Int):=by simpa using hb'
         have:=((hm a).mp ha).1
         omega
       . rw[List.mem_append,hm]
         constructor
         . rintro (⟨a,b⟩ | a)
           . exact⟨by omega,b⟩
           . have:p=(q:Int):=by simpa using a
             subst this
             exact⟨by omega,hb.mp c⟩
         . rintro ⟨a,b⟩
           by_cases e:p=(q:Int)
           . exact .inr (by simpa using e)
           . exact .inl ⟨by omega,b⟩
     . refine⟨hq,⟨hs,rfl,hp,fun p=>?_⟩,s3.trans s4,s4 _ _ hD3⟩
       rw[hm]
       constructor
       . rintro ⟨a,b⟩;exact⟨by omega,b⟩
       . rintro ⟨a,b⟩
         refine⟨?_,b⟩
         have:p≠(q:Int):=fun z=>by subst z;exact c (hb.mpr b)
         omega
   . obtain⟨_,⟨hs,rfl,hp,hm⟩,s3,hD3⟩:=z
     have hsl:hs.length<=24:=by
      have:=nd_len (n:=n.toNat) (l:=hs) (hp.imp fun z=>by omega) fun x hx=>by have:=((hm x).mp hx).1;omega
      omega
     refine⟨_,rfl,D,rfl,⟨_,SqL.of hD3⟩,[.ref wa,.ref rl,.int v],rfl,fun D2 hD2=>?_⟩
     refine comp_list (a:=D) (xs:=hs.map V.int) (fun i ys H5=>i<=hs.length/\(∃(as:List Addr)(es:List En),ys=as.map V.ref/\EnsAt H5 as es/\es.map (·.h)=hs.take i/\∀e∈es,EntOf ts n (rkf rks) v e)/\Same H3 H5/\H5 D2=some (.lst ys)) ⟨Nat.zero_le _,⟨[],[],rfl,⟨rfl,fun i a z=>by simp at z⟩,rfl,by simp⟩,same_laid hD2,upd_same⟩ (fun i ys H5 z=>?_) (fun i ys H5 z=>?_) (fun i x ys H5 hx z=>?_) (fun ys H5 z=>?_)
     . exact SqL.of (z.2.2.1 _ _ hD3)
     . obtain⟨_,⟨as,es,rfl,EA,em,_⟩,_⟩:=z
       have:=congrArg List.length em
       rw[List.length_map,List.length_take] at this
       rw[List.length_map,EA.1]
       exact small_line (by omega)
     . obtain⟨_,⟨as,es,rfl,EA,em,he⟩,s5,hD5⟩:=z
       obtain⟨p,hpi,rfl⟩:∃p,hs[i]? = some p/\V.int p=x:=by
        rw[List.getElem?_map] at hx
        cases e:hs[i]? with
        | none=>rw[e] at hx;cases hx
        | some p=>rw[e] at hx;exact⟨p,rfl,Option.some.inj hx⟩
       have hpm:=(hm p).mp (List.mem_of_getElem? hpi)
       have s35:=s3.trans s5
       refine⟨⟨rfl,rfl⟩,?_⟩
       refine tyes ?_
       refine⟨_,rfl,_,rfl,_,rfl,_,rfl,wa,rl,ra,rs,M,rks,n,ts,v,p,rfl,W.keep s35,L.same s35,by omega,by omega,v0,v1,hpm.2,fun a e H6 s6 ha ep he'=>?_⟩
       refine⟨s6 _ _ hD5,(List.getElem?_eq_some_iff.mp hpi).1,⟨as++[a],es++[e],by rw[List.map_append];rfl,(EA.keep fun b zs z=>?_).snoc ?_,?_,fun x hx'=>?_⟩,same_chg (s5.trans s6) hD2,upd_same⟩
       . rw[upd_ne (ne_of z hD5 (by intro y;cases y))];exact s6 _ _ z
       . rw[upd_ne (ne_of ha (s6 _ _ hD5) (by intro y;cases y))];exact ha
       . rw[List.map_append,em,List.take_add_one,hpi,<-ep];rfl
       . rcases List.mem_append.mp hx' with z | z
         . exact he x z
         . have:x=e:=by simpa using z
           subst this;exact he'
     . obtain⟨_,⟨as,es,rfl,EA,em,he⟩,s5,hD5⟩:=z
       rw[List.length_map,List.take_of_length_le (Nat.le_refl _)] at em
       have hel:es.length<=24:=by have:=congrArg List.length em;rw[List.length_map] at this;omega
       refine⟨D2,_,rfl,.inl ⟨SqL.of hD5,fun l hl=>?_⟩⟩
       refine k l es _ ((s3.trans s5).trans (same_laid hl)) ⟨as,upd_same,EA.keep fun b zs z=>same_laid hl _ _ z,by omega⟩ ⟨?_,he,fun h h0 h1 z=>?_,hel⟩
       . have:=hp
         rw[<-em,List.pairwise_map] at this
         exact this
       . have:h∈es.map (·.h):=by rw[em];exact (hm h).mpr ⟨by omega,z⟩
         obtain⟨e,e1,e2⟩:=List.mem_map.mp this
         exact⟨e,e1,e2⟩
theorem scByo:FnScope ["web", "order", "rows", "ranks"] ["web", "order"] (defScope sByo):=⟨rfl,rfl,rfl,by decide +kernel,rfl,by decide +kernel,by decide +kernel⟩
theorem ok_byo {f fO fL fB:Addr}{fd' fdO fdL fdB:FuncData}(F:Fun K "by_order" "by_order" sByo f fd') (FO:Fun K "is_order" "is_order" sOrd fO fdO) (bO:Binds K fdO ["web", "thing"] []) (mO:mg "is_order" = some (.ref fO)) (GO:FnOk P w K mg base CX0 5 fO fdO ["web", "thing"] spOrd)
 (FL:Fun K "lengths" "lengths" sLens fL fdL) (bL:Binds K fdL ["web"] []) (mL:mg "lengths" = some (.ref fL)) (GL:FnOk P w K mg base CX0 5 fL fdL ["web"] (spLens PT))
 (FB:Fun K "label_by_ranks" "label_by_ranks" sLbr fB fdB) (bB:Binds K fdB ["web", "rows", "ranks", "place"] []) (mB:mg "label_by_ranks" = some (.ref fB)) (GB:FnOk P w K mg base CX0 5 fB fdB ["web", "rows", "ranks", "place"] spLbr) (mRange:mg "range" = none) (mTuple:mg "tuple" = none) :
 FnOk P w K mg base CX0 6 f fd' ["web", "order"] (spByo PT):=by
 refine F.ok scByo (fun vs H Q E h=>?_) (fun cdv A outer s H vs Q E hr h=>?_)
 . obtain⟨wa,p,n,ts,os,rfl,_⟩:=h
   rfl
 . obtain⟨wa,p,n,ts,os,rfl,W,hp,O,T,k⟩:=h
   obtain⟨ta,tys,hwa,_,_,G⟩:=id W
   have hn1:=G.n1
   have hn24:=G.n24
   refine⟨_,pss_cons (ps_if (pt_not (pt_val (pe_call GO hr rfl mO FO.kp bO .nil pass0 (pa_cons (pv 0) (pa_cons (pv 1) pa_nil))))) (pss_one ps_no) pss_nil)
    (pss_cons (ps_set (i:=2) scByo.nd rfl (Or.inr rfl) (pe_call GL hr rfl mL FL.kp bL .nil pass0 (pa_cons (pv 0) pa_nil)))
    (pss_cons (ps_set (i:=3) scByo.nd rfl (Or.inr rfl) (pe_comp (own:=["place"]) (cn:=["order"]) (ci:=[1]) rfl (csc rfl rfl) ⟨rfl,rfl,rfl,trivial⟩ rfl
     (pi_range1 rfl mRange (pa_cons (pe_ix ix_tup (pv 0) pe_int (fun _ _=>rfl)) pa_nil)) (fun _ _ _ _=>pg_name (i:=0) (nd_of rfl) rfl (Or.inl rfl)) (fun _ _ _ _=>pts_nil)
     (fun _ _ _ _=>pe_bmT PySem.F.slot_tuple_index PySem.F.type_tuple_index mt_indexC (pv 1) (pa_cons (pv 0) pa_nil))))
    (pss_one (ps_ret (pe_callTy call_tuple_of (by rfl) mTuple (by decide +kernel) (pa_cons (pe_comp (own:=["place"]) (cn:=["web", "rows", "ranks"]) (ci:=[0,2,3]) rfl (csc rfl rfl) ⟨rfl,rfl,rfl,rfl,rfl,rfl,rfl,rfl,rfl,trivial⟩ rfl
     (pi_range1 rfl mRange (pa_cons (pe_ix ix_tup (pv 0) pe_int (fun _ _=>rfl)) pa_nil)) (fun _ _ _ _=>pg_name (i:=0) (nd_of rfl) rfl (Or.inl rfl)) (fun _ _ _ _=>pts_nil)
     (fun _ _ _ _=>pe_call GB hr rfl mB FB.kp bB .nil pass0 (pa_cons (pv 1) (pa_cons (pv 2) (pa_cons (pv 3) (pa_cons (pv 0) pa_nil)))))) pa_nil)))))),?_⟩
   refine⟨_,rfl,_,rfl,wa,p,n,ts,os,rfl,W,hp,O,fun H0 s0=>?_⟩
   refine⟨_,rfl,iteF ?_⟩
   refine⟨_,rfl,wa,n,ts,rfl,W.keep s0,T.same s0,fun rl rs M H1 sm1 T1 hrl RA RR=>?_⟩
   have sm01:SmT H H1:=(SmT.of s0).trans sm1
   have hwa1:H1 wa=some (.tup [.int n,.ref ta]):=sm01.get hwa (by intro ps z;cases z)
   have hp1:H1 p=some (.tup (os.map V.int)):=sm01.get hp (by intro ps z;cases z)
   have W1:WebAt H1 wa n ts:=W.smT sm01
   refine⟨_,rfl,wa,_,_,_,rfl,rfl,SqT.of hwa1,rfl,n,rfl,by omega,by omega,[.ref p],rfl,fun D hD=>?_⟩
   refine comp_range (lo:=0) (n:=n.toNat) (fun q ys H3=>q<=n.toNat/\(∃rk:List Int,ys=rk.map V.int/\rk.length=q/\∀(j:Nat)(x:Int),rk[j]? = some x->0<=x/\os[x.toNat]? = some (j:Int))/\H3=upd H1 D (.lst ys)) ⟨Nat.zero_le _,⟨[],rfl,rfl,fun j x z=>by simp at z⟩,rfl⟩ (fun q ys H3 z=>?_) (fun q ys H3 hq z=>?_) (fun ys H3 z=>?_)
   . obtain⟨_,⟨rk,rfl,hl,_⟩,_⟩:=z
     rw[List.length_map]
     exact small_line (by omega)
   . obtain⟨_,⟨rk,rfl,hl,hrk⟩,rfl⟩:=z
     rw[Int.zero_add]
     obtain⟨i,hi,ei⟩:=List.getElem_of_mem (O.mem (p:=(q:Int)) (by omega) (by omega))
     have hoi:os[i]? = some (q:Int):=by rw[List.getElem?_eq_getElem hi,ei]
     have hp3:=same_laid (o:=.lst (rk.map V.int)) hD _ _ hp1
     refine⟨⟨rfl,rfl⟩,?_⟩
     refine tyes ?_
     refine⟨_,rfl,⟨p,_,rfl,hp3⟩,_,rfl,p,os,i,q,rfl,rfl,SqT.of hp3,hoi,fun j hj e=>?_,upd_same,hq,⟨rk++[(i:Int)],by rw[List.map_append];rfl,by rw[List.length_append,hl];rfl,fun j x hx=>?_⟩,upd_upd⟩
     . obtain⟨hj',ej⟩:=List.getElem?_eq_some_iff.mp e
       exact List.pairwise_iff_getElem.mp (List.nodup_iff_pairwise_ne.mp O.nd) j i hj' hi hj (by rw[ej,ei])
     . by_cases c:j<rk.length
       . rw[List.getElem?_append_left c] at hx
         exact hrk j x hx
       . have hj:j=q:=by
          have:=(List.getElem?_eq_some_iff.mp hx).1
          rw[List.length_append] at this
          simp at this;omega
         subst hj
         rw[List.getElem?_append_right (by omega),hl,Nat.sub_self] at hx
         have:(i:Int)=x:=by simpa using hx
         subst this
         exact⟨by omega,hoi⟩
   . obtain⟨_,⟨rk,rfl,hl,hrk⟩,rfl⟩:=z
     have sD:Same H1 (upd H1 D (.lst (rk.map V.int))):=same_laid hD
     have hDr:(upd H1 D (.lst (rk.map V.int))) D=some (.lst (rk.map V.int)):=upd_same
     generalize upd H1 D (.lst (rk.map V.int))=H4 at sD hDr ⊢
     have L:Look H4 rl D rs M rk n ts:=⟨sD _ _ hrl,RA.same sD,RR,hDr,hl,G⟩
     have W4:=W1.keep sD
     refine⟨_,rfl,wa,_,_,_,rfl,rfl,SqT.of (sD _ _ hwa1),rfl,n,rfl,by omega,by omega,[.ref wa,.ref rl,.ref D],rfl,fun D2 hD2=>?_⟩
     refine comp_range (lo:=0) (n:=n.toNat) (fun q ys H5=>q<=n.toNat/\(∃(as:List Addr)(ess:List (List En)),ys=as.map V.ref/\as.length=q/\ess.length=q/\(∀(i:Nat)(a:Addr),as[i]? = some a->∃es,ess[i]? = some es/\LabAt H5 a es)/\∀(i:Nat)(es:List En),ess[i]? = some es->LabOf ts n (rkf rk) i es)/\Same H4 H5/\H5 D2=some (.lst ys)) ⟨Nat.zero_le _,⟨[],[],rfl,rfl,rfl,fun i a z=>by simp at z,fun i a z=>by simp at z⟩,same_laid hD2,upd_same⟩ (fun q ys H5 z=>?_) (fun q ys H5 hq z=>?_) (fun ys H5 z=>?_)
     . obtain⟨_,⟨as,ess,rfl,h1,_⟩,_⟩:=z
       rw[List.length_map]
       exact small_line (by omega)
     . obtain⟨_,⟨as,ess,rfl,h1,h2,h3,h4⟩,s5,hD5⟩:=z
       rw[Int.zero_add]
       refine⟨⟨rfl,rfl⟩,?_⟩
       refine tyes ?_
       refine⟨_,rfl,_,rfl,_,rfl,_,rfl,wa,rl,D,rs,M,rk,n,ts,q,rfl,W4.keep s5,L.same s5,by omega,by omega,fun a es H6 s6 la lo=>?_⟩
       refine⟨s6 _ _ hD5,hq,⟨as++[a],ess++[es],by rw[List.map_append];rfl,by rw[List.length_append,h1];rfl,by rw[List.length_append,h2];rfl,fun i b hb=>?_,fun i es' he=>?_⟩,same_chg (s5.trans s6) hD2,upd_same⟩
       . have keep:∀c zs,H6 c=some (.tup zs)->(upd H6 D2 (.lst (as.map V.ref++[.ref a]))) c=some (.tup zs):=fun c zs z=>by rw[upd_ne (ne_of z (s6 _ _ hD5) (by intro y;cases y))];exact z
         by_cases c:i<as.length
         . rw[List.getElem?_append_left c] at hb
           obtain⟨es',e1,e2⟩:=h3 i b hb
           exact⟨es',by rw[List.getElem?_append_left (by omega)];exact e1,(e2.same s6).keep keep⟩
         . have hi:i=q:=by
            have:=(List.getElem?_eq_some_iff.mp hb).1
            rw[List.length_append] at this
            simp at this;omega
           subst hi
           rw[List.getElem?_append_right (by omega),h1,Nat.sub_self] at hb
           have:a=b:=by simpa using hb
           subst this
           exact⟨es,by rw[List.getElem?_append_right (by omega),h2,Nat.sub_self];rfl,la.keep keep⟩
       . by_cases c:i<ess.length
         . rw[List.getElem?_append_left c] at he
           exact h4 i es' he
         . have hi:i=q:=by
            have:=(List.getElem?_eq_some_iff.mp he).1
            rw[List.length_append] at this
            simp at this;omega
           subst hi
           rw[List.getElem?_append_right (by omega),h2,Nat.sub_self] at he
           have:es=es':=by simpa using he
           subst this
           exact lo
     . obtain⟨_,⟨as,ess,rfl,h1,h2,h3,h4⟩,s5,hD5⟩:=z
       refine⟨D2,_,rfl,.inl ⟨SqL.of hD5,fun l hl'=>?_⟩⟩
       have s6:Same H1 (upd H5 l (.tup (as.map V.ref))):=(sD.trans s5).trans (same_laid hl')
       refine k l ess (rkf rk) _ (sm01.trans (SmT.of s6)) (T1.same s6) ⟨as,upd_same,by omega,fun i a ha=>?_⟩ (fun p h0 h1'=>?_) ⟨h2,h4⟩ ?bound
       case bound=>
        intro es hes e he
        obtain⟨i,hi,ei⟩:=List.getElem_of_mem hes
        have EO:=(h4 i es (by rw[List.getElem?_eq_getElem hi,ei])).ent e he
        exact rows_bd RR (by omega) (by omega) EO.rng.1 EO.rng.2 EO.len
       . obtain⟨es,e1,e2⟩:=h3 i a ha
         exact⟨es,e1,e2.same (same_laid hl')⟩
       . have hlt:p.toNat<rk.length:=by omega
         have e:rk[p.toNat]? = some (rkf rk p):=by
          unfold rkf
          rw[List.getD_eq_getElem?_getD,List.getElem?_eq_getElem hlt];rfl
         obtain⟨a,b⟩:=hrk _ _ e
         exact⟨a,by rw[b,Int.toNat_of_nonneg h0]⟩
end
end K68
namespace K68
open PySem L2 WM
theorem MinO.uniq {P:Int->Prop}:∀{a b:Option Int},MinO P a->MinO P b->a=b
 | none,none,_,_=>rfl
 | none,some m,h,h'=>absurd h'.1 (h m)
 | some m,none,h,h'=>absurd h.1 (h' m)
 | some m,some k,h,h'=>congrArg some (Int.le_antisymm (h.2 k h'.1) (h'.2 m h.1))
theorem EntOf.uniq {ts:List T3}{n v:Int}{rk:Int->Int}{e e':En}(x:EntOf ts n rk v e)(y:EntOf ts n rk v e')(h:e.h=e'.h):e=e':=by
 obtain⟨h1,l1,u1,d1⟩:=e
 obtain⟨h2,l2,u2,d2⟩:=e'
 have hh:h1=h2:=h
 subst hh
 have e1:l1=l2:=WM.IsD.uniq x.len y.len
 have e2:u1=u2:=MinO.uniq x.up y.up
 have e3:d1=d2:=MinO.uniq x.dn y.dn
 rw[e1,e2,e3]
theorem rise_eq:∀{a b:List En},Hub a->Hub b->(∀e,e∈a↔e∈b)->a=b
 | [],[],_,_,_=>rfl
 | [],y::b,_,_,h=>absurd ((h y).mpr List.mem_cons_self) (by simp)
 | x::a,[],_,_,h=>absurd ((h x).mp List.mem_cons_self) (by simp)
 | x::a,y::b,ha,hb,h=>by
  obtain⟨hx,ha'⟩:=List.pairwise_cons.mp ha
  obtain⟨hy,hb'⟩:=List.pairwise_cons.mp hb
  have exy:x=y:=by
   rcases List.mem_cons.mp ((h x).mp List.mem_cons_self) with e | m
   . exact e
   . rcases List.mem_cons.mp ((h y).mpr List.mem_cons_self) with e | m'
     . exact e.symm
     . have:=hy x m
       have:=hx y m'
       omega
  subst exy
  rw[rise_eq ha' hb' fun e=>⟨fun m=>?_,fun m=>?_⟩]
  . rcases List.mem_cons.mp ((h e).mp (List.mem_cons_of_mem _ m)) with z | z
    . subst z
      exact absurd (hx e m) (by omega)
    . exact z
  . rcases List.mem_cons.mp ((h e).mpr (List.mem_cons_of_mem _ m)) with z | z
    . subst z
      exact absurd (hy e m) (by omega)
    . exact z
theorem LabOf.uniq {ts:List T3}{n v:Int}{rk:Int->Int}{es es':List En}(x:LabOf ts n rk v es)(y:LabOf ts n rk v es'):es=es':=by
 refine rise_eq x.hub y.hub fun e=>⟨fun m=>?_,fun m=>?_⟩
 . have E:=x.ent e m
   obtain⟨e',m',h'⟩:=y.all e.h E.rng.1 E.rng.2 E.hub
   rw[E.uniq (y.ent e' m') h'.symm]
   exact m'
 . have E:=y.ent e m
   obtain⟨e',m',h'⟩:=x.all e.h E.rng.1 E.rng.2 E.hub
   rw[E.uniq (x.ent e' m') h'.symm]
   exact m'
theorem RkOf.eq {n:Int}{os:List Int}{rk rk':Int->Int}(nd:os.Nodup)(a:RkOf n os rk)(b:RkOf n os rk'){p:Int}(h0:0<=p)(h1:p<n):rk p=rk' p:=by
 obtain⟨a0,a1⟩:=a p h0 h1
 obtain⟨b0,b1⟩:=b p h0 h1
 obtain⟨i1,e1⟩:=List.getElem?_eq_some_iff.mp a1
 obtain⟨i2,e2⟩:=List.getElem?_eq_some_iff.mp b1
 have:=(List.getElem_inj nd).mp (e1.trans e2.symm)
 omega
theorem LabsOf.uniq {ts:List T3}{n:Int}{os:List Int}{rk rk':Int->Int}{ess ess':List (List En)}(G:GW n ts)(nd:os.Nodup)(a:RkOf n os rk)(b:RkOf n os rk')(x:LabsOf ts n rk ess)(y:LabsOf ts n rk' ess'):ess=ess':=by
 apply List.ext_getElem (x.1.trans y.1.symm)
 intro i h1 h2
 exact (x.2 i _ (List.getElem?_eq_getElem h1)).uniq ((y.2 i _ (List.getElem?_eq_getElem h2)).congr G fun p p0 p1=>b.eq nd a p0 p1)
structure LabsG (ts:List T3)(n:Int)(ess:List (List En)):Prop where
 ln:ess.length=n.toNat
 lg:∀(i:Nat)(es:List En),ess[i]? = some es->LG ts n i es
 cov:∀(i j:Nat)(es fs:List En),ess[i]? = some es->ess[j]? = some fs->CovP ts i j es fs
theorem MinO.some_of {P:Int->Prop}{o:Option Int}(h:MinO P o){p:Int}(hp:P p):∃m,o=some m/\P m:=by
 cases o with
 | none=>exact absurd hp (h p)
 | some m=>exact⟨m,rfl,h.1⟩
theorem LabOf.lg {n:Int}{ts:List T3}(G:GW n ts){rk:Int->Int}{v:Int}{es:List En}(L:LabOf ts n rk v es)(v0:0<=v)(v1:v<n):LG ts n v es:=by
 refine⟨L.hub,fun e he=>?_,?_⟩
 . have E:=L.ent e he
   refine⟨E.rng,E.len,fun hne=>?_,fun hne=>?_⟩
   . obtain⟨p,hp⟩:=Nxt.exists G E.len (Ne.symm hne)
     exact E.up.some_of hp
   . obtain⟨p,hp⟩:=Nxt.exists G E.len.symm hne
     exact E.dn.some_of hp
 . refine L.all v v0 v1 ⟨⟨0,isD_self G v⟩,fun p hp=>?_⟩
   obtain⟨a,b,ia,ib,iab⟩:=hp
   have e0:a+b=0:=iab.uniq (isD_self G v)
   have:=ia.1.nn G
   have:=ib.1.nn G
   have:a=0:=by omega
   rw[<-(isD_zero G ia).mp this]
   exact Int.le_refl _
theorem LabsOf.good {n:Int}{ts:List T3}(G:GW n ts){os:List Int}{rk:Int->Int}{ess:List (List En)}(R:RkOf n os rk)(L:LabsOf ts n rk ess):LabsG ts n ess:=by
 have hln:=L.1
 have inr:∀(i:Nat)(es:List En),ess[i]? = some es->(0:Int)<=i/\(i:Int)<n:=fun i es h=>by
  have:=(List.getElem?_eq_some_iff.mp h).1
  omega
 refine⟨L.1,fun i es h=>(L.2 i es h).lg G (inr i es h).1 (inr i es h).2,fun i j es fs hi hj d hd=>?_⟩
 obtain⟨p,hp,hmin⟩:=min_rk (P:=Btw ts i j) rk (rk (i:Int)).toNat i (Btw.self G hd) (Nat.le_refl _)
 have i01:=inr i es hi
 obtain⟨a,b,ia,ib,iab⟩:=id hp
 have prng:=ia.1.in_ G i01.1 i01.2
 have le:∀q,Btw ts i j q->rk p<=rk q:=fun q hq=>by
  obtain⟨a',b',ia',_⟩:=id hq
  have qr:=ia'.1.in_ G i01.1 i01.2
  have h1:=hmin q hq
  have h2:=(R p prng.1 prng.2).1
  have h3:=(R q qr.1 qr.2).1
  omega
 refine⟨p,hp,(L.2 i es hi).all p prng.1 prng.2 ⟨⟨a,ia.symm⟩,fun q hq=>le q (hp.trans hq.symm)⟩,(L.2 j fs hj).all p prng.1 prng.2 ⟨⟨b,ib⟩,fun q hq=>le q (hp.symm.trans hq.symm).symm⟩⟩
theorem erase_map:∀(l:List Int)(k:Nat),(l.map V.int).eraseIdx k=(l.eraseIdx k).map V.int
 | [],_=>rfl
 | _::_,0=>rfl
 | x::r,k+1=>by
  show V.int x::(r.map V.int).eraseIdx k=V.int x::(r.eraseIdx k).map V.int
  rw[erase_map r k]
theorem erase_perm:∀{l:List Int}{k:Nat}(h:k<l.length),(l[k]::l.eraseIdx k).Perm l
 | [],_,h=>absurd h (Nat.not_lt_zero _)
 | _::_,0,_=>List.Perm.refl _
 | x::r,k+1,h=>by
  have hk:k<r.length:=by simpa using h
  show (r[k]::x::r.eraseIdx k).Perm (x::r)
  exact (List.Perm.swap x r[k] _).trans ((erase_perm hk).cons x)
def spOrdF:Sp:=fun vs H Q _=>∃(t:Addr)(N:Nat)(n:Int),vs=[.ref t,.int n]/\FeedAt H t N/\N<900000/\0<=n/\n<=24 /\
 ∀(pa:Addr)(os:List Int)(H':Hp),H pa=none->H' pa=some (.tup (os.map V.int))->os.Perm (lowTo n.toNat)->FeedAt H' t (N+24)->Sm t H H'->Q (.ref pa) H'
structure OW (H:Hp)(t p lf D:Addr)(n:Nat)(N:Nat)(row left:List Int)(H2:Hp):Prop where
 pm:(row++left).Perm (lowTo n)
 lf:H2 lf=some (.lst (left.map V.int))
 ls:H2 D=some (.lst (row.map V.int))
 tp:FeedP H2 t p (N+row.length)
 sm:Sm t H H2
theorem OW.on {H H2 H3:Hp}{t p lf D:Addr}{n N:Nat}{row left:List Int}(h:OW H t p lf D n N row left H2)(s:Same H2 H3):OW H t p lf D n N row left H3:=⟨h.pm,s _ _ h.lf,s _ _ h.ls,h.tp.same s,h.sm.trans (Sm.of s)⟩
section
variable {P:Program}{w:World}{K:PySem.W.Frag}{mg:Str->Option Value}{base:Heap}
theorem scOrdF:FnScope ["_law_feed_here", "_law_many", "_law_left", "_law_found"] ["_law_feed_here", "_law_many"] (defScope sOrdF):=⟨rfl,rfl,rfl,by decide +kernel,rfl,by decide +kernel,by decide +kernel⟩
theorem ok_ordF {f fD:Addr}{fd fdD:FuncData}(F:Fun K "_law_order" "_law_order" sOrdF f fd) (FD:Fun K "_law_take" "_law_take" sTake fD fdD) (bD:Binds K fdD ["_law_feed_here", "_law_many"] []) (mD:mg "_law_take" = some (.ref fD)) (mLen:mg "len" = none)
 (mRange:mg "range" = none) (mList:mg "list" = none) (mTuple:mg "tuple" = none):FnOk P w K mg base CX0 2 f fd ["_law_feed_here", "_law_many"] spOrdF:=by
 have GD:FnOk P w K mg base CX0 1 fD fdD ["_law_feed_here", "_law_many"] spTakeP:=ok_takeP FD mLen
 refine F.ok scOrdF (fun vs H Q E h=>?_) (fun cdv A outer s H vs Q E hr h=>?_)
 . obtain⟨t,N,n,rfl,_⟩:=h
   rfl
 . obtain⟨t,N,many,rfl,TT,hN,hm0,hm24,k⟩:=h
   obtain⟨p,T1⟩:=TT
   have hu0:=hr.units0
   refine⟨_,pss_cons (ps_set (i:=2) scOrdF.nd rfl (Or.inl rfl) (pe_lrange rfl rfl mList rfl mRange (pa_cons (pv 1) pa_nil)))
    (pss_cons (ps_set (i:=3) scOrdF.nd rfl (Or.inl rfl) (pe_lst pa_nil))
    (pss_cons (ps_while PassesOwn.never (pt_cmpR (op_neE hu0) (pv 2) (pe_lst pa_nil) (nomark _))
     (pss_one (ps_expr (pe_bm PySem.F.plainAttrs_list PySem.F.slot_list_append PySem.F.type_list_append mt_append (pv 3)
      (pa_cons (pe_bm PySem.F.plainAttrs_list PySem.F.slot_list_pop PySem.F.type_list_pop mt_popAt (pv 2)
       (pa_cons (pe_call GD hr rfl mD FD.kp bD .nil pass0 (pa_cons (pv 0) (pa_cons (pe_callB call_len_seq (by rfl) mLen PySem.boot_len (pa_cons (pv 2) pa_nil)) pa_nil))) pa_nil)) pa_nil)))))
    (pss_one (ps_ret (pe_callTy call_tuple_of (by rfl) mTuple (by decide +kernel) (pa_cons (pv 3) pa_nil)))))),?_⟩
   refine⟨_,rfl,many,rfl,by omega,by omega,fun lf hlf=>?_⟩
   have nlt:lf≠t:=(T1.ne hlf).1
   have nlp:lf≠p:=(T1.ne hlf).2
   refine⟨Nat.zero_le _,fun D hD=>?_⟩
   have hD1:H D=none:=none_back (same_laid hlf) hD
   have nDt:D≠t:=(T1.ne hD1).1
   have nDp:D≠p:=(T1.ne hD1).2
   have nDl:D≠lf:=fun z=>by rw[z,upd_same] at hD;cases hD
   have W0:OW H t p lf D many.toNat N [] (lowTo many.toNat) (upd (upd H lf (.lst ((lowTo many.toNat).map V.int))) D (.lst [])):=
    ⟨List.Perm.refl _,same_laid hD _ _ upd_same,upd_same,(T1.laid hlf).laid hD,(Sm.laid hlf).trans (Sm.laid hD)⟩
   generalize upd (upd H lf (.lst ((lowTo many.toNat).map V.int))) D (.lst [])=H2 at W0 ⊢
   refine⟨fun m σ H3=>∃(row left:List Int),σ=[some (.ref t),some (.int many),some (.ref lf),some (.ref D)]/\m=left.length/\OW H t p lf D many.toNat N row left H3,⟨_,[],lowTo many.toNat,rfl,rfl,W0⟩,?_⟩
   rintro m σ H3 ⟨row,left,rfl,rfl,W⟩
   have hll:row.length+left.length=many.toNat:=by
    have:=W.pm.length_eq
    rw[List.length_append,ints_len] at this
    exact this
   refine⟨_,rfl,by show 0<=sizeLine;decide,fun e0 he0=>?_⟩
   have W1:=W.on (same_laid (o:=.lst []) he0)
   have h00:(upd H3 e0 (.lst [])) e0=some (.lst []):=upd_same
   generalize upd H3 e0 (.lst [])=H4 at W1 h00 ⊢
   refine⟨lf,e0,_,rfl,rfl,SqL.of W1.lf,SqL.of h00,_,rfl,?_⟩
   refine ite2 (fun hc=>?_) (fun hc=>?_)
   . have hl0:0<left.length:=by
      cases left with
      | nil=>cases hc
      | cons _ _=>exact Nat.succ_pos _
     refine⟨fun σ' H'=>∃(row' left':List Int),σ'=[some (.ref t),some (.int many),some (.ref lf),some (.ref D)]/\left'.length<left.length/\OW H t p lf D many.toNat N row' left' H',fun σ' H' ⟨row',left',e,hlt,W'⟩=>⟨_,hlt,row',left',e,rfl,W'⟩,?_⟩
     refine⟨_,rfl,.inl ⟨rfl,_,SqL.of W1.ls⟩,_,rfl,.inl ⟨rfl,_,SqL.of W1.lf⟩,?_⟩
     refine⟨_,rfl,_,rfl,lf,_,rfl,.inl (SqL.of W1.lf),t,p,_,_,rfl,W1.tp,by omega,by rw[List.length_map];omega,by rw[List.length_map];omega,fun rr H5 h0 h1 T5 e5=>?_⟩
     rw[List.length_map] at h1
     have hlt:rr.toNat<left.length:=by omega
     refine⟨lf,left.map V.int,rr,rr.toNat,.int left[rr.toNat],rfl,rfl,by rw[e5 lf nlt];exact W1.lf,by omega,by omega,PySem.StrLaws.seqIndex_nonneg h0 (by rw[List.length_map];omega),by rw[List.getElem?_map,List.getElem?_eq_getElem hlt];rfl,?_⟩
     rw[erase_map left rr.toNat]
     refine⟨D,_,_,rfl,rfl,by rw[upd_ne nDl,e5 D nDt];exact W1.ls,by rw[List.length_map];exact small_line (by omega),?_⟩
     refine⟨row++[left[rr.toNat]],left.eraseIdx rr.toNat,rfl,by rw[List.length_eraseIdx,if_pos hlt];omega,?_⟩
     refine⟨?_,by rw[upd_ne nDl.symm,upd_same],by rw[List.map_append];exact upd_same,?_,((W1.sm.trans (sm_eq e5)).chg hlf).chg hD1⟩
     . refine List.Perm.trans ?_ W1.pm
       rw[List.append_assoc]
       exact (erase_perm hlt).append_left row
     . rw[List.length_append]
       exact ((T5.upd nlt nlp).upd nDt nDp).mono (by simp;omega)
   have hleft:left=[]:=by
    cases left with
    | nil=>rfl
    | cons a r=>exact absurd (show (!(List.map V.int (a::r)).isEmpty)=true from rfl) hc
   subst hleft
   have hrl:row.length=many.toNat:=by simpa using hll
   have hpm:row.Perm (lowTo many.toNat):=by have:=W1.pm;rwa [List.append_nil] at this
   refine⟨_,rfl,D,_,rfl,.inl ⟨SqL.of W1.ls,fun pa hpa=>?_⟩⟩
   have npt:pa≠t:=(W1.tp.ne hpa).1
   have hpa0:H pa=none:=by
    cases q:H pa with
    | none=>rfl
    | some o=>rw[W1.sm _ _ npt q] at hpa;cases hpa
   exact k pa row _ hpa0 upd_same hpm ⟨p,(W1.tp.laid hpa).mono (by omega)⟩ (W1.sm.trans (Sm.laid hpa))
end
end K68
namespace K68
open PySem L2 WM
def spSame:Sp:=fun vs H Q _=>∃a b:Option Int,vs=[oV a,oV b]/\∀H',Same H H'->Q (.bl (decide (a=b))) H'
theorem tyO {K:PySem.W.Frag}{H:Hp}(a:Option Int):∃t,TyOf K H (oV a) t/\PySem.W.kitOne K t (.type "tuple")=some false/\PySem.W.kitOne K t (.type "list")=some false/\PySem.W.kitOne K t (.type "bool")=some false/\PySem.W.kitAny K t [.type "tuple",.type "list"]=some false:=by
 cases a with
 | none=>exact⟨_,.non,rfl,rfl,rfl,rfl⟩
 | some i=>exact⟨_,.int i,rfl,rfl,rfl,rfl⟩
theorem dec_oV {a b:Option Int}:decide (oV a=oV b)=decide (a=b):=by
 by_cases h:a=b
 . rw[decide_eq_true h,decide_eq_true (congrArg oV h)]
 . rw[decide_eq_false h,decide_eq_false fun z=>h ?_]
   cases a with
   | none=>cases b with
    | none=>rfl
    | some b=>cases z
   | some a=>cases b with
    | none=>cases z
    | some b=>rw[V.int.inj z]
theorem scal_oV (a b:Option Int):scal (oV a) (oV b)=true:=by
 cases a <;> cases b <;> rfl
section
variable {P:Program}{w:World}{K:PySem.W.Frag}{mg:Str->Option Value}{base:Heap}
theorem scSame:FnScope ["_law_found", "_law_due"] ["_law_found", "_law_due"] (defScope sSame):=⟨rfl,rfl,rfl,by decide +kernel,rfl,by decide +kernel,by decide +kernel⟩
theorem ok_same {f:Addr}{fd':FuncData}(F:Fun K "_law_same" "_law_same" sSame f fd') (mIsi:mg "isinstance" = none) (mTuple:mg "tuple" = none) (mList:mg "list" = none) (mBool:mg "bool" = none):FnOk P w K mg base CX0 1 f fd' ["_law_found", "_law_due"] spSame:=by
 refine F.ok scSame (fun vs H Q E h=>?_) (fun cdv A outer s H vs Q E hr h=>?_)
 . obtain⟨a,b,rfl,_⟩:=h
   rfl
 . obtain⟨a,b,rfl,k⟩:=h
   refine⟨_,pss_cons (ps_if (PW.pt (pw_or (pt_cmpR op_ne (pe_callB call_isinst (by rfl) mIsi (by decide +kernel) (pa_cons (pv 1) (pa_cons (pe_tyN (T := "tuple") (by rfl) mTuple (by decide +kernel)) pa_nil))) (pe_callB call_isinst (by rfl) mIsi (by decide +kernel) (pa_cons (pv 0) (pa_cons (pe_tyN (T := "tuple") (by rfl) mTuple (by decide +kernel)) pa_nil))) (nomark _))
    (pw_or1 (pt_cmpR op_ne (pe_callB call_isinst (by rfl) mIsi (by decide +kernel) (pa_cons (pv 1) (pa_cons (pe_tyN (T := "list") (by rfl) mList (by decide +kernel)) pa_nil))) (pe_callB call_isinst (by rfl) mIsi (by decide +kernel) (pa_cons (pv 0) (pa_cons (pe_tyN (T := "list") (by rfl) mList (by decide +kernel)) pa_nil))) (nomark _))))) (pss_one (ps_ret pe_bl)) pss_nil)
    (pss_cons (ps_if (pt_not (pt_val (pe_callB call_isinstTs (by rfl) mIsi (by decide +kernel) (pa_cons (pv 1) (pa_cons (pe_tup (pa_cons (pe_tyN (T := "tuple") (by rfl) mTuple (by decide +kernel)) (pa_cons (pe_tyN (T := "list") (by rfl) mList (by decide +kernel)) pa_nil))) pa_nil)))))
     (pss_one (ps_ret (pe_and (pe_cmpR op_eq (pe_callB call_isinst (by rfl) mIsi (by decide +kernel) (pa_cons (pv 0) (pa_cons (pe_tyN (T := "bool") (by rfl) mBool (by decide +kernel)) pa_nil))) (pe_callB call_isinst (by rfl) mIsi (by decide +kernel) (pa_cons (pv 1) (pa_cons (pe_tyN (T := "bool") (by rfl) mBool (by decide +kernel)) pa_nil))) (nomark _))
      (pe_one (pe_cmpR op_eq (pv 0) (pv 1) (nomark _)))))) pss_nil)
    (pss_cons ps_no (pss_one ps_no))),?_⟩
   obtain⟨ta,ya,a1,a2,a3,_⟩:=tyO (K:=K) (H:=H) a
   obtain⟨tb,yb,b1,b2,b3,_⟩:=tyO (K:=K) (H:=H) b
   refine⟨_,rfl,_,_,tb,false,rfl,yb,b1,_,rfl,_,_,ta,false,rfl,ya,a1,rfl,_,rfl,ifF rfl ?_⟩
   refine⟨_,rfl,_,_,tb,false,rfl,yb,b2,_,rfl,_,_,ta,false,rfl,ya,a2,rfl,_,rfl,ifF rfl ?_⟩
   refine⟨_,rfl,by show 2<=sizeLine;decide,fun p hp=>?_⟩
   obtain⟨ta',ya',_,_,a3',_⟩:=tyO (K:=K) (H:=upd H p (.tup [.ty "tuple",.ty "list"])) a
   obtain⟨tb',yb',_,_,b3',b4'⟩:=tyO (K:=K) (H:=upd H p (.tup [.ty "tuple",.ty "list"])) b
   refine⟨_,p,["tuple", "list"],tb',false,rfl,upd_same,yb',b4',_,rfl,iteT ?_⟩
   refine⟨_,rfl,_,_,ta',false,rfl,ya',a3',_,rfl,_,_,tb',false,rfl,yb',b3',rfl,_,rfl,ifT rfl ?_⟩
   refine⟨_,rfl,_,rfl,scal_oV a b,?_⟩
   rw[dec_oV]
   exact k _ (same_laid hp)
end
def SM (H:Hp):Nat->V->V->Prop
 | 0,a,b=>∃o:Option Int,a=oV o/\b=oV o
 | h+1,a,b=>(∃o:Option Int,a=oV o/\b=oV o)\/∃(p q:Addr)(xs ys:List V),a = .ref p/\b = .ref q/\H p=some (.tup xs)/\H q=some (.tup ys)/\xs.length=ys.length/\xs.length<=1000/\∀(i:Nat)(x y:V),xs[i]? = some x->ys[i]? = some y->SM H h x y
theorem SM.keep {H H':Hp}(s:Same H H'):∀{h:Nat}{a b:V},SM H h a b->SM H' h a b
 | 0,_,_,h=>h
 | _+1,_,_,.inl h=>.inl h
 | _+1,_,_,.inr ⟨p,q,xs,ys,e1,e2,e3,e4,e5,e6,e7⟩=>.inr ⟨p,q,xs,ys,e1,e2,s _ _ e3,s _ _ e4,e5,e6,fun i x y hx hy=>(e7 i x y hx hy).keep s⟩
def spSm (h:Nat):Sp:=fun vs H Q _=>∃a b:V,vs=[a,b]/\SM H h a b/\∀H',Same H H'->Q (.bl true) H'
def spTm (h:Nat):Sp:=fun vs H Q _=>∃a b:V,vs=[a,b]/\(∃(p q:Addr)(xs ys:List V),a = .ref p/\b = .ref q/\H p=some (.tup xs)/\H q=some (.tup ys)/\xs.length=ys.length/\xs.length<=1000/\∀(i:Nat)(x y:V),xs[i]? = some x->ys[i]? = some y->SM H h x y)/\∀H',Same H H'->Q (.bl true) H'
theorem comp_zipT {K:PySem.W.Frag}{a b:Addr}{xs ys:List V}{own:Nat}{g:TG}{ti:TT}{te:TE}{cv:List V}{D:Addr}{H1:Hp}{Q:VK}(hxy:xs.length=ys.length)(Pv:Nat->List V->Hp->Prop)(h0:Pv 0 [] (upd H1 D (.lst [])))(hl:∀i zs H,Pv i zs H->SqT K H a xs/\SqT K H b ys)(hz:∀i zs H,Pv i zs H->zs.length<sizeLine)
 (hs:∀i x y zs H T,xs[i]? = some x->ys[i]? = some y->Pv i zs H->H T=none->g (.ref T) (List.replicate own none++cv.map some) (upd H T (.tup [x,y])) fun σ2 H2=>(σ2.length=own+cv.length/\σ2.drop own=cv.map some) /\
  ti σ2 H2 fun b H3=>if b=true then te σ2 H3 fun y H4=>H4 D=some (.lst zs)/\Pv (i+1) (zs++[y]) (upd H4 D (.lst (zs++[y]))) else Pv (i+1) zs H3)
 (hd:∀zs H,Pv xs.length zs H->Q (.ref D) H):CompRd (ItzT K a b) own cv g ti te D H1 Q:=by
 refine⟨fun i m zs H=>m=xs.length-i/\i<=xs.length/\Pv i zs H,⟨xs.length,rfl,Nat.zero_le _,h0⟩,?_⟩
 rintro i m zs H ⟨rfl,hi,p⟩
 obtain⟨q1,q2⟩:=hl i zs H p
 by_cases c:i<xs.length
 . refine .inr ⟨⟨xs,ys,xs[i],ys[i],q1,q2,List.getElem?_eq_getElem c,List.getElem?_eq_getElem (by omega)⟩,hz i zs H p,Pv (i+1),fun zs' H' p'=>⟨xs.length-(i+1),by omega,rfl,c,p'⟩,fun x H' y=>?_⟩
   obtain⟨T,u,v,rfl,hT,rfl,hu,hv⟩:=y
   exact hs i u v zs H T (hu xs q1) (hv ys q2) p hT
 . have e:i=xs.length:=by omega
   subst e
   exact .inl ⟨⟨xs,q1,Nat.le_refl _⟩,hd zs H p⟩
theorem all_yes:∀n,(List.replicate n (V.bl true)).all flatV=true/\inV (.bl false) (List.replicate n (V.bl true))=false
 | 0=>⟨rfl,rfl⟩
 | n+1=>by
  obtain⟨a,b⟩:=all_yes n
  rw[List.replicate_succ]
  exact⟨by rw[List.all_cons,a];rfl,by unfold inV at b ⊢;rw[List.any_cons,b];rfl⟩
section
variable {P:Program}{w:World}{K:PySem.W.Frag}{mg:Str->Option Value}{base:Heap}
theorem FnOk.either {k:Nat}{f:Addr}{fd:FuncData}{ps:List Str}{CX:CXT}{sp sp':Sp}(F:FnOk P w K mg base CX k f fd ps sp)(F':FnOk P w K mg base CX k f fd ps sp'):FnOk P w K mg base CX k f fd ps (fun vs H Q E=>sp vs H Q E\/sp' vs H Q E):=
 ⟨fun vs H Q E h=>h.elim (F.len vs H Q E) (F'.len vs H Q E),fun A outer s H args us vs Q E hr he hb hv hs=>hs.elim (F.run A outer s H args us vs Q E hr he hb hv) (F'.run A outer s H args us vs Q E hr he hb hv)⟩
theorem ok_sameT {h:Nat}{f:Addr}{fd':FuncData}(F:Fun K "_law_same" "_law_same" sSame f fd') (bF:Binds K fd' ["_law_found", "_law_due"] []) (mF:mg "_law_same" = some (.ref f)) (mIsi:mg "isinstance" = none) (mTuple:mg "tuple" = none) (mList:mg "list" = none) (mLen:mg "len" = none) (mZip:mg "zip" = none)
 (G:FnOk P w K mg base CX0 (h+1) f fd' ["_law_found", "_law_due"] (spSm h)):FnOk P w K mg base CX0 (h+2) f fd' ["_law_found", "_law_due"] (spTm h):=by
 refine F.ok scSame (fun vs H Q E h=>?_) (fun cdv A outer s H vs Q E hr h=>?_)
 . obtain⟨a,b,rfl,_⟩:=h
   rfl
 . obtain⟨a,b,rfl,⟨p,q,xs,ys,rfl,rfl,hp,hq,hl,h24,al⟩,k⟩:=h
   refine⟨_,pss_cons (ps_if (PW.pt (pw_or (pt_cmpR op_ne (pe_callB call_isinst (by rfl) mIsi (by decide +kernel) (pa_cons (pv 1) (pa_cons (pe_tyN (T := "tuple") (by rfl) mTuple (by decide +kernel)) pa_nil))) (pe_callB call_isinst (by rfl) mIsi (by decide +kernel) (pa_cons (pv 0) (pa_cons (pe_tyN (T := "tuple") (by rfl) mTuple (by decide +kernel)) pa_nil))) (nomark _))
    (pw_or1 (pt_cmpR op_ne (pe_callB call_isinst (by rfl) mIsi (by decide +kernel) (pa_cons (pv 1) (pa_cons (pe_tyN (T := "list") (by rfl) mList (by decide +kernel)) pa_nil))) (pe_callB call_isinst (by rfl) mIsi (by decide +kernel) (pa_cons (pv 0) (pa_cons (pe_tyN (T := "list") (by rfl) mList (by decide +kernel)) pa_nil))) (nomark _))))) (pss_one (ps_ret pe_bl)) pss_nil)
    (pss_cons (ps_if (pt_not (pt_val (pe_callB call_isinstTs (by rfl) mIsi (by decide +kernel) (pa_cons (pv 1) (pa_cons (pe_tup (pa_cons (pe_tyN (T := "tuple") (by rfl) mTuple (by decide +kernel)) (pa_cons (pe_tyN (T := "list") (by rfl) mList (by decide +kernel)) pa_nil))) pa_nil))))) (pss_one ps_no) pss_nil)
    (pss_cons (ps_if (pt_cmpR op_ne (pe_callB call_len_seq (by rfl) mLen PySem.boot_len (pa_cons (pv 0) pa_nil)) (pe_callB call_len_seq (by rfl) mLen PySem.boot_len (pa_cons (pv 1) pa_nil)) (nomark _)) (pss_one (ps_ret pe_bl)) pss_nil)
    (pss_one (ps_ret (pe_cmpR op_notIn_seq pe_bl (pe_comp (own:=["_law_one", "_law_other"]) (cn:=[]) (ci:=[]) rfl (csc rfl rfl) trivial rfl (pi_zipT rfl mZip (pa_cons (pv 0) (pa_cons (pv 1) pa_nil)))
     (fun _ _ _ _=>pg_tupC (n:=2) rfl (pgs_cons (pg_name (i:=0) (nd_of rfl) rfl (Or.inl rfl)) (pgs_cons (pg_name (i:=1) (nd_of rfl) rfl (Or.inl rfl)) pgs_nil))) (fun _ _ _ _=>pts_nil)
     (fun _ _ _ _=>pe_call G hr rfl mF F.kp bF .nil pass0 (pa_cons (pv 0) (pa_cons (pv 1) pa_nil)))) (by with_unfolding_all rfl)))))),?_⟩
   refine⟨_,rfl,_,_,_,true,rfl,.tup hq,rfl,_,rfl,_,_,_,true,rfl,.tup hp,rfl,rfl,_,rfl,ifF rfl ?_⟩
   refine⟨_,rfl,_,_,_,false,rfl,.tup hq,rfl,_,rfl,_,_,_,false,rfl,.tup hp,rfl,rfl,_,rfl,ifF rfl ?_⟩
   refine⟨_,rfl,by show 2<=sizeLine;decide,fun t ht=>?_⟩
   have s1:=same_laid (o:=.tup [.ty "tuple",.ty "list"]) ht
   refine⟨_,t,["tuple", "list"],_,true,rfl,upd_same,.tup (s1 _ _ hq),rfl,_,rfl,iteF ?_⟩
   have hp1:=s1 _ _ hp
   have hq1:=s1 _ _ hq
   generalize upd H t (.tup [.ty "tuple",.ty "list"])=H1 at s1 hp1 hq1 ⊢
   refine⟨_,rfl,p,xs,rfl,.inr (SqT.of hp1),_,rfl,q,ys,rfl,.inr (SqT.of hq1),rfl,_,rfl,?_⟩
   refine ifF (by rw[hl];simp) ?_
   refine⟨_,rfl,_,rfl,p,q,rfl,⟨xs,SqT.of hp1⟩,⟨ys,SqT.of hq1⟩,[],rfl,fun D hD=>?_⟩
   refine comp_zipT (xs:=xs) (ys:=ys) hl (fun i zs H5=>i<=xs.length/\zs=List.replicate i (V.bl true)/\Same H1 H5/\H5 D=some (.lst zs)) ⟨Nat.zero_le _,rfl,same_laid hD,upd_same⟩ (fun i zs H5 z=>⟨SqT.of (z.2.2.1 _ _ hp1),SqT.of (z.2.2.1 _ _ hq1)⟩) (fun i zs H5 z=>?_) (fun i x y zs H5 T hx hy z hT=>?_) (fun zs H5 z=>?_)
   . obtain⟨hi,rfl,_⟩:=z
     rw[List.length_replicate]
     exact small_line (by omega)
   . obtain⟨hi,rfl,s5,hD5⟩:=z
     have sT:=same_laid (o:=.tup [x,y]) hT
     refine⟨T,_,rfl,SqT.of upd_same,rfl,_,_,rfl,_,_,rfl,rfl,⟨rfl,rfl⟩,?_⟩
     refine tyes ?_
     refine⟨_,rfl,_,rfl,x,y,rfl,((al i x y hx hy).keep s1).keep (s5.trans sT),fun H6 s6=>?_⟩
     refine⟨s6 _ _ (sT _ _ hD5),(List.getElem?_eq_some_iff.mp hx).1,?_,same_chg ((s5.trans sT).trans s6) hD,upd_same⟩
     rw[List.replicate_succ']
   . obtain⟨_,rfl,s5,hD5⟩:=z
     refine⟨D,_,rfl,.inl (SqL.of hD5),rfl,(all_yes _).1,?_⟩
     rw[(all_yes _).2]
     exact k _ (s1.trans s5)
theorem ok_sameM {f:Addr}{fd':FuncData}(F:Fun K "_law_same" "_law_same" sSame f fd') (bF:Binds K fd' ["_law_found", "_law_due"] []) (mF:mg "_law_same" = some (.ref f)) (mIsi:mg "isinstance" = none) (mTuple:mg "tuple" = none) (mList:mg "list" = none) (mBool:mg "bool" = none) (mLen:mg "len" = none) (mZip:mg "zip" = none) :
 ∀h,FnOk P w K mg base CX0 (h+1) f fd' ["_law_found", "_law_due"] (spSm h)
 | 0=>(ok_same F mIsi mTuple mList mBool).imp fun vs H Q E ⟨a,b,e,⟨o,e1,e2⟩,k⟩=>⟨o,o,by rw[e,e1,e2],fun H' s=>by rw[decide_eq_true rfl];exact k H' s⟩
 | h+1=>(FnOk.either ((ok_same F mIsi mTuple mList mBool).mono (by omega)) (ok_sameT F bF mF mIsi mTuple mList mLen mZip (ok_sameM F bF mF mIsi mTuple mList mBool mLen mZip h))).imp fun vs H Q E ⟨a,b,e,m,k⟩=>by
  rcases m with ⟨o,e1,e2⟩ | m
  . exact .inl ⟨o,o,by rw[e,e1,e2],fun H' s=>by rw[decide_eq_true rfl];exact k H' s⟩
  . exact .inr ⟨a,b,e,m,k⟩
end
end K68
namespace K68
open PySem L2 WM
theorem ps_as {X:Cx}{st:Stmt}{u u':TS}(h:PS X st u)(m:∀D σ H,u' D σ H->u D σ H):PS X st u':=fun pins s σ H D I q=>h pins s σ H D I (m D σ H q)
def enc:Option Int->Int
 | none=>1000000
 | some d=>min d 1000000
def eI (o:Option Int):V:=.int (enc o)
def LRowsI (H:Hp)(rs:List Addr)(M:List (List (Option Int))):Prop:=rs.length=M.length/\rs.Nodup/\∀(i:Nat)(r:Addr)(row:List (Option Int)),rs[i]? = some r->M[i]? = some row->H r=some (.lst (row.map eI))
theorem LRowsI.keep {H H':Hp}{rs:List Addr}{M:List (List (Option Int))}(h:LRowsI H rs M)(k:∀b ys,H b=some (.lst ys)->b∈rs->H' b=some (.lst ys)):LRowsI H' rs M:=⟨h.1,h.2.1,fun i r row a b=>k r _ (h.2.2 i r row a b) (List.mem_of_getElem? a)⟩
theorem LRowsI.same {H H':Hp}{rs:List Addr}{M:List (List (Option Int))}(h:LRowsI H rs M)(k:Same H H'):LRowsI H' rs M:=h.keep fun b ys e _=>k _ _ e
theorem LRowsI.get {H:Hp}{rs:List Addr}{M:List (List (Option Int))}{n a:Int}(h:LRowsI H rs M)(S:Sqm n M)(ha:0<=a)(ha':a<n):∃r row,rs[a.toNat]? = some r/\M[a.toNat]? = some row/\M.getD a.toNat []=row/\row.length=n.toNat/\H r=some (.lst (row.map eI))/\∀y,fnl row y=mat M a y:=by
 obtain⟨row,h1,h2,h3⟩:=S.row ha ha'
 have hl:a.toNat<rs.length:=by rw[h.1,S.ln];omega
 exact⟨rs[a.toNat],row,List.getElem?_eq_getElem hl,h1,h2,h3,h.2.2 _ _ _ (List.getElem?_eq_getElem hl) h1,fun y=>by unfold mat;rw[if_pos ha,h2]⟩
theorem LRowsI.set {H:Hp}{rs:List Addr}{M:List (List (Option Int))}{n a b:Int}{v:Option Int}{r:Addr}{row:List (Option Int)}(h:LRowsI H rs M)(S:Sqm n M)(ha:0<=a)(ha':a<n)(h1:rs[a.toNat]? = some r)(h2:M[a.toNat]? = some row) :
 LRowsI (upd H r (.lst ((row.map eI).set b.toNat (eI v)))) rs (setm M a b v):=by
 refine⟨by unfold setm;rw[List.length_set];exact h.1,h.2.1,fun i r' row' a1 a2=>?_⟩
 unfold setm at a2
 rw[List.getElem?_set] at a2
 have hlt:a.toNat<M.length:=(List.getElem?_eq_some_iff.mp h2).1
 by_cases e:a.toNat=i
 . subst e
   rw[if_pos rfl,if_pos hlt] at a2
   rw[h1] at a1
   cases a1
   cases a2
   rw[upd_same,List.getD_eq_getElem?_getD,h2,Option.getD_some,List.map_set]
 . rw[if_neg e] at a2
   have hne:r'≠r:=fun z=>by
    subst z
    exact e ((List.getElem?_inj ((List.getElem?_eq_some_iff.mp h1).1) h.2.1).mp (h1.trans a1.symm))
   rw[upd_ne hne]
   exact h.2.2 i r' row' a1 a2
theorem rowE_at {row:List (Option Int)}{n y:Int}(hl:row.length=n.toNat)(h0:0<=y)(h1:y<n):atI (row.map eI) y=some (.int (enc (fnl row y))):=by
 have hlt:y.toNat<row.length:=by omega
 refine atI_in h0 ?_
 rw[List.getElem?_map,List.getElem?_eq_getElem hlt]
 unfold fnl
 rw[if_pos h0,List.getD_eq_getElem?_getD,List.getElem?_eq_getElem hlt];rfl
def rowI (a:Int)(j:Nat):List (Option Int):=(List.range j).map fun (b:Nat)=>if a=(b:Int) then some 0 else none
theorem rowI_succ (a:Int)(j:Nat):rowI a (j+1)=rowI a j++[if a=(j:Int) then some 0 else none]:=by unfold rowI;rw[List.range_succ,List.map_append];rfl
theorem rowI_len (a:Int)(j:Nat):(rowI a j).length=j:=by unfold rowI;rw[List.length_map,List.length_range]
theorem rowI_get {a:Int}{j:Nat}{y:Int}(h0:0<=y)(h1:y<j):fnl (rowI a j) y=if a=y then some 0 else none:=by
 unfold fnl rowI
 rw[if_pos h0,List.getD_eq_getElem?_getD,List.getElem?_map,List.getElem?_range (by omega)]
 show (if a=((y.toNat:Nat):Int) then some 0 else none)=_
 rw[show ((y.toNat:Nat):Int)=y by omega]
theorem enc_step {a b c:Option Int}(ha:∀d,a=some d->0<=d)(hb:∀d,b=some d->0<=d)(hc:∀d,c=some d->0<=d):(if enc b+enc c<enc a then enc b+enc c else enc a)=enc (oles a (oadd b c)):=by
 cases a with
 | none=>cases b with
  | none=>cases c with
   | none=>show (if (1000000:Int)+1000000<1000000 then _ else _)=1000000;rw[if_neg (by omega)];rfl
   | some z=>have:=hc z rfl;show (if (1000000:Int)+min z 1000000<1000000 then _ else _)=1000000;rw[if_neg (by omega)];rfl
  | some y=>
   have:=hb y rfl
   cases c with
   | none=>show (if min y 1000000+(1000000:Int)<1000000 then _ else _)=1000000;rw[if_neg (by omega)];rfl
   | some z=>
    have:=hc z rfl
    show (if min y 1000000+min z 1000000<(1000000:Int) then min y 1000000+min z 1000000 else 1000000)=min (y+z) 1000000
    split <;> omega
 | some x=>
  have:=ha x rfl
  cases b with
  | none=>cases c with
   | none=>show (if (1000000:Int)+1000000<min x 1000000 then _ else _)=min x 1000000;rw[if_neg (by omega)];rfl
   | some z=>have:=hc z rfl;show (if (1000000:Int)+min z 1000000<min x 1000000 then _ else _)=min x 1000000;rw[if_neg (by omega)];rfl
  | some y=>
   have:=hb y rfl
   cases c with
   | none=>show (if min y 1000000+(1000000:Int)<min x 1000000 then _ else _)=min x 1000000;rw[if_neg (by omega)];rfl
   | some z=>
    have:=hc z rfl
    show (if min y 1000000+min z 1000000<min x 1000000 then min y 1000000+min z 1000000 else min x 1000000)=min (if y+z<x then y+z else x) 1000000
    split <;> split <;> omega
def spRows:Sp:=fun vs H Q _=>∃(wa:Addr)(n:Int)(ts:List T3),vs=[.ref wa]/\WebAt H wa n ts /\
 ∀(fl:Addr)(rs:List Addr)(M:List (List (Option Int)))(H':Hp),Same H H'->H fl=none->H' fl=some (.lst (rs.map V.ref))->LRowsI H' rs M->Rows ts n M->Q (.ref fl) H'
section
variable {P:Program}{w:World}{K:PySem.W.Frag}{mg:Str->Option Value}{base:Heap}
theorem scRows:FnScope ["_law_web_here", "_law_many", "_law_rows_here", "_law_a", "_law_b", "_law_long", "_law_at", "_law_one", "_law_other"] ["_law_web_here"] (defScope sRows):=⟨rfl,rfl,rfl,by decide +kernel,rfl,by decide +kernel,by decide +kernel⟩
theorem ok_rows {f:Addr}{fd':FuncData}(F:Fun K "_law_rows" "_law_rows" sRows f fd') (mRange:mg "range" = none) (mInt:mg "int" = none) (mMin:mg "min" = none):FnOk P w K mg base CX0 1 f fd' ["_law_web_here"] spRows:=by
 refine F.ok scRows (fun vs H Q E h=>?_) (fun cdv A outer s H vs Q E hr h=>?_)
 . obtain⟨wa,n,ts,rfl,_⟩:=h
   rfl
 . obtain⟨wa,n,ts,rfl,W,k⟩:=h
   obtain⟨ta,tys,hwa,hta,TA,G⟩:=id W
   have hn1:=G.n1
   have hn24:=G.n24
   refine⟨_,pss_cons (ps_set (i:=1) scRows.nd rfl (Or.inr rfl) (pe_ix ix_tup (pv 0) pe_int (fun _ _=>rfl)))
    (pss_cons (ps_setC1 (yc := "_law_one") (i:=2) (own:=["_law_one"]) (cn:=["_law_many"]) (ci:=[1]) scRows.nd rfl (Or.inl rfl) rfl (csc1 rfl (fun _ _=>rfl) rfl rfl) ⟨rfl,rfl,rfl,trivial⟩ rfl
     (pi_range1 rfl mRange (pa_cons (pv 1) pa_nil)) (fun _ _ _ _=>pg_name (i:=0) (nd_of rfl) rfl (Or.inr rfl)) (fun _ _ _ _=>pts_nil)
     (fun _ _ _ _=>pe_comp (own:=["_law_other"]) (cn:=["_law_one"]) (ci:=[0]) rfl (csc rfl rfl) ⟨rfl,rfl,rfl,trivial⟩ rfl
      (pi_range1 rfl mRange (pa_cons (pv 1) pa_nil)) (fun _ _ _ _=>pg_name (i:=0) (nd_of rfl) rfl (Or.inl rfl)) (fun _ _ _ _=>pts_nil)
      (fun _ _ _ _=>pe_op op_mul (pe_op op_pow pe_int pe_int) (pe_callTy call_int1 (by rfl) mInt (by decide +kernel) (pa_cons (pe_cmpR op_ne (pv 1) (pv 0) (nomark _)) pa_nil)))))
    (pss_cons (ps_for PassesOwn.never rfl (pi_tup (pe_ix ix_tup (pv 0) pe_int (fun _ _=>rfl))) (pg_tup rfl (pgs_cons (pg_name (i:=3) scRows.nd rfl (Or.inl rfl)) (pgs_cons (pg_name (i:=4) scRows.nd rfl (Or.inl rfl)) (pgs_cons (pg_name (i:=5) scRows.nd rfl (Or.inl rfl)) pgs_nil))))
     (pss_cons (ps_asg (pv 5) (pg_sub (pe_ix ix_list (pv 2) (pv 3) (fun _ _=>rfl)) (pv 4) set_list))
     (pss_one (ps_asg (pv 5) (pg_sub (pe_ix ix_list (pv 2) (pv 4) (fun _ _=>rfl)) (pv 3) set_list)))))
    (pss_cons (ps_for PassesOwn.never rfl (pi_range1 rfl mRange (pa_cons (pv 1) pa_nil)) (pg_name (i:=6) scRows.nd rfl (Or.inl rfl))
     (pss_one (ps_for PassesOwn.never rfl (pi_range1 rfl mRange (pa_cons (pv 1) pa_nil)) (pg_name (i:=7) scRows.nd rfl (Or.inl rfl))
      (pss_one (ps_for PassesOwn.never rfl (pi_range1 rfl mRange (pa_cons (pv 1) pa_nil)) (pg_name (i:=8) scRows.nd rfl (Or.inl rfl))
       (pss_one (ps_asg (pe_callB (call_min2 rfl) (by rfl) mMin (by decide +kernel) (pa_cons (pe_ix ix_list (pe_ix ix_list (pv 2) (pv 7) (fun _ _=>rfl)) (pv 8) (fun _ _=>rfl))
        (pa_cons (pe_op op_add (pe_ix ix_list (pe_ix ix_list (pv 2) (pv 7) (fun _ _=>rfl)) (pv 6) (fun _ _=>rfl)) (pe_ix ix_list (pe_ix ix_list (pv 2) (pv 6) (fun _ _=>rfl)) (pv 8) (fun _ _=>rfl))) pa_nil)))
        (pg_sub (pe_ix ix_list (pv 2) (pv 7) (fun _ _=>rfl)) (pv 8) set_list))))))))
    (pss_one (ps_ret (pv 2)))))),?_⟩
   refine⟨_,rfl,_,_,_,_,rfl,rfl,SqT.of hwa,rfl,?_⟩
   refine⟨_,rfl,n,rfl,by omega,by omega,[.int n],rfl,fun D hD=>?_⟩
   refine comp_range (lo:=0) (n:=n.toNat) (fun q ys H1=>q<=n.toNat/\∃(rs:List Addr)(M:List (List (Option Int))),ys=rs.map V.ref/\rs.length=q/\LRowsI H1 rs M/\(∀x:Nat,x<q->M[x]? = some (rowI x n.toNat))/\(∀r∈rs,H r=none/\r≠D)/\Same H H1/\H1 D=some (.lst ys))
    ⟨Nat.zero_le _,[],[],rfl,rfl,⟨rfl,List.nodup_nil,fun i r row h=>by simp at h⟩,fun x hx=>absurd hx (Nat.not_lt_zero _),fun r h=>by simp at h,same_laid hD,upd_same⟩ (fun q ys H1 h=>?_) (fun q ys H1 hq h=>?_) (fun ys H1 h=>?_)
   . obtain⟨hq,rs,M,rfl,hl,_⟩:=h
     rw[List.length_map,hl]
     exact small_line (by omega)
   . obtain⟨_,rs,M,rfl,hl,R,L,fr,sm,hD1⟩:=h
     rw[Int.zero_add]
     refine⟨⟨rfl,rfl⟩,?_⟩
     refine tyes ?_
     refine⟨_,rfl,n,rfl,by omega,by omega,[.int q],rfl,fun D2 hD2=>?_⟩
     have nD2:D2≠D:=fun z=>by rw[z,hD1] at hD2;cases hD2
     refine comp_range (lo:=0) (n:=n.toNat) (fun j ys H2=>j<=n.toNat/\ys=(rowI q j).map eI/\Same H1 H2/\H2 D2=some (.lst ys))
      ⟨Nat.zero_le _,rfl,same_laid hD2,upd_same⟩ (fun j ys H2 h=>?_) (fun j ys H2 hj h=>?_) (fun ys H2 h=>?_)
     . obtain⟨hj,rfl,_⟩:=h
       rw[List.length_map,rowI_len]
       exact small_line (by omega)
     . obtain⟨_,rfl,s2,h2⟩:=h
       rw[Int.zero_add]
       refine⟨⟨rfl,rfl⟩,?_⟩
       refine tyes ?_
       refine⟨_,_,rfl,rfl,⟨by decide,by decide,by decide⟩,_,rfl,_,rfl,rfl,.inr ⟨_,rfl,_,_,rfl,rfl,.inl ⟨by decide,by decide⟩,h2,hj,?_,same_chg s2 hD2,upd_same⟩⟩
       rw[rowI_succ,List.map_append]
       congr 1
       by_cases e:(q:Int)=(j:Int)
       . rw[if_pos e,decide_eq_true (congrArg V.int e)];rfl
       . rw[if_neg e,decide_eq_false fun z=>e (V.int.inj z)];rfl
     . obtain⟨_,rfl,s2,h2⟩:=h
       have hD22:H2 D=some (.lst (rs.map V.ref)):=s2 _ _ hD1
       have frD2:H D2=none:=by
        cases z:H D2 with
        | none=>rfl
        | some o=>rw[sm _ _ z] at hD2;cases hD2
       have nin:D2∉rs:=fun z=>by
        obtain⟨i,hi,e⟩:=List.getElem_of_mem z
        have hM:i<M.length:=by rw[<-R.1];exact hi
        have:=R.2.2 i D2 M[i] (by rw[List.getElem?_eq_getElem hi,e]) (List.getElem?_eq_getElem hM)
        rw[hD2] at this;cases this
       refine⟨hD22,hq,rs++[D2],M++[rowI q n.toNat],by rw[List.map_append];rfl,by rw[List.length_append,hl];rfl,⟨by rw[List.length_append,List.length_append,R.1];rfl,?_,fun i r row h1 h3=>?_⟩,fun x hx=>?_,fun r hr'=>?_,same_chg (sm.trans s2) hD,upd_same⟩
       . exact List.nodup_append.mpr ⟨R.2.1,by simp,fun a ha b hb=>by
          have e:b=D2:=by simpa using hb
          rw[e];exact fun z=>nin (z ▸ ha)⟩
       . have key:H2 r=some (.lst (row.map eI))/\r≠D:=by
          by_cases hi:i<rs.length
          . rw[List.getElem?_append_left hi] at h1
            rw[List.getElem?_append_left (by rw[<-R.1];exact hi)] at h3
            exact⟨s2 _ _ (R.2.2 i r row h1 h3),(fr r (List.mem_of_getElem? h1)).2⟩
          . rw[List.getElem?_append_right (by omega)] at h1
            rw[List.getElem?_append_right (by rw[<-R.1];omega),<-R.1] at h3
            cases hz:i-rs.length with
            | zero=>
             rw[hz] at h1 h3
             have e1:D2=r:=by simpa using h1
             have e2:rowI q n.toNat=row:=by simpa using h3
             subst e1 e2
             exact⟨h2,nD2⟩
            | succ k=>rw[hz] at h1;simp at h1
         rw[upd_ne key.2]
         exact key.1
       . by_cases hx':x<q
         . rw[List.getElem?_append_left (by rw[<-R.1,hl];exact hx')]
           exact L x hx'
         . have e:x=q:=by omega
           subst e
           rw[List.getElem?_append_right (by rw[<-R.1,hl];exact Nat.le_refl _),<-R.1,hl]
           simp
       . rcases List.mem_append.mp hr' with z | z
         . exact fr r z
         . have e:r=D2:=by simpa using z
           rw[e];exact⟨frD2,nD2⟩
   . obtain⟨_,rs,M,rfl,hl,R,L,fr,sm,hD1⟩:=h
     have hML:M.length=n.toNat:=by rw[<-R.1,hl]
     have S0:Sqm n M:=⟨hML,fun r hr'=>by
      obtain⟨i,hi,e⟩:=List.getElem_of_mem hr'
      have:=L i (by omega)
      rw[List.getElem?_eq_getElem hi,e] at this
      rw[Option.some.inj this,rowI_len]⟩
     have M0:∀x y,0<=x->x<n->0<=y->y<n->mat M x y=if x=y then some 0 else none:=fun x y hx hx' hy hy'=>by
      unfold mat
      rw[if_pos hx,List.getD_eq_getElem?_getD,L x.toNat (by omega),Option.getD_some,rowI_get hy (by omega),show ((x.toNat:Nat):Int)=x by omega]
     have wr:∀{H2:Hp}{r:Addr}{o:HO},r∈rs->Same H H2->Same H (upd H2 r o):=fun {H2 r o} hr' s2=>same_chg s2 (fr r hr').1
     have wD:∀{H2:Hp}{r:Addr}{o:HO},r∈rs->H2 D=some (.lst (rs.map V.ref))->(upd H2 r o) D=some (.lst (rs.map V.ref)):=fun {H2 r o} hr' e=>by rw[upd_ne (fr r hr').2.symm];exact e
     refine⟨_,rfl,_,_,_,_,rfl,rfl,SqT.of (sm _ _ hwa),rfl,ta,rfl,⟨_,SqT.of (sm _ _ hta)⟩,for_tup (K:=K) (a:=ta) (xs:=tys)
      (fun i σ H2=>∃(v3 v4 v5 v6 v7 v8:Option V)(M:List (List (Option Int))),σ=[some (.ref wa),some (.int n),some (.ref D),v3,v4,v5,v6,v7,v8]/\Same H H2/\H2 D=some (.lst (rs.map V.ref))/\LRowsI H2 rs M/\Sqm n M/\Ft (ts.take i) n (mat M))
      ⟨_,_,_,_,_,_,M,rfl,sm,hD1,R,S0,by rw[List.take_zero];exact Ft.nil n M0⟩ (fun i σ H2 _ ⟨_,_,_,_,_,_,_,_,s,_⟩=>SqT.of (s _ _ hta)) ?turn1 ?after1⟩
     case turn1=>
      rintro i y σ H2 hi ⟨v3,v4,v5,v6,v7,v8,M2,rfl,s2,hD2,R2,S2,T2⟩
      obtain⟨ya,ky,rfl,hky,hya,_⟩:=TA.get hi
      rw[List.getElem?_map] at hky
      obtain⟨⟨a,b,c⟩,hti,rfl⟩:∃t:T3,ts[i]? = some t/\tl t=ky:=by
       cases e:ts[i]? with
       | none=>rw[e] at hky;cases hky
       | some t=>rw[e] at hky;exact⟨t,rfl,Option.some.inj hky⟩
      have hm:=List.mem_of_getElem? hti
      have hr3:=G.rng _ hm
      simp only at hr3
      have ec:V.int c=eI (some c):=by show V.int c=V.int (min c 1000000);rw[Int.min_eq_left (by omega)]
      obtain⟨ra,rowa,a1,a2,a3,a4,a5,_⟩:=R2.get S2 (a:=a) (by omega) (by omega)
      have ma:=List.mem_of_getElem? a1
      refine⟨ya,_,rfl,SqT.of (s2 _ _ hya),rfl,_,_,rfl,_,_,rfl,_,_,rfl,rfl,?_⟩
      refine⟨_,rfl,_,rfl,_,rfl,D,_,_,.ref ra,rfl,rfl,SqL.of hD2,atI_in (by omega) (by rw[List.getElem?_map,a1];rfl),_,rfl,ra,_,b,b.toNat,rfl,rfl,a5,ixN_in (by omega) (by rw[List.length_map,a4];omega),?_⟩
      have R3:LRowsI (upd H2 ra (.lst ((rowa.map eI).set b.toNat (.int c)))) rs (setm M2 a b (some c)):=by rw[ec];exact R2.set S2 (v:=some c) (by omega) (by omega) a1 a2
      have S3:Sqm n (setm M2 a b (some c)):=S2.set (by omega) (by omega)
      have s3:=wr (o:=.lst ((rowa.map eI).set b.toNat (.int c))) ma s2
      have hD3:=wD (o:=.lst ((rowa.map eI).set b.toNat (.int c))) ma hD2
      generalize upd H2 ra (.lst ((rowa.map eI).set b.toNat (.int c)))=H3 at R3 s3 hD3 ⊢
      obtain⟨rb,rowb,b1,b2,b3,b4,b5,_⟩:=R3.get S3 (a:=b) (by omega) (by omega)
      have mb:=List.mem_of_getElem? b1
      refine⟨_,rfl,_,rfl,_,rfl,D,_,_,.ref rb,rfl,rfl,SqL.of hD3,atI_in (show 0<=b by omega) (by rw[List.getElem?_map,b1];rfl),_,rfl,rb,_,a,a.toNat,rfl,rfl,b5,ixN_in (by omega) (by rw[List.length_map,b4];omega),?_⟩
      have R4:LRowsI (upd H3 rb (.lst ((rowb.map eI).set a.toNat (.int c)))) rs (setm (setm M2 a b (some c)) b a (some c)):=by rw[ec];exact R3.set S3 (v:=some c) (by omega) (by omega) b1 b2
      refine⟨_,_,_,_,_,_,_,rfl,wr mb s3,wD mb hD3,R4,S3.set (by omega) (by omega),?_⟩
      have hsp:ts=ts.take i++(a,b,c)::ts.drop (i+1):=by
       have hil:=(List.getElem?_eq_some_iff.mp hti)
       conv=>lhs;rw[<-List.take_append_drop i ts,List.drop_eq_getElem_cons hil.1,hil.2]
      have htk:ts.take (i+1)=ts.take i++[(a,b,c)]:=by rw[List.take_add_one,hti];rfl
      rw[htk]
      refine (Ft.put (post:=ts.drop (i+1)) (by rw[<-hsp];exact G) T2).congr fun x y hx hx' hy hy'=>?_
      rw[mat_set S3 (by omega) (by omega) (by omega) (by omega) hx hx',mat_set S2 (by omega) (by omega) (by omega) (by omega) hx hx']
     case after1=>
      rintro σ H2 ⟨v3,v4,v5,v6,v7,v8,M2,rfl,s2,hD2,R2,S2,T2⟩
      have hlt:tys.length=ts.length:=by rw[TA.length,List.length_map]
      rw[hlt,List.take_length] at T2
      have FC:=T2.fw G
      refine⟨_,rfl,n,rfl,by omega,by omega,for_range (lo:=0) (n:=n.toNat)
       (fun kk σ H3=>∃(v3 v4 v5 v6 v7 v8:Option V)(M:List (List (Option Int))),σ=[some (.ref wa),some (.int n),some (.ref D),v3,v4,v5,v6,v7,v8]/\Same H H3/\H3 D=some (.lst (rs.map V.ref))/\LRowsI H3 rs M/\Sqm n M/\Fw ts n (mat M)/\Cov ts n (kk:Int) (mat M))
       ⟨_,_,_,_,_,_,M2,rfl,s2,hD2,R2,S2,FC.1,FC.2⟩ ?turn2 ?after2⟩
      case after2=>
       rintro σ H3 ⟨v3,v4,v5,v6,v7,v8,M3,rfl,s3,hD3,R3,S3,f3,c3⟩
       rw[show ((n.toNat:Nat):Int)=n by omega] at c3
       exact⟨_,rfl,k D rs M3 H3 s3 hD hD3 R3 (rows_of G S3 f3 c3)⟩
      case turn2=>
       rintro kk σ H3 hkk ⟨v3,v4,v5,v6,v7,v8,M3,rfl,s3,hD3,R3,S3,f3,c3⟩
       rw[Int.zero_add]
       refine⟨_,rfl,n,rfl,by omega,by omega,for_range (lo:=0) (n:=n.toNat)
        (fun aa σ H4=>∃(v3 v4 v5 v7 v8:Option V)(M:List (List (Option Int))),σ=[some (.ref wa),some (.int n),some (.ref D),v3,v4,v5,some (.int (kk:Int)),v7,v8]/\Same H H4/\H4 D=some (.lst (rs.map V.ref))/\LRowsI H4 rs M/\Sqm n M/\Fm ts n (kk:Int) (mat M) (fun x _=>x<(aa:Int)))
        ⟨_,_,_,_,_,M3,rfl,s3,hD3,R3,S3,(Fm.enter f3 c3).congr (fun _ _ _ _ _ _=>rfl) fun x y hx _ _ _ z=>by omega⟩ ?turn3 ?after3⟩
       case after3=>
        rintro σ H4 ⟨v3,v4,v5,v7,v8,M4,rfl,s4,hD4,R4,S4,F4⟩
        have fc:=F4.leave fun x y _ hx' _ _=>by omega
        exact⟨_,_,_,_,_,_,M4,rfl,s4,hD4,R4,S4,fc.1,fc.2⟩
       case turn3=>
        rintro aa σ H4 haa ⟨v3,v4,v5,v7,v8,M4,rfl,s4,hD4,R4,S4,F4⟩
        rw[Int.zero_add]
        refine⟨_,rfl,n,rfl,by omega,by omega,for_range (lo:=0) (n:=n.toNat)
         (fun bb σ H5=>∃(v3 v4 v5 v8:Option V)(M:List (List (Option Int))),σ=[some (.ref wa),some (.int n),some (.ref D),v3,v4,v5,some (.int (kk:Int)),some (.int (aa:Int)),v8]/\Same H H5/\H5 D=some (.lst (rs.map V.ref))/\LRowsI H5 rs M/\Sqm n M/\Fm ts n (kk:Int) (mat M) (fun x y=>x<(aa:Int)\/(x=(aa:Int)/\y<(bb:Int))))
         ⟨_,_,_,_,M4,rfl,s4,hD4,R4,S4,F4.congr (fun _ _ _ _ _ _=>rfl) fun x y _ _ hy _ z=>by omega⟩ ?turn4 ?after4⟩
        case after4=>
         rintro σ H5 ⟨v3,v4,v5,v8,M5,rfl,s5,hD5,R5,S5,F5⟩
         exact⟨_,_,_,_,_,M5,rfl,s5,hD5,R5,S5,F5.congr (fun _ _ _ _ _ _=>rfl) fun x y _ _ _ hy' z=>by omega⟩
        case turn4=>
         rintro bb σ H5 hbb ⟨v3,v4,v5,v8,M5,rfl,s5,hD5,R5,S5,F5⟩
         rw[Int.zero_add]
         obtain⟨ra,rowa,a1,a2,a3,a4,a5,a6⟩:=R5.get S5 (a:=(aa:Int)) (by omega) (by omega)
         obtain⟨rk,rowk,k1,k2,k3,k4,k5,k6⟩:=R5.get S5 (a:=(kk:Int)) (by omega) (by omega)
         have ma:=List.mem_of_getElem? a1
         have nn:∀x y d,0<=x->x<n->0<=y->y<n->mat M5 x y=some d->0<=d:=fun x y d h1 h2 h3 h4 e=>(F5.fw.snd x y d h1 h2 h3 h4 e).nn G
         refine⟨_,rfl,_,rfl,D,_,_,.ref ra,rfl,rfl,SqL.of hD5,atI_in (by omega) (by rw[List.getElem?_map,a1];rfl),_,rfl,ra,_,_,_,rfl,rfl,SqL.of a5,rowE_at a4 (by omega) (by omega),?_⟩
         refine⟨_,rfl,_,rfl,D,_,_,.ref ra,rfl,rfl,SqL.of hD5,atI_in (by omega) (by rw[List.getElem?_map,a1];rfl),_,rfl,ra,_,_,_,rfl,rfl,SqL.of a5,rowE_at a4 (by omega) (by omega),?_⟩
         refine⟨_,rfl,_,rfl,D,_,_,.ref rk,rfl,rfl,SqL.of hD5,atI_in (by omega) (by rw[List.getElem?_map,k1];rfl),_,rfl,rk,_,_,_,rfl,rfl,SqL.of k5,rowE_at k4 (by omega) (by omega),?_⟩
         refine⟨_,_,rfl,rfl,_,_,rfl,?_⟩
         dsimp only
         have es:=enc_step (a:=fnl rowa (bb:Int)) (b:=fnl rowa (kk:Int)) (c:=fnl rowk (bb:Int)) (fun d e=>nn aa bb d (by omega) (by omega) (by omega) (by omega) (by rw[<-a6];exact e)) (fun d e=>nn aa kk d (by omega) (by omega) (by omega) (by omega) (by rw[<-a6];exact e)) (fun d e=>nn kk bb d (by omega) (by omega) (by omega) (by omega) (by rw[<-k6];exact e))
         rw[es]
         refine⟨_,rfl,_,rfl,D,_,_,.ref ra,rfl,rfl,SqL.of hD5,atI_in (by omega) (by rw[List.getElem?_map,a1];rfl),_,rfl,ra,_,_,(bb:Int).toNat,rfl,rfl,a5,ixN_in (by omega) (by rw[List.length_map,a4];omega),?_⟩
         refine⟨_,_,_,_,_,rfl,wr ma s5,wD ma hD5,R5.set S5 (by omega) (by omega) a1 a2,S5.set (by omega) (by omega),?_⟩
         refine (Fm.step G F5 (a:=(aa:Int)) (b:=(bb:Int)) (by omega) (by omega) (by omega) (by omega) (by omega) (by omega)).congr (fun x y hx hx' hy hy'=>?_) fun x y _ _ _ _ z=>by omega
         rw[mat_set S5 (by omega) (by omega) (by omega) (by omega) hx hx',a6,a6,k6]
end
end K68
namespace K68
open PySem L2 WM
structure Prt (n:Int)(ps:List Int):Prop where
 ri:ps.Pairwise (· < ·)
 rng:∀p∈ps,0<=p/\p<n
 ne:ps≠[]
structure Cvx (ts:List T3)(n:Int)(ps:List Int):Prop where
 pr:Prt n ps
 cv:∀x∈ps,∀y∈ps,∀p,Btw ts x y p->p∈ps
def ixP (ps:List Int)(p:Int):Int:=(ps.idxOf p:Nat)
theorem Prt.nd {n:Int}{ps:List Int}(h:Prt n ps):ps.Nodup:=h.ri.imp fun h e=>by omega
theorem Prt.len {n:Int}{ps:List Int}(h:Prt n ps):1<=ps.length/\ps.length<=n.toNat:=by
 refine⟨List.length_pos_iff.mpr h.ne,nd_len h.nd fun x hx=>?_⟩
 have:=h.rng x hx
 omega
theorem ix_in {ps:List Int}{p:Int}(h:p∈ps):0<=ixP ps p/\ixP ps p<ps.length/\ps[(ixP ps p).toNat]? = some p:=by
 have hl:ps.idxOf p<ps.length:=List.idxOf_lt_length_iff.mpr h
 unfold ixP
 refine⟨by omega,by omega,?_⟩
 rw[Int.toNat_natCast,List.getElem?_eq_getElem hl,List.getElem_idxOf hl]
theorem ix_at {ps:List Int}(nd:ps.Nodup){i:Nat}{p:Int}(h:ps[i]? = some p):ixP ps p=i:=by
 obtain⟨hi,e⟩:=List.getElem?_eq_some_iff.mp h
 obtain⟨_,h2,h3⟩:=ix_in (List.mem_of_getElem? h)
 obtain⟨hj,e'⟩:=List.getElem?_eq_some_iff.mp h3
 have:=(List.getElem_inj nd).mp (e.trans e'.symm)
 have h0:0<=ixP ps p:=Int.natCast_nonneg _
 omega
theorem ix_inj {ps:List Int}{p q:Int}(hp:p∈ps)(hq:q∈ps)(e:ixP ps p=ixP ps q):p=q:=by
 have a:=(ix_in hp).2.2
 rw[e,(ix_in hq).2.2] at a
 exact (Option.some.inj a).symm
theorem ix_lt {n:Int}{ps:List Int}(P:Prt n ps){p q:Int}(hp:p∈ps)(hq:q∈ps):ixP ps p<ixP ps q↔p<q:=by
 obtain⟨a0,a1,a2⟩:=ix_in hp
 obtain⟨b0,b1,b2⟩:=ix_in hq
 obtain⟨_,e1⟩:=List.getElem?_eq_some_iff.mp a2
 obtain⟨_,e2⟩:=List.getElem?_eq_some_iff.mp b2
 have key:=List.pairwise_iff_getElem.mp P.ri
 constructor
 . intro h
   have:=key (ixP ps p).toNat (ixP ps q).toNat (by omega) (by omega) (by omega)
   rw[e1,e2] at this
   exact this
 . intro h
   apply Classical.byContradiction
   intro hn
   by_cases e:ixP ps p=ixP ps q
   . have:=ix_inj hp hq e;omega
   . have:=key (ixP ps q).toNat (ixP ps p).toNat (by omega) (by omega) (by omega)
     rw[e1,e2] at this
     omega
theorem ix_le {n:Int}{ps:List Int}(P:Prt n ps){p q:Int}(hp:p∈ps)(hq:q∈ps)(h:p<=q):ixP ps p<=ixP ps q:=by
 by_cases e:p=q
 . rw[e];exact Int.le_refl _
 . have:=(ix_lt P hp hq).mpr (by omega)
   omega
def inT (ps:List Int)(t:T3):Bool:=decide (t.1∈ps) && decide (t.2.1∈ps)
def newT (ps:List Int)(t:T3):T3:=(ixP ps t.1,ixP ps t.2.1,t.2.2)
def cutT (ps:List Int)(ts:List T3):List T3:=(ts.filter (inT ps)).map (newT ps)
theorem inT_iff {ps:List Int}{t:T3}:inT ps t=true↔t.1∈ps/\t.2.1∈ps:=by unfold inT;simp
theorem mem_cutT {ps:List Int}{ts:List T3}{u:T3}:u∈cutT ps ts↔∃t∈ts,t.1∈ps/\t.2.1∈ps/\newT ps t=u:=by
 unfold cutT
 rw[List.mem_map]
 constructor
 . rintro ⟨t,ht,e⟩
   obtain⟨a,b⟩:=List.mem_filter.mp ht
   exact⟨t,a,(inT_iff.mp b).1,(inT_iff.mp b).2,e⟩
 . rintro ⟨t,a,b,c,e⟩
   exact⟨t,List.mem_filter.mpr ⟨a,inT_iff.mpr ⟨b,c⟩⟩,e⟩
theorem adj_cut' {ps:List Int}{ts:List T3}{i j l:Int}(h:Adj (cutT ps ts) i j l):∃x y,x∈ps/\y∈ps/\ixP ps x=i/\ixP ps y=j/\Adj ts x y l:=by
 rcases h with h | h
 . obtain⟨⟨a,b,c⟩,ht,h1,h2,e⟩:=mem_cutT.mp h
   injection e with e1 e
   injection e with e2 e3
   dsimp only at h1 h2 e1 e2 e3
   subst e3
   exact⟨a,b,h1,h2,e1,e2,.inl ht⟩
 . obtain⟨⟨a,b,c⟩,ht,h1,h2,e⟩:=mem_cutT.mp h
   injection e with e1 e
   injection e with e2 e3
   dsimp only at h1 h2 e1 e2 e3
   subst e3
   exact⟨b,a,h2,h1,e2,e1,.inr ht⟩
theorem adj_cut {ps:List Int}{ts:List T3}{x y l:Int}(hx:x∈ps)(hy:y∈ps)(h:Adj ts x y l):Adj (cutT ps ts) (ixP ps x) (ixP ps y) l:=by
 rcases h with h | h
 . exact .inl (mem_cutT.mpr ⟨_,h,hx,hy,rfl⟩)
 . exact .inr (mem_cutT.mpr ⟨_,h,hy,hx,rfl⟩)
theorem gw_cut {n:Int}{ps:List Int}{ts:List T3}(G:GW n ts)(P:Prt n ps):GW (ps.length:Int) (cutT ps ts):=by
 have hl:=P.len
 have hn:=G.n24
 refine⟨by omega,by omega,?_,fun u hu=>?_,?_⟩
 . have:=List.length_filter_le (inT ps) ts
   unfold cutT
   rw[List.length_map]
   have:=G.len
   omega
 . obtain⟨t,ht,h1,h2,rfl⟩:=mem_cutT.mp hu
   obtain⟨g0,g1,g2,g3⟩:=G.rng t ht
   exact⟨(ix_in h1).1,(ix_lt P h1 h2).mpr g1,(ix_in h2).2.1,g3⟩
 . unfold cutT
   rw[List.pairwise_map]
   refine (G.dis.filter _).imp_of_mem fun {s t} hs ht hne e=>?_
   have a:=inT_iff.mp (List.mem_filter.mp hs).2
   have b:=inT_iff.mp (List.mem_filter.mp ht).2
   exact hne ⟨ix_inj a.1 b.1 e.1,ix_inj a.2 b.2 e.2⟩
theorem way_back {ps:List Int}{ts:List T3}{i j d:Int}(w:Way (cutT ps ts) i j d):∀x∈ps,ixP ps x=i->∃y∈ps,ixP ps y=j/\Way ts x y d:=by
 induction w with
 | nil i=>intro x hx e;exact⟨x,hx,e,.nil x⟩
 | cons ha _ ih=>
  intro x hx e
  obtain⟨x',z,hx',hz,e1,e2,ha'⟩:=adj_cut' ha
  have ex:=ix_inj hx' hx (e1.trans e.symm)
  subst ex
  obtain⟨y,hy,ey,w'⟩:=ih z hz e2
  exact⟨y,hy,ey,.cons ha' w'⟩
theorem way_cut {ps:List Int}{ts:List T3}{x y d:Int}(hx:x∈ps)(hy:y∈ps)(w:Way (cutT ps ts) (ixP ps x) (ixP ps y) d):Way ts x y d:=by
 obtain⟨y',hy',e,w'⟩:=way_back w x hx rfl
 rw[<-ix_inj hy' hy e]
 exact w'
theorem nxt_btw {n:Int}{ts:List T3}(G:GW n ts){x y p:Int}(h:Nxt ts x y p):Btw ts x y p:=by
 obtain⟨l,b,_,_,i⟩:=id h
 exact Nxt.btw G (Btw.self G i) h
theorem way_fwd {n:Int}{ps:List Int}{ts:List T3}(G:GW n ts)(C:Cvx ts n ps):∀(m:Nat){x y d:Int},d.toNat<=m->x∈ps->y∈ps->WM.IsD ts x y d->Way (cutT ps ts) (ixP ps x) (ixP ps y) d
 | 0,x,y,d,hm,hx,hy,h=>by
  have:=h.1.nn G
  have e:d=0:=by omega
  subst e
  rw[(isD_zero G h).mp rfl]
  exact .nil _
 | m+1,x,y,d,hm,hx,hy,h=>by
  by_cases e:x=y
  . subst e
    have:=h.uniq (isD_self G x)
    subst this
    exact .nil _
  . obtain⟨p,hp⟩:=Nxt.exists G h e
    have hb:=C.cv x hx y hy p (nxt_btw G hp)
    obtain⟨l,b,ha,hd,hlb⟩:=hp
    have ed:=hlb.uniq h
    subst ed
    have:=G.adj ha
    have:=hd.1.nn G
    exact .cons (adj_cut hx hb ha) (way_fwd G C m (by omega) hb hy hd)
theorem isD_cut {n:Int}{ps:List Int}{ts:List T3}(G:GW n ts)(C:Cvx ts n ps){x y d:Int}(hx:x∈ps)(hy:y∈ps):WM.IsD (cutT ps ts) (ixP ps x) (ixP ps y) d↔WM.IsD ts x y d:=by
 constructor
 . rintro ⟨w,hm⟩
   have w':=way_cut hx hy w
   obtain⟨e,he⟩:=Way.least G w'
   have:=hm e (way_fwd G C _ (Nat.le_refl _) hx hy he)
   have:=he.2 d w'
   have ee:e=d:=by omega
   rw[<-ee]
   exact he
 . intro h
   exact⟨way_fwd G C _ (Nat.le_refl _) hx hy h,fun e w=>h.2 e (way_cut hx hy w)⟩
theorem len_cut {n:Int}{ps:List Int}{ts:List T3}(G:GW n ts)(C:Cvx ts n ps){x y:Int}{o:Option Int}(hx:x∈ps)(hy:y∈ps)(h:Len ts x y o):Len (cutT ps ts) (ixP ps x) (ixP ps y) o:=by
 cases o with
 | none=>exact fun d w=>h d (way_cut hx hy w)
 | some d=>exact (isD_cut G C hx hy).mpr h
theorem btw_cut {n:Int}{ps:List Int}{ts:List T3}(G:GW n ts)(C:Cvx ts n ps){x y p:Int}(hx:x∈ps)(hy:y∈ps)(hp:p∈ps):Btw (cutT ps ts) (ixP ps x) (ixP ps y) (ixP ps p)↔Btw ts x y p:=by
 constructor
 . rintro ⟨a,b,h1,h2,h3⟩
   exact⟨a,b,(isD_cut G C hx hp).mp h1,(isD_cut G C hp hy).mp h2,(isD_cut G C hx hy).mp h3⟩
 . rintro ⟨a,b,h1,h2,h3⟩
   exact⟨a,b,(isD_cut G C hx hp).mpr h1,(isD_cut G C hp hy).mpr h2,(isD_cut G C hx hy).mpr h3⟩
theorem btw_at {ps:List Int}{ts:List T3}{x:Int}{j q:Int}(hx:x∈ps)(h:Btw (cutT ps ts) (ixP ps x) j q):∃p∈ps,ixP ps p=q:=by
 obtain⟨a,b,h1,_⟩:=h
 obtain⟨y,hy,e,_⟩:=way_back h1.1 x hx rfl
 exact⟨y,hy,e⟩
theorem nxt_cut {n:Int}{ps:List Int}{ts:List T3}(G:GW n ts)(C:Cvx ts n ps){x y p:Int}(hx:x∈ps)(hy:y∈ps)(hp:p∈ps):Nxt (cutT ps ts) (ixP ps x) (ixP ps y) (ixP ps p)↔Nxt ts x y p:=by
 constructor
 . rintro ⟨l,b,h1,h2,h3⟩
   obtain⟨x',p',hx',hp',e1,e2,h1⟩:=adj_cut' h1
   rw[ix_inj hx' hx e1,ix_inj hp' hp e2] at h1
   exact⟨l,b,h1,(isD_cut G C hp hy).mp h2,(isD_cut G C hx hy).mp h3⟩
 . rintro ⟨l,b,h1,h2,h3⟩
   exact⟨l,b,adj_cut hx hp h1,(isD_cut G C hp hy).mpr h2,(isD_cut G C hx hy).mpr h3⟩
theorem nxt_in {n:Int}{ps:List Int}{ts:List T3}(G:GW n ts)(C:Cvx ts n ps){x y p:Int}(hx:x∈ps)(hy:y∈ps)(h:Nxt ts x y p):p∈ps:=C.cv x hx y hy p (nxt_btw G h)
theorem minO_cut {n:Int}{ps:List Int}{ts:List T3}(G:GW n ts)(C:Cvx ts n ps){x y:Int}(hx:x∈ps)(hy:y∈ps):∀{o:Option Int},MinO (Nxt ts x y) o->MinO (Nxt (cutT ps ts) (ixP ps x) (ixP ps y)) (o.map (ixP ps))
 | none,h=>fun q hq=>by
  obtain⟨l,b,ha,_⟩:=id hq
  obtain⟨_,p,_,hp,_,e,_⟩:=adj_cut' ha
  rw[<-e] at hq
  exact h p ((nxt_cut G C hx hy hp).mp hq)
 | some m,h=>by
  have hm:=nxt_in G C hx hy h.1
  refine⟨(nxt_cut G C hx hy hm).mpr h.1,fun q hq=>?_⟩
  obtain⟨l,b,ha,_⟩:=id hq
  obtain⟨_,p,_,hp,_,e,_⟩:=adj_cut' ha
  rw[<-e] at hq ⊢
  exact ix_le C.pr hm hp (h.2 p ((nxt_cut G C hx hy hp).mp hq))
def cutO (ps os:List Int):List Int:=(os.filter fun p=>decide (p∈ps)).map (ixP ps)
theorem nodup_le:∀{l l':List Int},l.Nodup->(∀x∈l,x∈l')->l.length<=l'.length
 | [],_,_,_=>Nat.zero_le _
 | x::l,l',nd,h=>by
  obtain⟨h1,h2⟩:=List.nodup_cons.mp nd
  have hx:=h x List.mem_cons_self
  have:=nodup_le (l:=l) (l':=l'.erase x) h2 fun y hy=>(List.mem_erase_of_ne (fun z=>h1 (by rw[<-z];exact hy))).mpr (h y (List.mem_cons_of_mem _ hy))
  rw[List.length_erase_of_mem hx] at this
  have:=List.length_pos_of_mem hx
  rw[List.length_cons]
  omega
theorem ordr_cut {n:Int}{ps os:List Int}(O:Ordr n os)(P:Prt n ps):Ordr (ps.length:Int) (cutO ps os):=by
 have nd:(os.filter fun p=>decide (p∈ps)).Nodup:=O.nd.filter _
 have mem:∀x,x∈(os.filter fun p=>decide (p∈ps))↔x∈ps:=fun x=>by
  rw[List.mem_filter]
  constructor
  . exact fun h=>of_decide_eq_true h.2
  . intro h
    have:=P.rng x h
    exact⟨O.mem this.1 this.2,decide_eq_true h⟩
 refine⟨?_,?_,fun q hq=>?_⟩
 . unfold cutO
   rw[List.length_map]
   have a:=nodup_le nd fun x hx=>(mem x).mp hx
   have b:=nodup_le P.nd fun x hx=>(mem x).mpr hx
   omega
 . unfold cutO
   rw[List.Nodup,List.pairwise_map]
   refine List.Pairwise.imp_of_mem (fun {a b} ha hb hne e=>hne (ix_inj ((mem a).mp ha) ((mem b).mp hb) e)) nd
 . unfold cutO at hq
   obtain⟨p,hp,rfl⟩:=List.mem_map.mp hq
   have:=ix_in ((mem p).mp hp)
   exact⟨this.1,this.2.1⟩
theorem rk_pair {n:Int}{os:List Int}{rk:Int->Int}(O:Ordr n os)(R:RkOf n os rk):os.Pairwise fun x y=>rk x<rk y:=by
 rw[List.pairwise_iff_getElem]
 intro i j hi hj hij
 have key:∀(k:Nat)(hk:k<os.length),rk os[k]=k:=fun k hk=>by
  obtain⟨r0,r1⟩:=R os[k] (O.rng _ (List.getElem_mem hk)).1 (O.rng _ (List.getElem_mem hk)).2
  obtain⟨h1,e⟩:=List.getElem?_eq_some_iff.mp r1
  have:=(List.getElem_inj O.nd).mp e
  omega
 rw[key i hi,key j hj]
 omega
theorem rk_cut {n:Int}{ps os:List Int}{rk rk':Int->Int}(O:Ordr n os)(P:Prt n ps)(R:RkOf n os rk)(R':RkOf (ps.length:Int) (cutO ps os) rk'){p q:Int}(hp:p∈ps)(hq:q∈ps)(h:rk' (ixP ps p)<rk' (ixP ps q)):rk p<rk q:=by
 have ip:=ix_in hp
 have iq:=ix_in hq
 obtain⟨a0,a1⟩:=R' _ ip.1 ip.2.1
 obtain⟨b0,b1⟩:=R' _ iq.1 iq.2.1
 unfold cutO at a1 b1
 rw[List.getElem?_map] at a1 b1
 have pr:=(rk_pair O R).filter fun p=>decide (p∈ps)
 have mem:∀x,x∈(os.filter fun p=>decide (p∈ps))->x∈ps:=fun x hx=>of_decide_eq_true (List.mem_filter.mp hx).2
 generalize (os.filter fun p=>decide (p∈ps))=F at a1 b1 pr mem
 cases e1:F[(rk' (ixP ps p)).toNat]? with
 | none=>rw[e1] at a1;cases a1
 | some u=>
  cases e2:F[(rk' (ixP ps q)).toNat]? with
  | none=>rw[e2] at b1;cases b1
  | some v=>
   rw[e1] at a1
   rw[e2] at b1
   have eu:=ix_inj (mem u (List.mem_of_getElem? e1)) hp (Option.some.inj a1)
   have ev:=ix_inj (mem v (List.mem_of_getElem? e2)) hq (Option.some.inj b1)
   obtain⟨i1,z1⟩:=List.getElem?_eq_some_iff.mp e1
   obtain⟨i2,z2⟩:=List.getElem?_eq_some_iff.mp e2
   have:=List.pairwise_iff_getElem.mp pr _ _ i1 i2 (by omega)
   rw[z1,z2,eu,ev] at this
   exact this
theorem rk_le {n:Int}{ps os:List Int}{rk rk':Int->Int}(O:Ordr n os)(P:Prt n ps)(R:RkOf n os rk)(R':RkOf (ps.length:Int) (cutO ps os) rk'){p q:Int}(hp:p∈ps)(hq:q∈ps):rk' (ixP ps p)<=rk' (ixP ps q)↔rk p<=rk q:=by
 constructor
 . intro h
   by_cases e:rk' (ixP ps p)=rk' (ixP ps q)
   . have ip:=ix_in hp
     have iq:=ix_in hq
     obtain⟨a0,a1⟩:=R' _ ip.1 ip.2.1
     obtain⟨b0,b1⟩:=R' _ iq.1 iq.2.1
     rw[e,b1] at a1
     rw[ix_inj hp hq (Option.some.inj a1).symm]
     exact Int.le_refl _
   . have:=rk_cut O P R R' hp hq (by omega)
     omega
 . intro h
   apply Classical.byContradiction
   intro hn
   have:=rk_cut O P R R' hq hp (by omega)
   omega
theorem hub_cut {n:Int}{ps os:List Int}{ts:List T3}{rk rk':Int->Int}(G:GW n ts)(C:Cvx ts n ps)(O:Ordr n os)(R:RkOf n os rk)(R':RkOf (ps.length:Int) (cutO ps os) rk'){h v:Int}(hh:h∈ps)(hv:v∈ps):HubOf (cutT ps ts) rk' (ixP ps h) (ixP ps v)↔HubOf ts rk h v:=by
 constructor
 . rintro ⟨⟨d,hd⟩,hm⟩
   refine⟨⟨d,(isD_cut G C hh hv).mp hd⟩,fun p hp=>?_⟩
   have ip:=C.cv h hh v hv p hp
   exact (rk_le O C.pr R R' hh ip).mp (hm _ ((btw_cut G C hh hv ip).mpr hp))
 . rintro ⟨⟨d,hd⟩,hm⟩
   refine⟨⟨d,(isD_cut G C hh hv).mpr hd⟩,fun q hq=>?_⟩
   obtain⟨p,ip,e⟩:=btw_at hh hq
   rw[<-e] at hq ⊢
   exact (rk_le O C.pr R R' hh ip).mpr (hm _ ((btw_cut G C hh hv ip).mp hq))
def cutE (ps:List Int)(e:En):En:=⟨ixP ps e.h,e.l,e.u.map (ixP ps),e.d.map (ixP ps)⟩
def cutL (ps:List Int)(es:List En):List En:=(es.filter fun e=>decide (e.h∈ps)).map (cutE ps)
def cutLs (ps:List Int)(ess:List (List En)):List (List En):=ps.map fun p=>cutL ps (ess.getD p.toNat [])
theorem ent_cut {n:Int}{ps os:List Int}{ts:List T3}{rk rk':Int->Int}(G:GW n ts)(C:Cvx ts n ps)(O:Ordr n os)(R:RkOf n os rk)(R':RkOf (ps.length:Int) (cutO ps os) rk'){v:Int}(hv:v∈ps){e:En}(E:EntOf ts n rk v e)(he:e.h∈ps):EntOf (cutT ps ts) (ps.length:Int) rk' (ixP ps v) (cutE ps e):=by
 have ih:=ix_in he
 exact⟨⟨ih.1,ih.2.1⟩,(hub_cut G C O R R' he hv).mpr E.hub,(isD_cut G C hv he).mpr E.len,minO_cut G C hv he E.up,minO_cut G C he hv E.dn⟩
theorem lab_cut {n:Int}{ps os:List Int}{ts:List T3}{rk rk':Int->Int}(G:GW n ts)(C:Cvx ts n ps)(O:Ordr n os)(R:RkOf n os rk)(R':RkOf (ps.length:Int) (cutO ps os) rk'){v:Int}(hv:v∈ps){es:List En}(L:LabOf ts n rk v es):LabOf (cutT ps ts) (ps.length:Int) rk' (ixP ps v) (cutL ps es):=by
 refine⟨?_,fun e' he'=>?_,fun h h0 h1 hh=>?_,?_⟩
 . unfold Hub cutL
   rw[List.pairwise_map]
   refine List.Pairwise.imp_of_mem (fun {a b} ha hb hlt=>?_) (L.hub.filter _)
   exact (ix_lt C.pr (of_decide_eq_true (List.mem_filter.mp ha).2) (of_decide_eq_true (List.mem_filter.mp hb).2)).mpr hlt
 . unfold cutL at he'
   obtain⟨e,he,rfl⟩:=List.mem_map.mp he'
   obtain⟨h1,h2⟩:=List.mem_filter.mp he
   exact ent_cut G C O R R' hv (L.ent e h1) (of_decide_eq_true h2)
 . have hl:h.toNat<ps.length:=by omega
   have hm:ps[h.toNat]∈ps:=List.getElem_mem hl
   have ei:ixP ps ps[h.toNat]=h:=by
    rw[ix_at C.pr.nd (List.getElem?_eq_getElem hl)]
    omega
   rw[<-ei] at hh
   have hh':=(hub_cut G C O R R' hm hv).mp hh
   obtain⟨e,he,eh⟩:=L.all _ (C.pr.rng _ hm).1 (C.pr.rng _ hm).2 hh'
   refine⟨cutE ps e,List.mem_map.mpr ⟨e,List.mem_filter.mpr ⟨he,decide_eq_true (by rw[eh];exact hm)⟩,rfl⟩,?_⟩
   show ixP ps e.h=h
   rw[eh,ei]
 . unfold cutL
   rw[List.length_map]
   exact Nat.le_trans (List.length_filter_le _ _) L.len
theorem labs_cut {n:Int}{ps os:List Int}{ts:List T3}{rk rk':Int->Int}{ess:List (List En)}(G:GW n ts)(C:Cvx ts n ps)(O:Ordr n os)(R:RkOf n os rk)(R':RkOf (ps.length:Int) (cutO ps os) rk')(L:LabsOf ts n rk ess):LabsOf (cutT ps ts) (ps.length:Int) rk' (cutLs ps ess):=by
 refine⟨by unfold cutLs;rw[List.length_map];rfl,fun i es hi=>?_⟩
 unfold cutLs at hi
 rw[List.getElem?_map] at hi
 cases e:ps[i]? with
 | none=>rw[e] at hi;cases hi
 | some p=>
  rw[e] at hi
  have e1:=Option.some.inj hi
  subst e1
  have hp:=List.mem_of_getElem? e
  have hr:=C.pr.rng p hp
  have hl:p.toNat<ess.length:=by rw[L.1];omega
  rw[<-ix_at C.pr.nd e]
  refine lab_cut G C O R R' hp ?_
  have:=L.2 p.toNat _ (List.getElem?_eq_getElem hl)
  rw[Int.toNat_of_nonneg hr.1] at this
  rw[List.getD_eq_getElem?_getD,List.getElem?_eq_getElem hl]
  exact this
def CutOk (ps:List Int)(ess:List (List En)):Prop:=∀p∈ps,0<=p/\p.toNat<ess.length/\∀e∈ess.getD p.toNat [],e.h∈ps->(e.l=0/\e.u=none/\e.d=none)\/(e.l≠0/\∃a b,e.u=some a/\e.d=some b/\a∈ps/\b∈ps)
theorem cut_ok {n:Int}{ps:List Int}{ts:List T3}{rk:Int->Int}{ess:List (List En)}(G:GW n ts)(C:Cvx ts n ps)(L:LabsOf ts n rk ess):CutOk ps ess:=by
 intro p hp
 have hr:=C.pr.rng p hp
 have hl:p.toNat<ess.length:=by rw[L.1];omega
 refine⟨hr.1,hl,fun e he hin=>?_⟩
 have LL:=L.2 p.toNat _ (List.getElem?_eq_getElem hl)
 rw[Int.toNat_of_nonneg hr.1] at LL
 rw[List.getD_eq_getElem?_getD,List.getElem?_eq_getElem hl,Option.getD_some] at he
 have E:=LL.ent e he
 by_cases z:e.l=0
 . have ev:=(isD_zero G E.len).mp z
   refine .inl ⟨z,?_,?_⟩
   . cases u:e.u with
     | none=>rfl
     | some m=>have:=E.up;rw[u] at this;exact absurd ev (Nxt.ne G this.1)
   . cases u:e.d with
     | none=>rfl
     | some m=>have:=E.dn;rw[u] at this;exact absurd ev.symm (Nxt.ne G this.1)
 . have ne:p≠e.h:=fun q=>z ((isD_zero G E.len).mpr q)
   obtain⟨a,ha⟩:=Nxt.exists G E.len ne
   obtain⟨b,hb⟩:=Nxt.exists G E.len.symm (Ne.symm ne)
   obtain⟨a',ea,ha'⟩:=E.up.some_of ha
   obtain⟨b',eb,hb'⟩:=E.dn.some_of hb
   exact .inr ⟨z,a',b',ea,eb,nxt_in G C hp hin ha',nxt_in G C hin hp hb'⟩
def atP (ps:List Int)(i:Int):Int:=ps.getD i.toNat 0
theorem atP_get {ps:List Int}{i:Int}(h0:0<=i)(h1:i<ps.length):ps[i.toNat]? = some (atP ps i):=by
 have hl:i.toNat<ps.length:=by omega
 unfold atP
 rw[List.getD_eq_getElem?_getD,List.getElem?_eq_getElem hl];rfl
theorem atP_ix {ps:List Int}{p:Int}(h:p∈ps):atP ps (ixP ps p)=p:=by
 have:=ix_in h
 unfold atP
 rw[List.getD_eq_getElem?_getD,this.2.2];rfl
theorem comp_mem {ps ws:List Int}(nd:ps.Nodup)(W:Prt (ps.length:Int) ws){u:Int}:u∈ws.map (atP ps)↔u∈ps/\ixP ps u∈ws:=by
 rw[List.mem_map]
 constructor
 . rintro ⟨i,hi,rfl⟩
   have r:=W.rng i hi
   have g:=atP_get r.1 r.2
   refine⟨List.mem_of_getElem? g,?_⟩
   rw[ix_at nd g,Int.toNat_of_nonneg r.1]
   exact hi
 . rintro ⟨h1,h2⟩
   exact⟨_,h2,atP_ix h1⟩
theorem prt_comp {n:Int}{ps ws:List Int}(P:Prt n ps)(W:Prt (ps.length:Int) ws):Prt n (ws.map (atP ps)):=by
 refine⟨?_,fun u hu=>P.rng u ((comp_mem P.nd W).mp hu).1,by intro e;exact W.ne (List.map_eq_nil_iff.mp e)⟩
 rw[List.pairwise_map]
 refine List.Pairwise.imp_of_mem (fun {i j} hi hj hlt=>?_) W.ri
 have ri:=W.rng i hi
 have rj:=W.rng j hj
 have gi:=atP_get ri.1 ri.2
 have gj:=atP_get rj.1 rj.2
 refine (ix_lt P (List.mem_of_getElem? gi) (List.mem_of_getElem? gj)).mp ?_
 rw[ix_at P.nd gi,ix_at P.nd gj]
 omega
theorem cvx_comp {n:Int}{ps ws:List Int}{ts:List T3}(G:GW n ts)(C:Cvx ts n ps)(W:Cvx (cutT ps ts) (ps.length:Int) ws):Cvx ts n (ws.map (atP ps)):=by
 refine⟨prt_comp C.pr W.pr,fun x hx y hy p hp=>?_⟩
 obtain⟨x1,x2⟩:=(comp_mem C.pr.nd W.pr).mp hx
 obtain⟨y1,y2⟩:=(comp_mem C.pr.nd W.pr).mp hy
 have hp':=C.cv x x1 y y1 p hp
 exact (comp_mem C.pr.nd W.pr).mpr ⟨hp',W.cv _ x2 _ y2 _ ((btw_cut G C x1 y1 hp').mpr hp)⟩
theorem ix_comp {ps ws:List Int}(nd:ps.Nodup)(W:Prt (ps.length:Int) ws)(u:Int):ixP ws (ixP ps u)=ixP (ws.map (atP ps)) u:=by
 by_cases h:u∈ws.map (atP ps)
 . obtain⟨h1,h2⟩:=(comp_mem nd W).mp h
   have a:=ix_in h2
   have:(ws.map (atP ps))[(ixP ws (ixP ps u)).toNat]? = some u:=by
    rw[List.getElem?_map,a.2.2]
    show some (atP ps (ixP ps u))=_
    rw[atP_ix h1]
   have nd2:(ws.map (atP ps)).Nodup:=by
    rw[List.Nodup,List.pairwise_map]
    refine List.Pairwise.imp_of_mem (fun {i j} hi hj hlt e=>?_) W.ri
    have ri:=W.rng i hi
    have rj:=W.rng j hj
    have gi:=atP_get ri.1 ri.2
    have gj:=atP_get rj.1 rj.2
    rw[e] at gi
    have:=ix_at nd gi
    have:=ix_at nd gj
    omega
   rw[ix_at nd2 this]
   omega
 . have h2:ixP ps u∉ws:=fun z=>by
    refine h ((comp_mem nd W).mpr ⟨?_,z⟩)
    have:=(W.rng _ z).2
    unfold ixP at this
    exact List.idxOf_lt_length_iff.mp (by omega)
   unfold ixP at h2 ⊢
   rw[List.idxOf_eq_length h,List.idxOf_eq_length h2,List.length_map]
theorem cutL_comp {ps ws:List Int}(nd:ps.Nodup)(W:Prt (ps.length:Int) ws)(es:List En):cutL ws (cutL ps es)=cutL (ws.map (atP ps)) es:=by
 unfold cutL
 rw[List.filter_map,List.map_map,List.filter_filter]
 have e1:(fun e:En=>decide ((cutE ps e).h∈ws) && decide (e.h∈ps))=fun e:En=>decide (e.h∈ws.map (atP ps)):=by
  funext e
  have:=comp_mem nd W (u:=e.h)
  by_cases c:e.h∈ws.map (atP ps)
  . obtain⟨a,b⟩:=this.mp c
    rw[decide_eq_true c,decide_eq_true a,decide_eq_true (show (cutE ps e).h∈ws from b)];rfl
  . rw[decide_eq_false c]
    by_cases a:e.h∈ps
    . rw[decide_eq_false (show ¬ (cutE ps e).h∈ws from fun b=>c (this.mpr ⟨a,b⟩))];rfl
    . rw[decide_eq_false a,Bool.and_false]
 have e2:cutE ws∘cutE ps=cutE (ws.map (atP ps)):=by
  funext e
  obtain⟨h,l,u,d⟩:=e
  show (⟨ixP ws (ixP ps h),l,(u.map (ixP ps)).map (ixP ws),(d.map (ixP ps)).map (ixP ws)⟩:En)=⟨ixP (ws.map (atP ps)) h,l,u.map (ixP (ws.map (atP ps))),d.map (ixP (ws.map (atP ps)))⟩
  have f:(ixP ws∘ixP ps)=ixP (ws.map (atP ps)):=funext fun u=>ix_comp nd W u
  rw[Option.map_map,Option.map_map,f,ix_comp nd W h]
 rw[e2]
 congr 1
 exact congrArg (fun f=>es.filter f) e1
theorem cutLs_comp {ps ws:List Int}(nd:ps.Nodup)(W:Prt (ps.length:Int) ws)(ess:List (List En)):cutLs ws (cutLs ps ess)=cutLs (ws.map (atP ps)) ess:=by
 unfold cutLs
 rw[List.map_map]
 refine List.map_congr_left fun i hi=>?_
 have r:=W.rng i hi
 have g:=atP_get r.1 r.2
 show cutL ws ((ps.map fun p=>cutL ps (ess.getD p.toNat [])).getD i.toNat [])=cutL (ws.map (atP ps)) (ess.getD (atP ps i).toNat [])
 rw[List.getD_eq_getElem?_getD,List.getElem?_map,g]
 exact cutL_comp nd W _
end K68
namespace K68
open PySem L2 WM
section
variable {X:Cx}{pl:List (Addr×Obj)}{N':List Str}{sc:Scope}{fp:List Addr}{s3:Shared}{H3:Hp}
theorem op_inC:OpR (cxComp X pl N' sc fp s3 H3) (compareOp .In) (rIn X.K false):=op_in_seq
end
theorem idx_of {ps:List Int}(nd:ps.Nodup){v:Int}(h:v∈ps):∃i:Nat,ps[i]? = some v/\(∀j,j<i->ps[j]?≠some v)/\(i:Int)=ixP ps v:=by
 have a:=ix_in h
 refine⟨(ixP ps v).toNat,a.2.2,fun j hj e=>?_,by omega⟩
 have:=ix_at nd e
 omega
theorem int_at {ps:List Int}{i:Nat}{v:V}(h:(ps.map V.int)[i]? = some v):∃p,ps[i]? = some p/\V.int p=v:=by
 rw[List.getElem?_map] at h
 cases e:ps[i]? with
 | none=>rw[e] at h;cases h
 | some p=>rw[e] at h;exact⟨p,rfl,Option.some.inj h⟩
theorem all_rep (m:Nat):(List.replicate m true).all id=true:=by
 induction m with
 | zero=>rfl
 | succ m ih=>rw[List.replicate_succ,List.all_cons,ih];rfl
def spNtie:Sp:=fun vs H Q _=>∃(pa ya:Addr)(ps:List Int)(t:T3),vs=[.ref pa,.ref ya]/\H pa=some (.tup (ps.map V.int))/\H ya=some (.tup ((tl t).map V.int))/\ps.Nodup/\t.1∈ps/\t.2.1∈ps/\∀(q:Addr)(H':Hp),Same H H'->H' q=some (.tup ((tl (newT ps t)).map V.int))->Q (.ref q) H'
def spHold:Sp:=fun vs H Q _=>∃(rl pa:Addr)(rs:List Addr)(M:List (List (Option Int)))(n x:Int)(ts:List T3)(ps:List Int),vs=[.ref rl,.ref pa,.int x]/\H rl=some (.tup (rs.map V.ref))/\RowsAt H rs M/\Rows ts n M/\GW n ts/\H pa=some (.tup (ps.map V.int))/\Cvx ts n ps/\x∈ps/\∀H',Same H H'->Q (.bl true) H'
def spIsP (PT:Addr):Sp:=fun vs H Q _=>∃(wa pa:Addr)(n:Int)(ts:List T3)(ps:List Int),vs=[.ref wa,.ref pa]/\WebAt H wa n ts/\H pa=some (.tup (ps.map V.int))/\Cvx ts n ps/\Tb H PT/\∀H',SmT H H'->Tb H' PT->Q (.bl true) H'
def spPweb (PT:Addr):Sp:=fun vs H Q _=>∃(wa pa:Addr)(n:Int)(ts:List T3)(ps:List Int),vs=[.ref wa,.ref pa]/\WebAt H wa n ts/\H pa=some (.tup (ps.map V.int))/\Cvx ts n ps/\Tb H PT/\∀(wb:Addr)(H':Hp),SmT H H'->Tb H' PT->WebAt H' wb (ps.length:Int) (cutT ps ts)->Q (.ref wb) H'
def spPord:Sp:=fun vs H Q _=>∃(oa pa:Addr)(n:Int)(os ps:List Int),vs=[.ref oa,.ref pa]/\H oa=some (.tup (os.map V.int))/\H pa=some (.tup (ps.map V.int))/\os.length<=24/\Prt n ps/\∀(ob:Addr)(H':Hp),Same H H'->H' ob=some (.tup ((cutO ps os).map V.int))->Q (.ref ob) H'
section
variable {P:Program}{w:World}{K:PySem.W.Frag}{mg:Str->Option Value}{base:Heap}{PT:Addr}
theorem scNtie:FnScope ["places", "tie"] ["places", "tie"] (defScope sNtie):=⟨rfl,rfl,rfl,by decide +kernel,rfl,by decide +kernel,by decide +kernel⟩
theorem ok_ntie {f:Addr}{fd':FuncData}(F:Fun K "new_tie" "new_tie" sNtie f fd'):FnOk P w K mg base CX0 1 f fd' ["places", "tie"] spNtie:=by
 refine F.ok scNtie (fun vs H Q E h=>?_) (fun cdv A outer s H vs Q E hr h=>?_)
 . obtain⟨pa,ya,ps,t,rfl,_⟩:=h
   rfl
 . obtain⟨pa,ya,ps,t,rfl,hpa,hya,nd,h1,h2,k⟩:=h
   refine⟨_,pss_one (ps_ret (pe_tup (pa_cons (pe_bmT PySem.F.slot_tuple_index PySem.F.type_tuple_index mt_index (pv 0) (pa_cons (pe_ix ix_tup (pv 1) pe_int (fun _ _=>rfl)) pa_nil))
    (pa_cons (pe_bmT PySem.F.slot_tuple_index PySem.F.type_tuple_index mt_index (pv 0) (pa_cons (pe_ix ix_tup (pv 1) pe_int (fun _ _=>rfl)) pa_nil)) (pa_cons (pe_ix ix_tup (pv 1) pe_int (fun _ _=>rfl)) pa_nil))))),?_⟩
   obtain⟨i,hi,ni,ei⟩:=idx_of nd h1
   obtain⟨j,hj,nj,ej⟩:=idx_of nd h2
   refine⟨_,rfl,⟨pa,_,rfl,hpa⟩,_,rfl,ya,_,_,.int t.1,rfl,rfl,SqT.of hya,rfl,pa,ps,i,t.1,rfl,rfl,SqT.of hpa,hi,ni,?_⟩
   refine⟨_,rfl,⟨pa,_,rfl,hpa⟩,_,rfl,ya,_,_,.int t.2.1,rfl,rfl,SqT.of hya,rfl,pa,ps,j,t.2.1,rfl,rfl,SqT.of hpa,hj,nj,?_⟩
   refine⟨_,rfl,ya,_,_,.int t.2.2,rfl,rfl,SqT.of hya,rfl,by show 3<=sizeLine;decide,fun q hq=>?_⟩
   rw[ei,ej]
   exact k q _ (same_laid hq) upd_same
theorem scHold:FnScope ["rows", "places", "one", "other"] ["rows", "places", "one"] (defScope sHold):=⟨rfl,rfl,rfl,by decide +kernel,rfl,by decide +kernel,by decide +kernel⟩
theorem ok_hold {f fB:Addr}{fd' fdB:FuncData}(F:Fun K "holds_ways_from" "holds_ways_from" sHold f fd') (FB:Fun K "between_rows" "between_rows" sBwr fB fdB) (bB:Binds K fdB ["here", "there", "other"] []) (mB:mg "between_rows" = some (.ref fB)) (mRange:mg "range" = none) (mTuple:mg "tuple" = none) (mLen:mg "len" = none) (mAll:mg "all" = none) :
 FnOk P w K mg base CX0 2 f fd' ["rows", "places", "one"] spHold:=by
 have GB:FnOk P w K mg base CX0 1 fB fdB ["here", "there", "other"] spBwr:=ok_bwr FB mRange mTuple mLen
 refine F.ok scHold (fun vs H Q E h=>?_) (fun cdv A outer s H vs Q E hr h=>?_)
 . obtain⟨rl,pa,rs,M,n,x,ts,ps,rfl,_⟩:=h
   rfl
 . obtain⟨rl,pa,rs,M,n,x,ts,ps,rfl,hrl,RA,RR,G,hpa,C,hx,k⟩:=h
   refine⟨_,pss_cons (ps_for PassesOwn.never rfl (pi_tup (pv 1)) (pg_name (i:=3) scHold.nd rfl (Or.inl rfl))
    (pss_one (ps_if (pt_not (pt_val (pe_callB (call_all rfl) (by rfl) mAll (by decide +kernel) (pa_cons (pe_comp (own:=["place"]) (cn:=["places"]) (ci:=[1]) rfl (csc rfl rfl) ⟨rfl,rfl,rfl,trivial⟩ rfl
     (pi_tup (pe_call GB hr rfl mB FB.kp bB .nil pass0 (pa_cons (pe_ix ix_tup (pv 0) (pv 2) (fun _ _=>rfl)) (pa_cons (pe_ix ix_tup (pv 0) (pv 3) (fun _ _=>rfl)) (pa_cons (pv 3) pa_nil))))) (fun _ _ _ _=>pg_name (i:=0) (nd_of rfl) rfl (Or.inl rfl))
     (fun _ _ _ _=>pts_nil) (fun _ _ _ _=>pe_cmpR op_inC (pv 0) (pv 1) (by with_unfolding_all rfl))) pa_nil)))) (pss_one (ps_ret pe_bl)) pss_nil)))
    (pss_one (ps_ret pe_bl)),?_⟩
   have xr:=C.pr.rng x hx
   have hn24:=G.n24
   refine⟨_,rfl,pa,rfl,⟨_,SqT.of hpa⟩,for_tup (K:=K) (a:=pa) (xs:=ps.map V.int) (fun i σ H2=>∃va:Option V,σ=[some (.ref rl),some (.ref pa),some (.int x),va]/\Same H H2)
    ⟨none,rfl,Same.refl _⟩ (fun i σ H2 _ ⟨_,_,s2⟩=>SqT.of (s2 _ _ hpa)) ?turn ?after⟩
   case turn=>
    rintro i v σ H2 hi ⟨va,rfl,s2⟩
    obtain⟨y,hy,rfl⟩:=int_at hi
    have hy':=List.mem_of_getElem? hy
    have yr:=C.pr.rng y hy'
    have RA2:RowsAt H2 rs M:=⟨RA.1,fun i r row a b=>s2 _ _ (RA.2 i r row a b)⟩
    obtain⟨rh,gh,hh,Lh⟩:=RA2.at RR xr.1 xr.2
    obtain⟨rv,gv,hv,Lv⟩:=RA2.at RR yr.1 yr.2
    have hrl2:=s2 _ _ hrl
    refine⟨_,rfl,_,rfl,rl,_,_,.ref rh,rfl,rfl,SqT.of hrl2,atI_in xr.1 gh,_,rfl,_,rfl,rl,_,_,.ref rv,rfl,rfl,SqT.of hrl2,atI_in yr.1 gv,_,rfl,rh,rv,n,ts,x,y,_,_,rfl,G,xr.1,xr.2,yr.1,yr.2,hh,hv,Lh,Lv,fun l xs H3 s3 hl hrise hmem=>?_⟩
    have hxl:xs.length<=24:=by
     have:=nd_len (n:=n.toNat) (l:=xs) (hrise.imp fun z=>by omega) fun p hp=>by
      obtain⟨a,b,ia,_⟩:=(hmem p).mp hp
      have:=ia.1.in_ G xr.1 xr.2
      omega
     omega
    refine⟨l,rfl,⟨_,SqT.of hl⟩,[.ref pa],rfl,fun D hD=>?_⟩
    have hpa3:=s3 _ _ (s2 _ _ hpa)
    refine comp_tup (a:=l) (xs:=xs.map V.int) (fun q ys H4=>q<=xs.length/\ys=(List.replicate q true).map V.bl/\H4=upd H3 D (.lst ys)) ⟨Nat.zero_le _,rfl,rfl⟩ (fun q ys H4 z=>?_) (fun q ys H4 z=>?_) (fun q v ys H4 hv z=>?_) (fun ys H4 z=>?_)
    . obtain⟨_,rfl,rfl⟩:=z
      exact SqT.of (same_laid hD _ _ hl)
    . obtain⟨hq,rfl,_⟩:=z
      rw[List.length_map,List.length_replicate]
      exact small_line (by omega)
    . obtain⟨_,rfl,rfl⟩:=z
      obtain⟨p,hp,rfl⟩:=int_at hv
      have hql:=(List.getElem?_eq_some_iff.mp hp).1
      have hin:p∈ps:=C.cv x hx y hy' p ((hmem p).mp (List.mem_of_getElem? hp))
      refine⟨⟨rfl,rfl⟩,?_⟩
      refine tyes ?_
      refine⟨_,rfl,_,rfl,pa,_,rfl,.inr (SqT.of (same_laid hD _ _ hpa3)),rfl,flat_ints _,upd_same,by omega,?_,upd_upd⟩
      rw[List.replicate_succ',List.map_append]
      show _++[V.bl (inV (.int p) (ps.map V.int))]=_
      rw[inV_ints,decide_eq_true hin];rfl
    . obtain⟨_,rfl,rfl⟩:=z
      refine⟨D,_,rfl,SqL.of upd_same,true,by rw[all_rep],iteF ?_⟩
      exact⟨_,rfl,s2.trans (s3.trans (same_laid hD))⟩
   case after=>
    rintro σ H2 ⟨va,rfl,s2⟩
    exact k H2 s2
theorem scIsP:FnScope ["web", "thing", "rows"] ["web", "thing"] (defScope sIsP):=⟨rfl,rfl,rfl,by decide +kernel,rfl,by decide +kernel,by decide +kernel⟩
theorem Prt.posts {n:Int}{ps:List Int}(h:Prt n ps):PostsOk n ps:=⟨h.ne,by have:=h.len;omega,h.rng,h.ri⟩
theorem ok_isP {f fA fL fH:Addr}{fd' fdA fdL fdH:FuncData}(F:Fun K "is_part" "is_part" sIsP f fd') (FA:Fun K "are_places" "are_places" sArp fA fdA) (bA:Binds K fdA ["n", "thing"] []) (mA:mg "are_places" = some (.ref fA)) (GA:FnOk P w K mg base CX0 5 fA fdA ["n", "thing"] spArp)
 (FL:Fun K "lengths" "lengths" sLens fL fdL) (bL:Binds K fdL ["web"] []) (mL:mg "lengths" = some (.ref fL)) (GL:FnOk P w K mg base CX0 5 fL fdL ["web"] (spLens PT))
 (FH:Fun K "holds_ways_from" "holds_ways_from" sHold fH fdH) (bH:Binds K fdH ["rows", "places", "one"] []) (mH:mg "holds_ways_from" = some (.ref fH)) (GH:FnOk P w K mg base CX0 5 fH fdH ["rows", "places", "one"] spHold) (mAll:mg "all" = none) :
 FnOk P w K mg base CX0 6 f fd' ["web", "thing"] (spIsP PT):=by
 refine F.ok scIsP (fun vs H Q E h=>?_) (fun cdv A outer s H vs Q E hr h=>?_)
 . obtain⟨wa,pa,n,ts,ps,rfl,_⟩:=h
   rfl
 . obtain⟨wa,pa,n,ts,ps,rfl,W,hpa,C,TT,k⟩:=h
   obtain⟨ta,tys,hwa,hta,TA,G⟩:=id W
   have hn24:=G.n24
   have hpl:=C.pr.len
   refine⟨_,pss_cons (ps_if (pt_not (pt_val (pe_call GA hr rfl mA FA.kp bA .nil pass0 (pa_cons (pe_ix ix_tup (pv 0) pe_int (fun _ _=>rfl)) (pa_cons (pv 1) pa_nil))))) (pss_one (ps_ret pe_bl)) pss_nil)
    (pss_cons (ps_set (i:=2) scIsP.nd rfl (Or.inr rfl) (pe_call GL hr rfl mL FL.kp bL .nil pass0 (pa_cons (pv 0) pa_nil)))
    (pss_one (ps_ret (pe_callB (call_all rfl) (by rfl) mAll (by decide +kernel) (pa_cons (pe_comp (own:=["place"]) (cn:=["rows", "thing"]) (ci:=[2,1]) rfl (csc rfl rfl) ⟨rfl,rfl,rfl,rfl,rfl,rfl,trivial⟩ rfl
     (pi_tup (pv 1)) (fun _ _ _ _=>pg_name (i:=0) (nd_of rfl) rfl (Or.inl rfl)) (fun _ _ _ _=>pts_nil)
     (fun _ _ _ _=>pe_call GH hr rfl mH FH.kp bH .nil pass0 (pa_cons (pv 1) (pa_cons (pv 2) (pa_cons (pv 0) pa_nil))))) pa_nil))))),?_⟩
   refine⟨_,rfl,wa,_,_,.int n,rfl,rfl,SqT.of hwa,rfl,_,rfl,n,pa,ps,rfl,hpa,C.pr.posts,hn24,fun H1 s1=>?_⟩
   refine⟨_,rfl,iteF ?_⟩
   refine⟨_,rfl,wa,n,ts,rfl,W.keep s1,TT.same s1,fun rl rs M H2 s2 T2 hrl RA RR=>?_⟩
   have hpa2:H2 pa=some (.tup (ps.map V.int)):=s2.get (s1 _ _ hpa) (by intro ps z;cases z)
   refine⟨_,rfl,pa,rfl,⟨_,SqT.of hpa2⟩,[.ref rl,.ref pa],rfl,fun D hD=>?_⟩
   refine comp_tup (a:=pa) (xs:=ps.map V.int) (fun q ys H4=>q<=ps.length/\ys=(List.replicate q true).map V.bl/\Same H2 H4/\H4 D=some (.lst ys)) ⟨Nat.zero_le _,rfl,same_laid hD,upd_same⟩ (fun q ys H4 z=>?_) (fun q ys H4 z=>?_) (fun q v ys H4 hv z=>?_) (fun ys H4 z=>?_)
   . exact SqT.of (z.2.2.1 _ _ hpa2)
   . obtain⟨hq,rfl,_⟩:=z
     rw[List.length_map,List.length_replicate]
     exact small_line (by omega)
   . obtain⟨_,rfl,s4,hD4⟩:=z
     obtain⟨p,hp,rfl⟩:=int_at hv
     have hql:=(List.getElem?_eq_some_iff.mp hp).1
     refine⟨⟨rfl,rfl⟩,?_⟩
     refine tyes ?_
     refine⟨_,rfl,_,rfl,_,rfl,rl,pa,rs,M,n,p,ts,ps,rfl,s4 _ _ hrl,⟨RA.1,fun i r row a b=>s4 _ _ (RA.2 i r row a b)⟩,RR,G,s4 _ _ hpa2,C,List.mem_of_getElem? hp,fun H5 s5=>?_⟩
     refine⟨s5 _ _ hD4,by omega,?_,same_chg (s4.trans s5) hD,upd_same⟩
     rw[List.replicate_succ',List.map_append];rfl
   . obtain⟨_,rfl,s4,hD4⟩:=z
     refine⟨D,_,rfl,SqL.of hD4,?_⟩
     rw[all_rep]
     exact k H4 (((SmT.of s1).trans s2).trans (SmT.of s4)) (T2.same s4)
theorem scPweb:FnScope ["web", "thing", "ties"] ["web", "thing"] (defScope sPweb):=⟨rfl,rfl,rfl,by decide +kernel,rfl,by decide +kernel,by decide +kernel⟩
theorem cutT_snoc {ps:List Int}{ts:List T3}{i:Nat}{t:T3}(h:ts[i]? = some t):cutT ps (ts.take (i+1))=cutT ps (ts.take i)++(if inT ps t=true then [newT ps t] else []):=by
 unfold cutT
 rw[filt_step (inT ps) h,List.map_append]
 congr 1
 by_cases c:inT ps t=true
 . rw[if_pos c,if_pos c];rfl
 . rw[if_neg c,if_neg c];rfl
theorem ok_pweb {f fI fN:Addr}{fd' fdI fdN:FuncData}(F:Fun K "part_web" "part_web" sPweb f fd') (FI:Fun K "is_part" "is_part" sIsP fI fdI) (bI:Binds K fdI ["web", "thing"] []) (mI:mg "is_part" = some (.ref fI)) (GI:FnOk P w K mg base CX0 6 fI fdI ["web", "thing"] (spIsP PT))
 (FN:Fun K "new_tie" "new_tie" sNtie fN fdN) (bN:Binds K fdN ["places", "tie"] []) (mN:mg "new_tie" = some (.ref fN)) (mLen:mg "len" = none) (mTuple:mg "tuple" = none) :
 FnOk P w K mg base CX0 7 f fd' ["web", "thing"] (spPweb PT):=by
 have GN:FnOk P w K mg base CX0 6 fN fdN ["places", "tie"] spNtie:=(ok_ntie FN).mono (by decide)
 refine F.ok scPweb (fun vs H Q E h=>?_) (fun cdv A outer s H vs Q E hr h=>?_)
 . obtain⟨wa,pa,n,ts,ps,rfl,_⟩:=h
   rfl
 . obtain⟨wa,pa,n,ts,ps,rfl,W,hpa,C,TT,k⟩:=h
   obtain⟨ta,tys,hwa,hta,TA,G⟩:=id W
   have hlT:=TA.length
   rw[List.length_map] at hlT
   have h64:=G.len
   refine⟨_,pss_cons (ps_if (pt_not (pt_val (pe_call GI hr rfl mI FI.kp bI .nil pass0 (pa_cons (pv 0) (pa_cons (pv 1) pa_nil))))) (pss_one ps_no) pss_nil)
    (pss_cons (ps_setC (i:=2) (own:=["tie"]) (cn:=["thing"]) (ci:=[1]) scPweb.nd rfl (Or.inl rfl) rfl (csc rfl rfl) ⟨rfl,rfl,rfl,trivial⟩ rfl (pi_tup (pe_ix ix_tup (pv 0) pe_int (fun _ _=>rfl))) (fun _ _ _ _=>pg_name (i:=0) (nd_of rfl) rfl (Or.inl rfl))
     (fun _ _ _ _=>pts_one (PW.pt (pw_and (pt_cmpR op_inC (pe_ix ix_tupC (pv 0) pe_int (fun _ _=>rfl)) (pv 1) (by with_unfolding_all rfl)) (pw_and1 (pt_cmpR op_inC (pe_ix ix_tupC (pv 0) pe_int (fun _ _=>rfl)) (pv 1) (by with_unfolding_all rfl))))))
     (fun _ _ _ _=>pe_call GN hr rfl mN FN.kp bN .nil pass0 (pa_cons (pv 1) (pa_cons (pv 0) pa_nil))))
    (pss_one (ps_ret (pe_tup (pa_cons (pe_callB call_len_seq (by rfl) mLen (by decide +kernel) (pa_cons (pv 1) pa_nil)) (pa_cons (pe_callTy call_tuple_of (by rfl) mTuple (by decide +kernel) (pa_cons (pv 2) pa_nil)) pa_nil)))))),?_⟩
   refine⟨_,rfl,_,rfl,wa,pa,n,ts,ps,rfl,W,hpa,C,TT,fun H1 s1 T1=>?_⟩
   refine⟨_,rfl,iteF ?_⟩
   have tk1:∀b ys,H b=some (.tup ys)->H1 b=some (.tup ys):=fun b ys e=>s1.get e (by intro ps z;cases z)
   have hta1:=tk1 _ _ hta
   have hpa1:=tk1 _ _ hpa
   refine⟨_,rfl,wa,_,_,.ref ta,rfl,rfl,SqT.of (tk1 _ _ hwa),rfl,ta,rfl,⟨_,SqT.of hta1⟩,[.ref pa],rfl,fun D hD=>?_⟩
   refine comp_tup (a:=ta) (xs:=tys) (fun i ys H4=>TupsAre H4 ys ((cutT ps (ts.take i)).map tl)/\Same H1 H4/\H4 D=some (.lst ys)) ⟨by rw[List.take_zero];exact trivial,same_laid hD,upd_same⟩ (fun i ys H4 h=>?_) (fun i ys H4 h=>?_) (fun i v ys H4 hv h=>?_) (fun ys H4 h=>?_)
   . exact SqT.of (h.2.1 _ _ hta1)
   . have h1:=h.1.length
     rw[List.length_map] at h1
     have h2:=List.length_filter_le (inT ps) (ts.take i)
     rw[List.length_take] at h2
     exact small_line (by unfold cutT at h1;rw[List.length_map] at h1;omega)
   . obtain⟨T4,s4,hD4⟩:=h
     obtain⟨ya,kk,rfl,hkk,hya,_⟩:=TA.get hv
     rw[List.getElem?_map] at hkk
     obtain⟨t,ht,rfl⟩:∃t,ts[i]? = some t/\tl t=kk:=by
      cases e:ts[i]? with
      | none=>rw[e] at hkk;cases hkk
      | some t=>rw[e] at hkk;exact⟨t,rfl,Option.some.inj hkk⟩
     have hya4:=s4 _ _ (tk1 _ _ hya)
     have hpa4:=s4 _ _ hpa1
     have sn:=cutT_snoc (ps:=ps) ht
     have no:¬ (inT ps t=true)->TupsAre H4 ys ((cutT ps (ts.take (i+1))).map tl):=fun c=>by
      rw[sn,if_neg c,List.append_nil];exact T4
     refine⟨⟨rfl,rfl⟩,?_⟩
     refine⟨_,rfl,ya,_,_,.int t.1,rfl,rfl,SqT.of hya4,rfl,_,rfl,pa,_,rfl,.inr (SqT.of hpa4),rfl,flat_ints _,_,rfl,?_⟩
     show if inV (.int t.1) (ps.map V.int)=true then _ else _
     rw[inV_ints]
     refine ite2 (fun c1=>?_) (fun c1=>?_)
     . refine⟨_,rfl,ya,_,_,.int t.2.1,rfl,rfl,SqT.of hya4,rfl,_,rfl,pa,_,rfl,.inr (SqT.of hpa4),rfl,flat_ints _,_,rfl,?_⟩
       show if inV (.int t.2.1) (ps.map V.int)=true then _ else _
       rw[inV_ints]
       refine ite2 (fun c2=>?_) (fun c2=>?_)
       . have i1:=of_decide_eq_true c1
         have i2:=of_decide_eq_true c2
         refine⟨_,rfl,_,rfl,pa,ya,ps,t,rfl,hpa4,hya4,C.pr.nd,i1,i2,fun q H5 s5 hq=>?_⟩
         have hD5:=s5 _ _ hD4
         refine⟨hD5,?_,same_chg (s4.trans s5) hD,upd_same⟩
         rw[sn,if_pos (inT_iff.mpr ⟨i1,i2⟩),List.map_append]
         refine (T4.keep fun b zs e=>?_).snoc ⟨q,rfl,?_,by simp[tl]⟩
         . have e5:=s5 _ _ e
           rw[upd_ne (ne_of e5 hD5 (by intro z;cases z))];exact e5
         . rw[upd_ne (ne_of hq hD5 (by intro z;cases z))];exact hq
       . exact⟨no fun z=>c2 (decide_eq_true (inT_iff.mp z).2),s4,hD4⟩
     . exact⟨no fun z=>c1 (decide_eq_true (inT_iff.mp z).1),s4,hD4⟩
   obtain⟨T4,s4,hD4⟩:=h
   rw[hlT,List.take_of_length_le (Nat.le_refl _)] at T4
   refine⟨_,rfl,pa,_,rfl,.inr (SqT.of (s4 _ _ hpa1)),?_⟩
   refine⟨_,rfl,D,_,rfl,.inl ⟨SqL.of hD4,fun tb htb=>?_⟩⟩
   refine⟨by show 2<=sizeLine;decide,fun wb hwb=>?_⟩
   have s5:=same_laid (o:=.tup ys) htb
   rw[List.length_map]
   have s6:=same_laid (o:=.tup [.int (ps.length:Int),.ref tb]) hwb
   refine k wb _ (s1.trans (SmT.of (s4.trans (s5.trans s6)))) (T1.same (s4.trans (s5.trans s6))) ⟨tb,ys,upd_same,s6 _ _ upd_same,T4.keep fun b zs e=>s6 _ _ (s5 _ _ e),gw_cut G C.pr⟩
theorem scPord:FnScope ["order", "places"] ["order", "places"] (defScope sPord):=⟨rfl,rfl,rfl,by decide +kernel,rfl,by decide +kernel,by decide +kernel⟩
theorem ok_pord {f:Addr}{fd':FuncData}(F:Fun K "part_order" "part_order" sPord f fd') (mTuple:mg "tuple" = none):FnOk P w K mg base CX0 1 f fd' ["order", "places"] spPord:=by
 refine F.ok scPord (fun vs H Q E h=>?_) (fun cdv A outer s H vs Q E hr h=>?_)
 . obtain⟨oa,pa,n,os,ps,rfl,_⟩:=h
   rfl
 . obtain⟨oa,pa,n,os,ps,rfl,hoa,hpa,hol,PR,k⟩:=h
   refine⟨_,pss_one (ps_ret (pe_callTy call_tuple_of (by rfl) mTuple (by decide +kernel) (pa_cons (pe_comp (own:=["place"]) (cn:=["places"]) (ci:=[1]) rfl (csc rfl rfl) ⟨rfl,rfl,rfl,trivial⟩ rfl (pi_tup (pv 0)) (fun _ _ _ _=>pg_name (i:=0) (nd_of rfl) rfl (Or.inl rfl))
    (fun _ _ _ _=>pts_one (pt_cmpR op_inC (pv 0) (pv 1) (by with_unfolding_all rfl))) (fun _ _ _ _=>pe_bmT PySem.F.slot_tuple_index PySem.F.type_tuple_index mt_indexC (pv 1) (pa_cons (pv 0) pa_nil))) pa_nil))),?_⟩
   refine⟨_,rfl,oa,rfl,⟨_,SqT.of hoa⟩,[.ref pa],rfl,fun D hD=>?_⟩
   refine comp_tup (a:=oa) (xs:=os.map V.int) (fun i ys H4=>ys=(cutO ps (os.take i)).map V.int/\H4=upd H D (.lst ys)) ⟨rfl,rfl⟩ (fun i ys H4 z=>?_) (fun i ys H4 z=>?_) (fun i v ys H4 hv z=>?_) (fun ys H4 z=>?_)
   . obtain⟨_,rfl⟩:=z
     exact SqT.of (same_laid hD _ _ hoa)
   . obtain⟨rfl,_⟩:=z
     have h2:=List.length_filter_le (fun p=>decide (p∈ps)) (os.take i)
     rw[List.length_take] at h2
     unfold cutO
     rw[List.length_map,List.length_map]
     exact small_line (by omega)
   . obtain⟨rfl,rfl⟩:=z
     obtain⟨p,hp,rfl⟩:=int_at hv
     have hpa4:=same_laid (o:=.lst ((cutO ps (os.take i)).map V.int)) hD _ _ hpa
     have st:=filt_step (fun p:Int=>decide (p∈ps)) hp
     refine⟨⟨rfl,rfl⟩,?_⟩
     refine⟨_,rfl,_,rfl,pa,_,rfl,.inr (SqT.of hpa4),rfl,flat_ints _,_,rfl,?_⟩
     show if inV (.int p) (ps.map V.int)=true then _ else _
     rw[inV_ints]
     refine ite2 (fun c=>?_) (fun c=>?_)
     . obtain⟨j,hj,nj,ej⟩:=idx_of PR.nd (of_decide_eq_true c)
       refine⟨_,rfl,⟨pa,_,rfl,hpa4⟩,_,rfl,pa,ps,j,p,rfl,rfl,SqT.of hpa4,hj,nj,upd_same,?_,upd_upd⟩
       unfold cutO
       rw[st,if_pos c,List.map_append,List.map_append,ej];rfl
     . refine⟨?_,rfl⟩
       unfold cutO
       rw[st,if_neg c,List.append_nil]
   . obtain⟨rfl,rfl⟩:=z
     rw[List.length_map,List.take_of_length_le (Nat.le_refl _)]
     refine⟨D,_,rfl,.inl ⟨SqL.of upd_same,fun ob hob=>?_⟩⟩
     exact k ob _ ((same_laid hD).trans (same_laid hob)) upd_same
end
end K68
namespace K68
open PySem L2 WM
def EOk (ps:List Int)(e:En):Prop:=(e.l=0/\e.u=none/\e.d=none)\/(e.l≠0/\∃a b,e.u=some a/\e.d=some b/\a∈ps/\b∈ps)
def spNent:Sp:=fun vs H Q _=>∃(pa ea:Addr)(ps:List Int)(e:En),vs=[.ref pa,.ref ea]/\H pa=some (.tup (ps.map V.int))/\H ea=some (.tup (eV e))/\ps.Nodup/\e.h∈ps/\EOk ps e/\∀(q:Addr)(H':Hp),Same H H'->H' q=some (.tup (eV (cutE ps e)))->Q (.ref q) H'
def spCutl:Sp:=fun vs H Q _=>∃(la pa:Addr)(ps:List Int)(es:List En),vs=[.ref la,.ref pa]/\H pa=some (.tup (ps.map V.int))/\LabAt H la es/\ps.Nodup/\(∀e∈es,e.h∈ps->EOk ps e)/\∀(q:Addr)(H':Hp),Same H H'->LabAt H' q (cutL ps es)->Q (.ref q) H'
def spCutd:Sp:=fun vs H Q _=>∃(ll pa:Addr)(ps:List Int)(ess:List (List En)),vs=[.ref ll,.ref pa]/\H pa=some (.tup (ps.map V.int))/\LabsAt H ll ess/\ps.Nodup/\ps.length<=24/\CutOk ps ess/\∀(q:Addr)(H':Hp),Same H H'->LabsAt H' q (cutLs ps ess)->Q (.ref q) H'
theorem cutL_snoc {ps:List Int}{es:List En}{i:Nat}{e:En}(h:es[i]? = some e):cutL ps (es.take (i+1))=cutL ps (es.take i)++(if decide (e.h∈ps)=true then [cutE ps e] else []):=by
 unfold cutL
 rw[filt_step (fun e:En=>decide (e.h∈ps)) h,List.map_append]
 congr 1
 by_cases c:decide (e.h∈ps)=true
 . rw[if_pos c,if_pos c];rfl
 . rw[if_neg c,if_neg c];rfl
section
variable {P:Program}{w:World}{K:PySem.W.Frag}{mg:Str->Option Value}{base:Heap}
theorem scNent:FnScope ["places", "entry"] ["places", "entry"] (defScope sNent):=⟨rfl,rfl,rfl,by decide +kernel,rfl,by decide +kernel,by decide +kernel⟩
theorem ok_nent {f:Addr}{fd':FuncData}(F:Fun K "new_entry" "new_entry" sNent f fd'):FnOk P w K mg base CX0 1 f fd' ["places", "entry"] spNent:=by
 refine F.ok scNent (fun vs H Q E h=>?_) (fun cdv A outer s H vs Q E hr h=>?_)
 . obtain⟨pa,ea,ps,e,rfl,_⟩:=h
   rfl
 . obtain⟨pa,ea,ps,e,rfl,hpa,hea,nd,hin,ok,k⟩:=h
   refine⟨_,pss_cons (ps_if (pt_cmpR op_eq (pe_ix ix_tup (pv 1) pe_int (fun _ _=>rfl)) pe_int (nomark _))
    (pss_one (ps_ret (pe_tup (pa_cons (pe_bmT PySem.F.slot_tuple_index PySem.F.type_tuple_index mt_index (pv 0) (pa_cons (pe_ix ix_tup (pv 1) pe_int (fun _ _=>rfl)) pa_nil)) (pa_int (pa_cons pe_non (pa_cons pe_non pa_nil))))))) pss_nil)
    (pss_one (ps_ret (pe_tup (pa_cons (pe_bmT PySem.F.slot_tuple_index PySem.F.type_tuple_index mt_index (pv 0) (pa_cons (pe_ix ix_tup (pv 1) pe_int (fun _ _=>rfl)) pa_nil)) (pa_cons (pe_ix ix_tup (pv 1) pe_int (fun _ _=>rfl))
     (pa_cons (pe_bmT PySem.F.slot_tuple_index PySem.F.type_tuple_index mt_index (pv 0) (pa_cons (pe_ix ix_tup (pv 1) pe_int (fun _ _=>rfl)) pa_nil)) (pa_cons (pe_bmT PySem.F.slot_tuple_index PySem.F.type_tuple_index mt_index (pv 0) (pa_cons (pe_ix ix_tup (pv 1) pe_int (fun _ _=>rfl)) pa_nil)) pa_nil))))))),?_⟩
   obtain⟨i,hi,ni,ei⟩:=idx_of nd hin
   obtain⟨eh,el,eu,ed⟩:=e
   dsimp only at hin hi ni ei
   refine⟨_,rfl,ea,_,_,.int el,rfl,rfl,SqT.of hea,rfl,rfl,_,rfl,?_⟩
   rw[dec_V]
   rcases ok with ⟨z1,z2,z3⟩ | ⟨z1,a,b,z2,z3,ha,hb⟩
   . dsimp only at z1 z2 z3
     subst z1 z2 z3
     refine iteT ?_
     refine⟨_,rfl,⟨pa,_,rfl,hpa⟩,_,rfl,ea,_,_,.int eh,rfl,rfl,SqT.of hea,rfl,pa,ps,i,eh,rfl,rfl,SqT.of hpa,hi,ni,?_⟩
     refine⟨by show 4<=sizeLine;decide,fun q hq=>?_⟩
     rw[ei]
     exact k q _ (same_laid hq) upd_same
   . dsimp only at z1 z2 z3
     subst z2 z3
     refine ifF (decide_eq_false z1) ?_
     obtain⟨ia,hia,nia,eia⟩:=idx_of nd ha
     obtain⟨ib,hib,nib,eib⟩:=idx_of nd hb
     refine⟨_,rfl,⟨pa,_,rfl,hpa⟩,_,rfl,ea,_,_,.int eh,rfl,rfl,SqT.of hea,rfl,pa,ps,i,eh,rfl,rfl,SqT.of hpa,hi,ni,?_⟩
     refine⟨_,rfl,ea,_,_,.int el,rfl,rfl,SqT.of hea,rfl,?_⟩
     refine⟨_,rfl,⟨pa,_,rfl,hpa⟩,_,rfl,ea,_,_,.int a,rfl,rfl,SqT.of hea,rfl,pa,ps,ia,a,rfl,rfl,SqT.of hpa,hia,nia,?_⟩
     refine⟨_,rfl,⟨pa,_,rfl,hpa⟩,_,rfl,ea,_,_,.int b,rfl,rfl,SqT.of hea,rfl,pa,ps,ib,b,rfl,rfl,SqT.of hpa,hib,nib,?_⟩
     refine⟨by show 4<=sizeLine;decide,fun q hq=>?_⟩
     rw[ei,eia,eib]
     exact k q _ (same_laid hq) upd_same
theorem scCutl:FnScope ["label", "places"] ["label", "places"] (defScope sCutl):=⟨rfl,rfl,rfl,by decide +kernel,rfl,by decide +kernel,by decide +kernel⟩
theorem ok_cutl {f fN:Addr}{fd' fdN:FuncData}(F:Fun K "cut_label" "cut_label" sCutl f fd') (FN:Fun K "new_entry" "new_entry" sNent fN fdN) (bN:Binds K fdN ["places", "entry"] []) (mN:mg "new_entry" = some (.ref fN)) (mTuple:mg "tuple" = none):FnOk P w K mg base CX0 2 f fd' ["label", "places"] spCutl:=by
 have GN:FnOk P w K mg base CX0 1 fN fdN ["places", "entry"] spNent:=ok_nent FN
 refine F.ok scCutl (fun vs H Q E h=>?_) (fun cdv A outer s H vs Q E hr h=>?_)
 . obtain⟨la,pa,ps,es,rfl,_⟩:=h
   rfl
 . obtain⟨la,pa,ps,es,rfl,hpa,L,nd,ok,k⟩:=h
   obtain⟨as,hla,EA,hl⟩:=id L
   refine⟨_,pss_one (ps_ret (pe_callTy call_tuple_of (by rfl) mTuple (by decide +kernel) (pa_cons (pe_comp (own:=["entry"]) (cn:=["places"]) (ci:=[1]) rfl (csc rfl rfl) ⟨rfl,rfl,rfl,trivial⟩ rfl (pi_tup (pv 0)) (fun _ _ _ _=>pg_name (i:=0) (nd_of rfl) rfl (Or.inl rfl))
    (fun _ _ _ _=>pts_one (pt_cmpR op_inC (pe_ix ix_tupC (pv 0) pe_int (fun _ _=>rfl)) (pv 1) (by with_unfolding_all rfl))) (fun _ _ _ _=>pe_call GN hr rfl mN FN.kp bN .nil pass0 (pa_cons (pv 1) (pa_cons (pv 0) pa_nil)))) pa_nil))),?_⟩
   refine⟨_,rfl,la,rfl,⟨_,SqT.of hla⟩,[.ref pa],rfl,fun D hD=>?_⟩
   refine comp_tup (a:=la) (xs:=as.map V.ref) (fun i ys H4=>(∃bs:List Addr,ys=bs.map V.ref/\EnsAt H4 bs (cutL ps (es.take i)))/\Same H H4/\H4 D=some (.lst ys)) ⟨⟨[],rfl,rfl,fun i a z=>by simp at z⟩,same_laid hD,upd_same⟩ (fun i ys H4 h=>?_) (fun i ys H4 h=>?_) (fun i v ys H4 hv h=>?_) (fun ys H4 h=>?_)
   . exact SqT.of (h.2.1 _ _ hla)
   . obtain⟨⟨bs,rfl,EB⟩,_⟩:=h
     have h1:=EB.1
     have h2:=List.length_filter_le (fun e:En=>decide (e.h∈ps)) (es.take i)
     rw[List.length_take] at h2
     unfold cutL at h1
     rw[List.length_map] at h1 ⊢
     exact line1000 (by omega)
   . obtain⟨⟨bs,rfl,EB⟩,s4,hD4⟩:=h
     obtain⟨ea,e,rfl,he,hea⟩:=EA.at hv
     have hea4:=s4 _ _ hea
     have hpa4:=s4 _ _ hpa
     have sn:=cutL_snoc (ps:=ps) he
     refine⟨⟨rfl,rfl⟩,?_⟩
     refine⟨_,rfl,ea,_,_,.int e.h,rfl,rfl,SqT.of hea4,rfl,_,rfl,pa,_,rfl,.inr (SqT.of hpa4),rfl,flat_ints _,_,rfl,?_⟩
     show if inV (.int e.h) (ps.map V.int)=true then _ else _
     rw[inV_ints]
     refine ite2 (fun c=>?_) (fun c=>?_)
     . have hin:=of_decide_eq_true c
       refine⟨_,rfl,_,rfl,pa,ea,ps,e,rfl,hpa4,hea4,nd,hin,ok e (List.mem_of_getElem? he) hin,fun q H5 s5 hq=>?_⟩
       have hD5:=s5 _ _ hD4
       refine⟨hD5,⟨bs++[q],by rw[List.map_append];rfl,?_⟩,same_chg (s4.trans s5) hD,upd_same⟩
       rw[sn,if_pos c]
       refine (EB.keep fun b zs e=>?_).snoc ?_
       . have e5:=s5 _ _ e
         rw[upd_ne (ne_of e5 hD5 (by intro z;cases z))];exact e5
       . rw[upd_ne (ne_of hq hD5 (by intro z;cases z))];exact hq
     . refine⟨⟨bs,rfl,?_⟩,s4,hD4⟩
       rw[sn,if_neg c,List.append_nil]
       exact EB
   obtain⟨⟨bs,rfl,EB⟩,s4,hD4⟩:=h
   rw[List.length_map,EA.1,List.take_of_length_le (Nat.le_refl _)] at EB
   refine⟨D,_,rfl,.inl ⟨SqL.of hD4,fun q hq=>?_⟩⟩
   have s5:=same_laid (o:=.tup (bs.map V.ref)) hq
   refine k q _ (s4.trans s5) ⟨bs,upd_same,EB.keep fun b zs e=>s5 _ _ e,?_⟩
   unfold cutL
   rw[List.length_map]
   exact Nat.le_trans (List.length_filter_le _ _) hl
theorem scCutd:FnScope ["labels", "places"] ["labels", "places"] (defScope sCutd):=⟨rfl,rfl,rfl,by decide +kernel,rfl,by decide +kernel,by decide +kernel⟩
theorem ok_cutd {f fC:Addr}{fd' fdC:FuncData}(F:Fun K "cut_down" "cut_down" sCutd f fd') (FC:Fun K "cut_label" "cut_label" sCutl fC fdC) (bC:Binds K fdC ["label", "places"] []) (mC:mg "cut_label" = some (.ref fC)) (GC:FnOk P w K mg base CX0 2 fC fdC ["label", "places"] spCutl) (mTuple:mg "tuple" = none):FnOk P w K mg base CX0 3 f fd' ["labels", "places"] spCutd:=by
 refine F.ok scCutd (fun vs H Q E h=>?_) (fun cdv A outer s H vs Q E hr h=>?_)
 . obtain⟨ll,pa,ps,ess,rfl,_⟩:=h
   rfl
 . obtain⟨ll,pa,ps,ess,rfl,hpa,L,nd,h24,ok,k⟩:=h
   refine⟨_,pss_one (ps_ret (pe_callTy call_tuple_of (by rfl) mTuple (by decide +kernel) (pa_cons (pe_comp (own:=["place"]) (cn:=["labels", "places"]) (ci:=[0,1]) rfl (csc rfl rfl) ⟨rfl,rfl,rfl,rfl,rfl,rfl,trivial⟩ rfl (pi_tup (pv 1)) (fun _ _ _ _=>pg_name (i:=0) (nd_of rfl) rfl (Or.inl rfl))
    (fun _ _ _ _=>pts_nil) (fun _ _ _ _=>pe_call GC hr rfl mC FC.kp bC .nil pass0 (pa_cons (pe_ix ix_tupC (pv 1) (pv 0) (fun _ _=>rfl)) (pa_cons (pv 2) pa_nil)))) pa_nil))),?_⟩
   refine⟨_,rfl,pa,rfl,⟨_,SqT.of hpa⟩,[.ref ll,.ref pa],rfl,fun D hD=>?_⟩
   refine comp_tup (a:=pa) (xs:=ps.map V.int) (fun i ys H4=>i<=ps.length/\(∃bs:List Addr,ys=bs.map V.ref/\bs.length=i/\∀(j:Nat)(b:Addr),bs[j]? = some b->∃es,(cutLs ps ess)[j]? = some es/\LabAt H4 b es)/\Same H H4/\H4 D=some (.lst ys)) ⟨Nat.zero_le _,⟨[],rfl,rfl,fun i a z=>by simp at z⟩,same_laid hD,upd_same⟩ (fun i ys H4 h=>?_) (fun i ys H4 h=>?_) (fun i v ys H4 hv h=>?_) (fun ys H4 h=>?_)
   . exact SqT.of (h.2.2.1 _ _ hpa)
   . obtain⟨hi,⟨bs,rfl,hbl,_⟩,_⟩:=h
     rw[List.length_map]
     exact small_line (by omega)
   . obtain⟨_,⟨bs,rfl,hbl,EB⟩,s4,hD4⟩:=h
     obtain⟨p,hp,rfl⟩:=int_at hv
     have hql:=(List.getElem?_eq_some_iff.mp hp).1
     obtain⟨p0,pl,eok⟩:=ok p (List.mem_of_getElem? hp)
     obtain⟨as,h1,h2,h3⟩:=id L
     have hpl:p.toNat<as.length:=by omega
     obtain⟨es,g1,g2⟩:=h3 p.toNat as[p.toNat] (List.getElem?_eq_getElem hpl)
     have ge:ess.getD p.toNat []=es:=by rw[List.getD_eq_getElem?_getD,g1];rfl
     rw[ge] at eok
     refine⟨⟨rfl,rfl⟩,?_⟩
     refine tyes ?_
     refine⟨_,rfl,_,rfl,ll,_,_,.ref as[p.toNat],rfl,rfl,SqT.of (s4 _ _ h1),atI_in p0 (by rw[List.getElem?_map,List.getElem?_eq_getElem hpl];rfl),_,rfl,_,pa,ps,es,rfl,s4 _ _ hpa,g2.same s4,nd,eok,fun q H5 s5 hq=>?_⟩
     have hD5:=s5 _ _ hD4
     refine⟨hD5,by omega,⟨bs++[q],by rw[List.map_append];rfl,by rw[List.length_append,hbl];rfl,fun j b hb=>?_⟩,same_chg (s4.trans s5) hD,upd_same⟩
     have kp:∀ {x zs},LabAt H5 x zs->LabAt (upd H5 D (.lst (bs.map V.ref++[.ref q]))) x zs:=fun h=>h.keep fun b ys e=>by rw[upd_ne (ne_of e hD5 (by intro z;cases z))];exact e
     by_cases c:j<bs.length
     . rw[List.getElem?_append_left c] at hb
       obtain⟨zs,z1,z2⟩:=EB j b hb
       exact⟨zs,z1,kp (z2.same s5)⟩
     . rw[List.getElem?_append_right (by omega)] at hb
       have hj:j-bs.length=0:=by
        cases z:j-bs.length with
        | zero=>rfl
        | succ m=>rw[z] at hb;simp at hb
       rw[hj] at hb
       have:q=b:=by simpa using hb
       subst this
       have ej:j=i:=by omega
       subst ej
       refine⟨cutL ps es,?_,kp hq⟩
       unfold cutLs
       rw[List.getElem?_map,hp,<-ge];rfl
   obtain⟨_,⟨bs,rfl,hbl,EB⟩,s4,hD4⟩:=h
   rw[List.length_map] at hbl
   refine⟨D,_,rfl,.inl ⟨SqL.of hD4,fun q hq=>?_⟩⟩
   have s5:=same_laid (o:=.tup (bs.map V.ref)) hq
   refine k q _ (s4.trans s5) ⟨bs,upd_same,by unfold cutLs;rw[List.length_map];exact hbl,fun j b hb=>?_⟩
   obtain⟨zs,z1,z2⟩:=EB j b hb
   exact⟨zs,z1,z2.same s5⟩
end
end K68
namespace K68
open PySem L2 WM
theorem row_len {H:Hp}{rs:List Addr}{M:List (List (Option Int))}{ts:List T3}{n x y:Int}(L:LRowsI H rs M)(R:Rows ts n M)(x0:0<=x)(x1:x<n)(y0:0<=y)(y1:y<n) :
 ∃(ra:Addr)(row:List V)(o:Option Int),rs[x.toNat]? = some ra/\H ra=some (.lst row)/\atI row y=some (.int (enc o))/\Len ts x y o:=by
 have hl:x.toNat<M.length:=by rw[R.1];omega
 have hr:x.toNat<rs.length:=by rw[L.1];exact hl
 have LL:=R.2 x x0 x1
 rw[List.getD_eq_getElem?_getD,List.getElem?_eq_getElem hl,Option.getD_some] at LL
 exact⟨rs[x.toNat],_,_,List.getElem?_eq_getElem hr,L.2.2 _ _ _ (List.getElem?_eq_getElem hr) (List.getElem?_eq_getElem hl),rowE_at LL.ln y0 y1,LL.len y y0 y1⟩
theorem enc_none:enc none=1000000:=rfl
theorem enc_some {n:Int}{ts:List T3}(G:GW n ts){x y d:Int}(x0:0<=x)(x1:x<n)(h:WM.IsD ts x y d):enc (some d)=d/\0<=d/\d<=2376:=by
 have:=way_bound G x y x0 x1 d h
 exact⟨by show min d 1000000=d;exact Int.min_eq_left (by omega),this⟩
theorem btw_enc {n:Int}{ts:List T3}(G:GW n ts){x y z:Int}{o o1 o2:Option Int}(x0:0<=x)(x1:x<n)(z0:0<=z)(z1:z<n)(h:Len ts x y o)(h1:Len ts x z o1)(h2:Len ts z y o2):(enc o<1000000/\enc o1+enc o2=enc o)↔Btw ts x y z:=by
 constructor
 . rintro ⟨c1,c2⟩
   cases o with
   | none=>rw[enc_none] at c1;omega
   | some d=>
    obtain⟨e,e0,e1⟩:=enc_some G x0 x1 h
    rw[e] at c1 c2
    cases o1 with
    | none=>
     rw[enc_none] at c2
     cases o2 with
     | none=>rw[enc_none] at c2;omega
     | some b=>
      obtain⟨eb,b0,_⟩:=enc_some G z0 z1 h2
      rw[eb] at c2
      omega
    | some a=>
     obtain⟨ea,a0,_⟩:=enc_some G x0 x1 h1
     rw[ea] at c2
     cases o2 with
     | none=>rw[enc_none] at c2;omega
     | some b=>
      obtain⟨eb,b0,_⟩:=enc_some G z0 z1 h2
      rw[eb] at c2
      have h':WM.IsD ts x y d:=h
      rw[<-c2] at h'
      exact⟨a,b,h1,h2,h'⟩
 . rintro ⟨a,b,i1,i2,i3⟩
   have e:o=some (a+b):=Len.uniq h i3
   have e1:o1=some a:=Len.uniq h1 i1
   have e2:o2=some b:=Len.uniq h2 i2
   subst e e1 e2
   obtain⟨q,_,q1⟩:=enc_some G x0 x1 i3
   rw[q,(enc_some G x0 x1 i1).1,(enc_some G z0 z1 i2).1]
   exact⟨by omega,rfl⟩
def spLacks:Sp:=fun vs H Q _=>∃(fl pl:Addr)(rs:List Addr)(M:List (List (Option Int)))(n:Int)(ts:List T3)(ps:List Int),vs=[.ref fl,.ref pl]/\H fl=some (.lst (rs.map V.ref))/\LRowsI H rs M/\Rows ts n M/\GW n ts/\n<=11/\H pl=some (.lst (ps.map V.int))/\Prt n ps /\
 ∀(l:Addr)(ms:List Int)(H':Hp),Same H H'->H l=none->H' l=some (.lst (ms.map V.int))->ms.Pairwise (· < ·)->(∀z,z∈ms↔z∉ps/\∃x∈ps,∃y∈ps,Btw ts x y z)->Q (.ref l) H'
structure LkI (ts:List T3)(n:Int)(ps fs:List Int)(q i j:Nat):Prop where
 rng:∀z∈fs,0<=z/\z<n
 snd:∀z∈fs,∃x∈ps,∃y∈ps,Btw ts x y z
 cpl:∀(z x y:Int),x∈ps->y∈ps->Btw ts x y z->0<=z->(z<q\/(z=q/\(x∈ps.take i\/(ps[i]? = some x/\y∈ps.take j))))->z∈fs
 len:fs.length<=q*121+i*11+j
theorem LkI.zero (ts:List T3)(n:Int)(ps:List Int):LkI ts n ps [] 0 0 0:=by
 refine⟨by simp,by simp,fun z x y hx hy hb z0 c=>?_,Nat.zero_le _⟩
 rcases c with c | ⟨_,c | ⟨_,c⟩⟩
 . omega
 . rw[List.take_zero] at c;cases c
 . rw[List.take_zero] at c;cases c
theorem take_succ' {ps:List Int}{j:Nat}{y:Int}(h:ps[j]? = some y){z:Int}:z∈ps.take (j+1)↔z∈ps.take j\/z=y:=by
 rw[List.take_add_one,h,List.mem_append]
 simp
theorem LkI.put {ts:List T3}{n:Int}{ps fs:List Int}{q i j:Nat}{x y:Int}(L:LkI ts n ps fs q i j)(hx:ps[i]? = some x)(hy:ps[j]? = some y)(hq:(q:Int)<n)(b:Btw ts x y q):LkI ts n ps (fs++[(q:Int)]) q i (j+1):=by
 refine⟨fun z hz=>?_,fun z hz=>?_,fun z x' y' hx' hy' hb z0 c=>?_,by have:=L.len;rw[List.length_append,List.length_singleton];omega⟩
 . rcases List.mem_append.mp hz with h | h
   . exact L.rng z h
   . rw[List.mem_singleton.mp h];omega
 . rcases List.mem_append.mp hz with h | h
   . exact L.snd z h
   . rw[List.mem_singleton.mp h];exact⟨x,List.mem_of_getElem? hx,y,List.mem_of_getElem? hy,b⟩
 . by_cases e:z=q
   . exact List.mem_append_right _ (List.mem_singleton.mpr e)
   . refine List.mem_append_left _ (L.cpl z x' y' hx' hy' hb z0 (.inl ?_))
     rcases c with c | c
     . exact c
     . exact absurd c.1 e
theorem LkI.skip {ts:List T3}{n:Int}{ps fs:List Int}{q i j:Nat}{x y:Int}(L:LkI ts n ps fs q i j)(hx:ps[i]? = some x)(hy:ps[j]? = some y)(b:¬ Btw ts x y q):LkI ts n ps fs q i (j+1):=by
 refine⟨L.rng,L.snd,fun z x' y' hx' hy' hb z0 c=>?_,by have:=L.len;omega⟩
 rcases c with c | ⟨c1,c | ⟨c2,c3⟩⟩
 . exact L.cpl z x' y' hx' hy' hb z0 (.inl c)
 . exact L.cpl z x' y' hx' hy' hb z0 (.inr ⟨c1,.inl c⟩)
 . rcases (take_succ' hy).mp c3 with d | d
   . exact L.cpl z x' y' hx' hy' hb z0 (.inr ⟨c1,.inr ⟨c2,d⟩⟩)
   . rw[hx] at c2
     cases c2
     subst d
     rw[c1] at hb
     exact absurd hb b
theorem LkI.row {ts:List T3}{n:Int}{ps fs:List Int}{q i:Nat}{x:Int}(L:LkI ts n ps fs q i ps.length)(hx:ps[i]? = some x)(h11:ps.length<=11):LkI ts n ps fs q (i+1) 0:=by
 refine⟨L.rng,L.snd,fun z x' y' hx' hy' hb z0 c=>?_,by have:=L.len;omega⟩
 rcases c with c | ⟨c1,c | ⟨_,c3⟩⟩
 . exact L.cpl z x' y' hx' hy' hb z0 (.inl c)
 . rcases (take_succ' hx).mp c with d | d
   . exact L.cpl z x' y' hx' hy' hb z0 (.inr ⟨c1,.inl d⟩)
   . subst d
     exact L.cpl z x' y' hx' hy' hb z0 (.inr ⟨c1,.inr ⟨hx,by rw[List.take_of_length_le (Nat.le_refl _)];exact hy'⟩⟩)
 . rw[List.take_zero] at c3;cases c3
theorem LkI.place {ts:List T3}{n:Int}{ps fs:List Int}{q:Nat}(L:LkI ts n ps fs q ps.length 0)(h11:ps.length<=11):LkI ts n ps fs (q+1) 0 0:=by
 refine⟨L.rng,L.snd,fun z x' y' hx' hy' hb z0 c=>?_,by have:=L.len;omega⟩
 rcases c with c | ⟨_,c | ⟨_,c3⟩⟩
 . by_cases e:z<q
   . exact L.cpl z x' y' hx' hy' hb z0 (.inl e)
   . exact L.cpl z x' y' hx' hy' hb z0 (.inr ⟨by omega,.inl (by rw[List.take_of_length_le (Nat.le_refl _)];exact hx')⟩)
 . rw[List.take_zero] at c;cases c
 . rw[List.take_zero] at c3;cases c3
section
variable {P:Program}{w:World}{K:PySem.W.Frag}{mg:Str->Option Value}{base:Heap}
theorem scLacks:FnScope ["_law_rows_here", "_law_places", "_law_found", "_law_place", "_law_one", "_law_other", "_law_due"] ["_law_rows_here", "_law_places"] (defScope sLacks):=⟨rfl,rfl,rfl,by decide +kernel,rfl,by decide +kernel,by decide +kernel⟩
theorem ok_lacks {f:Addr}{fd':FuncData}(F:Fun K "_law_lacks" "_law_lacks" sLacks f fd') (mRange:mg "range" = none) (mLen:mg "len" = none) (mSorted:mg "sorted" = none) (mSet:mg "set" = none):FnOk P w K mg base CX0 1 f fd' ["_law_rows_here", "_law_places"] spLacks:=by
 refine F.ok scLacks (fun vs H Q E h=>?_) (fun cdv A outer s H vs Q E hr h=>?_)
 . obtain⟨fl,pl,rs,M,n,ts,ps,rfl,_⟩:=h
   rfl
 . obtain⟨fl,pl,rs,M,n,ts,ps,rfl,hfl,LR,RR,G,h11,hpl,PR,k⟩:=h
   have hn1:=G.n1
   have hln:=PR.len
   refine⟨_,pss_cons (ps_set (i:=2) scLacks.nd rfl (Or.inl rfl) (pe_lst pa_nil))
    (pss_cons (ps_for PassesOwn.never rfl (pi_range1 rfl mRange (pa_cons (pe_callB call_len_seq (by rfl) mLen PySem.boot_len (pa_cons (pv 0) pa_nil)) pa_nil)) (pg_name (i:=3) scLacks.nd rfl (Or.inl rfl))
     (pss_one (ps_for PassesOwn.never rfl (pi_list (pv 1)) (pg_name (i:=4) scLacks.nd rfl (Or.inl rfl))
      (pss_one (ps_for PassesOwn.never rfl (pi_list (pv 1)) (pg_name (i:=5) scLacks.nd rfl (Or.inl rfl))
       (pss_cons (ps_set (i:=6) scLacks.nd rfl (Or.inl rfl) (pe_ix ix_list (pe_ix ix_list (pv 0) (pv 4) (fun _ _=>rfl)) (pv 5) (fun _ _=>rfl)))
       (pss_one (ps_if (PW.pt (pw_and (pt_cmpR op_lt (pv 6) (pe_op op_pow pe_int pe_int) (nomark _)) (pw_and1 (pt_cmpR op_eq (pe_op op_add (pe_ix ix_list (pe_ix ix_list (pv 0) (pv 4) (fun _ _=>rfl)) (pv 3) (fun _ _=>rfl)) (pe_ix ix_list (pe_ix ix_list (pv 0) (pv 3) (fun _ _=>rfl)) (pv 5) (fun _ _=>rfl))) (pv 6) (nomark _)))))
        (pss_one (ps_expr (pe_bm PySem.F.plainAttrs_list PySem.F.slot_list_append PySem.F.type_list_append mt_append (pv 2) (pa_cons (pv 3) pa_nil)))) pss_nil))))))))
    (pss_one (ps_ret (pe_comp (own:=["_law_place"]) (cn:=["_law_places"]) (ci:=[1]) rfl (csc rfl rfl) ⟨rfl,rfl,rfl,trivial⟩ rfl (pi_list (pe_sortedSetB rfl rfl mSorted rfl mSet (pa_cons (pv 2) pa_nil))) (fun _ _ _ _=>pg_name (i:=0) (nd_of rfl) rfl (Or.inl rfl))
     (fun _ _ _ _=>pts_one (pt_cmpR op_notInC (pv 0) (pv 1) (by with_unfolding_all rfl))) (fun _ _ _ _=>pv 0))))),?_⟩
   refine⟨Nat.zero_le _,fun fo hfo=>?_⟩
   have hrl:rs.length=n.toNat:=by rw[LR.1,RR.1]
   have sF:=same_laid (o:=.lst []) hfo
   refine⟨_,rfl,fl,_,rfl,.inl (SqL.of (sF _ _ hfl)),?_⟩
   rw[List.length_map,hrl]
   refine⟨((n.toNat:Nat):Int),rfl,by omega,by omega,for_range (lo:=0) (n:=n.toNat) (fun q σ H2=>∃(v3 v4 v5 v6:Option V)(fs:List Int),σ=[some (.ref fl),some (.ref pl),some (.ref fo),v3,v4,v5,v6]/\LkI ts n ps fs q 0 0/\Same H H2/\H2 fo=some (.lst (fs.map V.int)))
    ⟨_,_,_,_,[],rfl,LkI.zero ts n ps,sF,upd_same⟩ ?turn1 ?after1⟩
   case turn1=>
    rintro q σ H2 hq ⟨v3,v4,v5,v6,fs,rfl,L2,s2,hfo2⟩
    rw[Int.zero_add]
    have hqn:(q:Int)<n:=by omega
    refine⟨_,rfl,pl,rfl,⟨_,SqL.of (s2 _ _ hpl)⟩,for_list (K:=K) (a:=pl) (xs:=ps.map V.int) (fun i σ H3=>∃(v4 v5 v6:Option V)(fs:List Int),σ=[some (.ref fl),some (.ref pl),some (.ref fo),some (.int q),v4,v5,v6]/\LkI ts n ps fs q i 0/\Same H H3/\H3 fo=some (.lst (fs.map V.int)))
     ⟨_,_,_,fs,rfl,L2,s2,hfo2⟩ (fun i σ H3 _ ⟨_,_,_,_,_,_,s3,_⟩=>SqL.of (s3 _ _ hpl)) ?turn2 ?after2⟩
    case after2=>
     rintro σ H3 ⟨v4,v5,v6,fs3,rfl,L3,s3,hfo3⟩
     rw[List.length_map] at L3
     exact⟨_,_,_,_,fs3,rfl,L3.place (by omega),s3,hfo3⟩
    case turn2=>
     rintro i xv σ H3 hi ⟨v4,v5,v6,fs3,rfl,L3,s3,hfo3⟩
     obtain⟨x,hx,rfl⟩:=int_at hi
     have xm:=List.mem_of_getElem? hx
     have xr:=PR.rng x xm
     have hil:=(List.getElem?_eq_some_iff.mp hx).1
     refine⟨_,rfl,pl,rfl,⟨_,SqL.of (s3 _ _ hpl)⟩,for_list (K:=K) (a:=pl) (xs:=ps.map V.int) (fun j σ H4=>j<=ps.length/\∃(v5 v6:Option V)(fs:List Int),σ=[some (.ref fl),some (.ref pl),some (.ref fo),some (.int q),some (.int x),v5,v6]/\LkI ts n ps fs q i j/\Same H H4/\H4 fo=some (.lst (fs.map V.int)))
      ⟨Nat.zero_le _,_,_,fs3,rfl,L3,s3,hfo3⟩ (fun i σ H4 _ ⟨_,_,_,_,_,_,s4,_⟩=>SqL.of (s4 _ _ hpl)) ?turn3 ?after3⟩
     case after3=>
      rintro σ H4 ⟨_,v5,v6,fs4,rfl,L4,s4,hfo4⟩
      rw[List.length_map] at L4
      exact⟨_,_,_,fs4,rfl,L4.row hx (by omega),s4,hfo4⟩
     case turn3=>
      rintro j yv σ H4 hj ⟨_,v5,v6,fs4,rfl,L4,s4,hfo4⟩
      obtain⟨y,hy,rfl⟩:=int_at hj
      have ym:=List.mem_of_getElem? hy
      have yr:=PR.rng y ym
      have hjl:=(List.getElem?_eq_some_iff.mp hy).1
      have LR4:=LR.same s4
      have hfl4:=s4 _ _ hfl
      obtain⟨ra,row,o,hra,hrow,hat,hlen⟩:=row_len LR4 RR xr.1 xr.2 yr.1 yr.2
      obtain⟨ra',row',o1,hra',hrow',hat',hlen1⟩:=row_len (y:=(q:Int)) LR4 RR xr.1 xr.2 (by omega) hqn
      obtain⟨rb,rowb,o2,hrb,hrowb,hatb,hlen2⟩:=row_len (x:=(q:Int)) LR4 RR (by omega) hqn yr.1 yr.2
      have be:=btw_enc G xr.1 xr.2 (show (0:Int)<=q by omega) hqn hlen hlen1 hlen2
      refine⟨_,rfl,_,rfl,fl,_,_,.ref ra,rfl,rfl,SqL.of hfl4,atI_in xr.1 (by rw[List.getElem?_map,hra];rfl),_,rfl,ra,_,_,_,rfl,rfl,SqL.of hrow,hat,?_⟩
      refine⟨_,rfl,_,_,rfl,rfl,⟨by decide,by decide,by decide⟩,_,_,rfl,rfl,_,rfl,?_⟩
      show if decide (enc o<(10:Int) ^ (6:Int).toNat)=true then _ else _
      rw[show (10:Int) ^ (6:Int).toNat=1000000 from rfl]
      have no:¬ (enc o<1000000/\enc o1+enc o2=enc o)->(j+1<=ps.length/\∃(v5 v6:Option V)(fs:List Int),[some (.ref fl),some (.ref pl),some (.ref fo),some (.int q),some (.int x),some (.int y),some (.int (enc o))]=[some (V.ref fl),some (.ref pl),some (.ref fo),some (.int q),some (.int x),v5,v6]/\LkI ts n ps fs q i (j+1)/\Same H H4/\H4 fo=some (.lst (fs.map V.int))):=fun c=>
       ⟨hjl,_,_,fs4,rfl,L4.skip hx hy (fun z=>c (be.mpr z)),s4,hfo4⟩
      refine ite2 (fun c1=>?_) (fun c1=>?_)
      . have c1':=of_decide_eq_true c1
        refine⟨_,rfl,_,rfl,fl,_,_,.ref ra',rfl,rfl,SqL.of hfl4,atI_in xr.1 (by rw[List.getElem?_map,hra'];rfl),_,rfl,ra',_,_,_,rfl,rfl,SqL.of hrow',hat',?_⟩
        refine⟨_,rfl,_,rfl,fl,_,_,.ref rb,rfl,rfl,SqL.of hfl4,atI_in (by omega) (by rw[List.getElem?_map,hrb];rfl),_,rfl,rb,_,_,_,rfl,rfl,SqL.of hrowb,hatb,?_⟩
        refine⟨_,_,rfl,rfl,_,rfl,rfl,_,rfl,?_⟩
        show if decide (V.int (enc o1+enc o2)=V.int (enc o))=true then _ else _
        rw[dec_V]
        refine ite2 (fun c2=>?_) (fun c2=>?_)
        . have hb:=be.mp ⟨c1',of_decide_eq_true c2⟩
          refine⟨_,rfl,.inl ⟨rfl,_,SqL.of hfo4⟩,_,rfl,fo,_,_,rfl,rfl,hfo4,?_,hjl,_,_,fs4++[(q:Int)],rfl,L4.put hx hy hqn hb,same_chg s4 hfo,?_⟩
          . have:=L4.len
            rw[List.length_map]
            exact Nat.lt_of_le_of_lt (Nat.le_trans this (show _<=4000 by omega)) (by decide)
          . rw[List.map_append];exact upd_same
        . exact no fun z=>c2 (decide_eq_true z.2)
      . exact no fun z=>c1 (decide_eq_true z.1)
   case after1=>
    rintro σ H2 ⟨v3,v4,v5,v6,fs,rfl,L2,s2,hfo2⟩
    refine⟨_,rfl,fo,fs,rfl,.inl (SqL.of hfo2),by have:=L2.len;omega,fun z hz=>by have:=L2.rng z hz;omega,fun l ms hl hms hmm=>?_⟩
    have sL:=same_laid (o:=.lst (ms.map V.int)) hl
    have hl3:(upd H2 l (.lst (ms.map V.int))) l=some (.lst (ms.map V.int)):=upd_same
    generalize upd H2 l (.lst (ms.map V.int))=H3 at sL hl3 ⊢
    have hml:ms.length<=60:=nd_len60 (hms.imp fun h e=>by omega) fun z hz=>by have:=L2.rng z ((hmm z).mp hz);omega
    refine⟨l,rfl,⟨_,SqL.of hl3⟩,[.ref pl],rfl,fun D hD=>?_⟩
    have hpl3:=sL _ _ (s2 _ _ hpl)
    refine comp_list (a:=l) (xs:=ms.map V.int) (fun i ys H4=>ys=((ms.take i).filter fun z=>!decide (z∈ps)).map V.int/\H4=upd H3 D (.lst ys)) ⟨rfl,rfl⟩ (fun i ys H4 z=>?_) (fun i ys H4 z=>?_) (fun i v ys H4 hv z=>?_) (fun ys H4 z=>?_)
    . obtain⟨_,rfl⟩:=z
      exact SqL.of (same_laid hD _ _ hl3)
    . obtain⟨rfl,_⟩:=z
      have h2:=List.length_filter_le (fun z:Int=>!decide (z∈ps)) (ms.take i)
      rw[List.length_take] at h2
      rw[List.length_map]
      exact small_line (by omega)
    . obtain⟨rfl,rfl⟩:=z
      obtain⟨p,hp,rfl⟩:=int_at hv
      have st:=filt_step (fun z:Int=>!decide (z∈ps)) hp
      refine⟨⟨rfl,rfl⟩,?_⟩
      refine⟨_,rfl,_,rfl,pl,_,rfl,.inl (SqL.of (same_laid hD _ _ hpl3)),rfl,flat_ints _,_,rfl,?_⟩
      show if (!inV (.int p) (ps.map V.int))=true then _ else _
      rw[inV_ints]
      refine ite2 (fun c=>?_) (fun c=>?_)
      . refine⟨_,rfl,upd_same,?_,upd_upd⟩
        rw[st,if_pos c,List.map_append];rfl
      . refine⟨?_,rfl⟩
        rw[st,if_neg c,List.append_nil]
    . obtain⟨rfl,rfl⟩:=z
      rw[List.length_map,List.take_of_length_le (Nat.le_refl _)]
      refine k D _ _ (s2.trans (sL.trans (same_laid hD))) (none_back (s2.trans sL) hD) upd_same (hms.filter _) fun z=>?_
      rw[List.mem_filter,hmm z]
      constructor
      . rintro ⟨a,b⟩
        exact⟨by simpa using b,L2.snd z a⟩
      . rintro ⟨a,x,hx,y,hy,hb⟩
        obtain⟨aa,bb,ia,_⟩:=id hb
        have xr:=PR.rng x hx
        have zr:=ia.1.in_ G xr.1 xr.2
        exact⟨L2.cpl z x y hx hy hb zr.1 (.inl (by omega)),by simpa using a⟩
end
end K68
namespace K68
open PySem L2 WM
def spPart:Sp:=fun vs H Q _=>∃(t fl:Addr)(N:Nat)(rs:List Addr)(M:List (List (Option Int)))(n:Int)(ts:List T3),vs=[.ref t,.ref fl]/\FeedAt H t N/\N<800000/\H fl=some (.lst (rs.map V.ref))/\LRowsI H rs M/\Rows ts n M/\GW n ts/\n<=11 /\
 ∀(pa:Addr)(ps:List Int)(H':Hp),H' pa=some (.tup (ps.map V.int))->Cvx ts n ps->FeedAt H' t (N+40)->Sm t H H'->Q (.ref pa) H'
theorem rows_feed {H:Hp}{t p fl:Addr}{N:Nat}{rs:List Addr}{M:List (List (Option Int))}{n:Int}{ts:List T3}(T:FeedP H t p N)(hfl:H fl=some (.lst (rs.map V.ref)))(LR:LRowsI H rs M)(RR:Rows ts n M)(h1:1<=n):fl≠t/\∀r∈rs,r≠t:=by
 obtain⟨ns,spot,rest,ht,_⟩:=T
 refine⟨fun z=>?_,fun r hr z=>?_⟩
 . rw[z,ht] at hfl
   injection hfl with e
   injection e with e
   match rs,e with
   | [],e=>cases e
   | [_],e=>cases e
   | _::_::_,e=>cases e
 . obtain⟨i,hi,e⟩:=List.getElem_of_mem hr
   have hM:i<M.length:=by rw[<-LR.1];exact hi
   have hi':(i:Int)<n:=by have:=RR.1;omega
   have LL:=RR.2 i (by omega) hi'
   rw[Int.toNat_natCast,List.getD_eq_getElem?_getD,List.getElem?_eq_getElem hM,Option.getD_some] at LL
   have h2:=LR.2.2 i r M[i] (by rw[List.getElem?_eq_getElem hi,e]) (List.getElem?_eq_getElem hM)
   rw[z,ht] at h2
   injection h2 with e2
   injection e2 with e2
   have hl:=LL.ln
   generalize M[i]=row at e2 hl
   cases row with
   | nil=>cases e2
   | cons o _=>injection e2 with e3;cases e3
theorem rows_sm {H H':Hp}{t fl:Addr}{rs:List Addr}{M:List (List (Option Int))}(d:fl≠t/\∀r∈rs,r≠t)(hfl:H fl=some (.lst (rs.map V.ref)))(LR:LRowsI H rs M)(s:Sm t H H'):H' fl=some (.lst (rs.map V.ref))/\LRowsI H' rs M:=
 ⟨s _ _ d.1 hfl,LR.keep fun b ys e m=>s _ _ (d.2 b m) e⟩
theorem prt_more {n:Int}{ts:List T3}{ps ms ks:List Int}(G:GW n ts)(P:Prt n ps)(hri:ms.Pairwise (· < ·))(hmm:∀z,z∈ms↔z∉ps/\∃x∈ps,∃y∈ps,Btw ts x y z)(pm:ks.Perm (ps++ms))(hle:ks.Pairwise (· <= ·)):Prt n ks:=by
 have nd:(ps++ms).Nodup:=List.nodup_append.mpr ⟨P.nd,hri.imp fun h e=>by omega,fun a ha b hb e=>((hmm b).mp hb).1 (e ▸ ha)⟩
 refine⟨strict_of hle (pm.nodup_iff.mpr nd),fun p hp=>?_,fun e=>?_⟩
 . rcases List.mem_append.mp (pm.mem_iff.mp hp) with h | h
   . exact P.rng p h
   . obtain⟨_,x,hx,y,hy,a,b,ia,_⟩:=(hmm p).mp h
     have xr:=P.rng x hx
     exact ia.1.in_ G xr.1 xr.2
 . rw[e] at pm
   have:=(List.append_eq_nil_iff.mp (List.nil_perm.mp pm)).1
   exact P.ne this
structure PI (t p fl so la:Addr)(N:Nat)(rs:List Addr)(M:List (List (Option Int)))(n:Int)(ts:List T3)(ps ms:List Int)(H0 H:Hp):Prop where
 hso:H so=some (.lst (ps.map V.int))
 hla:H la=some (.lst (ms.map V.int))
 pr:Prt n ps
 ri:ms.Pairwise (· < ·)
 mm:∀z,z∈ms↔z∉ps/\∃x∈ps,∃y∈ps,Btw ts x y z
 hfl:H fl=some (.lst (rs.map V.ref))
 lr:LRowsI H rs M
 fd:FeedP H t p N
 sm:Sm t H0 H
theorem PI.same {t p fl so la:Addr}{N:Nat}{rs:List Addr}{M:List (List (Option Int))}{n:Int}{ts:List T3}{ps ms:List Int}{H0 H H':Hp}(I:PI t p fl so la N rs M n ts ps ms H0 H)(s:Same H H'):PI t p fl so la N rs M n ts ps ms H0 H':=by
 obtain⟨ns,spot,rest,a,b,c⟩:=id I.fd
 exact⟨s _ _ I.hso,s _ _ I.hla,I.pr,I.ri,I.mm,s _ _ I.hfl,I.lr.same s,⟨ns,spot,rest,s _ _ a,s _ _ b,c⟩,I.sm.trans (Sm.of s)⟩
section
variable {P:Program}{w:World}{K:PySem.W.Frag}{mg:Str->Option Value}{base:Heap}
theorem scPart:FnScope ["_law_feed_here", "_law_rows_here", "_law_some", "_law_lacks_here"] ["_law_feed_here", "_law_rows_here"] (defScope sPart):=⟨rfl,rfl,rfl,by decide +kernel,rfl,by decide +kernel,by decide +kernel⟩
theorem ok_part {f fD fL:Addr}{fd' fdD fdL:FuncData}(F:Fun K "_law_part" "_law_part" sPart f fd') (FD:Fun K "_law_take" "_law_take" sTake fD fdD) (bD:Binds K fdD ["_law_feed_here", "_law_many"] []) (mD:mg "_law_take" = some (.ref fD))
 (FL:Fun K "_law_lacks" "_law_lacks" sLacks fL fdL) (bL:Binds K fdL ["_law_rows_here", "_law_places"] []) (mL:mg "_law_lacks" = some (.ref fL)) (mLen:mg "len" = none) (mRange:mg "range" = none) (mTuple:mg "tuple" = none) (mSorted:mg "sorted" = none) (mSet:mg "set" = none):FnOk P w K mg base CX0 2 f fd' ["_law_feed_here", "_law_rows_here"] spPart:=by
 have GD:FnOk P w K mg base CX0 1 fD fdD ["_law_feed_here", "_law_many"] spTakeP:=ok_takeP FD mLen
 have GL:FnOk P w K mg base CX0 1 fL fdL ["_law_rows_here", "_law_places"] spLacks:=ok_lacks FL mRange mLen mSorted mSet
 refine F.ok scPart (fun vs H Q E h=>?_) (fun cdv A outer s H vs Q E hr h=>?_)
 . obtain⟨t,fl,N,rs,M,n,ts,rfl,_⟩:=h
   rfl
 . obtain⟨t,fl,N,rs,M,n,ts,rfl,TT,hN,hfl,LR,RR,G,h11,k⟩:=h
   obtain⟨p,T⟩:=TT
   have hn1:=G.n1
   have hu0:=hr.units0
   have dd:=rows_feed T hfl LR RR hn1
   have hrl:rs.length=n.toNat:=by rw[LR.1,RR.1]
   refine⟨_,pss_cons (ps_setC (i:=2) (own:=["_law_place"]) (cn:=["_law_feed_here"]) (ci:=[0]) scPart.nd rfl (Or.inl rfl) rfl (csc rfl rfl) ⟨rfl,rfl,rfl,trivial⟩ rfl
    (pi_range1 rfl mRange (pa_cons (pe_callB call_len_seq (by rfl) mLen PySem.boot_len (pa_cons (pv 1) pa_nil)) pa_nil)) (fun _ _ _ _=>pg_name (i:=0) (nd_of rfl) rfl (Or.inl rfl))
    (fun _ _ _ _=>pts_one (pt_cmpR op_eq (pe_call GD hr rfl mD FD.kp bD .nil pass0 (pa_cons (pv 1) (pa_int pa_nil))) pe_int (nomark _)))
    (fun _ _ _ _=>pv 0))
    (pss_cons (ps_as (u':=fun (D:Ends) σ H3=>∃(so:Addr)(as:List Int),σ=[some (.ref t),some (.ref fl),some (.ref so),none]/\H3 so=some (.lst (as.map V.int))/\(∀a∈as,0<=a/\a<n)/\as.Pairwise (· < ·)/\FeedP H3 t p (N+24)/\Sm t H H3 /\
     ∀(so':Addr)(ps:List Int)(H':Hp),H' so'=some (.lst (ps.map V.int))->Prt n ps->FeedP H' t p (N+25)->Sm t H H'->D.nx [some (.ref t),some (.ref fl),some (.ref so'),none] H')
     (ps_set (i:=2) scPart.nd rfl (Or.inl rfl) (pe_orT (pv 2) (pe_one (pe_lst (pa_cons (pe_call GD hr rfl mD FD.kp bD .nil pass0 (pa_cons (pv 0) (pa_cons (pe_callB call_len_seq (by rfl) mLen PySem.boot_len (pa_cons (pv 1) pa_nil)) pa_nil))) pa_nil))))) (fun D σ H3 z=>by
      obtain⟨so,as,rfl,hso,ha,ri,T3,s3,z⟩:=z
      refine⟨_,rfl,!(as.map V.int).isEmpty,.inl ⟨_,SqL.of hso,rfl⟩,?_⟩
      cases as with
      | cons a r=>
       refine iteT ?_
       exact z so (a::r) H3 hso ⟨ri,ha,by simp⟩ (by obtain⟨ns,spot,rest,a,b,c,d,e,f⟩:=T3;exact⟨ns,spot,rest,a,b,c,d,by omega,f⟩) s3
      | nil=>
       refine iteF ?_
       have rw3:=rows_sm dd hfl LR s3
       refine⟨_,rfl,_,rfl,fl,_,rfl,.inl (SqL.of rw3.1),t,p,_,n,by rw[List.length_map,hrl,Int.toNat_of_nonneg (show 0<=n by omega)];rfl,T3,by omega,by omega,by omega,fun r8 H8 h80 h81 T8 he8=>?_⟩
       refine⟨by show 1<=sizeLine;decide,fun l hl=>?_⟩
       exact z l [r8] _ upd_same ⟨by simp,fun q hq=>by rw[List.mem_singleton.mp hq];exact⟨h80,h81⟩,by simp⟩ (T8.laid hl) (s3.trans ((sm_eq he8).trans (Sm.laid hl)))))
    (pss_cons (ps_set (i:=3) scPart.nd rfl (Or.inl rfl) (pe_call GL hr rfl mL FL.kp bL .nil pass0 (pa_cons (pv 1) (pa_cons (pv 2) pa_nil))))
    (pss_cons (ps_while PassesOwn.never (pt_cmpR (op_neE hu0) (pv 3) (pe_lst pa_nil) (nomark _))
     (pss_cons (ps_set (i:=2) scPart.nd rfl (Or.inl rfl) (pe_callB call_sortedI (by rfl) mSorted (by decide +kernel) (pa_cons (pe_op op_cat (pv 2) (pv 3)) pa_nil)))
     (pss_one (ps_set (i:=3) scPart.nd rfl (Or.inl rfl) (pe_call GL hr rfl mL FL.kp bL .nil pass0 (pa_cons (pv 1) (pa_cons (pv 2) pa_nil)))))))
    (pss_one (ps_ret (pe_callTy call_tuple_of (by rfl) mTuple (by decide +kernel) (pa_cons (pv 2) pa_nil))))))),?_⟩
   refine⟨_,rfl,fl,_,rfl,.inl (SqL.of hfl),?_⟩
   rw[List.length_map,hrl]
   refine⟨((n.toNat:Nat):Int),rfl,by omega,by omega,[.ref t],rfl,fun D hD=>?_⟩
   have nDt:=(T.ne hD).1
   have nDp:=(T.ne hD).2
   refine comp_range (lo:=0) (n:=n.toNat) (fun j ys H6=>j<=n.toNat/\(∃as:List Int,ys=as.map V.int/\(∀a∈as,0<=a/\a<j)/\as.Pairwise (· < ·)/\as.length<=j)/\FeedP H6 t p (N+j)/\Sm t H H6/\H6 D=some (.lst ys))
    ⟨Nat.zero_le _,⟨[],rfl,by simp,List.Pairwise.nil,Nat.le_refl _⟩,T.laid hD,Sm.laid hD,upd_same⟩ (fun j ys H6 z=>?_) (fun j ys H6 hj z=>?_) (fun ys H6 z=>?_)
   . obtain⟨_,⟨as,rfl,_,_,hk⟩,_⟩:=z
     rw[List.length_map]
     exact small_line (by omega)
   . obtain⟨_,⟨as,rfl,ha,nd,hk⟩,T6,s6,hD6⟩:=z
     rw[Int.zero_add]
     refine⟨⟨rfl,rfl⟩,?_⟩
     refine⟨_,rfl,t,p,_,3,rfl,T6,by omega,by decide,by decide,fun r7 H7 _ _ T7 he7=>?_⟩
     have s7:Sm t H6 H7:=sm_eq he7
     have hD7:=s7 _ _ nDt hD6
     refine⟨rfl,_,rfl,?_⟩
     refine ite2 (fun _=>?_) (fun _=>?_)
     . refine⟨_,rfl,hD7,by omega,⟨as++[(j:Int)],by rw[List.map_append];rfl,fun a q=>?_,?_,by rw[List.length_append];simp;omega⟩,T7.upd nDt nDp,(s6.trans s7).chg hD,upd_same⟩
       . rcases List.mem_append.mp q with z | z
         . have:=ha a z;omega
         . rw[List.mem_singleton.mp z];omega
       . exact List.pairwise_append.mpr ⟨nd,by simp,fun a q b z=>by rw[List.mem_singleton.mp z];exact (ha a q).2⟩
     . exact⟨by omega,⟨as,rfl,fun a q=>by have:=ha a q;omega,nd,by omega⟩,T7,s6.trans s7,hD7⟩
   obtain⟨_,⟨as,rfl,ha,nd,hk⟩,T6,s6,hD6⟩:=z
   refine⟨D,as,rfl,hD6,fun a q=>by have:=ha a q;omega,nd,(by obtain⟨ns,spot,rest,a,b,c,d,e,f⟩:=T6;exact⟨ns,spot,rest,a,b,c,d,by omega,f⟩),s6,fun so ps H7 hso PR T7 s7=>?_⟩
   have rw7:=rows_sm dd hfl LR s7
   refine⟨_,rfl,_,rfl,fl,so,rs,M,n,ts,ps,rfl,rw7.1,rw7.2,RR,G,h11,hso,PR,fun la ms H8 s8 _ hla hri hmm=>?_⟩
   have I0:PI t p fl so la (N+25) rs M n ts ps ms H H8:=by
    obtain⟨ns,spot,rest,a,b,c⟩:=id T7
    exact⟨s8 _ _ hso,hla,PR,hri,hmm,s8 _ _ rw7.1,rw7.2.same s8,⟨ns,spot,rest,s8 _ _ a,s8 _ _ b,c⟩,s7.trans (Sm.of s8)⟩
   refine⟨fun m σ H3=>∃(so la:Addr)(ps ms:List Int),σ=[some (.ref t),some (.ref fl),some (.ref so),some (.ref la)]/\m=n.toNat-ps.length/\PI t p fl so la (N+25) rs M n ts ps ms H H3,⟨_,so,la,ps,ms,rfl,rfl,I0⟩,?_⟩
   clear I0 hmm hri hla s8 rw7 s7 T7 PR hso nd ha hk hD6 s6 T6
   rintro m σ H3 ⟨so,la,ps,ms,rfl,rfl,I3⟩
   refine⟨_,rfl,by show 0<=sizeLine;decide,fun e0 he0=>?_⟩
   have I4:=I3.same (same_laid (o:=.lst []) he0)
   have h00:(upd H3 e0 (.lst [])) e0=some (.lst []):=upd_same
   generalize upd H3 e0 (.lst [])=H4 at I4 h00 ⊢
   have hpl:=I4.pr.len
   refine⟨la,e0,_,rfl,rfl,SqL.of I4.hla,SqL.of h00,_,rfl,?_⟩
   refine ite2 (fun hc=>?_) (fun hc=>?_)
   . have hm0:0<ms.length:=by
      cases ms with
      | nil=>cases hc
      | cons _ _=>exact Nat.succ_pos _
     have hml:ms.length<=60:=nd_len60 (I4.ri.imp fun h e=>by omega) fun z hz=>by
      obtain⟨_,x,hx,y,hy,a,b,ia,_⟩:=(I4.mm z).mp hz
      have xr:=I4.pr.rng x hx
      have:=ia.1.in_ G xr.1 xr.2
      omega
     refine⟨fun σ' H'=>∃(so la:Addr)(ps' ms':List Int),σ'=[some (.ref t),some (.ref fl),some (.ref so),some (.ref la)]/\ps.length<ps'.length/\PI t p fl so la (N+25) rs M n ts ps' ms' H H',fun σ' H' ⟨so',la',ps',ms',e,hlt,I'⟩=>⟨_,by have:=I'.pr.len;omega,so',la',ps',ms',e,rfl,I'⟩,?_⟩
     have hml':ms.length<=11:=by
      have:=nd_len (n:=n.toNat) (l:=ms) (I4.ri.imp fun h e=>by omega) fun z hz=>by
       obtain⟨_,x,hx,y,hy,a,b,ia,_⟩:=(I4.mm z).mp hz
       have xr:=I4.pr.rng x hx
       have:=ia.1.in_ G xr.1 xr.2
       omega
      omega
     refine⟨_,rfl,_,rfl,so,la,_,_,rfl,rfl,I4.hso,I4.hla,by rw[List.length_map,List.length_map];exact Nat.le_of_lt (small_line (by omega)),fun c hcn=>?_⟩
     have I5:=I4.same (same_laid (o:=.lst (ps.map V.int++ms.map V.int)) hcn)
     have hc5:(upd H4 c (.lst (ps.map V.int++ms.map V.int))) c=some (.lst ((ps++ms).map V.int)):=by rw[upd_same,List.map_append]
     generalize upd H4 c (.lst (ps.map V.int++ms.map V.int))=H5 at I5 hc5 ⊢
     refine⟨c,ps++ms,rfl,SqL.of hc5,by rw[List.length_append];omega,fun l ks hl hpm hle=>?_⟩
     have I6:=I5.same (same_laid (o:=.lst (ks.map V.int)) hl)
     have hl6:(upd H5 l (.lst (ks.map V.int))) l=some (.lst (ks.map V.int)):=upd_same
     generalize upd H5 l (.lst (ks.map V.int))=H6 at I6 hl6 ⊢
     have PR':=prt_more G I6.pr I6.ri I6.mm hpm hle
     refine⟨_,rfl,_,rfl,fl,l,rs,M,n,ts,ks,rfl,I6.hfl,I6.lr,RR,G,h11,hl6,PR',fun la' ms' H7 s7 _ hla' hri' hmm'=>?_⟩
     have I7:=I6.same s7
     exact⟨l,la',ks,ms',rfl,by rw[hpm.length_eq,List.length_append];omega,s7 _ _ hl6,hla',PR',hri',hmm',I7.hfl,I7.lr,I7.fd,I7.sm⟩
   . have hm:ms=[]:=by
      cases ms with
      | nil=>rfl
      | cons _ _=>exact absurd rfl hc
     subst hm
     refine⟨_,rfl,so,_,rfl,.inl ⟨SqL.of I4.hso,fun pa hpa=>?_⟩⟩
     have I5:=I4.same (same_laid (o:=.tup (ps.map V.int)) hpa)
     refine k pa ps _ upd_same ⟨I5.pr,fun x hx y hy q hq=>?_⟩ ⟨p,(by obtain⟨ns,spot,rest,a,b,c,d,e,f⟩:=I5.fd;exact⟨ns,spot,rest,a,b,c,d,by omega,f⟩)⟩ I5.sm
     apply Classical.byContradiction
     intro hn
     have:=(I5.mm q).mpr ⟨hn,x,hx,y,hy,hq⟩
     cases this
end
end K68
namespace K68
open PySem L2 WM
def enL (e:En):List (Option Int):=[some e.h,some e.l,e.u,e.d]
theorem sm_o {H:Hp}(o:Option Int):∀h,SM H h (oV o) (oV o)
 | 0=>⟨o,rfl,rfl⟩
 | _+1=>.inl ⟨o,rfl,rfl⟩
theorem sm_tup {H:Hp}{h:Nat}{p q:Addr}{xs:List (Option Int)}(hp:H p=some (.tup (xs.map oV)))(hq:H q=some (.tup (xs.map oV)))(hl:xs.length<=1000):SM H (h+1) (.ref p) (.ref q):=by
 refine .inr ⟨p,q,_,_,rfl,rfl,hp,hq,rfl,by rw[List.length_map];exact hl,fun i x y hx hy=>?_⟩
 rw[hx] at hy
 cases hy
 rw[List.getElem?_map] at hx
 cases e:xs[i]? with
 | none=>rw[e] at hx;cases hx
 | some o=>rw[e] at hx;cases hx;exact sm_o o h
theorem sm_labs {H:Hp}{p q:Addr}{ess:List (List En)}(a:LabsAt H p ess)(b:LabsAt H q ess)(hl:ess.length<=1000):SM H 4 (.ref p) (.ref q):=by
 obtain⟨as,a1,a2,a3⟩:=a
 obtain⟨bs,b1,b2,b3⟩:=b
 refine .inr ⟨p,q,_,_,rfl,rfl,a1,b1,by rw[List.length_map,List.length_map];omega,by rw[List.length_map];omega,fun i x y hx hy=>?_⟩
 rw[List.getElem?_map] at hx hy
 cases e:as[i]? with
 | none=>rw[e] at hx;cases hx
 | some u=>
  rw[e] at hx
  cases hx
  cases e':bs[i]? with
  | none=>rw[e'] at hy;cases hy
  | some v=>
   rw[e'] at hy
   cases hy
   obtain⟨es,e1,cs,c1,c2,c3⟩:=a3 i u e
   obtain⟨es',e2,ds,d1,d2,d3⟩:=b3 i v e'
   rw[e1] at e2
   cases e2
   refine .inr ⟨u,v,_,_,rfl,rfl,c1,d1,by rw[List.length_map,List.length_map,c2.1,d2.1],by rw[List.length_map,c2.1];exact c3,fun j x y hx hy=>?_⟩
   obtain⟨f,en,rfl,g1,g2⟩:=c2.at hx
   obtain⟨f',en',rfl,g1',g2'⟩:=d2.at hy
   rw[g1] at g1'
   cases g1'
   exact sm_tup (xs:=enL en) g2 g2' (by show 4<=1000;decide)
theorem tab_sm {t:Addr}{H H':Hp}{PT:Addr}{pos:Pos}{q:Str}{N:Nat}(T:TabAt H PT pos q)(F:FeedAt H t N)(s:Sm t H H'):TabAt H' PT pos q:=by
 obtain⟨p,ns,spot,rest,ht,_⟩:=F
 refine T.keep (fun o e=>?_) fun c φ e=>?_
 . refine s _ _ (fun z=>?_) e
   obtain⟨ps,hps,_⟩:=T
   rw[z,ht] at hps;cases hps
 . exact s _ _ (fun z=>by rw[z,ht] at e;cases e) e
theorem FeedAt.smT {t:Addr}{H H':Hp}{N:Nat}(F:FeedAt H t N)(s:SmT H H'):FeedAt H' t N:=by
 obtain⟨p,ns,spot,rest,ht,hp,r⟩:=F
 exact⟨p,ns,spot,rest,s.get ht (by intro ps z;cases z),s.get hp (by intro ps z;cases z),r⟩
theorem LabsAt.at {H:Hp}{ll:Addr}{ess:List (List En)}{n x:Int}(h:LabsAt H ll ess)(hl:ess.length=n.toNat)(h0:0<=x)(h1:x<n):∃(as:List Addr)(a:Addr)(es:List En),H ll=some (.tup (as.map V.ref))/\(as.map V.ref)[x.toNat]? = some (.ref a)/\ess[x.toNat]? = some es/\LabAt H a es:=by
 obtain⟨as,e1,e2,e3⟩:=h
 have hx:x.toNat<as.length:=by omega
 obtain⟨es,g1,g2⟩:=e3 x.toNat as[x.toNat] (List.getElem?_eq_getElem hx)
 exact⟨as,as[x.toNat],es,e1,by rw[List.getElem?_map,List.getElem?_eq_getElem hx];rfl,g1,g2⟩
theorem LabsAt.two {H:Hp}{ll:Addr}{ess:List (List En)}{n x y:Int}{ts:List T3}(h:LabsAt H ll ess)(g:LabsG ts n ess)(x0:0<=x)(x1:x<n)(y0:0<=y)(y1:y<n):∃(as:List Addr)(a b:Addr)(es fs:List En),H ll=some (.tup (as.map V.ref))/\(as.map V.ref)[x.toNat]? = some (.ref a)/\(as.map V.ref)[y.toNat]? = some (.ref b)/\LabAt H a es/\LabAt H b fs/\LG ts n x es/\LG ts n y fs/\CovP ts x y es fs:=by
 obtain⟨as,ax,ex,hll,gx,ix,lx⟩:=h.at g.ln x0 x1
 obtain⟨as2,ay,ey,hll2,gy,iy,ly⟩:=h.at g.ln y0 y1
 have eas:as2.map V.ref=as.map V.ref:=by rw[hll] at hll2;injection hll2 with h;injection h with h;exact h.symm
 rw[eas] at gy
 have Lx:=g.lg _ _ ix
 have Ly:=g.lg _ _ iy
 have Cxy:=g.cov _ _ _ _ ix iy
 rw[Int.toNat_of_nonneg x0] at Lx Cxy
 rw[Int.toNat_of_nonneg y0] at Ly Cxy
 exact⟨as,ax,ay,ex,ey,hll,gx,gy,lx,ly,Lx,Ly,Cxy⟩
theorem rk_ex {n:Int}{os:List Int}(O:Ordr n os):RkOf n os (ixP os):=fun p h0 h1=>by
 have:=ix_in (O.mem h0 h1)
 exact⟨this.1,this.2.2⟩
theorem ord_of {n:Int}{os:List Int}(h:os.Perm (lowTo n.toNat))(h0:0<=n):Ordr n os:=by
 have nd:(lowTo n.toNat).Nodup:=by
  unfold lowTo
  rw[List.Nodup,List.pairwise_map]
  exact List.nodup_range.imp fun h e=>h (by omega)
 refine⟨by rw[h.length_eq,ints_len],h.nodup_iff.mpr nd,fun p hp=>?_⟩
 have:=h.mem_iff.mp hp
 unfold lowTo at this
 obtain⟨j,hj,e⟩:=List.mem_map.mp this
 have:=List.mem_range.mp hj
 omega
theorem tup_sm {H H':Hp}{t:Addr}{N:Nat}(T:FeedAt H t N)(s:Sm t H H'):∀b ys,H b=some (.tup ys)->H' b=some (.tup ys):=fun b ys e=>by
 obtain⟨p,ns,spot,rest,ht,_⟩:=T
 exact s _ _ (ne_of e ht (by intro z;cases z)) e
theorem tup_smT {H H':Hp}(s:SmT H H'):∀b ys,H b=some (.tup ys)->H' b=some (.tup ys):=fun b ys e=>s.get e (by intro ps z;cases z)
theorem LRowsI.smT {H H':Hp}{rs:List Addr}{M:List (List (Option Int))}(h:LRowsI H rs M)(s:SmT H H'):LRowsI H' rs M:=h.keep fun b ys e _=>s.get e (by intro ps z;cases z)
def spRight (PT:Addr):Sp:=fun vs H Q _=>∃(wa oa pa:Addr)(n:Int)(ts:List T3)(os ps:List Int),vs=[.ref wa,.ref oa,.ref pa]/\WebAt H wa n ts/\H oa=some (.tup (os.map V.int))/\Ordr n os/\H pa=some (.tup (ps.map V.int))/\Cvx ts n ps/\Tb H PT/\∀H',SmT H H'->Tb H' PT->Q (.bl true) H'
def spLaw (K:PySem.W.Frag)(PT:Addr):Sp:=fun vs H Q _=>∃(a:Addr)(ns:List Int),vs=[.ref a]/\SqL K H a (ns.map V.int)/\ns.length<=63/\H PT=some (.tbl #[])/\∀H',Q (.bl true) H'
section
variable {P:Program}{w:World}{K:PySem.W.Frag}{mg:Str->Option Value}{base:Heap}{PT:Addr}
theorem scRight:FnScope ["_law_web_here", "_law_order_here", "_law_part_here", "_law_rows_here", "_law_labels", "_law_one", "_law_other", "_law_due"] ["_law_web_here", "_law_order_here", "_law_part_here"] (defScope sRight):=⟨rfl,rfl,rfl,by decide +kernel,rfl,by decide +kernel,by decide +kernel⟩
theorem ok_right {f fR fC fB fW fO fS fT:Addr}{fd' fdR fdC fdB fdW fdO fdS fdT:FuncData}(F:Fun K "_law_right" "_law_right" sRight f fd') (FR:Fun K "_law_rows" "_law_rows" sRows fR fdR) (bR:Binds K fdR ["_law_web_here"] []) (mR:mg "_law_rows" = some (.ref fR)) (GR:FnOk P w K mg base CX0 7 fR fdR ["_law_web_here"] spRows)
 (FC:Fun K "cut_down" "cut_down" sCutd fC fdC) (bC:Binds K fdC ["labels", "places"] []) (mC:mg "cut_down" = some (.ref fC)) (GC:FnOk P w K mg base CX0 7 fC fdC ["labels", "places"] spCutd)
 (FB:Fun K "by_order" "by_order" sByo fB fdB) (bB:Binds K fdB ["web", "order"] []) (mB:mg "by_order" = some (.ref fB)) (GB:FnOk P w K mg base CX0 7 fB fdB ["web", "order"] (spByo PT))
 (FW:Fun K "part_web" "part_web" sPweb fW fdW) (bW:Binds K fdW ["web", "thing"] []) (mW:mg "part_web" = some (.ref fW)) (GW':FnOk P w K mg base CX0 7 fW fdW ["web", "thing"] (spPweb PT))
 (FO:Fun K "part_order" "part_order" sPord fO fdO) (bO:Binds K fdO ["order", "places"] []) (mO:mg "part_order" = some (.ref fO)) (GO:FnOk P w K mg base CX0 7 fO fdO ["order", "places"] spPord)
 (FS:Fun K "_law_same" "_law_same" sSame fS fdS) (bS:Binds K fdS ["_law_found", "_law_due"] []) (mS:mg "_law_same" = some (.ref fS)) (GS:FnOk P w K mg base CX0 7 fS fdS ["_law_found", "_law_due"] (spSm 4))
 (FT:Fun K "told" "told" sTold fT fdT) (bT:Binds K fdT ["one", "other"] []) (mT:mg "told" = some (.ref fT)) (GT:FnOk P w K mg base CX0 7 fT fdT ["one", "other"] spTold) (mLen:mg "len" = none) (mRange:mg "range" = none):FnOk P w K mg base CX0 8 f fd' ["_law_web_here", "_law_order_here", "_law_part_here"] (spRight PT):=by
 refine F.ok scRight (fun vs H Q E h=>?_) (fun cdv A outer s H vs Q E hr h=>?_)
 . obtain⟨wa,oa,pa,n,ts,os,ps,rfl,_⟩:=h
   rfl
 . obtain⟨wa,oa,pa,n,ts,os,ps,rfl,W,hoa,O,hpa,C,TT,k⟩:=h
   obtain⟨ta,tys,_,_,_,G⟩:=id W
   have hn24:=G.n24
   have hpl:=C.pr.len
   have hol:=O.ln
   refine⟨_,pss_cons (ps_set (i:=3) scRight.nd rfl (Or.inl rfl) (pe_call GR hr rfl mR FR.kp bR .nil pass0 (pa_cons (pv 0) pa_nil)))
    (pss_cons (ps_set (i:=4) scRight.nd rfl (Or.inl rfl) (pe_call GC hr rfl mC FC.kp bC .nil pass0 (pa_cons (pe_call GB hr rfl mB FB.kp bB .nil pass0 (pa_cons (pv 0) (pa_cons (pv 1) pa_nil))) (pa_cons (pv 2) pa_nil))))
    (pss_cons (ps_if (pt_not (pt_val (pe_call GS hr rfl mS FS.kp bS .nil pass0 (pa_cons (pe_call GB hr rfl mB FB.kp bB .nil pass0 (pa_cons (pe_call GW' hr rfl mW FW.kp bW .nil pass0 (pa_cons (pv 0) (pa_cons (pv 2) pa_nil))) (pa_cons (pe_call GO hr rfl mO FO.kp bO .nil pass0 (pa_cons (pv 1) (pa_cons (pv 2) pa_nil))) pa_nil))) (pa_cons (pv 4) pa_nil))))) (pss_one (ps_ret pe_bl)) pss_nil)
    (pss_cons (ps_for PassesOwn.never rfl (pi_range1 rfl mRange (pa_cons (pe_callB call_len_seq (by rfl) mLen PySem.boot_len (pa_cons (pv 2) pa_nil)) pa_nil)) (pg_name (i:=5) scRight.nd rfl (Or.inl rfl))
     (pss_one (ps_for PassesOwn.never rfl (pi_range1 rfl mRange (pa_cons (pe_callB call_len_seq (by rfl) mLen PySem.boot_len (pa_cons (pv 2) pa_nil)) pa_nil)) (pg_name (i:=6) scRight.nd rfl (Or.inl rfl))
      (pss_cons (ps_set (i:=7) scRight.nd rfl (Or.inl rfl) (pe_ix ix_list (pe_ix ix_list (pv 3) (pe_ix ix_tup (pv 2) (pv 5) (fun _ _=>rfl)) (fun _ _=>rfl)) (pe_ix ix_tup (pv 2) (pv 6) (fun _ _=>rfl)) (fun _ _=>rfl)))
      (pss_one (ps_if (pt_not (pt_val (pe_call GS hr rfl mS FS.kp bS .nil pass0 (pa_cons (pe_call GT hr rfl mT FT.kp bT .nil pass0 (pa_cons (pe_ix ix_tup (pv 4) (pv 5) (fun _ _=>rfl)) (pa_cons (pe_ix ix_tup (pv 4) (pv 6) (fun _ _=>rfl)) pa_nil))) (pa_cons (pe_ifExp (pt_cmpR op_lt (pv 7) (pe_op op_pow pe_int pe_int) (nomark _)) (pv 7) pe_non) pa_nil))))) (pss_one (ps_ret pe_bl)) pss_nil))))))
    (pss_one (ps_ret pe_bl))))),?_⟩
   refine⟨_,rfl,wa,n,ts,rfl,W,fun fl rs M H1 s1 _ hfl LR RR=>?_⟩
   refine⟨_,rfl,_,rfl,wa,oa,n,ts,os,rfl,W.keep s1,s1 _ _ hoa,O,TT.same s1,fun lb ess rk H2 s2 T2 L2 R2 LO _=>?_⟩
   have tk2:∀b ys,H b=some (.tup ys)->H2 b=some (.tup ys):=fun b ys e=>tup_smT s2 _ _ (s1 _ _ e)
   refine⟨_,rfl,lb,pa,ps,ess,rfl,tk2 _ _ hpa,L2,C.pr.nd,by omega,cut_ok G C LO,fun lc H3 s3 L3=>?_⟩
   have tk3:∀b ys,H b=some (.tup ys)->H3 b=some (.tup ys):=fun b ys e=>s3 _ _ (tk2 b ys e)
   refine⟨_,rfl,_,rfl,wa,pa,n,ts,ps,rfl,W.keepT tk3,tk3 _ _ hpa,C,T2.same s3,fun wb H4 s4 T4 W4=>?_⟩
   have tk4:∀b ys,H b=some (.tup ys)->H4 b=some (.tup ys):=fun b ys e=>tup_smT s4 _ _ (tk3 b ys e)
   refine⟨_,rfl,_,rfl,oa,pa,n,os,ps,rfl,tk4 _ _ hoa,tk4 _ _ hpa,by omega,C.pr,fun ob H5 s5 hob=>?_⟩
   have O':=ordr_cut O C.pr
   have G':=gw_cut G C.pr
   refine⟨wb,ob,(ps.length:Int),cutT ps ts,cutO ps os,rfl,W4.keep s5,hob,O',T4.same s5,fun ld ess' rk' H6 s6 T6 L6 R6 LO' _=>?_⟩
   have LC:=labs_cut G C O R2 R6 LO
   have ee:ess'=cutLs ps ess:=LabsOf.uniq G' O'.nd R6 R6 LO' LC
   subst ee
   have sm36:SmT H3 H6:=(s4.trans (SmT.of s5)).trans s6
   have L36:LabsAt H6 lc (cutLs ps ess):=L3.keep (tup_smT sm36)
   refine⟨_,rfl,_,_,rfl,sm_labs L6 L36 (by rw[LC.1];omega),fun H7 s7=>?_⟩
   refine⟨_,rfl,iteF ?_⟩
   have sm07:SmT H H7:=(((SmT.of s1).trans s2).trans (SmT.of s3)).trans (sm36.trans (SmT.of s7))
   have sm17:SmT H1 H7:=(s2.trans (SmT.of s3)).trans (sm36.trans (SmT.of s7))
   have hpa7:=tup_smT sm07 _ _ hpa
   have hfl7:H7 fl=some (.lst (rs.map V.ref)):=sm17.get hfl (by intro ps z;cases z)
   have LR7:=LR.smT sm17
   have L7:=L36.keep fun b ys e=>s7 _ _ e
   have T7:=T6.same s7
   have LGd:=LC.good G' R6
   clear L36 sm36 L6 s6 T6 hob s5 W4 T4 s4 tk4 tk3 L3 s3 tk2 L2 T2 s2 hfl LR s1 sm17
   refine⟨_,rfl,pa,_,rfl,.inr (SqT.of hpa7),?_⟩
   rw[List.length_map]
   refine⟨(ps.length:Int),rfl,by omega,by omega,for_range (lo:=0) (n:=ps.length) (fun i σ H8=>∃v5 v6 v7:Option V,σ=[some (.ref wa),some (.ref oa),some (.ref pa),some (.ref fl),some (.ref lc),v5,v6,v7]/\Same H7 H8) ⟨_,_,_,rfl,Same.refl _⟩ (fun i σ H8 hi z=>?_) (fun σ H8 z=>?_)⟩
   . obtain⟨v5,v6,v7,rfl,s8⟩:=z
     rw[Int.zero_add]
     refine⟨_,rfl,pa,_,rfl,.inr (SqT.of (s8 _ _ hpa7)),?_⟩
     rw[List.length_map]
     refine⟨(ps.length:Int),rfl,by omega,by omega,for_range (lo:=0) (n:=ps.length) (fun j σ H9=>∃v6 v7:Option V,σ=[some (.ref wa),some (.ref oa),some (.ref pa),some (.ref fl),some (.ref lc),some (.int i),v6,v7]/\Same H7 H9) ⟨_,_,rfl,s8⟩ (fun j σ H9 hj z=>?_) (fun σ H9 z=>?_)⟩
     . obtain⟨v6,v7,rfl,s9⟩:=z
       rw[Int.zero_add]
       have hpa9:=s9 _ _ hpa7
       have LR9:=LR7.same s9
       have L9:=L7.keep fun b ys e=>s9 _ _ e
       have gi:ps[i]? = some ps[i]:=List.getElem?_eq_getElem hi
       have gj:ps[j]? = some ps[j]:=List.getElem?_eq_getElem hj
       have xm:=List.getElem_mem hi
       have ym:=List.getElem_mem hj
       have xr:=C.pr.rng _ xm
       have yr:=C.pr.rng _ ym
       obtain⟨ra,row,o,hra,hrow,hat,hlen⟩:=row_len LR9 RR xr.1 xr.2 yr.1 yr.2
       refine⟨_,rfl,_,rfl,_,rfl,pa,_,_,.int ps[i],rfl,rfl,SqT.of hpa9,atI_nat (by rw[List.getElem?_map,gi];rfl),fl,_,_,.ref ra,rfl,rfl,SqL.of (s9 _ _ hfl7),atI_in xr.1 (by rw[List.getElem?_map,hra];rfl),?_⟩
       refine⟨_,rfl,_,rfl,pa,_,_,.int ps[j],rfl,rfl,SqT.of hpa9,atI_nat (by rw[List.getElem?_map,gj];rfl),ra,_,_,_,rfl,rfl,SqL.of hrow,hat,?_⟩
       have lcut:=len_cut G C xm ym hlen
       rw[ix_at C.pr.nd gi,ix_at C.pr.nd gj] at lcut
       obtain⟨as,ax,ay,es,fs,hl,gx,gy,lx,ly,Lx,Ly,Cv⟩:=L9.two LGd (x:=(i:Int)) (y:=(j:Int)) (by omega) (by omega) (by omega) (by omega)
       refine⟨_,rfl,_,rfl,lc,_,_,.ref ax,rfl,rfl,SqT.of hl,atI_nat gx,_,rfl,_,rfl,lc,_,_,.ref ay,rfl,rfl,SqT.of hl,atI_nat gy,ax,ay,es,fs,rfl,lx,ly,Ly.hub,fun lm H10 s10 hm=>?_⟩
       have eo:lm.map (·.1)=o:=Len.uniq (told_right G' Lx Ly Cv hm).1 lcut
       rw[eo]
       refine⟨_,rfl,_,_,rfl,rfl,⟨by decide,by decide,by decide⟩,_,_,rfl,rfl,_,rfl,?_⟩
       show if decide (enc o<(10:Int) ^ (6:Int).toNat)=true then _ else _
       rw[show (10:Int) ^ (6:Int).toNat=1000000 from rfl]
       have fin:∀H11,Same H10 H11->∃v6 v7:Option V,[some (.ref wa),some (.ref oa),some (.ref pa),some (.ref fl),some (.ref lc),some (.int i),some (.int j),some (.int (enc o))]=[some (V.ref wa),some (.ref oa),some (.ref pa),some (.ref fl),some (.ref lc),some (.int i),v6,v7]/\Same H7 H11:=fun H11 s11=>⟨_,_,rfl,s9.trans (s10.trans s11)⟩
       cases o with
       | none=>
        refine ifF (decide_eq_false (by rw[enc_none];omega)) ?_
        refine⟨_,_,rfl,sm_o none 4,fun H11 s11=>?_⟩
        exact⟨_,rfl,iteF (fin H11 s11)⟩
       | some d=>
        obtain⟨e,e0,e1⟩:=enc_some G xr.1 xr.2 hlen
        rw[e] at fin
        rw[e]
        refine ifT (decide_eq_true (by omega)) ?_
        refine⟨_,rfl,_,_,rfl,sm_o (some d) 4,fun H11 s11=>?_⟩
        exact⟨_,rfl,iteF (fin H11 s11)⟩
     . obtain⟨v6,v7,rfl,s9⟩:=z
       exact⟨_,_,_,rfl,s9⟩
   . obtain⟨v5,v6,v7,rfl,s8⟩:=z
     exact k H8 (sm07.trans (SmT.of s8)) (T7.same s8)
end
end K68
namespace K68
open PySem L2 WM
section
variable {P:Program}{w:World}{K:PySem.W.Frag}{mg:Str->Option Value}{base:Heap}
theorem scLaw:FnScope ["_law_script", "_law_feed_here", "_law_k", "_law_web_here", "_law_order_here", "_law_part_here", "_law_inner", "_law_within", "_law_labels", "_law_once"] ["_law_script"] (defScope sLaw):=⟨rfl,rfl,rfl,by decide +kernel,rfl,by decide +kernel,by decide +kernel⟩
theorem ok_law {PT c f fFe fTk fSa fWe fRo fOd fLa fPt fRi fNu fWi fTo fRs fPl fAr fT fNe fF fLe fBw fNb fIp fHw fPw fNt fPo fCd fCl fNn fSu fTd fIo fBy fLb fIh fEb:Addr}{fd' fdFe fdTk fdSa fdWe fdRo fdOd fdLa fdPt fdRi fdNu fdWi fdTo fdRs fdPl fdAr fdT fdNe fdF fdLe fdBw fdNb fdIp fdHw fdPw fdNt fdPo fdCd fdCl fdNn fdSu fdTd fdIo fdBy fdLb fdIh fdEb:FuncData}(F:Fun K "law" "law" sLaw f fd') (CH:PySem.W.CodeHd base c PT)(hbm:BmAt mg base)
 (FFe:Fun K "_law_feed" "_law_feed" sFeed fFe fdFe) (bFe:Binds K fdFe ["_law_script"] []) (mFe:mg "_law_feed" = some (.ref fFe))
 (FTk:Fun K "_law_take" "_law_take" sTake fTk fdTk) (bTk:Binds K fdTk ["_law_feed_here", "_law_many"] []) (mTk:mg "_law_take" = some (.ref fTk))
 (FSa:Fun K "_law_same" "_law_same" sSame fSa fdSa) (bSa:Binds K fdSa ["_law_found", "_law_due"] []) (mSa:mg "_law_same" = some (.ref fSa))
 (FWe:Fun K "_law_web" "_law_web" sWebF fWe fdWe) (bWe:Binds K fdWe ["_law_feed_here", "_law_most"] []) (mWe:mg "_law_web" = some (.ref fWe))
 (FRo:Fun K "_law_rows" "_law_rows" sRows fRo fdRo) (bRo:Binds K fdRo ["_law_web_here"] []) (mRo:mg "_law_rows" = some (.ref fRo))
 (FOd:Fun K "_law_order" "_law_order" sOrdF fOd fdOd) (bOd:Binds K fdOd ["_law_feed_here", "_law_many"] []) (mOd:mg "_law_order" = some (.ref fOd))
 (FLa:Fun K "_law_lacks" "_law_lacks" sLacks fLa fdLa) (bLa:Binds K fdLa ["_law_rows_here", "_law_places"] []) (mLa:mg "_law_lacks" = some (.ref fLa))
 (FPt:Fun K "_law_part" "_law_part" sPart fPt fdPt) (bPt:Binds K fdPt ["_law_feed_here", "_law_rows_here"] []) (mPt:mg "_law_part" = some (.ref fPt))
 (FRi:Fun K "_law_right" "_law_right" sRight fRi fdRi) (bRi:Binds K fdRi ["_law_web_here", "_law_order_here", "_law_part_here"] []) (mRi:mg "_law_right" = some (.ref fRi))
 (FNu:Fun K "is_number" "is_number" sNum fNu fdNu) (bNu:Binds K fdNu ["thing"] []) (mNu:mg "is_number" = some (.ref fNu))
 (FWi:Fun K "is_within" "is_within" sWi fWi fdWi) (bWi:Binds K fdWi ["thing", "least", "most"] []) (mWi:mg "is_within" = some (.ref fWi))
 (FTo:Fun K "is_tuple_of" "is_tuple_of" sTof fTo fdTo) (bTo:Binds K fdTo ["thing", "count"] []) (mTo:mg "is_tuple_of" = some (.ref fTo))
 (FRs:Fun K "is_rising" "is_rising" sRis fRs fdRs) (bRs:Binds K fdRs ["things"] []) (mRs:mg "is_rising" = some (.ref fRs))
 (FPl:Fun K "is_place" "is_place" sPl fPl fdPl) (bPl:Binds K fdPl ["n", "thing"] []) (mPl:mg "is_place" = some (.ref fPl))
 (FAr:Fun K "are_places" "are_places" sArp fAr fdAr) (bAr:Binds K fdAr ["n", "thing"] []) (mAr:mg "are_places" = some (.ref fAr))
 (FT:Fun K "ties_at" "ties_at" sTies fT fdT) (bT:Binds K fdT ["web", "place"] []) (mT:mg "ties_at" = some (.ref fT))
 (FNe:FunC K "nearest" "nearest" sNear fNe fdNe c) (bNe:Binds K fdNe ["waiting"] []) (mNe:mg "nearest" = some (.ref fNe))
 (FF:Fun K "lengths_from" "lengths_from" sFrom fF fdF) (bF:Binds K fdF ["web", "start"] []) (mF:mg "lengths_from" = some (.ref fF))
 (FLe:Fun K "lengths" "lengths" sLens fLe fdLe) (bLe:Binds K fdLe ["web"] []) (mLe:mg "lengths" = some (.ref fLe))
 (FBw:Fun K "between_rows" "between_rows" sBwr fBw fdBw) (bBw:Binds K fdBw ["here", "there", "other"] []) (mBw:mg "between_rows" = some (.ref fBw))
 (FNb:Fun K "next_by_row" "next_by_row" sNbr fNb fdNb) (bNb:Binds K fdNb ["web", "one", "there"] []) (mNb:mg "next_by_row" = some (.ref fNb))
 (FIp:Fun K "is_part" "is_part" sIsP fIp fdIp) (bIp:Binds K fdIp ["web", "thing"] []) (mIp:mg "is_part" = some (.ref fIp))
 (FHw:Fun K "holds_ways_from" "holds_ways_from" sHold fHw fdHw) (bHw:Binds K fdHw ["rows", "places", "one"] []) (mHw:mg "holds_ways_from" = some (.ref fHw))
 (FPw:Fun K "part_web" "part_web" sPweb fPw fdPw) (bPw:Binds K fdPw ["web", "thing"] []) (mPw:mg "part_web" = some (.ref fPw))
 (FNt:Fun K "new_tie" "new_tie" sNtie fNt fdNt) (bNt:Binds K fdNt ["places", "tie"] []) (mNt:mg "new_tie" = some (.ref fNt))
 (FPo:Fun K "part_order" "part_order" sPord fPo fdPo) (bPo:Binds K fdPo ["order", "places"] []) (mPo:mg "part_order" = some (.ref fPo))
 (FCd:Fun K "cut_down" "cut_down" sCutd fCd fdCd) (bCd:Binds K fdCd ["labels", "places"] []) (mCd:mg "cut_down" = some (.ref fCd))
 (FCl:Fun K "cut_label" "cut_label" sCutl fCl fdCl) (bCl:Binds K fdCl ["label", "places"] []) (mCl:mg "cut_label" = some (.ref fCl))
 (FNn:Fun K "new_entry" "new_entry" sNent fNn fdNn) (bNn:Binds K fdNn ["places", "entry"] []) (mNn:mg "new_entry" = some (.ref fNn))
 (FSu:Fun K "least_sum" "least_sum" sSum fSu fdSu) (bSu:Binds K fdSu ["one", "other"] []) (mSu:mg "least_sum" = some (.ref fSu))
 (FTd:Fun K "told" "told" sTold fTd fdTd) (bTd:Binds K fdTd ["one", "other"] []) (mTd:mg "told" = some (.ref fTd))
 (FIo:Fun K "is_order" "is_order" sOrd fIo fdIo) (bIo:Binds K fdIo ["web", "thing"] []) (mIo:mg "is_order" = some (.ref fIo))
 (FBy:Fun K "by_order" "by_order" sByo fBy fdBy) (bBy:Binds K fdBy ["web", "order"] []) (mBy:mg "by_order" = some (.ref fBy))
 (FLb:Fun K "label_by_ranks" "label_by_ranks" sLbr fLb fdLb) (bLb:Binds K fdLb ["web", "rows", "ranks", "place"] []) (mLb:mg "label_by_ranks" = some (.ref fLb))
 (FIh:Fun K "is_hub" "is_hub" sIsh fIh fdIh) (bIh:Binds K fdIh ["rows", "ranks", "hub", "place"] []) (mIh:mg "is_hub" = some (.ref fIh))
 (FEb:Fun K "entry_by_rows" "entry_by_rows" sEbr fEb fdEb) (bEb:Binds K fdEb ["web", "rows", "place", "hub"] []) (mEb:mg "entry_by_rows" = some (.ref fEb))
 (mLen:mg "len" = none) (mRange:mg "range" = none) (mTuple:mg "tuple" = none) (mSorted:mg "sorted" = none) (mMin:mg "min" = none) (mMax:mg "max" = none) (mList:mg "list" = none) (mIsi:mg "isinstance" = none) (mInt:mg "int" = none) (mBool:mg "bool" = none) (mAll:mg "all" = none) (mSet:mg "set" = none) (mZip:mg "zip" = none) (mDict:mg "dict" = none):FnOk P w K mg base CX0 13 f fd' ["_law_script"] (spLaw K PT):=by
 have GFe:FnOk P w K mg base CX0 12 fFe fdFe ["_law_script"] (spFeed K):=(ok_feed FFe mInt).mono (by decide)
 have GTk:FnOk P w K mg base CX0 12 fTk fdTk ["_law_feed_here", "_law_many"] spTake:=(ok_take FTk mLen).mono (by decide)
 have GWe:FnOk P w K mg base CX0 12 fWe fdWe ["_law_feed_here", "_law_most"] spWebF:=(ok_webF FWe FTk bTk mTk mLen mRange mTuple mSorted).mono (by decide)
 have GOd:FnOk P w K mg base CX0 12 fOd fdOd ["_law_feed_here", "_law_many"] spOrdF:=(ok_ordF FOd FTk bTk mTk mLen mRange mList mTuple).mono (by decide)
 have GF:FnOk P w K mg base CX0 3 fF fdF ["web", "start"] (spFrom PT):=ok_from FF FNe bNe mNe FT bT mT CH hbm mMin mSorted mTuple
 have GLe:FnOk P w K mg base CX0 5 fLe fdLe ["web"] (spLens PT):=(ok_lens FLe FF bF mF GF mRange mTuple).mono (by decide)
 have GIo:FnOk P w K mg base CX0 5 fIo fdIo ["web", "thing"] spOrd:=(ok_ord FIo FTo bTo mTo FWi bWi mWi FPl bPl mPl FNu bNu mNu mIsi mInt mBool mTuple mLen mAll mSet).mono (by decide)
 have GIh:FnOk P w K mg base CX0 4 fIh fdIh ["rows", "ranks", "hub", "place"] spIsh:=(ok_ish FIh FBw bBw mBw mRange mTuple mLen mAll).mono (by decide)
 have GEb:FnOk P w K mg base CX0 4 fEb fdEb ["web", "rows", "place", "hub"] spEbr:=ok_ebr FEb FNb bNb mNb FT bT mT mSorted mTuple mMin
 have GLb:FnOk P w K mg base CX0 5 fLb fdLb ["web", "rows", "ranks", "place"] spLbr:=ok_lbr FLb FIh bIh mIh GIh FEb bEb mEb GEb mRange mTuple
 have GBy:FnOk P w K mg base CX0 6 fBy fdBy ["web", "order"] (spByo PT):=ok_byo FBy FIo bIo mIo GIo FLe bLe mLe GLe FLb bLb mLb GLb mRange mTuple
 have GBy7:FnOk P w K mg base CX0 7 fBy fdBy ["web", "order"] (spByo PT):=GBy.mono (by decide)
 have GBy':FnOk P w K mg base CX0 12 fBy fdBy ["web", "order"] (spByo PT):=GBy.mono (by decide)
 have GPl:FnOk P w K mg base CX0 3 fPl fdPl ["n", "thing"] spPl:=ok_pl FPl FWi bWi mWi FNu bNu mNu mIsi mInt mBool
 have GAr:FnOk P w K mg base CX0 5 fAr fdAr ["n", "thing"] spArp:=(ok_arp FAr FPl bPl mPl GPl FRs bRs mRs mIsi mTuple mLen mRange mAll).mono (by decide)
 have GHw:FnOk P w K mg base CX0 5 fHw fdHw ["rows", "places", "one"] spHold:=(ok_hold FHw FBw bBw mBw mRange mTuple mLen mAll).mono (by decide)
 have GIp:FnOk P w K mg base CX0 6 fIp fdIp ["web", "thing"] (spIsP PT):=ok_isP FIp FAr bAr mAr GAr FLe bLe mLe GLe FHw bHw mHw GHw mAll
 have GPw:FnOk P w K mg base CX0 7 fPw fdPw ["web", "thing"] (spPweb PT):=ok_pweb FPw FIp bIp mIp GIp FNt bNt mNt mLen mTuple
 have GPw':FnOk P w K mg base CX0 12 fPw fdPw ["web", "thing"] (spPweb PT):=GPw.mono (by decide)
 have GPo:FnOk P w K mg base CX0 7 fPo fdPo ["order", "places"] spPord:=(ok_pord FPo mTuple).mono (by decide)
 have GPo':FnOk P w K mg base CX0 12 fPo fdPo ["order", "places"] spPord:=GPo.mono (by decide)
 have GCl:FnOk P w K mg base CX0 2 fCl fdCl ["label", "places"] spCutl:=ok_cutl FCl FNn bNn mNn mTuple
 have GCd:FnOk P w K mg base CX0 7 fCd fdCd ["labels", "places"] spCutd:=(ok_cutd FCd FCl bCl mCl GCl mTuple).mono (by decide)
 have GCd':FnOk P w K mg base CX0 12 fCd fdCd ["labels", "places"] spCutd:=GCd.mono (by decide)
 have GTd:FnOk P w K mg base CX0 7 fTd fdTd ["one", "other"] spTold:=(ok_told FTd FSu bSu mSu mDict mMin).mono (by decide)
 have GS4:FnOk P w K mg base CX0 7 fSa fdSa ["_law_found", "_law_due"] (spSm 4):=(ok_sameM FSa bSa mSa mIsi mTuple mList mBool mLen mZip 4).mono (by decide)
 have GS4':FnOk P w K mg base CX0 12 fSa fdSa ["_law_found", "_law_due"] (spSm 4):=GS4.mono (by decide)
 have GRo:FnOk P w K mg base CX0 7 fRo fdRo ["_law_web_here"] spRows:=(ok_rows FRo mRange mInt mMin).mono (by decide)
 have GRo':FnOk P w K mg base CX0 12 fRo fdRo ["_law_web_here"] spRows:=GRo.mono (by decide)
 have GPt:FnOk P w K mg base CX0 12 fPt fdPt ["_law_feed_here", "_law_rows_here"] spPart:=(ok_part FPt FTk bTk mTk FLa bLa mLa mLen mRange mTuple mSorted mSet).mono (by decide)
 have GRi:FnOk P w K mg base CX0 12 fRi fdRi ["_law_web_here", "_law_order_here", "_law_part_here"] (spRight PT):=(ok_right FRi FRo bRo mRo GRo FCd bCd mCd GCd FBy bBy mBy GBy7 FPw bPw mPw GPw FPo bPo mPo GPo FSa bSa mSa GS4 FTd bTd mTd GTd mLen mRange).mono (by decide)
 refine F.ok scLaw (fun vs H Q E h=>?_) (fun cdv A outer s H vs Q E hr h=>?_)
 . obtain⟨a,ns,rfl,_⟩:=h
   rfl
 . obtain⟨a,ns,rfl,hS,hlen,hPT,kF⟩:=h
   refine⟨_,pss_cons (ps_set (i:=1) scLaw.nd rfl (Or.inl rfl) (pe_call GFe hr rfl mFe FFe.kp bFe .nil pass0 (pa_cons (pv 0) pa_nil)))
    (pss_cons (ps_for PassesOwn.never rfl (pi_range1 rfl mRange (pa_int pa_nil)) (pg_name (i:=2) scLaw.nd rfl (Or.inl rfl))
     (pss_cons (ps_set (i:=3) scLaw.nd rfl (Or.inl rfl) (pe_call GWe hr rfl mWe FWe.kp bWe .nil pass0 (pa_cons (pv 1) (pa_cons (pe_ix ix_list (pe_lst (pa_int (pa_int (pa_int (pa_int (pa_int (pa_int (pa_int (pa_int pa_nil))))))))) (pe_call GTk hr rfl mTk FTk.kp bTk .nil pass0 (pa_cons (pv 1) (pa_int pa_nil))) (fun _ _=>rfl)) pa_nil))))
     (pss_cons (ps_set (i:=4) scLaw.nd rfl (Or.inl rfl) (pe_call GOd hr rfl mOd FOd.kp bOd .nil pass0 (pa_cons (pv 1) (pa_cons (pe_ix ix_tup (pv 3) pe_int (fun _ _=>rfl)) pa_nil))))
     (pss_cons (ps_set (i:=5) scLaw.nd rfl (Or.inr rfl) (pe_call GPt hr rfl mPt FPt.kp bPt .nil pass0 (pa_cons (pv 1) (pa_cons (pe_call GRo' hr rfl mRo FRo.kp bRo .nil pass0 (pa_cons (pv 3) pa_nil)) pa_nil))))
     (pss_cons (ps_if (pt_not (pt_val (pe_call GRi hr rfl mRi FRi.kp bRi .nil pass0 (pa_cons (pv 3) (pa_cons (pv 4) (pa_cons (pv 5) pa_nil)))))) (pss_one (ps_ret pe_bl)) pss_nil)
     (pss_cons (ps_set (i:=6) scLaw.nd rfl (Or.inl rfl) (pe_call GPw' hr rfl mPw FPw.kp bPw .nil pass0 (pa_cons (pv 3) (pa_cons (pv 5) pa_nil))))
     (pss_cons (ps_set (i:=7) scLaw.nd rfl (Or.inl rfl) (pe_call GPt hr rfl mPt FPt.kp bPt .nil pass0 (pa_cons (pv 1) (pa_cons (pe_call GRo' hr rfl mRo FRo.kp bRo .nil pass0 (pa_cons (pv 6) pa_nil)) pa_nil))))
     (pss_cons (ps_if (pt_not (pt_val (pe_call GRi hr rfl mRi FRi.kp bRi .nil pass0 (pa_cons (pv 6) (pa_cons (pe_call GPo' hr rfl mPo FPo.kp bPo .nil pass0 (pa_cons (pv 4) (pa_cons (pv 5) pa_nil))) (pa_cons (pv 7) pa_nil)))))) (pss_one (ps_ret pe_bl)) pss_nil)
     (pss_cons (ps_set (i:=8) scLaw.nd rfl (Or.inl rfl) (pe_call GBy' hr rfl mBy FBy.kp bBy .nil pass0 (pa_cons (pv 3) (pa_cons (pv 4) pa_nil))))
     (pss_cons (ps_set (i:=9) scLaw.nd rfl (Or.inl rfl) (pe_call GCd' hr rfl mCd FCd.kp bCd .nil pass0 (pa_cons (pv 8) (pa_cons (pe_callTy call_tuple_of (by rfl) mTuple (by decide +kernel) (pa_cons (pe_comp (own:=["_law_place"]) (cn:=["_law_part_here"]) (ci:=[5]) rfl (csc rfl rfl) ⟨rfl,rfl,rfl,trivial⟩ rfl
      (pi_tup (pv 7)) (fun _ _ _ _=>pg_name (i:=0) (nd_of rfl) rfl (Or.inl rfl)) (fun _ _ _ _=>pts_nil) (fun _ _ _ _=>pe_ix ix_tupC (pv 1) (pv 0) (fun _ _=>rfl))) pa_nil)) pa_nil))))
     (pss_one (ps_if (pt_not (pt_val (pe_call GS4' hr rfl mSa FSa.kp bSa .nil pass0 (pa_cons (pe_call GCd' hr rfl mCd FCd.kp bCd .nil pass0 (pa_cons (pe_call GCd' hr rfl mCd FCd.kp bCd .nil pass0 (pa_cons (pv 8) (pa_cons (pv 5) pa_nil))) (pa_cons (pv 7) pa_nil))) (pa_cons (pv 9) pa_nil))))) (pss_one (ps_ret pe_bl)) pss_nil))))))))))))
    (pss_one (ps_ret pe_bl))),?_⟩
   refine⟨_,rfl,a,ns,rfl,hS,hlen,fun t H1 ht T1 s1=>?_⟩
   have B1:Tb H1 PT:=⟨#[],s1 _ _ hPT,trivial,.inl rfl⟩
   refine⟨2,rfl,by decide,by decide,for_range (lo:=0) (n:=2) (fun q σ H2=>∃v2 v3 v4 v5 v6 v7 v8 v9:Option V,σ=[some (.ref a),some (.ref t),v2,v3,v4,v5,v6,v7,v8,v9]/\FeedAt H2 t (1000*q)/\Tb H2 PT) ⟨_,_,_,_,_,_,_,_,rfl,T1,B1⟩ (fun q σ H2 hq z=>?_) (fun σ H2 z=>?_)⟩
   . obtain⟨v2,v3,v4,v5,v6,v7,v8,v9,rfl,T2,B2⟩:=z
     rw[Int.zero_add]
     clear T1 B1
     refine⟨_,rfl,by show 8<=sizeLine;decide,fun l hl=>?_⟩
     have sl:=same_laid (o:=.lst (([8,8,8,8,8,8,8,11]:List Int).map V.int)) hl
     refine⟨_,rfl,t,_,8,rfl,T2.keep sl,by omega,by decide,by decide,fun r H3 h30 h31 T3 he3=>?_⟩
     obtain⟨mo,hmo,hat⟩:=menu_at (L:=[8,8,8,8,8,8,8,11]) (r:=r) (by omega) (by show r<8;omega)
     have hmb:1<=mo/\mo<=11:=by
      have:∀m∈([8,8,8,8,8,8,8,11]:List Int),1<=m/\m<=11:=by decide
      exact this mo hmo
     have nl:l≠t:=T2.ne hl
     refine⟨l,_,_,_,rfl,rfl,SqL.of (by rw[he3 l nl];exact upd_same),hat,?_⟩
     have B3:Tb H3 PT:=tab_sm (B2.same sl) (T2.keep sl) (sm_eq he3)
     refine⟨t,_,mo,rfl,T3,by omega,hmb.1,by omega,fun wa n ts H4 _ hnm W4 T4 s4=>?_⟩
     have B4:Tb H4 PT:=tab_sm B3 T3 s4
     obtain⟨ta,tys,hwa,_,_,G⟩:=id W4
     have hn1:=G.n1
     have h11:n<=11:=by omega
     clear B3 T3 s4 nl hmb hat hmo he3 sl T2 B2
     refine⟨_,rfl,_,rfl,wa,_,_,.int n,rfl,rfl,SqT.of hwa,rfl,t,_,n,rfl,T4,by omega,by omega,by omega,fun oa os H5 _ hoa hpm T5 s5=>?_⟩
     have B5:Tb H5 PT:=tab_sm B4 T4 s5
     have W5:WebAt H5 wa n ts:=W4.keepT (tup_sm T4 s5)
     have O:=ord_of hpm (by omega)
     clear B4 W4 hwa
     refine⟨_,rfl,_,rfl,wa,n,ts,rfl,W5,fun fl rs M H6 s6 _ hfl LR RR=>?_⟩
     have T6:=T5.keep s6
     refine⟨t,fl,_,rs,M,n,ts,rfl,T6,by omega,hfl,LR,RR,G,h11,fun pa ps H7 hpa C T7 s7=>?_⟩
     have tk57:∀b ys,H5 b=some (.tup ys)->H7 b=some (.tup ys):=fun b ys e=>tup_sm T6 s7 b ys (s6 _ _ e)
     have B7:Tb H7 PT:=tab_sm (B5.same s6) T6 s7
     have W7:=W5.keepT tk57
     have hoa7:=tk57 _ _ hoa
     clear tk57 T6 s7 s6 hfl LR W5 B5 hoa s5 T4 T5
     refine⟨_,rfl,_,rfl,_,rfl,wa,oa,pa,n,ts,os,ps,rfl,W7,hoa7,O,hpa,C,B7,fun H8 s8 B8=>?_⟩
     refine⟨_,rfl,iteF ?_⟩
     have tk8:=tup_smT s8
     have T8:=T7.smT s8
     have W8:=W7.keepT tk8
     have hoa8:=tk8 _ _ hoa7
     have hpa8:=tk8 _ _ hpa
     clear tk8 s8 B7 W7 hoa7 T7 hpa
     refine⟨_,rfl,_,rfl,wa,pa,n,ts,ps,rfl,W8,hpa8,C,B8,fun wb H9 s9 B9 W9=>?_⟩
     have tk9:=tup_smT s9
     have T9:=T8.smT s9
     have W9a:=W8.keepT tk9
     have hoa9:=tk9 _ _ hoa8
     have hpa9:=tk9 _ _ hpa8
     clear tk9 s9 B8 W8 hoa8 T8 hpa8
     have G':=gw_cut G C.pr
     have hpl:=C.pr.len
     refine⟨_,rfl,_,rfl,wb,(ps.length:Int),cutT ps ts,rfl,W9,fun fl2 rs2 M2 H10 s10 _ hfl2 LR2 RR2=>?_⟩
     have T10:=T9.keep s10
     refine⟨t,fl2,_,rs2,M2,(ps.length:Int),cutT ps ts,rfl,T10,by omega,hfl2,LR2,RR2,G',by omega,fun wi ws H11 hwi CW T11 s11=>?_⟩
     have tk11:∀b ys,H9 b=some (.tup ys)->H11 b=some (.tup ys):=fun b ys e=>tup_sm T10 s11 b ys (s10 _ _ e)
     have B11:Tb H11 PT:=tab_sm (B9.same s10) T10 s11
     have W11:=W9.keepT tk11
     have W11a:=W9a.keepT tk11
     have hoa11:=tk11 _ _ hoa9
     have hpa11:=tk11 _ _ hpa9
     clear tk11 T10 s11 s10 hfl2 LR2 W9 W9a B9 hoa9 hpa9 T9
     have hol:=O.ln
     refine⟨_,rfl,_,rfl,_,rfl,oa,pa,n,os,ps,rfl,hoa11,hpa11,by omega,C.pr,fun ob H12 s12 hob=>?_⟩
     have O':=ordr_cut O C.pr
     refine⟨_,rfl,wb,ob,wi,(ps.length:Int),cutT ps ts,cutO ps os,ws,rfl,W11.keep s12,hob,O',s12 _ _ hwi,CW,B11.same s12,fun H13 s13 B13=>?_⟩
     refine⟨_,rfl,iteF ?_⟩
     have tk13:∀b ys,H11 b=some (.tup ys)->H13 b=some (.tup ys):=fun b ys e=>tup_smT s13 b ys (s12 _ _ e)
     have T13:=(T11.keep s12).smT s13
     have W13:=W11a.keepT tk13
     have hoa13:=tk13 _ _ hoa11
     have hpa13:=tk13 _ _ hpa11
     have hwi13:=tk13 _ _ hwi
     clear tk13 s13 s12 hob B11 W11 W11a hoa11 hpa11 hwi T11
     refine⟨_,rfl,_,rfl,wa,oa,n,ts,os,rfl,W13,hoa13,O,B13,fun lb ess rk H14 s14 B14 L14 R14 LO _=>?_⟩
     have tk14:=tup_smT s14
     have T14:=T13.smT s14
     have hpa14:=tk14 _ _ hpa13
     have hwi14:=tk14 _ _ hwi13
     clear tk14 s14 B13 W13 hoa13 hpa13 hwi13 T13
     have LC:=labs_cut G C O R14 (rk_ex O') LO
     have CC:=cvx_comp G C CW
     have hwl:=CW.pr.len
     refine⟨_,rfl,_,rfl,wi,rfl,⟨_,SqT.of hwi14⟩,[.ref pa],rfl,fun D hD=>?_⟩
     refine comp_tup (a:=wi) (xs:=ws.map V.int) (fun i ys H15=>i<=ws.length/\ys=((ws.take i).map (atP ps)).map V.int/\H15=upd H14 D (.lst ys)) ⟨Nat.zero_le _,rfl,rfl⟩ (fun i ys H15 z=>?_) (fun i ys H15 z=>?_) (fun i v ys H15 hv z=>?_) (fun ys H15 z=>?_)
     . obtain⟨_,rfl,rfl⟩:=z
       exact SqT.of (same_laid hD _ _ hwi14)
     . obtain⟨hi,rfl,_⟩:=z
       rw[List.length_map,List.length_map,List.length_take]
       exact small_line (by omega)
     . obtain⟨_,rfl,rfl⟩:=z
       obtain⟨u,hu,rfl⟩:=int_at hv
       have hul:=(List.getElem?_eq_some_iff.mp hu).1
       have ur:=CW.pr.rng u (List.mem_of_getElem? hu)
       refine⟨⟨rfl,rfl⟩,?_⟩
       refine tyes ?_
       refine⟨_,rfl,_,rfl,pa,_,_,.int (atP ps u),rfl,rfl,SqT.of (same_laid hD _ _ hpa14),atI_in ur.1 (by rw[List.getElem?_map,atP_get ur.1 ur.2];rfl),upd_same,by omega,?_,upd_upd⟩
       rw[List.take_add_one,hu,List.map_append,List.map_append];rfl
     obtain⟨_,rfl,rfl⟩:=z
     rw[List.length_map,List.take_of_length_le (Nat.le_refl _)]
     refine⟨D,_,rfl,.inl ⟨SqL.of upd_same,fun ca hca=>?_⟩⟩
     have s15:=(same_laid (o:=.lst ((ws.map (atP ps)).map V.int)) hD).trans (same_laid (o:=.tup ((ws.map (atP ps)).map V.int)) hca)
     have hca16:(upd (upd H14 D (.lst ((ws.map (atP ps)).map V.int))) ca (.tup ((ws.map (atP ps)).map V.int))) ca=some (.tup ((ws.map (atP ps)).map V.int)):=upd_same
     generalize upd (upd H14 D (.lst ((ws.map (atP ps)).map V.int))) ca (.tup ((ws.map (atP ps)).map V.int))=H16 at s15 hca16 ⊢
     refine⟨lb,ca,ws.map (atP ps),ess,rfl,hca16,L14.keep fun b ys e=>s15 _ _ e,CC.pr.nd,by rw[List.length_map];omega,cut_ok G CC LO,fun on H17 s17 L17=>?_⟩
     have s47:=s15.trans s17
     refine⟨_,rfl,_,rfl,lb,pa,ps,ess,rfl,s47 _ _ hpa14,L14.keep fun b ys e=>s47 _ _ e,C.pr.nd,by omega,cut_ok G C LO,fun c1 H18 s18 L18=>?_⟩
     refine⟨_,rfl,c1,wi,ws,cutLs ps ess,rfl,s18 _ _ (s47 _ _ hwi14),L18,CW.pr.nd,by omega,cut_ok G' CW LC,fun c2 H19 s19 L19=>?_⟩
     rw[cutLs_comp C.pr.nd CW.pr] at L19
     refine⟨_,rfl,_,_,rfl,sm_labs L19 (L17.keep fun b ys e=>s19 _ _ (s18 _ _ e)) (by unfold cutLs;rw[List.length_map,List.length_map];omega),fun H20 s20=>?_⟩
     refine⟨_,rfl,iteF ?_⟩
     have s40:=s47.trans (s18.trans (s19.trans s20))
     exact⟨_,_,_,_,_,_,_,_,rfl,(T14.keep s40).mono (by omega),B14.same s40⟩
   . exact kF _
end
end K68
namespace K68
open PySem L2 WM
abbrev sT:String->Str:=Str.ofString
abbrev kH:=PyData.keyHash
abbrev dE:=DictEntry.mk
abbrev vS:=Value.str
abbrev vI:=Value.int
abbrev vR:=Value.ref
abbrev vB:=Value.bool
abbrev vN:Value:=Value.none
abbrev vT:=Value.type
abbrev oM:=Obj.mk
abbrev cQ (x:Array Value):Obj:=oM (vT "code") .none (.fields x) #[]
abbrev fQ (x:FuncData):Obj:=oM (vT "function") .none (.func x) #[]
abbrev fT (x:String)(i:Nat)(m:Value)(c:Nat):Obj:=fQ (.mk (sT x) (sT x) (L2.defArgs (top i)) (FuncBody.stmts (L2.defBody (top i))) (L2.defScope (top i)) 3 [] vN vN vN m .none (vR c) vN 0)
abbrev qS (x:String)(n:Nat):Value:=vS (sT x) n
abbrev kE (P:Params)(x:String)(n:Nat):Value->DictEntry:=dE (kH P (sT x)) (qS x n)
def Kf:Params->PySem.W.Frag:=fun P=>[
(2,oM vN .none (Data.dict #[]) #[]),
(3,oM (vT "dict") .none (Data.dict #[kE P "__name__" 165 (qS "law_labelways_k68_whole_labels_of_a_part" 449),kE P "__doc__" 166 vN,kE P "__package__" 167 vN,kE P "__loader__" 168 (Value.builtin "__main__.__loader__#opaque"),kE P "__spec__" 169 vN,kE P "__annotations__" 170 (vR 6),kE P "__builtins__" 171 (vR 4),kE P "__file__" 173 (qS "/claim/cut.py" 172),kE P "__cached__" 174 vN,kE P "WayError" 206 (vR 24),kE P "NoOrder" 222 (vR 37),kE P "NoPart" 238 (vR 49),kE P "is_number" 247 (vR 58),kE P "is_within" 256 (vR 65),kE P "is_tuple_of" 264 (vR 72),kE P "is_rising" 270 (vR 77),kE P "is_place" 278 (vR 84),kE P "are_places" 284 (vR 89),kE P "ties_at" 298 (vR 96),kE P "lengths" 306 (vR 101),kE P "lengths_from" 320 (vR 108),kE P "nearest" 328 (vR 115),kE P "between_rows" 334 (vR 120),kE P "next_by_row" 340 (vR 125),kE P "is_part" 348 (vR 130),kE P "holds_ways_from" 354 (vR 135),kE P "part_web" 360 (vR 140),kE P "new_tie" 368 (vR 147),kE P "part_order" 374 (vR 152),kE P "cut_down" 380 (vR 157),kE P "cut_label" 386 (vR 162),kE P "new_entry" 394 (vR 169),kE P "told" 404 (vR 176),kE P "least_sum" 410 (vR 181),kE P "is_order" 418 (vR 186),kE P "by_order" 424 (vR 191),kE P "label_by_ranks" 430 (vR 196),kE P "is_hub" 436 (vR 201),kE P "entry_by_rows" 448 (vR 208),kE P "_law_feed" 457 (vR 215),kE P "_law_take" 469 (vR 222),kE P "_law_same" 475 (vR 227),kE P "_law_web" 481 (vR 232),kE P "_law_rows" 487 (vR 237),kE P "_law_order" 497 (vR 244),kE P "_law_lacks" 503 (vR 249),kE P "_law_part" 509 (vR 254),kE P "_law_right" 523 (vR 261),kE P "law" 529 (vR 266)] 49) #[]),
(23,oM (vT "dict") .none (Data.dict #[kE P "__module__" 196 (qS "labelways.errors" 187),kE P "__firstlineno__" 200 (vI 2 199),kE P "__static_attributes__" 201 (vR 22),kE P "__weakref__" 203 (vR 25),kE P "__doc__" 204 vN] 3) #[]),
(24,oM (vT "type") .none (Data.cls (ClassData.mk (sT "WayError") [vT "ValueError"] [vR 24,vT "ValueError",vT "Exception",vT "BaseException",vT "object"] 23 (sT "WayError") true [] [vR 37,vR 49] false .none false)) #[.some (vR 15),.none,.some (qS "WayError" 189),.some (qS "WayError" 197),.some (Value.builtin "ValueError.__new__"),.some (vB true)]),
(25,oM (vT "getset_descriptor") .none (Data.fields #[qS "__weakref__" 202,vR 24,Value.builtin "ExceptionGroup.__weakref__",vN]) #[]),
(36,oM (vT "dict") .none (Data.dict #[kE P "__module__" 214 (qS "labelways.errors" 187),kE P "__firstlineno__" 218 (vI 4 217),kE P "__static_attributes__" 219 (vR 35),kE P "__doc__" 220 vN] 2) #[]),
(37,oM (vT "type") .none (Data.cls (ClassData.mk (sT "NoOrder") [vR 24] [vR 37,vR 24,vT "ValueError",vT "Exception",vT "BaseException",vT "object"] 36 (sT "NoOrder") true [] [] false .none false)) #[.some (vR 28),.none,.some (qS "NoOrder" 207),.some (qS "NoOrder" 215),.some (Value.builtin "ValueError.__new__"),.some (vB true)]),
(48,oM (vT "dict") .none (Data.dict #[kE P "__module__" 230 (qS "labelways.errors" 187),kE P "__firstlineno__" 234 (vI 6 233),kE P "__static_attributes__" 235 (vR 47),kE P "__doc__" 236 vN] 2) #[]),
(49,oM (vT "type") .none (Data.cls (ClassData.mk (sT "NoPart") [vR 24] [vR 49,vR 24,vT "ValueError",vT "Exception",vT "BaseException",vT "object"] 48 (sT "NoPart") true [] [] false .none false)) #[.some (vR 40),.none,.some (qS "NoPart" 223),.some (qS "NoPart" 231),.some (Value.builtin "ValueError.__new__"),.some (vB true)]),
(57,cQ #[qS "is_number" 241,qS "is_number" 242,qS "/claim/cut.py" 243,vI 9 0,vI 1 0,vI 0 0,vI 0 0,vI 3 0,vR 52,vB true,vI 181 0,vR 53,vN,vR 54,vR 55,vR 56,vI 245 0,vI 9 0,qS "/claim/cut.py" 246]),
(58,fQ (.mk (sT "is_number") (sT "is_number") (L2.defArgs (top 5)) (FuncBody.stmts (L2.defBody (top 5))) (L2.defScope (top 5)) 3 [] vN vN vN (qS "labelways.kinds" 239) .none (vR 57) vN 0)),
(64,cQ #[qS "is_within" 248,qS "is_within" 249,qS "/claim/cut.py" 250,vI 11 0,vI 3 0,vI 0 0,vI 0 0,vI 3 0,vR 59,vB true,vI 181 0,vR 60,vN,vR 61,vR 62,vR 63,vI 254 0,vI 11 0,qS "/claim/cut.py" 255]),
(65,fQ (.mk (sT "is_within") (sT "is_within") (L2.defArgs (top 6)) (FuncBody.stmts (L2.defBody (top 6))) (L2.defScope (top 6)) 3 [] vN vN vN (qS "labelways.kinds" 239) .none (vR 64) vN 0)),
(71,cQ #[qS "is_tuple_of" 257,qS "is_tuple_of" 258,qS "/claim/cut.py" 259,vI 13 0,vI 2 0,vI 0 0,vI 0 0,vI 3 0,vR 66,vB true,vI 181 0,vR 67,vN,vR 68,vR 69,vR 70,vI 262 0,vI 13 0,qS "/claim/cut.py" 263]),
(72,fQ (.mk (sT "is_tuple_of") (sT "is_tuple_of") (L2.defArgs (top 7)) (FuncBody.stmts (L2.defBody (top 7))) (L2.defScope (top 7)) 3 [] vN vN vN (qS "labelways.kinds" 239) .none (vR 71) vN 0)),
(76,cQ #[qS "is_rising" 265,qS "is_rising" 266,qS "/claim/cut.py" 267,vI 15 0,vI 1 0,vI 0 0,vI 0 0,vI 3 0,vR 73,vB true,vI 181 0,vR 74,vN,vN,vN,vR 75,vI 268 0,vI 15 0,qS "/claim/cut.py" 269]),
(77,fQ (.mk (sT "is_rising") (sT "is_rising") (L2.defArgs (top 8)) (FuncBody.stmts (L2.defBody (top 8))) (L2.defScope (top 8)) 3 [] vN vN vN (qS "labelways.kinds" 239) .none (vR 76) vN 0)),
(83,cQ #[qS "is_place" 271,qS "is_place" 272,qS "/claim/cut.py" 273,vI 17 0,vI 2 0,vI 0 0,vI 0 0,vI 3 0,vR 78,vB true,vI 181 0,vR 79,vN,vR 80,vR 81,vR 82,vI 276 0,vI 17 0,qS "/claim/cut.py" 277]),
(84,fQ (.mk (sT "is_place") (sT "is_place") (L2.defArgs (top 9)) (FuncBody.stmts (L2.defBody (top 9))) (L2.defScope (top 9)) 3 [] vN vN vN (qS "labelways.kinds" 239) .none (vR 83) vN 0)),
(88,cQ #[qS "are_places" 279,qS "are_places" 280,qS "/claim/cut.py" 281,vI 19 0,vI 2 0,vI 0 0,vI 0 0,vI 3 0,vR 85,vB true,vI 181 0,vR 86,vN,vN,vN,vR 87,vI 282 0,vI 19 0,qS "/claim/cut.py" 283]),
(89,fQ (.mk (sT "are_places") (sT "are_places") (L2.defArgs (top 10)) (FuncBody.stmts (L2.defBody (top 10))) (L2.defScope (top 10)) 3 [] vN vN vN (qS "labelways.kinds" 239) .none (vR 88) vN 0)),
(95,cQ #[qS "ties_at" 287,qS "ties_at" 288,qS "/claim/cut.py" 289,vI 24 0,vI 2 0,vI 0 0,vI 0 0,vI 3 0,vR 90,vB true,vI 181 0,vR 91,vN,vR 92,vR 93,vR 94,vI 296 0,vI 24 0,qS "/claim/cut.py" 297]),
(96,fQ (.mk (sT "ties_at") (sT "ties_at") (L2.defArgs (top 12)) (FuncBody.stmts (L2.defBody (top 12))) (L2.defScope (top 12)) 3 [] vN vN vN (qS "labelways.webs" 285) .none (vR 95) vN 0)),
(100,cQ #[qS "lengths" 301,qS "lengths" 302,qS "/claim/cut.py" 303,vI 33 0,vI 1 0,vI 0 0,vI 0 0,vI 3 0,vR 97,vB true,vI 181 0,vR 98,vN,vN,vN,vR 99,vI 304 0,vI 33 0,qS "/claim/cut.py" 305]),
(101,fQ (.mk (sT "lengths") (sT "lengths") (L2.defArgs (top 14)) (FuncBody.stmts (L2.defBody (top 14))) (L2.defScope (top 14)) 3 [] vN vN vN (qS "labelways.lengths" 299) .none (vR 100) vN 0)),
(107,cQ #[qS "lengths_from" 307,qS "lengths_from" 308,qS "/claim/cut.py" 309,vI 35 0,vI 2 0,vI 0 0,vI 0 0,vI 3 0,vR 102,vB true,vI 181 0,vR 103,vN,vR 104,vR 105,vR 106,vI 318 0,vI 35 0,qS "/claim/cut.py" 319]),
(108,fQ (.mk (sT "lengths_from") (sT "lengths_from") (L2.defArgs (top 15)) (FuncBody.stmts (L2.defBody (top 15))) (L2.defScope (top 15)) 3 [] vN vN vN (qS "labelways.lengths" 299) .none (vR 107) vN 0)),
(114,cQ #[qS "nearest" 321,qS "nearest" 322,qS "/claim/cut.py" 323,vI 46 0,vI 1 0,vI 0 0,vI 0 0,vI 3 0,vR 109,vB true,vI 181 0,vR 110,vN,vR 111,vR 112,vR 113,vI 326 0,vI 46 0,qS "/claim/cut.py" 327]),
(115,fQ (.mk (sT "nearest") (sT "nearest") (L2.defArgs (top 16)) (FuncBody.stmts (L2.defBody (top 16))) (L2.defScope (top 16)) 3 [] vN vN vN (qS "labelways.lengths" 299) .none (vR 114) vN 0)),
(119,cQ #[qS "between_rows" 329,qS "between_rows" 330,qS "/claim/cut.py" 331,vI 48 0,vI 3 0,vI 0 0,vI 0 0,vI 3 0,vR 116,vB true,vI 181 0,vR 117,vN,vN,vN,vR 118,vI 332 0,vI 48 0,qS "/claim/cut.py" 333]),
(120,fQ (.mk (sT "between_rows") (sT "between_rows") (L2.defArgs (top 17)) (FuncBody.stmts (L2.defBody (top 17))) (L2.defScope (top 17)) 3 [] vN vN vN (qS "labelways.lengths" 299) .none (vR 119) vN 0)),
(124,cQ #[qS "next_by_row" 335,qS "next_by_row" 336,qS "/claim/cut.py" 337,vI 53 0,vI 3 0,vI 0 0,vI 0 0,vI 3 0,vR 121,vB true,vI 181 0,vR 122,vN,vN,vN,vR 123,vI 338 0,vI 53 0,qS "/claim/cut.py" 339]),
(125,fQ (.mk (sT "next_by_row") (sT "next_by_row") (L2.defArgs (top 18)) (FuncBody.stmts (L2.defBody (top 18))) (L2.defScope (top 18)) 3 [] vN vN vN (qS "labelways.lengths" 299) .none (vR 124) vN 0)),
(129,cQ #[qS "is_part" 343,qS "is_part" 344,qS "/claim/cut.py" 345,vI 58 0,vI 2 0,vI 0 0,vI 0 0,vI 3 0,vR 126,vB true,vI 181 0,vR 127,vN,vN,vN,vR 128,vI 346 0,vI 58 0,qS "/claim/cut.py" 347]),
(130,fQ (.mk (sT "is_part") (sT "is_part") (L2.defArgs (top 20)) (FuncBody.stmts (L2.defBody (top 20))) (L2.defScope (top 20)) 3 [] vN vN vN (qS "labelways.parts" 341) .none (vR 129) vN 0)),
(134,cQ #[qS "holds_ways_from" 349,qS "holds_ways_from" 350,qS "/claim/cut.py" 351,vI 63 0,vI 3 0,vI 0 0,vI 0 0,vI 3 0,vR 131,vB true,vI 181 0,vR 132,vN,vN,vN,vR 133,vI 352 0,vI 63 0,qS "/claim/cut.py" 353]),
(135,fQ (.mk (sT "holds_ways_from") (sT "holds_ways_from") (L2.defArgs (top 21)) (FuncBody.stmts (L2.defBody (top 21))) (L2.defScope (top 21)) 3 [] vN vN vN (qS "labelways.parts" 341) .none (vR 134) vN 0)),
(139,cQ #[qS "part_web" 355,qS "part_web" 356,qS "/claim/cut.py" 357,vI 68 0,vI 2 0,vI 0 0,vI 0 0,vI 3 0,vR 136,vB true,vI 181 0,vR 137,vN,vN,vN,vR 138,vI 358 0,vI 68 0,qS "/claim/cut.py" 359]),
(140,fQ (.mk (sT "part_web") (sT "part_web") (L2.defArgs (top 22)) (FuncBody.stmts (L2.defBody (top 22))) (L2.defScope (top 22)) 3 [] vN vN vN (qS "labelways.parts" 341) .none (vR 139) vN 0)),
(146,cQ #[qS "new_tie" 361,qS "new_tie" 362,qS "/claim/cut.py" 363,vI 73 0,vI 2 0,vI 0 0,vI 0 0,vI 3 0,vR 141,vB true,vI 181 0,vR 142,vN,vR 143,vR 144,vR 145,vI 366 0,vI 73 0,qS "/claim/cut.py" 367]),
(147,fQ (.mk (sT "new_tie") (sT "new_tie") (L2.defArgs (top 23)) (FuncBody.stmts (L2.defBody (top 23))) (L2.defScope (top 23)) 3 [] vN vN vN (qS "labelways.parts" 341) .none (vR 146) vN 0)),
(151,cQ #[qS "part_order" 369,qS "part_order" 370,qS "/claim/cut.py" 371,vI 75 0,vI 2 0,vI 0 0,vI 0 0,vI 3 0,vR 148,vB true,vI 181 0,vR 149,vN,vN,vN,vR 150,vI 372 0,vI 75 0,qS "/claim/cut.py" 373]),
(152,fQ (.mk (sT "part_order") (sT "part_order") (L2.defArgs (top 24)) (FuncBody.stmts (L2.defBody (top 24))) (L2.defScope (top 24)) 3 [] vN vN vN (qS "labelways.parts" 341) .none (vR 151) vN 0)),
(156,cQ #[qS "cut_down" 375,qS "cut_down" 376,qS "/claim/cut.py" 377,vI 77 0,vI 2 0,vI 0 0,vI 0 0,vI 3 0,vR 153,vB true,vI 181 0,vR 154,vN,vN,vN,vR 155,vI 378 0,vI 77 0,qS "/claim/cut.py" 379]),
(157,fQ (.mk (sT "cut_down") (sT "cut_down") (L2.defArgs (top 25)) (FuncBody.stmts (L2.defBody (top 25))) (L2.defScope (top 25)) 3 [] vN vN vN (qS "labelways.parts" 341) .none (vR 156) vN 0)),
(161,cQ #[qS "cut_label" 381,qS "cut_label" 382,qS "/claim/cut.py" 383,vI 79 0,vI 2 0,vI 0 0,vI 0 0,vI 3 0,vR 158,vB true,vI 181 0,vR 159,vN,vN,vN,vR 160,vI 384 0,vI 79 0,qS "/claim/cut.py" 385]),
(162,fQ (.mk (sT "cut_label") (sT "cut_label") (L2.defArgs (top 26)) (FuncBody.stmts (L2.defBody (top 26))) (L2.defScope (top 26)) 3 [] vN vN vN (qS "labelways.parts" 341) .none (vR 161) vN 0)),
(168,cQ #[qS "new_entry" 387,qS "new_entry" 388,qS "/claim/cut.py" 389,vI 81 0,vI 2 0,vI 0 0,vI 0 0,vI 3 0,vR 163,vB true,vI 181 0,vR 164,vN,vR 165,vR 166,vR 167,vI 392 0,vI 81 0,qS "/claim/cut.py" 393]),
(169,fQ (.mk (sT "new_entry") (sT "new_entry") (L2.defArgs (top 27)) (FuncBody.stmts (L2.defBody (top 27))) (L2.defScope (top 27)) 3 [] vN vN vN (qS "labelways.parts" 341) .none (vR 168) vN 0)),
(175,cQ #[qS "told" 397,qS "told" 398,qS "/claim/cut.py" 399,vI 86 0,vI 2 0,vI 0 0,vI 0 0,vI 3 0,vR 170,vB true,vI 181 0,vR 171,vN,vR 172,vR 173,vR 174,vI 402 0,vI 86 0,qS "/claim/cut.py" 403]),
(176,fQ (.mk (sT "told") (sT "told") (L2.defArgs (top 29)) (FuncBody.stmts (L2.defBody (top 29))) (L2.defScope (top 29)) 3 [] vN vN vN (qS "labelways.labels" 395) .none (vR 175) vN 0)),
(180,cQ #[qS "least_sum" 405,qS "least_sum" 406,qS "/claim/cut.py" 407,vI 88 0,vI 2 0,vI 0 0,vI 0 0,vI 3 0,vR 177,vB true,vI 181 0,vR 178,vN,vN,vN,vR 179,vI 408 0,vI 88 0,qS "/claim/cut.py" 409]),
(181,fQ (.mk (sT "least_sum") (sT "least_sum") (L2.defArgs (top 30)) (FuncBody.stmts (L2.defBody (top 30))) (L2.defScope (top 30)) 3 [] vN vN vN (qS "labelways.labels" 395) .none (vR 180) vN 0)),
(185,cQ #[qS "is_order" 413,qS "is_order" 414,qS "/claim/cut.py" 415,vI 93 0,vI 2 0,vI 0 0,vI 0 0,vI 3 0,vR 182,vB true,vI 181 0,vR 183,vN,vN,vN,vR 184,vI 416 0,vI 93 0,qS "/claim/cut.py" 417]),
(186,fQ (.mk (sT "is_order") (sT "is_order") (L2.defArgs (top 32)) (FuncBody.stmts (L2.defBody (top 32))) (L2.defScope (top 32)) 3 [] vN vN vN (qS "labelways.orders" 411) .none (vR 185) vN 0)),
(190,cQ #[qS "by_order" 419,qS "by_order" 420,qS "/claim/cut.py" 421,vI 98 0,vI 2 0,vI 0 0,vI 0 0,vI 3 0,vR 187,vB true,vI 181 0,vR 188,vN,vN,vN,vR 189,vI 422 0,vI 98 0,qS "/claim/cut.py" 423]),
(191,fQ (.mk (sT "by_order") (sT "by_order") (L2.defArgs (top 33)) (FuncBody.stmts (L2.defBody (top 33))) (L2.defScope (top 33)) 3 [] vN vN vN (qS "labelways.orders" 411) .none (vR 190) vN 0)),
(195,cQ #[qS "label_by_ranks" 425,qS "label_by_ranks" 426,qS "/claim/cut.py" 427,vI 104 0,vI 4 0,vI 0 0,vI 0 0,vI 3 0,vR 192,vB true,vI 181 0,vR 193,vN,vN,vN,vR 194,vI 428 0,vI 104 0,qS "/claim/cut.py" 429]),
(196,fQ (.mk (sT "label_by_ranks") (sT "label_by_ranks") (L2.defArgs (top 34)) (FuncBody.stmts (L2.defBody (top 34))) (L2.defScope (top 34)) 3 [] vN vN vN (qS "labelways.orders" 411) .none (vR 195) vN 0)),
(200,cQ #[qS "is_hub" 431,qS "is_hub" 432,qS "/claim/cut.py" 433,vI 107 0,vI 4 0,vI 0 0,vI 0 0,vI 3 0,vR 197,vB true,vI 181 0,vR 198,vN,vN,vN,vR 199,vI 434 0,vI 107 0,qS "/claim/cut.py" 435]),
(201,fQ (.mk (sT "is_hub") (sT "is_hub") (L2.defArgs (top 35)) (FuncBody.stmts (L2.defBody (top 35))) (L2.defScope (top 35)) 3 [] vN vN vN (qS "labelways.orders" 411) .none (vR 200) vN 0)),
(207,cQ #[qS "entry_by_rows" 437,qS "entry_by_rows" 438,qS "/claim/cut.py" 439,vI 111 0,vI 4 0,vI 0 0,vI 0 0,vI 3 0,vR 202,vB true,vI 181 0,vR 203,vN,vR 204,vR 205,vR 206,vI 446 0,vI 111 0,qS "/claim/cut.py" 447]),
(208,fQ (.mk (sT "entry_by_rows") (sT "entry_by_rows") (L2.defArgs (top 36)) (FuncBody.stmts (L2.defBody (top 36))) (L2.defScope (top 36)) 3 [] vN vN vN (qS "labelways.orders" 411) .none (vR 207) vN 0)),
(214,cQ #[qS "_law_feed" 451,qS "_law_feed" 452,qS "/claim/cut.py" 453,vI 116 0,vI 1 0,vI 0 0,vI 0 0,vI 3 0,vR 209,vB true,vI 181 0,vR 210,vN,vR 211,vR 212,vR 213,vI 455 0,vI 116 0,qS "/claim/cut.py" 456]),
(215,fT "_law_feed" 38 (qS "law_labelways_k68_whole_labels_of_a_part" 449) 214),
(221,cQ #[qS "_law_take" 458,qS "_law_take" 459,qS "/claim/cut.py" 460,vI 118 0,vI 2 0,vI 0 0,vI 0 0,vI 3 0,vR 216,vB true,vI 181 0,vR 217,vN,vR 218,vR 219,vR 220,vI 467 0,vI 118 0,qS "/claim/cut.py" 468]),
(222,fT "_law_take" 39 (qS "law_labelways_k68_whole_labels_of_a_part" 449) 221),
(226,cQ #[qS "_law_same" 470,qS "_law_same" 471,qS "/claim/cut.py" 472,vI 132 0,vI 2 0,vI 0 0,vI 0 0,vI 3 0,vR 223,vB true,vI 181 0,vR 224,vN,vN,vN,vR 225,vI 473 0,vI 132 0,qS "/claim/cut.py" 474]),
(227,fT "_law_same" 40 (qS "law_labelways_k68_whole_labels_of_a_part" 449) 226),
(231,cQ #[qS "_law_web" 476,qS "_law_web" 477,qS "/claim/cut.py" 478,vI 140 0,vI 2 0,vI 0 0,vI 0 0,vI 3 0,vR 228,vB true,vI 181 0,vR 229,vN,vN,vN,vR 230,vI 479 0,vI 140 0,qS "/claim/cut.py" 480]),
(232,fT "_law_web" 41 (qS "law_labelways_k68_whole_labels_of_a_part" 449) 231),
(236,cQ #[qS "_law_rows" 482,qS "_law_rows" 483,qS "/claim/cut.py" 484,vI 152 0,vI 1 0,vI 0 0,vI 0 0,vI 3 0,vR 233,vB true,vI 181 0,vR 234,vN,vN,vN,vR 235,vI 485 0,vI 152 0,qS "/claim/cut.py" 486]),
(237,fT "_law_rows" 42 (qS "law_labelways_k68_whole_labels_of_a_part" 449) 236),
(243,cQ #[qS "_law_order" 488,qS "_law_order" 489,qS "/claim/cut.py" 490,vI 163 0,vI 2 0,vI 0 0,vI 0 0,vI 3 0,vR 238,vB true,vI 181 0,vR 239,vN,vR 240,vR 241,vR 242,vI 495 0,vI 163 0,qS "/claim/cut.py" 496]),
(244,fT "_law_order" 43 (qS "law_labelways_k68_whole_labels_of_a_part" 449) 243),
(248,cQ #[qS "_law_lacks" 498,qS "_law_lacks" 499,qS "/claim/cut.py" 500,vI 169 0,vI 2 0,vI 0 0,vI 0 0,vI 3 0,vR 245,vB true,vI 181 0,vR 246,vN,vN,vN,vR 247,vI 501 0,vI 169 0,qS "/claim/cut.py" 502]),
(249,fT "_law_lacks" 44 (qS "law_labelways_k68_whole_labels_of_a_part" 449) 248),
(253,cQ #[qS "_law_part" 504,qS "_law_part" 505,qS "/claim/cut.py" 506,vI 178 0,vI 2 0,vI 0 0,vI 0 0,vI 3 0,vR 250,vB true,vI 181 0,vR 251,vN,vN,vN,vR 252,vI 507 0,vI 178 0,qS "/claim/cut.py" 508]),
(254,fT "_law_part" 45 (qS "law_labelways_k68_whole_labels_of_a_part" 449) 253),
(260,cQ #[qS "_law_right" 510,qS "_law_right" 511,qS "/claim/cut.py" 512,vI 186 0,vI 3 0,vI 0 0,vI 0 0,vI 3 0,vR 255,vB true,vI 181 0,vR 256,vN,vR 257,vR 258,vR 259,vI 521 0,vI 186 0,qS "/claim/cut.py" 522]),
(261,fT "_law_right" 46 (qS "law_labelways_k68_whole_labels_of_a_part" 449) 260),
(265,cQ #[qS "law" 524,qS "law" 525,qS "/claim/cut.py" 526,vI 197 0,vI 1 0,vI 0 0,vI 0 0,vI 3 0,vR 262,vB true,vI 181 0,vR 263,vN,vN,vN,vR 264,vI 527 0,vI 197 0,qS "/claim/cut.py" 528]),
(266,fT "law" 47 (qS "law_labelways_k68_whole_labels_of_a_part" 449) 265)]
def Ka:List Addr:=[2,3,23,24,25,36,37,48,49,57,58,64,65,71,72,76,77,83,84,88,89,95,96,100,101,107,108,114,115,119,120,124,125,129,130,134,135,139,140,146,147,151,152,156,157,161,162,168,169,175,176,180,181,185,186,190,191,195,196,200,201,207,208,214,215,221,222,226,227,231,232,236,237,243,244,248,249,253,254,260,261,265,266]
theorem usl1:∀{us:List Value},us.length=1->∃u0,us=[u0]
 | [u0],_=>⟨u0,rfl⟩
theorem usl2:∀{us:List Value},us.length=2->∃u0 u1,us=[u0,u1]
 | [u0,u1],_=>⟨u0,u1,rfl⟩
theorem usl3:∀{us:List Value},us.length=3->∃u0 u1 u2,us=[u0,u1,u2]
 | [u0,u1,u2],_=>⟨u0,u1,u2,rfl⟩
theorem usl4:∀{us:List Value},us.length=4->∃u0 u1 u2 u3,us=[u0,u1,u2,u3]
 | [u0,u1,u2,u3],_=>⟨u0,u1,u2,u3,rfl⟩
theorem walk {l:PySem.W.OpenLaw}{q:Program}{loose:List Str}{XP:(Str->Option Value)->Heap->Prop}{YP:World->Heap->Prop}{d:DefRec}{K:Params->PySem.W.Frag}(hn:l.most=some 63)(hdf:d.params.defaults=[])(hrec:∃dn,(PyProof.Rows.recsOf q).find? (fun e=>e.name==("nearest" : Str))=some dn)
 (hY:∀(w:World)(h:Heap),YP w h->(K w.params).In h)
 (F:∀(w:World)(mg:Str->Option Value)(fa:Addr)(h:Heap),(K w.params).In h->h.Ns mainGlobals mg->mg d.name=some (.ref fa) ->
  ∃(fd:FuncData)(c P:Addr),PySem.W.tabIn (K w.params) "nearest" = some (c,P)/\PySem.W.noTabs (K w.params)=true/\(∀(s:Shared)(u:Value),BindsTo s fd ⟨[u],[]⟩ [("_law_script",u)])/\∀base:Heap,(K w.params).In base->base.Ns mainGlobals mg->BmAt mg base->FnOk l.prog w (K w.params) mg base CX0 13 fa fd ["_law_script"] (spLaw (K w.params) P)) :
 PySem.W.WalkO q loose XP YP l.row.toRowW d [] (fun f vs=>PySem.call f vs):=
 L2.walk_T (n:=63) (k:=13) (x := "_law_script") (tn := "nearest") (CX:=CX0) (sp:=spLaw) hn (by decide) hdf ⟨rfl,by decide,by decide,rfl⟩ hrec hY F (fun _ _ _ a ns hl hP hS=>⟨a,ns,rfl,hS,hl,hP,fun _=>rfl⟩) fun _ _ _ _ z=>z
theorem fk {K:PySem.W.Frag}(x:Str)(st:Stmt)(f:Addr)(pm cd:Value)(l:K.lookup f=some ⟨.type "function",.none,.func (PySem.W.fnOf x x (defArgs st) (defBody st) (defScope st) .none .none .none pm .none cd .none),#[]⟩:=by kernel_rfl) (c:PySem.W.codeIn K cd x=true:=by kernel_rfl)(k:PySem.W.keepIn K (.ref f)=true:=by kernel_rfl):Fun K x x st f (PySem.W.fnOf x x (defArgs st) (defBody st) (defScope st) .none .none .none pm .none cd .none):=fun_mk l c k
theorem fkC {K:PySem.W.Frag}(x:Str)(st:Stmt)(f:Addr)(pm:Value)(cc:Addr)(l:K.lookup f=some ⟨.type "function",.none,.func (PySem.W.fnOf x x (defArgs st) (defBody st) (defScope st) .none .none .none pm .none (.ref cc) .none),#[]⟩:=by kernel_rfl) (c:PySem.W.codeIn K (.ref cc) x=true:=by kernel_rfl)(k:PySem.W.keepIn K (.ref f)=true:=by kernel_rfl):FunC K x x st f (PySem.W.fnOf x x (defArgs st) (defBody st) (defScope st) .none .none .none pm .none (.ref cc) .none) cc:=funC_mk l c k
abbrev pw:Program:=PySem.Challenge.pw_labelways_k68_whole_labels_of_a_part
def V:Program:={ pw with main:={ pw.main with body:=[top 1,top 2,top 3,top 5,top 6,top 7,top 8,top 9,top 10,top 12,top 14,top 15,top 16,top 17,top 18,top 20,top 21,top 22,top 23,top 24,top 25,top 26,top 27,top 29,top 30,top 32,top 33,top 34,top 35,top 36,top 38,top 39,top 40,top 41,top 42,top 43,top 44,top 45,top 46,top 47] } }
abbrev RR:PySem.W.RowW:=PySem.W.OpenRow.toRowW (PySem.Challenge.rw_labelways_k68_whole_labels_of_a_part).row
theorem Ke:∀P,Ka=(Kf P).map (·.1):=fun P=>by kernel_rfl
abbrev HK:PySem.W.Hook:=PySem.W.kHook Kf Ka Ke
theorem left:PySem.W.LeftO pw V [] (fun s=>PySem.W.xlAt V [] s && PySem.W.recOk (PySem.W.RowW.records RR) s) (PySem.W.Hook.obs HK) (PySem.W.Hook.val HK) 3588:=L2.left_of (by kernel_rfl) (by decide) (fun _=>rfl) fun w os=>by kernel_rfl
def dL:DefRec:={ name := "law",params:=defArgs sLaw,body:=defBody sLaw,scope:=defScope sLaw,pos:=⟨197,0,213,15⟩ }
theorem facts (w:World)(mg:Str->Option Value)(fa:Addr)(h:Heap)(KX:(Kf w.params).In h)(G:h.Ns mainGlobals mg)(hmg:mg "law" = some (.ref fa)):∃(fd:FuncData)(c P:Addr),PySem.W.tabIn (Kf w.params) "nearest" = some (c,P)/\PySem.W.noTabs (Kf w.params)=true/\(∀(s:Shared)(u:Value),BindsTo s fd ⟨[u],[]⟩ [("_law_script",u)])/\∀base:Heap,(Kf w.params).In base->base.Ns mainGlobals mg->BmAt mg base->FnOk (PySem.Challenge.rw_labelways_k68_whole_labels_of_a_part).prog w (Kf w.params) mg base CX0 13 fa fd ["_law_script"] (spLaw (Kf w.params) P):=by
 have mk:∀(x:Str)(f:Addr),PySem.W.nsIn (Kf w.params) mainGlobals x=some (some (.ref f))->mg x=some (.ref f):=fun x f e=>PySem.W.mg_of KX G e
 have mn:∀x:Str,PySem.W.nsIn (Kf w.params) mainGlobals x=some none->mg x=none:=fun x e=>PySem.W.mg_none_of KX G e
 have FFe:=fk (K:=Kf w.params) "_law_feed" sFeed 215 (qS "law_labelways_k68_whole_labels_of_a_part" 449) (vR 214)
 have bFe:=FFe.binds (ps:=["_law_script"]) fun _ _ _ _ _ _ us hl=>by obtain⟨u0,rfl⟩:=usl1 hl;rfl
 have mFe:=mk "_law_feed" 215 (by kernel_rfl)
 have FTk:=fk (K:=Kf w.params) "_law_take" sTake 222 (qS "law_labelways_k68_whole_labels_of_a_part" 449) (vR 221)
 have bTk:=FTk.binds (ps:=["_law_feed_here", "_law_many"]) fun _ _ _ _ _ _ us hl=>by obtain⟨u0,u1,rfl⟩:=usl2 hl;rfl
 have mTk:=mk "_law_take" 222 (by kernel_rfl)
 have FSa:=fk (K:=Kf w.params) "_law_same" sSame 227 (qS "law_labelways_k68_whole_labels_of_a_part" 449) (vR 226)
 have bSa:=FSa.binds (ps:=["_law_found", "_law_due"]) fun _ _ _ _ _ _ us hl=>by obtain⟨u0,u1,rfl⟩:=usl2 hl;rfl
 have mSa:=mk "_law_same" 227 (by kernel_rfl)
 have FWe:=fk (K:=Kf w.params) "_law_web" sWebF 232 (qS "law_labelways_k68_whole_labels_of_a_part" 449) (vR 231)
 have bWe:=FWe.binds (ps:=["_law_feed_here", "_law_most"]) fun _ _ _ _ _ _ us hl=>by obtain⟨u0,u1,rfl⟩:=usl2 hl;rfl
 have mWe:=mk "_law_web" 232 (by kernel_rfl)
 have FRo:=fk (K:=Kf w.params) "_law_rows" sRows 237 (qS "law_labelways_k68_whole_labels_of_a_part" 449) (vR 236)
 have bRo:=FRo.binds (ps:=["_law_web_here"]) fun _ _ _ _ _ _ us hl=>by obtain⟨u0,rfl⟩:=usl1 hl;rfl
 have mRo:=mk "_law_rows" 237 (by kernel_rfl)
 have FOd:=fk (K:=Kf w.params) "_law_order" sOrdF 244 (qS "law_labelways_k68_whole_labels_of_a_part" 449) (vR 243)
 have bOd:=FOd.binds (ps:=["_law_feed_here", "_law_many"]) fun _ _ _ _ _ _ us hl=>by obtain⟨u0,u1,rfl⟩:=usl2 hl;rfl
 have mOd:=mk "_law_order" 244 (by kernel_rfl)
 have FLa:=fk (K:=Kf w.params) "_law_lacks" sLacks 249 (qS "law_labelways_k68_whole_labels_of_a_part" 449) (vR 248)
 have bLa:=FLa.binds (ps:=["_law_rows_here", "_law_places"]) fun _ _ _ _ _ _ us hl=>by obtain⟨u0,u1,rfl⟩:=usl2 hl;rfl
 have mLa:=mk "_law_lacks" 249 (by kernel_rfl)
 have FPt:=fk (K:=Kf w.params) "_law_part" sPart 254 (qS "law_labelways_k68_whole_labels_of_a_part" 449) (vR 253)
 have bPt:=FPt.binds (ps:=["_law_feed_here", "_law_rows_here"]) fun _ _ _ _ _ _ us hl=>by obtain⟨u0,u1,rfl⟩:=usl2 hl;rfl
 have mPt:=mk "_law_part" 254 (by kernel_rfl)
 have FRi:=fk (K:=Kf w.params) "_law_right" sRight 261 (qS "law_labelways_k68_whole_labels_of_a_part" 449) (vR 260)
 have bRi:=FRi.binds (ps:=["_law_web_here", "_law_order_here", "_law_part_here"]) fun _ _ _ _ _ _ us hl=>by obtain⟨u0,u1,u2,rfl⟩:=usl3 hl;rfl
 have mRi:=mk "_law_right" 261 (by kernel_rfl)
 have FNu:=fk (K:=Kf w.params) "is_number" sNum 58 (qS "labelways.kinds" 239) (vR 57)
 have bNu:=FNu.binds (ps:=["thing"]) fun _ _ _ _ _ _ us hl=>by obtain⟨u0,rfl⟩:=usl1 hl;rfl
 have mNu:=mk "is_number" 58 (by kernel_rfl)
 have FWi:=fk (K:=Kf w.params) "is_within" sWi 65 (qS "labelways.kinds" 239) (vR 64)
 have bWi:=FWi.binds (ps:=["thing", "least", "most"]) fun _ _ _ _ _ _ us hl=>by obtain⟨u0,u1,u2,rfl⟩:=usl3 hl;rfl
 have mWi:=mk "is_within" 65 (by kernel_rfl)
 have FTo:=fk (K:=Kf w.params) "is_tuple_of" sTof 72 (qS "labelways.kinds" 239) (vR 71)
 have bTo:=FTo.binds (ps:=["thing", "count"]) fun _ _ _ _ _ _ us hl=>by obtain⟨u0,u1,rfl⟩:=usl2 hl;rfl
 have mTo:=mk "is_tuple_of" 72 (by kernel_rfl)
 have FRs:=fk (K:=Kf w.params) "is_rising" sRis 77 (qS "labelways.kinds" 239) (vR 76)
 have bRs:=FRs.binds (ps:=["things"]) fun _ _ _ _ _ _ us hl=>by obtain⟨u0,rfl⟩:=usl1 hl;rfl
 have mRs:=mk "is_rising" 77 (by kernel_rfl)
 have FPl:=fk (K:=Kf w.params) "is_place" sPl 84 (qS "labelways.kinds" 239) (vR 83)
 have bPl:=FPl.binds (ps:=["n", "thing"]) fun _ _ _ _ _ _ us hl=>by obtain⟨u0,u1,rfl⟩:=usl2 hl;rfl
 have mPl:=mk "is_place" 84 (by kernel_rfl)
 have FAr:=fk (K:=Kf w.params) "are_places" sArp 89 (qS "labelways.kinds" 239) (vR 88)
 have bAr:=FAr.binds (ps:=["n", "thing"]) fun _ _ _ _ _ _ us hl=>by obtain⟨u0,u1,rfl⟩:=usl2 hl;rfl
 have mAr:=mk "are_places" 89 (by kernel_rfl)
 have FT:=fk (K:=Kf w.params) "ties_at" sTies 96 (qS "labelways.webs" 285) (vR 95)
 have bT:=FT.binds (ps:=["web", "place"]) fun _ _ _ _ _ _ us hl=>by obtain⟨u0,u1,rfl⟩:=usl2 hl;rfl
 have mT:=mk "ties_at" 96 (by kernel_rfl)
 have FNe:=fkC (K:=Kf w.params) "nearest" sNear 115 (qS "labelways.lengths" 299) 114
 have bNe:=FNe.fn.binds (ps:=["waiting"]) fun _ _ _ _ _ _ us hl=>by obtain⟨u0,rfl⟩:=usl1 hl;rfl
 have mNe:=mk "nearest" 115 (by kernel_rfl)
 have FF:=fk (K:=Kf w.params) "lengths_from" sFrom 108 (qS "labelways.lengths" 299) (vR 107)
 have bF:=FF.binds (ps:=["web", "start"]) fun _ _ _ _ _ _ us hl=>by obtain⟨u0,u1,rfl⟩:=usl2 hl;rfl
 have mF:=mk "lengths_from" 108 (by kernel_rfl)
 have FLe:=fk (K:=Kf w.params) "lengths" sLens 101 (qS "labelways.lengths" 299) (vR 100)
 have bLe:=FLe.binds (ps:=["web"]) fun _ _ _ _ _ _ us hl=>by obtain⟨u0,rfl⟩:=usl1 hl;rfl
 have mLe:=mk "lengths" 101 (by kernel_rfl)
 have FBw:=fk (K:=Kf w.params) "between_rows" sBwr 120 (qS "labelways.lengths" 299) (vR 119)
 have bBw:=FBw.binds (ps:=["here", "there", "other"]) fun _ _ _ _ _ _ us hl=>by obtain⟨u0,u1,u2,rfl⟩:=usl3 hl;rfl
 have mBw:=mk "between_rows" 120 (by kernel_rfl)
 have FNb:=fk (K:=Kf w.params) "next_by_row" sNbr 125 (qS "labelways.lengths" 299) (vR 124)
 have bNb:=FNb.binds (ps:=["web", "one", "there"]) fun _ _ _ _ _ _ us hl=>by obtain⟨u0,u1,u2,rfl⟩:=usl3 hl;rfl
 have mNb:=mk "next_by_row" 125 (by kernel_rfl)
 have FIp:=fk (K:=Kf w.params) "is_part" sIsP 130 (qS "labelways.parts" 341) (vR 129)
 have bIp:=FIp.binds (ps:=["web", "thing"]) fun _ _ _ _ _ _ us hl=>by obtain⟨u0,u1,rfl⟩:=usl2 hl;rfl
 have mIp:=mk "is_part" 130 (by kernel_rfl)
 have FHw:=fk (K:=Kf w.params) "holds_ways_from" sHold 135 (qS "labelways.parts" 341) (vR 134)
 have bHw:=FHw.binds (ps:=["rows", "places", "one"]) fun _ _ _ _ _ _ us hl=>by obtain⟨u0,u1,u2,rfl⟩:=usl3 hl;rfl
 have mHw:=mk "holds_ways_from" 135 (by kernel_rfl)
 have FPw:=fk (K:=Kf w.params) "part_web" sPweb 140 (qS "labelways.parts" 341) (vR 139)
 have bPw:=FPw.binds (ps:=["web", "thing"]) fun _ _ _ _ _ _ us hl=>by obtain⟨u0,u1,rfl⟩:=usl2 hl;rfl
 have mPw:=mk "part_web" 140 (by kernel_rfl)
 have FNt:=fk (K:=Kf w.params) "new_tie" sNtie 147 (qS "labelways.parts" 341) (vR 146)
 have bNt:=FNt.binds (ps:=["places", "tie"]) fun _ _ _ _ _ _ us hl=>by obtain⟨u0,u1,rfl⟩:=usl2 hl;rfl
 have mNt:=mk "new_tie" 147 (by kernel_rfl)
 have FPo:=fk (K:=Kf w.params) "part_order" sPord 152 (qS "labelways.parts" 341) (vR 151)
 have bPo:=FPo.binds (ps:=["order", "places"]) fun _ _ _ _ _ _ us hl=>by obtain⟨u0,u1,rfl⟩:=usl2 hl;rfl
 have mPo:=mk "part_order" 152 (by kernel_rfl)
 have FCd:=fk (K:=Kf w.params) "cut_down" sCutd 157 (qS "labelways.parts" 341) (vR 156)
 have bCd:=FCd.binds (ps:=["labels", "places"]) fun _ _ _ _ _ _ us hl=>by obtain⟨u0,u1,rfl⟩:=usl2 hl;rfl
 have mCd:=mk "cut_down" 157 (by kernel_rfl)
 have FCl:=fk (K:=Kf w.params) "cut_label" sCutl 162 (qS "labelways.parts" 341) (vR 161)
 have bCl:=FCl.binds (ps:=["label", "places"]) fun _ _ _ _ _ _ us hl=>by obtain⟨u0,u1,rfl⟩:=usl2 hl;rfl
 have mCl:=mk "cut_label" 162 (by kernel_rfl)
 have FNn:=fk (K:=Kf w.params) "new_entry" sNent 169 (qS "labelways.parts" 341) (vR 168)
 have bNn:=FNn.binds (ps:=["places", "entry"]) fun _ _ _ _ _ _ us hl=>by obtain⟨u0,u1,rfl⟩:=usl2 hl;rfl
 have mNn:=mk "new_entry" 169 (by kernel_rfl)
 have FSu:=fk (K:=Kf w.params) "least_sum" sSum 181 (qS "labelways.labels" 395) (vR 180)
 have bSu:=FSu.binds (ps:=["one", "other"]) fun _ _ _ _ _ _ us hl=>by obtain⟨u0,u1,rfl⟩:=usl2 hl;rfl
 have mSu:=mk "least_sum" 181 (by kernel_rfl)
 have FTd:=fk (K:=Kf w.params) "told" sTold 176 (qS "labelways.labels" 395) (vR 175)
 have bTd:=FTd.binds (ps:=["one", "other"]) fun _ _ _ _ _ _ us hl=>by obtain⟨u0,u1,rfl⟩:=usl2 hl;rfl
 have mTd:=mk "told" 176 (by kernel_rfl)
 have FIo:=fk (K:=Kf w.params) "is_order" sOrd 186 (qS "labelways.orders" 411) (vR 185)
 have bIo:=FIo.binds (ps:=["web", "thing"]) fun _ _ _ _ _ _ us hl=>by obtain⟨u0,u1,rfl⟩:=usl2 hl;rfl
 have mIo:=mk "is_order" 186 (by kernel_rfl)
 have FBy:=fk (K:=Kf w.params) "by_order" sByo 191 (qS "labelways.orders" 411) (vR 190)
 have bBy:=FBy.binds (ps:=["web", "order"]) fun _ _ _ _ _ _ us hl=>by obtain⟨u0,u1,rfl⟩:=usl2 hl;rfl
 have mBy:=mk "by_order" 191 (by kernel_rfl)
 have FLb:=fk (K:=Kf w.params) "label_by_ranks" sLbr 196 (qS "labelways.orders" 411) (vR 195)
 have bLb:=FLb.binds (ps:=["web", "rows", "ranks", "place"]) fun _ _ _ _ _ _ us hl=>by obtain⟨u0,u1,u2,u3,rfl⟩:=usl4 hl;rfl
 have mLb:=mk "label_by_ranks" 196 (by kernel_rfl)
 have FIh:=fk (K:=Kf w.params) "is_hub" sIsh 201 (qS "labelways.orders" 411) (vR 200)
 have bIh:=FIh.binds (ps:=["rows", "ranks", "hub", "place"]) fun _ _ _ _ _ _ us hl=>by obtain⟨u0,u1,u2,u3,rfl⟩:=usl4 hl;rfl
 have mIh:=mk "is_hub" 201 (by kernel_rfl)
 have FEb:=fk (K:=Kf w.params) "entry_by_rows" sEbr 208 (qS "labelways.orders" 411) (vR 207)
 have bEb:=FEb.binds (ps:=["web", "rows", "place", "hub"]) fun _ _ _ _ _ _ us hl=>by obtain⟨u0,u1,u2,u3,rfl⟩:=usl4 hl;rfl
 have mEb:=mk "entry_by_rows" 208 (by kernel_rfl)
 have FZ:=fk (K:=Kf w.params) "law" sLaw 266 (qS "law_labelways_k68_whole_labels_of_a_part" 449) (vR 265)
 have mb0:=mn "len" (by kernel_rfl)
 have mb1:=mn "range" (by kernel_rfl)
 have mb2:=mn "tuple" (by kernel_rfl)
 have mb3:=mn "sorted" (by kernel_rfl)
 have mb4:=mn "min" (by kernel_rfl)
 have mb5:=mn "max" (by kernel_rfl)
 have mb6:=mn "list" (by kernel_rfl)
 have mb7:=mn "isinstance" (by kernel_rfl)
 have mb8:=mn "int" (by kernel_rfl)
 have mb9:=mn "bool" (by kernel_rfl)
 have mb10:=mn "all" (by kernel_rfl)
 have mb11:=mn "set" (by kernel_rfl)
 have mb12:=mn "zip" (by kernel_rfl)
 have mb13:=mn "dict" (by kernel_rfl)
 have e:=hmg.symm.trans (mk "law" 266 (by kernel_rfl))
 cases e
 exact⟨_,114,110,by kernel_rfl,by kernel_rfl,fun s v=>.of_eq rfl,fun base hb _ hbm=>ok_law FZ (PySem.W.codeHd_of_K hb (show PySem.W.codeHdIn (Kf w.params) 114 110=true by kernel_rfl)) hbm FFe bFe mFe FTk bTk mTk FSa bSa mSa FWe bWe mWe FRo bRo mRo FOd bOd mOd FLa bLa mLa FPt bPt mPt FRi bRi mRi FNu bNu mNu FWi bWi mWi FTo bTo mTo FRs bRs mRs FPl bPl mPl FAr bAr mAr FT bT mT FNe bNe mNe FF bF mF FLe bLe mLe FBw bBw mBw FNb bNb mNb FIp bIp mIp FHw bHw mHw FPw bPw mPw FNt bNt mNt FPo bPo mPo FCd bCd mCd FCl bCl mCl FNn bNn mNn FSu bSu mSu FTd bTd mTd FIo bIo mIo FBy bBy mBy FLb bLb mLb FIh bIh mIh FEb bEb mEb mb0 mb1 mb2 mb3 mb4 mb5 mb6 mb7 mb8 mb9 mb10 mb11 mb12 mb13⟩
end K68
open PySem PySem.W PyProof.Rows
set_option maxRecDepth 100000 in
set_option maxHeartbeats 0 in
theorem PySem.Challenge.cw_labelways_k68_whole_labels_of_a_part_holds : PySem.Challenge.rw_labelways_k68_whole_labels_of_a_part.Holds := by
 refine holds_law (by decide +kernel) fun said=>?_
 refine holds_open (q:=K68.V) (loose:=[]) (Xt:=fun s=>xlAt K68.V [] s && recOk (RowW.records K68.RR) s) (XP:=XL K68.V []) (Yf:=Hook.obs K68.HK) (Ya:=Hook.val K68.HK) (YP:=Hook.says K68.HK) (d:=K68.dL) (kwd:=[]) (N:=3588) K68.left (Hook.of K68.HK) (Hook.keeps K68.HK) (fun s e=>xl_of s (Bool.and_eq_true_iff.mp e).1) XL.keeps (by kernel_rfl) (by kernel_rfl) (by kernel_rfl) (fun s e=>recFacts_of (Bool.and_eq_true_iff.mp e).2) (by kernel_rfl) said (by decide +kernel) ⟨rfl,rfl,rfl,rfl,rfl,by decide +kernel⟩ ?hw ?hc
 case hw=>w_witness2
 case hc=>
  exact K68.walk (l:=PySem.Challenge.rw_labelways_k68_whole_labels_of_a_part) (K:=K68.Kf) rfl rfl ⟨((PyProof.Rows.recsOf K68.V).find? (fun e=>e.name==("nearest" : Str))).get (by decide +kernel),by simp⟩ (fun w h Y=>PySem.W.kIn_of Y) K68.facts
