import PyProof.Rows.All
import Wide.All
import OpenK.AllK
import Wide.FinOn
import Lean
import PyProof.EqAt
import PyProof.EqKinds
import PyProof.TupleCall
import PyProof.ListRange
import PyProof.Rows.StrKeys3
import PyProof.ZipIter
import PyProof.StrCalls2
import KE.KIntText
import PyProof.FString
import PyProof.StrWalks
import PyProof.Rows.StrInSeq3
import PyProof.StrBlock2
import PyProof.StrBlockI
import PyProof.StrLawsReplace
import PyProof.Rows.CallKwBuiltin
import PyProof.Draws
import PyProof.EqKinds
import PySem.Challenge.RW_labelways_k70_label_lines
set_option Elab.async false
set_option linter.all false
set_option maxRecDepth 100000
namespace L2
open PySem PySem.Spec PyProof.Rows
noncomputable abbrev Key:=Sum Int Str
noncomputable def keyIs:Key->Value->Bool
 | .inl k,v=>Value.isInt k v
 | .inr x,v=>Value.isStrOf x v
noncomputable def keyH (w:World):Key->Int
 | .inl k=>hashInt k
 | .inr x=>hashStr w x
theorem keyIs_shape:∀{k:Key}{v:Value},keyIs k v=true->(∃i t,k=Sum.inl i/\v=Value.int i t)\/(∃x t,k=Sum.inr x/\v=Value.str x t)
 | .inl i,v,h=>by
  obtain⟨t,e⟩:=Value.isInt_shape (k:=i) (v:=v) h
  exact .inl ⟨i,t,rfl,e⟩
 | .inr x,v,h=>by
  obtain⟨t,e⟩:=Value.isStrOf_shape (x:=x) (v:=v) h
  exact .inr ⟨x,t,rfl,e⟩
theorem key_ll (a b:Int):decide ((Sum.inl a:Key)=Sum.inl b)=(a==b):=by
 by_cases e:a=b
 . subst e;simp
 . have h:¬ (Sum.inl a:Key)=Sum.inl b:=fun q=>e (Sum.inl.inj q)
   rw[decide_eq_false h]
   exact (beq_eq_false_iff_ne.mpr e).symm
theorem key_rr (a b:Str):decide ((Sum.inr a:Key)=Sum.inr b)=decide (a=b):=by
 by_cases e:a=b
 . subst e;simp
 . have h:¬ (Sum.inr a:Key)=Sum.inr b:=fun q=>e (Sum.inr.inj q)
   rw[decide_eq_false h,decide_eq_false e]
theorem key_lr (a:Int)(b:Str):decide ((Sum.inl a:Key)=Sum.inr b)=false:=decide_eq_false (fun q=>nomatch q)
theorem key_rl (a:Str)(b:Int):decide ((Sum.inr a:Key)=Sum.inl b)=false:=decide_eq_false (fun q=>nomatch q)
noncomputable def mixKind (prog:Program)(w:World):PySem.KeyKind prog w Key where
 is:=keyIs
 hash:=keyH w
 inj:=fun v a b ha hb=>by
  rcases keyIs_shape ha with ⟨i,t,rfl,rfl⟩ | ⟨x,t,rfl,rfl⟩
  . rcases keyIs_shape hb with ⟨j,u,rfl,e⟩ | ⟨y,u,rfl,e⟩
    . injection e with e1 _;rw[e1]
    . exact nomatch e
  . rcases keyIs_shape hb with ⟨j,u,rfl,e⟩ | ⟨y,u,rfl,e⟩
    . exact nomatch e
    . injection e with e1 _;rw[e1]
 byValue:=fun k v h=>by
  rcases keyIs_shape h with ⟨i,t,rfl,rfl⟩ | ⟨x,t,rfl,rfl⟩ <;> rfl
 pyHash:=fun hv h=>by
  rcases keyIs_shape hv with ⟨i,t,rfl,rfl⟩ | ⟨x,t,rfl,rfl⟩
  . exact wpAny_pyHash_int h
  . exact wpAny_pyHash_str h
 eqBool:=fun hu hv h=>by
  rcases keyIs_shape hu with ⟨i,t,rfl,rfl⟩ | ⟨x,t,rfl,rfl⟩
  . rcases keyIs_shape hv with ⟨j,u,rfl,rfl⟩ | ⟨y,u,rfl,rfl⟩
    . rw[key_ll] at h;exact wpAny_eqBool_int h
    . rw[key_lr] at h;exact SeqAt.EqAt.int_str i t y u _ _ _ _ h
  . rcases keyIs_shape hv with ⟨j,u,rfl,rfl⟩ | ⟨y,u,rfl,rfl⟩
    . rw[key_rl] at h;exact SeqAt.EqAt.str_int x t j u _ _ _ _ h
    . rw[key_rr] at h;exact wpAny_eqBool_str h
 «strs» := fun k x t v h=>by
  rcases keyIs_shape h with ⟨i,u,rfl,e⟩ | ⟨y,u,rfl,e⟩
  . exact nomatch e
  . injection e with e1 _
    subst e1
    cases v <;> rfl
end L2
namespace L2
open PySem PySem.Spec PyProof.Rows
inductive V where
 | non | bl (b:Bool) | int (i:Int) | str (x:Str) | byt (b:Array UInt8) | flt (b:UInt64) | ref (a:Addr) | ty (n:String)
 deriving DecidableEq
noncomputable def RelV:V->Value->Prop
 | .non,u=>u=Value.none
 | .bl b,u=>u=Value.bool b
 | .int i,u=>∃t,u=Value.int i t
 | .str x,u=>∃t,u=Value.str x t
 | .byt b,u=>∃t,u=Value.bytes b t
 | .flt b,u=>∃t,u=Value.float b t
 | .ref a,u=>u=Value.ref a
 | .ty n,u=>u=Value.type n
noncomputable abbrev Vals:List V->List Value->Prop:=Paired RelV
theorem Vals.length {xs:List V}{us:List Value}(r:Vals xs us):xs.length=us.length:=Paired.length r
theorem Vals.get:∀{xs:List V}{us:List Value}{i:Nat}{x:V},Vals xs us->xs[i]? = some x->∃u,us[i]? = some u/\RelV x u
 | _,_,_,_,.nil,e=>by simp at e
 | _,_,0,_,.cons r _,e=>by simp at e;subst e;exact⟨_,rfl,r⟩
 | _,_,i+1,x,.cons _ t,e=>by
  obtain⟨u,h1,h2⟩:=Vals.get (i:=i) (x:=x) t (by simpa using e)
  exact⟨u,by simpa using h1,h2⟩
theorem Vals.set {x:V}{u:Value}(r:RelV x u):∀{xs:List V}{us:List Value}(i:Nat),Vals xs us->Vals (xs.set i x) (us.set i u)
 | _,_,_,.nil=>.nil
 | _,_,0,.cons _ t=>.cons r t
 | _,_,i+1,.cons q t=>.cons q (Vals.set r i t)
theorem Vals.append:∀{xs ys:List V}{us ws:List Value},Vals xs us->Vals ys ws->Vals (xs++ys) (us++ws)
 | _,_,_,_,.nil,s=>s
 | _,_,_,_,.cons r t,s=>.cons r (Vals.append t s)
theorem Vals.take:∀{xs:List V}{us:List Value}(n:Nat),Vals xs us->Vals (xs.take n) (us.take n)
 | _,_,0,_=>.nil
 | _,_,_+1,.nil=>.nil
 | _,_,n+1,.cons r t=>.cons r (Vals.take n t)
theorem Vals.drop:∀{xs:List V}{us:List Value}(n:Nat),Vals xs us->Vals (xs.drop n) (us.drop n)
 | _,_,0,r=>r
 | _,_,_+1,.nil=>.nil
 | _,_,n+1,.cons _ t=>Vals.drop n t
noncomputable def RelO:Option V->Option Value->Prop
 | some v,some u=>RelV v u
 | none,none=>True
 | _,_=>False
noncomputable def KV {κ:Type}:List (κ×V)->List (κ×Value)->Prop:=Paired fun (p:κ×V)(q:κ×Value)=>p.1=q.1/\RelV p.2 q.2
noncomputable def kV:Key->V
 | .inl i=>.int i
 | .inr x=>.str x
inductive HO where
 /-- a list -/
 | lst (xs:List V)
 /-- a tuple (never changes) -/
 | tup (xs:List V)
 /-- a dict whose keys are ints and texts;one whose keys are tuples of ints and texts (the empty one is both) -/
 | dK (kvs:List (Key×V)) | dT (kvs:List (List Key×V))
 /-- a set of ints: its members,its size -/
 | set (S:Int->Bool)(n:Nat)
 /-- an instance of the class at C,its dict at dx,its attributes -/
 | ins (C dx:Addr)(fs:List (Str×V))
 /-- the dict of the instance at x -/
 | own (x:Addr)
 /-- the dict of an exception -/
 | xd (fs:List (Str×V))
 /-- a bound method,f of x -/
 | met (f x:Addr)
 /-- a range object lo,lo+1,.. below hi -/
 | rng (lo hi:Int)
 /-- a thing that is known to the object (the script;a dict while a loop walks it): read,never written while it is so -/
 | frz (o:Obj)(u:HO)
 /-- a code object's table -/
 | tbl (ps:Array Value)
 /-- any other thing,by what is true of its one object (a def of one's own: SetO a S n:=HO.ext fun h=>..) -/
 | ext (φ:Heap->Prop)
noncomputable abbrev Hp:=Addr->Option HO
noncomputable def upd (H:Hp)(a:Addr)(o:HO):Hp:=fun b=>if b=a then some o else H b
theorem upd_same {H:Hp}{a:Addr}{o:HO}:upd H a o a=some o:=by unfold upd;rw[if_pos rfl]
theorem upd_ne {H:Hp}{a b:Addr}{o:HO}(h:b≠a):upd H a o b=H b:=by unfold upd;rw[if_neg h]
theorem upd_upd {H:Hp}{a:Addr}{o u:HO}:upd (upd H a o) a u=upd H a u:=by
 funext b;unfold upd;split <;> rfl
theorem ne_of {H:Hp}{a b:Addr}{o u:HO}(h:H a=some o)(h':H b=some u)(d:o≠u):a≠b:=by
 intro e;subst e;rw[h] at h';exact d (Option.some.inj h')
theorem ne_of_none {H:Hp}{a b:Addr}{o:HO}(h:H a=some o)(h':H b=none):a≠b:=by
 intro e;subst e;rw[h] at h';cases h'
section
variable (P:Program)(w:World)
noncomputable def ObjOk (H:Hp)(h:Heap)(a:Addr):HO->Prop
 | .lst xs=>xs.length<=sizeLine/\∃(its:List Value)(n:Nat),Vals xs its/\h.get? a=some { cls:=.type "list",data:=.seq its.toArray n }
 | .tup xs=>(xs.length<=sizeLine/\∃o,h.get? a=some o/\o.dict=none)/\∃its:List Value,Vals xs its/\IsTup h a its.toArray
 | .dK kvs=>kvs.length<=sizeLine/\(a==sysModules)=false/\∃vs,KV kvs vs/\h.DictOf (mixKind P w) a vs
 | .dT kvs=>kvs.length<=sizeLine/\(a==sysModules)=false/\∃xs:List (List Key×Addr×Value),
  Paired (fun (p:List Key×V)(q:List Key×Addr×Value)=>p.1=q.1/\H q.2.1=some (.tup (p.1.map kV))/\RelV p.2 q.2.2) kvs xs /\
  ∃o es ep,h.get? a=some o/\o.ExactDict/\o.data = .dict es ep/\es.toList=xs.map (entryOfKey (tupleKind (mixKind P w)))/\(xs.map (·.1)).Nodup
 | .set S n=>h.SetOf (intKind P w) a S n
 | .ins C dx fs=>H dx=some (.own a)/\fs.length<=1000/\dx≠a/\h.get? a=some (PySem.W.instObj C dx) /\
  ∃mA,h.Ns1 dx mA/\(∀f,RelO (fs.lookup f) (mA f))/\PySem.Within mA (fs.map (·.1))
 | .own _=>∃o,h.get? a=some o
 | .xd fs=>∃mA,h.Ns1 a mA/\∀f,RelO (fs.lookup f) (mA f)
 | .rng lo hi=>∃t u v,h.get? a=some { cls:=.type "range",data:=.fields #[.int lo t,.int hi u,.int 1 v] }
 | .frz o u=>h.get? a=some o/\ObjOk H h a u
 | .tbl ps=>h.get? a=some { cls:=.none,data:=.fields ps }
 | .met f x=>h.get? a=some (PySem.W.methodObj (.ref f) (.ref x))
 | .ext φ=>φ h/\(∃o,h.get? a=some o)/\∀h1 h2:Heap,φ h1->(∀o,h1.get? a=some o->h2.get? a=some o)->φ h2
noncomputable def HOk (H:Hp)(h:Heap):Prop:=∀a o,H a=some o->ObjOk P w H h a o
end
section
variable {P:Program}{w:World}{H H':Hp}{h h':Heap}{a:Addr}{o:HO}
theorem ObjOk.lt (x:ObjOk P w H h a o):a<h.objs.size:=by
 cases o with
 | lst xs=>obtain⟨_,_,_,_,e⟩:=x;exact Heap.lt_size e
 | tup xs=>obtain⟨_,_,_,p⟩:=x;exact p.lt
 | dK kvs=>obtain⟨_,_,_,_,o,_,_,e,_⟩:=x;exact Heap.lt_size e
 | dT kvs=>obtain⟨_,_,_,_,o,_,_,e,_⟩:=x;exact Heap.lt_size e
 | set S n=>obtain⟨o,_,_,_,e,_⟩:=x;exact Heap.lt_size e
 | ins C dx fs=>obtain⟨_,_,_,e,_⟩:=x;exact Heap.lt_size e
 | own y=>obtain⟨_,e⟩:=x;exact Heap.lt_size e
 | xd fs=>obtain⟨_,⟨_,_,_,e,_⟩,_⟩:=x;exact Heap.lt_size e
 | rng lo hi=>obtain⟨_,_,_,e⟩:=x;exact Heap.lt_size e
 | frz ob u=>obtain⟨e,_⟩:=x;exact Heap.lt_size e
 | tbl ps=>exact Heap.lt_size (show h.get? a=some _ from x)
 | met f y=>exact Heap.lt_size (show h.get? a=some _ from x)
 | ext φ=>obtain⟨_,⟨_,e⟩,_⟩:=x;exact Heap.lt_size e
theorem Paired.mapP {α β:Type}{F G:α->β->Prop}:∀{l₁:List α}{l₂:List β},Paired F l₁ l₂->(∀a b,F a b->G a b)->Paired G l₁ l₂
 | _,_,.nil,_=>.nil
 | _,_,.cons r t,f=>.cons (f _ _ r) (Paired.mapP t f)
theorem ObjOk.stay (x:ObjOk P w H h a o)(k:∀b u,(b=a\/H b=some (.own a))->h.get? b=some u->h'.get? b=some u)
 (ho:∀b,H b=some (.own a)->H' b=some (.own a))(ht:∀b xs,H b=some (.tup xs)->H' b=some (.tup xs)):ObjOk P w H' h' a o:=by
 induction o with
 | lst xs=>obtain⟨z,its,n,r,e⟩:=x;exact⟨z,its,n,r,k _ _ (.inl rfl) e⟩
 | tup xs=>obtain⟨⟨z,o2,e2,d2⟩,its,r,ob,e,c⟩:=x;exact⟨⟨z,o2,k _ _ (.inl rfl) e2,d2⟩,its,r,ob,k _ _ (.inl rfl) e,c⟩
 | dK kvs=>obtain⟨z,y,vs,r,ob,es,ep,e,c⟩:=x;exact⟨z,y,vs,r,ob,es,ep,k _ _ (.inl rfl) e,c⟩
 | dT kvs=>
  obtain⟨z,y,xs,r,ob,es,ep,e,c⟩:=x
  exact⟨z,y,xs,Paired.mapP r fun p q z=>⟨z.1,ht _ _ z.2.1,z.2.2⟩,ob,es,ep,k _ _ (.inl rfl) e,c⟩
 | set S n=>obtain⟨ob,es,ep,t,e,c⟩:=x;exact⟨ob,es,ep,t,k _ _ (.inl rfl) e,c⟩
 | ins C dx fs=>
  obtain⟨d,z,ne,e,mA,⟨od,es,ep,e2,c⟩,r⟩:=x
  exact⟨ho _ d,z,ne,k _ _ (.inl rfl) e,mA,⟨od,es,ep,k _ _ (.inr d) e2,c⟩,r⟩
 | own y=>obtain⟨ob,e⟩:=x;exact⟨ob,k _ _ (.inl rfl) e⟩
 | xd fs=>obtain⟨mA,⟨od,es,ep,e,c⟩,r⟩:=x;exact⟨mA,⟨od,es,ep,k _ _ (.inl rfl) e,c⟩,r⟩
 | rng lo hi=>obtain⟨t,u,v,e⟩:=x;exact⟨t,u,v,k _ _ (.inl rfl) e⟩
 | frz ob u ih=>obtain⟨e,q⟩:=x;exact⟨k _ _ (.inl rfl) e,ih q⟩
 | tbl ps=>
  have e:h.get? a=some { cls:=.none,data:=.fields ps }:=x
  show h'.get? a=some { cls:=.none,data:=.fields ps }
  exact k a _ (.inl rfl) e
 | met f y=>
  have e:h.get? a=some (PySem.W.methodObj (.ref f) (.ref y)):=x
  show h'.get? a=some (PySem.W.methodObj (.ref f) (.ref y))
  exact k a _ (.inl rfl) e
 | ext φ=>obtain⟨p,⟨o,e⟩,st⟩:=x;exact⟨st _ _ p fun o q=>k _ _ (.inl rfl) q,⟨o,k _ _ (.inl rfl) e⟩,st⟩
theorem HOk.lt (x:HOk P w H h)(e:H a=some o):a<h.objs.size:=(x a o e).lt
theorem HOk.fresh (x:HOk P w H h)(e:h.objs.size<=a):H a=none:=by
 cases q:H a with
 | none=>rfl
 | some u=>exact absurd (Nat.lt_of_lt_of_le (x.lt q) e) (Nat.lt_irrefl _)
theorem HOk.kept (x:HOk P w H h)(k:∀b u,h.get? b=some u->h'.get? b=some u):HOk P w H h':=fun a o e=>
 (x a o e).stay (fun b u _ q=>k b u q) (fun _ q=>q) fun _ _ q=>q
theorem HOk.laid (x:HOk P w H h)(k:∀b u,h.get? b=some u->h'.get? b=some u)(hp:h.objs.size<=a)(new:ObjOk P w (upd H a o) h' a o):HOk P w (upd H a o) h':=fun b u e=>by
 have hn:=x.fresh hp
 by_cases hb:b=a
 . subst hb;rw[upd_same] at e;cases e;exact new
 . rw[upd_ne hb] at e
   exact (x b u e).stay (fun c v _ q=>k c v q) (fun c q=>by rw[upd_ne (ne_of_none q hn)];exact q) fun c xs q=>by rw[upd_ne (ne_of_none q hn)];exact q
end
noncomputable def Rd (H:Hp)(a:Addr)(u:HO):Prop:=H a=some u\/∃o,H a=some (.frz o u)
theorem Rd.ok {P:Program}{w:World}{H:Hp}{h:Heap}{a:Addr}{u:HO}(r:Rd H a u)(x:HOk P w H h):ObjOk P w H h a u:=by
 rcases r with r | ⟨o,r⟩
 . exact x a u r
 . obtain⟨_,q⟩:=x a _ r
   exact q
noncomputable def Mut:Option HO->Prop
 | some (.lst _)=>True
 | some (.dK _)=>True
 | some (.dT _)=>True
 | some (.set _ _)=>True
 | some (.ins _ _ _)=>True
 | some (.ext _)=>True
 | _=>False
section
variable {P:Program}{w:World}{H:Hp}{h h':Heap}{x e:Addr}{o':HO}
theorem HOk.write (ok:HOk P w H h)(mu:Mut (H x))(he:e=x\/H e=some (.own x))(k:∀b u,b≠e->h.get? b=some u->h'.get? b=some u)(heo:∃u,h'.get? e=some u)
 (new:ObjOk P w (upd H x o') h' x o'):HOk P w (upd H x o') h':=fun b u q=>by
 have nown:∀c y,H c=some (.own y)->c≠x:=fun c y r z=>by subst z;rw[r] at mu;exact mu
 have ntup:∀c xs,H c=some (.tup xs)->c≠x:=fun c xs r z=>by subst z;rw[r] at mu;exact mu
 by_cases hb:b=x
 . subst hb;rw[upd_same] at q;cases q;exact new
 . rw[upd_ne hb] at q
   by_cases hbe:b=e
   . have q':H b=some (.own x):=by
      rcases he with z | z
      . exact absurd (hbe.trans z) hb
      . rw[hbe];exact z
     rw[q] at q';cases q'
     obtain⟨v,hv⟩:=heo
     exact⟨v,by rw[hbe];exact hv⟩
   . refine (ok b u q).stay (fun c v hc r=>k c v ?_ r) (fun c r=>by rw[upd_ne (nown c b r)];exact r) fun c xs r=>by rw[upd_ne (ntup c xs r)];exact r
     rcases hc with rfl | hc
     . exact hbe
     . rintro rfl
       rcases he with z | z
       . exact nown c b hc z
       . rw[hc] at z;cases z;exact hb rfl
end
structure Un (fs ex:List Addr)(H H':Hp)(h h':Heap):Prop where
 keep:∀b o,h.get? b=some o->H b=none->b∉fs->b∉ex->h'.get? b=some o
 slot:∀b o,h.get? b=some o->H b=none->b∈fs->b∉ex->∃sl,h'.get? b=some { o with slots:=sl }
 free:∀b o,h.get? b=some o->H b=none->b∉ex->H' b=none
 there:∀b o,h.get? b=some o->b∉ex->∃o',h'.get? b=some o'
 tups:∀b xs,H b=some (.tup xs)->H' b=some (.tup xs)
 frzs:∀b o u,H b=some (.frz o u)->H' b=some (.frz o u)
 tbls:∀b ps,H b=some (.tbl ps)->∃more,H' b=some (.tbl (ps++more))
section
variable {fs fs' ex ex':List Addr}{H H1 H2:Hp}{h h1 h2 h':Heap}{a x e:Addr}{o:HO}
theorem Un.any (u:Un fs ex H H1 h h1){b:Addr}{ob:Obj}(q:h.get? b=some ob)(n:H b=none)(hx:b∉ex):∃sl,h1.get? b=some { ob with slots:=sl }:=by
 by_cases hb:b∈fs
 . exact u.slot b ob q n hb hx
 . exact⟨ob.slots,u.keep b ob q n hb hx⟩
theorem Un.trans (a:Un fs ex H H1 h h1)(b:Un fs ex H1 H2 h1 h2):Un fs ex H H2 h h2 where
 keep:=fun c ob q n hc hx=>b.keep c ob (a.keep c ob q n hc hx) (a.free c ob q n hx) hc hx
 slot:=fun c ob q n hc hx=>by
  obtain⟨sl,e1⟩:=a.slot c ob q n hc hx
  obtain⟨sl',e2⟩:=b.slot c _ e1 (a.free c ob q n hx) hc hx
  exact⟨sl',e2⟩
 free:=fun c ob q n hx=>by
  obtain⟨o',e1⟩:=a.there c ob q hx
  exact b.free c o' e1 (a.free c ob q n hx) hx
 there:=fun c ob q hx=>by
  obtain⟨o',e1⟩:=a.there c ob q hx
  exact b.there c o' e1 hx
 tups:=fun c xs q=>b.tups c xs (a.tups c xs q)
 frzs:=fun c ob xs q=>b.frzs c ob xs (a.frzs c ob xs q)
 tbls:=fun c ps q=>by
  obtain⟨m1,e1⟩:=a.tbls c ps q
  obtain⟨m2,e2⟩:=b.tbls c _ e1
  exact⟨m1++m2,by rw[e2,Array.append_assoc]⟩
theorem Un.kept (k:∀b u,h.get? b=some u->h'.get? b=some u):Un fs ex H H h h':=
 ⟨fun b ob q _ _ _=>k b ob q,fun b ob q _ _ _=>⟨ob.slots,k b ob q⟩,fun _ _ _ n _=>n,fun b ob q _=>⟨ob,k b ob q⟩,fun _ _ q=>q,fun _ _ _ q=>q,fun _ ps q=>⟨#[],by rw[q];simp⟩⟩
theorem Un.refl:Un fs ex H H h h:=Un.kept fun _ _ q=>q
theorem Un.laid (k:∀b u,h.get? b=some u->h'.get? b=some u)(hp:h.objs.size<=a)(hn:H a=none):Un fs ex H (upd H a o) h h' where
 keep:=fun b u q _ _ _=>k b u q
 slot:=fun b u q _ _ _=>⟨u.slots,k b u q⟩
 free:=fun b u q n _=>by rw[upd_ne (Nat.ne_of_lt (Nat.lt_of_lt_of_le (Heap.lt_size q) hp))];exact n
 there:=fun b u q _=>⟨u,k b u q⟩
 tups:=fun b xs q=>by rw[upd_ne (ne_of_none q hn)];exact q
 frzs:=fun b u xs q=>by rw[upd_ne (ne_of_none q hn)];exact q
 tbls:=fun b ps q=>⟨#[],by rw[upd_ne (ne_of_none q hn),q];simp⟩
theorem Un.write (mu:Mut (H x))(he:e=x\/H e=some (.own x))(k:∀b u,b≠e->h.get? b=some u->h'.get? b=some u)(heo:∃u,h'.get? e=some u):Un fs ex H (upd H x o) h h':=by
 have hx:∀b,H b=none->b≠x:=fun b n z=>by subst z;rw[n] at mu;exact mu
 have hb:∀b,H b=none->b≠e:=fun b n z=>by
  subst z
  rcases he with r | r
  . exact hx b n r
  . rw[n] at r;cases r
 have hm:∀b u,H b=some u->¬ Mut (some u)->b≠x:=fun b u q nm z=>by subst z;rw[q] at mu;exact nm mu
 refine⟨fun b u q n _ _=>k b u (hb b n) q,fun b u q n _ _=>⟨u.slots,k b u (hb b n) q⟩,fun b u q n _=>by rw[upd_ne (hx b n)];exact n,fun b u q _=>?_,
  fun b xs q=>by rw[upd_ne (hm b _ q fun z=>z)];exact q,fun b u xs q=>by rw[upd_ne (hm b _ q fun z=>z)];exact q,fun b ps q=>⟨#[],by rw[upd_ne (hm b _ q fun z=>z),q];simp⟩⟩
 by_cases hbe:b=e
 . subst hbe;exact heo
 . exact⟨u,k b u hbe q⟩
end
noncomputable def trk (h:Heap)(H:Hp):List Addr:=(List.range h.objs.size).filter fun a=>(H a).isSome
noncomputable def hidT (h:Heap)(H:Hp):Heap:=PySem.W.hideAll h (trk h H)
theorem hidT_size (h:Heap)(H:Hp):(hidT h H).objs.size=h.objs.size:=PySem.W.hideAll_size _ _
theorem hidT_get {h:Heap}{H:Hp}{b:Addr}{o:Obj}(e:h.get? b=some o)(n:H b=none):(hidT h H).get? b=some o:=
 PySem.W.hideAll_get _ e fun hm=>by
  have q:(H b).isSome=true:=(List.mem_filter.mp hm).2
  rw[n] at q;simp at q
theorem of_hidT {h:Heap}{H:Hp}{b:Addr}{o:Obj}(e:(hidT h H).get? b=some o):h.get? b=some o/\H b=none:=by
 have e':h.get? b=some o:=PySem.W.of_hideAll (trk h H) e
 refine⟨e',?_⟩
 cases q:H b with
 | none=>rfl
 | some x=>
  have hm:b∈trk h H:=List.mem_filter.mpr ⟨List.mem_range.mpr (Heap.lt_size e'),by simp[q]⟩
  have z:(hidT h H).get? b=none:=PySem.W.hideAll_none (trk h H) hm
  rw[z] at e;cases e
end L2
namespace L2
open PySem PySem.Spec PyProof.Rows
structure Mod (K:PySem.W.Frag)(mg:Str->Option Value)(base:Heap):Prop where
 kin:K.In base
 glob:base.Ns mainGlobals mg
 blt:∃mb,base.Ns builtinsNs mb/\∀x:Str,x ≠ "__name__" -> mb x=bootBuiltins x
 nolimit:base.NoLimit
structure Cx where
 prog:Program
 w:World
 K:PySem.W.Frag
 mg:Str->Option Value
 base:Heap
 A:Around
 N:List Str
 s₀:Shared
 H₀:Hp
 env:Env
 outer:List Env
 stack:List Env
 ex:List Addr
 fn:Str->Bool
 calm:Bool
 pn:List (Addr×Obj)
 xe:Value->Shared->Prop
noncomputable def frs (l:List Env):List Addr:=l.filterMap (·.frame)
noncomputable abbrev Cx.fs (X:Cx):List Addr:=frs X.outer
noncomputable def Vis (sc:Scope)(x:Str):Prop:=sc.names.lookup x=some .local\/sc.names.lookup x=some .cell\/sc.names.lookup x=some .free
noncomputable def Loc (sc:Scope)(x:Str):Prop:=sc.names.lookup x=some .local\/sc.names.lookup x=some .cell
noncomputable def Look (env:Env)(h:Heap)(m:Str->Option Value)(x:Str)(u:Value):Prop:=
 (env.kindOf x=some .local/\m x=some u)\/((env.kindOf x=some .cell\/env.kindOf x=some .free)/\∃c,env.cells.lookup x=some c/\h.IsCell c (some u))
structure Cx.Ok (X:Cx):Prop where
 mod:Mod X.K X.mg X.base
 kind:X.env.scope.kind = .function
 glob:X.env.globals=mainGlobals
 blt:X.env.builtins=builtinsNs
 above:X.s₀.heap.objs.size<=X.env.locals
 inj:∀x y c,X.env.cells.lookup x=some c->X.env.cells.lookup y=some c->x=y
 has:∀x,(X.env.kindOf x=some .cell\/X.env.kindOf x=some .free)->∃c,X.env.cells.lookup x=some c
 cab:∀x c,X.fn x=true->X.env.cells.lookup x=some c->X.s₀.heap.objs.size<=c
 hd:X.calm=true->X.A.handled=none
 frames:X.A.frames=some X.stack
 stk:X.stack=X.outer\/(X.stack=X.env::X.outer/\X.env.frame=some X.env.locals)
 exf:∀b∈X.ex,b≠X.env.locals/\∀x c,X.env.cells.lookup x=some c->c≠b
 bs:∀b o,X.base.get? b=some o->X.s₀.heap.get? b=some o/\X.H₀ b=none
 bsz:X.base.objs.size<=X.s₀.heap.objs.size
 noex:∀b o,X.base.get? b=some o->b∉X.ex
 exfs:∀b∈X.ex,b∉X.fs
 funs:X.s₀.heap.FunFrames X.base X.outer
 frf:∀b∈X.fs,X.H₀ b=none
structure Inv (X:Cx)(pins:List (Addr×Obj))(σ:List (Option V))(H:Hp)(s:Shared):Prop where
 ok:X.Ok
 os:s.os=X.s₀.os
 bare:AllBare s.gens
 base:Un X.fs X.ex X.H₀ H X.s₀.heap s.heap
 loc:∃m,s.heap.Ns X.env.locals m/\∀(i:Nat)(x:Str)(v:V),X.N[i]? = some x->σ[i]? = some (some v)->Vis X.env.scope x->∃u,RelV v u/\Look X.env s.heap m x u
 cell:∀x c,X.env.cells.lookup x=some c->∃v,s.heap.IsCell c v
 free:H X.env.locals=none
 freeC:∀x c,X.env.cells.lookup x=some c->H c=none
 pin:∀p∈X.pn++pins,s.heap.get? p.1=some p.2/\H p.1=none/\p.1≠X.env.locals/\p.1∉X.fs/\∀v,p.2.data ≠ .cell v
 hok:HOk X.prog X.w H s.heap
 len:σ.length=X.N.length
section
variable {X:Cx}{pins:List (Addr×Obj)}{σ:List (Option V)}{H H':Hp}{s:Shared}{h':Heap}
theorem Cx.Ok.nofr (ok:X.Ok){b:Addr}{o:Obj}(e:X.base.get? b=some o):b∉X.fs:=fun hb=>by
 have:=(ok.funs.mem hb).1
 rw[e] at this;cases this
theorem Inv.bs (I:Inv X pins σ H s):∀b o,X.base.get? b=some o->s.heap.get? b=some o/\H b=none:=fun b o e=>
 ⟨I.base.keep b o (I.ok.bs b o e).1 (I.ok.bs b o e).2 (I.ok.nofr e) (I.ok.noex b o e),I.base.free b o (I.ok.bs b o e).1 (I.ok.bs b o e).2 (I.ok.noex b o e)⟩
theorem Inv.bk (I:Inv X pins σ H s):∀b o,X.base.get? b=some o->s.heap.get? b=some o:=fun b o e=>(I.bs b o e).1
theorem Inv.mod (I:Inv X pins σ H s):Mod X.K X.mg X.base:=I.ok.mod
theorem Inv.kIn (I:Inv X pins σ H s):X.K.In s.heap:=I.ok.mod.kin.keeps I.bk
theorem Inv.lt (I:Inv X pins σ H s):X.env.locals<s.heap.objs.size:=let ⟨_,hn,_⟩:=I.loc;hn.lt
theorem Inv.sz (I:Inv X pins σ H s):X.s₀.heap.objs.size<=s.heap.objs.size:=Nat.le_trans I.ok.above (Nat.le_of_lt I.lt)
theorem Inv.nofs (I:Inv X pins σ H s){a:Addr}(h:s.heap.objs.size<=a):a∉X.fs:=fun hb=>by
 obtain⟨_,o,ho,_⟩:=I.ok.funs.mem hb
 exact absurd (Nat.lt_of_lt_of_le (Heap.lt_size ho) (Nat.le_trans I.sz h)) (Nat.lt_irrefl _)
theorem Inv.cne (I:Inv X pins σ H s):∀x c,X.env.cells.lookup x=some c->c≠X.env.locals:=fun x c e z=>by
 obtain⟨v,o,ho,hd⟩:=I.cell x c e
 obtain⟨m,⟨o',es,ep,ho',hd',_⟩,_⟩:=I.loc
 rw[z,ho'] at ho;cases ho;rw[hd'] at hd;cases hd
theorem Inv.funs (I:Inv X pins σ H s):s.heap.FunFrames X.base X.outer:=by
 have all:∀(l:List Env),(∀b∈frs l,b∈X.fs)->X.s₀.heap.FunFrames X.base l->s.heap.FunFrames X.base l:=by
  intro l
  induction l with
  | nil=>intro _ _;trivial
  | cons env r ih=>
   intro hs hl
   obtain⟨hk,⟨L,o,hf,hn,ho,hd⟩,hr⟩:=hl
   have hL:L∈X.fs:=hs L (by unfold frs;rw[List.filterMap_cons,hf];exact List.mem_cons_self)
   obtain⟨sl,e⟩:=I.base.slot L o ho (I.ok.frf L hL) hL fun z=>I.ok.exfs L z hL
   exact⟨hk,⟨L,_,hf,hn,e,hd⟩,ih (fun b hb=>hs b (by unfold frs;rw[List.filterMap_cons,hf];exact List.mem_cons_of_mem _ hb)) hr⟩
 exact all X.outer (fun _ hb=>hb) I.ok.funs
theorem Inv.stack (I:Inv X pins σ H s):s.heap.FunFrames X.base X.stack:=by
 rcases I.ok.stk with e | ⟨e,hf⟩
 . rw[e];exact I.funs
 . rw[e]
   obtain⟨m,hn,_⟩:=I.loc
   refine .cons (by rw[I.ok.kind];decide) hf hn ?_ I.funs
   exact Heap.get?_none_of_le (Nat.le_trans I.ok.bsz I.ok.above)
theorem Inv.stkSub (I:Inv X pins σ H s):∀b∈frs X.stack,b∈X.env.locals::X.fs:=fun b hb=>by
 rcases I.ok.stk with e | ⟨e,hf⟩
 . rw[e] at hb;exact List.mem_cons_of_mem _ hb
 . rw[e] at hb
   unfold frs at hb
   rw[List.filterMap_cons,hf] at hb
   exact hb
theorem Inv.stkFree (I:Inv X pins σ H s):∀b∈frs X.stack,H b=none:=fun b hb=>by
 rcases List.mem_cons.mp (I.stkSub b hb) with e | hb
 . rw[e];exact I.free
 . obtain⟨_,o,ho,_⟩:=I.ok.funs.mem hb
   exact I.base.free b o ho (I.ok.frf b hb) fun z=>I.ok.exfs b z hb
theorem Inv.step {g':Array GenState}{t':Nat}{d':Drawn}{ch:List Addr}(I:Inv X pins σ H s)
 (hch:∀b∈ch,(b∈X.ex\/X.s₀.heap.objs.size<=b)/\b≠X.env.locals/\(∀x c,X.env.cells.lookup x=some c->c≠b)/\∀p∈X.pn++pins,p.1≠b)
 (keep:∀b o,b≠X.env.locals->b∉X.fs->b∉ch->s.heap.get? b=some o->H b=none->h'.get? b=some o)
 (slot:∀b o,b≠X.env.locals->b∈X.fs->b∉ch->s.heap.get? b=some o->H b=none->∃sl,h'.get? b=some { o with slots:=sl })(free:∀b o,b∉ch->s.heap.get? b=some o->H b=none->H' b=none)
 (there:∀b o,b∉ch->s.heap.get? b=some o->∃o',h'.get? b=some o')
 (tups:∀b xs,H b=some (.tup xs)->H' b=some (.tup xs))(frzs:∀b o u,H b=some (.frz o u)->H' b=some (.frz o u))(tbls:∀b ps,H b=some (.tbl ps)->∃more,H' b=some (.tbl (ps++more)))
 (ns:∀m,s.heap.Ns X.env.locals m->h'.Ns X.env.locals m)(hok:HOk X.prog X.w H' h')(hg:AllBare g') :
 Inv X pins σ H' { s with heap:=h',gens:=g',drawn:=d',toks:=t' }:=by
 have neL:∀b o,X.s₀.heap.get? b=some o->b≠X.env.locals:=fun b o e=>Nat.ne_of_lt (Nat.lt_of_lt_of_le (Heap.lt_size e) I.ok.above)
 have neC:∀b o,X.s₀.heap.get? b=some o->b∉X.ex->b∉ch:=fun b o e hx hb=>by
  rcases (hch b hb).1 with z | z
  . exact hx z
  . exact absurd (Nat.lt_of_lt_of_le (Heap.lt_size e) z) (Nat.lt_irrefl _)
 have cellK:∀x c,X.env.cells.lookup x=some c->∀v,s.heap.IsCell c v->h'.IsCell c v:=fun x c e v ⟨o,ho,hd⟩=>by
  have nch:c∉ch:=fun z=>(hch c z).2.2.1 x c e rfl
  by_cases hc:c∈X.fs
  . obtain⟨sl,q⟩:=slot c o (I.cne x c e) hc nch ho (I.freeC x c e)
    exact⟨_,q,hd⟩
  . exact⟨o,keep c o (I.cne x c e) hc nch ho (I.freeC x c e),hd⟩
 refine⟨I.ok,I.os,hg,⟨fun b o e n hb hx=>?_,fun b o e n hb hx=>?_,fun b o e n hx=>?_,fun b o e hx=>?_,fun b xs e=>tups b xs (I.base.tups b xs e),fun b o xs e=>frzs b o xs (I.base.frzs b o xs e),fun b ps e=>?_⟩,?_,fun x c e=>?_,?_,fun x c e=>?_,fun p hp=>?_,hok,I.len⟩
 . exact keep b o (neL b o e) hb (neC b o e hx) (I.base.keep b o e n hb hx) (I.base.free b o e n hx)
 . obtain⟨sl,e1⟩:=I.base.slot b o e n hb hx
   obtain⟨sl',e2⟩:=slot b _ (neL b o e) hb (neC b o e hx) e1 (I.base.free b o e n hx)
   exact⟨sl',e2⟩
 . obtain⟨o',e1⟩:=I.base.there b o e hx
   exact free b o' (neC b o e hx) e1 (I.base.free b o e n hx)
 . obtain⟨o',e1⟩:=I.base.there b o e hx
   exact there b o' (neC b o e hx) e1
 . obtain⟨m1,e1⟩:=I.base.tbls b ps e
   obtain⟨m2,e2⟩:=tbls b _ e1
   exact⟨m1++m2,by rw[e2,Array.append_assoc]⟩
 . obtain⟨m,hn,hl⟩:=I.loc
   refine⟨m,ns m hn,fun i x v e1 e2 e3=>?_⟩
   obtain⟨u,r,l⟩:=hl i x v e1 e2 e3
   refine⟨u,r,?_⟩
   rcases l with l | ⟨k,c,e,z⟩
   . exact .inl l
   . exact .inr ⟨k,c,e,cellK x c e _ z⟩
 . obtain⟨v,z⟩:=I.cell x c e
   exact⟨v,cellK x c e v z⟩
 . obtain⟨m,⟨o,_,_,ho,_⟩,_⟩:=I.loc
   exact free _ o (fun z=>(hch _ z).2.1 rfl) ho I.free
 . obtain⟨v,o,ho,hd⟩:=I.cell x c e
   exact free c o (fun z=>(hch c z).2.2.1 x c e rfl) ho (I.freeC x c e)
 . obtain⟨e,n,ne,nf,d⟩:=I.pin p hp
   have nch:p.1∉ch:=fun z=>(hch p.1 z).2.2.2 p hp rfl
   exact⟨keep p.1 p.2 ne nf nch e n,free p.1 p.2 nch e n,ne,nf,d⟩
theorem Inv.un {t':Nat}(I:Inv X pins σ H s)(u:Un X.fs [] H H' s.heap h')(hok:HOk X.prog X.w H' h'):Inv X pins σ H' { s with heap:=h',toks:=t' }:=by
 obtain⟨m,⟨o,es,ep,ho,r⟩,_⟩:=id I.loc
 obtain⟨sl,hL⟩:=u.any ho I.free (by simp)
 exact I.step (g':=s.gens) (d':=s.drawn) (ch:=[]) (fun _ z=>nomatch z) (fun b o _ hb _ e n=>u.keep b o e n hb (by simp)) (fun b o _ hb _ e n=>u.slot b o e n hb (by simp)) (fun b o _ e n=>u.free b o e n (by simp)) (fun b o _ e=>u.there b o e (by simp)) u.tups u.frzs u.tbls (fun m' hm=>by
  obtain⟨o',es',ep',ho',r'⟩:=hm
  rw[ho] at ho';cases ho'
  exact⟨_,es',ep',hL,r'⟩) hok I.bare
theorem Inv.call {g':Array GenState}{t':Nat}{d':Drawn}{ch:List Addr}(I:Inv X pins σ H s)(u:Un (frs X.stack) ch H H' s.heap h')(hok:HOk X.prog X.w H' h')(hg:AllBare g')
 (hch:∀b∈ch,(b∈X.ex\/X.s₀.heap.objs.size<=b)/\b≠X.env.locals/\(∀x c,X.env.cells.lookup x=some c->c≠b)/\∀p∈X.pn++pins,p.1≠b) :
 Inv X pins σ H' { s with heap:=h',gens:=g',drawn:=d',toks:=t' }:=by
 obtain⟨m,⟨o,es,ep,ho,r⟩,_⟩:=id I.loc
 obtain⟨sl,hL⟩:=u.any ho I.free fun z=>(hch _ z).2.1 rfl
 exact I.step (ch:=ch) hch (fun b o hL hb hc e n=>u.keep b o e n (fun z=>(List.mem_cons.mp (I.stkSub b z)).elim hL hb) hc) (fun b o _ _ hc e n=>u.any e n hc) (fun b o hc e n=>u.free b o e n hc) (fun b o hc e=>u.there b o e hc) u.tups u.frzs u.tbls (fun m' hm=>by
  obtain⟨o',es',ep',ho',r'⟩:=hm
  rw[ho] at ho';cases ho'
  exact⟨_,es',ep',hL,r'⟩) hok hg
theorem Inv.turned {t':Nat}{it:Addr}(I:Inv X pins σ H s)(k:∀b o,b≠it->s.heap.get? b=some o->h'.get? b=some o)(hn:H it=none)(hL:it≠X.env.locals)
 (h1:it∈X.ex\/X.s₀.heap.objs.size<=it)(h2:∀x c,X.env.cells.lookup x=some c->c≠it)(h3:∀p∈X.pn++pins,p.1≠it):Inv X pins σ H { s with heap:=h',toks:=t' }:=by
 have nit:∀b u,H b=some u->b≠it:=fun b u e z=>by rw[z,hn] at e;cases e
 refine I.step (g':=s.gens) (d':=s.drawn) (ch:=[it]) (fun b hb=>?_) (fun b o _ _ hc e _=>k b o (fun z=>hc (by simp[z])) e) (fun b o _ _ hc e _=>⟨o.slots,k b o (fun z=>hc (by simp[z])) e⟩) (fun _ _ _ _ n=>n)
  (fun b o hc e=>⟨o,k b o (fun z=>hc (by simp[z])) e⟩) (fun _ _ e=>e) (fun _ _ _ e=>e) (fun b ps e=>⟨#[],by rw[e];simp⟩) (fun m hm=>?_) (fun b u e=>?_) I.bare
 . have e:b=it:=by simpa using hb
   subst e
   exact⟨h1,hL,h2,h3⟩
 . obtain⟨o,es,ep,ho,r⟩:=hm
   exact⟨o,es,ep,k _ o (Ne.symm hL) ho,r⟩
 . refine (I.hok b u e).stay (fun c v hc q=>k c v ?_ q) (fun _ q=>q) fun _ _ q=>q
   rcases hc with z | z
   . rw[z];exact nit b u e
   . exact nit c _ z
theorem Inv.tok (I:Inv X pins σ H s)(t:Nat):Inv X pins σ H { s with toks:=t }:=I.un (h':=s.heap) (t':=t) Un.refl I.hok
theorem Inv.kept {t':Nat}(I:Inv X pins σ H s)(k:∀b u,s.heap.get? b=some u->h'.get? b=some u):Inv X pins σ H { s with heap:=h',toks:=t' }:=I.un (Un.kept k) (I.hok.kept k)
theorem Inv.laid {a:Addr}{o:HO}{t':Nat}(I:Inv X pins σ H s)(k:∀b u,s.heap.get? b=some u->h'.get? b=some u)(hp:s.heap.objs.size<=a)(new:ObjOk X.prog X.w (upd H a o) h' a o) :
 Inv X pins σ (upd H a o) { s with heap:=h',toks:=t' }:=I.un (Un.laid k hp (I.hok.fresh hp)) (I.hok.laid k hp new)
theorem Inv.write {x e:Addr}{o:HO}{t':Nat}(I:Inv X pins σ H s)(mu:Mut (H x))(he:e=x\/H e=some (.own x))(k:∀b u,b≠e->s.heap.get? b=some u->h'.get? b=some u)(heo:∃u,h'.get? e=some u)
 (new:ObjOk X.prog X.w (upd H x o) h' x o):Inv X pins σ (upd H x o) { s with heap:=h',toks:=t' }:=I.un (Un.write mu he k heo) (I.hok.write mu he k heo new)
theorem Inv.weak {σ':List (Option V)}(I:Inv X pins σ H s)(hl:σ'.length=σ.length)(w:∀(i:Nat) v,σ'[i]? = some (some v)->σ[i]? = some (some v)):Inv X pins σ' H s:=
 ⟨I.ok,I.os,I.bare,I.base,let ⟨m,hn,hl'⟩:=I.loc;⟨m,hn,fun i x v e1 e2 e3=>hl' i x v e1 (w i v e2) e3⟩,I.cell,I.free,I.freeC,I.pin,I.hok,hl.trans I.len⟩
theorem Inv.pins_of {pins':List (Addr×Obj)}(I:Inv X pins σ H s)(h:∀p∈pins',s.heap.get? p.1=some p.2/\H p.1=none/\p.1≠X.env.locals/\p.1∉X.fs/\∀v,p.2.data ≠ .cell v):Inv X pins' σ H s:=
 ⟨I.ok,I.os,I.bare,I.base,I.loc,I.cell,I.free,I.freeC,fun p hp=>(List.mem_append.mp hp).elim (fun z=>I.pin p (List.mem_append_left _ z)) (h p),I.hok,I.len⟩
theorem nodup_ix {N:List Str}(hN:N.Nodup){i j:Nat}{x:Str}(a:N[i]? = some x)(b:N[j]? = some x):i=j:=by
 obtain⟨h1,e1⟩:=List.getElem?_eq_some_iff.mp a
 obtain⟨h2,e2⟩:=List.getElem?_eq_some_iff.mp b
 exact (List.getElem_inj hN).mp (e1.trans e2.symm)
theorem store_ok2 {M:Model}{A:Around}{E:Value->Shared->Prop}{i:Nat}{x:Str}{v:V}{u:Value}{Q:Unit->Shared->Prop}(I:Inv X pins σ H s)(hN:X.N.Nodup)(hi:X.N[i]? = some x)(hx:Loc X.env.scope x)(r:RelV v u)
 (h:∀s',Inv X pins (σ.set i (some v)) H s'->(∃a,Heap.SameBut a s.heap s'.heap/\(a=X.env.locals\/X.env.cells.lookup x=some a))->Q () s')(hf:X.fn x=true\/X.env.scope.names.lookup x=some .local:=by first | exact .inl rfl | exact .inr rfl | assumption):wpAny M A (storeName X.env x u) Q E s:=by
 obtain⟨m,hn,hl⟩:=id I.loc
 have hcls:(X.env.scope.kind == .class || (X.env.scope.kind == .module && X.env.locals != X.env.globals))=false:=by rw[I.ok.kind];rfl
 have hiσ:i<σ.length:=by rw[I.len];exact (List.getElem?_eq_some_iff.mp hi).1
 have cne:=I.cne
 have tracked:∀{a:Addr}{h':Heap},(∃o,s.heap.get? a=some o/\H a=none)->Heap.SameBut a s.heap h'->HOk X.prog X.w H h':=fun {a h'} ha hs b ob e=>by
  obtain⟨_,_,hfree⟩:=ha
  refine (I.hok b ob e).stay (fun c w' hc q=>(hs.2 c ?_).trans q) (fun _ q=>q) fun _ _ q=>q
  rintro rfl
  rcases hc with rfl | hc
  . rw[hfree] at e;cases e
  . rw[hfree] at hc;cases hc
 rcases hx with hk | hk
 . refine wpAny_storeName_local hk hn (fun h' hn' hs=>?_) hcls
   obtain⟨oL,_,_,hoL,_⟩:=id hn
   refine h _ ⟨I.ok,I.os,I.bare,⟨fun b o e n hb hx=>?_,fun b o e n hb hx=>?_,I.base.free,fun b o e hx=>?_,I.base.tups,I.base.frzs,I.base.tbls⟩,⟨_,hn',fun j y v' e1 e2 e3=>?_⟩,fun y c e=>?_,I.free,I.freeC,fun p hp=>?_,tracked ⟨oL,hoL,I.free⟩ hs,by simpa using I.len⟩ ⟨_,hs,.inl rfl⟩
   . exact (hs.2 b (Nat.ne_of_lt (Nat.lt_of_lt_of_le (Heap.lt_size e) I.ok.above))).trans (I.base.keep b o e n hb hx)
   . obtain⟨sl,e1⟩:=I.base.slot b o e n hb hx
     exact⟨sl,(hs.2 b (Nat.ne_of_lt (Nat.lt_of_lt_of_le (Heap.lt_size e) I.ok.above))).trans e1⟩
   . obtain⟨o',e1⟩:=I.base.there b o e hx
     exact⟨o',(hs.2 b (Nat.ne_of_lt (Nat.lt_of_lt_of_le (Heap.lt_size e) I.ok.above))).trans e1⟩
   . by_cases hj:j=i
     . subst hj
       rw[hi] at e1;cases e1
       rw[List.getElem?_set_self hiσ] at e2
       cases e2
       exact⟨u,r,.inl ⟨hk,by simp⟩⟩
     . rw[List.getElem?_set_ne (Ne.symm hj)] at e2
       obtain⟨u',r',q⟩:=hl j y v' e1 e2 e3
       refine⟨u',r',?_⟩
       rcases q with ⟨k,e⟩ | ⟨k,c,e,z⟩
       . refine .inl ⟨k,?_⟩
         have:y≠x:=fun e=>hj (nodup_ix hN e1 (e ▸ hi))
         simp[this,e]
       . exact .inr ⟨k,c,e,z.sameBut hs (cne y c e)⟩
   . obtain⟨w',z⟩:=I.cell y c e
     exact⟨w',z.sameBut hs (cne y c e)⟩
   . obtain⟨e,n,ne,nf,d⟩:=I.pin p hp
     exact⟨(hs.2 p.1 ne).trans e,n,ne,nf,d⟩
 . have hfn:X.fn x=true:=by
    rcases hf with z | z
    . exact z
    . rw[z] at hk;cases hk
   obtain⟨c,hc⟩:=I.ok.has x (.inl hk)
   obtain⟨w',z⟩:=I.cell x c hc
   refine wpAny_storeName_cell I.ok.kind hk hc z (fun h' hc' hs=>?_)
   obtain⟨oc,hoc,hocd⟩:=id z
   refine h { s with heap:=h' } ⟨I.ok,I.os,I.bare,⟨fun b o e n hb hx=>?_,fun b o e n hb hx=>?_,I.base.free,fun b o e hx=>?_,I.base.tups,I.base.frzs,I.base.tbls⟩,⟨m,hn.sameBut hs (Ne.symm (cne x c hc)),fun j y v' e1 e2 e3=>?_⟩,fun y c' e=>?_,I.free,I.freeC,fun p hp=>?_,tracked ⟨oc,hoc,I.freeC x c hc⟩ hs,by simpa using I.len⟩ ⟨c,hs,.inr hc⟩
   . exact (hs.2 b (Nat.ne_of_lt (Nat.lt_of_lt_of_le (Heap.lt_size e) (I.ok.cab x c hfn hc)))).trans (I.base.keep b o e n hb hx)
   . obtain⟨sl,e1⟩:=I.base.slot b o e n hb hx
     exact⟨sl,(hs.2 b (Nat.ne_of_lt (Nat.lt_of_lt_of_le (Heap.lt_size e) (I.ok.cab x c hfn hc)))).trans e1⟩
   . obtain⟨o',e1⟩:=I.base.there b o e hx
     exact⟨o',(hs.2 b (Nat.ne_of_lt (Nat.lt_of_lt_of_le (Heap.lt_size e) (I.ok.cab x c hfn hc)))).trans e1⟩
   . by_cases hj:j=i
     . subst hj
       rw[hi] at e1;cases e1
       rw[List.getElem?_set_self hiσ] at e2
       cases e2
       exact⟨u,r,.inr ⟨.inl hk,c,hc,hc'⟩⟩
     . rw[List.getElem?_set_ne (Ne.symm hj)] at e2
       obtain⟨u',r',q⟩:=hl j y v' e1 e2 e3
       refine⟨u',r',?_⟩
       rcases q with q | ⟨k,c',e,z'⟩
       . exact .inl q
       . refine .inr ⟨k,c',e,z'.sameBut hs ?_⟩
         rintro rfl
         exact hj (nodup_ix hN e1 (I.ok.inj _ _ _ e hc ▸ hi))
   . by_cases hcc:c'=c
     . subst hcc;exact⟨_,hc'⟩
     . obtain⟨w2,z2⟩:=I.cell y c' e
       exact⟨w2,z2.sameBut hs hcc⟩
   . obtain⟨e,n,ne,nf,d⟩:=I.pin p hp
     refine⟨(hs.2 p.1 ?_).trans e,n,ne,nf,d⟩
     intro q
     rw[q,hoc] at e
     have q':oc=p.2:=Option.some.inj e
     exact d w' (by rw[<-q'];exact hocd)
theorem store_ok {M:Model}{A:Around}{E:Value->Shared->Prop}{i:Nat}{x:Str}{v:V}{u:Value}{Q:Unit->Shared->Prop}(I:Inv X pins σ H s)(hN:X.N.Nodup)(hi:X.N[i]? = some x)(hx:Loc X.env.scope x)(r:RelV v u)
 (h:∀s',Inv X pins (σ.set i (some v)) H s'->Q () s')(hf:X.fn x=true\/X.env.scope.names.lookup x=some .local:=by first | exact .inl rfl | exact .inr rfl | assumption):wpAny M A (storeName X.env x u) Q E s:=
 store_ok2 I hN hi hx r (fun s' I' _=>h s' I') hf
theorem Inv.call' {s':Shared}{ch:List Addr}(I:Inv X pins σ H s)(ho:s'.os=s.os)(u:Un (frs X.stack) ch H H' s.heap s'.heap)(hok:HOk X.prog X.w H' s'.heap)(hg:AllBare s'.gens)
 (hch:∀b∈ch,(b∈X.ex\/X.s₀.heap.objs.size<=b)/\b≠X.env.locals/\(∀x c,X.env.cells.lookup x=some c->c≠b)/\∀p∈X.pn++pins,p.1≠b):Inv X pins σ H' s':=by
 obtain⟨h',g',d',t',o'⟩:=s'
 have e:o'=s.os:=ho
 subst e
 exact I.call (g':=g') (t':=t') (d':=d') u hok hg hch
end
noncomputable abbrev XK:=Value->Option Addr->Hp->Prop
noncomputable abbrev St:=List (Option V)
noncomputable abbrev VK:=V->Hp->Prop
noncomputable abbrev TE:=St->Hp->VK->Prop
noncomputable abbrev TT:=St->Hp->(Bool->Hp->Prop)->Prop
noncomputable abbrev TA:=St->Hp->(List V->Hp->Prop)->Prop
structure Ends where
 nx:St->Hp->Prop
 rt:VK
 bk:St->Hp->Prop:=fun _ _=>False
 ct:St->Hp->Prop:=fun _ _=>False
noncomputable abbrev TS:=Ends->St->Hp->Prop
noncomputable def EP (X:Cx)(pins:List (Addr×Obj))(σ:St)(Q:VK)(u:Value)(s':Shared):Prop:=∃v H',Inv X pins σ H' s'/\RelV v u/\Q v H'
noncomputable def TP (X:Cx)(pins:List (Addr×Obj))(σ:St)(Q:Bool->Hp->Prop)(b:Bool)(s':Shared):Prop:=∃H',Inv X pins σ H' s'/\Q b H'
noncomputable def AP (X:Cx)(pins:List (Addr×Obj))(σ:St)(Q:List V->Hp->Prop)(us:List Value)(s':Shared):Prop:=∃vs H',Inv X pins σ H' s'/\Vals vs us/\Q vs H'
noncomputable def SP (X:Cx)(pins:List (Addr×Obj))(D:Ends)(f:Flow)(s':Shared):Prop:=
 match f with
 | .next=>∃ σ' H',Inv X pins σ' H' s'/\D.nx σ' H'
 | .brk=>∃ σ' H',Inv X pins σ' H' s'/\D.bk σ' H'
 | .cont=>∃ σ' H',Inv X pins σ' H' s'/\D.ct σ' H'
 | .ret u=>∃v σ' H',Inv X pins σ' H' s'/\RelV v u/\D.rt v H'
noncomputable def PE (X:Cx)(e:Expr)(t:TE):Prop:=
 ∀(pins:List (Addr×Obj))(s:Shared)(σ:St)(H:Hp)(Q:VK),Inv X pins σ H s->t σ H Q->wpAny (model X.prog X.w) X.A (eval e X.env) (EP X pins σ Q) X.xe s
noncomputable def PT (X:Cx)(e:Expr)(t:TT):Prop:=
 ∀(pins:List (Addr×Obj))(s:Shared)(σ:St)(H:Hp)(Q:Bool->Hp->Prop),Inv X pins σ H s->t σ H Q->wpAny (model X.prog X.w) X.A (isTrue e X.env (eval e X.env)) (TP X pins σ Q) X.xe s
noncomputable def PW (X:Cx)(e:Expr)(t:TT):Prop:=
 ∀(whole:Sem Value)(pins:List (Addr×Obj))(s:Shared)(σ:St)(H:Hp)(Q:Bool->Hp->Prop),Inv X pins σ H s->t σ H Q->wpAny (model X.prog X.w) X.A (isTrue e X.env whole) (TP X pins σ Q) X.xe s
theorem PW.pt {X:Cx}{e:Expr}{t:TT}(h:PW X e t):PT X e t:=h _
noncomputable def PA (X:Cx)(es:List Expr)(t:TA):Prop:=
 ∀(pos:Pos)(pins:List (Addr×Obj))(s:Shared)(σ:St)(H:Hp)(Q:List V->Hp->Prop),Inv X pins σ H s->t σ H Q->wpAny (model X.prog X.w) X.A (spliced (backTo pos (starEach es X.env))) (AP X pins σ Q) X.xe s
noncomputable def PS (X:Cx)(st:Stmt)(t:TS):Prop:=
 ∀(pins:List (Addr×Obj))(s:Shared)(σ:St)(H:Hp)(D:Ends),Inv X pins σ H s->t D σ H->wpAny (model X.prog X.w) X.A (exec st X.env) (SP X pins D) X.xe s
noncomputable def PSs (X:Cx)(st:List Stmt)(t:TS):Prop:=
 ∀(pins:List (Addr×Obj))(s:Shared)(σ:St)(H:Hp)(D:Ends),Inv X pins σ H s->t D σ H->wpAny (model X.prog X.w) X.A (execs st X.env) (SP X pins D) X.xe s
theorem thn {α:Type}{t:Sem α}{Q Q':α->Shared->Prop}{M:Model}{A:Around}{E:Value->Shared->Prop}{s:Shared}(h:wpAny M A t Q E s)(hQ:∀a s,Q a s->Q' a s):wpAny M A t Q' E s:=wpAny_mono h hQ fun _ _ x=>x
end L2
namespace L2
open PySem PySem.Spec PyProof.Rows
section
variable {X:Cx}
noncomputable def tVar (i:Nat):TE:=fun σ H Q=>∃v,σ[i]? = some (some v)/\Q v H
noncomputable def tC (v:V):TE:=fun _ H Q=>Q v H
theorem pe_var {i:Nat}{x:Str}{pos:Pos}(hN:X.N[i]? = some x)(hv:Vis X.env.scope x)(hd:(x==("__debug__" : Str))=false:=by decide) (hcd:(x==("__classdict__" : Str))=false:=by decide):PE X (.Name x pos) (tVar i):=by
 intro pins s σ H Q I h
 obtain⟨v,e,h⟩:=h
 obtain⟨m,hn,hl⟩:=I.loc
 obtain⟨u,r,l⟩:=hl i x v hN e hv
 have fin:EP X pins σ Q u s:=⟨v,H,I,r,h⟩
 rcases l with ⟨hk,hm⟩ | ⟨hk,c,hc,hcell⟩
 . exact wpAny_Name (wpAny_loadName_local I.ok.kind hk hn hm fin) hd
 . rcases hk with hk | hk
   . exact wpAny_Name (wpAny_loadName_cell I.ok.kind hk hc hcell fin) hd
   . exact wpAny_Name (wpAny_loadName_free I.ok.kind hk hc hcell fin hcd) hd
theorem pe_int {i j pos}:PE X (.Constant (.int i) j pos) (tC (.int i)):=fun _ _ _ H _ I h=>wpAny_Constant_int ⟨.int i,H,I.tok _,⟨_,rfl⟩,h⟩
theorem pe_bl {b j pos}:PE X (.Constant (.bool b) j pos) (tC (.bl b)):=fun _ _ _ H _ I h=>Constant_bool ⟨.bl b,H,I,rfl,h⟩
theorem pe_non {j pos}:PE X (.Constant .none j pos) (tC .non):=fun _ _ _ H _ I h=>Constant_none ⟨.non,H,I,rfl,h⟩
theorem pe_str {x j pos}:PE X (.Constant (.str x) j pos) (tC (.str x)):=fun _ _ _ H _ I h=>Calls.Constant_str ⟨.str x,H,I.tok _,⟨_,rfl⟩,h⟩
noncomputable def Gl (X:Cx)(x:Str):Prop:=X.env.kindOf x=some .globalImplicit
theorem ld_glob {E:Value->Shared->Prop}{pins:List (Addr×Obj)}{s:Shared}{σ:St}{H:Hp}{x:Str}{u:Value}{pos:Pos}{Q:Value->Shared->Prop}(I:Inv X pins σ H s)(hg:Gl X x)(hm:X.mg x=some u)(h:Q u s)
 (hd:(x==("__debug__" : Str))=false:=by decide):wpAny (model X.prog X.w) X.A (eval (.Name x pos) X.env) Q E s:=
 Calls.Name_function_global I.ok.kind hg (Calls.loadGlobal_global (by rw[I.ok.glob];exact I.mod.glob.keeps I.bk) hm h) hd
theorem ld_blt {E:Value->Shared->Prop}{pins:List (Addr×Obj)}{s:Shared}{σ:St}{H:Hp}{x:Str}{u:Value}{pos:Pos}{Q:Value->Shared->Prop}(I:Inv X pins σ H s)(hg:Gl X x)(hm:X.mg x=none)(hv:bootBuiltins x=some u)(h:Q u s)
 (hn:x ≠ "__name__" := by decide) (hd:(x==("__debug__" : Str))=false:=by decide):wpAny (model X.prog X.w) X.A (eval (.Name x pos) X.env) Q E s:=by
 obtain⟨mb,h1,h2⟩:=I.mod.blt
 exact Calls.Name_function_global I.ok.kind hg (Calls.loadGlobal_builtin (by rw[I.ok.glob];exact I.mod.glob.keeps I.bk) hm (by rw[I.ok.blt];exact h1.keeps I.bk) ((h2 x hn).trans hv) h) hd
theorem pe_glob {x:Str}{v:V}{u:Value}{pos:Pos}(hg:Gl X x)(hm:X.mg x=some u)(r:RelV v u)(hd:(x==("__debug__" : Str))=false:=by decide):PE X (.Name x pos) (tC v):=
 fun _ _ _ H _ I h=>ld_glob I hg hm ⟨v,H,I,r,h⟩ hd
variable {a b:Expr}{ta tb:TE}{pos:Pos}
noncomputable def tB (t:TE):TT:=fun σ H Q=>t σ H fun x H1=>∃c,x = .bl c/\Q c H1
theorem pt_val {e:Expr}{t:TE}(h:PE X e t)(he:∀whole,isTrue e X.env whole=(do let v <-whole;standAt e.pos;holding [v] (truthy v)):=by intro _;rfl):PT X e (tB t):=by
 intro pins s σ H Q I hw
 refine isTrue_plain (thn (h pins s σ H _ I hw) fun v s1 ⟨x,H1,I1,r1,q1⟩=>?_) (he _)
 obtain⟨d,rfl,q⟩:=q1
 cases r1
 exact wpAny_truthy_bool ⟨H1,I1,q⟩
variable {tA tB':TT}{rest:List Expr}
noncomputable def tAnd (t u:TT):TT:=fun σ H Q=>t σ H fun c H1=>if c=true then u σ H1 Q else Q false H1
noncomputable def tOr (t u:TT):TT:=fun σ H Q=>t σ H fun c H1=>if c=true then Q true H1 else u σ H1 Q
noncomputable def tNot (t:TT):TT:=fun σ H Q=>t σ H fun c H1=>Q (!c) H1
theorem pw_and1 (ha:PT X a tA):PW X (.BoolOp .And [a] pos) tA:=by
 intro wh pins s σ H Q I h
 refine isTrue_and (thn (ha pins s σ H Q I h) fun c s1 e=>?_)
 cases c with
 | true=>exact isTrue_and_nil e
 | false=>exact e
theorem pw_or1 (ha:PT X a tA):PW X (.BoolOp .Or [a] pos) tA:=by
 intro wh pins s σ H Q I h
 refine isTrue_or (thn (ha pins s σ H Q I h) fun c s1 e=>?_)
 cases c with
 | false=>exact isTrue_or_nil e
 | true=>exact e
theorem pw_and (ha:PT X a tA)(hb:PW X (.BoolOp .And (b::rest) pos) tB'):PW X (.BoolOp .And (a::b::rest) pos) (tAnd tA tB'):=by
 intro wh pins s σ H Q I h
 refine isTrue_and (thn (ha pins s σ H _ I h) fun c s1 ⟨H1,I1,q1⟩=>?_)
 cases c with
 | true=>exact hb wh pins s1 σ H1 Q I1 q1
 | false=>exact⟨H1,I1,q1⟩
theorem pw_or (ha:PT X a tA)(hb:PW X (.BoolOp .Or (b::rest) pos) tB'):PW X (.BoolOp .Or (a::b::rest) pos) (tOr tA tB'):=by
 intro wh pins s σ H Q I h
 refine isTrue_or (thn (ha pins s σ H _ I h) fun c s1 ⟨H1,I1,q1⟩=>?_)
 cases c with
 | true=>exact⟨H1,I1,q1⟩
 | false=>exact hb wh pins s1 σ H1 Q I1 q1
theorem pt_not (ha:PT X a tA):PT X (.UnaryOp .Not a pos) (tNot tA):=by
 intro pins s σ H Q I h
 exact isTrue_not (ha pins s σ H (fun c H1=>Q (!c) H1) I h)
noncomputable def tAndV (ta tb:TE):TE:=fun σ H Q=>ta σ H fun x H1=>∃c,x = .bl c/\if c=true then tb σ H1 Q else Q (.bl false) H1
noncomputable def tNotV (ta:TE):TE:=fun σ H Q=>ta σ H fun x H1=>∃c,x = .bl c/\Q (.bl (!c)) H1
theorem pe_one {op} {t:TE}(h:PE X a t):PE X (.BoolOp op [a] pos) t:=fun pins s σ H Q I hw=>BoolOp_one (h pins s σ H Q I hw)
theorem pe_and (ha:PE X a ta)(hb:PE X (.BoolOp .And (b::rest) pos) tb):PE X (.BoolOp .And (a::b::rest) pos) (tAndV ta tb):=by
 intro pins s σ H Q I h
 refine BoolOp_and (thn (ha pins s σ H _ I h) fun v s1 ⟨x,H1,I1,r1,q1⟩=>?_)
 obtain⟨c,rfl,q1⟩:=q1
 cases r1
 refine wpAny_truthy_bool ?_
 cases c with
 | true=>exact hb pins s1 σ H1 Q I1 q1
 | false=>exact⟨.bl false,H1,I1,rfl,q1⟩
theorem pe_not (ha:PE X a ta):PE X (.UnaryOp .Not a pos) (tNotV ta):=by
 intro pins s σ H Q I h
 refine UnaryOp_ (thn (ha pins s σ H _ I h) fun v s1 ⟨x,H1,I1,r1,q1⟩=>?_)
 obtain⟨c,rfl,q1⟩:=q1
 cases r1
 exact not_of (wpAny_truthy_bool ⟨.bl (!c),H1,I1,rfl,q1⟩)
noncomputable def tIf (t:TT)(ta tb:TE):TE:=fun σ H Q=>t σ H fun c H1=>if c=true then ta σ H1 Q else tb σ H1 Q
theorem pe_ifExp {c:Expr}(hc:PT X c tA)(ha:PE X a ta)(hb:PE X b tb):PE X (.IfExp c a b pos) (tIf tA ta tb):=by
 intro pins s σ H Q I h
 refine wpAny_IfExp (thn (hc pins s σ H _ I h) fun d s1 ⟨H1,I1,q1⟩=>?_)
 cases d with
 | true=>exact ha pins s1 σ H1 Q I1 q1
 | false=>exact hb pins s1 σ H1 Q I1 q1
end
end L2
namespace L2
open PySem PySem.Spec PyProof.Rows
noncomputable def SqL (K:PySem.W.Frag)(H:Hp)(a:Addr)(xs:List V):Prop:=
 Rd H a (.lst xs) \/
  ∃(o:Obj)(its:Array Value)(n:Nat),K.lookup a=some o/\o.cls = .type "list" /\ o.dict=none/\o.data = .seq its n/\its.size<=sizeLine/\Vals xs its.toList
noncomputable def SqT (K:PySem.W.Frag)(H:Hp)(a:Addr)(xs:List V):Prop:=
 Rd H a (.tup xs) \/
  ∃(o:Obj)(its:Array Value)(n:Nat),K.lookup a=some o/\o.cls = .type "tuple" /\ o.data = .seq its n/\its.size<=sizeLine/\Vals xs its.toList
noncomputable def absV:Value->Option V
 | .none=>some .non
 | .bool b=>some (.bl b)
 | .int i _=>some (.int i)
 | .str x _=>some (.str x)
 | .bytes b _=>some (.byt b)
 | .float b _=>some (.flt b)
 | .ref a=>some (.ref a)
 | .type n=>some (.ty n)
 | _=>none
theorem RelV.abs {x:V}{u:Value}(r:RelV x u):absV u=some x:=by
 cases x with
 | non=>cases r;rfl
 | bl _=>cases r;rfl
 | int _=>obtain⟨t,rfl⟩:=r;rfl
 | str _=>obtain⟨t,rfl⟩:=r;rfl
 | byt _=>obtain⟨t,rfl⟩:=r;rfl
 | flt _=>obtain⟨t,rfl⟩:=r;rfl
 | ref _=>cases r;rfl
 | ty _=>cases r;rfl
theorem RelV.inj {x y:V}{u:Value}(r:RelV x u)(q:RelV y u):x=y:=Option.some.inj (r.abs.symm.trans q.abs)
theorem Vals.inj:∀{xs ys:List V}{us:List Value},Vals xs us->Vals ys us->xs=ys
 | _,_,_,.nil,.nil=>rfl
 | _,_,_,.cons r t,.cons r' t'=>by rw[r.inj r',Vals.inj t t']
section
variable {X:Cx}{pins:List (Addr×Obj)}{σ:St}{H:Hp}{s:Shared}{a:Addr}{xs ys:List V}
theorem SqL.of {K:PySem.W.Frag}(h:H a=some (.lst xs)):SqL K H a xs:=.inl (.inl h)
theorem SqT.of {K:PySem.W.Frag}(h:H a=some (.tup xs)):SqT K H a xs:=.inl (.inl h)
theorem Inv.list (I:Inv X pins σ H s)(h:SqL X.K H a xs):∃its:List Value,Vals xs its/\PlainL s.heap a its.toArray/\xs.length<=sizeLine:=by
 rcases h with h | ⟨o,its,n,hk,hc,hd,hs,hz,r⟩
 . obtain⟨z,its,n,r,e⟩:=h.ok I.hok
   exact⟨its,r,⟨_,n,e,rfl,rfl,rfl⟩,z⟩
 . refine⟨its.toList,r,⟨o,n,I.kIn a o hk,hc,hd,by simpa using hs⟩,?_⟩
   have e:=r.length
   simp only[Array.length_toList] at e
   omega
theorem Inv.tuple (I:Inv X pins σ H s)(h:SqT X.K H a xs):∃its:List Value,Vals xs its/\IsTup s.heap a its.toArray/\xs.length<=sizeLine:=by
 rcases h with h | ⟨o,its,n,hk,hc,hs,hz,r⟩
 . obtain⟨⟨z,_⟩,its,r,p⟩:=h.ok I.hok
   exact⟨its,r,p,z⟩
 . refine⟨its.toList,r,⟨o,I.kIn a o hk,hc,n,by simpa using hs⟩,?_⟩
   have e:=r.length
   simp only[Array.length_toList] at e
   omega
theorem Inv.list_inj (I:Inv X pins σ H s)(h:SqL X.K H a xs)(h':SqL X.K H a ys):xs=ys:=by
 obtain⟨its,r,⟨o,n,e,_,_,d⟩,_⟩:=I.list h
 obtain⟨its',r',⟨o',n',e',_,_,d'⟩,_⟩:=I.list h'
 rw[e] at e';cases e'
 rw[d] at d'
 injection d' with d1 _
 have:its=its':=by simpa using congrArg Array.toList d1
 subst this
 exact r.inj r'
theorem Inv.tuple_inj (I:Inv X pins σ H s)(h:SqT X.K H a xs)(h':SqT X.K H a ys):xs=ys:=by
 obtain⟨its,r,⟨o,e,_,n,d⟩,_⟩:=I.tuple h
 obtain⟨its',r',⟨o',e',_,n',d'⟩,_⟩:=I.tuple h'
 rw[e] at e';cases e'
 rw[d] at d'
 injection d' with d1 _
 have:its=its':=by simpa using congrArg Array.toList d1
 subst this
 exact r.inj r'
end
noncomputable abbrev Cx.wish (X:Cx)(E:Value->Shared->Prop):Cx:={ X with xe:=E }
noncomputable abbrev Cx.nox (X:Cx):Cx:=X.wish fun _ _=>False
theorem Cx.Ok.wish {X:Cx}(ok:X.Ok)(E:Value->Shared->Prop):(X.wish E).Ok:=
 ⟨ok.mod,ok.kind,ok.glob,ok.blt,ok.above,ok.inj,ok.has,ok.cab,ok.hd,ok.frames,ok.stk,ok.exf,ok.bs,ok.bsz,ok.noex,ok.exfs,ok.funs,ok.frf⟩
theorem Cx.Ok.unwish {X:Cx}{E:Value->Shared->Prop}(ok:(X.wish E).Ok):X.Ok:=
 ⟨ok.mod,ok.kind,ok.glob,ok.blt,ok.above,ok.inj,ok.has,ok.cab,ok.hd,ok.frames,ok.stk,ok.exf,ok.bs,ok.bsz,ok.noex,ok.exfs,ok.funs,ok.frf⟩
section
variable {X:Cx}{pins:List (Addr×Obj)}{σ:St}{H:Hp}{s:Shared}{E:Value->Shared->Prop}
theorem Inv.wish (I:Inv X pins σ H s)(E:Value->Shared->Prop):Inv (X.wish E) pins σ H s:=⟨I.ok.wish E,I.os,I.bare,I.base,I.loc,I.cell,I.free,I.freeC,I.pin,I.hok,I.len⟩
theorem Inv.unwish (I:Inv (X.wish E) pins σ H s):Inv X pins σ H s:=⟨I.ok.unwish,I.os,I.bare,I.base,I.loc,I.cell,I.free,I.freeC,I.pin,I.hok,I.len⟩
theorem SP.unwish {D:Ends}{f:Flow}{s':Shared}(h:SP (X.wish E) pins D f s'):SP X pins D f s':=by
 cases f with
 | next=>obtain⟨σ',H',I,q⟩:=h;exact⟨σ',H',I.unwish,q⟩
 | brk=>obtain⟨σ',H',I,q⟩:=h;exact⟨σ',H',I.unwish,q⟩
 | cont=>obtain⟨σ',H',I,q⟩:=h;exact⟨σ',H',I.unwish,q⟩
 | ret u=>obtain⟨v,σ',H',I,r,q⟩:=h;exact⟨v,σ',H',I.unwish,r,q⟩
theorem PSs.nox {st:List Stmt}{t:TS}(h:PSs X.nox st t):PSs X st t:=fun pins s σ H D I hw=>
 wpAny_mono (h pins s σ H D (I.wish _) hw) (fun _ _ q=>q.unwish) fun _ _ z=>False.elim z
end
section
variable {X:Cx}{st:Stmt}{rest:List Stmt}{t u:TS}{e:Expr}{te:TE}{pos:Pos}
noncomputable def tNext:TS:=fun D σ H=>D.nx σ H
noncomputable def tSeq (t u:TS):TS:=fun D σ H=>t { D with nx:=u D } σ H
theorem pss_nil:PSs X [] tNext:=fun _ _ σ H _ I h=>wpAny_execs_nil ⟨σ,H,I,h⟩
theorem pss_cons (h1:PS X st t)(h2:PSs X rest u):PSs X (st::rest) (tSeq t u):=by
 intro pins s σ H D I h
 refine wpAny_execs_cons (thn (h1 pins s σ H { D with nx:=u D } I h) fun f s1 q=>?_)
 cases f with
 | next=>
  obtain⟨σ',H',I',q⟩:=q
  exact h2 pins s1 σ' H' D I' q
 | ret v=>exact q
 | brk=>exact q
 | cont=>exact q
theorem pss_one (h1:PS X st t):PSs X [st] t:=by
 intro pins s σ H D I h
 refine wpAny_execs_cons (thn (h1 pins s σ H D I h) fun f s1 q=>?_)
 cases f with
 | next=>exact wpAny_execs_nil q
 | ret v=>exact q
 | brk=>exact q
 | cont=>exact q
theorem Inv.quiet {pins:List (Addr×Obj)}{σ:St}{H:Hp}{s:Shared}(I:Inv X pins σ H s):interactive X.env=false:=by simp[interactive,I.ok.kind]
noncomputable def tDrop (te:TE):TS:=fun D σ H=>te σ H fun _ H1=>D.nx σ H1
theorem ps_expr (he:PE X e te)(hs:swapsWith e none pos.line X.env=pure false:=by rfl):PS X (.Expr e pos) (tDrop te):=by
 intro pins s σ H D I h
 exact wpAny_Expr_any (thn (he pins s σ H _ I h) fun v s1 ⟨x,H1,I1,r1,q1⟩=>⟨σ,H1,I1,q1⟩) I.quiet hs
noncomputable def tRet (te:TE):TS:=fun D σ H=>te σ H D.rt
theorem ps_ret (he:PE X e te):PS X (.Return (some e) pos) (tRet te):=by
 intro pins s σ H D I h
 exact wpAny_Return_some (thn (he pins s σ H _ I h) fun v s1 ⟨x,H1,I1,r1,q1⟩=>⟨x,σ,H1,I1,r1,q1⟩)
noncomputable def tIfS (c:TT)(t u:TS):TS:=fun D σ H=>c σ H fun b H1=>if b=true then t D σ H1 else u D σ H1
theorem ps_if {c:Expr}{a b:List Stmt}{tc:TT}(hc:PT X c tc)(ha:PSs X a t)(hb:PSs X b u):PS X (.If c a b pos) (tIfS tc t u):=by
 intro pins s σ H D I h
 refine wpAny_If (thn (hc pins s σ H _ I h) fun d s1 ⟨H1,I1,q1⟩=>?_)
 cases d with
 | true=>exact ha pins s1 σ H1 D I1 q1
 | false=>exact hb pins s1 σ H1 D I1 q1
end
noncomputable abbrev TG:=V->St->Hp->(St->Hp->Prop)->Prop
noncomputable abbrev TGs:=List V->St->Hp->(St->Hp->Prop)->Prop
noncomputable def PG (X:Cx)(target:Expr)(t:TG):Prop:=
 ∀(pins:List (Addr×Obj))(s:Shared)(σ:St)(H:Hp)(v:V)(u:Value)(Q:St->Hp->Prop),Inv X pins σ H s->RelV v u->t v σ H Q ->
  wpAny (model X.prog X.w) X.A (assign target X.env u) (fun _ s'=>∃ σ' H',Inv X pins σ' H' s'/\Q σ' H') X.xe s
noncomputable def PGs (X:Cx)(ts:List Expr)(t:TGs):Prop:=
 ∀(pins:List (Addr×Obj))(s:Shared)(σ:St)(H:Hp)(vs:List V)(us:List Value)(Q:St->Hp->Prop),Inv X pins σ H s->Vals vs us->t vs σ H Q ->
  wpAny (model X.prog X.w) X.A (assignInOrder ((assignEach ts X.env).map (·.2)) us) (fun _ s'=>∃ σ' H',Inv X pins σ' H' s'/\Q σ' H') X.xe s
noncomputable abbrev TSet:=V->V->V->Hp->(Hp->Prop)->Prop
noncomputable def PSet (X:Cx)(t:TSet):Prop:=
 ∀(pins:List (Addr×Obj))(s:Shared)(σ:St)(H:Hp)(o i v:V)(ov iv u:Value)(Q:Hp->Prop),Inv X pins σ H s->RelV o ov->RelV i iv->RelV v u->t o i v H Q ->
  wpAny (model X.prog X.w) X.A (setItem ov iv u) (fun _ s'=>∃H',Inv X pins σ H' s'/\Q H') X.xe s
section
variable {X:Cx}{pos:Pos}
noncomputable def gName (i:Nat):TG:=fun v σ H Q=>Q (σ.set i (some v)) H
theorem pg_name {i:Nat}{x:Str}(hN:X.N.Nodup)(hi:X.N[i]? = some x)(hx:Loc X.env.scope x)(hf:X.fn x=true\/X.env.scope.names.lookup x=some .local:=by first | exact .inl rfl | exact .inr rfl | assumption):PG X (.Name x pos) (gName i):=by
 intro pins s σ H v u Q I r h
 exact wpAny_assign_Name (store_ok I hN hi hx r (fun s' I'=>⟨_,H,I',h⟩) hf)
noncomputable def gNil:TGs:=fun vs σ H Q=>vs=[]/\Q σ H
noncomputable def gCons (t:TG)(u:TGs):TGs:=fun vs σ H Q=>∃v r,vs=v::r/\t v σ H fun σ' H'=>u r σ' H' Q
theorem pgs_nil:PGs X [] gNil:=by
 intro pins s σ H vs us Q I r h
 obtain⟨e,h⟩:=h
 subst e
 cases r
 exact assignInOrder_nil ⟨σ,H,I,h⟩
theorem pgs_cons {e:Expr}{es:List Expr}{t:TG}{u:TGs}(h1:PG X e t)(h2:PGs X es u)
 (hs:(assignEach (e::es) X.env).map (·.2)=assign e X.env::(assignEach es X.env).map (·.2):=by rfl):PGs X (e::es) (gCons t u):=by
 intro pins s σ H vs us Q I r h
 obtain⟨v,vr,e1,h⟩:=h
 subst e1
 cases r with
 | cons r rr=>
  rw[hs]
  refine assignInOrder_cons (thn (h1 pins s σ H _ _ _ I r h) fun _ s1 ⟨σ1,H1,I1,q1⟩=>?_)
  exact h2 pins s1 σ1 H1 _ _ Q I1 rr q1
noncomputable def gTup (K:PySem.W.Frag)(n:Nat)(t:TGs):TG:=fun v σ H Q=>∃a xs,v = .ref a/\SqT K H a xs/\xs.length=n/\t xs σ H Q
theorem pg_tup {es:List Expr}{k:Nat}{t:TGs}{n:Nat}(hc:X.calm=true)(h:PGs X es t)
 (hn:(assignEach es X.env).length=n:=by rfl)(hst:(assignEach es X.env).findIdx? (·.1)=none:=by rfl):PG X (.Tuple es k pos) (gTup X.K n t):=by
 intro pins s σ H v u Q I r hw
 obtain⟨a,xs,e1,hq,hl,hw⟩:=hw
 subst e1
 cases r
 obtain⟨its,rv,ht,hz⟩:=I.tuple hq
 refine assign_Tuple_tuple (I.ok.hd hc) ht (by simp[hn,<-hl,rv.length]) hst fun h' hx=>?_
 have I1:Inv X pins σ H { s with heap:=h' }:=I.kept (t':=s.toks) fun b o e=>hx b o (Nat.ne_of_lt (Heap.lt_size e)) e
 exact h pins _ σ H xs _ Q I1 (by simpa using rv) hw
noncomputable def gSub (to ti:TE)(t:TSet):TG:=fun v σ H Q=>to σ H fun o H1=>ti σ H1 fun i H2=>t o i v H2 fun H3=>Q σ H3
theorem pg_sub {o i:Expr}{to ti:TE}{t:TSet}(ho:PE X o to)(hi:PE X i ti)(hs:PSet X t)
 (ha:∀v,assign (.Subscript o i pos) X.env v=(do
  let ov <-holding [v] (eval o X.env)
  let iv <-holding [v,ov] (eval i X.env)
  standAt pos
  holding [v,ov,iv] (setItem ov iv v)
  release [v,ov,iv] []):=by intro _;rfl):PG X (.Subscript o i pos) (gSub to ti t):=by
 intro pins s σ H v u Q I r h
 rw[ha]
 refine wpAny_bind (wpAny_holding (thn (ho pins s σ H _ I h) fun ov s1 ⟨x,H1,I1,r1,q1⟩=>?_))
 refine wpAny_bind (wpAny_holding (thn (hi pins s1 σ H1 _ I1 q1) fun iv s2 ⟨y,H2,I2,r2,q2⟩=>?_))
 refine wpAny_bind (wpAny_standAt (wpAny_bind (wpAny_holding (thn (hs pins s2 σ H2 x y v ov iv u _ I2 r1 r2 r q2) fun _ s3 ⟨H3,I3,q3⟩=>?_))))
 exact wpAny_release ⟨σ,H3,I3,q3⟩
noncomputable def tAsg (te:TE)(g:TG):TS:=fun D σ H=>te σ H fun x H1=>g x σ H1 D.nx
theorem ps_asg {tg e:Expr}{te:TE}{g:TG}(he:PE X e te)(hg:PG X tg g)(hs:swapsWithSole [tg] e pos.line X.env=pure false:=by rfl)(hw:swappedStores [tg] e X.env=pure none:=by rfl)
 (h1:(assignEach [tg] X.env).map (·.2)=[assign tg X.env]:=by rfl):PS X (.Assign [tg] e pos) (tAsg te g):=by
 intro pins s σ H D I h
 refine wpAny_Assign_stores (thn (he pins s σ H _ I h) fun v s1 ⟨x,H1,I1,r1,q1⟩=>?_) hs hw
 rw[h1]
 exact thn (hg pins s1 σ H1 x v _ I1 r1 q1) fun _ s2 q=>q
theorem ps_set {i:Nat}{x:Str}{e:Expr}{te:TE}{pos':Pos}(hN:X.N.Nodup)(hi:X.N[i]? = some x)(hx:Loc X.env.scope x)(he:PE X e te)(hs:swapsWith e (some (.Name x pos')) pos.line X.env=pure false:=by rfl)(hf:X.fn x=true\/X.env.scope.names.lookup x=some .local:=by first | exact .inl rfl | exact .inr rfl | assumption) :
 PS X (.Assign [.Name x pos'] e pos) (tAsg te (gName i)):=by
 intro pins s σ H D I h
 refine wpAny_Assign_Name (thn (he pins s σ H _ I h) fun v s1 ⟨y,H1,I1,r1,q1⟩=>?_) hs
 exact store_ok I1 hN hi hx r1 (fun s2 I2=>⟨_,H1,I2,q1⟩) hf
end
section
variable {X:Cx}{pos:Pos}
end
structure It where
 go:Nat->Hp->Prop
 yld:Nat->Hp->V->Hp->Prop
 stop:Nat->Hp->Prop
noncomputable def FpOk (X:Cx)(pins:List (Addr×Obj))(H:Hp)(b:Addr):Prop:=
 H b=none/\b≠X.env.locals/\b∉X.fs/\(b∈X.ex\/X.s₀.heap.objs.size<=b)/\(∀x c,X.env.cells.lookup x=some c->c≠b)/\∀p∈X.pn++pins,p.1≠b
theorem Inv.fpOk {X:Cx}{pins:List (Addr×Obj)}{σ:St}{H H':Hp}{s:Shared}{b:Addr}(I:Inv X pins σ H s)(hb:s.heap.objs.size<=b)(hn:H' b=none):FpOk X pins H' b:=by
 refine⟨hn,Nat.ne_of_gt (Nat.lt_of_lt_of_le I.lt hb),I.nofs hb,.inr (Nat.le_trans I.sz hb),fun x c e z=>?_,fun p hp z=>?_⟩
 . obtain⟨v,q⟩:=I.cell x c e
   exact absurd (Nat.lt_of_lt_of_le q.lt (by rw[z];exact hb)) (Nat.lt_irrefl _)
 . exact absurd (Nat.lt_of_lt_of_le (Heap.lt_size (I.pin p hp).1) (by rw[z];exact hb)) (Nat.lt_irrefl _)
structure Turn (P:Program)(w:World)(K:PySem.W.Frag)(tg:Expr)(J:It)(fp:List Addr)(it:Addr)(tn:Nat->Heap->Prop):Prop where
 mem:it∈fp
 obj:∀i h,tn i h->∀b∈fp,∃o,h.get? b=some o/\∀v,o.data ≠ .cell v
 keep:∀i h h',tn i h->(∀b∈fp,∀o,h.get? b=some o->h'.get? b=some o)->tn i h'
 item:∀(X:Cx),X.prog=P->X.w=w->X.K=K->X.calm=true->∀(i:Nat)(pins:List (Addr×Obj))(s:Shared)(σ:St)(H:Hp)(E:Value->Shared->Prop),Inv X pins σ H s->(∀b∈fp,FpOk X pins H b)->tn i s.heap->J.go i H ->
  wpAny (model P w) X.A (pyNext (.ref it)) (fun r s1=>∃u,r=some u /\
   wpAny (model P w) X.A (letOwnedTupleGo tg (.ref it) u) (fun _ s2=>∃x H',Inv X pins σ H' s2/\RelV x u/\J.yld i H x H'/\tn (i+1) s2.heap/\∀b∈fp,H' b=none) E s1) E s
 done:∀(X:Cx),X.prog=P->X.w=w->X.K=K->X.calm=true->∀(i:Nat)(pins:List (Addr×Obj))(s:Shared)(σ:St)(H:Hp)(E:Value->Shared->Prop),Inv X pins σ H s->(∀b∈fp,FpOk X pins H b)->tn i s.heap->J.stop i H ->
  wpAny (model P w) X.A (pyNext (.ref it)) (fun r s1=>r=none/\Inv X pins σ H s1) E s
 self:∀(A:Around)(i:Nat)(s:Shared)(Q:Value->Shared->Prop)(E:Value->Shared->Prop),tn i s.heap->Q (.ref it) s->wpAny (model P w) A (pyIter (.ref it)) Q E s
noncomputable abbrev TI:=St->Hp->(It->Hp->Prop)->Prop
noncomputable def PIE (X:Cx)(pins:List (Addr×Obj))(σ:St)(tg:Expr)(R:It->Hp->Prop)(itv:Value)(s2:Shared):Prop:=
 ∃(it:Addr)(fp:List Addr)(tn:Nat->Heap->Prop)(J:It)(H':Hp),itv = .ref it/\Inv X pins σ H' s2/\Turn X.prog X.w X.K tg J fp it tn/\tn 0 s2.heap/\(∀b∈fp,FpOk X pins H' b)/\R J H'
noncomputable def PI (X:Cx)(tg iter:Expr)(wi:TI):Prop:=
 ∀(pins:List (Addr×Obj))(s:Shared)(σ:St)(H:Hp)(R:It->Hp->Prop),Inv X pins σ H s->wi σ H R ->
  wpAny (model X.prog X.w) X.A (eval iter X.env) (fun v s1=>wpAny (model X.prog X.w) X.A (pyIter v) (PIE X pins σ tg R) X.xe s1) X.xe s
theorem go_of {M:Model}{A:Around}{E:Value->Shared->Prop}{s:Shared}{tg:Expr}{it:Addr}{u:Value}{o:Obj}{n:String}{vs:Array Value}{Q:Unit->Shared->Prop}(ho:s.heap.get? it=some o)(hc:o.cls = .type n)(hd:o.data = .fields vs)
 (hn:["enumerate", "zip", "dict_itemiterator", "dict_reverseitemiterator", "odict_iterator", "itertools.zip_longest", "itertools.pairwise"].contains n=false) (hQ:Q () s):wpAny M A (letOwnedTupleGo tg (.ref it) u) Q E s:=by
 unfold letOwnedTupleGo
 cases tg <;> first
  | exact wpAny_pure hQ
  | (cases u <;> first
   | exact wpAny_pure hQ
   | (refine wpAny_bind (wpAny_load ho ?_)
      rw[hc,hd]
      show wpAny M A (if (["enumerate", "zip", "dict_itemiterator", "dict_reverseitemiterator", "odict_iterator", "itertools.zip_longest", "itertools.pairwise"].contains n && vs[0]? == some (rawInt _))=true then _ else _) Q E s
      rw[if_neg (by intro h;rw[hn,Bool.false_and] at h;cases h)]
      exact wpAny_pure hQ))
noncomputable def Itl (K:PySem.W.Frag)(a:Addr):It:=
 ⟨fun i H=>∃xs x,SqL K H a xs/\xs[i]? = some x,fun i H x H'=>H'=H/\∀xs,SqL K H a xs->xs[i]? = some x,fun i H=>∃xs,SqL K H a xs/\xs.length<=i⟩
noncomputable def Itt (K:PySem.W.Frag)(a:Addr):It:=
 ⟨fun i H=>∃xs x,SqT K H a xs/\xs[i]? = some x,fun i H x H'=>H'=H/\∀xs,SqT K H a xs->xs[i]? = some x,fun i H=>∃xs,SqT K H a xs/\xs.length<=i⟩
noncomputable def Itr (lo:Int)(n:Nat):It:=⟨fun i _=>i<n,fun i H x H'=>H'=H/\x = .int (lo+i),fun i _=>n<=i⟩
theorem turn_list {P:Program}{w:World}{K:PySem.W.Frag}{tg:Expr}(a it:Addr):Turn P w K tg (Itl K a) [it] it (fun i h=>h.IsListIter it a i) where
 mem:=by simp
 obj:=fun i h st b hb=>by
  have e:b=it:=by simpa using hb
  subst e
  obtain⟨o,e,c,d⟩:=st
  exact⟨o,e,fun v z=>by rw[d] at z;cases z⟩
 keep:=fun i h h' st k=>st.at fun o e=>k it (by simp) o e
 item:=by
  intro X hP hw hK hc i pins s σ H E I hf st hg
  subst hP hw hK
  obtain⟨xs,x,hq,hx⟩:=hg
  obtain⟨its,rv,p,hz⟩:=I.list hq
  obtain⟨u,hu,ru⟩:=rv.get hx
  obtain⟨f0,f1,f2,f3,f4,f5⟩:=hf it (by simp)
  refine wpAny_pyNext_list_item st p.isList (x:=u) (by simpa using hu) fun h' st' sb=>?_
  have I1:Inv X pins σ H { s with heap:=h' }:=I.turned (t':=s.toks) (fun b o hb e=>(sb.2 b hb).trans e) f0 f1 f3 f4 f5
  obtain⟨o,e,c,d⟩:=id st'
  exact⟨u,rfl,go_of (s:={ s with heap:=h' }) e c d (by decide) ⟨x,H,I1,ru,⟨rfl,fun ys hy=>by rw[I.list_inj hy hq];exact hx⟩,st',fun b hb=>(hf b hb).1⟩⟩
 done:=by
  intro X hP hw hK hc i pins s σ H E I hf st hg
  subst hP hw hK
  obtain⟨xs,hq,hx⟩:=hg
  obtain⟨its,rv,p,hz⟩:=I.list hq
  obtain⟨f0,f1,f2,f3,f4,f5⟩:=hf it (by simp)
  have hl:=rv.length
  exact wpAny_pyNext_list_end (I.ok.hd hc) st p.isList (by simp;omega) fun h' eb=>⟨rfl,I.turned (t':=s.toks) (fun b o hb e=>eb b o hb e) f0 f1 f3 f4 f5⟩
 self:=fun _ _ _ _ _ st h=>wpAny_pyIter_listiter st h
theorem turn_tuple {P:Program}{w:World}{K:PySem.W.Frag}{tg:Expr}(a it:Addr):Turn P w K tg (Itt K a) [it] it (fun i h=>h.IsTupleIter it a i) where
 mem:=by simp
 obj:=fun i h st b hb=>by
  have e:b=it:=by simpa using hb
  subst e
  obtain⟨o,e,c,d⟩:=st
  exact⟨o,e,fun v z=>by rw[d] at z;cases z⟩
 keep:=fun i h h' st k=>st.at fun o e=>k it (by simp) o e
 item:=by
  intro X hP hw hK hc i pins s σ H E I hf st hg
  subst hP hw hK
  obtain⟨xs,x,hq,hx⟩:=hg
  obtain⟨its,rv,p,hz⟩:=I.tuple hq
  obtain⟨u,hu,ru⟩:=rv.get hx
  obtain⟨f0,f1,f2,f3,f4,f5⟩:=hf it (by simp)
  refine wpAny_pyNext_tuple_item st (show s.heap.IsTuple a its.toArray from p) (x:=u) (by simpa using hu) fun h' st' sb=>?_
  have I1:Inv X pins σ H { s with heap:=h' }:=I.turned (t':=s.toks) (fun b o hb e=>(sb.2 b hb).trans e) f0 f1 f3 f4 f5
  obtain⟨o,e,c,d⟩:=id st'
  exact⟨u,rfl,go_of (s:={ s with heap:=h' }) e c d (by decide) ⟨x,H,I1,ru,⟨rfl,fun ys hy=>by rw[I.tuple_inj hy hq];exact hx⟩,st',fun b hb=>(hf b hb).1⟩⟩
 done:=by
  intro X hP hw hK hc i pins s σ H E I hf st hg
  subst hP hw hK
  obtain⟨xs,hq,hx⟩:=hg
  obtain⟨its,rv,p,hz⟩:=I.tuple hq
  obtain⟨f0,f1,f2,f3,f4,f5⟩:=hf it (by simp)
  have hl:=rv.length
  exact wpAny_pyNext_tuple_end (I.ok.hd hc) st (show s.heap.IsTuple a its.toArray from p) (by simp;omega) fun h' eb=>⟨rfl,I.turned (t':=s.toks) (fun b o hb e=>eb b o hb e) f0 f1 f3 f4 f5⟩
 self:=fun _ _ _ _ _ st h=>wpAny_pyIter_tupleiter st h
theorem turn_range {P:Program}{w:World}{K:PySem.W.Frag}{tg:Expr}(it:Addr)(lo:Int)(n:Nat):Turn P w K tg (Itr lo n) [it] it (fun i h=>IsRangeIter h it (lo+(i:Nat)*1) ((n:Int)-(i:Nat)) 1) where
 mem:=by simp
 obj:=fun i h st b hb=>by
  have e:b=it:=by simpa using hb
  subst e
  exact⟨_,st,fun v z=>by
   have z':Data.fields _=Data.cell v:=z
   cases z'⟩
 keep:=fun i h h' st k=>k it (by simp) _ st
 item:=by
  intro X hP hw hK hc i pins s σ H E I hf st hg
  subst hP hw hK
  obtain⟨f0,f1,f2,f3,f4,f5⟩:=hf it (by simp)
  have W:=Walks.range (prog:=X.prog) (w:=X.w) (I.ok.hd hc) it lo 1 n
  refine W.item i s _ _ hg st fun v h' tk hv st' kk=>?_
  obtain⟨t,rfl⟩:=hv
  have I1:Inv X pins σ H { s with heap:=h',toks:=tk }:=I.turned (fun b o hb e=>kk b o (by simpa using hb) e) f0 f1 f3 f4 f5
  refine⟨_,rfl,go_of (s:={ s with heap:=h',toks:=tk }) (n := "range_iterator") st' rfl rfl (by decide) ⟨.int (lo+i),H,I1,⟨t,?_⟩,⟨rfl,rfl⟩,st',fun b hb=>(hf b hb).1⟩⟩
  rw[Int.mul_one]
 done:=by
  intro X hP hw hK hc i pins s σ H E I hf st hg
  subst hP hw hK
  obtain⟨f0,f1,f2,f3,f4,f5⟩:=hf it (by simp)
  exact wpAny_pyNext_range_end (I.ok.hd hc) st (by have:n<=i:=hg;omega) fun h' eb=>⟨rfl,I.turned (t':=s.toks) (fun b o hb e=>eb b o hb e) f0 f1 f3 f4 f5⟩
 self:=fun _ _ _ _ _ st h=>wpAny_pyIter_rangeiter st h
end L2
namespace L2
open PySem PySem.Spec PyProof.Rows
section
variable {X:Cx}{tg:Expr}
noncomputable def iList (K:PySem.W.Frag)(tl:TE):TI:=fun σ H R=>tl σ H fun x H1=>∃a,x = .ref a/\(∃xs,SqL K H1 a xs)/\R (Itl K a) H1
noncomputable def iTup (K:PySem.W.Frag)(tl:TE):TI:=fun σ H R=>tl σ H fun x H1=>∃a,x = .ref a/\(∃xs,SqT K H1 a xs)/\R (Itt K a) H1
theorem pi_list {l:Expr}{tl:TE}(hl:PE X l tl):PI X tg l (iList X.K tl):=by
 intro pins s σ H R I h
 refine thn (hl pins s σ H _ I h) fun v s1 ⟨x,H1,I1,r1,q1⟩=>?_
 obtain⟨a,e,⟨xs,hq⟩,q⟩:=q1
 subst e
 cases r1
 obtain⟨its,rv,p,hz⟩:=I1.list hq
 refine wpAny_pyIter_list p.isList ?_
 refine⟨s1.heap.objs.size,[s1.heap.objs.size],_,_,H1,rfl,I1.kept (t':=s1.toks) fun b o e=>Heap.get?_push_of_some _ e,turn_list a _,⟨_,Heap.get?_push_size _ rfl,rfl,rfl⟩,fun b hb=>?_,q⟩
 have e:b=s1.heap.objs.size:=by simpa using hb
 subst e
 exact I1.fpOk (Nat.le_refl _) (I1.hok.fresh (Nat.le_refl _))
theorem pi_tup {l:Expr}{tl:TE}(hl:PE X l tl):PI X tg l (iTup X.K tl):=by
 intro pins s σ H R I h
 refine thn (hl pins s σ H _ I h) fun v s1 ⟨x,H1,I1,r1,q1⟩=>?_
 obtain⟨a,e,⟨xs,hq⟩,q⟩:=q1
 subst e
 cases r1
 obtain⟨its,rv,p,hz⟩:=I1.tuple hq
 refine wpAny_pyIter_tuple (show s1.heap.IsTuple a its.toArray from p) ?_
 refine⟨s1.heap.objs.size,[s1.heap.objs.size],_,_,H1,rfl,I1.kept (t':=s1.toks) fun b o e=>Heap.get?_push_of_some _ e,turn_tuple a _,⟨_,Heap.get?_push_size _ rfl,rfl,rfl⟩,fun b hb=>?_,q⟩
 have e:b=s1.heap.objs.size:=by simpa using hb
 subst e
 exact I1.fpOk (Nat.le_refl _) (I1.hok.fresh (Nat.le_refl _))
theorem range_it {pins:List (Addr×Obj)}{σ:St}{H:Hp}{s:Shared}{R:It->Hp->Prop}{E:Value->Shared->Prop}{lo hi:Int}{t u v:Tok}{tk:Nat}(I:Inv X pins σ H s)(h1 : -(2 ^ 62)<=lo)(h2:lo<2 ^ 62)(h3 : -(2 ^ 62)<=hi)(h4:hi<2 ^ 62)
 (q:R (Itr lo (hi-lo).toNat) H):wpAny (model X.prog X.w) X.A (pyIter (.ref s.heap.objs.size)) (PIE X pins σ tg R) E { s with heap:=s.heap.push { cls:=.type "range",data:=.fields #[.int lo t,.int hi u,.int 1 v] },toks:=tk }:=by
 refine wpAny_pyIter_range (IsRange.new ..) (small_one h1 h2 h3 h4) ?_
 have I1:Inv X pins σ H { s with heap:=s.heap.push { cls:=.type "range",data:=.fields #[.int lo t,.int hi u,.int 1 v] },toks:=tk }:=I.kept fun b o e=>Heap.get?_push_of_some _ e
 refine⟨(s.heap.push { cls:=.type "range",data:=.fields #[.int lo t,.int hi u,.int 1 v] }).objs.size,[(s.heap.push { cls:=.type "range",data:=.fields #[.int lo t,.int hi u,.int 1 v] }).objs.size],_,_,H,rfl,
  I1.kept (t':=tk) fun b o e=>Heap.get?_push_of_some _ e,turn_range _ lo (hi-lo).toNat,?_,fun b hb=>?_,q⟩
 . have e1:lo+((0:Nat):Int)*1=lo:=by simp
   have e2:(((hi-lo).toNat:Nat):Int)-((0:Nat):Int)=Builtin.Range.rangeSize lo hi 1:=by rw[rangeSize_one];split <;> omega
   show IsRangeIter _ _ (lo+((0:Nat):Int)*1) ((((hi-lo).toNat:Nat):Int)-((0:Nat):Int)) 1
   rw[e1,e2]
   exact Heap.get?_push_size _ rfl
 . have e:b=(s.heap.push { cls:=.type "range",data:=.fields #[.int lo t,.int hi u,.int 1 v] }).objs.size:=by simpa using hb
   subst e
   exact I1.fpOk (Nat.le_refl _) (I1.hok.fresh (Nat.le_refl _))
noncomputable def iRng1 (ta:TA):TI:=fun σ H R=>ta σ H fun vs H1=>∃j:Int,vs=[.int j] /\ -(2 ^ 62)<=j/\j<2 ^ 62/\R (Itr 0 j.toNat) H1
noncomputable def iRng2 (ta:TA):TI:=fun σ H R=>ta σ H fun vs H1=>∃i j:Int,vs=[.int i,.int j]/\(-(2 ^ 62)<=i/\i<2 ^ 62 /\ -(2 ^ 62)<=j/\j<2 ^ 62)/\R (Itr i (j-i).toNat) H1
theorem pi_range1 {a:Expr}{ta:TA}{p pos:Pos}(hg:Gl X "range") (hm:X.mg "range" = none) (ha:PA X [a] ta)(hs:starEach [a] X.env=[(false,eval a X.env)]:=by rfl):PI X tg (.Call (.Name "range" p) [a] [] pos) (iRng1 ta):=by
 intro pins s σ H R I h
 refine Call_ (ld_blt I hg hm boot_range (PyProof.Rows.callWith_type1 (thn (ha pos pins s σ H _ I h) fun us s1 ⟨vs,H1,I1,r1,q1⟩=>?_) hs rfl))
 obtain⟨j,e,q1,q2,q⟩:=q1
 subst e
 cases r1 with
 | cons r rr=>
  cases rr
  obtain⟨t,rfl⟩:=r
  exact call_range_1 (range_it I1 (by omega) (by omega) q1 q2 (by simpa using q))
theorem pi_range2 {a b:Expr}{ta:TA}{p pos:Pos}(hg:Gl X "range") (hm:X.mg "range" = none) (ha:PA X [a,b] ta)(hs:starEach [a,b] X.env=[(false,eval a X.env),(false,eval b X.env)]:=by rfl)(hs2:starEach [b] X.env=[(false,eval b X.env)]:=by rfl) :
 PI X tg (.Call (.Name "range" p) [a,b] [] pos) (iRng2 ta):=by
 intro pins s σ H R I h
 refine Call_ (ld_blt I hg hm boot_range (PyProof.Rows.callWith_type1 (thn (ha pos pins s σ H _ I h) fun us s1 ⟨vs,H1,I1,r1,q1⟩=>?_) (by rw[hs,hs2]) (by rw[hs2];rfl)))
 obtain⟨i,j,e,⟨q1,q2,q3,q4⟩,q⟩:=q1
 subst e
 cases r1 with
 | cons r rr=>
  cases rr with
  | cons r' rr=>
   cases rr
   obtain⟨t,rfl⟩:=r
   obtain⟨t',rfl⟩:=r'
   exact call_range_2 (range_it I1 q1 q2 q3 q4 q)
noncomputable def tFor (wi:TI)(g:TG)(tb:TS):TS:=fun D σ H=>wi σ H fun J H1=>∃W:Nat->Nat->St->Hp->Prop,(∃m,W 0 m σ H1)/\∀i m σ H,W i m σ H ->
 (J.stop i H/\D.nx σ H)\/(J.go i H/\∃N:St->Hp->Prop,(∀ σ' H',N σ' H'->∃m',m'<m/\W (i+1) m' σ' H')/\∀x H',J.yld i H x H'->g x σ H' fun σ2 H2=>tb { D with nx:=N,ct:=N,bk:=D.nx } σ2 H2)
noncomputable def pinsAt (fp:List Addr)(h:Heap):List (Addr×Obj):=fp.filterMap fun b=>(h.get? b).map fun o=>(b,o)
theorem mem_pinsAt {fp:List Addr}{h:Heap}{b:Addr}{o:Obj}(hb:b∈fp)(e:h.get? b=some o):(b,o)∈pinsAt fp h:=List.mem_filterMap.mpr ⟨b,hb,by rw[e];rfl⟩
theorem of_pinsAt {fp:List Addr}{h:Heap}{p:Addr×Obj}(hp:p∈pinsAt fp h):p.1∈fp/\h.get? p.1=some p.2:=by
 obtain⟨b,hb,e⟩:=List.mem_filterMap.mp hp
 cases q:h.get? b with
 | none=>rw[q] at e;cases e
 | some o=>
  rw[q] at e
  have e':(b,o)=p:=Option.some.inj e
  subst e'
  exact⟨hb,q⟩
theorem Inv.pinned {pins:List (Addr×Obj)}{σ:St}{H:Hp}{s:Shared}{fp:List Addr}(I:Inv X pins σ H s)(hf:∀b∈fp,FpOk X pins H b)(ho:∀b∈fp,∃o,s.heap.get? b=some o/\∀v,o.data ≠ .cell v):Inv X (pins++pinsAt fp s.heap) σ H s:=
 I.pins_of fun p hp=>(List.mem_append.mp hp).elim (fun z=>I.pin p (List.mem_append_right _ z)) fun z=>by
  obtain⟨hb,e⟩:=of_pinsAt z
  obtain⟨f0,f1,f2,_⟩:=hf p.1 hb
  obtain⟨o,e',d⟩:=ho p.1 hb
  rw[e] at e';cases e'
  exact⟨e,f0,f1,f2,d⟩
theorem Inv.unpinned {pins pl:List (Addr×Obj)}{σ:St}{H:Hp}{s:Shared}(I:Inv X (pins++pl) σ H s):Inv X pins σ H s:=I.pins_of fun p hp=>I.pin p (List.mem_append_right _ (List.mem_append_left _ hp))
theorem ps_for {iter:Expr}{body:List Stmt}{wi:TI}{g:TG}{tb:TS}{pos:Pos}(hp:PassesOwn (model X.prog X.w) X.A X.env X.xe)(hc:X.calm=true)(hi:PI X tg iter wi)(hg:PG X tg g)(hb:PSs X body tb)
 (hs:∀x,foldedSetIterable iter X.env x=pure x:=by intro _;rfl):PS X (.For tg iter body [] pos) (tFor wi g tb):=by
 intro pins s σ H D I h
 refine wpAny_For (thn (hi pins s σ H _ I h) fun v s1 h1=>thn h1 fun itv s2 h2=>?_) hs
 obtain⟨it,fp,tn,J,H2,e,I2,T,st2,f2,W,⟨m0,w0⟩,turn⟩:=h2
 subst e
 have stat:∀{H':Hp},(∀b∈fp,H' b=none)->∀b∈fp,FpOk X pins H' b:=fun hn b hb=>⟨hn b hb,(f2 b hb).2⟩
 refine codeAny_forLoop_any (fun n s'=>∃i σ' H',Inv X pins σ' H' s'/\tn i s'.heap/\(∀b∈fp,H' b=none)/\W i n σ' H') ?_ m0 ⟨0,σ,H2,I2,st2,fun b hb=>(f2 b hb).1,w0⟩
 rintro n s3 ⟨i,σ3,H3,I3,st3,fr3,w3⟩
 rcases turn i n σ3 H3 w3 with ⟨stop,qn⟩ | ⟨go,N,hN,step⟩
 . refine wpAny_passesOwn hp (thn (T.done X rfl rfl rfl hc i pins s3 σ3 H3 X.xe I3 (stat fr3) st3 stop) fun r s4 ⟨hr,I4⟩=>?_)
   subst hr
   exact wpAny_execs_nil ⟨σ3,H3,I4,qn⟩
 . refine wpAny_passesOwn hp (thn (T.item X rfl rfl rfl hc i pins s3 σ3 H3 X.xe I3 (stat fr3) st3 go) fun r s4 ⟨u,hr,h4⟩=>?_)
   subst hr
   refine wpAny_passesOwn hp (thn h4 fun _ s5 ⟨x,H5,I5,r5,y5,st5,fr5⟩=>?_)
   have I5':=I5.pinned (stat fr5) (T.obj _ _ st5)
   refine wpAny_passesOwn hp (thn (hg _ s5 σ3 H5 x u _ I5' r5 (step x H5 y5)) fun _ s6 ⟨σ6,H6,I6,q6⟩=>?_)
   refine wpAny_passesOwn hp (thn (hb _ s6 σ6 H6 _ I6 q6) fun f s7 q7=>?_)
   have again:∀{σ7:St}{H7:Hp},Inv X (pins++pinsAt fp s5.heap) σ7 H7 s7->N σ7 H7->∃m,m<n/\∃i σ' H',Inv X pins σ' H' s7/\tn i s7.heap/\(∀b∈fp,H' b=none)/\W i m σ' H':=fun {σ7 H7} I7 n7=>by
    obtain⟨m',hm,w7⟩:=hN σ7 H7 n7
    refine⟨m',hm,i+1,σ7,H7,I7.unpinned,T.keep _ _ _ st5 fun b hb o e=>(I7.pin (b,o) (List.mem_append_right _ (List.mem_append_right _ (mem_pinsAt hb e)))).1,fun b hb=>?_,w7⟩
    obtain⟨o,e,d⟩:=T.obj _ _ st5 b hb
    exact (I7.pin (b,o) (List.mem_append_right _ (List.mem_append_right _ (mem_pinsAt hb e)))).2.1
   cases f with
   | next=>obtain⟨σ7,H7,I7,n7⟩:=q7;exact again I7 n7
   | cont=>obtain⟨σ7,H7,I7,n7⟩:=q7;exact again I7 n7
   | brk=>obtain⟨σ7,H7,I7,q7⟩:=q7;exact⟨σ7,H7,I7.unpinned,q7⟩
   | ret v=>obtain⟨x7,σ7,H7,I7,r7,q7⟩:=q7;exact⟨x7,σ7,H7,I7.unpinned,r7,q7⟩
end
theorem for_list {K:PySem.W.Frag}{a:Addr}{xs:List V}{g:TG}{tb:TS}{D:Ends}{σ:St}{H:Hp}(Pv:Nat->St->Hp->Prop)(h0:Pv 0 σ H)(hl:∀i σ H,i<=xs.length->Pv i σ H->SqL K H a xs)
 (hs:∀i x σ H,xs[i]? = some x->Pv i σ H->g x σ H fun σ2 H2=>tb { D with nx:=Pv (i+1),ct:=Pv (i+1),bk:=D.nx } σ2 H2)(hd:∀ σ H,Pv xs.length σ H->D.nx σ H) :
 ∃W:Nat->Nat->St->Hp->Prop,(∃m,W 0 m σ H)/\∀i m σ H,W i m σ H ->
  ((Itl K a).stop i H/\D.nx σ H)\/((Itl K a).go i H/\∃N:St->Hp->Prop,(∀ σ' H',N σ' H'->∃m',m'<m/\W (i+1) m' σ' H')/\∀x H',(Itl K a).yld i H x H'->g x σ H' fun σ2 H2=>tb { D with nx:=N,ct:=N,bk:=D.nx } σ2 H2):=by
 refine⟨fun i m σ H=>m=xs.length-i/\i<=xs.length/\Pv i σ H,⟨xs.length,by simp,Nat.zero_le _,h0⟩,?_⟩
 rintro i m σ H ⟨rfl,hi,p⟩
 have q:=hl i σ H hi p
 by_cases hlt:i<xs.length
 . refine .inr ⟨⟨xs,xs[i],q,by simp[hlt]⟩,Pv (i+1),fun σ' H' p'=>⟨xs.length-(i+1),by omega,rfl,hlt,p'⟩,fun x H' y=>?_⟩
   obtain⟨e,y⟩:=y
   subst e
   exact hs i x σ _ (y xs q) p
 . have e:i=xs.length:=by omega
   subst e
   exact .inl ⟨⟨xs,q,Nat.le_refl _⟩,hd σ H p⟩
theorem for_tup {K:PySem.W.Frag}{a:Addr}{xs:List V}{g:TG}{tb:TS}{D:Ends}{σ:St}{H:Hp}(Pv:Nat->St->Hp->Prop)(h0:Pv 0 σ H)(hl:∀i σ H,i<=xs.length->Pv i σ H->SqT K H a xs)
 (hs:∀i x σ H,xs[i]? = some x->Pv i σ H->g x σ H fun σ2 H2=>tb { D with nx:=Pv (i+1),ct:=Pv (i+1),bk:=D.nx } σ2 H2)(hd:∀ σ H,Pv xs.length σ H->D.nx σ H) :
 ∃W:Nat->Nat->St->Hp->Prop,(∃m,W 0 m σ H)/\∀i m σ H,W i m σ H ->
  ((Itt K a).stop i H/\D.nx σ H)\/((Itt K a).go i H/\∃N:St->Hp->Prop,(∀ σ' H',N σ' H'->∃m',m'<m/\W (i+1) m' σ' H')/\∀x H',(Itt K a).yld i H x H'->g x σ H' fun σ2 H2=>tb { D with nx:=N,ct:=N,bk:=D.nx } σ2 H2):=by
 refine⟨fun i m σ H=>m=xs.length-i/\i<=xs.length/\Pv i σ H,⟨xs.length,by simp,Nat.zero_le _,h0⟩,?_⟩
 rintro i m σ H ⟨rfl,hi,p⟩
 have q:=hl i σ H hi p
 by_cases hlt:i<xs.length
 . refine .inr ⟨⟨xs,xs[i],q,by simp[hlt]⟩,Pv (i+1),fun σ' H' p'=>⟨xs.length-(i+1),by omega,rfl,hlt,p'⟩,fun x H' y=>?_⟩
   obtain⟨e,y⟩:=y
   subst e
   exact hs i x σ _ (y xs q) p
 . have e:i=xs.length:=by omega
   subst e
   exact .inl ⟨⟨xs,q,Nat.le_refl _⟩,hd σ H p⟩
theorem for_range {lo:Int}{n:Nat}{g:TG}{tb:TS}{D:Ends}{σ:St}{H:Hp}(Pv:Nat->St->Hp->Prop)(h0:Pv 0 σ H)
 (hs:∀i σ H,i<n->Pv i σ H->g (.int (lo+i)) σ H fun σ2 H2=>tb { D with nx:=Pv (i+1),ct:=Pv (i+1),bk:=D.nx } σ2 H2)(hd:∀ σ H,Pv n σ H->D.nx σ H) :
 ∃W:Nat->Nat->St->Hp->Prop,(∃m,W 0 m σ H)/\∀i m σ H,W i m σ H ->
  ((Itr lo n).stop i H/\D.nx σ H)\/((Itr lo n).go i H/\∃N:St->Hp->Prop,(∀ σ' H',N σ' H'->∃m',m'<m/\W (i+1) m' σ' H')/\∀x H',(Itr lo n).yld i H x H'->g x σ H' fun σ2 H2=>tb { D with nx:=N,ct:=N,bk:=D.nx } σ2 H2):=by
 refine⟨fun i m σ H=>m=n-i/\i<=n/\Pv i σ H,⟨n,by simp,Nat.zero_le _,h0⟩,?_⟩
 rintro i m σ H ⟨rfl,hi,p⟩
 by_cases hlt:i<n
 . refine .inr ⟨hlt,Pv (i+1),fun σ' H' p'=>⟨n-(i+1),by omega,rfl,hlt,p'⟩,fun x H' y=>?_⟩
   obtain⟨e,y⟩:=y
   subst e y
   exact hs i σ _ hlt p
 . have e:i=n:=by omega
   subst e
   exact .inl ⟨Nat.le_refl _,hd σ H p⟩
end L2
namespace L2
open PySem PySem.Spec PyProof.Rows
noncomputable abbrev R2:=V->V->Hp->VK->Prop
noncomputable def OpR (X:Cx)(f:Value->Value->Sem Value)(r:R2):Prop:=
 ∀(pins:List (Addr×Obj))(s:Shared)(σ:St)(H:Hp)(x y:V)(v u:Value)(Q:VK),Inv X pins σ H s->RelV x v->RelV y u->r x y H Q ->
  wpAny (model X.prog X.w) X.A (f v u) (EP X pins σ Q) X.xe s
noncomputable def UnR (X:Cx)(f:Value->Sem Value)(r:V->Hp->VK->Prop):Prop:=
 ∀(pins:List (Addr×Obj))(s:Shared)(σ:St)(H:Hp)(x:V)(v:Value)(Q:VK),Inv X pins σ H s->RelV x v->r x H Q ->
  wpAny (model X.prog X.w) X.A (f v) (EP X pins σ Q) X.xe s
noncomputable def CallR (X:Cx)(f:Value)(r:List V->Hp->VK->Prop):Prop:=
 ∀(pins:List (Addr×Obj))(s:Shared)(σ:St)(H:Hp)(xs:List V)(us:List Value)(Q:VK),Inv X pins σ H s->Vals xs us->r xs H Q ->
  wpAny (model X.prog X.w) X.A (call f us) (EP X pins σ Q) X.xe s
noncomputable def TruR (X:Cx)(r:V->Hp->(Bool->Hp->Prop)->Prop):Prop:=
 ∀(pins:List (Addr×Obj))(s:Shared)(σ:St)(H:Hp)(x:V)(v:Value)(Q:Bool->Hp->Prop),Inv X pins σ H s->RelV x v->r x H Q ->
  wpAny (model X.prog X.w) X.A (truthy v) (TP X pins σ Q) X.xe s
noncomputable def tOp (r:R2)(ta tb:TE):TE:=fun σ H Q=>ta σ H fun x H1=>tb σ H1 fun y H2=>r x y H2 Q
noncomputable def tUn (r:V->Hp->VK->Prop)(ta:TE):TE:=fun σ H Q=>ta σ H fun x H1=>r x H1 Q
noncomputable def rI (C:Int->Int->Prop)(g:Int->Int->V):R2:=fun x y H Q=>∃i j,x = .int i/\y = .int j/\C i j/\Q (g i j) H
noncomputable def rI0 (g:Int->Int->V):R2:=fun x y H Q=>∃i j,x = .int i/\y = .int j/\Q (g i j) H
noncomputable def rU (g:Int->V):V->Hp->VK->Prop:=fun x H Q=>∃i,x = .int i/\Q (g i) H
section
variable {X:Cx}{a b c:Expr}{ta tb tc:TE}{pos:Pos}
theorem binT (ha:PE X a ta)(hb:PE X b tb){pins:List (Addr×Obj)}{s:Shared}{σ:St}{H:Hp}{R:V->V->Hp->Prop}(I:Inv X pins σ H s)
 (h:ta σ H fun x H1=>tb σ H1 fun y H2=>R x y H2){Q:Value->Shared->Prop}{f:Value->Value->Sem Value}
 (hf:∀v u s2 x y H2,Inv X pins σ H2 s2->RelV x v->RelV y u->R x y H2->wpAny (model X.prog X.w) X.A (f v u) Q X.xe s2) :
 wpAny (model X.prog X.w) X.A (eval a X.env) (fun v s₁=>wpAny (model X.prog X.w) X.A (eval b X.env) (fun u s₂=>wpAny (model X.prog X.w) X.A (f v u) Q X.xe s₂) X.xe s₁) X.xe s:=by
 refine thn (ha pins s σ H _ I h) fun v s1 ⟨x,H1,I1,r1,q1⟩=>?_
 refine thn (hb pins s1 σ H1 _ I1 q1) fun u s2 ⟨y,H2,I2,r2,q2⟩=>?_
 exact hf v u s2 x y H2 I2 r1 r2 q2
theorem pe_op {op:Operator}{r:R2}(ho:OpR X (binaryOp op) r)(ha:PE X a ta)(hb:PE X b tb):PE X (.BinOp a op b pos) (tOp r ta tb):=by
 intro pins s σ H Q I h
 exact wpAny_BinOp (binT ha hb I h fun v u s2 x y H2 I2 rx ry q=>ho pins s2 σ H2 x y v u Q I2 rx ry q)
theorem pe_un {op:UnaryOp}{r:V->Hp->VK->Prop}(ho:UnR X (unaryOp op) r)(ha:PE X a ta):PE X (.UnaryOp op a pos) (tUn r ta):=by
 intro pins s σ H Q I h
 exact UnaryOp_ (thn (ha pins s σ H _ I h) fun v s1 ⟨x,H1,I1,r1,q1⟩=>ho pins s1 σ H1 x v Q I1 r1 q1)
theorem opI {f:Value->Value->Sem Value}{C:Int->Int->Prop}{g:Int->Int->Int}
 (rule:∀(i j:Int)(t u:Tok)(s:Shared)(Q:Value->Shared->Prop)(E:Value->Shared->Prop),C i j->Q (.int (g i j) s.toks) { s with toks:=s.toks+1 }->wpAny (model X.prog X.w) X.A (f (.int i t) (.int j u)) Q E s) :
 OpR X f (rI C fun i j=>.int (g i j)):=by
 intro pins s σ H x y v u Q I rx ry h
 obtain⟨i,j,rfl,rfl,hc,q⟩:=h
 obtain⟨t,rfl⟩:=rx
 obtain⟨t',rfl⟩:=ry
 exact rule i j t t' s _ _ hc ⟨.int (g i j),H,I.tok _,⟨_,rfl⟩,q⟩
theorem opI0 {f:Value->Value->Sem Value}{g:Int->Int->Int}
 (rule:∀(i j:Int)(t u:Tok)(s:Shared)(Q:Value->Shared->Prop)(E:Value->Shared->Prop),Q (.int (g i j) s.toks) { s with toks:=s.toks+1 }->wpAny (model X.prog X.w) X.A (f (.int i t) (.int j u)) Q E s) :
 OpR X f (rI0 fun i j=>.int (g i j)):=by
 intro pins s σ H x y v u Q I rx ry h
 obtain⟨i,j,rfl,rfl,q⟩:=h
 obtain⟨t,rfl⟩:=rx
 obtain⟨t',rfl⟩:=ry
 exact rule i j t t' s _ _ ⟨.int (g i j),H,I.tok _,⟨_,rfl⟩,q⟩
theorem opB0 {f:Value->Value->Sem Value}{g:Int->Int->Bool}
 (rule:∀(i j:Int)(t u:Tok)(s:Shared)(Q:Value->Shared->Prop)(E:Value->Shared->Prop),Q (.bool (g i j)) s->wpAny (model X.prog X.w) X.A (f (.int i t) (.int j u)) Q E s) :
 OpR X f (rI0 fun i j=>.bl (g i j)):=by
 intro pins s σ H x y v u Q I rx ry h
 obtain⟨i,j,rfl,rfl,q⟩:=h
 obtain⟨t,rfl⟩:=rx
 obtain⟨t',rfl⟩:=ry
 exact rule i j t t' s _ _ ⟨.bl (g i j),H,I,rfl,q⟩
noncomputable def CDiv (i j:Int):Prop:=0<j/\j<1073741824
noncomputable def CPow (i j:Int):Prop:=0<=j/\j<=1000000/\i.natAbs<2 ^ 64
noncomputable def CMul (i j:Int):Prop:=(-(2 ^ 64)<i/\i<2 ^ 64)\/(-(2 ^ 64)<j/\j<2 ^ 64)
theorem CMul.ok {i j:Int}(h:CMul i j):IntMulOk i j:=by
 rcases h with ⟨h1,h2⟩ | ⟨h1,h2⟩
 . exact .of_left (intBits_le_64 h1 h2)
 . exact .of_right (intBits_le_64 h1 h2)
theorem op_add:OpR X (binaryOp .Add) (rI0 fun i j=>.int (i+j)):=opI0 fun _ _ _ _ _ _ _ q=>add_int q
theorem op_sub:OpR X (binaryOp .Sub) (rI0 fun i j=>.int (i-j)):=opI0 fun _ _ _ _ _ _ _ q=>sub_int q
theorem op_mul:OpR X (binaryOp .Mult) (rI CMul fun i j=>.int (i*j)):=opI fun _ _ _ _ _ _ _ hc q=>mul_int q hc.ok
theorem op_fdiv:OpR X (binaryOp .FloorDiv) (rI CDiv fun i j=>.int (i/j)):=opI fun i j _ _ _ _ _ hc q=>by
 have h1:(0:Int)<j:=hc.1
 have h2:j<1073741824:=hc.2
 exact floordiv_int (by omega) (by rw[Int.fdiv_eq_ediv_of_nonneg i (by omega)];exact q) (.inl (PyProof.noPylong_small (by omega)))
theorem op_mod:OpR X (binaryOp .Mod) (rI (fun _ j=>0<j) fun i j=>.int (i%j)):=opI fun i j _ _ _ _ _ hc q=>by
 have h1:(0:Int)<j:=hc
 exact mod_int' (by omega) (by rw[Int.fmod_eq_emod_of_nonneg i (by omega)];exact q)
theorem op_pow:OpR X (binaryOp .Pow) (rI CPow fun i j=>.int (i ^ j.toNat)):=opI fun _ _ _ _ _ _ _ hc q=>pow_int_small hc.1 hc.2.1 hc.2.2 q
theorem unI {f:Value->Sem Value}{g:Int->Int}
 (rule:∀(i:Int)(t:Tok)(s:Shared)(Q:Value->Shared->Prop)(E:Value->Shared->Prop),Q (.int (g i) s.toks) { s with toks:=s.toks+1 }->wpAny (model X.prog X.w) X.A (f (.int i t)) Q E s) :
 UnR X f (rU fun i=>.int (g i)):=by
 intro pins s σ H x v Q I rx h
 obtain⟨i,rfl,q⟩:=h
 obtain⟨t,rfl⟩:=rx
 exact rule i t s _ _ ⟨.int (g i),H,I.tok _,⟨_,rfl⟩,q⟩
theorem un_neg:UnR X (unaryOp .USub) (rU fun i=>.int (-i)):=unI fun _ _ _ _ _ q=>neg_int q
end
noncomputable def scal:V->V->Bool
 | .non,.non=>true | .non,.int _=>true | .int _,.non=>true | .non,.bl _=>true | .bl _,.non=>true | .non,.str _=>true | .str _,.non=>true
 | .int _,.int _=>true | .bl _,.bl _=>true | .str _,.str _=>true | .byt _,.byt _=>true
 | .int _,.str _=>true | .str _,.int _=>true | .bl _,.str _=>true | .str _,.bl _=>true
 | _,_=>false
noncomputable def rEq:R2:=fun x y H Q=>scal x y=true/\Q (.bl (decide (x=y))) H
noncomputable def rNe:R2:=fun x y H Q=>scal x y=true/\Q (.bl (!decide (x=y))) H
theorem dec_int {i j:Int}:decide (V.int i=V.int j)=(i==j):=by
 rw[Bool.eq_iff_iff]
 simp
theorem dec_bl {i j:Bool}:decide (V.bl i=V.bl j)=(i==j):=by
 rw[Bool.eq_iff_iff]
 simp
theorem dec_str {i j:Str}:decide (V.str i=V.str j)=(i==j):=by
 rw[Bool.eq_iff_iff]
 simp
theorem dec_byt {i j:Array UInt8}:decide (V.byt i=V.byt j)=(i.toList==j.toList):=by
 rw[Bool.eq_iff_iff]
 cases i
 cases j
 simp
section
variable {X:Cx}{a b c:Expr}{ta tb tc:TE}{pos:Pos}
theorem fin_bl {pins:List (Addr×Obj)}{σ:St}{H:Hp}{s:Shared}{Q:VK}{k k':Bool}(I:Inv X pins σ H s)(q:Q (.bl k) H)(e:k=k'):EP X pins σ Q (.bool k') s:=by
 subst e
 exact⟨.bl k,H,I,rfl,q⟩
theorem op_eq:OpR X (compareOp .Eq) rEq:=by
 intro pins s σ H x y v u Q I rx ry h
 obtain⟨hs,q⟩:=h
 cases x with
 | non=>
  cases rx
  cases y with
  | non=>cases ry;exact PySem.EqNone.eq_none_none (fin_bl I q (by simp))
  | bl j=>cases ry;exact PySem.EqNone.eq_none_bool (fin_bl I q (by simp))
  | int j=>obtain⟨t',rfl⟩:=ry;exact PySem.EqNone.eq_none_int (fin_bl I q (by simp))
  | str j=>obtain⟨t',rfl⟩:=ry;exact PySem.EqNone.eq_none_str (fin_bl I q (by simp))
  | _=>exact absurd (show false=true from hs) Bool.false_ne_true
 | bl i=>
  cases rx
  cases y with
  | non=>cases ry;exact PySem.EqNone.eq_bool_none (fin_bl I q (by simp))
  | bl j=>cases ry;exact eq_bool (fin_bl I q dec_bl)
  | str j=>obtain⟨t',rfl⟩:=ry;exact PySem.EqMixed.eq_bool_str (fin_bl I q (by simp))
  | _=>exact absurd (show false=true from hs) Bool.false_ne_true
 | int i=>
  obtain⟨t,rfl⟩:=rx
  cases y with
  | non=>cases ry;exact PySem.EqNone.eq_int_none (fin_bl I q (by simp))
  | int j=>obtain⟨t',rfl⟩:=ry;exact eq_int (fin_bl I q dec_int)
  | str j=>obtain⟨t',rfl⟩:=ry;exact PySem.EqMixed.eq_int_str (fin_bl I q (by simp))
  | _=>exact absurd (show false=true from hs) Bool.false_ne_true
 | str i=>
  obtain⟨t,rfl⟩:=rx
  cases y with
  | non=>cases ry;exact PySem.EqNone.eq_str_none (fin_bl I q (by simp))
  | bl j=>cases ry;exact PySem.EqMixed.eq_str_bool (fin_bl I q (by simp))
  | int j=>obtain⟨t',rfl⟩:=ry;exact PySem.EqMixed.eq_str_int (fin_bl I q (by simp))
  | str j=>obtain⟨t',rfl⟩:=ry;exact eq_str (fin_bl I q dec_str)
  | _=>exact absurd (show false=true from hs) Bool.false_ne_true
 | byt i=>
  obtain⟨t,rfl⟩:=rx
  cases y with
  | byt j=>obtain⟨t',rfl⟩:=ry;exact PySem.W.eq_bytes (fin_bl I q dec_byt)
  | _=>exact absurd (show false=true from hs) Bool.false_ne_true
 | _=>cases y <;> exact absurd (show false=true from hs) Bool.false_ne_true
theorem op_ne:OpR X (compareOp .NotEq) rNe:=by
 intro pins s σ H x y v u Q I rx ry h
 obtain⟨hs,q⟩:=h
 cases x with
 | non=>
  cases rx
  cases y with
  | non=>cases ry;exact PySem.EqNone.ne_none_none (fin_bl I q (by simp))
  | bl j=>cases ry;exact PySem.EqNone.ne_none_bool (fin_bl I q (by simp))
  | int j=>obtain⟨t',rfl⟩:=ry;exact PySem.EqNone.ne_none_int (fin_bl I q (by simp))
  | str j=>obtain⟨t',rfl⟩:=ry;exact PySem.EqNone.ne_none_str (fin_bl I q (by simp))
  | _=>exact absurd (show false=true from hs) Bool.false_ne_true
 | bl i=>
  cases rx
  cases y with
  | non=>cases ry;exact PySem.EqNone.ne_bool_none (fin_bl I q (by simp))
  | bl j=>cases ry;exact ne_bool (fin_bl I q (congrArg not dec_bl))
  | str j=>obtain⟨t',rfl⟩:=ry;exact PySem.EqMixed.ne_bool_str (fin_bl I q (by simp))
  | _=>exact absurd (show false=true from hs) Bool.false_ne_true
 | int i=>
  obtain⟨t,rfl⟩:=rx
  cases y with
  | non=>cases ry;exact PySem.EqNone.ne_int_none (fin_bl I q (by simp))
  | int j=>obtain⟨t',rfl⟩:=ry;exact ne_int (fin_bl I q (congrArg not dec_int))
  | str j=>obtain⟨t',rfl⟩:=ry;exact PySem.EqMixed.ne_int_str (fin_bl I q (by simp))
  | _=>exact absurd (show false=true from hs) Bool.false_ne_true
 | str i=>
  obtain⟨t,rfl⟩:=rx
  cases y with
  | non=>cases ry;exact PySem.EqNone.ne_str_none (fin_bl I q (by simp))
  | bl j=>cases ry;exact PySem.EqMixed.ne_str_bool (fin_bl I q (by simp))
  | int j=>obtain⟨t',rfl⟩:=ry;exact PySem.EqMixed.ne_str_int (fin_bl I q (by simp))
  | str j=>obtain⟨t',rfl⟩:=ry;exact ne_str (fin_bl I q (congrArg not dec_str))
  | _=>exact absurd (show false=true from hs) Bool.false_ne_true
 | byt i=>
  obtain⟨t,rfl⟩:=rx
  cases y with
  | byt j=>obtain⟨t',rfl⟩:=ry;exact PySem.W.ne_bytes (fin_bl I q (congrArg not dec_byt))
  | _=>exact absurd (show false=true from hs) Bool.false_ne_true
 | _=>cases y <;> exact absurd (show false=true from hs) Bool.false_ne_true
theorem op_lt:OpR X (compareOp .Lt) (rI0 fun i j=>.bl (decide (i<j))):=opB0 fun _ _ _ _ _ _ _ q=>lt_int q
theorem op_le:OpR X (compareOp .LtE) (rI0 fun i j=>.bl (decide (i<=j))):=opB0 fun _ _ _ _ _ _ _ q=>le_int q
theorem op_gt:OpR X (compareOp .Gt) (rI0 fun i j=>.bl (decide (j<i))):=opB0 fun _ _ _ _ _ _ _ q=>gt_int q
theorem op_ge:OpR X (compareOp .GtE) (rI0 fun i j=>.bl (decide (j<=i))):=opB0 fun _ _ _ _ _ _ _ q=>ge_int q
theorem op_in_str:OpR X (compareOp .In) (fun x y H Q=>∃i j,x = .str i/\y = .str j/\Q (.bl (!(Builtin.Str.occurrences j i 0 j.length 1).isEmpty)) H):=by
 intro pins s σ H x y v u Q I rx ry h
 obtain⟨i,j,rfl,rfl,q⟩:=h
 obtain⟨t,rfl⟩:=rx
 obtain⟨t',rfl⟩:=ry
 exact in_str (fin_bl I q rfl)
theorem op_isN:OpR X (compareOp .Is) (fun x y H Q=>y = .non/\Q (.bl (decide (x = .non))) H):=by
 intro pins s σ H x y v u Q I rx ry h
 obtain⟨rfl,q⟩:=h
 cases ry
 refine is_none_gen (fin_bl I q ?_)
 cases x <;> first
  | (cases rx;rfl)
  | (obtain⟨t,rfl⟩:=rx;rfl)
theorem op_notin_str:OpR X (compareOp .NotIn) (fun x y H Q=>∃i j,x = .str i/\y = .str j/\Q (.bl (!(!(Builtin.Str.occurrences j i 0 j.length 1).isEmpty))) H):=by
 intro pins s σ H x y v u Q I rx ry h
 obtain⟨i,j,rfl,rfl,q⟩:=h
 obtain⟨t,rfl⟩:=rx
 obtain⟨t',rfl⟩:=ry
 exact notIn_str (fin_bl I q rfl)
theorem nomark (b:Expr){op:CmpOp}(h:op ≠ .In:=by decide)(h2:op ≠ .NotIn:=by decide):behindInMarks op b=false:=by
 have e1:(op==CmpOp.In)=false:=by cases op <;> first | rfl | exact absurd rfl h
 have e2:(op==CmpOp.NotIn)=false:=by cases op <;> first | rfl | exact absurd rfl h2
 cases b <;> simp[behindInMarks,e1,e2]
theorem pe_cmpR {op:CmpOp}{r:R2}(ho:OpR X (compareOp op) r)(ha:PE X a ta)(hb:PE X b tb)(hm:behindInMarks op b=false):PE X (.Compare a [op] [b] pos) (tOp r ta tb):=by
 intro pins s σ H Q I h
 exact wpAny_Compare1 (binT ha hb I h fun v u s2 x y H2 I2 rx ry q=>ho pins s2 σ H2 x y v u Q I2 rx ry q) hm
noncomputable def tTest (t:TE):TT:=fun σ H Q=>t σ H fun x H'=>∃k,x = .bl k/\Q k H'
theorem pt_cmpR {op:CmpOp}{r:R2}(ho:OpR X (compareOp op) r)(ha:PE X a ta)(hb:PE X b tb)(hm:behindInMarks op b=false):PT X (.Compare a [op] [b] pos) (tTest (tOp r ta tb)):=by
 intro pins s σ H Q I h
 refine wpAny_isTrue_Compare1 (thn (ha pins s σ H _ I h) fun v s1 ⟨x,H1,I1,r1,q1⟩=>thn (hb pins s1 σ H1 _ I1 q1) fun u s2 ⟨y,H2,I2,r2,q2⟩=>
  thn (ho pins s2 σ H2 x y v u _ I2 r1 r2 q2) fun c s3 ⟨z,H3,I3,r3,k,e,q3⟩=>?_) hm
 subst e
 cases r3
 exact wpAny_truthy_bool ⟨H3,I3,q3⟩
noncomputable def tChain (r r':R2)(ta tb tc:TE):TE:=fun σ H Q=>ta σ H fun x H1=>tb σ H1 fun y H2=>r x y H2 fun z H3=>∃k,z = .bl k /\
 (if k=true then tc σ H3 fun w' H4=>r' y w' H4 Q else Q (.bl false) H3)
theorem pt_chain {op op':CmpOp}{r r':R2}(ho:OpR X (compareOp op) r)(ho':OpR X (compareOp op') r')(ha:PE X a ta)(hb:PE X b tb)(hc:PE X c tc)
 (hm:lastMarks [op,op'] [b,c]=false:=by with_unfolding_all rfl):PT X (.Compare a [op,op'] [b,c] pos) (tTest (tChain r r' ta tb tc)):=by
 intro pins s σ H Q I h
 refine isTrue_chain (thn (ha pins s σ H _ I h) fun v s1 ⟨x,H1,I1,r1,q1⟩=>test_link (thn (hb pins s1 σ H1 _ I1 q1) fun u s2 ⟨y,H2,I2,r2,q2⟩=>
  thn (ho pins s2 σ H2 x y v u _ I2 r1 r2 q2) fun d s3 ⟨z,H3,I3,r3,k,e,q3⟩=>?_)) hm
 subst e
 cases r3
 refine wpAny_truthy_bool ?_
 cases k with
 | false=>
  obtain⟨k',e',q'⟩:=q3
  cases e'
  exact ite_ff ⟨H3,I3,q'⟩
 | true=>
  refine ite_tt (test_last (thn (hc pins s3 σ H3 _ I3 q3) fun w' s4 ⟨z',H4,I4,r4,q4⟩=>thn (ho' pins s4 σ H4 y z' u w' _ I4 r2 r4 q4) fun d' s5 ⟨z2,H5,I5,r5,k2,e2,q5⟩=>?_))
  subst e2
  cases r5
  exact wpAny_truthy_bool ⟨H5,I5,q5⟩
noncomputable def TruV (K:PySem.W.Frag)(x:V)(H:Hp)(k:Bool):Prop:=
 match x with
 | .non=>k=false
 | .bl b=>k=b
 | .int i=>k=(i != 0)
 | .str y=>y.length<=sizeLine/\k=((y.length:Int) != 0)
 | .byt y=>y.size<=sizeLine/\k=((y.size:Int) != 0)
 | .ref p=>(∃xs,SqL K H p xs/\k = !xs.isEmpty)\/(∃xs,SqT K H p xs/\k = !xs.isEmpty)\/∃kvs,H p=some (.dK kvs)/\k = !kvs.isEmpty
 | _=>False
theorem isEmpty_kv {κ:Type}{kvs:List (κ×V)}{vs:List (κ×Value)}(r:KV kvs vs):(!vs.isEmpty) = !kvs.isEmpty:=by
 cases r <;> rfl
theorem isEmpty_of {xs:List V}{its:List Value}(r:Vals xs its):(!its.toArray.isEmpty) = !xs.isEmpty:=by
 cases r <;> simp
theorem line63:(sizeLine:Nat)<2 ^ 63:=by rw[sizeLine_eq];decide
theorem tru_ok:TruR X (fun x H Q=>∃k,TruV X.K x H k/\Q k H):=by
 intro pins s σ H x v Q I rx h
 obtain⟨k,e,q⟩:=h
 have hl:=line63
 have hs:sizeLine=16777216:=sizeLine_eq
 cases x with
 | non=>
  cases rx
  have e':k=false:=e
  subst e'
  exact truthy_none ⟨H,I,q⟩
 | bl b=>
  cases rx
  have e':k=b:=e
  subst e'
  exact wpAny_truthy_bool ⟨H,I,q⟩
 | int i=>
  obtain⟨t,rfl⟩:=rx
  have e':k=(i != 0):=e
  subst e'
  exact PySem.P.truthy_int ⟨H,I,q⟩
 | str y=>
  obtain⟨t,rfl⟩:=rx
  obtain⟨hy,e'⟩:y.length<=sizeLine/\k=((y.length:Int) != 0):=e
  subst e'
  exact PySem.P.truthy_str (by omega) ⟨H,I.tok _,q⟩
 | byt y=>
  obtain⟨t,rfl⟩:=rx
  obtain⟨hy,e'⟩:y.size<=sizeLine/\k=((y.size:Int) != 0):=e
  subst e'
  exact PySem.W.truthy_bytes (by omega) ⟨H,I.tok _,q⟩
 | ref p=>
  cases rx
  have e':(∃xs,SqL X.K H p xs/\k = !xs.isEmpty)\/(∃xs,SqT X.K H p xs/\k = !xs.isEmpty)\/∃kvs,H p=some (.dK kvs)/\k = !kvs.isEmpty:=e
  rcases e' with ⟨xs,hx,e'⟩ | ⟨xs,hx,e'⟩ | ⟨kvs,hx,e'⟩
  . subst e'
    obtain⟨its,r,pl,hz⟩:=I.list hx
    have hlen:=r.length
    exact wpAny_truthy_list pl.isList (by simp only[List.size_toArray];omega) ⟨H,I.tok _,by rw[isEmpty_of r];exact q⟩
  . subst e'
    obtain⟨its,r,pl,hz⟩:=I.tuple hx
    have hlen:=r.length
    exact truthy_tuple pl (by simp only[List.size_toArray];omega) ⟨H,I.tok _,by rw[isEmpty_of r];exact q⟩
  . subst e'
    obtain⟨hz,hS,vs,r,m⟩:kvs.length<=sizeLine/\(p==sysModules)=false/\∃vs,KV kvs vs/\s.heap.DictOf (mixKind X.prog X.w) p vs:=I.hok p _ hx
    have hlen:kvs.length=vs.length:=Paired.length r
    exact wpAny_truthy_dict hS m (by omega) ⟨H,I.tok _,by rw[isEmpty_kv r];exact q⟩
 | _=>exact (show False from e).elim
theorem pt_truth (ha:PE X a ta)(he:∀whole,isTrue a X.env whole=(do let v <-whole;standAt a.pos;holding [v] (truthy v))) :
 PT X a (fun σ H Q=>ta σ H fun x H'=>∃k,TruV X.K x H' k/\Q k H'):=by
 intro pins s σ H Q I h
 exact isTrue_plain (thn (ha pins s σ H _ I h) fun v s1 ⟨x,H1,I1,r1,q1⟩=>tru_ok pins s1 σ H1 x v Q I1 r1 q1) (he _)
theorem vals1 {x:V}{us:List Value}(r:Vals [x] us):∃u,us=[u]/\RelV x u:=by
 cases r with
 | cons r1 r2=>cases r2;exact⟨_,rfl,r1⟩
theorem vals2 {x y:V}{us:List Value}(r:Vals [x,y] us):∃u w',us=[u,w']/\RelV x u/\RelV y w':=by
 cases r with
 | cons r1 r2=>
  cases r2 with
  | cons r3 r4=>cases r4;exact⟨_,_,rfl,r1,r3⟩
theorem call_int1:CallR X (.type "int") (fun xs H Q=>(∃i,xs=[.int i]/\Q (.int i) H)\/∃k,xs=[.bl k]/\Q (.int (if k then 1 else 0)) H):=by
 intro pins s σ H xs us Q I r h
 rcases h with ⟨i,rfl,q⟩ | ⟨k,rfl,q⟩
 . obtain⟨u,rfl,t,rfl⟩:=vals1 r
   exact call_int_int ⟨.int i,H,I,⟨_,rfl⟩,q⟩
 . obtain⟨u,rfl,r1⟩:=vals1 r
   cases r1
   exact call_int_bool ⟨.int (if k then 1 else 0),H,I.tok _,⟨_,rfl⟩,q⟩
end
end L2
namespace L2
open PySem PySem.Spec PyProof.Rows
structure ObjM (h:Heap)(x dx C:Addr)(mA:Str->Option Value):Prop where
 obj:h.get? x=some (PySem.W.instObj C dx)
 ns:h.Ns1 dx mA
 ne:dx≠x
theorem lookIn_ns {h:Heap}{dx:Addr}{mA:Str->Option Value}(n:h.Ns1 dx mA):∃od,h.get? dx=some od/\∀name,PySem.W.lookIn name od=some (mA name):=by
 obtain⟨o,es,ep,ho,hd,hk,_,hm⟩:=n
 refine⟨o,ho,fun name=>?_⟩
 have e:=hm name
 unfold nsFind findBy at e
 rw[<-Array.find?_toList] at e
 unfold PySem.W.lookIn
 rw[hd]
 dsimp only
 split
 . rename_i y q
   rw[q] at e
   exact congrArg some e
 . rename_i q
   rw[q] at e
   have a:es.toList.any (·.refKey)=false:=by
    rw[List.any_eq_false]
    intro y hy
    obtain⟨z,t,hkey⟩:=hk y (Array.mem_toList_iff.mp hy)
    simp[DictEntry.refKey,hkey]
   have a':¬ es.toList.any (·.refKey)=true:=by rw[a];exact Bool.false_ne_true
   rw[if_neg a']
   exact congrArg some e
theorem ObjM.look {h:Heap}{x dx C:Addr}{mA:Str->Option Value}(I:ObjM h x dx C mA):∃od,PySem.W.InstAt h x (PySem.W.instObj C dx) C (some od)/\∀name,PySem.W.lookIn name od=some (mA name):=
 let ⟨od,ho,hl⟩:=lookIn_ns I.ns
 ⟨od,⟨I.obj,rfl,rfl,ho⟩,hl⟩
section
variable {prog:Program}{w:World}{A:Around}{E:Value->Shared->Prop}{s:Shared}{K:PySem.W.Frag}{x dx C f:Addr}{mA:Str->Option Value}{name:Str}{v:Value}
end
noncomputable def putF (f:Str)(v:V):List (Str×V)->List (Str×V)
 | []=>[(f,v)]
 | (g,x)::r=>if g=f then (g,v)::r else (g,x)::putF f v r
theorem lookup_putF (f g:Str)(v:V):∀fs:List (Str×V),(putF f v fs).lookup g=if g=f then some v else fs.lookup g
 | []=>by
  show List.lookup g [(f,v)]=_
  by_cases h:g=f
  . have hb:(g==f)=true:=beq_iff_eq.mpr h
    simp only[List.lookup,hb,if_pos h]
  . have hb:(g==f)=false:=beq_eq_false_iff_ne.mpr h
    simp only[List.lookup,hb,if_neg h]
 | (k,x)::r=>by
  have ih:=lookup_putF f g v r
  rw[show putF f v ((k,x)::r)=(if k=f then (k,v)::r else (k,x)::putF f v r) from rfl]
  by_cases hk:k=f
  . rw[if_pos hk]
    by_cases h:g=k
    . have hb:(g==k)=true:=beq_iff_eq.mpr h
      simp only[List.lookup,hb,if_pos (h.trans hk)]
    . have hb:(g==k)=false:=beq_eq_false_iff_ne.mpr h
      simp only[List.lookup,hb,if_neg (fun e:g=f=>h (e.trans hk.symm))]
  . rw[if_neg hk]
    by_cases h:g=k
    . have hb:(g==k)=true:=beq_iff_eq.mpr h
      simp only[List.lookup,hb,if_neg (fun e:g=f=>hk (h.symm.trans e))]
    . have hb:(g==k)=false:=beq_eq_false_iff_ne.mpr h
      simp only[List.lookup,hb]
      exact ih
theorem keys_putF (f:Str)(v:V):∀fs:List (Str×V),f∈(putF f v fs).map (·.1)/\∀g,g∈fs.map (·.1)->g∈(putF f v fs).map (·.1)
 | []=>⟨by simp[putF],fun g h=>by simp at h⟩
 | (k,x)::r=>by
  obtain⟨i1,i2⟩:=keys_putF f v r
  rw[show putF f v ((k,x)::r)=(if k=f then (k,v)::r else (k,x)::putF f v r) from rfl]
  by_cases hk:k=f
  . rw[if_pos hk]
    subst hk
    exact⟨by simp,fun g h=>by simpa using h⟩
  . rw[if_neg hk]
    refine⟨?_,fun g h=>?_⟩
    . rw[List.map_cons]
      exact List.mem_cons_of_mem _ i1
    . rw[List.map_cons] at h ⊢
      rcases List.mem_cons.mp h with e | e
      . exact List.mem_cons.mpr (.inl e)
      . exact List.mem_cons_of_mem _ (i2 g e)
theorem RelO.some_of {v:V}{o:Option Value}(r:RelO (some v) o):∃u,o=some u/\RelV v u:=by
 cases o with
 | none=>exact (show False from r).elim
 | some u=>exact⟨u,rfl,r⟩
theorem handed_of {v:V}{u:Value}(r:RelV v u):PySem.W.handedIn u=true:=by
 cases v with
 | non=>cases (show u=Value.none from r);rfl
 | bl b=>cases (show u=Value.bool b from r);rfl
 | int i=>obtain⟨t,e⟩:=(show ∃t,u=Value.int i t from r);cases e;rfl
 | str x=>obtain⟨t,e⟩:=(show ∃t,u=Value.str x t from r);cases e;rfl
 | byt b=>obtain⟨t,e⟩:=(show ∃t,u=Value.bytes b t from r);cases e;rfl
 | flt b=>obtain⟨t,e⟩:=(show ∃t,u=Value.float b t from r);cases e;rfl
 | ref a=>cases (show u=Value.ref a from r);rfl
 | ty n=>cases (show u=Value.type n from r);rfl
section
variable {P:Program}{w:World}{H H':Hp}{h h':Heap}{a C dx:Addr}{fs fs':List (Str×V)}
theorem ins_get (hok:HOk P w H h)(e:H a=some (.ins C dx fs)):∃mA,ObjM h a dx C mA/\(∀f,RelO (fs.lookup f) (mA f))/\PySem.Within mA (fs.map (·.1))/\fs.length<=1000/\H dx=some (.own a):=by
 obtain⟨d,z,ne,ob,mA,n,r,q⟩:=(show ObjOk P w H h a (.ins C dx fs) from hok a _ e)
 exact⟨mA,⟨ob,n,ne⟩,r,q,z,d⟩
end
structure Cls (K:PySem.W.Frag)(C:Addr):Prop where
 pg:PySem.W.plainGet K C Str.empty=true
 hd:PySem.W.hasDictIn K C=true
 po:PySem.W.plainOver K C=true
 sa:PySem.W.findIn K (.ref C) "__setattr__" = some (some (.builtin "object.__setattr__"))
theorem Cls.get {K:PySem.W.Frag}{C:Addr}(c:Cls K C)(f:Str):PySem.W.plainGet K C f=true:=c.pg
section
variable {X:Cx}{pins:List (Addr×Obj)}{σ:St}{H:Hp}{s:Shared}{a C dx:Addr}{fs:List (Str×V)}{f:Str}{v:V}{A:Around}{E:Value->Shared->Prop}
theorem attr_of {prog:Program}{w:World}{env:Env}{e:Expr}{f:Str}{pos:Pos}{s:Shared}{Q:Value->Shared->Prop}(hb:attributeBase e f env (eval e env)=eval e env)
 (h:wpAny (model prog w) A (eval e env) (fun o s₁=>wpAny (model prog w) A (getAttr o f true) Q E s₁) E s):wpAny (model prog w) A (eval (.Attribute e f pos) env) Q E s:=
 Attribute_any_ h (by rw[arm_eval_Attribute,hb])
end
section
variable {X:Cx}{o e value:Expr}{f:Str}{pos pos' tpos:Pos}{ta tv:TE}
end
section
variable {X:Cx}{pins:List (Addr×Obj)}{σ:St}{H:Hp}{s:Shared}{A:Around}{E:Value->Shared->Prop}{Q:Value->Shared->Prop}{c:Value}{b:Bool}
inductive TyOf (K:PySem.W.Frag)(H:Hp):V->Value->Prop where
 | non:TyOf K H .non (.type "NoneType")
 | bl (x:Bool):TyOf K H (.bl x) (.type "bool")
 | int (i:Int):TyOf K H (.int i) (.type "int")
 | str (x:Str):TyOf K H (.str x) (.type "str")
 | flt (x:UInt64):TyOf K H (.flt x) (.type "float")
 | lst {a:Addr}{xs:List V}(e:H a=some (.lst xs)):TyOf K H (.ref a) (.type "list")
 | frz {a:Addr}{o:Obj}{xs:List V}(e:H a=some (.frz o (.lst xs))):TyOf K H (.ref a) (.type "list")
 | tup {a:Addr}{xs:List V}(e:H a=some (.tup xs)):TyOf K H (.ref a) (.type "tuple")
 | dK {a:Addr}{kvs:List (Key×V)}(e:H a=some (.dK kvs)):TyOf K H (.ref a) (.type "dict")
 | dT {a:Addr}{kvs:List (List Key×V)}(e:H a=some (.dT kvs)):TyOf K H (.ref a) (.type "dict")
 | ins {a C dx:Addr}{fs:List (Str×V)}(e:H a=some (.ins C dx fs))(cl:Cls K C)(ha:PySem.W.findIn K (.ref C) "__class__" = some (some (.builtin "object.__class__")))
  (hn:PySem.W.specialIn K (.builtin "object.__class__") "__get__" = some (some (.builtin "getset_descriptor.__get__"))) (htk:PySem.W.takesIn K (.builtin "object.__class__")=some true)
  (hm:PySem.W.mroIn K C (.type "object")=some true):TyOf K H (.ref a) (.ref C)
theorem isinst_ok {x:V}{u t:Value}(I:Inv X pins σ H s)(rx:RelV x u)(ty:TyOf X.K H x t)(e:PySem.W.kitOne X.K t c=some b)(h:∀tk,Q (.bool b) { s with toks:=tk }) :
 wpAny (model X.prog X.w) A (call (.builtin "isinstance") [u,c]) Q E s:=by
 cases ty with
 | non=>cases (show u=Value.none from rx);exact PySem.W.kia_one PySem.W.kitx_none I.kIn True.intro e (fun z=>nomatch z) h
 | bl y=>cases (show u=Value.bool y from rx);exact PySem.W.kia_one PySem.W.kitx_bool I.kIn True.intro e (fun z=>nomatch z) h
 | int i=>obtain⟨t,q⟩:=(show ∃t,u=Value.int i t from rx);cases q;exact PySem.W.kia_one PySem.W.kitx_int I.kIn True.intro e (fun z=>nomatch z) h
 | str y=>obtain⟨t,q⟩:=(show ∃t,u=Value.str y t from rx);cases q;exact PySem.W.kia_one PySem.W.kitx_str I.kIn True.intro e (fun z=>nomatch z) h
 | flt y=>obtain⟨t,q⟩:=(show ∃t,u=Value.float y t from rx);cases q;exact PySem.W.kia_one PySem.W.kitx_float I.kIn True.intro e (fun z=>nomatch z) h
 | @lst a xs ea=>
  cases (show u=Value.ref a from rx)
  obtain⟨_,_,n,_,h1⟩:=(show ObjOk X.prog X.w H s.heap a (.lst xs) from I.hok a _ ea)
  exact PySem.W.kia_one PySem.W.kitx_list I.kIn ⟨_,h1,rfl⟩ e (fun z=>nomatch z) h
 | @frz a ob xs ea=>
  cases (show u=Value.ref a from rx)
  obtain⟨_,_,_,n,_,h1⟩:=(show ObjOk X.prog X.w H s.heap a (.frz ob (.lst xs)) from I.hok a _ ea)
  exact PySem.W.kia_one PySem.W.kitx_list I.kIn ⟨_,h1,rfl⟩ e (fun z=>nomatch z) h
 | @tup a xs ea=>
  cases (show u=Value.ref a from rx)
  obtain⟨_,_,_,p⟩:=(show ObjOk X.prog X.w H s.heap a (.tup xs) from I.hok a _ ea)
  obtain⟨o,h1,h2,_⟩:=p
  exact PySem.W.kia_one PySem.W.kitx_tuple I.kIn ⟨o,h1,h2⟩ e (fun z=>nomatch z) h
 | @dK a kvs ea=>
  cases (show u=Value.ref a from rx)
  obtain⟨_,_,vs,_,p⟩:=(show ObjOk X.prog X.w H s.heap a (.dK kvs) from I.hok a _ ea)
  obtain⟨o,es,ep,h1,h2,_⟩:=p
  exact PySem.W.kia_one PySem.W.kitx_dict I.kIn ⟨o,h1,h2.1⟩ e (fun z=>nomatch z) h
 | @dT a kvs ea=>
  cases (show u=Value.ref a from rx)
  obtain⟨_,_,xs,_,o,es,ep,h1,h2,_⟩:=(show ObjOk X.prog X.w H s.heap a (.dT kvs) from I.hok a _ ea)
  exact PySem.W.kia_one PySem.W.kitx_dict I.kIn ⟨o,h1,h2.1⟩ e (fun z=>nomatch z) h
 | @ins a C dx fs ea cl ha hn htk hm=>
  cases (show u=Value.ref a from rx)
  obtain⟨mA,O,_⟩:=ins_get I.hok ea
  obtain⟨od,J,_⟩:=O.look
  exact PySem.W.kia_one (PySem.W.kitx_own (cl.get _) cl.hd ha hn htk hm) I.kIn J e (fun z=>nomatch z) h
end
end L2
namespace L2
open PySem PySem.Spec PyProof.Rows
structure Room (k:Nat)(A:Around):Prop where
 hd:A.handled=none
 dp:A.depth+3*k+5<recursionLimit
 un:A.units+16*k+200<cLine
 gd:A.guards=some []
theorem Room.mono {j k:Nat}{A:Around}(r:Room k A)(h:j<=k):Room j A:=⟨r.hd,by have:=r.dp;omega,by have:=r.un;omega,r.gd⟩
theorem Room.deeper {k:Nat}{A:Around}(r:Room (k+1) A)(env:Env):Room k (A.deeper env):=
 ⟨r.hd,by have:=r.dp;show A.depth+1+3*k+5<_;omega,by have:=r.un;show A.units+3+16*k+200<_;omega,r.gd⟩
theorem make_depth {A:Around}{C:Addr}{us:List Value}{kw:List (Str×Value)}:(A.under (.builtin "type.__call__" ⟨.ref C::us,kw⟩)).depth=A.depth+1:=by
 first | rfl | simp[Around.under,Code.weight,Code.isCreation,Code.isGuard,Code.isCaller,Code.frames,Code.isFrame,guardIds]
theorem make_units {A:Around}{C:Addr}{us:List Value}{kw:List (Str×Value)}:(A.under (.builtin "type.__call__" ⟨.ref C::us,kw⟩)).units=A.units+1:=by
 first | rfl | simp[Around.under,Code.cUnits,Code.frames,Code.isFrame]
theorem Room.make {k:Nat}{A:Around}(r:Room (k+1) A)(C:Addr)(us:List Value)(kw:List (Str×Value)):Room k (A.under (.builtin "type.__call__" ⟨.ref C::us,kw⟩)):=
 ⟨r.hd,by have:=r.dp;rw[make_depth];omega,by have:=r.un;rw[make_units];omega,by first | exact r.gd | (simp[Around.under,Code.guards,Code.isGuard,guardIds,pushGuards];exact r.gd)⟩
theorem Room.depth {k:Nat}{A:Around}(r:Room k A):A.depth<recursionLimit:=by have:=r.dp;omega
theorem Room.units {k:Nat}{A:Around}(r:Room k A):A.units+64<cLine:=by have:=r.un;omega
theorem Room.units0 {k:Nat}{A:Around}(r:Room k A):A.units<cLine:=by have:=r.un;omega
noncomputable def tNil:TA:=fun _ H Q=>Q [] H
noncomputable def tCons (ta:TE)(tr:TA):TA:=fun σ H Q=>ta σ H fun x H1=>tr σ H1 fun xs H2=>Q (x::xs) H2
section
variable {X:Cx}{e:Expr}{es:List Expr}{te:TE}{t:TA}{pos:Pos}
theorem pa_nil:PA X [] tNil:=fun _ _ _ _ H Q I h=>Calls.spliced_nil ⟨[],H,I,.nil,h⟩
theorem pa_cons (ha:PE X e te)(hr:PA X es t)(hs:starEach (e::es) X.env=(false,eval e X.env)::starEach es X.env:=by rfl):PA X (e::es) (tCons te t):=by
 intro pos pins s σ H Q I h
 rw[hs]
 show wpAny _ _ (spliced ((false,eval e X.env)::backTo pos (starEach es X.env))) _ _ s
 refine Calls.spliced_cons (thn (ha pins s σ H _ I h) fun u s1 ⟨x,H1,I1,r1,q1⟩=>?_)
 exact thn (hr pos pins s1 σ H1 _ I1 q1) fun us s2 ⟨xs,H2,I2,r2,q2⟩=>⟨x::xs,H2,I2,.cons r1 r2,q2⟩
noncomputable def tTup (t:TA):TE:=fun σ H Q=>t σ H fun xs H1=>xs.length<=sizeLine/\∀p,H1 p=none->Q (.ref p) (upd H1 p (.tup xs))
noncomputable def tLst (t:TA):TE:=fun σ H Q=>t σ H fun xs H1=>xs.length<=sizeLine/\∀p,H1 p=none->Q (.ref p) (upd H1 p (.lst xs))
theorem pe_tup {x1} (h:PA X es t):PE X (.Tuple es x1 pos) (tTup t):=by
 intro pins s σ H Q I hq
 refine wpAny_Tuple_spliced (thn (h pos pins s σ H _ I hq) fun us s1 ⟨xs,H1,I1,r,z,q⟩=>⟨by rw[<-r.length];exact z,?_⟩)
 have hf:H1 s1.heap.objs.size=none:=I1.hok.fresh (Nat.le_refl _)
 refine⟨.ref s1.heap.objs.size,upd H1 s1.heap.objs.size (.tup xs),I1.laid (t':=s1.toks) (fun b u e=>Heap.get?_push_of_some _ e) (Nat.le_refl _) ?_,rfl,q _ hf⟩
 exact⟨⟨z,_,Heap.get?_push_size _ rfl,rfl⟩,us,r,⟨_,Heap.get?_push_size _ rfl,rfl,_,rfl⟩⟩
theorem pe_lst (h:PA X es t):PE X (.List es pos) (tLst t):=by
 intro pins s σ H Q I hq
 refine wpAny_List_spliced (thn (h pos pins s σ H _ I hq) fun us s1 ⟨xs,H1,I1,r,z,q⟩=>⟨by rw[<-r.length];exact z,?_⟩)
 have hf:H1 s1.heap.objs.size=none:=I1.hok.fresh (Nat.le_refl _)
 refine⟨.ref s1.heap.objs.size,upd H1 s1.heap.objs.size (.lst xs),I1.laid (t':=s1.toks) (fun b u e=>Heap.get?_push_of_some _ e) (Nat.le_refl _) ?_,rfl,q _ hf⟩
 exact⟨z,us,0,r,Heap.get?_push_size _ rfl⟩
end
noncomputable abbrev Sp:=List V->Hp->VK->XK->Prop
noncomputable abbrev CXT:=List Env->Hp->Shared->XK->Value->Shared->Prop
structure Env0 (P:Program)(w:World)(K:PySem.W.Frag)(mg:Str->Option Value)(base:Heap)(A:Around)(outer:List Env)(s:Shared)(H:Hp):Prop where
 frames:A.frames=some outer
 mod:Mod K mg base
 bs:∀b o,base.get? b=some o->s.heap.get? b=some o/\H b=none
 bsz:base.objs.size<=s.heap.objs.size
 funs:s.heap.FunFrames base outer
 frf:∀b∈frs outer,H b=none
 hok:HOk P w H s.heap
 bare:AllBare s.gens
noncomputable def CE (outer:List Env)(P:Program)(w:World)(H:Hp)(s:Shared)(Q:VK)(u:Value)(s':Shared):Prop:=
 ∃v H',s'.os=s.os/\AllBare s'.gens/\Un (frs outer) [] H H' s.heap s'.heap/\HOk P w H' s'.heap/\RelV v u/\Q v H'
noncomputable def CR (CX:CXT)(outer:List Env)(P:Program)(w:World)(H:Hp)(s:Shared)(Q:VK)(E:XK)(r:Result)(s':Shared):Prop:=
 match r with
 | .ok (.ret u)=>CE outer P w H s Q u s'
 | .ok _=>False
 | .error e=>CX outer H s E e s'
structure FnOk (P:Program)(w:World)(K:PySem.W.Frag)(mg:Str->Option Value)(base:Heap)(CX:CXT)(k:Nat)(f:Addr)(fd:FuncData)(ps:List Str)(sp:Sp):Prop where
 len:∀vs H Q E,sp vs H Q E->vs.length=ps.length
 run:∀(A:Around)(outer:List Env)(s:Shared)(H:Hp)(args:Args)(us:List Value)(vs:List V)(Q:VK)(E:XK),Room k A->Env0 P w K mg base A outer s H->BindsTo s fd args (ps.zip us)->Vals vs us->sp vs H Q E ->
  codeAny (model P w) A (.call (.ref f) args) (CR CX outer P w H s Q E) s
theorem FnOk.mono {P:Program}{w:World}{K:PySem.W.Frag}{mg:Str->Option Value}{base:Heap}{CX:CXT}{j k:Nat}{f:Addr}{fd:FuncData}{ps:List Str}{sp:Sp}(F:FnOk P w K mg base CX j f fd ps sp)(h:j<=k) :
 FnOk P w K mg base CX k f fd ps sp:=⟨F.len,fun A outer s H args us vs Q E hr=>F.run A outer s H args us vs Q E (hr.mono h)⟩
theorem Env0.make {P:Program}{w:World}{K:PySem.W.Frag}{mg:Str->Option Value}{base:Heap}{A:Around}{outer:List Env}{s:Shared}{H:Hp}(e:Env0 P w K mg base A outer s H)(C:Addr)(us:List Value)(kw:List (Str×Value)) :
 Env0 P w K mg base (A.under (.builtin "type.__call__" ⟨.ref C::us,kw⟩)) outer s H:=⟨by first | exact e.frames | (simpa [Around.under,Code.envs,Code.isFrame,pushEnvs] using e.frames),e.mod,e.bs,e.bsz,e.funs,e.frf,e.hok,e.bare⟩
section
variable {X:Cx}{pins:List (Addr×Obj)}{σ:St}{H:Hp}{s s':Shared}
theorem Inv.env0 (I:Inv X pins σ H s):Env0 X.prog X.w X.K X.mg X.base X.A X.stack s H:=
 ⟨I.ok.frames,I.ok.mod,I.bs,Nat.le_trans I.ok.bsz I.sz,I.stack,I.stkFree,I.hok,I.bare⟩
theorem Inv.after {Q:VK}{u:Value}(I:Inv X pins σ H s)(h:CE X.stack X.prog X.w H s Q u s'):EP X pins σ Q u s':=by
 obtain⟨v,H',os,bare,un,hok,r,q⟩:=h
 obtain⟨hh,g,d,t,os'⟩:=s'
 obtain rfl:os'=s.os:=os
 exact⟨v,H',I.call (h':=hh) (g':=g) (d':=d) (t':=t) (ch:=[]) un hok bare (fun b z=>absurd z (by simp)),r,q⟩
end
noncomputable def tCall (sp:Sp)(dvs:List V)(E:XK)(t:TA):TE:=fun σ H Q=>t σ H fun vs H1=>sp (vs++dvs) H1 Q E
noncomputable def Binds (K:PySem.W.Frag)(fd:FuncData)(ps:List Str)(ds:List Value):Prop:=
 ∀(s:Shared)(us:List Value),K.In s.heap->(us++ds).length=ps.length->BindsTo s fd ⟨us,[]⟩ (ps.zip (us++ds))
theorem Binds.all {K:PySem.W.Frag}{fd:FuncData}{ps:List Str}(h:∀us:List Value,us.length=ps.length->bindArgs fd ⟨us,[]⟩=pure (ps.zip us)):Binds K fd ps []:=fun s us _ hl=>by
 rw[List.append_nil] at hl ⊢
 exact .of_eq (h us hl)
noncomputable def Passes (CX:CXT)(X:Cx)(E:XK):Prop:=∀(pins:List (Addr×Obj))(σ:St)(H:Hp)(s:Shared)(e:Value)(s':Shared),Inv X pins σ H s->CX X.stack H s E e s'->X.xe e s'
section
variable {X:Cx}{CX:CXT}{k:Nat}{f C:Addr}{fd:FuncData}{ps:List Str}{sp:Sp}{dvs:List V}{ds:List Value}{E:XK}{x m:Str}{p pos apos:Pos}{e o:Expr}{es:List Expr}{ta:TE}{t:TA}
theorem run_fn {pins:List (Addr×Obj)}{σ:St}{H:Hp}{s:Shared}{Q:VK}{us:List Value}{vs:List V}(F:FnOk X.prog X.w X.K X.mg X.base CX k f fd ps sp)(hr:Room k X.A)(hb:Binds X.K fd ps ds)(hd:Vals dvs ds)(hx:Passes CX X E)
 (I:Inv X pins σ H s)(r:Vals vs us)(h:sp (vs++dvs) H Q E):wpAny (model X.prog X.w) X.A (call (.ref f) us) (EP X pins σ Q) X.xe s:=by
 have r2:Vals (vs++dvs) (us++ds):=r.append hd
 have hl:(us++ds).length=ps.length:=by rw[<-r2.length];exact F.len _ _ _ _ h
 refine wpAny_call (codeAny_mono (F.run X.A X.stack s H ⟨us,[]⟩ (us++ds) (vs++dvs) Q E hr I.env0 (hb s us I.kIn hl) r2 h) fun r s' hq=>?_)
 cases r with
 | error e=>exact hx pins σ H s e s' I hq
 | ok fl=>
  cases fl with
  | ret u=>exact I.after hq
  | next=>exact False.elim hq
  | brk=>exact False.elim hq
  | cont=>exact False.elim hq
theorem pe_call (F:FnOk X.prog X.w X.K X.mg X.base CX k f fd ps sp)(hr:Room k X.A)(hg:Gl X x)(hm:X.mg x=some (.ref f))(hk:PySem.W.keepIn X.K (.ref f)=true)(hb:Binds X.K fd ps ds)(hd:Vals dvs ds)(hx:Passes CX X E)
 (ha:PA X (e::es) t)(hdb:(x==("__debug__" : Str))=false:=by decide) (he:starEach (e::es) X.env=(false,eval e X.env)::starEach es X.env:=by rfl)(hpl:(backTo pos (starEach es X.env)).any (·.1)=false:=by rfl) :
 PE X (.Call (.Name x p) (e::es) [] pos) (tCall sp dvs E t):=by
 intro pins s σ H Q I h
 refine wpAny_Call_Name_kw (ld_glob I hg hm ?_ hdb)
 refine PySem.W.callWith_K (h₀:=X.base) I.ok.mod.kin hk (thn (ha pos pins s σ H _ I h) fun us s1 ⟨vs,H1,I1,r,q⟩=>⟨I1.kIn,?_⟩) he hpl
 exact run_fn F hr hb hd hx I1 r q
end
section
variable {X:Cx}{CX:CXT}{k:Nat}{f C:Addr}{fd:FuncData}{ps ks:List Str}{sp:Sp}{E:XK}{x m:Str}{p pos apos kpos:Pos}{e o:Expr}{es:List Expr}{kws:List Keyword}{te ta:TE}{t tk:TA}{nm:Option Str}
variable {g:List Value->List Value->List Value}{gV:List V->List V->List V}
end
structure FnScope (N P:List Str)(sc:Scope):Prop where
 kind:sc.kind = .function
 co:sc.isCoroutine=false
 gen:sc.isGenerator=false
 nd:N.Nodup
 pre:N.take P.length=P
 par:∀x∈P,sc.names.lookup x=some .local\/sc.names.lookup x=some .cell
 nofree:∀y∈sc.names,y.2 ≠ .free
theorem bindL_out {kindOf:Str->Option NameKind}{x:Str}:∀{binds:List (Str×Value)}{m:Str->Option Value},(∀v,(x,v)∉binds)->bindL kindOf binds m x=m x
 | [],_,_=>rfl
 | (n,v)::r,m,h=>by
  unfold bindL
  rw[bindL_out fun w hw=>h w (List.mem_cons_of_mem _ hw)]
  split
  . have:x≠n:=by rintro rfl;exact h v List.mem_cons_self
    simp[this]
  . rfl
theorem bindC_out {kindOf:Str->Option NameKind}{x:Str}:∀{binds:List (Str×Value)}{m:Str->Option Value},(∀v,(x,v)∉binds)->bindC kindOf binds m x=m x
 | [],_,_=>rfl
 | (n,v)::r,m,h=>by
  unfold bindC
  rw[bindC_out fun w hw=>h w (List.mem_cons_of_mem _ hw)]
  split
  . rfl
  . have:x≠n:=by rintro rfl;exact h v List.mem_cons_self
    simp[this]
theorem bindL_get {kindOf:Str->Option NameKind}{x:Str}{v:Value}:∀{P:List Str}{vs:List Value}{i:Nat}{m:Str->Option Value},P.Nodup->P[i]? = some x->vs[i]? = some v->kindOf x=some .local ->
 bindL kindOf (P.zip vs) m x=some v
 | [],_,_,_,_,h,_,_=>by simp at h
 | _::_,[],_,_,_,_,h,_=>by simp at h
 | p::P,w::vs,0,m,nd,h1,h2,hk=>by
  simp at h1 h2;subst h1;subst h2
  show bindL kindOf ((p,w)::P.zip vs) m p=_
  unfold bindL
  rw[bindL_out fun v hv=>(List.nodup_cons.mp nd).1 (List.of_mem_zip hv).1,if_pos hk]
  simp
 | p::P,w::vs,i+1,m,nd,h1,h2,hk=>by
  show bindL kindOf ((p,w)::P.zip vs) m x=_
  unfold bindL
  exact bindL_get (i:=i) (List.nodup_cons.mp nd).2 (by simpa using h1) (by simpa using h2) hk
theorem bindC_get {kindOf:Str->Option NameKind}{x:Str}{v:Value}:∀{P:List Str}{vs:List Value}{i:Nat}{m:Str->Option Value},P.Nodup->P[i]? = some x->vs[i]? = some v->kindOf x≠some .local ->
 bindC kindOf (P.zip vs) m x=some v
 | [],_,_,_,_,h,_,_=>by simp at h
 | _::_,[],_,_,_,_,h,_=>by simp at h
 | p::P,w::vs,0,m,nd,h1,h2,hk=>by
  simp at h1 h2;subst h1;subst h2
  show bindC kindOf ((p,w)::P.zip vs) m p=_
  unfold bindC
  rw[bindC_out fun v hv=>(List.nodup_cons.mp nd).1 (List.of_mem_zip hv).1,if_neg hk]
  simp
 | p::P,w::vs,i+1,m,nd,h1,h2,hk=>by
  show bindC kindOf ((p,w)::P.zip vs) m x=_
  unfold bindC
  exact bindC_get (i:=i) (List.nodup_cons.mp nd).2 (by simpa using h1) (by simpa using h2) hk
noncomputable def start (N:List Str)(vs:List V):St:=vs.map some++List.replicate (N.length-vs.length) none
noncomputable def cxOf (CX:CXT)(P:Program)(w:World)(K:PySem.W.Frag)(mg:Str->Option Value)(base:Heap)(N:List Str)(qual:Str)(scope:Scope)(f:Addr)(cd:Value)(A:Around)(outer:List Env)(s:Shared)(H:Hp)(E:XK):Cx where
 prog:=P
 w:=w
 K:=K
 mg:=mg
 base:=base
 A:=A.deeper (envOfC qual scope s.heap.objs.size f cd)
 N:=N
 s₀:=s
 H₀:=H
 env:=envOfC qual scope s.heap.objs.size f cd
 outer:=outer
 stack:=envOfC qual scope s.heap.objs.size f cd::outer
 ex:=[]
 calm:=true
 fn:=fun _=>true
 pn:=[]
 xe:=fun e s'=>wpAny (model P w) (A.deeper (envOfC qual scope s.heap.objs.size f cd)) (leaving (envOfC qual scope s.heap.objs.size f cd) e) (fun _ s''=>CX outer H s E e s'') (fun e' s''=>CX outer H s E e' s'') s'
theorem cell_has {sc:Scope}{n:Nat}{x:Str}(h:sc.names.lookup x=some .cell):∃c,(cellsFrom n sc.names []).lookup x=some c:=by
 have q:=PySem.W.cellsFrom_some sc.names n [] (.inl h)
 exact Option.isSome_iff_exists.mp q
theorem inv_start {CX:CXT}{P:Program}{w:World}{K:PySem.W.Frag}{mg:Str->Option Value}{base:Heap}{N ps:List Str}{qual:Str}{scope:Scope}{f:Addr}{cd:Value}{A:Around}{outer:List Env}{s s1:Shared}{H:Hp}{E:XK}{us:List Value}{vs:List V}
 (S:FnScope N ps scope)(hd:A.handled=none)(e0:Env0 P w K mg base A outer s H)(hl:vs.length=ps.length)(r:Vals vs us)
 (x:InCallC s s.heap.objs.size (bindL (envOfC qual scope s.heap.objs.size f cd).kindOf (ps.zip us) fun _=>none) (cellsFrom (s.heap.objs.size+1) scope.names []) (bindC (envOfC qual scope s.heap.objs.size f cd).kindOf (ps.zip us) fun _=>none) s1) :
 Inv (cxOf CX P w K mg base N qual scope f cd A outer s H E) [] (start N vs) H s1:=by
 have hpl:ps.length<=N.length:=by have:=congrArg List.length S.pre;rw[List.length_take] at this;omega
 obtain⟨h1,tk,rfl,hk⟩:=x.done
 have noA:∀b:Addr,b∉(cxOf CX P w K mg base N qual scope f cd A outer s H E).ex:=fun b z=>absurd (show b∈([]:List Addr) from z) (by simp)
 refine⟨⟨e0.mod,S.kind,rfl,rfl,Nat.le_refl _,fun y z c h1 h2=>?_,fun y hy=>?_,fun y c _ h=>?_,fun _=>hd,Around.frames_deeper e0.frames,.inr ⟨rfl,rfl⟩,fun b z=>absurd z (noA b),e0.bs,e0.bsz,fun b _ _=>noA b,fun b z=>absurd z (noA b),e0.funs,e0.frf⟩,
  rfl,e0.bare,Un.kept hk,⟨_,x.toInCall.ns,fun i y v h1 h2 h3=>?_⟩,fun y c h=>⟨_,x.cell y c h⟩,e0.hok.fresh (Nat.le_refl _),fun y c h=>?_,fun p hp=>absurd (show p∈([]:List (Addr×Obj)) from hp) (by simp),e0.hok.kept hk,?_⟩
 . exact name_of_addr x.apart (PySem.mem_of_lookup h1) (PySem.mem_of_lookup h2)
 . have hy:scope.names.lookup y=some .cell\/scope.names.lookup y=some .free:=hy
   rcases hy with hy | hy
   . exact cell_has hy
   . exact absurd rfl (S.nofree _ (PySem.mem_of_lookup hy))
 . exact Nat.le_of_lt (x.above y c (PySem.mem_of_lookup h))
 . have hi:i<vs.length:=by
    unfold start at h2
    by_cases hi:i<vs.length
    . exact hi
    . rw[List.getElem?_append_right (by simpa using hi)] at h2
      rw[List.getElem?_replicate] at h2
      split at h2 <;> cases h2
   have ha:vs[i]? = some v:=by
    unfold start at h2
    rw[List.getElem?_append_left (by simpa using hi),List.getElem?_map] at h2
    cases e:vs[i]? with
    | none=>rw[e] at h2;cases h2
    | some a=>rw[e] at h2;cases h2;rfl
   obtain⟨u,hu,rv⟩:=r.get ha
   have hp:ps[i]? = some y:=by
    rw[<-S.pre,List.getElem?_take_of_lt (by omega)];exact h1
   have ndP:ps.Nodup:=by rw[<-S.pre];exact S.nd.sublist (List.take_sublist _ _)
   refine⟨u,rv,?_⟩
   rcases S.par y (List.mem_of_getElem? hp) with k | k
   . exact .inl ⟨k,bindL_get ndP hp hu k⟩
   . obtain⟨c,e⟩:=cell_has (n:=s.heap.objs.size+1) k
     refine .inr ⟨.inl k,c,e,?_⟩
     have q:=x.cell y c e
     rw[bindC_get ndP hp hu (by show scope.names.lookup y≠_;rw[k];decide)] at q
     exact q
 . exact e0.hok.fresh (Nat.le_of_lt (x.above y c (PySem.mem_of_lookup h)))
 . unfold start
   show _=N.length
   rw[List.length_append,List.length_map,List.length_replicate]
   omega
theorem fn_of {CX:CXT}{P:Program}{w:World}{K:PySem.W.Frag}{mg:Str->Option Value}{base:Heap}{k:Nat}{f:Addr}{name qual:Str}{params:Arguments}{body:List Stmt}{scope:Scope}{dV kV doc pm cdv ct oc:Value}{an od:Option Addr}
 {osl:Array (Option Value)}{N ps:List Str}{sp:Sp}(lk:K.lookup f=some ⟨oc,od,.func (PySem.W.fnOf name qual params body scope dV kV doc pm an cdv ct),osl⟩)(hcd:PySem.W.codeIn K cdv qual=true)(S:FnScope N ps scope)
 (len:∀vs H Q E,sp vs H Q E->vs.length=ps.length)
 (hbody:∀(A:Around)(outer:List Env)(s:Shared)(H:Hp)(vs:List V)(Q:VK)(E:XK),Room k (A.deeper (envOfC qual scope s.heap.objs.size f cdv))->sp vs H Q E ->
  ∃t,PSs (cxOf CX P w K mg base N qual scope f cdv A outer s H E) body t/\t { nx:=fun _ H'=>Q .non H',rt:=Q } (start N vs) H) :
 FnOk P w K mg base CX (k+1) f (PySem.W.fnOf name qual params body scope dV kV doc pm an cdv ct) ps sp:=by
 refine⟨len,fun A outer s H args us vs Q E hr e0 hb r hsp=>?_⟩
 have hl:=len _ _ _ _ hsp
 have KX:K.In s.heap:=e0.mod.kin.keeps fun b o e=>(e0.bs b o e).1
 have lim:s.heap.NoLimit:=e0.mod.nolimit.keeps fun b o e=>(e0.bs b o e).1
 have hkind:∀y∈ps.zip us,scope.names.lookup y.1=some .local\/(scope.names.lookup y.1=some .cell/\((cellsFrom (s.heap.objs.size+1) scope.names []).lookup y.1).isSome=true):=fun ⟨n,v⟩ hy=>by
  rcases S.par n (List.of_mem_zip hy).1 with q | q
  . exact .inl q
  . exact .inr ⟨q,PySem.W.cellsFrom_some _ _ _ (.inl q)⟩
 refine codeAny_call_function hr.depth (KX _ _ lk) rfl S.co S.gen rfl (PySem.W.codeRec_of KX hcd) (hb _ _ _ _ ?_)
 refine wpAny_newFunctionEnv_cells S.kind hkind fun env he s1 x=>?_
 subst he
 refine⟨lim.keeps x.toInCall.keep,codeAny_func ?_⟩
 obtain⟨t,ht,hq⟩:=hbody A outer s H vs Q E (hr.deeper _) hsp
 have I:Inv (cxOf CX P w K mg base N qual scope f cdv A outer s H E) [] (start N vs) H s1:=inv_start S hr.hd e0 hl r x
 refine wpAny_mono (ht [] s1 (start N vs) H _ I hq) (fun fl s' hs=>?_) fun e s' hs=>hs
 have fin:∀{σ':St}{H':Hp}{v:V}{u:Value},Inv (cxOf CX P w K mg base N qual scope f cdv A outer s H E) [] σ' H' s'->RelV v u->Q v H'->CE outer P w H s Q u s':=
  fun {σ' H' v u} J rv q=>⟨v,H',J.os,J.bare,J.base,J.hok,rv,q⟩
 cases fl with
 | ret u=>
  obtain⟨v,σ',H',J,rv,q⟩:=hs
  exact fin J rv q
 | next=>
  obtain⟨σ',H',J,q⟩:=hs
  exact fin (v:=V.non) (u:=Value.none) J rfl q
 | brk=>
  obtain⟨_,_,_,q⟩:=hs
  exact False.elim q
 | cont=>
  obtain⟨_,_,_,q⟩:=hs
  exact False.elim q
end L2
namespace L2
open PySem PySem.Spec PyProof.Rows
section
variable {X:Cx}{x:Str}{p pos:Pos}{e:Expr}{es:List Expr}{t:TA}{id T:String}{r:List V->Hp->VK->Prop}
noncomputable def tCB (r:List V->Hp->VK->Prop)(t:TA):TE:=fun σ H Q=>t σ H fun vs H1=>r vs H1 Q
theorem pe_callB (hc:CallR X (.builtin id) r)(hg:Gl X x)(hm:X.mg x=none)(hv:bootBuiltins x=some (.builtin id))(ha:PA X (e::es) t)(hn:x ≠ "__name__" := by decide) (hdb:(x==("__debug__" : Str))=false:=by decide)
 (he:starEach (e::es) X.env=(false,eval e X.env)::starEach es X.env:=by rfl)(hpl:(backTo pos (starEach es X.env)).any (·.1)=false:=by rfl):PE X (.Call (.Name x p) (e::es) [] pos) (tCB r t):=by
 intro pins s σ H Q I h
 refine wpAny_Call_Name_kw (ld_blt I hg hm hv ?_ hn hdb)
 exact PyProof.Rows.callWith_builtin1 (thn (ha pos pins s σ H _ I h) fun us s1 ⟨vs,H1,I1,r1,q1⟩=>hc pins s1 σ H1 vs us Q I1 r1 q1) he hpl
theorem pe_callTy (hc:CallR X (.type T) r)(hg:Gl X x)(hm:X.mg x=none)(hv:bootBuiltins x=some (.type T))(ha:PA X (e::es) t)(hn:x ≠ "__name__" := by decide) (hdb:(x==("__debug__" : Str))=false:=by decide)
 (he:starEach (e::es) X.env=(false,eval e X.env)::starEach es X.env:=by rfl)(hpl:(backTo pos (starEach es X.env)).any (·.1)=false:=by rfl):PE X (.Call (.Name x p) (e::es) [] pos) (tCB r t):=by
 intro pins s σ H Q I h
 refine wpAny_Call_Name_kw (ld_blt I hg hm hv ?_ hn hdb)
 exact PyProof.Rows.callWith_type1 (thn (ha pos pins s σ H _ I h) fun us s1 ⟨vs,H1,I1,r1,q1⟩=>hc pins s1 σ H1 vs us Q I1 r1 q1) he hpl
end
end L2
namespace L2
open PySem PySem.Spec PyProof.Rows
section
variable {κ:Type} [DecidableEq κ]
end
section
variable {P:Program}{w:World}{H:Hp}{h:Heap}{a:Addr}
end
section
variable {X:Cx}{pins:List (Addr×Obj)}{σ:St}{H:Hp}{s:Shared}{a:Addr}{y v:V}{u r:Value}{o:Option V}{A:Around}{E:Value->Shared->Prop}
end
section
variable {X:Cx}{pins:List (Addr×Obj)}{σ:St}{H:Hp}{s:Shared}{a:Addr}{kvs:List (Key×V)}{k:Key}{u:Value}{A:Around}{E:Value->Shared->Prop}
end
section
variable {X:Cx}{o i e value:Expr}{pos pos' tpos:Pos}{td ty tv:TE}
end
section
variable {X:Cx}{pos:Pos}
end
section
variable {X:Cx}{pins:List (Addr×Obj)}{σ:St}{H:Hp}{s:Shared}{a:Addr}{y d:V}{u r:Value}{o:Option V}{A:Around}{E:Value->Shared->Prop}
end
section
variable {X:Cx}{o e f:Expr}{apos cpos:Pos}{td ty tx:TE}
end
section
variable {X:Cx}{pins:List (Addr×Obj)}{σ:St}{H:Hp}{s:Shared}{a:Addr}{kvs:List (Key×V)}{A:Around}{E:Value->Shared->Prop}
end
section
variable {X:Cx}{pins:List (Addr×Obj)}{σ:St}{H:Hp}{s:Shared}{a:Addr}{y:V}{u:Value}{A:Around}{E:Value->Shared->Prop}
end
end L2
namespace HT
open PySem PyProof.Rows
section
open PySem.SeqAt
open PySem.AutoSeq1 (wpAny_loadPart')
open PySem.MeetsSeq PySem.MeetsSeq2 PySem.MeetsSeq3
end
section
variable {prog:Program}{w:World}{A:Around}{E:Value->Shared->Prop}{s:Shared}
noncomputable def sIx (n d:Nat):Option Int->Nat
 | none=>d
 | some v=>if v<0 then (v+(n:Int)).toNat else min v.toNat n
theorem sIx_none (n d:Nat):sIx n d none=d:=rfl
theorem sIx_nat (n d k:Nat):sIx n d (some (k:Int))=min k n:=by
 show (if (k:Int)<0 then ((k:Int)+(n:Int)).toNat else min (k:Int).toNat n)=min k n
 rw[if_neg (by omega),Int.toNat_natCast]
end
end HT
namespace L2
open PySem PySem.Spec PyProof.Rows
noncomputable abbrev TO:=St->Hp->(Option Int->Hp->Prop)->Prop
noncomputable def PO (X:Cx)(e:Option Expr)(t:TO):Prop:=
 ∀(pins:List (Addr×Obj))(s:Shared)(σ:St)(H:Hp)(Q:Option Int->Hp->Prop),Inv X pins σ H s->t σ H Q ->
  wpAny (model X.prog X.w) X.A (evalPart e X.env) (fun u s'=>∃o H',Inv X pins σ H' s'/\IsPart u o/\Q o H') X.xe s
noncomputable def tNoPart:TO:=fun _ H Q=>Q none H
noncomputable def tPart (t:TE):TO:=fun σ H Q=>t σ H fun x H1=>∃i,x = .int i/\Q (some i) H1
theorem intsAre_of {ns:List Int}:∀{us:List Value},Vals (ns.map V.int) us->IntsAre us ns:=by
 induction ns with
 | nil=>intro us r;rw[List.map_nil] at r;cases r;exact .nil
 | cons n ns ih=>
  intro us r
  rw[List.map_cons] at r
  cases r with
  | cons r1 r2=>
   obtain⟨t,e⟩:=r1
   subst e
   exact .cons n t (ih r2)
section
variable {X:Cx}{e:Expr}{te:TE}{lo hi:Option Expr}{tl th:TO}{pos p2:Pos}
theorem po_none:PO X none tNoPart:=by
 intro pins s σ H Q I h
 rw[evalPart_none]
 exact wpAny_pure ⟨none,H,I,.none,h⟩
theorem po_some (h:PE X e te):PO X (some e) (tPart te):=by
 intro pins s σ H Q I hw
 rw[evalPart_some]
 refine thn (h pins s σ H _ I hw) fun u s1 ⟨x,H1,I1,r1,q1⟩=>?_
 obtain⟨i,rfl,q⟩:=q1
 obtain⟨t,rfl⟩:=r1
 exact⟨some i,H1,I1,.int i t,q⟩
noncomputable def SlR (X:Cx)(r:V->Option Int->Option Int->Hp->VK->Prop):Prop:=
 ∀(pins:List (Addr×Obj))(s:Shared)(σ:St)(H:Hp)(x:V)(v vl vu:Value)(lo hi:Option Int)(sl:Addr)(Q:VK),Inv X pins σ H s->RelV x v->s.heap.IsSliceOf sl vl vu .none->IsPart vl lo->IsPart vu hi->r x lo hi H Q ->
  ∃T id,typeLookup (.type T) "__getitem__" = pure (some (.builtin id))/\s.TypeIs v T/\wpAny (model X.prog X.w) X.A (getItem v (.ref sl)) (EP X pins σ Q) X.xe s
noncomputable def tSl (r:V->Option Int->Option Int->Hp->VK->Prop)(te:TE)(tl th:TO):TE:=fun σ H Q=>te σ H fun x H1=>tl σ H1 fun l H2=>th σ H2 fun u H3=>r x l u H3 Q
theorem pe_slice {r:V->Option Int->Option Int->Hp->VK->Prop}(hr:SlR X r)(he:PE X e te)(hl:PO X lo tl)(hu:PO X hi th):PE X (.Subscript e (.Slice lo hi none p2) pos) (tSl r te tl th):=by
 intro pins s σ H Q I h
 refine Subscript_ (thn (he pins s σ H _ I h) fun v s1 ⟨x,H1,I1,r1,q1⟩=>?_)
 refine wpAny_Slice (thn (hl pins s1 σ H1 _ I1 q1) fun vl s2 ⟨l,H2,I2,pl,q2⟩=>thn (hu pins s2 σ H2 _ I2 q2) fun vu s3 ⟨u,H3,I3,pu,q3⟩=>?_)
 rw[evalPart_none]
 refine wpAny_pure ?_
 have I4:Inv X pins σ H3 { s3 with heap:=s3.heap.push { cls:=.type "slice",data:=.fields #[vl,vu,.none] } }:=I3.kept (t':=s3.toks) fun b ob q=>Heap.get?_push_of_some _ q
 obtain⟨T,id,hT,ht,hg⟩:=hr pins { s3 with heap:=s3.heap.push { cls:=.type "slice",data:=.fields #[vl,vu,.none] } } σ H3 x v vl vu l u s3.heap.objs.size Q I4 r1 (Heap.IsSliceOf.new ..) pl pu q3
 show wpAny (model X.prog X.w) X.A (subscriptTail e (.Slice lo hi none p2) v (.ref s3.heap.objs.size)) (EP X pins σ Q) X.xe { s3 with heap:=s3.heap.push { cls:=.type "slice",data:=.fields #[vl,vu,.none] } }
 exact tail_any (ops:=[.ref s3.heap.objs.size,v]) ht hT hg (by with_unfolding_all rfl)
noncomputable def cutV (xs:List V)(lo hi:Option Int):List V:=(xs.drop (HT.sIx xs.length 0 lo)).take (HT.sIx xs.length xs.length hi-HT.sIx xs.length 0 lo)
theorem cutV_length (xs:List V)(lo hi:Option Int):(cutV xs lo hi).length<=xs.length:=by
 unfold cutV
 rw[List.length_take,List.length_drop]
 omega
end
end L2
namespace L2
open PySem PySem.Spec PyProof.Rows
noncomputable def ixN (n:Nat)(i:Int):Option Nat:=if 0<=i then (if i<n then some i.toNat else none) else if -(n:Int)<=i then some (i+n).toNat else none
noncomputable def atI {α:Type}(xs:List α)(i:Int):Option α:=(ixN xs.length i).bind fun j=>xs[j]?
theorem ixN_seq {n:Nat}{i:Int}{j:Nat}(h:ixN n i=some j):seqIndex? i n=some j/\j<n /\ -(n:Int)<=i/\i<n:=by
 unfold ixN at h
 by_cases h0:0<=i
 . rw[if_pos h0] at h
   by_cases h1:i<n
   . rw[if_pos h1] at h
     have e:i.toNat=j:=Option.some.inj h
     exact⟨by rw[seqIndex_of h0 h1,e],by omega,by omega,h1⟩
   . rw[if_neg h1] at h;cases h
 . rw[if_neg h0] at h
   by_cases h1 : -(n:Int)<=i
   . rw[if_pos h1] at h
     have e:(i+n).toNat=j:=Option.some.inj h
     exact⟨by rw[seqIndex_neg (by omega) h1,e],by omega,h1,by omega⟩
   . rw[if_neg h1] at h;cases h
theorem atI_get {α:Type}{xs:List α}{i:Int}{v:α}(h:atI xs i=some v):∃j,seqIndex? i xs.length=some j/\xs[j]? = some v/\j<xs.length /\ -(xs.length:Int)<=i/\i<xs.length:=by
 unfold atI at h
 cases e:ixN xs.length i with
 | none=>rw[e] at h;cases h
 | some j=>
  rw[e] at h
  obtain⟨h1,h2,h3,h4⟩:=ixN_seq e
  exact⟨j,h1,h,h2,h3,h4⟩
theorem atI_nat {α:Type}{xs:List α}{j:Nat}{v:α}(h:xs[j]? = some v):atI xs (j:Int)=some v:=by
 have hj:j<xs.length:=(List.getElem?_eq_some_iff.mp h).1
 have e:ixN xs.length (j:Int)=some j:=by
  unfold ixN
  rw[if_pos (by omega),if_pos (by omega)];simp
 unfold atI;rw[e];exact h
theorem atI_last {α:Type}(xs:List α)(v:α):atI (xs++[v]) (-1)=some v:=by
 have hl:(xs++[v]).length=xs.length+1:=by simp
 have e:ixN (xs++[v]).length (-1)=some xs.length:=by
  unfold ixN
  rw[hl,if_neg (by decide),if_pos (by omega)]
  congr 1
  omega
 unfold atI
 rw[e]
 show (xs++[v])[xs.length]? = some v
 simp
noncomputable def PlainIx (b:Expr):Prop:=∀o i,subscripted b false o i=operate [o,i] (getItem o i)
noncomputable def IxR (X:Cx)(r:R2):Prop:=
 ∀(value slice:Expr)(pins:List (Addr×Obj))(s:Shared)(σ:St)(H:Hp)(x y:V)(v u:Value)(Q:VK),Inv X pins σ H s->RelV x v->RelV y u->r x y H Q ->
  subscripted slice false v u=operate [v,u] (getItem v u)->wpAny (model X.prog X.w) X.A (subscriptTail value slice v u) (EP X pins σ Q) X.xe s
noncomputable def MtR (X:Cx)(id:String)(r:V->List V->Hp->VK->Prop):Prop:=
 ∀(pins:List (Addr×Obj))(s:Shared)(σ:St)(H:Hp)(x:V)(xs:List V)(v:Value)(us:List Value)(Q:VK),Inv X pins σ H s->RelV x v->Vals xs us->r x xs H Q ->
  wpAny (model X.prog X.w) X.A (call (.builtin id) (v::us)) (EP X pins σ Q) X.xe s
section
variable {X:Cx}{a b:Expr}{ta tb:TE}{pos:Pos}
theorem pe_ix {r:R2}(hr:IxR X r)(ha:PE X a ta)(hb:PE X b tb)(hs:PlainIx b):PE X (.Subscript a b pos) (tOp r ta tb):=by
 intro pins s σ H Q I h
 exact Subscript_ (binT ha hb I h fun v u s2 x y H2 I2 rx ry q=>hr a b pins s2 σ H2 x y v u Q I2 rx ry q (hs _ _))
noncomputable def rIxL (K:PySem.W.Frag):R2:=fun x y H Q=>∃p xs i v,x = .ref p/\y = .int i/\SqL K H p xs/\atI xs i=some v/\Q v H
noncomputable def rIxT (K:PySem.W.Frag):R2:=fun x y H Q=>∃p xs i v,x = .ref p/\y = .int i/\SqT K H p xs/\atI xs i=some v/\Q v H
noncomputable def rIxS:R2:=fun x y H Q=>∃z i c,x = .str z/\y = .int i/\z.length<=sizeLine/\atI z.cps.toList i=some c/\Q (.str ⟨#[c]⟩) H
theorem ix_list:IxR X (rIxL X.K):=by
 intro value slice pins s σ H x y v u Q I rx ry h hs
 obtain⟨p,xs,i,z,rfl,rfl,hq,he,q⟩:=h
 cases rx
 obtain⟨t,rfl⟩:=ry
 obtain⟨its,r,pl,hz⟩:=I.list hq
 obtain⟨j,h1,h2,h3,h4,h5⟩:=atI_get he
 obtain⟨w,ew,rw'⟩:=r.get h2
 have hl:=r.length
 have hn:=line63
 have fin:EP X pins σ Q w s:=⟨z,H,I,rw',q⟩
 by_cases h0:0<=i
 . have hj:i.toNat=j:=by
    rw[seqIndex_of h0 h5] at h1
    exact Option.some.inj h1
   exact item_listR pl.isList h0 (by omega) (by rw[hj];simpa using ew) fin hs
 . have hj:(i+(its.toArray.size:Int)).toNat=j:=by
    rw[seqIndex_neg (by omega) h4] at h1
    rw[List.size_toArray,<-hl]
    exact Option.some.inj h1
   exact subscriptTail_builtinR (x:=w) pl.isList.typeIs slot_list_getitem.lookup
    (wpAny_getItem_list_neg (Q:=fun r s'=>r=w/\EP X pins σ Q r s') pl.isList (by omega) (by rw[List.size_toArray] <;> omega) (by omega) (by rw[hj];simpa using ew) ⟨rfl,fin⟩) hs
theorem ix_tup:IxR X (rIxT X.K):=by
 intro value slice pins s σ H x y v u Q I rx ry h hs
 obtain⟨p,xs,i,z,rfl,rfl,hq,he,q⟩:=h
 cases rx
 obtain⟨t,rfl⟩:=ry
 obtain⟨its,r,pl,hz⟩:=I.tuple hq
 obtain⟨j,h1,h2,h3,h4,h5⟩:=atI_get he
 obtain⟨w,ew,rw'⟩:=r.get h2
 have hl:=r.length
 have hn:=line63
 have fin:EP X pins σ Q w s:=⟨z,H,I,rw',q⟩
 exact subscriptTail_builtinR (x:=w) pl.typeIs slot_tuple_getitem.lookup
  (getItem_tuple (j:=j) (Q:=fun r s'=>r=w/\EP X pins σ Q r s') pl (by omega) (by omega) (by rw[List.size_toArray,<-hl];exact h1) (by simpa using ew) ⟨rfl,fin⟩) hs
theorem ix_str:IxR X rIxS:=by
 intro value slice pins s σ H x y v u Q I rx ry h hs
 obtain⟨z,i,c,rfl,rfl,hz,he,q⟩:=h
 obtain⟨t,rfl⟩:=rx
 obtain⟨t',rfl⟩:=ry
 obtain⟨j,h1,h2,h3,h4,h5⟩:=atI_get he
 have hl:z.cps.toList.length=z.length:=by simp[Str.length]
 rw[hl] at h1 h4 h5
 have hn:=line63
 exact tail_any (typeIs_str s z t) slot_str_getitem.lookup (getItem_str (c:=c) (by
  have e1:decide (i < -(2 ^ 63:Int))=false:=decide_eq_false (by omega)
  have e2:decide (i ≥ 2 ^ 63)=false:=decide_eq_false (by omega)
  rw[e1,e2,Bool.or_false]) (by rw[h1];simpa using h2) ⟨.str ⟨#[c]⟩,H,I.tok _,⟨_,rfl⟩,q⟩) hs
theorem mapSeq_set (its:List Value)(n j:Nat)(u:Value):Obj.mapSeq (·.setIfInBounds j u) { cls:=.type "list",data:=.seq its.toArray n }={ cls:=.type "list",data:=.seq (its.set j u).toArray n }:=by
 simp[Obj.mapSeq]
theorem Inv.lst {pins:List (Addr×Obj)}{σ:St}{H:Hp}{s:Shared}{p:Addr}{xs:List V}(I:Inv X pins σ H s)(h:H p=some (.lst xs)) :
 ∃(its:List Value)(n:Nat),Vals xs its/\s.heap.get? p=some { cls:=.type "list",data:=.seq its.toArray n }/\xs.length<=sizeLine:=by
 obtain⟨z,its,n,r,e⟩:=I.hok p _ h
 exact⟨its,n,r,e,z⟩
theorem Inv.lstUpd {pins:List (Addr×Obj)}{σ:St}{H:Hp}{s:Shared}{p:Addr}{xs ys:List V}{its its':List Value}{n n':Nat}{f:Obj->Obj}(I:Inv X pins σ H s)(h:H p=some (.lst xs))
 (ho:s.heap.get? p=some { cls:=.type "list",data:=.seq its.toArray n }) (hf:f { cls:=.type "list",data:=.seq its.toArray n }={ cls:=.type "list",data:=.seq its'.toArray n' }) (r:Vals ys its')(hz:ys.length<=sizeLine)(t:Nat) :
 Inv X pins σ (upd H p (.lst ys)) { s with heap:=s.heap.update p f,toks:=t }:=by
 have e:(s.heap.update p f).get? p=some { cls:=.type "list",data:=.seq its'.toArray n' }:=by
  rw[Heap.get?_update_self f ho (by rw[hf] <;> rfl),hf]
 refine I.write (x:=p) (e:=p) (by rw[h];trivial) (.inl rfl) (fun b u hb q=>(Heap.get?_update_other _ _ (Ne.symm hb)).trans q) ⟨_,e⟩ ?_
 exact⟨hz,its',n',r,e⟩
noncomputable def rSetL:V->V->V->Hp->(Hp->Prop)->Prop:=fun o i v H Q=>∃p xs k j,o = .ref p/\i = .int k/\H p=some (.lst xs)/\ixN xs.length k=some j/\Q (upd H p (.lst (xs.set j v)))
theorem set_list:PSet X rSetL:=by
 intro pins s σ H o i v ov iv u Q I ro ri rv h
 obtain⟨p,xs,k,j,rfl,rfl,hp,hj,q⟩:=h
 cases ro
 obtain⟨t,rfl⟩:=ri
 obtain⟨its,n,r,ho,hz⟩:=I.lst hp
 obtain⟨h1,h2,h3,h4⟩:=ixN_seq hj
 have hl:=r.length
 have hn:=line63
 have I':Inv X pins σ (upd H p (.lst (xs.set j v))) { s with heap:=s.heap.update p (Obj.mapSeq (·.setIfInBounds j u)) }:=
  I.lstUpd hp ho (mapSeq_set its n j u) (r.set rv j) (by rw[List.length_set];exact hz) s.toks
 by_cases h0:0<=k
 . have hk:k.toNat=j:=by
    rw[seqIndex_of h0 h4] at h1
    exact Option.some.inj h1
   exact PySem.W.ki_setAt ho h0 (by omega) (by rw[List.size_toArray,<-hl];exact h4) (by rw[hk];exact⟨_,I',q⟩)
 . have hk:(k+(its.toArray.size:Int)).toNat=j:=by
    rw[seqIndex_neg (by omega) h3] at h1
    rw[List.size_toArray,<-hl]
    exact Option.some.inj h1
   exact PySem.W.ki_setBack ho (by omega) (by rw[List.size_toArray,<-hl];exact h3) (by omega) (by rw[hk];exact⟨_,I',q⟩)
theorem slice_bounds (lo hi:Option Int)(n:Nat):(sliceBounds lo hi none n).1=((HT.sIx n 0 lo:Nat):Int)/\(sliceBounds lo hi none n).2.1=((HT.sIx n n hi:Nat):Int)/\(sliceBounds lo hi none n).2.2=1:=by
 refine⟨?_,?_,rfl⟩
 . cases lo with
   | none=>simp[sliceBounds,HT.sIx]
   | some i=>
    simp only[sliceBounds,HT.sIx,Option.getD_none,show (1:Int) > 0 by decide,if_true]
    by_cases h:i<0
    . simp only[h,if_true] <;> omega
    . simp only[h,if_false] <;> omega
 . cases hi with
   | none=>simp[sliceBounds,HT.sIx]
   | some i=>
    simp only[sliceBounds,HT.sIx,Option.getD_none,show (1:Int) > 0 by decide,if_true]
    by_cases h:i<0
    . simp only[h,if_true] <;> omega
    . simp only[h,if_false] <;> omega
theorem slicePick_cut (its:List Value)(lo hi:Option Int):slicePick its.toArray lo hi none=((its.drop (HT.sIx its.length 0 lo)).take (HT.sIx its.length its.length hi-HT.sIx its.length 0 lo)).toArray:=by
 obtain⟨h1,h2,h3⟩:=slice_bounds lo hi its.toArray.size
 unfold slicePick
 rw[h1,h2,h3]
 simp only[sliceRange_one,pick_run,List.size_toArray] <;> rfl
noncomputable def rSlL (K:PySem.W.Frag):V->Option Int->Option Int->Hp->VK->Prop:=fun x lo hi H Q=>∃a xs,x = .ref a/\SqL K H a xs/\∀p,H p=none->Q (.ref p) (upd H p (.lst (cutV xs lo hi)))
theorem sl_list:SlR X (rSlL X.K):=by
 intro pins s σ H x v vl vu lo hi sl Q I rx hs pl pu h
 obtain⟨a,xs,rfl,hx,q⟩:=h
 cases rx
 obtain⟨its,r,ht,hz⟩:=I.list hx
 have hlen:=r.length
 refine⟨"list",_,slot_list_getitem.lookup,ht.isList.typeIs,?_⟩
 refine wpAny_getItem_list_slice ht.isList hs pl pu .none (by simp) ?_ (by rw[List.size_toArray] <;> omega)
 rw[slicePick_cut,<-hlen]
 refine⟨.ref s.heap.objs.size,_,I.laid (t':=s.toks) (o:=.lst (cutV xs lo hi)) (fun b ob q=>Heap.get?_push_of_some _ q) (Nat.le_refl _) ?_,rfl,q _ (I.hok.fresh (Nat.le_refl _))⟩
 exact⟨Nat.le_trans (cutV_length xs lo hi) hz,_,0,(r.drop (HT.sIx xs.length 0 lo)).take (HT.sIx xs.length xs.length hi-HT.sIx xs.length 0 lo),Heap.get?_push_size _ rfl⟩
noncomputable def flatV:V->Bool
 | .non=>true
 | .bl _=>true
 | .int _=>true
 | .str _=>true
 | _=>false
noncomputable def eqV:V->V->Bool
 | .non,.non=>true
 | .bl a,.bl b=>a==b
 | .bl a,.int b=>(if a then 1 else 0)==b
 | .int a,.bl b=>a==(if b then 1 else 0)
 | .int a,.int b=>a==b
 | .str a,.str b=>a==b
 | _,_=>false
theorem eqAt_V {A:Around}{s:Shared}{y x:V}{u v:Value}(ry:RelV y u)(rx:RelV x v)(fy:flatV y=true)(fx:flatV x=true):SeqAt.EqAt A s u v (eqV y x):=by
 cases y with
 | non=>
  cases ry
  cases x with
  | non=>cases rx;exact SeqAt.EqAt.same _
  | bl b=>cases rx;exact SeqAt.EqAt.none_bool b
  | int b=>obtain⟨t,rfl⟩:=rx;exact SeqAt.EqAt.none_int b t
  | str b=>obtain⟨t,rfl⟩:=rx;exact SeqAt.EqAt.none_str b t
  | _=>exact absurd (show false=true from fx) Bool.false_ne_true
 | bl a=>
  cases ry
  cases x with
  | non=>cases rx;exact SeqAt.EqAt.bool_none a
  | bl b=>cases rx;exact SeqAt.EqAt.bool_bool a b
  | int b=>obtain⟨t,rfl⟩:=rx;exact SeqAt.EqAt.bool_int a b t
  | str b=>obtain⟨t,rfl⟩:=rx;exact SeqAt.EqAt.bool_str a b t
  | _=>exact absurd (show false=true from fx) Bool.false_ne_true
 | int a=>
  obtain⟨t',rfl⟩:=ry
  cases x with
  | non=>cases rx;exact SeqAt.EqAt.int_none a t'
  | bl b=>cases rx;exact SeqAt.EqAt.int_bool a t' b
  | int b=>obtain⟨t,rfl⟩:=rx;exact SeqAt.EqAt.int_int a t' b t
  | str b=>obtain⟨t,rfl⟩:=rx;exact SeqAt.EqAt.int_str a t' b t
  | _=>exact absurd (show false=true from fx) Bool.false_ne_true
 | str a=>
  obtain⟨t',rfl⟩:=ry
  cases x with
  | non=>cases rx;exact SeqAt.EqAt.str_none a t'
  | bl b=>cases rx;exact SeqAt.EqAt.str_bool a t' b
  | int b=>obtain⟨t,rfl⟩:=rx;exact SeqAt.EqAt.str_int a t' b t
  | str b=>obtain⟨t,rfl⟩:=rx;exact SeqAt.EqAt.str_str a t' b t
  | _=>exact absurd (show false=true from fx) Bool.false_ne_true
 | _=>exact absurd (show false=true from fy) Bool.false_ne_true
noncomputable def eqU (x:V)(u:Value):Bool:=match u with
 | .none=>eqV .non x
 | .bool b=>eqV (.bl b) x
 | .int i _=>eqV (.int i) x
 | .str z _=>eqV (.str z) x
 | _=>false
theorem eqU_of {x y:V}{u:Value}(r:RelV y u)(f:flatV y=true):eqU x u=eqV y x:=by
 cases y with
 | non=>cases r;rfl
 | bl b=>cases r;rfl
 | int i=>obtain⟨t,rfl⟩:=r;rfl
 | str z=>obtain⟨t,rfl⟩:=r;rfl
 | _=>exact absurd (show false=true from f) Bool.false_ne_true
theorem any_eqU {x:V}:∀{xs:List V}{us:List Value},Vals xs us->xs.all flatV=true->us.any (eqU x)=xs.any fun y=>eqV y x
 | _,_,.nil,_=>rfl
 | y::xs,u::us,.cons r t,f=>by
  rw[List.all_cons,Bool.and_eq_true] at f
  rw[List.any_cons,List.any_cons,eqU_of r f.1,any_eqU t f.2]
theorem mem_eqAt {A:Around}{s:Shared}{x:V}{v:Value}(rx:RelV x v)(fx:flatV x=true):∀{xs:List V}{us:List Value},Vals xs us->xs.all flatV=true->∀u∈us,SeqAt.EqAt A s u v (eqU x u)
 | _,_,.nil,_=>fun u hu=>by cases hu
 | y::xs,u::us,.cons r t,f=>fun u' hu=>by
  rw[List.all_cons,Bool.and_eq_true] at f
  rcases List.mem_cons.mp hu with rfl | hu
  . rw[eqU_of r f.1];exact eqAt_V r rx f.1 fx
  . exact mem_eqAt rx fx t f.2 u' hu
noncomputable def inV (x:V)(xs:List V):Bool:=xs.any fun y=>eqV y x
noncomputable def rIn (K:PySem.W.Frag)(neg:Bool):R2:=fun x y H Q=>∃p xs,y = .ref p/\(SqL K H p xs\/SqT K H p xs)/\flatV x=true/\xs.all flatV=true/\Q (.bl (if neg then !inV x xs else inV x xs)) H
theorem op_in_seq:OpR X (compareOp .In) (rIn X.K false):=by
 intro pins s σ H x y v u Q I rx ry h
 obtain⟨p,xs,rfl,hq,fx,fs,q⟩:=h
 cases ry
 rcases hq with hq | hq
 . obtain⟨its,r,pl,hz⟩:=I.list hq
   refine SeqAt.in_listAt (eqU x) pl.isList (fun w hw=>mem_eqAt rx fx r fs w (by simpa using hw)) ⟨.bl _,H,I,rfl,?_⟩
   rw[show its.toArray.any (eqU x)=its.any (eqU x) by simp,any_eqU r fs]
   exact q
 . obtain⟨its,r,pl,hz⟩:=I.tuple hq
   refine SeqAt.in_tupleAt (eqU x) pl (fun w hw=>mem_eqAt rx fx r fs w (by simpa using hw)) ⟨.bl _,H,I,rfl,?_⟩
   rw[show its.toArray.any (eqU x)=its.any (eqU x) by simp,any_eqU r fs]
   exact q
theorem op_notIn_seq:OpR X (compareOp .NotIn) (rIn X.K true):=by
 intro pins s σ H x y v u Q I rx ry h
 obtain⟨p,xs,rfl,hq,fx,fs,q⟩:=h
 cases ry
 rcases hq with hq | hq
 . obtain⟨its,r,pl,hz⟩:=I.list hq
   refine SeqAt.notIn_listAt (eqU x) pl.isList (fun w hw=>mem_eqAt rx fx r fs w (by simpa using hw)) ⟨.bl _,H,I,rfl,?_⟩
   rw[show its.toArray.any (eqU x)=its.any (eqU x) by simp,any_eqU r fs]
   exact q
 . obtain⟨its,r,pl,hz⟩:=I.tuple hq
   refine SeqAt.notIn_tupleAt (eqU x) pl (fun w hw=>mem_eqAt rx fx r fs w (by simpa using hw)) ⟨.bl _,H,I,rfl,?_⟩
   rw[show its.toArray.any (eqU x)=its.any (eqU x) by simp,any_eqU r fs]
   exact q
theorem call_len_seq:CallR X (.builtin "len") (fun xs H Q=>∃p ys,xs=[.ref p]/\(SqL X.K H p ys\/SqT X.K H p ys)/\Q (.int ys.length) H):=by
 intro pins s σ H xs us Q I r h
 obtain⟨p,ys,rfl,hq,q⟩:=h
 obtain⟨u,rfl,rx⟩:=vals1 r
 cases rx
 have hn:=line63
 rcases hq with hq | hq
 . obtain⟨its,r',pl,hz⟩:=I.list hq
   have hlen:=r'.length
   exact Calls.call_len_list pl.isList (by simp only[List.size_toArray] <;> omega) ⟨.int ys.length,H,I.tok _,⟨s.toks+1,by rw[List.size_toArray,hlen]⟩,q⟩
 . obtain⟨its,r',pl,hz⟩:=I.tuple hq
   have hlen:=r'.length
   exact len_tuple pl (by simp only[List.size_toArray] <;> omega) ⟨.int ys.length,H,I.tok _,⟨s.toks+1,by rw[List.size_toArray,hlen]⟩,q⟩
theorem call_len_str:CallR X (.builtin "len") (fun xs H Q=>∃z,xs=[.str z]/\z.length<=sizeLine/\Q (.int z.length) H):=by
 intro pins s σ H xs us Q I r h
 obtain⟨z,rfl,hz,q⟩:=h
 obtain⟨u,rfl,t,rfl⟩:=vals1 r
 have hn:=line63
 exact len_str (by omega) ⟨.int z.length,H,I.tok _,⟨_,rfl⟩,q⟩
theorem call_list_of:CallR X (.type "list") (fun xs H Q=>∃p ys,xs=[.ref p]/\(SqL X.K H p ys\/SqT X.K H p ys)/\∀l,H l=none->Q (.ref l) (upd H l (.lst ys))):=by
 intro pins s σ H xs us Q I r h
 obtain⟨p,ys,rfl,hq,q⟩:=h
 obtain⟨u,rfl,rx⟩:=vals1 r
 cases rx
 have fin:∀(its:List Value),Vals ys its->ys.length<=sizeLine->∀(h':Heap)(c':Nat),(∀b o',s.heap.get? b=some o'->h'.get? b=some o') ->
  h'.get? s.heap.objs.size=some { cls:=.type "list",dict:=none,data:=.seq its.toArray c',slots:=#[] }->EP X pins σ Q (.ref s.heap.objs.size) { s with heap:=h' }:=fun its r' hz h' c' kp e=>
  ⟨.ref s.heap.objs.size,_,I.laid (t':=s.toks) kp (Nat.le_refl _) (show ObjOk X.prog X.w _ h' _ (.lst ys) from ⟨hz,its,c',r',e⟩),rfl,q _ (I.hok.fresh (Nat.le_refl _))⟩
 rcases hq with hq | hq
 . obtain⟨its,r',pl,hz⟩:=I.list hq
   have hlen:=r'.length
   obtain⟨o,ho,hc,n,hd⟩:=pl.isList
   exact call_list_seq p (.inl rfl) ho hc hd (fun h' c' kp e=>fin its r' hz h' c' kp e) (by simp only[List.size_toArray] <;> omega)
 . obtain⟨its,r',pl,hz⟩:=I.tuple hq
   have hlen:=r'.length
   obtain⟨o,ho,hc,n,hd⟩:=pl
   exact call_list_seq p (.inr rfl) ho hc hd (fun h' c' kp e=>fin its r' hz h' c' kp e) (by simp only[List.size_toArray] <;> omega)
theorem call_tuple_of:CallR X (.type "tuple") (fun xs H Q=>∃p ys,xs=[.ref p]/\((SqL X.K H p ys/\∀l,H l=none->Q (.ref l) (upd H l (.tup ys)))\/(SqT X.K H p ys/\Q (.ref p) H))):=by
 intro pins s σ H xs us Q I r h
 obtain⟨p,ys,rfl,h⟩:=h
 obtain⟨u,rfl,rx⟩:=vals1 r
 cases rx
 rcases h with ⟨hq,q⟩ | ⟨hq,q⟩
 . obtain⟨its,r',pl,hz⟩:=I.list hq
   have hlen:=r'.length
   refine call_tuple_list pl.isList (fun h' kp=>?_) (by simp only[List.size_toArray] <;> omega)
   have I1:Inv X pins σ H { s with heap:=h' }:=I.kept (t':=s.toks) kp
   have I2:Inv X pins σ (upd H h'.objs.size (.tup ys)) { s with heap:=h'.push { cls:=.type "tuple",data:=.seq its.toArray } }:=
    I1.laid (t':=s.toks) (fun b o e=>Heap.get?_push_of_some _ e) (Nat.le_refl _) (show ObjOk X.prog X.w _ _ _ (.tup ys) from ⟨⟨hz,_,Heap.get?_push_size _ rfl,rfl⟩,its,r',IsTup.new _ _⟩)
   exact⟨.ref h'.objs.size,_,I2,rfl,q _ (I1.hok.fresh (Nat.le_refl _))⟩
 . obtain⟨its,r',pl,hz⟩:=I.tuple hq
   exact call_tuple_same pl ⟨.ref p,H,I,rfl,q⟩
noncomputable def tyV (K:PySem.W.Frag)(T:String)(x:V)(H:Hp):Prop:=match x with
 | .str _=>T = "str"
 | .int _=>T = "int"
 | .ref p=>(T = "list" /\ ∃xs,SqL K H p xs)\/(T = "tuple" /\ ∃o,K.lookup p=some o/\o.cls = .type "tuple" /\ o.dict=none) \/
  (T = "dict" /\ ((∃kvs,H p=some (.dK kvs))\/∃kvs,H p=some (.dT kvs)))\/(T = "set" /\ ∃S n,H p=some (.set S n))
 | _=>False
theorem tyV_is {pins:List (Addr×Obj)}{σ:St}{H:Hp}{s:Shared}{T:String}{x:V}{v:Value}(I:Inv X pins σ H s)(r:RelV x v)(ty:tyV X.K T x H) :
 s.TypeIs v T/\∀a,v = .ref a->∃ob,s.heap.get? a=some ob/\ob.dict=none:=by
 cases x with
 | str z=>
  obtain⟨t,rfl⟩:=r
  cases (show T = "str" from ty)
  exact⟨typeIs_str s z t,fun _ e=>nomatch e⟩
 | int i=>
  obtain⟨t,rfl⟩:=r
  cases (show T = "int" from ty)
  exact⟨typeIs_int s i t,fun _ e=>nomatch e⟩
 | ref p=>
  cases r
  rcases ty with ⟨rfl,xs,hq⟩ | ⟨rfl,o,hk,hc,hd⟩ | ⟨rfl,hk⟩ | ⟨rfl,S,n,hk⟩
  . obtain⟨its,_,pl,_⟩:=I.list hq
    refine⟨pl.isList.typeIs,fun a e=>?_⟩
    cases e
    obtain⟨o,n,e,c,hd,_⟩:=pl
    exact⟨o,e,hd⟩
  . refine⟨⟨o,I.kIn p o hk,hc⟩,fun a e=>?_⟩
    cases e
    exact⟨o,I.kIn _ o hk,hd⟩
  . have z:∃o,s.heap.get? p=some o/\o.ExactDict:=by
     rcases hk with ⟨kvs,hk⟩ | ⟨kvs,hk⟩
     . obtain⟨_,_,_,_,o,_,_,e,ex,_⟩:=I.hok p _ hk
       exact⟨o,e,ex⟩
     . obtain⟨_,_,_,_,o,_,_,e,ex,_⟩:=I.hok p _ hk
       exact⟨o,e,ex⟩
    obtain⟨o,e,ex⟩:=z
    refine⟨⟨o,e,ex.1⟩,fun a e2=>?_⟩
    cases e2
    exact⟨o,e,ex.2.1⟩
  . obtain⟨o,_,_,_,e,ex,_⟩:=I.hok p _ hk
    refine⟨⟨o,e,ex.1⟩,fun a e2=>?_⟩
    cases e2
    exact⟨o,e,ex.2.1⟩
 | _=>exact False.elim ty
noncomputable def tBM (K:PySem.W.Frag)(T:String)(r:V->List V->Hp->VK->Prop)(to:TE)(t:TA):TE:=fun σ H Q=>to σ H fun x H1=>tyV K T x H1/\t σ H1 fun xs H2=>r x xs H2 Q
variable {o e:Expr}{es:List Expr}{to:TE}{t:TA}{name:Str}{apos cpos:Pos}{T id:String}{r:V->List V->Hp->VK->Prop}
theorem pe_bm (pa:PlainAttrs T)(slot:Slot T name id)(hty:typeOf (.builtin id)=pure (.type "method_descriptor")) (hm:MtR X id r)(ho:PE X o to)(ha:PA X (e::es) t)
 (hbase:attributeBase o name X.env (eval o X.env)=eval o X.env:=by rfl)
 (hfew:((backTo cpos (starEach (e::es) X.env)).all (fun x=>!x.1) && (backToKw cpos (keywordEach [] X.env)).all (fun x=>x.1.isSome)
  && decide ((e::es).length+([]:List Keyword).length+(if ([]:List Keyword).isEmpty then 0 else 1)<30))=true:=by rfl)
 (hline:(apos.endLine==cpos.line)=true:=by rfl)(hs:starEach (e::es) X.env=(false,eval e X.env)::starEach es X.env:=by rfl)(hplain:(backTo cpos (starEach es X.env)).any (·.1)=false:=by rfl) :
 PE X (.Call (.Attribute o name apos) (e::es) [] cpos) (tBM X.K T r to t):=by
 intro pins s σ H Q I h
 refine wpAny_Call_method_late hbase hfew hline rfl (thn (ho pins s σ H _ I h) fun v s1 ⟨x,H1,I1,r1,ty,q1⟩=>?_)
 obtain⟨h1,h2⟩:=tyV_is I1 r1 ty
 refine⟨T,id,pa,slot,hty,h1,h2,?_⟩
 have hA:=ha cpos pins s1 σ H1 _ I1 q1
 rw[hs] at hA ⊢
 refine Calls.callWith_builtin (by show (false || (backTo cpos (starEach es X.env)).any (·.1))=false;rw[hplain] <;> rfl) (Calls.evalArgs_plain ?_)
 exact thn hA fun us s2 ⟨vs,H2,I2,r2,q2⟩=>hm pins s2 σ H2 x vs v us Q I2 r1 r2 q2
end
end L2
namespace L2
open PySem PySem.Spec PyProof.Rows
noncomputable def MtM (X:Cx)(id:String)(r:V->List V->Hp->VK->Prop):Prop:=
 ∀(pins:List (Addr×Obj))(s:Shared)(σ:St)(H:Hp)(x:V)(xs:List V)(v:Value)(us:List Value)(Q:VK),Inv X pins σ H s->RelV x v->Vals xs us->r x xs H Q ->
  wpAny (model X.prog X.w) X.A (call (.builtin id) (v::us)) (EP X pins σ Q) X.xe s
theorem Vals.one:∀{x:V}{us:List Value},Vals [x] us->∃u,us=[u]/\RelV x u
 | _,_,.cons r .nil=>⟨_,rfl,r⟩
theorem Vals.rep {xs:List V}{us:List Value}(h:Vals xs us):∀k:Nat,Vals (List.replicate k xs).flatten (List.replicate k us).flatten
 | 0=>.nil
 | k+1=>by
  rw[List.replicate_succ,List.replicate_succ,List.flatten_cons,List.flatten_cons]
  exact Vals.append h (Vals.rep h k)
theorem foldl_rep (its:List Value):∀(k:Nat)(acc:List Value),
 List.foldl (fun x1 x2=>x1++x2) acc.toArray (List.replicate k its.toArray)=(acc++(List.replicate k its).flatten).toArray
 | 0,acc=>by simp
 | k+1,acc=>by
  have e:acc.toArray++its.toArray=(acc++its).toArray:=by simp
  have e2:(acc++its)++(List.replicate k its).flatten=acc++(List.replicate (k+1) its).flatten:=by
   rw[List.replicate_succ,List.flatten_cons,List.append_assoc]
  rw[<-e2,<-foldl_rep its k (acc++its),<-e,List.replicate_succ,List.foldl_cons]
section
variable {X:Cx}{pins:List (Addr×Obj)}{σ:St}{H:Hp}{s:Shared}{l b:Addr}{xs ys zs:List V}
theorem Inv.lset {its its':List Value}{n:Nat}{f:Array Value->Array Value}{t':Nat}(I:Inv X pins σ H s)(hH:H l=some (.lst xs))
 (e:s.heap.get? l=some { cls:=.type "list",data:=.seq its.toArray n }) (hf:f its.toArray=its'.toArray)(hv:Vals ys its')(hz:ys.length<=sizeLine) :
 Inv X pins σ (upd H l (.lst ys)) { s with heap:=s.heap.update l (Obj.mapSeq f),toks:=t' }:=by
 have q:=PySem.IsL.update e f
 rw[hf] at q
 refine I.write (x:=l) (e:=l) (by rw[hH];exact trivial) (.inl rfl) (fun b' u hb hu=>(Heap.get?_update_other s.heap (Obj.mapSeq f) (Ne.symm hb)).trans hu) ⟨_,q⟩ ?_
 exact⟨hz,its',_,hv,q⟩
theorem Inv.lnew {its:List Value}{t':Nat}(I:Inv X pins σ H s)(hv:Vals ys its)(hz:ys.length<=sizeLine) :
 Inv X pins σ (upd H s.heap.objs.size (.lst ys)) { s with heap:=s.heap.push { cls:=.type "list",data:=.seq its.toArray },toks:=t' }:=
 I.laid (fun _ _ q=>Heap.get?_push_of_some _ q) (Nat.le_refl _) ⟨hz,its,0,hv,Heap.get?_push_size _ rfl⟩
theorem Inv.fresh (I:Inv X pins σ H s):H s.heap.objs.size=none:=I.hok.fresh (Nat.le_refl _)
theorem Inv.lstM (I:Inv X pins σ H s)(hH:H l=some (.lst xs)):xs.length<=sizeLine/\∃(its:List Value)(n:Nat),Vals xs its/\xs.length=its.length/\s.heap.get? l=some { cls:=.type "list",data:=.seq its.toArray n }:=by
 obtain⟨z,its,n,r,e⟩:=I.hok l _ hH
 exact⟨z,its,n,r,r.length,e⟩
theorem notLongL {n:Nat}(h:n<=sizeLine):Builtin.List.listTooLong n=false:=by
 unfold Builtin.List.listTooLong
 exact decide_eq_false (by omega)
end
section
variable {X:Cx}
noncomputable def rAppend:V->List V->Hp->VK->Prop:=fun x vs H Q=>∃l xs y,x = .ref l/\vs=[y]/\H l=some (.lst xs)/\xs.length<sizeLine/\Q .non (upd H l (.lst (xs++[y])))
theorem mt_append:MtM X "list.append" rAppend:=by
 intro pins s σ H x vs v us Q I rx rv h
 obtain⟨l,xs,y,rfl,rfl,hH,hz,q⟩:=h
 cases rx
 obtain⟨u,rfl,ru⟩:=rv.one
 obtain⟨z,its,n,r,hl,e⟩:=I.lstM hH
 refine call_meets F.slot_list_append ⟨_,e,rfl⟩ F.entry_list_append (F.args_list_append_2 _ _) (PySem.list_append l its.toArray n u (by rw[List.size_toArray];omega)) ⟨e,?_⟩
 refine⟨.non,_,I.lset (its':=its++[u]) hH e (by simp) (r.append (.cons ru .nil)) ?_,rfl,q⟩
 rw[List.length_append,List.length_singleton]
 omega
noncomputable def rCat:R2:=fun x y H Q=>∃l b xs zs,x = .ref l/\y = .ref b/\H l=some (.lst xs)/\H b=some (.lst zs)/\xs.length+zs.length<=sizeLine/\∀p,H p=none->Q (.ref p) (upd H p (.lst (xs++zs)))
theorem op_cat:OpR X (binaryOp .Add) rCat:=by
 intro pins s σ H x y v u Q I rx ry h
 obtain⟨l,b,xs,zs,rfl,rfl,hH,hB,hz,q⟩:=h
 cases rx
 cases ry
 obtain⟨z,its,n,r,hl,e⟩:=I.lstM hH
 obtain⟨z2,its2,n2,r2,hl2,e2⟩:=I.lstM hB
 refine PySem.P.add_list e e2 ?_ (by rw[List.size_toArray,List.size_toArray];omega)
 have ea:its.toArray++its2.toArray=(its++its2).toArray:=by simp
 rw[ea]
 exact⟨.ref _,_,I.lnew (t':=s.toks) (r.append r2) (by rw[List.length_append];omega),rfl,q _ I.fresh⟩
noncomputable def rRep:R2:=fun x y H Q=>∃l k xs,x = .ref l/\y = .int k/\H l=some (.lst xs) /\ -(2 ^ 63)<=k/\k<2 ^ 63/\xs.length*k.toNat<=sizeLine /\
 ∀p,H p=none->Q (.ref p) (upd H p (.lst (List.replicate k.toNat xs).flatten))
theorem len_rep {α:Type}(xs:List α)(k:Nat):(List.replicate k xs).flatten.length=k*xs.length:=by
 induction k with
 | zero=>simp
 | succ k ih=>rw[List.replicate_succ,List.flatten_cons,List.length_append,ih,Nat.succ_mul,Nat.add_comm]
theorem op_rep:OpR X (binaryOp .Mult) rRep:=by
 intro pins s σ H x y v u Q I rx ry h
 obtain⟨l,k,xs,rfl,rfl,hH,h1,h2,hz,q⟩:=h
 cases rx
 obtain⟨t,rfl⟩:=ry
 obtain⟨z,its,n,r,hl,e⟩:=I.lstM hH
 have hlen:its.toArray.size*k.toNat<=sizeLine:=by rw[List.size_toArray,<-hl];exact hz
 have hcap:¬ its.toArray.size*k.toNat > (2 ^ 63-1)/8:=by
  have:(sizeLine:Nat)<=(2 ^ 63-1)/8:=by decide
  omega
 have hfit:¬ (!Builtin.List.listFitsIndex k)=true:=by
  rw[fitsIndex_both h1 h2]
  exact Bool.false_ne_true
 have hlong:¬ Builtin.List.listTooLong (its.toArray.size*k.toNat)=true:=by
  rw[notLongL hlen]
  exact Bool.false_ne_true
 have hnew:List.foldl (fun x1 x2=>x1++x2) #[] (List.replicate (if its.toArray.isEmpty=true then 0 else k.toNat) its.toArray)=(List.replicate k.toNat its).flatten.toArray:=by
  have f0:∀m:Nat,List.foldl (fun x1 x2=>x1++x2) #[] (List.replicate m its.toArray)=(List.replicate m its).flatten.toArray:=fun m=>by
   have:=foldl_rep its m []
   rw[List.nil_append] at this
   exact this
  rw[f0]
  cases its with
  | nil=>simp
  | cons a r'=>rw[if_neg (by simp)]
 refine wpAny_binaryOp_repeat_ref (T := "list") (U := "int") (by decide) ⟨_,e,rfl⟩ (fun s'=>typeIs_int s' k t) noFill_list_mul F.fills_int_mul F.slot_int_rmul repeat_list F.slot_int_index.lookup
  (call_meets F.slot_int_rmul (typeIs_int s k t) F.entry_int_rmul (F.args_int_rmul_2 _ _) (int___rmul___int_list k t l its.toArray n)
   ⟨e,rfl,⟨_,e,rfl⟩,call_meets F.slot_list_mul ⟨_,e,rfl⟩ F.entry_list_mul (F.args_list_mul_2 _ _) (AutoListH.list___mul___list_int_3 l its.toArray n k t hfit hcap hlong) ⟨e,?_⟩⟩)
 rw[hnew]
 exact⟨.ref _,_,I.lnew (t':=s.toks) (r.rep k.toNat) (by rw[len_rep,Nat.mul_comm];exact hz),rfl,q _ I.fresh⟩
end
section
variable {prog:Program}{w:World}{A:Around}{E:Value->Shared->Prop}{s:Shared}
set_option maxRecDepth 100000 in
end
section
variable {X:Cx}
end
end L2
namespace Att
open PySem PySem.W PySem.Calls PyProof.Rows
theorem ints_of_wellAll {P:Params}{h:Heap}:∀(ns:List Int)(vs:List Value),WellAll P h vs (ns.map WData.int)->IntsAre vs ns:=by
 intro ns
 induction ns with
 | nil=>
  intro vs w
  rw[List.map_nil] at w
  cases w
  exact .nil
 | cons n ns ih=>
  intro vs w
  rw[List.map_cons] at w
  cases w with
  | cons a b=>
   cases a
   exact .cons _ _ (ih _ b)
theorem script_of {l:OpenLaw}{n:Nat}(hn:l.most=some n){P:Params}{h:Heap}{args:List WData}{vals:List Value}
 (hpre:l.row.toRowW.claim.pre args=true)(hwl:WellAll P h vals args) :
 ∃a vs ns,vals=[Value.ref a]/\args=[WData.list (ns.map WData.int)]/\h.get? a=some { cls:=.type "list",data:=.seq vs.toArray }/\IntsAre vs ns/\ns.length<=n:=by
 have hsh:WShape.hasAll [] args [.list .int]=true:=(pre_splitW hpre).1
 have hc:l.pre.holds [] { args:=args }=true:=(pre_splitW hpre).2
 obtain⟨d,r,rfl,h1,h2⟩:=hasAllW_cons hsh
 obtain rfl:=hasAllW_nil h2
 obtain⟨xs,rfl,h3⟩:=hasW_list h1
 obtain⟨ns,rfl⟩:=items_int h3
 have hlen:ns.length<=n:=by
  unfold OpenLaw.pre at hc
  have h4:(WTm.not (.lt (.lit (.int (n:Int))) (.len (.arg 0)))).holds [] { args:=[.list (ns.map .int)] }=true:=by
   have h4:=(holds_andW hc).1
   rw[hn] at h4
   exact h4
  have h5:=condW_of h4 (w_not (w_lt w_lit (w_len_list (w_arg rfl))))
  rw[List.length_map] at h5
  refine Nat.le_of_not_lt fun q=>?_
  have q':(n:Int)<((ns.length:Nat):Int):=by omega
  first
   | (rw[decide_eq_true q'] at h5;exact absurd h5 (by decide))
   | (simp at h5;omega)
 cases hwl with
 | cons w1 w2=>
  cases w2
  cases w1 with
  | list ho hall=>exact⟨_,_,ns,rfl,rfl,ho,ints_of_wellAll ns _ hall,hlen⟩
theorem post_true (l:OpenLaw)(args:List WData):l.row.toRowW.claim.post args (.bool true) args=true:=
 postW_of (r:=l.row.toRowW) (X:=(true==true))
  (show WShape.has [] (.bool true) .bool=true by first | rfl | decide | simp[WShape.has,WShape.arms,WShape.armsAll])
  (show (WTm.eq .res (.lit (.bool true))).value [] { args:=args,res:=some (.bool true),after:=args }=some (.bool (true==true)) from w_eq_bool (w_res rfl) w_lit) rfl
theorem attach_call {l:OpenLaw}{n:Nat}{q:Program}{loose:List Str}{XP:(Str->Option Value)->Heap->Prop}{YP:World->Heap->Prop}{d:DefRec}
 (hn:l.most=some n)(hdf:d.params.defaults=[])
 (call:∀(w:World)(s₀ s₁:Shared)(mg mb:Str->Option Value)(fa:Addr)(o:Obj)(pm cd doc:Value)(a:Addr)(vs:List Value)(ns:List Int),
  Ground q loose [] XP w s₀ mg mb s₁.heap->YP w s₁.heap ->
  s₁.heap.get? fa=some o->o.data = .func (docDef d.name d.params d.body d.scope pm cd doc)->s₁.heap.CodeRec cd d.name->mg d.name=some (.ref fa) ->
  s₁.heap.get? a=some { cls:=.type "list",data:=.seq vs.toArray }->IntsAre vs ns->ns.length<=n->s₁.gens = #[] ->
  codeAny (model l.prog w) callerA (.call (.ref fa) ⟨[.ref a],[]⟩) (fun r s'=>r = .ok (.ret (.bool true))/\OldK s₁.heap s'.heap/\s'.os=s₁.os/\AllBare s'.gens) s₁) :
 WalkO q loose XP YP l.row.toRowW d [] (fun f vs=>PySem.call f vs):=by
 intro w s₀ s₁ mg mb G Y fa o pm cd doc dV kV ho hd hcd hD hmg hg args vals as hpre hlay hrd hwl hlo
 obtain rfl:dV = .none:=Dflts.none hD hdf
 obtain rfl:kV = .none:=Dflts.noKw hD
 obtain⟨a,vs,ns,rfl,rfl,hobj,hints,hlen⟩:=script_of hn hpre hwl
 refine enter_call (codeAny_mono (call w s₀ s₁ mg mb fa o pm cd doc a vs ns G Y ho (fd_plain hd) hcd hmg hobj hints hlen hg) fun r s' hq=>?_)
 obtain⟨rfl,h2,h3,h4⟩:=hq
 exact⟨.inl ⟨.bool true,.bool true,[],rfl,fun _=>rfl,.bool true,post_true l _,fun _=>⟨List.Pairwise.nil,fun _ hm=>(nomatch hm)⟩⟩,h2,h3,h4⟩
section
variable {prog:Program}{w:World}{A:Around}{E:Value->Shared->Prop}{s:Shared}{K:Frag}
end
end Att
namespace L2
open PySem PySem.Spec PyProof.Rows
theorem vals_ints:∀{vs:List Value}{ns:List Int},IntsAre vs ns->Vals (ns.map V.int) vs
 | _,_,.nil=>.nil
 | _,_,.cons n t h=>.cons ⟨t,rfl⟩ (vals_ints h)
noncomputable def Only (H:Hp):Prop:=∀b,H b=none\/∃o xs,H b=some (.frz o (.lst xs))
theorem law_call {P:Program}{w:World}{K:PySem.W.Frag}{mg mb:Str->Option Value}{CX:CXT}{k:Nat}{fa a:Addr}{fd:FuncData}{x:Str}{sp:Sp}{s₁:Shared}{vs:List Value}{ns:List Int}
 (KX:K.In s₁.heap)(hns:s₁.heap.Ns mainGlobals mg)(hb:s₁.heap.Ns builtinsNs mb)(hbb:∀x:Str,x ≠ "__name__" -> mb x=bootBuiltins x) (hlim:s₁.heap.NoLimit)(hg:s₁.gens = #[])
 (ha:s₁.heap.get? a=some { cls:=.type "list",data:=.seq vs.toArray }) (hi:IntsAre vs ns)(hl:ns.length<=sizeLine)(hr:Room k callerA)
 (F:∀base:Heap,K.In base->base.Ns mainGlobals mg->FnOk P w K mg base CX k fa fd [x] sp)(hbind:∀(s:Shared)(u:Value),BindsTo s fd ⟨[u],[]⟩ [(x,u)])
 (hsp:∀H:Hp,Only H->SqL K H a (ns.map V.int)->sp [.ref a] H (fun v _=>v = .bl true) fun _ _ _=>False)
 (hCX:∀H e s',CX [] H s₁ (fun _ _ _=>False) e s'->False) :
 codeAny (model P w) callerA (.call (.ref fa) ⟨[.ref a],[]⟩) (fun r s'=>r = .ok (.ret (.bool true))/\OldK s₁.heap s'.heap/\s'.os=s₁.os/\AllBare s'.gens) s₁:=by
 have rv:=vals_ints hi
 have lenV:=hi.length
 have core:∀H:Hp,Only H->SqL K H a (ns.map V.int)->HOk P w H s₁.heap->(∀b,H b≠none->b=a)->(H a≠none->K.lookup a=none) ->
  codeAny (model P w) callerA (.call (.ref fa) ⟨[.ref a],[]⟩) (fun r s'=>r = .ok (.ret (.bool true))/\OldK s₁.heap s'.heap/\s'.os=s₁.os/\AllBare s'.gens) s₁:=by
  intro H hO hS hok hA hK
  have base_of:∀{b:Addr}{o:Obj},s₁.heap.get? b=some o->H b=none->(hidT s₁.heap H).get? b=some o:=fun e n=>hidT_get e n
  have noA:∀{b:Addr}{o:Obj}{es:Array DictEntry}{ep:Nat},s₁.heap.get? b=some o->o.data = .dict es ep->H b=none:=fun {b o es ep} e d=>by
   cases q:H b with
   | none=>rfl
   | some u=>
    have e':b=a:=hA b (by rw[q];simp)
    subst e'
    rw[ha] at e;cases e
    have d':Data.seq vs.toArray _=Data.dict es ep:=d
    cases d'
  have nsK:∀{b:Addr}{m:Str->Option Value},s₁.heap.Ns b m->(hidT s₁.heap H).Ns b m:=fun {b m} ⟨o,es,ep,e,d,r⟩=>⟨o,es,ep,base_of e (noA e d),d,r⟩
  have hKb:K.In (hidT s₁.heap H):=fun b o e=>base_of (KX b o e) (by
   cases q:H b with
   | none=>rfl
   | some u=>
    have e':b=a:=hA b (by rw[q];simp)
    subst e'
    rw[hK (by rw[q];simp)] at e;cases e)
  have hM:Mod K mg (hidT s₁.heap H):=⟨hKb,nsK hns,⟨mb,nsK hb,hbb⟩,let ⟨mc,h1,h2⟩:=hlim;⟨mc,nsK h1,h2⟩⟩
  have e0:Env0 P w K mg (hidT s₁.heap H) callerA [] s₁ H:=⟨rfl,hM,fun b o e=>of_hidT e,Nat.le_of_eq (hidT_size _ _),trivial,fun b hb=>absurd (show b∈([]:List Addr) from hb) (by simp),hok,.of_eq hg⟩
  refine codeAny_mono ((F _ hKb (nsK hns)).run callerA [] s₁ H ⟨[.ref a],[]⟩ [.ref a] [.ref a] _ _ hr e0 (hbind s₁ (.ref a)) (.cons rfl .nil) (hsp H hO hS)) fun r s' h=>?_
  cases r with
  | error e=>exact (hCX H e s' h).elim
  | ok fl=>
   cases fl with
   | next=>exact False.elim h
   | brk=>exact False.elim h
   | cont=>exact False.elim h
   | ret u=>
    obtain⟨v,H',os,bare,un,hok',r',q⟩:=h
    have q':v = .bl true:=q
    subst q'
    obtain rfl:u=Value.bool true:=r'
    refine⟨rfl,OldK.of_keep fun b o e=>?_,os,bare⟩
    cases q:H b with
    | none=>exact un.keep b o e q (by intro z;exact absurd (show b∈([]:List Addr) from z) (by simp)) (by simp)
    | some u=>
     rcases hO b with z | ⟨ob,xs,z⟩
     . rw[q] at z;cases z
     . have z2:=un.frzs b ob _ z
       obtain⟨e1,_⟩:=hok b _ z
       obtain⟨e2,_⟩:=hok' b _ z2
       rw[e] at e1;cases e1
       exact e2
 cases hk:K.lookup a with
 | some o=>
  have e:=KX a o hk
  rw[ha] at e
  cases e
  refine core (fun _=>none) (fun _=>.inl rfl) (.inr ⟨_,vs.toArray,_,hk,rfl,rfl,rfl,by rw[List.size_toArray,lenV];exact hl,by simpa using rv⟩) (fun b u z=>by have z':(none:Option HO)=some u:=z;cases z') (fun b z=>absurd rfl z) fun z=>absurd rfl z
 | none=>
  refine core (fun b=>if b=a then some (.frz { cls:=.type "list",data:=.seq vs.toArray } (.lst (ns.map V.int))) else none) (fun b=>?_) (.inl (.inr ⟨{ cls:=.type "list",data:=.seq vs.toArray },if_pos rfl⟩)) (fun b u z=>?_) (fun b z=>?_) fun _=>hk
  . by_cases hb:b=a
    . exact .inr ⟨_,_,if_pos hb⟩
    . exact .inl (if_neg hb)
  . by_cases hb:b=a
    . have z':=(if_pos hb).symm.trans z
      cases z'
      subst hb
      exact⟨ha,by rw[List.length_map];exact hl,vs,_,rv,ha⟩
    . have z':=(if_neg hb).symm.trans z
      cases z'
  . by_cases hb:b=a
    . exact hb
    . exact absurd (if_neg hb) z
end L2
namespace L2
open PySem PySem.Spec PyProof.Rows
theorem walk_of {l:PySem.W.OpenLaw}{n k:Nat}{q:Program}{loose:List Str}{XP:(Str->Option Value)->Heap->Prop}{YP:World->Heap->Prop}{d:DefRec}{K:Params->PySem.W.Frag}{CX:World->CXT}{sp:World->Sp}{x:Str}
 (hn:l.most=some n)(hn2:n<=sizeLine)(hdf:d.params.defaults=[])(hr:Room k callerA)
 (hY:∀(w:World)(h:Heap),YP w h->(K w.params).In h)
 (F:∀(w:World)(mg:Str->Option Value)(fa:Addr)(h:Heap),(K w.params).In h->h.Ns mainGlobals mg->mg d.name=some (.ref fa) ->
  ∃fd:FuncData,(∀(s:Shared)(u:Value),BindsTo s fd ⟨[u],[]⟩ [(x,u)]) /\
   ∀base:Heap,(K w.params).In base->base.Ns mainGlobals mg->FnOk l.prog w (K w.params) mg base (CX w) k fa fd [x] (sp w))
 (hsp:∀(w:World)(H:Hp)(a:Addr)(ns:List Int),ns.length<=n->Only H->SqL (K w.params) H a (ns.map V.int)->sp w [.ref a] H (fun v _=>v = .bl true) fun _ _ _=>False)
 (hCX:∀(w:World)(H:Hp)(s:Shared)(e:Value)(s':Shared),CX w [] H s (fun _ _ _=>False) e s'->False) :
 PySem.W.WalkO q loose XP YP l.row.toRowW d [] (fun f vs=>PySem.call f vs):=by
 refine Att.attach_call hn hdf fun w s₀ s₁ mg mb fa o pm cd doc a vs ns G Y ho hd hcd hmg hobj hints hlen hg=>?_
 have KX:=hY w _ Y
 obtain⟨fd,hb,hF⟩:=F w mg fa _ KX G.T.g hmg
 exact law_call KX G.T.g G.T.b G.T.builtins G.T.nolimit hg hobj hints (Nat.le_trans hlen hn2) hr hF hb (fun H hO hS=>hsp w H a ns hlen hO hS) fun H e s'=>hCX w H s₁ e s'
end L2
namespace L2
open PySem PySem.Spec PyProof.Rows
noncomputable def defArgs (s:Stmt):Arguments:=match s with
 | .FunctionDef _ a _ _ _ _ _ _ _ _=>a
 | _=>{ posonlyargs:=[],args:=[],vararg:=none,kwonlyargs:=[],kw_defaults:=[],kwarg:=none,defaults:=[] }
noncomputable def defBody (s:Stmt):List Stmt:=match s with
 | .FunctionDef _ _ b _ _ _ _ _ _ _=>b
 | _=>[]
noncomputable def defScope (s:Stmt):Scope:=match s with
 | .FunctionDef _ _ _ _ _ _ sc _ _ _=>sc
 | _=>{ kind:=.function,names:=[],isGenerator:=false,isCoroutine:=false }
noncomputable abbrev CX0:CXT:=fun _ _ _ _ _ _=>False
noncomputable abbrev E0:XK:=fun _ _ _=>False
theorem pass0 {X:Cx}:Passes CX0 X E0:=fun _ _ _ _ _ _ _ h=>h.elim
structure Fun (K:PySem.W.Frag)(x qual:Str)(st:Stmt)(f:Addr)(fd:FuncData):Prop where
 ex:∃(oc:Value)(od:Option Addr)(kV doc pm:Value)(an:Option Addr)(cdv ct:Value)(osl:Array (Option Value)),
  fd=PySem.W.fnOf x qual (defArgs st) (defBody st) (defScope st) .none kV doc pm an cdv ct/\K.lookup f=some ⟨oc,od,.func fd,osl⟩/\PySem.W.codeIn K cdv qual=true
 kp:PySem.W.keepIn K (.ref f)=true
section
variable {P:Program}{w:World}{K:PySem.W.Frag}{mg:Str->Option Value}{base:Heap}
theorem Fun.ok {x qual:Str}{st:Stmt}{f:Addr}{fd:FuncData}{N ps:List Str}{k:Nat}{sp:Sp}(F:Fun K x qual st f fd)(S:FnScope N ps (defScope st))(len:∀vs H Q E,sp vs H Q E->vs.length=ps.length)
 (hbody:∀(cdv:Value)(A:Around)(outer:List Env)(s:Shared)(H:Hp)(vs:List V)(Q:VK)(E:XK),Room k (A.deeper (envOfC qual (defScope st) s.heap.objs.size f cdv))->sp vs H Q E ->
  ∃t,PSs (cxOf CX0 P w K mg base N qual (defScope st) f cdv A outer s H E).nox (defBody st) t/\t { nx:=fun _ H'=>Q .non H',rt:=Q } (start N vs) H):FnOk P w K mg base CX0 (k+1) f fd ps sp:=by
 obtain⟨oc,od,kV,doc,pm,an,cdv,ct,osl,rfl,lk,hcd⟩:=F.ex
 refine fn_of lk hcd S len fun A outer s H vs Q E hr hsp=>?_
 obtain⟨t,h,q⟩:=hbody cdv A outer s H vs Q E hr hsp
 exact⟨t,h.nox,q⟩
theorem Fun.binds {x qual:Str}{st:Stmt}{f:Addr}{fd:FuncData}{ps:List Str}(F:Fun K x qual st f fd)
 (h:∀(kV doc pm:Value)(an:Option Addr)(cdv ct:Value)(us:List Value),us.length=ps.length->bindArgs (PySem.W.fnOf x qual (defArgs st) (defBody st) (defScope st) .none kV doc pm an cdv ct) ⟨us,[]⟩=pure (ps.zip us)):Binds K fd ps []:=by
 obtain⟨oc,od,kV,doc,pm,an,cdv,ct,osl,rfl,lk,hcd⟩:=F.ex
 exact .all (h kV doc pm an cdv ct)
theorem fun_mk {x qual:Str}{st:Stmt}{f:Addr}{oc:Value}{od an:Option Addr}{osl:Array (Option Value)}{kV doc pm cdv ct:Value}(l:K.lookup f=some ⟨oc,od,.func (PySem.W.fnOf x qual (defArgs st) (defBody st) (defScope st) .none kV doc pm an cdv ct),osl⟩)
 (c:PySem.W.codeIn K cdv qual=true)(k:PySem.W.keepIn K (.ref f)=true):Fun K x qual st f (PySem.W.fnOf x qual (defArgs st) (defBody st) (defScope st) .none kV doc pm an cdv ct):=⟨⟨oc,od,kV,doc,pm,an,cdv,ct,osl,rfl,l,c⟩,k⟩
end
theorem hu_of {A:Around}{k:Nat}(hr:Room k A):A.units+1<cLine:=Nat.lt_of_le_of_lt (Nat.add_le_add_left (by decide:1<=64) _) hr.units
section
variable {X:Cx}
theorem pv (i:Nat){x:Str}{pos:Pos}(hN:X.N[i]? = some x:=by rfl)(hv:Vis X.env.scope x:=by first | exact Or.inl rfl | exact Or.inr (Or.inl rfl) | exact Or.inr (Or.inr rfl))(hd:(x==("__debug__" : Str))=false:=by decide)
 (hcd:(x==("__classdict__" : Str))=false:=by decide):PE X (.Name x pos) (tVar i):=pe_var hN hv hd hcd
end
theorem iteF {A B:Prop}(h:B):if false=true then A else B:=by
 rw[if_neg Bool.false_ne_true]
 exact h
theorem iteT {A B:Prop}(h:A):if true=true then A else B:=by
 rw[if_pos rfl]
 exact h
theorem ite2 {c A B:Prop} [Decidable c] (h1:c->A)(h2:¬ c->B):if c then A else B:=by
 by_cases h:c
 . rw[if_pos h]
   exact h1 h
 . rw[if_neg h]
   exact h2 h
noncomputable def Same (H H':Hp):Prop:=∀b o,H b=some o->H' b=some o
theorem Same.refl (H:Hp):Same H H:=fun _ _ h=>h
theorem Same.trans {H H1 H2:Hp}(a:Same H H1)(b:Same H1 H2):Same H H2:=fun c o h=>b c o (a c o h)
end L2
namespace L2
open PySem PySem.Spec PyProof.Rows
section
variable {κ:Type} [DecidableEq κ]
end
end L2
namespace L2
open PySem PySem.Spec PyProof.Rows
section
variable {X:Cx}
end
end L2
set_option Elab.async false
set_option linter.all false
set_option maxRecDepth 100000
set_option maxHeartbeats 4000000
namespace L2
open PySem PySem.Spec PyProof.Rows
theorem compLoop_gen {prog:Program}{w:World}{A:Around}{R:Result->Shared->Prop}{s:Shared}{elt target iter:Expr}{ifs:List Expr}{scope:Scope}{pos:Pos}{it acc:Value}{env:Env}(I:Nat->Shared->Prop)
 (turn:∀n s,I n s->wpAny (model prog w) A (pyNext it) (fun r s₁=>match r with
  | none=>R (.ok .next) s₁
  | some v=>wpAny (model prog w) A (letOwnedTupleGo target it v) (fun _ s₁'=>wpAny (model prog w) A (assign target env v) (fun _ s₂=>
   wpAny (model prog w) A (forIn ifs true fun c r=>if r=true then do let ok <-isTrue c env (eval c env);pure (ForInStep.yield ok) else pure (ForInStep.yield r)) (fun ok s₃=>
    if ok=true then wpAny (model prog w) A (eval elt env) (fun x s₄=>
     wpAny (model prog w) A (call (.builtin "list.append") [acc,x]) (fun _ s₅=>∃m,m<n/\I m s₅) (fun _ _=>False) s₄) (fun _ _=>False) s₃
    else ∃m,m<n/\I m s₃) (fun _ _=>False) s₂) (fun _ _=>False) s₁') (fun _ _=>False) s₁) (fun _ _=>False) s)
 (n:Nat)(h:I n s):codeAny (model prog w) A (.compLoop (.ListComp elt [⟨target,iter,ifs,0⟩] scope pos) 0 it acc env) R s:=by
 refine codeAny_loop rfl I (fun n s hI=>?_) n h
 show wpAny _ A ((compTurn (.ListComp elt [⟨target,iter,ifs,0⟩] scope pos) 0 it acc env).onRaise (fun x=>do noteFrame x env;theTreesLotGoes x)) _ _ s
 refine wpAny_noted ?_
 rw[compTurn_list]
 refine wpAny_bind (wpAny_standAt (wpAny_bind (wpAny_mono (turn n s hI) (fun r s₁ h₁=>?_) fun _ _ h'=>h'.elim)))
 cases r with
 | none=>exact wpAny_pure h₁
 | some v=>
  refine wpAny_bind (wpAny_mono h₁ (fun _ s₁' h₁'=>?_) fun _ _ h'=>h'.elim)
  refine wpAny_bind (wpAny_mono h₁' (fun _ s₂ h₂=>wpAny_bind (wpAny_mono h₂ (fun ok s₃ h₃=>?_) fun _ _ h'=>h'.elim)) fun _ _ h'=>h'.elim)
  cases ok with
  | false=>exact wpAny_pure ⟨rfl,h₃⟩
  | true=>
   exact wpAny_bind (wpAny_bind (wpAny_mono h₃ (fun x s₄ h₄=>wpAny_bind (wpAny_mono h₄ (fun _ s₅ h₅=>wpAny_pure (wpAny_pure ⟨rfl,h₅⟩)) fun _ _ h'=>h'.elim)) fun _ _ h'=>h'.elim))
noncomputable def PTs (X:Cx)(ifs:List Expr)(t:TT):Prop:=
 ∀(pins:List (Addr×Obj))(s:Shared)(σ:St)(H:Hp)(Q:Bool->Hp->Prop),Inv X pins σ H s->t σ H Q ->
  wpAny (model X.prog X.w) X.A (forIn ifs true fun c r=>if r=true then do let ok <-isTrue c X.env (eval c X.env);pure (ForInStep.yield ok) else pure (ForInStep.yield r)) (TP X pins σ Q) X.xe s
noncomputable def tYes:TT:=fun _ H Q=>Q true H
theorem tyes {σ:St}{H:Hp}{A B:Hp->Prop}(h:A H):tYes σ H (fun b H3=>if b=true then A H3 else B H3):=by
 show (if true=true then A H else B H)
 exact iteT h
theorem pts_nil {X:Cx}:PTs X [] tYes:=fun _ _ _ H _ I h=>wpAny_tests_nil ⟨H,I,h⟩
theorem pts_one {X:Cx}{c:Expr}{t:TT}(h:PT X c t):PTs X [c] t:=fun pins s σ H Q I q=>wpAny_tests_one (h pins s σ H Q I q)
noncomputable def clOf (cells:List (Str×Addr)):List (Str×NameKind)->List (Str×Addr)->List (Str×Addr)
 | [],acc=>acc
 | (n,k)::r,acc=>if (k == .free)=true then (match cells.lookup n with | some c=>clOf cells r ((n,c)::acc) | none=>clOf cells r acc) else clOf cells r acc
theorem clOf_sub {cells:List (Str×Addr)}{x:Str}{c:Addr}:∀(names:List (Str×NameKind))(acc:List (Str×Addr)),(clOf cells names acc).lookup x=some c->acc.lookup x=some c\/cells.lookup x=some c
 | [],acc,h=>.inl h
 | (n,k)::r,acc,h=>by
  unfold clOf at h
  split at h
  . cases hc:cells.lookup n with
    | none=>rw[hc] at h;exact clOf_sub r acc h
    | some c'=>
     rw[hc] at h
     rcases clOf_sub r _ h with q | q
     . rw[List.lookup_cons] at q
       cases hx:x==n with
       | true=>
        rw[hx] at q
        have e:x=n:=by simpa using hx
        have e2:c'=c:=by simpa using q
        rw[e,hc,e2]
        exact .inr rfl
       | false=>rw[hx] at q;exact .inl q
     . exact .inr q
  . exact clOf_sub r acc h
theorem clOf_acc {cells:List (Str×Addr)}{x:Str}:∀(names:List (Str×NameKind))(acc:List (Str×Addr)),(∃c,acc.lookup x=some c)->∃c,(clOf cells names acc).lookup x=some c
 | [],acc,h=>h
 | (n,k)::r,acc,h=>by
  unfold clOf
  split
  . cases hc:cells.lookup n with
    | none=>exact clOf_acc r acc h
    | some c'=>
     refine clOf_acc r _ ?_
     rw[List.lookup_cons]
     cases hx:x==n with
     | true=>exact⟨c',rfl⟩
     | false=>exact h
  . exact clOf_acc r acc h
theorem clOf_has {cells:List (Str×Addr)}{x:Str}(hx:∃c,cells.lookup x=some c):∀(names:List (Str×NameKind))(acc:List (Str×Addr)),(x,NameKind.free)∈names->∃c,(clOf cells names acc).lookup x=some c
 | [],acc,h=>by simp at h
 | (n,k)::r,acc,h=>by
  rcases List.mem_cons.mp h with e | h
  . cases e
    obtain⟨c,hc⟩:=hx
    unfold clOf
    rw[if_pos (by rfl),hc]
    exact clOf_acc r _ ⟨c,by rw[List.lookup_cons];simp⟩
  . unfold clOf
    split
    . cases hc:cells.lookup n with
      | none=>exact clOf_has hx r acc h
      | some c'=>exact clOf_has hx r _ h
    . exact clOf_has hx r acc h
theorem closure_go {env:Env}:∀(names:List (Str×NameKind))(acc:List (Str×Addr)),(∀y∈names,y.2 = .free->∃c,env.cells.lookup y.1=some c) ->
 (forIn names acc fun (x:Str×NameKind)(cs:List (Str×Addr))=>(if (x.2 == .free)=true then (do let a <-cellOf env x.1;pure (ForInStep.yield ((x.1,a)::cs))) else pure (ForInStep.yield cs):Sem (ForInStep (List (Str×Addr)))))=pure (clOf env.cells names acc)
 | [],acc,_=>rfl
 | (n,k)::r,acc,h=>by
  rw[List.forIn_cons]
  have hr:∀y∈r,y.2 = .free->∃c,env.cells.lookup y.1=some c:=fun y hy=>h y (List.mem_cons_of_mem _ hy)
  unfold clOf
  cases hk:(k==NameKind.free) with
  | true=>
   obtain⟨c,hc⟩:=h (n,k) List.mem_cons_self (by simpa using hk)
   simp only[hk,if_true,cellOf,hc,pure_bind]
   exact closure_go r _ hr
  | false=>
   simp only[hk,Bool.false_eq_true,if_false,pure_bind]
   exact closure_go r _ hr
theorem closureFor_eq {scope:Scope}{env:Env}(h:∀y∈scope.names,y.2 = .free->∃c,env.cells.lookup y.1=some c):closureFor scope env=pure (clOf env.cells scope.names []):=by
 have e:=closure_go scope.names [] h
 simp only[closureFor]
 simp only[bind_pure]
 exact e
theorem lookup_relabel {env:Env}{x:Str}:∀(names:List (Str×NameKind)),
 (names.map fun (n,k)=>if (k==NameKind.free && env.scope.kind == .function && env.kindOf n==some .cell) then (n,NameKind.cell) else (n,k)).lookup x =
  (names.lookup x).map fun k=>if (k==NameKind.free && env.scope.kind == .function && env.kindOf x==some .cell)=true then NameKind.cell else k
 | []=>rfl
 | (n,k)::r=>by
  have ih:=lookup_relabel (env:=env) (x:=x) r
  rw[List.map_cons]
  show List.lookup x ((if (k==NameKind.free && env.scope.kind == .function && env.kindOf n==some .cell)=true then (n,NameKind.cell) else (n,k))::_)=_
  by_cases c:(k==NameKind.free && env.scope.kind == .function && env.kindOf n==some .cell)=true
  . rw[if_pos c,List.lookup_cons,List.lookup_cons]
    cases hx:x==n with
    | true=>
     have e:x=n:=by simpa using hx
     subst e
     show some NameKind.cell=Option.map _ (some k)
     rw[Option.map_some,if_pos c]
    | false=>exact ih
  . rw[if_neg c,List.lookup_cons,List.lookup_cons]
    cases hx:x==n with
    | true=>
     have e:x=n:=by simpa using hx
     subst e
     show some k=Option.map _ (some k)
     rw[Option.map_some,if_neg c]
    | false=>exact ih
noncomputable def cxComp (X:Cx)(pl:List (Addr×Obj))(N':List Str)(scope:Scope)(fp:List Addr)(s3:Shared)(H3:Hp):Cx where
 prog:=X.prog
 w:=X.w
 K:=X.K
 mg:=X.mg
 base:=X.base
 A:=X.A
 N:=N'
 s₀:=s3
 H₀:=H3
 env:=compEnvC scope (clOf X.env.cells scope.names []) s3.heap.objs.size X.env
 outer:=X.stack
 stack:=X.stack
 ex:=fp
 fn:=fun _=>false
 calm:=X.calm
 pn:=pl
 xe:=fun _ _=>False
noncomputable def CapOk (X:Cx)(scope:Scope):List Str->List Nat->Prop
 | [],[]=>True
 | x::cn,j::ci=>X.N[j]? = some x/\X.env.kindOf x=some .cell/\scope.names.lookup x=some .free/\CapOk X scope cn ci
 | _,_=>False
theorem CapOk.get {X:Cx}{scope:Scope}:∀{cn:List Str}{ci:List Nat}{k:Nat}{x:Str},CapOk X scope cn ci->cn[k]? = some x->∃j,ci[k]? = some j/\X.N[j]? = some x/\X.env.kindOf x=some .cell/\scope.names.lookup x=some .free
 | [],_,_,_,_,h=>by simp at h
 | _::_,[],_,_,c,_=>c.elim
 | y::cn,j::ci,0,x,c,h=>by
  obtain⟨a,b,b',_⟩:=c
  have e:y=x:=by simpa using h
  subst e
  exact⟨j,rfl,a,b,b'⟩
 | y::cn,j::ci,k+1,x,c,h=>by
  obtain⟨j',h1,h2⟩:=CapOk.get (k:=k) c.2.2.2 (by simpa using h)
  exact⟨j',by simpa using h1,h2⟩
structure CompSc (X:Cx)(scope:Scope):Prop where
 kind:scope.kind = .function
 nocell:∀y∈scope.names,y.2 ≠ .cell
 names:∀y∈scope.names,y.2 = .local->scope.names.lookup y.1=some .local
 free:∀y∈scope.names,y.2 = .free->X.env.kindOf y.1=some .cell
section
variable {X:Cx}{pins:List (Addr×Obj)}{σ:St}{H3:Hp}{s3:Shared}{scope:Scope}{fp:List Addr}{N' own cn:List Str}{ci:List Nat}{cv:List V}
theorem comp_has (ok:X.Ok)(S:CompSc X scope){x:Str}(h:(relabel scope X.env).names.lookup x=some .cell\/(relabel scope X.env).names.lookup x=some .free) :
 ∃c,(clOf X.env.cells scope.names []).lookup x=some c:=by
 have e:(relabel scope X.env).names.lookup x=(scope.names.lookup x).map fun k=>if (k==NameKind.free && X.env.scope.kind == .function && X.env.kindOf x==some .cell)=true then NameKind.cell else k:=lookup_relabel scope.names
 have hf:scope.names.lookup x=some .free:=by
  cases q:scope.names.lookup x with
  | none=>rw[e,q] at h;simp at h
  | some k=>
   by_cases hk:k = .free
   . rw[hk]
   . have hb:(k==NameKind.free)=false:=by simpa using hk
     rw[e,q] at h
     simp only[Option.map_some,hb,Bool.false_and,Bool.false_eq_true,if_false,Option.some.injEq] at h
     rcases h with h | h
     . exact absurd h (S.nocell _ (PySem.mem_of_lookup q))
     . exact absurd h hk
 exact clOf_has (ok.has x (.inl (S.free _ (PySem.mem_of_lookup hf) rfl))) scope.names [] (PySem.mem_of_lookup hf)
theorem comp_cl {x:Str}{c:Addr}(h:(clOf X.env.cells scope.names []).lookup x=some c):X.env.cells.lookup x=some c:=by
 rcases clOf_sub _ _ h with q | q
 . simp at q
 . exact q
theorem comp_ok (I:Inv X pins σ H3 s3)(S:CompSc X scope)(f:∀b∈fp,FpOk X pins H3 b)(fz:∀b∈fp,b<s3.heap.objs.size):(cxComp X (X.pn++pins) N' scope fp s3 H3).Ok where
 mod:=I.ok.mod
 kind:=S.kind
 glob:=I.ok.glob
 blt:=I.ok.blt
 above:=Nat.le_refl _
 inj:=fun x y c h1 h2=>I.ok.inj x y c (comp_cl h1) (comp_cl h2)
 has:=fun x h=>comp_has I.ok S h
 cab:=fun x c h=>by cases h
 hd:=I.ok.hd
 frames:=I.ok.frames
 stk:=.inl rfl
 exf:=fun b hb=>⟨Nat.ne_of_lt (fz b hb),fun x c h=>(f b hb).2.2.2.2.1 x c (comp_cl h)⟩
 bs:=I.bs
 bsz:=Nat.le_trans I.ok.bsz I.sz
 noex:=fun b o e hb=>by
  rcases (f b hb).2.2.2.1 with z | z
  . exact I.ok.noex b o e z
  . exact absurd (Nat.lt_of_lt_of_le (Heap.lt_size e) (Nat.le_trans I.ok.bsz z)) (Nat.lt_irrefl _)
 exfs:=fun b hb z=>by
  rcases List.mem_cons.mp (I.stkSub b z) with q | q
  . exact (f b hb).2.1 q
  . exact (f b hb).2.2.1 q
 funs:=I.stack
 frf:=I.stkFree
theorem comp_inv {h1:Heap}{t:Nat}(I:Inv X pins σ H3 s3)(S:CompSc X scope)(f:∀b∈fp,FpOk X pins H3 b)(fz:∀b∈fp,b<s3.heap.objs.size)
 (hN:N'=own++cn)(hc:CapOk X scope cn ci)(hv:ci.map (fun j=>σ[j]?)=cv.map fun v=>some (some v))(hl:cn.length=ci.length)
 (hns:h1.Ns s3.heap.objs.size (fun _=>none))(hk:∀b o,s3.heap.get? b=some o->h1.get? b=some o) :
 Inv (cxComp X (X.pn++pins) N' scope fp s3 H3) [] (List.replicate own.length none++cv.map some) H3 { s3 with heap:=h1,toks:=t }:=by
 have lenv:cv.length=ci.length:=by
  have:=congrArg List.length hv
  simpa using this.symm
 refine⟨comp_ok I S f fz,rfl,I.bare,Un.kept hk,⟨_,hns,fun i x v e1 e2 e3=>?_⟩,fun x c e=>?_,I.hok.fresh (Nat.le_refl _),fun x c e=>I.freeC x c (comp_cl e),fun p hp=>?_,I.hok.kept hk,?_⟩
 . -- a captured name
   have hi:own.length<=i:=by
    by_cases hi:own.length<=i
    . exact hi
    . rw[List.getElem?_append_left (by simpa using hi),List.getElem?_replicate] at e2
      split at e2 <;> cases e2
   rw[List.getElem?_append_right (by simpa using hi),List.length_replicate,List.getElem?_map] at e2
   have e1':(own++cn)[i]? = some x:=by rw[<-hN];exact e1
   rw[List.getElem?_append_right hi] at e1'
   obtain⟨j,hj,hNj,hkx,hfr⟩:=hc.get e1'
   have hcv:cv[i-own.length]? = some v:=by
    cases q:cv[i-own.length]? with
    | none=>rw[q] at e2;cases e2
    | some v'=>rw[q] at e2;cases e2;rfl
   have hσ:σ[j]? = some (some v):=by
    have:=congrArg (fun l:List (Option (Option V))=>l[i-own.length]?) hv
    simp only[List.getElem?_map,hj,hcv,Option.map_some,Option.some.injEq] at this
    exact this
   obtain⟨m,_,hl'⟩:=I.loc
   obtain⟨u,r,q⟩:=hl' j x v hNj hσ (.inr (.inl hkx))
   have hkd:(relabel scope X.env).names.lookup x=some .cell\/(relabel scope X.env).names.lookup x=some .free:=by
    have e:(relabel scope X.env).names.lookup x=(scope.names.lookup x).map fun k=>if (k==NameKind.free && X.env.scope.kind == .function && X.env.kindOf x==some .cell)=true then NameKind.cell else k:=lookup_relabel scope.names
    rw[e,hfr,Option.map_some]
    by_cases cc:(NameKind.free==NameKind.free && X.env.scope.kind == .function && X.env.kindOf x==some .cell)=true
    . rw[if_pos cc];exact .inl rfl
    . rw[if_neg cc];exact .inr rfl
   obtain⟨c',hc'⟩:=comp_has I.ok S hkd
   refine⟨u,r,.inr ⟨hkd,c',hc',?_⟩⟩
   rcases q with ⟨z,_⟩ | ⟨_,c,hcc,o,ho,hd⟩
   . rw[hkx] at z;cases z
   . have e:c=c':=Option.some.inj (hcc.symm.trans (comp_cl hc'))
     subst e
     exact⟨o,hk c o ho,hd⟩
 . obtain⟨v,o,ho,hd⟩:=I.cell x c (comp_cl e)
   exact⟨v,o,hk c o ho,hd⟩
 . have hp':p∈X.pn++pins:=by rw[List.append_nil] at hp;exact hp
   obtain⟨e,n,ne,nf,d⟩:=I.pin p hp'
   refine⟨hk _ _ e,n,Nat.ne_of_lt (Heap.lt_size e),fun z=>?_,d⟩
   rcases List.mem_cons.mp (I.stkSub p.1 z) with q | q
   . exact ne q
   . exact nf q
 . show (List.replicate own.length none++cv.map some).length=N'.length
   rw[hN,List.length_append,List.length_append,List.length_replicate,List.length_map,lenv,hl]
noncomputable def CompRd (J:It)(own:Nat)(cv:List V)(g:TG)(ti:TT)(te:TE)(D:Addr)(H1:Hp)(Q:VK):Prop:=∃W:Nat->Nat->List V->Hp->Prop,(∃m,W 0 m [] (upd H1 D (.lst [])))/\∀i m ys H,W i m ys H ->
 (J.stop i H/\Q (.ref D) H)\/(J.go i H/\ys.length<sizeLine/\∃N:List V->Hp->Prop,(∀ys' H',N ys' H'->∃m',m'<m/\W (i+1) m' ys' H') /\
  ∀x H',J.yld i H x H'->g x (List.replicate own none++cv.map some) H' fun σ2 H2=>(σ2.length=own+cv.length/\σ2.drop own=cv.map some) /\
   ti σ2 H2 fun b H3=>if b=true then te σ2 H3 fun y H4=>H4 D=some (.lst ys)/\N (ys++[y]) (upd H4 D (.lst (ys++[y]))) else N ys H3)
noncomputable def tComp (own:Nat)(ci:List Nat)(wi:TI)(g:TG)(ti:TT)(te:TE):TE:=fun σ H Q=>wi σ H fun J H1=>∃cv:List V,ci.map (fun j=>σ[j]?)=cv.map (fun v=>some (some v)) /\
 ∀D,H1 D=none->CompRd J own cv g ti te D H1 Q
theorem comp_core {elt target iter:Expr}{ifs:List Expr}{pos cpos:Pos}{wi:TI}{g:TG}{ti:TT}{te:TE}{use:Option (Value->Sem Unit)}{Q0:Value->Shared->Prop}{s:Shared}{H:Hp}{Q:VK}(hcalm:X.calm=true)(S:CompSc X scope)(hc:CapOk X scope cn ci)(hl:cn.length=ci.length)
 (hi:PI X target iter wi)(hg:∀pl fp s3 H3,PG (cxComp X pl (own++cn) scope fp s3 H3) target g)(ht:∀pl fp s3 H3,PTs (cxComp X pl (own++cn) scope fp s3 H3) ifs ti)
 (he:∀pl fp s3 H3,PE (cxComp X pl (own++cn) scope fp s3 H3) elt te)(hs:∀x,foldedSetIterable iter X.env x=pure x)(I:Inv X pins σ H s)(h:tComp own.length ci wi g ti te σ H Q)
 (fin:∀(D C:Addr)(H5:Hp)(s6:Shared)(m6:Str->Option Value),Inv X pins σ H5 s6->s6.heap.Ns C m6->H5 C=none->C≠X.env.locals->X.s₀.heap.objs.size<=C->(∀x c,X.env.cells.lookup x=some c->c≠C) ->
  (∀p∈X.pn++pins,p.1≠C)->Q (.ref D) H5->compPost (model X.prog X.w) X.A X.xe use Q0 (.ref D) C (.ok .next) s6) :
 wpAny (model X.prog X.w) X.A (comprehension (.ListComp elt [⟨target,iter,ifs,0⟩] scope pos) scope X.env cpos (newList []) false (eval iter X.env) use) Q0 X.xe s:=by
 have hcl:closureFor scope X.env=pure (clOf X.env.cells scope.names []):=closureFor_eq fun y hy hf=>I.ok.has y.1 (.inl (S.free y hy hf))
 refine wpAny_comprehension_free (use:=use) rfl hs hcl S.kind S.names ?_
 refine thn (hi pins s σ H _ I h) fun v s1 h1=>thn h1 fun itv s2 h2=>?_
 obtain⟨it,fp,tn,J,H2,e,I2,T,st2,f2,cv,hv,hD⟩:=h2
 subst e
 have lenv:cv.length=ci.length:=by
  have:=congrArg List.length hv
  simpa using this.symm
 have I3:=I2.lnew (ys:=[]) (its:=[]) (t':=s2.toks) .nil (Nat.zero_le _)
 obtain⟨W,⟨m0,w0⟩,turn⟩:=hD s2.heap.objs.size I2.fresh
 have fz:∀b∈fp,b<s2.heap.objs.size:=fun b hb=>by
  obtain⟨o,ho,_⟩:=T.obj _ _ st2 b hb
  exact Heap.lt_size ho
 refine wpAny_newObj_type ?_
 refine wpAny_newFunctionEnv S.nocell (by intro y hy;simp at hy) (fun h4 hns4 hsb4=>?_) S.kind
 generalize hs3:({ s2 with heap:=s2.heap.push { cls:=.type "list",dict:=none,data:=.seq ([]:List Value).toArray } }:Shared)=s3 at hns4 hsb4 ⊢
 have I3':Inv X pins σ (upd H2 s2.heap.objs.size (.lst [])) s3:=by rw[<-hs3];exact I3
 have hsz3:s3.heap.objs.size=s2.heap.objs.size+1:=by rw[<-hs3];exact Heap.size_push ..
 have k23:∀b o,s2.heap.get? b=some o->s3.heap.get? b=some o:=fun b o e=>by rw[<-hs3];exact Heap.get?_push_of_some _ e
 have k34:∀b o,s3.heap.get? b=some o->h4.get? b=some o:=fun b o e=>hsb4.extBut b o (Nat.ne_of_lt (Heap.lt_size e)) (Heap.get?_push_of_some _ e)
 have nD:∀b∈fp,b≠s2.heap.objs.size:=fun b hb=>Nat.ne_of_lt (fz b hb)
 have f3:∀b∈fp,FpOk X pins (upd H2 s2.heap.objs.size (.lst [])) b:=fun b hb=>⟨by rw[upd_ne (nD b hb)];exact (f2 b hb).1,(f2 b hb).2⟩
 have fz3:∀b∈fp,b<s3.heap.objs.size:=fun b hb=>by rw[hsz3];exact Nat.lt_succ_of_lt (fz b hb)
 have I4:Inv (cxComp X (X.pn++pins) (own++cn) scope fp s3 (upd H2 s2.heap.objs.size (.lst []))) [] (List.replicate own.length none++cv.map some) (upd H2 s2.heap.objs.size (.lst [])) { s3 with heap:=h4,toks:=s3.toks+([]:List (Str×Value)).length }:=
  comp_inv I3' S f3 fz3 rfl hc hv hl hns4 k34
 have st4:tn 0 h4:=T.keep _ _ _ st2 fun b hb o e=>k34 b o (k23 b o e)
 generalize hX:cxComp X (X.pn++pins) (own++cn) scope fp s3 (upd H2 s2.heap.objs.size (.lst []))=X' at I4
 have hg':PG X' target g:=by rw[<-hX];exact hg _ _ _ _
 have ht':PTs X' ifs ti:=by rw[<-hX];exact ht _ _ _ _
 have he':PE X' elt te:=by rw[<-hX];exact he _ _ _ _
 have ePr:X'.prog=X.prog:=by rw[<-hX];rfl
 have eW:X'.w=X.w:=by rw[<-hX];rfl
 have eK:X'.K=X.K:=by rw[<-hX];rfl
 have eA:X'.A=X.A:=by rw[<-hX];rfl
 have eE:X'.env=compEnvC scope (clOf X.env.cells scope.names []) s3.heap.objs.size X.env:=by rw[<-hX];rfl
 have eXe:X'.xe=fun _ _=>False:=by rw[<-hX];rfl
 have eC:X'.calm=true:=by rw[<-hX];exact hcalm
 have eex:X'.ex=fp:=by rw[<-hX];rfl
 have epn:X'.pn=X.pn++pins:=by rw[<-hX];rfl
 have es0:X'.s₀=s3:=by rw[<-hX];rfl
 have eH0:X'.H₀=upd H2 s2.heap.objs.size (.lst []):=by rw[<-hX];rfl
 have efs:X'.fs=frs X.stack:=by rw[<-hX];rfl
 have ok':=I4.ok
 have stat:∀{H':Hp},(∀b∈fp,H' b=none)->∀b∈fp,FpOk X' [] H' b:=fun hn b hb=>by
  have hb':b∈X'.ex:=by rw[eex];exact hb
  refine⟨hn b hb,(ok'.exf b hb').1,ok'.exfs b hb',.inl hb',(ok'.exf b hb').2,fun p hp=>?_⟩
  rw[epn,List.append_nil] at hp
  exact (f2 b hb).2.2.2.2.2 p hp
 have wk:∀(σ2:St),(σ2.length=own.length+cv.length/\σ2.drop own.length=cv.map some)->∀{pl:List (Addr×Obj)}{H':Hp}{s':Shared},Inv X' pl σ2 H' s'->Inv X' pl (List.replicate own.length none++cv.map some) H' s':=fun σ2 hq pl H' s' I'=>by
  refine I'.weak (by rw[hq.1,List.length_append,List.length_replicate,List.length_map]) fun i v hi=>?_
  by_cases hlt:i<own.length
  . rw[List.getElem?_append_left (by simpa using hlt),List.getElem?_replicate] at hi
    split at hi <;> cases hi
  . rw[List.getElem?_append_right (by simpa using hlt),List.length_replicate,<-hq.2,List.getElem?_drop] at hi
    rw[show own.length+(i-own.length)=i by omega] at hi
    exact hi
 have loop:codeAny (model X.prog X.w) X.A (.compLoop (.ListComp elt [⟨target,iter,ifs,0⟩] scope pos) 0 (.ref it) (.ref s2.heap.objs.size) (compEnvC scope (clOf X.env.cells scope.names []) s3.heap.objs.size X.env))
  (compPost (model X.prog X.w) X.A X.xe use Q0 (.ref s2.heap.objs.size) s3.heap.objs.size) { s3 with heap:=h4,toks:=s3.toks+([]:List (Str×Value)).length }:=by
  refine compLoop_gen (fun n s'=>∃i ys H',Inv X' [] (List.replicate own.length none++cv.map some) H' s'/\tn i s'.heap/\(∀b∈fp,H' b=none)/\W i n ys H') ?_ m0
   ⟨0,[],_,I4,st4,fun b hb=>(f3 b hb).1,w0⟩
  rintro n s5 ⟨i,ys,H5,I5,st5,fr5,w5⟩
  rcases turn i n ys H5 w5 with ⟨stop,qn⟩ | ⟨go,hsz,N,hN,step⟩
  . have d:=T.done X' ePr eW eK eC i [] s5 _ H5 (fun _ _=>False) I5 (stat fr5) st5 stop
    rw[eA] at d
    refine thn d fun r s6 ⟨hr,I6⟩=>?_
    subst hr
    obtain⟨m6,hn6,_⟩:=I6.loc
    rw[eE] at hn6
    have hn6':s6.heap.Ns s3.heap.objs.size m6:=hn6
    have un6:Un (frs X.stack) fp (upd H2 s2.heap.objs.size (.lst [])) H5 s3.heap s6.heap:=by
     have b6:=I6.base
     rw[efs,eex,eH0,es0] at b6
     exact b6
    have os6:s6.os=s3.os:=by have o6:=I6.os;rw[es0] at o6;exact o6
    have hok6:HOk X.prog X.w H5 s6.heap:=by have o6:=I6.hok;rw[ePr,eW] at o6;exact o6
    have I7:Inv X pins σ H5 s6:=I3'.call' (ch:=fp) os6 un6 hok6 I6.bare fun b hb=>⟨(f2 b hb).2.2.2.1,(f2 b hb).2.1,(f2 b hb).2.2.2.2.1,(f2 b hb).2.2.2.2.2⟩
    have fr6:H5 s3.heap.objs.size=none:=by
     have q:=I6.free
     rw[eE] at q
     exact q
    refine fin s2.heap.objs.size s3.heap.objs.size H5 s6 m6 I7 hn6' fr6 (Nat.ne_of_gt I3'.lt) I3'.sz (fun x c e=>?_) (fun p hp=>?_) qn
    . obtain⟨_,o,ho,_⟩:=I3'.cell x c e
      exact Nat.ne_of_lt (Heap.lt_size ho)
    . exact Nat.ne_of_lt (Heap.lt_size (I3'.pin p hp).1)
  . have d:=T.item X' ePr eW eK eC i [] s5 _ H5 (fun _ _=>False) I5 (stat fr5) st5 go
    rw[eA] at d
    refine thn d fun r s6 ⟨u,hr,h6⟩=>?_
    subst hr
    refine thn h6 fun _ s7 ⟨x,H7,I7,r7,y7,st7,fr7⟩=>?_
    have I7':=I7.pinned (stat fr7) (T.obj _ _ st7)
    have g7:=hg' _ s7 _ H7 x u _ I7' r7 (step x H7 y7)
    rw[ePr,eW,eA,eE,eXe] at g7
    refine thn g7 fun _ s8 ⟨σ8,H8,I8,q8,ti8⟩=>?_
    have t8:=ht' _ s8 σ8 H8 _ I8 ti8
    rw[ePr,eW,eA,eE,eXe] at t8
    refine thn t8 fun ok s9 ⟨H9,I9,q9⟩=>?_
    have again:∀{ys':List V}{H':Hp}{s':Shared},Inv X' ([]++pinsAt fp s7.heap) σ8 H' s'->N ys' H' ->
     ∃m,m<n/\∃i ys H',Inv X' [] (List.replicate own.length none++cv.map some) H' s'/\tn i s'.heap/\(∀b∈fp,H' b=none)/\W i m ys H':=fun {ys' H' s'} I' n'=>by
     obtain⟨m',hm,w'⟩:=hN ys' H' n'
     refine⟨m',hm,i+1,ys',H',(wk σ8 q8 I').unpinned,T.keep _ _ _ st7 fun b hb o e=>(I'.pin (b,o) (List.mem_append_right _ (List.mem_append_right _ (mem_pinsAt hb e)))).1,fun b hb=>?_,w'⟩
     obtain⟨o,e,_⟩:=T.obj _ _ st7 b hb
     exact (I'.pin (b,o) (List.mem_append_right _ (List.mem_append_right _ (mem_pinsAt hb e)))).2.1
    cases ok with
    | false=>exact again I9 q9
    | true=>
     have e9:=he' _ s9 σ8 H9 _ I9 q9
     rw[ePr,eW,eA,eE,eXe] at e9
     refine thn e9 fun u10 s10 ⟨y,H10,I10,r10,hD10,n10⟩=>?_
     have a10:=mt_append (X:=X') _ s10 σ8 H10 (.ref s2.heap.objs.size) [y] (.ref s2.heap.objs.size) [u10] (fun _ H'=>N (ys++[y]) H') I10 rfl (.cons r10 .nil) ⟨_,_,_,rfl,rfl,hD10,hsz,n10⟩
     rw[ePr,eW,eA,eXe] at a10
     exact thn a10 fun _ s11 ⟨_,H11,I11,_,n11⟩=>again I11 n11
 exact codeAny_compStart_list loop (T.self X.A 0 _ _ _ st4 loop)
theorem pe_comp {elt target iter:Expr}{ifs:List Expr}{pos:Pos}{wi:TI}{g:TG}{ti:TT}{te:TE}(hcalm:X.calm=true)(S:CompSc X scope)(hc:CapOk X scope cn ci)(hl:cn.length=ci.length)
 (hi:PI X target iter wi)(hg:∀pl fp s3 H3,PG (cxComp X pl (own++cn) scope fp s3 H3) target g)(ht:∀pl fp s3 H3,PTs (cxComp X pl (own++cn) scope fp s3 H3) ifs ti)
 (he:∀pl fp s3 H3,PE (cxComp X pl (own++cn) scope fp s3 H3) elt te)(hs:∀x,foldedSetIterable iter X.env x=pure x:=by intro _;rfl) :
 PE X (.ListComp elt [⟨target,iter,ifs,0⟩] scope pos) (tComp own.length ci wi g ti te):=by
 intro pins s σ H Q I h
 rw[eval_ListComp]
 exact comp_core hcalm S hc hl hi hg ht he hs I h fun D C H5 s6 m6 I7 hn fr nL ge nC nP q=>⟨m6,hn,fun h' hs'=>⟨.ref D,H5,I7.turned (t':=s6.toks) (it:=C) (fun b o hb e=>hs'.extBut b o hb e) fr nL (.inr ge) nC nP,rfl,q⟩⟩
theorem ps_setC {elt target iter:Expr}{ifs:List Expr}{pos pos' cpos:Pos}{wi:TI}{g:TG}{ti:TT}{te:TE}{i:Nat}{x:Str}(hN:X.N.Nodup)(hix:X.N[i]? = some x)(hx:Loc X.env.scope x)(hcalm:X.calm=true)(S:CompSc X scope)(hc:CapOk X scope cn ci)(hl:cn.length=ci.length)
 (hi:PI X target iter wi)(hg:∀pl fp s3 H3,PG (cxComp X pl (own++cn) scope fp s3 H3) target g)(ht:∀pl fp s3 H3,PTs (cxComp X pl (own++cn) scope fp s3 H3) ifs ti)
 (he:∀pl fp s3 H3,PE (cxComp X pl (own++cn) scope fp s3 H3) elt te)(hs:∀x,foldedSetIterable iter X.env x=pure x:=by intro _;rfl)
 (hsw:swapsWith (.ListComp elt [⟨target,iter,ifs,0⟩] scope cpos) (some (.Name x pos')) pos.line X.env=pure true:=by rfl)
 (hf:X.fn x=true\/X.env.scope.names.lookup x=some .local:=by first | exact .inl rfl | exact .inr rfl | assumption) :
 PS X (.Assign [.Name x pos'] (.ListComp elt [⟨target,iter,ifs,0⟩] scope cpos) pos) (tAsg (tComp own.length ci wi g ti te) (gName i)):=by
 intro pins s σ H D I h
 rw[exec_Assign_Name_used _ _ _ _ hsw]
 refine wpAny_bind (wpAny_standAt (wpAny_bind ?_))
 show wpAny _ X.A (do let _ <-comprehension (.ListComp elt [⟨target,iter,ifs,0⟩] scope cpos) scope X.env _ (newList []) false (eval iter X.env) (some (assign (.Name x pos') X.env))) _ _ s
 refine wpAny_bind (wpAny_mono (comp_core (use:=some (assign (.Name x pos') X.env)) (Q0:=fun _ s'=>SP X pins D .next s') hcalm S hc hl hi hg ht he hs I h (fun D' C H5 s6 m6 I7 hn fr nL ge nC nP q=>?_)) (fun _ s' hq=>wpAny_pure (wpAny_pure hq)) fun _ _ e=>e)
 obtain⟨oC,es,ep,hoC,hd,r1⟩:=hn
 have nf:C∉X.fs:=fun hb=>by
  obtain⟨_,o,ho,_⟩:=I7.ok.funs.mem hb
  exact absurd (Nat.lt_of_lt_of_le (Heap.lt_size ho) ge) (Nat.lt_irrefl _)
 have I7':Inv X (pins++[(C,oC)]) σ H5 s6:=I7.pins_of fun p hp=>by
  rcases List.mem_append.mp hp with z | z
  . exact I7.pin p (List.mem_append_right _ z)
  . rw[List.mem_singleton.mp z]
    exact⟨hoC,fr,nL,nf,fun v e=>by rw[hd] at e;cases e⟩
 show wpAny _ X.A (assign (.Name x pos') X.env (.ref D')) _ _ s6
 refine wpAny_assign_Name (store_ok I7' hN hix hx (show RelV (.ref D') (.ref D') from rfl) (fun s' I'=>?_) hf)
 have hC':=(I'.pin (C,oC) (List.mem_append_right _ (List.mem_append_right _ (List.mem_singleton.mpr rfl)))).1
 refine⟨m6,⟨oC,es,ep,hC',hd,r1⟩,fun h' hs'=>⟨_,H5,?_,q⟩⟩
 have I2:Inv X pins (σ.set i (some (.ref D'))) H5 s':=I'.pins_of fun p hp=>I'.pin p (List.mem_append_right _ (List.mem_append_left _ hp))
 exact I2.turned (t':=s'.toks) (it:=C) (fun b o hb e=>hs'.extBut b o hb e) fr nL (.inr ge) nC nP
end
noncomputable def cscOk (outer inner:Scope):Bool:=inner.names.all fun y=>(y.2 != .cell) && (y.2 != .local || inner.names.lookup y.1==some .local) && (y.2 != .free || outer.names.lookup y.1==some .cell)
theorem csc {X:Cx}{scope:Scope}(hk:scope.kind = .function)(h:cscOk X.env.scope scope=true):CompSc X scope:=by
 have a:=List.all_eq_true.mp h
 refine⟨hk,fun y hy e=>?_,fun y hy e=>?_,fun y hy e=>?_⟩
 . have:=a y hy
   rw[e] at this
   simp at this
 . have:=a y hy
   rw[e] at this
   simpa using this
 . have:=a y hy
   rw[e] at this
   have h2:X.env.scope.names.lookup y.1=some .cell:=by simpa using this
   exact h2
theorem nd_of {l:List Str}(h:decide l.Nodup=true):l.Nodup:=of_decide_eq_true h
section
variable {X:Cx}{pl:List (Addr×Obj)}{N':List Str}{sc:Scope}{fp:List Addr}{s3:Shared}{H3:Hp}
theorem ix_tupC:IxR (cxComp X pl N' sc fp s3 H3) (rIxT X.K):=ix_tup
theorem ix_listC:IxR (cxComp X pl N' sc fp s3 H3) (rIxL X.K):=ix_list
theorem pg_tupC {es:List Expr}{k:Nat}{t:TGs}{n:Nat}{pos:Pos}(hc:X.calm=true)(h:PGs (cxComp X pl N' sc fp s3 H3) es t)
 (hn:(assignEach es (cxComp X pl N' sc fp s3 H3).env).length=n:=by rfl)(hst:(assignEach es (cxComp X pl N' sc fp s3 H3).env).findIdx? (·.1)=none:=by rfl):PG (cxComp X pl N' sc fp s3 H3) (.Tuple es k pos) (gTup X.K n t):=pg_tup hc h hn hst
end
theorem comp_list {K:PySem.W.Frag}{a:Addr}{xs:List V}{own:Nat}{g:TG}{ti:TT}{te:TE}{cv:List V}{D:Addr}{H1:Hp}{Q:VK}(Pv:Nat->List V->Hp->Prop)(h0:Pv 0 [] (upd H1 D (.lst [])))(hl:∀i ys H,Pv i ys H->SqL K H a xs)(hz:∀i ys H,Pv i ys H->ys.length<sizeLine)
 (hs:∀i x ys H,xs[i]? = some x->Pv i ys H->g x (List.replicate own none++cv.map some) H fun σ2 H2=>(σ2.length=own+cv.length/\σ2.drop own=cv.map some) /\
  ti σ2 H2 fun b H3=>if b=true then te σ2 H3 fun y H4=>H4 D=some (.lst ys)/\Pv (i+1) (ys++[y]) (upd H4 D (.lst (ys++[y]))) else Pv (i+1) ys H3)
 (hd:∀ys H,Pv xs.length ys H->Q (.ref D) H) :
 CompRd (Itl K a) own cv g ti te D H1 Q:=by
 refine⟨fun i m ys H=>m=xs.length-i/\i<=xs.length/\Pv i ys H,⟨xs.length,rfl,Nat.zero_le _,h0⟩,?_⟩
 rintro i m ys H ⟨rfl,hi,p⟩
 have q:=hl i ys H p
 by_cases hlt:i<xs.length
 . refine .inr ⟨⟨xs,xs[i],q,by simp[hlt]⟩,hz i ys H p,Pv (i+1),fun ys' H' p'=>⟨xs.length-(i+1),by omega,rfl,hlt,p'⟩,fun x H' y=>?_⟩
   obtain⟨e,y⟩:=y
   subst e
   exact hs i x ys _ (y xs q) p
 . have e:i=xs.length:=by omega
   subst e
   exact .inl ⟨⟨xs,q,Nat.le_refl _⟩,hd ys H p⟩
theorem comp_tup {K:PySem.W.Frag}{a:Addr}{xs:List V}{own:Nat}{g:TG}{ti:TT}{te:TE}{cv:List V}{D:Addr}{H1:Hp}{Q:VK}(Pv:Nat->List V->Hp->Prop)(h0:Pv 0 [] (upd H1 D (.lst [])))(hl:∀i ys H,Pv i ys H->SqT K H a xs)(hz:∀i ys H,Pv i ys H->ys.length<sizeLine)
 (hs:∀i x ys H,xs[i]? = some x->Pv i ys H->g x (List.replicate own none++cv.map some) H fun σ2 H2=>(σ2.length=own+cv.length/\σ2.drop own=cv.map some) /\
  ti σ2 H2 fun b H3=>if b=true then te σ2 H3 fun y H4=>H4 D=some (.lst ys)/\Pv (i+1) (ys++[y]) (upd H4 D (.lst (ys++[y]))) else Pv (i+1) ys H3)
 (hd:∀ys H,Pv xs.length ys H->Q (.ref D) H) :
 CompRd (Itt K a) own cv g ti te D H1 Q:=by
 refine⟨fun i m ys H=>m=xs.length-i/\i<=xs.length/\Pv i ys H,⟨xs.length,rfl,Nat.zero_le _,h0⟩,?_⟩
 rintro i m ys H ⟨rfl,hi,p⟩
 have q:=hl i ys H p
 by_cases hlt:i<xs.length
 . refine .inr ⟨⟨xs,xs[i],q,by simp[hlt]⟩,hz i ys H p,Pv (i+1),fun ys' H' p'=>⟨xs.length-(i+1),by omega,rfl,hlt,p'⟩,fun x H' y=>?_⟩
   obtain⟨e,y⟩:=y
   subst e
   exact hs i x ys _ (y xs q) p
 . have e:i=xs.length:=by omega
   subst e
   exact .inl ⟨⟨xs,q,Nat.le_refl _⟩,hd ys H p⟩
theorem comp_range {lo:Int}{n own:Nat}{g:TG}{ti:TT}{te:TE}{cv:List V}{D:Addr}{H1:Hp}{Q:VK}(Pv:Nat->List V->Hp->Prop)(h0:Pv 0 [] (upd H1 D (.lst [])))(hz:∀i ys H,Pv i ys H->ys.length<sizeLine)
 (hs:∀i ys H,i<n->Pv i ys H->g (.int (lo+i)) (List.replicate own none++cv.map some) H fun σ2 H2=>(σ2.length=own+cv.length/\σ2.drop own=cv.map some) /\
  ti σ2 H2 fun b H3=>if b=true then te σ2 H3 fun y H4=>H4 D=some (.lst ys)/\Pv (i+1) (ys++[y]) (upd H4 D (.lst (ys++[y]))) else Pv (i+1) ys H3)
 (hd:∀ys H,Pv n ys H->Q (.ref D) H) :
 CompRd (Itr lo n) own cv g ti te D H1 Q:=by
 refine⟨fun i m ys H=>m=n-i/\i<=n/\Pv i ys H,⟨n,rfl,Nat.zero_le _,h0⟩,?_⟩
 rintro i m ys H ⟨rfl,hi,p⟩
 by_cases hlt:i<n
 . refine .inr ⟨hlt,hz i ys H p,Pv (i+1),fun ys' H' p'=>⟨n-(i+1),by omega,rfl,hlt,p'⟩,fun x H' y=>?_⟩
   obtain⟨e,y⟩:=y
   subst e
   subst y
   exact hs i ys _ hlt p
 . have e:i=n:=by omega
   subst e
   exact .inl ⟨Nat.le_refl _,hd ys H p⟩
end L2
namespace SortT
open PySem.W PyProof.Rows
section
variable {O:KeyOrd}{key:Nat->O.α}
end
end SortT
namespace SortT
open PySem.W PyProof.Rows
end SortT
namespace SortT
open PySem PySem.W PySem.Calls PyProof.Rows
section
variable {prog:Program}{w:World}{A:Around}{E:Value->Shared->Prop}{s:Shared}
end
end SortT
namespace DRaw
open PySem PySem.W PySem.Calls PyProof.Rows
section
variable {prog:Program}{w:World}{A:Around}{E:Value->Shared->Prop}{s:Shared}{it d:Addr}{es:Array DictEntry}{i ep:Nat}
end
section
variable {prog:Program}{w:World}{A:Around}{d:Addr}{es:Array DictEntry}{ep:Nat}
end
end DRaw
namespace SortT
open PySem PySem.W PySem.Calls PyProof.Rows
end SortT
namespace L2
open PySem PySem.Spec PyProof.Rows
section
variable {prog:Program}{w:World}{A:Around}{s:Shared}
end
section
variable {X:Cx}
end
end L2
namespace L2
open PySem PySem.Spec PyProof.Rows
mutual
inductive Shows (H:Hp):V->PyData->Prop
 | non:Shows H .non .none
 | bl (b:Bool):Shows H (.bl b) (.bool b)
 | int (i:Int):Shows H (.int i) (.int i)
 | str (x:Str):Shows H (.str x) (.str x)
 | tup {a:Addr}{xs:List V}{ds:List PyData}:H a=some (.tup xs)->ShowsAll H xs ds->Shows H (.ref a) (.tuple ds)
 | lst {a:Addr}{xs:List V}{ds:List PyData}:H a=some (.lst xs)->ShowsAll H xs ds->Shows H (.ref a) (.list ds)
inductive ShowsAll (H:Hp):List V->List PyData->Prop
 | nil:ShowsAll H [] []
 | cons {x:V}{xs:List V}{d:PyData}{ds:List PyData}:Shows H x d->ShowsAll H xs ds->ShowsAll H (x::xs) (d::ds)
end
section
variable {P:Program}{w:World}{H:Hp}{h:Heap}
mutual
theorem Shows.reads (ok:HOk P w H h):∀{x:V}{d:PyData},Shows H x d->∀{u:Value},RelV x u->∃as,Reads h u d as
 | _,_,.non,u,r=>by cases (show u=Value.none from r);exact⟨_,.none⟩
 | _,_,.bl b,u,r=>by cases (show u=Value.bool b from r);exact⟨_,.bool b⟩
 | _,_,.int i,u,r=>by obtain⟨t,rfl⟩:=r;exact⟨_,.int i t⟩
 | _,_,.str x,u,r=>by obtain⟨t,rfl⟩:=r;exact⟨_,.str x t⟩
 | _,_,.tup (a:=a) e s,u,r=>by
  cases (show u=Value.ref a from r)
  obtain⟨_,its,rv,o,ho,hc,n,hd⟩:=ok a _ e
  obtain⟨as,ra⟩:=ShowsAll.reads ok s rv
  exact⟨_,.tuple ho hc hd (by simpa using ra)⟩
 | _,_,.lst (a:=a) e s,u,r=>by
  cases (show u=Value.ref a from r)
  obtain⟨_,its,n,rv,ho⟩:=ok a _ e
  obtain⟨as,ra⟩:=ShowsAll.reads ok s rv
  exact⟨_,.list ho rfl rfl (by simpa using ra)⟩
theorem ShowsAll.reads (ok:HOk P w H h):∀{xs:List V}{ds:List PyData},ShowsAll H xs ds->∀{us:List Value},Vals xs us->∃as,ReadsAll h us ds as
 | _,_,.nil,us,r=>by cases r;exact⟨_,.nil⟩
 | _,_,.cons s t,us,r=>by
  cases r with
  | cons r1 r2=>
   obtain⟨a1,h1⟩:=Shows.reads ok s r1
   obtain⟨a2,h2⟩:=ShowsAll.reads ok t r2
   exact⟨_,.cons h1 h2⟩
end
end
section
variable {X:Cx}
end
end L2
namespace L2
open PySem PySem.Spec PyProof.Rows
section
variable {X:Cx}{es xs:List Expr}{t t1:TA}
theorem pa_int {i j pos} (hr:PA X es t):PA X (.Constant (.int i) j pos::es) (tCons (tC (.int i)) t):=pa_cons pe_int hr (by rfl)
theorem pa_lst {pos} (h:PA X xs t1)(hr:PA X es t):PA X (.List xs pos::es) (tCons (tLst t1) t):=pa_cons (pe_lst h) hr (by rfl)
end
end L2
namespace WM
end WM
namespace WM
end WM
namespace WM
end WM
namespace WM
end WM
namespace WM
end WM
namespace WM
end WM
namespace L2
open PySem PySem.Spec PyProof.Rows
section
variable {X:Cx}
end
section
variable {X:Cx}{pins:List (Addr×Obj)}{σ:St}{H:Hp}{s:Shared}
end
section
variable {X:Cx}
end
end L2
namespace L2
open PySem PySem.Spec PyProof.Rows
section
variable {κ:Type} [DecidableEq κ]
end
end L2
namespace L2
open PySem PySem.Spec PyProof.Rows
section
variable {X:Cx}
end
end L2
namespace L2
open PySem PySem.Spec PyProof.Rows
section
variable {X:Cx}
end
end L2
namespace L2
open PySem PySem.Spec PyProof.Rows
section
variable {X:Cx}{pins:List (Addr×Obj)}{σ:St}{H3:Hp}{s3:Shared}{scope:Scope}{fp:List Addr}{N' own cn:List Str}{ci:List Nat}{cv:List V}{yc:Str}
end
end L2
namespace L2
open PySem PySem.Spec PyProof.Rows
section
variable {X:Cx}
end
section
variable {X:Cx}{pl:List (Addr×Obj)}{N':List Str}{sc:Scope}{fp:List Addr}{s3:Shared}{H3:Hp}
theorem pe_bmC {o e:Expr}{es:List Expr}{to:TE}{t:TA}{name:Str}{apos cpos:Pos}{T id:String}{r:V->List V->Hp->VK->Prop}(pa:PlainAttrs T)(slot:Slot T name id)(hty:typeOf (.builtin id)=pure (.type "method_descriptor")) (hm:MtR (cxComp X pl N' sc fp s3 H3) id r)(ho:PE (cxComp X pl N' sc fp s3 H3) o to)(ha:PA (cxComp X pl N' sc fp s3 H3) (e::es) t)
 (hbase:attributeBase o name (cxComp X pl N' sc fp s3 H3).env (eval o (cxComp X pl N' sc fp s3 H3).env)=eval o (cxComp X pl N' sc fp s3 H3).env:=by rfl)
 (hfew:((backTo cpos (starEach (e::es) (cxComp X pl N' sc fp s3 H3).env)).all (fun x=>!x.1) && (backToKw cpos (keywordEach [] (cxComp X pl N' sc fp s3 H3).env)).all (fun x=>x.1.isSome)
  && decide ((e::es).length+([]:List Keyword).length+(if ([]:List Keyword).isEmpty then 0 else 1)<30))=true:=by rfl)
 (hline:(apos.endLine==cpos.line)=true:=by rfl)(hs:starEach (e::es) (cxComp X pl N' sc fp s3 H3).env=(false,eval e (cxComp X pl N' sc fp s3 H3).env)::starEach es (cxComp X pl N' sc fp s3 H3).env:=by rfl)(hplain:(backTo cpos (starEach es (cxComp X pl N' sc fp s3 H3).env)).any (·.1)=false:=by rfl) :
 PE (cxComp X pl N' sc fp s3 H3) (.Call (.Attribute o name apos) (e::es) [] cpos) (tBM X.K T r to t):=pe_bm pa slot hty hm ho ha hbase hfew hline hs hplain
end
section
variable {X:Cx}
noncomputable def rEqE (K:PySem.W.Frag):R2:=fun x y H Q=>∃(a b:Addr)(xs:List V),x = .ref a/\y = .ref b/\SqL K H a xs/\SqL K H b []/\Q (.bl xs.isEmpty) H
theorem op_eqE (hu:X.A.units<cLine):OpR X (compareOp .Eq) (rEqE X.K):=by
 intro pins s σ H x y v u Q I rx ry h
 obtain⟨a,b,xs,rfl,rfl,ha,hb,q⟩:=h
 cases rx
 cases ry
 obtain⟨its,r,pl,hz⟩:=I.list ha
 obtain⟨its2,r2,pl2,hz2⟩:=I.list hb
 have l1:=r.length
 have l2:=r2.length
 cases xs with
 | nil=>
  refine SeqAt.eq_listAt (e:=fun _=>true) pl.isList pl2.isList (by rw[List.size_toArray,List.size_toArray,<-l1,<-l2]) hu (fun j a b=>absurd a (by rw[List.size_toArray,<-l1];exact Nat.not_lt_zero _)) ⟨.bl _,H,I,rfl,?_⟩
  rw[List.size_toArray,<-l1]
  exact q
 | cons x xs=>
  refine SeqAt.eq_list_lengthsAt pl.isList pl2.isList (by rw[List.size_toArray,List.size_toArray,<-l1,<-l2];rfl) hu ⟨.bl _,H,I,rfl,?_⟩
  exact q
end
end L2
namespace L2
open PySem PyProof.Rows
noncomputable def Kp (s0:Shared)(h:Heap):Prop:=∀b o,s0.heap.get? b=some o->h.get? b=some o
section
variable {prog:Program}{w:World}{A:Around}{s0:Shared}{I S:Addr}{its:List Value}{itAt:Nat->Heap->Prop}
theorem Kp.but {h h':Heap}(K:Kp s0 h)(hI:s0.heap.objs.size<=I)(k:∀b o,b≠I->h.get? b=some o->h'.get? b=some o):Kp s0 h':=fun b o e=>
 k b o (Nat.ne_of_lt (Nat.lt_of_lt_of_le (Heap.lt_size e) hI)) (K b o e)
end
end L2
namespace L2
open PySem PyProof.Rows
theorem wpAny_of_eq {α:Type}{M:Model}{A:Around}{E:Value->Shared->Prop}{s:Shared}{m m':Sem α}{Q:α->Shared->Prop}(e:m=m')(h:wpAny M A m' Q E s):wpAny M A m Q E s:=by subst e;exact h
section
variable {X:Cx}
end
end L2
namespace L2
open PySem PyProof.Rows
section
variable {prog:Program}{w:World}{A:Around}{s0:Shared}{D I l:Addr}{its:List Value}{qs:List (Key×Value)}
end
section
variable {X:Cx}
end
end L2
namespace L2
open PySem PySem.Spec PyProof.Rows
section
variable {X:Cx}
theorem pe_tyN {x:Str}{T:String}{pos:Pos}(hg:Gl X x)(hm:X.mg x=none)(hv:bootBuiltins x=some (.type T))(hn:x ≠ "__name__" := by decide) (hdb:(x==("__debug__" : Str))=false:=by decide):PE X (.Name x pos) (tC (.ty T)):=
 fun pins s σ H Q I h=>ld_blt I hg hm hv ⟨.ty T,H,I,rfl,h⟩ hn hdb
theorem call_isinst:CallR X (.builtin "isinstance") (fun xs H Q=>∃x T t b,xs=[x,.ty T]/\TyOf X.K H x t/\PySem.W.kitOne X.K t (.type T)=some b/\Q (.bl b) H):=by
 intro pins s σ H xs us Q I r h
 obtain⟨x,T,t,b,rfl,ty,e,q⟩:=h
 obtain⟨u,w',rfl,rx,rT⟩:=vals2 r
 cases (show w'=Value.type T from rT)
 exact isinst_ok I rx ty e fun tk=>⟨.bl b,H,I.tok tk,rfl,q⟩
theorem ps_no {st:Stmt}:PS X st (fun _ _ _=>False):=fun _ _ _ _ _ _ h=>h.elim
end
section
variable {prog:Program}{w:World}{A:Around}{s0:Shared}{I l:Addr}{bs:List Bool}
theorem all_loop {R:Result->Shared->Prop}(hA:A.handled=none)(hI:s0.heap.objs.size<=I)(hl:s0.heap.IsList l (bs.map Value.bool).toArray)
 (hR:∀(h:Heap)(tk:Nat),Kp s0 h->R (.ok (.ret (.bool (bs.all id)))) { s0 with heap:=h,toks:=tk }) :
 ∀(r j:Nat)(h:Heap)(tk:Nat),bs.length-j=r->j<=bs.length->Kp s0 h->h.IsListIter I l j->(bs.take j).all id=true ->
  codeAny (model prog w) A (.builtin "all.loop" { pos:=[.ref I] }) R { s0 with heap:=h,toks:=tk }:=by
 have hl':∀h,Kp s0 h->h.IsList l (bs.map Value.bool).toArray:=fun h K=>by
  obtain⟨o,ho,hc⟩:=hl
  exact⟨o,K _ _ ho,hc⟩
 intro r
 induction r with
 | zero=>
  intro j h tk hr hj K hit ha
  refine codeAny_builtin PySem.F.entry_all_loop ?_
  unfold Builtin.«all.loop»
  refine wpAny_bind (wpAny_pyNext_list_end hA hit (hl' h K) (by rw[List.getElem?_toArray];exact List.getElem?_eq_none (by rw[List.length_map];omega)) fun h' b=>?_)
  refine wpAny_bind (wpAny_rule (wpAny_pure ?_))
  rw[List.take_of_length_le (by omega)] at ha
  have:=hR h' tk (K.but hI b)
  rw[ha] at this
  exact this
 | succ r ih=>
  intro j h tk hr hj K hit ha
  obtain⟨x,hx⟩:∃x,bs[j]? = some x:=⟨_,List.getElem?_eq_getElem (by omega)⟩
  refine codeAny_builtin PySem.F.entry_all_loop ?_
  unfold Builtin.«all.loop»
  refine wpAny_bind (wpAny_pyNext_list_item hit (hl' h K) (x:=.bool x) (by rw[List.getElem?_toArray,List.getElem?_map,hx];rfl) fun h' hit' b=>?_)
  have K':Kp s0 h':=K.but hI fun c o hc e=>by rw[b.2 c hc];exact e
  refine wpAny_bind (wpAny_holding (wpAny_truthy_bool (wpAny_bind (wpAny_letGo ?_))))
  cases x with
  | true=>
   refine wpAny_pure ⟨rfl,?_⟩
   exact ih (j+1) h' tk (by omega) (by omega) K' hit' (by rw[List.take_add_one,hx,List.all_append,ha];rfl)
  | false=>
   refine wpAny_bind (wpAny_rule (wpAny_pure ?_))
   have e:bs.all id=false:=by
    cases z:bs.all id with
    | false=>rfl
    | true=>have:=List.all_eq_true.mp z false (List.mem_of_getElem? hx);simp at this
   have:=hR h' tk K'
   rw[e] at this
   exact this
end
section
variable {X:Cx}
theorem bools_of:∀{bs:List Bool}{its:List Value},Vals (bs.map V.bl) its->its=bs.map Value.bool
 | [],[],_=>rfl
 | b::bs,u::its,h=>by
  cases h with
  | cons h1 h2=>rw[List.map_cons,<-bools_of h2,show u=Value.bool b from h1]
 | [],_::_,h=>by cases h
 | _::_,[],h=>by cases h
theorem call_all (hc:X.calm=true):CallR X (.builtin "all") (fun xs H Q=>∃(p:Addr)(bs:List Bool),xs=[.ref p]/\SqL X.K H p (bs.map V.bl)/\Q (.bl (bs.all id)) H):=by
 intro pins s σ H xs us Q I r h
 obtain⟨p,bs,rfl,hq,q⟩:=h
 obtain⟨u,rfl,rx⟩:=vals1 r
 cases rx
 obtain⟨its,r',pl,hz⟩:=I.list hq
 rw[bools_of r'] at pl
 refine wpAny_call (codeAny_call_builtin PySem.F.plain_all PySem.F.entry_all (wpAny_of_eq (m':=pure ()) rfl (wpAny_pure ?_)))
 unfold Builtin.all
 refine wpAny_bind (wpAny_of_eq (m':=pure (Value.ref p)) rfl (wpAny_pure (wpAny_bind (wpAny_pyIter_list pl.isList (wpAny_pure ⟨rfl,?_⟩)))))
 refine all_loop (s0:=s) (l:=p) (bs:=bs) (I.ok.hd hc) (Nat.le_refl _) pl.isList ?_ bs.length 0 _ s.toks rfl (Nat.zero_le _) (fun b o e=>Heap.get?_push_of_some _ e) ?_ rfl
 . exact fun h tk K=>⟨.bl _,H,I.kept K,rfl,q⟩
 . exact⟨_,Heap.get?_push_size _ rfl,rfl,rfl⟩
end
end L2
namespace L2
open PySem PySem.Spec PyProof.Rows
end L2
namespace L2
open PySem PySem.Spec PyProof.Rows
section
variable {X:Cx}
variable {o e:Expr}{es:List Expr}{to:TE}{t:TA}{name:Str}{apos cpos:Pos}{id:String}{r:V->List V->Hp->VK->Prop}
end
section
variable {prog:Program}{w:World}{A:Around}{E:Value->Shared->Prop}
end
section
variable {X:Cx}
end
section
variable {X:Cx}{pl:List (Addr×Obj)}{N':List Str}{sc:Scope}{fp:List Addr}{s3:Shared}{H3:Hp}
end
end L2
namespace L2
open PySem PySem.Spec PyProof.Rows
section
variable {X:Cx}
theorem call_maxL (hc:X.calm=true):CallR X (.builtin "max") (fun xs H Q=>∃(p:Addr)(ns:List Int),xs=[.ref p]/\SqL X.K H p (ns.map V.int)/\ns≠[]/\∀M,M∈ns->(∀a∈ns,a<=M)->Q (.int M) H):=by
 intro pins s σ H xs us Q I r h
 obtain⟨p,ns,rfl,hq,hne,q⟩:=h
 obtain⟨u,rfl,rx⟩:=vals1 r
 cases rx
 obtain⟨its,rv,pl,hz⟩:=I.list hq
 have hi:=intsAre_of rv
 have hil:=hi.length
 have hlp:p<s.heap.objs.size:=by
  obtain⟨o,_,ho,_⟩:=pl
  exact Heap.lt_size ho
 have hpos:0<ns.length:=List.length_pos_iff.mpr hne
 refine call_max_walk (wpAny_pyIter_list pl.isList ⟨s.heap.objs.size,[s.heap.objs.size,p],[s.heap.objs.size],its.toArray.size,_,_,fun i j=>decide (ns.getD i 0 > ns.getD j 0),rfl,Walks.list (A:=X.A.in1) (I.ok.hd hc) s.heap.objs.size p (Nat.ne_of_lt hlp) its.toArray,⟨?_,?_⟩,?_,by simpa [hil] using hpos,?_,fun v h' tk hv kp=>?_⟩)
 . exact⟨_,Heap.get?_push_size _ rfl,rfl,rfl⟩
 . obtain⟨o,ho,hr⟩:=pl.isList
   exact⟨o,Heap.get?_push_of_some _ ho,hr⟩
 . intro b hb
   rw[Heap.size_push]
   rcases List.mem_cons.mp hb with rfl | hb
   . exact Nat.lt_succ_self _
   . rw[List.mem_singleton.mp hb];exact Nat.lt_succ_of_lt hlp
 . intro i j vi vj s' Q' E' hvi hvj q'
   have hvi':its[i]? = some vi:=by simpa using hvi
   have hvj':its[j]? = some vj:=by simpa using hvj
   obtain⟨t1,rfl⟩:=hi.int_at i vi hvi'
   obtain⟨t2,rfl⟩:=hi.int_at j vj hvj'
   exact PyProof.Rows.gt_int q'
 . obtain⟨b1,b2⟩:=argBest_gt (fun i=>ns.getD i 0) (its.toArray.size-1)
   have hv':its[argBest (fun i j=>decide (ns.getD i 0 > ns.getD j 0)) (its.toArray.size-1)]? = some v:=by simpa using hv
   generalize eb:argBest (fun i j=>decide (ns.getD i 0 > ns.getD j 0)) (its.toArray.size-1)=bi at hv' b1 b2
   obtain⟨t,rfl⟩:=hi.int_at bi v hv'
   have hlt:bi<ns.length:=by have:=(List.getElem?_eq_some_iff.mp hv').1;omega
   have hK:Kp s h':=fun b o e=>kp b o (fun z=>absurd (List.mem_singleton.mp z) (Nat.ne_of_lt (Heap.lt_size e))) (Heap.get?_push_of_some _ e)
   refine⟨.int (ns.getD bi 0),H,I.kept hK,⟨t,rfl⟩,q _ ?_ fun m hm=>?_⟩
   . rw[List.getD_eq_getElem?_getD,List.getElem?_eq_getElem hlt];exact List.getElem_mem hlt
   . obtain⟨j,hj,ej⟩:=List.getElem_of_mem hm
     have:=b2 j (by rw[List.size_toArray];omega)
     have g1:ns.getD j 0=m:=by rw[List.getD_eq_getElem?_getD,List.getElem?_eq_getElem hj,ej];rfl
     rw[g1] at this
     exact this
end
end L2
namespace L2
open PySem PySem.Spec PyProof.Rows
section
variable {prog:Program}{w:World}{A:Around}{s:Shared}{l:Addr}{its:List Value}{ns:List Int}{v:Int}{tv:Tok}
end
section
variable {X:Cx}
end
end L2
namespace WM
open L2
end WM
namespace L2
open PySem PyProof.Rows
end L2
namespace WM
end WM
namespace L2
open PySem PySem.Spec PyProof.Rows
section
variable {X:Cx}
end
end L2
namespace SortT
open PySem PySem.W PySem.Calls PyProof.Rows
section
variable {prog:Program}{w:World}{A:Around}{E:Value->Shared->Prop}{s:Shared}
end
end SortT
namespace L2
open PySem PySem.Spec PyProof.Rows
section
variable {X:Cx}
end
section
variable {X:Cx}{pl:List (Addr×Obj)}{N':List Str}{sc:Scope}{fp:List Addr}{s3:Shared}{H3:Hp}
end
end L2
namespace L2
open PySem PySem.Spec PyProof.Rows
section
variable {X:Cx}
end
end L2
namespace L2
open PySem PySem.Spec PyProof.Rows
section
variable {X:Cx}
theorem call_strI:CallR X (.type "str") (fun xs H Q=>∃i:Int,xs=[.int i]/\i.natAbs<1000000000/\Q (.str (Str.ofString (toString i))) H):=by
 intro pins s σ H xs us Q I r h
 obtain⟨i,rfl,hi,q⟩:=h
 obtain⟨u,rfl,rx⟩:=vals1 r
 obtain⟨t,rfl⟩:=rx
 exact str_of_int_fit (N:=1000000000) (by split <;> omega) (by decide) fun _=>⟨.str _,H,I.tok _,⟨_,rfl⟩,q⟩
end
end L2
namespace HT
open PySem PySem.Spec PyProof.Rows
section
open PySem.SeqAt
open PySem.AutoSeq1 (wpAny_loadPart')
open PySem.MeetsSeq PySem.MeetsSeq2 PySem.MeetsSeq3
end
end HT
namespace L2
open PySem PySem.Spec PyProof.Rows
section
variable {X:Cx}
end
end L2
namespace HT
open PySem PySem.Spec PyProof.Rows
section
variable {prog:Program}{w:World}{A:Around}{E:Value->Shared->Prop}{s:Shared}
theorem fm_congr {α β:Type}{f g:α->Option β}:∀{l:List α},(∀m∈l,f m=g m)->l.filterMap f=l.filterMap g
 | [],_=>rfl
 | a::l,h=>by
  have ih:=fm_congr (l:=l) fun m hm=>h m (List.mem_cons_of_mem _ hm)
  rw[List.filterMap_cons,List.filterMap_cons,h a List.mem_cons_self,ih]
end
end HT
namespace L2
open PySem PySem.Spec PyProof.Rows
section
variable {X:Cx}{e:Expr}{te:TE}{pos p2 p3 p4:Pos}
theorem vals_reverse {xs:List V}{us:List Value}(h:Vals xs us):Vals xs.reverse us.reverse:=by
 induction h with
 | nil=>exact .nil
 | cons r _ ih=>rw[List.reverse_cons,List.reverse_cons];exact ih.append (.cons r .nil)
end
end L2
namespace L2
open PySem PySem.Spec PyProof.Rows
section
variable {X:Cx}{pins:List (Addr×Obj)}{σ:St}{H:Hp}{s:Shared}{h':Heap}
theorem Inv.turnedLaid {t':Nat}{fp:List Addr}{a:Addr}{o:HO}(I:Inv X pins σ H s)(hf:∀b∈fp,FpOk X pins H b)(k:∀b u,b∉fp->s.heap.get? b=some u->h'.get? b=some u)(hp:s.heap.objs.size<=a)
 (new:ObjOk X.prog X.w (upd H a o) h' a o):Inv X pins σ (upd H a o) { s with heap:=h',toks:=t' }:=by
 have fr:H a=none:=I.hok.fresh hp
 have nfp:∀b u,H b=some u->b∉fp:=fun b u e z=>by rw[(hf b z).1] at e;cases e
 have na:∀b u,H b=some u->b≠a:=fun b u e z=>by rw[z,fr] at e;cases e
 refine I.step (g':=s.gens) (d':=s.drawn) (ch:=fp) (fun b hb=>?_) (fun b u _ _ hc e _=>k b u hc e) (fun b u _ _ hc e _=>⟨u.slots,k b u hc e⟩) (fun b u hc e n=>?_) (fun b u hc e=>⟨u,k b u hc e⟩)
  (fun b xs e=>by rw[upd_ne (na b _ e)];exact e) (fun b u w e=>by rw[upd_ne (na b _ e)];exact e) (fun b ps e=>⟨#[],by rw[upd_ne (na b _ e),e];simp⟩) (fun m hm=>?_) (fun b u e=>?_) I.bare
 . obtain⟨f0,f1,f2,f3,f4,f5⟩:=hf b hb
   exact⟨f3,f1,f4,f5⟩
 . rw[upd_ne (Nat.ne_of_lt (Nat.lt_of_lt_of_le (Heap.lt_size e) hp))]
   exact n
 . obtain⟨u,es,ep,ho,r⟩:=hm
   exact⟨u,es,ep,k _ u (fun z=>(hf _ z).2.1 rfl) ho,r⟩
 . by_cases z:b=a
   . subst z
     rw[upd_same] at e
     cases e
     exact new
   . rw[upd_ne z] at e
     refine (I.hok b u e).stay (fun c v hc q=>k c v ?_ q) (fun c q=>by rw[upd_ne (na c _ q)];exact q) fun c xs q=>by rw[upd_ne (na c _ q)];exact q
     rcases hc with z | z
     . rw[z];exact nfp b u e
     . exact nfp c _ z
end
noncomputable def Itn (K:PySem.W.Frag)(a:Addr):It:=
 ⟨fun i H=>∃xs x,SqL K H a xs/\xs[i]? = some x,fun i H x H'=>∃T v,x = .ref T/\H T=none/\H'=upd H T (.tup [.int i,v])/\∀xs,SqL K H a xs->xs[i]? = some v,fun i H=>∃xs,SqL K H a xs/\xs.length<=i⟩
theorem turn_enum {P:Program}{w:World}{K:PySem.W.Frag}{elts:List Expr} {x1} {tp:Pos}(a e it:Addr):Turn P w K (.Tuple elts x1 tp) (Itn K a) [e,it] e (fun i h=>(∃old,IsEnum h e it (i:Nat) old)/\h.IsListIter it a i/\e≠it) where
 mem:=by simp
 obj:=fun i h st b hb=>by
  obtain⟨⟨old,he⟩,⟨o,e1,c,d⟩,_⟩:=st
  rcases List.mem_cons.mp hb with rfl | hb
  . exact⟨_,he,fun v z=>by cases z⟩
  . have e2:b=it:=by simpa using hb
    subst e2
    exact⟨o,e1,fun v z=>by rw[d] at z;cases z⟩
 keep:=fun i h h' st k=>by
  obtain⟨⟨old,he⟩,hit,ne⟩:=st
  exact⟨⟨old,k e (by simp) _ he⟩,hit.at fun o x=>k it (by simp) o x,ne⟩
 item:=by
  intro X hP hw hK hc i pins s σ H E I hf st hg
  subst hP hw hK
  obtain⟨⟨old,he⟩,hit,ne⟩:=st
  obtain⟨xs,x,hq,hx⟩:=hg
  obtain⟨its,rv,p,hz⟩:=I.list hq
  obtain⟨u,hu,ru⟩:=rv.get hx
  have elt:e<s.heap.objs.size:=Heap.lt_size he
  have ilt:it<s.heap.objs.size:=by obtain⟨_,q,_⟩:=id hit;exact Heap.lt_size q
  refine wpAny_pyNext_enum_item he hit p.isList (x:=u) (by simpa using hu) ne fun h' heo hit' hT hsz hk=>?_
  refine⟨_,rfl,wpAny_letOwnedTupleGo_enum heo fun h2 he2 hs2=>?_⟩
  have hT2:h2.get? s.heap.objs.size=some { cls:=.type "tuple",data:=.seq #[.int i s.toks,u] }:=(hs2.2 _ (Nat.ne_of_gt elt)).trans hT
  refine⟨.ref s.heap.objs.size,upd H s.heap.objs.size (.tup [.int i,x]),I.turnedLaid (t':=s.toks+1) (fp:=[e,it]) hf (fun b o hb q=>?_) (Nat.le_refl _) ?_,rfl,⟨_,x,rfl,I.hok.fresh (Nat.le_refl _),rfl,fun ys hy=>by rw[I.list_inj hy hq];exact hx⟩,⟨⟨u,?_⟩,?_,ne⟩,fun b hb=>?_⟩
  . exact (hs2.2 b fun z=>hb (by simp[z])).trans (hk b o (fun z=>hb (by simp[z])) (fun z=>hb (by simp[z])) q)
  . exact⟨⟨by show 2<=sizeLine;decide,_,hT2,rfl⟩,[.int i s.toks,u],.cons ⟨_,rfl⟩ (.cons ru .nil),⟨_,hT2,rfl,_,rfl⟩⟩
  . have:=he2
    rwa [show ((i:Nat):Int)+1=((i+1:Nat):Int) by omega] at this
  . exact hit'.at fun o q=>(hs2.2 it (Ne.symm ne)).trans q
  . rcases List.mem_cons.mp hb with rfl | hb
    . rw[upd_ne (Nat.ne_of_lt elt)];exact (hf _ (by simp)).1
    . have e2:b=it:=by simpa using hb
      subst e2
      rw[upd_ne (Nat.ne_of_lt ilt)];exact (hf _ (by simp)).1
 done:=by
  intro X hP hw hK hc i pins s σ H E I hf st hg
  subst hP hw hK
  obtain⟨⟨old,he⟩,hit,ne⟩:=st
  obtain⟨xs,hq,hx⟩:=hg
  obtain⟨its,rv,p,hz⟩:=I.list hq
  obtain⟨f0,f1,f2,f3,f4,f5⟩:=hf it (by simp)
  have hl:=rv.length
  exact wpAny_pyNext_enum_end (I.ok.hd hc) he hit p.isList (by simp;omega) fun h' eb=>⟨rfl,I.turned (t':=s.toks) (fun b o hb e=>eb b o hb e) f0 f1 f3 f4 f5⟩
 self:=fun _ _ _ _ _ st h=>by
  obtain⟨⟨old,he⟩,_⟩:=st
  exact wpAny_pyIter_enum he h
section
variable {X:Cx}
noncomputable def iEnum (K:PySem.W.Frag)(ta:TA):TI:=fun σ H R=>ta σ H fun vs H1=>∃a,vs=[.ref a]/\(∃xs,SqL K H1 a xs)/\R (Itn K a) H1
theorem pi_enum {elts:List Expr} {x1} {tp:Pos}{a:Expr}{ta:TA}{p pos:Pos}(hg:Gl X "enumerate") (hm:X.mg "enumerate" = none) (ha:PA X [a] ta)(hs:starEach [a] X.env=[(false,eval a X.env)]:=by rfl):PI X (.Tuple elts x1 tp) (.Call (.Name "enumerate" p) [a] [] pos) (iEnum X.K ta):=by
 intro pins s σ H R I h
 refine Call_ (ld_blt I hg hm boot_enumerate (PyProof.Rows.callWith_type1 (thn (ha pos pins s σ H _ I h) fun us s1 ⟨vs,H1,I1,r1,q1⟩=>?_) hs rfl))
 obtain⟨l,e,⟨xs,hq⟩,q⟩:=q1
 subst e
 obtain⟨u,rfl,rx⟩:=vals1 r1
 cases rx
 obtain⟨its,rv,pl,hz⟩:=I1.list hq
 refine call_enumerate_list pl.isList fun h' he hit hsz hk=>?_
 refine wpAny_pyIter_enum he ?_
 refine⟨s1.heap.objs.size+1,[s1.heap.objs.size+1,s1.heap.objs.size],_,_,H1,rfl,I1.kept (t':=s1.toks) hk,turn_enum l _ _,⟨⟨_,he⟩,hit,Nat.succ_ne_self _⟩,fun b hb=>?_,q⟩
 rcases List.mem_cons.mp hb with rfl | hb
 . exact I1.fpOk (Nat.le_succ _) (I1.hok.fresh (Nat.le_succ _))
 . have e2:b=s1.heap.objs.size:=by simpa using hb
   subst e2
   exact I1.fpOk (Nat.le_refl _) (I1.hok.fresh (Nat.le_refl _))
end
theorem comp_enum {K:PySem.W.Frag}{a:Addr}{xs:List V}{own:Nat}{g:TG}{ti:TT}{te:TE}{cv:List V}{D:Addr}{H1:Hp}{Q:VK}(Pv:Nat->List V->Hp->Prop)(h0:Pv 0 [] (upd H1 D (.lst [])))(hl:∀i ys H,Pv i ys H->SqL K H a xs)(hz:∀i ys H,Pv i ys H->ys.length<sizeLine)
 (hs:∀i x ys H T,xs[i]? = some x->Pv i ys H->H T=none->g (.ref T) (List.replicate own none++cv.map some) (upd H T (.tup [.int i,x])) fun σ2 H2=>(σ2.length=own+cv.length/\σ2.drop own=cv.map some) /\
  ti σ2 H2 fun b H3=>if b=true then te σ2 H3 fun y H4=>H4 D=some (.lst ys)/\Pv (i+1) (ys++[y]) (upd H4 D (.lst (ys++[y]))) else Pv (i+1) ys H3)
 (hd:∀ys H,Pv xs.length ys H->Q (.ref D) H):CompRd (Itn K a) own cv g ti te D H1 Q:=by
 refine⟨fun i m ys H=>m=xs.length-i/\i<=xs.length/\Pv i ys H,⟨xs.length,rfl,Nat.zero_le _,h0⟩,?_⟩
 rintro i m ys H ⟨rfl,hi,p⟩
 have q:=hl i ys H p
 by_cases hlt:i<xs.length
 . refine .inr ⟨⟨xs,xs[i],q,by simp[hlt]⟩,hz i ys H p,Pv (i+1),fun ys' H' p'=>⟨xs.length-(i+1),by omega,rfl,hlt,p'⟩,fun x H' y=>?_⟩
   obtain⟨T,v,rfl,hT,rfl,hv⟩:=y
   exact hs i v ys H T (hv xs q) p hT
 . have e:i=xs.length:=by omega
   subst e
   exact .inl ⟨⟨xs,q,Nat.le_refl _⟩,hd ys H p⟩
end L2
namespace L2
open PySem PySem.Spec PyProof.Rows
section
variable {X:Cx}
theorem vals_ty:∀(Ts:List String)(its:List Value),Vals (Ts.map V.ty) its->its=Ts.map Value.type:=by
 intro Ts
 induction Ts with
 | nil=>intro its h;cases h;rfl
 | cons a r ih=>
  intro its h
  cases h with
  | cons h1 h2=>rw[ih _ h2,show _=Value.type a from h1];rfl
theorem call_isinstTs:CallR X (.builtin "isinstance") (fun xs H Q=>∃(x:V)(tp:Addr)(Ts:List String)(t:Value)(b:Bool),xs=[x,.ref tp]/\H tp=some (.tup (Ts.map V.ty))/\TyOf X.K H x t/\PySem.W.kitAny X.K t (Ts.map Value.type)=some b/\Q (.bl b) H):=by
 intro pins s σ H xs us Q I r h
 obtain⟨x,tp,Ts,t,b,rfl,ht,ty,e,q⟩:=h
 obtain⟨u,w',rfl,rx,rT⟩:=vals2 r
 cases (show w'=Value.ref tp from rT)
 obtain⟨⟨z,o2,e2,d2⟩,its,rv,ob,e3,c3,n3,s3⟩:=(show ObjOk X.prog X.w H s.heap tp (.tup (Ts.map V.ty)) from I.hok tp _ ht)
 have hits:=vals_ty Ts its rv
 obtain⟨c',d',da',sl'⟩:=ob
 simp only at c3 s3
 subst c3 s3 hits
 have h:∀tk,EP X pins σ Q (.bool b) { s with toks:=tk }:=fun tk=>⟨.bl b,H,I.tok tk,rfl,q⟩
 cases ty with
 | non=>cases (show u=Value.none from rx);exact PySem.W.kia_tup PySem.W.kitx_none I.kIn True.intro e3 e (fun z=>nomatch z) h
 | bl y=>cases (show u=Value.bool y from rx);exact PySem.W.kia_tup PySem.W.kitx_bool I.kIn True.intro e3 e (fun z=>nomatch z) h
 | int i=>obtain⟨t,q⟩:=(show ∃t,u=Value.int i t from rx);cases q;exact PySem.W.kia_tup PySem.W.kitx_int I.kIn True.intro e3 e (fun z=>nomatch z) h
 | str y=>obtain⟨t,q⟩:=(show ∃t,u=Value.str y t from rx);cases q;exact PySem.W.kia_tup PySem.W.kitx_str I.kIn True.intro e3 e (fun z=>nomatch z) h
 | flt y=>obtain⟨t,q⟩:=(show ∃t,u=Value.float y t from rx);cases q;exact PySem.W.kia_tup PySem.W.kitx_float I.kIn True.intro e3 e (fun z=>nomatch z) h
 | @lst a xs ea=>
  cases (show u=Value.ref a from rx)
  obtain⟨_,_,n,_,h1⟩:=(show ObjOk X.prog X.w H s.heap a (.lst xs) from I.hok a _ ea)
  exact PySem.W.kia_tup PySem.W.kitx_list I.kIn ⟨_,h1,rfl⟩ e3 e (fun z=>nomatch z) h
 | @frz a ob xs ea=>
  cases (show u=Value.ref a from rx)
  obtain⟨_,_,_,n,_,h1⟩:=(show ObjOk X.prog X.w H s.heap a (.frz ob (.lst xs)) from I.hok a _ ea)
  exact PySem.W.kia_tup PySem.W.kitx_list I.kIn ⟨_,h1,rfl⟩ e3 e (fun z=>nomatch z) h
 | @tup a xs ea=>
  cases (show u=Value.ref a from rx)
  obtain⟨_,_,_,p⟩:=(show ObjOk X.prog X.w H s.heap a (.tup xs) from I.hok a _ ea)
  obtain⟨o,h1,h2,_⟩:=p
  exact PySem.W.kia_tup PySem.W.kitx_tuple I.kIn ⟨o,h1,h2⟩ e3 e (fun z=>nomatch z) h
 | @dK a kvs ea=>
  cases (show u=Value.ref a from rx)
  obtain⟨_,_,vs,_,p⟩:=(show ObjOk X.prog X.w H s.heap a (.dK kvs) from I.hok a _ ea)
  obtain⟨o,es,ep,h1,h2,_⟩:=p
  exact PySem.W.kia_tup PySem.W.kitx_dict I.kIn ⟨o,h1,h2.1⟩ e3 e (fun z=>nomatch z) h
 | @dT a kvs ea=>
  cases (show u=Value.ref a from rx)
  obtain⟨_,_,xs,_,o,es,ep,h1,h2,_⟩:=(show ObjOk X.prog X.w H s.heap a (.dT kvs) from I.hok a _ ea)
  exact PySem.W.kia_tup PySem.W.kitx_dict I.kIn ⟨o,h1,h2.1⟩ e3 e (fun z=>nomatch z) h
 | @ins a C dx fs ea cl ha hn htk hm=>
  cases (show u=Value.ref a from rx)
  obtain⟨mA,O,_⟩:=ins_get I.hok ea
  obtain⟨od,J,_⟩:=O.look
  exact PySem.W.kia_tup (PySem.W.kitx_own (cl.get _) cl.hd ha hn htk hm) I.kIn J e3 e (fun z=>nomatch z) h
end
end L2
namespace L2
open PySem PySem.Spec PyProof.Rows
open PySem.AutoSeq1 (wpAny_loadPart')
section
variable {prog:Program}{w:World}{A:Around}{E:Value->Shared->Prop}{s:Shared}
theorem nextOf_tup {it t:Addr}{i:Nat}{items:Array Value}{x:Value}{Q:Value->Shared->Prop}(hi:s.heap.IsTupleIter it t i)(ht:s.heap.IsTuple t items)(hx:items[i]? = some x)
 (hQ:∀h',h'.IsTupleIter it t (i+1)->Heap.SameBut it s.heap h'->Q x { s with heap:=h' }):wpAny (model prog w) A (Builtin.SmallTypes.nextOf (.ref it)) Q E s:=by
 obtain⟨oi,hoi,ci,di⟩:=id hi
 obtain⟨ot,hot,_,nt,dt⟩:=ht
 unfold Builtin.SmallTypes.nextOf
 refine wpAny_bind (wpAny_callSpecial?_slot (name:=Str.ofString "__next__") hi.typeIs PySem.F.slot_tuple_iterator_next (wpAny_call_entry PySem.F.slot_tuple_iterator_next hi.typeIs PySem.F.entry_tuple_iterator_next ?_ (PySem.F.args_tuple_iterator_next_1 _)))
 show wpAny (model prog w) _ (field (.ref it) 0 >>= _) _ _ s;refine wpAny_bind (wpAny_field hoi di (x:=.ref t) rfl ?_)
 show wpAny (model prog w) _ (if (Value.ref t==Value.none)=true then _ else _) _ _ s;rw[if_neg (show ¬ ((Value.ref t==Value.none)=true) from Bool.false_ne_true)]
 show wpAny (model prog w) _ (field (.ref it) 1 >>= _) _ _ s;refine wpAny_bind (wpAny_field hoi di (x:=.int i 0) rfl ?_)
 show wpAny (model prog w) _ (seqItems? (.ref t) >>= _) _ _ s;refine wpAny_bind (wpAny_seqItems hot dt ?_)
 simp only[hx,Int.toNat_natCast]
 refine wpAny_bind (wpAny_setField hoi di (by simp) (wpAny_pure ⟨x,rfl,wpAny_pure (hQ _ ?_ (Heap.SameBut.update ..))⟩))
 refine⟨_,Heap.get?_update_self _ hoi (Obj.isFreed_of_fields (Obj.data_mapFields di _)),(Obj.cls_mapFields ..).trans ci,?_⟩
 rw[Obj.data_mapFields di];simp[rawInt]
theorem endOf_tup {it t:Addr}{i:Nat}{items:Array Value}{Q:Value->Shared->Prop}(hA:A.handled=none)(hi:s.heap.IsTupleIter it t i)(ht:s.heap.IsTuple t items)(hx:items[i]? = none)
 (hE:∀h' e,Heap.ExtBut it s.heap h'->(∃o,h'.get? e=some o/\o.cls = .type "StopIteration")->E (.ref e) { s with heap:=h' }):wpAny (model prog w) A (Builtin.SmallTypes.nextOf (.ref it)) Q E s:=by
 obtain⟨oi,hoi,ci,di⟩:=id hi
 obtain⟨ot,hot,_,nt,dt⟩:=ht
 unfold Builtin.SmallTypes.nextOf
 refine wpAny_bind (wpAny_callSpecial?_slot (name:=Str.ofString "__next__") hi.typeIs PySem.F.slot_tuple_iterator_next (wpAny_call_entry PySem.F.slot_tuple_iterator_next hi.typeIs PySem.F.entry_tuple_iterator_next ?_ (PySem.F.args_tuple_iterator_next_1 _)))
 show wpAny (model prog w) _ (field (.ref it) 0 >>= _) _ _ s;refine wpAny_bind (wpAny_field hoi di (x:=.ref t) rfl ?_)
 show wpAny (model prog w) _ (if (Value.ref t==Value.none)=true then _ else _) _ _ s;rw[if_neg (show ¬ ((Value.ref t==Value.none)=true) from Bool.false_ne_true)]
 show wpAny (model prog w) _ (field (.ref it) 1 >>= _) _ _ s;refine wpAny_bind (wpAny_field hoi di (x:=.int i 0) rfl ?_)
 show wpAny (model prog w) _ (seqItems? (.ref t) >>= _) _ _ s;refine wpAny_bind (wpAny_seqItems hot dt ?_)
 simp only[hx,Int.toNat_natCast]
 refine wpAny_bind (wpAny_rule (wpAny_bind (wpAny_setField hoi di (by simp) ?_)))
 show wpAny (model prog w) _ (newExc (.type "StopIteration") [] >>= _) _ _ _;refine wpAny_bind ?_
 simp only[newTuple,newExc]
 refine wpAny_bind (wpAny_newObj_type ?_ (by size_fits));refine wpAny_bind (m:=firstArgMember _ _) (PySem.wpAny_of_eq (a:=Value.none) (by first | rfl | (simp only[firstArgMember];rfl)) ?_)
 refine wpAny_newObj_type ?_ (by size_fits);simp only[raiseNew];refine wpAny_bind (wpAny_handled ?_)
 first
  | rw[show A.in1.handled=none from hA]
  | rw[hA]
 exact wpAny_bind (wpAny_pure (wpAny_throw (hE _ _ (((Heap.SameBut.update ..).extBut.push _).push _) ⟨_,Heap.get?_push_size _ rfl,rfl⟩)))
end
theorem draws_tup {prog:Program}{w:World}{A:Around}(hA:A.handled=none)(it t:Addr)(hne:t≠it)(items:Array Value) :
 Draws prog w A it [it,t] items.size (fun i v=>items[i]? = some v) (fun i h=>h.IsTupleIter it t i/\h.IsTuple t items) where
 live:=fun _ _ st=>by
  obtain⟨⟨o,ho,_⟩,_⟩:=st
  exact⟨o,ho⟩
 frame:=fun _ h h' st hk=>by
  obtain⟨⟨o,ho,r⟩,o2,ho2,r2⟩:=st
  exact⟨⟨o,hk it (by simp) o ho,r⟩,o2,hk t (by simp) o2 ho2,r2⟩
 item:=fun i s Q E hi st hQ=>nextOf_tup st.1 st.2 (x:=items[i]) (by simp[hi]) fun h' a b=>hQ _ h' s.toks (by simp[hi]) ⟨a,st.2.extBut b.extBut hne⟩ b
 done:=fun s Q E st hE=>endOf_tup hA st.1 st.2 (by simp) hE
section
variable {X:Cx}
end
end L2
namespace L2
open PySem PySem.Spec PyProof.Rows
end L2
namespace L2
open PySem PySem.Spec PyProof.Rows
open PySem.AutoSeq1 (wpAny_loadPart')
theorem Inv.turnedFp {X:Cx}{pins:List (Addr×Obj)}{σ:L2.St}{H:Hp}{s:Shared}{h':Heap}{t':Nat}{fp:List Addr}(I:Inv X pins σ H s)(hf:∀b∈fp,FpOk X pins H b)(k:∀b u,b∉fp->s.heap.get? b=some u->h'.get? b=some u):Inv X pins σ H { s with heap:=h',toks:=t' }:=by
 have nfp:∀b u,H b=some u->b∉fp:=fun b u e z=>by rw[(hf b z).1] at e;cases e
 refine I.step (g':=s.gens) (d':=s.drawn) (ch:=fp) (fun b hb=>?_) (fun b u _ _ hc e _=>k b u hc e) (fun b u _ _ hc e _=>⟨u.slots,k b u hc e⟩) (fun _ _ _ _ n=>n) (fun b u hc e=>⟨u,k b u hc e⟩)
  (fun _ _ e=>e) (fun _ _ _ e=>e) (fun b ps e=>⟨#[],by rw[e];simp⟩) (fun m hm=>?_) (fun b u e=>?_) I.bare
 . obtain⟨f0,f1,f2,f3,f4,f5⟩:=hf b hb
   exact⟨f3,f1,f4,f5⟩
 . obtain⟨u,es,ep,ho,r⟩:=hm
   exact⟨u,es,ep,k _ u (fun z=>(hf _ z).2.1 rfl) ho,r⟩
 . refine (I.hok b u e).stay (fun c v hc q=>k c v ?_ q) (fun _ q=>q) fun _ _ q=>q
   rcases hc with z | z
   . rw[z];exact nfp b u e
   . exact nfp c _ z
structure ZAp (zp tI tO i1 i2:Addr)(fp1 fp2:List Addr):Prop where
 zTI:tI≠zp
 zTO:tO≠zp
 z1:i1≠zp
 z2:i2≠zp
 IO:tI≠tO
 I1:tI≠i1
 I2:tI≠i2
 O1:tO≠i1
 O2:tO≠i2
 i12:i1≠i2
 a1:zp∉fp1/\tO∉fp1/\i2∉fp1
 a2:zp∉fp2/\tO∉fp2/\i1∉fp2
section
variable {prog:Program}{w:World}{A:Around}{E:Value->Shared->Prop}{s:Shared}
theorem zipD_item {zp tI tO i1 i2:Addr}{fp1 fp2:List Addr}{n1 n2 k:Nat}{P1 P2:Nat->Value->Prop}{St1 St2:Nat->Heap->Prop}{a b:Value}{Q:Value->Shared->Prop}(D1:Draws prog w A i1 fp1 n1 P1 St1)(D2:Draws prog w A i2 fp2 n2 P2 St2)(Z:ZAp zp tI tO i1 i2 fp1 fp2)
 (gz:IsZip s.heap zp tI tO .none)(gI:IsPair s.heap tI (.ref i1) (.ref i2))(gO:IsPair s.heap tO a b)(s1:St1 k s.heap)(s2:St2 k s.heap)(l1:k<n1)(l2:k<n2)
 (qd:∀x y h' tk,P1 k x->P2 k y->IsZip h' zp tI tO (rawInt s.heap.objs.size)->IsPair h' tO x y->St1 (k+1) h'->St2 (k+1) h'->IsPair h' s.heap.objs.size x y->h'.objs.size=s.heap.objs.size+1 ->
  (∀c o,c≠zp->c≠tO->c≠i1->c≠i2->s.heap.get? c=some o->h'.get? c=some o)->Q (.ref s.heap.objs.size) { s with heap:=h',toks:=tk }) :
 wpAny (model prog w) A (Builtin.«zip.__next__» ⟨[.ref zp],[]⟩) (fun fin s'=>∃v,fin = .done (.ret v)/\Q v s') E s:=by
 obtain⟨hp,g,d,tk₀,os⟩:=s
 show wpAny _ _ (field (.ref zp) 2 >>= _) _ _ _
 refine wpAny_bind (wpAny_field gz rfl (x:=.bool false) rfl ?_)
 show wpAny _ _ (field (.ref zp) 3 >>= _) _ _ _
 refine wpAny_bind (wpAny_field gz rfl (x:=.ref tI) rfl (wpAny_bind (wpAny_seqItems gI rfl ?_)))
 show wpAny _ _ (Builtin.SmallTypes.ownedTupleIsFree (.ref zp) >>= _) _ _ _
 unfold Builtin.SmallTypes.ownedTupleIsFree
 refine wpAny_bind (wpAny_bind (wpAny_field gz rfl (x:=.none) rfl (wpAny_pure ?_)))
 simp only[if_true]
 refine wpAny_bind (wpAny_rule (wpAny_bind (wpAny_field gz rfl (x:=.ref tO) rfl (wpAny_bind (wpAny_setField_rec gz (by simp) fun h₁ z₁ e₁=>?_)))))
 replace z₁:IsZip h₁ zp tI tO .ellipsis:=z₁
 replace e₁:Heap.SameBut zp hp h₁:=e₁
 refine wpAny_bind ?_
 simp only[List.zipIdx_cons,List.zipIdx_nil,List.forIn_cons,List.forIn_nil]
 have t1:St1 k h₁:=D1.frame k hp h₁ s1 fun b hb o e=>e₁.extBut _ _ (fun x=>Z.a1.1 (x ▸ hb)) e
 have t2:St2 k h₁:=D2.frame k hp h₁ s2 fun b hb o e=>e₁.extBut _ _ (fun x=>Z.a2.1 (x ▸ hb)) e
 refine wpAny_bind (wpAny_bind (wpAny_onRaise ?_))
 show wpAny _ _ (Builtin.SmallTypes.nextOf (.ref i1) >>= _) _ _ _
 refine wpAny_bind (D1.item k _ _ _ l1 t1 fun x h₂ tk₂ p1 u1 e₂=>wpAny_pure ?_)
 replace e₂:Heap.SameBut i1 h₁ h₂:=e₂
 have hO₂:IsPair h₂ tO a b:=e₂.extBut _ _ Z.O1 (e₁.extBut _ _ Z.zTO gO)
 refine wpAny_bind (wpAny_seqItems hO₂ rfl (wpAny_bind (wpAny_updateSeq_pair hO₂ fun h₃ hO₃ e₃=>?_)))
 replace hO₃:IsPair h₃ tO x b:=hO₃
 replace e₃:Heap.SameBut tO h₂ h₃:=e₃
 refine wpAny_bind (wpAny_letGo (wpAny_pure ?_))
 have u1₃:St1 (k+1) h₃:=D1.frame _ h₂ h₃ u1 fun b hb o e=>e₃.extBut _ _ (fun x=>Z.a1.2.1 (x ▸ hb)) e
 have t2₃:St2 k h₃:=D2.frame k h₁ h₃ t2 fun b hb o e=>e₃.extBut _ _ (fun x=>Z.a2.2.1 (x ▸ hb)) (e₂.extBut _ _ (fun x=>Z.a2.2.2 (x ▸ hb)) e)
 refine wpAny_bind (wpAny_bind (wpAny_onRaise ?_))
 show wpAny _ _ (Builtin.SmallTypes.nextOf (.ref i2) >>= _) _ _ _
 refine wpAny_bind (D2.item k _ _ _ l2 t2₃ fun y h₄ tk₄ p2 u2 e₄=>wpAny_pure ?_)
 replace e₄:Heap.SameBut i2 h₃ h₄:=e₄
 have hO₄:IsPair h₄ tO x b:=e₄.extBut _ _ Z.O2 hO₃
 refine wpAny_bind (wpAny_seqItems hO₄ rfl (wpAny_bind (wpAny_updateSeq_pair hO₄ fun h₅ hO₅ e₅=>?_)))
 replace hO₅:IsPair h₅ tO x y:=hO₅
 replace e₅:Heap.SameBut tO h₄ h₅:=e₅
 refine wpAny_bind (wpAny_letGo (wpAny_pure (wpAny_pure (wpAny_bind (wpAny_seqItems hO₅ rfl (wpAny_bind (wpAny_newTuple ?_)))))))
 have u1₅:St1 (k+1) h₅:=D1.frame _ h₃ h₅ u1₃ fun b hb o e=>e₅.extBut _ _ (fun x=>Z.a1.2.1 (x ▸ hb)) (e₄.extBut _ _ (fun x=>Z.a1.2.2 (x ▸ hb)) e)
 have u2₅:St2 (k+1) h₅:=D2.frame _ h₄ h₅ u2 fun b hb o e=>e₅.extBut _ _ (fun x=>Z.a2.2.1 (x ▸ hb)) e
 have sz:h₅.objs.size=hp.objs.size:=by rw[e₅.1,e₄.1,e₃.1,e₂.1,e₁.1]
 have z₅:IsZip h₅ zp tI tO .ellipsis:=e₅.extBut _ _ Z.zTO.symm (e₄.extBut _ _ Z.z2.symm (e₃.extBut _ _ Z.zTO.symm (e₂.extBut _ _ Z.z1.symm z₁)))
 have k₅:∀c o,c≠zp->c≠tO->c≠i1->c≠i2->hp.get? c=some o->h₅.get? c=some o:=fun c o c1 c2 c3 c4 e=>e₅.extBut _ _ c2 (e₄.extBut _ _ c4 (e₃.extBut _ _ c2 (e₂.extBut _ _ c3 (e₁.extBut _ _ c1 e))))
 have zlt:zp<h₅.objs.size:=Heap.lt_size z₅
 show wpAny _ _ (Builtin.SmallTypes.ownedTupleHandOut (.ref zp) (.ref h₅.objs.size) >>= _) _ _ _
 unfold Builtin.SmallTypes.ownedTupleHandOut
 have z₆:IsZip (h₅.push { cls:=.type "tuple",data:=.seq #[x,y] }) zp tI tO .ellipsis:=Heap.get?_push_of_some _ z₅
 refine wpAny_bind (wpAny_bind (wpAny_setField_rec z₆ (by simp) fun h₇ z₇ e₇=>?_))
 replace z₇:IsZip h₇ zp tI tO (rawInt h₅.objs.size):=z₇
 refine wpAny_setField_rec z₇ (by simp) fun h₈ z₈ e₈=>?_
 replace z₈:IsZip h₈ zp tI tO (rawInt h₅.objs.size):=z₈
 have up:∀c o,c≠zp->h₅.get? c=some o->h₈.get? c=some o:=fun c o c1 e=>e₈.extBut _ _ c1 (e₇.extBut _ _ c1 (Heap.get?_push_of_some _ e))
 have hT₈:IsPair h₈ h₅.objs.size x y:=e₈.extBut _ _ (Nat.ne_of_gt zlt) (e₇.extBut _ _ (Nat.ne_of_gt zlt) (Heap.get?_push_size _ rfl))
 have sz8:h₈.objs.size=h₅.objs.size+1:=by rw[e₈.1,e₇.1,Heap.size_push]
 rw[sz] at z₈ hT₈ sz8
 refine wpAny_pure ⟨_,rfl,?_⟩
 show Q (.ref h₅.objs.size) _
 rw[sz]
 exact qd x y h₈ tk₄ p1 p2 z₈ (up _ _ Z.zTO hO₅) (D1.frame _ h₅ h₈ u1₅ fun b hb o e=>up b o (fun x=>Z.a1.1 (x ▸ hb)) e) (D2.frame _ h₅ h₈ u2₅ fun b hb o e=>up b o (fun x=>Z.a2.1 (x ▸ hb)) e) hT₈ sz8 fun c o c1 c2 c3 c4 e=>up c o c1 (k₅ c o c1 c2 c3 c4 e)
theorem zipD_end {zp tI tO i1 i2:Addr}{fp1 fp2:List Addr}{St:Heap->Prop}{a b:Value}{Q:Fin->Shared->Prop}(fr:∀h h',St h->(∀b∈fp1,∀o,h.get? b=some o->h'.get? b=some o)->St h')
 (dn:∀(s:Shared)(Q:Value->Shared->Prop)(E:Value->Shared->Prop),St s.heap->(∀h' e,Heap.ExtBut i1 s.heap h'->(∃o,h'.get? e=some o/\o.cls = .type "StopIteration")->E (.ref e) { s with heap:=h' })->wpAny (model prog w) A (Builtin.SmallTypes.nextOf (.ref i1)) Q E s) (Z:ZAp zp tI tO i1 i2 fp1 fp2)
 (gz:IsZip s.heap zp tI tO .none)(gI:IsPair s.heap tI (.ref i1) (.ref i2))(gO:IsPair s.heap tO a b)(s1:St s.heap)
 (qe:∀h' e,(∀c o,c≠zp->c≠i1->s.heap.get? c=some o->h'.get? c=some o)->(∃o,h'.get? e=some o/\o.cls = .type "StopIteration")->E (.ref e) { s with heap:=h' }) :
 wpAny (model prog w) A (Builtin.«zip.__next__» ⟨[.ref zp],[]⟩) Q E s:=by
 obtain⟨hp,g,d,tk₀,os⟩:=s
 show wpAny _ _ (field (.ref zp) 2 >>= _) _ _ _
 refine wpAny_bind (wpAny_field gz rfl (x:=.bool false) rfl ?_)
 show wpAny _ _ (field (.ref zp) 3 >>= _) _ _ _
 refine wpAny_bind (wpAny_field gz rfl (x:=.ref tI) rfl (wpAny_bind (wpAny_seqItems gI rfl ?_)))
 show wpAny _ _ (Builtin.SmallTypes.ownedTupleIsFree (.ref zp) >>= _) _ _ _
 unfold Builtin.SmallTypes.ownedTupleIsFree
 refine wpAny_bind (wpAny_bind (wpAny_field gz rfl (x:=.none) rfl (wpAny_pure ?_)))
 simp only[if_true]
 refine wpAny_bind (wpAny_rule (wpAny_bind (wpAny_field gz rfl (x:=.ref tO) rfl (wpAny_bind (wpAny_setField_rec gz (by simp) fun h₁ z₁ e₁=>?_)))))
 replace z₁:IsZip h₁ zp tI tO .ellipsis:=z₁
 replace e₁:Heap.SameBut zp hp h₁:=e₁
 refine wpAny_bind ?_
 simp only[List.zipIdx_cons,List.zipIdx_nil,List.forIn_cons,List.forIn_nil]
 refine wpAny_bind (wpAny_bind (wpAny_onRaise ?_))
 show wpAny _ _ (Builtin.SmallTypes.nextOf (.ref i1) >>= _) _ _ _
 refine wpAny_bind (dn _ _ _ (fr hp h₁ s1 fun b hb o e=>e₁.extBut _ _ (fun x=>Z.a1.1 (x ▸ hb)) e) fun h₂ e e₂ he=>?_)
 replace e₂:Heap.ExtBut i1 h₁ h₂:=e₂
 obtain⟨oe,hoe,hce⟩:=he
 have z₂:IsZip h₂ zp tI tO .ellipsis:=e₂ _ _ Z.z1.symm z₁
 have ne:e≠zp:=fun x=>by subst x;rw[z₂] at hoe;cases hoe;simp at hce
 exact wpAny_setField_rec z₂ (by simp) fun h₃ _ e₃=>qe h₃ e (fun c o c1 c3 x=>e₃.extBut _ _ c1 (e₂ _ _ c3 (e₁.extBut _ _ c1 x))) ⟨oe,e₃.extBut _ _ ne hoe,hce⟩
end
noncomputable abbrev zt1 (h:Heap)(l1:Addr):Heap:=h.push { cls:=.type "tuple_iterator",data:=.fields #[.ref l1,.int 0 0] }
noncomputable abbrev zt2 (h:Heap)(l1 l2:Addr):Heap:=(zt1 h l1).push { cls:=.type "tuple_iterator",data:=.fields #[.ref l2,.int 0 0] }
noncomputable abbrev zt3 (h:Heap)(l1 l2:Addr):Heap:=(zt2 h l1 l2).push { cls:=.type "tuple",data:=.seq #[.ref h.objs.size,.ref (zt1 h l1).objs.size] }
noncomputable abbrev zt4 (h:Heap)(l1 l2:Addr):Heap:=(zt3 h l1 l2).push { cls:=.type "tuple",data:=.seq #[.none,.none] }
noncomputable abbrev zt5 (h:Heap)(l1 l2:Addr):Heap:=(zt4 h l1 l2).push { cls:=.type "zip",data:=.fields #[.none,.bool false,.bool false,.ref (zt2 h l1 l2).objs.size,.ref (zt3 h l1 l2).objs.size] }
theorem meets_zipT (l1 l2:Addr)(xs ys:Array Value):Meets (Builtin.«zip.__new__» ⟨[.type "zip",.ref l1,.ref l2],[]⟩) (fun _ R s=>s.heap.IsTuple l1 xs/\s.heap.IsTuple l2 ys/\R (.ok (.ret (.ref (zt4 s.heap l1 l2).objs.size))) { s with heap:=zt5 s.heap l1 l2 }):=by
 refine .of_wp fun prog w A R s hs=>?_
 obtain⟨hp,g,d,tk,os⟩:=s
 obtain⟨h1,h2,hR⟩:=hs
 have su:=sub_zip
 have t1:Heap.IsTuple (Shared.heap ⟨hp,g,d,tk,os⟩) l1 xs:=h1
 have t2:Heap.IsTuple (Shared.heap ⟨hp.push { cls:=.type "tuple_iterator",data:=.fields #[.ref l1,.int 0 0] },g,d,tk,os⟩) l2 ys:=by
  obtain⟨o,ho,r⟩:=h2
  exact⟨o,Heap.get?_push_of_some _ ho,r⟩
 wp_walk using wpAny_pyIter_tuple t1,wpAny_pyIter_tuple t2
 exact⟨_,rfl,hR⟩
section
variable {prog:Program}{w:World}{A:Around}{E:Value->Shared->Prop}{s:Shared}
theorem call_zipT {l1 l2:Addr}{xs ys:Array Value}{Q:Value->Shared->Prop}(h1:s.heap.IsTuple l1 xs)(h2:s.heap.IsTuple l2 ys)
 (h:∀h',IsZip h' (s.heap.objs.size+4) (s.heap.objs.size+2) (s.heap.objs.size+3) .none->IsPair h' (s.heap.objs.size+2) (.ref s.heap.objs.size) (.ref (s.heap.objs.size+1))->IsPair h' (s.heap.objs.size+3) .none .none ->
  h'.IsTupleIter s.heap.objs.size l1 0->h'.IsTupleIter (s.heap.objs.size+1) l2 0->(∀c o,s.heap.get? c=some o->h'.get? c=some o)->Q (.ref (s.heap.objs.size+4)) { s with heap:=h' }) :
 wpAny (model prog w) A (call (.type "zip") [.ref l1,.ref l2]) Q E s:=by
 refine callType_new PySem.F.called_zip (by decide) (PySem.F.typeCall_zip_2 _ _) (PySem.F.newCall_zip_2 _ _) (fun obj=>PySem.F.args_object_init_3 obj _ _) PySem.F.entry_zip_new (meets_zipT l1 l2 xs ys) ⟨h1,h2,?_⟩
 have z1:(zt1 s.heap l1).objs.size=s.heap.objs.size+1:=Heap.size_push ..
 have z2:(zt2 s.heap l1 l2).objs.size=s.heap.objs.size+2:=by rw[Heap.size_push,z1]
 have z3:(zt3 s.heap l1 l2).objs.size=s.heap.objs.size+3:=by rw[Heap.size_push,z2]
 have z4:(zt4 s.heap l1 l2).objs.size=s.heap.objs.size+4:=by rw[Heap.size_push,z3]
 have up:∀{h:Heap}{c:Addr}{o o':Obj},h.get? c=some o->(h.push o').get? c=some o:=fun e=>Heap.get?_push_of_some _ e
 have g5:(zt5 s.heap l1 l2).get? (zt4 s.heap l1 l2).objs.size=some _:=Heap.get?_push_size _ rfl
 have g4:(zt5 s.heap l1 l2).get? (zt3 s.heap l1 l2).objs.size=some _:=up (Heap.get?_push_size _ rfl)
 have g3:(zt5 s.heap l1 l2).get? (zt2 s.heap l1 l2).objs.size=some _:=up (up (Heap.get?_push_size _ rfl))
 have g2:(zt5 s.heap l1 l2).get? (zt1 s.heap l1).objs.size=some _:=up (up (up (Heap.get?_push_size _ rfl)))
 have g1:(zt5 s.heap l1 l2).get? s.heap.objs.size=some _:=up (up (up (up (Heap.get?_push_size _ rfl))))
 show _/\_
 rw[z2,z3,z4] at g5
 rw[z1,z2] at g3
 rw[z3] at g4
 rw[z1] at g2
 rw[z4]
 exact⟨⟨_,g5,rfl⟩,h _ g5 g3 g4 ⟨_,g1,rfl,rfl⟩ ⟨_,g2,rfl,rfl⟩ fun c o x=>up (up (up (up (up x))))⟩
end
noncomputable def ItzT (K:PySem.W.Frag)(a b:Addr):It:=
 ⟨fun i H=>∃xs ys x y,SqT K H a xs/\SqT K H b ys/\xs[i]? = some x/\ys[i]? = some y,fun i H x H'=>∃T u v,x = .ref T/\H T=none/\H'=upd H T (.tup [u,v])/\(∀xs,SqT K H a xs->xs[i]? = some u)/\∀ys,SqT K H b ys->ys[i]? = some v,fun i H=>∃xs,SqT K H a xs/\xs.length<=i⟩
theorem apart_tups {zp tI tO i1 i2 a b:Addr}(h1:i1<i2)(h2:i2<tI)(h3:tI<tO)(h4:tO<zp)(ha:a<i1)(hb:b<i1):ZAp zp tI tO i1 i2 [i1,a] [i2,b]:=by
 have t1:=Nat.lt_trans h1 h2
 have t2:=Nat.lt_trans h2 h3
 have t3:=Nat.lt_trans h3 h4
 have t4:=Nat.lt_trans t1 h3
 have t5:=Nat.lt_trans t2 h4
 have t6:=Nat.lt_trans t4 h4
 have nm:∀{x y zp:Addr},x≠y->x≠zp->x∉[y,zp]:=fun p q h=>by
  rcases List.mem_cons.mp h with e | e
  . exact p e
  . exact q (List.mem_singleton.mp e)
 exact⟨Nat.ne_of_lt t3,Nat.ne_of_lt h4,Nat.ne_of_lt t6,Nat.ne_of_lt t5,Nat.ne_of_lt h3,Nat.ne_of_gt t1,Nat.ne_of_gt h2,Nat.ne_of_gt t4,Nat.ne_of_gt t2,Nat.ne_of_lt h1,
  ⟨nm (Nat.ne_of_gt t6) (Nat.ne_of_gt (Nat.lt_trans ha t6)),nm (Nat.ne_of_gt t4) (Nat.ne_of_gt (Nat.lt_trans ha t4)),nm (Nat.ne_of_gt h1) (Nat.ne_of_gt (Nat.lt_trans ha h1))⟩,
  ⟨nm (Nat.ne_of_gt t5) (Nat.ne_of_gt (Nat.lt_trans hb t6)),nm (Nat.ne_of_gt t2) (Nat.ne_of_gt (Nat.lt_trans hb t4)),nm (Nat.ne_of_lt h1) (Nat.ne_of_gt hb)⟩⟩
theorem turn_zipT {P:Program}{w:World}{K:PySem.W.Frag}{elts:List Expr} {x1} {tp:Pos}(a b zp tI tO i1 i2:Addr)(o1:i1<i2)(o2:i2<tI)(o3:tI<tO)(o4:tO<zp)(oa:a<i1)(ob:b<i1) :
 Turn P w K (.Tuple elts x1 tp) (ItzT K a b) [zp,tI,tO,i1,i2] zp (fun i h=>IsZip h zp tI tO .none/\IsPair h tI (.ref i1) (.ref i2)/\(∃u v,IsPair h tO u v)/\h.IsTupleIter i1 a i/\h.IsTupleIter i2 b i) where
 mem:=by simp
 obj:=fun i h st c hc=>by
  obtain⟨gz,hI,⟨u,v,hO⟩,⟨p1,e1,c1,d1⟩,⟨p2,e2,c2,d2⟩⟩:=st
  simp only[List.mem_cons,List.not_mem_nil,or_false] at hc
  rcases hc with rfl | rfl | rfl | rfl | rfl
  . exact⟨_,gz,fun v zp=>by cases zp⟩
  . exact⟨_,hI,fun v zp=>by cases zp⟩
  . exact⟨_,hO,fun v zp=>by cases zp⟩
  . exact⟨p1,e1,fun v zp=>by rw[d1] at zp;cases zp⟩
  . exact⟨p2,e2,fun v zp=>by rw[d2] at zp;cases zp⟩
 keep:=fun i h h' st k=>by
  obtain⟨gz,hI,⟨u,v,hO⟩,⟨p1,e1,r1⟩,⟨p2,e2,r2⟩⟩:=st
  exact⟨k zp (by simp) _ gz,k tI (by simp) _ hI,⟨u,v,k tO (by simp) _ hO⟩,⟨p1,k i1 (by simp) _ e1,r1⟩,⟨p2,k i2 (by simp) _ e2,r2⟩⟩
 item:=by
  intro X hP hw hK hc i pins s σ H E I hf st hg
  subst hP hw hK
  obtain⟨gz,hI,⟨u0,v0,hO⟩,h1,h2⟩:=st
  obtain⟨xs,ys,x,y,hq1,hq2,hx,hy⟩:=hg
  obtain⟨its1,rv1,p1,hz1⟩:=I.tuple hq1
  obtain⟨its2,rv2,p2,hz2⟩:=I.tuple hq2
  obtain⟨u1,hu1,ru1⟩:=rv1.get hx
  obtain⟨u2,hu2,ru2⟩:=rv2.get hy
  have zlt:zp<s.heap.objs.size:=Heap.lt_size gz
  have Z:=apart_tups o1 o2 o3 o4 oa ob
  have lt1:i<its1.toArray.size:=by simpa using (List.getElem?_eq_some_iff.mp hu1).1
  have lt2:i<its2.toArray.size:=by simpa using (List.getElem?_eq_some_iff.mp hu2).1
  have hT:s.TypeIs (.ref zp) "zip" := ⟨_,gz,rfl⟩
  unfold pyNext
  refine wpAny_bind (wpAny_attempt (wpAny_callSpecial?_slot (name:=Str.ofString "__next__") hT PySem.F.slot_zip_next (wpAny_call_entry PySem.F.slot_zip_next hT PySem.F.entry_zip_next
   (zipD_item (draws_tup (A:=X.A.in1) (I.ok.hd hc) i1 a (Nat.ne_of_lt oa) its1.toArray) (draws_tup (A:=X.A.in1) (I.ok.hd hc) i2 b (Nat.ne_of_lt (Nat.lt_trans ob o1)) its2.toArray) Z gz hI hO ⟨h1,p1⟩ ⟨h2,p2⟩ lt1 lt2 fun y1 y2 h' tk hy1 hy2 z' hO' s1' s2' hT' hsz hk=>wpAny_pure ?_) (PySem.F.args_zip_next_1 _))))
  obtain rfl:y1=u1:=by
   have h1:its1[i]? = some y1:=by simpa using hy1
   rw[hu1] at h1;exact (Option.some.inj h1).symm
  obtain rfl:y2=u2:=by
   have h1:its2[i]? = some y2:=by simpa using hy2
   rw[hu2] at h1;exact (Option.some.inj h1).symm
  refine⟨_,rfl,wpAny_letOwnedTupleGo_zip z' fun h2' z2 e2=>?_⟩
  have hT2:IsPair h2' s.heap.objs.size y1 y2:=e2.extBut _ _ (Nat.ne_of_gt zlt) hT'
  have fpl:∀c∈[zp,tI,tO,i1,i2],c<s.heap.objs.size:=fun c hc=>by
   simp only[List.mem_cons,List.not_mem_nil,or_false] at hc
   have t1:=Nat.lt_trans o4 zlt
   have t2:=Nat.lt_trans o3 t1
   have t3:=Nat.lt_trans o2 t2
   rcases hc with rfl | rfl | rfl | rfl | rfl
   . exact zlt
   . exact t2
   . exact t1
   . exact Nat.lt_trans o1 t3
   . exact t3
  refine⟨.ref s.heap.objs.size,upd H s.heap.objs.size (.tup [x,y]),I.turnedLaid (t':=tk) (fp:=[zp,tI,tO,i1,i2]) hf (fun c o hb q=>?_) (Nat.le_refl _) ?_,rfl,⟨_,x,y,rfl,I.hok.fresh (Nat.le_refl _),rfl,fun zs hzs=>by rw[I.tuple_inj hzs hq1];exact hx,fun zs hzs=>by rw[I.tuple_inj hzs hq2];exact hy⟩,⟨z2,?_,⟨_,_,e2.extBut _ _ Z.zTO hO'⟩,?_,?_⟩,fun c hc=>?_⟩
  . exact e2.extBut _ _ (fun w=>hb (by simp[w])) (hk c o (fun w=>hb (by simp[w])) (fun w=>hb (by simp[w])) (fun w=>hb (by simp[w])) (fun w=>hb (by simp[w])) q)
  . exact⟨⟨by show 2<=sizeLine;decide,_,hT2,rfl⟩,[y1,y2],.cons ru1 (.cons ru2 .nil),⟨_,hT2,rfl,_,rfl⟩⟩
  . exact e2.extBut _ _ Z.zTI (hk _ _ Z.zTI Z.IO Z.I1 Z.I2 hI)
  . obtain⟨⟨o,ho,r⟩,_⟩:=s1'
    exact⟨o,e2.extBut _ _ Z.z1 ho,r⟩
  . obtain⟨⟨o,ho,r⟩,_⟩:=s2'
    exact⟨o,e2.extBut _ _ Z.z2 ho,r⟩
  . rw[upd_ne (Nat.ne_of_lt (fpl c hc))];exact (hf _ hc).1
 done:=by
  intro X hP hw hK hc i pins s σ H E I hf st hg
  subst hP hw hK
  obtain⟨gz,hI,⟨u0,v0,hO⟩,h1,h2⟩:=st
  obtain⟨xs,hq,hx⟩:=hg
  obtain⟨its,rv,p,_⟩:=I.tuple hq
  have hl:=rv.length
  have Z:=apart_tups o1 o2 o3 o4 oa ob
  have hT:s.TypeIs (.ref zp) "zip" := ⟨_,gz,rfl⟩
  have f1:=hf zp (by simp)
  have f2:=hf i1 (by simp)
  unfold pyNext
  refine wpAny_bind (wpAny_attempt (wpAny_callSpecial?_slot (name:=Str.ofString "__next__") hT PySem.F.slot_zip_next (wpAny_call_entry PySem.F.slot_zip_next hT PySem.F.entry_zip_next
   (zipD_end (A:=X.A.in1) (St:=fun h=>h.IsTupleIter i1 a i/\h.IsTuple a its.toArray) (fun h h' st k=>by
    obtain⟨⟨o,ho,r⟩,o2,ho2,r2⟩:=st
    exact⟨⟨o,k i1 (by simp) o ho,r⟩,o2,k a (by simp) o2 ho2,r2⟩) (fun s Q E st qe=>endOf_tup (I.ok.hd hc) st.1 st.2 (by simp;omega) qe) Z gz hI hO ⟨h1,p⟩ fun h' e hk he=>?_) (PySem.F.args_zip_next_1 _))))
  obtain⟨o,ho,hcl⟩:=he
  refine wpAny_bind (wpAny_isInstance (T := "StopIteration") (b:=true) ⟨o,ho,hcl⟩ isSubtype_stop (wpAny_pure ?_))
  exact⟨rfl,I.turnedFp (t':=s.toks) (fp:=[zp,tI,tO,i1,i2]) hf fun c u hb q=>hk c u (fun w=>hb (by simp[w])) (fun w=>hb (by simp[w])) q⟩
 self:=fun _ _ _ _ _ st h=>wpAny_pyIter_zip st.1 h
section
variable {X:Cx}
noncomputable def iZipT (K:PySem.W.Frag)(ta:TA):TI:=fun σ H R=>ta σ H fun vs H1=>∃a b,vs=[.ref a,.ref b]/\(∃xs,SqT K H1 a xs)/\(∃ys,SqT K H1 b ys)/\R (ItzT K a b) H1
theorem pi_zipT {elts:List Expr} {x1} {tp:Pos}{a b:Expr}{ta:TA}{p pos:Pos}(hg:Gl X "zip") (hm:X.mg "zip" = none) (ha:PA X [a,b] ta)(hs:starEach [a,b] X.env=(false,eval a X.env)::starEach [b] X.env:=by rfl)(hs2:(backTo pos (starEach [b] X.env)).any (·.1)=false:=by rfl):PI X (.Tuple elts x1 tp) (.Call (.Name "zip" p) [a,b] [] pos) (iZipT X.K ta):=by
 intro pins s σ H R I h
 refine Call_ (ld_blt I hg hm (by decide +kernel) (PyProof.Rows.callWith_type1 (T := "zip") (thn (ha pos pins s σ H _ I h) fun us s1 ⟨vs,H1,I1,r1,q1⟩=>?_) hs hs2))
 obtain⟨l1,l2,e,⟨xs,hq1⟩,⟨ys,hq2⟩,q⟩:=q1
 subst e
 obtain⟨u1,u2,rfl,rx1,rx2⟩:=vals2 r1
 cases rx1
 cases rx2
 obtain⟨its1,_,p1,_⟩:=I1.tuple hq1
 obtain⟨its2,_,p2,_⟩:=I1.tuple hq2
 have ll1:l1<s1.heap.objs.size:=by obtain⟨o,ho,_⟩:=id p1;exact Heap.lt_size ho
 have ll2:l2<s1.heap.objs.size:=by obtain⟨o,ho,_⟩:=id p2;exact Heap.lt_size ho
 refine call_zipT p1 p2 fun h' hz hI hO h1 h2 hk=>?_
 refine wpAny_pyIter_zip hz ?_
 refine⟨s1.heap.objs.size+4,[s1.heap.objs.size+4,s1.heap.objs.size+2,s1.heap.objs.size+3,s1.heap.objs.size,s1.heap.objs.size+1],_,_,H1,rfl,I1.kept (t':=s1.toks) hk,
  turn_zipT l1 l2 _ _ _ _ _ (Nat.lt_succ_self _) (Nat.lt_succ_self _) (Nat.lt_succ_self _) (Nat.lt_succ_self _) ll1 ll2,⟨hz,hI,⟨_,_,hO⟩,h1,h2⟩,fun b hb=>?_,q⟩
 have hle:s1.heap.objs.size<=b:=by
  simp only[List.mem_cons,List.not_mem_nil,or_false] at hb
  rcases hb with rfl | rfl | rfl | rfl | rfl
  . exact Nat.le_add_right _ _
  . exact Nat.le_add_right _ _
  . exact Nat.le_add_right _ _
  . exact Nat.le_refl _
  . exact Nat.le_add_right _ _
 exact I1.fpOk hle (I1.hok.fresh hle)
end
end L2
namespace L2
open PySem PySem.Spec PyProof.Rows
section
variable {X:Cx}
end
end L2
namespace L2
open PySem PySem.Spec PyProof.Rows
theorem ObjOk.there {P:Program}{w:World}{H:Hp}{h:Heap}{a:Addr}{o:HO}(x:ObjOk P w H h a o):∃ob,h.get? a=some ob:=by
 cases o with
 | lst xs=>obtain⟨_,_,_,_,e⟩:=x;exact⟨_,e⟩
 | tup xs=>obtain⟨⟨_,o2,e2,_⟩,_⟩:=x;exact⟨_,e2⟩
 | dK kvs=>obtain⟨_,_,_,_,o,_,_,e,_⟩:=x;exact⟨_,e⟩
 | dT kvs=>obtain⟨_,_,_,_,o,_,_,e,_⟩:=x;exact⟨_,e⟩
 | set S n=>obtain⟨o,_,_,_,e,_⟩:=x;exact⟨_,e⟩
 | ins C dx fs=>obtain⟨_,_,_,e,_⟩:=x;exact⟨_,e⟩
 | own y=>obtain⟨_,e⟩:=x;exact⟨_,e⟩
 | xd fs=>obtain⟨_,⟨_,_,_,e,_⟩,_⟩:=x;exact⟨_,e⟩
 | rng lo hi=>obtain⟨_,_,_,e⟩:=x;exact⟨_,e⟩
 | frz ob u=>obtain⟨e,_⟩:=x;exact⟨_,e⟩
 | tbl ps=>exact⟨_,show h.get? a=some _ from x⟩
 | met f y=>exact⟨_,show h.get? a=some _ from x⟩
 | ext φ=>obtain⟨_,⟨_,e⟩,_⟩:=x;exact⟨_,e⟩
theorem HOk.stays {P:Program}{w:World}{H:Hp}{h h' B:Heap}(x:HOk P w H h)(k:B.StaysIn h)(k':B.StaysIn h')(tr:∀b u,H b=some u->∃o,B.get? b=some o):HOk P w H h':=fun a o e=>
 (x a o e).stay (fun b u hb q=>by
  have:∃v,H b=some v:=by
   rcases hb with rfl | hb
   . exact⟨_,e⟩
   . exact⟨_,hb⟩
  obtain⟨v,hv⟩:=this
  obtain⟨o',ho'⟩:=tr b v hv
  have e2:o'=u:=Option.some.inj ((k b o' ho').symm.trans q)
  exact e2 ▸ k' b o' ho') (fun _ q=>q) fun _ _ q=>q
section
variable {P:Program}{w:World}{K:PySem.W.Frag}{mg:Str->Option Value}{base:Heap}{N:List Str}{qual:Str}{scope:Scope}{f:Addr}{cd:Value}{A:Around}{outer:List Env}{s0 s:Shared}{H0 H:Hp}{E:XK}{pins:List (Addr×Obj)}{σ:St}
end
noncomputable abbrev bmV:List Value:=[.type "ValueError",.type "Exception",.type "BaseException",.type "object"]
theorem exc_obj {K:PySem.W.Frag}{h:Heap}{C:Addr}{bmB:List Value}{newId:String}(X:K.In h)(q:PySem.W.excIn K C bmB newId=true) :
 ∃bm N nm qn bs hdct sn sub ab col dd k0 k1 k2 k3 k5 mN,h.get? C=some (excClassObj nm qn C N bs bm hdct sn sub ab col dd k0 k1 k2 k3 k5 newId)/\h.Ns N mN/\mN "__init__" = none/\OwnTail h bmB bm:=by
 unfold PySem.W.excIn at q
 split at q
 . next dd cd sl look=>
   split at q
   . next D bm k0 k1 k2 k3 n k5 em es=>
     simp only[Bool.and_eq_true,beq_iff_eq,Bool.not_eq_true'] at q
     obtain⟨⟨⟨⟨⟨q1,q2⟩,q3⟩,q4⟩,q5⟩,q6⟩:=q
     subst q1 q2
     cases cd
     simp only at em q3 q5 q6
     subst em q3
     cases sl
     simp only at es
     subst es
     exact⟨_,_,_,_,_,_,_,_,_,_,_,_,_,_,_,_,_,X _ _ look,.of_isNs (PySem.W.isNs_of_in X q5),PySem.W.nsMap_none_of_in X q5 q6,PySem.W.tail_of_in X q4⟩
   . cases q
 . cases q
end L2
namespace L2
open PySem PySem.Spec PyProof.Rows
section
variable {X:Cx}{pins:List (Addr×Obj)}{σ:St}{H:Hp}{s:Shared}
theorem unbind_ok {M:Model}{A:Around}{E:Value->Shared->Prop}{i:Nat}{x:Str}{v:V}{Q:Unit->Shared->Prop}(I:Inv X pins σ H s)(hN:X.N.Nodup)(hi:X.N[i]? = some x)(hk:X.env.kindOf x=some .local)(hv:σ[i]? = some (some v))
 (h:∀s',Inv X pins (σ.set i none) H s'->Q () s'):wpAny M A (unbindName X.env x) Q E s:=by
 obtain⟨m,hn,hl⟩:=id I.loc
 have hcls:(X.env.scope.kind == .class || (X.env.scope.kind == .module && X.env.locals != X.env.globals))=false:=by rw[I.ok.kind];rfl
 have hk':X.env.scope.names.lookup x=some .local:=hk
 obtain⟨u,_,lk⟩:=hl i x v hi hv (.inl hk')
 have hm:m x=some u:=by
  rcases lk with ⟨_,e⟩ | ⟨q,_⟩
  . exact e
  . rcases q with q | q <;> (rw[hk] at q;cases q)
 obtain⟨oL,_,_,hoL,_⟩:=id hn
 have neL:∀b o,X.s₀.heap.get? b=some o->b≠X.env.locals:=fun b o e=>Nat.ne_of_lt (Nat.lt_of_lt_of_le (Heap.lt_size e) I.ok.above)
 refine wpAny_unbindName_local hk hn hm hcls fun h' uu hn' hs=>h _ ⟨I.ok,I.os,I.bare,⟨fun b o e n hb hx=>(hs.2 b (neL b o e)).trans (I.base.keep b o e n hb hx),fun b o e n hb hx=>?_,I.base.free,fun b o e hx=>?_,I.base.tups,I.base.frzs,I.base.tbls⟩,⟨_,hn',fun j y v' e1 e2 e3=>?_⟩,fun y c e=>?_,I.free,I.freeC,fun p hp=>?_,fun b ob e=>?_,by simpa using I.len⟩
 . obtain⟨sl,e1⟩:=I.base.slot b o e n hb hx
   exact⟨sl,(hs.2 b (neL b o e)).trans e1⟩
 . obtain⟨o',e1⟩:=I.base.there b o e hx
   exact⟨o',(hs.2 b (neL b o e)).trans e1⟩
 . have hj:j≠i:=fun z=>by
    subst z
    have:j<σ.length:=(List.getElem?_eq_some_iff.mp hv).1
    rw[List.getElem?_set_self this] at e2
    cases e2
   rw[List.getElem?_set_ne (Ne.symm hj)] at e2
   obtain⟨u',r',q⟩:=hl j y v' e1 e2 e3
   refine⟨u',r',?_⟩
   rcases q with ⟨k,e⟩ | ⟨k,c,e,z⟩
   . have ny:y≠x:=fun e=>hj (nodup_ix hN e1 (e ▸ hi))
     exact .inl ⟨k,by simp[ny,e]⟩
   . exact .inr ⟨k,c,e,z.sameBut hs (I.cne y c e)⟩
 . obtain⟨w',z⟩:=I.cell y c e
   exact⟨w',z.sameBut hs (I.cne y c e)⟩
 . obtain⟨e,n,ne,nf,d⟩:=I.pin p hp
   exact⟨(hs.2 p.1 ne).trans e,n,ne,nf,d⟩
 . refine (I.hok b ob e).stay (fun c w' hc q=>(hs.2 c ?_).trans q) (fun _ q=>q) fun _ _ q=>q
   rintro rfl
   rcases hc with rfl | hc
   . rw[I.free] at e;cases e
   . rw[I.free] at hc;cases hc
end
theorem match_base {M:Model}{A:Around}{E:Value->Shared->Prop}{s:Shared}{nm qn nm' qn':Str}{C W Nn Nn':Addr}{bs bm bs' bm':List Value}{hdct hdct':Bool}{sn sn':List Str}{sub sub':List Value}{ab ab':Bool}{col col':Option Bool}{dd dd':Option Addr}
 {k0 k1 k2 k3 k5 k0' k1' k2' k3' k5':Option Value}{newId newId':String}{e:Addr}{oe:Obj}{Q:Bool->Shared->Prop}
 (hC:s.heap.get? C=some (excClassObj nm qn C Nn bs bm hdct sn sub ab col dd k0 k1 k2 k3 k5 newId))(hW:s.heap.get? W=some (excClassObj nm' qn' W Nn' bs' bm' hdct' sn' sub' ab' col' dd' k0' k1' k2' k3' k5' newId'))
 (he:s.heap.get? e=some oe)(hcls:oe.cls = .ref C)(hb:bm'.contains (.type "BaseException")=true) (hs:(Value.ref C::bm).contains (.ref W)=true)(hq:Q true s):wpAny M A (excMatches (.ref e) (.ref W)) Q E s:=by
 obtain⟨h,g,d,t,os⟩:=s
 have hWB:(Value.ref W::bm').contains (.type "BaseException")=true:=by rw[List.contains_cons,hb,Bool.or_true]
 have f:=tc_notTuple
 unfold excMatches
 repeat (first | (with_reducible refine wpAny_loadPart_at he ?_;rw[hcls]) | with_reducible refine wpAny_loadPart_at hW ?_ | (with_reducible refine wpAny_isSubtype_exc hW ?_;rw[hWB]) | (with_reducible refine wpAny_isSubtype_exc hC ?_;rw[hs]) | wp_step)
 exact hq
end L2
namespace L2
open PySem PySem.Spec PyProof.Rows
noncomputable def subIn (K:PySem.W.Frag)(C W:Addr):Bool:=match K.lookup C with
 | some ⟨_,_,.cls cd,_⟩=>cd.mro.contains (.ref W)
 | _=>false
theorem sub_of {K:PySem.W.Frag}{h:Heap}{C W:Addr}{nm qn:Str}{Nn:Addr}{bs bm:List Value}{hdct:Bool}{sn:List Str}{sub:List Value}{ab:Bool}{col:Option Bool}{dd:Option Addr}{k0 k1 k2 k3 k5:Option Value}{newId:String}
 (X:K.In h)(q:subIn K C W=true)(hC:h.get? C=some (excClassObj nm qn C Nn bs bm hdct sn sub ab col dd k0 k1 k2 k3 k5 newId)):(Value.ref C::bm).contains (.ref W)=true:=by
 unfold subIn at q
 split at q
 . next look=>
   have e:=(X _ _ look).symm.trans hC
   unfold excClassObj at e
   cases e
   exact q
 . cases q
noncomputable def Cx.held (X:Cx)(ea:Addr)(oe:Obj):Cx:={ X with A:=X.A.mark (some (.ref ea)),calm:=false,pn:=(ea,oe)::X.pn,xe:=fun _ _=>False }
section
variable {X:Cx}{pins:List (Addr×Obj)}{σ:St}{H:Hp}{s:Shared}{ea:Addr}{oe:Obj}
theorem Inv.hold (I:Inv X pins σ H s)(h1:s.heap.get? ea=some oe)(h2:H ea=none)(h3:ea≠X.env.locals)(h4:ea∉X.fs)(h5:∀v,oe.data ≠ .cell v):Inv (X.held ea oe) pins σ H s:=
 ⟨⟨I.ok.mod,I.ok.kind,I.ok.glob,I.ok.blt,I.ok.above,I.ok.inj,I.ok.has,I.ok.cab,(fun z=>by cases z),I.ok.frames,I.ok.stk,I.ok.exf,I.ok.bs,I.ok.bsz,I.ok.noex,I.ok.exfs,I.ok.funs,I.ok.frf⟩,I.os,I.bare,I.base,I.loc,I.cell,I.free,I.freeC,
  fun p hp=>by
   rcases List.mem_cons.mp (show p∈(ea,oe)::(X.pn++pins) from hp) with rfl | hp
   . exact⟨h1,h2,h3,h4,h5⟩
   . exact I.pin p hp,I.hok,I.len⟩
theorem Inv.letgo (ok:X.Ok)(I:Inv (X.held ea oe) pins σ H s):Inv X pins σ H s:=
 ⟨ok,I.os,I.bare,I.base,I.loc,I.cell,I.free,I.freeC,fun p hp=>I.pin p (List.mem_cons_of_mem _ hp),I.hok,I.len⟩
end
theorem landed_un {st:List Env}{H1 H':Hp}{s1 s':Shared}{ea:Addr}{C a0:Value}{B h5:Heap}(un:Un (frs st) [] H1 H' s1.heap s'.heap)(fl:Heap.FlyingW B st ea C a0 s'.heap)
 (old:∀b o,s1.heap.get? b=some o->H1 b=none->b∉frs st->B.get? b=some o)(al:∀b o,s1.heap.get? b=some o->b∉frs st->∃o',B.get? b=some o')(st5:B.StaysIn h5)(up:s'.heap.UpToSlots h5):Un (frs st) [] H1 H' s1.heap h5:=by
 refine⟨fun b o e n hb _=>st5 b o (old b o e n hb),fun b o e n hb _=>?_,un.free,fun b o e _=>?_,un.tups,un.frzs,un.tbls⟩
 . obtain⟨sl2,e2⟩:=un.slot b o e n hb (by intro z;cases z)
   obtain⟨_,o3,e3,nd⟩:=fl.2.2.1.mem hb
   obtain⟨sl4,e4⟩:=up b _ e3 nd
   have e5:=Option.some.inj (e3.symm.trans e2)
   rw[e5] at e4
   exact⟨sl4,e4⟩
 . by_cases hb:b∈frs st
   . obtain⟨_,o3,e3,nd⟩:=fl.2.2.1.mem hb
     obtain⟨sl4,e4⟩:=up b _ e3 nd
     exact⟨_,e4⟩
   . obtain⟨o3,e3⟩:=al b o e hb
     exact⟨_,st5 b o3 e3⟩
noncomputable def endsH (i:Nat)(D:Ends):Ends:={ D with nx:=fun σ H=>D.nx (σ.set i none) H,bk:=fun σ H=>D.bk (σ.set i none) H,ct:=fun σ H=>D.ct (σ.set i none) H }
end L2
namespace L2
open PySem PySem.Spec PySem.W PyProof.Rows Builtin Builtin.ObjectAttr Builtin.Getset_descriptor
section
variable {prog:Program}{w:World}{A:Around}{E:Value->Shared->Prop}{s:Shared}{K:Frag}{x C:Addr}{ox:Obj}
structure ExcAt (K:Frag)(C:Addr):Prop where
 ga:findIn K (.ref C) "__getattribute__" = some (some (.builtin "BaseException.__getattribute__"))
 gn:findIn K (.ref C) "__getattr__" = some none
 cl:findIn K (.ref C) "__class__" = some (some (.builtin "object.__class__"))
 mo:mroIn K C (.type "object")=some true
 mb:mroIn K C (.type "BaseException")=some true
 ci:(clsIn K C).isSome=true
noncomputable def IsExc (h:Heap)(x C:Addr):Prop:=∃o,h.get? x=some o/\o.cls = .ref C
theorem IsExc.type {M:Model}{h:Heap}{x C:Addr}(I:IsExc h x C):Looks M h (typeOf (.ref x)) (.ref C):=by
 obtain⟨o,e,c⟩:=I
 rw[<-c]
 exact (Looks.ld e).andThen .now
theorem exc_cget {tp:Value}{R:Result->Shared->Prop}(X:K.In s.heap)(I:IsExc s.heap x C)(hm:mroIn K C (.type "object")=some true) (h:R (.ok (.ret (.ref C))) s) :
 codeAny (model prog w) A (.call (.builtin "getset_descriptor.__get__") ⟨[.builtin "object.__class__",.ref x,tp],[]⟩) R s:=by
 obtain⟨h0,g0,d0,t0,o0⟩:=s
 have T0:=I.type (M:=model prog w)
 have T1:=looks_mroIn (M:=model prog w) X hm
 refine codeAny_call_builtin KF.slot_gs.plain KF.entry_gs (KF.slot_gs.check _ _ _ _ _ _ _ _ KF.type_class (KF.args_gs _ _ _) ?_)
 unfold Builtin.«getset_descriptor.__get__» descrGet;rw[dga_obj]
 apply wpAny_bind;apply wpAny_pure
 unfold descrGetter descrCheckInstance descrNameAndClass isInstance;simp only[KF.owner_class]
 repeat lk
 refine⟨Code.quiet_builtin _ (by decide +kernel),codeAny_builtin KF.entry_class (?_:wpAny _ _ _ _ _ _)⟩
 unfold Builtin.«object.__class__»;unfold shownTypeOf
 repeat lk
 exact h
theorem exc_entry {tk:Tok}{Q:PySem.Fin->Shared->Prop}(X:K.In s.heap)(I:IsExc s.heap x C)(F':ExcAt K C)(hq:Q (.done (.ret (.ref C))) s) :
 wpAny (model prog w) A (Builtin.«object.__getattribute__» ⟨[.ref x,.str "__class__" tk],[]⟩) Q E s:=by
 obtain⟨h,g,d,t,os⟩:=s
 have L0:=I.type (M:=model prog w)
 have L1:=looks_findIn (M:=model prog w) X F'.cl
 have hT5:(⟨h,g,d,t,os⟩:Shared).TypeIs (.builtin "object.__class__") "getset_descriptor" := F.typeOf_object_class
 have f5:=F.typeOf_object_class
 have f6:=F.slot_gs_get.lookup
 have f7:=F.slot_gs_set.lookup
 repeat (any_goals (first | assumption | with_reducible refine L0.at ?_ | with_reducible refine L1.at ?_ | wp_step))
 refine exc_cget (s:=⟨h,g,d,t,os⟩) X I F'.mo ?_
 repeat (any_goals (first | assumption | wp_step))
theorem exc_check {M:Model}{nameV:Value}{Q:Unit->Shared->Prop}(X:K.In s.heap)(I:IsExc s.heap x C)(F':ExcAt K C)(hq:Q () s):wpAny M A (checkBuiltinCall "BaseException.__getattribute__" ⟨[.ref x,nameV],[]⟩) Q E s:=by
 obtain⟨h,g,d,t,os⟩:=s
 have L0:=I.type (M:=M)
 have L1:=looks_mroIn (M:=M) X F'.mb
 have e1:builtinKind "BaseException.__getattribute__" = some .slot:=by decide +kernel
 have e2:splitId "BaseException.__getattribute__" = some ("BaseException", "__getattribute__"):=by decide +kernel
 have ha:=F.args_bexc_ga (.ref x) nameV
 simp only[checkBuiltinCall,e1,e2]
 refine wpAny_bind ?_
 unfold isInstance
 repeat (any_goals (first | assumption | with_reducible refine L0.at ?_ | with_reducible refine L1.at ?_ | wp_step))
theorem exc_call {tk:Tok}{R:Result->Shared->Prop}(X:K.In s.heap)(I:IsExc s.heap x C)(F':ExcAt K C)(hq:R (.ok (.ret (.ref C))) s) :
 codeAny (model prog w) A (.call (.builtin "BaseException.__getattribute__") ⟨[.ref x,.str "__class__" tk],[]⟩) R s:=
 codeAny_call_builtin F.attrBase_ValueError.ga.plain F.entry_bexc_ga (exc_check X I F' (exc_entry X I F' hq))
theorem exc_by {tk:Tok}{fill:Bool}{Q:Value->Shared->Prop}(X:K.In s.heap)(I:IsExc s.heap x C)(F':ExcAt K C)(hq:Q (.ref C) s):wpAny (model prog w) A (getAttrBy (.ref x) (.str "__class__" tk) fill) Q E s:=by
 obtain⟨h,g,d,t,os⟩:=s
 have L0:=I.type (M:=model prog w)
 have L1:=looks_findIn (M:=model prog w) X F'.ga
 have L2:=looks_findIn (M:=model prog w) X F'.gn
 have f3:=F.attrBase_ValueError.ga.bind (.ref x)
 have hx2:(Value.builtin "BaseException.__getattribute__" == Value.builtin "object.__getattribute__")=false:=by decide +kernel
 have hx1:(onTheHeap (Value.ref C) && Value.builtin "BaseException.__getattribute__" == Value.builtin "object.__getattribute__")=false:=by rw[hx2];rfl
 repeat (any_goals (first | assumption | with_reducible refine L0.at ?_ | with_reducible refine L1.at ?_ | with_reducible refine L2.at ?_ | wp_step))
 refine exc_call (s:=⟨h,g,d,t,os⟩) X I F' ?_
 repeat (any_goals (first | assumption | wp_step))
theorem exc_attr {Q:Option Value->Shared->Prop}(X:K.In s.heap)(I:IsExc s.heap x C)(F':ExcAt K C)(hq:Q (some (.ref C)) { s with toks:=s.toks+1 }):wpAny (model prog w) A (getAttr? (.ref x) "__class__") Q E s:=by
 obtain⟨h,g,d,t,os⟩:=s
 unfold getAttr? getAttrBy?
 repeat (any_goals (first | assumption | with_reducible apply exc_by (s:=⟨h,g,d,t+1,os⟩) X I F' | wp_step))
theorem kitx_exc (F':ExcAt K C):KitX K (.ref x) (.ref C) (fun h=>IsExc h x C) where
 ty:=fun _ _ _ I=>I.type
 it:=fun _ _ X _=>by
  obtain⟨cdD,hcD⟩:=Option.isSome_iff_exists.mp F'.ci
  unfold clsIn at hcD
  split at hcD
  . next ho=>
    intro A' Q' E' s' k q
    unfold isType loadHead
    exact wpAny_bind (wpAny_loadPart (k _ _ (X _ _ ho)) (wpAny_pure q))
  . cases hcD
 ne:=fun h tp dd its n sl X htp=>by
  obtain⟨cdD,hcD⟩:=Option.isSome_iff_exists.mp F'.ci
  refine Bool.eq_false_iff.mpr fun q=>?_
  have e:C=tp:=Value.ref.inj (beq_iff_eq.mp q)
  subst e
  unfold clsIn at hcD
  split at hcD
  . next ho=>
    have z:=(X _ _ ho).symm.trans htp
    cases z
  . cases hcD
 ca:=fun X I k=>exc_attr X I F' k
end
structure HeldAt (X:Cx)(ea C:Addr):Prop where
 pin:∃oe,(ea,oe)∈X.pn/\oe.cls = .ref C
section
variable {X:Cx}
theorem held_inst {pins:List (Addr×Obj)}{σ:St}{H:Hp}{s:Shared}{ea C:Addr}(h:HeldAt X ea C)(I:Inv X pins σ H s):IsExc s.heap ea C:=by
 obtain⟨oe,hp,hc⟩:=h.pin
 obtain⟨e,_⟩:=I.pin (ea,oe) (List.mem_append_left _ hp)
 exact⟨oe,e,hc⟩
theorem call_isinstX {ea C:Addr}(hh:HeldAt X ea C):CallR X (.builtin "isinstance") (fun xs H Q=>∃W b,ExcAt X.K C/\xs=[.ref ea,.ref W]/\PySem.W.kitOne X.K (.ref C) (.ref W)=some b/\Q (.bl b) H):=by
 intro pins s σ H xs us Q I r h
 obtain⟨W,b,F',rfl,e,q⟩:=h
 obtain⟨u,w',rfl,rx,rT⟩:=vals2 r
 cases (show u=Value.ref ea from rx)
 cases (show w'=Value.ref W from rT)
 have J:=held_inst hh I
 exact PySem.W.kia_one (kitx_exc F') I.kIn J e (fun z=>nomatch z) fun tk=>⟨.bl b,H,I.tok tk,rfl,q⟩
theorem call_isinstXT {ea C:Addr}(hh:HeldAt X ea C):CallR X (.builtin "isinstance") (fun xs H Q=>∃T b,ExcAt X.K C/\xs=[.ref ea,.ty T]/\PySem.W.kitOne X.K (.ref C) (.type T)=some b/\Q (.bl b) H):=by
 intro pins s σ H xs us Q I r h
 obtain⟨T,b,F',rfl,e,q⟩:=h
 obtain⟨u,w',rfl,rx,rT⟩:=vals2 r
 cases (show u=Value.ref ea from rx)
 cases (show w'=Value.type T from rT)
 have J:=held_inst hh I
 exact PySem.W.kia_one (kitx_exc F') I.kIn J e (fun z=>nomatch z) fun tk=>⟨.bl b,H,I.tok tk,rfl,q⟩
theorem call_isinstXs {ea C:Addr}(hh:HeldAt X ea C):CallR X (.builtin "isinstance") (fun xs H Q=>∃(tp:Addr)(Ws:List Addr)(b:Bool),ExcAt X.K C/\xs=[.ref ea,.ref tp]/\H tp=some (.tup (Ws.map V.ref))/\PySem.W.kitAny X.K (.ref C) (Ws.map Value.ref)=some b/\Q (.bl b) H):=by
 intro pins s σ H xs us Q I r h
 obtain⟨tp,Ws,b,F',rfl,ht,e,q⟩:=h
 obtain⟨u,w',rfl,rx,rT⟩:=vals2 r
 cases (show u=Value.ref ea from rx)
 cases (show w'=Value.ref tp from rT)
 have J:=held_inst hh I
 obtain⟨⟨z,o2,e2,d2⟩,its,rv,ob,e3,c3,n3,s3⟩:=(show ObjOk X.prog X.w H s.heap tp (.tup (Ws.map V.ref)) from I.hok tp _ ht)
 have hits:its=Ws.map Value.ref:=by
  have:∀(Ws:List Addr)(its:List Value),Vals (Ws.map V.ref) its->its=Ws.map Value.ref:=by
   intro Ws
   induction Ws with
   | nil=>intro its h;cases h;rfl
   | cons a r ih=>
    intro its h
    cases h with
    | cons h1 h2=>rw[ih _ h2,show _=Value.ref a from h1];rfl
  exact this Ws its rv
 obtain⟨c',d',da',sl'⟩:=ob
 simp only at c3 s3
 subst c3 s3 hits
 exact PySem.W.kia_tup (kitx_exc F') I.kIn J e3 e (fun z=>nomatch z) fun tk=>⟨.bl b,H,I.tok tk,rfl,q⟩
theorem held_at {X:Cx}{ea C:Addr}{oe:Obj}(h:oe.cls = .ref C):HeldAt (X.held ea oe) ea C:=⟨⟨oe,List.mem_cons_self,h⟩⟩
variable {k:Nat}{f:Addr}{fd:FuncData}{ps:List Str}{sp:Sp}{x:Str}{p pos epos:Pos}{e:Expr}{es:List Expr}{t:TA}
end
end L2
namespace L2
open PySem PySem.Spec PyProof.Rows
noncomputable def DK (h h':Heap):Prop:=∀b o,h.get? b=some o->∃o',h'.get? b=some o'/\o'.dict=o.dict
theorem DK.refl (h:Heap):DK h h:=fun _ o e=>⟨o,e,rfl⟩
theorem DK.trans {h1 h2 h3:Heap}(a:DK h1 h2)(b:DK h2 h3):DK h1 h3:=fun x o e=>by
 obtain⟨o1,e1,d1⟩:=a x o e
 obtain⟨o2,e2,d2⟩:=b x o1 e1
 exact⟨o2,e2,d2.trans d1⟩
noncomputable def KD {α:Type}:Sem α->Prop
 | .pure _=>True
 | .raise _=>True
 | .unsupported _=>True
 | .finish _=>True
 | .rule _ k=>KD (k ())
 | .at _ k=>KD (k ())
 | .load _ _ k=>∀o,KD (k o)
 | .update _ _ f k=>(∀o,(f o).dict=o.dict/\(o.isFreed=false->(f o).isFreed=false))/\KD (k ())
 | .alloc _ k=>∀a,KD (k a)
 | .loadIfAlive _ k=>∀o,KD (k o)
 | .point _ k=>KD (k ())
 | .fresh k=>∀t,KD (k t)
 | .ask k=>∀x,KD (k x)
 | .stack k=>∀l,KD (k l)
 | .handled _ k=>∀v,KD (k v)
 | _=>False
theorem KD.bind {α β:Type}{t:Sem α}{k:α->Sem β}(h:KD t)(hk:∀a,KD (k a)):KD (t >>= k):=by
 show KD (Sem.bind t k)
 induction t with
 | pure a=>exact hk a
 | raise e=>trivial
 | unsupported w=>trivial
 | finish e=>trivial
 | rule t f ih=>exact ih () h
 | «at» p f ih=>exact ih () h
 | load a p f ih=>exact fun o=>ih o (h o)
 | update a p f g ih=>exact⟨h.1,ih () h.2⟩
 | alloc o f ih=>exact fun a=>ih a (h a)
 | loadIfAlive a f ih=>exact fun o=>ih o (h o)
 | point l f ih=>exact ih () h
 | fresh f ih=>exact fun t=>ih t (h t)
 | ask f ih=>exact fun x=>ih x (h x)
 | stack f ih=>exact fun l=>ih l (h l)
 | handled o f ih=>exact fun v=>ih v (h v)
 | register=>exact h.elim
 | choose=>exact h.elim
 | os=>exact h.elim
 | call=>exact h.elim
 | newGen=>exact h.elim
 | genState=>exact h.elim
 | resume=>exact h.elim
 | yield=>exact h.elim
 | fork=>exact h.elim
 | thread=>exact h.elim
 | await=>exact h.elim
theorem KD.wp {α:Type}{M:Model}{Γ : PySem.Ctx}{t:Sem α}(h:KD t){h0:Heap}{Q:α->Pos->Shared->Prop}{E:Value->Pos->Shared->Prop}:∀{p:Pos}{s:Shared},DK h0 s.heap->Sem.wp M Γ t Q E p s->Sem.wp M Γ t (fun a p' s'=>Q a p' s'/\DK h0 s'.heap) E p s:=by
 induction t with
 | pure a=>exact fun d w=>⟨w,d⟩
 | raise e=>exact fun d w=>w
 | unsupported w=>exact fun d w=>w
 | finish e=>exact fun d w=>w
 | rule t f ih=>exact fun d w=>ih () h d w
 | «at» p f ih=>exact fun d w=>ih () h d w
 | load a p f ih=>
  intro p s d w
  obtain⟨o,e,w⟩:=w
  exact⟨o,e,ih o (h o) d w⟩
 | update a p f g ih=>
  intro p s d w
  obtain⟨e,w⟩:=w
  refine⟨e,ih () h.2 (d.trans fun b o q=>?_) w⟩
  by_cases c:b=a
  . subst c
    have fr:=(Heap.get?_some_iff.mp q).2
    exact⟨f o,Heap.get?_update_self f q ((h.1 o).2 fr),(h.1 o).1⟩
  . exact⟨o,(Heap.get?_update_other _ _ (Ne.symm c)).trans q,rfl⟩
 | alloc o f ih=>
  intro p s d w
  exact ih _ (h _) (d.trans fun b o q=>⟨o,Heap.get?_push_of_some _ q,rfl⟩) w
 | loadIfAlive a f ih=>exact fun d w=>ih _ (h _) d w
 | point l f ih=>exact fun d w=>ih () h d w
 | fresh f ih=>exact fun d w=>ih _ (h _) d w
 | ask f ih=>exact fun d w=>ih _ (h _) d w
 | stack f ih=>exact fun d w=>ih _ (h _) d w
 | handled o f ih=>exact fun d w=>ih _ (h _) d w
 | register=>exact h.elim
 | choose=>exact h.elim
 | os=>exact h.elim
 | call=>exact h.elim
 | newGen=>exact h.elim
 | genState=>exact h.elim
 | resume=>exact h.elim
 | yield=>exact h.elim
 | fork=>exact h.elim
 | thread=>exact h.elim
 | await=>exact h.elim
theorem wpAny_kd {α:Type}{M:Model}{A:Around}{t:Sem α}{Q:α->Shared->Prop}{E:Value->Shared->Prop}{s:Shared}(k:KD t)(h:wpAny M A t Q E s):wpAny M A t (fun a s'=>Q a s'/\DK s.heap s'.heap) E s:=
 fun Γ p hΓ => k.wp (DK.refl _) (h Γ p hΓ)
theorem kd_ite {α:Type}{c:Prop} [Decidable c] {a b:Sem α}(h1:KD a)(h2:KD b):KD (if c then a else b):=by split <;> assumption
theorem kd_fieldsOf (v:Value):KD (fieldsOf v):=by
 unfold fieldsOf
 split
 . refine KD.bind (fun o=>trivial) fun o=>?_
   split <;> trivial
 . trivial
theorem kd_field (v:Value)(i:Nat):KD (field v i):=by
 unfold field
 refine KD.bind (kd_fieldsOf v) fun vs=>?_
 split <;> trivial
theorem freed_map (g:Array Value->Array Value)(o:Obj):(Obj.mapFields g o).dict=o.dict/\(o.isFreed=false->(Obj.mapFields g o).isFreed=false):=by
 obtain⟨c,d,dt,sl⟩:=o
 cases dt <;> exact⟨rfl,fun h=>h⟩
theorem kd_setField (v:Value)(i:Nat)(x:Value):KD (setField v i x):=by
 unfold setField
 split
 . unfold updateField
   refine KD.bind (fun o=>trivial) fun o=>?_
   split
   . exact kd_ite ⟨fun o=>freed_map _ o,trivial⟩ trivial
   . trivial
 . trivial
theorem kd_setFlight (e:Value)(f:Option Addr):KD (setFlight e f):=by
 unfold setFlight
 refine KD.bind (kd_field e 1) fun tb=>kd_ite (kd_setField _ _ _) trivial
theorem kd_frameEnvs:KD frameEnvs:=by
 unfold frameEnvs
 exact KD.bind (fun l=>trivial) fun l=>trivial
theorem kd_behind (env:Env)(l:List Env):KD (behindIsImport env l):=by
 unfold behindIsImport
 exact kd_ite trivial (kd_ite trivial (KD.bind (kd_field _ _) fun _=>trivial))
theorem kd_back (env:Env)(b:Bool)(l:List Env):KD (keptBack env b l):=by
 unfold keptBack
 split
 . refine kd_ite trivial ?_
   refine KD.bind ?_ fun _=>trivial
   unfold underTheClaimsCaller
   exact KD.bind (fun l=>trivial) fun l=>trivial
 . trivial
theorem kd_ready:∀l:List Env,KD (readyFrames l)
 | []=>trivial
 | env::outer=>by
  unfold readyFrames
  split
  . refine KD.bind (fun o=>trivial) fun o=>?_
    refine kd_ite trivial ?_
    refine KD.bind (kd_behind _ _) fun b=>?_
    refine KD.bind (kd_back _ _ _) fun b=>?_
    refine KD.bind ⟨fun o=>⟨rfl,fun h=>(by obtain⟨c,d,dt,sl⟩:=o;cases dt <;> exact h)⟩,trivial⟩ fun _=>kd_ready outer
  . trivial
theorem kd_frameOf (env:Env):KD (PySem.frameOf env):=by
 unfold PySem.frameOf
 refine KD.bind kd_frameEnvs fun l=>?_
 refine KD.bind ?_ fun r=>?_
 . unfold frameObject
   split
   . trivial
   . exact KD.bind (kd_ready _) fun _=>trivial
 . split <;> trivial
theorem kd_place (f:Addr)(b:Bool):KD (entryPlaceOf f b):=by
 unfold entryPlaceOf
 refine KD.bind (fun l=>trivial) fun l=>?_
 split <;> trivial
theorem kd_entry (a b c d e:Value)(l:List Value):KD (EntryCells.newEntry a b c d e l):=by
 unfold EntryCells.newEntry newFields newObj
 have fin:∀d:Data,KD (newObjAsIs (.type "traceback") d):=fun d=>by
  unfold newObjAsIs
  exact KD.bind (fun a=>trivial) fun a=>trivial
 simp only[]
 exact kd_ite (KD.bind trivial fun _=>fin _) (fin _)
theorem kd_note (e:Value)(env:Env):KD (noteFrame e env):=by
 unfold noteFrame
 split
 . refine KD.bind (kd_field _ _) fun hd=>?_
   have fin:∀f:Addr,KD (do setField e 1 (<-EntryCells.newEntry hd (<-PySem.frameOf env) .none (rawInt f) .none (<-entryPlaceOf f (hd != .none)))):=fun f=>
    KD.bind (kd_frameOf env) fun a=>KD.bind (kd_place _ _) fun pl=>KD.bind (kd_entry _ _ _ _ _ _) fun b=>kd_setField _ _ _
   refine kd_ite ?_ (fin _)
   refine KD.bind (kd_field _ _) fun x=>kd_ite trivial ?_
   exact KD.bind (kd_setField _ _ _) fun _=>fin _
 . trivial
theorem kd_leaving (env:Env)(e:Value):KD (leaving env e):=KD.bind (kd_note e env) fun _=>kd_setFlight e none
end L2
namespace L2
open PySem PySem.Spec PyProof.Rows
noncomputable def excI (K:PySem.W.Frag)(C:Addr):Bool:=match K.lookup C with
 | some ⟨.type "type",_,.cls u,z⟩=>
  match u.mro,z.toList with
  | .ref D::b,[_,_,_,_,some (.builtin m),_]=>D==C && m == "ValueError.__new__" && !u.hasDel && PySem.W.tailIn K bmV b && PySem.W.nsOkIn K u.ns && u.hasDict
  | _,_=>false
 | _=>false
theorem excI_obj {K:PySem.W.Frag}{h:Heap}{C:Addr}(X:K.In h)(q:excI K C=true) :
 ∃bm N nm qn bs sn sub ab col dd k0 k1 k2 k3 k5 mN,h.get? C=some (excClassObj nm qn C N bs bm true sn sub ab col dd k0 k1 k2 k3 k5 "ValueError.__new__")/\h.Ns N mN/\OwnTail h bmV bm:=by
 unfold excI at q
 split at q
 . next dd cd sl look=>
   split at q
   . next D bm k0 k1 k2 k3 n k5 em es=>
     simp only[Bool.and_eq_true,beq_iff_eq,Bool.not_eq_true'] at q
     obtain⟨⟨⟨⟨⟨q1,q2⟩,q3⟩,q4⟩,q5⟩,q6⟩:=q
     subst q1 q2
     cases cd
     simp only at em q3 q5 q6
     subst em q3 q6
     cases sl
     simp only at es
     subst es
     exact⟨_,_,_,_,_,_,_,_,_,_,_,_,_,_,_,_,X _ _ look,.of_isNs (PySem.W.isNs_of_in X q5),PySem.W.tail_of_in X q4⟩
   . cases q
 . cases q
structure ExcI (K:PySem.W.Frag)(C fI:Addr):Prop where
 cl:excI K C=true
 ini:PySem.W.findIn K (.ref C) "__init__" = some (some (.ref fI))
 fn:PySem.W.isFn K (.ref fI)=true
 sa:PySem.W.findIn K (.ref C) "__setattr__" = some (some (.builtin "object.__setattr__"))
 kp:PySem.W.keepIn K (.ref C)=true
noncomputable def xObj (C t:Addr)(od:Option Addr):Obj:={ cls:=.ref C,dict:=od,data:=.fields #[.ref t,.none,.none,.none,.bool false,.none] }
noncomputable def xTup (us:List Value):Obj:={ cls:=.type "tuple",data:=.seq us.toArray }
section
variable {prog:Program}{w:World}{A:Around}{E:Value->Shared->Prop}{h:Heap}{g:Array GenState}{d:Drawn}{t:Nat}{os:OsState}{K:PySem.W.Frag}{C fI:Addr}{us:List Value}
noncomputable def hNew (h:Heap)(C:Addr)(us:List Value):Heap:=(h.push (xTup us)).push (xObj C h.objs.size none)
theorem hNew_keep (h:Heap)(C:Addr)(us:List Value):∀b o,h.get? b=some o->(hNew h C us).get? b=some o:=fun _ _ e=>Heap.get?_push_of_some _ (Heap.get?_push_of_some _ e)
theorem hNew_e (h:Heap)(C:Addr)(us:List Value):(hNew h C us).get? (h.objs.size+1)=some (xObj C h.objs.size none):=Heap.get?_push_at (by rw[Heap.size_push]) rfl
theorem made_init {Q:PySem.Fin->Shared->Prop}(X:K.In h)(I:ExcI K C fI)(hz:us.length<=sizeLine)
 (hq:wpAny (model prog w) A (call (.ref fI) (.ref (h.objs.size+1)::us)) (fun r s'=>r = .none/\Q (.done (.ret (.ref (h.objs.size+1)))) s') E ⟨hNew h C us,g,d,t,os⟩) :
 wpAny (model prog w) A (Builtin.«type.__call__» ⟨.ref C::us,[]⟩) Q E ⟨h,g,d,t,os⟩:=by
 obtain⟨bm,N,nm,qn,bs,sn,sub,ab,col,dd,k0,k1,k2,k3,k5,mN,hC,hN,T⟩:=excI_obj X I.cl
 have F:=PySem.F.excBase_ValueError
 repeat (first | with_reducible refine wpAny_loadPart_at hC ?_ | with_reducible refine wpAny_madeBy_exc hC ?_ | wp_step)
 refine codeAny_call_builtin_code (Code.quiet_builtin _ F.quiet) (wpAny_check_new_subT F T hC (codeAny_exc_new_subT F T hC ?_ hz))
 show wpAny _ _ _ _ _ ⟨hNew h C us,g,d,t,os⟩
 have hC1:=hNew_keep h C us _ _ hC
 have he1:(hNew h C us).get? (h.objs.size+1)=some { cls:=.ref C,data:=.fields #[.ref h.objs.size,.none,.none,.none,.bool false,.none] }:=hNew_e h C us
 have X1:K.In (hNew h C us):=X.keeps (hNew_keep h C us)
 have own:(Value.ref C::bm).contains (.ref C)=true:=by simp
 unfold isInstance
 repeat (first | with_reducible refine wpAny_loadPart_at he1 ?_ | (with_reducible refine wpAny_isSubtype_exc hC1 ?_;rw[own]) | wp_step)
 have L:=PySem.W.looks_findIn (M:=model prog w) X1 I.ini
 refine L.at ?_
 refine wpAny_holding (wpAny_bind ?_)
 refine (PySem.W.bind_fn (M:=model prog w) X1 (.ref (h.objs.size+1)) (beq_iff_eq.mp I.fn)).at ?_
 refine wpAny_bind (wpAny_mono hq (fun r s' hr=>?_) fun _ _ z=>z)
 obtain⟨rfl,hQ⟩:=hr
 wp_walk
 exact hQ
theorem call_init {Q:Value->Shared->Prop}(X:K.In h)(I:ExcI K C fI)(hz:us.length<=sizeLine)
 (hq:wpAny (model prog w) (A.under (.builtin "type.__call__" ⟨.ref C::us,[]⟩)) (call (.ref fI) (.ref (h.objs.size+1)::us)) (fun r s'=>r = .none/\Q (.ref (h.objs.size+1)) s') E ⟨hNew h C us,g,d,t,os⟩) :
 wpAny (model prog w) A (call (.ref C) us) Q E ⟨h,g,d,t,os⟩:=by
 obtain⟨bm,N,nm,qn,bs,sn,sub,ab,col,dd,k0,k1,k2,k3,k5,mN,hC,hN,T⟩:=excI_obj X I.cl
 have f1:=tc_lookup
 have f2:=tc_bind (.ref C)
 have hT:(⟨h,g,d,t,os⟩:Shared).TypeIs (.ref C) "type" := ⟨_,hC,rfl⟩
 refine wpAny_call (codeAny_of_tree ?_)
 show wpAny _ _ (callAny (.ref C) _) _ _ _
 repeat (any_goals (first | assumption | with_reducible refine wpAny_loadPart_at hC ?_ | wp_step))
 refine⟨rfl,?_⟩
 exact codeAny_call_builtin_at (Code.quiet_builtin _ (by decide +kernel)) entry_typeCall (wpAny_check_type_call_sub hC (made_init X I hz hq))
end
end L2
namespace L2
open PySem PySem.Spec PyProof.Rows
theorem refuse_tail {h:Heap}{bm:List Value}(T:OwnTail h bmV bm)(self:Value):refuseLoop self "__setattr__" bm=pure ():=by
 induction T with
 | base=>exact PySem.F.store_ValueError.passes self
 | own _ _ _ _ ih=>rw[refuseLoop_ref];exact ih
section
variable {prog:Program}{w:World}{A:Around}{E:Value->Shared->Prop}{h:Heap}{g:Array GenState}{d:Drawn}{t:Nat}{os:OsState}{K:PySem.W.Frag}{C fI x tt:Addr}{name:Str}{v:Value}
theorem set_check {M:Model}{od:Option Addr}{nameV:Value}{Q:Unit->Shared->Prop}(X:K.In h)(mo:PySem.W.mroIn K C (.type "object")=some true) (hx:h.get? x=some (xObj C tt od))(hq:Q () ⟨h,g,d,t,os⟩) :
 wpAny M A (checkBuiltinCall "object.__setattr__" ⟨[.ref x,nameV,v],[]⟩) Q E ⟨h,g,d,t,os⟩:=by
 have L0:=(show IsExc h x C from ⟨_,hx,rfl⟩).type (M:=M)
 have L1:=PySem.W.looks_mroIn (M:=M) X mo
 have ha:=PySem.F.store_ValueError.args (.ref x) nameV v
 have e1:=PySem.F.store_ValueError.kind
 have e2:=PySem.F.store_ValueError.split
 simp only[checkBuiltinCall,e1,e2]
 refine wpAny_bind ?_
 unfold isInstance
 repeat (any_goals (first | assumption | with_reducible refine L0.at ?_ | with_reducible refine L1.at ?_ | wp_step))
theorem put_in {M:Model}{tk:Tok}{dx:Addr}{mA:Str->Option Value}{ns:List Str}{Q:PySem.Fin->Shared->Prop}(hns:h.Ns1 dx mA)(hw:PySem.Within mA ns)(hz:ns.length<1000)
 (hq:∀h' tk',h'.Ns1 dx (fun y=>if y=name then some v else mA y)->(∀b,b≠dx->h'.get? b=h.get? b)->Q (.done (.ret .none)) ⟨h',g,d,tk',os⟩) :
 wpAny M A (Builtin.ObjectAttr.storeInDict dx (.str name tk) name v) Q E ⟨h,g,d,t,os⟩:=by
 unfold Builtin.ObjectAttr.storeInDict Builtin.ObjectAttr.newKeyGuard
 refine wpAny_bind (wpAny_pure (wpAny_bind (wpAny_nsSet1 hns fun h' hn' hs=>?_)))
 obtain⟨oD,esD,epD,hoD,hdD,hcD⟩:=hn'.count (Within.cons name v hw)
 refine wpAny_bind (wpAny_lookBehind hoD (by rw[hdD];exact pastItsLine_dict (Nat.le_trans hcD (by rw[List.length_cons,sizeLine_eq];omega))) ?_)
 wp_walk
 exact hq h' _ hn' fun b hb=>hs.2 b hb
theorem set_entry0 {tk:Tok}{Q:PySem.Fin->Shared->Prop}(X:K.In h)(I:ExcI K C fI)(nm:PySem.W.findIn K (.ref C) name=some none)(hx:h.get? x=some (xObj C tt none))
 (hq:∀h' tk',h'.get? x=some (xObj C tt (some h.objs.size))->h'.Ns1 h.objs.size (fun y=>if y=name then some v else none)->(∀b o,b≠x->h.get? b=some o->h'.get? b=some o)->Q (.done (.ret .none)) ⟨h',g,d,tk',os⟩) :
 wpAny (model prog w) A (Builtin.«object.__setattr__» ⟨[.ref x,.str name tk,v],[]⟩) Q E ⟨h,g,d,t,os⟩:=by
 obtain⟨bm,N,nmm,qn,bs,sn,sub,ab,col,dd,k0,k1,k2,k3,k5,mN,hC,hN,T⟩:=excI_obj X I.cl
 have pass:=refuse_tail T (.ref x)
 obtain⟨o,ho⟩:∃o,o=xObj C tt none:=⟨_,rfl⟩
 rw[<-ho] at hx
 have hc:o.cls = .ref C:=by rw[ho];rfl
 have hdn:o.dict=none:=by rw[ho];rfl
 have L:=PySem.W.looks_findIn (M:=model prog w) X nm
 unfold Builtin.«object.__setattr__»
 repeat (first | rw[refuse_eq] | (rw[refuseLoop_ref,pass]) | (with_reducible refine wpAny_loadPart_at hx ?_;rw[hc]) | with_reducible refine wpAny_mroOf_exc hC ?_ | with_reducible refine L.at ?_ | wp_step)
 have hdt:o.data = .fields #[.ref tt,.none,.none,.none,.bool false,.none]:=by rw[ho];rfl
 have hx1:=Heap.get?_push_of_some { cls:=.type "dict",data:=.dict #[] } hx
 have xs:x≠h.objs.size:=Nat.ne_of_lt (Heap.lt_size hx)
 rw[hdn,hdt]
 refine wpAny_bind (wpAny_alloc' (wpAny_bind (wpAny_update' hx1 (wpAny_pure ?_))))
 have fr:(xObj C tt (some h.objs.size)).isFreed=false:=rfl
 have up:((h.push { cls:=.type "dict",data:=.dict #[] }).update x fun o=>{ cls:=o.cls,dict:=some h.objs.size,data:=o.data,slots:=o.slots }).get? x=some (xObj C tt (some h.objs.size)):=by
  have:=Heap.get?_update_self (fun o:Obj=>{ cls:=o.cls,dict:=some h.objs.size,data:=o.data,slots:=o.slots }) hx1 (by rw[ho];rfl)
  rw[this,ho];rfl
 have nd:((h.push { cls:=.type "dict",data:=.dict #[] }).update x fun o=>{ cls:=o.cls,dict:=some h.objs.size,data:=o.data,slots:=o.slots }).get? h.objs.size=some { cls:=.type "dict",data:=.dict #[] }:=
  (Heap.get?_update_other _ _ xs).trans (Heap.get?_push_at rfl rfl)
 refine put_in (Heap.Ns1.of_empty ⟨_,#[],_,nd,rfl,fun e he=>absurd he (by simp),fun _=>rfl⟩) Within.nil (by decide) fun h' tk' n' same=>?_
 refine hq h' tk' ((same x xs).trans up) n' fun b ob hb e=>?_
 rw[same b (Nat.ne_of_lt (Heap.lt_size e)),Heap.get?_update_other _ _ (Ne.symm hb)]
 exact Heap.get?_push_of_some _ e
theorem set_entry1 {tk:Tok}{dx:Addr}{mA:Str->Option Value}{ns:List Str}{Q:PySem.Fin->Shared->Prop}(X:K.In h)(I:ExcI K C fI)(nm:PySem.W.findIn K (.ref C) name=some none)(hx:h.get? x=some (xObj C tt (some dx)))
 (hns:h.Ns1 dx mA)(hw:PySem.Within mA ns)(hz:ns.length<1000)
 (hq:∀h' tk',h'.Ns1 dx (fun y=>if y=name then some v else mA y)->(∀b,b≠dx->h'.get? b=h.get? b)->Q (.done (.ret .none)) ⟨h',g,d,tk',os⟩) :
 wpAny (model prog w) A (Builtin.«object.__setattr__» ⟨[.ref x,.str name tk,v],[]⟩) Q E ⟨h,g,d,t,os⟩:=by
 obtain⟨bm,N,nmm,qn,bs,sn,sub,ab,col,dd,k0,k1,k2,k3,k5,mN,hC,hN,T⟩:=excI_obj X I.cl
 have pass:=refuse_tail T (.ref x)
 obtain⟨o,ho⟩:∃o,o=xObj C tt (some dx):=⟨_,rfl⟩
 rw[<-ho] at hx
 have hc:o.cls = .ref C:=by rw[ho];rfl
 have hdn:o.dict=some dx:=by rw[ho];rfl
 have L:=PySem.W.looks_findIn (M:=model prog w) X nm
 unfold Builtin.«object.__setattr__»
 repeat (first | rw[refuse_eq] | (rw[refuseLoop_ref,pass]) | (with_reducible refine wpAny_loadPart_at hx ?_;rw[hc]) | with_reducible refine wpAny_mroOf_exc hC ?_ | with_reducible refine L.at ?_ | wp_step)
 rw[hdn]
 exact wpAny_pure (put_in hns hw hz hq)
theorem set_attr {od:Option Addr}{Pr:Heap->Prop}{Q:Unit->Shared->Prop}(X:K.In h)(I:ExcI K C fI)(mo:PySem.W.mroIn K C (.type "object")=some true) (hx:h.get? x=some (xObj C tt od))
 (ent:∀(A':Around)(E':Value->Shared->Prop)(tk:Tok)(t':Nat)(Q':PySem.Fin->Shared->Prop),(∀h' tk',Pr h'->Q' (.done (.ret .none)) ⟨h',g,d,tk',os⟩)->wpAny (model prog w) A' (Builtin.«object.__setattr__» ⟨[.ref x,.str name tk,v],[]⟩) Q' E' ⟨h,g,d,t',os⟩)
 (hq:∀h' tk',Pr h'->Q () ⟨h',g,d,tk',os⟩):wpAny (model prog w) A (setAttr (.ref x) name v) Q E ⟨h,g,d,t,os⟩:=by
 have SF:=PySem.F.store_ValueError
 have f3:=SF.slot.bind (.ref x)
 have L0:=(show IsExc h x C from ⟨_,hx,rfl⟩).type (M:=model prog w)
 have L1:=PySem.W.looks_findIn (M:=model prog w) X I.sa
 unfold setAttr callSpecial? specialOf
 repeat (any_goals (first | assumption | with_reducible refine L0.at ?_ | with_reducible refine L1.at ?_ | wp_step))
 refine codeAny_call_builtin SF.slot.plain SF.entry (set_check X mo hx (ent _ _ _ _ _ fun h' tk' p=>?_))
 repeat (any_goals (first | assumption | wp_step))
 exact hq h' tk' p
end
end L2
namespace L2
open PySem PySem.Spec PyProof.Rows
noncomputable def xO (e C t:Addr)(od:Option Addr):HO:=.ext fun h=>h.get? e=some (xObj C t od)
noncomputable def dO (dx:Addr)(fs:List (Str×V)):HO:=.ext fun h=>∃mA,h.Ns1 dx mA/\(∀f,RelO (fs.lookup f) (mA f))/\PySem.Within mA (fs.map (·.1))
section
variable {P:Program}{w:World}{H:Hp}{h:Heap}{e C t dx:Addr}{od:Option Addr}{fs:List (Str×V)}
theorem xO_ok (hx:h.get? e=some (xObj C t od)):ObjOk P w H h e (xO e C t od):=⟨hx,⟨_,hx⟩,fun _ _ p k=>k _ p⟩
theorem dO_ok {mA:Str->Option Value}(hn:h.Ns1 dx mA)(r:∀f,RelO (fs.lookup f) (mA f))(wi:PySem.Within mA (fs.map (·.1))):ObjOk P w H h dx (dO dx fs):=
 ⟨⟨mA,hn,r,wi⟩,let ⟨o,_,_,q,_⟩:=hn;⟨o,q⟩,fun _ _ ⟨m,⟨o,es,ep,q,z⟩,r,wi⟩ k=>⟨m,⟨o,es,ep,k _ q,z⟩,r,wi⟩⟩
theorem HOk.add {a:Addr}{o:HO}(x:HOk P w H h)(hn:H a=none)(new:ObjOk P w (upd H a o) h a o):HOk P w (upd H a o) h:=fun b u e=>by
 by_cases hb:b=a
 . subst hb;rw[upd_same] at e;cases e;exact new
 . rw[upd_ne hb] at e
   exact (x b u e).stay (fun c v _ q=>q) (fun c q=>by rw[upd_ne (ne_of_none q hn)];exact q) fun c xs q=>by rw[upd_ne (ne_of_none q hn)];exact q
theorem upd_swap {a b:Addr}{o u:HO}(n:a≠b):upd (upd H a o) b u=upd (upd H b u) a o:=by
 funext c
 by_cases h1:c=a
 . subst h1;rw[upd_same,upd_ne n,upd_same]
 . by_cases h2:c=b
   . subst h2;rw[upd_same,upd_ne h1,upd_same]
   . rw[upd_ne h2,upd_ne h1,upd_ne h1,upd_ne h2]
end
section
variable {X:Cx}{pins:List (Addr×Obj)}{σ:St}{H:Hp}{s:Shared}{A:Around}{E:Value->Shared->Prop}{e C t fI:Addr}{f:Str}{y:V}{u:Value}{Q:Unit->Shared->Prop}
theorem setx_new (I:Inv X pins σ H s)(EI:ExcI X.K C fI)(mo:PySem.W.mroIn X.K C (.type "object")=some true) (nm:PySem.W.findIn X.K (.ref C) f=some none)(he:H e=some (xO e C t none))(ry:RelV y u)
 (h:∀dx s',H dx=none->Inv X pins σ (upd (upd H dx (dO dx [(f,y)])) e (xO e C t (some dx))) s'->Q () s'):wpAny (model X.prog X.w) A (setAttr (.ref e) f u) Q E s:=by
 obtain⟨hp,g,d,tk,os⟩:=s
 have hx:hp.get? e=some (xObj C t none):=(I.hok e _ he).1
 refine set_attr (Pr:=fun h'=>h'.get? e=some (xObj C t (some hp.objs.size))/\h'.Ns1 hp.objs.size (fun y=>if y=f then some u else none)/\(∀b o,b≠e->hp.get? b=some o->h'.get? b=some o)) I.kIn EI mo hx
  (fun A' E' tk' t' Q' k=>set_entry0 I.kIn EI nm hx fun h' tk2 a b c=>k h' tk2 ⟨a,b,c⟩) fun h' tk' ⟨a,b,c⟩=>?_
 have hn:H hp.objs.size=none:=I.hok.fresh (Nat.le_refl _)
 have ne:e≠hp.objs.size:=Nat.ne_of_lt (Heap.lt_size hx)
 refine h hp.objs.size _ hn ?_
 have mu:Mut ((upd H hp.objs.size (dO hp.objs.size [(f,y)])) e):=by rw[upd_ne ne,he];exact True.intro
 have mu':Mut (H e):=by rw[he];exact True.intro
 refine I.un (h':=h') (t':=tk') ((Un.laid (h':=hp) (fun _ _ q=>q) (Nat.le_refl _) hn).trans (Un.write mu (.inl rfl) c ⟨_,a⟩)) ?_
 rw[upd_swap (Ne.symm ne)]
 refine HOk.add (I.hok.write mu' (.inl rfl) c ⟨_,a⟩ (xO_ok a)) (by rw[upd_ne (Ne.symm ne)];exact hn) (dO_ok b (fun g=>?_) (fun g hg=>?_))
 . show RelO (List.lookup g [(f,y)]) (if g=f then some u else none)
   by_cases q:g=f
   . subst q;rw[if_pos rfl,List.lookup_cons_self];exact ry
   . rw[if_neg q,List.lookup_cons,show (g==f)=false from by simpa using q];trivial
 . by_cases q:g=f
   . subst q;exact List.mem_cons_self
   . exact absurd (by show (if g=f then some u else none)=none;rw[if_neg q]) hg
theorem setx_old {dx:Addr}{fs:List (Str×V)}(I:Inv X pins σ H s)(EI:ExcI X.K C fI)(mo:PySem.W.mroIn X.K C (.type "object")=some true) (nm:PySem.W.findIn X.K (.ref C) f=some none)(he:H e=some (xO e C t (some dx)))(hd:H dx=some (dO dx fs))(hl:fs.length<900)(ry:RelV y u)
 (h:∀s',Inv X pins σ (upd H dx (dO dx (putF f y fs))) s'->Q () s'):wpAny (model X.prog X.w) A (setAttr (.ref e) f u) Q E s:=by
 obtain⟨hp,g,d,tk,os⟩:=s
 have hx:hp.get? e=some (xObj C t (some dx)):=(I.hok e _ he).1
 obtain⟨mA,hns,r,wi⟩:=(I.hok dx _ hd).1
 refine set_attr (Pr:=fun h'=>h'.Ns1 dx (fun y=>if y=f then some u else mA y)/\(∀b,b≠dx->h'.get? b=hp.get? b)) I.kIn EI mo hx
  (fun A' E' tk' t' Q' k=>set_entry1 I.kIn EI nm hx hns wi (by rw[List.length_map];omega) fun h' tk2 a b=>k h' tk2 ⟨a,b⟩) fun h' tk' ⟨a,b⟩=>?_
 refine h _ ?_
 have mu:Mut (H dx):=by rw[hd];exact True.intro
 refine I.write (x:=dx) (e:=dx) (t':=tk') mu (.inl rfl) (fun b_ u' hb q=>(b b_ hb).trans q) (let ⟨o,_,_,q,_⟩:=a;⟨o,q⟩) (dO_ok a (fun g=>?_) (fun g hg=>?_))
 . show RelO ((putF f y fs).lookup g) (if g=f then some u else mA g)
   rw[lookup_putF]
   by_cases q:g=f
   . rw[if_pos q,if_pos q];exact ry
   . rw[if_neg q,if_neg q];exact r g
 . by_cases q:g=f
   . rw[q];exact (keys_putF f y fs).1
   . refine (keys_putF f y fs).2 g (wi g fun z=>hg ?_)
     show (if g=f then some u else mA g)=none
     rw[if_neg q];exact z
end
end L2
namespace L2
open PySem PySem.Spec PyProof.Rows
noncomputable def sFldX (C:Addr)(f:Str)(ta tv:TE):TS:=fun D σ H=>tv σ H fun y H1=>ta σ H1 fun x H2=>∃e t,x = .ref e /\
 ((H2 e=some (xO e C t none)/\∀dx,H2 dx=none->D.nx σ (upd (upd H2 dx (dO dx [(f,y)])) e (xO e C t (some dx)))) \/
  ∃dx fs,H2 e=some (xO e C t (some dx))/\H2 dx=some (dO dx fs)/\fs.length<900/\D.nx σ (upd H2 dx (dO dx (putF f y fs))))
section
variable {X:Cx}{o value:Expr}{ta tv:TE}{f:Str}{C fI:Addr}{pos pos':Pos}
theorem ps_fldX (EI:ExcI X.K C fI)(mo:PySem.W.mroIn X.K C (.type "object")=some true) (nm:PySem.W.findIn X.K (.ref C) f=some none)(ha:PE X o ta)(hv:PE X value tv)(hs:swapsWith value (some (.Attribute o f pos')) pos.line X.env=pure false:=by rfl) :
 PS X (.Assign [.Attribute o f pos'] value pos) (sFldX C f ta tv):=by
 intro pins s σ H D I h
 refine plainObj_wpAny_Assign_Attribute (thn (hv pins s σ H _ I h) fun u s1 ⟨y,H1,I1,ry,q⟩=>thn (ha pins s1 σ H1 _ I1 q) fun ov s2 ⟨x,H2,I2,rx,e,t,ex,q2⟩=>?_) hs
 subst ex
 obtain rfl:ov=Value.ref e:=rx
 rcases q2 with ⟨he,q⟩ | ⟨dx,fs,he,hd,hl,q⟩
 . exact setx_new I2 EI mo nm he ry fun dx s3 n I3=>⟨σ,_,I3,q dx n⟩
 . exact setx_old I2 EI mo nm he hd hl ry fun s3 I3=>⟨σ,_,I3,q⟩
end
noncomputable def spXI (C:Addr)(f1 f2:Str):Sp:=fun vs H Q _=>∃(e t:Addr)(v1 v2:V),vs=[.ref e,v1,v2]/\H e=some (xO e C t none)/\∀dx,H dx=none->dx≠e->Q .non (upd (upd H dx (dO dx [(f1,v1),(f2,v2)])) e (xO e C t (some dx)))
noncomputable def FlyD (B:Heap)(l:List Env)(e:Addr)(C a0:Value)(od:Option Addr)(h:Heap):Prop:=Heap.FlyingW B l e C a0 h/\∃o,h.get? e=some o/\o.dict=od
noncomputable def CXI (P:Program)(w:World):CXT:=fun outer H s E e s'=>
 ∃(ea t:Addr)(C:Value)(od:Option Addr)(H':Hp)(B:Heap),e = .ref ea/\s'.os=s.os/\AllBare s'.gens/\Un (frs outer) [] H H' s.heap s'.heap/\HOk P w H' s'.heap /\
  FlyD B outer ea C (.ref t) od s'.heap/\(∀b u,H' b=some u->∃o,B.get? b=some o)/\(∀b o,s.heap.get? b=some o->H b=none->b∉frs outer->B.get? b=some o)/\(∀b o,s.heap.get? b=some o->b∉frs outer->∃o',B.get? b=some o')/\E C od H'
section
variable {P:Program}{w:World}{K:PySem.W.Frag}{mg:Str->Option Value}{base:Heap}{N:List Str}{qual:Str}{scope:Scope}{f:Addr}{cd:Value}{A:Around}{outer:List Env}{s0 s:Shared}{H0 H:Hp}{E:XK}{pins:List (Addr×Obj)}{σ:St}
theorem raisedD {ea t:Addr}{oe:Obj}{C:Value}{vs:Array Value}(I:Inv (cxOf (CXI P w) P w K mg base N qual scope f cd A outer s0 H0 E) pins σ H s)(he:s.heap.get? ea=some oe)(hc:oe.cls=C)(hd:oe.data = .fields vs)(h1:vs[1]? = some .none)(h0:vs[0]? = some (.ref t))(hn:H ea=none)(h00:s0.heap.get? ea=none)(hE:E C oe.dict H) :
 (cxOf (CXI P w) P w K mg base N qual scope f cd A outer s0 H0 E).xe (.ref ea) s:=by
 subst hc
 let fr:List Addr:=(envOfC qual scope s0.heap.objs.size f cd::outer).filterMap (·.frame)
 have hin:∀env∈(envOfC qual scope s0.heap.objs.size f cd::outer),∀a,env.frame=some a->a∈ea::fr:=fun env he b hb=>List.mem_cons_of_mem _ (List.mem_filterMap.mpr ⟨env,he,hb⟩)
 have ff:=PySem.W.funFrames_hide I.stack hin
 have off:ea∉fr:=fun z=>by
  obtain⟨_,o,ho,nd⟩:=I.stack.mem z
  rw[he] at ho
  cases ho
  exact nd vs hd
 refine wpAny_mono (wpAny_kd (kd_leaving _ _) (wpAny_leaving_firstW (Q:=fun _ s'=>∃h',s'={ s with heap:=h' }/\Heap.LeftW (PySem.W.hideAll s.heap (ea::fr)) (envOfC qual scope s0.heap.objs.size f cd::outer) ea oe.cls (.ref t) s.heap h') (base:=PySem.W.hideAll s.heap (ea::fr)) I.ok.frames ff rfl he (fun b o q=>PySem.W.of_hideAll _ q) (PySem.W.hideAll_none _ List.mem_cons_self) hd h1 h0 fun h' L=>⟨h',rfl,L⟩)) (fun _ s' hq=>?_) fun _ _ z=>z
 obtain⟨⟨h'',rfl,L1,⟨_,_,L2'⟩,L3,up⟩,dk⟩:=hq
 have st:(PySem.W.hideAll s.heap (ea::fr)).StaysIn h'':=L1
 have stk:∀b,b∈fr->b=s0.heap.objs.size\/b∈frs outer:=fun b z=>List.mem_cons.mp (I.stkSub b z)
 have hid:∀b o,s.heap.get? b=some o->b≠ea->b∉fr->(PySem.W.hideAll s.heap (ea::fr)).get? b=some o:=fun b o q n z=>PySem.W.hideAll_get _ q fun y=>by
  rcases List.mem_cons.mp y with y | y
  . exact n y
  . exact z y
 have nea:∀b o,s0.heap.get? b=some o->b≠ea:=fun b o q z=>by rw[z,h00] at q;cases q
 have nfr:∀b o,s0.heap.get? b=some o->b∉frs outer->b∉fr:=fun b o q hb z=>by
  rcases stk b z with y | y
  . exact absurd (Heap.lt_size q) (by rw[y];exact Nat.not_lt_of_le (Nat.le_refl _))
  . exact hb y
 have old:∀b o,s0.heap.get? b=some o->H0 b=none->b∉frs outer->(PySem.W.hideAll s.heap (ea::fr)).get? b=some o:=fun b o e n hb=>
  hid b o (I.base.keep b o e n hb (by intro z;cases z)) (nea b o e) (nfr b o e hb)
 have al:∀b o,s0.heap.get? b=some o->b∉frs outer->∃o',(PySem.W.hideAll s.heap (ea::fr)).get? b=some o':=fun b o e hb=>by
  obtain⟨o1,e1⟩:=I.base.there b o e (by intro z;cases z)
  exact⟨o1,hid b o1 e1 (nea b o e) (nfr b o e hb)⟩
 have tr:∀b u,H b=some u->∃o,(PySem.W.hideAll s.heap (ea::fr)).get? b=some o:=fun b u e=>by
  obtain⟨o,ho⟩:=(I.hok b u e).there
  refine⟨o,hid b o ho (fun z=>by rw[z,hn] at e;cases e) fun z=>?_⟩
  have:=I.stkFree b z
  rw[e] at this
  cases this
 obtain⟨o',q',r'⟩:=dk ea oe he
 refine⟨ea,t,oe.cls,oe.dict,H,_,rfl,I.os,I.bare,⟨fun b o e n hb hx'=>st b o (old b o e n hb),fun b o e n hb hx'=>?_,I.base.free,fun b o e hx'=>?_,I.base.tups,I.base.frzs,I.base.tbls⟩,I.hok.stays (fun b o q=>PySem.W.of_hideAll _ q) st tr,⟨⟨L1,PySem.W.hideAll_none _ List.mem_cons_self,L2',L3⟩,o',q',r'⟩,tr,old,al,hE⟩
 . obtain⟨sl,e1⟩:=I.base.slot b o e n hb (by intro z;cases z)
   obtain⟨_,o2,e2,nd⟩:=I.stack.mem (show b∈fr from List.mem_cons_of_mem _ hb)
   have e3:o2={ o with slots:=sl }:=Option.some.inj (e2.symm.trans e1)
   obtain⟨sl2,e4⟩:=up b _ e1 (fun vs=>by rw[<-e3];exact nd vs)
   exact⟨sl2,e4⟩
 . obtain⟨o1,e1⟩:=I.base.there b o e (by intro z;cases z)
   by_cases hb:b∈fr
   . obtain⟨_,o2,e2,nd⟩:=I.stack.mem hb
     obtain⟨sl2,e4⟩:=up b _ e2 nd
     exact⟨_,e4⟩
   . exact⟨_,st b _ (hid b o1 e1 (nea b o e) hb)⟩
end
end L2
namespace L2
open PySem PySem.Spec PyProof.Rows
section
variable {P:Program}{w:World}{K:PySem.W.Frag}{mg:Str->Option Value}{base:Heap}{N:List Str}{qual:Str}{scope:Scope}{f:Addr}{cd:Value}{A:Around}{outer:List Env}{s0 s:Shared}{H0 H:Hp}{E:XK}{pins:List (Addr×Obj)}{σ:St}
end
theorem Fun.okI {P:Program}{w:World}{K:PySem.W.Frag}{mg:Str->Option Value}{base:Heap}{x qual:Str}{st:Stmt}{f:Addr}{fd:FuncData}{N ps:List Str}{k:Nat}{sp:Sp}(F:Fun K x qual st f fd)(S:FnScope N ps (defScope st))(len:∀vs H Q E,sp vs H Q E->vs.length=ps.length)
 (hbody:∀(cdv:Value)(A:Around)(outer:List Env)(s:Shared)(H:Hp)(vs:List V)(Q:VK)(E:XK),Room k (A.deeper (envOfC qual (defScope st) s.heap.objs.size f cdv))->sp vs H Q E ->
  ∃t,PSs (cxOf (CXI P w) P w K mg base N qual (defScope st) f cdv A outer s H E) (defBody st) t/\t { nx:=fun _ H'=>Q .non H',rt:=Q } (start N vs) H):FnOk P w K mg base (CXI P w) (k+1) f fd ps sp:=by
 obtain⟨oc,od,kV,doc,pm,an,cdv,ct,osl,rfl,lk,hcd⟩:=F.ex
 exact fn_of lk hcd S len fun A outer s H vs Q E hr hsp=>hbody cdv A outer s H vs Q E hr hsp
noncomputable def hidH (e:Addr)(H:Hp):Hp:=fun b=>if b=e then none else H b
theorem hidH_ne {e b:Addr}{H:Hp}(n:b≠e):hidH e H b=H b:=by unfold hidH;rw[if_neg n]
theorem hidH_at {e:Addr}{H:Hp}:hidH e H e=none:=by unfold hidH;rw[if_pos rfl]
section
variable {X:Cx}{pins:List (Addr×Obj)}{σ:St}{H:Hp}{s:Shared}{e:Addr}{φ:Heap->Prop}
theorem Inv.drop (I:Inv X pins σ H s)(he:H e=some (.ext φ)):Inv X pins σ (hidH e H) s:=by
 have nt:∀b xs,H b=some (.tup xs)->b≠e:=fun b xs q z=>by rw[z,he] at q;cases q
 have no:∀b y,H b=some (.own y)->b≠e:=fun b y q z=>by rw[z,he] at q;cases q
 refine⟨I.ok,I.os,I.bare,⟨I.base.keep,I.base.slot,fun b o q n hx=>?_,I.base.there,fun b xs q=>by rw[hidH_ne (nt b xs (I.base.tups b xs q))];exact I.base.tups b xs q,fun b o u q=>?_,fun b ps q=>?_⟩,I.loc,I.cell,?_,fun x c q=>?_,fun p hp=>?_,fun b o q=>?_,I.len⟩
 . by_cases z:b=e
   . subst z;exact hidH_at
   . rw[hidH_ne z];exact I.base.free b o q n hx
 . have r:=I.base.frzs b o u q
   rw[hidH_ne (fun z=>by rw[z,he] at r;cases r)];exact r
 . obtain⟨m,r⟩:=I.base.tbls b ps q
   exact⟨m,by rw[hidH_ne (fun z=>by rw[z,he] at r;cases r)];exact r⟩
 . by_cases z:X.env.locals=e
   . rw[z];exact hidH_at
   . rw[hidH_ne z];exact I.free
 . by_cases z:c=e
   . subst z;exact hidH_at
   . rw[hidH_ne z];exact I.freeC x c q
 . obtain⟨a,b,r⟩:=I.pin p hp
   refine⟨a,?_,r⟩
   by_cases z:p.1=e
   . rw[z];exact hidH_at
   . rw[hidH_ne z];exact b
 . have z:b≠e:=fun z=>by rw[z,hidH_at] at q;cases q
   rw[hidH_ne z] at q
   exact (I.hok b o q).stay (fun _ _ _ r=>r) (fun c r=>by rw[hidH_ne (no c _ r)];exact r) fun c xs r=>by rw[hidH_ne (nt c xs r)];exact r
theorem raise_x {M:Model}{A:Around}{E:Value->Shared->Prop}{env:Env}{K:PySem.W.Frag}{C tt:Addr}{od:Option Addr}{y:Sem Value}{Q:Flow->Shared->Prop}(q:excI K C=true)(hh:A.handled=none)
 (h:wpAny M A y (fun v s1=>∃e,v = .ref e/\K.In s1.heap/\(∃tt od,s1.heap.get? e=some (xObj C tt od))/\E (.ref e) s1) E s):wpAny M A (raiseStmt env (some y) none) Q E s:=by
 unfold raiseStmt
 refine wpAny_bind (wpAny_mono h (fun v s1 hv=>?_) fun _ _ z=>z)
 obtain⟨e,rfl,X1,⟨tt,od,he⟩,hE⟩:=hv
 obtain⟨bm,N,nm,qn,bs,sn,sub,ab,col,dd,k0,k1,k2,k3,k5,mN,hC,hN,T⟩:=excI_obj X1 q
 have hcB:(Value.ref C::bm).contains (.type "BaseException")=true:=by rw[List.contains_cons,T.hasType (X := "BaseException") (b:=true) (by rfl),Bool.or_true]
 obtain⟨hp,g,d,tk,os⟩:=s1
 have he':hp.get? e=some { cls:=.ref C,dict:=od,data:=.fields #[.ref tt,.none,.none,.none,.bool false,.none] }:=he
 repeat (first | with_reducible refine wpAny_loadPart_at he' ?_ | with_reducible refine wpAny_loadPart_at hC ?_ | (with_reducible refine wpAny_isSubtype_exc hC ?_;rw[hcB]) | wp_step)
 exact wpAny_raiseNew_none hh hE
theorem Inv.madeX {C:Addr}{us:List Value}{vs:List V}(I:Inv X pins σ H s)(r:Vals vs us)(hz:vs.length<=sizeLine) :
 Inv X pins σ (upd (upd H s.heap.objs.size (.tup vs)) (s.heap.objs.size+1) (xO (s.heap.objs.size+1) C s.heap.objs.size none)) { s with heap:=hNew s.heap C us }:=by
 have e1:(s.heap.push (xTup us)).get? s.heap.objs.size=some (xTup us):=Heap.get?_push_at rfl rfl
 have I1:=I.laid (a:=s.heap.objs.size) (o:=.tup vs) (h':=s.heap.push (xTup us)) (t':=s.toks) (fun b u q=>Heap.get?_push_of_some _ q) (Nat.le_refl _) ⟨⟨hz,_,e1,rfl⟩,us,r,⟨_,e1,rfl,_,rfl⟩⟩
 exact I1.laid (a:=s.heap.objs.size+1) (t':=s.toks) (h':=hNew s.heap C us) (fun b u q=>Heap.get?_push_of_some _ q) (Nat.le_of_eq (Heap.size_push _ _)) (xO_ok (hNew_e s.heap C us))
noncomputable def tRaiseI (C:Addr)(f1 f2:Str)(t:TA)(E:XK):TS:=fun _ σ H=>t σ H fun vs H1=>∃v1 v2,vs=[v1,v2]/\∀tt dx,H1 tt=none->H1 dx=none->tt≠dx->E (.ref C) (some dx) (upd (upd H1 tt (.tup [v1,v2])) dx (dO dx [(f1,v1),(f2,v2)]))
theorem ps_raiseI {x f1 f2:Str}{ps:List Str}{C fI:Addr}{fd:FuncData}{k:Nat}{e1 e2:Expr}{t:TA}{E:XK}{np cpos pos:Pos}(hg:Gl X x)(hm:X.mg x=some (.ref C))(EI:ExcI X.K C fI)(hc:X.calm=true)(F:FnOk X.prog X.w X.K X.mg X.base CX0 k fI fd ps (spXI C f1 f2))(hr:Room (k+1) X.A)(hb:Binds X.K fd ps [])(ha:PA X [e1,e2] t)
 (hxe:∀(pins:List (Addr×Obj))(σ:St)(H:Hp)(s:Shared)(ea tt dx:Addr),Inv X pins σ H s->s.heap.get? ea=some (xObj C tt (some dx))->H ea=none->X.s₀.heap.get? ea=none->E (.ref C) (some dx) H->X.xe (.ref ea) s)
 (hd:(x==("__debug__" : Str))=false:=by decide) (hs:starEach [e1,e2] X.env=(false,eval e1 X.env)::starEach [e2] X.env:=by rfl)(hpl:(backTo cpos (starEach [e2] X.env)).any (·.1)=false:=by rfl) :
 PS X (.Raise (some (.Call (.Name x np) [e1,e2] [] cpos)) none pos) (tRaiseI C f1 f2 t E):=by
 intro pins s σ H D I h
 rw[arm_exec_Raise]
 refine wpAny_bind (wpAny_standAt ?_)
 show wpAny _ _ (raiseStmt X.env (some (do let v <-eval (.Call (.Name x np) [e1,e2] [] cpos) X.env;standAt pos;pure v)) none) _ _ _
 refine raise_x (tt:=0) (od:=none) EI.cl (I.ok.hd hc) (wpAny_bind (wpAny_mono (Q:=fun v s1=>∃e,v = .ref e/\X.K.In s1.heap/\(∃tt od,s1.heap.get? e=some (xObj C tt od))/\X.xe (.ref e) s1) (E:=X.xe) ?main (fun v s3 h3=>wpAny_bind (wpAny_standAt (wpAny_pure h3))) fun _ _ z=>z))
 case main=>
  refine wpAny_Call_Name_kw (ld_glob I hg hm ?_ hd)
  refine PySem.W.callWith_K (h₀:=X.base) I.ok.mod.kin EI.kp (wpAny_mono (ha cpos pins s σ H _ I h) (fun us s1 ⟨vs,H1,I1,r,q⟩=>⟨I1.kIn,?_⟩) fun _ _ z=>z) hs hpl
  obtain⟨v1,v2,rfl,q⟩:=q
  have hz:us.length<=sizeLine:=by rw[<-r.length];show 2<=sizeLine;decide
  have I2:=Inv.madeX (C:=C) I1 r (show 2<=sizeLine by decide)
  have r2:Vals (V.ref (s1.heap.objs.size+1)::[v1,v2]) (Value.ref (s1.heap.objs.size+1)::us):=.cons rfl r
  have n1:H1 s1.heap.objs.size=none:=I1.hok.fresh (Nat.le_refl _)
  have n2:H1 (s1.heap.objs.size+1)=none:=I1.hok.fresh (Nat.le_succ _)
  have s00:X.s₀.heap.get? (s1.heap.objs.size+1)=none:=Heap.get?_none_of_le (Nat.le_trans I1.sz (Nat.le_succ _))
  refine call_init (h:=s1.heap) I1.kIn EI hz ?_
  have ne:s1.heap.objs.size≠s1.heap.objs.size+1:=Nat.ne_of_lt (Nat.lt_succ_self _)
  have hsp:spXI C f1 f2 (V.ref (s1.heap.objs.size+1)::[v1,v2]) (upd (upd H1 s1.heap.objs.size (.tup [v1,v2])) (s1.heap.objs.size+1) (xO (s1.heap.objs.size+1) C s1.heap.objs.size none))
   (fun v H2=>v = .non/\∃dx,H2 (s1.heap.objs.size+1)=some (xO (s1.heap.objs.size+1) C s1.heap.objs.size (some dx))/\E (.ref C) (some dx) (hidH (s1.heap.objs.size+1) H2)) (fun _ _ _=>False):=by
   refine⟨_,_,v1,v2,rfl,upd_same,fun dx hdx nd=>⟨rfl,dx,upd_same,?_⟩⟩
   rw[upd_ne nd] at hdx
   have nt:s1.heap.objs.size≠dx:=fun z=>by rw[<-z,upd_same] at hdx;cases hdx
   have hdx1:H1 dx=none:=by rw[upd_ne (Ne.symm nt)] at hdx;exact hdx
   have eq:hidH (s1.heap.objs.size+1) (upd (upd (upd (upd H1 s1.heap.objs.size (.tup [v1,v2])) (s1.heap.objs.size+1) (xO (s1.heap.objs.size+1) C s1.heap.objs.size none)) dx (dO dx [(f1,v1),(f2,v2)])) (s1.heap.objs.size+1) (xO (s1.heap.objs.size+1) C s1.heap.objs.size (some dx)))
    = upd (upd H1 s1.heap.objs.size (.tup [v1,v2])) dx (dO dx [(f1,v1),(f2,v2)]):=by
    funext b
    by_cases hb:b=s1.heap.objs.size+1
    . subst hb
      rw[hidH_at,upd_ne (Ne.symm nd),upd_ne (Ne.symm ne)];exact n2.symm
    . rw[hidH_ne hb,upd_ne hb]
      by_cases hb2:b=dx
      . subst hb2;rw[upd_same,upd_same]
      . rw[upd_ne hb2,upd_ne hb,upd_ne hb2]
   rw[eq]
   exact q _ dx n1 hdx1 nt
  have hl:(Value.ref (s1.heap.objs.size+1)::us).length=ps.length:=by rw[<-r2.length];exact F.len _ _ _ _ hsp
  refine wpAny_call (codeAny_mono (F.run _ X.stack _ _ ⟨Value.ref (s1.heap.objs.size+1)::us,[]⟩ (Value.ref (s1.heap.objs.size+1)::us) _ _ (fun _ _ _=>False) (hr.make C us []) (I2.env0.make C us [])
   (by have:=hb _ (Value.ref (s1.heap.objs.size+1)::us) I2.kIn (by rw[List.append_nil];exact hl);rw[List.append_nil] at this;exact this) r2 hsp) fun r s' hq'=>?_)
  cases r with
  | error e=>exact False.elim hq'
  | ok fl=>
   cases fl with
   | ret u=>
    obtain⟨v,H',I3,rv,ev,dx,hx,hE⟩:=I2.after hq'
    subst ev
    refine⟨rv,_,rfl,I3.kIn,⟨_,_,(I3.hok _ _ hx).1⟩,?_⟩
    exact hxe pins σ _ s' _ _ dx (I3.drop hx) (I3.hok _ _ hx).1 hidH_at s00 hE
   | next=>exact False.elim hq'
   | brk=>exact False.elim hq'
   | cont=>exact False.elim hq'
end
end L2
namespace L2
open PySem PySem.Spec PyProof.Rows
section
variable {prog:Program}{w:World}{A:Around}{E:Value->Shared->Prop}{h:Heap}{g:Array GenState}{d:Drawn}{t:Nat}{os:OsState}{K:PySem.W.Frag}{C x dx:Addr}{o:Obj}{name:Str}{v:Value}{mA:Str->Option Value}
theorem get_entry {tk:Tok}{Q:PySem.Fin->Shared->Prop}(X:K.In h)(q:excI K C=true)(hx:h.get? x=some o)(hc:o.cls = .ref C){vs:Array Value}(hd:o.data = .fields vs)(hdn:o.dict=some dx)(hns:h.Ns1 dx mA)(nm:PySem.W.findIn K (.ref C) name=some none)(hv:mA name=some v)(hq:Q (.done (.ret v)) ⟨h,g,d,t,os⟩) :
 wpAny (model prog w) A (Builtin.«object.__getattribute__» ⟨[.ref x,.str name tk],[]⟩) Q E ⟨h,g,d,t,os⟩:=by
 obtain⟨bm,N,nmm,qn,bs,sn,sub,ab,col,dd,k0,k1,k2,k3,k5,mN,hC,hN,T⟩:=excI_obj X q
 have L:=PySem.W.looks_findIn (M:=model prog w) X nm
 unfold Builtin.«object.__getattribute__»
 repeat (first | (with_reducible refine wpAny_loadPart_at hx ?_;rw[hc]) | with_reducible refine wpAny_loadPart_at hC ?_ | with_reducible refine L.at ?_ | wp_step)
 rw[hd]
 have ns:h.Ns dx mA:=hns.ns
 show wpAny _ _ (instanceDict x false) _ _ _
 unfold instanceDict
 repeat (first | (with_reducible refine wpAny_loadPart_at hx ?_;rw[hc]) | with_reducible refine wpAny_loadPart_at hC ?_ | wp_step)
 rw[hdn]
 refine wpAny_pure ?_
 unfold Builtin.ObjectAttr.inDict
 refine wpAny_nsGet ns ?_
 rw[hv]
 repeat (any_goals (first | assumption | wp_step))
theorem get_call {tk:Tok}{R:Result->Shared->Prop}(X:K.In h)(q:excI K C=true)(F':ExcAt K C)(hx:h.get? x=some o)(hc:o.cls = .ref C){vs:Array Value}(hd:o.data = .fields vs)(hdn:o.dict=some dx)(hns:h.Ns1 dx mA)(nm:PySem.W.findIn K (.ref C) name=some none)(hv:mA name=some v)(hq:R (.ok (.ret v)) ⟨h,g,d,t,os⟩) :
 codeAny (model prog w) A (.call (.builtin "BaseException.__getattribute__") ⟨[.ref x,.str name tk],[]⟩) R ⟨h,g,d,t,os⟩:=
 codeAny_call_builtin PySem.F.attrBase_ValueError.ga.plain PySem.F.entry_bexc_ga (exc_check X ⟨o,hx,hc⟩ F' (get_entry X q hx hc hd hdn hns nm hv hq))
theorem get_by {tk:Tok}{fill b:Bool}{Q:Value->Shared->Prop}(X:K.In h)(q:excI K C=true)(F':ExcAt K C)(hx:h.get? x=some o)(hc:o.cls = .ref C){vs:Array Value}(hd:o.data = .fields vs)(hdn:o.dict=some dx)(hns:h.Ns1 dx mA)(nm:PySem.W.findIn K (.ref C) name=some none)(hv:mA name=some v)(hh:PySem.W.handedIn v=true)(hq:Q v ⟨h,g,d,t,os⟩) :
 wpAny (model prog w) A (getAttrBy (.ref x) (.str name tk) fill b) Q E ⟨h,g,d,t,os⟩:=by
 have L0:=(show IsExc h x C from ⟨o,hx,hc⟩).type (M:=model prog w)
 have L1:=PySem.W.looks_findIn (M:=model prog w) X F'.ga
 have L2:=PySem.W.looks_findIn (M:=model prog w) X F'.gn
 have f3:=PySem.F.attrBase_ValueError.ga.bind (.ref x)
 have hx2:(Value.builtin "BaseException.__getattribute__" == Value.builtin "object.__getattribute__")=false:=by decide +kernel
 have hx0:(b && onTheHeap (Value.builtin "BaseException.__getattribute__"))=false:=by cases b <;> rfl
 have hx1:(onTheHeap (Value.ref C) && Value.builtin "BaseException.__getattribute__" == Value.builtin "object.__getattribute__")=false:=by rw[hx2];rfl
 repeat (any_goals (first | assumption | with_reducible refine L0.at ?_ | with_reducible refine L1.at ?_ | with_reducible refine L2.at ?_ | wp_step))
 refine get_call X q F' hx hc hd hdn hns nm hv ?_
 show wpAny _ _ (handedOut v) _ _ _
 exact PySem.W.handed_on hh hq
theorem get_x {b:Bool}{Q:Value->Shared->Prop}(X:K.In h)(q:excI K C=true)(F':ExcAt K C)(hx:h.get? x=some o)(hc:o.cls = .ref C){vs:Array Value}(hd:o.data = .fields vs)(hdn:o.dict=some dx)(hns:h.Ns1 dx mA)(nm:PySem.W.findIn K (.ref C) name=some none)(hv:mA name=some v)(hh:PySem.W.handedIn v=true)(hq:∀tk,Q v ⟨h,g,d,tk,os⟩) :
 wpAny (model prog w) A (getAttr (.ref x) name b) Q E ⟨h,g,d,t,os⟩:=by
 unfold getAttr
 repeat (any_goals (first | assumption | exact hq _ | with_reducible refine get_by X q F' hx hc hd hdn hns nm hv hh ?_ | wp_step))
end
structure HeldD (X:Cx)(ea C dx:Addr):Prop where
 pin:∃oe vs,(ea,oe)∈X.pn/\oe.cls = .ref C/\oe.dict=some dx/\oe.data = .fields vs
noncomputable def tFldE (X:Cx)(ta:TE)(f:Str):TE:=fun σ H Q=>ta σ H fun x H1=>∃ea C dx fs v,x = .ref ea/\HeldD X ea C dx/\excI X.K C=true/\ExcAt X.K C/\PySem.W.findIn X.K (.ref C) f=some none/\H1 dx=some (dO dx fs)/\fs.lookup f=some v/\Q v H1
theorem pe_fldE {X:Cx}{e:Expr}{f:Str}{ta:TE}{pos:Pos}(he:PE X e ta)(hb:attributeBase e f X.env (eval e X.env)=eval e X.env:=by rfl):PE X (.Attribute e f pos) (tFldE X ta f):=by
 intro pins s σ H Q I h
 refine attr_of hb (thn (he pins s σ H _ I h) fun u s1 ⟨x,H1,I1,rx,ea,C,dx,fs,v,ex,⟨⟨oe,vs,hp,hc,hdn,hd⟩⟩,q,F',nm,hdx,hl,hq⟩=>?_)
 subst ex
 obtain rfl:u=Value.ref ea:=rx
 obtain⟨e1,_⟩:=I1.pin (ea,oe) (List.mem_append_left _ hp)
 obtain⟨mA,hns,r,wi⟩:=(I1.hok dx _ hdx).1
 obtain⟨u,hu,ru⟩:=RelO.some_of (v:=v) (o:=mA f) (by rw[<-hl];exact r f)
 obtain⟨hp',g,d,tk,os⟩:=s1
 exact get_x I1.kIn q F' e1 hc hd hdn hns nm hu (handed_of ru) fun tk'=>⟨v,H1,I1.tok tk',ru,hq⟩
end L2
namespace L2
open PySem PySem.Spec PyProof.Rows
noncomputable def DictIs (e:Addr)(od:Option Addr)(h:Heap):Prop:=∃o,h.get? e=some o/\o.dict=od
theorem DictIs.step {e:Addr}{od:Option Addr}{h h':Heap}(x:DictIs e od h)(k:DK h h'):DictIs e od h':=by
 obtain⟨o,q,r⟩:=x
 obtain⟨o',q',r'⟩:=k e o q
 exact⟨o',q',r'.trans r⟩
section
variable {M:Model}{A:Around}{E:Value->Shared->Prop}{s:Shared}{base:Heap}{env:Env}{outer l:List Env}{L e:Addr}{cls a0:Value}{od:Option Addr}{Q:Unit->Shared->Prop}
theorem looks_onD (hfr:A.frames=some (env::outer))(hf:env.frame=some L)(hfl:Heap.FlyingW base (env::outer) e cls a0 s.heap)(hd:DictIs e od s.heap)
 (hQ:∀h',Heap.HeldW base (env::outer) e cls a0 L h'->s.heap.UpToSlots h'->DictIs e od h'->Q () { s with heap:=h' }):wpAny M A (noteFrame (.ref e) env) Q E s:=by
 refine wpAny_mono (wpAny_kd (kd_note _ _) (wpAny_looks_onW (Q:=fun _ s2=>∃h',s2={ s with heap:=h' }/\Heap.HeldW base (env::outer) e cls a0 L h'/\s.heap.UpToSlots h') hfr hf hfl fun h' a b=>⟨h',rfl,a,b⟩)) (fun _ s2 hq=>?_) fun _ _ z=>z
 obtain⟨⟨h',rfl,a,b⟩,k⟩:=hq
 exact hQ h' a b (hd.step k)
theorem landsD (hh:Heap.HeldW base l e cls a0 L s.heap)(hd:DictIs e od s.heap)
 (hQ:∀h',Heap.FlyingW base l e cls a0 h'->s.heap.UpToSlots h'->DictIs e od h'->Q () { s with heap:=h' }):wpAny M A (setFlight (.ref e) none) Q E s:=by
 refine wpAny_mono (wpAny_kd (kd_setFlight _ _) (wpAny_landsW (Q:=fun _ s2=>∃h',s2={ s with heap:=h' }/\Heap.FlyingW base l e cls a0 h'/\s.heap.UpToSlots h') hh fun h' a b=>⟨h',rfl,a,b⟩)) (fun _ s2 hq=>?_) fun _ _ z=>z
 obtain⟨⟨h',rfl,a,b⟩,k⟩:=hq
 exact hQ h' a b (hd.step k)
theorem againD (hh:Heap.FlyingW base l e cls a0 s.heap)(hd:DictIs e od s.heap)
 (hQ:∀h',Heap.FlyingW base l e cls a0 h'->s.heap.UpToSlots h'->DictIs e od h'->Q () { s with heap:=h' }):wpAny M A (setFlight (.ref e) none) Q E s:=by
 refine wpAny_mono (wpAny_kd (kd_setFlight _ _) (lands_againW (Q:=fun _ s2=>∃h',s2={ s with heap:=h' }/\Heap.FlyingW base l e cls a0 h'/\s.heap.UpToSlots h') hh fun h' a b=>⟨h',rfl,a,b⟩)) (fun _ s2 hq=>?_) fun _ _ z=>z
 obtain⟨⟨h',rfl,a,b⟩,k⟩:=hq
 exact hQ h' a b (hd.step k)
end
noncomputable def excC (K:PySem.W.Frag)(C:Addr):Bool:=excI K C || PySem.W.excIn K C bmV "ValueError.__new__"
theorem excC_obj {K:PySem.W.Frag}{h:Heap}{C:Addr}(X:K.In h)(q:excC K C=true) :
 ∃bm N nm qn bs hdct sn sub ab col dd k0 k1 k2 k3 k5,h.get? C=some (excClassObj nm qn C N bs bm hdct sn sub ab col dd k0 k1 k2 k3 k5 "ValueError.__new__"):=by
 unfold excC at q
 rcases Bool.or_eq_true _ _ ▸ q with q | q
 . obtain⟨bm,N,nm,qn,bs,sn,sub,ab,col,dd,k0,k1,k2,k3,k5,mN,hC,_⟩:=excI_obj X q
   exact⟨_,_,_,_,_,_,_,_,_,_,_,_,_,_,_,_,hC⟩
 . obtain⟨bm,N,nm,qn,bs,hdct,sn,sub,ab,col,dd,k0,k1,k2,k3,k5,mN,hC,_⟩:=exc_obj X q
   exact⟨_,_,_,_,_,_,_,_,_,_,_,_,_,_,_,_,hC⟩
noncomputable def EHI (K:PySem.W.Frag)(W:Addr)(ts:Addr->Obj->Addr->TS)(i:Nat)(D:Ends)(σ:St):XK:=fun C od H'=>∃Ca,C = .ref Ca/\excC K Ca=true/\subIn K Ca W=true/\∀ea oe vs,oe.cls = .ref Ca->oe.dict=od->oe.data = .fields vs->H' ea=none->ts ea oe Ca (endsH i D) (σ.set i (some (.ref ea))) H'
noncomputable def tTryI (K:PySem.W.Frag)(W:Addr)(tb:XK->TS)(ts:Addr->Obj->Addr->TS)(i:Nat):TS:=fun D σ H=>tb (EHI K W ts i D σ) D σ H
noncomputable def PXI (X:Cx)(body:List Stmt)(tb:XK->TS):Prop:=∀(pins:List (Addr×Obj))(s:Shared)(σ:St)(H:Hp)(D:Ends)(E1:XK),Inv X pins σ H s->tb E1 D σ H ->
 wpAny (model X.prog X.w) X.A (execs body X.env) (SP X pins D) (fun e s'=>∃H1 s1,Inv X pins σ H1 s1/\CXI X.prog X.w X.stack H1 s1 E1 e s') s
theorem ps_tryI {X:Cx}{body:List Stmt}{n x:Str}{i:Nat}{b0:Stmt}{suite:List Stmt}{pos hpos np:Pos}{W:Addr}{tb:XK->TS}{ts:Addr->Obj->Addr->TS}(hN:X.N.Nodup)(hi:X.N[i]? = some n)(hk:X.env.kindOf n=some .local)
 (hst:X.stack=X.env::X.outer)(hfl:X.env.frame=some X.env.locals)(hg:Gl X x)(hm:X.mg x=some (.ref W))(qW:PySem.W.excIn X.K W bmV "ValueError.__new__" = true)
 (hb:PXI X body tb)(hs:∀(ea:Addr)(oe:Obj)(C:Addr),oe.cls = .ref C->PSs (X.held ea oe) (b0::suite) (ts ea oe C))(hd:(x==("__debug__" : Str))=false:=by decide) :
 PS X (.Try body [.ExceptHandler (some (.Name x np)) (some n) (b0::suite) hpos] [] [] pos) (tTryI X.K W tb ts i):=by
 intro pins s σ H D I h
 refine wpAny_Try_except (wpAny_mono (hb pins s σ H D _ I h) (fun fl s' hq=>?_) fun e s' hq=>?_)
 . cases fl with
   | next=>exact wpAny_execs_nil hq
   | brk=>exact hq
   | cont=>exact hq
   | ret u=>exact hq
 . obtain⟨H1,s1,I1,ea,t,C,od,H',B,rfl,os,bare,un,hok,⟨fl,fd⟩,tr,old,al,Ca,rfl,qC,sub,hts⟩:=hq
   have hfr:X.A.frames=some (X.env::X.outer):=by rw[<-hst];exact I.ok.frames
   have fl':=fl
   rw[hst] at fl'
   have hHe:H' ea=none:=by
    cases z:H' ea with
    | none=>rfl
    | some u=>
     obtain⟨o,ho⟩:=tr ea u z
     rw[fl.2.1] at ho;cases ho
   refine looks_onD hfr hfl fl' fd fun h4 held up4 d4=>?_
   refine landsD held d4 fun h5 fl5 up5 d5=>?_
   have key:∀(h6:Heap),Heap.FlyingW B (X.env::X.outer) ea (.ref Ca) (.ref t) h6->s'.heap.UpToSlots h6->DictIs ea od h6->∃oe vs,h6.get? ea=some oe/\oe.cls = .ref Ca/\oe.dict=od/\oe.data = .fields vs/\Inv (X.held ea oe) pins σ H' { s' with heap:=h6 }:=fun h6 fl6 up6 d6=>by
    obtain⟨oe,ws,hoe,hc,hdt,_⟩:=fl6.first
    have hdi:oe.dict=od:=by
     obtain⟨o2,q2,r2⟩:=d6
     rw[hoe] at q2;cases q2;exact r2
    have un6:Un (frs X.stack) [] H1 H' s1.heap h6:=landed_un un fl old al fl6.1 up6
    have I6:Inv X pins σ H' { s' with heap:=h6 }:=I1.call' (s':={ s' with heap:=h6 }) os un6 (hok.stays fl.1 fl6.1 tr) bare (fun b z=>absurd z (by simp))
    have nfr:ea∉frs X.stack:=fun z=>by
     rw[hst] at z
     obtain⟨_,o,ho,nd⟩:=fl6.2.2.1.mem z
     rw[hoe] at ho
     cases ho
     exact nd ws hdt
    have hfs:frs X.stack=X.env.locals::X.fs:=by
     rw[hst]
     unfold frs
     rw[List.filterMap_cons,hfl]
     rfl
    rw[hfs] at nfr
    exact⟨oe,ws,hoe,hc,hdi,hdt,I6.hold hoe hHe (fun z=>nfr (z ▸ List.mem_cons_self)) (fun z=>nfr (List.mem_cons_of_mem _ z)) (fun v z=>by rw[hdt] at z;cases z)⟩
   obtain⟨oe5,ws5,hoe5,hc5,_,_,I5⟩:=key h5 fl5 (up4.trans up5) d5
   refine wpAny_handleBy_cons (codeAny_handlers_test (ld_glob (X:=X.held ea oe5) I5 hg hm ?_ hd)) (by intro q;cases q)
   obtain⟨bm,Nn,nm,qn,bs,hdct,sn,sb,ab,col,dd,k0,k1,k2,k3,k5,hC⟩:=excC_obj I5.kIn qC
   obtain⟨bm',Nn',nm',qn',bs',hdct',sn',sb',ab',col',dd',k0',k1',k2',k3',k5',mN',hW,_,_,TW⟩:=exc_obj I5.kIn qW
   refine match_base hC hW hoe5 hc5 (TW.hasType (by rfl)) (sub_of I5.kIn sub hC) ?_
   refine codeAny_handlers_suite_as (againD fl5 d5 fun h6 fl6 up6 d6=>?_)
   obtain⟨oe6,ws6,hoe6,hc6,hd6,hf6,I6⟩:=key h6 fl6 ((up4.trans up5).trans up6) d6
   refine store_ok (X:=X.held ea oe6) I6 hN hi (.inl hk) (v:=.ref ea) rfl (fun s7 I7=>?_) (.inr hk)
   refine wpAny_mono (hs ea oe6 Ca hc6 pins s7 _ H' (endsH i D) I7 (hts ea oe6 ws6 hc6 hd6 hf6 hHe)) (fun f s8 hq=>?_) fun _ _ z=>z.elim
   have fin:∀{σ':St}{H2:Hp}{Q:Unit->Shared->Prop},Inv (X.held ea oe6) pins σ' H2 s8->(∀s9,Inv X pins (σ'.set i none) H2 s9->Q () s9)->wpAny (model X.prog X.w) X.A (do bindName X.env n .none;unbindBehindTheSuite X.env n hpos) Q X.xe s8:=fun {σ' H2 Q} J hQ=>by
    have J1:=Inv.letgo I.ok J
    have hiσ:i<σ'.length:=by rw[J1.len];exact (List.getElem?_eq_some_iff.mp hi).1
    refine wpAny_bind (wpAny_bindName (store_ok J1 hN hi (.inl hk) (v:=.non) rfl (fun s9 J2=>?_) (.inr hk)))
    unfold unbindBehindTheSuite
    refine wpAny_onRaise (unbind_ok J2 hN hi hk (v:=.non) (List.getElem?_set_self hiσ) fun s10 J3=>?_)
    rw[List.set_set] at J3
    exact hQ s10 J3
   cases f with
   | next=>
    obtain⟨σ',H2,J,q⟩:=hq
    exact fin J fun s9 J9=>⟨_,H2,J9,q⟩
   | brk=>
    obtain⟨σ',H2,J,q⟩:=hq
    exact fin J fun s9 J9=>⟨_,H2,J9,q⟩
   | cont=>
    obtain⟨σ',H2,J,q⟩:=hq
    exact fin J fun s9 J9=>⟨_,H2,J9,q⟩
   | ret u=>
    obtain⟨v,σ',H2,J,r,q⟩:=hq
    exact fin J fun s9 J9=>⟨v,_,H2,J9,r,q⟩
section
variable {X:Cx}{k:Nat}{f:Addr}{fd:FuncData}{ps:List Str}{sp:Sp}{x:Str}{p pos epos:Pos}{e:Expr}{es:List Expr}{t:TA}
theorem call_xI {pins:List (Addr×Obj)}{s:Shared}{σ:St}{H:Hp}{Q:VK}{E1:XK}(F:FnOk X.prog X.w X.K X.mg X.base (CXI X.prog X.w) k f fd ps sp)(hr:Room k X.A)(hg:Gl X x)(hm:X.mg x=some (.ref f))(hk:PySem.W.keepIn X.K (.ref f)=true)(hb:Binds X.K fd ps [])
 (ha:PA X.nox (e::es) t)(I:Inv X pins σ H s)(h:t σ H fun vs H1=>sp vs H1 Q E1)(hdb:(x==("__debug__" : Str))=false:=by decide) (he:starEach (e::es) X.env=(false,eval e X.env)::starEach es X.env:=by rfl)(hpl:(backTo pos (starEach es X.env)).any (·.1)=false:=by rfl) :
 wpAny (model X.prog X.w) X.A (eval (.Call (.Name x p) (e::es) [] pos) X.env) (EP X pins σ Q) (fun e s'=>∃H1 s1,Inv X pins σ H1 s1/\CXI X.prog X.w X.stack H1 s1 E1 e s') s:=by
 refine wpAny_Call_Name_kw (ld_glob I hg hm ?_ hdb)
 refine PySem.W.callWith_K (h₀:=X.base) I.ok.mod.kin hk (wpAny_mono (ha pos pins s σ H _ (I.wish _) h) (fun us s1 ⟨vs,H1,I1,r,q⟩=>⟨I1.unwish.kIn,?_⟩) fun _ _ z=>False.elim z) he hpl
 have I2:=I1.unwish
 have hl:us.length=ps.length:=by rw[<-r.length];exact F.len _ _ _ _ q
 refine wpAny_call (codeAny_mono (F.run X.A X.stack s1 H1 ⟨us,[]⟩ us vs Q E1 hr I2.env0 (by have:=hb s1 us I2.kIn (by rw[List.append_nil];exact hl);rw[List.append_nil] at this;exact this) r q) fun r s' hq=>?_)
 cases r with
 | error e=>exact⟨H1,s1,I2,hq⟩
 | ok fl=>
  cases fl with
  | ret u=>exact I2.after hq
  | next=>exact False.elim hq
  | brk=>exact False.elim hq
  | cont=>exact False.elim hq
end
end L2
namespace L2
open PySem PySem.Spec PyProof.Rows
section
variable {X:Cx}{k:Nat}{f:Addr}{fd:FuncData}{ps:List Str}{sp:Addr->Addr->Sp}{x:Str}{p pos:Pos}{e:Expr}{es:List Expr}{t:TA}{ea:Addr}{oe:Obj}
theorem held_dx {C dx:Addr}{vs:Array Value}(h:oe.cls = .ref C)(h1:oe.dict=some dx)(h2:oe.data = .fields vs):HeldD (X.held ea oe) ea C dx:=⟨⟨oe,vs,List.mem_cons_self,h,h1,h2⟩⟩
end
end L2
namespace L2
open PySem PySem.Spec PyProof.Rows
section
variable {X:Cx}
end
section
variable {X:Cx}{k:Nat}{f:Addr}{fd:FuncData}{ps:List Str}{sp:Sp}{x y:Str}{p pos epos pos' cpos:Pos}{e b:Expr}{es:List Expr}{t:TA}{i:Nat}
end
end L2
namespace L2
open PySem PySem.Spec PyProof.Rows
section
variable {X:Cx}{k:Nat}{f:Addr}{fd:FuncData}{ps:List Str}{sp:Sp}{x y:Str}{p pos epos pos':Pos}{e:Expr}{es:List Expr}{t:TA}{i:Nat}
theorem px_setI (hN:X.N.Nodup)(hi:X.N[i]? = some y)(hx:Loc X.env.scope y)(F:FnOk X.prog X.w X.K X.mg X.base (CXI X.prog X.w) k f fd ps sp)(hr:Room k X.A)(hg:Gl X x)(hm:X.mg x=some (.ref f))(hk:PySem.W.keepIn X.K (.ref f)=true)(hb:Binds X.K fd ps [])
 (ha:PA X.nox (e::es) t)(hs:swapsWith (.Call (.Name x p) (e::es) [] pos) (some (.Name y pos')) epos.line X.env=pure false:=by rfl)(hf:X.fn y=true\/X.env.scope.names.lookup y=some .local:=by first | exact .inl rfl | exact .inr rfl | assumption)(hdb:(x==("__debug__" : Str))=false:=by decide) (he:starEach (e::es) X.env=(false,eval e X.env)::starEach es X.env:=by rfl)(hpl:(backTo pos (starEach es X.env)).any (·.1)=false:=by rfl) :
 PXI X [.Assign [.Name y pos'] (.Call (.Name x p) (e::es) [] pos) epos] (fun E1 D σ H=>t σ H fun vs H1=>sp vs H1 (fun v H2=>D.nx (σ.set i (some v)) H2) E1):=by
 intro pins s σ H D E1 I h
 refine wpAny_execs_cons (wpAny_Assign_Name (wpAny_mono (call_xI F hr hg hm hk hb ha I h hdb he hpl) (fun v s1 ⟨z,H1,I1,r1,q1⟩=>?_) fun _ _ z=>z) hs)
 exact store_ok I1 hN hi hx r1 (fun s2 I2=>wpAny_execs_nil ⟨_,H1,I2,q1⟩) hf
end
end L2
namespace L2
open PySem PySem.Spec PyProof.Rows
theorem rev_pick (l:List Value):((List.range l.length).filterMap fun m=>l[l.length-1-m]?)=l.reverse:=by
 have e:((List.range l.length).filterMap fun m=>l[l.length-1-m]?)=((List.range l.length).map fun k=>l.length-1-k).filterMap (l[·]?):=by
  rw[List.filterMap_map];rfl
 have h:=PySem.W.krv_all l.toArray
 rw[List.size_toArray] at h
 rw[e,PySem.W.krv_range,List.filterMap_reverse]
 congr 1
 simpa using h
theorem sliceRange_dn0 (n:Nat):sliceRange (n:Int) 0 (-1)=(List.range n).map fun k=>n-k:=by
 unfold sliceRange
 rw[if_neg (by decide)]
 cases n with
 | zero=>rfl
 | succ m=>
  rw[if_pos (by omega)]
  have e:(((m+1:Nat):Int)-0 - -1-1)/(- -1)=((m+1:Nat):Int):=by rw[Int.neg_neg,Int.ediv_one];omega
  rw[e]
  show List.map _ (List.range ((m+1:Nat):Int).toNat)=_
  rw[Int.toNat_natCast]
  apply List.map_congr_left
  intro k hk
  have:=List.mem_range.mp hk
  omega
theorem pick_rv0 (a:Value)(l:List Value):slicePick (a::l).toArray none (some 0) (some (-1))=l.reverse.toArray:=by
 unfold slicePick
 rw[show sliceBounds none (some 0) (some (-1)) (a::l).toArray.size=((l.length:Int),0,-1) by simp[sliceBounds] <;> omega]
 rw[sliceRange_dn0,List.filterMap_map,<-rev_pick]
 congr 1
 apply HT.fm_congr
 intro m hm
 have:=List.mem_range.mp hm
 show (a::l).toArray[l.length-m]? = _
 rw[List.getElem?_toArray,show l.length-m=(l.length-1-m)+1 by omega,List.getElem?_cons_succ]
section
variable {X:Cx}{e:Expr}{te:TE}{pos p2:Pos}
noncomputable def tRev0 (K:PySem.W.Frag)(te:TE):TE:=fun σ H Q=>te σ H fun x H1=>∃a y xs,x = .ref a/\SqL K H1 a (y::xs)/\∀p,H1 p=none->Q (.ref p) (upd H1 p (.lst xs.reverse))
theorem pe_rev0 {z m:Expr}{ops:Value->Value->List Value}(he:PE X e te)(hz0:PE X z (tC (.int 0)))(hm:PE X m (tC (.int (-1))))(hsub:∀a d,subscripted (.Slice none (some z) (some m) p2) false a d=operate (ops a d) (getItem a d)):PE X (.Subscript e (.Slice none (some z) (some m) p2) pos) (tRev0 X.K te):=by
 intro pins s σ H Q I h
 refine Subscript_ (thn (he pins s σ H _ I h) fun v s1 ⟨x,H1,I1,r1,q1⟩=>?_)
 obtain⟨a,y,xs,rfl,hx,q⟩:=q1
 refine wpAny_Slice ?_
 rw[evalPart_none]
 refine wpAny_pure ?_
 rw[evalPart_some]
 refine thn (hz0 pins s1 σ H1 (fun y H2=>y = .int 0/\H2=H1) I1 ⟨rfl,rfl⟩) fun vz s2 ⟨y0,H2,I2,rz,ey0,eH0⟩=>?_
 subst ey0 eH0
 obtain⟨tz,rfl⟩:=rz
 rw[evalPart_some]
 refine thn (hm pins s2 σ H2 (fun y H3=>y = .int (-1)/\H3=H2) I2 ⟨rfl,rfl⟩) fun vk s3 ⟨y,H3,I3,rk,ey,eH⟩=>?_
 subst ey eH
 obtain⟨t,rfl⟩:=rk
 cases r1
 have I4:Inv X pins σ H3 { s3 with heap:=s3.heap.push { cls:=.type "slice",data:=.fields #[.none,.int 0 tz,.int (-1) t] } }:=I3.kept (t':=s3.toks) fun b ob q=>Heap.get?_push_of_some _ q
 obtain⟨its,r,ht,hz⟩:=I4.list hx
 have hlen:=r.length
 cases r with
 | cons ry r=>
 rename_i u us
 show wpAny (model X.prog X.w) X.A (subscriptTail e (.Slice none (some z) (some m) p2) (.ref a) (.ref s3.heap.objs.size)) (EP X pins σ Q) X.xe { s3 with heap:=s3.heap.push { cls:=.type "slice",data:=.fields #[.none,.int 0 tz,.int (-1) t] } }
 refine tail_any (ops:=ops (.ref a) (.ref s3.heap.objs.size)) ht.isList.typeIs slot_list_getitem.lookup (wpAny_getItem_list_slice ht.isList ⟨_,Heap.get?_push_size _ rfl,rfl,rfl⟩ .none (.int 0 tz) (.int (-1) t) (by decide) ?_ (by rw[List.size_toArray];omega)) (hsub _ _)
 rw[pick_rv0]
 refine⟨.ref _,_,I4.laid (t':=s3.toks) (o:=.lst xs.reverse) (fun b ob q=>Heap.get?_push_of_some _ q) (Nat.le_refl _) ?_,rfl,q _ (I4.hok.fresh (Nat.le_refl _))⟩
 have:(xs.length:Nat)<=sizeLine:=Nat.le_trans (Nat.le_succ _) hz
 exact⟨by rw[List.length_reverse];exact this,_,0,vals_reverse r,Heap.get?_push_size _ rfl⟩
end
end L2
namespace L2
open PySem PySem.Spec PyProof.Rows
section
variable {X:Cx}
end
section
variable {X:Cx}{k:Nat}{f:Addr}{fd:FuncData}{ps:List Str}{sp:Sp}{x y:Str}{p pos epos pos':Pos}{e:Expr}{es:List Expr}{t:TA}{i:Nat}
end
end L2
namespace L2
open PySem PySem.Spec PyProof.Rows
section
variable {prog:Program}{w:World}{A:Around}{E:Value->Shared->Prop}{s:Shared}{x:Str}{t:Tok}{Q:Value->Shared->Prop}
open Builtin Builtin.Str in
theorem split_push {y:Str}{u:Tok}(hy:(y.length==0)=false)
 (hq:∀l k,l.map (·.1)=Txt.split x y->Q (.ref s.heap.objs.size) { s with toks:=k,heap:=s.heap.push { cls:=.type "list",data:=.seq (strValues l).toArray } })
 (hsz:x.length<=sizeLine)(hsz2:(Txt.split x y).length<=sizeLine) :
 wpAny (model prog w) A (call (.builtin "str.split") [.str x t,.str y u]) Q E s:=by
 cases h1:(decide (x.length<y.length) || decide (strKind x<strKind y))
 . cases hf:(occurrences x y 0 x.length (x.length+1)).isEmpty
   . have e:Txt.split x y=partsBetween x (occurrences x y 0 x.length (x.length+1)) y.length:=(if_neg (ne_true_of_eq_false h1)).trans (if_neg (ne_true_of_eq_false hf))
     refine call_meets F.slot_str_split (typeIs_str _ _ _) F.entry_str_split (F.args_str_split_2 _ _) (meets_str_split_sep x y t u h1 hy hf hsz (e ▸ hsz2)) ?_
     show wants Q E _ { s with toks:=_,heap:=s.heap.push { cls:=.type "list",data:=.seq (strsFrom s.toks (partsBetween x (occurrences x y 0 x.length (x.length+1)) y.length)).toArray } }
     rw[strsFrom_eq]
     exact hq (numbered s.toks _) _ ((numbered_texts _ _).trans e.symm)
   . exact call_meets F.slot_str_split (typeIs_str _ _ _) F.entry_str_split (F.args_str_split_2 _ _) (meets_str_split_not_found x y t u h1 hy hf)
      (hq [(x,t)] s.toks ((if_neg (ne_true_of_eq_false h1)).trans (if_pos hf)).symm)
 . exact call_meets F.slot_str_split (typeIs_str _ _ _) F.entry_str_split (F.args_str_split_2 _ _) (meets_str_split_cannot_occur x y t u h1)
    (hq [(x,t)] s.toks (if_pos h1).symm)
end
theorem rel_strs:∀(l:List (Str×Tok)),Vals ((l.map (·.1)).map V.str) (strValues l)
 | []=>.nil
 | (x,t)::l=>.cons ⟨t,rfl⟩ (rel_strs l)
section
variable {X:Cx}
noncomputable def rSplit:V->List V->Hp->VK->Prop:=fun x vs H Q=>∃z y,x = .str z/\vs=[.str y]/\(y.length==0)=false/\z.length<=1000000/\∀l,H l=none->Q (.ref l) (upd H l (.lst ((Txt.split z y).map V.str)))
theorem mt_split:MtR X "str.split" rSplit:=by
 intro pins s σ H x xs v us Q I rx r h
 obtain⟨z,y,rfl,rfl,hy,hz,q⟩:=h
 obtain⟨t,rfl⟩:=rx
 obtain⟨u,rfl,u',rfl⟩:=vals1 r
 have f2:=(fact_split z y).2
 have hl:1000002<=sizeLine:=by decide
 refine split_push hy (fun l k e=>?_) (by omega) (by omega)
 have hf:H s.heap.objs.size=none:=I.hok.fresh (Nat.le_refl _)
 refine⟨.ref s.heap.objs.size,_,I.laid (t':=k) (fun b u e=>Heap.get?_push_of_some _ e) (Nat.le_refl _) ?_,rfl,q _ hf⟩
 refine⟨by rw[List.length_map];omega,strValues l,0,?_,Heap.get?_push_size _ rfl⟩
 rw[<-e]
 exact rel_strs l
noncomputable def rCatS:R2:=fun x y H Q=>∃a b:Str,x = .str a/\y = .str b/\(a++b).length<=sizeLine/\Q (.str (a++b)) H
theorem op_catS:OpR X (binaryOp .Add) rCatS:=by
 intro pins s σ H x y v u Q I rx ry h
 obtain⟨a,b,rfl,rfl,hl,q⟩:=h
 obtain⟨t,rfl⟩:=rx
 obtain⟨t',rfl⟩:=ry
 refine P.add_str ?_
 by_cases ha:(a.length==0)=true
 . rw[if_pos ha]
   rw[Str.append_left_empty ha] at q
   exact⟨.str b,H,I,⟨_,rfl⟩,q⟩
 rw[if_neg ha]
 by_cases hb:(b.length==0)=true
 . rw[if_pos hb]
   rw[Str.append_right_empty hb] at q
   exact⟨.str a,H,I,⟨_,rfl⟩,q⟩
 rw[if_neg hb]
 exact⟨hl,.str _,H,I.tok _,⟨_,rfl⟩,q⟩
theorem call_intS:CallR X (.type "int") (fun xs H Q=>∃z n,xs=[.str z]/\intText? z=some n/\z.length<=640/\Q (.int n) H):=by
 intro pins s σ H xs us Q I r h
 obtain⟨z,n,rfl,hn,hl,q⟩:=h
 obtain⟨u,rfl,t,rfl⟩:=vals1 r
 exact PySem.W.KIN.call_text hn hl ⟨.int n,H,I.tok _,⟨_,rfl⟩,q⟩
end
end L2
namespace L2
open PySem PySem.Spec PyProof.Rows
section
variable {X:Cx}{e:Expr}{es:List Expr}{te:TE}{pos:Pos}
theorem strs_are:∀{ys:List Str}{its:List Value},Vals (ys.map V.str) its->StrsAre its ys
 | [],_,.nil=>.nil
 | _::_,_,.cons ⟨_,e⟩ r=>by subst e;exact .cons _ _ (strs_are r)
noncomputable def rJoin (K:PySem.W.Frag):V->List V->Hp->VK->Prop:=fun x vs H Q=>∃z l ys,x = .str z/\vs=[.ref l]/\SqL K H l (ys.map V.str)/\z.length<=16/\(ys.map fun y=>y.length).sum+ys.length<=1048576/\Q (.str (Txt.join z ys)) H
theorem mt_join:MtR X "str.join" (rJoin X.K):=by
 intro pins s σ H x xs v us Q I rx r h
 obtain⟨z,l,ys,rfl,rfl,hl,hz,hs,q⟩:=h
 obtain⟨t,rfl⟩:=rx
 obtain⟨u,rfl,ru⟩:=vals1 r
 cases (show u=Value.ref l from ru)
 obtain⟨its,rv,⟨o,n,e1,e2,e3,e4⟩,_⟩:=I.list hl
 exact join_listW ⟨o,e1,e2,n,e4⟩ (strs_are (by simpa using rv)) hz hs fun t' k=>⟨.str _,H,I.tok _,⟨_,rfl⟩,q⟩
end
end L2
namespace L2
open PySem PySem.Spec PyProof.Rows
noncomputable def Its (z:Str):It:=⟨fun i _=>i<z.cps.size,fun i H v H'=>H'=H/\∃c,z.cps[i]? = some c/\v = .str ⟨#[c]⟩,fun i _=>z.cps.size<=i⟩
theorem turn_str {P:Program}{w:World}{K:PySem.W.Frag}{tg:Expr}(z:Str)(t:Tok)(it:Addr) :
 Turn P w K tg (Its z) [it] it (fun i h=>h.IsStrIter it "str_ascii_iterator" z t i\/h.IsStrIter it "str_iterator" z t i) where
 mem:=by simp
 obj:=fun i h st b hb=>by
  have e:b=it:=by simpa using hb
  subst e
  rcases st with ⟨o,e,c,d⟩ | ⟨o,e,c,d⟩
  . exact⟨o,e,fun v z=>by rw[d] at z;cases z⟩
  . exact⟨o,e,fun v z=>by rw[d] at z;cases z⟩
 keep:=fun i h h' st k=>st.imp (fun ⟨o,e,r⟩=>⟨o,k it (by simp) o e,r⟩) (fun ⟨o,e,r⟩=>⟨o,k it (by simp) o e,r⟩)
 item:=by
  intro X hP hw hK hc i pins s σ H E I hf st hg
  subst hP hw hK
  have hg:i<z.cps.size:=hg
  obtain⟨f0,f1,f2,f3,f4,f5⟩:=hf it (by simp)
  have hx:z.cps[i]? = some z.cps[i]:=by simp[hg]
  rcases st with st | st
  . refine wpAny_pyNext_ascii_item st hx fun h' st' sb=>?_
    have I1:Inv X pins σ H { s with heap:=h',toks:=s.toks+1 }:=I.turned (fun b o hb e=>(sb.2 b hb).trans e) f0 f1 f3 f4 f5
    obtain⟨o,e,c,d⟩:=id st'
    exact⟨_,rfl,go_of (s:={ s with heap:=h',toks:=s.toks+1 }) e c d (by decide) ⟨.str ⟨#[z.cps[i]]⟩,H,I1,⟨_,rfl⟩,⟨rfl,_,hx,rfl⟩,.inl st',fun b hb=>(hf b hb).1⟩⟩
  . refine wpAny_pyNext_wide_item st hx fun h' st' sb=>?_
    have I1:Inv X pins σ H { s with heap:=h',toks:=s.toks+1 }:=I.turned (fun b o hb e=>(sb.2 b hb).trans e) f0 f1 f3 f4 f5
    obtain⟨o,e,c,d⟩:=id st'
    exact⟨_,rfl,go_of (s:={ s with heap:=h',toks:=s.toks+1 }) e c d (by decide) ⟨.str ⟨#[z.cps[i]]⟩,H,I1,⟨_,rfl⟩,⟨rfl,_,hx,rfl⟩,.inr st',fun b hb=>(hf b hb).1⟩⟩
 done:=by
  intro X hP hw hK hc i pins s σ H E I hf st hg
  subst hP hw hK
  have hg:z.cps.size<=i:=hg
  obtain⟨f0,f1,f2,f3,f4,f5⟩:=hf it (by simp)
  have hx:z.cps[i]? = none:=by simp[hg]
  rcases st with st | st
  . exact wpAny_pyNext_ascii_end (I.ok.hd hc) st hx fun h' eb=>⟨rfl,I.turned (t':=s.toks) (fun b o hb e=>eb b o hb e) f0 f1 f3 f4 f5⟩
  . exact wpAny_pyNext_wide_end (I.ok.hd hc) st hx fun h' eb=>⟨rfl,I.turned (t':=s.toks) (fun b o hb e=>eb b o hb e) f0 f1 f3 f4 f5⟩
 self:=fun A i s Q E st hQ=>by
  rcases st with st | st
  . exact wpAny_pyIter_striter_ascii st hQ
  . exact wpAny_pyIter_striter_wide st hQ
section
variable {X:Cx}{tg:Expr}
noncomputable def iStr (tl:TE):TI:=fun σ H R=>tl σ H fun v H1=>∃z,v = .str z/\R (Its z) H1
theorem pi_str {l:Expr}{tl:TE}(hl:PE X l tl):PI X tg l (iStr tl):=by
 intro pins s σ H R I h
 refine thn (hl pins s σ H _ I h) fun v s1 ⟨x,H1,I1,r1,q1⟩=>?_
 obtain⟨z,e,q⟩:=q1
 subst e
 obtain⟨t,rfl⟩:=r1
 have fin:∀b∈[s1.heap.objs.size],FpOk X pins H1 b:=fun b hb=>by
  have e:b=s1.heap.objs.size:=by simpa using hb
  subst e
  exact I1.fpOk (Nat.le_refl _) (I1.hok.fresh (Nat.le_refl _))
 cases ha:z.cps.all (· < 128)
 . exact wpAny_pyIter_wide ha ⟨s1.heap.objs.size,[s1.heap.objs.size],_,_,H1,rfl,I1.kept (t':=s1.toks) fun b o e=>Heap.get?_push_of_some _ e,turn_str z t _,.inr ⟨_,Heap.get?_push_size _ rfl,rfl,rfl⟩,fin,q⟩
 . exact wpAny_pyIter_ascii ha ⟨s1.heap.objs.size,[s1.heap.objs.size],_,_,H1,rfl,I1.kept (t':=s1.toks) fun b o e=>Heap.get?_push_of_some _ e,turn_str z t _,.inl ⟨_,Heap.get?_push_size _ rfl,rfl,rfl⟩,fin,q⟩
end
theorem comp_str {z:Str}{own:Nat}{g:TG}{ti:TT}{te:TE}{cv:List V}{D:Addr}{H1:Hp}{Q:VK}(Pv:Nat->List V->Hp->Prop)(h0:Pv 0 [] (upd H1 D (.lst [])))(hz:∀i ys H,Pv i ys H->ys.length<sizeLine)
 (hs:∀i c ys H,z.cps[i]? = some c->Pv i ys H->g (.str ⟨#[c]⟩) (List.replicate own none++cv.map some) H fun σ2 H2=>(σ2.length=own+cv.length/\σ2.drop own=cv.map some) /\
  ti σ2 H2 fun b H3=>if b=true then te σ2 H3 fun y H4=>H4 D=some (.lst ys)/\Pv (i+1) (ys++[y]) (upd H4 D (.lst (ys++[y]))) else Pv (i+1) ys H3)
 (hd:∀ys H,Pv z.cps.size ys H->Q (.ref D) H) :
 CompRd (Its z) own cv g ti te D H1 Q:=by
 refine⟨fun i m ys H=>m=z.cps.size-i/\i<=z.cps.size/\Pv i ys H,⟨z.cps.size,rfl,Nat.zero_le _,h0⟩,?_⟩
 rintro i m ys H ⟨rfl,hi,p⟩
 by_cases hlt:i<z.cps.size
 . refine .inr ⟨hlt,hz i ys H p,Pv (i+1),fun ys' H' p'=>⟨z.cps.size-(i+1),by omega,rfl,hlt,p'⟩,fun x H' y=>?_⟩
   obtain⟨e,c,hc,ex⟩:=y
   subst e
   subst ex
   exact hs i c ys _ hc p
 . have e:i=z.cps.size:=by omega
   subst e
   exact .inl ⟨Nat.le_refl _,hd ys H p⟩
section
variable {X:Cx}
noncomputable def rInLS (K:PySem.W.Frag):R2:=fun x y H Q=>∃(z:Str)(l:Addr)(ys:List Str),x = .str z/\y = .ref l/\SqL K H l (ys.map V.str)/\Q (.bl (ys.any (· == z))) H
theorem op_inLS:OpR X (compareOp .In) (rInLS X.K):=by
 intro pins s σ H x y v u Q I rx ry h
 obtain⟨z,l,ys,rfl,rfl,hl,q⟩:=h
 obtain⟨t,rfl⟩:=rx
 cases (show u=Value.ref l from ry)
 obtain⟨its,rv,⟨o,n,e1,e2,e3,e4⟩,_⟩:=I.list hl
 exact in_list_strs ⟨o,e1,e2,n,e4⟩ (strs_are (by simpa using rv)) ⟨.bl _,H,I,rfl,q⟩
end
end L2
namespace L2
open PySem PySem.Spec PyProof.Rows
section
variable {X:Cx}
noncomputable def rSlS:V->Option Int->Option Int->Hp->VK->Prop:=fun x lo hi H Q=>∃z:Str,x = .str z/\z.length<=sizeLine/\Q (.str (Txt.slice z lo hi)) H
theorem part_of {v:Value}{o:Option Int}(h:IsPart v o):∃l:Option (Int×Tok),v=partValue l/\l.map (·.1)=o:=by
 cases h with
 | none=>exact⟨none,rfl,rfl⟩
 | int i t=>exact⟨some (i,t),rfl,rfl⟩
theorem sl_str:SlR X rSlS:=by
 intro pins s σ H x v vl vu lo hi sl Q I rx hs pl pu h
 obtain⟨z,rfl,hz,q⟩:=h
 obtain⟨t,rfl⟩:=rx
 obtain⟨l,rfl,rfl⟩:=part_of pl
 obtain⟨u,rfl,rfl⟩:=part_of pu
 refine⟨"str",_,F.slot_str_getitem.lookup,typeIs_str _ _ _,wpAny_getItem_str_slice (l:=l) (u:=u) (st:=none) hs rfl ?_⟩
 exact post_val_or_str ⟨Nat.le_trans (Txt.slice_le z _ _) hz,fun t' k=>⟨.str _,H,I.tok _,⟨_,rfl⟩,q⟩⟩
noncomputable def rMulS:R2:=fun x y H Q=>∃(z:Str)(n:Int),x = .str z/\y = .int n/\MulOk z n/\Q (.str (Txt.mul z n)) H
theorem op_mulS:OpR X (binaryOp .Mult) rMulS:=by
 intro pins s σ H x y v u Q I rx ry h
 obtain⟨z,n,rfl,rfl,hm,q⟩:=h
 obtain⟨t,rfl⟩:=rx
 obtain⟨t',rfl⟩:=ry
 exact SB.mul hm fun t' k=>⟨.str _,H,I.tok _,⟨_,rfl⟩,q⟩
end
end L2
namespace L2
open PySem PySem.Spec PyProof.Rows
section
variable {X:Cx}
noncomputable def rNeLE (K:PySem.W.Frag):R2:=fun x y H Q=>∃(a b:Addr)(xs:List V),x = .ref a/\y = .ref b/\SqL K H a xs/\SqL K H b []/\Q (.bl (!xs.isEmpty)) H
theorem op_neLE (hu:X.A.units<cLine):OpR X (compareOp .NotEq) (rNeLE X.K):=by
 intro pins s σ H x y v u Q I rx ry h
 obtain⟨a,b,xs,rfl,rfl,ha,hb,q⟩:=h
 cases rx
 cases ry
 obtain⟨its,r,pl,hz⟩:=I.list ha
 obtain⟨its2,r2,pl2,hz2⟩:=I.list hb
 have e2:its2=[]:=by cases r2;rfl
 subst e2
 cases xs with
 | nil=>
  cases r
  exact PySem.EqBoolInt.of_rcne (SeqAt.RcNeAt.lists (e:=fun _=>true) pl.isList pl2.isList rfl hu (fun j _ h2=>absurd h2 (Nat.not_lt_zero _))) ⟨.bl _,H,I,rfl,q⟩
 | cons x xs=>
  cases r
  exact PySem.EqBoolInt.of_rcne (SeqAt.RcNeAt.lists_lengths pl.isList pl2.isList (by simp) hu) ⟨.bl _,H,I,rfl,q⟩
noncomputable def rEqLE (K:PySem.W.Frag):R2:=fun x y H Q=>∃(a b:Addr)(xs:List V),x = .ref a/\y = .ref b/\SqL K H a xs/\SqL K H b []/\Q (.bl xs.isEmpty) H
theorem op_eqLE (hu:X.A.units<cLine):OpR X (compareOp .Eq) (rEqLE X.K):=by
 intro pins s σ H x y v u Q I rx ry h
 obtain⟨a,b,xs,rfl,rfl,ha,hb,q⟩:=h
 cases rx
 cases ry
 obtain⟨its,r,pl,hz⟩:=I.list ha
 obtain⟨its2,r2,pl2,hz2⟩:=I.list hb
 have e2:its2=[]:=by cases r2;rfl
 subst e2
 cases xs with
 | nil=>
  cases r
  exact SeqAt.eq_listAt (e:=fun _=>true) pl.isList pl2.isList rfl hu (fun j _ h2=>absurd h2 (Nat.not_lt_zero _)) ⟨.bl _,H,I,rfl,q⟩
 | cons x xs=>
  cases r
  exact SeqAt.eq_list_lengthsAt pl.isList pl2.isList (by simp) hu ⟨.bl _,H,I,rfl,q⟩
end
end L2
namespace L2
open PySem PySem.Spec PyProof.Rows
section
variable {X:Cx}
theorem op_neLS (hu:X.A.units<cLine):OpR X (compareOp .NotEq) (fun x y H Q=>∃(a b:Addr)(zs:List Str),x = .ref a/\y = .ref b/\SqL X.K H a (zs.map V.str)/\SqL X.K H b (zs.map V.str)/\Q (.bl false) H):=by
 intro pins s σ H x y v u Q I rx ry h
 obtain⟨a,b,zs,rfl,rfl,ha,hb,q⟩:=h
 cases rx
 cases ry
 obtain⟨its,r,pl,hz⟩:=I.list ha
 obtain⟨its2,r2,pl2,hz2⟩:=I.list hb
 have l1:=r.length
 have l2:=r2.length
 rw[List.length_map] at l1 l2
 refine PySem.EqBoolInt.of_rcne (SeqAt.RcNeAt.lists (e:=fun _=>true) pl.isList pl2.isList (by rw[List.size_toArray,List.size_toArray];omega) (by omega) (fun j ja jb=>?_)) ⟨.bl _,H,I,rfl,?_⟩
 . rw[List.size_toArray] at ja jb
   have hx:j<zs.length:=by omega
   obtain⟨w1,hw1,t1,rw1⟩:=r.get (i:=j) (x:=.str zs[j]) (by simp[hx])
   obtain⟨w2,hw2,t2,rw2⟩:=r2.get (i:=j) (x:=.str zs[j]) (by simp[hx])
   subst rw1 rw2
   have g1:its.toArray[j]'(by rw[List.size_toArray];exact ja) = .str zs[j] t1:=by
    rw[List.getElem?_eq_getElem ja] at hw1
    simpa using Option.some.inj hw1
   have g2:its2.toArray[j]'(by rw[List.size_toArray];exact jb) = .str zs[j] t2:=by
    rw[List.getElem?_eq_getElem jb] at hw2
    simpa using Option.some.inj hw2
   rw[g1,g2]
   have h:=SeqAt.EqAt.str_str (A:=X.A.in1) (s:=s) zs[j] t1 zs[j] t2
   rwa [beq_self_eq_true] at h
 . have:((List.range its.toArray.size).all fun _=>true)=true:=List.all_eq_true.mpr fun _ _=>rfl
   rw[this]
   exact q
end
end L2
namespace L2
open PySem PySem.Spec PyProof.Rows
section
variable {prog:Program}{w:World}{A:Around}{s0:Shared}{I l:Addr}{bs:List Bool}
theorem any_loop {R:Result->Shared->Prop}(hA:A.handled=none)(hI:s0.heap.objs.size<=I)(hl:s0.heap.IsList l (bs.map Value.bool).toArray)
 (hR:∀(h:Heap)(tk:Nat),Kp s0 h->R (.ok (.ret (.bool (bs.any id)))) { s0 with heap:=h,toks:=tk }) :
 ∀(r j:Nat)(h:Heap)(tk:Nat),bs.length-j=r->j<=bs.length->Kp s0 h->h.IsListIter I l j->(bs.take j).any id=false ->
  codeAny (model prog w) A (.builtin "any.loop" { pos:=[.ref I] }) R { s0 with heap:=h,toks:=tk }:=by
 have hl':∀h,Kp s0 h->h.IsList l (bs.map Value.bool).toArray:=fun h K=>by
  obtain⟨o,ho,hc⟩:=hl
  exact⟨o,K _ _ ho,hc⟩
 intro r
 induction r with
 | zero=>
  intro j h tk hr hj K hit ha
  refine codeAny_builtin PySem.F.entry_any_loop ?_
  unfold Builtin.«any.loop»
  refine wpAny_bind (wpAny_pyNext_list_end hA hit (hl' h K) (by rw[List.getElem?_toArray];exact List.getElem?_eq_none (by rw[List.length_map];omega)) fun h' b=>?_)
  refine wpAny_bind (wpAny_rule (wpAny_pure ?_))
  rw[List.take_of_length_le (by omega)] at ha
  have:=hR h' tk (K.but hI b)
  rw[ha] at this
  exact this
 | succ r ih=>
  intro j h tk hr hj K hit ha
  obtain⟨x,hx⟩:∃x,bs[j]? = some x:=⟨_,List.getElem?_eq_getElem (by omega)⟩
  refine codeAny_builtin PySem.F.entry_any_loop ?_
  unfold Builtin.«any.loop»
  refine wpAny_bind (wpAny_pyNext_list_item hit (hl' h K) (x:=.bool x) (by rw[List.getElem?_toArray,List.getElem?_map,hx];rfl) fun h' hit' b=>?_)
  have K':Kp s0 h':=K.but hI fun c o hc e=>by rw[b.2 c hc];exact e
  refine wpAny_bind (wpAny_holding (wpAny_truthy_bool (wpAny_bind (wpAny_letGo ?_))))
  cases x with
  | false=>
   refine wpAny_pure ⟨rfl,?_⟩
   exact ih (j+1) h' tk (by omega) (by omega) K' hit' (by rw[List.take_add_one,hx,List.any_append,ha];rfl)
  | true=>
   refine wpAny_bind (wpAny_rule (wpAny_pure ?_))
   have e:bs.any id=true:=List.any_eq_true.mpr ⟨true,List.mem_of_getElem? hx,rfl⟩
   have:=hR h' tk K'
   rw[e] at this
   exact this
end
section
variable {X:Cx}
theorem call_any (hc:X.calm=true):CallR X (.builtin "any") (fun xs H Q=>∃(p:Addr)(bs:List Bool),xs=[.ref p]/\SqL X.K H p (bs.map V.bl)/\Q (.bl (bs.any id)) H):=by
 intro pins s σ H xs us Q I r h
 obtain⟨p,bs,rfl,hq,q⟩:=h
 obtain⟨u,rfl,rx⟩:=vals1 r
 cases rx
 obtain⟨its,r',pl,hz⟩:=I.list hq
 rw[bools_of r'] at pl
 refine wpAny_call (codeAny_call_builtin PySem.F.plain_any PySem.F.entry_any (wpAny_of_eq (m':=pure ()) rfl (wpAny_pure ?_)))
 unfold Builtin.any
 refine wpAny_bind (wpAny_of_eq (m':=pure (Value.ref p)) rfl (wpAny_pure (wpAny_bind (wpAny_pyIter_list pl.isList (wpAny_pure ⟨rfl,?_⟩)))))
 refine any_loop (s0:=s) (l:=p) (bs:=bs) (I.ok.hd hc) (Nat.le_refl _) pl.isList ?_ bs.length 0 _ s.toks rfl (Nat.zero_le _) (fun b o e=>Heap.get?_push_of_some _ e) ?_ rfl
 . exact fun h tk K=>⟨.bl _,H,I.kept K,rfl,q⟩
 . exact⟨_,Heap.get?_push_size _ rfl,rfl,rfl⟩
end
section
variable {prog:Program}{w:World}{A:Around}{E:Value->Shared->Prop}
theorem draw_lst {it l:Addr}{its:Array Value}(hne:l≠it):∀(n i:Nat)(s:Shared)(Q:List Value->Shared->Prop),s.heap.IsListIter it l i->s.heap.IsList l its->i+n<=its.size ->
 (∀h',h'.IsListIter it l (i+n)->Heap.SameBut it s.heap h'->Q ((its.toList.drop i).take n) { s with heap:=h' })->wpAny (model prog w) A (draw (.ref it) n) Q E s
 | 0,i,s,Q,hi,_,_,q=>wpAny_pure (by simpa using q s.heap hi (Heap.SameBut.refl ..))
 | n+1,i,s,Q,hi,hl,hz,q=>by
  have hlt:i<its.size:=by omega
  refine wpAny_bind (wpAny_pyNext_list_item hi hl (x:=its[i]) (by simp[hlt]) fun h1 i1 b1=>?_)
  refine wpAny_bind (wpAny_holding (draw_lst hne n (i+1) _ _ i1 (hl.extBut b1.extBut hne) (by omega) fun h2 i2 b2=>wpAny_pure ?_))
  have e:its.toList.drop i=its[i]::its.toList.drop (i+1):=by simp[List.drop_eq_getElem_cons,hlt]
  have:=q h2 (by rw[show i+(n+1)=i+1+n by omega];exact i2) (b1.trans b2)
  rw[e,List.take_succ_cons] at this
  exact this
theorem unpack_lst {s:Shared}{l:Addr}{its:Array Value}{tg:List (Bool×(Value->Sem Unit))}{Q:Unit->Shared->Prop}(hh:A.handled=none)(hl:s.heap.IsList l its)(hn:tg.length=its.size)(hs:tg.findIdx? (·.1)=none)
 (k:∀h',Heap.ExtBut s.heap.objs.size s.heap h'->wpAny (model prog w) A (assignInOrder (tg.map (·.2)) its.toList) Q E { s with heap:=h' }):wpAny (model prog w) A (unpack (.ref l) tg) Q E s:=by
 have hlt:l≠s.heap.objs.size:=by obtain⟨o,ho,_⟩:=hl;exact Nat.ne_of_lt (Heap.lt_size ho)
 unfold unpack
 rw[hn,hs]
 refine wpAny_bind (wpAny_holding ?_)
 unfold unpackItems notIterableAtAll
 refine wpAny_bind (wpAny_bind (wpAny_specialOf hl.typeIs PySem.F.slot_list_iter.lookup (wpAny_pure ?_)))
 simp only[Bool.false_eq_true,if_false]
 refine wpAny_bind (wpAny_holding (wpAny_pyIter_list hl ?_))
 refine wpAny_bind (wpAny_holding (draw_lst hlt its.size 0 _ _ ⟨_,Heap.get?_push_size _ rfl,rfl,rfl⟩ (hl.push _) (by omega) fun h1 i1 b1=>?_))
 have e:List.take its.size (List.drop 0 its.toList)=its.toList:=by
  rw[List.drop_zero]
  exact List.take_of_length_le (by simp)
 rw[e,if_neg (by simp)]
 refine wpAny_bind (wpAny_holding (wpAny_pyNext_list_end hh i1 ((hl.push _).extBut b1.extBut hlt) (by simp) fun h2 b2=>?_))
 simp only[Option.isSome_none,Bool.false_eq_true,if_false]
 exact wpAny_pure (k h2 fun b o hb z=>b2 b o hb (b1.extBut b o hb (Heap.get?_push_of_some _ z)))
end
section
variable {X:Cx}{pos:Pos}
noncomputable def gLst (K:PySem.W.Frag)(n:Nat)(t:TGs):TG:=fun v σ H Q=>∃a xs,v = .ref a/\SqL K H a xs/\xs.length=n/\t xs σ H Q
theorem pg_lst {es:List Expr}{k:Nat}{t:TGs}{n:Nat}(hc:X.calm=true)(h:PGs X es t)(hn:(assignEach es X.env).length=n:=by rfl)(hst:(assignEach es X.env).findIdx? (·.1)=none:=by rfl):PG X (.Tuple es k pos) (gLst X.K n t):=by
 intro pins s σ H v u Q I r hw
 obtain⟨a,xs,e1,hq,hl,hw⟩:=hw
 subst e1
 cases r
 obtain⟨its,rv,ht,hz⟩:=I.list hq
 rw[PyProof.Rows.assign_Tuple]
 refine wpAny_bind (wpAny_standAt (unpack_lst (I.ok.hd hc) ht.isList (by simp[hn,<-hl,rv.length]) hst fun h' hx=>?_))
 have I1:Inv X pins σ H { s with heap:=h' }:=I.kept (t':=s.toks) fun b o e=>hx b o (Nat.ne_of_lt (Heap.lt_size e)) e
 exact h pins _ σ H xs _ Q I1 (by simpa using rv) hw
theorem call_strJ:CallR X (.type "str") (fun xs H Q=>∃i:Int,xs=[.int i]/\i.natAbs<1000000000000000/\Q (.str (Str.ofString (toString i))) H):=by
 intro pins s σ H xs us Q I r h
 obtain⟨i,rfl,hi,q⟩:=h
 obtain⟨u,rfl,rx⟩:=vals1 r
 obtain⟨t,rfl⟩:=rx
 exact str_of_int_fit (N:=1000000000000000) (by split <;> omega) (by decide) fun _=>⟨.str _,H,I.tok _,⟨_,rfl⟩,q⟩
noncomputable def rEqLS (K:PySem.W.Frag):R2:=fun x y H Q=>∃(a b:Addr)(zs ys:List Str),x = .ref a/\y = .ref b/\SqL K H a (zs.map V.str)/\SqL K H b (ys.map V.str)/\Q (.bl (decide (zs=ys))) H
theorem op_eqLS (hu:X.A.units<cLine):OpR X (compareOp .Eq) (rEqLS X.K):=by
 intro pins s σ H x y v u Q I rx ry h
 obtain⟨a,b,zs,ys,rfl,rfl,ha,hb,q⟩:=h
 cases rx
 cases ry
 obtain⟨its,r,pl,hz⟩:=I.list ha
 obtain⟨its2,r2,pl2,hz2⟩:=I.list hb
 have l1:=r.length
 have l2:=r2.length
 rw[List.length_map] at l1 l2
 by_cases hl:zs.length=ys.length
 . refine SeqAt.eq_listAt (e:=fun j=>zs.getD j Str.empty==ys.getD j Str.empty) pl.isList pl2.isList (by rw[List.size_toArray,List.size_toArray];omega) hu (fun j ja jb=>?_) ⟨.bl _,H,I,rfl,?_⟩
   . rw[List.size_toArray] at ja jb
     have h1:j<zs.length:=by omega
     have h2:j<ys.length:=by omega
     obtain⟨w1,hw1,t1,rw1⟩:=r.get (i:=j) (x:=.str zs[j]) (by simp[h1])
     obtain⟨w2,hw2,t2,rw2⟩:=r2.get (i:=j) (x:=.str ys[j]) (by simp[h2])
     subst rw1 rw2
     have g1:its.toArray[j]'(by rw[List.size_toArray];exact ja) = .str zs[j] t1:=by
      rw[List.getElem?_eq_getElem ja] at hw1
      simpa using Option.some.inj hw1
     have g2:its2.toArray[j]'(by rw[List.size_toArray];exact jb) = .str ys[j] t2:=by
      rw[List.getElem?_eq_getElem jb] at hw2
      simpa using Option.some.inj hw2
     rw[g1,g2]
     have e1:zs.getD j Str.empty=zs[j]:=by simp[List.getD,h1]
     have e2:ys.getD j Str.empty=ys[j]:=by simp[List.getD,h2]
     rw[e1,e2]
     exact SeqAt.EqAt.str_str _ _ _ _
   . have:((List.range its.toArray.size).all fun j=>zs.getD j Str.empty==ys.getD j Str.empty)=decide (zs=ys):=by
      rw[Bool.eq_iff_iff,List.all_eq_true,decide_eq_true_eq,List.size_toArray,<-l1]
      constructor
      . intro h
        refine List.ext_getElem hl fun j h1 h2=>?_
        have:=eq_of_beq (h j (List.mem_range.mpr h1))
        simpa [List.getD,h1,h2] using this
      . rintro rfl j _
        exact beq_self_eq_true _
     rw[this]
     exact q
 . refine SeqAt.eq_list_lengthsAt pl.isList pl2.isList (by rw[List.size_toArray,List.size_toArray,<-l1,<-l2];simpa using hl) hu ⟨.bl _,H,I,rfl,?_⟩
   rw[decide_eq_false (fun e=>hl (by rw[e]))] at q
   exact q
end
end L2
namespace DG
open PySem PySem.W PySem.W.KIN PySem.NumText PyProof.Rows
theorem toDig {ds:List Nat}(h:AllDigits ds)(hne:ds≠[])(hz:ds.head? = some 48->ds=[48]):(Nat.toDigits 10 (digitsVal ds)).map Char.toNat=ds:=by
 have key:∀(n:Nat)(ds:List Nat),ds.length=n->AllDigits ds->ds≠[]->(ds.head? = some 48->ds=[48])->(Nat.toDigits 10 (digitsVal ds)).map Char.toNat=ds/\(ds.head?≠some 48->0<digitsVal ds):=by
  intro n
  induction n with
  | zero=>intro ds hl _ hne;exact absurd (List.length_eq_zero_iff.mp hl) hne
  | succ n ih=>
   intro ds hl ha hne hz
   obtain⟨es,d,rfl⟩:∃es d,ds=es++[d]:=⟨ds.dropLast,ds.getLast hne,(List.dropLast_concat_getLast hne).symm⟩
   have hd:48<=d/\d<=57:=ha d (by simp)
   have hb:(Nat.digitChar (d-48)).toNat=d:=by
    have:∀k:Nat,k<10->(Nat.digitChar k).toNat=k+48:=by decide
    rw[this (d-48) (by omega)]
    omega
   by_cases he:es=[]
   . subst he
     have e1:digitsVal ([]++[d])=d-48:=by
      show 0*10+(d-48)=d-48
      omega
     rw[e1,Nat.toDigits_of_lt_base (by omega)]
     refine⟨?_,fun hh=>?_⟩
     . show [(Nat.digitChar (d-48)).toNat]=[d]
       rw[hb]
     . have:d≠48:=fun e=>hh (by rw[e];rfl)
       omega
   . have hh:(es++[d]).head? = es.head?:=by
      cases es with
      | nil=>exact absurd rfl he
      | cons a as=>rfl
     have hne48:es.head?≠some 48:=by
      intro e
      have:=hz (by rw[hh];exact e)
      cases es with
      | nil=>exact he rfl
      | cons a as=>
       have l:=congrArg List.length this
       simp at l
     obtain⟨i1,i2⟩:=ih es (by simpa using hl) (fun c hc=>ha c (by simp[hc])) he (fun e=>absurd e hne48)
     have pos:=i2 hne48
     rw[digitsVal_snoc]
     refine⟨?_,fun _=>by omega⟩
     have t:Nat.toDigits 10 (digitsVal es)++Nat.toDigits 10 (d-48)=Nat.toDigits 10 (10*digitsVal es+(d-48)):=Nat.toDigits_append_toDigits (by decide) (by omega) (by omega)
     rw[show digitsVal es*10+(d-48)=10*digitsVal es+(d-48) by omega,<-t,List.map_append,i1,Nat.toDigits_of_lt_base (by omega)]
     show es++[(Nat.digitChar (d-48)).toNat]=es++[d]
     rw[hb]
 exact (key _ ds rfl h hne hz).1
structure Dg (z:Str):Prop where
 all:AllDigits z.cps.toList
 ne:z.cps.toList≠[]
 lead:z.cps.toList.head? = some 48->z.cps.toList=[48]
noncomputable def dv (z:Str):Nat:=digitsVal z.cps.toList
theorem str_ext {a b:Str}(h:a.cps.toList=b.cps.toList):a=b:=by
 obtain⟨⟨x⟩⟩:=a
 obtain⟨⟨y⟩⟩:=b
 simp only at h
 rw[h]
theorem Dg.text {z:Str}(h:Dg z):z=Str.ofString (toString ((dv z:Nat):Int)):=by
 refine str_ext ?_
 rw[signs_num]
 exact (toDig h.all h.ne h.lead).symm
theorem dg_num (m:Nat):Dg (Str.ofString (toString ((m:Nat):Int))):=by
 have hd:AllDigits (Str.ofString (toString ((m:Nat):Int))).cps.toList:=by
  intro c hc
  rw[signs_num] at hc
  obtain⟨ch,hch,e⟩:=List.mem_map.mp hc
  have r:=digit_range (Nat.isDigit_of_mem_toDigits (by decide) (by decide) hch)
  rw[<-e]
  exact r
 have hne:(Str.ofString (toString ((m:Nat):Int))).cps.toList≠[]:=by
  rw[signs_num]
  intro e
  have h:=toDigits_len_ge 10 m
  rw[List.map_eq_nil_iff.mp e] at h
  exact absurd h (by decide)
 refine⟨hd,hne,?_⟩
 rw[signs_num]
 induction m using Nat.strongRecOn with
 | _ m ih=>
  intro hh
  by_cases h:m<10
  . rw[Nat.toDigits_of_lt_base h] at hh ⊢
    have:(Nat.digitChar m).toNat=48:=by simpa using hh
    show [(Nat.digitChar m).toNat]=[48]
    rw[this]
  . have hm:m%10<10:=Nat.mod_lt m (by decide)
    have t:Nat.toDigits 10 (m/10)++Nat.toDigits 10 (m%10)=Nat.toDigits 10 (10*(m/10)+m%10):=Nat.toDigits_append_toDigits (by decide) (by omega) hm
    rw[Nat.div_add_mod] at t
    have hq:((Nat.toDigits 10 (m/10)).map Char.toNat).head? = some 48:=by
     rw[<-t,List.map_append] at hh
     cases e:(Nat.toDigits 10 (m/10)).map Char.toNat with
     | nil=>
      have h:=toDigits_len_ge 10 (m/10)
      rw[List.map_eq_nil_iff.mp e] at h
      exact absurd h (by decide)
     | cons a as=>
      rw[e] at hh
      simpa using hh
    have i:=ih (m/10) (by omega) (by
     intro c hc
     rw[signs_num] at hc
     obtain⟨ch,hch,e⟩:=List.mem_map.mp hc
     have r:=digit_range (Nat.isDigit_of_mem_toDigits (by decide) (by decide) hch)
     rw[<-e]
     exact r) (by
     rw[signs_num]
     intro e
     have h:=toDigits_len_ge 10 (m/10)
     rw[List.map_eq_nil_iff.mp e] at h
     exact absurd h (by decide)) hq
    have v:=val_back (m/10)
    rw[i] at v
    have:digitsVal [48]=0:=rfl
    omega
theorem dv_num (m:Nat):dv (Str.ofString (toString ((m:Nat):Int)))=m:=by
 show digitsVal _=m
 rw[signs_num,val_back]
theorem Dg.reads {z:Str}(h:Dg z)(hl:z.length<=640):PySem.intText? z=some ((dv z:Nat):Int):=intText_digits h.all h.ne (Nat.le_trans hl (by decide))
theorem len_step {n:Nat}(h:¬ n<10):(Nat.toDigits 10 n).length=(Nat.toDigits 10 (n/10)).length+1:=by
 have hm:n%10<10:=Nat.mod_lt n (by decide)
 have t:Nat.toDigits 10 (n/10)++Nat.toDigits 10 (n%10)=Nat.toDigits 10 (10*(n/10)+n%10):=Nat.toDigits_append_toDigits (by decide) (by omega) hm
 rw[Nat.div_add_mod] at t
 rw[<-t,List.length_append,Nat.toDigits_of_lt_base hm]
 rfl
theorem len_mono:∀{m n:Nat},m<=n->(Nat.toDigits 10 m).length<=(Nat.toDigits 10 n).length:=by
 intro m n
 induction n using Nat.strongRecOn generalizing m with
 | _ n ih=>
  intro h
  have ih:∀k,k<n->∀{m:Nat},m<=k->(Nat.toDigits 10 m).length<=(Nat.toDigits 10 k).length:=fun k hk m hm=>ih k hk hm
  by_cases hn:n<10
  . rw[Nat.toDigits_of_lt_base hn,Nat.toDigits_of_lt_base (show m<10 by omega)]
    exact Nat.le_refl _
  . rw[len_step hn]
    by_cases hm:m<10
    . rw[Nat.toDigits_of_lt_base hm]
      show 1<=_
      omega
    . rw[len_step hm]
      have:=ih (n/10) (by omega) (show m/10<=n/10 by omega)
      omega
theorem len_num (m:Nat):(Str.ofString (toString ((m:Nat):Int))).length=(Nat.toDigits 10 m).length:=by
 show (Str.ofString (toString ((m:Nat):Int))).cps.size=_
 rw[<-Array.length_toList,signs_num,List.length_map]
theorem Dg.len {z:Str}(h:Dg z){M:Nat}(hm:dv z<=M):z.length<=(Str.ofString (toString ((M:Nat):Int))).length:=by
 rw[h.text,len_num,len_num]
 exact len_mono hm
noncomputable def numB (z:Str)(lo hi:Int):Option Int:=open Classical in if Dg z/\lo<=(dv z:Int)/\(dv z:Int)<=hi then some (dv z:Int) else none
theorem numB_some {z:Str}{lo hi k:Int}(h0:0<=lo):numB z lo hi=some k↔lo<=k/\k<=hi/\z=Str.ofString (toString k):=by
 unfold numB
 constructor
 . intro h
   split at h
   . rename_i c
     cases h
     exact⟨c.2.1,c.2.2,c.1.text⟩
   . cases h
 . rintro ⟨h1,h2,rfl⟩
   obtain⟨m,rfl⟩:=Int.eq_ofNat_of_zero_le (show 0<=k by omega)
   have e:=dv_num m
   have:Dg (Str.ofString (toString ((m:Nat):Int)))/\lo<=(dv (Str.ofString (toString ((m:Nat):Int))):Int)/\(dv (Str.ofString (toString ((m:Nat):Int))):Int)<=hi:=⟨dg_num m,by rw[e];exact h1,by rw[e];exact h2⟩
   rw[if_pos this,e]
end DG
namespace DG
open PySem PySem.StrLaws Builtin Builtin.Str
theorem cut_one {c:Nat}:∀{p p' r r':List Nat},c∉p->c∉p'->p++c::r=p'++c::r'->p=p'/\r=r'
 | [],[],_,_,_,_,h=>⟨rfl,by simpa using h⟩
 | [],a::p',_,_,_,h2,h=>by
  have e:c=a:=by simpa using (List.cons.inj h).1
  exact absurd (by rw[e];simp) h2
 | a::p,[],_,_,h1,_,h=>by
  have e:a=c:=by simpa using (List.cons.inj h).1
  exact absurd (by rw[e];simp) h1
 | a::p,b::p',r,r',h1,h2,h=>by
  obtain⟨e,h'⟩:=List.cons.inj (show a::(p++c::r)=b::(p'++c::r') from h)
  obtain⟨e1,e2⟩:=cut_one (fun z=>h1 (by simp[z])) (fun z=>h2 (by simp[z])) h'
  exact⟨by rw[e,e1],e2⟩
theorem join_cps {c:Nat}{p q:Str}{r:List Str}:(Str.join ⟨#[c]⟩ (p::q::r)).cps.toList=p.cps.toList++c::(Str.join ⟨#[c]⟩ (q::r)).cps.toList:=by
 show (p++(⟨#[c]⟩:Str)++Str.join ⟨#[c]⟩ (q::r)).cps.toList=_
 simp only[Str.cps_append,Array.toList_append]
 simp
theorem join_uniq {c:Nat}:∀{ws vs:List Str},ws≠[]->vs≠[]->(∀w∈ws,c∉w.cps.toList)->(∀w∈vs,c∉w.cps.toList)->Str.join ⟨#[c]⟩ ws=Str.join ⟨#[c]⟩ vs->ws=vs
 | [],_,h,_,_,_,_=>absurd rfl h
 | _,[],_,h,_,_,_=>absurd rfl h
 | [p],[q],_,_,_,_,e=>by rw[show p=q from e]
 | [p],q::q2::r,_,_,f1,_,e=>by
  have e:=congrArg (fun z:Str=>z.cps.toList) e
  simp only[join_cps] at e
  have e:p.cps.toList=q.cps.toList++c::(Str.join ⟨#[c]⟩ (q2::r)).cps.toList:=e
  exact absurd (by rw[e];simp) (f1 p (by simp))
 | p::p2::r,[q],_,_,_,f2,e=>by
  have e:=congrArg (fun z:Str=>z.cps.toList) e
  simp only[join_cps] at e
  have e:p.cps.toList++c::(Str.join ⟨#[c]⟩ (p2::r)).cps.toList=q.cps.toList:=e
  exact absurd (by rw[<-e];simp) (f2 q (by simp))
 | p::p2::r,q::q2::r2,_,_,f1,f2,e=>by
  have e:=congrArg (fun z:Str=>z.cps.toList) e
  simp only[join_cps] at e
  obtain⟨e1,e2⟩:=cut_one (f1 p (by simp)) (f2 q (by simp)) e
  rw[str_ext e1,join_uniq (by simp) (by simp) (fun w hw=>f1 w (by simp[List.mem_cons.mp hw])) (fun w hw=>f2 w (by simp[List.mem_cons.mp hw])) (str_ext e2)]
theorem split_join {c:Nat}{ws:List Str}(hn:ws≠[])(hf:∀w∈ws,c∉w.cps.toList):Txt.split (Str.join ⟨#[c]⟩ ws) ⟨#[c]⟩=ws:=by
 refine join_uniq (c:=c) ?_ hn (fun w hw=>split_free _ c w hw) hf (join_split _ _)
 intro e
 have:=(PyProof.Rows.fact_split (Str.join ⟨#[c]⟩ ws) ⟨#[c]⟩).1
 rw[e] at this
 exact absurd this (by decide)
end DG
namespace L2
open PySem PySem.Spec PyProof.Rows
theorem draws_shift {prog:Program}{w:World}{A:Around}{it:Addr}{fp:List Addr}{n:Nat}{P:Nat->Value->Prop}{St:Nat->Heap->Prop}(c:Nat)(D:Draws prog w A it fp n P St) :
 Draws prog w A it fp (n+c) (fun j v=>∀i,j=i+c->P i v) (fun j h=>∃i,j=i+c/\St i h) where
 live:=fun _ h ⟨i,_,st⟩=>D.live i h st
 frame:=fun _ h h' ⟨i,e,st⟩ k=>⟨i,e,D.frame i h h' st k⟩
 item:=fun j s Q E hj ⟨i,e,st⟩ hQ=>D.item i s Q E (by omega) st fun x h' tk p st' sb=>hQ x h' tk (fun i' e'=>by obtain rfl:i'=i:=(by omega);exact p) ⟨i+1,by omega,st'⟩ sb
 done:=fun s Q E ⟨i,e,st⟩ hE=>D.done s Q E (by obtain rfl:i=n:=(by omega);exact st) hE
noncomputable def ItnK (c:Nat)(K:PySem.W.Frag)(a:Addr):It:=
 ⟨fun i H=>∃xs x,SqL K H a xs/\xs[i]? = some x,fun i H x H'=>∃T v,x = .ref T/\H T=none/\H'=upd H T (.tup [.int ((i+c:Nat):Int),v])/\∀xs,SqL K H a xs->xs[i]? = some v,fun i H=>∃xs,SqL K H a xs/\xs.length<=i⟩
theorem turn_enumK {c:Nat}{P:Program}{w:World}{K:PySem.W.Frag}{elts:List Expr} {x1} {tp:Pos}(a e it:Addr):Turn P w K (.Tuple elts x1 tp) (ItnK c K a) [e,it] e (fun i h=>(∃old,IsEnum h e it ((i+c:Nat):Int) old)/\h.IsListIter it a i/\e≠it/\a≠it/\a≠e) where
 mem:=by simp
 obj:=fun i h st b hb=>by
  obtain⟨⟨old,he⟩,⟨o,e1,c',d⟩,_⟩:=st
  rcases List.mem_cons.mp hb with rfl | hb
  . exact⟨_,he,fun v z=>by cases z⟩
  . have e2:b=it:=by simpa using hb
    subst e2
    exact⟨o,e1,fun v z=>by rw[d] at z;cases z⟩
 keep:=fun i h h' st k=>by
  obtain⟨⟨old,he⟩,⟨o,e1,r⟩,ne⟩:=st
  exact⟨⟨old,k e (by simp) _ he⟩,⟨o,k it (by simp) o e1,r⟩,ne⟩
 item:=by
  intro X hP hw hK hc i pins s σ H E I hf st hg
  subst hP hw hK
  obtain⟨⟨old,he⟩,hit,ne,nai,nae⟩:=st
  obtain⟨xs,x,hq,hx⟩:=hg
  obtain⟨its,rv,p,hz⟩:=I.list hq
  obtain⟨u,hu,ru⟩:=rv.get hx
  have elt:e<s.heap.objs.size:=Heap.lt_size he
  have ilt:it<s.heap.objs.size:=by obtain⟨_,q,_⟩:=id hit;exact Heap.lt_size q
  have hlt:i<its.toArray.size:=by
   have:=(List.getElem?_eq_some_iff.mp hu).1
   simpa using this
  refine wpAny_pyNext_enum_itemD (draws_shift c (Draws.list (A:=X.A.in1) (I.ok.hd hc) it a nai its.toArray)) he ⟨i,rfl,hit,p.isList⟩ (by omega) ne (by simp;exact⟨ne,fun z=>nae z.symm⟩) fun y h' tk hy heo hst' hT hsz hk=>?_
  have hyu:y=u:=by
   have h1:its[i]? = some y:=by simpa using hy i rfl
   rw[hu] at h1
   exact (Option.some.inj h1).symm
  subst hyu
  refine⟨_,rfl,wpAny_letOwnedTupleGo_enum heo fun h2 he2 hs2=>?_⟩
  have hT2:h2.get? s.heap.objs.size=some { cls:=.type "tuple",data:=.seq #[.int ((i+c:Nat):Int) tk,y] }:=(hs2.2 _ (Nat.ne_of_gt elt)).trans hT
  refine⟨.ref s.heap.objs.size,upd H s.heap.objs.size (.tup [.int ((i+c:Nat):Int),x]),I.turnedLaid (t':=tk+1) (fp:=[e,it]) hf (fun b o hb q=>?_) (Nat.le_refl _) ?_,rfl,⟨_,x,rfl,I.hok.fresh (Nat.le_refl _),rfl,fun zs hzs=>by rw[I.list_inj hzs hq];exact hx⟩,⟨⟨y,?_⟩,?_,ne,nai,nae⟩,fun b hb=>?_⟩
  . exact (hs2.2 b fun z=>hb (by simp[z])).trans (hk b o (fun z=>hb (by simp[z])) (fun z=>hb (by simp[z])) q)
  . exact⟨⟨by show 2<=sizeLine;decide,_,hT2,rfl⟩,[.int ((i+c:Nat):Int) tk,y],.cons ⟨_,rfl⟩ (.cons ru .nil),⟨_,hT2,rfl,_,rfl⟩⟩
  . have:=he2
    rwa [show ((i+c:Nat):Int)+1=((i+1+c:Nat):Int) by omega] at this
  . obtain⟨i',e',⟨o,ho,r⟩,_⟩:=hst'
    obtain rfl:i'=i+1:=by omega
    exact⟨o,(hs2.2 it (Ne.symm ne)).trans ho,r⟩
  . rcases List.mem_cons.mp hb with rfl | hb
    . rw[upd_ne (Nat.ne_of_lt elt)];exact (hf _ (by simp)).1
    . have e2:b=it:=by simpa using hb
      subst e2
      rw[upd_ne (Nat.ne_of_lt ilt)];exact (hf _ (by simp)).1
 done:=by
  intro X hP hw hK hc i pins s σ H E I hf st hg
  subst hP hw hK
  obtain⟨⟨old,he⟩,hit,ne,nai,nae⟩:=st
  obtain⟨xs,hq,hx⟩:=hg
  obtain⟨its,rv,p,hz⟩:=I.list hq
  obtain⟨f0,f1,f2,f3,f4,f5⟩:=hf it (by simp)
  have hl:=rv.length
  unfold pyNext
  have hT:s.TypeIs (.ref e) "enumerate" := ⟨_,he,rfl⟩
  refine wpAny_bind (wpAny_attempt (wpAny_callSpecial?_slot (name:=Str.ofString "__next__") hT PySem.F.slot_enumerate_next (wpAny_call_entry PySem.F.slot_enumerate_next hT PySem.F.entry_enumerate_next ?_ (PySem.F.args_enumerate_next_1 _))))
  show wpAny (model X.prog X.w) _ (field (.ref e) 2 >>= _) _ _ s;refine wpAny_bind (wpAny_field he rfl (x:=.ref it) rfl ?_)
  refine wpAny_bind (wpAny_nextOf_list_end (A:=X.A.in1) (I.ok.hd hc) hit p.isList (by simp;omega) fun h' z eb hz'=>?_)
  obtain⟨o,ho,hcl⟩:=hz'
  refine wpAny_bind (wpAny_isInstance (T := "StopIteration") (b:=true) ⟨o,ho,hcl⟩ isSubtype_stop (wpAny_pure ?_))
  exact⟨rfl,I.turned (t':=s.toks) (fun b o hb e=>eb b o hb e) f0 f1 f3 f4 f5⟩
 self:=fun _ _ _ _ _ st h=>by
  obtain⟨⟨old,he⟩,_⟩:=st
  exact wpAny_pyIter_enum he h
end L2
namespace L2
open PySem PySem.Spec PyProof.Rows
open AutoSeq1 (wpAny_loadPart')
theorem enum_start (l:Addr)(items:Array Value)(n:Nat)(dct:Option Addr)(sl:Array (Option Value))(t:Tok) :
 Meets (Builtin.«enumerate.__new__» ⟨[.type "enumerate",.ref l],[(Str.ofString "start",.int 1 t)]⟩) (fun _ R s=>s.heap.get? l=some { cls:=.type "list",dict:=dct,data:=.seq items n,slots:=sl } /\
  R (.ok (.ret (.ref (s.heap.push { cls:=.type "list_iterator",data:=.fields #[.ref l,.int 0 0] }).objs.size)))
   { s with heap:=(s.heap.push { cls:=.type "list_iterator",data:=.fields #[.ref l,.int 0 0] }).push { cls:=.type "enumerate",data:=.fields #[.none,.bool false,.ref s.heap.objs.size,rawInt 1,.none,.none] } }):=
 .of_wp fun prog w A R s h=>by
  obtain⟨hp,g,d,tk,os⟩:=s;obtain⟨hl,h⟩:=h
  have hsub:=sub_enumerate
  have hL:Heap.IsList (Shared.heap ⟨hp,g,d,tk,os⟩) l items:=⟨_,hl,rfl,n,rfl⟩
  wp_walk using wpAny_loadPart' hl
  refine wpAny_stack_any fun st=>wpAny_pure ?_
  split
  . rename_i c _ _ _ _ _
    cases (c==Value.type "enumerate") <;> (wp_walk using wpAny_loadPart' hl,wpAny_pyIter_list hL;exact⟨_,rfl,h⟩)
  . wp_walk using wpAny_loadPart' hl,wpAny_pyIter_list hL
    exact⟨_,rfl,h⟩
theorem tc_enumK (a v:Value):checkTypeCall "enumerate" ⟨[a],[(Str.ofString "start",v)]⟩=pure ():=by kernel_rfl
theorem nc_enumK (a v:Value):checkBuiltinCall "enumerate.__new__" ⟨[.type "enumerate",a],[(Str.ofString "start",v)]⟩=pure ():=by kernel_rfl
theorem ao_enumK (o a v:Value):argsOk "object.__init__" ⟨[o,a],[(Str.ofString "start",v)]⟩:=by unfold argsOk;kernel_rfl
theorem oi_enumK (o a v:Value):Meets (Builtin.«object.__init__» ⟨[o,a],[(Str.ofString "start",v)]⟩) (fun _ R s=>s.TypeIs o "enumerate" /\ R (.ok (.ret .none)) s):=by
 refine Meets.of_wp fun prog w A R s hs=>?_
 obtain⟨hT,hq⟩:=hs
 have hl:=F.called_enumerate.init.lookup
 have hm:=F.called_enumerate.made
 repeat (any_goals (first | assumption | wp_step))
 exact⟨_,rfl,hq⟩
theorem call_enumK {prog:Program}{w:World}{A:Around}{E:Value->Shared->Prop}{s:Shared}{l:Addr}{items:Array Value}{t:Tok}{Q:Value->Shared->Prop}(hL:s.heap.IsList l items)
 (h:∀h',IsEnum h' (s.heap.objs.size+1) s.heap.objs.size 1 .none->h'.IsListIter s.heap.objs.size l 0->(∀b o,s.heap.get? b=some o->h'.get? b=some o)->Q (.ref (s.heap.objs.size+1)) { s with heap:=h' }) :
 wpAny (model prog w) A (call (.type "enumerate") [.ref l] [(Str.ofString "start",.int 1 t)]) Q E s:=by
 obtain⟨⟨c,dct,dt,sl⟩,ho,hc,n,hd⟩:=hL
 obtain rfl:c = .type "list" := hc
 obtain rfl:dt = .seq items n:=hd
 have ft:=F.called_enumerate
 obtain⟨c,tl,hmro⟩:=ft.mro
 have hmade:=ft.made
 have hsub:=ft.sub
 have hct:=tc_enumK (.ref l) (.int 1 t)
 refine wpAny_call (codeAny_of_tree ?_)
 show wpAny _ _ (callAny (.type "enumerate") _) _ _ _
 refine wpAny_pure ⟨Code.quiet_builtin _ (by decide +kernel),codeAny_builtin F.entry_type_call ?_⟩
 rw[Around.under_plain (weight_type_call_type "enumerate" _ _) (units_type_call_type "enumerate" _ _)]
 have h1:=ft.notType
 have h2:=ft.canCreate
 repeat (any_goals (first | assumption | wp_step))
 have hz:(s.heap.push { cls:=.type "list_iterator",data:=.fields #[.ref l,.int 0 0] }).objs.size=s.heap.objs.size+1:=Heap.size_push ..
 have he:IsEnum ((s.heap.push { cls:=.type "list_iterator",data:=.fields #[.ref l,.int 0 0] }).push { cls:=.type "enumerate",data:=.fields #[.none,.bool false,.ref s.heap.objs.size,rawInt 1,.none,.none] }) (s.heap.objs.size+1) s.heap.objs.size 1 .none:=by
  have g:=Heap.get?_push_size (s.heap.push { cls:=.type "list_iterator",data:=.fields #[.ref l,.int 0 0] }) (o:={ cls:=.type "enumerate",data:=.fields #[.none,.bool false,.ref s.heap.objs.size,rawInt 1,.none,.none] }) rfl
  rwa [hz] at g
 have first:wants (fun obj s₁=>s₁.TypeIs obj "enumerate" /\ Q obj s₁) E (.ok (.ret (.ref (s.heap.push { cls:=.type "list_iterator",data:=.fields #[.ref l,.int 0 0] }).objs.size)))
  { s with heap:=(s.heap.push { cls:=.type "list_iterator",data:=.fields #[.ref l,.int 0 0] }).push { cls:=.type "enumerate",data:=.fields #[.none,.bool false,.ref s.heap.objs.size,rawInt 1,.none,.none] } }:=by
  show _/\_
  rw[hz]
  exact⟨⟨_,he,rfl⟩,h _ he ⟨_,Heap.get?_push_of_some _ (Heap.get?_push_size _ rfl),rfl,rfl⟩ fun b o x=>Heap.get?_push_of_some _ (Heap.get?_push_of_some _ x)⟩
 refine codeAny_mono (codeAny_call_builtin ft.plain F.entry_enumerate_new (PySem.wpAny_of_eq (nc_enumK _ _) (enum_start l items n dct sl t prog w A.in1 _ s ⟨ho,first⟩))) fun r s₁ hr=>?_
 cases r with
 | error e=>exact hr
 | ok fl=>
  cases fl with
  | ret obj=>
   have hli:=ft.init.lookup
   have hbi:=ft.init.bind obj
   have hT:s₁.TypeIs obj "enumerate" := hr.1
   repeat (any_goals (first | assumption | wp_step))
   refine codeAny_mono (codeAny_call_builtin ft.init.plain F.entry_object_init (ft.init.check _ _ _ _ _ _ _ _ hT (ao_enumK _ _ _) (oi_enumK obj _ _ prog w A.in1 (wants (fun r s₂=>r = .none/\Q obj s₂) E) s₁ ⟨hT,rfl,hr.2⟩))) fun r₂ s₂ hr₂=>?_
   cases r₂ with
   | error e=>exact hr₂
   | ok fl₂=>
    cases fl₂ with
    | ret r=>
     obtain⟨rfl,hq⟩:=hr₂
     repeat (any_goals (first | assumption | wp_step))
    | _=>exact hr₂.elim
  | _=>exact hr.elim
end L2
namespace L2
open PySem PySem.Spec PyProof.Rows
theorem callT_kw {M:Model}{A:Around}{E:Value->Shared->Prop}{s:Shared}{pos:Pos}{T:String}{args:List (Bool×Sem Value)}{keywords:List (Option Str×Sem Value)}{Q:Value->Shared->Prop}
 (hp:args.any (·.1)=false)(hk:keywords.any (·.1.isNone)=false)
 (h:wpAny M A (evalArgs (.type T) true args keywords) (fun a s₁=>wpAny M A (call (.type T) ([]++a.pos) a.kw) Q E s₁) E s):wpAny M A (callWith pos (.type T) [] args keywords) Q E s:=by
 unfold callWith
 refine wpAny_bind (wpAny_holding (thn h fun a s₁ h₁=>wpAny_bind (wpAny_standAt ?_)))
 simp only[hp,hk,Bool.or_false]
 refine wpAny_bind (wpAny_pure ?_)
 exact wpAny_bind (thn h₁ fun r s₂ hr=>wpAny_bind (wpAny_holding (wpAny_point (wpAny_pure hr))))
section
variable {X:Cx}
noncomputable def iEnumK (c:Nat)(K:PySem.W.Frag)(ta:TA):TI:=fun σ H R=>ta σ H fun vs H1=>∃a,vs=[.ref a]/\(∃xs,SqL K H1 a xs)/\R (ItnK c K a) H1
theorem pi_enumK {elts:List Expr} {x1} {tp:Pos}{a:Expr}{ta:TA}{p pos kp cp:Pos} {ck} (hg:Gl X "enumerate") (hm:X.mg "enumerate" = none) (ha:PA X [a] ta)
 (hs1:backTo pos (starEach [a] X.env)=(false,eval a X.env)::backTo pos (starEach [] X.env):=by rfl)(hs2:(backTo pos (starEach [a] X.env)).any (·.1)=false:=by rfl) :
 PI X (.Tuple elts x1 tp) (.Call (.Name "enumerate" p) [a] [⟨some "start",.Constant (.int 1) ck cp,kp⟩] pos) (iEnumK 1 X.K ta):=by
 intro pins s σ H R I h
 refine wpAny_Call_Name_kw (ld_blt I hg hm boot_enumerate ?_)
 refine callT_kw hs2 rfl ?_
 rw[hs1]
 refine evalArgs_kwB rfl ?_
 rw[<-hs1]
 refine thn (ha pos pins s σ H _ I h) fun us s1 ⟨vs,H1,I1,r1,q1⟩=>?_
 obtain⟨l,e,⟨xs,hq⟩,q⟩:=q1
 subst e
 obtain⟨u,rfl,rx⟩:=vals1 r1
 cases rx
 refine kws_cons (wpAny_Constant_int (kws_nil ?_))
 have I2:Inv X pins σ H1 { s1 with toks:=s1.toks+1 }:=I1.tok _
 obtain⟨its,rv,pl,hz⟩:=I2.list hq
 refine call_enumK pl.isList fun h' he hit hk=>?_
 refine wpAny_pyIter_enum he ?_
 have pl':=pl
 obtain⟨ol,nl,el,_⟩:=pl'
 have ll:l<s1.heap.objs.size:=Heap.lt_size el
 refine⟨s1.heap.objs.size+1,[s1.heap.objs.size+1,s1.heap.objs.size],_,_,H1,rfl,I2.kept (t':=s1.toks+1) hk,turn_enumK (c:=1) l _ _,⟨⟨_,he⟩,hit,Nat.succ_ne_self _,Nat.ne_of_lt ll,Nat.ne_of_lt (Nat.lt_succ_of_lt ll)⟩,fun b hb=>?_,q⟩
 rcases List.mem_cons.mp hb with rfl | hb
 . exact I2.fpOk (Nat.le_succ _) (I2.hok.fresh (Nat.le_succ _))
 . have e2:b=s1.heap.objs.size:=by simpa using hb
   subst e2
   exact I2.fpOk (Nat.le_refl _) (I2.hok.fresh (Nat.le_refl _))
end
theorem for_enumK {K:PySem.W.Frag}{c:Nat}{a:Addr}{xs:List V}{g:TG}{tb:TS}{D:Ends}{σ:St}{H:Hp}(Pv:Nat->St->Hp->Prop)(h0:Pv 0 σ H)(hl:∀i σ H,i<=xs.length->Pv i σ H->SqL K H a xs)
 (hs:∀i x σ H T,xs[i]? = some x->Pv i σ H->H T=none->g (.ref T) σ (upd H T (.tup [.int ((i+c:Nat):Int),x])) fun σ2 H2=>tb { D with nx:=Pv (i+1),ct:=Pv (i+1),bk:=D.nx } σ2 H2)(hd:∀ σ H,Pv xs.length σ H->D.nx σ H) :
 ∃W:Nat->Nat->St->Hp->Prop,(∃m,W 0 m σ H)/\∀i m σ H,W i m σ H ->
  ((ItnK c K a).stop i H/\D.nx σ H)\/((ItnK c K a).go i H/\∃N:St->Hp->Prop,(∀ σ' H',N σ' H'->∃m',m'<m/\W (i+1) m' σ' H')/\∀x H',(ItnK c K a).yld i H x H'->g x σ H' fun σ2 H2=>tb { D with nx:=N,ct:=N,bk:=D.nx } σ2 H2):=by
 refine⟨fun i m σ H=>i<=xs.length/\m=xs.length-i/\Pv i σ H,⟨_,Nat.zero_le _,rfl,h0⟩,fun i m σ H h=>?_⟩
 obtain⟨hi,rfl,hp⟩:=h
 have q:=hl i σ H hi hp
 by_cases hlt:i<xs.length
 . refine .inr ⟨⟨xs,xs[i],q,List.getElem?_eq_getElem hlt⟩,Pv (i+1),fun σ' H' p'=>⟨xs.length-(i+1),by omega,hlt,rfl,p'⟩,fun x H' y=>?_⟩
   obtain⟨T,v,rfl,hT,rfl,hv⟩:=y
   exact hs i v σ H T (hv xs q) hp hT
 . have e:i=xs.length:=by omega
   subst e
   exact .inl ⟨⟨xs,q,Nat.le_refl _⟩,hd σ H hp⟩
end L2
namespace L2
open PySem PySem.Spec PyProof.Rows
section
variable {X:Cx}{a b:Expr}{rest:List Expr}{pos:Pos}{ta tb:TE}
end
end L2
namespace L2
open PySem PySem.Spec PyProof.Rows
open PySem.AutoSeq1 (wpAny_loadPart')
noncomputable def ItzL (K:PySem.W.Frag)(a b:Addr):It:=
 ⟨fun i H=>∃xs ys x y,SqL K H a xs/\SqL K H b ys/\xs[i]? = some x/\ys[i]? = some y,fun i H x H'=>∃T u v,x = .ref T/\H T=none/\H'=upd H T (.tup [u,v])/\(∀xs,SqL K H a xs->xs[i]? = some u)/\∀ys,SqL K H b ys->ys[i]? = some v,fun i H=>∃xs,SqL K H a xs/\xs.length<=i⟩
theorem turn_zipL {P:Program}{w:World}{K:PySem.W.Frag}{elts:List Expr} {x1} {tp:Pos}(a b zp tI tO i1 i2:Addr)(o1:i1<i2)(o2:i2<tI)(o3:tI<tO)(o4:tO<zp)(oa:a<i1)(ob:b<i1) :
 Turn P w K (.Tuple elts x1 tp) (ItzL K a b) [zp,tI,tO,i1,i2] zp (fun i h=>IsZip h zp tI tO .none/\IsPair h tI (.ref i1) (.ref i2)/\(∃u v,IsPair h tO u v)/\h.IsListIter i1 a i/\h.IsListIter i2 b i) where
 mem:=by simp
 obj:=fun i h st c hc=>by
  obtain⟨gz,hI,⟨u,v,hO⟩,⟨p1,e1,c1,d1⟩,⟨p2,e2,c2,d2⟩⟩:=st
  simp only[List.mem_cons,List.not_mem_nil,or_false] at hc
  rcases hc with rfl | rfl | rfl | rfl | rfl
  . exact⟨_,gz,fun v zp=>by cases zp⟩
  . exact⟨_,hI,fun v zp=>by cases zp⟩
  . exact⟨_,hO,fun v zp=>by cases zp⟩
  . exact⟨p1,e1,fun v zp=>by rw[d1] at zp;cases zp⟩
  . exact⟨p2,e2,fun v zp=>by rw[d2] at zp;cases zp⟩
 keep:=fun i h h' st k=>by
  obtain⟨gz,hI,⟨u,v,hO⟩,⟨p1,e1,r1⟩,⟨p2,e2,r2⟩⟩:=st
  exact⟨k zp (by simp) _ gz,k tI (by simp) _ hI,⟨u,v,k tO (by simp) _ hO⟩,⟨p1,k i1 (by simp) _ e1,r1⟩,⟨p2,k i2 (by simp) _ e2,r2⟩⟩
 item:=by
  intro X hP hw hK hc i pins s σ H E I hf st hg
  subst hP hw hK
  obtain⟨gz,hI,⟨u0,v0,hO⟩,h1,h2⟩:=st
  obtain⟨xs,ys,x,y,hq1,hq2,hx,hy⟩:=hg
  obtain⟨its1,rv1,p1,hz1⟩:=I.list hq1
  obtain⟨its2,rv2,p2,hz2⟩:=I.list hq2
  obtain⟨u1,hu1,ru1⟩:=rv1.get hx
  obtain⟨u2,hu2,ru2⟩:=rv2.get hy
  have zlt:zp<s.heap.objs.size:=Heap.lt_size gz
  have Z:=apart_tups o1 o2 o3 o4 oa ob
  have lt1:i<its1.toArray.size:=by simpa using (List.getElem?_eq_some_iff.mp hu1).1
  have lt2:i<its2.toArray.size:=by simpa using (List.getElem?_eq_some_iff.mp hu2).1
  have hT:s.TypeIs (.ref zp) "zip" := ⟨_,gz,rfl⟩
  unfold pyNext
  refine wpAny_bind (wpAny_attempt (wpAny_callSpecial?_slot (name:=Str.ofString "__next__") hT PySem.F.slot_zip_next (wpAny_call_entry PySem.F.slot_zip_next hT PySem.F.entry_zip_next
   (zipD_item (Draws.list (A:=X.A.in1) (I.ok.hd hc) i1 a (Nat.ne_of_lt oa) its1.toArray) (Draws.list (A:=X.A.in1) (I.ok.hd hc) i2 b (Nat.ne_of_lt (Nat.lt_trans ob o1)) its2.toArray) Z gz hI hO ⟨h1,p1.isList⟩ ⟨h2,p2.isList⟩ lt1 lt2 fun y1 y2 h' tk hy1 hy2 z' hO' s1' s2' hT' hsz hk=>wpAny_pure ?_) (PySem.F.args_zip_next_1 _))))
  obtain rfl:y1=u1:=by
   have h1:its1[i]? = some y1:=by simpa using hy1
   rw[hu1] at h1;exact (Option.some.inj h1).symm
  obtain rfl:y2=u2:=by
   have h1:its2[i]? = some y2:=by simpa using hy2
   rw[hu2] at h1;exact (Option.some.inj h1).symm
  refine⟨_,rfl,wpAny_letOwnedTupleGo_zip z' fun h2' z2 e2=>?_⟩
  have hT2:IsPair h2' s.heap.objs.size y1 y2:=e2.extBut _ _ (Nat.ne_of_gt zlt) hT'
  have fpl:∀c∈[zp,tI,tO,i1,i2],c<s.heap.objs.size:=fun c hc=>by
   simp only[List.mem_cons,List.not_mem_nil,or_false] at hc
   have t1:=Nat.lt_trans o4 zlt
   have t2:=Nat.lt_trans o3 t1
   have t3:=Nat.lt_trans o2 t2
   rcases hc with rfl | rfl | rfl | rfl | rfl
   . exact zlt
   . exact t2
   . exact t1
   . exact Nat.lt_trans o1 t3
   . exact t3
  refine⟨.ref s.heap.objs.size,upd H s.heap.objs.size (.tup [x,y]),I.turnedLaid (t':=tk) (fp:=[zp,tI,tO,i1,i2]) hf (fun c o hb q=>?_) (Nat.le_refl _) ?_,rfl,⟨_,x,y,rfl,I.hok.fresh (Nat.le_refl _),rfl,fun zs hzs=>by rw[I.list_inj hzs hq1];exact hx,fun zs hzs=>by rw[I.list_inj hzs hq2];exact hy⟩,⟨z2,?_,⟨_,_,e2.extBut _ _ Z.zTO hO'⟩,?_,?_⟩,fun c hc=>?_⟩
  . exact e2.extBut _ _ (fun w=>hb (by simp[w])) (hk c o (fun w=>hb (by simp[w])) (fun w=>hb (by simp[w])) (fun w=>hb (by simp[w])) (fun w=>hb (by simp[w])) q)
  . exact⟨⟨by show 2<=sizeLine;decide,_,hT2,rfl⟩,[y1,y2],.cons ru1 (.cons ru2 .nil),⟨_,hT2,rfl,_,rfl⟩⟩
  . exact e2.extBut _ _ Z.zTI (hk _ _ Z.zTI Z.IO Z.I1 Z.I2 hI)
  . obtain⟨⟨o,ho,r⟩,_⟩:=s1'
    exact⟨o,e2.extBut _ _ Z.z1 ho,r⟩
  . obtain⟨⟨o,ho,r⟩,_⟩:=s2'
    exact⟨o,e2.extBut _ _ Z.z2 ho,r⟩
  . rw[upd_ne (Nat.ne_of_lt (fpl c hc))];exact (hf _ hc).1
 done:=by
  intro X hP hw hK hc i pins s σ H E I hf st hg
  subst hP hw hK
  obtain⟨gz,hI,⟨u0,v0,hO⟩,h1,h2⟩:=st
  obtain⟨xs,hq,hx⟩:=hg
  obtain⟨its,rv,p,_⟩:=I.list hq
  have hl:=rv.length
  have Z:=apart_tups o1 o2 o3 o4 oa ob
  have hT:s.TypeIs (.ref zp) "zip" := ⟨_,gz,rfl⟩
  have f1:=hf zp (by simp)
  have f2:=hf i1 (by simp)
  unfold pyNext
  refine wpAny_bind (wpAny_attempt (wpAny_callSpecial?_slot (name:=Str.ofString "__next__") hT PySem.F.slot_zip_next (wpAny_call_entry PySem.F.slot_zip_next hT PySem.F.entry_zip_next
   (zipD_end (A:=X.A.in1) (St:=fun h=>h.IsListIter i1 a i/\h.IsList a its.toArray) (fun h h' st k=>by
    obtain⟨⟨o,ho,r⟩,o2,ho2,r2⟩:=st
    exact⟨⟨o,k i1 (by simp) o ho,r⟩,o2,k a (by simp) o2 ho2,r2⟩) (fun s Q E st qe=>wpAny_nextOf_list_end (I.ok.hd hc) st.1 st.2 (by simp;omega) qe) Z gz hI hO ⟨h1,p.isList⟩ fun h' e hk he=>?_) (PySem.F.args_zip_next_1 _))))
  obtain⟨o,ho,hcl⟩:=he
  refine wpAny_bind (wpAny_isInstance (T := "StopIteration") (b:=true) ⟨o,ho,hcl⟩ isSubtype_stop (wpAny_pure ?_))
  exact⟨rfl,I.turnedFp (t':=s.toks) (fp:=[zp,tI,tO,i1,i2]) hf fun c u hb q=>hk c u (fun w=>hb (by simp[w])) (fun w=>hb (by simp[w])) q⟩
 self:=fun _ _ _ _ _ st h=>wpAny_pyIter_zip st.1 h
section
variable {X:Cx}
noncomputable def iZipL (K:PySem.W.Frag)(ta:TA):TI:=fun σ H R=>ta σ H fun vs H1=>∃a b,vs=[.ref a,.ref b]/\(∃xs,SqL K H1 a xs)/\(∃ys,SqL K H1 b ys)/\R (ItzL K a b) H1
theorem pi_zipL {elts:List Expr} {x1} {tp:Pos}{a b:Expr}{ta:TA}{p pos:Pos}(hg:Gl X "zip") (hm:X.mg "zip" = none) (ha:PA X [a,b] ta)(hs:starEach [a,b] X.env=(false,eval a X.env)::starEach [b] X.env:=by rfl)(hs2:(backTo pos (starEach [b] X.env)).any (·.1)=false:=by rfl):PI X (.Tuple elts x1 tp) (.Call (.Name "zip" p) [a,b] [] pos) (iZipL X.K ta):=by
 intro pins s σ H R I h
 refine Call_ (ld_blt I hg hm (by decide +kernel) (PyProof.Rows.callWith_type1 (T := "zip") (thn (ha pos pins s σ H _ I h) fun us s1 ⟨vs,H1,I1,r1,q1⟩=>?_) hs hs2))
 obtain⟨l1,l2,e,⟨xs,hq1⟩,⟨ys,hq2⟩,q⟩:=q1
 subst e
 obtain⟨u1,u2,rfl,rx1,rx2⟩:=vals2 r1
 cases rx1
 cases rx2
 obtain⟨its1,_,p1,_⟩:=I1.list hq1
 obtain⟨its2,_,p2,_⟩:=I1.list hq2
 have ll1:l1<s1.heap.objs.size:=by obtain⟨o,_,ho,_⟩:=id p1;exact Heap.lt_size ho
 have ll2:l2<s1.heap.objs.size:=by obtain⟨o,_,ho,_⟩:=id p2;exact Heap.lt_size ho
 refine call_zip_2 p1.isList p2.isList fun h' hz hI hO h1 h2 _ hk=>?_
 refine wpAny_pyIter_zip hz ?_
 refine⟨s1.heap.objs.size+4,[s1.heap.objs.size+4,s1.heap.objs.size+2,s1.heap.objs.size+3,s1.heap.objs.size,s1.heap.objs.size+1],_,_,H1,rfl,I1.kept (t':=s1.toks) hk,
  turn_zipL l1 l2 _ _ _ _ _ (Nat.lt_succ_self _) (Nat.lt_succ_self _) (Nat.lt_succ_self _) (Nat.lt_succ_self _) ll1 ll2,⟨hz,hI,⟨_,_,hO⟩,h1,h2⟩,fun b hb=>?_,q⟩
 have hle:s1.heap.objs.size<=b:=by
  simp only[List.mem_cons,List.not_mem_nil,or_false] at hb
  rcases hb with rfl | rfl | rfl | rfl | rfl
  . exact Nat.le_add_right _ _
  . exact Nat.le_add_right _ _
  . exact Nat.le_add_right _ _
  . exact Nat.le_refl _
  . exact Nat.le_add_right _ _
 exact I1.fpOk hle (I1.hok.fresh hle)
end
theorem comp_zipL {K:PySem.W.Frag}{a b:Addr}{xs ys:List V}{own:Nat}{g:TG}{ti:TT}{te:TE}{cv:List V}{D:Addr}{H1:Hp}{Q:VK}(hxy:xs.length=ys.length)(Pv:Nat->List V->Hp->Prop)(h0:Pv 0 [] (upd H1 D (.lst [])))(hl:∀i zs H,Pv i zs H->SqL K H a xs/\SqL K H b ys)(hz:∀i zs H,Pv i zs H->zs.length<sizeLine)
 (hs:∀i x y zs H T,xs[i]? = some x->ys[i]? = some y->Pv i zs H->H T=none->g (.ref T) (List.replicate own none++cv.map some) (upd H T (.tup [x,y])) fun σ2 H2=>(σ2.length=own+cv.length/\σ2.drop own=cv.map some) /\
  ti σ2 H2 fun b H3=>if b=true then te σ2 H3 fun y H4=>H4 D=some (.lst zs)/\Pv (i+1) (zs++[y]) (upd H4 D (.lst (zs++[y]))) else Pv (i+1) zs H3)
 (hd:∀zs H,Pv xs.length zs H->Q (.ref D) H):CompRd (ItzL K a b) own cv g ti te D H1 Q:=by
 refine⟨fun i m zs H=>m=xs.length-i/\i<=xs.length/\Pv i zs H,⟨xs.length,rfl,Nat.zero_le _,h0⟩,?_⟩
 rintro i m zs H ⟨rfl,hi,p⟩
 obtain⟨q1,q2⟩:=hl i zs H p
 by_cases c:i<xs.length
 . refine .inr ⟨⟨xs,ys,xs[i],ys[i],q1,q2,List.getElem?_eq_getElem c,List.getElem?_eq_getElem (by omega)⟩,hz i zs H p,Pv (i+1),fun zs' H' p'=>⟨xs.length-(i+1),by omega,rfl,c,p'⟩,fun x H' y=>?_⟩
   obtain⟨T,u,v,rfl,hT,rfl,hu,hv⟩:=y
   exact hs i u v zs H T (hu xs q1) (hv ys q2) p hT
 . have e:i=xs.length:=by omega
   subst e
   exact .inl ⟨⟨xs,q1,Nat.le_refl _⟩,hd zs H p⟩
end L2
namespace L2
open PySem PySem.Spec PyProof.Rows
section
variable {M:Model}{A:Around}{E:Value->Shared->Prop}{s:Shared}
theorem leaves_any {base:Heap}{env:Env}{outer:List Env}{L e:Addr}{cls a0 fl:Value}{Q:Unit->Shared->Prop}(hfr:A.frames=some (env::outer))(hf:env.frame=some L)(hk:base.StaysIn s.heap)(hen:base.get? e=none)(hl:s.heap.FunFrames base (env::outer))(ht:s.heap.TracedAtW base e cls a0 fl)
 (hQ:∀h',Heap.FlyingW base outer e cls a0 h'->s.heap.UpToSlots h'->Q () { s with heap:=h' }):wpAny M A (leaving env (.ref e)) Q E s:=by
 by_cases c:fl=rawInt L
 . subst c
   unfold leaving
   refine wpAny_bind (wpAny_noteFrame_againW hf ht ?_)
   refine wpAny_landsW (L:=L) ⟨hk,hen,hl,ht⟩ fun h' hfl up=>?_
   obtain⟨k1,k2,⟨_,_,k3⟩,k4⟩:=hfl
   exact hQ h' ⟨k1,k2,k3,k4⟩ up
 . obtain⟨oe,vs,T,oT,ts,he,⟨hc,h0⟩,hd,h1,hnT,hTe,hT,hdT,h3⟩:=ht
   subst hc
   unfold leaving noteFrame
   simp only[hf]
   refine wpAny_bind (wpAny_bind (wpAny_field he hd h1 ?_))
   rw[if_pos (show (Value.ref T != Value.none)=true from by simp)]
   refine wpAny_bind (wpAny_field hT hdT h3 ?_)
   rw[if_neg (show ¬ ((fl==rawInt L)=true) from by simpa using c)]
   refine wpAny_bind (wpAny_setField hT hdT (Array.getElem?_eq_some_iff.mp h3).1 ?_)
   have other:∀b,b≠T->(s.heap.update T (Obj.mapFields (·.setIfInBounds 3 Value.none))).get? b=s.heap.get? b:=fun b hb=>Heap.get?_update_other _ _ (Ne.symm hb)
   have nr:∀b o,s.heap.get? b=some o->(∀vs,o.data ≠ .fields vs)->b≠T:=fun b o hb hn q=>by
    rw[q,hT] at hb
    cases hb
    exact hn ts hdT
   refine wpAny_newEntryW hfr (hl.of_keeps fun b o hb hn=>⟨o,(other b (nr b o hb hn)).trans hb,rfl⟩) hf ((other e (Ne.symm hTe)).trans he) (fun b o hb=>(other b fun q=>by rw[q,hnT] at hb;cases hb).trans (hk b o hb)) hen hd (Array.getElem?_eq_some_iff.mp h1).1 h0 fun h' x=>?_
   obtain⟨x1,⟨_,_,x2⟩,x3,x4⟩:=x
   exact hQ h' ⟨x1,hen,x2,x3⟩ fun b o hb hn=>x4 b o ((other b (nr b o hb hn)).trans hb) hn
theorem flight_any {base:Heap}{l:List Env}{e:Addr}{cls a0 fl:Value}{fr:Option Addr}{Q:Unit->Shared->Prop}(hk:base.StaysIn s.heap)(hl:s.heap.FunFrames base l)(ht:s.heap.TracedAtW base e cls a0 fl)
 (hQ:∀h' fl',base.StaysIn h'->h'.FunFrames base l->h'.TracedAtW base e cls a0 fl'->s.heap.UpToSlots h'->Q () { s with heap:=h' }):wpAny M A (setFlight (.ref e) fr) Q E s:=by
 obtain⟨oe,vs,T,oT,ts,he,hcls,hd,h1,hnT,hTe,hT,hdT,h3⟩:=ht
 have z3:3<ts.size:=(Array.getElem?_eq_some_iff.mp h3).1
 have other:∀b,b≠T->(s.heap.update T (Obj.mapFields (·.setIfInBounds 3 (fr.elim Value.none fun f=>rawInt f)))).get? b=s.heap.get? b:=fun b hb=>Heap.get?_update_other _ _ (Ne.symm hb)
 have nr:∀b o,s.heap.get? b=some o->(∀vs,o.data ≠ .fields vs)->b≠T:=fun b o hb hn q=>by
  rw[q,hT] at hb
  cases hb
  exact hn ts hdT
 unfold setFlight
 refine wpAny_bind (wpAny_field he hd h1 ?_)
 rw[if_pos (show (Value.ref T != Value.none)=true from by simp)]
 refine wpAny_setField hT hdT z3 (hQ _ (fr.elim Value.none fun f=>rawInt f) (fun b o hb=>(other b fun q=>by rw[q,hnT] at hb;cases hb).trans (hk b o hb)) (hl.of_keeps fun b o hb hn=>⟨o,(other b (nr b o hb hn)).trans hb,rfl⟩) ?_ fun b o hb hn=>⟨o.slots,(other b (nr b o hb hn)).trans hb⟩)
 exact⟨oe,vs,T,_,_,(other e (Ne.symm hTe)).trans he,hcls,hd,h1,hnT,hTe,Heap.get?_update_self _ hT (Obj.isFreed_of_fields (Obj.data_mapFields hdT _)),Obj.data_mapFields hdT _,by simp[z3]⟩
end
theorem frames_but {h h' B B':Heap}{c:Addr}(k:∀b,b≠c->h'.get? b=h.get? b)(k':∀b,b≠c->B'.get? b=B.get? b):∀{l:List Env},c∉l.filterMap (·.frame)->h.FunFrames B l->h'.FunFrames B' l
 | [],_,_=>trivial
 | env::rest,hc,hl=>by
  obtain⟨hk,⟨L,o,hf,hn,ho,hd⟩,hr⟩:=hl
  rw[List.filterMap_cons,hf] at hc
  have n1:L≠c:=fun z=>hc (by simp[z])
  exact⟨hk,⟨L,o,hf,by rw[k' L n1];exact hn,by rw[k L n1];exact ho,hd⟩,frames_but k k' (fun z=>hc (List.mem_cons_of_mem _ z)) hr⟩
noncomputable def lessB (B:Heap)(c:Addr):Heap:=B.update c fun o=>{ o with data:=.freed }
theorem lessB_ne {B:Heap}{c b:Addr}(h:b≠c):(lessB B c).get? b=B.get? b:=Heap.get?_update_other _ _ (Ne.symm h)
theorem lessB_at {B:Heap}{c:Addr}:(lessB B c).get? c=none:=by
 unfold lessB Heap.update Heap.get?
 obtain⟨objs,l⟩:=B
 simp only[Array.getElem?_modify]
 cases objs[c]? with
 | none=>simp
 | some o=>obtain⟨a,b,d,e⟩:=o;simp
theorem compLoop_genX {prog:Program}{w:World}{A:Around}{R:Result->Shared->Prop}{s:Shared}{elt target iter:Expr}{ifs:List Expr}{scope:Scope}{pos:Pos}{it acc:Value}{env:Env}(I:Nat->Shared->Prop)
 (turn:∀n s,I n s->wpAny (model prog w) A (pyNext it) (fun r s₁=>match r with
  | none=>R (.ok .next) s₁
  | some v=>wpAny (model prog w) A (letOwnedTupleGo target it v) (fun _ s₁'=>wpAny (model prog w) A (assign target env v) (fun _ s₂=>
   wpAny (model prog w) A (forIn ifs true fun c r=>if r=true then do let ok <-isTrue c env (eval c env);pure (ForInStep.yield ok) else pure (ForInStep.yield r)) (fun ok s₃=>
    if ok=true then wpAny (model prog w) A (eval elt env) (fun x s₄=>
     wpAny (model prog w) A (call (.builtin "list.append") [acc,x]) (fun _ s₅=>∃m,m<n/\I m s₅) (fun _ _=>False) s₄) (notedBy (model prog w) A env fun x s'=>R (.error x) s') s₃
    else ∃m,m<n/\I m s₃) (fun _ _=>False) s₂) (fun _ _=>False) s₁') (fun _ _=>False) s₁) (fun _ _=>False) s)
 (n:Nat)(h:I n s):codeAny (model prog w) A (.compLoop (.ListComp elt [⟨target,iter,ifs,0⟩] scope pos) 0 it acc env) R s:=by
 refine codeAny_loop rfl I (fun n s hI=>?_) n h
 show wpAny _ A ((compTurn (.ListComp elt [⟨target,iter,ifs,0⟩] scope pos) 0 it acc env).onRaise (fun x=>do noteFrame x env;theTreesLotGoes x)) _ _ s
 refine wpAny_noted ?_
 rw[compTurn_list]
 refine wpAny_bind (wpAny_standAt (wpAny_bind (wpAny_mono (turn n s hI) (fun r s₁ h₁=>?_) fun _ _ h'=>h'.elim)))
 cases r with
 | none=>exact wpAny_pure h₁
 | some v=>
  refine wpAny_bind (wpAny_mono h₁ (fun _ s₁' h₁'=>?_) fun _ _ h'=>h'.elim)
  refine wpAny_bind (wpAny_mono h₁' (fun _ s₂ h₂=>wpAny_bind (wpAny_mono h₂ (fun ok s₃ h₃=>?_) fun _ _ h'=>h'.elim)) fun _ _ h'=>h'.elim)
  cases ok with
  | false=>exact wpAny_pure ⟨rfl,h₃⟩
  | true=>
   exact wpAny_bind (wpAny_bind (wpAny_mono h₃ (fun x s₄ h₄=>wpAny_bind (wpAny_mono h₄ (fun _ s₅ h₅=>wpAny_pure (wpAny_pure ⟨rfl,h₅⟩)) fun _ _ h'=>h'.elim)) fun _ _ h'=>h'))
noncomputable def XEC (X:Cx)(scope:Scope)(s3:Shared):Value->Shared->Prop:=notedBy (model X.prog X.w) X.A (compEnvC scope (clOf X.env.cells scope.names []) s3.heap.objs.size X.env) fun x s1=>
 ∃m,s1.heap.Ns s3.heap.objs.size m/\∀h',Heap.SameBut s3.heap.objs.size s1.heap h'->∀cenv:Env,cenv.locals=s3.heap.objs.size->wpAny (model X.prog X.w) X.A (passOn "comprehension.variables-let-go" x cenv:Sem Value) (fun _ _=>False) X.xe { s1 with heap:=h' }
noncomputable def CompIn (X:Cx)(fp:List Addr)(s3:Shared)(H3:Hp):Prop:=∃pins σ,Inv X pins σ H3 s3/\∀b∈fp,FpOk X pins H3 b
section
variable {P:Program}{w:World}{K:PySem.W.Frag}{mg:Str->Option Value}{base:Heap}{N:List Str}{qual:Str}{scope:Scope}{f:Addr}{cd:Value}{A:Around}{outer:List Env}{s0:Shared}{H0:Hp}{E:XK}
theorem passC {pl:List (Addr×Obj)}{N':List Str}{sc:Scope}{fp:List Addr}{s3:Shared}{H3:Hp}(ci:CompIn (cxOf (CXI P w) P w K mg base N qual scope f cd A outer s0 H0 E) fp s3 H3) :
 Passes (CXI P w) ((cxComp (cxOf (CXI P w) P w K mg base N qual scope f cd A outer s0 H0 E) pl N' sc fp s3 H3).wish (XEC (cxOf (CXI P w) P w K mg base N qual scope f cd A outer s0 H0 E) sc s3)) E:=by
 intro pins σ H s e s' I h
 obtain⟨pins3,σ3,I3,hfp⟩:=ci
 obtain⟨ea,t,C,od,H',B,rfl,os,bare,un,hok,fl,tr,old,al,hE⟩:=h
 have hC:∃m,s.heap.Ns s3.heap.objs.size m:=let ⟨m,hn,_⟩:=I.loc;⟨m,hn⟩
 obtain⟨m,oC,es,ep,hoC,hdC,hrC⟩:=hC
 have hCH:H s3.heap.objs.size=none:=I.free
 have hCf:s3.heap.objs.size∉(envOfC qual scope s0.heap.objs.size f cd::outer).filterMap (·.frame):=fun z=>by
  obtain⟨_,o,ho,_⟩:=I.ok.funs.mem z
  exact absurd (Heap.lt_size ho) (Nat.lt_irrefl _)
 have hCB:=old _ _ hoC hCH hCf
 have hCs:=fl.1.1 _ _ hCB
 have hCH':H' s3.heap.objs.size=none:=un.free _ _ hoC hCH (by intro z;cases z)
 have hns:s'.heap.Ns s3.heap.objs.size m:=⟨oC,es,ep,hCs,hdC,hrC⟩
 show wpAny (model P w) _ (noteFrame (.ref ea) (envOfC qual scope s0.heap.objs.size f cd)) _ _ s'
 refine wpAny_mono (wpAny_kd (kd_note _ _) (wpAny_looks_onW (Q:=fun _ s2=>∃h1,s2={ s' with heap:=h1 }/\Heap.HeldW B (envOfC qual scope s0.heap.objs.size f cd::outer) ea C (.ref t) s0.heap.objs.size h1/\s'.heap.UpToSlots h1) I3.ok.frames rfl fl.1 fun h1 x u=>⟨h1,rfl,x,u⟩)) (fun _ s2 hq=>?_) fun _ _ z=>z
 obtain⟨⟨h1,rfl,hd1,up1⟩,dk1⟩:=hq
 refine⟨m,up1.ns hns,fun h2 sb cenv hce=>?_⟩
 obtain⟨g1,g2,g3,oe,vs,T,oT,ts,he,hcl,hd,hv1,hnT,hTe,hT,hdT,h3⟩:=hd1
 obtain⟨slC,hC1⟩:=up1 _ _ hCs fun vs q=>by rw[hdC] at q;cases q
 have neC:∀{b:Addr}{o:Obj}{ws:Array Value},h1.get? b=some o->o.data = .fields ws->b≠s3.heap.objs.size:=fun hb hw z=>by
  rw[z,hC1] at hb
  cases hb
  rw[show oC.data=_ from hdC] at hw
  cases hw
 have nE:=neC he hd
 have nT:=neC hT hdT
 have st2:(lessB B s3.heap.objs.size).StaysIn h2:=fun b o hb=>by
  by_cases z:b=s3.heap.objs.size
  . rw[z,lessB_at] at hb;cases hb
  . rw[lessB_ne z] at hb
    rw[sb.2 b z]
    exact g1 b o hb
 have tr2:h2.TracedAtW (lessB B s3.heap.objs.size) ea C (.ref t) (rawInt s0.heap.objs.size):=⟨oe,vs,T,oT,ts,by rw[sb.2 _ nE];exact he,hcl,hd,hv1,by rw[lessB_ne nT];exact hnT,hTe,by rw[sb.2 _ nT];exact hT,hdT,h3⟩
 have ff2:h2.FunFrames (lessB B s3.heap.objs.size) (envOfC qual scope s0.heap.objs.size f cd::outer):=frames_but (fun b z=>sb.2 b z) (fun b z=>lessB_ne z) hCf g3
 have en2:(lessB B s3.heap.objs.size).get? ea=none:=by rw[lessB_ne nE];exact g2
 unfold PySem.passOn
 have he2:h2.get? ea=some oe:=by rw[sb.2 _ nE];exact he
 refine wpAny_bind (wpAny_field he2 hd hv1 ?_)
 rw[if_neg (show ¬ ((Value.ref T==Value.none)=true) from by simp)]
 refine wpAny_bind (wpAny_mono (wpAny_kd (kd_setFlight _ _) (flight_any (Q:=fun _ s3'=>∃h3 fl',s3'={ s' with heap:=h3 }/\(lessB B s3.heap.objs.size).StaysIn h3/\h3.FunFrames (lessB B s3.heap.objs.size) (envOfC qual scope s0.heap.objs.size f cd::outer)/\h3.TracedAtW (lessB B s3.heap.objs.size) ea C (.ref t) fl'/\h2.UpToSlots h3) (s:={ s' with heap:=h2 }) st2 ff2 tr2 fun h3 fl' a b c d=>⟨h3,fl',rfl,a,b,c,d⟩)) (fun _ s4 hq=>?_) fun _ _ z=>z)
 obtain⟨⟨h4,fl',rfl,st4,ff4,tr4,up4⟩,dk4⟩:=hq
 refine wpAny_throw ?_
 refine wpAny_mono (wpAny_kd (kd_leaving _ _) (leaves_any (Q:=fun _ s2=>∃h',s2={ s' with heap:=h' }/\Heap.FlyingW (lessB B s3.heap.objs.size) outer ea C (.ref t) h'/\h4.UpToSlots h') (s:={ s' with heap:=h4 }) I3.ok.frames rfl st4 en2 ff4 tr4 fun h' x u=>⟨h',rfl,x,u⟩)) (fun _ s5 hq=>?_) fun _ _ z=>z
 obtain⟨⟨h5,rfl,fl5,up5⟩,dk5⟩:=hq
 have st5:(lessB B s3.heap.objs.size).StaysIn h5:=fl5.1
 have lt0:∀{b:Addr}{o:Obj},s0.heap.get? b=some o->b<s0.heap.objs.size:=fun e=>Heap.lt_size e
 have le0:s0.heap.objs.size<=s3.heap.objs.size:=I3.sz
 have nC0:∀{b:Addr}{o:Obj},s0.heap.get? b=some o->b≠s3.heap.objs.size:=fun e=>Nat.ne_of_lt (Nat.lt_of_lt_of_le (lt0 e) le0)
 have nf0:∀{b:Addr}{o:Obj},s0.heap.get? b=some o->b∉fp:=fun {b o} e z=>by
  rcases (hfp b z).2.2.2.1 with q | q
  . cases q
  . exact absurd (lt0 e) (Nat.not_lt_of_le q)
 have fr0:∀{b:Addr}{o:Obj},s0.heap.get? b=some o->b∉frs outer->b∉frs (envOfC qual scope s0.heap.objs.size f cd::outer):=fun {b o} e hb z=>by
  rcases List.mem_cons.mp (I3.stkSub b z) with q | q
  . exact absurd (lt0 e) (by rw[q];exact Nat.not_lt_of_le (Nat.le_refl _))
  . exact hb q
 have at3:∀b o,s0.heap.get? b=some o->∃o',s3.heap.get? b=some o':=fun b o e=>I3.base.there b o e (by intro z;cases z)
 have nl:∀b o,s0.heap.get? b=some o->H0 b=none->b∉frs outer->(lessB B s3.heap.objs.size).get? b=some o:=fun b o e n hb=>by
  rw[lessB_ne (nC0 e)]
  have e3:=I3.base.keep b o e n hb (by intro z;cases z)
  have n3:=I3.base.free b o e n (by intro z;cases z)
  exact old b o (I.base.keep b o e3 n3 (fr0 e hb) (nf0 e)) (I.base.free b o e3 n3 (nf0 e)) (fr0 e hb)
 have na:∀b o,s0.heap.get? b=some o->b∉frs outer->∃o',(lessB B s3.heap.objs.size).get? b=some o':=fun b o e hb=>by
  rw[lessB_ne (nC0 e)]
  obtain⟨o1,e1⟩:=at3 b o e
  obtain⟨o2,e2⟩:=I.base.there b o1 e1 (nf0 e)
  exact al b o2 e2 (fr0 e hb)
 have trL:∀b u,H' b=some u->∃o,(lessB B s3.heap.objs.size).get? b=some o:=fun b u e=>by
  rw[lessB_ne (fun z=>by rw[z,hCH'] at e;cases e)]
  exact tr b u e
 have upA:∀{b:Addr}{o:Obj},s'.heap.get? b=some o->(∀vs,o.data ≠ .fields vs)->b≠s3.heap.objs.size->∃sl,h5.get? b=some { o with slots:=sl }:=fun {b o} e hn hb=>by
  obtain⟨sl1,e1⟩:=up1 b o e hn
  rw[<-sb.2 b hb] at e1
  obtain⟨sl2,e2⟩:=up4 b _ e1 hn
  obtain⟨sl3,e3⟩:=up5 b _ e2 hn
  exact⟨sl3,e3⟩
 have fly:FlyD (lessB B s3.heap.objs.size) outer ea C (.ref t) od h5:=by
  refine⟨fl5,?_⟩
  obtain⟨_,o,q,r⟩:=fl
  obtain⟨o1,q1,r1⟩:=dk1 ea o q
  rw[show (PySem.Shared.heap { s' with heap:=h1 })=h1 from rfl] at q1
  rw[<-sb.2 _ nE] at q1
  obtain⟨o4,q4,r4⟩:=dk4 ea o1 q1
  obtain⟨o5,q5,r5⟩:=dk5 ea o4 q4
  exact⟨o5,q5,r5.trans (r4.trans (r1.trans r))⟩
 refine⟨ea,t,C,od,H',lessB B s3.heap.objs.size,rfl,(os.trans I.os).trans I3.os,bare,⟨fun b o e n hb _=>st5 b o (nl b o e n hb),fun b o e n hb _=>?_,fun b o e n _=>?_,fun b o e _=>?_,fun b xs e=>un.tups _ _ (I.base.tups _ _ (I3.base.tups _ _ e)),fun b o u e=>un.frzs _ _ _ (I.base.frzs _ _ _ (I3.base.frzs _ _ _ e)),fun b ps e=>?_⟩,hok.stays (fun b o hb=>?_) st5 trL,fly,trL,nl,na,hE⟩
 . obtain⟨sl1,e1⟩:=I3.base.slot b o e n hb (by intro z;cases z)
   have n1:=I3.base.free b o e n (by intro z;cases z)
   obtain⟨sl2,e2⟩:=I.base.slot b _ e1 n1 (List.mem_cons_of_mem _ hb) (nf0 e)
   have n2:=I.base.free b _ e1 n1 (nf0 e)
   obtain⟨sl3,e3⟩:=un.slot b _ e2 n2 (List.mem_cons_of_mem _ hb) (by intro z;cases z)
   obtain⟨_,o4,e4,nd⟩:=fl.1.2.2.1.mem (show b∈(envOfC qual scope s0.heap.objs.size f cd::outer).filterMap (·.frame) from List.mem_cons_of_mem _ hb)
   have e5:=Option.some.inj (e4.symm.trans e3)
   obtain⟨sl6,e6⟩:=upA e4 nd (nC0 e)
   rw[e5] at e6
   exact⟨sl6,e6⟩
 . obtain⟨o1,e1⟩:=at3 b o e
   have n1:=I3.base.free b o e n (by intro z;cases z)
   obtain⟨o2,e2⟩:=I.base.there b o1 e1 (nf0 e)
   exact un.free b _ e2 (I.base.free b _ e1 n1 (nf0 e)) (by intro z;cases z)
 . by_cases hb:b∈(envOfC qual scope s0.heap.objs.size f cd::outer).filterMap (·.frame)
   . obtain⟨_,o3,e3,nd⟩:=fl.1.2.2.1.mem hb
     obtain⟨sl4,e4⟩:=upA e3 nd (nC0 e)
     exact⟨_,e4⟩
   . obtain⟨o3,e3⟩:=na b o e fun z=>hb (List.mem_cons_of_mem _ z)
     exact⟨_,st5 b o3 e3⟩
 . obtain⟨m1,e1⟩:=I3.base.tbls _ _ e
   obtain⟨m2,e2⟩:=I.base.tbls _ _ e1
   obtain⟨m3,e3⟩:=un.tbls _ _ e2
   exact⟨m1++(m2++m3),by rw[e3];simp⟩
 . by_cases z:b=s3.heap.objs.size
   . rw[z,lessB_at] at hb;cases hb
   . rw[lessB_ne z] at hb
     exact fl.1.1 b o hb
end
section
variable {X:Cx}{pins:List (Addr×Obj)}{σ:St}{H3:Hp}{s3:Shared}{scope:Scope}{fp:List Addr}{N' own cn:List Str}{ci:List Nat}{cv:List V}
theorem comp_coreX {elt target iter:Expr}{ifs:List Expr}{pos cpos:Pos}{wi:TI}{g:TG}{ti:TT}{te:TE}{use:Option (Value->Sem Unit)}{Q0:Value->Shared->Prop}{s:Shared}{H:Hp}{Q:VK}(hcalm:X.calm=true)(S:CompSc X scope)(hc:CapOk X scope cn ci)(hl:cn.length=ci.length)
 (hi:PI X target iter wi)(hg:∀pl fp s3 H3,PG (cxComp X pl (own++cn) scope fp s3 H3) target g)(ht:∀pl fp s3 H3,PTs (cxComp X pl (own++cn) scope fp s3 H3) ifs ti)
 (he:∀pl fp s3 H3,CompIn X fp s3 H3->PE ((cxComp X pl (own++cn) scope fp s3 H3).wish (XEC X scope s3)) elt te)(hs:∀x,foldedSetIterable iter X.env x=pure x)(I:Inv X pins σ H s)(h:tComp own.length ci wi g ti te σ H Q)
 (fin:∀(D C:Addr)(H5:Hp)(s6:Shared)(m6:Str->Option Value),Inv X pins σ H5 s6->s6.heap.Ns C m6->H5 C=none->C≠X.env.locals->X.s₀.heap.objs.size<=C->(∀x c,X.env.cells.lookup x=some c->c≠C) ->
  (∀p∈X.pn++pins,p.1≠C)->Q (.ref D) H5->compPost (model X.prog X.w) X.A X.xe use Q0 (.ref D) C (.ok .next) s6) :
 wpAny (model X.prog X.w) X.A (comprehension (.ListComp elt [⟨target,iter,ifs,0⟩] scope pos) scope X.env cpos (newList []) false (eval iter X.env) use) Q0 X.xe s:=by
 have hcl:closureFor scope X.env=pure (clOf X.env.cells scope.names []):=closureFor_eq fun y hy hf=>I.ok.has y.1 (.inl (S.free y hy hf))
 refine wpAny_comprehension_free (use:=use) rfl hs hcl S.kind S.names ?_
 refine thn (hi pins s σ H _ I h) fun v s1 h1=>thn h1 fun itv s2 h2=>?_
 obtain⟨it,fp,tn,J,H2,e,I2,T,st2,f2,cv,hv,hD⟩:=h2
 subst e
 have lenv:cv.length=ci.length:=by
  have:=congrArg List.length hv
  simpa using this.symm
 have I3:=I2.lnew (ys:=[]) (its:=[]) (t':=s2.toks) .nil (Nat.zero_le _)
 obtain⟨W,⟨m0,w0⟩,turn⟩:=hD s2.heap.objs.size I2.fresh
 have fz:∀b∈fp,b<s2.heap.objs.size:=fun b hb=>by
  obtain⟨o,ho,_⟩:=T.obj _ _ st2 b hb
  exact Heap.lt_size ho
 refine wpAny_newObj_type ?_
 refine wpAny_newFunctionEnv S.nocell (by intro y hy;simp at hy) (fun h4 hns4 hsb4=>?_) S.kind
 generalize hs3:({ s2 with heap:=s2.heap.push { cls:=.type "list",dict:=none,data:=.seq ([]:List Value).toArray } }:Shared)=s3 at hns4 hsb4 ⊢
 have I3':Inv X pins σ (upd H2 s2.heap.objs.size (.lst [])) s3:=by rw[<-hs3];exact I3
 have hsz3:s3.heap.objs.size=s2.heap.objs.size+1:=by rw[<-hs3];exact Heap.size_push ..
 have k23:∀b o,s2.heap.get? b=some o->s3.heap.get? b=some o:=fun b o e=>by rw[<-hs3];exact Heap.get?_push_of_some _ e
 have k34:∀b o,s3.heap.get? b=some o->h4.get? b=some o:=fun b o e=>hsb4.extBut b o (Nat.ne_of_lt (Heap.lt_size e)) (Heap.get?_push_of_some _ e)
 have nD:∀b∈fp,b≠s2.heap.objs.size:=fun b hb=>Nat.ne_of_lt (fz b hb)
 have f3:∀b∈fp,FpOk X pins (upd H2 s2.heap.objs.size (.lst [])) b:=fun b hb=>⟨by rw[upd_ne (nD b hb)];exact (f2 b hb).1,(f2 b hb).2⟩
 have fz3:∀b∈fp,b<s3.heap.objs.size:=fun b hb=>by rw[hsz3];exact Nat.lt_succ_of_lt (fz b hb)
 have I4:Inv (cxComp X (X.pn++pins) (own++cn) scope fp s3 (upd H2 s2.heap.objs.size (.lst []))) [] (List.replicate own.length none++cv.map some) (upd H2 s2.heap.objs.size (.lst [])) { s3 with heap:=h4,toks:=s3.toks+([]:List (Str×Value)).length }:=
  comp_inv I3' S f3 fz3 rfl hc hv hl hns4 k34
 have st4:tn 0 h4:=T.keep _ _ _ st2 fun b hb o e=>k34 b o (k23 b o e)
 generalize hX:cxComp X (X.pn++pins) (own++cn) scope fp s3 (upd H2 s2.heap.objs.size (.lst []))=X' at I4
 have hg':PG X' target g:=by rw[<-hX];exact hg _ _ _ _
 have ht':PTs X' ifs ti:=by rw[<-hX];exact ht _ _ _ _
 have he':PE (X'.wish (XEC X scope s3)) elt te:=by rw[<-hX];exact he _ _ _ _ ⟨pins,σ,I3',f3⟩
 have ePr:X'.prog=X.prog:=by rw[<-hX];rfl
 have eW:X'.w=X.w:=by rw[<-hX];rfl
 have eK:X'.K=X.K:=by rw[<-hX];rfl
 have eA:X'.A=X.A:=by rw[<-hX];rfl
 have eE:X'.env=compEnvC scope (clOf X.env.cells scope.names []) s3.heap.objs.size X.env:=by rw[<-hX];rfl
 have eXe:X'.xe=fun _ _=>False:=by rw[<-hX];rfl
 have eC:X'.calm=true:=by rw[<-hX];exact hcalm
 have eex:X'.ex=fp:=by rw[<-hX];rfl
 have epn:X'.pn=X.pn++pins:=by rw[<-hX];rfl
 have es0:X'.s₀=s3:=by rw[<-hX];rfl
 have eH0:X'.H₀=upd H2 s2.heap.objs.size (.lst []):=by rw[<-hX];rfl
 have efs:X'.fs=frs X.stack:=by rw[<-hX];rfl
 have ok':=I4.ok
 have stat:∀{H':Hp},(∀b∈fp,H' b=none)->∀b∈fp,FpOk X' [] H' b:=fun hn b hb=>by
  have hb':b∈X'.ex:=by rw[eex];exact hb
  refine⟨hn b hb,(ok'.exf b hb').1,ok'.exfs b hb',.inl hb',(ok'.exf b hb').2,fun p hp=>?_⟩
  rw[epn,List.append_nil] at hp
  exact (f2 b hb).2.2.2.2.2 p hp
 have wk:∀(σ2:St),(σ2.length=own.length+cv.length/\σ2.drop own.length=cv.map some)->∀{pl:List (Addr×Obj)}{H':Hp}{s':Shared},Inv X' pl σ2 H' s'->Inv X' pl (List.replicate own.length none++cv.map some) H' s':=fun σ2 hq pl H' s' I'=>by
  refine I'.weak (by rw[hq.1,List.length_append,List.length_replicate,List.length_map]) fun i v hi=>?_
  by_cases hlt:i<own.length
  . rw[List.getElem?_append_left (by simpa using hlt),List.getElem?_replicate] at hi
    split at hi <;> cases hi
  . rw[List.getElem?_append_right (by simpa using hlt),List.length_replicate,<-hq.2,List.getElem?_drop] at hi
    rw[show own.length+(i-own.length)=i by omega] at hi
    exact hi
 have loop:codeAny (model X.prog X.w) X.A (.compLoop (.ListComp elt [⟨target,iter,ifs,0⟩] scope pos) 0 (.ref it) (.ref s2.heap.objs.size) (compEnvC scope (clOf X.env.cells scope.names []) s3.heap.objs.size X.env))
  (compPost (model X.prog X.w) X.A X.xe use Q0 (.ref s2.heap.objs.size) s3.heap.objs.size) { s3 with heap:=h4,toks:=s3.toks+([]:List (Str×Value)).length }:=by
  refine compLoop_genX (fun n s'=>∃i ys H',Inv X' [] (List.replicate own.length none++cv.map some) H' s'/\tn i s'.heap/\(∀b∈fp,H' b=none)/\W i n ys H') ?_ m0
   ⟨0,[],_,I4,st4,fun b hb=>(f3 b hb).1,w0⟩
  rintro n s5 ⟨i,ys,H5,I5,st5,fr5,w5⟩
  rcases turn i n ys H5 w5 with ⟨stop,qn⟩ | ⟨go,hsz,N,hN,step⟩
  . have d:=T.done X' ePr eW eK eC i [] s5 _ H5 (fun _ _=>False) I5 (stat fr5) st5 stop
    rw[eA] at d
    refine thn d fun r s6 ⟨hr,I6⟩=>?_
    subst hr
    obtain⟨m6,hn6,_⟩:=I6.loc
    rw[eE] at hn6
    have hn6':s6.heap.Ns s3.heap.objs.size m6:=hn6
    have un6:Un (frs X.stack) fp (upd H2 s2.heap.objs.size (.lst [])) H5 s3.heap s6.heap:=by
     have b6:=I6.base
     rw[efs,eex,eH0,es0] at b6
     exact b6
    have os6:s6.os=s3.os:=by have o6:=I6.os;rw[es0] at o6;exact o6
    have hok6:HOk X.prog X.w H5 s6.heap:=by have o6:=I6.hok;rw[ePr,eW] at o6;exact o6
    have I7:Inv X pins σ H5 s6:=I3'.call' (ch:=fp) os6 un6 hok6 I6.bare fun b hb=>⟨(f2 b hb).2.2.2.1,(f2 b hb).2.1,(f2 b hb).2.2.2.2.1,(f2 b hb).2.2.2.2.2⟩
    have fr6:H5 s3.heap.objs.size=none:=by
     have q:=I6.free
     rw[eE] at q
     exact q
    refine fin s2.heap.objs.size s3.heap.objs.size H5 s6 m6 I7 hn6' fr6 (Nat.ne_of_gt I3'.lt) I3'.sz (fun x c e=>?_) (fun p hp=>?_) qn
    . obtain⟨_,o,ho,_⟩:=I3'.cell x c e
      exact Nat.ne_of_lt (Heap.lt_size ho)
    . exact Nat.ne_of_lt (Heap.lt_size (I3'.pin p hp).1)
  . have d:=T.item X' ePr eW eK eC i [] s5 _ H5 (fun _ _=>False) I5 (stat fr5) st5 go
    rw[eA] at d
    refine thn d fun r s6 ⟨u,hr,h6⟩=>?_
    subst hr
    refine thn h6 fun _ s7 ⟨x,H7,I7,r7,y7,st7,fr7⟩=>?_
    have I7':=I7.pinned (stat fr7) (T.obj _ _ st7)
    have g7:=hg' _ s7 _ H7 x u _ I7' r7 (step x H7 y7)
    rw[ePr,eW,eA,eE,eXe] at g7
    refine thn g7 fun _ s8 ⟨σ8,H8,I8,q8,ti8⟩=>?_
    have t8:=ht' _ s8 σ8 H8 _ I8 ti8
    rw[ePr,eW,eA,eE,eXe] at t8
    refine thn t8 fun ok s9 ⟨H9,I9,q9⟩=>?_
    have again:∀{ys':List V}{H':Hp}{s':Shared},Inv X' ([]++pinsAt fp s7.heap) σ8 H' s'->N ys' H' ->
     ∃m,m<n/\∃i ys H',Inv X' [] (List.replicate own.length none++cv.map some) H' s'/\tn i s'.heap/\(∀b∈fp,H' b=none)/\W i m ys H':=fun {ys' H' s'} I' n'=>by
     obtain⟨m',hm,w'⟩:=hN ys' H' n'
     refine⟨m',hm,i+1,ys',H',(wk σ8 q8 I').unpinned,T.keep _ _ _ st7 fun b hb o e=>(I'.pin (b,o) (List.mem_append_right _ (List.mem_append_right _ (mem_pinsAt hb e)))).1,fun b hb=>?_,w'⟩
     obtain⟨o,e,_⟩:=T.obj _ _ st7 b hb
     exact (I'.pin (b,o) (List.mem_append_right _ (List.mem_append_right _ (mem_pinsAt hb e)))).2.1
    cases ok with
    | false=>exact again I9 q9
    | true=>
     have e9:=he' _ s9 σ8 H9 _ (I9.wish _) q9
     change wpAny (model X'.prog X'.w) X'.A (eval elt X'.env) _ _ s9 at e9
     rw[ePr,eW,eA,eE] at e9
     refine wpAny_mono e9 (fun u10 s10 ⟨y,H10,I10,r10,hD10,n10⟩=>?_) fun _ _ z=>z
     replace I10:=I10.unwish
     have a10:=mt_append (X:=X') _ s10 σ8 H10 (.ref s2.heap.objs.size) [y] (.ref s2.heap.objs.size) [u10] (fun _ H'=>N (ys++[y]) H') I10 rfl (.cons r10 .nil) ⟨_,_,_,rfl,rfl,hD10,hsz,n10⟩
     rw[ePr,eW,eA,eXe] at a10
     exact thn a10 fun _ s11 ⟨_,H11,I11,_,n11⟩=>again I11 n11
 exact codeAny_compStart_list loop (T.self X.A 0 _ _ _ st4 loop)
theorem pe_compX {elt target iter:Expr}{ifs:List Expr}{pos:Pos}{wi:TI}{g:TG}{ti:TT}{te:TE}(hcalm:X.calm=true)(S:CompSc X scope)(hc:CapOk X scope cn ci)(hl:cn.length=ci.length)
 (hi:PI X target iter wi)(hg:∀pl fp s3 H3,PG (cxComp X pl (own++cn) scope fp s3 H3) target g)(ht:∀pl fp s3 H3,PTs (cxComp X pl (own++cn) scope fp s3 H3) ifs ti)
 (he:∀pl fp s3 H3,CompIn X fp s3 H3->PE ((cxComp X pl (own++cn) scope fp s3 H3).wish (XEC X scope s3)) elt te)(hs:∀x,foldedSetIterable iter X.env x=pure x:=by intro _;rfl) :
 PE X (.ListComp elt [⟨target,iter,ifs,0⟩] scope pos) (tComp own.length ci wi g ti te):=by
 intro pins s σ H Q I h
 rw[eval_ListComp]
 exact comp_coreX hcalm S hc hl hi hg ht he hs I h fun D C H5 s6 m6 I7 hn fr nL ge nC nP q=>⟨m6,hn,fun h' hs'=>⟨.ref D,H5,I7.turned (t':=s6.toks) (it:=C) (fun b o hb e=>hs'.extBut b o hb e) fr nL (.inr ge) nC nP,rfl,q⟩⟩
end
end L2
namespace L2
section
open PySem PySem.W PyProof.Rows
noncomputable def topRunT (p:Program)(w:World)(n₀:Nat)(ann:Option Value):Nat->SharedT->Thread->Option SharedT
 | 0,_,_=>none
 | n+1,s,t=>match through t with
  | true=>some s
  | false=>match Fast.tw6613529449190102663 n₀ ann t with
   | false=>none
   | true=>match Fast.tw10156331382660048174 (Fast.tw11892475500146522536 Fast.tw14364793385576792824) p w s t with
    | some (s',t')=>topRunT p w n₀ ann n s' t'
    | none=>none
theorem topRun_of {p:Program}{w:World}{n₀:Nat}{ann:Option Value}:∀{n:Nat}{s s':SharedT}{t:Thread},topRunT p w n₀ ann n s t=some s'->topRun treeTable p w n₀ ann n s.abs t=some s'.abs
 | 0,_,_,_,h=>by cases h
 | n+1,s,s',t,h=>by
  unfold topRunT at h
  rw[<-Fast.te6613529449190102663,<-Fast.te10156331382660048174,<-Fast.te11892475500146522536,<-Fast.te14364793385576792824] at h
  unfold topRun
  cases he:through t with
  | true=>rw[he] at h;cases h;rfl
  | false=>
   rw[he] at h
   cases hk:stepOk n₀ ann t with
   | false=>rw[hk] at h;cases h
   | true=>
    rw[hk] at h
    cases hs:stepT (denote treeTable) p w s t with
    | none=>rw[hs] at h;cases h
    | some r=>obtain⟨s₂,t₂⟩:=r;rw[hs] at h;rw[stepT_spec hs];exact topRun_of h
noncomputable def bt:List Obj->Nat->BT->BT
 | [],_,t=>t
 | o::l,i,t=>bt l (i+1) (t.ins i o)
noncomputable def bT (P:Params):BT:=bt (boot_heap P).objs.toList 0 .nil
noncomputable def bS (w:World)(os:OsState):SharedT:=⟨bT w.params,(boot_heap w.params).objs.size,(boot_heap w.params).life,Array.mk [],boot_drawn,boot_toks,os⟩
theorem bA (w:World)(os:OsState):(bS w os).abs=⟨boot_heap w.params,Array.mk [],boot_drawn,boot_toks,os⟩:=by kernel_rfl
noncomputable abbrev runT (p:Program)(N:Nat)(w:World)(os:OsState):Option SharedT:=topRunT p w (boot_heap w.params).objs.size ((boot_heap w.params).nsMap mainGlobals "__annotations__") N (bS w os) (topStub p)
noncomputable abbrev chkT (p:Program)(h h':Heap)(s:Shared):Bool:=staticsOk (importedModules p.main.body) h h' && namesBound p h' && gensDone s && laidKept h h'
theorem left_of {p q:Program}{loose:List Str}{Xt:Shared->Bool}{α:Type}{Yf:Shared->α}{Ya:World->α}{N:Nat}(e:opening p=plainProg p.main.scope.names)(hN:Nat.ble 600 N=true)(f:∀s,fenceModules? p s=some s)
 (h:∀(w:World)(os:OsState),(runT p N w os).map (fun s=>(chkT p (boot_heap w.params) s.abs.heap s.abs,Fast.tw4187177175401517315 q loose (importedModules p.main.body) Xt true s.abs,Yf s.abs))=some (true,openGood q loose,Ya w)):LeftO p q loose Xt Yf Ya N:=by
 intro w
 obtain⟨⟨h0,gs,d,k,os⟩,e1,e2⟩:=Option.map_eq_some_iff.mp (boot_open e hN f w)
 obtain⟨rfl,rfl,rfl,rfl⟩:h0=boot_heap w.params/\gs=Array.mk []/\d=boot_drawn/\k=boot_toks:=by simpa using e2
 obtain⟨s,r,a⟩:=Option.map_eq_some_iff.mp (h w os)
 obtain⟨b,a⟩:=Prod.mk.inj a
 rw[<-Fast.te4187177175401517315] at a
 have y:=topRun_of r
 rw[bA] at y
 unfold openEnds
 rw[e1]
 show (topFrom treeTable p w N _).map _=_
 unfold topFrom
 have z:((boot_heap w.params).isNs mainGlobals && (Array.mk []:Array GenState).size==0)=true:=by kernel_rfl
 dsimp only
 rw[z]
 dsimp only
 rw[y]
 show Option.map _ (match chkT p (boot_heap w.params) s.abs.heap s.abs with | true=>some s.abs | false=>none)=_
 rw[b]
 exact congrArg some a
end
end L2
namespace K70
open PySem L2 WM
noncomputable def top (i:Nat):Stmt:=PySem.Challenge.pw_labelways_k70_label_lines.main.body.getD i (.Pass ⟨0,0,0,0⟩)
noncomputable def mth (k i:Nat):Stmt:=match top k with
 | .ClassDef _ _ _ body ..=>body.getD i (.Pass ⟨0,0,0,0⟩)
 | _=>.Pass ⟨0,0,0,0⟩
noncomputable abbrev sNum:Stmt:=top 16
noncomputable abbrev sWi:Stmt:=top 17
noncomputable abbrev sNi:Stmt:=top 18
noncomputable abbrev sIw:Stmt:=top 19
noncomputable abbrev sLl:Stmt:=top 23
noncomputable abbrev sLo:Stmt:=top 24
noncomputable abbrev sEw:Stmt:=top 25
noncomputable abbrev sNw:Stmt:=top 26
noncomputable abbrev sRs:Stmt:=top 27
noncomputable abbrev sRl:Stmt:=top 28
noncomputable abbrev sEi:Stmt:=top 29
noncomputable abbrev sOe:Stmt:=top 30
noncomputable abbrev sFa:Stmt:=top 31
noncomputable abbrev sHo:Stmt:=top 32
noncomputable abbrev sFeed:Stmt:=top 34
noncomputable abbrev sTake:Stmt:=top 35
noncomputable abbrev sSame:Stmt:=top 36
noncomputable abbrev sLa:Stmt:=top 37
noncomputable abbrev sLi:Stmt:=top 38
noncomputable abbrev sLu:Stmt:=top 39
noncomputable abbrev sEn:Stmt:=top 40
noncomputable abbrev sRe:Stmt:=top 41
noncomputable abbrev sSo:Stmt:=top 42
noncomputable abbrev sBd:Stmt:=top 43
noncomputable abbrev sWm:Stmt:=top 44
noncomputable abbrev sBl:Stmt:=top 45
noncomputable abbrev sBent:Stmt:=top 46
noncomputable abbrev sI1:Stmt:=mth 5 0
noncomputable abbrev sLaw:Stmt:=top 47
noncomputable def FeedP (H:Hp)(t p:Addr)(N:Nat):Prop:=∃(ns:List Int)(spot rest:Int),H t=some (.lst [.ref p,.int spot,.int rest])/\H p=some (.lst (ns.map V.int))/\p≠t/\0<=spot/\spot<=N/\0<=rest/\ns.length<=64/\0<ns.length
noncomputable def FeedAt (H:Hp)(t:Addr)(N:Nat):Prop:=∃p:Addr,FeedP H t p N
noncomputable def Sm (t:Addr)(H H':Hp):Prop:=∀b o,b≠t->H b=some o->H' b=some o
theorem Sm.trans {t:Addr}{H H1 H2:Hp}(a:Sm t H H1)(b:Sm t H1 H2):Sm t H H2:=fun c o n e=>b c o n (a c o n e)
theorem Sm.of {t:Addr}{H H':Hp}(h:Same H H'):Sm t H H':=fun b o _ e=>h b o e
theorem same_laid {l:Addr}{H:Hp}{o:HO}(h:H l=none):Same H (upd H l o):=fun b u e=>by rw[upd_ne (ne_of_none e h)];exact e
theorem same_chg {l:Addr}{H H':Hp}{o:HO}(s:Same H H')(h:H l=none):Same H (upd H' l o):=fun b u e=>by rw[upd_ne (ne_of_none e h)];exact s b u e
theorem none_back {H H':Hp}{p:Addr}(s:Same H H')(h:H' p=none):H p=none:=by
 cases e:H p with
 | none=>rfl
 | some o=>rw[s p o e] at h;cases h
theorem sqL_same {K:PySem.W.Frag}{H H':Hp}{a:Addr}{xs:List V}(h:SqL K H a xs)(s:Same H H'):SqL K H' a xs:=by
 rcases h with (h | ⟨o,h⟩) | h
 . exact .inl (.inl (s _ _ h))
 . exact .inl (.inr ⟨o,s _ _ h⟩)
 . exact .inr h
noncomputable def spFeed (K:PySem.W.Frag):Sp:=fun vs H Q _=>∃(a:Addr)(ns:List Int),vs=[.ref a]/\SqL K H a (ns.map V.int)/\ns.length<=63/\∀(t:Addr)(H':Hp),H t=none->FeedAt H' t 0->Same H H'->Q (.ref t) H'
noncomputable def spTakeP:Sp:=fun vs H Q _=>∃(t p:Addr)(N:Nat)(many:Int),vs=[.ref t,.int many]/\FeedP H t p N/\N<1000000/\0<many/\many<1000000 /\
 ∀(r:Int)(H':Hp),0<=r->r<many->FeedP H' t p (N+1)->(∀b,b≠t->H' b=H b)->Q (.int r) H'
section
variable {P:Program}{w:World}{K:PySem.W.Frag}{mg:Str->Option Value}{base:Heap}
theorem scFeed:FnScope ["_law_script"] ["_law_script"] (defScope sFeed):=⟨rfl,rfl,rfl,by decide +kernel,rfl,by decide +kernel,by decide +kernel⟩
theorem ok_feed {f:Addr}{fd:FuncData}(F:Fun K "_law_feed" "_law_feed" sFeed f fd) (mInt:mg "int" = none):FnOk P w K mg base CX0 1 f fd ["_law_script"] (spFeed K):=by
 refine F.ok scFeed (fun vs H Q E h=>?_) (fun cdv A outer s H vs Q E hr h=>?_)
 . obtain⟨a,ns,rfl,_⟩:=h
   rfl
 . obtain⟨a,ns,rfl,hS,hl,k⟩:=h
   have hu0:=hr.units0
   refine⟨_,pss_one (ps_ret (pe_lst (pa_cons (pe_op op_cat (pe_slice sl_list (pv 0) po_none (po_some pe_int)) (pe_op op_rep (pe_lst (pa_cons pe_int pa_nil)) (pe_callTy call_int1 (by rfl) mInt (by decide +kernel) (pa_cons (pe_cmpR (op_eqE hu0) (pv 0) (pe_lst pa_nil) (nomark _)) pa_nil)))) (pa_int (pa_int pa_nil))))),?_⟩
   refine⟨_,rfl,_,rfl,a,_,rfl,hS,fun p hp=>?_⟩
   have s1:=same_laid (o:=.lst (cutV (ns.map V.int) none (some 63))) hp
   have h1:(upd H p (.lst (cutV (ns.map V.int) none (some 63)))) p=some (.lst (cutV (ns.map V.int) none (some 63))):=upd_same
   generalize upd H p (.lst (cutV (ns.map V.int) none (some 63)))=H1 at s1 h1 ⊢
   have e1:cutV (ns.map V.int) none (some 63)=ns.map V.int:=by
    unfold cutV
    rw[HT.sIx_none,List.drop_zero,Nat.sub_zero,List.length_map,show (63:Int)=((63:Nat):Int) from rfl,HT.sIx_nat]
    rw[show min 63 ns.length=ns.length by omega,List.take_of_length_le (by rw[List.length_map];exact Nat.le_refl _)]
   rw[e1] at h1
   refine⟨by show 1<=sizeLine;decide,fun q hq=>?_⟩
   have s2:=same_chg (o:=.lst [.int 0]) s1 (none_back s1 hq)
   have h2:(upd H1 q (.lst [.int 0])) q=some (.lst [.int 0]):=upd_same
   have n2:p≠q:=(ne_of_none h1 hq)
   have h12:(upd H1 q (.lst [.int 0])) p=some (.lst (ns.map V.int)):=by rw[upd_ne n2];exact h1
   generalize upd H1 q (.lst [.int 0])=H2 at s2 h2 h12 ⊢
   refine⟨_,rfl,by show 0<=sizeLine;decide,fun r hr'=>?_⟩
   have s3:=same_chg (o:=.lst []) s2 (none_back s2 hr')
   have h3:(upd H2 r (.lst [])) r=some (.lst []):=upd_same
   have h23:(upd H2 r (.lst [])) q=some (.lst [.int 0]):=by rw[upd_ne (ne_of_none h2 hr')];exact h2
   have h13:(upd H2 r (.lst [])) p=some (.lst (ns.map V.int)):=by rw[upd_ne (ne_of_none h12 hr')];exact h12
   generalize upd H2 r (.lst [])=H3 at s3 h3 h23 h13 ⊢
   refine⟨a,r,_,rfl,rfl,sqL_same hS s3,SqL.of h3,.inr ⟨_,rfl,?_⟩⟩
   have hk:(-(2 ^ 63):Int)<=(if (ns.map V.int).isEmpty=true then (1:Int) else 0)/\(if (ns.map V.int).isEmpty=true then (1:Int) else 0)<2 ^ 63/\[V.int 0].length*(if (ns.map V.int).isEmpty=true then (1:Int) else 0).toNat<=sizeLine/\(List.replicate (if (ns.map V.int).isEmpty=true then (1:Int) else 0).toNat [V.int 0]).flatten=(if ns=[] then [(0:Int)] else []).map V.int:=by
    cases ns with
    | nil=>exact⟨by decide,by decide,by decide,rfl⟩
    | cons _ _=>exact⟨(by decide:(-(2 ^ 63):Int)<=0),(by decide:(0:Int)<2 ^ 63),(by decide:1*(0:Int).toNat<=sizeLine),rfl⟩
   obtain⟨k1,k2,k3,k4⟩:=hk
   refine⟨q,_,_,rfl,rfl,h23,k1,k2,k3,fun u hu=>?_⟩
   rw[k4]
   have s4:=same_chg (o:=.lst ((if ns=[] then [(0:Int)] else []).map V.int)) s3 (none_back s3 hu)
   have h4:(upd H3 u (.lst ((if ns=[] then [(0:Int)] else []).map V.int))) u=some (.lst ((if ns=[] then [(0:Int)] else []).map V.int)):=upd_same
   have h14:(upd H3 u (.lst ((if ns=[] then [(0:Int)] else []).map V.int))) p=some (.lst (ns.map V.int)):=by rw[upd_ne (ne_of_none h13 hu)];exact h13
   generalize upd H3 u (.lst ((if ns=[] then [(0:Int)] else []).map V.int))=H4 at s4 h4 h14 ⊢
   refine⟨p,u,_,_,rfl,rfl,h14,h4,by simp only[List.length_map];split <;> simp only[List.length_cons,List.length_nil] <;> exact Nat.le_trans (Nat.add_le_add_right hl _) (by decide),fun v hv=>?_⟩
   rw[<-List.map_append]
   have s5:=same_chg (o:=.lst ((ns++if ns=[] then [(0:Int)] else []).map V.int)) s4 (none_back s4 hv)
   have h5:(upd H4 v (.lst ((ns++if ns=[] then [(0:Int)] else []).map V.int))) v=some (.lst ((ns++if ns=[] then [(0:Int)] else []).map V.int)):=upd_same
   generalize upd H4 v (.lst ((ns++if ns=[] then [(0:Int)] else []).map V.int))=H5 at s5 h5 ⊢
   refine⟨by show 3<=sizeLine;decide,fun t ht=>?_⟩
   have nvt:v≠t:=ne_of_none h5 ht
   refine k t _ (none_back s5 ht) ⟨v,_,0,0,upd_same,by rw[upd_ne nvt];exact h5,nvt,Int.le_refl _,Int.le_refl _,Int.le_refl _,?_,?_⟩ (same_chg s5 (none_back s5 ht))
   . rw[List.length_append];split <;> simp only[List.length_cons,List.length_nil] <;> omega
   . rw[List.length_append]
     cases ns with
     | nil=>decide
     | cons x y=>simp only[List.length_cons];omega
theorem scTake:FnScope ["_law_feed_here", "_law_many", "_law_found", "_law_spot", "_law_cell", "_law_mixed"] ["_law_feed_here", "_law_many"] (defScope sTake):=⟨rfl,rfl,rfl,by decide +kernel,rfl,by decide +kernel,by decide +kernel⟩
theorem mod_in {a m:Int}(h:0<m):0<=a%m/\a%m<m:=⟨Int.emod_nonneg _ (by omega),Int.emod_lt_of_pos _ h⟩
theorem ok_takeP {f:Addr}{fd:FuncData}(F:Fun K "_law_take" "_law_take" sTake f fd) (mLen:mg "len" = none):FnOk P w K mg base CX0 1 f fd ["_law_feed_here", "_law_many"] spTakeP:=by
 refine F.ok scTake (fun vs H Q E h=>?_) (fun cdv A outer s H vs Q E hr h=>?_)
 . obtain⟨t,p,N,many,rfl,_⟩:=h
   rfl
 . obtain⟨t,p,N,many,rfl,T,hN,hm0,hm1,k⟩:=h
   obtain⟨ns,spot,rest,ht,hp,hne,hs0,hs1,hr0,hl,hl0⟩:=T
   refine⟨_,pss_cons (ps_if (pt_cmpR op_gt (pe_ix ix_list (pv 0) pe_int (fun _ _=>rfl)) pe_int (nomark _))
    (pss_cons (ps_set (i:=2) scTake.nd rfl (Or.inl rfl) (pe_op op_mod (pe_ix ix_list (pv 0) pe_int (fun _ _=>rfl)) (pv 1)))
    (pss_cons (ps_asg (pe_op op_fdiv (pe_ix ix_list (pv 0) pe_int (fun _ _=>rfl)) (pv 1)) (pg_sub (pv 0) pe_int set_list))
    (pss_one (ps_ret (pv 2))))) pss_nil)
    (pss_cons (ps_set (i:=3) scTake.nd rfl (Or.inl rfl) (pe_ix ix_list (pv 0) pe_int (fun _ _=>rfl)))
    (pss_cons (ps_asg (pe_op op_add (pv 3) pe_int) (pg_sub (pv 0) pe_int set_list))
    (pss_cons (ps_set (i:=4) scTake.nd rfl (Or.inl rfl) (pe_ix ix_list (pe_ix ix_list (pv 0) pe_int (fun _ _=>rfl)) (pe_op op_mod (pv 3) (pe_callB call_len_seq (by rfl) mLen PySem.boot_len (pa_cons (pe_ix ix_list (pv 0) pe_int (fun _ _=>rfl)) pa_nil))) (fun _ _=>rfl)))
    (pss_cons (ps_if (pw_and (pt_cmpR op_ge (pv 4) (pe_op op_pow pe_int pe_int) (nomark _)) (pw_and1 (pt_cmpR op_lt (pv 3) (pe_callB call_len_seq (by rfl) mLen PySem.boot_len (pa_cons (pe_ix ix_list (pv 0) pe_int (fun _ _=>rfl)) pa_nil)) (nomark _)))).pt
     (pss_cons (ps_asg (pe_op op_fdiv (pv 4) (pv 1)) (pg_sub (pv 0) pe_int set_list)) (pss_one (ps_ret (pe_op op_mod (pv 4) (pv 1))))) pss_nil)
    (pss_cons (ps_set (i:=5) scTake.nd rfl (Or.inl rfl) (pe_op op_mod (pe_op op_mul (pe_op op_add (pe_op op_add (pe_op op_add (pe_op op_mod (pv 4) pe_int) (pe_op op_mul (pe_op op_mul pe_int (pv 3)) (pv 3))) (pe_op op_mul pe_int (pv 3))) pe_int) pe_int) pe_int))
    (pss_cons (ps_set (i:=5) scTake.nd rfl (Or.inl rfl) (pe_op op_mod (pe_op op_add (pe_op op_add (pe_op op_mul (pv 5) (pv 5)) (pe_op op_mul pe_int (pv 3))) pe_int) pe_int))
    (pss_one (ps_ret (pe_op op_mod (pe_op op_mod (pe_op op_add (pe_op op_mul (pv 5) pe_int) (pv 3)) pe_int) (pv 1)))))))))),?_⟩
   have cd:CDiv 0 many:=⟨hm0,by omega⟩
   refine⟨_,rfl,t,_,_,_,rfl,rfl,SqL.of ht,rfl,_,_,rfl,rfl,_,rfl,?_⟩
   refine ite2 (fun hc=>?_) (fun hc=>?_)
   . have hpos:0<rest:=of_decide_eq_true hc
     refine⟨_,rfl,t,_,_,_,rfl,rfl,SqL.of ht,rfl,_,rfl,_,_,rfl,rfl,hm0,?_⟩
     refine⟨_,rfl,t,_,_,_,rfl,rfl,SqL.of ht,rfl,_,rfl,_,_,rfl,rfl,cd,?_⟩
     refine⟨_,rfl,t,_,_,2,rfl,rfl,ht,rfl,?_⟩
     refine⟨_,rfl,?_⟩
     refine k _ _ (mod_in hm0).1 (mod_in hm0).2 ⟨ns,spot,rest/many,upd_same,by rw[upd_ne hne];exact hp,hne,hs0,by omega,Int.ediv_nonneg hr0 (by omega),hl,hl0⟩ fun b hb=>upd_ne hb
   . -- spot=feed[1];feed[1]=spot+1
     refine⟨_,rfl,t,_,_,_,rfl,rfl,SqL.of ht,rfl,?_⟩
     refine⟨_,rfl,_,_,rfl,rfl,_,rfl,t,_,_,1,rfl,rfl,ht,rfl,?_⟩
     have ht1:(upd H t (.lst [.ref p,.int (spot+1),.int rest])) t=some (.lst [.ref p,.int (spot+1),.int rest]):=upd_same
     have hp1:(upd H t (.lst [.ref p,.int (spot+1),.int rest])) p=some (.lst (ns.map V.int)):=by rw[upd_ne hne];exact hp
     have h2:0<((ns.map V.int).length:Int):=by rw[List.length_map];omega
     have ex:∃c,atI (ns.map V.int) (spot%((ns.map V.int).length:Int))=some (.int c):=by
      have hb:=mod_in (a:=spot) h2
      obtain⟨j,hj⟩:=Int.eq_ofNat_of_zero_le hb.1
      have hlt:j<ns.length:=by
       have h2:=hb.2
       rw[hj,List.length_map] at h2
       omega
      refine⟨ns[j],?_⟩
      rw[hj]
      exact atI_nat (by simp[hlt])
     obtain⟨c,hc⟩:=ex
     refine⟨_,rfl,t,_,_,_,rfl,rfl,SqL.of ht1,rfl,_,rfl,_,rfl,t,_,_,_,rfl,rfl,SqL.of ht1,rfl,p,_,rfl,.inl (SqL.of hp1),_,_,rfl,rfl,h2,p,_,_,_,rfl,rfl,SqL.of hp1,hc,?_⟩
     refine⟨_,rfl,_,_,rfl,rfl,⟨by decide,by decide,by decide⟩,_,_,rfl,rfl,_,rfl,?_⟩
     refine ite2 (fun h3=>?_) (fun h3=>?_)
     all_goals first
      | (refine⟨_,rfl,_,rfl,t,_,_,_,rfl,rfl,SqL.of ht1,rfl,p,_,rfl,.inl (SqL.of hp1),_,_,rfl,rfl,_,rfl,?_⟩;refine ite2 (fun h4=>?_) (fun h4=>?_))
      | refine iteF ?_
     all_goals first
      | (refine⟨_,rfl,_,rfl,_,_,rfl,rfl,⟨hm0,by omega⟩,_,rfl,t,_,_,2,rfl,rfl,ht1,rfl,?_⟩
         refine⟨_,rfl,_,rfl,_,_,rfl,rfl,hm0,?_⟩
         refine k _ _ (mod_in hm0).1 (mod_in hm0).2 ⟨ns,spot+1,_,upd_same,by rw[upd_ne hne];exact hp1,hne,by omega,by omega,Int.ediv_nonneg (Int.le_trans (show (0:Int)<=10 ^ (18:Int).toNat by decide) (of_decide_eq_true h3)) (by omega),hl,hl0⟩ fun b hb=>by rw[upd_ne hb,upd_ne hb])
      | (refine⟨_,rfl,_,_,rfl,rfl,(by dsimp only;decide),_,rfl,_,_,rfl,rfl,.inl ⟨by decide,by decide⟩,_,rfl,_,_,rfl,rfl,.inr ⟨by omega,by omega⟩,_,_,rfl,rfl,_,rfl,_,_,rfl,rfl,.inl ⟨by decide,by decide⟩,_,_,rfl,rfl,_,_,rfl,rfl,_,_,rfl,rfl,.inr ⟨by decide,by decide⟩,_,_,rfl,rfl,(by dsimp only;decide),?_⟩
         generalize hx:(c%1000003+37*spot*spot+11*spot+5)*48271%2147483629=x1
         have hx1:0<=x1/\x1<2147483629:=by rw[<-hx];exact mod_in (by decide)
         refine⟨_,rfl,_,rfl,_,_,rfl,rfl,.inl ⟨by omega,by omega⟩,_,rfl,_,_,rfl,rfl,.inl ⟨by decide,by decide⟩,_,_,rfl,rfl,_,_,rfl,rfl,_,_,rfl,rfl,(by dsimp only;decide),?_⟩
         refine⟨_,rfl,_,_,rfl,rfl,.inr ⟨by decide,by decide⟩,_,rfl,_,_,rfl,rfl,_,_,rfl,rfl,(by dsimp only;decide),_,rfl,_,_,rfl,rfl,hm0,?_⟩
         refine k _ _ (mod_in hm0).1 (mod_in hm0).2 ⟨ns,spot+1,rest,ht1,hp1,hne,by omega,by omega,hr0,hl,hl0⟩ fun b hb=>upd_ne hb)
end
end K70
namespace K70
open PySem L2 WM
theorem ps_as {X:Cx}{st:Stmt}{u u':TS}(h:PS X st u)(m:∀D σ H,u' D σ H->u D σ H):PS X st u':=fun pins s σ H D I q=>h pins s σ H D I (m D σ H q)
theorem ifT {c:Bool}{p q:Prop}(h:c=true)(hp:p):(if c=true then p else q):=by rw[if_pos h];exact hp
theorem ifF {c:Bool}{p q:Prop}(h:c=false)(hq:q):(if c=true then p else q):=by rw[if_neg (by simp[h])];exact hq
noncomputable def spNum:Sp:=fun vs H Q _=>∃i:Int,vs=[.int i]/\Q (.bl true) H
section
variable {P:Program}{w:World}{K:PySem.W.Frag}{mg:Str->Option Value}{base:Heap}
theorem scNum:FnScope ["thing"] ["thing"] (defScope sNum):=⟨rfl,rfl,rfl,by decide +kernel,rfl,by decide +kernel,by decide +kernel⟩
theorem ok_num {f:Addr}{fd':FuncData}(F:Fun K "is_number" "is_number" sNum f fd') (mIsi:mg "isinstance" = none) (mInt:mg "int" = none) (mBool:mg "bool" = none):FnOk P w K mg base CX0 1 f fd' ["thing"] spNum:=by
 refine F.ok scNum (fun vs H Q E h=>?_) (fun cdv A outer s H vs Q E hr h=>?_)
 . obtain⟨i,rfl,_⟩:=h
   rfl
 . obtain⟨i,rfl,k⟩:=h
   refine⟨_,pss_one (ps_ret (pe_and (pe_callB call_isinst (by rfl) mIsi (by decide +kernel) (pa_cons (pv 0) (pa_cons (pe_tyN (T := "int") (by rfl) mInt (by decide +kernel)) pa_nil)))
    (pe_one (pe_not (pe_callB call_isinst (by rfl) mIsi (by decide +kernel) (pa_cons (pv 0) (pa_cons (pe_tyN (T := "bool") (by rfl) mBool (by decide +kernel)) pa_nil))))))),?_⟩
   refine⟨_,rfl,_,_,_,true,rfl,.int i,rfl,true,rfl,iteT ?_⟩
   exact⟨_,rfl,_,_,_,false,rfl,.int i,rfl,false,rfl,k⟩
end
open DG
noncomputable def spWiB:Sp:=fun vs H Q _=>∃i a b:Int,vs=[.int i,.int a,.int b]/\Q (.bl (decide (a<=i/\i<=b))) H
noncomputable def spIw:Sp:=fun vs H Q _=>∃z:Str,vs=[.str z]/\z.length<=100000/\∀b H',(b=true↔Dg z)->Same H H'->Q (.bl b) H'
noncomputable def oI:Option Int->V
 | none=>.non
 | some i=>.int i
noncomputable def spNi:Sp:=fun vs H Q _=>∃(z:Str)(lo hi:Int),vs=[.str z,.int lo,.int hi]/\z.length<=100000/\0<=lo/\0<=hi/\hi<1000000000000000/\∀H',Same H H'->Q (oI (numB z lo hi)) H'
section
variable {P:Program}{w:World}{K:PySem.W.Frag}{mg:Str->Option Value}{base:Heap}
theorem scWi:FnScope ["thing", "least", "most"] ["thing", "least", "most"] (defScope sWi):=⟨rfl,rfl,rfl,by decide +kernel,rfl,by decide +kernel,by decide +kernel⟩
theorem ok_wiB {f fN:Addr}{fd' fdN:FuncData}(F:Fun K "is_within" "is_within" sWi f fd') (FN:Fun K "is_number" "is_number" sNum fN fdN) (bN:Binds K fdN ["thing"] []) (mN:mg "is_number" = some (.ref fN)) (mIsi:mg "isinstance" = none) (mInt:mg "int" = none) (mBool:mg "bool" = none) :
 FnOk P w K mg base CX0 2 f fd' ["thing", "least", "most"] spWiB:=by
 have GN:FnOk P w K mg base CX0 1 fN fdN ["thing"] spNum:=ok_num FN mIsi mInt mBool
 refine F.ok scWi (fun vs H Q E h=>?_) (fun cdv A outer s H vs Q E hr h=>?_)
 . obtain⟨i,a,b,rfl,_⟩:=h
   rfl
 . obtain⟨i,a,b,rfl,k⟩:=h
   refine⟨_,pss_one (ps_ret (pe_and (pe_call GN hr rfl mN FN.kp bN .nil pass0 (pa_cons (pv 0) pa_nil)) (pe_and (pe_cmpR op_le (pv 1) (pv 0) (nomark _)) (pe_one (pe_cmpR op_le (pv 0) (pv 2) (nomark _)))))),?_⟩
   refine⟨_,rfl,i,rfl,true,rfl,iteT ?_⟩
   refine⟨_,rfl,_,rfl,_,_,rfl,rfl,_,rfl,?_⟩
   by_cases h1:a<=i
   . refine ifT (decide_eq_true h1) ?_
     refine⟨_,rfl,_,rfl,_,_,rfl,rfl,?_⟩
     have e:decide (a<=i/\i<=b)=decide (i<=b):=by simp[h1]
     rw[e] at k
     exact k
   . refine ifF (decide_eq_false h1) ?_
     have e:decide (a<=i/\i<=b)=false:=by simp[h1]
     rw[e] at k
     exact k
theorem scIw:FnScope ["word"] ["word"] (defScope sIw):=⟨rfl,rfl,rfl,by decide +kernel,rfl,by decide +kernel,by decide +kernel⟩
theorem at_head {l:List Nat}(h:l≠[]):∃c,l.head? = some c/\atI l 0=some c:=by
 cases l with
 | nil=>exact absurd rfl h
 | cons a as=>exact⟨a,rfl,atI_nat (j:=0) rfl⟩
noncomputable def LdOk (z:Str):Prop:=z.cps.toList≠[]/\(z.cps.toList.head? = some 48->z.cps.toList=[48])
noncomputable def tLd:TS:=fun D σ H=>∃z:Str,σ[0]? = some (some (.str z))/\z.length<=100000/\(¬ LdOk z->D.rt (.bl false) H)/\(LdOk z->D.nx σ H)
theorem fig_in (c:Nat):(!(Builtin.Str.occurrences (Str.ofString "0123456789") ⟨#[c]⟩ 0 (Str.ofString "0123456789").length 1).isEmpty)=decide (48<=c/\c<=57):=by
 rw[StrLaws.found_one]
 have e:(Str.ofString "0123456789").cps.toList=[48,49,50,51,52,53,54,55,56,57]:=by decide
 rw[e,Bool.eq_iff_iff,decide_eq_true_eq,decide_eq_true_eq]
 simp only[List.mem_cons,List.not_mem_nil,or_false]
 omega
theorem ok_iw {f:Addr}{fd':FuncData}{tk:Tok}(F:Fun K "is_written" "is_written" sIw f fd') (mFig:mg "FIGURES" = some (.str (Str.ofString "0123456789") tk)) (mAll:mg "all" = none) :
 FnOk P w K mg base CX0 1 f fd' ["word"] spIw:=by
 refine F.ok scIw (fun vs H Q E h=>?_) (fun cdv A outer s H vs Q E hr h=>?_)
 . obtain⟨z,rfl,_⟩:=h
   rfl
 . obtain⟨z,rfl,hz,k⟩:=h
   have hl:100001<=sizeLine:=by decide
   refine⟨_,pss_cons (ps_as (u':=tLd) (ps_if (PW.pt (pw_or (pt_cmpR op_eq (pv 0) pe_str (nomark _)) (pw_or1 (PW.pt (pw_and (pt_cmpR op_eq (pe_ix ix_str (pv 0) pe_int (fun _ _=>rfl)) pe_str (nomark _)) (pw_and1 (pt_cmpR op_ne (pv 0) pe_str (nomark _)))))))) (pss_one (ps_ret pe_bl)) pss_nil) ?ld)
    (pss_one (ps_ret (pe_callB (call_all rfl) (by rfl) mAll (by decide +kernel) (pa_cons (pe_comp (own:=["sign"]) (cn:=[]) (ci:=[]) rfl (csc rfl rfl) trivial rfl (pi_str (pv 0)) (fun _ _ _ _=>pg_name (i:=0) (nd_of rfl) rfl (Or.inl rfl)) (fun _ _ _ _=>pts_nil)
     (fun _ _ _ _=>pe_cmpR op_in_str (pv 0) (pe_glob (v:=.str (Str.ofString "0123456789")) rfl mFig ⟨_,rfl⟩) (by with_unfolding_all rfl))) pa_nil)))),?_⟩
   case ld=>
    intro D σ H ⟨z,hσ,hz,h1,h2⟩
    refine⟨_,hσ,rfl,_,rfl,?_⟩
    by_cases he:z.cps.toList=[]
    . have ez:z=Str.ofString "" := str_ext (he.trans rfl)
      refine ifT (decide_eq_true (by rw[ez])) ?_
      exact ifT rfl (h1 fun x=>x.1 he)
    have hne:V.str z≠V.str (Str.ofString ""):=fun x=>he (by injection x with x;rw[x];rfl)
    obtain⟨c,hc,hat⟩:=at_head he
    refine ifF (decide_eq_false hne) ?_
    refine⟨_,hσ,z,0,c,rfl,rfl,by omega,hat,rfl,_,rfl,?_⟩
    by_cases h0:c=48
    . subst h0
      refine ifT (decide_eq_true rfl) ?_
      refine⟨_,hσ,rfl,_,rfl,?_⟩
      by_cases h3:z.cps.toList=[48]
      . have ez:z=Str.ofString "0" := str_ext (h3.trans rfl)
        refine ifF (by rw[decide_eq_true (show V.str z=V.str (Str.ofString "0") by rw[ez])];rfl) ?_
        exact h2 ⟨he,fun _=>h3⟩
      . refine ifT (by rw[decide_eq_false (show V.str z≠V.str (Str.ofString "0") from fun x=>h3 (by injection x with x;rw[x];rfl))];rfl) ?_
        exact h1 fun x=>h3 (x.2 hc)
    . refine ifF (decide_eq_false (fun x=>h0 (by injection x with x;have y:=congrArg (fun z:Str=>z.cps.toList) x;exact (List.cons.inj (show [c]=[48] from y)).1))) ?_
      refine ifF rfl ?_
      exact h2 ⟨he,fun x=>absurd (by rw[hc] at x;injection x) h0⟩
   refine⟨z,rfl,hz,fun n=>k false H ⟨fun x=>(by cases x),fun d=>absurd ⟨d.ne,d.lead⟩ n⟩ (Same.refl _),fun ld=>?_⟩
   refine⟨_,rfl,z,rfl,[],rfl,fun D hD=>?_⟩
   let bs:List Bool:=z.cps.toList.map fun c=>decide (48<=c/\c<=57)
   have hsz:z.cps.size=z.cps.toList.length:=Array.length_toList.symm
   have hzl:z.length=z.cps.size:=rfl
   refine comp_str (fun i ys H4=>ys=(bs.take i).map V.bl/\H4=upd H D (.lst ys)) ⟨rfl,rfl⟩ (fun i ys H4 y=>?_) (fun i c ys H4 hc y=>?_) (fun ys H4 y=>?_)
   . rw[y.1,List.length_map,List.length_take,List.length_map]
     omega
   . obtain⟨e1,e2⟩:=y
     subst e1 e2
     refine⟨⟨rfl,rfl⟩,?_⟩
     refine tyes ?_
     refine⟨_,rfl,_,_,rfl,rfl,upd_same,?_,upd_upd⟩
     rw[fig_in c]
     have hb:bs[i]? = some (decide (48<=c/\c<=57)):=by
      rw[List.getElem?_map,Array.getElem?_toList,hc]
      rfl
     rw[List.take_add_one,hb,List.map_append]
     rfl
   . obtain⟨e1,e2⟩:=y
     subst e1 e2
     refine⟨D,bs,rfl,SqL.of ?_,?_⟩
     . rw[upd_same,List.take_of_length_le (by rw[List.length_map];omega)]
     . refine k _ _ ?_ (same_laid hD)
       rw[List.all_eq_true]
       constructor
       . intro h
         refine⟨fun c hc=>?_,ld.1,ld.2⟩
         exact of_decide_eq_true (h _ (List.mem_map.mpr ⟨c,hc,rfl⟩))
       . intro d b hb
         obtain⟨c,hc,rfl⟩:=List.mem_map.mp hb
         exact decide_eq_true (d.all c hc)
end
end K70
namespace K70
open PySem L2 WM
open DG
section
variable {P:Program}{w:World}{K:PySem.W.Frag}{mg:Str->Option Value}{base:Heap}
theorem scNi:FnScope ["word", "least", "most", "number"] ["word", "least", "most"] (defScope sNi):=⟨rfl,rfl,rfl,by decide +kernel,rfl,by decide +kernel,by decide +kernel⟩
noncomputable def tNi (z:Str)(hi:Int):TS:=fun D σ H=>σ[0]? = some (some (.str z))/\σ[2]? = some (some (.int hi))/\(∀H',Same H H'->¬ (Dg z/\(dv z:Int)<=hi)->D.rt .non H')/\(∀H',Same H H'->Dg z->z.length<=20->D.nx σ H')
theorem log_small {k:Int}(h0:0<=k)(h:k<1000000000000000):(Str.ofString (toString k)).length<=20:=by
 obtain⟨m,rfl⟩:=Int.eq_ofNat_of_zero_le h0
 rw[len_num]
 have:=len_mono (show m<=999999999999999 by omega)
 exact Nat.le_trans this (by decide)
theorem ok_ni {f fI fW fN:Addr}{fd' fdI fdW fdN:FuncData}{tk:Tok}(F:Fun K "number_in" "number_in" sNi f fd') (FI:Fun K "is_written" "is_written" sIw fI fdI) (bI:Binds K fdI ["word"] []) (mI:mg "is_written" = some (.ref fI))
 (FW:Fun K "is_within" "is_within" sWi fW fdW) (bW:Binds K fdW ["thing", "least", "most"] []) (mW:mg "is_within" = some (.ref fW)) (FN:Fun K "is_number" "is_number" sNum fN fdN) (bN:Binds K fdN ["thing"] []) (mN:mg "is_number" = some (.ref fN))
 (mFig:mg "FIGURES" = some (.str (Str.ofString "0123456789") tk)) (mAll:mg "all" = none) (mLen:mg "len" = none) (mStr:mg "str" = none) (mIsi:mg "isinstance" = none) (mInt:mg "int" = none) (mBool:mg "bool" = none) :
 FnOk P w K mg base CX0 3 f fd' ["word", "least", "most"] spNi:=by
 have GI:FnOk P w K mg base CX0 2 fI fdI ["word"] spIw:=(ok_iw FI mFig mAll).mono (by decide)
 have GW':FnOk P w K mg base CX0 2 fW fdW ["thing", "least", "most"] spWiB:=ok_wiB FW FN bN mN mIsi mInt mBool
 refine F.ok scNi (fun vs H Q E h=>?_) (fun cdv A outer s H vs Q E hr h=>?_)
 . obtain⟨z,lo,hi,rfl,_⟩:=h
   rfl
 . obtain⟨z,lo,hi,rfl,hz,h0,h1,h2,k⟩:=h
   have hl:100001<=sizeLine:=by decide
   have hm:=log_small h1 h2
   refine⟨_,pss_cons (ps_as (u':=tNi z hi) (ps_if (PW.pt (pw_or (pt_cmpR op_gt (pe_callB call_len_str (by rfl) mLen PySem.boot_len (pa_cons (pv 0) pa_nil)) (pe_callB call_len_str (by rfl) mLen PySem.boot_len (pa_cons (pe_callTy call_strJ (by rfl) mStr (by decide +kernel) (pa_cons (pv 2) pa_nil)) pa_nil)) (nomark _)) (pw_or1 (pt_not (pt_val (pe_call GI hr rfl mI FI.kp bI .nil pass0 (pa_cons (pv 0) pa_nil))))))) (pss_one (ps_ret pe_non)) pss_nil) ?ld)
    (pss_cons (ps_set (i:=3) scNi.nd rfl (Or.inl rfl) (pe_callTy call_intS (by rfl) mInt (by decide +kernel) (pa_cons (pv 0) pa_nil)))
    (pss_one (ps_ret (pe_ifExp (pt_val (pe_call GW' hr rfl mW FW.kp bW .nil pass0 (pa_cons (pv 3) (pa_cons (pv 1) (pa_cons (pv 2) pa_nil))))) (pv 3) pe_non)))),?_⟩
   case ld=>
    intro D σ H1 ⟨e1,e2,r1,r2⟩
    refine⟨_,e1,z,rfl,by omega,_,e2,hi,rfl,by omega,_,rfl,by omega,_,_,rfl,rfl,_,rfl,?_⟩
    by_cases hlen:(Str.ofString (toString hi)).length<z.length
    . refine ifT (decide_eq_true (by omega)) ?_
      refine ifT rfl ?_
      refine r1 H1 (Same.refl _) fun ⟨d,le⟩=>?_
      obtain⟨m,rfl⟩:=Int.eq_ofNat_of_zero_le h1
      have:=d.len (M:=m) (by omega)
      omega
    refine ifF (decide_eq_false (by omega)) ?_
    refine⟨_,e1,z,rfl,hz,fun b H2 hb sm=>⟨_,rfl,?_⟩⟩
    cases b with
    | false=>
     refine ifT rfl ?_
     exact r1 H2 sm fun d=>by have:=hb.mpr d.1;cases this
    | true=>
     refine ifF rfl ?_
     exact r2 H2 sm (hb.mp rfl) (by omega)
   refine⟨rfl,rfl,fun H' sm n=>?_,fun H' sm d hl2=>?_⟩
   . have e:numB z lo hi=none:=by
      unfold numB
      rw[if_neg (fun x=>n ⟨x.1,x.2.2⟩)]
     have:=k H' sm
     rw[e] at this
     exact this
   . refine⟨_,rfl,z,_,rfl,d.reads (by omega),by omega,?_⟩
     refine⟨_,rfl,_,rfl,_,rfl,_,_,_,rfl,_,rfl,?_⟩
     by_cases c:lo<=(dv z:Int)/\(dv z:Int)<=hi
     . refine ifT (decide_eq_true c) ?_
       have e:numB z lo hi=some (dv z:Int):=by
        unfold numB
        rw[if_pos ⟨d,c.1,c.2⟩]
       have:=k H' sm
       rw[e] at this
       exact⟨_,rfl,this⟩
     . refine ifF (decide_eq_false c) ?_
       have e:numB z lo hi=none:=by
        unfold numB
        rw[if_neg (fun x=>c x.2)]
       have:=k H' sm
       rw[e] at this
       exact this
end
end K70
namespace K70
open PySem L2 WM
theorem upd_3 {H:Hp}{dx e:Addr}{o1 o2 x:HO}(n:dx≠e):upd (upd (upd H dx o1) e x) dx o2=upd (upd H dx o2) e x:=by
 funext b
 by_cases h1:b=dx
 . subst h1;rw[upd_same,upd_ne n,upd_same]
 . by_cases h2:b=e
   . subst h2;rw[upd_ne h1,upd_same,upd_same]
   . rw[upd_ne h1,upd_ne h2,upd_ne h1,upd_ne h2,upd_ne h1]
section
variable {P:Program}{w:World}{K:PySem.W.Frag}{mg:Str->Option Value}{base:Heap}
theorem scI1:FnScope ["self", "line", "word"] ["self", "line", "word"] (defScope sI1):=⟨rfl,rfl,rfl,by decide +kernel,rfl,by decide +kernel,by decide +kernel⟩
theorem ok_I1 {C f:Addr}{fd':FuncData}(F:Fun K "__init__" "NoText.__init__" sI1 f fd') (EI:ExcI K C f)(mo:PySem.W.mroIn K C (.type "object")=some true) (n1:PySem.W.findIn K (.ref C) "line" = some none) (n2:PySem.W.findIn K (.ref C) "word" = some none):FnOk P w K mg base CX0 1 f fd' ["self", "line", "word"] (spXI C "line" "word"):=by
 refine F.ok scI1 (fun vs H Q E h=>?_) (fun cdv A outer s H vs Q E hr h=>?_)
 . obtain⟨e,t,v1,v2,rfl,_⟩:=h
   rfl
 . obtain⟨e,t,v1,v2,rfl,he,k⟩:=h
   refine⟨_,pss_cons (ps_fldX EI mo n1 (pv 0) (pv 1)) (pss_one (ps_fldX EI mo n2 (pv 0) (pv 2))),?_⟩
   refine⟨_,rfl,_,rfl,e,t,rfl,.inl ⟨he,fun dx hdx=>?_⟩⟩
   have ne:dx≠e:=fun z=>by rw[z,he] at hdx;cases hdx
   refine⟨_,rfl,_,rfl,e,t,rfl,.inr ⟨dx,_,upd_same,by rw[upd_ne ne,upd_same],by show 1<900;decide,?_⟩⟩
   show Q _ _
   rw[upd_3 ne]
   exact k dx hdx ne
end
open DG
noncomputable def FldT (H:Hp)(dx:Addr)(i k:Int):Prop:=H dx=some (dO dx [("line",.int i),("word",.int k)])
theorem sp32:Str.ofString " " = ⟨#[32]⟩:=by decide
noncomputable abbrev wds (z:Str):List Str:=Txt.split z (Str.ofString " ")
theorem fld_fail {H H1:Hp}{C:Addr}{i k:Int}{E:XK}(s1:Same H H1)(kE:∀dx H',Same H H'->FldT H' dx i k->E (.ref C) (some dx) H') :
 ∀tt dx,H1 tt=none->H1 dx=none->tt≠dx->E (.ref C) (some dx) (upd (upd H1 tt (.tup [.int i,.int k])) dx (dO dx [("line",.int i),("word",.int k)])):=fun tt dx ht hd ne=>
 kE _ _ (s1.trans ((same_laid (o:=.tup [.int i,.int k]) ht).trans (same_laid (o:=dO dx [("line",.int i),("word",.int k)]) (by rw[upd_ne (Ne.symm ne)];exact hd)))) upd_same
theorem len_cps (z:Str):z.length=z.cps.toList.length:=Array.length_toList.symm
theorem mem_join_len {c:Nat}:∀{ws:List Str}{y:Str},y∈ws->y.length<=(Str.join ⟨#[c]⟩ ws).length
 | [],_,h=>absurd h (by simp)
 | [p],y,h=>by rw[List.mem_singleton.mp h];exact Nat.le_refl _
 | p::q::r,y,h=>by
  have e:(Str.join ⟨#[c]⟩ (p::q::r)).length=p.length+(1+(Str.join ⟨#[c]⟩ (q::r)).length):=by
   rw[len_cps,join_cps,List.length_append,List.length_cons,<-len_cps,<-len_cps]
   omega
  rcases List.mem_cons.mp h with h | h
  . rw[h,e];omega
  . have:=mem_join_len (c:=c) h
    rw[e];omega
theorem split_le {z y:Str}(h:y∈wds z):y.length<=z.length:=by
 have e:=StrLaws.join_split z (Str.ofString " ")
 have:=mem_join_len (c:=32) h
 rw[<-sp32,e] at this
 exact this
theorem split_len {z y:Str}(hz:z.length<=100000)(h:y∈wds z):y.length<=100000:=Nat.le_trans (split_le h) hz
open DG
noncomputable abbrev E4:=Int×Int×Option (Int×Int)
noncomputable def e4V:E4->List V
 | (h,l,none)=>[.int h,.int l,.non,.non]
 | (h,l,some (u,d))=>[.int h,.int l,.int u,.int d]
theorem e4V_len (e:E4):(e4V e).length=4:=by
 obtain⟨h,l,o⟩:=e
 cases o with
 | none=>rfl
 | some q=>rfl
theorem e4V_0 (e:E4):(e4V e)[0]? = some (.int e.1):=by
 obtain⟨h,l,o⟩:=e
 cases o with
 | none=>rfl
 | some q=>rfl
theorem e4V_1 (e:E4):(e4V e)[1]? = some (.int e.2.1):=by
 obtain⟨h,l,o⟩:=e
 cases o with
 | none=>rfl
 | some q=>rfl
noncomputable def EsAt (H:Hp)(xs:List V)(es:List E4):Prop:=xs.length=es.length/\∀(i:Nat)(e:E4),es[i]? = some e->∃p:Addr,xs[i]? = some (.ref p)/\H p=some (.tup (e4V e))
theorem EsAt.keepT {H H':Hp}{xs:List V}{es:List E4}(h:EsAt H xs es)(k:∀b ys,H b=some (.tup ys)->H' b=some (.tup ys)):EsAt H' xs es:=⟨h.1,fun i e hi=>by
 obtain⟨p,a,b⟩:=h.2 i e hi
 exact⟨p,a,k _ _ b⟩⟩
theorem EsAt.keep {H H':Hp}{xs:List V}{es:List E4}(h:EsAt H xs es)(k:Same H H'):EsAt H' xs es:=h.keepT fun b _ e=>k b _ e
theorem EsAt.nil {H:Hp}:EsAt H [] []:=⟨rfl,fun i e h=>by simp at h⟩
theorem EsAt.snoc {H:Hp}{xs:List V}{es:List E4}{p:Addr}{e:E4}(h:EsAt H xs es)(hp:H p=some (.tup (e4V e))):EsAt H (xs++[.ref p]) (es++[e]):=by
 have hl:=h.1
 refine⟨by rw[List.length_append,List.length_append,hl];rfl,fun i x hx=>?_⟩
 by_cases c:i<es.length
 . rw[List.getElem?_append_left c] at hx
   obtain⟨q,a,b⟩:=h.2 i x hx
   exact⟨q,by rw[List.getElem?_append_left (by omega)];exact a,b⟩
 . rw[List.getElem?_append_right (by omega)] at hx
   have ei:i-es.length=0:=by
    by_cases z:i-es.length=0
    . exact z
    . obtain⟨m,hm⟩:∃m,i-es.length=m+1:=⟨i-es.length-1,by omega⟩
      rw[hm] at hx
      simp at hx
   rw[ei] at hx
   cases hx
   exact⟨p,by rw[List.getElem?_append_right (by omega),hl,ei];rfl,hp⟩
theorem EsAt.get {H:Hp}{xs:List V}{es:List E4}{i:Nat}{x:V}(h:EsAt H xs es)(hx:xs[i]? = some x):∃e p,es[i]? = some e/\x = .ref p/\H p=some (.tup (e4V e)):=by
 have hi:=(List.getElem?_eq_some_iff.mp hx).1
 have hi2:i<es.length:=by rw[<-h.1];exact hi
 obtain⟨p,a,b⟩:=h.2 i es[i] (List.getElem?_eq_getElem hi2)
 rw[hx] at a
 exact⟨_,p,List.getElem?_eq_getElem hi2,Option.some.inj a,b⟩
noncomputable def EL (H:Hp)(l:Addr)(es:List E4):Prop:=∃xs,H l=some (.lst xs)/\EsAt H xs es
theorem EL.keep {H H':Hp}{l:Addr}{es:List E4}(h:EL H l es)(k:Same H H'):EL H' l es:=by
 obtain⟨xs,a,b⟩:=h
 exact⟨xs,k _ _ a,b.keep k⟩
noncomputable def LT (H:Hp)(xs:List V)(ls:List (List E4)):Prop:=xs.length=ls.length/\∀(i:Nat)(l:List E4),ls[i]? = some l->∃(p:Addr)(ys:List V),xs[i]? = some (.ref p)/\H p=some (.tup ys)/\EsAt H ys l
theorem LT.keepT {H H':Hp}{xs:List V}{ls:List (List E4)}(h:LT H xs ls)(k:∀b ys,H b=some (.tup ys)->H' b=some (.tup ys)):LT H' xs ls:=⟨h.1,fun i l hi=>by
 obtain⟨p,ys,a,b,c⟩:=h.2 i l hi
 exact⟨p,ys,a,k _ _ b,c.keepT k⟩⟩
theorem LT.nil {H:Hp}:LT H [] []:=⟨rfl,fun i e h=>by simp at h⟩
theorem LT.snoc {H:Hp}{xs ys:List V}{ls:List (List E4)}{p:Addr}{l:List E4}(h:LT H xs ls)(hp:H p=some (.tup ys))(hl:EsAt H ys l):LT H (xs++[.ref p]) (ls++[l]):=by
 have hle:=h.1
 refine⟨by rw[List.length_append,List.length_append,hle];rfl,fun i x hx=>?_⟩
 by_cases c:i<ls.length
 . rw[List.getElem?_append_left c] at hx
   obtain⟨q,zs,a,b,d⟩:=h.2 i x hx
   exact⟨q,zs,by rw[List.getElem?_append_left (by omega)];exact a,b,d⟩
 . rw[List.getElem?_append_right (by omega)] at hx
   have ei:i-ls.length=0:=by
    by_cases z:i-ls.length=0
    . exact z
    . obtain⟨m,hm⟩:∃m,i-ls.length=m+1:=⟨i-ls.length-1,by omega⟩
      rw[hm] at hx
      simp at hx
   rw[ei] at hx
   cases hx
   exact⟨p,ys,by rw[List.getElem?_append_right (by omega),hle,ei];rfl,hp,hl⟩
theorem LT.get {H:Hp}{xs:List V}{ls:List (List E4)}{i:Nat}{x:V}(h:LT H xs ls)(hx:xs[i]? = some x):∃l p ys,ls[i]? = some l/\x = .ref p/\H p=some (.tup ys)/\EsAt H ys l:=by
 have hi:=(List.getElem?_eq_some_iff.mp hx).1
 have hi2:i<ls.length:=by rw[<-h.1];exact hi
 obtain⟨p,ys,a,b,c⟩:=h.2 i ls[i] (List.getElem?_eq_getElem hi2)
 rw[hx] at a
 exact⟨_,p,ys,List.getElem?_eq_getElem hi2,Option.some.inj a,b,c⟩
noncomputable def LabT (H:Hp)(a:Addr)(ls:List (List E4)):Prop:=∃xs,H a=some (.tup xs)/\LT H xs ls
theorem LabT.keep {H H':Hp}{a:Addr}{ls:List (List E4)}(h:LabT H a ls)(k:Same H H'):LabT H' a ls:=by
 obtain⟨xs,b,c⟩:=h
 exact⟨xs,k _ _ b,c.keepT fun b _ e=>k b _ e⟩
noncomputable def lowH (es:List E4):Int:=match es.getLast? with
 | none=>0
 | some e=>e.1+1
noncomputable def own (es:List E4):Bool:=es.any fun e=>decide (e.2.1=0)
noncomputable abbrev BIG:Int:=999999999999
noncomputable abbrev cls (w:Str):List Str:=Txt.split w (Str.ofString ":")
noncomputable abbrev dash:Str:=Str.ofString "-"
noncomputable def UpE (es:List E4):Prop:=es.Pairwise (fun a b=>a.1<b.1)/\∀e∈es,0<=e.1
theorem UpE.low {es:List E4}(h:UpE es):0<=lowH es:=by
 unfold lowH
 cases e:es.getLast? with
 | none=>exact Int.le_refl _
 | some x=>have:=h.2 x (List.mem_of_getLast? e);show 0<=x.1+1;omega
noncomputable def farE (n:Int)(h l:Int)(p2 p3:Str):Option E4:=(numB p2 0 (n-1)).bind fun u=>(numB p3 0 (n-1)).bind fun d=>some (h,l,some (u,d))
noncomputable def ownE (es:List E4)(h:Int)(p2 p3:Str):Option E4:=if own es=true\/p2≠dash\/p3≠dash then none else some (h,0,none)
noncomputable def rdE (n:Int)(es:List E4)(w:Str):Option E4:=match cls w with
 | [p0,p1,p2,p3]=>(numB p0 (lowH es) (n-1)).bind fun h=>(numB p1 0 BIG).bind fun l=>if l=0 then ownE es h p2 p3 else farE n h l p2 p3
 | _=>none
theorem rdE_4 {n:Int}{es:List E4}{w p0 p1 p2 p3:Str}(h:cls w=[p0,p1,p2,p3]):rdE n es w=(numB p0 (lowH es) (n-1)).bind fun h=>(numB p1 0 BIG).bind fun l=>if l=0 then ownE es h p2 p3 else farE n h l p2 p3:=by
 unfold rdE
 rw[h]
theorem rdE_n {n:Int}{es:List E4}{w:Str}(h:(cls w).length≠4):rdE n es w=none:=by
 unfold rdE
 split
 . rename_i e
   exact absurd (by rw[e];rfl) h
 . rfl
theorem cls_4 {w:Str}(h:(cls w).length=4):∃p0 p1 p2 p3,cls w=[p0,p1,p2,p3]:=by
 generalize cls w=l at h
 match l,h with
 | [p0,p1,p2,p3],_=>exact⟨p0,p1,p2,p3,rfl⟩
theorem cls_le {z y:Str}(h:y∈cls z):y.length<=z.length:=by
 have e:=StrLaws.join_split z (Str.ofString ":")
 have c58:Str.ofString ":" = ⟨#[58]⟩:=by decide
 have:=mem_join_len (c:=58) h
 rw[<-c58,e] at this
 exact this
noncomputable def OutE (H:Hp)(Q:VK)(o:Option E4):Prop:=(∀e,o=some e->∀p H',Same H H'->H' p=some (.tup (e4V e))->Q (.ref p) H')/\(o=none->∀H',Same H H'->Q .non H')
theorem OutE.back {H H1:Hp}{Q:VK}{o:Option E4}(h:OutE H Q o)(s:Same H H1):OutE H1 Q o:=⟨fun e he p H' s' hp=>h.1 e he p H' (s.trans s') hp,fun he H' s'=>h.2 he H' (s.trans s')⟩
noncomputable def spHo:Sp:=fun vs H Q _=>∃(l:Addr)(es:List E4),vs=[.ref l]/\EL H l es/\es.length<=200000/\∀H',Same H H'->Q (.bl (own es)) H'
noncomputable def P4 (H:Hp)(lp:Addr)(p0 p1 p2 p3:Str):Prop:=H lp=some (.lst [.str p0,.str p1,.str p2,.str p3])/\p0.length<=100000/\p1.length<=100000/\p2.length<=100000/\p3.length<=100000
noncomputable def spOe:Sp:=fun vs H Q _=>∃(l lp:Addr)(es:List E4)(h:Int)(p0 p1 p2 p3:Str),vs=[.ref l,.int h,.ref lp]/\EL H l es/\es.length<=100000/\P4 H lp p0 p1 p2 p3/\OutE H Q (ownE es h p2 p3)
noncomputable def spFa:Sp:=fun vs H Q _=>∃(lp:Addr)(n h l:Int)(p0 p1 p2 p3:Str),vs=[.int n,.int h,.int l,.ref lp]/\1<=n/\n<=1000000/\P4 H lp p0 p1 p2 p3/\OutE H Q (farE n h l p2 p3)
noncomputable def spEi:Sp:=fun vs H Q _=>∃(l:Addr)(n:Int)(es:List E4)(w:Str),vs=[.int n,.ref l,.str w]/\EL H l es/\es.length<=100000/\UpE es/\1<=n/\n<=1000000/\w.length<=100000/\OutE H Q (rdE n es w)
section
variable {P:Program}{w:World}{K:PySem.W.Frag}{mg:Str->Option Value}{base:Heap}
theorem scHo:FnScope ["entries"] ["entries"] (defScope sHo):=⟨rfl,rfl,rfl,by decide +kernel,rfl,by decide +kernel,by decide +kernel⟩
theorem ok_ho {f:Addr}{fd':FuncData}(F:Fun K "has_own_place" "has_own_place" sHo f fd') (mAny:mg "any" = none):FnOk P w K mg base CX0 1 f fd' ["entries"] spHo:=by
 refine F.ok scHo (fun vs H Q E h=>?_) (fun cdv A outer s H vs Q E hr h=>?_)
 . obtain⟨l,es,rfl,_⟩:=h
   rfl
 . obtain⟨l,es,rfl,⟨xs,hl,ea⟩,hle,k⟩:=h
   have hsl:200001<=sizeLine:=by decide
   refine⟨_,pss_one (ps_ret (pe_callB (call_any rfl) (by rfl) mAny (by decide +kernel) (pa_cons (pe_comp (own:=["entry"]) (cn:=[]) (ci:=[]) rfl (csc rfl rfl) trivial rfl (pi_list (pv 0)) (fun _ _ _ _=>pg_name (i:=0) (nd_of rfl) rfl (Or.inl rfl)) (fun _ _ _ _=>pts_nil)
    (fun _ _ _ _=>pe_cmpR op_eq (pe_ix ix_tupC (pv 0) pe_int (fun _ _=>rfl)) pe_int (nomark _))) pa_nil))),?_⟩
   refine⟨_,rfl,l,rfl,⟨_,SqL.of hl⟩,[],rfl,fun D hD=>?_⟩
   have sD:∀o,Same H (upd H D o):=fun o=>same_laid hD
   refine comp_list (a:=l) (xs:=xs) (fun i ys H4=>i<=xs.length/\ys=((es.take i).map fun e=>decide (e.2.1=0)).map V.bl/\H4=upd H D (.lst ys)) ⟨Nat.zero_le _,rfl,rfl⟩ (fun i ys H4 y=>?_) (fun i ys H4 y=>?_) (fun i x ys H4 hx y=>?_) (fun ys H4 y=>?_)
   . rw[y.2.2]
     exact SqL.of (sD _ _ _ hl)
   . rw[y.2.1,List.length_map,List.length_map,List.length_take]
     omega
   . obtain⟨_,rfl,rfl⟩:=y
     obtain⟨e,p,he,rfl,hp⟩:=ea.get hx
     refine⟨⟨rfl,rfl⟩,?_⟩
     refine tyes ?_
     refine⟨_,rfl,p,_,_,_,rfl,rfl,SqT.of (sD _ _ _ hp),atI_nat (j:=1) (e4V_1 e),rfl,upd_same,(List.getElem?_eq_some_iff.mp hx).1,?_,upd_upd⟩
     rw[List.take_add_one,he,List.map_append,List.map_append]
     have ez:decide (V.int e.2.1=V.int 0)=decide (e.2.1=0):=by
      rw[Bool.eq_iff_iff,decide_eq_true_eq,decide_eq_true_eq]
      exact⟨fun z=>by injection z,fun z=>by rw[z]⟩
     rw[ez]
     rfl
   . obtain⟨_,rfl,rfl⟩:=y
     rw[ea.1,List.take_of_length_le (Nat.le_refl _)]
     refine⟨D,_,rfl,SqL.of upd_same,?_⟩
     have e:(es.map fun e:E4=>decide (e.2.1=0)).any id=own es:=by rw[List.any_map];rfl
     rw[e]
     exact k _ (sD _)
end
end K70
namespace K70
open PySem L2 WM
section
variable {X:Cx}
theorem pe_as {e:Expr}{te te':TE}(h:PE X e te)(m:∀ σ H Q,te' σ H Q->te σ H Q):PE X e te':=fun pins s σ H Q I q=>h pins s σ H Q I (m σ H Q q)
end
open DG
theorem bl_int {a b:Int}:decide (V.int a=V.int b)=decide (a=b):=by
 rw[Bool.eq_iff_iff,decide_eq_true_eq,decide_eq_true_eq]
 exact⟨fun z=>by injection z,fun z=>by rw[z]⟩
theorem bl_str {a b:Str}:decide (V.str a=V.str b)=decide (a=b):=by
 rw[Bool.eq_iff_iff,decide_eq_true_eq,decide_eq_true_eq]
 exact⟨fun z=>by injection z,fun z=>by rw[z]⟩
theorem EL.last {H:Hp}{l:Addr}{es:List E4}(h:EL H l es):∃xs,H l=some (.lst xs)/\((xs=[]/\es.getLast? = none)\/∃(e:E4)(p:Addr),xs≠[]/\es.getLast? = some e/\atI xs (-1)=some (.ref p)/\H p=some (.tup (e4V e))):=by
 obtain⟨xs,a,b⟩:=h
 refine⟨xs,a,?_⟩
 have hl:=b.1
 rcases List.eq_nil_or_concat es with rfl | ⟨es',e,rfl⟩
 . exact .inl ⟨List.length_eq_zero_iff.mp hl,rfl⟩
 . rw[List.concat_eq_append] at b hl ⊢
   rcases List.eq_nil_or_concat xs with rfl | ⟨xs',x,rfl⟩
   . simp at hl
   . rw[List.concat_eq_append] at b hl ⊢
     rw[List.length_append,List.length_append] at hl
     have hl':xs'.length=es'.length:=by simpa using hl
     obtain⟨p,h1,h2⟩:=b.2 es'.length e (by simp)
     rw[<-hl'] at h1
     have h1:x = .ref p:=by simpa using h1
     subst h1
     exact .inr ⟨e,p,by simp,by simp,atI_last _ _,h2⟩
section
variable {P:Program}{w:World}{K:PySem.W.Frag}{mg:Str->Option Value}{base:Heap}
theorem scOe:FnScope ["ahead", "hub", "parts"] ["ahead", "hub", "parts"] (defScope sOe):=⟨rfl,rfl,rfl,by decide +kernel,rfl,by decide +kernel,by decide +kernel⟩
theorem ok_oe {f fH:Addr}{fd' fdH:FuncData}(F:Fun K "own_entry" "own_entry" sOe f fd') (FH:Fun K "has_own_place" "has_own_place" sHo fH fdH) (bH:Binds K fdH ["entries"] []) (mH:mg "has_own_place" = some (.ref fH)) (mAny:mg "any" = none):FnOk P w K mg base CX0 2 f fd' ["ahead", "hub", "parts"] spOe:=by
 have GH:FnOk P w K mg base CX0 1 fH fdH ["entries"] spHo:=ok_ho FH mAny
 refine F.ok scOe (fun vs H Q E h=>?_) (fun cdv A outer s H vs Q E hr h=>?_)
 . obtain⟨l,lp,es,h,p0,p1,p2,p3,rfl,_⟩:=h
   rfl
 . obtain⟨l,lp,es,h,p0,p1,p2,p3,rfl,L,hle,P4',k⟩:=h
   have h4:4<=sizeLine:=by decide
   refine⟨_,pss_cons (ps_if (PW.pt (pw_or (pt_val (pe_call GH hr rfl mH FH.kp bH .nil pass0 (pa_cons (pv 0) pa_nil))) (pw_or (pt_cmpR op_ne (pe_ix ix_list (pv 2) pe_int (fun _ _=>rfl)) pe_str (nomark _)) (pw_or1 (pt_cmpR op_ne (pe_ix ix_list (pv 2) pe_int (fun _ _=>rfl)) pe_str (nomark _)))))) (pss_one (ps_ret pe_non)) pss_nil)
    (pss_one (ps_ret (pe_tup (pa_cons (pv 1) (pa_int (pa_cons pe_non (pa_cons pe_non pa_nil))))))),?_⟩
   refine⟨_,rfl,l,es,rfl,L,by omega,fun H1 s1=>?_⟩
   have hp1:=s1 _ _ P4'.1
   unfold ownE at k
   refine⟨_,rfl,?_⟩
   cases c:own es with
   | true=>
    refine ifT rfl (ifT rfl ?_)
    rw[if_pos (.inl c)] at k
    exact k.2 rfl _ s1
   | false=>
    refine ifF rfl ?_
    refine⟨_,rfl,lp,_,_,_,rfl,rfl,SqL.of hp1,atI_nat (j:=2) rfl,rfl,_,rfl,?_⟩
    rw[bl_str]
    by_cases c2:p2=dash
    . refine ifF (by rw[decide_eq_true c2];rfl) ?_
      refine⟨_,rfl,lp,_,_,_,rfl,rfl,SqL.of hp1,atI_nat (j:=3) rfl,rfl,_,rfl,?_⟩
      rw[bl_str]
      by_cases c3:p3=dash
      . refine ifF (by rw[decide_eq_true c3];rfl) ?_
        rw[if_neg (fun z=>z.elim (fun z=>by rw[c] at z;cases z) fun z=>z.elim (fun z=>z c2) fun z=>z c3)] at k
        exact⟨_,rfl,h4,fun p hp=>k.1 _ rfl p _ (s1.trans (same_laid hp)) upd_same⟩
      . refine ifT (by rw[decide_eq_false c3];rfl) ?_
        rw[if_pos (.inr (.inr c3))] at k
        exact k.2 rfl _ s1
    . refine ifT (by rw[decide_eq_false c2];rfl) (ifT rfl ?_)
      rw[if_pos (.inr (.inl c2))] at k
      exact k.2 rfl _ s1
theorem scFa:FnScope ["n", "hub", "long", "parts", "up", "down"] ["n", "hub", "long", "parts"] (defScope sFa):=⟨rfl,rfl,rfl,by decide +kernel,rfl,by decide +kernel,by decide +kernel⟩
theorem ok_fa {f fN:Addr}{fd' fdN:FuncData}(F:Fun K "far_entry" "far_entry" sFa f fd') (FN:Fun K "number_in" "number_in" sNi fN fdN) (bN:Binds K fdN ["word", "least", "most"] []) (mN:mg "number_in" = some (.ref fN)) (GN:FnOk P w K mg base CX0 3 fN fdN ["word", "least", "most"] spNi):FnOk P w K mg base CX0 4 f fd' ["n", "hub", "long", "parts"] spFa:=by
 refine F.ok scFa (fun vs H Q E h=>?_) (fun cdv A outer s H vs Q E hr h=>?_)
 . obtain⟨lp,n,h,l,p0,p1,p2,p3,rfl,_⟩:=h
   rfl
 . obtain⟨lp,n,h,l,p0,p1,p2,p3,rfl,n1,n2,P4',k⟩:=h
   have h4:4<=sizeLine:=by decide
   refine⟨_,pss_cons (ps_set (i:=4) scFa.nd rfl (Or.inl rfl) (pe_call GN hr rfl mN FN.kp bN .nil pass0 (pa_cons (pe_ix ix_list (pv 3) pe_int (fun _ _=>rfl)) (pa_int (pa_cons (pe_op op_sub (pv 0) pe_int) pa_nil)))))
    (pss_cons (ps_set (i:=5) scFa.nd rfl (Or.inl rfl) (pe_call GN hr rfl mN FN.kp bN .nil pass0 (pa_cons (pe_ix ix_list (pv 3) pe_int (fun _ _=>rfl)) (pa_int (pa_cons (pe_op op_sub (pv 0) pe_int) pa_nil)))))
    (pss_cons (ps_if (PW.pt (pw_or (pt_cmpR op_isN (pv 4) pe_non (nomark _)) (pw_or1 (pt_cmpR op_isN (pv 5) pe_non (nomark _))))) (pss_one (ps_ret pe_non)) pss_nil)
    (pss_one (ps_ret (pe_tup (pa_cons (pv 1) (pa_cons (pv 2) (pa_cons (pv 4) (pa_cons (pv 5) pa_nil))))))))),?_⟩
   obtain⟨hp,l0,l1,l2,l3⟩:=P4'
   refine⟨_,rfl,lp,_,_,_,rfl,rfl,SqL.of hp,atI_nat (j:=2) rfl,_,rfl,_,_,rfl,rfl,p2,0,n-1,rfl,l2,by decide,by omega,by omega,fun H1 s1=>?_⟩
   refine⟨_,rfl,lp,_,_,_,rfl,rfl,SqL.of (s1 _ _ hp),atI_nat (j:=3) rfl,_,rfl,_,_,rfl,rfl,p3,0,n-1,rfl,l3,by decide,by omega,by omega,fun H2 s2=>?_⟩
   have s12:=s1.trans s2
   unfold farE at k
   refine⟨_,rfl,rfl,_,rfl,?_⟩
   cases e2:numB p2 0 (n-1) with
   | none=>
    rw[e2] at k
    exact ifT rfl (ifT rfl (k.2 rfl _ s12))
   | some u=>
    refine ifF rfl ?_
    refine⟨_,rfl,rfl,_,rfl,?_⟩
    cases e3:numB p3 0 (n-1) with
    | none=>
     rw[e2,e3] at k
     exact ifT rfl (k.2 rfl _ s12)
    | some d=>
     rw[e2,e3] at k
     refine ifF rfl ?_
     exact⟨_,rfl,_,rfl,_,rfl,_,rfl,h4,fun p hp=>k.1 _ rfl p _ (s12.trans (same_laid hp)) upd_same⟩
theorem scEi:FnScope ["n", "ahead", "word", "parts", "hub", "long"] ["n", "ahead", "word"] (defScope sEi):=⟨rfl,rfl,rfl,by decide +kernel,rfl,by decide +kernel,by decide +kernel⟩
theorem ok_ei {f fN fO fF fH:Addr}{fd' fdN fdO fdF fdH:FuncData}{tk:Tok}(F:Fun K "entry_in" "entry_in" sEi f fd') (FN:Fun K "number_in" "number_in" sNi fN fdN) (bN:Binds K fdN ["word", "least", "most"] []) (mN:mg "number_in" = some (.ref fN)) (GN:FnOk P w K mg base CX0 3 fN fdN ["word", "least", "most"] spNi)
 (FO:Fun K "own_entry" "own_entry" sOe fO fdO) (bO:Binds K fdO ["ahead", "hub", "parts"] []) (mO:mg "own_entry" = some (.ref fO)) (FF:Fun K "far_entry" "far_entry" sFa fF fdF) (bF:Binds K fdF ["n", "hub", "long", "parts"] []) (mF:mg "far_entry" = some (.ref fF))
 (FH:Fun K "has_own_place" "has_own_place" sHo fH fdH) (bH:Binds K fdH ["entries"] []) (mH:mg "has_own_place" = some (.ref fH)) (mAny:mg "any" = none) (mLen:mg "len" = none) (mMW:mg "MOST_WRITTEN_LONG" = some (.int 999999999999 tk)):FnOk P w K mg base CX0 5 f fd' ["n", "ahead", "word"] spEi:=by
 have GN4:FnOk P w K mg base CX0 4 fN fdN ["word", "least", "most"] spNi:=GN.mono (by decide)
 have GO:FnOk P w K mg base CX0 4 fO fdO ["ahead", "hub", "parts"] spOe:=(ok_oe FO FH bH mH mAny).mono (by decide)
 have GF:FnOk P w K mg base CX0 4 fF fdF ["n", "hub", "long", "parts"] spFa:=ok_fa FF FN bN mN GN
 refine F.ok scEi (fun vs H Q E h=>?_) (fun cdv A outer s H vs Q E hr h=>?_)
 . obtain⟨l,n,es,w,rfl,_⟩:=h
   rfl
 . obtain⟨l,n,es,w,rfl,L,hle,up,n1,n2,hw,k⟩:=h
   refine⟨_,pss_cons (ps_set (i:=3) scEi.nd rfl (Or.inl rfl) (pe_bm PySem.F.plainAttrs_str PySem.F.slot_str_split PySem.F.type_str_split mt_split (pv 2) (pa_cons pe_str pa_nil)))
    (pss_cons (ps_if (pt_cmpR op_ne (pe_callB call_len_seq (by rfl) mLen PySem.boot_len (pa_cons (pv 3) pa_nil)) pe_int (nomark _)) (pss_one (ps_ret pe_non)) pss_nil)
    (pss_cons (ps_set (i:=4) scEi.nd rfl (Or.inl rfl) (pe_call GN4 hr rfl mN FN.kp bN .nil pass0 (pa_cons (pe_ix ix_list (pv 3) pe_int (fun _ _=>rfl)) (pa_cons (pe_as (te':=fun σ H Q=>∃(l:Addr)(es:List E4),σ[1]? = some (some (.ref l))/\EL H l es/\Q (.int (lowH es)) H) (pe_ifExp (pt_truth (pv 1) (fun _=>rfl)) (pe_op op_add (pe_ix ix_tup (pe_ix ix_list (pv 1) (pe_un un_neg pe_int) (fun _ _=>rfl)) pe_int (fun _ _=>rfl)) pe_int) pe_int) ?lo) (pa_cons (pe_op op_sub (pv 0) pe_int) pa_nil)))))
    (pss_cons (ps_set (i:=5) scEi.nd rfl (Or.inl rfl) (pe_call GN4 hr rfl mN FN.kp bN .nil pass0 (pa_cons (pe_ix ix_list (pv 3) pe_int (fun _ _=>rfl)) (pa_int (pa_cons (pe_glob (v:=.int 999999999999) rfl mMW ⟨_,rfl⟩) pa_nil)))))
    (pss_cons (ps_if (PW.pt (pw_or (pt_cmpR op_isN (pv 4) pe_non (nomark _)) (pw_or1 (pt_cmpR op_isN (pv 5) pe_non (nomark _))))) (pss_one (ps_ret pe_non)) pss_nil)
    (pss_cons (ps_if (pt_cmpR op_eq (pv 5) pe_int (nomark _)) (pss_one (ps_ret (pe_call GO hr rfl mO FO.kp bO .nil pass0 (pa_cons (pv 1) (pa_cons (pv 4) (pa_cons (pv 3) pa_nil)))))) pss_nil)
    (pss_one (ps_ret (pe_call GF hr rfl mF FF.kp bF .nil pass0 (pa_cons (pv 0) (pa_cons (pv 4) (pa_cons (pv 5) (pa_cons (pv 3) pa_nil)))))))))))),?_⟩
   case lo=>
    intro σ H1 Q1 ⟨l,es,hσ,L1,q⟩
    obtain⟨xs,hl,c⟩:=L1.last
    unfold lowH at q
    rcases c with ⟨e,hn⟩ | ⟨x,p,e,hn,ha,hp⟩
    . rw[hn] at q
      exact⟨_,hσ,false,.inl ⟨xs,SqL.of hl,by rw[e];rfl⟩,ifF rfl q⟩
    . rw[hn] at q
      refine⟨_,hσ,true,.inl ⟨xs,SqL.of hl,by cases xs with | nil=>exact absurd rfl e | cons a as=>rfl⟩,ifT rfl ?_⟩
      exact⟨_,hσ,1,rfl,l,_,_,_,rfl,rfl,SqL.of hl,ha,p,_,_,_,rfl,rfl,SqT.of hp,atI_nat (j:=0) (e4V_0 x),_,_,rfl,rfl,q⟩
   refine⟨_,rfl,rfl,w,_,rfl,rfl,rfl,by omega,fun lp hlp=>?_⟩
   have s1:=same_laid (o:=.lst ((cls w).map V.str)) hlp
   have hp1:(upd H lp (.lst ((cls w).map V.str))) lp=some (.lst ((cls w).map V.str)):=upd_same
   have L1:=L.keep s1
   generalize upd H lp (.lst ((cls w).map V.str))=H1 at s1 hp1 L1 ⊢
   refine⟨_,rfl,lp,_,rfl,.inl (SqL.of hp1),rfl,_,rfl,?_⟩
   rw[List.length_map,bl_int]
   by_cases c4:(cls w).length=4
   . refine ifF (by rw[decide_eq_true (by omega)];rfl) ?_
     obtain⟨p0,p1,p2,p3,ec⟩:=cls_4 c4
     have hm:∀y∈cls w,y.length<=100000:=fun y hy=>Nat.le_trans (cls_le hy) hw
     rw[ec] at hp1 hm
     have m0:=hm p0 (by simp)
     have m1:=hm p1 (by simp)
     have m2:=hm p2 (by simp)
     have m3:=hm p3 (by simp)
     rw[rdE_4 ec] at k
     have lo:=up.low
     refine⟨_,rfl,lp,_,_,_,rfl,rfl,SqL.of hp1,atI_nat (j:=0) rfl,l,es,rfl,L1,_,rfl,_,_,rfl,rfl,p0,lowH es,n-1,rfl,m0,lo,by omega,by omega,fun H2 s2=>?_⟩
     refine⟨_,rfl,lp,_,_,_,rfl,rfl,SqL.of (s2 _ _ hp1),atI_nat (j:=1) rfl,p1,0,BIG,rfl,m1,by decide,by decide,by decide,fun H3 s3=>?_⟩
     have s03:=s1.trans (s2.trans s3)
     refine⟨_,rfl,rfl,_,rfl,?_⟩
     cases e0:numB p0 (lowH es) (n-1) with
     | none=>
      rw[e0] at k
      exact ifT rfl (ifT rfl (k.2 rfl _ s03))
     | some h=>
      refine ifF rfl ?_
      refine⟨_,rfl,rfl,_,rfl,?_⟩
      cases e1:numB p1 0 BIG with
      | none=>
       rw[e0,e1] at k
       exact ifT rfl (k.2 rfl _ s03)
      | some g=>
       rw[e0,e1] at k
       have k:OutE H Q (if g=0 then ownE es h p2 p3 else farE n h g p2 p3):=k
       refine ifF rfl ?_
       have hp3:=(s2.trans s3) _ _ hp1
       have L3:=L1.keep (s2.trans s3)
       refine⟨_,rfl,rfl,_,rfl,?_⟩
       by_cases cg:g=0
       . refine ifT (decide_eq_true (by rw[cg];rfl)) ?_
         rw[if_pos cg] at k
         exact⟨_,rfl,_,rfl,_,rfl,l,lp,es,h,p0,p1,p2,p3,rfl,L3,hle,⟨hp3,m0,m1,m2,m3⟩,k.back s03⟩
       . refine ifF (decide_eq_false (fun z=>cg (V.int.inj z))) ?_
         rw[if_neg cg] at k
         exact⟨_,rfl,_,rfl,_,rfl,_,rfl,lp,n,h,g,p0,p1,p2,p3,rfl,n1,n2,⟨hp3,m0,m1,m2,m3⟩,k.back s03⟩
   . refine ifT (by rw[decide_eq_false (by omega)];rfl) ?_
     exact k.2 (rdE_n c4) _ s1
end
end K70
namespace K70
open PySem L2 WM
theorem cutV_take (xs:List V)(m:Nat):cutV xs none (some (m:Int))=xs.take m:=by
 unfold cutV
 rw[HT.sIx_none,HT.sIx_nat,List.drop_zero,Nat.sub_zero]
 by_cases h:m<=xs.length
 . rw[Nat.min_eq_left h]
 . rw[Nat.min_eq_right (by omega),List.take_of_length_le (Nat.le_refl _),List.take_of_length_le (by omega)]
theorem cutV_drop (xs:List V)(m:Nat):cutV xs (some (m:Int)) none=xs.drop m:=by
 unfold cutV
 rw[HT.sIx_none,HT.sIx_nat]
 by_cases h:m<=xs.length
 . rw[Nat.min_eq_left h,List.take_of_length_le (by rw[List.length_drop];exact Nat.le_refl _)]
 . rw[Nat.min_eq_right (by omega),Nat.sub_self,List.take_zero,List.drop_of_length_le (by omega)]
open DG
noncomputable abbrev lab:Str:=Str.ofString "label"
noncomputable def rdWs (n:Int):List E4->Nat->List Str->Except Nat (List E4)
 | es,_,[]=>.ok es
 | es,k,w::ws=>match rdE n es w with
  | none=>.error k
  | some e=>rdWs n (es++[e]) (k+1) ws
noncomputable def rdL (n:Int)(i:Nat)(z:Str):Except Nat (List E4):=if 24<=i\/(wds z)[0]?≠some lab then .error 0 else match rdWs n [] 1 ((wds z).drop 1) with
 | .error k=>.error k
 | .ok es=>if own es=true then .ok es else .error (wds z).length
theorem rdWs_err {n:Int}{es:List E4}{k:Nat}{w:Str}{ws:List Str}(h:rdE n es w=none):rdWs n es k (w::ws) = .error k:=by
 rw[rdWs,h]
theorem rdWs_ok {n:Int}{es:List E4}{k:Nat}{w:Str}{ws:List Str}{e:E4}(h:rdE n es w=some e):rdWs n es k (w::ws)=rdWs n (es++[e]) (k+1) ws:=by
 rw[rdWs,h]
theorem rdL_0 {n:Int}{i:Nat}{z:Str}(h:24<=i\/(wds z)[0]?≠some lab):rdL n i z = .error 0:=by
 unfold rdL
 rw[if_pos h]
theorem rdL_e {n:Int}{i k:Nat}{z:Str}(h:¬ (24<=i\/(wds z)[0]?≠some lab))(e:rdWs n [] 1 ((wds z).drop 1) = .error k):rdL n i z = .error k:=by
 unfold rdL
 rw[if_neg h,e]
theorem rdL_o {n:Int}{i:Nat}{z:Str}{es:List E4}(h:¬ (24<=i\/(wds z)[0]?≠some lab))(e:rdWs n [] 1 ((wds z).drop 1) = .ok es):rdL n i z=if own es=true then .ok es else .error (wds z).length:=by
 unfold rdL
 rw[if_neg h,e]
theorem rdE_in {n:Int}{es:List E4}{w:Str}{e:E4}(h:rdE n es w=some e):lowH es<=e.1/\e.1<=n-1:=by
 unfold rdE at h
 split at h
 . obtain⟨a,h1,h⟩:=Option.bind_eq_some_iff.mp h
   obtain⟨l,h2,h⟩:=Option.bind_eq_some_iff.mp h
   have b:lowH es<=a/\a<=n-1:=by
    unfold numB at h1
    split at h1
    . rename_i c
      cases h1
      exact c.2
    . cases h1
   have:e.1=a:=by
    split at h
    . unfold ownE at h
      split at h
      . cases h
      . cases h;rfl
    . unfold farE at h
      obtain⟨u,_,h⟩:=Option.bind_eq_some_iff.mp h
      obtain⟨d,_,h⟩:=Option.bind_eq_some_iff.mp h
      cases h;rfl
   rw[this]
   exact b
 . cases h
theorem UpE.snoc {n:Int}{es:List E4}{w:Str}{e:E4}(h:UpE es)(he:rdE n es w=some e):UpE (es++[e]):=by
 have b:=(rdE_in he).1
 have lo:=h.low
 refine⟨List.pairwise_append.mpr ⟨h.1,List.pairwise_singleton _ _,fun x hx y hy=>?_⟩,fun x hx=>?_⟩
 . rw[List.mem_singleton.mp hy]
   unfold lowH at b
   rcases List.eq_nil_or_concat es with rfl | ⟨es',z,rfl⟩
   . cases hx
   . rw[List.concat_eq_append] at b hx h
     have hz:(es'++[z]).getLast? = some z:=by simp
     rw[hz] at b
     have b:z.1+1<=e.1:=b
     rcases List.mem_append.mp hx with q | q
     . have:=(List.pairwise_append.mp h.1).2.2 x q z (by simp)
       omega
     . rw[List.mem_singleton.mp q];omega
 . rcases List.mem_append.mp hx with q | q
   . exact h.2 x q
   . rw[List.mem_singleton.mp q];omega
theorem UpE.nil:UpE []:=⟨List.Pairwise.nil,fun _ h=>by cases h⟩
noncomputable def spRl (C:Addr):Sp:=fun vs H Q E=>∃(n:Int)(i:Nat)(z:Str),vs=[.int n,.int i,.str z]/\1<=n/\n<=1000000/\z.length<=100000/\(∀es,rdL n i z = .ok es->∀p ys H',Same H H'->H' p=some (.tup ys)->EsAt H' ys es->Q (.ref p) H')/\(∀k:Nat,rdL n i z = .error k->∀dx H',Same H H'->FldT H' dx i k->E (.ref C) (some dx) H')
theorem wds_ne (z:Str):wds z≠[]:=fun e=>by
 have:=(PyProof.Rows.fact_split z (Str.ofString " ")).1
 rw[show Txt.split z (Str.ofString " ")=[] from e] at this
 exact absurd this (by decide)
theorem wds_len (z:Str):(wds z).length<=z.length+2:=(PyProof.Rows.fact_split z (Str.ofString " ")).2
section
variable {P:Program}{w:World}{K:PySem.W.Frag}{mg:Str->Option Value}{base:Heap}
theorem scRl:FnScope ["n", "at", "line", "words", "label", "k", "word", "entry"] ["n", "at", "line"] (defScope sRl):=⟨rfl,rfl,rfl,by decide +kernel,rfl,by decide +kernel,by decide +kernel⟩
theorem ok_rl {C f fI fE fH:Addr}{fd' fdI fdE fdH:FuncData}{tk:Tok}(F:Fun K "read_label" "read_label" sRl f fd') (mC:mg "NoText" = some (.ref C)) (EI:ExcI K C fI)(bI:Binds K fdI ["self", "line", "word"] []) (GI:FnOk P w K mg base CX0 1 fI fdI ["self", "line", "word"] (spXI C "line" "word"))
 (FE:Fun K "entry_in" "entry_in" sEi fE fdE) (bE:Binds K fdE ["n", "ahead", "word"] []) (mE:mg "entry_in" = some (.ref fE)) (GE:FnOk P w K mg base CX0 5 fE fdE ["n", "ahead", "word"] spEi)
 (FH:Fun K "has_own_place" "has_own_place" sHo fH fdH) (bH:Binds K fdH ["entries"] []) (mH:mg "has_own_place" = some (.ref fH)) (mAny:mg "any" = none) (mMP:mg "MOST_PLACES" = some (.int 24 tk)) (mLen:mg "len" = none) (mEnum:mg "enumerate" = none) (mTuple:mg "tuple" = none):FnOk P w K mg base (CXI P w) 6 f fd' ["n", "at", "line"] (spRl C):=by
 have GH:FnOk P w K mg base CX0 5 fH fdH ["entries"] spHo:=(ok_ho FH mAny).mono (by decide)
 refine F.okI scRl (fun vs H Q E h=>?_) (fun cdv A outer s H vs Q E hr h=>?_)
 . obtain⟨n,i,z,rfl,_⟩:=h
   rfl
 . obtain⟨n,i,z,rfl,n1,n2,hz,kY,kN⟩:=h
   have hsl:200000<=sizeLine:=by decide
   refine⟨_,pss_cons (ps_set (i:=3) scRl.nd rfl (Or.inl rfl) (pe_bm PySem.F.plainAttrs_str PySem.F.slot_str_split PySem.F.type_str_split mt_split (pv 2) (pa_cons pe_str pa_nil)))
    (pss_cons (ps_if (PW.pt (pw_or (pt_cmpR op_ge (pv 1) (pe_glob (v:=.int 24) rfl mMP ⟨_,rfl⟩) (nomark _)) (pw_or1 (pt_cmpR op_ne (pe_ix ix_list (pv 3) pe_int (fun _ _=>rfl)) pe_str (nomark _))))) (pss_one (ps_raiseI (E:=E) rfl mC EI rfl (GI.mono (by decide)) hr bI (pa_cons (pv 1) (pa_int pa_nil)) (fun pins σ H s ea tt dx I he hn h0 hE=>raisedD I he rfl rfl rfl rfl hn h0 hE))) pss_nil)
    (pss_cons (ps_set (i:=4) scRl.nd rfl (Or.inl rfl) (pe_lst pa_nil))
    (pss_cons (ps_for PassesOwn.leaving rfl (pi_enumK (by rfl) mEnum (pa_cons (pe_slice sl_list (pv 3) (po_some pe_int) po_none) pa_nil)) (pg_tup rfl (pgs_cons (pg_name (i:=5) scRl.nd rfl (Or.inl rfl)) (pgs_cons (pg_name (i:=6) scRl.nd rfl (Or.inl rfl)) pgs_nil)))
     (pss_cons (ps_set (i:=7) scRl.nd rfl (Or.inl rfl) (pe_call GE hr rfl mE FE.kp bE .nil pass0 (pa_cons (pv 0) (pa_cons (pv 4) (pa_cons (pv 6) pa_nil)))))
     (pss_cons (ps_if (pt_cmpR op_isN (pv 7) pe_non (nomark _)) (pss_one (ps_raiseI (E:=E) rfl mC EI rfl (GI.mono (by decide)) hr bI (pa_cons (pv 1) (pa_cons (pv 5) pa_nil)) (fun pins σ H s ea tt dx I he hn h0 hE=>raisedD I he rfl rfl rfl rfl hn h0 hE))) pss_nil)
     (pss_one (ps_expr (pe_bm PySem.F.plainAttrs_list PySem.F.slot_list_append PySem.F.type_list_append mt_append (pv 4) (pa_cons (pv 7) pa_nil)))))))
    (pss_cons (ps_if (pt_not (pt_val (pe_call GH hr rfl mH FH.kp bH .nil pass0 (pa_cons (pv 4) pa_nil)))) (pss_one (ps_raiseI (E:=E) rfl mC EI rfl (GI.mono (by decide)) hr bI (pa_cons (pv 1) (pa_cons (pe_callB call_len_seq (by rfl) mLen PySem.boot_len (pa_cons (pv 3) pa_nil)) pa_nil)) (fun pins σ H s ea tt dx I he hn h0 hE=>raisedD I he rfl rfl rfl rfl hn h0 hE))) pss_nil)
    (pss_one (ps_ret (pe_callTy call_tuple_of (by rfl) mTuple (by decide +kernel) (pa_cons (pv 4) pa_nil)))))))),?_⟩
   refine⟨_,rfl,rfl,z,_,rfl,rfl,rfl,by omega,fun lw hlw=>?_⟩
   have s1:=same_laid (o:=.lst ((wds z).map V.str)) hlw
   have hw1:(upd H lw (.lst ((wds z).map V.str))) lw=some (.lst ((wds z).map V.str)):=upd_same
   generalize upd H lw (.lst ((wds z).map V.str))=H1 at s1 hw1 ⊢
   have wl:=wds_len z
   refine⟨_,rfl,_,_,rfl,rfl,_,rfl,?_⟩
   by_cases c24:24<=i
   . refine ifT (decide_eq_true (by omega)) (ifT rfl ?_)
     exact⟨_,rfl,_,_,rfl,fld_fail s1 (kN 0 (rdL_0 (.inl c24)))⟩
   refine ifF (decide_eq_false (by omega)) ?_
   obtain⟨w0,ws,ew⟩:∃w0 ws,wds z=w0::ws:=by
    cases e:wds z with
    | nil=>exact absurd e (wds_ne z)
    | cons a b=>exact⟨a,b,rfl⟩
   rw[ew] at hw1
   refine⟨_,rfl,lw,_,_,_,rfl,rfl,SqL.of hw1,atI_nat (j:=0) rfl,rfl,_,rfl,?_⟩
   rw[bl_str]
   by_cases cw:w0=lab
   case neg=>
    refine ifT (by rw[decide_eq_false cw];rfl) ?_
    exact⟨_,rfl,_,_,rfl,fld_fail s1 (kN 0 (rdL_0 (.inr (by rw[ew];intro z;exact cw (Option.some.inj z)))))⟩
   refine ifF (by rw[decide_eq_true cw];rfl) ?_
   have ng:¬ (24<=i\/(wds z)[0]?≠some lab):=fun z'=>z'.elim c24 fun z'=>z' (by rw[ew,cw];rfl)
   have ed:(wds z).drop 1=ws:=by rw[ew];rfl
   have wl2:ws.length+1<=z.length+2:=by rw[ew] at wl;exact wl
   have hws:∀y∈ws,y.length<=100000:=fun y hy=>split_len hz (by rw[ew];simp[hy])
   refine⟨Nat.zero_le _,fun la hla=>?_⟩
   have nla:H la=none:=none_back s1 hla
   have s2:Same H (upd H1 la (.lst [])):=s1.trans (same_laid hla)
   have hw2:=same_laid (o:=.lst []) hla _ _ hw1
   have hwa:lw≠la:=ne_of_none hw1 hla
   refine⟨_,rfl,1,rfl,lw,_,rfl,SqL.of hw2,fun l2 hl2=>?_⟩
   rw[show (some 1:Option Int)=some ((1:Nat):Int) from rfl,cutV_drop,show List.drop 1 ((w0::ws).map V.str)=ws.map V.str from rfl]
   have hl2a:l2≠la:=fun x=>by rw[x,upd_same] at hl2;cases hl2
   refine⟨l2,rfl,⟨_,SqL.of upd_same⟩,?_⟩
   refine for_enumK (K:=K) (c:=1) (a:=l2) (xs:=ws.map V.str) (fun j σ H4=>∃(v5 v6 v7:Option V)(es:List E4),σ=[some (.int n),some (.int i),some (.str z),some (.ref lw),some (.ref la),v5,v6,v7]/\Same H H4/\H4 l2=some (.lst (ws.map V.str))/\H4 lw=some (.lst ((w0::ws).map V.str))/\EL H4 la es/\UpE es/\es.length<=j/\rdWs n [] 1 ws=rdWs n es (j+1) (ws.drop j))
    ⟨_,_,_,[],rfl,s2.trans (same_laid hl2),upd_same,same_laid hl2 _ _ hw2,⟨[],same_laid hl2 _ _ upd_same,EsAt.nil⟩,UpE.nil,Nat.le_refl _,rfl⟩
    (fun j σ H4 _ ⟨_,_,_,_,_,_,h2,_⟩=>SqL.of h2) (fun j x σ H4 T hx y hT=>?_) (fun σ H4 y=>?_)
   . obtain⟨v5,v6,v7,es,rfl,s4,h2,hw4,Le,up,hle,eq⟩:=y
     rw[List.getElem?_map] at hx
     cases hz':ws[j]? with
     | none=>rw[hz'] at hx;cases hx
     | some y=>
     rw[hz'] at hx
     cases hx
     have hj:j<ws.length:=(List.getElem?_eq_some_iff.mp hz').1
     have hy:y∈ws:=List.mem_of_getElem? hz'
     have edr:ws.drop j=y::ws.drop (j+1):=by
      rw[List.drop_eq_getElem_cons hj]
      congr 1
      exact (List.getElem?_eq_some_iff.mp hz').2
     rw[edr] at eq
     have s5:=same_laid (o:=.tup [.int ((j+1:Nat):Int),.str y]) hT
     refine⟨T,_,rfl,SqT.of upd_same,rfl,_,_,rfl,_,_,rfl,rfl,?_⟩
     generalize upd H4 T (.tup [.int ((j+1:Nat):Int),.str y])=H5 at s5 ⊢
     have s05:=s4.trans s5
     have L5:=Le.keep s5
     refine⟨_,rfl,_,rfl,_,rfl,la,n,es,y,rfl,L5,by omega,up,n1,n2,hws y hy,fun e he p H6 s6 hp=>?_,fun he H6 s6=>?_⟩
     . refine⟨_,rfl,rfl,_,rfl,ifF rfl ?_⟩
       obtain⟨xs,ha,hb⟩:=L5.keep s6
       have s06:=s05.trans s6
       have npl:p≠la:=ne_of hp ha (by intro z;cases z)
       refine⟨_,rfl,.inl ⟨rfl,_,SqL.of ha⟩,_,rfl,la,xs,.ref p,rfl,rfl,ha,by have:=hb.1;omega,?_⟩
       refine⟨_,_,_,es++[e],rfl,fun b o q=>?_,?_,?_,⟨xs++[.ref p],upd_same,?_⟩,up.snoc he,?_,eq.trans (rdWs_ok he)⟩
       . rw[upd_ne (fun x=>by rw[x,nla] at q;cases q)]
         exact s06 b o q
       . rw[upd_ne hl2a]
         exact s6 _ _ (s5 _ _ h2)
       . rw[upd_ne hwa]
         exact s6 _ _ (s5 _ _ hw4)
       . refine (hb.keepT fun b ys q=>?_).snoc ?_
         . rw[upd_ne (ne_of q ha (by intro z;cases z))]
           exact q
         . rw[upd_ne npl]
           exact hp
       . rw[List.length_append,List.length_singleton]
         omega
     . refine⟨_,rfl,rfl,_,rfl,ifT rfl ?_⟩
       exact⟨_,rfl,_,rfl,_,_,rfl,fld_fail (s05.trans s6) (kN (j+1) (rdL_e ng (by rw[ed];exact eq.trans (rdWs_err he))))⟩
   . obtain⟨v5,v6,v7,es,rfl,s4,h2,hw4,Le,up,hle,eq⟩:=y
     rw[List.length_map] at hle eq
     rw[List.drop_eq_nil_of_le (Nat.le_refl _)] at eq
     have eo:=rdL_o (i:=i) ng (by rw[ed];exact eq.trans (by rw[rdWs]))
     refine⟨_,rfl,la,es,rfl,Le,by omega,fun H5 s5=>⟨_,rfl,?_⟩⟩
     have s05:=s4.trans s5
     cases co:own es with
     | false=>
      refine ifT rfl ?_
      rw[co,ew] at eo
      refine⟨_,rfl,_,rfl,lw,_,rfl,.inl (SqL.of (s5 _ _ hw4)),_,_,rfl,?_⟩
      rw[List.length_map]
      exact fld_fail s05 (kN _ eo)
     | true=>
      refine ifF rfl ?_
      rw[co] at eo
      obtain⟨xs,ha,hb⟩:=Le.keep s5
      refine⟨_,rfl,la,xs,rfl,.inl ⟨SqL.of ha,fun ta hta=>?_⟩⟩
      have s6:=same_laid (o:=.tup xs) hta
      exact kY es eo ta xs _ (s05.trans s6) upd_same (hb.keep s6)
end
end K70
namespace K70
open PySem L2 WM
open DG
noncomputable def rdLs (n:Int):List (List E4)->Nat->List Str->Except (Nat×Nat) (List (List E4))
 | ls,_,[]=>.ok ls
 | ls,i,z::zs=>match rdL n i z with
  | .error k=>.error (i,k)
  | .ok l=>rdLs n (ls++[l]) (i+1) zs
noncomputable def rdAll (zs:List Str):Except (Nat×Nat) (List (List E4)):=if zs.length=0 then .error (0,0) else rdLs zs.length [] 0 zs
theorem rdLs_err {n:Int}{ls:List (List E4)}{i k:Nat}{z:Str}{zs:List Str}(h:rdL n i z = .error k):rdLs n ls i (z::zs) = .error (i,k):=by
 rw[rdLs,h]
theorem rdLs_ok {n:Int}{ls:List (List E4)}{i:Nat}{z:Str}{zs:List Str}{l:List E4}(h:rdL n i z = .ok l):rdLs n ls i (z::zs)=rdLs n (ls++[l]) (i+1) zs:=by
 rw[rdLs,h]
noncomputable def Ls (H:Hp)(l:Addr)(zs:List Str):Prop:=H l=some (.lst (zs.map V.str))/\∀y∈zs,y.length<=100000
noncomputable def spRs (C:Addr):Sp:=fun vs H Q E=>∃(l:Addr)(zs:List Str),vs=[.ref l]/\Ls H l zs/\zs.length<=100000/\(∀ls,rdAll zs = .ok ls->∀a H',Same H H'->LabT H' a ls->Q (.ref a) H')/\(∀i k:Nat,rdAll zs = .error (i,k)->∀dx H',Same H H'->FldT H' dx i k->E (.ref C) (some dx) H')
theorem call_len_seqX {X:Cx}{pl:List (Addr×Obj)}{N':List Str}{sc:Scope}{fp:List Addr}{s3:Shared}{H3:Hp}{Ee:Value->Shared->Prop}:CallR ((cxComp X pl N' sc fp s3 H3).wish Ee) (.builtin "len") (fun xs H Q=>∃p ys,xs=[V.ref p]/\(SqL X.K H p ys\/SqT X.K H p ys)/\Q (V.int ys.length) H):=call_len_seq
section
variable {P:Program}{w:World}{K:PySem.W.Frag}{mg:Str->Option Value}{base:Heap}
theorem scRs:FnScope ["lines"] ["lines"] (defScope sRs):=⟨rfl,rfl,rfl,by decide +kernel,rfl,by decide +kernel,by decide +kernel⟩
theorem ok_rs {C f fI fL:Addr}{fd' fdI fdL:FuncData}(F:Fun K "read_labels" "read_labels" sRs f fd') (mC:mg "NoText" = some (.ref C)) (EI:ExcI K C fI)(bI:Binds K fdI ["self", "line", "word"] []) (GI:FnOk P w K mg base CX0 1 fI fdI ["self", "line", "word"] (spXI C "line" "word"))
 (FL:Fun K "read_label" "read_label" sRl fL fdL) (bL:Binds K fdL ["n", "at", "line"] []) (mL:mg "read_label" = some (.ref fL)) (GL:FnOk P w K mg base (CXI P w) 6 fL fdL ["n", "at", "line"] (spRl C)) (mLen:mg "len" = none) (mEnum:mg "enumerate" = none) (mTuple:mg "tuple" = none):FnOk P w K mg base (CXI P w) 7 f fd' ["lines"] (spRs C):=by
 refine F.okI scRs (fun vs H Q E h=>?_) (fun cdv A outer s H vs Q E hr h=>?_)
 . obtain⟨l,zs,rfl,_⟩:=h
   rfl
 . obtain⟨l,zs,rfl,L,hzl,kY,kN⟩:=h
   have hsl:200000<=sizeLine:=by decide
   refine⟨_,pss_cons (ps_if (pt_cmpR op_eq (pe_callB call_len_seq (by rfl) mLen PySem.boot_len (pa_cons (pv 0) pa_nil)) pe_int (nomark _)) (pss_one (ps_raiseI (E:=E) rfl mC EI rfl (GI.mono (by decide)) hr bI (pa_int (pa_int pa_nil)) (fun pins σ H s ea tt dx I he hn h0 hE=>raisedD I he rfl rfl rfl rfl hn h0 hE))) pss_nil)
    (pss_one (ps_ret (pe_callTy call_tuple_of (by rfl) mTuple (by decide +kernel) (pa_cons (pe_compX (own:=["at", "line"]) (cn:=["lines"]) (ci:=[0]) rfl (csc rfl rfl) ⟨rfl,rfl,rfl,trivial⟩ rfl (pi_enum rfl mEnum (pa_cons (pv 0) pa_nil))
     (fun _ _ _ _=>pg_tupC (n:=2) rfl (pgs_cons (pg_name (i:=0) (nd_of rfl) rfl (Or.inl rfl)) (pgs_cons (pg_name (i:=1) (nd_of rfl) rfl (Or.inl rfl)) pgs_nil))) (fun _ _ _ _=>pts_nil)
     (fun _ _ _ _ ci=>pe_call GL hr rfl mL FL.kp bL .nil (passC ci) (pa_cons (pe_callB call_len_seqX (by rfl) mLen PySem.boot_len (pa_cons (pv 2) pa_nil)) (pa_cons (pv 0) (pa_cons (pv 1) pa_nil))))) pa_nil)))),?_⟩
   refine⟨_,rfl,l,_,rfl,.inl (SqL.of L.1),rfl,_,rfl,?_⟩
   rw[List.length_map,bl_int]
   unfold rdAll at kY kN
   by_cases c0:zs.length=0
   . refine ifT (decide_eq_true (by omega)) ?_
     rw[if_pos c0] at kN
     exact⟨_,_,rfl,fld_fail (Same.refl _) (kN 0 0 rfl)⟩
   refine ifF (decide_eq_false (by omega)) ?_
   rw[if_neg c0] at kY kN
   refine⟨_,rfl,l,rfl,⟨_,SqL.of L.1⟩,[.ref l],rfl,fun D hD=>?_⟩
   refine comp_enum (a:=l) (xs:=zs.map V.str) (fun i ys H4=>i<=zs.length/\∃ls:List (List E4),Same H H4/\H4 D=some (.lst ys)/\LT H4 ys ls/\ys.length=i/\rdLs zs.length [] 0 zs=rdLs zs.length ls i (zs.drop i))
    ⟨Nat.zero_le _,[],same_laid hD,upd_same,LT.nil,rfl,rfl⟩ (fun i ys H4 ⟨_,_,s4,_⟩=>SqL.of (s4 _ _ L.1)) (fun i ys H4 ⟨hi,_,_,_,_,hy,_⟩=>by omega) (fun i x ys H4 T hx y hT=>?_) (fun ys H4 y=>?_)
   . obtain⟨_,ls,s4,hD4,lt,hyl,eq⟩:=y
     rw[List.getElem?_map] at hx
     cases hz:zs[i]? with
     | none=>rw[hz] at hx;cases hx
     | some z=>
     rw[hz] at hx
     cases hx
     have hi:i<zs.length:=(List.getElem?_eq_some_iff.mp hz).1
     have edr:zs.drop i=z::zs.drop (i+1):=by
      rw[List.drop_eq_getElem_cons hi]
      congr 1
      exact (List.getElem?_eq_some_iff.mp hz).2
     rw[edr] at eq
     have s5:=same_laid (o:=.tup [.int (i:Int),.str z]) hT
     refine⟨T,_,rfl,SqT.of upd_same,rfl,_,_,rfl,_,_,rfl,rfl,⟨rfl,rfl⟩,?_⟩
     refine tyes ?_
     refine⟨_,rfl,l,_,rfl,.inl (SqL.of (s5 _ _ (s4 _ _ L.1))),_,rfl,_,rfl,((zs.map V.str).length:Int),i,z,rfl,by rw[List.length_map];omega,by rw[List.length_map];omega,L.2 z (List.mem_of_getElem? hz),fun es he p xs H6 s6 hp ea=>?_,fun k he dx H' s' Fl=>?_⟩
     . rw[List.length_map] at he
       have hD6:=s6 _ _ (s5 _ _ hD4)
       have s56:=s5.trans s6
       refine⟨hD6,hi,ls++[es],fun b o q=>?_,upd_same,?_,?_,eq.trans (rdLs_ok he)⟩
       . rw[upd_ne (ne_of_none q hD)]
         exact s56 _ _ (s4 _ _ q)
       . have kp:∀b ys',H6 b=some (.tup ys')->(upd H6 D (.lst (ys++[.ref p]))) b=some (.tup ys'):=fun b ys' q=>by
          rw[upd_ne (ne_of q hD6 (by intro z;cases z))];exact q
         exact ((lt.keepT fun b ys' q=>s56 _ _ q).keepT kp).snoc (kp _ _ hp) (ea.keepT kp)
       . rw[List.length_append,hyl];rfl
     . rw[List.length_map] at he
       exact kN i k (eq.trans (rdLs_err he)) dx H' ((s4.trans s5).trans s') Fl
   . obtain⟨_,ls,s4,hD4,lt,hyl,eq⟩:=y
     rw[List.length_map,List.drop_eq_nil_of_le (Nat.le_refl _)] at eq
     refine⟨D,ys,rfl,.inl ⟨SqL.of hD4,fun ta hta=>?_⟩⟩
     have s5:=same_laid (o:=.tup ys) hta
     exact kY ls (eq.trans (by rw[rdLs])) ta _ (s4.trans s5) ⟨ys,upd_same,lt.keepT fun b ys' q=>s5 _ _ q⟩
end
end K70
namespace K70
open PySem L2 WM
theorem small_line {n:Nat}(h:n<=100000):n<sizeLine:=Nat.lt_of_le_of_lt h (by decide)
open DG
noncomputable abbrev sN (k:Int):Str:=Str.ofString (toString k)
noncomputable abbrev col:Str:=Str.ofString ":"
noncomputable abbrev sp1:Str:=Str.ofString " "
noncomputable def e4T:E4->List Str
 | (h,l,none)=>[sN h,sN l,dash,dash]
 | (h,l,some (u,d))=>[sN h,sN l,sN u,sN d]
noncomputable def eW (e:E4):Str:=Txt.join col (e4T e)
noncomputable def lW (es:List E4):Str:=Txt.join sp1 (lab::es.map eW)
noncomputable def labLs (ls:List (List E4)):List Str:=ls.map lW
noncomputable def Sm1 (k:Int):Prop:=0<=k/\k<1000000000000
structure SmE (e:E4):Prop where
 h:Sm1 e.1
 l:Sm1 e.2.1
 o:∀u d,e.2.2=some (u,d)->Sm1 u/\Sm1 d
noncomputable def NW (v:V)(z:Str):Prop:=(v = .non/\z=dash)\/∃k,v = .int k/\Sm1 k/\z=sN k
theorem NW.len {v:V}{z:Str}(h:NW v z):z.length<=20:=by
 rcases h with ⟨_,rfl⟩ | ⟨k,_,h,rfl⟩
 . decide
 . exact log_small h.1 (by have:=h.2;omega)
theorem e4_at {e:E4}(h:SmE e){i:Nat}{v:V}(hv:(e4V e)[i]? = some v):∃z,(e4T e)[i]? = some z/\NW v z:=by
 obtain⟨a,b,o⟩:=e
 cases o with
 | none=>
  match i with
  | 0=>cases hv;exact⟨_,rfl,.inr ⟨_,rfl,h.h,rfl⟩⟩
  | 1=>cases hv;exact⟨_,rfl,.inr ⟨_,rfl,h.l,rfl⟩⟩
  | 2=>cases hv;exact⟨_,rfl,.inl ⟨rfl,rfl⟩⟩
  | 3=>cases hv;exact⟨_,rfl,.inl ⟨rfl,rfl⟩⟩
  | i+4=>simp[e4V] at hv
 | some q=>
  obtain⟨u,d⟩:=q
  have hud:=h.o u d rfl
  match i with
  | 0=>cases hv;exact⟨_,rfl,.inr ⟨_,rfl,h.h,rfl⟩⟩
  | 1=>cases hv;exact⟨_,rfl,.inr ⟨_,rfl,h.l,rfl⟩⟩
  | 2=>cases hv;exact⟨_,rfl,.inr ⟨_,rfl,hud.1,rfl⟩⟩
  | 3=>cases hv;exact⟨_,rfl,.inr ⟨_,rfl,hud.2,rfl⟩⟩
  | i+4=>simp[e4V] at hv
theorem e4T_len (e:E4):(e4T e).length=4:=by
 obtain⟨h,l,o⟩:=e
 cases o with
 | none=>rfl
 | some q=>rfl
theorem e4T_sm {e:E4}(h:SmE e):∀z∈e4T e,z.length<=20:=fun z hz=>by
 obtain⟨i,hi⟩:=List.mem_iff_getElem?.mp hz
 have hl:=(List.getElem?_eq_some_iff.mp hi).1
 rw[e4T_len] at hl
 obtain⟨y,hy,hn⟩:=e4_at h (List.getElem?_eq_getElem (l:=e4V e) (i:=i) (by rw[e4V_len];exact hl))
 rw[hi] at hy
 cases hy
 exact hn.len
noncomputable def tot (ws:List Str):Nat:=(ws.map fun w=>w.length+1).sum
theorem tot_cons (w:Str)(ws:List Str):tot (w::ws)=w.length+1+tot ws:=by unfold tot;rw[List.map_cons,List.sum_cons]
theorem tot_app (xs ys:List Str):tot (xs++ys)=tot xs+tot ys:=by unfold tot;rw[List.map_append,List.sum_append]
theorem tot_sum (ws:List Str):(ws.map fun y=>y.length).sum+ws.length=tot ws:=by
 induction ws with
 | nil=>rfl
 | cons w ws ih=>rw[tot_cons,List.map_cons,List.sum_cons,List.length_cons];omega
theorem tot_le {b:Nat}:∀{ws:List Str},(∀z∈ws,z.length<=b)->tot ws<=(b+1)*ws.length
 | [],_=>Nat.zero_le _
 | w::ws,h=>by
  have h1:=h w (by simp)
  have h2:=tot_le (b:=b) (ws:=ws) fun z hz=>h z (by simp[hz])
  rw[tot_cons,List.length_cons,Nat.mul_add,Nat.mul_one]
  omega
theorem len_app (a b:Str):(a++b).length=a.length+b.length:=strLen_append a b
theorem join_le1 {c:Str}(hc:c.length=1):∀ws:List Str,(Str.join c ws).length<=tot ws
 | []=>Nat.zero_le _
 | [w]=>by rw[tot_cons];show w.length<=w.length+1+_;omega
 | w::x::ws=>by
  have ih:=join_le1 hc (x::ws)
  have e:Str.join c (w::x::ws)=w++c++Str.join c (x::ws):=rfl
  rw[e,tot_cons,len_app,len_app,hc]
  omega
theorem join_le {c:Str}(hc:c.length=1)(ws:List Str):(Txt.join c ws).length<=tot ws:=by
 rw[show Txt.join c ws=Str.join c ws from StrLaws.glued_eq_join _ _]
 exact join_le1 hc ws
theorem tot4 {e:E4}(h:SmE e):tot (e4T e)<=84:=by
 have:=tot_le (e4T_sm h)
 rw[e4T_len] at this
 omega
theorem eW_len {e:E4}(h:SmE e):(eW e).length<=84:=Nat.le_trans (join_le (by decide) _) (tot4 h)
theorem lW_tot {es:List E4}(h:∀e∈es,SmE e):tot (lab::es.map eW)<=85*es.length+6:=by
 have h1:=tot_le (b:=84) (ws:=es.map eW) fun z hz=>by
  obtain⟨e,he,rfl⟩:=List.mem_map.mp hz
  exact eW_len (h e he)
 rw[List.length_map] at h1
 rw[tot_cons,show lab.length=5 from by decide]
 omega
noncomputable def spNw:Sp:=fun vs H Q _=>∃v z,vs=[v]/\NW v z/\Q (.str z) H
noncomputable def spEw:Sp:=fun vs H Q _=>∃(p:Addr)(e:E4),vs=[.ref p]/\H p=some (.tup (e4V e))/\SmE e/\∀H',Same H H'->Q (.str (eW e)) H'
noncomputable def spLo:Sp:=fun vs H Q _=>∃(p:Addr)(ys:List V)(es:List E4),vs=[.ref p]/\H p=some (.tup ys)/\EsAt H ys es/\(∀e∈es,SmE e)/\es.length<=1000/\∀H',Same H H'->Q (.str (lW es)) H'
noncomputable def SmL (ls:List (List E4)):Prop:=ls.length<=1000/\∀es∈ls,es.length<=1000/\∀e∈es,SmE e
noncomputable def spLl:Sp:=fun vs H Q _=>∃(a:Addr)(ls:List (List E4)),vs=[.ref a]/\LabT H a ls/\SmL ls/\∀l H',Same H H'->H' l=some (.lst ((labLs ls).map V.str))->Q (.ref l) H'
section
variable {X:Cx}{pl:List (Addr×Obj)}{N':List Str}{sc:Scope}{fp:List Addr}{s3:Shared}{H3:Hp}
end
section
variable {P:Program}{w:World}{K:PySem.W.Frag}{mg:Str->Option Value}{base:Heap}
theorem scNw:FnScope ["number"] ["number"] (defScope sNw):=⟨rfl,rfl,rfl,by decide +kernel,rfl,by decide +kernel,by decide +kernel⟩
theorem ok_nw {f:Addr}{fd':FuncData}(F:Fun K "number_word" "number_word" sNw f fd') (mStr:mg "str" = none):FnOk P w K mg base CX0 1 f fd' ["number"] spNw:=by
 refine F.ok scNw (fun vs H Q E h=>?_) (fun cdv A outer s H vs Q E hr h=>?_)
 . obtain⟨v,z,rfl,_⟩:=h
   rfl
 . obtain⟨v,z,rfl,hn,k⟩:=h
   refine⟨_,pss_one (ps_ret (pe_ifExp (pt_cmpR op_isN (pv 0) pe_non (nomark _)) pe_str (pe_callTy call_strJ (by rfl) mStr (by decide +kernel) (pa_cons (pv 0) pa_nil)))),?_⟩
   rcases hn with ⟨rfl,rfl⟩ | ⟨i,rfl,hi,rfl⟩
   . exact⟨_,rfl,rfl,_,rfl,ifT rfl k⟩
   . refine⟨_,rfl,rfl,_,rfl,ifF rfl ?_⟩
     obtain⟨h0,h1⟩:=hi
     exact⟨_,rfl,i,rfl,by omega,k⟩
theorem scEw:FnScope ["entry"] ["entry"] (defScope sEw):=⟨rfl,rfl,rfl,by decide +kernel,rfl,by decide +kernel,by decide +kernel⟩
theorem ok_ew {f fN:Addr}{fd' fdN:FuncData}(F:Fun K "entry_word" "entry_word" sEw f fd') (FN:Fun K "number_word" "number_word" sNw fN fdN) (bN:Binds K fdN ["number"] []) (mN:mg "number_word" = some (.ref fN)) (mStr:mg "str" = none):FnOk P w K mg base CX0 2 f fd' ["entry"] spEw:=by
 have GN:FnOk P w K mg base CX0 1 fN fdN ["number"] spNw:=ok_nw FN mStr
 refine F.ok scEw (fun vs H Q E h=>?_) (fun cdv A outer s H vs Q E hr h=>?_)
 . obtain⟨p,e,rfl,_⟩:=h
   rfl
 . obtain⟨p,e,rfl,hp,sm,k⟩:=h
   refine⟨_,pss_one (ps_ret (pe_bm PySem.F.plainAttrs_str PySem.F.slot_str_join PySem.F.type_str_join mt_join pe_str (pa_cons (pe_comp (own:=["number"]) (cn:=[]) (ci:=[]) rfl (csc rfl rfl) trivial rfl (pi_tup (pv 0)) (fun _ _ _ _=>pg_name (i:=0) (nd_of rfl) rfl (Or.inl rfl)) (fun _ _ _ _=>pts_nil)
    (fun _ _ _ _=>pe_call GN hr rfl mN FN.kp bN .nil pass0 (pa_cons (pv 0) pa_nil))) pa_nil))),?_⟩
   refine⟨rfl,_,rfl,p,rfl,⟨_,SqT.of hp⟩,[],rfl,fun D hD=>?_⟩
   have sD:∀o,Same H (upd H D o):=fun o=>same_laid hD
   refine comp_tup (a:=p) (xs:=e4V e) (fun i ys H4=>i<=4/\ys=((e4T e).take i).map V.str/\H4=upd H D (.lst ys)) ⟨Nat.zero_le _,rfl,rfl⟩ (fun i ys H4 y=>?_) (fun i ys H4 y=>?_) (fun i x ys H4 hx y=>?_) (fun ys H4 y=>?_)
   . rw[y.2.2]
     exact SqT.of (sD _ _ _ hp)
   . rw[y.2.1,List.length_map,List.length_take,e4T_len]
     exact small_line (by omega)
   . obtain⟨_,rfl,rfl⟩:=y
     have hi:=(List.getElem?_eq_some_iff.mp hx).1
     rw[e4V_len] at hi
     obtain⟨z,hz,hn⟩:=e4_at sm hx
     refine⟨⟨rfl,rfl⟩,?_⟩
     refine tyes ?_
     refine⟨_,rfl,x,z,rfl,hn,upd_same,by omega,?_,upd_upd⟩
     rw[List.take_add_one,hz,List.map_append]
     rfl
   . obtain⟨_,rfl,rfl⟩:=y
     rw[e4V_len,List.take_of_length_le (by rw[e4T_len];exact Nat.le_refl _)]
     have t4:=tot4 sm
     exact⟨_,D,e4T e,rfl,rfl,SqL.of upd_same,by decide,by rw[tot_sum];omega,k _ (sD _)⟩
theorem scLo:FnScope ["label"] ["label"] (defScope sLo):=⟨rfl,rfl,rfl,by decide +kernel,rfl,by decide +kernel,by decide +kernel⟩
theorem ok_lo {f fE fN:Addr}{fd' fdE fdN:FuncData}(F:Fun K "label_line" "label_line" sLo f fd') (FE:Fun K "entry_word" "entry_word" sEw fE fdE) (bE:Binds K fdE ["entry"] []) (mE:mg "entry_word" = some (.ref fE)) (FN:Fun K "number_word" "number_word" sNw fN fdN) (bN:Binds K fdN ["number"] []) (mN:mg "number_word" = some (.ref fN)) (mStr:mg "str" = none):FnOk P w K mg base CX0 3 f fd' ["label"] spLo:=by
 have GE:FnOk P w K mg base CX0 2 fE fdE ["entry"] spEw:=ok_ew FE FN bN mN mStr
 refine F.ok scLo (fun vs H Q E h=>?_) (fun cdv A outer s H vs Q E hr h=>?_)
 . obtain⟨p,ys,es,rfl,_⟩:=h
   rfl
 . obtain⟨p,ys,es,rfl,hp,ea,sm,hle,k⟩:=h
   have hsl:200000<=sizeLine:=by decide
   refine⟨_,pss_one (ps_ret (pe_bm PySem.F.plainAttrs_str PySem.F.slot_str_join PySem.F.type_str_join mt_join pe_str (pa_cons (pe_op op_cat (pe_lst (pa_cons pe_str pa_nil)) (pe_comp (own:=["entry"]) (cn:=[]) (ci:=[]) rfl (csc rfl rfl) trivial rfl (pi_tup (pv 0)) (fun _ _ _ _=>pg_name (i:=0) (nd_of rfl) rfl (Or.inl rfl)) (fun _ _ _ _=>pts_nil)
    (fun _ _ _ _=>pe_call GE hr rfl mE FE.kp bE .nil pass0 (pa_cons (pv 0) pa_nil)))) pa_nil))),?_⟩
   refine⟨rfl,by show 1<=sizeLine;omega,fun l1 hl1=>?_⟩
   have s1:=same_laid (o:=.lst [.str lab]) hl1
   have h1:(upd H l1 (.lst [.str lab])) l1=some (.lst [.str lab]):=upd_same
   have hp1:=s1 _ _ hp
   have ea1:=ea.keep s1
   generalize upd H l1 (.lst [.str lab])=H1 at s1 h1 hp1 ea1 ⊢
   refine⟨_,rfl,p,rfl,⟨_,SqT.of hp1⟩,[],rfl,fun D hD=>?_⟩
   refine comp_tup (a:=p) (xs:=ys) (fun i xs H4=>i<=ys.length/\xs=((es.take i).map eW).map V.str/\Same H1 H4/\H4 D=some (.lst xs)) ⟨Nat.zero_le _,rfl,same_laid hD,upd_same⟩ (fun i xs H4 y=>SqT.of (y.2.2.1 _ _ hp1)) (fun i xs H4 y=>?_) (fun i x xs H4 hx y=>?_) (fun xs H4 y=>?_)
   . rw[y.2.1,List.length_map,List.length_map,List.length_take]
     omega
   . obtain⟨_,rfl,s4,hD4⟩:=y
     have hi:=(List.getElem?_eq_some_iff.mp hx).1
     obtain⟨e,q,he,rfl,hq⟩:=ea1.get hx
     refine⟨⟨rfl,rfl⟩,?_⟩
     refine tyes ?_
     refine⟨_,rfl,q,e,rfl,s4 _ _ hq,sm e (List.mem_of_getElem? he),fun H5 s5=>?_⟩
     refine⟨s5 _ _ hD4,hi,?_,same_chg (s4.trans s5) hD,upd_same⟩
     rw[List.take_add_one,he,List.map_append,List.map_append]
     rfl
   . obtain⟨_,rfl,s4,hD4⟩:=y
     rw[ea1.1,List.take_of_length_le (Nat.le_refl _)] at hD4
     refine⟨l1,D,_,_,rfl,rfl,s4 _ _ h1,hD4,by rw[List.length_map,List.length_map];show 1+es.length<=_;omega,fun q hq=>?_⟩
     have lt:=lW_tot sm
     refine⟨_,q,lab::es.map eW,rfl,rfl,SqL.of upd_same,by decide,by rw[tot_sum];omega,?_⟩
     exact k _ (s1.trans (s4.trans (same_laid hq)))
theorem scLl:FnScope ["labels"] ["labels"] (defScope sLl):=⟨rfl,rfl,rfl,by decide +kernel,rfl,by decide +kernel,by decide +kernel⟩
theorem ok_ll {f fL fE fN:Addr}{fd' fdL fdE fdN:FuncData}(F:Fun K "label_lines" "label_lines" sLl f fd') (FL:Fun K "label_line" "label_line" sLo fL fdL) (bL:Binds K fdL ["label"] []) (mL:mg "label_line" = some (.ref fL)) (FE:Fun K "entry_word" "entry_word" sEw fE fdE) (bE:Binds K fdE ["entry"] []) (mE:mg "entry_word" = some (.ref fE)) (FN:Fun K "number_word" "number_word" sNw fN fdN) (bN:Binds K fdN ["number"] []) (mN:mg "number_word" = some (.ref fN)) (mStr:mg "str" = none):FnOk P w K mg base CX0 4 f fd' ["labels"] spLl:=by
 have GL:FnOk P w K mg base CX0 3 fL fdL ["label"] spLo:=ok_lo FL FE bE mE FN bN mN mStr
 refine F.ok scLl (fun vs H Q E h=>?_) (fun cdv A outer s H vs Q E hr h=>?_)
 . obtain⟨a,ls,rfl,_⟩:=h
   rfl
 . obtain⟨a,ls,rfl,⟨ys,ha,lt⟩,sm,k⟩:=h
   have hsl:200000<=sizeLine:=by decide
   have h1:=sm.1
   refine⟨_,pss_one (ps_ret (pe_comp (own:=["label"]) (cn:=[]) (ci:=[]) rfl (csc rfl rfl) trivial rfl (pi_tup (pv 0)) (fun _ _ _ _=>pg_name (i:=0) (nd_of rfl) rfl (Or.inl rfl)) (fun _ _ _ _=>pts_nil)
    (fun _ _ _ _=>pe_call GL hr rfl mL FL.kp bL .nil pass0 (pa_cons (pv 0) pa_nil)))),?_⟩
   refine⟨_,rfl,a,rfl,⟨_,SqT.of ha⟩,[],rfl,fun D hD=>?_⟩
   refine comp_tup (a:=a) (xs:=ys) (fun i xs H4=>i<=ys.length/\xs=((ls.take i).map lW).map V.str/\Same H H4/\H4 D=some (.lst xs)) ⟨Nat.zero_le _,rfl,same_laid hD,upd_same⟩ (fun i xs H4 y=>SqT.of (y.2.2.1 _ _ ha)) (fun i xs H4 y=>?_) (fun i x xs H4 hx y=>?_) (fun xs H4 y=>?_)
   . rw[y.2.1,List.length_map,List.length_map,List.length_take]
     omega
   . obtain⟨_,rfl,s4,hD4⟩:=y
     have hi:=(List.getElem?_eq_some_iff.mp hx).1
     obtain⟨es,q,zs,he,rfl,hq,ea⟩:=lt.get hx
     have sme:=sm.2 es (List.mem_of_getElem? he)
     refine⟨⟨rfl,rfl⟩,?_⟩
     refine tyes ?_
     refine⟨_,rfl,q,zs,es,rfl,s4 _ _ hq,ea.keep s4,sme.2,sme.1,fun H5 s5=>?_⟩
     refine⟨s5 _ _ hD4,hi,?_,same_chg (s4.trans s5) hD,upd_same⟩
     rw[List.take_add_one,he,List.map_append,List.map_append]
     rfl
   . obtain⟨_,rfl,s4,hD4⟩:=y
     rw[lt.1,List.take_of_length_le (Nat.le_refl _)] at hD4
     exact k D H4 s4 hD4
end
end K70
namespace K70
open PySem L2 WM
open DG
noncomputable def spLi:Sp:=fun vs H Q _=>∃(a:Addr)(ls:List (List E4)),vs=[.ref a]/\LabT H a ls/\SmL ls/\∀l H',H l=none->Same H H'->H' l=some (.lst ((labLs ls).map V.str))->Q (.ref l) H'
section
variable {P:Program}{w:World}{K:PySem.W.Frag}{mg:Str->Option Value}{base:Heap}
theorem scLi:FnScope ["_law_labels_here", "_law_lines_here", "_law_label", "_law_words", "_law_entry_here"] ["_law_labels_here"] (defScope sLi):=⟨rfl,rfl,rfl,by decide +kernel,rfl,by decide +kernel,by decide +kernel⟩
theorem ok_li {f:Addr}{fd':FuncData}(F:Fun K "_law_lines" "_law_lines" sLi f fd') (mStr:mg "str" = none):FnOk P w K mg base CX0 1 f fd' ["_law_labels_here"] spLi:=by
 refine F.ok scLi (fun vs H Q E h=>?_) (fun cdv A outer s H vs Q E hr h=>?_)
 . obtain⟨a,ls,rfl,_⟩:=h
   rfl
 . obtain⟨a,ls,rfl,⟨ys,ha,lt⟩,sm,k⟩:=h
   have hsl:200000<=sizeLine:=by decide
   have h1:=sm.1
   refine⟨_,pss_cons (ps_set (i:=1) scLi.nd rfl (Or.inl rfl) (pe_lst pa_nil))
    (pss_cons (ps_for PassesOwn.never rfl (pi_tup (pv 0)) (pg_name (i:=2) scLi.nd rfl (Or.inl rfl))
     (pss_cons (ps_set (i:=3) scLi.nd rfl (Or.inl rfl) (pe_lst (pa_cons pe_str pa_nil)))
     (pss_cons (ps_for PassesOwn.never rfl (pi_tup (pv 2)) (pg_name (i:=4) scLi.nd rfl (Or.inl rfl))
      (pss_one (ps_expr (pe_bm PySem.F.plainAttrs_list PySem.F.slot_list_append PySem.F.type_list_append mt_append (pv 3) (pa_cons (pe_bm PySem.F.plainAttrs_str PySem.F.slot_str_join PySem.F.type_str_join mt_join pe_str (pa_cons
       (pe_comp (own:=["_law_part"]) (cn:=[]) (ci:=[]) rfl (csc rfl rfl) trivial rfl (pi_tup (pv 4)) (fun _ _ _ _=>pg_name (i:=0) (nd_of rfl) rfl (Or.inl rfl)) (fun _ _ _ _=>pts_nil)
        (fun _ _ _ _=>pe_ifExp (pt_cmpR op_isN (pv 0) pe_non (nomark _)) pe_str (pe_callTy call_strJ (by rfl) mStr (by decide +kernel) (pa_cons (pv 0) pa_nil)))) pa_nil)) pa_nil)))))
     (pss_one (ps_expr (pe_bm PySem.F.plainAttrs_list PySem.F.slot_list_append PySem.F.type_list_append mt_append (pv 1) (pa_cons (pe_bm PySem.F.plainAttrs_str PySem.F.slot_str_join PySem.F.type_str_join mt_join pe_str (pa_cons (pv 3) pa_nil)) pa_nil)))))))
    (pss_one (ps_ret (pv 1)))),?_⟩
   refine⟨Nat.zero_le _,fun L hL=>?_⟩
   have sL:=same_laid (o:=.lst []) hL
   refine⟨_,rfl,a,rfl,⟨_,SqT.of (sL _ _ ha)⟩,?_⟩
   refine for_tup (a:=a) (xs:=ys) (fun i σ H4=>i<=ys.length/\∃v2 v3 v4:Option V,σ=[some (.ref a),some (.ref L),v2,v3,v4]/\Same H H4/\H4 L=some (.lst (((ls.take i).map lW).map V.str))) ⟨Nat.zero_le _,_,_,_,rfl,sL,upd_same⟩ (fun i σ H4 _ ⟨_,_,_,_,_,s4,_⟩=>SqT.of (s4 _ _ ha)) (fun i x σ H4 hx y=>?_) (fun σ H4 y=>?_)
   . obtain⟨_,v2,v3,v4,rfl,s4,hL4⟩:=y
     have hi:=(List.getElem?_eq_some_iff.mp hx).1
     obtain⟨es,q,zs,he,rfl,hq,ea⟩:=lt.get hx
     have sme:=sm.2 es (List.mem_of_getElem? he)
     have sml:=sme.1
     refine⟨by show 1<=sizeLine;omega,fun W hW=>?_⟩
     have sW:=same_laid (o:=.lst [.str lab]) hW
     have nWL:L≠W:=ne_of_none hL4 hW
     refine⟨_,rfl,q,rfl,⟨_,SqT.of (sW _ _ (s4 _ _ hq))⟩,?_⟩
     refine for_tup (a:=q) (xs:=zs) (fun j σ H5=>j<=zs.length/\∃v4:Option V,σ=[some (.ref a),some (.ref L),some (.ref q),some (.ref W),v4]/\Same H4 H5/\H5 W=some (.lst ((lab::(es.take j).map eW).map V.str))) ⟨Nat.zero_le _,_,rfl,sW,upd_same⟩ (fun j σ H5 _ ⟨_,_,_,s5,_⟩=>SqT.of (s5 _ _ (s4 _ _ hq))) (fun j x σ H5 hx y=>?_) (fun σ H5 y=>?_)
     . obtain⟨_,v4,rfl,s5,hW5⟩:=y
       have hj:=(List.getElem?_eq_some_iff.mp hx).1
       obtain⟨e,r,hej,rfl,hr'⟩:=ea.get hx
       have smE:=sme.2 e (List.mem_of_getElem? hej)
       have hr5:=s5 _ _ (s4 _ _ hr')
       refine⟨_,rfl,.inl ⟨rfl,_,SqL.of hW5⟩,rfl,_,rfl,r,rfl,⟨_,SqT.of hr5⟩,[],rfl,fun D hD=>?_⟩
       have sD:∀o,Same H5 (upd H5 D o):=fun o=>same_laid hD
       have nDW:W≠D:=ne_of_none hW5 hD
       refine comp_tup (a:=r) (xs:=e4V e) (fun i ys H6=>i<=4/\ys=((e4T e).take i).map V.str/\H6=upd H5 D (.lst ys)) ⟨Nat.zero_le _,rfl,rfl⟩ (fun i ys H6 y=>?_) (fun i ys H6 y=>?_) (fun i x ys H6 hx y=>?_) (fun ys H6 y=>?_)
       . rw[y.2.2]
         exact SqT.of (sD _ _ _ hr5)
       . rw[y.2.1,List.length_map,List.length_take,e4T_len]
         exact small_line (by omega)
       . obtain⟨_,rfl,rfl⟩:=y
         have hi:=(List.getElem?_eq_some_iff.mp hx).1
         rw[e4V_len] at hi
         obtain⟨z,hz,hn⟩:=e4_at smE hx
         have fin:(upd H5 D (.lst (((e4T e).take i).map V.str))) D=some (.lst (((e4T e).take i).map V.str))/\i+1<=4/\((e4T e).take i).map V.str++[V.str z]=((e4T e).take (i+1)).map V.str/\upd (upd H5 D (.lst (((e4T e).take i).map V.str))) D (.lst (((e4T e).take i).map V.str++[V.str z]))=upd H5 D (.lst (((e4T e).take i).map V.str++[V.str z])):=by
          refine⟨upd_same,by omega,?_,upd_upd⟩
          rw[List.take_add_one,hz,List.map_append]
          rfl
         refine⟨⟨rfl,rfl⟩,?_⟩
         refine tyes ?_
         rcases hn with ⟨rfl,rfl⟩ | ⟨m,rfl,hm,rfl⟩
         . exact⟨_,rfl,rfl,_,rfl,ifT rfl fin⟩
         . refine⟨_,rfl,rfl,_,rfl,ifF rfl ?_⟩
           obtain⟨m0,m1⟩:=hm
           exact⟨_,rfl,m,rfl,by omega,fin⟩
       . obtain⟨_,rfl,rfl⟩:=y
         rw[e4V_len,List.take_of_length_le (by rw[e4T_len];exact Nat.le_refl _)]
         have t4:=tot4 smE
         refine⟨_,D,e4T e,rfl,rfl,SqL.of upd_same,by decide,by rw[tot_sum];omega,?_⟩
         have hW6:=sD (.lst ((e4T e).map V.str)) _ _ hW5
         have hel:=ea.1
         refine⟨W,_,.str (eW e),rfl,rfl,hW6,by rw[List.length_map,List.length_cons,List.length_map,List.length_take];omega,?_⟩
         refine⟨by omega,_,rfl,fun b o z=>?_,?_⟩
         . rw[upd_ne (ne_of_none z hW)]
           exact sD _ _ _ (s5 _ _ z)
         . rw[upd_same,List.take_add_one,hej,List.map_append]
           simp
     . obtain⟨_,v4,rfl,s5,hW5⟩:=y
       rw[ea.1,List.take_of_length_le (Nat.le_refl _)] at hW5
       have lt4:=lW_tot sme.2
       have hL5:=s5 _ _ hL4
       refine⟨_,rfl,.inl ⟨rfl,_,SqL.of hL5⟩,rfl,_,rfl,_,W,lab::es.map eW,rfl,rfl,SqL.of hW5,by decide,by rw[tot_sum];omega,?_⟩
       have hll:=lt.1
       refine⟨L,_,.str (lW es),rfl,rfl,hL5,by rw[List.length_map,List.length_map,List.length_take];omega,?_⟩
       refine⟨by omega,_,_,_,rfl,fun b o z=>?_,?_⟩
       . rw[upd_ne (ne_of_none z hL)]
         exact s5 _ _ (s4 _ _ z)
       . rw[upd_same,List.take_add_one,he,List.map_append,List.map_append]
         rfl
   . obtain⟨_,v2,v3,v4,rfl,s4,hL4⟩:=y
     rw[lt.1,List.take_of_length_le (Nat.le_refl _)] at hL4
     exact⟨_,rfl,k L H4 hL s4 hL4⟩
end
end K70
namespace K70
open PySem L2 WM
open DG
theorem dv_12 {z:Str}(h:Dg z):(dv z:Int)<=BIG↔z.length<=12:=by
 have e:z.length=(Nat.toDigits 10 (dv z)).length:=by
  have:=congrArg Str.length h.text
  rw[len_num] at this
  exact this
 have a:(Nat.toDigits 10 999999999999).length=12:=by decide
 have b:(Nat.toDigits 10 1000000000000).length=13:=by decide
 constructor
 . intro hle
   have hle:(dv z:Int)<=999999999999:=hle
   have:=len_mono (show dv z<=999999999999 by omega)
   omega
 . intro hl
   by_cases c:dv z<=999999999999
   . show ((dv z:Nat):Int)<=999999999999
     omega
   . have:=len_mono (show 1000000000000<=dv z by omega)
     omega
noncomputable def spLu:Sp:=fun vs H Q _=>∃z:Str,vs=[.str z]/\z.length<=100000/\∀H',Same H H'->Q (oI (numB z 0 BIG)) H'
theorem numB_no {z:Str}(h:¬ (Dg z/\z.length<=12)):numB z 0 BIG=none:=by
 unfold numB
 rw[if_neg fun x=>h ⟨x.1,(dv_12 x.1).mp x.2.2⟩]
theorem numB_yes {z:Str}(h:Dg z)(hl:z.length<=12):numB z 0 BIG=some (dv z:Int):=by
 unfold numB
 rw[if_pos ⟨h,by omega,(dv_12 h).mpr hl⟩]
noncomputable def tLu (z:Str):TS:=fun D σ H=>σ[0]? = some (some (.str z))/\(∀H',Same H H'->¬ (z.length<=12/\z.cps.toList≠[]/\∀c∈z.cps.toList,48<=c/\c<=57)->D.rt .non H')/\∀H',Same H H'->(z.length<=12/\z.cps.toList≠[]/\∀c∈z.cps.toList,48<=c/\c<=57)->D.nx σ H'
section
variable {P:Program}{w:World}{K:PySem.W.Frag}{mg:Str->Option Value}{base:Heap}
theorem scLu:FnScope ["_law_word"] ["_law_word"] (defScope sLu):=⟨rfl,rfl,rfl,by decide +kernel,rfl,by decide +kernel,by decide +kernel⟩
theorem ok_lu {f:Addr}{fd':FuncData}(F:Fun K "_law_number" "_law_number" sLu f fd') (mLen:mg "len" = none) (mInt:mg "int" = none):FnOk P w K mg base CX0 1 f fd' ["_law_word"] spLu:=by
 refine F.ok scLu (fun vs H Q E h=>?_) (fun cdv A outer s H vs Q E hr h=>?_)
 . obtain⟨z,rfl,_⟩:=h
   rfl
 . obtain⟨z,rfl,hz,k⟩:=h
   have hu:=hu_of hr
   have hsl:100001<=sizeLine:=by decide
   refine⟨_,pss_cons (ps_as (u':=tLu z) (ps_if (PW.pt (pw_or (pt_not (pt_chain op_le op_le pe_int (pe_callB call_len_str (by rfl) mLen PySem.boot_len (pa_cons (pv 0) pa_nil)) pe_int)) (pw_or1 (pt_cmpR (op_neLE (Nat.lt_of_succ_lt hu)) (pe_comp (own:=["_law_sign"]) (cn:=[]) (ci:=[]) rfl (csc rfl rfl) trivial rfl (pi_str (pv 0)) (fun _ _ _ _=>pg_name (i:=0) (nd_of rfl) rfl (Or.inl rfl)) (fun _ _ _ _=>pts_one (pt_cmpR op_notin_str (pv 0) pe_str (by with_unfolding_all rfl)))
    (fun _ _ _ _=>pv 0)) (pe_lst pa_nil) (nomark _))))) (pss_one (ps_ret pe_non)) pss_nil) ?ld)
    (pss_one (ps_ret (pe_ifExp (PW.pt (pw_and (pt_cmpR op_eq (pe_ix ix_str (pv 0) pe_int (fun _ _=>rfl)) pe_str (nomark _)) (pw_and1 (pt_cmpR op_ne (pv 0) pe_str (nomark _))))) pe_non (pe_callTy call_intS (by rfl) mInt (by decide +kernel) (pa_cons (pv 0) pa_nil))))),?_⟩
   case ld=>
    intro D σ H1 ⟨hσ,r1,r2⟩
    have hzl:z.length=z.cps.toList.length:=Array.length_toList.symm
    refine⟨_,hσ,z,rfl,by omega,_,_,rfl,rfl,_,rfl,?_⟩
    by_cases c1:(1:Int)<=(z.length:Int)
    case neg=>
     refine ifF (decide_eq_false c1) ?_
     refine⟨_,rfl,ifT rfl (ifT rfl (r1 H1 (Same.refl _) fun x=>c1 ?_))⟩
     have:=List.length_pos_iff.mpr x.2.1
     omega
    refine ifT (decide_eq_true c1) ?_
    refine⟨_,_,rfl,rfl,_,rfl,?_⟩
    by_cases c2:(z.length:Int)<=12
    case neg=>
     refine ifT (by rw[decide_eq_false c2];rfl) (ifT rfl (r1 H1 (Same.refl _) fun x=>c2 (by omega)))
    refine ifF (by rw[decide_eq_true c2];rfl) ?_
    refine⟨_,hσ,z,rfl,[],rfl,fun E1 hE1=>?_⟩
    have hsz:z.cps.size=z.cps.toList.length:=Array.length_toList.symm
    refine comp_str (fun i ys H4=>i<=z.cps.size/\ys.length<=i/\(ys=[]↔∀c∈z.cps.toList.take i,48<=c/\c<=57)/\H4=upd H1 E1 (.lst ys)) ⟨Nat.zero_le _,Nat.le_refl _,⟨fun _ c hc=>by simp at hc,fun _=>rfl⟩,rfl⟩ (fun i ys H4 y=>?_) (fun i c ys H4 hc y=>?_) (fun ys H4 y=>?_)
    . have:=y.1
      have:=y.2.1
      have:z.length=z.cps.size:=rfl
      omega
    . obtain⟨_,hle,iff1,rfl⟩:=y
      have hi:i<z.cps.size:=(Array.getElem?_eq_some_iff.mp hc).1
      have hci:z.cps.toList[i]? = some c:=by rw[Array.getElem?_toList];exact hc
      have tk:z.cps.toList.take (i+1)=z.cps.toList.take i++[c]:=by rw[List.take_add_one,hci];rfl
      refine⟨⟨rfl,rfl⟩,?_⟩
      refine⟨_,rfl,_,_,rfl,rfl,_,rfl,?_⟩
      rw[fig_in c]
      by_cases cd:48<=c/\c<=57
      . refine ifF (by rw[decide_eq_true cd];rfl) ?_
        refine⟨hi,by omega,?_,rfl⟩
        rw[tk,iff1]
        constructor
        . intro h x hx
          rcases List.mem_append.mp hx with q | q
          . exact h x q
          . rw[List.mem_singleton.mp q];exact cd
        . exact fun h x hx=>h x (List.mem_append_left _ hx)
      . refine ifT (by rw[decide_eq_false cd];rfl) ?_
        refine⟨_,rfl,upd_same,hi,by rw[List.length_append,List.length_singleton];omega,?_,upd_upd⟩
        rw[tk]
        constructor
        . intro h
          simp at h
        . intro h
          exact absurd (h c (List.mem_append_right _ (by simp))) cd
    . obtain⟨_,_,iff1,rfl⟩:=y
      rw[List.take_of_length_le (by omega)] at iff1
      refine⟨Nat.zero_le _,fun e2 he2=>?_⟩
      have s2:=(same_laid (o:=.lst ys) hE1).trans (same_laid (o:=.lst []) he2)
      refine⟨E1,e2,ys,rfl,rfl,SqL.of (same_laid he2 _ _ upd_same),SqL.of upd_same,_,rfl,?_⟩
      cases ys with
      | nil=>
       refine ifF rfl ?_
       exact r2 _ s2 ⟨by omega,List.length_pos_iff.mp (by omega),iff1.mp rfl⟩
      | cons a as=>
       refine ifT rfl ?_
       exact r1 _ s2 fun x=>by have:=iff1.mpr x.2.2;cases this
   refine⟨rfl,fun H' s' n=>?_,fun H' s' ⟨l12,ne,dg⟩=>?_⟩
   . have e:numB z 0 BIG=none:=numB_no fun x=>n ⟨x.2,x.1.ne,x.1.all⟩
     have:=k H' s'
     rw[e] at this
     exact this
   . obtain⟨c,hc,hat⟩:=at_head ne
     refine⟨_,rfl,z,0,c,rfl,rfl,by omega,hat,rfl,_,rfl,?_⟩
     have kk:=k H' s'
     by_cases h0:c=48
     . subst h0
       refine ifT (decide_eq_true rfl) ?_
       refine⟨_,rfl,rfl,_,rfl,?_⟩
       by_cases h3:z.cps.toList=[48]
       . have ez:z=Str.ofString "0" := str_ext (h3.trans rfl)
         refine ifF (by rw[decide_eq_true (show V.str z=V.str (Str.ofString "0") by rw[ez])];rfl) ?_
         have d:Dg z:=⟨dg,ne,fun _=>h3⟩
         rw[numB_yes d l12] at kk
         exact⟨_,rfl,z,_,rfl,d.reads (by omega),by omega,kk⟩
       . refine ifT (by rw[decide_eq_false (show V.str z≠V.str (Str.ofString "0") from fun x=>h3 (by injection x with x;rw[x];rfl))];rfl) ?_
         rw[numB_no fun x=>h3 (x.1.lead hc)] at kk
         exact kk
     . refine ifF (decide_eq_false (fun x=>h0 (by injection x with x;have y:=congrArg (fun z:Str=>z.cps.toList) x;exact (List.cons.inj (show [c]=[48] from y)).1))) ?_
       refine ifF rfl ?_
       have d:Dg z:=⟨dg,ne,fun x=>absurd (by rw[hc] at x;injection x) h0⟩
       rw[numB_yes d l12] at kk
       exact⟨_,rfl,z,_,rfl,d.reads (by omega),by omega,kk⟩
end
end K70
namespace K70
open PySem L2 WM
open DG
theorem eqV_int (a b:Int):eqV (.int a) (.int b)=(a==b):=rfl
theorem inV_ints {z:Int}:∀{l:List Int},inV (.int z) (l.map V.int)=decide (z∈l)
 | []=>rfl
 | x::r=>by
  show (eqV (.int x) (.int z) || inV (.int z) (r.map V.int))=_
  rw[inV_ints (l:=r),eqV_int]
  by_cases h:x=z
  . subst h;simp
  . have h':(x==z)=false:=by simpa using h
    rw[h',Bool.false_or]
    simp[Ne.symm h]
theorem flat_ints:∀l:List Int,(l.map V.int).all flatV=true
 | []=>rfl
 | _::l=>by rw[List.map_cons,List.all_cons,flat_ints l];rfl
theorem comp_col {K:PySem.W.Frag}{H:Hp}{l:Addr}{xs:List V}{es:List E4}{j:Nat}{fc:E4->Int}{D:Addr}{Q:VK}(hl:H l=some (.lst xs))(ea:EsAt H xs es)(hle:es.length<=200000)(hf:∀e,(e4V e)[j]? = some (.int (fc e)))(hD:H D=none)
 (q:Q (.ref D) (upd H D (.lst ((es.map fc).map V.int)))):CompRd (Itl K l) 1 [] (gName 0) tYes (tOp (rIxT K) (tVar 0) (tC (.int (j:Int)))) D H Q:=by
 have hsl:200001<=sizeLine:=by decide
 have hel:=ea.1
 have sD:∀o,Same H (upd H D o):=fun o=>same_laid hD
 refine comp_list (a:=l) (xs:=xs) (fun i ys H4=>i<=xs.length/\ys=((es.take i).map fc).map V.int/\H4=upd H D (.lst ys)) ⟨Nat.zero_le _,rfl,rfl⟩ (fun i ys H4 y=>?_) (fun i ys H4 y=>?_) (fun i x ys H4 hx y=>?_) (fun ys H4 y=>?_)
 . rw[y.2.2]
   exact SqL.of (sD _ _ _ hl)
 . rw[y.2.1,List.length_map,List.length_map,List.length_take]
   omega
 . obtain⟨_,rfl,rfl⟩:=y
   obtain⟨e,p,he,rfl,hp⟩:=ea.get hx
   refine⟨⟨rfl,rfl⟩,?_⟩
   refine tyes ?_
   refine⟨_,rfl,p,_,_,_,rfl,rfl,SqT.of (sD _ _ _ hp),atI_nat (hf e),upd_same,(List.getElem?_eq_some_iff.mp hx).1,?_,upd_upd⟩
   rw[List.take_add_one,he,List.map_append,List.map_append]
   rfl
 . obtain⟨_,rfl,rfl⟩:=y
   rw[hel,List.take_of_length_le (Nat.le_refl _)]
   exact q
theorem numB_lim {z:Str}{lo hi:Int}(h0:0<=lo)(h1:hi<=BIG):numB z lo hi=(numB z 0 BIG).bind fun k=>if lo<=k/\k<=hi then some k else none:=by
 unfold numB
 by_cases c:Dg z/\(0:Int)<=(dv z:Int)/\(dv z:Int)<=BIG
 . rw[if_pos c]
   show _=if lo<=(dv z:Int)/\(dv z:Int)<=hi then some (dv z:Int) else none
   by_cases d:lo<=(dv z:Int)/\(dv z:Int)<=hi
   . rw[if_pos ⟨c.1,d⟩,if_pos d]
   . rw[if_neg fun x=>d x.2,if_neg d]
 . rw[if_neg c,if_neg fun x=>c ⟨x.1,by omega,by omega⟩]
   rfl
theorem numB_nn {z:Str}{k:Int}(h:numB z 0 BIG=some k):0<=k/\k<=BIG:=by
 unfold numB at h
 split at h
 . rename_i c
   cases h
   exact c.2
 . cases h
theorem UpE.at {es:List E4}(h:UpE es){a M:Int}(ha:0<=a)(hM:M∈(0:Int)::es.map (·.1))(hmax:∀x∈(0:Int)::es.map (·.1),x<=M):lowH es<=a↔(a∉es.map (·.1)/\¬ a<M):=by
 unfold lowH
 rcases List.eq_nil_or_concat es with rfl | ⟨es',z,rfl⟩
 . have:M=0:=by simpa using hM
   constructor
   . intro _
     exact⟨by simp,by omega⟩
   . intro _
     exact ha
 . rw[List.concat_eq_append] at h hM hmax ⊢
   have hz:(es'++[z]).getLast? = some z:=by simp
   rw[hz]
   show z.1+1<=a↔_
   have up:∀x∈es'++[z],x.1<=z.1:=fun x hx=>by
    rcases List.mem_append.mp hx with q | q
    . have:=(List.pairwise_append.mp h.1).2.2 x q z (by simp)
      omega
    . rw[List.mem_singleton.mp q];omega
   have z0:=h.2 z (by simp)
   have m1:=hmax z.1 (List.mem_cons_of_mem _ (List.mem_map.mpr ⟨z,by simp,rfl⟩))
   have m2:M<=z.1:=by
    rcases List.mem_cons.mp hM with q | q
    . omega
    . obtain⟨x,hx,e⟩:=List.mem_map.mp q
      have:=up x hx
      omega
   constructor
   . intro hle
     refine⟨fun hm=>?_,by omega⟩
     obtain⟨x,hx,e⟩:=List.mem_map.mp hm
     have:=up x hx
     omega
   . rintro ⟨n1,n2⟩
     have:a≠z.1:=fun e=>n1 (by rw[e];exact List.mem_map.mpr ⟨z,by simp,rfl⟩)
     omega
theorem max_ex:∀l:List Int,∃M∈(0:Int)::l,∀x∈(0:Int)::l,x<=M
 | []=>⟨0,by simp,by simp⟩
 | a::l=>by
  obtain⟨M,hM,h⟩:=max_ex l
  by_cases c:a<=M
  . refine⟨M,?_,fun x hx=>?_⟩
    . rcases List.mem_cons.mp hM with q | q
      . rw[q];simp
      . simp[q]
    . rcases List.mem_cons.mp hx with q | q
      . exact h x (by rw[q];simp)
      . rcases List.mem_cons.mp q with q | q
        . rw[q];exact c
        . exact h x (by simp[q])
  . refine⟨a,by simp,fun x hx=>?_⟩
    have h0:=h 0 (by simp)
    rcases List.mem_cons.mp hx with q | q
    . rw[q];omega
    . rcases List.mem_cons.mp q with q | q
      . rw[q];exact Int.le_refl _
      . have:=h x (by simp[q]);omega
theorem own_mem {es:List E4}:own es=decide ((0:Int)∈es.map (·.2.1)):=by
 unfold own
 rw[Bool.eq_iff_iff,List.any_eq_true,decide_eq_true_eq,List.mem_map]
 constructor
 . rintro ⟨e,he,h⟩
   exact⟨e,he,of_decide_eq_true h⟩
 . rintro ⟨e,he,h⟩
   exact⟨e,he,decide_eq_true h⟩
noncomputable def spEn:Sp:=fun vs H Q _=>∃(l:Addr)(n:Int)(es:List E4)(w:Str),vs=[.str w,.ref l,.int n]/\EL H l es/\es.length<=100000/\UpE es/\1<=n/\n<=1000000/\w.length<=100000/\OutE H Q (rdE n es w)
section
variable {P:Program}{w:World}{K:PySem.W.Frag}{mg:Str->Option Value}{base:Heap}
theorem scEn:FnScope ["_law_word", "_law_entries", "_law_many", "_law_parts", "_law_hub", "_law_long", "_law_up", "_law_down"] ["_law_word", "_law_entries", "_law_many"] (defScope sEn):=⟨rfl,rfl,rfl,by decide +kernel,rfl,by decide +kernel,by decide +kernel⟩
theorem ok_en {f fL:Addr}{fd' fdL:FuncData}(F:Fun K "_law_entry" "_law_entry" sEn f fd') (FL:Fun K "_law_number" "_law_number" sLu fL fdL) (bL:Binds K fdL ["_law_word"] []) (mL:mg "_law_number" = some (.ref fL)) (mLen:mg "len" = none) (mInt:mg "int" = none) (mMax:mg "max" = none):FnOk P w K mg base CX0 2 f fd' ["_law_word", "_law_entries", "_law_many"] spEn:=by
 have GL:FnOk P w K mg base CX0 1 fL fdL ["_law_word"] spLu:=ok_lu FL mLen mInt
 refine F.ok scEn (fun vs H Q E h=>?_) (fun cdv A outer s H vs Q E hr h=>?_)
 . obtain⟨l,n,es,w,rfl,_⟩:=h
   rfl
 . obtain⟨l,n,es,w,rfl,⟨xs,hl,ea⟩,hle,up,n1,n2,hw,k⟩:=h
   have hu0:=hr.units0
   have h4:4<=sizeLine:=by decide
   have hsl:200001<=sizeLine:=by decide
   refine⟨_,pss_cons (ps_set (i:=3) scEn.nd rfl (Or.inl rfl) (pe_bm PySem.F.plainAttrs_str PySem.F.slot_str_split PySem.F.type_str_split mt_split (pv 0) (pa_cons pe_str pa_nil)))
    (pss_cons (ps_if (pt_cmpR op_ne (pe_callB call_len_seq (by rfl) mLen PySem.boot_len (pa_cons (pv 3) pa_nil)) pe_int (nomark _)) (pss_one (ps_ret pe_non)) pss_nil)
    (pss_cons (ps_asg (pe_comp (own:=["_law_part"]) (cn:=[]) (ci:=[]) rfl (csc rfl rfl) trivial rfl (pi_list (pv 3)) (fun _ _ _ _=>pg_name (i:=0) (nd_of rfl) rfl (Or.inl rfl)) (fun _ _ _ _=>pts_nil)
     (fun _ _ _ _=>pe_call GL hr rfl mL FL.kp bL .nil pass0 (pa_cons (pv 0) pa_nil))) (pg_lst rfl (pgs_cons (pg_name (i:=4) scEn.nd rfl (Or.inl rfl)) (pgs_cons (pg_name (i:=5) scEn.nd rfl (Or.inl rfl)) (pgs_cons (pg_name (i:=6) scEn.nd rfl (Or.inl rfl)) (pgs_cons (pg_name (i:=7) scEn.nd rfl (Or.inl rfl)) pgs_nil))))))
    (pss_cons (ps_if (PW.pt (pw_or (pt_cmpR op_isN (pv 4) pe_non (nomark _)) (pw_or (pt_cmpR op_isN (pv 5) pe_non (nomark _)) (pw_or (pt_cmpR op_ge (pv 4) (pv 2) (nomark _)) (pw_or1 (pt_cmpR op_in_seq (pv 4) (pe_comp (own:=["_law_entry_here"]) (cn:=[]) (ci:=[]) rfl (csc rfl rfl) trivial rfl (pi_list (pv 1)) (fun _ _ _ _=>pg_name (i:=0) (nd_of rfl) rfl (Or.inl rfl)) (fun _ _ _ _=>pts_nil)
     (fun _ _ _ _=>pe_ix ix_tupC (pv 0) pe_int (fun _ _=>rfl))) (by with_unfolding_all rfl))))))) (pss_one (ps_ret pe_non)) pss_nil)
    (pss_cons (ps_if (pt_cmpR op_lt (pv 4) (pe_callB (call_maxL rfl) (by rfl) mMax (by decide +kernel) (pa_cons (pe_op op_cat (pe_lst (pa_int pa_nil)) (pe_comp (own:=["_law_entry_here"]) (cn:=[]) (ci:=[]) rfl (csc rfl rfl) trivial rfl (pi_list (pv 1)) (fun _ _ _ _=>pg_name (i:=0) (nd_of rfl) rfl (Or.inl rfl)) (fun _ _ _ _=>pts_nil)
     (fun _ _ _ _=>pe_ix ix_tupC (pv 0) pe_int (fun _ _=>rfl)))) pa_nil)) (nomark _)) (pss_one (ps_ret pe_non)) pss_nil)
    (pss_cons (ps_if (pt_cmpR op_eq (pv 5) pe_int (nomark _)) (pss_one (ps_ret (pe_ifExp (PW.pt (pw_and (pt_cmpR (op_eqLS hu0) (pe_slice sl_list (pv 3) (po_some pe_int) po_none) (pe_lst (pa_cons pe_str (pa_cons pe_str pa_nil))) (nomark _)) (pw_and1 (pt_cmpR op_notIn_seq pe_int (pe_comp (own:=["_law_one"]) (cn:=[]) (ci:=[]) rfl (csc rfl rfl) trivial rfl (pi_list (pv 1)) (fun _ _ _ _=>pg_name (i:=0) (nd_of rfl) rfl (Or.inl rfl)) (fun _ _ _ _=>pts_nil)
     (fun _ _ _ _=>pe_ix ix_tupC (pv 0) pe_int (fun _ _=>rfl))) (by with_unfolding_all rfl))))) (pe_tup (pa_cons (pv 4) (pa_int (pa_cons pe_non (pa_cons pe_non pa_nil))))) pe_non))) pss_nil)
    (pss_cons (ps_if (PW.pt (pw_or (pt_cmpR op_isN (pv 6) pe_non (nomark _)) (pw_or (pt_cmpR op_isN (pv 7) pe_non (nomark _)) (pw_or (pt_cmpR op_ge (pv 6) (pv 2) (nomark _)) (pw_or1 (pt_cmpR op_ge (pv 7) (pv 2) (nomark _))))))) (pss_one (ps_ret pe_non)) pss_nil)
    (pss_one (ps_ret (pe_tup (pa_cons (pv 4) (pa_cons (pv 5) (pa_cons (pv 6) (pa_cons (pv 7) pa_nil))))))))))))),?_⟩
   refine⟨_,rfl,rfl,w,_,rfl,rfl,rfl,by omega,fun lp hlp=>?_⟩
   have s1:=same_laid (o:=.lst ((cls w).map V.str)) hlp
   have hp1:(upd H lp (.lst ((cls w).map V.str))) lp=some (.lst ((cls w).map V.str)):=upd_same
   generalize upd H lp (.lst ((cls w).map V.str))=H1 at s1 hp1 ⊢
   refine⟨_,rfl,lp,_,rfl,.inl (SqL.of hp1),rfl,_,rfl,?_⟩
   rw[List.length_map,bl_int]
   by_cases c4:(cls w).length=4
   case neg=>
    refine ifT (by rw[decide_eq_false (by omega)];rfl) ?_
    exact k.2 (rdE_n c4) _ s1
   refine ifF (by rw[decide_eq_true (by omega)];rfl) ?_
   obtain⟨p0,p1,p2,p3,ec⟩:=cls_4 c4
   have hm:∀y∈cls w,y.length<=100000:=fun y hy=>Nat.le_trans (cls_le hy) hw
   rw[rdE_4 ec] at k
   rw[ec] at hp1 hm
   refine⟨_,rfl,lp,rfl,⟨_,SqL.of hp1⟩,[],rfl,fun D hD=>?_⟩
   refine comp_list (a:=lp) (xs:=[p0,p1,p2,p3].map V.str) (fun i ys H4=>i<=4/\ys=(([p0,p1,p2,p3].take i).map fun z=>oI (numB z 0 BIG))/\Same H1 H4/\H4 D=some (.lst ys)) ⟨Nat.zero_le _,rfl,same_laid hD,upd_same⟩ (fun i ys H4 y=>SqL.of (y.2.2.1 _ _ hp1)) (fun i ys H4 y=>?_) (fun i x ys H4 hx y=>?_) (fun ys H4 y=>?_)
   . rw[y.2.1,List.length_map,List.length_take]
     show min i 4<_
     omega
   . obtain⟨_,rfl,s4,hD4⟩:=y
     have hi:i<4:=(List.getElem?_eq_some_iff.mp hx).1
     rw[List.getElem?_map] at hx
     cases hz:[p0,p1,p2,p3][i]? with
     | none=>rw[hz] at hx;cases hx
     | some z=>
     rw[hz] at hx
     cases hx
     refine⟨⟨rfl,rfl⟩,?_⟩
     refine tyes ?_
     refine⟨_,rfl,z,rfl,hm z (List.mem_of_getElem? hz),fun H5 s5=>?_⟩
     refine⟨s5 _ _ hD4,by omega,?_,same_chg (s4.trans s5) hD,upd_same⟩
     rw[List.take_add_one,hz,List.map_append]
     rfl
   obtain⟨_,rfl,s4,hD4⟩:=y
   have s04:=s1.trans s4
   have hD4:_=some (HO.lst [oI (numB p0 0 BIG),oI (numB p1 0 BIG),oI (numB p2 0 BIG),oI (numB p3 0 BIG)]):=hD4
   refine⟨D,[oI (numB p0 0 BIG),oI (numB p1 0 BIG),oI (numB p2 0 BIG),oI (numB p3 0 BIG)],rfl,SqL.of hD4,rfl,_,_,rfl,_,_,rfl,_,_,rfl,_,_,rfl,rfl,?_⟩
   have hl4:=s04 _ _ hl
   have ea4:=ea.keep s04
   have hp4:=s4 _ _ hp1
   have lo:=up.low
   rw[numB_lim lo (by show n-1<=999999999999;omega)] at k
   refine⟨_,rfl,rfl,_,rfl,?_⟩
   cases e0:numB p0 0 BIG with
   | none=>
    rw[e0] at k
    exact ifT rfl (ifT rfl (k.2 rfl _ s04))
   | some a=>
   have a0:=numB_nn e0
   refine ifF rfl ?_
   refine⟨_,rfl,rfl,_,rfl,?_⟩
   cases e1:numB p1 0 BIG with
   | none=>
    have k2:∀H',Same H H'->Q .non H':=k.2 (by rw[e0,e1];show Option.bind (if lowH es<=a/\a<=n-1 then some a else none) _=none;split <;> rfl)
    exact ifT rfl (ifT rfl (k2 _ s04))
   | some g=>
   refine ifF rfl ?_
   rw[e0,e1] at k
   have k:OutE H Q ((if lowH es<=a/\a<=n-1 then some a else none).bind fun h=>if g=0 then ownE es h p2 p3 else farE n h g p2 p3):=k
   refine⟨_,rfl,_,rfl,_,_,rfl,rfl,_,rfl,?_⟩
   by_cases cn:n<=a
   . refine ifT (decide_eq_true cn) (ifT rfl ?_)
     rw[if_neg (by omega)] at k
     exact k.2 rfl _ s04
   refine ifF (decide_eq_false cn) ?_
   refine⟨_,rfl,_,rfl,l,rfl,⟨_,SqL.of hl4⟩,[],rfl,fun D2 hD2=>?_⟩
   refine comp_col (j:=0) (fc:=fun e=>e.1) hl4 ea4 (by omega) e4V_0 hD2 ?_
   have s5:=s04.trans (same_laid (o:=.lst ((es.map fun e=>e.1).map V.int)) hD2)
   refine⟨D2,_,rfl,.inl (SqL.of upd_same),rfl,flat_ints _,_,rfl,?_⟩
   have hl5:=s5 _ _ hl
   have ea5:=ea.keep s5
   have hp5:=same_laid (o:=.lst ((es.map fun e=>e.1).map V.int)) hD2 _ _ hp4
   generalize upd _ D2 (.lst ((es.map fun e=>e.1).map V.int))=H5 at s5 hl5 ea5 hp5 ⊢
   have eI:inV (oI (some a)) ((es.map fun e=>e.1).map V.int)=decide (a∈es.map fun e=>e.1):=inV_ints
   by_cases cm:a∈es.map fun e=>e.1
   . refine ifT (by rw[if_neg (by decide),eI];exact decide_eq_true cm) ?_
     have:¬ lowH es<=a:=fun hle'=>by
      obtain⟨M,hM,hmax⟩:=max_ex (es.map fun e=>e.1)
      exact ((up.at a0.1 hM hmax).mp hle').1 cm
     rw[if_neg fun x=>this x.1] at k
     exact k.2 rfl _ s5
   refine ifF (by rw[if_neg (by decide),eI];exact decide_eq_false cm) ?_
   refine⟨_,rfl,by show 1<=sizeLine;omega,fun z0 hz0=>?_⟩
   have s6:=s5.trans (same_laid (o:=.lst [.int 0]) hz0)
   have hz6:(upd H5 z0 (.lst [.int 0])) z0=some (.lst [.int 0]):=upd_same
   have hp6:=same_laid (o:=.lst [.int 0]) hz0 _ _ hp5
   have hl6:=s6 _ _ hl
   have ea6:=ea.keep s6
   generalize upd H5 z0 (.lst [.int 0])=H6 at s6 hz6 hp6 hl6 ea6 ⊢
   refine⟨_,rfl,l,rfl,⟨_,SqL.of hl6⟩,[],rfl,fun D3 hD3=>?_⟩
   refine comp_col (j:=0) (fc:=fun e=>e.1) hl6 ea6 (by omega) e4V_0 hD3 ?_
   have s7:=same_laid (o:=.lst ((es.map fun e=>e.1).map V.int)) hD3
   refine⟨z0,D3,_,_,rfl,rfl,s7 _ _ hz6,upd_same,by rw[List.length_map,List.length_map];show 1+es.length<=_;omega,fun q0 hq0=>?_⟩
   have s8:=s7.trans (same_laid (o:=.lst ([.int 0]++(es.map fun e=>e.1).map V.int)) hq0)
   have s08:=s6.trans s8
   refine⟨q0,(0:Int)::es.map (fun e=>e.1),rfl,SqL.of upd_same,by simp,fun M hM hmax=>?_⟩
   have key:=up.at a0.1 hM hmax
   have hp8:=s8 _ _ hp6
   have hl8:=s08 _ _ hl
   have ea8:=ea.keep s08
   generalize upd _ q0 (.lst ([.int 0]++(es.map fun e=>e.1).map V.int))=H8 at s08 hp8 hl8 ea8 ⊢
   refine⟨_,_,rfl,rfl,_,rfl,?_⟩
   by_cases cM:a<M
   . refine ifT (decide_eq_true cM) ?_
     rw[if_neg fun x=>(key.mp x.1).2 cM] at k
     exact k.2 rfl _ s08
   refine ifF (decide_eq_false cM) ?_
   rw[if_pos ⟨key.mpr ⟨cm,cM⟩,by omega⟩] at k
   have k:OutE H Q (if g=0 then ownE es a p2 p3 else farE n a g p2 p3):=k
   refine⟨_,rfl,rfl,_,rfl,?_⟩
   by_cases cg:g=0
   . refine ifT (decide_eq_true (by rw[cg];rfl)) ?_
     rw[if_pos cg] at k
     unfold ownE at k
     refine⟨_,rfl,2,rfl,lp,_,rfl,SqL.of hp8,fun r0 hr0=>?_⟩
     rw[show (some 2:Option Int)=some ((2:Nat):Int) from rfl,cutV_drop,show List.drop 2 ([p0,p1,p2,p3].map V.str)=[p2,p3].map V.str from rfl]
     have s9:=same_laid (o:=.lst ([p2,p3].map V.str)) hr0
     refine⟨by show 2<=sizeLine;omega,fun r1 hr1=>?_⟩
     have s10:=same_laid (o:=.lst [.str dash,.str dash]) hr1
     have s810:=s9.trans s10
     refine⟨r0,r1,[p2,p3],[dash,dash],rfl,rfl,SqL.of (s10 _ _ upd_same),SqL.of upd_same,_,rfl,?_⟩
     by_cases cd:[p2,p3]=[dash,dash]
     . refine ifT (decide_eq_true cd) ?_
       obtain⟨d2,d3⟩:p2=dash/\p3=dash:=by simpa using cd
       have hl10:=s810 _ _ hl8
       have ea10:=ea8.keep s810
       have s010:=s08.trans s810
       generalize upd _ r1 (.lst [.str dash,.str dash])=H10 at s010 hl10 ea10 ⊢
       refine⟨_,rfl,l,rfl,⟨_,SqL.of hl10⟩,[],rfl,fun D4 hD4'=>?_⟩
       refine comp_col (j:=1) (fc:=fun e=>e.2.1) hl10 ea10 (by omega) e4V_1 hD4' ?_
       have s11:=s010.trans (same_laid (o:=.lst ((es.map fun e=>e.2.1).map V.int)) hD4')
       refine⟨D4,_,rfl,.inl (SqL.of upd_same),rfl,flat_ints _,_,rfl,?_⟩
       rw[show (if true=true then !inV (V.int 0) ((es.map fun e=>e.2.1).map V.int) else inV (V.int 0) ((es.map fun e=>e.2.1).map V.int)) = !own es by rw[if_pos rfl,inV_ints,own_mem]]
       cases co:own es with
       | true=>
        refine ifF rfl ?_
        rw[if_pos (.inl co)] at k
        exact k.2 rfl _ s11
       | false=>
        refine ifT rfl ?_
        rw[if_neg (fun z=>z.elim (fun z=>by rw[co] at z;cases z) fun z=>z.elim (fun z=>z d2) fun z=>z d3)] at k
        exact⟨_,rfl,h4,fun p hp=>k.1 _ rfl p _ (s11.trans (same_laid hp)) upd_same⟩
     . refine ifF (decide_eq_false cd) ?_
       rw[if_pos (by
        by_cases d2:p2=dash
        . exact .inr (.inr fun d3=>cd (by rw[d2,d3]))
        . exact .inr (.inl d2))] at k
       exact ifF rfl (k.2 rfl _ (s08.trans s810))
   . refine ifF (decide_eq_false (fun z=>cg (V.int.inj z))) ?_
     rw[if_neg cg] at k
     unfold farE at k
     rw[numB_lim (z:=p2) (by decide) (by show n-1<=999999999999;omega),numB_lim (z:=p3) (by decide) (by show n-1<=999999999999;omega)] at k
     refine⟨_,rfl,rfl,_,rfl,?_⟩
     cases e2:numB p2 0 BIG with
     | none=>
      rw[e2] at k
      exact ifT rfl (ifT rfl (k.2 rfl _ s08))
     | some u=>
     have u0:=numB_nn e2
     refine ifF rfl ?_
     refine⟨_,rfl,rfl,_,rfl,?_⟩
     cases e3:numB p3 0 BIG with
     | none=>
      have k2:∀H',Same H H'->Q .non H':=k.2 (by rw[e2,e3];show Option.bind (if 0<=u/\u<=n-1 then some u else none) _=none;split <;> rfl)
      exact ifT rfl (ifT rfl (k2 _ s08))
     | some d=>
     have d0:=numB_nn e3
     rw[e2,e3] at k
     have k:OutE H Q ((if 0<=u/\u<=n-1 then some u else none).bind fun u=>(if 0<=d/\d<=n-1 then some d else none).bind fun d=>some (a,g,some (u,d))):=k
     refine ifF rfl ?_
     refine⟨_,rfl,_,rfl,_,_,rfl,rfl,_,rfl,?_⟩
     by_cases cu:n<=u
     . refine ifT (decide_eq_true cu) (ifT rfl ?_)
       rw[if_neg (by omega)] at k
       exact k.2 rfl _ s08
     refine ifF (decide_eq_false cu) ?_
     rw[if_pos ⟨u0.1,by omega⟩] at k
     have k:OutE H Q ((if 0<=d/\d<=n-1 then some d else none).bind fun d=>some (a,g,some (u,d))):=k
     refine⟨_,rfl,_,rfl,_,_,rfl,rfl,_,rfl,?_⟩
     by_cases cd:n<=d
     . refine ifT (decide_eq_true cd) ?_
       rw[if_neg (by omega)] at k
       exact k.2 rfl _ s08
     refine ifF (decide_eq_false cd) ?_
     rw[if_pos ⟨d0.1,by omega⟩] at k
     exact⟨_,rfl,_,rfl,_,rfl,_,rfl,h4,fun p hp=>k.1 _ rfl p _ (s08.trans (same_laid hp)) upd_same⟩
end
end K70
namespace K70
open PySem L2 WM
open DG
noncomputable abbrev non:Str:=Str.ofString "none"
noncomputable def spRe:Sp:=fun vs H Q _=>∃(l:Addr)(zs:List Str),vs=[.ref l]/\Ls H l zs/\zs.length<=100000/\(∀ls,rdAll zs = .ok ls->∀a H',Same H H'->LabT H' a ls->Q (.ref a) H')/\(∀i k:Nat,rdAll zs = .error (i,k)->∀p H',Same H H'->H' p=some (.tup [.str non,.int i,.int k])->Q (.ref p) H')
section
variable {P:Program}{w:World}{K:PySem.W.Frag}{mg:Str->Option Value}{base:Heap}
theorem scRe:FnScope ["_law_lines_here", "_law_found", "_law_k", "_law_words", "_law_entries", "_law_at", "_law_entry_here"] ["_law_lines_here"] (defScope sRe):=⟨rfl,rfl,rfl,by decide +kernel,rfl,by decide +kernel,by decide +kernel⟩
theorem ok_re {f fE fL:Addr}{fd' fdE fdL:FuncData}(F:Fun K "_law_read" "_law_read" sRe f fd') (FE:Fun K "_law_entry" "_law_entry" sEn fE fdE) (bE:Binds K fdE ["_law_word", "_law_entries", "_law_many"] []) (mE:mg "_law_entry" = some (.ref fE)) (FL:Fun K "_law_number" "_law_number" sLu fL fdL) (bL:Binds K fdL ["_law_word"] []) (mL:mg "_law_number" = some (.ref fL)) (mLen:mg "len" = none) (mInt:mg "int" = none) (mMax:mg "max" = none) (mRange:mg "range" = none) (mTuple:mg "tuple" = none):FnOk P w K mg base CX0 3 f fd' ["_law_lines_here"] spRe:=by
 have GE:FnOk P w K mg base CX0 2 fE fdE ["_law_word", "_law_entries", "_law_many"] spEn:=ok_en FE FL bL mL mLen mInt mMax
 refine F.ok scRe (fun vs H Q E h=>?_) (fun cdv A outer s H vs Q E hr h=>?_)
 . obtain⟨l,zs,rfl,_⟩:=h
   rfl
 . obtain⟨l,zs,rfl,L,hzl,kY,kN⟩:=h
   have hu:=hu_of hr
   have h3:3<=sizeLine:=by decide
   have hsl:200000<=sizeLine:=by decide
   refine⟨_,pss_cons (ps_if (pt_cmpR (op_eqLE (Nat.lt_of_succ_lt hu)) (pv 0) (pe_lst pa_nil) (nomark _)) (pss_one (ps_ret (pe_tup (pa_cons pe_str (pa_int (pa_int pa_nil)))))) pss_nil)
    (pss_cons (ps_set (i:=1) scRe.nd rfl (Or.inl rfl) (pe_lst pa_nil))
    (pss_cons (ps_for PassesOwn.never rfl (pi_range1 rfl mRange (pa_cons (pe_callB call_len_seq (by rfl) mLen PySem.boot_len (pa_cons (pv 0) pa_nil)) pa_nil)) (pg_name (i:=2) scRe.nd rfl (Or.inl rfl))
     (pss_cons (ps_set (i:=3) scRe.nd rfl (Or.inl rfl) (pe_bm PySem.F.plainAttrs_str PySem.F.slot_str_split PySem.F.type_str_split mt_split (pe_ix ix_list (pv 0) (pv 2) (fun _ _=>rfl)) (pa_cons pe_str pa_nil)))
     (pss_cons (ps_if (PW.pt (pw_or (pt_cmpR op_eq (pv 2) pe_int (nomark _)) (pw_or1 (pt_cmpR op_ne (pe_ix ix_list (pv 3) pe_int (fun _ _=>rfl)) pe_str (nomark _))))) (pss_one (ps_ret (pe_tup (pa_cons pe_str (pa_cons (pv 2) (pa_int pa_nil)))))) pss_nil)
     (pss_cons (ps_set (i:=4) scRe.nd rfl (Or.inl rfl) (pe_lst pa_nil))
     (pss_cons (ps_for PassesOwn.never rfl (pi_range2 rfl mRange (pa_int (pa_cons (pe_callB call_len_seq (by rfl) mLen PySem.boot_len (pa_cons (pv 3) pa_nil)) pa_nil))) (pg_name (i:=5) scRe.nd rfl (Or.inl rfl))
      (pss_cons (ps_set (i:=6) scRe.nd rfl (Or.inl rfl) (pe_call GE hr rfl mE FE.kp bE .nil pass0 (pa_cons (pe_ix ix_list (pv 3) (pv 5) (fun _ _=>rfl)) (pa_cons (pv 4) (pa_cons (pe_callB call_len_seq (by rfl) mLen PySem.boot_len (pa_cons (pv 0) pa_nil)) pa_nil)))))
      (pss_cons (ps_if (pt_cmpR op_isN (pv 6) pe_non (nomark _)) (pss_one (ps_ret (pe_tup (pa_cons pe_str (pa_cons (pv 2) (pa_cons (pv 5) pa_nil)))))) pss_nil)
      (pss_one (ps_expr (pe_bm PySem.F.plainAttrs_list PySem.F.slot_list_append PySem.F.type_list_append mt_append (pv 4) (pa_cons (pv 6) pa_nil)))))))
     (pss_cons (ps_if (pt_cmpR op_notIn_seq pe_int (pe_comp (own:=["_law_entry_here"]) (cn:=[]) (ci:=[]) rfl (csc rfl rfl) trivial rfl (pi_list (pv 4)) (fun _ _ _ _=>pg_name (i:=0) (nd_of rfl) rfl (Or.inl rfl)) (fun _ _ _ _=>pts_nil)
      (fun _ _ _ _=>pe_ix ix_tupC (pv 0) pe_int (fun _ _=>rfl))) (by with_unfolding_all rfl)) (pss_one (ps_ret (pe_tup (pa_cons pe_str (pa_cons (pv 2) (pa_cons (pe_callB call_len_seq (by rfl) mLen PySem.boot_len (pa_cons (pv 3) pa_nil)) pa_nil)))))) pss_nil)
     (pss_one (ps_expr (pe_bm PySem.F.plainAttrs_list PySem.F.slot_list_append PySem.F.type_list_append mt_append (pv 1) (pa_cons (pe_callTy call_tuple_of (by rfl) mTuple (by decide +kernel) (pa_cons (pv 4) pa_nil)) pa_nil))))))))))
    (pss_one (ps_ret (pe_callTy call_tuple_of (by rfl) mTuple (by decide +kernel) (pa_cons (pv 1) pa_nil)))))),?_⟩
   refine⟨_,rfl,Nat.zero_le _,fun e0 he0=>?_⟩
   have s0:=same_laid (o:=.lst []) he0
   refine⟨l,e0,_,rfl,rfl,SqL.of (s0 _ _ L.1),SqL.of upd_same,_,rfl,?_⟩
   unfold rdAll at kY kN
   by_cases c0:zs.length=0
   . have ez:zs=[]:=List.length_eq_zero_iff.mp c0
     subst ez
     refine ifT rfl ?_
     exact⟨h3,fun p hp=>kN 0 0 rfl p _ (s0.trans (same_laid hp)) upd_same⟩
   rw[if_neg c0] at kY kN
   refine ifF (by cases zs with | nil=>exact absurd rfl c0 | cons a as=>rfl) ?_
   refine⟨Nat.zero_le _,fun R hR=>?_⟩
   have s1:=s0.trans (same_laid (o:=.lst []) hR)
   have nR:H R=none:=none_back s0 hR
   have hR1:(upd (upd H e0 (.lst [])) R (.lst [])) R=some (.lst []):=upd_same
   generalize upd (upd H e0 (.lst [])) R (.lst [])=H1 at s1 hR1 ⊢
   refine⟨_,rfl,l,_,rfl,.inl (SqL.of (s1 _ _ L.1)),?_⟩
   rw[List.length_map]
   refine⟨(zs.length:Int),rfl,by omega,by omega,?_⟩
   rw[Int.toNat_natCast]
   refine for_range (lo:=0) (n:=zs.length) (fun i σ H4=>i<=24/\i<=zs.length/\∃(v2 v3 v4 v5 v6:Option V)(ys:List V)(ls:List (List E4)),σ=[some (.ref l),some (.ref R),v2,v3,v4,v5,v6]/\Same H H4/\H4 R=some (.lst ys)/\LT H4 ys ls/\ys.length=i/\rdLs zs.length [] 0 zs=rdLs zs.length ls i (zs.drop i))
    ⟨Nat.zero_le _,Nat.zero_le _,_,_,_,_,_,[],[],rfl,s1,hR1,LT.nil,rfl,rfl⟩ (fun i σ H4 hi y=>?_) (fun σ H4 y=>?_)
   . obtain⟨h24,_,v2,v3,v4,v5,v6,ys,ls,rfl,s4,hR4,lt,hyl,eq⟩:=y
     rw[Int.zero_add]
     have hzi:zs[i]? = some zs[i]:=List.getElem?_eq_getElem hi
     have hmem:zs[i]∈zs:=List.getElem_mem hi
     have edr:zs.drop i=zs[i]::zs.drop (i+1):=List.drop_eq_getElem_cons hi
     rw[edr] at eq
     generalize zs[i]=z at hzi hmem eq
     have hz:=L.2 z hmem
     have wl:=wds_len z
     have ati:atI (zs.map V.str) (i:Int)=some (.str z):=atI_nat (by rw[List.getElem?_map,hzi];rfl)
     refine⟨_,rfl,_,rfl,l,_,_,_,rfl,rfl,SqL.of (s4 _ _ L.1),ati,rfl,z,_,rfl,rfl,rfl,by omega,fun lw hlw=>?_⟩
     have a5:=same_laid (o:=.lst ((wds z).map V.str)) hlw
     have hw5:(upd H4 lw (.lst ((wds z).map V.str))) lw=some (.lst ((wds z).map V.str)):=upd_same
     have s5:=s4.trans a5
     have hR5:=a5 _ _ hR4
     have lt5:=lt.keepT fun b q e=>a5 _ _ e
     generalize upd H4 lw (.lst ((wds z).map V.str))=H5 at s5 hw5 hR5 lt5 ⊢
     clear a5
     obtain⟨w0,ws,ew⟩:∃w0 ws,wds z=w0::ws:=by
      cases e:wds z with
      | nil=>exact absurd e (wds_ne z)
      | cons a b=>exact⟨a,b,rfl⟩
     rw[ew] at hw5
     refine⟨_,rfl,rfl,_,rfl,?_⟩
     rw[bl_int]
     by_cases c24:i=24
     . refine ifT (decide_eq_true (by omega)) (ifT rfl ?_)
       exact⟨_,rfl,h3,fun p hp=>kN i 0 (eq.trans (rdLs_err (rdL_0 (.inl (by omega))))) p _ (s5.trans (same_laid hp)) upd_same⟩
     refine ifF (decide_eq_false (by omega)) ?_
     refine⟨_,rfl,lw,_,_,_,rfl,rfl,SqL.of hw5,atI_nat (j:=0) rfl,rfl,_,rfl,?_⟩
     rw[bl_str]
     by_cases cw:w0=lab
     case neg=>
      refine ifT (by rw[decide_eq_false cw];rfl) ?_
      exact⟨_,rfl,h3,fun p hp=>kN i 0 (eq.trans (rdLs_err (rdL_0 (.inr (by rw[ew];intro z;exact cw (Option.some.inj z)))))) p _ (s5.trans (same_laid hp)) upd_same⟩
     refine ifF (by rw[decide_eq_true cw];rfl) ?_
     have ng:¬ (24<=i\/(wds z)[0]?≠some lab):=fun z'=>z'.elim (fun z'=>by omega) fun z'=>z' (by rw[ew,cw];rfl)
     have ed:(wds z).drop 1=ws:=by rw[ew];rfl
     have wl2:ws.length+1<=z.length+2:=by rw[ew] at wl;exact wl
     have hws:∀y∈ws,y.length<=100000:=fun y hy=>split_len hz (by rw[ew];simp[hy])
     refine⟨Nat.zero_le _,fun la hla=>?_⟩
     have a6:=same_laid (o:=.lst []) hla
     have nla:H5 la=none:=hla
     refine⟨_,rfl,lw,_,rfl,.inl (SqL.of (a6 _ _ hw5)),?_⟩
     rw[List.length_map,List.length_cons]
     refine⟨1,((ws.length+1:Nat):Int),rfl,⟨by omega,by omega,by omega,by omega⟩,?_⟩
     have en:((((ws.length+1:Nat):Int)-1).toNat)=ws.length:=by omega
     rw[en]
     refine for_range (lo:=1) (n:=ws.length) (fun j σ H6=>∃(v5 v6:Option V)(es:List E4),σ=[some (.ref l),some (.ref R),some (.int i),some (.ref lw),some (.ref la),v5,v6]/\Same H5 H6/\EL H6 la es/\UpE es/\es.length<=j/\rdWs zs.length [] 1 ws=rdWs zs.length es (j+1) (ws.drop j))
      ⟨_,_,[],rfl,a6,⟨[],upd_same,EsAt.nil⟩,UpE.nil,Nat.le_refl _,rfl⟩ (fun j σ H6 hj y=>?_) (fun σ H6 y=>?_)
     . obtain⟨v5,v6,es,rfl,s6,Le,up,hle,eq2⟩:=y
       have hwj:ws[j]? = some ws[j]:=List.getElem?_eq_getElem hj
       have hwm:ws[j]∈ws:=List.getElem_mem hj
       have edj:ws.drop j=ws[j]::ws.drop (j+1):=List.drop_eq_getElem_cons hj
       rw[edj] at eq2
       generalize ws[j]=y at hwj hwm eq2
       have e1:(1:Int)+(j:Int)=((j+1:Nat):Int):=by omega
       rw[e1]
       have hw6:=s6 _ _ hw5
       have s06:=s5.trans s6
       refine⟨_,rfl,_,rfl,lw,_,_,.str y,rfl,rfl,SqL.of hw6,atI_nat (j:=j+1) (by rw[List.getElem?_map,List.getElem?_cons_succ,hwj];rfl),_,rfl,_,rfl,l,_,rfl,.inl (SqL.of (s06 _ _ L.1)),?_⟩
       rw[List.length_map]
       refine⟨la,(zs.length:Int),es,y,rfl,Le,by omega,up,by omega,by omega,hws y hwm,fun e he p H7 s7 hp=>?_,fun he H7 s7=>?_⟩
       . refine⟨_,rfl,rfl,_,rfl,ifF rfl ?_⟩
         obtain⟨xs,ha,hb⟩:=Le.keep s7
         have npl:p≠la:=ne_of hp ha (by intro z;cases z)
         refine⟨_,rfl,.inl ⟨rfl,_,SqL.of ha⟩,_,rfl,la,xs,.ref p,rfl,rfl,ha,by have:=hb.1;omega,?_⟩
         refine⟨_,_,es++[e],rfl,fun b o q=>?_,⟨xs++[.ref p],upd_same,?_⟩,up.snoc he,?_,eq2.trans (rdWs_ok he)⟩
         . rw[upd_ne (ne_of_none q nla)]
           exact s7 _ _ (s6 _ _ q)
         . refine (hb.keepT fun b ys q=>?_).snoc ?_
           . rw[upd_ne (ne_of q ha (by intro z;cases z))]
             exact q
           . rw[upd_ne npl]
             exact hp
         . rw[List.length_append,List.length_singleton]
           omega
       . refine⟨_,rfl,rfl,_,rfl,ifT rfl ?_⟩
         exact⟨_,rfl,_,rfl,h3,fun p hp=>kN i (j+1) (eq.trans (rdLs_err (rdL_e ng (by rw[ed];exact eq2.trans (rdWs_err he))))) p _ ((s06.trans s7).trans (same_laid hp)) upd_same⟩
     . obtain⟨v5,v6,es,rfl,s6,Le,up,hle,eq2⟩:=y
       rw[List.drop_eq_nil_of_le (Nat.le_refl _)] at eq2
       have eo:=rdL_o (i:=i) ng (by rw[ed];exact eq2.trans (by rw[rdWs]))
       obtain⟨xs,ha,hb⟩:=id Le
       refine⟨_,rfl,la,rfl,⟨_,SqL.of ha⟩,[],rfl,fun D2 hD2=>?_⟩
       refine comp_col (j:=1) (fc:=fun e=>e.2.1) ha hb (by omega) e4V_1 hD2 ?_
       have a7:=same_laid (o:=.lst ((es.map fun e=>e.2.1).map V.int)) hD2
       have s07:=(s5.trans s6).trans a7
       refine⟨D2,_,rfl,.inl (SqL.of upd_same),rfl,flat_ints _,_,rfl,?_⟩
       rw[show (if true=true then !inV (V.int 0) ((es.map fun e=>e.2.1).map V.int) else inV (V.int 0) ((es.map fun e=>e.2.1).map V.int)) = !own es by rw[if_pos rfl,inV_ints,own_mem]]
       have hw7:=a7 _ _ (s6 _ _ hw5)
       have hR7:=a7 _ _ (s6 _ _ hR5)
       have ha7:=a7 _ _ ha
       have hb7:=hb.keep a7
       have lt7:=lt5.keepT fun b q e=>a7 _ _ (s6 _ _ e)
       generalize upd H6 D2 (.lst ((es.map fun e=>e.2.1).map V.int))=H7 at s07 hw7 hR7 ha7 hb7 lt7 ⊢
       cases co:own es with
       | false=>
        refine ifT rfl ?_
        rw[co,ew] at eo
        refine⟨_,rfl,_,rfl,lw,_,rfl,.inl (SqL.of hw7),h3,fun p hp=>?_⟩
        exact kN i _ (eq.trans (rdLs_err eo)) p _ (s07.trans (same_laid hp)) (by rw[upd_same,List.length_map])
       | true=>
        refine ifF rfl ?_
        rw[co] at eo
        refine⟨_,rfl,.inl ⟨rfl,_,SqL.of hR7⟩,_,rfl,la,xs,rfl,.inl ⟨SqL.of ha7,fun ta hta=>?_⟩⟩
        have a8:=same_laid (o:=.tup xs) hta
        have hR8:=a8 _ _ hR7
        have nRt:ta≠R:=(ne_of_none hR7 hta).symm
        refine⟨R,ys,.ref ta,rfl,rfl,hR8,by omega,?_⟩
        have kp:∀b q,(upd H7 ta (.tup xs)) b=some (.tup q)->(upd (upd H7 ta (.tup xs)) R (.lst (ys++[.ref ta]))) b=some (.tup q):=fun b q e=>by
         rw[upd_ne (ne_of e hR8 (by intro z;cases z))];exact e
        refine⟨by omega,by omega,_,_,_,_,_,ys++[.ref ta],ls++[es],rfl,fun b o q=>?_,upd_same,?_,?_,eq.trans (rdLs_ok eo)⟩
        . rw[upd_ne (ne_of_none q nR)]
          exact a8 _ _ (s07 _ _ q)
        . exact ((lt7.keepT fun b q e=>a8 _ _ e).keepT kp).snoc (kp _ _ upd_same) ((hb7.keep a8).keepT kp)
        . rw[List.length_append,hyl];rfl
   . obtain⟨_,_,v2,v3,v4,v5,v6,ys,ls,rfl,s4,hR4,lt,hyl,eq⟩:=y
     rw[List.drop_eq_nil_of_le (Nat.le_refl _)] at eq
     refine⟨_,rfl,R,ys,rfl,.inl ⟨SqL.of hR4,fun ta hta=>?_⟩⟩
     have s5:=same_laid (o:=.tup ys) hta
     exact kY ls (eq.trans (by rw[rdLs])) ta _ (s4.trans s5) ⟨ys,upd_same,lt.keepT fun b q e=>s5 _ _ e⟩
end
end K70
namespace K70
open PySem L2 WM
open DG
inductive GlobL (X:Cx):List Expr->List Addr->Prop
 | nil:GlobL X [] []
 | cons {x:Str}{p:Pos}{c:Addr}{es:List Expr}{cs:List Addr}:PE X (.Name x p) (tC (.ref c))->GlobL X es cs->GlobL X (.Name x p::es) (c::cs)
theorem pa_glob {X:Cx}{es:List Expr}{cs:List Addr}(h:GlobL X es cs):PA X es (fun _ H Q=>Q (cs.map V.ref) H):=by
 induction h with
 | nil=>exact pa_nil
 | cons he _ ih=>exact pa_cons he ih
structure E70 (K:PySem.W.Frag)(mg:Str->Option Value)(cW cP:Addr)(cs:List Addr):Prop where
 mW:mg "WayError" = some (.ref cW)
 qW:PySem.W.excIn K cW bmV "ValueError.__new__" = true
 mP:mg "NoText" = some (.ref cP)
 sb:L2.subIn K cP cW=true
 ex:ExcAt K cP
 ms:[mg "NoLabels",mg "NoLeast",mg "NoOrder",mg "NoPart",mg "NoPlan",mg "NoPosts",mg "NoRing",mg "NoRow",mg "NoTie",mg "NoTree",mg "TooMany"]=cs.map fun c=>some (.ref c)
 k1:PySem.W.kitAny K (.ref cP) (cs.map Value.ref)=some false
 kP:PySem.W.kitOne K (.ref cP) (.ref cP)=some true
 kV:PySem.W.kitOne K (.ref cP) (.type "ValueError")=some true
 n1:PySem.W.findIn K (.ref cP) "line" = some none
 n2:PySem.W.findIn K (.ref cP) "word" = some none
noncomputable def spSo:Sp:=fun vs H Q _=>∃(l:Addr)(zs:List Str),vs=[.ref l]/\Ls H l zs/\zs.length<=100000/\(∀ls,rdAll zs = .ok ls->∀a H',Same H H'->LabT H' a ls->Q (.ref a) H')/\(∀i k:Nat,rdAll zs = .error (i,k)->∀p H',Same H H'->H' p=some (.tup [.str non,.int i,.int k])->Q (.ref p) H')
section
variable {P:Program}{w:World}{K:PySem.W.Frag}{mg:Str->Option Value}{base:Heap}
theorem scSo:FnScope ["_law_lines_here", "_law_found", "e"] ["_law_lines_here"] (defScope sSo):=⟨rfl,rfl,rfl,by decide +kernel,rfl,by decide +kernel,by decide +kernel⟩
theorem ok_so {f fL fI cW cP c1 c2 c3 c4 c5 c6 c7 c8 c9 c10 c11:Addr}{fd' fdL:FuncData}{m:Nat}(F:Fun K "_law_said" "_law_said" sSo f fd') (Er:E70 K mg cW cP [c1,c2,c3,c4,c5,c6,c7,c8,c9,c10,c11])(EI:ExcI K cP fI)
 (FL:Fun K "read_labels" "read_labels" sRs fL fdL) (bL:Binds K fdL ["lines"] []) (mL:mg "read_labels" = some (.ref fL)) (GL:FnOk P w K mg base (CXI P w) m fL fdL ["lines"] (spRs cP)) (mIsi:mg "isinstance" = none) (mVal:mg "ValueError" = none):FnOk P w K mg base CX0 (m+1) f fd' ["_law_lines_here"] spSo:=by
 obtain⟨h1,h2,h3,h4,h5,h6,h7,h8,h9,h10,h11⟩:mg "NoLabels" = some (.ref c1)/\mg "NoLeast" = some (.ref c2)/\mg "NoOrder" = some (.ref c3)/\mg "NoPart" = some (.ref c4)/\mg "NoPlan" = some (.ref c5)/\mg "NoPosts" = some (.ref c6)/\mg "NoRing" = some (.ref c7)/\mg "NoRow" = some (.ref c8)/\mg "NoTie" = some (.ref c9)/\mg "NoTree" = some (.ref c10)/\mg "TooMany" = some (.ref c11):=by
  have:=Er.ms
  simpa using this
 have qC:excC K cP=true:=by unfold excC;rw[EI.cl];rfl
 refine F.ok scSo (fun vs H Q E h=>?_) (fun cdv A outer s H vs Q E hr h=>?_)
 . obtain⟨l,zs,rfl,_⟩:=h
   rfl
 . obtain⟨l,zs,rfl,L,hzl,kY,kN⟩:=h
   refine⟨_,pss_cons (ps_set (i:=1) scSo.nd rfl (Or.inl rfl) (pe_tup (pa_cons pe_str pa_nil)))
    (pss_cons (ps_tryI (i:=2) scSo.nd rfl rfl rfl rfl rfl Er.mW Er.qW (px_setI (i:=1) scSo.nd rfl (Or.inl rfl) GL hr rfl mL FL.kp bL (pa_cons (pv 0) pa_nil))
     (fun ea oe c hc=>pss_cons (ps_if (PW.pt (pw_and (pt_val (pe_callB (call_isinstX (held_at hc)) (by rfl) mIsi (by decide +kernel) (pa_cons (pv 2) (pa_cons (pe_glob (v:=.ref cP) rfl Er.mP rfl) pa_nil)))) (pw_and1 (pt_val (pe_callB (call_isinstXT (held_at hc)) (by rfl) mIsi (by decide +kernel) (pa_cons (pv 2) (pa_cons (pe_tyN (T := "ValueError") (by rfl) mVal (by decide +kernel)) pa_nil)))))))
      (pss_one (ps_set (i:=1) scSo.nd rfl (Or.inl rfl) (pe_tup (pa_cons pe_str (pa_cons (pe_fldE (pv 2)) (pa_cons (pe_fldE (pv 2)) pa_nil)))))) pss_nil)
      (pss_one (ps_if (pt_val (pe_callB (call_isinstXs (held_at hc)) (by rfl) mIsi (by decide +kernel) (pa_cons (pv 2) (pa_cons (pe_tup (pa_glob (.cons (pe_glob (v:=.ref c1) rfl h1 rfl) (.cons (pe_glob (v:=.ref c2) rfl h2 rfl) (.cons (pe_glob (v:=.ref c3) rfl h3 rfl) (.cons (pe_glob (v:=.ref c4) rfl h4 rfl) (.cons (pe_glob (v:=.ref c5) rfl h5 rfl) (.cons (pe_glob (v:=.ref c6) rfl h6 rfl) (.cons (pe_glob (v:=.ref c7) rfl h7 rfl) (.cons (pe_glob (v:=.ref c8) rfl h8 rfl) (.cons (pe_glob (v:=.ref c9) rfl h9 rfl) (.cons (pe_glob (v:=.ref c10) rfl h10 rfl) (.cons (pe_glob (v:=.ref c11) rfl h11 rfl) .nil))))))))))))) pa_nil))))
       (pss_one (ps_set (i:=1) scSo.nd rfl (Or.inl rfl) (pe_tup (pa_cons pe_str pa_nil)))) pss_nil))))
    (pss_one (ps_ret (pv 1)))),?_⟩
   refine⟨by show 1<=sizeLine;decide,fun p0 hp0=>?_⟩
   have s0:=same_laid (o:=.tup [.str (Str.ofString "other")]) hp0
   refine⟨_,rfl,l,zs,rfl,⟨s0 _ _ L.1,L.2⟩,hzl,fun ls en wa H' s' W=>⟨_,rfl,kY ls en wa H' (s0.trans s') W⟩,fun i k en dx H' s' hdx=>?_⟩
   refine⟨cP,rfl,qC,Er.sb,fun ea oe ws hc hd hf hea=>?_⟩
   refine⟨_,rfl,cP,true,Er.ex,rfl,Er.kP,true,rfl,iteT ?_⟩
   refine⟨_,rfl, "ValueError",true,Er.ex,rfl,Er.kV,true,rfl,iteT ?_⟩
   refine⟨_,rfl,ea,cP,dx,_,.int i,rfl,held_dx hc hd hf,EI.cl,Er.ex,Er.n1,hdx,rfl,_,rfl,ea,cP,dx,_,.int k,rfl,held_dx hc hd hf,EI.cl,Er.ex,Er.n2,hdx,rfl,by show 3<=sizeLine;decide,fun p1 hp1=>?_⟩
   have s1:=same_laid (o:=.tup [.str (Str.ofString "none"),.int i,.int k]) hp1
   refine⟨_,rfl,(by show 11<=sizeLine;decide),fun p2 hp2=>?_⟩
   have s2:=same_laid (o:=.tup ([c1,c2,c3,c4,c5,c6,c7,c8,c9,c10,c11].map V.ref)) hp2
   refine⟨p2,[c1,c2,c3,c4,c5,c6,c7,c8,c9,c10,c11],false,Er.ex,rfl,upd_same,Er.k1,false,rfl,iteF ?_⟩
   exact⟨_,rfl,kN i k en p1 _ (s0.trans (s'.trans (s1.trans s2))) (s2 _ _ upd_same)⟩
end
end K70
namespace K70
open PySem L2 WM
noncomputable def SVl (a b:V):Prop:=(∃i:Int,a = .int i/\b = .int i)\/(∃z:Str,a = .str z/\b = .str z)\/(a = .non/\b = .non)
noncomputable def SVc (H:Hp)(R:V->V->Prop)(a b:V):Prop:=∃(p q:Addr)(xs ys:List V),a = .ref p/\b = .ref q/\((H p=some (.tup xs)/\H q=some (.tup ys))\/(H p=some (.lst xs)/\H q=some (.lst ys)))/\xs.length=ys.length/\xs.length<=100000/\∀(i:Nat)(x y:V),xs[i]? = some x->ys[i]? = some y->R x y
noncomputable def SV (H:Hp):Nat->V->V->Prop
 | 0=>SVl
 | h+1=>fun a b=>SVl a b\/SVc H (SV H h) a b
theorem SV.keep {H H':Hp}(s:Same H H'):∀{h:Nat}{a b:V},SV H h a b->SV H' h a b
 | 0,_,_,h=>h
 | _+1,_,_,.inl h=>.inl h
 | _+1,_,_,.inr ⟨p,q,xs,ys,e1,e2,e3,e5,e6,e7⟩=>.inr ⟨p,q,xs,ys,e1,e2,e3.imp (fun e=>⟨s _ _ e.1,s _ _ e.2⟩) (fun e=>⟨s _ _ e.1,s _ _ e.2⟩),e5,e6,fun i x y hx hy=>(e7 i x y hx hy).keep s⟩
theorem SVl.sv {H:Hp}{a b:V}(h:SVl a b):∀{k:Nat},SV H k a b
 | 0=>h
 | _+1=>.inl h
noncomputable def spLf:Sp:=fun vs H Q _=>∃a b:V,vs=[a,b]/\SVl a b/\∀H',Same H H'->Q (.bl true) H'
noncomputable def spSm (h:Nat):Sp:=fun vs H Q _=>∃a b:V,vs=[a,b]/\SV H h a b/\∀H',Same H H'->Q (.bl true) H'
theorem comp_zipT {K:PySem.W.Frag}{a b:Addr}{xs ys:List V}{own:Nat}{g:TG}{ti:TT}{te:TE}{cv:List V}{D:Addr}{H1:Hp}{Q:VK}(hxy:xs.length=ys.length)(Pv:Nat->List V->Hp->Prop)(h0:Pv 0 [] (upd H1 D (.lst [])))(hl:∀i zs H,Pv i zs H->SqT K H a xs/\SqT K H b ys)(hz:∀i zs H,Pv i zs H->zs.length<sizeLine)
 (hs:∀i x y zs H T,xs[i]? = some x->ys[i]? = some y->Pv i zs H->H T=none->g (.ref T) (List.replicate own none++cv.map some) (upd H T (.tup [x,y])) fun σ2 H2=>(σ2.length=own+cv.length/\σ2.drop own=cv.map some) /\
  ti σ2 H2 fun b H3=>if b=true then te σ2 H3 fun y H4=>H4 D=some (.lst zs)/\Pv (i+1) (zs++[y]) (upd H4 D (.lst (zs++[y]))) else Pv (i+1) zs H3)
 (hd:∀zs H,Pv xs.length zs H->Q (.ref D) H):CompRd (ItzT K a b) own cv g ti te D H1 Q:=by
 refine⟨fun i m zs H=>m=xs.length-i/\i<=xs.length/\Pv i zs H,⟨xs.length,rfl,Nat.zero_le _,h0⟩,?_⟩
 rintro i m zs H ⟨rfl,hi,p⟩
 obtain⟨q1,q2⟩:=hl i zs H p
 by_cases c:i<xs.length
 . refine .inr ⟨⟨xs,ys,xs[i],ys[i],q1,q2,List.getElem?_eq_getElem c,List.getElem?_eq_getElem (by omega)⟩,hz i zs H p,Pv (i+1),fun zs' H' p'=>⟨xs.length-(i+1),by omega,rfl,c,p'⟩,fun x H' y=>?_⟩
   obtain⟨T,u,v,rfl,hT,rfl,hu,hv⟩:=y
   exact hs i u v zs H T (hu xs q1) (hv ys q2) p hT
 . have e:i=xs.length:=by omega
   subst e
   exact .inl ⟨⟨xs,q1,Nat.le_refl _⟩,hd zs H p⟩
theorem all_yes:∀n,(List.replicate n (V.bl true)).all flatV=true/\inV (.bl false) (List.replicate n (V.bl true))=false
 | 0=>⟨rfl,rfl⟩
 | n+1=>by
  obtain⟨a,b⟩:=all_yes n
  rw[List.replicate_succ]
  exact⟨by rw[List.all_cons,a];rfl,by unfold inV at b ⊢;rw[List.any_cons,b];rfl⟩
section
variable {P:Program}{w:World}{K:PySem.W.Frag}{mg:Str->Option Value}{base:Heap}
theorem FnOk.eithr {k:Nat}{f:Addr}{fd:FuncData}{ps:List Str}{CX:CXT}{sp sp' sp2:Sp}(F:FnOk P w K mg base CX k f fd ps sp)(F':FnOk P w K mg base CX k f fd ps sp')(im:∀vs H Q E,sp2 vs H Q E->sp vs H Q E\/sp' vs H Q E):FnOk P w K mg base CX k f fd ps sp2:=
 ⟨fun vs H Q E h=>(im vs H Q E h).elim (F.len vs H Q E) (F'.len vs H Q E),fun A outer s H args us vs Q E hr he hb hv hs=>(im vs H Q E hs).elim (F.run A outer s H args us vs Q E hr he hb hv) (F'.run A outer s H args us vs Q E hr he hb hv)⟩
theorem scSame:FnScope ["_law_found", "_law_due"] ["_law_found", "_law_due"] (defScope sSame):=⟨rfl,rfl,rfl,by decide +kernel,rfl,by decide +kernel,by decide +kernel⟩
theorem ok_leaf {f:Addr}{fd':FuncData}(F:Fun K "_law_same" "_law_same" sSame f fd') (mIsi:mg "isinstance" = none) (mTuple:mg "tuple" = none) (mList:mg "list" = none) (mBool:mg "bool" = none):FnOk P w K mg base CX0 1 f fd' ["_law_found", "_law_due"] spLf:=by
 refine F.ok scSame (fun vs H Q E h=>?_) (fun cdv A outer s H vs Q E hr h=>?_)
 . obtain⟨a,b,rfl,_⟩:=h
   rfl
 . obtain⟨a,b,rfl,hl,k⟩:=h
   rcases hl with ⟨i,rfl,rfl⟩ | ⟨z,rfl,rfl⟩ | ⟨rfl,rfl⟩
   . refine⟨_,pss_cons (ps_if (PW.pt (pw_or (pt_cmpR op_ne (pe_callB call_isinst (by rfl) mIsi (by decide +kernel) (pa_cons (pv 1) (pa_cons (pe_tyN (T := "tuple") (by rfl) mTuple (by decide +kernel)) pa_nil))) (pe_callB call_isinst (by rfl) mIsi (by decide +kernel) (pa_cons (pv 0) (pa_cons (pe_tyN (T := "tuple") (by rfl) mTuple (by decide +kernel)) pa_nil))) (nomark _))
      (pw_or1 (pt_cmpR op_ne (pe_callB call_isinst (by rfl) mIsi (by decide +kernel) (pa_cons (pv 1) (pa_cons (pe_tyN (T := "list") (by rfl) mList (by decide +kernel)) pa_nil))) (pe_callB call_isinst (by rfl) mIsi (by decide +kernel) (pa_cons (pv 0) (pa_cons (pe_tyN (T := "list") (by rfl) mList (by decide +kernel)) pa_nil))) (nomark _))))) (pss_one (ps_ret pe_bl)) pss_nil)
      (pss_cons (ps_if (pt_not (pt_val (pe_callB call_isinstTs (by rfl) mIsi (by decide +kernel) (pa_cons (pv 1) (pa_cons (pe_tup (pa_cons (pe_tyN (T := "tuple") (by rfl) mTuple (by decide +kernel)) (pa_cons (pe_tyN (T := "list") (by rfl) mList (by decide +kernel)) pa_nil))) pa_nil)))))
       (pss_one (ps_ret (pe_and (pe_cmpR op_eq (pe_callB call_isinst (by rfl) mIsi (by decide +kernel) (pa_cons (pv 0) (pa_cons (pe_tyN (T := "bool") (by rfl) mBool (by decide +kernel)) pa_nil))) (pe_callB call_isinst (by rfl) mIsi (by decide +kernel) (pa_cons (pv 1) (pa_cons (pe_tyN (T := "bool") (by rfl) mBool (by decide +kernel)) pa_nil))) (nomark _))
        (pe_one (pe_cmpR op_eq (pv 0) (pv 1) (nomark _)))))) pss_nil)
      (pss_cons ps_no (pss_one ps_no))),?_⟩
     refine⟨_,rfl,_,_,_,false,rfl,.int i,rfl,_,rfl,_,_,_,false,rfl,.int i,rfl,rfl,_,rfl,ifF rfl ?_⟩
     refine⟨_,rfl,_,_,_,false,rfl,.int i,rfl,_,rfl,_,_,_,false,rfl,.int i,rfl,rfl,_,rfl,ifF rfl ?_⟩
     refine⟨_,rfl,by show 2<=sizeLine;decide,fun p hp=>?_⟩
     refine⟨_,p,["tuple", "list"],_,false,rfl,upd_same,.int i,rfl,_,rfl,iteT ?_⟩
     refine⟨_,rfl,_,_,_,false,rfl,.int i,rfl,_,rfl,_,_,_,false,rfl,.int i,rfl,rfl,_,rfl,ifT rfl ?_⟩
     refine⟨_,rfl,_,rfl,rfl,?_⟩
     rw[decide_eq_true rfl]
     exact k _ (same_laid hp)
   . refine⟨_,pss_cons (ps_if (PW.pt (pw_or (pt_cmpR op_ne (pe_callB call_isinst (by rfl) mIsi (by decide +kernel) (pa_cons (pv 1) (pa_cons (pe_tyN (T := "tuple") (by rfl) mTuple (by decide +kernel)) pa_nil))) (pe_callB call_isinst (by rfl) mIsi (by decide +kernel) (pa_cons (pv 0) (pa_cons (pe_tyN (T := "tuple") (by rfl) mTuple (by decide +kernel)) pa_nil))) (nomark _))
      (pw_or1 (pt_cmpR op_ne (pe_callB call_isinst (by rfl) mIsi (by decide +kernel) (pa_cons (pv 1) (pa_cons (pe_tyN (T := "list") (by rfl) mList (by decide +kernel)) pa_nil))) (pe_callB call_isinst (by rfl) mIsi (by decide +kernel) (pa_cons (pv 0) (pa_cons (pe_tyN (T := "list") (by rfl) mList (by decide +kernel)) pa_nil))) (nomark _))))) (pss_one (ps_ret pe_bl)) pss_nil)
      (pss_cons (ps_if (pt_not (pt_val (pe_callB call_isinstTs (by rfl) mIsi (by decide +kernel) (pa_cons (pv 1) (pa_cons (pe_tup (pa_cons (pe_tyN (T := "tuple") (by rfl) mTuple (by decide +kernel)) (pa_cons (pe_tyN (T := "list") (by rfl) mList (by decide +kernel)) pa_nil))) pa_nil)))))
       (pss_one (ps_ret (pe_and (pe_cmpR op_eq (pe_callB call_isinst (by rfl) mIsi (by decide +kernel) (pa_cons (pv 0) (pa_cons (pe_tyN (T := "bool") (by rfl) mBool (by decide +kernel)) pa_nil))) (pe_callB call_isinst (by rfl) mIsi (by decide +kernel) (pa_cons (pv 1) (pa_cons (pe_tyN (T := "bool") (by rfl) mBool (by decide +kernel)) pa_nil))) (nomark _))
        (pe_one (pe_cmpR op_eq (pv 0) (pv 1) (nomark _)))))) pss_nil)
      (pss_cons ps_no (pss_one ps_no))),?_⟩
     refine⟨_,rfl,_,_,_,false,rfl,.str z,rfl,_,rfl,_,_,_,false,rfl,.str z,rfl,rfl,_,rfl,ifF rfl ?_⟩
     refine⟨_,rfl,_,_,_,false,rfl,.str z,rfl,_,rfl,_,_,_,false,rfl,.str z,rfl,rfl,_,rfl,ifF rfl ?_⟩
     refine⟨_,rfl,by show 2<=sizeLine;decide,fun p hp=>?_⟩
     refine⟨_,p,["tuple", "list"],_,false,rfl,upd_same,.str z,rfl,_,rfl,iteT ?_⟩
     refine⟨_,rfl,_,_,_,false,rfl,.str z,rfl,_,rfl,_,_,_,false,rfl,.str z,rfl,rfl,_,rfl,ifT rfl ?_⟩
     refine⟨_,rfl,_,rfl,rfl,?_⟩
     rw[decide_eq_true rfl]
     exact k _ (same_laid hp)
   . refine⟨_,pss_cons (ps_if (PW.pt (pw_or (pt_cmpR op_ne (pe_callB call_isinst (by rfl) mIsi (by decide +kernel) (pa_cons (pv 1) (pa_cons (pe_tyN (T := "tuple") (by rfl) mTuple (by decide +kernel)) pa_nil))) (pe_callB call_isinst (by rfl) mIsi (by decide +kernel) (pa_cons (pv 0) (pa_cons (pe_tyN (T := "tuple") (by rfl) mTuple (by decide +kernel)) pa_nil))) (nomark _))
      (pw_or1 (pt_cmpR op_ne (pe_callB call_isinst (by rfl) mIsi (by decide +kernel) (pa_cons (pv 1) (pa_cons (pe_tyN (T := "list") (by rfl) mList (by decide +kernel)) pa_nil))) (pe_callB call_isinst (by rfl) mIsi (by decide +kernel) (pa_cons (pv 0) (pa_cons (pe_tyN (T := "list") (by rfl) mList (by decide +kernel)) pa_nil))) (nomark _))))) (pss_one (ps_ret pe_bl)) pss_nil)
      (pss_cons (ps_if (pt_not (pt_val (pe_callB call_isinstTs (by rfl) mIsi (by decide +kernel) (pa_cons (pv 1) (pa_cons (pe_tup (pa_cons (pe_tyN (T := "tuple") (by rfl) mTuple (by decide +kernel)) (pa_cons (pe_tyN (T := "list") (by rfl) mList (by decide +kernel)) pa_nil))) pa_nil)))))
       (pss_one (ps_ret (pe_and (pe_cmpR op_eq (pe_callB call_isinst (by rfl) mIsi (by decide +kernel) (pa_cons (pv 0) (pa_cons (pe_tyN (T := "bool") (by rfl) mBool (by decide +kernel)) pa_nil))) (pe_callB call_isinst (by rfl) mIsi (by decide +kernel) (pa_cons (pv 1) (pa_cons (pe_tyN (T := "bool") (by rfl) mBool (by decide +kernel)) pa_nil))) (nomark _))
        (pe_one (pe_cmpR op_eq (pv 0) (pv 1) (nomark _)))))) pss_nil)
      (pss_cons ps_no (pss_one ps_no))),?_⟩
     refine⟨_,rfl,_,_,_,false,rfl,.non,rfl,_,rfl,_,_,_,false,rfl,.non,rfl,rfl,_,rfl,ifF rfl ?_⟩
     refine⟨_,rfl,_,_,_,false,rfl,.non,rfl,_,rfl,_,_,_,false,rfl,.non,rfl,rfl,_,rfl,ifF rfl ?_⟩
     refine⟨_,rfl,by show 2<=sizeLine;decide,fun p hp=>?_⟩
     refine⟨_,p,["tuple", "list"],_,false,rfl,upd_same,.non,rfl,_,rfl,iteT ?_⟩
     refine⟨_,rfl,_,_,_,false,rfl,.non,rfl,_,rfl,_,_,_,false,rfl,.non,rfl,rfl,_,rfl,ifT rfl ?_⟩
     refine⟨_,rfl,_,rfl,rfl,?_⟩
     rw[decide_eq_true rfl]
     exact k _ (same_laid hp)
theorem ok_sameT {h:Nat}{f:Addr}{fd':FuncData}(F:Fun K "_law_same" "_law_same" sSame f fd') (bF:Binds K fd' ["_law_found", "_law_due"] []) (mF:mg "_law_same" = some (.ref f)) (mIsi:mg "isinstance" = none) (mTuple:mg "tuple" = none) (mList:mg "list" = none) (mBool:mg "bool" = none) (mLen:mg "len" = none) (mZip:mg "zip" = none) (G:FnOk P w K mg base CX0 (h+1) f fd' ["_law_found", "_law_due"] (spSm h)):FnOk P w K mg base CX0 (h+2) f fd' ["_law_found", "_law_due"] (fun vs H Q _=>∃a b:V,vs=[a,b]/\SVc H (SV H h) a b/\∀H',Same H H'->Q (.bl true) H'):=by
 refine F.ok scSame (fun vs H Q E h=>?_) (fun cdv A outer s H vs Q E hr h=>?_)
 . obtain⟨a,b,rfl,_⟩:=h
   rfl
 . obtain⟨a,b,rfl,⟨p,q,xs,ys,rfl,rfl,hpq,hl,h24,al⟩,k⟩:=h
   rcases hpq with ⟨hp,hq⟩ | ⟨hp,hq⟩
   . refine⟨_,pss_cons (ps_if (PW.pt (pw_or (pt_cmpR op_ne (pe_callB call_isinst (by rfl) mIsi (by decide +kernel) (pa_cons (pv 1) (pa_cons (pe_tyN (T := "tuple") (by rfl) mTuple (by decide +kernel)) pa_nil))) (pe_callB call_isinst (by rfl) mIsi (by decide +kernel) (pa_cons (pv 0) (pa_cons (pe_tyN (T := "tuple") (by rfl) mTuple (by decide +kernel)) pa_nil))) (nomark _))
      (pw_or1 (pt_cmpR op_ne (pe_callB call_isinst (by rfl) mIsi (by decide +kernel) (pa_cons (pv 1) (pa_cons (pe_tyN (T := "list") (by rfl) mList (by decide +kernel)) pa_nil))) (pe_callB call_isinst (by rfl) mIsi (by decide +kernel) (pa_cons (pv 0) (pa_cons (pe_tyN (T := "list") (by rfl) mList (by decide +kernel)) pa_nil))) (nomark _))))) (pss_one (ps_ret pe_bl)) pss_nil)
      (pss_cons (ps_if (pt_not (pt_val (pe_callB call_isinstTs (by rfl) mIsi (by decide +kernel) (pa_cons (pv 1) (pa_cons (pe_tup (pa_cons (pe_tyN (T := "tuple") (by rfl) mTuple (by decide +kernel)) (pa_cons (pe_tyN (T := "list") (by rfl) mList (by decide +kernel)) pa_nil))) pa_nil))))) (pss_one ps_no) pss_nil)
      (pss_cons (ps_if (pt_cmpR op_ne (pe_callB call_len_seq (by rfl) mLen PySem.boot_len (pa_cons (pv 0) pa_nil)) (pe_callB call_len_seq (by rfl) mLen PySem.boot_len (pa_cons (pv 1) pa_nil)) (nomark _)) (pss_one (ps_ret pe_bl)) pss_nil)
      (pss_one (ps_ret (pe_cmpR op_notIn_seq pe_bl (pe_comp (own:=["_law_one", "_law_other"]) (cn:=[]) (ci:=[]) rfl (csc rfl rfl) trivial rfl (pi_zipT rfl mZip (pa_cons (pv 0) (pa_cons (pv 1) pa_nil)))
       (fun _ _ _ _=>pg_tupC (n:=2) rfl (pgs_cons (pg_name (i:=0) (nd_of rfl) rfl (Or.inl rfl)) (pgs_cons (pg_name (i:=1) (nd_of rfl) rfl (Or.inl rfl)) pgs_nil))) (fun _ _ _ _=>pts_nil)
       (fun _ _ _ _=>pe_call G hr rfl mF F.kp bF .nil pass0 (pa_cons (pv 0) (pa_cons (pv 1) pa_nil)))) (by with_unfolding_all rfl)))))),?_⟩
     refine⟨_,rfl,_,_,_,true,rfl,.tup hq,rfl,_,rfl,_,_,_,true,rfl,.tup hp,rfl,rfl,_,rfl,ifF rfl ?_⟩
     refine⟨_,rfl,_,_,_,false,rfl,.tup hq,rfl,_,rfl,_,_,_,false,rfl,.tup hp,rfl,rfl,_,rfl,ifF rfl ?_⟩
     refine⟨_,rfl,by show 2<=sizeLine;decide,fun t ht=>?_⟩
     have s1:=same_laid (o:=.tup [.ty "tuple",.ty "list"]) ht
     refine⟨_,t,["tuple", "list"],_,true,rfl,upd_same,.tup (s1 _ _ hq),rfl,_,rfl,iteF ?_⟩
     have hp1:=s1 _ _ hp
     have hq1:=s1 _ _ hq
     generalize upd H t (.tup [.ty "tuple",.ty "list"])=H1 at s1 hp1 hq1 ⊢
     refine⟨_,rfl,p,xs,rfl,.inr (SqT.of hp1),_,rfl,q,ys,rfl,.inr (SqT.of hq1),rfl,_,rfl,?_⟩
     refine ifF (by rw[hl];simp) ?_
     refine⟨_,rfl,_,rfl,p,q,rfl,⟨xs,SqT.of hp1⟩,⟨ys,SqT.of hq1⟩,[],rfl,fun D hD=>?_⟩
     refine comp_zipT (xs:=xs) (ys:=ys) hl (fun i zs H5=>i<=xs.length/\zs=List.replicate i (V.bl true)/\Same H1 H5/\H5 D=some (.lst zs)) ⟨Nat.zero_le _,rfl,same_laid hD,upd_same⟩ (fun i zs H5 z=>⟨SqT.of (z.2.2.1 _ _ hp1),SqT.of (z.2.2.1 _ _ hq1)⟩) (fun i zs H5 z=>?_) (fun i x y zs H5 T hx hy z hT=>?_) (fun zs H5 z=>?_)
     . obtain⟨hi,rfl,_⟩:=z
       rw[List.length_replicate]
       exact small_line (by omega)
     . obtain⟨hi,rfl,s5,hD5⟩:=z
       have sT:=same_laid (o:=.tup [x,y]) hT
       refine⟨T,_,rfl,SqT.of upd_same,rfl,_,_,rfl,_,_,rfl,rfl,⟨rfl,rfl⟩,?_⟩
       refine tyes ?_
       refine⟨_,rfl,_,rfl,x,y,rfl,((al i x y hx hy).keep s1).keep (s5.trans sT),fun H6 s6=>?_⟩
       refine⟨s6 _ _ (sT _ _ hD5),(List.getElem?_eq_some_iff.mp hx).1,?_,same_chg ((s5.trans sT).trans s6) hD,upd_same⟩
       rw[List.replicate_succ']
     . obtain⟨_,rfl,s5,hD5⟩:=z
       refine⟨D,_,rfl,.inl (SqL.of hD5),rfl,(all_yes _).1,?_⟩
       rw[(all_yes _).2]
       exact k _ (s1.trans s5)
   . refine⟨_,pss_cons (ps_if (PW.pt (pw_or (pt_cmpR op_ne (pe_callB call_isinst (by rfl) mIsi (by decide +kernel) (pa_cons (pv 1) (pa_cons (pe_tyN (T := "tuple") (by rfl) mTuple (by decide +kernel)) pa_nil))) (pe_callB call_isinst (by rfl) mIsi (by decide +kernel) (pa_cons (pv 0) (pa_cons (pe_tyN (T := "tuple") (by rfl) mTuple (by decide +kernel)) pa_nil))) (nomark _))
      (pw_or1 (pt_cmpR op_ne (pe_callB call_isinst (by rfl) mIsi (by decide +kernel) (pa_cons (pv 1) (pa_cons (pe_tyN (T := "list") (by rfl) mList (by decide +kernel)) pa_nil))) (pe_callB call_isinst (by rfl) mIsi (by decide +kernel) (pa_cons (pv 0) (pa_cons (pe_tyN (T := "list") (by rfl) mList (by decide +kernel)) pa_nil))) (nomark _))))) (pss_one (ps_ret pe_bl)) pss_nil)
      (pss_cons (ps_if (pt_not (pt_val (pe_callB call_isinstTs (by rfl) mIsi (by decide +kernel) (pa_cons (pv 1) (pa_cons (pe_tup (pa_cons (pe_tyN (T := "tuple") (by rfl) mTuple (by decide +kernel)) (pa_cons (pe_tyN (T := "list") (by rfl) mList (by decide +kernel)) pa_nil))) pa_nil))))) (pss_one ps_no) pss_nil)
      (pss_cons (ps_if (pt_cmpR op_ne (pe_callB call_len_seq (by rfl) mLen PySem.boot_len (pa_cons (pv 0) pa_nil)) (pe_callB call_len_seq (by rfl) mLen PySem.boot_len (pa_cons (pv 1) pa_nil)) (nomark _)) (pss_one (ps_ret pe_bl)) pss_nil)
      (pss_one (ps_ret (pe_cmpR op_notIn_seq pe_bl (pe_comp (own:=["_law_one", "_law_other"]) (cn:=[]) (ci:=[]) rfl (csc rfl rfl) trivial rfl (pi_zipL rfl mZip (pa_cons (pv 0) (pa_cons (pv 1) pa_nil)))
       (fun _ _ _ _=>pg_tupC (n:=2) rfl (pgs_cons (pg_name (i:=0) (nd_of rfl) rfl (Or.inl rfl)) (pgs_cons (pg_name (i:=1) (nd_of rfl) rfl (Or.inl rfl)) pgs_nil))) (fun _ _ _ _=>pts_nil)
       (fun _ _ _ _=>pe_call G hr rfl mF F.kp bF .nil pass0 (pa_cons (pv 0) (pa_cons (pv 1) pa_nil)))) (by with_unfolding_all rfl)))))),?_⟩
     refine⟨_,rfl,_,_,_,false,rfl,.lst hq,rfl,_,rfl,_,_,_,false,rfl,.lst hp,rfl,rfl,_,rfl,ifF rfl ?_⟩
     refine⟨_,rfl,_,_,_,true,rfl,.lst hq,rfl,_,rfl,_,_,_,true,rfl,.lst hp,rfl,rfl,_,rfl,ifF rfl ?_⟩
     refine⟨_,rfl,by show 2<=sizeLine;decide,fun t ht=>?_⟩
     have s1:=same_laid (o:=.tup [.ty "tuple",.ty "list"]) ht
     refine⟨_,t,["tuple", "list"],_,true,rfl,upd_same,.lst (s1 _ _ hq),rfl,_,rfl,iteF ?_⟩
     have hp1:=s1 _ _ hp
     have hq1:=s1 _ _ hq
     generalize upd H t (.tup [.ty "tuple",.ty "list"])=H1 at s1 hp1 hq1 ⊢
     refine⟨_,rfl,p,xs,rfl,.inl (SqL.of hp1),_,rfl,q,ys,rfl,.inl (SqL.of hq1),rfl,_,rfl,?_⟩
     refine ifF (by rw[hl];simp) ?_
     refine⟨_,rfl,_,rfl,p,q,rfl,⟨xs,SqL.of hp1⟩,⟨ys,SqL.of hq1⟩,[],rfl,fun D hD=>?_⟩
     refine comp_zipL (xs:=xs) (ys:=ys) hl (fun i zs H5=>i<=xs.length/\zs=List.replicate i (V.bl true)/\Same H1 H5/\H5 D=some (.lst zs)) ⟨Nat.zero_le _,rfl,same_laid hD,upd_same⟩ (fun i zs H5 z=>⟨SqL.of (z.2.2.1 _ _ hp1),SqL.of (z.2.2.1 _ _ hq1)⟩) (fun i zs H5 z=>?_) (fun i x y zs H5 T hx hy z hT=>?_) (fun zs H5 z=>?_)
     . obtain⟨hi,rfl,_⟩:=z
       rw[List.length_replicate]
       exact small_line (by omega)
     . obtain⟨hi,rfl,s5,hD5⟩:=z
       have sT:=same_laid (o:=.tup [x,y]) hT
       refine⟨T,_,rfl,SqT.of upd_same,rfl,_,_,rfl,_,_,rfl,rfl,⟨rfl,rfl⟩,?_⟩
       refine tyes ?_
       refine⟨_,rfl,_,rfl,x,y,rfl,((al i x y hx hy).keep s1).keep (s5.trans sT),fun H6 s6=>?_⟩
       refine⟨s6 _ _ (sT _ _ hD5),(List.getElem?_eq_some_iff.mp hx).1,?_,same_chg ((s5.trans sT).trans s6) hD,upd_same⟩
       rw[List.replicate_succ']
     . obtain⟨_,rfl,s5,hD5⟩:=z
       refine⟨D,_,rfl,.inl (SqL.of hD5),rfl,(all_yes _).1,?_⟩
       rw[(all_yes _).2]
       exact k _ (s1.trans s5)
theorem ok_same {f:Addr}{fd':FuncData}(F:Fun K "_law_same" "_law_same" sSame f fd') (bF:Binds K fd' ["_law_found", "_law_due"] []) (mF:mg "_law_same" = some (.ref f)) (mIsi:mg "isinstance" = none) (mTuple:mg "tuple" = none) (mList:mg "list" = none) (mBool:mg "bool" = none) (mLen:mg "len" = none) (mZip:mg "zip" = none):∀h,FnOk P w K mg base CX0 (h+1) f fd' ["_law_found", "_law_due"] (spSm h)
 | 0=>ok_leaf F mIsi mTuple mList mBool
 | h+1=>FnOk.eithr ((ok_leaf F mIsi mTuple mList mBool).mono (by omega)) (ok_sameT F bF mF mIsi mTuple mList mBool mLen mZip (ok_same F bF mF mIsi mTuple mList mBool mLen mZip h)) fun vs H Q E ⟨a,b,e,hs,k⟩=>hs.elim (fun x=>.inl ⟨a,b,e,x,k⟩) (fun x=>.inr ⟨a,b,e,x,k⟩)
end
end K70
namespace K70
open PySem L2 WM
open DG
theorem num_noc {k:Int}(h:0<=k){c:Nat}(hc:c<48\/57<c):c∉(sN k).cps.toList:=fun hm=>by
 obtain⟨m,rfl⟩:=Int.eq_ofNat_of_zero_le h
 have:=(dg_num m).all c hm
 omega
theorem mem_join {sep:Str}{c:Nat}:∀{ws:List Str},c∈(Str.join sep ws).cps.toList->c∈sep.cps.toList\/∃w∈ws,c∈w.cps.toList
 | [],h=>by cases h
 | [w],h=>.inr ⟨w,by simp,h⟩
 | w::x::ws,h=>by
  have e:Str.join sep (w::x::ws)=w++sep++Str.join sep (x::ws):=rfl
  rw[e,Str.cps_append,Str.cps_append,Array.toList_append,Array.toList_append] at h
  rcases List.mem_append.mp h with q | q
  . rcases List.mem_append.mp q with q | q
    . exact .inr ⟨w,by simp,q⟩
    . exact .inl q
  . rcases mem_join q with q | ⟨y,hy,q⟩
    . exact .inl q
    . exact .inr ⟨y,List.mem_cons_of_mem _ hy,q⟩
theorem e4T_noc {e:E4}(h:SmE e){c:Nat}(hc:c=32\/c=58):∀z∈e4T e,c∉z.cps.toList:=fun z hz=>by
 obtain⟨i,hi⟩:=List.mem_iff_getElem?.mp hz
 have hl:=(List.getElem?_eq_some_iff.mp hi).1
 rw[e4T_len] at hl
 obtain⟨y,hy,hn⟩:=e4_at h (List.getElem?_eq_getElem (l:=e4V e) (i:=i) (by rw[e4V_len];exact hl))
 rw[hi] at hy
 cases hy
 rcases hn with ⟨_,rfl⟩ | ⟨k,_,hk,rfl⟩
 . have e:dash.cps.toList=[45]:=by decide
   rw[e]
   intro hm
   have:=List.mem_singleton.mp hm
   omega
 . exact num_noc hk.1 (by omega)
theorem cls_eW {e:E4}(h:SmE e):cls (eW e)=e4T e:=by
 have c58:Str.ofString ":" = ⟨#[58]⟩:=by decide
 show Txt.split (Txt.join (Str.ofString ":") (e4T e)) (Str.ofString ":")=e4T e
 rw[show Txt.join (Str.ofString ":") (e4T e)=Str.join (Str.ofString ":") (e4T e) from StrLaws.glued_eq_join _ _,c58]
 exact split_join (fun z=>by have:=e4T_len e;rw[z] at this;cases this) (e4T_noc h (.inr rfl))
theorem wds_lW {es:List E4}(h:∀e∈es,SmE e):wds (lW es)=lab::es.map eW:=by
 show Txt.split (Txt.join sp1 (lab::es.map eW)) (Str.ofString " ")=_
 rw[show Txt.join sp1 (lab::es.map eW)=Str.join sp1 (lab::es.map eW) from StrLaws.glued_eq_join _ _,show sp1=⟨#[32]⟩ from sp32,sp32]
 refine split_join (by simp) fun w hw=>?_
 rcases List.mem_cons.mp hw with rfl | hw
 . decide
 . obtain⟨e,he,rfl⟩:=List.mem_map.mp hw
   intro hm
   rw[show eW e=Str.join col (e4T e) from StrLaws.glued_eq_join _ _] at hm
   rcases mem_join hm with q | ⟨z,hz,q⟩
   . have:col.cps.toList=[58]:=by decide
     rw[this] at q
     have:=List.mem_singleton.mp q
     omega
   . exact e4T_noc (h e he) (.inl rfl) z hz q
structure GE (n:Int)(e:E4):Prop where
 h0:0<=e.1
 h1:e.1<=n-1
 o:(e.2.1=0/\e.2.2=none)\/(1<=e.2.1/\e.2.1<=BIG/\∃u d,e.2.2=some (u,d)/\(0<=u/\u<=n-1)/\0<=d/\d<=n-1)
theorem GE.sm {n:Int}{e:E4}(h:GE n e)(hn:n<=1000):SmE e:=by
 have a:=h.h0
 have b:=h.h1
 refine⟨⟨a,by omega⟩,?_,fun u d hud=>?_⟩
 . rcases h.o with ⟨z,_⟩ | ⟨z1,z2,_⟩
   . exact⟨by omega,by omega⟩
   . have z2:e.2.1<=999999999999:=z2
     exact⟨by omega,by omega⟩
 . rcases h.o with ⟨_,z⟩ | ⟨_,_,u',d',z,hu,hd⟩
   . rw[z] at hud;cases hud
   . rw[z] at hud
     cases hud
     exact⟨⟨hu.1,by omega⟩,hd.1,by omega⟩
structure GL (n:Int)(es:List E4):Prop where
 g:∀e∈es,GE n e
 up:es.Pairwise fun a b=>a.1<b.1
 one:es.Pairwise fun a b=>¬ (a.2.1=0/\b.2.1=0)
 own:own es=true
theorem numB_self {k lo hi:Int}(h0:0<=lo)(h1:lo<=k)(h2:k<=hi):numB (sN k) lo hi=some k:=(numB_some h0).mpr ⟨h1,h2,rfl⟩
theorem rdE_own {n:Int}{es:List E4}{e:E4}(hn:n<=1000)(g:GE n e)(lo:0<=lowH es)(hl:lowH es<=e.1)(ho:e.2.1=0->own es=false):rdE n es (eW e)=some e:=by
 have ec:=cls_eW (g.sm hn)
 obtain⟨a,l,o⟩:=e
 have g1:a<=n-1:=g.h1
 rcases g.o with ⟨z1,z2⟩ | ⟨z1,z2,u,d,z3,hu,hd⟩
 . have z1:l=0:=z1
   have z2:o=none:=z2
   subst z1 z2
   rw[rdE_4 ec,numB_self lo hl g1]
   show Option.bind (numB (sN 0) 0 BIG) _=_
   rw[numB_self (by decide) (by decide) (by decide)]
   show (if (0:Int)=0 then ownE es a dash dash else farE n a 0 dash dash)=_
   rw[if_pos rfl]
   unfold ownE
   rw[if_neg (fun z=>z.elim (fun z=>by rw[ho rfl] at z;cases z) fun z=>z.elim (fun z=>z rfl) fun z=>z rfl)]
 . have z1:1<=l:=z1
   have z2:l<=BIG:=z2
   have z3:o=some (u,d):=z3
   subst z3
   rw[rdE_4 ec,numB_self lo hl g1]
   show Option.bind (numB (sN l) 0 BIG) _=_
   rw[numB_self (by decide) (by omega) z2]
   show (if l=0 then ownE es a (sN u) (sN d) else farE n a l (sN u) (sN d))=_
   rw[if_neg (by omega)]
   unfold farE
   rw[numB_self (by decide) hu.1 hu.2,numB_self (by decide) hd.1 hd.2]
   rfl
theorem low_take {n:Int}{es:List E4}(h:GL n es){j:Nat}{e:E4}(he:es[j]? = some e):0<=lowH (es.take j)/\lowH (es.take j)<=e.1:=by
 have g:=h.g e (List.mem_of_getElem? he)
 cases j with
 | zero=>exact⟨Int.le_refl _,g.h0⟩
 | succ i=>
  have hj:=(List.getElem?_eq_some_iff.mp he).1
  have hi:i<es.length:=by omega
  have hl:(es.take (i+1)).getLast? = some es[i]:=by
   rw[List.take_add_one,List.getElem?_eq_getElem hi]
   exact List.getLast?_concat
  unfold lowH
  rw[hl]
  have lt:=List.pairwise_iff_getElem.mp h.up i (i+1) hi hj (by omega)
  rw[List.getElem?_eq_getElem hj] at he
  rw[Option.some.inj he] at lt
  have g2:=(h.g es[i] (List.getElem_mem hi)).h0
  exact⟨by show 0<=es[i].1+1;omega,by show es[i].1+1<=e.1;omega⟩
theorem own_take {n:Int}{es:List E4}(h:GL n es){j:Nat}{e:E4}(he:es[j]? = some e)(h0:e.2.1=0):own (es.take j)=false:=by
 cases c:own (es.take j) with
 | false=>rfl
 | true=>
  unfold own at c
  obtain⟨x,hx,hz⟩:=List.any_eq_true.mp c
  have hz:=of_decide_eq_true hz
  obtain⟨i,hi⟩:=List.mem_iff_getElem?.mp hx
  have hil:=(List.getElem?_eq_some_iff.mp hi).1
  rw[List.length_take] at hil
  have hjl:=(List.getElem?_eq_some_iff.mp he).1
  rw[List.getElem?_take_of_lt (by omega)] at hi
  have hxi:=(List.getElem?_eq_some_iff.mp hi).2
  have hej:=(List.getElem?_eq_some_iff.mp he).2
  have:=List.pairwise_iff_getElem.mp h.one i j (by omega) hjl (by omega)
  rw[hxi,hej] at this
  exact absurd ⟨hz,h0⟩ this
theorem rdWs_ln {n:Int}{es:List E4}(hn:n<=1000)(h:GL n es):∀(m j k:Nat),m=es.length-j->j<=es.length->rdWs n (es.take j) k ((es.drop j).map eW) = .ok es
 | 0,j,k,e,hj=>by
  rw[List.drop_eq_nil_of_le (by omega),List.take_of_length_le (by omega)]
  rfl
 | m+1,j,k,e,hj=>by
  have hlt:j<es.length:=by omega
  have ht:es[j]? = some es[j]:=List.getElem?_eq_getElem hlt
  have lo:=low_take h ht
  rw[List.drop_eq_getElem_cons hlt,List.map_cons,rdWs_ok (rdE_own hn (h.g _ (List.getElem_mem hlt)) lo.1 lo.2 (own_take h ht))]
  have e2:es.take j++[es[j]]=es.take (j+1):=by rw[List.take_add_one,ht];rfl
  rw[e2]
  exact rdWs_ln hn h m (j+1) (k+1) (by omega) (by omega)
theorem rdL_ln {n:Int}{i:Nat}{es:List E4}(hn:n<=1000)(hi:i<24)(h:GL n es):rdL n i (lW es) = .ok es:=by
 have ew:=wds_lW (fun e he=>(h.g e he).sm hn)
 rw[rdL_o (es:=es) (fun z=>z.elim (fun z=>by omega) fun z=>z (by rw[ew];rfl)) ?_,if_pos h.own]
 rw[ew]
 exact rdWs_ln hn h es.length 0 1 (by omega) (Nat.zero_le _)
theorem rdLs_ln {n:Int}{ls:List (List E4)}(hn:n<=1000)(h:∀es∈ls,GL n es)(hl:ls.length<=24):∀(m i:Nat),m=ls.length-i->i<=ls.length->rdLs n (ls.take i) i ((ls.drop i).map lW) = .ok ls
 | 0,i,e,hi=>by
  rw[List.drop_eq_nil_of_le (by omega),List.take_of_length_le (by omega)]
  rfl
 | m+1,i,e,hi=>by
  have hlt:i<ls.length:=by omega
  have ht:ls[i]? = some ls[i]:=List.getElem?_eq_getElem hlt
  rw[List.drop_eq_getElem_cons hlt,List.map_cons,rdLs_ok (rdL_ln hn (by omega) (h _ (List.getElem_mem hlt)))]
  have e2:ls.take i++[ls[i]]=ls.take (i+1):=by rw[List.take_add_one,ht];rfl
  rw[e2]
  exact rdLs_ln hn h hl m (i+1) (by omega) (by omega)
theorem rdAll_ln {ls:List (List E4)}(h:∀es∈ls,GL ls.length es)(h0:ls.length≠0)(hl:ls.length<=24):rdAll (labLs ls) = .ok ls:=by
 unfold rdAll labLs
 rw[List.length_map,if_neg h0]
 exact rdLs_ln (by omega) h hl ls.length 0 (by omega) (Nat.zero_le _)
end K70
namespace K70
open PySem L2 WM
theorem sm_eq {t:Addr}{H H':Hp}(h:∀b,b≠t->H' b=H b):Sm t H H':=fun b o n e=>by rw[h b n];exact e
theorem Sm.laid {t l:Addr}{H:Hp}{o:HO}(h:H l=none):Sm t H (upd H l o):=fun b u _ e=>by rw[upd_ne (ne_of_none e h)];exact e
theorem Sm.chg {t l:Addr}{H H':Hp}{o:HO}(s:Sm t H H')(h:H l=none):Sm t H (upd H' l o):=fun b u n e=>by rw[upd_ne (ne_of_none e h)];exact s b u n e
theorem FeedP.keepF {H H':Hp}{t p:Addr}{N M:Nat}(h:FeedP H t p N)(k1:∀o,H t=some o->H' t=some o)(k2:∀o,H p=some o->H' p=some o)(l:N<=M):FeedP H' t p M:=by
 obtain⟨ns,spot,rest,a,b,c,d,e,f⟩:=h
 exact⟨ns,spot,rest,k1 _ a,k2 _ b,c,d,by omega,f⟩
theorem FeedP.same {H H':Hp}{t p:Addr}{N:Nat}(h:FeedP H t p N)(s:Same H H'):FeedP H' t p N:=h.keepF (fun o e=>s _ _ e) (fun o e=>s _ _ e) (Nat.le_refl _)
theorem FeedP.mono {H:Hp}{t p:Addr}{N M:Nat}(h:FeedP H t p N)(l:N<=M):FeedP H t p M:=h.keepF (fun _ e=>e) (fun _ e=>e) l
theorem FeedP.laid {H:Hp}{t p l:Addr}{N:Nat}{o:HO}(h:FeedP H t p N)(hl:H l=none):FeedP (upd H l o) t p N:=h.same (same_laid hl)
theorem FeedP.upd {H:Hp}{t p l:Addr}{N:Nat}{o:HO}(h:FeedP H t p N)(n1:l≠t)(n2:l≠p):FeedP (upd H l o) t p N:=h.keepF (fun _ e=>by rw[upd_ne n1.symm];exact e) (fun _ e=>by rw[upd_ne n2.symm];exact e) (Nat.le_refl _)
theorem FeedP.ne {H:Hp}{t p b:Addr}{N:Nat}(h:FeedP H t p N)(hb:H b=none):b≠t/\b≠p:=by
 obtain⟨ns,spot,rest,a,q,_⟩:=h
 exact⟨(ne_of_none a hb).symm,(ne_of_none q hb).symm⟩
theorem FeedP.neT {H:Hp}{t p b:Addr}{N:Nat}{ys:List V}(h:FeedP H t p N)(hb:H b=some (.tup ys)):b≠t:=by
 obtain⟨ns,spot,rest,a,q,_⟩:=h
 exact ne_of hb a (by intro z;cases z)
theorem menu_at {L:List Int}{r:Int}(h0:0<=r)(h1:r<L.length):∃n,n∈L/\atI (L.map V.int) r=some (.int n):=by
 obtain⟨j,rfl⟩:=Int.eq_ofNat_of_zero_le h0
 have hj:j<L.length:=by omega
 exact⟨L[j],List.getElem_mem hj,atI_nat (by simp[hj])⟩
open DG
structure LbI (n o:Int)(j:Nat)(es:List E4):Prop where
 g:∀e∈es,GE n e
 lt:∀e∈es,e.1<j
 up:es.Pairwise fun a b=>a.1<b.1
 one:es.Pairwise fun a b=>¬ (a.2.1=0/\b.2.1=0)
 own:own es=decide (o<(j:Int))
 len:es.length<=j
theorem LbI.nil {n o:Int}(h:0<=o):LbI n o 0 []:=⟨by simp,by simp,List.Pairwise.nil,List.Pairwise.nil,(decide_eq_false (by omega)).symm,Nat.le_refl _⟩
theorem LbI.skip {n o:Int}{j:Nat}{es:List E4}(h:LbI n o j es)(hj:(j:Int)≠o):LbI n o (j+1) es:=by
 refine⟨h.g,fun e he=>?_,h.up,h.one,h.own.trans ?_,by have:=h.len;omega⟩
 . have:=h.lt e he
   omega
 . by_cases c:o<(j:Int)
   . rw[decide_eq_true c,decide_eq_true (by omega)]
   . rw[decide_eq_false c,decide_eq_false (by omega)]
theorem own_app (es fs:List E4):own (es++fs)=(own es || own fs):=by unfold own;rw[List.any_append]
theorem LbI.mine {n o:Int}{j:Nat}{es:List E4}(h:LbI n o j es)(hj:(j:Int)=o)(hn:(j:Int)<=n-1):LbI n o (j+1) (es++[((j:Int),0,none)]):=by
 have hf:K70.own es=false:=by rw[h.own];exact decide_eq_false (by omega)
 refine⟨fun e he=>?_,fun e he=>?_,List.pairwise_append.mpr ⟨h.up,List.pairwise_singleton _ _,fun a ha b hb=>?_⟩,List.pairwise_append.mpr ⟨h.one,List.pairwise_singleton _ _,fun a ha b hb=>?_⟩,?_,?_⟩
 . rcases List.mem_append.mp he with q | q
   . exact h.g e q
   . rw[List.mem_singleton.mp q]
     exact⟨by show 0<=(j:Int);omega,hn,.inl ⟨rfl,rfl⟩⟩
 . rcases List.mem_append.mp he with q | q
   . have:=h.lt e q;omega
   . rw[List.mem_singleton.mp q]
     show (j:Int)<((j+1:Nat):Int)
     omega
 . rw[List.mem_singleton.mp hb]
   exact h.lt a ha
 . intro z
   have:K70.own es=true:=by
    unfold K70.own
    exact List.any_eq_true.mpr ⟨a,ha,decide_eq_true z.1⟩
   rw[hf] at this
   cases this
 . rw[own_app,hf,decide_eq_true (by omega)]
   rfl
 . rw[List.length_append]
   have:=h.len
   show es.length+1<=j+1
   omega
theorem LbI.far {n o:Int}{j:Nat}{es:List E4}{l u d:Int}(h:LbI n o j es)(hj:(j:Int)≠o)(hn:(j:Int)<=n-1)(h1:1<=l)(h2:l<=BIG)(hu:0<=u/\u<=n-1)(hd:0<=d/\d<=n-1):LbI n o (j+1) (es++[((j:Int),l,some (u,d))]):=by
 have sk:=h.skip hj
 refine⟨fun e he=>?_,fun e he=>?_,List.pairwise_append.mpr ⟨h.up,List.pairwise_singleton _ _,fun a ha b hb=>?_⟩,List.pairwise_append.mpr ⟨h.one,List.pairwise_singleton _ _,fun a ha b hb=>?_⟩,?_,?_⟩
 . rcases List.mem_append.mp he with q | q
   . exact h.g e q
   . rw[List.mem_singleton.mp q]
     exact⟨by show 0<=(j:Int);omega,hn,.inr ⟨h1,h2,u,d,rfl,hu,hd⟩⟩
 . rcases List.mem_append.mp he with q | q
   . have:=h.lt e q;omega
   . rw[List.mem_singleton.mp q]
     show (j:Int)<((j+1:Nat):Int)
     omega
 . rw[List.mem_singleton.mp hb]
   exact h.lt a ha
 . rw[List.mem_singleton.mp hb]
   intro z
   have z2:l=0:=z.2
   omega
 . rw[own_app,sk.own.symm]
   have:K70.own [((j:Int),l,some (u,d))]=false:=by
    show (decide (l=0) || false)=false
    rw[decide_eq_false (by omega)]
    rfl
   rw[this,Bool.or_false]
 . rw[List.length_append]
   have:=h.len
   show es.length+1<=j+1
   omega
theorem LbI.gl {n o:Int}{j:Nat}{es:List E4}(h:LbI n o j es)(ho:o<(j:Int)):GL n es:=⟨h.g,h.up,h.one,h.own.trans (decide_eq_true ho)⟩
noncomputable def forB:Stmt->List Stmt
 | .For _ _ b _ _=>b
 | _=>[]
noncomputable def ifA:Stmt->List Stmt
 | .If _ a _ _=>a
 | _=>[]
noncomputable def ifB:Stmt->List Stmt
 | .If _ _ b _=>b
 | _=>[]
noncomputable abbrev sPass:Stmt:=.Pass ⟨0,0,0,0⟩
noncomputable abbrev sLong:Stmt:=(ifA ((ifB ((forB ((forB ((defBody sLa).getD 1 sPass)).getD 2 sPass)).getD 0 sPass)).getD 0 sPass)).getD 0 sPass
noncomputable def tLong:TS:=fun D σ H=>∃(t p:Addr)(N:Nat),σ[0]? = some (some (.ref t))/\FeedP H t p N/\N<900000/\∀(l:Int)(H':Hp),1<=l->l<=BIG->FeedP H' t p (N+2)->Sm t H H'->D.nx (σ.set 7 (some (.int l))) H'
theorem scLa:FnScope ["_law_feed_here", "_law_many", "_law_found", "_law_place", "_law_own", "_law_label", "_law_hub", "_law_long"] ["_law_feed_here", "_law_many"] (defScope sLa):=⟨rfl,rfl,rfl,by decide +kernel,rfl,by decide +kernel,by decide +kernel⟩
theorem ps_long {P:Program}{w:World}{K:PySem.W.Frag}{mg:Str->Option Value}{base:Heap}{f fD:Addr}{fdD:FuncData}{cdv:Value}{A:Around}{outer:List Env}{s:Shared}{H:Hp}{E:XK}(FD:Fun K "_law_take" "_law_take" sTake fD fdD) (bD:Binds K fdD ["_law_feed_here", "_law_many"] []) (mD:mg "_law_take" = some (.ref fD)) (GD:FnOk P w K mg base CX0 1 fD fdD ["_law_feed_here", "_law_many"] spTakeP)
 (hr:Room 1 (A.deeper (PyProof.Rows.envOfC (Str.ofString "_law_labels") (defScope sLa) s.heap.objs.size f cdv))):PS (cxOf CX0 P w K mg base ["_law_feed_here", "_law_many", "_law_found", "_law_place", "_law_own", "_law_label", "_law_hub", "_law_long"] "_law_labels" (defScope sLa) f cdv A outer s H E).nox sLong tLong:=by
 refine ps_as (ps_set (i:=7) scLa.nd rfl (Or.inl rfl) (pe_ix ix_list (pe_lst (pa_int (pa_int (pa_int (pa_int (pa_cons (pe_op op_sub (pe_op op_pow pe_int pe_int) pe_int) (pa_cons (pe_op op_add pe_int (pe_call GD hr rfl mD FD.kp bD .nil pass0 (pa_cons (pv 0) (pa_int pa_nil)))) pa_nil))))))) (pe_call GD hr rfl mD FD.kp bD .nil pass0 (pa_cons (pv 0) (pa_int pa_nil))) (fun _ _=>rfl))) ?_
 intro D σ H1 ⟨t,p,N,hσ,T,hN,k⟩
 refine⟨10,12,rfl,rfl,⟨by decide,by decide,by decide⟩,_,_,rfl,rfl,_,hσ,t,p,N,1000,rfl,T,by omega,by decide,by decide,fun r H2 r0 r1 T2 he2=>?_⟩
 refine⟨_,_,rfl,rfl,by show 6<=sizeLine;decide,fun c hc=>?_⟩
 have nc:=(T2.ne hc).1
 refine⟨_,hσ,t,p,N+1,6,rfl,T2.laid hc,by omega,by decide,by decide,fun r3 H3 r30 r31 T3 he3=>?_⟩
 obtain⟨l,hl,hat⟩:=menu_at (L:=[1,2,10,99,10 ^ (12:Int).toNat-1,1+r]) r30 r31
 have hb:1<=l/\l<=BIG:=by
  have e12:(10:Int) ^ (12:Int).toNat-1=999999999999:=by decide
  rw[e12] at hl
  simp only[List.mem_cons,List.not_mem_nil,or_false] at hl
  show 1<=l/\l<=999999999999
  omega
 refine⟨c,_,_,_,rfl,rfl,SqL.of (by rw[he3 c nc];exact upd_same),hat,?_⟩
 exact k l H3 hb.1 hb.2 T3 ((sm_eq he2).trans ((Sm.laid hc).trans (sm_eq he3)))
end K70
namespace K70
open PySem L2 WM
open DG
noncomputable def spLa:Sp:=fun vs H Q _=>∃(t p:Addr)(N m:Nat),vs=[.ref t,.int m]/\FeedP H t p N/\N<700000/\1<=m/\m<=25/\∀(a:Addr)(ls:List (List E4))(H':Hp),LabT H' a ls->ls.length=m->(∀es∈ls,GL m es/\es.length<=25)->FeedP H' t p (N+4000)->Sm t H H'->Q (.ref a) H'
section
variable {P:Program}{w:World}{K:PySem.W.Frag}{mg:Str->Option Value}{base:Heap}
theorem ok_la {f fD:Addr}{fd' fdD:FuncData}(F:Fun K "_law_labels" "_law_labels" sLa f fd') (FD:Fun K "_law_take" "_law_take" sTake fD fdD) (bD:Binds K fdD ["_law_feed_here", "_law_many"] []) (mD:mg "_law_take" = some (.ref fD)) (mLen:mg "len" = none) (mRange:mg "range" = none) (mTuple:mg "tuple" = none):FnOk P w K mg base CX0 2 f fd' ["_law_feed_here", "_law_many"] spLa:=by
 have GD:FnOk P w K mg base CX0 1 fD fdD ["_law_feed_here", "_law_many"] spTakeP:=ok_takeP FD mLen
 refine F.ok scLa (fun vs H Q E h=>?_) (fun cdv A outer s H vs Q E hr h=>?_)
 . obtain⟨t,p,N,m,rfl,_⟩:=h
   rfl
 . obtain⟨t,p,N,m,rfl,T,hN,m1,m25,k⟩:=h
   have h4:100<=sizeLine:=by decide
   refine⟨_,pss_cons (ps_set (i:=2) scLa.nd rfl (Or.inl rfl) (pe_lst pa_nil))
    (pss_cons (ps_for PassesOwn.never rfl (pi_range1 rfl mRange (pa_cons (pv 1) pa_nil)) (pg_name (i:=3) scLa.nd rfl (Or.inl rfl))
     (pss_cons (ps_set (i:=4) scLa.nd rfl (Or.inl rfl) (pe_call GD hr rfl mD FD.kp bD .nil pass0 (pa_cons (pv 0) (pa_cons (pv 1) pa_nil))))
     (pss_cons (ps_set (i:=5) scLa.nd rfl (Or.inl rfl) (pe_lst pa_nil))
     (pss_cons (ps_for PassesOwn.never rfl (pi_range1 rfl mRange (pa_cons (pv 1) pa_nil)) (pg_name (i:=6) scLa.nd rfl (Or.inl rfl))
      (pss_one (ps_if (pt_cmpR op_eq (pv 6) (pv 4) (nomark _))
       (pss_one (ps_expr (pe_bm PySem.F.plainAttrs_list PySem.F.slot_list_append PySem.F.type_list_append mt_append (pv 5) (pa_cons (pe_tup (pa_cons (pv 6) (pa_int (pa_cons pe_non (pa_cons pe_non pa_nil))))) pa_nil))))
       (pss_one (ps_if (PW.pt (pw_and (pt_cmpR op_lt (pv 1) pe_int (nomark _)) (pw_and1 (pt_cmpR op_eq (pe_call GD hr rfl mD FD.kp bD .nil pass0 (pa_cons (pv 0) (pa_int pa_nil))) pe_int (nomark _)))))
        (pss_cons (ps_long FD bD mD GD hr)
        (pss_one (ps_expr (pe_bm PySem.F.plainAttrs_list PySem.F.slot_list_append PySem.F.type_list_append mt_append (pv 5) (pa_cons (pe_tup (pa_cons (pv 6) (pa_cons (pv 7) (pa_cons (pe_call GD hr rfl mD FD.kp bD .nil pass0 (pa_cons (pv 0) (pa_cons (pv 1) pa_nil))) (pa_cons (pe_call GD hr rfl mD FD.kp bD .nil pass0 (pa_cons (pv 0) (pa_cons (pv 1) pa_nil))) pa_nil))))) pa_nil))))) pss_nil)))))
     (pss_one (ps_expr (pe_bm PySem.F.plainAttrs_list PySem.F.slot_list_append PySem.F.type_list_append mt_append (pv 2) (pa_cons (pe_callTy call_tuple_of (by rfl) mTuple (by decide +kernel) (pa_cons (pv 5) pa_nil)) pa_nil))))))))
    (pss_one (ps_ret (pe_callTy call_tuple_of (by rfl) mTuple (by decide +kernel) (pa_cons (pv 2) pa_nil))))),?_⟩
   refine⟨Nat.zero_le _,fun R hR=>?_⟩
   have nR:=T.ne hR
   refine⟨_,rfl,(m:Int),rfl,by omega,by omega,?_⟩
   rw[Int.toNat_natCast]
   refine for_range (lo:=0) (n:=m) (fun i σ H4=>i<=m/\∃(v3 v4 v5 v6 v7:Option V)(ys:List V)(ls:List (List E4)),σ=[some (.ref t),some (.int m),some (.ref R),v3,v4,v5,v6,v7]/\Sm t H H4/\FeedP H4 t p (N+130*i)/\H4 R=some (.lst ys)/\LT H4 ys ls/\ls.length=i/\∀es∈ls,GL m es/\es.length<=25)
    ⟨Nat.zero_le _,_,_,_,_,_,[],[],rfl,Sm.laid hR,T.laid hR,upd_same,LT.nil,rfl,by simp⟩ (fun i σ H4 hi y=>?_) (fun σ H4 y=>?_)
   . obtain⟨_,v3,v4,v5,v6,v7,ys,ls,rfl,s4,T4,hR4,lt,hll,hg⟩:=y
     rw[Int.zero_add]
     refine⟨_,rfl,_,rfl,t,p,_,(m:Int),rfl,T4,by omega,by omega,by omega,fun o H5 o0 o1 T5 he5=>?_⟩
     have s5:Sm t H4 H5:=sm_eq he5
     have hR5:=s5 _ _ nR.1 hR4
     have lt5:LT H5 ys ls:=lt.keepT fun b q e=>s5 _ _ (T4.neT e) e
     refine⟨Nat.zero_le _,fun B hB=>?_⟩
     have nB:=T5.ne hB
     have hRB:R≠B:=ne_of_none hR5 hB
     refine⟨_,rfl,(m:Int),rfl,by omega,by omega,?_⟩
     rw[Int.toNat_natCast]
     refine for_range (lo:=0) (n:=m) (fun j σ H6=>j<=m/\∃(v6 v7:Option V)(xs:List V)(es:List E4),σ=[some (.ref t),some (.int m),some (.ref R),some (.int i),some (.int o),some (.ref B),v6,v7]/\Sm t H5 H6/\FeedP H6 t p (N+130*i+1+5*j)/\H6 B=some (.lst xs)/\EsAt H6 xs es/\LbI m o j es)
      ⟨Nat.zero_le _,_,_,[],[],rfl,Sm.laid hB,T5.laid hB,upd_same,EsAt.nil,LbI.nil o0⟩ (fun j σ H6 hj y=>?_) (fun σ H6 y=>?_)
     . obtain⟨_,v6,v7,xs,es,rfl,s6,T6,hB6,ea,I⟩:=y
       rw[Int.zero_add]
       have hxl:=ea.1
       have hel:=I.len
       refine⟨_,rfl,_,rfl,rfl,_,rfl,?_⟩
       rw[bl_int]
       by_cases co:(j:Int)=o
       . refine ifT (decide_eq_true co) ?_
         refine⟨_,rfl,.inl ⟨rfl,_,SqL.of hB6⟩,_,rfl,by show 4<=sizeLine;omega,fun q hq=>?_⟩
         have a7:=same_laid (o:=.tup [.int (j:Int),.int 0,.non,.non]) hq
         have hB7:=a7 _ _ hB6
         refine⟨B,xs,.ref q,rfl,rfl,hB7,by omega,?_⟩
         have kp:∀b z,(upd H6 q (.tup [.int (j:Int),.int 0,.non,.non])) b=some (.tup z)->(upd (upd H6 q (.tup [.int (j:Int),.int 0,.non,.non])) B (.lst (xs++[.ref q]))) b=some (.tup z):=fun b z e=>by
          rw[upd_ne (ne_of e hB7 (by intro z;cases z))];exact e
         exact⟨hj,_,_,xs++[.ref q],es++[((j:Int),0,none)],rfl,(s6.trans (Sm.of a7)).chg hB,((T6.same a7).upd nB.1 nB.2).mono (by omega),upd_same,((ea.keep a7).keepT kp).snoc (kp _ _ upd_same),I.mine co (by omega)⟩
       refine ifF (decide_eq_false co) ?_
       refine⟨_,rfl,_,_,rfl,rfl,_,rfl,?_⟩
       by_cases c8:(m:Int)<8
       case neg=>
        refine ifF (decide_eq_false c8) (ifF rfl ?_)
        exact⟨hj,_,_,xs,es,rfl,s6,T6.mono (by omega),hB6,ea,I.skip co⟩
       refine ifT (decide_eq_true c8) ?_
       refine⟨_,rfl,t,p,_,2,rfl,T6,by omega,by decide,by decide,fun r7 H7 _ _ T7 he7=>⟨rfl,_,rfl,ite2 (fun _=>?_) (fun _=>?_)⟩⟩
       case _=>
        have s7:Sm t H6 H7:=sm_eq he7
        have hB7:=s7 _ _ nB.1 hB6
        have ea7:EsAt H7 xs es:=ea.keepT fun b q e=>s7 _ _ (T6.neT e) e
        refine⟨t,p,_,rfl,T7,by omega,fun l H8 l1 l2 T8 s8=>?_⟩
        have hB8:=s8 _ _ nB.1 hB7
        refine⟨_,rfl,.inl ⟨rfl,_,SqL.of hB8⟩,_,rfl,_,rfl,_,rfl,_,rfl,t,p,_,(m:Int),rfl,T8,by omega,by omega,by omega,fun u H9 u0 u1 T9 he9=>?_⟩
        refine⟨_,rfl,_,rfl,t,p,_,(m:Int),rfl,T9,by omega,by omega,by omega,fun d H10 d0 d1 T10 he10=>?_⟩
        have s10:Sm t H7 H10:=s8.trans ((sm_eq he9).trans (sm_eq he10))
        refine⟨by show 4<=sizeLine;omega,fun q hq=>?_⟩
        have a11:=same_laid (o:=.tup [.int (j:Int),.int l,.int u,.int d]) hq
        have hB11:=a11 _ _ (s10 _ _ nB.1 hB7)
        have ea11:=(ea7.keepT fun b z e=>s10 _ _ (T7.neT e) e).keep a11
        refine⟨B,xs,.ref q,rfl,rfl,hB11,by omega,?_⟩
        have kp:∀b z,(upd H10 q (.tup [.int (j:Int),.int l,.int u,.int d])) b=some (.tup z)->(upd (upd H10 q (.tup [.int (j:Int),.int l,.int u,.int d])) B (.lst (xs++[.ref q]))) b=some (.tup z):=fun b z e=>by
         rw[upd_ne (ne_of e hB11 (by intro z;cases z))];exact e
        exact⟨hj,_,_,xs++[.ref q],es++[((j:Int),l,some (u,d))],rfl,((s6.trans (s7.trans s10)).trans (Sm.of a11)).chg hB,((T10.same a11).upd nB.1 nB.2).mono (by omega),upd_same,(ea11.keepT kp).snoc (kp _ _ upd_same),I.far co (by omega) l1 l2 ⟨u0,by omega⟩ ⟨d0,by omega⟩⟩
       case _=>
        have s7:Sm t H6 H7:=sm_eq he7
        exact⟨hj,_,_,xs,es,rfl,s6.trans s7,T7.mono (by omega),s7 _ _ nB.1 hB6,ea.keepT fun b q e=>s7 _ _ (T6.neT e) e,I.skip co⟩
     . obtain⟨_,v6,v7,xs,es,rfl,s6,T6,hB6,ea,I⟩:=y
       have hel:=I.len
       have hxl:=ea.1
       have hR6:=s6 _ _ nR.1 hR5
       refine⟨_,rfl,.inl ⟨rfl,_,SqL.of hR6⟩,_,rfl,B,xs,rfl,.inl ⟨SqL.of hB6,fun ta hta=>?_⟩⟩
       have a7:=same_laid (o:=.tup xs) hta
       have hR7:=a7 _ _ hR6
       have hyl:=lt.1
       refine⟨R,ys,.ref ta,rfl,rfl,hR7,by omega,?_⟩
       have kp:∀b z,(upd H6 ta (.tup xs)) b=some (.tup z)->(upd (upd H6 ta (.tup xs)) R (.lst (ys++[.ref ta]))) b=some (.tup z):=fun b z e=>by
        rw[upd_ne (ne_of e hR7 (by intro z;cases z))];exact e
       refine⟨hi,_,_,_,_,_,ys++[.ref ta],ls++[es],rfl,((s4.trans (s5.trans s6)).trans (Sm.of a7)).chg hR,((T6.same a7).upd nR.1 nR.2).mono (by omega),upd_same,?_,by rw[List.length_append,hll];rfl,fun fs hf=>?_⟩
       . exact ((lt5.keepT fun b q e=>a7 _ _ (s6 _ _ (T5.neT e) e)).keepT kp).snoc (kp _ _ upd_same) ((ea.keep a7).keepT kp)
       . rcases List.mem_append.mp hf with q | q
         . exact hg fs q
         . rw[List.mem_singleton.mp q]
           exact⟨I.gl o1,by omega⟩
   . obtain⟨_,v3,v4,v5,v6,v7,ys,ls,rfl,s4,T4,hR4,lt,hll,hg⟩:=y
     refine⟨_,rfl,R,ys,rfl,.inl ⟨SqL.of hR4,fun ta hta=>?_⟩⟩
     have a5:=same_laid (o:=.tup ys) hta
     exact k ta ls _ ⟨ys,upd_same,lt.keepT fun b q e=>a5 _ _ e⟩ hll hg ((T4.same a5).mono (by omega)) (s4.trans (Sm.of a5))
end
end K70
namespace K70
open PySem L2 WM
open DG
theorem tot_sub {xs ys:List Str}(h:xs.Sublist ys):tot xs<=tot ys:=by
 induction h with
 | slnil=>exact Nat.le_refl _
 | cons a _ ih=>rw[tot_cons];omega
 | cons_cons a _ ih=>rw[tot_cons,tot_cons];omega
theorem tot_len:∀ws:List Str,ws.length<=tot ws
 | []=>Nat.le_refl _
 | w::ws=>by
  have:=tot_len ws
  rw[tot_cons,List.length_cons]
  omega
theorem tot_mem {w:Str}:∀{ws:List Str},w∈ws->w.length+1<=tot ws
 | x::ws,h=>by
  rw[tot_cons]
  rcases List.mem_cons.mp h with rfl | h
  . omega
  . have:=tot_mem h
    omega
theorem tot_rev (ws:List Str):tot ws.reverse=tot ws:=by unfold tot;rw[List.map_reverse,List.sum_reverse]
theorem join_len {c:Str}(hc:c.length=1):∀{ws:List Str},ws≠[]->(Str.join c ws).length+1=tot ws
 | [],h=>absurd rfl h
 | [w],_=>by rw[tot_cons];rfl
 | w::x::ws,_=>by
  have ih:=join_len hc (ws:=x::ws) (by simp)
  have e:Str.join c (w::x::ws)=w++c++Str.join c (x::ws):=rfl
  rw[e,tot_cons,len_app,len_app,hc]
  omega
theorem wds_tot (z:Str):tot (wds z)=z.length+1:=by
 rw[<-join_len (c:=sp1) (by decide) (wds_ne z)]
 have e:Str.join sp1 (wds z)=z:=StrLaws.join_split z (Str.ofString " ")
 rw[e]
theorem cls_ne (z:Str):cls z≠[]:=fun e=>by
 have:=(PyProof.Rows.fact_split z (Str.ofString ":")).1
 rw[show Txt.split z (Str.ofString ":")=[] from e] at this
 exact absurd this (by decide)
theorem cls_tot (z:Str):tot (cls z)=z.length+1:=by
 rw[<-join_len (c:=col) (by decide) (cls_ne z)]
 have e:Str.join col (cls z)=z:=StrLaws.join_split z (Str.ofString ":")
 rw[e]
theorem cut_str (zs:List Str)(lo hi:Option Int):∃us:List Str,cutV (zs.map V.str) lo hi=us.map V.str/\us.Sublist zs:=by
 refine⟨(zs.drop (HT.sIx (zs.map V.str).length 0 lo)).take (HT.sIx (zs.map V.str).length (zs.map V.str).length hi-HT.sIx (zs.map V.str).length 0 lo),?_,(List.take_sublist _ _).trans (List.drop_sublist _ _)⟩
 unfold cutV
 rw[List.map_take,List.map_drop]
noncomputable def LS (H:Hp)(k:Nat)(v:V):Prop:=∃(a:Addr)(zs:List Str),v = .ref a/\H a=some (.lst (zs.map V.str))/\tot zs<=k
theorem LS.keep {H H':Hp}{k:Nat}{v:V}(h:LS H k v)(s:Same H H'):LS H' k v:=by
 obtain⟨a,zs,e,ha,ht⟩:=h
 exact⟨a,zs,e,s _ _ ha,ht⟩
theorem LS.mono {H:Hp}{k m:Nat}{v:V}(h:LS H k v)(l:k<=m):LS H m v:=by
 obtain⟨a,zs,e,ha,ht⟩:=h
 exact⟨a,zs,e,ha,Nat.le_trans ht l⟩
theorem FeedP.neS {H:Hp}{t p a:Addr}{N:Nat}{zs:List Str}(h:FeedP H t p N)(ha:H a=some (.lst (zs.map V.str))):a≠t:=by
 obtain⟨ns,spot,rest,ht,_⟩:=h
 refine fun e=>?_
 rw[e,ht] at ha
 cases zs with
 | nil=>cases ha
 | cons z zs=>cases ha
theorem LS.sm {H H':Hp}{k N:Nat}{v:V}{t p:Addr}(h:LS H k v)(T:FeedP H t p N)(s:Sm t H H'):LS H' k v:=by
 obtain⟨a,zs,e,ha,ht⟩:=h
 exact⟨a,zs,e,s _ _ (T.neS ha) ha,ht⟩
section
variable {X:Cx}
theorem sl_LS:SlR X (fun x _ _ H Q=>∃k,LS H k x/\∀v H',Same H H'->LS H' k v->Q v H'):=by
 intro pins s σ H x v vl vu lo hi sl Q I rx hs pl pu h
 obtain⟨k,⟨a,zs,e,ha,ht⟩,q⟩:=h
 subst e
 refine sl_list pins s σ H _ v vl vu lo hi sl Q I rx hs pl pu ⟨a,_,rfl,SqL.of ha,fun p hp=>q _ _ (same_laid hp) ?_⟩
 obtain⟨us,e,sb⟩:=cut_str zs lo hi
 exact⟨p,us,rfl,by rw[<-e];exact upd_same,Nat.le_trans (tot_sub sb) ht⟩
theorem op_catLS:OpR X (binaryOp .Add) (fun x y H Q=>∃k m,LS H k x/\LS H m y/\k+m<=1000000/\∀v H',Same H H'->LS H' (k+m) v->Q v H'):=by
 intro pins s σ H x y v u Q I rx ry h
 obtain⟨k,m,⟨a,zs,e,ha,ht⟩,⟨b,ys,e2,hb,hy⟩,hk,q⟩:=h
 subst e e2
 have l1:=tot_len zs
 have l2:=tot_len ys
 have hsl:1000000<=sizeLine:=by decide
 refine op_cat pins s σ H _ _ v u Q I rx ry ⟨a,b,_,_,rfl,rfl,ha,hb,by rw[List.length_map,List.length_map];omega,fun p hp=>q _ _ (same_laid hp) ⟨p,zs++ys,rfl,?_,by rw[tot_app];omega⟩⟩
 rw[List.map_append]
 exact upd_same
end
inductive LitT:List Expr->Prop where
 | nil:LitT []
 | str {z:Str}{j:Nat}{pos:Pos}{es:List Expr}:z.length<=50->LitT es->LitT (.Constant (.str z) j pos::es)
 | mul {z:Str}{n:Int}{j j2:Nat}{pos p2 p3:Pos}{es:List Expr}:z.length<=1->0<=n->n<=50->LitT es->LitT (.BinOp (.Constant (.str z) j pos) .Mult (.Constant (.int n) j2 p2) p3::es)
 | cat {y z:Str}{n:Int}{j j2 j3:Nat}{pos p2 p3 p4 p5:Pos}{es:List Expr}:y.length<=1->z.length<=1->0<=n->n<=40->LitT es->LitT (.BinOp (.Constant (.str y) j3 p4) .Add (.BinOp (.Constant (.str z) j pos) .Mult (.Constant (.int n) j2 p2) p3) p5::es)
noncomputable def Tx50 (v:V):Prop:=∃z:Str,v = .str z/\z.length<=50
noncomputable def tLitT (m:Nat):TA:=fun _ H Q=>∀vs:List V,vs.length=m->(∀v∈vs,Tx50 v)->Q vs H
theorem pa_litT {X:Cx}{es:List Expr}(h:LitT es):PA X es (tLitT es.length):=by
 have key:∀{v:V}{vs:List V},Tx50 v->(∀x∈vs,Tx50 x)->∀x∈v::vs,Tx50 x:=fun a b x hx=>by
  rcases List.mem_cons.mp hx with rfl | hx
  . exact a
  . exact b x hx
 induction h with
 | nil=>exact fun pos pins s σ H Q I q=>pa_nil pos pins s σ H Q I (q [] rfl (fun v hv=>by cases hv))
 | @str z j pos es hz _ ih=>
  intro pos pins s σ H Q I q
  refine (pa_cons pe_str ih) pos pins s σ H Q I ?_
  exact fun vs hl al=>q _ (by rw[List.length_cons,hl];rfl) (key ⟨_,rfl,hz⟩ al)
 | @mul z n j j2 pos p2 p3 es hz h0 hn _ ih=>
  intro pos pins s σ H Q I q
  refine (pa_cons (pe_op op_mulS pe_str pe_int) ih) pos pins s σ H Q I ?_
  refine⟨_,_,rfl,rfl,PyProof.Rows.mulOk_of 1 50 hz hn (by omega) (by decide) (by decide),fun vs hl al=>q _ (by rw[List.length_cons,hl];rfl) (key ⟨_,rfl,PyProof.Rows.len_mul_leN (L:=1) (N:=50) hz hn⟩ al)⟩
 | @cat y z n j j2 j3 pos p2 p3 p4 p5 es hy hz h0 hn _ ih=>
  intro pos pins s σ H Q I q
  have hsl:100<=sizeLine:=by decide
  have hl2:=PyProof.Rows.len_mul_leN (L:=1) (N:=40) hz hn
  have hl:(y++Txt.mul z n).length<=50:=by rw[len_app];omega
  refine (pa_cons (pe_op op_catS pe_str (pe_op op_mulS pe_str pe_int)) ih) pos pins s σ H Q I ?_
  refine⟨_,_,rfl,rfl,PyProof.Rows.mulOk_of 1 40 hz hn (by omega) (by decide) (by decide),_,_,rfl,rfl,by omega,fun vs hl' al=>q _ (by rw[List.length_cons,hl'];rfl) (key ⟨_,rfl,hl⟩ al)⟩
theorem at_some {xs:List V}{r:Int}(h0:0<=r)(h1:r<xs.length):∃v∈xs,atI xs r=some v:=by
 obtain⟨j,rfl⟩:=Int.eq_ofNat_of_zero_le h0
 have hj:j<xs.length:=by omega
 exact⟨xs[j],List.getElem_mem hj,atI_nat (by simp[hj])⟩
noncomputable def spBd:Sp:=fun vs H Q _=>∃(t p:Addr)(N k:Nat)(z:Str),vs=[.ref t,.str z]/\FeedP H t p N/\N<900000/\z.length+1<=k/\k<=100000/\∀(z':Str)(H':Hp),z'.length<=3*k+60->FeedP H' t p (N+3)->Sm t H H'->Q (.str z') H'
theorem ls_join {H:Hp}{k:Nat}{v:V}{c:Str}(hc:c.length=1)(h:LS H k v)(hk:k<=1000000):∃(a:Addr)(ys:List Str),v = .ref a/\H a=some (.lst (ys.map V.str))/\(ys.map fun y=>y.length).sum+ys.length<=1048576/\(Txt.join c ys).length<=k:=by
 obtain⟨a,ys,e,ha,ht⟩:=h
 exact⟨a,ys,e,ha,by rw[tot_sum];omega,Nat.le_trans (join_le hc ys) ht⟩
section
variable {P:Program}{w:World}{K:PySem.W.Frag}{mg:Str->Option Value}{base:Heap}
theorem scBd:FnScope ["_law_feed_here", "_law_word", "_law_parts", "_law_at", "_law_odd", "_law_way"] ["_law_feed_here", "_law_word"] (defScope sBd):=⟨rfl,rfl,rfl,by decide +kernel,rfl,by decide +kernel,by decide +kernel⟩
theorem ok_bd {f fD:Addr}{fd' fdD:FuncData}(F:Fun K "_law_bent_word" "_law_bent_word" sBd f fd') (FD:Fun K "_law_take" "_law_take" sTake fD fdD) (bD:Binds K fdD ["_law_feed_here", "_law_many"] []) (mD:mg "_law_take" = some (.ref fD)) (mLen:mg "len" = none):FnOk P w K mg base CX0 2 f fd' ["_law_feed_here", "_law_word"] spBd:=by
 have GD:FnOk P w K mg base CX0 1 fD fdD ["_law_feed_here", "_law_many"] spTakeP:=ok_takeP FD mLen
 refine F.ok scBd (fun vs H Q E h=>?_) (fun cdv A outer s H vs Q E hr h=>?_)
 . obtain⟨t,p,N,k,z,rfl,_⟩:=h
   rfl
 . obtain⟨t,p,N,k,z,rfl,T,hN,hk,hk2,q⟩:=h
   obtain⟨es,q0,p1,p2,hbd,hes,hel⟩:∃es q0 p1 p2,defBody sBd=(defBody sBd).getD 0 (.Pass ⟨0,0,0,0⟩)::(defBody sBd).getD 1 (.Pass ⟨0,0,0,0⟩) :: .Assign [.Name "_law_odd" q0] (.List es p1) p2::(defBody sBd).drop 3/\LitT es/\es.length=15:=⟨_,_,_,_,rfl,(.str (by decide) (.str (by decide) (.str (by decide) (.str (by decide) (.str (by decide) (.str (by decide) (.str (by decide) (.str (by decide) (.str (by decide) (.mul (by decide) (by decide) (by decide) (.cat (by decide) (by decide) (by decide) (by decide) (.str (by decide) (.str (by decide) (.str (by decide) (.str (by decide) .nil))))))))))))))),rfl⟩
   rw[hbd]
   refine⟨_,pss_cons (ps_set (i:=2) scBd.nd rfl (Or.inl rfl) (pe_bm PySem.F.plainAttrs_str PySem.F.slot_str_split PySem.F.type_str_split mt_split (pv 1) (pa_cons pe_str pa_nil)))
    (pss_cons (ps_set (i:=3) scBd.nd rfl (Or.inl rfl) (pe_call GD hr rfl mD FD.kp bD .nil pass0 (pa_cons (pv 0) (pa_cons (pe_callB call_len_seq (by rfl) mLen PySem.boot_len (pa_cons (pv 2) pa_nil)) pa_nil))))
    (pss_cons (ps_set (i:=4) scBd.nd rfl (Or.inl rfl) (pe_lst (pa_litT hes)))
    (pss_cons (ps_set (i:=5) scBd.nd rfl (Or.inl rfl) (pe_call GD hr rfl mD FD.kp bD .nil pass0 (pa_cons (pv 0) (pa_int pa_nil))))
    (pss_cons (ps_if (pt_cmpR op_eq (pv 5) pe_int (nomark _)) (pss_one (ps_ret (pe_bm PySem.F.plainAttrs_str PySem.F.slot_str_join PySem.F.type_str_join mt_join pe_str (pa_cons (pe_op op_catLS (pe_slice sl_LS (pv 2) po_none (po_some (pv 3))) (pe_slice sl_LS (pv 2) (po_some (pe_op op_add (pv 3) pe_int)) po_none)) pa_nil)))) pss_nil)
    (pss_cons (ps_if (pt_cmpR op_eq (pv 5) pe_int (nomark _)) (pss_one (ps_ret (pe_bm PySem.F.plainAttrs_str PySem.F.slot_str_join PySem.F.type_str_join mt_join pe_str (pa_cons (pe_op op_catLS (pe_op op_catLS (pe_slice sl_LS (pv 2) po_none (po_some (pv 3))) (pe_slice sl_LS (pv 2) (po_some (pv 3)) (po_some (pe_op op_add (pv 3) pe_int)))) (pe_slice sl_LS (pv 2) (po_some (pv 3)) po_none)) pa_nil)))) pss_nil)
    (pss_one (ps_ret (pe_bm PySem.F.plainAttrs_str PySem.F.slot_str_join PySem.F.type_str_join mt_join pe_str (pa_cons (pe_op op_catLS (pe_op op_catLS (pe_slice sl_LS (pv 2) po_none (po_some (pv 3))) (pe_lst (pa_cons (pe_ix ix_list (pv 4) (pe_call GD hr rfl mD FD.kp bD .nil pass0 (pa_cons (pv 0) (pa_cons (pe_callB call_len_seq (by rfl) mLen PySem.boot_len (pa_cons (pv 4) pa_nil)) pa_nil))) (fun _ _=>rfl)) pa_nil))) (pe_slice sl_LS (pv 2) (po_some (pe_op op_add (pv 3) pe_int)) po_none)) pa_nil))))))))),?_⟩
   refine⟨_,rfl,rfl,z,_,rfl,rfl,rfl,by omega,fun lp hlp=>?_⟩
   have a1:=same_laid (o:=.lst ((cls z).map V.str)) hlp
   have T1:=T.same a1
   have hp1:(upd H lp (.lst ((cls z).map V.str))) lp=some (.lst ((cls z).map V.str)):=upd_same
   generalize upd H lp (.lst ((cls z).map V.str))=H1 at a1 T1 hp1 ⊢
   have wl:=tot_len (cls z)
   have ct:=cls_tot z
   have w0:0<(cls z).length:=List.length_pos_iff.mpr (cls_ne z)
   have npt:=T1.neS hp1
   refine⟨_,rfl,_,rfl,lp,_,rfl,.inl (SqL.of hp1),t,p,N,_,rfl,T1,by omega,by rw[List.length_map];omega,by rw[List.length_map];omega,fun r H2 r0 r1 T2 he2=>?_⟩
   have s2:Sm t H H2:=(Sm.of a1).trans (sm_eq he2)
   refine fun vs hvl al=>⟨by rw[hvl,hel];decide,fun D hD=>?_⟩
   rw[hel] at hvl
   have nD:=T2.ne hD
   refine⟨_,rfl,t,p,N+1,6,rfl,T2.laid hD,by omega,by decide,by decide,fun r4 H4 r40 r41 T4 he4=>?_⟩
   have s4:Sm t H H4:=s2.trans ((Sm.laid hD).trans (sm_eq he4))
   have L4:LS H4 k (.ref lp):=⟨lp,cls z,rfl,by rw[he4 _ npt,upd_ne (ne_of_none (by rw[he2 _ npt];exact hp1) hD),he2 _ npt];exact hp1,by omega⟩
   have hD4:H4 D=some (.lst vs):=by rw[he4 _ nD.1];exact upd_same
   refine⟨_,rfl,rfl,_,rfl,ite2 (fun _=>?_) (fun _=>?_)⟩
   . refine⟨rfl,_,rfl,_,rfl,r,rfl,k,L4,fun v1 H5 s5 L5=>?_⟩
     refine⟨_,rfl,_,rfl,_,_,rfl,rfl,_,rfl,k,L4.keep s5,fun v2 H6 s6 L6=>?_⟩
     refine⟨k,k,L5.keep s6,L6,by omega,fun v3 H7 s7 L7=>?_⟩
     have s47:=s5.trans (s6.trans s7)
     obtain⟨a,ys,rfl,ha,hs,hj⟩:=ls_join (c:=col) (by decide) L7 (by omega)
     exact⟨_,a,ys,rfl,rfl,SqL.of ha,by decide,hs,q _ _ (by show (Txt.join col ys).length<=_;omega) ((T4.same s47).mono (by omega)) (s4.trans (Sm.of s47))⟩
   refine⟨_,rfl,rfl,_,rfl,ite2 (fun _=>?_) (fun _=>?_)⟩
   . refine⟨rfl,_,rfl,_,rfl,r,rfl,k,L4,fun v1 H5 s5 L5=>?_⟩
     refine⟨_,rfl,_,rfl,r,rfl,_,rfl,_,_,rfl,rfl,_,rfl,k,L4.keep s5,fun v2 H6 s6 L6=>?_⟩
     refine⟨k,k,L5.keep s6,L6,by omega,fun v3 H7 s7 L7=>?_⟩
     refine⟨_,rfl,_,rfl,r,rfl,k,L4.keep (s5.trans (s6.trans s7)),fun v4 H8 s8 L8=>?_⟩
     refine⟨k+k,k,L7.keep s8,L8,by omega,fun v5 H9 s9 L9=>?_⟩
     have s49:=s5.trans (s6.trans (s7.trans (s8.trans s9)))
     obtain⟨a,ys,rfl,ha,hs,hj⟩:=ls_join (c:=col) (by decide) L9 (by omega)
     exact⟨_,a,ys,rfl,rfl,SqL.of ha,by decide,hs,q _ _ (by show (Txt.join col ys).length<=_;omega) ((T4.same s49).mono (by omega)) (s4.trans (Sm.of s49))⟩
   . refine⟨rfl,_,rfl,_,rfl,r,rfl,k,L4,fun v1 H5 s5 L5=>?_⟩
     have hD5:=s5 _ _ hD4
     have T5:=T4.same s5
     refine⟨_,rfl,_,rfl,_,rfl,D,_,rfl,.inl (SqL.of hD5),t,p,N+1+1,_,rfl,T5,by omega,by rw[hvl];decide,by rw[hvl];decide,fun r6 H6 r60 r61 T6 he6=>?_⟩
     have s6:Sm t H5 H6:=sm_eq he6
     obtain⟨x,hx,hxa⟩:=at_some r60 r61
     obtain⟨y,rfl,hy⟩:=al x hx
     refine⟨D,_,_,_,rfl,rfl,SqL.of (s6 _ _ nD.1 hD5),hxa,by show 1<=sizeLine;decide,fun c hc=>?_⟩
     have s7:=same_laid (o:=.lst [.str y]) hc
     refine⟨k,51,(L5.sm T5 s6).keep s7,⟨c,[y],rfl,upd_same,by rw[tot_cons];show y.length+1+0<=51;omega⟩,by omega,fun v3 H8 s8 L8=>?_⟩
     have s48:Sm t H4 H8:=(Sm.of s5).trans (s6.trans (Sm.of (s7.trans s8)))
     refine⟨_,rfl,_,rfl,_,_,rfl,rfl,_,rfl,k,L4.sm T4 s48,fun v4 H9 s9 L9=>?_⟩
     refine⟨k+51,k,L8.keep s9,L9,by omega,fun v5 H10 s10 L10=>?_⟩
     obtain⟨a,ys,rfl,ha,hs,hj⟩:=ls_join (c:=col) (by decide) L10 (by omega)
     exact⟨_,a,ys,rfl,rfl,SqL.of ha,by decide,hs,q _ _ (by show (Txt.join col ys).length<=_;omega) (T6.same (s7.trans (s8.trans (s9.trans s10)))) (s4.trans (s48.trans (Sm.of (s9.trans s10))))⟩
end
end K70
namespace K70
open PySem L2 WM
open DG
noncomputable def spWm:Sp:=fun vs H Q _=>∃(t p l:Addr)(N k:Nat)(ws:List Str),vs=[.ref t,.ref l]/\FeedP H t p N/\N<900000/\H l=some (.lst (ws.map V.str))/\tot ws<=k/\k<=100000/\∀(v:V)(H':Hp),LS H' (2*k+60) v->FeedP H' t p (N+1)->Sm t H H'->Q v H'
section
variable {X:Cx}{pl:List (Addr×Obj)}{N':List Str}{sc:Scope}{fp:List Addr}{s3:Shared}{H3:Hp}
theorem op_inLSC:OpR (cxComp X pl N' sc fp s3 H3) (compareOp .In) (rInLS X.K):=op_inLS
end
theorem strs_snoc {ys:List Str}{z:Str}:ys.map V.str++[V.str z]=(ys++[z]).map V.str:=by rw[List.map_append];rfl
section
variable {P:Program}{w:World}{K:PySem.W.Frag}{mg:Str->Option Value}{base:Heap}
theorem scWm:FnScope ["_law_feed_here", "_law_words", "_law_hub", "_law_firsts", "_law_at"] ["_law_feed_here", "_law_words"] (defScope sWm):=⟨rfl,rfl,rfl,by decide +kernel,rfl,by decide +kernel,by decide +kernel⟩
theorem ok_wm {f fD:Addr}{fd' fdD:FuncData}(F:Fun K "_law_word_more" "_law_word_more" sWm f fd') (FD:Fun K "_law_take" "_law_take" sTake fD fdD) (bD:Binds K fdD ["_law_feed_here", "_law_many"] []) (mD:mg "_law_take" = some (.ref fD)) (mLen:mg "len" = none) (mRange:mg "range" = none) (mStr:mg "str" = none):FnOk P w K mg base CX0 2 f fd' ["_law_feed_here", "_law_words"] spWm:=by
 have GD:FnOk P w K mg base CX0 1 fD fdD ["_law_feed_here", "_law_many"] spTakeP:=ok_takeP FD mLen
 refine F.ok scWm (fun vs H Q E h=>?_) (fun cdv A outer s H vs Q E hr h=>?_)
 . obtain⟨t,p,l,N,k,ws,rfl,_⟩:=h
   rfl
 . obtain⟨t,p,l,N,k,ws,rfl,T,hN,hl,hk,hk2,q⟩:=h
   have hsl:200000<=sizeLine:=by decide
   have nlt:=T.neS hl
   have wl:=tot_len ws
   refine⟨_,pss_cons (ps_set (i:=2) scWm.nd rfl (Or.inr rfl) (pe_call GD hr rfl mD FD.kp bD .nil pass0 (pa_cons (pv 0) (pa_int pa_nil))))
    (pss_cons (ps_setC (i:=3) (own:=["_law_word"]) (cn:=[]) (ci:=[]) scWm.nd rfl (Or.inl rfl) rfl (csc rfl rfl) trivial rfl (pi_list (pe_slice sl_LS (pv 1) (po_some pe_int) po_none)) (fun _ _ _ _=>pg_name (i:=0) (nd_of rfl) rfl (Or.inl rfl)) (fun _ _ _ _=>pts_nil)
     (fun _ _ _ _=>pe_ix ix_listC (pe_bmC PySem.F.plainAttrs_str PySem.F.slot_str_split PySem.F.type_str_split mt_split (pv 0) (pa_cons pe_str pa_nil)) pe_int (fun _ _=>rfl)))
    (pss_cons (ps_set (i:=4) scWm.nd rfl (Or.inl rfl) (pe_callB call_len_seq (by rfl) mLen PySem.boot_len (pa_cons (pe_comp (own:=["_law_first"]) (cn:=["_law_hub"]) (ci:=[2]) rfl (csc rfl rfl) ⟨rfl,rfl,rfl,trivial⟩ rfl (pi_list (pv 3)) (fun _ _ _ _=>pg_name (i:=0) (nd_of rfl) rfl (Or.inl rfl))
     (fun _ _ _ _=>pts_one (pt_cmpR op_inLSC (pv 0) (pe_comp (own:=["_law_one"]) (cn:=[]) (ci:=[]) rfl (csc rfl rfl) trivial rfl (pi_range1 rfl mRange (pa_cons (pv 1) pa_nil)) (fun _ _ _ _=>pg_name (i:=0) (nd_of rfl) rfl (Or.inl rfl)) (fun _ _ _ _=>pts_nil)
      (fun _ _ _ _=>pe_callTy call_strI (by rfl) mStr (by decide +kernel) (pa_cons (pv 0) pa_nil))) (by with_unfolding_all rfl)))
     (fun _ _ _ _=>pv 0)) pa_nil)))
    (pss_one (ps_ret (pe_op op_catLS (pe_op op_catLS (pe_slice sl_LS (pv 1) po_none (po_some (pe_op op_add pe_int (pv 4)))) (pe_lst (pa_cons (pe_op op_catS (pe_callTy call_strI (by rfl) mStr (by decide +kernel) (pa_cons (pv 2) pa_nil)) pe_str) pa_nil))) (pe_slice sl_LS (pv 1) (po_some (pe_op op_add pe_int (pv 4))) po_none)))))),?_⟩
   refine⟨_,rfl,t,p,N,7,rfl,T,by omega,by decide,by decide,fun hb H1 b0 b1 T1 he1=>?_⟩
   have s1:Sm t H H1:=sm_eq he1
   have L1:LS H1 k (.ref l):=⟨l,ws,rfl,s1 _ _ nlt hl,hk⟩
   refine⟨_,rfl,1,rfl,k,L1,fun v1 H2 s2 L2=>?_⟩
   obtain⟨a2,us,rfl,ha2,ht2⟩:=L2
   have ul:=tot_len us
   refine⟨a2,rfl,⟨_,SqL.of ha2⟩,[],rfl,fun D hD=>?_⟩
   refine comp_list (a:=a2) (xs:=us.map V.str) (fun i ys H4=>i<=us.length/\∃zs:List Str,ys=zs.map V.str/\zs.length=i/\Same H2 H4/\H4 D=some (.lst ys)) ⟨Nat.zero_le _,[],rfl,rfl,same_laid hD,upd_same⟩ (fun i ys H4 ⟨_,_,_,_,s4,_⟩=>SqL.of (s4 _ _ ha2)) (fun i ys H4 ⟨hi,zs,e,hz,_,_⟩=>by rw[e,List.length_map];omega) (fun i x ys H4 hx y=>?_) (fun ys H4 y=>?_)
   . obtain⟨_,zs,rfl,hzl,s4,hD4⟩:=y
     have hi:=(List.getElem?_eq_some_iff.mp hx).1
     rw[List.length_map] at hi
     obtain⟨z,hzm,rfl⟩:=List.mem_map.mp (List.mem_of_getElem? hx)
     have hzt:=tot_mem hzm
     refine⟨⟨rfl,rfl⟩,?_⟩
     refine tyes ?_
     refine⟨_,rfl,rfl,z,_,rfl,rfl,rfl,by omega,fun lp hlp=>?_⟩
     have a5:=same_laid (o:=.lst ((cls z).map V.str)) hlp
     obtain⟨y0,ys0,ey⟩:∃y0 ys0,cls z=y0::ys0:=by
      cases e:cls z with
      | nil=>exact absurd e (cls_ne z)
      | cons a b=>exact⟨a,b,rfl⟩
     refine⟨lp,_,_,.str y0,rfl,rfl,SqL.of upd_same,atI_nat (j:=0) (by show ((cls z).map V.str)[0]? = _;rw[ey];rfl),?_⟩
     have hD5:=a5 _ _ hD4
     exact⟨hD5,by omega,zs++[y0],strs_snoc,by rw[List.length_append,hzl];rfl,same_chg (s4.trans a5) hD,upd_same⟩
   obtain⟨_,zs,rfl,hzl,s4,hD4⟩:=y
   rw[List.length_map] at hzl
   refine⟨_,rfl,D,rfl,⟨_,SqL.of hD4⟩,[.int hb],rfl,fun D2 hD2=>?_⟩
   have nDD:D≠D2:=ne_of_none hD4 hD2
   refine comp_list (a:=D) (xs:=zs.map V.str) (fun i ys H5=>i<=zs.length/\ys.length<=i/\Same H4 H5/\H5 D2=some (.lst ys)) ⟨Nat.zero_le _,Nat.le_refl _,same_laid hD2,upd_same⟩ (fun i ys H5 ⟨_,_,s5,_⟩=>SqL.of (s5 _ _ hD4)) (fun i ys H5 ⟨hi,hy,_,_⟩=>by omega) (fun i x ys H5 hx y=>?_) (fun ys H5 y=>?_)
   . obtain⟨_,hy,s5,hD5⟩:=y
     have hi:=(List.getElem?_eq_some_iff.mp hx).1
     rw[List.length_map] at hi
     obtain⟨z,hzm,rfl⟩:=List.mem_map.mp (List.mem_of_getElem? hx)
     refine⟨⟨rfl,rfl⟩,?_⟩
     refine⟨_,rfl,_,rfl,hb,rfl,by omega,by omega,[],rfl,fun D3 hD3=>?_⟩
     refine comp_range (lo:=0) (n:=hb.toNat) (fun j xs H6=>j<=hb.toNat/\∃fs:List Str,xs=fs.map V.str/\fs.length=j/\H6=upd H5 D3 (.lst xs)) ⟨Nat.zero_le _,[],rfl,rfl,rfl⟩ (fun j xs H6 ⟨hj,fs,e,hf,_⟩=>by rw[e,List.length_map];omega) (fun j xs H6 hj y=>?_) (fun xs H6 y=>?_)
     . obtain⟨_,fs,rfl,hf,rfl⟩:=y
       refine⟨⟨rfl,rfl⟩,?_⟩
       refine tyes ?_
       exact⟨_,rfl,_,rfl,by omega,upd_same,by omega,fs++[_],strs_snoc,by rw[List.length_append,hf];rfl,upd_upd⟩
     . obtain⟨_,fs,rfl,hf,rfl⟩:=y
       refine⟨z,D3,fs,rfl,rfl,SqL.of upd_same,_,rfl,?_⟩
       have a6:=same_laid (o:=.lst (fs.map V.str)) hD3
       refine ite2 (fun _=>?_) (fun _=>?_)
       . exact⟨_,rfl,a6 _ _ hD5,hi,by rw[List.length_append,List.length_singleton];omega,same_chg (s5.trans a6) hD2,upd_same⟩
       . exact⟨by omega,by omega,s5.trans a6,a6 _ _ hD5⟩
   obtain⟨_,hy,s5,hD5⟩:=y
   rw[List.length_map] at hy
   refine⟨D2,_,rfl,.inl (SqL.of hD5),?_⟩
   have s25:=(s2.trans s4).trans s5
   have L5:=L1.keep s25
   refine⟨_,rfl,_,rfl,_,_,rfl,rfl,_,rfl,k,L5,fun v6 H6 s6 L6=>?_⟩
   have hb20:(Str.ofString (toString hb)).length<=20:=log_small b0 (by omega)
   have d7:(Str.ofString ":0:-:-").length=6:=by decide
   refine⟨_,rfl,hb,rfl,by omega,_,_,rfl,rfl,by rw[len_app,d7];omega,by show 1<=sizeLine;omega,fun c hc=>?_⟩
   have s7:=same_laid (o:=.lst [.str (Str.ofString (toString hb)++Str.ofString ":0:-:-")]) hc
   refine⟨k,40,L6.keep s7,⟨c,[Str.ofString (toString hb)++Str.ofString ":0:-:-"],rfl,upd_same,by rw[tot_cons,len_app,d7];show _+0<=40;omega⟩,by omega,fun v8 H8 s8 L8=>?_⟩
   refine⟨_,rfl,_,rfl,_,_,rfl,rfl,_,rfl,k,L5.keep (s6.trans (s7.trans s8)),fun v9 H9 s9 L9=>?_⟩
   refine⟨k+40,k,L8.keep s9,L9,by omega,fun v10 H10 s10 L10=>?_⟩
   have sA:=s25.trans (s6.trans (s7.trans (s8.trans (s9.trans s10))))
   exact q v10 H10 (L10.mono (by omega)) (T1.same sA) (s1.trans (Sm.of sA))
end
end K70
namespace K70
open PySem L2 WM
open DG
noncomputable def spBl:Sp:=fun vs H Q _=>∃(t p:Addr)(N k:Nat)(z:Str),vs=[.ref t,.str z]/\FeedP H t p N/\N<800000/\z.length+1<=k/\k<=20000/\∀(z':Str)(H':Hp),z'.length<=5*k+70->FeedP H' t p (N+7)->Sm t H H'->Q (.str z') H'
section
variable {P:Program}{w:World}{K:PySem.W.Frag}{mg:Str->Option Value}{base:Heap}
theorem scBl:FnScope ["_law_feed_here", "_law_line", "_law_place", "_law_words", "_law_at", "_law_way"] ["_law_feed_here", "_law_line"] (defScope sBl):=⟨rfl,rfl,rfl,by decide +kernel,rfl,by decide +kernel,by decide +kernel⟩
theorem ok_bl {f fD fB fW:Addr}{fd' fdD fdB fdW:FuncData}(F:Fun K "_law_bent_line" "_law_bent_line" sBl f fd') (FD:Fun K "_law_take" "_law_take" sTake fD fdD) (bD:Binds K fdD ["_law_feed_here", "_law_many"] []) (mD:mg "_law_take" = some (.ref fD)) (FB:Fun K "_law_bent_word" "_law_bent_word" sBd fB fdB) (bB:Binds K fdB ["_law_feed_here", "_law_word"] []) (mB:mg "_law_bent_word" = some (.ref fB)) (FW:Fun K "_law_word_more" "_law_word_more" sWm fW fdW) (bW:Binds K fdW ["_law_feed_here", "_law_words"] []) (mW:mg "_law_word_more" = some (.ref fW)) (mLen:mg "len" = none) (mRange:mg "range" = none) (mStr:mg "str" = none):FnOk P w K mg base CX0 3 f fd' ["_law_feed_here", "_law_line"] spBl:=by
 have GD:FnOk P w K mg base CX0 2 fD fdD ["_law_feed_here", "_law_many"] spTakeP:=(ok_takeP FD mLen).mono (by decide)
 have GB:FnOk P w K mg base CX0 2 fB fdB ["_law_feed_here", "_law_word"] spBd:=ok_bd FB FD bD mD mLen
 have GW:FnOk P w K mg base CX0 2 fW fdW ["_law_feed_here", "_law_words"] spWm:=ok_wm FW FD bD mD mLen mRange mStr
 refine F.ok scBl (fun vs H Q E h=>?_) (fun cdv A outer s H vs Q E hr h=>?_)
 . obtain⟨t,p,N,k,z,rfl,_⟩:=h
   rfl
 . obtain⟨t,p,N,k,z,rfl,T,hN,hk,hk2,q⟩:=h
   have hsl:1000000<=sizeLine:=by decide
   have zl:z.length<=sizeLine:=by omega
   refine⟨_,pss_cons (ps_set (i:=2) scBl.nd rfl (Or.inl rfl) (pe_call GD hr rfl mD FD.kp bD .nil pass0 (pa_cons (pv 0) (pa_cons (pe_op op_add (pe_callB call_len_str (by rfl) mLen PySem.boot_len (pa_cons (pv 1) pa_nil)) pe_int) pa_nil))))
    (pss_cons (ps_set (i:=3) scBl.nd rfl (Or.inl rfl) (pe_bm PySem.F.plainAttrs_str PySem.F.slot_str_split PySem.F.type_str_split mt_split (pv 1) (pa_cons pe_str pa_nil)))
    (pss_cons (ps_set (i:=4) scBl.nd rfl (Or.inl rfl) (pe_call GD hr rfl mD FD.kp bD .nil pass0 (pa_cons (pv 0) (pa_cons (pe_callB call_len_seq (by rfl) mLen PySem.boot_len (pa_cons (pv 3) pa_nil)) pa_nil))))
    (pss_cons (ps_set (i:=5) scBl.nd rfl (Or.inl rfl) (pe_call GD hr rfl mD FD.kp bD .nil pass0 (pa_cons (pv 0) (pa_int pa_nil))))
    (pss_cons (ps_if (pt_cmpR op_gt (pv 5) pe_int (nomark _)) (pss_one (ps_ret (pe_bm PySem.F.plainAttrs_str PySem.F.slot_str_join PySem.F.type_str_join mt_join pe_str (pa_cons (pe_call GW hr rfl mW FW.kp bW .nil pass0 (pa_cons (pv 0) (pa_cons (pv 3) pa_nil))) pa_nil)))) pss_nil)
    (pss_cons (ps_if (pt_cmpR op_eq (pv 5) pe_int (nomark _)) (pss_one (ps_ret (pe_op op_catS (pe_op op_catS (pe_slice sl_str (pv 1) po_none (po_some (pv 2))) (pe_ix ix_str pe_str (pe_call GD hr rfl mD FD.kp bD .nil pass0 (pa_cons (pv 0) (pa_int pa_nil))) (fun _ _=>rfl))) (pe_slice sl_str (pv 1) (po_some (pv 2)) po_none)))) pss_nil)
    (pss_cons (ps_if (pt_cmpR op_eq (pv 5) pe_int (nomark _)) (pss_one (ps_ret (pe_op op_catS (pe_slice sl_str (pv 1) po_none (po_some (pv 2))) (pe_slice sl_str (pv 1) (po_some (pe_op op_add (pv 2) pe_int)) po_none)))) pss_nil)
    (pss_cons (ps_if (pt_cmpR op_eq (pv 5) pe_int (nomark _)) (pss_one (ps_ret (pe_bm PySem.F.plainAttrs_str PySem.F.slot_str_join PySem.F.type_str_join mt_join pe_str (pa_cons (pe_op op_catLS (pe_slice sl_LS (pv 3) po_none (po_some (pv 4))) (pe_slice sl_LS (pv 3) (po_some (pe_op op_add (pv 4) pe_int)) po_none)) pa_nil)))) pss_nil)
    (pss_cons (ps_if (pt_cmpR op_eq (pv 5) pe_int (nomark _)) (pss_one (ps_ret (pe_bm PySem.F.plainAttrs_str PySem.F.slot_str_join PySem.F.type_str_join mt_join pe_str (pa_cons (pe_op op_catLS (pe_op op_catLS (pe_slice sl_LS (pv 3) po_none (po_some (pv 4))) (pe_slice sl_LS (pv 3) (po_some (pv 4)) (po_some (pe_op op_add (pv 4) pe_int)))) (pe_slice sl_LS (pv 3) (po_some (pv 4)) po_none)) pa_nil)))) pss_nil)
    (pss_cons (ps_if (pt_cmpR op_eq (pv 5) pe_int (nomark _)) (pss_one (ps_ret (pe_bm PySem.F.plainAttrs_str PySem.F.slot_str_join PySem.F.type_str_join mt_join pe_str (pa_cons (pe_op op_catLS (pe_slice sl_LS (pv 3) po_none (po_some pe_int)) (pe_rev0 (ops:=fun a d=>[a,d]) (pv 3) pe_int (pe_as (pe_un un_neg pe_int) (fun σ H Q q=>⟨1,rfl,q⟩)) (fun _ _=>by with_unfolding_all rfl))) pa_nil)))) pss_nil)
    (pss_one (ps_ret (pe_bm PySem.F.plainAttrs_str PySem.F.slot_str_join PySem.F.type_str_join mt_join pe_str (pa_cons (pe_op op_catLS (pe_op op_catLS (pe_slice sl_LS (pv 3) po_none (po_some (pv 4))) (pe_lst (pa_cons (pe_call GB hr rfl mB FB.kp bB .nil pass0 (pa_cons (pv 0) (pa_cons (pe_ix ix_list (pv 3) (pv 4) (fun _ _=>rfl)) pa_nil))) pa_nil))) (pe_slice sl_LS (pv 3) (po_some (pe_op op_add (pv 4) pe_int)) po_none)) pa_nil))))))))))))),?_⟩
   refine⟨_,rfl,_,rfl,z,rfl,zl,_,_,rfl,rfl,t,p,N,_,rfl,T,by omega,by omega,by omega,fun b H1 b0 b1 T1 he1=>?_⟩
   have s1:Sm t H H1:=sm_eq he1
   refine⟨_,rfl,rfl,z,_,rfl,rfl,rfl,by omega,fun lw hlw=>?_⟩
   have a2:=same_laid (o:=.lst ((wds z).map V.str)) hlw
   have T2:=T1.same a2
   have hw2:(upd H1 lw (.lst ((wds z).map V.str))) lw=some (.lst ((wds z).map V.str)):=upd_same
   have s2:=s1.trans (Sm.of a2)
   generalize upd H1 lw (.lst ((wds z).map V.str))=H2 at T2 hw2 s2 ⊢
   have wl:=tot_len (wds z)
   have wt:=wds_tot z
   have w0:0<(wds z).length:=List.length_pos_iff.mpr (wds_ne z)
   have nwt:=T2.neS hw2
   refine⟨_,rfl,_,rfl,lw,_,rfl,.inl (SqL.of hw2),t,p,N+1,_,rfl,T2,by omega,by rw[List.length_map];omega,by rw[List.length_map];omega,fun r H3 r0 r1 T3 he3=>?_⟩
   rw[List.length_map] at r1
   refine⟨_,rfl,t,p,N+1+1,10,rfl,T3,by omega,by decide,by decide,fun c H4 c0 c1 T4 he4=>?_⟩
   have s34:Sm t H2 H4:=(sm_eq he3).trans (sm_eq he4)
   have s4:Sm t H H4:=s2.trans s34
   have hw4:=s34 _ _ nwt hw2
   have L4:LS H4 k (.ref lw):=⟨lw,wds z,rfl,hw4,by omega⟩
   refine⟨_,rfl,_,_,rfl,rfl,_,rfl,ite2 (fun _=>?_) (fun _=>?_)⟩
   . refine⟨rfl,_,rfl,_,rfl,t,p,lw,_,k,wds z,rfl,T4,by omega,hw4,by omega,by omega,fun v H5 L5 T5 s5=>?_⟩
     obtain⟨a,ys,rfl,ha,hs,hj⟩:=ls_join (c:=sp1) (by decide) L5 (by omega)
     exact⟨_,a,ys,rfl,rfl,SqL.of ha,by decide,hs,q _ _ (by show (Txt.join sp1 ys).length<=_;omega) (T5.mono (by omega)) (s4.trans s5)⟩
   refine⟨_,rfl,rfl,_,rfl,ite2 (fun _=>?_) (fun _=>?_)⟩
   . have c1:=Txt.slice_le z none (some b)
     have c2:=Txt.slice_le z (some b) none
     refine⟨_,rfl,_,rfl,b,rfl,z,rfl,zl,_,rfl,t,p,_,7,rfl,T4,by omega,by decide,by decide,fun r5 H5 r50 r51 T5 he5=>?_⟩
     obtain⟨cc,hcc⟩:∃cc,atI (Str.ofString " 019:-a").cps.toList r5=some cc:=by
      obtain⟨j,rfl⟩:=Int.eq_ofNat_of_zero_le r50
      have hj:j<7:=by omega
      match j,hj with
      | 0,_=>exact⟨_,rfl⟩
      | 1,_=>exact⟨_,rfl⟩
      | 2,_=>exact⟨_,rfl⟩
      | 3,_=>exact⟨_,rfl⟩
      | 4,_=>exact⟨_,rfl⟩
      | 5,_=>exact⟨_,rfl⟩
      | 6,_=>exact⟨_,rfl⟩
     have o1:(⟨#[cc]⟩:Str).length=1:=rfl
     refine⟨_,_,cc,rfl,rfl,by decide,hcc,_,_,rfl,rfl,by rw[len_app,o1];omega,?_⟩
     refine⟨_,rfl,_,rfl,b,rfl,z,rfl,zl,_,_,rfl,rfl,by rw[len_app,len_app,o1];omega,?_⟩
     exact q _ _ (by rw[len_app,len_app,o1];omega) (T5.mono (by omega)) (s4.trans (sm_eq he5))
   refine⟨_,rfl,rfl,_,rfl,ite2 (fun _=>?_) (fun _=>?_)⟩
   . have c1:=Txt.slice_le z none (some b)
     have c2:=Txt.slice_le z (some (b+1)) none
     refine⟨_,rfl,_,rfl,b,rfl,z,rfl,zl,_,rfl,_,rfl,_,_,rfl,rfl,_,rfl,z,rfl,zl,_,_,rfl,rfl,by rw[len_app];omega,?_⟩
     exact q _ _ (by rw[len_app];omega) (T4.mono (by omega)) s4
   refine⟨_,rfl,rfl,_,rfl,ite2 (fun _=>?_) (fun _=>?_)⟩
   . refine⟨rfl,_,rfl,_,rfl,r,rfl,k,L4,fun v1 H5 s5 L5=>?_⟩
     refine⟨_,rfl,_,rfl,_,_,rfl,rfl,_,rfl,k,L4.keep s5,fun v2 H6 s6 L6=>?_⟩
     refine⟨k,k,L5.keep s6,L6,by omega,fun v3 H7 s7 L7=>?_⟩
     have s47:=s5.trans (s6.trans s7)
     obtain⟨a,ys,rfl,ha,hs,hj⟩:=ls_join (c:=sp1) (by decide) L7 (by omega)
     exact⟨_,a,ys,rfl,rfl,SqL.of ha,by decide,hs,q _ _ (by show (Txt.join sp1 ys).length<=_;omega) ((T4.same s47).mono (by omega)) (s4.trans (Sm.of s47))⟩
   refine⟨_,rfl,rfl,_,rfl,ite2 (fun _=>?_) (fun _=>?_)⟩
   . refine⟨rfl,_,rfl,_,rfl,r,rfl,k,L4,fun v1 H5 s5 L5=>?_⟩
     refine⟨_,rfl,_,rfl,r,rfl,_,rfl,_,_,rfl,rfl,_,rfl,k,L4.keep s5,fun v2 H6 s6 L6=>?_⟩
     refine⟨k,k,L5.keep s6,L6,by omega,fun v3 H7 s7 L7=>?_⟩
     refine⟨_,rfl,_,rfl,r,rfl,k,L4.keep (s5.trans (s6.trans s7)),fun v4 H8 s8 L8=>?_⟩
     refine⟨k+k,k,L7.keep s8,L8,by omega,fun v5 H9 s9 L9=>?_⟩
     have s49:=s5.trans (s6.trans (s7.trans (s8.trans s9)))
     obtain⟨a,ys,rfl,ha,hs,hj⟩:=ls_join (c:=sp1) (by decide) L9 (by omega)
     exact⟨_,a,ys,rfl,rfl,SqL.of ha,by decide,hs,q _ _ (by show (Txt.join sp1 ys).length<=_;omega) ((T4.same s49).mono (by omega)) (s4.trans (Sm.of s49))⟩
   refine⟨_,rfl,rfl,_,rfl,ite2 (fun _=>?_) (fun _=>?_)⟩
   . refine⟨rfl,_,rfl,1,rfl,k,L4,fun v1 H5 s5 L5=>?_⟩
     obtain⟨y0,ys0,ey⟩:∃y0 ys0,wds z=y0::ys0:=by
      cases e:wds z with
      | nil=>exact absurd e (wds_ne z)
      | cons a b=>exact⟨a,b,rfl⟩
     have hw5:=s5 _ _ hw4
     rw[ey] at hw5
     refine⟨_,rfl,lw,.str y0,ys0.map V.str,rfl,SqL.of hw5,fun p6 hp6=>?_⟩
     have s6:=same_laid (o:=.lst (ys0.map V.str).reverse) hp6
     have L6:LS (upd H5 p6 (.lst (ys0.map V.str).reverse)) k (.ref p6):=⟨p6,ys0.reverse,rfl,by rw[List.map_reverse];exact upd_same,by rw[tot_rev];rw[ey,tot_cons] at wt;omega⟩
     refine⟨k,k,L5.keep s6,L6,by omega,fun v3 H7 s7 L7=>?_⟩
     have s47:=s5.trans (s6.trans s7)
     obtain⟨a,ys,rfl,ha,hs,hj⟩:=ls_join (c:=sp1) (by decide) L7 (by omega)
     exact⟨_,a,ys,rfl,rfl,SqL.of ha,by decide,hs,q _ _ (by show (Txt.join sp1 ys).length<=_;omega) ((T4.same s47).mono (by omega)) (s4.trans (Sm.of s47))⟩
   . refine⟨rfl,_,rfl,_,rfl,r,rfl,k,L4,fun v1 H5 s5 L5=>?_⟩
     have hw5:=s5 _ _ hw4
     have T5:=T4.same s5
     obtain⟨j,rfl⟩:=Int.eq_ofNat_of_zero_le r0
     have hj:j<(wds z).length:=by omega
     have hzj:=tot_mem (List.getElem_mem hj)
     refine⟨_,rfl,_,rfl,_,rfl,lw,_,_,.str (wds z)[j],rfl,rfl,SqL.of hw5,atI_nat (by simp[hj]),t,p,_,k,(wds z)[j],rfl,T5,by omega,by omega,by omega,fun y H6 hy T6 s6=>?_⟩
     refine⟨by show 1<=sizeLine;omega,fun c2 hc2=>?_⟩
     have s7:=same_laid (o:=.lst [.str y]) hc2
     refine⟨k,3*k+61,(L5.sm T5 s6).keep s7,⟨c2,[y],rfl,upd_same,by rw[tot_cons];show y.length+1+0<=_;omega⟩,by omega,fun v3 H8 s8 L8=>?_⟩
     have s48:Sm t H4 H8:=(Sm.of s5).trans (s6.trans (Sm.of (s7.trans s8)))
     refine⟨_,rfl,_,rfl,_,_,rfl,rfl,_,rfl,k,L4.sm T4 s48,fun v4 H9 s9 L9=>?_⟩
     refine⟨k+(3*k+61),k,L8.keep s9,L9,by omega,fun v5 H10 s10 L10=>?_⟩
     obtain⟨a,ys,rfl,ha,hs,hj⟩:=ls_join (c:=sp1) (by decide) L10 (by omega)
     exact⟨_,a,ys,rfl,rfl,SqL.of ha,by decide,hs,q _ _ (by show (Txt.join sp1 ys).length<=_;omega) ((T6.same (s7.trans (s8.trans (s9.trans s10)))).mono (by omega)) (s4.trans (s48.trans (Sm.of (s9.trans s10))))⟩
end
end K70
namespace K70
open PySem L2 WM
open DG
noncomputable def LB (H:Hp)(c b:Nat)(v:V):Prop:=∃(a:Addr)(zs:List Str),v = .ref a/\H a=some (.lst (zs.map V.str))/\zs.length<=c/\∀z∈zs,z.length<=b
noncomputable def LBn (H H':Hp)(c b:Nat)(v:V):Prop:=∃(a:Addr)(zs:List Str),v = .ref a/\H a=none/\H' a=some (.lst (zs.map V.str))/\zs.length<=c/\∀z∈zs,z.length<=b
theorem LB.keep {H H':Hp}{c b:Nat}{v:V}(h:LB H c b v)(s:Same H H'):LB H' c b v:=by
 obtain⟨a,zs,e,ha,ht⟩:=h
 exact⟨a,zs,e,s _ _ ha,ht⟩
theorem LB.mono {H:Hp}{c b c' b':Nat}{v:V}(h:LB H c b v)(l:c<=c')(m:b<=b'):LB H c' b' v:=by
 obtain⟨a,zs,e,ha,h1,h2⟩:=h
 exact⟨a,zs,e,ha,Nat.le_trans h1 l,fun z hz=>Nat.le_trans (h2 z hz) m⟩
theorem LB.sm {H H':Hp}{c b N:Nat}{v:V}{t p:Addr}(h:LB H c b v)(T:FeedP H t p N)(s:Sm t H H'):LB H' c b v:=by
 obtain⟨a,zs,e,ha,ht⟩:=h
 exact⟨a,zs,e,s _ _ (T.neS ha) ha,ht⟩
theorem LBn.lb {H H':Hp}{c b:Nat}{v:V}(h:LBn H H' c b v):LB H' c b v:=by
 obtain⟨a,zs,e,_,ha,ht⟩:=h
 exact⟨a,zs,e,ha,ht⟩
theorem LBn.mono {H H':Hp}{c b c' b':Nat}{v:V}(h:LBn H H' c b v)(l:c<=c')(m:b<=b'):LBn H H' c' b' v:=by
 obtain⟨a,zs,e,n,ha,h1,h2⟩:=h
 exact⟨a,zs,e,n,ha,Nat.le_trans h1 l,fun z hz=>Nat.le_trans (h2 z hz) m⟩
theorem sm_none {t p a:Addr}{N:Nat}{H H1:Hp}(T:FeedP H1 t p N)(s:Sm t H H1)(h:H1 a=none):H a=none:=by
 cases e:H a with
 | none=>rfl
 | some o=>rw[s _ _ (T.ne h).1 e] at h;cases h
theorem LBn.back {H H1 H':Hp}{c b N:Nat}{v:V}{t p:Addr}(h:LBn H1 H' c b v)(T:FeedP H1 t p N)(s:Sm t H H1):LBn H H' c b v:=by
 obtain⟨a,zs,e,n,ha,ht⟩:=h
 exact⟨a,zs,e,sm_none T s n,ha,ht⟩
theorem LBn.sm {H H1 H':Hp}{c b N:Nat}{v:V}{t p:Addr}(h:LBn H H1 c b v)(T:FeedP H1 t p N)(s:Sm t H1 H'):LBn H H' c b v:=by
 obtain⟨a,zs,e,n,ha,ht⟩:=h
 exact⟨a,zs,e,n,s _ _ (T.neS ha) ha,ht⟩
section
variable {X:Cx}
theorem sl_LB:SlR X (fun x _ _ H Q=>∃c b,LB H c b x/\∀v H',Same H H'->LB H' c b v->Q v H'):=by
 intro pins s σ H x v vl vu lo hi sl Q I rx hs pl pu h
 obtain⟨c,b,⟨a,zs,e,ha,h1,h2⟩,q⟩:=h
 subst e
 refine sl_list pins s σ H _ v vl vu lo hi sl Q I rx hs pl pu ⟨a,_,rfl,SqL.of ha,fun p hp=>q _ _ (same_laid hp) ?_⟩
 obtain⟨us,e,sb⟩:=cut_str zs lo hi
 exact⟨p,us,rfl,by rw[<-e];exact upd_same,Nat.le_trans sb.length_le h1,fun z hz=>h2 z (sb.subset hz)⟩
theorem op_catLB:OpR X (binaryOp .Add) (fun x y H Q=>∃c d b,LB H c b x/\LB H d b y/\c+d<=1000000/\∀v H',Same H H'->LBn H H' (c+d) b v->Q v H'):=by
 intro pins s σ H x y v u Q I rx ry h
 obtain⟨c,d,b,⟨a,zs,e,ha,h1,h2⟩,⟨a',ys,e2,hb,h3,h4⟩,hk,q⟩:=h
 subst e e2
 have hsl:1000000<=sizeLine:=by decide
 refine op_cat pins s σ H _ _ v u Q I rx ry ⟨a,a',_,_,rfl,rfl,ha,hb,by rw[List.length_map,List.length_map];omega,fun p hp=>q _ _ (same_laid hp) ⟨p,zs++ys,rfl,hp,?_,by rw[List.length_append];omega,fun z hz=>(List.mem_append.mp hz).elim (h2 z) (h4 z)⟩⟩
 rw[List.map_append]
 exact upd_same
end
inductive LitZ:List Expr->List Str->Prop where
 | nil:LitZ [] []
 | cons {z:Str}{j:Nat}{pos:Pos}{es:List Expr}{zs:List Str}:LitZ es zs->LitZ (.Constant (.str z) j pos::es) (z::zs)
inductive LitTT (c b:Nat):List Expr->Prop where
 | nil:LitTT c b []
 | cons {xs:List Expr}{zs:List Str}{pos:Pos}{es:List Expr}:LitZ xs zs->zs.length<=c->(∀z∈zs,z.length<=b)->LitTT c b es->LitTT c b (.List xs pos::es)
theorem pa_litZ {X:Cx}{es:List Expr}{zs:List Str}(h:LitZ es zs):PA X es (fun _ H Q=>Q (zs.map V.str) H):=by
 induction h with
 | nil=>exact pa_nil
 | cons _ ih=>
  intro pos pins s σ H Q I q
  exact (pa_cons pe_str ih) pos pins s σ H Q I q
theorem pa_litTT {X:Cx}{c b:Nat}{es:List Expr}(h:LitTT c b es)(hc:c<=1000):PA X es (fun _ H Q=>∀(vs:List V) H',Same H H'->vs.length=es.length->(∀v∈vs,LBn H H' c b v)->Q vs H'):=by
 induction h with
 | nil=>exact fun pos pins s σ H Q I q=>pa_nil pos pins s σ H Q I (q [] H (Same.refl _) rfl (fun v hv=>by cases hv))
 | @cons xs zs pos es hx hz hz2 _ ih=>
  intro pos pins s σ H Q I q
  have hsl:1000<=sizeLine:=by decide
  refine (pa_lst (pa_litZ hx) ih) pos pins s σ H Q I ⟨by rw[List.length_map];omega,fun p hp=>?_⟩
  refine fun vs H2 s2 hl2 al=>q _ H2 ((same_laid hp).trans s2) (by rw[List.length_cons,hl2];rfl) fun x hx=>?_
  rcases List.mem_cons.mp hx with rfl | hx
  . exact⟨p,zs,rfl,hp,s2 _ _ upd_same,hz,hz2⟩
  . obtain⟨a,ys,e,n,ha,ht⟩:=al x hx
    exact⟨a,ys,e,none_back (same_laid hp) n,ha,ht⟩
noncomputable def ifC:Stmt->Expr
 | .If c _ _ _=>c
 | _=>.Constant .none 0 ⟨0,0,0,0⟩
noncomputable def retE:Stmt->Expr
 | .Return (some e) _=>e
 | _=>.Constant .none 0 ⟨0,0,0,0⟩
noncomputable def subI:Expr->Expr
 | .Subscript _ i _=>i
 | _=>.Constant .none 0 ⟨0,0,0,0⟩
noncomputable abbrev gB (i:Nat):Stmt:=(defBody sBent).getD i sPass
theorem body_be:∃es p1 p2 p3 p4,defBody sBent=[gB 0,gB 1,gB 2,gB 3,.If (ifC (gB 4)) [.Return (some (.Subscript (.List es p1) (subI (retE ((ifA (gB 4)).getD 0 sPass))) p2)) p3] [] p4,gB 5]/\LitTT 2 20 es/\es.length=6:=⟨_,_,_,_,_,rfl,(.cons .nil (by decide) (by decide) (.cons (.cons .nil) (by decide) (by decide) (.cons (.cons .nil) (by decide) (by decide) (.cons (.cons .nil) (by decide) (by decide) (.cons (.cons .nil) (by decide) (by decide) (.cons (.cons (.cons .nil)) (by decide) (by decide) .nil)))))),rfl⟩
noncomputable def spBe:Sp:=fun vs H Q _=>∃(t p l:Addr)(N c b:Nat)(zs:List Str),vs=[.ref t,.ref l]/\FeedP H t p N/\N<700000/\H l=some (.lst (zs.map V.str))/\zs≠[]/\zs.length<=c/\(∀z∈zs,z.length<=b)/\c<=10000/\b<=15000/\∀(v:V)(H':Hp),LBn H H' (3*c+2) (5*b+75) v->FeedP H' t p (N+10)->Sm t H H'->Q v H'
section
variable {P:Program}{w:World}{K:PySem.W.Frag}{mg:Str->Option Value}{base:Heap}
theorem scBe:FnScope ["_law_feed_here", "_law_lines_here", "_law_at", "_law_way"] ["_law_feed_here", "_law_lines_here"] (defScope sBent):=⟨rfl,rfl,rfl,by decide +kernel,rfl,by decide +kernel,by decide +kernel⟩
theorem ok_be {f fD fL fB fW:Addr}{fd' fdD fdL fdB fdW:FuncData}(F:Fun K "_law_bent" "_law_bent" sBent f fd') (FD:Fun K "_law_take" "_law_take" sTake fD fdD) (bD:Binds K fdD ["_law_feed_here", "_law_many"] []) (mD:mg "_law_take" = some (.ref fD)) (FL:Fun K "_law_bent_line" "_law_bent_line" sBl fL fdL) (bL:Binds K fdL ["_law_feed_here", "_law_line"] []) (mL:mg "_law_bent_line" = some (.ref fL))
 (FB:Fun K "_law_bent_word" "_law_bent_word" sBd fB fdB) (bB:Binds K fdB ["_law_feed_here", "_law_word"] []) (mB:mg "_law_bent_word" = some (.ref fB)) (FW:Fun K "_law_word_more" "_law_word_more" sWm fW fdW) (bW:Binds K fdW ["_law_feed_here", "_law_words"] []) (mW:mg "_law_word_more" = some (.ref fW)) (mLen:mg "len" = none) (mRange:mg "range" = none) (mStr:mg "str" = none):FnOk P w K mg base CX0 4 f fd' ["_law_feed_here", "_law_lines_here"] spBe:=by
 have GD:FnOk P w K mg base CX0 3 fD fdD ["_law_feed_here", "_law_many"] spTakeP:=(ok_takeP FD mLen).mono (by decide)
 have GL:FnOk P w K mg base CX0 3 fL fdL ["_law_feed_here", "_law_line"] spBl:=ok_bl FL FD bD mD FB bB mB FW bW mW mLen mRange mStr
 refine F.ok scBe (fun vs H Q E h=>?_) (fun cdv A outer s H vs Q E hr h=>?_)
 . obtain⟨t,p,l,N,c,b,zs,rfl,_⟩:=h
   rfl
 . obtain⟨t,p,l,N,c,b,zs,rfl,T,hN,hl,hne,hc,hb,hc2,hb2,q⟩:=h
   have nlt:=T.neS hl
   have w0:0<zs.length:=List.length_pos_iff.mpr hne
   have hsl:1000000<=sizeLine:=by decide
   obtain⟨es,p1,p2,p3,p4,hbd,hes,hel⟩:=body_be
   rw[hbd]
   refine⟨_,pss_cons (ps_set (i:=2) scBe.nd rfl (Or.inl rfl) (pe_call GD hr rfl mD FD.kp bD .nil pass0 (pa_cons (pv 0) (pa_cons (pe_callB call_len_seq (by rfl) mLen PySem.boot_len (pa_cons (pv 1) pa_nil)) pa_nil))))
    (pss_cons (ps_set (i:=3) scBe.nd rfl (Or.inl rfl) (pe_call GD hr rfl mD FD.kp bD .nil pass0 (pa_cons (pv 0) (pa_int pa_nil))))
    (pss_cons (ps_if (pt_cmpR op_eq (pv 3) pe_int (nomark _)) (pss_one (ps_ret (pe_op op_catLB (pe_slice sl_LB (pv 1) po_none (po_some (pv 2))) (pe_slice sl_LB (pv 1) (po_some (pe_op op_add (pv 2) pe_int)) po_none)))) pss_nil)
    (pss_cons (ps_if (pt_cmpR op_eq (pv 3) pe_int (nomark _)) (pss_one (ps_ret (pe_op op_catLB (pe_op op_catLB (pe_slice sl_LB (pv 1) po_none (po_some (pv 2))) (pe_slice sl_LB (pv 1) (po_some (pv 2)) (po_some (pe_op op_add (pv 2) pe_int)))) (pe_slice sl_LB (pv 1) (po_some (pv 2)) po_none)))) pss_nil)
    (pss_cons (ps_if (pt_cmpR op_eq (pv 3) pe_int (nomark _)) (pss_one (ps_ret (pe_ix ix_list (pe_lst (pa_litTT hes (by decide))) (pe_call GD hr rfl mD FD.kp bD .nil pass0 (pa_cons (pv 0) (pa_int pa_nil))) (fun _ _=>rfl)))) pss_nil)
    (pss_one (ps_ret (pe_op op_catLB (pe_op op_catLB (pe_slice sl_LB (pv 1) po_none (po_some (pv 2))) (pe_lst (pa_cons (pe_call GL hr rfl mL FL.kp bL .nil pass0 (pa_cons (pv 0) (pa_cons (pe_ix ix_list (pv 1) (pv 2) (fun _ _=>rfl)) pa_nil))) pa_nil))) (pe_slice sl_LB (pv 1) (po_some (pe_op op_add (pv 2) pe_int)) po_none)))))))),?_⟩
   refine⟨_,rfl,_,rfl,l,_,rfl,.inl (SqL.of hl),t,p,N,_,rfl,T,by omega,by rw[List.length_map];omega,by rw[List.length_map];omega,fun r H1 r0 r1 T1 he1=>?_⟩
   rw[List.length_map] at r1
   refine⟨_,rfl,t,p,N+1,8,rfl,T1,by omega,by decide,by decide,fun g H3 g0 g1 T3 he3=>?_⟩
   have s3:Sm t H H3:=(sm_eq he1).trans (sm_eq he3)
   have hl3:=s3 _ _ nlt hl
   have L3:LB H3 c b (.ref l):=⟨l,zs,rfl,hl3,hc,hb⟩
   refine⟨_,rfl,rfl,_,rfl,ite2 (fun _=>?_) (fun _=>?_)⟩
   . refine⟨_,rfl,_,rfl,_,rfl,c,b,L3,fun v1 H5 s5 L5=>?_⟩
     refine⟨_,rfl,_,rfl,_,_,rfl,rfl,_,rfl,c,b,L3.keep s5,fun v2 H6 s6 L6=>?_⟩
     refine⟨c,c,b,L5.keep s6,L6,by omega,fun v3 H7 s7 L7=>?_⟩
     have s36:=s5.trans s6
     have s37:=s36.trans s7
     exact q v3 H7 ((L7.back (T3.same s36) (s3.trans (Sm.of s36))).mono (by omega) (by omega)) ((T3.same s37).mono (by omega)) (s3.trans (Sm.of s37))
   refine⟨_,rfl,rfl,_,rfl,ite2 (fun _=>?_) (fun _=>?_)⟩
   . refine⟨_,rfl,_,rfl,_,rfl,c,b,L3,fun v1 H5 s5 L5=>?_⟩
     refine⟨_,rfl,_,rfl,_,rfl,_,rfl,_,_,rfl,rfl,_,rfl,c,b,L3.keep s5,fun v2 H6 s6 L6=>?_⟩
     refine⟨c,c,b,L5.keep s6,L6,by omega,fun v3 H7 s7 L7=>?_⟩
     refine⟨_,rfl,_,rfl,_,rfl,c,b,L3.keep (s5.trans (s6.trans s7)),fun v4 H8 s8 L8=>?_⟩
     refine⟨c+c,c,b,L7.lb.keep s8,L8,by omega,fun v5 H9 s9 L9=>?_⟩
     have s38:=s5.trans (s6.trans (s7.trans s8))
     have s39:=s38.trans s9
     exact q v5 H9 ((L9.back (T3.same s38) (s3.trans (Sm.of s38))).mono (by omega) (by omega)) ((T3.same s39).mono (by omega)) (s3.trans (Sm.of s39))
   refine⟨_,rfl,rfl,_,rfl,ite2 (fun _=>?_) (fun _=>?_)⟩
   . refine fun vs H5 s5 hvl al=>⟨by rw[hvl,hel];decide,fun D hD=>?_⟩
     rw[hel] at hvl
     have T5:=T3.same s5
     have nD:=T5.ne hD
     have a6:=same_laid (o:=.lst vs) hD
     refine⟨_,rfl,t,p,_,6,rfl,T5.laid hD,by omega,by decide,by decide,fun r7 H7 r70 r71 T7 he7=>?_⟩
     obtain⟨x,hx,hxa⟩:=at_some r70 (by rw[hvl];exact r71)
     refine⟨D,_,_,x,rfl,rfl,SqL.of (by rw[he7 _ nD.1];exact upd_same),hxa,?_⟩
     obtain⟨a,ys,e,n,ha,ht⟩:=al x hx
     have L6:LBn H3 (upd H5 D (.lst vs)) 2 20 x:=⟨a,ys,e,n,a6 _ _ ha,ht⟩
     exact q x H7 (((L6.sm (T5.laid hD) (sm_eq he7)).back T3 s3).mono (by omega) (by omega)) (T7.mono (by omega)) (s3.trans ((Sm.of (s5.trans a6)).trans (sm_eq he7)))
   . refine⟨_,rfl,_,rfl,_,rfl,c,b,L3,fun v1 H5 s5 L5=>?_⟩
     have T5:=T3.same s5
     obtain⟨j,rfl⟩:=Int.eq_ofNat_of_zero_le r0
     have hj:j<zs.length:=by omega
     have hzj:=hb zs[j] (List.getElem_mem hj)
     refine⟨_,rfl,_,rfl,_,rfl,l,_,_,.str zs[j],rfl,rfl,SqL.of (s5 _ _ hl3),atI_nat (by simp[hj]),t,p,_,b+1,zs[j],rfl,T5,by omega,by omega,by omega,fun y H6 hy T6 s6=>?_⟩
     refine⟨by show 1<=sizeLine;omega,fun c2 hc2=>?_⟩
     have s7:=same_laid (o:=.lst [.str y]) hc2
     refine⟨c,1,5*b+75,((L5.sm T5 s6).keep s7).mono (Nat.le_refl _) (by omega),⟨c2,[y],rfl,upd_same,Nat.le_refl _,fun z hz=>by rw[List.mem_singleton.mp hz];omega⟩,by omega,fun v3 H8 s8 L8=>?_⟩
     have s38:Sm t H3 H8:=(Sm.of s5).trans (s6.trans (Sm.of (s7.trans s8)))
     have T8:=T6.same (s7.trans s8)
     refine⟨_,rfl,_,rfl,_,_,rfl,rfl,_,rfl,c,5*b+75,(L3.sm T3 s38).mono (Nat.le_refl _) (by omega),fun v4 H9 s9 L9=>?_⟩
     refine⟨c+1,c,5*b+75,L8.lb.keep s9,L9,by omega,fun v5 H10 s10 L10=>?_⟩
     exact q v5 H10 ((L10.back (T8.same s9) ((s3.trans s38).trans (Sm.of s9))).mono (by omega) (by omega)) ((T8.same (s9.trans s10)).mono (by omega)) ((s3.trans s38).trans (Sm.of (s9.trans s10)))
end
end K70
namespace K70
open PySem L2 WM
open DG
theorem sv_ls {H:Hp}{p q:Addr}{zs:List Str}(hp:H p=some (.lst (zs.map V.str)))(hq:H q=some (.lst (zs.map V.str)))(hl:zs.length<=100000):SV H 3 (.ref p) (.ref q):=by
 refine .inr ⟨p,q,_,_,rfl,rfl,.inr ⟨hp,hq⟩,rfl,by rw[List.length_map];exact hl,fun i x y hx hy=>?_⟩
 rw[hx] at hy
 cases hy
 obtain⟨z,_,rfl⟩:=List.mem_map.mp (List.mem_of_getElem? hx)
 exact SVl.sv (.inr (.inl ⟨z,rfl,rfl⟩))
theorem sv_non {H:Hp}{p q:Addr}{z:Str}{i k:Int}(hp:H p=some (.tup [.str z,.int i,.int k]))(hq:H q=some (.tup [.str z,.int i,.int k])):SV H 3 (.ref p) (.ref q):=by
 refine .inr ⟨p,q,_,_,rfl,rfl,.inl ⟨hp,hq⟩,rfl,by show 3<=100000;decide,fun j x y hx hy=>?_⟩
 match j with
 | 0=>cases hx;cases hy;exact SVl.sv (.inr (.inl ⟨z,rfl,rfl⟩))
 | 1=>cases hx;cases hy;exact SVl.sv (.inl ⟨i,rfl,rfl⟩)
 | 2=>cases hx;cases hy;exact SVl.sv (.inl ⟨k,rfl,rfl⟩)
 | j+3=>simp at hx
theorem sv_ent {H:Hp}{p q:Addr}{e:E4}(hp:H p=some (.tup (e4V e)))(hq:H q=some (.tup (e4V e))):SV H 1 (.ref p) (.ref q):=by
 refine .inr ⟨p,q,_,_,rfl,rfl,.inl ⟨hp,hq⟩,rfl,by rw[e4V_len];decide,fun i x y hx hy=>?_⟩
 rw[hx] at hy
 cases hy
 have hm:=List.mem_of_getElem? hx
 obtain⟨a,b,o⟩:=e
 cases o with
 | none=>
  simp only[e4V,List.mem_cons,List.not_mem_nil,or_false] at hm
  rcases hm with rfl | rfl | rfl | rfl
  . exact .inl ⟨_,rfl,rfl⟩
  . exact .inl ⟨_,rfl,rfl⟩
  . exact .inr (.inr ⟨rfl,rfl⟩)
  . exact .inr (.inr ⟨rfl,rfl⟩)
 | some ud=>
  obtain⟨u,d⟩:=ud
  simp only[e4V,List.mem_cons,List.not_mem_nil,or_false] at hm
  rcases hm with rfl | rfl | rfl | rfl <;> exact .inl ⟨_,rfl,rfl⟩
theorem sv_lab {H:Hp}{p q:Addr}{ls:List (List E4)}(a:LabT H p ls)(b:LabT H q ls)(hl:ls.length<=100000)(hb:∀es∈ls,es.length<=100000):SV H 3 (.ref p) (.ref q):=by
 obtain⟨xs,h1,h2⟩:=a
 obtain⟨ys,g1,g2⟩:=b
 refine .inr ⟨p,q,xs,ys,rfl,rfl,.inl ⟨h1,g1⟩,by rw[h2.1,g2.1],by rw[h2.1];exact hl,fun i x y hx hy=>?_⟩
 obtain⟨es,c,us,e1,rfl,hc,ea⟩:=h2.get hx
 obtain⟨es',d,vs,e2,rfl,hd,eb⟩:=g2.get hy
 rw[e1] at e2
 cases e2
 refine .inr ⟨c,d,us,vs,rfl,rfl,.inl ⟨hc,hd⟩,by rw[ea.1,eb.1],by rw[ea.1];exact hb es (List.mem_of_getElem? e1),fun j u v hu hv=>?_⟩
 obtain⟨e,pe,f1,rfl,hpe⟩:=ea.get hu
 obtain⟨e',qe,f2,rfl,hqe⟩:=eb.get hv
 rw[f1] at f2
 cases f2
 exact sv_ent hpe hqe
theorem rdWs_len {n:Int}{es':List E4}:∀{ws:List Str}{es:List E4}{k:Nat},rdWs n es k ws = .ok es'->es'.length<=es.length+ws.length
 | [],es,k,h=>by
  unfold rdWs at h
  cases h
  exact Nat.le_refl _
 | w::ws,es,k,h=>by
  cases e:rdE n es w with
  | none=>rw[rdWs_err e] at h;cases h
  | some x=>
   rw[rdWs_ok e] at h
   have:=rdWs_len h
   rw[List.length_append,List.length_singleton] at this
   rw[List.length_cons]
   omega
theorem rdL_len {n:Int}{i:Nat}{z:Str}{es:List E4}(h:rdL n i z = .ok es):es.length<=z.length+2:=by
 unfold rdL at h
 split at h
 . cases h
 . split at h
   . cases h
   . rename_i fs hf
     split at h
     . cases h
       have:=rdWs_len hf
       have h2:=wds_len z
       rw[List.length_drop,List.length_nil] at this
       omega
     . cases h
theorem rdLs_len {n:Int}{b:Nat}{ls':List (List E4)}:∀{zs:List Str}{ls:List (List E4)}{i:Nat},(∀z∈zs,z.length<=b)->(∀es∈ls,es.length<=b+2)->rdLs n ls i zs = .ok ls'->ls'.length<=ls.length+zs.length/\∀es∈ls',es.length<=b+2
 | [],ls,i,_,hl,h=>by
  unfold rdLs at h
  cases h
  exact⟨Nat.le_refl _,hl⟩
 | z::zs,ls,i,hz,hl,h=>by
  cases e:rdL n i z with
  | error k=>rw[rdLs_err e] at h;cases h
  | ok l=>
   rw[rdLs_ok e] at h
   have:=rdLs_len (fun y hy=>hz y (List.mem_cons_of_mem _ hy)) (fun es he=>(List.mem_append.mp he).elim (hl es) fun q=>by rw[List.mem_singleton.mp q];have:=rdL_len e;have:=hz z (by simp);omega) h
   rw[List.length_append,List.length_singleton] at this
   rw[List.length_cons]
   exact⟨by omega,this.2⟩
theorem rdAll_len {b:Nat}{zs:List Str}{ls:List (List E4)}(hz:∀z∈zs,z.length<=b)(h:rdAll zs = .ok ls):ls.length<=zs.length/\∀es∈ls,es.length<=b+2:=by
 unfold rdAll at h
 split at h
 . cases h
 . have:=rdLs_len hz (fun _ h=>by cases h) h
   rw[List.length_nil,Nat.zero_add] at this
   exact this
structure LG (m:Nat)(ls:List (List E4)):Prop where
 len:ls.length=m
 m1:1<=m
 m25:m<=25
 g:∀es∈ls,GL m es/\es.length<=25
theorem LG.smL {m:Nat}{ls:List (List E4)}(h:LG m ls):SmL ls:=by
 have a:=h.len
 have b:=h.m25
 refine⟨by omega,fun es he=>?_⟩
 have g:=h.g es he
 exact⟨by omega,fun e hx=>(g.1.g e hx).sm (by omega)⟩
theorem LG.lns {m:Nat}{ls:List (List E4)}(h:LG m ls):(labLs ls).length<=25/\(∀z∈labLs ls,z.length<=2131)/\labLs ls≠[]:=by
 have a:=h.len
 have b:=h.m25
 have c:=h.m1
 have s:=h.smL
 refine⟨by unfold labLs;rw[List.length_map];omega,fun z hz=>?_,fun e=>?_⟩
 . unfold labLs at hz
   obtain⟨es,he,rfl⟩:=List.mem_map.mp hz
   have g:=(h.g es he).2
   have t:=lW_tot (s.2 es he).2
   have j:=join_le (c:=sp1) (by decide) (lab::es.map eW)
   show (Txt.join sp1 (lab::es.map eW)).length<=2131
   omega
 . have:=congrArg List.length e
   unfold labLs at this
   rw[List.length_map,List.length_nil] at this
   omega
theorem LB.ne {H:Hp}{c b:Nat}{a D x:Addr}{vs:List V}(h:LB H c b (.ref a))(hD:H D=some (.lst (.ref x::vs))):a≠D:=by
 obtain⟨b,zs,e,ha,_⟩:=h
 cases e
 refine fun z=>?_
 rw[z,hD] at ha
 cases zs with
 | nil=>cases ha
 | cons z zs=>cases ha
noncomputable def spLaw (K:PySem.W.Frag):Sp:=fun vs H Q _=>∃(a:Addr)(ns:List Int),vs=[.ref a]/\SqL K H a (ns.map V.int)/\ns.length<=63/\∀H',Q (.bl true) H'
noncomputable def tMany (a t:Addr)(N:Nat):TS:=fun D σ H=>∃(p:Addr)(m:Nat)(v2 v4 v5 v6 v7 v8:Option V),σ=[some (.ref a),some (.ref t),v2,some (.int m),v4,v5,v6,v7,v8]/\FeedP H t p N/\1<=m/\m<=25/\N<600000 /\
 ∀(m':Nat)(H':Hp),FeedP H' t p (N+2)->1<=m'->m'<=25->D.nx [some (.ref a),some (.ref t),v2,some (.int m'),v4,v5,v6,v7,v8] H'
noncomputable def tChk:TS:=fun D σ H=>∃(m:Nat)(ls:List (List E4))(v0 v1 v2 v6 v7 v8:Option V)(la l:Addr),σ=[v0,v1,v2,some (.int m),some (.ref la),some (.ref l),v6,v7,v8]/\LabT H la ls/\LG m ls/\H l=some (.lst ((labLs ls).map V.str))/\∀H',Same H H'->D.nx σ H'
section
variable {P:Program}{w:World}{K:PySem.W.Frag}{mg:Str->Option Value}{base:Heap}
theorem scLaw:FnScope ["_law_script", "_law_feed_here", "_law_k", "_law_many", "_law_labels_here", "_law_lines_here", "_law_things", "_law_thing", "_law_handed"] ["_law_script"] (defScope sLaw):=⟨rfl,rfl,rfl,by decide +kernel,rfl,by decide +kernel,by decide +kernel⟩
theorem ok_law {cW cP c1 c2 c3 c4 c5 c6 c7 c8 c9 c10 c11 fI:Addr}{f fNu fWi fNi fIw fLl fLo fEw fNw fRs fRl fEi fOe fFa fHo fFe fTa fSa fLa fLi fLu fEn fRe fSo fBd fWm fBl fB:Addr}{fdI fd' fdNu fdWi fdNi fdIw fdLl fdLo fdEw fdNw fdRs fdRl fdEi fdOe fdFa fdHo fdFe fdTa fdSa fdLa fdLi fdLu fdEn fdRe fdSo fdBd fdWm fdBl fdB:FuncData}{tk1 tk2 tk3:Tok}(F:Fun K "law" "law" sLaw f fd') (Er:E70 K mg cW cP [c1,c2,c3,c4,c5,c6,c7,c8,c9,c10,c11])(EI:ExcI K cP fI)(FI:Fun K "__init__" "NoText.__init__" sI1 fI fdI) (bI:Binds K fdI ["self", "line", "word"] []) (mo:PySem.W.mroIn K cP (.type "object")=some true)
 (mFig:mg "FIGURES" = some (.str (Str.ofString "0123456789") tk1)) (mMP:mg "MOST_PLACES" = some (.int 24 tk2)) (mMW:mg "MOST_WRITTEN_LONG" = some (.int 999999999999 tk3))
 (FNu:Fun K "is_number" "is_number" sNum fNu fdNu) (bNu:Binds K fdNu ["thing"] []) (mNu:mg "is_number" = some (.ref fNu))
 (FWi:Fun K "is_within" "is_within" sWi fWi fdWi) (bWi:Binds K fdWi ["thing", "least", "most"] []) (mWi:mg "is_within" = some (.ref fWi))
 (FNi:Fun K "number_in" "number_in" sNi fNi fdNi) (bNi:Binds K fdNi ["word", "least", "most"] []) (mNi:mg "number_in" = some (.ref fNi))
 (FIw:Fun K "is_written" "is_written" sIw fIw fdIw) (bIw:Binds K fdIw ["word"] []) (mIw:mg "is_written" = some (.ref fIw))
 (FLl:Fun K "label_lines" "label_lines" sLl fLl fdLl) (bLl:Binds K fdLl ["labels"] []) (mLl:mg "label_lines" = some (.ref fLl))
 (FLo:Fun K "label_line" "label_line" sLo fLo fdLo) (bLo:Binds K fdLo ["label"] []) (mLo:mg "label_line" = some (.ref fLo))
 (FEw:Fun K "entry_word" "entry_word" sEw fEw fdEw) (bEw:Binds K fdEw ["entry"] []) (mEw:mg "entry_word" = some (.ref fEw))
 (FNw:Fun K "number_word" "number_word" sNw fNw fdNw) (bNw:Binds K fdNw ["number"] []) (mNw:mg "number_word" = some (.ref fNw))
 (FRs:Fun K "read_labels" "read_labels" sRs fRs fdRs) (bRs:Binds K fdRs ["lines"] []) (mRs:mg "read_labels" = some (.ref fRs))
 (FRl:Fun K "read_label" "read_label" sRl fRl fdRl) (bRl:Binds K fdRl ["n", "at", "line"] []) (mRl:mg "read_label" = some (.ref fRl))
 (FEi:Fun K "entry_in" "entry_in" sEi fEi fdEi) (bEi:Binds K fdEi ["n", "ahead", "word"] []) (mEi:mg "entry_in" = some (.ref fEi))
 (FOe:Fun K "own_entry" "own_entry" sOe fOe fdOe) (bOe:Binds K fdOe ["ahead", "hub", "parts"] []) (mOe:mg "own_entry" = some (.ref fOe))
 (FFa:Fun K "far_entry" "far_entry" sFa fFa fdFa) (bFa:Binds K fdFa ["n", "hub", "long", "parts"] []) (mFa:mg "far_entry" = some (.ref fFa))
 (FHo:Fun K "has_own_place" "has_own_place" sHo fHo fdHo) (bHo:Binds K fdHo ["entries"] []) (mHo:mg "has_own_place" = some (.ref fHo))
 (FFe:Fun K "_law_feed" "_law_feed" sFeed fFe fdFe) (bFe:Binds K fdFe ["_law_script"] []) (mFe:mg "_law_feed" = some (.ref fFe))
 (FTa:Fun K "_law_take" "_law_take" sTake fTa fdTa) (bTa:Binds K fdTa ["_law_feed_here", "_law_many"] []) (mTa:mg "_law_take" = some (.ref fTa))
 (FSa:Fun K "_law_same" "_law_same" sSame fSa fdSa) (bSa:Binds K fdSa ["_law_found", "_law_due"] []) (mSa:mg "_law_same" = some (.ref fSa))
 (FLa:Fun K "_law_labels" "_law_labels" sLa fLa fdLa) (bLa:Binds K fdLa ["_law_feed_here", "_law_many"] []) (mLa:mg "_law_labels" = some (.ref fLa))
 (FLi:Fun K "_law_lines" "_law_lines" sLi fLi fdLi) (bLi:Binds K fdLi ["_law_labels_here"] []) (mLi:mg "_law_lines" = some (.ref fLi))
 (FLu:Fun K "_law_number" "_law_number" sLu fLu fdLu) (bLu:Binds K fdLu ["_law_word"] []) (mLu:mg "_law_number" = some (.ref fLu))
 (FEn:Fun K "_law_entry" "_law_entry" sEn fEn fdEn) (bEn:Binds K fdEn ["_law_word", "_law_entries", "_law_many"] []) (mEn:mg "_law_entry" = some (.ref fEn))
 (FRe:Fun K "_law_read" "_law_read" sRe fRe fdRe) (bRe:Binds K fdRe ["_law_lines_here"] []) (mRe:mg "_law_read" = some (.ref fRe))
 (FSo:Fun K "_law_said" "_law_said" sSo fSo fdSo) (bSo:Binds K fdSo ["_law_lines_here"] []) (mSo:mg "_law_said" = some (.ref fSo))
 (FBd:Fun K "_law_bent_word" "_law_bent_word" sBd fBd fdBd) (bBd:Binds K fdBd ["_law_feed_here", "_law_word"] []) (mBd:mg "_law_bent_word" = some (.ref fBd))
 (FWm:Fun K "_law_word_more" "_law_word_more" sWm fWm fdWm) (bWm:Binds K fdWm ["_law_feed_here", "_law_words"] []) (mWm:mg "_law_word_more" = some (.ref fWm))
 (FBl:Fun K "_law_bent_line" "_law_bent_line" sBl fBl fdBl) (bBl:Binds K fdBl ["_law_feed_here", "_law_line"] []) (mBl:mg "_law_bent_line" = some (.ref fBl))
 (FB:Fun K "_law_bent" "_law_bent" sBent fB fdB) (bB:Binds K fdB ["_law_feed_here", "_law_lines_here"] []) (mB:mg "_law_bent" = some (.ref fB))
 (mLen:mg "len" = none) (mRange:mg "range" = none) (mTuple:mg "tuple" = none) (mMax:mg "max" = none) (mList:mg "list" = none) (mIsi:mg "isinstance" = none) (mInt:mg "int" = none) (mBool:mg "bool" = none) (mAll:mg "all" = none) (mAny:mg "any" = none) (mStr:mg "str" = none) (mEnum:mg "enumerate" = none) (mZip:mg "zip" = none) (mVal:mg "ValueError" = none):FnOk P w K mg base CX0 9 f fd' ["_law_script"] (spLaw K):=by
 have GI:FnOk P w K mg base CX0 1 fI fdI ["self", "line", "word"] (spXI cP "line" "word"):=ok_I1 FI EI mo Er.n1 Er.n2
 have GFe:FnOk P w K mg base CX0 8 fFe fdFe ["_law_script"] (spFeed K):=(ok_feed FFe mInt).mono (by decide)
 have GTa:FnOk P w K mg base CX0 8 fTa fdTa ["_law_feed_here", "_law_many"] spTakeP:=(ok_takeP FTa mLen).mono (by decide)
 have GLa:FnOk P w K mg base CX0 8 fLa fdLa ["_law_feed_here", "_law_many"] spLa:=(ok_la FLa FTa bTa mTa mLen mRange mTuple).mono (by decide)
 have GLi:FnOk P w K mg base CX0 8 fLi fdLi ["_law_labels_here"] spLi:=(ok_li FLi mStr).mono (by decide)
 have GLl:FnOk P w K mg base CX0 8 fLl fdLl ["labels"] spLl:=(ok_ll FLl FLo bLo mLo FEw bEw mEw FNw bNw mNw mStr).mono (by decide)
 have GSa:FnOk P w K mg base CX0 8 fSa fdSa ["_law_found", "_law_due"] (spSm 3):=(ok_same FSa bSa mSa mIsi mTuple mList mBool mLen mZip 3).mono (by decide)
 have GNi:FnOk P w K mg base CX0 3 fNi fdNi ["word", "least", "most"] spNi:=ok_ni FNi FIw bIw mIw FWi bWi mWi FNu bNu mNu mFig mAll mLen mStr mIsi mInt mBool
 have GEi:FnOk P w K mg base CX0 5 fEi fdEi ["n", "ahead", "word"] spEi:=ok_ei FEi FNi bNi mNi GNi FOe bOe mOe FFa bFa mFa FHo bHo mHo mAny mLen mMW
 have GRl:=ok_rl FRl Er.mP EI bI GI FEi bEi mEi GEi FHo bHo mHo mAny mMP mLen mEnum mTuple
 have GRs:=ok_rs FRs Er.mP EI bI GI FRl bRl mRl GRl mLen mEnum mTuple
 have GSo:FnOk P w K mg base CX0 8 fSo fdSo ["_law_lines_here"] spSo:=ok_so FSo Er EI FRs bRs mRs GRs mIsi mVal
 have GRe:FnOk P w K mg base CX0 8 fRe fdRe ["_law_lines_here"] spRe:=(ok_re FRe FEn bEn mEn FLu bLu mLu mLen mInt mMax mRange mTuple).mono (by decide)
 have GBe:FnOk P w K mg base CX0 8 fB fdB ["_law_feed_here", "_law_lines_here"] spBe:=(ok_be FB FTa bTa mTa FBl bBl mBl FBd bBd mBd FWm bWm mWm mLen mRange mStr).mono (by decide)
 refine F.ok scLaw (fun vs H Q E h=>?_) (fun cdv A outer s H vs Q E hr h=>?_)
 . obtain⟨a,ns,rfl,_⟩:=h
   rfl
 . obtain⟨a,ns,rfl,hS,hlen,k⟩:=h
   have hu0:=hr.units0
   refine⟨_,pss_cons (ps_set (i:=1) scLaw.nd rfl (Or.inr rfl) (pe_call GFe hr rfl mFe FFe.kp bFe .nil pass0 (pa_cons (pv 0) pa_nil)))
    (pss_cons (ps_for PassesOwn.never rfl (pi_range1 rfl mRange (pa_int pa_nil)) (pg_name (i:=2) scLaw.nd rfl (Or.inl rfl))
     (pss_cons (ps_set (i:=3) scLaw.nd rfl (Or.inl rfl) (pe_op op_add pe_int (pe_call GTa hr rfl mTa FTa.kp bTa .nil pass0 (pa_cons (pv 1) (pa_int pa_nil)))))
     (pss_cons (ps_as (u':=fun D σ H1=>∃N t,tMany a t N D σ H1) (ps_if (pt_cmpR op_eq (pe_call GTa hr rfl mTa FTa.kp bTa .nil pass0 (pa_cons (pv 1) (pa_int pa_nil))) pe_int (nomark _)) (pss_one (ps_set (i:=3) scLaw.nd rfl (Or.inl rfl) (pe_op op_add pe_int (pe_call GTa hr rfl mTa FTa.kp bTa .nil pass0 (pa_cons (pv 1) (pa_int pa_nil)))))) pss_nil) ?jw)
     (pss_cons (ps_set (i:=4) scLaw.nd rfl (Or.inl rfl) (pe_call GLa hr rfl mLa FLa.kp bLa .nil pass0 (pa_cons (pv 1) (pa_cons (pv 3) pa_nil))))
     (pss_cons (ps_set (i:=5) scLaw.nd rfl (Or.inr rfl) (pe_call GLi hr rfl mLi FLi.kp bLi .nil pass0 (pa_cons (pv 4) pa_nil)))
     (pss_cons (ps_as (u':=tChk) (ps_if (pt_cmpR op_lt (pv 3) pe_int (nomark _))
      (pss_one (ps_if (PW.pt (pw_or (pt_not (pt_val (pe_call GSa hr rfl mSa FSa.kp bSa .nil pass0 (pa_cons (pe_call GLl hr rfl mLl FLl.kp bLl .nil pass0 (pa_cons (pv 4) pa_nil)) (pa_cons (pv 5) pa_nil)))))
       (pw_or1 (pt_not (pt_val (pe_call GSa hr rfl mSa FSa.kp bSa .nil pass0 (pa_cons (pe_call GSo hr rfl mSo FSo.kp bSo .nil pass0 (pa_cons (pv 5) pa_nil)) (pa_cons (pv 4) pa_nil)))))))) (pss_one (ps_ret pe_bl)) pss_nil)) pss_nil) ?jc)
     (pss_cons (ps_set (i:=6) scLaw.nd rfl (Or.inl rfl) (pe_op op_cat (pe_lst (pa_cons (pv 5) pa_nil)) (pe_comp (own:=["_law_turn"]) (cn:=["_law_feed_here", "_law_lines_here"]) (ci:=[1,5]) rfl (csc rfl rfl) ⟨rfl,rfl,rfl,rfl,rfl,rfl,trivial⟩ rfl
      (pi_range1 rfl mRange (pa_int pa_nil)) (fun _ _ _ _=>pg_name (i:=0) (nd_of rfl) rfl (Or.inl rfl)) (fun _ _ _ _=>pts_nil)
      (fun _ _ _ _=>pe_call GBe hr rfl mB FB.kp bB .nil pass0 (pa_cons (pv 1) (pa_cons (pv 2) pa_nil))))))
     (pss_cons (ps_expr (pe_bm PySem.F.plainAttrs_list PySem.F.slot_list_append PySem.F.type_list_append mt_append (pv 6) (pa_cons (pe_call GBe hr rfl mB FB.kp bB .nil pass0 (pa_cons (pv 1) (pa_cons (pe_op op_cat (pe_ix ix_list (pv 6) (pe_un un_neg pe_int) (fun _ _=>rfl)) (pe_slice sl_list (pv 5) po_none (po_some pe_int))) pa_nil))) pa_nil)))
     (pss_one (ps_for PassesOwn.never rfl (pi_list (pv 6)) (pg_name (i:=7) scLaw.nd rfl (Or.inl rfl))
      (pss_cons (ps_set (i:=8) scLaw.nd rfl (Or.inl rfl) (pe_callTy call_list_of (by rfl) mList (by decide +kernel) (pa_cons (pv 7) pa_nil)))
      (pss_one (ps_if (PW.pt (pw_or (pt_not (pt_val (pe_call GSa hr rfl mSa FSa.kp bSa .nil pass0 (pa_cons (pe_call GSo hr rfl mSo FSo.kp bSo .nil pass0 (pa_cons (pv 8) pa_nil)) (pa_cons (pe_call GRe hr rfl mRe FRe.kp bRe .nil pass0 (pa_cons (pv 7) pa_nil)) pa_nil)))))
       (pw_or1 (pt_cmpR (op_neLS hu0) (pv 8) (pv 7) (nomark _))))) (pss_one (ps_ret pe_bl)) pss_nil)))))))))))))
    (pss_one (ps_ret pe_bl))),?_⟩
   case jw=>
    rintro D σ H1 ⟨N,t,p,m,v2,v4,v5,v6,v7,v8,rfl,T1,m1,m25,hN,q⟩
    refine⟨_,rfl,t,p,N,10,rfl,T1,by omega,by decide,by decide,fun r H2 r0 r1 T2 he2=>?_⟩
    refine⟨rfl,_,rfl,ite2 (fun _=>?_) (fun _=>?_)⟩
    . refine⟨_,rfl,t,p,_,3,rfl,T2,by omega,by decide,by decide,fun r3 H3 r30 r31 T3 he3=>⟨_,_,rfl,rfl,?_⟩⟩
      obtain⟨j,rfl⟩:=Int.eq_ofNat_of_zero_le r30
      have:=q (23+j) H3 T3 (by omega) (by omega)
      rw[show (((23+j:Nat):Int))=23+(j:Int) by omega] at this
      exact this
    . exact q m H2 (T2.mono (by omega)) m1 m25
   case jc=>
    rintro D σ H1 ⟨m,ls,v0,v1,v2,v6,v7,v8,la,l,rfl,L1,G,hl,q⟩
    have ln:=G.lns
    have gl:=G.len
    have g25:=G.m25
    refine⟨_,rfl,_,_,rfl,rfl,_,rfl,ite2 (fun c=>?_) (fun _=>q _ (Same.refl _))⟩
    have c24:m<=24:=by
     have:=of_decide_eq_true c
     omega
    refine⟨_,rfl,la,ls,rfl,L1,G.smL,fun l2 H2 s2 hl2=>?_⟩
    refine⟨_,rfl,_,_,rfl,sv_ls hl2 (s2 _ _ hl) (by omega),fun H3 s3=>⟨_,rfl,ifF rfl ?_⟩⟩
    have s23:=s2.trans s3
    have rd:rdAll (labLs ls) = .ok ls:=rdAll_ln (fun es he=>by rw[gl];exact (G.g es he).1) (by have:=G.m1;omega) (by omega)
    refine⟨_,rfl,l,labLs ls,rfl,⟨s23 _ _ hl,fun y hy=>Nat.le_trans (ln.2.1 y hy) (by decide)⟩,by omega,fun ls' en wb H4 s4 W4=>?_,fun i k en p H4 s4 hp=>?_⟩
    . rw[rd] at en
      cases en
      refine⟨_,rfl,_,_,rfl,sv_lab W4 (L1.keep (s23.trans s4)) (by omega) (fun es he=>by have:=(G.g es he).2;omega),fun H5 s5=>⟨_,rfl,ifF rfl ?_⟩⟩
      exact q _ (s23.trans (s4.trans s5))
    . rw[rd] at en
      cases en
   refine⟨_,rfl,a,ns,rfl,hS,hlen,fun t H1 ht T1 s1=>?_⟩
   refine⟨2,rfl,by decide,by decide,for_range (lo:=0) (n:=2) (fun i σ H2=>i<=2/\∃v2 v3 v4 v5 v6 v7 v8:Option V,σ=[some (.ref a),some (.ref t),v2,v3,v4,v5,v6,v7,v8]/\FeedAt H2 t (5000*i)) ⟨by decide,_,_,_,_,_,_,_,rfl,T1⟩ (fun i σ H2 hi z=>?_) (fun σ H2 z=>?_)⟩
   . obtain⟨_,v2,v3,v4,v5,v6,v7,v8,rfl,p,T2⟩:=z
     rw[Int.zero_add]
     refine⟨_,rfl,t,p,_,6,rfl,T2,by omega,by decide,by decide,fun r H3 r0 r1 T3 he3=>⟨_,_,rfl,rfl,?_⟩⟩
     obtain⟨j,rfl⟩:=Int.eq_ofNat_of_zero_le r0
     have e1j:(1:Int)+(j:Int)=((1+j:Nat):Int):=by omega
     refine⟨_,t,p,1+j,_,_,_,_,_,_,(by rw[<-e1j];rfl),T3,by omega,by omega,by omega,?_⟩
     intro m H4 T4 m1 m25
     refine⟨_,rfl,_,rfl,t,p,_,m,rfl,T4,by omega,m1,m25,fun la ls H5 L5 len5 g5 T5 s5=>?_⟩
     have G:LG m ls:=⟨len5,m1,m25,g5⟩
     refine⟨_,rfl,la,ls,rfl,L5,G.smL,fun l H6 _ s6 hl6=>?_⟩
     refine⟨m,ls,_,_,_,_,_,_,la,l,rfl,L5.keep s6,G,hl6,fun H7 s7=>?_⟩
     have tw:=G.lns
     have hl7:=s7 _ _ hl6
     have T7:=(T5.same s6).same s7
     generalize labLs ls=zs at tw hl7
     obtain⟨tw1,tw2,zn⟩:=tw
     clear hl6 L5 T5 s6 s7 T4 s5 G g5 len5
     refine⟨_,rfl,by show 1<=sizeLine;decide,fun e1 he1=>?_⟩
     have a8:=same_laid (o:=.lst [.ref l]) he1
     have hl8:=a8 _ _ hl7
     have T8:=T7.same a8
     have he8:(upd H7 e1 (.lst [.ref l])) e1=some (.lst [.ref l]):=upd_same
     have n1:=(T7.ne he1).1
     generalize upd H7 e1 (.lst [.ref l])=H8 at hl8 T8 he8 ⊢
     refine⟨6,rfl,by decide,by decide,[.ref t,.ref l],rfl,fun D hD=>?_⟩
     have nDt:=T8.ne hD
     have s9:=same_laid (o:=.lst []) hD
     have nl:l≠t:=T8.neS hl8
     refine comp_range (lo:=0) (n:=6) (fun j vs H9=>j<=6/\vs.length=j/\(∀v∈vs,LBn (upd H8 D (.lst [])) H9 77 10730 v)/\FeedP H9 t p (5000*i+4500+10*j)/\Sm t H8 H9/\H9 D=some (.lst vs)) ⟨by decide,rfl,(fun v hv=>by cases hv),(T8.same s9).mono (by omega),Sm.of s9,upd_same⟩ (fun j vs H9 z=>?_) (fun j vs H9 hj z=>?_) (fun vs H9 z=>?_)
     . exact small_line (by have:=z.2.1;have:=z.1;omega)
     . obtain⟨_,hv,al,T9,s9',hD9⟩:=z
       have hl9:=s9' _ _ nl hl8
       refine⟨⟨rfl,rfl⟩,?_⟩
       refine tyes ?_
       refine⟨_,rfl,_,rfl,t,p,l,_,25,2131,zs,rfl,T9,by omega,hl9,zn,tw1,tw2,by decide,by decide,fun v H10 L10 T10 s10=>?_⟩
       have hD10:=s10 _ _ nDt.1 hD9
       have nw:∀{v:V},LBn (upd H8 D (.lst [])) H10 77 10730 v->∀a,v = .ref a->a≠D:=fun h a e=>by
        obtain⟨b,zs,e',h0,_⟩:=h
        rw[e] at e'
        cases e'
        refine fun z=>?_
        rw[z,upd_same] at h0
        cases h0
       have L10':LBn (upd H8 D (.lst [])) H10 77 10730 v:=by
        obtain⟨a,ys,e,h0,ha,h1,h2⟩:=L10
        refine⟨a,ys,e,?_,ha,h1,h2⟩
        rw[upd_ne (Ne.symm (ne_of_none hD9 h0))]
        exact sm_none T9 s9' h0
       have al':∀x∈vs,LBn (upd H8 D (.lst [])) H10 77 10730 x:=fun x hx=>(al x hx).sm T9 s10
       refine⟨hD10,hj,by rw[List.length_append,hv];rfl,fun x hx=>?_,(T10.upd nDt.1 nDt.2).mono (by omega),fun b o n e=>?_,upd_same⟩
       . have hx':LBn (upd H8 D (.lst [])) H10 77 10730 x:=by
          rcases List.mem_append.mp hx with h | h
          . exact al' x h
          . rw[List.mem_singleton.mp h];exact L10'
         obtain⟨a,ys,e,h0,ha,ht⟩:=id hx'
         exact⟨a,ys,e,h0,by rw[upd_ne (nw hx' a e)];exact ha,ht⟩
       . have nD:b≠D:=ne_of_none e hD
         rw[upd_ne nD]
         exact s10 _ _ n (s9' _ _ n e)
     . obtain⟨_,hv,al,T9,s9',hD9⟩:=z
       have hl9:=s9' _ _ nl hl8
       have he9:=s9' _ _ n1 he8
       refine⟨e1,D,_,_,rfl,rfl,he9,hD9,by rw[hv];show 7<=sizeLine;decide,fun L hL=>?_⟩
       have s10:=same_laid (o:=.lst ([.ref l]++vs)) hL
       have T10:=T9.same s10
       have nLt:=T9.ne hL
       have hL10:(upd H9 L (.lst ([.ref l]++vs))) L=some (.lst (.ref l::vs)):=upd_same
       have hl10:=s10 _ _ hl9
       have al10:∀v∈V.ref l::vs,LB (upd H9 L (.lst ([.ref l]++vs))) 77 10730 v:=fun v hv=>by
        rcases List.mem_cons.mp hv with rfl | hv
        . exact⟨l,zs,rfl,hl10,by omega,fun z hz=>by have:=tw2 z hz;omega⟩
        . exact (al v hv).lb.keep s10
       generalize upd H9 L (.lst ([.ref l]++vs))=H10 at s10 T10 hL10 hl10 al10 ⊢
       obtain⟨vs',x1,rfl⟩:∃vs' x,vs=vs'++[x]:=by
        rcases List.eq_nil_or_concat vs with rfl | ⟨vs',x,rfl⟩
        . cases hv
        . exact⟨vs',x,List.concat_eq_append⟩
       rw[List.length_append,List.length_singleton] at hv
       have hx1:=al10 x1 (by simp)
       obtain⟨a1,ys,rfl,ha1,ht1,ht2⟩:=id hx1
       obtain⟨z0,zs0,ez⟩:∃z0 zs0,zs=z0::zs0:=by
        cases zs with
        | nil=>exact absurd rfl zn
        | cons z0 zs0=>exact⟨z0,zs0,rfl⟩
       refine⟨_,rfl,.inl ⟨rfl,_,SqL.of hL10⟩,?_⟩
       refine⟨_,rfl,_,rfl,1,rfl,L,_,_,.ref a1,rfl,rfl,SqL.of hL10,(show atI ((V.ref l::vs')++[V.ref a1]) (-1)=some (V.ref a1) from atI_last _ _),_,rfl,1,rfl,l,_,rfl,SqL.of hl10,fun e2 he2=>?_⟩
       rw[show (some 1:Option Int)=some ((1:Nat):Int) from rfl,cutV_take,ez,show List.take 1 ((z0::zs0).map V.str)=[z0].map V.str from rfl]
       have s11:=same_laid (o:=.lst ([z0].map V.str)) he2
       have hsl:1000000<=sizeLine:=by decide
       refine⟨a1,e2,_,_,rfl,rfl,s11 _ _ ha1,upd_same,by rw[List.length_map,List.length_map];show ys.length+1<=_;omega,fun e3 he3=>?_⟩
       have s12:=same_laid (o:=.lst (ys.map V.str++[z0].map V.str)) he3
       have s102:=s11.trans s12
       have T12:=T10.same s102
       have h3:(upd (upd H10 e2 (.lst ([z0].map V.str))) e3 (.lst (ys.map V.str++[z0].map V.str))) e3=some (.lst ((ys++[z0]).map V.str)):=by rw[List.map_append];exact upd_same
       refine⟨t,p,e3,_,78,10730,ys++[z0],rfl,T12,by omega,h3,by simp,by rw[List.length_append,List.length_singleton];omega,?_,by decide,by decide,fun v H13 L13 T13 s13=>?_⟩
       . intro z hz
         rcases List.mem_append.mp hz with h | h
         . exact ht2 z h
         . rw[List.mem_singleton.mp h]
           have:=tw2 z0 (by rw[ez];simp)
           omega
       have hL12:=s102 _ _ hL10
       have hL13:=s13 _ _ nLt.1 hL12
       refine⟨L,_,v,rfl,rfl,hL13,by rw[List.length_cons,List.length_append,List.length_singleton];omega,?_⟩
       have al13:∀x∈V.ref l::(vs'++[.ref a1]),LB H13 300 60000 x:=fun x hx=>(((al10 x hx).keep s102).sm T12 s13).mono (by decide) (by decide)
       have all:∀x∈(V.ref l::(vs'++[.ref a1]))++[v],LB (upd H13 L (.lst ((V.ref l::(vs'++[.ref a1]))++[v]))) 300 60000 x:=fun x hx=>by
        have hx':LB H13 300 60000 x:=by
         rcases List.mem_append.mp hx with h | h
         . exact al13 x h
         . rw[List.mem_singleton.mp h];exact L13.lb.mono (by decide) (by decide)
        obtain⟨b,us,rfl,hb,hu⟩:=id hx'
        exact⟨b,us,rfl,by rw[upd_ne (hx'.ne hL13)];exact hb,hu⟩
       have T14:=(T13.upd nLt.1 nLt.2 (o:=.lst ((V.ref l::(vs'++[.ref a1]))++[v]))).mono (M:=5000*(i+1)) (by omega)
       have hL14:(upd H13 L (.lst ((V.ref l::(vs'++[.ref a1]))++[v]))) L=some (.lst ((V.ref l::(vs'++[.ref a1]))++[v])):=upd_same
       generalize upd H13 L (.lst ((V.ref l::(vs'++[.ref a1]))++[v]))=H14 at all T14 hL14 ⊢
       generalize (V.ref l::(vs'++[.ref a1]))++[v]=ws at all hL14
       clear al13 hL13 L13 T13 s13 hL12 h3 T12 s102 s12 he3 s11 he2 ha1 hx1 al10 al hL10 T10 s10
       refine⟨_,rfl,L,rfl,⟨_,SqL.of hL14⟩,?_⟩
       refine for_list (a:=L) (xs:=ws) (fun j σ H15=>∃v7 v8:Option V,σ=[some (.ref a),some (.ref t),some (.int i),some (.int m),some (.ref la),some (.ref l),some (.ref L),v7,v8]/\Same H14 H15) ⟨_,_,rfl,Same.refl _⟩ (fun j σ H15 _ z=>?_) (fun j x σ H15 hx z=>?_) (fun σ H15 z=>?_)
       . obtain⟨_,_,_,s15⟩:=z
         exact SqL.of (s15 _ _ hL14)
       . obtain⟨v7,v8,rfl,s15⟩:=z
         obtain⟨b,us,rfl,hb,hu1,hu2⟩:=(all x (List.mem_of_getElem? hx)).keep s15
         refine⟨_,rfl,b,_,rfl,.inl (SqL.of hb),fun c hc=>?_⟩
         have s16:=same_laid (o:=.lst (us.map V.str)) hc
         have hc6:(upd H15 c (.lst (us.map V.str))) c=some (.lst (us.map V.str)):=upd_same
         have hb6:=s16 _ _ hb
         generalize upd H15 c (.lst (us.map V.str))=H16 at s16 hc6 hb6 ⊢
         have bd:∀y∈us,y.length<=100000:=fun y hy=>by have:=hu2 y hy;omega
         refine⟨_,rfl,c,us,rfl,⟨hc6,bd⟩,by omega,fun n1 en wb H17 s17 W17=>?_,fun i1 k1 en q1 H17 s17 hq=>?_⟩
         . refine⟨_,rfl,b,us,rfl,⟨s17 _ _ hb6,bd⟩,by omega,fun n2 en2 wc H18 s18 W18=>?_,fun i2 k2 en2 q2 H18 s18 hq2=>?_⟩
           . rw[en] at en2
             cases en2
             have rl:=rdAll_len hu2 en
             refine⟨_,_,rfl,sv_lab (W17.keep s18) W18 (by omega) (fun es he=>by have:=rl.2 es he;omega),fun H19 s19=>⟨_,rfl,ifF rfl ?_⟩⟩
             have s69:=s17.trans (s18.trans s19)
             refine⟨_,rfl,_,rfl,c,b,us,rfl,rfl,SqL.of (s69 _ _ hc6),SqL.of (s69 _ _ hb6),_,rfl,ifF rfl ?_⟩
             exact⟨_,_,rfl,s15.trans (s16.trans s69)⟩
           . rw[en] at en2
             cases en2
         . refine⟨_,rfl,b,us,rfl,⟨s17 _ _ hb6,bd⟩,by omega,fun n2 en2 wc H18 s18 W18=>?_,fun i2 k2 en2 q2 H18 s18 hq2=>?_⟩
           . rw[en] at en2
             cases en2
           . rw[en] at en2
             cases en2
             refine⟨_,_,rfl,sv_non (s18 _ _ hq) hq2,fun H19 s19=>⟨_,rfl,ifF rfl ?_⟩⟩
             have s69:=s17.trans (s18.trans s19)
             refine⟨_,rfl,_,rfl,c,b,us,rfl,rfl,SqL.of (s69 _ _ hc6),SqL.of (s69 _ _ hb6),_,rfl,ifF rfl ?_⟩
             exact⟨_,_,rfl,s15.trans (s16.trans s69)⟩
       . obtain⟨v7,v8,rfl,s15⟩:=z
         exact⟨by omega,_,_,_,_,_,_,_,rfl,p,T14.same s15⟩
   . exact k _
end
end K70
namespace K70
open PySem L2 WM
noncomputable abbrev sT:String->Str:=Str.ofString
noncomputable abbrev kH:=PyData.keyHash
noncomputable abbrev dE:=DictEntry.mk
noncomputable abbrev vS:=Value.str
noncomputable abbrev vI:=Value.int
noncomputable abbrev vR:=Value.ref
noncomputable abbrev vB:=Value.bool
noncomputable abbrev vN:Value:=Value.none
noncomputable abbrev vT:=Value.type
noncomputable abbrev oM:=Obj.mk
noncomputable abbrev cQ (x:Array Value):Obj:=oM (vT "code") .none (.fields x) #[]
noncomputable abbrev fQ (x:FuncData):Obj:=oM (vT "function") .none (.func x) #[]
noncomputable abbrev fT (x:String)(i:Nat)(m:Value)(c:Nat):Obj:=fQ (.mk (sT x) (sT x) (L2.defArgs (top i)) (FuncBody.stmts (L2.defBody (top i))) (L2.defScope (top i)) 3 [] vN vN vN m .none (vR c) vN 0)
noncomputable abbrev qS (x:String)(n:Nat):Value:=vS (sT x) n
noncomputable abbrev kE (P:Params)(x:String)(n:Nat):Value->DictEntry:=dE (kH P (sT x)) (qS x n)
noncomputable def Kf:Params->PySem.W.Frag:=fun P=>[
(2,oM vN .none (Data.dict #[]) #[]),
(3,oM (vT "dict") .none (Data.dict #[kE P "__name__" 165 (qS "law_labelways_k70_label_lines" 569),kE P "__doc__" 166 vN,kE P "__package__" 167 vN,kE P "__loader__" 168 (Value.builtin "__main__.__loader__#opaque"),kE P "__spec__" 169 vN,kE P "__annotations__" 170 (vR 6),kE P "__builtins__" 171 (vR 4),kE P "__file__" 173 (qS "/claim/cut.py" 172),kE P "__cached__" 174 vN,kE P "WayError" 206 (vR 24),kE P "NoLabels" 233 (vR 44),kE P "NoLeast" 260 (vR 63),kE P "NoPlan" 287 (vR 82),kE P "NoText" 314 (vR 101),kE P "NoOrder" 330 (vR 113),kE P "NoTree" 346 (vR 125),kE P "NoRing" 362 (vR 137),kE P "NoPosts" 378 (vR 149),kE P "NoTie" 394 (vR 161),kE P "NoPart" 410 (vR 173),kE P "NoRow" 426 (vR 185),kE P "TooMany" 442 (vR 197),kE P "FIGURES" 446 (qS "0123456789" 445),kE P "is_number" 453 (vR 206),kE P "is_within" 462 (vR 213),kE P "number_in" 472 (vR 220),kE P "is_written" 478 (vR 225),kE P "MOST_PLACES" 480 (vI 24 479),kE P "MOST_WRITTEN_LONG" 484 (vI 999999999999 483),kE P "label_lines" 490 (vR 230),kE P "label_line" 496 (vR 235),kE P "entry_word" 502 (vR 240),kE P "number_word" 509 (vR 247),kE P "read_labels" 515 (vR 252),kE P "read_label" 529 (vR 259),kE P "entry_in" 541 (vR 266),kE P "own_entry" 550 (vR 273),kE P "far_entry" 562 (vR 280),kE P "has_own_place" 568 (vR 285),kE P "_law_feed" 577 (vR 292),kE P "_law_take" 589 (vR 299),kE P "_law_same" 595 (vR 304),kE P "_law_labels" 609 (vR 311),kE P "_law_lines" 615 (vR 316),kE P "_law_number" 621 (vR 321),kE P "_law_entry" 627 (vR 326),kE P "_law_read" 633 (vR 331),kE P "_law_said" 642 (vR 338),kE P "_law_bent_word" 654 (vR 345),kE P "_law_word_more" 660 (vR 350),kE P "_law_bent_line" 672 (vR 357),kE P "_law_bent" 682 (vR 364),kE P "law" 688 (vR 369)] 53) #[]),
(23,oM (vT "dict") .none (Data.dict #[kE P "__module__" 196 (qS "labelways.errors" 187),kE P "__firstlineno__" 200 (vI 2 199),kE P "__static_attributes__" 201 (vR 22),kE P "__weakref__" 203 (vR 25),kE P "__doc__" 204 vN] 3) #[]),
(24,oM (vT "type") .none (Data.cls (ClassData.mk (sT "WayError") [vT "ValueError"] [vR 24,vT "ValueError",vT "Exception",vT "BaseException",vT "object"] 23 (sT "WayError") true [] [vR 44,vR 63,vR 82,vR 101,vR 113,vR 125,vR 137,vR 149,vR 161,vR 173,vR 185,vR 197] false .none false)) #[.some (vR 15),.none,.some (qS "WayError" 189),.some (qS "WayError" 197),.some (Value.builtin "ValueError.__new__"),.some (vB true)]),
(25,oM (vT "getset_descriptor") .none (Data.fields #[qS "__weakref__" 202,vR 24,Value.builtin "ExceptionGroup.__weakref__",vN]) #[]),
(40,cQ #[qS "__init__" 219,qS "NoLabels.__init__" 220,qS "/claim/cut.py" 221,vI 6 0,vI 3 0,vI 0 0,vI 0 0,vI 3 0,vR 35,vB true,vI 181 0,vR 36,vN,vR 37,vR 38,vR 39,vI 225 0,vI 6 0,qS "/claim/cut.py" 226]),
(41,fQ (.mk (sT "__init__") (sT "NoLabels.__init__") (Arguments.mk [] [Arg.mk (sT "self") .none (Pos.mk 6 17 6 21),Arg.mk (sT "word") .none (Pos.mk 6 23 6 27),Arg.mk (sT "at") .none (Pos.mk 6 29 6 31)] .none [] [] .none []) (FuncBody.stmts [Stmt.Assign [Expr.Attribute (Expr.Name (sT "self") (Pos.mk 7 8 7 12)) (sT "word") (Pos.mk 7 8 7 17)] (Expr.Name (sT "word") (Pos.mk 7 20 7 24)) (Pos.mk 7 8 7 24),Stmt.Assign [Expr.Attribute (Expr.Name (sT "self") (Pos.mk 8 8 8 12)) (sT "at") (Pos.mk 8 8 8 15)] (Expr.Name (sT "at") (Pos.mk 8 18 8 20)) (Pos.mk 8 8 8 20)]) (Scope.mk ScopeKind.function [(sT "self",NameKind.local),(sT "word",NameKind.local),(sT "at",NameKind.local)] false false []) 3 [] vN vN vN (qS "labelways.errors" 187) .none (vR 40) vN 0)),
(43,oM (vT "dict") .none (Data.dict #[kE P "__module__" 214 (qS "labelways.errors" 187),kE P "__firstlineno__" 218 (vI 4 217),kE P "__init__" 227 (vR 41),kE P "__static_attributes__" 230 (vR 42),kE P "__doc__" 231 vN] 2) #[]),
(44,oM (vT "type") .none (Data.cls (ClassData.mk (sT "NoLabels") [vR 24] [vR 44,vR 24,vT "ValueError",vT "Exception",vT "BaseException",vT "object"] 43 (sT "NoLabels") true [] [] false .none false)) #[.some (vR 28),.none,.some (qS "NoLabels" 207),.some (qS "NoLabels" 215),.some (Value.builtin "ValueError.__new__"),.some (vB true)]),
(59,cQ #[qS "__init__" 246,qS "NoLeast.__init__" 247,qS "/claim/cut.py" 248,vI 11 0,vI 3 0,vI 0 0,vI 0 0,vI 3 0,vR 54,vB true,vI 181 0,vR 55,vN,vR 56,vR 57,vR 58,vI 252 0,vI 11 0,qS "/claim/cut.py" 253]),
(60,fQ (.mk (sT "__init__") (sT "NoLeast.__init__") (Arguments.mk [] [Arg.mk (sT "self") .none (Pos.mk 11 17 11 21),Arg.mk (sT "word") .none (Pos.mk 11 23 11 27),Arg.mk (sT "at") .none (Pos.mk 11 29 11 31)] .none [] [] .none []) (FuncBody.stmts [Stmt.Assign [Expr.Attribute (Expr.Name (sT "self") (Pos.mk 12 8 12 12)) (sT "word") (Pos.mk 12 8 12 17)] (Expr.Name (sT "word") (Pos.mk 12 20 12 24)) (Pos.mk 12 8 12 24),Stmt.Assign [Expr.Attribute (Expr.Name (sT "self") (Pos.mk 13 8 13 12)) (sT "at") (Pos.mk 13 8 13 15)] (Expr.Name (sT "at") (Pos.mk 13 18 13 20)) (Pos.mk 13 8 13 20)]) (Scope.mk ScopeKind.function [(sT "self",NameKind.local),(sT "word",NameKind.local),(sT "at",NameKind.local)] false false []) 3 [] vN vN vN (qS "labelways.errors" 187) .none (vR 59) vN 0)),
(62,oM (vT "dict") .none (Data.dict #[kE P "__module__" 241 (qS "labelways.errors" 187),kE P "__firstlineno__" 245 (vI 9 244),kE P "__init__" 254 (vR 60),kE P "__static_attributes__" 257 (vR 61),kE P "__doc__" 258 vN] 2) #[]),
(63,oM (vT "type") .none (Data.cls (ClassData.mk (sT "NoLeast") [vR 24] [vR 63,vR 24,vT "ValueError",vT "Exception",vT "BaseException",vT "object"] 62 (sT "NoLeast") true [] [] false .none false)) #[.some (vR 47),.none,.some (qS "NoLeast" 234),.some (qS "NoLeast" 242),.some (Value.builtin "ValueError.__new__"),.some (vB true)]),
(78,cQ #[qS "__init__" 273,qS "NoPlan.__init__" 274,qS "/claim/cut.py" 275,vI 16 0,vI 3 0,vI 0 0,vI 0 0,vI 3 0,vR 73,vB true,vI 181 0,vR 74,vN,vR 75,vR 76,vR 77,vI 279 0,vI 16 0,qS "/claim/cut.py" 280]),
(79,fQ (.mk (sT "__init__") (sT "NoPlan.__init__") (Arguments.mk [] [Arg.mk (sT "self") .none (Pos.mk 16 17 16 21),Arg.mk (sT "word") .none (Pos.mk 16 23 16 27),Arg.mk (sT "at") .none (Pos.mk 16 29 16 31)] .none [] [] .none []) (FuncBody.stmts [Stmt.Assign [Expr.Attribute (Expr.Name (sT "self") (Pos.mk 17 8 17 12)) (sT "word") (Pos.mk 17 8 17 17)] (Expr.Name (sT "word") (Pos.mk 17 20 17 24)) (Pos.mk 17 8 17 24),Stmt.Assign [Expr.Attribute (Expr.Name (sT "self") (Pos.mk 18 8 18 12)) (sT "at") (Pos.mk 18 8 18 15)] (Expr.Name (sT "at") (Pos.mk 18 18 18 20)) (Pos.mk 18 8 18 20)]) (Scope.mk ScopeKind.function [(sT "self",NameKind.local),(sT "word",NameKind.local),(sT "at",NameKind.local)] false false []) 3 [] vN vN vN (qS "labelways.errors" 187) .none (vR 78) vN 0)),
(81,oM (vT "dict") .none (Data.dict #[kE P "__module__" 268 (qS "labelways.errors" 187),kE P "__firstlineno__" 272 (vI 14 271),kE P "__init__" 281 (vR 79),kE P "__static_attributes__" 284 (vR 80),kE P "__doc__" 285 vN] 2) #[]),
(82,oM (vT "type") .none (Data.cls (ClassData.mk (sT "NoPlan") [vR 24] [vR 82,vR 24,vT "ValueError",vT "Exception",vT "BaseException",vT "object"] 81 (sT "NoPlan") true [] [] false .none false)) #[.some (vR 66),.none,.some (qS "NoPlan" 261),.some (qS "NoPlan" 269),.some (Value.builtin "ValueError.__new__"),.some (vB true)]),
(97,cQ #[qS "__init__" 300,qS "NoText.__init__" 301,qS "/claim/cut.py" 302,vI 21 0,vI 3 0,vI 0 0,vI 0 0,vI 3 0,vR 92,vB true,vI 181 0,vR 93,vN,vR 94,vR 95,vR 96,vI 306 0,vI 21 0,qS "/claim/cut.py" 307]),
(98,fQ (.mk (sT "__init__") (sT "NoText.__init__") (L2.defArgs (mth 5 0)) (FuncBody.stmts (L2.defBody (mth 5 0))) (L2.defScope (mth 5 0)) 3 [] vN vN vN (qS "labelways.errors" 187) .none (vR 97) vN 0)),
(100,oM (vT "dict") .none (Data.dict #[kE P "__module__" 295 (qS "labelways.errors" 187),kE P "__firstlineno__" 299 (vI 19 298),kE P "__init__" 308 (vR 98),kE P "__static_attributes__" 311 (vR 99),kE P "__doc__" 312 vN] 2) #[]),
(101,oM (vT "type") .none (Data.cls (ClassData.mk (sT "NoText") [vR 24] [vR 101,vR 24,vT "ValueError",vT "Exception",vT "BaseException",vT "object"] 100 (sT "NoText") true [] [] false .none false)) #[.some (vR 85),.none,.some (qS "NoText" 288),.some (qS "NoText" 296),.some (Value.builtin "ValueError.__new__"),.some (vB true)]),
(112,oM (vT "dict") .none (Data.dict #[kE P "__module__" 322 (qS "labelways.errors" 187),kE P "__firstlineno__" 326 (vI 24 325),kE P "__static_attributes__" 327 (vR 111),kE P "__doc__" 328 vN] 2) #[]),
(113,oM (vT "type") .none (Data.cls (ClassData.mk (sT "NoOrder") [vR 24] [vR 113,vR 24,vT "ValueError",vT "Exception",vT "BaseException",vT "object"] 112 (sT "NoOrder") true [] [] false .none false)) #[.some (vR 104),.none,.some (qS "NoOrder" 315),.some (qS "NoOrder" 323),.some (Value.builtin "ValueError.__new__"),.some (vB true)]),
(124,oM (vT "dict") .none (Data.dict #[kE P "__module__" 338 (qS "labelways.errors" 187),kE P "__firstlineno__" 342 (vI 26 341),kE P "__static_attributes__" 343 (vR 123),kE P "__doc__" 344 vN] 2) #[]),
(125,oM (vT "type") .none (Data.cls (ClassData.mk (sT "NoTree") [vR 24] [vR 125,vR 24,vT "ValueError",vT "Exception",vT "BaseException",vT "object"] 124 (sT "NoTree") true [] [] false .none false)) #[.some (vR 116),.none,.some (qS "NoTree" 331),.some (qS "NoTree" 339),.some (Value.builtin "ValueError.__new__"),.some (vB true)]),
(136,oM (vT "dict") .none (Data.dict #[kE P "__module__" 354 (qS "labelways.errors" 187),kE P "__firstlineno__" 358 (vI 28 357),kE P "__static_attributes__" 359 (vR 135),kE P "__doc__" 360 vN] 2) #[]),
(137,oM (vT "type") .none (Data.cls (ClassData.mk (sT "NoRing") [vR 24] [vR 137,vR 24,vT "ValueError",vT "Exception",vT "BaseException",vT "object"] 136 (sT "NoRing") true [] [] false .none false)) #[.some (vR 128),.none,.some (qS "NoRing" 347),.some (qS "NoRing" 355),.some (Value.builtin "ValueError.__new__"),.some (vB true)]),
(148,oM (vT "dict") .none (Data.dict #[kE P "__module__" 370 (qS "labelways.errors" 187),kE P "__firstlineno__" 374 (vI 30 373),kE P "__static_attributes__" 375 (vR 147),kE P "__doc__" 376 vN] 2) #[]),
(149,oM (vT "type") .none (Data.cls (ClassData.mk (sT "NoPosts") [vR 24] [vR 149,vR 24,vT "ValueError",vT "Exception",vT "BaseException",vT "object"] 148 (sT "NoPosts") true [] [] false .none false)) #[.some (vR 140),.none,.some (qS "NoPosts" 363),.some (qS "NoPosts" 371),.some (Value.builtin "ValueError.__new__"),.some (vB true)]),
(160,oM (vT "dict") .none (Data.dict #[kE P "__module__" 386 (qS "labelways.errors" 187),kE P "__firstlineno__" 390 (vI 32 389),kE P "__static_attributes__" 391 (vR 159),kE P "__doc__" 392 vN] 2) #[]),
(161,oM (vT "type") .none (Data.cls (ClassData.mk (sT "NoTie") [vR 24] [vR 161,vR 24,vT "ValueError",vT "Exception",vT "BaseException",vT "object"] 160 (sT "NoTie") true [] [] false .none false)) #[.some (vR 152),.none,.some (qS "NoTie" 379),.some (qS "NoTie" 387),.some (Value.builtin "ValueError.__new__"),.some (vB true)]),
(172,oM (vT "dict") .none (Data.dict #[kE P "__module__" 402 (qS "labelways.errors" 187),kE P "__firstlineno__" 406 (vI 34 405),kE P "__static_attributes__" 407 (vR 171),kE P "__doc__" 408 vN] 2) #[]),
(173,oM (vT "type") .none (Data.cls (ClassData.mk (sT "NoPart") [vR 24] [vR 173,vR 24,vT "ValueError",vT "Exception",vT "BaseException",vT "object"] 172 (sT "NoPart") true [] [] false .none false)) #[.some (vR 164),.none,.some (qS "NoPart" 395),.some (qS "NoPart" 403),.some (Value.builtin "ValueError.__new__"),.some (vB true)]),
(184,oM (vT "dict") .none (Data.dict #[kE P "__module__" 418 (qS "labelways.errors" 187),kE P "__firstlineno__" 422 (vI 36 421),kE P "__static_attributes__" 423 (vR 183),kE P "__doc__" 424 vN] 2) #[]),
(185,oM (vT "type") .none (Data.cls (ClassData.mk (sT "NoRow") [vR 24] [vR 185,vR 24,vT "ValueError",vT "Exception",vT "BaseException",vT "object"] 184 (sT "NoRow") true [] [] false .none false)) #[.some (vR 176),.none,.some (qS "NoRow" 411),.some (qS "NoRow" 419),.some (Value.builtin "ValueError.__new__"),.some (vB true)]),
(196,oM (vT "dict") .none (Data.dict #[kE P "__module__" 434 (qS "labelways.errors" 187),kE P "__firstlineno__" 438 (vI 38 437),kE P "__static_attributes__" 439 (vR 195),kE P "__doc__" 440 vN] 2) #[]),
(197,oM (vT "type") .none (Data.cls (ClassData.mk (sT "TooMany") [vR 24] [vR 197,vR 24,vT "ValueError",vT "Exception",vT "BaseException",vT "object"] 196 (sT "TooMany") true [] [] false .none false)) #[.some (vR 188),.none,.some (qS "TooMany" 427),.some (qS "TooMany" 435),.some (Value.builtin "ValueError.__new__"),.some (vB true)]),
(205,cQ #[qS "is_number" 447,qS "is_number" 448,qS "/claim/cut.py" 449,vI 42 0,vI 1 0,vI 0 0,vI 0 0,vI 3 0,vR 200,vB true,vI 181 0,vR 201,vN,vR 202,vR 203,vR 204,vI 451 0,vI 42 0,qS "/claim/cut.py" 452]),
(206,fQ (.mk (sT "is_number") (sT "is_number") (L2.defArgs (top 16)) (FuncBody.stmts (L2.defBody (top 16))) (L2.defScope (top 16)) 3 [] vN vN vN (qS "labelways.kinds" 443) .none (vR 205) vN 0)),
(212,cQ #[qS "is_within" 454,qS "is_within" 455,qS "/claim/cut.py" 456,vI 44 0,vI 3 0,vI 0 0,vI 0 0,vI 3 0,vR 207,vB true,vI 181 0,vR 208,vN,vR 209,vR 210,vR 211,vI 460 0,vI 44 0,qS "/claim/cut.py" 461]),
(213,fQ (.mk (sT "is_within") (sT "is_within") (L2.defArgs (top 17)) (FuncBody.stmts (L2.defBody (top 17))) (L2.defScope (top 17)) 3 [] vN vN vN (qS "labelways.kinds" 443) .none (vR 212) vN 0)),
(219,cQ #[qS "number_in" 463,qS "number_in" 464,qS "/claim/cut.py" 465,vI 46 0,vI 3 0,vI 0 0,vI 0 0,vI 3 0,vR 214,vB true,vI 181 0,vR 215,vN,vR 216,vR 217,vR 218,vI 470 0,vI 46 0,qS "/claim/cut.py" 471]),
(220,fQ (.mk (sT "number_in") (sT "number_in") (L2.defArgs (top 18)) (FuncBody.stmts (L2.defBody (top 18))) (L2.defScope (top 18)) 3 [] vN vN vN (qS "labelways.kinds" 443) .none (vR 219) vN 0)),
(224,cQ #[qS "is_written" 473,qS "is_written" 474,qS "/claim/cut.py" 475,vI 51 0,vI 1 0,vI 0 0,vI 0 0,vI 3 0,vR 221,vB true,vI 181 0,vR 222,vN,vN,vN,vR 223,vI 476 0,vI 51 0,qS "/claim/cut.py" 477]),
(225,fQ (.mk (sT "is_written") (sT "is_written") (L2.defArgs (top 19)) (FuncBody.stmts (L2.defBody (top 19))) (L2.defScope (top 19)) 3 [] vN vN vN (qS "labelways.kinds" 443) .none (vR 224) vN 0)),
(229,cQ #[qS "label_lines" 485,qS "label_lines" 486,qS "/claim/cut.py" 487,vI 58 0,vI 1 0,vI 0 0,vI 0 0,vI 3 0,vR 226,vB true,vI 181 0,vR 227,vN,vN,vN,vR 228,vI 488 0,vI 58 0,qS "/claim/cut.py" 489]),
(230,fQ (.mk (sT "label_lines") (sT "label_lines") (L2.defArgs (top 23)) (FuncBody.stmts (L2.defBody (top 23))) (L2.defScope (top 23)) 3 [] vN vN vN (qS "labelways.labeltexts" 481) .none (vR 229) vN 0)),
(234,cQ #[qS "label_line" 491,qS "label_line" 492,qS "/claim/cut.py" 493,vI 60 0,vI 1 0,vI 0 0,vI 0 0,vI 3 0,vR 231,vB true,vI 181 0,vR 232,vN,vN,vN,vR 233,vI 494 0,vI 60 0,qS "/claim/cut.py" 495]),
(235,fQ (.mk (sT "label_line") (sT "label_line") (L2.defArgs (top 24)) (FuncBody.stmts (L2.defBody (top 24))) (L2.defScope (top 24)) 3 [] vN vN vN (qS "labelways.labeltexts" 481) .none (vR 234) vN 0)),
(239,cQ #[qS "entry_word" 497,qS "entry_word" 498,qS "/claim/cut.py" 499,vI 62 0,vI 1 0,vI 0 0,vI 0 0,vI 3 0,vR 236,vB true,vI 181 0,vR 237,vN,vN,vN,vR 238,vI 500 0,vI 62 0,qS "/claim/cut.py" 501]),
(240,fQ (.mk (sT "entry_word") (sT "entry_word") (L2.defArgs (top 25)) (FuncBody.stmts (L2.defBody (top 25))) (L2.defScope (top 25)) 3 [] vN vN vN (qS "labelways.labeltexts" 481) .none (vR 239) vN 0)),
(246,cQ #[qS "number_word" 503,qS "number_word" 504,qS "/claim/cut.py" 505,vI 64 0,vI 1 0,vI 0 0,vI 0 0,vI 3 0,vR 241,vB true,vI 181 0,vR 242,vN,vR 243,vR 244,vR 245,vI 507 0,vI 64 0,qS "/claim/cut.py" 508]),
(247,fQ (.mk (sT "number_word") (sT "number_word") (L2.defArgs (top 26)) (FuncBody.stmts (L2.defBody (top 26))) (L2.defScope (top 26)) 3 [] vN vN vN (qS "labelways.labeltexts" 481) .none (vR 246) vN 0)),
(251,cQ #[qS "read_labels" 510,qS "read_labels" 511,qS "/claim/cut.py" 512,vI 66 0,vI 1 0,vI 0 0,vI 0 0,vI 3 0,vR 248,vB true,vI 181 0,vR 249,vN,vN,vN,vR 250,vI 513 0,vI 66 0,qS "/claim/cut.py" 514]),
(252,fQ (.mk (sT "read_labels") (sT "read_labels") (L2.defArgs (top 27)) (FuncBody.stmts (L2.defBody (top 27))) (L2.defScope (top 27)) 3 [] vN vN vN (qS "labelways.labeltexts" 481) .none (vR 251) vN 0)),
(258,cQ #[qS "read_label" 516,qS "read_label" 517,qS "/claim/cut.py" 518,vI 70 0,vI 3 0,vI 0 0,vI 0 0,vI 3 0,vR 253,vB true,vI 181 0,vR 254,vN,vR 255,vR 256,vR 257,vI 527 0,vI 70 0,qS "/claim/cut.py" 528]),
(259,fQ (.mk (sT "read_label") (sT "read_label") (L2.defArgs (top 28)) (FuncBody.stmts (L2.defBody (top 28))) (L2.defScope (top 28)) 3 [] vN vN vN (qS "labelways.labeltexts" 481) .none (vR 258) vN 0)),
(265,cQ #[qS "entry_in" 530,qS "entry_in" 531,qS "/claim/cut.py" 532,vI 83 0,vI 3 0,vI 0 0,vI 0 0,vI 3 0,vR 260,vB true,vI 181 0,vR 261,vN,vR 262,vR 263,vR 264,vI 539 0,vI 83 0,qS "/claim/cut.py" 540]),
(266,fQ (.mk (sT "entry_in") (sT "entry_in") (L2.defArgs (top 29)) (FuncBody.stmts (L2.defBody (top 29))) (L2.defScope (top 29)) 3 [] vN vN vN (qS "labelways.labeltexts" 481) .none (vR 265) vN 0)),
(272,cQ #[qS "own_entry" 542,qS "own_entry" 543,qS "/claim/cut.py" 544,vI 94 0,vI 3 0,vI 0 0,vI 0 0,vI 3 0,vR 267,vB true,vI 181 0,vR 268,vN,vR 269,vR 270,vR 271,vI 548 0,vI 94 0,qS "/claim/cut.py" 549]),
(273,fQ (.mk (sT "own_entry") (sT "own_entry") (L2.defArgs (top 30)) (FuncBody.stmts (L2.defBody (top 30))) (L2.defScope (top 30)) 3 [] vN vN vN (qS "labelways.labeltexts" 481) .none (vR 272) vN 0)),
(279,cQ #[qS "far_entry" 551,qS "far_entry" 552,qS "/claim/cut.py" 553,vI 98 0,vI 4 0,vI 0 0,vI 0 0,vI 3 0,vR 274,vB true,vI 181 0,vR 275,vN,vR 276,vR 277,vR 278,vI 560 0,vI 98 0,qS "/claim/cut.py" 561]),
(280,fQ (.mk (sT "far_entry") (sT "far_entry") (L2.defArgs (top 31)) (FuncBody.stmts (L2.defBody (top 31))) (L2.defScope (top 31)) 3 [] vN vN vN (qS "labelways.labeltexts" 481) .none (vR 279) vN 0)),
(284,cQ #[qS "has_own_place" 563,qS "has_own_place" 564,qS "/claim/cut.py" 565,vI 104 0,vI 1 0,vI 0 0,vI 0 0,vI 3 0,vR 281,vB true,vI 181 0,vR 282,vN,vN,vN,vR 283,vI 566 0,vI 104 0,qS "/claim/cut.py" 567]),
(285,fQ (.mk (sT "has_own_place") (sT "has_own_place") (L2.defArgs (top 32)) (FuncBody.stmts (L2.defBody (top 32))) (L2.defScope (top 32)) 3 [] vN vN vN (qS "labelways.labeltexts" 481) .none (vR 284) vN 0)),
(291,cQ #[qS "_law_feed" 571,qS "_law_feed" 572,qS "/claim/cut.py" 573,vI 107 0,vI 1 0,vI 0 0,vI 0 0,vI 3 0,vR 286,vB true,vI 181 0,vR 287,vN,vR 288,vR 289,vR 290,vI 575 0,vI 107 0,qS "/claim/cut.py" 576]),
(292,fT "_law_feed" 34 (qS "law_labelways_k70_label_lines" 569) 291),
(298,cQ #[qS "_law_take" 578,qS "_law_take" 579,qS "/claim/cut.py" 580,vI 109 0,vI 2 0,vI 0 0,vI 0 0,vI 3 0,vR 293,vB true,vI 181 0,vR 294,vN,vR 295,vR 296,vR 297,vI 587 0,vI 109 0,qS "/claim/cut.py" 588]),
(299,fT "_law_take" 35 (qS "law_labelways_k70_label_lines" 569) 298),
(303,cQ #[qS "_law_same" 590,qS "_law_same" 591,qS "/claim/cut.py" 592,vI 123 0,vI 2 0,vI 0 0,vI 0 0,vI 3 0,vR 300,vB true,vI 181 0,vR 301,vN,vN,vN,vR 302,vI 593 0,vI 123 0,qS "/claim/cut.py" 594]),
(304,fT "_law_same" 36 (qS "law_labelways_k70_label_lines" 569) 303),
(310,cQ #[qS "_law_labels" 596,qS "_law_labels" 597,qS "/claim/cut.py" 598,vI 131 0,vI 2 0,vI 0 0,vI 0 0,vI 3 0,vR 305,vB true,vI 181 0,vR 306,vN,vR 307,vR 308,vR 309,vI 607 0,vI 131 0,qS "/claim/cut.py" 608]),
(311,fT "_law_labels" 37 (qS "law_labelways_k70_label_lines" 569) 310),
(315,cQ #[qS "_law_lines" 610,qS "_law_lines" 611,qS "/claim/cut.py" 612,vI 144 0,vI 1 0,vI 0 0,vI 0 0,vI 3 0,vR 312,vB true,vI 181 0,vR 313,vN,vN,vN,vR 314,vI 613 0,vI 144 0,qS "/claim/cut.py" 614]),
(316,fT "_law_lines" 38 (qS "law_labelways_k70_label_lines" 569) 315),
(320,cQ #[qS "_law_number" 616,qS "_law_number" 617,qS "/claim/cut.py" 618,vI 152 0,vI 1 0,vI 0 0,vI 0 0,vI 3 0,vR 317,vB true,vI 181 0,vR 318,vN,vN,vN,vR 319,vI 619 0,vI 152 0,qS "/claim/cut.py" 620]),
(321,fT "_law_number" 39 (qS "law_labelways_k70_label_lines" 569) 320),
(325,cQ #[qS "_law_entry" 622,qS "_law_entry" 623,qS "/claim/cut.py" 624,vI 156 0,vI 3 0,vI 0 0,vI 0 0,vI 3 0,vR 322,vB true,vI 181 0,vR 323,vN,vN,vN,vR 324,vI 625 0,vI 156 0,qS "/claim/cut.py" 626]),
(326,fT "_law_entry" 40 (qS "law_labelways_k70_label_lines" 569) 325),
(330,cQ #[qS "_law_read" 628,qS "_law_read" 629,qS "/claim/cut.py" 630,vI 170 0,vI 1 0,vI 0 0,vI 0 0,vI 3 0,vR 327,vB true,vI 181 0,vR 328,vN,vN,vN,vR 329,vI 631 0,vI 170 0,qS "/claim/cut.py" 632]),
(331,fT "_law_read" 41 (qS "law_labelways_k70_label_lines" 569) 330),
(337,cQ #[qS "_law_said" 634,qS "_law_said" 635,qS "/claim/cut.py" 636,vI 188 0,vI 1 0,vI 0 0,vI 0 0,vI 3 0,vR 332,vB true,vI 181 0,vR 333,vN,vR 334,vR 335,vR 336,vI 640 0,vI 188 0,qS "/claim/cut.py" 641]),
(338,fT "_law_said" 42 (qS "law_labelways_k70_label_lines" 569) 337),
(344,cQ #[qS "_law_bent_word" 643,qS "_law_bent_word" 644,qS "/claim/cut.py" 645,vI 198 0,vI 2 0,vI 0 0,vI 0 0,vI 3 0,vR 339,vB true,vI 181 0,vR 340,vN,vR 341,vR 342,vR 343,vI 652 0,vI 198 0,qS "/claim/cut.py" 653]),
(345,fT "_law_bent_word" 43 (qS "law_labelways_k70_label_lines" 569) 344),
(349,cQ #[qS "_law_word_more" 655,qS "_law_word_more" 656,qS "/claim/cut.py" 657,vI 208 0,vI 2 0,vI 0 0,vI 0 0,vI 3 0,vR 346,vB true,vI 181 0,vR 347,vN,vN,vN,vR 348,vI 658 0,vI 208 0,qS "/claim/cut.py" 659]),
(350,fT "_law_word_more" 44 (qS "law_labelways_k70_label_lines" 569) 349),
(356,cQ #[qS "_law_bent_line" 661,qS "_law_bent_line" 662,qS "/claim/cut.py" 663,vI 213 0,vI 2 0,vI 0 0,vI 0 0,vI 3 0,vR 351,vB true,vI 181 0,vR 352,vN,vR 353,vR 354,vR 355,vI 670 0,vI 213 0,qS "/claim/cut.py" 671]),
(357,fT "_law_bent_line" 45 (qS "law_labelways_k70_label_lines" 569) 356),
(363,cQ #[qS "_law_bent" 673,qS "_law_bent" 674,qS "/claim/cut.py" 675,vI 231 0,vI 2 0,vI 0 0,vI 0 0,vI 3 0,vR 358,vB true,vI 181 0,vR 359,vN,vR 360,vR 361,vR 362,vI 680 0,vI 231 0,qS "/claim/cut.py" 681]),
(364,fT "_law_bent" 46 (qS "law_labelways_k70_label_lines" 569) 363),
(368,cQ #[qS "law" 683,qS "law" 684,qS "/claim/cut.py" 685,vI 241 0,vI 1 0,vI 0 0,vI 0 0,vI 3 0,vR 365,vB true,vI 181 0,vR 366,vN,vN,vN,vR 367,vI 686 0,vI 241 0,qS "/claim/cut.py" 687]),
(369,fT "law" 47 (qS "law_labelways_k70_label_lines" 569) 368)]
noncomputable def Ka:List Addr:=[2,3,23,24,25,40,41,43,44,59,60,62,63,78,79,81,82,97,98,100,101,112,113,124,125,136,137,148,149,160,161,172,173,184,185,196,197,205,206,212,213,219,220,224,225,229,230,234,235,239,240,246,247,251,252,258,259,265,266,272,273,279,280,284,285,291,292,298,299,303,304,310,311,315,316,320,321,325,326,330,331,337,338,344,345,349,350,356,357,363,364,368,369]
theorem fkM {K:PySem.W.Frag}(x q:Str)(st:Stmt)(f:Addr)(pm cd:Value)(l:K.lookup f=some ⟨.type "function",.none,.func (PySem.W.fnOf x q (defArgs st) (defBody st) (defScope st) .none .none .none pm .none cd .none),#[]⟩:=by kernel_rfl) (c:PySem.W.codeIn K cd q=true:=by kernel_rfl)(k:PySem.W.keepIn K (.ref f)=true:=by kernel_rfl):Fun K x q st f (PySem.W.fnOf x q (defArgs st) (defBody st) (defScope st) .none .none .none pm .none cd .none):=fun_mk l c k
theorem usl1:∀{us:List Value},us.length=1->∃u0,us=[u0]
 | [u0],_=>⟨u0,rfl⟩
theorem usl2:∀{us:List Value},us.length=2->∃u0 u1,us=[u0,u1]
 | [u0,u1],_=>⟨u0,u1,rfl⟩
theorem usl3:∀{us:List Value},us.length=3->∃u0 u1 u2,us=[u0,u1,u2]
 | [u0,u1,u2],_=>⟨u0,u1,u2,rfl⟩
theorem usl4:∀{us:List Value},us.length=4->∃u0 u1 u2 u3,us=[u0,u1,u2,u3]
 | [u0,u1,u2,u3],_=>⟨u0,u1,u2,u3,rfl⟩
theorem walk {l:PySem.W.OpenLaw}{q:Program}{loose:List Str}{XP:(Str->Option Value)->Heap->Prop}{YP:World->Heap->Prop}{d:DefRec}{K:Params->PySem.W.Frag}(hn:l.most=some 63)(hdf:d.params.defaults=[])
 (hY:∀(w:World)(h:Heap),YP w h->(K w.params).In h)
 (F:∀(w:World)(mg:Str->Option Value)(fa:Addr)(h:Heap),(K w.params).In h->h.Ns mainGlobals mg->mg d.name=some (.ref fa) ->
  ∃fd:FuncData,(∀(s:Shared)(u:Value),BindsTo s fd ⟨[u],[]⟩ [("_law_script",u)])/\∀base:Heap,(K w.params).In base->base.Ns mainGlobals mg->FnOk l.prog w (K w.params) mg base CX0 9 fa fd ["_law_script"] (spLaw (K w.params))) :
 PySem.W.WalkO q loose XP YP l.row.toRowW d [] (fun f vs=>PySem.call f vs):=
 L2.walk_of (n:=63) (k:=9) (x := "_law_script") (CX:=fun _=>CX0) (sp:=fun w=>spLaw (K w.params)) hn (by decide) hdf ⟨rfl,by decide,by decide,rfl⟩ hY F (fun _ _ a ns hl _ hS=>⟨a,ns,rfl,hS,hl,fun _=>rfl⟩) fun _ _ _ _ _ z=>z
theorem fk {K:PySem.W.Frag}(x:Str)(st:Stmt)(f:Addr)(pm cd:Value)(l:K.lookup f=some ⟨.type "function",.none,.func (PySem.W.fnOf x x (defArgs st) (defBody st) (defScope st) .none .none .none pm .none cd .none),#[]⟩:=by kernel_rfl) (c:PySem.W.codeIn K cd x=true:=by kernel_rfl)(k:PySem.W.keepIn K (.ref f)=true:=by kernel_rfl):Fun K x x st f (PySem.W.fnOf x x (defArgs st) (defBody st) (defScope st) .none .none .none pm .none cd .none):=fun_mk l c k
noncomputable abbrev pw:Program:=PySem.Challenge.pw_labelways_k70_label_lines
noncomputable def V:Program:={ pw with main:={ pw.main with body:=[top 1,top 2,top 3,top 4,top 5,top 6,top 7,top 8,top 9,top 10,top 11,top 12,top 13,top 15,top 16,top 17,top 18,top 19,top 20,top 22,top 23,top 24,top 25,top 26,top 27,top 28,top 29,top 30,top 31,top 32,top 34,top 35,top 36,top 37,top 38,top 39,top 40,top 41,top 42,top 43,top 44,top 45,top 46,top 47] } }
noncomputable abbrev RR:PySem.W.RowW:=PySem.W.OpenRow.toRowW (PySem.Challenge.rw_labelways_k70_label_lines).row
theorem Ke:∀P,Ka=(Kf P).map (·.1):=fun P=>by kernel_rfl
noncomputable abbrev HK:PySem.W.Hook:=PySem.W.kHook Kf Ka Ke
theorem left:PySem.W.LeftO pw V [] (fun s=>PySem.W.xlAt V [] s && PySem.W.recOk (PySem.W.RowW.records RR) s) (PySem.W.Hook.obs HK) (PySem.W.Hook.val HK) 7656:=L2.left_of (by kernel_rfl) (by decide) (fun _=>rfl) fun w os=>by kernel_rfl
noncomputable def dL:DefRec:={ name := "law",params:=defArgs sLaw,body:=defBody sLaw,scope:=defScope sLaw,pos:=⟨241,0,258,15⟩ }
theorem facts (w:World)(mg:Str->Option Value)(fa:Addr)(h:Heap)(KX:(Kf w.params).In h)(G:h.Ns mainGlobals mg)(hmg:mg "law" = some (.ref fa)):∃fd:FuncData,(∀(s:Shared)(u:Value),BindsTo s fd ⟨[u],[]⟩ [("_law_script",u)])/\∀base:Heap,(Kf w.params).In base->base.Ns mainGlobals mg->FnOk (PySem.Challenge.rw_labelways_k70_label_lines).prog w (Kf w.params) mg base CX0 9 fa fd ["_law_script"] (spLaw (Kf w.params)):=by
 have mk:∀(x:Str)(f:Addr),PySem.W.nsIn (Kf w.params) mainGlobals x=some (some (.ref f))->mg x=some (.ref f):=fun x f e=>PySem.W.mg_of KX G e
 have mn:∀x:Str,PySem.W.nsIn (Kf w.params) mainGlobals x=some none->mg x=none:=fun x e=>PySem.W.mg_none_of KX G e
 have FNu:=fk (K:=Kf w.params) "is_number" sNum 206 (qS "labelways.kinds" 443) (vR 205)
 have bNu:=FNu.binds (ps:=["thing"]) fun _ _ _ _ _ _ us hl=>by obtain⟨u0,rfl⟩:=usl1 hl;rfl
 have mNu:=mk "is_number" 206 (by kernel_rfl)
 have FWi:=fk (K:=Kf w.params) "is_within" sWi 213 (qS "labelways.kinds" 443) (vR 212)
 have bWi:=FWi.binds (ps:=["thing", "least", "most"]) fun _ _ _ _ _ _ us hl=>by obtain⟨u0,u1,u2,rfl⟩:=usl3 hl;rfl
 have mWi:=mk "is_within" 213 (by kernel_rfl)
 have FNi:=fk (K:=Kf w.params) "number_in" sNi 220 (qS "labelways.kinds" 443) (vR 219)
 have bNi:=FNi.binds (ps:=["word", "least", "most"]) fun _ _ _ _ _ _ us hl=>by obtain⟨u0,u1,u2,rfl⟩:=usl3 hl;rfl
 have mNi:=mk "number_in" 220 (by kernel_rfl)
 have FIw:=fk (K:=Kf w.params) "is_written" sIw 225 (qS "labelways.kinds" 443) (vR 224)
 have bIw:=FIw.binds (ps:=["word"]) fun _ _ _ _ _ _ us hl=>by obtain⟨u0,rfl⟩:=usl1 hl;rfl
 have mIw:=mk "is_written" 225 (by kernel_rfl)
 have FLl:=fk (K:=Kf w.params) "label_lines" sLl 230 (qS "labelways.labeltexts" 481) (vR 229)
 have bLl:=FLl.binds (ps:=["labels"]) fun _ _ _ _ _ _ us hl=>by obtain⟨u0,rfl⟩:=usl1 hl;rfl
 have mLl:=mk "label_lines" 230 (by kernel_rfl)
 have FLo:=fk (K:=Kf w.params) "label_line" sLo 235 (qS "labelways.labeltexts" 481) (vR 234)
 have bLo:=FLo.binds (ps:=["label"]) fun _ _ _ _ _ _ us hl=>by obtain⟨u0,rfl⟩:=usl1 hl;rfl
 have mLo:=mk "label_line" 235 (by kernel_rfl)
 have FEw:=fk (K:=Kf w.params) "entry_word" sEw 240 (qS "labelways.labeltexts" 481) (vR 239)
 have bEw:=FEw.binds (ps:=["entry"]) fun _ _ _ _ _ _ us hl=>by obtain⟨u0,rfl⟩:=usl1 hl;rfl
 have mEw:=mk "entry_word" 240 (by kernel_rfl)
 have FNw:=fk (K:=Kf w.params) "number_word" sNw 247 (qS "labelways.labeltexts" 481) (vR 246)
 have bNw:=FNw.binds (ps:=["number"]) fun _ _ _ _ _ _ us hl=>by obtain⟨u0,rfl⟩:=usl1 hl;rfl
 have mNw:=mk "number_word" 247 (by kernel_rfl)
 have FRs:=fk (K:=Kf w.params) "read_labels" sRs 252 (qS "labelways.labeltexts" 481) (vR 251)
 have bRs:=FRs.binds (ps:=["lines"]) fun _ _ _ _ _ _ us hl=>by obtain⟨u0,rfl⟩:=usl1 hl;rfl
 have mRs:=mk "read_labels" 252 (by kernel_rfl)
 have FRl:=fk (K:=Kf w.params) "read_label" sRl 259 (qS "labelways.labeltexts" 481) (vR 258)
 have bRl:=FRl.binds (ps:=["n", "at", "line"]) fun _ _ _ _ _ _ us hl=>by obtain⟨u0,u1,u2,rfl⟩:=usl3 hl;rfl
 have mRl:=mk "read_label" 259 (by kernel_rfl)
 have FEi:=fk (K:=Kf w.params) "entry_in" sEi 266 (qS "labelways.labeltexts" 481) (vR 265)
 have bEi:=FEi.binds (ps:=["n", "ahead", "word"]) fun _ _ _ _ _ _ us hl=>by obtain⟨u0,u1,u2,rfl⟩:=usl3 hl;rfl
 have mEi:=mk "entry_in" 266 (by kernel_rfl)
 have FOe:=fk (K:=Kf w.params) "own_entry" sOe 273 (qS "labelways.labeltexts" 481) (vR 272)
 have bOe:=FOe.binds (ps:=["ahead", "hub", "parts"]) fun _ _ _ _ _ _ us hl=>by obtain⟨u0,u1,u2,rfl⟩:=usl3 hl;rfl
 have mOe:=mk "own_entry" 273 (by kernel_rfl)
 have FFa:=fk (K:=Kf w.params) "far_entry" sFa 280 (qS "labelways.labeltexts" 481) (vR 279)
 have bFa:=FFa.binds (ps:=["n", "hub", "long", "parts"]) fun _ _ _ _ _ _ us hl=>by obtain⟨u0,u1,u2,u3,rfl⟩:=usl4 hl;rfl
 have mFa:=mk "far_entry" 280 (by kernel_rfl)
 have FHo:=fk (K:=Kf w.params) "has_own_place" sHo 285 (qS "labelways.labeltexts" 481) (vR 284)
 have bHo:=FHo.binds (ps:=["entries"]) fun _ _ _ _ _ _ us hl=>by obtain⟨u0,rfl⟩:=usl1 hl;rfl
 have mHo:=mk "has_own_place" 285 (by kernel_rfl)
 have FFe:=fk (K:=Kf w.params) "_law_feed" sFeed 292 (qS "law_labelways_k70_label_lines" 569) (vR 291)
 have bFe:=FFe.binds (ps:=["_law_script"]) fun _ _ _ _ _ _ us hl=>by obtain⟨u0,rfl⟩:=usl1 hl;rfl
 have mFe:=mk "_law_feed" 292 (by kernel_rfl)
 have FTa:=fk (K:=Kf w.params) "_law_take" sTake 299 (qS "law_labelways_k70_label_lines" 569) (vR 298)
 have bTa:=FTa.binds (ps:=["_law_feed_here", "_law_many"]) fun _ _ _ _ _ _ us hl=>by obtain⟨u0,u1,rfl⟩:=usl2 hl;rfl
 have mTa:=mk "_law_take" 299 (by kernel_rfl)
 have FSa:=fk (K:=Kf w.params) "_law_same" sSame 304 (qS "law_labelways_k70_label_lines" 569) (vR 303)
 have bSa:=FSa.binds (ps:=["_law_found", "_law_due"]) fun _ _ _ _ _ _ us hl=>by obtain⟨u0,u1,rfl⟩:=usl2 hl;rfl
 have mSa:=mk "_law_same" 304 (by kernel_rfl)
 have FLa:=fk (K:=Kf w.params) "_law_labels" sLa 311 (qS "law_labelways_k70_label_lines" 569) (vR 310)
 have bLa:=FLa.binds (ps:=["_law_feed_here", "_law_many"]) fun _ _ _ _ _ _ us hl=>by obtain⟨u0,u1,rfl⟩:=usl2 hl;rfl
 have mLa:=mk "_law_labels" 311 (by kernel_rfl)
 have FLi:=fk (K:=Kf w.params) "_law_lines" sLi 316 (qS "law_labelways_k70_label_lines" 569) (vR 315)
 have bLi:=FLi.binds (ps:=["_law_labels_here"]) fun _ _ _ _ _ _ us hl=>by obtain⟨u0,rfl⟩:=usl1 hl;rfl
 have mLi:=mk "_law_lines" 316 (by kernel_rfl)
 have FLu:=fk (K:=Kf w.params) "_law_number" sLu 321 (qS "law_labelways_k70_label_lines" 569) (vR 320)
 have bLu:=FLu.binds (ps:=["_law_word"]) fun _ _ _ _ _ _ us hl=>by obtain⟨u0,rfl⟩:=usl1 hl;rfl
 have mLu:=mk "_law_number" 321 (by kernel_rfl)
 have FEn:=fk (K:=Kf w.params) "_law_entry" sEn 326 (qS "law_labelways_k70_label_lines" 569) (vR 325)
 have bEn:=FEn.binds (ps:=["_law_word", "_law_entries", "_law_many"]) fun _ _ _ _ _ _ us hl=>by obtain⟨u0,u1,u2,rfl⟩:=usl3 hl;rfl
 have mEn:=mk "_law_entry" 326 (by kernel_rfl)
 have FRe:=fk (K:=Kf w.params) "_law_read" sRe 331 (qS "law_labelways_k70_label_lines" 569) (vR 330)
 have bRe:=FRe.binds (ps:=["_law_lines_here"]) fun _ _ _ _ _ _ us hl=>by obtain⟨u0,rfl⟩:=usl1 hl;rfl
 have mRe:=mk "_law_read" 331 (by kernel_rfl)
 have FSo:=fk (K:=Kf w.params) "_law_said" sSo 338 (qS "law_labelways_k70_label_lines" 569) (vR 337)
 have bSo:=FSo.binds (ps:=["_law_lines_here"]) fun _ _ _ _ _ _ us hl=>by obtain⟨u0,rfl⟩:=usl1 hl;rfl
 have mSo:=mk "_law_said" 338 (by kernel_rfl)
 have FBd:=fk (K:=Kf w.params) "_law_bent_word" sBd 345 (qS "law_labelways_k70_label_lines" 569) (vR 344)
 have bBd:=FBd.binds (ps:=["_law_feed_here", "_law_word"]) fun _ _ _ _ _ _ us hl=>by obtain⟨u0,u1,rfl⟩:=usl2 hl;rfl
 have mBd:=mk "_law_bent_word" 345 (by kernel_rfl)
 have FWm:=fk (K:=Kf w.params) "_law_word_more" sWm 350 (qS "law_labelways_k70_label_lines" 569) (vR 349)
 have bWm:=FWm.binds (ps:=["_law_feed_here", "_law_words"]) fun _ _ _ _ _ _ us hl=>by obtain⟨u0,u1,rfl⟩:=usl2 hl;rfl
 have mWm:=mk "_law_word_more" 350 (by kernel_rfl)
 have FBl:=fk (K:=Kf w.params) "_law_bent_line" sBl 357 (qS "law_labelways_k70_label_lines" 569) (vR 356)
 have bBl:=FBl.binds (ps:=["_law_feed_here", "_law_line"]) fun _ _ _ _ _ _ us hl=>by obtain⟨u0,u1,rfl⟩:=usl2 hl;rfl
 have mBl:=mk "_law_bent_line" 357 (by kernel_rfl)
 have FB:=fk (K:=Kf w.params) "_law_bent" sBent 364 (qS "law_labelways_k70_label_lines" 569) (vR 363)
 have bB:=FB.binds (ps:=["_law_feed_here", "_law_lines_here"]) fun _ _ _ _ _ _ us hl=>by obtain⟨u0,u1,rfl⟩:=usl2 hl;rfl
 have mB:=mk "_law_bent" 364 (by kernel_rfl)
 have FZ:=fk (K:=Kf w.params) "law" sLaw 369 (qS "law_labelways_k70_label_lines" 569) (vR 368)
 have mb0:=mn "len" (by kernel_rfl)
 have mb1:=mn "range" (by kernel_rfl)
 have mb2:=mn "tuple" (by kernel_rfl)
 have mb3:=mn "max" (by kernel_rfl)
 have mb4:=mn "list" (by kernel_rfl)
 have mb5:=mn "isinstance" (by kernel_rfl)
 have mb6:=mn "int" (by kernel_rfl)
 have mb7:=mn "bool" (by kernel_rfl)
 have mb8:=mn "all" (by kernel_rfl)
 have mb9:=mn "any" (by kernel_rfl)
 have mb10:=mn "str" (by kernel_rfl)
 have mb11:=mn "enumerate" (by kernel_rfl)
 have mb12:=mn "zip" (by kernel_rfl)
 have mb13:=mn "ValueError" (by kernel_rfl)
 have e:=hmg.symm.trans (mk "law" 369 (by kernel_rfl))
 cases e
 have FI:=fkM (K:=Kf w.params) "__init__" "NoText.__init__" sI1 98 (qS "labelways.errors" 187) (vR 97)
 have bI:=FI.binds (ps:=["self", "line", "word"]) fun _ _ _ _ _ _ us hl=>by obtain⟨u0,u1,u2,rfl⟩:=usl3 hl;rfl
 have Er:E70 (Kf w.params) mg 24 101 [44,63,113,173,82,149,137,185,161,125,197]:=⟨mk "WayError" 24 (by kernel_rfl),by kernel_rfl,mk "NoText" 101 (by kernel_rfl),by kernel_rfl,⟨by kernel_rfl,by kernel_rfl,by kernel_rfl,by kernel_rfl,by kernel_rfl,by kernel_rfl⟩,(by show [mg "NoLabels",mg "NoLeast",mg "NoOrder",mg "NoPart",mg "NoPlan",mg "NoPosts",mg "NoRing",mg "NoRow",mg "NoTie",mg "NoTree",mg "TooMany"]=_;rw[mk "NoLabels" 44 (by kernel_rfl),mk "NoLeast" 63 (by kernel_rfl),mk "NoOrder" 113 (by kernel_rfl),mk "NoPart" 173 (by kernel_rfl),mk "NoPlan" 82 (by kernel_rfl),mk "NoPosts" 149 (by kernel_rfl),mk "NoRing" 137 (by kernel_rfl),mk "NoRow" 185 (by kernel_rfl),mk "NoTie" 161 (by kernel_rfl),mk "NoTree" 125 (by kernel_rfl),mk "TooMany" 197 (by kernel_rfl)];rfl),by kernel_rfl,by kernel_rfl,by kernel_rfl,by kernel_rfl,by kernel_rfl⟩
 have EI:ExcI (Kf w.params) 101 98:=⟨by kernel_rfl,by kernel_rfl,by kernel_rfl,by kernel_rfl,by kernel_rfl⟩
 have mo:PySem.W.mroIn (Kf w.params) 101 (.type "object")=some true:=by kernel_rfl
 have mFig:mg "FIGURES" = some (.str (Str.ofString "0123456789") 445):=PySem.W.mg_of KX G (by kernel_rfl)
 have mMP:mg "MOST_PLACES" = some (.int 24 479):=PySem.W.mg_of KX G (by kernel_rfl)
 have mMW:mg "MOST_WRITTEN_LONG" = some (.int 999999999999 483):=PySem.W.mg_of KX G (by kernel_rfl)
 exact⟨_,fun s v=>.of_eq rfl,fun base _ _=>ok_law FZ Er EI FI bI mo mFig mMP mMW FNu bNu mNu FWi bWi mWi FNi bNi mNi FIw bIw mIw FLl bLl mLl FLo bLo mLo FEw bEw mEw FNw bNw mNw FRs bRs mRs FRl bRl mRl FEi bEi mEi FOe bOe mOe FFa bFa mFa FHo bHo mHo FFe bFe mFe FTa bTa mTa FSa bSa mSa FLa bLa mLa FLi bLi mLi FLu bLu mLu FEn bEn mEn FRe bRe mRe FSo bSo mSo FBd bBd mBd FWm bWm mWm FBl bBl mBl FB bB mB mb0 mb1 mb2 mb3 mb4 mb5 mb6 mb7 mb8 mb9 mb10 mb11 mb12 mb13⟩
end K70
open PySem PySem.W PyProof.Rows
set_option maxRecDepth 100000 in
set_option maxHeartbeats 0 in
theorem PySem.Challenge.cw_labelways_k70_label_lines_holds : PySem.Challenge.rw_labelways_k70_label_lines.Holds := by
 refine holds_law (by decide +kernel) fun said=>?_
 refine holds_open (q:=K70.V) (loose:=[]) (Xt:=fun s=>xlAt K70.V [] s && recOk (RowW.records K70.RR) s) (XP:=XL K70.V []) (Yf:=Hook.obs K70.HK) (Ya:=Hook.val K70.HK) (YP:=Hook.says K70.HK) (d:=K70.dL) (kwd:=[]) (N:=7656) K70.left (Hook.of K70.HK) (Hook.keeps K70.HK) (fun s e=>xl_of s (Bool.and_eq_true_iff.mp e).1) XL.keeps (by kernel_rfl) (by kernel_rfl) (by kernel_rfl) (fun s e=>recFacts_of (Bool.and_eq_true_iff.mp e).2) (by kernel_rfl) said (by decide +kernel) ⟨rfl,rfl,rfl,rfl,rfl,by decide +kernel⟩ ?hw ?hc
 case hw=>w_witness2
 case hc=>
  exact K70.walk (l:=PySem.Challenge.rw_labelways_k70_label_lines) (K:=K70.Kf) rfl rfl (fun w h Y=>PySem.W.kIn_of Y) K70.facts
