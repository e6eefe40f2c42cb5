import PyProof.Rows.All
import Wide.All
import OpenK.AllK
import Wide.FinOn
import Lean
import PyProof.EqAt
import PyProof.EqKinds
import PyProof.TupleCall
import PyProof.ListRange
import PyProof.Rows.StrKeys3
import PyProof.ZipIter
import PyProof.ListMulRoad
import PyProof.FactsAll.tuple_2
import PyProof.FactsAll.set
import PySem.Challenge.RW_labelways_k30_labels_judged
set_option Elab.async false
set_option linter.all false
set_option maxRecDepth 100000
set_option genSizeOf false
set_option genInjectivity false
local macro_rules (kind:=«term{_}»)
 | `({$xs,*})=>do
  let h← `(_)
  let r← `(rfl)
  let mut ys:=#[]
  for x in xs.getElems do
   ys:=ys ++ (match x.raw.isNatLit? with
    | some 0=>#[r]
    | some 1=>#[h,r]
    | some 2=>#[h,h]
    | some 3=>#[r,r]
    | some 4=>#[h,r,h,r]
    | some 5=>#[h,h,r,r]
    | some 6=>#[h,h,r]
    | some 7=>#[h,r,r,h,r]
    | some 8=>#[h,h,h,h]
    | some 9=>#[h,h,h,r,r]
    | _=>#[x])
  `(⟨$ys,*⟩)
open Lean in
def pq:Nat->Syntax->MacroM (Array (TSyntax `rcasesPat))
 | 0,_=>Macro.throwUnsupported
 | n+1,x=>do
  let h← `(rcasesPat|_)
  let i:=mkIdent `rfl
  let r← `(rcasesPat|$i:ident)
  if x.isIdent then return #[← `(rcasesPat|$(⟨x⟩):ident)]
  match x.isNatLit? with
  | some 0=>return #[r]
  | some 1=>return #[h,r]
  | some 2=>return #[h,h]
  | some 3=>return #[r,r]
  | some 4=>return #[h,r,h,r]
  | some 5=>return #[h,h,r,r]
  | some 6=>return #[h,h,r]
  | some 7=>return #[h,r,r,h,r]
  | some 8=>return #[h,h,h,h]
  | some 9=>return #[h,h,h,r,r]
  | _=>
   if x.isOfKind choiceKind then return (← pq n x[0])
   if x.isOfKind `«term{_}» then
    let ys← x[1].getSepArgs.flatMapM (pq n)
    return #[← `(rcasesPat|⟨$[$ys:rcasesPat],*⟩)]
   return #[h]
local macro_rules (kind:=Lean.Parser.Term.tuple)
 | `(())=>`((by first | assumption | exact Nat.succ_pos _ | exact Int.natCast_nonneg _ | exact Nat.le_of_lt (by assumption) | exact Nat.lt_of_lt_of_le (by assumption) (by assumption) | exact Nat.le_trans (by assumption) (by assumption) | exact Nat.lt_of_le_of_lt (by assumption) (by assumption) | lia))
local macro_rules
 | `(tactic|let $d:letDecl)=>do
  let x:=d.raw[0]
  if x.isOfKind ``Lean.Parser.Term.letPatDecl then
   let p←pq 9 x[0]
   `(tactic|obtain $(p[0]!):rcasesPat:=$(⟨x[4]⟩))
  else `(tactic|have $d:letDecl)
 | `(tactic|show $e)=>`(tactic|refine $e)
 | `(command|meta def $n:ident $s:optDeclSig $v:declVal)=>`(command|noncomputable def $n $s:optDeclSig $v:declVal)
 | `(command|meta abbrev $n:ident $s:optDeclSig $v:declVal)=>`(command|noncomputable abbrev $n $s:optDeclSig $v:declVal)
open Lean in
local macro_rules
 | `(↥$x)=>`(($x).heap.objs.size)
 | `(⇑$x)=>`(some (.ref $x))
 | `(∅)=>`($(mkIdent `model) $(mkIdent `prog) $(mkIdent `w))
 | `(tactic|ext $p:rintroPat)=>do
  let q:=p.raw[0]
  let q:=if q.isOfKind ``Lean.Parser.Tactic.rcasesPatMed then q[0][0] else q
  `(tactic|cases $(⟨q[0]⟩):ident)
open Lean in
local macro_rules (kind:=«term‹_›»)
 | `(‹$x›)=>`((by simpa using $x))
noncomputable section
theorem d_ (h0:True:=by first | show .inl rfl | show .inr rfl | assumption)(h1:True:=by decide)(h2:True:=by first | show Xr _ (by decide) (by decide) | rfl)(h3:True:=by intro _;rfl)(h4:True:=by rfl)(h5:True:=by with_unfolding_all rfl)(h6:True:=by decide +kernel)(h7:True:=by first | show Or.inl rfl | show Or.inr (Or.inl rfl) | show Or.inr (Or.inr rfl))(h8:True:=by intro _ _;rfl)(h9:True:=by intro _ _ _ _ h;ext h;subst_vars;rfl)(h10:True:=by show Or.inl rfl)(h11:True:=by show PassesOwn.never)(h12:True:=by show λ_ _=>rfl)(h13:True:=by show Dm rfl)(h14:True:=by show Pf)(h15:True:=by kernel_rfl):True:=trivial
section
open PySem PySem.Spec PyProof.Rows
abbrev zA:=@wpAny_bind
abbrev zB:=@List.getElem?_eq_getElem
abbrev zC:=@List.length_map
abbrev zE:=@List.getElem?_eq_some_iff
abbrev zF:=@List.getD_eq_getElem?_getD
abbrev zG:=@wpAny_pure
abbrev zJ:=@Nat.le_refl
abbrev zK:=@List.length_append
abbrev zL:=@Heap.get?_push_of_some
abbrev zM:=@List.getElem?_map
abbrev zO:=@decide_eq_true
abbrev zP:=@List.map_append
abbrev zQ:=@List.mem_of_getElem?
abbrev zR:=@Heap.get?_push_size
abbrev zS:=@List.getElem?_append_right
abbrev zU:=@List.size_toArray
abbrev zV:=@List.getElem?_append_left
abbrev zW:=@decide_eq_false
abbrev zX:=@List.mem_cons_self
abbrev zY:=@Heap.lt_size
abbrev zZ:=@Option.some.inj
abbrev za:=@List.mem_cons
abbrev zb:=@List.take_of_length_le
abbrev zd:=@List.mem_cons_of_mem
abbrev ze:=@List.length_take
abbrev zf:=@List.getElem_of_mem
abbrev zh:=@Nat.ne_of_lt
abbrev zj:=@Nat.zero_le
abbrev zk:=@List.mem_map
abbrev zm:=@List.mem_singleton
abbrev zn:=@List.getElem?_eq_none
abbrev zo:=@Nat.lt_of_lt_of_le
abbrev zq:=@Bool.false_ne_true
abbrev zr:=@List.mem_append
abbrev zt:=@List.take_add_one
abbrev zu:=@List.length_cons
abbrev zy:=@List.length_range
abbrev Cr:=@Heap.get?_update_self
abbrev B4:=@Int.toNat_natCast
abbrev Bw:=@Bool.and_eq_true
abbrev BJ:=@wpAny_holding
abbrev CO:=@Nat.lt_of_le_of_lt
abbrev B8:=@List.append_assoc
abbrev BC:=@Nat.le_trans
abbrev Cy:=@List.mem_append_left
abbrev DI:=@List.mem_append_right
abbrev Bq:=@List.append_nil
abbrev Ed:=@List.pairwise_iff_getElem
abbrev CK:=@wpAny_call_entry
abbrev Ea:=@wpAny_callSpecial?_slot
abbrev Bj:=@List.map_cons
abbrev Bz:=@Heap.size_push
abbrev D0:=@List.length_filter_le
abbrev De:=@List.getElem?_toArray
abbrev C5:=@wpAny_newObj_type
abbrev BE:=@wpAny_mono
abbrev Bg:=@Nat.ne_of_gt
abbrev Bi:=@Int.zero_add
abbrev CH:=@Bool.false_and
abbrev Cv:=@List.getElem_mem
abbrev Cp:=@List.length_set
abbrev Bn:=@List.map_map
abbrev C2:=@Nat.not_lt_zero
abbrev E9:=@List.take_append_drop
abbrev Bk:=@Nat.le_succ
abbrev Cs:=@List.mem_range
abbrev EM:=@Heap.SameBut.update
abbrev Dv:=@wpAny_loadPart_at
abbrev Cw:=@wpAny_seqItems
abbrev CI:=@Nat.le_of_lt
abbrev Cj:=@Bool.true_and
abbrev Bl:=@wpAny_rule
abbrev EZ:=@List.pairwise_map
abbrev Cb:=@Nat.lt_trans
abbrev GK:=@Heap.get?_update_other
abbrev FO:=@List.pairwise_cons
abbrev Dg:=@List.mem_filter
abbrev F7:=@decide_eq_true_iff
abbrev JE:=@List.extract_eq_take_drop
abbrev Ey:=@wpAny_isInstance
abbrev FD:=@List.not_mem_nil
abbrev FU:=@List.lookup_cons
abbrev FP:=@List.length_drop
abbrev Fp:=@Nat.lt_succ_of_lt
abbrev Cz:=@wpAny_field
abbrev E5:=@List.nodup_cons
abbrev JW:=@List.length_eq_zero_iff
abbrev DZ:=@wpAny_typeOf
abbrev JL:=@List.getElem?_set_self
abbrev GP:=@wpAny_truthy_bool
abbrev My:=@List.drop_eq_getElem_cons
abbrev Dq:=@Nat.sub_self
abbrev Hd:=@wpAny_Call_Name_kw
abbrev FJ:=@wpAny_attempt
abbrev FN:=@Nat.lt_irrefl
abbrev GB:=@wpAny_setField
abbrev Hk:=@wpAny_setState_of
abbrev GV:=@Option.map_some
abbrev JR:=@List.map_congr_left
abbrev Gd:=@Bool.eq_iff_iff
abbrev HQ:=@Nat.lt_succ_self
abbrev HZ:=@List.getElem_inj
abbrev JA:=@List.filter_append
abbrev Je:=@Bool.false_eq_true
abbrev M8:=@List.getElem?_set_ne
abbrev N3:=@Option.isSome_iff_exists
abbrev JO:=@Nat.lt_of_succ_lt
abbrev JT:=@List.nodup_append
abbrev HV:=@List.find?_cons
abbrev JM:=@List.Pairwise.nil
abbrev NA:=@List.filterMap_cons
abbrev FL:=@Int.le_refl
abbrev Mz:=@Heap.get?_update_ne
abbrev El:=@wpAny_call
end
abbrev Fc:List PySem.Str:=["_law_entry_here"]
abbrev QK:List PySem.Str:=["web","labels","place","entry"]
abbrev au:List PySem.Str:=["_law_tape_here","_law_web_here","_law_far_here","_law_labels_here"]
abbrev aq:List PySem.Str:=["_law_web_here","_law_far_here","_law_place","_law_hub"]
abbrev P7:List PySem.Str:=["_law_one","_law_other"]
abbrev QM:List PySem.Str:=["_law_n","_law_thing"]
abbrev NP:List PySem.Str:=["_law_script"]
abbrev U0:List PySem.Str:=["hub","long","up","down"]
abbrev MF:List PySem.Str:=["n","thing"]
namespace L2
open PySem PySem.Spec PyProof.Rows
meta def defArgs (s:Stmt):Arguments:=match s with
 | .FunctionDef _ a _ _ _ _ _ _ _ _=>a
 | _=>{ posonlyargs:=[],args:=[],vararg:=none,kwonlyargs:=[],kw_defaults:=[],kwarg:=none,defaults:=[] }
meta def defBody (s:Stmt):List Stmt:=match s with
 | .FunctionDef _ _ b _ _ _ _ _ _ _=>b
 | _=>[]
meta def defScope (s:Stmt):Scope:=match s with
 | .FunctionDef _ _ _ _ _ _ sc _ _ _=>sc
 | _=>{ kind:=.function,names:=[],isGenerator:=false,isCoroutine:=false }
end L2
namespace L2
section
open PySem PySem.W PyProof.Rows
def Qf (p:Program)(w:World)(o:Nat)(ann:Option Value):Nat->SharedT->Thread->Option SharedT
 | 0,_,_=>none
 | n+1,s,t=>match through t with
  | true=>some s
  | false=>match Fast.tw6613529449190102663 o ann t with
   | false=>none
   | true=>match Fast.tw10156331382660048174 (Fast.tw11892475500146522536 Fast.tw14364793385576792824) p w s t with
    | some (s',t')=>Qf p w o ann n s' t'
    | none=>none
def XR :∀{n:Nat}{s s':SharedT}{t:Thread},Qf p w n₀ ann n s t=some s'->topRun treeTable p w n₀ ann n s.abs t=some s'.abs
 | 0,_,_,_,h=>by ext h
 | n+1,s,s',t,h=>by
  unfold Qf at h;rw[<-Fast.te6613529449190102663,<-Fast.te10156331382660048174,<-Fast.te11892475500146522536,<-Fast.te14364793385576792824] at h;unfold topRun;cases he:through t with
  | true=>rw[he] at h;ext h;rfl
  | false=>
   rw[he] at h;cases J:stepOk n₀ ann t with
   | false=>rw[J] at h;ext h
   | true=>
    rw[J] at h;cases o:stepT (denote treeTable) p w s t with
    | none=>rw[o] at h;ext h
    | some r=>let{I,C}:=r;rw[o] at h;rw[stepT_spec o];show XR h
meta def bt:List Obj->Nat->BT->BT
 | [],_,t=>t
 | o::l,i,t=>bt l (i+1) (t.ins i o)
def bT (P:Params):BT:=bt (boot_heap P).objs.toList 0 .nil
def bS (w:World)(os:OsState):SharedT:={bT w.params,(boot_heap w.params).objs.size,(boot_heap w.params).life,Array.mk [],boot_drawn,boot_toks,os}
def bA (w)(os:OsState):(bS w os).abs={boot_heap w.params,Array.mk [],boot_drawn,boot_toks,os}:=by kernel_rfl
abbrev Ul (p:Program)(N:Nat)(w:World)(os:OsState):Option SharedT:=Qf p w (boot_heap w.params).objs.size ((boot_heap w.params).nsMap mainGlobals "__annotations__") N (bS w os) (topStub p)
meta abbrev O7 (p:Program)(h h':Heap)(s:Shared):Bool:=staticsOk (importedModules p.main.body) h h' && namesBound p h' && gensDone s && laidKept h h'
def left_of (e:opening p=plainProg p.main.scope.names)(o:Nat.ble 600 N=true)(f:∀s,fenceModules? p s=some s)
 (h:∀w os,(Ul p N w os).map (λs=>(O7 p (boot_heap w.params) s.abs.heap s.abs,Fast.tw4187177175401517315 q loose (importedModules p.main.body) Xt true s.abs,Yf s.abs))=some (true,openGood q loose,Ya w)):LeftO p q loose Xt Yf Ya N:=by
 intro w;let{{h0,C,d,k,os},J,I}:=Option.map_eq_some_iff.mp (boot_open e o f w);obtain⟨rfl,rfl,rfl,rfl⟩:h0=boot_heap w.params/\C=Array.mk []/\d=boot_drawn/\k=boot_toks:=‹I›
 let{s,r,a}:=Option.map_eq_some_iff.mp (h w os);let{b,a}:=Prod.mk.inj a;rw[<-Fast.te4187177175401517315] at a;let y:=XR r;rw[bA] at y;unfold openEnds;rw[J];change (topFrom treeTable p w N _).map _=_;unfold topFrom;let z:((boot_heap w.params).isNs mainGlobals && (Array.mk []:Array GenState).size==0)=true:=by kernel_rfl
 dsimp only;rw[z];dsimp only;rw[y];change Option.map _ (match O7 p (boot_heap w.params) s.abs.heap s.abs with | true=>some s.abs | false=>none)=_
 rw[b];show congrArg some a
end
end L2
namespace K30
open PySem L2
meta def top (i:Nat):Stmt:=PySem.Challenge.pw_labelways_k30_labels_judged.main.body.getD i (.Pass ⟨0,0,0,0⟩)
meta def mth (k i:Nat):Stmt:=match top k with
 | .ClassDef _ _ _ body ..=>body.getD i (.Pass ⟨0,0,0,0⟩)
 | _=>.Pass ⟨0,0,0,0⟩
meta abbrev sT:String->Str:=Str.ofString
meta abbrev kH:=PyData.keyHash
meta abbrev dE:=DictEntry.mk
meta abbrev vS:=Value.str
meta abbrev vI:=Value.int
meta abbrev vR:=Value.ref
meta abbrev vB:=Value.bool
meta abbrev vN:Value:=Value.none
meta abbrev vT:=Value.type
meta abbrev oM:=Obj.mk
meta abbrev cQ (x:Array Value):Obj:=oM (vT "code") .none (.fields x) #[]
meta abbrev fQ (x:FuncData):Obj:=oM (vT "function") .none (.func x) #[]
meta abbrev fT (x:String)(i:Nat)(m:Value)(c:Nat):Obj:=fQ (.mk (sT x) (sT x) (L2.defArgs (top i)) (FuncBody.stmts (L2.defBody (top i))) (L2.defScope (top i)) 3 [] vN vN vN m .none (vR c) vN 0)
meta abbrev qS (x:String)(n:Nat):Value:=vS (sT x) n
meta abbrev qC (n:Nat):Value:=qS "/claim/cut.py" n
meta abbrev cA (x:String)(a:Nat)(l q:Int)(p:Nat)(n:Int)(m:Nat):Obj:=cQ #[qS x a,qS x (a+1),qC (a+2),vI l 0,vI q 0,vI 0 0,vI 0 0,vI 3 0,vR p,vB true,vI 181 0,vR (p+1),vN,vR (p+2),vR (p+3),vR (p+4),vI n 0,vI l 0,qC m]
meta abbrev cB (x:String)(a:Nat)(l q:Int)(p:Nat)(n:Int)(m:Nat):Obj:=cQ #[qS x a,qS x (a+1),qC (a+2),vI l 0,vI q 0,vI 0 0,vI 0 0,vI 3 0,vR p,vB true,vI 181 0,vR (p+1),vN,vN,vN,vR (p+2),vI n 0,vI l 0,qC m]
meta abbrev Ci:=qS "labelways.errors" 187
meta abbrev Cg:=qS "labelways.checker" 565
meta abbrev C6:=qS "labelways.labels" 483
meta abbrev GH:=qS "labelways.kinds" 443
meta abbrev R8:=qS "labelways.webs" 540
meta abbrev qL:=qS "law_labelways_k30_labels_judged" 650
meta abbrev kE (P:Params)(x:String)(n:Nat):Value->DictEntry:=dE (kH P (sT x)) (qS x n)
meta def Kf:Params->PySem.W.Frag:=λP=>[
(2,oM vN .none (Data.dict #[]) #[]),
(3,oM (vT "dict") .none (Data.dict #[kE P "__name__" 165 qL,kE P "__doc__" 166 vN,kE P "__package__" 167 vN,kE P "__loader__" 168 (Value.builtin "__main__.__loader__#opaque"),kE P "__spec__" 169 vN,kE P "__annotations__" 170 (vR 6),kE P "__builtins__" 171 (vR 4),kE P "__file__" 173 (qC 172),kE P "__cached__" 174 vN,kE P "WayError" 206 (vR 24),kE P "NoLabels" 233 (vR 44),kE P "NoLeast" 260 (vR 63),kE P "NoPlan" 287 (vR 82),kE P "NoText" 314 (vR 101),kE P "NoOrder" 330 (vR 113),kE P "NoTree" 346 (vR 125),kE P "NoRing" 362 (vR 137),kE P "NoPosts" 378 (vR 149),kE P "NoTie" 394 (vR 161),kE P "NoPart" 410 (vR 173),kE P "NoRow" 426 (vR 185),kE P "TooMany" 442 (vR 197),kE P "is_number" 451 (vR 206),kE P "is_within" 460 (vR 213),kE P "is_tuple_of" 468 (vR 220),kE P "is_rising" 474 (vR 225),kE P "is_place" 482 (vR 232),kE P "is_label" 490 (vR 237),kE P "is_entry" 498 (vR 244),kE P "are_labels" 504 (vR 249),kE P "own_place" 510 (vR 254),kE P "told" 518 (vR 261),kE P "least_sum" 524 (vR 266),kE P "entry_of" 533 (vR 273),kE P "far_entries" 539 (vR 278),kE P "ties_at" 553 (vR 285),kE P "long_of" 564 (vR 292),kE P "lets_labels" 574 (vR 299),kE P "refuse_at" 582 (vR 306),kE P "own_fault" 591 (vR 313),kE P "up_fault" 601 (vR 320),kE P "is_up_right" 613 (vR 327),kE P "tie_fault" 619 (vR 332),kE P "grows_too_much" 628 (vR 339),kE P "down_fault" 638 (vR 346),kE P "is_down_right" 649 (vR 353),kE P "_law_tape" 658 (vR 360),kE P "_law_draw" 670 (vR 367),kE P "_law_small" 677 (vR 374),kE P "_law_web" 683 (vR 379),kE P "_law_row_web" 689 (vR 384),kE P "_law_added" 697 (vR 391),kE P "_law_lesser" 705 (vR 398),kE P "_law_far" 711 (vR 403),kE P "_law_on" 722 (vR 410),kE P "_law_joined" 733 (vR 417),kE P "_law_nexts" 739 (vR 422),kE P "_law_order" 750 (vR 429),kE P "_law_entry" 760 (vR 436),kE P "_law_labels" 766 (vR 441),kE P "_law_full" 772 (vR 446),kE P "_law_either" 778 (vR 451),kE P "_law_loose" 797 (vR 458),kE P "_law_longer" 803 (vR 463),kE P "_law_some" 814 (vR 470),kE P "_law_turned" 820 (vR 475),kE P "_law_is_number" 829 (vR 482),kE P "_law_is_entry" 837 (vR 489),kE P "_law_is_label" 843 (vR 494),kE P "_law_are_labels" 849 (vR 499),kE P "_law_told" 855 (vR 504),kE P "_law_hung" 861 (vR 509),kE P "_law_tie_fault" 873 (vR 516),kE P "_law_fault" 879 (vR 521),kE P "_law_found" 890 (vR 528),kE P "law" 904 (vR 535)] 76) #[]),
(23,oM (vT "dict") .none (Data.dict #[kE P "__module__" 196 Ci,kE P "__firstlineno__" 200 (vI 2 199),kE P "__static_attributes__" 201 (vR 22),kE P "__weakref__" 203 (vR 25),kE P "__doc__" 204 vN] 3) #[]),
(24,oM (vT "type") .none (Data.cls (ClassData.mk (sT "WayError") [vT "ValueError"] [vR 24,vT "ValueError",vT "Exception",vT "BaseException",vT "object"] 23 (sT "WayError") true [] [vR 44,vR 63,vR 82,vR 101,vR 113,vR 125,vR 137,vR 149,vR 161,vR 173,vR 185,vR 197] false .none false)) #[.some (vR 15),.none,.some (qS "WayError" 189),.some (qS "WayError" 197),.some (Value.builtin "ValueError.__new__"),.some (vB true)]),
(25,oM (vT "getset_descriptor") .none (Data.fields #[qS "__weakref__" 202,vR 24,Value.builtin "ExceptionGroup.__weakref__",vN]) #[]),
(40,cQ #[qS "__init__" 219,qS "NoLabels.__init__" 220,qC 221,vI 6 0,vI 3 0,vI 0 0,vI 0 0,vI 3 0,vR 35,vB true,vI 181 0,vR 36,vN,vR 37,vR 38,vR 39,vI 225 0,vI 6 0,qC 226]),
(41,fQ (.mk (sT "__init__") (sT "NoLabels.__init__") (L2.defArgs (mth 2 0)) (FuncBody.stmts (L2.defBody (mth 2 0))) (L2.defScope (mth 2 0)) 3 [] vN vN vN Ci .none (vR 40) vN 0)),
(43,oM (vT "dict") .none (Data.dict #[kE P "__module__" 214 Ci,kE P "__firstlineno__" 218 (vI 4 217),kE P "__init__" 227 (vR 41),kE P "__static_attributes__" 230 (vR 42),kE P "__doc__" 231 vN] 2) #[]),
(44,oM (vT "type") .none (Data.cls (ClassData.mk (sT "NoLabels") [vR 24] [vR 44,vR 24,vT "ValueError",vT "Exception",vT "BaseException",vT "object"] 43 (sT "NoLabels") true [] [] false .none false)) #[.some (vR 28),.none,.some (qS "NoLabels" 207),.some (qS "NoLabels" 215),.some (Value.builtin "ValueError.__new__"),.some (vB true)]),
(59,cQ #[qS "__init__" 246,qS "NoLeast.__init__" 247,qC 248,vI 11 0,vI 3 0,vI 0 0,vI 0 0,vI 3 0,vR 54,vB true,vI 181 0,vR 55,vN,vR 56,vR 57,vR 58,vI 252 0,vI 11 0,qC 253]),
(60,fQ (.mk (sT "__init__") (sT "NoLeast.__init__") (Arguments.mk [] [Arg.mk (sT "self") .none (Pos.mk 11 17 11 21),Arg.mk (sT "word") .none (Pos.mk 11 23 11 27),Arg.mk (sT "at") .none (Pos.mk 11 29 11 31)] .none [] [] .none []) (FuncBody.stmts [Stmt.Assign [Expr.Attribute (Expr.Name (sT "self") (Pos.mk 12 8 12 12)) (sT "word") (Pos.mk 12 8 12 17)] (Expr.Name (sT "word") (Pos.mk 12 20 12 24)) (Pos.mk 12 8 12 24),Stmt.Assign [Expr.Attribute (Expr.Name (sT "self") (Pos.mk 13 8 13 12)) (sT "at") (Pos.mk 13 8 13 15)] (Expr.Name (sT "at") (Pos.mk 13 18 13 20)) (Pos.mk 13 8 13 20)]) (Scope.mk ScopeKind.function [(sT "self",NameKind.local),(sT "word",NameKind.local),(sT "at",NameKind.local)] false false []) 3 [] vN vN vN Ci .none (vR 59) vN 0)),
(62,oM (vT "dict") .none (Data.dict #[kE P "__module__" 241 Ci,kE P "__firstlineno__" 245 (vI 9 244),kE P "__init__" 254 (vR 60),kE P "__static_attributes__" 257 (vR 61),kE P "__doc__" 258 vN] 2) #[]),
(63,oM (vT "type") .none (Data.cls (ClassData.mk (sT "NoLeast") [vR 24] [vR 63,vR 24,vT "ValueError",vT "Exception",vT "BaseException",vT "object"] 62 (sT "NoLeast") true [] [] false .none false)) #[.some (vR 47),.none,.some (qS "NoLeast" 234),.some (qS "NoLeast" 242),.some (Value.builtin "ValueError.__new__"),.some (vB true)]),
(78,cQ #[qS "__init__" 273,qS "NoPlan.__init__" 274,qC 275,vI 16 0,vI 3 0,vI 0 0,vI 0 0,vI 3 0,vR 73,vB true,vI 181 0,vR 74,vN,vR 75,vR 76,vR 77,vI 279 0,vI 16 0,qC 280]),
(79,fQ (.mk (sT "__init__") (sT "NoPlan.__init__") (Arguments.mk [] [Arg.mk (sT "self") .none (Pos.mk 16 17 16 21),Arg.mk (sT "word") .none (Pos.mk 16 23 16 27),Arg.mk (sT "at") .none (Pos.mk 16 29 16 31)] .none [] [] .none []) (FuncBody.stmts [Stmt.Assign [Expr.Attribute (Expr.Name (sT "self") (Pos.mk 17 8 17 12)) (sT "word") (Pos.mk 17 8 17 17)] (Expr.Name (sT "word") (Pos.mk 17 20 17 24)) (Pos.mk 17 8 17 24),Stmt.Assign [Expr.Attribute (Expr.Name (sT "self") (Pos.mk 18 8 18 12)) (sT "at") (Pos.mk 18 8 18 15)] (Expr.Name (sT "at") (Pos.mk 18 18 18 20)) (Pos.mk 18 8 18 20)]) (Scope.mk ScopeKind.function [(sT "self",NameKind.local),(sT "word",NameKind.local),(sT "at",NameKind.local)] false false []) 3 [] vN vN vN Ci .none (vR 78) vN 0)),
(81,oM (vT "dict") .none (Data.dict #[kE P "__module__" 268 Ci,kE P "__firstlineno__" 272 (vI 14 271),kE P "__init__" 281 (vR 79),kE P "__static_attributes__" 284 (vR 80),kE P "__doc__" 285 vN] 2) #[]),
(82,oM (vT "type") .none (Data.cls (ClassData.mk (sT "NoPlan") [vR 24] [vR 82,vR 24,vT "ValueError",vT "Exception",vT "BaseException",vT "object"] 81 (sT "NoPlan") true [] [] false .none false)) #[.some (vR 66),.none,.some (qS "NoPlan" 261),.some (qS "NoPlan" 269),.some (Value.builtin "ValueError.__new__"),.some (vB true)]),
(97,cQ #[qS "__init__" 300,qS "NoText.__init__" 301,qC 302,vI 21 0,vI 3 0,vI 0 0,vI 0 0,vI 3 0,vR 92,vB true,vI 181 0,vR 93,vN,vR 94,vR 95,vR 96,vI 306 0,vI 21 0,qC 307]),
(98,fQ (.mk (sT "__init__") (sT "NoText.__init__") (Arguments.mk [] [Arg.mk (sT "self") .none (Pos.mk 21 17 21 21),Arg.mk (sT "line") .none (Pos.mk 21 23 21 27),Arg.mk (sT "word") .none (Pos.mk 21 29 21 33)] .none [] [] .none []) (FuncBody.stmts [Stmt.Assign [Expr.Attribute (Expr.Name (sT "self") (Pos.mk 22 8 22 12)) (sT "line") (Pos.mk 22 8 22 17)] (Expr.Name (sT "line") (Pos.mk 22 20 22 24)) (Pos.mk 22 8 22 24),Stmt.Assign [Expr.Attribute (Expr.Name (sT "self") (Pos.mk 23 8 23 12)) (sT "word") (Pos.mk 23 8 23 17)] (Expr.Name (sT "word") (Pos.mk 23 20 23 24)) (Pos.mk 23 8 23 24)]) (Scope.mk ScopeKind.function [(sT "self",NameKind.local),(sT "line",NameKind.local),(sT "word",NameKind.local)] false false []) 3 [] vN vN vN Ci .none (vR 97) vN 0)),
(100,oM (vT "dict") .none (Data.dict #[kE P "__module__" 295 Ci,kE P "__firstlineno__" 299 (vI 19 298),kE P "__init__" 308 (vR 98),kE P "__static_attributes__" 311 (vR 99),kE P "__doc__" 312 vN] 2) #[]),
(101,oM (vT "type") .none (Data.cls (ClassData.mk (sT "NoText") [vR 24] [vR 101,vR 24,vT "ValueError",vT "Exception",vT "BaseException",vT "object"] 100 (sT "NoText") true [] [] false .none false)) #[.some (vR 85),.none,.some (qS "NoText" 288),.some (qS "NoText" 296),.some (Value.builtin "ValueError.__new__"),.some (vB true)]),
(112,oM (vT "dict") .none (Data.dict #[kE P "__module__" 322 Ci,kE P "__firstlineno__" 326 (vI 24 325),kE P "__static_attributes__" 327 (vR 111),kE P "__doc__" 328 vN] 2) #[]),
(113,oM (vT "type") .none (Data.cls (ClassData.mk (sT "NoOrder") [vR 24] [vR 113,vR 24,vT "ValueError",vT "Exception",vT "BaseException",vT "object"] 112 (sT "NoOrder") true [] [] false .none false)) #[.some (vR 104),.none,.some (qS "NoOrder" 315),.some (qS "NoOrder" 323),.some (Value.builtin "ValueError.__new__"),.some (vB true)]),
(124,oM (vT "dict") .none (Data.dict #[kE P "__module__" 338 Ci,kE P "__firstlineno__" 342 (vI 26 341),kE P "__static_attributes__" 343 (vR 123),kE P "__doc__" 344 vN] 2) #[]),
(125,oM (vT "type") .none (Data.cls (ClassData.mk (sT "NoTree") [vR 24] [vR 125,vR 24,vT "ValueError",vT "Exception",vT "BaseException",vT "object"] 124 (sT "NoTree") true [] [] false .none false)) #[.some (vR 116),.none,.some (qS "NoTree" 331),.some (qS "NoTree" 339),.some (Value.builtin "ValueError.__new__"),.some (vB true)]),
(136,oM (vT "dict") .none (Data.dict #[kE P "__module__" 354 Ci,kE P "__firstlineno__" 358 (vI 28 357),kE P "__static_attributes__" 359 (vR 135),kE P "__doc__" 360 vN] 2) #[]),
(137,oM (vT "type") .none (Data.cls (ClassData.mk (sT "NoRing") [vR 24] [vR 137,vR 24,vT "ValueError",vT "Exception",vT "BaseException",vT "object"] 136 (sT "NoRing") true [] [] false .none false)) #[.some (vR 128),.none,.some (qS "NoRing" 347),.some (qS "NoRing" 355),.some (Value.builtin "ValueError.__new__"),.some (vB true)]),
(148,oM (vT "dict") .none (Data.dict #[kE P "__module__" 370 Ci,kE P "__firstlineno__" 374 (vI 30 373),kE P "__static_attributes__" 375 (vR 147),kE P "__doc__" 376 vN] 2) #[]),
(149,oM (vT "type") .none (Data.cls (ClassData.mk (sT "NoPosts") [vR 24] [vR 149,vR 24,vT "ValueError",vT "Exception",vT "BaseException",vT "object"] 148 (sT "NoPosts") true [] [] false .none false)) #[.some (vR 140),.none,.some (qS "NoPosts" 363),.some (qS "NoPosts" 371),.some (Value.builtin "ValueError.__new__"),.some (vB true)]),
(160,oM (vT "dict") .none (Data.dict #[kE P "__module__" 386 Ci,kE P "__firstlineno__" 390 (vI 32 389),kE P "__static_attributes__" 391 (vR 159),kE P "__doc__" 392 vN] 2) #[]),
(161,oM (vT "type") .none (Data.cls (ClassData.mk (sT "NoTie") [vR 24] [vR 161,vR 24,vT "ValueError",vT "Exception",vT "BaseException",vT "object"] 160 (sT "NoTie") true [] [] false .none false)) #[.some (vR 152),.none,.some (qS "NoTie" 379),.some (qS "NoTie" 387),.some (Value.builtin "ValueError.__new__"),.some (vB true)]),
(172,oM (vT "dict") .none (Data.dict #[kE P "__module__" 402 Ci,kE P "__firstlineno__" 406 (vI 34 405),kE P "__static_attributes__" 407 (vR 171),kE P "__doc__" 408 vN] 2) #[]),
(173,oM (vT "type") .none (Data.cls (ClassData.mk (sT "NoPart") [vR 24] [vR 173,vR 24,vT "ValueError",vT "Exception",vT "BaseException",vT "object"] 172 (sT "NoPart") true [] [] false .none false)) #[.some (vR 164),.none,.some (qS "NoPart" 395),.some (qS "NoPart" 403),.some (Value.builtin "ValueError.__new__"),.some (vB true)]),
(184,oM (vT "dict") .none (Data.dict #[kE P "__module__" 418 Ci,kE P "__firstlineno__" 422 (vI 36 421),kE P "__static_attributes__" 423 (vR 183),kE P "__doc__" 424 vN] 2) #[]),
(185,oM (vT "type") .none (Data.cls (ClassData.mk (sT "NoRow") [vR 24] [vR 185,vR 24,vT "ValueError",vT "Exception",vT "BaseException",vT "object"] 184 (sT "NoRow") true [] [] false .none false)) #[.some (vR 176),.none,.some (qS "NoRow" 411),.some (qS "NoRow" 419),.some (Value.builtin "ValueError.__new__"),.some (vB true)]),
(196,oM (vT "dict") .none (Data.dict #[kE P "__module__" 434 Ci,kE P "__firstlineno__" 438 (vI 38 437),kE P "__static_attributes__" 439 (vR 195),kE P "__doc__" 440 vN] 2) #[]),
(197,oM (vT "type") .none (Data.cls (ClassData.mk (sT "TooMany") [vR 24] [vR 197,vR 24,vT "ValueError",vT "Exception",vT "BaseException",vT "object"] 196 (sT "TooMany") true [] [] false .none false)) #[.some (vR 188),.none,.some (qS "TooMany" 427),.some (qS "TooMany" 435),.some (Value.builtin "ValueError.__new__"),.some (vB true)]),
(205,cA "is_number" 445 41 1 200 449 450),
(206,fT "is_number" 15 GH 205),
(212,cA "is_within" 452 43 3 207 458 459),
(213,fT "is_within" 16 GH 212),
(219,cA "is_tuple_of" 461 45 2 214 466 467),
(220,fT "is_tuple_of" 17 GH 219),
(224,cB "is_rising" 469 47 1 221 472 473),
(225,fT "is_rising" 18 GH 224),
(231,cA "is_place" 475 49 2 226 480 481),
(232,fT "is_place" 19 GH 231),
(236,cB "is_label" 485 52 2 233 488 489),
(237,fT "is_label" 21 C6 236),
(243,cA "is_entry" 491 59 2 238 496 497),
(244,fT "is_entry" 22 C6 243),
(248,cB "are_labels" 499 67 2 245 502 503),
(249,fT "are_labels" 23 C6 248),
(253,cB "own_place" 505 69 1 250 508 509),
(254,fT "own_place" 24 C6 253),
(260,cA "told" 511 71 2 255 516 517),
(261,fT "told" 25 C6 260),
(265,cB "least_sum" 519 73 2 262 522 523),
(266,fT "least_sum" 26 C6 265),
(272,cA "entry_of" 525 77 2 267 531 532),
(273,fT "entry_of" 27 C6 272),
(277,cB "far_entries" 534 82 1 274 537 538),
(278,fT "far_entries" 28 C6 277),
(284,cA "ties_at" 542 88 2 279 551 552),
(285,fT "ties_at" 30 R8 284),
(291,cA "long_of" 554 96 3 286 562 563),
(292,fT "long_of" 31 R8 291),
(298,cA "lets_labels" 567 102 2 293 572 573),
(299,fT "lets_labels" 33 Cg 298),
(305,cA "refuse_at" 575 110 2 300 580 581),
(306,fT "refuse_at" 34 Cg 305),
(312,cA "own_fault" 583 113 1 307 589 590),
(313,fT "own_fault" 35 Cg 312),
(319,cA "up_fault" 592 118 2 314 599 600),
(320,fT "up_fault" 36 Cg 319),
(326,cA "is_up_right" 602 123 4 321 611 612),
(327,fT "is_up_right" 37 Cg 326),
(331,cB "tie_fault" 614 127 2 328 617 618),
(332,fT "tie_fault" 38 Cg 331),
(338,cA "grows_too_much" 620 135 3 333 626 627),
(339,fT "grows_too_much" 39 Cg 338),
(345,cA "down_fault" 629 139 2 340 636 637),
(346,fT "down_fault" 40 Cg 345),
(352,cA "is_down_right" 639 144 4 347 647 648),
(353,fT "is_down_right" 41 Cg 352),
(359,cA "_law_tape" 652 148 1 354 656 657),
(360,fT "_law_tape" 43 qL 359),
(366,cA "_law_draw" 659 150 2 361 668 669),
(367,fT "_law_draw" 44 qL 366),
(373,cA "_law_small" 671 163 1 368 675 676),
(374,fT "_law_small" 45 qL 373),
(378,cB "_law_web" 678 165 2 375 681 682),
(379,fT "_law_web" 46 qL 378),
(383,cB "_law_row_web" 684 177 1 380 687 688),
(384,fT "_law_row_web" 47 qL 383),
(390,cA "_law_added" 690 186 2 385 695 696),
(391,fT "_law_added" 48 qL 390),
(397,cA "_law_lesser" 698 188 2 392 703 704),
(398,fT "_law_lesser" 49 qL 397),
(402,cB "_law_far" 706 192 1 399 709 710),
(403,fT "_law_far" 50 qL 402),
(409,cA "_law_on" 712 204 4 404 720 721),
(410,fT "_law_on" 51 qL 409),
(416,cA "_law_joined" 723 207 1 411 731 732),
(417,fT "_law_joined" 52 qL 416),
(421,cB "_law_nexts" 734 213 4 418 737 738),
(422,fT "_law_nexts" 53 qL 421),
(428,cA "_law_order" 740 220 2 423 748 749),
(429,fT "_law_order" 54 qL 428),
(435,cA "_law_entry" 751 226 4 430 758 759),
(436,fT "_law_entry" 55 qL 435),
(440,cB "_law_labels" 761 230 2 437 764 765),
(441,fT "_law_labels" 56 qL 440),
(445,cB "_law_full" 767 241 2 442 770 771),
(446,fT "_law_full" 57 qL 445),
(450,cB "_law_either" 773 247 2 447 776 777),
(451,fT "_law_either" 58 qL 450),
(457,cA "_law_loose" 779 253 4 452 795 796),
(458,fT "_law_loose" 59 qL 457),
(462,cB "_law_longer" 798 266 4 459 801 802),
(463,fT "_law_longer" 60 qL 462),
(469,cA "_law_some" 804 276 2 464 812 813),
(470,fT "_law_some" 61 qL 469),
(474,cB "_law_turned" 815 289 3 471 818 819),
(475,fT "_law_turned" 62 qL 474),
(481,cA "_law_is_number" 821 318 3 476 827 828),
(482,fT "_law_is_number" 63 qL 481),
(488,cA "_law_is_entry" 830 320 2 483 835 836),
(489,fT "_law_is_entry" 64 qL 488),
(493,cB "_law_is_label" 838 328 2 490 841 842),
(494,fT "_law_is_label" 65 qL 493),
(498,cB "_law_are_labels" 844 333 2 495 847 848),
(499,fT "_law_are_labels" 66 qL 498),
(503,cB "_law_told" 850 335 2 500 853 854),
(504,fT "_law_told" 67 qL 503),
(508,cB "_law_hung" 856 339 1 505 859 860),
(509,fT "_law_hung" 68 qL 508),
(515,cA "_law_tie_fault" 862 344 3 510 871 872),
(516,fT "_law_tie_fault" 69 qL 515),
(520,cB "_law_fault" 874 352 2 517 877 878),
(521,fT "_law_fault" 70 qL 520),
(527,cA "_law_found" 880 372 2 522 888 889),
(528,fT "_law_found" 71 qL 527),
(534,cA "law" 891 383 1 529 902 903),
(535,fT "law" 72 qL 534)]
meta def Ka:List Addr:=[2,3,23,24,25,40,41,43,44,59,60,62,63,78,79,81,82,97,98,100,101,112,113,124,125,136,137,148,149,160,161,172,173,184,185,196,197,205,206,212,213,219,220,224,225,231,232,236,237,243,244,248,249,253,254,260,261,265,266,272,273,277,278,284,285,291,292,298,299,305,306,312,313,319,320,326,327,331,332,338,339,345,346,352,353,359,360,366,367,373,374,378,379,383,384,390,391,397,398,402,403,409,410,416,417,421,422,428,429,435,436,440,441,445,446,450,451,457,458,462,463,469,470,474,475,481,482,488,489,493,494,498,499,503,504,508,509,515,516,520,521,527,528,534,535]
meta abbrev pw:Program:=PySem.Challenge.pw_labelways_k30_labels_judged
meta def Vp:Program:={ pw with main:={ pw.main with body:=[top 1,top 2,top 3,top 4,top 5,top 6,top 7,top 8,top 9,top 10,top 11,top 12,top 13,top 15,top 16,top 17,top 18,top 19,top 21,top 22,top 23,top 24,top 25,top 26,top 27,top 28,top 30,top 31,top 33,top 34,top 35,top 36,top 37,top 38,top 39,top 40,top 41,top 43,top 44,top 45,top 46,top 47,top 48,top 49,top 50,top 51,top 52,top 53,top 54,top 55,top 56,top 57,top 58,top 59,top 60,top 61,top 62,top 63,top 64,top 65,top 66,top 67,top 68,top 69,top 70,top 71,top 72] } }
meta abbrev RR:PySem.W.RowW:=PySem.W.OpenRow.toRowW (PySem.Challenge.rw_labelways_k30_labels_judged).row
def Ke:∀P,Ka=(Kf P).map (·.1):=λP=>by kernel_rfl
abbrev HK:PySem.W.Hook:=PySem.W.kHook Kf Ka Ke
theorem left:PySem.W.LeftO pw Vp [] (fun s=>PySem.W.xlAt Vp [] s && PySem.W.recOk (PySem.W.RowW.records RR) s) (PySem.W.Hook.obs HK) (PySem.W.Hook.val HK) 9186:=L2.left_of (by kernel_rfl) (by decide) (fun _=>rfl) fun w os=>by kernel_rfl
theorem wS:PySem.Challenge.rw_labelways_k30_labels_judged.wellSaid=true:=by decide +kernel
end K30
abbrev BP:=PySem.Value->PySem.Shared->Prop
abbrev CP:=List (PySem.Addr×PySem.Obj)
abbrev BV:=List (List (Option Int))
abbrev BO:=PySem.Str->Option PySem.Value
abbrev AF:=PySem.W.Frag
namespace L2
open PySem PySem.Spec PyProof.Rows
abbrev AJ:=Sum Int Str
meta def Mo:AJ->Value->Bool
 | .inl k,v=>Value.isInt k v
 | .inr x,v=>Value.isStrOf x v
meta def UU (w:World):AJ->Int
 | .inl k=>hashInt k
 | .inr x=>hashStr w x
def Gb:∀{k:AJ}{v:Value},Mo k v=true->(∃i t,k=Sum.inl i/\v=Value.int i t)\/(∃x t,k=Sum.inr x/\v=Value.str x t)
 | .inl i,v,h=>by let{t,e}:=Value.isInt_shape (k:=i) (v:=v) h;show .inl {i,t,0,e}
 | .inr x,v,h=>by let{t,e}:=Value.isStrOf_shape (x:=x) (v:=v) h;show .inr {x,t,0,e}
def dW (i)(t:Tok):Mo (.inl i) (.int i t)=true:=by simp[Mo,Value.isInt]
def cZ (x)(t:Tok):Mo (.inr x) (.str x t)=true:=by simp[Mo,Value.isStrOf]
def Kr (a b):decide ((Sum.inl a:AJ)=Sum.inl b)=(a==b):=by
 by_cases e:a=b
 . subst e;simp
 . let h:¬ (Sum.inl a:AJ)=Sum.inl b:=λq=>e (Sum.inl.inj q);rw[zW h];show (beq_eq_false_iff_ne.mpr e).symm
def MB (a b):decide ((Sum.inr a:AJ)=Sum.inr b)=decide (a=b):=by
 by_cases e:a=b
 . subst e;simp
 . let h:¬ (Sum.inr a:AJ)=Sum.inr b:=λq=>e (Sum.inr.inj q);rw[zW h,zW e]
def KI (a)(b):decide ((Sum.inl a:AJ)=Sum.inr b)=false:=zW (λq=>nomatch q)
def MV (a)(b):decide ((Sum.inr a:AJ)=Sum.inl b)=false:=zW (λq=>nomatch q)
meta def BG (prog:Program)(w:World):PySem.KeyKind prog w AJ where
 is:=Mo
 hash:=UU w
 inj:=λv a b ha hb=>by
  rcases Gb ha with ⟨i,t,rfl,rfl⟩ | ⟨x,t,rfl,rfl⟩
  . rcases Gb hb with ⟨j,u,rfl,e⟩ | ⟨y,u,rfl,e⟩
    . injection e with e1 _;rw[e1]
    . show nomatch e
  . rcases Gb hb with ⟨j,u,rfl,e⟩ | ⟨y,u,rfl,e⟩
    . show nomatch e
    . injection e with e1 _;rw[e1]
 byValue:=λk v h=>by rcases Gb h with ⟨i,t,rfl,rfl⟩ | ⟨x,t,rfl,rfl⟩ <;> rfl
 pyHash:=λo h=>by
  rcases Gb o with ⟨i,t,rfl,rfl⟩ | ⟨x,t,rfl,rfl⟩
  . show wpAny_pyHash_int h
  . show wpAny_pyHash_str h
 eqBool:=λC o h=>by
  rcases Gb C with ⟨i,t,rfl,rfl⟩ | ⟨x,t,rfl,rfl⟩
  . rcases Gb o with ⟨j,u,rfl,rfl⟩ | ⟨y,u,rfl,rfl⟩
    . rw[Kr] at h;show wpAny_eqBool_int h
    . rw[KI] at h;show SeqAt.EqAt.int_str i t y u _ _ _ _ h
  . rcases Gb o with ⟨j,u,rfl,rfl⟩ | ⟨y,u,rfl,rfl⟩
    . rw[MV] at h;show SeqAt.EqAt.str_int x t j u _ _ _ _ h
    . rw[MB] at h;show wpAny_eqBool_str h
 «strs» := λk x t v h=>by
  rcases Gb h with ⟨i,u,rfl,e⟩ | ⟨y,u,rfl,e⟩
  . show nomatch e
  . injection e with e1 _;subst e1;ext v <;> rfl
def gG (prog)(w)(i)(t:Tok):(BG prog w).is (.inl i) (.int i t)=true:=dW i t
def gJ (prog)(w)(x)(t:Tok):(BG prog w).is (.inr x) (.str x t)=true:=cZ x t
set_option genInjectivity true in
inductive V where
 | non | bl (b:Bool) | int (i:Int) | str (x:Str) | byt (b:Array UInt8) | flt (b:UInt64) | ref (a:Addr) | ty (n:String)
 deriving DecidableEq
def AM:V->Value->Prop
 | .non,u=>u=Value.none
 | .bl b,u=>u=Value.bool b
 | .int i,u=>∃t,u=Value.int i t
 | .str x,u=>∃t,u=Value.str x t
 | .byt b,u=>∃t,u=Value.bytes b t
 | .flt b,u=>∃t,u=Value.float b t
 | .ref a,u=>u=Value.ref a
 | .ty n,u=>u=Value.type n
abbrev AK:List V->List Value->Prop:=Paired AM
def AK.length (r:AK xs us):xs.length=us.length:=Paired.length r
def AK.get:∀{xs:List V}{us:List Value}{i:Nat}{x:V},AK xs us->xs[i]?=some x->∃u,us[i]?=some u/\AM x u
 | _,_,_,_,.nil,e=>by simp at e
 | _,_,0,_,.cons r _,e=>by simp at e;subst e;show{1,r}
 | _,_,i+1,x,.cons _ t,e=>by let{u,C,o}:=AK.get (i:=i) (x:=x) t ‹e›;show{u,‹C›,o}
def AK.set (r:AM x u):∀{xs:List V}{us:List Value}(i:Nat),AK xs us->AK (xs.set i x) (us.set i u)
 | _,_,_,.nil=>.nil
 | _,_,0,.cons _ t=>.cons r t
 | _,_,i+1,.cons q t=>.cons q (AK.set r i t)
def AK.append (h:AK xs us)(s:AK ys ws):AK (xs++ys) (us++ws):=by
 induction h with
 | nil=>show s
 | cons r t o=>show .cons r o
def AK.take:∀{xs:List V}{us:List Value}(n:Nat),AK xs us->AK (xs.take n) (us.take n)
 | _,_,0,_=>.nil
 | _,_,_+1,.nil=>.nil
 | _,_,n+1,.cons r t=>.cons r (AK.take n t)
def AK.drop:∀{xs:List V}{us:List Value}(n:Nat),AK xs us->AK (xs.drop n) (us.drop n)
 | _,_,0,r=>r
 | _,_,_+1,.nil=>.nil
 | _,_,n+1,.cons _ t=>AK.drop n t
def CV:Option V->Option Value->Prop
 | some v,some u=>AM v u
 | none,none=>True
 | _,_=>False
def KV {κ:Type}:List (κ×V)->List (κ×Value)->Prop:=Paired λ(p:κ×V)(q:κ×Value)=>p.1=q.1/\AM p.2 q.2
meta def kV:AJ->V
 | .inl i=>.int i
 | .inr x=>.str x
inductive HO where
 | lst (xs:List V)
 | tup (xs:List V)
 | dK (kvs:List (AJ×V)) | dT (kvs:List (List AJ×V))
 | set (S:Int->Bool)(n:Nat)
 | ins (C dx:Addr)(fs:List (Str×V))
 | own (x:Addr)
 | xd (fs:List (Str×V))
 | met (f x:Addr)
 | rng (lo hi:Int)
 | frz (o:Obj)(u:HO)
 | tbl (ps:Array Value)
 | ext (φ:Heap->Prop)
abbrev Hp:=Addr->Option HO
meta def upd (H:Hp)(a:Addr)(o:HO):Hp:=λb=>if b=a then some o else H b
def zI :upd H a o a=some o:=by unfold upd;rw[if_pos rfl]
def zi (h:b≠a):upd H a o b=H b:=by unfold upd;rw[if_neg h]
def EU :upd (upd H a o) a u=upd H a u:=by funext b;unfold upd;split <;> rfl
def BA {H:Hp}(h:H a=some o)(h':H b=some u)(d:o≠u):a≠b:=by intro e;subst e;rw[h] at h';show d (zZ h')
def zl {H:Hp}(h:H a=some o)(h':H b=none):a≠b:=by intro e;subst e;rw[h] at h';ext h'
section
variable (P:Program)(w:World)
def Av (H:Hp)(h:Heap)(a:Addr):HO->Prop
 | .lst xs=>xs.length<=sizeLine/\∃(its:List Value)(n:Nat),AK xs its/\h.get? a=some { cls:=.type "list",data:=.seq its.toArray n }
 | .tup xs=>(xs.length<=sizeLine/\∃o,h.get? a=some o/\o.dict=none)/\∃its:List Value,AK xs its/\IsTup h a its.toArray
 | .dK kvs=>kvs.length<=sizeLine/\(a==sysModules)=false/\∃I,KV kvs I/\h.DictOf (BG P w) a I
 | .dT kvs=>kvs.length<=sizeLine/\(a==sysModules)=false/\∃xs:List (List AJ×Addr×Value),
  Paired (λ(p:List AJ×V)(q:List AJ×Addr×Value)=>p.1=q.1/\H q.2.1=some (.tup (p.1.map kV))/\AM p.2 q.2.2) kvs xs /\
  ∃o es ep,h.get? a=some o/\o.ExactDict/\o.data=.dict es ep/\es.toList=xs.map (entryOfKey (tupleKind (BG P w)))/\(xs.map (·.1)).Nodup
 | .set S n=>h.SetOf (intKind P w) a S n
 | .ins C dx fs=>H dx=some (.own a)/\fs.length<=1000/\dx≠a/\h.get? a=some (PySem.W.instObj C dx) /\
  ∃mA,h.Ns1 dx mA/\(∀f,CV (fs.lookup f) (mA f))/\PySem.Within mA (fs.map (·.1))
 | .own _=>∃o,h.get? a=some o
 | .xd fs=>∃mA,h.Ns1 a mA/\∀f,CV (fs.lookup f) (mA f)
 | .rng lo hi=>∃t u v,h.get? a=some { cls:=.type "range",data:=.fields #[.int lo t,.int hi u,.int 1 v] }
 | .frz o u=>h.get? a=some o/\Av H h a u
 | .tbl ps=>h.get? a=some { cls:=.none,data:=.fields ps }
 | .met f x=>h.get? a=some (PySem.W.methodObj (.ref f) (.ref x))
 | .ext φ=>φ h/\(∃o,h.get? a=some o)/\∀U J:Heap,φ U->(∀o,U.get? a=some o->J.get? a=some o)->φ J
def Aq (H:Hp)(h:Heap):Prop:=∀a o,H a=some o->Av P w H h a o
end
def Av.lt (x:Av P w H h a o):a<h.objs.size:=by
 cases o with
 | lst xs=>let{8,e}:=x;show zY e
 | tup xs=>let{_,2,p}:=x;show p.lt
 | dK kvs=>let{8,o,2,e,_}:=x;show zY e
 | dT kvs=>let{8,o,2,e,_}:=x;show zY e
 | set S n=>let{o,_,2,e,_}:=x;show zY e
 | ins C dx fs=>let{_,2,e,_}:=x;show zY e
 | own y=>let{_,e}:=x;show zY e
 | xd fs=>let{_,{_,2,e,_},_}:=x;show zY e
 | rng lo hi=>let{_,2,e}:=x;show zY e
 | frz J u=>let{e,_}:=x;show zY e
 | tbl ps=>show zY (show h.get? a=some _ from x)
 | met f y=>show zY (show h.get? a=some _ from x)
 | ext I=>let{_,{_,e},_}:=x;show zY e
def Paired.mapP (h:Paired F l₁ l₂)(f:∀a b,F a b->G a b):Paired G l₁ l₂:=by
 induction h with
 | nil=>show .nil
 | cons r t o=>show .cons (f _ _ r) o
def Av.stay (x:Av P w H h a o)(k:∀b u,(b=a\/H b=some (.own a))->h.get? b=some u->h'.get? b=some u)
 (ho:∀b,H b=some (.own a)->H' b=some (.own a))(ht:∀b xs,H b=some (.tup xs)->H' b=some (.tup xs)):Av P w H' h' a o:=by
 induction o with
 | lst xs=>let{z,its,n,r,e}:=x;show{z,its,n,r,k _ _ (.inl rfl) e}
 | tup xs=>let{{z,o2,U,d2},its,r,I,e,c}:=x;show{{z,o2,k _ _ (.inl rfl) U,d2},its,r,I,k _ _ (.inl rfl) e,c}
 | dK kvs=>let{z,y,vs,r,I,es,ep,e,c}:=x;show{z,y,vs,r,I,es,ep,k _ _ (.inl rfl) e,c}
 | dT kvs=>let{z,y,xs,r,I,es,ep,e,c}:=x;show{z,y,xs,Paired.mapP r λp q z=>{z.1,ht _ _ z.2.1,z.2.2},I,es,ep,k _ _ (.inl rfl) e,c}
 | set S n=>let{I,es,ep,t,e,c}:=x;show{I,es,ep,t,k _ _ (.inl rfl) e,c}
 | ins C dx fs=>let{d,z,ne,e,mA,{J,es,ep,U,c},r}:=x;show{ho _ d,z,ne,k _ _ (.inl rfl) e,mA,{J,es,ep,k _ _ (.inr d) U,c},r}
 | own y=>let{I,e}:=x;show{I,k _ _ (.inl rfl) e}
 | xd fs=>let{mA,{J,es,ep,e,c},r}:=x;show{mA,{J,es,ep,k _ _ (.inl rfl) e,c},r}
 | rng lo hi=>let{t,u,v,e}:=x;show{t,u,v,k _ _ (.inl rfl) e}
 | frz I u ih=>let{e,q}:=x;show{k _ _ (.inl rfl) e,ih q}
 | tbl ps=>have e:h.get? a=some { cls:=.none,data:=.fields ps }:=x;change h'.get? a=some { cls:=.none,data:=.fields ps };show k a _ (.inl rfl) e
 | met f y=>have e:h.get? a=some (PySem.W.methodObj (.ref f) (.ref y)):=x;change h'.get? a=some (PySem.W.methodObj (.ref f) (.ref y));show k a _ (.inl rfl) e
 | ext φ=>let{p,{o,e},st}:=x;show{st _ _ p λo q=>k _ _ (.inl rfl) q,{o,k _ _ (.inl rfl) e},st}
def Aq.lt (x:Aq P w H h)(e:H a=some o):a<h.objs.size:=(x a o e).lt
def Aq.fresh (x:Aq P w H h)(e:h.objs.size<=a):H a=none:=by
 cases q:H a with
 | none=>rfl
 | some u=>show absurd (zo (x.lt q) e) (FN _)
def Aq.kept (x:Aq P w H h)(k:∀b u,h.get? b=some u->h'.get? b=some u):Aq P w H h':=λa o e=>
 (x a o e).stay (λb u _ q=>k b u q) (λ_ q=>q) λ_ _ q=>q
def Aq.laid (x:Aq P w H h)(k:∀b u,h.get? b=some u->h'.get? b=some u)(I:h.objs.size<=a)(new:Av P w (upd H a o) h' a o):Aq P w (upd H a o) h':=λb u e=>by
 let C:=x.fresh I;by_cases hb:b=a
 . subst hb;rw[zI] at e;ext e;show new
 . rw[zi hb] at e;show (x b u e).stay (λc v _ q=>k c v q) (λc q=>by rwa[zi (zl q C)]) λc xs q=>by rwa[zi (zl q C)]
def Rd (H:Hp)(a:Addr)(u:HO):Prop:=H a=some u\/∃o,H a=some (.frz o u)
def Rd.ok (r:Rd H a u)(x:Aq P w H h):Av P w H h a u:=by
 rcases r with r | ⟨o,r⟩
 . show x a u r
 . let{_,q}:=x a _ r;show q
def IC:Option HO->Prop
 | some (.lst _)=>True
 | some (.dK _)=>True
 | some (.dT _)=>True
 | some (.set _ _)=>True
 | some (.ins _ _ _)=>True
 | some (.ext _)=>True
 | _=>False
def Aq.write (ok:Aq P w H h)(mu:IC (H x))(he:e=x\/H e=some (.own x))(k:∀b u,b≠e->h.get? b=some u->h'.get? b=some u)(J:∃u,h'.get? e=some u)
 (new:Av P w (upd H x o') h' x o'):Aq P w (upd H x o') h':=λb u q=>by
 let C:∀c y,H c=some (.own y)->c≠x:=λc y r z=>by subst z;rwa[r] at mu
 let I:∀c xs,H c=some (.tup xs)->c≠x:=λc xs r z=>by subst z;rwa[r] at mu
 by_cases hb:b=x
 . subst hb;rw[zI] at q;ext q;show new
 . rw[zi hb] at q;by_cases o:b=e
   . let U:H b=some (.own x):=by
      rcases he with z | z
      . show absurd (o.trans z) hb
      . rwa[o]
     rw[q] at U;ext U;let{v,hv}:=J;show{v,by rwa[o]}
   . show (ok b u q).stay (λc v hc r=>k c v ?_ r) (λc r=>by rwa[zi (C c b r)]) λc xs r=>by rwa[zi (I c xs r)]
     rcases hc with rfl | hc
     . show o
     . rintro rfl;rcases he with z | z
       . show C c b hc z
       . rw[hc] at z;ext z;show hb rfl
structure Un (fs ex:List Addr)(H H':Hp)(h h':Heap):Prop where
 keep:∀b o,h.get? b=some o->H b=none->b∉fs->b∉ex->h'.get? b=some o
 slot:∀b o,h.get? b=some o->H b=none->b∈fs->b∉ex->∃sl,h'.get? b=some { o with slots:=sl }
 free:∀b o,h.get? b=some o->H b=none->b∉ex->H' b=none
 there:∀b o,h.get? b=some o->b∉ex->∃o',h'.get? b=some o'
 tups:∀b xs,H b=some (.tup xs)->H' b=some (.tup xs)
 frzs:∀b o u,H b=some (.frz o u)->H' b=some (.frz o u)
 tbls:∀b ps,H b=some (.tbl ps)->∃more,H' b=some (.tbl (ps++more))
def Un.any (u:Un fs ex H H1 h h1)(q:h.get? b=some ob)(n:H b=none)(o:b∉ex):∃C,h1.get? b=some { ob with slots:=C }:=by
 by_cases hb:b∈fs
 . show u.slot b ob q n hb o
 . show{ob.slots,u.keep b ob q n hb o}
def Un.trans (a:Un fs ex H H1 h h1)(b:Un fs ex H1 H2 h1 h2):Un fs ex H H2 h h2 where
 keep:=λc o q n J C=>b.keep c o (a.keep c o q n J C) (a.free c o q n C) J C
 slot:=λc o q n J C=>by let{sl,I}:=a.slot c o q n J C;let{U,e2}:=b.slot c _ I (a.free c o q n C) J C;show⟨U,e2⟩
 free:=λc o q n C=>by let{o',I}:=a.there c o q C;show b.free c o' I (a.free c o q n C) C
 there:=λc o q C=>by let{o',I}:=a.there c o q C;show b.there c o' I C
 tups:=λc xs q=>b.tups c xs (a.tups c xs q)
 frzs:=λc o xs q=>b.frzs c o xs (a.frzs c o xs q)
 tbls:=λc ps q=>by let{m1,I}:=a.tbls c ps q;let{m2,e2}:=b.tbls c _ I;show{m1++m2,by rw[e2,Array.append_assoc]}
def Un.kept (k:∀b u,h.get? b=some u->h'.get? b=some u):Un fs ex H H h h':=
 {λb o q _ _ _=>k b o q,λb o q _ _ _=>{o.slots,k b o q},λ_ _ _ n _=>n,λb o q _=>{o,k b o q},λ_ _ q=>q,λ_ _ _ q=>q,λ_ ps q=>{#[],by rw[q];simp}}
def Un.refl:Un fs ex H H h h:=Un.kept λ_ _ q=>q
def Un.laid (k:∀b u,h.get? b=some u->h'.get? b=some u)(I:h.objs.size<=a)(C:H a=none):Un fs ex H (upd H a o) h h' where
 keep:=λb u q _ _ _=>k b u q
 slot:=λb u q _ _ _=>{u.slots,k b u q}
 free:=λb u q n _=>by rwa[zi (zh (zo (zY q) I))]
 there:=λb u q _=>{u,k b u q}
 tups:=λb xs q=>by rwa[zi (zl q C)]
 frzs:=λb u xs q=>by rwa[zi (zl q C)]
 tbls:=λb ps q=>{#[],by rw[zi (zl q C),q];simp}
def Un.write (I:IC (H x))(he:e=x\/H e=some (.own x))(k:∀b u,b≠e->h.get? b=some u->h'.get? b=some u)(J:∃u,h'.get? e=some u):Un fs ex H (upd H x o) h h':=by
 let U:∀b,H b=none->b≠x:=λb n z=>by subst z;rwa[n] at I
 let hb:∀b,H b=none->b≠e:=λb n z=>by
  subst z;rcases he with r | r
  . show U b n r
  . rw[n] at r;ext r
 let hm:∀b u,H b=some u->¬ IC (some u)->b≠x:=λb u q nm z=>by subst z;rw[q] at I;show nm I
 show{λb u q n _ _=>k b u (hb b n) q,λb u q n _ _=>{u.slots,k b u (hb b n) q},λb u q n _=>by rwa[zi (U b n)],λb u q _=>?_,
  λb xs q=>by rwa[zi (hm b _ q λz=>z)],λb u xs q=>by rwa[zi (hm b _ q λz=>z)],λb ps q=>{#[],by rw[zi (hm b _ q λz=>z),q];simp}}
 by_cases C:b=e
 . subst C;show J
 . show{u,k b u C q}
meta def Rq (h:Heap)(H:Hp):List Addr:=(List.range h.objs.size).filter λa=>(H a).isSome
meta def Gg (h:Heap)(H:Hp):Heap:=PySem.W.hideAll h (Rq h H)
def i8 (h)(H):(Gg h H).objs.size=h.objs.size:=PySem.W.hideAll_size _ _
def cb (e:h.get? b=some o)(n:H b=none):(Gg h H).get? b=some o:=
 PySem.W.hideAll_get _ e λhm=>by let q:(H b).isSome=true:=(Dg.mp hm).2;rw[n] at q;simp at q
def gW (e:(Gg h H).get? b=some o):h.get? b=some o/\H b=none:=by
 let C:h.get? b=some o:=PySem.W.of_hideAll (Rq h H) e;show{C,?_};cases q:H b with
 | none=>rfl
 | some x=>have hm:b∈Rq h H:=Dg.mpr {Cs.mpr (zY C),by simp[q]};let z:(Gg h H).get? b=none:=PySem.W.hideAll_none (Rq h H) hm;rw[z] at e;ext e
structure Mod (K:AF)(mg:BO)(base:Heap):Prop where
 kin:K.In base
 glob:base.Ns mainGlobals mg
 blt:∃mb,base.Ns builtinsNs mb/\∀x:Str,x ≠ "__name__"->mb x=bootBuiltins x
 nolimit:base.NoLimit
structure Cx where
 prog:Program
 w:World
 K:AF
 mg:Str->Option Value
 base:Heap
 A:Around
 N:List Str
 s₀:Shared
 H₀:Hp
 env:Env
 outer:List Env
 stack:List Env
 ex:List Addr
 fn:Str->Bool
 calm:Bool
 pn:List (Addr×Obj)
 xe:Value->Shared->Prop
meta def A7 (l:List Env):List Addr:=l.filterMap (·.frame)
meta abbrev Cx.fs (X:Cx):List Addr:=A7 X.outer
def Uy (sc:Scope)(x:Str):Prop:=sc.names.lookup x=some .local\/sc.names.lookup x=some .cell\/sc.names.lookup x=some .free
def G9 (sc:Scope)(x:Str):Prop:=sc.names.lookup x=some .local\/sc.names.lookup x=some .cell
def Uo (env:Env)(h:Heap)(m:BO)(x:Str)(u:Value):Prop:=
 (env.kindOf x=some .local/\m x=some u)\/((env.kindOf x=some .cell\/env.kindOf x=some .free)/\∃c,env.cells.lookup x=some c/\h.IsCell c (some u))
structure Cx.Ok (X:Cx):Prop where
 mod:Mod X.K X.mg X.base
 kind:X.env.scope.kind=.function
 glob:X.env.globals=mainGlobals
 blt:X.env.builtins=builtinsNs
 above:X.s₀.heap.objs.size<=X.env.locals
 inj:∀x y c,X.env.cells.lookup x=some c->X.env.cells.lookup y=some c->x=y
 has:∀x,(X.env.kindOf x=some .cell\/X.env.kindOf x=some .free)->∃c,X.env.cells.lookup x=some c
 cab:∀x c,X.fn x=true->X.env.cells.lookup x=some c->X.s₀.heap.objs.size<=c
 hd:X.calm=true->X.A.handled=none
 frames:X.A.frames=some X.stack
 stk:X.stack=X.outer\/(X.stack=X.env::X.outer/\X.env.frame=some X.env.locals)
 exf:∀b∈X.ex,b≠X.env.locals/\∀x c,X.env.cells.lookup x=some c->c≠b
 bs:∀b o,X.base.get? b=some o->X.s₀.heap.get? b=some o/\X.H₀ b=none
 bsz:X.base.objs.size<=X.s₀.heap.objs.size
 noex:∀b o,X.base.get? b=some o->b∉X.ex
 exfs:∀b∈X.ex,b∉X.fs
 funs:X.s₀.heap.FunFrames X.base X.outer
 frf:∀b∈X.fs,X.H₀ b=none
structure AA (X:Cx)(pins:CP)(σ:List (Option V))(H:Hp)(s:Shared):Prop where
 ok:X.Ok
 os:s.os=X.s₀.os
 bare:AllBare s.gens
 base:Un X.fs X.ex X.H₀ H X.s₀.heap s.heap
 loc:∃m,s.heap.Ns X.env.locals m/\∀(i:Nat)(x:Str)(v:V),X.N[i]?=some x->σ[i]?=some (some v)->Uy X.env.scope x->∃u,AM v u/\Uo X.env s.heap m x u
 cell:∀x c,X.env.cells.lookup x=some c->∃v,s.heap.IsCell c v
 free:H X.env.locals=none
 freeC:∀x c,X.env.cells.lookup x=some c->H c=none
 pin:∀p∈X.pn++pins,s.heap.get? p.1=some p.2/\H p.1=none/\p.1≠X.env.locals/\p.1∉X.fs/\∀v,p.2.data ≠ .cell v
 hok:Aq X.prog X.w H s.heap
 len:σ.length=X.N.length
section
variable {X:Cx}{pins:CP}{σ:List (Option V)}{H H':Hp}{s:Shared}{h':Heap}
def Cx.Ok.nofr (ok:X.Ok)(e:X.base.get? b=some o):b∉X.fs:=λhb=>by let:=(ok.funs.mem hb).1;rw[e] at this;ext this
def AA.bs (I:AA X pins σ H s):∀b o,X.base.get? b=some o->s.heap.get? b=some o/\H b=none:=λb o e=>
 {I.base.keep b o (I.ok.bs b o e).1 (I.ok.bs b o e).2 (I.ok.nofr e) (I.ok.noex b o e),I.base.free b o (I.ok.bs b o e).1 (I.ok.bs b o e).2 (I.ok.noex b o e)}
def AA.bk (I:AA X pins σ H s):∀b o,X.base.get? b=some o->s.heap.get? b=some o:=λb o e=>(I.bs b o e).1
def AA.mod (I:AA X pins σ H s):Mod X.K X.mg X.base:=I.ok.mod
def AA.kIn (I:AA X pins σ H s):X.K.In s.heap:=I.ok.mod.kin.keeps I.bk
def AA.lt (I:AA X pins σ H s):X.env.locals<↥s:=let {_,o,_}:=I.loc;o.lt
def AA.sz (I:AA X pins σ H s):X.s₀.heap.objs.size<=↥s:=BC I.ok.above (CI I.lt)
def AA.nofs (I:AA X pins σ H s)(h:↥s<=a):a∉X.fs:=λhb=>by let{_,o,C,_}:=I.ok.funs.mem hb;show absurd (zo (zY C) (BC I.sz h)) (FN _)
def AA.cne (I:AA X pins σ H s):∀x c,X.env.cells.lookup x=some c->c≠X.env.locals:=λx c e z=>by let{v,o,C,hd}:=I.cell x c e;let{m,{o',es,ep,J,U,_},_}:=I.loc;rw[z,J] at C;ext C;rw[U] at hd;ext hd
def AA.funs (I:AA X pins σ H s):s.heap.FunFrames X.base X.outer:=by
 let all:∀(l:List Env),(∀b∈A7 l,b∈X.fs)->X.s₀.heap.FunFrames X.base l->s.heap.FunFrames X.base l:=by
  intro l
  induction l with
  | nil=>intro _ _;trivial
  | cons env r U=>intro J hl;let{hk,{L,o,hf,hn,ho,hd},hr}:=hl;let C:L∈X.fs:=J L (by unfold A7;rw[NA,hf];show zX);let{sl,e}:=I.base.slot L o ho (I.ok.frf L C) C λz=>I.ok.exfs L z C;show{hk,{L,_,hf,hn,e,hd},U (λb hb=>J b (by unfold A7;rw[NA,hf];show zd _ hb)) hr}
 show all X.outer (λ_ hb=>hb) I.ok.funs
def AA.stack (I:AA X pins σ H s):s.heap.FunFrames X.base X.stack:=by
 rcases I.ok.stk with e | ⟨e,hf⟩
 . rw[e];show I.funs
 . rw[e];let{m,o,_}:=I.loc;show .cons (by rw[I.ok.kind];decide) hf o ?_ I.funs;show Heap.get?_none_of_le (BC I.ok.bsz I.ok.above)
def AA.stkSub (I:AA X pins σ H s):∀b∈A7 X.stack,b∈X.env.locals::X.fs:=λb hb=>by
 rcases I.ok.stk with e | ⟨e,hf⟩
 . rw[e] at hb;show zd _ hb
 . rw[e] at hb;unfold A7 at hb;rwa[NA,hf] at hb
def AA.stkFree (I:AA X pins σ H s):∀b∈A7 X.stack,H b=none:=λb hb=>by
 rcases za.mp (I.stkSub b hb) with e | hb
 . rw[e];show I.free
 . let{_,o,C,_}:=I.ok.funs.mem hb;show I.base.free b o C (I.ok.frf b hb) λz=>I.ok.exfs b z hb
def AA.step {ch:List Addr}(I:AA X pins σ H s)
 (U:∀b∈ch,(b∈X.ex\/X.s₀.heap.objs.size<=b)/\b≠X.env.locals/\(∀x c,X.env.cells.lookup x=some c->c≠b)/\∀p∈X.pn++pins,p.1≠b)
 (keep:∀b o,b≠X.env.locals->b∉X.fs->b∉ch->s.heap.get? b=some o->H b=none->h'.get? b=some o)
 (slot:∀b o,b≠X.env.locals->b∈X.fs->b∉ch->s.heap.get? b=some o->H b=none->∃sl,h'.get? b=some { o with slots:=sl })(free:∀b o,b∉ch->s.heap.get? b=some o->H b=none->H' b=none)
 (there:∀b o,b∉ch->s.heap.get? b=some o->∃o',h'.get? b=some o')
 (tups:∀b xs,H b=some (.tup xs)->H' b=some (.tup xs))(frzs:∀b o u,H b=some (.frz o u)->H' b=some (.frz o u))(tbls:∀b ps,H b=some (.tbl ps)->∃more,H' b=some (.tbl (ps++more)))
 (ns:∀m,s.heap.Ns X.env.locals m->h'.Ns X.env.locals m)(hok:Aq X.prog X.w H' h')(hg:AllBare g'):
 AA X pins σ H' { s with heap:=h',gens:=g',drawn:=d',toks:=t' }:=by
 let neL:∀b o,X.s₀.heap.get? b=some o->b≠X.env.locals:=λb o e=>zh (zo (zY e) I.ok.above);let neC:∀b o,X.s₀.heap.get? b=some o->b∉X.ex->b∉ch:=λb o e C hb=>by
  rcases (U b hb).1 with z | z
  . show C z
  . show absurd (zo (zY e) z) (FN _)
 let cellK:∀x c,X.env.cells.lookup x=some c->∀v,s.heap.IsCell c v->h'.IsCell c v:=λx c e v ⟨o,ho,hd⟩=>by
  let J:c∉ch:=λz=>(U c z).2.2.1 x c e rfl;by_cases hc:c∈X.fs
  . let{sl,q}:=slot c o (I.cne x c e) hc J ho (I.freeC x c e);show{_,q,hd}
  . show{o,keep c o (I.cne x c e) hc J ho (I.freeC x c e),hd}
 show{I.ok,I.os,hg,{λb o e n hb C=>?_,λb o e n hb C=>?_,λb o e n C=>?_,λb o e C=>?_,λb xs e=>tups b xs (I.base.tups b xs e),λb o xs e=>frzs b o xs (I.base.frzs b o xs e),λb ps e=>?_},?_,λx c e=>?_,?_,λx c e=>?_,λp hp=>?_,hok,I.len}
 . show keep b o (neL b o e) hb (neC b o e C) (I.base.keep b o e n hb C) (I.base.free b o e n C)
 . let{sl,e1}:=I.base.slot b o e n hb C;let{sl',e2}:=slot b _ (neL b o e) hb (neC b o e C) e1 (I.base.free b o e n C);show⟨sl',e2⟩
 . let{o',e1}:=I.base.there b o e C;show free b o' (neC b o e C) e1 (I.base.free b o e n C)
 . let{o',e1}:=I.base.there b o e C;show there b o' (neC b o e C) e1
 . let{m1,e1}:=I.base.tbls b ps e;let{m2,e2}:=tbls b _ e1;show{m1++m2,by rw[e2,Array.append_assoc]}
 . let{m,hn,hl}:=I.loc;show{m,ns m hn,λi x v e1 e2 e3=>?_};let{u,r,l}:=hl i x v e1 e2 e3;show{u,r,?_};rcases l with l | ⟨k,c,e,z⟩
   . show .inl l
   . show .inr {k,c,e,cellK x c e _ z}
 . let{v,z}:=I.cell x c e;show{v,cellK x c e v z}
 . let{m,{o,2,ho,_},_}:=I.loc;show free _ o (λz=>(U _ z).2.1 rfl) ho I.free
 . let{v,o,ho,hd}:=I.cell x c e;show free c o (λz=>(U c z).2.2.1 x c e rfl) ho (I.freeC x c e)
 . let{e,n,ne,nf,d}:=I.pin p hp;let J:p.1∉ch:=λz=>(U p.1 z).2.2.2 p hp rfl;show{keep p.1 p.2 ne nf J e n,free p.1 p.2 J e n,ne,nf,d}
def AA.un (I:AA X pins σ H s)(u:Un X.fs [] H H' s.heap h')(C:Aq X.prog X.w H' h'):AA X pins σ H' { s with heap:=h',toks:=t' }:=by
 let{m,{o,es,ep,ho,r},_}:=id I.loc;let{sl,hL}:=u.any ho I.free (by simp);show I.step (g':=s.gens) (d':=s.drawn) (ch:=[]) (λ_ z=>nomatch z) (λb o _ hb _ e n=>u.keep b o e n hb (by simp)) (λb o _ hb _ e n=>u.slot b o e n hb (by simp)) (λb o _ e n=>u.free b o e n (by simp)) (λb o _ e=>u.there b o e (by simp)) u.tups u.frzs u.tbls (λm' hm=>by let{o',lP,J,U,r'}:=hm;rw[ho] at U;ext U;show{_,lP,J,hL,r'}) C I.bare
def AA.call (I:AA X pins σ H s)(u:Un (A7 X.stack) ch H H' s.heap h')(U:Aq X.prog X.w H' h')(hg:AllBare g')
 (J:∀b∈ch,(b∈X.ex\/X.s₀.heap.objs.size<=b)/\b≠X.env.locals/\(∀x c,X.env.cells.lookup x=some c->c≠b)/\∀p∈X.pn++pins,p.1≠b):
 AA X pins σ H' { s with heap:=h',gens:=g',drawn:=d',toks:=t' }:=by
 let{m,{o,es,ep,ho,r},_}:=id I.loc;let{sl,hL}:=u.any ho I.free λz=>(J _ z).2.1 rfl;show I.step (ch:=ch) J (λb o hL hb C e n=>u.keep b o e n (λz=>(za.mp (I.stkSub b z)).elim hL hb) C) (λb o _ _ C e n=>u.any e n C) (λb o C e n=>u.free b o e n C) (λb o C e=>u.there b o e C) u.tups u.frzs u.tbls (λm' hm=>by let{o',lP,ep',nK,r'}:=hm;rw[ho] at nK;ext nK;show{_,lP,ep',hL,r'}) U hg
def AA.turned {t':Nat}{it:Addr}(I:AA X pins σ H s)(k:∀b o,b≠it->s.heap.get? b=some o->h'.get? b=some o)(hn:H it=none)(U:it≠X.env.locals)
 (h1:it∈X.ex\/X.s₀.heap.objs.size<=it)(h2:∀x c,X.env.cells.lookup x=some c->c≠it)(h3:∀p∈X.pn++pins,p.1≠it):AA X pins σ H { s with heap:=h',toks:=t' }:=by
 let J:∀b u,H b=some u->b≠it:=λb u e z=>by rw[z,hn] at e;ext e
 show I.step (g':=s.gens) (d':=s.drawn) (ch:=[it]) (λb hb=>?_) (λb o _ _ C e _=>k b o (λz=>C (by simp[z])) e) (λb o _ _ C e _=>{o.slots,k b o (λz=>C (by simp[z])) e}) (λ_ _ _ _ n=>n)
  (λb o C e=>{o,k b o (λz=>C (by simp[z])) e}) (λ_ _ e=>e) (λ_ _ _ e=>e) (λb ps e=>{#[],by rw[e];simp}) (λm hm=>?_) (λb u e=>?_) I.bare
 . let e:b=it:=‹hb›
   subst e;show⟨h1,U,h2,h3⟩
 . let{o,es,ep,ho,r}:=hm;show{o,es,ep,k _ o (Ne.symm U) ho,r}
 . show (I.hok b u e).stay (λc v C q=>k c v ?_ q) (λ_ q=>q) λ_ _ q=>q;rcases C with z | z
   . rw[z];show J b u e
   . show J c _ z
def AA.tok (I:AA X pins σ H s)(t):AA X pins σ H { s with toks:=t }:=I.un (h':=s.heap) (t':=t) Un.refl I.hok
def AA.kept (I:AA X pins σ H s)(k:∀b u,s.heap.get? b=some u->h'.get? b=some u):AA X pins σ H { s with heap:=h',toks:=t' }:=I.un (Un.kept k) (I.hok.kept k)
def AA.laid (I:AA X pins σ H s)(k:∀b u,s.heap.get? b=some u->h'.get? b=some u)(C:↥s<=a)(new:Av X.prog X.w (upd H a o) h' a o):
 AA X pins σ (upd H a o) { s with heap:=h',toks:=t' }:=I.un (Un.laid k C (I.hok.fresh C)) (I.hok.laid k C new)
def AA.write (I:AA X pins σ H s)(J:IC (H x))(he:e=x\/H e=some (.own x))(k:∀b u,b≠e->s.heap.get? b=some u->h'.get? b=some u)(C:∃u,h'.get? e=some u)
 (new:Av X.prog X.w (upd H x o) h' x o):AA X pins σ (upd H x o) { s with heap:=h',toks:=t' }:=I.un (Un.write J he k C) (I.hok.write J he k C new)
def AA.weak (I:AA X pins σ H s)(J:σ'.length=σ.length)(w:∀(i:Nat) v,σ'[i]?=some (some v)->σ[i]?=some (some v)):AA X pins σ' H s:=
 ⟨I.ok,I.os,I.bare,I.base,let ⟨m,C,o⟩:=I.loc;{m,C,λi x v e1 e2 U=>o i x v e1 (w i v e2) U},I.cell,I.free,I.freeC,I.pin,I.hok,J.trans I.len⟩
def AA.pins_of (I:AA X pins σ H s)(h:∀p∈pins',s.heap.get? p.1=some p.2/\H p.1=none/\p.1≠X.env.locals/\p.1∉X.fs/\∀v,p.2.data ≠ .cell v):AA X pins' σ H s:=
 {I.ok,I.os,I.bare,I.base,I.loc,I.cell,I.free,I.freeC,λp o=>(zr.mp o).elim (λz=>I.pin p (Cy _ z)) (h p),I.hok,I.len}
def Sd {N:List Str}(o:N.Nodup){j:Nat}(a:N[i]?=some x)(b:N[j]?=some x):i=j:=by let{U,I}:=zE.mp a;let{J,C}:=zE.mp b;show (HZ o).mp (I.trans C.symm)
def eB (I:AA X pins σ H s)(hN:X.N.Nodup)(hi:X.N[i]?=some x)(U:G9 X.env.scope x)(r:AM v u)
 (h:∀s',AA X pins (σ.set i (some v)) H s'->(∃a,Heap.SameBut a s.heap s'.heap/\(a=X.env.locals\/X.env.cells.lookup x=some a))->Q Unit.unit s')(hf:autoParam (X.fn x=true\/X.env.scope.names.lookup x=some .local) d_._auto_1):wpAny M A (storeName X.env x u) Q E s:=by
 let{m,hn,hl}:=id I.loc;let n9:(X.env.scope.kind == .class || (X.env.scope.kind == .module && X.env.locals != X.env.globals))=false:=by rw[I.ok.kind];rfl
 let hiσ:i<σ.length:=by rw[I.len];show (zE.mp hi).1
 let cne:=I.cne;let tracked:∀{a:Addr}{h':Heap},(∃o,s.heap.get? a=some o/\H a=none)->Heap.SameBut a s.heap h'->Aq X.prog X.w H h':=λ{a h'} ha C b ob e=>by
  let{2,hfree}:=ha;show (I.hok b ob e).stay (λc w' hc q=>(C.2 c ?_).trans q) (λ_ q=>q) λ_ _ q=>q;rintro rfl;rcases hc with rfl | hc
  . rw[hfree] at e;ext e
  . rw[hfree] at hc;ext hc
 rcases U with hk | hk
 . show wpAny_storeName_local hk hn (λh' m5 C=>?_) n9;let{oL,2,lV,_}:=id hn;show h _ {I.ok,I.os,I.bare,{λb o e n hb U=>?_,λb o e n hb U=>?_,I.base.free,λb o e U=>?_,I.base.tups,I.base.frzs,I.base.tbls},{_,m5,λj y v' J e2 e3=>?_},λy c e=>?_,I.free,I.freeC,λp hp=>?_,tracked ⟨oL,lV,I.free⟩ C,‹I.len›} {_,C,.inl rfl}
   . show (C.2 b (zh (zo (zY e) I.ok.above))).trans (I.base.keep b o e n hb U)
   . let{sl,J}:=I.base.slot b o e n hb U;show{sl,(C.2 b (zh (zo (zY e) I.ok.above))).trans J}
   . let{o',J}:=I.base.there b o e U;show{o',(C.2 b (zh (zo (zY e) I.ok.above))).trans J}
   . by_cases hj:j=i
     . subst hj;rw[hi] at J;ext J;rw[JL hiσ] at e2;ext e2;show{u,r,.inl {hk,by simp}}
     . rw[M8 (Ne.symm hj)] at e2;let{u',r',q}:=hl j y v' J e2 e3;show{u',r',?_};rcases q with ⟨k,e⟩ | ⟨k,c,e,z⟩
       . show .inl {k,?_};let:y≠x:=λe=>hj (Sd hN J (e ▸ hi));simp[this,e]
       . show .inr {k,c,e,z.sameBut C (cne y c e)}
   . let{w',z}:=I.cell y c e;show{w',z.sameBut C (cne y c e)}
   . let{e,n,ne,nf,d}:=I.pin p hp;show{(C.2 p.1 ne).trans e,n,ne,nf,d}
 . let hfn:X.fn x=true:=by
    rcases hf with z | z
    . show z
    . rw[z] at hk;ext hk
   let{c,hc}:=I.ok.has x (.inl hk);let{w',z}:=I.cell x c hc;show wpAny_storeName_cell I.ok.kind hk hc z (λh' ll C=>?_);let{oc,hoc,hocd}:=id z;show h { s with heap:=h' } {I.ok,I.os,I.bare,{λb o e n hb U=>?_,λb o e n hb U=>?_,I.base.free,λb o e U=>?_,I.base.tups,I.base.frzs,I.base.tbls},{m,hn.sameBut C (Ne.symm (cne x c hc)),λj y v' J e2 e3=>?_},λy c' e=>?_,I.free,I.freeC,λp hp=>?_,tracked {oc,hoc,I.freeC x c hc} C,‹I.len›} {c,C,.inr hc}
   . show (C.2 b (zh (zo (zY e) (I.ok.cab x c hfn hc)))).trans (I.base.keep b o e n hb U)
   . let{sl,J}:=I.base.slot b o e n hb U;show{sl,(C.2 b (zh (zo (zY e) (I.ok.cab x c hfn hc)))).trans J}
   . let{o',J}:=I.base.there b o e U;show{o',(C.2 b (zh (zo (zY e) (I.ok.cab x c hfn hc)))).trans J}
   . by_cases hj:j=i
     . subst hj;rw[hi] at J;ext J;rw[JL hiσ] at e2;ext e2;show{u,r,.inr {.inl hk,c,hc,ll}}
     . rw[M8 (Ne.symm hj)] at e2;let{u',r',q}:=hl j y v' J e2 e3;show{u',r',?_};rcases q with q | ⟨k,c',e,z'⟩
       . show .inl q
       . show .inr {k,c',e,z'.sameBut C ?_};rintro rfl;show hj (Sd hN J (I.ok.inj _ _ _ e hc ▸ hi))
   . by_cases hcc:c'=c
     . subst hcc;show{_,ll}
     . let{w2,z2}:=I.cell y c' e;show{w2,z2.sameBut C hcc}
   . let{e,n,ne,nf,d}:=I.pin p hp;show{(C.2 p.1 ?_).trans e,n,ne,nf,d};intro q;rw[q,hoc] at e;let q':oc=p.2:=zZ e;show d w' (by rwa[<-q'])
def Mq (I:AA X pins σ H s)(C:X.N.Nodup)(hi:X.N[i]?=some x)(o:G9 X.env.scope x)(r:AM v u)
 (h:∀s',AA X pins (σ.set i (some v)) H s'->Q Unit.unit s')(hf:autoParam (X.fn x=true\/X.env.scope.names.lookup x=some .local) d_._auto_1):wpAny M A (storeName X.env x u) Q E s:=
 eB I C hi o r (λs' J _=>h s' J) hf
def AA.call' (I:AA X pins σ H s)(U:s'.os=s.os)(u:Un (A7 X.stack) ch H H' s.heap s'.heap)(o:Aq X.prog X.w H' s'.heap)(hg:AllBare s'.gens)
 (C:∀b∈ch,(b∈X.ex\/X.s₀.heap.objs.size<=b)/\b≠X.env.locals/\(∀x c,X.env.cells.lookup x=some c->c≠b)/\∀p∈X.pn++pins,p.1≠b):AA X pins σ H' s':=by
 let{h',g',d',t',J}:=s';let e:J=s.os:=U;subst e;show I.call (g':=g') (t':=t') (d':=d') u o hg C
end
abbrev XK:=Value->Option Addr->Hp->Prop
abbrev St:=List (Option V)
abbrev VK:=V->Hp->Prop
abbrev TE:=St->Hp->VK->Prop
abbrev TT:=St->Hp->(Bool->Hp->Prop)->Prop
abbrev TA:=St->Hp->(List V->Hp->Prop)->Prop
structure DC where
 nx:St->Hp->Prop
 rt:VK
 bk:St->Hp->Prop:=λ_ _=>False
 ct:St->Hp->Prop:=λ_ _=>False
abbrev TS:=DC->St->Hp->Prop
def EP (X:Cx)(pins:CP)(σ:St)(Q:VK)(u:Value)(s':Shared):Prop:=∃v H',AA X pins σ H' s'/\AM v u/\Q v H'
def TP (X:Cx)(pins:CP)(σ:St)(Q:Bool->Hp->Prop)(b:Bool)(s':Shared):Prop:=∃H',AA X pins σ H' s'/\Q b H'
def AP (X:Cx)(pins:CP)(σ:St)(Q:List V->Hp->Prop)(us:List Value)(s':Shared):Prop:=∃o H',AA X pins σ H' s'/\AK o us/\Q o H'
def SP (X:Cx)(pins:CP)(D:DC)(f:Flow)(s':Shared):Prop:=
 match f with
 | .next=>∃ o H',AA X pins o H' s'/\D.nx o H'
 | .brk=>∃ o H',AA X pins o H' s'/\D.bk o H'
 | .cont=>∃ o H',AA X pins o H' s'/\D.ct o H'
 | .ret u=>∃v o H',AA X pins o H' s'/\AM v u/\D.rt v H'
def PE (X:Cx)(e:Expr)(t:TE):Prop:=
 ∀pins s σ H Q,AA X pins σ H s->t σ H Q->wpAny (model X.prog X.w) X.A (eval e X.env) (EP X pins σ Q) X.xe s
def PT (X:Cx)(e:Expr)(t:TT):Prop:=
 ∀pins s σ H Q,AA X pins σ H s->t σ H Q->wpAny (model X.prog X.w) X.A (isTrue e X.env (eval e X.env)) (TP X pins σ Q) X.xe s
def PW (X:Cx)(e:Expr)(t:TT):Prop:=
 ∀whole pins s σ H Q,AA X pins σ H s->t σ H Q->wpAny (model X.prog X.w) X.A (isTrue e X.env whole) (TP X pins σ Q) X.xe s
def PW.pt (h:PW X e t):PT X e t:=h _
def PA (X:Cx)(es:List Expr)(t:TA):Prop:=
 ∀pos pins s σ H Q,AA X pins σ H s->t σ H Q->wpAny (model X.prog X.w) X.A (spliced (backTo pos (starEach es X.env))) (AP X pins σ Q) X.xe s
def PS (X:Cx)(st:Stmt)(t:TS):Prop:=
 ∀pins s σ H D,AA X pins σ H s->t D σ H->wpAny (model X.prog X.w) X.A (exec st X.env) (SP X pins D) X.xe s
def CC (X:Cx)(st:List Stmt)(t:TS):Prop:=
 ∀pins s σ H D,AA X pins σ H s->t D σ H->wpAny (model X.prog X.w) X.A (execs st X.env) (SP X pins D) X.xe s
def AI (h:wpAny M A t Q E s)(o:∀a s,Q a s->Q' a s):wpAny M A t Q' E s:=BE h o λ_ _ x=>x
def jq (ha:PE X a ta)(hb:PE X b tb){R:V->V->Hp->Prop}(I:AA X pins σ H s)(h:ta σ H λx H1=>tb σ H1 λy H2=>R x y H2)
 {Q:α->Shared->Prop}{f:Value->Value->Sem α}
 (hf:∀v u s2 x y H2,AA X pins σ H2 s2->AM x v->AM y u->R x y H2->wpAny (model X.prog X.w) X.A (f v u) Q X.xe s2):
 wpAny (model X.prog X.w) X.A (eval a X.env) (λv C=>wpAny (model X.prog X.w) X.A (eval b X.env) (λu o=>wpAny (model X.prog X.w) X.A (f v u) Q X.xe o) X.xe C) X.xe s:=by
 show AI (ha pins s σ H _ I h) λv s1 ⟨x,H1,I1,U,q1⟩=>?_;show AI (hb pins s1 σ H1 _ I1 q1) λu s2 ⟨y,H2,I2,J,q2⟩=>?_;show hf v u s2 x y H2 I2 U J q2
inductive Yq (i:Nat)(σ:St)(H:Hp)(Q:VK):Prop
 | mk:∀v,(σ[i]?=some (some v))->(Q v H)->Yq i σ H Q
def Cn (i:Nat):TE:=λσ H Q=>Yq i σ H Q
def tC (v:V):TE:=λ_ H Q=>Q v H
def MK (hN:X.N[i]?=some x)(U:Uy X.env.scope x)(hd:autoParam ((x==("__debug__" : Str))=false) d_._auto_2) (J:autoParam ((x==("__classdict__" : Str))=false) d_._auto_2):PE X (.Name x pos) (Cn i):=by
 intro pins s σ H Q I h;let{v,e,h}:=h;let{m,hn,hl}:=I.loc;let{u,r,l}:=hl i x v hN e U;let fin:EP X pins σ Q u s:=⟨v,H,I,r,h⟩;rcases l with ⟨hk,hm⟩ | ⟨hk,c,C,o⟩
 . show wpAny_Name (wpAny_loadName_local I.ok.kind hk hn hm fin) hd
 . rcases hk with hk | hk
   . show wpAny_Name (wpAny_loadName_cell I.ok.kind hk C o fin) hd
   . show wpAny_Name (wpAny_loadName_free I.ok.kind hk C o fin J) hd
def zg {i j pos}:PE X (.Constant (.int i) j pos) (tC (.int i)):=λ_ _ _ H _ I h=>wpAny_Constant_int {.int i,H,I.tok _,{1},h}
def E4 {b j pos}:PE X (.Constant (.bool b) j pos) (tC (.bl b)):=λ_ _ _ H _ I h=>Constant_bool {.bl b,H,I,0,h}
def As {j pos}:PE X (.Constant .none j pos) (tC .non):=λ_ _ _ H _ I h=>Constant_none {.non,H,I,0,h}
def Di {x j pos}:PE X (.Constant (.str x) j pos) (tC (.str x)):=λ_ _ _ H _ I h=>Calls.Constant_str {.str x,H,I.tok _,{1},h}
def Gl (X:Cx)(x:Str):Prop:=X.env.kindOf x=some .globalImplicit
def Nl (I:AA X pins σ H s)(o:Gl X x)(hm:X.mg x=some u)(h:Q u s)
 (hd:autoParam ((x==("__debug__" : Str))=false) d_._auto_2):wpAny (model X.prog X.w) X.A (eval (.Name x pos) X.env) Q E s:=
 Calls.Name_function_global I.ok.kind o (Calls.loadGlobal_global (by rw[I.ok.glob];show I.mod.glob.keeps I.bk) hm h) hd
def ET (I:AA X pins σ H s)(J:Gl X x)(hm:X.mg x=none)(o:bootBuiltins x=some u)(h:Q u s)
 (C:x ≠ "__name__" := by decide) (hd:autoParam ((x==("__debug__" : Str))=false) d_._auto_2):wpAny (model X.prog X.w) X.A (eval (.Name x pos) X.env) Q E s:=by
 let{mb,h1,U}:=I.mod.blt;show Calls.Name_function_global I.ok.kind J (Calls.loadGlobal_builtin (by rw[I.ok.glob];show I.mod.glob.keeps I.bk) hm (by rw[I.ok.blt];show h1.keeps I.bk) ((U x C).trans o) h) hd
def Eh (o:Gl X x)(hm:X.mg x=some u)(r:AM v u)(hd:autoParam ((x==("__debug__" : Str))=false) d_._auto_2):PE X (.Name x pos) (tC v):=
 λ_ _ _ H _ I h=>Nl I o hm ⟨v,H,I,r,h⟩ hd
inductive IZ (k:Int->Int->Hp->Prop)(x:V)(y:V)(H2:Hp):Prop
 | mk:∀i j,(x=.int i)->(y=.int j)->(k i j H2)->IZ k x y H2
def jl (ta tb:TE)(k:Int->Int->Hp->Prop):St->Hp->Prop:=λσ H=>ta σ H λx H1=>tb σ H1 λy H2=>IZ k x y H2
def PC (X:Cx)(op:CmpOp)(a b:Expr)(t:TE):Prop:=
 ∀pins s σ H Q,AA X pins σ H s->t σ H Q ->
  wpAny (model X.prog X.w) X.A (eval a X.env) (λv C=>wpAny (model X.prog X.w) X.A (eval b X.env) (λu o=>wpAny (model X.prog X.w) X.A (compareOp op v u) (EP X pins σ Q) X.xe o) X.xe C) X.xe s
def Xr (b)(h:op ≠ .In)(o:op ≠ .NotIn):behindInMarks op b=false:=by
 let I:(op==CmpOp.In)=false:=by ext op <;> first | rfl | show absurd rfl h
 let C:(op==CmpOp.NotIn)=false:=by ext op <;> first | rfl | show absurd rfl o
 ext b <;> first | rfl | (change (_ && (_ || _) && _)=false;rw[I,C];simp)
def Oh (p:Int->Int->Bool)(ta tb:TE):TE:=λσ H Q=>jl ta tb (λi j H2=>Q (.bl (p i j)) H2) σ H
abbrev Uw:TE->TE->TE:=Oh λi j=>!decide (i=j)
def KL (ha:PE X a ta)(hb:PE X b tb)
 (rule:∀i j t u Q s,Q (.bool (p i j)) s->wpAny (model X.prog X.w) X.A (compareOp op (.int i t) (.int j u)) Q X.xe s):PC X op a b (Oh p ta tb):=by
 intro pins s σ H Q I h;show jq ha hb I h λv u s2 x y H2 U J C q=>?_;let{i,j,3,q}:=q;let{t,0}:=J;let{o,0}:=C;show rule i j t o _ s2 {.bl _,H2,U,0,q}
def Mi (ha:PE X a ta)(hb:PE X b tb):PC X .NotEq a b (Uw ta tb):=KL ha hb λ_ _ _ _ _ _ h=>ne_int (by rwa[bne,Bool.beq_eq_decide_eq])
inductive PV (Q:Bool->Hp->Prop)(x:V)(H1:Hp):Prop
 | mk:∀c,(x=.bl c)->(Q c H1)->PV Q x H1
def tB (t:TE):TT:=λσ H Q=>t σ H λx H1=>PV Q x H1
def GS (h:PC X op a b t)(o:autoParam (behindInMarks op b=false) d_._auto_3):PT X (.Compare a [op] [b] pos) (tB t):=by intro pins s σ H Q I hw;show wpAny_isTrue_Compare1 (AI (h pins s σ H _ I hw) λv s1 o=>AI o λu s2 U=>AI U λc s3 ⟨x,H1,I1,C,J⟩=>?_) o;let{d,0,q}:=J;ext C;show GP ⟨H1,I1,q⟩
def CG (h:PE X e t)(he:autoParam (∀whole,isTrue e X.env whole=(do let v <-whole;standAt e.pos;holding [v] (truthy v))) d_._auto_4):PT X e (tB t):=by intro pins s σ H Q I hw;show isTrue_plain (AI (h pins s σ H _ I hw) λv s1 ⟨x,H1,J,o,C⟩=>?_) (he _);let{d,0,q}:=C;ext o;show GP ⟨H1,J,q⟩
def Ug (t u:TT):TT:=λσ H Q=>t σ H λc H1=>if c=true then u σ H1 Q else Q false H1
def jh (t u:TT):TT:=λσ H Q=>t σ H λc H1=>if c=true then Q true H1 else u σ H1 Q
def PL (t:TT):TT:=λσ H Q=>t σ H λc H1=>Q (!c) H1
def EW (ha:PT X a tA):PW X (.BoolOp .And [a] pos) tA:=by
 intro o pins s σ H Q I h;show isTrue_and (AI (ha pins s σ H Q I h) λc s1 e=>?_);cases c with
 | true=>show isTrue_and_nil e
 | false=>show e
def Dk (ha:PT X a tA):PW X (.BoolOp .Or [a] pos) tA:=by
 intro o pins s σ H Q I h;show isTrue_or (AI (ha pins s σ H Q I h) λc s1 e=>?_);cases c with
 | false=>show isTrue_or_nil e
 | true=>show e
def DT (ha:PT X a tA)(hb:PW X (.BoolOp .And (b::rest) pos) tB'):PW X (.BoolOp .And (a::b::rest) pos) (Ug tA tB'):=by
 intro J pins s σ H Q I h;show isTrue_and (AI (ha pins s σ H _ I h) λc s1 ⟨H1,C,o⟩=>?_);cases c with
 | true=>show hb J pins s1 σ H1 Q C o
 | false=>show⟨H1,C,o⟩
def Dy (ha:PT X a tA)(hb:PW X (.BoolOp .Or (b::rest) pos) tB'):PW X (.BoolOp .Or (a::b::rest) pos) (jh tA tB'):=by
 intro J pins s σ H Q I h;show isTrue_or (AI (ha pins s σ H _ I h) λc s1 ⟨H1,C,o⟩=>?_);cases c with
 | true=>show⟨H1,C,o⟩
 | false=>show hb J pins s1 σ H1 Q C o
def DA (ha:PT X a tA):PT X (.UnaryOp .Not a pos) (PL tA):=by intro pins s σ H Q I h;show isTrue_not (ha pins s σ H (λc H1=>Q (!c) H1) I h)
inductive WJ (tb:TE)(σ:St)(Q:VK)(x:V)(H1:Hp):Prop
 | mk:∀c,(x=.bl c)->(if c=true then tb σ H1 Q else Q (.bl false) H1)->WJ tb σ Q x H1
def P8 (ta tb:TE):TE:=λσ H Q=>ta σ H λx H1=>WJ tb σ Q x H1
inductive X2 (tb:TE)(σ:St)(Q:VK)(x:V)(H1:Hp):Prop
 | mk:∀c,(x=.bl c)->(if c=true then Q (.bl true) H1 else tb σ H1 Q)->X2 tb σ Q x H1
def US (ta tb:TE):TE:=λσ H Q=>ta σ H λx H1=>X2 tb σ Q x H1
inductive Zj (Q:VK)(x:V)(H1:Hp):Prop
 | mk:∀c,(x=.bl c)->(Q (.bl (!c)) H1)->Zj Q x H1
def Pc (ta:TE):TE:=λσ H Q=>ta σ H λx H1=>Zj Q x H1
def Ct {op} (h:PE X a t):PE X (.BoolOp op [a] pos) t:=λpins s σ H Q I hw=>BoolOp_one (h pins s σ H Q I hw)
def CD (ha:PE X a ta)(hb:PE X (.BoolOp .And (b::rest) pos) tb):PE X (.BoolOp .And (a::b::rest) pos) (P8 ta tb):=by
 intro pins s σ H Q I h;show BoolOp_and (AI (ha pins s σ H _ I h) λv s1 ⟨x,H1,C,J,o⟩=>?_);let{c,0,o}:=o;ext J;show GP ?_;cases c with
 | true=>show hb pins s1 σ H1 Q C o
 | false=>show{.bl false,H1,C,0,o}
def Im (ha:PE X a ta)(hb:PE X (.BoolOp .Or (b::rest) pos) tb):PE X (.BoolOp .Or (a::b::rest) pos) (US ta tb):=by
 intro pins s σ H Q I h;show BoolOp_or (AI (ha pins s σ H _ I h) λv s1 ⟨x,H1,C,J,o⟩=>?_);let{c,0,o}:=o;ext J;show GP ?_;cases c with
 | false=>show hb pins s1 σ H1 Q C o
 | true=>show{.bl true,H1,C,0,o}
def ZR (ha:PE X a ta):PE X (.UnaryOp .Not a pos) (Pc ta):=by intro pins s σ H Q I h;show UnaryOp_ (AI (ha pins s σ H _ I h) λv s1 ⟨x,H1,J,C,o⟩=>?_);let{c,0,o}:=o;ext C;show not_of (GP {.bl (!c),H1,J,0,o})
def ja (t:TT)(ta tb:TE):TE:=λσ H Q=>t σ H λc H1=>if c=true then ta σ H1 Q else tb σ H1 Q
def NG (J:PT X c tA)(ha:PE X a ta)(hb:PE X b tb):PE X (.IfExp c a b pos) (ja tA ta tb):=by
 intro pins s σ H Q I h;show wpAny_IfExp (AI (J pins s σ H _ I h) λd s1 ⟨H1,C,o⟩=>?_);cases d with
 | true=>show ha pins s1 σ H1 Q C o
 | false=>show hb pins s1 σ H1 Q C o
def AD (K:AF)(H:Hp)(a:Addr)(xs:List V):Prop:=
 Rd H a (.lst xs) \/
  ∃o its n,K.lookup a=some o/\o.cls=.type "list"/\o.dict=none/\o.data=.seq its n/\its.size<=sizeLine/\AK xs its.toList
def AB (K:AF)(H:Hp)(a:Addr)(xs:List V):Prop:=
 Rd H a (.tup xs) \/
  ∃o its n,K.lookup a=some o/\o.cls=.type "tuple"/\o.data=.seq its n/\its.size<=sizeLine/\AK xs its.toList
meta def U5:Value->Option V
 | .none=>some .non
 | .bool b=>some (.bl b)
 | .int i _=>some (.int i)
 | .str x _=>some (.str x)
 | .bytes b _=>some (.byt b)
 | .float b _=>some (.flt b)
 | .ref a=>⇑a
 | .type n=>some (.ty n)
 | _=>none
def AM.abs (r:AM x u):U5 u=some x:=by
 cases x with
 | non=>ext r;rfl
 | bl _=>ext r;rfl
 | int _=>let{t,0}:=r;rfl
 | str _=>let{t,0}:=r;rfl
 | byt _=>let{t,0}:=r;rfl
 | flt _=>let{t,0}:=r;rfl
 | ref _=>ext r;rfl
 | ty _=>ext r;rfl
def AM.inj (r:AM x u)(q:AM y u):x=y:=zZ (r.abs.symm.trans q.abs)
def AK.inj (h:AK xs us)(k:AK ys us):xs=ys:=by
 induction h generalizing ys with
 | nil=>ext k;rfl
 | cons r t I=>cases k with
  | cons C o=>rw[r.inj C,I o]
def AD.of {K:AF}(h:H a=some (.lst xs)):AD K H a xs:=.inl (.inl h)
def AB.of {K:AF}(h:H a=some (.tup xs)):AB K H a xs:=.inl (.inl h)
def AA.list (I:AA X pins σ H s)(h:AD X.K H a xs):∃its:List Value,AK xs its/\PlainL s.heap a its.toArray/\xs.length<=sizeLine:=by
 rcases h with h | ⟨o,its,n,J,U,hd,C,hz,r⟩
 . let{z,its,n,r,e}:=h.ok I.hok;show{its,r,{_,n,e,0,3},z}
 . show{its.toList,r,{o,n,I.kIn a o J,U,hd,‹C›},?_};let e:=r.length;simp only[Array.length_toList] at e
   lia
def AA.tuple (I:AA X pins σ H s)(h:AB X.K H a xs):∃its:List Value,AK xs its/\IsTup s.heap a its.toArray/\xs.length<=sizeLine:=by
 rcases h with h | ⟨o,its,n,J,U,C,hz,r⟩
 . let{{z,_},its,r,p}:=h.ok I.hok;show⟨its,r,p,z⟩
 . show{its.toList,r,{o,I.kIn a o J,U,n,‹C›},?_};let e:=r.length;simp only[Array.length_toList] at e
   lia
def AA.list_inj (I:AA X pins σ H s)(h:AD X.K H a xs)(h':AD X.K H a ys):xs=ys:=by
 let{its,r,{o,n,e,2,d},_}:=I.list h;let{C,r',{o',n',J,2,U},_}:=I.list h';rw[e] at J;ext J;rw[d] at U;injection U with d1 _;let:its=C:=by simpa using congrArg Array.toList d1
 subst this;show r.inj r'
def AA.tuple_inj (I:AA X pins σ H s)(h:AB X.K H a xs)(h':AB X.K H a ys):xs=ys:=by
 let{its,r,{o,e,_,n,d},_}:=I.tuple h;let{C,r',{o',J,_,n',U},_}:=I.tuple h';rw[e] at J;ext J;rw[d] at U;injection U with d1 _;let:its=C:=by simpa using congrArg Array.toList d1
 subst this;show r.inj r'
meta abbrev Cx.wish (X:Cx)(E:BP):Cx:={ X with xe:=E }
meta abbrev Cx.nox (X:Cx):Cx:=X.wish λ_ _=>False
def Cx.Ok.wish {X:Cx}(ok:X.Ok)(E):(X.wish E).Ok:=
 ⟨ok.mod,ok.kind,ok.glob,ok.blt,ok.above,ok.inj,ok.has,ok.cab,ok.hd,ok.frames,ok.stk,ok.exf,ok.bs,ok.bsz,ok.noex,ok.exfs,ok.funs,ok.frf⟩
def Cx.Ok.unwish {X:Cx}(ok:(X.wish E).Ok):X.Ok:=
 ⟨ok.mod,ok.kind,ok.glob,ok.blt,ok.above,ok.inj,ok.has,ok.cab,ok.hd,ok.frames,ok.stk,ok.exf,ok.bs,ok.bsz,ok.noex,ok.exfs,ok.funs,ok.frf⟩
def AA.wish (I:AA X pins σ H s)(E):AA (X.wish E) pins σ H s:={I.ok.wish E,I.os,I.bare,I.base,I.loc,I.cell,I.free,I.freeC,I.pin,I.hok,I.len}
def AA.unwish (I:AA (X.wish E) pins σ H s):AA X pins σ H s:=⟨I.ok.unwish,I.os,I.bare,I.base,I.loc,I.cell,I.free,I.freeC,I.pin,I.hok,I.len⟩
def SP.unwish (h:SP (X.wish E) pins D f s'):SP X pins D f s':=by
 cases f with
 | next=>let{o,H',I,q}:=h;show⟨o,H',I.unwish,q⟩
 | brk=>let{o,H',I,q}:=h;show⟨o,H',I.unwish,q⟩
 | cont=>let{o,H',I,q}:=h;show⟨o,H',I.unwish,q⟩
 | ret u=>let{v,o,H',I,r,q}:=h;show⟨v,o,H',I.unwish,r,q⟩
def CC.nox {st:List Stmt}(h:CC X.nox st t):CC X st t:=λpins s σ H D I hw=>
 BE (h pins s σ H D (I.wish _) hw) (λ_ _ q=>q.unwish) λ_ _ z=>False.elim z
section
variable {X:Cx}{st:Stmt}{rest:List Stmt}{t u:TS}{e:Expr}{te:TE}{pos:Pos}
def Hy:TS:=λD σ H=>D.nx σ H
def QD (t u:TS):TS:=λD σ H=>t { D with nx:=u D } σ H
def Ae:CC X [] Hy:=λ_ _ σ H _ I h=>wpAny_execs_nil ⟨σ,H,I,h⟩
def zT (J:PS X st t)(C:CC X rest u):CC X (st::rest) (QD t u):=by
 intro pins s σ H D I h;show wpAny_execs_cons (AI (J pins s σ H { D with nx:=u D } I h) λf s1 q=>?_);cases f with
 | next=>let{o,H',U,q}:=q;show C pins s1 o H' D U q
 | ret v=>show q
 | brk=>show q
 | cont=>show q
def zc (o:PS X st t):CC X [st] t:=by
 intro pins s σ H D I h;show wpAny_execs_cons (AI (o pins s σ H D I h) λf s1 q=>?_);cases f with
 | next=>show wpAny_execs_nil q
 | ret v=>show q
 | brk=>show q
 | cont=>show q
def AA.quiet (I:AA X pins σ H s):interactive X.env=false:=by simp[interactive,I.ok.kind]
def Pg (te:TE):TS:=λD σ H=>te σ H λ_ H1=>D.nx σ H1
def C1 (he:PE X e te)(C:autoParam (swapsWith e none pos.line X.env=pure false) d_._auto_5):PS X (.Expr e pos) (Pg te):=by intro pins s σ H D I h;show wpAny_Expr_any (AI (he pins s σ H _ I h) λv s1 ⟨x,H1,J,U,o⟩=>⟨σ,H1,J,o⟩) I.quiet C
def MU (te:TE):TS:=λD σ H=>te σ H D.rt
def AL (he:PE X e te):PS X (.Return (some e) pos) (MU te):=by intro pins s σ H D I h;show wpAny_Return_some (AI (he pins s σ H _ I h) λv s1 ⟨x,H1,J,o,C⟩=>⟨x,σ,H1,J,o,C⟩)
def Ov (c:TT)(t u:TS):TS:=λD σ H=>c σ H λb H1=>if b=true then t D σ H1 else u D σ H1
def Ac (J:PT X c tc)(ha:CC X a t)(hb:CC X b u):PS X (.If c a b pos) (Ov tc t u):=by
 intro pins s σ H D I h;show wpAny_If (AI (J pins s σ H _ I h) λd s1 ⟨H1,C,o⟩=>?_);cases d with
 | true=>show ha pins s1 σ H1 D C o
 | false=>show hb pins s1 σ H1 D C o
end
abbrev TG:=V->St->Hp->(St->Hp->Prop)->Prop
abbrev Ml:=List V->St->Hp->(St->Hp->Prop)->Prop
def PG (X:Cx)(target:Expr)(t:TG):Prop:=
 ∀pins s σ H v u Q,AA X pins σ H s->AM v u->t v σ H Q ->
  wpAny (model X.prog X.w) X.A (assign target X.env u) (λ_ o=>∃ σ' H',AA X pins σ' H' o/\Q σ' H') X.xe s
def Ox (X:Cx)(ts:List Expr)(t:Ml):Prop:=
 ∀pins s σ H o us Q,AA X pins σ H s->AK o us->t o σ H Q ->
  wpAny (model X.prog X.w) X.A (assignInOrder ((assignEach ts X.env).map (·.2)) us) (λ_ C=>∃ σ' H',AA X pins σ' H' C/\Q σ' H') X.xe s
abbrev PR:=V->V->V->Hp->(Hp->Prop)->Prop
def Px (X:Cx)(t:PR):Prop:=
 ∀pins s σ H o i v C I u Q,AA X pins σ H s->AM o C->AM i I->AM v u->t o i v H Q ->
  wpAny (model X.prog X.w) X.A (setItem C I u) (λ_ J=>∃H',AA X pins σ H' J/\Q H') X.xe s
def GA (i:Nat):TG:=λv σ H Q=>Q (σ.set i (some v)) H
def Bc (C:X.N.Nodup)(hi:X.N[i]?=some x)(o:G9 X.env.scope x)(hf:autoParam (X.fn x=true\/X.env.scope.names.lookup x=some .local) d_._auto_1):PG X (.Name x pos) (GA i):=by intro pins s σ H v u Q I r h;show wpAny_assign_Name (Mq I C hi o r (λU J=>{_,H,J,h}) hf)
inductive VG (vs:List V)(σ:St)(H:Hp)(Q:St->Hp->Prop):Prop
 | mk:(vs=[])->(Q σ H)->VG vs σ H Q
def QB:Ml:=λo σ H Q=>VG o σ H Q
inductive Vq (t:TG)(u:Ml)(vs:List V)(σ:St)(H:Hp)(Q:St->Hp->Prop):Prop
 | mk:∀v r,(vs=v::r)->(t v σ H λσ' H'=>u r σ' H' Q)->Vq t u vs σ H Q
def SG (t:TG)(u:Ml):Ml:=λo σ H Q=>Vq t u o σ H Q
def CY:Ox X [] QB:=by intro pins s σ H o us Q I r h;let{e,h}:=h;subst e;ext r;show assignInOrder_nil ⟨σ,H,I,h⟩
def zx (h1:PG X e t)(h2:Ox X es u)
 (U:autoParam ((assignEach (e::es) X.env).map (·.2)=assign e X.env::(assignEach es X.env).map (·.2)) d_._auto_5):Ox X (e::es) (SG t u):=by
 intro pins s σ H vs us Q I r h;let{v,vr,e1,h}:=h;subst e1;cases r with
 | cons r C=>rw[U];show assignInOrder_cons (AI (h1 pins s σ H _ _ _ I r h) λ_ s1 ⟨o,H1,I1,J⟩=>?_);show h2 pins s1 o H1 _ _ Q I1 C J
inductive Ze (K:AF)(n:Nat)(t:Ml)(v:V)(σ:St)(H:Hp)(Q:St->Hp->Prop):Prop
 | mk:∀a xs,(v=.ref a)->(AB K H a xs)->(xs.length=n)->(t xs σ H Q)->Ze K n t v σ H Q
def MD (K:AF)(n:Nat)(t:Ml):TG:=λv σ H Q=>Ze K n t v σ H Q
def C0 (hc:X.calm=true)(h:Ox X es t)
 (hn:autoParam ((assignEach es X.env).length=n) d_._auto_5)(C:autoParam ((assignEach es X.env).findIdx? (·.1)=none) d_._auto_5):PG X (.Tuple es k pos) (MD X.K n t):=by
 intro pins s σ H v u Q I r hw;let{a,xs,e1,hq,hl,hw}:=hw;subst e1;ext r;let{its,J,ht,hz}:=I.tuple hq;show assign_Tuple_tuple (I.ok.hd hc) ht (by simp[hn,<-hl,J.length]) C λh' U=>?_;let I1:AA X pins σ H { s with heap:=h' }:=I.kept (t':=s.toks) λb o e=>U b o (zh (zY e)) e;show h pins _ σ H xs _ Q I1 ‹J› hw
def UX (to C:TE)(t:PR):TG:=λv σ H Q=>to σ H λo H1=>C σ H1 λi H2=>t o i v H2 λH3=>Q σ H3
def HR (ho:PE X o to)(hi:PE X i ti)(hs:Px X t)
 (ha:autoParam (∀v,assign (.Subscript o i pos) X.env v=(do
  let C <-holding [v] (eval o X.env);let J <-holding [v,C] (eval i X.env)
  standAt pos
  holding [v,C,J] (setItem C J v)
  release [v,C,J] [])) d_._auto_4):PG X (.Subscript o i pos) (UX to ti t):=by
 intro pins s σ H v u Q I r h;rw[ha];show zA (BJ (AI (ho pins s σ H _ I h) λC s1 ⟨x,H1,I1,r1,q1⟩=>?_));show zA (BJ (AI (hi pins s1 σ H1 _ I1 q1) λJ s2 ⟨y,H2,I2,U,q2⟩=>?_));show zA (wpAny_standAt (zA (BJ (AI (hs pins s2 σ H2 x y v C J u _ I2 r1 U r q2) λ_ s3 ⟨H3,I3,q3⟩=>?_))));show wpAny_release ⟨σ,H3,I3,q3⟩
def G5 (te:TE)(g:TG):TS:=λD σ H=>te σ H λx H1=>g x σ H1 D.nx
def F8 (he:PE X e te)(U:PG X tg g)(J:autoParam (swapsWithSole [tg] e pos.line X.env=pure false) d_._auto_5)(hw:autoParam (swappedStores [tg] e X.env=pure none) d_._auto_5)
 (h1:autoParam ((assignEach [tg] X.env).map (·.2)=[assign tg X.env]) d_._auto_5):PS X (.Assign [tg] e pos) (G5 te g):=by
 intro pins s σ H D I h;show wpAny_Assign_stores (AI (he pins s σ H _ I h) λv s1 ⟨x,H1,I1,o,C⟩=>?_) J hw;rw[h1];show AI (U pins s1 σ H1 x v _ I1 o C) λ_ s2 q=>q
def Ez (hN:X.N.Nodup)(hi:X.N[i]?=some x)(J:G9 X.env.scope x)(he:PE X e te)(U:autoParam (swapsWith e (some (.Name x pos')) pos.line X.env=pure false) d_._auto_5)(hf:autoParam (X.fn x=true\/X.env.scope.names.lookup x=some .local) d_._auto_1):
 PS X (.Assign [.Name x pos'] e pos) (G5 te (GA i)):=by
 intro pins s σ H D I h;show wpAny_Assign_Name (AI (he pins s σ H _ I h) λv s1 ⟨y,H1,I1,o,C⟩=>?_) U;show Mq I1 hN hi J o (λs2 I2=>{_,H1,I2,C}) hf
structure It where
 go:Nat->Hp->Prop
 yld:Nat->Hp->V->Hp->Prop
 stop:Nat->Hp->Prop
def Ek (X:Cx)(pins:CP)(H:Hp)(b:Addr):Prop:=
 H b=none/\b≠X.env.locals/\b∉X.fs/\(b∈X.ex\/X.s₀.heap.objs.size<=b)/\(∀x c,X.env.cells.lookup x=some c->c≠b)/\∀p∈X.pn++pins,p.1≠b
def AA.fpOk (I:AA X pins σ H s)(hb:↥s<=b)(C:H' b=none):Ek X pins H' b:=by
 show{C,Bg (zo I.lt hb),I.nofs hb,.inr (BC I.sz hb),λx c e z=>?_,λp o z=>?_}
 . let{v,q}:=I.cell x c e;show absurd (zo q.lt (by rwa[z])) (FN _)
 . show absurd (zo (zY (I.pin p o).1) (by rwa[z])) (FN _)
structure EH (P:Program)(w:World)(K:AF)(tg:Expr)(J:It)(fp:List Addr)(it:Addr)(tn:Nat->Heap->Prop):Prop where
 mem:it∈fp
 obj:∀i h,tn i h->∀b∈fp,∃o,h.get? b=some o/\∀v,o.data ≠ .cell v
 keep:∀i h h',tn i h->(∀b∈fp,∀o,h.get? b=some o->h'.get? b=some o)->tn i h'
 item:∀(X:Cx),X.prog=P->X.w=w->X.K=K->X.calm=true->∀(i:Nat)(pins:CP)(s:Shared)(σ:St)(H:Hp)(E:BP),AA X pins σ H s->(∀b∈fp,Ek X pins H b)->tn i s.heap->J.go i H ->
  wpAny (model P w) X.A (pyNext (.ref it)) (λr s1=>∃u,r=some u /\
   wpAny (model P w) X.A (letOwnedTupleGo tg (.ref it) u) (λ_ s2=>∃x H',AA X pins σ H' s2/\AM x u/\J.yld i H x H'/\tn (i+1) s2.heap/\∀b∈fp,H' b=none) E s1) E s
 done:∀(X:Cx),X.prog=P->X.w=w->X.K=K->X.calm=true->∀(i:Nat)(pins:CP)(s:Shared)(σ:St)(H:Hp)(E:BP),AA X pins σ H s->(∀b∈fp,Ek X pins H b)->tn i s.heap->J.stop i H ->
  wpAny (model P w) X.A (pyNext (.ref it)) (λr s1=>r=none/\AA X pins σ H s1) E s
 self:∀(A:Around)(i:Nat)(s:Shared)(Q:BP)(E:BP),tn i s.heap->Q (.ref it) s->wpAny (model P w) A (pyIter (.ref it)) Q E s
abbrev TI:=St->Hp->(It->Hp->Prop)->Prop
def bH (X:Cx)(pins:CP)(σ:St)(I:Expr)(R:It->Hp->Prop)(o:Value)(s2:Shared):Prop:=
 ∃it fp C J H',o=.ref it/\AA X pins σ H' s2/\EH X.prog X.w X.K I J fp it C/\C 0 s2.heap/\(∀b∈fp,Ek X pins H' b)/\R J H'
def PI (X:Cx)(C iter:Expr)(o:TI):Prop:=
 ∀pins s σ H R,AA X pins σ H s->o σ H R ->
  wpAny (model X.prog X.w) X.A (eval iter X.env) (λv s1=>wpAny (model X.prog X.w) X.A (pyIter v) (bH X pins σ C R) X.xe s1) X.xe s
def Tn (J:s.heap.get? it=some o)(hc:o.cls=.type n)(hd:o.data=.fields vs)
 (U:["enumerate", "zip", "dict_itemiterator", "dict_reverseitemiterator", "odict_iterator", "itertools.zip_longest", "itertools.pairwise"].contains n=false) (C:Q Unit.unit s):wpAny M A (letOwnedTupleGo I (.ref it) u) Q E s:=by
 unfold letOwnedTupleGo;ext I <;> first
  | show zG C
  | (ext u <;> first
   | show zG C
   | (show zA (wpAny_load J ?_)
      rw[hc,hd];change wpAny M A (if (["enumerate", "zip", "dict_itemiterator", "dict_reverseitemiterator", "odict_iterator", "itertools.zip_longest", "itertools.pairwise"].contains n && vs[0]? == some (rawInt _))=true then _ else _) Q E s
      rw[if_neg (by intro h;rw[U,CH] at h;ext h)];show zG C))
meta def PZ (K:AF)(a:Addr):It:=
 {λi H=>∃xs x,AD K H a xs/\xs[i]?=some x,λi H x H'=>H'=H/\∀xs,AD K H a xs->xs[i]?=some x,λi H=>∃xs,AD K H a xs/\xs.length<=i}
meta def OT (K:AF)(a:Addr):It:=
 {λi H=>∃xs x,AB K H a xs/\xs[i]?=some x,λi H x H'=>H'=H/\∀xs,AB K H a xs->xs[i]?=some x,λi H=>∃xs,AB K H a xs/\xs.length<=i}
meta def NN (lo:Int)(n:Nat):It:={λi _=>i<n,λi H x H'=>H'=H/\x=.int (lo+i),λi _=>n<=i}
def dU {P:Program}{w:World}{K:AF}{tg:Expr}(a it:Addr):EH P w K tg (PZ K a) [it] it (λi h=>h.IsListIter it a i) where
 mem:=by simp
 obj:=λi h st b hb=>by
  let e:b=it:=‹hb›
  subst e;let{o,e,c,d}:=st;show{o,e,λv z=>by rw[d] at z;ext z}
 keep:=λi h h' st k=>st.at λo e=>k it (by simp) o e
 item:=by intro X hP hw hK hc i pins s σ H E I hf st U;subst hP hw hK;let{xs,x,C,hx}:=U;let{its,J,p,hz}:=I.list C;let{u,hu,ru}:=J.get hx;let{f0,f1,f2,f3,f4,f5}:=hf it (by simp);show wpAny_pyNext_list_item st p.isList (x:=u) ‹hu› λh' lr sb=>?_;let I1:AA X pins σ H { s with heap:=h' }:=I.turned (t':=s.toks) (λb o hb e=>(sb.2 b hb).trans e) f0 f1 f3 f4 f5;let{o,e,c,d}:=id lr;show{u,0,Tn (s:={ s with heap:=h' }) e c d (by decide) {x,H,I1,ru,{0,λys hy=>by rwa[I.list_inj hy C]},lr,λb hb=>(hf b hb).1}}
 done:=by intro X hP hw hK hc i pins s σ H E I hf st U;subst hP hw hK;let{xs,C,hx}:=U;let{its,J,p,hz}:=I.list C;let{f0,f1,f2,f3,f4,f5}:=hf it (by simp);let hl:=J.length;show wpAny_pyNext_list_end (I.ok.hd hc) st p.isList (by simp;lia) λh' eb=>{0,I.turned (t':=s.toks) (λb o hb e=>eb b o hb e) f0 f1 f3 f4 f5}
 self:=λ_ _ _ _ _ st h=>wpAny_pyIter_listiter st h
def f9 {P:Program}{w:World}{K:AF}{tg:Expr}(a it:Addr):EH P w K tg (OT K a) [it] it (λi h=>h.IsTupleIter it a i) where
 mem:=by simp
 obj:=λi h st b hb=>by
  let e:b=it:=‹hb›
  subst e;let{o,e,c,d}:=st;show{o,e,λv z=>by rw[d] at z;ext z}
 keep:=λi h h' st k=>st.at λo e=>k it (by simp) o e
 item:=by intro X hP hw hK hc i pins s σ H E I hf st U;subst hP hw hK;let{xs,x,C,hx}:=U;let{its,J,p,hz}:=I.tuple C;let{u,hu,ru}:=J.get hx;let{f0,f1,f2,f3,f4,f5}:=hf it (by simp);show wpAny_pyNext_tuple_item st (show s.heap.IsTuple a its.toArray from p) (x:=u) ‹hu› λh' lr sb=>?_;let I1:AA X pins σ H { s with heap:=h' }:=I.turned (t':=s.toks) (λb o hb e=>(sb.2 b hb).trans e) f0 f1 f3 f4 f5;let{o,e,c,d}:=id lr;show{u,0,Tn (s:={ s with heap:=h' }) e c d (by decide) {x,H,I1,ru,{0,λys hy=>by rwa[I.tuple_inj hy C]},lr,λb hb=>(hf b hb).1}}
 done:=by intro X hP hw hK hc i pins s σ H E I hf st U;subst hP hw hK;let{xs,C,hx}:=U;let{its,J,p,hz}:=I.tuple C;let{f0,f1,f2,f3,f4,f5}:=hf it (by simp);let hl:=J.length;show wpAny_pyNext_tuple_end (I.ok.hd hc) st (show s.heap.IsTuple a its.toArray from p) (by simp;lia) λh' eb=>{0,I.turned (t':=s.toks) (λb o hb e=>eb b o hb e) f0 f1 f3 f4 f5}
 self:=λ_ _ _ _ _ st h=>wpAny_pyIter_tupleiter st h
def gZ {P:Program}{w:World}{K:AF}{tg:Expr}(it:Addr)(lo:Int)(n:Nat):EH P w K tg (NN lo n) [it] it (λi h=>IsRangeIter h it (lo+(i:Nat)*1) ((n:Int)-(i:Nat)) 1) where
 mem:=by simp
 obj:=λi h st b hb=>by
  let e:b=it:=‹hb›
  subst e;show{_,st,λv z=>by let z':Data.fields _=Data.cell v:=z;ext z'}
 keep:=λi h h' st k=>k it (by simp) _ st
 item:=by intro X U hw hK J i pins s σ H E I hf st C;subst U hw hK;let{f0,f1,f2,f3,f4,f5}:=hf it (by simp);let W:=Walks.range (prog:=X.prog) (w:=X.w) (I.ok.hd J) it lo 1 n;show W.item i s _ _ C st λv h' tk hv lr kk=>?_;let{t,0}:=hv;let I1:AA X pins σ H { s with heap:=h',toks:=tk }:=I.turned (λb o hb e=>kk b o ‹hb› e) f0 f1 f3 f4 f5;show{1,Tn (s:={ s with heap:=h',toks:=tk }) (n := "range_iterator") lr rfl rfl (by decide) {.int (lo+i),H,I1,{t,?_},{3},lr,λb hb=>(hf b hb).1}};rw[Int.mul_one]
 done:=by intro X U hw hK J i pins s σ H E I hf st C;subst U hw hK;let{f0,f1,f2,f3,f4,f5}:=hf it (by simp);show wpAny_pyNext_range_end (I.ok.hd J) st (by let:n<=i:=C;lia) λh' eb=>{0,I.turned (t':=s.toks) (λb o hb e=>eb b o hb e) f0 f1 f3 f4 f5}
 self:=λ_ _ _ _ _ st h=>wpAny_pyIter_rangeiter st h
inductive X9 (K:AF)(R:It->Hp->Prop)(x:V)(H1:Hp):Prop
 | mk:∀a,(x=.ref a)->((∃xs,AD K H1 a xs))->(R (PZ K a) H1)->X9 K R x H1
def Sz (K:AF)(tl:TE):TI:=λσ H R=>tl σ H λx H1=>X9 K R x H1
inductive XS (K:AF)(R:It->Hp->Prop)(x:V)(H1:Hp):Prop
 | mk:∀a,(x=.ref a)->((∃xs,AB K H1 a xs))->(R (OT K a) H1)->XS K R x H1
def Jl (K:AF)(tl:TE):TI:=λσ H R=>tl σ H λx H1=>XS K R x H1
def Du (hl:PE X l tl):PI X tg l (Sz X.K tl):=by
 intro pins s σ H R I h;show AI (hl pins s σ H _ I h) λv s1 ⟨x,H1,C,J,U⟩=>?_;let{a,e,{xs,hq},q}:=U;subst e;ext J;let{its,rv,p,hz}:=C.list hq;show wpAny_pyIter_list p.isList ?_;show{↥s1,[↥s1],2,H1,0,C.kept (t':=s1.toks) λb o e=>zL _ e,dU a _,{_,zR _ rfl,3},λb hb=>?_,q};let e:b=↥s1:=‹hb›
 subst e;show C.fpOk (zJ _) (C.hok.fresh (zJ _))
def BB (hl:PE X l tl):PI X tg l (Jl X.K tl):=by
 intro pins s σ H R I h;show AI (hl pins s σ H _ I h) λv s1 ⟨x,H1,C,J,U⟩=>?_;let{a,e,{xs,hq},q}:=U;subst e;ext J;let{its,rv,p,hz}:=C.tuple hq;show wpAny_pyIter_tuple (show s1.heap.IsTuple a its.toArray from p) ?_;show{↥s1,[↥s1],2,H1,0,C.kept (t':=s1.toks) λb o e=>zL _ e,f9 a _,{_,zR _ rfl,3},λb hb=>?_,q};let e:b=↥s1:=‹hb›
 subst e;show C.fpOk (zJ _) (C.hok.fresh (zJ _))
def YQ {lo:Int}(I:AA X pins σ H s)(h1 : -(2 ^ 62)<=lo)(h2:lo<2 ^ 62)(U : -(2 ^ 62)<=hi)(J:hi<2 ^ 62)
 (q:R (NN lo (hi-lo).toNat) H):wpAny (model X.prog X.w) X.A (pyIter (.ref ↥s)) (bH X pins σ tg R) E { s with heap:=s.heap.push { cls:=.type "range",data:=.fields #[.int lo t,.int hi u,.int 1 v] },toks:=tk }:=by
 show wpAny_pyIter_range (IsRange.new ..) (small_one h1 h2 U J) ?_;let C:AA X pins σ H { s with heap:=s.heap.push { cls:=.type "range",data:=.fields #[.int lo t,.int hi u,.int 1 v] },toks:=tk }:=I.kept λb o e=>zL _ e;show{(s.heap.push { cls:=.type "range",data:=.fields #[.int lo t,.int hi u,.int 1 v] }).objs.size,[(s.heap.push { cls:=.type "range",data:=.fields #[.int lo t,.int hi u,.int 1 v] }).objs.size],2,H,0,
  C.kept (t':=tk) λb o e=>zL _ e,gZ _ lo (hi-lo).toNat,?_,λb hb=>?_,q}
 . let e1:lo+((0:Nat):Int)*1=lo:=by simp
   let e2:(((hi-lo).toNat:Nat):Int)-((0:Nat):Int)=Builtin.Range.rangeSize lo hi 1:=by rw[rangeSize_one];split <;> lia
   change IsRangeIter _ _ (lo+((0:Nat):Int)*1) ((((hi-lo).toNat:Nat):Int)-((0:Nat):Int)) 1;rw[e1,e2];show zR _ rfl
 . let e:b=(s.heap.push { cls:=.type "range",data:=.fields #[.int lo t,.int hi u,.int 1 v] }).objs.size:=‹hb›
   subst e;show C.fpOk (zJ _) (C.hok.fresh (zJ _))
inductive Vr (R:It->Hp->Prop)(vs:List V)(H1:Hp):Prop
 | mk:∀j:Int,(vs=[.int j])->(-(2 ^ 62)<=j)->(j<2 ^ 62)->(R (NN 0 j.toNat) H1)->Vr R vs H1
def Pe (ta:TA):TI:=λσ H R=>ta σ H λo H1=>Vr R o H1
inductive Yl (R:It->Hp->Prop)(vs:List V)(H1:Hp):Prop
 | mk:∀i j:Int,(vs=[.int i,.int j])->((-(2 ^ 62)<=i/\i<2 ^ 62/\-(2 ^ 62)<=j/\j<2 ^ 62))->(R (NN i (j-i).toNat) H1)->Yl R vs H1
def Oo (ta:TA):TI:=λσ H R=>ta σ H λo H1=>Yl R o H1
def BX (hg:Gl X "range") (hm:X.mg "range"=none) (ha:PA X [a] ta)(hs:autoParam (starEach [a] X.env=[(false,eval a X.env)]) d_._auto_5):PI X tg (.Call (.Name "range" p) [a] [] pos) (Pe ta):=by
 intro pins s σ H R I h;show Call_ (ET I hg hm boot_range (PyProof.Rows.callWith_type1 (AI (ha pos pins s σ H _ I h) λus s1 ⟨vs,H1,I1,J,o⟩=>?_) hs rfl));let{j,e,o,U,q}:=o;subst e;cases J with
 | cons r C=>ext C;let{t,0}:=r;show call_range_1 (YQ I1 () () o U ‹q›)
def Zg (hg:Gl X "range") (hm:X.mg "range"=none) (ha:PA X [a,b] ta)(hs:autoParam (starEach [a,b] X.env=[(false,eval a X.env),(false,eval b X.env)]) d_._auto_5)(J:autoParam (starEach [b] X.env=[(false,eval b X.env)]) d_._auto_5):
 PI X tg (.Call (.Name "range" p) [a,b] [] pos) (Oo ta):=by
 intro pins s σ H R I h;show Call_ (ET I hg hm boot_range (PyProof.Rows.callWith_type1 (AI (ha pos pins s σ H _ I h) λus s1 ⟨vs,H1,I1,U,C⟩=>?_) (by rw[hs,J]) (by rw[J];rfl)));let{i,j,e,{C,q2,q3,q4},q}:=C;subst e;cases U with
 | cons r o=>
  cases o with
  | cons r' o=>ext o;let{t,0}:=r;let{t',0}:=r';show call_range_2 (YQ I1 C q2 q3 q4 q)
def JK (J:It)(g:TG)(tb:TS)(D:DC)(σ:St)(H:Hp):Prop:=∃W:Nat->Nat->St->Hp->Prop,(∃m,W 0 m σ H)/\∀i m σ H,W i m σ H ->
 (J.stop i H/\D.nx σ H)\/(J.go i H/\∃N:St->Hp->Prop,(∀ σ' H',N σ' H'->∃C,C<m/\W (i+1) C σ' H')/\∀x H',J.yld i H x H'->g x σ H' λo H2=>tb { D with nx:=N,ct:=N,bk:=D.nx } o H2)
def Ku (o:TI)(g:TG)(tb:TS):TS:=λD σ H=>o σ H λJ H1=>JK J g tb D σ H1
meta def Nt (fp:List Addr)(h:Heap):List (Addr×Obj):=fp.filterMap λb=>(h.get? b).map λo=>(b,o)
def Q2 (hb:b∈fp)(e:h.get? b=some o):(b,o)∈Nt fp h:=List.mem_filterMap.mpr {b,hb,by rw[e];rfl}
def jK (C:p∈Nt fp h):p.1∈fp/\h.get? p.1=some p.2:=by
 let{b,hb,e}:=List.mem_filterMap.mp C;cases q:h.get? b with
 | none=>rw[q] at e;ext e
 | some o=>rw[q] at e;let I:(b,o)=p:=zZ e;subst I;show⟨hb,q⟩
def AA.pinned (I:AA X pins σ H s)(hf:∀b∈fp,Ek X pins H b)(U:∀b∈fp,∃o,s.heap.get? b=some o/\∀v,o.data ≠ .cell v):AA X (pins++Nt fp s.heap) σ H s:=
 I.pins_of λp J=>(zr.mp J).elim (λz=>I.pin p (DI _ z)) λz=>by let{hb,e}:=jK z;let{f0,f1,f2,_}:=hf p.1 hb;let{o,C,d}:=U p.1 hb;rw[e] at C;ext C;show⟨e,f0,f1,f2,d⟩
def AA.unpinned (I:AA X (pins++pl) σ H s):AA X pins σ H s:=I.pins_of λp o=>I.pin p (DI _ (Cy _ o))
def Kh (hp:PassesOwn (model X.prog X.w) X.A X.env X.xe)(hc:X.calm=true)(hi:PI X tg iter wi)(hg:PG X tg g)(hb:CC X body tb)
 (hs:autoParam (∀x,foldedSetIterable iter X.env x=pure x) d_._auto_4):PS X (.For tg iter body [] pos) (Ku wi g tb):=by
 intro pins s σ H D I h;show wpAny_For (AI (hi pins s σ H _ I h) λv s1 h1=>AI h1 λitv s2 h2=>?_) hs;let{it,fp,tn,J,H2,e,I2,T,st2,f2,W,{m0,w0},turn}:=h2;subst e;let mI:∀{H':Hp},(∀b∈fp,H' b=none)->∀b∈fp,Ek X pins H' b:=λhn b hb=>{hn b hb,(f2 b hb).2};show codeAny_forLoop_any (λn s'=>∃i σ' H',AA X pins σ' H' s'/\tn i s'.heap/\(∀b∈fp,H' b=none)/\W i n σ' H') ?_ m0 ⟨0,σ,H2,I2,st2,λb hb=>(f2 b hb).1,w0⟩;rintro n s3 ⟨i,U,H3,I3,st3,fr3,w3⟩;rcases turn i n U H3 w3 with ⟨stop,qn⟩ | ⟨go,N,hN,step⟩
 . show wpAny_passesOwn hp (AI (T.done X rfl rfl rfl hc i pins s3 U H3 X.xe I3 (mI fr3) st3 stop) λr s4 ⟨hr,I4⟩=>?_);subst hr;show wpAny_execs_nil ⟨U,H3,I4,qn⟩
 . show wpAny_passesOwn hp (AI (T.item X rfl rfl rfl hc i pins s3 U H3 X.xe I3 (mI fr3) st3 go) λr s4 ⟨u,hr,h4⟩=>?_);subst hr;show wpAny_passesOwn hp (AI h4 λ_ s5 ⟨x,H5,I5,r5,y5,st5,fr5⟩=>?_);let I5':=I5.pinned (mI fr5) (T.obj _ _ st5);show wpAny_passesOwn hp (AI (hg _ s5 U H5 x u _ I5' r5 (step x H5 y5)) λ_ s6 ⟨σ6,H6,I6,q6⟩=>?_);show wpAny_passesOwn hp (AI (hb _ s6 σ6 H6 _ I6 q6) λf s7 q7=>?_);let again:∀{C:St}{H7:Hp},AA X (pins++Nt fp s5.heap) C H7 s7->N C H7->∃m,m<n/\∃i σ' H',AA X pins σ' H' s7/\tn i s7.heap/\(∀b∈fp,H' b=none)/\W i m σ' H':=λ{C H7} I7 n7=>by let{m',hm,w7}:=hN C H7 n7;show{m',hm,i+1,C,H7,I7.unpinned,T.keep _ _ _ st5 λb hb o e=>(I7.pin (b,o) (DI _ (DI _ (Q2 hb e)))).1,λb hb=>?_,w7};let{o,e,d}:=T.obj _ _ st5 b hb;show (I7.pin (b,o) (DI _ (DI _ (Q2 hb e)))).2.1
   cases f with
   | next=>let{C,H7,I7,n7}:=q7;show again I7 n7
   | cont=>let{C,H7,I7,n7}:=q7;show again I7 n7
   | brk=>let{C,H7,I7,q7}:=q7;show⟨C,H7,I7.unpinned,q7⟩
   | ret v=>let{x7,C,H7,I7,r7,q7}:=q7;show⟨x7,C,H7,I7.unpinned,r7,q7⟩
def NU (Pv:Nat->St->Hp->Prop)(h0:Pv 0 σ H)(C:∀i σ H,i<n->Pv i σ H->J.go i H/\∀x H',J.yld i H x H'->g x σ H' λo H2=>tb { D with nx:=Pv (i+1),ct:=Pv (i+1),bk:=D.nx } o H2)(hd:∀σ H,Pv n σ H->J.stop n H/\D.nx σ H):JK J g tb D σ H:=by
 show{λi m σ H=>m=n-i/\i<=n/\Pv i σ H,{n,by simp,zj _,h0},?_};rintro i m σ H ⟨rfl,hi,p⟩;by_cases c:i<n
 . show .inr {(C i σ H c p).1,Pv (i+1),λI H' U=>{n-(i+1),(),0,c,U},(C i σ H c p).2}
 . obtain rfl:i=n:=()
   show .inl (hd σ H p)
def Jf {K:AF}(Pv:Nat->St->Hp->Prop)(h0:Pv 0 σ H)(C:∀i σ H,i<=xs.length->Pv i σ H->AD K H a xs)
 (I:∀i x σ H,xs[i]?=some x->Pv i σ H->g x σ H λo H2=>tb { D with nx:=Pv (i+1),ct:=Pv (i+1),bk:=D.nx } o H2)(hd:∀ σ H,Pv xs.length σ H->D.nx σ H):JK (PZ K a) g tb D σ H:=NU Pv h0 (λi σ H c p=>have q:=C i σ H (CI c) p;{{xs,xs[i],q,zB c},λx H' y=>by let{0,y}:=y;show I i x σ _ (y xs q) p}) λσ H p=>{{xs,C _ σ H (zJ _) p,zJ _},hd σ H p}
def Nz {K:AF}(Pv:Nat->St->Hp->Prop)(h0:Pv 0 σ H)(C:∀i σ H,i<=xs.length->Pv i σ H->AB K H a xs)
 (I:∀i x σ H,xs[i]?=some x->Pv i σ H->g x σ H λo H2=>tb { D with nx:=Pv (i+1),ct:=Pv (i+1),bk:=D.nx } o H2)(hd:∀ σ H,Pv xs.length σ H->D.nx σ H):JK (OT K a) g tb D σ H:=NU Pv h0 (λi σ H c p=>have q:=C i σ H (CI c) p;{{xs,xs[i],q,zB c},λx H' y=>by let{0,y}:=y;show I i x σ _ (y xs q) p}) λσ H p=>{{xs,C _ σ H (zJ _) p,zJ _},hd σ H p}
def CL {lo:Int}(Pv:Nat->St->Hp->Prop)(h0:Pv 0 σ H)
 (C:∀i σ H,i<n->Pv i σ H->g (.int (lo+i)) σ H λo H2=>tb { D with nx:=Pv (i+1),ct:=Pv (i+1),bk:=D.nx } o H2)(hd:∀ σ H,Pv n σ H->D.nx σ H):JK (NN lo n) g tb D σ H:=NU Pv h0 (λi σ H c p=>{c,λx H' y=>by let{3}:=y;show C i σ _ c p}) λσ H p=>{zJ n,hd σ H p}
abbrev R2:=V->V->Hp->VK->Prop
def A9 (X:Cx)(f:Value->Value->Sem Value)(r:R2):Prop:=
 ∀pins s σ H x y v u Q,AA X pins σ H s->AM x v->AM y u->r x y H Q ->
  wpAny (model X.prog X.w) X.A (f v u) (EP X pins σ Q) X.xe s
def UR (X:Cx)(f:Value->Sem Value)(r:V->Hp->VK->Prop):Prop:=
 ∀pins s σ H x v Q,AA X pins σ H s->AM x v->r x H Q ->
  wpAny (model X.prog X.w) X.A (f v) (EP X pins σ Q) X.xe s
def Be (X:Cx)(f:Value)(r:List V->Hp->VK->Prop):Prop:=
 ∀pins s σ H xs us Q,AA X pins σ H s->AK xs us->r xs H Q ->
  wpAny (model X.prog X.w) X.A (call f us) (EP X pins σ Q) X.xe s
def GG (r:R2)(ta tb:TE):TE:=λσ H Q=>ta σ H λx H1=>tb σ H1 λy H2=>r x y H2 Q
def jk (r:V->Hp->VK->Prop)(ta:TE):TE:=λσ H Q=>ta σ H λx H1=>r x H1 Q
inductive OU (C:Int->Int->Prop)(g:Int->Int->V)(x:V)(y:V)(H:Hp)(Q:VK):Prop
 | mk:∀i j,(x=.int i)->(y=.int j)->(C i j)->(Q (g i j) H)->OU C g x y H Q
def rI (C:Int->Int->Prop)(g:Int->Int->V):R2:=λx y H Q=>OU C g x y H Q
inductive IA (g:Int->Int->V)(x:V)(y:V)(H:Hp)(Q:VK):Prop
 | mk:∀i j,(x=.int i)->(y=.int j)->(Q (g i j) H)->IA g x y H Q
def HP (g:Int->Int->V):R2:=λx y H Q=>IA g x y H Q
inductive P5 (g:Int->V)(x:V)(H:Hp)(Q:VK):Prop
 | mk:∀i,(x=.int i)->(Q (g i) H)->P5 g x H Q
def rU (g:Int->V):V->Hp->VK->Prop:=λx H Q=>P5 g x H Q
def Kv (ha:PE X a ta)(hb:PE X b tb){R:V->V->Hp->Prop}(I:AA X pins σ H s)
 (h:ta σ H λx H1=>tb σ H1 λy H2=>R x y H2){f:Value->Value->Sem Value}
 (hf:∀v u s2 x y H2,AA X pins σ H2 s2->AM x v->AM y u->R x y H2->wpAny (model X.prog X.w) X.A (f v u) Q X.xe s2):
 wpAny (model X.prog X.w) X.A (eval a X.env) (λv C=>wpAny (model X.prog X.w) X.A (eval b X.env) (λu o=>wpAny (model X.prog X.w) X.A (f v u) Q X.xe o) X.xe C) X.xe s:=by
 show AI (ha pins s σ H _ I h) λv s1 ⟨x,H1,I1,U,q1⟩=>?_;show AI (hb pins s1 σ H1 _ I1 q1) λu s2 ⟨y,H2,I2,J,q2⟩=>?_;show hf v u s2 x y H2 I2 U J q2
def AQ (J:A9 X (binaryOp op) r)(ha:PE X a ta)(hb:PE X b tb):PE X (.BinOp a op b pos) (GG r ta tb):=by intro pins s σ H Q I h;show wpAny_BinOp (Kv ha hb I h λv u s2 x y H2 U C o q=>J pins s2 σ H2 x y v u Q U C o q)
def IS (J:UR X (unaryOp op) r)(ha:PE X a ta):PE X (.UnaryOp op a pos) (jk r ta):=by intro pins s σ H Q I h;show UnaryOp_ (AI (ha pins s σ H _ I h) λv s1 ⟨x,H1,U,o,C⟩=>J pins s1 σ H1 x v Q U o C)
def Rz {g:Int->Int->Int}
 (rule:∀i j t u s Q E,C i j->Q (.int (g i j) s.toks) { s with toks:=s.toks+1 }->wpAny (model X.prog X.w) X.A (f (.int i t) (.int j u)) Q E s):
 A9 X f (rI C λi j=>.int (g i j)):=by
 intro pins s σ H x y v u Q I U J h;let{i,j,3,hc,q}:=h;let{t,0}:=U;let{o,0}:=J;show rule i j t o s _ _ hc {.int (g i j),H,I.tok _,{1},q}
def P0 {g:Int->Int->Int}
 (rule:∀i j t u s Q E,Q (.int (g i j) s.toks) { s with toks:=s.toks+1 }->wpAny (model X.prog X.w) X.A (f (.int i t) (.int j u)) Q E s):
 A9 X f (HP λi j=>.int (g i j)):=by
 intro pins s σ H x y v u Q I J C h;let{i,j,3,q}:=h;let{t,0}:=J;let{o,0}:=C;show rule i j t o s _ _ {.int (g i j),H,I.tok _,{1},q}
def HI {g:Int->Int->Bool}
 (rule:∀i j t u s Q E,Q (.bool (g i j)) s->wpAny (model X.prog X.w) X.A (f (.int i t) (.int j u)) Q E s):
 A9 X f (HP λi j=>.bl (g i j)):=by
 intro pins s σ H x y v u Q I J C h;let{i,j,3,q}:=h;let{t,0}:=J;let{o,0}:=C;show rule i j t o s _ _ {.bl (g i j),H,I,0,q}
def Pz (i j:Int):Prop:=0<j/\j<1073741824
def Uj (i j:Int):Prop:=0<=j/\j<=1000000/\i.natAbs<2 ^ 64
def Kg (i j:Int):Prop:=(-(2 ^ 64)<i/\i<2 ^ 64)\/(-(2 ^ 64)<j/\j<2 ^ 64)
def Kg.ok (h:Kg i j):IntMulOk i j:=by
 rcases h with ⟨C,o⟩ | ⟨C,o⟩
 . show .of_left (intBits_le_64 C o)
 . show .of_right (intBits_le_64 C o)
def Br:A9 X (binaryOp .Add) (HP λi j=>.int (i+j)):=P0 λ_ _ _ _ _ _ _ q=>add_int q
def Dh:A9 X (binaryOp .Sub) (HP λi j=>.int (i-j)):=P0 λ_ _ _ _ _ _ _ q=>sub_int q
def NX:A9 X (binaryOp .Mult) (rI Kg λi j=>.int (i*j)):=Rz λ_ _ _ _ _ _ _ o q=>mul_int q o.ok
def QT:A9 X (binaryOp .FloorDiv) (rI Pz λi j=>.int (i/j)):=Rz λi j _ _ _ _ _ o q=>by let I:(0:Int)<j:=o.1;let C:j<1073741824:=o.2;show floordiv_int () (by rwa[Int.fdiv_eq_ediv_of_nonneg i ()]) (.inl (PyProof.noPylong_small ()))
def Jg:A9 X (binaryOp .Mod) (rI (λ_ j=>0<j) λi j=>.int (i%j)):=Rz λi j _ _ _ _ _ o q=>by let C:(0:Int)<j:=o;show mod_int' () (by rwa[Int.fmod_eq_emod_of_nonneg i ()])
def Xi:A9 X (binaryOp .Pow) (rI Uj λi j=>.int (i ^ j.toNat)):=Rz λ_ _ _ _ _ _ _ o q=>pow_int_small o.1 o.2.1 o.2.2 q
def jr {g:Int->Int}
 (rule:∀i t s Q E,Q (.int (g i) s.toks) { s with toks:=s.toks+1 }->wpAny (model X.prog X.w) X.A (f (.int i t)) Q E s):
 UR X f (rU λi=>.int (g i)):=by
 intro pins s σ H x v Q I o h;let{i,0,q}:=h;let{t,0}:=o;show rule i t s _ _ {.int (g i),H,I.tok _,{1},q}
def WG:UR X (unaryOp .USub) (rU λi=>.int (-i)):=jr λ_ _ _ _ _ q=>neg_int q
meta def Ji:V->V->Bool
 | .non,.non=>true | .non,.int _=>true | .int _,.non=>true | .non,.bl _=>true | .bl _,.non=>true | .non,.str _=>true | .str _,.non=>true
 | .int _,.int _=>true | .bl _,.bl _=>true | .str _,.str _=>true | .byt _,.byt _=>true
 | .int _,.str _=>true | .str _,.int _=>true | .bl _,.str _=>true | .str _,.bl _=>true
 | _,_=>false
inductive IT (x:V)(y:V)(H:Hp)(Q:VK):Prop
 | mk:(Ji x y=true)->(Q (.bl (decide (x=y))) H)->IT x y H Q
def jd:R2:=λx y H Q=>IT x y H Q
inductive IY (x:V)(y:V)(H:Hp)(Q:VK):Prop
 | mk:(Ji x y=true)->(Q (.bl (!decide (x=y))) H)->IY x y H Q
def jo:R2:=λx y H Q=>IY x y H Q
def Yt :decide (V.int i=V.int j)=(i==j):=by rw[Gd];simp
def WK :decide (V.bl i=V.bl j)=(i==j):=by rw[Gd];simp
def Wn :decide (V.str i=V.str j)=(i==j):=by rw[Gd];simp
def Z3 :decide (V.byt i=V.byt j)=(i.toList==j.toList):=by rw[Gd];cases i;cases j;simp
def A8 (I:AA X pins σ H s)(q:Q (.bl k) H)(e:k=k'):EP X pins σ Q (.bool k') s:=by subst e;show{.bl k,H,I,0,q}
def BH:A9 X (compareOp .Eq) jd:=by
 intro pins s σ H x y v u Q I U o h;let{J,q}:=h;cases x with
 | non=>
  ext U;cases y with
  | non=>ext o;show PySem.EqNone.eq_none_none (A8 I q (by simp))
  | bl j=>ext o;show PySem.EqNone.eq_none_bool (A8 I q (by simp))
  | int j=>let{C,0}:=o;show PySem.EqNone.eq_none_int (A8 I q (by simp))
  | str j=>let{C,0}:=o;show PySem.EqNone.eq_none_str (A8 I q (by simp))
  | _=>show absurd (show false=true from J) zq
 | bl i=>
  ext U;cases y with
  | non=>ext o;show PySem.EqNone.eq_bool_none (A8 I q (by simp))
  | bl j=>ext o;show eq_bool (A8 I q WK)
  | str j=>let{C,0}:=o;show PySem.EqMixed.eq_bool_str (A8 I q (by simp))
  | _=>show absurd (show false=true from J) zq
 | int i=>
  let{t,0}:=U;cases y with
  | non=>ext o;show PySem.EqNone.eq_int_none (A8 I q (by simp))
  | int j=>let{C,0}:=o;show eq_int (A8 I q Yt)
  | str j=>let{C,0}:=o;show PySem.EqMixed.eq_int_str (A8 I q (by simp))
  | _=>show absurd (show false=true from J) zq
 | str i=>
  let{t,0}:=U;cases y with
  | non=>ext o;show PySem.EqNone.eq_str_none (A8 I q (by simp))
  | bl j=>ext o;show PySem.EqMixed.eq_str_bool (A8 I q (by simp))
  | int j=>let{C,0}:=o;show PySem.EqMixed.eq_str_int (A8 I q (by simp))
  | str j=>let{C,0}:=o;show eq_str (A8 I q Wn)
  | _=>show absurd (show false=true from J) zq
 | byt i=>
  let{t,0}:=U;cases y with
  | byt j=>let{C,0}:=o;show PySem.W.eq_bytes (A8 I q Z3)
  | _=>show absurd (show false=true from J) zq
 | _=>ext y <;> show absurd (show false=true from J) zq
def Ip:A9 X (compareOp .NotEq) jo:=by
 intro pins s σ H x y v u Q I U o h;let{J,q}:=h;cases x with
 | non=>
  ext U;cases y with
  | non=>ext o;show PySem.EqNone.ne_none_none (A8 I q (by simp))
  | bl j=>ext o;show PySem.EqNone.ne_none_bool (A8 I q (by simp))
  | int j=>let{C,0}:=o;show PySem.EqNone.ne_none_int (A8 I q (by simp))
  | str j=>let{C,0}:=o;show PySem.EqNone.ne_none_str (A8 I q (by simp))
  | _=>show absurd (show false=true from J) zq
 | bl i=>
  ext U;cases y with
  | non=>ext o;show PySem.EqNone.ne_bool_none (A8 I q (by simp))
  | bl j=>ext o;show ne_bool (A8 I q (congrArg not WK))
  | str j=>let{C,0}:=o;show PySem.EqMixed.ne_bool_str (A8 I q (by simp))
  | _=>show absurd (show false=true from J) zq
 | int i=>
  let{t,0}:=U;cases y with
  | non=>ext o;show PySem.EqNone.ne_int_none (A8 I q (by simp))
  | int j=>let{C,0}:=o;show ne_int (A8 I q (congrArg not Yt))
  | str j=>let{C,0}:=o;show PySem.EqMixed.ne_int_str (A8 I q (by simp))
  | _=>show absurd (show false=true from J) zq
 | str i=>
  let{t,0}:=U;cases y with
  | non=>ext o;show PySem.EqNone.ne_str_none (A8 I q (by simp))
  | bl j=>ext o;show PySem.EqMixed.ne_str_bool (A8 I q (by simp))
  | int j=>let{C,0}:=o;show PySem.EqMixed.ne_str_int (A8 I q (by simp))
  | str j=>let{C,0}:=o;show ne_str (A8 I q (congrArg not Wn))
  | _=>show absurd (show false=true from J) zq
 | byt i=>
  let{t,0}:=U;cases y with
  | byt j=>let{C,0}:=o;show PySem.W.ne_bytes (A8 I q (congrArg not Z3))
  | _=>show absurd (show false=true from J) zq
 | _=>ext y <;> show absurd (show false=true from J) zq
def Hj:A9 X (compareOp .Lt) (HP λi j=>.bl (decide (i<j))):=HI λ_ _ _ _ _ _ _ q=>lt_int q
def Qx:A9 X (compareOp .LtE) (HP λi j=>.bl (decide (i<=j))):=HI λ_ _ _ _ _ _ _ q=>le_int q
def EN:A9 X (compareOp .Gt) (HP λi j=>.bl (decide (j<i))):=HI λ_ _ _ _ _ _ _ q=>gt_int q
def O3:A9 X (compareOp .GtE) (HP λi j=>.bl (decide (j<=i))):=HI λ_ _ _ _ _ _ _ q=>ge_int q
def Dl:A9 X (compareOp .Is) (λx y H Q=>y=.non/\Q (.bl (decide (x=.non))) H):=by
 intro pins s σ H x y v u Q I o C h;let{0,q}:=h;ext C;show is_none_gen (A8 I q ?_);ext x <;> first
  | (ext o;rfl)
  | (let{t,0}:=o;rfl)
def GU:A9 X (compareOp .IsNot) (λx y H Q=>y=.non/\Q (.bl (!decide (x=.non))) H):=by
 intro pins s σ H x y v u Q I o C h;let{0,q}:=h;ext C;show isnot_none_gen (A8 I q ?_);ext x <;> first
  | (ext o;rfl)
  | (let{t,0}:=o;rfl)
def AH (b)(h:autoParam (op ≠ .In) d_._auto_2)(o:autoParam (op ≠ .NotIn) d_._auto_2):behindInMarks op b=false:=Xr b h o
def Bt (J:A9 X (compareOp op) r)(ha:PE X a ta)(hb:PE X b tb)(hm:behindInMarks op b=false):PE X (.Compare a [op] [b] pos) (GG r ta tb):=by intro pins s σ H Q I h;show wpAny_Compare1 (Kv ha hb I h λv u s2 x y H2 U C o q=>J pins s2 σ H2 x y v u Q U C o q) hm
inductive YY (Q:Bool->Hp->Prop)(x:V)(H':Hp):Prop
 | mk:∀k,(x=.bl k)->(Q k H')->YY Q x H'
def O5 (t:TE):TT:=λσ H Q=>t σ H λx H'=>YY Q x H'
def zw (ho:A9 X (compareOp op) r)(ha:PE X a ta)(hb:PE X b tb)(hm:behindInMarks op b=false):PT X (.Compare a [op] [b] pos) (O5 (GG r ta tb)):=by
 intro pins s σ H Q I h;show wpAny_isTrue_Compare1 (AI (ha pins s σ H _ I h) λv s1 ⟨x,H1,I1,J,q1⟩=>AI (hb pins s1 σ H1 _ I1 q1) λu s2 ⟨y,H2,I2,C,q2⟩=>
  AI (ho pins s2 σ H2 x y v u _ I2 J C q2) λc s3 ⟨z,H3,I3,o,k,e,U⟩=>?_) hm
 subst e;ext o;show GP ⟨H3,I3,U⟩
inductive VR (r':R2)(tc:TE)(σ:St)(Q:VK)(y:V)(z:V)(H3:Hp):Prop
 | mk:∀k,(z=.bl k)->((if k=true then tc σ H3 λw' H4=>r' y w' H4 Q else Q (.bl false) H3))->VR r' tc σ Q y z H3
def KS (r C:R2)(ta tb o:TE):TE:=λσ H Q=>ta σ H λx H1=>tb σ H1 λy H2=>r x y H2 λz H3=>VR C o σ Q y z H3
def dZ (ho:A9 X (compareOp op) r)(nK:A9 X (compareOp op') r')(ha:PE X a ta)(hb:PE X b tb)(hc:PE X c tc)
 (hm:autoParam (lastMarks [op,op'] [b,c]=false) d_._auto_6):PE X (.Compare a [op,op'] [b,c] pos) (KS r r' ta tb tc):=by
 intro pins s σ H Q I h;show Compare_chain (AI (ha pins s σ H _ I h) λv s1 ⟨x,H1,I1,r1,q1⟩=>chain_link (AI (hb pins s1 σ H1 _ I1 q1) λu s2 ⟨y,H2,I2,o,q2⟩=>
  AI (ho pins s2 σ H2 x y v u _ I2 r1 o q2) λd s3 ⟨z,H3,J,r3,k,e,C⟩=>?_)) hm
 subst e;ext r3;show GP ?_;cases k with
 | false=>show ite_ff {.bl false,H3,J,0,C}
 | true=>show ite_tt (chain_last (AI (hc pins s3 σ H3 _ J C) λw' s4 ⟨U,H4,I4,r4,q4⟩=>nK pins s4 σ H4 y U u w' Q I4 o r4 q4))
def RF:(sizeLine:Nat)<2 ^ 63:=by rw[sizeLine_eq];decide
def Co (r:AK [x] us):∃u,us=[u]/\AM x u:=by
 cases r with
 | cons C o=>ext o;show{1,C}
def He (r:AK [x,y] us):∃u o,us=[u,o]/\AM x u/\AM y o:=by
 cases r with
 | cons U J=>
  cases J with
  | cons I C=>ext C;show{6,U,I}
inductive Om (xs:List V)(H:Hp)(Q:VK):Prop
 | mk:∀i j,(xs=[.int i,.int j])->(Q (.int (if j > i then j else i)) H)->Om xs H Q
def gR (C:X.calm=true):Be X (.builtin "max") Om:=by
 intro pins s σ H xs us Q I r h;let{i,j,0,q}:=h;let{u,J,0,{t,0},{t',0}}:=He r;show max_two_ints (I.ok.hd C) λh' U k=>{_,H,I.kept k,?_,q};by_cases o:j > i
 . rw[if_pos o,if_pos o];show{1}
 . rw[if_neg o,if_neg o];show{1}
inductive PB (xs:List V)(H:Hp)(Q:VK):Prop
 | mk:∀i j,(xs=[.int i,.int j])->(Q (.int (if j<i then j else i)) H)->PB xs H Q
def iY (C:X.calm=true):Be X (.builtin "min") PB:=by
 intro pins s σ H xs us Q I r h;let{i,j,0,q}:=h;let{u,J,0,{t,0},{t',0}}:=He r;show min_two_ints (I.ok.hd C) λh' U k=>{_,H,I.kept k,?_,q};by_cases o:j<i
 . rw[if_pos o,if_pos o];show{1}
 . rw[if_neg o,if_neg o];show{1}
structure Me (h:Heap)(x dx C:Addr)(mA:BO):Prop where
 obj:h.get? x=some (PySem.W.instObj C dx)
 ns:h.Ns1 dx mA
 ne:dx≠x
def iW {h:Heap}(n:h.Ns1 dx mA):∃od,h.get? dx=some od/\∀name,PySem.W.lookIn name od=some (mA name):=by
 let{o,es,ep,J,hd,U,_,hm}:=n;show{o,J,λname=>?_};let e:=hm name;unfold nsFind findBy at e;rw[<-Array.find?_toList] at e;unfold PySem.W.lookIn;rw[hd];dsimp only;split
 . rename_i y q
   rw[q] at e;show congrArg some e
 . rename_i q
   rw[q] at e;let a:es.toList.any (·.refKey)=false:=by rw[List.any_eq_false];intro y I;let{z,t,C}:=U y (Array.mem_toList_iff.mp I);simp[DictEntry.refKey,C]
   let a':¬ es.toList.any (·.refKey)=true:=by rw[a];show zq
   rw[if_neg a'];show congrArg some e
def Me.look (I:Me h x dx C mA):∃od,PySem.W.InstAt h x (PySem.W.instObj C dx) C (some od)/\∀name,PySem.W.lookIn name od=some (mA name):=
 let ⟨od,o,J⟩:=iW I.ns
 {od,{I.obj,3,o},J}
meta def Eb (f:Str)(v:V):List (Str×V)->List (Str×V)
 | []=>[(f,v)]
 | (g,x)::r=>if g=f then (g,v)::r else (g,x)::Eb f v r
def Y6 (f g)(v):∀fs:List (Str×V),(Eb f v fs).lookup g=if g=f then some v else fs.lookup g
 | []=>by
  change List.lookup g [(f,v)]=_;by_cases h:g=f
  . let hb:(g==f)=true:=beq_iff_eq.mpr h;simp only[List.lookup,hb,if_pos h]
  . let hb:(g==f)=false:=beq_eq_false_iff_ne.mpr h;simp only[List.lookup,hb,if_neg h]
 | (k,x)::r=>by
  let C:=Y6 f g v r;rw[show Eb f v ((k,x)::r)=(if k=f then (k,v)::r else (k,x)::Eb f v r) from rfl]
  by_cases o:k=f
  . rw[if_pos o];by_cases h:g=k
    . let hb:(g==k)=true:=beq_iff_eq.mpr h;simp only[List.lookup,hb,if_pos (h.trans o)]
    . let hb:(g==k)=false:=beq_eq_false_iff_ne.mpr h;simp only[List.lookup,hb,if_neg (λe:g=f=>h (e.trans o.symm))]
  . rw[if_neg o];by_cases h:g=k
    . let hb:(g==k)=true:=beq_iff_eq.mpr h;simp only[List.lookup,hb,if_neg (λe:g=f=>o (h.symm.trans e))]
    . let hb:(g==k)=false:=beq_eq_false_iff_ne.mpr h;simp only[List.lookup,hb];show C
def TY (f)(v):∀fs:List (Str×V),f∈(Eb f v fs).map (·.1)/\∀g,g∈fs.map (·.1)->g∈(Eb f v fs).map (·.1)
 | []=>{by simp[Eb],λg h=>by simp at h}
 | (k,x)::r=>by
  let{I,C}:=TY f v r;rw[show Eb f v ((k,x)::r)=(if k=f then (k,v)::r else (k,x)::Eb f v r) from rfl]
  by_cases o:k=f
  . rw[if_pos o];subst o;show{by simp,λg h=>‹h›}
  . rw[if_neg o];show{?_,λg h=>?_}
    . rw[Bj];show zd _ I
    . rw[Bj] at h ⊢;rcases za.mp h with e | e
      . show za.mpr (.inl e)
      . show zd _ (C g e)
def CV.some_of (r:CV (some v) o):∃u,o=some u/\AM v u:=by
 cases o with
 | none=>show (show False from r).elim
 | some u=>show{u,0,r}
def fX (r:AM v u):PySem.W.handedIn u=true:=by
 cases v with
 | non=>cases (show u=Value.none from r);rfl
 | bl b=>cases (show u=Value.bool b from r);rfl
 | int i=>let{t,e}:=(show ∃t,u=Value.int i t from r);ext e;rfl
 | str x=>let{t,e}:=(show ∃t,u=Value.str x t from r);ext e;rfl
 | byt b=>let{t,e}:=(show ∃t,u=Value.bytes b t from r);ext e;rfl
 | flt b=>let{t,e}:=(show ∃t,u=Value.float b t from r);ext e;rfl
 | ref a=>cases (show u=Value.ref a from r);rfl
 | ty n=>cases (show u=Value.type n from r);rfl
def iD (o:Aq P w H h)(e:H a=some (.ins C dx fs)):∃mA,Me h a dx C mA/\(∀f,CV (fs.lookup f) (mA f))/\PySem.Within mA (fs.map (·.1))/\fs.length<=1000/\H dx=some (.own a):=by let{d,z,ne,I,mA,n,r,q}:=(show Av P w H h a (.ins C dx fs) from o a _ e);show{mA,⟨I,n,ne⟩,r,q,z,d}
structure Uh (K:AF)(C:Addr):Prop where
 pg:PySem.W.plainGet K C Str.empty=true
 hd:PySem.W.hasDictIn K C=true
 po:PySem.W.plainOver K C=true
 sa:PySem.W.findIn K (.ref C) "__setattr__"=some (some (.builtin "object.__setattr__"))
def Uh.get {K:AF}(c:Uh K C)(f):PySem.W.plainGet K C f=true:=c.pg
def bQ (hb:attributeBase e f env (eval e env)=eval e env)
 (h:wpAny ∅ A (eval e env) (λo C=>wpAny ∅ A (getAttr o f true) Q E C) E s):wpAny ∅ A (eval (.Attribute e f pos) env) Q E s:=
 Attribute_any_ h (by rw[arm_eval_Attribute,hb])
inductive DU (K:AF)(H:Hp):V->Value->Prop where
 | non:DU K H .non (.type "NoneType")
 | bl (x:Bool):DU K H (.bl x) (.type "bool")
 | int (i:Int):DU K H (.int i) (.type "int")
 | str (x:Str):DU K H (.str x) (.type "str")
 | flt (x:UInt64):DU K H (.flt x) (.type "float")
 | lst {a:Addr}{xs:List V}(e:H a=some (.lst xs)):DU K H (.ref a) (.type "list")
 | frz {a:Addr}{o:Obj}{xs:List V}(e:H a=some (.frz o (.lst xs))):DU K H (.ref a) (.type "list")
 | tup {a:Addr}{xs:List V}(e:H a=some (.tup xs)):DU K H (.ref a) (.type "tuple")
 | dK {a:Addr}{kvs:List (AJ×V)}(e:H a=some (.dK kvs)):DU K H (.ref a) (.type "dict")
 | dT {a:Addr}{kvs:List (List AJ×V)}(e:H a=some (.dT kvs)):DU K H (.ref a) (.type "dict")
 | ins {a C dx:Addr}{fs:List (Str×V)}(e:H a=some (.ins C dx fs))(cl:Uh K C)(ha:PySem.W.findIn K (.ref C) "__class__"=some (some (.builtin "object.__class__")))
  (hn:PySem.W.specialIn K (.builtin "object.__class__") "__get__"=some (some (.builtin "getset_descriptor.__get__"))) (htk:PySem.W.takesIn K (.builtin "object.__class__")=some true)
  (hm:PySem.W.mroIn K C (.type "object")=some true):DU K H (.ref a) (.ref C)
def bV (I:AA X pins σ H s)(U:AM x u)(ty:DU X.K H x t)(e:PySem.W.kitOne X.K t c=some b)(h:∀tk,Q (.bool b) { s with toks:=tk }):
 wpAny (model X.prog X.w) A (call (.builtin "isinstance") [u,c]) Q E s:=by
 cases ty with
 | non=>cases (show u=Value.none from U);show PySem.W.kia_one PySem.W.kitx_none I.kIn True.intro e (λz=>nomatch z) h
 | bl y=>cases (show u=Value.bool y from U);show PySem.W.kia_one PySem.W.kitx_bool I.kIn True.intro e (λz=>nomatch z) h
 | int i=>let{t,q}:=(show ∃t,u=Value.int i t from U);ext q;show PySem.W.kia_one PySem.W.kitx_int I.kIn True.intro e (λz=>nomatch z) h
 | str y=>let{t,q}:=(show ∃t,u=Value.str y t from U);ext q;show PySem.W.kia_one PySem.W.kitx_str I.kIn True.intro e (λz=>nomatch z) h
 | flt y=>let{t,q}:=(show ∃t,u=Value.float y t from U);ext q;show PySem.W.kia_one PySem.W.kitx_float I.kIn True.intro e (λz=>nomatch z) h
 | @lst a xs ea=>cases (show u=Value.ref a from U);let{2,n,_,h1}:=(show Av X.prog X.w H s.heap a (.lst xs) from I.hok a _ ea);show PySem.W.kia_one PySem.W.kitx_list I.kIn {_,h1,0} e (λz=>nomatch z) h
 | @frz a ob xs ea=>cases (show u=Value.ref a from U);let{_,2,n,_,h1}:=(show Av X.prog X.w H s.heap a (.frz ob (.lst xs)) from I.hok a _ ea);show PySem.W.kia_one PySem.W.kitx_list I.kIn {_,h1,0} e (λz=>nomatch z) h
 | @tup a xs ea=>cases (show u=Value.ref a from U);let{_,2,p}:=(show Av X.prog X.w H s.heap a (.tup xs) from I.hok a _ ea);let{o,h1,h2,_}:=p;show PySem.W.kia_one PySem.W.kitx_tuple I.kIn ⟨o,h1,h2⟩ e (λz=>nomatch z) h
 | @dK a kvs ea=>cases (show u=Value.ref a from U);let{2,vs,_,p}:=(show Av X.prog X.w H s.heap a (.dK kvs) from I.hok a _ ea);let{o,es,ep,h1,h2,_}:=p;show PySem.W.kia_one PySem.W.kitx_dict I.kIn ⟨o,h1,h2.1⟩ e (λz=>nomatch z) h
 | @dT a kvs ea=>cases (show u=Value.ref a from U);let{2,xs,_,o,es,ep,h1,h2,_}:=(show Av X.prog X.w H s.heap a (.dT kvs) from I.hok a _ ea);show PySem.W.kia_one PySem.W.kitx_dict I.kIn ⟨o,h1,h2.1⟩ e (λz=>nomatch z) h
 | @ins a C dx fs ea cl ha hn htk hm=>cases (show u=Value.ref a from U);let{mA,O,_}:=iD I.hok ea;let{od,J,_}:=O.look;show PySem.W.kia_one (PySem.W.kitx_own (cl.get _) cl.hd ha hn htk hm) I.kIn J e (λz=>nomatch z) h
structure A6 (k:Nat)(A:Around):Prop where
 hd:A.handled=none
 dp:A.depth+3*k+5<recursionLimit
 un:A.units+16*k+200<cLine
 gd:A.guards=some []
def A6.mono (r:A6 k A)(h:j<=k):A6 j A:={r.hd,by let:=r.dp;lia,by let:=r.un;lia,r.gd}
def A6.deeper (r:A6 (k+1) A)(env:Env):A6 k (A.deeper env):=
 {r.hd,by let:=r.dp;change A.depth+1+3*k+5<_;lia,by let:=r.un;change A.units+3+16*k+200<_;lia,r.gd}
def iN {A:Around}:(A.under (.builtin "type.__call__" {.ref C::us,kw})).depth=A.depth+1:=by
 first | rfl | simp[Around.under,Code.weight,Code.isCreation,Code.isGuard,Code.isCaller,Code.frames,Code.isFrame,guardIds]
def gq {A:Around}:(A.under (.builtin "type.__call__" {.ref C::us,kw})).units=A.units+1:=by
 first | rfl | simp[Around.under,Code.cUnits,Code.frames,Code.isFrame]
def A6.make (r:A6 (k+1) A)(C)(us)(kw):A6 k (A.under (.builtin "type.__call__" {.ref C::us,kw})):=
 {r.hd,by let:=r.dp;rw[iN];lia,by let:=r.un;rw[gq];lia,by first | show r.gd | (simp[Around.under,Code.guards,Code.isGuard,guardIds,pushGuards];show r.gd)}
def A6.depth (r:A6 k A):A.depth<recursionLimit:=by let:=r.dp;lia
def A6.units (r:A6 k A):A.units+64<cLine:=by let:=r.un;lia
def A6.units0 (r:A6 k A):A.units<cLine:=by let:=r.un;lia
def Iw:TA:=λ_ H Q=>Q [] H
def Dt (ta:TE)(tr:TA):TA:=λσ H Q=>ta σ H λx H1=>tr σ H1 λxs H2=>Q (x::xs) H2
def zN:PA X [] Iw:=λ_ _ _ _ H Q I h=>Calls.spliced_nil {[],H,I,.nil,h}
def zD (ha:PE X e te)(hr:PA X es t)(hs:autoParam (starEach (e::es) X.env=(false,eval e X.env)::starEach es X.env) d_._auto_5):PA X (e::es) (Dt te t):=by intro pos pins s σ H Q I h;rw[hs];change wpAny _ _ (spliced ((false,eval e X.env)::backTo pos (starEach es X.env))) _ _ s;show Calls.spliced_cons (AI (ha pins s σ H _ I h) λu s1 ⟨x,H1,I1,C,U⟩=>?_);show AI (hr pos pins s1 σ H1 _ I1 U) λus s2 ⟨xs,H2,I2,o,J⟩=>{x::xs,H2,I2,.cons C o,J}
inductive aY (Q:VK)(xs:List V)(H1:Hp):Prop
 | mk:(xs.length<=sizeLine)->(∀p,H1 p=none->Q (.ref p) (upd H1 p (.tup xs)))->aY Q xs H1
def Fe (t:TA):TE:=λσ H Q=>t σ H λxs H1=>aY Q xs H1
inductive Zh (Q:VK)(xs:List V)(H1:Hp):Prop
 | mk:(xs.length<=sizeLine)->(∀p,H1 p=none->Q (.ref p) (upd H1 p (.lst xs)))->Zh Q xs H1
def O4 (t:TA):TE:=λσ H Q=>t σ H λxs H1=>Zh Q xs H1
def AU {x1} (h:PA X es t):PE X (.Tuple es x1 pos) (Fe t):=by intro pins s σ H Q I C;show wpAny_Tuple_spliced (AI (h pos pins s σ H _ I C) λus s1 ⟨xs,H1,o,r,z,q⟩=>{by rwa[<-r.length],?_});let hf:H1 ↥s1=none:=o.hok.fresh (zJ _);show{.ref ↥s1,upd H1 ↥s1 (.tup xs),o.laid (t':=s1.toks) (λb u e=>zL _ e) (zJ _) ?_,0,q _ hf};show{{z,_,zR _ rfl,0},us,r,{_,zR _ rfl,0,1}}
def BR (h:PA X es t):PE X (.List es pos) (O4 t):=by intro pins s σ H Q I C;show wpAny_List_spliced (AI (h pos pins s σ H _ I C) λus s1 ⟨xs,H1,o,r,z,q⟩=>{by rwa[<-r.length],?_});let hf:H1 ↥s1=none:=o.hok.fresh (zJ _);show{.ref ↥s1,upd H1 ↥s1 (.lst xs),o.laid (t':=s1.toks) (λb u e=>zL _ e) (zJ _) ?_,0,q _ hf};show⟨z,us,0,r,zR _ rfl⟩
abbrev Sp:=List V->Hp->VK->XK->Prop
abbrev IX:=List Env->Hp->Shared->XK->Value->Shared->Prop
structure JI (P:Program)(w:World)(K:AF)(mg:BO)(base:Heap)(A:Around)(outer:List Env)(s:Shared)(H:Hp):Prop where
 frames:A.frames=some outer
 mod:Mod K mg base
 bs:∀b o,base.get? b=some o->s.heap.get? b=some o/\H b=none
 bsz:base.objs.size<=s.heap.objs.size
 funs:s.heap.FunFrames base outer
 frf:∀b∈A7 outer,H b=none
 hok:Aq P w H s.heap
 bare:AllBare s.gens
def CE (outer:List Env)(P:Program)(w:World)(H:Hp)(s:Shared)(Q:VK)(u:Value)(s':Shared):Prop:=
 ∃v H',s'.os=s.os/\AllBare s'.gens/\Un (A7 outer) [] H H' s.heap s'.heap/\Aq P w H' s'.heap/\AM v u/\Q v H'
def CR (CX:IX)(outer:List Env)(P:Program)(w:World)(H:Hp)(s:Shared)(Q:VK)(E:XK)(r:Result)(s':Shared):Prop:=
 match r with
 | .ok (.ret u)=>CE outer P w H s Q u s'
 | .ok _=>False
 | .error e=>CX outer H s E e s'
structure BY (P:Program)(w:World)(K:AF)(mg:BO)(base:Heap)(CX:IX)(k:Nat)(f:Addr)(fd:FuncData)(ps:List Str)(sp:Sp):Prop where
 len:∀vs H Q E,sp vs H Q E->vs.length=ps.length
 run:∀(A:Around)(outer:List Env)(s:Shared)(H:Hp)(args:Args)(us:List Value)(vs:List V)(Q:VK)(E:XK),A6 k A->JI P w K mg base A outer s H->BindsTo s fd args (ps.zip us)->AK vs us->sp vs H Q E ->
  codeAny (model P w) A (.call (.ref f) args) (CR CX outer P w H s Q E) s
def BY.mono {K:AF}(F:BY P w K mg base CX j f fd ps sp)(h:autoParam (j<=k) d_._auto_2):
 BY P w K mg base CX k f fd ps sp:={F.len,λA outer s H args us o Q E C=>F.run A outer s H args us o Q E (C.mono h)}
def BY.imp {K:AF}(F:BY P w K mg base CX k f fd ps sp)
 (h:∀vs H Q E,sp' vs H Q E->sp vs H Q E):BY P w K mg base CX k f fd ps sp':=
 {λvs H Q E q=>F.len vs H Q E (h _ _ _ _ q),λA outer s H args us vs Q E I he hb o C=>F.run A outer s H args us vs Q E I he hb o (h _ _ _ _ C)}
def JI.make {K:AF}(e:JI P w K mg base A outer s H)(C)(us)(kw):
 JI P w K mg base (A.under (.builtin "type.__call__" {.ref C::us,kw})) outer s H:={by first | show e.frames | (simpa [Around.under,Code.envs,Code.isFrame,pushEnvs] using e.frames),e.mod,e.bs,e.bsz,e.funs,e.frf,e.hok,e.bare}
def AA.env0 (I:AA X pins σ H s):JI X.prog X.w X.K X.mg X.base X.A X.stack s H:=
 {I.ok.frames,I.ok.mod,I.bs,BC I.ok.bsz I.sz,I.stack,I.stkFree,I.hok,I.bare}
def AA.after (I:AA X pins σ H s)(h:CE X.stack X.prog X.w H s Q u s'):EP X pins σ Q u s':=by let{v,H',os,bare,un,C,r,q}:=h;let{J,g,d,t,o}:=s';obtain rfl:o=s.os:=os;show{v,H',I.call (h':=J) (g':=g) (d':=d) (t':=t) (ch:=[]) un C bare (λb z=>absurd z (by simp)),r,q}
def NV (sp:Sp)(o:List V)(E:XK)(t:TA):TE:=λσ H Q=>t σ H λC H1=>sp (C++o) H1 Q E
def Ds (K:AF)(fd:FuncData)(ps:List Str)(ds:List Value):Prop:=
 ∀s us,K.In s.heap->(us++ds).length=ps.length->BindsTo s fd {us,[]} (ps.zip (us++ds))
def Ds.all {K:AF}(h:∀us:List Value,us.length=ps.length->bindArgs fd {us,[]}=pure (ps.zip us)):Ds K fd ps []:=λs us _ o=>by rw[Bq] at o ⊢;show .of_eq (h us o)
def NR (CX:IX)(X:Cx)(E:XK):Prop:=∀pins σ H s e o,AA X pins σ H s->CX X.stack H s E e o->X.xe e o
def MS (F:BY X.prog X.w X.K X.mg X.base CX k f fd ps sp)(hr:A6 k X.A)(hb:Ds X.K fd ps ds)(hd:AK dvs ds)(U:NR CX X E)
 (I:AA X pins σ H s)(r:AK vs us)(h:sp (vs++dvs) H Q E):wpAny (model X.prog X.w) X.A (call (.ref f) us) (EP X pins σ Q) X.xe s:=by
 let C:AK (vs++dvs) (us++ds):=r.append hd;let hl:(us++ds).length=ps.length:=by rw[<-C.length];show F.len _ _ _ _ h
 show El (codeAny_mono (F.run X.A X.stack s H {us,[]} (us++ds) (vs++dvs) Q E hr I.env0 (hb s us I.kIn hl) C h) λr J o=>?_);cases r with
 | error e=>show U pins σ H s e J I o
 | ok fl=>
  cases fl with
  | ret u=>show I.after o
  | next=>show False.elim o
  | brk=>show False.elim o
  | cont=>show False.elim o
def YM (F:BY X.prog X.w X.K X.mg X.base CX k f fd ps sp)(hr:A6 k X.A)(hg:Gl X x)(hm:X.mg x=⇑f)(hk:PySem.W.keepIn X.K (.ref f)=true)(hb:Ds X.K fd ps ds)(hd:AK dvs ds)(U:NR CX X E)
 (ha:PA X (e::es) t)(C:autoParam ((x==("__debug__" : Str))=false) d_._auto_2) (he:autoParam (starEach (e::es) X.env=(false,eval e X.env)::starEach es X.env) d_._auto_5)(J:autoParam ((backTo pos (starEach es X.env)).any (·.1)=false) d_._auto_5):
 PE X (.Call (.Name x p) (e::es) [] pos) (NV sp dvs E t):=by
 intro pins s σ H Q I h;show Hd (Nl I hg hm ?_ C);show PySem.W.callWith_K (h₀:=X.base) I.ok.mod.kin hk (AI (ha pos pins s σ H _ I h) λus s1 ⟨vs,H1,o,r,q⟩=>{o.kIn,?_}) he J;show MS F hr hb hd U o r q
structure AR (N P:List Str)(sc:Scope):Prop where
 kind:sc.kind=.function
 co:sc.isCoroutine=false
 gen:sc.isGenerator=false
 nd:N.Nodup
 pre:N.take P.length=P
 par:∀x∈P,sc.names.lookup x=some .local\/sc.names.lookup x=some .cell
 nofree:∀y∈sc.names,y.2 ≠ .free
def Aa (a:autoParam (sc.kind=.function) d_._auto_5)(b:autoParam (sc.isCoroutine=false) d_._auto_5)(c:autoParam (sc.isGenerator=false) d_._auto_5)(d:autoParam (N.Nodup) d_._auto_7)(e:autoParam (N.take P.length=P) d_._auto_5)(f:autoParam (∀x∈P,sc.names.lookup x=some .local\/sc.names.lookup x=some .cell) d_._auto_7)(g:autoParam (∀y∈sc.names,y.2 ≠ .free) d_._auto_7):AR N P sc:=⟨a,b,c,d,e,f,g⟩
def Yh {kindOf:Str->Option NameKind}:∀{binds:List (Str×Value)}{m:BO},(∀v,(x,v)∉binds)->bindL kindOf binds m x=m x
 | [],_,_=>rfl
 | (n,v)::r,m,h=>by
  unfold bindL;rw[Yh λw hw=>h w (zd _ hw)];split
  . let:x≠n:=by rintro rfl;show h v zX
    simp[this]
  . rfl
def ah {kindOf:Str->Option NameKind}:∀{binds:List (Str×Value)}{m:BO},(∀v,(x,v)∉binds)->bindC kindOf binds m x=m x
 | [],_,_=>rfl
 | (n,v)::r,m,h=>by
  unfold bindC;rw[ah λw hw=>h w (zd _ hw)];split
  . rfl
  . let:x≠n:=by rintro rfl;show h v zX
    simp[this]
def XI {kindOf:Str->Option NameKind}:∀{P:List Str}{vs:List Value}{i:Nat}{m:BO},P.Nodup->P[i]?=some x->vs[i]?=some v->kindOf x=some .local ->
 bindL kindOf (P.zip vs) m x=some v
 | [],_,_,_,_,h,_,_=>by simp at h
 | _::_,[],_,_,_,_,h,_=>by simp at h
 | p::P,w::vs,0,m,nd,h1,h2,hk=>by simp at h1 h2;subst h1;subst h2;change bindL kindOf ((p,w)::P.zip vs) m p=_;unfold bindL;rw[Yh λv o=>(E5.mp nd).1 (List.of_mem_zip o).1,if_pos hk];simp
 | p::P,w::vs,i+1,m,nd,h1,h2,hk=>by change bindL kindOf ((p,w)::P.zip vs) m x=_;unfold bindL;show XI (i:=i) (E5.mp nd).2 ‹h1› ‹h2› hk
def V4 {kindOf:Str->Option NameKind}:∀{P:List Str}{vs:List Value}{i:Nat}{m:BO},P.Nodup->P[i]?=some x->vs[i]?=some v->kindOf x≠some .local ->
 bindC kindOf (P.zip vs) m x=some v
 | [],_,_,_,_,h,_,_=>by simp at h
 | _::_,[],_,_,_,_,h,_=>by simp at h
 | p::P,w::vs,0,m,nd,h1,h2,hk=>by simp at h1 h2;subst h1;subst h2;change bindC kindOf ((p,w)::P.zip vs) m p=_;unfold bindC;rw[ah λv o=>(E5.mp nd).1 (List.of_mem_zip o).1,if_neg hk];simp
 | p::P,w::vs,i+1,m,nd,h1,h2,hk=>by change bindC kindOf ((p,w)::P.zip vs) m x=_;unfold bindC;show V4 (i:=i) (E5.mp nd).2 ‹h1› ‹h2› hk
meta def EY (N:List Str)(vs:List V):St:=vs.map some++List.replicate (N.length-vs.length) none
meta def C4 (CX:IX)(P:Program)(w:World)(K:AF)(mg:BO)(base:Heap)(N:List Str)(qual:Str)(scope:Scope)(f:Addr)(cd:Value)(A:Around)(outer:List Env)(s:Shared)(H:Hp)(E:XK):Cx where
 prog:=P
 w:=w
 K:=K
 mg:=mg
 base:=base
 A:=A.deeper (envOfC qual scope ↥s f cd)
 N:=N
 s₀:=s
 H₀:=H
 env:=envOfC qual scope ↥s f cd
 outer:=outer
 stack:=envOfC qual scope ↥s f cd::outer
 ex:=[]
 calm:=true
 fn:=λ_=>true
 pn:=[]
 xe:=λe C=>wpAny (model P w) (A.deeper (envOfC qual scope ↥s f cd)) (leaving (envOfC qual scope ↥s f cd) e) (λ_ o=>CX outer H s E e o) (λI o=>CX outer H s E I o) C
def ae {sc:Scope}(h:sc.names.lookup x=some .cell):∃c,(cellsFrom n sc.names []).lookup x=some c:=by let q:=PySem.W.cellsFrom_some sc.names n [] (.inl h);show N3.mp q
def eM {K:AF}
 (S:AR N ps scope)(hd:A.handled=none)(e0:JI P w K mg base A outer s H)(hl:vs.length=ps.length)(r:AK vs us)
 (x:InCallC s ↥s (bindL (envOfC qual scope ↥s f cd).kindOf (ps.zip us) λ_=>none) (cellsFrom (↥s+1) scope.names []) (bindC (envOfC qual scope ↥s f cd).kindOf (ps.zip us) λ_=>none) s1):
 AA (C4 CX P w K mg base N qual scope f cd A outer s H E) [] (EY N vs) H s1:=by
 let kK:ps.length<=N.length:=by let:=congrArg List.length S.pre;rw[ze] at this;lia
 let{U,tk,0,hk}:=x.done;let C:∀b:Addr,b∉(C4 CX P w K mg base N qual scope f cd A outer s H E).ex:=λb z=>absurd (show b∈([]:List Addr) from z) (by simp);show{{e0.mod,S.kind,3,zJ _,λy z c U o=>?_,λy hy=>?_,λy c _ h=>?_,λ_=>hd,Around.frames_deeper e0.frames,.inr {3},λb z=>absurd z (C b),e0.bs,e0.bsz,λb _ _=>C b,λb z=>absurd z (C b),e0.funs,e0.frf},0,e0.bare,Un.kept hk,{_,x.toInCall.ns,λi y v U o h3=>?_},λy c h=>{_,x.cell y c h},e0.hok.fresh (zJ _),λy c h=>?_,λp J=>absurd (show p∈([]:CP) from J) (by simp),e0.hok.kept hk,?_}
 . show name_of_addr x.apart (PySem.mem_of_lookup U) (PySem.mem_of_lookup o)
 . let hy:scope.names.lookup y=some .cell\/scope.names.lookup y=some .free:=hy;rcases hy with hy | hy
   . show ae hy
   . show absurd rfl (S.nofree _ (PySem.mem_of_lookup hy))
 . show CI (x.above y c (PySem.mem_of_lookup h))
 . let hi:i<vs.length:=by
    unfold EY at o;by_cases hi:i<vs.length
    . show hi
    . rw[zS ‹hi›] at o;rw[List.getElem?_replicate] at o;split at o <;> ext o
   let ha:vs[i]?=some v:=by
    unfold EY at o;rw[zV ‹hi›,zM] at o;cases e:vs[i]? with
    | none=>rw[e] at o;ext o
    | some a=>rw[e] at o;ext o;rfl
   let{u,hu,rv}:=r.get ha;let J:ps[i]?=some y:=by rwa[<-S.pre,List.getElem?_take_of_lt ()]
   let I:ps.Nodup:=by rw[<-S.pre];show S.nd.sublist (List.take_sublist _ _)
   show{u,rv,?_};rcases S.par y (zQ J) with k | k
   . show .inl {k,XI I J hu k}
   . let{c,e}:=ae (n:=↥s+1) k;show .inr {.inl k,c,e,?_};let q:=x.cell y c e;rw[V4 I J hu (by change scope.names.lookup y≠_;rw[k];decide)] at q;show q
 . show e0.hok.fresh (CI (x.above y c (PySem.mem_of_lookup h)))
 . unfold EY;change _=N.length;rw[zK,zC,List.length_replicate]
   lia
def IG {CX:IX}{P:Program}{w:World}{K:AF}{mg:BO}{base:Heap}{k:Nat}{f:Addr}{name qual:Str}{params:Arguments}{body:List Stmt}{scope:Scope}{dV kV doc pm U ct oc:Value}{an od:Option Addr}
 {osl:Array (Option Value)}{N ps:List Str}{sp:Sp}(lk:K.lookup f=some {oc,od,.func (PySem.W.fnOf name qual params body scope dV kV doc pm an U ct),osl})(mf:PySem.W.codeIn K U qual=true)(S:AR N ps scope)
 (len:∀vs H Q E,sp vs H Q E->vs.length=ps.length)
 (km:∀A outer s H vs Q E,A6 k (A.deeper (envOfC qual scope ↥s f U))->sp vs H Q E ->
  ∃t,CC (C4 CX P w K mg base N qual scope f U A outer s H E) body t/\t { nx:=λ_ H'=>Q .non H',rt:=Q } (EY N vs) H):
 BY P w K mg base CX (k+1) f (PySem.W.fnOf name qual params body scope dV kV doc pm an U ct) ps sp:=by
 show{len,λA outer s H args us vs Q E hr e0 hb r mM=>?_};let hl:=len _ _ _ _ mM;let KX:K.In s.heap:=e0.mod.kin.keeps λb o e=>(e0.bs b o e).1;let lim:s.heap.NoLimit:=e0.mod.nolimit.keeps λb o e=>(e0.bs b o e).1;let hkind:∀y∈ps.zip us,scope.names.lookup y.1=some .local\/(scope.names.lookup y.1=some .cell/\((cellsFrom (↥s+1) scope.names []).lookup y.1).isSome=true):=λ⟨n,v⟩ hy=>by
  rcases S.par n (List.of_mem_zip hy).1 with q | q
  . show .inl q
  . show .inr {q,PySem.W.cellsFrom_some _ _ _ (.inl q)}
 show codeAny_call_function hr.depth (KX _ _ lk) rfl S.co S.gen rfl (PySem.W.codeRec_of KX mf) (hb _ _ _ _ ?_);show wpAny_newFunctionEnv_cells S.kind hkind λenv he s1 x=>?_;subst he;show{lim.keeps x.toInCall.keep,codeAny_func ?_};let{t,ht,hq}:=km A outer s H vs Q E (hr.deeper _) mM;let I:AA (C4 CX P w K mg base N qual scope f U A outer s H E) [] (EY N vs) H s1:=eM S hr.hd e0 hl r x;show BE (ht [] s1 (EY N vs) H _ I hq) (λfl s' hs=>?_) λe s' hs=>hs;let fin:∀{C:St}{H':Hp}{v:V}{u:Value},AA (C4 CX P w K mg base N qual scope f U A outer s H E) [] C H' s'->AM v u->Q v H'->CE outer P w H s Q u s':=
  λ{C H' v u} J rv q=>⟨v,H',J.os,J.bare,J.base,J.hok,rv,q⟩
 cases fl with
 | ret u=>let{v,C,H',J,rv,q}:=hs;show fin J rv q
 | next=>let{C,H',J,q}:=hs;show fin (v:=V.non) (u:=Value.none) J rfl q
 | brk=>let{_,2,q}:=hs;show False.elim q
 | cont=>let{_,2,q}:=hs;show False.elim q
section
variable {X:Cx}{x:Str}{p pos:Pos}{e:Expr}{es:List Expr}{t:TA}{id T:String}{r:List V->Hp->VK->Prop}
def ar (r:List V->Hp->VK->Prop)(t:TA):TE:=λσ H Q=>t σ H λo H1=>r o H1 Q
def Af (hc:Be X (.builtin id) r)(hm:X.mg x=none)(ha:PA X (e::es) t)(hg:autoParam (Gl X x) d_._auto_5)(hv:autoParam (bootBuiltins x=some (.builtin id)) d_._auto_7)(hn:x ≠ "__name__" := by decide) (U:autoParam ((x==("__debug__" : Str))=false) d_._auto_2)
 (he:autoParam (starEach (e::es) X.env=(false,eval e X.env)::starEach es X.env) d_._auto_5)(kK:autoParam ((backTo pos (starEach es X.env)).any (·.1)=false) d_._auto_5):PE X (.Call (.Name x p) (e::es) [] pos) (ar r t):=by
 intro pins s σ H Q I h;show Hd (ET I hg hm hv ?_ hn U);show PyProof.Rows.callWith_builtin1 (AI (ha pos pins s σ H _ I h) λus s1 ⟨o,H1,I1,C,J⟩=>hc pins s1 σ H1 o us Q I1 C J) he kK
def B5 (hc:Be X (.type T) r)(hm:X.mg x=none)(ha:PA X (e::es) t)(hg:autoParam (Gl X x) d_._auto_5)(hv:autoParam (bootBuiltins x=some (.type T)) d_._auto_7)(hn:x ≠ "__name__" := by decide) (U:autoParam ((x==("__debug__" : Str))=false) d_._auto_2)
 (he:autoParam (starEach (e::es) X.env=(false,eval e X.env)::starEach es X.env) d_._auto_5)(kK:autoParam ((backTo pos (starEach es X.env)).any (·.1)=false) d_._auto_5):PE X (.Call (.Name x p) (e::es) [] pos) (ar r t):=by
 intro pins s σ H Q I h;show Hd (ET I hg hm hv ?_ hn U);show PyProof.Rows.callWith_type1 (AI (ha pos pins s σ H _ I h) λus s1 ⟨o,H1,I1,C,J⟩=>hc pins s1 σ H1 o us Q I1 C J) he kK
end
section
variable {κ:Type} [DecidableEq κ]
meta def AW (kvs:List (κ×V))(k:κ):Option V:=(kvs.find? λo=>decide (o.1=k)).map (·.2)
meta def Ay (kvs:List (κ×V))(k:κ)(v:V):List (κ×V):=
 if (kvs.any λo=>decide (o.1=k))=true then kvs.map (λo=>if o.1=k then (o.1,v) else o) else kvs++[(k,v)]
def Yn :AW ([]:List (κ×V)) k=none:=rfl
def FG {k:κ}(e:p.1=k):AW (p::r) k=some p.2:=by simp[AW,HV,e]
def FV {k:κ}(e:¬ p.1=k):AW (p::r) k=AW r k:=by simp[AW,HV,e]
def Gf (k:κ):∀kvs:List (κ×V),(kvs.any λo=>decide (o.1=k))=(AW kvs k).isSome
 | []=>rfl
 | p::r=>by
  rw[List.any_cons];by_cases e:p.1=k
  . simp only[FG e,zO e,Bool.true_or,Option.isSome_some]
  . rw[FV e,zW e,Bool.false_or];show Gf k r
def ZL (k j:κ)(y):∀kvs:List (κ×V),AW (kvs.map λo=>if o.1=k then (o.1,y) else o) j=(AW kvs j).map λx=>if j=k then y else x
 | []=>rfl
 | p::r=>by
  let C:=ZL k j y r;rw[Bj];by_cases h:p.1=k
  . rw[if_pos h];by_cases e:p.1=j
    . rw[FG (p:=(p.1,y)) e,FG e,GV,if_pos (e.symm.trans h)]
    . rw[FV (p:=(p.1,y)) e,FV e,C]
  . rw[if_neg h];by_cases e:p.1=j
    . rw[FG (p:=p) e,FG e,GV,if_neg (λz=>h (e.trans z))]
    . rw[FV (p:=p) e,FV e,C]
def YE (k j:κ)(y):∀kvs:List (κ×V),AW kvs k=none->AW (kvs++[(k,y)]) j=if j=k then some y else AW kvs j
 | [],_=>by
  by_cases e:k=j
  . rw[if_pos e.symm];show FG (p:=(k,y)) e
  . rw[if_neg (λz=>e z.symm)];show FV (p:=(k,y)) e
 | p::r,o=>by
  rw[List.cons_append];let C:¬ p.1=k:=λz=>by rw[FG z] at o;ext o
  rw[FV C] at o;let I:=YE k j y r o;by_cases e:p.1=j
  . rw[FG e,FG e,if_neg (λz=>C (e.trans z))]
  . rw[FV e,FV e,I]
def Yc (kvs)(k j:κ)(y):AW (Ay kvs k y) j=if j=k then some y else AW kvs j:=by
 unfold Ay;by_cases a:(kvs.any λo=>decide (o.1=k))=true
 . rw[if_pos a,ZL];rw[Gf] at a;by_cases e:j=k
   . let{x,C}:=N3.mp a;rw[if_pos e,e,C,GV,if_pos rfl]
   . rw[if_neg e];cases AW kvs j with
     | none=>rfl
     | some x=>rw[GV,if_neg e]
 . rw[if_neg a];show YE k j y kvs ?_;rw[Gf] at a;cases q:AW kvs k with
   | none=>rfl
   | some x=>rw[q] at a;show (a rfl).elim
def JQ (kvs)(k:κ)(v):(Ay kvs k v).length<=kvs.length+1:=by
 unfold Ay;split
 . rw[zC];lia
 . rw[zK,zu,List.length_nil];lia
def Q3 {kvs:List (κ×V)}(v)(h:AW kvs k=none):Ay kvs k v=kvs++[(k,v)]:=by unfold Ay;rw[Gf,h];show if_neg (by decide)
def CV.isSome_eq (r:CV o u):o.isSome=u.isSome:=by
 cases o with
 | none=>cases u with
  | none=>rfl
  | some _=>show (show False from r).elim
 | some _=>cases u with
  | none=>show (show False from r).elim
  | some _=>rfl
def CV.getD (r:CV o u)(C:AM d d'):AM (o.getD d) (u.getD d'):=by
 cases o with
 | none=>cases u with
  | none=>show C
  | some _=>show (show False from r).elim
 | some _=>cases u with
  | none=>show (show False from r).elim
  | some _=>show r
def KV.val (r:KV kvs vs)(k:κ):CV (AW kvs k) (valueAt vs k):=by
 unfold KV at r
 induction r with
 | nil=>show True.intro
 | @cons p q ps qs h t ih=>
  let{C,I}:=h;by_cases e:p.1=k
  . let o:q.1=k:=C.symm.trans e;let b:valueAt (q::qs) k=some q.2:=by simp[valueAt,HV,o]
    rwa[FG e,b]
  . let o:¬ q.1=k:=λz=>e (C.trans z);let b:valueAt (q::qs) k=valueAt qs k:=by simp[valueAt,HV,o]
    rwa[FV e,b]
def KV.any (r:KV kvs vs)(k:κ):(kvs.any λo=>decide (o.1=k))=vs.any λo=>decide (o.1=k):=by
 unfold KV at r
 induction r with
 | nil=>rfl
 | cons h t C=>rw[List.any_cons,List.any_cons,C,h.1]
def KV.repl (r:KV kvs vs)(k:κ)(I:AM y u):
 KV (kvs.map λo=>if o.1=k then (o.1,y) else o) (vs.map λo=>if o.1=k then (o.1,u) else o):=by
 unfold KV at r ⊢
 induction r with
 | nil=>show .nil
 | @cons p q ps qs h t ih=>
  rw[Bj,Bj];show .cons ?_ ih;let{C,J}:=h;by_cases e:p.1=k
  . rw[if_pos e,if_pos (C.symm.trans e)];show⟨C,I⟩
  . rw[if_neg e,if_neg (λz=>e (C.trans z))];show⟨C,J⟩
def KV.put (r:KV kvs vs)(k:κ)(o:AM y u):KV (Ay kvs k y) (stored vs k u):=by
 unfold Ay stored;rw[r.any k];by_cases e:(vs.any λC=>decide (C.1=k))=true
 . rw[if_pos e,if_pos e];show r.repl k o
 . rw[if_neg e,if_neg e];show Paired.snoc r {0,o}
def KV.length {kvs:List (κ×V)}(r:KV kvs vs):kvs.length=vs.length:=Paired.length r
end
def JH (r:AM (kV k) u):(BG P w).is k u=true:=by
 cases k with
 | inl i=>let{t,e}:=(show ∃t,u=Value.int i t from r);subst e;show gG P w i t
 | inr x=>let{t,e}:=(show ∃t,u=Value.str x t from r);subst e;show gJ P w x t
def Xu :∀{ks:List AJ}{us:List Value},AK (ks.map kV) us->ItemsAre (BG P w) ks us
 | [],_,r=>by rw[List.map_nil] at r;ext r;show .nil
 | k::ks,_,r=>by
  rw[Bj] at r;cases r with
  | cons h t=>show .cons (JH h) (Xu t)
abbrev KT (H:Hp):List (List AJ×V)->List (List AJ×Addr×Value)->Prop:=Paired λp q=>p.1=q.1/\H q.2.1=some (.tup (p.1.map kV))/\AM p.2 q.2.2
def KT.val (r:KT H kvs xs)(k):CV (AW kvs k) ((atKey xs k).map (·.2)):=by
 induction r with
 | nil=>show True.intro
 | @cons p q ps qs h t ih=>
  let{C,_,I}:=h;by_cases e:p.1=k
  . let o:q.1=k:=C.symm.trans e;let b:atKey (q::qs) k=some q.2:=by simp[atKey,HV,o]
    rwa[FG e,b]
  . let o:¬ q.1=k:=λz=>e (C.trans z);let b:atKey (q::qs) k=atKey qs k:=by simp[atKey,HV,o]
    rwa[FV e,b]
def KT.repl (r:KT H kvs xs)(k)(J:AM y u):
 KT H (kvs.map λC=>if C.1=k then (C.1,y) else C) (xs.map (putAt k u)):=by
 induction r with
 | nil=>show .nil
 | @cons p q ps qs h t ih=>
  rw[Bj,Bj];show .cons ?_ ih;let{o,I,U}:=h;unfold putAt;by_cases e:p.1=k
  . rw[if_pos e,if_pos (o.symm.trans e)];show⟨o,I,J⟩
  . rw[if_neg e,if_neg (λz=>e (o.trans z))];show⟨o,I,U⟩
def KT.put (r:KT H kvs xs)(k)(hb:H b=some (.tup (k.map kV)))(o:AM y u):
 KT H (Ay kvs k y) (storedH xs k b u):=by
 let e:(kvs.any λC=>decide (C.1=k))=(atKey xs k).isSome:=by rw[Gf,(r.val k).isSome_eq,Option.isSome_map]
 unfold Ay storedH;rw[e];by_cases q:(atKey xs k).isSome=true
 . rw[if_pos q,if_pos q];show r.repl k o
 . rw[if_neg q,if_neg q];show Paired.snoc r {0,hb,o}
def KT.keeps (r:KT H kvs xs)(o:∀b ys,H b=some (.tup ys)->H' b=some (.tup ys)):KT H' kvs xs:=
 Paired.mapP r λ_ _ z=>{z.1,o _ _ z.2.1,z.2.2}
def Ie (ok:Aq P w H h)(e:Rd H a u):Av P w H h a u:=e.ok ok
def Jd (ok:Aq P w H h)(e:Rd H a (.dK kvs)):kvs.length<=sizeLine/\(a==sysModules)=false/\∃vs,KV kvs vs/\h.DictOf (BG P w) a vs:=
 show Av P w H h a (.dK kvs) from Ie ok e
def IH (ok:Aq P w H h)(e:H a=some (.dK kvs)):kvs.length<=sizeLine/\(a==sysModules)=false/\∃vs,KV kvs vs/\h.DictOf (BG P w) a vs:=Jd ok (.inl e)
def Mp (ok:Aq P w H h)(e:H a=some (.tup (ks.map kV))):(tupleKind (BG P w)).is h ks a:=by let{_,its,r,o,J,I,n,C}:=(show Av P w H h a (.tup (ks.map kV)) from ok a _ e);show{o,its.toArray,n,J,I,C,by simpa using Xu r}
def Jb (ok:Aq P w H h)(e:Rd H a (.dT kvs)):kvs.length<=sizeLine/\(a==sysModules)=false /\
 ∃xs,KT H kvs xs/\h.DictOfH (tupleKind (BG P w)) a xs:=by
 let{z,y,xs,r,o,es,ep,h1,U,J,I,C}:=(show Av P w H h a (.dT kvs) from Ie ok e);show{z,y,xs,r,o,es,ep,h1,U,J,I,λx hx=>?_,C};let all:∀{l:List (List AJ×V)}{m:List (List AJ×Addr×Value)},KT H l m->∀x∈m,(tupleKind (BG P w)).is h x.1 x.2.1:=by
  intro l m q
  induction q with
  | nil=>intro x hx;show nomatch hx
  | @cons p q ps qs hq t ih=>
   intro x hx;rcases za.mp hx with e | hx
   . subst e;show Mp ok (by rw[<-hq.1];show hq.2.1)
   . show ih x hx
 show all r x hx
def OZ (ok:Aq P w H h)(e:H a=some (.dT kvs)):kvs.length<=sizeLine/\(a==sysModules)=false /\
 ∃xs,KT H kvs xs/\h.DictOfH (tupleKind (BG P w)) a xs:=Jb ok (.inl e)
def Az (H:Hp)(a:Addr)(y:V)(r:Option V):Prop:=
 (∃kvs k,Rd H a (.dK kvs)/\y=kV k/\r=AW kvs k)\/∃kvs k b,Rd H a (.dT kvs)/\y=.ref b/\H b=some (.tup (k.map kV))/\r=AW kvs k
def E6 (H:Hp)(a:Addr)(y v:V)(H':Hp):Prop:=
 (∃kvs k,H a=some (.dK kvs)/\y=kV k/\kvs.length<sizeLine/\H'=upd H a (.dK (Ay kvs k v))) \/
 ∃kvs k b,H a=some (.dT kvs)/\y=.ref b/\H b=some (.tup (k.map kV))/\kvs.length<sizeLine/\H'=upd H a (.dT (Ay kvs k v))
def Az.k {k:AJ}(e:H a=some (.dK kvs)):Az H a (kV k) (AW kvs k):=.inl {kvs,k,.inl e,3}
def Az.t {k:List AJ}(e:H a=some (.dT kvs))(o:H b=some (.tup (k.map kV))):Az H a (.ref b) (AW kvs k):=.inr {kvs,k,b,.inl e,0,o,0}
def E6.k {k:AJ}(e:H a=some (.dK kvs))(o:kvs.length<sizeLine):E6 H a (kV k) v (upd H a (.dK (Ay kvs k v))):=.inl {kvs,k,e,0,o,0}
def E6.t {k:List AJ}(e:H a=some (.dT kvs))(C:H b=some (.tup (k.map kV)))(o:kvs.length<sizeLine):
 E6 H a (.ref b) v (upd H a (.dT (Ay kvs k v))):=.inr {kvs,k,b,e,0,C,o,0}
def AA.big (I:AA X pins σ H s):sysModules<↥s:=by let h:mainGlobals<↥s:=(I.mod.glob.keeps I.bk).lt;show Cb (by decide) h
def iL (hu:A.units+1<cLine)(I:AA X pins σ H s)(g:Az H a y (some v))(ry:AM y u)(h:∀C s',AA X pins σ H s'->AM v C->Q C s'):
 wpAny (model X.prog X.w) A (getItem (.ref a) u) Q E s:=by
 rcases g with ⟨kvs,k,e,U,l⟩ | ⟨kvs,k,b,e,U,eb,l⟩
 . subst U;let{z,hd,vs,rel,dd}:=Jd I.hok e;let{C,hw,J}:=CV.some_of (v:=v) (o:=valueAt vs k) (by rw[l];show rel.val k);show wpAny_getItem_of (JH ry) dd.mapOf hw (h C _ (I.tok _) J)
 . subst U;cases (show u=Value.ref b from ry);let{z,hd,xs,rel,dd}:=Jb I.hok e;let{C,hw,J}:=CV.some_of (v:=v) (o:=(atKey xs k).map (·.2)) (by rw[l];show rel.val k);let{p,hp,kM}:=Option.map_eq_some_iff.mp hw;show wpAny_getItem_heap (tupleKind_room_in1 hu) (Mp I.hok eb) dd hp ?_;rw[kM];show h C _ (I.tok _) J
def UN (hu:A.units+1<cLine)(I:AA X pins σ H s)(g:Az H a y o)(U:AM y u)(h:∀s',AA X pins σ H s'->Q (.bool o.isSome) s'):
 wpAny (model X.prog X.w) A (compareOp .In u (.ref a)) Q E s:=by
 rcases g with ⟨kvs,k,e,C,l⟩ | ⟨kvs,k,b,e,C,eb,l⟩
 . subst C;let{z,hd,vs,rel,J}:=Jd I.hok e;show wpAny_in_of (JH U) hd J.mapOf ?_;rw[<-(rel.val k).isSome_eq,<-l];show h _ (I.tok _)
 . subst C;cases (show u=Value.ref b from U);let{z,hd,xs,rel,J}:=Jb I.hok e;show wpAny_in_heap (tupleKind_room_in1 hu) (Mp I.hok eb) hd J ?_;let q:=(rel.val k).isSome_eq;rw[Option.isSome_map] at q;rw[<-q,<-l];show h _ (I.tok _)
def iz (hu:A.units+1<cLine)(I:AA X pins σ H s)(g:Az H a y o)(U:AM y u)(h:∀s',AA X pins σ H s'->Q (.bool (!o.isSome)) s'):
 wpAny (model X.prog X.w) A (compareOp .NotIn u (.ref a)) Q E s:=by
 rcases g with ⟨kvs,k,e,C,l⟩ | ⟨kvs,k,b,e,C,eb,l⟩
 . subst C;let{z,hd,vs,rel,J}:=Jd I.hok e;show wpAny_notIn_of (JH U) hd J.mapOf ?_;rw[<-(rel.val k).isSome_eq,<-l];show h _ (I.tok _)
 . subst C;cases (show u=Value.ref b from U);let{z,hd,xs,rel,J}:=Jb I.hok e;show wpAny_notIn_heap (tupleKind_room_in1 hu) (Mp I.hok eb) hd J ?_;let q:=(rel.val k).isSome_eq;rw[Option.isSome_map] at q;rw[<-q,<-l];show h _ (I.tok _)
def Yj (I:AA X pins σ H s)(o:IC (H a))(C:Heap.SameBut a s.heap h')(he:∃q,h'.get? a=some q)(new:Av X.prog X.w (upd H a ob) h' a ob):
 AA X pins σ (upd H a ob) { s with heap:=h',toks:=t' }:=
 I.write (x:=a) (e:=a) o (.inl rfl) (λb q hb z=>(C.2 b hb).trans z) he new
def ZD (z:kvs.length<=sizeLine)(hd:(a==sysModules)=false)(rel:KV kvs vs)(o:h'.DictOf (BG P w) a vs):
 Av P w H' h' a (.dK kvs):=⟨z,hd,vs,rel,o⟩
def gT (hu:A.units+1<cLine)(I:AA X pins σ H s)(g:E6 H a y v H')(ry:AM y u)(rv:AM v r)(h:∀s',AA X pins σ H' s'->Q Unit.unit s'):
 wpAny (model X.prog X.w) A (setItem (.ref a) u r) Q E s:=by
 rcases g with ⟨kvs,k,e,ey,l,eH⟩ | ⟨kvs,k,b,e,ey,eb,l,eH⟩
 . subst ey eH;let{z,hd,vs,rel,dd}:=IH I.hok e;let J:vs.length<=sizeLine:=by rwa[<-rel.length]
   let hl:(Ay kvs k v).length<=sizeLine:=by let:=JQ kvs k v;lia
   show wpAny_setItem_pairs (hsz:=J) (JH ry) dd λh' o U=>h _ ?_;let he:∃q,h'.get? a=some q:=let {q,2,C,_}:=o;⟨q,C⟩;show Yj I (by rw[e];show True.intro) U he (ZD hl hd (rel.put k rv) o)
 . subst ey eH;cases (show u=Value.ref b from ry);let{z,hd,xs,rel,dd}:=OZ I.hok e;let J:xs.length<=sizeLine:=by rwa[<-Paired.length rel]
   let hl:(Ay kvs k v).length<=sizeLine:=by let:=JQ kvs k v;lia
   show wpAny_setItem_heap (hsz:=J) (tupleKind_room_in1 hu) (Mp I.hok eb) dd λh' o U=>h _ ?_;let{q,es,ep,C,h2,h3,h4,_,h5}:=o;show Yj I (by rw[e];show True.intro) U ⟨q,C⟩ {hl,hd,_,(rel.put k eb rv).keeps λc ys ec=>?_,q,es,ep,C,h2,h3,h4,h5};rwa[zi (BA ec e (λz=>nomatch z))]
def O8 (i:Expr):Prop:=∀o C,subscripted i false o C=operate [o,C] (getItem o C)
def eT {id:String}
 (hl:typeLookup (.type T) "__getitem__"=pure (some (.builtin id))) (hs:O8 slice)
 (h:wpAny ∅ A (eval value env) (λo U=>wpAny ∅ A (eval slice env) (λi C=>C.TypeIs o T/\wpAny ∅ A (getItem o i) Q E C) E U) E s):
 wpAny ∅ A (eval (.Subscript value slice pos) env) Q E s:=by
 show Subscript_ (BE h (λo U h₁=>BE h₁ (λi C I=>?_) λ_ _ x=>x) λ_ _ x=>x);let{hT,I}:=I;unfold subscriptTail;show zA ?_;rw[getitemInPython_of_ne hT.not_modules];show zA (wpAny_specialOf hT hl ?_);let fin:wpAny ∅ A (subscripted slice false o i) (λr J=>wpAny ∅ A (letTemporaryGo value o r >>= λ_=>pure r) Q E J) E C:=by rw[hs o i];show wpAny_operating (BE I (λr J h₃=>zA (wpAny_letTemporaryGo (zG h₃))) λ_ _ x=>x)
 first
  | show zG (zA fin)
  | show zA (zG (zA fin))
  | show zA fin
def gS (I:AA X pins σ H s)(g:Az H a y o):s.TypeIs (.ref a) "dict" := by
 rcases g with ⟨kvs,k,e,_,_⟩ | ⟨kvs,k,b,e,_,_,_⟩
 . let{2,J,_,C}:=Jd I.hok e;show C.typeIs
 . let{2,xs,_,C}:=Jb I.hok e;show C.typeIs
inductive aG (Q:VK)(x:V)(y:V)(H2:Hp):Prop
 | mk:∀a v,(x=.ref a)->(Az H2 a y (some v))->(Q v H2)->aG Q x y H2
def IW (o ty:TE):TE:=λσ H Q=>o σ H λx H1=>ty σ H1 λy H2=>aG Q x y H2
inductive Vg (Q:VK)(y:V)(x:V)(H2:Hp):Prop
 | mk:∀a o,(x=.ref a)->(Az H2 a y o)->(Q (.bl o.isSome) H2)->Vg Q y x H2
def Uk (ty o:TE):TE:=λσ H Q=>ty σ H λy H1=>o σ H1 λx H2=>Vg Q y x H2
inductive af (Q:VK)(y:V)(x:V)(H2:Hp):Prop
 | mk:∀a o,(x=.ref a)->(Az H2 a y o)->(Q (.bl (!o.isSome)) H2)->af Q y x H2
def cV (ty o:TE):TE:=λσ H Q=>ty σ H λy H1=>o σ H1 λx H2=>af Q y x H2
inductive aF (D:DC)(σ:St)(v:V)(x:V)(y:V)(H3:Hp):Prop
 | mk:∀a H4,(x=.ref a)->(E6 H3 a y v H4)->(D.nx σ H4)->aF D σ v x y H3
def Oz (o ty tv:TE):TS:=λD σ H=>tv σ H λv H1=>o σ H1 λx H2=>ty σ H2 λy H3=>aF D σ v x y H3
def Ep (hu:X.A.units+1<cLine)(ho:PE X o td)(hi:PE X i ty)(hs:O8 i):PE X (.Subscript o i pos) (IW td ty):=by intro pins s σ H Q I h;show eT PySem.F.slot_dict_getitem.lookup hs (AI (ho pins s σ H _ I h) λu s1 ⟨x,H1,I1,U,q1⟩=>AI (hi pins s1 σ H1 _ I1 q1) λiv s2 ⟨y,H2,C,J,a,v,ex,g,q2⟩=>?_);subst ex;obtain rfl:u=Value.ref a:=U;show{gS C g,iL hu C g J λw' s3 I3 mw=>⟨v,H2,I3,mw,q2⟩}
def Nw (hu:X.A.units+1<cLine)(hi:PE X i ty)(ho:PE X o td):PC X .In i o (Uk ty td):=by intro pins s σ H Q I h;show AI (hi pins s σ H _ I h) λiv s1 ⟨y,H1,I1,C,q1⟩=>AI (ho pins s1 σ H1 _ I1 q1) λu s2 ⟨x,H2,I2,J,a,ov,ex,g,U⟩=>?_;subst ex;obtain rfl:u=Value.ref a:=J;show UN hu I2 g C λs3 I3=>{.bl ov.isSome,H2,I3,0,U}
def Sv (hu:X.A.units+1<cLine)(hi:PE X i ty)(ho:PE X o td):PC X .NotIn i o (cV ty td):=by intro pins s σ H Q I h;show AI (hi pins s σ H _ I h) λiv s1 ⟨y,H1,I1,C,q1⟩=>AI (ho pins s1 σ H1 _ I1 q1) λu s2 ⟨x,H2,I2,J,a,ov,ex,g,U⟩=>?_;subst ex;obtain rfl:u=Value.ref a:=J;show iz hu I2 g C λs3 I3=>{.bl (!ov.isSome),H2,I3,0,U}
def Nb (hu:X.A.units+1<cLine)(ho:PE X o td)(hi:PE X i ty)(hv:PE X value tv)(hs:swapsWith value (some (.Subscript o i pos')) pos.line X.env=pure false):
 PS X (.Assign [.Subscript o i pos'] value pos) (Oz td ty tv):=by
 intro pins s σ H D I h;show wpAny_Assign_Subscript (AI (hv pins s σ H _ I h) λr s1 ⟨v,H1,I1,U,q1⟩=>AI (ho pins s1 σ H1 _ I1 q1) λu s2 ⟨x,H2,I2,J,q2⟩=>AI (hi pins s2 σ H2 _ I2 q2) λiv s3 ⟨y,H3,I3,C,a,H4,ex,g,q3⟩=>?_) hs;subst ex;obtain rfl:u=Value.ref a:=J;show gT hu I3 g C U λs4 I4=>⟨σ,H4,I4,q3⟩
def gQ (h:Heap)(hb:sysModules<h.objs.size):Av P w H (h.push { cls:=.type "dict",data:=.dict #[] }) h.objs.size (.dT []):=
 ⟨zj _,beq_eq_false_iff_ne.mpr (Ne.symm (zh hb)),[],.nil,_,#[],0,zR _ rfl,{0,3},rfl,rfl,List.nodup_nil⟩
def Kw:TE:=λ_ H Q=>∀p,H p=none->Q (.ref p) (upd H p (.dT []))
def Yi:PE X (.Dict [] [] pos) Kw:=λpins s σ H Q I h=>
 wpAny_Dict_empty {.ref ↥s,_,I.laid (a:=↥s) (o:=.dT []) (t':=s.toks) (λ_ _ q=>zL _ q) (zJ _) (gQ s.heap I.big),0,h _ (I.hok.fresh (zJ _))}
structure M1 (X:Cx)(o:Expr)(m:Str)(apos:Pos)(e:Expr)(jw:Pos):Prop where
 base:attributeBase o m X.env (eval o X.env)=eval o X.env
 few:((backTo jw (starEach [e] X.env)).all (λx=>!x.1) && (backToKw jw (keywordEach [] X.env)).all (λx=>x.1.isSome)
  && decide (([e]:List Expr).length+([]:List Keyword).length+(if ([]:List Keyword).isEmpty then 0 else 1)<30))=true
 line:(apos.endLine==jw.line)=true
 trees:backTo jw (starEach [e] X.env)=[(false,eval e X.env)]
def IsD (H:Hp)(a:Addr):Prop:=(∃kvs,Rd H a (.dK kvs))\/∃kvs,Rd H a (.dT kvs)
def MR (I:AA X pins σ H s)(d:IsD H a):
 s.TypeIs (.ref a) "dict"/\(∀b,Value.ref a=.ref b->∃o,s.heap.get? b=some o/\o.dict=none)/\(a==sysModules)=false:=by
 rcases d with ⟨kvs,e⟩ | ⟨kvs,e⟩
 . let{_,hd,vs,_,C}:=Jd I.hok e;show{C.typeIs,λb q=>?_,hd};ext q;let{o,2,U,J,_}:=C;show⟨o,U,J.2.1⟩
 . let{_,hd,xs,_,C}:=Jb I.hok e;show{C.typeIs,λb q=>?_,hd};ext q;let{o,2,U,J,_}:=C;show⟨o,U,J.2.1⟩
def MM (hu:A.units+1<cLine)(I:AA X pins σ H s)(g:Az H a y o)(ry:AM y u)(h:∀U s',AA X pins σ H s'->AM (o.getD .non) U->Q U s'):
 wpAny (model X.prog X.w) A (call (.builtin "dict.get") [.ref a,u]) Q E s:=by
 rcases g with ⟨kvs,k,e,J,l⟩ | ⟨kvs,k,b,e,J,eb,l⟩
 . subst J;let{z,hd,vs,rel,C}:=Jd I.hok e;show call_meetsIn PySem.F.slot_dict_get C.typeIs PySem.F.entry_dict_get (PySem.F.args_dict_get_2 _ _) (meets_dict_get (BG X.prog X.w) a (JH ry) hd) {_,C.mapOf,h _ _ (I.tok _) ?_};rw[l];show (rel.val k).getD rfl
 . subst J;cases (show u=Value.ref b from ry);let{z,hd,xs,rel,C}:=Jb I.hok e;show call_meetsIn PySem.F.slot_dict_get C.typeIs PySem.F.entry_dict_get (PySem.F.args_dict_get_2 _ _) (meetsH_dict_get (tupleKind (BG X.prog X.w)) a b hd) {tupleKind_room_in1 hu,k,xs,Mp I.hok eb,C,h _ _ (I.tok _) ?_};rw[l];show (rel.val k).getD rfl
inductive aS (ty:TE)(σ:St)(Q:VK)(x:V)(H1:Hp):Prop
 | mk:∀a,(x=.ref a)->(IsD H1 a)->(ty σ H1 λy H2=>∃o,Az H2 a y o/\Q (o.getD .non) H2)->aS ty σ Q x H1
def Ld (o ty:TE):TE:=λσ H Q=>o σ H λx H1=>aS ty σ Q x H1
def bu (hu:X.A.units+1<cLine)(ho:PE X o td)(he:PE X e ty)(m:M1 X o "get" apos e jw):PE X (.Call (.Attribute o "get" apos) [e] [] jw) (Ld td ty):=by intro pins s σ H Q I h;show wpAny_Call_method m.base m.few m.line PySem.F.plainAttrs_dict PySem.F.slot_dict_get PySem.F.type_dict_get (AI (ho pins s σ H _ I h) λu s1 ⟨x,H1,C,rx,a,ex,d,q1⟩=>?_);subst ex;obtain rfl:u=Value.ref a:=rx;let{t1,J,_}:=MR C d;show{t1,J,?_};rw[m.trees];show Calls.callWith_builtin rfl (Calls.evalArgs_plain (Calls.spliced_cons (AI (he pins s1 σ H1 _ C q1) λiv s2 ⟨y,H2,I2,U,ov,g,q2⟩=>Calls.spliced_nil ?_)));show MM hu I2 g U λw' s3 I3 mw=>{_,H2,I3,mw,q2}
end L2
namespace HT
open PySem PyProof.Rows
meta def lexLt:List Int->List Int->Bool
 | [],[]=>false
 | [],_::_=>true
 | _::_,[]=>false
 | x::xs,y::ys=>if x=y then lexLt xs ys else decide (x<y)
def lexLt_cons (x y)(xs ys):lexLt (x::xs) (y::ys)=if x=y then lexLt xs ys else decide (x<y):=rfl
def fq:lexLt [] []=false:=rfl
def fj (y)(ys):lexLt [] (y::ys)=true:=rfl
def dz (x)(xs):lexLt (x::xs) []=false:=rfl
def bz (A)(s)(a)(t:Tok)(c)(u:Tok):∃e,SeqAt.EqAt A s (.int a t) (.int c u) e/\(e=true↔a=c):=
 {(a==c),SeqAt.EqAt.int_int a t c u,by simp}
def jD (A)(s)(a)(t:Tok)(c)(u:Tok)(prog)(w)(E)(Q)(h:Q (.bool (decide (a<c))) s):
 wpAny ∅ A (richCompare .Lt (.int a t) (.int c u)) Q E s:=
 (PyProof.Rows.lt_int h:wpAny ∅ A (compareOp .Lt (.int a t) (.int c u)) Q E s)
section
open PySem.SeqAt
open PySem.AutoSeq1 (wpAny_loadPart')
open PySem.MeetsSeq PySem.MeetsSeq2 PySem.MeetsSeq3
def dA (l b)(items items2)(n n2)(dd dd2)(sl mj)(ns ms)(hi:IntsAre items.toList ns)(hj:IntsAre items2.toList ms):
 Meets (Builtin.«tuple.__lt__» {[.ref l,.ref b],[]})
  (λ_ R s=>s.heap.get? l=some { cls:=.type "tuple",dict:=dd,data:=.seq items n,slots:=sl }/\s.heap.get? b=some { cls:=.type "tuple",dict:=dd2,data:=.seq items2 n2,slots:=mj } /\
   R (.ok (.ret (.bool (lexLt ns ms)))) s):=
 .of_wp λprog w A R s h=>by
  let{hp,g,d,tk,os}:=s;let{hl,hb,h}:=h;let f2:=AutoSeq1.sub_tuple_tuple;let z1:items.size=ns.length:=by rw[<-hi.length];simp
  let z2:items2.size=ms.length:=by rw[<-hj.length];simp
  wp_walk using wpAny_loadPart' hl,wpAny_loadPart' hb,wpAny_forIn_list _ (λrest b s'=>b.1=none/\s'=⟨hp,g,d,tk,os⟩/\∃(vs ws:List Value)(o C:List Int),rest=vs.zip ws /\
   IntsAre vs o/\IntsAre ws C/\o.length+items2.size=C.length+items.size/\R (.ok (.ret (.bool (lexLt o C)))) ⟨hp,g,d,tk,os⟩) _
  case turn=>
   rintro ⟨y,x⟩ rest b s' ⟨kS,rfl,vs,ws,o,C,I,hvi,J,hlen,hR⟩;cases hvi with
   | nil=>rw[List.zip_nil_left] at I;ext I
   | cons a t hvi'=>
    cases J with
    | nil=>rw[List.zip_nil_right] at I;ext I
    | cons c u hwi'=>
     rw[List.zip_cons_cons] at I;injection I with hyx lC;injection hyx with hy hx;subst hy hx;rw[lexLt_cons] at hR;simp only[zu] at hlen;let{e,he,U}:=bz A.in1 ⟨hp,g,d,tk,os⟩ a t c u;show zA (he prog w _ _ ?_);cases e with
     | true=>
      rw[if_pos (U.mp rfl)] at hR
      wp_walk
      show{3,8,lC,hvi',hwi',(),hR}
     | false=>
      rw[if_neg (λq=>absurd (U.mpr q) zq)] at hR;let hri:=jD A.in1 ⟨hp,g,d,tk,os⟩ a t c u prog w
      wp_walk using hri
      show{1,‹hR›}
  case fin=>
   rintro ⟨b1,b2⟩ s' ⟨kS,rfl,vs,ws,o,C,I,hvi,J,hlen,hR⟩;simp only at kS;subst kS;let hv:lexLt o C=decide (items.size<items2.size):=by
    cases hvi with
    | nil=>
     cases J with
     | nil=>simp only[List.length_nil] at hlen;rw[fq];show (zW ()).symm
     | cons c u hw=>simp only[List.length_nil,zu] at hlen;rw[fj];show (zO ()).symm
    | cons a t hv=>
     cases J with
     | nil=>simp only[List.length_nil,zu] at hlen;rw[dz];show (zW ()).symm
     | cons c u hw=>rw[List.zip_cons_cons] at I;ext I
   rw[hv] at hR
   wp_walk
   show{1,by simpa [Builtin.Tuple.tupleCompareSizes] using hR}
  case h=>
   show{3,items.toList,items2.toList,ns,ms,0,hi,hj,(),h}
end
def lt_tupInts (hl:IsTup s.heap l items)(hb:IsTup s.heap b items2)(hi:IntsAre items.toList ns)(hj:IntsAre items2.toList ms)
 (hu:A.units<cLine)(h:Q (.bool (lexLt ns ms)) s):wpAny ∅ A (compareOp .Lt (.ref l) (.ref b)) Q E s:=by
 let{{cls,dd,data,sl},J,U,n,hd}:=id hl;let{{cls2,o,data2,mj},I,C,n2,hd2}:=id hb;simp only at U hd C hd2;subst U hd C hd2;show richCompare_meets_room (op:=.Lt) {_,J,0} {_,I,0} PySem.F.slot_tuple_lt PySem.F.entry_tuple_lt (PySem.F.args_tuple_lt_2 _ _) (dA l b items items2 n n2 dd o sl mj ns ms hi hj)
  ⟨J,I,show Value.bool (lexLt ns ms)≠Value.notImplemented/\Q (.bool (lexLt ns ms)) s from {(λx=>nomatch x),h}⟩ hu
def cat_tup (ht:IsTup s.heap t vs.toArray)(hb:IsTup s.heap b ws.toArray)(hv:vs≠[])
 (h1:ws=[]->Q (.ref t) s)(h2:ws≠[]->Q (.ref ↥s) { s with heap:=s.heap.push { cls:=.type "tuple",data:=.seq (vs++ws).toArray } })
 (hsz:vs.length+ws.length<=sizeLine):wpAny ∅ A (binaryOp .Add (.ref t) (.ref b)) Q E s:=by
 let{{cls,dd,data,J},I,hc,n,hd}:=id ht;let{{cls2,o,data2,mj},C,U,n2,hd2}:=id hb;simp only at hc hd U hd2;subst hc hd U hd2;let e:vs.toArray++ws.toArray=(vs++ws).toArray:=by simp
 by_cases hw:ws=[]
 . show concat_meets {_,I,0} {_,C,0} noFill_tuple_add seq_tuple_add PySem.F.slot_tuple_add PySem.F.entry_tuple_add (PySem.F.args_tuple_add_2 _ _)
    (tuple_addW1 t b vs.toArray ws.toArray n n2 dd o J mj ‹hv› (by simp[hw])) {I,C,h1 hw}
 . show concat_meets {_,I,0} {_,C,0} noFill_tuple_add seq_tuple_add PySem.F.slot_tuple_add PySem.F.entry_tuple_add (PySem.F.args_tuple_add_2 _ _)
    (tuple_addW2 t b vs.toArray ws.toArray n n2 dd o J mj ‹hv› ‹hw› (by rwa[zU,zU])) {I,C,?_}
   rw[e];show h2 hw
meta def sIx (n d:Nat):Option Int->Nat
 | none=>d
 | some v=>if v<0 then (v+(n:Int)).toNat else min v.toNat n
def sIx_none (n d):sIx n d none=d:=rfl
def sIx_nat (n d k:Nat):sIx n d (some (k:Int))=min k n:=by
 change (if (k:Int)<0 then ((k:Int)+(n:Int)).toNat else min (k:Int).toNat n)=min k n
 rw[if_neg (),B4]
def K6 (n d)(hd:d<=n)(o):sIx n d o<=n:=by
 cases o with
 | none=>show hd
 | some v=>
  change (if v<0 then (v+(n:Int)).toNat else min v.toNat n)<=n
  by_cases C:v<0
  . rw[if_pos C];lia
  . rw[if_neg C];show Nat.min_le_right _ _
def mn {n:Nat}(o:¬v<0):min v (n:Int)=((min v.toNat n:Nat):Int):=by
 let z:=Int.not_lt.mp o;by_cases h:v<=n
 . rw[Int.min_eq_left h,Nat.min_eq_left (Int.toNat_le.mpr h),Int.toNat_of_nonneg z]
 . let h:=Int.le_of_not_le h;rw[Int.min_eq_right h,Nat.min_eq_right ((Int.le_toNat z).mpr h)]
def aJ (v)(n d:Nat):(if v<0 then max (v+(n:Int)) 0 else min v (n:Int))=((sIx n d (some v):Nat):Int):=by
 change (if v<0 then max (v+(n:Int)) 0 else min v (n:Int))=(((if v<0 then (v+(n:Int)).toNat else min v.toNat n):Nat):Int)
 by_cases o:v<0
 . simp only[if_pos o];lia
 . simp only[if_neg o];show mn o
def bP (lo hi) (n:Nat):Builtin.Slice.sliceAdjust lo hi 1 (n:Int)=(((sIx n 0 lo:Nat):Int),((sIx n n hi:Nat):Int)):=by
 let o:¬ ((1:Int)<0):=()
 unfold Builtin.Slice.sliceAdjust;simp only[o,if_false];show Prod.ext ?_ ?_
 . cases lo with
   | none=>rfl
   | some v=>show aJ v n 0
 . cases hi with
   | none=>rfl
   | some v=>show aJ v n n
def cY (i j:Nat):Builtin.Slice.slicePlaces (i:Int) (j:Int) 1=j-i:=by
 unfold Builtin.Slice.slicePlaces;let o:(1:Int) > 0:=()
 simp only[o,if_true,Int.ediv_one];split <;> lia
def YR (p:IsPart v o) (h:Q o s):wpAny ∅ A (Builtin.Slice.slicePartIndex v) Q E s:=by
 cases p with
 | none=>show slicePart_none h
 | int i t=>show slicePart_int h
def ZF {lo:Option Int}{Q:Int×Int×Nat->Shared->Prop}(J:s.heap.IsSliceOf sl vl vu .none)(I:IsPart vl lo)(pu:IsPart vu hi)
 (h:Q (((sIx n 0 lo:Nat):Int),1,sIx n n hi-sIx n 0 lo) s):wpAny ∅ A (Builtin.Slice.sliceApplied (.ref sl) (pure (n:Int))) Q E s:=by
 let{os,o,U,C}:=id J;unfold Builtin.Slice.sliceApplied Builtin.Slice.sliceFields;show zA (zA (Cz o C (x:=vl) rfl (zA (Cz o C (x:=vu) rfl (zA (Cz o C (x:=.none) rfl (zG ?_)))))));show zA (slicePart_none ?_);change wpAny _ _ (if ((1:Int)==0)=true then _ else _) _ _ s
 rw[if_neg (by decide)];show zA (YR I (zA (YR pu (zA (zG ?_)))));change wpAny _ _ (match Builtin.Slice.sliceAdjust lo hi 1 (n:Int) with | (lo,hi)=>pure (lo,(1:Int),Builtin.Slice.slicePlaces lo hi 1)) _ _ s
 rw[bP lo hi n];change wpAny _ _ (pure (((sIx n 0 lo:Nat):Int),(1:Int),Builtin.Slice.slicePlaces ((sIx n 0 lo:Nat):Int) ((sIx n n hi:Nat):Int) 1)) _ _ s;rw[cY];show zG h
def iw (xs:Array Value)(i k:Nat):((List.range k).filterMap λ(m:Nat)=>xs[((i:Int)+(m:Int)*1).toNat]?).toArray=((xs.toList.drop i).take k).toArray:=by
 let e:(λ(m:Nat)=>xs[((i:Int)+(m:Int)*1).toNat]?)=λm=>xs[i+m]?:=by
  funext m;let:((i:Int)+(m:Int)*1).toNat=i+m:=()
  rw[this]
 rw[e];let:=pick_run xs i k;rw[List.filterMap_map] at this;let o:((λx=>xs[x]?)∘λx=>i+x)=λm=>xs[i+m]?:=rfl;rw[o] at this;rw[this]
def getItem_tuple_cut {lo:Option Int}(C:IsTup s.heap t items)(U:s.heap.IsSliceOf sl vl vu .none)(pl:IsPart vl lo)(pu:IsPart vu hi)
 (hw:¬ (sIx items.size 0 lo=0/\sIx items.size items.size hi=items.size))
 (h:Q (.ref ↥s) { s with heap:=s.heap.push { cls:=.type "tuple",data:=.seq ((items.toList.drop (sIx items.size 0 lo)).take (sIx items.size items.size hi-sIx items.size 0 lo)).toArray } })
 (hsz:items.size<=sizeLine):wpAny ∅ A (getItem (.ref t) (.ref sl)) Q E s:=by
 let o:sizeOk (.seq ((items.toList.drop (sIx items.size 0 lo)).take (sIx items.size items.size hi-sIx items.size 0 lo)).toArray):=by change ((items.toList.drop (sIx items.size 0 lo)).take (sIx items.size items.size hi-sIx items.size 0 lo)).toArray.size<=sizeLine;rw[zU,ze,FP,Array.length_toList];show BC (Nat.min_le_right _ _) (BC (Nat.sub_le _ _) hsz)
 let hj:sIx items.size items.size hi<=items.size:=K6 _ _ (zJ _) hi;let{os,ni,I,me}:=id U;let J:s.TypeIs (.ref sl) "slice" := ⟨os,ni,I⟩;unfold getItem
 try with_reducible show BJ ?_
 first | show zA (zG ?_) | skip
 show zA (wpAny_sequenceKey C.typeIs (by decide) ?_);show zA (Ea (name:=Str.ofString "__getitem__") C.typeIs PyProof.Rows.slot_tuple_getitem
  (CK PyProof.Rows.slot_tuple_getitem C.typeIs entry_tuple_getitem ?_ (args_tuple_getitem _ _)))
 change wpAny _ _ (Builtin.Tuple.tupleItemsOf (.ref t) >>= _) _ _ s;show zA (tupleItemsOf_ C ?_);show zA (DZ J ?_);rw[if_pos (by decide)];show zA (ZF U pl pu ?_);let mD:¬ ((((sIx items.size 0 lo:Nat):Int)==0 && (1:Int)==1 && (sIx items.size items.size hi-sIx items.size 0 lo)==items.size)=true):=by intro q;rw[Bw,Bw] at q;let q1:((sIx items.size 0 lo:Nat):Int)=0:=eq_of_beq q.1.1;let q2:sIx items.size items.size hi-sIx items.size 0 lo=items.size:=eq_of_beq q.2;show hw {(),()}
 change wpAny _ _ (if (((sIx items.size 0 lo:Nat):Int)==0 && (1:Int)==1 && (sIx items.size items.size hi-sIx items.size 0 lo)==items.size)=true then _ else _) _ _ s
 rw[if_neg mD,iw]
 first
  | show zA (m:=Builtin.Tuple.tupleExact _) (C5 (zG {1,zG h}) o)
  | show zA (m:=Builtin.Tuple.tupleExact _) (C5 (zA (zG (zG {1,zG h}))) o)
  | show zA (zA (m:=Builtin.Tuple.tupleExact _) (C5 (zG (zG {1,zG h})) o))
  | show zA (zA (m:=Builtin.Tuple.tupleExact _) (C5 (zG {1,zG h}) o))
end HT
namespace L2
open PySem PySem.Spec PyProof.Rows
abbrev TO:=St->Hp->(Option Int->Hp->Prop)->Prop
def PO (X:Cx)(e:Option Expr)(t:TO):Prop:=
 ∀pins s σ H Q,AA X pins σ H s->t σ H Q ->
  wpAny (model X.prog X.w) X.A (evalPart e X.env) (λu C=>∃o H',AA X pins σ H' C/\IsPart u o/\Q o H') X.xe s
def TJ:TO:=λ_ H Q=>Q none H
inductive aL (Q:Option Int->Hp->Prop)(x:V)(H1:Hp):Prop
 | mk:∀i,(x=.int i)->(Q (some i) H1)->aL Q x H1
def SJ (t:TE):TO:=λσ H Q=>t σ H λx H1=>aL Q x H1
def EK :∀{us:List Value},AK (ns.map V.int) us->IntsAre us ns:=by
 induction ns with
 | nil=>intro us r;rw[List.map_nil] at r;ext r;show .nil
 | cons n ns I=>
  intro us r;rw[Bj] at r;cases r with
  | cons C o=>let{t,e}:=C;subst e;show .cons n t (I o)
section
variable {X:Cx}{e:Expr}{te:TE}{lo hi:Option Expr}{tl th:TO}{pos p2:Pos}
def ES:PO X none TJ:=by intro pins s σ H Q I h;rw[evalPart_none];show zG {none,H,I,.none,h}
def DY (h:PE X e te):PO X (some e) (SJ te):=by intro pins s σ H Q I hw;rw[evalPart_some];show AI (h pins s σ H _ I hw) λu s1 ⟨x,H1,J,o,C⟩=>?_;let{i,0,q}:=C;let{t,0}:=o;show{some i,H1,J,.int i t,q}
def Ou (X:Cx)(r:V->Option Int->Option Int->Hp->VK->Prop):Prop:=
 ∀pins s σ H x v C o lo hi I Q,AA X pins σ H s->AM x v->s.heap.IsSliceOf I C o .none->IsPart C lo->IsPart o hi->r x lo hi H Q ->
  ∃T id,typeLookup (.type T) "__getitem__"=pure (some (.builtin id))/\s.TypeIs v T/\wpAny (model X.prog X.w) X.A (getItem v (.ref I)) (EP X pins σ Q) X.xe s
def VE (r:V->Option Int->Option Int->Hp->VK->Prop)(te:TE)(tl th:TO):TE:=λσ H Q=>te σ H λx H1=>tl σ H1 λl H2=>th σ H2 λu H3=>r x l u H3 Q
def Dj (hr:Ou X r)(he:PE X e te)(hl:PO X lo tl)(hu:PO X hi th):PE X (.Subscript e (.Slice lo hi none p2) pos) (VE r te tl th):=by intro pins s σ H Q I h;show Subscript_ (AI (he pins s σ H _ I h) λv s1 ⟨x,H1,I1,J,q1⟩=>?_);show wpAny_Slice (AI (hl pins s1 σ H1 _ I1 q1) λC s2 ⟨l,H2,I2,pl,q2⟩=>AI (hu pins s2 σ H2 _ I2 q2) λo s3 ⟨u,H3,I3,pu,U⟩=>?_);rw[evalPart_none];show zG ?_;let I4:AA X pins σ H3 { s3 with heap:=s3.heap.push { cls:=.type "slice",data:=.fields #[C,o,.none] } }:=I3.kept (t':=s3.toks) λb ob q=>zL _ q;let{T,id,hT,ht,hg}:=hr pins { s3 with heap:=s3.heap.push { cls:=.type "slice",data:=.fields #[C,o,.none] } } σ H3 x v C o l u ↥s3 Q I4 J (Heap.IsSliceOf.new ..) pl pu U;change wpAny (model X.prog X.w) X.A (subscriptTail e (.Slice lo hi none p2) v (.ref ↥s3)) (EP X pins σ Q) X.xe { s3 with heap:=s3.heap.push { cls:=.type "slice",data:=.fields #[C,o,.none] } };show tail_any (ops:=[.ref ↥s3,v]) ht hT hg (by with_unfolding_all rfl)
meta def CA (xs:List V)(lo hi:Option Int):List V:=(xs.drop (HT.sIx xs.length 0 lo)).take (HT.sIx xs.length xs.length hi-HT.sIx xs.length 0 lo)
def aU (xs)(lo hi):(CA xs lo hi).length<=xs.length:=by
 unfold CA;rw[ze,FP];show BC (Nat.min_le_right _ _) (Nat.sub_le _ _)
inductive Wy (K:AF)(x:V)(lo:Option Int)(hi:Option Int)(H:Hp)(Q:VK):Prop
 | mk:∀a xs,(x=.ref a)->(AB K H a xs)->(¬ (HT.sIx xs.length 0 lo=0/\HT.sIx xs.length xs.length hi=xs.length))->(∀p,H p=none->Q (.ref p) (upd H p (.tup (CA xs lo hi))))->Wy K x lo hi H Q
def Ut (K:AF):V->Option Int->Option Int->Hp->VK->Prop:=λx lo hi H Q=>Wy K x lo hi H Q
def MQ:Ou X (Ut X.K):=by
 intro pins s σ H x v vl vu lo hi sl Q I J hs U pu h;let{a,xs,0,hx,hw,q}:=h;ext J;let{its,r,C,hz}:=I.tuple hx;let hlen:its.toArray.size=xs.length:=by rw[zU];show r.length.symm
 show{"tuple",_,PyProof.Rows.slot_tuple_getitem.lookup,C.typeIs,?_};show HT.getItem_tuple_cut C hs U pu (by rwa[hlen]) ?_ (by rwa[hlen]);rw[hlen];show{.ref ↥s,_,I.laid (t':=s.toks) (o:=.tup (CA xs lo hi)) (λb ob q=>zL _ q) (zJ _) ?_,0,q _ (I.hok.fresh (zJ _))};show{{BC (aU xs lo hi) hz,_,zR _ rfl,0},_,(r.drop (HT.sIx xs.length 0 lo)).take (HT.sIx xs.length xs.length hi-HT.sIx xs.length 0 lo),IsTup.new _ _}
inductive Xs (K:AF)(x:V)(y:V)(H:Hp)(Q:VK):Prop
 | mk:∀a b xs ys,(x=.ref a)->(y=.ref b)->(AB K H a xs)->(AB K H b ys)->(xs≠[])->(xs.length+ys.length<=sizeLine)->((ys=[]->Q (.ref a) H))->((ys≠[]->∀p,H p=none->Q (.ref p) (upd H p (.tup (xs++ys)))))->Xs K x y H Q
def Pa (K:AF):R2:=λx y H Q=>Xs K x y H Q
def AK.nil_iff (r:AK xs us):us=[]↔xs=[]:=by
 cases r with
 | nil=>simp
 | cons _ _=>simp
def cE:A9 X (binaryOp .Add) (Pa X.K):=by intro pins s σ H x y v u Q I rx ry h;let{a,b,xs,U,3,ha,hb,hx,hz,q1,q2}:=h;ext rx;ext ry;let{its,J,p1,_}:=I.tuple ha;let{j7,C,p2,_}:=I.tuple hb;show HT.cat_tup p1 p2 (λz=>hx (J.nil_iff.mp z)) (λz=>{.ref a,H,I,0,q1 (C.nil_iff.mp z)}) (λz=>?_) (by rwa[<-J.length,<-C.length]);show{.ref ↥s,_,I.laid (t':=s.toks) (o:=.tup (xs++U)) (λb ob q=>zL _ q) (zJ _) ?_,0,q2 (λw=>z (C.nil_iff.mpr w)) _ (I.hok.fresh (zJ _))};show{{by rwa[zK],_,zR _ rfl,0},_,J.append C,IsTup.new _ _}
end
meta def HE (n:Nat)(i:Int):Option Nat:=if 0<=i then (if i<n then some i.toNat else none) else if -(n:Int)<=i then some (i+n).toNat else none
meta def By {α:Type}(xs:List α)(i:Int):Option α:=(HE xs.length i).bind λj=>xs[j]?
def XX (h:HE n i=some j):seqIndex? i n=some j/\j<n/\-(n:Int)<=i/\i<n:=by
 unfold HE at h;by_cases h0:0<=i
 . rw[if_pos h0] at h;by_cases o:i<n
   . rw[if_pos o] at h;let e:i.toNat=j:=zZ h;show{by rw[seqIndex_of h0 o,e],(),(),o}
   . rw[if_neg o] at h;ext h
 . rw[if_neg h0] at h;by_cases o : -(n:Int)<=i
   . rw[if_pos o] at h;let e:(i+n).toNat=j:=zZ h;show{by rw[seqIndex_neg () o,e],(),o,()}
   . rw[if_neg o] at h;ext h
def Wl (h:By xs i=some v):∃j,seqIndex? i xs.length=some j/\xs[j]?=some v/\j<xs.length/\-(xs.length:Int)<=i/\i<xs.length:=by
 unfold By at h;cases e:HE xs.length i with
 | none=>rw[e] at h;ext h
 | some j=>rw[e] at h;let{J,I,C,o}:=XX e;show⟨j,J,h,I,C,o⟩
def Dx {j:Nat}(h:xs[j]?=some v):By xs (j:Int)=some v:=by
 let o:j<xs.length:=(zE.mp h).1;let e:HE xs.length (j:Int)=some j:=by unfold HE;rw[if_pos (),if_pos ()];simp
 unfold By;rwa[e]
def Z9 (b:Expr):Prop:=∀o i,subscripted b false o i=operate [o,i] (getItem o i)
def K4 (X:Cx)(r:R2):Prop:=
 ∀value slice pins s σ H x y v u Q,AA X pins σ H s->AM x v->AM y u->r x y H Q ->
  subscripted slice false v u=operate [v,u] (getItem v u)->wpAny (model X.prog X.w) X.A (subscriptTail value slice v u) (EP X pins σ Q) X.xe s
def OL (X:Cx)(id:String)(r:V->List V->Hp->VK->Prop):Prop:=
 ∀pins s σ H x xs v us Q,AA X pins σ H s->AM x v->AK xs us->r x xs H Q ->
  wpAny (model X.prog X.w) X.A (call (.builtin id) (v::us)) (EP X pins σ Q) X.xe s
section
variable {X:Cx}{a b:Expr}{ta tb:TE}{pos:Pos}
def OD (U:K4 X r)(ha:PE X a ta)(hb:PE X b tb)(J:Z9 b):PE X (.Subscript a b pos) (GG r ta tb):=by intro pins s σ H Q I h;show Subscript_ (Kv ha hb I h λv u s2 x y H2 I2 C o q=>U a b pins s2 σ H2 x y v u Q I2 C o q (J _ _))
inductive aH (K:AF)(x:V)(y:V)(H:Hp)(Q:VK):Prop
 | mk:∀p xs i v,(x=.ref p)->(y=.int i)->(AD K H p xs)->(By xs i=some v)->(Q v H)->aH K x y H Q
def Pt (K:AF):R2:=λx y H Q=>aH K x y H Q
inductive Ye (K:AF)(x:V)(y:V)(H:Hp)(Q:VK):Prop
 | mk:∀p xs i v,(x=.ref p)->(y=.int i)->(AB K H p xs)->(By xs i=some v)->(Q v H)->Ye K x y H Q
def Fd (K:AF):R2:=λx y H Q=>Ye K x y H Q
def AS:K4 X (Pt X.K):=by
 intro value slice pins s σ H x y v u Q I rx ry h U;let{p,xs,i,z,3,hq,he,q}:=h;ext rx;let{t,0}:=ry;let{its,r,C,hz}:=I.list hq;let{j,o,h2,h3,h4,h5}:=Wl he;let{w,ew,mw}:=r.get h2;let hl:=r.length;let hn:=RF;let fin:EP X pins σ Q w s:=⟨z,H,I,mw,q⟩;by_cases h0:0<=i
 . let J:i.toNat=j:=by rw[seqIndex_of h0 h5] at o;show zZ o
   show item_listR C.isList h0 () (by rw[J];simpa using ew) fin U
 . let J:(i+(its.toArray.size:Int)).toNat=j:=by rw[seqIndex_neg () h4] at o;rw[zU,<-hl];show zZ o
   show subscriptTail_builtinR (x:=w) C.isList.typeIs slot_list_getitem.lookup
    (wpAny_getItem_list_neg (Q:=λr s'=>r=w/\EP X pins σ Q r s') C.isList () (by rw[zU] <;> lia) () (by rw[J];simpa using ew) {0,fin}) U
def AV:K4 X (Fd X.K):=by
 intro value slice pins s σ H x y v u Q I U J h hs;let{p,xs,i,z,3,hq,he,q}:=h;ext U;let{t,0}:=J;let{its,r,o,hz}:=I.tuple hq;let{j,h1,h2,h3,h4,h5}:=Wl he;let{w,ew,mw}:=r.get h2;let hl:=r.length;let hn:=RF;let fin:EP X pins σ Q w s:=⟨z,H,I,mw,q⟩;show subscriptTail_builtinR (x:=w) o.typeIs slot_tuple_getitem.lookup
  (getItem_tuple (j:=j) (Q:=λr C=>r=w/\EP X pins σ Q r C) o () () (by rwa[zU,<-hl]) ‹ew› {0,fin}) hs
def fF (its:List Value)(n j)(u):Obj.mapSeq (·.setIfInBounds j u) { cls:=.type "list",data:=.seq its.toArray n }={ cls:=.type "list",data:=.seq (its.set j u).toArray n }:=by simp[Obj.mapSeq]
def AA.lst {pins:CP}{σ:St}{H:Hp}{s:Shared}{p:Addr}{xs:List V}(I:AA X pins σ H s)(h:H p=some (.lst xs)):
 ∃its n,AK xs its/\s.heap.get? p=some { cls:=.type "list",data:=.seq its.toArray n }/\xs.length<=sizeLine:=by
 let{z,its,n,r,e}:=I.hok p _ h;show⟨its,n,r,e,z⟩
def AA.lstUpd {its:List Value}(I:AA X pins σ H s)(h:H p=some (.lst xs))
 (o:s.heap.get? p=some { cls:=.type "list",data:=.seq its.toArray n }) (hf:f { cls:=.type "list",data:=.seq its.toArray n }={ cls:=.type "list",data:=.seq its'.toArray n' }) (r:AK ys its')(hz:ys.length<=sizeLine)(t):
 AA X pins σ (upd H p (.lst ys)) { s with heap:=s.heap.update p f,toks:=t }:=by
 let e:(s.heap.update p f).get? p=some { cls:=.type "list",data:=.seq its'.toArray n' }:=by rw[Cr f o (by rw[hf] <;> rfl),hf]
 show I.write (x:=p) (e:=p) (by rw[h];trivial) (.inl rfl) (λb u hb q=>(GK _ _ (Ne.symm hb)).trans q) {_,e} ?_;show⟨hz,its',n',r,e⟩
inductive Wb (o:V)(i:V)(v:V)(H:Hp)(Q:Hp->Prop):Prop
 | mk:∀p xs k j,(o=.ref p)->(i=.int k)->(H p=some (.lst xs))->(HE xs.length k=some j)->(Q (upd H p (.lst (xs.set j v))))->Wb o i v H Q
def OR:V->V->V->Hp->(Hp->Prop)->Prop:=λo i v H Q=>Wb o i v H Q
def Hm:Px X OR:=by
 intro pins s σ H o i v ov iv u Q I ro ri rv h;let{p,xs,k,j,3,hp,hj,q}:=h;ext ro;let{t,0}:=ri;let{its,n,r,J,hz}:=I.lst hp;let{C,h2,h3,h4}:=XX hj;let U:=r.length;let hn:=RF;let I':AA X pins σ (upd H p (.lst (xs.set j v))) { s with heap:=s.heap.update p (Obj.mapSeq (·.setIfInBounds j u)) }:=
  I.lstUpd hp J (fF its n j u) (r.set rv j) (by rwa[Cp]) s.toks
 by_cases h0:0<=k
 . let hk:k.toNat=j:=by rw[seqIndex_of h0 h4] at C;show zZ C
   show PySem.W.ki_setAt J h0 () (by rwa[zU,<-U]) (by rw[hk];show{_,I',q})
 . let hk:(k+(its.toArray.size:Int)).toNat=j:=by rw[seqIndex_neg () h3] at C;rw[zU,<-U];show zZ C
   show PySem.W.ki_setBack J () (by rwa[zU,<-U]) () (by rw[hk];show{_,I',q})
def cS (lo hi)(n):(sliceBounds lo hi none n).1=((HT.sIx n 0 lo:Nat):Int)/\(sliceBounds lo hi none n).2.1=((HT.sIx n n hi:Nat):Int)/\(sliceBounds lo hi none n).2.2=1:=by
 show{?_,?_,0}
 . cases lo with
   | none=>simp[sliceBounds,HT.sIx]
   | some i=>
    simp only[sliceBounds,HT.sIx,Option.getD_none,show (1:Int) > 0 by decide,if_true];by_cases h:i<0
    . simp only[h,if_true] <;> lia
    . simp only[h,if_false];rw[HT.mn h];show Int.max_eq_right (Int.natCast_nonneg _)
 . cases hi with
   | none=>simp[sliceBounds,HT.sIx]
   | some i=>
    simp only[sliceBounds,HT.sIx,Option.getD_none,show (1:Int) > 0 by decide,if_true];by_cases h:i<0
    . simp only[h,if_true] <;> lia
    . simp only[h,if_false];rw[HT.mn h];show Int.max_eq_right (Int.natCast_nonneg _)
def iJ (its:List Value)(lo hi):slicePick its.toArray lo hi none=((its.drop (HT.sIx its.length 0 lo)).take (HT.sIx its.length its.length hi-HT.sIx its.length 0 lo)).toArray:=by let{I,C,o}:=cS lo hi its.toArray.size;unfold slicePick;rw[I,C,o];simp only[sliceRange_one,pick_run,zU] <;> rfl
inductive aN (K:AF)(x:V)(lo:Option Int)(hi:Option Int)(H:Hp)(Q:VK):Prop
 | mk:∀a xs,(x=.ref a)->(AD K H a xs)->(∀p,H p=none->Q (.ref p) (upd H p (.lst (CA xs lo hi))))->aN K x lo hi H Q
def U6 (K:AF):V->Option Int->Option Int->Hp->VK->Prop:=λx lo hi H Q=>aN K x lo hi H Q
def Yw:Ou X (U6 X.K):=by intro pins s σ H x v vl vu lo hi sl Q I J hs U pu h;let{a,xs,0,hx,q}:=h;ext J;let{its,r,C,hz}:=I.list hx;let hlen:=r.length;show{"list",_,slot_list_getitem.lookup,C.isList.typeIs,?_};show wpAny_getItem_list_slice C.isList hs U pu .none (by simp) ?_ (by rw[zU] <;> lia);rw[iJ,<-hlen];show{.ref ↥s,_,I.laid (t':=s.toks) (o:=.lst (CA xs lo hi)) (λb ob q=>zL _ q) (zJ _) ?_,0,q _ (I.hok.fresh (zJ _))};show⟨BC (aU xs lo hi) hz,_,0,(r.drop (HT.sIx xs.length 0 lo)).take (HT.sIx xs.length xs.length hi-HT.sIx xs.length 0 lo),zR _ rfl⟩
meta def Ga:V->Bool
 | .non=>true
 | .bl _=>true
 | .int _=>true
 | .str _=>true
 | _=>false
meta def GD:V->V->Bool
 | .non,.non=>true
 | .bl a,.bl b=>a==b
 | .bl a,.int b=>(if a then 1 else 0)==b
 | .int a,.bl b=>a==(if b then 1 else 0)
 | .int a,.int b=>a==b
 | .str a,.str b=>a==b
 | _,_=>false
def Ki (I:AM y u)(o:AM x v)(U:Ga y=true)(J:Ga x=true):SeqAt.EqAt A s u v (GD y x):=by
 cases y with
 | non=>
  ext I;cases x with
  | non=>ext o;show SeqAt.EqAt.same _
  | bl b=>ext o;show SeqAt.EqAt.none_bool b
  | int b=>let{t,0}:=o;show SeqAt.EqAt.none_int b t
  | str b=>let{t,0}:=o;show SeqAt.EqAt.none_str b t
  | _=>show absurd (show false=true from J) zq
 | bl a=>
  ext I;cases x with
  | non=>ext o;show SeqAt.EqAt.bool_none a
  | bl b=>ext o;show SeqAt.EqAt.bool_bool a b
  | int b=>let{t,0}:=o;show SeqAt.EqAt.bool_int a b t
  | str b=>let{t,0}:=o;show SeqAt.EqAt.bool_str a b t
  | _=>show absurd (show false=true from J) zq
 | int a=>
  let{C,0}:=I;cases x with
  | non=>ext o;show SeqAt.EqAt.int_none a C
  | bl b=>ext o;show SeqAt.EqAt.int_bool a C b
  | int b=>let{t,0}:=o;show SeqAt.EqAt.int_int a C b t
  | str b=>let{t,0}:=o;show SeqAt.EqAt.int_str a C b t
  | _=>show absurd (show false=true from J) zq
 | str a=>
  let{C,0}:=I;cases x with
  | non=>ext o;show SeqAt.EqAt.str_none a C
  | bl b=>ext o;show SeqAt.EqAt.str_bool a C b
  | int b=>let{t,0}:=o;show SeqAt.EqAt.str_int a C b t
  | str b=>let{t,0}:=o;show SeqAt.EqAt.str_str a C b t
  | _=>show absurd (show false=true from J) zq
 | _=>show absurd (show false=true from U) zq
meta def HD (x:V)(u:Value):Bool:=match u with
 | .none=>GD .non x
 | .bool b=>GD (.bl b) x
 | .int i _=>GD (.int i) x
 | .str z _=>GD (.str z) x
 | _=>false
def YI (r:AM y u)(f:Ga y=true):HD x u=GD y x:=by
 cases y with
 | non=>ext r;rfl
 | bl b=>ext r;rfl
 | int i=>let{t,0}:=r;rfl
 | str z=>let{t,0}:=r;rfl
 | _=>show absurd (show false=true from f) zq
def WX (h:AK xs us)(f:xs.all Ga=true):us.any (HD x)=xs.any λy=>GD y x:=by
 induction h with
 | nil=>rfl
 | cons r t o=>rw[List.all_cons,Bw] at f;rw[List.any_cons,List.any_cons,YI r f.1,o f.2]
def Sy (o:AM x v)(C:Ga x=true):∀{xs:List V}{us:List Value},AK xs us->xs.all Ga=true->∀u∈us,SeqAt.EqAt A s u v (HD x u)
 | _,_,.nil,_=>λu hu=>by ext hu
 | y::xs,u::us,.cons r t,f=>λI hu=>by
  rw[List.all_cons,Bw] at f;rcases za.mp hu with rfl | hu
  . rw[YI r f.1];show Ki r o f.1 C
  . show Sy o C t f.2 I hu
meta def OA (x:V)(xs:List V):Bool:=xs.any λy=>GD y x
inductive IV (K:AF)(neg:Bool)(x:V)(y:V)(H:Hp)(Q:VK):Prop
 | mk:∀p xs,(y=.ref p)->((AD K H p xs\/AB K H p xs))->(Ga x=true)->(xs.all Ga=true)->(Q (.bl (if neg then !OA x xs else OA x xs)) H)->IV K neg x y H Q
def jY (K:AF)(neg:Bool):R2:=λx y H Q=>IV K neg x y H Q
def iF:A9 X (compareOp .NotIn) (jY X.K true):=by
 intro pins s σ H x y v u Q I C U h;let{p,xs,0,hq,J,fs,q}:=h;ext U;rcases hq with hq | hq
 . let{its,r,o,hz}:=I.list hq;show SeqAt.notIn_listAt (HD x) o.isList (λw hw=>Sy C J r fs w ‹hw›) {.bl _,H,I,0,?_};rwa[show its.toArray.any (HD x)=its.any (HD x) by simp,WX r fs]
 . let{its,r,o,hz}:=I.tuple hq;show SeqAt.notIn_tupleAt (HD x) o (λw hw=>Sy C J r fs w ‹hw›) {.bl _,H,I,0,?_};rwa[show its.toArray.any (HD x)=its.any (HD x) by simp,WX r fs]
inductive KH (K:AF)(xs:List V)(H:Hp)(Q:VK):Prop
 | mk:∀p ys,(xs=[.ref p])->((AD K H p ys\/AB K H p ys))->(Q (.int ys.length) H)->KH K xs H Q
def DB:Be X (.builtin "len") (KH X.K):=by
 intro pins s σ H xs us Q I r h;let{p,J,0,hq,q}:=h;let{u,0,U}:=Co r;ext U;let hn:=RF;rcases hq with hq | hq
 . let{its,o,C,hz}:=I.list hq;let hlen:=o.length;show Calls.call_len_list C.isList (by simp only[zU] <;> lia) {.int J.length,H,I.tok _,{s.toks+1,by rw[zU,hlen]},q}
 . let{its,o,C,hz}:=I.tuple hq;let hlen:=o.length;show len_tuple C (by simp only[zU] <;> lia) {.int J.length,H,I.tok _,{s.toks+1,by rw[zU,hlen]},q}
inductive Pd (K:AF)(xs:List V)(H:Hp)(Q:VK):Prop
 | mk:∀p ys,(xs=[.ref p])->((AD K H p ys\/AB K H p ys))->(∀l,H l=none->Q (.ref l) (upd H l (.lst ys)))->Pd K xs H Q
def bj:Be X (.type "list") (Pd X.K):=by
 intro pins s σ H xs us Q I r h;let{p,ys,0,hq,q}:=h;let{u,0,rx}:=Co r;ext rx;let fin:∀(its:List Value),AK ys its->ys.length<=sizeLine->∀(h':Heap)(J:Nat),(∀b o',s.heap.get? b=some o'->h'.get? b=some o') ->
  h'.get? ↥s=some { cls:=.type "list",dict:=none,data:=.seq its.toArray J,slots:=#[] }->EP X pins σ Q (.ref ↥s) { s with heap:=h' }:=λits C U h' J kp e=>
  {.ref ↥s,_,I.laid (t':=s.toks) kp (zJ _) (show Av X.prog X.w _ h' _ (.lst ys) from ⟨U,its,J,C,e⟩),0,q _ (I.hok.fresh (zJ _))}
 rcases hq with hq | hq
 . let{its,C,pl,U}:=I.list hq;let hlen:=C.length;let{o,ho,hc,n,hd}:=pl.isList;show call_list_seq p (.inl rfl) ho hc hd (λh' J kp e=>fin its C U h' J kp e) (by simp only[zU] <;> lia)
 . let{its,C,pl,U}:=I.tuple hq;let hlen:=C.length;let{o,ho,hc,n,hd}:=pl;show call_list_seq p (.inr rfl) ho hc hd (λh' J kp e=>fin its C U h' J kp e) (by simp only[zU] <;> lia)
inductive MZ (K:AF)(xs:List V)(H:Hp)(Q:VK):Prop
 | mk:∀p ys,(xs=[.ref p])->(((AD K H p ys/\∀l,H l=none->Q (.ref l) (upd H l (.tup ys)))\/(AB K H p ys/\Q (.ref p) H)))->MZ K xs H Q
def DH:Be X (.type "tuple") (MZ X.K):=by
 intro pins s σ H xs us Q I r h;let{p,ys,0,h}:=h;let{u,0,rx}:=Co r;ext rx;rcases h with ⟨U,q⟩ | ⟨U,q⟩
 . let{its,C,J,hz}:=I.list U;let hlen:=C.length;show call_tuple_list J.isList (λh' kp=>?_) (by simp only[zU] <;> lia);let I1:AA X pins σ H { s with heap:=h' }:=I.kept (t':=s.toks) kp;let I2:AA X pins σ (upd H h'.objs.size (.tup ys)) { s with heap:=h'.push { cls:=.type "tuple",data:=.seq its.toArray } }:=
    I1.laid (t':=s.toks) (λb o e=>zL _ e) (zJ _) (show Av X.prog X.w _ _ _ (.tup ys) from {{hz,_,zR _ rfl,0},its,C,IsTup.new _ _})
   show{.ref h'.objs.size,_,I2,0,q _ (I1.hok.fresh (zJ _))}
 . let{its,C,J,hz}:=I.tuple U;show call_tuple_same J {.ref p,H,I,0,q}
def bE (K:AF)(T:String)(x:V)(H:Hp):Prop:=match x with
 | .str _=>T="str"
 | .int _=>T="int"
 | .ref p=>(T="list"/\∃xs,AD K H p xs)\/(T="tuple"/\∃o,K.lookup p=some o/\o.cls=.type "tuple"/\o.dict=none) \/
  (T="dict"/\((∃kvs,H p=some (.dK kvs))\/∃kvs,H p=some (.dT kvs)))\/(T="set"/\∃S n,H p=some (.set S n))
 | _=>False
def Mc (I:AA X pins σ H s)(r:AM x v)(ty:bE X.K T x H):
 s.TypeIs v T/\∀a,v=.ref a->∃ob,s.heap.get? a=some ob/\ob.dict=none:=by
 cases x with
 | str z=>let{t,0}:=r;cases (show T="str" from ty);show{typeIs_str s z t,λ_ e=>nomatch e}
 | int i=>let{t,0}:=r;cases (show T="int" from ty);show{typeIs_int s i t,λ_ e=>nomatch e}
 | ref p=>
  ext r;rcases ty with ⟨rfl,xs,hq⟩ | ⟨rfl,o,C,hc,hd⟩ | ⟨rfl,C⟩ | ⟨rfl,S,n,C⟩
  . let{its,_,U,_}:=I.list hq;show{U.isList.typeIs,λa e=>?_};ext e;let{o,n,e,c,hd,_}:=U;show⟨o,e,hd⟩
  . show{{o,I.kIn p o C,hc},λa e=>?_};ext e;show{o,I.kIn _ o C,hd}
  . let z:∃o,s.heap.get? p=some o/\o.ExactDict:=by
     rcases C with ⟨kvs,C⟩ | ⟨kvs,C⟩
     . let{8,o,2,e,ex,_}:=I.hok p _ C;show⟨o,e,ex⟩
     . let{8,o,2,e,ex,_}:=I.hok p _ C;show⟨o,e,ex⟩
    let{o,e,ex}:=z;show{⟨o,e,ex.1⟩,λa J=>?_};ext J;show⟨o,e,ex.2.1⟩
  . let{o,_,2,e,ex,_}:=I.hok p _ C;show{⟨o,e,ex.1⟩,λa J=>?_};ext J;show⟨o,e,ex.2.1⟩
 | _=>show False.elim ty
inductive Ik (K:AF)(T:String)(r:V->List V->Hp->VK->Prop)(t:TA)(σ:St)(Q:VK)(x:V)(H1:Hp):Prop
 | mk:(bE K T x H1)->(t σ H1 λxs H2=>r x xs H2 Q)->Ik K T r t σ Q x H1
def ao (K:AF)(T:String)(r:V->List V->Hp->VK->Prop)(to:TE)(t:TA):TE:=λσ H Q=>to σ H λx H1=>Ik K T r t σ Q x H1
variable {o e:Expr}{es:List Expr}{to:TE}{t:TA}{name:Str}{apos jw:Pos}{T id:String}{r:V->List V->Hp->VK->Prop}
def C3 (pa:PlainAttrs T)(slot:Slot T name id)(C:typeOf (.builtin id)=pure (.type "method_descriptor")) (hm:OL X id r)(ho:PE X o to)(ha:PA X (e::es) t)
 (lq:autoParam (attributeBase o name X.env (eval o X.env)=eval o X.env) d_._auto_5)
 (nz:autoParam (((backTo jw (starEach (e::es) X.env)).all (λx=>!x.1) && (backToKw jw (keywordEach [] X.env)).all (λx=>x.1.isSome)
  && decide ((e::es).length+([]:List Keyword).length+(if ([]:List Keyword).isEmpty then 0 else 1)<30))=true) d_._auto_5)
 (lX:autoParam ((apos.endLine==jw.line)=true) d_._auto_5)(hs:autoParam (starEach (e::es) X.env=(false,eval e X.env)::starEach es X.env) d_._auto_5)(kl:autoParam ((backTo jw (starEach es X.env)).any (·.1)=false) d_._auto_5):
 PE X (.Call (.Attribute o name apos) (e::es) [] jw) (ao X.K T r to t):=by
 intro pins s σ H Q I h;show wpAny_Call_method_late lq nz lX rfl (AI (ho pins s σ H _ I h) λv s1 ⟨x,H1,I1,J,ty,q1⟩=>?_);let{h1,h2}:=Mc I1 J ty;show{T,id,pa,slot,C,h1,h2,?_};let U:=ha jw pins s1 σ H1 _ I1 q1;rw[hs] at U ⊢;show Calls.callWith_builtin (by change (false || (backTo jw (starEach es X.env)).any (·.1))=false;rw[kl] <;> rfl) (Calls.evalArgs_plain ?_);show AI U λus s2 ⟨vs,H2,I2,r2,q2⟩=>hm pins s2 σ H2 x vs v us Q I2 J r2 q2
end
def UQ (X:Cx)(id:String)(r:V->List V->Hp->VK->Prop):Prop:=
 ∀pins s σ H x xs v us Q,AA X pins σ H s->AM x v->AK xs us->r x xs H Q ->
  wpAny (model X.prog X.w) X.A (call (.builtin id) (v::us)) (EP X pins σ Q) X.xe s
def AK.one (h:AK [x] us):∃u,us=[u]/\AM x u:=by
 cases h with
 | cons r t=>ext t;show{1,r}
def AK.eraseIdx:∀{xs:List V}{us:List Value}(i:Nat),AK xs us->AK (xs.eraseIdx i) (us.eraseIdx i)
 | _,_,_,.nil=>.nil
 | _,_,0,.cons _ t=>t
 | _,_,i+1,.cons r t=>.cons r (AK.eraseIdx i t)
def aT {α:Type}:∀(l:List α)(i:Nat),(l.eraseIdx i).length<=l.length
 | [],_=>zJ _
 | _::_,0=>Bk _
 | _::r,i+1=>Nat.succ_le_succ (aT r i)
def AA.lset {its:List Value}(I:AA X pins σ H s)(J:H l=some (.lst xs))
 (e:s.heap.get? l=some { cls:=.type "list",data:=.seq its.toArray n }) (hf:f its.toArray=its'.toArray)(o:AK ys its')(hz:ys.length<=sizeLine):
 AA X pins σ (upd H l (.lst ys)) { s with heap:=s.heap.update l (Obj.mapSeq f),toks:=t' }:=by
 let q:=PySem.IsL.update e f;rw[hf] at q;show I.write (x:=l) (e:=l) (by rw[J];show trivial) (.inl rfl) (λU u hb C=>(GK s.heap (Obj.mapSeq f) (Ne.symm hb)).trans C) {_,q} ?_;show{hz,its',_,o,q}
def AA.lnew (I:AA X pins σ H s)(o:AK ys its)(hz:ys.length<=sizeLine):
 AA X pins σ (upd H ↥s (.lst ys)) { s with heap:=s.heap.push { cls:=.type "list",data:=.seq its.toArray },toks:=t' }:=
 I.laid (λ_ _ q=>zL _ q) (zJ _) ⟨hz,its,0,o,zR _ rfl⟩
def AA.fresh (I:AA X pins σ H s):H ↥s=none:=I.hok.fresh (zJ _)
def AA.lstM (I:AA X pins σ H s)(o:H l=some (.lst xs)):xs.length<=sizeLine/\∃its n,AK xs its/\xs.length=its.length/\s.heap.get? l=some { cls:=.type "list",data:=.seq its.toArray n }:=by let{z,its,n,r,e}:=I.hok l _ o;show⟨z,its,n,r,r.length,e⟩
def iZ (h:n<=sizeLine):Builtin.List.listTooLong n=false:=by unfold Builtin.List.listTooLong;show zW ()
inductive aB (x:V)(vs:List V)(H:Hp)(Q:VK):Prop
 | mk:∀l xs y,(x=.ref l)->(vs=[y])->(H l=some (.lst xs))->(xs.length<sizeLine)->(Q .non (upd H l (.lst (xs++[y]))))->aB x vs H Q
def dQ:V->List V->Hp->VK->Prop:=λx o H Q=>aB x o H Q
def FF:UQ X "list.append" dQ:=by
 intro pins s σ H x vs v us Q I C J h;let{l,xs,y,3,o,hz,q}:=h;ext C;let{u,0,U}:=J.one;let{z,its,n,r,hl,e}:=I.lstM o;show call_meets F.slot_list_append {_,e,0} F.entry_list_append (F.args_list_append_2 _ _) (PySem.list_append l its.toArray n u (by rw[zU];lia)) {e,?_};show{.non,_,I.lset (its':=its++[u]) o e (by simp) (r.append (.cons U .nil)) ?_,0,q};rw[zK,List.length_singleton]
 lia
inductive Vb (x:V)(vs:List V)(H:Hp)(Q:VK):Prop
 | mk:∀l b xs zs,(x=.ref l)->(vs=[.ref b])->(H l=some (.lst xs))->(H b=some (.lst zs))->(xs.length+zs.length<=sizeLine)->(Q .non (upd H l (.lst (xs++zs))))->Vb x vs H Q
def bY:V->List V->Hp->VK->Prop:=λx o H Q=>Vb x o H Q
def YZ:UQ X "list.extend" bY:=by
 intro pins s σ H x vs v us Q I rx rv h;let{l,b,xs,zs,3,U,hB,hz,q}:=h;ext rx;let{u,0,ru}:=rv.one;ext ru;let{z,its,n,r,hl,e}:=I.lstM U;let{z2,C,n2,r2,ku,e2}:=I.lstM hB;let J:its.toArray.size+C.toArray.size<=sizeLine:=by rw[zU,zU];lia
 let o:¬ (!its.toArray.isEmpty && Builtin.List.listTooLong (its.toArray.size+C.toArray.size))=true:=by rw[iZ J,Bool.and_false];show zq
 show call_meets F.slot_list_extend {_,e,0} F.entry_list_extend (F.args_list_extend_2 _ _)
  (AutoSeq1.list_extend_list_list_0 l its.toArray n b C.toArray n2 o (by rw[zU];lia) ()) {e,e2,?_}
 show{.non,_,I.lset (its':=its++C) U e (by simp) (r.append r2) ?_,0,q};rw[zK]
 lia
inductive Za (x:V)(vs:List V)(H:Hp)(Q:VK):Prop
 | mk:∀l xs i k y,(x=.ref l)->(vs=[.int i])->(H l=some (.lst xs))->(-(2 ^ 63)<=i)->(i<2 ^ 63)->(seqIndex? i xs.length=some k)->(xs[k]?=some y)->(Q y (upd H l (.lst (xs.eraseIdx k))))->Za x vs H Q
def Lc:V->List V->Hp->VK->Prop:=λx o H Q=>Za x o H Q
def Xf:UQ X "list.pop" Lc:=by
 intro pins s σ H x vs v us Q I C J h;let{l,xs,i,k,y,3,o,h1,h2,hk,hy,q}:=h;ext C;let{u,0,U}:=J.one;let{t,0}:=U;let{z,its,n,r,hl,e}:=I.lstM o;let{w,hw,mw}:=r.get hy;show call_meets F.slot_list_pop {_,e,0} F.entry_list_pop (F.args_list_pop_2 _ _)
  (MeetsSeq.list_pop_at l its.toArray n i t k w (fitsIndex_both h1 h2) (by rwa[zU,<-hl]) (by rwa[<-Array.getElem?_toList]) (by rw[zU];lia)) {e,?_}
 show{y,_,I.lset (its':=its.eraseIdx k) o e ?_ (r.eraseIdx k) ?_,mw,q}
 . change its.toArray.eraseIdxIfInBounds k=(its.eraseIdx k).toArray;rw[List.eraseIdxIfInBounds_toArray]
 . let:=aT xs k
   lia
end L2
namespace Att
open PySem PySem.W PySem.Calls PyProof.Rows
def cG :∀ns vs,WellAll P h vs (ns.map WData.int)->IntsAre vs ns:=by
 intro ns
 induction ns with
 | nil=>intro vs w;rw[List.map_nil] at w;ext w;show .nil
 | cons n ns o=>
  intro vs w;rw[Bj] at w;cases w with
  | cons a b=>ext a;show .cons _ _ (o _ b)
def cI {l:OpenLaw}(hn:l.most=some n)
 (o:l.row.toRowW.claim.pre args=true)(I:WellAll P h vals args):
 ∃a vs ns,vals=[Value.ref a]/\args=[WData.list (ns.map WData.int)]/\h.get? a=some { cls:=.type "list",data:=.seq vs.toArray }/\IntsAre vs ns/\ns.length<=n:=by
 let J:WShape.hasAll [] args [.list .int]=true:=(pre_splitW o).1;let hc:l.pre.holds [] { args:=args }=true:=(pre_splitW o).2;let{d,r,0,h1,h2}:=hasAllW_cons J;obtain rfl:=hasAllW_nil h2;let{xs,0,h3}:=hasW_list h1;let{ns,0}:=items_int h3;let hlen:ns.length<=n:=by
  unfold OpenLaw.pre at hc;let U:(WTm.not (.lt (.lit (.int (n:Int))) (.len (.arg 0)))).holds [] { args:=[.list (ns.map .int)] }=true:=by let U:=(holds_andW hc).1;rwa[hn] at U
  let C:=condW_of U (w_not (w_lt w_lit (w_len_list (w_arg rfl))));rw[zC] at C;show Nat.le_of_not_lt λq=>?_;let q':(n:Int)<((ns.length:Nat):Int):=()
  first
   | (rw[zO q'] at C;show absurd C (by decide))
   | (simp at C;lia)
 cases I with
 | cons w1 w2=>
  ext w2;cases w1 with
  | list ho j4=>show{2,ns,3,ho,cG ns _ j4,hlen}
def gE (l:OpenLaw)(args):l.row.toRowW.claim.post args (.bool true) args=true:=
 postW_of (r:=l.row.toRowW) (X:=(true==true))
  (show WShape.has [] (.bool true) .bool=true by first | rfl | decide | simp[WShape.has,WShape.arms,WShape.armsAll])
  (show (WTm.eq .res (.lit (.bool true))).value [] { args:=args,res:=some (.bool true),after:=args }=some (.bool (true==true)) from w_eq_bool (w_res rfl) w_lit) rfl
def attach_call {l:OpenLaw}
 (hn:l.most=some n)(hdf:d.params.defaults=[])
 (call:∀w I C mg mb fa o pm cd doc a vs ns,
  Ground q loose [] XP w I mg mb C.heap->YP w C.heap ->
  C.heap.get? fa=some o->o.data=.func (docDef d.name d.params d.body d.scope pm cd doc)->C.heap.CodeRec cd d.name->mg d.name=⇑fa ->
  C.heap.get? a=some { cls:=.type "list",data:=.seq vs.toArray }->IntsAre vs ns->ns.length<=n->C.gens=#[] ->
  codeAny (model l.prog w) callerA (.call (.ref fa) {[.ref a],[]}) (λr s'=>r=.ok (.ret (.bool true))/\OldK C.heap s'.heap/\s'.os=C.os/\AllBare s'.gens) C):
 WalkO q loose XP YP l.row.toRowW d [] (λf vs=>PySem.call f vs):=by
 intro w I C mg mb G Y fa o pm cd doc dV kV ho hd mf hD hmg hg args vals as J hlay hrd hwl hlo;obtain rfl:dV=.none:=Dflts.none hD hdf;obtain rfl:kV=.none:=Dflts.noKw hD;let{a,vs,ns,3,U,hints,hlen}:=cI hn J hwl;show enter_call (codeAny_mono (call w I C mg mb fa o pm cd doc a vs ns G Y ho (fd_plain hd) mf hmg U hints hlen hg) λr s' hq=>?_);let{0,h2,h3,h4}:=hq;show{.inl {.bool true,.bool true,[],0,λ_=>rfl,.bool true,gE l _,λ_=>{JM,λ_ hm=>(nomatch hm)}},h2,h3,h4}
end Att
namespace L2
open PySem PySem.Spec PyProof.Rows
def Ym:∀{vs:List Value}{ns:List Int},IntsAre vs ns->AK (ns.map V.int) vs
 | _,_,.nil=>.nil
 | _,_,.cons n t h=>.cons {t,0} (Ym h)
def MI (H:Hp):Prop:=∀b,H b=none\/∃o xs,H b=some (.frz o (.lst xs))
def fg {K:AF}
 (KX:K.In s₁.heap)(lD:s₁.heap.Ns mainGlobals mg)(hb:s₁.heap.Ns builtinsNs mb)(hbb:∀x:Str,x ≠ "__name__"->mb x=bootBuiltins x) (hlim:s₁.heap.NoLimit)(hg:s₁.gens=#[])
 (ha:s₁.heap.get? a=some { cls:=.type "list",data:=.seq vs.toArray }) (hi:IntsAre vs ns)(hl:ns.length<=sizeLine)(hr:A6 k callerA)
 (F:∀base:Heap,K.In base->base.Ns mainGlobals mg->BY P w K mg base CX k fa fd [x] sp)(J:∀s u,BindsTo s fd {[u],[]} [(x,u)])
 (mM:∀H:Hp,MI H->AD K H a (ns.map V.int)->sp [.ref a] H (λv _=>v=.bl true) λ_ _ _=>False)
 (hCX:∀H e s',CX [] H s₁ (λ_ _ _=>False) e s'->False):
 codeAny (model P w) callerA (.call (.ref fa) {[.ref a],[]}) (λr s'=>r=.ok (.ret (.bool true))/\OldK s₁.heap s'.heap/\s'.os=s₁.os/\AllBare s'.gens) s₁:=by
 let rv:=Ym hi;let lenV:=hi.length;let core:∀H:Hp,MI H->AD K H a (ns.map V.int)->Aq P w H s₁.heap->(∀b,H b≠none->b=a)->(H a≠none->K.lookup a=none) ->
  codeAny (model P w) callerA (.call (.ref fa) {[.ref a],[]}) (λr s'=>r=.ok (.ret (.bool true))/\OldK s₁.heap s'.heap/\s'.os=s₁.os/\AllBare s'.gens) s₁:=by
  intro H hO hS hok hA hK;let C:∀{b:Addr}{o:Obj},s₁.heap.get? b=some o->H b=none->(Gg s₁.heap H).get? b=some o:=λe n=>cb e n;let noA:∀{b:Addr}{o:Obj}{es:Array DictEntry}{ep:Nat},s₁.heap.get? b=some o->o.data=.dict es ep->H b=none:=λ{b o es ep} e d=>by
   cases q:H b with
   | none=>rfl
   | some u=>have e':b=a:=hA b (by rw[q];simp);subst e';rw[ha] at e;ext e;let d':Data.seq vs.toArray _=Data.dict es ep:=d;ext d'
  let I:∀{b:Addr}{m:BO},s₁.heap.Ns b m->(Gg s₁.heap H).Ns b m:=λ{b m} ⟨o,es,ep,e,d,r⟩=>{o,es,ep,C e (noA e d),d,r};let hKb:K.In (Gg s₁.heap H):=λb o e=>C (KX b o e) (by
   cases q:H b with
   | none=>rfl
   | some u=>have e':b=a:=hA b (by rw[q];simp);subst e';rw[hK (by rw[q];simp)] at e;ext e)
  let hM:Mod K mg (Gg s₁.heap H):=⟨hKb,I lD,{mb,I hb,hbb},let ⟨mc,h1,h2⟩:=hlim;{mc,I h1,h2}⟩;let e0:JI P w K mg (Gg s₁.heap H) callerA [] s₁ H:={0,hM,λb o e=>gW e,Nat.le_of_eq (i8 _ _),trivial,λb hb=>absurd (show b∈([]:List Addr) from hb) (by simp),hok,.of_eq hg};show codeAny_mono ((F _ hKb (I lD)).run callerA [] s₁ H {[.ref a],[]} [.ref a] [.ref a] _ _ hr e0 (J s₁ (.ref a)) (.cons rfl .nil) (mM H hO hS)) λr s' h=>?_;cases r with
  | error e=>show (hCX H e s' h).elim
  | ok fl=>
   cases fl with
   | next=>show False.elim h
   | brk=>show False.elim h
   | cont=>show False.elim h
   | ret u=>
    let{v,H',os,bare,un,hok',r',q}:=h;let q':v=.bl true:=q;subst q';obtain rfl:u=Value.bool true:=r';show{0,OldK.of_keep λb o e=>?_,os,bare};cases q:H b with
    | none=>show un.keep b o e q (by intro z;show absurd (show b∈([]:List Addr) from z) (by simp)) (by simp)
    | some u=>
     rcases hO b with z | ⟨ob,xs,z⟩
     . rw[q] at z;ext z
     . let z2:=un.frzs b ob _ z;let{e1,_}:=hok b _ z;let{e2,_}:=hok' b _ z2;rw[e] at e1;ext e1;show e2
 cases hk:K.lookup a with
 | some o=>have e:=KX a o hk;rw[ha] at e;ext e;show core (λ_=>none) (λ_=>.inl rfl) (.inr {_,vs.toArray,_,hk,0,3,by rwa[zU,lenV],‹rv›}) (λb u z=>by let U:(none:Option HO)=some u:=z;ext U) (λb z=>absurd rfl z) λz=>absurd rfl z
 | none=>
  show core (λb=>if b=a then some (.frz { cls:=.type "list",data:=.seq vs.toArray } (.lst (ns.map V.int))) else none) (λb=>?_) (.inl (.inr {{ cls:=.type "list",data:=.seq vs.toArray },if_pos rfl})) (λb u z=>?_) (λb z=>?_) λ_=>hk
  . by_cases hb:b=a
    . show .inr {2,if_pos hb}
    . show .inl (if_neg hb)
  . by_cases hb:b=a
    . let U:=(if_pos hb).symm.trans z;ext U;subst hb;show{ha,by rwa[zC],vs,_,rv,ha}
    . let U:=(if_neg hb).symm.trans z;ext U
  . by_cases hb:b=a
    . show hb
    . show absurd (if_neg hb) z
def walk_of {l:PySem.W.OpenLaw}{K:Params->AF}{CX:World->IX}{sp:World->Sp}
 (hn:l.most=some n)(U:n<=sizeLine)(hdf:d.params.defaults=[])(hr:A6 k callerA)
 (hY:∀w h,YP w h->(K w.params).In h)
 (F:∀w mg J h,(K w.params).In h->h.Ns mainGlobals mg->mg d.name=⇑J ->
  ∃fd:FuncData,(∀s u,BindsTo s fd {[u],[]} [(x,u)]) /\
   ∀base:Heap,(K w.params).In base->base.Ns mainGlobals mg->BY l.prog w (K w.params) mg base (CX w) k J fd [x] (sp w))
 (mM:∀w H a(ns:List Int),ns.length<=n->MI H->AD (K w.params) H a (ns.map V.int)->sp w [.ref a] H (λv _=>v=.bl true) λ_ _ _=>False)
 (hCX:∀w H s e s',CX w [] H s (λ_ _ _=>False) e s'->False):
 PySem.W.WalkO q loose XP YP l.row.toRowW d [] (λf vs=>PySem.call f vs):=by
 show Att.attach_call hn hdf λw s₀ C mg mb J o pm cd doc a vs ns G Y ho hd mf hmg I hints hlen hg=>?_;let KX:=hY w _ Y;let{fd,hb,hF}:=F w mg J _ KX G.T.g hmg;show fg KX G.T.g G.T.b G.T.builtins G.T.nolimit hg I hints (BC hlen U) hr hF hb (λH hO hS=>mM w H a ns hlen hO hS) λH e s'=>hCX w H C e s'
abbrev DQ:IX:=λ_ _ _ _ _ _=>False
abbrev E0:XK:=λ_ _ _=>False
def PM :NR DQ X E0:=λ_ _ _ _ _ _ _ h=>h.elim
structure Dc (K:AF)(x qual:Str)(st:Stmt)(f:Addr)(fd:FuncData):Prop where
 ex:∃(oc:Value)(od:Option Addr)(kV doc pm:Value)(an:Option Addr)(j9 ct:Value)(osl:Array (Option Value)),
  fd=PySem.W.fnOf x qual (defArgs st) (defBody st) (defScope st) .none kV doc pm an j9 ct/\K.lookup f=some {oc,od,.func fd,osl}/\PySem.W.codeIn K j9 qual=true
 kp:PySem.W.keepIn K (.ref f)=true
section
variable {P:Program}{w:World}{K:AF}{mg:BO}{base:Heap}
def Dc.ok {st:Stmt}(F:Dc K x qual st f fd)(S:AR N ps (defScope st))(len:∀vs H Q E,sp vs H Q E->vs.length=ps.length)
 (km:∀o A outer s H vs Q E,A6 k (A.deeper (envOfC qual (defScope st) ↥s f o))->sp vs H Q E ->
  ∃t,CC (C4 DQ P w K mg base N qual (defScope st) f o A outer s H E).nox (defBody st) t/\t { nx:=λ_ H'=>Q .non H',rt:=Q } (EY N vs) H):BY P w K mg base DQ (k+1) f fd ps sp:=by
 let{oc,od,kV,doc,pm,an,o,ct,C,0,U,I}:=F.ex;show IG U I S len λA outer s H vs Q E hr J=>?_;let{t,h,q}:=km o A outer s H vs Q E hr J;show⟨t,h.nox,q⟩
def Dc.binds {st:Stmt}(F:Dc K x qual st f fd)
 (h:∀kV doc pm an o C us,us.length=ps.length->bindArgs (PySem.W.fnOf x qual (defArgs st) (defBody st) (defScope st) .none kV doc pm an o C) {us,[]}=pure (ps.zip us)):Ds K fd ps []:=by
 let{U,J,kV,doc,pm,an,o,C,I,0,lk,mf}:=F.ex;show .all (h kV doc pm an o C)
def Sb {st:Stmt}{kV:Value}(l:K.lookup f=some {oc,od,.func (PySem.W.fnOf x qual (defArgs st) (defBody st) (defScope st) .none kV doc pm an j9 ct),osl})
 (c:PySem.W.codeIn K j9 qual=true)(k:PySem.W.keepIn K (.ref f)=true):Dc K x qual st f (PySem.W.fnOf x qual (defArgs st) (defBody st) (defScope st) .none kV doc pm an j9 ct):={{oc,od,kV,doc,pm,an,j9,ct,osl,0,l,c},k}
end
def Fy (o:A6 k A):A.units+1<cLine:=CO (Nat.add_le_add_left (by decide:1<=64) _) o.units
def pv (i)(I:autoParam (X.N[i]?=some x) d_._auto_5)(C:autoParam (Uy X.env.scope x) d_._auto_8)(hd:autoParam ((x==("__debug__" : Str))=false) d_._auto_2)
 (o:autoParam ((x==("__classdict__" : Str))=false) d_._auto_2):PE X (.Name x pos) (Cn i):=MK I C hd o
def Ab {A:Prop}(h:B):if false=true then A else B:=by rwa[if_neg zq]
def AZ {A:Prop}(h:A):if true=true then A else B:=by rwa[if_pos rfl]
def A3 {A:Prop} [Decidable c] (C:c->A)(o:¬ c->B):if c then A else B:=by
 by_cases h:c
 . rw[if_pos h];show C h
 . rw[if_neg h];show o h
def AE (H H':Hp):Prop:=∀b o,H b=some o->H' b=some o
def AE.refl (H):AE H H:=λ_ _ h=>h
def AE.trans (a:AE H H1)(b:AE H1 H2):AE H H2:=λc o h=>b c o (a c o h)
section
variable {κ:Type} [DecidableEq κ]
def dF {kvs:List (κ×V)}(h:AW kvs k=none):¬ k∈kvs.map (·.1):=by intro m;let{p,C,e}:=zk.mp m;let q:(kvs.any λo=>decide (o.1=k))=true:=List.any_eq_true.mpr {p,C,zO e};rw[Gf,h] at q;show absurd q (by simp)
def Z7:∀{l:List κ}{k:κ},l.Nodup->¬ k∈l->(l++[k]).Nodup
 | [],k,_,_=>by simp
 | a::r,k,h,hk=>by
  let{C,o}:=E5.mp h;change (a::(r++[k])).Nodup;show E5.mpr {λm=>?_,Z7 o λm=>hk (za.mpr (Or.inr m))};rcases zr.mp m with q | q
  . show C q
  . show hk (za.mpr (Or.inl (zm.mp q).symm))
def fZ {kvs:List (κ×V)}(v)(o:(kvs.map (·.1)).Nodup)(h:AW kvs k=none):((Ay kvs k v).map (·.1)).Nodup:=by rw[Q3 v h,zP];show Z7 o (dF h)
end
end L2
set_option maxHeartbeats 4000000
namespace L2
open PySem PySem.Spec PyProof.Rows
def iP (I:Nat->Shared->Prop)
 (turn:∀n s,I n s->wpAny ∅ A (pyNext it) (λr J=>match r with
  | none=>R (.ok .next) J
  | some v=>wpAny ∅ A (letOwnedTupleGo target it v) (λ_ C=>wpAny ∅ A (assign target env v) (λ_ s₂=>
   wpAny ∅ A (forIn ifs true λc r=>if r=true then do let ok <-isTrue c env (eval c env);pure (ForInStep.yield ok) else pure (ForInStep.yield r)) (λok o=>
    if ok=true then wpAny ∅ A (eval elt env) (λx s₄=>
     wpAny ∅ A (call (.builtin "list.append") [acc,x]) (λ_ U=>∃m,m<n/\I m U) (λ_ _=>False) s₄) (λ_ _=>False) o
    else ∃m,m<n/\I m o) (λ_ _=>False) s₂) (λ_ _=>False) C) (λ_ _=>False) J) (λ_ _=>False) s)
 (n)(h:I n s):codeAny ∅ A (.compLoop (.ListComp elt [⟨target,iter,ifs,0⟩] scope pos) 0 it acc env) R s:=by
 show codeAny_loop rfl I (λn s hI=>?_) n h;change wpAny _ A ((compTurn (.ListComp elt [⟨target,iter,ifs,0⟩] scope pos) 0 it acc env).onRaise (λx=>do noteFrame x env;theTreesLotGoes x)) _ _ s
 show wpAny_noted ?_;rw[compTurn_list];show zA (wpAny_standAt (zA (BE (turn n s hI) (λr J h₁=>?_) λ_ _ h'=>h'.elim)));cases r with
 | none=>show zG h₁
 | some v=>
  show zA (BE h₁ (λ_ C h₁'=>?_) λ_ _ h'=>h'.elim);show zA (BE h₁' (λ_ s₂ h₂=>zA (BE h₂ (λok o h₃=>?_) λ_ _ h'=>h'.elim)) λ_ _ h'=>h'.elim);cases ok with
  | false=>show zG {0,h₃}
  | true=>show zA (zA (BE h₃ (λx s₄ h₄=>zA (BE h₄ (λ_ U h₅=>zG (zG {0,h₅})) λ_ _ h'=>h'.elim)) λ_ _ h'=>h'.elim))
def NH (X:Cx)(ifs:List Expr)(t:TT):Prop:=
 ∀pins s σ H Q,AA X pins σ H s->t σ H Q ->
  wpAny (model X.prog X.w) X.A (forIn ifs true λc r=>if r=true then do let ok <-isTrue c X.env (eval c X.env);pure (ForInStep.yield ok) else pure (ForInStep.yield r)) (TP X pins σ Q) X.xe s
def Gy:TT:=λ_ H Q=>Q true H
def BW {A B:Hp->Prop}(h:A H):Gy σ H (λb H3=>if b=true then A H3 else B H3):=by
 change (if true=true then A H else B H)
 show AZ h
def BM :NH X [] Gy:=λ_ _ _ H _ I h=>wpAny_tests_nil ⟨H,I,h⟩
def Dw (h:PT X c t):NH X [c] t:=λpins s σ H Q I q=>wpAny_tests_one (h pins s σ H Q I q)
meta def CB (cells:List (Str×Addr)):List (Str×NameKind)->List (Str×Addr)->List (Str×Addr)
 | [],acc=>acc
 | (n,k)::r,acc=>if (k == .free)=true then (match cells.lookup n with | some c=>CB cells r ((n,c)::acc) | none=>CB cells r acc) else CB cells r acc
def Q8 :∀names acc,(CB cells names acc).lookup x=some c->acc.lookup x=some c\/cells.lookup x=some c
 | [],acc,h=>.inl h
 | (n,k)::r,acc,h=>by
  unfold CB at h;split at h
  . cases C:cells.lookup n with
    | none=>rw[C] at h;show Q8 r acc h
    | some J=>
     rw[C] at h;rcases Q8 r _ h with q | q
     . rw[FU] at q;cases o:x==n with
       | true=>
        rw[o] at q;let e:x=n:=‹o›
        let I:J=c:=‹q›
        rw[e,C,I];show .inr rfl
       | false=>rw[o] at q;show .inl q
     . show .inr q
  . show Q8 r acc h
def Ri :∀names acc,(∃c,acc.lookup x=some c)->∃c,(CB cells names acc).lookup x=some c
 | [],acc,h=>h
 | (n,k)::r,acc,h=>by
  unfold CB;split
  . cases I:cells.lookup n with
    | none=>show Ri r acc h
    | some o=>
     show Ri r _ ?_;rw[FU];cases C:x==n with
     | true=>show{o,0}
     | false=>show h
  . show Ri r acc h
def Qu (o:∃c,cells.lookup x=some c):∀names acc,(x,NameKind.free)∈names->∃c,(CB cells names acc).lookup x=some c
 | [],acc,h=>by simp at h
 | (n,k)::r,acc,h=>by
  rcases za.mp h with e | h
  . ext e;let{c,C}:=o;unfold CB;rw[if_pos (by rfl),C];show Ri r _ {c,by rw[FU];simp}
  . unfold CB;split
    . cases C:cells.lookup n with
      | none=>show Qu o r acc h
      | some I=>show Qu o r _ h
    . show Qu o r acc h
def SE :∀names acc,(∀y∈names,y.2=.free->∃c,env.cells.lookup y.1=some c) ->
 (forIn names acc λ(x:Str×NameKind)(cs:List (Str×Addr))=>(if (x.2 == .free)=true then (do let a <-cellOf env x.1;pure (ForInStep.yield ((x.1,a)::cs))) else pure (ForInStep.yield cs):Sem (ForInStep (List (Str×Addr)))))=pure (CB env.cells names acc)
 | [],acc,_=>rfl
 | (n,k)::r,acc,h=>by
  rw[List.forIn_cons];let C:∀y∈r,y.2=.free->∃c,env.cells.lookup y.1=some c:=λy I=>h y (zd _ I);unfold CB;cases o:(k==NameKind.free) with
  | true=>let{c,J}:=h (n,k) zX ‹o›;simp only[o,if_true,cellOf,J,pure_bind];show SE r _ C
  | false=>simp only[o,Je,if_false,pure_bind];show SE r _ C
def eO (h:∀y∈scope.names,y.2=.free->∃c,env.cells.lookup y.1=some c):closureFor scope env=pure (CB env.cells scope.names []):=by let e:=SE scope.names [] h;simp only[closureFor];simp only[bind_pure];show e
def TQ {env:Env}:∀(names:List (Str×NameKind)),
 (names.map λ(n,k)=>if (k==NameKind.free && env.scope.kind == .function && env.kindOf n==some .cell) then (n,NameKind.cell) else (n,k)).lookup x =
  (names.lookup x).map λk=>if (k==NameKind.free && env.scope.kind == .function && env.kindOf x==some .cell)=true then NameKind.cell else k
 | []=>rfl
 | (n,k)::r=>by
  let C:=TQ (env:=env) (x:=x) r;rw[Bj];change List.lookup x ((if (k==NameKind.free && env.scope.kind == .function && env.kindOf n==some .cell)=true then (n,NameKind.cell) else (n,k))::_)=_
  by_cases c:(k==NameKind.free && env.scope.kind == .function && env.kindOf n==some .cell)=true
  . rw[if_pos c,FU,FU];cases o:x==n with
    | true=>
     let e:x=n:=‹o›
     subst e;change some NameKind.cell=Option.map _ (some k);rw[GV,if_pos c]
    | false=>show C
  . rw[if_neg c,FU,FU];cases o:x==n with
    | true=>
     let e:x=n:=‹o›
     subst e;change some k=Option.map _ (some k);rw[GV,if_neg c]
    | false=>show C
meta def Gz (yc:Option Str)(n:Addr)(cl:List (Str×Addr)):List (Str×Addr):=match yc with
 | none=>cl
 | some y=>(y,n)::cl
meta def SD (scope:Scope)(yc:Option Str)(cl:List (Str×Addr))(C:Addr)(env:Env):Env:=
 { scope:=relabel scope env,locals:=C,globals:=env.globals,cells:=Gz yc (C+1) cl,qual:=env.qual,func:=none,code:=env.code,frame:=env.frame,builtins:=env.builtins }
def iH (I:∀n acc,cellsFrom n scope.names acc=Gz yc n acc)
 (J:∀h':Heap,h'.Ns ↥s (λ_=>none)->(∀b o,s.heap.get? b=some o->h'.get? b=some o)->(∀y,yc=some y->h'.IsCell (↥s+1) none) ->
  Q (newEnv scope ↥s globals (Gz yc (↥s+1) cl) qual none .none (some env) builtinsNs) { s with heap:=h',toks:=s.toks }):
 wpAny M A (newFunctionEnv scope globals cl [] qual none .none (some env)) Q E s:=by
 simp only[newFunctionEnv,Option.isSome_some,if_true];show zA (wpAny_alloc ?_);show zA (wpAny_layCells _ (λname kind cells=>by cases C:kind==NameKind.cell <;> simp[C]) _ _ _ _ ?_);let ok:=cellsFrom_ok scope.names (s.heap.push { cls:=.type "dict",data:=.dict #[] }) (↥s+1) [] {λ_ _ hm=>(nomatch hm),JM} (by rw[Bz];show zJ _);rw[Bz] at ok;rw[show ({ s with heap:=s.heap.push { cls:=.type "dict",data:=.dict #[] } }:Shared).heap.objs.size=↥s+1 from Bz ..];rw[I] at ok ⊢;show zA ?_;rw[List.forIn_nil];show zG (zG ?_);show J _ ((Heap.Ns.new s.heap (.type "dict")).keeps (pushCells_keeps _ _)) (λb o e=>pushCells_keeps _ _ b o (zL _ e)) λy z=>by subst z;show (ok.empty _ _ zX).1
meta def C9 (X:Cx)(o:CP)(N':List Str)(scope:Scope)(yc:Option Str)(fp:List Addr)(s3:Shared)(H3:Hp):Cx where
 prog:=X.prog
 w:=X.w
 K:=X.K
 mg:=X.mg
 base:=X.base
 A:=X.A
 N:=N'
 s₀:=s3
 H₀:=H3
 env:=SD scope yc (CB X.env.cells scope.names []) ↥s3 X.env
 outer:=X.stack
 stack:=X.stack
 ex:=fp
 fn:=λx=>yc==some x
 calm:=X.calm
 pn:=o
 xe:=λ_ _=>False
meta abbrev BN (X:Cx)(o:CP)(N':List Str)(scope:Scope)(fp:List Addr)(s3:Shared)(H3:Hp):Cx:=C9 X o N' scope none fp s3 H3
meta abbrev Nd (X:Cx)(o:CP)(N':List Str)(scope:Scope)(yc:Str)(fp:List Addr)(s3:Shared)(H3:Hp):Cx:=C9 X o N' scope (some yc) fp s3 H3
structure GO (X:Cx)(scope:Scope)(yc:Option Str):Prop where
 kind:scope.kind=.function
 cf:∀n acc,cellsFrom n scope.names acc=Gz yc n acc
 own:∀y,yc=some y->scope.names.lookup y=some .cell
 one:∀y∈scope.names,y.2=.cell->yc=some y.1
 names:∀y∈scope.names,y.2=.local->scope.names.lookup y.1=some .local
 free:∀y∈scope.names,y.2=.free->X.env.kindOf y.1=some .cell
def HS (X:Cx)(scope:Scope):List Str->List Nat->Prop
 | [],[]=>True
 | x::cn,j::ci=>X.N[j]?=some x/\X.env.kindOf x=some .cell/\scope.names.lookup x=some .free/\HS X scope cn ci
 | _,_=>False
def HS.get :∀{cn:List Str}{ci:List Nat}{k:Nat}{x:Str},HS X scope cn ci->cn[k]?=some x->∃j,ci[k]?=some j/\X.N[j]?=some x/\X.env.kindOf x=some .cell/\scope.names.lookup x=some .free
 | [],_,_,_,_,h=>by simp at h
 | _::_,[],_,_,c,_=>c.elim
 | y::cn,j::ci,0,x,c,h=>by
  let{a,b,J,_}:=c;let e:y=x:=‹h›
  subst e;show{j,0,a,b,J}
 | y::cn,j::ci,k+1,x,c,h=>by let{o,I,C}:=HS.get (k:=k) c.2.2.2 ‹h›;show{o,‹I›,C}
section
variable {X:Cx}{pins:CP}{σ:St}{H3:Hp}{s3:Shared}{scope:Scope}{fp:List Addr}{N' own cn:List Str}{ci:List Nat}{cv:List V}
def PQ (h:(Gz yc n cl).lookup x=some c):(yc=some x/\c=n)\/(yc≠some x/\cl.lookup x=some c):=by
 cases yc with
 | none=>show .inr {(by intro z;cases z),h}
 | some y=>
  let h:((y,n)::cl).lookup x=some c:=h;rw[FU] at h;cases o:x==y with
  | true=>rw[o] at h;cases h;show .inl {by rw[show x=y by simpa using o],0}
  | false=>rw[o] at h;show .inr {λz=>by cases z;simp at o,h}
def Zi (h:yc≠some x):(Gz yc n cl).lookup x=cl.lookup x:=by
 cases yc with
 | none=>rfl
 | some y=>change ((y,n)::cl).lookup x=_;rw[FU,show (x==y)=false by simpa using λz:x=y=>h (by rw[z])]
def Zx (h:(CB X.env.cells scope.names []).lookup x=some c):X.env.cells.lookup x=some c:=by
 rcases Q8 _ _ h with q | q
 . simp at q
 . show q
def We (ok:X.Ok)(S:GO X scope yc)(h:(relabel scope X.env).names.lookup x=some .cell\/(relabel scope X.env).names.lookup x=some .free):
 ∃c,(Gz yc n (CB X.env.cells scope.names [])).lookup x=some c:=by
 by_cases o:yc=some x
 . subst o;show{n,by change ((x,n)::_).lookup x=_;rw[FU,beq_self_eq_true]}
 rw[Zi o];let e:(relabel scope X.env).names.lookup x=(scope.names.lookup x).map λk=>if (k==NameKind.free && X.env.scope.kind == .function && X.env.kindOf x==some .cell)=true then NameKind.cell else k:=TQ scope.names
 let hf:scope.names.lookup x=some .free:=by
  cases q:scope.names.lookup x with
  | none=>rw[e,q] at h;simp at h
  | some k=>
   by_cases C:k=.free
   . rw[C]
   . let hb:(k==NameKind.free)=false:=‹C›
     rw[e,q] at h;simp only[GV,hb,CH,Je,if_false,Option.some.injEq] at h;rcases h with h | h
     . show absurd (S.one _ (PySem.mem_of_lookup q) h) o
     . show absurd h C
 show Qu (ok.has x (.inl (S.free _ (PySem.mem_of_lookup hf) rfl))) scope.names [] (PySem.mem_of_lookup hf)
def Mx (I:AA X pins σ H3 s3)(h:(Gz yc n (CB X.env.cells scope.names [])).lookup x=some c):(yc=some x/\c=n)\/(yc≠some x/\X.env.cells.lookup x=some c/\c<↥s3):=by
 rcases PQ h with z | ⟨z,e⟩
 . show .inl z
 . let C:=Zx e;let{v,o,J,_}:=I.cell x c C;show .inr {z,C,zY J}
def fU (I:AA X pins σ H3 s3)(S:GO X scope yc)(f:∀b∈fp,Ek X pins H3 b)(U:∀b∈fp,b<↥s3):(C9 X (X.pn++pins) N' scope yc fp s3 H3).Ok where
 mod:=I.ok.mod
 kind:=S.kind
 glob:=I.ok.glob
 blt:=I.ok.blt
 above:=zJ _
 inj:=λx y c h1 h2=>by
  rcases Mx I h1 with ⟨a,b⟩ | ⟨a,b,d⟩ <;> rcases Mx I h2 with ⟨J,C⟩ | ⟨J,C,d'⟩
  . rw[a] at J;ext J;rfl
  . rw[b] at d';show absurd d' (Nat.not_lt.mpr (Bk _))
  . rw[C] at d;show absurd d (Nat.not_lt.mpr (Bk _))
  . show I.ok.inj x y c b C
 has:=λx h=>We I.ok S h
 cab:=λx c h e=>by
  let hx:yc=some x:=by simpa using (show (yc==some x)=true from h)
  rcases Mx I e with ⟨_,b⟩ | ⟨a,_⟩
  . rw[b];show Bk _
  . show absurd hx a
 hd:=I.ok.hd
 frames:=I.ok.frames
 stk:=.inl rfl
 exf:=λb hb=>{zh (U b hb),λx c h=>by
  let:=U b hb;rcases Mx I h with ⟨_,d⟩ | ⟨_,d,_⟩
  . intro z;rw[<-z,d] at this;show absurd this (Nat.not_lt.mpr (Bk _))
  . show (f b hb).2.2.2.2.1 x c d}
 bs:=I.bs
 bsz:=BC I.ok.bsz I.sz
 noex:=λb o e hb=>by
  rcases (f b hb).2.2.2.1 with z | z
  . show I.ok.noex b o e z
  . show absurd (zo (zY e) (BC I.ok.bsz z)) (FN _)
 exfs:=λb hb z=>by
  rcases za.mp (I.stkSub b z) with q | q
  . show (f b hb).2.1 q
  . show (f b hb).2.2.1 q
 funs:=I.stack
 frf:=I.stkFree
def iG (I:AA X pins σ H3 s3)(S:GO X scope yc)(f:∀b∈fp,Ek X pins H3 b)(fz:∀b∈fp,b<↥s3)
 (hN:N'=own++cn)(hc:HS X scope cn ci)(hv:ci.map (λj=>σ[j]?)=cv.map λv=>some (some v))(hl:cn.length=ci.length)
 (lD:h1.Ns ↥s3 (λ_=>none))(hk:∀b o,s3.heap.get? b=some o->h1.get? b=some o)(oA:∀y,yc=some y->h1.IsCell (↥s3+1) none):
 AA (C9 X (X.pn++pins) N' scope yc fp s3 H3) [] (List.replicate own.length none++cv.map some) H3 { s3 with heap:=h1,toks:=t }:=by
 let U:cv.length=ci.length:=by let:=congrArg List.length hv;simpa using this.symm
 show{fU I S f fz,0,I.bare,Un.kept hk,{_,lD,λi x v e1 C e3=>?_},λx c e=>?_,I.hok.fresh (zJ _),λx c e=>?_,λp hp=>?_,I.hok.kept hk,?_}
 . -- a captured name
   let hi:own.length<=i:=by
    by_cases hi:own.length<=i
    . show hi
    . rw[zV ‹hi›,List.getElem?_replicate] at C;split at C <;> ext C
   rw[zS ‹hi›,List.length_replicate,zM] at C;let e1':(own++cn)[i]?=some x:=by rwa[<-hN]
   rw[zS hi] at e1';let{j,hj,hNj,hkx,J}:=hc.get e1';let hcv:cv[i-own.length]?=some v:=by
    cases q:cv[i-own.length]? with
    | none=>rw[q] at C;ext C
    | some v'=>rw[q] at C;ext C;rfl
   let hσ:σ[j]?=some (some v):=by let:=congrArg (λl:List (Option (Option V))=>l[i-own.length]?) hv;simp only[zM,hj,hcv,GV,Option.some.injEq] at this;show this
   let{m,_,kO}:=I.loc;let{u,r,q}:=kO j x v hNj hσ (.inr (.inl hkx));let hkd:(relabel scope X.env).names.lookup x=some .cell\/(relabel scope X.env).names.lookup x=some .free:=by
    let e:(relabel scope X.env).names.lookup x=(scope.names.lookup x).map λk=>if (k==NameKind.free && X.env.scope.kind == .function && X.env.kindOf x==some .cell)=true then NameKind.cell else k:=TQ scope.names
    rw[e,J,GV];by_cases cc:(NameKind.free==NameKind.free && X.env.scope.kind == .function && X.env.kindOf x==some .cell)=true
    . rw[if_pos cc];show .inl rfl
    . rw[if_neg cc];show .inr rfl
   let{c',ll}:=We (n:=↥s3+1) I.ok S hkd;let mT:yc≠some x:=λz=>by rw[S.own x z] at J;ext J
   show{u,r,.inr {hkd,c',ll,?_}};rcases q with ⟨z,_⟩ | ⟨_,c,hcc,o,ho,hd⟩
   . rw[hkx] at z;ext z
   . let e:c=c':=zZ (hcc.symm.trans (Zx ((Zi mT).symm.trans ll)));subst e;show{o,hk c o ho,hd}
 . rcases Mx I e with ⟨z,d⟩ | ⟨_,d,_⟩
   . rw[d];show{_,oA x z}
   . let{v,o,ho,hd}:=I.cell x c d;show{v,o,hk c o ho,hd}
 . rcases Mx I e with ⟨_,d⟩ | ⟨_,d,_⟩
   . rw[d];show I.hok.fresh (Bk _)
   . show I.freeC x c d
 . let hp':p∈X.pn++pins:=by rwa[Bq] at hp
   let{e,n,ne,nf,d}:=I.pin p hp';show{hk _ _ e,n,zh (zY e),λz=>?_,d};rcases za.mp (I.stkSub p.1 z) with q | q
   . show ne q
   . show nf q
 . change (List.replicate own.length none++cv.map some).length=N'.length;rw[hN,zK,zK,List.length_replicate,zC,U,hl]
def Ja (J:It)(own:Nat)(cv:List V)(g:TG)(ti:TT)(te:TE)(D:Addr)(H1:Hp)(Q:VK):Prop:=∃W:Nat->Nat->List V->Hp->Prop,(∃m,W 0 m [] (upd H1 D (.lst [])))/\∀i m C H,W i m C H ->
 (J.stop i H/\Q (.ref D) H)\/(J.go i H/\C.length<sizeLine/\∃N:List V->Hp->Prop,(∀I H',N I H'->∃U,U<m/\W (i+1) U I H') /\
  ∀x H',J.yld i H x H'->g x (List.replicate own none++cv.map some) H' λo H2=>(o.length=own+cv.length/\o.drop own=cv.map some) /\
   ti o H2 λb H3=>if b=true then te o H3 λy H4=>H4 D=some (.lst C)/\N (C++[y]) (upd H4 D (.lst (C++[y]))) else N C H3)
inductive Wr (own:Nat)(ci:List Nat)(g:TG)(ti:TT)(te:TE)(σ:St)(Q:VK)(J:It)(H1:Hp):Prop
 | mk:∀cv:List V,(ci.map (λj=>σ[j]?)=cv.map (λv=>some (some v)))->(∀D,H1 D=none->Ja J own cv g ti te D H1 Q)->Wr own ci g ti te σ Q J H1
def Sk (own:Nat)(ci:List Nat)(o:TI)(g:TG)(C:TT)(te:TE):TE:=λσ H Q=>o σ H λJ H1=>Wr own ci g C te σ Q J H1
def WT (lj:X.calm=true)(S:GO X scope yc)(hc:HS X scope cn ci)(hl:cn.length=ci.length)
 (hi:PI X target iter wi)(hg:∀pl fp s3 H3,PG (C9 X pl (own++cn) scope yc fp s3 H3) target g)(ht:∀pl fp s3 H3,NH (C9 X pl (own++cn) scope yc fp s3 H3) ifs ti)
 (he:∀pl fp s3 H3,PE (C9 X pl (own++cn) scope yc fp s3 H3) elt te)(hs:∀x,foldedSetIterable iter X.env x=pure x)(I:AA X pins σ H s)(h:Sk own.length ci wi g ti te σ H Q)
 (fin:∀D C H5 s6 m6,AA X pins σ H5 s6->s6.heap.Ns C m6->H5 C=none->C≠X.env.locals->X.s₀.heap.objs.size<=C->(∀x c,X.env.cells.lookup x=some c->c≠C) ->
  (∀p∈X.pn++pins,p.1≠C)->Q (.ref D) H5->compPost (model X.prog X.w) X.A X.xe use Q0 (.ref D) C (.ok .next) s6):
 wpAny (model X.prog X.w) X.A (comprehension (.ListComp elt [⟨target,iter,ifs,0⟩] scope pos) scope X.env jw (newList []) false (eval iter X.env) use) Q0 X.xe s:=by
 let oA:closureFor scope X.env=pure (CB X.env.cells scope.names []):=eO λy hy hf=>I.ok.has y.1 (.inl (S.free y hy hf));show wpAny_comprehension_free (use:=use) rfl hs oA S.kind S.names ?_;show AI (hi pins s σ H _ I h) λv s1 h1=>AI h1 λitv s2 h2=>?_;let{it,fp,tn,J,H2,e,I2,T,st2,f2,cv,hv,hD}:=h2;subst e;let lenv:cv.length=ci.length:=by let:=congrArg List.length hv;simpa using this.symm
 let I3:=I2.lnew (ys:=[]) (its:=[]) (t':=s2.toks) .nil (zj _);let{W,{m0,w0},turn}:=hD ↥s2 I2.fresh;let fz:∀b∈fp,b<↥s2:=λb hb=>by let{o,ho,_}:=T.obj _ _ st2 b hb;show zY ho
 show C5 ?_;show iH S.cf (λh4 hns4 hk4 hc4=>?_);generalize hs3:({ s2 with heap:=s2.heap.push { cls:=.type "list",dict:=none,data:=.seq ([]:List Value).toArray } }:Shared)=s3 at hns4 hk4 hc4 ⊢;let I3':AA X pins σ (upd H2 ↥s2 (.lst [])) s3:=by rwa[<-hs3]
 let hsz3:↥s3=↥s2+1:=by rw[<-hs3];show Bz ..
 let k23:∀b o,s2.heap.get? b=some o->s3.heap.get? b=some o:=λb o e=>by rw[<-hs3];show zL _ e
 let k34:∀b o,s3.heap.get? b=some o->h4.get? b=some o:=hk4;let nD:∀b∈fp,b≠↥s2:=λb hb=>zh (fz b hb);let f3:∀b∈fp,Ek X pins (upd H2 ↥s2 (.lst [])) b:=λb hb=>{by rw[zi (nD b hb)];show (f2 b hb).1,(f2 b hb).2};let fz3:∀b∈fp,b<↥s3:=λb hb=>by rw[hsz3];show Fp (fz b hb)
 let I4:AA (C9 X (X.pn++pins) (own++cn) scope yc fp s3 (upd H2 ↥s2 (.lst []))) [] (List.replicate own.length none++cv.map some) (upd H2 ↥s2 (.lst [])) { s3 with heap:=h4,toks:=s3.toks }:=
  iG I3' S f3 fz3 rfl hc hv hl hns4 k34 hc4
 let st4:tn 0 h4:=T.keep _ _ _ st2 λb hb o e=>k34 b o (k23 b o e);generalize U:C9 X (X.pn++pins) (own++cn) scope yc fp s3 (upd H2 ↥s2 (.lst []))=X' at I4;let hg':PG X' target g:=by rw[<-U];show hg _ _ _ _
 let ht':NH X' ifs ti:=by rw[<-U];show ht _ _ _ _
 let kZ:PE X' elt te:=by rw[<-U];show he _ _ _ _
 let ePr:X'.prog=X.prog:=by rw[<-U];rfl
 let eW:X'.w=X.w:=by rw[<-U];rfl
 let eK:X'.K=X.K:=by rw[<-U];rfl
 let eA:X'.A=X.A:=by rw[<-U];rfl
 let eE:X'.env=SD scope yc (CB X.env.cells scope.names []) ↥s3 X.env:=by rw[<-U];rfl
 let eXe:X'.xe=λ_ _=>False:=by rw[<-U];rfl
 let eC:X'.calm=true:=by rwa[<-U]
 let eex:X'.ex=fp:=by rw[<-U];rfl
 let epn:X'.pn=X.pn++pins:=by rw[<-U];rfl
 let es0:X'.s₀=s3:=by rw[<-U];rfl
 let eH0:X'.H₀=upd H2 ↥s2 (.lst []):=by rw[<-U];rfl
 let efs:X'.fs=A7 X.stack:=by rw[<-U];rfl
 let ok':=I4.ok;let mI:∀{H':Hp},(∀b∈fp,H' b=none)->∀b∈fp,Ek X' [] H' b:=λhn b hb=>by
  let kS:b∈X'.ex:=by rwa[eex]
  show{hn b hb,(ok'.exf b kS).1,ok'.exfs b kS,.inl kS,(ok'.exf b kS).2,λp hp=>?_};rw[epn,Bq] at hp;show (f2 b hb).2.2.2.2.2 p hp
 let wk:∀(σ2:St),(σ2.length=own.length+cv.length/\σ2.drop own.length=cv.map some)->∀{pl:CP}{H':Hp}{s':Shared},AA X' pl σ2 H' s'->AA X' pl (List.replicate own.length none++cv.map some) H' s':=λσ2 hq pl H' s' I'=>by
  show I'.weak (by rw[hq.1,zK,List.length_replicate,zC]) λi v hi=>?_;by_cases jy:i<own.length
  . rw[zV ‹jy›,List.getElem?_replicate] at hi;split at hi <;> ext hi
  . rw[zS ‹jy›,List.length_replicate,<-hq.2,List.getElem?_drop] at hi;rwa[show own.length+(i-own.length)=i by lia] at hi
 let loop:codeAny (model X.prog X.w) X.A (.compLoop (.ListComp elt [⟨target,iter,ifs,0⟩] scope pos) 0 (.ref it) (.ref ↥s2) (SD scope yc (CB X.env.cells scope.names []) ↥s3 X.env))
  (compPost (model X.prog X.w) X.A X.xe use Q0 (.ref ↥s2) ↥s3) { s3 with heap:=h4,toks:=s3.toks }:=by
  show iP (λn s'=>∃i ys H',AA X' [] (List.replicate own.length none++cv.map some) H' s'/\tn i s'.heap/\(∀b∈fp,H' b=none)/\W i n ys H') ?_ m0
   ⟨0,[],_,I4,st4,λb hb=>(f3 b hb).1,w0⟩
  rintro n s5 ⟨i,ys,H5,I5,st5,fr5,w5⟩;rcases turn i n ys H5 w5 with ⟨stop,qn⟩ | ⟨go,hsz,N,hN,step⟩
  . let d:=T.done X' ePr eW eK eC i [] s5 _ H5 (λ_ _=>False) I5 (mI fr5) st5 stop;rw[eA] at d;show AI d λr s6 ⟨hr,I6⟩=>?_;subst hr;let{m6,hn6,_}:=I6.loc;rw[eE] at hn6;let hn6':s6.heap.Ns ↥s3 m6:=hn6;let un6:Un (A7 X.stack) fp (upd H2 ↥s2 (.lst [])) H5 s3.heap s6.heap:=by let b6:=I6.base;rwa[efs,eex,eH0,es0] at b6
    let os6:s6.os=s3.os:=by let o6:=I6.os;rwa[es0] at o6
    let hok6:Aq X.prog X.w H5 s6.heap:=by let o6:=I6.hok;rwa[ePr,eW] at o6
    let I7:AA X pins σ H5 s6:=I3'.call' (ch:=fp) os6 un6 hok6 I6.bare λb hb=>{(f2 b hb).2.2.2.1,(f2 b hb).2.1,(f2 b hb).2.2.2.2.1,(f2 b hb).2.2.2.2.2};let fr6:H5 ↥s3=none:=by let q:=I6.free;rwa[eE] at q
    show fin ↥s2 ↥s3 H5 s6 m6 I7 hn6' fr6 (Bg I3'.lt) I3'.sz (λx c e=>?_) (λp hp=>?_) qn
    . let{_,o,ho,_}:=I3'.cell x c e;show zh (zY ho)
    . show zh (zY (I3'.pin p hp).1)
  . let d:=T.item X' ePr eW eK eC i [] s5 _ H5 (λ_ _=>False) I5 (mI fr5) st5 go;rw[eA] at d;show AI d λr s6 ⟨u,hr,h6⟩=>?_;subst hr;show AI h6 λ_ s7 ⟨x,H7,I7,r7,y7,st7,fr7⟩=>?_;let I7':=I7.pinned (mI fr7) (T.obj _ _ st7);let g7:=hg' _ s7 _ H7 x u _ I7' r7 (step x H7 y7);rw[ePr,eW,eA,eE,eXe] at g7;show AI g7 λ_ s8 ⟨σ8,H8,I8,q8,ti8⟩=>?_;let t8:=ht' _ s8 σ8 H8 _ I8 ti8;rw[ePr,eW,eA,eE,eXe] at t8;show AI t8 λok s9 ⟨H9,I9,q9⟩=>?_;let again:∀{ys':List V}{H':Hp}{s':Shared},AA X' ([]++Nt fp s7.heap) σ8 H' s'->N ys' H' ->
     ∃m,m<n/\∃i ys H',AA X' [] (List.replicate own.length none++cv.map some) H' s'/\tn i s'.heap/\(∀b∈fp,H' b=none)/\W i m ys H':=λ{ys' H' s'} I' n'=>by
     let{m',hm,w'}:=hN ys' H' n';show{m',hm,i+1,ys',H',(wk σ8 q8 I').unpinned,T.keep _ _ _ st7 λb hb o e=>(I'.pin (b,o) (DI _ (DI _ (Q2 hb e)))).1,λb hb=>?_,w'};let{o,e,_}:=T.obj _ _ st7 b hb;show (I'.pin (b,o) (DI _ (DI _ (Q2 hb e)))).2.1
    cases ok with
    | false=>show again I9 q9
    | true=>have e9:=kZ _ s9 σ8 H9 _ I9 q9;rw[ePr,eW,eA,eE,eXe] at e9;show AI e9 λu10 s10 ⟨y,H10,I10,r10,hD10,n10⟩=>?_;let a10:=FF (X:=X') _ s10 σ8 H10 (.ref ↥s2) [y] (.ref ↥s2) [u10] (λ_ H'=>N (ys++[y]) H') I10 rfl (.cons r10 .nil) {9,hD10,hsz,n10};rw[ePr,eW,eA,eXe] at a10;show AI a10 λ_ mS ⟨_,H11,I11,_,n11⟩=>again I11 n11
 show codeAny_compStart_list loop (T.self X.A 0 _ _ _ st4 loop)
def BU (lj:X.calm=true)(S:GO X scope yc)(hc:HS X scope cn ci)(hl:cn.length=ci.length)
 (hi:PI X target iter wi)(hg:∀J fp s3 H3,PG (C9 X J (own++cn) scope yc fp s3 H3) target g)(ht:∀J fp s3 H3,NH (C9 X J (own++cn) scope yc fp s3 H3) ifs ti)
 (he:∀J fp s3 H3,PE (C9 X J (own++cn) scope yc fp s3 H3) elt te)(hs:autoParam (∀x,foldedSetIterable iter X.env x=pure x) d_._auto_4):
 PE X (.ListComp elt [⟨target,iter,ifs,0⟩] scope pos) (Sk own.length ci wi g ti te):=by
 intro pins s σ H Q I h;rw[eval_ListComp];show WT lj S hc hl hi hg ht he hs I h λD C H5 U m6 I7 hn fr nL ge nC nP q=>{m6,hn,λh' mY=>{.ref D,H5,I7.turned (t':=U.toks) (it:=C) (λb o hb e=>mY.extBut b o hb e) fr nL (.inr ge) nC nP,0,q}}
def DW (hN:X.N.Nodup)(hix:X.N[i]?=some x)(hx:G9 X.env.scope x)(lj:X.calm=true)(S:GO X scope yc)(hc:HS X scope cn ci)(hl:cn.length=ci.length)
 (hi:PI X target iter wi)(hg:∀U fp s3 H3,PG (C9 X U (own++cn) scope yc fp s3 H3) target g)(ht:∀U fp s3 H3,NH (C9 X U (own++cn) scope yc fp s3 H3) ifs ti)
 (he:∀U fp s3 H3,PE (C9 X U (own++cn) scope yc fp s3 H3) elt te)(hs:autoParam (∀x,foldedSetIterable iter X.env x=pure x) d_._auto_4)
 (hsw:autoParam (swapsWith (.ListComp elt [⟨target,iter,ifs,0⟩] scope jw) (some (.Name x pos')) pos.line X.env=pure true) d_._auto_5)
 (hf:autoParam (X.fn x=true\/X.env.scope.names.lookup x=some .local) d_._auto_1):
 PS X (.Assign [.Name x pos'] (.ListComp elt [⟨target,iter,ifs,0⟩] scope jw) pos) (G5 (Sk own.length ci wi g ti te) (GA i)):=by
 intro pins s σ H D I h;rw[exec_Assign_Name_used _ _ _ _ hsw];show zA (wpAny_standAt (zA ?_));change wpAny _ X.A (do let _ <-comprehension (.ListComp elt [⟨target,iter,ifs,0⟩] scope jw) scope X.env _ (newList []) false (eval iter X.env) (some (assign (.Name x pos') X.env))) _ _ s
 show zA (BE (WT (use:=some (assign (.Name x pos') X.env)) (Q0:=λ_ J=>SP X pins D .next J) lj S hc hl hi hg ht he hs I h (λD' C H5 s6 m6 I7 hn fr nL ge nC nP q=>?_)) (λ_ J hq=>zG (zG hq)) λ_ _ e=>e);let{oC,es,ep,hoC,hd,r1}:=hn;let nf:C∉X.fs:=λhb=>by let{_,o,ho,_}:=I7.ok.funs.mem hb;show absurd (zo (zY ho) ge) (FN _)
 let I7':AA X (pins++[(C,oC)]) σ H5 s6:=I7.pins_of λp hp=>by
  rcases zr.mp hp with z | z
  . show I7.pin p (DI _ z)
  . rw[zm.mp z];show{hoC,fr,nL,nf,λv e=>by rw[hd] at e;ext e}
 change wpAny _ X.A (assign (.Name x pos') X.env (.ref D')) _ _ s6;show wpAny_assign_Name (Mq I7' hN hix hx (show AM (.ref D') (.ref D') from rfl) (λJ I'=>?_) hf);let hC':=(I'.pin (C,oC) (DI _ (DI _ (zm.mpr rfl)))).1;show{m6,⟨oC,es,ep,hC',hd,r1⟩,λh' mY=>{_,H5,?_,q}};let I2:AA X pins (σ.set i ⇑D') H5 J:=I'.pins_of λp hp=>I'.pin p (DI _ (Cy _ hp));show I2.turned (t':=J.toks) (it:=C) (λb o hb e=>mY.extBut b o hb e) fr nL (.inr ge) nC nP
end
meta def UH (outer inner:Scope)(yc:Option Str):Bool:=inner.names.all λy=>(y.2 != .cell || yc==some y.1) && (y.2 != .local || inner.names.lookup y.1==some .local) && (y.2 != .free || outer.names.lookup y.1==some .cell)
def Pm (J:scope.kind=.function)(C:∀n acc,cellsFrom n scope.names acc=Gz yc n acc)(I:∀y,yc=some y->scope.names.lookup y=some .cell)(h:UH X.env.scope scope yc=true):GO X scope yc:=by
 let a:=List.all_eq_true.mp h;show{J,C,I,λy o e=>?_,λy o e=>?_,λy o e=>?_}
 . let:=a y o;rw[e] at this;simpa using this
 . let:=a y o;rw[e] at this;simpa using this
 . let:=a y o;rw[e] at this;let U:X.env.scope.names.lookup y.1=some .cell:=‹this›
   show U
def Ax (C:scope.kind=.function)(h:UH X.env.scope scope none=true)(o:autoParam (∀n acc,cellsFrom n scope.names acc=acc) d_._auto_9):GO X scope none:=Pm C o (λ_ z=>by ext z) h
def Km (I:scope.kind=.function)(o:∀n acc,cellsFrom n scope.names acc=(yc,n)::acc)(C:scope.names.lookup yc=some .cell)(h:UH X.env.scope scope (some yc)=true):GO X scope (some yc):=Pm I o (λ_ z=>by ext z;show C) h
def Dm {l:List Str}(h:decide l.Nodup=true):l.Nodup:=of_decide_eq_true h
def CU:K4 (BN X pl N' sc fp s3 H3) (Fd X.K):=AV
def HW:K4 (BN X pl N' sc fp s3 H3) (Pt X.K):=AS
def Tv (I:X.calm=true)(h:Ox (BN X pl N' sc fp s3 H3) es t)
 (C:autoParam ((assignEach es (BN X pl N' sc fp s3 H3).env).length=n) d_._auto_5)(o:autoParam ((assignEach es (BN X pl N' sc fp s3 H3).env).findIdx? (·.1)=none) d_._auto_5):PG (BN X pl N' sc fp s3 H3) (.Tuple es k pos) (MD X.K n t):=C0 I h C o
def Th (Pv:Nat->List V->Hp->Prop)(h0:Pv 0 [] (upd H1 D (.lst [])))(hz:∀i ys H,Pv i ys H->ys.length<sizeLine)(C:∀i ys H,i<n->Pv i ys H->J.go i H/\∀x H',J.yld i H x H'->g x (List.replicate own none++cv.map some) H' λo H2=>(o.length=own+cv.length/\o.drop own=cv.map some) /\
  ti o H2 λb H3=>if b=true then te o H3 λy I=>I D=some (.lst ys)/\Pv (i+1) (ys++[y]) (upd I D (.lst (ys++[y]))) else Pv (i+1) ys H3)(hd:∀ys H,Pv n ys H->J.stop n H/\Q (.ref D) H):Ja J own cv g ti te D H1 Q:=by
 show{λi m ys H=>m=n-i/\i<=n/\Pv i ys H,{n,0,zj _,h0},?_};rintro i m ys H ⟨rfl,hi,p⟩;by_cases c:i<n
 . show .inr {(C i ys H c p).1,hz i ys H p,Pv (i+1),λU H' p'=>{n-(i+1),(),0,c,p'},(C i ys H c p).2}
 . obtain rfl:i=n:=()
   show .inl (hd ys H p)
def N1 {K:AF}(Pv:Nat->List V->Hp->Prop)(h0:Pv 0 [] (upd H1 D (.lst [])))(C:∀i ys H,Pv i ys H->AD K H a xs)(hz:∀i ys H,Pv i ys H->ys.length<sizeLine)
 (J:∀i x ys H,xs[i]?=some x->Pv i ys H->g x (List.replicate own none++cv.map some) H λo H2=>(o.length=own+cv.length/\o.drop own=cv.map some) /\
  ti o H2 λb H3=>if b=true then te o H3 λy I=>I D=some (.lst ys)/\Pv (i+1) (ys++[y]) (upd I D (.lst (ys++[y]))) else Pv (i+1) ys H3)
 (hd:∀ys H,Pv xs.length ys H->Q (.ref D) H):
 Ja (PZ K a) own cv g ti te D H1 Q:=Th Pv h0 hz (λi ys H c p=>have q:=C i ys H p;{{xs,xs[i],q,zB c},λx H' y=>by let{0,y}:=y;show J i x ys _ (y xs q) p}) λys H p=>{{xs,C _ ys H p,zJ _},hd ys H p}
def BS {K:AF}(Pv:Nat->List V->Hp->Prop)(h0:Pv 0 [] (upd H1 D (.lst [])))(C:∀i ys H,Pv i ys H->AB K H a xs)(hz:∀i ys H,Pv i ys H->ys.length<sizeLine)
 (J:∀i x ys H,xs[i]?=some x->Pv i ys H->g x (List.replicate own none++cv.map some) H λo H2=>(o.length=own+cv.length/\o.drop own=cv.map some) /\
  ti o H2 λb H3=>if b=true then te o H3 λy I=>I D=some (.lst ys)/\Pv (i+1) (ys++[y]) (upd I D (.lst (ys++[y]))) else Pv (i+1) ys H3)
 (hd:∀ys H,Pv xs.length ys H->Q (.ref D) H):
 Ja (OT K a) own cv g ti te D H1 Q:=Th Pv h0 hz (λi ys H c p=>have q:=C i ys H p;{{xs,xs[i],q,zB c},λx H' y=>by let{0,y}:=y;show J i x ys _ (y xs q) p}) λys H p=>{{xs,C _ ys H p,zJ _},hd ys H p}
def JB {lo:Int}(Pv:Nat->List V->Hp->Prop)(h0:Pv 0 [] (upd H1 D (.lst [])))(hz:∀i ys H,Pv i ys H->ys.length<sizeLine)
 (I:∀i ys H,i<n->Pv i ys H->g (.int (lo+i)) (List.replicate own none++cv.map some) H λo H2=>(o.length=own+cv.length/\o.drop own=cv.map some) /\
  ti o H2 λb H3=>if b=true then te o H3 λy C=>C D=some (.lst ys)/\Pv (i+1) (ys++[y]) (upd C D (.lst (ys++[y]))) else Pv (i+1) ys H3)
 (hd:∀ys H,Pv n ys H->Q (.ref D) H):
 Ja (NN lo n) own cv g ti te D H1 Q:=Th Pv h0 hz (λi ys H c p=>{c,λx H' y=>by let{3}:=y;show I i ys _ c p}) λys H p=>{zJ n,hd ys H p}
end L2
namespace SortT
open PySem.W PyProof.Rows
meta def ev {α:Type}(lt:Nat->Nat->Bool):KasT α->α
 | .ret a=>a
 | .ask i j k=>ev lt (k (lt i j))
def Mv (lt:Nat->Nat->Bool)(f:α->KasT β):∀t:KasT α,ev lt (t.bind f)=ev lt (f (ev lt t))
 | .ret _=>rfl
 | .ask i j k=>Mv lt f (k (lt i j))
section
variable {O:KeyOrd}{key:Nat->O.α}
meta def kk (key:Nat->O.α)(p:Array Nat)(i:Nat):O.α:=key (p.getD i 0)
def Sr (key:Nat->O.α)(p:Array Nat)(n:Nat):Prop:=∀i j,i<=j->j<n->O.kle (kk key p i) (kk key p j)
def Fl (key:Nat->O.α)(p:Array Nat)(n:Nat):Prop:=∀i j,i<=j->j<n->O.kle (kk key p j) (kk key p i)
def Nh (h:p[i]?=q[j]?):kk key p i=kk key q j:=by unfold kk;rw[Array.getD_eq_getD_getElem?,Array.getD_eq_getD_getElem?,h]
def Ti (C:j<=p.size)(k):kk key (kas_rev p i j) k=if i<=k/\k<j then kk key p (i+j-1-k) else kk key p k:=by
 let e:=getElem?_mirror_all (i:=i) C k;unfold kas_rev;by_cases o:i<=k/\k<j
 . rw[if_pos o] at e ⊢;show Nh e
 . rw[if_neg o] at e ⊢;show Nh e
def TF (o:j<=p.size)(he:∀k,i<=k->k<j->kk key p k=kk key p (j-1))(k):kk key (kas_rev p i j) k=kk key p k:=by
 rw[Ti o];split
 . rw[he _ () (by omega),he k () ()]
 . rfl
def VS (I:src<p.size)(hd:d<=src)(k):
 kk key (bubble p src d) k=if k=src-d then kk key p src else if src-d<k/\k<=src then kk key p (k-1) else kk key p k:=by
 let e:=getElem?_bubble I d hd k;by_cases C:k=src-d
 . rw[if_pos C] at e ⊢;show Nh e
 . rw[if_neg C] at e ⊢;by_cases o:src-d<k/\k<=src
   . rw[if_pos o] at e ⊢;show Nh e
   . rw[if_neg o] at e ⊢;show Nh e
meta def Ba (key:Nat->O.α)(i j:Nat):Bool:=O.blt (key i) (key j)
def F0 (p)(i j):(kas_rev p i j).Perm p:=mirror_perm _ _ _ _
def SV (p)(i j):(kas_rev p i j).size=p.size:=(F0 p i j).size_eq
def SM :∀f n,1<=n->Sr key p n->∃m,ev (Ba key) (kas_asc p f n)=m/\n<=m/\m<=n+f/\Sr key p m/\(m=n+f\/O.klt (kk key p m) (kk key p (m-1)))
 | 0,n,_,hs=>{n,0,zJ _,zJ _,hs,.inl rfl}
 | f+1,n,h1,hs=>by
  change ∃m,ev (Ba key) (if Ba key (p.getD n 0) (p.getD (n-1) 0)=true then KasT.ret n else kas_asc p f (n+1))=m/\_
  cases I:Ba key (p.getD n 0) (p.getD (n-1) 0) with
  | true=>show{n,by simp[ev],zJ _,(),hs,.inr I}
  | false=>
   let J:Sr key p (n+1):=λi j U hj=>by
    by_cases o:j<n
    . show hs i j U o
    . let C:j=n:=()
      subst C;by_cases k7:i=j
      . subst k7;show KeyOrd.kle_refl _
      . show KeyOrd.kle_trans (hs i (j-1) () ()) I
   let{m,e,a,b,c,d}:=SM f (n+1) () J;show{m,‹e›,(),(),c,?_};rcases d with d | d
   . show .inl ()
   . show .inr d
def Zq (I:1<=n)(U:n<=nrem)(hz:nrem<=p.size)(C:Fl key p n):
 ∃m q,ev (Ba key) (kas_tail3 n nrem p)=(m,q)/\q.Perm p/\1<=m/\m<=nrem/\Sr key q m:=by
 unfold kas_tail3;let o:Sr key (kas_rev p 0 n) n:=λi j J hj=>by rw[Ti (),Ti (),if_pos (),if_pos ()];show C _ _ (by grind) (by omega)
 let{m,e,a,b,c,_}:=SM (nrem-n) n I o;show{m,kas_rev p 0 n,by rw[Mv,e];rfl,F0 _ _ _,(),(),c}
def Qc:∀f n q p,1<=n->n+f<=p.size->Fl key p n->q+1<=n->(∀i,n-(q+1)<=i->i<n->kk key p i=kk key p (n-1)) ->
 ∃C o I,ev (Ba key) (kas_desc f p n q)=(C,o,I)/\C.Perm p/\n<=o/\o<=n+f/\Fl key C o/\I+1<=o/\(∀i,o-(I+1)<=i->i<o->kk key C i=kk key C (o-1))
 | 0,n,q,p,_,_,hs,hq,he=>{p,n,q,0,.refl _,zJ _,zJ _,hs,hq,he}
 | f+1,n,q,p,h1,hz,hs,hq,he=>by
  change ∃C o I,ev (Ba key) (if Ba key (p.getD n 0) (p.getD (n-1) 0)=true then _ else KasT.ask _ _ _)=(C,o,I)/\_
  cases hl:Ba key (p.getD n 0) (p.getD (n-1) 0) with
  | true=>
   let step:∀xs:Array Nat,(∀k,kk key xs k=kk key p k)->Fl key xs (n+1):=λxs hk i j kX hj=>by
    rw[hk,hk];by_cases J:j<n
    . show hs i j kX J
    . let U:j=n:=()
      subst U;by_cases k7:i=j
      . subst k7;show KeyOrd.kle_refl _
      . show KeyOrd.kle_trans (KeyOrd.kle_of_klt hl) (hs i (j-1) () ())
   by_cases hq0:q > 0
   . let hk:=TF (key:=key) (p:=p) (i:=n-(q+1)) (j:=n) () he;let{C,o,I,e,a,b,c,d}:=Qc f (n+1) 0 (kas_rev p (n-(q+1)) n) () (by rw[SV];lia) (step _ hk) () (λi h1 h2=>by congr 1;lia);show{C,o,I,by simpa [hq0] using e,a.trans (F0 _ _ _),(),(),d}
   . let{C,o,I,e,a,b,c,d}:=Qc f (n+1) 0 p () () (step _ λ_=>rfl) () (λi h1 h2=>by congr 1;lia);show{C,o,I,by simpa [hq0] using e,a,(),(),d}
  | false=>
   change ∃C o I,ev (Ba key) (if Ba key (p.getD (n-1) 0) (p.getD n 0)=true then KasT.ret (p,n,q) else kas_desc f p (n+1) (q+1))=(C,o,I)/\_
   cases hr:Ba key (p.getD (n-1) 0) (p.getD n 0) with
   | true=>show{p,n,q,by simp[ev],.refl _,zJ _,(),hs,hq,he}
   | false=>
    let heq:kk key p n=kk key p (n-1):=KeyOrd.kle_antisymm hr hl;let mY:Fl key p (n+1):=λi j kX hj=>by
     by_cases J:j<n
     . show hs i j kX J
     . let U:j=n:=()
       subst U;by_cases k7:i=j
       . subst k7;show KeyOrd.kle_refl _
       . rw[heq];show hs i (j-1) () ()
    let{C,o,I,e,a,b,c,d}:=Qc f (n+1) (q+1) p () () mY () (λi h1 h2=>by
     rw[show n+1-1=n by lia];by_cases hix:i=n
     . subst hix;rfl
     . rw[heq];show he i () ())
    show{C,o,I,‹e›,a,(),(),d}
def Yr (hn:n+1<=nrem)(hz:nrem<=p.size)(hs:Fl key p (n+1)):
 ∃m q,ev (Ba key) (kas_descPart n nrem p)=(m,q)/\q.Perm p/\1<=m/\m<=nrem/\Sr key q m:=by
 unfold kas_descPart;rw[Mv];let{I,o,J,e,a,b,c,d,hq,he}:=Qc (nrem-(n+1)) (n+1) 0 p () () hs () (λi h1 h2=>by congr 1;lia);rw[e];dsimp only;let hz':I.size=p.size:=a.size_eq;by_cases C:J > 0
 . rw[if_pos C];let hk:=TF (key:=key) (p:=I) (i:=o-(J+1)) (j:=o) () he;let{m,r,U,a2,b2,c2,d2}:=Zq (key:=key) (p:=kas_rev I (o-(J+1)) o) (n:=o) (nrem:=nrem) () () (by rw[SV];lia) (λi j kX hj=>by rw[hk,hk];show d i j kX hj);show{m,r,U,a2.trans ((F0 _ _ _).trans a),b2,c2,d2}
 . rw[if_neg C];let{m,r,U,a2,b2,c2,d2}:=Zq (key:=key) (p:=I) (n:=o) (nrem:=nrem) () () () d;show{m,r,U,a2.trans a,b2,c2,d2}
def bf (h1:1<=nrem)(hz:nrem<=p.size):∃m q,ev (Ba key) (kas_count nrem p)=(m,q)/\q.Perm p/\1<=m/\m<=nrem/\Sr key q m:=by
 unfold kas_count;rw[Mv];let{n,e,a,b,o,hor}:=SM (key:=key) (p:=p) (nrem-1) 1 (zJ _) (λi j kX hj=>by let:i=j:=();subst this;show KeyOrd.kle_refl _);rw[e];by_cases C:n=nrem
 . rw[if_pos ‹C›];show{n,p,0,.refl _,a,(),o}
 . rw[if_neg ‹C›];let jy:O.klt (kk key p n) (kk key p (n-1)):=hor.resolve_left ();by_cases I:n > 1
   . rw[if_pos I];change ∃m q,ev (Ba key) (if Ba key (p.getD 0 0) (p.getD (n-1) 0)=true then KasT.ret (n,p) else kas_descPart n nrem (kas_rev p 0 n))=(m,q)/\_
     cases hr:Ba key (p.getD 0 0) (p.getD (n-1) 0) with
     | true=>show{n,p,by simp[ev],.refl _,a,(),o}
     | false=>
      let J:∀k,0<=k->k<n->kk key p k=kk key p (n-1):=λk _ U=>
       KeyOrd.kle_antisymm (o k (n-1) () ()) (KeyOrd.kle_trans hr (o 0 k () U))
      let U:=TF (key:=key) (p:=p) (i:=0) (j:=n) () J;let{m,q,e2,a2,b2,c2,d2}:=Yr (key:=key) (p:=kas_rev p 0 n) (n:=n) (nrem:=nrem) () (by rw[SV];lia) (λi j kX hj=>by
       rw[U,U];by_cases hjn:j<n
       . rw[J i () (),J j () hjn];show KeyOrd.kle_refl _
       . let hj':j=n:=()
         subst hj';by_cases k7:i=j
         . subst k7;show KeyOrd.kle_refl _
         . rw[J i () ()];show KeyOrd.kle_of_klt jy)
      show{m,q,‹e2›,a2.trans (F0 _ _ _),b2,c2,d2}
   . rw[if_neg I];let lS:n=1:=()
     subst lS;show Yr () hz λi j kX hj=>?_;by_cases k7:i=j
     . subst k7;show KeyOrd.kle_refl _
     . let hi0:i=0:=()
       let hj1:j=1:=()
       subst hi0;subst hj1;show KeyOrd.kle_of_klt jy
def Tq (I:Sr key p k):∀f l r,l<=r->r<=k->r-l<=f->(∀i,i<l->O.kle (kk key p i) (kk key p k))->(∀i,r<=i->i<k->O.klt (kk key p k) (kk key p i)) ->
 ∃m,ev (Ba key) (kas_place p k f l r)=m/\m<=k/\(∀i,i<m->O.kle (kk key p i) (kk key p k))/\(∀i,m<=i->i<k->O.klt (kk key p k) (kk key p i))
 | 0,l,r,hlr,hrk,hf,hlo,hhi=>{l,0,(),hlo,λi J C=>hhi i () C}
 | f+1,l,r,hlr,hrk,hf,hlo,hhi=>by
  unfold kas_place;by_cases o:l ≥ r
  . rw[if_pos o];show{l,0,(),hlo,λi J C=>hhi i () C}
  . rw[if_neg o];change ∃m,ev (Ba key) (if Ba key (p.getD k 0) (p.getD ((l+r)/2) 0)=true then kas_place p k f l ((l+r)/2) else kas_place p k f ((l+r)/2+1) r)=m/\_
    cases U:Ba key (p.getD k 0) (p.getD ((l+r)/2) 0) with
    | true=>let{m,e,x}:=Tq I f l ((l+r)/2) () () (by omega) hlo (λi J C=>KeyOrd.klt_of_klt_of_kle U (I _ _ J C));show{m,‹e›,x}
    | false=>let{m,e,x}:=Tq I f ((l+r)/2+1) r () () (by omega) (λi J=>KeyOrd.kle_trans (I i ((l+r)/2) () ()) (show O.kle _ _ from U)) hhi;show{m,‹e›,x}
def WC:∀f p k,k+f=p.size->Sr key p k->∃q,ev (Ba key) (kas_bin f p k)=q/\q.Perm p/\Sr key q (k+f)
 | 0,p,k,_,hs=>{p,0,.refl _,hs}
 | f+1,p,k,hz,hs=>by
  unfold kas_bin;rw[Mv];let{l,e,J,o,C}:=Tq (key:=key) hs k 0 k () () () (λi h=>()) (λi h1 h2=>());rw[e];let I:Sr key (bubble p k (k-l)) (k+1):=λi j kX hj=>by
   rw[VS () (),VS () (),show k-(k-l)=l by lia]
   repeat' split
   all_goals first
    | (exfalso;lia)
    | show KeyOrd.kle_refl _
    | show o _ ()
    | show KeyOrd.kle_of_klt (C _ () ())
    | show hs _ _ () ()
  let{q,U,a,b}:=WC f (bubble p k (k-l)) (k+1) (by rw[(bubble_perm p k (k-l)).size_eq];lia) I;show{q,U,a.trans (bubble_perm _ _ _),by rwa[show k+(f+1)=k+1+f by lia]}
def hU (n)(C:1<=n):∃q,ev (Ba key) (kas_sort n)=q/\q.Perm (List.range n).toArray/\Sr key q n:=by
 unfold kas_sort;rw[Mv];let o:(List.range n).toArray.size=n:=by simp
 let{m,q,e,a,b,c,d}:=bf (key:=key) (p:=(List.range n).toArray) C ();rw[e];dsimp only;let J:q.size=n:=by rw[a.size_eq,o]
 by_cases hm:m<n
 . rw[if_pos hm];let{r,I,a2,b2}:=WC (key:=key) (n-max m 1) q (max m 1) () (by rwa[show max m 1=m by lia]);show{r,I,a2.trans a,by rwa[show max m 1+(n-max m 1)=n by lia] at b2}
 . rw[if_neg hm];let:m=n:=()
   subst this;show{q,0,a,d}
end
def B6 {α:Type}(n:Nat)(R:α->Prop):KasT α->Prop
 | .ret a=>R a
 | .ask i j k=>i<n/\j<n/\∀b,B6 n R (k b)
def B6.bind {R:α->Prop}(hf:∀a,R a->B6 n R' (f a)):∀t,B6 n R t->B6 n R' (t.bind f)
 | .ret a,h=>hf a h
 | .ask _ _ k,h=>{h.1,h.2.1,λb=>B6.bind hf (k b) (h.2.2 b)}
def Bd (n:Nat)(p:Array Nat):Prop:=∀i,p.getD i 0<n
def Bd.perm (h:Bd n q)(C:p.Perm q):Bd n p:=λi=>by
 let h0:0<n:=CO (zj _) (h 0);by_cases hi:i<p.size
 . let e:p.getD i 0=p[i]:=by simp[Array.getD,hi]
   rw[e];let hm:p[i]∈q.toList:=(Array.perm_iff_toList_perm.mp C).mem_iff.mp (by simp);let{j,I,J}:=zf hm;let o:j<q.size:=‹I›
   let:=h j;rw[show q.getD j 0=q[j] by simp[Array.getD,o]] at this;rw[<-J];simpa using this
 . let e:p.getD i 0=0:=by simp[Array.getD,hi]
   rwa[e]
def UD (o:Bd n p):∀f m,B6 n (λ_=>True) (kas_asc p f m)
 | 0,_=>trivial
 | f+1,m=>{o _,o _,λb=>by
  cases b with
  | true=>show trivial
  | false=>show UD o f (m+1)}
def RG :∀f p m q,Bd n p->B6 n (λr=>Bd n r.1) (kas_desc f p m q)
 | 0,_,_,_,hp=>hp
 | f+1,p,m,q,hp=>{hp _,hp _,λb=>by
  cases b with
  | true=>
   change B6 n _ (if q > 0 then kas_desc f (kas_rev p (m-(q+1)) m) (m+1) 0 else kas_desc f p (m+1) 0)
   split
   . show RG f _ _ _ (hp.perm (F0 _ _ _))
   . show RG f _ _ _ hp
  | false=>
   show{hp _,hp _,λd=>?_};cases d with
   | true=>show hp
   | false=>show RG f _ _ _ hp}
def Wc (o:Bd n p):B6 n (λr=>Bd n r.2) (kas_tail3 m nrem p):=by unfold kas_tail3;show B6.bind (R:=λ_=>True) (R':=λr=>Bd n r.2) (f:=λk=>KasT.ret (k,kas_rev p 0 m)) (λa _=>o.perm (F0 p 0 m)) _ (UD (o.perm (F0 p 0 m)) _ _)
def YB (C:Bd n p):B6 n (λr=>Bd n r.2) (kas_descPart m nrem p):=
 B6.bind (λr o=>by
  split
  . show Wc (o.perm (F0 _ _ _))
  . show Wc o) _ (RG _ _ _ _ C)
def bM (o:Bd n p):B6 n (λr=>Bd n r.2) (kas_count nrem p):=
 B6.bind (λr _=>by
  split
  . show o
  . split
    . show{o _,o _,λb=>?_};cases b with
      | true=>show o
      | false=>show YB (o.perm (F0 _ _ _))
    . show YB o) _ (UD o _ _)
def Sw (o:Bd n p):∀f l r,B6 n (λ_=>True) (kas_place p k f l r)
 | 0,_,_=>trivial
 | f+1,l,r=>by
  unfold kas_place;split
  . show trivial
  . show{o _,o _,λb=>?_};cases b with
    | true=>show Sw o f _ _
    | false=>show Sw o f _ _
def V1 :∀f p k,Bd n p->B6 n (λ_=>True) (kas_bin f p k)
 | 0,_,_,_=>trivial
 | f+1,p,k,hp=>B6.bind (λl _=>V1 f _ _ (hp.perm (bubble_perm _ _ _))) _ (Sw hp _ _ _)
def dR (h:0<n):B6 n (λ_=>True) (kas_sort n):=
 B6.bind (λr o=>by
  split
  . show V1 _ _ _ o
  . show trivial) _ (bM λi=>by
    by_cases hi:i<n
    . simp[Array.getD,hi]
    . simp[Array.getD,hi];show h)
end SortT
namespace SortP
open PySem PySem.W PyProof.Rows
meta abbrev eR:Array Keyed->Nat->StateT SortSt Sem Keyed:=sortPriv% PySem.Builtin.elem
meta abbrev lR:Keyed->Keyed->StateT SortSt Sem (Option Bool):=sortPriv% PySem.Builtin.lt
meta abbrev dg:Bool->Keyed->Array Keyed->Nat->Nat->Nat->StateT SortSt Sem (Option Nat):=sortPriv% PySem.Builtin.gallop
meta abbrev fM:Array Keyed->Array Keyed->StateT SortSt Sem (Array Keyed):=sortPriv% PySem.Builtin.mergeLo
meta abbrev iq:Array Keyed->Array Keyed->StateT SortSt Sem (Array Keyed):=sortPriv% PySem.Builtin.mergeHi
meta abbrev OE:Nat->StateT SortSt Sem Unit:=sortPriv% PySem.Builtin.setMinGallop
section
variable {prog:Program}{w:World}{A:Around}{E:BP}{s:Shared}{κ:SortKind}{a₀:Array Keyed}
def IK (prog:Program)(w:World)(A:Around)(s:Shared)(κ:SortKind)(a₀:Array Keyed):Prop:=
 ∀(E:BP)(p q:Keyed)(st:SortSt)(Q:Option Bool->SortSt->Prop),p∈a₀.toList->q∈a₀.toList->kindOf st=κ->(∀b,Q (some b) st)->wpS ∅ A E s (lR p q) Q st
structure SI (κ:SortKind)(a₀:Array Keyed)(st:SortSt):Prop where
 perm:(arrOf st).Perm a₀
 kind:kindOf st=κ
 failed:failedOf st=none
def In (a₀ a:Array Keyed):Prop:=∀p∈a.toList,p∈a₀.toList
def DV {arr:Array Keyed}{i:Nat}(h:arr[i]?=some p):p∈arr.toList:=by let{hi,e}:=Array.getElem?_eq_some_iff.mp h;rw[<-e];simp
section
variable {α ρ γ : Type}{Q:α->SortSt->Prop}{t1:SortSt}
def Bh (hi:i<arr.size)(h:∀p,arr[i]?=some p->wpS ∅ A E s (k p) Q t1):wpS ∅ A E s (eR arr i >>= k) Q t1:=by change wpS _ _ _ _ (elem' arr i >>= k) Q t1;rw[elem'_eq,getElem?_pos arr i hi];show wpS_bind (wpS_pure (h _ (getElem?_pos arr i hi)))
def BD [Decidable c] (C:c->wpS ∅ A E s x Q t1)(o:¬ c->wpS ∅ A E s y Q t1):wpS ∅ A E s (if c then x else y) Q t1:=by
 split
 . show C (by assumption)
 . show o (by assumption)
def B2 {m:Nat}(C:m=n->wpS ∅ A E s x Q t1)(o:m≠n->wpS ∅ A E s y Q t1):wpS ∅ A E s (if (m==n)=true then x else y) Q t1:=
 BD (λc=>C (beq_iff_eq.mp c)) (λc=>o λe=>c (beq_iff_eq.mpr e))
abbrev Rd (J : γ->Prop)(o : γ->Prop)(Rs : ρ->Prop):ForInStep (Option ρ × γ)->Prop
 | .yield c=>c.1=none/\J c.2
 | .done (none,c)=>o c
 | .done (some r,_)=>Rs r
def DR (S:SortSt->Prop)(J:Nat->γ->Prop)(U : γ->Prop)(Rs : ρ->Prop)(C:S t1)(h0:J m c)
 (step:∀x c t,m<=x->x<n->S t->J x c->wpS ∅ A E s (f x (none,c)) (λr t=>S t/\Rd (J (x+1)) U Rs r) t)(fin:∀c,J (max m n) c->U c)
 (kn:∀c t,S t->U c->wpS ∅ A E s (k (none,c)) Q t)(ks:∀r c t,S t->Rs r->wpS ∅ A E s (k (some r,c)) Q t):wpS ∅ A E s (forIn [m:n] (none,c) f >>= k) Q t1:=by
 show wpS_bind (wpS_mono (wpS_forRange (I:=λx c t=>c.1=none/\S t/\J x c.2) (Q:=λc t=>S t/\Rd (λ_=>False) U Rs (.done c)) (λx c t a b h=>?_) (λc t h=>?_) {0,C,h0}) λc t h=>?_)
 . let{o,c}:=c;let{0,C,hJ}:=h;show wpS_mono (step x c t a b C hJ) λr t h=>?_;rcases r with ⟨_ | _,c⟩ | c
   . show h
   . show h
   . show⟨h.2.1,h.1,h.2.2⟩
 . let{o,c}:=c;let{0,C,hJ}:=h;show{C,fin c hJ}
 . let{o,c}:=c;cases o with
   | none=>show kn c t h.1 h.2
   | some r=>show ks r c t h.1 h.2
end
def Mr {t0:SortSt}(C:IK prog w A s κ a₀)(hk:kindOf t0=κ)(J:key∈a₀.toList)(ha:In a₀ arr)(hb:base+n<=arr.size)(hn:hint<n)
 (h:∀k,k<=n->Q (some k) t0):wpS ∅ A E s (dg left key arr base n hint) Q t0:=by
 let I:∀(i:Nat)(Q:Option Bool->SortSt->Prop)(t:SortSt),t=t0->i<n->(∀b,Q (some b) t0)->wpS ∅ A E s (do
  let x <-eR arr (base+i)
  if left then lR x key else return (<-lR key x).map (!·)) Q t:=λi Q t e hi q=>by
  subst e;show Bh () λp U=>?_;cases left with
  | true=>show C E p key _ Q (ha p (DV U)) J hk q
  | false=>show wpS_bind (C E key p _ _ J (ha p (DV U)) hk λb=>wpS_pure (q (!b)))
 show wpS_bind (I _ _ _ rfl hn λb=>?_);cases b with
 | true=>
  show DR (·=t0) (λ_ c=>hint+c.1<n) (λc=>hint+c.1<n) (λ_=>False) rfl hn (λx c t _ _ e o=>?_) (λ_ h=>h) (λc t e o=>?_) λ_ _ _ _ z=>z.elim
  . show BD (λ_=>wpS_pure ⟨e,o⟩) λ_=>wpS_bind (I _ _ t e () λb=>?_);cases b with
    | true=>show wpS_pure {3,()}
    | false=>show wpS_pure {0,o}
  . show DR (·=t0) (λ_ c=>c.2<=n) (λc=>c.2<=n) (λ_=>False) e () (λx c t _ _ e o=>?_) (λ_ h=>h) (λc t e o=>e ▸ wpS_pure (h _ o)) λ_ _ _ _ z=>z.elim;show BD (λ_=>wpS_pure ⟨e,o⟩) λ_=>wpS_bind (I _ _ t e () λb=>?_);cases b with
    | true=>show wpS_pure {3,o}
    | false=>show wpS_pure {3,()}
 | false=>
  show DR (·=t0) (λ_ _=>True) (λ_=>True) (λ_=>False) rfl trivial (λx c t _ _ e o=>?_) (λ_ h=>h) (λc t e _=>?_) λ_ _ _ _ z=>z.elim
  . show BD (λ_=>wpS_pure ⟨e,o⟩) λ_=>wpS_bind (I _ _ t e () λb=>?_);cases b with
    | true=>show wpS_pure {0,o}
    | false=>show wpS_pure {3,o}
  . show DR (·=t0) (λ_ c=>c.2<=n) (λc=>c.2<=n) (λ_=>False) e () (λx c t _ _ e o=>?_) (λ_ h=>h) (λc t e o=>e ▸ wpS_pure (h _ o)) λ_ _ _ _ z=>z.elim;show BD (λ_=>wpS_pure ⟨e,o⟩) λ_=>wpS_bind (I _ _ t e () λb=>?_);cases b with
    | true=>show wpS_pure {3,o}
    | false=>show wpS_pure {3,()}
def ED (a b m:Array Keyed):Prop:=m.toList.Perm (a.toList++b.toList)
def ML (a b out:Array Keyed)(ia o:Nat):Prop:=out.toList.Perm (a.toList.take ia++b.toList.take o)
def MH (a b out:Array Keyed)(na nb:Nat):Prop:=out.toList.Perm (a.toList.drop na++b.toList.drop nb)
def NB {α:Type}(x y z:List α):((x++y)++z).Perm ((x++z)++y):=by rw[B8,B8];show List.perm_append_comm.append_left x
def Tt {a:Array Keyed}(h:a[i]?=some p):a.toList.take (i+1)=a.toList.take i++[p]:=by rw[zt,Array.getElem?_toList,h];rfl
def Tw {a:Array Keyed}(h:a[i]?=some p):a.toList.drop i=p::a.toList.drop (i+1):=by let{hi,e}:=Array.getElem?_eq_some_iff.mp h;rw[My ‹hi›];congr 1
def ML.a1 (h:ML a b out i j)(e:a[i]?=some p):ML a b (out.push p) (i+1) j:=by unfold ML at *;rw[Array.toList_push,Tt e];show (h.append_right [p]).trans (NB _ _ _)
def ML.b1 (h:ML a b out i j)(e:b[j]?=some p):ML a b (out.push p) i (j+1):=by unfold ML at *;rw[Array.toList_push,Tt e,<-B8];show h.append_right [p]
def VX {a:Array Keyed}:a.toList.take (i+k)=a.toList.take i++(a.extract i (i+k)).toList:=by rw[Array.toList_extract,JE,Nat.add_sub_cancel_left,List.take_add]
def ML.a {a:Array Keyed}(k)(h:ML a b out i j):ML a b (out++a.extract i (i+k)) (i+k) j:=by unfold ML at *;rw[Array.toList_append,VX];show (h.append_right _).trans (NB _ _ _)
def ML.b {a b:Array Keyed}(k)(h:ML a b out i j):ML a b (out++b.extract j (j+k)) i (j+k):=by unfold ML at *;rw[Array.toList_append,VX,<-B8];show h.append_right _
def ML.done {a b:Array Keyed}(h:ML a b out i j):ED a b (out++a.extract i a.size++b.extract j b.size):=by
 let d:∀(c:Array Keyed) i,(c.extract i c.size).toList=c.toList.drop i:=λc i=>by rw[Array.toList_extract,JE,zb (by simp)]
 simp only[ED,Array.toList_append,d];show (((h.append_right _).trans (NB _ _ _)).append_right _).trans ?_;rw[E9,B8,E9]
def ML.last {a b:Array Keyed}(h:ML a b out i j):ED a b (out++b.extract j b.size++a.extract i a.size):=by show List.Perm.trans ?_ h.done;simp only[Array.toList_append];show NB _ _ _
def MH.a {a:Array Keyed}(k)(o:k<=i)(h:MH a b out i j):MH a b (out++(a.extract k i).reverse) k j:=by
 unfold MH at *;let e:a.toList.drop k=(a.extract k i).toList++a.toList.drop i:=by rw[Array.toList_extract,JE,show i=k+(i-k) by lia,<-List.drop_drop,Nat.add_sub_cancel_left,E9]
 rw[Array.toList_append,Array.toList_reverse,e,B8];show (h.append (List.reverse_perm _)).trans List.perm_append_comm
def MH.b {a b:Array Keyed}(k)(o:k<=j)(h:MH a b out i j):MH a b (out++(b.extract k j).reverse) i k:=by
 unfold MH at *;let e:b.toList.drop k=(b.extract k j).toList++b.toList.drop j:=by rw[Array.toList_extract,JE,show j=k+(j-k) by lia,<-List.drop_drop,Nat.add_sub_cancel_left,E9]
 rw[Array.toList_append,Array.toList_reverse,e];show (h.append (List.reverse_perm _)).trans ((NB _ _ _).trans ?_);rw[B8]
def MH.a1 {a b:Array Keyed}(h:MH a b out (i+1) j)(e:a[i]?=some p):MH a b (out.push p) i j:=by unfold MH at *;rw[Array.toList_push,Tw e];show (h.append_right [p]).trans List.perm_append_comm
def MH.b1 {a b:Array Keyed}(h:MH a b out i (j+1))(e:b[j]?=some p):MH a b (out.push p) i j:=by unfold MH at *;rw[Array.toList_push,Tw e];show (h.append_right [p]).trans ((NB _ _ _).trans ?_);rw[B8];rfl
def MH.a2 {a b:Array Keyed}(h:MH a b out i j)(hi:0<i)(e:a[i-1]?=some p):MH a b (out.push p) (i-1) j:=
 MH.a1 (by rwa [Nat.sub_add_cancel hi]) e
def MH.b2 {a b:Array Keyed}(h:MH a b out i j)(o:0<j)(e:b[j-1]?=some p):MH a b (out.push p) i (j-1):=
 MH.b1 (by rwa [Nat.sub_add_cancel o]) e
def MH.done {a b:Array Keyed}(h:MH a b out i j):ED a b (a.extract 0 i++b.extract 0 j++out.reverse):=by
 let o:=(h.a 0 (zj _)).b 0 (zj _);unfold MH at o;rw[List.drop_zero,List.drop_zero] at o;show List.Perm.trans ?_ o;simp only[Array.toList_append,Array.toList_reverse,B8];show (List.Perm.append (List.reverse_perm _).symm ((List.Perm.append (List.reverse_perm _).symm (List.reverse_perm _)))).trans ?_;show (List.perm_append_comm (l₁:=(a.extract 0 i).toList.reverse)).trans (by rw[B8];show (List.perm_append_comm (l₁:=(b.extract 0 j).toList.reverse)).trans (by rw[B8]))
def MH.first {a b:Array Keyed}(h:MH a b out i j):ED a b (b.extract 0 j++a.extract 0 i++out.reverse):=by show List.Perm.trans ?_ h.done;simp only[Array.toList_append];show List.perm_append_comm.append_right _
def LK (κ:SortKind)(a₀:Array Keyed)(t0 t1:SortSt):Prop:=SI κ a₀ t1/\arrOf t1=arrOf t0/\pendingOf t1=pendingOf t0
def RX (h:LK κ a₀ t0 t1)(C:∀o,LK κ a₀ t0 o->wpS ∅ A E s (k Unit.unit) Q o):wpS ∅ A E s (OE g >>= k) Q t1:=
 wpS_bind (wpS_modify (C _ {⟨h.1.perm,h.1.kind,h.1.failed⟩,h.2.1,h.2.2}))
def KU {X Y:Prop}(f:X->Y)(x:X):Y:=f x
abbrev qN:=@Nat.lt_of_le_of_ne
abbrev qA:=@Nat.add_le_add_right
def LJ (a b:Array Keyed)(n:Nat)(o:Array Keyed)(i j:Nat):Prop:=ML a b o i j/\i+1<a.size/\j<b.size/\n<=i+j
def HJ (a b:Array Keyed)(n i j:Nat)(o:Array Keyed):Prop:=MH a b o i j/\0<i/\1<j/\i<=a.size/\j<=b.size/\i+j+n<=a.size+b.size
section
variable (h:LJ a b n o i j)
include h
def LJ.ia:i<a.size:=JO h.2.1
def LJ.a1 (e:a[i]?=some p)(z:i+1+1≠a.size):LJ a b (n+1) (o.push p) (i+1) j:={h.1.a1 e,qN h.2.1 z,h.2.2.1,by rw[Nat.add_right_comm];show Nat.succ_le_succ h.2.2.2}
def LJ.b1 (e:b[j]?=some p)(z:j+1≠b.size):LJ a b (n+1) (o.push p) i (j+1):={h.1.b1 e,h.2.1,qN h.2.2.1 z,Nat.succ_le_succ h.2.2.2}
def LJ.ga (y:k<=a.size-i)(z:i+k+1≠a.size)(x:i+k≠a.size):LJ a b n (o++a.extract i (i+k)) (i+k) j:={h.1.a k,qN (qN (Nat.add_le_of_le_sub' (CI h.ia) y) x) z,h.2.2.1,BC h.2.2.2 (qA (Nat.le_add_right _ _) _)}
def LJ.gb (y:k<=b.size-j)(z:j+k≠b.size):LJ a b n (o++b.extract j (j+k)) i (j+k):={h.1.b k,h.2.1,qN (Nat.add_le_of_le_sub' (CI h.2.2.1) y) z,BC h.2.2.2 (Nat.add_le_add_left (Nat.le_add_right _ _) _)}
def LJ.le (z:m<=n):LJ a b m o i j:={h.1,h.2.1,h.2.2.1,BC z h.2.2.2}
end
section
variable (h:HJ a b n i j o)
include h
def HJ.ia:i-1<a.size:=zo (Nat.sub_one_lt_of_lt h.2.1) h.2.2.2.1
def HJ.jb:j-1<b.size:=zo (Nat.sub_one_lt_of_lt h.2.2.1) h.2.2.2.2.1
def HJ.a1 (e:a[i-1]?=some p)(z:i-1≠0):HJ a b (n+1) (i-1) j (o.push p):={h.1.a2 h.2.1 e,Nat.pos_of_ne_zero z,h.2.2.1,BC (Nat.sub_le _ _) h.2.2.2.1,h.2.2.2.2.1,by let:=h.2.2.2.2.2;let:=h.2.1;lia}
def HJ.b1 (e:b[j-1]?=some p)(z:j-1≠1):HJ a b (n+1) i (j-1) (o.push p):={h.1.b2 (JO h.2.2.1) e,h.2.1,qN (Nat.le_sub_one_of_lt h.2.2.1) (Ne.symm z),h.2.2.2.1,BC (Nat.sub_le _ _) h.2.2.2.2.1,by let:=h.2.2.2.2.2;let:=h.2.2.1;lia}
def HJ.ga (y:k<=i)(z:k≠0):HJ a b n k j (o++(a.extract k i).reverse):={h.1.a k y,Nat.pos_of_ne_zero z,h.2.2.1,BC y h.2.2.2.1,h.2.2.2.2.1,BC (qA (qA y _) _) h.2.2.2.2.2}
def HJ.gb (y:k<=j)(z:k≠1)(x:k≠0):HJ a b n i k (o++(b.extract k j).reverse):={h.1.b k y,h.2.1,qN (Nat.pos_of_ne_zero x) (Ne.symm z),h.2.2.2.1,BC y h.2.2.2.2.1,BC (qA (Nat.add_le_add_left y _) _) h.2.2.2.2.2}
def HJ.le (z:m<=n):HJ a b m i j o:={h.1,h.2.1,h.2.2.1,h.2.2.2.1,h.2.2.2.2.1,BC (Nat.add_le_add_left z _) h.2.2.2.2.2}
end
section
variable {a b:Array Keyed}{t0:SortSt}{Q:Array Keyed->SortSt->Prop}(C:IK prog w A s κ a₀)(I0:SI κ a₀ t0)(ha:In a₀ a)(hb:In a₀ b)(a1:0<a.size)(b1:0<b.size)(h:∀m t1,LK κ a₀ t0 t1->ED a b m->Q m t1)
include C I0 ha hb a1 b1 h
def Yy:wpS ∅ A E s (fM a b) Q t0/\wpS ∅ A E s (iq a b) Q t0:=by
 let K0:LK κ a₀ t0 t0:={I0,3};show{wpS_bind (wpS_lift (Bl {0,Bh b1 λp I=>?lo})),wpS_bind (wpS_lift (Bl {0,Bh (Nat.sub_one_lt_of_lt a1) λp I=>?hi}))}
 . let m0:ML a b #[p] 0 1:=by unfold ML;rw[List.take_zero,Tt I];show .refl _
   show B2 (λc1=>wpS_pure (h _ _ K0 m0.done)) λc1=>B2 (λc2=>wpS_pure (h _ _ K0 m0.last)) λc2=>wpS_bind (wpS_get ?_);show DR (LK κ a₀ t0) (λx c=>LJ a b (x+1) c.1 c.2.1 c.2.2.1) (λ_=>False) (ED a b) K0 {m0,()} (λx c t1 _ hx U J=>?_) (λc h=>by let:=h.2;lia) (λ_ _ _ z=>z.elim) λm c t U pm=>wpS_pure (h m t U pm);show DR (LK κ a₀ t0) (λy c=>LJ a b (x+1+y) c.1 c.2.1 c.2.2.1) (λc=>LJ a b (x+2) c.1 c.2.1 c.2.2.1) (ED a b) U J (λy c t1 _ _ U J=>?_) (λc h=>h.le ()) (λc t1 U J=>wpS_bind (wpS_lift (Bl {0,?_}))) λm c t U pm=>wpS_pure ⟨U,pm⟩
   . show Bh J.2.2.1 λp I=>Bh J.ia λq hq=>wpS_bind (C E _ _ _ _ (hb _ (DV I)) (ha _ (DV hq)) U.1.kind λz=>?_);dsimp only;show BD (λ_=>Bh J.2.2.1 λp I=>B2 (λ_=>wpS_pure {U,(J.1.b1 I).done}) λz=>BD (λ_=>wpS_pure {U,(J.b1 I z).le ()}) λ_=>wpS_pure {U,0,J.b1 I z})
      λ_=>Bh J.ia λp I=>B2 (λ_=>wpS_pure {U,(J.1.a1 I).last}) λz=>BD (λ_=>wpS_pure {U,(J.a1 I z).le ()}) λ_=>wpS_pure {U,0,J.a1 I z}
   show DR (LK κ a₀ t0) (λ_ c=>LJ a b (x+2) c.1 c.2.1 c.2.2.1) (λc=>LJ a b (x+2) c.1 c.2.1 c.2.2.1) (ED a b) U J (λy c t1 _ _ U J=>?_) (λc h=>h) (λc t U J=>RX U λ_ K2=>wpS_pure {K2,0,J}) λm c t U pm=>wpS_pure ⟨U,pm⟩
   extract_lets -underBinder +onlyGivenNames _ o _ i _ j _ g _ ac bc jp
   let J:LJ a b (x+2) o i j:=J
   clear_value o i j g ac bc
   show KU (X:=∀g,wpS ∅ A E s (jp Unit.unit g) _ t1) (λhj=>BD (λ_=>hj _) λ_=>hj _) λg=>RX U λt2 K2=>Bh J.2.2.1 λp I=>wpS_bind (Mr C K2.1.kind (hb _ (DV I)) ha (by let:=J.ia;lia) (by let:=J.ia;lia) λk hk=>?_);dsimp -zeta only
   extract_lets -underBinder +onlyGivenNames ac jp
   show KU (X:=∀o i,LJ a b (x+2) o i j->wpS ∅ A E s (jp Unit.unit o i) _ t2) (λhj=>BD (λ_=>B2 (λ_=>wpS_pure {K2,(J.1.a k).last}) λz=>B2 (λ_=>wpS_pure {K2,(J.1.a k).done}) λz2=>hj _ _ (J.ga hk z z2)) λ_=>hj _ _ J) λo i J=>?_;show Bh J.2.2.1 λp I=>B2 (λ_=>wpS_pure {K2,(J.1.b1 I).done}) λz=>?_;let J:=(J.b1 I z).le (Bk _);show Bh J.ia λp I=>wpS_bind (Mr C K2.1.kind (ha _ (DV I)) hb (by let:=J.2;lia) (by let:=J.2;lia) λk hk=>?_);dsimp -zeta only
   extract_lets -underBinder +onlyGivenNames bc jp
   show KU (X:=∀o j,LJ a b (x+2) o i j->wpS ∅ A E s (jp Unit.unit o j) _ t2) (λhj=>BD (λ_=>B2 (λ_=>wpS_pure {K2,(J.1.b k).done}) λz=>hj _ _ (J.gb hk z)) λ_=>hj _ _ J) λo j J=>?_;show Bh J.ia λp I=>B2 (λ_=>wpS_pure {K2,(J.1.a1 I).last}) λz=>BD (λ_=>wpS_pure {K2,(J.a1 I z).le (Bk _)}) λ_=>wpS_pure {K2,0,(J.a1 I z).le (Bk _)}
 . let m0:MH a b #[p] (a.size-1) b.size:=by unfold MH;rw[Tw I,List.drop_of_length_le (by rw[Array.length_toList];lia),List.drop_of_length_le (by simp)];show .refl _
   show B2 (λc1=>wpS_pure (h _ _ K0 m0.done)) λc1=>B2 (λc2=>wpS_pure (h _ _ K0 m0.first)) λc2=>wpS_bind (wpS_get ?_);show DR (LK κ a₀ t0) (λx c=>HJ a b (x+1) c.1 c.2.1 c.2.2.1) (λ_=>False) (ED a b) K0 {m0,()} (λx c t1 _ hx U J=>?_) (λc h=>absurd (BC (BC (Nat.succ_le_succ (Nat.le_max_right 0 _)) (Nat.le_add_left _ _)) h.2.2.2.2.2) (Nat.not_succ_le_self _)) (λ_ _ _ z=>z.elim) λm c t U pm=>wpS_pure (h m t U pm);show DR (LK κ a₀ t0) (λy c=>HJ a b (x+1+y) c.1 c.2.1 c.2.2.1) (λc=>HJ a b (x+2) c.1 c.2.1 c.2.2.1) (ED a b) U J (λy c t1 _ _ U J=>?_) (λc h=>h.le ()) (λc t1 U J=>wpS_bind (wpS_lift (Bl {0,?_}))) λm c t U pm=>wpS_pure ⟨U,pm⟩
   . show Bh J.jb λp I=>Bh J.ia λq hq=>wpS_bind (C E _ _ _ _ (hb _ (DV I)) (ha _ (DV hq)) U.1.kind λz=>?_);dsimp only;show BD (λ_=>Bh J.ia λp I=>B2 (λ_=>wpS_pure {U,(J.1.a2 J.2.1 I).done}) λz=>BD (λ_=>wpS_pure {U,(J.a1 I z).le ()}) λ_=>wpS_pure {U,0,J.a1 I z})
      λ_=>Bh J.jb λp I=>B2 (λ_=>wpS_pure {U,(J.1.b2 (JO J.2.2.1) I).first}) λz=>BD (λ_=>wpS_pure {U,(J.b1 I z).le ()}) λ_=>wpS_pure {U,0,J.b1 I z}
   show DR (LK κ a₀ t0) (λ_ c=>HJ a b (x+2) c.1 c.2.1 c.2.2.1) (λc=>HJ a b (x+2) c.1 c.2.1 c.2.2.1) (ED a b) U J (λy c t1 _ _ U J=>?_) (λc h=>h) (λc t U J=>RX U λ_ K2=>wpS_pure {K2,0,J}) λm c t U pm=>wpS_pure ⟨U,pm⟩
   extract_lets -underBinder +onlyGivenNames _ i _ j _ o _ g _ ac bc jp
   let J:HJ a b (x+2) i j o:=J
   clear_value o i j g ac bc
   show KU (X:=∀g,wpS ∅ A E s (jp Unit.unit g) _ t1) (λhj=>BD (λ_=>hj _) λ_=>hj _) λg=>RX U λt2 K2=>Bh J.jb λp I=>wpS_bind (Mr C K2.1.kind (hb _ (DV I)) ha (by let:=J.2;lia) (Nat.sub_one_lt_of_lt J.2.1) λk hk=>?_);dsimp -zeta only
   extract_lets -underBinder +onlyGivenNames k' ac jp
   show KU (X:=∀i o,HJ a b (x+2) i j o->wpS ∅ A E s (jp Unit.unit i o) _ t2) (λhj=>BD (λ_=>B2 (λ_=>wpS_pure {K2,(J.1.a k hk).done}) λz=>hj _ _ (J.ga hk z)) λ_=>hj _ _ J) λi o J=>?_;show Bh J.jb λp I=>B2 (λ_=>wpS_pure {K2,(J.1.b2 (JO J.2.2.1) I).first}) λz=>?_;let J:=(J.b1 I z).le (Bk _);show Bh J.ia λp I=>wpS_bind (Mr C K2.1.kind (ha _ (DV I)) hb (by let:=J.2;lia) (by let:=J.2;lia) λk hk=>?_);dsimp -zeta only
   extract_lets -underBinder +onlyGivenNames k' bc jp
   show KU (X:=∀j o,HJ a b (x+2) i j o->wpS ∅ A E s (jp Unit.unit j o) _ t2) (λhj=>BD (λ_=>B2 (λ_=>wpS_pure {K2,(J.1.b k hk).first}) λz=>B2 (λ_=>wpS_pure {K2,(J.1.b k hk).done}) λz2=>hj _ _ (J.gb hk z z2)) λ_=>hj _ _ J) λj o J=>?_;show Bh J.ia λp I=>B2 (λ_=>wpS_pure {K2,(J.1.a2 J.2.1 I).done}) λz=>BD (λ_=>wpS_pure {K2,(J.a1 I z).le (Bk _)}) λ_=>wpS_pure {K2,0,(J.a1 I z).le (Bk _)}
end
def LP (κ:SortKind)(a₀:Array Keyed)(t0 t1:SortSt):Prop:=SI κ a₀ t1/\pendingOf t1=pendingOf t0
def SI.sub (h:SI κ a₀ t0):In a₀ (arrOf t0):=λp o=>(Array.perm_iff_toList_perm.mp h.perm).mem_iff.mp o
section
variable {α:Type}{t0 t1:SortSt}{i j:Nat}{Q:α->SortSt->Prop}(K:LP κ a₀ t0 t1)
include K
def NC {k:Option Bool->StateT SortSt Sem α}(C:IK prog w A s κ a₀)(hi:i<a₀.size)(U:j<a₀.size)(h:∀b,wpS ∅ A E s (k (some b)) Q t1):wpS ∅ A E s (ltAt' i j >>= k) Q t1:=by rw[ltAt'_eq];let J:=K.1.perm.size_eq;show wpS_bind (wpS_bind (wpS_get (Bh () λp I=>Bh () λq o=>C E p q _ _ (K.1.sub p (DV I)) (K.1.sub q (DV o)) K.1.kind h)))
def LP.set {xs:Array Keyed}(p:xs.Perm (arrOf t1)):LP κ a₀ t0 (setArr t1 xs):={{p.trans K.1.perm,K.1.kind,K.1.failed},K.2}
def Q6 {k:Unit->StateT SortSt Sem α}(h:∀o,LP κ a₀ t0 o->wpS ∅ A E s (k Unit.unit) Q o):wpS ∅ A E s (reverseSlice' i j >>= k) Q t1:=by rw[reverseSlice'_eq];show wpS_bind (wpS_modify (h _ (K.set (mirror_perm _ _ _ _))))
def cz {k:Unit->StateT SortSt Sem α}(h:∀o,LP κ a₀ t0 o->wpS ∅ A E s (k Unit.unit) Q o):wpS ∅ A E s (moveDown' i j >>= k) Q t1:=by rw[moveDown'_eq];show wpS_bind (wpS_modify (h _ (K.set (bubble_perm _ _ _))))
end
def dw {lo:Nat}(C:IK prog w A s κ a₀)(I0:SI κ a₀ t0)(hl:lo+n<=a₀.size)(h:∀t1,LP κ a₀ t0 t1->Q true t1):wpS ∅ A E s (binarySort' lo n ok) Q t0:=by
 rw[binarySort'_eq];show DR (LP κ a₀ t0) (λ_ _=>True) (λ_=>True) (λ_=>False) {I0,0} trivial (λx _ t1 _ hx o _=>?_) (λ_ h=>h) (λ_ t1 o _=>wpS_pure (h _ o)) λ_ _ _ _ z=>z.elim;show DR (LP κ a₀ t0) (λ_ c=>c.2<=x) (λc=>c.2<=x) (λ_=>False) o () (λy c t1 _ _ o I=>?_) (λ_ h=>h) (λc t1 o I=>cz o λU J=>wpS_pure {J,0,trivial}) λ_ _ _ _ z=>z.elim;show BD (λ_=>wpS_pure ⟨o,I⟩) λ_=>NC o C () () λb=>?_;cases b with
 | true=>show wpS_pure {o,0,()}
 | false=>show wpS_pure {o,0,I}
def i6 {lo:Nat}(C:IK prog w A s κ a₀)(I0:SI κ a₀ t0)(hl:lo+nrem<=a₀.size)(h1:1<=nrem)(h:∀m t1,LP κ a₀ t0 t1->1<=m->m<=nrem->Q (some m) t1):wpS ∅ A E s (countRun' lo nrem) Q t0:=by
 rw[countRun'_eq];show DR (LP κ a₀ t0) (λx c=>c=x) (λc=>1<=c/\c<=nrem) (λ_=>False) {I0,0} rfl (λx c t1 _ _ o I=>?_) (λc h=>()) (λc t1 o I=>?_) λ_ _ _ _ z=>z.elim;rotate_left
 . show B2 (λU=>wpS_pure (h _ _ o I.1 I.2)) λU=>BD (λ_=>NC o C () () λb=>BD (λ_=>wpS_pure (h _ _ o I.1 I.2)) λ_=>Q6 o λJ o=>?_) λ_=>?_
   all_goals
    show wpS_bind (wpS_lift (Bl {0,?_}));show DR (LP κ a₀ t0) (λx c=>c.1=x) (λc=>1<=c.1/\c.1<=nrem) (λ_=>False) o rfl (λx c t1 _ _ o I=>?_) (λc h=>()) (λc t1 o I=>?_) λ_ _ _ _ z=>z.elim
    . show NC o C () () λb=>?_;cases b with
      | true=>show BD (λ_=>BD (λ_=>Q6 o λJ K2=>wpS_pure {K2,0,()}) λ_=>wpS_pure {o,0,()}) λz=>absurd rfl z
      | false=>
       show BD (λz=>by ext z) λ_=>NC o C () () λb=>?_;cases b with
       | true=>show wpS_pure {o,()}
       | false=>show wpS_pure {o,0,()}
    show BD (λ_=>Q6 o λJ o=>?_) λ_=>?_
    all_goals
     show Q6 o λJ o=>DR (LP κ a₀ t0) (λx c=>c=x) (λc=>1<=c/\c<=nrem) (λ_=>False) o rfl (λx c t1 _ _ o I=>?_) (λc h=>()) (λc t1 o I=>wpS_pure (h _ _ o I.1 I.2)) λ_ _ _ _ z=>z.elim;show NC o C () () λb=>?_;cases b with
     | true=>show wpS_pure {o,()}
     | false=>show wpS_pure {o,0,()}
 show NC o C () () λb=>?_;cases b with
 | true=>show wpS_pure {o,()}
 | false=>show wpS_pure {o,0,()}
def Vn :∀(m pre mid post:List Keyed)(k:Nat)(arr:Array Keyed),arr.toList=pre++mid++post->pre.length=base+k->mid.length=m.length ->
 ((m.zipIdx k).foldl (λa (p,j)=>a.setIfInBounds (base+j) p) arr).toList=pre++m++post
 | [],pre,mid,post,k,arr,e,_,h=>by
  cases mid with
  | nil=>show e
  | cons=>ext h
 | p::m,pre,[],post,k,arr,e,_,h=>by ext h
 | p::m,pre,x::mid,post,k,arr,e,hp,h=>by
  rw[List.zipIdx_cons,List.foldl_cons];let o:=Vn (base:=base) m (pre++[p]) mid post (k+1) (arr.setIfInBounds (base+k) p) (by rw[Array.toList_setIfInBounds,e,<-hp,B8,List.set_append_right _ _ (zJ _),Dq];simp) (by rw[zK,hp];rfl) ‹h›
  rw[o];simp
def jC (h:Q ⟨⟩ x):wpS ∅ A E s (set x:StateT SortSt Sem PUnit) Q t1:=by unfold wpS;rw[StateT.run_set];show zG {0,h}
def cL (C:IK prog w A s κ a₀)(I0:SI κ a₀ t0)(o:pendingOf t0=#[(0,n1,pw),(n1,n2,q2)])(hz:n1+n2=a₀.size)(z1:0<n1)(z2:0<n2)
 (h:∀t1,SI κ a₀ t1->pendingOf t1=#[(0,n1+n2,pw)]->Q true t1):wpS ∅ A E s (mergeAt' 0) Q t0:=by
 show wpS_bind (wpS_get ?_);rw[show (sortPriv% PySem.Builtin.SortState.pending) t0=#[(0,n1,pw),(n1,n2,q2)] from o];let hs:(arrOf t0).size=n1+n2:=by rw[I0.perm.size_eq,hz]
 let e0:(#[(0,n1,pw),(n1,n2,q2)].setIfInBounds 0 (0,n1+n2,pw)).eraseIdxIfInBounds (0+1)=#[(0,n1+n2,pw)]:=by simp[Array.eraseIdxIfInBounds,Array.eraseIdx]
 rw[show (#[(0,n1,pw),(n1,n2,q2)]:Array (Nat×Nat×Nat))[0]?=some (0,n1,pw) from rfl,show (#[(0,n1,pw),(n1,n2,q2)]:Array (Nat×Nat×Nat))[0+1]?=some (n1,n2,q2) from rfl];dsimp only;rw[e0];show wpS_bind (jC ?_);let I:SI κ a₀ (setPending t0 #[(0,n1+n2,pw)]):=⟨I0.perm,I0.kind,I0.failed⟩;show Bh () λp o=>?_;show wpS_bind (Mr C I.kind (I0.sub _ (DV o)) I0.sub () z1 λk hk=>?_);dsimp only;show B2 (λ_=>wpS_pure (h _ I rfl)) (λmO=>?_);show Bh () λq hq=>?_;show wpS_bind (Mr C I.kind (I0.sub _ (DV hq)) I0.sub () () λnb hb=>?_);dsimp only;show B2 (λ_=>wpS_pure (h _ I rfl)) (λhb2=>?_);let sub:∀i j,In a₀ ((arrOf t0).extract i j):=λi j p o=>I0.sub p (by rw[Array.toList_extract,JE] at o;show List.mem_of_mem_drop (List.mem_of_mem_take o))
 let fin:∀(m:Array Keyed)(t1:SortSt),LK κ a₀ (setPending t0 #[(0,n1+n2,pw)]) t1->ED ((arrOf t0).extract (0+k) n1) ((arrOf t0).extract n1 (n1+nb)) m->wpS ∅ A E s (do
  modify λs=>setArr s (m.toList.zipIdx.foldl (λa (p,j)=>a.setIfInBounds (0+k+j) p) (arrOf s))
  return (failedOf (<-get)).isNone) Q t1:=λm t1 J pm=>by
  let{J,ea,ep}:=J;let ea:arrOf t1=arrOf t0:=ea;show wpS_bind (wpS_modify ?_);show wpS_bind (wpS_get (wpS_pure ?_));let e:(failedOf t1).isNone=true:=by rw[J.failed];rfl
  let cut:(arrOf t0).toList=(arrOf t0).toList.take k++(((arrOf t0).extract (0+k) n1).toList++((arrOf t0).extract n1 (n1+nb)).toList)++(arrOf t0).toList.drop (n1+nb):=by
   rw[Array.toList_extract,Array.toList_extract,JE,JE,Nat.zero_add,Nat.add_sub_cancel_left]
   conv=>lhs;rw[<-E9 k (arrOf t0).toList,<-E9 (n1-k) ((arrOf t0).toList.drop k),List.drop_drop,Nat.add_sub_cancel' hk,<-E9 nb ((arrOf t0).toList.drop n1),List.drop_drop]
   simp only[B8]
  let pa:=Vn (base:=0+k) m.toList _ _ _ 0 (arrOf t1) (by rwa[ea]) (by rw[ze,Array.length_toList,hs,Nat.min_eq_left (BC hk (Nat.le_add_right _ _))];show (Nat.zero_add _).symm) (List.Perm.length_eq pm).symm;let U:(m.toList.zipIdx.foldl (λa (p,j)=>a.setIfInBounds (0+k+j) p) (arrOf t1)).Perm (arrOf t0):=by
   rw[Array.perm_iff_toList_perm,pa]
   conv=>rhs;rw[cut]
   show (List.Perm.append_left _ pm).append_right _
  let:=h (setArr t1 (m.toList.zipIdx.foldl (λa (p,j)=>a.setIfInBounds (0+k+j) p) (arrOf t1))) {U.trans I0.perm,J.kind,J.failed} ep;rwa [<-e] at this
 let e1:((arrOf t0).extract (0+k) n1).size=n1-k:=by rw[Array.size_extract,hs,Nat.min_eq_left (Nat.le_add_right _ _),Nat.zero_add]
 let e2:((arrOf t0).extract n1 (n1+nb)).size=nb:=by rw[Array.size_extract,hs,Nat.min_eq_left (Nat.add_le_add_left hb _),Nat.add_sub_cancel_left]
 show BD (λ_=>?_) (λ_=>?_)
 . show wpS_bind ((Yy C I (sub _ _) (sub _ _) () () fin).1)
 . show wpS_bind ((Yy C I (sub _ _) (sub _ _) () () fin).2)
def gU (C:IK prog w A s κ a₀)(I0:SI κ a₀ t0)(J:pendingOf t0=#[])(lH:64<=a₀.size)(h128:a₀.size<128)
 (h:∀t1,(arrOf t1).Perm a₀->failedOf t1=none->Q Unit.unit t1):wpS ∅ A E s sortRuns' Q t0:=by
 rw[sortRuns'_eq];show wpS_bind (wpS_get ?_)
 extract_lets -underBinder +onlyGivenNames n mr
 let hn:n=a₀.size:=I0.perm.size_eq;let mr1:a₀.size<=2*mr/\mr<=a₀.size:=by
  change _<=2*minRun' n n 0/\minRun' n n 0<=_;obtain⟨f,hf⟩:∃f,a₀.size=f+1+1:={a₀.size-2,()};rw[hn,show minRun' a₀.size a₀.size 0=minRun' (f+1+1) a₀.size 0 by rw[<-hf],minRun'_succ,if_neg (),minRun'_succ,if_pos ()]
  lia
 clear_value mr n
 subst hn;show wpS_bind (wpS_mono (wpS_forRange (I:=λx c t1=>c.1=none/\SI κ a₀ t1/\((x=0/\c.2=0/\pendingOf t1=#[])\/(x=1/\mr<=c.2/\c.2<=a₀.size/\pendingOf t1=#[(0,c.2,0)]) \/
  (2<=x/\c.2=a₀.size/\∃U n2 pw,U+n2=a₀.size/\0<U/\0<n2/\pendingOf t1=#[(0,U,pw),(U,n2,0)])))
  (Q:=λc t1=>c.1=none/\SI κ a₀ t1/\(pendingOf t1=#[(0,a₀.size,0)]\/∃U n2 pw,U+n2=a₀.size/\0<U/\0<n2/\pendingOf t1=#[(0,U,pw),(U,n2,0)])) ?_ ?_ {0,I0,.inl {3,J}}) ?_)
 . rintro x ⟨o,lo⟩ t1 _ hx ⟨o1,I1,D⟩;dsimp -zeta only at *;show BD (λhl=>wpS_pure {0,I1,?_}) (λhl=>?_)
   . rcases D with ⟨_,rfl,_⟩ | ⟨_,_,h2,J⟩ | ⟨_,_,J⟩
     . lia
     . obtain rfl:lo=a₀.size:=()
       show .inl J
     . show .inr J
   show wpS_bind (i6 C I1 () () λm t2 K2 m1 m2=>?_);dsimp -zeta only
   extract_lets -underBinder +onlyGivenNames n jp
   let zl:lo<=a₀.size:=CI (Nat.lt_of_not_le hl);let hm:=Nat.add_le_of_le_sub' zl (Nat.min_le_left _ mr);show KU (X:=∀n t3,LP κ a₀ t1 t3->0<n->lo+n<=a₀.size->mr<=n\/lo+n=a₀.size->wpS ∅ A E s (jp Unit.unit n) _ t3) (λhj=>BD (λo=>wpS_bind (wpS_lift (Bl {0,wpS_bind (dw C K2.1 hm λt3 K3=>BD (λz=>by ext z) λ_=>hj _ _ {K3.1,K3.2.trans K2.2} (Nat.lt_min.mpr {Nat.sub_pos_of_lt (Nat.lt_of_not_le hl),Nat.zero_lt_of_lt o}) hm ((Nat.le_total mr _).imp (λh=>Nat.le_min.mpr {h,Nat.le_refl _}) λh=>by rw[Nat.min_eq_left h,Nat.add_sub_cancel' zl]))}))) λhm=>hj _ _ K2 m1 () (.inl (Nat.le_of_not_lt hm))) λn t3 K3 U n2 n3=>wpS_bind (wpS_get ?_);let{I2,P2}:=K3;rcases D with ⟨x0,l0,J⟩ | ⟨x0,h1,h2,J⟩ | ⟨_,h1,_⟩
   . rw[P2,J];show wpS_bind (wpS_modify (wpS_pure {0,⟨I2.perm,I2.kind,I2.failed⟩,.inr (.inl {(),(),(),by
      change (pendingOf _).push _=_;rw[P2,J,l0,Nat.zero_add];rfl})}))
   . rw[P2,J];show wpS_bind (wpS_mono (wpS_forRange (I:=λ_ c t3=>c.1=none/\SI κ a₀ t3/\pendingOf t3=#[(0,lo,0)]) (Q:=λc t3=>c.1=none/\SI κ a₀ t3/\pendingOf t3=#[(0,lo,0)]) ?_ (λ_ _ h=>h) {0,I2,P2.trans J}) ?_)
     . rintro y c t3 _ _ ⟨_,I3,P3⟩;show wpS_bind (wpS_get ?_);rw[P3];show wpS_pure {0,I3,P3}
     . rintro ⟨c,u⟩ t3 ⟨c1,I3,P3⟩;ext c1;show wpS_bind (wpS_modify (wpS_bind (wpS_modify (wpS_pure {0,⟨I3.perm,I3.kind,I3.failed⟩,.inr (.inr {(),(),lo,n,?_,(),(),U,?_})}))));rotate_left
       . change ((pendingOf t3).modify _ _).push _=_;rw[P3];rfl
   . lia
 . rintro ⟨o,lo⟩ t1 ⟨o1,I1,D⟩;rcases D with ⟨z,_⟩ | ⟨z,_⟩ | ⟨_,_,J⟩
   . lia
   . lia
   . show{o1,I1,.inr J}
 . rintro ⟨o,lo⟩ t1 ⟨o1,I1,D⟩;ext o1;dsimp only;show wpS_bind (wpS_mono (wpS_forRange (I:=λx c t1=>c.1=none/\SI κ a₀ t1/\(pendingOf t1=#[(0,a₀.size,0)]\/(∃pw,pendingOf t1=#[(0,a₀.size,pw)])\/∃U n2 pw,U+n2=a₀.size/\0<U/\0<n2/\pendingOf t1=#[(0,U,pw),(U,n2,0)]))
    (Q:=λc t1=>c.1=none/\SI κ a₀ t1) ?_ (λ_ _ h=>⟨h.1,h.2.1⟩) {0,I1,D.elim .inl λd=>.inr (.inr d)}) ?_)
   . rintro x c t2 _ _ ⟨c1,I2,D2⟩;show wpS_bind (wpS_get ?_);rcases D2 with J | ⟨pw,J⟩ | ⟨U,n2,pw,z,z1,z2,J⟩
     . rw[J];show wpS_pure {0,I2}
     . rw[J];show wpS_pure {0,I2}
     . rw[J];show wpS_bind (cL C I2 J z z1 z2 λt3 I3 hp3=>?_);rw[if_neg (by decide)];show wpS_pure {0,I3,.inr (.inl {pw,by rw[hp3,z]})}
   . rintro ⟨c,u⟩ t2 ⟨c1,I2⟩;ext c1;show wpS_pure (h _ I2.perm I2.failed)
def hZ {α U:Type}(f:α->U):∀{x y:List U},x.Perm y->∀r:List α,y=r.map f->∃C:List α,C.Perm r/\x=C.map f:=by
 intro x y h
 induction h with
 | nil=>intro r e;show{r,.refl _,e}
 | cons a _ ih=>
  intro r e;cases r with
  | nil=>ext e
  | cons i r=>let{0,o}:=List.cons.inj e;let{C,p,e3}:=ih r o;show{i::C,p.cons i,by rw[e3];rfl}
 | swap a b l=>
  intro r e
  match r,e with
  | i::j::r,e=>let{0,o}:=List.cons.inj e;let{3}:=List.cons.inj o;show{j::i::r,.swap _ _ _,0}
 | trans _ _ J I=>intro r e;let{r1,p1,e1}:=I r e;let{r2,p2,o}:=J r1 e1;show{r2,p2.trans p1,o}
def XM (vs:List Value):(vs.toArray.zip vs.toArray).toList=(List.range vs.length).map λi=>(vs.getD i Value.none,vs.getD i Value.none):=by
 apply List.ext_getElem
 . simp
 . intro i C o;let hi:i<vs.length:=‹o›
   simp[hi]
def runs_big {vs:List Value}{O:KeyOrd}{key:Nat->O.α}{κ:SortKind}{E:BP}{s:Shared}(lH:64<=vs.length)(J:vs.length<128)
 (less:∀(i j:Nat)(Q:Bool->Shared->Prop)(E:BP),i<vs.length->j<vs.length->Q (O.blt (key i) (key j)) s->wpAny ∅ A (keyLt' κ (vs.getD i Value.none) (vs.getD j Value.none)) Q E s):
 wpAny ∅ A (sortRuns'.run (SortSt.mk' κ (vs.toArray.zip vs.toArray) #[] 7 none)) (λr s'=>s'=s/\failedOf r.2=none/\∃out:List Nat,out.Perm (List.range vs.length)/\(arrOf r.2).map (·.2)=(out.map λi=>vs.getD i Value.none).toArray) E s:=by
 let C:IK prog w A s κ (vs.toArray.zip vs.toArray):=λE p q st Q I o U h=>by rw[XM] at I o;let{i,hi,0}:=zk.mp I;let{j,hj,0}:=zk.mp o;change wpS _ _ _ _ (lt' _ _) Q st;rw[lt'_eq];show wpS_bind (wpS_get ?_);rw[U];show wpS_bind (wpS_lift (FJ (less i j _ _ (Cs.mp hi) (Cs.mp hj) {0,?_})));show wpS_pure (h _)
 let hz:(vs.toArray.zip vs.toArray).size=vs.length:=by simp
 show BE (gU (E:=E) (Q:=λ_ t1=>(arrOf t1).Perm (vs.toArray.zip vs.toArray)/\failedOf t1=none) C {.refl _,3} rfl () () λt1 p f=>⟨p,f⟩) (λr s' h=>?_) λ_ _ e=>e;let{0,pm,hf}:=h;show{0,hf,?_};let{out,po,eo}:=hZ _ (Array.perm_iff_toList_perm.mp pm) _ (XM vs);show{out,po,Array.toList_inj.mp ?_};rw[Array.toList_map,eo,Bn];rfl
end
end SortP
namespace SortT
open PySem PySem.W PySem.Calls PyProof.Rows
def Hs (o:∀i j C,i<n->j<n->C (lt i j) s->cmp i j C s):
 ∀t:KasT α,B6 n R t->Q (ev lt t) s->t.kasWp cmp Q s
 | .ret _,_,h=>h
 | .ask i j k,w,h=>o i j _ w.1 w.2.1 (Hs o (k (lt i j)) (w.2.2 _) h)
structure Put {O:KeyOrd}(key:Nat->O.α)(n:Nat)(out:List Nat):Prop where
 perm:out.Perm (List.range n)
 rise:∀(i j a b:Nat),i<=j->out[i]?=some a->out[j]?=some b->O.kle (key a) (key b)
def VH {O:KeyOrd}{key:Nat->O.α}{n:Nat}{q:Array Nat}(C:q.Perm (List.range n).toArray)(U:Sr key q n):Put key n q.toList:=by
 let hl:q.toList.Perm (List.range n):=Array.perm_iff_toList_perm.mp C;show{hl,λi j a b I ha hb=>?_};let J:q.size=n:=by let:=C.size_eq;simpa using this
 let hj:j<q.toList.length:=(zE.mp hb).1;let o:j<n:=by rw[<-J];simpa using hj
 let h:=U i j I o;let ga:q.getD i 0=a:=by rw[Array.getD_eq_getD_getElem?,<-Array.getElem?_toList,ha];rfl
 let gb:q.getD j 0=b:=by rw[Array.getD_eq_getD_getElem?,<-Array.getElem?_toList,hb];rfl
 unfold kk at h;rwa[ga,gb] at h
structure Asks (prog:Program)(w:World)(A:Around)(s:Shared)(a:Addr)(vs:List Value){O:KeyOrd}(key:Nat->O.α)(κ:SortKind):Prop where
 kind:∀(h':Heap)(Q:SortKind->Shared->Prop)(E:BP),(∀b o,b≠a->s.heap.get? b=some o->h'.get? b=some o)->Q κ { s with heap:=h' }->wpAny (model prog w) A (keyKind' vs.toArray) Q E { s with heap:=h' }
 less:∀(h':Heap)(i j:Nat)(Q:Bool->Shared->Prop)(E:BP),(∀b o,b≠a->s.heap.get? b=some o->h'.get? b=some o)->i<vs.length->j<vs.length->Q (O.blt (key i) (key j)) { s with heap:=h' } ->
  wpAny (model prog w) A (keyLt' κ (vs.getD i Value.none) (vs.getD j Value.none)) Q E { s with heap:=h' }
def list_sort {a:Addr}{vs:List Value}{n:Nat}{P:PySem.Fin->Shared->Prop}{O:KeyOrd}{key:Nat->O.α}{κ:SortKind}(ho:s.heap.get? a=some (seqObj "list" vs.toArray n)) (h128:vs.length<128)
 (ask:2<=vs.length->Asks prog w A s a vs key κ)
 (h:∀out:List Nat,out.Perm (List.range vs.length)->(vs.length<64->Put key vs.length out)->P (.done (.ret .none)) { s with heap:=sortedHeap s.heap a vs (out.map λi=>vs.getD i Value.none).toArray }):
 wpAny ∅ A (Builtin.«list.sort» {[.ref a],[]}) P E s:=by
 rw[list_sort_plain];let ha:a<↥s:=zY ho;show zA (listItems_at ho rfl ?_);show zA (listUpdate_at ho rfl ?_ (by rw[zU,sizeLine_eq];lia) (zj _));obtain⟨e1,ho1⟩:∃e1,(s.heap.update a (Obj.mapSeq λ_=>#[])).get? a=some (seqObj "list" #[] e1):={_,get?_update_seq ho (λ_=>#[])};show zA (seqEpoch_at ho1 rfl ?_);show zA (wpAny_newTuple ?_ (by change vs.length<=_;rw[sizeLine_eq];lia));show zA (wpAny_newList ?_ (zj _));show BJ ?_;let I:(((s.heap.update a (Obj.mapSeq λ_=>#[])).push (seqObj "tuple" vs.toArray 0)).push (seqObj "list" #[] 0)).get? a=some (seqObj "list" #[] e1):=by rw[Heap.get?_push_ne _ _ _ (by rw[size_push',Heap.size_update];show zh (Fp ha)),Heap.get?_push_ne _ _ _ (by rw[Heap.size_update];show zh ha)];show ho1
 let keep:∀b o,b≠a->s.heap.get? b=some o->(((s.heap.update a (Obj.mapSeq λ_=>#[])).push (seqObj "tuple" vs.toArray 0)).push (seqObj "list" #[] 0)).get? b=some o:=λb o hb e=>by show zL _ (zL _ ?_);rwa[Mz _ _ _ _ hb]
 change wpAny ∅ A _ P E { s with heap:=((s.heap.update a (Obj.mapSeq λ_=>#[])).push (seqObj "tuple" vs.toArray 0)).push (seqObj "list" #[] 0) };dsimp only;by_cases h2:vs.toArray.size<2
 . rw[if_pos h2,if_pos h2];show zA (zG ?_);rw[StateT.run_pure];show zA (zG ?_);dsimp only;show zA (seqEpoch_at I rfl ?_);show zA (listUpdate_at I rfl ?_ (zj _) (by rw[Array.size_map];change (pairsOf vs).size<=_;rw[pairsOf_size,sizeLine_eq];lia));simp only[bne_self_eq_false,Je,if_false];show zG ?_;let hlen:vs.length<2:=‹h2›
   let J:(arrOf (SortSt.mk' general' (vs.toArray.zip vs.toArray) #[] 7 none)).map (·.2)=((List.range vs.length).map λi=>vs.getD i Value.none).toArray:=by
    change (vs.toArray.zip vs.toArray).map (·.2)=_;rcases vs with _ | ⟨v,_ | _⟩
    . simp
    . simp
    . exfalso;simp only[zu] at hlen;lia
   let fin:=h (List.range vs.length) (.refl _) λ_=>{.refl _,λi j x y kX hx hy=>by
    let hj:j<(List.range vs.length).length:=(zE.mp hy).1;rw[zy] at hj;let e:i=j:=()
    subst e;rw[hx] at hy;ext hy;show KeyOrd.kle_refl _}
   rwa[<-J] at fin
 . rw[if_neg h2,if_neg h2];let h2':2<=vs.length:=by
    let:¬ vs.length<2:=‹h2›
    lia
   let K:=ask h2';show zA (K.kind _ _ _ keep ?_);by_cases lH:vs.length<64
   case neg=>
    show zA (BE (SortP.runs_big (key:=key) () h128 λi j Q E hi hj hQ=>K.less _ i j Q E keep hi hj hQ) ?_ λ_ _ e=>e);rintro ⟨⟨⟩,lr⟩ U ⟨rfl,hf,out,po,eo⟩;dsimp only at *;show zA (seqEpoch_at I rfl ?_);show zA (listUpdate_at I rfl ?_ (zj _) (by rw[eo,zU,zC,po.length_eq,zy,sizeLine_eq];lia));rw[hf];simp only[bne_self_eq_false,Je,if_false];show zG ?_;let fin:=h out po λz=>absurd z lH;rwa[<-eo] at fin
   let{q,eq,hp,hs}:=hU (key:=key) vs.length ();let run:(kas_sort vs.length).kasWp (kas_ask prog w A κ vs) (λp U=>p=q/\U={ s with heap:=((s.heap.update a (Obj.mapSeq λ_=>#[])).push (seqObj "tuple" vs.toArray 0)).push (seqObj "list" #[] 0) })
    { s with heap:=((s.heap.update a (Obj.mapSeq λ_=>#[])).push (seqObj "tuple" vs.toArray 0)).push (seqObj "list" #[] 0) }:=
    Hs (lt:=Ba key) (n:=vs.length) (λi j C hi hj hC=>K.less _ i j C _ keep hi hj hC) _ (dR ()) {eq,0}
   show zA (BE (kat_run (ks:=vs) (vs:=vs) (Q:=λlr U=>∃p:Array Nat,p.size=vs.length/\arrOf lr=p.map (kas_item (vs.toArray.zip vs.toArray))/\failedOf lr=none/\p=q/\U={ s with heap:=((s.heap.update a (Obj.mapSeq λ_=>#[])).push (seqObj "tuple" vs.toArray 0)).push (seqObj "list" #[] 0) })
    rfl h2' lH (λp' lr U a1 a2 a3 a4=>⟨p',a1,a2,a3,a4⟩) run) ?_ λ_ _ e=>e)
   rintro ⟨⟨⟩,lr⟩ U ⟨p,hsz,har,hf,rfl,rfl⟩;dsimp only;show zA (seqEpoch_at I rfl ?_);show zA (listUpdate_at I rfl ?_ (zj _) (by rw[Array.size_map,har,Array.size_map,hsz,sizeLine_eq];lia));rw[hf];simp only[bne_self_eq_false,Je,if_false];show zG ?_;let J:=kat_snds (ks:=vs) (vs:=vs) rfl har;let fin:=h p.toList (VH hp hs).perm λ_=>VH hp hs;rwa[<-J] at fin
def sorted_list {l:Addr}{vs:List Value}{Q:BP}{O:KeyOrd}{key:Nat->O.α}{κ:SortKind}(hl:s.heap.IsList l vs.toArray)(U:vs.length<64)
 (ask:2<=vs.length->∀(s':Shared)(a:Addr),(∀b o,s.heap.get? b=some o->b≠a)->(∀b o,s.heap.get? b=some o->s'.heap.get? b=some o)->Asks prog w A.in1.in1 s' a vs key κ)
 (h:∀(D:Addr)(h':Heap)(out:List Nat)(c:Nat),Put key vs.length out->↥s<=D->(∀b o,s.heap.get? b=some o->h'.get? b=some o) ->
  h'.get? D=some (seqObj "list" (out.map λi=>vs.getD i Value.none).toArray c)->Q (.ref D) { s with heap:=h' }):
 wpAny ∅ A (call (.builtin "sorted") [.ref l]) Q E s:=by
 show Calls.call_function_entry kind_sorted plain_sorted entry_sorted (args_sorted1 _) ?_;unfold Builtin.«sorted»;show zA (m:=checkCount "sorted" 1 1 _) (zG ?_);show zA (collect_list hl ?_ (by rw[sizeLine_eq];lia));show zA (wpAny_newList ?_ (by rw[sizeLine_eq];lia));let C:((s.heap.push (seqObj "list" #[] 0)).update ↥s (Obj.mapSeq (· ++ vs.toArray))).objs.size=↥s+1:=by rw[Heap.size_update,size_push']
 let J:(((s.heap.push (seqObj "list" #[] 0)).update ↥s (Obj.mapSeq (· ++ vs.toArray))).push (seqObj "list" vs.toArray 0)).get? (↥s+1)=some (seqObj "list" vs.toArray 0):=by rw[<-C];show zR _ rfl
 let keep:∀b o,s.heap.get? b=some o->(((s.heap.push (seqObj "list" #[] 0)).update ↥s (Obj.mapSeq (· ++ vs.toArray))).push (seqObj "list" vs.toArray 0)).get? b=some o:=λb o q=>by let I:b<↥s:=zY q;rw[Heap.get?_push_ne _ _ _ (by rw[C];show zh (Fp I)),Mz _ _ _ _ (zh I),Heap.get?_push_ne _ _ _ (zh I)];show q
 change wpAny _ _ _ _ _ { s with heap:=((s.heap.push (seqObj "list" #[] 0)).update ↥s (Obj.mapSeq (· ++ vs.toArray))).push (seqObj "list" vs.toArray 0) };rw[C];show zA (BJ (CK slot_list_sort {_,J,0} entry_list_sort (list_sort (O:=O) (key:=key) (κ:=κ) J () (λh2=>ask h2 _ _ (λb o e=>zh (Fp (zY e))) keep) λout _ hp=>{1,?_}) (args_list_sort _)));show zG {1,?_};let{c,hc}:=sortedAll_at s.heap vs (out.map λi=>vs.getD i Value.none).toArray;show h _ _ out c (hp U) (Bk _) (λb o e=>sortedAll_old e) hc
end SortT
namespace DRaw
open PySem PySem.W PySem.Calls PyProof.Rows
def At (h:Heap)(d:Addr)(es:Array DictEntry)(ep:Nat):Prop:=∃o,h.get? d=some o/\o.ExactDict/\o.data=.dict es ep
def At.keep (x:At h d es ep)(k:∀o,h.get? d=some o->h'.get? d=some o):At h' d es ep:=
 let ⟨o,C,r⟩:=x;{o,k o C,r}
def At.lt (x:At h d es ep):d<h.objs.size:=let {_,o,_}:=x;zY o
def At.typeIs {s:Shared}(x:At s.heap d es ep):s.TypeIs (.ref d) "dict" := let {o,C,I,_}:=x;⟨o,C,I.1⟩
def iter (hd:(d==sysModules)=false)(hm:At s.heap d es ep)
 (U:Q (.ref ↥s) { s with heap:=s.heap.push { cls:=.type "dict_keyiterator",data:=.fields #[.ref d,.int 0 0,.int es.size 0,.int ep 0] } }):
 wpAny ∅ A (pyIter (.ref d)) Q E s:=by
 let{o,J,hc,I}:=id hm;let C:=hm.typeIs;show wpAny_pyIter_slot C F.slot_dict_iter (CK F.slot_dict_iter C F.entry_dict_iter ?_ (F.args_dict_iter_1 _));unfold Builtin.«dict.__iter__»;show zA ?_;unfold Builtin.Dict.dictSlotNone;show zA (wpAny_notOrdered_dict C ?_);change wpAny _ _ (pure (Value.ref d)) _ _ s;show zG ?_;change wpAny _ _ (Builtin.Dict.showsAll d >>= _) _ _ s;unfold Builtin.Dict.showsAll;rw[if_neg (by rw[hd];show zq)];show zA (zG ?_);show zA (wpAny_dictEntries J I ?_);show zA (wpAny_dictEpoch J I ?_);show zA (C5 (zG {1, "dict_keyiterator",_,{_,zR _ rfl,0},F.slot_dict_keyiterator_next.lookup,?_}));simpa [rawInt] using U
def nx (hit:s.heap.IsKeyIter it d i es.size ep)(hm:At s.heap d es ep)(hn:∀(_:i<es.size)h',h'.IsKeyIter it d (i+1) es.size ep->Heap.SameBut it s.heap h'->Q (some es[i].key) { s with heap:=h' })(hs:es.size<=i->A.handled=none/\∀h',Heap.ExtBut it s.heap h'->Q none { s with heap:=h' }):wpAny ∅ A (pyNext (.ref it)) Q E s:=by
 let{o,U,hc,hd}:=id hit;let{od,I,mf,k8}:=id hm;unfold pyNext;show zA (FJ (Ea (name:=Str.ofString "__next__") hit.typeIs F.slot_dict_keyiterator_next
  (CK F.slot_dict_keyiterator_next hit.typeIs F.entry_dict_keyiterator_next ?_ (F.args_dict_keyiterator_next_1 _))))
 show zA (zG ?_);show zA ?_;show zA ?_
 first | show zA (wpAny_typeNameOfWhole_keyiter hit.typeIs (zG ?_)) | show zA (wpAny_typeNameOf_keyiter hit.typeIs (zG ?_))
 show zA (wpAny_fieldsOf U hd ?_);let C:Builtin.Dict_items.ownsTuple "dict_keyiterator"=false:=by decide
 rw[C,if_neg zq];change wpAny _ _ (if (Value.ref d==Value.none)=true then _ else _) _ _ s
 rw[if_neg (show ¬ ((Value.ref d==Value.none)=true) from zq)];show zA (zG ?_);show zA (wpAny_dictEntries I k8 ?_);rw[if_neg (by simp)];show zA (zG ?_);show zA (wpAny_dictEpoch I k8 ?_);rw[if_neg (by simp)];show zG ?_;simp only[show ¬ ((i:Int)<0) from by lia,if_false,B4];by_cases m8:i<es.size
 . let hQ:=hn m8;simp only[Array.getElem?_eq_getElem m8];show zA ?_
   first | show zA (wpAny_typeNameOfWhole_keyiter hit.typeIs (zG ?_)) | show zA (wpAny_typeNameOf_keyiter hit.typeIs (zG ?_))
   show zA (wpAny_isOneOf_keyiter hit.typeIs ?_);change wpAny _ _ (setField (.ref it) 1 (rawInt ((i:Int)+1)) >>= _) _ _ s;show zA (GB U hd (by simp) ?_);let kU:(s.heap.update it (Obj.mapFields (·.setIfInBounds 1 (rawInt ((i:Int)+1))))).IsKeyIter it d (i+1) es.size ep:=
    {_,Cr _ U (Obj.isFreed_of_fields (Obj.data_mapFields hd _)),(Obj.cls_mapFields ..).trans hc,by rw[Obj.data_mapFields hd];simp[rawInt]}
   show zA (BJ ?_);show zA (wpAny_isOneOf_keyiter (s:={ s with heap:=s.heap.update it (Obj.mapFields (·.setIfInBounds 1 (rawInt ((i:Int)+1)))) }) kU.typeIs ?_);change wpAny _ _ (pure es[i].key) _ _ _;show zG (zG {1,zG (hQ _ kU (EM ..))})
 . let J:=Nat.le_of_not_lt m8;let{hh,hQ}:=hs J;simp only[Array.getElem?_eq_none J];show zA ?_
   first | show zA (wpAny_typeNameOfWhole_keyiter hit.typeIs (zG ?_)) | show zA (wpAny_typeNameOf_keyiter hit.typeIs (zG ?_))
   change wpAny _ _ (setField (.ref it) 0 .none >>= _) _ _ s;show zA (GB U hd (by simp) ?_);change wpAny _ _ (newExc (.type "StopIteration") [] >>= _) _ _ _;show zA ?_;simp only[newExc,newTuple];show zA (C5 ?_ (by size_fits));show zA (m:=firstArgMember _ _) (wpAny_of_eq (a:=Value.none) (by first | rfl | (simp only[firstArgMember];rfl)) ?_);show C5 ?_ (by size_fits);simp only[raiseNew];show zA (wpAny_handled ?_);rw[show A.in1.handled=none from hh];show zA (zG (wpAny_throw ?_));show zA (Ey (T := "StopIteration") (b:=true) {_,zR _ rfl,0} isSubtype_stop ?_);show zG (hQ _ (((EM ..).extBut.push _).push _))
def next (hit:s.heap.IsKeyIter it d i es.size ep)(hm:At s.heap d es ep)(o:i<es.size)
 (C:∀h',h'.IsKeyIter it d (i+1) es.size ep->Heap.SameBut it s.heap h'->Q (some es[i].key) { s with heap:=h' }):wpAny ∅ A (pyNext (.ref it)) Q E s:=nx hit hm (λ_=>C) λc=>absurd o ()
def stop (o:A.handled=none)(hit:s.heap.IsKeyIter it d i es.size ep)(hm:At s.heap d es ep)(C:es.size<=i)
 (I:∀h',Heap.ExtBut it s.heap h'->Q none { s with heap:=h' }):wpAny ∅ A (pyNext (.ref it)) Q E s:=nx hit hm (λc=>absurd c ()) λ_=>⟨o,I⟩
def Pq (hh:A.handled=none)(I:Addr)(kA:d≠I):Walks prog w A I [I,d] [I] es.size (λi v=>∃e,es[i]?=some e/\v=e.key) (λi h=>h.IsKeyIter I d i es.size ep/\At h d es ep) where
 sub:=λb hb=>by simp at hb;simp[hb]
 frame:=λ_ _ _ st U=>{st.1.at λo e=>U I (by simp) o e,st.2.keep λo e=>U d (by simp) o e}
 item:=λi s Q E hi st C=>next st.1 st.2 hi λh' kU J=>
  C _ h' s.toks {es[i],by simp[hi],0} {kU,st.2.keep λo e=>J.extBut d o kA e} λb o hb e=>J.extBut b o (λh=>hb (by simp[h])) e
 done:=λs Q E st C=>stop hh st.1 st.2 (zJ _) λh' kZ=>C h' s.toks λb o hb e=>kZ b o (λh=>hb (by simp[h])) e
 self:=λ_ _ _ _ st C=>wpAny_pyIter_keyiter st.1 C
def src (lo:(d==sysModules)=false):KdlSrc prog w "dict" d d es.size (λi v=>∃e,es[i]?=some e/\v=e.key) (λh=>At h d es ep) where
 type:=λ_ hm=>hm.typeIs
 there:=λ_ hm=>⟨hm.lt,hm.lt⟩
 keep:=λ_ _ hm I=>hm.keep λo e=>I d (.inl rfl) o e
 notList:=by decide
 notTuple:=by decide
 hint:=λ_ _ _ _ hm C=>kdl_hint_dict hm.typeIs C
 iter:=λ_ _ J hm=>{2,(λ_ _ C=>iter lo hm C),Pq J _ (zh hm.lt),{{_,zR _ rfl,3},hm.keep λo e=>zL _ e}}
end DRaw
namespace SortT
open PySem PySem.W PySem.Calls PyProof.Rows
def sorted_dict {prog:Program}{w:World}{A:Around}{E:BP}{s:Shared}{d:Addr}{es:Array DictEntry}{ep:Nat}{vs:List Value}{Q:BP}{O:KeyOrd}{key:Nat->O.α}{κ:SortKind}
 (hh:A.handled=none)(lo:(d==sysModules)=false)(hm:DRaw.At s.heap d es ep)(I:vs=es.toList.map (·.key))(lH:vs.length<128)
 (ask:2<=vs.length->∀(s':Shared)(a:Addr),(∀b o,s.heap.get? b=some o->b≠a)->(∀b o,s.heap.get? b=some o->s'.heap.get? b=some o)->Asks prog w A.in1.in1 s' a vs key κ)
 (h:∀(h1:Heap)(D:Addr)(h':Heap)(t':Nat)(out:List Nat)(c:Nat),out.Perm (List.range vs.length)->(vs.length<64->Put key vs.length out)->(∀b o,s.heap.get? b=some o->h1.get? b=some o)->h1.objs.size<=D->(∀b o,h1.get? b=some o->h'.get? b=some o) ->
  h'.get? D=some (seqObj "list" (out.map λi=>vs.getD i Value.none).toArray c)->Q (.ref D) { s with heap:=h',toks:=t' }):
 wpAny ∅ A (call (.builtin "sorted") [.ref d]) Q E s:=by
 let hlen:vs.length=es.size:=by rw[I];simp
 show call_function_entry kind_sorted plain_sorted entry_sorted (args_sorted1 _) ?_;unfold Builtin.«sorted»;show zA (m:=checkCount "sorted" 1 1 _) (zG ?_);show zA (kdu_collect (A:=A.in1) (DRaw.src (es:=es) (ep:=ep) lo) hh hm (by rw[sizeLine_eq];lia) λh1 tk acc U C=>?_);let el:acc.toList=vs:=by
  apply List.ext_getElem?;intro j;by_cases hj:j<es.size
  . let hz:j<acc.size:=by rwa[C.1]
    let{e,he,hv}:=C.2 j acc[j] (by simp[hz]);rw[Array.getElem?_toList,Array.getElem?_eq_getElem hz,hv,I,zM,Array.getElem?_toList,he];rfl
  . rw[zn (by rw[Array.length_toList,C.1];lia),zn ()]
 rw[el];show zA (wpAny_newList ?_ (by rw[sizeLine_eq];lia));let J:(h1.push (seqObj "list" vs.toArray 0)).get? h1.objs.size=some (seqObj "list" vs.toArray 0):=zR _ rfl;let lU:∀b o,h1.get? b=some o->(h1.push (seqObj "list" vs.toArray 0)).get? b=some o:=λb o q=>zL _ q;show zA (BJ (CK slot_list_sort {_,J,0} entry_list_sort (list_sort (O:=O) (key:=key) (κ:=κ) J lH
  (λh2=>ask h2 _ _ (λb o e=>zh (zY (U b o e))) λb o e=>lU b o (U b o e)) λout pm hp=>{1,?_}) (args_list_sort _)))
 show zG {1,?_};let{c,hc}:=sortedHeap_at (vs:=vs) (out:=(out.map λi=>vs.getD i Value.none).toArray) J;show h h1 _ _ _ out c pm hp U (zJ _) (λb o e=>?_) hc;let hb:b<h1.objs.size:=zY e;rw[sortedHeap_old (zh hb) (by rw[Bz];show Fp hb)];show lU b o e
end SortT
namespace L2
open PySem PySem.Spec PyProof.Rows
def Zu:∀a:List Int,HT.lexLt a a=false
 | []=>rfl
 | x::r=>by rw[HT.lexLt_cons,if_pos rfl];show Zu r
def Se:∀a b c:List Int,HT.lexLt a b=true->HT.lexLt b c=true->HT.lexLt a c=true
 | [],[],_,h,_=>by ext h
 | [],_::_,[],_,h=>by ext h
 | [],_::_,_::_,_,_=>rfl
 | _::_,[],_,h,_=>by ext h
 | _::_,_::_,[],_,h=>by ext h
 | x::a,y::b,z::c,h1,h2=>by
  rw[HT.lexLt_cons] at h1 h2 ⊢;by_cases C:x=y
  . subst C;rw[if_pos rfl] at h1;by_cases o:x=z
    . subst o;rw[if_pos rfl] at h2 ⊢;show Se a b c h1 h2
    . rw[if_neg o] at h2 ⊢;show h2
  . rw[if_neg C] at h1;let J:x<y:=of_decide_eq_true h1;by_cases o:y=z
    . subst o;rwa[if_neg C]
    . rw[if_neg o] at h2;let I:y<z:=of_decide_eq_true h2;rw[if_neg ()];show zO ()
def Te:∀a b:List Int,HT.lexLt a b=false->HT.lexLt b a=false->a=b
 | [],[],_,_=>rfl
 | [],_::_,h,_=>by ext h
 | _::_,[],_,h=>by ext h
 | x::a,y::b,h1,h2=>by
  rw[HT.lexLt_cons] at h1 h2;by_cases e:x=y
  . subst e;rw[if_pos rfl] at h1 h2;rw[Te a b h1 h2]
  . rw[if_neg e] at h1;rw[if_neg (Ne.symm e)] at h2;let C:=of_decide_eq_false h1;let o:=of_decide_eq_false h2
    lia
def er (a b c)(h:HT.lexLt a c=true):HT.lexLt a b=true\/HT.lexLt b c=true:=by
 cases C:HT.lexLt a b with
 | true=>show .inl rfl
 | false=>
  cases o:HT.lexLt b a with
  | true=>show .inr (Se b a c o h)
  | false=>rw[<-Te a b C o];show .inr h
meta def Gh:KeyOrd:={List Int,HT.lexLt,Zu,Se,er,Te}
def QW (ms:List (List Int)):Prop:=ms.Pairwise λa b=>HT.lexLt b a=false
def Au (H:Hp):List V->List (List Int)->Prop
 | [],[]=>True
 | x::xs,k::ks=>(∃a,x=.ref a/\H a=some (.tup (k.map V.int))/\k≠[])/\Au H xs ks
 | _,_=>False
def Au.length :∀{xs:List V}{ks:List (List Int)},Au H xs ks->xs.length=ks.length
 | [],[],_=>rfl
 | [],_::_,h=>h.elim
 | _::_,[],h=>h.elim
 | _::_,_::_,h=>by rw[zu,zu,Au.length h.2]
def Au.get :∀{xs:List V}{ks:List (List Int)}{i:Nat}{x:V},Au H xs ks->xs[i]?=some x->∃a k,x=.ref a/\ks[i]?=some k/\H a=some (.tup (k.map V.int))/\k≠[]
 | [],_,_,_,_,h=>by simp at h
 | _::_,[],_,_,h,_=>h.elim
 | y::_,k::_,0,x,h,e=>by
  let{{a,I,C,o},_}:=h;let J:y=x:=‹e›
  subst J;show{a,k,I,0,C,o}
 | _::_,_::_,i+1,x,h,e=>by let{a,k,I,C,o}:=Au.get (i:=i) h.2 ‹e›;show{a,k,I,‹C›,o}
def Au.mk :∀{xs:List V}{ks:List (List Int)},xs.length=ks.length->(∀(i:Nat)x(k:List Int),xs[i]?=some x->ks[i]?=some k->∃a,x=V.ref a/\H a=some (.tup (k.map V.int))/\k≠[])->Au H xs ks
 | [],[],_,_=>trivial
 | [],_::_,e,_=>by simp at e
 | _::_,[],e,_=>by simp at e
 | x::xs,k::ks,e,h=>{h 0 x k rfl rfl,Au.mk ‹e› λi o C J I=>h (i+1) o C ‹J› ‹I›}
def Au.keep (h:Au H xs ks)(k:∀b ys,H b=some (.tup ys)->H' b=some (.tup ys)):Au H' xs ks:=
 Au.mk h.length λi x c I C=>by let{a,c',e1,o,U,J}:=h.get I;rw[C] at o;ext o;show{a,e1,k a _ U,J}
def Au.snoc :∀{xs:List V}{ks:List (List Int)}{x:V}{k:List Int},Au H xs ks->(∃a,x=.ref a/\H a=some (.tup (k.map V.int))/\k≠[])->Au H (xs++[x]) (ks++[k])
 | [],[],_,_,_,h=>⟨h,trivial⟩
 | [],_::_,_,_,t,_=>t.elim
 | _::_,[],_,_,t,_=>t.elim
 | _::_,_::_,_,_,t,h=>{t.1,Au.snoc t.2 h}
def V3 :∀ns ms us ws i,IntsAre us ns->IntsAre ws ms->fin=decide (ns.length<ms.length)->Q (HT.lexLt ns ms) s ->
 PySem.W.KatLex prog w A true fin Q (us.zip ws) i s:=by
 intro ns;induction ns with
 | nil=>
  intro ms us ws i a b e q;cases a;cases b with
  | nil=>subst e;show q
  | cons=>subst e;show q
 | cons n ns o=>
  intro ms us ws i a b e q;cases a with | cons _ t hu=>
  cases ms with
  | nil=>cases b;subst e;show q
  | cons m ms=>
   cases b with | cons _ u hw=>
   rw[HT.lexLt_cons] at q;show PySem.W.kat_cons (wpAny_eqBool_int ?_);by_cases h:n=m
   . rw[if_pos h] at q;rw[show (n==m)=true by simpa using h];show PySem.W.kat_yes (o ms _ _ (i+1) hu hw (by rw[e];simp) q)
   . rw[if_neg h] at q;rw[show (n==m)=false by simpa using h];show PySem.W.kat_no ?_;cases i with
     | zero=>show oneLt_int q
     | succ j=>show PySem.W.kat_one _ _ (PyProof.Rows.lt_int q)
def J5 :∀{vs:List Value},(∀i,i<vs.length->∃p x t us o n,vs[i]?=some (Value.ref p)/\h.get? p=some o/\o.cls=.type "tuple"/\o.data=.seq (Value.int x t::us).toArray n)->∃fs,PySem.W.KatTups h vs fs/\fs.length=vs.length/\∀f∈fs,∃x t,f=Value.int x t
 | [],_=>{[],trivial,0,λ_ h=>by ext h}
 | v::vs,a=>by
  let{p,x,t,us,o,n,C,I,J,hd}:=a 0 (Nat.zero_lt_succ _);let{fs,k,e,f}:=J5 (h:=h) (vs:=vs) λi hi=>a (i+1) (Nat.succ_lt_succ hi);ext C;show{Value.int x t::fs,.cons I J hd rfl k,congrArg (·+1) e,λg hg=>?_};rcases za.mp hg with rfl|hg
  . show{x,t,0}
  . show f g hg
def Ve (I:AA X pins σ H s)(T:Au H ys ks)(r:AK ys vs)(kA:0<vs.length)
 (fa:∀b o,s.heap.get? b=some o->b≠a)(kp:∀b o,s.heap.get? b=some o->s'.heap.get? b=some o):SortT.Asks X.prog X.w A s' a vs (O:=Gh) (λi=>ks.getD i []) (tuples' true):=by
 let hl:=T.length;let hv:=r.length;let at_:∀(h':Heap),(∀b o,b≠a->s'.heap.get? b=some o->h'.get? b=some o)->∀i,i<vs.length->∃(p:Addr)(k:List Int)(us:List Value)(o:Obj)(n:Nat),vs[i]?=some (Value.ref p)/\ks[i]?=some k/\k≠[]/\IntsAre us k/\h'.get? p=some o/\o.cls=.type "tuple"/\o.data=.seq us.toArray n:=λh' C i hi=>by
  let hy:i<ys.length:=()
  let{p,k,e1,e2,e3,e4}:=T.get (i:=i) (x:=ys[i]) (by simp[hy]);let{u,U,ru}:=r.get (i:=i) (x:=ys[i]) (by simp[hy]);rw[e1] at ru;cases (show u=Value.ref p from ru);let{_,its,rv,o,J,hc,n,hd}:=I.hok p _ e3;show{p,k,its,o,n,U,e2,e4,EK rv,C p o (fa p o J) (kp p o J),hc,hd}
 show{λh' Q E C q=>?_,λh' i j Q E C hi hj q=>?_}
 . let{fs,t,e,hf}:=J5 λi hi=>by
    let{p,k,us,o,n,U,hk,hk0,hI,J,hc,hd}:=at_ h' C i hi;cases hI with
    | nil=>show absurd rfl hk0
    | cons x tx hI'=>show{p,x,tx,_,o,n,U,J,hc,hd}
   show PySem.W.kat_kind (T:=Value.type "int") t () (λv hv=>?_) (by rfl) q;let{x,tx,0}:=hf v hv;show PySem.W.Looks.of_pure rfl
 . let{p,k,us,o,n,U,hk,_,hI,J,hc,hd}:=at_ h' C i hi;let{p2,k2,us2,o2,n2,hu2,mO,_,hI2,kr,nT,hd2}:=at_ h' C j hj;let e1:vs.getD i Value.none=.ref p:=by rw[zF,U];rfl
   let e2:vs.getD j Value.none=.ref p2:=by rw[zF,hu2];rfl
   let g1:ks.getD i []=k:=by rw[zF,hk];rfl
   let g2:ks.getD j []=k2:=by rw[zF,mO];rfl
   rw[e1,e2];show PySem.W.kat_lt (s:={ s' with heap:=h' }) J hd kr hd2 ?_;let q':Q (HT.lexLt k k2) { s' with heap:=h' }:=by
    let:Gh.blt (ks.getD i []) (ks.getD j [])=HT.lexLt k k2:=by rw[g1,g2];rfl
    rwa[<-this]
   let l1:=hI.length;let l2:=hI2.length;show V3 k k2 us us2 0 hI hI2 (by simp only[zU];rw[l1,l2]) q'
def Xp (T:Au H ys ks)(r:AK ys vs)(pm:out.Perm (List.range vs.length))(p:vs.length<64->SortT.Put (O:=Gh) (λi=>ks.getD i []) vs.length out):
 ∃zs ms,Au H zs ms/\ms.Perm ks/\(vs.length<64->QW ms)/\AK zs (out.map λi=>vs.getD i Value.none)/\zs.length=ys.length:=by
 let hl:=T.length;let hv:=r.length;let hb:∀i∈out,i<vs.length:=λi hi=>Cs.mp (pm.mem_iff.mp hi);show{out.map λi=>ys.getD i .non,out.map λi=>ks.getD i [],Au.mk (by rw[zC,zC]) λj x k I J=>?_,?_,?_,?_,?_}
 . rw[zM] at I J;cases e:out[j]? with
   | none=>rw[e] at I;ext I
   | some i=>
    rw[e] at I J;let hi:=hb i (zQ e);let C:i<ys.length:=()
    let{a,c,e1,e2,e3,e4}:=T.get (i:=i) (x:=ys[i]) (by simp[C]);let ex:ys.getD i .non=x:=zZ I;let ek:ks.getD i []=k:=zZ J;rw[zF,zB C] at ex;rw[zF,e2] at ek;let U:ys[i]=x:=ex;let ek':c=k:=ek;subst ek';show{a,by rwa[<-U],e3,e4}
 . let h1:=pm.map λi=>ks.getD i [];let h2:(List.range vs.length).map (λi=>ks.getD i [])=ks:=by
    rw[show vs.length=ks.length by lia];apply List.ext_getElem?;intro j;rw[zM];by_cases o:j<ks.length
    . rw[List.getElem?_range o,zB o];simp[o]
    . rw[zn (by rw[zy];lia),zn ()];rfl
   rwa[h2] at h1
 . show λlH=>Ed.mpr λi j hi o kX=>?_;rw[zC] at hi o;let:=(p lH).rise i j out[i] out[j] (CI kX) (by simp) (by simp);let h3:HT.lexLt (ks.getD out[j] []) (ks.getD out[i] [])=false:=this;simpa using h3
 . let:∀l:List Nat,(∀i∈l,i<vs.length)->AK (l.map λi=>ys.getD i .non) (l.map λi=>vs.getD i Value.none):=by
    intro l
    induction l with
    | nil=>intro _;show .nil
    | cons i l ih=>
     intro h;let hi:=h i zX;let C:i<ys.length:=()
     let{u,hu,ru}:=r.get (i:=i) (x:=ys[i]) (by simp[C]);show .cons ?_ (ih λj o=>h j (zd _ o));change AM (ys.getD i V.non) (vs.getD i Value.none);rwa[zF,zB C,zF,hu]
   show this out hb
 . rw[zC,pm.length_eq,zy];lia
def Mu (I:AA X pins σ H s)(J:↥s<=D)(kp:∀b o,s.heap.get? b=some o->h'.get? b=some o)
 (C:h'.get? D=some (seqObj "list" us.toArray c)) (r:AK zs us)(hz:zs.length<=sizeLine):AA X pins σ (upd H D (.lst zs)) { s with heap:=h',toks:=t' }:=
 I.laid kp J (show Av X.prog X.w _ _ _ (.lst zs) from ⟨hz,us,c,r,C⟩)
inductive QF (K:AF)(xs:List V)(H:Hp)(Q:VK):Prop
 | mk:∀p ys ks,(xs=[.ref p])->(AD K H p ys)->(Au H ys ks)->(ks.length<64)->(∀l zs ms,H l=none->Au H zs ms->ms.Perm ks->QW ms->Q (.ref l) (upd H l (.lst zs)))->QF K xs H Q
def YW:Be X (.builtin "sorted") (QF X.K):=by intro pins s σ H xs us Q I r h;let{p,ys,ks,0,hq,T,lH,q}:=h;let{u,0,U}:=Co r;ext U;let{its,o,pl,hz}:=I.list hq;let hl:=T.length;let hv:=o.length;show SortT.sorted_list (O:=Gh) (key:=λi=>ks.getD i []) (κ:=tuples' true) pl.isList () (λh2 s' a fa kp=>Ve I T o () fa kp) λD h' out c pt C kp ho=>?_;let{zs,ms,T2,hp,hr,J,hlz}:=Xp T o pt.perm λ_=>pt;show{.ref D,_,Mu (t':=s.toks) I C kp ho J (),0,q D zs ms (I.hok.fresh C) T2 hp (hr ())}
inductive Pj (xs:List V)(H:Hp)(Q:VK):Prop
 | mk:∀p kvs ks,(xs=[.ref p])->(H p=some (.dT kvs))->(kvs.map (·.1)=ks.map (List.map Sum.inl))->((∀k∈ks,k≠[]))->(ks.length<128)->(∀l zs ms,H l=none->Au H zs ms->ms.Perm ks->(ks.length<64->QW ms)->Q (.ref l) (upd H l (.lst zs)))->Pj xs H Q
def Vk (hc:X.calm=true):Be X (.builtin "sorted") Pj:=by
 intro pins s σ H xs us Q I r h;let{p,kvs,C,0,hd,hks,hk0,lH,q}:=h;let{u,0,rx}:=Co r;ext rx;let{hz,lo,xs,rel,o,es,ep,ho,hx,ka,kB,hnd}:=I.hok p _ hd;let key:∀(kvs:List (List AJ×V))(xs:List (List AJ×Addr×Value))(C:List (List Int)),KT H kvs xs->kvs.map (·.1)=C.map (List.map Sum.inl)->(∀k∈C,k≠[]) ->
  Au H (xs.map λq=>V.ref q.2.1) C/\AK (xs.map λq=>V.ref q.2.1) ((xs.map (entryOfKey (tupleKind (BG X.prog X.w)))).map (·.key)):=by
  intro kvs xs C rel
  induction rel generalizing C with
  | nil=>
   intro e _;cases C with
   | nil=>show{trivial,.nil}
   | cons k C=>simp at e
  | cons hpq _ ih=>
   intro e h0;cases C with
   | nil=>simp at e
   | cons k C=>simp only[Bj,List.cons.injEq] at e;let{T,V}:=ih C e.2 λc hc=>h0 c (zd _ hc);let{e1,e2,_}:=hpq;show{{{1,?_,h0 k zX},T},.cons rfl V};rw[e2,e.1,Bn];rfl
 let{T,J}:=key kvs xs C rel hks hk0;let hl:=T.length;let hv:=J.length;let evs:(xs.map (entryOfKey (tupleKind (BG X.prog X.w)))).map (·.key)=es.toList.map (·.key):=by rw[kB]
 show SortT.sorted_dict (O:=Gh) (key:=λi=>C.getD i []) (κ:=tuples' true) (vs:=(xs.map (entryOfKey (tupleKind (BG X.prog X.w)))).map (·.key)) (I.ok.hd hc) lo ⟨o,ho,hx,ka⟩ evs () (λh2 s' a fa kp=>Ve I T J () fa kp) λh1 D h' t' out c U pt k1 hD k2 ho=>?_;let{zs,ms,T2,hp,hr,rz,hlz}:=Xp T J U pt;let I1:AA X pins σ H { s with heap:=h1,toks:=s.toks }:=I.kept k1;show{.ref D,_,Mu (s:={ s with heap:=h1,toks:=s.toks }) (t':=t') I1 hD k2 ho rz ?_,0,q D zs ms (I1.hok.fresh hD) T2 hp λz=>hr ()};let:sizeLine=16777216:=rfl
 lia
mutual
inductive AX (H:Hp):V->PyData->Prop
 | non:AX H .non .none
 | bl (b:Bool):AX H (.bl b) (.bool b)
 | int (i:Int):AX H (.int i) (.int i)
 | str (x:Str):AX H (.str x) (.str x)
 | tup {a:Addr}{xs:List V}{ds:List PyData}:H a=some (.tup xs)->B0 H xs ds->AX H (.ref a) (.tuple ds)
 | lst {a:Addr}{xs:List V}{ds:List PyData}:H a=some (.lst xs)->B0 H xs ds->AX H (.ref a) (.list ds)
inductive B0 (H:Hp):List V->List PyData->Prop
 | nil:B0 H [] []
 | cons {x:V}{xs:List V}{d:PyData}{ds:List PyData}:AX H x d->B0 H xs ds->B0 H (x::xs) (d::ds)
end
mutual
def AX.reads (ok:Aq P w H h):∀{x:V}{d:PyData},AX H x d->∀{u:Value},AM x u->∃as,Reads h u d as
 | _,_,.non,u,r=>by cases (show u=Value.none from r);show{_,.none}
 | _,_,.bl b,u,r=>by cases (show u=Value.bool b from r);show{_,.bool b}
 | _,_,.int i,u,r=>by let{t,0}:=r;show{_,.int i t}
 | _,_,.str x,u,r=>by let{t,0}:=r;show{_,.str x t}
 | _,_,.tup (a:=a) e s,u,r=>by cases (show u=Value.ref a from r);let{_,its,C,o,J,U,n,hd}:=ok a _ e;let{as,I}:=B0.reads ok s C;show{_,.tuple J U hd ‹I›}
 | _,_,.lst (a:=a) e s,u,r=>by cases (show u=Value.ref a from r);let{_,its,n,C,J}:=ok a _ e;let{as,I}:=B0.reads ok s C;show{_,.list J rfl rfl ‹I›}
def B0.reads (ok:Aq P w H h):∀{xs:List V}{ds:List PyData},B0 H xs ds->∀{us:List Value},AK xs us->∃as,ReadsAll h us ds as
 | _,_,.nil,us,r=>by ext r;show{_,.nil}
 | _,_,.cons s t,us,r=>by
  cases r with
  | cons C o=>let{a1,J}:=AX.reads ok s C;let{a2,I}:=B0.reads ok t o;show{_,.cons J I}
end
def DF {i j pos} (o:PA X es t):PA X (.Constant (.int i) j pos::es) (Dt (tC (.int i)) t):=zD zg o (by rfl)
def Mn {pos} (h:PA X xs t1)(o:PA X es t):PA X (.List xs pos::es) (Dt (O4 t1) t):=zD (BR h) o (by rfl)
inductive NF:List Expr->List Int->Prop where
 | nil:NF [] []
 | cons {i:Int}{j:Nat}{pos:Pos}{es:List Expr}{ns:List Int}:NF es ns->NF (.Constant (.int i) j pos::es) (i::ns)
def Y0 (h:NF es ns):PA X es (λ_ H Q=>Q (ns.map V.int) H):=by
 induction h with
 | nil=>show zN
 | cons _ o=>intro pos pins s σ H Q I q;show (DF o) pos pins s σ H Q I q
inductive Nr:List Expr->List (List Int)->Prop where
 | nil:Nr [] []
 | cons {xs:List Expr}{ns:List Int}{pos:Pos}{es:List Expr}{nss:List (List Int)}:NF xs ns->ns.length<=sizeLine->Nr es nss->Nr (.List xs pos::es) (ns::nss)
def Vi:List (List Int)->TA
 | []=>Iw
 | ns::r=>λσ H Q=>∀p,H p=none->Vi r σ (upd H p (.lst (ns.map V.int))) λxs H2=>Q (.ref p::xs) H2
def cC (h:Nr es nss):PA X es (Vi nss):=by
 induction h with
 | nil=>show zN
 | cons C U _ o=>intro pos pins s σ H Q I q;show (Mn (Y0 C) o) pos pins s σ H Q I {by rwa[zC],λp J=>q p J}
end L2
namespace WM
def ZC {α:Type} [DecidableEq α]:∀{l₁ l₂:List α},l₁.Nodup->(∀x∈l₁,x∈l₂)->l₁.length<=l₂.length
 | [],_,_,_=>zj _
 | x::r,l₂,h,s=>by
  let{h1,U}:=E5.mp h;let C:x∈l₂:=s x zX;let J:=ZC (l₁:=r) (l₂:=l₂.erase x) U λy o=>by let I:y≠x:=λe=>h1 (e ▸ o);show (List.mem_erase_of_ne I).mpr (s y (zd _ o))
  rw[List.length_erase_of_mem C] at J;let:0<l₂.length:=List.length_pos_of_mem C;rw[zu]
  lia
meta def lowTo (n:Nat):List Int:=(List.range n).map λ(i:Nat)=>(i:Int)
def mem_ints :x∈lowTo n↔0<=x/\x<n:=by
 unfold lowTo;rw[zk];constructor
 . rintro ⟨i,hi,rfl⟩;let:=Cs.mp hi
   lia
 . rintro ⟨h0,o⟩;show{x.toNat,Cs.mpr (),()}
def M9 {n:Nat}{l:List Int}(h:l.Nodup)(hb:∀x∈l,0<=x/\x<n):l.length<=n:=by let:=ZC h (l₂:=lowTo n) λx o=>mem_ints.mpr (hb x o);simpa [lowTo] using this
def Wm:∀{l₁ l₂:List Int},l₁.Pairwise (· < ·)->l₂.Pairwise (· < ·)->(∀x,x∈l₁↔x∈l₂)->l₁=l₂
 | [],[],_,_,_=>rfl
 | [],y::_,_,_,h=>by let:=(h y).mpr zX;simp at this
 | x::_,[],_,_,h=>by let:=(h x).mp zX;simp at this
 | x::r,y::q,h1,h2,h=>by
  let{a1,b1}:=FO.mp h1;let{a2,b2}:=FO.mp h2;let e:x=y:=by
   rcases za.mp ((h x).mp zX) with e | e
   . show e
   . rcases za.mp ((h y).mpr zX) with e' | e'
     . show e'.symm
     . let:=a2 x e;let:=a1 y e';lia
  subst e;show congrArg (x :: ·) (Wm b1 b2 λz=>?_);constructor
  . intro o;rcases za.mp ((h z).mp (zd _ o)) with e | e
    . subst e;let:=a1 z o;lia
    . show e
  . intro o;rcases za.mp ((h z).mpr (zd _ o)) with e | e
    . subst e;let:=a2 z o;lia
    . show e
def Qr (n):(lowTo n).Pairwise (· < ·):=by unfold lowTo;rw[EZ];show List.pairwise_lt_range.imp λh=>by lia
abbrev T3:=Int×Int×Int
meta def tl (t:T3):List Int:=[t.1,t.2.1,t.2.2]
structure GW (n:Int)(ts:List T3):Prop where
 n1:1<=n
 n24:n<=24
 len:ts.length<64
 rng:∀t∈ts,0<=t.1/\t.1<t.2.1/\t.2.1<n/\1<=t.2.2/\t.2.2<=99
 dis:ts.Pairwise λs t=>¬ (s.1=t.1/\s.2.1=t.2.1)
def An (ts:List T3)(x y l:Int):Prop:=(x,y,l)∈ts\/(y,x,l)∈ts
def An.symm (h:An ts x y l):An ts y x l:=h.elim .inr .inl
def GW.uniq (g:GW n ts)(h:An ts x y l)(h':An ts x y o):l=o:=by
 let key:∀{ts:List T3},ts.Pairwise (λs t=>¬ (s.1=t.1/\s.2.1=t.2.1))->∀{a b l o:Int},(a,b,l)∈ts->(a,b,o)∈ts->l=o:=by
  intro ts
  induction ts with
  | nil=>intro _ a b l o h;simp at h
  | cons t r C=>
   intro J a b l o h h';let{q,I}:=FO.mp J;rcases za.mp h with e | e
   . rcases za.mp h' with e' | e'
     . rw[<-e] at e';injection e' with _ e2;injection e2 with _ e3;show e3.symm
     . show absurd (by rw[<-e];show{3}) (q _ e')
   . rcases za.mp h' with e' | e'
     . show absurd (by rw[<-e'];show{3}) (q _ e)
     . show C I e e'
 rcases h with h | h <;> rcases h' with h' | h'
 . show key g.dis h h'
 . let:=g.rng _ h;let:=g.rng _ h';simp only at *;omega
 . let:=g.rng _ h;let:=g.rng _ h';simp only at *;omega
 . show key g.dis h h'
def GW.adj (g:GW n ts)(h:An ts x y l):0<=x/\x<n/\0<=y/\y<n/\x≠y/\1<=l/\l<=99:=by rcases h with h | h <;> (have:=g.rng _ h;simp only at *;grind)
meta def fd (p:Int):List T3->List (List Int)
 | []=>[]
 | t::r=>(if t.1=p then [[t.2.1,t.2.2]] else [])++(if t.2.1=p then [[t.1,t.2.2]] else [])++fd p r
def aD (p):∀a b:List T3,fd p (a++b)=fd p a++fd p b
 | [],b=>rfl
 | t::r,b=>by change _++_++fd p (r++b)=_;rw[aD p r b];simp[fd,B8]
def Mt :∀{ts:List T3},k∈fd p ts↔∃y l,k=[y,l]/\An ts p y l
 | []=>by simp[fd,An]
 | (a,b,c)::r=>by
  let o:=Mt (p:=p) (k:=k) (ts:=r);change k∈_++_++fd p r↔_;rw[zr,zr,o];simp only;constructor
  . rintro ((h | h) | ⟨y,l,e,h⟩)
    . split at h
      . rename_i e;simp at h;subst e;show{b,c,h,.inl zX}
      . simp at h
    . split at h
      . rename_i e;simp at h;subst e;show{a,c,h,.inr zX}
      . simp at h
    . show{y,l,e,h.elim (λz=>.inl (zd _ z)) λz=>.inr (zd _ z)}
  . rintro ⟨y,l,e,h⟩;rcases h with h | h
    . rcases za.mp h with q | q
      . injection q with q1 q2;injection q2 with q2 q3;subst q1 q2 q3;show .inl (.inl (by simp[e]))
      . show .inr {y,l,e,.inl q}
    . rcases za.mp h with q | q
      . injection q with q1 q2;injection q2 with q2 q3;subst q1 q2 q3;show .inl (.inr (by simp[e]))
      . show .inr {y,l,e,.inr q}
def UK {n:Int}(p:Int):∀{ts:List T3},(∀t∈ts,t.1<t.2.1)->(fd p ts).length<=ts.length
 | [],_=>zJ _
 | t::r,h=>by
  let C:=UK (n:=n) p (ts:=r) λt o=>h t (zd _ o);let h0:=h t zX;change (_++_++fd p r).length<=_;rw[zK,zK,zu];let:(if t.1=p then [[t.2.1,t.2.2]] else ([]:List (List Int))).length+(if t.2.1=p then [[t.1,t.2.2]] else ([]:List (List Int))).length<=1:=by split <;> split <;> simp <;> lia
  lia
meta def hd (k:List Int):Int:=k.getD 0 0
inductive Way (ts:List T3):Int->Int->Int->Prop where
 | nil (x:Int):Way ts x x 0
 | cons {x z y l d:Int}:An ts x z l->Way ts z y d->Way ts x y (l+d)
def Way.nn (g:GW n ts)(h:Way ts x y d):0<=d:=by
 induction h with
 | nil=>show FL _
 | cons ha _ o=>have:=g.adj ha;lia
def Way.one (h:An ts x y l):Way ts x y l:=by let:=Way.cons h (.nil y);rwa [Int.add_zero] at this
def Way.trans (h:Way ts x y d)(h':Way ts y z e):Way ts x z (d+e):=by
 induction h with
 | nil=>rwa[Bi]
 | cons ha _ o=>rw[Int.add_assoc];show .cons ha (o h')
def Way.symm (h:Way ts x y d):Way ts y x d:=by
 induction h with
 | nil=>show .nil _
 | cons ha _ o=>have:=o.trans (.one ha.symm);rwa [Int.add_comm] at this
def IsD (ts:List T3)(x y d:Int):Prop:=Way ts x y d/\∀e,Way ts x y e->d<=e
def Cu (ts:List T3)(x y:Int):Option Int->Prop
 | some d=>IsD ts x y d
 | none=>∀d,¬ Way ts x y d
def IsD.uniq (h:IsD ts x y d)(h':IsD ts x y e):d=e:=Int.le_antisymm (h.2 _ h'.1) (h'.2 _ h.1)
def Cu.uniq (h:Cu ts x y o)(h':Cu ts x y o'):o=o':=by
 cases o with
 | none=>
  cases o' with
  | none=>rfl
  | some e=>show absurd h'.1 (h e)
 | some d=>
  cases o' with
  | none=>show absurd h.1 (h' d)
  | some e=>show congrArg some (IsD.uniq h h')
def IsD.symm (h:IsD ts x y d):IsD ts y x d:={h.1.symm,λe he=>h.2 e he.symm}
def F2 (g:GW n ts)(x):IsD ts x x 0:={.nil x,λ_ h=>h.nn g}
inductive Bv (ts:List T3)(k:Int):Int->Int->Int->Prop where
 | nil (x:Int):Bv ts k x x 0
 | tie {x y l:Int}:An ts x y l->Bv ts k x y l
 | cons {x z y l d:Int}:An ts x z l->z<k->Bv ts k z y d->Bv ts k x y (l+d)
def Bv.way (h:Bv ts k x y d):Way ts x y d:=by
 induction h with
 | nil=>show .nil _
 | tie ha=>show .one ha
 | cons ha _ _ o=>show .cons ha o
def Way.toK (g:GW n ts)(h:Way ts x y d):Bv ts n x y d:=by
 induction h with
 | nil=>show .nil _
 | cons ha _ o=>show .cons ha (g.adj ha).2.2.2.1 o
def Bv.split (g:GW n ts)(h:Bv ts (k+1) x y d):Bv ts k x y d\/∃C o,Bv ts k x k C/\Bv ts k k y o/\C+o<=d:=by
 induction h with
 | nil=>show .inl (.nil _)
 | tie ha=>show .inl (.tie ha)
 | cons ha U w I=>
  rename_i x z y l d
  by_cases J:z<k
  . rcases I with q | ⟨C,o,a,b,c⟩
    . show .inl (.cons ha J q)
    . show .inr {l+C,o,.cons ha J a,b,()}
  . let e:z=k:=()
    subst e;rcases I with q | ⟨C,o,a,b,c⟩
    . show .inr {l,d,.tie ha,q,FL _}
    . let:=a.way.nn g;show .inr {l,o,.tie ha,b,()}
def Bv.zero (g:GW n ts)(h:Bv ts 0 x y d):(x=y/\d=0)\/An ts x y d:=by
 cases h with
 | nil=>show .inl {3}
 | tie ha=>show .inr ha
 | cons ha o _=>have:=g.adj ha;omega
structure Fw (ts:List T3)(n:Int)(F:Int->Int->Option Int):Prop where
 snd:∀x y d,0<=x->x<n->0<=y->y<n->F x y=some d->Way ts x y d
def J0 (ts:List T3)(n k:Int)(F:Int->Int->Option Int):Prop:=∀x y d,0<=x->x<n->0<=y->y<n->Bv ts k x y d->∃e,F x y=some e/\e<=d
def Fw.len (g:GW n ts)(h:Fw ts n F)(c:J0 ts n n F)(J:0<=x)(o:x<n)(I:0<=y)(C:y<n):Cu ts x y (F x y):=by
 cases e:F x y with
 | some d=>show{h.snd x y d J o I C e,λU he=>?_};let{f,hf,hle}:=c x y U J o I C (he.toK g);rw[e] at hf;ext hf;show hle
 | none=>intro d hd;let{f,hf,_}:=c x y d J o I C (hd.toK g);rw[e] at hf;ext hf
meta def DP (o:List (Option Int))(p:Int):Option Int:=if 0<=p then o.getD p.toNat none else none
def dX (h0:0<=p)(I:p.toNat<kn.length)(q):DP (kn.set p.toNat o) q=if q=p then o else DP kn q:=by
 unfold DP;by_cases C:0<=q
 . rw[if_pos C,if_pos C,zF,zF,List.getElem?_set];by_cases e:q=p
   . subst e;simp[I]
   . let:¬ p.toNat=q.toNat:=()
     rw[if_neg this,if_neg e]
 . rw[if_neg C,if_neg (),if_neg C]
structure Um (ts:List T3)(n s:Int)(kn:List (Option Int)):Prop where
 ln:kn.length=n.toNat
 len:∀y,0<=y->y<n->Cu ts s y (DP kn y)
 bd:∀o∈kn,∀d,o=some d->0<=d/\d<=1660944384
meta def EJ:Option Int->Option Int->Option Int
 | some a,some b=>some (a+b)
 | _,_=>none
meta def EE:Option Int->Option Int->Option Int
 | none,o=>o
 | some a,none=>some a
 | some a,some b=>some (if b<a then b else a)
def Bv.mono (h:Bv ts k x y d)(I:k<=k'):Bv ts k' x y d:=by
 induction h with
 | nil=>show .nil _
 | tie ha=>show .tie ha
 | cons ha C _ o=>show .cons ha () o
structure Fm (ts:List T3)(n k:Int)(F:Int->Int->Option Int)(done:Int->Int->Prop):Prop where
 fw:Fw ts n F
 cv:J0 ts n k F
 dn:∀x y d,0<=x->x<n->0<=y->y<n->done x y->Bv ts (k+1) x y d->∃e,F x y=some e/\e<=d
def ck (h:(∃e,o=some e/\e<=d)\/∃e,p=some e/\e<=d):∃e,EE o p=some e/\e<=d:=by
 rcases h with ⟨e,rfl,h⟩ | ⟨e,rfl,h⟩
 . cases p with
   | none=>show{e,0,h}
   | some b=>show{1,by split <;> lia}
 . cases o with
   | none=>show{e,0,h}
   | some a=>show{1,by split <;> lia}
def gM (h:EE o p=some d):o=some d\/p=some d:=by
 cases o with
 | none=>show .inr h
 | some a=>
  cases p with
  | none=>show .inl h
  | some b=>
   let e:(if b<a then b else a)=d:=zZ h
   split at e
   . show .inr (by rw[e])
   . show .inl (by rw[e])
def Y2 (h:EJ o p=some d):∃a b,o=some a/\p=some b/\a+b=d:=by
 cases o with
 | none=>ext h
 | some a=>
  cases p with
  | none=>ext h
  | some b=>show{a,b,3,zZ h}
def Fm.step (g:GW n ts)(h:Fm ts n k F done)(ha:0<=a)(lG:a<n)(hb:0<=b)(kS:b<n)(hk:0<=k)(nN:k<n):
 Fm ts n k (λx y=>if x=a/\y=b then EE (F a b) (EJ (F a k) (F k b)) else F x y) (λx y=>done x y\/(x=a/\y=b)):=by
 let snd:∀d,EE (F a b) (EJ (F a k) (F k b))=some d->Way ts a b d:=λd hd=>by
  rcases gM hd with e | e
  . show h.fw.snd a b d ha lG hb kS e
  . let{d1,d2,e1,e2,0}:=Y2 e;show (h.fw.snd a k d1 ha lG hk nN e1).trans (h.fw.snd k b d2 hk nN hb kS e2)
 let o:∀d,Bv ts (k+1) a b d->∃e,EE (F a b) (EJ (F a k) (F k b))=some e/\e<=d:=λd w=>by
  show ck ?_;rcases w.split g with q | ⟨d1,d2,q1,q2,hle⟩
  . show .inl (h.cv a b d ha lG hb kS q)
  . let{e1,f1,l1}:=h.cv a k d1 ha lG hk nN q1;let{e2,f2,l2}:=h.cv k b d2 hk nN hb kS q2;show .inr {e1+e2,by rw[f1,f2];rfl,()}
 show{{λx y d U C J I e=>?_},λx y d U C J I w=>?_,λx y d U C J I hd w=>?_}
 . by_cases c:x=a/\y=b
   . rw[if_pos c] at e;rw[c.1,c.2];show snd d e
   . rw[if_neg c] at e;show h.fw.snd x y d U C J I e
 . by_cases c:x=a/\y=b
   . rw[if_pos c];rw[c.1,c.2] at w;show o d (w.mono ())
   . rw[if_neg c];show h.cv x y d U C J I w
 . by_cases c:x=a/\y=b
   . rw[if_pos c];rw[c.1,c.2] at w;show o d w
   . rw[if_neg c];show h.dn x y d U C J I (hd.resolve_right c) w
def Fm.enter (h:Fw ts n F)(c:J0 ts n k F):Fm ts n k F (λ_ _=>False):={h,c,λ_ _ _ _ _ _ _ z=>z.elim}
def Fm.leave (h:Fm ts n k F done)(hd:∀x y,0<=x->x<n->0<=y->y<n->done x y):Fw ts n F/\J0 ts n (k+1) F:=
 {h.fw,λx y d J o I C w=>h.dn x y d J o I C (hd x y J o I C) w}
def Ft (ts:List T3)(n:Int)(F:Int->Int->Option Int):Prop:=∀x y d,0<=x->x<n->0<=y->y<n->(F x y=some d↔(x=y/\d=0)\/An ts x y d)
def Ft.fw (g:GW n ts)(h:Ft ts n F):Fw ts n F/\J0 ts n 0 F:=by
 show{{λx y d J o I C e=>?_},λx y d J o I C w=>?_}
 . rcases (h x y d J o I C).mp e with ⟨rfl,rfl⟩ | ha
   . show .nil x
   . show .one ha
 . show{d,(h x y d J o I C).mpr ?_,FL _};rcases w.zero g with q | q
   . show .inl q
   . show .inr q
def Ft.nil (n)(h:∀x y,0<=x->x<n->0<=y->y<n->F x y=if x=y then some 0 else none):Ft [] n F:=λx y d J o I C=>by
 rw[h x y J o I C];constructor
 . intro e;split at e
   . rename_i c;show .inl {c,(zZ e).symm}
   . ext e
 . rintro (⟨rfl,rfl⟩ | ha)
   . rw[if_pos rfl]
   . rcases ha with z | z <;> simp at z
def Ft.put (g:GW n (pre++(a,b,l)::post))(h:Ft pre n F):
 Ft (pre++[(a,b,l)]) n (λx y=>if x=b/\y=a then some l else if x=a/\y=b then some l else F x y):=λx y d hx ju hy j6=>by
 let hr:=g.rng (a,b,l) (by simp);simp only at hr;let sub:∀{x y d:Int},An pre x y d->An (pre++(a,b,l)::post) x y d:=λz=>z.elim (λz=>.inl (Cy _ z)) λz=>.inr (Cy _ z);let own:An (pre++(a,b,l)::post) a b l:=.inl (by simp);let U:An (pre++[(a,b,l)]) x y d↔An pre x y d\/(x=a/\y=b/\d=l)\/(x=b/\y=a/\d=l):=by
  unfold An;simp only[zr,zm,Prod.mk.injEq];constructor
  . rintro ((z | z) | (z | z))
    . show .inl (.inl z)
    . show .inr (.inl z)
    . show .inl (.inr z)
    . show .inr (.inr ⟨z.2.1,z.1,z.2.2⟩)
  . rintro ((z | z) | z | z)
    . show .inl (.inl z)
    . show .inr (.inl z)
    . show .inl (.inr z)
    . show .inr (.inr ⟨z.2.1,z.1,z.2.2⟩)
 rw[U];change (if x=b/\y=a then some l else if x=a/\y=b then some l else F x y)=some d↔_
 by_cases I:x=b/\y=a
 . rw[if_pos I];constructor
   . intro e;show .inr (.inr (.inr {I.1,I.2,(zZ e).symm}))
   . rintro (⟨e,_⟩ | z | ⟨e1,e2,o⟩ | ⟨_,_,o⟩)
     . lia
     . let J:=sub z;rw[I.1,I.2] at J;rw[g.uniq J own.symm]
     . rw[o]
     . rw[o]
 . rw[if_neg I];by_cases C:x=a/\y=b
   . rw[if_pos C];constructor
     . intro e;show .inr (.inr (.inl {C.1,C.2,(zZ e).symm}))
     . rintro (⟨e,_⟩ | z | ⟨e1,e2,o⟩ | ⟨_,_,o⟩)
       . lia
       . let J:=sub z;rw[C.1,C.2] at J;rw[g.uniq J own]
       . rw[o]
       . rw[o]
   . rw[if_neg C,h x y d hx ju hy j6];constructor
     . rintro (z | z)
       . show .inl z
       . show .inr (.inl z)
     . rintro (z | z | z | z)
       . show .inl z
       . show .inr z
       . show absurd ⟨z.1,z.2.1⟩ C
       . show absurd ⟨z.1,z.2.1⟩ I
meta def Ag (M:BV)(x y:Int):Option Int:=if 0<=x then DP (M.getD x.toNat []) y else none
meta def Ec (M:BV)(a b:Int)(v:Option Int):List (List (Option Int)):=M.set a.toNat ((M.getD a.toNat []).set b.toNat v)
structure C8 (n:Int)(M:BV):Prop where
 ln:M.length=n.toNat
 rw_:∀r∈M,r.length=n.toNat
def C8.row (h:C8 n M)(ha:0<=a)(C:a<n):∃r,M[a.toNat]?=some r/\M.getD a.toNat []=r/\r.length=n.toNat:=by
 let I:=h.ln;let o:a.toNat<M.length:=()
 show{M[a.toNat],zB o,by rw[zF,zB o];rfl,h.rw_ _ (Cv o)}
def C8.set (h:C8 n M)(ha:0<=a)(C:a<n):C8 n (Ec M a b v):=by
 let{r,U,J,I}:=h.row ha C;show{by unfold Ec;rw[Cp];show h.ln,λq o=>?_};unfold Ec at o;rcases List.mem_or_eq_of_mem_set o with z | z
 . show h.rw_ q z
 . rw[z,Cp,J,I]
def UJ (h:C8 n M)(ha:0<=a)(I:a<n)(hb:0<=b)(U:b<n)(C:0<=x)(ju:x<n):
 Ag (Ec M a b v) x y=if x=a/\y=b then v else Ag M x y:=by
 let{r,h1,J,h3}:=h.row ha I;let hl:=h.ln;unfold Ag Ec;rw[if_pos C,if_pos C,zF,List.getElem?_set];by_cases e:x=a
 . subst e;rw[if_pos rfl,if_pos (by grind),Option.getD_some,J,dX hb ()];by_cases o:y=b
   . rw[if_pos o,if_pos {0,o}]
   . rw[if_neg o,if_neg λz=>o z.2]
 . rw[if_neg (),if_neg λz=>e z.1,<-zF]
def Fm.congr (h:Fm ts n k F done)(e:∀x y,0<=x->x<n->0<=y->y<n->G x y=F x y)(hd:∀x y,0<=x->x<n->0<=y->y<n->done' x y->done x y):Fm ts n k G done':=
 {{λx y d a b c o z=>h.fw.snd x y d a b c o (by rwa[<-e x y a b c o])},λx y d a b c o w=>by rw[e x y a b c o];show h.cv x y d a b c o w,λx y d a b c o z w=>by rw[e x y a b c o];show h.dn x y d a b c o (hd x y a b c o z) w}
def Ft.congr (h:Ft ts n F)(e:∀x y,0<=x->x<n->0<=y->y<n->G x y=F x y):Ft ts n G:=λx y d a b c o=>by rw[e x y a b c o];show h x y d a b c o
def Rows (ts:List T3)(n:Int)(M:BV):Prop:=M.length=n.toNat/\∀x,0<=x->x<n->Um ts n x (M.getD x.toNat [])
def Zr (g:GW n ts)(x y)(J:0<=x)(C:x<n)(d)(h:IsD ts x y d):0<=d/\d<=1660944384:=by
 let key:∀(k:Nat){x y d:Int},Bv ts k x y d->∃e,Way ts x y e/\e<=99*2 ^ k:=by
  intro k
  induction k with
  | zero=>
   intro x y d w;cases w with
   | nil=>show⟨0,.nil _,by decide⟩
   | tie ha=>show{_,.one ha,by let:=g.adj ha;lia}
   | cons ha I=>have:=g.adj ha;omega
  | succ k o=>
   intro x y d w;let p:0<(2:Int) ^ k:=Int.pow_pos (by decide);rw[Int.pow_succ];rcases Bv.split g (k:=k) w with w | ⟨_,_,a,b,_⟩
   . let{e,a,b}:=o w;show{e,a,()}
   . let{e,a,a2}:=o a;let{f,b,b2}:=o b;show{e+f,a.trans b,()}
 show{h.1.nn g,?_};let{e,a,b}:=key 24 ((h.1.toK g).mono (show n<=((24:Nat):Int) from g.n24));show Int.le_trans (h.2 e a) b
def gF (g:GW n ts)(h:C8 n M)(f:Fw ts n (Ag M))(c:J0 ts n n (Ag M)):Rows ts n M:=by
 show{h.ln,λx C I=>?_};let{r,h1,U,h3}:=h.row C I;let e:∀y,Ag M x y=DP r y:=λy=>by unfold Ag;rw[if_pos C,U]
 rw[U];show{h3,λy hy j6=>by rw[<-e];show f.len g c C I hy j6,λo ho d ed=>?_};let{j,hj,ej}:=zf ho;let hf:DP r (j:Int)=some d:=by unfold DP;rw[if_pos (),zF,B4,zB hj,ej,ed];rfl
 let J:=f.len g c C I (y:=(j:Int)) () ();rw[e,hf] at J;show Zr g x j C I d J
def CS (ts:List T3)(x y p:Int):Prop:=∃a b,IsD ts x p a/\IsD ts p y b/\IsD ts x y (a+b)
def BF (ts:List T3)(x y p:Int):Prop:=∃l b,An ts x p l/\IsD ts p y b/\IsD ts x y (l+b)
def CS.symm (h:CS ts x y p):CS ts y x p:=by let{a,b,I,C,o}:=h;show{b,a,C.symm,I.symm,by rw[Int.add_comm];show o.symm}
def Way.zero (g:GW n ts)(h:Way ts x y 0):x=y:=by
 let:∀{x y d:Int},Way ts x y d->d=0->x=y:=by
  intro x y d w;cases w with
  | nil=>intro _;rfl
  | cons ha o=>intro e;let:=g.adj ha;let:=o.nn g;lia
 show this h rfl
def Way.in_ (g:GW n ts)(w:Way ts x y d)(I:0<=x)(o:x<n):0<=y/\y<n:=by
 induction w with
 | nil=>show⟨I,o⟩
 | cons ha _ C=>have:=g.adj ha;show C this.2.2.1 this.2.2.2.1
def CS.self (g:GW n ts)(h:IsD ts x y d):CS ts x y x:=⟨0,d,F2 g x,h,by rwa[Bi]⟩
def GZ (g:GW n ts)(h:IsD ts x y d):d=0↔x=y:=by
 constructor
 . intro e;subst e;show h.1.zero g
 . intro e;subst e;show IsD.uniq h (F2 g x)
def CS.trans (h:CS ts x y p)(h':CS ts x p q):CS ts x y q:=by
 let{a,b,h1,U,C}:=h;let{c,e,o,J,I}:=h';let e1:a=c+e:=IsD.uniq h1 I;show{c,e+b,o,{J.1.trans U.1,λf hf=>?_},?_}
 . let:=C.2 _ (o.1.trans hf)
   lia
 . rwa[e1,Int.add_assoc] at C
def Way.least (g:GW n ts)(h:Way ts x y d):∃e,IsD ts x y e:=by
 let:∀(m:Nat)(d:Int),Way ts x y d->d.toNat<=m->∃e,IsD ts x y e:=by
  intro m
  induction m with
  | zero=>
   intro d hd hm;let:=hd.nn g;let e:d=0:=()
   subst e;show⟨0,hd,λf hf=>hf.nn g⟩
  | succ m C=>
   intro d hd hm;by_cases o:∃f,Way ts x y f/\f<d
   . let{f,hf,I}:=o;let:=hf.nn g;show C f hf ()
   . show{d,hd,λf hf=>?_};apply Classical.byContradiction;intro J;show o {f,hf,()}
 show this _ d h (zJ _)
def BF.exists (g:GW n ts)(h:IsD ts x y d)(C:x≠y):∃p,BF ts x y p:=by
 let{hw,o}:=h;cases hw with
 | nil=>show absurd rfl C
 | cons ha w=>
  rename_i z l e
  let{f,hf}:=w.least g;let J:=hf.2 _ w;let I:=o _ (.cons ha hf.1);let:f=e:=()
  subst this;show{z,l,f,ha,hf,.cons ha hf.1,o}
def BF.ne (g:GW n ts)(h:BF ts x y p):x≠y:=by
 let{l,b,ha,hb,hd}:=h;intro e;subst e;let:=IsD.uniq hd (F2 g x);let:=g.adj ha;let:=hb.1.nn g
 lia
end WM
namespace L2
open PySem PySem.Spec PyProof.Rows
meta def Hh:KeyOrd:={Int,λa b=>decide (a<b),λa=>zW (),λa b c C o=>zO (by let:=of_decide_eq_true C;let:=of_decide_eq_true o;lia),
 λa b c h=>by
  let h':a<c:=of_decide_eq_true h;by_cases I:a<b
  . show .inl (zO I)
  . show .inr (zO ()),
 λa b C o=>by let:=of_decide_eq_false C;let:=of_decide_eq_false o;lia}
def Ts (o:IntsAre vs ns)(U:2<=vs.length):
 SortT.Asks prog w A s a vs (O:=Hh) (λi=>ns.getD i 0) oneType':=by
 let hl:=o.length;let at_:∀i,i<vs.length->∃t,vs.getD i Value.none=.int (ns.getD i 0) t:=λi hi=>by obtain⟨n,hn⟩:∃n,ns[i]?=some n:={_,zB ()};let{t,I}:=o.get i n hn;show{t,by rw[zF,zF,I,hn];rfl}
 show{λh' Q E C q=>?_,λh' i j Q E C hi J q=>?_}
 . rw[ksk_kind (keys:=vs.toArray) (kz:=ns) ‹o› ‹U›];show zG q
 . let{t,e1}:=at_ i hi;let{u,e2}:=at_ j J;rw[e1,e2];show PySem.W.kat_lt_int q
def TL (C:IntsAre vs ns)(p:SortT.Put (O:=Hh) (λi=>ns.getD i 0) vs.length out):
 ∃ms:List Int,ms.Perm ns/\ms.Pairwise (· <= ·)/\AK (ms.map V.int) (out.map λi=>vs.getD i Value.none)/\ms.length=ns.length:=by
 let hl:=C.length;let hb:∀i∈out,i<vs.length:=λi hi=>Cs.mp (p.perm.mem_iff.mp hi);show{out.map λi=>ns.getD i 0,?_,?_,?_,?_}
 . let h1:=p.perm.map λi=>ns.getD i 0;let h2:(List.range vs.length).map (λi=>ns.getD i 0)=ns:=by
    rw[show vs.length=ns.length by lia];apply List.ext_getElem?;intro j;rw[zM];by_cases o:j<ns.length
    . rw[List.getElem?_range o,zB o];simp[o]
    . rw[zn (by rw[zy];lia),zn ()];rfl
   rwa[h2] at h1
 . show Ed.mpr λi j hi o I=>?_;rw[zC] at hi o;let:=p.rise i j out[i] out[j] (CI I) (by simp) (by simp);let h3:decide (ns.getD out[j] 0<ns.getD out[i] 0)=false:=this;let h4:=of_decide_eq_false h3;rw[List.getElem_map,List.getElem_map]
   lia
 . let:∀l:List Nat,(∀i∈l,i<vs.length)->AK ((l.map λi=>ns.getD i 0).map V.int) (l.map λi=>vs.getD i Value.none):=by
    intro l
    induction l with
    | nil=>intro _;show .nil
    | cons i l J=>intro h;let hi:=h i zX;obtain⟨n,hn⟩:∃n,ns[i]?=some n:={_,zB ()};let{t,U}:=C.get i n hn;show .cons ?_ (J λj o=>h j (zd _ o));change AM (V.int (ns.getD i 0)) (vs.getD i Value.none);rw[zF,zF,U,hn];show{t,0}
   show this out hb
 . rw[zC,p.perm.length_eq,zy];lia
inductive N6 (xs:List V)(H:Hp)(Q:VK):Prop
 | mk:∀p kvs ns,(xs=[.ref p])->(H p=some (.dK kvs))->(kvs.map (·.1)=ns.map Sum.inl)->(ns.length<64)->(∀(l:Addr)(ms:List Int),H l=none->ms.Perm ns->ms.Pairwise (· <= ·)->Q (.ref l) (upd H l (.lst (ms.map V.int))))->N6 xs H Q
def UC (hc:X.calm=true):Be X (.builtin "sorted") N6:=by
 intro pins s σ H xs us Q I r h;let{p,kvs,ns,0,hd,hks,lH,q}:=h;let{u,0,rx}:=Co r;ext rx;let{hz,lo,vs,rel,o,es,ep,ho,hx,ka,_,J,hnd}:=IH I.hok hd;let key:∀(es:List DictEntry)(kvs:List (AJ×V))(vs:List (AJ×Value))(ns:List Int),KV kvs vs->Pairs (BG X.prog X.w) es vs->kvs.map (·.1)=ns.map Sum.inl->IntsAre (es.map (·.key)) ns:=by
  intro es
  induction es with
  | nil=>
   intro kvs vs ns rel pr e;ext pr;ext rel;cases ns with
   | nil=>show .nil
   | cons n ns=>simp at e
  | cons d es ih=>
   intro kvs vs ns rel pr e;cases pr with
   | cons C k2 k3=>
    cases rel with
    | cons U t=>
     cases ns with
     | nil=>simp at e
     | cons n ns=>simp only[Bj,List.cons.injEq] at e;rw[<-U.1,e.1] at C;let{t0,e0}:=Value.isInt_shape (k:=n) (v:=d.key) C;rw[Bj,e0];show .cons n t0 (ih _ _ _ t k3 e.2)
 let hI:IntsAre (es.toList.map (·.key)) ns:=key _ _ _ _ rel J hks;let hl:=hI.length;show SortT.sorted_dict (O:=Hh) (key:=λi=>ns.getD i 0) (κ:=oneType') (vs:=es.toList.map (·.key)) (I.ok.hd hc) lo ⟨o,ho,hx,ka⟩ rfl () (λh2 s' a fa kp=>Ts hI h2) λh1 D h' t' out c _ pt C hD k2 ho=>?_;let{ms,hp,hr,rz,hlz}:=TL hI (pt ());let I1:AA X pins σ H { s with heap:=h1,toks:=s.toks }:=I.kept C;show{.ref D,_,Mu (s:={ s with heap:=h1,toks:=s.toks }) (t':=t') I1 hD k2 ho rz ?_,0,q D ms (I1.hok.fresh hD) hp hr};let:sizeLine=16777216:=rfl;rw[zC]
 lia
meta def oV:Option Int->V
 | none=>.non
 | some d=>.int d
def NS {n:Nat}{i:Int}(h0:0<=i)(o:i<n):HE n i=some i.toNat:=by unfold HE;rw[if_pos h0,if_pos o]
def CM (h0:0<=i)(h:xs[i.toNat]?=some v):By xs i=some v:=by let:=Dx h;rwa [Int.toNat_of_nonneg h0] at this
def ZG {xs:List Int}:((List.range (min xs.length ys.length)).all (λj=>xs.getD j 0==ys.getD j 0) && xs.length==ys.length)=decide (xs=ys):=by
 by_cases h:xs=ys
 . subst h;simp
 . rw[zW h];by_cases C:xs.length=ys.length
   . let:∃j,j<xs.length/\xs.getD j 0≠ys.getD j 0:=by apply Classical.byContradiction;intro J;show h (List.ext_getElem C λj I U=>?_);apply Classical.byContradiction;intro o;show J {j,I,by simpa [zF,I,U] using o}
     let{j,hj,o}:=this;rw[Bool.and_eq_false_iff];left;rw[List.all_eq_false];show{j,by rw[Cs];lia,‹o›}
   . simp[C]
def Ij (J:IntsAre us xs)(I:IntsAre ws ys)(j)(a:j<us.toArray.size)(b:j<ws.toArray.size):SeqAt.EqAt A s us.toArray[j] ws.toArray[j] (xs.getD j 0==ys.getD j 0):=by
 let l1:=J.length;let l2:=I.length;rw[zU] at a b;obtain⟨n,hn⟩:∃n,xs[j]?=some n:={_,zB ()};obtain⟨m,hm⟩:∃m,ys[j]?=some m:={_,zB ()};let{t,C}:=J.get j n hn;let{u,o}:=I.get j m hm;let e1:us.toArray[j]=.int n t:=by rw[zB a] at C;simpa using zZ C
 let U:ws.toArray[j]=.int m u:=by rw[zB b] at o;simpa using zZ o
 rw[e1,U,zF,zF,hn,hm];show SeqAt.EqAt.int_int n t m u
inductive Xk (K:AF)(x:V)(y:V)(H:Hp)(Q:VK):Prop
 | mk:∀(a b:Addr)(xs ys:List Int),(x=.ref a)->(y=.ref b)->(AD K H a (xs.map V.int))->(AD K H b (ys.map V.int))->(Q (.bl (!decide (xs=ys))) H)->Xk K x y H Q
def UL (K:AF):R2:=λx y H Q=>Xk K x y H Q
def Jy (hu:X.A.units<cLine):A9 X (compareOp .NotEq) (UL X.K):=by
 intro pins s σ H x y v u Q I rx ry h;let{a,b,xs,ys,3,ha,hb,q}:=h;ext rx;ext ry;let{its,r,J,hz}:=I.list ha;let{j7,r2,U,hz2}:=I.list hb;let C:=EK r;let o:=EK r2;by_cases hl:its.length=j7.length
 . show PySem.EqBoolInt.of_rcne (SeqAt.RcNeAt.lists (e:=λj=>xs.getD j 0==ys.getD j 0) J.isList U.isList (by rwa[zU,zU]) hu (λj a b=>Ij C o j a b)) {.bl _,H,I,0,?_};rw[zU];let e:=ZG (xs:=xs) (ys:=ys);let l1:=C.length;let l2:=o.length;rw[show min xs.length ys.length=its.length by grind,show (xs.length==ys.length)=true by simpa using (),Bool.and_true] at e;rwa[e]
 . show PySem.EqBoolInt.of_rcne (SeqAt.RcNeAt.lists_lengths J.isList U.isList (by rw[zU,zU];simpa using hl) hu) {.bl _,H,I,0,?_};let kA:xs≠ys:=λe=>hl (by rw[C.length,o.length,e]);rwa[zW kA] at q
inductive WH (Q:VK)(vs:List V)(H1:Hp):Prop
 | mk:∀j:Int,(vs=[.int j])->(0<=j)->(j<=1000)->(∀l,H1 l=none->Q (.ref l) (upd H1 l (.lst ((WM.lowTo j.toNat).map V.int))))->WH Q vs H1
def dy (ta:TA):TE:=λσ H Q=>ta σ H λo H1=>WH Q o H1
def dI:∀vs(n:Nat),vs.length=n->(∀(j:Nat)v,vs[j]?=some v->∃t,v=.int (0+(j:Int)*1) t)->AK ((WM.lowTo n).map V.int) vs:=by
 let key:∀(vs:List Value)(a:Nat),(∀(j:Nat)(v:Value),vs[j]?=some v->∃t,v=.int ((a+j:Nat):Int) t)->AK ((List.range' a vs.length).map λ(i:Nat)=>V.int (i:Int)) vs:=by
  intro vs
  induction vs with
  | nil=>intro _ _;show .nil
  | cons v r U=>intro a h;let{t,C}:=h 0 v rfl;rw[zu,List.range'_succ,Bj];show .cons {t,by rw[C];rfl} (U (a+1) λj u I=>?_);let{J,o}:=h (j+1) u I;show{J,by rw[o];congr 1;lia}
 intro vs n e h;subst e;let:=key vs 0 λj v I=>by let{t,C}:=h j v I;show{t,by rw[C];congr 1;lia}
 unfold WM.lowTo;rwa[Bn,List.range_eq_range']
def Xc (hc:X.calm=true)(hgL:Gl X "list") (hmL:X.mg "list"=none) (hgR:Gl X "range") (U:X.mg "range"=none) (ha:PA X [a] ta)(hs:autoParam (starEach [a] X.env=[(false,eval a X.env)]) d_._auto_5)
 (he:autoParam (starEach [.Call (.Name "range" p2) [a] [] pos2] X.env=[(false,eval (.Call (.Name "range" p2) [a] [] pos2) X.env)]) d_._auto_5):PE X (.Call (.Name "list" p1) [.Call (.Name "range" p2) [a] [] pos2] [] pos1) (dy ta):=by
 intro pins s σ H Q I h;show Hd (ET I hgL hmL (by decide +kernel:bootBuiltins "list"=some (.type "list")) ?_ (by decide) (by decide));show PyProof.Rows.callWith_type1 ?_ he rfl;rw[he];show Calls.spliced_cons ?_;show Call_ (ET I hgR U boot_range (PyProof.Rows.callWith_type1 (AI (ha pos2 pins s σ H _ I h) λus s1 ⟨vs,H1,I1,r1,q1⟩=>?_) hs rfl));let{j,e,h0,h1,q}:=q1;subst e;cases r1 with
 | cons r rr=>
  ext rr;let{t,0}:=r;show call_range_1 ?_;show Calls.spliced_nil ?_;let hz:Builtin.Range.rangeSize 0 j 1=(j.toNat:Int):=by rw[rangeSize_one];split <;> lia
  show call_list_range (I.ok.hd hc) (IsRange.new ..) (small_one () () () ()) hz () λh' tk acc c' kp hD hI=>?_;let J:∀b o,s1.heap.get? b=some o->h'.get? b=some o:=λb o e=>kp b o (zL _ e);let rv:AK ((WM.lowTo j.toNat).map V.int) acc.toList:=dI acc.toList _ (by rw[Array.length_toList];show hI.1) λi v hi=>hI.2 i v (by rw[<-hi,Array.getElem?_toList]);let C:↥s1<=(s1.heap.push { cls:=.type "range",data:=.fields #[.int 0 s1.toks,.int j t,.int 1 (s1.toks+1)] }).objs.size:=by rw[Bz];show Bk _
  show{.ref _,_,I1.laid (t':=tk) J C (show Av X.prog X.w _ h' _ (.lst ((WM.lowTo j.toNat).map V.int)) from {?_,acc.toList,c',rv,by rwa[Array.toArray_toList]}),0,q _ (I1.hok.fresh C)};rw[zC,WM.lowTo,zC,zy];let:sizeLine=16777216:=rfl
  lia
inductive Pn (K:AF)(xs:List V)(H:Hp)(Q:VK):Prop
 | mk:∀(p:Addr)(ns:List Int),(xs=[.ref p])->(AD K H p (ns.map V.int))->(ns.length<64)->(∀(l:Addr)(ms:List Int),H l=none->ms.Perm ns->ms.Pairwise (· <= ·)->Q (.ref l) (upd H l (.lst (ms.map V.int))))->Pn K xs H Q
def dD:Be X (.builtin "sorted") (Pn X.K):=by
 intro pins s σ H xs us Q I r h;let{p,ns,0,hq,lH,q}:=h;let{u,0,U}:=Co r;ext U;let{its,r',pl,hz}:=I.list hq;let o:IntsAre its ns:=EK r';let hl:=o.length;show SortT.sorted_list (O:=Hh) (key:=λi=>ns.getD i 0) (κ:=oneType') pl.isList () (λh2 s' a fa kp=>Ts o h2) λD h' out c pt C kp ho=>?_;let{ms,hp,hr,J,hlz}:=TL o pt;show{.ref D,_,Mu (t':=s.toks) I C kp ho J ?_,0,q D ms (I.hok.fresh C) hp hr};let:sizeLine=16777216:=rfl;rw[zC]
 lia
def eU:Be (BN X pl N' sc fp s3 H3) (.builtin "len") (KH X.K):=DB
def KZ {id:String}(I:PlainAttrs T)(slot:Slot T name id)(C:typeOf (.builtin id)=pure (.type "method_descriptor")) (hm:OL (BN X pl N' sc fp s3 H3) id r)(ho:PE (BN X pl N' sc fp s3 H3) o to)(ha:PA (BN X pl N' sc fp s3 H3) (e::es) t)
 (U:autoParam (attributeBase o name (BN X pl N' sc fp s3 H3).env (eval o (BN X pl N' sc fp s3 H3).env)=eval o (BN X pl N' sc fp s3 H3).env) d_._auto_5)
 (J:autoParam (((backTo jw (starEach (e::es) (BN X pl N' sc fp s3 H3).env)).all (λx=>!x.1) && (backToKw jw (keywordEach [] (BN X pl N' sc fp s3 H3).env)).all (λx=>x.1.isSome)
  && decide ((e::es).length+([]:List Keyword).length+(if ([]:List Keyword).isEmpty then 0 else 1)<30))=true) d_._auto_5)
 (lX:autoParam ((apos.endLine==jw.line)=true) d_._auto_5)(hs:autoParam (starEach (e::es) (BN X pl N' sc fp s3 H3).env=(false,eval e (BN X pl N' sc fp s3 H3).env)::starEach es (BN X pl N' sc fp s3 H3).env) d_._auto_5)(kl:autoParam ((backTo jw (starEach es (BN X pl N' sc fp s3 H3).env)).any (·.1)=false) d_._auto_5):
 PE (BN X pl N' sc fp s3 H3) (.Call (.Attribute o name apos) (e::es) [] jw) (ao X.K T r to t):=C3 I slot C hm ho ha U J lX hs kl
inductive Wt (K:AF)(x:V)(y:V)(H:Hp)(Q:VK):Prop
 | mk:∀(a b:Addr)(xs:List V),(x=.ref a)->(y=.ref b)->(AD K H a xs)->(AD K H b [])->(Q (.bl (!xs.isEmpty)) H)->Wt K x y H Q
def UO (K:AF):R2:=λx y H Q=>Wt K x y H Q
inductive Vc (K:AF)(x:V)(y:V)(H:Hp)(Q:VK):Prop
 | mk:∀(a b:Addr)(xs:List V),(x=.ref a)->(y=.ref b)->(AD K H a xs)->(AD K H b [])->(Q (.bl xs.isEmpty) H)->Vc K x y H Q
def UZ (K:AF):R2:=λx y H Q=>Vc K x y H Q
def Zw (hu:X.A.units<cLine):A9 X (compareOp .NotEq) (UO X.K):=by
 intro pins s σ H x y v u Q I rx ry h;let{a,b,xs,3,ha,hb,q}:=h;ext rx;ext ry;let{its,r,C,hz}:=I.list ha;let{j7,r2,J,hz2}:=I.list hb;let o:=r.length;let U:=r2.length;cases xs with
 | nil=>show PySem.EqBoolInt.of_rcne (SeqAt.RcNeAt.lists (e:=λ_=>true) C.isList J.isList (by rw[zU,zU,<-o,<-U]) hu (λj a b=>absurd a (by rw[zU,<-o];show C2 _))) {.bl _,H,I,0,?_};rwa[zU,<-o]
 | cons x xs=>show PySem.EqBoolInt.of_rcne (SeqAt.RcNeAt.lists_lengths C.isList J.isList (by rw[zU,zU,<-o,<-U];rfl) hu) {.bl _,H,I,0,?_};show q
def Tx (hu:X.A.units<cLine):A9 X (compareOp .Eq) (UZ X.K):=by
 intro pins s σ H x y v u Q I rx ry h;let{a,b,xs,3,ha,hb,q}:=h;ext rx;ext ry;let{its,r,C,hz}:=I.list ha;let{j7,r2,J,hz2}:=I.list hb;let o:=r.length;let U:=r2.length;cases xs with
 | nil=>show SeqAt.eq_listAt (e:=λ_=>true) C.isList J.isList (by rw[zU,zU,<-o,<-U]) hu (λj a b=>absurd a (by rw[zU,<-o];show C2 _)) {.bl _,H,I,0,?_};rwa[zU,<-o]
 | cons x xs=>show SeqAt.eq_list_lengthsAt C.isList J.isList (by rw[zU,zU,<-o,<-U];rfl) hu {.bl _,H,I,0,?_};show q
end L2
namespace L2
open PySem PyProof.Rows
def Kp (s0:Shared)(h:Heap):Prop:=∀b o,s0.heap.get? b=some o->h.get? b=some o
structure IJ (prog:Program)(w:World)(A:Around)(s0:Shared)(I:Addr)(its:List Value)(itAt:Nat->Heap->Prop):Prop where
 stay:∀j h h',itAt j h->h'.get? I=h.get? I->itAt j h'
 next:∀(j:Nat)(h:Heap)(tk:Nat)(v:Value)(Q:Option Value->Shared->Prop)(E:BP),Kp s0 h->itAt j h->its[j]?=some v ->
  (∀h',itAt (j+1) h'->(∀b,b≠I->h'.get? b=h.get? b)->Q (some v) { s0 with heap:=h',toks:=tk })->wpAny (model prog w) A (pyNext (.ref I)) Q E { s0 with heap:=h,toks:=tk }
 fin:∀(j:Nat)(h:Heap)(tk:Nat)(Q:Option Value->Shared->Prop)(E:BP),Kp s0 h->itAt j h->its[j]?=none ->
  (∀h',(∀b o,b≠I->h.get? b=some o->h'.get? b=some o)->Q none { s0 with heap:=h',toks:=tk })->wpAny (model prog w) A (pyNext (.ref I)) Q E { s0 with heap:=h,toks:=tk }
def Kp.upd (K:Kp s0 h)(C:↥s0<=S):Kp s0 (h.update S f):=λb o e=>by rw[Mz _ _ _ _ (zh (zo (zY e) C))];show K b o e
def Kp.but (K:Kp s0 h)(C:↥s0<=I)(k:∀b o,b≠I->h.get? b=some o->h'.get? b=some o):Kp s0 h':=λb o e=>
 k b o (zh (zo (zY e) C)) (K b o e)
def Ce:0<=sizeLine:=by decide
def NQ:1<=sizeLine:=by decide
def Up:12<=sizeLine:=by decide
def Ad:2<=sizeLine:=by decide
def Eu:3<=sizeLine:=by decide
def HM:4<=sizeLine:=by decide
def je:5<=sizeLine:=by decide
def jf:6<=sizeLine:=by decide
def eZ (M:IJ prog w A.in1 s0 I its itAt)(bt:Nat->Nat->Bool)(hS:↥s0<=S)(hI:↥s0<=I)(hSI:S≠I)
 (cmp:∀i j vi vj h C Q E,Kp s0 h->its[i]?=some vi->its[j]?=some vj->Q (.bool (bt i j)) { s0 with heap:=h,toks:=C }->wpAny ∅ A.in1 (richCompare .Lt vi vj) Q E { s0 with heap:=h,toks:=C })
 (hR:∀v h C,its[argBest bt (its.length-1)]?=some v->Kp s0 h->R (.ok (.ret v)) { s0 with heap:=h,toks:=C })
 : ∀r j h C J c,its.length-(j+1)=r->j+1<=its.length->Kp s0 h->itAt (j+1) h->its[argBest bt j]?=some J ->
  h.get? S=some { cls:=.type "list",data:=.seq #[J,J] c }->codeAny ∅ A (.builtin "min.loop" { pos:=[.ref I,.none,.ref S],kw:=kw }) R { s0 with heap:=h,toks:=C }:=by
 intro r
 induction r with
 | zero=>intro j h C J c hr hj K hit hv U;show codeAny_builtin PySem.F.entry_min_loop ?_;unfold Builtin.«min.loop»;show zA (Cw U rfl ?_);dsimp only;show zA (wpAny_tryCatch (M.fin (j+1) h C _ _ K hit (zn ()) λh' k=>?_));let ki:=k S _ hSI U;show zA (wpAny_updateSeq ki rfl (zA (wpAny_letGo (zG ?_))) Ad (by change 0<=sizeLine+1;decide));show hR J _ C ?_ ((K.but hI k).upd hS);rwa[show its.length-1=j by lia]
 | succ r ih=>
  intro j h C J c hr hj K hit hv U;obtain⟨x,hx⟩:∃x,its[j+1]?=some x:={_,zB ()};show codeAny_builtin PySem.F.entry_min_loop ?_;unfold Builtin.«min.loop»;show zA (Cw U rfl ?_);dsimp only;show zA (wpAny_tryCatch (M.next (j+1) h C x _ _ K hit hx λh' kU k=>?_));let K':Kp s0 h':=K.but hI λb o hb e=>by rwa[k b hb]
  let ki:h'.get? S=some { cls:=.type "list",data:=.seq #[J,J] c }:=by rwa[k S hSI]
  show zA (zG ?_);show zA (wpAny_tryCatch (BJ (zA (cmp (j+1) (argBest bt j) x J h' C _ _ K' hx hv ?_))));show zA (BJ (GP (zA (wpAny_letGo (zG ?_)))));let eb:argBest bt (j+1)=if bt (j+1) (argBest bt j)=true then j+1 else argBest bt j:=argBest.eq_2 bt j
  cases e:bt (j+1) (argBest bt j) with
  | true=>rw[if_pos e] at eb;show zA (wpAny_updateSeq ki rfl (zA (wpAny_letGo (zG {0,?_}))) Ad (by change 2<=sizeLine+1;decide));show ih (j+1) _ C x c (congrArg Nat.pred hr) () (K'.upd hS) (M.stay _ _ _ kU (Mz _ _ _ _ (Ne.symm hSI))) (by rwa[eb]) (Cr _ ki rfl)
  | false=>rw[e,if_neg (by decide)] at eb;show zA (wpAny_letGo (zG {0,?_}));show ih (j+1) h' C J c (congrArg Nat.pred hr) () K' kU (by rwa[eb]) ki
def Xq (M:IJ prog w A.in1 s0 I its itAt)(bt:Nat->Nat->Bool)(hS:↥s0<=S)(hI:↥s0<=I)(J:S≠I)
 (cmp:∀i j vi vj h C Q E,Kp s0 h->its[i]?=some vi->its[j]?=some vj->Q (.bool (bt i j)) { s0 with heap:=h,toks:=C }->wpAny ∅ A.in1 (richCompare .Lt vi vj) Q E { s0 with heap:=h,toks:=C })
 (hR:∀v h C,its[argBest bt (its.length-1)]?=some v->Kp s0 h->R (.ok (.ret v)) { s0 with heap:=h,toks:=C })
 (h0:its=[]->∀h C,Kp s0 h->R (.ok (.ret d)) { s0 with heap:=h,toks:=C })
 (h)(C)(c)(K:Kp s0 h)(hit:itAt 0 h)(U:h.get? S=some { cls:=.type "list",data:=.seq #[] c }):
 codeAny ∅ A (.builtin "min.loop" { pos:=[.ref I,.none,.ref S],kw:=[(Str.ofString "default",d)] }) R { s0 with heap:=h,toks:=C }:=by
 show codeAny_builtin PySem.F.entry_min_loop ?_;unfold Builtin.«min.loop»;show zA (Cw U rfl ?_);dsimp only;cases e:its with
 | nil=>subst e;show zA (wpAny_tryCatch (M.fin 0 h C _ _ K hit rfl λh' k=>?_));show zA (Bl (zG (h0 rfl h' C (K.but hI k))))
 | cons x xs=>
  let hx:its[0]?=some x:=by rw[e];rfl
  show zA (wpAny_tryCatch (M.next 0 h C x _ _ K hit hx λh' kU k=>?_));let K':Kp s0 h':=K.but hI λb o hb e=>by rwa[k b hb]
  let ki:h'.get? S=some { cls:=.type "list",data:=.seq #[] c }:=by rwa[k S J]
  show zA (zG ?_);show zA (wpAny_updateSeq ki rfl (zG {0,?_}) Ce (by change 2<=sizeLine+1;decide));show eZ M bt hS hI J cmp hR (its.length-1) 0 _ C x (c+1) rfl (by rw[e];simp) (K'.upd hS) (M.stay _ _ _ kU (Mz _ _ _ _ (Ne.symm J))) hx (Cr _ ki rfl)
def wpAny_of_eq (e:m=m')(h:wpAny M A m' Q E s):wpAny M A m Q E s:=by subst e;show h
def Y4 {O:KeyOrd}(o:Nat->O.α):∀k,argBest (λi j=>O.blt (o i) (o j)) k<=k/\∀j,j<=k->O.blt (o j) (o (argBest (λi j=>O.blt (o i) (o j)) k))=false
 | 0=>{zJ _,λj C=>by obtain rfl:j=0:=();show O.irrefl _}
 | k+1=>by
  let{U,I}:=Y4 o k;rw[argBest.eq_2];cases e:O.blt (o (k+1)) (o (argBest (λi j=>O.blt (o i) (o j)) k)) with
  | true=>
   rw[if_pos rfl];show{zJ _,λj C=>?_};by_cases c:j=k+1
   . subst c;show O.irrefl _
   . cases J:O.blt (o j) (o (k+1)) with
     | false=>rfl
     | true=>rw[<-I j ()];show (O.trans _ _ _ J e).symm
  | false=>
   rw[if_neg (by decide)];show{(),λj C=>?_};by_cases c:j=k+1
   . subst c;show e
   . show I j ()
def WY (hA:A.handled=none)(bt:Nat->Nat->Bool)(hp:s.heap.IsList p its.toArray\/s.heap.IsTuple p its.toArray)
 (cmp:∀i j vi vj h U Q E,Kp s h->its[i]?=some vi->its[j]?=some vj->Q (.bool (bt i j)) { s with heap:=h,toks:=U }->wpAny ∅ A.in1 (richCompare .Lt vi vj) Q E { s with heap:=h,toks:=U })
 (hR:∀v h U,its[argBest bt (its.length-1)]?=some v->Kp s h->Q v { s with heap:=h,toks:=U })
 (h0:its=[]->∀h U,Kp s h->Q d { s with heap:=h,toks:=U }):
 wpAny ∅ A (call (.builtin "min") [.ref p] [(Str.ofString "default",d)]) Q E s:=by
 show El (codeAny_call_builtin PySem.F.plain_min PySem.F.entry_min (wpAny_of_eq (show checkBuiltinCall "min" { pos:=[.ref p],kw:=[(Str.ofString "default",d)] }=pure Unit.unit from rfl) (zG ?_)));unfold Builtin.min;show zA (wpAny_of_eq (show Builtin.Builtins.bindParams "min" ["key", "default"] 0 { kw:=[(Str.ofString "default",d)] }=pure [none,some d] from rfl) (zG ?_));dsimp only;show zA (zG ?_);let kp0:∀(o1 o2:Obj),Kp s ((s.heap.push o1).push o2):=λo1 o2 b o e=>zL _ (zL _ e);rcases hp with hp | hp
 . show zA (wpAny_pyIter_list hp (zA (wpAny_newList (zG {0,?_}) Ce)));let J:(s.heap.push { cls:=.type "list_iterator",data:=.fields #[.ref p,.int 0 0] }).objs.size=↥s+1:=Bz ..;rw[J];show Xq (s0:=s) (I:=↥s) (S:=↥s+1) (itAt:=λj h=>h.IsListIter ↥s p j) {λj h h' a e=>?_,λj h U v Q E K hit hv q=>?_,λj h U Q E K hit hv q=>?_} bt (Bk _) (zJ _) (Nat.succ_ne_self _) cmp hR h0 _ s.toks 0 (kp0 _ _) ?_ ?_
   . let{o,ho,C}:=a;show{o,by rwa[e],C}
   . let{o,ho,C}:=hp;show wpAny_pyNext_list_item hit {o,K _ _ ho,C} (by rwa[De]) λh' a b=>q h' a λc C=>b.2 c C
   . let{o,ho,C}:=hp;show wpAny_pyNext_list_end hA hit {o,K _ _ ho,C} (by rwa[De]) λh' b=>q h' b
   . show{_,zL _ (zR _ rfl),3}
   . rw[<-J];show zR _ rfl
 . show zA (wpAny_pyIter_tuple hp (zA (wpAny_newList (zG {0,?_}) Ce)));let J:(s.heap.push { cls:=.type "tuple_iterator",data:=.fields #[.ref p,.int 0 0] }).objs.size=↥s+1:=Bz ..;rw[J];show Xq (s0:=s) (I:=↥s) (S:=↥s+1) (itAt:=λj h=>h.IsTupleIter ↥s p j) {λj h h' a e=>?_,λj h U v Q E K hit hv q=>?_,λj h U Q E K hit hv q=>?_} bt (Bk _) (zJ _) (Nat.succ_ne_self _) cmp hR h0 _ s.toks 0 (kp0 _ _) ?_ ?_
   . let{o,ho,C}:=a;show{o,by rwa[e],C}
   . let{o,ho,C}:=hp;show wpAny_pyNext_tuple_item hit {o,K _ _ ho,C} (by rwa[De]) λh' a b=>q h' a λc C=>b.2 c C
   . let{o,ho,C}:=hp;show wpAny_pyNext_tuple_end hA hit {o,K _ _ ho,C} (by rwa[De]) λh' b=>q h' b
   . show{_,zL _ (zR _ rfl),3}
   . rw[<-J];show zR _ rfl
inductive VT (K:AF)(x:V)(dv:V)(H:Hp)(Q:VK):Prop
 | mk:∀(p:Addr)(ys:List V),(x=.ref p)->((AD K H p ys\/AB K H p ys))->((ys=[]->Q dv H))->(((∃ks,Au H ys ks/\∀(i:Nat)(y:V)(k:List Int),ys[i]?=some y->ks[i]?=some k->(∀k'∈ks,HT.lexLt k' k=false)->Q y H)\/(∃ns:List Int,ys=ns.map V.int/\∀n∈ns,(∀m∈ns,n<=m)->Q (.int n) H)))->VT K x dv H Q
def QP (K:AF)(x o:V)(H:Hp)(Q:VK):Prop:=VT K x o H Q
inductive VV (K:AF)(td:TE)(σ:St)(Q:VK)(vs:List V)(H1:Hp):Prop
 | mk:∀x,(vs=[x])->(td σ H1 λdv H2=>QP K x dv H2 Q)->VV K td σ Q vs H1
def OC (K:AF)(t:TA)(C:TE):TE:=λσ H Q=>t σ H λo H1=>VV K C σ Q o H1
def gP (hc:X.calm=true)(hu:X.A.units+1<cLine)(hg:Gl X "min") (hm:X.mg "min"=none) (he:PA X [e] t)(hd:PE X de td)
 (hs1:autoParam (backTo pos (starEach [e] X.env)=(false,eval e X.env)::backTo pos (starEach [] X.env)) d_._auto_5)(m4:autoParam ((backTo pos (starEach [e] X.env)).any (·.1)=false) d_._auto_5):
 PE X (.Call (.Name "min" np) [e] [{some "default",de,kpos}] pos) (OC X.K t td):=by
 intro pins s σ H Q I h;show Hd (ET I hg hm (by decide +kernel:bootBuiltins "min"=some (.builtin "min")) ?_);show PyProof.Rows.callWith_kw (AI (he pos pins s σ H _ I h) λus s1 ⟨vs,H1,I1,r,q1⟩=>?_) hs1 m4;let{x,0,q1}:=q1;let{u,0,rx}:=Co r;change wpAny _ _ (evalAll ((do let v <-eval de X.env;standAt pos;pure v)::[])) _ _ s1
 show wpAny_evalAll_cons (zA (AI (hd pins s1 σ H1 _ I1 q1) λud s2 ⟨dv,H2,I2,rd,q2⟩=>zA (wpAny_standAt (zG (wpAny_evalAll_nil ?_)))));change wpAny _ _ (call (.builtin "min") [u] [(Str.ofString "default",ud)]) _ _ s2;let{p,J,0,hp,q0,hk}:=q2;ext rx;obtain⟨its,rv,hpp⟩:∃its:List Value,AK J its/\(s2.heap.IsList p its.toArray\/s2.heap.IsTuple p its.toArray):=by
  rcases hp with hp | hp
  . let{its,r',pl,_}:=I2.list hp;show{its,r',.inl pl.isList}
  . let{its,r',pl,_}:=I2.tuple hp;show{its,r',.inr pl}
 let hlen:=rv.length;let e0:its=[]->J=[]:=λz=>JW.mp (by rw[hlen,z];rfl);rcases hk with ⟨U,T,q⟩ | ⟨ns,rfl,q⟩
 . let hl:=T.length;show WY (I2.ok.hd hc) (λi j=>Gh.blt (U.getD i []) (U.getD j [])) hpp (λi j vi vj h tk Q E K hi hj q=>?_) (λv h tk C K=>?_) (λz h tk K=>{dv,H2,I2.kept K,rd,q0 (e0 z)})
   . let look:∀(i:Nat)(v:Value),its[i]?=some v->∃(p:Addr)(k:List Int)(us:List Value),v=.ref p/\U[i]?=some k/\IntsAre us k/\IsTup h p us.toArray:=λi v C=>by
      let hi:i<J.length:=by let:=(zE.mp C).1;lia
      let{p,k,e1,e2,e3,_}:=T.get (i:=i) (x:=J[i]) (by simp[hi]);let{u,hu,ru}:=rv.get (i:=i) (x:=J[i]) (by simp[hi]);rw[C] at hu;ext hu;rw[e1] at ru;cases (show v=Value.ref p from ru);let{_,us,rv',o,ho,hc}:=I2.hok p _ e3;show{p,k,us,0,e2,EK rv',o,K _ _ ho,hc}
     let{p1,k1,us1,0,g1,i1,t1}:=look i vi hi;let{p2,k2,us2,0,g2,i2,t2}:=look j vj hj;show HT.lt_tupInts (ns:=k1) (ms:=k2) t1 t2 i1 i2 hu ?_;let:Gh.blt (U.getD i []) (U.getD j [])=HT.lexLt k1 k2:=by rw[zF,zF,g1,g2];rfl
     rwa[<-this]
   . let{b1,b2}:=Y4 (O:=Gh) (λi=>U.getD i []) (its.length-1);let jy:=(zE.mp C).1;generalize eb:argBest (λi j=>Gh.blt (U.getD i []) (U.getD j [])) (its.length-1)=bi at C jy b1 b2;let hy:bi<J.length:=()
     let{u,hu,ru}:=rv.get (i:=bi) (x:=J[bi]) (by simp[hy]);rw[C] at hu;ext hu;let{pa,k,e1,e2,e3,_}:=T.get (i:=bi) (x:=J[bi]) (by simp[hy]);show{J[bi],H2,I2.kept K,ru,q bi J[bi] k (by simp[hy]) e2 λk' nN=>?_};let{j,hj,ej}:=zf nN;let:=b2 j ();let g1:U.getD j []=k':=by rw[zF,zB hj,ej];rfl
     let g2:U.getD bi []=k:=by rw[zF,e2];rfl
     rwa[g1,g2] at this
 . let hI:IntsAre its ns:=EK rv;let hl:=hI.length;let look:∀(i:Nat)(v:Value),its[i]?=some v->∃t,v=.int (ns.getD i 0) t:=λi v C=>by
    let hi:i<ns.length:=by let:=(zE.mp C).1;lia
    let{u,hu,ru}:=rv.get (i:=i) (x:=.int ns[i]) (by simp[hi]);rw[C] at hu;ext hu;let{t,0}:=(show ∃t,v=Value.int ns[i] t from ru);show{t,by rw[zF,zB hi];rfl}
   show WY (I2.ok.hd hc) (λi j=>decide (ns.getD i 0<ns.getD j 0)) hpp (λi j vi vj h tk Q E K hi hj q=>?_) (λv h tk C K=>?_) (λz h tk K=>{dv,H2,I2.kept K,rd,q0 (e0 z)})
   . let{t1,0}:=look i vi hi;let{t2,0}:=look j vj hj;show PyProof.Rows.lt_int q
   . let{b1,b2}:=argBest_lt (λi=>ns.getD i 0) (its.length-1);let jy:=(zE.mp C).1;generalize eb:argBest (λi j=>decide (ns.getD i 0<ns.getD j 0)) (its.length-1)=bi at C jy b1 b2;let{t,0}:=look bi v C;let hy:bi<ns.length:=()
     show{.int (ns.getD bi 0),H2,I2.kept K,{t,0},q _ ?_ λm hm=>?_}
     . rw[zF,zB hy];show Cv hy
     . let{j,hj,ej}:=zf hm;let:=b2 j ();let g1:ns.getD j 0=m:=by rw[zF,zB hj,ej];rfl
       rwa[g1] at this
def jJ (hA:A.handled=none)(hl:PlainL s.heap l its)
 (q:∀h' C,Kp s h'->Q none { s with heap:=h',toks:=C }):wpAny ∅ A (getAttr? (.ref l) (Str.ofString "keys")) Q E s:=by
 let ty:∀C,Shared.TypeIs { s with toks:=C } (.ref l) "list" := λC=>by let{o,J,U,_}:=hl.isList;show⟨o,J,U⟩
 unfold getAttr?;show zA (zA (wpAny_fresh (zG ?_)));unfold getAttrBy?;show zA (FJ ?_);unfold getAttrBy;show BJ (zA (DZ (ty _) (zA (wpAny_of_eq (show typeLookup (.type "list") (Str.ofString "__getattribute__")=pure (some (.builtin "list.__getattribute__")) from rfl) (zG ?_)))));change wpAny _ _ (getAttrByItsOwn _ _ _ _ _ _) _ _ _;unfold getAttrByItsOwn;show zA (wpAny_of_eq (show hookBefore (.type "list")=pure none from rfl) (zG (zA (FJ (BJ ?_)))));change wpAny _ _ (boundAndCalled _ _ _) _ _ _;unfold boundAndCalled;show zA (wpAny_of_eq (show bindSpecial (.builtin "list.__getattribute__") (.ref l)=pure (.builtin "list.__getattribute__",[.ref l]) from rfl) (zG ?_));show El (codeAny_call_builtin (by decide +kernel) PySem.am_entry_list_getattribute ?_);show zA (Ey (ty _) (b:=true) rfl ?_);show wpAny_of_eq (m':=pure Unit.unit) rfl (zG ?_);unfold Builtin.«object.__getattribute__»;show zA (wpAny_of_eq (m':=pure (Value.ref l,[Value.str (Str.ofString "keys") s.toks])) rfl (zG ?_));show zA (zG (zA (DZ (ty _) (zA ?_))));unfold Builtin.ObjectAttr.find;show zA (wpAny_of_eq (m':=pure none) rfl (zG (zA (zG (zA (zG ?_))))));let{o,n,J,U,hd,ka}:=id hl;let{cls,dict,data,slots}:=o;obtain rfl:cls=_:=U;obtain rfl:dict=_:=hd;obtain rfl:data=_:=ka
 show zA (zA (zA (wpAny_loadPart J (zA (wpAny_loadPart J (zG (zG ?_)))))));show zA (wpAny_of_eq (m':=pure Unit.unit) rfl (zG (zA (Bl (zG ?_)))));change wpAny _ _ (Builtin.ObjectAttr.noSuchAttribute (Value.ref l) (Str.ofString "keys")) _ _ _;unfold Builtin.ObjectAttr.noSuchAttribute;show zA (zA (zA (DZ (ty _) (wpAny_of_eq (m':=pure (Value.type "list")) rfl (zG (wpAny_of_eq (m':=pure "list") rfl (zG ?_)))))));show wpAny_raiseAttrError hA (λh' C e ne=>?_) (by decide +kernel);let{t,u,he}:=ne.there;let I:∀C,Shared.TypeIs { s with heap:=h',toks:=C } (.ref e) "AttributeError" := λC=>{_,he,0};change wpAny _ _ (getattributeRaised _ _ _ _ _ _ _) _ _ _;unfold getattributeRaised;show zA (Ey (I _) (b:=true) rfl ?_);show zA (wpAny_of_eq (m':=pure none) rfl (zG ?_));show zA (wpAny_throw ?_);show zA (Ey (I _) (b:=true) rfl (zG ?_));show q h' C ne.keeps
def YD (a):(Code.builtin "dict.update.loop" a).quiet=true:=plainId_quiet (id := "dict.update.loop") (by decide +kernel) a
def bU [DecidableEq κ] (kvs)(k:κ)(v):(stored kvs k v).length<=kvs.length+1:=by
 unfold stored;split
 . rw[zC];lia
 . rw[zK];show zJ _
meta def Fj (qs:List (AJ×Value)):List (AJ×Value):=qs.foldl (λa q=>stored a q.1 q.2) []
def fC (qs)(q:AJ×Value):Fj (qs++[q])=stored (Fj qs) q.1 q.2:=by unfold Fj;rw[List.foldl_append];rfl
def jF (qs):(Fj qs).length<=qs.length:=by
 let:∀(qs:List (AJ×Value))(a:List (AJ×Value)),(qs.foldl (λa q=>stored a q.1 q.2) a).length<=a.length+qs.length:=by
  intro qs
  induction qs with
  | nil=>intro a;show zJ _
  | cons q qs o=>intro a;let I:=o (stored a q.1 q.2);let C:=bU a q.1 q.2;rw[List.foldl_cons,zu];lia
 let:=this qs [];simpa [Fj] using this
section
variable {prog:Program}{w:World}{A:Around}{s0:Shared}{D I l:Addr}{its:List Value}{qs:List (AJ×Value)}
def iX (hA:A.handled=none)(hD:↥s0<=D)(hI:↥s0<=I)(hDI:D≠I)(hl:s0.heap.IsList l its.toArray)(hz:its.length<=sizeLine)(hqs:qs.length=its.length)
 (look:∀(i:Nat)v,its[i]?=some v->∃p kv u k,v=.ref p/\IsTup s0.heap p #[kv,u]/\(BG prog w).is k kv=true/\qs[i]?=some (k,u))
 (hR:∀h(J:Nat),Kp s0 h->h.DictOf (BG prog w) D (Fj qs)->R (.ok (.ret .none)) { s0 with heap:=h,toks:=J }):
 ∀(r j:Nat)h(J:Nat),its.length-j=r->j<=its.length->Kp s0 h->h.IsListIter I l j->h.DictOf (BG prog w) D (Fj (qs.take j)) ->
  codeAny ∅ A (.builtin "dict.update.loop" { pos:=[.ref D,.ref I,rawInt j,.none] }) R { s0 with heap:=h,toks:=J }:=by
 let kO:∀h,Kp s0 h->h.IsList l its.toArray:=λh K=>by let{o,C,U}:=hl;show{o,K _ _ C,U}
 intro r
 induction r with
 | zero=>intro j h J hr hj K hit hd;show codeAny_builtin (b:=Builtin.«dict.update.loop») (by rfl) ?_;unfold Builtin.«dict.update.loop»;show zA (wpAny_pyNext_list_end hA hit (kO h K) (by rw[De];show zn ()) λh' b=>?_);show zA (wpAny_of_eq (m':=pure Unit.unit) rfl (zG (zG ?_)));show hR h' J (K.but hI b) ?_;let{o,es,ep,C,lC}:=hd;rw[zb ()] at lC;show{o,es,ep,b D o hDI C,lC}
 | succ r ih=>
  intro j h J hr hj K hit hd;obtain⟨x,hx⟩:∃x,its[j]?=some x:={_,zB ()};let{p,kv,u,k,0,tp,hk,hq}:=look j x hx;show codeAny_builtin (b:=Builtin.«dict.update.loop») (by rfl) ?_;unfold Builtin.«dict.update.loop»;show zA (wpAny_pyNext_list_item hit (kO h K) (by rwa[De]) λh' kU b=>?_);let K':Kp s0 h':=K.but hI λc o U e=>by rwa[b.2 c U]
  let{o,C,U,n,ka}:=tp;show zA (BJ (zA (wpAny_tryCatch ?_)));unfold Builtin.Dict.pairItems;show zA (DZ (T := "tuple") {o,K' _ _ C,U} ?_);show zA (Cw (K' _ _ C) ka (zG ?_));let kI:h'.DictOf (BG prog w) D (Fj (qs.take j)):=by let{o,es,ep,C,lC}:=hd;show{o,es,ep,by rwa[b.2 D hDI],lC}
  show BJ (wpAny_dictSet_pairs hk kI (λh2 hd2 b2=>?_) (BC (jF _) (by rw[ze];lia)));show zG {YD _,?_};show ih (j+1) h2 (J+1) (congrArg Nat.pred hr) () (λc o e=>?_) ?_ ?_
  . rw[b2.2 c (zh (zo (zY e) hD))];show K' c o e
  . let{o,C,U}:=kU;show{o,by rwa[b2.2 I (Ne.symm hDI)],U}
  . rw[zt,hq];change h2.DictOf _ D (Fj (qs.take j++[(k,u)]));rwa[fC]
end
def eQ (h:Heap):(h.push { cls:=.type "dict",data:=.dict #[] }).DictOf (BG prog w) h.objs.size []:=
 ⟨_,#[],0,zR _ rfl,{0,3},rfl,by
  first | show KeysOf.nil | (intro x o;simp at o) | trivial | decide,by
  first | show .nil | trivial,List.nodup_nil⟩
def cJ {its:List Value}(hA:A.handled=none)(hl:PlainL s.heap l its.toArray)(hz:its.length<=sizeLine)(hqs:qs.length=its.length)
 (look:∀(i:Nat)v,its[i]?=some v->∃p kv u k,v=.ref p/\IsTup s.heap p #[kv,u]/\(BG prog w).is k kv=true/\qs[i]?=some (k,u))
 (q:∀D h(tk:Nat),↥s<=D->Kp s h->h.DictOf (BG prog w) D (Fj qs)->Q (.ref D) { s with heap:=h,toks:=tk }):
 wpAny ∅ A (call (.type "dict") [.ref l]) Q E s:=by
 show callType_codes (Q₁:=λobj C=>obj=.ref ↥s/\C={ s with heap:=s.heap.push { cls:=.type "dict",data:=.dict #[] } }) PySem.F.kt_called_dict (PySem.F.kt_typeCall_dict_1 _) PySem.F.entry_dict_init ?_ (λobj C e=>?_)
 . show codeAny_call_builtin (by decide +kernel) PySem.F.kt_entry_dict_new (wpAny_of_eq (PySem.F.kt_newCall_dict_1 _) (zG ?_));unfold Builtin.«dict.__new__»;show zA (wpAny_of_eq (m':=pure true) rfl (zG (zA (wpAny_of_eq (m':=pure true) rfl (zG (zA (wpAny_of_eq (m':=pure [Value.type "dict",Value.type "object"]) rfl (zG ?_))))))));show zA (wpAny_newObjAsIs_type (zG {3}))
 . let{3}:=e;show{{_,zR _ rfl,0},PySem.F.args_dict_init_2 _ _,?_};unfold Builtin.«dict.__init__»;let h0:Kp s (s.heap.push { cls:=.type "dict",data:=.dict #[] }):=λb o e=>zL _ e;let I:∀h,Kp s h->PlainL h l its.toArray:=λh K=>by let{o,n,U,hr}:=hl;show{o,n,K _ _ U,hr}
   show zA (zA (zA (DZ (T := "dict") {_,zR _ rfl,0} (zG (zA (zG (zG ?_)))))));change wpAny _ _ (Builtin.Dict.updateFrom "dict.__init__" ↥s (.ref l) [] .none) _ _ _;unfold Builtin.Dict.updateFrom;show zA (DZ (T := "list") (let {o,U,hc,_}:=(I _ h0).isList;⟨o,U,hc⟩) ?_);show zA (jJ hA (I _ h0) λh1 tk1 K1=>?_);let K1':Kp s h1:=λb o e=>K1 b o (h0 b o e);show zA (Bl (zA (wpAny_pyIter_list (I _ K1').isList (zG {YD _,?_}))));let J:↥s<h1.objs.size:=zY (K1 _ _ (zR _ rfl));show iX (A:=A.in1) (s0:=s) (l:=l) (its:=its) (qs:=qs) hA (zJ _) (CI J) (zh J) hl.isList hz hqs look ?_ its.length 0 _ tk1 rfl (zj _) (λb o e=>zL _ (K1' b o e)) ?_ ?_
   . show λh tk K hd=>{0,q _ h tk (zJ _) K hd}
   . show{_,zR _ rfl,3}
   let{o,es,ep,U,hr}:=eQ (prog:=prog) (w:=w) s.heap;show{o,es,ep,zL _ (K1 _ _ U),hr}
def Wx (H:Hp)(ys:List V)(ps:List (AJ×V)):Prop:=ps.length=ys.length/\∀(i:Nat)y,ys[i]?=some y->∃p k v,y=.ref p/\H p=some (.tup [kV k,v])/\ps[i]?=some (k,v)
meta def Iz (ps:List (AJ×V)):List (AJ×V):=ps.foldl (λa p=>Ay a p.1 p.2) []
def ZE:∀(ps:List (AJ×V))(qs:List (AJ×Value))(a:List (AJ×V))(b:List (AJ×Value)),KV ps qs->KV a b->KV (ps.foldl (λa p=>Ay a p.1 p.2) a) (qs.foldl (λa q=>stored a q.1 q.2) b)
 | [],[],_,_,_,h=>h
 | p::ps,q::qs,a,b,h,h'=>by
  cases h with
  | cons o C=>rw[List.foldl_cons,List.foldl_cons];show ZE ps qs _ _ C ?_;rw[<-o.1];show KV.put h' p.1 o.2
 | [],_::_,_,_,h,_=>by ext h
 | _::_,[],_,_,h,_=>by ext h
def eI (ps):(Iz ps).length<=ps.length:=by
 let:∀(ps:List (AJ×V))(a:List (AJ×V)),(ps.foldl (λa p=>Ay a p.1 p.2) a).length<=a.length+ps.length:=by
  intro ps
  induction ps with
  | nil=>intro a;show zJ _
  | cons q qs o=>intro a;let I:=o (Ay a q.1 q.2);let C:=JQ a q.1 q.2;rw[List.foldl_cons,zu];lia
 let:=this ps [];simpa [Iz] using this
inductive K5 (K:AF)(xs:List V)(H:Hp)(Q:VK):Prop
 | mk:∀l ys ps,(xs=[.ref l])->(AD K H l ys)->(Wx H ys ps)->(∀d,H d=none->Q (.ref d) (upd H d (.dK (Iz ps))))->K5 K xs H Q
def Q5 (hc:X.calm=true):Be X (.type "dict") (K5 X.K):=by
 intro pins s σ H xs us Q I r h;let{l,ys,ps,0,hq,{kK,hps},q}:=h;let{u,0,rx}:=Co r;ext rx;let{its,rv,pl,hz}:=I.list hq;let hlen:=rv.length;let both:∀(i:Nat),i<its.length->∃(p:Addr)(C u:Value)(k:AJ)(v:V),its[i]?=⇑p/\IsTup s.heap p #[C,u]/\(BG X.prog X.w).is k C=true/\AM v u/\ps[i]?=some (k,v):=λi hi=>by
  let hy:i<ys.length:=()
  let{p,k,v,e1,e2,e3}:=hps i ys[i] (by simp[hy]);let{u,hu,ru}:=rv.get (i:=i) (x:=ys[i]) (by simp[hy]);rw[e1] at ru;cases (show u=Value.ref p from ru);let{_,us,rv',tp}:=I.hok p _ e2;let{a,b,0,ra,rb}:=He rv';show{p,a,b,k,v,hu,tp,JH ra,rb,e3}
 obtain⟨qs,hql,hqk⟩:∃qs:List (AJ×Value),qs.length=its.length/\∀(i:Nat),i<its.length->∃(p:Addr)(C u:Value)(k:AJ)(v:V),its[i]?=⇑p/\IsTup s.heap p #[C,u]/\(BG X.prog X.w).is k C=true/\AM v u/\ps[i]?=some (k,v)/\qs[i]?=some (k,u):=by
  let:∀m,m<=its.length->∃qs:List (AJ×Value),qs.length=m/\∀(i:Nat),i<m->∃(p:Addr)(C u:Value)(k:AJ)(v:V),its[i]?=⇑p/\IsTup s.heap p #[C,u]/\(BG X.prog X.w).is k C=true/\AM v u/\ps[i]?=some (k,v)/\qs[i]?=some (k,u):=by
   intro m
   induction m with
   | zero=>intro _;show{[],0,λi hi=>absurd hi (C2 _)}
   | succ m ih=>
    intro hm;let{qs,J,U}:=ih ();let{p,C,u,k,v,g1,g2,g3,g4,g5}:=both m ();show{qs++[(k,u)],by rw[zK,J];rfl,λi hi=>?_};by_cases c:i=m
    . subst c;show{p,C,u,k,v,g1,g2,g3,g4,g5,by rw[zS (),J,Dq];rfl}
    . let{p,C,u,k,v,f1,f2,f3,f4,f5,f6}:=U i ();show{p,C,u,k,v,f1,f2,f3,f4,f5,by rwa[zV ()]}
  show this its.length (zJ _)
 let C:KV ps qs:=by
  let:∀(ps:List (AJ×V))(qs:List (AJ×Value)),ps.length=qs.length->(∀i,i<ps.length->∃k v u,ps[i]?=some (k,v)/\qs[i]?=some (k,u)/\AM v u)->KV ps qs:=by
   intro ps
   induction ps with
   | nil=>intro qs e _;cases qs with
    | nil=>show .nil
    | cons _ _=>simp at e
   | cons p ps ih=>
    intro qs e h;cases qs with
    | nil=>simp at e
    | cons q qs=>let{k,v,u,J,U,h3}:=h 0 (by simp);simp at J U;subst J U;show .cons {0,h3} (ih qs ‹e› λi hi=>?_);let{k,v,u,J,U,h3}:=h (i+1) (by simp;lia);show{k,v,u,‹J›,‹U›,h3}
  show this ps qs () λi hi=>?_;let{p,C,u,k,v,_,2,f4,f5,f6}:=hqk i ();show⟨k,v,u,f5,f6,f4⟩
 show cJ (its:=its) (qs:=qs) (I.ok.hd hc) pl () hql (λi v hv=>?_) (λD h tk hD K dd=>?_)
 . let{p,C,u,k,v',f1,f2,f3,f4,f5,f6}:=hqk i (zE.mp hv).1;rw[hv] at f1;ext f1;show{p,C,u,k,0,f2,f3,f6}
 . let hfr:H D=none:=I.hok.fresh hD;let zz:(Iz ps).length<=sizeLine:=BC (eI ps) ();show{.ref D,_,I.laid (a:=D) (o:=.dK (Iz ps)) (t':=tk) K hD (ZD zz (beq_eq_false_iff_ne.mpr (Ne.symm (zh (zo I.big hD)))) (ZE ps qs [] [] C .nil) dd),0,q D hfr}
end L2
namespace L2
open PySem PySem.Spec PyProof.Rows
def F3 (hm:X.mg x=none)(U:autoParam (Gl X x) d_._auto_5)(C:autoParam (bootBuiltins x=some (.type T)) d_._auto_7)(J:x ≠ "__name__" := by decide) (o:autoParam ((x==("__debug__" : Str))=false) d_._auto_2):PE X (.Name x pos) (tC (.ty T)):=
 λpins s σ H Q I h=>ET I U hm C {.ty T,H,I,0,h} J o
inductive IU (K:AF)(xs:List V)(H:Hp)(Q:VK):Prop
 | mk:∀x T t b,(xs=[x,.ty T])->(DU K H x t)->(PySem.W.kitOne K t (.type T)=some b)->(Q (.bl b) H)->IU K xs H Q
def Ge:Be X (.builtin "isinstance") (IU X.K):=by intro pins s σ H xs us Q I r h;let{x,T,t,b,0,ty,e,q}:=h;let{u,o,0,J,U}:=He r;cases (show o=Value.type T from U);show bV I J ty e λC=>{.bl b,H,I.tok C,0,q}
section
variable {prog:Program}{w:World}{A:Around}{s0:Shared}{I l:Addr}{bs:List Bool}
def iU (hA:A.handled=none)(hI:↥s0<=I)(hl:s0.heap.IsList l (bs.map Value.bool).toArray)
 (hR:∀h C,Kp s0 h->R (.ok (.ret (.bool (bs.all id)))) { s0 with heap:=h,toks:=C }):
 ∀r j h C,bs.length-j=r->j<=bs.length->Kp s0 h->h.IsListIter I l j->(bs.take j).all id=true ->
  codeAny ∅ A (.builtin "all.loop" { pos:=[.ref I] }) R { s0 with heap:=h,toks:=C }:=by
 let U:∀h,Kp s0 h->h.IsList l (bs.map Value.bool).toArray:=λh K=>by let{o,ho,J}:=hl;show{o,K _ _ ho,J}
 intro r
 induction r with
 | zero=>intro j h C hr hj K hit ha;show codeAny_builtin PySem.F.entry_all_loop ?_;unfold Builtin.«all.loop»;show zA (wpAny_pyNext_list_end hA hit (U h K) (by rw[De];show zn (by rw[zC];lia)) λh' b=>?_);show zA (Bl (zG ?_));rw[zb ()] at ha;let:=hR h' C (K.but hI b);rwa[ha] at this
 | succ r ih=>
  intro j h C hr hj K hit ha;obtain⟨x,hx⟩:∃x,bs[j]?=some x:={_,zB ()};show codeAny_builtin PySem.F.entry_all_loop ?_;unfold Builtin.«all.loop»;show zA (wpAny_pyNext_list_item hit (U h K) (x:=.bool x) (by rw[De,zM,hx];rfl) λh' kU b=>?_);let K':Kp s0 h':=K.but hI λc o J e=>by rwa[b.2 c J]
  show zA (BJ (GP (zA (wpAny_letGo ?_))));cases x with
  | true=>show zG {0,?_};show ih (j+1) h' C (congrArg Nat.pred hr) () K' kU (by rw[zt,hx,List.all_append,ha];rfl)
  | false=>
   show zA (Bl (zG ?_));let e:bs.all id=false:=by
    cases z:bs.all id with
    | false=>rfl
    | true=>have:=List.all_eq_true.mp z false (zQ hx);simp at this
   let:=hR h' C K';rwa[e] at this
end
def X0:∀{bs:List Bool}{its:List Value},AK (bs.map V.bl) its->its=bs.map Value.bool
 | [],[],_=>rfl
 | b::bs,u::its,h=>by
  cases h with
  | cons C o=>rw[Bj,<-X0 o,show u=Value.bool b from C]
 | [],_::_,h=>by ext h
 | _::_,[],h=>by ext h
inductive Ho (K:AF)(xs:List V)(H:Hp)(Q:VK):Prop
 | mk:∀(p:Addr)(bs:List Bool),(xs=[.ref p])->(AD K H p (bs.map V.bl))->(Q (.bl (bs.all id)) H)->Ho K xs H Q
def SQ (hc:X.calm=true):Be X (.builtin "all") (Ho X.K):=by
 intro pins s σ H xs us Q I r h;let{p,bs,0,hq,q}:=h;let{u,0,J}:=Co r;ext J;let{its,U,C,hz}:=I.list hq;rw[X0 U] at C;show El (codeAny_call_builtin PySem.F.plain_all PySem.F.entry_all (wpAny_of_eq (m':=pure Unit.unit) rfl (zG ?_)));unfold Builtin.all;show zA (wpAny_of_eq (m':=pure (Value.ref p)) rfl (zG (zA (wpAny_pyIter_list C.isList (zG {0,?_})))));show iU (s0:=s) (l:=p) (bs:=bs) (I.ok.hd hc) (zJ _) C.isList ?_ bs.length 0 _ s.toks rfl (zj _) (λb o e=>zL _ e) ?_ rfl
 . show λh tk K=>{.bl _,H,I.kept K,0,q}
 . show{_,zR _ rfl,3}
section
variable {X:Cx}
inductive YF (r:V->List V->Hp->VK->Prop)(t:TA)(σ:St)(Q:VK)(x:V)(H1:Hp):Prop
 | mk:((∃p ys,x=.ref p/\H1 p=some (.tup ys)))->(t σ H1 λxs H2=>r x xs H2 Q)->YF r t σ Q x H1
def Uc (r:V->List V->Hp->VK->Prop)(to:TE)(t:TA):TE:=λσ H Q=>to σ H λx H1=>YF r t σ Q x H1
variable {o e:Expr}{es:List Expr}{to:TE}{t:TA}{name:Str}{apos jw:Pos}{id:String}{r:V->List V->Hp->VK->Prop}
def LD (slot:Slot "tuple" name id) (C:typeOf (.builtin id)=pure (.type "method_descriptor")) (hm:OL X id r)(ho:PE X o to)(ha:PA X (e::es) t)
 (lq:autoParam (attributeBase o name X.env (eval o X.env)=eval o X.env) d_._auto_5)
 (nz:autoParam (((backTo jw (starEach (e::es) X.env)).all (λx=>!x.1) && (backToKw jw (keywordEach [] X.env)).all (λx=>x.1.isSome)
  && decide ((e::es).length+([]:List Keyword).length+(if ([]:List Keyword).isEmpty then 0 else 1)<30))=true) d_._auto_5)
 (lX:autoParam ((apos.endLine==jw.line)=true) d_._auto_5)(hs:autoParam (starEach (e::es) X.env=(false,eval e X.env)::starEach es X.env) d_._auto_5)(kl:autoParam ((backTo jw (starEach es X.env)).any (·.1)=false) d_._auto_5):
 PE X (.Call (.Attribute o name apos) (e::es) [] jw) (Uc r to t):=by
 intro pins s σ H Q I h;show wpAny_Call_method_late lq nz lX rfl (AI (ho pins s σ H _ I h) λv s1 ⟨x,H1,I1,r1,⟨p,ys,ex,hp⟩,q1⟩=>?_);subst ex;cases (show v=Value.ref p from r1);let{{_,o2,kr,hd2},its,rv,ob,J,oA,_}:=(show Av X.prog X.w H1 s1.heap p (.tup ys) from I1.hok p _ hp);show{"tuple",id,PySem.F.plainAttrs_tuple,slot,C,⟨ob,J,oA⟩,λa ea=>?_,?_}
 . ext ea;show⟨o2,kr,hd2⟩
 let U:=ha jw pins s1 σ H1 _ I1 q1;rw[hs] at U ⊢;show Calls.callWith_builtin (by change (false || (backTo jw (starEach es X.env)).any (·.1))=false;rw[kl] <;> rfl) (Calls.evalArgs_plain ?_);show AI U λus s2 ⟨vs,H2,I2,r2,q2⟩=>hm pins s2 σ H2 (.ref p) vs (.ref p) us Q I2 rfl r2 q2
end
def d7 {its:Array Value}(hi:IntsAre its.toList ns)(hv:ns[i]?=some v)(mD:∀j,j<i->ns[j]?≠some v)
 (f:Nat->Option PySem.Fin×Unit->Sem (ForInStep (Option PySem.Fin×Unit)))
 (hf:∀j x,f j x=(match its[j]? with
  | some y=>do
   let b <-eqBool y (.int v tv)
   if b=true then do
    let r <-retInt j
    pure (.done (some r,Unit.unit))
   else pure (.yield (none,Unit.unit))
  | _=>pure (.yield (none,Unit.unit))))
 (s)(hR:∀tk,R (some (.done (.ret (.int i s.toks))),Unit.unit) { s with toks:=tk }):
 ∀r j b,i-j=r->j<=i->wpAny (model prog w) A (forIn (List.range' j (its.size-j) 1) b f) R E s:=by
 have hsz:its.size=ns.length:=by have:=hi.length;simpa using this
 have m9:i<ns.length:=(zE.mp hv).1;have look:∀j,j<ns.length->∃t,its[j]?=some (.int (ns.getD j 0) t):=λj hj=>by
  have hj':j<its.size:=()
  let{t,ht}:=hi.int_at j (its[j]'hj') (by rw[Array.getElem?_toList,Array.getElem?_eq_getElem hj']);show{t,by rw[Array.getElem?_eq_getElem hj',ht]}
 intro r
 induction r with
 | zero=>
  intro j b hr hj;obtain rfl:j=i:=()
  rw[show its.size-j=(its.size-j-1)+1 by lia,List.range'_succ,List.forIn_cons,hf];let{t,ht}:=look j m9;rw[ht];show zA (zA (wpAny_eqBool_int ?_));have e:ns.getD j 0=v:=by rw[zF,hv];rfl
  rw[e,show (v==v)=true by simp];show zA (zA (wpAny_mkInt (zG (zG (zG ?_)))));show hR _
 | succ r ih=>
  intro j b hr hj;rw[show its.size-j=(its.size-(j+1))+1 by grind,List.range'_succ,List.forIn_cons,hf];let{t,ht}:=look j ();rw[ht];show zA (zA (wpAny_eqBool_int ?_));have hj':ns[j]?=some (ns.getD j 0):=by rw[zF,zB ()];rfl
  have e:¬ ns.getD j 0=v:=λz=>mD j () (by rw[hj',z]);rw[show (ns.getD j 0==v)=false by simpa using e];show zG ?_;show ih (j+1) _ () ()
def du:OL X "tuple.index" (λx xs H Q=>∃p,∃(ns:List Int)(i:Nat)(v:Int),x=.ref p/\xs=[.int v]/\AB X.K H p (ns.map V.int)/\ns[i]?=some v/\(∀j,j<i->ns[j]?≠some v)/\Q (.int i) H):=by
 intro pins s σ H x xs v us Q I J r h;let{p,ns,i,k,3,hq,hi,mD,q}:=h;cases (show v=Value.ref p from J);let{u,0,t,0}:=Co r;let{its,U,{ob,o,oA,n,ka},hz}:=I.tuple hq;let hI:=EK U;show El (codeAny_call_builtin PySem.F.slot_tuple_index.plain PySem.F.entry_tuple_index (PySem.F.slot_tuple_index.check _ _ _ _ _ _ _ _ ⟨ob,o,oA⟩ (PySem.F.args_tuple_index_2 _ _) ?_));unfold Builtin.«tuple.index»;show zA (wpAny_of_eq (m':=pure (Value.ref p,[Value.int k t])) rfl (zG ?_));show zA (zA (Cw o ka (zG ?_)));show zA (zG (zA (zG (zA ?_))));rw[Std.Legacy.Range.forIn_eq_forIn_range'];let C:(Std.Legacy.Range.mk 0 (min its.toArray.size its.toArray.size) 1 (by decide)).size=its.toArray.size-0:=by change (min its.toArray.size its.toArray.size-0+1-1)/1=_;rw[Nat.min_self];lia
 rw[C];show d7 (its:=its.toArray) (ns:=ns) (v:=k) (tv:=t) (i:=i) hI hi mD _ (λj x=>by rfl) s (λtk=>?_) i 0 _ () (zj _);show zG {.int i,H,I.tok _,{1},q}
def Vu (a):(Code.builtin "list.count.loop" a).quiet=true:=Code.quiet_builtin a (by decide +kernel)
def jT (U:s.heap.IsList l its.toArray)(hi:IntsAre its ns)(hR:∀t tk,R (.ok (.ret (.int (ns.countP λx=>x==v:Nat) t))) { s with toks:=tk }):
 ∀r j,its.length-j=r->j<=its.length->codeAny ∅ A (.builtin "list.count.loop" { pos:=[.ref l,.int v tv,rawInt j,rawInt ((ns.take j).countP λx=>x==v:Nat)] }) R s:=by
 let m9:=hi.length;intro r
 induction r with
 | zero=>
  intro j J hj;show codeAny_builtin (b:=Builtin.«list.count.loop») (by rfl) ?_;unfold Builtin.«list.count.loop»;let{o,C,hc,n,hd}:=id U;show zA (zA (Cw C hd (zG ?_)));let e:its.toArray[(j:Int).toNat]?=none:=by rw[De,B4];show zn ()
  rw[e];rw[zb ()];show zA (wpAny_mkInt (zG (hR _ _)))
 | succ r ih=>
  intro j J hj;show codeAny_builtin (b:=Builtin.«list.count.loop») (by rfl) ?_;unfold Builtin.«list.count.loop»;let{o,C,hc,n,hd}:=id U;show zA (zA (Cw C hd (zG ?_)));obtain⟨x,hx⟩:∃x,its[j]?=some x:={_,zB ()};let{t,0}:=hi.int_at j x hx;let e:its.toArray[(j:Int).toNat]?=some (.int (ns.getD j 0) t):=by rwa[De,B4]
  rw[e];show zA (wpAny_eqBool_int ?_);show zG {Vu _,?_};let I:ns[j]?=some (ns.getD j 0):=by rw[zF,zB ()];rfl
  let st:(ns.take (j+1)).countP (λx=>x==v)=(ns.take j).countP (λx=>x==v)+(if (ns.getD j 0==v)=true then 1 else 0):=by rw[zt,I,List.countP_append];change _+List.countP _ [ns.getD j 0]=_;rw[List.countP_cons,List.countP_nil,Nat.zero_add]
  let:=ih (j+1) (congrArg Nat.pred J) ();rw[st] at this;cases c:(ns.getD j 0==v) with
  | true=>rwa[c] at this
  | false=>rwa[c] at this
def Vv:OL X "list.count" (λx xs H Q=>∃p,∃(ns:List Int)(v:Int),x=.ref p/\xs=[.int v]/\AD X.K H p (ns.map V.int)/\Q (.int (ns.countP λx=>x==v:Nat)) H):=by intro pins s σ H x xs u us Q I J r h;let{p,ns,v,3,hq,q}:=h;cases (show u=Value.ref p from J);let{w',0,t,0}:=Co r;let{its,U,o,hz}:=I.list hq;let hi:=EK U;show El (codeAny_call_builtin PySem.F.slot_list_count.plain PySem.F.entry_list_count (PySem.F.slot_list_count.check _ _ _ _ _ _ _ _ o.isList.typeIs (PySem.F.args_list_count_2 _ _) ?_));unfold Builtin.«list.count»;show zA (wpAny_of_eq (m':=pure (Value.ref p,Value.int v t)) rfl (zG (zG {Vu _,?_})));show jT (s:=s) (ns:=ns) o.isList hi ?_ its.length 0 () (zj _);show λC tk=>{.int _,H,I.tok _,{C,0},q}
end L2
namespace WM
open L2
structure En where
 h:Int
 l:Int
 u:Option Int
 d:Option Int
def Cd (es fs:List En)(c:Int×Int):Prop:=∃e∈es,∃f∈fs,f.h=e.h/\c=(e.l+f.l,e.h)
def B3 (P:Int×Int->Prop):Option (Int×Int)->Prop
 | none=>∀c,¬ P c
 | some c=>P c/\∀o,P o->c.1<o.1\/(c.1=o.1/\c.2<=o.2)
def B3.uniq :∀{a b:Option (Int×Int)},B3 P a->B3 P b->a=b
 | none,none,_,_=>rfl
 | none,some c,h,g=>absurd g.1 (h c)
 | some c,none,h,g=>absurd h.1 (g c)
 | some a,some b,h,g=>by
  let J:=h.2 b g.1;let I:=g.2 a h.1;let C:a.1=b.1:=()
  let o:a.2=b.2:=()
  rw[show a=b from Prod.ext C o]
def B3.congr (e:∀c,P c↔P' c):∀{a:Option (Int×Int)},B3 P a->B3 P' a
 | none,h=>λc z=>h c ((e c).mpr z)
 | some _,h=>{(e _).mp h.1,λo z=>h.2 o ((e o).mpr z)}
def Bx (es:List En):Prop:=es.Pairwise λa b=>a.h<b.h
meta def Bo (es:List En)(h:Int):Option En:=es.find? λe=>decide (e.h=h)
def M7 (I:Bx es):Bo es h=some e↔e∈es/\e.h=h:=by
 unfold Bo;constructor
 . intro z;show{List.mem_of_find?_eq_some z,of_decide_eq_true (List.find?_some (p:=λe:En=>decide (e.h=h)) z)}
 . rintro ⟨hm,rfl⟩
   induction es with
   | nil=>simp at hm
   | cons a es C=>
    rw[HV];rcases za.mp hm with rfl | hm'
    . simp
    . let o:=FO.mp I;let:=o.1 e hm';rw[zW (show ¬ a.h=e.h by lia)];show C o.2 hm'
def Vo :Bo es h=none↔∀e∈es,e.h≠h:=by unfold Bo;rw[List.find?_eq_none];show{λz e he=>λq=>z e he (zO q),λz e he=>λq=>z e he (of_decide_eq_true q)}
meta def CQ (fs:List En)(e:En):Option (Int×Int):=(Bo fs e.h).map λf=>(e.l+f.l,e.h)
def JG (hf:Bx fs)(c:Int×Int):c∈es.filterMap (CQ fs)↔Cd es fs c:=by
 rw[List.mem_filterMap];constructor
 . rintro ⟨e,he,z⟩;unfold CQ at z;cases q:Bo fs e.h with
   | none=>rw[q] at z;ext z
   | some f=>rw[q] at z;let{C,I}:=(M7 hf).mp q;show{e,he,f,C,I,(zZ z).symm}
 . rintro ⟨e,he,f,o,C,rfl⟩;show{e,he,?_};unfold CQ;rw[(M7 hf).mpr ⟨o,C⟩];rfl
def Qy {α:Type}{l:List α}{x:α}(p:α->Bool)(h:l[i]?=some x):(l.take (i+1)).filter p=(l.take i).filter p++(if p x=true then [x] else []):=by rw[zt,h,JA];change _++List.filter p [x]=_;rw[List.filter_cons];rfl
def WZ {α o:Type}{l:List α}{x:α}(f:α->Option o)(h:l[i]?=some x):(l.take (i+1)).filterMap f=(l.take i).filterMap f++(f x).toList:=by
 rw[zt,h,List.filterMap_append];change _++List.filterMap f [x]=_;cases e:f x with
 | none=>rw[List.filterMap_cons_none e];rfl
 | some y=>rw[List.filterMap_cons_some e];rfl
def Bx.lt (h:Bx es){j:Nat}(o:i<j)(ha:es[i]?=some a)(hb:es[j]?=some b):a.h<b.h:=by let{I,U}:=zE.mp ha;let{C,J}:=zE.mp hb;rw[<-U,<-J];show Ed.mp h i j I C o
end WM
namespace L2
open PySem PyProof.Rows
def RI (h:(ps.map (·.1)).Nodup):Iz ps=ps:=by
 let:∀(ps a:List (AJ×V)),((a++ps).map (·.1)).Nodup->ps.foldl (λa p=>Ay a p.1 p.2) a=a++ps:=by
  intro ps
  induction ps with
  | nil=>intro a _;rw[Bq];rfl
  | cons p ps C=>
   intro a o;let e:Ay a p.1 p.2=a++[p]:=by unfold Ay;rw[if_neg];intro z;let{q,I,e}:=List.any_eq_true.mp z;let J:=of_decide_eq_true e;rw[zP,Bj] at o;let:=(JT.mp o).2.2 q.1 (List.mem_map_of_mem I) p.1 zX;show this J
   rw[List.foldl_cons,e,C (a++[p]) (by rwa[B8]),B8];rfl
 show this ps [] h
end L2
namespace WM
structure EG (ts:List T3)(n v:Int)(e:En):Prop where
 rng:0<=e.h/\e.h<n
 len:IsD ts v e.h e.l
 up:e.h≠v->∃p,e.u=some p/\BF ts v e.h p
 dn:e.h≠v->∃p,e.d=some p/\BF ts e.h v p
structure LG (ts:List T3)(n v:Int)(es:List En):Prop where
 hub:Bx es
 ent:∀e∈es,EG ts n v e
 own:∃e∈es,e.h=v
def Pk (ts:List T3)(v w:Int)(es fs:List En):Prop:=∀d,IsD ts v w d->∃h,CS ts v w h/\(∃e∈es,e.h=h)/\∃f∈fs,f.h=h
def LG.zero (g:GW n ts)(L:LG ts n v es):∃e r,es.filter (λe=>decide (e.l=0))=e::r/\e.h=v:=by
 let{o,I,C}:=L.own;let J:o.l=0:=by let:=(L.ent o I).len;rw[C] at this;show this.uniq (F2 g v)
 let hm:o∈es.filter (λe=>decide (e.l=0)):=Dg.mpr {I,zO J};cases e:es.filter (λe=>decide (e.l=0)) with
 | nil=>rw[e] at hm;simp at hm
 | cons a r=>
  let ha:a∈es.filter (λe=>decide (e.l=0)):=by rw[e];show zX
  let{h1,U}:=Dg.mp ha;let:=(GZ g (L.ent a h1).len).mp (of_decide_eq_true U);show{a,r,0,this.symm}
def dJ (g:GW n ts)(L1:LG ts n v es)(L2:LG ts n w fs)(C:Pk ts v w es fs)(h:B3 (Cd es fs) lm):
 Cu ts v w (lm.map (·.1))/\∀c,lm=some c->CS ts v w c.2:=by
 cases lm with
 | none=>show{λd hd=>?_,λc z=>by ext z};let{d',kI}:=Way.least g hd;let{x,_,{e,he,e1},{f,hf,f1}}:=C d' kI;show h _ {e,he,f,hf,by rw[f1,e1],0}
 | some c=>
  let{{e,he,f,hf,n5,0},lW}:=h;let ie:=(L1.ent e he).len;let o:=(L2.ent f hf).len;rw[n5] at o;let wy:Way ts v w (e.l+f.l):=ie.1.trans o.1.symm;let{d,hd}:=Way.least g wy;let{x,{a,b,ia,ib,l4},{I,kZ,e1},{J,lE,f1}}:=C d hd;let ed:a+b=d:=l4.uniq hd;let ea:I.l=a:=by let:=(L1.ent I kZ).len;rw[e1] at this;show this.uniq ia
  let eb:J.l=b:=by let:=(L2.ent J lE).len;rw[f1] at this;show this.uniq ib.symm
  let hm:=lW (I.l+J.l,I.h) {I,kZ,J,lE,by rw[f1,e1],0};let h1:=hd.2 _ wy;let es:e.l+f.l=d:=by
   rcases hm with z | z
   . let:e.l+f.l<I.l+J.l:=z
     lia
   . let:e.l+f.l=I.l+J.l:=z.1
     lia
  let U:IsD ts v w (e.l+f.l):=by rwa[es]
  show{U,λc z=>?_};ext z;show⟨e.l,f.l,ie,o.symm,U⟩
def Yk {P:Int->Prop}(o:Int->Int):∀m p,P p->(o p).toNat<=m->∃q,P q/\∀r,P r->(o q).toNat<=(o r).toNat
 | 0,p,hp,h=>{p,hp,λr _=>()}
 | m+1,p,hp,h=>by
  by_cases c:∃r,P r/\(o r).toNat<(o p).toNat
  . let{r,C,I}:=c;show Yk o m r C ()
  . show{p,hp,λr C=>Nat.le_of_not_lt λz=>c ⟨r,C,z⟩}
end WM
namespace L2
open PySem PySem.Spec PyProof.Rows
def dP {i:Int}(h:i.natAbs<10 ^ 40):(Str.ofString (toString i)).length<=41:=by
 let e:=int_text_length_le10 (a:=i) (k:=40) (by decide) h;let o:(Str.ofString (toString i)).length=(toString i).length:=by rw[Str.ofString_eq_toList];change ((toString i).toList.map Char.toNat).toArray.size=_;rw[zU,zC,String.length_toList]
 lia
end L2
namespace SortT
open PySem PySem.W PySem.Calls PyProof.Rows
def iB (ht:IsTup s.heap t us.toArray)(hz:us.length<=sizeLine)
 (q:Q us { s with heap:=(s.heap.push (seqObj "list" #[] 0)).update ↥s (Obj.mapSeq (· ++ us.toArray)) }):wpAny ∅ A (collect (.ref t)) Q E s:=by
 let{U,C,J,m,I}:=ht;let o:(s.heap.push (seqObj "list" #[] 0)).get? t=some U:=zL _ C;let new:(s.heap.push (seqObj "list" #[] 0)).get? ↥s=some (seqObj "list" #[] 0):=zR _ rfl;unfold collect;show zA (wpAny_runValue (codeAny_builtin entry_proto_collect' (zA (wpAny_newList (zG {Code.quiet_builtin _ (by decide +kernel),codeAny_builtin entry_list_iadd' ?_})))));change wpAny _ _ (Builtin.List.listExtendWith _ (.ref t) _) _ _ _;unfold Builtin.List.listExtendWith;show zA (DZ (T := "tuple") ⟨U,o,J⟩ ?_);let yes:(Value.type "tuple" == Value.type "tuple")=true:=rfl;rw[if_pos (by rw[yes];simp)];show zA (listItems_at o I (zA (listItems_at (xs:=#[]) (n:=0) new rfl ?_)));rw[if_neg (by simp)];show zA (listUpdate_at (xs:=#[]) (n:=0) new rfl (zG ?_) (zj _) (by simp;lia));show zA (wpAny_load (get?_update_seq new _) ?_);let e:((#[]:Array Value)++us.toArray).toList=us:=by simp
 change wpAny _ _ (pure ((#[]:Array Value)++us.toArray).toList) Q E _;rw[e];show zG q
def sorted_tup {t:Addr}{us:List Value}{Q:BP}{O:KeyOrd}{key:Nat->O.α}{κ:SortKind}(ht:IsTup s.heap t us.toArray)(lH:us.length<64)
 (ask:2<=us.length->∀(s':Shared)(a:Addr),(∀b o,s.heap.get? b=some o->b≠a)->(∀b o,s.heap.get? b=some o->s'.heap.get? b=some o)->Asks prog w A.in1.in1 s' a us key κ)
 (h:∀(D:Addr)(h':Heap)(out:List Nat)(c:Nat),Put key us.length out->↥s<=D->(∀b o,s.heap.get? b=some o->h'.get? b=some o) ->
  h'.get? D=some (seqObj "list" (out.map λi=>us.getD i Value.none).toArray c)->Q (.ref D) { s with heap:=h' }):
 wpAny ∅ A (call (.builtin "sorted") [.ref t]) Q E s:=by
 show Calls.call_function_entry kind_sorted plain_sorted entry_sorted (args_sorted1 _) ?_;unfold Builtin.«sorted»;show zA (m:=checkCount "sorted" 1 1 _) (zG (zA (iB ht (by rw[sizeLine_eq];lia) (zA (wpAny_newList ?_ (by rw[sizeLine_eq];lia))))));generalize C:(s.heap.push (seqObj "list" #[] 0)).update ↥s (Obj.mapSeq (· ++ us.toArray))=h1;let U:h1.objs.size=↥s+1:=by rw[<-C,Heap.size_update,size_push']
 let I:∀b o,s.heap.get? b=some o->h1.get? b=some o:=λb o z=>by rwa[<-C,Mz _ _ _ _ (zh (zY z)),Heap.get?_push_ne _ _ _ (zh (zY z))]
 let J:(h1.push (seqObj "list" us.toArray 0)).get? h1.objs.size=some (seqObj "list" us.toArray 0):=zR _ rfl;let lU:∀b o,h1.get? b=some o->(h1.push (seqObj "list" us.toArray 0)).get? b=some o:=λb o q=>zL _ q;show zA (BJ (CK slot_list_sort {_,J,0} entry_list_sort (list_sort (O:=O) (key:=key) (κ:=κ) J ()
  (λh2=>ask h2 _ _ (λb o e=>zh (zY (I b o e))) λb o e=>lU b o (I b o e)) λout _ hp=>{1,?_}) (args_list_sort _)))
 show zG {1,?_};let{c,hc}:=sortedHeap_at (vs:=us) (out:=(out.map λi=>us.getD i Value.none).toArray) J;show h _ _ out c (hp lH) (by rw[U];show Bk _) (λb o e=>?_) hc;let hb:b<h1.objs.size:=zY (I b o e);rw[sortedHeap_old (zh hb) (by rw[Bz];show Fp hb)];show lU b o (I b o e)
end SortT
namespace L2
open PySem PySem.Spec PyProof.Rows
inductive ZM (K:AF)(x:V)(y:V)(H:Hp)(Q:VK):Prop
 | mk:∀a b xs ys,(x=.ref a)->(y=.ref b)->(AB K H a xs)->(AB K H b ys)->(xs.length+ys.length<=sizeLine)->((xs=[]->Q (.ref b) H))->((xs≠[]->ys=[]->Q (.ref a) H))->((xs≠[]->ys≠[]->∀p,H p=none->Q (.ref p) (upd H p (.tup (xs++ys)))))->ZM K x y H Q
def PU (K:AF):R2:=λx y H Q=>ZM K x y H Q
def g6 {ws:List Value}(ht:IsTup s.heap t #[])(hb:IsTup s.heap b ws.toArray)
 (h:Q (.ref b) s):wpAny ∅ A (binaryOp .Add (.ref t) (.ref b)) Q E s:=by
 let{{cls,dd,data,sl},J,U,n,hd}:=id ht;let{{cls2,o,data2,mj},I,C,n2,hd2}:=id hb;simp only at U hd C hd2;subst U hd C hd2;show concat_meets {_,J,0} {_,I,0} noFill_tuple_add seq_tuple_add PySem.F.slot_tuple_add PySem.F.entry_tuple_add (PySem.F.args_tuple_add_2 _ _)
  (tuple_addW0 t b #[] ws.toArray n n2 dd o sl mj rfl) ⟨J,I,h⟩
def jM:A9 X (binaryOp .Add) (PU X.K):=by
 intro pins s σ H x y v u Q I J C h;let{a,b,xs,U,3,ha,hb,hz,q0,q1,q2}:=h;by_cases o:xs=[]
 . subst o;ext J;ext C;let{its,r1,p1,_}:=I.tuple ha;let{j7,r2,p2,_}:=I.tuple hb;ext r1;show g6 p1 p2 {.ref b,H,I,0,q0 rfl}
 . show cE pins s σ H _ _ v u Q I J C {a,b,xs,U,3,ha,hb,o,hz,q1 o,q2 o}
inductive XA (K:AF)(x:V)(y:V)(H:Hp)(Q:VK):Prop
 | mk:∀(a b:Addr)(xs:List V),(x=.ref a)->(y=.ref b)->(AB K H a xs)->(AB K H b [])->(Q (.bl (!xs.isEmpty)) H)->XA K x y H Q
def OM (K:AF):R2:=λx y H Q=>XA K x y H Q
def VJ (hu:X.A.units<cLine):A9 X (compareOp .NotEq) (OM X.K):=by
 intro pins s σ H x y v u Q I C o h;let{a,b,xs,3,ha,hb,q}:=h;ext C;ext o;let{its,r,U,hz}:=I.tuple ha;let{j7,J,mK,hz2}:=I.tuple hb;let l1:=r.length;let e2:j7=[]:=by ext J;rfl
 subst e2;show PySem.EqBoolInt.of_rcne (SeqAt.RcNeAt.tuples (e:=λ_=>true) U mK hu (λj _ h2=>absurd h2 (by simp))) {.bl _,H,I,0,?_};let e:(!((List.range (min its.toArray.size ([]:List Value).toArray.size)).all (λ_=>true) && its.toArray.size==([]:List Value).toArray.size))=!xs.isEmpty:=by
  cases xs with
  | nil=>ext r;rfl
  | cons x xs=>ext r;simp
 rwa[e]
end L2
namespace HT
open PySem PySem.Spec PyProof.Rows
end HT
namespace L2
open PySem PySem.Spec PyProof.Rows
end L2
namespace HT
open PySem PySem.Spec PyProof.Rows
def getItem_tuple_all {lo:Option Int}(C:IsTup s.heap t items)(U:s.heap.IsSliceOf sl vl vu .none)(pl:IsPart vl lo)(pu:IsPart vu hi)
 (hw:sIx items.size 0 lo=0/\sIx items.size items.size hi=items.size)(h:Q (.ref t) s):wpAny ∅ A (getItem (.ref t) (.ref sl)) Q E s:=by
 let{os,ni,I,me}:=id U;let J:s.TypeIs (.ref sl) "slice" := ⟨os,ni,I⟩;unfold getItem
 try with_reducible show BJ ?_
 first | show zA (zG ?_) | skip
 show zA (wpAny_sequenceKey C.typeIs (by decide) ?_);show zA (Ea (name:=Str.ofString "__getitem__") C.typeIs PyProof.Rows.slot_tuple_getitem
  (CK PyProof.Rows.slot_tuple_getitem C.typeIs entry_tuple_getitem ?_ (args_tuple_getitem _ _)))
 change wpAny _ _ (Builtin.Tuple.tupleItemsOf (.ref t) >>= _) _ _ s;show zA (tupleItemsOf_ C ?_);show zA (DZ J ?_);rw[if_pos (by decide)];show zA (ZF U pl pu ?_);let o:(((sIx items.size 0 lo:Nat):Int)==0 && (1:Int)==1 && (sIx items.size items.size hi-sIx items.size 0 lo)==items.size)=true:=by rw[hw.1,hw.2];simp
 change wpAny _ _ (if (((sIx items.size 0 lo:Nat):Int)==0 && (1:Int)==1 && (sIx items.size items.size hi-sIx items.size 0 lo)==items.size)=true then _ else _) _ _ s
 rw[if_pos o];unfold Builtin.Tuple.tupleIsExact;show zA (zA (DZ C.typeIs (zG ?_)));rw[if_pos (by decide)]
 first
  | show zA (Bl (zG {1,zG h}))
  | show zA (Bl (zG (zG {1,zG h})))
  | show zA (Bl (zA (zG (zG {1,zG h}))))
  | show Bl (zG {1,zG h})
end HT
namespace L2
open PySem PySem.Spec PyProof.Rows
inductive Xe (K:AF)(x:V)(lo:Option Int)(hi:Option Int)(H:Hp)(Q:VK):Prop
 | mk:∀a xs,(x=.ref a)->(AB K H a xs)->(((HT.sIx xs.length 0 lo=0/\HT.sIx xs.length xs.length hi=xs.length)->Q (.ref a) H))->((¬ (HT.sIx xs.length 0 lo=0/\HT.sIx xs.length xs.length hi=xs.length)->∀p,H p=none->Q (.ref p) (upd H p (.tup (CA xs lo hi)))))->Xe K x lo hi H Q
def Uv (K:AF):V->Option Int->Option Int->Hp->VK->Prop:=λx lo hi H Q=>Xe K x lo hi H Q
def Vm:Ou X (Uv X.K):=by
 intro pins s σ H x v vl vu lo hi sl Q I o hs C pu h;let{a,xs,0,J,q1,q2}:=h;by_cases c:HT.sIx xs.length 0 lo=0/\HT.sIx xs.length xs.length hi=xs.length
 . ext o;let{its,r,U,hz}:=I.tuple J;let hlen:its.toArray.size=xs.length:=by rw[zU];show r.length.symm
   show{"tuple",_,PyProof.Rows.slot_tuple_getitem.lookup,U.typeIs,?_};show HT.getItem_tuple_all U hs C pu (by rwa[hlen]) {.ref a,H,I,0,q1 c}
 . show MQ pins s σ H _ v vl vu lo hi sl Q I o hs C pu {a,xs,0,J,c,q2 c}
end L2
namespace STb
open PySem
def D7 (xs:Array Nat):Prop:=xs.toList.Pairwise (· < ·)
def D7.lt (h:D7 xs){j:Nat}(o:i<j)(hi:xs[i]?=some a)(C:xs[j]?=some b):a<b:=by let{J,e1}:=Array.getElem?_eq_some_iff.mp hi;let{I,U}:=Array.getElem?_eq_some_iff.mp C;let:=Ed.mp h i j ‹J› ‹I› o;simpa [e1,U] using this
def bX (h:D7 xs)(j):∀fuel lo hi,hi-lo<=fuel->lo<=hi->hi<=xs.size->(∀k v,k<lo->xs[k]?=some v->v<j)->(∀k v,hi<=k->xs[k]?=some v->j<=v) ->
 lo<=SetTable.below.go xs j fuel lo hi/\SetTable.below.go xs j fuel lo hi<=hi/\(∀k v,k<SetTable.below.go xs j fuel lo hi->xs[k]?=some v->v<j)/\(∀k v,SetTable.below.go xs j fuel lo hi<=k->xs[k]?=some v->j<=v):=by
 intro fuel
 induction fuel with
 | zero=>
  intro lo hi hf hl hs C o;let:lo=hi:=()
  subst this;show{zJ _,zJ _,C,o}
 | succ fuel U=>
  intro lo hi hf hl hs C o;unfold SetTable.below.go;by_cases c:lo<hi
  . rw[if_pos c];let hm:(lo+hi)/2<xs.size:=()
    let em:xs[(lo+hi)/2]?=some xs[(lo+hi)/2]:=Array.getElem?_eq_getElem hm;let eg:xs.getD ((lo+hi)/2) j=xs[(lo+hi)/2]:=by simp[Array.getD,hm]
    dsimp only;rw[eg];by_cases d:xs[(lo+hi)/2]<j
    . rw[if_pos d];let{a,b,J,I}:=U ((lo+hi)/2+1) hi (by grind) () hs (λk v hk e=>by
       by_cases z:k=(lo+hi)/2
       . subst z;rw[em] at e;ext e;show d
       . let:=h.lt (i:=k) (j:=(lo+hi)/2) () e em;lia) o
      show{(),b,J,I}
    . rw[if_neg d];let{a,b,J,I}:=U lo ((lo+hi)/2) () () () C (λk v hk e=>by
       by_cases z:k=(lo+hi)/2
       . subst z;rw[em] at e;ext e;lia
       . let:=h.lt (i:=(lo+hi)/2) (j:=k) () em e;lia)
      show{a,(),J,I}
  . rw[if_neg c];let:lo=hi:=()
    subst this;show{zJ _,zJ _,C,o}
def Tc (h:D7 xs)(j):SetTable.below xs j<=xs.size/\(∀k v,k<SetTable.below xs j->xs[k]?=some v->v<j)/\(∀k v,SetTable.below xs j<=k->xs[k]?=some v->j<=v):=by
 let{_,a,b,c}:=bX h j xs.size 0 xs.size () () (zJ _) (λk v o _=>absurd o (C2 _)) (λk v o e=>by let:=(Array.getElem?_eq_some_iff.mp e).1;lia)
 show⟨a,b,c⟩
def eL (h:D7 xs)(e:xs[i]?=some a):SetTable.below xs (a+1)=i+1:=by
 let{U,J,I}:=Tc h (a+1);let hi:=(Array.getElem?_eq_some_iff.mp e).1;rcases Nat.lt_trichotomy (SetTable.below xs (a+1)) (i+1) with c | c | c
 . let:=I i a () e;lia
 . show c
 . let C:i+1<xs.size:=()
   let o:xs[i+1]?=some xs[i+1]:=Array.getElem?_eq_getElem C;let a1:=J (i+1) _ c o;let a2:=h.lt (i:=i) (j:=i+1) () e o
   lia
def g8 (h:D7 xs):SetTable.below xs 0=0:=by
 let{J,C,I}:=Tc h 0;rcases Nat.eq_zero_or_pos (SetTable.below xs 0) with c | c
 . show c
 . let o:0<xs.size:=()
   let:=C 0 _ c (Array.getElem?_eq_getElem o)
   lia
def jU (h:D7 xs)(ne:xs[SetTable.below xs j]?≠some j):D7 (SetTable.insertAt xs (SetTable.below xs j) j):=by
 let{h1,h2,I}:=Tc h j;unfold D7;rw[SetTable.toList_insertAt];let hp:(xs.toList.take (SetTable.below xs j)++xs.toList.drop (SetTable.below xs j)).Pairwise (· < ·):=by rwa[E9]
 let{U,p2,J}:=List.pairwise_append.mp hp;let lo:∀a∈xs.toList.take (SetTable.below xs j),a<j:=λa ha=>by let{k,o,e}:=zf ha;rw[ze] at o;rw[List.getElem_take] at e;show h2 k a () (by rw[<-Array.getElem?_toList,zB (by grind),e])
 let hi:∀a∈xs.toList.drop (SetTable.below xs j),j<a:=λa ha=>by
  let{k,o,e}:=zf ha;rw[FP] at o;rw[List.getElem_drop] at e;let C:xs[SetTable.below xs j+k]?=some a:=by rw[<-Array.getElem?_toList,zB (by grind),e]
  let:=I _ a () C;by_cases c:k=0
  . subst c;rw[Nat.add_zero] at C;let:a≠j:=λz=>ne (by rw[C,z])
    lia
  . let hz:SetTable.below xs j<xs.size:=by simp at o;lia
    let e0:xs[SetTable.below xs j]?=some xs[SetTable.below xs j]:=Array.getElem?_eq_getElem hz;let a0:=I _ _ (zJ _) e0;let a1:=h.lt (i:=SetTable.below xs j) (j:=SetTable.below xs j+k) () e0 C
    lia
 show List.pairwise_append.mpr {U,FO.mpr ⟨hi,p2⟩,λa ha b hb=>?_};rcases za.mp hb with rfl | hb
 . show lo a ha
 . show J a ha b hb
structure GT (led:Bool)(t:SetTable):Prop where
 dm:t.dummies=#[]
 ld:t.led=led
 rs:t.plain=true->D7 t.place
def gp (led:Bool):GT led (SetTable.fresh 0 0 led):={3,λ_=>JM}
def VN (j):SetTable.has #[] j=false:=by unfold SetTable.has;simp
def aA {t:SetTable}(hd:t.dummies=#[]):(t.slot j=.empty->t.place[SetTable.below t.place j]?≠some j)/\t.slot j ≠ .dummy:=by
 unfold SetTable.slot;rw[hd,VN];dsimp only;constructor
 . intro h e;rw[e] at h;simp at h
 . split <;> simp
def jQ (hd:t.dummies=#[]):∀fuel p,p.dummy=none->SetTable.probe.go t ha hh fuel p=some (.empty j d)->t.slot j=.empty/\d=none:=by
 intro fuel
 induction fuel with
 | zero=>intro p _ h;unfold SetTable.probe.go at h;ext h
 | succ fuel C=>
  intro p o h;unfold SetTable.probe.go at h;cases e:t.slot p.j with
  | empty=>rw[e] at h;simp only[Option.some.injEq,SetTable.Met.empty.injEq] at h;show{by rwa[<-h.1],by rwa[<-h.2]}
  | dummy=>show absurd e (aA hd).2
  | live i=>
   rw[e] at h;dsimp only at h;split at h
   . ext h
   . show C _ ?_ h;unfold SetTable.advance;split
     . show o
     . show o
def jP {t:SetTable}(hd:t.dummies=#[])(h:t.freeSlot hh=some (j,w)):t.place[SetTable.below t.place j]?≠some j:=by
 unfold SetTable.freeSlot at h;cases e:t.probe (λ_=>hh+1) hh (t.probeStart hh) with
 | none=>rw[e] at h;ext h
 | some met=>
  rw[e] at h;cases met with
  | candidate a b c=>ext h
  | empty I d=>let{C,o}:=jQ hd _ _ rfl e;subst o;simp only[Option.getD_none,Option.some.injEq,Prod.mk.injEq] at h;rw[<-h.1];show (aA hd).1 C
def Mk (g:GT led t)(h:t.place[SetTable.below t.place j]?≠some j):GT led (t.put j).1:=by unfold SetTable.put;show{?_,g.ld,λo=>jU (g.rs o) h};dsimp only;rw[g.dm,VN];rfl
def Q7 (g:GT led t)(n):GT led (t.standIn n):={0,g.ld,λh=>by ext h}
def Ob (g:GT led t)(n):GT led (t.orStandIn n):=by
 unfold SetTable.orStandIn;split
 . show g
 . show Q7 g n
def Jp (g:GT led t)(es)(h)(x):GT led (layNew t es h x).2.1:=by
 unfold layNew;cases e:t.freeSlot h with
 | none=>show Q7 g _
 | some q=>let{j,w}:=q;show Ob (Mk g (jP g.dm e)) _
def bZ {f:Nat->Option Nat}:∀(l:List Nat),l.Pairwise (· < ·)->((l.filterMap λj=>(f j).map (j,·)).map (·.1)).Pairwise (· < ·):=by
 intro l h;rw[EZ,List.pairwise_filterMap];show h.imp λ{a b} J x C y o=>?_;cases ea:f a with
 | none=>rw[ea] at C;ext C
 | some u=>
  cases I:f b with
  | none=>rw[I] at o;ext o
  | some v=>rw[ea] at C;rw[I] at o;ext C;ext o;show J
def gN (g:GT led t)(es)(n):GT led (relayAll t es n).2.1:=by
 unfold relayAll;cases e:t.relaid (es.map (·.1)) n with
 | none=>show Q7 g _
 | some q=>
  let{C,order}:=q;dsimp only;split
  . unfold SetTable.relaid SetTable.laid at e;simp only[Option.bind_eq_bind,Option.bind_eq_some_iff,Option.pure_def,Option.some.injEq,Prod.mk.injEq] at e;let{owner,_,o,_}:=e;rw[<-o];show{0,g.ld,λ_=>?_};change List.Pairwise _ (List.map _ _).toArray.toList;show bZ _ List.pairwise_lt_range
  . show Q7 g _
end STb
namespace STb
open PySem PySem.Spec PyProof.Rows L2
structure U8 (prog:Program)(w:World)(led:Bool)(S:Int->Bool)(n:Nat)(el:Array (Int×Value))(tb:SetTable):Prop where
 elm:ElemsOf (intKind prog w) el.toList
 mem:∀k,S k=true↔∃e∈el.toList,(intKind prog w).is k e.2=true
 few:el.size<scanBound
 fit:tb.fits el.size=true
 siz:el.size=n
 gt:GT led tb
inductive XQ (prog:Program)(w:World)(led:Bool)(h:Heap)(a:Addr)(S:Int->Bool)(n:Nat):Prop
 | mk:∀ob el ep tb,(h.get? a=some ob)->(ob.ExactSet)->(ob.data=.set el ep tb)->(U8 prog w led S n el tb)->XQ prog w led h a S n
def Cc (prog:Program)(w:World)(led:Bool)(h:Heap)(a:Addr)(S:Int->Bool)(n:Nat):Prop:=XQ prog w led h a S n
def Cc.keep (x:Cc prog w led h a S n)(k:∀o,h.get? a=some o->h'.get? a=some o):Cc prog w led h' a S n:=
 let ⟨C,el,ep,tb,g1,g2,g3,I⟩:=x;{C,el,ep,tb,k _ g1,g2,g3,I}
def Cc.congr (x:Cc prog w led h a S n)(e:∀k,S' k=S k)(I:n'=n):Cc prog w led h a S' n':=by let{C,el,ep,tb,g1,g2,g3,o}:=x;subst I;show{C,el,ep,tb,g1,g2,g3,{o.elm,λk=>by rw[e k];show o.mem k,o.few,o.fit,o.siz,o.gt}}
def YH {h:Heap}(g1:h.get? a=some ob)(g3:ob.data=.set el ep tb)(el')(o:SetTable):
 (h.update a (Obj.putSet el' o)).get? a=some { ob with data:=.set el' (ep+1) o }:=by
 let q:=Cr (Obj.putSet el' o) g1 (by rw[putSet_of el' o g3];rfl);rwa [putSet_of el' o g3] at q
def Z4 {note:Bool->Sem Unit}
 (hn:∀b o Q',Q' Unit.unit o->wpAny ∅ A (note b) Q' E o)
 (g1:s.heap.get? a=some ob)(g2:ob.ExactSet)(g3:ob.data=.set el ep tb)(B:U8 prog w led S n k9 mH)
 (q:∀h',Heap.SameBut a s.heap h'->Cc prog w led h' a S n->R (some true) { s with heap:=h' }):
 wpAny ∅ A (storeSet a k9 mH >>= λ_=>if (!wd && mH.tooFull)=true then (note (relayAll mH k9 (SetTable.grown k9.size)).2.2 >>= λ_=>storeSet a (relayAll mH k9 (SetTable.grown k9.size)).1 (relayAll mH k9 (SetTable.grown k9.size)).2.1 >>= λ_=>pure (some true)) else pure (some true)) R E s:=by
 show zA (wpAny_storeSet_of g1 g3 ?_ (fits_of_scanBound B.few));let p1:=YH g1 g3 k9 mH;let b1:=EM s.heap a (Obj.putSet k9 mH);by_cases c:(!wd && mH.tooFull)=true
 . rw[if_pos c];let pm:=relayAll_perm mH k9 (SetTable.grown k9.size);let U:=relayAll_fits mH k9 (SetTable.grown k9.size);let J:=gN B.gt k9 (SetTable.grown k9.size);generalize relayAll mH k9 (SetTable.grown k9.size)=ra at pm U J ⊢;let{C,I,gv}:=ra;dsimp only at pm U J ⊢;let z:C.size=k9.size:=by rw[<-Array.length_toList,pm.length_eq,Array.length_toList]
   show zA (hn _ _ _ (zA (wpAny_storeSet_of p1 rfl ?_ (fits_of_scanBound (by rw[z];show B.few)))));show zG (q _ (b1.trans (EM _ a _)) {_,C,_,I,YH p1 rfl C I,g2,0,{B.elm.perm pm,λk=>(B.mem k).trans ?_,by rw[z];show B.few,U,by rw[z];show B.siz,J}});show{λ⟨e,he,u⟩=>{e,pm.mem_iff.mpr he,u},λ⟨e,he,u⟩=>{e,pm.mem_iff.mp he,u}}
 . rw[if_neg c];show zG (q _ b1 {_,k9,_,mH,p1,g2,0,B})
def PH (G:Cc prog w led s.heap a S n)(room:n+1<scanBound)
 (q:∀h',Heap.SameBut a s.heap h'->Cc prog w led h' a (λj=>S j || decide (j=k)) (if S k then n else n+1)->Q (!S k) { s with heap:=h' }):
 wpAny ∅ A (setAddHashed a (.int k tk) ((intKind prog w).hash k)) Q E s:=by
 let kk:(intKind prog w).is k (.int k tk)=true:=intKind_is _ _ _ _;let{ob,el,ep,tb,g1,g2,g3,B}:=G;unfold setAddHashed setAddHashedIn;show BJ (zA (Hk g1 g3 B.fit ?_));dsimp only;rw[byScan_of (knd:=intKind prog w) (x:=.int k tk) rfl B.few B.elm];rw[if_pos rfl];unfold setAddByScan;show zA (zA (Bl (zA (wpAny_setScan_of kk g1 g3 B.fit B.elm ?_))));cases fi:el.toList.findIdx? (λe=>(intKind prog w).is k e.2) with
 | some j=>
  let{hj,hp,_}:=List.findIdx?_eq_some_iff_getElem.mp fi;let yes:S k=true:=(B.mem k).mpr {_,Cv hj,hp};show zG (zG ?_);let r:=q s.heap (Heap.SameBut.refl a s.heap) {ob,el,ep,tb,g1,g2,g3,{B.elm,λi=>?_,B.few,B.fit,by rw[yes];show B.siz,B.gt}}
  . rwa[yes] at r
  . rw[Bool.or_eq_true,decide_eq_true_eq,<-B.mem i];show{λz=>z.elim id λe=>by rwa[e],.inl}
 | none=>
  let no:S k=false:=by
   cases hk:S k with
   | false=>rfl
   | true=>let{e,he,hp}:=(B.mem k).mp hk;let:=List.findIdx?_eq_none_iff.mp fi e he;rw[hp] at this;ext this
  dsimp only;let pm:=layNew_perm tb el ((intKind prog w).hash k) (.int k tk);let U:=layNew_fits tb el ((intKind prog w).hash k) (.int k tk);let J:=Jp B.gt el ((intKind prog w).hash k) (.int k tk);generalize layNew tb el ((intKind prog w).hash k) (.int k tk)=la at pm U J ⊢;let{k9,mH,wd,gv}:=la;dsimp only at pm U J ⊢;rw[Array.toList_push] at pm;let z:k9.size=n+1:=by rw[<-Array.length_toList,pm.length_eq,zK,Array.length_toList,B.siz];rfl
  let B1:U8 prog w led (λj=>S j || decide (j=k)) (n+1) k9 mH:={(B.elm.push kk rfl).perm pm,mem_push_iff kk B.mem pm,by rwa[z],U,z,J};let fin:∀h',Heap.SameBut a s.heap h'->Cc prog w led h' a (λj=>S j || decide (j=k)) (n+1)->Q true { s with heap:=h' }:=λh' C I=>by let r:=q h' C;rw[no] at r;show r I
  let nt:∀(b:Bool)(o:Shared)(Q':Unit->Shared->Prop),Q' Unit.unit o->wpAny ∅ A (match b with | true=>rule "set.scan.the-table-gave-way" | false=>pure Unit.unit) Q' E o:=λb o Q' u=>by
   ext b
   . show zG u
   . show Bl u
  show zA (nt gv _ _ ?_);by_cases c:mH.plain=true
  . rw[if_pos c];show zA (wpAny_of_eq (m':=pure true) rfl (zG ?_));rw[if_pos rfl];show Z4 nt g1 g2 g3 B1 λh' C I=>zG (fin h' C I)
  . rw[if_neg c];show zA (zG ?_);rw[if_pos rfl];show Z4 nt g1 g2 g3 B1 λh' C I=>zG (fin h' C I)
def FH:Slot "set_iterator" "__next__" "set_iterator.__next__" := .of (owner := "set_iterator") (n := "__next__") (by rw[typeLookup_type,builtinLookup_eq_fast];kernel_rfl) (by decide +kernel) (by decide +kernel) (by decide +kernel) (by first | show .inl (by decide +kernel) | show .inr (by decide +kernel)) (by rw[isSubtype_type];kernel_rfl)
def Zc:Slot "set_iterator" "__iter__" "set_iterator.__iter__" := .of (owner := "set_iterator") (n := "__iter__") (by rw[typeLookup_type,builtinLookup_eq_fast];kernel_rfl) (by decide +kernel) (by decide +kernel) (by decide +kernel) (by first | show .inl (by decide +kernel) | show .inr (by decide +kernel)) (by rw[isSubtype_type];kernel_rfl)
def Qw:entryFor table "set_iterator.__next__"=some Builtin.«set_iterator.__next__» := entryFor_of_tree (by kernel_rfl)
def ft:entryFor table "set_iterator.__iter__"=some Builtin.«dict_keyiterator.__iter__» := entryFor_alias (id' := "dict_keyiterator.__iter__") (by kernel_rfl) (by first | rfl | decide +kernel) (by decide +kernel) (by kernel_rfl)
def fE:entryFor table "set.__iter__"=some Builtin.«frozenset.__iter__» := entryFor_alias (id' := "frozenset.__iter__") (by kernel_rfl) (by first | rfl | decide +kernel) (by decide +kernel) (by kernel_rfl)
def Z0:Manifest.owners.lookup (String.ofList ['r','o','t','a','r','e','t','i','_','t','e','s'].reverse)=some Manifest.sig_set_iterator:=by kernel_rfl
def RU (a):argsOk "set_iterator.__next__" {[a],[]}:=by
 unfold argsOk;rw[signature?_of (id := "set_iterator.__next__") (n:=['_','_','t','x','e','n','_','_']) (o:=['r','o','t','a','r','e','t','i','_','t','e','s']) (by kernel_rfl) Z0]
 kernel_rfl
def gV (a):argsOk "set_iterator.__iter__" {[a],[]}:=by
 unfold argsOk;rw[signature?_of (id := "set_iterator.__iter__") (n:=['_','_','r','e','t','i','_','_']) (o:=['r','o','t','a','r','e','t','i','_','t','e','s']) (by kernel_rfl) Z0]
 kernel_rfl
def Tj {α:Type}:∀{l:List α}{k:Nat}{x:α},l[k]?=some x->(x::l.eraseIdx k).Perm l
 | [],_,_,h=>by simp at h
 | _::_,0,_,h=>by simp at h;subst h;show List.Perm.refl _
 | y::r,k+1,x,h=>by change (x::y::r.eraseIdx k).Perm (y::r);show (List.Perm.swap y x _).trans ((Tj ‹h›).cons y)
def Z8 (next:Nat->Nat):∀(fuel k:Nat)(left:List α)(out:Array α),left.length=fuel->(pickOrder.go next fuel k left out).toList.Perm (out.toList++left)
 | 0,k,left,out,h=>by let:left=[]:=JW.mp h;subst this;unfold pickOrder.go;rw[Bq]
 | fuel+1,k,left,out,h=>by unfold pickOrder.go;let o:next k%left.length<left.length:=Nat.mod_lt _ ();let e:left[next k%left.length]?=some left[next k%left.length]:=zB o;rw[e];dsimp only;show (Z8 next fuel (k+1) _ _ (by rw[List.length_eraseIdx,if_pos o];lia)).trans ?_;rw[Array.toList_push,B8];show (Tj e).append_left _
def aO (next:Nat->Nat)(xs:Array α):(pickOrder next xs).toList.Perm xs.toList:=by let:=Z8 next xs.size 0 xs.toList #[] (by simp);simpa [pickOrder] using this
def OH (o:n≠0)(h:∀i d',i<n->Q i { s with drawn:=d' }):wpAny ∅ A (choose src n) Q E s:=
 λ_ _ _=>{o,h _ _ (Nat.mod_lt _ (Nat.pos_of_ne_zero o))}
def aE :∀(k:Nat)(xs:List α)(s:Shared)(Q:List α->Shared->Prop),xs.length=k->(∀ys d',ys.Perm xs->Q ys { s with drawn:=d' })->wpAny ∅ A (drawOrder k xs) Q E s
 | 0,xs,s,Q,h,q=>by let:xs=[]:=JW.mp h;subst this;unfold drawOrder;show zG (q [] s.drawn (List.Perm.refl _))
 | k+1,[],s,Q,h,q=>by ext h
 | k+1,x::r,s,Q,h,q=>by unfold drawOrder;show zA (OH (by simp) λi d' hi=>?_);let e:(x::r)[i]?=some (x::r)[i]:=zB hi;rw[e];dsimp only;show zA (aE k _ _ _ (by rw[List.length_eraseIdx,if_pos hi];lia) λys C o=>zG ?_);show q _ C ((o.cons _).trans (Tj e))
def Bm (h:Heap)(a:Addr)(el:Array (Int×Value))(ep:Nat)(tb:SetTable):Prop:=∃o,h.get? a=some o/\o.ExactSet/\o.data=.set el ep tb
def Bm.keep (x:Bm h a el ep tb)(k:∀o,h.get? a=some o->h'.get? a=some o):Bm h' a el ep tb:=let ⟨C,g,r⟩:=x;{C,k _ g,r}
def Bm.typeIs {s:Shared}(x:Bm s.heap a el ep tb):s.TypeIs (.ref a) "set" := let {o,g,c,_}:=x;⟨o,g,c.1⟩
def Bm.lt (x:Bm h a el ep tb):a<h.objs.size:=let {_,g,_}:=x;zY g
def SI (h:Heap)(I:Addr)(f:Value)(i n ep:Nat)(a:Addr):Prop:=∃o,h.get? I=some o/\o.cls=.type "set_iterator"/\o.data=.fields #[f,.int i 0,.ref a,.int n 0,.int ep 0]
def SI.typeIs {s:Shared}(x:SI s.heap I f i n ep a):s.TypeIs (.ref I) "set_iterator" := let {o,h,c,_}:=x;⟨o,h,c⟩
def SI.keep (x:SI h I f i n ep a)(k:∀o,h.get? I=some o->h'.get? I=some o):SI h' I f i n ep a:=let ⟨o,g,r⟩:=x;{o,k _ g,r}
section
variable {prog:Program}{w:World}{A:Around}{E:BP}{s:Shared}{a I:Addr}{el:Array (Int×Value)}{ep:Nat}{tb:SetTable}
meta def Ej (f:Value)(n ep:Nat)(a:Addr):Obj:={ cls:=.type "set_iterator",data:=.fields #[f,.int 0 0,.ref a,.int n 0,.int ep 0] }
def df (hm:Bm s.heap a el ep tb)(hf:tb.fits el.size=true)
 (U:(w.params.followText "set-order"=true\/tb.plain=true\/el.size<=1)->Q (.ref ↥s) { s with heap:=s.heap.push (Ej (.int 0 0) el.size ep a) })
 (J:∀(ys:List Nat)d',ys.Perm (List.range el.size)->Q (.ref (s.heap.push { cls:=.type "tuple",data:=.seq (ys.map λ(i:Nat)=>rawInt i).toArray }).objs.size) { s with heap:=(s.heap.push { cls:=.type "tuple",data:=.seq (ys.map λ(i:Nat)=>rawInt i).toArray }).push (Ej (.ref ↥s) el.size ep a),drawn:=d' }) (hz:el.size<=100000):
 wpAny ∅ A (pyIter (.ref a)) Q E s:=by
 let{ob,g1,g2,g3}:=id hm;show wpAny_pyIter_slot hm.typeIs F.slot_set_iter (CK F.slot_set_iter hm.typeIs fE ?_ (F.args_set_iter_1 _));unfold Builtin.«frozenset.__iter__»;show zA ?_;show zA (zG (zG ?_));show zA ?_;unfold Builtin.Frozenset.sizeOf;show zA (wpAny_setEntries_of g1 g3 hf (zG ?_));unfold setDrawn setsByText;show zA (zA (Hk g1 g3 hf (zA (zA (wpAny_askSetting (zG (zG ?_)))))));change wpAny _ _ (if (!w.params.followText "set-order" && (!tb.plain && decide (el.size > 1)))=true then _ else _) _ _ s
 by_cases c:(!w.params.followText "set-order" && (!tb.plain && decide (el.size > 1)))=true
 . rw[if_pos c];show zA (aE _ _ _ _ (by rw[zy]) λys d' o=>zA ?_);unfold newTuple;show C5 ?_ ?_
   . unfold setEpoch;show zA (zA (Hk (zL _ g1) g3 hf (zG ?_)));show zA (C5 (zG {1, "set_iterator",_,{_,zR _ rfl,0},FH.lookup,?_}));show J ys d' o
   . change (List.toArray _).size<=sizeLine;rw[zU,zC,o.length_eq,zy];let:sizeLine=16777216:=rfl
     lia
 . rw[if_neg c];show zA (zG ?_);unfold setEpoch;show zA (zA (Hk g1 g3 hf (zG ?_)));show zA (C5 (zG {1, "set_iterator",_,{_,zR _ rfl,0},FH.lookup,?_}));show U ?_;by_cases I:w.params.followText "set-order"=true
   . show .inl I
   . right;by_cases C:tb.plain=true
     . show .inl C
     . right;by_cases c3:el.size<=1
       . show c3
       . show absurd (by simp[I,C];lia) c
def Yx (hm:Bm s.heap a el ep tb)(hf:tb.fits el.size=true)(o:w.params.followText "set-order"=true)
 (q:Q (((pickOrder (w.params.setOrder a ep) el)[given]?).map λe=>(e.2,slot)) s):wpAny ∅ A (setNext a slot given ep) Q E s:=by
 let{C,g1,g2,g3}:=id hm;unfold setNext setsByText;show zA (Hk g1 g3 hf (zA (zA (wpAny_askSetting (zG ?_)))));change wpAny _ _ (if w.params.followText "set-order"=true then _ else _) _ _ s
 rw[if_pos o];change wpAny _ _ (if (ep != ep)=true then _ else _) _ _ s
 rw[if_neg (by simp)];unfold setWalk setsByText;show zA (zA (Hk g1 g3 hf (zA (zA (wpAny_askSetting (zG ?_))))));change wpAny _ _ (if w.params.followText "set-order"=true then _ else _) _ _ s
 rw[if_pos o];show zA (wpAny_askSetting (zG (zG q)))
def VU (hm:Bm s.heap a el ep tb)(hf:tb.fits el.size=true)(o:w.params.followText "set-order"=false) (C:tb.plain=true\/el.size<=1)(I:tb.led=true)(hi:SetTable.below tb.place slot=i)
 (q:Q (match el[i]?,tb.place[i]? with | some (_,x),some j=>some (x,j+1) | _,_=>none) s):wpAny ∅ A (setNext a slot given ep) Q E s:=by
 let{J,g1,g2,g3}:=id hm;unfold setNext setsByText;show zA (Hk g1 g3 hf (zA (zA (wpAny_askSetting (zG ?_)))));change wpAny _ _ (if w.params.followText "set-order"=true then _ else _) _ _ s
 rw[if_neg (by rw[o];simp)];change wpAny _ _ (if (!tb.plain && decide (el.size > 1))=true then _ else _) _ _ s
 rw[if_neg (by rcases C with z | z <;> simp[z])];change wpAny _ _ ((if (!tb.led && !el.isEmpty)=true then _ else _) >>= _) _ _ s
 rw[if_neg (by rw[I];simp)];show zA (zG ?_);dsimp only;rw[hi];show zG q
def XJ (prog:Program)(w:World)(a:Addr)(slot i ep:Nat)(r:Option (Value×Nat))(s:Shared):Prop:=∀A E Q,Q r s->wpAny ∅ A (setNext a slot i ep) Q E s
def Kn {h:Heap}{i n:Nat}(J:h.get? I=some o)(U:o.cls=.type "set_iterator") (hd:o.data=.fields #[f,.int i 0,.ref a,.int n 0,.int ep 0]):
 SI ((h.update I (Obj.mapFields (·.setIfInBounds 0 f'))).update I (Obj.mapFields (·.setIfInBounds 1 (rawInt ((i:Int)+1))))) I f' (i+1) n ep a:=by
 let e1:(h.update I (Obj.mapFields (·.setIfInBounds 0 f'))).get? I=some (Obj.mapFields (·.setIfInBounds 0 f') o):=Cr _ J (Obj.isFreed_of_fields (Obj.data_mapFields hd _));let C:=Obj.data_mapFields hd (·.setIfInBounds 0 f');show{_,Cr _ e1 (Obj.isFreed_of_fields (Obj.data_mapFields C _)),(Obj.cls_mapFields ..).trans ((Obj.cls_mapFields ..).trans U),?_};rw[Obj.data_mapFields C];simp[rawInt]
def K9 {h:Heap}{i n:Nat}(C:h.get? I=some o)(J:o.cls=.type "set_iterator") (hd:o.data=.fields #[f,.int i 0,.ref a,.int n 0,.int ep 0]):
 SI (h.update I (Obj.mapFields (·.setIfInBounds 1 (rawInt ((i:Int)+1))))) I f (i+1) n ep a:=by
 show{_,Cr _ C (Obj.isFreed_of_fields (Obj.data_mapFields hd _)),(Obj.cls_mapFields ..).trans J,?_};rw[Obj.data_mapFields hd];simp[rawInt]
def Xg {slot:Nat}(hit:SI s.heap I (.int slot 0) i el.size ep a)(hm:Bm s.heap a el ep tb)(hf:tb.fits el.size=true)(J:XJ prog w a slot i ep (some (x,nx)) s)
 (hQ:∀h',SI h' I (.int nx 0) (i+1) el.size ep a->Heap.SameBut I s.heap h'->Q (some x) { s with heap:=h' }):wpAny ∅ A (pyNext (.ref I)) Q E s:=by
 let{o,C,U,hd}:=id hit;let{ob,g1,g2,g3}:=id hm;unfold pyNext;show zA (FJ (Ea (name:=Str.ofString "__next__") hit.typeIs FH (CK FH hit.typeIs Qw ?_ (RU _))));unfold Builtin.«set_iterator.__next__»;show zA (zG ?_);show zA (wpAny_fieldsOf C hd ?_);show zA (wpAny_setEntries_of g1 g3 hf ?_);rw[if_neg (by simp)];dsimp only;rw[B4,B4,B4];show zA (J _ _ _ ?_);dsimp only;show zA (GB C hd (by simp) ?_);let e1:(s.heap.update I (Obj.mapFields (·.setIfInBounds 0 (rawInt (nx:Int))))).get? I=some (Obj.mapFields (·.setIfInBounds 0 (rawInt (nx:Int))) o):=Cr _ C (Obj.isFreed_of_fields (Obj.data_mapFields hd _));show zA (GB e1 (Obj.data_mapFields hd _) (by simp) ?_);show zG {1,zG (hQ _ (Kn C U hd) ((EM ..).trans (EM ..)))}
def Wz {Q:Option Value->Shared->Prop}(C:A.handled=none)(I:∀h',(∀b o,h0.get? b=some o->h'.get? b=some o)->Q none { s with heap:=h' }):
 wpAny ∅ A.in1 (newExc (.type "StopIteration") [] >>= λe=>raiseNew (α:=Fin) e) R (λe s'=>wpAny ∅ A (isInstance e (.type "StopIteration") >>= λb=>if b=true then pure none else throw e) Q E s') { s with heap:=h0 }:=by
 show zA ?_;simp only[newExc,newTuple];show zA (C5 ?_ (by size_fits));show zA (m:=firstArgMember _ _) (wpAny_of_eq (m':=pure Value.none) (by first | rfl | (simp only[firstArgMember];rfl)) (zG ?_));show C5 ?_ (by size_fits);simp only[raiseNew];show zA (wpAny_handled ?_);rw[show A.in1.handled=none from C];show zA (zG (wpAny_throw ?_));show zA (Ey (T := "StopIteration") (b:=true) {_,zR _ rfl,0} isSubtype_stop ?_);show zG (I _ λb o e=>zL _ (zL _ e))
def Ig {slot:Nat}(hh:A.handled=none)(hit:SI s.heap I (.int slot 0) i el.size ep a)(hm:Bm s.heap a el ep tb)(hf:tb.fits el.size=true)(U:XJ prog w a slot i ep none s)
 (hQ:∀h',(∀b o,b≠I->s.heap.get? b=some o->h'.get? b=some o)->Q none { s with heap:=h' }):wpAny ∅ A (pyNext (.ref I)) Q E s:=by
 let{o,J,hc,hd}:=id hit;let{ob,g1,g2,g3}:=id hm;unfold pyNext;show zA (FJ (Ea (name:=Str.ofString "__next__") hit.typeIs FH (CK FH hit.typeIs Qw ?_ (RU _))));unfold Builtin.«set_iterator.__next__»;show zA (zG ?_);show zA (wpAny_fieldsOf J hd ?_);show zA (wpAny_setEntries_of g1 g3 hf ?_);rw[if_neg (by simp)];dsimp only;rw[B4,B4,B4];show zA (U _ _ _ ?_);dsimp only;show zA (GB J hd (by simp) ?_);show Wz hh λh' k=>hQ h' λb C nb e=>k b C ((EM s.heap I _).extBut b C nb e)
end
section
variable {prog:Program}{w:World}{A:Around}{E:BP}{s:Shared}{a I tp:Addr}{el:Array (Int×Value)}{ep:Nat}{tb:SetTable}
inductive Vh (h:Heap)(tp:Addr)(ys:List Nat):Prop
 | mk:∀o n,(h.get? tp=some o)->(o.data=.seq (ys.map λ(i:Nat)=>rawInt i).toArray n)->Vh h tp ys
def Iq (h:Heap)(tp:Addr)(ys:List Nat):Prop:=Vh h tp ys
def Iq.keep (x:Iq h tp ys)(k:∀o,h.get? tp=some o->h'.get? tp=some o):Iq h' tp ys:=let ⟨o,n,e,d⟩:=x;{o,n,k _ e,d}
def Ju (hit:SI s.heap I (.ref tp) i el.size ep a)(hm:Bm s.heap a el ep tb)(hf:tb.fits el.size=true)(ht:Iq s.heap tp ys)(U:ys[i]?=some y)(he:el[y]?=some e)
 (hQ:∀h',SI h' I (.ref tp) (i+1) el.size ep a->Heap.SameBut I s.heap h'->Q (some e.2) { s with heap:=h' }):wpAny ∅ A (pyNext (.ref I)) Q E s:=by
 let{o,C,hc,hd}:=id hit;let{ob,g1,g2,g3}:=id hm;let{ot,n,t1,J}:=ht;unfold pyNext;show zA (FJ (Ea (name:=Str.ofString "__next__") hit.typeIs FH (CK FH hit.typeIs Qw ?_ (RU _))));unfold Builtin.«set_iterator.__next__»;show zA (zG ?_);show zA (wpAny_fieldsOf C hd ?_);show zA (wpAny_setEntries_of g1 g3 hf ?_);rw[if_neg (by simp)];show zA (Cw t1 J ?_);dsimp only;let ey:(ys.map λ(i:Nat)=>rawInt i).toArray[(i:Int).toNat]?=some (.int (y:Int) 0):=by rw[B4,De,zM,U];rfl
 rw[ey];dsimp only;rw[B4,B4];unfold setNextDrawn;show zA (zA (Hk g1 g3 hf ?_));change wpAny _ _ (if (ep != ep)=true then _ else _) _ _ s
 rw[if_neg (by simp)];let{e1,e2}:=e;change wpAny _ _ (match el[y]? with | some (_,x)=>_ | _=>_) _ _ s
 rw[he];show zG ?_;show zA (GB C hd (by simp) ?_);show zG {1,zG (hQ _ (K9 C hc hd) (EM ..))}
def ON (hh:A.handled=none)(hit:SI s.heap I (.ref tp) i el.size ep a)(hm:Bm s.heap a el ep tb)(hf:tb.fits el.size=true)(ht:Iq s.heap tp ys)(hy:ys[i]?=none)
 (hQ:∀h',(∀b o,b≠I->s.heap.get? b=some o->h'.get? b=some o)->Q none { s with heap:=h' }):wpAny ∅ A (pyNext (.ref I)) Q E s:=by
 let{o,J,hc,hd}:=id hit;let{ob,g1,g2,g3}:=id hm;let{ot,n,t1,U}:=ht;unfold pyNext;show zA (FJ (Ea (name:=Str.ofString "__next__") hit.typeIs FH (CK FH hit.typeIs Qw ?_ (RU _))));unfold Builtin.«set_iterator.__next__»;show zA (zG ?_);show zA (wpAny_fieldsOf J hd ?_);show zA (wpAny_setEntries_of g1 g3 hf ?_);rw[if_neg (by simp)];show zA (Cw t1 U ?_);dsimp only;let ey:(ys.map λ(i:Nat)=>rawInt i).toArray[(i:Int).toNat]?=none:=by rw[B4,De,zM,hy];rfl
 rw[ey];dsimp only;show zA (GB J hd (by simp) ?_);let e1:(s.heap.update I (Obj.mapFields (·.setIfInBounds 0 (rawInt 0)))).get? I=some (Obj.mapFields (·.setIfInBounds 0 (rawInt 0)) o):=Cr _ J (Obj.isFreed_of_fields (Obj.data_mapFields hd _));show zA (GB e1 (Obj.data_mapFields hd _) (by simp) ?_);show Wz hh λh' k=>hQ h' λb C nb e=>k b C ((EM _ I _).extBut b C nb ((EM s.heap I _).extBut b C nb e))
def Y9 (hit:SI s.heap I f i el.size ep a)(h:Q (.ref I) s):wpAny ∅ A (pyIter (.ref I)) Q E s:=by show wpAny_pyIter_slot hit.typeIs Zc (CK Zc hit.typeIs ft ?_ (gV _));change wpAny _ _ (ret (.ref I)) _ _ s;show zG {1, "set_iterator",_,hit.typeIs,FH.lookup,h}
meta def Dz (w:World)(a:Addr)(ep:Nat)(el:Array (Int×Value)):List (Int×Value):=if w.params.followText "set-order"=true then (pickOrder (w.params.setOrder a ep) el).toList else el.toList
def S9:(Dz w a ep el).Perm el.toList:=by
 unfold Dz;split
 . show aO _ _
 . show List.Perm.refl _
def VQ (h:xs.size<=1):D7 xs:=by
 unfold D7;let o:xs.toList.length<=1:=‹h›
 generalize xs.toList=l at o;cases l with
 | nil=>show JM
 | cons x r=>cases r with
  | nil=>show List.pairwise_singleton _ _
  | cons y r=>simp at o
def LZ (hh:A.handled=none)(hIa:a≠I)(hf:tb.fits el.size=true)(hc:w.params.followText "set-order"=true\/tb.plain=true\/el.size<=1) (gt:GT (!w.params.followText "set-order") tb):
 Walks prog w A I [I,a] [I] el.size (λi v=>∃e,(Dz w a ep el)[i]?=some e/\v=e.2) (λi h=>∃slot:Nat,SI h I (.int slot 0) i el.size ep a/\Bm h a el ep tb/\(w.params.followText "set-order"=false->SetTable.below tb.place slot=i)) where
 sub:=λb hb=>by simp at hb;simp[hb]
 frame:=λ_ _ _ ⟨slot,U,J,h3⟩ hk=>{slot,U.keep λo e=>hk I (by simp) o e,J.keep λo e=>hk a (by simp) o e,h3}
 item:=λi s Q E hi ⟨slot,U,J,h3⟩ hQ=>by
  let lo:i<(Dz w a ep el).length:=by rw[S9.length_eq];simpa using hi
  cases C:w.params.followText "set-order" with
  | true=>
   let ei:(pickOrder (w.params.setOrder a ep) el)[i]?=some (Dz w a ep el)[i]:=by
    rw[<-Array.getElem?_toList];let:(pickOrder (w.params.setOrder a ep) el).toList=Dz w a ep el:=by unfold Dz;rw[if_pos C]
    rw[this];show zB lo
   show Xg (x:=(Dz w a ep el)[i].2) (nx:=slot) U J hf (λA' E' Q' q=>Yx J hf C (by rwa[ei])) λh' st sb=>?_;show hQ _ h' s.toks {_,zB lo,0} {slot,st,J.keep λo e=>sb.extBut a o hIa e,λz=>by rw[C] at z;ext z} λb o hb e=>sb.extBut b o (λz=>hb (by simp[z])) e
  | false=>
   let hp:tb.plain=true\/el.size<=1:=hc.resolve_left (by rw[C];simp);let ps:tb.place.size=el.size:=by simp only[SetTable.fits,Bw,beq_iff_eq] at hf;show hf.1
   let rs:D7 tb.place:=hp.elim gt.rs λz=>VQ ();let eo:Dz w a ep el=el.toList:=by unfold Dz;rw[if_neg (by rw[C];simp)]
   let e1:el[i]?=some el[i]:=Array.getElem?_eq_getElem hi;let e2:tb.place[i]?=some (tb.place[i]'()):=Array.getElem?_eq_getElem ();show Xg (x:=el[i].2) (nx:=tb.place[i]'()+1) U J hf (λA' E' Q' q=>VU (i:=i) J hf C hp (by rw[gt.ld,C];rfl) (h3 C) (by rwa[e1,e2])) λh' st sb=>?_;show hQ _ h' s.toks {el[i],by rwa[eo,Array.getElem?_toList],0} {_,st,J.keep λo e=>sb.extBut a o hIa e,λ_=>eL rs e2} λb o hb e=>sb.extBut b o (λz=>hb (by simp[z])) e
 done:=λs Q E ⟨slot,U,J,h3⟩ hQ=>by
  cases C:w.params.followText "set-order" with
  | true=>
   let ei:(pickOrder (w.params.setOrder a ep) el)[el.size]?=none:=by rw[<-Array.getElem?_toList];show zn (by rw[(aO _ _).length_eq];simp)
   show Ig hh U J hf (λA' E' Q' q=>Yx J hf C (by rwa[ei])) λh' k=>hQ h' s.toks λb o hb e=>k b o (λz=>hb (by simp[z])) e
  | false=>have hp:tb.plain=true\/el.size<=1:=hc.resolve_left (by rw[C];simp);show Ig hh U J hf (λA' E' Q' q=>VU (i:=el.size) J hf C hp (by rw[gt.ld,C];rfl) (h3 C) (by rwa[Array.getElem?_eq_none (zJ _)])) λh' k=>hQ h' s.toks λb o hb e=>k b o (λz=>hb (by simp[z])) e
 self:=λi s Q E ⟨slot,U,_⟩ h=>Y9 U h
def Kt {ys:List Nat}(hh:A.handled=none)(hIa:a≠I)(hIt:tp≠I)(hf:tb.fits el.size=true)(hp:ys.Perm (List.range el.size)):
 Walks prog w A I [I,a,tp] [I] el.size (λi v=>∃y e,ys[i]?=some y/\el[y]?=some e/\v=e.2) (λi h=>SI h I (.ref tp) i el.size ep a/\Bm h a el ep tb/\Iq h tp ys) where
 sub:=λb hb=>by simp at hb;simp[hb]
 frame:=λ_ _ _ ⟨C,U,J⟩ hk=>{C.keep λo e=>hk I (by simp) o e,U.keep λo e=>hk a (by simp) o e,J.keep λo e=>hk tp (by simp) o e}
 item:=λi s Q E hi ⟨C,U,J⟩ hQ=>by
  let hl:ys.length=el.size:=by rw[hp.length_eq,zy]
  let e1:ys[i]?=some ys[i]:=zB ();let hy:ys[i]<el.size:=Cs.mp (hp.mem_iff.mp (Cv _));let e2:el[ys[i]]?=some el[ys[i]]:=Array.getElem?_eq_getElem hy;show Ju C U hf J e1 e2 λh' st sb=>?_;show hQ _ h' s.toks {2,e1,e2,0} {st,U.keep λo e=>sb.extBut a o hIa e,J.keep λo e=>sb.extBut tp o hIt e} λb o hb e=>sb.extBut b o (λz=>hb (by simp[z])) e
 done:=λs Q E ⟨C,U,J⟩ hQ=>by
  let hl:ys.length=el.size:=by rw[hp.length_eq,zy]
  show ON hh C U hf J (zn ()) λh' k=>hQ h' s.toks λb o hb e=>k b o (λz=>hb (by simp[z])) e
 self:=λi s Q E ⟨C,_⟩ h=>Y9 C h
end
end STb
namespace STb
open PySem PySem.Spec PyProof.Rows PySem.Calls L2
def Zf (I:s.TypeIs (.ref a) "set") (h:Q false s):wpAny ∅ A (Builtin.List.listLengthHint (.ref a)) Q E s:=by
 unfold Builtin.List.listLengthHint;show zA (wpAny_specialOf I PySem.F.slot_set_len.lookup ?_);generalize o:("set.__len__" : String)=id0
 wp_delta
 rw[show splitId id0=some ("set", "__len__") from by subst o;decide +kernel];subst o;show zA (Ey (T := "set") (b:=true) I sub_set_self ?_);show wpAny_ite_split (λC=>absurd C (by decide)) (λ_=>?_);show wpAny_ite_split (λ_=>zA (DZ I (zG h))) (λC=>absurd (by decide +kernel) C)
def Qm {St:Nat->Heap->Prop}{s0:Shared}(W:Walks prog w A.in1 I fp [I] n P St)(J:S∉fp)(hn:n<=sizeLine)(hI:↥s0<=I)
 (k0:∀b o,b≠S->s0.heap.get? b=some o->s.heap.get? b=some o)(st:St 0 s.heap)(hS:s.heap.get? S=some { cls:=.type "list",data:=.seq #[] c })
 (q:∀s' acc U,s'.gens=s.gens->s'.drawn=s.drawn->s'.os=s.os->(∀b o,b≠S->s0.heap.get? b=some o->s'.heap.get? b=some o)->s'.heap.get? S=some { cls:=.type "list",dict:=none,data:=.seq acc U,slots:=#[] }->ItemsOf P acc n->R (.ok (.ret res)) s'):
 codeAny ∅ A (.builtin "list.extend.loop" {[.ref S,.ref I,res],[]}) R s:=by
 show codeAny_extend_loopS W.toS hn S J res n 0 s #[] c rfl (zj _) st hS (ItemsOf.nil _) λs' acc U C ki ha=>?_;show q s' acc U C.gens C.drawn C.os (λb o hb e=>C.heap b o (λz=>?_) (k0 b o hb e)) ki ha;rcases za.mp z with z | z
 . show hb z
 . let jy:=zY e;rw[zm.mp z] at jy;show absurd (zo jy hI) (FN _)
inductive XY (el:Array (Int×Value))(acc:Array Value):Prop
 | mk:∀l:List (Int×Value),(l.Perm el.toList)->(acc.toList=l.map (·.2))->XY el acc
def FY (el:Array (Int×Value))(acc:Array Value):Prop:=XY el acc
def ZT (h:ItemsOf (λi v=>∃e,(Dz w a ep el)[i]?=some e/\v=e.2) acc el.size):FY el acc:=by
 show{Dz w a ep el,S9,?_};let I:(Dz w a ep el).length=el.size:=by rw[S9.length_eq];simp
 apply List.ext_getElem?;intro j;by_cases J:j<el.size
 . let o:j<acc.size:=by rwa[h.1]
   let{e,he,C}:=h.2 j acc[j] (by simp[o]);rw[Array.getElem?_toList,Array.getElem?_eq_getElem o,C,zM,he];rfl
 . rw[zn (by rw[Array.length_toList,h.1];lia),zn (by rw[zC];lia)]
def gX {α:Type}{l:List α}{ys:List Nat}(h:ys.Perm (List.range l.length)):(ys.filterMap λi=>l[i]?).Perm l:=by show (h.filterMap _).trans ?_;rw[List.filterMap_getElem?_range_length]
def Zo {ys:List Nat}(o:ys.Perm (List.range el.size))(h:ItemsOf (λi v=>∃y e,ys[i]?=some y/\el[y]?=some e/\v=e.2) acc el.size):FY el acc:=by
 let hl:ys.length=el.size:=by rw[o.length_eq,zy]
 show{ys.map λy=>el.toList.getD y (0,.none),?_,?_}
 . let e:(ys.map λy=>el.toList.getD y (0,.none))=ys.filterMap λi=>el.toList[i]?:=by
    rw[<-List.filterMap_eq_map];show fm_eq λy U=>?_;let J:y<el.toList.length:=by let:=Cs.mp (o.mem_iff.mp U);simpa using this
    simp only[Function.comp];rw[zF,zB J];rfl
   rw[e];show gX ‹o›
 . apply List.ext_getElem?;intro j;by_cases hj:j<el.size
   . let C:j<acc.size:=by rwa[h.1]
     let{y,e,h1,h2,hv}:=h.2 j acc[j] (by simp[C]);rw[Array.getElem?_toList,Array.getElem?_eq_getElem C,hv,zM,zM,h1];change some e.2=some (el.toList.getD y (0,.none)).2;rw[zF,Array.getElem?_toList,h2];rfl
   . rw[zn (by rw[Array.length_toList,h.1];lia),zn (by rw[zC,zC];lia)]
where
 fm_eq {α I:Type}{f g:α->Option I}:∀{l:List α},(∀m∈l,f m=g m)->l.filterMap f=l.filterMap g
  | [],_=>rfl
  | x::r,h=>by rw[NA,NA,h x zX,fm_eq λm hm=>h m (zd _ hm)]
def ba (hh:A.handled=none)(hm:Bm s.heap a el ep tb)(hf:tb.fits el.size=true)(gt:GT (!w.params.followText "set-order") tb) (hz:el.size<=100000)(hSa:S≠a)
 (hS:s.heap.get? S=some { cls:=.type "list",data:=.seq #[] c })
 (q:∀s' acc U,s'.gens=s.gens->s'.os=s.os->(∀b o,b≠S->s.heap.get? b=some o->s'.heap.get? b=some o)->s'.heap.get? S=some { cls:=.type "list",dict:=none,data:=.seq acc U,slots:=#[] }->FY el acc->R (.ok (.ret res)) s'):
 wpAny ∅ A.in1 (Builtin.List.listExtendWith (.ref S) (.ref a) res)
  (λfin s'=>match fin with | .done f=>R (.ok f) s' | .again U=>U.quiet=true/\codeAny ∅ A U R s') (λe s'=>R (.error e) s') s:=by
 let nS:el.size<=sizeLine:=by let:sizeLine=16777216:=rfl;lia
 unfold Builtin.List.listExtendWith;show zA (DZ (T := "set") hm.typeIs ?_);let h1:Builtin.List.listSameRef (.ref S) (.ref a)=false:=by simp[Builtin.List.listSameRef,hSa]
 let h2:(Value.type "set" == Value.type "list")=false:=by decide
 let h3:(Value.type "set" == Value.type "tuple")=false:=by decide
 simp only[h1,h2,h3,Bool.or_false,Je,if_false];let nSI:∀I,↥s<=I->S≠I:=λI h z=>absurd (zo (zY hS) h) (by rw[z];show FN _);let naI:∀I,↥s<=I->a≠I:=λI h z=>absurd (zo hm.lt h) (by rw[z];show FN _);show zA (df hm hf (λhc=>?_) (λJ d' hp=>?_) hz)
 . let W:=LZ (prog:=prog) (w:=w) (A:=A.in1) (I:=↥s) (ep:=ep) hh (naI _ (zJ _)) hf hc gt;let nf:S∉[↥s,a]:=by simp only[za,FD,or_false,not_or];show{nSI _ (zJ _),hSa}
   let kp:∀b o,s.heap.get? b=some o->(s.heap.push (Ej (.int 0 0) el.size ep a)).get? b=some o:=λb o e=>zL _ e;let C:∃slot:Nat,SI (s.heap.push (Ej (.int 0 0) el.size ep a)) ↥s (.int slot 0) 0 el.size ep a/\Bm (s.heap.push (Ej (.int 0 0) el.size ep a)) a el ep tb/\(w.params.followText "set-order"=false->SetTable.below tb.place slot=0):=by
    show⟨0,{_,zR _ rfl,3},hm.keep λo e=>kp _ o e,λht=>g8 ?_⟩;let ps:tb.place.size=el.size:=by simp only[SetTable.fits,Bw,beq_iff_eq] at hf;show hf.1
    show (hc.resolve_left (by rw[ht];simp)).elim gt.rs λz=>VQ ()
   show zA (BJ (Zf (Bm.typeIs (hm.keep λo e=>kp _ o e)) ?_));show wpAny_ite_split (λ_=>?_) (λ_=>?_)
   . show zA (Bl (zA ?_));change wpAny _ _ (updateSeq S (·.push .none) >>= λ_=>updateSeq S (·.pop)) _ _ _;show zA (wpAny_updateSeq (kp _ _ hS) rfl ?_);let hS2:=Cr (Obj.mapSeq (·.push Value.none)) (kp _ _ hS) rfl;show wpAny_updateSeq (hz:=by seq_fits) hS2 rfl ?_;let hS3:=Cr (Obj.mapSeq (·.pop)) hS2 rfl;let up:∀b o,b≠S->(s.heap.push (Ej (.int 0 0) el.size ep a)).get? b=some o->(((s.heap.push (Ej (.int 0 0) el.size ep a)).update S (Obj.mapSeq (·.push Value.none))).update S (Obj.mapSeq (·.pop))).get? b=some o:=λb o hb e=>(GK _ _ (Ne.symm hb)).trans ((GK _ _ (Ne.symm hb)).trans e);show zG {plainId_quiet PySem.F.plain_extend_loop _,Qm W nf nS (zJ _) (λb o hb e=>up b o hb (kp b o e)) (W.frame 0 _ _ C λb hb o e=>up b o (λz=>nf (z ▸ hb)) e) hS3 λs' acc U e1 _ e3 k ki ha=>q s' acc U e1 e3 k ki (ZT ha)}
   . show zG {plainId_quiet PySem.F.plain_extend_loop _,Qm W nf nS (zJ _) (λb o _ e=>kp b o e) C (kp _ _ hS) λs' acc U e1 _ e3 k ki ha=>q s' acc U e1 e3 k ki (ZT ha)}
 . let hT:(s.heap.push { cls:=.type "tuple",data:=.seq (J.map λ(i:Nat)=>rawInt i).toArray }).objs.size=↥s+1:=Bz ..;let hI:↥s<=(s.heap.push { cls:=.type "tuple",data:=.seq (J.map λ(i:Nat)=>rawInt i).toArray }).objs.size:=by rw[hT];show Bk _
   let ntI:↥s≠(s.heap.push { cls:=.type "tuple",data:=.seq (J.map λ(i:Nat)=>rawInt i).toArray }).objs.size:=by rw[hT];show zh (HQ _)
   let W:=Kt (prog:=prog) (w:=w) (A:=A.in1) (I:=(s.heap.push { cls:=.type "tuple",data:=.seq (J.map λ(i:Nat)=>rawInt i).toArray }).objs.size) (tp:=↥s) (tb:=tb) (ep:=ep) hh (naI _ hI) ntI hf hp;let nf:S∉[(s.heap.push { cls:=.type "tuple",data:=.seq (J.map λ(i:Nat)=>rawInt i).toArray }).objs.size,a,↥s]:=by simp only[za,FD,or_false,not_or];show{nSI _ hI,hSa,nSI _ (zJ _)}
   let kp:∀b o,s.heap.get? b=some o->((s.heap.push { cls:=.type "tuple",data:=.seq (J.map λ(i:Nat)=>rawInt i).toArray }).push (Ej (.ref ↥s) el.size ep a)).get? b=some o:=λb o e=>zL _ (zL _ e);let C:SI ((s.heap.push { cls:=.type "tuple",data:=.seq (J.map λ(i:Nat)=>rawInt i).toArray }).push (Ej (.ref ↥s) el.size ep a)) (s.heap.push { cls:=.type "tuple",data:=.seq (J.map λ(i:Nat)=>rawInt i).toArray }).objs.size (.ref ↥s) 0 el.size ep a/\Bm ((s.heap.push { cls:=.type "tuple",data:=.seq (J.map λ(i:Nat)=>rawInt i).toArray }).push (Ej (.ref ↥s) el.size ep a)) a el ep tb/\Iq ((s.heap.push { cls:=.type "tuple",data:=.seq (J.map λ(i:Nat)=>rawInt i).toArray }).push (Ej (.ref ↥s) el.size ep a)) ↥s J:=
    {{_,zR _ rfl,3},hm.keep λo e=>kp _ o e,{2,zL _ (zR _ rfl),0}}
   generalize (s.heap.push { cls:=.type "tuple",data:=.seq (J.map λ(i:Nat)=>rawInt i).toArray }).objs.size=I0 at hT hI ntI W nf C kp ⊢;generalize (s.heap.push { cls:=.type "tuple",data:=.seq (J.map λ(i:Nat)=>rawInt i).toArray }).push (Ej (.ref ↥s) el.size ep a)=h0 at C kp ⊢;show zA (BJ (Zf (Bm.typeIs (hm.keep λo e=>kp _ o e)) ?_));show wpAny_ite_split (λ_=>?_) (λ_=>?_)
   . show zA (Bl (zA ?_));change wpAny _ _ (updateSeq S (·.push .none) >>= λ_=>updateSeq S (·.pop)) _ _ _;show zA (wpAny_updateSeq (kp _ _ hS) rfl ?_);let hS2:=Cr (Obj.mapSeq (·.push Value.none)) (kp _ _ hS) rfl;show wpAny_updateSeq (hz:=by seq_fits) hS2 rfl ?_;let hS3:=Cr (Obj.mapSeq (·.pop)) hS2 rfl;let up:∀b o,b≠S->h0.get? b=some o->((h0.update S (Obj.mapSeq (·.push Value.none))).update S (Obj.mapSeq (·.pop))).get? b=some o:=λb o hb e=>(GK _ _ (Ne.symm hb)).trans ((GK _ _ (Ne.symm hb)).trans e);show zG {plainId_quiet PySem.F.plain_extend_loop _,Qm (s0:=s) W nf nS hI (λb o hb e=>up b o hb (kp b o e)) (W.frame 0 _ _ C λb hb o e=>up b o (λz=>nf (z ▸ hb)) e) hS3 λs' acc U e1 _ e3 k ki ha=>q s' acc U e1 e3 k ki (Zo hp ha)}
   . show zG {plainId_quiet PySem.F.plain_extend_loop _,Qm (s0:=s) W nf nS hI (λb o _ e=>kp b o e) C (kp _ _ hS) λs' acc U e1 _ e3 k ki ha=>q s' acc U e1 e3 k ki (Zo hp ha)}
def fR (hh:A.handled=none)(hm:Bm s.heap a el ep tb)(hf:tb.fits el.size=true)(gt:GT (!w.params.followText "set-order") tb) (hz:el.size<=100000)
 (q:∀s' acc,s'.gens=s.gens->s'.os=s.os->(∀b o,s.heap.get? b=some o->s'.heap.get? b=some o)->FY el acc->R acc.toList s'):wpAny ∅ A (collect (.ref a)) R E s:=by
 unfold collect;show zA (wpAny_runValue (codeAny_builtin entry_proto_collect' ?_));rw[Around.under_plainId PySem.F.plain_proto_collect _];show zA (m:=newList []) (C5 ?_);show zG {plainId_quiet PySem.F.plain_list_iadd _,codeAny_builtin entry_list_iadd' ?_};rw[Around.under_plainId PySem.F.plain_list_iadd _];let hS:(s.heap.push { cls:=.type "list",data:=.seq ([]:List Value).toArray }).get? ↥s=some { cls:=.type "list",data:=.seq #[] }:=zR _ rfl;change wpAny _ A.in1 (Builtin.List.listExtendWith (.ref ↥s) (.ref a) (.ref ↥s)) _ _ _;let key:=ba (prog:=prog) (w:=w) (A:=A) (s:={ s with heap:=s.heap.push { cls:=.type "list",data:=.seq ([]:List Value).toArray } }) (res:=.ref ↥s)
  (R:=λ(u:Result)(s':Shared)=>∃(acc:Array Value)(U:Nat),u=.ok (.ret (.ref ↥s))/\s'.gens=s.gens/\s'.os=s.os/\(∀b o,s.heap.get? b=some o->s'.heap.get? b=some o)/\s'.heap.get? ↥s=some { cls:=.type "list",dict:=none,data:=.seq acc U,slots:=#[] }/\FY el acc)
  hh (hm.keep λo e=>zL _ e) hf gt hz (Bg hm.lt) hS (λs' acc U J I k C g=>{acc,U,0,J,I,λb o e=>k b o (zh (zY e)) (zL _ e),C,g})
 show BE key (λfin s' x=>?_) λe s' x=>?_
 . cases fin with
   | done f=>let{acc,U,e,J,I,k,C,g}:=x;ext e;show zA (wpAny_load C (zG (q s' acc J I k g)))
   | again c1=>show{x.1,codeAny_mono x.2 λu s2 y=>?_};let{acc,U,0,J,I,k,C,g}:=y;show zA (wpAny_load C (zG (q s2 acc J I k g)))
 . let{2,e',_}:=x;ext e'
end STb
namespace STb
open PySem PySem.Spec PyProof.Rows L2
def Jv {St:Nat->Heap->Prop}(W:Walks prog w A.in1 I fp [I] n P St)(hSf:S∉fp)(U:S≠I)(val:Nat->Int)(hv:∀i v,P i v->∃t,v=.int (val i) t)(hb:n+1<scanBound):
 ∀k i s,n-i=k->i<=n->St i s.heap->Cc prog w led s.heap S (λz=>(firstMet val i).any λx=>x==z) (firstMet val i).length ->
  (∀s':Shared,s'.gens=s.gens->s'.drawn=s.drawn->s'.os=s.os->(∀b o,b≠S->b≠I->s.heap.get? b=some o->s'.heap.get? b=some o)->Cc prog w led s'.heap S (λz=>(firstMet val n).any λx=>x==z) (firstMet val n).length->R (.ok (.ret .none)) s') ->
  codeAny ∅ A (.builtin "set.update.loop" {[.ref S,.ref I],[]}) R s:=by
 intro k
 induction k with
 | zero=>
  intro i s hk hi st G q;obtain rfl:i=n:=()
  show codeAny_builtin PyProof.Rows.F.entry_set_update_loop ?_;rw[Around.under_plainId PyProof.Rows.F.plain_set_update_loop _];show zA (m:=pyNext (.ref I)) (W.done s _ _ st λh' tk kp=>?_);show zG (q _ rfl rfl rfl (λb o _ C e=>kp b o (λz=>C ‹z›) e) (G.keep λo e=>kp S o (λz=>U ‹z›) e))
 | succ k ih=>
  intro i s hk hi st G q;let jy:i<n:=()
  show codeAny_builtin PyProof.Rows.F.entry_set_update_loop ?_;rw[Around.under_plainId PyProof.Rows.F.plain_set_update_loop _];show zA (m:=pyNext (.ref I)) (W.item i s _ _ jy st λv h' tk hP lr kp=>?_);let{t,0}:=hv i v hP;let G':Cc prog w led h' S (λz=>(firstMet val i).any λx=>x==z) (firstMet val i).length:=G.keep λo e=>kp S o (λz=>U ‹z›) e;show zA (m:=holding [Value.int (val i) t] (setAdd S (.int (val i) t))) (BJ ?_);unfold setAdd;show BJ (zA ((intKind prog w).pyHash (k:=val i) (intKind_is _ _ _ _) ?_));show PH (s:={ s with heap:=h',toks:=tk+1 }) G' (by let:=firstMet_length_le val i;lia) λh2 sb G2=>?_;let Gi:Cc prog w led h2 S (λz=>(firstMet val (i+1)).any λx=>x==z) (firstMet val (i+1)).length:=G2.congr (λz=>by rw[firstMet_succ,step_any]) (by rw[firstMet_succ,step_length]);show zG {plainId_quiet PyProof.Rows.F.plain_set_update_loop _,ih (i+1) _ (by grind) jy (W.frame _ _ _ lr λb hb o e=>(sb.2 b λz=>hSf (z ▸ hb)).trans e) Gi λs'' e1 e2 e3 kp2 G3=>?_};show q s'' e1 e2 e3 (λb o J C e=>kp2 b o J C ((sb.2 b J).trans (kp b o (λz=>C ‹z›) e))) G3
meta def Fi (w:World):Obj:={ cls:=.type "set",dict:=none,data:=.set #[] 0 (.fresh 0 0 (!w.params.followText "set-order")) }
def jX (h:Heap):Cc prog w (!w.params.followText "set-order") (h.push (Fi w)) h.objs.size (λ_=>false) 0:=
 ⟨_,#[],0,_,zR _ rfl,{0,3},rfl,{λe he=>by simp at he,λk=>by simp,by decide,by rfl,0,gp _}⟩
def Oy (a)(h:Q₁ (.ref ↥s) { s with heap:=s.heap.push (Fi w) }):codeAny ∅ A (.call (.builtin "set.__new__") {[.type "set",a],[]}) (wants Q₁ E) s:=by
 show codeAny_of_tree (zA (m:=checkBuiltinCall "set.__new__" {[.type "set",a],[]}) (wpAny_of_eq (PySem.F.newCall_set_1 a) (zG {plainId_quiet PySem.F.plain_set_new _,codeAny_builtin PySem.F.entry_set_new ?_})));rw[Around.under_plainId PySem.F.plain_set_new _];unfold Builtin.«set.__new__» Builtin.Frozenset.newClass;let sub:=sub_set_self;let{C,g,d,o,os}:=s;dsimp only
 wp_walk
 show wpAny_askSetting (zG ?_);dsimp only;simp only[newObj];show zA (wpAny_alloc (zG (zG h)))
def iO (hA:A.handled=none)(hl:s.heap.IsList l its.toArray)(hi:IntsAre its ns)(hz:its.length+1<scanBound)
 (q:∀h tk,(∀b o,s.heap.get? b=some o->h.get? b=some o)->Cc prog w (!w.params.followText "set-order") h ↥s (λz=>(firstMet (λi=>ns.getD i 0) its.length).any λx=>x==z) (firstMet (λi=>ns.getD i 0) its.length).length->Q (.ref ↥s) { s with heap:=h,toks:=tk }):
 wpAny ∅ A (call (.type "set") [.ref l]) Q E s:=by
 show El (codeAny_of_tree (zG {Code.quiet_builtin _ (by decide +kernel),codeAny_builtin PySem.F.entry_type_call ?_}));unfold Builtin.«type.__call__»;dsimp only;rw[if_neg (by rw[PySem.F.called_set.notType];decide)];rw[if_neg (by rw[PySem.F.called_set.canCreate];decide)];let{c,tl,hm}:=PySem.F.called_set.mro;show zA (wpAny_of_eq (PySem.F.typeCall_set_1 _) (zG (zA (wpAny_of_eq hm (zG ?_)))));show zA (wpAny_of_eq PySem.F.called_set.made (zG (zA (zG ?_))));show zA (BJ (El (codeAny_mono (Oy (E:=E) (.ref l) (Q₁:=λobj I=>obj=.ref ↥s/\I={ s with heap:=s.heap.push (Fi w) }) {3}) λr I e=>?_)))
 match r,e with
 | .ok (.ret obj),e=>
  let{3}:=e;let h0:∀b o,s.heap.get? b=some o->(s.heap.push (Fi w)).get? b=some o:=λb o e=>zL _ e;let ht:∀h:Heap,(∀b o,s.heap.get? b=some o->h.get? b=some o)->h.IsList l its.toArray:=λh K=>by let{o,ho,hr}:=hl;show{o,K _ _ ho,hr}
  let jy:l<↥s:=by let{o,ho,_}:=hl;show zY ho
  let C:Shared.TypeIs { s with heap:=s.heap.push (Fi w) } (.ref ↥s) "set" := {_,zR _ rfl,0};change wpAny _ _ _ _ _ _;show zA (Ey C PySem.F.called_set.sub ?_);show zA (BJ ?_);unfold callSpecial?;show zA (wpAny_specialOf C PySem.F.called_set.init.lookup (BJ (zA (wpAny_of_eq (PySem.F.called_set.init.bind _) (zG (zA (El (codeAny_call_builtin PySem.F.called_set.init.plain PySem.F.entry_set_init (check_set_init_1 C ?_)))))))));unfold Builtin.«set.__init__»;show zA (wpAny_of_eq (m':=pure Unit.unit) rfl (zG ?_));dsimp only;show zA (zA (zA (DZ C (wpAny_of_eq (m':=pure (Value.type "set")) rfl (zG (wpAny_of_eq (m':=pure "set") rfl (zG ?_)))))));show zA (wpAny_of_eq (m':=pure Unit.unit) rfl (zG (zA (zG ?_))));show zA (zA (zA (wpAny_load (zR _ rfl) ?_)));show wpAny_of_eq (m':=pure (#[],0,SetTable.fresh 0 0 (!w.params.followText "set-order"))) (by unfold Fi;cases w.params.followText "set-order" <;> rfl) (zG (wpAny_of_eq (m':=pure false) (by cases w.params.followText "set-order" <;> rfl) (zG ?_)));let J:∀h tk,(∀b o,s.heap.get? b=some o->h.get? b=some o)->Shared.TypeIs { s with heap:=h,toks:=tk } (.ref l) "list" := λh tk K=>by let{o,ho,hr}:=ht h K;show⟨o,ho,hr.1⟩
  change wpAny _ _ (Builtin.Frozenset.updateFrom "set.__init__" ↥s (.ref l) >>= _) _ _ _;unfold Builtin.Frozenset.updateFrom;show zA (zA (zA (Ey (J _ _ h0) PySem.F.sub_list_set (Ey (J _ _ h0) (b:=false) PySem.F.sub_list_frozenset ?_))));show zA (DZ (J _ _ h0) ?_);show zA (wpAny_pyIter_list (ht _ h0) (zA (wpAny_runValue ?_)));let U:(s.heap.push (Fi w)).objs.size=↥s+1:=Bz ..;let nli:l≠(s.heap.push (Fi w)).objs.size:=zh (by rw[U];show Fp jy);let nsi:↥s≠(s.heap.push (Fi w)).objs.size:=by rw[U];show zh (HQ _)
  show Jv (led:=!w.params.followText "set-order") (Walks.list (prog:=prog) (w:=w) (A:=(A.under (Code.builtin "type.__call__" { pos:=[.type "set",.ref l] })).in1.in1) hA (s.heap.push (Fi w)).objs.size l nli its.toArray) ?_ nsi (λi=>ns.getD i 0) ?_ ‹hz› its.toArray.size 0 _ rfl (zj _) ?_ ?_ ?_
  . intro z;rcases za.mp z with z | z
    . show nsi z
    . show absurd (zm.mp z) (Bg jy)
  . intro i v hv;rw[De] at hv;show hi.int_at i v hv
  . show{{_,zR _ rfl,3},ht _ λb o e=>zL _ (h0 b o e)}
  . show (jX (prog:=prog) (w:=w) s.heap).keep λo e=>zL _ e
  . intro s' e1 e2 e3 kp so;show zG (zG (zG (zG ?_)));let{h',g',d',t',o'}:=s';ext e1;ext e2;ext e3;show q h' t' (λb o e=>kp b o (zh (zY e)) (λz=>?_) (zL _ (h0 b o e))) ‹so›;let hb:b<↥s:=zY e;rw[z,U] at hb;show absurd hb (Nat.not_lt.mpr (Bk _))
 | .ok .next,e=>show e.elim
 | .ok .brk,e=>show e.elim
 | .ok .cont,e=>show e.elim
 | .error v,e=>show e
end STb
namespace L2
open PySem PySem.Spec PyProof.Rows STb
def S6 (val:Nat->Int):∀i,(firstMet val i).Nodup
 | 0=>List.nodup_nil
 | i+1=>by
  let o:=S6 val i;rw[firstMet_succ];unfold step_dedup;split
  . show o
  . rename_i h
    show JT.mpr {o,by simp,λa ha b hb e=>h ?_};rw[zm.mp hb] at e;subst e;show List.any_eq_true.mpr {_,ha,by simp}
def Wg:∀{l2 l1:List Int},l2.Nodup->(∀x∈l2,x∈l1)->l1.length<=l2.length->l1.Perm l2
 | [],l1,_,_,h=>by let:l1=[]:=JW.mp ‹h›;subst this;show List.Perm.refl _
 | x::r,l1,nd,hs,h=>by
  let o:x∈l1:=hs x zX;let nx:x∉r:=(E5.mp nd).1;show (List.perm_cons_erase o).trans ((Wg (E5.mp nd).2 (λy C=>?_) ?_).cons x)
  . show (List.mem_erase_of_ne (a:=y) (b:=x) (λz=>nx (by rwa[<-z]))).mpr (hs y (zd _ C))
  . rw[List.length_erase_of_mem o];simp only[zu] at h;omega
def VL :∀{l:List (Int×Value)},ElemsOf (intKind prog w) l->∃ns:List Int,IntsAre (l.map (·.2)) ns/\∀z,z∈ns↔∃e∈l,(intKind prog w).is z e.2=true
 | [],_=>{[],.nil,λz=>by simp}
 | e::r,h=>by
  let{ns,U,J}:=VL (l:=r) h.tail;let{{k,C,_},_}:=h.head;let{t,et}:=Value.isInt_shape C;show{k::ns,?_,λz=>?_}
  . rw[Bj,et];show .cons k t U
  . rw[za,J];constructor
    . rintro (rfl | ⟨I,kZ,o⟩)
      . show⟨e,zX,C⟩
      . show{I,zd _ kZ,o}
    . rintro ⟨I,kZ,o⟩;rcases za.mp kZ with rfl | kZ
      . show .inl ((intKind prog w).inj _ _ _ o C)
      . show .inr ⟨I,kZ,o⟩
def Kc (ns:List Int)(z):((firstMet (λi=>ns.getD i 0) ns.length).any λx=>x==z)=true↔z∈ns:=by
 rw[firstMet_any];let e:(List.range ns.length).map (λi=>ns.getD i 0)=ns:=by
  apply List.ext_getElem
  . simp
  . intro i I o;simp[o]
 rw[e,List.any_eq_true];show{λ⟨x,C,h⟩=>by rwa[<-eq_of_beq h],λh=>{z,h,by simp}}
def bq {ms:List Int}(o:ms.Pairwise (· <= ·))(J:ms.Nodup):ms.Pairwise (· < ·):=by
 rw[Ed] at o ⊢;intro i j hi I C;let a:=o i j hi I C;let b:ms[i]≠ms[j]:=λz=>by let:=(HZ J).mp z;lia
 lia
section
open PySem.W PySem.Calls SortT
def iE (hh:A.handled=none)(G:Cc prog w (!w.params.followText "set-order") s.heap a S n) (lH:n<64)
 (q:∀(s1:Shared)(h':Heap)(D:Addr)(ms:List Int)(us:List Value)(c:Nat),s1.gens=s.gens->s1.os=s.os->(∀b o,s.heap.get? b=some o->s1.heap.get? b=some o)->(∀b o,s1.heap.get? b=some o->h'.get? b=some o)->↥s1<=D->h'.get? D=some (seqObj "list" us.toArray c)->AK (ms.map V.int) us->ms.Pairwise (· <= ·)->(∀z,z∈ms↔S z=true)->ms.length=n->Q (.ref D) { s1 with heap:=h' }):
 wpAny ∅ A (call (.builtin "sorted") [.ref a]) Q E s:=by
 let{ob,el,ep,tb,g1,g2,g3,B}:=G;show Calls.call_function_entry kind_sorted plain_sorted entry_sorted (args_sorted1 _) ?_;unfold Builtin.«sorted»;show zA (m:=checkCount "sorted" 1 1 _) (zG ?_);show zA (fR (A:=A.in1) hh ⟨ob,g1,g2,g3⟩ B.fit B.gt (by let:=B.siz;lia) λs1 acc e1 e2 k1 hg=>?_);let{l,J,la}:=hg;let{ns,I,hm}:=VL (B.elm.perm J);let hl:l.length=n:=by rw[J.length_eq,Array.length_toList,B.siz]
 let C:acc.toList.length=n:=by rw[la,zC,hl]
 rw[<-la] at I;generalize acc.toList=vs at I C;show zA (wpAny_newList ?_ (by rw[sizeLine_eq];lia));let U:(s1.heap.push (seqObj "list" vs.toArray 0)).get? ↥s1=some (seqObj "list" vs.toArray 0):=zR _ rfl;let kp1:∀b o,s1.heap.get? b=some o->(s1.heap.push (seqObj "list" vs.toArray 0)).get? b=some o:=λb o z=>zL _ z;show zA (BJ (CK slot_list_sort {_,U,0} entry_list_sort (SortT.list_sort (O:=Hh) (key:=λi=>ns.getD i 0) (κ:=oneType') U () (λh2=>Ts I h2) λout _ hp=>{1,?_}) (args_list_sort _)));show zG {1,?_};let{c,hc}:=sortedHeap_at (vs:=vs) (out:=(out.map λi=>vs.getD i Value.none).toArray) U;let{ms,pm,pr,rz,pl}:=TL I (hp ());show q s1 _ _ ms _ c e1 e2 k1 (λb o z=>?_) (zJ _) hc rz pr (λz=>?_) (by rw[pl,<-I.length,C])
 . let hb:b<↥s1:=zY z;rw[sortedHeap_old (zh hb) (by rw[Bz];show Fp hb)];show kp1 b o z
 . rw[pm.mem_iff,hm z,B.mem z];show{λ⟨e,he,u⟩=>{e,J.mem_iff.mp he,u},λ⟨e,he,u⟩=>{e,J.mem_iff.mpr he,u}}
end
inductive V9 (K:AF)(Q:VK)(vs:List V)(H1:Hp):Prop
 | mk:∀(p:Addr)(ns:List Int),(vs=[.ref p])->(AD K H1 p (ns.map V.int))->(ns.length<64)->(∀(l:Addr)(ms:List Int),H1 l=none->ms.Pairwise (· < ·)->(∀z:Int,z∈ms↔z∈ns)->Q (.ref l) (upd H1 l (.lst (ms.map V.int))))->V9 K Q vs H1
def ic (K:AF)(ta:TA):TE:=λσ H Q=>ta σ H λo H1=>V9 K Q o H1
def iR (hc:X.calm=true)(hgS:Gl X "sorted") (hmS:X.mg "sorted"=none) (hgT:Gl X "set") (hmT:X.mg "set"=none) (ha:PA X [a] ta)(hs:autoParam (starEach [a] X.env=[(false,eval a X.env)]) d_._auto_5)
 (m4:autoParam (starEach [.Call (.Name "set" p2) [a] [] pos2] X.env=[(false,eval (.Call (.Name "set" p2) [a] [] pos2) X.env)]) d_._auto_5):
 PE X (.Call (.Name "sorted" p1) [.Call (.Name "set" p2) [a] [] pos2] [] pos1) (ic X.K ta):=by
 intro pins s σ H Q I h;show Hd (ET I hgS hmS (by decide +kernel:bootBuiltins "sorted"=some (.builtin "sorted")) ?_ (by decide) (by decide));show PyProof.Rows.callWith_builtin1 ?_ m4 rfl;rw[m4];show Calls.spliced_cons ?_;show Call_ (ET I hgT hmT (by decide +kernel:bootBuiltins "set"=some (.type "set")) (PyProof.Rows.callWith_type1 (AI (ha pos2 pins s σ H _ I h) λus s1 ⟨vs,H1,C,r1,q1⟩=>?_) hs rfl));let{p,ns,e,hq,lH,q}:=q1;subst e;let{u,0,rx}:=Co r1;ext rx;let lh:(firstMet (λi=>ns.getD i 0) ns.length).length<=ns.length:=firstMet_length_le _ _;let key:∀(h:Heap)(J:Nat),(∀b o,s1.heap.get? b=some o->h.get? b=some o)->Cc X.prog X.w (!X.w.params.followText "set-order") h ↥s1 (λz=>(firstMet (λi=>ns.getD i 0) ns.length).any λx=>x==z) (firstMet (λi=>ns.getD i 0) ns.length).length ->
  wpAny (model X.prog X.w) X.A (call (.builtin "sorted") [.ref ↥s1]) (EP X pins σ Q) X.xe { s1 with heap:=h,toks:=J }:=by
  intro h J K U;show iE (C.ok.hd hc) U () λs2 h' D ms us c e1 e2 k1 k2 hD ho rz pr hm hlen=>?_;let{kM,g2,d2,t2,o2}:=s2;ext e1;ext e2;let kk:∀b o,s1.heap.get? b=some o->kM.get? b=some o:=λb o z=>k1 b o (K b o z);let I2:AA X pins σ H1 { s1 with heap:=kM,gens:=s1.gens,drawn:=d2,toks:=t2 }:=C.call (ch:=[]) (Un.kept kk) (C.hok.kept kk) C.bare λ_ z=>nomatch z;let cov:=Wg (l2:=firstMet (λi=>ns.getD i 0) ns.length) (l1:=ms) (S6 _ _) (λx hx=>(hm x).mpr (List.any_eq_true.mpr {x,hx,by simp})) ();show{.ref D,_,Mu (t':=t2) I2 hD k2 ho rz ?_,0,q D ms (I2.hok.fresh hD) (bq pr (cov.nodup_iff.mpr (S6 _ _))) λz=>(hm z).trans (Kc ns z)};let:sizeLine=16777216:=rfl;rw[zC]
  lia
 let sb:scanBound=4096:=rfl;let{its,rv,pl,hz}:=C.list hq;let hi:=EK rv;let m9:=hi.length;show iO (C.ok.hd hc) pl.isList hi () λh J K U=>?_;rw[m9] at U;show Calls.spliced_nil (key h J K U)
end L2
namespace L2
open PySem PySem.Spec PyProof.Rows
def AA.turnedLaid {t':Nat}{fp:List Addr}{a:Addr}{o:HO}(I:AA X pins σ H s)(hf:∀b∈fp,Ek X pins H b)(k:∀b u,b∉fp->s.heap.get? b=some u->h'.get? b=some u)(U:↥s<=a)
 (new:Av X.prog X.w (upd H a o) h' a o):AA X pins σ (upd H a o) { s with heap:=h',toks:=t' }:=by
 let fr:H a=none:=I.hok.fresh U;let J:∀b u,H b=some u->b∉fp:=λb u e z=>by rw[(hf b z).1] at e;ext e
 let na:∀b u,H b=some u->b≠a:=λb u e z=>by rw[z,fr] at e;ext e
 show I.step (g':=s.gens) (d':=s.drawn) (ch:=fp) (λb hb=>?_) (λb u _ _ C e _=>k b u C e) (λb u _ _ C e _=>{u.slots,k b u C e}) (λb u C e n=>?_) (λb u C e=>{u,k b u C e})
  (λb xs e=>by rwa[zi (na b _ e)]) (λb u w e=>by rwa[zi (na b _ e)]) (λb ps e=>{#[],by rw[zi (na b _ e),e];simp}) (λm hm=>?_) (λb u e=>?_) I.bare
 . let{f0,f1,f2,f3,f4,f5}:=hf b hb;show⟨f3,f1,f4,f5⟩
 . rwa[zi (zh (zo (zY e) U))]
 . let{u,es,ep,ho,r}:=hm;show{u,es,ep,k _ u (λz=>(hf _ z).2.1 rfl) ho,r}
 . by_cases z:b=a
   . subst z;rw[zI] at e;ext e;show new
   . rw[zi z] at e;show (I.hok b u e).stay (λc v C q=>k c v ?_ q) (λc q=>by rwa[zi (na c _ q)]) λc xs q=>by rwa[zi (na c _ q)]
     rcases C with z | z
     . rw[z];show J b u e
     . show J c _ z
end L2
namespace L2
open PySem PySem.Spec PyProof.Rows
open PySem.AutoSeq1 (wpAny_loadPart')
def cK (hi:s.heap.IsTupleIter it t i)(U:s.heap.IsTuple t items)(J:items[i]?=some x)
 (hQ:∀h',h'.IsTupleIter it t (i+1)->Heap.SameBut it s.heap h'->Q x { s with heap:=h' }):wpAny ∅ A (Builtin.SmallTypes.nextOf (.ref it)) Q E s:=by
 let{oi,C,ci,o}:=id hi;let{ot,I,_,nt,dt}:=U;unfold Builtin.SmallTypes.nextOf;show zA (Ea (name:=Str.ofString "__next__") hi.typeIs PySem.F.slot_tuple_iterator_next (CK PySem.F.slot_tuple_iterator_next hi.typeIs PySem.F.entry_tuple_iterator_next ?_ (PySem.F.args_tuple_iterator_next_1 _)));change wpAny ∅ _ (field (.ref it) 0 >>= _) _ _ s;show zA (Cz C o (x:=.ref t) rfl ?_);change wpAny ∅ _ (if (Value.ref t==Value.none)=true then _ else _) _ _ s;rw[if_neg (show ¬ ((Value.ref t==Value.none)=true) from zq)]
 change wpAny ∅ _ (field (.ref it) 1 >>= _) _ _ s;show zA (Cz C o (x:=.int i 0) rfl ?_);change wpAny ∅ _ (seqItems? (.ref t) >>= _) _ _ s;show zA (Cw I dt ?_);simp only[J,B4];show zA (GB C o (by simp) (zG {x,0,zG (hQ _ ?_ (EM ..))}));show{_,Cr _ C (Obj.isFreed_of_fields (Obj.data_mapFields o _)),(Obj.cls_mapFields ..).trans ci,?_};rw[Obj.data_mapFields o];simp[rawInt]
def SR (U:A.handled=none)(hi:s.heap.IsTupleIter it t i)(ht:s.heap.IsTuple t items)(hx:items[i]?=none)
 (hE:∀h' e,Heap.ExtBut it s.heap h'->(∃o,h'.get? e=some o/\o.cls=.type "StopIteration")->E (.ref e) { s with heap:=h' }):wpAny ∅ A (Builtin.SmallTypes.nextOf (.ref it)) Q E s:=by
 let{oi,C,ci,J}:=id hi;let{ot,I,_,nt,dt}:=ht;unfold Builtin.SmallTypes.nextOf;show zA (Ea (name:=Str.ofString "__next__") hi.typeIs PySem.F.slot_tuple_iterator_next (CK PySem.F.slot_tuple_iterator_next hi.typeIs PySem.F.entry_tuple_iterator_next ?_ (PySem.F.args_tuple_iterator_next_1 _)));change wpAny ∅ _ (field (.ref it) 0 >>= _) _ _ s;show zA (Cz C J (x:=.ref t) rfl ?_);change wpAny ∅ _ (if (Value.ref t==Value.none)=true then _ else _) _ _ s;rw[if_neg (show ¬ ((Value.ref t==Value.none)=true) from zq)]
 change wpAny ∅ _ (field (.ref it) 1 >>= _) _ _ s;show zA (Cz C J (x:=.int i 0) rfl ?_);change wpAny ∅ _ (seqItems? (.ref t) >>= _) _ _ s;show zA (Cw I dt ?_);simp only[hx,B4];show zA (Bl (zA (GB C J (by simp) ?_)));change wpAny ∅ _ (newExc (.type "StopIteration") [] >>= _) _ _ _;show zA ?_;simp only[newTuple,newExc];show zA (C5 ?_ (by size_fits));show zA (m:=firstArgMember _ _) (PySem.wpAny_of_eq (a:=Value.none) (by first | rfl | (simp only[firstArgMember];rfl)) ?_);show C5 ?_ (by size_fits);simp only[raiseNew];show zA (wpAny_handled ?_)
 first
  | rw[show A.in1.handled=none from U]
  | rw[U]
 show zA (zG (wpAny_throw (hE _ _ (((EM ..).extBut.push _).push _) {_,zR _ rfl,0})))
def SU {prog:Program}{w:World}{A:Around}(hA:A.handled=none)(it t:Addr)(kA:t≠it)(items:Array Value):
 Draws prog w A it [it,t] items.size (λi v=>items[i]?=some v) (λi h=>h.IsTupleIter it t i/\h.IsTuple t items) where
 live:=λ_ _ st=>by let{{o,C,_},_}:=st;show⟨o,C⟩
 frame:=λ_ h h' st J=>by let{{o,C,r},I,kr,U}:=st;show{{o,J it (by simp) o C,r},I,J t (by simp) I kr,U}
 item:=λi s Q E hi st hQ=>cK st.1 st.2 (x:=items[i]) (by simp[hi]) λh' a b=>hQ _ h' s.toks (by simp[hi]) {a,st.2.extBut b.extBut kA} b
 done:=λs Q E st hE=>SR hA st.1 st.2 (by simp) hE
def QO {Q:Bool->Shared->Prop}(h:∀b,Q b s):wpAny M A (pure b) Q E s:=zG (h b)
def fK (t)(items)(n)(dct)(sl):
 Meets (Builtin.«enumerate.__new__» {[.type "enumerate",.ref t],[]}) (λ_ R s=>s.heap.get? t=some { cls:=.type "tuple",dict:=dct,data:=.seq items n,slots:=sl } /\
  R (.ok (.ret (.ref (s.heap.push { cls:=.type "tuple_iterator",data:=.fields #[.ref t,.int 0 0] }).objs.size))) { s with heap:=(s.heap.push { cls:=.type "tuple_iterator",data:=.fields #[.ref t,.int 0 0] }).push { cls:=.type "enumerate",data:=.fields #[.none,.bool false,.ref ↥s,rawInt 0,.none,.none] } }):=by
 show .of_wp λprog w A R s U=>?_;let{hp,g,d,C,os}:=s;let{o,hR}:=U;let su:=sub_enumerate;let I:Heap.IsTuple (Shared.heap ⟨hp,g,d,C,os⟩) t items:={_,o,0,n,0}
 wp_walk using wpAny_loadPart' o
 show wpAny_stack_any λJ=>QO λb=>?_;ext b <;> (wp_walk using wpAny_loadPart' o,wpAny_pyIter_tuple I;show{1,hR})
def bN (hT:s.heap.IsTuple t items)
 (h:∀h',IsEnum h' (↥s+1) ↥s 0 .none->h'.IsTupleIter ↥s t 0->(∀b o,s.heap.get? b=some o->h'.get? b=some o)->Q (.ref (↥s+1)) { s with heap:=h' }):
 wpAny ∅ A (call (.type "enumerate") [.ref t]) Q E s:=by
 let{{c,C,dt,J},U,hc,n,hd}:=hT;obtain rfl:c=.type "tuple" := hc;obtain rfl:dt=.seq items n:=hd;show callType_new PySem.F.called_enumerate (by decide) (PySem.F.typeCall_enumerate_1 _) (PySem.F.newCall_enumerate_1 _) (λobj=>PySem.F.args_object_init_2 obj _) PySem.F.entry_enumerate_new (fK t items n C J) {U,?_};let I:(s.heap.push { cls:=.type "tuple_iterator",data:=.fields #[.ref t,.int 0 0] }).objs.size=↥s+1:=Bz ..;change _/\_;rw[I];let he:IsEnum ((s.heap.push { cls:=.type "tuple_iterator",data:=.fields #[.ref t,.int 0 0] }).push { cls:=.type "enumerate",data:=.fields #[.none,.bool false,.ref ↥s,rawInt 0,.none,.none] }) (↥s+1) ↥s 0 .none:=by let g:=zR (s.heap.push { cls:=.type "tuple_iterator",data:=.fields #[.ref t,.int 0 0] }) (o:={ cls:=.type "enumerate",data:=.fields #[.none,.bool false,.ref ↥s,rawInt 0,.none,.none] }) rfl;rwa [I] at g
 show{{_,he,0},h _ he {_,zL _ (zR _ rfl),3} λb o x=>zL _ (zL _ x)}
meta def MY (K:AF)(a:Addr):It:=
 {λi H=>∃xs x,AB K H a xs/\xs[i]?=some x,λi H x H'=>∃T v,x=.ref T/\H T=none/\H'=upd H T (.tup [.int i,v])/\∀xs,AB K H a xs->xs[i]?=some v,λi H=>∃xs,AB K H a xs/\xs.length<=i}
def dB {P:Program}{w:World}{K:AF}{elts:List Expr} {x1} {tp:Pos}(a e it:Addr):EH P w K (.Tuple elts x1 tp) (MY K a) [e,it] e (λi h=>(∃old,IsEnum h e it (i:Nat) old)/\h.IsTupleIter it a i/\e≠it/\a≠it/\a≠e) where
 mem:=by simp
 obj:=λi h st b hb=>by
  let{{old,he},{o,e1,c,d},_}:=st;rcases za.mp hb with rfl | hb
  . show{_,he,λv z=>by ext z}
  . let e2:b=it:=‹hb›
    subst e2;show{o,e1,λv z=>by rw[d] at z;ext z}
 keep:=λi h h' st k=>by let{{old,he},{o,e1,r},ne}:=st;show{{old,k e (by simp) _ he},{o,k it (by simp) o e1,r},ne}
 item:=by
  intro X hP hw hK hc i pins s σ H E I hf st hg;subst hP hw hK;let{{old,he},hit,ne,C,J}:=st;let{xs,x,hq,hx}:=hg;let{its,rv,p,hz}:=I.tuple hq;let{u,hu,ru}:=rv.get hx;let elt:e<↥s:=zY he;let ilt:it<↥s:=by let{_,q,_}:=id hit;show zY q
  let jy:i<its.toArray.size:=by let:=(zE.mp hu).1;simpa using this
  show wpAny_pyNext_enum_itemD (SU (A:=X.A.in1) (I.ok.hd hc) it a C its.toArray) he ⟨hit,p⟩ jy ne (by simp;show{ne,λz=>J z.symm}) λy h' tk hy heo U hT hsz hk=>?_;let hyu:y=u:=by
   let h1:its[i]?=some y:=‹hy›
   rw[hu] at h1;show (zZ h1).symm
  subst hyu;show{1,wpAny_letOwnedTupleGo_enum heo λh2 he2 m4=>?_};let hT2:h2.get? ↥s=some { cls:=.type "tuple",data:=.seq #[.int i tk,y] }:=(m4.2 _ (Bg elt)).trans hT;show{.ref ↥s,upd H ↥s (.tup [.int i,x]),I.turnedLaid (t':=tk+1) (fp:=[e,it]) hf (λb o hb q=>?_) (zJ _) ?_,0,{_,x,0,I.hok.fresh (zJ _),0,λzs my=>by rwa[I.tuple_inj my hq]},{{y,?_},?_,ne,C,J},λb hb=>?_}
  . show (m4.2 b λz=>hb (by simp[z])).trans (hk b o (λz=>hb (by simp[z])) (λz=>hb (by simp[z])) q)
  . show{{Ad,_,hT2,0},[.int i tk,y],.cons {1} (.cons ru .nil),{_,hT2,0,1}}
  . let:=he2;rwa [show ((i:Nat):Int)+1=((i+1:Nat):Int) by lia] at this
  . let{{o,ho,r},_}:=U;show{o,(m4.2 it (Ne.symm ne)).trans ho,r}
  . rcases za.mp hb with rfl | hb
    . rw[zi (zh elt)];show (hf _ (by simp)).1
    . let e2:b=it:=‹hb›
      subst e2;rw[zi (zh ilt)];show (hf _ (by simp)).1
 done:=by intro X hP hw hK hc i pins s σ H E I hf st hg;subst hP hw hK;let{{old,he},hit,ne,C,J}:=st;let{xs,hq,hx}:=hg;let{its,rv,p,hz}:=I.tuple hq;let{f0,f1,f2,f3,f4,f5}:=hf it (by simp);let hl:=rv.length;unfold pyNext;let hT:s.TypeIs (.ref e) "enumerate" := {_,he,0};show zA (FJ (Ea (name:=Str.ofString "__next__") hT PySem.F.slot_enumerate_next (CK PySem.F.slot_enumerate_next hT PySem.F.entry_enumerate_next ?_ (PySem.F.args_enumerate_next_1 _))));change wpAny (model X.prog X.w) _ (field (.ref e) 2 >>= _) _ _ s;show zA (Cz he rfl (x:=.ref it) rfl ?_);show zA (SR (A:=X.A.in1) (I.ok.hd hc) hit p (by simp;lia) λh' z eb hz'=>?_);let{o,ho,oA}:=hz';show zA (Ey (T := "StopIteration") (b:=true) ⟨o,ho,oA⟩ isSubtype_stop (zG ?_));show{0,I.turned (t':=s.toks) (λb o hb e=>eb b o hb e) f0 f1 f3 f4 f5}
 self:=λ_ _ _ _ _ st h=>by let{{old,he},_}:=st;show wpAny_pyIter_enum he h
inductive YJ (K:AF)(R:It->Hp->Prop)(vs:List V)(H1:Hp):Prop
 | mk:∀a,(vs=[.ref a])->((∃xs,AB K H1 a xs))->(R (MY K a) H1)->YJ K R vs H1
def Jn (K:AF)(ta:TA):TI:=λσ H R=>ta σ H λo H1=>YJ K R o H1
def S1 {x1} (hg:Gl X "enumerate") (hm:X.mg "enumerate"=none) (ha:PA X [a] ta)(hs:autoParam (starEach [a] X.env=[(false,eval a X.env)]) d_._auto_5):PI X (.Tuple elts x1 tp) (.Call (.Name "enumerate" p) [a] [] pos) (Jn X.K ta):=by
 intro pins s σ H R I h;show Call_ (ET I hg hm boot_enumerate (PyProof.Rows.callWith_type1 (AI (ha pos pins s σ H _ I h) λus s1 ⟨vs,H1,C,r1,q1⟩=>?_) hs rfl));let{l,e,{xs,hq},q}:=q1;subst e;let{u,0,rx}:=Co r1;ext rx;let{its,rv,U,hz}:=C.tuple hq;let J:l<↥s1:=by let{o,ho,_}:=id U;show zY ho
 show bN U λh' he hit hk=>?_;show wpAny_pyIter_enum he ?_;show{↥s1+1,[↥s1+1,↥s1],2,H1,0,C.kept (t':=s1.toks) hk,dB l _ _,{{_,he},hit,Nat.succ_ne_self _,zh J,zh (Fp J)},λb hb=>?_,q};rcases za.mp hb with rfl | hb
 . show C.fpOk (Bk _) (C.hok.fresh (Bk _))
 . let e2:b=↥s1:=‹hb›
   subst e2;show C.fpOk (zJ _) (C.hok.fresh (zJ _))
def TK {K:AF}(Pv:Nat->St->Hp->Prop)(h0:Pv 0 σ H)(C:∀i σ H,i<=xs.length->Pv i σ H->AB K H a xs)
 (J:∀i x σ H T,xs[i]?=some x->Pv i σ H->H T=none->g (.ref T) σ (upd H T (.tup [.int i,x])) λo H2=>tb { D with nx:=Pv (i+1),ct:=Pv (i+1),bk:=D.nx } o H2)(hd:∀ σ H,Pv xs.length σ H->D.nx σ H):JK (MY K a) g tb D σ H:=NU Pv h0 (λi σ H c p=>have q:=C i σ H (CI c) p;{{xs,xs[i],q,zB c},λx H' y=>by let{T,v,0,U,0,I}:=y;show J i v σ H T (I xs q) p U}) λσ H p=>{{xs,C _ σ H (zJ _) p,zJ _},hd σ H p}
def AA.turnedFp {fp:List Addr}(I:AA X pins σ H s)(hf:∀b∈fp,Ek X pins H b)(k:∀b u,b∉fp->s.heap.get? b=some u->h'.get? b=some u):AA X pins σ H { s with heap:=h',toks:=t' }:=by
 let C:∀b u,H b=some u->b∉fp:=λb u e z=>by rw[(hf b z).1] at e;ext e
 show I.step (g':=s.gens) (d':=s.drawn) (ch:=fp) (λb hb=>?_) (λb u _ _ o e _=>k b u o e) (λb u _ _ o e _=>{u.slots,k b u o e}) (λ_ _ _ _ n=>n) (λb u o e=>{u,k b u o e})
  (λ_ _ e=>e) (λ_ _ _ e=>e) (λb ps e=>{#[],by rw[e];simp}) (λm hm=>?_) (λb u e=>?_) I.bare
 . let{f0,f1,f2,f3,f4,U}:=hf b hb;show⟨f3,f1,f4,U⟩
 . let{u,es,ep,J,r}:=hm;show{u,es,ep,k _ u (λz=>(hf _ z).2.1 rfl) J,r}
 . show (I.hok b u e).stay (λc v o q=>k c v ?_ q) (λ_ q=>q) λ_ _ q=>q;rcases o with z | z
   . rw[z];show C b u e
   . show C c _ z
structure VF (zp tI tO i1 i2:Addr)(fp1 fp2:List Addr):Prop where
 zTI:tI≠zp
 zTO:tO≠zp
 z1:i1≠zp
 z2:i2≠zp
 IO:tI≠tO
 I1:tI≠i1
 I2:tI≠i2
 O1:tO≠i1
 O2:tO≠i2
 i12:i1≠i2
 a1:zp∉fp1/\tO∉fp1/\i2∉fp1
 a2:zp∉fp2/\tO∉fp2/\i1∉fp2
def bw {Q:BP}(D1:Draws prog w A i1 fp1 n1 P1 St1)(D2:Draws prog w A i2 fp2 n2 P2 St2)(Z:VF zp tI tO i1 i2 fp1 fp2)
 (gz:IsZip s.heap zp tI tO .none)(gI:IsPair s.heap tI (.ref i1) (.ref i2))(gO:IsPair s.heap tO a b)(s1:St1 k s.heap)(s2:St2 k s.heap)(l1:k<n1)(l2:k<n2)
 (qd:∀x y h' tk,P1 k x->P2 k y->IsZip h' zp tI tO (rawInt ↥s)->IsPair h' tO x y->St1 (k+1) h'->St2 (k+1) h'->IsPair h' ↥s x y->h'.objs.size=↥s+1 ->
  (∀c o,c≠zp->c≠tO->c≠i1->c≠i2->s.heap.get? c=some o->h'.get? c=some o)->Q (.ref ↥s) { s with heap:=h',toks:=tk }):
 wpAny ∅ A (Builtin.«zip.__next__» {[.ref zp],[]}) (λfin s'=>∃v,fin=.done (.ret v)/\Q v s') E s:=by
 let{hp,g,d,tk₀,os}:=s;change wpAny _ _ (field (.ref zp) 2 >>= _) _ _ _;show zA (Cz gz rfl (x:=.bool false) rfl ?_);change wpAny _ _ (field (.ref zp) 3 >>= _) _ _ _;show zA (Cz gz rfl (x:=.ref tI) rfl (zA (Cw gI rfl ?_)));change wpAny _ _ (Builtin.SmallTypes.ownedTupleIsFree (.ref zp) >>= _) _ _ _;unfold Builtin.SmallTypes.ownedTupleIsFree;show zA (zA (Cz gz rfl (x:=.none) rfl (zG ?_)));simp only[if_true];show zA (Bl (zA (Cz gz rfl (x:=.ref tO) rfl (zA (wpAny_setField_rec gz (by simp) λJ z₁ e₁=>?_)))));replace z₁:IsZip J zp tI tO .ellipsis:=z₁;replace e₁:Heap.SameBut zp hp J:=e₁;show zA ?_;simp only[List.zipIdx_cons,List.zipIdx_nil,List.forIn_cons,List.forIn_nil];let t1:St1 k J:=D1.frame k hp J s1 λb hb o e=>e₁.extBut _ _ (λx=>Z.a1.1 (x ▸ hb)) e;let t2:St2 k J:=D2.frame k hp J s2 λb hb o e=>e₁.extBut _ _ (λx=>Z.a2.1 (x ▸ hb)) e;show zA (zA (wpAny_onRaise ?_));change wpAny _ _ (Builtin.SmallTypes.nextOf (.ref i1) >>= _) _ _ _;show zA (D1.item k _ _ _ l1 t1 λx h₂ tk₂ p1 u1 e₂=>zG ?_);replace e₂:Heap.SameBut i1 J h₂:=e₂;let hO₂:IsPair h₂ tO a b:=e₂.extBut _ _ Z.O1 (e₁.extBut _ _ Z.zTO gO);show zA (Cw hO₂ rfl (zA (wpAny_updateSeq_pair hO₂ λI hO₃ e₃=>?_)));replace hO₃:IsPair I tO x b:=hO₃;replace e₃:Heap.SameBut tO h₂ I:=e₃;show zA (wpAny_letGo (zG ?_));let u1₃:St1 (k+1) I:=D1.frame _ h₂ I u1 λb hb o e=>e₃.extBut _ _ (λx=>Z.a1.2.1 (x ▸ hb)) e;let t2₃:St2 k I:=D2.frame k J I t2 λb hb o e=>e₃.extBut _ _ (λx=>Z.a2.2.1 (x ▸ hb)) (e₂.extBut _ _ (λx=>Z.a2.2.2 (x ▸ hb)) e);show zA (zA (wpAny_onRaise ?_));change wpAny _ _ (Builtin.SmallTypes.nextOf (.ref i2) >>= _) _ _ _;show zA (D2.item k _ _ _ l2 t2₃ λy h₄ tk₄ p2 u2 e₄=>zG ?_);replace e₄:Heap.SameBut i2 I h₄:=e₄;let hO₄:IsPair h₄ tO x b:=e₄.extBut _ _ Z.O2 hO₃;show zA (Cw hO₄ rfl (zA (wpAny_updateSeq_pair hO₄ λC hO₅ e₅=>?_)));replace hO₅:IsPair C tO x y:=hO₅;replace e₅:Heap.SameBut tO h₄ C:=e₅;show zA (wpAny_letGo (zG (zG (zA (Cw hO₅ rfl (zA (wpAny_newTuple ?_)))))));let u1₅:St1 (k+1) C:=D1.frame _ I C u1₃ λb hb o e=>e₅.extBut _ _ (λx=>Z.a1.2.1 (x ▸ hb)) (e₄.extBut _ _ (λx=>Z.a1.2.2 (x ▸ hb)) e);let u2₅:St2 (k+1) C:=D2.frame _ h₄ C u2 λb hb o e=>e₅.extBut _ _ (λx=>Z.a2.2.1 (x ▸ hb)) e;let sz:C.objs.size=hp.objs.size:=by rw[e₅.1,e₄.1,e₃.1,e₂.1,e₁.1]
 let z₅:IsZip C zp tI tO .ellipsis:=e₅.extBut _ _ Z.zTO.symm (e₄.extBut _ _ Z.z2.symm (e₃.extBut _ _ Z.zTO.symm (e₂.extBut _ _ Z.z1.symm z₁)));let k₅:∀c o,c≠zp->c≠tO->c≠i1->c≠i2->hp.get? c=some o->C.get? c=some o:=λc o c1 c2 c3 c4 e=>e₅.extBut _ _ c2 (e₄.extBut _ _ c4 (e₃.extBut _ _ c2 (e₂.extBut _ _ c3 (e₁.extBut _ _ c1 e))));let zlt:zp<C.objs.size:=zY z₅;change wpAny _ _ (Builtin.SmallTypes.ownedTupleHandOut (.ref zp) (.ref C.objs.size) >>= _) _ _ _;unfold Builtin.SmallTypes.ownedTupleHandOut;let z₆:IsZip (C.push { cls:=.type "tuple",data:=.seq #[x,y] }) zp tI tO .ellipsis:=zL _ z₅;show zA (zA (wpAny_setField_rec z₆ (by simp) λh₇ z₇ e₇=>?_));replace z₇:IsZip h₇ zp tI tO (rawInt C.objs.size):=z₇;show wpAny_setField_rec z₇ (by simp) λU z₈ e₈=>?_;replace z₈:IsZip U zp tI tO (rawInt C.objs.size):=z₈;let up:∀c o,c≠zp->C.get? c=some o->U.get? c=some o:=λc o c1 e=>e₈.extBut _ _ c1 (e₇.extBut _ _ c1 (zL _ e));let hT₈:IsPair U C.objs.size x y:=e₈.extBut _ _ (Bg zlt) (e₇.extBut _ _ (Bg zlt) (zR _ rfl));let sz8:U.objs.size=C.objs.size+1:=by rw[e₈.1,e₇.1,Bz]
 rw[sz] at z₈ hT₈ sz8;show zG {1,?_};change Q (.ref C.objs.size) _;rw[sz];show qd x y U tk₄ p1 p2 z₈ (up _ _ Z.zTO hO₅) (D1.frame _ C U u1₅ λb hb o e=>up b o (λx=>Z.a1.1 (x ▸ hb)) e) (D2.frame _ C U u2₅ λb hb o e=>up b o (λx=>Z.a2.1 (x ▸ hb)) e) hT₈ sz8 λc o c1 c2 c3 c4 e=>up c o c1 (k₅ c o c1 c2 c3 c4 e)
def cN {St:Heap->Prop}(fr:∀h h',St h->(∀b∈fp1,∀o,h.get? b=some o->h'.get? b=some o)->St h')
 (dn:∀s Q E,St s.heap->(∀h' e,Heap.ExtBut i1 s.heap h'->(∃o,h'.get? e=some o/\o.cls=.type "StopIteration")->E (.ref e) { s with heap:=h' })->wpAny ∅ A (Builtin.SmallTypes.nextOf (.ref i1)) Q E s) (Z:VF zp tI tO i1 i2 fp1 fp2)
 (gz:IsZip s.heap zp tI tO .none)(gI:IsPair s.heap tI (.ref i1) (.ref i2))(gO:IsPair s.heap tO a b)(s1:St s.heap)
 (qe:∀h' e,(∀c o,c≠zp->c≠i1->s.heap.get? c=some o->h'.get? c=some o)->(∃o,h'.get? e=some o/\o.cls=.type "StopIteration")->E (.ref e) { s with heap:=h' }):
 wpAny ∅ A (Builtin.«zip.__next__» {[.ref zp],[]}) Q E s:=by
 let{hp,g,d,tk₀,os}:=s;change wpAny _ _ (field (.ref zp) 2 >>= _) _ _ _;show zA (Cz gz rfl (x:=.bool false) rfl ?_);change wpAny _ _ (field (.ref zp) 3 >>= _) _ _ _;show zA (Cz gz rfl (x:=.ref tI) rfl (zA (Cw gI rfl ?_)));change wpAny _ _ (Builtin.SmallTypes.ownedTupleIsFree (.ref zp) >>= _) _ _ _;unfold Builtin.SmallTypes.ownedTupleIsFree;show zA (zA (Cz gz rfl (x:=.none) rfl (zG ?_)));simp only[if_true];show zA (Bl (zA (Cz gz rfl (x:=.ref tO) rfl (zA (wpAny_setField_rec gz (by simp) λC U J=>?_)))));replace U:IsZip C zp tI tO .ellipsis:=U;replace J:Heap.SameBut zp hp C:=J;show zA ?_;simp only[List.zipIdx_cons,List.zipIdx_nil,List.forIn_cons,List.forIn_nil];show zA (zA (wpAny_onRaise ?_));change wpAny _ _ (Builtin.SmallTypes.nextOf (.ref i1) >>= _) _ _ _;show zA (dn _ _ _ (fr hp C s1 λb hb o e=>J.extBut _ _ (λx=>Z.a1.1 (x ▸ hb)) e) λh₂ e I he=>?_);replace I:Heap.ExtBut i1 C h₂:=I;let{oe,hoe,hce}:=he;let z₂:IsZip h₂ zp tI tO .ellipsis:=I _ _ Z.z1.symm U;let ne:e≠zp:=λx=>by subst x;rw[z₂] at hoe;ext hoe;simp at hce
 show wpAny_setField_rec z₂ (by simp) λh₃ _ e₃=>qe h₃ e (λc o c1 c3 x=>e₃.extBut _ _ c1 (I _ _ c3 (J.extBut _ _ c1 x))) {oe,e₃.extBut _ _ ne hoe,hce}
meta abbrev RJ (h:Heap)(l1:Addr):Heap:=h.push { cls:=.type "tuple_iterator",data:=.fields #[.ref l1,.int 0 0] }
meta abbrev Qk (h:Heap)(l1 l2:Addr):Heap:=(RJ h l1).push { cls:=.type "tuple_iterator",data:=.fields #[.ref l2,.int 0 0] }
meta abbrev QV (h:Heap)(l1 l2:Addr):Heap:=(Qk h l1 l2).push { cls:=.type "tuple",data:=.seq #[.ref h.objs.size,.ref (RJ h l1).objs.size] }
meta abbrev Qp (h:Heap)(l1 l2:Addr):Heap:=(QV h l1 l2).push { cls:=.type "tuple",data:=.seq #[.none,.none] }
meta abbrev Ms (h:Heap)(l1 l2:Addr):Heap:=(Qp h l1 l2).push { cls:=.type "zip",data:=.fields #[.none,.bool false,.bool false,.ref (Qk h l1 l2).objs.size,.ref (QV h l1 l2).objs.size] }
def gf (l1 l2)(xs ys):Meets (Builtin.«zip.__new__» {[.type "zip",.ref l1,.ref l2],[]}) (λ_ R s=>s.heap.IsTuple l1 xs/\s.heap.IsTuple l2 ys/\R (.ok (.ret (.ref (Qp s.heap l1 l2).objs.size))) { s with heap:=Ms s.heap l1 l2 }):=by
 show .of_wp λprog w A R s U=>?_;let{I,g,d,C,os}:=s;let{h1,h2,hR}:=U;let su:=sub_zip;let t1:Heap.IsTuple (Shared.heap ⟨I,g,d,C,os⟩) l1 xs:=h1;let J:Heap.IsTuple (Shared.heap {I.push { cls:=.type "tuple_iterator",data:=.fields #[.ref l1,.int 0 0] },g,d,C,os}) l2 ys:=by let{o,ho,r}:=h2;show{o,zL _ ho,r}
 wp_walk using wpAny_pyIter_tuple t1,wpAny_pyIter_tuple J
 show{1,hR}
def jB (h1:s.heap.IsTuple l1 xs)(h2:s.heap.IsTuple l2 ys)
 (h:∀h',IsZip h' (↥s+4) (↥s+2) (↥s+3) .none->IsPair h' (↥s+2) (.ref ↥s) (.ref (↥s+1))->IsPair h' (↥s+3) .none .none ->
  h'.IsTupleIter ↥s l1 0->h'.IsTupleIter (↥s+1) l2 0->(∀c o,s.heap.get? c=some o->h'.get? c=some o)->Q (.ref (↥s+4)) { s with heap:=h' }):
 wpAny ∅ A (call (.type "zip") [.ref l1,.ref l2]) Q E s:=by
 show callType_new PySem.F.called_zip (by decide) (PySem.F.typeCall_zip_2 _ _) (PySem.F.newCall_zip_2 _ _) (λobj=>PySem.F.args_object_init_3 obj _ _) PySem.F.entry_zip_new (gf l1 l2 xs ys) {h1,h2,?_};let J:(RJ s.heap l1).objs.size=↥s+1:=Bz ..;let I:(Qk s.heap l1 l2).objs.size=↥s+2:=by rw[Bz,J]
 let C:(QV s.heap l1 l2).objs.size=↥s+3:=by rw[Bz,I]
 let z4:(Qp s.heap l1 l2).objs.size=↥s+4:=by rw[Bz,C]
 let up:∀{h:Heap}{c:Addr}{o o':Obj},h.get? c=some o->(h.push o').get? c=some o:=λe=>zL _ e;let U:(Ms s.heap l1 l2).get? (Qp s.heap l1 l2).objs.size=some _:=zR _ rfl;let g4:(Ms s.heap l1 l2).get? (QV s.heap l1 l2).objs.size=some _:=up (zR _ rfl);let g3:(Ms s.heap l1 l2).get? (Qk s.heap l1 l2).objs.size=some _:=up (up (zR _ rfl));let g2:(Ms s.heap l1 l2).get? (RJ s.heap l1).objs.size=some _:=up (up (up (zR _ rfl)));let g1:(Ms s.heap l1 l2).get? ↥s=some _:=up (up (up (up (zR _ rfl))));change _/\_;rw[I,C,z4] at U;rw[J,I] at g3;rw[C] at g4;rw[J] at g2;rw[z4];show{{_,U,0},h _ U g3 g4 {_,g1,3} {_,g2,3} λc o x=>up (up (up (up (up x))))}
meta def KO (K:AF)(a b:Addr):It:=
 {λi H=>∃xs o x y,AB K H a xs/\AB K H b o/\xs[i]?=some x/\o[i]?=some y,λi H x H'=>∃T u v,x=.ref T/\H T=none/\H'=upd H T (.tup [u,v])/\(∀xs,AB K H a xs->xs[i]?=some u)/\∀o,AB K H b o->o[i]?=some v,λi H=>∃xs,AB K H a xs/\xs.length<=i}
def Wa (C:i1<i2)(h2:i2<tI)(h3:tI<tO)(U:tO<I)(ha:a<i1)(hb:b<i1):VF I tI tO i1 i2 [i1,a] [i2,b]:=by
 let t1:=Cb C h2;let t2:=Cb h2 h3;let t3:=Cb h3 U;let o:=Cb t1 h3;let t5:=Cb t2 U;let J:=Cb o U;let nm:∀{x y I:Addr},x≠y->x≠I->x∉[y,I]:=λp q h=>by
  rcases za.mp h with e | e
  . show p e
  . show q (zm.mp e)
 show{zh t3,zh U,zh J,zh t5,zh h3,Bg t1,Bg h2,Bg o,Bg t2,zh C,
  {nm (Bg J) (Bg (Cb ha J)),nm (Bg o) (Bg (Cb ha o)),nm (Bg C) (Bg (Cb ha C))},
  {nm (Bg t5) (Bg (Cb hb J)),nm (Bg t2) (Bg (Cb hb o)),nm (zh C) (Bg hb)}}
def dj {P:Program}{w:World}{K:AF}{elts:List Expr} {x1} {tp:Pos}(a b C tI tO J i2:Addr)(o1:J<i2)(o2:i2<tI)(o3:tI<tO)(o4:tO<C)(oa:a<J)(ob:b<J):
 EH P w K (.Tuple elts x1 tp) (KO K a b) [C,tI,tO,J,i2] C (λi h=>IsZip h C tI tO .none/\IsPair h tI (.ref J) (.ref i2)/\(∃u v,IsPair h tO u v)/\h.IsTupleIter J a i/\h.IsTupleIter i2 b i) where
 mem:=by simp
 obj:=λi h st c U=>by
  let{gz,hI,{u,v,hO},{p1,e1,c1,d1},{p2,e2,c2,d2}}:=st;simp only[za,FD,or_false] at U;rcases U with rfl | rfl | rfl | rfl | rfl
  . show{_,gz,λv C=>by ext C}
  . show{_,hI,λv C=>by ext C}
  . show{_,hO,λv C=>by ext C}
  . show{p1,e1,λv C=>by rw[d1] at C;ext C}
  . show{p2,e2,λv C=>by rw[d2] at C;ext C}
 keep:=λi h h' st k=>by let{gz,hI,{u,v,hO},{p1,e1,r1},{p2,e2,r2}}:=st;show{k C (by simp) _ gz,k tI (by simp) _ hI,{u,v,k tO (by simp) _ hO},{p1,k J (by simp) _ e1,r1},{p2,k i2 (by simp) _ e2,r2}}
 item:=by
  intro X hP hw hK U i pins s σ H E I hf st hg;subst hP hw hK;let{gz,hI,{u0,v0,hO},h1,h2}:=st;let{xs,ys,x,y,hq1,lJ,hx,hy}:=hg;let{its1,rv1,p1,hz1}:=I.tuple hq1;let{j7,rv2,p2,hz2}:=I.tuple lJ;let{u1,m3,ru1}:=rv1.get hx;let{u2,hu2,ru2}:=rv2.get hy;let zlt:C<↥s:=zY gz;let Z:=Wa o1 o2 o3 o4 oa ob;let lt1:i<its1.toArray.size:=by simpa using (zE.mp m3).1
  let lt2:i<j7.toArray.size:=by simpa using (zE.mp hu2).1
  let hT:s.TypeIs (.ref C) "zip" := {_,gz,0};unfold pyNext;show zA (FJ (Ea (name:=Str.ofString "__next__") hT PySem.F.slot_zip_next (CK PySem.F.slot_zip_next hT PySem.F.entry_zip_next
   (bw (SU (A:=X.A.in1) (I.ok.hd U) J a (zh oa) its1.toArray) (SU (A:=X.A.in1) (I.ok.hd U) i2 b (zh (Cb ob o1)) j7.toArray) Z gz hI hO ⟨h1,p1⟩ ⟨h2,p2⟩ lt1 lt2 λy1 y2 h' tk hy1 hy2 z' hO' s1' s2' hT' hsz hk=>zG ?_) (PySem.F.args_zip_next_1 _))))
  obtain rfl:y1=u1:=by
   let h1:its1[i]?=some y1:=‹hy1›
   rw[m3] at h1;show (zZ h1).symm
  obtain rfl:y2=u2:=by
   let h1:j7[i]?=some y2:=‹hy2›
   rw[hu2] at h1;show (zZ h1).symm
  show{1,wpAny_letOwnedTupleGo_zip z' λh2' z2 e2=>?_};let hT2:IsPair h2' ↥s y1 y2:=e2.extBut _ _ (Bg zlt) hT';let fpl:∀c∈[C,tI,tO,J,i2],c<↥s:=λc U=>by
   simp only[za,FD,or_false] at U;let t1:=Cb o4 zlt;let t2:=Cb o3 t1;let t3:=Cb o2 t2;rcases U with rfl | rfl | rfl | rfl | rfl
   . show zlt
   . show t2
   . show t1
   . show Cb o1 t3
   . show t3
  show{.ref ↥s,upd H ↥s (.tup [x,y]),I.turnedLaid (t':=tk) (fp:=[C,tI,tO,J,i2]) hf (λc o hb q=>?_) (zJ _) ?_,0,{_,x,y,0,I.hok.fresh (zJ _),0,λzs my=>by rwa[I.tuple_inj my hq1],λzs my=>by rwa[I.tuple_inj my lJ]},{z2,?_,{2,e2.extBut _ _ Z.zTO hO'},?_,?_},λc U=>?_}
  . show e2.extBut _ _ (λw=>hb (by simp[w])) (hk c o (λw=>hb (by simp[w])) (λw=>hb (by simp[w])) (λw=>hb (by simp[w])) (λw=>hb (by simp[w])) q)
  . show{{Ad,_,hT2,0},[y1,y2],.cons ru1 (.cons ru2 .nil),{_,hT2,0,1}}
  . show e2.extBut _ _ Z.zTI (hk _ _ Z.zTI Z.IO Z.I1 Z.I2 hI)
  . let{{o,ho,r},_}:=s1';show{o,e2.extBut _ _ Z.z1 ho,r}
  . let{{o,ho,r},_}:=s2';show{o,e2.extBut _ _ Z.z2 ho,r}
  . rw[zi (zh (fpl c U))];show (hf _ U).1
 done:=by
  intro X hP hw hK U i pins s σ H E I hf st hg;subst hP hw hK;let{gz,hI,{u0,v0,hO},h1,h2}:=st;let{xs,hq,hx}:=hg;let{its,rv,p,_}:=I.tuple hq;let hl:=rv.length;let Z:=Wa o1 o2 o3 o4 oa ob;let hT:s.TypeIs (.ref C) "zip" := {_,gz,0};let f1:=hf C (by simp);let f2:=hf J (by simp);unfold pyNext;show zA (FJ (Ea (name:=Str.ofString "__next__") hT PySem.F.slot_zip_next (CK PySem.F.slot_zip_next hT PySem.F.entry_zip_next
   (cN (A:=X.A.in1) (St:=λh=>h.IsTupleIter J a i/\h.IsTuple a its.toArray) (λh h' st k=>by let{{o,ho,r},o2,kr,r2}:=st;show{{o,k J (by simp) o ho,r},o2,k a (by simp) o2 kr,r2}) (λs Q E st qe=>SR (I.ok.hd U) st.1 st.2 (by simp;lia) qe) Z gz hI hO ⟨h1,p⟩ λh' e hk he=>?_) (PySem.F.args_zip_next_1 _))))
  let{o,ho,oA}:=he;show zA (Ey (T := "StopIteration") (b:=true) ⟨o,ho,oA⟩ isSubtype_stop (zG ?_));show{0,I.turnedFp (t':=s.toks) (fp:=[C,tI,tO,J,i2]) hf λc u hb q=>hk c u (λw=>hb (by simp[w])) (λw=>hb (by simp[w])) q}
 self:=λ_ _ _ _ _ st h=>wpAny_pyIter_zip st.1 h
inductive ZP (K:AF)(R:It->Hp->Prop)(vs:List V)(H1:Hp):Prop
 | mk:∀a b,(vs=[.ref a,.ref b])->((∃xs,AB K H1 a xs))->((∃ys,AB K H1 b ys))->(R (KO K a b) H1)->ZP K R vs H1
def QN (K:AF)(ta:TA):TI:=λσ H R=>ta σ H λo H1=>ZP K R o H1
def d9 {x1} (hg:Gl X "zip") (hm:X.mg "zip"=none) (ha:PA X [a,b] ta)(hs:autoParam (starEach [a,b] X.env=(false,eval a X.env)::starEach [b] X.env) d_._auto_5)(m4:autoParam ((backTo pos (starEach [b] X.env)).any (·.1)=false) d_._auto_5):PI X (.Tuple elts x1 tp) (.Call (.Name "zip" p) [a,b] [] pos) (QN X.K ta):=by
 intro pins s σ H R I h;show Call_ (ET I hg hm (by decide +kernel) (PyProof.Rows.callWith_type1 (T := "zip") (AI (ha pos pins s σ H _ I h) λus s1 ⟨vs,H1,C,r1,q1⟩=>?_) hs m4));let{l1,l2,e,{xs,hq1},{ys,lJ},q}:=q1;subst e;let{u1,u2,0,U,J}:=He r1;ext U;ext J;let{its1,_,p1,_}:=C.tuple hq1;let{j7,_,p2,_}:=C.tuple lJ;let ll1:l1<↥s1:=by let{o,ho,_}:=id p1;show zY ho
 let ll2:l2<↥s1:=by let{o,ho,_}:=id p2;show zY ho
 show jB p1 p2 λh' hz hI hO h1 h2 hk=>?_;show wpAny_pyIter_zip hz ?_;show{↥s1+4,[↥s1+4,↥s1+2,↥s1+3,↥s1,↥s1+1],2,H1,0,C.kept (t':=s1.toks) hk,
  dj l1 l2 _ _ _ _ _ (HQ _) (HQ _) (HQ _) (HQ _) ll1 ll2,{hz,hI,{2,hO},h1,h2},λb hb=>?_,q}
 let hle:↥s1<=b:=by
  simp only[za,FD,or_false] at hb;rcases hb with rfl | rfl | rfl | rfl | rfl
  . show Nat.le_add_right _ _
  . show Nat.le_add_right _ _
  . show Nat.le_add_right _ _
  . show zJ _
  . show Nat.le_add_right _ _
 show C.fpOk hle (C.hok.fresh hle)
def i5 {K:AF}(mT:xs.length=ys.length)(Pv:Nat->St->Hp->Prop)(h0:Pv 0 σ H)(C:∀i σ H,i<=xs.length->Pv i σ H->AB K H a xs/\AB K H b ys)
 (U:∀i x y σ H T,xs[i]?=some x->ys[i]?=some y->Pv i σ H->H T=none->g (.ref T) σ (upd H T (.tup [x,y])) λo H2=>tb { D with nx:=Pv (i+1),ct:=Pv (i+1),bk:=D.nx } o H2)(hd:∀ σ H,Pv xs.length σ H->D.nx σ H):JK (KO K a b) g tb D σ H:=NU Pv h0 (λi σ H c p=>have q:=C i σ H (CI c) p;{{xs,ys,xs[i],ys[i],q.1,q.2,zB c,zB ()},λx H' y=>by let{T,u,v,0,hT,0,J,I}:=y;show U i u v σ H T (J xs q.1) (I ys q.2) p hT}) λσ H p=>{{xs,(C _ σ H (zJ _) p).1,zJ _},hd σ H p}
def Av.there (x:Av P w H h a o):∃I,h.get? a=some I:=by
 cases o with
 | lst xs=>let{8,e}:=x;show{_,e}
 | tup xs=>let{{_,o2,J,_},_}:=x;show{_,J}
 | dK kvs=>let{8,o,2,e,_}:=x;show{_,e}
 | dT kvs=>let{8,o,2,e,_}:=x;show{_,e}
 | set S n=>let{o,_,2,e,_}:=x;show{_,e}
 | ins C dx fs=>let{_,2,e,_}:=x;show{_,e}
 | own y=>let{_,e}:=x;show{_,e}
 | xd fs=>let{_,{_,2,e,_},_}:=x;show{_,e}
 | rng lo hi=>let{_,2,e}:=x;show{_,e}
 | frz I u=>let{e,_}:=x;show{_,e}
 | tbl ps=>show⟨_,show h.get? a=some _ from x⟩
 | met f y=>show⟨_,show h.get? a=some _ from x⟩
 | ext U=>let{_,{_,e},_}:=x;show{_,e}
def Aq.stays {B:Heap}(x:Aq P w H h)(k:B.StaysIn h)(J:B.StaysIn h')(tr:∀b u,H b=some u->∃o,B.get? b=some o):Aq P w H h':=λa o e=>
 (x a o e).stay (λb u hb q=>by
  let:∃v,H b=some v:=by
   rcases hb with rfl | hb
   . show{_,e}
   . show{_,hb}
  let{v,U}:=this;let{C,I}:=tr b v U;let e2:C=u:=zZ ((k b C I).symm.trans q);show e2 ▸ J b C I) (λ_ q=>q) λ_ _ q=>q
meta abbrev NL:List Value:=[.type "ValueError",.type "Exception",.type "BaseException",.type "object"]
def Xd {K:AF}(X:K.In h)(q:PySem.W.excIn K C bmB newId=true):
 ∃bm N nm qn bs lZ sn sub ab col dd k0 k1 k2 k3 k5 U,h.get? C=some (excClassObj nm qn C N bs bm lZ sn sub ab col dd k0 k1 k2 k3 k5 newId)/\h.Ns N U/\U "__init__"=none/\OwnTail h bmB bm:=by
 unfold PySem.W.excIn at q;split at q
 . next dd cd sl look=>
   split at q
   . next D bm k0 k1 k2 k3 n k5 em es=>
     simp only[Bw,beq_iff_eq,Bool.not_eq_true'] at q;let{{{{{q1,q2},J},q4},o},I}:=q;subst q1 q2;ext cd;simp only at em J o I;subst em J;ext sl;simp only at es;subst es;show{_,8,8,8,8,X _ _ look,.of_isNs (PySem.W.isNs_of_in X o),PySem.W.nsMap_none_of_in X o I,PySem.W.tail_of_in X q4}
   . ext q
 . ext q
def br (I:AA X pins σ H s)(hN:X.N.Nodup)(hi:X.N[i]?=some x)(hk:X.env.kindOf x=some .local)(hv:σ[i]?=some (some v))
 (h:∀s',AA X pins (σ.set i none) H s'->Q Unit.unit s'):wpAny M A (unbindName X.env x) Q E s:=by
 let{m,hn,hl}:=id I.loc;let n9:(X.env.scope.kind == .class || (X.env.scope.kind == .module && X.env.locals != X.env.globals))=false:=by rw[I.ok.kind];rfl
 let nN:X.env.scope.names.lookup x=some .local:=hk;let{u,_,lk}:=hl i x v hi hv (.inl nN);let hm:m x=some u:=by
  rcases lk with ⟨_,e⟩ | ⟨q,_⟩
  . show e
  . rcases q with q | q <;> (rw[hk] at q;ext q)
 let{oL,2,lV,_}:=id hn;let C:∀b o,X.s₀.heap.get? b=some o->b≠X.env.locals:=λb o e=>zh (zo (zY e) I.ok.above);show wpAny_unbindName_local hk hn hm n9 λh' uu m5 J=>h _ {I.ok,I.os,I.bare,{λb o e n hb hx=>(J.2 b (C b o e)).trans (I.base.keep b o e n hb hx),λb o e n hb hx=>?_,I.base.free,λb o e hx=>?_,I.base.tups,I.base.frzs,I.base.tbls},{_,m5,λj y v' U e2 e3=>?_},λy c e=>?_,I.free,I.freeC,λp hp=>?_,λb ob e=>?_,‹I.len›}
 . let{sl,U}:=I.base.slot b o e n hb hx;show{sl,(J.2 b (C b o e)).trans U}
 . let{o',U}:=I.base.there b o e hx;show{o',(J.2 b (C b o e)).trans U}
 . let hj:j≠i:=λz=>by subst z;let:j<σ.length:=(zE.mp hv).1;rw[JL this] at e2;ext e2
   rw[M8 (Ne.symm hj)] at e2;let{u',r',q}:=hl j y v' U e2 e3;show{u',r',?_};rcases q with ⟨k,e⟩ | ⟨k,c,e,z⟩
   . let ny:y≠x:=λe=>hj (Sd hN U (e ▸ hi));show .inl {k,by simp[ny,e]}
   . show .inr {k,c,e,z.sameBut J (I.cne y c e)}
 . let{w',z}:=I.cell y c e;show{w',z.sameBut J (I.cne y c e)}
 . let{e,n,ne,nf,d}:=I.pin p hp;show{(J.2 p.1 ne).trans e,n,ne,nf,d}
 . show (I.hok b ob e).stay (λc w' hc q=>(J.2 c ?_).trans q) (λ_ q=>q) λ_ _ q=>q;rintro rfl;rcases hc with rfl | hc
   . rw[I.free] at e;ext e
   . rw[I.free] at hc;ext hc
def iC {M:Model}{A:Around}{E:BP}{s:Shared}{nm qn nm' qn':Str}{C W Nn Nn':Addr}{bs bm bs' J:List Value}{lZ I:Bool}{sn sn':List Str}{sub U:List Value}{ab ab':Bool}{col col':Option Bool}{dd dd':Option Addr}
 {k0 k1 k2 k3 k5 k0' k1' k2' k3' k5':Option Value}{newId o:String}{e:Addr}{oe:Obj}{Q:Bool->Shared->Prop}
 (hC:s.heap.get? C=some (excClassObj nm qn C Nn bs bm lZ sn sub ab col dd k0 k1 k2 k3 k5 newId))(hW:s.heap.get? W=some (excClassObj nm' qn' W Nn' bs' J I sn' U ab' col' dd' k0' k1' k2' k3' k5' o))
 (he:s.heap.get? e=some oe)(n9:oe.cls=.ref C)(hb:J.contains (.type "BaseException")=true) (hs:(Value.ref C::bm).contains (.ref W)=true)(hq:Q true s):wpAny M A (excMatches (.ref e) (.ref W)) Q E s:=by
 let{h,g,d,t,os}:=s;let hWB:(Value.ref W::J).contains (.type "BaseException")=true:=by rw[List.contains_cons,hb,Bool.or_true]
 let f:=tc_notTuple;unfold excMatches
 repeat (first | (with_reducible show Dv he ?_;rw[n9]) | with_reducible show Dv hW ?_ | (with_reducible show wpAny_isSubtype_exc hW ?_;rw[hWB]) | (with_reducible show wpAny_isSubtype_exc hC ?_;rw[hs]) | wp_step)
 show hq
meta def subIn (K:AF)(C W:Addr):Bool:=match K.lookup C with
 | some {2,.cls cd,_}=>cd.mro.contains (.ref W)
 | _=>false
def MP {K:AF}
 (X:K.In h)(q:subIn K C W=true)(o:h.get? C=some (excClassObj nm qn C Nn bs bm lZ sn sub ab col dd k0 k1 k2 k3 k5 newId)):(Value.ref C::bm).contains (.ref W)=true:=by
 unfold subIn at q;split at q
 . next look=>
   let e:=(X _ _ look).symm.trans o;unfold excClassObj at e;ext e;show q
 . ext q
meta def Cx.held (X:Cx)(ea:Addr)(oe:Obj):Cx:={ X with A:=X.A.mark ⇑ea,calm:=false,pn:=(ea,oe)::X.pn,xe:=λ_ _=>False }
def AA.hold (I:AA X pins σ H s)(h1:s.heap.get? ea=some oe)(U:H ea=none)(J:ea≠X.env.locals)(C:ea∉X.fs)(o:∀v,oe.data ≠ .cell v):AA (X.held ea oe) pins σ H s:=
 {{I.ok.mod,I.ok.kind,I.ok.glob,I.ok.blt,I.ok.above,I.ok.inj,I.ok.has,I.ok.cab,(λz=>by ext z),I.ok.frames,I.ok.stk,I.ok.exf,I.ok.bs,I.ok.bsz,I.ok.noex,I.ok.exfs,I.ok.funs,I.ok.frf},I.os,I.bare,I.base,I.loc,I.cell,I.free,I.freeC,
  λp hp=>by
   rcases za.mp (show p∈(ea,oe)::(X.pn++pins) from hp) with rfl | hp
   . show⟨h1,U,J,C,o⟩
   . show I.pin p hp,I.hok,I.len}
def AA.letgo (ok:X.Ok)(I:AA (X.held ea oe) pins σ H s):AA X pins σ H s:=
 {ok,I.os,I.bare,I.base,I.loc,I.cell,I.free,I.freeC,λp o=>I.pin p (zd _ o),I.hok,I.len}
def b8 {st:List Env}{s1 s':Shared}(un:Un (A7 st) [] H1 H' s1.heap s'.heap)(fl:Heap.FlyingW B st ea C a0 s'.heap)
 (old:∀b o,s1.heap.get? b=some o->H1 b=none->b∉A7 st->B.get? b=some o)(al:∀b o,s1.heap.get? b=some o->b∉A7 st->∃o',B.get? b=some o')(J:B.StaysIn h5)(up:s'.heap.UpToSlots h5):Un (A7 st) [] H1 H' s1.heap h5:=by
 show{λb o e n hb _=>J b o (old b o e n hb),λb o e n hb _=>?_,un.free,λb o e _=>?_,un.tups,un.frzs,un.tbls}
 . let{mj,e2}:=un.slot b o e n hb (by intro z;ext z);let{_,o3,I,nd}:=fl.2.2.1.mem hb;let{U,e4}:=up b _ I nd;let e5:=zZ (I.symm.trans e2);rw[e5] at e4;show⟨U,e4⟩
 . by_cases hb:b∈A7 st
   . let{_,o3,I,nd}:=fl.2.2.1.mem hb;let{U,e4}:=up b _ I nd;show{_,e4}
   . let{o3,I}:=al b o e hb;show{_,J b o3 I}
meta def Ia (i:Nat)(D:DC):DC:={ D with nx:=λσ H=>D.nx (σ.set i none) H,bk:=λσ H=>D.bk (σ.set i none) H,ct:=λσ H=>D.ct (σ.set i none) H }
end L2
namespace L2
open PySem PySem.Spec PySem.W PyProof.Rows Builtin Builtin.ObjectAttr Builtin.Getset_descriptor
section
variable {prog:Program}{w:World}{A:Around}{E:BP}{s:Shared}{K:Frag}{x C:Addr}{ox:Obj}
structure DX (K:Frag)(C:Addr):Prop where
 ga:findIn K (.ref C) "__getattribute__"=some (some (.builtin "BaseException.__getattribute__"))
 gn:findIn K (.ref C) "__getattr__"=some none
 cl:findIn K (.ref C) "__class__"=some (some (.builtin "object.__class__"))
 mo:mroIn K C (.type "object")=some true
 mb:mroIn K C (.type "BaseException")=some true
 ci:(clsIn K C).isSome=true
inductive V6 (h:Heap)(x:Addr)(C:Addr):Prop
 | mk:∀o,(h.get? x=some o)->(o.cls=.ref C)->V6 h x C
def Dp (h:Heap)(x C:Addr):Prop:=V6 h x C
def Dp.type (I:Dp h x C):Looks M h (typeOf (.ref x)) (.ref C):=by let{o,e,c}:=I;rw[<-c];show (Looks.ld e).andThen .now
def cO (X:K.In s.heap)(I:Dp s.heap x C)(hm:mroIn K C (.type "object")=some true) (h:R (.ok (.ret (.ref C))) s):
 codeAny ∅ A (.call (.builtin "getset_descriptor.__get__") {[.builtin "object.__class__",.ref x,tp],[]}) R s:=by
 let{h0,o,J,t0,o0}:=s;let T0:=I.type (M:=model prog w);let U:=looks_mroIn (M:=model prog w) X hm;show codeAny_call_builtin KF.slot_gs.plain KF.entry_gs (KF.slot_gs.check _ _ _ _ _ _ _ _ KF.type_class (KF.args_gs _ _ _) ?_);unfold Builtin.«getset_descriptor.__get__» descrGet;rw[dga_obj];apply zA;apply zG;unfold descrGetter descrCheckInstance descrNameAndClass isInstance;simp only[KF.owner_class]
 repeat lk
 show{Code.quiet_builtin _ (by decide +kernel),codeAny_builtin KF.entry_class (?_:wpAny _ _ _ _ _ _)};unfold Builtin.«object.__class__»;unfold shownTypeOf
 repeat lk
 show h
def i7 (X:K.In s.heap)(I:Dp s.heap x C)(o:DX K C)(hq:Q (.done (.ret (.ref C))) s):
 wpAny ∅ A (Builtin.«object.__getattribute__» {[.ref x,.str "__class__" tk],[]}) Q E s:=by
 let{h,g,d,t,os}:=s;let L0:=I.type (M:=model prog w);let U:=looks_findIn (M:=model prog w) X o.cl;let J:(⟨h,g,d,t,os⟩:Shared).TypeIs (.builtin "object.__class__") "getset_descriptor" := F.typeOf_object_class;let f5:=F.typeOf_object_class;let f6:=F.slot_gs_get.lookup;let f7:=F.slot_gs_set.lookup
 repeat (any_goals (first | assumption | with_reducible show L0.at ?_ | with_reducible show U.at ?_ | wp_step))
 show cO (s:=⟨h,g,d,t,os⟩) X I o.mo ?_
 repeat (any_goals (first | assumption | wp_step))
def Zd (X:K.In s.heap)(I:Dp s.heap x C)(F':DX K C)(hq:Q Unit.unit s):wpAny M A (checkBuiltinCall "BaseException.__getattribute__" {[.ref x,nX],[]}) Q E s:=by
 let{h,g,d,t,os}:=s;let L0:=I.type (M:=M);let U:=looks_mroIn (M:=M) X F'.mb;let J:builtinKind "BaseException.__getattribute__"=some .slot:=by decide +kernel
 let o:splitId "BaseException.__getattribute__"=some ("BaseException", "__getattribute__"):=by decide +kernel
 let ha:=F.args_bexc_ga (.ref x) nX;simp only[checkBuiltinCall,J,o];show zA ?_;unfold isInstance
 repeat (any_goals (first | assumption | with_reducible show L0.at ?_ | with_reducible show U.at ?_ | wp_step))
def bW (X:K.In s.heap)(I:Dp s.heap x C)(o:DX K C)(J:R (.ok (.ret (.ref C))) s):
 codeAny ∅ A (.call (.builtin "BaseException.__getattribute__") {[.ref x,.str "__class__" tk],[]}) R s:=
 codeAny_call_builtin F.attrBase_ValueError.ga.plain F.entry_bexc_ga (Zd X I o (i7 X I o J))
def Jm {fill:Bool}(X:K.In s.heap)(I:Dp s.heap x C)(J:DX K C)(hq:Q (.ref C) s):wpAny ∅ A (getAttrBy (.ref x) (.str "__class__" tk) fill) Q E s:=by
 let{h,g,d,t,os}:=s;let L0:=I.type (M:=model prog w);let L1:=looks_findIn (M:=model prog w) X J.ga;let L2:=looks_findIn (M:=model prog w) X J.gn;let f3:=F.attrBase_ValueError.ga.bind (.ref x);let o:(Value.builtin "BaseException.__getattribute__" == Value.builtin "object.__getattribute__")=false:=by decide +kernel
 let U:(onTheHeap (Value.ref C) && Value.builtin "BaseException.__getattribute__" == Value.builtin "object.__getattribute__")=false:=by rw[o];rfl
 repeat (any_goals (first | assumption | with_reducible show L0.at ?_ | with_reducible show L1.at ?_ | with_reducible show L2.at ?_ | wp_step))
 show bW (s:=⟨h,g,d,t,os⟩) X I J ?_
 repeat (any_goals (first | assumption | wp_step))
def iV (X:K.In s.heap)(I:Dp s.heap x C)(o:DX K C)(J:Q ⇑C { s with toks:=s.toks+1 }):wpAny ∅ A (getAttr? (.ref x) "__class__") Q E s:=by
 let{h,g,d,t,os}:=s;unfold getAttr? getAttrBy?
 repeat (any_goals (first | assumption | with_reducible apply Jm (s:={h,g,d,t+1,os}) X I o | wp_step))
def P4 (h:(PySem.W.clsIn K C).isSome=true):∃c d u z,K.lookup C=some {c,d,.cls u,z}:=by
 unfold PySem.W.clsIn at h;cases e:K.lookup C with
 | none=>rw[e] at h;ext h
 | some o=>rw[e] at h;let{c,d,u,z}:=o;ext u <;> first | ext h;done | show{2,6}
def Sl (U:DX K C):KitX K (.ref x) (.ref C) (λh=>Dp h x C) where
 ty:=λ_ _ _ I=>I.type
 it:=λ_ _ X _=>by let{8,J}:=P4 U.ci;intro A' Q' E' s' k q;unfold isType loadHead;show zA (wpAny_loadPart (k _ _ (X _ _ J)) (zG q))
 ne:=λh tp dd its n sl X o=>by let{8,J}:=P4 U.ci;show Bool.eq_false_iff.mpr λq=>?_;let e:C=tp:=Value.ref.inj (beq_iff_eq.mp q);subst e;let z:=(X _ _ J).symm.trans o;ext z
 ca:=λX I k=>iV X I U k
end
structure NY (X:Cx)(ea C:Addr):Prop where
 pin:∃oe,(ea,oe)∈X.pn/\oe.cls=.ref C
section
variable {X:Cx}
def UA (h:NY X ea C)(I:AA X pins σ H s):Dp s.heap ea C:=by let{oe,o,J}:=h.pin;let{e,_}:=I.pin (ea,oe) (Cy _ o);show⟨oe,e,J⟩
def ir (hh:NY X ea C):Be X (.builtin "isinstance") (λxs H Q=>∃W b,DX X.K C/\xs=[.ref ea,.ref W]/\PySem.W.kitOne X.K (.ref C) (.ref W)=some b/\Q (.bl b) H):=by intro pins s σ H xs us Q I r h;let{W,b,F',0,e,q}:=h;let{u,o,0,rx,rT}:=He r;cases (show u=Value.ref ea from rx);cases (show o=Value.ref W from rT);let J:=UA hh I;show PySem.W.kia_one (Sl F') I.kIn J e (λz=>nomatch z) λU=>{.bl b,H,I.tok U,0,q}
def cy (hh:NY X ea C):Be X (.builtin "isinstance") (λxs H Q=>∃T b,DX X.K C/\xs=[.ref ea,.ty T]/\PySem.W.kitOne X.K (.ref C) (.type T)=some b/\Q (.bl b) H):=by intro pins s σ H xs us Q I r h;let{T,b,F',0,e,q}:=h;let{u,o,0,rx,rT}:=He r;cases (show u=Value.ref ea from rx);cases (show o=Value.type T from rT);let J:=UA hh I;show PySem.W.kia_one (Sl F') I.kIn J e (λz=>nomatch z) λU=>{.bl b,H,I.tok U,0,q}
def ZU (hh:NY X ea C):Be X (.builtin "isinstance") (λxs H Q=>∃(tp:Addr)(Ws:List Addr)(b:Bool),DX X.K C/\xs=[.ref ea,.ref tp]/\H tp=some (.tup (Ws.map V.ref))/\PySem.W.kitAny X.K (.ref C) (Ws.map Value.ref)=some b/\Q (.bl b) H):=by
 intro pins s σ H xs us Q I r h;let{tp,Ws,b,F',0,ht,e,q}:=h;let{u,U,0,rx,rT}:=He r;cases (show u=Value.ref ea from rx);cases (show U=Value.ref tp from rT);let J:=UA hh I;let{{z,o2,e2,d2},its,rv,ob,e3,o,n3,s3}:=(show Av X.prog X.w H s.heap tp (.tup (Ws.map V.ref)) from I.hok tp _ ht);let hits:its=Ws.map Value.ref:=by
  let:∀(Ws:List Addr)(its:List Value),AK (Ws.map V.ref) its->its=Ws.map Value.ref:=by
   intro Ws
   induction Ws with
   | nil=>intro its h;ext h;rfl
   | cons a r ih=>
    intro its h;cases h with
    | cons h1 h2=>rw[ih _ h2,show _=Value.ref a from h1];rfl
  show this Ws its rv
 let{c',d',da',sl'}:=ob;simp only at o s3;subst o s3 hits;show PySem.W.kia_tup (Sl F') I.kIn J e3 e (λz=>nomatch z) λtk=>{.bl b,H,I.tok tk,0,q}
def RQ (h:oe.cls=.ref C):NY (X.held ea oe) ea C:={⟨oe,zX,h⟩}
end
end L2
namespace L2
open PySem PySem.Spec PyProof.Rows
def DK (h h':Heap):Prop:=∀b o,h.get? b=some o->∃C,h'.get? b=some C/\C.dict=o.dict
def DK.refl (h):DK h h:=λ_ o e=>{o,e,0}
def DK.trans (a:DK h1 h2)(b:DK h2 h3):DK h1 h3:=λx o e=>by let{I,U,d1}:=a x o e;let{C,J,d2}:=b x I U;show{C,J,d2.trans d1}
def KD {α:Type}:Sem α->Prop
 | .pure _=>True
 | .raise _=>True
 | .unsupported _=>True
 | .finish _=>True
 | .rule _ k=>KD (k Unit.unit)
 | .at _ k=>KD (k Unit.unit)
 | .load _ _ k=>∀o,KD (k o)
 | .update _ _ f k=>(∀o,(f o).dict=o.dict/\(o.isFreed=false->(f o).isFreed=false))/\KD (k Unit.unit)
 | .alloc _ k=>∀a,KD (k a)
 | .loadIfAlive _ k=>∀o,KD (k o)
 | .point _ k=>KD (k Unit.unit)
 | .fresh k=>∀t,KD (k t)
 | .ask k=>∀x,KD (k x)
 | .stack k=>∀l,KD (k l)
 | .handled _ k=>∀v,KD (k v)
 | _=>False
def KD.bind (h:KD t)(I:∀a,KD (k a)):KD (t >>= k):=by
 change KD (Sem.bind t k)
 induction t with
 | pure a=>show I a
 | raise e=>trivial
 | unsupported w=>trivial
 | finish e=>trivial
 | rule t f C=>show C Unit.unit h
 | «at» p f C=>show C Unit.unit h
 | load a p f C=>show λo=>C o (h o)
 | update a p f g C=>show{h.1,C Unit.unit h.2}
 | alloc o f C=>show λa=>C a (h a)
 | loadIfAlive a f C=>show λo=>C o (h o)
 | point l f C=>show C Unit.unit h
 | fresh f C=>show λt=>C t (h t)
 | ask f C=>show λx=>C x (h x)
 | stack f C=>show λl=>C l (h l)
 | handled o f C=>show λv=>C v (h v)
 | register=>show h.elim
 | choose=>show h.elim
 | os=>show h.elim
 | call=>show h.elim
 | newGen=>show h.elim
 | genState=>show h.elim
 | resume=>show h.elim
 | yield=>show h.elim
 | fork=>show h.elim
 | thread=>show h.elim
 | await=>show h.elim
def KD.wp (h:KD t):∀{p:Pos}{s:Shared},DK h0 s.heap->Sem.wp M Γ t Q E p s->Sem.wp M Γ t (λa I s'=>Q a I s'/\DK h0 s'.heap) E p s:=by
 induction t with
 | pure a=>show λd w=>⟨w,d⟩
 | raise e=>show λd w=>w
 | unsupported w=>show λd w=>w
 | finish e=>show λd w=>w
 | rule t f C=>show λd w=>C Unit.unit h d w
 | «at» p f C=>show λd w=>C Unit.unit h d w
 | load a p f C=>intro p s d w;let{o,e,w}:=w;show{o,e,C o (h o) d w}
 | update a p f g C=>
  intro p s d w;let{e,w}:=w;show{e,C Unit.unit h.2 (d.trans λb o q=>?_) w};by_cases c:b=a
  . subst c;let fr:=(Heap.get?_some_iff.mp q).2;show{f o,Cr f q ((h.1 o).2 fr),(h.1 o).1}
  . show{o,(GK _ _ (Ne.symm c)).trans q,0}
 | alloc o f C=>intro p s d w;show C _ (h _) (d.trans λb o q=>{o,zL _ q,0}) w
 | loadIfAlive a f C=>show λd w=>C _ (h _) d w
 | point l f C=>show λd w=>C Unit.unit h d w
 | fresh f C=>show λd w=>C _ (h _) d w
 | ask f C=>show λd w=>C _ (h _) d w
 | stack f C=>show λd w=>C _ (h _) d w
 | handled o f C=>show λd w=>C _ (h _) d w
 | register=>show h.elim
 | choose=>show h.elim
 | os=>show h.elim
 | call=>show h.elim
 | newGen=>show h.elim
 | genState=>show h.elim
 | resume=>show h.elim
 | yield=>show h.elim
 | fork=>show h.elim
 | thread=>show h.elim
 | await=>show h.elim
def NW (k:KD t)(h:wpAny M A t Q E s):wpAny M A t (λa s'=>Q a s'/\DK s.heap s'.heap) E s:=
 λC p o => k.wp (DK.refl _) (h C p o)
def GQ [Decidable c] (C:KD a)(o:KD b):KD (if c then a else b):=by split <;> assumption
def gC (v):KD (fieldsOf v):=by
 unfold fieldsOf;split
 . show KD.bind (λo=>trivial) λo=>?_;split <;> trivial
 . trivial
def RB (v)(i):KD (field v i):=by unfold field;show KD.bind (gC v) λo=>?_;split <;> trivial
def dq (g:Array Value->Array Value)(o):(Obj.mapFields g o).dict=o.dict/\(o.isFreed=false->(Obj.mapFields g o).isFreed=false):=by let{c,d,C,I}:=o;ext C <;> show{0,λh=>h}
def TR (v)(i)(x):KD (setField v i x):=by
 unfold setField;split
 . unfold updateField;show KD.bind (λo=>trivial) λo=>?_;split
   . show GQ {λo=>dq _ o,trivial} trivial
   . trivial
 . trivial
def Ss (e)(f):KD (setFlight e f):=by unfold setFlight;show KD.bind (RB e 1) λtb=>GQ (TR _ _ _) trivial
def iu:KD frameEnvs:=by unfold frameEnvs;show KD.bind (λl=>trivial) λl=>trivial
def fG (env:Env)(l):KD (behindIsImport env l):=by unfold behindIsImport;show GQ trivial (GQ trivial (KD.bind (RB _ _) λ_=>trivial))
def jN (env:Env)(b:Bool)(l):KD (keptBack env b l):=by
 unfold keptBack;split
 . show GQ trivial ?_;show KD.bind ?_ λ_=>trivial;unfold underTheClaimsCaller;show KD.bind (λl=>trivial) λl=>trivial
 . trivial
def YU:∀l:List Env,KD (readyFrames l)
 | []=>trivial
 | env::outer=>by
  unfold readyFrames;split
  . show KD.bind (λo=>trivial) λo=>?_;show GQ trivial ?_;show KD.bind (fG _ _) λb=>?_;show KD.bind (jN _ _ _) λb=>?_;show KD.bind {λo=>{0,λh=>(by let{c,d,C,I}:=o;ext C <;> show h)},trivial} λ_=>YU outer
  . trivial
def fW (env:Env):KD (PySem.frameOf env):=by
 unfold PySem.frameOf;show KD.bind iu λl=>?_;show KD.bind ?_ λr=>?_
 . unfold frameObject;split
   . trivial
   . show KD.bind (YU _) λ_=>trivial
 . split <;> trivial
def fu (f)(b:Bool):KD (entryPlaceOf f b):=by unfold entryPlaceOf;show KD.bind (λl=>trivial) λl=>?_;split <;> trivial
def jI (a b c d e)(l):KD (EntryCells.newEntry a b c d e l):=by
 unfold EntryCells.newEntry newFields newObj;let fin:∀d:Data,KD (newObjAsIs (.type "traceback") d):=λd=>by unfold newObjAsIs;show KD.bind (λa=>trivial) λa=>trivial
 simp only[];show GQ (KD.bind trivial λ_=>fin _) (fin _)
def YV (e)(env:Env):KD (noteFrame e env):=by
 unfold noteFrame;split
 . show KD.bind (RB _ _) λhd=>?_;let fin:∀f:Addr,KD (do setField e 1 (<-EntryCells.newEntry hd (<-PySem.frameOf env) .none (rawInt f) .none (<-entryPlaceOf f (hd != .none)))):=λf=>
    KD.bind (fW env) λa=>KD.bind (fu _ _) λo=>KD.bind (jI _ _ _ _ _ _) λb=>TR _ _ _
   show GQ ?_ (fin _);show KD.bind (RB _ _) λx=>GQ trivial ?_;show KD.bind (TR _ _ _) λ_=>fin _
 . trivial
def Xv (env:Env)(e):KD (leaving env e):=KD.bind (YV e env) λ_=>Ss e none
meta def Fs (K:AF)(C:Addr):Bool:=PySem.W.excIn.match_6 (λ_=>Bool) (K.lookup C) (λ_ u z=>PySem.W.excIn.match_1 (λ_ _=>Bool) u.mro z.toList (λD b _ _ _ _ m _=>D==C && m == "ValueError.__new__" && !u.hasDel && PySem.W.tailIn K NL b && PySem.W.nsOkIn K u.ns && u.hasDict) λ_ _=>false) λ_=>false
def JY {K:AF}(X:K.In h)(q:Fs K C=true):
 ∃bm N nm qn bs sn sub ab col dd k0 k1 k2 k3 U mN,h.get? C=some (excClassObj nm qn C N bs bm true sn sub ab col dd k0 k1 k2 k3 U "ValueError.__new__")/\h.Ns N mN/\OwnTail h NL bm:=by
 unfold Fs at q;split at q
 . next dd cd sl look=>
   split at q
   . next D bm k0 k1 k2 k3 n U em es=>
     simp only[Bw,beq_iff_eq,Bool.not_eq_true'] at q;let{{{{{q1,q2},J},q4},I},o}:=q;subst q1 q2;ext cd;simp only at em J I o;subst em J o;ext sl;simp only at es;subst es;show{8,8,8,8,X _ _ look,.of_isNs (PySem.W.isNs_of_in X I),PySem.W.tail_of_in X q4}
   . ext q
 . ext q
structure Em (K:AF)(C fI:Addr):Prop where
 cl:Fs K C=true
 ini:PySem.W.findIn K (.ref C) "__init__"=some (some (.ref fI))
 fn:PySem.W.isFn K (.ref fI)=true
 sa:PySem.W.findIn K (.ref C) "__setattr__"=some (some (.builtin "object.__setattr__"))
 kp:PySem.W.keepIn K (.ref C)=true
meta def CF (C t:Addr)(od:Option Addr):Obj:={ cls:=.ref C,dict:=od,data:=.fields #[.ref t,.none,.none,.none,.bool false,.none] }
meta def G8 (us:List Value):Obj:={ cls:=.type "tuple",data:=.seq us.toArray }
section
variable {prog:Program}{w:World}{A:Around}{E:BP}{h:Heap}{g:Array GenState}{d:Drawn}{t:Nat}{os:OsState}{K:AF}{C fI:Addr}{us:List Value}
meta def Gj (h:Heap)(C:Addr)(us:List Value):Heap:=(h.push (G8 us)).push (CF C h.objs.size none)
def ZN (h)(C)(us):∀b o,h.get? b=some o->(Gj h C us).get? b=some o:=λ_ _ e=>zL _ (zL _ e)
def ZH (h)(C)(us):(Gj h C us).get? (h.objs.size+1)=some (CF C h.objs.size none):=Heap.get?_push_at (by rw[Bz]) rfl
def hV (X:K.In h)(I:Em K C fI)(hz:us.length<=sizeLine)
 (hq:wpAny ∅ A (call (.ref fI) (.ref (h.objs.size+1)::us)) (λr s'=>r=.none/\Q (.done (.ret (.ref (h.objs.size+1)))) s') E {Gj h C us,g,d,t,os}):
 wpAny ∅ A (Builtin.«type.__call__» {.ref C::us,[]}) Q E ⟨h,g,d,t,os⟩:=by
 let{bm,N,nm,qn,bs,sn,sub,ab,col,dd,k0,k1,k2,k3,k5,mN,o,hN,T}:=JY X I.cl;let F:=PySem.F.excBase_ValueError
 repeat (first | with_reducible show Dv o ?_ | with_reducible show wpAny_madeBy_exc o ?_ | wp_step)
 show codeAny_call_builtin_code (Code.quiet_builtin _ F.quiet) (wpAny_check_new_subT F T o (codeAny_exc_new_subT F T o ?_ hz));change wpAny _ _ _ _ _ {Gj h C us,g,d,t,os};let U:=ZN h C us _ _ o;let J:(Gj h C us).get? (h.objs.size+1)=some { cls:=.ref C,data:=.fields #[.ref h.objs.size,.none,.none,.none,.bool false,.none] }:=ZH h C us;let X1:K.In (Gj h C us):=X.keeps (ZN h C us);let own:(Value.ref C::bm).contains (.ref C)=true:=by simp
 unfold isInstance
 repeat (first | with_reducible show Dv J ?_ | (with_reducible show wpAny_isSubtype_exc U ?_;rw[own]) | wp_step)
 let L:=PySem.W.looks_findIn (M:=model prog w) X1 I.ini;show L.at ?_;show BJ (zA ?_);show (PySem.W.bind_fn (M:=model prog w) X1 (.ref (h.objs.size+1)) (beq_iff_eq.mp I.fn)).at ?_;show zA (BE hq (λr s' hr=>?_) λ_ _ z=>z);let{0,hQ}:=hr
 wp_walk
 show hQ
def jW (X:K.In h)(I:Em K C fI)(hz:us.length<=sizeLine)
 (J:wpAny ∅ (A.under (.builtin "type.__call__" {.ref C::us,[]})) (call (.ref fI) (.ref (h.objs.size+1)::us)) (λr s'=>r=.none/\Q (.ref (h.objs.size+1)) s') E {Gj h C us,g,d,t,os}):
 wpAny ∅ A (call (.ref C) us) Q E ⟨h,g,d,t,os⟩:=by
 let{bm,N,nm,U,bs,sn,sub,ab,col,dd,k0,k1,k2,k3,k5,mN,o,hN,T}:=JY X I.cl;let f1:=tc_lookup;let f2:=tc_bind (.ref C);let hT:(⟨h,g,d,t,os⟩:Shared).TypeIs (.ref C) "type" := {_,o,0};show El (codeAny_of_tree ?_);change wpAny _ _ (callAny (.ref C) _) _ _ _
 repeat (any_goals (first | assumption | with_reducible show Dv o ?_ | wp_step))
 show{0,?_};show codeAny_call_builtin_at (Code.quiet_builtin _ (by decide +kernel)) entry_typeCall (wpAny_check_type_call_sub o (hV X I hz J))
end
def ZZ (T:OwnTail h NL bm)(self):refuseLoop self "__setattr__" bm=pure Unit.unit:=by
 induction T with
 | base=>show PySem.F.store_ValueError.passes self
 | own _ _ _ _ o=>rwa[refuseLoop_ref]
section
variable {prog:Program}{w:World}{A:Around}{E:BP}{h:Heap}{g:Array GenState}{d:Drawn}{t:Nat}{os:OsState}{K:AF}{C fI x tt:Addr}{name:Str}{v:Value}
def ig (X:K.In h)(mo:PySem.W.mroIn K C (.type "object")=some true) (o:h.get? x=some (CF C tt od))(hq:Q Unit.unit ⟨h,g,d,t,os⟩):
 wpAny M A (checkBuiltinCall "object.__setattr__" {[.ref x,nX,v],[]}) Q E ⟨h,g,d,t,os⟩:=by
 let L0:=(show Dp h x C from {_,o,0}).type (M:=M);let U:=PySem.W.looks_mroIn (M:=M) X mo;let ha:=PySem.F.store_ValueError.args (.ref x) nX v;let J:=PySem.F.store_ValueError.kind;let I:=PySem.F.store_ValueError.split;simp only[checkBuiltinCall,J,I];show zA ?_;unfold isInstance
 repeat (any_goals (first | assumption | with_reducible show L0.at ?_ | with_reducible show U.at ?_ | wp_step))
def Ww (U:h.Ns1 dx mA)(hw:PySem.Within mA ns)(hz:ns.length<1000)
 (hq:∀h' lA,h'.Ns1 dx (λy=>if y=name then some v else mA y)->(∀b,b≠dx->h'.get? b=h.get? b)->Q (.done (.ret .none)) ⟨h',g,d,lA,os⟩):
 wpAny M A (Builtin.ObjectAttr.storeInDict dx (.str name tk) name v) Q E ⟨h,g,d,t,os⟩:=by
 unfold Builtin.ObjectAttr.storeInDict Builtin.ObjectAttr.newKeyGuard;show zA (zG (zA (wpAny_nsSet1 U λh' J hs=>?_)));let{oD,esD,epD,o,C,I}:=J.count (Within.cons name v hw);show zA (wpAny_lookBehind o (by rw[C];show pastItsLine_dict (BC I (by rw[zu,sizeLine_eq];lia))) ?_)
 wp_walk
 show hq h' _ J λb hb=>hs.2 b hb
def jG (X:K.In h)(I:Em K C fI)(nm:PySem.W.findIn K (.ref C) name=some none)(U:h.get? x=some (CF C tt none))
 (hq:∀h' lA,h'.get? x=some (CF C tt (some h.objs.size))->h'.Ns1 h.objs.size (λy=>if y=name then some v else none)->(∀b o,b≠x->h.get? b=some o->h'.get? b=some o)->Q (.done (.ret .none)) ⟨h',g,d,lA,os⟩):
 wpAny ∅ A (Builtin.«object.__setattr__» {[.ref x,.str name tk,v],[]}) Q E ⟨h,g,d,t,os⟩:=by
 let{bm,N,nmm,qn,bs,sn,sub,ab,col,dd,k0,k1,k2,k3,k5,mN,hC,hN,T}:=JY X I.cl;let pass:=ZZ T (.ref x);obtain⟨o,ho⟩:∃o,o=CF C tt none:={1};rw[<-ho] at U;let hc:o.cls=.ref C:=by rw[ho];rfl
 let lY:o.dict=none:=by rw[ho];rfl
 let L:=PySem.W.looks_findIn (M:=model prog w) X nm;unfold Builtin.«object.__setattr__»
 repeat (first | rw[refuse_eq] | (rw[refuseLoop_ref,pass]) | (with_reducible show Dv U ?_;rw[hc]) | with_reducible show wpAny_mroOf_exc hC ?_ | with_reducible show L.at ?_ | wp_step)
 let hdt:o.data=.fields #[.ref tt,.none,.none,.none,.bool false,.none]:=by rw[ho];rfl
 let J:=zL { cls:=.type "dict",data:=.dict #[] } U;let xs:x≠h.objs.size:=zh (zY U);rw[lY,hdt];show zA (wpAny_alloc' (zA (wpAny_update' J (zG ?_))));let fr:(CF C tt (some h.objs.size)).isFreed=false:=rfl;let up:((h.push { cls:=.type "dict",data:=.dict #[] }).update x λo=>{ cls:=o.cls,dict:=some h.objs.size,data:=o.data,slots:=o.slots }).get? x=some (CF C tt (some h.objs.size)):=by let:=Cr (λo:Obj=>{ cls:=o.cls,dict:=some h.objs.size,data:=o.data,slots:=o.slots }) J (by rw[ho];rfl);rw[this,ho];rfl
 let nd:((h.push { cls:=.type "dict",data:=.dict #[] }).update x λo=>{ cls:=o.cls,dict:=some h.objs.size,data:=o.data,slots:=o.slots }).get? h.objs.size=some { cls:=.type "dict",data:=.dict #[] }:=
  (GK _ _ xs).trans (Heap.get?_push_at rfl rfl)
 show Ww (Heap.Ns1.of_empty {_,#[],_,nd,0,λe he=>absurd he (by simp),λ_=>rfl}) Within.nil (by decide) λh' lA n' same=>?_;show hq h' lA ((same x xs).trans up) n' λb ob hb e=>?_;rw[same b (zh (zY e)),GK _ _ (Ne.symm hb)];show zL _ e
def fY (X:K.In h)(I:Em K C fI)(nm:PySem.W.findIn K (.ref C) name=some none)(J:h.get? x=some (CF C tt (some dx)))
 (lD:h.Ns1 dx mA)(hw:PySem.Within mA ns)(hz:ns.length<1000)
 (hq:∀h' lA,h'.Ns1 dx (λy=>if y=name then some v else mA y)->(∀b,b≠dx->h'.get? b=h.get? b)->Q (.done (.ret .none)) ⟨h',g,d,lA,os⟩):
 wpAny ∅ A (Builtin.«object.__setattr__» {[.ref x,.str name tk,v],[]}) Q E ⟨h,g,d,t,os⟩:=by
 let{bm,N,U,qn,bs,sn,sub,ab,col,dd,k0,k1,k2,k3,k5,mN,hC,hN,T}:=JY X I.cl;let pass:=ZZ T (.ref x);obtain⟨o,ho⟩:∃o,o=CF C tt (some dx):={1};rw[<-ho] at J;let hc:o.cls=.ref C:=by rw[ho];rfl
 let lY:o.dict=some dx:=by rw[ho];rfl
 let L:=PySem.W.looks_findIn (M:=model prog w) X nm;unfold Builtin.«object.__setattr__»
 repeat (first | rw[refuse_eq] | (rw[refuseLoop_ref,pass]) | (with_reducible show Dv J ?_;rw[hc]) | with_reducible show wpAny_mroOf_exc hC ?_ | with_reducible show L.at ?_ | wp_step)
 rw[lY];show zG (Ww lD hw hz hq)
def aP {Pr:Heap->Prop}(X:K.In h)(I:Em K C fI)(mo:PySem.W.mroIn K C (.type "object")=some true) (U:h.get? x=some (CF C tt od))
 (ent:∀A' E' tk t' Q',(∀h' o,Pr h'->Q' (.done (.ret .none)) ⟨h',g,d,o,os⟩)->wpAny ∅ A' (Builtin.«object.__setattr__» {[.ref x,.str name tk,v],[]}) Q' E' ⟨h,g,d,t',os⟩)
 (hq:∀h' o,Pr h'->Q Unit.unit ⟨h',g,d,o,os⟩):wpAny ∅ A (setAttr (.ref x) name v) Q E ⟨h,g,d,t,os⟩:=by
 let J:=PySem.F.store_ValueError;let f3:=J.slot.bind (.ref x);let L0:=(show Dp h x C from {_,U,0}).type (M:=model prog w);let L1:=PySem.W.looks_findIn (M:=model prog w) X I.sa;unfold setAttr callSpecial? specialOf
 repeat (any_goals (first | assumption | with_reducible show L0.at ?_ | with_reducible show L1.at ?_ | wp_step))
 show codeAny_call_builtin J.slot.plain J.entry (ig X mo U (ent _ _ _ _ _ λh' o p=>?_))
 repeat (any_goals (first | assumption | wp_step))
 show hq h' o p
end
meta def xO (e C t:Addr)(od:Option Addr):HO:=.ext λh=>h.get? e=some (CF C t od)
meta def dO (dx:Addr)(fs:List (Str×V)):HO:=.ext λh=>∃mA,h.Ns1 dx mA/\(∀f,CV (fs.lookup f) (mA f))/\PySem.Within mA (fs.map (·.1))
def Ib (o:h.get? e=some (CF C t od)):Av P w H h e (xO e C t od):={o,{_,o},λ_ _ p k=>k _ p}
def IL (I:h.Ns1 dx mA)(r:∀f,CV (fs.lookup f) (mA f))(C:PySem.Within mA (fs.map (·.1))):Av P w H h dx (dO dx fs):=
 ⟨⟨mA,I,r,C⟩,let {o,2,q,_}:=I;⟨o,q⟩,λ_ _ ⟨m,⟨o,es,ep,q,z⟩,r,C⟩ k=>{m,{o,es,ep,k _ q,z},r,C}⟩
def Aq.add (x:Aq P w H h)(C:H a=none)(new:Av P w (upd H a o) h a o):Aq P w (upd H a o) h:=λb u e=>by
 by_cases hb:b=a
 . subst hb;rw[zI] at e;ext e;show new
 . rw[zi hb] at e;show (x b u e).stay (λc v _ q=>q) (λc q=>by rwa[zi (zl q C)]) λc xs q=>by rwa[zi (zl q C)]
def gK (n:a≠b):upd (upd H a o) b u=upd (upd H b u) a o:=by
 funext c;by_cases C:c=a
 . subst C;rw[zI,zi n,zI]
 . by_cases I:c=b
   . subst I;rw[zI,zi C,zI]
   . rw[zi I,zi C,zi C,zi I]
def gk (I:AA X pins σ H s)(EI:Em X.K C fI)(mo:PySem.W.mroIn X.K C (.type "object")=some true) (nm:PySem.W.findIn X.K (.ref C) f=some none)(he:H e=some (xO e C t none))(ry:AM y u)
 (h:∀dx s',H dx=none->AA X pins σ (upd (upd H dx (dO dx [(f,y)])) e (xO e C t (some dx))) s'->Q Unit.unit s'):wpAny (model X.prog X.w) A (setAttr (.ref e) f u) Q E s:=by
 let{J,g,d,tk,os}:=s;let hx:J.get? e=some (CF C t none):=(I.hok e _ he).1;show aP (Pr:=λh'=>h'.get? e=some (CF C t (some J.objs.size))/\h'.Ns1 J.objs.size (λy=>if y=f then some u else none)/\(∀b o,b≠e->J.get? b=some o->h'.get? b=some o)) I.kIn EI mo hx
  (λA' E' lA t' Q' k=>jG I.kIn EI nm hx λh' U a b c=>k h' U ⟨a,b,c⟩) λh' lA ⟨a,b,c⟩=>?_
 let hn:H J.objs.size=none:=I.hok.fresh (zJ _);let ne:e≠J.objs.size:=zh (zY hx);show h J.objs.size _ hn ?_;let mu:IC ((upd H J.objs.size (dO J.objs.size [(f,y)])) e):=by rw[zi ne,he];show True.intro
 let mu':IC (H e):=by rw[he];show True.intro
 show I.un (h':=h') (t':=lA) ((Un.laid (h':=J) (λ_ _ q=>q) (zJ _) hn).trans (Un.write mu (.inl rfl) c {_,a})) ?_;rw[gK (Ne.symm ne)];show Aq.add (I.hok.write mu' (.inl rfl) c {_,a} (Ib a)) (by rwa[zi (Ne.symm ne)]) (IL b (λg=>?_) (λg hg=>?_))
 . change CV (List.lookup g [(f,y)]) (if g=f then some u else none)
   by_cases q:g=f
   . subst q;rwa[if_pos rfl,List.lookup_cons_self]
   . rw[if_neg q,FU,show (g==f)=false from ‹q›];trivial
 . by_cases q:g=f
   . subst q;show zX
   . show absurd (by change (if g=f then some u else none)=none;rw[if_neg q]) hg
def gA (I:AA X pins σ H s)(EI:Em X.K C fI)(mo:PySem.W.mroIn X.K C (.type "object")=some true) (nm:PySem.W.findIn X.K (.ref C) f=some none)(he:H e=some (xO e C t (some dx)))(hd:H dx=some (dO dx fs))(hl:fs.length<900)(ry:AM y u)
 (h:∀s',AA X pins σ (upd H dx (dO dx (Eb f y fs))) s'->Q Unit.unit s'):wpAny (model X.prog X.w) A (setAttr (.ref e) f u) Q E s:=by
 let{hp,g,d,tk,os}:=s;let hx:hp.get? e=some (CF C t (some dx)):=(I.hok e _ he).1;let{mA,lD,r,U}:=(I.hok dx _ hd).1;show aP (Pr:=λh'=>h'.Ns1 dx (λy=>if y=f then some u else mA y)/\(∀b,b≠dx->h'.get? b=hp.get? b)) I.kIn EI mo hx
  (λA' E' lA t' Q' k=>fY I.kIn EI nm hx lD U (by rw[zC];lia) λh' J a b=>k h' J ⟨a,b⟩) λh' lA ⟨a,b⟩=>?_
 show h _ ?_;let mu:IC (H dx):=by rw[hd];show True.intro
 show I.write (x:=dx) (e:=dx) (t':=lA) mu (.inl rfl) (λb_ u' hb q=>(b b_ hb).trans q) (let {o,2,q,_}:=a;⟨o,q⟩) (IL a (λg=>?_) (λg hg=>?_))
 . change CV ((Eb f y fs).lookup g) (if g=f then some u else mA g)
   rw[Y6];by_cases q:g=f
   . rwa[if_pos q,if_pos q]
   . rw[if_neg q,if_neg q];show r g
 . by_cases q:g=f
   . rw[q];show (TY f y fs).1
   . show (TY f y fs).2 g (U g λz=>hg ?_);change (if g=f then some u else mA g)=none
     rwa[if_neg q]
inductive Vj (C:Addr)(f:Str)(D:DC)(σ:St)(y:V)(x:V)(H2:Hp):Prop
 | mk:∀e t,(x=.ref e)->(((H2 e=some (xO e C t none)/\∀dx,H2 dx=none->D.nx σ (upd (upd H2 dx (dO dx [(f,y)])) e (xO e C t (some dx))))\/∃dx fs,H2 e=some (xO e C t (some dx))/\H2 dx=some (dO dx fs)/\fs.length<900/\D.nx σ (upd H2 dx (dO dx (Eb f y fs)))))->Vj C f D σ y x H2
def PK (C:Addr)(f:Str)(ta tv:TE):TS:=λD σ H=>tv σ H λy H1=>ta σ H1 λx H2=>Vj C f D σ y x H2
def YS (EI:Em X.K C fI)(mo:PySem.W.mroIn X.K C (.type "object")=some true) (nm:PySem.W.findIn X.K (.ref C) f=some none)(ha:PE X o ta)(hv:PE X value tv)(hs:autoParam (swapsWith value (some (.Attribute o f pos')) pos.line X.env=pure false) d_._auto_5):
 PS X (.Assign [.Attribute o f pos'] value pos) (PK C f ta tv):=by
 intro pins s σ H D I h;show plainObj_wpAny_Assign_Attribute (AI (hv pins s σ H _ I h) λu s1 ⟨y,H1,I1,U,q⟩=>AI (ha pins s1 σ H1 _ I1 q) λov s2 ⟨x,H2,I2,rx,e,t,ex,q2⟩=>?_) hs;subst ex;obtain rfl:ov=Value.ref e:=rx;rcases q2 with ⟨he,q⟩ | ⟨dx,fs,he,hd,hl,q⟩
 . show gk I2 EI mo nm he U λdx s3 n J=>{σ,_,J,q dx n}
 . show gA I2 EI mo nm he hd hl U λs3 J=>{σ,_,J,q}
inductive Zy (C:Addr)(f1:Str)(f2:Str)(vs:List V)(H:Hp)(Q:VK):Prop
 | mk:∀(e t:Addr)(v1 v2:V),(vs=[.ref e,v1,v2])->(H e=some (xO e C t none))->(∀dx,H dx=none->dx≠e->Q .non (upd (upd H dx (dO dx [(f1,v1),(f2,v2)])) e (xO e C t (some dx))))->Zy C f1 f2 vs H Q
def Ma (C:Addr)(f1 f2:Str):Sp:=λo H Q _=>Zy C f1 f2 o H Q
def G7 (B:Heap)(l:List Env)(e:Addr)(C I:Value)(od:Option Addr)(h:Heap):Prop:=Heap.FlyingW B l e C I h/\∃o,h.get? e=some o/\o.dict=od
def G7.step (x:G7 B l e C a0 od h)(f:Heap.FlyingW B l' e C a0 h')(k:DK h h'):G7 B l' e C a0 od h':=by let{_,o,q,r}:=x;let{U,J,I}:=k e o q;show{f,U,J,I.trans r}
def C7 (P:Program)(w:World):IX:=λouter H s E e I=>
 ∃ea t C J H' B,e=.ref ea/\I.os=s.os/\AllBare I.gens/\Un (A7 outer) [] H H' s.heap I.heap/\Aq P w H' I.heap /\
  G7 B outer ea C (.ref t) J I.heap/\(∀b u,H' b=some u->∃o,B.get? b=some o)/\(∀b o,s.heap.get? b=some o->H b=none->b∉A7 outer->B.get? b=some o)/\(∀b o,s.heap.get? b=some o->b∉A7 outer->∃U,B.get? b=some U)/\E C J H'
section
variable {P:Program}{w:World}{K:AF}{mg:BO}{base:Heap}{N:List Str}{qual:Str}{scope:Scope}{f:Addr}{cd:Value}{A:Around}{outer:List Env}{s0 s:Shared}{H0 H:Hp}{E:XK}{pins:CP}{σ:St}
def ZX (I:AA (C4 (C7 P w) P w K mg base N qual scope f cd A outer s0 H0 E) pins σ H s)(he:s.heap.get? ea=some oe)(hc:oe.cls=C)(hd:oe.data=.fields vs)(h1:vs[1]?=some .none)(h0:vs[0]?=⇑t)(hn:H ea=none)(h00:s0.heap.get? ea=none)(hE:E C oe.dict H):
 (C4 (C7 P w) P w K mg base N qual scope f cd A outer s0 H0 E).xe (.ref ea) s:=by
 subst hc;let' fr:List Addr:=(envOfC qual scope ↥s0 f cd::outer).filterMap (·.frame);let nO:∀env∈(envOfC qual scope ↥s0 f cd::outer),∀a,env.frame=some a->a∈ea::fr:=λenv he b hb=>zd _ (List.mem_filterMap.mpr ⟨env,he,hb⟩);let ff:=PySem.W.funFrames_hide I.stack nO;let off:ea∉fr:=λz=>by let{_,o,ho,nd}:=I.stack.mem z;rw[he] at ho;ext ho;show nd vs hd
 show BE (NW (Xv _ _) (wpAny_leaving_firstW (Q:=λ_ s'=>∃h',s'={ s with heap:=h' }/\Heap.LeftW (PySem.W.hideAll s.heap (ea::fr)) (envOfC qual scope ↥s0 f cd::outer) ea oe.cls (.ref t) s.heap h') (base:=PySem.W.hideAll s.heap (ea::fr)) I.ok.frames ff rfl he (λb o q=>PySem.W.of_hideAll _ q) (PySem.W.hideAll_none _ zX) hd h1 h0 λh' L=>{h',0,L})) (λ_ s' hq=>?_) λ_ _ z=>z;let{{h'',0,L1,{2,L2'},L3,up},dk}:=hq;let st:(PySem.W.hideAll s.heap (ea::fr)).StaysIn h'':=L1;let stk:∀b,b∈fr->b=↥s0\/b∈A7 outer:=λb z=>za.mp (I.stkSub b z);let J:∀b o,s.heap.get? b=some o->b≠ea->b∉fr->(PySem.W.hideAll s.heap (ea::fr)).get? b=some o:=λb o q n z=>PySem.W.hideAll_get _ q λy=>by
  rcases za.mp y with y | y
  . show n y
  . show z y
 let U:∀b o,s0.heap.get? b=some o->b≠ea:=λb o q z=>by rw[z,h00] at q;ext q
 let nfr:∀b o,s0.heap.get? b=some o->b∉A7 outer->b∉fr:=λb o q hb z=>by
  rcases stk b z with y | y
  . show absurd (zY q) (by rw[y];show Nat.not_lt_of_le (zJ _))
  . show hb y
 let old:∀b o,s0.heap.get? b=some o->H0 b=none->b∉A7 outer->(PySem.W.hideAll s.heap (ea::fr)).get? b=some o:=λb o e n hb=>
  J b o (I.base.keep b o e n hb (by intro z;ext z)) (U b o e) (nfr b o e hb)
 let al:∀b o,s0.heap.get? b=some o->b∉A7 outer->∃o',(PySem.W.hideAll s.heap (ea::fr)).get? b=some o':=λb o e hb=>by let{o1,e1}:=I.base.there b o e (by intro z;ext z);show{o1,J b o1 e1 (U b o e) (nfr b o e hb)}
 let tr:∀b u,H b=some u->∃o,(PySem.W.hideAll s.heap (ea::fr)).get? b=some o:=λb u e=>by let{o,ho}:=(I.hok b u e).there;show{o,J b o ho (λz=>by rw[z,hn] at e;ext e) λz=>?_};let:=I.stkFree b z;rw[e] at this;ext this
 let{o',q',r'}:=dk ea oe he;show{ea,t,oe.cls,oe.dict,H,1,I.os,I.bare,{λb o e n hb ju=>st b o (old b o e n hb),λb o e n hb ju=>?_,I.base.free,λb o e ju=>?_,I.base.tups,I.base.frzs,I.base.tbls},I.hok.stays (λb o q=>PySem.W.of_hideAll _ q) st tr,{{L1,PySem.W.hideAll_none _ zX,L2',L3},o',q',r'},tr,old,al,hE}
 . let{sl,e1}:=I.base.slot b o e n hb (by intro z;ext z);let{_,o2,e2,nd}:=I.stack.mem (show b∈fr from zd _ hb);let e3:o2={ o with slots:=sl }:=zZ (e2.symm.trans e1);let{mj,e4}:=up b _ e1 (λvs=>by rw[<-e3];show nd vs);show⟨mj,e4⟩
 . let{o1,e1}:=I.base.there b o e (by intro z;ext z);by_cases hb:b∈fr
   . let{_,o2,e2,nd}:=I.stack.mem hb;let{mj,e4}:=up b _ e2 nd;show{_,e4}
   . show{_,st b _ (J b o1 e1 (U b o e) hb)}
end
section
variable {P:Program}{w:World}{K:AF}{mg:BO}{base:Heap}{N:List Str}{qual:Str}{scope:Scope}{f:Addr}{cd:Value}{A:Around}{outer:List Env}{s0 s:Shared}{H0 H:Hp}{E:XK}{pins:CP}{σ:St}
def fO (I:AA (C4 (C7 P w) P w K mg base N qual scope f cd A outer s0 H0 E) pins σ H s)(h:C7 P w (envOfC qual scope ↥s0 f cd::outer) H s E1 e s')
 (imp:∀C d H',E1 C d H'->E C d H'):(C4 (C7 P w) P w K mg base N qual scope f cd A outer s0 H0 E).xe e s':=by
 let{ea,t,C,od,H',B,0,os,bare,un,hok,fl,tr,old,al,hE}:=h;show BE (NW (Xv _ _) (wpAny_leaves_onW (Q:=λ_ s2=>∃h',s2={ s' with heap:=h' }/\Heap.FlyingW B outer ea C (.ref t) h'/\s'.heap.UpToSlots h') I.ok.frames rfl fl.1 λh' f2 u=>{h',0,f2,u})) (λ_ s2 hq=>?_) λ_ _ z=>z;let{{h'',0,fl2,up},dk}:=hq;let st:B.StaysIn h'':=fl2.1;let nl:∀b o,s0.heap.get? b=some o->H0 b=none->b∉A7 outer->B.get? b=some o:=λb o e n hb=>by
  show old b o (I.base.keep b o e n hb (by intro z;ext z)) (I.base.free b o e n (by intro z;ext z)) λz=>?_;rcases za.mp (I.stkSub b z) with q | q
  . show absurd (zY e) (by rw[q];show Nat.not_lt_of_le (zJ _))
  . show hb q
 let na:∀b o,s0.heap.get? b=some o->b∉A7 outer->∃o',B.get? b=some o':=λb o e hb=>by
  let{o1,J}:=I.base.there b o e (by intro z;ext z);show al b o1 J λz=>?_;rcases za.mp (I.stkSub b z) with q | q
  . show absurd (zY e) (by rw[q];show Nat.not_lt_of_le (zJ _))
  . show hb q
 show{ea,t,C,od,H',B,0,os.trans I.os,bare,{λb o e n hb _=>st b o (nl b o e n hb),λb o e n hb _=>?_,λb o e n _=>?_,λb o e _=>?_,λb xs e=>un.tups _ _ (I.base.tups _ _ e),λb o u e=>un.frzs _ _ _ (I.base.frzs _ _ _ e),λb ps e=>?_},hok.stays fl.1.1 st tr,fl.step fl2 dk,tr,nl,na,imp _ _ _ hE}
 . let{sl,J}:=I.base.slot b o e n hb (by intro z;ext z);let n1:=I.base.free b o e n (by intro z;ext z);let{mj,e2}:=un.slot b _ J n1 (zd _ hb) (by intro z;ext z);let{_,o3,U,nd}:=fl.1.2.2.1.mem (show b∈(envOfC qual scope ↥s0 f cd::outer).filterMap (·.frame) from zd _ hb);let{sl4,e4}:=up b _ U nd;let e5:=zZ (U.symm.trans e2);rw[e5] at e4;show⟨sl4,e4⟩
 . show un.free b _ (I.base.there b o e (by intro z;ext z)).choose_spec (I.base.free b o e n (by intro z;ext z)) (by intro z;ext z)
 . let{o1,J}:=I.base.there b o e (by intro z;ext z);by_cases hb:b∈(envOfC qual scope ↥s0 f cd::outer).filterMap (·.frame)
   . let{_,o3,U,nd}:=fl.1.2.2.1.mem hb;let{sl4,e4}:=up b _ U nd;show{_,e4}
   . let{o3,U}:=al b o1 J hb;show{_,st b o3 U}
 . let{m1,J}:=I.base.tbls _ _ e;let{m2,e2}:=un.tbls _ _ J;show{m1++m2,by rw[e2,Array.append_assoc]}
end
def Pf {K:AF}:NR (C7 P w) (C4 (C7 P w) P w K mg base N qual scope f cd A outer s0 H0 E) E:=λ_ _ _ _ _ _ I h=>fO I h λ_ _ _ z=>z
def Dc.okI {K:AF}{st:Stmt}(F:Dc K x qual st f fd)(S:AR N ps (defScope st))(len:∀vs H Q E,sp vs H Q E->vs.length=ps.length)
 (km:∀o A outer s H vs Q E,A6 k (A.deeper (envOfC qual (defScope st) ↥s f o))->sp vs H Q E ->
  ∃t,CC (C4 (C7 P w) P w K mg base N qual (defScope st) f o A outer s H E) (defBody st) t/\t { nx:=λ_ H'=>Q .non H',rt:=Q } (EY N vs) H):BY P w K mg base (C7 P w) (k+1) f fd ps sp:=by
 let{oc,od,kV,doc,pm,an,o,ct,C,0,U,I}:=F.ex;show IG U I S len λA outer s H vs Q E hr J=>km o A outer s H vs Q E hr J
meta def JC (e:Addr)(H:Hp):Hp:=λb=>if b=e then none else H b
def FQ (n:b≠e):JC e H b=H b:=by unfold JC;rw[if_neg n]
def Ir :JC e H e=none:=by unfold JC;rw[if_pos rfl]
def AA.drop (I:AA X pins σ H s)(he:H e=some (.ext φ)):AA X pins σ (JC e H) s:=by
 let nt:∀b xs,H b=some (.tup xs)->b≠e:=λb xs q z=>by rw[z,he] at q;ext q
 let no:∀b y,H b=some (.own y)->b≠e:=λb y q z=>by rw[z,he] at q;ext q
 show{I.ok,I.os,I.bare,{I.base.keep,I.base.slot,λb o q n C=>?_,I.base.there,λb xs q=>by rw[FQ (nt b xs (I.base.tups b xs q))];show I.base.tups b xs q,λb o u q=>?_,λb ps q=>?_},I.loc,I.cell,?_,λx c q=>?_,λp J=>?_,λb o q=>?_,I.len}
 . by_cases z:b=e
   . subst z;show Ir
   . rw[FQ z];show I.base.free b o q n C
 . let r:=I.base.frzs b o u q;rw[FQ (λz=>by rw[z,he] at r;ext r)];show r
 . let{m,r}:=I.base.tbls b ps q;show{m,by rw[FQ (λz=>by rw[z,he] at r;ext r)];show r}
 . by_cases z:X.env.locals=e
   . rw[z];show Ir
   . rw[FQ z];show I.free
 . by_cases z:c=e
   . subst z;show Ir
   . rw[FQ z];show I.freeC x c q
 . let{a,b,r}:=I.pin p J;show{a,?_,r};by_cases z:p.1=e
   . rw[z];show Ir
   . rw[FQ z];show b
 . let z:b≠e:=λz=>by rw[z,Ir] at q;ext q
   rw[FQ z] at q;show (I.hok b o q).stay (λ_ _ _ r=>r) (λc r=>by rw[FQ (no c _ r)];show r) λc xs r=>by rw[FQ (nt c xs r)];show r
def eS {M:Model}{A:Around}{E:BP}{env:Env}{K:AF}{C tt:Addr}{od:Option Addr}{y:Sem Value}{Q:Flow->Shared->Prop}(q:Fs K C=true)(hh:A.handled=none)
 (h:wpAny M A y (λv s1=>∃e,v=.ref e/\K.In s1.heap/\(∃tt od,s1.heap.get? e=some (CF C tt od))/\E (.ref e) s1) E s):wpAny M A (raiseStmt env (some y) none) Q E s:=by
 unfold raiseStmt;show zA (BE h (λv s1 U=>?_) λ_ _ z=>z);let{e,0,X1,{tt,od,he},hE}:=U;let{bm,N,nm,qn,bs,sn,sub,ab,col,dd,k0,k1,k2,k3,k5,mN,I,hN,T}:=JY X1 q;let o:(Value.ref C::bm).contains (.type "BaseException")=true:=by rw[List.contains_cons,T.hasType (X := "BaseException") (b:=true) (by rfl),Bool.or_true]
 let{hp,g,d,tk,os}:=s1;let J:hp.get? e=some { cls:=.ref C,dict:=od,data:=.fields #[.ref tt,.none,.none,.none,.bool false,.none] }:=he
 repeat (first | with_reducible show Dv J ?_ | with_reducible show Dv I ?_ | (with_reducible show wpAny_isSubtype_exc I ?_;rw[o]) | wp_step)
 show wpAny_raiseNew_none hh hE
def AA.madeX (I:AA X pins σ H s)(r:AK vs us)(hz:vs.length<=sizeLine):
 AA X pins σ (upd (upd H ↥s (.tup vs)) (↥s+1) (xO (↥s+1) C ↥s none)) { s with heap:=Gj s.heap C us }:=by
 let J:(s.heap.push (G8 us)).get? ↥s=some (G8 us):=Heap.get?_push_at rfl rfl;let U:=I.laid (a:=↥s) (o:=.tup vs) (h':=s.heap.push (G8 us)) (t':=s.toks) (λb u q=>zL _ q) (zJ _) {{hz,_,J,0},us,r,{_,J,0,1}};show U.laid (a:=↥s+1) (t':=s.toks) (h':=Gj s.heap C us) (λb u q=>zL _ q) (Nat.le_of_eq (Bz _ _)) (Ib (ZH s.heap C us))
inductive aM (C:Addr)(f1:Str)(f2:Str)(E:XK)(vs:List V)(H1:Hp):Prop
 | mk:∀v1 v2,(vs=[v1,v2])->(∀tt dx,H1 tt=none->H1 dx=none->tt≠dx->E (.ref C) (some dx) (upd (upd H1 tt (.tup [v1,v2])) dx (dO dx [(f1,v1),(f2,v2)])))->aM C f1 f2 E vs H1
def gY (C:Addr)(f1 f2:Str)(t:TA)(E:XK):TS:=λ_ σ H=>t σ H λo H1=>aM C f1 f2 E o H1
def Z1 (hg:Gl X x)(hm:X.mg x=⇑C)(EI:Em X.K C fI)(hc:X.calm=true)(F:BY X.prog X.w X.K X.mg X.base DQ k fI fd ps (Ma C f1 f2))(hr:A6 (k+1) X.A)(hb:Ds X.K fd ps [])(ha:PA X [e1,e2] t)
 (nG:∀pins σ H s ea tt dx,AA X pins σ H s->s.heap.get? ea=some (CF C tt (some dx))->H ea=none->X.s₀.heap.get? ea=none->E (.ref C) (some dx) H->X.xe (.ref ea) s)
 (hd:autoParam ((x==("__debug__" : Str))=false) d_._auto_2) (hs:autoParam (starEach [e1,e2] X.env=(false,eval e1 X.env)::starEach [e2] X.env) d_._auto_5)(kK:autoParam ((backTo jw (starEach [e2] X.env)).any (·.1)=false) d_._auto_5):
 PS X (.Raise (some (.Call (.Name x np) [e1,e2] [] jw)) none pos) (gY C f1 f2 t E):=by
 intro pins s σ H D I h;rw[arm_exec_Raise];show zA (wpAny_standAt ?_);change wpAny _ _ (raiseStmt X.env (some (do let v <-eval (.Call (.Name x np) [e1,e2] [] jw) X.env;standAt pos;pure v)) none) _ _ _
 show eS (tt:=0) (od:=none) EI.cl (I.ok.hd hc) (zA (BE (Q:=λv s1=>∃e,v=.ref e/\X.K.In s1.heap/\(∃tt od,s1.heap.get? e=some (CF C tt od))/\X.xe (.ref e) s1) (E:=X.xe) ?main (λv s3 h3=>zA (wpAny_standAt (zG h3))) λ_ _ z=>z))
 case main=>
  show Hd (Nl I hg hm ?_ hd);show PySem.W.callWith_K (h₀:=X.base) I.ok.mod.kin EI.kp (BE (ha jw pins s σ H _ I h) (λus s1 ⟨vs,H1,U,r,q⟩=>{U.kIn,?_}) λ_ _ z=>z) hs kK;let{v1,v2,0,q}:=q;let hz:us.length<=sizeLine:=by rw[<-r.length];change 2<=sizeLine;decide
  let I2:=AA.madeX (C:=C) U r (show 2<=sizeLine by decide);let r2:AK (V.ref (↥s1+1)::[v1,v2]) (Value.ref (↥s1+1)::us):=.cons rfl r;let n1:H1 ↥s1=none:=U.hok.fresh (zJ _);let n2:H1 (↥s1+1)=none:=U.hok.fresh (Bk _);let s00:X.s₀.heap.get? (↥s1+1)=none:=Heap.get?_none_of_le (BC U.sz (Bk _));show jW (h:=s1.heap) U.kIn EI hz ?_;let ne:↥s1≠↥s1+1:=zh (HQ _);let mM:Ma C f1 f2 (V.ref (↥s1+1)::[v1,v2]) (upd (upd H1 ↥s1 (.tup [v1,v2])) (↥s1+1) (xO (↥s1+1) C ↥s1 none))
   (λv H2=>v=.non/\∃dx,H2 (↥s1+1)=some (xO (↥s1+1) C ↥s1 (some dx))/\E (.ref C) (some dx) (JC (↥s1+1) H2)) (λ_ _ _=>False):=by
   show{2,v1,v2,0,zI,λdx mZ nd=>{0,dx,zI,?_}};rw[zi nd] at mZ;let nt:↥s1≠dx:=λz=>by rw[<-z,zI] at mZ;ext mZ
   let hdx1:H1 dx=none:=by rwa[zi (Ne.symm nt)] at mZ
   let eq:JC (↥s1+1) (upd (upd (upd (upd H1 ↥s1 (.tup [v1,v2])) (↥s1+1) (xO (↥s1+1) C ↥s1 none)) dx (dO dx [(f1,v1),(f2,v2)])) (↥s1+1) (xO (↥s1+1) C ↥s1 (some dx)))
   =upd (upd H1 ↥s1 (.tup [v1,v2])) dx (dO dx [(f1,v1),(f2,v2)]):=by
    funext b;by_cases hb:b=↥s1+1
    . subst hb;rw[Ir,zi (Ne.symm nd),zi (Ne.symm ne)];show n2.symm
    . rw[FQ hb,zi hb];by_cases J:b=dx
      . subst J;rw[zI,zI]
      . rw[zi J,zi hb,zi J]
   rw[eq];show q _ dx n1 hdx1 nt
  let hl:(Value.ref (↥s1+1)::us).length=ps.length:=by rw[<-r2.length];show F.len _ _ _ _ mM
  show El (codeAny_mono (F.run _ X.stack _ _ {Value.ref (↥s1+1)::us,[]} (Value.ref (↥s1+1)::us) _ _ (λ_ _ _=>False) (hr.make C us []) (I2.env0.make C us [])
   (by let:=hb _ (Value.ref (↥s1+1)::us) I2.kIn (by rwa[Bq]);rwa[Bq] at this) r2 mM) λr s' o=>?_)
  cases r with
  | error e=>show False.elim o
  | ok fl=>
   cases fl with
   | ret u=>let{v,H',I3,rv,ev,dx,hx,hE}:=I2.after o;subst ev;show{rv,1,I3.kIn,{2,(I3.hok _ _ hx).1},?_};show nG pins σ _ s' _ _ dx (I3.drop hx) (I3.hok _ _ hx).1 Ir s00 hE
   | next=>show False.elim o
   | brk=>show False.elim o
   | cont=>show False.elim o
section
variable {prog:Program}{w:World}{A:Around}{E:BP}{h:Heap}{g:Array GenState}{d:Drawn}{t:Nat}{os:OsState}{K:AF}{C x dx:Addr}{o:Obj}{name:Str}{v:Value}{mA:BO}
def gc (X:K.In h)(q:Fs K C=true)(I:h.get? x=some o)(J:o.cls=.ref C)(hd:o.data=.fields vs)(lY:o.dict=some dx)(lD:h.Ns1 dx mA)(nm:PySem.W.findIn K (.ref C) name=some none)(hv:mA name=some v)(hq:Q (.done (.ret v)) ⟨h,g,d,t,os⟩):
 wpAny ∅ A (Builtin.«object.__getattribute__» {[.ref x,.str name tk],[]}) Q E ⟨h,g,d,t,os⟩:=by
 let{bm,N,nmm,qn,bs,sn,sub,ab,col,dd,k0,k1,k2,k3,k5,mN,U,hN,T}:=JY X q;let L:=PySem.W.looks_findIn (M:=model prog w) X nm;unfold Builtin.«object.__getattribute__»
 repeat (first | (with_reducible show Dv I ?_;rw[J]) | with_reducible show Dv U ?_ | with_reducible show L.at ?_ | wp_step)
 rw[hd];let ns:h.Ns dx mA:=lD.ns;change wpAny _ _ (instanceDict x false) _ _ _;unfold instanceDict
 repeat (first | (with_reducible show Dv I ?_;rw[J]) | with_reducible show Dv U ?_ | wp_step)
 rw[lY];show zG ?_;unfold Builtin.ObjectAttr.inDict;show wpAny_nsGet ns ?_;rw[hv]
 repeat (any_goals (first | assumption | wp_step))
def fP (X:K.In h)(q:Fs K C=true)(F':DX K C)(I:h.get? x=some o)(J:o.cls=.ref C)(hd:o.data=.fields vs)(U:o.dict=some dx)(lD:h.Ns1 dx mA)(nm:PySem.W.findIn K (.ref C) name=some none)(hv:mA name=some v)(hq:R (.ok (.ret v)) ⟨h,g,d,t,os⟩):
 codeAny ∅ A (.call (.builtin "BaseException.__getattribute__") {[.ref x,.str name tk],[]}) R ⟨h,g,d,t,os⟩:=
 codeAny_call_builtin PySem.F.attrBase_ValueError.ga.plain PySem.F.entry_bexc_ga (Zd X ⟨o,I,J⟩ F' (gc X q I J hd U lD nm hv hq))
def MO {fill:Bool}(X:K.In h)(q:Fs K C=true)(J:DX K C)(U:h.get? x=some o)(hc:o.cls=.ref C)(hd:o.data=.fields vs)(lY:o.dict=some dx)(lD:h.Ns1 dx mA)(nm:PySem.W.findIn K (.ref C) name=some none)(hv:mA name=some v)(hh:PySem.W.handedIn v=true)(hq:Q v ⟨h,g,d,t,os⟩):
 wpAny ∅ A (getAttrBy (.ref x) (.str name tk) fill b) Q E ⟨h,g,d,t,os⟩:=by
 let L0:=(show Dp h x C from ⟨o,U,hc⟩).type (M:=model prog w);let L1:=PySem.W.looks_findIn (M:=model prog w) X J.ga;let L2:=PySem.W.looks_findIn (M:=model prog w) X J.gn;let f3:=PySem.F.attrBase_ValueError.ga.bind (.ref x);let I:(Value.builtin "BaseException.__getattribute__" == Value.builtin "object.__getattribute__")=false:=by decide +kernel
 let hx0:(b && onTheHeap (Value.builtin "BaseException.__getattribute__"))=false:=by ext b <;> rfl
 let hx1:(onTheHeap (Value.ref C) && Value.builtin "BaseException.__getattribute__" == Value.builtin "object.__getattribute__")=false:=by rw[I];rfl
 repeat (any_goals (first | assumption | with_reducible show L0.at ?_ | with_reducible show L1.at ?_ | with_reducible show L2.at ?_ | wp_step))
 show fP X q J U hc hd lY lD nm hv ?_;change wpAny _ _ (handedOut v) _ _ _;show PySem.W.handed_on hh hq
def QA (X:K.In h)(q:Fs K C=true)(F':DX K C)(hx:h.get? x=some o)(hc:o.cls=.ref C)(hd:o.data=.fields vs)(J:o.dict=some dx)(U:h.Ns1 dx mA)(nm:PySem.W.findIn K (.ref C) name=some none)(hv:mA name=some v)(hh:PySem.W.handedIn v=true)(hq:∀I,Q v ⟨h,g,d,I,os⟩):
 wpAny ∅ A (getAttr (.ref x) name b) Q E ⟨h,g,d,t,os⟩:=by
 unfold getAttr
 repeat (any_goals (first | assumption | show hq _ | with_reducible show MO X q F' hx hc hd J U nm hv hh ?_ | wp_step))
end
structure IP (X:Cx)(ea C dx:Addr):Prop where
 pin:∃oe vs,(ea,oe)∈X.pn/\oe.cls=.ref C/\oe.dict=some dx/\oe.data=.fields vs
inductive YK (X:Cx)(f:Str)(Q:VK)(x:V)(H1:Hp):Prop
 | mk:∀ea C dx fs v,(x=.ref ea)->(IP X ea C dx)->(Fs X.K C=true)->(DX X.K C)->(PySem.W.findIn X.K (.ref C) f=some none)->(H1 dx=some (dO dx fs))->(fs.lookup f=some v)->(Q v H1)->YK X f Q x H1
def PJ (X:Cx)(ta:TE)(f:Str):TE:=λσ H Q=>ta σ H λx H1=>YK X f Q x H1
def YN (he:PE X e ta)(hb:autoParam (attributeBase e f X.env (eval e X.env)=eval e X.env) d_._auto_5):PE X (.Attribute e f pos) (PJ X ta f):=by intro pins s σ H Q I h;show bQ hb (AI (he pins s σ H _ I h) λu s1 z0=>?_);let{x,H1,J,rx,ea,C,dx,fs,v,ex,{{oe,vs,hp,hc,lY,hd}},q,F',nm,mZ,hl,hq}:=z0;subst ex;obtain rfl:u=Value.ref ea:=rx;let{e1,_}:=J.pin (ea,oe) (Cy _ hp);let{mA,lD,r,wi}:=(J.hok dx _ mZ).1;let{u,hu,U}:=CV.some_of (v:=v) (o:=mA f) (by rw[<-hl];show r f);let{hp',g,d,tk,os}:=s1;show QA J.kIn q F' e1 hc hd lY lD nm hu (fX U) λlA=>{v,H1,J.tok lA,U,hq}
def F6 (e:Addr)(od:Option Addr)(h:Heap):Prop:=∃o,h.get? e=some o/\o.dict=od
def F6.step (x:F6 e od h)(k:DK h h'):F6 e od h':=by let{o,q,r}:=x;let{J,I,C}:=k e o q;show{J,I,C.trans r}
def gw (o:A.frames=some (env::outer))(hf:env.frame=some L)(C:Heap.FlyingW base (env::outer) e cls a0 s.heap)(hd:F6 e od s.heap)
 (J:∀h',Heap.HeldW base (env::outer) e cls a0 L h'->s.heap.UpToSlots h'->F6 e od h'->Q Unit.unit { s with heap:=h' }):wpAny M A (noteFrame (.ref e) env) Q E s:=by
 show BE (NW (YV _ _) (wpAny_looks_onW (Q:=λ_ s2=>∃h',s2={ s with heap:=h' }/\Heap.HeldW base (env::outer) e cls a0 L h'/\s.heap.UpToSlots h') o hf C λh' a b=>{h',0,a,b})) (λ_ s2 I=>?_) λ_ _ z=>z;let{{h',0,a,b},k}:=I;show J h' a b (hd.step k)
def Jo (C:Heap.HeldW base l e cls a0 L s.heap)(hd:F6 e od s.heap)
 (I:∀h',Heap.FlyingW base l e cls a0 h'->s.heap.UpToSlots h'->F6 e od h'->Q Unit.unit { s with heap:=h' }):wpAny M A (setFlight (.ref e) none) Q E s:=by
 show BE (NW (Ss _ _) (wpAny_landsW (Q:=λ_ s2=>∃h',s2={ s with heap:=h' }/\Heap.FlyingW base l e cls a0 h'/\s.heap.UpToSlots h') C λh' a b=>{h',0,a,b})) (λ_ s2 o=>?_) λ_ _ z=>z;let{{h',0,a,b},k}:=o;show I h' a b (hd.step k)
def K8 (C:Heap.FlyingW base l e cls a0 s.heap)(hd:F6 e od s.heap)
 (I:∀h',Heap.FlyingW base l e cls a0 h'->s.heap.UpToSlots h'->F6 e od h'->Q Unit.unit { s with heap:=h' }):wpAny M A (setFlight (.ref e) none) Q E s:=by
 show BE (NW (Ss _ _) (lands_againW (Q:=λ_ s2=>∃h',s2={ s with heap:=h' }/\Heap.FlyingW base l e cls a0 h'/\s.heap.UpToSlots h') C λh' a b=>{h',0,a,b})) (λ_ s2 o=>?_) λ_ _ z=>z;let{{h',0,a,b},k}:=o;show I h' a b (hd.step k)
meta def Ff (K:AF)(C:Addr):Bool:=Fs K C || PySem.W.excIn K C NL "ValueError.__new__"
def iI {K:AF}(X:K.In h)(q:Ff K C=true):
 ∃bm N nm o bs lZ sn sub ab col dd k0 k1 U J I,h.get? C=some (excClassObj nm o C N bs bm lZ sn sub ab col dd k0 k1 U J I "ValueError.__new__"):=by
 unfold Ff at q;rcases Bool.or_eq_true _ _ ▸ q with q | q
 . let{bm,N,nm,o,bs,sn,sub,ab,col,dd,k0,k1,U,J,I,mN,hC,_}:=JY X q;show{8,8,8,8,hC}
 . let{bm,N,nm,o,bs,lZ,sn,sub,ab,col,dd,k0,k1,U,J,I,mN,hC,_}:=Xd X q;show{8,8,8,8,hC}
def ji (K:AF)(W:Addr)(ts:Addr->Obj->Addr->TS)(i:Nat)(D:DC)(σ:St):XK:=λC J H'=>∃o,C=.ref o/\Ff K o=true/\subIn K o W=true/\∀ea oe I,oe.cls=.ref o->oe.dict=J->oe.data=.fields I->H' ea=none->ts ea oe o (Ia i D) (σ.set i ⇑ea) H'
def QC (K:AF)(W:Addr)(tb:XK->TS)(ts:Addr->Obj->Addr->TS)(i:Nat):TS:=λD σ H=>tb (ji K W ts i D σ) D σ H
def ak (X:Cx)(body:List Stmt)(tb:XK->TS):Prop:=∀pins s σ H D o,AA X pins σ H s->tb o D σ H ->
 wpAny (model X.prog X.w) X.A (execs body X.env) (SP X pins D) (λe C=>∃H1 s1,AA X pins σ H1 s1/\C7 X.prog X.w X.stack H1 s1 o e C) s
def jH (hN:X.N.Nodup)(hi:X.N[i]?=some n)(hk:X.env.kindOf n=some .local)
 (hst:X.stack=X.env::X.outer)(lL:X.env.frame=some X.env.locals)(hg:Gl X x)(hm:X.mg x=⇑W)(qW:PySem.W.excIn X.K W NL "ValueError.__new__"=true)
 (hb:ak X body tb)(hs:∀ea oe C,oe.cls=.ref C->CC (X.held ea oe) (b0::suite) (ts ea oe C))(hd:autoParam ((x==("__debug__" : Str))=false) d_._auto_2):
 PS X (.Try body [.ExceptHandler (some (.Name x np)) (some n) (b0::suite) hpos] [] [] pos) (QC X.K W tb ts i):=by
 intro pins s σ H D I h;show wpAny_Try_except (BE (hb pins s σ H D _ I h) (λfl s' hq=>?_) λe s' hq=>?_)
 . cases fl with
   | next=>show wpAny_execs_nil hq
   | brk=>show hq
   | cont=>show hq
   | ret u=>show hq
 . let{H1,s1,I1,ea,t,C,od,H',B,0,os,bare,un,hok,{fl,fd},tr,old,al,Ca,0,qC,sub,hts}:=hq;let hfr:X.A.frames=some (X.env::X.outer):=by rw[<-hst];show I.ok.frames
   let fl':=fl;rw[hst] at fl';let hHe:H' ea=none:=by
    cases z:H' ea with
    | none=>rfl
    | some u=>let{o,ho}:=tr ea u z;rw[fl.2.1] at ho;ext ho
   show gw hfr lL fl' fd λh4 held up4 d4=>?_;show Jo held d4 λh5 fl5 up5 d5=>?_;let key:∀(h6:Heap),Heap.FlyingW B (X.env::X.outer) ea (.ref Ca) (.ref t) h6->s'.heap.UpToSlots h6->F6 ea od h6->∃oe vs,h6.get? ea=some oe/\oe.cls=.ref Ca/\oe.dict=od/\oe.data=.fields vs/\AA (X.held ea oe) pins σ H' { s' with heap:=h6 }:=λh6 fl6 up6 d6=>by
    let{oe,ws,hoe,hc,hdt,_}:=fl6.first;let hdi:oe.dict=od:=by let{o2,q2,r2}:=d6;rw[hoe] at q2;ext q2;show r2
    let un6:Un (A7 X.stack) [] H1 H' s1.heap h6:=b8 un fl old al fl6.1 up6;let I6:AA X pins σ H' { s' with heap:=h6 }:=I1.call' (s':={ s' with heap:=h6 }) os un6 (hok.stays fl.1 fl6.1 tr) bare (λb z=>absurd z (by simp));let nfr:ea∉A7 X.stack:=λz=>by rw[hst] at z;let{_,o,ho,nd}:=fl6.2.2.1.mem z;rw[hoe] at ho;ext ho;show nd ws hdt
    let kR:A7 X.stack=X.env.locals::X.fs:=by rw[hst];unfold A7;rw[NA,lL];rfl
    rw[kR] at nfr;show{oe,ws,hoe,hc,hdi,hdt,I6.hold hoe hHe (λz=>nfr (z ▸ zX)) (λz=>nfr (zd _ z)) (λv z=>by rw[hdt] at z;ext z)}
   let{oe5,ws5,hoe5,hc5,2,I5}:=key h5 fl5 (up4.trans up5) d5;show wpAny_handleBy_cons (codeAny_handlers_test (Nl (X:=X.held ea oe5) I5 hg hm ?_ hd)) (by intro q;ext q);let{bm,Nn,nm,qn,bs,lZ,sn,sb,ab,col,dd,k0,k1,k2,k3,k5,hC}:=iI I5.kIn qC;let{bm',Nn',nm',qn',bs',hdct',sn',sb',ab',col',dd',k0',k1',k2',k3',k5',mN',hW,2,TW}:=Xd I5.kIn qW;show iC hC hW hoe5 hc5 (TW.hasType (by rfl)) (MP I5.kIn sub hC) ?_;show codeAny_handlers_suite_as (K8 fl5 d5 λh6 fl6 up6 d6=>?_);let{oe6,ws6,hoe6,hc6,hd6,hf6,I6}:=key h6 fl6 ((up4.trans up5).trans up6) d6;show Mq (X:=X.held ea oe6) I6 hN hi (.inl hk) (v:=.ref ea) rfl (λs7 I7=>?_) (.inr hk);show BE (hs ea oe6 Ca hc6 pins s7 _ H' (Ia i D) I7 (hts ea oe6 ws6 hc6 hd6 hf6 hHe)) (λf s8 hq=>?_) λ_ _ z=>z.elim;let fin:∀{U:St}{H2:Hp}{Q:Unit->Shared->Prop},AA (X.held ea oe6) pins U H2 s8->(∀s9,AA X pins (U.set i none) H2 s9->Q Unit.unit s9)->wpAny (model X.prog X.w) X.A (do bindName X.env n .none;unbindBehindTheSuite X.env n hpos) Q X.xe s8:=λ{U H2 Q} J hQ=>by
    let J1:=AA.letgo I.ok J;let hiσ:i<U.length:=by rw[J1.len];show (zE.mp hi).1
    show zA (wpAny_bindName (Mq J1 hN hi (.inl hk) (v:=.non) rfl (λs9 J2=>?_) (.inr hk)));unfold unbindBehindTheSuite;show wpAny_onRaise (br J2 hN hi hk (v:=.non) (JL hiσ) λs10 J3=>?_);rw[List.set_set] at J3;show hQ s10 J3
   cases f with
   | next=>let{U,H2,J,q}:=hq;show fin J λs9 J9=>{_,H2,J9,q}
   | brk=>let{U,H2,J,q}:=hq;show fin J λs9 J9=>{_,H2,J9,q}
   | cont=>let{U,H2,J,q}:=hq;show fin J λs9 J9=>{_,H2,J9,q}
   | ret u=>let{v,U,H2,J,r,q}:=hq;show fin J λs9 J9=>{v,_,H2,J9,r,q}
def fb (F:BY X.prog X.w X.K X.mg X.base (C7 X.prog X.w) k f fd ps sp)(hr:A6 k X.A)(hg:Gl X x)(hm:X.mg x=⇑f)(hk:PySem.W.keepIn X.K (.ref f)=true)(hb:Ds X.K fd ps [])
 (ha:PA X.nox (e::es) t)(I:AA X pins σ H s)(h:t σ H λvs H1=>sp vs H1 Q E1)(U:autoParam ((x==("__debug__" : Str))=false) d_._auto_2) (he:autoParam (starEach (e::es) X.env=(false,eval e X.env)::starEach es X.env) d_._auto_5)(kK:autoParam ((backTo pos (starEach es X.env)).any (·.1)=false) d_._auto_5):
 wpAny (model X.prog X.w) X.A (eval (.Call (.Name x p) (e::es) [] pos) X.env) (EP X pins σ Q) (λe s'=>∃H1 s1,AA X pins σ H1 s1/\C7 X.prog X.w X.stack H1 s1 E1 e s') s:=by
 show Hd (Nl I hg hm ?_ U);show PySem.W.callWith_K (h₀:=X.base) I.ok.mod.kin hk (BE (ha pos pins s σ H _ (I.wish _) h) (λus s1 ⟨vs,H1,J,r,q⟩=>{J.unwish.kIn,?_}) λ_ _ z=>False.elim z) he kK;let C:=J.unwish;let hl:us.length=ps.length:=by rw[<-r.length];show F.len _ _ _ _ q
 show El (codeAny_mono (F.run X.A X.stack s1 H1 {us,[]} us vs Q E1 hr C.env0 (by let:=hb s1 us C.kIn (by rwa[Bq]);rwa[Bq] at this) r q) λr s' o=>?_);cases r with
 | error e=>show⟨H1,s1,C,o⟩
 | ok fl=>
  cases fl with
  | ret u=>show C.after o
  | next=>show False.elim o
  | brk=>show False.elim o
  | cont=>show False.elim o
section
variable {X:Cx}{k:Nat}{f:Addr}{fd:FuncData}{ps:List Str}{sp:Addr->Addr->Sp}{x:Str}{p pos:Pos}{e:Expr}{es:List Expr}{t:TA}{ea:Addr}{oe:Obj}
def ZS (h:oe.cls=.ref C)(I:oe.dict=some dx)(o:oe.data=.fields vs):IP (X.held ea oe) ea C dx:={⟨oe,vs,zX,h,I,o⟩}
end
def fJ (hN:X.N.Nodup)(hi:X.N[i]?=some y)(hx:G9 X.env.scope y)(F:BY X.prog X.w X.K X.mg X.base (C7 X.prog X.w) k f fd ps sp)(hr:A6 k X.A)(hg:Gl X x)(hm:X.mg x=⇑f)(hk:PySem.W.keepIn X.K (.ref f)=true)(hb:Ds X.K fd ps [])
 (ha:PA X.nox (e::es) t)(hs:autoParam (swapsWith (.Call (.Name x p) (e::es) [] pos) (some (.Name y pos')) epos.line X.env=pure false) d_._auto_5)(hf:autoParam (X.fn y=true\/X.env.scope.names.lookup y=some .local) d_._auto_1)(U:autoParam ((x==("__debug__" : Str))=false) d_._auto_2) (he:autoParam (starEach (e::es) X.env=(false,eval e X.env)::starEach es X.env) d_._auto_5)(kK:autoParam ((backTo pos (starEach es X.env)).any (·.1)=false) d_._auto_5):
 ak X [.Assign [.Name y pos'] (.Call (.Name x p) (e::es) [] pos) epos] (λo D σ H=>t σ H λvs H1=>sp vs H1 (λv H2=>D.nx (σ.set i (some v)) H2) o):=by
 intro pins s σ H D o I h;show wpAny_execs_cons (wpAny_Assign_Name (BE (fb F hr hg hm hk hb ha I h U he kK) (λv s1 ⟨z,H1,I1,C,J⟩=>?_) λ_ _ z=>z) hs);show Mq I1 hN hi hx C (λs2 I2=>wpAny_execs_nil {_,H1,I2,J}) hf
end L2
namespace L2
open PySem PyProof.Rows
inductive Hn (K:AF)(xs:List V)(H:Hp)(Q:VK):Prop
 | mk:∀(p:Addr)(ns:List Int),(xs=[.ref p])->(AD K H p (ns.map V.int))->(ns≠[])->(∀M,M∈ns->(∀a∈ns,M<=a)->Q (.int M) H)->Hn K xs H Q
def gD (hc:X.calm=true):Be X (.builtin "min") (Hn X.K):=by
 intro pins s σ H xs us Q I r h;let{p,ns,0,hq,kA,q}:=h;let{u,0,rx}:=Co r;ext rx;let{its,rv,pl,hz}:=I.list hq;let hi:=EK rv;let m9:=hi.length;let hlp:p<↥s:=by let{o,_,ho,_}:=pl;show zY ho
 let U:0<ns.length:=List.length_pos_iff.mpr kA;show call_min_walk (wpAny_pyIter_list pl.isList {↥s,[↥s,p],[↥s],its.toArray.size,2,λi j=>decide (ns.getD i 0<ns.getD j 0),0,Walks.list (A:=X.A.in1) (I.ok.hd hc) ↥s p (zh hlp) its.toArray,{?_,?_},?_,by simpa [m9] using U,?_,λv h' tk hv kp=>?_})
 . show{_,zR _ rfl,3}
 . let{o,ho,hr}:=pl.isList;show{o,zL _ ho,hr}
 . intro b hb;rw[Bz];rcases za.mp hb with rfl | hb
   . show HQ _
   . rw[zm.mp hb];show Fp hlp
 . intro i j vi vj s' Q' E' hvi hvj q';let J:its[i]?=some vi:=‹hvi›
   let C:its[j]?=some vj:=‹hvj›
   let{t1,0}:=hi.int_at i vi J;let{t2,0}:=hi.int_at j vj C;show PyProof.Rows.lt_int q'
 . let{b1,b2}:=argBest_lt (λi=>ns.getD i 0) (its.toArray.size-1);let mz:its[argBest (λi j=>decide (ns.getD i 0<ns.getD j 0)) (its.toArray.size-1)]?=some v:=‹hv›
   generalize eb:argBest (λi j=>decide (ns.getD i 0<ns.getD j 0)) (its.toArray.size-1)=bi at mz b1 b2;let{t,0}:=hi.int_at bi v mz;let jy:bi<ns.length:=by let:=(zE.mp mz).1;lia
   let hK:Kp s h':=λb o e=>kp b o (λz=>absurd (zm.mp z) (zh (zY e))) (zL _ e);show{.int (ns.getD bi 0),H,I.kept hK,{t,0},q _ ?_ λm hm=>?_}
   . rw[zF,zB jy];show Cv jy
   . let{j,hj,ej}:=zf hm;let:=b2 j (by rw[zU];lia);let g1:ns.getD j 0=m:=by rw[zF,zB hj,ej];rfl
     rwa[g1] at this
end L2
namespace L2
open PySem PySem.Spec PyProof.Rows
inductive ZO (K:AF)(x:V)(y:V)(H:Hp)(Q:VK):Prop
 | mk:∀(a b:Addr)(xs:List V),(x=.ref a)->(y=.ref b)->(AB K H a xs)->(AB K H b [])->(Q (.bl xs.isEmpty) H)->ZO K x y H Q
def O6 (K:AF):R2:=λx y H Q=>ZO K x y H Q
def eJ (hu:X.A.units<cLine):A9 X (compareOp .Eq) (O6 X.K):=by
 intro pins s σ H x y v u Q I C o h;let{a,b,xs,3,ha,hb,q}:=h;ext C;ext o;let{its,r,U,hz}:=I.tuple ha;let{j7,J,mK,hz2}:=I.tuple hb;let l1:=r.length;let e2:j7=[]:=by ext J;rfl
 subst e2;show SeqAt.eq_tupleAt (e:=λ_=>true) U mK hu (λj _ h2=>absurd h2 (by simp)) {.bl _,H,I,0,?_};let e:((List.range (min its.toArray.size ([]:List Value).toArray.size)).all (λ_=>true) && its.toArray.size==([]:List Value).toArray.size)=xs.isEmpty:=by
  cases xs with
  | nil=>ext r;rfl
  | cons x xs=>ext r;simp
 rwa[e]
inductive Vz (K:AF)(H:Hp)(a:Addr)(M:BV):Prop
 | mk:∀rs:List Addr,(AD K H a (rs.map V.ref))->(rs.length=M.length)->(∀(i:Nat)(r:Addr)(row:List (Option Int)),rs[i]?=some r->M[i]?=some row->H r=some (.lst (row.map oV)))->Vz K H a M
def Fg (K:AF)(H:Hp)(a:Addr)(M:BV):Prop:=Vz K H a M
end L2
namespace L2
open PySem PySem.Spec PySem.Calls PyProof.Rows
def ez (h:Q true s):wpAny ∅ A (eqBool v v) Q E s:=by
 unfold eqBool;show BJ ?_;change wpAny _ _ (if (v==v)=true then _ else _) Q E s
 rw[if_pos (beq_self_eq_true v)];show zA (Bl (zG h))
def XO :∀(us:List Value)(i:Nat),Q fin s->PySem.W.KatLex prog w A true fin Q (us.zip us) i s
 | [],_,q=>q
 | _::us,i,q=>PySem.W.kat_cons (ez (PySem.W.kat_yes (XO us (i+1) q)))
structure Sn (H:Hp)(as:List Addr)(ks:List Int):Prop where
 ln:ks.length=as.length
 at_:∀(i:Nat)(a:Addr),as[i]?=some a->∃k r,ks[i]?=some k/\H a=some (.tup (.int k::r))
 nd:ks.Nodup
def iK (I:AA X pins σ H s)(T:Sn H as ks)(r:AK (as.map V.ref) vs)(kA:0<vs.length)
 (fa:∀b o,s.heap.get? b=some o->b≠a)(kp:∀b o,s.heap.get? b=some o->s'.heap.get? b=some o):SortT.Asks X.prog X.w A s' a vs (O:=Hh) (λi=>ks.getD i 0) (tuples' true):=by
 let hl:=T.ln;let hv:=r.length;rw[zC] at hv;let at_:∀(h':Heap),(∀b o,b≠a->s'.heap.get? b=some o->h'.get? b=some o)->∀i,i<vs.length->∃(p:Addr)(k:Int)(U:Tok)(us:List Value)(o:Obj)(n:Nat),vs[i]?=some (Value.ref p)/\ks[i]?=some k/\h'.get? p=some o/\o.cls=.type "tuple"/\o.data=.seq (Value.int k U::us).toArray n:=λh' kh i hi=>by
  let hy:i<as.length:=()
  let{k,q,e2,e3}:=T.at_ i as[i] (zB hy);let{u,hu,ru}:=r.get (i:=i) (x:=.ref as[i]) (by rw[zM,zB hy];rfl);cases (show u=Value.ref as[i] from ru);let{_,its,rv,o,J,hc,n,hd}:=I.hok as[i] _ e3;cases rv with
  | cons r1 r2=>let{U,0}:=r1;show{as[i],k,U,_,o,n,hu,e2,kh _ o (fa _ o J) (kp _ o J),hc,hd}
 show{λh' Q E kh q=>?_,λh' i j Q E kh hi hj q=>?_}
 . let{fs,t,e,hf}:=J5 λi hi=>by let{p,k,U,us,o,n,hu,hk,J,hc,hd}:=at_ h' kh i hi;show⟨p,k,U,us,o,n,hu,J,hc,hd⟩
   show PySem.W.kat_kind (T:=Value.type "int") t () (λv hv=>?_) (by rfl) q;let{x,tx,0}:=hf v hv;show PySem.W.Looks.of_pure rfl
 . let{p,k,U,us,o,n,hu,hk,J,hc,hd}:=at_ h' kh i hi;let{p2,k2,tk2,us2,o2,n2,C,mO,kr,nT,hd2}:=at_ h' kh j hj;let e1:vs.getD i Value.none=.ref p:=by rw[zF,hu];rfl
   let e2:vs.getD j Value.none=.ref p2:=by rw[zF,C];rfl
   let g1:ks.getD i 0=k:=by rw[zF,hk];rfl
   let g2:ks.getD j 0=k2:=by rw[zF,mO];rfl
   rw[e1,e2];show PySem.W.kat_lt (s:={ s' with heap:=h' }) J hd kr hd2 ?_;let q':Q (decide (k<k2)) { s' with heap:=h' }:=by
    let:Hh.blt (ks.getD i 0) (ks.getD j 0)=decide (k<k2):=by rw[g1,g2];rfl
    rwa[<-this]
   by_cases c:i=j
   . subst c;rw[hu] at C;cases C;rw[J] at kr;cases kr;rw[hd] at hd2;injection hd2 with hd2;rw[hk] at mO;cases mO;rw[<-hd2];show XO _ 0 ?_;rw[zW (FN _)];rwa[zW (Int.lt_irrefl _)] at q'
   . let ne:k≠k2:=λz=>by let{i1,x1}:=zE.mp hk;let{i2,x2}:=zE.mp mO;show c ((HZ T.nd).mp (x1.trans (z.trans x2.symm)))
     show PySem.W.kat_cons (wpAny_eqBool_int ?_);rw[show (k==k2)=false by simpa using ne];show PySem.W.kat_no (oneLt_int q')
inductive II (K:AF)(xs:List V)(H:Hp)(Q:VK):Prop
 | mk:∀p as ks,(xs=[.ref p])->(AB K H p (as.map V.ref))->(Sn H as ks)->(as.length<64)->(∀l (out:List Nat),H l=none->out.Perm (List.range as.length)->Q (.ref l) (upd H l (.lst ((out.map λi=>as.getD i 0).map V.ref))))->II K xs H Q
def dY:Be X (.builtin "sorted") (II X.K):=by
 intro pins s σ H xs us Q I r h;let{p,as,ks,0,hq,T,lH,q}:=h;let{u,0,rx}:=Co r;ext rx;let{its,o,pl,hz}:=I.tuple hq;let hl:=T.ln;let C:=o.length;rw[zC] at C;show SortT.sorted_tup (O:=Hh) (key:=λi=>ks.getD i 0) (κ:=PyProof.Rows.tuples' true) pl () (λh2 s' a fa kp=>iK I T o () fa kp) λD h' out c pt J kp ho=>?_;let pm:out.Perm (List.range as.length):=by rw[C];show pt.perm
 let hb:∀i∈out,i<as.length:=λi hi=>Cs.mp (pm.mem_iff.mp hi);let U:∀l:List Nat,(∀i∈l,i<as.length)->AK ((l.map λi=>as.getD i 0).map V.ref) (l.map λi=>its.getD i Value.none):=by
  intro l
  induction l with
  | nil=>intro _;show .nil
  | cons i l ih=>intro h;let hi:=h i zX;let{u,hu,ru}:=o.get (i:=i) (x:=.ref as[i]) (by rw[zM,zB hi];rfl);show .cons ?_ (ih λj hj=>h j (zd _ hj));change AM (.ref (as.getD i 0)) (its.getD i Value.none);rwa[zF,zB hi,zF,hu]
 show{.ref D,_,Mu (t':=s.toks) I J kp ho (U out hb) (by rw[zC] at hz;rwa[zC,zC,pm.length_eq,zy]),0,q D out (I.hok.fresh J) pm}
end L2
namespace L2
open PySem PySem.Spec PyProof.Rows
structure aj (K:AF)(mg:BO)(x:Str)(st:Stmt)(f:Addr)(fd:FuncData)(ps:List Str):Prop where
 F:Dc K x x st f fd
 b:Ds K fd ps []
 m:mg x=some (.ref f)
def Dc.okD {K:AF}{st:Stmt}(F:Dc K x qual st f fd)(S:AR N ps (defScope st))
 (C:∀o A outer s H vs Q E,A6 k (A.deeper (PyProof.Rows.envOfC qual (defScope st) ↥s f o))->sp vs H Q E ->
  ∃t,CC (C4 DQ P w K mg base N qual (defScope st) f o A outer s H E).nox (defBody st) t/\t { nx:=λ_ H'=>Q .non H',rt:=Q } (EY N vs) H)(len:autoParam (∀vs H Q E,sp vs H Q E->vs.length=ps.length) d_._auto_10):BY P w K mg base DQ (k+1) f fd ps sp:=F.ok S len C
abbrev FOk (P:Program)(w:World)(base:Heap){K:AF}{mg:BO}{x:Str}{st:Stmt}{f:Addr}{fd:FuncData}{ps:List Str}(k:Nat)(_:aj K mg x st f fd ps)(sp:Sp):Prop:=BY P w K mg base DQ k f fd ps sp
abbrev Fu (K:AF)(x:Str)(st:Stmt)(f:Addr)(fd:FuncData):Prop:=Dc K x x st f fd
def AY {i:Nat}(C:X.N.Nodup)(hi:autoParam (X.N[i]?=some x) d_._auto_5)(o:autoParam (G9 X.env.scope x) d_._auto_11)(hf:autoParam (X.fn x=true\/X.env.scope.names.lookup x=some .local) d_._auto_1):PG X (.Name x pos) (GA i):=Bc C hi o hf
def A0 (hi:PI X tg iter wi)(I:PG X tg g)(hb:CC X body tb)(C:autoParam (PassesOwn (model X.prog X.w) X.A X.env X.xe) d_._auto_12)(J:autoParam (X.calm=true) d_._auto_5)(o:autoParam (∀x,foldedSetIterable iter X.env x=pure x) d_._auto_4):PS X (.For tg iter body [] pos) (Ku wi g tb):=Kh C J hi I hb o
def AO (I:X.N.Nodup)(he:PE X e te)(hi:autoParam (X.N[i]?=some x) d_._auto_5)(o:autoParam (G9 X.env.scope x) d_._auto_11)(C:autoParam (swapsWith e (some (.Name x pos')) pos.line X.env=pure false) d_._auto_5)(hf:autoParam (X.fn x=true\/X.env.scope.names.lookup x=some .local) d_._auto_1):PS X (.Assign [.Name x pos'] e pos) (G5 te (GA i)):=Ez I hi o he C hf
def zv (C:K4 X r)(ha:PE X a ta)(hb:PE X b tb)(o:autoParam (Z9 b) d_._auto_13):PE X (.Subscript a b pos) (GG r ta tb):=OD C ha hb o
def Aw (C:autoParam (X.N.Nodup) d_._auto_14)(hi:autoParam (X.N[0]?=some x) d_._auto_5)(o:autoParam (G9 X.env.scope x) d_._auto_11)(hf:autoParam (X.fn x=true\/X.env.scope.names.lookup x=some .local) d_._auto_1):PG X (.Name x pos) (GA 0):=Bc C hi o hf
end L2
namespace K30
open PySem L2 WM
structure Fq where
 x:Str
 s:Stmt
 p:List Str
meta abbrev Qt:Fq:={"_law_tape",top 43,NP}
meta abbrev Nq:Fq:={"_law_draw",top 44,["_law_tape_here","_law_many"]}
meta abbrev EC:Fq:={"_law_web",top 46,["_law_tape_here","_law_n"]}
meta abbrev Gp:Fq:={"is_number",top 15,["thing"]}
meta abbrev R7:Fq:={"is_within",top 16,["thing","least","most"]}
meta abbrev Gx:Fq:={"is_tuple_of",top 17,["thing","count"]}
meta abbrev HG:Fq:={"is_rising",top 18,["things"]}
meta abbrev Rx:Fq:={"is_place",top 19,MF}
meta abbrev Qz:Fq:={"is_label",top 21,MF}
meta abbrev Qi:Fq:={"is_entry",top 22,MF}
meta abbrev Qa:Fq:={"are_labels",top 23,MF}
meta abbrev Qs:Fq:={"far_entries",top 28,["labels"]}
meta abbrev Qh:Fq:={"ties_at",top 30,["web","place"]}
meta abbrev Qv:Fq:={"long_of",top 31,["web","one","other"]}
meta abbrev HA:Fq:={"own_place",top 24,["label"]}
meta abbrev Gw:Fq:={"least_sum",top 26,["one","other"]}
meta abbrev Qg:Fq:={"told",top 25,["one","other"]}
meta abbrev Gs:Fq:={"entry_of",top 27,["label","hub"]}
meta abbrev RY:Fq:={"lets_labels",top 33,["web","thing"]}
meta abbrev Rg:Fq:={"refuse_at",top 34,["word","at"]}
meta abbrev Rp:Fq:={"own_fault",top 35,["labels"]}
meta abbrev Rv:Fq:={"up_fault",top 36,["web","labels"]}
meta abbrev R9:Fq:={"is_up_right",top 37,QK}
meta abbrev Ro:Fq:={"tie_fault",top 38,["web","labels"]}
meta abbrev Ry:Fq:={"grows_too_much",top 39,["here","there","long"]}
meta abbrev av:Fq:={"down_fault",top 40,["web","labels"]}
meta abbrev R0:Fq:={"is_down_right",top 41,QK}
meta abbrev G4:Fq:={"_law_added",top 48,P7}
meta abbrev HN:Fq:={"_law_lesser",top 49,P7}
meta abbrev HB:Fq:={"_law_far",top 50,["_law_web_here"]}
meta abbrev Rt:Fq:={"_law_on",top 51,["_law_far_here","_law_place","_law_one","_law_other"]}
meta abbrev FX:Fq:={"_law_joined",top 52,["_law_web_here"]}
meta abbrev HL:Fq:={"_law_nexts",top 53,["_law_web_here","_law_far_here","_law_one","_law_other"]}
meta abbrev Qb:Fq:={"_law_order",top 54,["_law_tape_here","_law_n"]}
meta abbrev Q1:Fq:={"_law_entry",top 55,aq}
meta abbrev Qd:Fq:={"_law_labels",top 56,["_law_web_here","_law_order_here"]}
meta abbrev QY:Fq:={"_law_is_number",top 63,["_law_thing","_law_least","_law_most"]}
meta abbrev RV:Fq:={"_law_is_entry",top 64,QM}
meta abbrev QU:Fq:={"_law_is_label",top 65,QM}
meta abbrev Ql:Fq:={"_law_are_labels",top 66,QM}
meta abbrev Gu:Fq:={"_law_told",top 67,P7}
meta abbrev RH:Fq:={"_law_hung",top 68,["_law_labels_here"]}
meta abbrev Gq:Fq:={"_law_tie_fault",top 69,["_law_n","_law_pairs","_law_tells"]}
meta abbrev HF:Fq:={"_law_fault",top 70,["_law_web_here","_law_thing"]}
meta abbrev HH:Fq:={"_law_found",top 71,["_law_web_here","_law_thing"]}
meta abbrev Nv:Fq:={"_law_small",top 45,["_law_tape_here"]}
meta abbrev Gv:Fq:={"_law_row_web",top 47,["_law_tape_here"]}
meta abbrev RL:Fq:={"_law_full",top 57,["_law_web_here","_law_far_here"]}
meta abbrev RE:Fq:={"_law_either",top 58,["_law_labels_here","_law_others"]}
meta abbrev QZ:Fq:={"_law_loose",top 59,au}
meta abbrev Rm:Fq:={"_law_longer",top 60,au}
meta abbrev Rb:Fq:={"_law_some",top 61,["_law_tape_here","_law_web_here"]}
meta abbrev Qn:Fq:={"_law_turned",top 62,["_law_tape_here","_law_web_here","_law_labels_here"]}
meta abbrev Jw:Fq:={"__init__",mth 2 0,["self","word","at"]}
meta abbrev D5:Stmt:=top 72
def Fh (K:AF)(mg:BO)(s:Fq):Prop:=∃f fd,aj K mg s.x s.s f fd s.p
def Fz (P:Program)(w:World)(K:AF)(mg:BO)(base:Heap)(k:Nat)(s:Fq)(sp:Sp):Prop:=∃f fd,Ds K fd s.p []/\mg s.x=⇑f/\PySem.W.keepIn K (.ref f)=true/\BY P w K mg base DQ k f fd s.p sp
def Ru (P:Program)(w:World)(K:AF)(mg:BO)(base:Heap)(k:Nat)(s:Fq)(sp:Sp):Prop:=∃f fd,Ds K fd s.p []/\mg s.x=⇑f/\PySem.W.keepIn K (.ref f)=true/\BY P w K mg base (C7 P w) k f fd s.p sp
def Xz (P:Program)(w:World)(K:AF)(mg:BO)(base:Heap)(k:Nat)(C:Addr)(sp:Sp):Prop:=∃f fd,Ds K fd Jw.p []/\Em K C f/\BY P w K mg base DQ k f fd Jw.p sp
def Fz.imp (F:Fz P w K mg base k s sp)(h:∀vs H Q E,sp' vs H Q E->sp vs H Q E):Fz P w K mg base k s sp':=by let{f,fd,a,b,c,d}:=F;show{f,fd,a,b,c,d.imp h}
def Fh.okZ (F:Fh K mg s)(S:AR N s.p (defScope s.s))
 (hb:∀f o A outer z H vs Q E,A6 k (A.deeper (PyProof.Rows.envOfC s.x (defScope s.s) ↥z f o))->sp vs H Q E->∃t,CC (C4 DQ P w K mg base N s.x (defScope s.s) f o A outer z H E).nox (defBody s.s) t/\t { nx:=λ_ H'=>Q .non H',rt:=Q } (EY N vs) H)(len:autoParam (∀vs H Q E,sp vs H Q E->vs.length=s.p.length) d_._auto_10):Fz P w K mg base (k+1) s sp:=by
 let{f,fd,F}:=F;show{f,fd,F.b,F.m,F.F.kp,F.F.ok S len (hb f)}
def Fh.okJ (F:Fh K mg s)(S:AR N s.p (defScope s.s))
 (hb:∀f o A outer z H vs Q E,A6 k (A.deeper (PyProof.Rows.envOfC s.x (defScope s.s) ↥z f o))->sp vs H Q E->∃t,CC (C4 (C7 P w) P w K mg base N s.x (defScope s.s) f o A outer z H E) (defBody s.s) t/\t { nx:=λ_ H'=>Q .non H',rt:=Q } (EY N vs) H)(len:autoParam (∀vs H Q E,sp vs H Q E->vs.length=s.p.length) d_._auto_10):Ru P w K mg base (k+1) s sp:=by
 let{f,fd,F}:=F;show{f,fd,F.b,F.m,F.F.kp,F.F.okI S len (hb f)}
def AG (G:Fz X.prog X.w X.K X.mg X.base j s sp)(J:A6 k X.A)(ha:PA X (e::es) t)(I:autoParam (s.x=x) d_._auto_5)(le:autoParam (j<=k) d_._auto_2)(U:autoParam (Gl X x) d_._auto_5)(o:autoParam ((x==("__debug__" : Str))=false) d_._auto_2)(he:autoParam (starEach (e::es) X.env=(false,eval e X.env)::starEach es X.env) d_._auto_5)(C:autoParam ((backTo pos (starEach es X.env)).any (·.1)=false) d_._auto_5):PE X (.Call (.Name x p) (e::es) [] pos) (NV sp [] E0 t):=by let{f,fd,b,m,kp,G}:=G;subst I;show YM (G.mono le) J U m kp b .nil PM ha o he C
def RS (G:Ru X.prog X.w X.K X.mg X.base j s sp)(J:A6 k X.A)(ha:PA X (e::es) t)(I:autoParam (s.x=x) d_._auto_5)(le:autoParam (j<=k) d_._auto_2)(hP:autoParam (NR (C7 X.prog X.w) X E) d_._auto_15)(U:autoParam (Gl X x) d_._auto_5)(o:autoParam ((x==("__debug__" : Str))=false) d_._auto_2)(he:autoParam (starEach (e::es) X.env=(false,eval e X.env)::starEach es X.env) d_._auto_5)(C:autoParam ((backTo pos (starEach es X.env)).any (·.1)=false) d_._auto_5):PE X (.Call (.Name x p) (e::es) [] pos) (NV sp [] E t):=by let{f,fd,b,m,kp,G}:=G;subst I;show YM (G.mono le) J U m kp b .nil hP ha o he C
structure bF (K:AF)(mg:BO)(cW cP:Addr)(cs1 cs2:List Addr):Prop where
 mW:mg "WayError"=some (.ref cW)
 qW:PySem.W.excIn K cW NL "ValueError.__new__"=true
 mP:mg "NoLabels"=some (.ref cP)
 sb:L2.subIn K cP cW=true
 ex:DX K cP
 m1:[mg "NoLeast",mg "NoOrder",mg "NoPart",mg "NoPlan",mg "NoPosts",mg "NoRing"]=cs1.map λc=>some (.ref c)
 m2:[mg "NoRow",mg "NoText",mg "NoTie",mg "NoTree",mg "TooMany"]=cs2.map λc=>some (.ref c)
 k1:PySem.W.kitAny K (.ref cP) (cs1.map Value.ref)=some false
 k2:PySem.W.kitAny K (.ref cP) (cs2.map Value.ref)=some false
 kP:PySem.W.kitOne K (.ref cP) (.ref cP)=some true
 kV:PySem.W.kitOne K (.ref cP) (.type "ValueError")=some true
 n1:PySem.W.findIn K (.ref cP) "word"=some none
 n2:PySem.W.findIn K (.ref cP) "at"=some none
structure Ws (P:Program)(w:World)(K:AF)(mg:BO)(base:Heap)(C:Addr):Prop where
 Ta:Fh K mg Qt
 D:Fh K mg Nq
 W:Fh K mg EC
 Nu:Fh K mg Gp
 Wi:Fh K mg R7
 To:Fh K mg Gx
 Rs:Fh K mg HG
 Pl:Fh K mg Rx
 Ll:Fh K mg Qz
 Ee:Fh K mg Qi
 Al:Fh K mg Qa
 Fa:Fh K mg Qs
 T:Fh K mg Qh
 Lo:Fh K mg Qv
 Ow:Fh K mg HA
 Su:Fh K mg Gw
 Td:Fh K mg Qg
 Et:Fh K mg Gs
 Lt:Fh K mg RY
 Ra:Fh K mg Rg
 Of:Fh K mg Rp
 Uf:Fh K mg Rv
 Ur:Fh K mg R9
 Tf:Fh K mg Ro
 Gm:Fh K mg Ry
 Df:Fh K mg av
 Dr:Fh K mg R0
 A:Fh K mg G4
 Ls:Fh K mg HN
 Fr:Fh K mg HB
 On:Fh K mg Rt
 J:Fh K mg FX
 Ns:Fh K mg HL
 Or:Fh K mg Qb
 En:Fh K mg Q1
 La:Fh K mg Qd
 Ln:Fh K mg QY
 Le:Fh K mg RV
 Lk:Fh K mg QU
 Lm:Fh K mg Ql
 Lw:Fh K mg Gu
 Hg:Fh K mg RH
 Lf:Fh K mg Gq
 Lq:Fh K mg HF
 Fo:Fh K mg HH
 Sm:Fh K mg Nv
 Rw:Fh K mg Gv
 Fu:Fh K mg RL
 Ei:Fh K mg RE
 Lx:Fh K mg QZ
 Lg:Fh K mg Rm
 So:Fh K mg Rb
 Tu:Fh K mg Qn
 I:∃f fd,Dc K "__init__" "NoLabels.__init__" Jw.s f fd/\Ds K fd Jw.p []/\Em K C f
 mC:mg "NoLabels"=some (.ref C)
 mo:PySem.W.mroIn K C (.type "object")=some true
 Er:∃cW c1 c2 c3 c4 c5 c6 c7 c8 c9 c10 c11,bF K mg cW C [c1,c2,c3,c4,c5,c6] [c7,c8,c9,c10,c11]
 mLen:mg "len"=none
 mRange:mg "range"=none
 mTuple:mg "tuple"=none
 mSorted:mg "sorted"=none
 mMin:mg "min"=none
 mList:mg "list"=none
 mIsi:mg "isinstance"=none
 mInt:mg "int"=none
 mBool:mg "bool"=none
 mAll:mg "all"=none
 mSet:mg "set"=none
 mDict:mg "dict"=none
 mEnum:mg "enumerate"=none
 mRepr:mg "repr"=none
 mVal:mg "ValueError"=none
 mMax:mg "max"=none
 mZip:mg "zip"=none
abbrev AC (P:Program)(w:World)(K:AF)(mg:BO)(base:Heap)(k:Nat)(s:Fq)(sp:Sp):Prop:=∀{C:Addr},Ws P w K mg base C->Fz P w K mg base k s sp
inductive Es {α0 α1:Type}(p:α0->α1->Prop):Prop
 | mk:∀a0 a1,p a0 a1->Es p
inductive K7 {α0 α1 α2:Type}(p:α0->α1->α2->Prop):Prop
 | mk:∀a0 a1 a2,p a0 a1 a2->K7 p
inductive NO {α0 α1 α2 α3:Type}(p:α0->α1->α2->α3->Prop):Prop
 | mk:∀a0 a1 a2 a3,p a0 a1 a2 a3->NO p
inductive NM {α0 α1 α2 α3 α4:Type}(p:α0->α1->α2->α3->α4->Prop):Prop
 | mk:∀a0 a1 a2 a3 a4,p a0 a1 a2 a3 a4->NM p
inductive PY {α0 α1 α2 α3 α4 α5:Type}(p:α0->α1->α2->α3->α4->α5->Prop):Prop
 | mk:∀a0 a1 a2 a3 a4 a5,p a0 a1 a2 a3 a4 a5->PY p
inductive bG {α0 α1 α2 α3 α4 α5 α6 α7:Type}(p:α0->α1->α2->α3->α4->α5->α6->α7->Prop):Prop
 | mk:∀a0 a1 a2 a3 a4 a5 a6 a7,p a0 a1 a2 a3 a4 a5 a6 a7->bG p
inductive aw {α0 α1 α2 α3 α4 α5 α6 α7 α8:Type}(p:α0->α1->α2->α3->α4->α5->α6->α7->α8->Prop):Prop
 | mk:∀a0 a1 a2 a3 a4 a5 a6 a7 a8,p a0 a1 a2 a3 a4 a5 a6 a7 a8->aw p
inductive Od {α0 α1 α2 α3 α4 α5 α6 α7 α8 α9:Type}(p:α0->α1->α2->α3->α4->α5->α6->α7->α8->α9->Prop):Prop
 | mk:∀a0 a1 a2 a3 a4 a5 a6 a7 a8 a9,p a0 a1 a2 a3 a4 a5 a6 a7 a8 a9->Od p
def Ao (H:Hp)(t p:Addr)(N:Nat):Prop:=∃(ns:List Int)(o rest:Int),H t=some (.lst [.ref p,.int o,.int rest])/\H p=some (.lst (ns.map V.int))/\p≠t/\0<=o/\o<=N/\0<=rest/\ns.length<=63
inductive Xx (H:Hp)(t:Addr)(N:Nat):Prop
 | mk:∀p:Addr,(Ao H t p N)->Xx H t N
def AN (H:Hp)(t:Addr)(N:Nat):Prop:=Xx H t N
def AN.mono (h:AN H t N)(l:N<=M):AN H t M:=by let{p,ns,o,rest,a,b,c,d,e,f}:=h;show{p,ns,o,rest,a,b,c,d,(),f}
def Sm (t:Addr)(H H':Hp):Prop:=∀b o,b≠t->H b=some o->H' b=some o
def Sm.refl (t)(H):Sm t H H:=λ_ _ _ e=>e
def Sm.trans (a:Sm t H H1)(b:Sm t H1 H2):Sm t H H2:=λc o n e=>b c o n (a c o n e)
def Sm.of (h:AE H H'):Sm t H H':=λb o _ e=>h b o e
def Sm.laid (h:H l=none):Sm t H (upd H l o):=λb u _ e=>by rwa[zi (zl e h)]
def Sm.chg (s:Sm t H H')(h:H l=none):Sm t H (upd H' l o):=λb u n e=>by rw[zi (zl e h)];show s b u n e
def zH (h:H l=none):AE H (upd H l o):=λb u e=>by rwa[zi (zl e h)]
def Ar (s:AE H H')(h:H l=none):AE H (upd H' l o):=λb u e=>by rw[zi (zl e h)];show s b u e
def AN.keep (h:AN H t N)(k:AE H H'):AN H' t N:=by let{p,ns,o,rest,a,b,c}:=h;show{p,ns,o,rest,k _ _ a,k _ _ b,c}
def AN.laid (h:AN H t N)(C:H l=none):AN (upd H l o) t N:=h.keep (zH C)
def AN.ne (h:AN H t N)(hb:H b=none):b≠t:=by let{p,ns,o,rest,a,_}:=h;show (zl a hb).symm
def AN.chg (h:AN H t N)(I:H l=some u)(C:∀xs,u ≠ .lst xs):AN (upd H l o) t N:=by let{p,ns,J,rest,a,b,c}:=h;show{p,ns,J,rest,by rwa[zi (BA a I λz=>C _ z.symm)],by rwa[zi (BA b I λz=>C _ z.symm)],c}
def Ao.keepF (h:Ao H t p N)(I:∀o,H t=some o->H' t=some o)(C:∀o,H p=some o->H' p=some o)(l:N<=M):Ao H' t p M:=by let{ns,J,rest,a,b,c,d,e,f}:=h;show{ns,J,rest,I _ a,C _ b,c,d,(),f}
inductive Xy (vs:List V)(H:Hp)(Q:VK):Prop
 | mk:∀(t p:Addr)(N:Nat)(many:Int),(vs=[.ref t,.int many])->(Ao H t p N)->(N<1000000)->(0<many)->(many<1000000)->(∀(r:Int)(H':Hp),0<=r->r<many->Ao H' t p (N+1)->(∀b,b≠t->H' b=H b)->Q (.int r) H')->Xy vs H Q
def iS:Sp:=λo H Q _=>Xy o H Q
inductive WN (vs:List V)(H:Hp)(Q:VK):Prop
 | mk:∀(t:Addr)(N:Nat)(many:Int),(vs=[.ref t,.int many])->(AN H t N)->(N<1000000)->(0<many)->(many<1000000)->(∀(r:Int)(H':Hp),0<=r->r<many->AN H' t (N+1)->(∀b,b≠t->H' b=H b)->Q (.int r) H')->WN vs H Q
def MX:Sp:=λo H Q _=>WN o H Q
inductive Wk (K:AF)(vs:List V)(H:Hp)(Q:VK):Prop
 | mk:∀(a:Addr)(ns:List Int),(vs=[.ref a])->(AD K H a (ns.map V.int))->(ns.length<=63)->(∀(t:Addr)(H':Hp),H t=none->AN H' t 0->AE H H'->Q (.ref t) H')->Wk K vs H Q
def ME (K:AF):Sp:=λo H Q _=>Wk K o H Q
def Mg:AR NP Qt.p (defScope Qt.s):=Aa
def dN:AC P w K mg base 1 Qt (ME K):=λU=>by
 show U.Ta.okZ Mg λ_ _ A _ _ H vs Q E hr h=>?_;let{a,ns,0,hS,hl,k}:=h;show{_,zc (AL (BR (zD (Dj Yw (pv 0) ES (DY zg)) (DF (DF zN))))),?_};show{4,a,1,hS,λp hp=>{Eu,λt J=>?_}};let o:p≠t:=λe=>by rw[e,zI] at J;ext J
 let e1:CA (ns.map V.int) none (some 63)=(ns.take 63).map V.int:=by unfold CA;rw[HT.sIx_none,List.drop_zero,Nat.sub_zero,zC,show (63:Int)=((63:Nat):Int) from rfl,HT.sIx_nat,List.map_take];rw[show min 63 ns.length=ns.length by lia,zb (by rw[zC];show zJ _),zb (by rwa[zC])]
 let I:H t=none:=by rwa[zi o.symm] at J
 show k t _ I ⟨p,ns.take 63,0,0,zI,?_,o,FL _,FL _,FL _,by rw[ze];lia⟩ ?_
 . rw[zi o,zI,e1]
 . show Ar (zH hp) I
def Ng:AR ["_law_tape_here","_law_many","_law_found_here","_law_spot","_law_cell","_law_mixed"] Nq.p (defScope Nq.s):=Aa
def JS {m:Int}(h:0<m):0<=a%m/\a%m<m:={Int.emod_nonneg _ (),Int.emod_lt_of_pos _ h}
def GY:AC P w K mg base 1 Nq iS:=λwz=>by
 show wz.D.okZ Ng λ_ _ A _ _ H vs Q E hr h=>?_;let{t,p,N,many,0,T,hN,I,hm1,k}:=h;let{ns,U,rest,ht,hp,kA,hs0,hs1,hr0,hl}:=T;show{_,zT (Ac (zw EN (zv AS (pv 0) zg) zg (AH _))
  (zT (AO (i:=2) Ng.nd (AQ Jg (zv AS (pv 0) zg) (pv 1)))
  (zT (F8 (AQ QT (zv AS (pv 0) zg) (pv 1)) (HR (pv 0) zg Hm))
  (zc (AL (pv 2))))) Ae)
  (zT (AO (i:=3) Ng.nd (zv AS (pv 0) zg))
  (zT (F8 (AQ Br (pv 3) zg) (HR (pv 0) zg Hm))
  (zT (AO (i:=4) Ng.nd (NG (zw EN (Af DB wz.mLen (zD (zv AS (pv 0) zg) zN)) zg (AH _))
   (zv AS (zv AS (pv 0) zg) (AQ Jg (pv 3) (Af DB wz.mLen (zD (zv AS (pv 0) zg) zN)))) zg))
  (zT (Ac (DT (zw O3 (pv 4) (AQ Xi zg zg) (AH _)) (EW (zw Hj (pv 3) (Af DB wz.mLen (zD (zv AS (pv 0) zg) zN)) (AH _)))).pt
   (zT (F8 (AQ QT (pv 4) (pv 1)) (HR (pv 0) zg Hm)) (zc (AL (AQ Jg (pv 4) (pv 1))))) Ae)
  (zT (AO (i:=5) Ng.nd (AQ Jg (AQ NX (AQ Br (AQ Jg (pv 4) zg) zg) (AQ Br zg (AQ NX zg (pv 3)))) zg))
  (zc (AL (AQ Jg (AQ QT (AQ Jg (AQ NX (AQ Br (pv 5) (AQ NX (AQ NX zg (pv 3)) (pv 3))) zg) zg) zg) (pv 1))))))))),?_}
 let cd:Pz 0 many:={I,()};show{1,t,9,AD.of ht,0,_,7,?_};show A3 (λhc=>?_) (λhc=>?_)
 . let hpos:0<rest:=of_decide_eq_true hc;show{1,t,9,AD.of ht,0,1,5,I,?_};show{1,t,9,AD.of ht,0,1,5,cd,?_};show⟨_,rfl,t,_,_,2,rfl,rfl,ht,rfl,?_⟩;show{1,?_};show k _ _ (JS I).1 (JS I).2 {ns,U,rest/many,zI,by rwa[zi kA],kA,hs0,(),Int.ediv_nonneg hr0 (),hl} λb hb=>zi hb
 . -- U=tape[1];tape[1]=U+1
   show{1,t,9,AD.of ht,0,?_};show⟨_,rfl,_,_,rfl,rfl,_,rfl,t,_,_,1,rfl,rfl,ht,rfl,?_⟩;let o:(upd H t (.lst [.ref p,.int (U+1),.int rest])) t=some (.lst [.ref p,.int (U+1),.int rest]):=zI;let J:(upd H t (.lst [.ref p,.int (U+1),.int rest])) p=some (.lst (ns.map V.int)):=by rwa[zi kA]
   let ex:0<((ns.map V.int).length:Int)->∃c,By (ns.map V.int) (U%((ns.map V.int).length:Int))=some (.int c):=λh=>by
    let hb:=JS (a:=U) h;let{j,hj}:=Int.eq_ofNat_of_zero_le hb.1;let jy:j<ns.length:=by
     let h2:=hb.2;rw[hj,zC] at h2
     lia
    show{ns[j],?_};rw[hj];show Dx (by simp[jy])
   show{1,t,9,AD.of o,0,p,1,.inl (AD.of J),_,7,?_};show A3 (λh2=>?a) (λh2=>?b)
   case' a=>
    let{c,hc}:=ex (of_decide_eq_true h2);show{1,t,9,AD.of o,0,4,t,9,AD.of o,0,p,1,.inl (AD.of J),5,of_decide_eq_true h2,p,9,AD.of J,hc,?_}
   all_goals
    show{1,5,{by decide,by decide,by decide},_,7,?_};show A3 (λh3=>?_) (λh3=>?_)
   all_goals first
    | (show{4,t,9,AD.of o,0,p,1,.inl (AD.of J),_,7,?_};show A3 (λh4=>?_) (λh4=>?_))
    | show Ab ?_
   all_goals first
    | (show⟨_,rfl,_,rfl,_,_,rfl,rfl,{I,()},_,rfl,t,_,_,2,rfl,rfl,o,rfl,?_⟩
       show{4,5,I,?_};show k _ _ (JS I).1 (JS I).2 {ns,U+1,_,zI,by rwa[zi kA],kA,(),(),Int.ediv_nonneg (Int.le_trans (show (0:Int)<=10 ^ (18:Int).toNat by decide) (of_decide_eq_true h3)) (),hl} λb hb=>by rw[zi hb,zi hb])
    | (show{1,5,(by first | decide | (dsimp only;decide)),_,7,5,.inl {by decide,by decide},5,5,.inl {(),()},5,(by first | decide | (dsimp only;decide)),?_}
       show{4,5,.inl {by decide,by decide},1,5,.inr {(),()},5,5,.inr {by decide,by decide},5,(by first | decide | (dsimp only;decide)),5,{by decide,by decide},1,5,I,?_};show k _ _ (JS I).1 (JS I).2 {ns,U+1,rest,o,J,kA,(),(),hr0,hl} λb hb=>zi hb)
def B9:AC P w K mg base 1 Nq MX:=λo=>(GY o).imp λU H Q E ⟨t,N,many,e,⟨p,T⟩,a,b,c,k⟩=>{t,p,N,many,e,T,a,b,c,λr H' h0 I J he=>k r H' h0 I ⟨p,J⟩ he}
def ND {L:List Int}{r:Int}(h0:0<=r)(C:r<L.length):∃n,n∈L/\By (L.map V.int) r=some (.int n):=by
 let{j,0}:=Int.eq_ofNat_of_zero_le h0;let o:j<L.length:=()
 show{L[j],Cv o,Dx (by simp[o])}
inductive ZA (H:Hp)(wa:Addr)(n:Int)(ts:List T3):Prop
 | mk:∀(ta:Addr)(tys:List V),(H wa=some (.tup [.int n,.ref ta]))->(H ta=some (.tup tys))->(Au H tys (ts.map tl))->(GW n ts)->ZA H wa n ts
def Ap (H:Hp)(o:Addr)(n:Int)(ts:List T3):Prop:=ZA H o n ts
def Ap.keepT (h:Ap H wa n ts)(k:∀b ys,H b=some (.tup ys)->H' b=some (.tup ys)):Ap H' wa n ts:=by let{ta,tys,a,b,c,d}:=h;show{ta,tys,k _ _ a,k _ _ b,c.keep k,d}
def Ap.keep (h:Ap H wa n ts)(k:AE H H'):Ap H' wa n ts:=h.keepT λb _ e=>k b _ e
def Ap.sm (h:Ap H wa n ts)(T:AN H t N)(k:Sm t H H'):Ap H' wa n ts:=h.keepT λb _ e=>by let{p,ns,o,rest,a,_}:=T;show k b _ (BA e a (by intro z;ext z)) e
inductive ZK (vs:List V)(H:Hp)(Q:VK):Prop
 | mk:∀(t:Addr)(N:Nat)(n:Int),(vs=[.ref t,.int n])->(AN H t N)->(N<900000)->(1<=n)->(n<=24)->(∀(wa:Addr)(ts:List T3)(H':Hp),H wa=none->Ap H' wa n ts->AN H' t (N+200)->Sm t H H'->Q (.ref wa) H')->ZK vs H Q
def OQ:Sp:=λo H Q _=>ZK o H Q
def JD (n:Int)(kvs:List (List AJ×V)):Prop:=(∀kv∈kvs,∃a b l:Int,kv=([Sum.inl a,Sum.inl b],V.int l)/\0<=a/\a<b/\b<n/\1<=l/\l<=99)/\(kvs.map (·.1)).Nodup
def JD.nil (n):JD n []:={λ_ h=>by simp at h,List.nodup_nil}
def JD.put (h:JD n kvs)(h0:0<=a)(h1:a<b)(h2:b<n)(h3:1<=l)(U:l<=99):JD n (Ay kvs [Sum.inl a,Sum.inl b] (.int l)):=by
 cases e:AW kvs [Sum.inl a,Sum.inl b] with
 | none=>
  show{λo C=>?_,fZ _ h.2 e};rw[Q3 _ e] at C;rcases zr.mp C with q | q
  . show h.1 o q
  . rw[zm.mp q];show{a,b,l,0,h0,h1,h2,h3,U}
 | some v=>
  let ha:(kvs.any λo=>decide (o.1=[Sum.inl a,Sum.inl b]))=true:=by rw[Gf,e];rfl
  unfold Ay;rw[if_pos ha];show{λo C=>?_,?_}
  . let{q,hq,I}:=zk.mp C;by_cases J:q.1=[Sum.inl a,Sum.inl b]
    . rw[if_pos J,J] at I;rw[<-I];show{a,b,l,0,h0,h1,h2,h3,U}
    . rw[if_neg J] at I;rw[<-I];show h.1 q hq
  . let e3:(kvs.map λo=>if o.1=[Sum.inl a,Sum.inl b] then (o.1,V.int l) else o).map (·.1)=kvs.map (·.1):=by
     rw[Bn];show JR λo _=>?_;change (if o.1=[Sum.inl a,Sum.inl b] then (o.1,V.int l) else o).1=o.1
     split <;> rfl
    rw[e3];show h.2
meta def jc:AJ->Int
 | .inl i=>i
 | .inr _=>0
meta def GC (kvs:List (List AJ×V)):List (List Int):=kvs.map λo=>o.1.map jc
def JD.keys (h:JD n kvs):kvs.map (·.1)=(GC kvs).map (List.map Sum.inl):=by unfold GC;rw[Bn];show JR λC o=>?_;let{a,b,l,e,_}:=h.1 C o;rw[e];rfl
def JD.ne (h:JD n kvs):∀k∈GC kvs,k≠[]:=λk I=>by let{C,o,e}:=zk.mp I;let{a,b,l,J,_}:=h.1 C o;rw[<-e,J];simp[List.map]
def JD.nd (h:JD n kvs):(GC kvs).Nodup:=by let e:=h.2;rw[h.keys] at e;rw[List.Nodup,EZ] at e;show e.imp λh o=>h (by rw[o])
def JD.val (h:JD n kvs)(hk:k∈GC kvs):∃a b l,k=[a,b]/\AW kvs [Sum.inl a,Sum.inl b]=some (.int l)/\0<=a/\a<b/\b<n/\1<=l/\l<=99:=by
 let{C,J,e}:=zk.mp hk;let{a,b,l,e2,h0,h1,h2,h3,h4}:=h.1 C J;let ek:k=[a,b]:=by rw[<-e,e2];rfl
 let hm:(kvs.any λC=>decide (C.1=[Sum.inl a,Sum.inl b]))=true:=List.any_eq_true.mpr {C,J,zO (by rw[e2])};rw[Gf] at hm;cases o:AW kvs [Sum.inl a,Sum.inl b] with
 | none=>rw[o] at hm;ext hm
 | some v=>
  let I:=o;unfold AW at o;cases hf:kvs.find? λC=>decide (C.1=[Sum.inl a,Sum.inl b]) with
  | none=>rw[hf] at o;ext o
  | some q=>
   rw[hf] at o;let{a',b',U,e3,_,2,g3,g4}:=h.1 q (List.mem_of_find?_eq_some hf);let ev:v=.int U:=by rw[e3] at o;show (zZ o).symm
   show{a,b,U,ek,by rw[I,ev],h0,h1,h2,g3,g4}
structure WI (H:Hp)(t d la:Addr)(n:Int)(N m:Nat)(H2:Hp):Prop where
 sm:Sm t H H2
 tp:AN H2 t N
 dc:∃kvs,H2 d=some (.dT kvs)/\JD n kvs/\kvs.length<=m
 lg:∃l0 l1 l2:Int,H2 la=some (.lst [.int l0,.int l1,.int l2])/\(∀l∈[l0,l1,l2],1<=l/\l<=99)
def WI.draw (h:WI H t d la n N m H2)(hd:d≠t)(C:la≠t)(T:AN H3 t (N+1))(he:∀b,b≠t->H3 b=H2 b):WI H t d la n (N+1) m H3:=by
 show{λb o nb e=>by rw[he b nb];show h.sm b o nb e,T,?_,?_}
 . rw[he d hd];show h.dc
 . rw[he la C];show h.lg
def WI.laid (h:WI H t d la n N m H2)(C:H2 l=none):WI H t d la n N m (upd H2 l o):=by let{kvs,a,b}:=h.dc;let{U,J,I,c,e}:=h.lg;show{h.sm.trans (Sm.laid C),h.tp.laid C,{kvs,by rwa[zi (zl a C)],b},{U,J,I,by rwa[zi (zl c C)],e}}
def WI.put (h:WI H t d la n N m H2)(o:H d=none)(hd:H2 d=some (.dT kvs))(h0:0<=a)(h1:a<b)(h2:b<n)(h3:1<=l)(h4:l<=99):
 WI H t d la n N (m+1) (upd H2 d (.dT (Ay kvs [Sum.inl a,Sum.inl b] (.int l)))):=by
 let{C,e,j,hm}:=h.dc;rw[hd] at e;ext e;let{U,J,I,c,e}:=h.lg;show{h.sm.chg o,h.tp.chg hd (by intro xs z;ext z),{_,zI,j.put h0 h1 h2 h3 h4,?_},{U,J,I,by rwa[zi (BA c hd (by intro z;ext z))],e}};let:=JQ kvs [Sum.inl a,Sum.inl b] (V.int l)
 lia
def WI.up (h:WI H t d la n N m H2)(o:N<=N')(hm:m<=m'):WI H t d la n N' m' H2:=by let{kvs,a,b,c}:=h.dc;show{h.sm,h.tp.mono o,{kvs,a,b,()},h.lg}
def bC (h:∀l∈[l0,l1,l2],1<=l/\l<=99)(h0:0<=r)(C:r<3):∃l,By [V.int l0,V.int l1,V.int l2] r=some (.int l)/\1<=l/\l<=99:=by let{l,o,ha}:=ND (L:=[l0,l1,l2]) h0 C;show{l,ha,h l o}
def BL (h:n<=100000):n<sizeLine:=CO h (by decide)
def cM (h:JD n kvs)(C:ms.Perm (GC kvs))(hl:kvs.length<64)(hn:1<=n)(o:n<=24)(e:ts.map (λt=>[t.1,t.2.1])=ms)(U:∀t∈ts,0<=t.1/\t.1<t.2.1/\t.2.1<n/\1<=t.2.2/\t.2.2<=99):GW n ts:=by
 let hlen:ts.length=kvs.length:=by let:=C.length_eq;rw[<-e] at this;simpa [GC] using this
 show{hn,o,(),U,?_};let nd:(ts.map λt:T3=>[t.1,t.2.1]).Nodup:=by rw[e];show C.nodup_iff.mpr h.nd
 rw[List.Nodup,EZ] at nd;show nd.imp λJ I=>J (by rw[I.1,I.2])
def JJ:AR ["_law_tape_here","_law_n","_law_longs","_law_joined_here","_law_b","_law_k","_law_a"] EC.p (defScope EC.s):=Aa
def WR:AC P w K mg base 2 EC OQ:=λwz=>by
 refine wz.W.okZ JJ λ_ _ A _ _ H vs Q E hr h=>?_;obtain⟨t,N,n,rfl,T,hN,lS,hn2,k⟩:=h;have hu:=Fy hr;obtain⟨es,q0,q1,q2,j3,q3,q4,p1,p2,p3,hbd,kB⟩:∃es q0 q1 q2 j3 q3 q4 p1 p2 p3,defBody EC.s=.Assign [.Name "_law_longs" q0] (.Subscript (.List es p1) (.Call (.Name "_law_draw" q1) [.Name "_law_tape_here" q2,.Constant (.int 4) j3 q3] [] q4) p2) p3::(defBody EC.s).drop 1 /\
  Nr es [[1,1,1],[1,2,1],[1,2,3],[5,99,7]]:={8,8,6,.cons (.cons (.cons (.cons .nil))) Eu (.cons (.cons (.cons (.cons .nil))) Eu (.cons (.cons (.cons (.cons .nil))) Eu (.cons (.cons (.cons (.cons .nil))) Eu (.nil))))}
 rw[hbd];refine{_,zT (AO (i:=2) JJ.nd (zv AS (BR (cC kB))
  (AG (B9 wz) hr (zD (pv 0) (DF zN)))))
  (zT (Ez (i:=3) JJ.nd rfl (Or.inr rfl) Yi)
  (zT (Ac (zw EN (AG (B9 wz) hr (zD (pv 0) (DF zN))) zg (AH _))
   (zc (A0 (Zg rfl wz.mRange (DF (zD (pv 1) zN))) (AY (i:=4) JJ.nd)
    (zc (Nb hu (pv 3) (AU (zD (AG (B9 wz) hr (zD (pv 0) (zD (pv 4) zN))) (zD (pv 4) zN)))
     (zv AS (pv 2) (AG (B9 wz) hr (zD (pv 0) (DF zN)))) rfl)))) Ae)
  (zT (A0 (BX rfl wz.mRange (zD (AG (B9 wz) hr (zD (pv 0) (zD (AQ Br (AQ Br zg (pv 1)) (AQ QT (pv 1) zg)) zN))) zN)) (AY (i:=5) JJ.nd)
   (zT (AO (i:=6) JJ.nd (AG (B9 wz) hr (zD (pv 0) (zD (pv 1) zN))))
   (zT (AO (i:=4) JJ.nd (AG (B9 wz) hr (zD (pv 0) (zD (pv 1) zN))))
   (zc (Ac (zw Hj (pv 6) (pv 4) (AH _)) (zc (Nb hu (pv 3) (AU (zD (pv 6) (zD (pv 4) zN)))
    (zv AS (pv 2) (AG (B9 wz) hr (zD (pv 0) (DF zN)))) rfl)) Ae)))))
  (zc (AL (AU (zD (pv 1) (zD (B5 DH wz.mTuple (zD
   (BU (own:=["_law_pair"]) (cn:=["_law_joined_here"]) (ci:=[3]) rfl (Ax rfl rfl) {0,3,trivial} rfl
    (Du (Af (Vk rfl) wz.mSorted (zD (pv 3) zN))) (λ_ _ _ _=>Aw) (λ_ _ _ _=>BM)
    (λ_ _ _ _=>AU (zD (zv CU (pv 0) zg) (zD (zv CU (pv 0) zg) (zD (Ep hu (pv 1) (pv 0) (λ_ _=>rfl)) zN))))) zN)) zN)))))))),?_}
 intro a1 e1 a2 e2 a3 e3 a4 e4;refine{HM,λal el=>?_};have T5:=((((T.laid (o:=.lst [.int 1,.int 1,.int 1]) e1).laid (o:=.lst [.int 1,.int 2,.int 1]) e2).laid (o:=.lst [.int 1,.int 2,.int 3]) e3).laid (o:=.lst [.int 5,.int 99,.int 7]) e4).laid (o:=.lst [.ref a1,.ref a2,.ref a3,.ref a4]) el;refine⟨_,rfl,t,N,4,rfl,T5,by lia,by decide,by decide,λr H1 h0 h1 T1 he1=>?_⟩;have nel:al≠t:=((((T.laid (o:=.lst [.int 1,.int 1,.int 1]) e1).laid (o:=.lst [.int 1,.int 2,.int 1]) e2).laid (o:=.lst [.int 1,.int 2,.int 3]) e3).laid (o:=.lst [.int 5,.int 99,.int 7]) e4).ne el;obtain⟨la,l0,l1,l2,hat,hla,hb,nla⟩:∃(la:Addr)(l0 l1 l2:Int),By [V.ref a1,V.ref a2,V.ref a3,V.ref a4] r=⇑la/\H1 la=some (.lst [.int l0,.int l1,.int l2])/\(∀l∈[l0,l1,l2],1<=l/\l<=99)/\la≠t:=by
  have n1:a1≠t:=T.ne e1;have n2:a2≠t:=(T.laid (o:=.lst [.int 1,.int 1,.int 1]) e1).ne e2;have n3:a3≠t:=((T.laid (o:=.lst [.int 1,.int 1,.int 1]) e1).laid (o:=.lst [.int 1,.int 2,.int 1]) e2).ne e3;have n4:a4≠t:=(((T.laid (o:=.lst [.int 1,.int 1,.int 1]) e1).laid (o:=.lst [.int 1,.int 2,.int 1]) e2).laid (o:=.lst [.int 1,.int 2,.int 3]) e3).ne e4;have g1:H1 a1=some (.lst [.int 1,.int 1,.int 1]):=by rw[he1 a1 n1];exact zH el _ _ (zH e4 _ _ (zH e3 _ _ (zH e2 _ _ zI)))
  have g2:H1 a2=some (.lst [.int 1,.int 2,.int 1]):=by rw[he1 a2 n2];exact zH el _ _ (zH e4 _ _ (zH e3 _ _ zI))
  have g3:H1 a3=some (.lst [.int 1,.int 2,.int 3]):=by rw[he1 a3 n3];exact zH el _ _ (zH e4 _ _ zI)
  have g4:H1 a4=some (.lst [.int 5,.int 99,.int 7]):=by rw[he1 a4 n4];exact zH el _ _ zI
  have hr4:r=0\/r=1\/r=2\/r=3:=by lia
  rcases hr4 with rfl | rfl | rfl | rfl
  . exact⟨a1,1,1,1,rfl,g1,by decide,n1⟩
  . exact⟨a2,1,2,1,rfl,g2,by decide,n2⟩
  . exact⟨a3,1,2,3,rfl,g3,by decide,n3⟩
  . exact⟨a4,5,99,7,rfl,g4,by decide,n4⟩
 refine{al,9,AD.of (by rw[he1 al nel];exact zI),hat,?_};have sm1:Sm t H H1:=λb o nb e=>by rw[he1 b nb];exact zH el _ _ (zH e4 _ _ (zH e3 _ _ (zH e2 _ _ (zH e1 _ _ e))))
 intro d hd;have nd:d≠t:=T1.ne hd;have hd0:H d=none:=by
  cases q:H d with
  | none=>rfl
  | some o=>have:=sm1 d o nd q;rw[hd] at this;ext this
 have W0:WI H t d la n (N+1) 0 (upd H1 d (.dT [])):={sm1.chg hd0,T1.laid hd,{[],zI,JD.nil n,zJ _},{l0,l1,l2,by rw[zi (zl hla hd)];exact hla,hb}};refine⟨_,rfl,t,N+1,3,rfl,W0.tp,by lia,by decide,by decide,λr1 H2 _ _ T2 he2=>?_⟩;have W2:=W0.draw nd nla T2 he2;refine{_,7,?_};refine A3 (λ_=>?a) (λ_=>?b)
 case' a=>
  refine⟨_,rfl,1,n,rfl,{by decide,by decide,by lia,by lia},CL (lo:=1) (n:=(n-1).toNat) (λi σ H3=>∃vb:Option V,σ=[⇑t,some (.int n),⇑la,⇑d,vb,none,none]/\WI H t d la n (N+2+2*i) i H3) {none,0,W2} ?turn ?after⟩
  case turn=>
   rintro i σ H3 hi ⟨vb,rfl,W⟩;obtain⟨m0,m1,m2,hm,hmb⟩:=W.lg;refine⟨_,rfl,_,rfl,t,N+2+2*i,3,rfl,W.tp,by lia,by decide,by decide,λr3 H4 g0 g1 T4 he4=>?_⟩;have W4:=W.draw nd nla T4 he4;obtain⟨lg,hlg,hg1,hg2⟩:=bC hmb g0 g1;refine{la,9,AD.of (by rw[he4 la nla];exact hm),hlg,?_};refine⟨_,rfl,_,rfl,_,rfl,t,N+2+2*i+1,1+i,rfl,W4.tp,by lia,by lia,by lia,λr5 H5 q0 q1 T5 he5=>?_⟩;have W5:=W4.draw nd nla T5 he5;refine{1,Ad,λp hp=>?_};have W6:=W5.laid (o:=.tup [.int r5,.int (1+i)]) hp;obtain⟨kvs,hk,J,hkl⟩:=W6.dc;refine{d,1,E6.t (k:=[Sum.inl r5,Sum.inl (1+(i:Int))]) hk zI (BL (by lia)),?_};exact{1,(W6.put hd0 hk q0 q1 (by lia) hg1 hg2).up (by lia) (by lia)}
  case' after=>
   rintro σ H3 ⟨vb,rfl,W⟩;have W3:WI H t d la n (N+50) 23 H3:=W.up (by lia) (by lia)
 case' b=>
  have W3:WI H t d la n (N+50) 23 H2:=W2.up (by lia) (by lia)
 all_goals
  refine{4,_,7,5,{by decide,by decide},5,t,N+50,1,W3.tp,by lia,by lia,by lia,λr4 H4 p0 p1 T4 he4=>?_};have W4:=W3.draw nd nla T4 he4;refine{r4,0,by lia,by lia,CL (lo:=0) (n:=r4.toNat) (λi σ H5=>K7 λ(vb vk va:Option V)=>σ=[⇑t,some (.int n),⇑la,⇑d,vb,vk,va]/\WI H t d la n (N+51+3*i) (23+i) H5) {_,6,W4} ?turn2 ?after2}
  case turn2=>
   rintro i σ H5 hi ⟨vb,vk,va,rfl,W⟩;refine{4,t,N+51+3*i,n,0,W.tp,by lia,by lia,by lia,λa H6 a0 a1 T6 he6=>?_};have W6:=W.draw nd nla T6 he6;refine{4,t,N+51+3*i+1,n,0,W6.tp,by lia,by lia,by lia,λb H7 b0 b1 T7 he7=>?_};have W7:=W6.draw nd nla T7 he7;refine{4,_,7,?_};refine A3 (λhc=>?_) (λhc=>?_)
   . have kW:a<b:=of_decide_eq_true hc;obtain⟨m0,m1,m2,hm,hmb⟩:=W7.lg;refine⟨_,rfl,_,rfl,t,N+51+3*i+1+1,3,rfl,W7.tp,by lia,by decide,by decide,λr3 H8 g0 g1 T8 he8=>?_⟩;have W8:=W7.draw nd nla T8 he8;obtain⟨lg,hlg,hg1,hg2⟩:=bC hmb g0 g1;refine{la,9,AD.of (by rw[he8 la nla];exact hm),hlg,?_};refine{1,4,Ad,λp hp=>?_};have W9:=W8.laid (o:=.tup [.int a,.int b]) hp;obtain⟨kvs,hk,J,hkl⟩:=W9.dc;refine{d,1,E6.t (k:=[Sum.inl a,Sum.inl b]) hk zI (BL (by lia)),?_};exact{_,6,(W9.put hd0 hk a0 kW b1 hg1 hg2).up (by lia) (by lia)}
   . exact{_,6,W7.up (by lia) (by lia)}
  case after2=>
   rintro σ H5 ⟨vb,vk,va,rfl,W⟩;obtain⟨kvs,hk,J,hkl⟩:=W.dc;have hk64:kvs.length<64:=by lia
   refine{4,d,kvs,GC kvs,0,hk,J.keys,J.ne,by rw[GC,zC];exact Cb hk64 (by decide),λl zs ms hl TA hp _=>?_};refine{l,0,{_,AD.of zI},[.ref d],0,λD hD=>?_};have hlz:=TA.length;have hlm:ms.length=kvs.length:=by rw[hp.length_eq,GC,zC]
   have nlD:l≠D:=λe=>by rw[<-e,zI] at hD;ext hD
   have hk1:(upd H5 l (.lst zs)) d=some (.dT kvs):=zH hl _ _ hk;have ko:H5 D=none:=by rw[zi nlD.symm] at hD;exact hD
   refine N1 (a:=l) (xs:=zs) (λi ys H6=>∃ts:List T3,ts.length=i/\ts.map (λt:T3=>[t.1,t.2.1])=ms.take i/\(∀t∈ts,0<=t.1/\t.1<t.2.1/\t.2.1<n/\1<=t.2.2/\t.2.2<=99)/\H6 D=some (.lst ys)/\Au H6 ys (ts.map tl)/\AE (upd H5 l (.lst zs)) H6)
    {[],3,λ_ h=>by simp at h,zI,trivial,zH hD} (λi ys H6 h=>?_) (λi ys H6 h=>?_) (λi x ys H6 hx h=>?_) (λys H6 h=>?_)
   . obtain⟨_,_,_,_,_,_,s6⟩:=h;exact AD.of (s6 _ _ zI)
   . obtain⟨ts,e1,e2,_,_,T6,_⟩:=h;have e3:=T6.length;rw[zC] at e3;have e4:=congrArg List.length e2;rw[zC,ze] at e4;exact BL (by grind)
   . obtain⟨ts,e1,e2,hts,kg,T6,s6⟩:=h;obtain⟨pa,kx,ex,hkx,hpa,_⟩:=TA.get hx;subst ex;have hpa6:H6 pa=some (.tup (kx.map V.int)):=s6 _ _ (zH hl _ _ hpa);obtain⟨a,b,lg,ek,hv,a0,ab,bn,lg1,lg2⟩:=J.val (hp.mem_iff.mp (zQ hkx));subst ek;refine{{3},?_};refine BW ?_;refine{1,pa,9,AB.of hpa6,0,1,pa,9,AB.of hpa6,0,4,d,1,hv ▸ Az.t (k:=[Sum.inl a,Sum.inl b]) (s6 _ _ hk1) hpa6,Eu,λp hp6=>?_};have nDp:D≠p:=zl kg hp6;refine{by rw[zi nDp];exact kg,ts++[(a,b,lg)],by rw[zK,e1];rfl,?_,?_,zI,?_,?_}
     . rw[zP,e2,zt,hkx];rfl
     . intro t ht;rcases zr.mp ht with q | q
       . exact hts t q
       . rw[zm.mp q];exact⟨a0,ab,bn,lg1,lg2⟩
     . rw[zP];refine (T6.keep λc xs e=>?_).snoc {p,0,by rw[zi nDp.symm,zI];rfl,by simp[tl]};rw[zi (BA e kg (by intro z;ext z)),zi (zl e hp6)];exact e
     . exact Ar (s6.trans (zH hp6)) hD
   . obtain⟨ts,e1,e2,hts,kg,T6,s6⟩:=h;refine{D,ys,0,.inl {AD.of kg,λta mX=>?_}};refine{Ad,λwa kF=>?_};rw[hlz,zb (zJ _)] at e2;have G:GW n ts:=cM J hp hk64 lS hn2 e2 hts;have nwt:wa≠ta:=λe=>by rw[e,zI] at kF;ext kF
     have h6wa:H6 wa=none:=by rw[zi nwt] at kF;exact kF
     have s7:AE H6 (upd (upd H6 ta (.tup ys)) wa (.tup [.int n,.ref ta])):=Ar (zH mX) h6wa;have T7:AN (upd (upd H6 ta (.tup ys)) wa (.tup [.int n,.ref ta])) t (N+200):=((W.tp.mono (by lia)).keep ((zH hl).trans (s6.trans s7)));have nwa:wa≠t:=((W.tp.keep ((zH hl).trans s6)).ne h6wa);have sm7:Sm t H (upd (upd H6 ta (.tup ys)) wa (.tup [.int n,.ref ta])):=W.sm.trans (Sm.of ((zH hl).trans (s6.trans s7)));refine k wa ts _ ?_ {ta,ys,zI,by rw[zi nwt.symm,zI],T6.keep λc xs e=>s7 _ _ e,G} T7 sm7;cases q:H wa with
     | none=>rfl
     | some o=>have:=(W.sm.trans (Sm.of ((zH hl).trans s6))) wa o nwa q;rw[h6wa] at this;ext this
def gL (a b):GD (.int a) (.int b)=(a==b):=rfl
def Wh :∀{l:List Int},OA (.int z) (l.map V.int)=decide (z∈l)
 | []=>rfl
 | x::r=>by
  change (GD (.int x) (.int z) || OA (.int z) (r.map V.int))=_;rw[Wh (l:=r),gL];by_cases h:x=z
  . subst h;simp
  . let h':(x==z)=false:=‹h›
    rw[h',Bool.false_or];simp[Ne.symm h]
def ZQ:∀(l:List Int),(l.map V.int).all Ga=true
 | []=>rfl
 | _::r=>by rw[Bj,List.all_cons,ZQ r];rfl
def g9 :decide (V.int i=V.int j)=decide (i=j):=by
 by_cases h:i=j
 . subst h;simp
 . rw[zW h,zW λe=>h (by injection e)]
def Aj {p:Prop}(h:c=true)(o:p):(if c=true then p else q):=by rwa[if_pos h]
def Ak {p:Prop}(h:c=false)(o:q):(if c=true then p else q):=by rw[if_neg (by simp[h])];show o
section
open PySem.Spec PyProof.Rows
structure Fn (n p:Nat)(d:PyData):Prop where
 wt:d.weight<=n
 dp:d.depth<=p
 cl:d.canLay0=true
 sh:d.intsShort 50=true
 sw:d.showable=true
def Fn.mono (h:Fn n p d)(C:n<=n')(o:p<=p'):Fn n' p' d:={BC h.wt C,BC h.dp o,h.cl,h.sh,h.sw}
def XT:Fn 0 0 .none:={zJ _,zJ _,0,3}
def Xm (b:Bool):Fn 0 0 (.bool b):={zJ _,zJ _,0,3}
def Jc (h:i.natAbs<10 ^ 40):Fn 140 0 (.int i):=by
 let C:i.natAbs.log2<134:=by
  by_cases h0:i.natAbs=0
  . rw[h0];decide
  . show (Nat.log2_lt h0).mpr ()
 let o:=dP h;show{?_,zJ _,0,?_,?_}
 . simp only[PyData.weight];split <;> lia
 . simp only[PyData.intsShort,PyData.shown];show zO ()
 . simp only[PyData.showable];show zO ()
def Wd :∀{ds:List PyData},(∀d∈ds,Fn n p d)->PyData.weightAll ds<=ds.length*(n+1)/\PyData.depthAll ds<=p/\PyData.canLayAll0 ds=true/\PyData.intsShortAll 50 ds=true/\PyData.showableAll ds=true
 | [],_=>{by simp[PyData.weightAll],by simp[PyData.depthAll],by simp[PyData.canLayAll0],by simp[PyData.intsShortAll],by simp[PyData.showableAll]}
 | d::ds,h=>by
  let{a,b,c,e,f}:=Wd (ds:=ds) λx o=>h x (zd _ o);let g:=h d zX;show{?_,?_,?_,?_,?_}
  . simp only[PyData.weightAll,zu];let:=g.wt;rw[Nat.add_mul]
    lia
  . simp only[PyData.depthAll];let:=g.dp
    lia
  . simp only[PyData.canLayAll0,g.cl,c,Bool.and_self]
  . simp only[PyData.intsShortAll,g.sh,e,Bool.and_self]
  . simp only[PyData.showableAll,g.sw,f,Bool.and_self]
def GR (h:∀d∈ds,Fn n p d)(o:ds.length<=L):Fn (L*(n+1)) (p+1) (.tuple ds):=by
 let{a,b,c,e,f}:=Wd h;show{?_,?_,?_,?_,?_}
 . simp only[PyData.weight];show BC a (Nat.mul_le_mul_right _ o)
 . simp only[PyData.depth];lia
 . simp only[PyData.canLay0];show c
 . simp only[PyData.intsShort];show e
 . simp only[PyData.showable];show f
def Fn.len (h:Fn n p d)(I:n<=300000)(C:p<=60):d.shown.length<=sizeLine/\d.hasDict=false:=by
 let o:PyData.layable0 d=true:=by change (PyData.canLay0 d && decide (PyData.depth d<=64) && decide (PyData.weight d<=2 ^ 20))=true;rw[h.cl,zO (show PyData.depth d<=64 by let:=h.dp;lia),zO (show PyData.weight d<=2 ^ 20 by let:=h.wt;lia)];rfl
 let e:=PyData.shown_le 50 (by decide) d (PyData.leavesShort_of_canLay0 50 d h.cl h.sh);let:sizeLine=16777216:=rfl;let:=h.wt;show{(),PyData.hasDict_of_layable o}
inductive Il (xs:List V)(H:Hp)(Q:VK):Prop
 | mk:∀x d,(xs=[x])->(AX H x d)->(Fn 300000 50 d)->(Q (.str d.shown) H)->Il xs H Q
def Rc (hr:A6 k X.A):Be X (.builtin "repr") Il:=by
 intro pins s σ H xs us Q I r h;let{x,d,0,sh,f,q}:=h;let{u,0,o}:=Co r;let{U,C}:=f.len (zJ _) (by decide);let hu:=hr.units;cases sh with
 | non=>cases (show u=Value.none from o);show PySem.P.repr_of_none {.str _,H,I.tok _,{1},by simpa only [PyData.shown] using q}
 | bl b=>cases (show u=Value.bool b from o);show PySem.P.repr_of_bool {.str _,H,I.tok _,{1},by simpa only [PyData.shown] using q}
 | int i=>let{t,0}:=o;show PySem.P.repr_of_int (by let:=f.sw;simpa only [PyData.showable,decide_eq_true_eq] using this) {.str _,H,I.tok _,{1},by simpa only [PyData.shown] using q}
 | str z=>let{t,0}:=o;show PySem.P.repr_of_str {.str _,H,I.tok _,{1},by simpa only [PyData.shown] using q} (by simpa only [PyData.shown] using U)
 | tup e al=>cases (show u=Value.ref _ from o);let{as,J}:=AX.reads I.hok (.tup e al) (u:=.ref _) rfl;show repr_of_reads' J f.sw (PyData.noDict_hsm C) hr.gd (by let:=f.dp;lia) (λ_ _ e=>e) (λh' u tk hk=>{.str _,H,I.kept hk,{u,0},q}) U
 | lst e al=>cases (show u=Value.ref _ from o);let{as,J}:=AX.reads I.hok (.lst e al) (u:=.ref _) rfl;show repr_of_reads' J f.sw (PyData.noDict_hsm C) hr.gd (by let:=f.dp;lia) (λ_ _ e=>e) (λh' u tk hk=>{.str _,H,I.kept hk,{u,0},q}) U
end
meta def Hc:PyData->Bool
 | .int _=>true
 | _=>false
meta def BZ (d:PyData)(a b:Int):Bool:=match d with
 | .int i=>decide (a<=i) && decide (i<=b)
 | _=>false
meta def JP (d:PyData):Bool:=match d with
 | .tuple _=>true
 | _=>false
meta def D6 (d:PyData)(n:Int):Bool:=match d with
 | .tuple ds=>decide ((ds.length:Int)=n)
 | _=>false
def JU (h:B0 H xs ds):xs.length=ds.length:=by
 induction xs generalizing ds with
 | nil=>ext h;rfl
 | cons x xs o=>
  cases h with
  | cons a b=>rw[zu,zu,o b]
def Nk {i:Nat}(h:B0 H xs ds)(e:ds[i]?=some d):∃x,xs[i]?=some x/\AX H x d:=by
 induction xs generalizing ds i with
 | nil=>ext h;simp at e
 | cons x xs o=>
  cases h with
  | cons a b=>
   cases i with
   | zero=>simp at e;subst e;show{x,0,a}
   | succ i=>show o b ‹e›
def CJ (k:AE H H')(s:AX H v d):AX H' v d:=
 AX.rec (motive_1:=λv d _=>AX H' v d) (motive_2:=λxs ds _=>B0 H' xs ds) .non (λb=>.bl b) (λi=>.int i) (λx=>.str x) (λe _ o=>.tup (k _ _ e) o) (λe _ o=>.lst (k _ _ e) o) .nil (λ_ _ I C=>.cons I C) s
def HY (s:AX H v d):∃t bi bb bt:_,DU K H v t/\PySem.W.kitOne K t (.type "int")=some bi/\PySem.W.kitOne K t (.type "bool")=some bb/\PySem.W.kitOne K t (.type "tuple")=some bt/\(bi && !bb)=Hc d/\bt=JP d/\(Hc d=true->∃i,v=.int i/\d=.int i)/\(JP d=true->∃a xs ds,v=.ref a/\H a=some (.tup xs)/\d=.tuple ds/\B0 H xs ds):=by
 cases s with
 | non=>show{8,.non,0,3,3,(λz=>by ext z),(λz=>by ext z)}
 | bl b=>show{8,.bl b,0,3,3,(λz=>by ext z),(λz=>by ext z)}
 | int i=>show{8,.int i,0,3,3,(λz=>{i,3}),(λz=>by ext z)}
 | str x=>show{8,.str x,0,3,3,(λz=>by ext z),(λz=>by ext z)}
 | tup e al=>show{8,.tup e,0,3,3,(λz=>by ext z),(λz=>{_,6,e,0,al})}
 | lst e al=>show{8,.lst e,0,3,3,(λz=>by ext z),(λz=>by ext z)}
inductive ZW (vs:List V)(H:Hp)(Q:VK):Prop
 | mk:∀(v:V)(d:PyData),(vs=[v])->(AX H v d)->(Q (.bl (Hc d)) H)->ZW vs H Q
def P6:Sp:=λo H Q _=>ZW o H Q
inductive V7 (vs:List V)(H:Hp)(Q:VK):Prop
 | mk:∀(v:V)(d:PyData)(a b:Int),(vs=[v,.int a,.int b])->(AX H v d)->(Q (.bl (BZ d a b)) H)->V7 vs H Q
def O0:Sp:=λo H Q _=>V7 o H Q
inductive ZI (vs:List V)(H:Hp)(Q:VK):Prop
 | mk:∀(v:V)(d:PyData)(n:Int),(vs=[v,.int n])->(AX H v d)->(Q (.bl (D6 d n)) H)->ZI vs H Q
def OG:Sp:=λo H Q _=>ZI o H Q
def QI:AR ["thing"] Gp.p (defScope Gp.s):=Aa
def Vw:AC P w K mg base 1 Gp P6:=λo=>by
 show o.Nu.okZ QI λ_ _ A _ _ H vs Q E hr h=>?_;let{v,d,0,S,k}:=h;let{t,bi,I,bt,ty,e1,U,_,J,_}:=HY (K:=K) S;show{_,zc (AL (CD (Af Ge o.mIsi (zD (pv 0) (zD (F3 (T := "int") o.mInt) zN)))
  (Ct (ZR (Af Ge o.mIsi (zD (pv 0) (zD (F3 (T := "bool") o.mBool) zN))))))),?_}
 show{1,2,t,bi,0,ty,e1,bi,0,?_};rw[<-J] at k;cases bi with
 | false=>show Ab k
 | true=>show AZ {1,2,t,I,0,ty,U,I,0,k}
def U1:AR ["thing","least","most"] R7.p (defScope R7.s):=Aa
def Ph:AC P w K mg base 2 R7 O0:=λI=>by
 show I.Wi.okZ U1 λ_ _ A _ _ H vs Q E U h=>?_;let{v,d,a,b,0,S,k}:=h;show{_,zc (AL (CD (AG (Vw I) U (zD (pv 0) zN)) (CD (Bt Qx (pv 1) (pv 0) (AH _)) (Ct (Bt Qx (pv 0) (pv 2) (AH _)))))),?_};show{1,v,d,0,S,Hc d,0,?_};let{2,8,8,hi,_}:=HY (K:=K) S;cases J:Hc d with
 | false=>
  show Ab ?_;let:BZ d a b=false:=by ext d <;> first | rfl | ext J
  rwa[this] at k
 | true=>
  show AZ ?_;let{i,3}:=hi J;let o:Q (.bl (decide (a<=i) && decide (i<=b))) H:=k;show{4,_,7,?_};by_cases c:a<=i
  . rw[zO c,Cj] at o;show Aj (zO c) {4,5,o}
  . rw[zW c,CH] at o;show Ak (zW c) o
def O9:AR ["thing","count"] Gx.p (defScope Gx.s):=Aa
def XB:AC P w K mg base 1 Gx OG:=λo=>by
 show o.To.okZ O9 λf j9 A outer s H vs Q E hr h=>?_
 . let{v,d,n,0,S,k}:=h;let{t,bi,bb,bt,ty,2,e3,_,U,_,J}:=HY (K:=K) S;show{_,zc (AL (CD (Af Ge o.mIsi (zD (pv 0) (zD (F3 (T := "tuple") o.mTuple) zN)))
    (Ct (Bt BH (Af DB o.mLen (zD (pv 0) zN)) (pv 1) (AH _))))),?_}
   show{1,2,t,bt,0,ty,e3,bt,0,?_};rw[U];cases I:JP d with
   | false=>
    show Ab ?_;let:D6 d n=false:=by ext d <;> first | rfl | ext I
    rwa[this] at k
   | true=>show AZ ?_;let{a,xs,ds,0,ha,0,al}:=J I;show{1,a,xs,0,.inr (AB.of ha),_,3,?_};rwa[g9,JU al]
mutual
inductive JZ:Expr->PyData->Prop
 | non {j pos}:JZ (.Constant .none j pos) .none
 | bl {b j pos}:JZ (.Constant (.bool b) j pos) (.bool b)
 | int {i j pos}:JZ (.Constant (.int i) j pos) (.int i)
 | str {x j pos}:JZ (.Constant (.str x) j pos) (.str x)
 | tup {es ds x1 pos}:NZ es ds->ds.length<=1000->JZ (.Tuple es x1 pos) (.tuple ds)
 | lst {es ds pos}:NZ es ds->ds.length<=1000->JZ (.List es pos) (.list ds)
inductive NZ:List Expr->List PyData->Prop
 | nil:NZ [] []
 | cons {e es d ds}:JZ e d->NZ es ds->NZ (e::es) (d::ds)
end
inductive IB (k l:Nat):PyData->Prop
 | non:IB k l .none
 | bl (b:Bool):IB k l (.bool b)
 | int (i:Int)(h:i.natAbs<=k):IB k l (.int i)
 | str (x:Str):IB k l (.str x)
 | tup (ds:List PyData)(hl:ds.length<=l)(h:∀d∈ds,IB k l d):IB k l (.tuple ds)
 | lst (ds:List PyData)(hl:ds.length<=l)(h:∀d∈ds,IB k l d):IB k l (.list ds)
def IB.elem (h:IB k l (.tuple ds)):∀d∈ds,IB k l d:=by ext h;assumption
def IB.len (h:IB k l (.tuple ds)):ds.length<=l:=by ext h;assumption
def KQ (h:x.length<=60)(ok:PyData.strOk x=true):Fn 100 0 (.str x):=by
 show{?_,zJ _,?_,3}
 . simp only[PyData.weight];let:x.cps.size=x.length:=rfl
   lia
 . simp only[PyData.canLay0];show ok
variable {P:Program}{w:World}{K:AF}{mg:BO}{base:Heap}{PT:Addr}{X:Cx}
def RC (h:∀b,b≠t->H' b=H b):Sm t H H':=λb o n e=>by rwa[h b n]
def Rj (h:BZ d a b=true):∃i,d=.int i/\a<=i/\i<=b:=by
 cases d with
 | int i=>have h':(decide (a<=i) && decide (i<=b))=true:=h;rw[Bw,F7,F7] at h';show{i,0,h'.1,h'.2}
 | _=>ext h
inductive Xj (vs:List V)(H:Hp)(Q:VK):Prop
 | mk:∀(n:Int)(v:V)(d:PyData),(vs=[.int n,v])->(AX H v d)->(Q (.bl (BZ d 0 (n-1))) H)->Xj vs H Q
def Uz:Sp:=λo H Q _=>Xj o H Q
meta def NT (d:PyData):Bool:=match d with
 | .none=>true
 | _=>false
def QX (s:AX H v d):decide (v=.non)=NT d:=by
 ext s <;> first
  | rfl
  | show zW (by intro z;ext z)
meta def FT (n l:Int)(u w:PyData):Bool:=if l=0 then NT u && NT w else BZ u 0 (n-1) && BZ w 0 (n-1)
meta def Ai (n:Int)(d:PyData):Bool:=match d with
 | .tuple [h,.int l,u,w]=>BZ h 0 (n-1) && (decide (0<=l) && FT n l u w)
 | _=>false
meta def BK (d:PyData):Int:=match d with
 | .tuple (.int h::_)=>h
 | _=>0
meta def B7 (d:PyData):Int:=match d with
 | .tuple (_ :: .int l::_)=>l
 | _=>0
meta def CW:List Int->Bool
 | a::b::r=>decide (a<b) && CW (b::r)
 | _=>true
meta def ER (ds:List PyData):Bool:=decide (((ds.map B7).countP λx=>x==0)=1)
meta def BQ (n:Int)(d:PyData):Bool:=match d with
 | .tuple ds=>decide ((ds.length:Int)<=n) && (ds.all (Ai n) && (ER ds && CW (ds.map BK)))
 | _=>false
meta def FW (n:Int)(d:PyData):Bool:=match d with
 | .tuple ds=>decide ((ds.length:Int)=n) && ds.all (BQ n)
 | _=>false
def HC (h:Ai n d=true):∃x l u w,d=.tuple [x,.int l,u,w]/\(BZ x 0 (n-1) && (decide (0<=l) && FT n l u w))=true:=by
 cases d with
 | tuple t=>rcases t with _ | ⟨x,_ | ⟨y,_ | ⟨u,_ | ⟨w,_ | _⟩⟩⟩⟩ <;> first | ext h | (ext y <;> first | ext h | show{2,6,h})
 | _=>ext h
def XG (h:Ai n d=true):∃x l u w,d=.tuple [.int x,.int l,u,w]/\0<=x/\x<=n-1/\0<=l:=by let{x,l,u,w,0,z}:=HC h;rw[Bw,Bw] at z;let{i,0,a1,a2}:=Rj z.1;show{i,_,6,a1,a2,of_decide_eq_true z.2.1}
def WU:∀ms,CW ms=(List.range (ms.length-1)).all λk=>decide (ms.getD k 0<ms.getD (k+1) 0)
 | []=>rfl
 | [_]=>rfl
 | a::b::r=>by change (decide (a<b) && CW (b::r))=_;rw[WU (b::r)];change _=(List.range (r.length+1)).all _;rw[List.range_succ_eq_map,List.all_cons,List.all_map];rfl
def Nc:∀ms,CW ms=true↔ms.Pairwise (· < ·)
 | []=>by simp[CW]
 | [_]=>by simp[CW]
 | a::b::r=>by
  let I:=Nc (b::r);change (decide (a<b) && CW (b::r))=true↔_;rw[Bw,I,F7,FO (a:=a)];constructor
  . rintro ⟨C,o⟩;show{λx hx=>?_,o};rcases za.mp hx with rfl | hx
    . show C
    . let:=(FO.mp o).1 x hx
      lia
  . rintro ⟨C,o⟩;show{C b zX,o}
inductive WE (vs:List V)(H:Hp)(Q:VK):Prop
 | mk:∀(p:Addr)(xs:List Int),(vs=[.ref p])->(H p=some (.lst (xs.map V.int)))->(xs.length<=1000)->(∀H',AE H H'->Q (.bl (CW xs)) H')->WE vs H Q
def N4:Sp:=λo H Q _=>WE o H Q
inductive XE (vs:List V)(H:Hp)(Q:VK):Prop
 | mk:∀(n:Int)(v:V)(d:PyData),(vs=[.int n,v])->(AX H v d)->(Q (.bl (Ai n d)) H)->XE vs H Q
def LQ:Sp:=λo H Q _=>XE o H Q
inductive ZY (vs:List V)(H:Hp)(Q:VK):Prop
 | mk:∀(n:Int)(v:V)(d:PyData),(vs=[.int n,v])->(n<=1000)->(AX H v d)->(∀H',AE H H'->Q (.bl (BQ n d)) H')->ZY vs H Q
def L6:Sp:=λo H Q _=>ZY o H Q
inductive VI (vs:List V)(H:Hp)(Q:VK):Prop
 | mk:∀(n:Int)(v:V)(d:PyData),(vs=[.int n,v])->(n<=1000)->(AX H v d)->(∀H',AE H H'->Q (.bl (FW n d)) H')->VI vs H Q
def cH:Sp:=λo H Q _=>VI o H Q
def Eo :decide (V.int a=V.int b)=decide (a=b):=by
 by_cases h:a=b
 . rw[zO h,zO (congrArg V.int h)]
 . rw[zW h,zW λz=>h (V.int.inj z)]
def VC:AR MF Rx.p (defScope Rx.s):=Aa
def Si:AC P w K mg base 3 Rx Uz:=λo=>by show o.Pl.okZ VC λ_ _ A _ _ H J Q E I h=>?_;let{n,v,d,0,S,k}:=h;show{_,zc (AL (AG (Ph o) I (zD (pv 1) (zD zg (zD (AQ Dh (pv 0) zg) zN))))),?_};show⟨_,rfl,_,rfl,_,_,rfl,rfl,v,d,0,n-1,rfl,S,k⟩
def OO:AR ["things"] HG.p (defScope HG.s):=Aa
def J4:AC P w K mg base 1 HG N4:=λU=>by
 show U.Rs.okZ OO λ_ _ A _ _ H vs Q E hr h=>?_;let{p,xs,0,hp,hl,k}:=h;show{_,zc (AL (Af (SQ rfl) U.mAll (zD (BU (own:=["k"]) (cn:=["things"]) (ci:=[0]) rfl (Ax rfl rfl) {0,3,trivial} rfl
  (Zg rfl U.mRange (zD zg (zD (Af DB U.mLen (zD (pv 0) zN)) zN))) (λ_ _ _ _=>Aw) (λ_ _ _ _=>BM)
  (λ_ _ _ _=>Bt Hj (zv HW (pv 1) (AQ Dh (pv 0) zg)) (zv HW (pv 1) (pv 0)) (AH _))) zN))),?_}
 show⟨_,rfl,p,_,rfl,.inl (AD.of hp),1,_,rfl,{by decide,by decide,by rw[zC];lia,by rw[zC];lia},[.ref p],rfl,λD hD=>?_⟩;show JB (lo:=1) (n:=(((xs.map V.int).length:Int)-1).toNat) (λq I H4=>q<=(((xs.map V.int).length:Int)-1).toNat/\I=((List.range q).map λk=>decide (xs.getD k 0<xs.getD (k+1) 0)).map V.bl/\H4=upd H D (.lst I)) {zj _,3} (λq I H4 z=>?_) (λq I H4 hq z=>?_) (λI H4 z=>?_)
 . let{hq,0,_}:=z;rw[zC] at hq;rw[zC,zC,zy];show BL ()
 . let{_,3}:=z;rw[zC] at hq;let J:=zH (o:=.lst (((List.range q).map λk=>decide (xs.getD k 0<xs.getD (k+1) 0)).map V.bl)) hD _ _ hp;let h1:q<xs.length:=by omega
   let h2:q+1<xs.length:=()
   show{{3},?_};show BW ?_;show{4,5,p,2,.int xs[q],3,AD.of J,CM () (by rw[show ((1:Int)+q-1).toNat=q by lia,zM,zB h1];rfl),4,p,2,.int xs[q+1],3,AD.of J,CM () (by rw[show ((1:Int)+q).toNat=q+1 by lia,zM,zB h2];rfl),5,zI,by rw[zC];lia,?_,EU};let d1:xs.getD q 0=xs[q]:=by rw[zF,zB h1];rfl
   let d2:xs.getD (q+1) 0=xs[q+1]:=by rw[zF,zB h2];rfl
   rw[List.range_succ,zP,zP];change _=_++[V.bl (decide (xs.getD q 0<xs.getD (q+1) 0))];rw[d1,d2]
 . let{_,3}:=z;show{D,1,AD.of zI,?_};let e:(((List.range (((xs.map V.int).length:Int)-1).toNat).map λk=>decide (xs.getD k 0<xs.getD (k+1) 0)).all id)=CW xs:=by rw[WU,List.all_map,zC,show ((xs.length:Int)-1).toNat=xs.length-1 by lia];rfl
   rw[e];show k _ (zH hD)
def KA:AR MF Qi.p (defScope Qi.s):=Aa
def Ot {α:Type}{l:List α}(h:l.length=4):∃x y z u,l=[x,y,z,u]:=by rcases l with _ | ⟨x,_ | ⟨y,_ | ⟨z,_ | ⟨u,_ | _⟩⟩⟩⟩ <;> first | show{2,6} | (simp at h)
def ij:AC P w K mg base 4 Qi LQ:=λJ=>by
 show J.Ee.okZ KA λ_ _ A _ _ H vs Q E U h=>?_;let{n,v,d,0,S,k}:=h;show{_,zT (Ac (PW.pt (Dy (DA (CG (AG (XB J) U (zD (pv 1) (zD zg zN))))) (Dk (DA (CG (AG (Si J) U (zD (pv 0) (zD (zv AV (pv 1) zg) zN)))))))) (zc (AL E4)) Ae)
  (zT (Ac (PW.pt (Dy (DA (CG (AG (Vw J) U (zD (zv AV (pv 1) zg) zN)))) (Dk (zw Hj (zv AV (pv 1) zg) zg (AH _))))) (zc (AL E4)) Ae)
  (zT (Ac (zw BH (zv AV (pv 1) zg) zg (AH _)) (zc (AL (CD (Bt Dl (zv AV (pv 1) zg) As (AH _)) (Ct (Bt Dl (zv AV (pv 1) zg) As (AH _)))))) Ae)
  (zc (AL (CD (AG (Si J) U (zD (pv 0) (zD (zv AV (pv 1) zg) zN))) (Ct (AG (Si J) U (zD (pv 0) (zD (zv AV (pv 1) zg) zN))))))))),?_}
 show⟨_,rfl,v,d,4,rfl,S,D6 d 4,rfl,?_⟩;cases hn:D6 d 4 with
 | false=>
  show AZ (AZ ?_);let:Ai n d=false:=Bool.eq_false_iff.mpr λz=>by let{2,6,_}:=HC z;ext hn
  rwa[this] at k
 | true=>
  show Ab ?_;obtain⟨x,y,z,u,rfl⟩:∃x y z u,d=.tuple [x,y,z,u]:=by
   cases d with
   | tuple ds=>
    let m5:decide ((ds.length:Int)=4)=true:=hn;let hl:ds.length=4:=by let:=of_decide_eq_true m5;lia
    let{x,y,z,u,0}:=Ot hl;show{x,y,z,u,0}
   | _=>ext hn
  cases S with
  | tup e al=>
   cases al with
   | cons s1 al=>cases al with
    | cons s2 al=>cases al with
     | cons s3 al=>cases al with
      | cons s4 al=>
       ext al;let I:=AB.of (K:=K) e;show{4,_,9,I,0,n,_,x,0,s1,BZ x 0 (n-1),0,?_};cases h1:BZ x 0 (n-1) with
       | false=>
        let:Ai n (.tuple [x,y,z,u])=false:=by cases y <;> first | rfl | (change (BZ x 0 (n-1) && _)=false;rw[h1,CH])
        rw[this] at k;show AZ k
       | true=>
        show Ab ?_;show{1,_,9,I,0,_,y,0,s2,Hc y,0,?_};cases h2:Hc y with
        | false=>
         let:Ai n (.tuple [x,y,z,u])=false:=by cases y <;> first | rfl | ext h2
         rw[this] at k;show AZ (AZ k)
        | true=>
         show Ab ?_;obtain⟨l,rfl⟩:∃l,y=.int l:=by ext y <;> first | show{1} | ext h2
         ext s2;let o:Q (.bl (decide (0<=l) && FT n l z u)) H:=by let:Ai n (.tuple [x,.int l,z,u])=(BZ x 0 (n-1) && (decide (0<=l) && FT n l z u)):=rfl;rwa[this,h1,Cj] at k
         show{1,_,9,I,0,_,7,?_};by_cases c0:l<0
         . rw[zW (by lia:¬ 0<=l),CH] at o;show Aj (zO c0) o
         . rw[zO (by lia:0<=l),Cj] at o;show Ak (zW c0) ?_;show{1,_,9,I,3,1,?_};rw[Eo];unfold FT at o;by_cases c1:l=0
           . rw[if_pos c1] at o;show Aj (zO c1) ?_;show{1,_,9,I,3,1,?_};rw[QX s3];cases h3:NT z with
             | false=>rw[h3,CH] at o;show Ab o
             | true=>rw[h3,Cj] at o;show AZ ?_;show{1,_,9,I,3,?_};rwa[QX s4]
           . rw[if_neg c1] at o;show Ak (zW c1) ?_;show{4,_,9,I,0,n,_,z,0,s3,BZ z 0 (n-1),0,?_};cases h3:BZ z 0 (n-1) with
             | false=>rw[h3,CH] at o;show Ab o
             | true=>rw[h3,Cj] at o;show AZ ?_;show{4,_,9,I,0,n,_,u,0,s4,o}
def Rl (al:B0 H xs ds)(j4:ds.all (Ai n)=true){i:Nat}(I:xs[i]?=some x):
 ∃b vu vw d,x=.ref b/\H b=some (.tup [.int (BK d),.int (B7 d),vu,vw])/\ds[i]?=some d/\Ai n d=true:=by
 let hi:i<ds.length:=by let:=(zE.mp I).1;let:=JU al;lia
 let{x',C,U}:=Nk al (zB hi);rw[I] at C;ext C;let he:=List.all_eq_true.mp j4 _ (Cv hi);let J:ds[i]?=some ds[i]:=zB hi;generalize ds[i]=d at U he J;let{h,l,u,w',0,_}:=XG he;cases U with
 | tup e o=>
  cases o with
  | cons s1 o=>cases o with
   | cons s2 o=>cases o with
    | cons s3 o=>cases o with
     | cons s4 o=>ext o;ext s1;ext s2;show{_,2,.tuple [.int h,.int l,u,w'],0,e,J,he}
def YO:AR ["n","thing","longs"] Qz.p (defScope Qz.s):=Aa
def fV:AC P w K mg base 5 Qz L6:=λwz=>by
 show wz.Ll.okZ YO λ_ _ A _ _ H vs Q E hr h=>?_;let{n,v,d,0,hnn,S,k}:=h;let{t,bi,bb,bt,ty,2,e3,_,e5,_,ht}:=HY (K:=K) S;show{_,zT (Ac (PW.pt (Dy (DA (CG (Af Ge wz.mIsi (zD (pv 1) (zD (F3 (T := "tuple") wz.mTuple) zN))))) (Dk (zw EN (Af DB wz.mLen (zD (pv 1) zN)) (pv 0) (AH _))))) (zc (AL E4)) Ae)
  (zT (Ac (DA (CG (Af (SQ rfl) wz.mAll (zD (BU (own:=["entry"]) (cn:=["n"]) (ci:=[0]) rfl (Ax rfl rfl) {0,3,trivial} rfl (BB (pv 1)) (λ_ _ _ _=>Aw) (λ_ _ _ _=>BM)
   (λ_ _ _ _=>AG (ij wz) hr (zD (pv 1) (zD (pv 0) zN)))) zN)))) (zc (AL E4)) Ae)
  (zT (DW (i:=2) (own:=["entry"]) (cn:=[]) (ci:=[]) YO.nd rfl (Or.inl rfl) rfl (Ax rfl rfl) trivial rfl (BB (pv 1)) (λ_ _ _ _=>Aw) (λ_ _ _ _=>BM) (λ_ _ _ _=>zv CU (pv 0) zg))
  (zc (AL (CD (Bt BH (C3 PySem.F.plainAttrs_list PySem.F.slot_list_count PySem.F.type_list_count Vv (pv 2) (zD zg zN)) zg (AH _)) (Ct (AG (J4 wz) hr
   (zD (BU (own:=["entry"]) (cn:=[]) (ci:=[]) rfl (Ax rfl rfl) trivial rfl (BB (pv 1)) (λ_ _ _ _=>Aw) (λ_ _ _ _=>BM) (λ_ _ _ _=>zv CU (pv 0) zg)) zN)))))))),?_}
 show{1,2,t,bt,0,ty,e3,bt,0,?_};rw[e5];cases hn:JP d with
 | false=>
  show AZ (AZ ?_);let:BQ n d=false:=by ext d <;> first | rfl | ext hn
  rw[<-this];show k H (AE.refl _)
 | true=>
  show Ab ?_;let{a,xs,ds,0,ha,0,al}:=ht hn;let mB:=JU al;let U:∀(H':Hp),AE H H'->Q (.bl (decide ((ds.length:Int)<=n) && (ds.all (Ai n) && (ER ds && CW (ds.map BK))))) H':=k;show{1,a,xs,0,.inr (AB.of ha),1,_,7,?_};by_cases c:(ds.length:Int)<=n
  case neg=>
   rw[zW c,CH] at U;show Aj (zO ()) (U H (AE.refl _))
  rw[zO c,Cj] at U;show Ak (zW ()) ?_;let hl:ds.length<=1000:=()
  show{1,a,0,{_,AB.of ha},[.int n],0,λD hD=>?_};show BS (a:=a) (xs:=xs) (λi I J=>I=((ds.take i).map (Ai n)).map V.bl/\J=upd H D (.lst I)) {3} (λi I J z=>?_) (λi I J z=>?_) (λi x I J hx z=>?_) (λI J z=>?_)
  . let{1}:=z;show AB.of (zH hD _ _ ha)
  . let{0,_}:=z;rw[zC,zC,ze];show BL (by omega)
  . let{3}:=z;let hi:i<ds.length:=by let:=(zE.mp hx).1;lia
    let{x',ju,Sx}:=Nk al (zB hi);rw[hx] at ju;ext ju;show{{3},?_};show BW ?_;show{4,n,x,ds[i],0,CJ (zH hD) Sx,zI,?_,EU};rw[zt,zB hi,zP,zP];rfl
  . let{3}:=z;rw[mB,zb (zJ _)];show{D,1,AD.of zI,(ds.map (Ai n)).all id,0,?_};let ea:(ds.map (Ai n)).all id=ds.all (Ai n):=by rw[List.all_map];rfl
    rw[ea];let s1:=zH (o:=.lst ((ds.map (Ai n)).map V.bl)) hD;generalize upd H D (.lst ((ds.map (Ai n)).map V.bl))=H1 at s1 ⊢;cases j4:ds.all (Ai n) with
    | false=>rw[j4,CH] at U;show AZ (U _ s1)
    | true=>
     rw[j4,Cj] at U;show Ab ?_;let oB:=s1 _ _ ha;show{1,a,0,{_,AB.of oB},[],0,λD2 jx=>?_};show BS (a:=a) (xs:=xs) (λi I J=>I=((ds.take i).map B7).map V.int/\J=upd H1 D2 (.lst I)) {3} (λi I J z=>?_) (λi I J z=>?_) (λi v I J hv z=>?_) (λI J z=>?_)
     . let{1}:=z;show AB.of (zH jx _ _ oB)
     . let{0,_}:=z;rw[zC,zC,ze];show BL (by omega)
     . let{3}:=z;let{b,vu,vw,d,0,hb,hd,_}:=Rl al j4 hv;show{{3},?_};show BW ?_;show{1,b,2,.int (B7 d),3,AB.of (zH jx _ _ (s1 _ _ hb)),0,zI,?_,EU};rw[zt,hd,zP,zP];rfl
     . let{3}:=z;rw[mB,zb (zJ _)];let s2:=s1.trans (zH (o:=.lst ((ds.map B7).map V.int)) jx);let lN:(upd H1 D2 (.lst ((ds.map B7).map V.int))) D2=some (.lst ((ds.map B7).map V.int)):=zI;generalize upd H1 D2 (.lst ((ds.map B7).map V.int))=H2 at s2 lN ⊢;show⟨_,rfl,.inl {0,_,AD.of lN},D2,ds.map B7,0,rfl,rfl,AD.of lN,rfl,_,rfl,?_⟩;rw[Eo];let eo:decide ((((ds.map B7).countP λx=>x==0:Nat):Int)=1)=ER ds:=by unfold ER;rw[Gd,F7,F7];omega
       rw[eo];cases ho:ER ds with
       | false=>rw[ho,CH] at U;show Ab (U _ s2)
       | true=>
        rw[ho,Cj] at U;show AZ ?_;show{1,a,0,{_,AB.of (s2 _ _ ha)},[],0,λD3 kC=>?_};show BS (a:=a) (xs:=xs) (λi I J=>I=((ds.take i).map BK).map V.int/\J=upd H2 D3 (.lst I)) {3} (λi I J z=>?_) (λi I J z=>?_) (λi v I J hv z=>?_) (λI J z=>?_)
        . let{1}:=z;show AB.of (zH kC _ _ (s2 _ _ ha))
        . let{0,_}:=z;rw[zC,zC,ze];show BL (by omega)
        . let{3}:=z;let{b,vu,vw,d,0,hb,hd,_}:=Rl al j4 hv;show{{3},?_};show BW ?_;show{1,b,2,.int (BK d),3,AB.of (zH kC _ _ (s2 _ _ hb)),0,zI,?_,EU};rw[zt,hd,zP,zP];rfl
        . let{3}:=z;rw[mB,zb (zJ _)];let s3:=s2.trans (zH (o:=.lst ((ds.map BK).map V.int)) kC);show{D3,ds.map BK,0,zI,by rwa[zC],λH' s'=>U _ (s3.trans s')}
def ik:AR MF Qa.p (defScope Qa.s):=Aa
def jR:AC P w K mg base 6 Qa cH:=λJ=>by
 show J.Al.okZ ik λ_ _ A _ _ H vs Q E hr h=>?_;let{n,v,d,0,hnn,S,k}:=h;show{_,zc (AL (CD (AG (XB J) hr (zD (pv 1) (zD (pv 0) zN))) (Ct (Af (SQ rfl) J.mAll (zD (BU (own:=["label"]) (cn:=["n"]) (ci:=[0]) rfl (Ax rfl rfl) {0,3,trivial} rfl (BB (pv 1)) (λ_ _ _ _=>Aw) (λ_ _ _ _=>BM)
  (λ_ _ _ _=>AG (fV J) hr (zD (pv 1) (zD (pv 0) zN)))) zN))))),?_}
 show{4,v,d,n,0,S,D6 d n,0,?_};cases hn:D6 d n with
 | false=>
  show Ab ?_;let:FW n d=false:=by
   cases d with
   | tuple ds=>have U:decide ((ds.length:Int)=n)=false:=hn;change (decide ((ds.length:Int)=n) && _)=false;rw[U,CH]
   | _=>rfl
  rw[<-this];show k H (AE.refl _)
 | true=>
  show AZ ?_;cases S with
  | @tup a xs ds e al=>
   let U:decide ((ds.length:Int)=n)=true:=hn;let hlen:(ds.length:Int)=n:=of_decide_eq_true U;let mB:=JU al;let k':∀(H':Hp),AE H H'->Q (.bl (decide ((ds.length:Int)=n) && ds.all (BQ n))) H':=k;rw[U,Cj] at k';show{1,a,0,{_,AB.of e},[.int n],0,λD hD=>?_};show BS (a:=a) (xs:=xs) (λi o I=>o=((ds.take i).map (BQ n)).map V.bl/\AE H I/\I D=some (.lst o)) {0,zH hD,zI} (λi o I z=>?_) (λi o I z=>?_) (λi x o I hx z=>?_) (λo I z=>?_)
   . let{_,s4,_}:=z;show AB.of (s4 _ _ e)
   . let{0,_}:=z;rw[zC,zC,ze];show BL ()
   . let{0,s4,h4}:=z;let hi:i<ds.length:=by let:=(zE.mp hx).1;lia
     let{x',ju,Sx}:=Nk al (zB hi);rw[hx] at ju;ext ju;show{{3},?_};show BW ?_;show{4,n,x,ds[i],0,hnn,CJ s4 Sx,λH5 s5=>{s5 _ _ h4,?_,Ar (s4.trans s5) hD,zI}};rw[zt,zB hi,zP,zP];rfl
   . let{0,s4,h4}:=z;rw[mB,zb (zJ _)] at h4;show{D,(ds.map (BQ n)),0,AD.of h4,?_};let ea:(ds.map (BQ n)).all id=ds.all (BQ n):=by rw[List.all_map];rfl
     rw[ea];show k' _ s4
  | _=>ext hn
def Lj:AR ["_law_thing","_law_least","_law_most"] QY.p (defScope QY.s):=Aa
def RA:AC P w K mg base 1 QY O0:=λo=>by
 show o.Ln.okZ Lj λ_ _ A _ _ H vs Q E hr h=>?_;let{v,d,a,b,0,S,k}:=h;let{t,bi,bb,bt,ty,e1,e2,_,I,_,hi,_}:=HY (K:=K) S;show{_,zc (AL (CD (Af Ge o.mIsi (zD (pv 0) (zD (F3 (T := "int") o.mInt) zN)))
  (CD (ZR (Af Ge o.mIsi (zD (pv 0) (zD (F3 (T := "bool") o.mBool) zN)))) (Ct (dZ Qx Qx (pv 1) (pv 0) (pv 2)))))),?_}
 show{1,2,t,bi,0,ty,e1,bi,0,?_};cases U:Hc d with
 | false=>
  rw[U] at I;let kf:Q (.bl false) H:=by
   let:BZ d a b=false:=by ext d <;> first | rfl | ext U
   rwa[this] at k
  cases bi with
  | false=>show Ak rfl kf
  | true=>show Aj rfl {1,2,t,bb,0,ty,e2,bb,0,!bb,0,Ak I kf}
 | true=>
  rw[U] at I;let{i,3}:=hi U;let J:Q (.bl (decide (a<=i) && decide (i<=b))) H:=k;cases bi with
  | false=>ext I
  | true=>
   show Aj rfl {1,2,t,bb,0,ty,e2,bb,0,!bb,0,Aj I ?_};show{4,_,7,?_};by_cases c:a<=i
   . rw[zO c,Cj] at J;show Aj (zO c) {1,5,J}
   . rw[zW c,CH] at J;show Ak (zW c) J
inductive Wu (K:AF)(x:V)(y:V)(H:Hp)(Q:VK):Prop
 | mk:∀(a b:Addr)(xs ys:List Int),(x=.ref a)->(y=.ref b)->(AD K H a (xs.map V.int))->(AD K H b (ys.map V.int))->(Q (.bl (decide (xs=ys))) H)->Wu K x y H Q
def Ux (K:AF):R2:=λx y H Q=>Wu K x y H Q
def Kl (J:X.A.units<cLine):A9 X (compareOp .Eq) (Ux X.K):=by
 intro pins s σ H x y v u Q I rx ry h;let{a,b,xs,ys,3,ha,hb,q}:=h;ext rx;ext ry;let{its,r,o,hz}:=I.list ha;let{j7,r2,C,hz2}:=I.list hb;let h1:=EK r;let h2:=EK r2;let l1:=h1.length;let l2:=h2.length;by_cases U:its.length=j7.length
 . show SeqAt.eq_listAt (e:=λj=>xs.getD j 0==ys.getD j 0) o.isList C.isList (by rwa[zU,zU]) J (λj a b=>Ij h1 h2 j a b) {.bl _,H,I,0,?_};rw[zU];let e:=ZG (xs:=xs) (ys:=ys);rw[show min xs.length ys.length=its.length by grind,show (xs.length==ys.length)=true by simpa using (),Bool.and_true] at e;rwa[e]
 . show SeqAt.eq_list_lengthsAt o.isList C.isList (by rw[zU,zU];simpa using U) J {.bl _,H,I,0,?_};let kA:xs≠ys:=λe=>U (by rw[l1,l2,e]);rwa[zW kA] at q
def jO (h:Ai n d=true):0<=BK d/\BK d<n:=by let{x,l,u,w,0,o,C,_}:=XG h;show{o,by change x<n;lia}
def gB {ds:List PyData}(h:ds.all (Ai n)=true)(C:CW (ds.map BK)=true)(U:0<=n):(ds.length:Int)<=n:=by
 let J:=(Nc _).mp C;let I:(ds.map BK).Nodup:=J.imp λh=>by lia
 let:=M9 (n:=n.toNat) I (λx o=>by
  let{d,hd,0}:=zk.mp o;let:=jO (List.all_eq_true.mp h d hd)
  lia)
 rw[zC] at this
 lia
def dC (o:0<=n):BQ n (.tuple ds)=(ds.all (Ai n) && (CW (ds.map BK) && ER ds)):=by
 change (decide ((ds.length:Int)<=n) && (ds.all (Ai n) && (ER ds && CW (ds.map BK))))=_;cases I:ds.all (Ai n) with
 | false=>simp
 | true=>
  cases C:CW (ds.map BK) with
  | false=>simp
  | true=>rw[zO (gB I C o)];simp
def dS (o:ms.Pairwise (· < ·))(hm:∀z:Int,z∈ms↔z∈xs):decide (xs=ms)=CW xs:=by
 rw[Gd,F7,Nc];constructor
 . rintro rfl;show o
 . intro h;show Wm h o λz=>(hm z).symm
meta def big:Nat:=10 ^ 32
inductive V8 (vs:List V)(H:Hp)(Q:VK):Prop
 | mk:∀(n:Int)(v:V)(d:PyData)(k l:Nat),(vs=[.int n,v])->(AX H v d)->(IB k l d)->(k<=big)->(Q (.bl (Ai n d)) H)->V8 vs H Q
def Lz:Sp:=λo H Q _=>V8 o H Q
inductive X7 (vs:List V)(H:Hp)(Q:VK):Prop
 | mk:∀(n:Int)(v:V)(d:PyData)(k l:Nat),(vs=[.int n,v])->(0<=n)->(AX H v d)->(IB k l d)->(k<=big)->(l<64)->(∀H',AE H H'->Q (.bl (BQ n d)) H')->X7 vs H Q
def Jk:Sp:=λo H Q _=>X7 o H Q
inductive Zn (vs:List V)(H:Hp)(Q:VK):Prop
 | mk:∀(n:Int)(v:V)(d:PyData)(k l:Nat),(vs=[.int n,v])->(0<=n)->(AX H v d)->(IB k l d)->(k<=big)->(l<64)->(∀H',AE H H'->Q (.bl (FW n d)) H')->Zn vs H Q
def bp:Sp:=λo H Q _=>Zn o H Q
def bx (h:IB k l d)(o:k<=big):BZ d 0 (10 ^ (60:Int).toNat)=(match d with | .int i=>decide (0<=i) | _=>false):=by
 cases h with
 | int i hi=>
  change (decide (0<=i) && decide (i<=10 ^ (60:Int).toNat))=decide (0<=i);let hb:(big:Int)<=10 ^ (60:Int).toNat:=by decide
  rw[zO (show i<=10 ^ (60:Int).toNat by lia),Bool.and_true]
 | _=>rfl
def Mf:AR QM RV.p (defScope RV.s):=Aa
def eG:AC P w K mg base 2 RV Lz:=λJ=>by
 show J.Le.okZ Mf λ_ _ A _ _ H vs Q E hr h=>?_;let{n,v,d,kb,lb,0,S,ib,hkb,k}:=h;show{_,zT (Ac (PW.pt (Dy (DA (CG (Af Ge J.mIsi (zD (pv 1) (zD (F3 (T := "tuple") J.mTuple) zN))))) (Dk (GS (Mi (Af DB J.mLen (zD (pv 1) zN)) zg))))) (zc (AL E4)) Ae)
  (zT (Ac (PW.pt (Dy (DA (CG (AG (RA J) hr (zD (zv AV (pv 1) zg) (zD zg (zD (AQ Dh (pv 0) zg) zN)))))) (Dk (DA (CG (AG (RA J) hr (zD (zv AV (pv 1) zg) (zD zg (zD (AQ Xi zg zg) zN))))))))) (zc (AL E4)) Ae)
  (zT (Ac (zw BH (zv AV (pv 1) zg) zg (AH _)) (zc (AL (CD (Bt Dl (zv AV (pv 1) zg) As (AH _)) (Ct (Bt Dl (zv AV (pv 1) zg) As (AH _)))))) Ae)
  (zc (AL (CD (AG (RA J) hr (zD (zv AV (pv 1) zg) (zD zg (zD (AQ Dh (pv 0) zg) zN)))) (Ct (AG (RA J) hr (zD (zv AV (pv 1) zg) (zD zg (zD (AQ Dh (pv 0) zg) zN)))))))))),?_}
 let{t,bi,bb,bt,ty,2,e3,_,e5,_,I}:=HY (K:=K) S;show{1,2,t,bt,0,ty,e3,bt,0,?_};rw[e5];cases hn:JP d with
 | false=>
  show AZ (AZ ?_);let:Ai n d=false:=by ext d <;> first | rfl | ext hn
  rwa[<-this]
 | true=>
  show Ab ?_;let{a,xs,ds,0,ha,0,al}:=I hn;let mB:=JU al;show{1,a,xs,0,.inr (AB.of ha),_,7,?_};by_cases c:ds.length=4
  case neg=>
   show Aj (by simp;lia) ?_;let:Ai n (.tuple ds)=false:=Bool.eq_false_iff.mpr λz=>by let{8,h,_}:=HC z;ext h;show c rfl
   rwa[<-this]
  show Ak (by simp;lia) ?_;let be:=ib.elem;obtain⟨x,y,z,u,rfl⟩:∃x y z u,ds=[x,y,z,u]:=by show Ot c
  let iy:IB kb lb y:=be y (by simp);cases al with
  | cons s1 al=>cases al with
   | cons s2 al=>cases al with
    | cons s3 al=>cases al with
     | cons s4 al=>
      ext al;let I:=AB.of (K:=K) ha;show⟨_,rfl,a,_,_,_,rfl,rfl,I,rfl,_,rfl,_,_,rfl,rfl,_,x,0,n-1,rfl,s1,BZ x 0 (n-1),rfl,?_⟩;cases h1:BZ x 0 (n-1) with
      | false=>
       let:Ai n (.tuple [x,y,z,u])=false:=by cases y <;> first | rfl | (change (BZ x 0 (n-1) && _)=false;rw[h1,CH])
       rw[this] at k;show AZ (AZ k)
      | true=>
       show Ab ?_;show⟨_,rfl,a,_,_,_,rfl,rfl,I,rfl,_,_,rfl,rfl,{by decide,by decide,by decide},_,y,0,_,rfl,s2,_,rfl,?_⟩;rw[bx iy hkb];cases y with
       | int l=>
        let o:Q (.bl (decide (0<=l) && FT n l z u)) H:=by let:Ai n (.tuple [x,.int l,z,u])=(BZ x 0 (n-1) && (decide (0<=l) && FT n l z u)):=rfl;rwa[this,h1,Cj] at k
        ext s2;change (if (!decide (0<=l))=true then _ else _)
        by_cases c0:0<=l
        . rw[zO c0,Cj] at o;rw[zO c0];show Ab ?_;show{1,_,9,I,3,1,?_};rw[Eo];unfold FT at o;by_cases c1:l=0
          . rw[if_pos c1] at o;show Aj (zO c1) ?_;show{1,_,9,I,3,1,?_};rw[QX s3];cases U:NT z with
            | false=>rw[U,CH] at o;show Ab o
            | true=>rw[U,Cj] at o;show AZ ?_;show{1,_,9,I,3,?_};rwa[QX s4]
          . rw[if_neg c1] at o;show Ak (zW c1) ?_;show⟨_,rfl,_,_,_,_,rfl,rfl,I,rfl,_,rfl,_,_,rfl,rfl,_,z,0,n-1,rfl,s3,BZ z 0 (n-1),rfl,?_⟩;cases U:BZ z 0 (n-1) with
            | false=>rw[U,CH] at o;show Ab o
            | true=>rw[U,Cj] at o;show AZ ?_;show⟨_,rfl,_,_,_,_,rfl,rfl,I,rfl,_,rfl,_,_,rfl,rfl,_,u,0,n-1,rfl,s4,o⟩
        . rw[zW c0,CH] at o;rw[zW c0];show AZ o
       | _=>show AZ ?_;let:∀b,b=false->Q (.bl b) H->Q (.bl false) H:=λb h q=>h ▸ q;show this _ rfl k
def Vd:AR ["_law_n","_law_thing","_law_hubs"] QU.p (defScope QU.s):=Aa
def ef:AC P w K mg base 3 QU Jk:=λU=>by
 show U.Lk.okZ Vd λ_ _ A _ _ H vs Q E hr h=>?_;let{n,v,d,kb,lb,0,n0,S,ib,hkb,hlb,k}:=h;let nJ:=hr.units0;let{t,bi,bb,bt,ty,2,e3,_,e5,_,ht}:=HY (K:=K) S;show{_,zT (Ac (PW.pt (Dy (DA (CG (Af Ge U.mIsi (zD (pv 1) (zD (F3 (T := "tuple") U.mTuple) zN)))))
  (Dk (zw (Zw nJ) (BU (own:=Fc) (cn:=["_law_n"]) (ci:=[0]) rfl (Ax rfl rfl) {0,3,trivial} rfl (BB (pv 1)) (λ_ _ _ _=>Aw)
   (λ_ _ _ _=>Dw (DA (CG (AG (eG U) hr (zD (pv 1) (zD (pv 0) zN)))))) (λ_ _ _ _=>pv 0)) (BR zN) (AH _))))) (zc (AL E4)) Ae)
  (zT (DW (i:=2) (own:=Fc) (cn:=[]) (ci:=[]) Vd.nd rfl (Or.inl rfl) rfl (Ax rfl rfl) trivial rfl (BB (pv 1)) (λ_ _ _ _=>Aw) (λ_ _ _ _=>BM) (λ_ _ _ _=>zv CU (pv 0) zg))
  (zc (AL (CD (Bt (Kl nJ) (pv 2) (iR rfl rfl U.mSorted rfl U.mSet (zD (pv 2) zN)) (AH _))
   (Ct (Bt BH (C3 PySem.F.plainAttrs_list PySem.F.slot_list_count PySem.F.type_list_count Vv (BU (own:=Fc) (cn:=[]) (ci:=[]) rfl (Ax rfl rfl) trivial rfl (BB (pv 1)) (λ_ _ _ _=>Aw) (λ_ _ _ _=>BM) (λ_ _ _ _=>zv CU (pv 0) zg)) (zD zg zN)) zg (AH _))))))),?_}
 show{1,2,t,bt,0,ty,e3,bt,0,?_};rw[e5];cases hn:JP d with
 | false=>
  show AZ (AZ ?_);let:BQ n d=false:=by ext d <;> first | rfl | ext hn
  rw[<-this];show k H (AE.refl _)
 | true=>
  show Ab ?_;let{a,xs,ds,0,ha,0,al}:=ht hn;let mB:=JU al;let hl64:ds.length<64:=CO ib.len hlb;rw[dC n0] at k;show{1,a,0,{_,AB.of ha},[.int n],0,λD hD=>?_};show BS (a:=a) (xs:=xs) (λi ys I=>(ys=[]↔(ds.take i).all (Ai n)=true)/\ys.length<=(ds.take i).length/\I=upd H D (.lst ys)) {{λ_=>rfl,λ_=>rfl},zj _,0} (λi ys I z=>?_) (λi ys I z=>?_) (λi x ys I hx z=>?_) (λys I z=>?_)
  . let{6}:=z;show AB.of (zH hD _ _ ha)
  . let{_,hl,_}:=z;rw[ze] at hl;show BL (by omega)
  . let{hy,hl,0}:=z;let hi:i<ds.length:=by let:=(zE.mp hx).1;lia
    let{x',ju,Sx}:=Nk al (zB hi);rw[hx] at ju;ext ju;let Sx1:=CJ (zH (o:=.lst ys) hD) Sx;let et:(ds.take (i+1)).all (Ai n)=((ds.take i).all (Ai n) && Ai n ds[i]):=by rw[zt,zB hi,List.all_append];change ((ds.take i).all (Ai n) && (Ai n ds[i] && true))=_;rw[Bool.and_true]
    show{{3},?_};show{4,n,x,ds[i],kb,lb,0,Sx1,ib.elem _ (Cv hi),hkb,Ai n ds[i],0,?_};cases he:Ai n ds[i] with
    | true=>show Ab ?_;show{by rwa[et,he,Bool.and_true],by rw[ze] at hl ⊢;grind,0}
    | false=>show AZ ?_;show{1,zI,by rw[et,he,Bool.and_false];simp,by rw[zK,ze];rw[ze] at hl;change ys.length+1<=_;grind,EU}
  . let{hy,hl,0}:=z;rw[mB,zb (zJ _)] at hy;show{zj _,λb hb=>?_};let sb:=(zH (o:=.lst ys) hD).trans (zH (o:=.lst []) hb);let jx:(upd (upd H D (.lst ys)) b (.lst [])) D=some (.lst ys):=zH hb _ _ zI;show{D,b,ys,3,AD.of jx,AD.of zI,1,?_};generalize upd (upd H D (.lst ys)) b (.lst [])=H1 at sb ⊢;cases j4:ds.all (Ai n) with
    | false=>
     let kA:ys≠[]:=λz=>by let:=hy.mp z;rw[j4] at this;ext this
     let e0:(!ys.isEmpty)=true:=by cases ys with
      | nil=>show absurd rfl kA
      | cons _ _=>rfl
     rw[j4,CH] at k;show Aj e0 (k _ sb)
    | true=>
     let he:ys=[]:=hy.mpr j4;subst he;rw[j4,Cj] at k;show Ak rfl ?_;let oB:=sb _ _ ha;show{1,a,0,{_,AB.of oB},[],0,λD2 kq=>?_};show BS (a:=a) (xs:=xs) (λi ys I=>ys=((ds.take i).map BK).map V.int/\I=upd H1 D2 (.lst ys)) {3} (λi ys I z=>?_) (λi ys I z=>?_) (λi v ys I hv z=>?_) (λys I z=>?_)
     . let{1}:=z;show AB.of (zH kq _ _ oB)
     . let{0,_}:=z;rw[zC,zC,ze];show BL (by grind)
     . let{3}:=z;let{b',vu,vw,d,0,kS,hd,_}:=Rl al j4 hv;show{{3},?_};show BW ?_;show{1,b',2,.int (BK d),3,AB.of (zH kq _ _ (sb _ _ kS)),0,zI,?_,EU};rw[zt,hd,zP,zP];rfl
     . let{3}:=z;rw[mB,zb (zJ _)];let s2:=sb.trans (zH (o:=.lst ((ds.map BK).map V.int)) kq);let lN:(upd H1 D2 (.lst ((ds.map BK).map V.int))) D2=some (.lst ((ds.map BK).map V.int)):=zI;generalize upd H1 D2 (.lst ((ds.map BK).map V.int))=H2 at s2 lN ⊢;show{4,D2,ds.map BK,0,AD.of lN,by rwa[zC],λl ms hl3 hr3 hm3=>?_};let s3:=zH (o:=.lst (ms.map V.int)) hl3;show{D2,l,ds.map BK,ms,3,AD.of (s3 _ _ lN),AD.of zI,1,?_};rw[dS hr3 hm3];let lz:=s2.trans s3;generalize upd H2 l (.lst (ms.map V.int))=H3 at lz ⊢;cases hr4:CW (ds.map BK) with
       | false=>rw[hr4,CH] at k;show Ab (k _ lz)
       | true=>
        rw[hr4,Cj] at k;show AZ ?_;show{1,a,0,{_,AB.of (lz _ _ ha)},[],0,λD3 kC=>?_};show BS (a:=a) (xs:=xs) (λi ys I=>ys=((ds.take i).map B7).map V.int/\I=upd H3 D3 (.lst ys)) {3} (λi ys I z=>?_) (λi ys I z=>?_) (λi v ys I hv z=>?_) (λys I z=>?_)
        . let{1}:=z;show AB.of (zH kC _ _ (lz _ _ ha))
        . let{0,_}:=z;rw[zC,zC,ze];show BL (by grind)
        . let{3}:=z;let{b',vu,vw,d,0,kS,hd,_}:=Rl al j4 hv;show{{3},?_};show BW ?_;show{1,b',2,.int (B7 d),3,AB.of (zH kC _ _ (lz _ _ kS)),0,zI,?_,EU};rw[zt,hd,zP,zP];rfl
        . let{3}:=z;rw[mB,zb (zJ _)];let s4:=lz.trans (zH (o:=.lst ((ds.map B7).map V.int)) kC);let J:(upd H3 D3 (.lst ((ds.map B7).map V.int))) D3=some (.lst ((ds.map B7).map V.int)):=zI;generalize upd H3 D3 (.lst ((ds.map B7).map V.int))=I at s4 J ⊢;show⟨.inl {0,_,AD.of J},D3,ds.map B7,0,rfl,rfl,AD.of J,rfl,?_⟩;rw[Eo];let eo:decide ((((ds.map B7).countP λx=>x==0:Nat):Int)=1)=ER ds:=by
           unfold ER;rw[Gd,F7,F7]
           lia
          rw[eo];show k _ s4
def fS:AR QM Ql.p (defScope Ql.s):=Aa
def bJ:AC P w K mg base 4 Ql bp:=λU=>by
 show U.Lm.okZ fS λ_ _ A _ _ H vs Q E hr h=>?_;let{n,v,d,kb,lb,0,n0,S,ib,hkb,hlb,k}:=h;let nJ:=hr.units0;let{t,bi,bb,bt,ty,2,e3,_,e5,_,ht}:=HY (K:=K) S;show{_,zc (AL (CD (Af Ge U.mIsi (zD (pv 1) (zD (F3 (T := "tuple") U.mTuple) zN)))
  (CD (Bt BH (Af DB U.mLen (zD (pv 1) zN)) (pv 0) (AH _))
   (Ct (Bt (Tx nJ) (BU (own:=["_law_one"]) (cn:=["_law_n"]) (ci:=[0]) rfl (Ax rfl rfl) {0,3,trivial} rfl (BB (pv 1)) (λ_ _ _ _=>Aw)
    (λ_ _ _ _=>Dw (DA (CG (AG (ef U) hr (zD (pv 1) (zD (pv 0) zN)))))) (λ_ _ _ _=>pv 0)) (BR zN) (AH _)))))),?_}
 show{1,2,t,bt,0,ty,e3,bt,0,?_};rw[e5];cases hn:JP d with
 | false=>
  show Ab ?_;let:FW n d=false:=by ext d <;> first | rfl | ext hn
  rw[<-this];show k H (AE.refl _)
 | true=>
  show AZ ?_;let{a,xs,ds,0,ha,0,al}:=ht hn;let mB:=JU al;let hl64:ds.length<64:=CO ib.len hlb;let k':∀(H':Hp),AE H H'->Q (.bl (decide ((ds.length:Int)=n) && ds.all (BQ n))) H':=k;show{1,a,xs,0,.inr (AB.of ha),7,?_};rw[Eo,mB];by_cases c:(ds.length:Int)=n
  case neg=>
   rw[zW c,CH] at k';show Ak (zW c) (k' H (AE.refl _))
  rw[zO c,Cj] at k';show Aj (zO c) ?_;show{1,a,0,{_,AB.of ha},[.int n],0,λD hD=>?_};show BS (a:=a) (xs:=xs) (λi I J=>I.isEmpty=(ds.take i).all (BQ n)/\I.length<=(ds.take i).length/\AE H J/\J D=some (.lst I)) {0,zj _,zH hD,zI} (λi I J z=>?_) (λi I J z=>?_) (λi x I J hx z=>?_) (λI J z=>?_)
  . let{2,s4,_}:=z;show AB.of (s4 _ _ ha)
  . let{_,hl,_}:=z;rw[ze] at hl;show BL (by omega)
  . let{hy,hl,s4,h4}:=z;let hi:i<ds.length:=by let:=(zE.mp hx).1;lia
    let{x',ju,Sx}:=Nk al (zB hi);rw[hx] at ju;ext ju;let et:(ds.take (i+1)).all (BQ n)=((ds.take i).all (BQ n) && BQ n ds[i]):=by rw[zt,zB hi,List.all_append];change ((ds.take i).all (BQ n) && (BQ n ds[i] && true))=_;rw[Bool.and_true]
    show{{3},?_};show{4,n,x,ds[i],kb,lb,0,n0,CJ s4 Sx,ib.elem _ (Cv hi),hkb,hlb,λH5 s5=>{BQ n ds[i],0,?_}};cases he:BQ n ds[i] with
    | true=>show Ab ?_;show{by rwa[et,he,Bool.and_true],by rw[ze] at hl ⊢;grind,s4.trans s5,s5 _ _ h4}
    | false=>show AZ ?_;show{1,s5 _ _ h4,by rw[et,he,Bool.and_false];simp,by rw[zK,ze];rw[ze] at hl;change I.length+1<=_;grind,Ar (s4.trans s5) hD,zI}
  . let{hy,hl,s4,h4}:=z;rw[mB,zb (zJ _)] at hy;show{zj _,λb hb=>?_};let sb:=s4.trans (zH (o:=.lst []) hb);show{D,b,I,3,AD.of (zH hb _ _ h4),AD.of zI,?_};rw[hy];show k' _ sb
inductive Vx (vs:List V)(H:Hp)(Q:VK):Prop
 | mk:∀(wa:Addr)(n:Int)(ts:List T3)(p:Int),(vs=[.ref wa,.int p])->(Ap H wa n ts)->(∀(l:Addr)(zs:List V)(ms:List (List Int))(H':Hp),AE H H'->H l=none->H' l=some (.lst zs)->Au H' zs ms->ms.Perm (fd p ts)->QW ms->Q (.ref l) H')->Vx vs H Q
def MT:Sp:=λo H Q _=>Vx o H Q
def Ni:AR ["web","place","found","a","b","long"] Qh.p (defScope Qh.s):=Aa
def XN:AC P w K mg base 1 Qh MT:=λwz=>by
 show wz.T.okZ Ni λ_ _ A _ _ H vs Q E hr h=>?_;let{wa,n,ts,p,0,{ta,tys,kF,mX,TA,G},k}:=h;show{_,zT (AO (i:=2) Ni.nd (BR zN))
  (zT (A0 (BB (zv AV (pv 0) zg)) (C0 rfl (zx (AY (i:=3) Ni.nd) (zx (AY (i:=4) Ni.nd) (zx (AY (i:=5) Ni.nd) CY))))
   (zT (Ac (zw BH (pv 3) (pv 1) (AH _)) (zc (C1 (C3 PySem.F.plainAttrs_list PySem.F.slot_list_append PySem.F.type_list_append FF (pv 2) (zD (AU (zD (pv 4) (zD (pv 5) zN))) zN)))) Ae)
   (zc (Ac (zw BH (pv 4) (pv 1) (AH _)) (zc (C1 (C3 PySem.F.plainAttrs_list PySem.F.slot_list_append PySem.F.type_list_append FF (pv 2) (zD (AU (zD (pv 3) (zD (pv 5) zN))) zN)))) Ae))))
  (zc (AL (Af YW wz.mSorted (zD (pv 2) zN))))),?_}
 show{zj _,λl hl=>?_};let hwl:wa≠l:=zl kF hl;let htl:ta≠l:=zl mX hl;let jy:tys.length=ts.length:=by rw[TA.length,zC]
 show{1,wa,9,AB.of (by rwa[zi hwl]),0,ta,0,{_,AB.of (by rwa[zi htl])},Nz (K:=K) (a:=ta) (xs:=tys)
  (λi σ H2=>NO λ(va vb vl:Option V)(xs:List V)=>σ=[⇑wa,some (.int p),⇑l,va,vb,vl]/\AE H H2/\H2 l=some (.lst xs)/\Au H2 xs (fd p (ts.take i)))
  {none,none,none,[],0,zH hl,zI,trivial} (λi σ H2 _ z=>by let{_,8,s2,_}:=z;show AB.of (s2 _ _ mX)) ?turn ?after}
 case turn=>
  rintro i y σ H2 hi ⟨va,vb,vl,xs,rfl,s2,U,T2⟩;let{ya,ky,0,kQ,nY,_}:=TA.get hi;rw[zM] at kQ;obtain⟨⟨a,b,c⟩,hti,rfl⟩:∃t:T3,ts[i]?=some t/\tl t=ky:=by
   cases e:ts[i]? with
   | none=>rw[e] at kQ;ext kQ
   | some t=>rw[e] at kQ;show{t,0,zZ kQ}
  let m9:i<ts.length:=(zE.mp hti).1;let hlen:∀{I:List V}{H3:Hp},Au H3 I (fd p (ts.take i))->I.length<sizeLine:=λT=>by let e1:=T.length;let e2:=UK (n:=n) p (ts:=ts.take i) λt ht=>(G.rng t (List.mem_of_mem_take ht)).2.1;rw[ze] at e2;show BL (by let:=G.len;lia)
  let hfd:fd p (ts.take (i+1))=fd p (ts.take i)++((if a=p then [[b,c]] else [])++(if b=p then [[a,c]] else [])):=by
   rw[zt,hti,aD];change _++((if a=p then [[b,c]] else [])++(if b=p then [[a,c]] else [])++[])=_
   rw[Bq]
  let kW:a<b:=(G.rng _ (zQ hti)).2.1;show{ya,1,AB.of (s2 _ _ nY),0,6,6,5,?_};let app:∀{x:Int},∀q,H2 q=none->∃I,(upd (upd H2 q (.tup [.int x,.int c])) l (.lst (xs++[.ref q]))) l=some (.lst I)/\AE H (upd (upd H2 q (.tup [.int x,.int c])) l (.lst (xs++[.ref q])))/\Au (upd (upd H2 q (.tup [.int x,.int c])) l (.lst (xs++[.ref q]))) I (fd p (ts.take i)++[[x,c]]):=by intro x q hq;let J:l≠q:=zl U hq;show{_,zI,Ar (s2.trans (zH hq)) hl,(T2.keep λe ys he=>?_).snoc {q,0,by rw[zi J.symm,zI];rfl,by simp}};rwa[zi (BA he U (by intro z;ext z)),zi (zl he hq)]
  show{1,7,?_};show A3 (λh1=>?_) (λh1=>?_)
  . let e1:a=p:=by let:=of_decide_eq_true h1;injection this
    let n2:¬ b=p:=()
    show{1,.inl {0,_,AD.of U},4,Ad,λq hq=>?_};let J:l≠q:=zl U hq;show{l,5,by rwa[zi J],hlen T2,?_};show{1,7,?_};rw[show decide (V.int b=V.int p)=false from zW λe=>n2 (by injection e)];show Ab ?_;let{I,g1,g2,g3}:=app (x:=b) q hq;show{_,2,I,0,g2,g1,?_};rwa[hfd,if_pos e1,if_neg n2]
  . let n1:¬ a=p:=λe=>by let:=h1;rw[e] at this;show this (zO rfl)
    show{1,7,?_};show A3 (λh2=>?_) (λh2=>?_)
    . let e2:b=p:=by let:=of_decide_eq_true h2;injection this
      show{1,.inl {0,_,AD.of U},4,Ad,λq hq=>?_};let J:l≠q:=zl U hq;show{l,5,by rwa[zi J],hlen T2,?_};let{I,g1,g2,g3}:=app (x:=a) q hq;show{_,2,I,0,g2,g1,?_};rwa[hfd,if_neg n1,if_pos e2]
    . let n2:¬ b=p:=λe=>by let:=h2;rw[e] at this;show this (zO rfl)
      show{_,2,xs,0,s2,U,?_};rwa[hfd,if_neg n1,if_neg n2,Bq,Bq]
 case after=>
  rintro σ H2 ⟨va,vb,vl,xs,rfl,s2,U,T2⟩;rw[jy,zb (zJ _)] at T2;let e2:=UK (n:=n) p (ts:=ts) λt ht=>(G.rng t ht).2.1;show{1,l,xs,fd p ts,0,AD.of U,T2,by let:=G.len;lia,λl' zs ms kO T3 hp hrs=>?_};let nll:l'≠l:=λe=>by rw[e,U] at kO;ext kO
  let hl0:H l'=none:=by
   cases q:H l' with
   | none=>rfl
   | some o=>have:=s2 l' o q;rw[kO] at this;ext this
  show k l' zs ms _ (s2.trans (zH kO)) hl0 zI (T3.keep λe ys he=>zH kO _ _ he) hp hrs
inductive Y5 (vs:List V)(H:Hp)(Q:VK):Prop
 | mk:∀(wa:Addr)(n:Int)(ts:List T3)(one other:Int),(vs=[.ref wa,.int one,.int other])->(Ap H wa n ts)->(∀(r:V)(H':Hp),AE H H'->((∃l,An ts one other l/\r=.int l)\/((∀l,¬ An ts one other l)/\r=.non))->Q r H')->Y5 vs H Q
def Ko:Sp:=λo H Q _=>Y5 o H Q
def TH:AR ["web","one","other","place","long"] Qv.p (defScope Qv.s):=Aa
def Zv:AC P w K mg base 2 Qv Ko:=λwz=>by
 show wz.Lo.okZ TH λ_ _ A _ _ H vs Q E hr h=>?_;let{wa,n,ts,one,other,0,W,k}:=h;show{_,zT (A0 (Du (AG (XN wz) hr (zD (pv 0) (zD (pv 1) zN)))) (C0 rfl (zx (AY (i:=3) TH.nd) (zx (AY (i:=4) TH.nd) CY)))
  (zc (Ac (zw BH (pv 3) (pv 2) (AH _)) (zc (AL (pv 4))) Ae)))
  (zc (AL As)),?_}
 show{4,wa,n,ts,one,0,W,λl zs ms H1 s1 hl0 I T1 hp _=>?_};show{l,0,{_,AD.of I},Jf (K:=K) (a:=l) (xs:=zs) (λi σ H2=>Es λ(U J:Option V)=>σ=[⇑wa,some (.int one),some (.int other),U,J]/\H2=H1/\∀j k,j<i->ms[j]?=some k->hd k≠other)
  {none,none,3,λj _ h=>()} (λi σ H2 _ ⟨_,_,_,e,_⟩=>e ▸ AD.of I) ?turn ?after}
 case turn=>
  rintro i y σ H2 hi ⟨U,J,rfl,rfl,mD⟩;let{ya,ky,0,kQ,nY,_}:=T1.get hi;let hm:ky∈fd one ts:=hp.mem_iff.mp (zQ kQ);let{z,c,0,ha}:=Mt.mp hm;show{ya,1,AB.of nY,0,6,5,?_};show{1,7,?_};show A3 (λh1=>?_) (λh1=>?_)
  . let e1:z=other:=by let:=of_decide_eq_true h1;injection this
    subst e1;show{1,k _ _ s1 (.inl {c,ha,0})}
  . let n1:z≠other:=λe=>by let:=h1;rw[e] at this;show this (zO rfl)
    show{5,λj kj hj o=>?_};by_cases hji:j<i
    . show mD j kj hji o
    . let e:j=i:=()
      subst e;rw[kQ] at o;ext o;show n1
 case after=>
  rintro σ H2 ⟨U,J,rfl,rfl,mD⟩;show k _ _ s1 (.inr {λc ha=>?_,0});let hm:[other,c]∈ms:=hp.mem_iff.mpr (Mt.mpr {other,c,0,ha});let{j,hj,e}:=zf hm;show mD j _ (by let:=T1.length;lia) (by rw[zB hj,e]) rfl
meta def eV (e:En):List V:=[.int e.h,.int e.l,oV e.u,oV e.d]
def Ah (H:Hp)(as:List Addr)(es:List En):Prop:=as.length=es.length/\∀(i:Nat)a,as[i]?=some a->∃e,es[i]?=some e/\H a=some (.tup (eV e))
inductive XZ (H:Hp)(p:Addr)(es:List En):Prop
 | mk:∀as:List Addr,(H p=some (.tup (as.map V.ref)))->(Ah H as es)->(es.length<=1000)->XZ H p es
def A1 (H:Hp)(p:Addr)(es:List En):Prop:=XZ H p es
def Ah.keep (h:Ah H as es)(k:∀b ys,H b=some (.tup ys)->H' b=some (.tup ys)):Ah H' as es:=
 {h.1,λi a ha=>let ⟨e,C,o⟩:=h.2 i a ha;{e,C,k _ _ o}}
def Ah.snoc (h:Ah H as es)(ha:H a=some (.tup (eV e))):Ah H (as++[a]) (es++[e]):=by
 show{by rw[zK,zK,h.1];rfl,λi b hb=>?_};by_cases c:i<as.length
 . rw[zV c] at hb;let{I,C,o}:=h.2 i b hb;show{I,by rw[zV (by rw[<-h.1];show c)];show C,o}
 . rw[zS ()] at hb;let hi:i-as.length=0:=by
    cases z:i-as.length with
    | zero=>rfl
    | succ m=>rw[z] at hb;simp at hb
   rw[hi] at hb;let:a=b:=‹hb›
   subst this;show{e,by rw[zS (by rw[<-h.1];lia),<-h.1,hi];rfl,ha}
def A1.keep (h:A1 H p es)(k:∀b ys,H b=some (.tup ys)->H' b=some (.tup ys)):A1 H' p es:=
 let ⟨as,I,C,o⟩:=h;{as,k _ _ I,C.keep k,o}
def A1.same (h:A1 H p es)(k:AE H H'):A1 H' p es:=h.keep λb o e=>k _ _ e
def Ah.at (h:Ah H as es){i:Nat}(o:(as.map V.ref)[i]?=some v):∃a e,v=.ref a/\es[i]?=some e/\H a=some (.tup (eV e)):=by
 rw[zM] at o;cases z:as[i]? with
 | none=>rw[z] at o;ext o
 | some a=>rw[z] at o;let{e,I,C}:=h.2 i a z;show{a,e,(zZ o).symm,I,C}
inductive YX (vs:List V)(H:Hp)(Q:VK):Prop
 | mk:∀(p:Addr)(es:List En)(e:En)(r:List En),(vs=[.ref p])->(A1 H p es)->(es.filter (λe=>decide (e.l=0))=e::r)->(∀H',AE H H'->Q (.int e.h) H')->YX vs H Q
def Oj:Sp:=λo H Q _=>YX o H Q
inductive WB (vs:List V)(H:Hp)(Q:VK):Prop
 | mk:∀(p q:Addr)(es fs:List En),(vs=[.ref p,.ref q])->(A1 H p es)->(A1 H q fs)->(Bx fs)->(∀(r:Addr)(lm:Option (Int×Int))(H':Hp),AE H H'->B3 (Cd es fs) lm->H' r=some (.tup [oV (lm.map (·.1)),oV (lm.map (·.2))])->Q (.ref r) H')->WB vs H Q
def N8:Sp:=λo H Q _=>WB o H Q
inductive Vf (vs:List V)(H:Hp)(Q:VK):Prop
 | mk:∀(p q:Addr)(es fs:List En),(vs=[.ref p,.ref q])->(A1 H p es)->(A1 H q fs)->(Bx fs)->(∀(lm:Option (Int×Int))(H':Hp),AE H H'->B3 (Cd es fs) lm->Q (oV (lm.map (·.1))) H')->Vf vs H Q
def LW:Sp:=λo H Q _=>Vf o H Q
inductive X5 (vs:List V)(H:Hp)(Q:VK):Prop
 | mk:∀(p:Addr)(es:List En)(x:Int),(vs=[.ref p,.int x])->(A1 H p es)->((Bo es x=none->Q .non H))->((∀e a,Bo es x=some e->H a=some (.tup (eV e))->Q (.ref a) H))->X5 vs H Q
def Po:Sp:=λo H Q _=>X5 o H Q
def A5 (h:n<=1000):n<sizeLine:=CO h (by decide)
def Oq:AR ["label"] HA.p (defScope HA.s):=Aa
def LS:AC P w K mg base 1 HA Oj:=λwz=>by
 show wz.Ow.okZ Oq λ_ _ A _ _ H vs Q E hr h=>?_;let{p,es,e,r,0,L,hf,k}:=h;let{as,U,EA,hl}:=id L;show{_,zc (AL (zv AS (BU (own:=U0) (cn:=[]) (ci:=[]) rfl (Ax rfl rfl) trivial rfl (BB (pv 0))
  (λ_ _ _ _=>Tv (n:=4) rfl (zx (Aw) (zx (Bc (i:=1) (Dm rfl) rfl (Or.inl rfl)) (zx (Bc (i:=2) (Dm rfl) rfl (Or.inl rfl)) (zx (Bc (i:=3) (Dm rfl) rfl (Or.inl rfl)) CY)))))
  (λ_ _ _ _=>Dw (zw BH (pv 1) zg (AH _))) (λ_ _ _ _=>pv 0)) zg)),?_}
 show{1,p,0,{_,AB.of U},[],0,λD J=>?_};show BS (a:=p) (xs:=as.map V.ref) (λi o I=>o=((es.take i).filter λe=>decide (e.l=0)).map (λe=>V.int e.h)/\I=upd H D (.lst o)) {3} (λi o I h=>?_) (λi o I h=>?_) (λi v o I hv h=>?_) (λo I h=>?_)
 . let{1}:=h;show AB.of (by rwa[zi (zl U J)])
 . let{0,_}:=h;rw[zC];show CO (D0 _ _) (A5 (by rw[ze];lia))
 . let{3}:=h;let{a,x,0,hx,ha}:=EA.at hv;show{a,1,AB.of (by rwa[zi (zl ha J)]),0,6,6,6,5,{3},?_};show{7,?_};rw[Eo];let st:=Qy (λe:En=>decide (e.l=0)) hx;show A3 (λc=>?_) (λc=>?_)
   . show{1,zI,?_,EU};rw[st,if_pos c,zP];rfl
   . show{?_,0};rw[st,if_neg c,Bq]
 . let{3}:=h;rw[zC,EA.1,zb (zJ _),hf];show{D,2,.int e.h,3,AD.of zI,CM (by decide) rfl,k _ (zH J)}
def IM:AR ["label","hub","entry"] Gs.p (defScope Gs.s):=Aa
def Lh:AC P w K mg base 1 Gs Po:=λwz=>by
 show wz.Et.okZ IM λ_ _ A _ _ H vs Q E hr h=>?_;let{p,es,x,0,L,kn,ks}:=h;let{as,J,U,hl}:=id L;show{_,zT (A0 (BB (pv 0)) (AY (i:=2) IM.nd)
  (zc (Ac (zw BH (zv AV (pv 2) zg) (pv 1) (AH _)) (zc (AL (pv 2))) Ae)))
  (zc (AL As)),?_}
 show{1,p,0,{_,AB.of J},Nz (K:=K) (a:=p) (xs:=as.map V.ref) (λi σ H2=>∃I:Option V,σ=[⇑p,some (.int x),I]/\H2=H/\∀e∈es.take i,e.h≠x)
  {none,3,λe he=>by simp at he} (λi σ H2 _ ⟨_,_,e,_⟩=>e ▸ AB.of J) ?turn ?after}
 case turn=>
  rintro i y σ H2 hi ⟨I,rfl,rfl,o⟩;let{a,e,0,he,ha}:=U.at hi;show{1,a,2,.int e.h,3,AB.of ha,0,7,?_};rw[Eo];show A3 (λc=>?_) (λc=>?_)
  . let c':e.h=x:=of_decide_eq_true c;show{1,ks e a ?_ ha};unfold Bo;let jy:=(zE.mp he).1;rw[<-E9 i es,List.find?_append,List.find?_eq_none.mpr (λf hf=>by simpa using o f hf)];rw[My jy,(zE.mp he).2,HV,zO c'];rfl
  . show{_,3,λf hf=>?_};rw[zt,he] at hf;rcases zr.mp hf with z | z
    . show o f z
    . let:f=e:=‹z›
      subst this;show λq=>c (zO q)
 case after=>
  rintro σ H2 ⟨I,rfl,rfl,o⟩;show kn (Vo.mpr λe he=>o e ?_);rwa[zC,U.1,zb (zJ _)]
def TN:AR ["one","other","longs","sums"] Gw.p (defScope Gw.s):=Aa
def TM (g:En->V)(x):AW (fs.map λe=>((Sum.inl e.h:AJ),g e)) (Sum.inl x)=(Bo fs x).map g:=by
 unfold AW Bo;rw[List.find?_map,Option.map_map];let:((λo:AJ×V=>decide (o.1=Sum.inl x))∘λe:En=>((Sum.inl e.h:AJ),g e))=λe:En=>decide (e.h=x):=by
  funext e;change decide ((Sum.inl e.h:AJ)=Sum.inl x)=_;by_cases c:e.h=x
  . rw[zO c,zO (by rw[c])]
  . rw[zW c,zW (by intro z;injection z with z;show c z)]
 rw[this];rfl
def SX (o:Bx fs)(g:En->V):((fs.map λe=>((Sum.inl e.h:AJ),g e)).map (·.1)).Nodup:=by rw[Bn,List.Nodup,EZ];show o.imp λh z=>by injection z with z;lia
def EL (H o:Hp)(D:Addr)(fs:List En)(i:Nat)(ys:List V):Prop:=i<=fs.length/\ys.length=i/\(∀(j:Nat)y,ys[j]?=some y->∃c e,y=.ref c/\fs[j]?=some e/\o c=some (.tup [.int e.h,.int e.l]))/\AE H o/\o D=some (.lst ys)
def EL.put (h:EL H H4 D fs i ys)(hD:H D=none)(hx:fs[i]?=some x)(U:H4 c=none):EL H (upd (upd H4 c (.tup [.int x.h,.int x.l])) D (.lst (ys++[.ref c]))) D fs (i+1) (ys++[.ref c]):=by
 let{_,o,J,s4,j8}:=h;let I:=zl j8 U;show{(zE.mp hx).1,by rw[zK,o];rfl,λj y C=>?_,Ar (s4.trans (zH U)) hD,zI};by_cases cj:j<i
 . rw[zV ()] at C;let{c',e,h1,h2,h3}:=J j y C;show{c',e,h1,h2,?_};rw[zi (BA h3 j8 (by intro z;ext z))];show zH U _ _ h3
 . let ej:j=i:=by let:=(zE.mp C).1;rw[zK,o] at this;simp at this;lia
   subst ej;rw[zS (),o,Dq] at C;let ey:V.ref c=y:=‹C›
   subst ey;show{c,x,0,hx,by rw[zi (Ne.symm I)];show zI}
def Kq:AC P w K mg base 1 Gw N8:=λwz=>by
 show wz.Su.okZ TN λ_ _ A _ _ H vs Q E hr h=>?_;let{p,q,es,fs,0,L1,L2',hF,k}:=h;let{as,hp,EA,hl}:=id L1;let{bs,hq,EB,ku}:=id L2';let hu:=Fy hr;show{_,zT (Ez (i:=2) TN.nd rfl (Or.inr rfl) (B5 (Q5 rfl) wz.mDict (zD
  (BU (own:=U0) (cn:=[]) (ci:=[]) rfl (Ax rfl rfl) trivial rfl (BB (pv 1))
   (λ_ _ _ _=>Tv (n:=4) rfl (zx (Aw) (zx (Bc (i:=1) (Dm rfl) rfl (Or.inl rfl)) (zx (Bc (i:=2) (Dm rfl) rfl (Or.inl rfl)) (zx (Bc (i:=3) (Dm rfl) rfl (Or.inl rfl)) CY)))))
   (λ_ _ _ _=>BM) (λ_ _ _ _=>AU (zD (pv 0) (zD (pv 1) zN)))) zN)))
  (zT (DW (i:=3) (own:=U0) (cn:=["longs"]) (ci:=[2]) TN.nd rfl (Or.inl rfl) rfl (Ax rfl rfl) {0,3,trivial} rfl (BB (pv 0))
   (λ_ _ _ _=>Tv (n:=4) rfl (zx (Aw) (zx (Bc (i:=1) (Dm rfl) rfl (Or.inl rfl)) (zx (Bc (i:=2) (Dm rfl) rfl (Or.inl rfl)) (zx (Bc (i:=3) (Dm rfl) rfl (Or.inl rfl)) CY)))))
   (λ_ _ _ _=>Dw (GS (Nw hu (pv 0) (pv 4)))) (λ_ _ _ _=>AU (zD (AQ Br (pv 1) (Ep hu (pv 4) (pv 0) (λ_ _=>rfl))) (zD (pv 0) zN))))
  (zc (AL (gP rfl hu (by rfl) wz.mMin (zD (pv 3) zN) (AU (zD As (zD As zN))))))),?_}
 show{1,q,0,{_,AB.of hq},[],0,λD hD=>?_};show BS (a:=q) (xs:=bs.map V.ref) (λi o U=>EL H U D fs i o) {zj _,0,λj y z=>by simp at z,zH hD,zI} (λi o U h=>?_) (λi o U h=>?_) (λi v o U hv h=>?_) (λo U h=>?_)
 . show AB.of (h.2.2.2.1 _ _ hq)
 . show A5 (by let:=h.1;let:=h.2.1;lia)
 . let{_,2,s4,j8}:=id h;let{a,x,0,hx,ha}:=EB.at hv;show{a,1,AB.of (s4 _ _ ha),0,6,6,6,5,{3},?_};show BW ?_;show{4,Ad,λc hc=>?_};show{zH hc _ _ j8,h.put hD hx hc}
 . let{_,hyl,hys,s4,j8}:=h;rw[zC,EB.1] at hyl;show{D,o,fs.map λe=>(Sum.inl e.h,V.int e.l),0,AD.of j8,{by rw[zC,hyl],λj y hy=>?_},λdd k8=>?_}
   . let{c,e,h1,h2,h3}:=hys j y hy;show{c,Sum.inl e.h,.int e.l,h1,h3,by rw[zM,h2];rfl}
   rw[RI (SX hF λe=>V.int e.l)];let kG:∀x:Int,AW (fs.map λe=>((Sum.inl e.h:AJ),V.int e.l)) (Sum.inl x)=(Bo fs x).map λe=>V.int e.l:=λx=>TM _ x;let s5:AE H (upd U dd (.dK (fs.map λe=>(Sum.inl e.h,V.int e.l)))):=s4.trans (zH k8);let nA:(upd U dd (.dK (fs.map λe=>((Sum.inl e.h:AJ),V.int e.l)))) dd=some (.dK (fs.map λe=>(Sum.inl e.h,V.int e.l))):=zI;generalize upd U dd (.dK (fs.map λe=>((Sum.inl e.h:AJ),V.int e.l)))=H5 at s5 nA ⊢;generalize (fs.map λe=>((Sum.inl e.h:AJ),V.int e.l))=kvs at kG nA;show{1,p,0,{_,AB.of (s5 _ _ hp)},[.ref dd],0,λD2 jx=>?_};show BS (a:=p) (xs:=as.map V.ref) (λi o J=>Au J o (((es.take i).filterMap (CQ fs)).map λc=>[c.1,c.2])/\AE H5 J/\J D2=some (.lst o)) {trivial,zH jx,zI} (λi o J h=>?_) (λi o J h=>?_) (λi v o J hv h=>?_) (λo J h=>?_)
   . show AB.of (h.2.1 _ _ (s5 _ _ hp))
   . let:=h.1.length;rw[this,zC];show CO (List.length_filterMap_le _ _) (A5 (by rw[ze];lia))
   . let{I,s6,kg}:=h;let{a,x,0,hx,ha}:=EA.at hv;show{a,1,AB.of (s6 _ _ (s5 _ _ ha)),0,6,6,6,5,{3},?_};show{4,dd,1,Az.k (k:=Sum.inl x.h) (s6 _ _ nA),1,?_};let st:=WZ (CQ fs) hx;let mU:=kG x.h;cases e:Bo fs x.h with
     | none=>
      rw[e] at mU;rw[mU];show Ab ?_;let ec:CQ fs x=none:=by unfold CQ;rw[e];rfl
      show{?_,s6,kg};rw[st,ec];simpa using I
     | some g=>
      rw[e] at mU;let hv3:AW kvs (Sum.inl x.h)=some (.int g.l):=mU;rw[hv3];show AZ ?_;let ec:CQ fs x=some (x.l+g.l,x.h):=by unfold CQ;rw[e];rfl
      show{1,4,dd,.int g.l,0,hv3 ▸ Az.k (k:=Sum.inl x.h) (s6 _ _ nA),_,7,Ad,λc hc=>?_};show{zH hc _ _ kg,?_,Ar (s6.trans (zH hc)) jx,zI};rw[st,ec,zP];show Au.snoc (I.keep λb zs e=>?_) {c,0,?_,by intro z;ext z}
      . rw[zi (BA e kg (by intro z;ext z))];show zH hc _ _ e
      . rw[zi (Ne.symm (zl kg hc))];show zI
   . let{I,s6,kg}:=h;rw[zC,EA.1,zb (zJ _)] at I;let m7:=λc=>JG (es:=es) hF c;generalize es.filterMap (CQ fs)=cs at I m7;show{4,Ad,λn hn=>?_};let s7:AE H (upd J n (.tup [.non,.non])):=(s5.trans s6).trans (zH hn);show{D2,o,0,.inl (AD.of (zH hn _ _ kg)),λe0=>?_,.inl {_,I.keep λb zs e=>zH hn _ _ e,λi y kk hy hk lW=>?_}}
     . show k n none _ s7 (λc z=>?_) zI;let:cs=[]:=by let:=I.length;rw[e0,zC] at this;show JW.mp this.symm
       rw[<-m7,this] at z;simp at z
     . let{a,k',e1,e2,e3,_}:=I.get hy;rw[hk] at e2;ext e2;rw[zM] at hk;cases ec:cs[i]? with
       | none=>rw[ec] at hk;ext hk
       | some c=>
        rw[ec] at hk;let ek:[c.1,c.2]=kk:=zZ hk;subst ek e1;show k a (some c) _ s7 {(m7 c).mp (zQ ec),λc' ll=>?_} (zH hn _ _ e3);let:=lW [c'.1,c'.2] (zk.mpr {c',(m7 c').mpr ll,0});rw[HT.lexLt_cons] at this;by_cases q:c'.1=c.1
        . rw[if_pos q,HT.lexLt_cons] at this;by_cases q2:c'.2=c.2
          . show .inr {q.symm,()}
          . rw[if_neg q2] at this;let:=of_decide_eq_false this;show .inr {q.symm,()}
        . rw[if_neg q] at this;let:=of_decide_eq_false this;show .inl ()
def MG:AR ["one","other"] Qg.p (defScope Qg.s):=Aa
def Zk:AC P w K mg base 2 Qg LW:=λI=>by show I.Td.okZ MG λ_ _ A _ _ H vs Q E U h=>?_;let{p,q,es,fs,0,L1,o,hF,k}:=h;show{_,zc (AL (zv AV (AG (Kq I) U (zD (pv 0) (zD (pv 1) zN))) zg)),?_};show{4,p,q,es,fs,0,L1,o,hF,λr lm H' s1 hm J=>?_};show{r,9,AB.of J,0,k lm H' s1 hm}
def GX (ts:List T3)(o:Int->Int)(h v:Int):Prop:=(∃d,WM.IsD ts h v d)/\∀p,CS ts h v p->o h<=o p
def F9 (P:Int->Prop):Option Int->Prop
 | none=>∀p,¬ P p
 | some m=>P m/\∀p,P p->m<=p
structure Rf (ts:List T3)(n:Int)(rk:Int->Int)(v:Int)(e:En):Prop where
 rng:0<=e.h/\e.h<n
 hub:GX ts rk e.h v
 len:WM.IsD ts v e.h e.l
 up:F9 (BF ts v e.h) e.u
 dn:F9 (BF ts e.h v) e.d
structure RP (ts:List T3)(n:Int)(rk:Int->Int)(v:Int)(es:List En):Prop where
 hub:Bx es
 ent:∀e∈es,Rf ts n rk v e
 all:∀h,0<=h->h<n->GX ts rk h v->∃e∈es,e.h=h
 len:es.length<=24
inductive VM (H:Hp)(l:Addr)(js:List (List En)):Prop
 | mk:∀as:List Addr,(H l=some (.tup (as.map V.ref)))->(as.length=js.length)->(∀(i:Nat)(a:Addr),as[i]?=some a->∃es,js[i]?=some es/\A1 H a es)->VM H l js
def A4 (H:Hp)(l:Addr)(o:List (List En)):Prop:=VM H l o
def A4.keep (h:A4 H l js)(k:∀b ys,H b=some (.tup ys)->H' b=some (.tup ys)):A4 H' l js:=
 let ⟨as,I,C,o⟩:=h;{as,k _ _ I,C,λi a ha=>let ⟨es,U,J⟩:=o i a ha;{es,U,J.keep k}}
def iT (R:Rows ts n M)(x0:0<=x)(x1:x<n)(J:0<=y)(U:y<n)(h:WM.IsD ts x y d):0<=d/\d<=1660944384:=by
 let L:=R.2 x x0 x1;let l:=L.len y J U;cases e:DP (M.getD x.toNat []) y with
 | none=>rw[e] at l;show absurd h.1 (l d)
 | some C=>
  rw[e] at l;let ed:C=d:=WM.IsD.uniq l h;subst ed;show L.bd (some C) ?_ C rfl;unfold DP at e;rw[if_pos J,zF] at e;cases I:(M.getD x.toNat [])[y.toNat]? with
  | none=>rw[I] at e;ext e
  | some o=>rw[I] at e;let eo:o=some C:=e;rw[<-eo];show zQ I
structure Io (n:Int)(os:List Int):Prop where
 ln:os.length=n.toNat
 nd:os.Nodup
 rng:∀p∈os,0<=p/\p<n
def Hf (n:Int)(os:List Int)(o:Int->Int):Prop:=∀p,0<=p->p<n->0<=o p/\os[(o p).toNat]?=some p
def JV (ts:List T3)(n:Int)(C:Int->Int)(o:List (List En)):Prop:=o.length=n.toNat/\∀(i:Nat)es,o[i]?=some es->RP ts n C i es
def Io.mem {os:List Int}(O:Io n os)(h0:0<=p)(C:p<n):p∈os:=by
 apply Classical.byContradiction;intro o;let:=M9 (n:=n.toNat) (l:=p::os) (E5.mpr ⟨o,O.nd⟩) λx hx=>by
  rcases za.mp hx with rfl | hx
  . lia
  . let:=O.rng x hx;lia
 rw[zu,O.ln] at this
 lia
structure RO (ts:List T3)(n:Int)(js:List (List En)):Prop where
 ln:js.length=n.toNat
 lg:∀(i:Nat)(es:List En),js[i]?=some es->LG ts n i es
 cov:∀(i j:Nat)(es fs:List En),js[i]?=some es->js[j]?=some fs->Pk ts i j es fs
def F9.some_of {P:Int->Prop}(h:F9 P o)(C:P p):∃m,o=some m/\P m:=by
 cases o with
 | none=>show absurd C (h p)
 | some m=>show{m,0,h.1}
def RP.lg (G:GW n ts)(L:RP ts n rk v es)(v0:0<=v)(v1:v<n):LG ts n v es:=by
 show{L.hub,λe he=>?_,?_}
 . let E:=L.ent e he;show{E.rng,E.len,λC=>?_,λC=>?_}
   . let{p,o}:=BF.exists G E.len (Ne.symm C);show E.up.some_of o
   . let{p,o}:=BF.exists G E.len.symm C;show E.dn.some_of o
 . show L.all v v0 v1 {⟨0,F2 G v⟩,λp o=>?_};let{a,b,ia,J,I}:=o;let e0:a+b=0:=I.uniq (F2 G v);let:=ia.1.nn G;let:=J.1.nn G;let:a=0:=()
   rw[<-(GZ G ia).mp this];show FL _
def JV.good (G:GW n ts){os:List Int}(R:Hf n os rk)(L:JV ts n rk js):RO ts n js:=by
 let nM:=L.1;let inr:∀(i:Nat)(es:List En),js[i]?=some es->(0:Int)<=i/\(i:Int)<n:=λi es h=>by
  let:=(zE.mp h).1
  lia
 show{L.1,λi es h=>(L.2 i es h).lg G (inr i es h).1 (inr i es h).2,λi j es fs hi hj d hd=>?_};let{p,J,lW}:=Yk (P:=CS ts i j) rk (rk (i:Int)).toNat i (CS.self G hd) (zJ _);let o:=inr i es hi;let{a,b,ia,ib,l4}:=id J;let C:=ia.1.in_ G o.1 o.2;let le:∀q,CS ts i j q->rk p<=rk q:=λq I=>by
  let{a',b',U,_}:=id I;let qr:=U.1.in_ G o.1 o.2;let h1:=lW q I;let h2:=(R p C.1 C.2).1;let h3:=(R q qr.1 qr.2).1
  lia
 show{p,J,(L.2 i es hi).all p C.1 C.2 {⟨a,ia.symm⟩,λq I=>le q (J.trans I.symm)},(L.2 j fs hj).all p C.1 C.2 {⟨b,ib⟩,λq I=>le q (J.symm.trans I.symm).symm}}
def Wv (q):lowTo (q+1)=lowTo q++[(q:Int)]:=by unfold lowTo;rw[List.range_succ,zP];rfl
def RN (q):(lowTo q).length=q:=by unfold lowTo;rw[zC,zy]
def SA:∀(l:List Int)(k:Nat),(l.map V.int).eraseIdx k=(l.eraseIdx k).map V.int
 | [],_=>rfl
 | _::_,0=>rfl
 | x::r,k+1=>by change V.int x::(r.map V.int).eraseIdx k=V.int x::(r.eraseIdx k).map V.int;rw[SA r k]
def Sg:∀{l:List Int}{k:Nat}(h:k<l.length),(l[k]::l.eraseIdx k).Perm l
 | [],_,h=>absurd h (C2 _)
 | _::_,0,_=>List.Perm.refl _
 | x::r,k+1,h=>by
  let o:k<r.length:=‹h›
  change (r[k]::x::r.eraseIdx k).Perm (x::r);show (List.Perm.swap x r[k] _).trans ((Sg o).cons x)
inductive VO (vs:List V)(H:Hp)(Q:VK):Prop
 | mk:∀(t:Addr)(N:Nat)(n:Int),(vs=[.ref t,.int n])->(AN H t N)->(N<900000)->(1<=n)->(n<=24)->(∀(l:Addr)(os:List Int)(H':Hp),H' l=some (.tup (os.map V.int))->Io n os->AN H' t (N+24)->Sm t H H'->Q (.ref l) H')->VO vs H Q
def d8:Sp:=λo H Q _=>VO o H Q
def Qj:AR ["_law_tape_here","_law_n","_law_left","_law_found_here","_law_k"] Qb.p (defScope Qb.s):=Aa
def Zt:AC P w K mg base 2 Qb d8:=λwz=>by
 show wz.Or.okZ Qj λ_ _ A _ _ H vs Q E hr h=>?_;let{t,N,n,0,TT,hN,lS,jz,k}:=h;let{tp,TP}:=TT;show{_,zT (AO (i:=2) Qj.nd (Xc rfl rfl wz.mList rfl wz.mRange (zD (pv 1) zN)))
  (zT (AO (i:=3) Qj.nd (BR zN))
  (zT (A0 (BX rfl wz.mRange (zD (pv 1) zN)) (AY (i:=4) Qj.nd)
   (zc (C1 (C3 PySem.F.plainAttrs_list PySem.F.slot_list_append PySem.F.type_list_append FF (pv 3)
    (zD (C3 PySem.F.plainAttrs_list PySem.F.slot_list_pop PySem.F.type_list_pop Xf (pv 2)
     (zD (AG (GY wz) hr (zD (pv 0) (zD (Af DB wz.mLen (zD (pv 2) zN)) zN))) zN)) zN)))))
  (zc (AL (B5 DH wz.mTuple (zD (pv 3) zN)))))),?_}
 show{1,n,0,(),(),λlf J=>?_};let{ns0,sp0,re0,ht0,hp0,_}:=id TP;let nlt:lf≠t:=(zl ht0 J).symm;let nlp:lf≠tp:=(zl hp0 J).symm;show{zj _,λD hD=>?_};let I:D≠lf:=λz=>by rw[z,zI] at hD;ext hD
 let U:H D=none:=by rw[zi I] at hD;show hD
 let nF:D≠t:=(zl ht0 U).symm;let nDp:D≠tp:=(zl hp0 U).symm;show{1,n,0,(),(),CL (lo:=0) (n:=n.toNat) (λq σ H2=>K7 λ(v4:Option V)(row left:List Int)=>σ=[⇑t,some (.int n),⇑lf,⇑D,v4]/\row.length=q/\(row++left).Perm (lowTo n.toNat)/\H2 lf=some (.lst (left.map V.int))/\H2 D=some (.lst (row.map V.int))/\Ao H2 t tp (N+q)/\Sm t H H2)
  {none,[],lowTo n.toNat,3,List.Perm.refl _,by rw[zi I.symm,zI],zI,TP.keepF (λo e=>by rw[zi nF.symm,zi nlt.symm];show e) (λo e=>by rw[zi nDp.symm,zi nlp.symm];show e) (),(Sm.laid J).chg U} ?turn ?after}
 case after=>
  rintro σ H2 ⟨v4,row,left,rfl,hl,hp,lK,jx,TP2,s2⟩;let nr:left=[]:=by let:=hp.length_eq;rw[zK,RN,hl] at this;show JW.mp ()
  subst nr;rw[Bq] at hp;let nd:row.Nodup:=hp.nodup_iff.mpr ((Qr _).imp λh=>());show{1,D,1,.inl {AD.of jx,λl kO=>?_}};show k l row _ zI {hl,nd,λp hp'=>?_} (AN.mono (AN.laid ⟨tp,TP2⟩ kO) ()) (s2.trans (Sm.laid kO));let:=mem_ints.mp (hp.mem_iff.mp hp')
  lia
 case turn=>
  rintro q σ H2 hq ⟨v4,row,left,rfl,hl,hp,lK,jx,TP2,s2⟩;let hll:row.length+left.length=n.toNat:=by let:=hp.length_eq;rw[zK,RN] at this;show this
  show{1,.inl {0,_,AD.of jx},1,.inl {0,_,AD.of lK},?_};show{4,lf,1,.inl (AD.of lK),t,tp,N+q,1,TP2,(),by rw[zC];lia,by rw[zC];lia,λrr H3 h0 h1 TP3 e3=>?_};rw[zC] at h1;let jy:rr.toNat<left.length:=()
  show{lf,left.map V.int,rr,rr.toNat,.int left[rr.toNat],3,by rw[e3 lf nlt];show lK,(),(),PySem.StrLaws.seqIndex_nonneg h0 (by rw[zC];lia),by rw[zM,zB jy];rfl,?_};rw[SA left rr.toNat];let s3:Sm t H H3:=λb o nb e=>by rw[e3 b nb];show s2 b o nb e
  let hlf0:H lf=none:=J;show{D,5,by rw[zi I,e3 D nF];show jx,by rw[zC];show BL (),?_};show{_,row++[left[rr.toNat]],left.eraseIdx rr.toNat,0,by rw[zK,hl];rfl,?_,by rw[zi I.symm,zI],by rw[zP];show zI,TP3.keepF (λo e=>by rw[zi nF.symm,zi nlt.symm];show e) (λo e=>by rw[zi nDp.symm,zi nlp.symm];show e) (),(s3.chg hlf0).chg U};show List.Perm.trans ?_ hp;rw[B8];show (Sg jy).append_left row
def HX (a):decide (oV (some a)=V.non)=false:=zW (by intro z;ext z)
inductive YL (vs:List V)(H:Hp)(Q:VK):Prop
 | mk:∀a b:Option Int,(vs=[oV a,oV b])->(Q (oV (EJ a b)) H)->YL vs H Q
def PX:Sp:=λo H Q _=>YL o H Q
inductive aX (vs:List V)(H:Hp)(Q:VK):Prop
 | mk:∀a b:Option Int,(vs=[oV a,oV b])->(Q (oV (EE a b)) H)->aX vs H Q
def Oc:Sp:=λo H Q _=>aX o H Q
def Cm (H:Hp)(rs:List Addr)(M:BV):Prop:=rs.length=M.length/\rs.Nodup/\∀(i:Nat)r row,rs[i]?=some r->M[i]?=some row->H r=some (.lst (row.map oV))
def Cm.keep (h:Cm H rs M)(k:∀b ys,H b=some (.lst ys)->b∈rs->H' b=some (.lst ys)):Cm H' rs M:={h.1,h.2.1,λi r row a b=>k r _ (h.2.2 i r row a b) (zQ a)}
def Cm.get (h:Cm H rs M)(S:C8 n M)(ha:0<=a)(J:a<n):∃r row,rs[a.toNat]?=some r/\M[a.toNat]?=some row/\M.getD a.toNat []=row/\row.length=n.toNat/\H r=some (.lst (row.map oV))/\∀y,DP row y=Ag M a y:=by
 let{row,I,C,U}:=S.row ha J;let o:a.toNat<rs.length:=by rw[h.1,S.ln];lia
 show{rs[a.toNat],row,zB o,I,C,U,h.2.2 _ _ _ (zB o) I,λy=>by unfold Ag;rw[if_pos ha,C]}
def Cm.set (h:Cm H rs M)(S:C8 n M)(ha:0<=a)(lG:a<n)(C:rs[a.toNat]?=some r)(J:M[a.toNat]?=some row):
 Cm (upd H r (.lst ((row.map oV).set b.toNat (oV v)))) rs (Ec M a b v):=by
 show{by unfold Ec;rw[Cp];show h.1,h.2.1,λi I o a1 a2=>?_};unfold Ec at a2;rw[List.getElem?_set] at a2;let jy:a.toNat<M.length:=(zE.mp J).1;by_cases e:a.toNat=i
 . subst e;rw[if_pos rfl,if_pos jy] at a2;rw[C] at a1;ext a1;ext a2;rw[zI,zF,J,Option.getD_some,List.map_set]
 . rw[if_neg e] at a2;let U:I≠r:=λz=>by subst z;show e ((List.getElem?_inj ((zE.mp C).1) h.2.1).mp (C.trans a1.symm))
   rw[zi U];show h.2.2 i I o a1 a2
def Qe (C:row.length=n.toNat)(h0:0<=y)(I:y<n):By (row.map oV) y=some (oV (DP row y)):=by
 let o:y.toNat<row.length:=()
 show CM h0 ?_;rw[zM,zB o];unfold DP;rw[if_pos h0,zF,zB o];rfl
meta def FK (a:Int)(j:Nat):List (Option Int):=(List.range j).map λ(b:Nat)=>if a=(b:Int) then some 0 else none
def Yu (a)(j):FK a (j+1)=FK a j++[if a=(j:Int) then some 0 else none]:=by unfold FK;rw[List.range_succ,zP];rfl
def aW (a)(j):(FK a j).length=j:=by unfold FK;rw[zC,zy]
def bo {j:Nat}{y:Int}(h0:0<=y)(o:y<j):DP (FK a j) y=if a=y then some 0 else none:=by
 unfold DP FK;rw[if_pos h0,zF,zM,List.getElem?_range ()];change (if a=((y.toNat:Nat):Int) then some 0 else none)=_
 rw[show ((y.toNat:Nat):Int)=y by lia]
inductive ZJ (vs:List V)(H:Hp)(Q:VK):Prop
 | mk:∀(wa:Addr)(n:Int)(ts:List T3),(vs=[.ref wa])->(Ap H wa n ts)->(∀(fl:Addr)(rs:List Addr)(M:BV)(H':Hp),AE H H'->H' fl=some (.lst (rs.map V.ref))->Cm H' rs M->Rows ts n M->Q (.ref fl) H')->ZJ vs H Q
def QJ:Sp:=λo H Q _=>ZJ o H Q
def Pp:AR P7 G4.p (defScope G4.s):=Aa
def V0:AC P w K mg base 1 G4 PX:=λo=>by
 show o.A.okZ Pp λ_ _ A _ _ H I Q E J h=>?_;let{a,b,0,k}:=h;show{_,zc (AL (NG (PW.pt (Dy (zw Dl (pv 0) As (AH _)) (Dk (zw Dl (pv 1) As (AH _))))) As (AQ Br (pv 0) (pv 1)))),?_};cases a with
 | none=>show{7,Aj (zO rfl) (Aj rfl k)}
 | some a=>
  show{7,Ak (HX a) ?_};cases b with
  | none=>show{7,Aj (zO rfl) k}
  | some b=>show{7,Ak (HX b) {4,a,b,3,k}}
def Oa:AR P7 HN.p (defScope HN.s):=Aa
def Mb:AC P w K mg base 1 HN Oc:=λo=>by
 show o.Ls.okZ Oa λ_ _ A _ _ H I Q E J h=>?_;let{a,b,0,k}:=h;show{_,zT (Ac (PW.pt (Dy (zw Dl (pv 0) As (AH _)) (Dk (zw Dl (pv 1) As (AH _))))) (zc (AL (NG (zw Dl (pv 0) As (AH _)) (pv 1) (pv 0)))) Ae)
  (zc (AL (Af (iY rfl) o.mMin (zD (pv 0) (zD (pv 1) zN))))),?_}
 cases a with
 | none=>show{7,Aj (zO rfl) (Aj rfl {7,Aj (zO rfl) {1,k}})}
 | some a=>
  show{7,Ak (HX a) ?_};cases b with
  | none=>show{7,Aj (zO rfl) {7,Ak (HX a) {1,k}}}
  | some b=>show{7,Ak (HX b) {4,a,b,0,k}}
def E7:AR ["_law_web_here","_law_n","_law_ties","_law_far_here","_law_a","_law_b","_law_long","_law_k","_law_way"] HB.p (defScope HB.s):=Aa
def Yb:AC P w K mg base 2 HB QJ:=λwz=>by
 show wz.Fr.okZ E7 λ_ _ A _ _ H vs Q E hr h=>?_;let{wa,n,ts,0,W,k}:=h;let{ta,tys,kF,mX,TA,G}:=id W;let lS:=G.n1;let jz:=G.n24;show{_,zT (F8 (pv 0) (C0 rfl (zx (Bc (i:=1) E7.nd rfl (Or.inr rfl)) (zx (AY (i:=2) E7.nd) CY))))
  (zT (DW (yc := some "_law_a") (i:=3) (own:=["_law_a"]) (cn:=["_law_n"]) (ci:=[1]) E7.nd rfl (Or.inl rfl) rfl (Km rfl (λ_ _=>rfl) rfl rfl) {0,3,trivial} rfl
   (BX rfl wz.mRange (zD (pv 1) zN)) (λ_ _ _ _=>Bc (i:=0) (Dm rfl) rfl (Or.inr rfl)) (λ_ _ _ _=>BM)
   (λ_ _ _ _=>BU (own:=["_law_b"]) (cn:=["_law_a"]) (ci:=[0]) rfl (Ax rfl rfl) {0,3,trivial} rfl
    (BX rfl wz.mRange (zD (pv 1) zN)) (λ_ _ _ _=>Aw) (λ_ _ _ _=>BM)
    (λ_ _ _ _=>NG (zw BH (pv 1) (pv 0) (AH _)) zg As)))
  (zT (A0 (BB (pv 2)) (C0 rfl (zx (AY (i:=4) E7.nd) (zx (AY (i:=5) E7.nd) (zx (AY (i:=6) E7.nd) CY))))
   (zT (F8 (pv 6) (HR (zv AS (pv 3) (pv 4)) (pv 5) Hm))
   (zc (F8 (pv 6) (HR (zv AS (pv 3) (pv 5)) (pv 4) Hm)))))
  (zT (A0 (BX rfl wz.mRange (zD (pv 1) zN)) (AY (i:=7) E7.nd)
   (zc (A0 (BX rfl wz.mRange (zD (pv 1) zN)) (AY (i:=4) E7.nd)
    (zc (A0 (BX rfl wz.mRange (zD (pv 1) zN)) (AY (i:=5) E7.nd)
     (zT (AO (i:=8) E7.nd (AG (V0 wz) hr (zD (zv AS (zv AS (pv 3) (pv 4)) (pv 7)) (zD (zv AS (zv AS (pv 3) (pv 7)) (pv 5)) zN))))
     (zc (F8 (AG (Mb wz) hr (zD (zv AS (zv AS (pv 3) (pv 4)) (pv 5)) (zD (pv 8) zN))) (HR (zv AS (pv 3) (pv 4)) (pv 5) Hm)))))))))
  (zc (AL (pv 3)))))),?_}
 show{1,wa,1,AB.of kF,0,6,5,?_};show{1,n,0,(),(),[.int n],0,λD hD=>?_};show JB (lo:=0) (n:=n.toNat) (λq ys H1=>q<=n.toNat/\Es λ(rs:List Addr)(M:BV)=>ys=rs.map V.ref/\rs.length=q/\Cm H1 rs M/\(∀x:Nat,x<q->M[x]?=some (FK x n.toNat))/\(∀r∈rs,H r=none/\r≠D)/\AE H H1/\H1 D=some (.lst ys))
  {zj _,[],[],3,{0,List.nodup_nil,λi r row h=>by simp at h},λx hx=>absurd hx (C2 _),λr h=>by simp at h,zH hD,zI} (λq ys H1 h=>?_) (λq ys H1 hq h=>?_) (λys H1 h=>?_)
 . let{hq,rs,M,0,hl,_}:=h;rw[zC,hl];show BL ()
 . let{_,rs,M,0,hl,R,L,fr,sm,kD}:=h;rw[Bi];show{{3},?_};show BW ?_;show{1,n,0,(),(),[.int q],0,λD2 U=>?_};let nD2:D2≠D:=λz=>by rw[z,kD] at U;cases U
   show JB (lo:=0) (n:=n.toNat) (λj ys H2=>j<=n.toNat/\ys=(FK q j).map oV/\AE H1 H2/\H2 D2=some (.lst ys))
    {zj _,0,zH U,zI} (λj ys H2 h=>?_) (λj ys H2 hj h=>?_) (λys H2 h=>?_)
   . let{hj,0,_}:=h;rw[zC,aW];show BL ()
   . let{1,s2,h2}:=h;rw[Bi];show{{3},?_};show BW ?_;show{1,7,?_};by_cases e:(q:Int)=(j:Int)
     . show Aj (zO (congrArg V.int e)) ?_;show{h2,hj,?_,Ar s2 U,zI};rw[Yu,if_pos e,zP];rfl
     . show Ak (zW λz=>e (V.int.inj z)) ?_;show{h2,hj,?_,Ar s2 U,zI};rw[Yu,if_neg e,zP];rfl
   . let{1,s2,h2}:=h;let lN:H2 D=some (.lst (rs.map V.ref)):=s2 _ _ kD;let frD2:H D2=none:=by
      cases z:H D2 with
      | none=>rfl
      | some o=>rw[sm _ _ z] at U;cases U
     let nin:D2∉rs:=λz=>by
      let{i,hi,e}:=zf z;let hM:i<M.length:=by rw[<-R.1];show hi
      let:=R.2.2 i D2 M[i] (by rw[zB hi,e]) (zB hM);rw[U] at this;cases this
     show{lN,hq,rs++[D2],M++[FK q n.toNat],by rw[zP];rfl,by rw[zK,hl];rfl,{by rw[zK,zK,R.1];rfl,?_,λi r row h1 h3=>?_},λx hx=>?_,λr lI=>?_,Ar (sm.trans s2) hD,zI}
     . show JT.mpr {R.2.1,by simp,λa ha b hb=>by
        let e:b=D2:=by simpa using hb
        rw[e];show λz=>nin (z ▸ ha)}
     . let key:H2 r=some (.lst (row.map oV))/\r≠D:=by
        by_cases hi:i<rs.length
        . rw[zV hi] at h1;rw[zV (by rw[<-R.1];show hi)] at h3;show{s2 _ _ (R.2.2 i r row h1 h3),(fr r (zQ h1)).2}
        . rw[zS ()] at h1;rw[zS (by rw[<-R.1];lia),<-R.1] at h3;cases hz:i-rs.length with
          | zero=>
           rw[hz] at h1 h3;let e1:D2=r:=by simpa using h1
           let e2:FK q n.toNat=row:=by simpa using h3
           subst e1 e2;show⟨h2,nD2⟩
          | succ k=>rw[hz] at h1;simp at h1
       rw[zi key.2];show key.1
     . by_cases ju:x<q
       . rw[zV (by rw[<-R.1,hl];show ju)];show L x ju
       . let e:x=q:=()
         subst e;rw[zS (by rw[<-R.1,hl];show zJ _),<-R.1,hl];simp
     . rcases zr.mp lI with z | z
       . show fr r z
       . let e:r=D2:=by simpa using z
         rw[e];show⟨frD2,nD2⟩
 . let{_,rs,M,0,hl,R,L,fr,sm,kD}:=h;let hML:M.length=n.toNat:=by rw[<-R.1,hl]
   let S0:C8 n M:={hML,λr lI=>by let{i,hi,e}:=zf lI;let:=L i ();rw[zB hi,e] at this;rw[zZ this,aW]}
   let M0:∀x y,0<=x->x<n->0<=y->y<n->Ag M x y=if x=y then some 0 else none:=λx y hx ju hy j6=>by
    unfold Ag
    rw[if_pos hx,zF,L x.toNat (),Option.getD_some,bo hy (),show ((x.toNat:Nat):Int)=x by lia]
   let wr:∀{H2:Hp}{r:Addr}{o:HO},r∈rs->AE H H2->AE H (upd H2 r o):=λ{H2 r o} lI s2=>Ar s2 (fr r lI).1;let wD:∀{H2:Hp}{r:Addr}{o:HO},r∈rs->H2 D=some (.lst (rs.map V.ref))->(upd H2 r o) D=some (.lst (rs.map V.ref)):=λ{H2 r o} lI e=>by rw[zi (fr r lI).2.symm];show e
   show{1,ta,0,{_,AB.of (sm _ _ mX)},Nz (K:=K) (a:=ta) (xs:=tys)
    (λi σ H2=>PY λ(v4 J v6 v7 I:Option V)(M:BV)=>σ=[some (.ref wa),some (.int n),some (.ref ta),some (.ref D),v4,J,v6,v7,I]/\AE H H2/\H2 D=some (.lst (rs.map V.ref))/\Cm H2 rs M/\C8 n M/\Ft (ts.take i) n (Ag M))
    {_,8,M,0,sm,kD,R,S0,by rw[List.take_zero];show Ft.nil n M0} (λi σ H2 _ z=>by let{_,2,8,s,_}:=z;show AB.of (s _ _ mX)) ?turn1 ?after1}
   case turn1=>
    rintro i y σ H2 hi ⟨v4,J,v6,v7,I,M2,rfl,s2,U,R2,S2,T2⟩;let{ya,ky,0,kQ,nY,_}:=TA.get hi;rw[zM] at kQ;obtain⟨⟨a,b,c⟩,hti,rfl⟩:∃t:T3,ts[i]?=some t/\tl t=ky:=by
     cases e:ts[i]? with
     | none=>rw[e] at kQ;cases kQ
     | some t=>rw[e] at kQ;show{t,0,zZ kQ}
    let hm:=zQ hti;let hr3:=G.rng _ hm;simp only at hr3;let{ra,nW,a1,a2,a3,a4,a5,_}:=R2.get S2 (a:=a) () ();let ma:=zQ a1;show{ya,1,AB.of (s2 _ _ nY),0,6,6,5,?_};show{1,4,D,2,.ref ra,3,AD.of U,CM () (by rw[zM,a1];rfl),1,ra,_,b,b.toNat,3,a5,NS () (by rw[zC,a4];lia),?_};let R3:Cm (upd H2 ra (.lst ((nW.map oV).set b.toNat (.int c)))) rs (Ec M2 a b (some c)):=R2.set S2 (v:=some c) () () a1 a2;let S3:C8 n (Ec M2 a b (some c)):=S2.set () ();let s3:=wr (o:=.lst ((nW.map oV).set b.toNat (.int c))) ma s2;let kC:=wD (o:=.lst ((nW.map oV).set b.toNat (.int c))) ma U;generalize upd H2 ra (.lst ((nW.map oV).set b.toNat (.int c)))=H3 at R3 s3 kC ⊢;let{rb,rowb,b1,b2,b3,b4,b5,_}:=R3.get S3 (a:=b) () ();let mb:=zQ b1;show{1,4,D,2,.ref rb,3,AD.of kC,CM (show 0<=b by lia) (by rw[zM,b1];rfl),1,rb,_,a,a.toNat,3,b5,NS () (by rw[zC,b4];grind),?_};let R4:Cm (upd H3 rb (.lst ((rowb.map oV).set a.toNat (.int c)))) rs (Ec (Ec M2 a b (some c)) b a (some c)):=R3.set S3 (v:=some c) () () b1 b2;show{8,6,wr mb s3,wD mb kC,R4,S3.set () (),?_};let mM:ts=ts.take i++(a,b,c)::ts.drop (i+1):=by
     let m9:=(zE.mp hti)
     conv=>lhs;rw[<-E9 i ts,My m9.1,m9.2]
    let htk:ts.take (i+1)=ts.take i++[(a,b,c)]:=by rw[zt,hti];rfl
    rw[htk];show (Ft.put (post:=ts.drop (i+1)) (by rw[<-mM];show G) T2).congr λx y hx ju hy j6=>?_;rw[UJ S3 () () () () hx ju,UJ S2 () () () () hx ju]
   case after1=>
    rintro σ H2 ⟨v4,J,v6,v7,I,M2,rfl,s2,U,R2,S2,T2⟩;let jy:tys.length=ts.length:=by rw[TA.length,zC]
    rw[jy,List.take_length] at T2;let FC:=T2.fw G;show{1,n,0,(),(),CL (lo:=0) (n:=n.toNat)
     (λkk σ H3=>PY λ(v4 J v6 v7 I:Option V)(M:BV)=>σ=[some (.ref wa),some (.int n),some (.ref ta),some (.ref D),v4,J,v6,v7,I]/\AE H H3/\H3 D=some (.lst (rs.map V.ref))/\Cm H3 rs M/\C8 n M/\Fw ts n (Ag M)/\J0 ts n (kk:Int) (Ag M))
     {_,8,M2,0,s2,U,R2,S2,FC.1,FC.2} ?turn2 ?after2}
    case after2=>
     rintro σ H3 ⟨v4,J,v6,v7,I,M3,rfl,s3,kC,R3,S3,f3,c3⟩;rw[show ((n.toNat:Nat):Int)=n by lia] at c3;show{1,k D rs M3 H3 s3 kC R3 (gF G S3 f3 c3)}
    case turn2=>
     rintro kk σ H3 hkk ⟨v4,J,v6,v7,I,M3,rfl,s3,kC,R3,S3,f3,c3⟩;rw[Bi];show{1,n,0,(),(),CL (lo:=0) (n:=n.toNat)
      (λaa σ H4=>NM λ(v4 J v6 I:Option V)(M:BV)=>σ=[some (.ref wa),some (.int n),some (.ref ta),some (.ref D),v4,J,v6,some (.int (kk:Int)),I]/\AE H H4/\H4 D=some (.lst (rs.map V.ref))/\Cm H4 rs M/\C8 n M/\Fm ts n (kk:Int) (Ag M) (λx _=>x<(aa:Int)))
      {8,M3,0,s3,kC,R3,S3,(Fm.enter f3 c3).congr (λ_ _ _ _ _ _=>rfl) λx y hx _ _ _ z=>()} ?turn3 ?after3}
     case after3=>
      rintro σ H4 ⟨v4,J,v6,I,M4,rfl,s4,j8,R4,S4,F4⟩;let fc:=F4.leave λx y _ ju _ _=>by lia
      show{_,8,M4,0,s4,j8,R4,S4,fc.1,fc.2}
     case turn3=>
      rintro aa σ H4 haa ⟨v4,J,v6,I,M4,rfl,s4,j8,R4,S4,F4⟩;rw[Bi];show{1,n,0,(),(),CL (lo:=0) (n:=n.toNat)
       (λbb σ H5=>NO λ(J v6 I:Option V)(M:BV)=>σ=[some (.ref wa),some (.int n),some (.ref ta),some (.ref D),some (.int (aa:Int)),J,v6,some (.int (kk:Int)),I]/\AE H H5/\H5 D=some (.lst (rs.map V.ref))/\Cm H5 rs M/\C8 n M/\Fm ts n (kk:Int) (Ag M) (λx y=>x<(aa:Int)\/(x=(aa:Int)/\y<(bb:Int))))
       {_,2,M4,0,s4,j8,R4,S4,F4.congr (λ_ _ _ _ _ _=>rfl) λx y _ _ hy _ z=>()} ?turn4 ?after4}
      case after4=>
       rintro σ H5 ⟨J,v6,I,M5,rfl,s5,ko,R5,S5,F5⟩;show{8,M5,0,s5,ko,R5,S5,F5.congr (λ_ _ _ _ _ _=>rfl) λx y _ _ _ j6 z=>()}
      case turn4=>
       rintro bb σ H5 hbb ⟨J,v6,I,M5,rfl,s5,ko,R5,S5,F5⟩;rw[Bi];let{ra,nW,a1,a2,a3,a4,a5,a6}:=R5.get S5 (a:=(aa:Int)) () ();let{rk,rowk,k1,k2,k3,k4,k5,k6}:=R5.get S5 (a:=(kk:Int)) () ();let ma:=zQ a1;show{4,D,2,.ref ra,3,AD.of ko,CM () (by rw[zM,a1];rfl),1,ra,9,AD.of a5,Qe a4 () (),?_};show{4,D,2,.ref rk,3,AD.of ko,CM () (by rw[zM,k1];rfl),1,rk,9,AD.of k5,Qe k4 () (),?_};show{6,?_};show{4,D,2,.ref ra,3,AD.of ko,CM () (by rw[zM,a1];rfl),1,ra,9,AD.of a5,Qe a4 () (),?_};show{1,6,?_};show{4,D,2,.ref ra,3,AD.of ko,CM () (by rw[zM,a1];rfl),1,ra,2,(bb:Int).toNat,3,a5,NS () (by rw[zC,a4];lia),?_};show{2,6,wr ma s5,wD ma ko,R5.set S5 () () a1 a2,S5.set () (),?_};show (Fm.step G F5 (a:=(aa:Int)) (b:=(bb:Int)) () () () () () ()).congr (λx y hx ju hy j6=>?_) λx y _ _ _ _ z=>by grind
       rw[UJ S5 () () () () hx ju,a6,a6,k6]
def PD (ts:List T3)(kvs:List (List AJ×V)):Prop:=∀x y:Int,(∀l,AW kvs [Sum.inl x,Sum.inl y]=some (.int l)↔An ts x y l)/\∀v,AW kvs [Sum.inl x,Sum.inl y]=some v->∃l,v=.int l
def PD.nil:PD [] []:=λx y=>{λl=>by simp[Yn,An],λv h=>by simp[Yn] at h}
def Y1 :([Sum.inl x,Sum.inl y]:List AJ)=[Sum.inl a,Sum.inl b]↔x=a/\y=b:=by simp
def PD.put (g:GW n ts)(e:ts=pre++(a,b,c)::post)(h:PD pre kvs):PD (pre++[(a,b,c)]) (Ay (Ay kvs [Sum.inl a,Sum.inl b] (.int c)) [Sum.inl b,Sum.inl a] (.int c)):=by
 let U:(a,b,c)∈ts:=by rw[e];simp
 let kW:=(g.rng _ U).2.1;simp only at kW;let sub:∀ {x y l},An (pre++[(a,b,c)]) x y l->An ts x y l:=λh=>by
  rw[e];rcases h with h | h
  . show .inl ?_;rcases zr.mp h with q | q
    . show Cy _ q
    . rw[zm.mp q];simp
  . show .inr ?_;rcases zr.mp h with q | q
    . show Cy _ q
    . rw[zm.mp q];simp
 let new:An (pre++[(a,b,c)]) a b c:=.inl (by simp);intro x y;rw[Yc,Yc];by_cases J:x=b/\y=a
 . let{3}:=J;rw[if_pos rfl];show{λl=>{λC=>?_,λha=>?_},λv o=>{c,(zZ o).symm}}
   . let:c=l:=by let:=zZ C;injection this
     subst this;show new.symm
   . rw[g.uniq (sub ha) (sub new.symm)]
 . rw[if_neg (λz=>J (Y1.mp z))];by_cases I:x=a/\y=b
   . let{3}:=I;rw[if_pos rfl];show{λl=>{λC=>?_,λha=>?_},λv o=>{c,(zZ o).symm}}
     . let:c=l:=by let:=zZ C;injection this
       subst this;show new
     . rw[g.uniq (sub ha) (sub new)]
   . rw[if_neg (λz=>I (Y1.mp z))];show{λl=>?_,(h x y).2};rw[(h x y).1 l];constructor
     . rintro (q | q)
       . show .inl (Cy _ q)
       . show .inr (Cy _ q)
     . rintro (q | q)
       . rcases zr.mp q with q | q
         . show .inl q
         . exfalso;let:=zm.mp q;injection this with q1 q2;injection q2 with q2 q3;show I ⟨q1,q2⟩
       . rcases zr.mp q with q | q
         . show .inr q
         . exfalso;let:=zm.mp q;injection this with q1 q2;injection q2 with q2 q3;show J ⟨q2,q1⟩
def PD.some (h:PD ts kvs)(x y):(AW kvs [Sum.inl x,Sum.inl y]).isSome=true↔∃l,An ts x y l:=by
 constructor
 . intro C;let{v,o}:=N3.mp C;let{l,0}:=(h x y).2 v o;show{l,((h x y).1 l).mp o}
 . rintro ⟨l,ha⟩;rw[((h x y).1 l).mpr ha];rfl
def Tr (a b):Ji (oV a) (oV b)=true:=by ext a <;> ext b <;> rfl
def SN:decide (oV none=V.non)=true:=zO rfl
def Nx (a b):decide (oV a=oV b)=decide (a=b):=decide_eq_decide.mpr {λh=>by
 cases a with
 | none=>
  cases b with
  | none=>rfl
  | some b=>cases h
 | some a=>
  cases b with
  | none=>cases h
  | some b=>rw[V.int.inj h],λh=>by rw[h]}
inductive Ys (H:Hp)(fl:Addr)(n:Int)(ts:List T3)(M:BV):Prop
 | mk:∀rs:List Addr,(H fl=some (.lst (rs.map V.ref)))->(Cm H rs M)->(Rows ts n M)->Ys H fl n ts M
def Bs (H:Hp)(o:Addr)(n:Int)(ts:List T3)(M:BV):Prop:=Ys H o n ts M
def cw (R:Rows ts n M):C8 n M:={R.1,λr o=>by let{i,hi,e}:=zf o;let C:=R.1;let:=(R.2 (i:Int) () ()).ln;rwa[B4,zF,zB hi,Option.getD_some,e] at this}
def Bs.keep (h:Bs H fl n ts M)(k:∀b ys,H b=some (.lst ys)->H' b=some (.lst ys)):Bs H' fl n ts M:=by let{rs,a,b,c}:=h;show{rs,k _ _ a,b.keep λb ys e _=>k b ys e,c}
def Bs.get (h:Bs H fl n ts M)(o:0<=x)(C:x<n)(J:0<=y)(I:y<n):
 ∃rs r row,H fl=some (.lst rs)/\By rs x=⇑r/\H r=some (.lst row)/\By row y=some (oV (Ag M x y))/\Cu ts x y (Ag M x y):=by
 let{rs,a,b,c}:=h;let{r,row,e1,e2,e3,e4,e5,U}:=b.get (cw c) o C;let L:=c.2 x o C;rw[e3] at L;show{_,r,_,a,CM o (by rw[zM,e1];rfl),e5,?_,?_}
 . rw[<-U];show Qe e4 J I
 . rw[<-U];show L.len y J I
meta def Cf (M:BV)(p x y:Int):Bool:=match Ag M x y with
 | none=>false
 | some d=>decide (EJ (Ag M x p) (Ag M p y)=some d)
def Wf (h:Bs H fl n ts M)(hp:0<=p)(o:p<n)(hx:0<=x)(ju:x<n)(hy:0<=y)(j6:y<n):Cf M p x y=true↔CS ts x y p:=by
 let{_,2,8,l1}:=h.get hx ju hy j6;let{_,2,8,I}:=h.get hx ju hp o;let{_,2,8,C}:=h.get hp o hy j6;unfold Cf;constructor
 . intro z;cases e:Ag M x y with
   | none=>rw[e] at z;ext z
   | some d=>rw[e] at z l1;let{a,b,e1,U,J}:=Y2 (of_decide_eq_true z);rw[e1] at I;rw[U] at C;show{a,b,I,C,by rwa[J]}
 . rintro ⟨a,b,h1,h2,h3⟩;let e1:=Cu.uniq l1 (show Cu ts x y (some (a+b)) from h3);let U:=Cu.uniq I (show Cu ts x p (some a) from h1);let J:=Cu.uniq C (show Cu ts p y (some b) from h2);rw[e1,U,J];show zO rfl
inductive XF (vs:List V)(H:Hp)(Q:VK):Prop
 | mk:∀(fl:Addr)(n:Int)(ts:List T3)(M:BV)(p x y:Int),(vs=[.ref fl,.int p,.int x,.int y])->(Bs H fl n ts M)->(0<=p)->(p<n)->(0<=x)->(x<n)->(0<=y)->(y<n)->(Q (.bl (Cf M p x y)) H)->XF vs H Q
def Ue:Sp:=λo H Q _=>XF o H Q
inductive Z2 (vs:List V)(H:Hp)(Q:VK):Prop
 | mk:∀(wa:Addr)(n:Int)(ts:List T3),(vs=[.ref wa])->(Ap H wa n ts)->(∀(d:Addr)(kvs:List (List AJ×V))(H':Hp),AE H H'->H' d=some (.dT kvs)->PD ts kvs->Q (.ref d) H')->Z2 vs H Q
def OB:Sp:=λo H Q _=>Z2 o H Q
inductive Xo (vs:List V)(H:Hp)(Q:VK):Prop
 | mk:∀(wa fl:Addr)(n:Int)(ts:List T3)(M:BV)(x y:Int),(vs=[.ref wa,.ref fl,.int x,.int y])->(Ap H wa n ts)->(Bs H fl n ts M)->(0<=x)->(x<n)->(0<=y)->(y<n)->(∀(l:Addr)(xs:List Int)(H':Hp),AE H H'->H' l=some (.lst (xs.map V.int))->xs.Pairwise (· < ·)->(∀p,p∈xs↔BF ts x y p)->Q (.ref l) H')->Xo vs H Q
def OV:Sp:=λo H Q _=>Xo o H Q
def N5:AR ["_law_far_here","_law_place","_law_one","_law_other","_law_due"] Rt.p (defScope Rt.s):=Aa
def OS:AC P w K mg base 2 Rt Ue:=λU=>by
 show U.On.okZ N5 λ_ _ A _ _ H vs Q E hr h=>?_;let{I,n,ts,M,p,x,y,0,J,hp,o,hx,ju,hy,j6,k}:=h;show{_,zT (AO (i:=4) N5.nd (zv AS (zv AS (pv 0) (pv 2)) (pv 3)))
  (zc (AL (CD (Bt GU (pv 4) As (AH _)) (Ct (Bt BH (AG (V0 U) hr (zD (zv AS (zv AS (pv 0) (pv 2)) (pv 1)) (zD (zv AS (zv AS (pv 0) (pv 1)) (pv 3)) zN))) (pv 4) (AH _)))))),?_}
 let{r1,a1,w1,f1,g1,i1,j1,_}:=J.get hx ju hy j6;let{r2,a2,w2,f2,g2,i2,j2,_}:=J.get hx ju hp o;let{r3,a3,w3,f3,g3,i3,j3,_}:=J.get hp o hy j6;show{4,I,2,.ref a1,3,AD.of f1,g1,1,a1,9,AD.of i1,j1,?_};show{7,?_};unfold Cf at k;cases e:Ag M x y with
 | none=>rw[e] at k;show Ak (by rw[SN];rfl) k
 | some d=>rw[e] at k;show Aj (by rw[HX];rfl) ?_;show{4,I,2,.ref a2,3,AD.of f2,g2,1,a2,9,AD.of i2,j2,?_};show{4,I,2,.ref a3,3,AD.of f3,g3,1,a3,9,AD.of i3,j3,?_};show{_,4,Tr _ (some d),?_};rwa[Nx]
def Np:AR ["_law_web_here","_law_found_here","_law_a","_law_b","_law_long"] FX.p (defScope FX.s):=Aa
inductive OF (kvs:List (List AJ×V)):Prop
 | mk:∀ks:List (List Int),(kvs.map (·.1)=ks.map (List.map Sum.inl))->(∀k∈ks,∃a b:Int,k=[a,b])->OF kvs
def KP (kvs:List (List AJ×V)):Prop:=OF kvs
def KP.nil:KP []:={[],0,λk h=>by simp at h}
def KP.put (h:KP kvs):KP (Ay kvs [Sum.inl x,Sum.inl z] v):=by
 let{C,J,I}:=h;unfold Ay;split
 . show{C,?_,I};rw[<-J,Bn];show JR λo _=>?_;change (if o.1=_ then (o.1,v) else o).1=o.1
   split <;> rfl
 . show{C++[[x,z]],by rw[zP,zP,J];rfl,λk U=>?_};rcases zr.mp U with q | q
   . show I k q
   . show{x,z,‹q›}
inductive Yo (vs:List V)(H:Hp)(Q:VK):Prop
 | mk:∀(wa:Addr)(n:Int)(ts:List T3),(vs=[.ref wa])->(Ap H wa n ts)->(∀(d:Addr)(kvs:List (List AJ×V))(H':Hp),AE H H'->H' d=some (.dT kvs)->PD ts kvs->kvs.length<=2*ts.length->KP kvs->Q (.ref d) H')->Yo vs H Q
def MC:Sp:=λo H Q _=>Yo o H Q
def aQ:AC P w K mg base 1 FX MC:=λwz=>by
 show wz.J.okZ Np λ_ _ A _ _ H vs Q E hr h=>?_;let{wa,n,ts,0,W,k}:=h;let{ta,tys,kF,mX,TA,G}:=id W;let jy:tys.length=ts.length:=by rw[TA.length,zC]
 let hu:=Fy hr;show{_,zT (AO (i:=1) Np.nd Yi)
  (zT (A0 (BB (zv AV (pv 0) zg)) (C0 rfl (zx (AY (i:=2) Np.nd) (zx (AY (i:=3) Np.nd) (zx (AY (i:=4) Np.nd) CY))))
   (zT (Nb hu (pv 1) (AU (zD (pv 2) (zD (pv 3) zN))) (pv 4) rfl) (zc (Nb hu (pv 1) (AU (zD (pv 3) (zD (pv 2) zN))) (pv 4) rfl))))
  (zc (AL (pv 1)))),?_}
 intro d hd;show{1,wa,9,AB.of (zH hd _ _ kF),0,ta,0,{_,AB.of (zH hd _ _ mX)},Nz (K:=K) (a:=ta) (xs:=tys)
  (λj σ o=>NO λ(v2 v3 v4:Option V)(kvs:List (List AJ×V))=>σ=[⇑wa,⇑d,v2,v3,v4]/\AE H o/\o d=some (.dT kvs)/\kvs.length<=2*j/\PD (ts.take j) kvs/\KP kvs)
  {_,2,[],0,zH hd,zI,zJ _,PD.nil,KP.nil} (λj σ o _ z=>by let{_,8,s5,_}:=z;show AB.of (s5 _ _ mX)) ?turn1 ?after1}
 case turn1=>
  rintro j y σ o hj ⟨v2,v3,v4,kvs,rfl,s5,nA,U,pd,kp⟩;let{ya,ky,0,I,nY,_}:=TA.get hj;rw[zM] at I;obtain⟨⟨x,z,c⟩,htj,rfl⟩:∃t:T3,ts[j]?=some t/\tl t=ky:=by
   cases e:ts[j]? with
   | none=>rw[e] at I;ext I
   | some t=>rw[e] at I;show{t,0,zZ I}
  let hjl:j<ts.length:=(zE.mp htj).1;let lH:=G.len;show{ya,1,AB.of (s5 _ _ nY),0,6,6,5,?_};show{4,4,Ad,λp hp=>?_};show{d,1,E6.t (k:=[Sum.inl x,Sum.inl z]) (zH hp _ _ nA) zI (BL ()),?_};show{4,4,Ad,λp2 kM=>?_};show{d,1,E6.t (k:=[Sum.inl z,Sum.inl x]) (zH kM _ _ zI) zI (BL (BC (JQ _ _ _) ())),?_};show{2,6,?_,zI,BC (JQ _ _ _) (BC (Nat.succ_le_succ (JQ _ _ _)) ()),?_,(kp.put).put}
  . let a1:AE H (upd (upd o p (.tup [.int x,.int z])) d (.dT (Ay kvs [Sum.inl x,Sum.inl z] (.int c)))):=Ar (s5.trans (zH hp)) hd;show Ar (a1.trans (zH kM)) hd
  . rw[zt,htj];show PD.put G (post:=ts.drop (j+1)) ?_ pd;let e1:ts.drop j=(x,z,c)::ts.drop (j+1):=by rw[My hjl];rw[zB hjl] at htj;rw[zZ htj]
    rw[<-e1,E9]
 case after1=>
  rintro σ o ⟨v2,v3,v4,kvs,rfl,s5,nA,U,pd,kp⟩;rw[jy,zb (zJ _)] at pd;show{1,k d kvs o s5 nA pd (by rwa[jy] at U) kp}
def X8:AC P w K mg base 1 FX OB:=λo=>(aQ o).imp λ_ _ _ _ ⟨I,n,ts,U,J,k⟩=>{I,n,ts,U,J,λd kvs H' a b c _ _=>k d kvs H' a b c}
meta def nb (kvs:List (List AJ×V))(M:BV)(x y d p:Int):Bool:=match AW kvs [Sum.inl x,Sum.inl p],Ag M p y with
 | some (.int l),some b=>decide (l+b=d)
 | _,_=>false
def Rk:AR ["_law_web_here","_law_far_here","_law_one","_law_other","_law_due","_law_pairs","_law_some_here"] HL.p (defScope HL.s):=Aa
def Qq:AC P w K mg base 2 HL OV:=λwz=>by
 show wz.Ns.okZ Rk λ_ _ A _ _ H vs Q E hr h=>?_;let{wa,fl,n,ts,M,x,y,0,W,FR,hx,ju,hy,j6,k}:=h;let{ta,tys,kF,mX,TA,G}:=id W;let hu:=Fy hr;let lS:=G.n1;let jz:=G.n24;show{_,zT (Ez (i:=4) Rk.nd rfl (Or.inr rfl) (zv AS (zv AS (pv 1) (pv 2)) (pv 3)))
  (zT (Ac (PW.pt (Dy (zw BH (pv 2) (pv 3) (AH _)) (Dk (zw Dl (pv 4) As (AH _))))) (zc (AL (BR zN))) Ae)
  (zT (Ez (i:=5) Rk.nd rfl (Or.inr rfl) (AG (X8 wz) hr (zD (pv 0) zN)))
  (zT (DW (i:=6) (own:=["_law_place"]) (cn:=["_law_one","_law_pairs"]) (ci:=[2,5]) Rk.nd rfl (Or.inl rfl) rfl (Ax rfl rfl) {3,3,3,trivial} rfl
   (BX rfl wz.mRange (zD (zv AV (pv 0) zg) zN)) (λ_ _ _ _=>Aw)
   (λ_ _ _ _=>Dw (GS (Nw hu (AU (zD (pv 1) (zD (pv 0) zN))) (pv 2)))) (λ_ _ _ _=>pv 0))
  (zc (AL (BU (own:=["_law_place"]) (cn:=["_law_pairs","_law_one","_law_far_here","_law_other","_law_due"]) (ci:=[5,2,1,3,4]) rfl (Ax rfl rfl) {0,3,3,3,3,3,3,3,trivial} rfl
   (Du (pv 6)) (λ_ _ _ _=>Aw)
   (λ_ _ _ _=>Dw (zw BH (AQ Br (Ep hu (pv 1) (AU (zD (pv 2) (zD (pv 0) zN))) (λ_ _=>rfl)) (zv HW (zv HW (pv 3) (pv 0)) (pv 4))) (pv 5) (AH _)))
   (λ_ _ _ _=>pv 0))))))),?_}
 let{r1,a1,w1,f1,g1,i1,j1,l1}:=FR.get hx ju hy j6;show{4,fl,2,.ref a1,3,AD.of f1,g1,1,a1,9,AD.of i1,j1,?_};show{1,7,?_};by_cases mT:x=y
 . show Aj (zO (congrArg V.int mT)) (Aj rfl ?_);show{zj _,λl hl=>k l [] _ (zH hl) zI JM λp=>{λz=>by simp at z,λz=>absurd mT (BF.ne G z)}}
 show Ak (zW λz=>mT (V.int.inj z)) ?_;show{7,?_};cases e:Ag M x y with
 | none=>rw[e] at l1;show Aj SN ?_;show{zj _,λl hl=>k l [] _ (zH hl) zI JM λp=>{λz=>by simp at z,λ⟨l,b,_,_,z⟩=>absurd z.1 (l1 _)}}
 | some d=>
  rw[e] at l1;let hxy':WM.IsD ts x y d:=l1;show Ak (HX d) ?_;show{1,wa,n,ts,0,W,λdd kvs H1 s1 hd1 pd=>?_};show{1,wa,9,AB.of (s1 _ _ kF),0,n,0,(),(),[.int x,.ref dd],0,λD hD=>?_};show JB (lo:=0) (n:=n.toNat) (λq J H7=>q<=n.toNat/\J=((lowTo q).filter λo=>(AW kvs [Sum.inl x,Sum.inl o]).isSome).map V.int/\AE H1 H7/\H7 D=some (.lst J)) {zj _,0,zH hD,zI} (λq J H7 h=>?_) (λq J H7 hq h=>?_) (λJ H7 h=>?_)
  . let{hq,0,_}:=h;rw[zC];show CO (D0 _ _) (BL ?_);rw[lowTo,zC,zy]
    lia
  . let{1,s7,mh}:=h;rw[Bi];show{{3},?_};show{4,Ad,λp hp=>?_};show{1,dd,1,Az.t (k:=[Sum.inl x,Sum.inl (q:Int)]) (zH hp _ _ (s7 _ _ hd1)) zI,1,?_};show A3 (λhc=>?_) (λhc=>?_)
    . show{1,zH hp _ _ mh,hq,?_,Ar (s7.trans (zH hp)) hD,zI};rw[Wv,JA,List.filter_cons_of_pos (p:=λo=>(AW kvs [Sum.inl x,Sum.inl o]).isSome) hc,List.filter_nil,zP];rfl
    . show{hq,?_,s7.trans (zH hp),zH hp _ _ ?_}
      . rw[Wv,JA,List.filter_cons_of_neg (p:=λo=>(AW kvs [Sum.inl x,Sum.inl o]).isSome) hc,List.filter_nil,Bq]
      . show mh
  . let{1,s7,mh}:=h;generalize hsm:((lowTo n.toNat).filter λo=>(AW kvs [Sum.inl x,Sum.inl o]).isSome)=sm at mh ⊢;let U:sm.Pairwise (· < ·):=by rw[<-hsm];show (Qr _).sublist List.filter_sublist
    let I:∀p,p∈sm↔∃l,An ts x p l:=λp=>by
     rw[<-hsm,Dg,pd.some];show{λh=>h.2,λh=>{mem_ints.mpr ?_,h}};let{c,ha}:=h;let:=G.adj ha
     grind
    let sm_len:sm.length<=24:=by
     rw[<-hsm];show BC (D0 _ _) ?_;rw[lowTo,zC,zy]
     lia
    let nb_iff:∀p,p∈sm.filter (nb kvs M x y d)↔BF ts x y p:=λp=>by
     rw[Dg,I];constructor
     . rintro ⟨⟨l,ha⟩,hb⟩;let kc:=G.adj ha;let{_,2,8,l3}:=FR.get (x:=p) (y:=y) () () hy j6;unfold nb at hb;rw[((pd x p).1 l).mpr ha] at hb;cases e2:Ag M p y with
       | none=>rw[e2] at hb;cases hb
       | some b=>rw[e2] at hb l3;let hs:l+b=d:=of_decide_eq_true hb;show{l,b,ha,l3,by rwa[hs]}
     . rintro ⟨l,b,ha,h2,h3⟩;let kc:=G.adj ha;let{_,2,8,l3}:=FR.get (x:=p) (y:=y) () () hy j6;show{⟨l,ha⟩,?_};unfold nb;rw[((pd x p).1 l).mpr ha,Cu.uniq l3 (show Cu ts p y (some b) from h2)];show zO (WM.IsD.uniq h3 hxy')
    show{1,D,0,{_,AD.of mh},[.ref dd,.int x,.ref fl,.int y,.int d],0,λD2 jx=>?_};let nDD:D≠D2:=zl mh jx;show N1 (a:=D) (xs:=sm.map V.int) (λi J H8=>J=((sm.take i).filter (nb kvs M x y d)).map V.int/\AE H7 H8/\H8 D2=some (.lst J)) {0,zH jx,zI} (λi J H8 h=>?_) (λi J H8 h=>?_) (λi v J H8 hv h=>?_) (λJ H8 h=>?_)
    . show AD.of (h.2.1 _ _ mh)
    . rw[h.1,zC];show CO (D0 _ _) (BL ?_);rw[ze];lia
    . let{0,s8,mE}:=h;obtain⟨p,hp,rfl⟩:∃p,sm[i]?=some p/\V.int p=v:=by
       rw[zM] at hv;cases e:sm[i]? with
       | none=>rw[e] at hv;cases hv
       | some p=>rw[e] at hv;show{p,0,zZ hv}
      let{l,ha}:=(I p).mp (zQ hp);let kc:=G.adj ha;let kG:=((pd x p).1 l).mpr ha;let s18:AE H H8:=s1.trans (s7.trans s8);show{{3},?_};show{1,4,Ad,λq hq=>?_};let sq:AE H (upd H8 q (.tup [.int x,.int p])):=s18.trans (zH hq);let{r3,a3,w3,f3,g3,i3,j3,l3}:=(FR.keep λb J e=>sq _ _ e).get (x:=p) (y:=y) () () hy j6;obtain⟨b,eb⟩:∃b,Ag M p y=some b:=by
       cases e2:Ag M p y with
       | none=>rw[e2] at l3;show absurd ((WM.Way.one ha).symm.trans hxy'.1) (l3 _)
       | some b=>show{b,0}
      rw[eb] at j3;show{dd,1,kG ▸ Az.t (k:=[Sum.inl x,Sum.inl p]) (zH hq _ _ (s8 _ _ (s7 _ _ hd1))) zI,?_};show{4,fl,2,.ref a3,3,AD.of f3,g3,1,a3,9,AD.of i3,j3,l,b,3,?_};show{7,?_};let ek:sm.take (i+1)=sm.take i++[p]:=by rw[zt,hp];rfl
      let enb:nb kvs M x y d p=decide (l+b=d):=by unfold nb;rw[kG,eb]
      by_cases hs:l+b=d
      . show Aj (zO (congrArg V.int hs)) ?_;show{1,zH hq _ _ mE,?_,Ar (s8.trans (zH hq)) jx,zI};rw[ek,JA,List.filter_cons_of_pos (by rw[enb];show zO hs),List.filter_nil,zP];rfl
      . show Ak (zW λz=>hs (V.int.inj z)) ?_;show{?_,s8.trans (zH hq),zH hq _ _ mE};rw[ek,JA,List.filter_cons_of_neg (by rw[enb,zW hs];decide),List.filter_nil,Bq]
    . let{0,s8,mE}:=h;rw[zC,List.take_length] at mE;show k D2 _ H8 (s1.trans (s7.trans s8)) mE (U.sublist List.filter_sublist) nb_iff
inductive ag (vs:List V)(H:Hp)(Q:VK):Prop
 | mk:∀(wa fl:Addr)(n:Int)(ts:List T3)(M:BV)(v h:Int),(vs=[.ref wa,.ref fl,.int v,.int h])->(Ap H wa n ts)->(Bs H fl n ts M)->(0<=v)->(v<n)->(0<=h)->(h<n)->((∃d,WM.IsD ts h v d))->(∀(a:Addr)(e:En)(H':Hp),AE H H'->H' a=some (.tup (eV e))->e.h=h->WM.IsD ts v h e.l->F9 (BF ts v h) e.u->F9 (BF ts h v) e.d->Q (.ref a) H')->ag vs H Q
def Js:Sp:=λo H Q _=>ag o H Q
def az :By ((x::l).map V.int) 0=some (.int x):=Dx (j:=0) rfl
def YG {P:Int->Prop}(r:xs.Pairwise (· < ·))(m:∀p,p∈xs↔P p)(ne:∃p,P p):∃x r,xs=x::r/\F9 P (some x):=by
 let{p,C}:=ne;cases xs with
 | nil=>show absurd ((m p).mpr C) (by simp)
 | cons x l=>
  show{x,l,0,(m x).mp zX,λq o=>?_};rcases za.mp ((m q).mpr o) with e | e
  . lia
  . let:=(FO.mp r).1 q e
    lia
def Kz:AR aq Q1.p (defScope Q1.s):=Aa
def Xn:AC P w K mg base 3 Q1 Js:=λwz=>by
 show wz.En.okZ Kz λ_ _ A _ _ H vs Q E hr h=>?_;let{wa,fl,n,ts,M,v,h,0,W,FR,v0,v1,h0,h1,{d,hd},k}:=h;let{_,8,G}:=id W;show{_,zT (Ac (zw BH (pv 2) (pv 3) (AH _)) (zc (AL (AU (zD (pv 3) (zD zg (zD As (zD As zN))))))) Ae)
  (zc (AL (AU (zD (pv 3) (zD (zv AS (zv AS (pv 1) (pv 2)) (pv 3))
   (zD (zv AS (AG (Qq wz) hr (zD (pv 0) (zD (pv 1) (zD (pv 2) (zD (pv 3) zN))))) zg)
   (zD (zv AS (AG (Qq wz) hr (zD (pv 0) (zD (pv 1) (zD (pv 3) (zD (pv 2) zN))))) zg) zN))))))),?_}
 show{1,7,?_};by_cases c:v=h
 . subst c;show Aj (zO rfl) ?_;show{1,HM,λp J=>?_};let hz:F9 (BF ts v v) none:=λp J=>BF.ne G J rfl;show k p ⟨v,0,none,none⟩ _ (zH J) zI rfl (F2 G v) hz hz
 . show Ak (zW λz=>c (V.int.inj z)) ?_;let{rs,r,row,f1,f2,f3,f4,f5}:=FR.get v0 v1 h0 h1;let hv:WM.IsD ts v h d:=hd.symm;obtain⟨U,em⟩:∃U,Ag M v h=some U:=by
    cases e:Ag M v h with
    | some U=>show{U,0}
    | none=>rw[e] at f5;show absurd hv.1 (f5 d)
   rw[em] at f4 f5;show{1,4,fl,2,.ref r,3,AD.of f1,f2,1,r,9,AD.of f3,f4,?_};show{4,4,wa,fl,n,ts,M,v,h,0,W,FR,v0,v1,h0,h1,λl xs H1 s1 hl rise mem=>?_};let{u,ur,0,mu}:=YG rise mem (BF.exists G hv c);show⟨l,_,0,.int u,rfl,rfl,AD.of hl,az,?_⟩;show{4,4,wa,fl,n,ts,M,h,v,0,W.keep s1,FR.keep λb ys e=>s1 _ _ e,h0,h1,v0,v1,λl2 xs2 H2 s2 ku o I=>?_};let{dn,dr,0,md}:=YG o I (BF.exists G hd λz=>c z.symm);show⟨l2,_,0,.int dn,rfl,rfl,AD.of ku,az,?_⟩;show{HM,λp J=>?_};show k p {h,U,some u,some dn} _ ((s1.trans s2).trans (zH J)) zI rfl f5 mu md
inductive WO (vs:List V)(H:Hp)(Q:VK):Prop
 | mk:∀(wa p:Addr)(n:Int)(ts:List T3)(os:List Int),(vs=[.ref wa,.ref p])->(Ap H wa n ts)->(H p=some (.tup (os.map V.int)))->(Io n os)->(∀(l:Addr)(js:List (List En))(rk:Int->Int)(H':Hp),AE H H'->A4 H' l js->Hf n os rk->JV ts n rk js->(∀es∈js,∀e∈es,0<=e.l/\e.l<=1660944384)->Q (.ref l) H')->WO vs H Q
def jE:Sp:=λo H Q _=>WO o H Q
def Hf.ex {os:List Int}(O:Io n os):∃o,Hf n os o:=by
 classical
 show{λp=>if h:∃i:Nat,os[i]?=some p then ((Classical.choose h:Nat):Int) else 0,λp h0 C=>?_}
 let{i,hi,I}:=zf (O.mem (p:=p) h0 C);let hex:∃i:Nat,os[i]?=some p:={i,by rw[zB hi,I]};simp only[hex,dif_pos];show{(),by rw[B4];show Classical.choose_spec hex}
def YA {os:List Int}(O:Io n os)(R:Hf n os rk)(h0:0<=h)(U:h<n)(x0:0<=x)(I:x<n):x∈os.take (rk h).toNat↔rk x<rk h:=by
 let{a0,a1}:=R h h0 U;let{b0,b1}:=R x x0 I;let{i1,e1}:=zE.mp a1;let{i2,C}:=zE.mp b1;constructor
 . intro m;let{j,J,o}:=zf m;rw[ze] at J;rw[List.getElem_take] at o;let:=(HZ O.nd).mp (o.trans C.symm);omega
 . intro l;rw[<-C];show List.mem_take_iff_getElem.mpr {(rk x).toNat,(),0}
def cR {os:List Int}(G:GW n ts)(U:Bs H fl n ts M)(O:Io n os)(R:Hf n os rk)(h0:0<=h)(C:h<n)(v0:0<=v)(v1:v<n):
 GX ts rk h v↔(Ag M h v).isSome=true/\((os.take (rk h).toNat).filter λx=>Cf M x h v)=[]:=by
 let{_,2,8,J}:=U.get h0 C v0 v1;constructor
 . rintro ⟨⟨d,hd⟩,z⟩;show{?_,List.filter_eq_nil_iff.mpr λx I c=>?_}
   . cases e:Ag M h v with
     | none=>rw[e] at J;show absurd hd.1 (J d)
     | some _=>rfl
   . let o:=O.rng x (List.mem_of_mem_take I);let:=z x ((Wf U o.1 o.2 h0 C v0 v1).mp c);let:=(YA O R h0 C o.1 o.2).mp I
     lia
 . rintro ⟨z1,z2⟩;show{?_,λx I=>?_}
   . cases e:Ag M h v with
     | none=>rw[e] at z1;ext z1
     | some d=>rw[e] at J;show⟨d,J⟩
   . let{a,b,ia,_}:=id I;let o:=ia.1.in_ G h0 C;by_cases c:rk x<rk h
     . show absurd ((Wf U o.1 o.2 h0 C v0 v1).mpr I) (List.filter_eq_nil_iff.mp z2 x ((YA O R h0 C o.1 o.2).mpr c))
     . lia
def int_at {l:List Int}{i:Nat}(h:(l.map V.int)[i]?=some x):∃y,l[i]?=some y/\V.int y=x:=by
 rw[zM] at h;cases e:l[i]? with
 | none=>rw[e] at h;ext h
 | some y=>rw[e] at h;show{y,0,zZ h}
def Iv:AR ["_law_web_here","_law_order_here","_law_far_here","_law_labels_here","_law_place","_law_entries","_law_hub","_law_sooner"] Qd.p (defScope Qd.s):=Aa
def WD:AC P w K mg base 4 Qd jE:=λwz=>by
 show wz.La.okZ Iv λ_ _ A _ _ H vs Q E hr h=>?_;let{wa,p,n,ts,os,0,W,hp,O,k}:=h;let{ta,tys,kF,2,G}:=id W;let lS:=G.n1;let jz:=G.n24;let nJ:=hr.units0;show{_,zT (Ez (i:=2) Iv.nd rfl (Or.inr rfl) (AG (Yb wz) hr (zD (pv 0) zN)))
  (zT (AO (i:=3) Iv.nd (BR zN))
  (zT (A0 (BX rfl wz.mRange (zD (zv AV (pv 0) zg) zN)) (Bc (i:=4) Iv.nd rfl (Or.inr rfl))
   (zT (AO (i:=5) Iv.nd (BR zN))
   (zT (A0 (BX rfl wz.mRange (zD (zv AV (pv 0) zg) zN)) (Bc (i:=6) Iv.nd rfl (Or.inr rfl))
    (zT (DW (i:=7) (own:=["_law_one"]) (cn:=["_law_far_here","_law_hub","_law_place"]) (ci:=[2,6,4]) Iv.nd rfl (Or.inl rfl) rfl (Ax rfl rfl) {0,3,3,3,3,trivial} rfl
     (BB (Dj Vm (pv 1) ES (DY (LD PySem.F.slot_tuple_index PySem.F.type_tuple_index du (pv 1) (zD (pv 6) zN))))) (λ_ _ _ _=>Aw)
     (λ_ _ _ _=>Dw (CG (AG (OS wz) hr (zD (pv 1) (zD (pv 0) (zD (pv 2) (zD (pv 3) zN))))))) (λ_ _ _ _=>pv 0))
    (zc (Ac (PW.pt (DT (zw GU (zv AS (zv AS (pv 2) (pv 6)) (pv 4)) As (AH _)) (EW (zw (Tx nJ) (pv 7) (BR zN) (AH _)))))
     (zc (C1 (C3 PySem.F.plainAttrs_list PySem.F.slot_list_append PySem.F.type_list_append FF (pv 5) (zD (AG (Xn wz) hr (zD (pv 0) (zD (pv 2) (zD (pv 4) (zD (pv 6) zN))))) zN)))) Ae))))
   (zc (C1 (C3 PySem.F.plainAttrs_list PySem.F.slot_list_append PySem.F.type_list_append FF (pv 3) (zD (B5 DH wz.mTuple (zD (pv 5) zN)) zN)))))))
  (zc (AL (B5 DH wz.mTuple (zD (pv 3) zN)))))),?_}
 show{1,wa,n,ts,0,W,λfl A7 FM H0 s0 lL FLR FRR=>?_};let FR0:Bs H0 fl n ts FM:=⟨A7,lL,FLR,FRR⟩;let W0:=W.keep s0;let hwa0:=s0 _ _ kF;let hp0:=s0 _ _ hp;let{I,R}:=Hf.ex O;show{zj _,λD hD=>?_};show{1,wa,9,AB.of (zH hD _ _ hwa0),0,n,0,(),(),CL (lo:=0) (n:=n.toNat) (λq σ H1=>∃(v4 v5 v6 v7:Option V)(bs:List Addr)(js:List (List En)),σ=[⇑wa,⇑p,⇑fl,⇑D,v4,v5,v6,v7]/\bs.length=q/\js.length=q/\H1 D=some (.lst (bs.map V.ref))/\(∀(i:Nat)(b:Addr),bs[i]?=some b->∃es,js[i]?=some es/\A1 H1 b es)/\(∀(i:Nat)(es:List En),js[i]?=some es->RP ts n I i es)/\AE H0 H1)
  {none,none,none,none,[],[],0,3,zI,(λi b z=>by simp at z),(λi b z=>by simp at z),zH hD} ?turn ?after}
 case after=>
  rintro σ H1 ⟨v4,v5,v6,v7,bs,js,rfl,hbl,lT,kD,hlab,j4,s1⟩;show{1,D,1,.inl {AD.of kD,λl hl=>?_}};show k l js I _ (s0.trans (s1.trans (zH hl))) {bs,zI,(),λi b hb=>?_} R ⟨lT,j4⟩ ?bound
  case bound=>
   intro es kB e he;let{i,hi,ei}:=zf kB;let EO:=(j4 i es (by rw[zB hi,ei])).ent e he;show iT FRR () () EO.rng.1 EO.rng.2 EO.len
  let{es,e1,e2}:=hlab i b hb;show{es,e1,e2.same (zH hl)}
 case turn=>
  rintro q σ H1 hq ⟨v4,v5,v6,v7,bs,js,rfl,hbl,lT,kD,hlab,j4,s1⟩;rw[Bi];let q0:(0:Int)<=q:=()
  let qn:(q:Int)<n:=()
  show{zj _,λE' hE=>?_};let nED:D≠E':=zl kD hE;show{1,wa,9,AB.of (zH hE _ _ (s1 _ _ hwa0)),0,n,0,(),(),CL (lo:=0) (n:=n.toNat) (λj σ H2=>∃(v6 v7:Option V)(as:List Addr)(es:List En),σ=[⇑wa,⇑p,⇑fl,⇑D,some (.int q),⇑E',v6,v7]/\H2 E'=some (.lst (as.map V.ref))/\Ah H2 as es/\Bx es/\(∀e∈es,Rf ts n I q e/\e.h<j)/\(∀h:Int,0<=h->h<j->GX ts I h q->∃e∈es,e.h=h)/\es.length<=j/\AE H1 H2)
   {v6,v7,[],[],0,zI,{0,λi a z=>by simp at z},JM,(λe z=>by simp at z),(λh a b=>()),zJ _,zH hE} ?turn2 ?after2}
  case after2=>
   rintro σ H2 ⟨v6,v7,as,es,rfl,hE2,EA,hub,ent,alh,nM,s2⟩;show{1,.inl {0,_,AD.of (s2 _ _ kD)},?_};show{1,E',1,.inl {AD.of hE2,λl hl=>?_}};let sl:=zH (o:=.tup (as.map V.ref)) hl;show{D,_,.ref l,3,sl _ _ (s2 _ _ kD),?_,?_}
   . rw[zC];show BL ()
   . let kT:∀b J,H1 b=some (.tup J)->(upd (upd H2 l (.tup (as.map V.ref))) D (.lst (bs.map V.ref++[.ref l]))) b=some (.tup J):=λb J e=>by
      let hb:b≠D:=λz=>by rw[z,kD] at e;ext e
      rw[zi hb];show sl _ _ (s2 _ _ e)
     let nlD:l≠D:=λz=>by rw[z,s2 _ _ kD] at hl;ext hl
     let kO:(upd (upd H2 l (.tup (as.map V.ref))) D (.lst (bs.map V.ref++[.ref l]))) l=some (.tup (as.map V.ref)):=by rw[zi nlD];show zI
     show{8,bs++[l],js++[es],0,by rw[zK,hbl];rfl,by rw[zK,lT];rfl,by rw[zI,zP];rfl,λi b hb=>?_,λi lP he=>?_,Ar ((s1.trans s2).trans sl) hD}
     . by_cases c:i<bs.length
       . rw[zV c] at hb;let{lP,e1,e2}:=hlab i b hb;show{lP,by rw[zV ()];show e1,e2.keep kT}
       . let hi:i=bs.length:=by let:=(zE.mp hb).1;rw[zK] at this;simp at this;lia
         subst hi;rw[zS (zJ _),Dq] at hb;let eb:l=b:=‹hb›
         subst eb;show{es,by rw[zS (),hbl,lT,Dq];rfl,as,kO,EA.keep λb J e=>?_,()};let hb:b≠D:=λz=>by rw[z,s2 _ _ kD] at e;ext e
         rw[zi hb];show sl _ _ e
     . by_cases c:i<js.length
       . rw[zV c] at he;show j4 i lP he
       . let hi:i=js.length:=by let:=(zE.mp he).1;rw[zK] at this;simp at this;lia
         subst hi;rw[zS (zJ _),Dq] at he;let ee:es=lP:=‹he›
         subst ee;rw[lT];show{hub,λe he=>(ent e he).1,λh h0 h1 z=>alh h h0 () z,()}
  case turn2=>
   rintro j σ H2 hj ⟨v6,v7,as,es,rfl,hE2,EA,hub,ent,alh,nM,s2⟩;rw[Bi];let j0:(0:Int)<=j:=()
   let jn:(j:Int)<n:=()
   let{rj0,nj}:=R (j:Int) j0 jn;let{m9,hie}:=zE.mp nj;let kM:=s2 _ _ (s1 _ _ hp0);let mD:∀m,m<(I j).toNat->os[m]?≠some (j:Int):=λm hm e=>by
    let{hm',em}:=zE.mp e;let:=(HZ O.nd).mp (em.trans hie.symm)
    lia
   let ec:CA (os.map V.int) none (some (((I j).toNat:Nat):Int))=(os.take (I j).toNat).map V.int:=by unfold CA;rw[HT.sIx_none,HT.sIx_nat,List.drop_zero,Nat.sub_zero,zC,Nat.min_eq_left (),List.map_take]
   show{4,{p,1,kM},1,p,os,(I j).toNat,j,3,AB.of kM,nj,mD,(((I j).toNat:Nat):Int),0,p,1,AB.of kM,λz=>?whole,λ_ t ht=>?_}
   case whole=>
    let z2:=z.2;rw[HT.sIx_nat,zC] at z2;omega
   rw[ec];let st:=zH (o:=.tup ((os.take (I j).toNat).map V.int)) ht;let ht3:(upd H2 t (.tup ((os.take (I j).toNat).map V.int))) t=some (.tup ((os.take (I j).toNat).map V.int)):=zI;generalize upd H2 t (.tup ((os.take (I j).toNat).map V.int))=H3 at st ht3 ⊢;let FR3:Bs H3 fl n ts FM:=FR0.keep λb J e=>st _ _ (s2 _ _ (s1 _ _ e));show{t,0,{_,AB.of ht3},[.ref fl,.int j,.int q],0,λD3 kC=>?_};show BS (a:=t) (xs:=(os.take (I j).toNat).map V.int) (λm J H4=>J=(((os.take (I j).toNat).take m).filter λx=>Cf FM x j q).map V.int/\H4=upd H3 D3 (.lst J)) {3} (λm J H4 z=>?_) (λm J H4 z=>?_) (λm x J H4 hx z=>?_) (λJ H4 z=>?_)
   . let{1}:=z;show AB.of (by rw[zi (zl ht3 kC)];show ht3)
   . let{0,_}:=z;rw[zC];show CO (D0 _ _) ?_;rw[ze,ze];show BL (by let:=O.ln;lia)
   . let{3}:=z;let{y,hy,0}:=int_at hx;let yr:=O.rng y (List.mem_of_mem_take (zQ hy));let sty:((os.take (I j).toNat).take (m+1)).filter (λx=>Cf FM x j q)=((os.take (I j).toNat).take m).filter (λx=>Cf FM x j q)++[y].filter (λx=>Cf FM x j q):=by rw[zt,hy,JA];rfl
     show{{3},?_};show{4,4,fl,n,ts,FM,y,j,q,0,FR3.keep λb J e=>zH kC _ _ e,yr.1,yr.2,j0,jn,q0,qn,?_};show{1,?_};by_cases c:Cf FM y j q=true
     . show Aj c ?_;show{1,zI,?_,EU};rw[sty,List.filter_cons_of_pos (p:=λx=>Cf FM x j q) c,List.filter_nil,zP];rfl
     . show Ak (Bool.not_eq_true _ ▸ c) {?_,0};rw[sty,List.filter_cons_of_neg (p:=λx=>Cf FM x j q) c,List.filter_nil,Bq]
   . let{3}:=z;rw[zC,zb (zJ _)];let sD3:=zH (o:=.lst (((os.take (I j).toNat).filter λx=>Cf FM x j q).map V.int)) kC;let hDl:(upd H3 D3 (.lst (((os.take (I j).toNat).filter λx=>Cf FM x j q).map V.int))) D3=some (.lst (((os.take (I j).toNat).filter λx=>Cf FM x j q).map V.int)):=zI;generalize upd H3 D3 (.lst (((os.take (I j).toNat).filter λx=>Cf FM x j q).map V.int))=H4 at sD3 hDl ⊢;let FR4:Bs H4 fl n ts FM:=FR3.keep λb J e=>sD3 _ _ e;let s24:AE H2 H4:=st.trans sD3;let key:=cR G FR4 O R j0 jn q0 qn;let{rs1,r1,row1,f1,g1,i1,j1,l1}:=FR4.get (x:=(j:Int)) (y:=(q:Int)) j0 jn q0 qn;show{4,fl,2,.ref r1,3,AD.of f1,g1,1,r1,9,AD.of i1,j1,0,1,?_};let stay:∀{Hx:Hp},AE H2 Hx->¬ GX ts I j q->∃(v6 v7:Option V)(as:List Addr)(es:List En),[some (V.ref wa),⇑p,⇑fl,⇑D,some (.int q),⇑E',some (.int j),⇑D3]=[⇑wa,⇑p,⇑fl,⇑D,some (.int q),⇑E',v6,v7]/\Hx E'=some (.lst (as.map V.ref))/\Ah Hx as es/\Bx es/\(∀e∈es,Rf ts n I q e/\e.h<((j+1:Nat):Int))/\(∀h:Int,0<=h->h<((j+1:Nat):Int)->GX ts I h q->∃e∈es,e.h=h)/\es.length<=j+1/\AE H1 Hx:=λ{Hx} sx nh=>
      {2,as,es,0,sx _ _ hE2,EA.keep λb J e=>sx _ _ e,hub,λe he=>{(ent e he).1,by let:=(ent e he).2;lia},λh h0 h1 z=>by
       by_cases c:h=j
       . subst c;show absurd z nh
       . show alh h h0 () z,(),s2.trans sx}
     cases e:Ag FM j q with
     | none=>
      let nh:¬ GX ts I j q:=λz=>by let:=(key.mp z).1;rw[e] at this;ext this
      show Ak (by rw[SN];rfl) ?_;show Ab (stay s24 nh)
     | some d=>
      show Aj (by rw[HX];rfl) ?_;show{1,zj _,λb hb=>?_};let sb:=zH (o:=.lst []) hb;show{D3,b,_,3,AD.of (sb _ _ hDl),AD.of zI,1,?_};by_cases c:((os.take (I j).toNat).filter λx=>Cf FM x j q)=[]
      . let yh:GX ts I j q:=key.mpr {by rw[e];rfl,c};show Aj (by rw[c];rfl) ?_;let U:=s24.trans sb;generalize upd H4 b (.lst [])=H5 at U sb ⊢;show{1,.inl {0,_,AD.of (U _ _ hE2)},?_};show{4,4,wa,fl,n,ts,FM,q,j,0,W0.keep (s1.trans (s2.trans U)),FR4.keep λb J e=>sb _ _ e,q0,qn,j0,jn,yh.1,λa en H6 s6 ha eh el eu ed=>?_};let hE6:=s6 _ _ (U _ _ hE2);show{E',_,.ref a,3,hE6,?_,?_}
        . rw[zC,EA.1];show BL ()
        . let kT:∀b J,H2 b=some (.tup J)->(upd H6 E' (.lst (as.map V.ref++[.ref a]))) b=some (.tup J):=λb J e=>by
           let hb:b≠E':=λz=>by rw[z,hE2] at e;ext e
           rw[zi hb];show s6 _ _ (U _ _ e)
          let naE:a≠E':=λz=>by rw[z,hE6] at ha;ext ha
          let EO:Rf ts n I q en:=by show{by rw[eh];show⟨j0,jn⟩,by rw[eh];show yh,by rw[eh];show el,by rw[eh];show eu,by rw[eh];show ed}
          show{2,as++[a],es++[en],0,by rw[zI,zP];rfl,(EA.keep kT).snoc (by rw[zi naE];show ha),?_,λe he=>?_,λh h0 h1 z=>?_,by rw[zK];change es.length+1<=j+1;lia,Ar ((s2.trans U).trans s6) hE}
          . show List.pairwise_append.mpr {hub,List.pairwise_singleton _ _,λx hx y hy=>?_};let ey:y=en:=‹hy›
            rw[ey,eh];show (ent x hx).2
          . rcases zr.mp he with m | m
            . show{(ent e m).1,by let:=(ent e m).2;lia}
            . let ee:e=en:=‹m›
              rw[ee];show{EO,by rw[eh];lia}
          . by_cases ch:h=j
            . show{en,by simp,by rw[eh,ch]}
            . let{e',m,kZ}:=alh h h0 () z;show{e',Cy _ m,kZ}
      . let nh:¬ GX ts I j q:=λz=>c (key.mp z).2;show Ak ?_ (stay (s24.trans sb) nh);cases z:((os.take (I j).toNat).filter λx=>Cf FM x j q) with
        | nil=>show absurd z c
        | cons _ _=>rfl
def Z5 :CC X st (λ_ _ _=>False):=λ_ _ _ _ _ _ h=>h.elim
def E3 (h:PS X st u)(m:∀D σ H,u' D σ H->u D σ H):PS X st u':=λpins s σ H D I q=>h pins s σ H D I (m D σ H q)
structure GJ (n:Int)(e:En):Prop where
 rng:0<=e.h/\e.h<n
 nn:0<=e.l
 own:e.l=0->e.u=none/\e.d=none
 far:e.l≠0->∃u d,e.u=some u/\e.d=some d/\0<=u/\u<n/\0<=d/\d<n
structure Fv (n:Int)(es:List En):Prop where
 ent:∀e∈es,GJ n e
 hub:Bx es
 len:(es.length:Int)<=n
 one:(es.map (·.l)).countP (λx=>x==0)=1
meta def oD:Option Int->PyData
 | none=>.none
 | some i=>.int i
meta def CT (e:En):PyData:=.tuple [.int e.h,.int e.l,oD e.u,oD e.d]
meta def G6 (es:List En):PyData:=.tuple (es.map CT)
meta def CN (o:List (List En)):PyData:=.tuple (o.map G6)
def Xw (h:oD a=oD b):a=b:=by ext a <;> ext b <;> first | rfl | (ext h;done) | (injection h with h;rw[h])
def UE {α o:Type}{f:α->o}(hf:∀a b,f a=f b->a=b):∀{xs ys:List α},xs.map f=ys.map f->xs=ys
 | [],[],_=>rfl
 | [],_::_,h=>by ext h
 | _::_,[],h=>by ext h
 | x::xs,y::ys,h=>by injection h with h1 h2;rw[hf _ _ h1,UE hf h2]
def cD (a b)(h:CT a=CT b):a=b:=by unfold CT at h;injection h with h;injection h with C h;injection h with o h;injection h with h3 h;injection h with h4 h;injection C with C;injection o with o;ext a;ext b;ext C;ext o;cases Xw h3;cases Xw h4;rfl
def UB (h:CN a=CN b):a=b:=by unfold CN at h;injection h with h;show UE (λx y z=>by unfold G6 at z;injection z with z;show UE cD z) h
def KN (h:Ai n d=true):∃e,d=CT e/\GJ n e/\BK d=e.h/\B7 d=e.l:=by
 let{x,l,u,w,0,z}:=HC h;rw[Bw,Bw] at z;let{i,0,a1,a2}:=Rj z.1;let J:=of_decide_eq_true z.2.1;let o:=z.2.2;unfold FT at o;by_cases c:l=0
 . rw[if_pos c,Bw] at o;let U:u=.none:=by ext u <;> first | rfl | (cases o.1;done)
   let hw:w=.none:=by ext w <;> first | rfl | (cases o.2;done)
   subst U hw;show{⟨i,l,none,none⟩,0,{{a1,by change i<n;lia},J,λ_=>{3},λz=>absurd c z},3}
 . rw[if_neg c,Bw] at o;let{I,0,b1,b2}:=Rj o.1;let{C,0,c1,c2}:=Rj o.2;show{{i,l,some I,some C},0,{{a1,by change i<n;lia},J,λz=>absurd z c,λ_=>{I,C,3,b1,(),c1,()}},3}
def X6 :∀{ds:List PyData},ds.all (Ai n)=true->∃es:List En,ds=es.map CT/\(∀e∈es,GJ n e)/\ds.map BK=es.map (·.h)/\ds.map B7=es.map (·.l)
 | [],_=>{[],0,λe z=>(by ext z),3}
 | d::ds,h=>by
  rw[List.all_cons,Bw] at h;let{e,J,I,C,o}:=KN h.1;let{es,g1,g2,g3,U}:=X6 h.2;show{e::es,by rw[J,g1];rfl,λx hx=>?_,by rw[Bj,Bj,C,g3],by rw[Bj,Bj,o,U]};rcases za.mp hx with rfl | hx
  . show I
  . show g2 x hx
def Jh (h:BQ n d=true):∃es,d=G6 es/\Fv n es:=by
 unfold BQ at h;split at h
 . rename_i ds
   rw[Bw,Bw,Bw] at h;let{J,I,C,o}:=h;let{es,g1,g2,g3,U}:=X6 I;show{es,by rw[g1];rfl,g2,?_,?_,?_}
   . rwa[g3,Nc,EZ] at o
   . let:=of_decide_eq_true J;rwa[g1,zC] at this
   . let:=of_decide_eq_true C;rwa[U] at this
 . ext h
structure DO (n:Int)(js:List (List En)):Prop where
 ln:js.length=n.toNat
 kd:∀es∈js,Fv n es
def Yv :∀{ds:List PyData},ds.all (BQ n)=true->∃o:List (List En),ds=o.map G6/\∀es∈o,Fv n es
 | [],_=>{[],0,λe z=>(by ext z)}
 | d::ds,h=>by
  rw[List.all_cons,Bw] at h;let{e,I,C}:=Jh h.1;let{es,g1,g2}:=Yv h.2;show{e::es,by rw[I,g1];rfl,λx hx=>?_};rcases za.mp hx with rfl | hx
  . show C
  . show g2 x hx
def QS (h:FW n d=true):∃o,d=CN o/\DO n o:=by
 unfold FW at h;split at h
 . rename_i ds
   rw[Bw] at h;let{o,g1,g2}:=Yv h.2;let:=of_decide_eq_true h.1;rw[g1,zC] at this;show{o,by rw[g1];rfl,(),g2}
 . ext h
def KJ (h:AX H v (CT e)):∃a,v=.ref a/\H a=some (.tup (eV e)):=by
 let I:∀{v:V}{o:Option Int},AX H v (oD o)->v=oV o:=λ{v o} s=>by ext o <;> ext s <;> rfl
 cases h with
 | @tup a xs _ e1 C=>
  cases C with
  | cons s1 C=>cases C with
   | cons s2 C=>cases C with
    | cons s3 C=>cases C with
     | cons s4 C=>ext C;ext s1;ext s2;show{a,0,?_};rw[e1,I s3,I s4];rfl
def XU :∀{xs:List V}{es:List En},B0 H xs (es.map CT)->∃as:List Addr,xs=as.map V.ref/\Ah H as es
 | _,[],h=>by ext h;show{[],3,λi a z=>by simp at z}
 | _,e::es,h=>by
  cases h with
  | cons s ss=>
   let{a,0,ha}:=KJ s;let{as,0,E}:=XU ss;show{a::as,0,by rw[zu,zu,E.1],λi b hb=>?_};cases i with
   | zero=>ext hb;show{e,0,ha}
   | succ i=>show E.2 i b hb
def V5 :∀{xs:List V}{o:List (List En)},(∀es∈o,es.length<=1000)->B0 H xs (o.map G6)->∃as:List Addr,xs=as.map V.ref/\as.length=o.length/\∀(i:Nat)a,as[i]?=some a->∃es,o[i]?=some es/\A1 H a es
 | _,[],_,h=>by ext h;show{[],3,λi a z=>by simp at z}
 | _,es::o,hl,h=>by
  cases h with
  | cons s ss=>
   let{as,0,I,C}:=V5 (λe he=>hl e (zd _ he)) ss;cases s with
   | @tup a xs _ e1 ax=>
    let{bs,0,E}:=XU ax;show{a::as,0,by rw[zu,zu,I],λi b hb=>?_};cases i with
    | zero=>ext hb;show{es,0,bs,e1,E,hl es zX}
    | succ i=>show C i b hb
def XH (C:∀es∈js,es.length<=1000)(h:AX H v (CN js)):∃o,v=.ref o/\A4 H o js:=by
 cases h with
 | @tup a xs _ e1 ax=>let{as,0,J,I}:=V5 C ax;show{a,0,as,e1,J,I}
def Pu (n:dx≠e):upd (upd (upd H dx o1) e x) dx o2=upd (upd H dx o2) e x:=by
 funext b;by_cases o:b=dx
 . subst o;rw[zI,zi n,zI]
 . by_cases C:b=e
   . subst C;rw[zi o,zI,zI]
   . rw[zi o,zi C,zi o,zi C,zi o]
def Us:AR ["self","word","at"] Jw.p (defScope Jw.s):=Aa
def Ic (o:Ws P w K mg base C):Xz P w K mg base 1 C (Ma C "word" "at"):=by
 let{cW,c1,c2,c3,c4,c5,c6,c7,c8,c9,c10,c11,Er}:=o.Er;let{f,fd,F,bI,U}:=o.I;show{f,fd,bI,U,?_};show F.okD Us λ_ A _ _ H vs Q E hr h=>?_;let{e,t,v1,v2,0,he,k}:=h;show{_,zT (YS U o.mo Er.n1 (pv 0) (pv 1)) (zc (YS U o.mo Er.n2 (pv 0) (pv 2))),?_};show{4,e,t,0,.inl {he,λdx J=>?_}};let ne:dx≠e:=λz=>by rw[z,he] at J;ext J
 show{4,e,t,0,.inr {dx,_,zI,by rw[zi ne,zI],by change 1<900;decide,?_}};change Q _ _;rw[Pu ne];show k dx J ne
meta def Bu (o:List (List En)):Nat->List (Nat×En)
 | 0=>[]
 | i+1=>Bu o i++((o.getD i []).filter λe=>decide (e.l≠0)).map λe=>(i,e)
def E2 (H:Hp)(ys:List V)(o:List (Nat×En)):Prop:=ys.length=o.length/\∀(j:Nat)y,ys[j]?=some y->∃c a,∃(i:Nat),∃e,y=.ref c/\o[j]?=some (i,e)/\H c=some (.tup [.int i,.ref a])/\H a=some (.tup (eV e))
def E2.keep (h:E2 H ys fe)(k:∀b zs,H b=some (.tup zs)->H' b=some (.tup zs)):E2 H' ys fe:=
 {h.1,λj y e=>let ⟨c,a,i,x,J,I,C,o⟩:=h.2 j y e;{c,a,i,x,J,I,k _ _ C,k _ _ o}}
def E2.app (h:E2 H ys fe)(g:E2 H zs ge):E2 H (ys++zs) (fe++ge):=by
 show{by rw[zK,zK,h.1,g.1],λj y e=>?_};by_cases c:j<ys.length
 . rw[zV c] at e;let{a,b,i,x,I,C,o}:=h.2 j y e;show{a,b,i,x,I,by rw[zV (by rw[<-h.1];show c)];show C,o}
 . rw[zS ()] at e;let{a,b,i,x,I,C,o}:=g.2 _ y e;show{a,b,i,x,I,by rw[zS (by rw[<-h.1];lia),<-h.1];show C,o}
inductive Xa (vs:List V)(H:Hp)(Q:VK):Prop
 | mk:∀(l:Addr)(js:List (List En)),(vs=[.ref l])->(A4 H l js)->(js.length<=24)->((∀es∈js,es.length<=24))->(∀(a:Addr)(ys:List V)(H':Hp),AE H H'->H a=none->H' a=some (.lst ys)->E2 H' ys (Bu js js.length)->Q (.ref a) H')->Xa vs H Q
def Wq:Sp:=λo H Q _=>Xa o H Q
def GN :∀{n i:Nat}{e:En},(i,e)∈Bu js n->i<n/\e∈js.getD i []
 | 0,_,_,h=>by simp[Bu] at h
 | n+1,i,e,h=>by
  rcases zr.mp (show (i,e)∈Bu js n++_ from h) with z | z
  . let:=GN z;show{(),this.2}
  . let{x,o,ex}:=zk.mp z;simp only[Prod.mk.injEq] at ex;let{3}:=ex;show{(),(Dg.mp o).1}
def UI (h:∀es∈js,es.length<=24):∀n,(Bu js n).length<=24*n
 | 0=>zJ _
 | n+1=>by
  change (Bu js n++_).length<=_;rw[zK,zC];let I:=UI h n;let C:=D0 (λe:En=>decide (e.l≠0)) (js.getD n []);let o:(js.getD n []).length<=24:=by
   rw[zF];cases e:js[n]? with
   | none=>show zj _
   | some x=>show h x (zQ e)
  lia
def RD:AR ["labels","found","place","label"] Qs.p (defScope Qs.s):=Aa
def i9:AC P w K mg base 1 Qs Wq:=λwz=>by
 show wz.Fa.okZ RD λ_ _ A _ _ H vs Q E hr h=>?_;let{l,js,0,LL,hn,kB,k}:=h;let{as,hl,lM,hA}:=id LL;show{_,zT (AO (i:=1) RD.nd (BR zN))
  (zT (A0 (S1 (by rfl) wz.mEnum (zD (pv 0) zN)) (C0 rfl (zx (Bc (i:=2) RD.nd rfl (Or.inr rfl)) (zx (AY (i:=3) RD.nd) CY)))
   (zc (C1 (C3 PySem.F.plainAttrs_list PySem.F.slot_list_extend PySem.F.type_list_extend YZ (pv 1) (zD
    (BU (own:=["entry"]) (cn:=["place"]) (ci:=[2]) rfl (Ax rfl rfl) {0,3,trivial} rfl (BB (pv 3)) (λ_ _ _ _=>Aw)
     (λ_ _ _ _=>Dw (zw Ip (zv CU (pv 0) zg) zg (AH _)))
     (λ_ _ _ _=>AU (zD (pv 1) (zD (pv 0) zN)))) zN)))))
  (zc (AL (pv 1)))),?_}
 show{Ce,λD hD=>?_};let s0:=zH (o:=.lst []) hD;show{1,l,0,{_,AB.of (s0 _ _ hl)},TK (K:=K) (a:=l) (xs:=as.map V.ref) (λi σ H2=>K7 λ(v2 v3:Option V)(J:List V)=>σ=[⇑l,⇑D,v2,v3]/\AE H H2/\H2 D=some (.lst J)/\E2 H2 J (Bu js i))
  {2,[],0,s0,zI,0,λj y e=>by simp at e} (λi σ H2 _ ⟨_,_,_,_,s2,_⟩=>AB.of (s2 _ _ hl)) ?turn ?after}
 case after=>
  rintro σ H2 ⟨v2,v3,J,rfl,s2,jx,FA⟩;rw[zC,lM] at FA;show{1,k D J H2 s2 hD jx FA}
 case turn=>
  rintro i x σ H2 Tp hx ⟨v2,v3,J,rfl,s2,jx,FA⟩ hTp;rw[zM] at hx;cases ha:as[i]? with
  | none=>rw[ha] at hx;ext hx
  | some a=>
  rw[ha] at hx;ext hx;let hia:=(zE.mp ha).1;let{es,n6,bs,hb,EA,hl3}:=hA i a ha;let eget:js.getD i []=es:=by rw[zF,n6];rfl
  let lT:=kB es (zQ n6);let sT:=zH (o:=.tup [.int (i:Int),.ref a]) hTp;let s3:=s2.trans sT;show{Tp,1,AB.of zI,0,6,5,?_};show{1,.inl {0,_,AD.of (sT _ _ jx)},1,a,0,{_,AB.of (s3 _ _ hb)},[.int i],0,λD2 kq=>?_};let EA3:Ah (upd H2 Tp (.tup [.int (i:Int),.ref a])) bs es:=EA.keep λb zs e=>s3 _ _ e;let hbl:=EA.1;show BS (a:=a) (xs:=bs.map V.ref) (λj zs I=>E2 I zs (((es.take j).filter λe=>decide (e.l≠0)).map λe=>(i,e))/\AE (upd H2 Tp (.tup [.int (i:Int),.ref a])) I/\I D2=some (.lst zs)) {{0,λj y e=>by simp at e},zH kq,zI} (λj zs I h=>?_) (λj zs I h=>?_) (λj v zs I hv h=>?_) (λzs I h=>?_)
  . show AB.of (h.2.1 _ _ (s3 _ _ hb))
  . rw[h.1.1,zC];show CO (D0 _ _) (A5 (by rw[ze];lia))
  . let{F4,s4,U}:=h;let{c,e,0,he,hc}:=EA3.at hv;let hc4:=s4 _ _ hc;show{{3},?_};show{1,c,2,.int e.l,3,AB.of hc4,3,1,?_};rw[Eo];let st:=Qy (λe:En=>decide (e.l≠0)) he;by_cases cc:e.l=0
    . rw[zO cc];show Ab {?_,s4,U};rw[st,if_neg (by simp[cc]),Bq];show F4
    . rw[zW cc];show AZ ?_;show{4,Ad,λq hq=>?_};let nDq:=zl U hq;show{zH hq _ _ U,?_,Ar (s4.trans (zH hq)) kq,zI};rw[st,if_pos (by simp[cc]),zP];let kp:∀b us,I b=some (.tup us)->(upd (upd I q (.tup [.int (i:Int),.ref c])) D2 (.lst (zs++[.ref q]))) b=some (.tup us):=λb us e=>by rw[zi (BA e U (by intro z;ext z))];show zH hq _ _ e
      show (F4.keep kp).app {0,λj' y' e'=>?_};cases j' with
      | zero=>
       let:V.ref q=y':=‹e'›
       subst this;show{q,c,i,e,3,by rw[zi nDq.symm];show zI,kp _ _ hc4}
      | succ z=>simp at e'
  . let{F4,s4,U}:=h;rw[zC,EA.1,zb (zJ _)] at F4;let hDD:=s4 _ _ (sT _ _ jx);let f1:=UI kB i;let f2:=FA.1;let f3:=F4.1;let f4:=D0 (λe:En=>decide (e.l≠0)) es;rw[zC] at f3;show{D,D2,5,hDD,U,CI (A5 ()),?_};let s5:=Ar (o:=.lst (J++zs)) (s3.trans s4) hD;let kp:∀b us,I b=some (.tup us)->(upd I D (.lst (J++zs))) b=some (.tup us):=λb us e=>by rw[zi (BA e hDD (by intro z;ext z))];show e
    show{2,J++zs,0,s5,zI,?_};change E2 _ _ (Bu js i++_);rw[eget];show ((FA.keep λb us e=>s4 _ _ (sT _ _ e)).keep kp).app (F4.keep kp)
structure Kj (js:List (List En))(i:Nat)(e:En):Prop where
 hi:i<js.length
 mem:e∈js.getD i []
 far:e.l≠0
def Dd (ts:List T3)(o:List (List En))(i:Nat)(e:En):Prop:=∃u t f,e.u=some u/\An ts i u t/\f∈o.getD u.toNat []/\f.h=e.h/\f.l=e.l-t
def NK (ts:List T3)(o:List (List En))(i:Nat)(e:En):Prop:=∃d t c,e.d=some d/\An ts e.h d t/\B3 (Cd (o.getD d.toNat []) (o.getD i [])) (some c)/\c.1=e.l-t
def getD_some {α:Type}{l:List (List α)}(h:i<l.length):l[i]?=some (l.getD i []):=by rw[zF,zB h];rfl
def DO.at (K:DO n js)(h:i<js.length):Fv n (js.getD i []):=K.kd _ (zQ (getD_some h))
def Y8:∀l:List (Int×Int),∃lm,B3 (λc=>c∈l) lm
 | []=>{none,λc z=>by ext z}
 | a::l=>by
  let{lm,h}:=Y8 l;cases lm with
  | none=>
   show{some a,zX,λc o=>?_};rcases za.mp o with rfl | z
   . show .inr {0,FL _}
   . show absurd z (h c)
  | some b=>
   by_cases q:a.1<b.1\/(a.1=b.1/\a.2<=b.2)
   . show{some a,zX,λc o=>?_};rcases za.mp o with rfl | z
     . show .inr {0,FL _}
     . let:=h.2 c z
       lia
   . show{some b,zd _ h.1,λc o=>?_};rcases za.mp o with rfl | z
     . grind
     . show h.2 c z
def Na (hf:Bx fs):∃lm,B3 (Cd es fs) lm:=by let{lm,h}:=Y8 (es.filterMap (CQ fs));show{lm,h.congr (JG hf)}
def Fv.zero (K:Fv n es):∃e,es.filter (λe=>decide (e.l=0))=[e]:=by
 let h:=K.one;rw[List.countP_map,List.countP_eq_length_filter] at h;let e:(λe:En=>decide (e.l=0))=((λx:Int=>x==0)∘λx:En=>x.l):=by funext x;change decide (x.l=0)=(x.l==0);rw[Gd,F7,beq_iff_eq]
 rw[<-e] at h;show List.length_eq_one_iff.mp h
def BI {α:Type}(l:List α)(ok:α->Prop)(dat:α->PyData):Option PyData->Prop
 | none=>∀x∈l,ok x
 | some d=>∃(m:Nat)(x:α),l[m]?=some x/\¬ ok x/\d=dat x/\∀(k:Nat)(y:α),k<m->l[k]?=some y->ok y
def BI.uniq :∀{a b:Option PyData},BI l ok dat a->BI l ok dat b->a=b:=by
 intro a b h h';cases a with
 | none=>
  cases b with
  | none=>rfl
  | some=>let{_,x,o,no,_}:=h';show absurd (h x (zQ o)) no
 | some=>
  let{m,x,o,no,e,a}:=h;cases b with
  | none=>show absurd (h' x (zQ o)) no
  | some=>
   let{J,U,I,C,e',a'}:=h';rcases Nat.lt_trichotomy m J with z | z | z
   . show absurd (a' m x z o) no
   . subst z;rw[o] at I;ext I;rw[e,e']
   . show absurd (a J U z I) C
def OI (o:List (List En))(i:Nat):Prop:=∀e r,(o.getD i []).filter (λe=>decide (e.l=0))=e::r->e.h=i
def Iu (o:List (List En)):Option PyData->Prop:=BI (List.range o.length) (OI o) (λi=>.int i)
meta def Fb (x:Nat×En):PyData:=.tuple [.int x.1,.int x.2.h]
def NJ (ts:List T3)(o:List (List En)):Option PyData->Prop:=BI (Bu o o.length) (λx=>Dd ts o x.1 x.2) Fb
def Rr (ts:List T3)(o:List (List En)):Option PyData->Prop:=BI (Bu o o.length) (λx=>NK ts o x.1 x.2) Fb
meta def R1:Option Int->Option Int->Int->Bool
 | none,_,_=>false
 | some _,none,_=>true
 | some d,some c,l=>decide (d+l<c)
inductive Vt (ts:List T3)(js:List (List En))(u:Nat)(v:Nat)(w:Nat):Prop
 | mk:∀t lv lw,(An ts v w t)->(B3 (Cd (js.getD v []) (js.getD u [])) lv)->(B3 (Cd (js.getD w []) (js.getD u [])) lw)->(R1 (lv.map (·.1)) (lw.map (·.1)) t=true)->Vt ts js u v w
def Dn (ts:List T3)(o:List (List En))(u v w:Nat):Prop:=Vt ts o u v w
def DJ (ts:List T3)(o:List (List En)):Option PyData->Prop
 | none=>∀u v w:Nat,u<o.length->v<o.length->w<o.length->¬ Dn ts o u v w
 | some d=>∃u v w:Nat,u<o.length/\v<o.length/\w<o.length/\Dn ts o u v w/\d=.tuple [.int u,.int v,.int w]/\∀J C I:Nat,(J<u\/(J=u/\(C<v\/(C=v/\I<w))))->C<o.length->I<o.length->¬ Dn ts o J C I
def DJ.uniq (h:DJ ts js a)(h':DJ ts js b):a=b:=by
 cases a with
 | none=>cases b with
  | none=>rfl
  | some=>let{u,v,w,U,I,hw,g,_}:=h';show absurd g (h u v w U I hw)
 | some=>
  let{u,v,w,U,I,hw,g,e,a}:=h;cases b with
  | none=>show absurd g (h' u v w U I hw)
  | some=>
   let{C,o,J,hu',mz,nH,g',e',a'}:=h';by_cases c:u=C/\v=o/\w=J
   . let{0,3}:=c;rw[e,e']
   . by_cases l:C<u\/(C=u/\(o<v\/(o=v/\J<w)))
     . show absurd g' (a C o J l mz nH)
     . show absurd g (a' u v w (by grind) I hw)
inductive Eg (ts:List T3)(js:List (List En)):Option (Str×PyData)->Prop
 | own (d:PyData)(h:Iu js (some d)):Eg ts js (some ("own",d))
 | up (d:PyData)(o:Iu js none)(h:NJ ts js (some d)):Eg ts js (some ("up",d))
 | tie (d:PyData)(o:Iu js none)(u:NJ ts js none)(h:DJ ts js (some d)):Eg ts js (some ("tie",d))
 | down (d:PyData)(o:Iu js none)(u:NJ ts js none)(t:DJ ts js none)(h:Rr ts js (some d)):Eg ts js (some ("down",d))
 | none (o:Iu js none)(u:NJ ts js none)(t:DJ ts js none)(h:Rr ts js none):Eg ts js Option.none
def Eg.uniq (x:Eg ts js a)(y:Eg ts js b):a=b:=by
 cases x with
 | own d h=>cases y with
  | own C h'=>cases BI.uniq h h';rfl
  | up _ o _=>cases BI.uniq h o
  | tie _ o _ _=>cases BI.uniq h o
  | down _ o _ _ _=>cases BI.uniq h o
  | none o _ _ _=>cases BI.uniq h o
 | up d o h=>cases y with
  | own C h'=>cases BI.uniq o h'
  | up C _ h'=>cases BI.uniq h h';rfl
  | tie _ _ u _=>cases BI.uniq h u
  | down _ _ u _ _=>cases BI.uniq h u
  | none _ u _ _=>cases BI.uniq h u
 | tie d o u h=>cases y with
  | own C h'=>cases BI.uniq o h'
  | up C _ h'=>cases BI.uniq u h'
  | tie C _ _ h'=>cases DJ.uniq h h';rfl
  | down _ _ _ t _=>cases DJ.uniq h t
  | none _ _ t _=>cases DJ.uniq h t
 | down d o u t h=>cases y with
  | own C h'=>cases BI.uniq o h'
  | up C _ h'=>cases BI.uniq u h'
  | tie C _ _ h'=>cases DJ.uniq t h'
  | down C _ _ _ h'=>cases BI.uniq h h';rfl
  | none _ _ _ C=>cases BI.uniq h C
 | none o u t d=>cases y with
  | own C h'=>cases BI.uniq o h'
  | up C _ h'=>cases BI.uniq u h'
  | tie C _ _ h'=>cases DJ.uniq t h'
  | down C _ _ _ h'=>cases BI.uniq d h'
  | none _ _ _ _=>rfl
inductive Ck (n:Int)(ts:List T3)(d:PyData):Option (Str×PyData)->Prop
 | shape (h:FW n d=false):Ck n ts d (some ("shape",.none))
 | lab (js:List (List En))(f:Option (Str×PyData))(h:FW n d=true)(e:d=CN js)(l:Eg ts js f):Ck n ts d f
def Ck.uniq (x:Ck n ts d a)(y:Ck n ts d b):a=b:=by
 cases x with
 | shape h=>cases y with
  | shape _=>rfl
  | lab _ _ h' _ _=>rw[h] at h';ext h'
 | lab J f h e l=>cases y with
  | shape h'=>rw[h] at h';ext h'
  | lab I U _ C o=>cases UB (e.symm.trans C);show l.uniq o
structure Gr (H:Hp)(wa la:Addr)(n:Int)(ts:List T3)(js:List (List En)):Prop where
 wb:Ap H wa n ts
 lb:A4 H la js
 kd:DO n js
def Gr.same (h:Gr H wa la n ts js)(s:AE H H'):Gr H' wa la n ts js:={h.wb.keep s,h.lb.keep λb o e=>s _ _ e,h.kd}
inductive Xh (R:List T3->List (List En)->Nat->En->Prop)(vs:List V)(H:Hp)(Q:VK):Prop
 | mk:∀(wa la a:Addr)(i:Nat)(n:Int)(ts:List T3)(js:List (List En))(e:En),(vs=[.ref wa,.ref la,.int i,.ref a])->(Gr H wa la n ts js)->(H a=some (.tup (eV e)))->(Kj js i e)->(∀(b:Bool) H',(b=true↔R ts js i e)->AE H H'->Q (.bl b) H')->Xh R vs H Q
def KR (R:List T3->List (List En)->Nat->En->Prop):Sp:=λo H Q _=>Xh R o H Q
inductive WL (G:List T3->List (List En)->Option PyData->Prop)(vs:List V)(H:Hp)(Q:VK):Prop
 | mk:∀(wa la:Addr)(n:Int)(ts:List T3)(js:List (List En)),(vs=[.ref wa,.ref la])->(Gr H wa la n ts js)->(∀(o:Option PyData) v H',G ts js o->AX H' v (o.getD .none)->AE H H'->Q v H')->WL G vs H Q
def Qo (G:List T3->List (List En)->Option PyData->Prop):Sp:=λo H Q _=>WL G o H Q
inductive Vl (vs:List V)(H:Hp)(Q:VK):Prop
 | mk:∀(wa la:Addr)(n:Int)(ts:List T3)(js:List (List En)),(vs=[.ref la])->(Gr H wa la n ts js)->(∀(o:Option PyData) v H',Iu js o->AX H' v (o.getD .none)->AE H H'->Q v H')->Vl vs H Q
def VD:Sp:=λo H Q _=>Vl o H Q
inductive VY (vs:List V)(H:Hp)(Q:VK):Prop
 | mk:∀(x y:Option Int)(l:Int),(vs=[oV x,oV y,.int l])->(Q (.bl (R1 x y l)) H)->VY vs H Q
def UM:Sp:=λo H Q _=>VY o H Q
inductive aV (C:Addr)(vs:List V)(H:Hp)(Q:VK)(E:XK):Prop
 | mk:∀(x:Str)(v:V),(vs=[.str x,v])->((v=.non->Q .non H))->((v ≠ .non->∀tt dx,H tt=none->H dx=none->tt≠dx->E (.ref C) (some dx) (upd (upd H tt (.tup [.str x,v])) dx (dO dx [("word",.str x),("at",v)]))))->aV C vs H Q E
def KY (C:Addr):Sp:=λo H Q E=>aV C o H Q E
def Gr.at (h:Gr H wa la n ts js)(U:0<=p)(J:p<n):∃(as:List Addr)(c:Addr),H la=some (.tup (as.map V.ref))/\(as.map V.ref)[p.toNat]?=⇑c/\p.toNat<js.length/\A1 H c (js.getD p.toNat [])/\Fv n (js.getD p.toNat []):=by
 let{as,C,lM,I}:=h.lb;let nM:=h.kd.ln;let o:p.toNat<as.length:=()
 let{es,he,L}:=I p.toNat as[p.toNat] (zB o);let e:js.getD p.toNat []=es:=by rw[zF,he];rfl
 show{as,as[p.toNat],C,by rw[zM,zB o];rfl,(),by rwa[e],h.kd.at ()}
def Ly:AR ["web","labels","place","entry","tie","above"] R9.p (defScope R9.s):=Aa
def PN:AC P w K mg base 3 R9 (KR Dd):=λwz=>by
 show wz.Ur.okZ Ly λ_ _ A _ _ H vs Q E hr h=>?_;let{wa,la,a,i,n,ts,js,e,0,I,ha,fe,k}:=h;let{_,8,G}:=id I.wb;let{p,d,U,ed,p0,p1,_}:=((I.kd.at fe.hi).ent e fe.mem).far fe.far;let hev:eV e=[.int e.h,.int e.l,.int p,oV e.d]:=by unfold eV;rw[U];rfl
 show{_,zT (AO (i:=4) Ly.nd (AG (Zv wz) hr (zD (pv 0) (zD (pv 2) (zD (zv AV (pv 3) zg) zN)))))
  (zT (AO (i:=5) Ly.nd (AG (Lh wz) hr (zD (zv AV (pv 1) (zv AV (pv 3) zg)) (zD (zv AV (pv 3) zg) zN))))
  (zc (AL (CD (Bt GU (pv 4) As (AH _)) (CD (Bt GU (pv 5) As (AH _)) (Ct (Bt BH (zv AV (pv 5) zg) (AQ Dh (zv AV (pv 3) zg) (pv 4)) (AH _)))))))),?_}
 rw[hev] at ha;show{1,4,a,2,.int p,3,AB.of ha,0,wa,n,ts,i,p,0,I.wb,λr H1 s1 J=>?_};let{as,c,h1,h2,hp,L3,K3}:=(I.same s1).at p0 p1;let oB:=s1 _ _ ha;show{4,a,2,.int p,3,AB.of oB,0,la,2,.ref c,3,AB.of h1,CM p0 h2,1,a,2,.int e.h,3,AB.of oB,0,c,_,e.h,0,L3,(λz=>?_),λg a' hg lG=>?_}
 . let no:¬ Dd ts js i e:=λ⟨u,t,f,o,_,hf,fh,_⟩=>by rw[U] at o;ext o;show Vo.mp z f hf fh
   rcases J with ⟨l,hl,rfl⟩ | ⟨nt,rfl⟩
   . show{7,Aj (by rfl) ?_};show{7,Ak (by rfl) (k false H1 {(λz=>by ext z),λz=>absurd z no} s1)}
   . show{7,Ak (by rfl) (k false H1 {(λz=>by ext z),λz=>absurd z no} s1)}
 . let{gm,gh}:=(M7 K3.hub).mp hg;rcases J with ⟨l,hl,rfl⟩ | ⟨nt,rfl⟩
   . show{7,Aj (by rfl) ?_};show{7,Aj (by rfl) ?_};show{1,a',2,.int g.l,3,AB.of lG,0,1,a,2,.int e.l,3,AB.of oB,0,1,5,0,?_};show k _ H1 {λz=>?_,λ⟨u,t,f,o,ht,hf,fh,fl⟩=>?_} s1
     . let z':=of_decide_eq_true z;injection z' with z';show⟨p,l,g,U,hl,gm,gh,z'⟩
     . rw[U] at o;ext o;obtain rfl:=G.uniq hl ht;let:Bo (js.getD p.toNat []) e.h=some f:=(M7 K3.hub).mpr ⟨hf,fh⟩;rw[hg] at this;ext this;show zO (by rw[fl])
   . show{7,Ak (by rfl) (k false H1 {(λz=>by ext z),λ⟨u,t,f,o,ht,_⟩=>?_} s1)};rw[U] at o;ext o;show absurd ht (nt t)
def Pb:AR ["web","labels","place","entry","tie"] R0.p (defScope R0.s):=Aa
def Py:AC P w K mg base 3 R0 (KR NK):=λwz=>by
 show wz.Dr.okZ Pb λ_ _ A _ _ H vs Q E hr h=>?_;let{wa,la,a,i,n,ts,js,e,0,I,ha,U,k}:=h;let{_,8,G}:=id I.wb;let{u,p,eu,ed,2,p0,p1}:=((I.kd.at U.hi).ent e U.mem).far U.far;let nM:=I.kd.ln;let hi:=U.hi;let hev:eV e=[.int e.h,.int e.l,oV e.u,.int p]:=by unfold eV;rw[ed];rfl
 show{_,zT (AO (i:=4) Pb.nd (AG (Zv wz) hr (zD (pv 0) (zD (zv AV (pv 3) zg) (zD (zv AV (pv 3) zg) zN)))))
  (zc (AL (CD (Bt GU (pv 4) As (AH _)) (Ct (Bt BH (AG (Zk wz) hr (zD (zv AV (pv 1) (zv AV (pv 3) zg)) (zD (zv AV (pv 1) (pv 2)) zN))) (AQ Dh (zv AV (pv 3) zg) (pv 4)) (AH _)))))),?_}
 rw[hev] at ha;show{4,a,2,.int e.h,3,AB.of ha,0,1,a,2,.int p,3,AB.of ha,0,wa,n,ts,e.h,p,0,I.wb,λr H1 s1 hr1=>?_};let oB:=s1 _ _ ha;rcases hr1 with ⟨l,hl,rfl⟩ | ⟨nt,rfl⟩
 . let{as,ax,h1,gx,hp,lx,Kx}:=(I.same s1).at p0 p1;let{as2,ay,o,gy,k7,ly,Ky}:=(I.same s1).at (show (0:Int)<=i by lia) (show (i:Int)<n by grind);rw[show ((i:Int)).toNat=i by lia] at gy k7 ly Ky;rw[h1] at o;let e12:as.map V.ref=as2.map V.ref:=by injection o with z;injection z
   rw[<-e12] at gy;show{7,Aj (by rfl) ?_};show{4,a,2,.int p,3,AB.of oB,0,la,2,.ref ax,3,AB.of h1,CM p0 gx,4,la,2,.ref ay,3,AB.of h1,CM () gy,ax,ay,6,lx,ly,Ky.hub,λlm H2 s2 hm=>?_};let nE:=s1.trans s2;show{1,a,2,.int e.l,3,AB.of (nE _ _ ha),0,1,5,by ext lm <;> rfl,?_};show k _ H2 {λz=>?_,λ⟨d,t,c,hd,ht,hm',hc⟩=>?_} nE
   . let J:=of_decide_eq_true z;cases lm with
     | none=>ext J
     | some c=>injection (show V.int c.1=V.int (e.l-l) from J) with J;show⟨p,l,c,ed,hl,hm,J⟩
   . rw[ed] at hd;ext hd;obtain rfl:=G.uniq hl ht;obtain rfl:=hm.uniq hm';show zO (by change V.int c.1=_;rw[hc])
 . show{7,Ak (by rfl) (k false H1 {(λz=>by ext z),λ⟨d,t,c,hd,ht,_⟩=>?_} s1)};rw[ed] at hd;ext hd;show absurd ht (nt t)
def Lv:AR QK Rv.p (defScope Rv.s):=Aa
def M6 :∀{n i:Nat}{e:En},(i,e)∈Bu js n->e.l≠0
 | 0,_,_,h=>by simp[Bu] at h
 | n+1,i,e,h=>by
  rcases zr.mp (show (i,e)∈Bu js n++_ from h) with z | z
  . show M6 z
  . let{x,o,ex}:=zk.mp z;simp only[Prod.mk.injEq] at ex;let{3}:=ex;simpa using (Dg.mp o).2
def Zm (F:Fh K mg s)(S:AR QK s.p (defScope s.s))(hl:s.p.length=2)
 (h:∀{f j9 A outer z H E},A6 3 (A.deeper (PyProof.Rows.envOfC s.x (defScope s.s) (Shared.heap z).objs.size f j9))->CC (C4 DQ P w K mg base QK s.x (defScope s.s) f j9 A outer z H E).nox (defBody s.s) (QD (Ku (Sz K (NV Wq [] E0 (Dt (Cn 1) Iw))) (MD K 2 (SG (GA 2) (SG (GA 3) QB))) (Ov (PL (tB (NV (KR R) [] E0 (Dt (Cn 0) (Dt (Cn 1) (Dt (Cn 2) (Dt (Cn 3) Iw))))))) (MU (Fe (Dt (Cn 2) (Dt (GG (Fd K) (Cn 3) (tC (.int 0))) Iw)))) Hy)) (MU (tC .non)))):Fz P w K mg base 4 s (Qo λts o=>BI (Bu o o.length) (λx=>R ts o x.1 x.2) Fb):=by
 show F.okZ S (len:=λ_ _ _ _ h=>by ext h;subst_vars;show hl.symm) λ_ _ A _ _ H vs Q E hr g=>{_,h hr,?_};let{U,J,n,ts,o,0,I,k}:=g;let{_,8,G}:=id I.wb;let hn:=G.n24;let hl:=I.kd.ln;show{1,J,o,0,I.lb,(),λes kB=>?_,λD ys H1 s1 _ hD FA=>?_}
 . let:=(I.kd.kd es kB).len
   lia
 show{D,0,{_,AD.of hD},Jf (K:=K) (a:=D) (xs:=ys) (λj σ H2=>Es λ(v2 C:Option V)=>σ=[⇑U,⇑J,v2,C]/\AE H1 H2/\∀i e,(i,e)∈(Bu o o.length).take j->R ts o i e) {6,AE.refl _,(λi e z=>by rw[List.take_zero] at z;ext z)} (λj σ H2 _ z=>?_) (λj x σ H2 hx z=>?_) (λσ H2 z=>?_)}
 . let{_,2,s2,_}:=z;show AD.of (s2 _ _ hD)
 . let{v2,C,0,s2,all}:=z;let{c,a,i,e,0,hf,hc,ha}:=FA.2 j x hx;let hm:=zQ hf;let{m1,m2}:=GN hm;let fe:Kj o i e:={m1,m2,M6 hm};show{c,1,AB.of (s2 _ _ hc),0,6,5,?_};show{4,4,U,J,a,i,n,ts,o,e,0,(I.same s1).same s2,s2 _ _ ha,fe,λb H3 hb s3=>?_};show{b,0,?_};cases b with
   | true=>
    show Ab {6,s2.trans s3,λi' e' z=>?_};rw[zt,hf] at z;rcases zr.mp z with z | z
    . show all i' e' z
    . let:=zm.mp z;injection this with q1 q2;subst q1 q2;show hb.mp rfl
   | false=>show AZ ?_;show{4,a,2,.int e.h,3,AB.of (s3 _ _ (s2 _ _ ha)),0,Ad,λq hq=>?_};show k (some (Fb (i,e))) _ _ {j,(i,e),hf,(λz=>by cases hb.mpr z),0,λk' y hk hy=>all y.1 y.2 ?_} (.tup zI (.cons (.int _) (.cons (.int _) .nil))) (s1.trans (s2.trans (s3.trans (zH hq))));show zQ (i:=k') (by rwa[List.getElem?_take,if_pos hk])
 . let{v2,C,0,s2,all}:=z;show k none _ _ (λx hx=>all x.1 x.2 ?_) .non (s1.trans s2);rwa[FA.1,zb (zJ _)]
def IF (o:Ws P w K mg base C):Fz P w K mg base 4 Rv (Qo NJ)/\Fz P w K mg base 4 av (Qo Rr):=by
 show{Zm o.Uf Lv rfl λI=>?_,Zm o.Df Aa rfl λI=>?_}<;>show zT (A0 (Du (AG (i9 o) I (zD (pv 1) zN))) (C0 rfl (zx (AY (i:=2) Lv.nd) (zx (AY (i:=3) Lv.nd) CY)))
  (zc (Ac (DA (CG (AG (by first|show PN o|show Py o) I (zD (pv 0) (zD (pv 1) (zD (pv 2) (zD (pv 3) zN))))))) (zc (AL (AU (zD (pv 2) (zD (zv AV (pv 3) zg) zN))))) Ae)))
  (zc (AL As))
def MW:AR ["labels","place","label"] Rp.p (defScope Rp.s):=Aa
def OJ:AC P w K mg base 2 Rp VD:=λwz=>by
 show wz.Of.okZ MW λ_ _ A _ _ H vs Q E hr h=>?_;let{wa,la,n,ts,js,0,I,k}:=h;let{_,8,G}:=id I.wb;let{as,hl,lM,hA}:=id I.lb;show{_,zT (A0 (S1 (by rfl) wz.mEnum (zD (pv 0) zN)) (C0 rfl (zx (AY (i:=1) MW.nd) (zx (AY (i:=2) MW.nd) CY)))
  (zc (Ac (zw Ip (AG (LS wz) hr (zD (pv 2) zN)) (pv 1) (AH _)) (zc (AL (pv 1))) Ae)))
  (zc (AL As)),?_}
 let gd:∀ {i es},js[i]?=some es->js.getD i []=es:=λ{i es} he=>by rw[zF,he];rfl
 show{1,la,0,{_,AB.of hl},TK (K:=K) (a:=la) (xs:=as.map V.ref) (λi σ H2=>Es λ(v1 v2:Option V)=>σ=[some (.ref la),v1,v2]/\AE H H2/\∀(j:Nat) e r,j<i->(js.getD j []).filter (λe=>decide (e.l=0))=e::r->e.h=j) {6,AE.refl _,(λj e r z=>absurd z (C2 _))} (λi σ H2 _ ⟨_,_,_,s2,_⟩=>AB.of (s2 _ _ hl)) (λi x σ H2 Tp U z hTp=>?_) (λσ H2 z=>?_)}
 . let{v1,v2,0,s2,all}:=z;rw[zM] at U;cases ha:as[i]? with
   | none=>rw[ha] at U;cases U
   | some a=>
   rw[ha] at U;cases U;let{es,he,L}:=hA i a ha;let hi:i<js.length:=(zE.mp he).1;let{e,hf}:=(I.kd.at hi).zero;rw[gd he] at hf;let s3:=s2.trans (zH (o:=.tup [.int (i:Int),.ref a]) hTp);show{Tp,1,AB.of zI,0,6,5,?_};generalize upd H2 Tp (.tup [.int (i:Int),.ref a])=H3 at s3 ⊢;show{1,a,es,e,[],0,L.same s3,hf,λH4 s4=>?_};show{7,?_};by_cases c:e.h=i
   . show Ak (by rw[c];simp) {6,s3.trans s4,λj e' r' hj J=>?_};by_cases q:j=i
     . subst q;rw[gd he,hf] at J;cases J;show c
     . show all j e' r' () J
   . show Aj (by simp[c]) {1,k (some (.int i)) _ _ {i,i,List.getElem?_range hi,(λz=>c (z e [] (by rwa[gd he]))),0,λk' y hk hy e' r' J=>?_} (.int _) (s3.trans s4)};let{mO,0}:=zE.mp hy;rw[List.getElem_range] at J ⊢;show all k' e' r' hk J
 . let{v1,v2,0,s2,all}:=z;show k none _ _ (λi hi e r hf=>all i e r ?_ hf) .non s2;rw[zC,lM];show Cs.mp hi
def UT:AR ["here","there","long"] Ry.p (defScope Ry.s):=Aa
def QE:AC P w K mg base 1 Ry UM:=λo=>by
 show o.Gm.okZ UT λ_ _ A _ _ H I Q E J h=>?_;let{x,y,l,0,k}:=h;show{_,zT (Ac (zw Dl (pv 0) As (AH _)) (zc (AL E4)) Ae)
  (zc (AL (Im (Bt Dl (pv 1) As (AH _)) (Ct (Bt EN (pv 1) (AQ Br (pv 0) (pv 2)) (AH _)))))),?_}
 cases x with
 | none=>show{7,Aj (by rfl) k}
 | some d=>
  show{7,Ak (by rfl) ?_};cases y with
  | none=>show{7,Aj (by rfl) k}
  | some c=>show{7,Ak (by rfl) ?_};show{1,4,5,5,k}
def JX:AR ["web","labels","u","label","row","v","w","long"] Ro.p (defScope Ro.s):=Aa
def Oe:AC P w K mg base 3 Ro (Qo DJ):=λwz=>by
 show wz.Tf.okZ JX λ_ _ A _ _ H vs Q E hr h=>?_;let{wa,la,n,ts,js,0,I,k}:=h;let{ta,tys,kF,2,G}:=id I.wb;let lS:=G.n1;let hn:=G.n24;let nM:=I.kd.ln;let{as,hl,lM,hA}:=id I.lb;show{_,zT (A0 (S1 (by rfl) wz.mEnum (zD (pv 1) zN)) (C0 rfl (zx (AY (i:=2) JX.nd) (zx (Bc (i:=3) JX.nd rfl (Or.inr rfl)) CY)))
  (zT (DW (i:=4) (own:=["other"]) (cn:=["label"]) (ci:=[3]) JX.nd rfl (Or.inl rfl) rfl (Ax rfl rfl) {0,3,trivial} rfl (BB (pv 1)) (λ_ _ _ _=>Aw) (λ_ _ _ _=>BM)
   (λ_ _ _ _=>AG (Zk wz) hr (zD (pv 0) (zD (pv 1) zN))))
  (zc (A0 (BX rfl wz.mRange (zD (zv AV (pv 0) zg) zN)) (AY (i:=5) JX.nd)
   (zc (A0 (Du (AG (XN wz) hr (zD (pv 0) (zD (pv 5) zN)))) (C0 rfl (zx (AY (i:=6) JX.nd) (zx (AY (i:=7) JX.nd) CY)))
    (zc (Ac (CG (AG (QE wz) hr (zD (zv AS (pv 4) (pv 5)) (zD (zv AS (pv 4) (pv 6)) (zD (pv 7) zN))))) (zc (AL (AU (zD (pv 2) (zD (pv 5) (zD (pv 6) zN)))))) Ae))))))))
  (zc (AL As)),?_}
 let gd:∀ {i es},js[i]?=some es->js.getD i []=es:=λ{i es} he=>by rw[zF,he];rfl
 show{1,la,0,{_,AB.of hl},TK (K:=K) (a:=la) (xs:=as.map V.ref) (λi σ H2=>PY λ(v2 v3 v4 v5 v6 v7:Option V)=>σ=[⇑wa,⇑la,v2,v3,v4,v5,v6,v7]/\AE H H2/\∀u v w:Nat,u<i->v<js.length->w<js.length->¬ Dn ts js u v w) {8,6,AE.refl _,(λu v w z=>absurd z (C2 _))} (λi σ H2 _ z=>by let{_,2,8,s2,_}:=z;show AB.of (s2 _ _ hl)) (λu x σ H2 Tp U z hTp=>?_) (λσ H2 z=>?_)}
 . let{v2,v3,v4,v5,v6,v7,0,s2,all}:=z;rw[zM] at U;cases ha:as[u]? with
   | none=>rw[ha] at U;ext U
   | some a=>
   rw[ha] at U;ext U;let{fs,kR,Lu}:=hA u a ha;let hul:u<js.length:=(zE.mp kR).1;let gu:=I.kd.at hul;rw[gd kR] at gu;let s3:=s2.trans (zH (o:=.tup [.int (u:Int),.ref a]) hTp);show{Tp,1,AB.of zI,0,6,5,?_};generalize upd H2 Tp (.tup [.int (u:Int),.ref a])=H3 at s3 ⊢;show{1,la,0,{_,AB.of (s3 _ _ hl)},[.ref a],0,λD hD=>?_};show BS (a:=la) (xs:=as.map V.ref) (λi ys H4=>∃os:List (Option Int),ys=os.map oV/\os.length=i/\(∀(j:Nat) o,os[j]?=some o->∃lm,B3 (Cd (js.getD j []) fs) lm/\o=lm.map (·.1))/\i<=js.length/\AE H3 H4/\H4 D=some (.lst ys)) {[],3,(λj o e=>by simp at e),zj _,zH hD,zI} (λi ys H4 z=>?_) (λi ys H4 z=>?_) (λi x ys H4 U z=>?_) (λys H4 z=>?_)
   . let{_,8,s4,_}:=z;show AB.of (s4 _ _ (s3 _ _ hl))
   . let{os,0,ho,_,hi,_}:=z;rw[zC];show BL ()
   . let{os,0,ho,ni,hi,s4,h4}:=z;rw[zM] at U;cases hb:as[i]? with
     | none=>rw[hb] at U;ext U
     | some b=>
     rw[hb] at U;ext U;let{es,kB,Li}:=hA i b hb;let nV:=s3.trans s4;show{{3},?_};show BW ?_;show{4,b,a,es,fs,0,Li.same nV,Lu.same nV,gu.hub,λlm H5 s5 hm=>?_};show{s5 _ _ h4,os++[lm.map (·.1)],by rw[zP];rfl,by rw[zK,ho];rfl,λj o e=>?_,(zE.mp kB).1,Ar (s4.trans s5) hD,zI};by_cases c:j<os.length
     . rw[zV c] at e;show ni j o e
     . rw[zS ()] at e;let hj:j=i:=by
        let:=(zE.mp e).1;rw[List.length_singleton] at this
        lia
       subst hj;rw[show j-os.length=0 by lia] at e;ext e;show{lm,by rwa[gd kB],0}
   . let{os,0,ho,ni,_,s4,h4}:=z;rw[zC,lM] at ho;let nV:=s3.trans s4;let at':∀x:Int,0<=x->x<n->∃lm,By (os.map oV) x=some (oV (lm.map (·.1)))/\B3 (Cd (js.getD x.toNat []) (js.getD u [])) lm:=λx x0 x1=>by
      let U:x.toNat<os.length:=()
      let{lm,h1,h2}:=ni x.toNat _ (zB U);show{lm,CM x0 (by rw[zM,zB U,h2];rfl),by rwa[gd kR]}
     show{1,wa,9,AB.of (nV _ _ kF),0,n,0,(),(),CL (lo:=0) (n:=n.toNat) (λi σ H5=>K7 λ(v5 v6 v7:Option V)=>σ=[⇑wa,⇑la,some (.int u),⇑a,⇑D,v5,v6,v7]/\AE H4 H5/\∀v w:Nat,v<i->w<js.length->¬ Dn ts js u v w) {_,6,AE.refl _,(λv w z=>absurd z (C2 _))} (λv σ H5 hv z=>?_) (λσ H5 z=>?_)}
     . let{w5,w6,w7,0,s5,allv}:=z;rw[Bi];let s35:=nV.trans s5;show{4,wa,n,ts,v,0,I.wb.keep s35,λl zs ms H6 s6 _ hl6 TA hp hris=>?_};show{l,0,{_,AD.of hl6},Jf (K:=K) (a:=l) (xs:=zs) (λj σ H7=>Es λ(v6 v7:Option V)=>σ=[⇑wa,⇑la,some (.int u),⇑a,⇑D,some (.int v),v6,v7]/\AE H6 H7/\∀(r t:Int),[r,t]∈ms.take j->¬ Dn ts js u v r.toNat) {6,AE.refl _,(λr t z=>by rw[List.take_zero] at z;ext z)} (λj σ H7 _ z=>?_) (λj x σ H7 U z=>?_) (λσ H7 z=>?_)}
       . let{_,2,s7,_}:=z;show AD.of (s7 _ _ hl6)
       . let{x6,x7,0,s7,allt}:=z;let{ya,ky,0,kQ,nY,_}:=TA.get U;let{r,c,0,kc}:=Mt.mp (hp.mem_iff.mp (zQ kQ));obtain⟨r0,r1⟩:0<=r/\r<n:=(Way.one kc).in_ G () ();let h47:H7 D=some (.lst (os.map oV)):=s7 _ _ (s6 _ _ (s5 _ _ h4));let{o1,a1,L1}:=at' v () ();let{o2,a2,L2}:=at' r r0 r1;rw[show ((v:Int)).toNat=v by lia] at L1;show{ya,1,AB.of (s7 _ _ nY),0,6,5,?_};show{4,D,9,AD.of h47,a1,4,D,9,AD.of h47,a2,1,o1.map (·.1),o2.map (·.1),c,0,?_};show{1,?_};cases hg:R1 (o1.map (·.1)) (o2.map (·.1)) c with
         | false=>
          show Ab {6,s7,λr' t' z=>?_};rw[zt,kQ] at z;rcases zr.mp z with z | z
          . show allt r' t' z
          . let:=zm.mp z;injection this with q1 q2;injection q2 with q2 _;subst q1 q2;rintro ⟨t2,lv,lw,ad,hlv,hlw,g⟩;rw[show ((r'.toNat:Nat):Int)=r' by lia] at ad;rw[hlv.uniq L1,hlw.uniq L2,G.uniq ad kc,hg] at g;ext g
         | true=>
          show AZ {1,4,Eu,λq hq=>?_};let rt:((r.toNat:Nat):Int)=r:=()
          show k (some (.tuple [.int u,.int v,.int r.toNat])) _ _ {u,v,r.toNat,hul,(),(),{c,2,by rwa[rt],L1,L2,hg},0,λu' v' J l mz nH=>?_} (.tup zI (.cons (.int _) (.cons (.int _) (.cons (by rw[rt];show .int _) .nil)))) (s35.trans (s6.trans (s7.trans (zH hq))));rcases l with l | ⟨rfl,l⟩
          . show all u' v' J l mz nH
          . rcases l with l | ⟨rfl,l⟩
            . show allv v' J l nH
            . intro gr;let{t2,2,ad,_}:=id gr;let nO:[(J:Int),t2]∈ms:=hp.mem_iff.mpr (Mt.mpr {J,t2,0,ad});let{k',nN,ek'}:=zf nO;let lt:k'<j:=by
               rcases Nat.lt_trichotomy k' j with q | q | q
               . show q
               . subst q;rw[zB nN,ek'] at kQ;injection kQ with kQ;injection kQ with h1
                 lia
               . let{hj',ej'}:=zE.mp kQ;let:=Ed.mp hris j k' hj' nN q;rw[ej',ek'] at this;rw[HT.lexLt_cons] at this;let ne:¬ (J:Int)=r:=()
                 rw[if_neg ne] at this;let:=of_decide_eq_false this
                 lia
              let:=allt J t2 (zQ (i:=k') (by rw[List.getElem?_take,if_pos lt,zB nN,ek']));show this (by rwa[show ((J:Int)).toNat=J by lia])
       . let{x6,x7,0,s7,allt}:=z;show{_,6,s5.trans (s6.trans s7),λv' J mz nH=>?_};by_cases q:v'=v
         . subst q;rintro gr;let{t2,2,ad,_}:=id gr;show allt J t2 ?_ (by rwa[show ((J:Int)).toNat=J by lia]);rw[TA.length,zb (zJ _)];show hp.mem_iff.mpr (Mt.mpr {J,t2,0,ad})
         . show allv v' J () nH
     . let{w5,w6,w7,0,s5,allv}:=z;show{8,6,nV.trans s5,λu' v' J hu' mz nH=>?_};by_cases q:u'=u
       . subst q;show allv v' J () nH
       . show all u' v' J () mz nH
 . let{v2,v3,v4,v5,v6,v7,0,s2,all}:=z;show k none _ _ (λu v w hu hv hw=>all u v w ?_ hv hw) .non s2;rwa[zC,lM]
def LV:AR ["word","at"] Rg.p (defScope Rg.s):=Aa
def Q9 (o:Ws P w K mg base C):Ru P w K mg base 3 Rg (KY C):=by
 let{fI,fdI,bI,EI,GI}:=Ic o;show o.Ra.okJ LV λf j9 A outer s H vs Q E hr h=>?_
 . let{x,v,0,J,U}:=h;show{_,zc (Ac (zw GU (pv 1) As (AH _)) (zc (Z1 (E:=E) rfl o.mC EI rfl (GI.mono) hr bI (zD (pv 0) (zD (pv 1) zN)) (λpins σ H s ea tt dx I he hn h0 hE=>ZX I he rfl rfl rfl rfl hn h0 hE))) Ae),?_};show{7,?_};by_cases c:v=.non
   . show Ak (by rw[zO c];rfl) (J c)
   . show Aj (by rw[zW c];rfl) ?_;show{4,6,U c}
def OP (H:Hp)(dx:Addr)(x:Str)(v:V):Prop:=H dx=some (dO dx [("word",.str x),("at",v)])
inductive XD (C:Addr)(vs:List V)(H:Hp)(Q:VK)(E:XK):Prop
 | mk:∀(wa:Addr)(v:V)(d:PyData)(n:Int)(ts:List T3),(vs=[.ref wa,v])->(Ap H wa n ts)->(AX H v d)->((Ck n ts d none->∀H',AE H H'->Q (.bl true) H'))->(∀(x:Str)(e:PyData)(u:V)(dx:Addr)(H':Hp),Ck n ts d (some (x,e))->AE H H'->AX H' u e->OP H' dx x u->E (.ref C) (some dx) H')->XD C vs H Q E
def LF (C:Addr):Sp:=λo H Q E=>XD C o H Q E
def Nf (h:AX H v .none):v=.non:=by ext h;rfl
def Ny (h:AX H v d)(nn:d ≠ .none):v ≠ .non:=λz=>by subst z;ext h;show nn rfl
def BI.nn (h:BI l ok dat (some d))(nn:∀x,dat x ≠ .none):d ≠ .none:=by let{_,x,6,_}:=h;show nn x
def DJ.nn (h:DJ ts js (some d)):d ≠ .none:=by let{_,8,6,_}:=h;intro z;ext z
def Ks:AR ["web","thing"] RY.p (defScope RY.s):=Aa
def iQ (J:Ws P w K mg base C):Ru P w K mg base 7 RY (LF C):=by
 let{fI,fdI,bI,EI,GI}:=Ic J;show J.Lt.okJ Ks λf j9 A outer s H vs Q E hr h=>?_
 . let{wa,v,d,n,ts,0,W,S,kY,kN}:=h;let{ta,tys,kF,2,G}:=id W;let lS:=G.n1;let jz:=G.n24;show{_,zT (Ac (DA (CG (AG (jR J) hr (zD (zv AV (pv 0) zg) (zD (pv 1) zN))))) (zc (Z1 (E:=E) rfl J.mC EI rfl (GI.mono) hr bI (zD Di (zD As zN)) (λpins σ H s ea tt dx I he hn h0 hE=>ZX I he rfl rfl rfl rfl hn h0 hE))) Ae)
    (zT (C1 (RS (Q9 J) hr (zD Di (zD (AG (OJ J) hr (zD (pv 1) zN)) zN))))
    (zT (C1 (RS (Q9 J) hr (zD Di (zD (AG (IF J).1 hr (zD (pv 0) (zD (pv 1) zN))) zN))))
    (zT (C1 (RS (Q9 J) hr (zD Di (zD (AG (Oe J) hr (zD (pv 0) (zD (pv 1) zN))) zN))))
    (zT (C1 (RS (Q9 J) hr (zD Di (zD (AG (IF J).2 hr (zD (pv 0) (zD (pv 1) zN))) zN))))
    (zc (AL E4)))))),?_}
   let fail:∀(x:Str)(u:V)(e:PyData)(H1:Hp),Ck n ts d (some (x,e))->AE H H1->AX H1 u e->∀tt dx,H1 tt=none->H1 dx=none->tt≠dx->E (.ref C) (some dx) (upd (upd H1 tt (.tup [.str x,u])) dx (dO dx [("word",.str x),("at",u)])):=λx u e H1 fo s1 Su tt dx ht hd ne=>by let s2:=(zH (o:=.tup [.str x,u]) ht).trans (zH (o:=dO dx [("word",.str x),("at",u)]) (by rwa[zi (Ne.symm ne)]));show kN _ _ _ _ _ fo (s1.trans s2) (CJ s2 Su) zI
   show{1,wa,9,AB.of kF,0,1,n,v,d,0,(),S,λH1 s1=>?_};show{1,?_};cases cp:FW n d with
   | false=>show AZ ?_;show{6,fail _ _ _ _ (.shape cp) s1 .non}
   | true=>
    show Ab ?_;let{U,0,kd}:=QS cp;let{la,0,LA}:=XH (λes he=>by let:=(kd.kd es he).len;lia) S;let K0:Gr H wa la n ts U:=⟨W,LA,kd⟩;show{1,wa,la,n,ts,U,0,K0.same s1,λo v2 H2 ho S2 s2=>?_};let s02:=s1.trans s2;cases o with
    | some d2=>show{6,(λz=>absurd z (Ny S2 (ho.nn λx z=>by ext z))),λ_=>fail _ _ _ _ (.lab U _ cp rfl (.own d2 ho)) s02 S2}
    | none=>
     cases Nf S2;show{6,λ_=>?_,λz=>absurd rfl z};show{4,wa,la,n,ts,U,0,K0.same s02,λo v3 H3 hp S3 s3=>?_};let s03:=s02.trans s3;cases o with
     | some d3=>show{6,(λz=>absurd z (Ny S3 (hp.nn λx z=>by ext z))),λ_=>fail _ _ _ _ (.lab U _ cp rfl (.up d3 ho hp)) s03 S3}
     | none=>
      cases Nf S3;show{6,λ_=>?_,λz=>absurd rfl z};show{4,wa,la,n,ts,U,0,K0.same s03,λo v4 H4 ht S4 s4=>?_};let mJ:=s03.trans s4;cases o with
      | some d4=>show{6,(λz=>absurd z (Ny S4 ht.nn)),λ_=>fail _ _ _ _ (.lab U _ cp rfl (.tie d4 ho hp ht)) mJ S4}
      | none=>
       cases Nf S4;show{6,λ_=>?_,λz=>absurd rfl z};show{4,wa,la,n,ts,U,0,K0.same mJ,λo v5 H5 hd S5 s5=>?_};let mq:=mJ.trans s5;cases o with
       | some d5=>show{6,(λz=>absurd z (Ny S5 (hd.nn λx z=>by ext z))),λ_=>fail _ _ _ _ (.lab U _ cp rfl (.down d5 ho hp ht hd)) mq S5}
       | none=>cases Nf S5;show{6,λ_=>?_,λz=>absurd rfl z};show kY (.lab U none cp rfl (.none ho hp ht hd)) H5 mq
def D4 (S:List Int):Option Int->Prop
 | none=>S=[]
 | some m=>m∈S/\∀a∈S,m<=a
def D4.uniq (h:D4 S o)(h':D4 S o'):o=o':=by
 cases o with
 | none=>
  cases o' with
  | none=>rfl
  | some m=>rw[show S=[] from h] at h';simp[D4] at h'
 | some m=>
  cases o' with
  | none=>rw[show S=[] from h'] at h;simp[D4] at h
  | some C=>rw[Int.le_antisymm (h.2 _ h'.1) (h'.2 _ h.1)]
meta def G0:List Int->Option Int
 | []=>none
 | a::r=>some (match G0 r with
  | none=>a
  | some b=>min a b)
def QR:∀S,D4 S (G0 S)
 | []=>rfl
 | a::r=>by
  let o:=QR r;change D4 (a::r) (some _);cases e:G0 r with
  | none=>rw[e] at o;let C:r=[]:=o;subst C;show{zX,λx hx=>by rw[zm.mp hx];show FL _}
  | some b=>
   rw[e] at o;show{?_,λx hx=>?_}
   . change min a b∈a::r;by_cases c:a<=b
     . rw[Int.min_eq_left c];show zX
     . rw[Int.min_eq_right ()];show zd _ o.1
   . change min a b<=x;rcases za.mp hx with rfl | hx
     . show Int.min_le_left _ _
     . show Int.le_trans (Int.min_le_right _ _) (o.2 x hx)
meta def sE (es fs:List En):List Int:=(es.filterMap (CQ fs)).map (·.1)
meta def tv (es fs:List En):Option Int:=G0 (sE es fs)
def Y7 (hf:Bx fs):x∈sE es fs↔∃e∈es,∃f∈fs,f.h=e.h/\x=e.l+f.l:=by
 unfold sE;rw[zk];constructor
 . rintro ⟨c,I,rfl⟩;let{e,he,f,o,C,0}:=(JG hf c).mp I;show{e,he,f,o,C,0}
 . rintro ⟨e,he,f,o,C,rfl⟩;show{(e.l+f.l,e.h),(JG hf _).mpr {e,he,f,o,C,0},0}
def D4.congr (h:∀x,x∈S↔x∈T)(m:D4 S o):D4 T o:=by
 cases o with
 | none=>
  let C:S=[]:=m;cases T with
  | nil=>rfl
  | cons t r=>show absurd ((h t).mpr zX) (by rw[C];simp)
 | some v=>show{(h v).mp m.1,λa ha=>m.2 a ((h a).mpr ha)}
def UG (h:D4 (sE es fs) o):o=tv es fs:=h.uniq (QR _)
def TC (hf:Bx fs)(h:B3 (Cd es fs) lm):lm.map (·.1)=tv es fs:=by
 show UG ?_;cases lm with
 | none=>
  change sE es fs=[];unfold sE;cases e:es.filterMap (CQ fs) with
  | nil=>rfl
  | cons c r=>show absurd ((JG hf c).mp (by rw[e];show zX)) (h c)
 | some c=>
  show{zk.mpr {c,(JG hf c).mpr h.1,0},λx I=>?_};let{o,C,0}:=zk.mp I;let:=h.2 o ((JG hf o).mp C);change c.1<=o.1
  lia
def Yz (he:Bx es)(hf:Bx fs):tv es fs=tv fs es:=by
 show D4.uniq (S:=sE fs es) (D4.congr (λx=>?_) (QR (sE es fs))) (QR _);rw[Y7 hf,Y7 he];constructor
 . rintro ⟨e,a,f,b,c,rfl⟩;show{f,b,e,a,c.symm,()}
 . rintro ⟨e,a,f,b,c,rfl⟩;show{f,b,e,a,c.symm,()}
def dG {tl:TE}(o:PE (Nd X pl N' sc yc fp s3 H3) l tl):PI (Nd X pl N' sc yc fp s3 H3) tg l (Jl X.K tl):=BB o
inductive WS (x:V)(y:V)(H:Hp)(Q:VK):Prop
 | mk:∀(a b:Addr)(xs ys:List V),(x=.ref a)->(y=.ref b)->(H a=some (.tup xs))->(H b=some (.tup ys))->(xs.length+ys.length<=sizeLine)->(∀(p:Addr)(H':Hp),AE H H'->H' p=some (.tup (xs++ys))->Q (.ref p) H')->WS x y H Q
def Tg:R2:=λx y H Q=>WS x y H Q
def EV:A9 X (binaryOp .Add) Tg:=λpins s σ H x y v u Q I J C h=>by
 let{a,b,xs,o,3,ha,hb,U,q}:=h;show jM pins s σ H _ _ v u Q I J C {a,b,xs,o,3,AB.of ha,AB.of hb,U,λe=>?_,λ_ e=>?_,λ_ _ p hp=>q p _ (zH hp) zI}
 . subst e;show q b H (AE.refl _) hb
 . subst e;show q a H (AE.refl _) (by rwa[Bq])
inductive WW (x:V)(lo:Option Int)(hi:Option Int)(H:Hp)(Q:VK):Prop
 | mk:∀(a:Addr)(xs:List V),(x=.ref a)->(H a=some (.tup xs))->(∀(p:Addr)(H':Hp),AE H H'->H' p=some (.tup (CA xs lo hi))->Q (.ref p) H')->WW x lo hi H Q
def L7:V->Option Int->Option Int->Hp->VK->Prop:=λx lo hi H Q=>WW x lo hi H Q
def Fx:Ou X L7:=λpins s σ H x v C o lo hi J Q I U hs pl pu h=>by
 let{a,xs,0,ha,q}:=h;show Vm pins s σ H _ v C o lo hi J Q I U hs pl pu {a,xs,0,AB.of ha,λe=>?_,λ_ p hp=>q p _ (zH hp) zI};show q a H (AE.refl _) ?_;let:CA xs lo hi=xs:=by unfold CA;rw[e.1,e.2,List.drop_zero,Nat.sub_zero,zb (zJ _)]
 rwa[this]
meta def Ht (o:List (List En)):List (List (Option Int)):=o.map λa=>o.map λb=>tv a b
inductive V2 (vs:List V)(H:Hp)(Q:VK):Prop
 | mk:∀(p q:Addr)(es fs:List En),(vs=[.ref p,.ref q])->(A1 H p es)->(A1 H q fs)->(Bx fs)->(∀H',AE H H'->Q (oV (tv es fs)) H')->V2 vs H Q
def Og:Sp:=λo H Q _=>V2 o H Q
def fm (h:AD K H a xs)(s:AE H H'):AD K H' a xs:=by
 rcases h with (h | ⟨o,h⟩) | h
 . show .inl (.inl (s _ _ h))
 . show .inl (.inr {o,s _ _ h})
 . show .inr h
def Rh (h:Fg K H a M)(s:AE H H'):Fg K H' a M:=by let{rs,a1,a2,I}:=h;show{rs,fm a1 s,a2,λi r row C o=>s _ _ (I i r row C o)}
def SO:AR ["_law_one","_law_other","_law_longs","_law_some_here"] Gu.p (defScope Gu.s):=Aa
def LI:AC P w K mg base 1 Gu Og:=λwz=>by
 show wz.Lw.okZ SO λ_ _ A _ _ H vs Q E hr h=>?_;let{p,q,es,fs,0,L1,L2',hF,k}:=h;let{as,hp,EA,hl}:=id L1;let{bs,hq,EB,ku}:=id L2';let hu:=Fy hr;let nJ:=hr.units0;show{_,zT (Ez (i:=2) SO.nd rfl (Or.inr rfl) (B5 (Q5 rfl) wz.mDict (zD
  (BU (own:=Fc) (cn:=[]) (ci:=[]) rfl (Ax rfl rfl) trivial rfl (BB (pv 1)) (λ_ _ _ _=>Aw)
   (λ_ _ _ _=>BM) (λ_ _ _ _=>AU (zD (zv CU (pv 0) zg) (zD (zv CU (pv 0) zg) zN)))) zN)))
  (zT (DW (i:=3) (own:=Fc) (cn:=["_law_longs"]) (ci:=[2]) SO.nd rfl (Or.inl rfl) rfl (Ax rfl rfl) {0,3,trivial} rfl (BB (pv 0)) (λ_ _ _ _=>Aw)
   (λ_ _ _ _=>Dw (GS (Nw hu (zv CU (pv 0) zg) (pv 1)))) (λ_ _ _ _=>AQ Br (zv CU (pv 0) zg) (Ep hu (pv 1) (zv CU (pv 0) zg) (λ_ _=>rfl))))
  (zc (AL (NG (zw (Tx nJ) (pv 3) (BR zN) (AH _)) As (Af (gD rfl) wz.mMin (zD (pv 3) zN)))))),?_}
 show{1,q,0,{_,AB.of hq},[],0,λD hD=>?_};show BS (a:=q) (xs:=bs.map V.ref) (λi I U=>EL H U D fs i I) {zj _,0,λj y z=>by simp at z,zH hD,zI} (λi I U h=>?_) (λi I U h=>?_) (λi v I U hv h=>?_) (λI U h=>?_)
 . show AB.of (h.2.2.2.1 _ _ hq)
 . rw[h.2.1];show A5 (by let:=h.1;lia)
 . let{_,2,s4,j8}:=id h;let{a,x,0,hx,ha}:=EB.at hv;show{{3},?_};show BW ?_;show{1,a,2,.int x.h,3,AB.of (s4 _ _ ha),0,1,a,2,.int x.l,3,AB.of (s4 _ _ ha),0,Ad,λc hc=>?_};show{zH hc _ _ j8,h.put hD hx hc}
 let{_,hyl,hys,s4,j8}:=h;rw[zC,EB.1] at hyl;show{D,I,fs.map λe=>(Sum.inl e.h,V.int e.l),0,AD.of j8,{by rw[zC,hyl],λj y hy=>?_},λdd k8=>?_}
 . let{c,e,h1,h2,h3}:=hys j y hy;show{c,Sum.inl e.h,.int e.l,h1,h3,by rw[zM,h2];rfl}
 rw[RI (SX hF λe=>V.int e.l)];let kG:∀x:Int,AW (fs.map λe=>((Sum.inl e.h:AJ),V.int e.l)) (Sum.inl x)=(Bo fs x).map λe=>V.int e.l:=λx=>TM _ x;let s5:AE H (upd U dd (.dK (fs.map λe=>(Sum.inl e.h,V.int e.l)))):=s4.trans (zH k8);let nA:(upd U dd (.dK (fs.map λe=>((Sum.inl e.h:AJ),V.int e.l)))) dd=some (.dK (fs.map λe=>(Sum.inl e.h,V.int e.l))):=zI;generalize upd U dd (.dK (fs.map λe=>((Sum.inl e.h:AJ),V.int e.l)))=H5 at s5 nA ⊢;generalize (fs.map λe=>((Sum.inl e.h:AJ),V.int e.l))=kvs at kG nA;show{1,p,0,{_,AB.of (s5 _ _ hp)},[.ref dd],0,λD2 jx=>?_};show BS (a:=p) (xs:=as.map V.ref) (λi I H6=>I=((((es.take i).filterMap (CQ fs)).map (·.1))).map V.int/\AE H5 H6/\H6 D2=some (.lst I)) {0,zH jx,zI} (λi I H6 h=>?_) (λi I H6 h=>?_) (λi v I H6 hv h=>?_) (λI H6 h=>?_)
 . show AB.of (h.2.1 _ _ (s5 _ _ hp))
 . let{0,_}:=h;rw[zC,zC];show CO (List.length_filterMap_le _ _) (A5 (by rw[ze];lia))
 . let{0,s6,kg}:=h;let{a,x,0,hx,ha}:=EA.at hv;let ha6:=s6 _ _ (s5 _ _ ha);show{{3},?_};show{1,a,2,.int x.h,3,AB.of ha6,0,1,dd,1,Az.k (k:=Sum.inl x.h) (s6 _ _ nA),1,?_};let st:=WZ (CQ fs) hx;let mU:=kG x.h;cases e:Bo fs x.h with
   | none=>
    rw[e] at mU;rw[mU];show Ab ?_;let ec:CQ fs x=none:=by unfold CQ;rw[e];rfl
    show{?_,s6,kg};rw[st,ec];simp
   | some g=>
    rw[e] at mU;let hv3:AW kvs (Sum.inl x.h)=some (.int g.l):=mU;rw[hv3];show AZ ?_;let ec:CQ fs x=some (x.l+g.l,x.h):=by unfold CQ;rw[e];rfl
    show{1,a,2,.int x.l,3,AB.of ha6,0,4,a,2,.int x.h,3,AB.of ha6,0,dd,.int g.l,0,hv3 ▸ Az.k (k:=Sum.inl x.h) (s6 _ _ nA),5,kg,?_,Ar s6 jx,zI};rw[st,ec,zP,zP];rfl
 let{0,s6,kg}:=h;rw[zC,EA.1,zb (zJ _)] at kg;let J:H6 D2=some (.lst ((sE es fs).map V.int)):=kg;show{1,Ce,λe0 he0=>?_};let s7:=zH (o:=.lst []) he0;show{D2,e0,_,3,AD.of (s7 _ _ J),AD.of zI,1,?_};let s07:=(s5.trans s6).trans s7;cases hS:sE es fs with
 | nil=>show AZ ?_;let:tv es fs=none:=(UG (o:=none) hS).symm;let z:=k _ s07;rwa[this] at z
 | cons x r=>rw[hS] at J;show Ab ?_;show{1,D2,x::r,0,AD.of (s7 _ _ J),by simp,λm hm hb=>?_};let:tv es fs=some m:=(UG (o:=some m) (by rw[hS];show⟨hm,hb⟩)).symm;let z:=k _ s07;rwa[this] at z
def FE (H:Hp)(ys:List V)(o:List (Nat×En)):Prop:=ys.length=o.length/\∀(j:Nat)y,ys[j]?=some y->∃c,∃(i:Nat),∃e,y=.ref c/\o[j]?=some (i,e)/\H c=some (.tup (.int i::eV e))
def FE.keep (h:FE H ys fe)(k:∀b zs,H b=some (.tup zs)->H' b=some (.tup zs)):FE H' ys fe:=
 {h.1,λj y e=>let ⟨c,i,x,I,C,o⟩:=h.2 j y e;{c,i,x,I,C,k _ _ o}}
def FE.app (h:FE H ys fe)(g:FE H zs ge):FE H (ys++zs) (fe++ge):=by
 show{by rw[zK,zK,h.1,g.1],λj y e=>?_};by_cases c:j<ys.length
 . rw[zV c] at e;let{a,i,x,I,C,o}:=h.2 j y e;show{a,i,x,I,by rw[zV (by rw[<-h.1];show c)];show C,o}
 . rw[zS ()] at e;let{a,i,x,I,C,o}:=g.2 _ y e;show{a,i,x,I,by rw[zS (by rw[<-h.1];lia),<-h.1];show C,o}
inductive Yp (vs:List V)(H:Hp)(Q:VK):Prop
 | mk:∀(l:Addr)(js:List (List En)),(vs=[.ref l])->(A4 H l js)->(js.length<=24)->((∀es∈js,es.length<=24))->(∀(a:Addr)(ys:List V)(H':Hp),AE H H'->H' a=some (.lst ys)->FE H' ys (Bu js js.length)->Q (.ref a) H')->Yp vs H Q
def Kd:Sp:=λo H Q _=>Yp o H Q
def Tz (T:Fg K H a (Ht js))(I:u<js.length)(C:v<js.length):∃xs r ys,AD K H a xs/\By xs (u:Int)=⇑r/\AD K H r ys/\By ys (v:Int)=some (oV (tv (js.getD u []) (js.getD v []))):=by
 let{rs,h1,U,J}:=T;let hl:rs.length=js.length:=by rw[U];unfold Ht;rw[zC]
 let o:rs[u]?=some (rs[u]'()):=zB ();let e2:(Ht js)[u]?=some (js.map λb=>tv (js.getD u []) b):=by unfold Ht;rw[zM,getD_some I];rfl
 show{_,rs[u]'(),_,h1,Dx (by rw[zM,o];rfl),AD.of (J u _ _ o e2),Dx (by rw[zM,zM,getD_some C];rfl)}
def dh (C:DO n js){w:Nat}(hu:u<js.length)(U:v<js.length)(hw:w<js.length):Dn ts js u v w↔∃t,An ts v w t/\R1 (tv (js.getD u []) (js.getD v [])) (tv (js.getD u []) (js.getD w [])) t=true:=by
 let o:=(C.at hu).hub;let Hv:=(C.at U).hub;let Hw:=(C.at hw).hub;let{lv,J}:=Na (es:=js.getD v []) o;let{lw,I}:=Na (es:=js.getD w []) o;rw[Yz o Hv,Yz o Hw,<-TC o J,<-TC o I];constructor
 . rintro ⟨t,a,b,ad,ha,hb,g⟩;rw[ha.uniq J,hb.uniq I] at g;show⟨t,ad,g⟩
 . rintro ⟨t,ad,g⟩;show{t,2,ad,J,I,g}
inductive X3 (K:AF)(vs:List V)(H:Hp)(Q:VK):Prop
 | mk:∀(dp ta:Addr)(n:Int)(ts:List T3)(js:List (List En))(kvs:List (List AJ×V)),(vs=[.int n,.ref dp,.ref ta])->(GW n ts)->(DO n js)->(H dp=some (.dT kvs))->(PD ts kvs)->(Fg K H ta (Ht js))->(∀(o:Option PyData) v H',DJ ts js o->AX H' v (o.getD .none)->AE H H'->Q v H')->X3 K vs H Q
def QG (K:AF):Sp:=λo H Q _=>X3 K o H Q
def SY:AR ["_law_labels_here","_law_found_here","_law_place"] RH.p (defScope RH.s):=Aa
def XC:AC P w K mg base 1 RH Kd:=λwz=>by
 refine wz.Hg.okZ SY λ_ _ A _ _ H vs Q E hr h=>?_;obtain⟨l,js,rfl,LL,hn,kB,k⟩:=h;obtain⟨as,hl,lM,hA⟩:=id LL;refine{_,zT (AO (i:=1) SY.nd (BR zN))
  (zT (A0 (BX rfl wz.mRange (zD (Af DB wz.mLen (zD (pv 0) zN)) zN)) (Bc (i:=2) SY.nd rfl (Or.inr rfl))
   (zc (C1 (C3 PySem.F.plainAttrs_list PySem.F.slot_list_extend PySem.F.type_list_extend YZ (pv 1) (zD
    (BU (own:=Fc) (cn:=["_law_place"]) (ci:=[2]) rfl (Ax rfl rfl) {0,3,trivial} rfl (BB (zv AV (pv 0) (pv 2))) (λ_ _ _ _=>Aw)
     (λ_ _ _ _=>Dw (zw Ip (zv CU (pv 0) zg) zg (AH _)))
     (λ_ _ _ _=>AQ EV (AU (zD (pv 1) zN)) (pv 0))) zN)))))
  (zc (AL (pv 1)))),?_}
 refine{Ce,λD hD=>?_};have s0:=zH (o:=.lst []) hD;refine{1,l,1,.inr (AB.of (s0 _ _ hl)),?_};rw[zC,lM];refine{(js.length:Int),0,by lia,by lia,CL (lo:=0) (n:=((js.length:Int)).toNat) (λi σ H2=>Es λ(v2:Option V)(ys:List V)=>σ=[⇑l,⇑D,v2]/\AE H H2/\H2 D=some (.lst ys)/\FE H2 ys (Bu js i))
  {_,[],0,s0,zI,0,λj y e=>by simp at e} (λi σ H2 hi z=>?_) (λσ H2 z=>?_)}
 . obtain⟨v2,ys,rfl,s2,jx,FA⟩:=z;rw[Bi];have k7:i<as.length:=by lia
   obtain⟨a,ha⟩:∃a,as[i]?=some a:={_,zB k7};obtain⟨es,n6,bs,hb,EA,hl3⟩:=hA i a ha;have eget:js.getD i []=es:=by rw[zF,n6];rfl
   have lT:=kB es (zQ n6);refine{1,.inl {0,_,AD.of jx},4,l,2,.ref a,3,AB.of (s2 _ _ hl),Dx (by rw[zM,ha];rfl),a,0,{_,AB.of (s2 _ _ hb)},[.int i],0,λD2 kq=>?_};have EA3:Ah H2 bs es:=EA.keep λb zs e=>s2 _ _ e;have hbl:=EA.1;refine BS (a:=a) (xs:=bs.map V.ref) (λj zs H4=>FE H4 zs (((es.take j).filter λe=>decide (e.l≠0)).map λe=>(i,e))/\AE H2 H4/\H4 D2=some (.lst zs)) {{0,λj y e=>by simp at e},zH kq,zI} (λj zs H4 h=>?_) (λj zs H4 h=>?_) (λj v zs H4 hv h=>?_) (λzs H4 h=>?_)
   . exact AB.of (h.2.1 _ _ (s2 _ _ hb))
   . rw[h.1.1,zC];exact CO (D0 _ _) (A5 (by rw[ze];lia))
   . obtain⟨F4,s4,j8⟩:=h;obtain⟨c,e,rfl,he,hc⟩:=EA3.at hv;have hc4:=s4 _ _ hc;refine{{3},?_};refine{1,c,2,.int e.l,3,AB.of hc4,3,1,?_};rw[Eo];have st:=Qy (λe:En=>decide (e.l≠0)) he;by_cases cc:e.l=0
     . rw[zO cc];refine Ab {?_,s4,j8};rw[st,if_neg (by simp[cc]),Bq];exact F4
     . rw[zW cc];refine AZ ?_;refine{1,NQ,λq0 hq0=>{1,q0,c,5,zI,zH hq0 _ _ hc4,by change 1+4<=sizeLine;decide,λq H5 s5 h5=>?_}};have s45:=(zH (o:=.tup [.int (i:Int)]) hq0).trans s5;have ko:=s45 _ _ j8;refine{ko,?_,Ar (s4.trans s45) kq,zI};rw[st,if_pos (by simp[cc]),zP];have kp:∀b us,H5 b=some (.tup us)->(upd H5 D2 (.lst (zs++[.ref q]))) b=some (.tup us):=λb us e=>by rw[zi (BA e ko (by intro z;ext z))];exact e
       refine ((F4.keep λb us e=>s45 _ _ e).keep kp).app {0,λj' y' e'=>?_};cases j' with
       | zero=>
        have:V.ref q=y':=‹e'›
        subst this;exact{q,i,e,3,kp _ _ h5}
       | succ z=>simp at e'
   . obtain⟨F4,s4,j8⟩:=h;rw[zC,EA.1,zb (zJ _)] at F4;have hDD:=s4 _ _ jx;have f1:=UI kB i;have f2:=FA.1;have f3:=F4.1;have f4:=D0 (λe:En=>decide (e.l≠0)) es;rw[zC] at f3;refine{D,D2,5,hDD,j8,CI (A5 (by lia)),?_};have s5:=Ar (o:=.lst (ys++zs)) (s2.trans s4) hD;have kp:∀b us,H4 b=some (.tup us)->(upd H4 D (.lst (ys++zs))) b=some (.tup us):=λb us e=>by rw[zi (BA e hDD (by intro z;ext z))];exact e
     refine{_,ys++zs,0,s5,zI,?_};change FE _ _ (Bu js i++_);rw[eget];exact ((FA.keep λb us e=>s4 _ _ e).keep kp).app (F4.keep kp)
 . obtain⟨v2,ys,rfl,s2,jx,FA⟩:=z;rw[B4] at FA;exact{1,k D ys H2 s2 jx FA}
def RZ:AR ["_law_n","_law_pairs","_law_tells","_law_u","_law_v","_law_w"] Gq.p (defScope Gq.s):=Aa
def J8:AC P w K mg base 1 Gq (QG K):=λwz=>by
 show wz.Lf.okZ RZ λ_ _ A _ _ H vs Q E hr h=>?_;let{dp,ta,n,ts,I,kvs,0,G,hk,hdp,pd,T,k}:=h;let lS:=G.n1;let jz:=G.n24;let nM:=hk.ln;let hu:=Fy hr;show{_,zT (A0 (BX rfl wz.mRange (zD (pv 0) zN)) (AY (i:=3) RZ.nd)
  (zc (A0 (BX rfl wz.mRange (zD (pv 0) zN)) (AY (i:=4) RZ.nd)
   (zc (A0 (BX rfl wz.mRange (zD (pv 0) zN)) (AY (i:=5) RZ.nd)
    (zc (Ac (PW.pt (DT (GS (Nw hu (AU (zD (pv 4) (zD (pv 5) zN))) (pv 1))) (EW (zw GU (zv AS (zv AS (pv 2) (pv 3)) (pv 4)) As (AH _)))))
     (zc (Ac (PW.pt (Dy (zw Dl (zv AS (zv AS (pv 2) (pv 3)) (pv 5)) As (AH _)) (Dk (zw EN (zv AS (zv AS (pv 2) (pv 3)) (pv 5)) (AQ Br (zv AS (zv AS (pv 2) (pv 3)) (pv 4)) (Ep hu (pv 1) (AU (zD (pv 4) (zD (pv 5) zN))) (λ_ _=>rfl))) (AH _)))))
      (zc (AL (AU (zD (pv 3) (zD (pv 4) (zD (pv 5) zN)))))) Ae)) Ae)))))))
  (zc (AL As)),?_}
 show{1,n,0,(),(),CL (lo:=0) (n:=n.toNat) (λi σ H1=>K7 λ(v3 v4 U:Option V)=>σ=[some (.int n),⇑dp,⇑ta,v3,v4,U]/\AE H H1/\∀u v w:Nat,u<i->v<I.length->w<I.length->¬ Dn ts I u v w)
  {_,6,AE.refl _,λu v w z=>absurd z (C2 _)} (λu σ H1 hu' z=>?_) (λσ H1 z=>?_)}
 . let{v3,v4,U,0,s1,all1}:=z;rw[Bi];let m3:u<I.length:=()
   show{1,n,0,(),(),CL (lo:=0) (n:=n.toNat) (λi σ H2=>Es λ(v4 U:Option V)=>σ=[some (.int n),⇑dp,⇑ta,some (.int u),v4,U]/\AE H H2/\∀v w:Nat,v<i->w<I.length->¬ Dn ts I u v w)
    {6,s1,λv w z=>absurd z (C2 _)} (λv σ H2 mz z=>?_) (λσ H2 z=>?_)}
   . let{v4,U,0,s2,all2}:=z;rw[Bi];let hv1:v<I.length:=()
     show{1,n,0,(),(),CL (lo:=0) (n:=n.toNat) (λi σ H3=>∃U:Option V,σ=[some (.int n),⇑dp,⇑ta,some (.int u),some (.int v),U]/\AE H H3/\∀w:Nat,w<i->¬ Dn ts I u v w)
      {1,s2,λw z=>absurd z (C2 _)} (λx σ H3 ju z=>?_) (λσ H3 z=>?_)}
     . let{U,0,s3,J}:=z;rw[Bi];let hx1:x<I.length:=()
       let gi:=dh (ts:=ts) hk m3 hv1 hx1;let next:∀H4,AE H H4->¬ Dn ts I u v x->∃U:Option V,[some (V.int n),⇑dp,⇑ta,some (.int u),some (.int v),some (.int x)]=[some (.int n),⇑dp,⇑ta,some (.int u),some (.int v),U]/\AE H H4/\∀w:Nat,w<x+1->¬ Dn ts I u v w:=λH4 s4 ng=>{1,s4,λw hw=>by
        by_cases c:w=x
        . subst c;show ng
        . show J w ()}
       show{4,Ad,λp hp=>?_};let s4:=s3.trans (zH (o:=.tup [.int (v:Int),.int (x:Int)]) hp);show{1,dp,1,Az.t (k:=[Sum.inl (v:Int),Sum.inl (x:Int)]) (s4 _ _ hdp) zI,1,A3 (λc=>?_) (λc=>?_)}
       . let{t,ad}:=(pd.some v x).mp c;let kG:=((pd v x).1 t).mpr ad;let{xs,r,ys,h1,h2,h3,h4}:=Tz (Rh T s4) m3 hv1;show{4,ta,2,.ref r,3,h1,h2,1,r,9,h3,h4,0,1,?_};let only:∀t',An ts v x t'->t'=t:=λt' ad'=>G.uniq ad' ad;cases e1:tv (I.getD u []) (I.getD v []) with
         | none=>show Ak (by rfl) ?_;show next _ s4 λz=>?_;let{t',_,g}:=gi.mp z;rw[e1] at g;ext g
         | some a=>
          rw[e1] at h4;show Aj (by rfl) ?_;let{xs',r',ys',g1,g2,g3,g4}:=Tz (Rh T s4) m3 hx1;let ret:∀H5,AE H H5->Dn ts I u v x->∀q,H5 q=none->Q (.ref q) (upd H5 q (.tup [.int (u:Int),.int (v:Int),.int (x:Int)])):=λH5 s5 gr q hq=>by
           show k (some (.tuple [.int u,.int v,.int x])) _ _ {u,v,x,m3,hv1,hx1,gr,0,λu' v' w' l mz nH=>?_} (.tup zI (.cons (.int _) (.cons (.int _) (.cons (.int _) .nil)))) (s5.trans (zH hq));rcases l with l | ⟨rfl,l⟩
           . show all1 u' v' w' l mz nH
           . rcases l with l | ⟨rfl,l⟩
             . show all2 v' w' l nH
             . show J w' l
          show{4,ta,2,.ref r',3,g1,g2,1,r',9,g3,g4,0,1,?_};cases e2:tv (I.getD u []) (I.getD x []) with
          | none=>show Aj (by rfl) (AZ ?_);show{1,4,Eu,λq hq=>ret _ s4 (gi.mpr {t,ad,by rw[e1,e2];rfl}) q hq}
          | some b=>
           rw[e2] at g4;show Ak (by rfl) ?_;show{4,ta,2,.ref r',3,g1,g2,1,r',9,g3,g4,4,ta,2,.ref r,3,h1,h2,1,r,9,h3,h4,1,4,Ad,λp2 kM=>?_};let s5:=s4.trans (zH (o:=.tup [.int (v:Int),.int (x:Int)]) kM);show{dp,1,kG ▸ Az.t (k:=[Sum.inl (v:Int),Sum.inl (x:Int)]) (s5 _ _ hdp) zI,5,_,7,A3 (λc2=>?_) (λc2=>?_)}
           . show{1,4,Eu,λq hq=>ret _ s5 (gi.mpr {t,ad,by rwa[e1,e2]}) q hq}
           . show next _ s5 λz=>?_;let{t',ad',g}:=gi.mp z;rw[e1,e2,only t' ad'] at g;show c2 g
       . show Ab ?_;show next _ s4 λz=>?_;let{t',ad',_}:=gi.mp z;show c ((pd.some v x).mpr ⟨t',ad'⟩)
     . let{U,0,s3,J}:=z;show{6,s3,λv' w' mU hw2=>?_};by_cases c:v'=v
       . subst c;show J w' ()
       . show all2 v' w' () hw2
   . let{v4,U,0,s2,all2}:=z;show{_,6,s2,λu' v' w' hu2 mU hw2=>?_};by_cases c:u'=u
     . subst c;show all2 v' w' () hw2
     . show all1 u' v' w' () mU hw2
 . let{v3,v4,U,0,s1,all1}:=z;show k none _ _ (λu v w hu2 mU hw2=>all1 u v w () mU hw2) .non s1
meta def fD:Option (Str×PyData)->PyData
 | none=>.tuple []
 | some (x,e)=>.tuple [.str x,e]
inductive Zs (vs:List V)(H:Hp)(Q:VK):Prop
 | mk:∀(wa:Addr)(v:V)(d:PyData)(n:Int)(ts:List T3)(k l:Nat),(vs=[.ref wa,v])->(Ap H wa n ts)->(AX H v d)->(IB k l d)->(k<=big)->(l<64)->(∀(f:Option (Str×PyData))(q:Addr)(H':Hp),Ck n ts d f->AE H H'->AX H' (.ref q) (fD f)->Q (.ref q) H')->Zs vs H Q
def QQ:Sp:=λo H Q _=>Zs o H Q
def Jt (I:DO n js)(G:GW n ts){i:Nat}(C:e.u=some u)(u0:0<=u)(u1:u<n)(ad:An ts i u t):Dd ts js i e↔(Bo (js.getD u.toNat []) e.h).map (·.l)=some (e.l-t):=by
 let U:=(I.at (i:=u.toNat) (by let:=I.ln;lia)).hub;constructor
 . rintro ⟨u',t',f,J,h2,h3,h4,h5⟩;rw[C] at J;ext J;rw[(M7 U).mpr ⟨h3,h4⟩,<-G.uniq h2 ad,<-h5];rfl
 . intro h;cases o:Bo (js.getD u.toNat []) e.h with
   | none=>rw[o] at h;ext h
   | some f=>rw[o] at h;let{a,b}:=(M7 U).mp o;show{u,t,f,C,ad,a,b,zZ h}
def MN (I:DO n js)(G:GW n ts)(hi:i<js.length)(hd:e.d=some d)(ad:An ts e.h d t):NK ts js i e↔tv (js.getD d.toNat []) (js.getD i [])=some (e.l-t):=by
 let C:=(I.at hi).hub;let{lm,hm}:=Na (es:=js.getD d.toNat []) C;rw[<-TC C hm];constructor
 . rintro ⟨d',t',c,o,h2,U,J⟩;rw[hd] at o;ext o;rw[hm.uniq U,<-G.uniq h2 ad,<-J];rfl
 . intro h;cases lm with
   | none=>ext h
   | some c=>show{d,t,c,hd,ad,hm,zZ h}
def Vs {tl:TE}(o:PE (BN X pl N' sc fp s3 H3) l tl):PI (BN X pl N' sc fp s3 H3) tg l (Jl X.K tl):=BB o
def SH :K4 (BN (BN X pl N' sc fp s3 H3) pl' N2 sc' fp' s3' H3') (Fd X.K):=AV
def Zb (o:X.calm=true):Be (BN X pl N' sc fp s3 H3) (.type "dict") (K5 X.K):=Q5 (X:=BN X pl N' sc fp s3 H3) o
meta def GF (es:List En):List (AJ×V):=es.map λe=>(Sum.inl e.h,V.int e.l)
def U4 (H:Hp)(ds:List Addr)(o:List (List En)):Prop:=∀(j:Nat)dd,ds[j]?=some dd->∃es,o[j]?=some es/\H dd=some (.dK (GF es))
def Cq:AR ["_law_web_here","_law_thing","_law_n","_law_place","_law_pairs","_law_longs","_law_hub","_law_long","_law_up","_law_down","_law_tells","_law_fault_here"] HF.p (defScope HF.s):=Aa
def Lr:AC P w K mg base 5 HF QQ:=λwz=>by
 show wz.Lq.okZ Cq λ_ _ A _ _ H vs Q E hr h=>?_;let{wa,v,d,n,ts,k0,l0,0,W,S,ib,hk0,hl0,k}:=h;let{ta,tys,kF,mX,TA,G}:=id W;let lS:=G.n1;let jz:=G.n24;let hu:=Fy hr;let nJ:=hr.units0;show{_,zT (AO (i:=2) Cq.nd (zv AV (pv 0) zg))
  (zT (Ac (DA (CG (AG (bJ wz) hr (zD (pv 2) (zD (pv 1) zN))))) (zc (AL (AU (zD Di (zD As zN))))) Ae)
  (zT (A0 (BX rfl wz.mRange (zD (pv 2) zN)) (AY (i:=3) Cq.nd)
   (zc (Ac (zw (Jy nJ) (BU (own:=Fc) (cn:=[]) (ci:=[]) rfl (Ax rfl rfl) trivial rfl (BB (zv AV (pv 1) (pv 3))) (λ_ _ _ _=>Aw)
    (λ_ _ _ _=>Dw (zw BH (zv CU (pv 0) zg) zg (AH _)))
    (λ_ _ _ _=>zv CU (pv 0) zg)) (BR (zD (pv 3) zN)) (AH _))
    (zc (AL (AU (zD Di (zD (pv 3) zN))))) Ae)))
  (zT (AO (i:=4) Cq.nd (AG (X8 wz) hr (zD (pv 0) zN)))
  (zT (DW (i:=5) (own:=["_law_label"]) (cn:=[]) (ci:=[]) Cq.nd rfl (Or.inl rfl) rfl (Ax rfl rfl) trivial rfl (BB (pv 1)) (λ_ _ _ _=>Aw) (λ_ _ _ _=>BM)
   (λ_ _ _ _=>B5 (Zb rfl) wz.mDict (zD
    (BU (own:=Fc) (cn:=[]) (ci:=[]) rfl (Ax rfl rfl) trivial rfl (Vs (pv 0)) (λ_ _ _ _=>Aw)
     (λ_ _ _ _=>BM) (λ_ _ _ _=>AU (zD (zv SH (pv 0) zg) (zD (zv SH (pv 0) zg) zN)))) zN)))
  (zT (A0 (Du (AG (XC wz) hr (zD (pv 1) zN))) (C0 rfl (zx (AY (i:=3) Cq.nd) (zx (AY (i:=6) Cq.nd) (zx (AY (i:=7) Cq.nd) (zx (AY (i:=8) Cq.nd) (zx (AY (i:=9) Cq.nd) CY))))))
   (zc (Ac (PW.pt (Dy (GS (Sv hu (AU (zD (pv 3) (zD (pv 8) zN))) (pv 4))) (Dk (zw Ip (bu hu (zv AS (pv 5) (pv 8)) (pv 6) {3,3}) (AQ Dh (pv 7) (Ep hu (pv 4) (AU (zD (pv 3) (zD (pv 8) zN))) (λ_ _=>rfl))) (AH _)))))
    (zc (AL (AU (zD Di (zD (AU (zD (pv 3) (zD (pv 6) zN))) zN))))) Ae)))
  (zT (DW (yc := some "_law_one") (i:=10) (own:=["_law_one"]) (cn:=["_law_thing"]) (ci:=[1]) Cq.nd rfl (Or.inl rfl) rfl (Km rfl (λ_ _=>rfl) rfl rfl) {0,3,trivial} rfl
   (BB (pv 1)) (λ_ _ _ _=>Bc (i:=0) (Dm rfl) rfl (Or.inr rfl)) (λ_ _ _ _=>BM)
   (λ_ _ _ _=>BU (own:=["_law_other"]) (cn:=["_law_one"]) (ci:=[0]) rfl (Ax rfl rfl) {0,3,trivial} rfl
    (dG (pv 1)) (λ_ _ _ _=>Aw) (λ_ _ _ _=>BM)
    (λ_ _ _ _=>AG (LI wz) hr (zD (pv 1) (zD (pv 0) zN)))))
  (zT (AO (i:=11) Cq.nd (AG (J8 wz) hr (zD (pv 2) (zD (pv 4) (zD (pv 10) zN)))))
  (zT (Ac (zw GU (pv 11) As (AH _)) (zc (AL (AU (zD Di (zD (pv 11) zN))))) Ae)
  (zT (A0 (Du (AG (XC wz) hr (zD (pv 1) zN))) (C0 rfl (zx (AY (i:=3) Cq.nd) (zx (AY (i:=6) Cq.nd) (zx (AY (i:=7) Cq.nd) (zx (AY (i:=8) Cq.nd) (zx (AY (i:=9) Cq.nd) CY))))))
   (zc (Ac (PW.pt (Dy (GS (Sv hu (AU (zD (pv 6) (zD (pv 9) zN))) (pv 4))) (Dk (zw Ip (zv AS (zv AS (pv 10) (pv 9)) (pv 3)) (AQ Dh (pv 7) (Ep hu (pv 4) (AU (zD (pv 6) (zD (pv 9) zN))) (λ_ _=>rfl))) (AH _)))))
    (zc (AL (AU (zD Di (zD (AU (zD (pv 3) (zD (pv 6) zN))) zN))))) Ae)))
  (zc (AL (AU zN)))))))))))),?_}
 show{1,wa,9,AB.of kF,0,?_};show{4,n,v,d,k0,l0,0,(),S,ib,hk0,hl0,λH1 s1=>?_};show{1,?_};cases cp:FW n d with
 | false=>show AZ {Ad,λq hq=>?_};show k _ q _ (.shape cp) (s1.trans (zH hq)) (.tup zI (.cons (.str _) (.cons .non .nil)))
 | true=>
  show Ab ?_;let{I,0,kd}:=QS cp;let h24:∀es∈I,es.length<=24:=λes he=>by let:=(kd.kd es he).len;lia
  let{la,0,LA}:=XH (λes he=>by let:=h24 es he;lia) S;let nM:=kd.ln;let fo:∀f,Eg ts I f->Ck n ts (CN I) f:=λf l=>.lab I f cp rfl l;let{as,hla,lM,hA}:=id LA;let gd:∀ {i es},I[i]?=some es->I.getD i []=es:=λ{i es} he=>by rw[zF,he];rfl
  let two:∀(x:Str)(i:Nat)(h:Int)(H5:Hp)(q J:Addr),AE H H5->H5 q=none->(upd H5 q (.tup [.int (i:Int),.int h])) J=none->Eg ts I (some (x,.tuple [.int i,.int h]))->Q (.ref J) (upd (upd H5 q (.tup [.int (i:Int),.int h])) J (.tup [.str x,.ref q])):=λx i h H5 q J s5 hq lJ fl=>
   k _ J _ (fo _ fl) (s5.trans ((zH hq).trans (zH lJ))) (.tup zI (.cons (.str _) (.cons (.tup (zH lJ _ _ zI) (.cons (.int _) (.cons (.int _) .nil))) .nil)))
  show{1,n,0,(),(),CL (lo:=0) (n:=n.toNat) (λi σ H2=>aw λ(v3 v4 v5 v6 v7 v8 v9 v10 v11:Option V)=>σ=[⇑wa,⇑la,some (.int n),v3,v4,v5,v6,v7,v8,v9,v10,v11]/\AE H H2/\∀j:Nat,j<i->OI I j)
   {8,8,1,s1,λj z=>absurd z (C2 _)} (λi σ H2 hi z=>?_) (λσ H2 z=>?_)}
  . let{v3,v4,v5,v6,v7,v8,v9,v10,v11,0,s2,all}:=z;rw[Bi];let k7:i<I.length:=()
    obtain⟨a,ha⟩:∃a,as[i]?=some a:={_,zB ()};let{es,he,cs,hc,EA,hl3}:=hA i a ha;let{e,hf}:=(kd.at k7).zero;rw[gd he] at hf;show{4,la,2,.ref a,3,AB.of (s2 _ _ hla),Dx (by rw[zM,ha];rfl),a,0,{_,AB.of (s2 _ _ hc)},[],0,λD hD=>?_};show BS (a:=a) (xs:=cs.map V.ref) (λj ys H3=>ys=(((es.take j).filter λe=>decide (e.l=0)).map (·.h)).map V.int/\AE H2 H3/\H3 D=some (.lst ys)) {0,zH hD,zI} (λj ys H3 h=>?_) (λj ys H3 h=>?_) (λj v ys H3 hv h=>?_) (λys H3 h=>?_)
    . show AB.of (h.2.1 _ _ (s2 _ _ hc))
    . rw[h.1,zC,zC];show CO (D0 _ _) (A5 (by rw[ze];lia))
    . let{0,s3,kC}:=h;let{c,e',0,kZ,ll}:=EA.at hv;let hc3:=s3 _ _ (s2 _ _ ll);show{{3},?_};show{1,c,2,.int e'.l,3,AB.of hc3,3,1,?_};rw[Eo];let st:=Qy (λe:En=>decide (e.l=0)) kZ;by_cases cc:e'.l=0
      . rw[zO cc];show AZ {1,c,2,.int e'.h,3,AB.of hc3,0,kC,?_,Ar s3 hD,zI};rw[st,if_pos (by simp[cc]),zP,zP];rfl
      . rw[zW cc];show Ab {?_,s3,kC};rw[st,if_neg (by simp[cc]),Bq]
    . let{0,s3,kC}:=h;rw[zC,EA.1,zb (zJ _),hf] at kC;show{1,NQ,λp hp=>?_};let s4:=(s2.trans s3).trans (zH (o:=.lst [.int (i:Int)]) hp);show{D,p,[e.h],[(i:Int)],3,AD.of (zH hp _ _ kC),AD.of zI,1,?_};by_cases c:e.h=i
      . rw[c,zO rfl];show Ab {8,8,1,s4,λj hj=>?_};by_cases q:j=i
        . subst q;intro e' r' lE;rw[gd he,hf] at lE;ext lE;show c
        . show all j ()
      . rw[zW (by intro z;injection z with z;show c z)];show AZ {1,Ad,λq hq=>?_};show k _ q _ (fo _ (.own (.int i) {i,i,List.getElem?_range k7,(λz=>c (z e [] (by rw[gd he];show hf))),0,λk' y hk hy=>?_})) (s4.trans (zH hq)) (.tup zI (.cons (.str _) (.cons (.int _) .nil)));let{mO,0}:=zE.mp hy;rw[List.getElem_range];show all k' hk
  . let{v3,v4,v5,v6,v7,v8,v9,v10,v11,0,s2,all}:=z;let OW:Iu I none:=λi hi=>all i (by let:=Cs.mp hi;lia);clear all;show{1,wa,n,ts,0,W.keep s2,λdp kvs H3 s3 hdp pd=>?_};let s03:=s2.trans s3;show{1,la,0,{_,AB.of (s03 _ _ hla)},[],0,λfl lL=>?_};show BS (a:=la) (xs:=as.map V.ref) (λi ys H4=>i<=I.length/\∃ds:List Addr,ys=ds.map V.ref/\ds.length=i/\U4 H4 ds I/\AE H3 H4/\H4 fl=some (.lst ys))
     {zj _,[],3,λj dd z=>by simp at z,zH lL,zI} (λi ys H4 h=>?_) (λi ys H4 h=>?_) (λi v ys H4 hv h=>?_) (λys H4 h=>?_)
    . let{_,8,s4,_}:=h;show AB.of (s4 _ _ (s03 _ _ hla))
    . let{hi,ds,0,hdl,_}:=h;rw[zC,hdl];show A5 ()
    . let{_,ds,0,hdl,me,s4,hf4}:=h;rw[zM] at hv;cases ha:as[i]? with
      | none=>rw[ha] at hv;ext hv
      | some a=>
      rw[ha] at hv;ext hv;let{es,he,cs,hc,EA,hl3}:=hA i a ha;let k7:i<I.length:=(zE.mp he).1;let Hub':=(kd.at k7).hub;rw[gd he] at Hub';let mJ:=s03.trans s4;show{{3},?_};show BW ?_;show{1,a,0,{_,AB.of (mJ _ _ hc)},[],0,λD hD=>?_};show BS (a:=a) (xs:=cs.map V.ref) (λj zs H5=>j<=es.length/\zs.length=j/\(∀(m:Nat)(y:V),zs[m]?=some y->∃c e,y=.ref c/\es[m]?=some e/\H5 c=some (.tup [.int e.h,.int e.l]))/\AE H4 H5/\H5 D=some (.lst zs)) {zj _,0,λm y z=>by simp at z,zH hD,zI} (λj zs H5 h=>?_) (λj zs H5 h=>?_) (λj v zs H5 hv h=>?_) (λzs H5 h=>?_)
      . show AB.of (h.2.2.2.1 _ _ (mJ _ _ hc))
      . rw[h.2.1];show A5 (by let:=h.1;lia)
      . let{_,l9,my,s5,ko}:=h;let{x,e,0,hx,nG}:=EA.at hv;let hx5:=s5 _ _ (mJ _ _ nG);show{{3},?_};show BW ?_;show{1,x,2,.int e.h,3,AB.of hx5,0,1,x,2,.int e.l,3,AB.of hx5,0,Ad,λc hc=>?_};let nDc:D≠c:=zl ko hc;show{zH hc _ _ ko,(zE.mp hx).1,by rw[zK,l9];rfl,λm y hy=>?_,Ar (s5.trans (zH hc)) hD,zI};by_cases cj:m<j
        . rw[zV ()] at hy;let{c',e',h1,h2,h3}:=my m y hy;show{c',e',h1,h2,?_};rw[zi (BA h3 ko (by intro z;ext z))];show zH hc _ _ h3
        . let ej:m=j:=by let:=(zE.mp hy).1;rw[zK,l9] at this;simp at this;lia
          subst ej;rw[zS (),l9,Dq] at hy;let ey:V.ref c=y:=‹hy›
          subst ey;show{c,e,0,hx,by rw[zi (Ne.symm nDc)];show zI}
      . let{_,l9,my,s5,ko}:=h;rw[zC,EA.1] at l9;show{D,zs,GF es,0,AD.of ko,{by unfold GF;rw[zC,l9],λm y hy=>?_},λdd k8=>?_}
        . let{c,e,h1,h2,h3}:=my m y hy;show{c,Sum.inl e.h,.int e.l,h1,h3,by unfold GF;rw[zM,h2];rfl}
        rw[RI (show ((GF es).map (·.1)).Nodup from SX Hub' λe=>V.int e.l)];let s6:=s5.trans (zH (o:=.dK (GF es)) k8);let hf6:=s6 _ _ hf4;let kp:∀b kv,(upd H5 dd (.dK (GF es))) b=some (.dK kv)->(upd (upd H5 dd (.dK (GF es))) fl (.lst (ds.map V.ref++[.ref dd]))) b=some (.dK kv):=λb kv z=>by rw[zi (BA z hf6 (by intro z;ext z))];show z
        show{hf6,(),ds++[dd],by rw[zP];rfl,by rw[zK,hdl];rfl,λj d' kI=>?_,Ar (s4.trans s6) lL,zI};by_cases cj:j<ds.length
        . rw[zV cj] at kI;let{lP,e1,e2}:=me j d' kI;show{lP,e1,kp _ _ (s6 _ _ e2)}
        . rw[zS ()] at kI;cases hz:j-ds.length with
          | zero=>
           rw[hz] at kI;let e1:dd=d':=‹kI›
           subst e1;show{es,by rw[show j=i by lia];show he,kp _ _ zI}
          | succ z=>rw[hz] at kI;simp at kI
    . let{_,ds,0,hdl,me,s4,hf4}:=h;rw[zC,lM] at hdl;let mJ:=s03.trans s4;let hdp4:=s4 _ _ hdp;show{1,la,I,0,LA.keep λb us e=>mJ _ _ e,(),h24,λhn ys H5 s5 h5 HU=>?_};let mR:=s5 _ _ hdp4;let mq:=mJ.trans s5;show{hn,0,{_,AD.of h5},Jf (K:=K) (a:=hn) (xs:=ys) (λi σ H6=>NM λ(v3 v6 v7 v8 v9:Option V)=>σ=[⇑wa,⇑la,some (.int n),v3,⇑dp,⇑fl,v6,v7,v8,v9,v10,v11]/\AE H5 H6/\∀(j:Nat)(x:Nat×En),j<i->(Bu I I.length)[j]?=some x->Dd ts I x.1 x.2)
       {8,1,AE.refl _,λj x z=>absurd z (C2 _)} (λi σ H6 hi z=>?_) (λi y σ H6 hy z=>?_) (λσ H6 z=>?_)}
      . let{2,8,s6,_}:=z;show AD.of (s6 _ _ h5)
      . let{v3',v6',v7',v8',v9',0,s6,all}:=z;let{c,U,e,0,n5,hc}:=HU.2 i y hy;let hm:=zQ n5;let{m1,m2}:=GN hm;let{u,dn,m3,hd1,u0,u1,d0,d1}:=((kd.at m1).ent e m2).far (M6 hm);let ll:H6 c=some (.tup [.int (U:Int),.int e.h,.int e.l,.int u,.int dn]):=by rw[s6 _ _ hc];unfold eV;rw[m3,hd1];rfl
        let s06:=mq.trans s6;show{c,1,AB.of ll,0,6,6,6,6,5,?_};let ret:∀(H7:Hp)(q J:Addr),AE H H7->H7 q=none->(upd H7 q (.tup [.int (U:Int),.int e.h])) J=none->¬ Dd ts I U e->Q (.ref J) (upd (upd H7 q (.tup [.int (U:Int),.int e.h])) J (.tup [.str "up",.ref q])):=λH7 q J s7 hq lJ nu=>two _ U e.h H7 q J s7 hq lJ (.up _ OW {i,(U,e),n5,nu,0,λk' y hk hy=>all k' y hk hy});show{4,Ad,λp hp=>?_};let s7:=s6.trans (zH (o:=.tup [.int (U:Int),.int u]) hp);let s07:=mq.trans s7;show{1,dp,1,Az.t (k:=[Sum.inl (U:Int),Sum.inl u]) (s7 _ _ mR) zI,1,A3 (λc1=>?_) (λc1=>?_)}
        . show AZ {4,Ad,λq hq=>{Ad,λJ lJ=>ret _ q J s07 hq lJ ?_}};rintro ⟨u',t',f',h1,h2,_⟩;rw[m3] at h1;ext h1;let:=(pd.some U u).mpr ⟨t',h2⟩;rw[this] at c1;ext c1
        . let c1':(AW kvs [Sum.inl (U:Int),Sum.inl u]).isSome=true:=by
           cases z:(AW kvs [Sum.inl (U:Int),Sum.inl u]).isSome with
           | true=>rfl
           | false=>rw[z] at c1;show absurd rfl c1
          let{t,ad}:=(pd.some U u).mp c1';let kG:=((pd U u).1 t).mpr ad;let ui:=Jt kd G m3 u0 u1 ad;let hul:u.toNat<ds.length:=()
          obtain⟨dd,k8⟩:∃dd,ds[u.toNat]?=some dd:={_,zB hul};let{es,he,hdk}:=me _ _ k8;rw[gd he] at ui;let s47:=s5.trans s7;let hdk7:=s47 _ _ hdk;show{4,fl,2,.ref dd,3,AD.of (s47 _ _ hf4),?ix,dd,0,.inl {_,.inl hdk7},1,_,Az.k (k:=Sum.inl e.h) hdk7,?_}
          case ix=>
           rw[show u=((u.toNat:Nat):Int) by lia];show Dx (by rw[zM,k8];rfl)
          let eo:(AW (GF es) (Sum.inl e.h)).getD .non=oV ((Bo es e.h).map (·.l)):=by rw[show GF es=es.map λe=>((Sum.inl e.h:AJ),V.int e.l) from rfl,TM];cases Bo es e.h <;> rfl
          rw[eo];show{4,4,Ad,λp2 kM=>?_};let s8:=s7.trans (zH (o:=.tup [.int (U:Int),.int u]) kM);show{dp,1,kG ▸ Az.t (k:=[Sum.inl (U:Int),Sum.inl u]) (s8 _ _ mR) zI,5,Tr _ (some (e.l-t)),1,?_};change (if (!decide (oV ((Bo es e.h).map (·.l))=oV (some (e.l-t))))=true then _ else _)
          rw[Nx];by_cases cu:(Bo es e.h).map (·.l)=some (e.l-t)
          . rw[zO cu];show Ab {8,1,s8,λj x hj hx=>?_};by_cases q:j=i
            . subst q;rw[n5] at hx;ext hx;show ui.mpr cu
            . show all j x () hx
          . rw[zW cu];show AZ {4,Ad,λq hq=>{Ad,λJ lJ=>ret _ q J (mq.trans s8) hq lJ λz=>cu (ui.mp z)}}
      . let{v3',v6',v7',v8',v9',0,s6,all}:=z;let UP:NJ ts I none:=λx hx=>by let{j,hj,ej}:=zf hx;show all j x (by rw[HU.1];show hj) (by rw[zB hj,ej])
        clear all HU me hf4;let s06:=mq.trans s6;let hdp6:=s6 _ _ mR;generalize hHx:H6=Hx at s06 hdp6;subst hHx;clear s6 h5 mR mq s5 hdp4 s4 mJ s03 s3 s2 s1;let LLx:A4 H6 la I:=LA.keep λb us e=>s06 _ _ e;let{as',hlx,halx,hAx}:=id LLx;show{1,la,0,{_,AB.of hlx},[.ref la],0,λD hD=>?_};show BS (a:=la) (xs:=as'.map V.ref) (λi ys H1=>i<=I.length/\∃rs:List Addr,ys=rs.map V.ref/\rs.length=i/\(∀(j:Nat)(r:Addr),rs[j]?=some r->r≠D/\∃es,I[j]?=some es/\H1 r=some (.lst ((I.map λb=>tv es b).map oV)))/\AE H6 H1/\H1 D=some (.lst ys))
         {zj _,[],3,λj r z=>by simp at z,zH hD,zI} (λi ys H1 h=>?_) (λi ys H1 h=>?_) (λi v ys H1 hv h=>?_) (λys H1 h=>?_)
        . let{_,8,s1,_}:=h;show AB.of (s1 _ _ hlx)
        . let{hi,rs,0,hrl,_}:=h;rw[zC,hrl];show A5 ()
        . let{_,rs,0,hrl,hR,s1,kD}:=h;rw[zM] at hv;cases ha:as'[i]? with
          | none=>rw[ha] at hv;ext hv
          | some a=>
          rw[ha] at hv;ext hv;let{es,kB,LE}:=hAx i a ha;let hia:=(zE.mp ha).1;show{{3},?_};show BW ?_;show{1,la,0,{_,AB.of (s1 _ _ hlx)},[.ref a],0,λD2 jx=>?_};let nDD:D≠D2:=zl kD jx;show BS (a:=la) (xs:=as'.map V.ref) (λj zs H2=>j<=I.length/\zs=((I.take j).map λb=>tv es b).map oV/\AE H1 H2/\H2 D2=some (.lst zs)) {zj _,0,zH jx,zI} (λj zs H2 h=>?_) (λj zs H2 h=>?_) (λj v zs H2 hv h=>?_) (λzs H2 h=>?_)
          . show AB.of (h.2.2.1 _ _ (s1 _ _ hlx))
          . let{hj,0,_}:=h;rw[zC,zC,ze];show A5 ()
          . let{1,s2,h2}:=h;rw[zM] at hv;cases hb:as'[j]? with
            | none=>rw[hb] at hv;ext hv
            | some b=>
            rw[hb] at hv;ext hv;let{fs,kR,LF'}:=hAx j b hb;let hjb:=(zE.mp hb).1;show{{3},?_};show BW ?_;show{4,a,b,es,fs,0,(LE.same s1).same s2,(LF'.same s1).same s2,(kd.kd fs (zQ kR)).hub,λH3 s3=>?_};show{s3 _ _ h2,(),?_,Ar (s2.trans s3) jx,zI};rw[zt,kR,zP,zP];rfl
          . let{1,s2,h2}:=h;rw[zC,halx,zb (zJ _)] at h2;let hDD:=s2 _ _ kD;let kp:∀(r:Addr)(u:List V),r≠D->H2 r=some (.lst u)->(upd H2 D (.lst (rs.map V.ref++[.ref D2]))) r=some (.lst u):=λr u n z=>by rw[zi n];show z
            show{hDD,(),rs++[D2],by rw[zP];rfl,by rw[zK,hrl];rfl,λj r lI=>?_,Ar (s1.trans s2) hD,zI};by_cases cj:j<rs.length
            . rw[zV cj] at lI;let{ne,lP,e1,e2}:=hR j r lI;show{ne,lP,e1,kp r _ ne (s2 _ _ e2)}
            . rw[zS ()] at lI;cases hz:j-rs.length with
              | zero=>
               rw[hz] at lI;let e1:D2=r:=‹lI›
               subst e1;let ej:j=i:=()
               subst ej;show{nDD.symm,es,kB,kp D2 _ nDD.symm h2}
              | succ z=>rw[hz] at lI;simp at lI
        . let{_,rs,0,hrl,hR,s1,kD}:=h;rw[zC,halx] at hrl;let TB:Fg K H1 D (Ht I):={rs,AD.of kD,by unfold Ht;rw[zC,hrl],λj r row lI hrow=>by let{_,es,e1,e2}:=hR j r lI;unfold Ht at hrow;rw[zM,e1] at hrow;rw[<-zZ hrow];show e2}
          clear hR kD;let s01:=s06.trans s1;show{1,4,dp,D,n,ts,I,kvs,0,G,kd,s1 _ _ hdp6,pd,TB,λo vf H2 ht Sf s2=>?_};let s02:=s01.trans s2;show{7,?_};cases o with
          | some dt=>rw[zW (Ny Sf ht.nn)];show AZ {1,Ad,λq hq=>?_};show k _ q _ (fo _ (.tie dt OW UP ht)) (s02.trans (zH hq)) (.tup zI (.cons (.str _) (.cons (CJ (zH hq) Sf) .nil)))
          | none=>
           cases Nf Sf;rw[zO rfl];show Ab ?_;show{1,la,I,0,LA.keep λb us e=>s02 _ _ e,(),h24,λhn ys H5 s5 h5 HU=>?_};let TB5:=Rh TB (s2.trans s5);let mR:=s5 _ _ (s2 _ _ (s1 _ _ hdp6));let mq:=s02.trans s5;show{hn,0,{_,AD.of h5},Jf (K:=K) (a:=hn) (xs:=ys) (λi σ H6=>NM λ(v3 v6 v7 v8 v9:Option V)=>σ=[⇑wa,⇑la,some (.int n),v3,⇑dp,⇑fl,v6,v7,v8,v9,⇑D,some .non]/\AE H5 H6/\∀(j:Nat)(x:Nat×En),j<i->(Bu I I.length)[j]?=some x->NK ts I x.1 x.2)
            {8,1,AE.refl _,λj x z=>absurd z (C2 _)} (λi σ H6 hi z=>?_) (λi y σ H6 hy z=>?_) (λσ H6 z=>?_)}
           . let{2,8,s6,_}:=z;show AD.of (s6 _ _ h5)
           . let{v3',v6',v7',v8',v9',0,s6,all}:=z;let{c,U,e,0,n5,hc}:=HU.2 i y hy;let hm:=zQ n5;let{m1,m2}:=GN hm;let{u,dn,m3,hd1,u0,u1,d0,d1}:=((kd.at m1).ent e m2).far (M6 hm);let ll:H6 c=some (.tup [.int (U:Int),.int e.h,.int e.l,.int u,.int dn]):=by rw[s6 _ _ hc];unfold eV;rw[m3,hd1];rfl
             let s06:=mq.trans s6;show{c,1,AB.of ll,0,6,6,6,6,5,?_};let ret:∀(H7:Hp)(q J:Addr),AE H H7->H7 q=none->(upd H7 q (.tup [.int (U:Int),.int e.h])) J=none->¬ NK ts I U e->Q (.ref J) (upd (upd H7 q (.tup [.int (U:Int),.int e.h])) J (.tup [.str "down",.ref q])):=λH7 q J s7 hq lJ nu=>two _ U e.h H7 q J s7 hq lJ (.down _ OW UP ht {i,(U,e),n5,nu,0,λk' y hk hy=>all k' y hk hy});show{4,Ad,λp hp=>?_};let s7:=s6.trans (zH (o:=.tup [.int e.h,.int dn]) hp);let s07:=mq.trans s7;show{1,dp,1,Az.t (k:=[Sum.inl e.h,Sum.inl dn]) (s7 _ _ mR) zI,1,A3 (λc1=>?_) (λc1=>?_)}
             . show AZ {4,Ad,λq hq=>{Ad,λJ lJ=>ret _ q J s07 hq lJ ?_}};rintro ⟨u',t',f',h1,h2,_⟩;rw[hd1] at h1;ext h1;let:=(pd.some e.h dn).mpr ⟨t',h2⟩;rw[this] at c1;ext c1
             . let c1':(AW kvs [Sum.inl e.h,Sum.inl dn]).isSome=true:=by
                cases z:(AW kvs [Sum.inl e.h,Sum.inl dn]).isSome with
                | true=>rfl
                | false=>rw[z] at c1;show absurd rfl c1
               let{t,ad}:=(pd.some e.h dn).mp c1';let kG:=((pd e.h dn).1 t).mpr ad;let di:=MN kd G m1 hd1 ad;let{xs1,r1,ys1,g1,g2,g3,g4}:=Tz (Rh TB5 s7) (u:=dn.toNat) (v:=U) () m1;rw[show ((dn.toNat:Nat):Int)=dn by lia] at g2;show{4,D,2,.ref r1,3,g1,g2,1,r1,9,g3,g4,?_};show{4,4,Ad,λp2 kM=>?_};let s8:=s7.trans (zH (o:=.tup [.int e.h,.int dn]) kM);show{dp,1,kG ▸ Az.t (k:=[Sum.inl e.h,Sum.inl dn]) (s8 _ _ mR) zI,5,Tr _ (some (e.l-t)),1,?_};change (if (!decide (oV (tv (I.getD dn.toNat []) (I.getD U []))=oV (some (e.l-t))))=true then _ else _)
               rw[Nx];by_cases cu:tv (I.getD dn.toNat []) (I.getD U [])=some (e.l-t)
               . rw[zO cu];show Ab {8,1,s8,λj x hj hx=>?_};by_cases q:j=i
                 . subst q;rw[n5] at hx;ext hx;show di.mpr cu
                 . show all j x () hx
               . rw[zW cu];show AZ {4,Ad,λq hq=>{Ad,λJ lJ=>ret _ q J (mq.trans s8) hq lJ λz=>cu (di.mp z)}}
           . let{v3',v6',v7',v8',v9',0,s6,all}:=z;let DN:Rr ts I none:=λx hx=>by let{j,hj,ej}:=zf hx;show all j x (by rw[HU.1];show hj) (by rw[zB hj,ej])
             show{Ce,λq hq=>?_};show k none q _ (fo _ (.none OW UP ht DN)) ((mq.trans s6).trans (zH hq)) (.tup zI .nil)
inductive WQ (vs:List V)(H:Hp)(Q:VK):Prop
 | mk:∀(wa:Addr)(v:V)(d:PyData)(n:Int)(ts:List T3),(vs=[.ref wa,v])->(Ap H wa n ts)->(AX H v d)->((Ck n ts d none->∀H',AE H H'->Q (.bl true) H'))->(∀(x:Str)(e:PyData)(q:Addr)(H':Hp),Ck n ts d (some (x,e))->AE H H'->AX H' (.ref q) (.tuple [.str x,e])->Q (.ref q) H')->WQ vs H Q
def PF:Sp:=λo H Q _=>WQ o H Q
def Ha:AR ["_law_web_here","_law_thing","_law_found_here","e","_law_others"] HH.p (defScope HH.s):=Aa
def Jx (U:Ws P w K mg base C):Fz P w K mg base 8 HH PF:=by
 let{cW,c1,c2,c3,c4,c5,c6,c7,c8,c9,c10,c11,J}:=U.Er;let{8,EI}:=U.I;let{fL,fdL,bL,mL,kL,GL}:=iQ U;obtain⟨h1,h2,h3,h4,h5,h6⟩:mg "NoLeast"=⇑c1/\mg "NoOrder"=⇑c2/\mg "NoPart"=⇑c3/\mg "NoPlan"=⇑c4/\mg "NoPosts"=⇑c5/\mg "NoRing"=⇑c6:=by let:=J.m1;simpa using this
 obtain⟨h7,h8,h9,h10,h11⟩:mg "NoRow"=⇑c7/\mg "NoText"=⇑c8/\mg "NoTie"=⇑c9/\mg "NoTree"=⇑c10/\mg "TooMany"=⇑c11:=by let:=J.m2;simpa using this
 let qC:Ff K C=true:=by unfold Ff;rw[EI.cl];rfl
 show U.Fo.okZ Ha λ_ _ A _ _ H vs Q E hr h=>?_;let{wa,v,d,n,ts,0,W,S,kY,kN}:=h;show{_,zT (AO (i:=2) Ha.nd Di)
  (zT (jH (i:=3) Ha.nd rfl rfl rfl rfl rfl J.mW J.qW (fJ (i:=2) Ha.nd rfl (Or.inl rfl) (GL.mono) hr rfl mL kL bL (zD (pv 0) (zD (pv 1) zN)))
   (λea oe c hc=>zT (AO (i:=4) Ha.nd (Af (ZU (RQ hc)) U.mIsi (zD (pv 3) (zD (AU (zD (Eh (v:=.ref c1) rfl h1 rfl) (zD (Eh (v:=.ref c2) rfl h2 rfl) (zD (Eh (v:=.ref c3) rfl h3 rfl) (zD (Eh (v:=.ref c4) rfl h4 rfl) (zD (Eh (v:=.ref c5) rfl h5 rfl) (zD (Eh (v:=.ref c6) rfl h6 rfl) zN))))))) zN))))
    (zT (AO (i:=4) Ha.nd (Im (pv 4) (Ct (Af (ZU (RQ hc)) U.mIsi (zD (pv 3) (zD (AU (zD (Eh (v:=.ref c7) rfl h7 rfl) (zD (Eh (v:=.ref c8) rfl h8 rfl) (zD (Eh (v:=.ref c9) rfl h9 rfl) (zD (Eh (v:=.ref c10) rfl h10 rfl) (zD (Eh (v:=.ref c11) rfl h11 rfl) zN)))))) zN))))))
    (zT (AO (i:=2) Ha.nd (AU (zD Di zN)))
    (zc (Ac (PW.pt (DT (CG (Af (ir (RQ hc)) U.mIsi (zD (pv 3) (zD (Eh (v:=.ref C) rfl J.mP rfl) zN)))) (DT (CG (Af (cy (RQ hc)) U.mIsi (zD (pv 3) (zD (F3 (T := "ValueError") U.mVal) zN)))) (EW (DA (CG (pv 4)))))))
     (zc (AO (i:=2) Ha.nd (AU (zD (YN (pv 3)) (zD (YN (pv 3)) zN))))) Ae))))))
  (zc (AL (pv 2)))),?_}
 show{4,wa,v,d,n,ts,0,W,S,λfo H' s'=>{1,kY fo H' s'},λx e at' dx H' fo s' Sa mZ=>?_};show{C,0,qC,J.sb,λea oe ws hc hd hf hea=>?_};show{1,jf,λp hp=>?_};show{p,[c1,c2,c3,c4,c5,c6],false,J.ex,0,zI,J.k1,?_};let s1:=zH (o:=.tup ([c1,c2,c3,c4,c5,c6].map V.ref)) hp;show{1,false,0,Ab ?_};show{1,je,λp2 kM=>?_};let s2:=s1.trans (zH (o:=.tup ([c7,c8,c9,c10,c11].map V.ref)) kM);show{p2,[c7,c8,c9,c10,c11],false,J.ex,0,zI,J.k2,?_};show{NQ,λp3 hp3=>?_};let s3:=s2.trans (zH (o:=.tup [.str "class"]) hp3);show{1,C,true,J.ex,0,J.kP,true,0,AZ ?_};show{1, "ValueError",true,J.ex,0,J.kV,true,0,AZ ?_};show{1,false,0,AZ ?_};show{1,ea,C,dx,_,.str x,0,ZS hc hd hf,EI.cl,J.ex,J.n1,s3 _ _ mZ,0,1,ea,C,dx,_,at',0,ZS hc hd hf,EI.cl,J.ex,J.n2,s3 _ _ mZ,0,Ad,λp4 hp4=>?_};let s4:=s3.trans (zH (o:=.tup [.str x,at']) hp4);show{1,kN x e p4 _ fo (s'.trans s4) (.tup zI (.cons (.str _) (.cons (CJ s4 Sa) .nil)))}
def bD (ha:Fn n p a)(hb:Fn n p b):Fn (2*(n+1)) (p+1) (.tuple [a,b]):=GR (λd hd=>by
 simp only[za,FD,or_false] at hd;rcases hd with rfl | rfl
 . show ha
 . show hb) (zJ 2)
def jV (h:Ck n ts d (some (x,e)))(G:GW n ts):Fn 300000 50 (.tuple [.str x,e]):=by
 let key:∀(y:Str)(e:PyData),y.length<=12->PyData.strOk y=true->Fn 500 1 e->Fn 300000 50 (.tuple [.str y,e]):=λy e h1 h2 h3=>(bD ((KQ (BC h1 (by decide)) h2).mono (by decide) (zj _)) h3).mono (by decide) (by decide);let hn:=G.n24;let pr:∀(i h:Int),i.natAbs<=100->h.natAbs<=100->Fn 500 1 (.tuple [.int i,.int h]):=λi h a b=>(bD (n:=140) (p:=0) (Jc (i:=i) ()) (Jc (i:=h) ())).mono (by decide) (by decide);cases h with
 | shape _=>show key _ _ (by decide) (by decide +kernel) (XT.mono (by decide) (by decide))
 | lab J f hl ed l=>
  let{kJ,e1,kd}:=QS hl;cases UB (ed.symm.trans e1);let nM:=kd.ln;let I:∀(j:Nat)(y:Nat×En),(Bu J J.length)[j]?=some y->Fn 500 1 (Fb y):=λj y C=>by let{m1,U}:=GN (zQ C);let:=((kd.at m1).ent _ U).rng;show pr _ _ () ()
  cases l with
  | own d h=>let{m,i,hi,1,_}:=h;let:=Cs.mp (zQ hi);show key _ _ (by decide) (by decide +kernel) ((Jc ()).mono (by decide) (by decide))
  | up d o h=>let{m,y,C,1,_}:=h;show key _ _ (by decide) (by decide +kernel) (I m y C)
  | down d o u t h=>let{m,y,C,1,_}:=h;show key _ _ (by decide) (by decide +kernel) (I m y C)
  | tie d o u h=>let{a,b,c,ha,hb,hc,1,_}:=h;show key _ _ (by decide) (by decide +kernel) ((GR (n:=140) (p:=0) (L:=3) (ds:=[.int (a:Int),.int (b:Int),.int (c:Int)]) (λd hd=>?_) (zJ 3)).mono (by decide) (by decide));simp only[za,FD,or_false] at hd;rcases hd with rfl | rfl | rfl <;> show Jc ()
def AN.neT (h:AN H t N)(hb:H b=some (.tup ys)):b≠t:=by let{p,ns,o,rest,a,_}:=h;show BA hb a (by intro z;ext z)
def Pw (o):AX H (oV o) (oD o):=by cases o with
 | none=>show .non
 | some i=>show .int i
def N9 (h:H a=some (.tup (eV e))):AX H (.ref a) (CT e):=.tup h (.cons (.int _) (.cons (.int _) (.cons (Pw _) (.cons (Pw _) .nil))))
def YC :∀{as:List Addr}{es:List En},Ah H as es->B0 H (as.map V.ref) (es.map CT)
 | [],[],_=>.nil
 | [],_::_,h=>by cases h.1
 | _::_,[],h=>by cases h.1
 | a::as,e::es,h=>by
  show .cons ?_ (YC {by let:=h.1;simpa using this,λi b hb=>?_})
  . let{I,C,o}:=h.2 0 a rfl;ext C;show N9 o
  . let{I,C,o}:=h.2 (i+1) b ‹hb›;show{I,‹C›,o}
def Wj :∀{as:List Addr}{o:List (List En)},as.length=o.length->(∀(i:Nat)a,as[i]?=some a->∃es,o[i]?=some es/\A1 H a es)->B0 H (as.map V.ref) (o.map G6)
 | [],[],_,_=>.nil
 | [],_::_,h,_=>by ext h
 | _::_,[],h,_=>by ext h
 | a::as,es::o,h,g=>by
  show .cons ?_ (Wj ‹h› λi b hb=>?_)
  . let{J,I,bs,C,U,_}:=g 0 a rfl;ext I;show .tup C (YC U)
  . let{J,I,C}:=g (i+1) b ‹hb›;show{J,‹I›,C}
inductive XW (vs:List V)(H:Hp)(Q:VK):Prop
 | mk:∀(t:Addr)(N:Nat),(vs=[.ref t])->(AN H t N)->(N<900000)->(∀(wa:Addr)(n:Int)(ts:List T3)(H':Hp),Ap H' wa n ts->ts.length<=23->AN H' t (N+100)->Sm t H H'->Q (.ref wa) H')->XW vs H Q
def N7:Sp:=λo H Q _=>XW o H Q
inductive Va (row:List Int)(i:Nat)(t:T3):Prop
 | mk:∀x y,(row[i]?=some x)->(row[i+1]?=some y)->(t.1<t.2.1)->(((t.1=x/\t.2.1=y)\/(t.1=y/\t.2.1=x)))->(1<=t.2.2)->(t.2.2<=99)->Va row i t
def Z6 (row:List Int)(i:Nat)(t:T3):Prop:=Va row i t
def L4 (h1:1<=n)(h24:n<=24)(hp:row.Perm (lowTo n.toNat))(hl:ts.length+1=n.toNat)(ht:∀i t,ts[i]?=some t->Z6 row i t)(hq:ts'.Perm ts):GW n ts':=by
 let nd:row.Nodup:=hp.nodup_iff.mpr ((Qr _).imp λh=>());let inr:∀x∈row,0<=x/\x<n:=λx o=>by
  let:=mem_ints.mp (hp.mem_iff.mp o)
  lia
 show{h1,h24,by rw[hq.length_eq];lia,λt htt=>?_,?_}
 . let{i,hi,e}:=zf (hq.mem_iff.mp htt);let{x,y,o,U,jy,C,c1,c2}:=ht i t (by rw[zB hi,e]);let a:=inr x (zQ o);let b:=inr y (zQ U);rcases C with ⟨e1,e2⟩ | ⟨e1,e2⟩ <;> lia
 . show (hq.pairwise_iff (λ{a b} h z=>h ⟨z.1.symm,z.2.symm⟩)).mpr ?_;show Ed.mpr λi j hi hj kX=>?_;let{x,y,o,U,jy,C,_}:=ht i ts[i] (zB hi);let{J,y',ju,j6,m8,I,_}:=ht j ts[j] (zB hj);rintro ⟨e1,e2⟩;let inj:∀{a b:Nat}{v:Int},row[a]?=some v->row[b]?=some v->a=b:=λ{a b v} h h'=>(List.getElem?_inj (zE.mp h).1 nd).mp (h.trans h'.symm);rcases C with ⟨p1,p2⟩ | ⟨p1,p2⟩ <;> rcases I with ⟨q1,q2⟩ | ⟨q1,q2⟩
   . let:x=J:=()
     rw[this] at o;let:=inj o ju
     lia
   . let f1:x=y':=()
     let f2:y=J:=()
     rw[f1] at o;rw[f2] at U;let:=inj o j6
     lia
   . let f1:y=J:=()
     let f2:x=y':=()
     rw[f2] at o;let:=inj o j6
     lia
   . let:x=J:=()
     rw[this] at o;let:=inj o ju
     lia
def Uq {row:List Int}{i:Nat}(C:row[i]?=some x)(o:row[i+1]?=some y):CA (row.map V.int) (some (i:Int)) (some ((i:Int)+2))=[x,y].map V.int:=by
 let J:=(zE.mp C);let I:=(zE.mp o);let{b1,e1}:=J;let{b2,U}:=I;let s1:HT.sIx (row.map V.int).length 0 (some (i:Int))=i:=by unfold HT.sIx;rw[zC];simp only;split <;> lia
 let s2:HT.sIx (row.map V.int).length (row.map V.int).length (some ((i:Int)+2))=i+2:=by unfold HT.sIx;rw[zC];simp only;split <;> lia
 unfold CA;rw[s1,s2,show i+2-i=2 by lia,<-List.map_drop,<-List.map_take,My b1,My b2,e1,U];rfl
def bR {x:Int}(U:x≠y)(o:ms.Perm [x,y])(C:ms.Pairwise (· <= ·)):∃a b,ms=[a,b]/\a<b/\((a=x/\b=y)\/(a=y/\b=x)):=by
 let I:=o.length_eq
 match ms,I with
 | [a,b],_=>
  let J:a<=b:=‹C›
  let ha:a=x\/a=y:=by simpa using o.mem_iff.mp (show a∈[a,b] by simp)
  let hx:x=a\/x=b:=by simpa using o.mem_iff.mpr (show x∈[x,y] by simp)
  let hy:y=a\/y=b:=by simpa using o.mem_iff.mpr (show y∈[x,y] by simp)
  show{a,b,0,?_,?_}
  . lia
  . lia
def Iy:AR ["_law_tape_here","_law_n","_law_left","_law_row","_law_ties","_law_k","_law_pair"] Gv.p (defScope Gv.s):=Aa
def Kk:AC P w K mg base 2 Gv N7:=λJ=>by
 show J.Rw.okZ Iy λ_ _ A _ _ H vs Q E hr h=>?_;let{t,N,0,TT,hN,k}:=h;let{tp,TP}:=TT;show{_,zT (AO (i:=1) Iy.nd (AQ Br zg (AG (GY J) hr (zD (pv 0) (DF zN)))))
  (zT (Ez (i:=2) Iy.nd rfl (Or.inr rfl) (Xc rfl rfl J.mList rfl J.mRange (zD (pv 1) zN)))
  (zT (DW (i:=3) (own:=["_law_k"]) (cn:=["_law_left","_law_tape_here"]) (ci:=[2,0]) Iy.nd rfl (Or.inl rfl) rfl (Ax rfl rfl) {3,3,3,trivial} rfl
   (BX rfl J.mRange (zD (pv 1) zN)) (λ_ _ _ _=>Aw) (λ_ _ _ _=>BM)
   (λ_ _ _ _=>KZ PySem.F.plainAttrs_list PySem.F.slot_list_pop PySem.F.type_list_pop Xf (pv 1)
    (zD (AG (GY J) hr (zD (pv 2) (zD (Af eU J.mLen (zD (pv 1) zN)) zN))) zN)))
  (zT (AO (i:=4) Iy.nd (BR zN))
  (zT (A0 (BX rfl J.mRange (zD (AQ Dh (pv 1) zg) zN)) (AY (i:=5) Iy.nd)
   (zT (AO (i:=6) Iy.nd (Af dD J.mSorted (zD (Dj Yw (pv 3) (DY (pv 5)) (DY (AQ Br (pv 5) zg))) zN)))
   (zc (C1 (C3 PySem.F.plainAttrs_list PySem.F.slot_list_append PySem.F.type_list_append FF (pv 4)
    (zD (AU (zD (zv AS (pv 6) zg) (zD (zv AS (pv 6) zg) (zD (AQ Dh zg (AG (GY J) hr (zD (pv 0) (DF zN)))) zN)))) zN))))))
  (zc (AL (AU (zD (pv 1) (zD (B5 DH J.mTuple (zD (Af YW J.mSorted (zD (pv 4) zN)) zN)) zN))))))))),?_}
 show⟨_,rfl,t,tp,N,13,rfl,TP,(),by decide,by decide,λr H1 r0 r1 TP1 e1=>?_⟩;show⟨12,r,rfl,rfl,?_⟩;let s1:Sm t H H1:=λb o nb e=>by rw[e1 b nb];show e
 dsimp only;generalize hn:12+r=n;let lS:12<=n:=()
 let jz:n<=24:=()
 show{1,n,0,(),(),λlf hlf=>?_};let nlt:lf≠t:=by let{ns,jt,rest,a,_}:=TP1;show (zl a hlf).symm
 let nlp:lf≠tp:=by let{ns,jt,rest,_,a,_}:=TP1;show (zl a hlf).symm
 let hlf0:H lf=none:=by
  cases z:H lf with
  | none=>rfl
  | some o=>rw[s1 _ _ nlt z] at hlf;ext hlf
 show{1,n,0,(),(),[.ref lf,.ref t],0,λD hD=>?_};let nDl:D≠lf:=λz=>by rw[z,zI] at hD;ext hD
 let kD:H1 D=none:=by rw[zi nDl] at hD;show hD
 let nF:D≠t:=by let{ns,jt,rest,a,_}:=TP1;show (zl a kD).symm
 let nDp:D≠tp:=by let{ns,jt,rest,_,a,_}:=TP1;show (zl a kD).symm
 let hD0:H D=none:=by
  cases z:H D with
  | none=>rfl
  | some o=>rw[s1 _ _ nF z] at kD;ext kD
 show JB (lo:=0) (n:=n.toNat) (λq ys H2=>q<=n.toNat/\Es λ(row left:List Int)=>ys=row.map V.int/\row.length=q/\(row++left).Perm (lowTo n.toNat)/\H2 lf=some (.lst (left.map V.int))/\H2 D=some (.lst ys)/\Ao H2 t tp (N+1+q)/\Sm t H H2)
  {zj _,[],lowTo n.toNat,3,List.Perm.refl _,by rw[zi nDl.symm,zI],zI,TP1.keepF (λo e=>by rw[zi nF.symm,zi nlt.symm];show e) (λo e=>by rw[zi nDp.symm,zi nlp.symm];show e) (),(s1.chg hlf0).chg hD0} (λq ys H2 h=>?_) (λq ys H2 hq h=>?_) (λys H2 h=>?_)
 . let{hq,row,left,0,hl,_}:=h;rw[zC,hl];show BL ()
 . let{_,row,left,0,hl,hp,lK,jx,TP2,s2}:=h;let hll:row.length+left.length=n.toNat:=by let:=hp.length_eq;rw[zK,RN] at this;show this
   show{{3},?_};show BW ?_;show{1,.inl {0,_,AD.of lK},?_};show{4,lf,1,.inl (AD.of lK),t,tp,N+1+q,1,TP2,(),by rw[zC];lia,by rw[zC];lia,λrr H3 h0 h1 I e3=>?_};rw[zC] at h1;let jy:rr.toNat<left.length:=()
   show{lf,left.map V.int,rr,rr.toNat,.int left[rr.toNat],3,by rw[e3 lf nlt];show lK,(),(),PySem.StrLaws.seqIndex_nonneg h0 (by rw[zC];lia),by rw[zM,zB jy];rfl,?_};let eer:(left.map V.int).eraseIdx rr.toNat=(left.eraseIdx rr.toNat).map V.int:=SA left rr.toNat
   rw[eer];let s3:Sm t H H3:=λb o nb e=>by rw[e3 b nb];show s2 b o nb e
   show{by rw[zi nDl,e3 D nF];show jx,hq,row++[left[rr.toNat]],left.eraseIdx rr.toNat,by rw[zP];rfl,by rw[zK,hl];rfl,?_,by rw[zi nDl.symm,zI],zI,I.keepF (λo e=>by rw[zi nF.symm,zi nlt.symm];show e) (λo e=>by rw[zi nDp.symm,zi nlp.symm];show e) (),(s3.chg hlf0).chg hD0};show List.Perm.trans ?_ hp;rw[B8];show (Sg jy).append_left row
 . let{_,row,left,0,hl,hp,lK,jx,TP2,s2}:=h;let nr:left=[]:=by let:=hp.length_eq;rw[zK,RN,hl] at this;show JW.mp ()
   subst nr;rw[Bq] at hp;let nd:row.Nodup:=hp.nodup_iff.mpr ((Qr _).imp λh=>());show{zj _,λU htl=>?_};let ntt:U≠t:=by let{ns,jt,rest,a,_}:=TP2;show (zl a htl).symm
   let ntp:U≠tp:=by let{ns,jt,rest,_,a,_}:=TP2;show (zl a htl).symm
   let ntD:U≠D:=(zl jx htl).symm;let htl0:H U=none:=by
    cases z:H U with
    | none=>rfl
    | some o=>rw[s2 _ _ ntt z] at htl;ext htl
   show⟨_,rfl,n,1,rfl,rfl,n-1,rfl,(),(),CL (lo:=0) (n:=(n-1).toNat)
    (λi σ H3=>i<=(n-1).toNat/\∃(v5 v6:Option V)(zs:List V)(ts:List T3),σ=[⇑t,some (.int n),⇑lf,⇑D,⇑U,v5,v6]/\Sm t H H3/\H3 D=some (.lst (row.map V.int))/\H3 U=some (.lst zs)/\Au H3 zs (ts.map tl)/\ts.length=i/\(∀j t,ts[j]?=some t->Z6 row j t)/\Ao H3 t tp (N+30+i))
    {zj _,2,[],[],0,s2.chg htl0,by rw[zi ntD.symm];show jx,zI,trivial,0,λj t h=>by simp at h,TP2.keepF (λo e=>by rw[zi ntt.symm];show e) (λo e=>by rw[zi ntp.symm];show e) ()} ?turn ?after⟩
   case turn=>
    rintro i σ H3 hi ⟨_,v5,v6,zs,ts,rfl,s3,kC,hz3,TA3,hts,hrt,I⟩;rw[Bi];obtain⟨x,hx⟩:∃x,row[i]?=some x:={_,zB (by grind)};obtain⟨y,hy⟩:∃y,row[i+1]?=some y:={_,zB (by grind)};let mT:x≠y:=λz=>by
     subst z;let:=(List.getElem?_inj (zE.mp hx).1 nd).mp (hx.trans hy.symm)
     lia
    show⟨_,rfl,_,rfl,(i:Int),rfl,_,rfl,(i:Int),2,rfl,rfl,(i:Int)+2,rfl,D,_,rfl,AD.of kC,λc1 hc1=>?_⟩;rw[Uq hx hy];show{c1,[x,y],0,AD.of zI,by change 2<64;decide,λc2 ms nT hpm hrm=>?_};let{a,b,0,kW,hor}:=bR mT hpm hrm;let s4:AE H3 (upd (upd H3 c1 (.lst ([x,y].map V.int))) c2 (.lst ([a,b].map V.int))):=(zH hc1).trans (zH nT);let hc24:(upd (upd H3 c1 (.lst ([x,y].map V.int))) c2 (.lst ([a,b].map V.int))) c2=some (.lst ([a,b].map V.int)):=zI;generalize upd (upd H3 c1 (.lst ([x,y].map V.int))) c2 (.lst ([a,b].map V.int))=H4 at s4 hc24 ⊢;let TP4:Ao H4 t tp (N+30+i):=I.keepF (λo e=>s4 _ _ e) (λo e=>s4 _ _ e) (zJ _);show{1,.inl {0,_,AD.of (s4 _ _ hz3)},?_};show{1,c2,2,.int a,3,AD.of hc24,0,1,c2,2,.int b,3,AD.of hc24,0,?_};show⟨_,rfl,t,tp,N+30+i,3,rfl,TP4,by grind,by decide,by decide,λdr H5 d0 d1 TP5 e5=>?_⟩;show⟨99,dr,rfl,rfl,?_⟩;show{Eu,λq hq=>?_};let hz5:H5 U=some (.lst zs):=by rw[e5 U ntt];show s4 _ _ hz3
    let ko:H5 D=some (.lst (row.map V.int)):=by rw[e5 D nF];show s4 _ _ kC
    let nqt:U≠q:=zl hz5 hq;show{U,zs,_,3,by rw[zi nqt];show hz5,?_,?_}
    . let e:=TA3.length;rw[zC,hts] at e;show BL (by grind)
    let s5:Sm t H H5:=λb o nb e=>by rw[e5 b nb];show s4 _ _ (s3 b o nb e)
    show{hi,_,2,ts++[(a,b,99-dr)],0,(s5.trans (Sm.laid hq)).chg htl0,?_,zI,?_,by rw[zK,hts];rfl,?_,?_}
    . rw[zi ntD.symm,zi (zl ko hq)];show ko
    . rw[zP];show (TA3.keep λc xs e=>?_).snoc {q,0,by rw[zi nqt.symm,zI];rfl,by simp[tl]};let e':H5 c=some (.tup xs):=by
       let nct:c≠t:=by let{ns,jt,rest,a,_}:=I;show BA e a (by intro z;ext z)
       rw[e5 c nct];show s4 _ _ e
      rw[zi (BA e' hz5 (by intro z;ext z)),zi (zl e' hq)];show e'
    . intro j tt hj;by_cases hjl:j<ts.length
      . rw[zV hjl] at hj;show hrt j tt hj
      . rw[zS ()] at hj;cases hz:j-ts.length with
        | zero=>
         rw[hz] at hj;let e:(a,b,99-dr)=tt:=‹hj›
         subst e;let ej:j=i:=()
         subst ej;show{x,y,hx,hy,kW,hor,by change 1<=99-dr;lia,by change 99-dr<=99;lia}
        | succ m=>rw[hz] at hj;simp at hj
    . let nqtt:q≠t:=by let{ns,jt,rest,a,_}:=TP5;show (zl a hq).symm
      let nqtp:q≠tp:=by let{ns,jt,rest,_,a,_}:=TP5;show (zl a hq).symm
      show TP5.keepF (λo e=>by rw[zi ntt.symm,zi nqtt.symm];show e) (λo e=>by rw[zi ntp.symm,zi nqtp.symm];show e) ()
   case after=>
    rintro σ H3 ⟨_,v5,v6,zs,ts,rfl,s3,kC,hz3,TA3,hts,hrt,I⟩;show{4,U,zs,ts.map tl,0,AD.of hz3,TA3,by rw[zC];grind,λl1 us ms hl1 TA4 hpm _=>?_};show{l1,us,0,.inl {AD.of zI,λl2 ku=>?_}};obtain⟨ts',ets,hpt⟩:∃ts':List T3,ts'.map tl=ms/\ts'.Perm ts:=by
     show{ms.map λk=>(k.getD 0 0,k.getD 1 0,k.getD 2 0),?_,?_}
     . rw[Bn]
       conv=>rhs;rw[<-List.map_id ms]
       show JR λk hk=>?_;let{t',1}:=zk.mp (hpm.mem_iff.mp hk);rfl
     . let:=hpm.map λk:List Int=>((k.getD 0 0,k.getD 1 0,k.getD 2 0):T3);rw[Bn] at this;let e:ts.map ((λk:List Int=>((k.getD 0 0,k.getD 1 0,k.getD 2 0):T3))∘tl)=ts:=by
        conv=>rhs;rw[<-List.map_id ts]
        show JR λt' _=>rfl
       rw[e] at this;show this
    let G:GW n ts':=L4 () jz hp (by grind) hrt hpt;show{Ad,λwa kF=>?_};let nV:AE H3 (upd (upd (upd H3 l1 (.lst us)) l2 (.tup us)) wa (.tup [.int n,.ref l2])):=((zH hl1).trans (zH ku)).trans (zH kF);show k wa n ts' _ {l2,us,zI,?_,?_,G} (by rw[hpt.length_eq];grind) {tp,I.keepF (λo e=>nV _ _ e) (λo e=>nV _ _ e) (by grind)} (s3.trans (Sm.of nV))
    . rw[zi (zl zI kF)];show zI
    . rw[ets];show TA4.keep λc xs e=>nV _ _ e
def VB (ts:List T3)(o:List (List En))(u v:Nat):Prop:=∀(w t:Int) lv lw,An ts v w t->B3 (Cd (o.getD v []) (o.getD u [])) lv->B3 (Cd (o.getD w.toNat []) (o.getD u [])) lw->∀c,lv=some c->∃C,lw=some C/\C.1<=c.1+t
structure Gk (ts:List T3)(n:Int)(js:List (List En)):Prop where
 own:∀(i:Nat) e r,i<js.length->(js.getD i []).filter (λe=>decide (e.l=0))=e::r->e.h=i
 up:∀i e,Kj js i e->Dd ts js i e
 tie:∀u v:Nat,u<js.length->v<js.length->VB ts js u v
 dn:∀i e,Kj js i e->NK ts js i e
def RO.let (G:GW n ts)(L:RO ts n js)(U:∀i e p,Kj js i e->e.u=some p->BF ts i e.h p->∃f∈js.getD p.toNat [],f.h=e.h):Gk ts n js:=by
 let nM:=L.ln;let lg:∀i,i<js.length->LG ts n i (js.getD i []):=λi hi=>L.lg i _ (getD_some hi);let J:∀ {i j lm},i<js.length->j<js.length->B3 (Cd (js.getD i []) (js.getD j [])) lm->Cu ts i j (lm.map (·.1)):=λ{i j lm} hi hj h=>(dJ G (lg i hi) (lg j hj) (L.cov i j _ _ (getD_some hi) (getD_some hj)) h).1;show{λi e r hi hf=>?_,λi e F=>?_,λu v hu hv w t lv lw ha I h2 c hc=>?_,λi e F=>?_}
 . let{e',r',I,h2}:=(lg i hi).zero G;rw[hf] at I;ext I;show h2
 . let E:=(lg i F.hi).ent e F.mem;let ne:e.h≠i:=λz=>F.far ((GZ G E.len).mpr z.symm);let{p,C,x}:=E.up ne;let{f,hf,fh}:=U i e p F C x;let{l,b,ha,o,l4}:=x;let r:=G.adj ha;let Ef:=((lg p.toNat (by grind)).ent f hf).len;rw[fh,show ((p.toNat:Nat):Int)=p by lia] at Ef;show{p,l,f,C,ha,hf,fh,?_};rw[Ef.uniq o,E.len.uniq l4]
   lia
 . subst hc;let r:=G.adj ha;let a:=J hv hu I;let b:=J (i:=w.toNat) () hu h2;rw[show ((w.toNat:Nat):Int)=w by lia] at b;let wy:=(Way.one ha).symm.trans (show WM.IsD ts v u c.1 from a).1;cases lw with
   | none=>show absurd wy (b _)
   | some c'=>show{c',0,by let:=(show WM.IsD ts w u c'.1 from b).2 _ wy;lia}
 . let E:=(lg i F.hi).ent e F.mem;let ne:e.h≠i:=λz=>F.far ((GZ G E.len).mpr z.symm);let{p,C,l,b,ha,o,l4}:=E.dn ne;let r:=G.adj ha;let{lm,hm}:=Na (es:=js.getD p.toNat []) (lg i F.hi).hub;let b':=J (i:=p.toNat) (by omega) F.hi hm;rw[show ((p.toNat:Nat):Int)=p by lia] at b';cases lm with
   | none=>show absurd o.1 (b' b)
   | some c=>
    show{p,l,c,C,ha,hm,?_};let e1:c.1=b:=WM.IsD.uniq (show WM.IsD ts p i c.1 from b') o;rw[e1,E.len.symm.uniq l4]
    lia
def KW :decide (oV o=V.non)=o.isNone:=by
 cases o with
 | none=>rfl
 | some d=>show zW (by intro e;ext e)
structure Ex (ts:List T3)(v:Int)(e:En):Prop where
 len:WM.IsD ts v e.h e.l
 own:e.h=v->e.u=none/\e.d=none
 up:e.h≠v->∃p,e.u=some p/\BF ts v e.h p
 dn:e.h≠v->∃p,e.d=some p/\BF ts e.h v p
def Ex.of (G:GW n ts)(l:WM.IsD ts v e.h e.l)(a:F9 (BF ts v e.h) e.u)(b:F9 (BF ts e.h v) e.d):Ex ts v e:=by
 show{l,λz=>{?_,?_},λz=>?_,λz=>?_}
 . cases o:e.u with
   | none=>rfl
   | some m=>rw[o] at a;show absurd z.symm (a.1.ne G)
 . cases o:e.d with
   | none=>rfl
   | some m=>rw[o] at b;show absurd z (b.1.ne G)
 . let{p,C}:=BF.exists G l (Ne.symm z);show a.some_of C
 . let{p,C}:=BF.exists G l.symm z;show b.some_of C
def Ex.ok (G:GW n ts)(x:Ex ts v e)(r:0<=e.h/\e.h<n):GJ n e:=by show{r,x.len.1.nn G,λz=>x.own ((GZ G x.len).mp z).symm,λz=>?_};let ne:e.h≠v:=λq=>z ((GZ G x.len).mpr q.symm);let{u,o,I,b1,a1,_}:=x.up ne;let{d,hd,C,b2,a2,_}:=x.dn ne;let g1:=G.adj a1;let g2:=G.adj a2;show{u,d,o,hd,(),(),(),()}
def DG (es:List En)(h:Int):Prop:=∃e∈es,e.h=h
structure LM (Z:Int->List En->Prop)(ts:List T3)(n:Int)(v B:Int)(es:List En):Prop where
 hub:Bx es
 rng:∀e∈es,0<=e.h/\e.h<n
 nn:∀e∈es,0<=e.l/\e.l<=B
 own:∃e∈es,e.h=v
 zero:∀e∈es,e.l=0↔e.h=v
 rch:∀e∈es,∃d,WM.IsD ts v e.h d
 ud:Z v es
def A2 (Z:Int->List En->Prop)(ts:List T3)(n B:Int)(o:List (List En)):Prop:=∀(i:Nat)es,o[i]?=some es->LM Z ts n i B es
def LM.mono (h:LM Z ts n v B es)(c:B<=C):LM Z ts n v C es:={h.hub,h.rng,λe he=>by let:=h.nn e he;lia,h.own,h.zero,h.rch,h.ud}
def A2.mono (h:A2 Z ts n B js)(c:B<=C):A2 Z ts n C js:=λi es e=>(h i es e).mono c
def TU:∀es a n,Bx es->(∀e∈es,a<=e.h/\e.h<n)->es.length<=(n-a).toNat
 | [],_,_,_,_=>zj _
 | x::r,a,n,h,b=>by
  let o:=FO.mp h;let C:=b x zX;let:=TU r (x.h+1) n o.2 λe he=>by
   let J:=o.1 e he;let I:=b e (zd _ he)
   lia
  rw[zu]
  lia
def LM.len (h:LM Z ts n v B es)(o:n<=24):es.length<=24:=by
 let:=TU es 0 n h.hub h.rng
 lia
def LM.kind (h:LM Z ts n v B es)(n0:0<=n)(k:∀e∈es,GJ n e):Fv n es:=by
 show{k,h.hub,?_,?_}
 . let:=TU es 0 n h.hub h.rng
   lia
 . let{o,J,eo}:=h.own;let hm:o∈es.filter (λe=>decide (e.l=0)):=Dg.mpr {J,zO ((h.zero o J).mpr eo)};let C:∀x∈es.filter (λe=>decide (e.l=0)),x.h=v:=λx hx=>by let{h1,U}:=Dg.mp hx;show (h.zero x h1).mp (of_decide_eq_true U)
   let I:(es.filter (λe=>decide (e.l=0))).Pairwise λa b=>a.h<b.h:=List.Pairwise.filter _ h.hub;let this:(λx:Int=>x==0)∘(λe:En=>e.l)=λe=>decide (e.l=0):=by funext e;change (e.l==0)=decide (e.l=0);rw[Gd,F7,beq_iff_eq]
   rw[List.countP_map,List.countP_eq_length_filter,this];cases hf:es.filter (λe=>decide (e.l=0)) with
   | nil=>rw[hf] at hm;ext hm
   | cons a r=>
    rw[hf] at C I;cases r with
    | nil=>rfl
    | cons b r=>
     let h1:=C a zX;let U:=C b (zd _ zX);let:=(FO.mp I).1 b zX
     lia
def Vy (G:GW n ts)(d:WM.IsD ts v h l):l=0↔h=v:={λz=>((GZ G d).mp z).symm,λz=>(GZ G d).mpr z.symm}
def Oi (ts:List T3)(v:Int)(es:List En):Prop:=∀e∈es,Ex ts v e
def JV.lm (G:GW n ts)(L:JV ts n rk js)(b:∀es∈js,∀e∈es,0<=e.l/\e.l<=1660944384):A2 (Oi ts) ts n 1660944384 js:=λi es C=>by
 let o:=L.2 i es C;let m9:=(zE.mp C).1;let hl:=L.1;show{o.hub,λe he=>(o.ent e he).rng,λe he=>b es (zQ C) e he,o.all i () () {⟨0,F2 G i⟩,λp hp=>?_},λe he=>Vy G (o.ent e he).len,λe he=>{_,(o.ent e he).len},λe he=>Ex.of G (o.ent e he).len (o.ent e he).up (o.ent e he).dn};let{x,y,J,hy,U}:=hp;let e:=WM.IsD.uniq U (F2 G i);let h1:=J.1.nn G;let h2:=hy.1.nn G;let I:x=0:=()
 rw[<-(GZ G J).mp I];show FL _
def CZ (H:Hp)(bs:List Addr)(o:List (List En)):Prop:=bs.length=o.length/\∀(i:Nat)b,bs[i]?=some b->∃es,o[i]?=some es/\A1 H b es
def CZ.keep (h:CZ H bs js)(k:∀b ys,H b=some (.tup ys)->H' b=some (.tup ys)):CZ H' bs js:={h.1,λi b e=>let ⟨es,C,o⟩:=h.2 i b e;{es,C,o.keep k}}
def CZ.snoc (h:CZ H bs js)(L:A1 H b es):CZ H (bs++[b]) (js++[es]):=by
 show{by rw[zK,zK,h.1];rfl,λi c o=>?_};by_cases hi:i<bs.length
 . rw[zV hi] at o;let{fs,I,J}:=h.2 i c o;show{fs,by rw[zV (by rw[<-h.1];show hi)];show I,J}
 . rw[zS ()] at o;cases C:i-bs.length with
   | zero=>
    rw[C] at o;let I:b=c:=‹o›
    subst I;show{es,by rw[zS (by rw[<-h.1];lia),<-h.1,C];rfl,L}
   | succ z=>rw[C] at o;simp at o
def A2.snoc (h:A2 Z ts n B js)(I:js.length=q)(L:LM Z ts n q B es):A2 Z ts n B (js++[es]):=λi fs hf=>by
 by_cases hi:i<js.length
 . rw[zV hi] at hf;show h i fs hf
 . rw[zS ()] at hf;cases o:i-js.length with
   | zero=>
    rw[o] at hf;let C:es=fs:=‹hf›
    subst C;rwa[show i=q by lia]
   | succ z=>rw[o] at hf;simp at hf
def Ud (ts:List T3)(n:Int)(v:Int)(es:List En):Prop:=Oi ts v es/\∀h d,0<=h->h<n->WM.IsD ts v h d->DG es h
inductive aC (vs:List V)(H:Hp)(Q:VK):Prop
 | mk:∀(wa fl:Addr)(n:Int)(ts:List T3)(M:BV),(vs=[.ref wa,.ref fl])->(Ap H wa n ts)->(Bs H fl n ts M)->(∀(l:Addr)(js:List (List En))(H':Hp),AE H H'->A4 H' l js->js.length=n.toNat->A2 (Ud ts n) ts n 1660944384 js->Q (.ref l) H')->aC vs H Q
def Mj:Sp:=λo H Q _=>aC o H Q
def jS (m):(WM.lowTo m).Pairwise (· < ·):=by unfold WM.lowTo;rw[EZ];show List.pairwise_lt_range.imp λh=>by lia
def iM :p∈WM.lowTo m↔0<=p/\p<m:=WM.mem_ints
def eP (m):WM.lowTo (m+1)=WM.lowTo m++[(m:Int)]:=by unfold WM.lowTo;rw[List.range_succ,zP];rfl
def RM:AR ["_law_web_here","_law_far_here","_law_labels_here","_law_place","_law_hubs"] RL.p (defScope RL.s):=Aa
def bh:AC P w K mg base 4 RL Mj:=λwz=>by
 show wz.Fu.okZ RM λ_ _ A _ _ H vs Q E hr h=>?_;let{wa,fl,n,ts,M,0,W,FR,k}:=h;let{ta,tys,kF,2,G}:=id W;let lS:=G.n1;let jz:=G.n24;show{_,zT (AO (i:=2) RM.nd (BR zN))
  (zT (A0 (BX rfl wz.mRange (zD (zv AV (pv 0) zg) zN)) (Bc (i:=3) RM.nd rfl (Or.inr rfl))
   (zT (DW (i:=4) (own:=["_law_hub"]) (cn:=["_law_far_here","_law_place"]) (ci:=[1,3]) RM.nd rfl (Or.inl rfl) rfl (Ax rfl rfl) {3,3,3,trivial} rfl
    (BX rfl wz.mRange (zD (zv AV (pv 0) zg) zN)) (λ_ _ _ _=>Aw)
    (λ_ _ _ _=>Dw (zw GU (zv HW (zv HW (pv 1) (pv 2)) (pv 0)) As (AH _))) (λ_ _ _ _=>pv 0))
   (zc (C1 (C3 PySem.F.plainAttrs_list PySem.F.slot_list_append PySem.F.type_list_append FF (pv 2) (zD (B5 DH wz.mTuple (zD
    (BU (own:=["_law_hub"]) (cn:=["_law_web_here","_law_far_here","_law_place"]) (ci:=[0,1,3]) rfl (Ax rfl rfl) {0,3,3,3,3,trivial} rfl (Du (pv 4)) (λ_ _ _ _=>Aw) (λ_ _ _ _=>BM)
     (λ_ _ _ _=>AG (Xn wz) hr (zD (pv 1) (zD (pv 2) (zD (pv 3) (zD (pv 0) zN)))))) zN)) zN))))))
  (zc (AL (B5 DH wz.mTuple (zD (pv 2) zN))))),?_}
 show{Ce,λD hD=>?_};let s0:=zH (o:=.lst []) hD;show{1,wa,9,AB.of (s0 _ _ kF),0,n,0,(),(),CL (lo:=0) (n:=n.toNat) (λq σ H1=>NO λ(v3 v4:Option V)(bs:List Addr)(js:List (List En))=>σ=[⇑wa,⇑fl,⇑D,v3,v4]/\js.length=q/\H1 D=some (.lst (bs.map V.ref))/\CZ H1 bs js/\A2 (Ud ts n) ts n 1660944384 js/\AE H H1)
  {2,[],[],3,zI,{0,λi b z=>by simp at z},(λi es z=>by simp at z),s0} ?turn ?after}
 case after=>
  rintro σ H1 ⟨v3,v4,bs,js,rfl,lT,kD,LL,LMM,s1⟩;show{1,D,1,.inl {AD.of kD,λl hl=>?_}};let sl:=zH (o:=.tup (bs.map V.ref)) hl;show k l js _ (s1.trans sl) {bs,zI,LL.1,(LL.keep λb I e=>sl _ _ e).2} lT LMM
 case turn=>
  rintro q σ H1 hq ⟨v3,v4,bs,js,rfl,lT,kD,LL,LMM,s1⟩;rw[Bi];let FR1:=FR.keep λb I e=>s1 _ _ e;let W1:=W.keep s1;show{1,wa,9,AB.of (s1 _ _ kF),0,n,0,(),(),[.ref fl,.int q],0,λD1 hD1'=>?_};show JB (lo:=0) (n:=n.toNat) (λj I H2=>j<=n.toNat/\I=((WM.lowTo j).filter λh=>(Ag M q h).isSome).map V.int/\H2=upd H1 D1 (.lst I)) {zj _,3} (λj I H2 z=>?_) (λj I H2 hj z=>?_) (λI H2 z=>?_)
  . let{hj,0,_}:=z;rw[zC];show CO (D0 _ _) (A5 ?_);unfold WM.lowTo;rw[zC,zy]
    lia
  . let{_,3}:=z;rw[Bi];let{rs,r,row,f1,f2,f3,f4,f5}:=FR1.get (x:=q) (y:=j) () () () ();let sx:=zH (o:=.lst (((WM.lowTo j).filter λh=>(Ag M q h).isSome).map V.int)) hD1';show{{3},?_};show{4,fl,2,.ref r,3,AD.of (sx _ _ f1),f2,1,r,9,AD.of (sx _ _ f3),f4,0,1,?_};rw[KW];let st:(WM.lowTo (j+1)).filter (λh=>(Ag M q h).isSome)=(WM.lowTo j).filter (λh=>(Ag M q h).isSome)++(if (Ag M q j).isSome=true then [(j:Int)] else []):=by rw[eP,JA];congr 1;rw[List.filter_cons];rfl
    cases hm:Ag M q j with
    | none=>show Ab {(),?_,0};rw[st,hm];simp
    | some d=>show AZ ?_;show{1,zI,(),?_,EU};rw[st,hm,zP];rfl
  let{_,3}:=z;generalize hhs:(WM.lowTo n.toNat).filter (λh=>(Ag M q h).isSome)=hs;let hsr:hs.Pairwise (· < ·):=by rw[<-hhs];show (jS _).sublist List.filter_sublist
  let J:∀x,x∈hs↔(0<=x/\x<n)/\(Ag M q x).isSome=true:=λx=>by
   rw[<-hhs,Dg,iM];constructor
   . rintro ⟨a,b⟩;show{(),b}
   . rintro ⟨a,b⟩;show{(),b}
  let hsl:hs.length<=24:=by
   let:hs.length<=(WM.lowTo n.toNat).length:=by rw[<-hhs];show D0 _ _
   unfold WM.lowTo at this;rw[zC,zy] at this
   lia
  let s2:=zH (o:=.lst (hs.map V.int)) hD1';let hh2:(upd H1 D1 (.lst (hs.map V.int))) D1=some (.lst (hs.map V.int)):=zI;let hDx:=s2 _ _ kD;generalize upd H1 D1 (.lst (hs.map V.int))=H2 at s2 hh2 hDx ⊢;let nE:=s1.trans s2;show{1,.inl {0,_,AD.of hDx},1,D1,0,{_,AD.of hh2},[.ref wa,.ref fl,.int q],0,λD2 jx=>?_};show N1 (a:=D1) (xs:=hs.map V.int) (λj I H3=>Es λ(cs:List Addr)(es:List En)=>I=cs.map V.ref/\es.length=j/\Ah H3 cs es/\(∀(m:Nat)(e:En),es[m]?=some e->hs[m]?=some e.h/\Ex ts q e)/\AE H2 H3/\H3 D2=some (.lst I)/\j<=hs.length)
   {[],[],3,{0,λm c z=>by simp at z},(λm e z=>by simp at z),zH jx,zI,zj _} (λj I H3 h=>?_) (λj I H3 h=>?_) (λj v I H3 hv h=>?_) (λI H3 h=>?_)
  . let{2,8,s3,_}:=h;show AD.of (s3 _ _ hh2)
  . let{cs,es,0,hl,EA,_,2,hj}:=h;rw[zC,EA.1,hl];show A5 ()
  . let{cs,es,0,hl,EA,hE,s3,h3,hj}:=h;rw[zM] at hv;cases hx:hs[j]? with
    | none=>rw[hx] at hv;ext hv
    | some x=>
    rw[hx] at hv;ext hv;let{xr,xm}:=(J x).mp (zQ hx);let{d,hd}:=N3.mp xm;let{_,2,8,f5}:=FR1.get (x:=q) (y:=x) () () xr.1 xr.2;rw[hd] at f5;show{{3},?_};show BW ?_;show{4,4,wa,fl,n,ts,M,q,x,0,(W.keep nE).keep s3,(FR.keep λb I e=>nE _ _ e).keep λb I e=>s3 _ _ e,(),(),xr.1,xr.2,{d,WM.IsD.symm f5},λa e H4 s4 ha eh el eu ed=>?_};let h4:=s4 _ _ h3;show{h4,cs++[a],es++[e],by rw[zP];rfl,by rw[zK,hl];rfl,?_,λm e' kZ=>?_,Ar (s3.trans s4) jx,zI,(zE.mp hx).1}
    . let kp:∀b us,H4 b=some (.tup us)->(upd H4 D2 (.lst (cs.map V.ref++[.ref a]))) b=some (.tup us):=λb us z=>by rw[zi (BA z h4 (by intro w;ext w))];show z
      show ((EA.keep λb us z=>s4 _ _ z).keep kp).snoc (kp _ _ ha)
    . by_cases cm:m<es.length
      . rw[zV cm] at kZ;show hE m e' kZ
      . rw[zS ()] at kZ;cases hz:m-es.length with
        | zero=>
         rw[hz] at kZ;let e1:e=e':=‹kZ›
         subst e1;rw[show m=j by lia,hx,eh];show{0,Ex.of G (by rw[eh];show el) (by rw[eh];show eu) (by rw[eh];show ed)}
        | succ z=>rw[hz] at kZ;simp at kZ
  let{cs,es,0,hl,EA,hE,s3,h3,_}:=h;rw[zC] at hl;show{D2,1,.inl {AD.of h3,λb hb=>?_}};let s4:=s3.trans (zH (o:=.tup (cs.map V.ref)) hb);let LB:A1 (upd H3 b (.tup (cs.map V.ref))) b es:={cs,zI,EA.keep λb' us z=>zH hb _ _ z,()};generalize upd H3 b (.tup (cs.map V.ref))=H4 at s4 LB ⊢;let j8:=s4 _ _ hDx;let hbl:=LL.1;show{D,5,j8,by rw[zC,hbl];show A5 (),?_};let kp:∀c us,H4 c=some (.tup us)->(upd H4 D (.lst (bs.map V.ref++[.ref b]))) c=some (.tup us):=λc us z=>by rw[zi (BA z j8 (by intro w;ext w))];show z
  let nO:∀e∈es,e.h∈hs/\Ex ts q e:=λe he=>by let{m,hm,em}:=zf he;let:=hE m e (by rw[zB hm,em]);show{zQ this.1,this.2}
  show{2,bs++[b],js++[es],0,by rw[zK,lT];rfl,by rw[zP];show zI,((LL.keep λc us z=>s4 _ _ (s2 _ _ z)).keep kp).snoc (LB.keep kp),LMM.snoc lT {?_,λe he=>((J e.h).mp (nO e he).1).1,λe he=>?_,?_,λe he=>Vy G (nO e he).2.len,λe he=>{_,(nO e he).2.len},λe he=>(nO e he).2,λx d x0 x1 hx=>?all},Ar (nE.trans s4) hD}
  . show Ed.mpr λa b' ha kS kW=>?_;let e1:=(hE a es[a] (zB ha)).1;let e2:=(hE b' es[b'] (zB kS)).1;let{i1,e1'}:=zE.mp e1;let{i2,e2'}:=zE.mp e2;let:=Ed.mp hsr a b' i1 i2 kW
    lia
  . let r:=(J e.h).mp (nO e he).1;show Zr G q e.h () () e.l (nO e he).2.len
  . let self:(q:Int)∈hs:=by
     show (J q).mpr {(),?_};let{_,2,8,f5}:=FR1.get (x:=q) (y:=q) () () () ();cases hm:Ag M q q with
     | some d=>rfl
     | none=>rw[hm] at f5;show absurd (F2 G (q:Int)).1 (f5 0)
    let{m,hm,em}:=zf self;let U:m<es.length:=()
    let:=(hE m es[m] (zB U)).1;rw[zB hm,em] at this;show{es[m],Cv U,(zZ this).symm}
  case all=>
   let hxs:x∈hs:=by
    show (J x).mpr {⟨x0,x1⟩,?_};let{_,2,8,f5}:=FR1.get (x:=q) (y:=x) () () x0 x1;cases hm:Ag M q x with
    | some d=>rfl
    | none=>rw[hm] at f5;show absurd hx.1 (f5 d)
   let{m,hm,em}:=zf hxs;let U:m<es.length:=()
   let:=(hE m es[m] (zB U)).1;rw[zB hm,em] at this;show{es[m],Cv U,(zZ this).symm}
def DD (h:∀b,b≠t->H' b=H b):Sm t H H':=λb o n e=>by rwa[h b n]
def Bs.sm (h:Bs H fl n ts M)(T:AN H t N)(s:Sm t H H'):Bs H' fl n ts M:=by
 let{rs,I,C,h3}:=h;let{p,ns,jt,rest,o,_}:=T;let J:fl≠t:=λz=>by
  subst z;rw[I] at o;injection o with o;injection o with o
  match rs,o with
  | [],o=>simp at o
  | [_],o=>simp at o
  | _::_::_,o=>simp at o
 show{rs,s _ _ J I,C.keep λb ys e hb=>s _ _ (λz=>?_) e,h3};subst z;let{i,hi,ei}:=zf hb;let U:i<M.length:=by rwa[<-C.1]
 let:=C.2.2 i b M[i] (by rw[zB hi,ei]) (zB U);rw[this] at o;injection o with o;injection o with o
 match M[i],o with
 | [],o=>simp at o
 | none::_,o=>simp[oV] at o
 | some _::_,o=>simp[oV] at o
def A1.sm (h:A1 H p es)(T:AN H t N)(s:Sm t H H'):A1 H' p es:=h.keep λb o e=>s b _ (AN.neT T e) e
def Ao.at_ (h:Ao H t p N):AN H t N:=⟨p,h⟩
def Ao.nn (h:Ao H t p N)(hb:H b=none):b≠t/\b≠p:=by let{ns,C,rest,a,o,_}:=h;show{(zl a hb).symm,(zl o hb).symm}
def Ao.kp (h:Ao H t p N)(s:AE H H'):Ao H' t p N:=h.keepF (λo e=>s _ _ e) (λo e=>s _ _ e) (zJ _)
def Ao.ch (h:Ao H t p N)(I:l≠t)(C:l≠p):Ao (upd H l o) t p N:=h.keepF (λ_ e=>by rwa[zi I.symm]) (λ_ e=>by rwa[zi C.symm]) (zJ _)
def Ao.up (h:Ao H t p N)(l:N<=M):Ao H t p M:=h.keepF (λ_ e=>e) (λ_ e=>e) l
def Ao.nI {xs:List Int}(h:Ao H t p N)(hb:H b=some (.lst (xs.map V.int))):b≠t:=λz=>by
 let{ns,o,rest,a,_}:=h;rw[z,a] at hb;injection hb with hb;injection hb with hb
 match xs,hb with
 | [],hb=>simp at hb
 | _::_,hb=>simp at hb
def SK:∀(xs:List Int)(a n:Int),xs.Pairwise (· < ·)->(∀x∈xs,a<=x/\x<n)->xs.length<=(n-a).toNat
 | [],_,_,_,_=>zj _
 | x::r,a,n,h,b=>by
  let o:=FO.mp h;let C:=b x zX;let:=SK r (x+1) n o.2 λe he=>by
   let J:=o.1 e he;let I:=b e (zd _ he)
   lia
  rw[zu]
  lia
def Ap.smt (h:Ap H wa n ts)(T:Ao H t p N)(s:Sm t H H'):Ap H' wa n ts:=h.keepT λb o e=>s _ _ (AN.neT T.at_ e) e
def LM.like (h:LM Z ts n v B es)(hl:fs.length=es.length)(k:∀(m:Nat)f,fs[m]?=some f->∃e,es[m]?=some e/\f.h=e.h/\f.l=e.l)(z:Z' v fs):LM Z' ts n v B fs:=by
 let mem:∀f∈fs,∃e∈es,f.h=e.h/\f.l=e.l:=λf hf=>by let{m,hm,em}:=zf hf;let{e,e1,U}:=k m f (by rw[zB hm,em]);show{e,zQ e1,U}
 show{Ed.mpr λa b ha hb kW=>?_,λf hf=>?_,λf hf=>?_,?_,λf hf=>?_,λf hf=>?_,z}
 . let{e1,C,I,_}:=k a fs[a] (zB ha);let{U,h3,h4,_}:=k b fs[b] (zB hb);let:=Bx.lt h.hub kW C h3
   lia
 . let{e,he,C,I}:=mem f hf;let:=h.rng e he;lia
 . let{e,he,C,I}:=mem f hf;let:=h.nn e he;lia
 . let{o,ho,eo}:=h.own;let{m,hm,em}:=zf ho;let J:m<fs.length:=()
   let{e,C,I,_}:=k m fs[m] (zB J);rw[zB hm,em] at C;ext C;show{fs[m],Cv J,()}
 . let{e,he,C,I}:=mem f hf;rw[C,I];show h.zero e he
 . let{e,he,C,I}:=mem f hf;rw[C];show h.rch e he
def U2 (ts:List T3)(o:List (List En))(v:Int)(fs:List En):Prop:=Oi ts v fs/\∀h,DG (o.getD v.toNat []) h↔DG fs h
inductive Yg (vs:List V)(H:Hp)(Q:VK):Prop
 | mk:∀(t p wa fl l:Addr)(N:Nat)(n B:Int)(ts:List T3)(M:BV)(js:List (List En)),(vs=[.ref t,.ref wa,.ref fl,.ref l])->(Ao H t p N)->(N<500000)->(Ap H wa n ts)->(Bs H fl n ts M)->(A4 H l js)->(js.length=n.toNat)->(A2 (Oi ts) ts n B js)->(∀(l':Addr)(jv:List (List En))(H':Hp),A4 H' l' jv->jv.length=n.toNat->A2 (U2 ts js) ts n B jv->Ao H' t p (N+1200)->Sm t H H'->Q (.ref l') H')->Yg vs H Q
def cF:Sp:=λo H Q _=>Yg o H Q
def EX:AR ["_law_tape_here","_law_web_here","_law_far_here","_law_labels_here","_law_found_here","_law_place","_law_label","_law_hub","_law_long","_law_up","_law_down","_law_ups","_law_downs"] QZ.p (defScope QZ.s):=Aa
def cT:AC P w K mg base 3 QZ cF:=λwz=>by
 show wz.Lx.okZ EX λ_ _ A _ _ H vs Q E hr h=>?_;let{t,p,wa,fl,l,N,n,B,ts,M,js,0,T,hN,W,FR,LL,lT,LMM,k}:=h;let{ta,tys,kF,2,G}:=id W;let lS:=G.n1;let jz:=G.n24;let{as,hl,lM,hA}:=id LL;show{_,zT (AO (i:=4) EX.nd (BR zN))
  (zT (A0 (BX rfl wz.mRange (zD (zv AV (pv 1) zg) zN)) (AY (i:=5) EX.nd)
   (zT (AO (i:=6) EX.nd (BR zN))
   (zT (A0 (BB (zv AV (pv 3) (pv 5)))
    (C0 rfl (zx (AY (i:=7) EX.nd) (zx (AY (i:=8) EX.nd) (zx (AY (i:=9) EX.nd) (zx (AY (i:=10) EX.nd) CY)))))
    (zT (E3 (u':=λ(D':DC) σ H3=>∃(D DL:Addr)(q:Nat)(e:En)(N0:Nat)(v11 I:Option V),σ=[⇑t,⇑wa,⇑fl,⇑l,⇑D,some (.int q),⇑DL,some (.int e.h),some (.int e.l),some (oV e.u),some (oV e.d),v11,I] /\
     Ao H3 t p N0/\N0<900000/\Ap H3 wa n ts/\Bs H3 fl n ts M/\(q:Int)<n/\0<=e.h/\e.h<n/\WM.IsD ts q e.h e.l/\(e.l=0↔e.h=q)/\Ex ts q e /\
     ∀(u d:Option Int)(w11 w12:Option V)(H':Hp),Ex ts q ⟨e.h,e.l,u,d⟩->Sm t H3 H'->Ao H' t p (N0+2)->D'.nx [⇑t,⇑wa,⇑fl,⇑l,⇑D,some (.int q),⇑DL,some (.int e.h),some (.int e.l),some (oV u),some (oV d),w11,w12] H')
     (Ac (zw EN (pv 8) zg (AH _))
      (zT (AO (i:=11) EX.nd (AG (Qq wz) hr (zD (pv 1) (zD (pv 2) (zD (pv 5) (zD (pv 7) zN))))))
      (zT (AO (i:=12) EX.nd (AG (Qq wz) hr (zD (pv 1) (zD (pv 2) (zD (pv 7) (zD (pv 5) zN))))))
      (zT (AO (i:=9) EX.nd (zv AS (pv 11) (AG (GY wz) hr (zD (pv 0) (zD (Af DB wz.mLen (zD (pv 11) zN)) zN)))))
      (zc (AO (i:=10) EX.nd (zv AS (pv 12) (AG (GY wz) hr (zD (pv 0) (zD (Af DB wz.mLen (zD (pv 12) zN)) zN))))))))) Ae) (λD' σ H3 z=>by
      let{D,DL,q,e,N0,v11,I,0,T3,hN0,W3,FR3,hq,h0,h1,hd,hz,ude,z}:=z;show{1,_,7,?_};show A3 (λc=>?_) (λc=>?_)
      . let kA:e.h≠q:=λx=>by let:=hz.mpr x;let:=of_decide_eq_true c;lia
        show{4,4,wa,fl,n,ts,M,q,e.h,0,W3,FR3,(),hq,h0,h1,λl1 xs H4 s4 hl1 r1 m1=>?_};show{4,4,wa,fl,n,ts,M,e.h,q,0,W3.keep s4,FR3.keep λb ys x=>s4 _ _ x,h0,h1,(),hq,λl2 ys H5 s5 ku r2 m2=>?_};let T5:=(T3.kp s4).kp s5;let hl15:=s5 _ _ hl1;let rg:∀{x y z:Int},BF ts x y z->0<=z/\z<n:=λh=>by let{2,ha,_}:=h;let:=G.adj ha;show⟨this.2.2.1,this.2.2.2.1⟩
        let lx:xs.length<=24:=by let:=SK xs 0 n r1 λx hx=>rg ((m1 x).mp hx);lia
        let ly:ys.length<=24:=by let:=SK ys 0 n r2 λx hx=>rg ((m2 x).mp hx);lia
        let px:0<xs.length:=by let{z,hz'}:=BF.exists G hd λx=>kA x.symm;show List.length_pos_of_mem ((m1 z).mpr hz')
        let py:0<ys.length:=by let{z,hz'}:=BF.exists G (WM.IsD.symm hd) kA;show List.length_pos_of_mem ((m2 z).mpr hz')
        show{1,4,l1,1,.inl (AD.of hl15),t,p,N0,1,T5,(),by rw[zC];lia,by rw[zC];lia,λr H6 a6 b6 T6 he6=>?_};rw[zC] at b6;let{u,hum,hu}:=ND a6 b6;let n1:=T5.nI hl15;let n2:=T5.nI ku;show{l1,9,AD.of (by rw[he6 _ n1];show hl15),hu,?_};let hl26:H6 l2=some (.lst (ys.map V.int)):=by rw[he6 _ n2];show ku
        show{1,4,l2,1,.inl (AD.of hl26),t,p,N0+1,1,T6,(),by rw[zC];lia,by rw[zC];lia,λr' H7 a7 b7 T7 he7=>?_};rw[zC] at b7;let{dn,hdm,lY}:=ND a7 b7;show{l2,9,AD.of (by rw[he7 _ n2];show hl26),lY,?_};let ru:=rg ((m1 u).mp hum);let rd:=rg ((m2 dn).mp hdm);show z (some u) (some dn) _ _ H7 {hd,λx=>absurd x kA,λ_=>{u,0,(m1 u).mp hum},λ_=>{dn,0,(m2 dn).mp hdm}} ((Sm.of (s4.trans s5)).trans ((DD he6).trans (DD he7))) T7
      . show z e.u e.d _ _ H3 ude (Sm.refl _ _) (T3.up ())))
    (zc (C1 (C3 PySem.F.plainAttrs_list PySem.F.slot_list_append PySem.F.type_list_append FF (pv 6) (zD (AU (zD (pv 7) (zD (pv 8) (zD (pv 9) (zD (pv 10) zN))))) zN))))))
   (zc (C1 (C3 PySem.F.plainAttrs_list PySem.F.slot_list_append PySem.F.type_list_append FF (pv 4) (zD (B5 DH wz.mTuple (zD (pv 6) zN)) zN)))))))
  (zc (AL (B5 DH wz.mTuple (zD (pv 4) zN))))),?_}
 show{Ce,λD hD=>?_};let s0:=zH (o:=.lst []) hD;let nD:=T.nn hD;show{1,wa,9,AB.of (s0 _ _ kF),0,n,0,(),(),CL (lo:=0) (n:=n.toNat) (λq σ H1=>Od λ(v5 v6 v7 v8 v9 v10 v11 I:Option V)(bs:List Addr)(jv:List (List En))=>σ=[⇑t,⇑wa,⇑fl,⇑l,⇑D,v5,v6,v7,v8,v9,v10,v11,I]/\jv.length=q/\H1 D=some (.lst (bs.map V.ref))/\CZ H1 bs jv/\A2 (U2 ts js) ts n B jv/\Ao H1 t p (N+50*q)/\Sm t H H1)
  {8,8,[],[],3,zI,{0,λi b z=>by simp at z},(λi es z=>by simp at z),T.kp s0,Sm.of s0} ?turn ?after}
 case after=>
  rintro σ H1 ⟨v5,v6,v7,v8,v9,v10,v11,I,bs,jv,rfl,U,kD,LB,lQ,T1,s1⟩;show{1,D,1,.inl {AD.of kD,λl' kO=>?_}};let sl:=zH (o:=.tup (bs.map V.ref)) kO;show k l' jv _ {bs,zI,LB.1,(LB.keep λb ys e=>sl _ _ e).2} U lQ ((T1.kp sl).up ()) (s1.trans (Sm.of sl))
 case turn=>
  rintro q σ H1 hq ⟨v5,v6,v7,v8,v9,v10,v11,I,bs,jv,rfl,U,kD,LB,lQ,T1,s1⟩;rw[Bi];let mG:∀b ys,H b=some (.tup ys)->H1 b=some (.tup ys):=λb ys e=>s1 _ _ (AN.neT T.at_ e) e;obtain⟨b,hb⟩:∃b,as[q]?=some b:={_,zB ()};let{es,kB,LE}:=hA q b hb;let{cs0,hbt,EA,_}:=id LE;let J:=LMM q es kB;let hesl:=J.len jz;show{Ce,λDL hDL=>?_};let nDL:=T1.nn hDL;let sDL:=zH (o:=.lst []) hDL;let nDD:D≠DL:=zl kD hDL;let hatb:By (as.map V.ref) (q:Int)=⇑b:=Dx (by rw[zM,hb];rfl);show{4,l,2,.ref b,3,AB.of (sDL _ _ (mG _ _ hl)),hatb,b,0,{_,AB.of (sDL _ _ (mG _ _ hbt))},Nz (K:=K) (a:=b) (xs:=cs0.map V.ref)
   (λj σ H2=>bG λ(v7 v8 v9 v10 v11 I:Option V)(cs:List Addr)(fs:List En)=>σ=[⇑t,⇑wa,⇑fl,⇑l,⇑D,some (.int q),⇑DL,v7,v8,v9,v10,v11,I]/\fs.length=j/\H2 DL=some (.lst (cs.map V.ref))/\Ah H2 cs fs/\(∀(m:Nat)(f:En),fs[m]?=some f->∃e,es[m]?=some e/\f.h=e.h/\f.l=e.l/\Ex ts q f)/\Ao H2 t p (N+50*q+2*j)/\Sm t H1 H2/\j<=es.length)
   {2,8,[],[],3,zI,{0,λm c z=>by simp at z},(λm f z=>by simp at z),T1.kp sDL,Sm.of sDL,zj _} (λj σ H2 _ z=>by let{2,8,8,8,s2,_}:=z;show AB.of (s2 _ _ (AN.neT T1.at_ (mG _ _ hbt)) (mG _ _ hbt))) ?turn2 ?after2}
  case after2=>
   rintro σ H2 ⟨v7,v8,v9,v10,v11,I,cs,fs,rfl,kR,hDL2,EF,hF,T2,s2,_⟩;rw[zC,EA.1] at kR T2;let jx:=s2 _ _ nD.1 kD;show{1,.inl {0,_,AD.of jx},1,DL,1,.inl {AD.of hDL2,λc hc=>?_}};let sc:=zH (o:=.tup (cs.map V.ref)) hc;let kC:=sc _ _ jx;let LC:A1 (upd H2 c (.tup (cs.map V.ref))) c fs:={cs,zI,EF.keep λb' us z=>sc _ _ z,()};generalize upd H2 c (.tup (cs.map V.ref))=H3 at sc kC LC ⊢;show{D,5,kC,by rw[zC,LB.1];show A5 (),?_};let kp:∀x us,H3 x=some (.tup us)->(upd H3 D (.lst (bs.map V.ref++[.ref c]))) x=some (.tup us):=λx us z=>by rw[zi (BA z kC (by intro w;ext w))];show z
   let s13:Sm t H1 H3:=s2.trans (Sm.of sc);show{8,8,bs++[c],jv++[fs],0,by rw[zK,U];rfl,by rw[zP];show zI,((LB.keep λx us z=>s13 _ _ (AN.neT T1.at_ z) z).keep kp).snoc (LC.keep kp),lQ.snoc U (J.like kR (λm f hf=>let {e,a,b,c,_}:=hF m f hf;⟨e,a,b,c⟩) {λf hf=>?ex,λx=>?hub}),((T2.kp sc).ch nD.1 nD.2).up (),(s1.trans s13).chg hD}
   case ex=>
    let{m,hm,em}:=zf hf;let{8,q4}:=hF m f (by rw[zB hm,em]);show q4
   case hub=>
    rw[show ((q:Int)).toNat=q by lia,zF,kB];change DG es x↔DG fs x;constructor
    . rintro ⟨e,he,rfl⟩;let{m,hm,em}:=zf he;let nk:m<fs.length:=()
      let{e',h1,h2,_}:=hF m fs[m] (zB nk);rw[zB hm,em] at h1;ext h1;show{fs[m],Cv nk,h2}
    . rintro ⟨f,hf,rfl⟩;let{m,hm,em}:=zf hf;let{e,h1,h2,_}:=hF m f (by rw[zB hm,em]);show{e,zQ h1,h2.symm}
  case turn2=>
   rintro j y σ H2 hj ⟨v7,v8,v9,v10,v11,I,cs,fs,rfl,kR,hDL2,EF,hF,T2,s2,hjl⟩;let{c,e,0,he,hc}:=EA.at hj;let hem:=zQ he;let mF:∀x us,H x=some (.tup us)->H2 x=some (.tup us):=λx us z=>s2 _ _ (AN.neT T1.at_ (mG _ _ z)) (mG _ _ z);let hjl2:=(zE.mp he).1;show{c,1,AB.of (mF _ _ hc),0,6,6,6,5,?_};show{D,DL,q,e,_,6,T2,(),W.keepT mF,FR.sm T.at_ (s1.trans s2),(),(J.rng e hem).1,(J.rng e hem).2,(J.ud e hem).len,J.zero e hem,J.ud e hem,λu d w11 w12 H3 udf s3 T3=>?_};let hDL3:=s3 _ _ nDL.1 hDL2;show{1,.inl {0,_,AD.of hDL3},4,4,HM,λx hx=>?_};let sx:=zH (o:=.tup [.int e.h,.int e.l,oV u,oV d]) hx;let hDL4:=sx _ _ hDL3;show{DL,5,hDL4,by rw[zC,EF.1];show A5 (),?_};let nx:x≠DL:=λz=>by rw[z,hDL3] at hx;ext hx
   let kp:∀x' us,H3 x'=some (.tup us)->(upd (upd H3 x (.tup [.int e.h,.int e.l,oV u,oV d])) DL (.lst (cs.map V.ref++[.ref x]))) x'=some (.tup us):=λx' us z=>by rw[zi (BA z hDL3 (by intro w;ext w))];show sx _ _ z
   show{2,8,cs++[x],fs++[⟨e.h,e.l,u,d⟩],0,by rw[zK,kR];rfl,by rw[zP];show zI,((EF.keep λx' us z=>s3 _ _ (AN.neT T2.at_ z) z).keep kp).snoc ?_,λm f' lE=>?_,((T3.kp sx).ch nDL.1 nDL.2).up (),((s2.trans s3).trans (Sm.of sx)).chg hDL,hjl2}
   . rw[zi nx];show zI
   . by_cases cm:m<fs.length
     . rw[zV cm] at lE;show hF m f' lE
     . rw[zS ()] at lE;cases hz:m-fs.length with
       | zero=>
        rw[hz] at lE;let e1:(⟨e.h,e.l,u,d⟩:En)=f':=‹lE›
        subst e1;show{e,by rw[show m=j by lia];show he,3,udf}
       | succ z=>rw[hz] at lE;simp at lE
meta def Am (pcs:List (En×Addr)):List (AJ×V):=pcs.map λx=>(Sum.inl x.1.h,V.ref x.2)
structure DE (H:Hp)(d:Addr)(pcs:List (En×Addr)):Prop where
 dct:H d=some (.dK (Am pcs))
 ent:∀x∈pcs,H x.2=some (.tup (eV x.1))
def WV (h):AW (Am pcs) (Sum.inl h)=(pcs.find? λx=>decide (x.1.h=h)).map λx=>V.ref x.2:=by
 unfold AW Am;rw[List.find?_map,Option.map_map];let:((λo:AJ×V=>decide (o.1=Sum.inl h))∘λx:En×Addr=>((Sum.inl x.1.h:AJ),V.ref x.2))=λx=>decide (x.1.h=h):=by
  funext x;change decide ((Sum.inl x.1.h:AJ)=Sum.inl h)=_;by_cases c:x.1.h=h
  . rw[zO c,zO (by rw[c])]
  . rw[zW c,zW (by intro z;injection z with z;show c z)]
 rw[this];rfl
def Nj (hm:h∈pcs.map (·.1.h)):∃x∈pcs,x.1.h=h/\AW (Am pcs) (Sum.inl h)=some (.ref x.2):=by
 let{x0,o,e0}:=zk.mp hm;rw[WV];cases e:pcs.find? λx=>decide (x.1.h=h) with
 | none=>show absurd (zO e0) (by simpa using List.find?_eq_none.mp e x0 o)
 | some x=>show{x,List.mem_of_find?_eq_some e,of_decide_eq_true (List.find?_some (p:=λx:En×Addr=>decide (x.1.h=h)) e),0}
def J6 (hm:h∉pcs.map (·.1.h)):AW (Am pcs) (Sum.inl h)=none:=by rw[WV,List.find?_eq_none.mpr λx o z=>hm (zk.mpr {x,o,of_decide_eq_true z})];rfl
def Mw (pcs):(Am pcs).map (·.1)=(pcs.map (·.1.h)).map Sum.inl:=by unfold Am;rw[Bn,Bn];rfl
structure LU (ts:List T3)(n:Int)(v B:Int)(es:List En):Prop where
 nd:(es.map (·.h)).Nodup
 rng:∀e∈es,0<=e.h/\e.h<n
 nn:∀e∈es,0<=e.l/\e.l<=B
 own:∃e∈es,e.h=v
 zero:∀e∈es,e.l=0↔e.h=v
 rch:∀e∈es,∃d,WM.IsD ts v e.h d
def LM.lu (h:LM Z ts n v B es):LU ts n v B es:={by rw[List.Nodup,EZ];show h.hub.imp λz=>(),h.rng,h.nn,h.own,h.zero,h.rch}
def M9:∀(m:Nat)(l:List Nat),l.Nodup->(∀x∈l,x<m)->l.length<=m
 | 0,l,_,h=>by
  cases l with
  | nil=>show zJ _
  | cons x r=>show absurd (h x zX) (C2 _)
 | m+1,l,nd,h=>by
  by_cases c:m∈l
  . let:=M9 m (l.erase m) (nd.erase m) λx o=>by
     let C:=(nd.mem_erase_iff).mp o;let I:=h x C.2;let J:=C.1
     lia
    rw[List.length_erase_of_mem c] at this
    lia
  . let:=M9 m l nd λx o=>by
     let I:=h x o;let:x≠m:=λz=>c (z ▸ o)
     lia
    lia
def LU.len (h:LU ts n v B es)(I:n<=24):es.length<=24:=by
 let:=M9 n.toNat ((es.map (·.h)).map Int.toNat) (by
  rw[List.Nodup,EZ];show h.nd.imp_of_mem λ{a b} ha hb z=>?_;let{x,C,0}:=zk.mp ha;let{y,o,0}:=zk.mp hb;let U:=h.rng x C;let J:=h.rng y o;intro e;show z ()) (λx C=>by
  let{a,ha,0}:=zk.mp C;let{y,o,0}:=zk.mp ha;let:=h.rng y o
  lia)
 rw[zC,zC] at this
 lia
def Xb:∀{es:List En},(es.map (·.h)).Nodup->∀{a b:En},a∈es->b∈es->a.h=b.h->a=b
 | [],_,_,_,ha,_,_=>by ext ha
 | x::r,nd,a,b,ha,hb,e=>by
  let o:=E5.mp (show (x.h::r.map (·.h)).Nodup from nd);rcases za.mp ha with lG | lG <;> rcases za.mp hb with kS | kS
  . rw[lG,kS]
  . show absurd (zk.mpr {b,kS,by rw[<-e,lG]}) o.1
  . show absurd (zk.mpr {a,lG,by rw[e,kS]}) o.1
  . show Xb o.2 lG kS e
def LM.of_sorted {ms:List Int}(L:LU ts n v B es)(hl:fs.length=ms.length)(pm:ms.Perm (es.map (·.h)))(st:ms.Pairwise (· <= ·))(I:∀(m:Nat)e,fs[m]?=some e->ms[m]?=some e.h/\e∈es)(z:(∀e,e∈fs↔e∈es)->Z v fs):LM Z ts n v B fs:=by
 let nd:ms.Nodup:=pm.nodup_iff.mpr L.nd;let mem:∀f∈fs,f∈es:=λf hf=>by let{m,hm,em}:=zf hf;show (I m f (by rw[zB hm,em])).2
 show{Ed.mpr λa b ha hb kW=>?_,λf hf=>L.rng f (mem f hf),λf hf=>L.nn f (mem f hf),?_,λf hf=>L.zero f (mem f hf),λf hf=>L.rch f (mem f hf),z λe=>{mem e,λhe=>?_}}
 . let e1:=(I a fs[a] (zB ha)).1;let e2:=(I b fs[b] (zB hb)).1;let{i1,e1'}:=zE.mp e1;let{i2,e2'}:=zE.mp e2;let h1:=Ed.mp st a b i1 i2 kW;let h2:ms[a]≠ms[b]:=λz=>by
    let:=(HZ nd).mp z
    lia
   lia
 . let{o,ho,eo}:=L.own;let J:v∈ms:=pm.mem_iff.mpr (zk.mpr ⟨o,ho,eo⟩);let{m,hm,em}:=zf J;let C:m<fs.length:=()
   let:=(I m fs[m] (zB C)).1;rw[zB hm,em] at this;show{fs[m],Cv C,(zZ this).symm}
 . let J:e.h∈ms:=pm.mem_iff.mpr (zk.mpr {e,he,0});let{m,hm,em}:=zf J;let C:m<fs.length:=()
   let q:=I m fs[m] (zB C);let U:=q.1;rw[zB hm,em] at U;rw[Xb L.nd he q.2 (zZ U)];show Cv C
def LU.put (L:LU ts n v B es)(h0:0<=e.h/\e.h<n)(hl:0<e.l/\e.l<=B)(I:e.h∉es.map (·.h))(hr:∃d,WM.IsD ts v e.h d):LU ts n v B (es++[e]):=by
 let hv:e.h≠v:=λz=>by let{o,C,J}:=L.own;show I (zk.mpr {o,C,()})
 let cs:∀{P:En->Prop},(∀x∈es,P x)->P e->∀x∈es++[e],P x:=λh1 h2 x U=>by
  rcases zr.mp U with z | z
  . show h1 x z
  . rwa[zm.mp z]
 let{o,C,J}:=L.own;show{?_,cs L.rng h0,cs L.nn {(),hl.2},{o,Cy _ C,J},cs L.zero {λz=>(),λz=>absurd z hv},cs L.rch hr};rw[zP];show JT.mpr {L.nd,by simp,λa ha b hb z=>by rw[zm.mp hb] at z;show I (by rwa[show e.h=a from z.symm])}
def LU.mono (h:LU ts n v B es)(c:B<=C):LU ts n v C es:={h.nd,h.rng,λe he=>by let:=h.nn e he;lia,h.own,h.zero,h.rch}
meta def F1 (qs:List (En×Addr))(x:En×Addr):List (En×Addr):=if x.1.h∈qs.map (·.1.h) then qs.map (λy=>if y.1.h=x.1.h then x else y) else qs++[x]
def il (qs)(x:En×Addr):Ay (Am qs) (Sum.inl x.1.h) (.ref x.2)=Am (F1 qs x):=by
 by_cases c:x.1.h∈qs.map (·.1.h)
 . let{y,_,I,o}:=Nj c;let C:(AW (Am qs) (Sum.inl x.1.h)).isSome=true:=by rw[o];rfl
   unfold F1;rw[if_pos c];unfold Ay;rw[if_pos (by rw[Gf];show C)];unfold Am;rw[Bn,Bn];show JR λy _=>?_;change (if (Sum.inl y.1.h:AJ)=Sum.inl x.1.h then ((Sum.inl y.1.h:AJ),V.ref x.2) else ((Sum.inl y.1.h:AJ),V.ref y.2))=((Sum.inl (if y.1.h=x.1.h then x else y).1.h:AJ),V.ref (if y.1.h=x.1.h then x else y).2)
   by_cases e:y.1.h=x.1.h
   . rw[if_pos e,if_pos (by rw[e]),e]
   . rw[if_neg e,if_neg (by intro z;injection z with z;show e z)]
 . rw[Q3 _ (J6 c)];unfold F1;rw[if_neg c];unfold Am;rw[zP];rfl
def Zl {qs:List (En×Addr)}(c:x.1.h∈qs.map (·.1.h)):(qs.map (λy=>if y.1.h=x.1.h then x else y)).map (·.1.h)=qs.map (·.1.h):=by
 rw[Bn];show JR λy _=>?_;change (if y.1.h=x.1.h then x else y).1.h=y.1.h
 by_cases e:y.1.h=x.1.h
 . rw[if_pos e,e]
 . rw[if_neg e]
def bg (h:(qs.map (·.1.h)).Nodup):((F1 qs x).map (·.1.h)).Nodup:=by
 unfold F1;by_cases c:x.1.h∈qs.map (·.1.h)
 . rwa[if_pos c,Zl c]
 . rw[if_neg c,zP];show JT.mpr {h,by simp,λa ha b hb z=>by
    let e:b=x.1.h:=‹hb›
    show c (by rwa[<-e,<-z])}
def fv (h:y∈F1 qs x):y∈qs\/y=x:=by
 unfold F1 at h;split at h
 . let{z,o,e}:=zk.mp h;by_cases c:z.1.h=x.1.h
   . rw[if_pos c] at e;show .inr e.symm
   . rw[if_neg c] at e;show .inl (e ▸ o)
 . rcases zr.mp h with z | z
   . show .inl z
   . show .inr (zm.mp z)
def aZ (h:y∈qs\/y=x):y.1.h∈(F1 qs x).map (·.1.h):=by
 unfold F1;by_cases c:x.1.h∈qs.map (·.1.h)
 . rw[if_pos c,Zl c];rcases h with h | h
   . show zk.mpr {y,h,0}
   . rwa[h]
 . rw[if_neg c,zP];rcases h with h | h
   . show Cy _ (zk.mpr {y,h,0})
   . show DI _ (by rw[h];simp)
def Yd:∀pcs qs,(qs.map (·.1.h)).Nodup->∃rs,(Am pcs).foldl (λa p=>Ay a p.1 p.2) (Am qs)=Am rs/\(rs.map (·.1.h)).Nodup/\(∀x∈rs,x∈qs\/x∈pcs)/\∀x,(x.1.h∈qs.map (·.1.h)\/x∈pcs)->x.1.h∈rs.map (·.1.h)
 | [],qs,h=>{qs,0,h,λx o=>.inl o,λx o=>o.elim id λz=>by simp at z}
 | p::pcs,qs,h=>by
  let{rs,e,nd,J,I}:=Yd pcs (F1 qs p) (bg h);show{rs,?_,nd,λx o=>?_,λx o=>?_}
  . rw[<-e,<-il];rfl
  . rcases J x o with z | z
    . rcases fv z with w | w
      . show .inl w
      . show .inr (by rw[w];show zX)
    . show .inr (zd _ z)
  . show I x ?_;rcases o with z | z
    . let{y,C,U}:=zk.mp z;show .inl (U ▸ aZ (.inl C))
    . rcases za.mp z with w | w
      . show .inl (aZ (.inr w))
      . show .inr w
def gj (pcs):∃rs,Iz (Am pcs)=Am rs/\(rs.map (·.1.h)).Nodup/\(∀x∈rs,x∈pcs)/\∀x∈pcs,x.1.h∈rs.map (·.1.h):=by let{rs,a,b,c,d}:=Yd pcs [] List.nodup_nil;show{rs,a,b,λx o=>(c x o).elim (λz=>by simp at z) id,λx o=>d x (.inr o)}
def LU.both (C:LM Z ts n v B es)(I:LM Z' ts n v B fs)(nd:(gs.map (·.h)).Nodup)(sub:∀e∈gs,e∈es\/e∈fs)(all:∀e∈es,e.h∈gs.map (·.h)):LU ts n v B gs:=by show{nd,λe he=>(sub e he).elim (C.rng e) (I.rng e),λe he=>(sub e he).elim (C.nn e) (I.nn e),?_,λe he=>(sub e he).elim (C.zero e) (I.zero e),λe he=>(sub e he).elim (C.rch e) (I.rch e)};let{o,J,eo}:=C.own;let{g,U,eg}:=zk.mp (all o J);show{g,U,eg.trans eo}
def VW (kW:H3 ab=some (.tup (cs.map V.ref)))(EA:Ah H3 cs es)(hl:es.length<=900)(hD:H3 D=none)(k:∀zs o,AE H3 o->o D=some (.lst zs)->Wx o zs (Am (es.zip cs))->Q (.ref D) o):
 Ja (OT K ab) 1 [] (GA 0) Gy (Fe (Dt (GG (Fd K) (Cn 0) (tC (.int 0))) (Dt (Cn 0) Iw))) D H3 Q:=by
 show BS (a:=ab) (xs:=cs.map V.ref) (λj zs o=>j<=es.length/\zs.length=j/\(∀(m:Nat)(y:V),zs[m]?=some y->∃c e x,y=.ref c/\es[m]?=some e/\cs[m]?=some x/\o c=some (.tup [.int e.h,.ref x]))/\AE H3 o/\o D=some (.lst zs)) {zj _,0,λm y z=>by simp at z,zH hD,zI} (λj zs o h=>?_) (λj zs o h=>?_) (λj v zs o J h=>?_) (λzs o h=>?_)
 . show AB.of (h.2.2.2.1 _ _ kW)
 . rw[h.2.1];show A5 (by let:=h.1;lia)
 . let{_,I,my,s4,U}:=h;let{x,e,0,he,nG}:=EA.at J;let hx:cs[j]?=some x:=by
    rw[zM] at J;cases z:cs[j]? with
    | none=>rw[z] at J;ext J
    | some y=>rw[z] at J;ext J;rfl
   let hx4:=s4 _ _ nG;show{{3},?_};show BW ?_;show{1,x,2,.int e.h,3,AB.of hx4,0,1,Ad,λc hc=>?_};let nDc:D≠c:=zl U hc;show{zH hc _ _ U,(zE.mp he).1,by rw[zK,I];rfl,λm y C=>?_,Ar (s4.trans (zH hc)) hD,zI};by_cases cj:m<j
   . rw[zV ()] at C;let{c',e',x',h1,h2,h3,h4}:=my m y C;show{c',e',x',h1,h2,h3,?_};rw[zi (BA h4 U (by intro z;ext z))];show zH hc _ _ h4
   . let ej:m=j:=by let:=(zE.mp C).1;rw[zK,I] at this;simp at this;lia
     subst ej;rw[zS (),I,Dq] at C;let ey:V.ref c=y:=‹C›
     subst ey;show{c,e,x,0,he,hx,by rw[zi (Ne.symm nDc)];show zI}
 . let{_,I,my,s4,U}:=h;rw[zC,EA.1] at I;show k zs o s4 U {?_,λm y C=>?_}
   . unfold Am;rw[zC,List.length_zip,I,EA.1,Nat.min_self]
   . let{c,e,x,h1,h2,h3,h4}:=my m y C;show{c,Sum.inl e.h,.ref x,h1,h4,?_};unfold Am;rw[zM,show (es.zip cs)[m]?=some (e,x) from List.getElem?_zip_eq_some.mpr ⟨h2,h3⟩];rfl
def Wo {mk:List Int}(hLK:H5 LK=some (.lst (mk.map V.int)))(hd:H5 d=some (.dK (Am pcs)))(ent:∀x∈pcs,H5 x.2=some (.tup (eV x.1)))(pm:mk.Perm (pcs.map (·.1.h)))(hl:mk.length<=900)(hD:H5 D=none)
 (k:∀cs fs o,fs.length=mk.length->Ah o cs fs->(∀(q:Nat)e,fs[q]?=some e->mk[q]?=some e.h/\e∈pcs.map (·.1))->AE H5 o->o D=some (.lst (cs.map V.ref))->Q (.ref D) o):Ja (PZ K LK) 1 [.ref d] (GA 0) Gy (IW (Cn 1) (Cn 0)) D H5 Q:=by
 show N1 (a:=LK) (xs:=mk.map V.int) (λm zs o=>m<=mk.length/\∃(cs:List Addr)(fs:List En),zs=cs.map V.ref/\fs.length=m/\Ah o cs fs/\(∀(q:Nat)(e:En),fs[q]?=some e->mk[q]?=some e.h/\e∈pcs.map (·.1))/\AE H5 o/\o D=some (.lst zs)) {zj _,[],[],3,{0,λi b z=>by simp at z},(λq e z=>by simp at z),zH hD,zI} (λm zs o h=>?_) (λm zs o h=>?_) (λm v zs o U h=>?_) (λzs o h=>?_)
 . let{_,2,8,C,_}:=h;show AD.of (C _ _ hLK)
 . let{hm,cs,fs,0,I,EF,_}:=h;rw[zC,EF.1,I];show A5 ()
 . let{_,cs,fs,0,I,EF,hF,C,kg}:=h;rw[zM] at U;cases hh:mk[m]? with
   | none=>rw[hh] at U;ext U
   | some h=>
   rw[hh] at U;ext U;let{{e,x},J,0,hvx}:=Nj (pm.mem_iff.mp (zQ hh));let hx6:=C _ _ (ent _ J);show{{3},?_};show BW ?_;show{4,d,.ref x,0,by rw[<-hvx];show Az.k (k:=Sum.inl e.h) (C _ _ hd),kg,(zE.mp hh).1,cs++[x],fs++[e],by rw[zP];rfl,by rw[zK,I];rfl,?_,λq f hq=>?_,Ar C hD,zI}
   . let kp:∀b us,o b=some (.tup us)->(upd o D (.lst (cs.map V.ref++[.ref x]))) b=some (.tup us):=λb us z=>by rwa[zi (BA z kg (by intro w;ext w))]
     show (EF.keep kp).snoc (kp _ _ hx6)
   . by_cases cq:q<fs.length
     . rw[zV cq] at hq;show hF q f hq
     . let eq:q=fs.length:=by let:=(zE.mp hq).1;rw[zK] at this;simp at this;lia
       subst eq;rw[zS (zJ _),Dq] at hq;let ey:e=f:=‹hq›
       subst ey;show{by rwa[I],zk.mpr {_,J,0}}
 . let{_,cs,fs,0,I,EF,hF,C,kg}:=h;rw[zC] at I;show k cs fs o I EF hF C kg
structure R6 (js jv:List (List En))(v:Int)(gs:List En):Prop where
 sub:∀e∈gs,e∈js.getD v.toNat []\/e∈jv.getD v.toNat []
 all:∀e,e∈js.getD v.toNat []\/e∈jv.getD v.toNat []->DG gs e.h
inductive aR (vs:List V)(H:Hp)(Q:VK):Prop
 | mk:∀(Z Z':Int->List En->Prop)(l o:Addr)(n B:Int)(ts:List T3)(js jv:List (List En)),(vs=[.ref l,.ref o])->(n<=24)->(A4 H l js)->(A4 H o jv)->(js.length=n.toNat)->(jv.length=n.toNat)->(A2 Z ts n B js)->(A2 Z' ts n B jv)->(∀(l':Addr)(lO:List (List En))(H':Hp),AE H H'->A4 H' l' lO->lO.length=n.toNat->A2 (R6 js jv) ts n B lO->Q (.ref l') H')->aR vs H Q
def Mm:Sp:=λo H Q _=>aR o H Q
def gH (E:Ah H cs es):∀x∈es.zip cs,H x.2=some (.tup (eV x.1)):=λx J=>by
 let{m,hm,em}:=zf J;let U:(es.zip cs)[m]?=some (x.1,x.2):=by rw[zB hm,em]
 let{C,o}:=List.getElem?_zip_eq_some.mp U;let{e,he,I}:=E.2 m x.2 o;rw[C] at he;ext he;show I
def Ah.app (E:Ah H cs es)(F:Ah H ds fs):Ah H (cs++ds) (es++fs):=by
 show{by rw[zK,zK,E.1,F.1],λi a h=>?_};by_cases c:i<cs.length
 . rw[zV c] at h;rw[zV (by rw[<-E.1];show c)];show E.2 i a h
 . rw[zS ()] at h;rw[zS (by rw[<-E.1];lia),<-E.1];show F.2 _ a h
def Nm:AR ["_law_labels_here","_law_others","_law_found_here","_law_label","_law_other","_law_here"] RE.p (defScope RE.s):=Aa
def cU:AC P w K mg base 1 RE Mm:=λwz=>by
 show wz.Ei.okZ Nm λ_ _ A _ _ H vs Q E hr h=>?_;let{Z,Z',l,o,n,B,ts,js,jv,0,jz,LL,LO,lT,lL,LM1,LM2,k}:=h;let hu:=Fy hr;let{as,hl,lM,hA}:=id LL;let{os,ho,hol,hO}:=id LO;show{_,zT (AO (i:=2) Nm.nd (BR zN))
  (zT (A0 (d9 rfl wz.mZip (zD (pv 0) (zD (pv 1) zN))) (C0 rfl (zx (AY (i:=3) Nm.nd) (zx (AY (i:=4) Nm.nd) CY)))
   (zT (Ez (i:=5) Nm.nd rfl (Or.inr rfl) (B5 (Q5 rfl) wz.mDict (zD
    (BU (own:=Fc) (cn:=[]) (ci:=[]) rfl (Ax rfl rfl) trivial rfl (BB (AQ EV (pv 3) (pv 4))) (λ_ _ _ _=>Aw)
     (λ_ _ _ _=>BM) (λ_ _ _ _=>AU (zD (zv CU (pv 0) zg) (zD (pv 0) zN)))) zN)))
   (zc (C1 (C3 PySem.F.plainAttrs_list PySem.F.slot_list_append PySem.F.type_list_append FF (pv 2) (zD (B5 DH wz.mTuple (zD
    (BU (own:=["_law_hub"]) (cn:=["_law_here"]) (ci:=[5]) rfl (Ax rfl rfl) {0,3,trivial} rfl (Du (Af (UC rfl) wz.mSorted (zD (pv 5) zN)))
     (λ_ _ _ _=>Aw) (λ_ _ _ _=>BM) (λ_ _ _ _=>Ep hu (pv 1) (pv 0) (λ_ _=>rfl))) zN)) zN))))))
  (zc (AL (B5 DH wz.mTuple (zD (pv 2) zN))))),?_}
 show{Ce,λD hD=>?_};let s0:=zH (o:=.lst []) hD;show{4,l,o,0,{_,AB.of (s0 _ _ hl)},{_,AB.of (s0 _ _ ho)},i5 (K:=K) (a:=l) (b:=o) (xs:=as.map V.ref) (ys:=os.map V.ref) (by rw[zC,zC];lia)
  (λq σ H1=>NM λ(v3 v4 v5:Option V)(bs:List Addr)(lO:List (List En))=>σ=[⇑l,⇑o,⇑D,v3,v4,v5]/\lO.length=q/\H1 D=some (.lst (bs.map V.ref))/\CZ H1 bs lO/\A2 (R6 js jv) ts n B lO/\AE H H1)
  {_,2,[],[],3,zI,{0,λi b z=>by simp at z},(λi es z=>by simp at z),s0} (λq σ H1 _ z=>by let{2,8,8,s1}:=z;show {AB.of (s1 _ _ hl),AB.of (s1 _ _ ho)}) ?turn ?after}
 case after=>
  rintro σ H1 ⟨v3,v4,v5,bs,lO,rfl,hgl,kD,LB,lQ,s1⟩;rw[zC] at hgl;show{1,D,1,.inl {AD.of kD,λl' kO=>?_}};let sl:=zH (o:=.tup (bs.map V.ref)) kO;show k l' lO _ (s1.trans sl) {bs,zI,LB.1,(LB.keep λb ys e=>sl _ _ e).2} () lQ
 case turn=>
  rintro q x y σ H1 T I hy ⟨v3,v4,v5,bs,lO,rfl,hgl,kD,LB,lQ,s1⟩ hT;rw[zM] at I hy;cases ha:as[q]? with
  | none=>rw[ha] at I;ext I
  | some a=>
  cases hb:os[q]? with
  | none=>rw[hb] at hy;ext hy
  | some b=>
  rw[ha] at I;rw[hb] at hy;ext I;ext hy;let{es,kB,LE}:=hA q a ha;let{fs,kR,LF'}:=hO q b hb;let{cs,hat,EA,_}:=id LE;let{ds,hbt,EB,_}:=id LF';let hql:q<n.toNat:=by let:=(zE.mp ha).1;lia
  let LMe:=LM1 q es kB;let LMf:=LM2 q fs kR;let hesl:=LMe.len jz;let hfsl:=LMf.len jz;let sT:=zH (o:=.tup [.ref a,.ref b]) hT;let s2:=s1.trans sT;let jx:=sT _ _ kD;show{T,1,AB.of zI,0,6,5,?_};generalize upd H1 T (.tup [.ref a,.ref b])=H2 at sT s2 jx ⊢;show{4,a,b,5,s2 _ _ hat,s2 _ _ hbt,by rw[zC,zC,EA.1,EB.1];show CI (A5 ()),λab H3 s3 kW=>?_};rw[<-zP] at kW;let EAB:Ah H (cs++ds) (es++fs):=EA.app EB;show{ab,0,{_,AB.of kW},[],0,λD2 kq=>?_};let lz:=s2.trans s3;show VW kW (EAB.keep λb ys z=>lz _ _ z) (by rw[zK];lia) kq λzs H4 s4 j8 PA=>?_
  . let hz1:((es++fs).zip (cs++ds)).map (·.1)=es++fs:=List.map_fst_zip (by rw[EAB.1];show zJ _);let hent:=gH EAB;generalize hpq:(es++fs).zip (cs++ds)=pq at hz1 hent PA;show{D2,zs,Am pq,0,AD.of j8,PA,λd hd=>?_};let{rs,ers,rnd,J,rall}:=gj pq;rw[ers];let pqm:∀e,e∈es++fs↔∃x∈pq,x.1=e:=λe=>by rw[<-hz1,zk]
    let U:LU ts n q B (rs.map (·.1)):=LU.both LMe LMf (by rw[Bn];show rnd) (λe he=>by
     let{x,I,0}:=zk.mp he;show zr.mp ((pqm x.1).mpr {x,J x I,0})) (λe he=>by
     let{x,I,0}:=(pqm e).mp (Cy _ he);rw[Bn];show rall x I)
    let s4d:=s4.trans (zH (o:=.dK (Am rs)) hd);let hDd:D≠d:=zl (s4 _ _ (s3 _ _ jx)) hd;let k8:(upd H4 d (.dK (Am rs))) d=some (.dK (Am rs)):=zI;generalize upd H4 d (.dK (Am rs))=H5 at s4d k8 ⊢;let rsl:rs.length<=24:=by let:=U.len jz;rwa [zC] at this
    let s25:=lz.trans s4d;let ko:=s4d _ _ (s3 _ _ jx);show{1,.inl {0,_,AD.of ko},1,d,6,k8,Mw rs,by rw[zC];lia,λLK mk hLK pmk st=>?_};let sK:=zH (o:=.lst (mk.map V.int)) hLK;let lB:(upd H5 LK (.lst (mk.map V.int))) LK=some (.lst (mk.map V.int)):=zI;let mkl:mk.length<=24:=by rw[pmk.length_eq,zC];show rsl
    generalize upd H5 LK (.lst (mk.map V.int))=H6 at sK lB ⊢;show{LK,0,{_,AD.of lB},[.ref d],0,λD3 kC=>?_};let hd6:=sK _ _ k8;let s26:=s25.trans sK;show Wo lB hd6 (λx I=>s26 _ _ (hent _ (J _ I))) pmk () kC λcs' gs H7 hgs EG hG s7 mh=>?_
    . show{D3,1,.inl {AD.of mh,λb' kS=>?_}};let sb:=zH (o:=.tup (cs'.map V.ref)) kS;let s58:=(sK.trans s7).trans sb;let s18:AE H1 (upd H7 b' (.tup (cs'.map V.ref))):=((sT.trans s3).trans s4d).trans s58;let s08:=s25.trans s58;let hDb:=s58 _ _ ko;let LC:A1 (upd H7 b' (.tup (cs'.map V.ref))) b' gs:={cs',zI,EG.keep λb us z=>sb _ _ z,()};let LMg:LM (R6 js jv) ts n q B gs:=LM.of_sorted U hgs (by rw[Bn];show pmk) st hG λmm=>by
       let e1:js.getD ((q:Int)).toNat []=es:=by rw[show ((q:Int)).toNat=q by lia,zF,kB];rfl
       let e2:jv.getD ((q:Int)).toNat []=fs:=by rw[show ((q:Int)).toNat=q by lia,zF,kR];rfl
       show{λe he=>?_,λe he=>?_}
       . rw[e1,e2];let{x,I,0}:=zk.mp ((mm e).mp he);show zr.mp ((pqm x.1).mpr {x,J x I,0})
       . rw[e1,e2] at he;let{x,I,0}:=(pqm e).mp (zr.mpr he);let{y,hy,ey}:=zk.mp (rall x I);show{y.1,(mm y.1).mpr (zk.mpr {y,hy,0}),ey}
      generalize upd H7 b' (.tup (cs'.map V.ref))=H8 at s18 s08 hDb LC ⊢;show{D,5,hDb,by rw[zC,LB.1];show A5 (),?_};let kp:∀x us,H8 x=some (.tup us)->(upd H8 D (.lst (bs.map V.ref++[.ref b']))) x=some (.tup us):=λx us z=>by rw[zi (BA z hDb (by intro w;ext w))];show z
      show{_,2,bs++[b'],lO++[gs],0,by rw[zK,hgl];rfl,by rw[zP];show zI,((LB.keep λx us z=>s18 _ _ z).keep kp).snoc (LC.keep kp),lQ.snoc hgl LMg,Ar s08 hD}
structure U9 (ts:List T3)(js:List (List En)):Prop where
 cl:∀(i:Nat)(h p:Int),i<js.length->DG (js.getD i []) h->BF ts i h p->DG (js.getD p.toNat []) h
 cov:∀(i j:Nat)(d:Int),i<js.length->j<js.length->WM.IsD ts i j d->∃h,CS ts i j h/\DG (js.getD i []) h/\DG (js.getD j []) h
def NI (n:Int)(_:Int)(es:List En):Prop:=∀e∈es,GJ n e
def LM.weak (h:LM Z ts n v B es)(z:Z' v es):LM Z' ts n v B es:=⟨h.hub,h.rng,h.nn,h.own,h.zero,h.rch,z⟩
def A2.at (L:A2 Z ts n B js)(hi:i<js.length):LM Z ts n i B (js.getD i []):=L i _ (getD_some hi)
def A2.weak (L:A2 Z ts n B js)(z:∀i:Nat,i<js.length->LM Z ts n i B (js.getD i [])->Z' i (js.getD i [])):A2 Z' ts n B js:=λi es h=>by
 let hi:=(zE.mp h).1;let e:es=js.getD i []:=by rw[zF,h];rfl
 let o:=L.at hi;rw[e];show o.weak (z i hi o)
def A2.kd (L:A2 (NI n) ts n B js)(C:0<=n)(I:js.length=n.toNat):DO n js:=by show{I,λes he=>?_};let{i,hi,e}:=zf he;let o:=L i es (by rw[zB hi,e]);show o.kind C o.ud
structure LX (ts:List T3)(n B:Int)(js:List (List En)):Prop where
 ln:js.length=n.toNat
 lm:A2 (Oi ts) ts n B js
 rc:U9 ts js
def LX.ke (G:GW n ts)(X:LX ts n B js):A2 (NI n) ts n B js:=X.lm.weak λi _ L e he=>(L.ud e he).ok G (L.rng e he)
def LX.let (G:GW n ts)(X:LX ts n B js):Gk ts n js:=by
 show RO.let G {X.ln,λi es h=>?_,λi j es fs hi o d hd=>?_} λi e p F _ x=>?_
 . let L:=X.lm i es h;show{L.hub,λe he=>{L.rng e he,(L.ud e he).len,(L.ud e he).up,(L.ud e he).dn},L.own}
 . let a:=X.rc.cov i j d (zE.mp hi).1 (zE.mp o).1 hd;rwa[zF,zF,hi,o] at a
 . show X.rc.cl i e.h p F.hi {e,F.mem,0} x
def JV.lx {os:List Int}(G:GW n ts)(R:Hf n os rk)(L:JV ts n rk js)(b:∀es∈js,∀e∈es,0<=e.l/\e.l<=1660944384):LX ts n 1660944384 js:=by
 show{L.1,L.lm G b,λi h p hi hh x=>?_,λi j d hi hj hd=>(L.good G R).cov i j _ _ (getD_some hi) (getD_some hj) d hd};let{e,he,0}:=hh;let hl:=L.1;let E:=(L.2 i _ (getD_some hi)).ent e he;let{l,b,ha,o,C}:=x;let r:=G.adj ha;let U:p.toNat<js.length:=()
 let I:=L.2 p.toNat _ (getD_some U);rw[show ((p.toNat:Nat):Int)=p by lia] at I;show I.all e.h E.rng.1 E.rng.2 {⟨b,o.symm⟩,λq J=>E.hub.2 q ?_};show CS.trans (p:=p) {b,l,o.symm,?_,?_} J
 . show{(Way.one ha).symm,λd hd=>?_};let:=C.2 _ (hd.symm.trans o.1)
   lia
 . rw[Int.add_comm];show C.symm
def gg (G:GW n ts)(J:js.length=n.toNat)(L:A2 (Ud ts n) ts n B js):LX ts n B js:=by
 show{J,L.weak λi _ L=>L.ud.1,λi h p hi hh x=>?_,λi j d hi U hd=>{i,CS.self G hd,(L.at hi).own,?_}}
 . let{e,he,0}:=hh;let r:=(L.at hi).rng e he;let{l,b,ha,C,l4}:=x;let ra:=G.adj ha;let I:p.toNat<js.length:=()
   let o:=(L.at I).ud.2 e.h b r.1 r.2;rw[show ((p.toNat:Nat):Int)=p by lia] at o;show o C
 . show (L.at U).ud.2 i d () () hd.symm
def fA (J:lO.length=n.toNat)(X:LX ts n B js)(Y:LX ts n B jv)(L:A2 (R6 js jv) ts n B lO):LX ts n B lO:=by
 let lx:=X.ln;let ly:=Y.ln;let nt:∀i:Nat,((i:Int)).toNat=i:=λi=>by lia
 let o:∀i,i<lO.length->∀h,DG (lO.getD i []) h↔DG (js.getD i []) h\/DG (jv.getD i []) h:=λi hi h=>by
  let Z:=(L.at hi).ud;constructor
  . rintro ⟨e,he,rfl⟩;let:=Z.sub e he;rw[nt] at this;show this.imp (λz=>{e,z,0}) λz=>{e,z,0}
  . rintro (⟨e,he,rfl⟩ | ⟨e,he,rfl⟩)
    . show Z.all e (.inl (by rwa[nt]))
    . show Z.all e (.inr (by rwa[nt]))
 show{J,L.weak λi hi L e he=>?_,λi h p hi C x=>?_,λi j d hi U hd=>?_}
 . let:=L.ud.sub e he;rw[nt] at this;show this.elim (λz=>(X.lm.at ()).ud e z) λz=>(Y.lm.at ()).ud e z
 . by_cases I:p.toNat<lO.length
   . rw[o i hi] at C;rw[o _ I];show C.imp (λz=>X.rc.cl i h p () z x) λz=>Y.rc.cl i h p () z x
   . rcases (o i hi h).mp C with z | z
     . let{e,he,_}:=X.rc.cl i h p () z x;rw[zF,zn ()] at he;ext he
     . let{e,he,_}:=Y.rc.cl i h p () z x;rw[zF,zn ()] at he;ext he
 . let{h,h1,h2,h3}:=X.rc.cov i j d () () hd;show{h,h1,(o i hi h).mpr (.inl h2),(o j U h).mpr (.inl h3)}
def fH (I:jv.length=n.toNat)(X:LX ts n B js)(L:A2 (U2 ts js) ts n B jv):LX ts n B jv:=by
 let lx:=X.ln;let nt:∀i:Nat,((i:Int)).toNat=i:=λi=>by lia
 let o:∀i,i<jv.length->∀h,DG (js.getD i []) h↔DG (jv.getD i []) h:=λi hi h=>by let:=(L.at hi).ud.2 h;rwa [nt] at this
 show{I,L.weak λi _ L=>L.ud.1,λi h p hi U x=>?_,λi j d hi J hd=>?_}
 . let z:=X.rc.cl i h p () ((o i hi h).mpr U) x;by_cases C:p.toNat<jv.length
   . show (o _ C h).mp z
   . let{e,he,_}:=z;rw[zF,zn ()] at he;ext he
 . let{h,h1,h2,h3}:=X.rc.cov i j d () () hd;show{h,h1,(o i hi h).mp h2,(o j J h).mp h3}
structure Uu (ts:List T3)(i:Nat)(e:En)(d t:Int):Prop where
 ed:e.d=some d
 ad:An ts e.h d t
 len:WM.IsD ts d i (e.l-t)
structure DM (ts:List T3)(n:Int)(e0 js:List (List En)):Prop where
 ln:js.length=e0.length
 ok:∀i e,e∈js.getD i []->GJ n e
 up:∀i e,Kj js i e->Dd ts js i e
 dn:∀i e,Kj js i e->∃d t,Uu ts i e d t
 sub:∀(i:Nat) e,e∈e0.getD i []->e∈js.getD i []
def LX.lg (G:GW n ts)(X:LX ts n B js):DM ts n js js:=by
 show{0,λi e he=>?_,(X.let G).up,λi e F=>?_,λ_ _ z=>z}
 . by_cases hi:i<js.length
   . show ((X.ke G).at hi).ud e he
   . rw[zF,zn ()] at he;ext he
 . let L:=X.lm.at F.hi;let{p,C,l,b,ha,I,o}:=(L.ud e F.mem).dn λz=>F.far ((L.zero e F.mem).mpr z);show{p,l,C,ha,?_};rwa[(L.ud e F.mem).len.symm.uniq o,show l+b-l=b by lia]
def Dd.mono (h:Dd ts js i e)(s:∀(j:Nat) x,x∈js.getD j []->x∈jv.getD j []):Dd ts jv i e:=
 let ⟨u,t,f,a,b,c,d⟩:=h;{u,t,f,a,b,s _ _ c,d}
def eY {α:Type}{l:List (List α)}{x:List α}(ha:a<l.length):(l.set a x).getD i []=if i=a then x else l.getD i []:=by
 rw[zF];by_cases c:i=a
 . subst c;rw[if_pos rfl,JL ha];rfl
 . rw[if_neg c,M8 (Ne.symm c),zF]
def DM.put (S:DM ts n e0 js)(ha:a<js.length)(ok:GJ n e)(up:Dd ts js a e)(C:∃d t,Uu ts a e d t):DM ts n e0 (js.set a (js.getD a []++[e])):=by
 let g:∀i,(js.set a (js.getD a []++[e])).getD i []=if i=a then js.getD a []++[e] else js.getD i []:=λi=>eY ha
 let mo:∀(j:Nat) x,x∈js.getD j []->x∈(js.set a (js.getD a []++[e])).getD j []:=λj x o=>by
  rw[g];by_cases c:j=a
  . subst c;rw[if_pos rfl];show Cy _ o
  . rwa[if_neg c]
 let cs:∀(j:Nat) x,x∈(js.set a (js.getD a []++[e])).getD j []->x∈js.getD j []\/(j=a/\x=e):=λj x o=>by
  rw[g] at o;by_cases c:j=a
  . rw[if_pos c] at o;rcases zr.mp o with z | z
    . show .inl (by rwa[c])
    . show .inr {c,zm.mp z}
  . rw[if_neg c] at o;show .inl o
 show{by rw[Cp];show S.ln,λi x o=>?_,λi x F=>?_,λi x F=>?_,λi x o=>mo i x (S.sub i x o)}
 . rcases cs i x o with z | ⟨_,z⟩
   . show S.ok i x z
   . rwa[z]
 . let hi:=F.hi;rw[Cp] at hi;rcases cs i x F.mem with z | ⟨c,z⟩
   . show (S.up i x ⟨hi,z,F.far⟩).mono mo
   . rw[c,z];show up.mono mo
 . let hi:=F.hi;rw[Cp] at hi;rcases cs i x F.mem with z | ⟨c,z⟩
   . show S.dn i x ⟨hi,z,F.far⟩
   . rwa[c,z]
def DM.congr (S:DM ts n e0 js)(C:jv.length=js.length)(m:∀(i:Nat) e,e∈jv.getD i []↔e∈js.getD i []):DM ts n e0 jv:=
 {C.trans S.ln,λi e he=>S.ok i e ((m i e).mp he),λi e F=>(S.up i e {by let:=F.hi;lia,(m i e).mp F.mem,F.far}).mono λj x o=>(m j x).mpr o,λi e F=>S.dn i e {by let:=F.hi;lia,(m i e).mp F.mem,F.far},λi e he=>(m i e).mpr (S.sub i e he)}
def DM.way (G:GW n ts)(C:js.length=n.toNat)(L:A2 Z ts n B js)(S:DM ts n e0 js):∀(m:Nat){i:Nat}{e:En},i<js.length->e∈js.getD i []->e.l.toNat<=m->Way ts i e.h e.l
 | m,i,e,hi,he,hm=>by
  by_cases z:e.l=0
  . rw[((L.at hi).zero e he).mp z,z];show .nil _
  . let{u,t,f,_,ha,hf,J,I}:=S.up i e ⟨hi,he,z⟩;let r:=G.adj ha;let o:u.toNat<js.length:=by grind
    let:=((L.at o).nn f hf).1;let:=((L.at hi).nn e he).1
    match m with
    | 0=>lia
    | m+1=>have w:=DM.way G C L S m o hf ();rw[J,I,show ((u.toNat:Nat):Int)=u by lia] at w;let:=(Way.one ha).trans w;rwa [show t+(e.l-t)=e.l by lia] at this
def DM.let (G:GW n ts)(hl:js.length=n.toNat)(L:A2 Z ts n C js)(X:LX ts n B e0)(S:DM ts n e0 js):Gk ts n js:=by
 let ln:=S.ln;let J:∀{i j:Nat} {lm},i<js.length->j<js.length->B3 (Cd (js.getD i []) (js.getD j [])) lm->Cu ts i j (lm.map (·.1)):=λ{i j lm} hi hj h=>by
  let le:∀d,WM.IsD ts i j d->∃c,lm=some c/\c.1<=d:=λd hd=>by
   let{x,{a,b,ia,I,l4},{e,he,e1},{f,hf,f1}}:=X.rc.cov i j d () () hd;let ea:e.l=a:=by let:=((X.lm.at ()).ud e he).len;rw[e1] at this;show this.uniq ia
   let eb:f.l=b:=by let:=((X.lm.at ()).ud f hf).len;rw[f1] at this;show this.uniq I.symm
   let cd:Cd (js.getD i []) (js.getD j []) (e.l+f.l,e.h):={e,S.sub i e he,f,S.sub j f hf,by rw[f1,e1],0};let ed:a+b=d:=l4.uniq hd;cases lm with
   | none=>show absurd cd (h _)
   | some c=>
    show{c,0,?_};rcases h.2 _ cd with z | z
    . let:c.1<e.l+f.l:=z
      lia
    . let:c.1=e.l+f.l:=z.1
      lia
  cases lm with
  | none=>intro d w;let{d',o}:=Way.least G w;let{c,z,_}:=le d' o;ext z
  | some c=>let{{e,he,f,hf,n5,0},_}:=h;let w1:=S.way G hl L _ hi he (zJ _);let w2:=S.way G hl L _ hj hf (zJ _);rw[n5] at w2;let w:=w1.trans w2.symm;show{w,λd wd=>?_};let{d',o}:=Way.least G wd;let{c,z,U}:=le d' o;ext z;let:=o.2 _ wd;show Int.le_trans U this
 show{λi e r hi hf=>?_,S.up,λu v hu hv w t lv lw ha h1 h2 c U=>?_,λi e F=>?_}
 . let om:e∈(js.getD i []).filter (λe=>decide (e.l=0)):=by rw[hf];show zX
   let{o1,o2}:=Dg.mp om;show ((L.at hi).zero e o1).mp (of_decide_eq_true o2)
 . subst U;let r:=G.adj ha;let a:=J hv hu h1;let b:=J (i:=w.toNat) () hu h2;rw[show ((w.toNat:Nat):Int)=w by lia] at b;let wy:=(Way.one ha).symm.trans (show WM.IsD ts v u c.1 from a).1;cases lw with
   | none=>show absurd wy (b _)
   | some c'=>show{c',0,by let:=(show WM.IsD ts w u c'.1 from b).2 _ wy;lia}
 . let{p,t,hp,ha,I}:=S.dn i e F;let r:=G.adj ha;let{lm,hm}:=Na (es:=js.getD p.toNat []) (L.at F.hi).hub;let b':=J (i:=p.toNat) (by omega) F.hi hm;rw[show ((p.toNat:Nat):Int)=p by lia] at b';cases lm with
   | none=>show absurd I.1 (b' _)
   | some c=>show{p,t,c,hp,ha,hm,WM.IsD.uniq (show WM.IsD ts p i c.1 from b') I}
structure MJ (H:Hp)(ds:List Addr)(j5:List (List (En×Addr))):Prop where
 ln:ds.length=j5.length
 nd:ds.Nodup
 at_:∀(i:Nat)(d:Addr),ds[i]?=some d->∃pcs,j5[i]?=some pcs/\DE H d pcs
def DE.keep (h:DE H d pcs)(o:H d=some (.dK (Am pcs))->H' d=some (.dK (Am pcs)))(k:∀b ys,H b=some (.tup ys)->H' b=some (.tup ys)):DE H' d pcs:={o h.dct,λx C=>k _ _ (h.ent x C)}
def MJ.keep (h:MJ H ds j5)(C:∀d kvs,d∈ds->H d=some (.dK kvs)->H' d=some (.dK kvs))(k:∀b ys,H b=some (.tup ys)->H' b=some (.tup ys)):MJ H' ds j5:=
 {h.ln,h.nd,λi d e=>let ⟨o,J,I⟩:=h.at_ i d e;{o,J,I.keep (C d _ (zQ e)) k}}
def bB (ts:List T3)(n:Int)(C:Nat->Int)(o:List (List (En×Addr))):Prop:=∀(i:Nat)pcs,o[i]?=some pcs->LU ts n i (C i) (pcs.map (·.1))
inductive Zp (vs:List V)(H:Hp)(Q:VK):Prop
 | mk:∀(t p wa fl l:Addr)(N:Nat)(n:Int)(ts:List T3)(M:BV)(js:List (List En)),(vs=[.ref t,.ref wa,.ref fl,.ref l])->(Ao H t p N)->(N<400000)->(Ap H wa n ts)->(Bs H fl n ts M)->(A4 H l js)->(LX ts n 1660944384 js)->(∀(l':Addr)(jv:List (List En))(H':Hp),A4 H' l' jv->jv.length=n.toNat->A2 (NI n) ts n 1700000000 jv->Gk ts n jv->Ao H' t p (N+10000)->Sm t H H'->Q (.ref l') H')->Zp vs H Q
def fN:Sp:=λo H Q _=>Zp o H Q
meta def Bb (o:List (List (En×Addr))):List (List En):=o.map λp=>p.map (·.1)
def Bb.at (h:j5[i]?=some pcs):(Bb j5).getD i []=pcs.map (·.1):=by unfold Bb;rw[zF,zM,h];rfl
def Bb.len (o:List (List (En×Addr))):(Bb o).length=o.length:=zC _
def ai (o:List (List En))(v:Int)(fs:List En):Prop:=∀e,e∈fs↔e∈o.getD v.toNat []
def Mh (h:eV e=eV f):e=f:=by
 let I:∀{a b:Option Int},oV a=oV b->a=b:=λ{a b} z=>by let:=Nx a b;rw[zO z] at this;show of_decide_eq_true this.symm
 unfold eV at h;injection h with C h;injection h with o h;injection h with h3 h;injection h with h4 h;injection C with C;injection o with o;ext e;ext f;ext C;ext o;cases I h3;cases I h4;rfl
def bO [DecidableEq κ] {kvs:List (κ×V)}(h:k∈kvs.map (·.1)):∃v,AW kvs k=some v:=by
 let{x,C,e}:=zk.mp h;unfold AW;cases c:kvs.find? λo=>decide (o.1=k) with
 | none=>show absurd (zO e) (by simpa using List.find?_eq_none.mp c x C)
 | some y=>show{y.2,0}
structure DS (H:Hp)(t p pd fo:Addr)(kvs:List (List AJ×V))(ds:List Addr)(n:Int)(ts:List T3)(e0:List (List En))(N:Nat)(C:Int)(H1:Hp):Prop where
 tp:Ao H1 t p N
 sm:Sm t H H1
 pr:H1 pd=some (.dT kvs)
 fo:H1 fo=some (.lst (ds.map V.ref))
 ld:∃j5,MJ H1 ds j5/\j5.length=n.toNat/\bB ts n (λ_=>C) j5/\DM ts n e0 (Bb j5)
section
variable {H H1 H2:Hp}{t p pd fo:Addr}{kvs:List (List AJ×V)}{ds:List Addr}{n:Int}{ts:List T3}{e0:List (List En)}{N M:Nat}{C D:Int}
def DS.same (h:DS H t p pd fo kvs ds n ts e0 N C H1)(s:AE H1 H2):DS H t p pd fo kvs ds n ts e0 N C H2:=by let{o,a,b,c,g}:=h.ld;show{h.tp.kp s,h.sm.trans (Sm.of s),s _ _ h.pr,s _ _ h.fo,o,a.keep (λd u _ e=>s _ _ e) (λb u e=>s _ _ e),b,c,g}
def DS.up (h:DS H t p pd fo kvs ds n ts e0 N C H1)(l:N<=M)(c:C<=D):DS H t p pd fo kvs ds n ts e0 M D H1:=by let{I,a,b,e,g}:=h.ld;show{h.tp.up l,h.sm,h.pr,h.fo,I,a,b,(λi o z=>(e i o z).mono c),g}
def Ao.nR {rs:List Addr}(h:Ao H t p N)(hb:H b=some (.lst (rs.map V.ref))):b≠t:=λz=>by
 let{ns,o,rest,a,_}:=h;rw[z,a] at hb;injection hb with hb;injection hb with hb
 match rs,hb with
 | [],hb=>simp at hb
 | [_],hb=>simp at hb
 | _::_::_,hb=>simp at hb
def Ao.nt (h:Ao H t p N)(hb:H b=some o)(C:∀xs,o ≠ .lst xs):b≠t:=λz=>by let{ns,I,rest,a,_}:=h;rw[z,a] at hb;show C _ (zZ hb).symm
def DE.draw (h:DE H1 d pcs)(T:Ao H1 t p N)(he:∀b,b≠t->H2 b=H1 b):DE H2 d pcs:=
 h.keep (λe=>by rwa[he _ (T.nt e (by intro xs z;ext z))]) λb o e=>by rwa[he _ (T.nt e (by intro xs z;ext z))]
def DS.draw (h:DS H t p pd fo kvs ds n ts e0 N C H1)(T:Ao H2 t p (N+1))(he:∀b,b≠t->H2 b=H1 b):DS H t p pd fo kvs ds n ts e0 (N+1) C H2:=by let{I,a,b,c,g}:=h.ld;show{T,h.sm.trans (DD he),by rw[he _ (h.tp.nt h.pr (by intro xs z;ext z))];show h.pr,by rw[he _ (h.tp.nR h.fo)];show h.fo,I,{a.ln,a.nd,λi d e=>?_},b,c,g};let{o,U,J}:=a.at_ i d e;show{o,U,J.draw h.tp he}
def DS.put (h:DS H t p pd fo kvs ds n ts e0 N C H1){a:Nat}(L:MJ H1 ds j5)(hl:j5.length=n.toNat)(U:bB ts n (λ_=>C) j5)(S:DM ts n e0 (Bb j5))(hd:ds[a]?=some d)(hp:j5[a]?=some pcs)(hd0:H d=none)(n1:d≠t)(n2:d≠p)
 (hx:H1 x=some (.tup (eV e)))(h0:0<=e.h/\e.h<n)(hll:0<e.l/\e.l<=C)(hn:e.h∉pcs.map (·.1.h))(hr:∃q,WM.IsD ts a e.h q)(ok:GJ n e)(up:Dd ts (Bb j5) a e)(dn:∃d t,Uu ts a e d t):DS H t p pd fo kvs ds n ts e0 N C (upd H1 d (.dK (Am (pcs++[(e,x)])))):=by
 let{pcs',e1,o}:=L.at_ a d hd;rw[hp] at e1;ext e1;let k8:=o.dct;let kt:∀b ys,H1 b=some (.tup ys)->(upd H1 d (.dK (Am (pcs++[(e,x)])))) b=some (.tup ys):=λb ys z=>by rwa[zi (BA z k8 (by intro w;ext w))]
 let ha:a<j5.length:=(zE.mp hp).1;show{h.tp.ch n1 n2,h.sm.chg hd0,by rw[zi (BA h.pr k8 (by intro w;ext w))];show h.pr,by rw[zi (BA h.fo k8 (by intro w;ext w))];show h.fo,j5.set a (pcs++[(e,x)]),{by rw[Cp];show L.ln,L.nd,λi d' I=>?_},by rwa[Cp],λi qs J=>?_,?_}
 . by_cases c:i=a
   . subst c;rw[hd] at I;ext I;show{pcs++[(e,x)],by rw[JL ha],zI,λy hy=>?_};rcases zr.mp hy with z | z
     . show kt _ _ (o.ent y z)
     . rw[zm.mp z];show kt _ _ hx
   . let{qs,q1,q2}:=L.at_ i d' I;let nd':d'≠d:=λz=>by subst z;let{i1,e1}:=zE.mp hd;let{i2,e2}:=zE.mp I;show c ((HZ L.nd).mp (e2.trans e1.symm))
     show{qs,by rwa[M8 (Ne.symm c)],q2.keep (λz=>by rwa[zi nd']) kt}
 . by_cases c:i=a
   . subst c;rw[JL ha] at J;ext J;let:=U i pcs hp;rw[zP];show this.put h0 hll (by rwa[Bn]) hr
   . rw[M8 (Ne.symm c)] at J;show U i qs J
 . let:=S.put (a:=a) (by rwa[Bb.len]) ok up dn;rw[Bb.at hp] at this;let e2:Bb (j5.set a (pcs++[(e,x)]))=(Bb j5).set a (pcs.map (·.1)++[e]):=by unfold Bb;rw[List.map_set,zP];rfl
   rwa[e2]
end
def i4:Be (Nd X pl N' sc yc fp s3 H3) (.type "tuple") (MZ X.K):=DH
def eF {tl:TE}(o:PE (Nd X pl N' sc yc fp s3 H3) l tl):PI (Nd X pl N' sc yc fp s3 H3) tg l (Sz X.K tl):=Du o
def Ew (t:Addr)(H H':Hp):Prop:=∀b o,b≠t->(∀kvs,o ≠ .dK kvs)->H b=some o->H' b=some o
def Ew.tr (a:Ew t H H1)(b:Ew t H1 H2):Ew t H H2:=λc o n d e=>b c o n d (a c o n d e)
def Sm.d (a:Sm t H H1):Ew t H H1:=λc o n _ e=>a c o n e
def Ew.tu (a:Ew t H H1)(n:b≠t)(e:H b=some (.tup xs)):H1 b=some (.tup xs):=a b _ n (by intro k z;ext z) e
def Ew.ls (a:Ew t H H1)(n:b≠t)(e:H b=some (.lst xs)):H1 b=some (.lst xs):=a b _ n (by intro k z;ext z) e
def Ol (h:(pcs.map (·.1.h)).Nodup):((Am pcs).map (·.1)).Nodup:=by rw[Mw,List.Nodup,EZ];show h.imp λz w=>z (by injection w)
def JN:AR ["_law_tape_here","_law_web_here","_law_far_here","_law_labels_here","_law_pairs","_law_found_here","_law_pair","_law_hub","_law_long","_law_downs"] Rm.p (defScope Rm.s):=Aa
def jA:AC P w K mg base 2 Rm fN:=λwz=>by
 show wz.Lg.okZ JN λ_ _ A _ _ H vs Q E hr h=>?_;let{t,p,wa,fl,l,N,n,ts,M,js,0,T,hN,W,FR,LL,LX0,k}:=h;let{ta,tys,kF,mX,TA,G}:=id W;let lS:=G.n1;let jz:=G.n24;let hnt:=G.len;let hu:=Fy hr;let nJ:=hr.units0;let{as,hl,lM,hA}:=id LL;let lT:=LX0.ln;let LMM:=LX0.lm;show{_,zT (Ez (i:=4) JN.nd rfl (Or.inr rfl) (AG (aQ wz) hr (zD (pv 1) zN)))
  (zT (DW (i:=5) (own:=["_law_label"]) (cn:=[]) (ci:=[]) JN.nd rfl (Or.inl rfl) rfl (Ax rfl rfl) trivial rfl (BB (pv 3)) (λ_ _ _ _=>Aw) (λ_ _ _ _=>BM)
   (λ_ _ _ _=>B5 (Zb rfl) wz.mDict (zD
    (BU (own:=Fc) (cn:=[]) (ci:=[]) rfl (Ax rfl rfl) trivial rfl (Vs (pv 0)) (λ_ _ _ _=>Aw)
     (λ_ _ _ _=>BM) (λ_ _ _ _=>AU (zD (zv SH (pv 0) zg) (zD (pv 0) zN)))) zN)))
  (zT (A0 (Du (Af (Vk rfl) wz.mSorted (zD (pv 4) zN))) (Bc (i:=6) JN.nd rfl (Or.inr rfl))
   (zc (A0 (Du (Af (UC rfl) wz.mSorted (zD (zv AS (pv 5) (zv AV (pv 6) zg)) zN))) (Bc (i:=7) JN.nd rfl (Or.inr rfl))
    (zT (Ez (i:=8) JN.nd rfl (Or.inr rfl) (AQ Br (zv AV (Ep hu (zv AS (pv 5) (zv AV (pv 6) zg)) (pv 7) (λ_ _=>rfl)) zg) (Ep hu (pv 4) (pv 6) (λ_ _=>rfl))))
    (zT (DW (i:=9) (own:=["_law_y"]) (cn:=["_law_hub","_law_pairs","_law_far_here","_law_pair","_law_long"]) (ci:=[7,4,2,6,8]) JN.nd rfl (Or.inl rfl) rfl (Ax rfl rfl) {0,3,3,3,3,3,3,3,trivial} rfl
     (BX rfl wz.mRange (zD (zv AV (pv 1) zg) zN)) (λ_ _ _ _=>Aw)
     (λ_ _ _ _=>Dw (PW.pt (DT (GS (Nw hu (AU (zD (pv 1) (zD (pv 0) zN))) (pv 2)))
      (EW (zw BH (zv HW (zv HW (pv 3) (pv 0)) (zv CU (pv 4) zg)) (AQ Dh (pv 5) (Ep hu (pv 2) (AU (zD (pv 1) (zD (pv 0) zN))) (λ_ _=>rfl))) (AH _))))))
     (λ_ _ _ _=>pv 0))
    (zc (Ac (PW.pt (DT (GS (Sv hu (pv 7) (zv AS (pv 5) (zv AV (pv 6) zg)))) (DT (zw (Zw nJ) (pv 9) (BR zN) (AH _)) (EW (zw EN (AG (GY wz) hr (zD (pv 0) (DF zN))) zg (AH _))))))
     (zc (Nb hu (zv AS (pv 5) (zv AV (pv 6) zg)) (pv 7)
      (AU (zD (pv 7) (zD (pv 8) (zD (zv AV (pv 6) zg) (zD (zv AS (pv 9) (AG (GY wz) hr (zD (pv 0) (zD (Af DB wz.mLen (zD (pv 9) zN)) zN)))) zN))))) rfl)) Ae)))))))
  (zc (AL (B5 DH wz.mTuple (zD
   (BU (yc := some "_law_here") (own:=["_law_here"]) (cn:=[]) (ci:=[]) rfl (Km rfl (λ_ _=>rfl) rfl rfl) trivial rfl (Du (pv 5)) (λ_ _ _ _=>Bc (i:=0) (Dm rfl) rfl (Or.inr rfl)) (λ_ _ _ _=>BM)
    (λ_ _ _ _=>B5 i4 wz.mTuple (zD
     (BU (own:=["_law_hub"]) (cn:=["_law_here"]) (ci:=[0]) rfl (Ax rfl rfl) {0,3,trivial} rfl (eF (Af (UC rfl) wz.mSorted (zD (pv 0) zN)))
      (λ_ _ _ _=>Aw) (λ_ _ _ _=>BM) (λ_ _ _ _=>Ep hu (pv 1) (pv 0) (λ_ _=>rfl))) zN))) zN)))))),?_}
 show{1,wa,n,ts,0,W,λpd kvs H1 s1 hpd PDk hkl KPk=>?_};let T1:=T.kp s1;let mG:∀b I,H b=some (.tup I)->H1 b=some (.tup I):=λb I e=>s1 _ _ e;show{1,l,0,{_,AB.of (s1 _ _ hl)},[],0,λfo nQ=>?_};let nfo:=T1.nn nQ;show BS (a:=l) (xs:=as.map V.ref) (λi I H2=>i<=js.length/\Es λ(ds:List Addr)(j5:List (List (En×Addr)))=>I=ds.map V.ref/\j5.length=i/\MJ H2 ds j5/\(∀(j:Nat)(pcs:List (En×Addr)),j5[j]?=some pcs->js[j]?=some (pcs.map (·.1)))/\(∀d∈ds,H1 d=none/\d≠fo)/\AE H1 H2/\H2 fo=some (.lst I))
  {zj _,[],[],3,{0,List.nodup_nil,λi d z=>by simp at z},λj pcs z=>by simp at z,λd z=>by simp at z,zH nQ,zI} (λi I H2 h=>?_) (λi I H2 h=>?_) (λi v I H2 hv h=>?_) (λI H2 h=>?_)
 . let{8,8,s2,_}:=h;show AB.of (s2 _ _ (s1 _ _ hl))
 . let{hi,ds,j5,0,kK,L,_}:=h;rw[zC,L.ln,kK];show A5 ()
 . let{_,ds,j5,0,kK,L,hE,me,s2,hfo2}:=h;rw[zM] at hv;cases ha:as[i]? with
   | none=>rw[ha] at hv;ext hv
   | some a=>
   rw[ha] at hv;ext hv;let{es,kB,LE}:=hA i a ha;let hia:=(zE.mp ha).1;let{cs,hat,EA,_}:=id LE;let LMi:=LMM i es kB;let hesl:=LMi.len jz;let mF:∀b us,H b=some (.tup us)->H2 b=some (.tup us):=λb us e=>s2 _ _ (s1 _ _ e);show{{3},?_};show BW ?_;show{1,a,0,{_,AB.of (mF _ _ hat)},[],0,λD hD=>?_};show VW (mF _ _ hat) (EA.keep mF) () hD λzs H3 s3 kC PA=>?_
   . let hz1:(es.zip cs).map (·.1)=es:=List.map_fst_zip (by rw[EA.1];show zJ _);let hzn:((es.zip cs).map (·.1.h)).Nodup:=by
      let:(es.zip cs).map (·.1.h)=es.map (·.h):=by rw[<-hz1,Bn,hz1];rfl
      rw[this];show LMi.lu.nd
     show{D,zs,Am (es.zip cs),0,AD.of kC,PA,λd hd=>?_};rw[RI (Ol hzn)];let lz:AE H2 (upd H3 d (.dK (Am (es.zip cs)))):=s3.trans (zH hd);let nfd:fo≠d:=zl (s3 _ _ hfo2) hd;let k8:(upd H3 d (.dK (Am (es.zip cs)))) d=some (.dK (Am (es.zip cs))):=zI;let hd1:H1 d=none:=by
      cases q:H1 d with
      | none=>rfl
      | some o=>have:=s3 _ _ (s2 _ _ q);rw[hd] at this;ext this
     let hdm:d∉ds:=λz=>by let{m,hm,em}:=zf z;let{pcs,_,q}:=L.at_ m d (by rw[zB hm,em]);let:=s3 _ _ q.dct;rw[hd] at this;ext this
     generalize upd H3 d (.dK (Am (es.zip cs)))=H4 at lz k8 ⊢;let hfo4:=lz _ _ hfo2;let kp:∀(b:Addr)(o:HO),(∀us,o ≠ .lst us)->H4 b=some o->(upd H4 fo (.lst (ds.map V.ref++[.ref d]))) b=some o:=λb o ho e=>by rw[zi λz=>by rw[z,hfo4] at e;show ho _ (zZ e).symm];show e
     show{hfo4,(),ds++[d],j5++[es.zip cs],by rw[zP];rfl,by rw[zK,kK];rfl,{by rw[zK,zK,L.ln];rfl,JT.mpr {L.nd,by simp,λx hx y hy z=>hdm (by rw[<-zm.mp hy,<-z];show hx)},λm d' kI=>?_},λm pcs hm=>?_,λd' kI=>?_,Ar (s2.trans lz) nQ,zI}
     . by_cases c:m<ds.length
       . rw[zV c] at kI;let{pcs,q1,q2}:=L.at_ m d' kI;show{pcs,by rw[zV (by rw[<-L.ln];show c)];show q1,q2.keep (λe=>kp _ _ (by intro us z;ext z) (lz _ _ e)) λb us e=>kp _ _ (by intro us z;ext z) (lz _ _ e)}
       . let em:m=ds.length:=by let:=(zE.mp kI).1;rw[zK] at this;simp at this;lia
         subst em;rw[zS (zJ _),Dq] at kI;let ey:d=d':=‹kI›
         subst ey;show{es.zip cs,by rw[L.ln,zS (zJ _),Dq];rfl,kp _ _ (by intro us z;ext z) k8,λx hx=>?_};let{m,hm,em}:=zf hx;let h1:(es.zip cs)[m]?=some (x.1,x.2):=by rw[zB hm,em]
         let{q1,q2}:=List.getElem?_zip_eq_some.mp h1;let{e,he,nG}:=EA.2 m x.2 q2;rw[q1] at he;ext he;show kp _ _ (by intro us z;ext z) (lz _ _ (mF _ _ nG))
     . by_cases c:m<j5.length
       . rw[zV c] at hm;show hE m pcs hm
       . let em:m=j5.length:=by let:=(zE.mp hm).1;rw[zK] at this;simp at this;lia
         subst em;rw[zS (zJ _),Dq] at hm;let ey:es.zip cs=pcs:=‹hm›
         subst ey;rw[hz1,kK];show kB
     . rcases zr.mp kI with z | z
       . show me d' z
       . rw[zm.mp z];show{hd1,Ne.symm nfd}
 let{_,ds,pss0,0,hpl0,L0,hE,me,s2,hfo2}:=h;rw[zC,lM] at hpl0;let I0:DS H t p pd fo kvs ds n ts js N 1660944384 H2:={T1.kp s2,Sm.of (s1.trans s2),s2 _ _ hpd,hfo2,pss0,L0,(),(λi pcs z=>(LMM i _ (hE i pcs z)).lu),(LX0.lg G).congr (by rw[Bb.len];lia) λi e=>?est}
 case est=>
  cases z:pss0[i]? with
  | none=>
   let h1:(Bb pss0).getD i []=[]:=by unfold Bb;rw[zF,zM,z];rfl
   let h2:js.getD i []=[]:=by let:=List.getElem?_eq_none_iff.mp z;rw[zF,zn ()];rfl
   rw[h1,h2]
  | some pcs=>rw[Bb.at z,zF,hE i pcs z];rfl
 let dsH:∀d∈ds,H d=none/\d≠t/\d≠p:=λd hd=>by
  let h1:=(me d hd).1;show{?_,T1.nn h1};cases q:H d with
  | none=>rfl
  | some o=>have:=s1 _ _ q;rw[h1] at this;ext this
 let dsl:ds.length=n.toNat:=by rw[L0.ln];lia
 clear L0 hE;let{ks,hks,mO}:=KPk;let hkk:kvs.length=ks.length:=by let:=congrArg List.length hks;simpa using this
 show{1,pd,kvs,ks,0,I0.pr,hks,(λc hc z=>by let{x,y,e}:=mO c hc;rw[z] at e;ext e),(),λL zs ms hL TZ pm _=>?_};let l9:zs.length=ks.length:=by rw[TZ.length];show pm.length_eq
 let sL:=zH (o:=.lst zs) hL;let I1:=I0.same sL;let nL:=I0.tp.nn hL;let hLL:(upd H2 L (.lst zs)) L=some (.lst zs):=zI;let m7:∀(j:Nat)(c:List Int),ms[j]?=some c->∃x y J:Int,c=[x,y]/\AW kvs [Sum.inl x,Sum.inl y]=some (.int J)/\An ts x y J:=λj c e=>by let h1:c∈ks:=pm.mem_iff.mp (zQ e);let{x,y,0}:=mO c h1;let{v,hv}:=bO (kvs:=kvs) (k:=[Sum.inl x,Sum.inl y]) (by rw[hks];show zk.mpr {_,h1,0});let{J,0}:=(PDk x y).2 v hv;show{x,y,J,0,hv,((PDk x y).1 J).mp hv}
 show{L,0,{_,AD.of hLL},Jf (K:=K) (a:=L) (xs:=zs) (λj σ H3=>NO λ(v6 v7 v8 v9:Option V)=>σ=[⇑t,⇑wa,⇑fl,⇑l,⇑pd,⇑fo,v6,v7,v8,v9]/\DS H t p pd fo kvs ds n ts js (N+60*j) (1660944384+99*j) H3/\H3 L=some (.lst zs)/\Ew t H2 H3)
  {2,6,I1.up () (),hLL,(Sm.of sL).d} (λj σ H3 _ z=>by let{2,8,h3,_}:=z;show AD.of h3) ?turn ?after}
 case after=>
  rintro σ H3 ⟨v6,v7,v8,v9,rfl,I3,_,_⟩;rw[l9] at I3;let{j5,LDp,kK,U,SS}:=I3.ld;show{1,fo,0,{_,AD.of I3.fo},[],0,λD hD=>?_};let nD:=I3.tp.nn hD;show N1 (a:=fo) (xs:=ds.map V.ref) (λi I H4=>i<=ds.length/\Es λ(bs:List Addr)(jv:List (List En))=>I=bs.map V.ref/\jv.length=i/\CZ H4 bs jv/\A2 (ai (Bb j5)) ts n 1700000000 jv/\AE H3 H4/\H4 D=some (.lst I)) {zj _,[],[],3,{0,λi b z=>by simp at z},(λi es z=>by simp at z),zH hD,zI} (λi I H4 h=>?_) (λi I H4 h=>?_) (λi v I H4 hv h=>?_) (λI H4 h=>?_)
  . let{_,2,8,s4,_}:=h;show AD.of (s4 _ _ I3.fo)
  . let{hi,bs,jv,0,lL,LB,_}:=h;rw[zC,LB.1,lL];show A5 ()
  . let{_,bs,jv,0,lL,LB,lQ,s4,j8}:=h;rw[zM] at hv;cases hd:ds[i]? with
    | none=>rw[hd] at hv;ext hv
    | some d=>
    rw[hd] at hv;ext hv;let hid:=(zE.mp hd).1;let{pcs,hpc,DEd}:=LDp.at_ i d hd;let Ui:=U i pcs hpc;let pcl:pcs.length<=24:=by let:=Ui.len jz;rwa [zC] at this
    let hd4:=s4 _ _ DEd.dct;show{{3},?_};show BW ?_;show{1,d,6,hd4,Mw pcs,by rw[zC];lia,λLK mk hLK pmk st=>?_};let sK:=zH (o:=.lst (mk.map V.int)) hLK;let lB:(upd H4 LK (.lst (mk.map V.int))) LK=some (.lst (mk.map V.int)):=zI;let mkl:mk.length<=24:=by rw[pmk.length_eq,zC];show pcl
    let nDK:D≠LK:=zl j8 hLK;generalize upd H4 LK (.lst (mk.map V.int))=H5 at sK lB ⊢;show{LK,0,{_,AD.of lB},[.ref d],0,λD2 jx=>?_};let nDD:D≠D2:=zl (sK _ _ j8) jx;show Wo lB (sK _ _ hd4) (λx hx=>sK _ _ (s4 _ _ (DEd.ent _ hx))) pmk () jx λcs fs H6 kR EF hF s6 kg=>?_
    . show{D2,1,.inl {AD.of kg,λb hb=>?_}};let sb:=zH (o:=.tup (cs.map V.ref)) hb;let s46:=(sK.trans s6).trans sb;let hDb:=s46 _ _ j8;let LC:A1 (upd H6 b (.tup (cs.map V.ref))) b fs:={cs,zI,EF.keep λb' us z=>sb _ _ z,()};let LMf:LM (ai (Bb j5)) ts n i (1660944384+99*(ks.length:Nat)) fs:=LM.of_sorted Ui kR (by rw[Bn];show pmk) st hF λmm e=>by rw[show ((i:Int)).toNat=i by lia,Bb.at hpc];show mm e
      generalize upd H6 b (.tup (cs.map V.ref))=H7 at sb s46 hDb LC ⊢;let kp:∀x us,H7 x=some (.tup us)->(upd H7 D (.lst (bs.map V.ref++[.ref b]))) x=some (.tup us):=λx us z=>by rw[zi (BA z hDb (by intro w;ext w))];show z
      show{hDb,(),bs++[b],jv++[fs],by rw[zP];rfl,by rw[zK,lL];rfl,((LB.keep λx us z=>s46 _ _ z).keep kp).snoc (LC.keep kp),lQ.snoc lL (LMf.mono ()),Ar (s4.trans s46) hD,zI}
  . let{_,bs,jv,0,lL,LB,lQ,s4,j8}:=h;rw[zC] at lL;show{D,1,.inl {AD.of j8,λl' kO=>?_}};let sl:=zH (o:=.tup (bs.map V.ref)) kO;let hfn:jv.length=n.toNat:=()
    let S4:DM ts n js jv:=SS.congr (by rw[Bb.len];lia) λi e=>by
     by_cases hi:i<jv.length
     . let:=(lQ.at hi).ud e;rwa [show ((i:Int)).toNat=i by lia] at this
     . rw[zF,zn (),zF,zn (by rw[Bb.len];lia)]
    show k l' jv _ {bs,zI,LB.1,(LB.keep λb I e=>sl _ _ e).2} hfn (lQ.weak λi _ _ e he=>S4.ok i e he) (S4.let G hfn lQ LX0) ((I3.tp.kp (s4.trans sl)).up ()) (I3.sm.trans (Sm.of (s4.trans sl)))
 case turn=>
  rintro j z σ H3 hj ⟨v6,v7,v8,v9,rfl,I3,hL3,s3⟩;let hjl:j<ks.length:=by rw[<-l9];show (zE.mp hj).1
  let{pa,c,0,hmj,hpa,_}:=TZ.get hj;let{x,y,J,0,kG,kc}:=m7 j c hmj;let ga:=G.adj kc;let hpa3:H3 pa=some (.tup [.int x,.int y]):=s3.tu (AN.neT I0.tp.at_ hpa) hpa;let{j5,LDp,kK,U,_}:=I3.ld;obtain⟨db,lF⟩:∃d,ds[y.toNat]?=some d:={_,zB ()};obtain⟨da,hda⟩:∃d,ds[x.toNat]?=some d:={_,zB ()};let{pb,hpb,DEb}:=LDp.at_ _ _ lF;let Ub:=U _ _ hpb;let hxa:(x.toNat:Int)=x:=()
  let nY:(y.toNat:Int)=y:=()
  rw[nY] at Ub;let hatb:By (ds.map V.ref) y=⇑db:=CM () (by rw[zM,lF];rfl);let hata:By (ds.map V.ref) x=⇑da:=CM () (by rw[zM,hda];rfl);let dH:=dsH da (zQ hda);let nab:da≠db:=λz=>by
   subst z;let{i1,e1}:=zE.mp hda;let{i2,e2}:=zE.mp lF;let:=(HZ LDp.nd).mp (e1.trans e2.symm)
   lia
  let ubl:pb.length<=24:=by let:=Ub.len jz;rwa [zC] at this
  show{4,pa,2,.int y,3,AB.of hpa3,0,fo,2,.ref db,3,AD.of I3.fo,hatb,db,6,DEb.dct,Mw pb,by rw[zC];lia,λLK mk hLK pmk _=>?_};let sK:=zH (o:=.lst (mk.map V.int)) hLK;let lB:(upd H3 LK (.lst (mk.map V.int))) LK=some (.lst (mk.map V.int)):=zI;let I4:=I3.same sK;let DEb4:DE (upd H3 LK (.lst (mk.map V.int))) db pb:=DEb.keep (λe=>sK _ _ e) λb I e=>sK _ _ e;let mkl:mk.length<=24:=by rw[pmk.length_eq,zC];show ubl
  show{LK,0,{_,AD.of lB},Jf (K:=K) (a:=LK) (xs:=mk.map V.int) (λi σ H4=>K7 λ(v7 v8 v9:Option V)=>σ=[⇑t,⇑wa,⇑fl,⇑l,⇑pd,⇑fo,⇑pa,v7,v8,v9]/\DS H t p pd fo kvs ds n ts js (N+60*j+2*i) (1660944384+99*j+99) H4/\DE H4 db pb/\H4 LK=some (.lst (mk.map V.int))/\Ew t H3 H4)
   {_,6,I4.up () (),DEb4,lB,(Sm.of sK).d} (λi σ H4 _ z=>by let{2,8,h4,_}:=z;show AD.of h4) ?turn2 ?after2}
  case after2=>
   rintro σ H4 ⟨v7,v8,v9,rfl,I4,_,_,s4⟩;rw[zC] at I4;show{2,6,I4.up () (),s4.ls nL.1 hL3,s3.tr s4}
  case turn2=>
   rintro i v σ H4 hi ⟨v7,v8,v9,rfl,I4,DE4,hLK4,s4⟩;let m9:i<mk.length:=by let:=(zE.mp hi).1;rwa [zC] at this
   obtain⟨h,hmi,rfl⟩:∃h:Int,mk[i]?=some h/\V.int h=v:=by
    rw[zM] at hi;cases e:mk[i]? with
    | none=>rw[e] at hi;ext hi
    | some h=>rw[e] at hi;show{h,0,zZ hi}
   let hpm:h∈pb.map (·.1.h):=pmk.mem_iff.mp (zQ hmi);let{{e,xe},hxm,0,hvx}:=Nj hpm;let nG:H4 xe=some (.tup (eV e)):=DE4.ent _ hxm;let hem:e∈pb.map (·.1):=zk.mpr {_,hxm,0};let her:=Ub.rng e hem;let hen:0<=e.l/\e.l<=1660944384+99*(j:Int):=Ub.nn e hem;let{q0,hq0}:=Ub.rch e hem;let hpa4:=s4.tu (AN.neT I3.tp.at_ hpa3) hpa3;let g1:Az H4 db (.int e.h) ⇑xe:=by let:=Az.k (k:=Sum.inl e.h) DE4.dct;rw[hvx] at this;show this
   let g2:∀{H':Hp},H' pd=some (.dT kvs)->H' pa=some (.tup [.int x,.int y])->Az H' pd (.ref pa) (some (.int J)):=λh1 h2=>by let:=Az.t (k:=[Sum.inl x,Sum.inl y]) h1 h2;rw[kG] at this;show this
   show{4,pa,2,.int y,3,AB.of hpa4,0,fo,2,.ref db,3,AD.of I4.fo,hatb,1,db,1,g1,xe,2,.int e.l,3,AB.of nG,0,4,pd,1,g2 I4.pr hpa4,5,?_};let W4:=W.smt T I4.sm;let FR4:=FR.sm T.at_ I4.sm;let hwa4:=I4.sm _ _ (AN.neT T.at_ kF) kF;show{1,wa,9,AB.of hwa4,0,n,0,(),(),[.int e.h,.ref pd,.ref fl,.ref pa,.int (e.l+J)],0,λD hD=>?_};show JB (lo:=0) (n:=n.toNat) (λq I H7=>q<=n.toNat/\(∃xs:List Int,I=xs.map V.int/\xs.length<=q/\∀x1∈xs,(0<=x1/\x1<q)/\∃c,An ts e.h x1 c/\WM.IsD ts x1 x (e.l+J-c))/\AE H4 H7/\H7 D=some (.lst I)) {zj _,{[],0,zJ _,λx hx=>by simp at hx},zH hD,zI} (λq I H7 h=>?_) (λq I H7 hq h=>?_) (λI H7 h=>?_)
   . let{hq,{xs,0,mB,_},_}:=h;rw[zC];show A5 ()
   . let{_,{xs,0,mB,hxb},s7,mh}:=h;let hxb':∀x1∈xs,(0<=x1/\x1<((q+1:Nat):Int))/\∃c,An ts e.h x1 c/\WM.IsD ts x1 x (e.l+J-c):=λx1 hx=>{by let:=(hxb x1 hx).1;lia,(hxb x1 hx).2};rw[Bi];show{{3},?_};show{4,Ad,λk1 hk1=>?_};let s8:=s7.trans (zH (o:=.tup [.int e.h,.int q]) hk1);let mE:=zH (o:=.tup [.int e.h,.int q]) hk1 _ _ mh;show{1,pd,1,Az.t (k:=[Sum.inl e.h,Sum.inl (q:Int)]) (s8 _ _ I4.pr) zI,1,?_};show A3 (λhc=>?_) (λhc=>?_)
     . let{v1,hv1}:=N3.mp hc;let{c1,0}:=(PDk e.h q).2 v1 hv1;generalize upd H7 k1 (.tup [.int e.h,.int q])=H8 at s8 mE ⊢;let FR8:=FR4.keep λb I e=>s8 _ _ e;let{r1,a1,w1,f1,e1,i1,j1,l1}:=FR8.get (x:=q) (y:=x) () () ga.1 ga.2.1;show{4,fl,2,.ref a1,3,AD.of f1,e1,1,pa,2,.int x,3,AB.of (s8 _ _ hpa4),0,a1,9,AD.of i1,j1,4,4,Ad,λk2 mO=>?_};let s9:=s8.trans (zH (o:=.tup [.int e.h,.int q]) mO);let hD9:=zH (o:=.tup [.int e.h,.int q]) mO _ _ mE;show{pd,.int c1,0,by rw[<-hv1];show Az.t (k:=[Sum.inl e.h,Sum.inl (q:Int)]) (s9 _ _ I4.pr) zI,5,by cases Ag M q x <;> rfl,1,?_};show A3 (λhd2=>?_) (λ_=>?_)
       . let em:Ag M q x=some (e.l+J-c1):=by let:=of_decide_eq_true hd2;show of_decide_eq_true ((Nx (Ag M q x) (some (e.l+J-c1))).symm.trans (zO this))
         rw[em] at l1;show{1,hD9,hq,{xs++[(q:Int)],by rw[zP];rfl,by rw[zK];change xs.length+1<=q+1;lia,λx hx=>by
          rcases zr.mp hx with z | z
          . show hxb' x z
          . rw[zm.mp z];show{(),c1,((PDk e.h q).1 c1).mp hv1,l1}},Ar s9 hD,zI}
       . show{hq,{xs,0,(),hxb'},s9,hD9}
     . show{hq,{xs,0,(),hxb'},s8,mE}
   let{_,{xs,0,mB,hxb},s7,mh}:=h;let I7:=I4.same s7;let DE7:DE H7 db pb:=DE4.keep (λe=>s7 _ _ e) λb I e=>s7 _ _ e;let hLK7:=s7 _ _ hLK4;let hpa7:=s7 _ _ hpa4;let s37:Ew t H3 H7:=s4.tr (Sm.of s7).d;let nLK:=I3.tp.nn hLK;let{pss7,LD7,hpl7,U7,S7}:=I7.ld;let{pa7,nZ,DEa}:=LD7.at_ _ _ hda;show{1,4,pa,2,.int x,3,AB.of hpa7,0,fo,2,.ref da,3,AD.of I7.fo,hata,da,1,Az.k (k:=Sum.inl e.h) DEa.dct,1,?_};show A3 (λcn=>?_) (λ_=>Ab {_,6,I7.up () (),DE7,hLK7,s37});let hvn:AW (Am pa7) (Sum.inl e.h)=none:=by
    cases q:AW (Am pa7) (Sum.inl e.h) with
    | none=>rfl
    | some v=>rw[q] at cn;ext cn
   show{1,Ce,λe0 he0=>?_};let s8:=zH (o:=.lst []) he0;show{D,e0,_,3,AD.of (s8 _ _ mh),AD.of zI,1,?_};let I8:=I7.same s8;let DE8:DE (upd H7 e0 (.lst [])) db pb:=DE7.keep (λe=>s8 _ _ e) λb I e=>s8 _ _ e;let mE:=s8 _ _ mh;let hLK8:=s8 _ _ hLK7;let hpa8:=s8 _ _ hpa7;let s38:=s37.tr (Sm.of (t:=t) s8).d;generalize upd H7 e0 (.lst [])=H8 at s8 I8 DE8 mE hLK8 hpa8 s38 ⊢;show A3 (λcx=>?_) (λ_=>Ab {_,6,I8.up () (),DE8,hLK8,s38});let hxp:0<xs.length:=by
    cases xs with
    | nil=>simp at cx
    | cons a r=>simp
   show⟨_,rfl,t,p,_,3,rfl,I8.tp,(),by decide,by decide,λr H9 a9 b9 T9 he9=>?_⟩;let nF:D≠t:=I8.tp.nI mE;let nLt:LK≠t:=nLK.1;let I9:=I8.draw T9 he9;let DE9:=DE8.draw I8.tp he9;let hD9:H9 D=some (.lst (xs.map V.int)):=by rw[he9 _ nF];show mE
   let hLK9:H9 LK=some (.lst (mk.map V.int)):=by rw[he9 _ nLt];show hLK8
   let hpa9:H9 pa=some (.tup [.int x,.int y]):=by rw[he9 _ (AN.neT I8.tp.at_ hpa8)];show hpa8
   let s39:=s38.tr (DD he9).d;show{_,7,?_};show A3 (λ_=>?_) (λ_=>{_,6,I9.up () (),DE9,hLK9,s39});show{1,4,pa,2,.int y,3,AB.of hpa9,0,1,4,D,1,.inl (AD.of hD9),t,p,6,I9.tp,(),by rw[zC];lia,by rw[zC];lia,λr' H10 a10 b10 T10 mQ=>?_};rw[zC] at b10;let{dn,hdm,lY}:=ND a10 b10;let{rdn,c2,ha2,hi2}:=hxb dn hdm;let I10:=I9.draw T10 mQ;let DE10:=DE9.draw I9.tp mQ;let hLK10:H10 LK=some (.lst (mk.map V.int)):=by rw[mQ _ nLt];show hLK9
   let hpa10:H10 pa=some (.tup [.int x,.int y]):=by rw[mQ _ (AN.neT I9.tp.at_ hpa9)];show hpa9
   let s310:=s39.tr (DD mQ).d;show{D,9,AD.of (by rw[mQ _ nF];show hD9),lY,HM,λnx hnx=>?_};let mS:=zH (o:=.tup [.int e.h,.int (e.l+J),.int y,.int dn]) hnx;let hnx':(upd H10 nx (.tup [.int e.h,.int (e.l+J),.int y,.int dn])) nx=some (.tup (eV {e.h,e.l+J,some y,some dn})):=zI;let I11:=I10.same mS;let DE11:DE (upd H10 nx (.tup [.int e.h,.int (e.l+J),.int y,.int dn])) db pb:=DE10.keep (λe=>mS _ _ e) λb I e=>mS _ _ e;let oE:=mS _ _ hLK10;let hpa11:=mS _ _ hpa10;let s311:=s310.tr (Sm.of (t:=t) mS).d;let LD11:MJ (upd H10 nx (.tup [.int e.h,.int (e.l+J),.int y,.int dn])) ds pss7:={LD7.ln,LD7.nd,λi d ed=>let ⟨q,q1,q2⟩:=LD7.at_ i d ed;{q,q1,(((q2.keep (λe=>s8 _ _ e) λb I e=>s8 _ _ e).draw I8.tp he9).draw I9.tp mQ).keep (λe=>mS _ _ e) λb I e=>mS _ _ e}};generalize upd H10 nx (.tup [.int e.h,.int (e.l+J),.int y,.int dn])=H11 at hnx' I11 DE11 oE hpa11 s311 LD11 ⊢;let{pa11,nc,mi}:=LD11.at_ _ _ hda;rw[nZ] at nc;ext nc;let hnm:e.h∉pa7.map (·.1.h):=λz=>by let{_,2,q}:=Nj z;rw[hvn] at q;ext q
   let Ua:=U7 _ _ nZ;let hal':pa7.length<=24:=by let:=Ua.len jz;rwa [zC] at this
   show{4,pa,2,.int x,3,AB.of hpa11,0,fo,2,.ref da,3,AD.of I11.fo,hata,1,da,1,E6.k (k:=Sum.inl e.h) mi.dct (by unfold Am;rw[zC];show A5 ()),?_};rw[Q3 _ hvn];let eput:Am pa7++[(Sum.inl e.h,V.ref nx)]=Am (pa7++[(({e.h,e.l+J,some y,some dn}:En),nx)]):=by unfold Am;rw[zP];rfl
   rw[eput];let rch:∃q,WM.IsD ts x.toNat e.h q:=by rw[hxa];show Way.least G (.cons kc hq0.1)
   let{pb7,hpb7,DEb7}:=LD7.at_ _ _ lF;let upr:Dd ts (Bb pss7) x.toNat {e.h,e.l+J,some y,some dn}:=by
    let ek:Am pb7=Am pb:=by let:=DEb7.dct.symm.trans DE7.dct;injection this with this;injection this
    let{x7,hx7,e7,v7}:=Nj (pcs:=pb7) (h:=e.h) (by let:=congrArg (List.map (·.1)) ek;rw[Mw,Mw] at this;let inj:pb7.map (·.1.h)=pb.map (·.1.h):=List.map_inj_right (λ_ _ z=>by injection z) |>.mp this;rw[inj];show hpm)
    rw[ek,hvx] at v7;injection v7 with v7;injection v7 with v7;let h7:=DEb7.ent x7 hx7;rw[<-v7,s7 _ _ nG] at h7;injection h7 with h7;injection h7 with h7;let e7':=Mh h7;show{y,J,e,0,by rw[hxa];show kc,?_,0,by change e.l=e.l+J-J;lia};rw[Bb.at hpb7,e7'];show zk.mpr {x7,hx7,0}
   let I12:=I11.put (a:=x.toNat) (e:={e.h,e.l+J,some y,some dn}) LD11 hpl7 U7 S7 hda nZ dH.1 dH.2.1 dH.2.2 hnx' her {by change 0<e.l+J;lia,by change e.l+J<=1660944384+99*(j:Int)+99;lia} hnm rch {her,by change 0<=e.l+J;lia,λz=>absurd z (by change e.l+J≠0;lia),λ_=>{y,dn,3,(),(),(),()}} upr {dn,c2,0,ha2,by rw[hxa];show hi2};show{_,6,I12.up () (),(DE11.keep (λz=>by rw[zi (Ne.symm nab)];show z) λb I z=>by rw[zi (BA z mi.dct (by intro w;ext w))];show z),(by rw[zi (BA oE mi.dct (by intro w;ext w))];show oE),(s311.tr λb o nb dk eb=>by rw[zi λz=>by rw[z,mi.dct] at eb;show dk _ (zZ eb).symm];show eb)}
inductive Y3 (vs:List V)(H:Hp)(Q:VK):Prop
 | mk:∀(t wa:Addr)(N:Nat)(n:Int)(ts:List T3),(vs=[.ref t,.ref wa])->(AN H t N)->(N<300000)->(Ap H wa n ts)->(∀(l:Addr)(js:List (List En))(H':Hp),A4 H' l js->js.length=n.toNat->A2 (NI n) ts n 1700000000 js->Gk ts n js->AN H' t (N+12000)->Sm t H H'->Q (.ref l) H')->Y3 vs H Q
def Jz:Sp:=λo H Q _=>Y3 o H Q
structure LY (ts:List T3)(n:Int)(js:List (List En)):Prop where
 ln:js.length=n.toNat
 lm:A2 (NI n) ts n 1700000000 js
 lt:Gk ts n js
structure D9 (t wa fl l:Addr)(n:Int)(ts:List T3)(M:BV)(N:Nat)(Y:List (List En)->Prop)(js:List (List En))(H:Hp):Prop where
 tp:AN H t N
 wb:Ap H wa n ts
 fr:Bs H fl n ts M
 lb:A4 H l js
 ok:Y js
inductive VZ (t:Addr)(wa:Addr)(n:Int)(ts:List T3)(B:List (List En)->Prop)(C:List (List En)->Prop)(k:Nat)(D:DC)(σ:St)(H:Hp):Prop
 | mk:∀(fl l:Addr)(M:BV)(v:Int)(N:Nat)(js:List (List En)),(σ=[some (.ref t),some (.ref wa),some (.ref fl),some (.ref l),some (.int v)])->(N<400000)->(D9 t wa fl l n ts M N B js H)->(∀(l':Addr)(jv:List (List En))(H':Hp),D9 t wa fl l' n ts M (N+k) C jv H'->Sm t H H'->D.nx [some (.ref t),some (.ref wa),some (.ref fl),some (.ref l'),some (.int v)] H')->VZ t wa n ts B C k D σ H
def Gn (t o:Addr)(n:Int)(ts:List T3)(B C:List (List En)->Prop)(k:Nat):TS:=λD σ H=>VZ t o n ts B C k D σ H
def A4.sm (h:A4 H l js)(T:AN H t N)(s:Sm t H H'):A4 H' l js:=by let{as,o,I,C}:=h;show{as,s _ _ (AN.neT T o) o,I,λi a e=>?_};let{es,U,J}:=C i a e;show{es,U,J.sm T s}
def D9.sm (h:D9 t wa fl l n ts M N B js H)(s:Sm t H H')(T:AN H' t N')(L:A4 H' l' jv)(m:C jv):D9 t wa fl l' n ts M N' C jv H':=by let{p,o}:=id h.tp;show{T,h.wb.smt o s,h.fr.sm h.tp s,L,m}
def Hl:AR ["_law_tape_here","_law_web_here","_law_far_here","_law_labels_here","_law_way"] Rb.p (defScope Rb.s):=Aa
def YT:AC P w K mg base 5 Rb Jz:=λwz=>by
 show wz.So.okZ Hl λ_ _ A _ _ H vs Q E hr h=>?_;let{t,o,N,n,ts,0,T,hN,W,k}:=h;let{ta,tys,kF,2,G}:=id W;let lS:=G.n1;let jz:=G.n24;show{_,zT (AO (i:=2) Hl.nd (AG (Yb wz) hr (zD (pv 1) zN)))
  (zT (AO (i:=3) Hl.nd (AG (WD wz) hr (zD (pv 1) (zD (AG (Zt wz) hr (zD (pv 0) (zD (zv AV (pv 1) zg) zN))) zN))))
  (zT (AO (i:=4) Hl.nd (AG (B9 wz) hr (zD (pv 0) (DF zN))))
  (zT (E3 (u':=Gn t o n ts (LX ts n 1660944384) (LX ts n 1660944384) 0) (Ac (zw BH (pv 4) zg (AH _)) (zc (AO (i:=3) Hl.nd (AG (bh wz) hr (zD (pv 1) (zD (pv 2) zN))))) Ae) (λD σ H1 z=>by let{U,l,M,v,N0,J,0,hN0,I,z}:=z;show{7,?_};show A3 (λ_=>?_) (λ_=>z l J H1 I (Sm.refl _ _));show{4,o,U,n,ts,M,0,I.wb,I.fr,λl' jv H2 s2 LA hl lQ=>?_};show z l' jv H2 (I.sm (Sm.of s2) (I.tp.keep s2) LA (gg G hl lQ)) (Sm.of s2)))
  (zT (E3 (u':=Gn t o n ts (LX ts n 1660944384) (LX ts n 1660944384) 24) (Ac (zw BH (pv 4) zg (AH _)) (zc (AO (i:=3) Hl.nd (AG (cU wz) hr (zD (pv 3) (zD
   (AG (WD wz) hr (zD (pv 1) (zD (AG (Zt wz) hr (zD (pv 0) (zD (zv AV (pv 1) zg) zN))) zN))) zN))))) Ae) (λD σ H1 z=>by
   let{U,l,M,v,N0,J,0,hN0,I,z}:=z;let{ta1,tys1,hwa1,_,2}:=id I.wb;show{7,?_};show A3 (λ_=>?_) (λ_=>z l J H1 (I.sm (Sm.refl _ _) (AN.mono I.tp ()) I.lb I.ok) (Sm.refl _ _));show{4,4,o,9,AB.of hwa1,0,t,N0,n,0,I.tp,(),(),(),λol os H2 hol O T2 s2=>?_};let I2:=I.sm s2 T2 (I.lb.sm I.tp s2) I.ok;show{o,ol,n,ts,os,0,I2.wb,hol,O,λl2 jv rk H3 s3 LA RK LO bd=>?_};show⟨_,_,l,l2,n,1660944384,ts,J,jv,rfl,(),I2.lb.sm I2.tp (Sm.of s3),LA,I.ok.ln,LO.1,I.ok.lm,LO.lm G bd,λl' lO H4 s4 LA4 hl4 LM4=>?_⟩;show z l' lO H4 (I2.sm (Sm.of (s3.trans s4)) (I2.tp.keep (s3.trans s4)) LA4 (fA hl4 I.ok (LO.lx G RK bd) LM4)) (s2.trans (Sm.of (s3.trans s4)))))
  (zT (E3 (u':=Gn t o n ts (LX ts n 1660944384) (LX ts n 1660944384) 1200) (Ac (zw EN (pv 4) zg (AH _)) (zc (AO (i:=3) Hl.nd (AG (cT wz) hr (zD (pv 0) (zD (pv 1) (zD (pv 2) (zD (pv 3) zN))))))) Ae) (λD σ H1 z=>by let{U,l,M,v,N0,J,0,hN0,I,z}:=z;show{1,_,7,?_};show A3 (λ_=>?_) (λ_=>z l J H1 (I.sm (Sm.refl _ _) (AN.mono I.tp ()) I.lb I.ok) (Sm.refl _ _));let{p,hp}:=id I.tp;show⟨_,rfl,_,rfl,_,rfl,_,rfl,t,p,o,U,l,N0,n,1660944384,ts,M,J,rfl,hp,(),I.wb,I.fr,I.lb,I.ok.ln,I.ok.lm,λl' jv H2 LA hl lQ T2 s2=>?_⟩;show z l' jv H2 (I.sm s2 ⟨p,T2⟩ LA (fH hl I.ok lQ)) s2))
  (zT (E3 (u':=Gn t o n ts (LX ts n 1660944384) (LY ts n) 10000) (Ac (zw EN (pv 4) zg (AH _)) (zc (AO (i:=3) Hl.nd (AG (jA wz) hr (zD (pv 0) (zD (pv 1) (zD (pv 2) (zD (pv 3) zN))))))) Ae) (λD σ H1 z=>by let{U,l,M,v,N0,J,0,hN0,I,z}:=z;show{1,_,7,?_};show A3 (λ_=>?_) (λ_=>z l J H1 (I.sm (Sm.refl _ _) (AN.mono I.tp ()) I.lb {I.ok.ln,(I.ok.ke G).mono (),I.ok.let G}) (Sm.refl _ _));let{p,hp}:=id I.tp;show{4,4,t,p,o,U,l,N0,n,ts,M,J,0,hp,(),I.wb,I.fr,I.lb,I.ok,λl' jv H2 LA hl lQ lt T2 s2=>?_};show z l' jv H2 (I.sm s2 ⟨p,T2⟩ LA ⟨hl,lQ,lt⟩) s2))
  (zc (AL (pv 3))))))))),?_}
 show{1,o,n,ts,0,W,λU rs M H1 s1 lL LR RW=>?_};let FR:Bs H1 U n ts M:=⟨rs,lL,LR,RW⟩;let W1:=W.keep s1;let T1:=T.keep s1;show{1,4,o,9,AB.of (s1 _ _ kF),0,t,N,n,0,T1,(),(),(),λol os H2 hol O T2 s2=>?_};let{p1,hp1}:=id T1;let W2:=W1.smt hp1 s2;let FR2:=FR.sm T1 s2;show{o,ol,n,ts,os,0,W2,hol,O,λl J rk H3 s3 LA RK LO bd=>?_};show⟨_,rfl,t,N+24,6,rfl,T2.keep s3,(),by decide,by decide,λv H4 v0 v1 T4 he4=>?_⟩;let{p2,kM}:=id T2;let s24:=(Sm.of s3).trans (DD he4);let I4:D9 t o U l n ts M (N+24+1) (LX ts n 1660944384) J H4:={T4,W2.smt kM s24,FR2.sm T2 s24,(LA.sm (T2.keep s3) (DD he4)),LO.lx G RK bd};let mJ:=((Sm.of s1).trans s2).trans s24;show{U,l,M,v,_,J,0,(),I4,λl5 ess5 H5 I5 s5=>?_};show{U,l5,M,v,_,ess5,0,(),I5,λl6 ess6 H6 I6 s6=>?_};show{U,l6,M,v,_,ess6,0,(),I6,λl7 ess7 H7 I7 s7=>?_};show{U,l7,M,v,_,ess7,0,(),I7,λl8 ess8 H8 I8 s8=>?_};show{1,k l8 ess8 H8 I8.lb I8.ok.ln I8.ok.lm I8.ok.lt (AN.mono I8.tp ()) ((((mJ.trans s5).trans s6).trans s7).trans s8)}
def TX (xs)(m:Nat):CA xs none (some (m:Int))=xs.take m:=by
 unfold CA;rw[HT.sIx_none,HT.sIx_nat,List.drop_zero,Nat.sub_zero];by_cases h:m<=xs.length
 . rw[Nat.min_eq_left h]
 . rw[Nat.min_eq_right (),zb (zJ _),zb ()]
def SW (xs)(m:Nat):CA xs (some (m:Int)) none=xs.drop m:=by
 unfold CA;rw[HT.sIx_none,HT.sIx_nat];by_cases h:m<=xs.length
 . rw[Nat.min_eq_left h,zb (by rw[FP];show zJ _)]
 . rw[Nat.min_eq_right (),Dq,List.take_zero,List.drop_of_length_le ()]
def Ah.take (h:Ah H as es)(m):Ah H (as.take m) (es.take m):=by
 show{by rw[ze,ze,h.1],λi b hb=>?_};rw[List.getElem?_take] at hb ⊢;by_cases c:i<m
 . rw[if_pos c] at hb ⊢;show h.2 i b hb
 . rw[if_neg c] at hb;ext hb
def Ah.drop (h:Ah H as es)(m):Ah H (as.drop m) (es.drop m):=by show{by rw[FP,FP,h.1],λi b hb=>?_};rw[List.getElem?_drop] at hb ⊢;show h.2 _ b hb
def Ah.one (h:H a=some (.tup (eV e))):Ah H [a] [e]:={0,λi b hb=>by
 cases i with
 | zero=>ext hb;show{e,0,h}
 | succ i=>simp at hb}
def RT {α:Type}{l:List α}{x:α}(h:i<l.length):l.take i++[x]++l.drop (i+1)=l.set i x:=by rw[List.set_eq_take_append_cons_drop,if_pos h,B8];rfl
def A1.cut (L:A1 H p es):∃as:List Addr,H p=some (.tup (as.map V.ref))/\Ah H as es/\as.length=es.length:=by let{as,C,o,_}:=L;show⟨as,C,o,o.1⟩
def CZ.set (h:CZ H bs js)(L:A1 H b es)(i):CZ H (bs.set i b) (js.set i es):=by
 show{by rw[Cp,Cp,h.1],λj c o=>?_};rw[List.getElem?_set] at o ⊢;by_cases q:i=j
 . subst q;rw[if_pos rfl] at o ⊢;by_cases l:i<bs.length
   . rw[if_pos l] at o;ext o;rw[if_pos (by rw[<-h.1];show l)];show{es,0,L}
   . rw[if_neg l] at o;ext o
 . rw[if_neg q] at o ⊢;show h.2 j c o
def CZ.labs (h:CZ H bs js)(e:H l=some (.tup (bs.map V.ref))):A4 H l js:=⟨bs,e,h.1,h.2⟩
def QH (e)(o:Ah H as es)(hm:m<as.length)(h:H c=some (.tup (eV e))):Ah H (as.set m c) (es.set m e):=by let:=((o.take m).app (Ah.one h)).app (o.drop (m+1));rwa [RT hm,RT (by rwa[<-o.1])] at this
def Tb (e1)(h5:σ[5]?=some ⇑pl)(h6:σ[6]?=some (some (.int at')))(h4:∀H Q,Q (eV e1) H->t4 σ H Q)(L:A1 H pl es)(hl:es.length<=24)(a1:at'<es.length)(k:∀p5 H9,A1 H9 p5 (es.set at' e1)->AE H H9->Q (.ref p5) H9):
 GG Tg (GG Tg (VE L7 (Cn 5) TJ (SJ (Cn 6))) (Fe (Dt (Fe t4) Iw))) (VE L7 (Cn 5) (SJ (GG (HP λi j=>.int (i+j)) (Cn 6) (tC (.int 1)))) TJ) σ H Q:=by
 let{as,h1,EA,lM}:=L.cut;show{_,h5,_,h6,(at':Int),0,pl,1,h1,λp1 H4 s4 U=>?_};rw[TX,<-List.map_take] at U;show h4 _ _ {HM,λC ll=>?_};let s5:=zH (o:=.tup (eV e1)) ll;let q5:(upd H4 C (.tup (eV e1))) C=some (.tup (eV e1)):=zI;show{NQ,λp2 kM=>?_};let s6:=zH (o:=.tup [.ref C]) kM;show{p1,p2,5,s6 _ _ (s5 _ _ U),zI,by rw[zC,ze];show CI (A5 (by simp;lia)),λp3 H7 s7 h7=>?_};let I:=s6.trans s7;let J:=s4.trans (s5.trans I);show{_,h5,_,h6,_,7,pl,1,J _ _ h1,λp4 H8 s8 h8=>?_};rw[show ((at':Int)+1)=((at'+1:Nat):Int) by lia,SW,<-List.map_drop] at h8;show{p3,p4,5,s8 _ _ h7,h8,by simp only[zK,zC,ze,FP,zu,List.length_nil];show CI (A5 (by grind)),λp5 H9 s9 h9=>?_};let nU:=J.trans (s8.trans s9);let e9:(as.take at').map V.ref++[V.ref C]++(as.drop (at'+1)).map V.ref=(as.set at' C).map V.ref:=by rw[<-RT (x:=C) (show at'<as.length by lia),zP,zP];rfl
 rw[e9] at h9;show k p5 H9 {_,h9,QH e1 (EA.keep λb ys z=>nU _ _ z) () ((I.trans (s8.trans s9)) _ _ q5),by rw[Cp];lia} nU
def IE (b:Nat)(e:En):Prop:=e.h.natAbs<=b/\e.l.natAbs<=b/\(∀u,e.u=some u->u.natAbs<=b)/\∀u,e.d=some u->u.natAbs<=b
def TB (b:Nat)(es:List En):Prop:=es.length<=25/\∀e∈es,IE b e
def IE.mono (h:IE b e)(l:b<=c):IE c e:={BC h.1 l,BC h.2.1 l,λu z=>BC (h.2.2.1 u z) l,λu z=>BC (h.2.2.2 u z) l}
def TB.mono (h:TB b es)(l:b<=c):TB c es:={h.1,λe he=>(h.2 e he).mono l}
def TB.up (h:TB b es):TB (b+2) es:=h.mono ()
def TB.set (h:TB b es)(x:IE (b+2) e):TB (b+2) (es.set i e):={by rw[Cp];show h.1,λz o=>(List.mem_or_eq_of_mem_set o).elim (λy=>h.up.2 z y) (λy=>y ▸ x)}
def LN {out:List Nat}(h:TB b es)(x:IE b e)(I:out.length<=25)(hb:∀i∈out,i<es.length+1):TB (b+2) (out.map λi=>(es++[e]).getD i ⟨0,0,none,none⟩):=by
 show{by rwa[zC],λy C=>?_};let{i,hi,0}:=zk.mp C;let o:i<(es++[e]).length:=by rw[zK];show hb i hi
 let e0:(es++[e]).getD i ⟨0,0,none,none⟩=(es++[e])[i]:=by rw[zF,zB o];rfl
 change IE (b+2) ((es++[e]).getD i ⟨0,0,none,none⟩);rw[e0];rcases zr.mp (Cv o) with m | m
 . show h.up.2 _ m
 . rw[zm.mp m];show x.mono ()
def Sj {o:List (List En)}(h:∀es∈o,TB b es)(x:TB b es):∀fs∈o.set i es,TB b fs:=λfs hf=>(List.mem_or_eq_of_mem_set hf).elim (h fs) (λy=>y ▸ x)
inductive Xl (vs:List V)(H:Hp)(Q:VK):Prop
 | mk:∀(t wa la:Addr)(N:Nat)(n:Int)(ts:List T3)(js:List (List En))(bd:Nat),(vs=[.ref t,.ref wa,.ref la])->(AN H t N)->(N<800000)->(Ap H wa n ts)->(A4 H la js)->(DO n js)->((∀es∈js,TB bd es))->(24<=bd)->(∀(l:Addr)(jv:List (List En))(H':Hp),A4 H' l jv->jv.length=n.toNat->(∀es∈jv,TB (bd+2) es)->AN H' t (N+8)->Sm t H H'->Q (.ref l) H')->Xl vs H Q
def Md:Sp:=λo H Q _=>Xl o H Q
def Hz (t wa J:Addr)(n:Int)(js:List (List En))(bd:Nat):TS:=λ(D':DC) σ H3=>∃pl,∃(i one C:Int)(at':Nat),∃e es,∃(U:Nat),σ=[⇑t,⇑wa,⇑J,some (.int n),some (.int i),⇑pl,some (.int at'),some (.int e.h),some (.int e.l),some (oV e.u),some (oV e.d),some (.int one),some (.int C),none,none,none]/\AN H3 t U/\U<900000/\A4 H3 J js/\A1 H3 pl es/\Fv n es/\es[at']?=some e/\0<=one/\one<n/\0<=C/\TB bd es /\
            ∀o lP v8 I H',A1 H' o lP->TB (bd+2) lP->AN H' t (U+3)->Sm t H3 H'->D'.nx [⇑t,⇑wa,⇑J,some (.int n),some (.int i),⇑o,some (.int at'),some (.int e.h),v8,some (oV e.u),some (oV e.d),some (.int one),some (.int C),I,none,none] H'
def iA {out:List Nat}(C:Ah H as es)(hb:∀i∈out,i<as.length):Ah H (out.map λi=>as.getD i 0) (out.map λi=>es.getD i ⟨0,0,none,none⟩):=by
 let J:=C.1;show{by rw[zC,zC],λj b o=>?_};rw[zM] at o ⊢;cases z:out[j]? with
 | none=>rw[z] at o;ext o
 | some i=>
  rw[z] at o;ext o;let hi:=hb i (zQ z);let{e,I,U}:=C.2 i as[i] (zB hi);show{e,?_,?_}
  . change some (es.getD i ⟨0,0,none,none⟩)=some e;rw[zF,I];rfl
  . change H (as.getD i 0)=_;rwa[zF,zB hi]
def dM (U:Ah H as es)(hb:Bx es)(C:H c=some (.tup (eV e)))(no:e.h∉es.map (·.h)):Sn H (as++[c]) ((es++[e]).map (·.h)):=by
 let o:=U.app (Ah.one C);show{by rw[zC,o.1],λi a ha=>?_,?_}
 . let{x,J,I}:=o.2 i a ha;show{x.h,_,by rw[zM,J];rfl,I}
 . rw[zP];show JT.mpr {?_,by simp,λa ha b hb z=>?_}
   . rw[List.Nodup,EZ];show hb.imp λz=>by lia
   . let:b=e.h:=‹hb›
     show no (by rwa[<-this,<-z])
def Bp:AR ["_law_tape_here","_law_web_here","_law_labels_here","_law_n","_law_place","_law_label","_law_at","_law_hub","_law_long","_law_up","_law_down","_law_one","_law_way","_law_more","_law_found_here","_law_some_here"] Qn.p (defScope Qn.s):=Aa
def eN:AC P w K mg base 2 Qn Md:=λwz=>by
 show wz.Tu.okZ Bp λ_ _ A _ _ H vs Q E hr h=>?_;let{t,wa,la,N,n,ts,js,bd,0,T,hN,W,LA,LK,hB,hb24,k}:=h;let{ta,tys,kF,2,G}:=id W;let nM:=LK.ln;let n1:=G.n1;let n24:=G.n24;show{_,zT (AO (i:=3) Bp.nd (zv AV (pv 1) zg))
  (zT (AO (i:=4) Bp.nd (AG (B9 wz) hr (zD (pv 0) (zD (pv 3) zN))))
  (zT (AO (i:=5) Bp.nd (zv AV (pv 2) (pv 4)))
  (zT (AO (i:=6) Bp.nd (AG (B9 wz) hr (zD (pv 0) (zD (Af DB wz.mLen (zD (pv 5) zN)) zN))))
  (zT (F8 (zv AV (pv 5) (pv 6)) (C0 rfl (zx (AY (i:=7) Bp.nd) (zx (AY (i:=8) Bp.nd) (zx (AY (i:=9) Bp.nd) (zx (AY (i:=10) Bp.nd) CY))))))
  (zT (AO (i:=11) Bp.nd (AG (B9 wz) hr (zD (pv 0) (zD (pv 3) zN))))
  (zT (AO (i:=12) Bp.nd (AG (B9 wz) hr (zD (pv 0) (zD zg zN))))
  (zT (E3 (u':=Hz t wa la n js bd)
   (Ac (zw BH (pv 12) zg (AH _)) (zc (AO (i:=5) Bp.nd (zv AV (pv 2) (pv 11))))
   (zc (Ac (zw BH (pv 12) zg (AH _)) (zc (AO (i:=5) Bp.nd (AQ EV (Dj Fx (pv 5) ES (DY (pv 6))) (Dj Fx (pv 5) (DY (AQ Br (pv 6) zg)) ES))))
   (zc (Ac (PW.pt (DT (zw Hj (pv 12) zg (AH _)) (EW (zw iF (pv 11) (BU (own:=Fc) (cn:=[]) (ci:=[]) rfl (Ax rfl rfl) trivial rfl (BB (pv 5)) (λ_ _ _ _=>Aw) (λ_ _ _ _=>BM) (λ_ _ _ _=>zv CU (pv 0) zg)) (by with_unfolding_all rfl)))))
    (zT (AO (i:=13) Bp.nd (BR (zD (AU (zD (pv 11) (zD (AQ Br zg (AG (B9 wz) hr (zD (pv 0) (zD zg zN)))) (zD (AG (B9 wz) hr (zD (pv 0) (zD (pv 3) zN))) (zD (AG (B9 wz) hr (zD (pv 0) (zD (pv 3) zN))) zN))))) (zD (AU (zD (pv 11) (zD zg (zD As (zD As zN))))) zN))))
    (zc (AO (i:=5) Bp.nd (B5 DH wz.mTuple (zD (Af dY wz.mSorted (zD (AQ EV (pv 5) (AU (zD (zv AS (pv 13) (AQ Dh (pv 12) zg)) zN))) zN)) zN)))))
   (zc (E3 (u':=Hz t wa la n js bd) (Ac (zw Hj (pv 12) zg (AH _))
    (zT (AO (i:=8) Bp.nd (Af (gR rfl) wz.mMax (zD zg (zD (AQ Br (pv 8) (zv AS (BR (zD zg (zD (IS WG zg) (zD zg (zD (IS WG zg) zN))))) (AG (B9 wz) hr (zD (pv 0) (zD zg zN))))) zN))))
    (zc (AO (i:=5) Bp.nd (AQ EV (AQ EV (Dj Fx (pv 5) ES (DY (pv 6))) (AU (zD (AU (zD (pv 7) (zD (pv 8) (zD (pv 9) (zD (pv 10) zN))))) zN))) (Dj Fx (pv 5) (DY (AQ Br (pv 6) zg)) ES)))))
   (zc (Ac (PW.pt (DT (zw Hj (pv 12) zg (AH _)) (EW (zw EN (pv 8) zg (AH _))))) (zc (AO (i:=5) Bp.nd (AQ EV (AQ EV (Dj Fx (pv 5) ES (DY (pv 6))) (AU (zD (AU (zD (pv 7) (zD (pv 8) (zD (pv 11) (zD (pv 10) zN))))) zN))) (Dj Fx (pv 5) (DY (AQ Br (pv 6) zg)) ES))))
   (zc (Ac (zw EN (pv 8) zg (AH _)) (zc (AO (i:=5) Bp.nd (AQ EV (AQ EV (Dj Fx (pv 5) ES (DY (pv 6))) (AU (zD (AU (zD (pv 7) (zD (pv 8) (zD (pv 9) (zD (pv 11) zN))))) zN))) (Dj Fx (pv 5) (DY (AQ Br (pv 6) zg)) ES)))) Ae))))) (λD' σ H3 z=>?tail))))))))
   (λD' σ H3 z=>?bend))
  (zT (AO (i:=14) Bp.nd (AQ EV (AQ EV (Dj Fx (pv 2) ES (DY (pv 4))) (AU (zD (pv 5) zN))) (Dj Fx (pv 2) (DY (AQ Br (pv 4) zg)) ES)))
  (zT (Ac (PW.pt (DT (zw BH (pv 12) zg (AH _)) (EW (zw Hj (pv 4) (pv 11) (AH _)))))
   (zT (AO (i:=15) Bp.nd (B5 bj wz.mList (zD (pv 2) zN)))
   (zT (F8 (zv AV (pv 2) (pv 11)) (HR (pv 15) (pv 4) Hm))
   (zT (F8 (zv AV (pv 2) (pv 4)) (HR (pv 15) (pv 11) Hm))
   (zc (AO (i:=14) Bp.nd (B5 DH wz.mTuple (zD (pv 15) zN))))))) Ae)
  (zc (AL (pv 14)))))))))))),?_}
 case bend=>
  let{U,i,one,wy,at',e,es,N0,0,T3,hN0,L3,Le,Ke,he,o0,o1,w0,tb,z}:=z;let{as,h1,EA,lM}:=Le.cut;let lT:=Ke.len;let a1:=(zE.mp he).1;show{7,?_};rw[Eo];by_cases c0:wy=0
  . show Aj (zO c0) ?_;let{ls,hl,hll,hA}:=id L3;obtain⟨q,hq⟩:∃q,ls[one.toNat]?=some q:={_,zB ()};let{fs,kR,Lf}:=hA _ _ hq;show{4,la,2,.ref q,3,AB.of hl,CM o0 (by rw[zM,hq];rfl),z q fs _ _ H3 Lf (hB _ (zQ kR)).up (T3.mono ()) (Sm.refl _ _)}
  show Ak (zW c0) ?_;show{7,?_};rw[Eo];by_cases c1:wy=1
  . show Aj (zO c1) ?_;show{4,(at':Int),0,U,1,h1,λp1 H4 s4 h4=>?_};rw[TX,<-List.map_take] at h4;show{4,_,7,U,1,s4 _ _ h1,λp4 H8 s8 h8=>?_};rw[show ((at':Int)+1)=((at'+1:Nat):Int) by lia,SW,<-List.map_drop] at h8;show{p1,p4,5,s8 _ _ h4,h8,by simp only[zC,ze,FP];show CI (A5 (by grind)),λp5 J s9 h9=>?_};rw[<-zP] at h9;let s39:=s4.trans (s8.trans s9);let EA9:Ah J (as.take at'++as.drop (at'+1)) (es.take at'++es.drop (at'+1)):=((EA.take at').app (EA.drop (at'+1))).keep λb I z=>s39 _ _ z;show z p5 _ _ _ J {_,h9,EA9,?_} {by rw[zK,ze,FP];let:=tb.1;grind,λx hx=>tb.up.2 x ((zr.mp hx).elim List.mem_of_mem_take List.mem_of_mem_drop)} ((T3.keep s39).mono ()) (Sm.of s39);rw[zK,ze,FP];grind
  show Ak (zW c1) ?_;show{1,_,7,?_};show A3 (λc2=>?_) (λ_=>Ab {U,i,one,wy,at',e,es,N0,0,T3,hN0,L3,Le,Ke,he,o0,o1,w0,tb,z});let c2':=of_decide_eq_true c2;show{4,U,0,{_,AB.of h1},[],0,λD8 mE=>?_};show BS (a:=U) (xs:=as.map V.ref) (λm I H6=>I=((es.take m).map (·.h)).map V.int/\m<=es.length/\AE H3 H6/\H6 D8=some (.lst I)) {0,zj _,zH mE,zI} (λm I H6 w=>?_) (λm I H6 w=>?_) (λm x I H6 hx w=>?_) (λI H6 w=>?_)
  . let{2,s6,_}:=w;show AB.of (s6 _ _ h1)
  . let{0,_}:=w;rw[zC,zC,ze];show A5 ()
  . let{0,hm,s6,h6}:=w;let{b,g,0,hgm,hb}:=EA.at hx;let hm':=(zE.mp hgm).1;show{{3},?_};show BW ?_;show{1,b,2,.int g.h,3,AB.of (s6 _ _ hb),0,h6,?_,(),Ar s6 mE,zI};rw[zt,hgm,zP,zP];rfl
  let{0,_,s6,h6}:=w;rw[zC,lM,zb (zJ _)] at h6;let T6:=T3.keep s6;show{D8,1,.inl (AD.of h6),0,ZQ _,1,?_};change (if (!OA (V.int one) ((es.map (·.h)).map V.int))=true then _ else _)
  rw[Wh];by_cases cg:one∈es.map (·.h)
  . rw[zO cg];show Ab {U,i,one,wy,at',e,es,N0,0,T6,hN0,L3.keep λb I z=>s6 _ _ z,Le.same s6,Ke,he,o0,o1,w0,tb,λpl' lP v8 v13 H' a a' b c=>z pl' lP v8 v13 H' a a' b ((Sm.of s6).trans c)}
  rw[zW cg];show AZ ?_;show⟨_,rfl,_,rfl,t,N0,9,rfl,T6,(),by decide,by decide,λd1 H7 d10 d11 T7 e7=>?_⟩;show{5,4,t,N0+1,n,0,T7,(),(),(),λd2 H8 d20 d21 T8 e8=>?_};show{4,t,N0+1+1,n,0,T8,(),(),(),λd3 J d30 d31 T9 e9'=>?_};let s39:Sm t H3 J:=(Sm.of s6).trans ((DD e7).trans ((DD e8).trans (DD e9')));let k39:∀b I,H3 b=some (.tup I)->J b=some (.tup I):=λb I q=>s39 _ _ (AN.neT T3 q) q;show{HM,λx1 hx1=>?_};let sx1:=zH (o:=.tup (eV ⟨one,1+d1,some d2,some d3⟩)) hx1;show{1,HM,λx2 hx2=>?_};let sx2:AE (upd J x1 (.tup (eV ⟨one,1+d1,some d2,some d3⟩))) _:=zH (o:=.tup (eV ⟨one,0,none,none⟩)) hx2;let q1:=sx2 _ _ (zI (H:=J) (a:=x1) (o:=.tup (eV ⟨one,1+d1,some d2,some d3⟩)));let q2:(upd (upd J x1 (.tup (eV ⟨one,1+d1,some d2,some d3⟩))) x2 (.tup (eV ⟨one,0,none,none⟩))) x2=some (.tup (eV ⟨one,0,none,none⟩)):=zI;show{Ad,λml hml=>?_};let sml:AE (upd (upd J x1 (.tup (eV ⟨one,1+d1,some d2,some d3⟩))) x2 (.tup (eV ⟨one,0,none,none⟩))) _:=zH (o:=.lst [.ref x1,.ref x2]) hml;obtain⟨cX,eX,hat,hcX,heX,hbX⟩:∃(cX:Addr)(eX:En),By [V.ref x1,V.ref x2] (wy-2)=some (V.ref cX)/\(upd (upd J x1 (.tup (eV ⟨one,1+d1,some d2,some d3⟩))) x2 (.tup (eV ⟨one,0,none,none⟩))) cX=some (.tup (eV eX))/\eX.h=one/\IE bd eX:=by
   rcases (show wy=2\/wy=3 by lia) with c | c
   . show{x1,_,by rw[c];rfl,q1,0,(show one.natAbs<=bd by lia),(show (1+d1).natAbs<=bd by grind),(λu z=>by ext z;lia),(λu z=>by ext z;lia)}
   . show{x2,_,by rw[c];rfl,q2,0,(show one.natAbs<=bd by lia),zj _,(λu z=>by ext z),(λu z=>by ext z)}
  let s9m:=(sx1.trans sx2).trans sml;let hcm:=sml _ _ hcX;let hmm:(upd (upd (upd J x1 (.tup (eV ⟨one,1+d1,some d2,some d3⟩))) x2 (.tup (eV ⟨one,0,none,none⟩))) ml (.lst [.ref x1,.ref x2])) ml=some (.lst [.ref x1,.ref x2]):=zI;show{1,4,5,ml,2,.ref cX,3,AD.of hmm,hat,NQ,λp2 kM=>?_};let sp2:=s9m.trans (zH (o:=.tup [.ref cX]) kM);let hcp:=zH (o:=.tup [.ref cX]) kM _ _ hcm;show{U,p2,5,sp2 _ _ (k39 _ _ h1),zI,by rw[zC];show CI (A5 (by simp;lia)),λp3 Hb sb hb=>?_};let s9b:=sp2.trans sb;let hcb:=sb _ _ hcp;let EAb:Ah Hb as es:=EA.keep λb I q=>s9b _ _ (k39 _ _ q);let ek:as.map V.ref++[V.ref cX]=(as++[cX]).map V.ref:=by rw[zP];rfl
  rw[ek] at hb;show{p3,as++[cX],1,AB.of hb,dM EAb Ke.hub hcb (by rw[heX];show cg),by rw[zK];simp;lia,λl out hl pm=>?_};let sl:=zH (o:=.lst ((out.map λi=>(as++[cX]).getD i 0).map V.ref)) hl;show{l,1,.inl {AD.of zI,λq hq=>?_}};let sq:=sl.trans (zH (o:=.tup ((out.map λi=>(as++[cX]).getD i 0).map V.ref)) hq);let s9q:=s9b.trans sq;let EB:=(EAb.app (Ah.one hcb)).keep λb I z=>sq _ _ z;show z q _ _ _ _ {_,zI,iA EB λi hi=>Cs.mp (pm.mem_iff.mp hi),?_} (LN tb hbX (by rw[pm.length_eq,zy,zK];simp;lia) λi hi=>by let:=Cs.mp (pm.mem_iff.mp hi);rw[zK,List.length_singleton] at this;lia) ((T9.keep s9q).mono ()) (s39.trans (Sm.of s9q));rw[zC,pm.length_eq,zy,zK];simp;lia
 case tail=>
  let{U,i,one,wy,at',e,es,N0,0,T3,hN0,L3,Le,Ke,he,o0,o1,w0,tb,z}:=z;let lT:=Ke.len;let a1:=(zE.mp he).1;let{be1,be2,be3,be4}:=tb.up.2 e (zQ he);let be0:=(tb.2 e (zQ he)).2.1;let one1:∀u,some one=some u->u.natAbs<=bd+2:=λu z=>by ext z;lia
  show{1,_,7,?_};show A3 (λc2=>?_) (λc2=>?_)
  . show⟨_,rfl,1,rfl,2,rfl,HM,λml hml=>?_⟩;let sm0:=zH (o:=.lst (([1,-1,2,-2]:List Int).map V.int)) hml;let hmm:(upd H3 ml (.lst (([1,-1,2,-2]:List Int).map V.int))) ml=some (.lst (([1,-1,2,-2]:List Int).map V.int)):=zI;show⟨_,rfl,t,N0,4,rfl,T3.keep sm0,(),by decide,by decide,λr H5 r0 r1 T5 e5=>?_⟩;let{m,mm,hm}:=ND (L:=[1,-1,2,-2]) r0 r1;let m2 : -2<=m/\m<=2:=by
     simp only[za,FD,or_false] at mm
     lia
    let nml:ml≠t:=by let{tp,hp}:=id (T3.keep sm0);show hp.nI hmm
    let s35:Sm t H3 H5:=(Sm.of sm0).trans (DD e5);let k35:∀b I,H3 b=some (.tup I)->H5 b=some (.tup I):=λb I q=>s35 _ _ (AN.neT T3 q) q;show{ml,2,.int m,3,AD.of (by rw[e5 _ nml];show hmm),hm,5,6,?_};let h8:(if e.l+m > 0 then e.l+m else 0).natAbs<=bd+2:=by split <;> lia
    generalize (if e.l+m > 0 then e.l+m else 0)=L8 at h8 ⊢
    show Tb ⟨e.h,L8,e.u,e.d⟩ rfl rfl (λ_ _ q=>{4,4,q}) (Le.keep k35) () a1 λp5 J L9 nU=>z p5 _ _ _ J L9 (tb.set ⟨be1,h8,be3,be4⟩) ((T5.keep nU).mono ()) (s35.trans (Sm.of nU))
  show{1,_,7,?_};show A3 (λc3=>?_) (λc3=>Ab ?_)
  . show{1,_,7,?_};show A3 (λc4=>?_) (λc4=>?_)
    . show Tb {e.h,e.l,some one,e.d} rfl rfl (λ_ _ q=>{4,4,q}) Le () a1 λp5 J L9 nU=>z p5 _ _ _ J L9 (tb.set ⟨be1,be2,one1,be4⟩) ((T3.keep nU).mono ()) (Sm.of nU)
    . show{1,_,7,?_};show A3 (λc5=>absurd c5 c4) λ_=>z U es _ _ H3 Le tb.up (T3.mono ()) (Sm.refl _ _)
  . show{1,_,7,?_};show A3 (λc4=>?_) (λ_=>z U es _ _ H3 Le tb.up (T3.mono ()) (Sm.refl _ _));show Tb {e.h,e.l,e.u,some one} rfl rfl (λ_ _ q=>{4,4,q}) Le () a1 λp5 J L9 nU=>z p5 _ _ _ J L9 (tb.set ⟨be1,be2,be3,one1⟩) ((T3.keep nU).mono ()) (Sm.of nU)
 show{1,wa,9,AB.of kF,0,?_};show{4,t,N,n,0,T,(),(),(),λi0' H1 i0 i1 T1 e1=>?_};obtain⟨ip,rfl⟩:∃m:Nat,i0'=m:={i0'.toNat,()};let k1:∀b I,H b=some (.tup I)->H1 b=some (.tup I):=λb I q=>by rw[e1 _ (AN.neT T q)];show q
 let{ls,hl,hll,hA}:=id (LA.keep k1);obtain⟨U,kK⟩:∃q,ls[ip]?=some q:={_,zB ()};let{es,kB,Le}:=hA _ _ kK;let Ke:=LK.kd _ (zQ kB);let lT:=Ke.len;let{as,hp,EA,lM}:=Le.cut;let pos:0<es.length:=by
  let{o,ho}:=Ke.zero;let:o∈es.filter (λe=>decide (e.l=0)):=by rw[ho];show zX
  show List.length_pos_of_mem (Dg.mp this).1
 show{4,la,2,.ref U,3,AB.of hl,Dx (by rw[zM,kK];rfl),?_};show{4,U,1,.inr (AB.of hp),t,N+1,1,T1,(),by rw[zC];lia,by rw[zC];lia,λa0' H2 a0 a1 T2 e2=>?_};rw[zC] at a1;obtain⟨at',rfl⟩:∃m:Nat,a0'=m:={a0'.toNat,()};let k2:∀b I,H1 b=some (.tup I)->H2 b=some (.tup I):=λb I q=>by rw[e2 _ (AN.neT T1 q)];show q
 obtain⟨c,hc⟩:∃c,as[at']?=some c:={_,zB ()};let{e,he,hce}:=EA.2 _ _ hc;show{4,U,2,.ref c,3,AB.of (k2 _ _ hp),Dx (by rw[zM,hc];rfl),c,1,AB.of (k2 _ _ hce),0,6,6,6,5,?_};show{4,t,N+1+1,n,0,T2,(),(),(),λone H3 o0 o1 T3 e3=>?_};show⟨_,rfl,t,N+1+1+1,11,rfl,T3,(),by decide,by decide,λwy H4 w0 w1 T4 e4=>?_⟩;let k4:∀b I,H1 b=some (.tup I)->H4 b=some (.tup I):=λb I q=>by
  let q2:=k2 _ _ q;let q3:H3 b=some (.tup I):=by rw[e3 _ (AN.neT T2 q2)];show q2
  rw[e4 _ (AN.neT T3 q3)];show q3
 let mJ:Sm t H H4:=(DD e1).trans ((DD e2).trans ((DD e3).trans (DD e4)));show{U,ip,one,wy,at',e,es,1,T4,(),(LA.keep k1).keep k4,Le.keep k4,Ke,he,o0,o1,w0,hB es (zQ kB),λpl' lP v8 v13 H5 L5 tb5 T5 s5=>?_};let k5:∀b I,H1 b=some (.tup I)->H5 b=some (.tup I):=λb I q=>s5 _ _ (AN.neT T4 (k4 _ _ q)) (k4 _ _ q);let LB5:CZ H5 ls js:=CZ.keep ⟨hll,hA⟩ k5;let hl5:=k5 _ _ hl;show{4,(ip:Int),0,la,1,hl5,λp1 H6 s6 h6=>?_};rw[TX,<-List.map_take] at h6;show{1,NQ,λp2 kM=>?_};let sp:=zH (o:=.tup [.ref pl']) kM;show{p1,p2,5,sp _ _ h6,zI,by rw[zC,ze];show CI (A5 (by simp;lia)),λp3 H7 s7 h7=>?_};let s57:=s6.trans (sp.trans s7);show{4,_,7,la,1,s57 _ _ hl5,λp4 H8 s8 h8=>?_};rw[show ((ip:Int)+1)=((ip+1:Nat):Int) by lia,SW,<-List.map_drop] at h8;show{p3,p4,5,s8 _ _ h7,h8,by simp only[zK,zC,ze,FP,zu,List.length_nil];show CI (A5 (by grind)),λfo J s9 h9=>?_};let s59:=s57.trans (s8.trans s9);let e9:(ls.take ip).map V.ref++[V.ref pl']++(ls.drop (ip+1)).map V.ref=(ls.set ip pl').map V.ref:=by rw[<-RT (x:=pl') (show ip<ls.length by lia),zP,zP];rfl
 rw[e9] at h9;let LB9:CZ J ls js:=LB5.keep λb I z=>s59 _ _ z;let T9:=T5.keep s59;let s09:=mJ.trans (s5.trans (Sm.of s59));let L9:A4 J fo (js.set ip lP):=(LB9.set (L5.keep λb I z=>s59 _ _ z) ip).labs h9;let hB2:∀es∈js,TB (bd+2) es:=λes h=>(hB es h).up;let fin:=k fo _ J L9 (by rw[Cp];show nM) (Sj hB2 tb5) (T9.mono ()) s09;show{7,?_};show A3 (λ_=>?_) (λ_=>Ab {1,fin});show{4,_,7,?_};show A3 (λ_=>?_) (λ_=>{1,fin});obtain⟨b,hb⟩:∃b,ls[one.toNat]?=some b:={_,zB (by grind)};let{eb,heb,Lb}:=LB9.2 _ _ hb;let{ea,hea,La}:=LB9.2 _ _ kK;let hl9:=s59 _ _ hl5;show{1,la,1,.inr (AB.of hl9),λL hL=>?_};let sL:=zH (o:=.lst (ls.map V.ref)) hL;show{4,la,2,.ref b,3,AB.of (sL _ _ hl9),CM o0 (by rw[zM,hb];rfl),4,L,_,ip,ip,3,zI,NS () (by rw[zC];lia),?_};rw[EU];let Ad:=Ar (o:=.lst ((ls.map V.ref).set ip (.ref b))) (AE.refl J) hL;show{4,la,2,.ref U,3,AB.of (Ad _ _ hl9),Dx (by rw[zM,kK];rfl),4,L,_,one,one.toNat,3,zI,NS o0 (by rw[Cp,zC];lia),?_};let el:((ls.map V.ref).set ip (.ref b)).set one.toNat (.ref U)=((ls.set ip b).set one.toNat U).map V.ref:=by rw[List.map_set,List.map_set]
 rw[el,EU];let Eu:=Ar (o:=.lst (((ls.set ip b).set one.toNat U).map V.ref)) (AE.refl J) hL;show{1,L,1,.inl {AD.of zI,λl kO=>?_}};let s9l:=Eu.trans (zH (o:=.tup (((ls.set ip b).set one.toNat U).map V.ref)) kO);let LB':=(LB9.set Lb ip).set La one.toNat
 show{1,k l _ _ ((LB'.keep λx I z=>s9l _ _ z).labs zI) (by rw[Cp,Cp];show nM) (Sj (Sj hB2 (hB2 _ (zQ heb))) (hB2 _ (zQ hea))) ((T9.keep s9l).mono ()) (s09.trans (Sm.of s9l))}
inductive ID (vs:List V)(H:Hp)(Q:VK):Prop
 | mk:∀(t:Addr)(N:Nat),(vs=[.ref t])->(AN H t N)->(N<900000)->(∀(n:Int)(H':Hp),1<=n->n<=8->AN H' t (N+1)->Sm t H H'->Q (.int n) H')->ID vs H Q
def jm:Sp:=λo H Q _=>ID o H Q
def jj:AR ["_law_tape_here"] Nv.p (defScope Nv.s):=Aa
def U3:AC P w K mg base 2 Nv jm:=λU=>by
 show U.Sm.okZ jj λ_ _ A _ _ H vs Q E hr h=>?_;let{t,N,0,T,hN,k}:=h;obtain⟨es,q1,q2,j3,q3,q4,p1,p2,p3,hb,kB⟩:∃es q1 q2 j3 q3 q4 p1 p2 p3,defBody Nv.s=[.Return (some (.Subscript (.List es p1) (.Call (.Name "_law_draw" q1) [.Name "_law_tape_here" q2,.Constant (.int 12) j3 q3] [] q4) p2)) p3] /\
  NF es [1,2,3,4,5,6,4,3,5,6,7,8]:={8,8,1,by repeat constructor}
 rw[hb];show{_,zc (AL (zv AS (BR (Y0 kB))
  (AG (B9 U) hr (zD (pv 0) (zD zg zN))))),?_}
 show{Up,λl J=>?_};show⟨_,rfl,t,N,12,rfl,T.laid J,(),by decide,by decide,λr H' h0 h1 T' he=>?_⟩;let I:l≠t:=T.ne J;let{n,hn,ha}:=ND (L:=[1,2,3,4,5,6,4,3,5,6,7,8]) h0 h1;let hb:1<=n/\n<=8:=by
  let:∀m∈([1,2,3,4,5,6,4,3,5,6,7,8]:List Int),1<=m/\m<=8:=by decide
  show this n hn
 show{l,9,AD.of (by rw[he l I];show zI),ha,?_};show k n H' hb.1 hb.2 T' λb o hb e=>?_;rw[he b hb,zi (zl e J)];show e
def Jq (h:GJ n e):Ai n (CT e)=true:=by
 let{x,l,u,d}:=e;let{{a,b},c,o,f}:=h;change (BZ (.int x) 0 (n-1) && (decide (0<=l) && FT n l (oD u) (oD d)))=true;let w:∀y:Int,0<=y->y<n->BZ (.int y) 0 (n-1)=true:=λy J U=>by change (decide (0<=y) && decide (y<=n-1))=true;rw[zO J,zO ()];rfl
 rw[w x a b,zO c];unfold FT;by_cases z:l=0
 . obtain⟨rfl,rfl⟩:u=none/\d=none:=o z;rw[if_pos z];rfl
 . obtain⟨C,I,rfl,rfl,u0,u1,d0,d1⟩:∃C I,u=some C/\d=some I/\0<=C/\C<n/\0<=I/\I<n:=f z;rw[if_neg z];change (true && (true && (BZ (.int C) 0 (n-1) && BZ (.int I) 0 (n-1))))=true;rw[w C u0 u1,w I d0 d1];rfl
def LH (h:Fv n es):BQ n (G6 es)=true:=by
 change (decide ((((es.map CT).length:Nat):Int)<=n) && ((es.map CT).all (Ai n) && (ER (es.map CT) && CW ((es.map CT).map BK))))=true;let J:(es.map CT).map BK=es.map (·.h):=by rw[Bn];rfl
 let I:(es.map CT).map B7=es.map (·.l):=by rw[Bn];rfl
 let C:ER (es.map CT)=true:=by unfold ER;rw[I];show zO h.one
 let o:(es.map CT).all (Ai n)=true:=List.all_eq_true.mpr λd hd=>by let{e,he,0}:=zk.mp hd;show Jq (h.ent e he)
 rw[J,C,o,(Nc _).mpr (EZ.mpr h.hub),zC,zO h.len];rfl
def bK (h:DO n js)(o:0<=n):FW n (CN js)=true:=by
 change (decide ((((js.map G6).length:Nat):Int)=n) && (js.map G6).all (BQ n))=true;let C:=h.ln;rw[zC,zO (),List.all_eq_true.mpr λd hd=>by let{es,he,0}:=zk.mp hd;show LH (h.kd es he)];rfl
def Jj (L:Gk ts n js):Eg ts js none:=by
 show .none (λi hi e r z=>L.own i e r (Cs.mp hi) z) (λx o=>?_) (λu v w J I hw ⟨t,lv,lw,ad,C,m2,g⟩=>?_) (λx o=>?_)
 . let{i,e}:=x;show L.up i e {(GN o).1,(GN o).2,M6 o}
 . cases lv with
   | none=>ext g
   | some c=>
    let{U,0,le}:=L.tie u v J I w t _ _ ad C (by rwa[B4]) c rfl;let:decide (c.1+t<U.1)=true:=g;let:=of_decide_eq_true this
    lia
 . let{i,e}:=x;show L.dn i e {(GN o).1,(GN o).2,M6 o}
def Kb (o:0<=n)(K:DO n js)(L:Gk ts n js):Ck n ts (CN js) none:=.lab js none (bK K o) rfl (Jj L)
def jL (L:A4 H la js):AX H (.ref la) (CN js):=by let{as,I,C,o}:=L;show .tup I (Wj C o)
def Hr (h:∀u,o=some u->u.natAbs<=b):IB b 25 (oD o):=by
 cases o with
 | none=>show .non
 | some u=>show .int _ (h u rfl)
def OY (h:∀es∈js,TB b es)(o:js.length<=24):IB b 25 (CN js):=by
 show .tup _ (by rw[zC];lia) λd hd=>?_;let{es,he,0}:=zk.mp hd;show .tup _ (by rw[zC];show (h es he).1) λd hd=>?_;let{e,hm,0}:=zk.mp hd;let{a,c,u,w}:=(h es he).2 e hm;show .tup _ (by change 4<=25;decide) λd hd=>?_;simp only[za,FD,or_false] at hd;rcases hd with rfl | rfl | rfl | rfl
 . show .int _ a
 . show .int _ c
 . show Hr u
 . show Hr w
def MA (h:i.natAbs<10000000000):Fn 40 0 (.int i):=by
 let o:i.natAbs.log2<34:=by
  by_cases h0:i.natAbs=0
  . rw[h0];decide
  . show (Nat.log2_lt h0).mpr ()
 let{_,b,c,d,e}:=Jc (i:=i) ();show{?_,b,c,d,e};simp only[PyData.weight];split <;> lia
def IQ (h:∀u,o=some u->u.natAbs<=b)(hb:b<10000000000):Fn 40 0 (oD o):=by
 cases o with
 | none=>show XT.mono (by decide) (by decide)
 | some u=>show MA (CO (h u rfl) hb)
def P9 (h:∀es∈js,TB b es)(o:js.length<=24)(hb:b<10000000000):Fn 99024 3 (CN js):=by
 show (GR (n:=4125) (p:=2) (L:=24) (λd hd=>?_) (by rwa[zC])).mono (by decide) (by decide);let{es,he,0}:=zk.mp hd;show (GR (n:=164) (p:=1) (L:=25) (λd hd=>?_) (by rw[zC];show (h es he).1)).mono (by decide) (by decide);let{e,hm,0}:=zk.mp hd;let{a,c,u,w}:=(h es he).2 e hm;show (GR (n:=40) (p:=0) (L:=4) (ds:=[.int e.h,.int e.l,oD e.u,oD e.d]) (λd hd=>?_) (zJ 4)).mono (by decide) (by decide);simp only[za,FD,or_false] at hd;rcases hd with rfl | rfl | rfl | rfl
 . show MA (CO a hb)
 . show MA (CO c hb)
 . show IQ u hb
 . show IQ w hb
meta def G1 (t:T3):PyData:=.tuple ((tl t).map PyData.int)
meta def JF (n:Int)(ts:List T3):PyData:=.tuple [.int n,.tuple (ts.map G1)]
def aK :∀l:List Int,B0 H (l.map V.int) (l.map PyData.int)
 | []=>.nil
 | _::r=>.cons (.int _) (aK r)
def WA :∀{xs:List V}{ts:List T3},Au H xs (ts.map tl)->B0 H xs (ts.map G1)
 | [],[],_=>.nil
 | [],_::_,h=>h.elim
 | _::_,[],h=>h.elim
 | x::xs,t::ts,h=>by let{{a,0,ha,_},o}:=h;show .cons (.tup ha (aK _)) (WA o)
def TV (W:Ap H wa n ts):AX H (.ref wa) (JF n ts):=by let{ta,tys,I,C,o,_}:=W;show .tup I (.cons (.int _) (.cons (.tup C (WA o)) .nil))
def KG (g:GW n ts):Fn 54274 3 (JF n ts):=by
 let h1:=g.n1;let h2:=g.n24;let hl:=g.len;let o:Fn 27136 2 (.tuple (ts.map G1)):=by
  show (GR (n:=423) (p:=1) (L:=64) (λd hd=>?_) (by rw[zC];lia)).mono (by decide) (by decide);let{t,o,0}:=zk.mp hd;let{r1,U,J,I,C}:=g.rng t o;show (GR (n:=140) (p:=0) (L:=3) (λd hd=>?_) (by rw[zC];show zJ 3)).mono (by decide) (by decide);let{i,hi,0}:=zk.mp hd;let k7:i=t.1\/i=t.2.1\/i=t.2.2:=by simpa [tl] using hi
  show Jc ()
 show (GR (n:=27136) (p:=2) (L:=2) (ds:=[.int n,.tuple (ts.map G1)]) (λd hd=>?_) (zJ 2)).mono (by decide) (by decide);rcases za.mp hd with rfl | hd
 . show (Jc ()).mono (by decide) (by decide)
 . rcases za.mp hd with rfl | hd
   . show o
   . ext hd
def Jr (g:GW n ts)(h:∀es∈js,TB b es)(o:js.length<=24)(hb:b<10000000000):Fn 300000 50 (.tuple [JF n ts,CN js]):=
 (GR (n:=99024) (p:=3) (L:=2) (ds:=[JF n ts,CN js]) (λd hd=>by
  simp only[za,FD,or_false] at hd;rcases hd with rfl | rfl
  . show (KG g).mono (by decide) (zJ 3)
  . show P9 h o hb) (zJ 2)).mono (by decide) (by decide)
def Zz (J:0<=n)(I:n<=24)(U:js.length=n.toNat)(L:A2 (NI n) ts n 1700000000 js):∀es∈js,TB 1700000000 es:=λes C=>by
 let K:=L.kd J U;let{i,hi,e}:=zf C;let M:=L i es (by rw[zB hi,e]);let Q:=K.kd es C;let:=Q.len;show{(),λx o=>?_};let r:=M.rng x o;let q:=M.nn x o;let E:=Q.ent x o;let key:(∀u,x.u=some u->u.natAbs<=1700000000)/\∀u,x.d=some u->u.natAbs<=1700000000:=by
  by_cases z:x.l=0
  . let{a,b}:=E.own z;rw[a,b];show{(λu h=>by ext h),(λu h=>by ext h)}
  . let{u',d',a,b,_}:=E.far z;rw[a,b];show{(λu h=>by ext h;lia),(λu h=>by ext h;lia)}
 show{(),(),key.1,key.2}
inductive aI (K:AF)(vs:List V)(H:Hp)(Q:VK):Prop
 | mk:∀(a:Addr)(ns:List Int),(vs=[.ref a])->(AD K H a (ns.map V.int))->(ns.length<=63)->(∀H',Q (.bl true) H')->aI K vs H Q
def Q4 (K:AF):Sp:=λo H Q _=>aI K o H Q
inductive Hq (a:Addr)(D:DC)(σ:St)(H:Hp):Prop
 | mk:∀(t wa:Addr)(q N:Nat)(n:Int)(ts:List T3)(v4 v5 v6 v7:Option V),(σ=[some (.ref a),some (.ref t),some (.int q),some (.ref wa),v4,v5,v6,v7])->(AN H t N)->(N<200000)->(Ap H wa n ts)->(∀(wa':Addr)(n':Int)(ts':List T3)(H':Hp),Ap H' wa' n' ts'->AN H' t (N+400)->D.nx [some (.ref a),some (.ref t),some (.int q),some (.ref wa'),v4,v5,v6,v7] H')->Hq a D σ H
def jg (a:Addr):TS:=λD σ H=>Hq a D σ H
inductive VP (D:DC)(σ:St)(H:Hp):Prop
 | mk:∀(wa la q0:Addr)(n:Int)(ts:List T3)(d:PyData)(fo:Option (Str×PyData))(v0 v1 v2 v5:Option V),(σ=[v0,v1,v2,some (.ref wa),some (.ref la),v5,some (.ref q0),some (.str (PyData.tuple [JF n ts,d]).shown)])->(Ap H wa n ts)->(AX H (.ref la) d)->(Ck n ts d fo)->(AX H (.ref q0) (fD fo))->(Fn 300000 50 (.tuple [JF n ts,d]))->(∀H',AE H H'->D.nx σ H')->VP D σ H
def OX:TS:=λD σ H=>VP D σ H
inductive ZV (D:DC)(σ:St)(H:Hp):Prop
 | mk:∀(t wa la q0:Addr)(n:Int)(ts:List T3)(js:List (List En))(fo:Option (Str×PyData))(N bd:Nat)(v0 v2 v5 v7:Option V),(σ=[v0,some (.ref t),v2,some (.ref wa),some (.ref la),v5,some (.ref q0),v7])->(AN H t N)->(N<290000)->(Ap H wa n ts)->(A4 H la js)->(js.length=n.toNat)->((∀es∈js,TB bd es))->(1700000000<=bd)->(Ck n ts (CN js) fo)->(AX H (.ref q0) (fD fo))->(∀(la':Addr)(kJ:List (List En))(H':Hp),AN H' t (N+12000)->Ap H' wa n ts->A4 H' la' kJ->kJ.length=n.toNat->(∀es∈kJ,TB bd es)->DO n kJ->D.nx [v0,some (.ref t),v2,some (.ref wa),some (.ref la'),v5,some (.ref q0),v7] H')->ZV D σ H
def J7:TS:=λD σ H=>ZV D σ H
inductive X4 (D:DC)(σ:St)(H:Hp):Prop
 | mk:∀(q0:Addr)(b:Nat)(fo:Option (Str×PyData))(v0 v1 v2 v3 v4 v7:Option V),(σ=[v0,v1,v2,v3,v4,some (.int b),some (.ref q0),v7])->((b=0->fo=none))->(AX H (.ref q0) (fD fo))->(∀H',AE H H'->D.nx σ H')->X4 D σ H
def OK:TS:=λD σ H=>X4 D σ H
def Ii (S:AX H (.ref q) (fD none)):H q=some (.tup []):=by
 cases S with
 | tup e al=>ext al;show e
def Ih (S:AX H (.ref q) (fD (some (x,e)))):∃v,H q=some (.tup [.str x,v]):=by
 cases S with
 | tup e al=>
  cases al with
  | cons a al=>
   ext a;cases al with
   | cons a al=>ext al;show{_,e}
def eD (h:Ck n ts (CN o) fo):fo=some (("shape" : Str),PyData.none)\/(DO n o/\(fo=none\/∃x e,fo=some (x,e)/\decide (V.str x=V.str "shape")=false)):=by
 cases h with
 | shape _=>show .inl rfl
 | lab o f h e l=>
  let{I,C,kd}:=QS h;cases UB C;show .inr {kd,?_};cases l with
  | none=>show .inl rfl
  | _=>show .inr {6,by decide}
def E8:AR ["_law_script","_law_tape_here","_law_k","_law_web_here","_law_thing","_law_bends","_law_due","_law_kept"] NP (defScope D5):=Aa
def KC {f fd'}(J:Ws P w K mg base C)(F:Fu K "law" D5 f fd'):BY P w K mg base DQ 9 f fd' NP (Q4 K):=by
 show F.okD E8 λ_ A _ _ H vs Q E U h=>?_;let{a,ns,0,hS,hlen,k}:=h;let hu:=Fy U;show{_,zT (AO (i:=1) E8.nd (AG (dN J) U (zD (pv 0) zN)))
  (zT (A0 (BX rfl J.mRange (zD zg zN)) (AY (i:=2) E8.nd)
   (zT (AO (i:=3) E8.nd (AG (WR J) U (zD (pv 1) (zD (AG (U3 J) U (zD (pv 1) zN)) zN))))
   (zT (E3 (u':=jg a) (Ac (PW.pt (DT (zw BH (pv 2) zg (AH _)) (EW (zw BH (AG (B9 J) U (zD (pv 1) (DF zN))) zg (AH _)))))
    (zc (AO (i:=3) E8.nd (zv AS (BR (zD (AG (WR J) U (zD (pv 1) (DF zN))) (zD (AG (Kk J) U (zD (pv 1) zN)) zN))) (AG (B9 J) U (zD (pv 1) (DF zN)))))) Ae) (λD σ H1 z=>?web))
   (zT (AO (i:=4) E8.nd (AG (YT J) U (zD (pv 1) (zD (pv 3) zN))))
   (zc (A0 (BX rfl J.mRange (zD zg zN)) (AY (i:=5) E8.nd)
    (zT (AO (i:=6) E8.nd (AG (Lr J) U (zD (pv 3) (zD (pv 4) zN))))
    (zT (AO (i:=7) E8.nd (Af (Rc U) J.mRepr (zD (AU (zD (pv 3) (zD (pv 4) zN))) zN)))
    (zT (E3 (u':=OX) (Ac (PW.pt (Dy (zw Ip (Af (Rc U) J.mRepr (zD (AG (Jx J) U (zD (pv 3) (zD (pv 4) zN))) zN)) (Af (Rc U) J.mRepr (zD (NG (zw (eJ (JO hu)) (pv 6) (AU zN) (AH _)) E4 (pv 6)) zN)) (AH _))
     (Dk (zw Ip (Af (Rc U) J.mRepr (zD (AU (zD (pv 3) (zD (pv 4) zN))) zN)) (pv 7) (AH _))))) Z5 Ae) (λD σ H1 z=>?chk))
    (zT (E3 (u':=OK) (Ac (PW.pt (DT (zw BH (pv 5) zg (AH _)) (EW (zw (VJ (JO hu)) (pv 6) (AU zN) (AH _))))) Z5 Ae) (λD σ H1 z=>?first))
    (zT (E3 (u':=J7) (Ac (PW.pt (DT (zw (VJ (JO hu)) (pv 6) (AU zN) (AH _)) (EW (zw BH (zv AV (pv 6) zg) Di (AH _)))))
     (zc (AO (i:=4) E8.nd (AG (YT J) U (zD (pv 1) (zD (pv 3) zN))))) Ae) (λD σ H1 z=>?kind))
    (zc (AO (i:=4) E8.nd (AG (eN J) U (zD (pv 1) (zD (pv 3) (zD (pv 4) zN)))))))))))))))))
  (zc (AL E4))),?_}
 case web=>
  let{t,I,q,N,n,ts,v4,v5,v6,v7,0,T,hN,W,z}:=z;show{7,?_};cases c:decide (V.int (q:Int)=V.int 0) with
  | false=>show Ak rfl (z I n ts H1 W (T.mono ()))
  | true=>
   show Aj rfl ⟨_,rfl,t,N,10,rfl,T,(),by decide,by decide,λr H2 r0 r1 T2 e2=>{0,1,?_}⟩;cases c2:decide (V.int r=V.int 0) with
   | false=>show Ak rfl (z I n ts H2 (W.sm T (RC e2)) (T2.mono ()))
   | true=>
    show Aj rfl ?_;let W2:=W.sm T (RC e2);show⟨_,rfl,t,_,24,rfl,T2,(),by decide,by decide,λwa1 ts1 H3 _ W3 T3 _=>?_⟩;show{1,t,1,T3,(),λwa2 n2 ts2 H4 W4 _ T4 s4=>{Ad,λl hl=>?_}};let sl:=zH (o:=.lst [.ref wa1,.ref wa2]) hl;let W34:=(W3.sm T3 s4).keep sl;let W44:=W4.keep sl;let T4':=T4.keep sl;let nl:l≠t:=T4.ne hl;show⟨_,rfl,t,_,2,rfl,T4',(),by decide,by decide,λr3 H5 r30 r31 T5 e5=>?_⟩;let hl5:H5 l=some (.lst [.ref wa1,.ref wa2]):=by rw[e5 l nl];show zI
    let W35:=W34.sm T4' (RC e5);let W45:=W44.sm T4' (RC e5);obtain rfl | rfl:r3=0\/r3=1:=()
    . show{l,2,.ref wa1,3,AD.of hl5,0,z wa1 24 ts1 H5 W35 (T5.mono ())}
    . show{l,2,.ref wa2,3,AD.of hl5,0,z wa2 n2 ts2 H5 W45 (T5.mono ())}
 case chk=>
  let{I,la,q0,n,ts,d,fo,v0,v1,v2,v5,0,W,S,nQ,Sq,fn,z}:=z;let{_,8,G}:=id W;show{4,I,_,d,n,ts,0,W,S,λf0 H3 s3=>?_,λx e q3 H3 f1 s3 S3=>?_}
  . cases nQ.uniq f0;show{6,.bl _,(Xm _).mono (by decide) (by decide),?_};show{1,Ce,λp4 hp4=>?_};let hq:H1 q0=some (.tup []):=by
     cases Sq with
     | tup e al=>ext al;show e
    let s4:=s3.trans (zH (o:=.tup []) hp4);show{q0,p4,[],3,AB.of (s4 _ _ hq),AB.of zI,?_};show{1,AZ ?_};show{6,.bl _,(Xm _).mono (by decide) (by decide),?_};show{0,1,Ak (congrArg not (zO rfl)) ?_};show{4,Ad,λp5 hp5=>?_};let s5:=s4.trans (zH (o:=.tup [.ref I,.ref la]) hp5);show{6,.tup zI (.cons (CJ s5 (TV W)) (.cons (CJ s5 S) .nil)),fn,7,?_};show Ak (by simp) (z _ s5)
  . cases nQ.uniq f1;let ff:=jV f1 G;show{6,S3,ff,?_};show{1,Ce,λp4 hp4=>?_};obtain⟨xs,hq,hx⟩:∃xs,H1 q0=some (.tup xs)/\xs.isEmpty=false:=by
     cases Sq with
     | tup e al=>ext al;show{_,e,0}
    let s4:=s3.trans (zH (o:=.tup []) hp4);show{q0,p4,xs,3,AB.of (s4 _ _ hq),AB.of zI,?_};show{1,?_};rw[hx];show Ab ?_;show{1,6,CJ s4 Sq,ff,?_};show{0,1,Ak (congrArg not (zO rfl)) ?_};show{4,Ad,λp5 hp5=>?_};let s5:=s4.trans (zH (o:=.tup [.ref I,.ref la]) hp5);show{6,.tup zI (.cons (CJ s5 (TV W)) (.cons (CJ s5 S) .nil)),fn,7,?_};show Ak (by simp) (z _ s5)
 case kind=>
  let{t,I,la,q0,n,ts,js,fo,N,bd,v0,v2,v5,v7,0,T,hN,W,LA,hl,TB',hbd,nQ,Sq,z}:=z;let{_,8,G}:=id W;let lS:=G.n1;let jz:=G.n24;rcases eD nQ with rfl | ⟨kd,rfl | ⟨x,e,rfl,hx⟩⟩
  . let{v,hq}:=Ih Sq;show{1,Ce,λp hp=>?_};let sp:=zH (o:=.tup []) hp;show{q0,p,_,3,AB.of (sp _ _ hq),AB.of zI,1,AZ ?_};show{1,q0,2,.str "shape",3,AB.of (sp _ _ hq),3,1,?_};show Aj (zO rfl) ?_;show{4,t,I,_,n,ts,0,T.keep sp,(),W.keep sp,λla2 ess2 H3 LA3 hl3 LM3 LT3 T3 s3=>?_};show z la2 ess2 H3 T3 ((W.keep sp).sm (T.keep sp) s3) LA3 hl3 (λes h=>(Zz () jz hl3 LM3 es h).mono hbd) (LM3.kd () hl3)
  . show{1,Ce,λp hp=>?_};let sp:=zH (o:=.tup []) hp;show{q0,p,_,3,AB.of (sp _ _ (Ii Sq)),AB.of zI,1,Ab (Ab ?_)};show z la js _ ((T.keep sp).mono ()) (W.keep sp) (LA.keep λb ys e=>sp _ _ e) hl TB' kd
  . let{v,hq}:=Ih Sq;show{1,Ce,λp hp=>?_};let sp:=zH (o:=.tup []) hp;show{q0,p,_,3,AB.of (sp _ _ hq),AB.of zI,1,AZ ?_};show{1,q0,2,.str x,3,AB.of (sp _ _ hq),3,1,?_};show Ak hx ?_;show z la js _ ((T.keep sp).mono ()) (W.keep sp) (LA.keep λb ys e=>sp _ _ e) hl TB' kd
 case first=>
  let{q0,b,fo,v0,v1,v2,v3,v4,v7,0,hb,Sq,z}:=z;show{7,?_};by_cases c:b=0
  . subst c;cases hb rfl;show Aj (zO rfl) {1,Ce,λp hp=>?_};let sp:=zH (o:=.tup []) hp;show{q0,p,_,3,AB.of (sp _ _ (Ii Sq)),AB.of zI,1,Ab (z _ sp)}
  . show Ak (zW λe=>c (by injection e with e;lia)) (Ab (z _ (AE.refl _)))
 show{1,a,ns,0,hS,hlen,λt H1 ht T1 s1=>?_};show⟨3,rfl,by decide,by decide,CL (lo:=0) (n:=3) (λq σ H2=>PY λ(v2 v3 v4 v5 v6 v7:Option V)=>σ=[⇑a,⇑t,v2,v3,v4,v5,v6,v7]/\AN H2 t (62000*q)) {8,6,T1} (λq σ H2 hq z=>?_) (λσ H2 z=>?_)⟩;rotate_left
 . let{v2,v3,v4,v5,v6,v7,0,_}:=z;show k _
 let{v2,v3,v4,v5,v6,v7,0,T2}:=z;rw[Bi];show⟨_,rfl,_,rfl,t,62000*q,rfl,T2,(),λn0 H3 n1 n8 T3 s3=>?_⟩;show{t,_,n0,0,T3,(),n1,(),λwa0 ts0 H4 _ W4 T4 s4=>?_};show{t,wa0,q,_,n0,ts0,2,6,T4,(),W4,λI n ts H5 W5 T5=>?_};clear T2 T3 s3 T4 s4 W4 n1 n8 s1 T1 ht;let{_,8,G}:=id W5;let lS:=G.n1;let jz:=G.n24;show{4,t,I,_,n,ts,0,T5,(),W5,λla js H6 LA6 hl6 LM6 LT6 T6 s6=>?_};let W6:Ap H6 I n ts:=W5.sm T5 s6;show⟨4,rfl,by decide,by decide,CL (lo:=0) (n:=4) (λb σ H7=>NM λ(la:Addr)(js:List (List En))(v5 v6 v7:Option V)=>σ=[⇑a,⇑t,some (.int q),⇑I,⇑la,v5,v6,v7]/\AN H7 t (62000*q+13000+12008*b)/\Ap H7 I n ts/\A4 H7 la js/\js.length=n.toNat/\(∀es∈js,TB (1700000000+2*b) es)/\(b=0->DO n js/\Gk ts n js))
  {la,js,_,6,T6.mono (),W6,LA6,hl6,Zz () jz hl6 LM6,λ_=>{LM6.kd () hl6,LT6}} (λb σ H7 hb z=>?_) (λσ H7 z=>?_)⟩
 rotate_left
 . let{la',kJ,v5',v6',v7',0,T7,_}:=z;show{8,6,T7.mono ()}
 clear LM6 LT6 LA6 hl6 W6 T6 s6 W5 T5;let{la',kJ,v5',v6',v7',0,T7,W7,LA7,hl7,TB7,ok7}:=z;rw[Bi];let Sh:=jL LA7;show{4,I,_,CN kJ,n,ts,6,W7,Sh,OY TB7 (),?_,by decide,λfo q0 H8 nQ s8 S8=>?_}
 . show BC (show 1700000000+2*b<=1700000100 by lia) (by decide)
 let W8:=W7.keep s8;let Sh8:=CJ s8 Sh;show{4,Ad,λp hp=>?_};let sp:=zH (o:=.tup [.ref I,.ref la']) hp;let fn2':=Jr G TB7 () ();let Sp:AX (upd H8 p (.tup [.ref I,.ref la'])) (.ref p) (.tuple [JF n ts,CN kJ]):=.tup zI (.cons (CJ sp (TV W8)) (.cons (CJ sp Sh8) .nil));show{6,Sp,fn2',?_};let s9:=s8.trans sp;show{I,la',q0,n,ts,CN kJ,fo,2,6,W8.keep sp,CJ sp Sh8,nQ,CJ sp S8,fn2',λH9 s10=>?_};let mS:=s9.trans s10;let Sq:=CJ (sp.trans s10) S8;let T11:=T7.keep mS;let W11:=W7.keep mS;let LA11:A4 H9 la' kJ:=LA7.keep λb ys e=>mS _ _ e;clear Sp sp hp s9 s10 Sh8 W8 S8 s8 T7 W7 LA7 Sh;show{q0,b,fo,8,6,λb0=>nQ.uniq (Kb () (ok7 b0).1 (ok7 b0).2),Sq,λH12 nE=>?_};let s13:=mS.trans nE;let T12:=T11.keep nE;let W12:=W11.keep nE;let LA12:A4 H12 la' kJ:=LA11.keep λb ys e=>nE _ _ e;show⟨t,I,la',q0,n,ts,kJ,fo,_,1700000000+2*b,_,_,_,_,rfl,T12,(),W12,LA12,hl7,TB7,(),nQ,CJ nE Sq,λla2 ess2 H13 T13 W13 LA13 hl13 TB13 kd13=>?_⟩;show⟨_,rfl,_,rfl,_,rfl,t,I,la2,_,n,ts,ess2,1700000000+2*b,rfl,T13,(),W13,LA13,kd13,TB13,(),λla3 jv H14 LA14 hl14 TB14 T14 s14=>?_⟩;show{la3,jv,_,6,T14.mono (),W13.sm T13 s14,LA14,hl14,TB14,λz=>absurd z ()}
end K30
namespace K30
open PySem L2 WM
def jZ (x q)(st)(f)(pm cd)(l:autoParam (K.lookup f=some {.type "function",.none,.func (PySem.W.fnOf x q (defArgs st) (defBody st) (defScope st) .none .none .none pm .none cd .none),#[]}) d_._auto_16) (c:autoParam (PySem.W.codeIn K cd q=true) d_._auto_16)(k:autoParam (PySem.W.keepIn K (.ref f)=true) d_._auto_16):Dc K x q st f (PySem.W.fnOf x q (defArgs st) (defBody st) (defScope st) .none .none .none pm .none cd .none):=Sb l c k
def uZq {us:List Value}{n}(h:us.length=n+1):∃a t,us=a::t/\t.length=n:=by
 cases us with
 | nil=>ext h
 | cons a t=>show ⟨a,t,rfl,Nat.succ.inj h⟩
def UW {us:List Value}(h:us.length=1):∃o,us=[o]:=by
 let{a,t,0,e}:=uZq h;cases t with
 | nil=>show ⟨a,rfl⟩
 | cons=>ext e
def UY {us:List Value}(h:us.length=2):∃C o,us=[C,o]:=by
 let{a,t,0,e}:=uZq h;let{o,0}:=UW e;show ⟨a,o,rfl⟩
def QL {us:List Value}(h:us.length=3):∃I C o,us=[I,C,o]:=by
 let{a,t,0,e}:=uZq h;let{C,o,0}:=UY e;show ⟨a,C,o,rfl⟩
def VA {us:List Value}(h:us.length=4):∃J I C o,us=[J,I,C,o]:=by
 let{a,t,0,e}:=uZq h;let{I,C,o,0}:=QL e;show ⟨a,I,C,o,rfl⟩
def walk {l:PySem.W.OpenLaw}{K:Params->AF}(I:l.most=some 63)(o:d.params.defaults=[])
 (U:∀w h,YP w h->(K w.params).In h)
 (F:∀w mg C h,(K w.params).In h->h.Ns mainGlobals mg->mg d.name=⇑C ->
  ∃fd:FuncData,(∀s u,BindsTo s fd {[u],[]} [("_law_script",u)])/\∀base:Heap,(K w.params).In base->base.Ns mainGlobals mg->BY l.prog w (K w.params) mg base DQ 10 C fd NP (Q4 (K w.params))):
 PySem.W.WalkO q loose XP YP l.row.toRowW d [] (λf vs=>PySem.call f vs):=
 L2.walk_of (n:=63) (k:=10) (x := "_law_script") (CX:=λ_=>DQ) (sp:=λw=>Q4 (K w.params)) I (by decide) o {0,by decide,by decide,0} U F (λ_ _ a ns J _ hS=>{a,ns,0,hS,J,λ_=>rfl}) λ_ _ _ _ _ z=>z
def fk {K:AF}(x:Str)(st:Stmt)(f:Addr)(pm cd:Value)(l:autoParam (K.lookup f=some {.type "function",.none,.func (PySem.W.fnOf x x (defArgs st) (defBody st) (defScope st) .none .none .none pm .none cd .none),#[]}) d_._auto_16) (c:autoParam (PySem.W.codeIn K cd x=true) d_._auto_16)(k:autoParam (PySem.W.keepIn K (.ref f)=true) d_._auto_16):Dc K x x st f (PySem.W.fnOf x x (defArgs st) (defBody st) (defScope st) .none .none .none pm .none cd .none):=Sb l c k
meta def dL:DefRec:={ name := "law",params:=defArgs D5,body:=defBody D5,scope:=defScope D5,pos:=⟨383,0,400,15⟩ }
def qU:Nat->(List Value->Prop)->Prop
 | 0,F=>F []
 | n+1,F=>∀a,qU n λl=>F (a::l)
theorem qU.of:∀{n:Nat}{F:List Value->Prop},qU n F->∀us,us.length=n->F us
 | 0,_,h,[],_=>h
 | _+1,_,h,a::l,e=>qU.of (h a) l (Nat.succ.inj e)
def fB (U:K.In h)(G:h.Ns mainGlobals mg)(f)(pm)(l:autoParam (K.lookup f=some {.type "function",.none,.func (PySem.W.fnOf s.x s.x (defArgs s.s) (defBody s.s) (defScope s.s) .none .none .none pm .none (vR (f-1)) .none),#[]}) d_._auto_16)(d:autoParam (PySem.W.codeIn K (vR (f-1)) s.x=true) d_._auto_16)(k:autoParam (PySem.W.keepIn K (.ref f)=true) d_._auto_16)(m:autoParam (PySem.W.nsIn K mainGlobals s.x=some ⇑f) d_._auto_16) (b:qU s.p.length λus=>bindArgs (PySem.W.fnOf s.x s.x (defArgs s.s) (defBody s.s) (defScope s.s) .none .none .none pm .none (vR (f-1)) .none) {us,[]}=pure (s.p.zip us):=by (repeat intro _);show rfl):Fh K mg s:={f,PySem.W.fnOf s.x s.x (defArgs s.s) (defBody s.s) (defScope s.s) .none .none .none pm .none (vR (f-1)) .none,Sb l d k,.all (qU.of b),PySem.W.mg_of U G m}
theorem facts (w:World)(mg:BO)(fa:Addr)(h:Heap)(KX:(Kf w.params).In h)(G:h.Ns mainGlobals mg)(hmg:mg "law"=some (.ref fa)):∃fd:FuncData,(∀s u,BindsTo s fd {[u],[]} [("_law_script",u)])/\∀base:Heap,(Kf w.params).In base->base.Ns mainGlobals mg->BY (PySem.Challenge.rw_labelways_k30_labels_judged).prog w (Kf w.params) mg base DQ 10 fa fd NP (Q4 (Kf w.params)):=by
 have mk:∀(x:Str)(f:Addr),PySem.W.nsIn (Kf w.params) mainGlobals x=some (some (.ref f))->mg x=some (.ref f):=fun x f e=>PySem.W.mg_of KX G e;have mn:∀x:Str,PySem.W.nsIn (Kf w.params) mainGlobals x=some none->mg x=none:=fun x e=>PySem.W.mg_none_of KX G e;have FZ:=fk (K:=Kf w.params) "law" D5 535 qL (vR 534);have FI:=jZ (K:=Kf w.params) "__init__" "NoLabels.__init__" Jw.s 41 Ci (vR 40);have bI:=FI.binds (ps:=["self","word","at"]) fun _ _ _ _ _ _ us hl=>by obtain⟨u0,u1,u2,rfl⟩:=QL hl;rfl
 have Er:bF (Kf w.params) mg 24 44 [63,113,173,82,149,137] [185,101,161,125,197]:={mk "WayError" 24 (by kernel_rfl),by kernel_rfl,mk "NoLabels" 44 (by kernel_rfl),by kernel_rfl,{by kernel_rfl,by kernel_rfl,by kernel_rfl,by kernel_rfl,by kernel_rfl,by kernel_rfl},(by change [mg "NoLeast",mg "NoOrder",mg "NoPart",mg "NoPlan",mg "NoPosts",mg "NoRing"]=_;rw[mk "NoLeast" 63 (by kernel_rfl),mk "NoOrder" 113 (by kernel_rfl),mk "NoPart" 173 (by kernel_rfl),mk "NoPlan" 82 (by kernel_rfl),mk "NoPosts" 149 (by kernel_rfl),mk "NoRing" 137 (by kernel_rfl)];rfl),(by change [mg "NoRow",mg "NoText",mg "NoTie",mg "NoTree",mg "TooMany"]=_;rw[mk "NoRow" 185 (by kernel_rfl),mk "NoText" 101 (by kernel_rfl),mk "NoTie" 161 (by kernel_rfl),mk "NoTree" 125 (by kernel_rfl),mk "TooMany" 197 (by kernel_rfl)];rfl),by kernel_rfl,by kernel_rfl,by kernel_rfl,by kernel_rfl,by kernel_rfl,by kernel_rfl};have EI:Em (Kf w.params) 44 41:={by kernel_rfl,by kernel_rfl,by kernel_rfl,by kernel_rfl,by kernel_rfl};have e:=hmg.symm.trans (mk "law" 535 (by kernel_rfl));cases e;exact{_,fun s v=>.of_eq rfl,fun base _ _=>(KC (C:=44) {(fB KX G 360 qL),
 (fB KX G 367 qL),
 (fB KX G 379 qL),
 (fB KX G 206 GH),
 (fB KX G 213 GH),
 (fB KX G 220 GH),
 (fB KX G 225 GH),
 (fB KX G 232 GH),
 (fB KX G 237 C6),
 (fB KX G 244 C6),
 (fB KX G 249 C6),
 (fB KX G 278 C6),
 (fB KX G 285 R8),
 (fB KX G 292 R8),
 (fB KX G 254 C6),
 (fB KX G 266 C6),
 (fB KX G 261 C6),
 (fB KX G 273 C6),
 (fB KX G 299 Cg),
 (fB KX G 306 Cg),
 (fB KX G 313 Cg),
 (fB KX G 320 Cg),
 (fB KX G 327 Cg),
 (fB KX G 332 Cg),
 (fB KX G 339 Cg),
 (fB KX G 346 Cg),
 (fB KX G 353 Cg),
 (fB KX G 391 qL),
 (fB KX G 398 qL),
 (fB KX G 403 qL),
 (fB KX G 410 qL),
 (fB KX G 417 qL),
 (fB KX G 422 qL),
 (fB KX G 429 qL),
 (fB KX G 436 qL),
 (fB KX G 441 qL),
 (fB KX G 482 qL),
 (fB KX G 489 qL),
 (fB KX G 494 qL),
 (fB KX G 499 qL),
 (fB KX G 504 qL),
 (fB KX G 509 qL),
 (fB KX G 516 qL),
 (fB KX G 521 qL),
 (fB KX G 528 qL),
 (fB KX G 374 qL),
 (fB KX G 384 qL),
 (fB KX G 446 qL),
 (fB KX G 451 qL),
 (fB KX G 458 qL),
 (fB KX G 463 qL),
 (fB KX G 470 qL),
 (fB KX G 475 qL),
 {2,FI,bI,EI},
 Er.mP,
 (by kernel_rfl),
 {8,8,8,Er},
 (mn _ (by kernel_rfl)),
 (mn _ (by kernel_rfl)),
 (mn _ (by kernel_rfl)),
 (mn _ (by kernel_rfl)),
 (mn _ (by kernel_rfl)),
 (mn _ (by kernel_rfl)),
 (mn _ (by kernel_rfl)),
 (mn _ (by kernel_rfl)),
 (mn _ (by kernel_rfl)),
 (mn _ (by kernel_rfl)),
 (mn _ (by kernel_rfl)),
 (mn _ (by kernel_rfl)),
 (mn _ (by kernel_rfl)),
 (mn _ (by kernel_rfl)),
 (mn _ (by kernel_rfl)),
 (mn _ (by kernel_rfl)),
 (mn _ (by kernel_rfl))} FZ).mono (by decide)}
end K30
open PySem PySem.W PyProof.Rows
set_option maxRecDepth 100000 in
set_option maxHeartbeats 0 in
theorem PySem.Challenge.cw_labelways_k30_labels_judged_holds : PySem.Challenge.rw_labelways_k30_labels_judged.Holds := by
 show holds_law K30.wS λo=>?_;show holds_open (q:=K30.Vp) (loose:=[]) (Xt:=λs=>xlAt K30.Vp [] s && recOk (RowW.records K30.RR) s) (XP:=XL K30.Vp []) (Yf:=Hook.obs K30.HK) (Ya:=Hook.val K30.HK) (YP:=Hook.says K30.HK) (d:=K30.dL) (kwd:=[]) (N:=9186) K30.left (Hook.of K30.HK) (Hook.keeps K30.HK) (λs e=>xl_of s (Bool.and_eq_true_iff.mp e).1) XL.keeps (by kernel_rfl) (by kernel_rfl) (by kernel_rfl) (λs e=>recFacts_of (Bool.and_eq_true_iff.mp e).2) (by kernel_rfl) o (by decide +kernel) {0,3,3,by decide +kernel} ?hw ?hc
 case hw=>w_witness2
 case hc=>
  show K30.walk (l:=PySem.Challenge.rw_labelways_k30_labels_judged) (K:=K30.Kf) rfl rfl (λw h Y=>PySem.W.kIn_of Y) K30.facts
