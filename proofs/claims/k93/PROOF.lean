import PyProof.Rows.All
import Wide.All
import OpenK.AllK
import Wide.FinOn
import Lean
import PyProof.EqAt
import PyProof.EqKinds
import PyProof.TupleCall
import PyProof.ListRange
import PyProof.TupleOfGen
import PyProof.Rows.StrKeys3
import PyProof.ZipIter
import PyProof.StrCalls2
import KE.KIntText
import PyProof.FString
import PyProof.StrWalks
import PyProof.Rows.StrInSeq3
import PyProof.StrBlock
import PyProof.StrBlock2
import PyProof.StrBlockI
import PyProof.StrLawsReplace
import PyProof.Rows.CallKwBuiltin
import PyProof.Rows.CatFin
import PyProof.Draws
import PyProof.EqKinds
import PyProof.FactsAll.set
import PyProof.FactsAll.str_7
import PySem.Challenge.RW_labelways_k93_whole_lines_and_parts
set_option Elab.async false
set_option linter.all false
set_option maxRecDepth 100000
local macro_rules (kind:=«term{_}»)
 | `({$xs,*})=>do
  let h← `(_)
  let r← `(rfl)
  let mut ys:=#[]
  for x in xs.getElems do
   ys:=ys ++ (match x.raw.isNatLit? with
    | some 0=>#[r]
    | some 1=>#[h,r]
    | some 2=>#[r,r]
    | some 3=>#[h,h]
    | some 4=>#[h,r,h,r]
    | some 5=>#[h,h,r,r]
    | some 6=>#[r,h,r]
    | some 7=>#[h,h,r]
    | some 8=>#[r,r,r]
    | some 9=>#[h,r,r,h,r]
    | _=>#[x])
  `(⟨$ys,*⟩)
open Lean in
def pq:Nat->Syntax->MacroM (Array (TSyntax `rcasesPat))
 | 0,_=>Macro.throwUnsupported
 | n+1,x=>do
  let h← `(rcasesPat|_)
  let i:=mkIdent `rfl
  let r← `(rcasesPat|$i:ident)
  if x.isIdent then return #[← `(rcasesPat|$(⟨x⟩):ident)]
  match x.isNatLit? with
  | some 0=>return #[r]
  | some 1=>return #[h,r]
  | some 2=>return #[r,r]
  | some 3=>return #[h,h]
  | some 4=>return #[h,r,h,r]
  | some 5=>return #[h,h,r,r]
  | some 6=>return #[r,h,r]
  | some 7=>return #[h,h,r]
  | some 8=>return #[r,r,r]
  | some 9=>return #[h,r,r,h,r]
  | _=>
   if x.isOfKind choiceKind then return (← pq n x[0])
   if x.isOfKind `«term{_}» then
    let ys← x[1].getSepArgs.flatMapM (pq n)
    return #[← `(rcasesPat|⟨$[$ys:rcasesPat],*⟩)]
   return #[h]
local macro_rules (kind:=Lean.Parser.Term.tuple)
 | `(())=>`((by lia))
local macro_rules
 | `(tactic|let $d:letDecl)=>do
  let x:=d.raw[0]
  if x.isOfKind ``Lean.Parser.Term.letPatDecl then
   let p←pq 9 x[0]
   `(tactic|obtain $(p[0]!):rcasesPat:=$(⟨x[4]⟩))
  else `(tactic|have $d:letDecl)
 | `(tactic|show $e)=>`(tactic|refine $e)
 | `(command|meta def $n:ident $s:optDeclSig $v:declVal)=>`(command|noncomputable def $n $s:optDeclSig $v:declVal)
 | `(command|meta abbrev $n:ident $s:optDeclSig $v:declVal)=>`(command|noncomputable abbrev $n $s:optDeclSig $v:declVal)
noncomputable section
theorem d_ (h0:True:=by first | show .inl rfl | show .inr rfl | assumption)(h1:True:=by decide)(h2:True:=by first | show nobehind _ (by decide) (by decide) | rfl)(h3:True:=by intro _;rfl)(h4:True:=by rfl)(h5:True:=by decide +kernel)(h6:True:=by first | show Or.inl rfl | show Or.inr (Or.inl rfl) | show Or.inr (Or.inr rfl))(h7:True:=by intro _ _ _ _ h;first|(cases h;subst_vars;rfl)|repeat (first|(let{0,_}:=h;rfl)|let{_,h}:=h))(h8:True:=by show Or.inl rfl)(h9:True:=by show PassesOwn.never)(h10:True:=by show λ_ _=>rfl)(h11:True:=by show DN rfl)(h12:True:=by kernel_rfl):True:=trivial
section
open PySem PySem.Spec PyProof.Rows
abbrev zA:=@wpAny_bind
abbrev zB:=@List.length_map
abbrev zD:=@List.getElem?_eq_getElem
abbrev zE:=@wpAny_pure
abbrev zF:=@List.getElem?_eq_some_iff
abbrev zG:=@Heap.get?_push_of_some
abbrev zH:=@Nat.le_refl
abbrev zI:=@List.getD_eq_getElem?_getD
abbrev zM:=@Heap.get?_push_size
abbrev zN:=@List.mem_of_getElem?
abbrev zO:=@List.getElem?_map
abbrev zQ:=@List.map_append
abbrev zR:=@List.take_of_length_le
abbrev zS:=@List.mem_cons
abbrev zT:=@List.length_append
abbrev zU:=@Heap.lt_size
abbrev zW:=@Option.some.inj
abbrev zX:=@decide_eq_true
abbrev zZ:=@List.mem_cons_of_mem
abbrev za:=@List.mem_cons_self
abbrev zb:=@Nat.ne_of_lt
abbrev zc:=@List.size_toArray
abbrev zd:=@Nat.zero_le
abbrev ze:=@decide_eq_false
abbrev zf:=@Bool.false_ne_true
abbrev zh:=@List.getElem?_append_right
abbrev zi:=@List.getElem?_append_left
abbrev zj:=@List.take_add_one
abbrev zk:=@Nat.lt_of_lt_of_le
abbrev zl:=@List.length_take
abbrev zm:=@List.length_cons
abbrev zn:=@Nat.le_trans
abbrev zp:=@List.mem_map
abbrev zq:=@List.pairwise_iff_getElem
abbrev zv:=@List.mem_singleton
abbrev zy:=@wpAny_holding
abbrev CZ:=@List.length_filter_le
abbrev Ck:=@List.getElem?_eq_none
abbrev Ce:=@Heap.get?_update_self
abbrev Ba:=@List.mem_filter
abbrev Cr:=@List.getElem?_toArray
abbrev Bz:=@Int.toNat_natCast
abbrev Bi:=@List.mem_append
abbrev Bl:=@List.append_nil
abbrev C8:=@List.length_replicate
abbrev CM:=@List.pairwise_map
abbrev DY:=@List.mem_append_right
abbrev DA:=@List.getElem_of_mem
abbrev Bf:=@List.map_cons
abbrev BB:=@wpAny_mono
abbrev Cq:=@wpAny_call_entry
abbrev DW:=@wpAny_newObj_type
abbrev F3:=@wpAny_callSpecial?_slot
abbrev EH:=@Heap.SameBut.update
abbrev DV:=@wpAny_isInstance
abbrev Dv:=@wpAny_loadPart_at
abbrev C7:=@List.nodup_cons
abbrev Dr:=@List.length_range
abbrev EN:=@wpAny_Call_Name_kw
abbrev Co:=@Heap.size_push
abbrev Gk:=@Int.eq_ofNat_of_zero_le
abbrev EJ:=@Nat.lt_succ_of_lt
abbrev Gj:=@Heap.get?_update_other
abbrev Em:=@Nat.lt_of_le_of_lt
abbrev GK:=@List.replicate_succ
abbrev EE:=@List.any_eq_true
abbrev Hh:=@List.length_eq_zero_iff
abbrev Gr:=@List.replicate_succ'
abbrev Fv:=@List.pairwise_cons
abbrev Di:=@wpAny_seqItems
abbrev El:=@List.getElem_mem
abbrev Ci:=@Nat.le_succ
abbrev Fh:=@wpAny_truthy_bool
abbrev B9:=@wpAny_call
abbrev DO:=@wpAny_typeOf
abbrev Ej:=@List.mem_range
abbrev NQ:=@Classical.byContradiction
abbrev Fy:=@Option.map_some
abbrev Gf:=@List.all_eq_true
abbrev Nj:=@List.filter_cons_of_pos
abbrev Fs:=@wpAny_setField
abbrev EK:=@Int.zero_add
abbrev Hj:=@wpAny_setState_of
abbrev Ho:=@wpAny_pyIter_list
abbrev Jk:=@Int.toNat_of_nonneg
abbrev Hw:=@List.lookup_cons
abbrev Fo:=@wpAny_attempt
abbrev GJ:=@Nat.lt_irrefl
abbrev Jt:=@Bool.false_eq_true
abbrev ER:=@Int.le_refl
abbrev Hx:=@wpAny_updateSeq
abbrev KH:=@decide_eq_true_eq
abbrev Hk:=@Nat.not_lt_zero
abbrev Hu:=@List.find?_cons
abbrev KG:=@List.append_assoc
abbrev F6:=@Nat.le_of_lt
abbrev Ox:=@Nat.toDigits_of_lt_base
abbrev OM:=@List.filter_cons_of_neg
abbrev Nb:=@List.filterMap_cons
abbrev SV:=@wpAny_typeNameOfWhole_keyiter
abbrev Jq:=@Nat.lt_succ_self
abbrev Jr:=@List.filter_cons
abbrev KI:=@Bool.and_eq_true
abbrev EM:=@wpAny_rule
end
abbrev BE:List PySem.Str:=["web","thing"]
abbrev GX:List PySem.Str:=["web","labels","place","entry"]
abbrev BG:List PySem.Str:=["n","thing"]
abbrev JC:List PySem.Str:=["_law_tape_here","_law_many"]
abbrev E7:List PySem.Str:=["web","one","other"]
abbrev Wn:List PySem.Str:=["_law_tape_here","_law_web_here","_law_order_here","_law_labels"]
abbrev GY:List PySem.Str:=["self","web","order"]
abbrev Nz:List PySem.Str:=["_law_tape_here","_law_web_here"]
abbrev IZ:List PySem.Str:=["thing","least","most"]
abbrev Wf:List PySem.Str:=["_law_desk","_law_web_here","_law_labels","_law_others"]
abbrev IU:List PySem.Str:=["word","least","most"]
abbrev QU:List PySem.Str:=["at","words","k","least","most"]
abbrev EW:List PySem.Str:=["web","labels"]
abbrev NC:List PySem.Str:=["here","there","other"]
abbrev N2:List PySem.Str:=["_law_tape_here","_law_n"]
abbrev RS:List PySem.Str:=["_law_web_here","_law_labels"]
abbrev Ea:List PySem.Str:=["one","other"]
abbrev RK:List PySem.Str:=["rows","ranks","hub","place"]
abbrev IY:List PySem.Str:=["self","word","at"]
abbrev RM:List PySem.Str:=["keeper","word","numbers"]
abbrev Ny:List PySem.Str:=["at","words","count"]
abbrev Mz:List PySem.Str:=["labels","places"]
abbrev UQ:List PySem.Str:=["web","rows","ranks","place"]
abbrev Ua:List PySem.Str:=["web","rows","place","hub"]
abbrev PY:List PySem.Str:=["here","there","long"]
abbrev Rn:List PySem.Str:=["ahead","hub","parts"]
abbrev Lo:List PySem.Str:=["thing","count"]
abbrev DL:List PySem.Str:=["labels"]
abbrev II:List PySem.Str:=["_law_script"]
abbrev IF:List PySem.Str:=["web","place"]
abbrev UW:List PySem.Str:=["n","hub","long","parts"]
abbrev Qt:List PySem.Str:=["web","one","there"]
abbrev Pm:List PySem.Str:=["at","line","first"]
abbrev OA:List PySem.Str:=["order","places"]
abbrev Tu:List PySem.Str:=["n","ahead","at","line"]
abbrev N1:List PySem.Str:=["word","numbers"]
abbrev JV:List PySem.Str:=["self","row"]
abbrev UR:List PySem.Str:=["rows","places","one"]
abbrev DM:List PySem.Str:=["label"]
abbrev CY:List PySem.Str:=["self"]
abbrev QE:List PySem.Str:=["places","entry"]
abbrev QC:List PySem.Str:=["label","places"]
abbrev Xd:List PySem.Str:=["hub","long","up","down"]
abbrev Nx:List PySem.Str:=["web","order"]
abbrev D0:List PySem.Str:=["entry"]
abbrev Ue:List PySem.Str:=["n","ahead","word"]
abbrev MW:List PySem.Str:=["word","at"]
abbrev EZ:List PySem.Str:=["place"]
abbrev Qk:List PySem.Str:=["places","tie"]
abbrev Rf:List PySem.Str:=["self","lines"]
abbrev Qy:List PySem.Str:=["web","start"]
abbrev Ez:List PySem.Str:=["lines"]
abbrev HN:List PySem.Str:=["number"]
abbrev UJ:List PySem.Str:=["n","at","line"]
abbrev GV:List PySem.Str:=["thing"]
abbrev Mj:List PySem.Str:=["waiting"]
abbrev LW:List PySem.Str:=["entries"]
abbrev Df:List PySem.Str:=["web"]
namespace L2
open PySem PySem.Spec PyProof.Rows
meta def defArgs (s:Stmt):Arguments:=match s with
 | .FunctionDef _ a _ _ _ _ _ _ _ _=>a
 | _=>{ posonlyargs:=[],args:=[],vararg:=none,kwonlyargs:=[],kw_defaults:=[],kwarg:=none,defaults:=[] }
meta def defBody (s:Stmt):List Stmt:=match s with
 | .FunctionDef _ _ b _ _ _ _ _ _ _=>b
 | _=>[]
meta def defScope (s:Stmt):Scope:=match s with
 | .FunctionDef _ _ _ _ _ _ sc _ _ _=>sc
 | _=>{ kind:=.function,names:=[],isGenerator:=false,isCoroutine:=false }
end L2
namespace L2
section
open PySem PySem.W PyProof.Rows
def Tq (p:Program)(w:World)(o:Nat)(ann:Option Value):Nat->SharedT->Thread->Option SharedT
 | 0,_,_=>none
 | n+1,s,t=>match through t with
  | true=>some s
  | false=>match Fast.tw6613529449190102663 o ann t with
   | false=>none
   | true=>match Fast.tw10156331382660048174 (Fast.tw11892475500146522536 Fast.tw14364793385576792824) p w s t with
    | some (s',t')=>Tq p w o ann n s' t'
    | none=>none
def az :∀{n:Nat}{s s':SharedT}{t:Thread},Tq p w n₀ ann n s t=some s'->topRun treeTable p w n₀ ann n s.abs t=some s'.abs
 | 0,_,_,_,h=>by cases h
 | n+1,s,s',t,h=>by
  unfold Tq at h;rw[<-Fast.te6613529449190102663,<-Fast.te10156331382660048174,<-Fast.te11892475500146522536,<-Fast.te14364793385576792824] at h;unfold topRun;cases he:through t with
  | true=>rw[he] at h;cases h;rfl
  | false=>
   rw[he] at h;cases J:stepOk n₀ ann t with
   | false=>rw[J] at h;cases h
   | true=>
    rw[J] at h;cases o:stepT (denote treeTable) p w s t with
    | none=>rw[o] at h;cases h
    | some r=>let{I,C}:=r;rw[o] at h;rw[stepT_spec o];show az h
meta def bt:List Obj->Nat->BT->BT
 | [],_,t=>t
 | o::l,i,t=>bt l (i+1) (t.ins i o)
def bT (P:Params):BT:=bt (boot_heap P).objs.toList 0 .nil
def bS (w:World)(os:OsState):SharedT:={bT w.params,(boot_heap w.params).objs.size,(boot_heap w.params).life,Array.mk [],boot_drawn,boot_toks,os}
def bA (w)(os:OsState):(bS w os).abs={boot_heap w.params,Array.mk [],boot_drawn,boot_toks,os}:=by kernel_rfl
abbrev Xg (p:Program)(N:Nat)(w:World)(os:OsState):Option SharedT:=Tq p w (boot_heap w.params).objs.size ((boot_heap w.params).nsMap mainGlobals "__annotations__") N (bS w os) (topStub p)
meta abbrev RU (p:Program)(h h':Heap)(s:Shared):Bool:=staticsOk (importedModules p.main.body) h h' && namesBound p h' && gensDone s && laidKept h h'
def left_of (e:opening p=plainProg p.main.scope.names)(o:Nat.ble 600 N=true)(f:∀s,fenceModules? p s=some s)
 (h:∀w os,(Xg p N w os).map (λs=>(RU p (boot_heap w.params) s.abs.heap s.abs,Fast.tw4187177175401517315 q loose (importedModules p.main.body) Xt true s.abs,Yf s.abs))=some (true,openGood q loose,Ya w)):LeftO p q loose Xt Yf Ya N:=by
 intro w;let{{h0,C,d,k,os},J,I}:=Option.map_eq_some_iff.mp (boot_open e o f w);obtain⟨rfl,rfl,rfl,rfl⟩:h0=boot_heap w.params/\C=Array.mk []/\d=boot_drawn/\k=boot_toks:=by simpa using I
 let{s,r,a}:=Option.map_eq_some_iff.mp (h w os);let{b,a}:=Prod.mk.inj a;rw[<-Fast.te4187177175401517315] at a;let y:=az r;rw[bA] at y;unfold openEnds;rw[J];change (topFrom treeTable p w N _).map _=_;unfold topFrom;let z:((boot_heap w.params).isNs mainGlobals && (Array.mk []:Array GenState).size==0)=true:=by kernel_rfl
 dsimp only;rw[z];dsimp only;rw[y];change Option.map _ (match RU p (boot_heap w.params) s.abs.heap s.abs with | true=>some s.abs | false=>none)=_
 rw[b];show congrArg some a
end
end L2
namespace K93
open PySem L2
meta def top (i:Nat):Stmt:=PySem.Challenge.pw_labelways_k93_whole_lines_and_parts.main.body.getD i (.Pass ⟨0,0,0,0⟩)
meta def mth (k i:Nat):Stmt:=match top k with
 | .ClassDef _ _ _ body ..=>body.getD i (.Pass ⟨0,0,0,0⟩)
 | _=>.Pass ⟨0,0,0,0⟩
meta abbrev sT:String->Str:=Str.ofString
meta abbrev kH:=PyData.keyHash
meta abbrev dE:=DictEntry.mk
meta abbrev vS:=Value.str
meta abbrev vI:=Value.int
meta abbrev vR:=Value.ref
meta abbrev vB:=Value.bool
meta abbrev vN:Value:=Value.none
meta abbrev vT:=Value.type
meta abbrev oM:=Obj.mk
meta abbrev cQ (x:Array Value):Obj:=oM (vT "code") .none (.fields x) #[]
meta abbrev fQ (x:FuncData):Obj:=oM (vT "function") .none (.func x) #[]
meta abbrev fT (x:String)(i:Nat)(m:Value)(c:Nat):Obj:=fQ (.mk (sT x) (sT x) (L2.defArgs (top i)) (FuncBody.stmts (L2.defBody (top i))) (L2.defScope (top i)) 3 [] vN vN vN m .none (vR c) vN 0)
meta abbrev qS (x:String)(n:Nat):Value:=vS (sT x) n
meta abbrev qC (n:Nat):Value:=qS "/claim/cut.py" n
meta abbrev cA (x:String)(a:Nat)(l q:Int)(p:Nat)(n:Int)(m:Nat):Obj:=cQ #[qS x a,qS x (a+1),qC (a+2),vI l 0,vI q 0,vI 0 0,vI 0 0,vI 3 0,vR p,vB true,vI 181 0,vR (p+1),vN,vR (p+2),vR (p+3),vR (p+4),vI n 0,vI l 0,qC m]
meta abbrev cB (x:String)(a:Nat)(l q:Int)(p:Nat)(n:Int)(m:Nat):Obj:=cQ #[qS x a,qS x (a+1),qC (a+2),vI l 0,vI q 0,vI 0 0,vI 0 0,vI 3 0,vR p,vB true,vI 181 0,vR (p+1),vN,vN,vN,vR (p+2),vI n 0,vI l 0,qC m]
meta abbrev B0:=qS "labelways.labeltexts" 872
meta abbrev CW:=qS "labelways.checker" 616
meta abbrev CU:=qS "labelways.webtexts" 960
meta abbrev Cy:=qS "labelways.kinds" 325
meta abbrev Cw:=qS "labelways.parts" 478
meta abbrev Cz:=qS "labelways.labels" 532
meta abbrev Dx:=qS "labelways.desk" 1048
meta abbrev EX:=qS "labelways.lengths" 427
meta abbrev GZ:=qS "labelways.orders" 701
meta abbrev L4:=qS "labelways.keeper" 745
meta abbrev HG:=qS "labelways.errors" 187
meta abbrev HV:=qS "labelways.webs" 389
meta abbrev qL:=qS "law_labelways_k93_whole_lines_and_parts" 1155
meta abbrev kE (P:Params)(x:String)(n:Nat):Value->DictEntry:=dE (kH P (sT x)) (qS x n)
meta def Kf:Params->PySem.W.Frag:=λP=>[
(2,oM vN .none (Data.dict #[]) #[]),
(3,oM (vT "dict") .none (Data.dict #[kE P "__name__" 165 qL,kE P "__doc__" 166 vN,kE P "__package__" 167 vN,kE P "__loader__" 168 (Value.builtin "__main__.__loader__#opaque"),kE P "__spec__" 169 vN,kE P "__annotations__" 170 (vR 6),kE P "__builtins__" 171 (vR 4),kE P "__file__" 173 (qC 172),kE P "__cached__" 174 vN,kE P "WayError" 206 (vR 24),kE P "NoLabels" 233 (vR 44),kE P "NoText" 260 (vR 63),kE P "NoOrder" 276 (vR 75),kE P "NoTie" 292 (vR 87),kE P "NoPart" 308 (vR 99),kE P "NoRow" 324 (vR 111),kE P "FIGURES" 328 (qS "0123456789" 327),kE P "is_number" 335 (vR 120),kE P "is_within" 344 (vR 127),kE P "is_tuple_of" 352 (vR 134),kE P "is_rising" 358 (vR 139),kE P "is_place" 366 (vR 146),kE P "are_places" 372 (vR 151),kE P "number_in" 382 (vR 158),kE P "is_written" 388 (vR 163),kE P "MOST_PLACES" 392 (vI 24 391),kE P "MOST_TIES" 394 (vI 60 393),kE P "MOST_LONG" 396 (vI 99 395),kE P "is_long" 403 (vR 170),kE P "ties_at" 415 (vR 177),kE P "long_of" 426 (vR 184),kE P "lengths" 434 (vR 189),kE P "lengths_from" 448 (vR 196),kE P "nearest" 456 (vR 203),kE P "between" 465 (vR 210),kE P "between_rows" 471 (vR 215),kE P "next_by_row" 477 (vR 220),kE P "is_part" 485 (vR 225),kE P "holds_ways_from" 491 (vR 230),kE P "part_web" 497 (vR 235),kE P "new_tie" 505 (vR 242),kE P "part_order" 511 (vR 247),kE P "cut_down" 517 (vR 252),kE P "cut_label" 523 (vR 257),kE P "new_entry" 531 (vR 264),kE P "is_label" 539 (vR 269),kE P "is_entry" 547 (vR 276),kE P "are_labels" 553 (vR 281),kE P "own_place" 559 (vR 286),kE P "told" 567 (vR 293),kE P "told_hub" 575 (vR 300),kE P "least_sum" 581 (vR 305),kE P "entry_of" 590 (vR 312),kE P "far_entries" 596 (vR 317),kE P "next_step" 605 (vR 324),kE P "walk" 615 (vR 331),kE P "lets_labels" 625 (vR 338),kE P "refuse_at" 633 (vR 345),kE P "own_fault" 642 (vR 352),kE P "up_fault" 652 (vR 359),kE P "is_up_right" 664 (vR 366),kE P "tie_fault" 670 (vR 371),kE P "grows_too_much" 679 (vR 378),kE P "down_fault" 689 (vR 385),kE P "is_down_right" 700 (vR 392),kE P "is_order" 708 (vR 397),kE P "by_order" 714 (vR 402),kE P "label_by_ranks" 720 (vR 407),kE P "is_hub" 726 (vR 412),kE P "entry_by_rows" 738 (vR 419),kE P "total" 744 (vR 424),kE P "Keeper" 835 (vR 488),kE P "with_tie" 846 (vR 499),kE P "without_tie" 856 (vR 506),kE P "pair_of" 865 (vR 513),kE P "ties_but" 871 (vR 518),kE P "MOST_WRITTEN_LONG" 875 (vI 999999999999 874),kE P "label_lines" 881 (vR 523),kE P "label_line" 887 (vR 528),kE P "entry_word" 893 (vR 533),kE P "number_word" 900 (vR 540),kE P "read_labels" 906 (vR 545),kE P "read_label" 920 (vR 552),kE P "entry_in" 932 (vR 559),kE P "own_entry" 941 (vR 566),kE P "far_entry" 953 (vR 573),kE P "has_own_place" 959 (vR 578),kE P "web_lines" 967 (vR 583),kE P "read_web" 978 (vR 590),kE P "read_count" 987 (vR 597),kE P "read_tie" 1001 (vR 604),kE P "least_a" 1008 (vR 611),kE P "least_b" 1016 (vR 618),kE P "words_of" 1026 (vR 625),kE P "number_at" 1038 (vR 632),kE P "refuse_more" 1047 (vR 639),kE P "CHECK" 1051 (qS "check " 1050),kE P "MOST_IN_A_ROW" 1053 (vI 9999 1052),kE P "COUNTS" 1078 (vR 640),kE P "Desk" 1118 (vR 664),kE P "checked" 1128 (vR 675),kE P "numbers_behind" 1134 (vR 680),kE P "is_row" 1142 (vR 687),kE P "answer" 1148 (vR 692),kE P "places_line" 1154 (vR 697),kE P "_law_tape" 1163 (vR 704),kE P "_law_draw" 1175 (vR 711),kE P "_law_web" 1181 (vR 716),kE P "_law_order" 1192 (vR 723),kE P "_law_part" 1198 (vR 728),kE P "_law_part_right" 1214 (vR 735),kE P "_law_word" 1224 (vR 742),kE P "_law_desk_right" 1236 (vR 749),kE P "law" 1242 (vR 754)] 114) #[]),
(23,oM (vT "dict") .none (Data.dict #[kE P "__module__" 196 HG,kE P "__firstlineno__" 200 (vI 2 199),kE P "__static_attributes__" 201 (vR 22),kE P "__weakref__" 203 (vR 25),kE P "__doc__" 204 vN] 3) #[]),
(24,oM (vT "type") .none (Data.cls (ClassData.mk (sT "WayError") [vT "ValueError"] [vR 24,vT "ValueError",vT "Exception",vT "BaseException",vT "object"] 23 (sT "WayError") true [] [vR 44,vR 63,vR 75,vR 87,vR 99,vR 111] false .none false)) #[.some (vR 15),.none,.some (qS "WayError" 189),.some (qS "WayError" 197),.some (Value.builtin "ValueError.__new__"),.some (vB true)]),
(25,oM (vT "getset_descriptor") .none (Data.fields #[qS "__weakref__" 202,vR 24,Value.builtin "ExceptionGroup.__weakref__",vN]) #[]),
(40,cQ #[qS "__init__" 219,qS "NoLabels.__init__" 220,qC 221,vI 6 0,vI 3 0,vI 0 0,vI 0 0,vI 3 0,vR 35,vB true,vI 181 0,vR 36,vN,vR 37,vR 38,vR 39,vI 225 0,vI 6 0,qC 226]),
(41,fQ (.mk (sT "__init__") (sT "NoLabels.__init__") (L2.defArgs (mth 2 0)) (FuncBody.stmts (L2.defBody (mth 2 0))) (L2.defScope (mth 2 0)) 3 [] vN vN vN HG .none (vR 40) vN 0)),
(43,oM (vT "dict") .none (Data.dict #[kE P "__module__" 214 HG,kE P "__firstlineno__" 218 (vI 4 217),kE P "__init__" 227 (vR 41),kE P "__static_attributes__" 230 (vR 42),kE P "__doc__" 231 vN] 2) #[]),
(44,oM (vT "type") .none (Data.cls (ClassData.mk (sT "NoLabels") [vR 24] [vR 44,vR 24,vT "ValueError",vT "Exception",vT "BaseException",vT "object"] 43 (sT "NoLabels") true [] [] false .none false)) #[.some (vR 28),.none,.some (qS "NoLabels" 207),.some (qS "NoLabels" 215),.some (Value.builtin "ValueError.__new__"),.some (vB true)]),
(119,cA "is_number" 329 24 1 114 333 334),
(120,fT "is_number" 10 Cy 119),
(126,cA "is_within" 336 26 3 121 342 343),
(127,fT "is_within" 11 Cy 126),
(133,cA "is_tuple_of" 345 28 2 128 350 351),
(134,fT "is_tuple_of" 12 Cy 133),
(138,cB "is_rising" 353 30 1 135 356 357),
(139,fT "is_rising" 13 Cy 138),
(145,cA "is_place" 359 32 2 140 364 365),
(146,fT "is_place" 14 Cy 145),
(150,cB "are_places" 367 34 2 147 370 371),
(151,fT "are_places" 15 Cy 150),
(157,cA "number_in" 373 38 3 152 380 381),
(158,fT "number_in" 16 Cy 157),
(162,cB "is_written" 383 43 1 159 386 387),
(163,fT "is_written" 17 Cy 162),
(176,cA "ties_at" 404 53 2 171 413 414),
(177,fT "ties_at" 23 HV 176),
(183,cA "long_of" 416 61 3 178 424 425),
(184,fT "long_of" 24 HV 183),
(188,cB "lengths" 429 67 1 185 432 433),
(189,fT "lengths" 26 EX 188),
(195,cA "lengths_from" 435 69 2 190 446 447),
(196,fT "lengths_from" 27 EX 195),
(202,cA "nearest" 449 80 1 197 454 455),
(203,fT "nearest" 28 EX 202),
(209,cA "between" 457 82 3 204 463 464),
(210,fT "between" 29 EX 209),
(214,cB "between_rows" 466 84 3 211 469 470),
(215,fT "between_rows" 30 EX 214),
(219,cB "next_by_row" 472 89 3 216 475 476),
(220,fT "next_by_row" 31 EX 219),
(224,cB "is_part" 480 94 2 221 483 484),
(225,fT "is_part" 33 Cw 224),
(229,cB "holds_ways_from" 486 99 3 226 489 490),
(230,fT "holds_ways_from" 34 Cw 229),
(234,cB "part_web" 492 104 2 231 495 496),
(235,fT "part_web" 35 Cw 234),
(241,cA "new_tie" 498 109 2 236 503 504),
(242,fT "new_tie" 36 Cw 241),
(246,cB "part_order" 506 111 2 243 509 510),
(247,fT "part_order" 37 Cw 246),
(251,cB "cut_down" 512 113 2 248 515 516),
(252,fT "cut_down" 38 Cw 251),
(256,cB "cut_label" 518 115 2 253 521 522),
(257,fT "cut_label" 39 Cw 256),
(263,cA "new_entry" 524 117 2 258 529 530),
(264,fT "new_entry" 40 Cw 263),
(268,cB "is_label" 534 122 2 265 537 538),
(269,fT "is_label" 42 Cz 268),
(275,cA "is_entry" 540 129 2 270 545 546),
(276,fT "is_entry" 43 Cz 275),
(280,cB "are_labels" 548 137 2 277 551 552),
(281,fT "are_labels" 44 Cz 280),
(285,cB "own_place" 554 139 1 282 557 558),
(286,fT "own_place" 45 Cz 285),
(292,cA "told" 560 141 2 287 565 566),
(293,fT "told" 46 Cz 292),
(304,cB "least_sum" 576 145 2 301 579 580),
(305,fT "least_sum" 48 Cz 304),
(311,cA "entry_of" 582 149 2 306 588 589),
(312,fT "entry_of" 49 Cz 311),
(316,cB "far_entries" 591 154 1 313 594 595),
(317,fT "far_entries" 50 Cz 316),
(337,cA "lets_labels" 618 174 2 332 623 624),
(338,fT "lets_labels" 54 CW 337),
(344,cA "refuse_at" 626 182 2 339 631 632),
(345,fT "refuse_at" 55 CW 344),
(351,cA "own_fault" 634 185 1 346 640 641),
(352,fT "own_fault" 56 CW 351),
(358,cA "up_fault" 643 190 2 353 650 651),
(359,fT "up_fault" 57 CW 358),
(365,cA "is_up_right" 653 195 4 360 662 663),
(366,fT "is_up_right" 58 CW 365),
(370,cB "tie_fault" 665 199 2 367 668 669),
(371,fT "tie_fault" 59 CW 370),
(377,cA "grows_too_much" 671 207 3 372 677 678),
(378,fT "grows_too_much" 60 CW 377),
(384,cA "down_fault" 680 211 2 379 687 688),
(385,fT "down_fault" 61 CW 384),
(391,cA "is_down_right" 690 216 4 386 698 699),
(392,fT "is_down_right" 62 CW 391),
(396,cB "is_order" 703 220 2 393 706 707),
(397,fT "is_order" 64 GZ 396),
(401,cB "by_order" 709 225 2 398 712 713),
(402,fT "by_order" 65 GZ 401),
(406,cB "label_by_ranks" 715 231 4 403 718 719),
(407,fT "label_by_ranks" 66 GZ 406),
(411,cB "is_hub" 721 234 4 408 724 725),
(412,fT "is_hub" 67 GZ 411),
(418,cA "entry_by_rows" 727 238 4 413 736 737),
(419,fT "entry_by_rows" 68 GZ 418),
(437,cQ #[qS "__init__" 759,qS "Keeper.__init__" 760,qC 761,vI 247 0,vI 3 0,vI 0 0,vI 0 0,vI 3 0,vR 432,vB true,vI 181 0,vR 433,vN,vR 434,vR 435,vR 436,vI 765 0,vI 247 0,qC 766]),
(438,fQ (.mk (sT "__init__") (sT "Keeper.__init__") (L2.defArgs (mth 71 0)) (FuncBody.stmts (L2.defBody (mth 71 0))) (L2.defScope (mth 71 0)) 3 [] vN vN vN L4 .none (vR 437) vN 0)),
(463,cQ #[qS "web_now" 793,qS "Keeper.web_now" 794,qC 795,vI 264 0,vI 1 0,vI 0 0,vI 0 0,vI 3 0,vR 458,vB true,vI 181 0,vR 459,vN,vR 460,vR 461,vR 462,vI 797 0,vI 264 0,qC 798]),
(464,fQ (.mk (sT "web_now") (sT "Keeper.web_now") (L2.defArgs (mth 71 4)) (FuncBody.stmts (L2.defBody (mth 71 4))) (L2.defScope (mth 71 4)) 3 [] vN vN vN L4 .none (vR 463) vN 0)),
(470,cQ #[qS "labels_now" 800,qS "Keeper.labels_now" 801,qC 802,vI 267 0,vI 1 0,vI 0 0,vI 0 0,vI 3 0,vR 465,vB true,vI 181 0,vR 466,vN,vR 467,vR 468,vR 469,vI 804 0,vI 267 0,qC 805]),
(471,fQ (.mk (sT "labels_now") (sT "Keeper.labels_now") (L2.defArgs (mth 71 5)) (FuncBody.stmts (L2.defBody (mth 71 5))) (L2.defScope (mth 71 5)) 3 [] vN vN vN L4 .none (vR 470) vN 0)),
(487,oM (vT "dict") .none (Data.dict #[kE P "__module__" 754 L4,kE P "__firstlineno__" 758 (vI 245 757),kE P "__init__" 767 (vR 438),kE P "put" 777 (vR 445),kE P "strike" 786 (vR 452),kE P "turn_to" 792 (vR 457),kE P "web_now" 799 (vR 464),kE P "labels_now" 806 (vR 471),kE P "length_of" 815 (vR 478),kE P "step_of" 824 (vR 485),kE P "__static_attributes__" 828 (vR 486),kE P "__dict__" 830 (vR 489),kE P "__weakref__" 832 (vR 490),kE P "__doc__" 833 vN] 4) #[]),
(488,oM (vT "type") .none (Data.cls (ClassData.mk (sT "Keeper") [vT "object"] [vR 488,vT "object"] 487 (sT "Keeper") true [] [] false .none false)) #[.none,.none,.some (qS "Keeper" 747),.some (qS "Keeper" 755),.some (Value.builtin "object.__new__"),.some (vB true)]),
(489,oM (vT "getset_descriptor") .none (Data.fields #[qS "__dict__" 829,vR 488,Value.builtin "function.__dict__",Value.builtin "function.__dict__#set"]) #[]),
(490,oM (vT "getset_descriptor") .none (Data.fields #[qS "__weakref__" 831,vR 488,Value.builtin "ExceptionGroup.__weakref__",vN]) #[]),
(522,cB "label_lines" 876 295 1 519 879 880),
(523,fT "label_lines" 78 B0 522),
(527,cB "label_line" 882 297 1 524 885 886),
(528,fT "label_line" 79 B0 527),
(532,cB "entry_word" 888 299 1 529 891 892),
(533,fT "entry_word" 80 B0 532),
(539,cA "number_word" 894 301 1 534 898 899),
(540,fT "number_word" 81 B0 539),
(544,cB "read_labels" 901 303 1 541 904 905),
(545,fT "read_labels" 82 B0 544),
(551,cA "read_label" 907 307 3 546 918 919),
(552,fT "read_label" 83 B0 551),
(558,cA "entry_in" 921 320 3 553 930 931),
(559,fT "entry_in" 84 B0 558),
(565,cA "own_entry" 933 331 3 560 939 940),
(566,fT "own_entry" 85 B0 565),
(572,cA "far_entry" 942 335 4 567 951 952),
(573,fT "far_entry" 86 B0 572),
(577,cB "has_own_place" 954 341 1 574 957 958),
(578,fT "has_own_place" 87 B0 577),
(582,cB "web_lines" 962 344 1 579 965 966),
(583,fT "web_lines" 89 CU 582),
(589,cA "read_web" 968 347 1 584 976 977),
(590,fT "read_web" 90 CU 589),
(596,cA "read_count" 979 357 1 591 985 986),
(597,fT "read_count" 91 CU 596),
(603,cA "read_tie" 988 362 4 598 999 1000),
(604,fT "read_tie" 92 CU 603),
(610,cA "least_a" 1002 369 1 605 1006 1007),
(611,fT "least_a" 93 CU 610),
(617,cA "least_b" 1009 371 2 612 1014 1015),
(618,fT "least_b" 94 CU 617),
(624,cA "words_of" 1017 375 3 619 1024 1025),
(625,fT "words_of" 95 CU 624),
(631,cA "number_at" 1027 380 5 626 1036 1037),
(632,fT "number_at" 96 CU 631),
(638,cA "refuse_more" 1039 385 3 633 1045 1046),
(639,fT "refuse_more" 97 CU 638),
(640,oM (vT "dict") .none (Data.dict #[kE P "put" 1054 (vI 3 1055),kE P "strike" 1056 (vI 2 1057),kE P "told" 1058 (vI 2 1059),kE P "step" 1060 (vI 2 1061),kE P "walk" 1062 (vI 2 1063),kE P "label" 1064 (vI 1 1065),kE P "total" 1066 (vI 0 1067),kE P "web" 1068 (vI 0 1069)] 8) #[]),
(653,cQ #[qS "__init__" 1091,qS "Desk.__init__" 1092,qC 1093,vI 394 0,vI 2 0,vI 0 0,vI 0 0,vI 3 0,vR 648,vB true,vI 181 0,vR 649,vN,vR 650,vR 651,vR 652,vI 1097 0,vI 394 0,qC 1098]),
(654,fQ (.mk (sT "__init__") (sT "Desk.__init__") (L2.defArgs (mth 102 0)) (FuncBody.stmts (L2.defBody (mth 102 0))) (L2.defScope (mth 102 0)) 3 [] vN vN vN Dx .none (vR 653) vN 0)),
(660,cQ #[qS "say" 1100,qS "Desk.say" 1101,qC 1102,vI 398 0,vI 2 0,vI 0 0,vI 0 0,vI 3 0,vR 655,vB true,vI 181 0,vR 656,vN,vR 657,vR 658,vR 659,vI 1107 0,vI 398 0,qC 1108]),
(661,fQ (.mk (sT "say") (sT "Desk.say") (L2.defArgs (mth 102 1)) (FuncBody.stmts (L2.defBody (mth 102 1))) (L2.defScope (mth 102 1)) 3 [] vN vN vN Dx .none (vR 660) vN 0)),
(663,oM (vT "dict") .none (Data.dict #[kE P "__module__" 1086 Dx,kE P "__firstlineno__" 1090 (vI 392 1089),kE P "__init__" 1099 (vR 654),kE P "say" 1109 (vR 661),kE P "__static_attributes__" 1111 (vR 662),kE P "__dict__" 1113 (vR 665),kE P "__weakref__" 1115 (vR 666),kE P "__doc__" 1116 vN] 4) #[]),
(664,oM (vT "type") .none (Data.cls (ClassData.mk (sT "Desk") [vT "object"] [vR 664,vT "object"] 663 (sT "Desk") true [] [] false .none false)) #[.none,.none,.some (qS "Desk" 1079),.some (qS "Desk" 1087),.some (Value.builtin "object.__new__"),.some (vB true)]),
(665,oM (vT "getset_descriptor") .none (Data.fields #[qS "__dict__" 1112,vR 664,Value.builtin "function.__dict__",Value.builtin "function.__dict__#set"]) #[]),
(666,oM (vT "getset_descriptor") .none (Data.fields #[qS "__weakref__" 1114,vR 664,Value.builtin "ExceptionGroup.__weakref__",vN]) #[]),
(674,cA "checked" 1119 407 2 669 1126 1127),
(675,fT "checked" 103 Dx 674),
(679,cB "numbers_behind" 1129 414 1 676 1132 1133),
(680,fT "numbers_behind" 104 Dx 679),
(686,cA "is_row" 1135 419 2 681 1140 1141),
(687,fT "is_row" 105 Dx 686),
(691,cB "answer" 1143 425 3 688 1146 1147),
(692,fT "answer" 106 Dx 691),
(703,cA "_law_tape" 1157 446 1 698 1161 1162),
(704,fT "_law_tape" 109 qL 703),
(710,cA "_law_draw" 1164 448 2 705 1173 1174),
(711,fT "_law_draw" 110 qL 710),
(715,cB "_law_web" 1176 461 2 712 1179 1180),
(716,fT "_law_web" 111 qL 715),
(722,cA "_law_order" 1182 473 2 717 1190 1191),
(723,fT "_law_order" 112 qL 722),
(727,cB "_law_part" 1193 479 2 724 1196 1197),
(728,fT "_law_part" 113 qL 727),
(734,cA "_law_part_right" 1199 490 4 729 1212 1213),
(735,fT "_law_part_right" 114 qL 734),
(741,cA "_law_word" 1215 504 2 736 1222 1223),
(742,fT "_law_word" 115 qL 741),
(748,cA "_law_desk_right" 1225 511 4 743 1234 1235),
(749,fT "_law_desk_right" 116 qL 748),
(753,cB "law" 1237 519 1 750 1240 1241),
(754,fT "law" 117 qL 753)]
meta def Ka:List Addr:=[2,3,23,24,25,40,41,43,44,119,120,126,127,133,134,138,139,145,146,150,151,157,158,162,163,176,177,183,184,188,189,195,196,202,203,209,210,214,215,219,220,224,225,229,230,234,235,241,242,246,247,251,252,256,257,263,264,268,269,275,276,280,281,285,286,292,293,304,305,311,312,316,317,337,338,344,345,351,352,358,359,365,366,370,371,377,378,384,385,391,392,396,397,401,402,406,407,411,412,418,419,437,438,463,464,470,471,487,488,489,490,522,523,527,528,532,533,539,540,544,545,551,552,558,559,565,566,572,573,577,578,582,583,589,590,596,597,603,604,610,611,617,618,624,625,631,632,638,639,640,653,654,660,661,663,664,665,666,674,675,679,680,686,687,691,692,703,704,710,711,715,716,722,723,727,728,734,735,741,742,748,749,753,754]
meta abbrev pw:Program:=PySem.Challenge.pw_labelways_k93_whole_lines_and_parts
meta def Vp:Program:={ pw with main:={ pw.main with body:=[top 1,top 2,top 3,top 4,top 5,top 6,top 7,top 9,top 10,top 11,top 12,top 13,top 14,top 15,top 16,top 17,top 19,top 20,top 21,top 22,top 23,top 24,top 26,top 27,top 28,top 29,top 30,top 31,top 33,top 34,top 35,top 36,top 37,top 38,top 39,top 40,top 42,top 43,top 44,top 45,top 46,top 47,top 48,top 49,top 50,top 51,top 52,top 54,top 55,top 56,top 57,top 58,top 59,top 60,top 61,top 62,top 64,top 65,top 66,top 67,top 68,top 69,top 71,top 72,top 73,top 74,top 75,top 77,top 78,top 79,top 80,top 81,top 82,top 83,top 84,top 85,top 86,top 87,top 89,top 90,top 91,top 92,top 93,top 94,top 95,top 96,top 97,top 99,top 100,top 101,top 102,top 103,top 104,top 105,top 106,top 107,top 109,top 110,top 111,top 112,top 113,top 114,top 115,top 116,top 117] } }
meta abbrev RR:PySem.W.RowW:=PySem.W.OpenRow.toRowW (PySem.Challenge.rw_labelways_k93_whole_lines_and_parts).row
meta abbrev LZ:List Str:=["COUNTS"]
def Ke:∀P,Ka=(Kf P).map (·.1):=λP=>by kernel_rfl
abbrev HK:PySem.W.Hook:=PySem.W.kHook Kf Ka Ke
def fin_ {A B C D E F G I J:Type}{α β U:Type}{o:Option α}{T:α->A×B×C×D×E×List F×G×I×J}{c:α->β}{h:α->U}{a b d e f g i j k y z}(p:o.map (λs=>((T s).1,(T s).2.1))=some (a,b))(q:o.map (λs=>(T s).2.2.1)=some d)(q2:o.map (λs=>(T s).2.2.2.1)=some e)(r:o.map (λs=>((T s).2.2.2.2.1,(T s).2.2.2.2.2.2.2))=some (f,(j,k)))(u:o.map (fun s=>(T s).2.2.2.2.2.1)=some g)(u2:o.map (λs=>(T s).2.2.2.2.2.2.1)=some i)(v:o.map (λs=>(c s,h s))=some (y,z)):o.map (λs=>(c s,T s,h s))=some (y,(a,b,d,e,f,g,i,j,k),z):=by
 cases o with
 | none=>cases p
 | some s=>
  let e2:(T s).2.2.2.2.2.2.2=(j,k):=congrArg Prod.snd (Option.some.inj r)
  let e3:(T s).2.2.2.2.2.1=g:=Option.some.inj u
  cases p;cases q;cases q2;cases u2;cases v
  let e1:(T s).2.2.2.2.1=f:=congrArg Prod.fst (Option.some.inj r)
  rw [← e1,← e2,← e3];rfl
section
open PySem PySem.W PyProof.Rows
abbrev F_ (b:Bool)(w:World):World:=w.withFollow "special-get-raises" b
abbrev TT_ (s:SharedT):=Fast.tw4187177175401517315 Vp LZ (importedModules pw.main.body) (λs=>xlAt Vp [] s && recOk (RowW.records RR) s) true s.abs
theorem l1_f (w:World)(os:OsState):(L2.Xg pw 10400 (F_ false w) os).map (fun s=>((TT_ s).1,(TT_ s).2.1))=some (expectedOf Vp,bltViewBooted):=by kernel_rfl
theorem l1_t (w:World)(os:OsState):(L2.Xg pw 10400 (F_ true w) os).map (fun s=>((TT_ s).1,(TT_ s).2.1))=some (expectedOf Vp,bltViewBooted):=by kernel_rfl
theorem l1_ (w:World):∀os,(L2.Xg pw 10400 w os).map (fun s=>((TT_ s).1,(TT_ s).2.1))=some (expectedOf Vp,bltViewBooted):=byRow2 "special-get-raises" (P:=fun w=>∀os,(L2.Xg pw 10400 w os).map (fun s=>((TT_ s).1,(TT_ s).2.1))=some (expectedOf Vp,bltViewBooted)) l1_f l1_t w
theorem l2_f (w:World)(os:OsState):(L2.Xg pw 10400 (F_ false w) os).map (fun s=>((TT_ s).2.2.1))=some (true):=by kernel_rfl
theorem l2_t (w:World)(os:OsState):(L2.Xg pw 10400 (F_ true w) os).map (fun s=>((TT_ s).2.2.1))=some (true):=by kernel_rfl
theorem l2_ (w:World):∀os,(L2.Xg pw 10400 w os).map (fun s=>((TT_ s).2.2.1))=some (true):=byRow2 "special-get-raises" (P:=fun w=>∀os,(L2.Xg pw 10400 w os).map (fun s=>((TT_ s).2.2.1))=some (true)) l2_f l2_t w
theorem l6_f (w:World)(os:OsState):(L2.Xg pw 10400 (F_ false w) os).map (fun s=>((TT_ s).2.2.2.1))=some (true):=by kernel_rfl
theorem l6_t (w:World)(os:OsState):(L2.Xg pw 10400 (F_ true w) os).map (fun s=>((TT_ s).2.2.2.1))=some (true):=by kernel_rfl
theorem l6_ (w:World):∀os,(L2.Xg pw 10400 w os).map (fun s=>((TT_ s).2.2.2.1))=some (true):=byRow2 "special-get-raises" (P:=fun w=>∀os,(L2.Xg pw 10400 w os).map (fun s=>((TT_ s).2.2.2.1))=some (true)) l6_f l6_t w
theorem l3_f (w:World)(os:OsState):(L2.Xg pw 10400 (F_ false w) os).map (fun s=>((TT_ s).2.2.2.2.1,(TT_ s).2.2.2.2.2.2.2))=some (pinGoodD (drecsOf Vp),(wideGood Vp,clsGoodW Vp LZ)):=by kernel_rfl
theorem l3_t (w:World)(os:OsState):(L2.Xg pw 10400 (F_ true w) os).map (fun s=>((TT_ s).2.2.2.2.1,(TT_ s).2.2.2.2.2.2.2))=some (pinGoodD (drecsOf Vp),(wideGood Vp,clsGoodW Vp LZ)):=by kernel_rfl
theorem l3_ (w:World):∀os,(L2.Xg pw 10400 w os).map (fun s=>((TT_ s).2.2.2.2.1,(TT_ s).2.2.2.2.2.2.2))=some (pinGoodD (drecsOf Vp),(wideGood Vp,clsGoodW Vp LZ)):=byRow2 "special-get-raises" (P:=fun w=>∀os,(L2.Xg pw 10400 w os).map (fun s=>((TT_ s).2.2.2.2.1,(TT_ s).2.2.2.2.2.2.2))=some (pinGoodD (drecsOf Vp),(wideGood Vp,clsGoodW Vp LZ))) l3_f l3_t w
theorem l4_f (w:World)(os:OsState):(L2.Xg pw 10400 (F_ false w) os).map (fun s=>Fast.tw2386780881361962483 Vp LZ s.abs)=some (plainGoodE Vp LZ):=by kernel_rfl
theorem l4_t (w:World)(os:OsState):(L2.Xg pw 10400 (F_ true w) os).map (fun s=>Fast.tw2386780881361962483 Vp LZ s.abs)=some (plainGoodE Vp LZ):=by kernel_rfl
theorem l4_ (w:World):∀os,(L2.Xg pw 10400 w os).map (fun s=>Fast.tw2386780881361962483 Vp LZ s.abs)=some (plainGoodE Vp LZ):=byRow2 "special-get-raises" (P:=fun w=>∀os,(L2.Xg pw 10400 w os).map (fun s=>Fast.tw2386780881361962483 Vp LZ s.abs)=some (plainGoodE Vp LZ)) l4_f l4_t w
theorem lz_:Fast.tw821141287760084731 Vp LZ=LZ:=by kernel_rfl
theorem ly_:looseW Vp LZ=LZ:=by kernel_rfl
theorem cg_ {α β:Type}{o:Option α}{f:List Str->α->β}{g:List Str->β}{L M N:List Str}(e:L=N)(e':M=N)(h:o.map (f N)=some (g N)):o.map (f L)=some (g M):=by subst e;subst e';exact h
theorem l9_ (w:World)(os:OsState):(L2.Xg pw 10400 w os).map (fun s=>Fast.tw2386780881361962483 Vp (Fast.tw821141287760084731 Vp LZ) s.abs)=some (plainGoodE Vp (looseW Vp LZ)):=@cg_ _ _ (L2.Xg pw 10400 w os) (fun L s=>Fast.tw2386780881361962483 Vp L s.abs) (fun L=>plainGoodE Vp L) (Fast.tw821141287760084731 Vp LZ) (looseW Vp LZ) LZ lz_ ly_ (l4_ w os)
theorem lx_:(fun s:SharedT=>(TT_ s).2.2.2.2.2.1)=fun s=>Fast.tw2386780881361962483 Vp (Fast.tw821141287760084731 Vp LZ) s.abs:=by kernel_rfl
theorem cf_ {α β:Type}{o:Option α}{f g:α->β}{y}(e:f=g)(h:o.map g=y):o.map f=y:=by subst e;exact h
theorem l8_ (w:World)(os:OsState):(L2.Xg pw 10400 w os).map (fun s=>(TT_ s).2.2.2.2.2.1)=some (plainGoodE Vp (looseW Vp LZ)):=@cf_ _ _ (L2.Xg pw 10400 w os) (fun s:SharedT=>(TT_ s).2.2.2.2.2.1) (fun s=>Fast.tw2386780881361962483 Vp (Fast.tw821141287760084731 Vp LZ) s.abs) (some (plainGoodE Vp (looseW Vp LZ))) lx_ (l9_ w os)
theorem l7_f (w:World)(os:OsState):(L2.Xg pw 10400 (F_ false w) os).map (fun s=>((TT_ s).2.2.2.2.2.2.1))=some (plainGoodD Vp LZ):=by kernel_rfl
theorem l7_t (w:World)(os:OsState):(L2.Xg pw 10400 (F_ true w) os).map (fun s=>((TT_ s).2.2.2.2.2.2.1))=some (plainGoodD Vp LZ):=by kernel_rfl
theorem l7_ (w:World):∀os,(L2.Xg pw 10400 w os).map (fun s=>((TT_ s).2.2.2.2.2.2.1))=some (plainGoodD Vp LZ):=byRow2 "special-get-raises" (P:=fun w=>∀os,(L2.Xg pw 10400 w os).map (fun s=>((TT_ s).2.2.2.2.2.2.1))=some (plainGoodD Vp LZ)) l7_f l7_t w
theorem l5_f (w:World)(os:OsState):(L2.Xg pw 10400 (F_ false w) os).map (fun s=>(L2.RU pw (boot_heap (F_ false w).params) s.abs.heap s.abs,Hook.obs HK s.abs))=some (true,Hook.val HK (F_ false w)):=by kernel_rfl
theorem l5_t (w:World)(os:OsState):(L2.Xg pw 10400 (F_ true w) os).map (fun s=>(L2.RU pw (boot_heap (F_ true w).params) s.abs.heap s.abs,Hook.obs HK s.abs))=some (true,Hook.val HK (F_ true w)):=by kernel_rfl
theorem l5_ (w:World):∀os,(L2.Xg pw 10400 w os).map (fun s=>(L2.RU pw (boot_heap w.params) s.abs.heap s.abs,Hook.obs HK s.abs))=some (true,Hook.val HK w):=byRow2 "special-get-raises" (P:=fun w=>∀os,(L2.Xg pw 10400 w os).map (fun s=>(L2.RU pw (boot_heap w.params) s.abs.heap s.abs,Hook.obs HK s.abs))=some (true,Hook.val HK w)) l5_f l5_t w
end
theorem left:PySem.W.LeftO pw Vp LZ (fun s=>PySem.W.xlAt Vp [] s && PySem.W.recOk (PySem.W.RowW.records RR) s) (PySem.W.Hook.obs HK) (PySem.W.Hook.val HK) 10400:=L2.left_of (by kernel_rfl) (by decide) (fun _=>rfl) fun w os=>fin_ (l1_ w os) (l2_ w os) (l6_ w os) (l3_ w os) (l8_ w os) (l7_ w os) (l5_ w os)
theorem wS:PySem.Challenge.rw_labelways_k93_whole_lines_and_parts.wellSaid=true:=by decide +kernel
end K93
abbrev Bt:=PySem.Value->PySem.Shared->Prop
abbrev CT:=List (PySem.Addr×PySem.Obj)
abbrev HB:=List (List (Option Int))
abbrev A2:=PySem.Str->Option PySem.Value
abbrev AK:=PySem.W.Frag
namespace L2
open PySem PySem.Spec PyProof.Rows
abbrev AO:=Sum Int Str
meta def NT:AO->Value->Bool
 | .inl k,v=>Value.isInt k v
 | .inr x,v=>Value.isStrOf x v
meta def Xj (w:World):AO->Int
 | .inl k=>hashInt k
 | .inr x=>hashStr w x
def Gh:∀{k:AO}{v:Value},NT k v=true->(∃i t,k=Sum.inl i/\v=Value.int i t)\/(∃x t,k=Sum.inr x/\v=Value.str x t)
 | .inl i,v,h=>by let{t,e}:=Value.isInt_shape (k:=i) (v:=v) h;show .inl {i,t,0,e}
 | .inr x,v,h=>by let{t,e}:=Value.isStrOf_shape (x:=x) (v:=v) h;show .inr {x,t,0,e}
def eN (i)(t:Tok):NT (.inl i) (.int i t)=true:=by simp[NT,Value.isInt]
def Vf (x)(t:Tok):NT (.inr x) (.str x t)=true:=by simp[NT,Value.isStrOf]
def Kb (a b):decide ((Sum.inl a:AO)=Sum.inl b)=(a==b):=by
 by_cases e:a=b
 . subst e;simp
 . let h:¬ (Sum.inl a:AO)=Sum.inl b:=λq=>e (Sum.inl.inj q);rw[ze h];show (beq_eq_false_iff_ne.mpr e).symm
def KQ (a b):decide ((Sum.inr a:AO)=Sum.inr b)=decide (a=b):=by
 by_cases e:a=b
 . subst e;simp
 . let h:¬ (Sum.inr a:AO)=Sum.inr b:=λq=>e (Sum.inr.inj q);rw[ze h,ze e]
def ML (a)(b):decide ((Sum.inl a:AO)=Sum.inr b)=false:=ze (λq=>nomatch q)
def NJ (a)(b):decide ((Sum.inr a:AO)=Sum.inl b)=false:=ze (λq=>nomatch q)
meta def As (prog:Program)(w:World):PySem.KeyKind prog w AO where
 is:=NT
 hash:=Xj w
 inj:=λv a b J C=>by
  rcases Gh J with ⟨i,t,rfl,rfl⟩ | ⟨x,t,rfl,rfl⟩
  . rcases Gh C with ⟨j,u,rfl,e⟩ | ⟨y,u,rfl,e⟩
    . injection e with e1 _;rw[e1]
    . show nomatch e
  . rcases Gh C with ⟨j,u,rfl,e⟩ | ⟨y,u,rfl,e⟩
    . show nomatch e
    . injection e with e1 _;rw[e1]
 byValue:=λk v h=>by rcases Gh h with ⟨i,t,rfl,rfl⟩ | ⟨x,t,rfl,rfl⟩ <;> rfl
 pyHash:=λo h=>by
  rcases Gh o with ⟨i,t,rfl,rfl⟩ | ⟨x,t,rfl,rfl⟩
  . show wpAny_pyHash_int h
  . show wpAny_pyHash_str h
 eqBool:=λI o h=>by
  rcases Gh I with ⟨i,t,rfl,rfl⟩ | ⟨x,t,rfl,rfl⟩
  . rcases Gh o with ⟨j,u,rfl,rfl⟩ | ⟨y,u,rfl,rfl⟩
    . rw[Kb] at h;show wpAny_eqBool_int h
    . rw[ML] at h;show SeqAt.EqAt.int_str i t y u _ _ _ _ h
  . rcases Gh o with ⟨j,u,rfl,rfl⟩ | ⟨y,u,rfl,rfl⟩
    . rw[NJ] at h;show SeqAt.EqAt.str_int x t j u _ _ _ _ h
    . rw[KQ] at h;show wpAny_eqBool_str h
 «strs» := λk x t v h=>by
  rcases Gh h with ⟨i,u,rfl,e⟩ | ⟨y,u,rfl,e⟩
  . show nomatch e
  . injection e with e1 _;subst e1;cases v <;> rfl
def k4 (prog)(w)(i)(t:Tok):(As prog w).is (.inl i) (.int i t)=true:=eN i t
def fV (prog)(w)(x)(t:Tok):(As prog w).is (.inr x) (.str x t)=true:=Vf x t
inductive V where
 | non | bl (b:Bool) | int (i:Int) | str (x:Str) | byt (b:Array UInt8) | flt (b:UInt64) | ref (a:Addr) | ty (n:String)
 deriving DecidableEq
def AR:V->Value->Prop
 | .non,u=>u=Value.none
 | .bl b,u=>u=Value.bool b
 | .int i,u=>∃t,u=Value.int i t
 | .str x,u=>∃t,u=Value.str x t
 | .byt b,u=>∃t,u=Value.bytes b t
 | .flt b,u=>∃t,u=Value.float b t
 | .ref a,u=>u=Value.ref a
 | .ty n,u=>u=Value.type n
abbrev AN:List V->List Value->Prop:=Paired AR
def AN.length (r:AN xs us):xs.length=us.length:=Paired.length r
def AN.get:∀{xs:List V}{us:List Value}{i:Nat}{x:V},AN xs us->xs[i]?=some x->∃u,us[i]?=some u/\AR x u
 | _,_,_,_,.nil,e=>by simp at e
 | _,_,0,_,.cons r _,e=>by simp at e;subst e;show{1,r}
 | _,_,i+1,x,.cons _ t,e=>by let{u,C,o}:=AN.get (i:=i) (x:=x) t (by simpa using e);show{u,by simpa using C,o}
def AN.set (r:AR x u):∀{xs:List V}{us:List Value}(i:Nat),AN xs us->AN (xs.set i x) (us.set i u)
 | _,_,_,.nil=>.nil
 | _,_,0,.cons _ t=>.cons r t
 | _,_,i+1,.cons q t=>.cons q (AN.set r i t)
def AN.append:∀{xs ys:List V}{us ws:List Value},AN xs us->AN ys ws->AN (xs++ys) (us++ws)
 | _,_,_,_,.nil,s=>s
 | _,_,_,_,.cons r t,s=>.cons r (AN.append t s)
def AN.take:∀{xs:List V}{us:List Value}(n:Nat),AN xs us->AN (xs.take n) (us.take n)
 | _,_,0,_=>.nil
 | _,_,_+1,.nil=>.nil
 | _,_,n+1,.cons r t=>.cons r (AN.take n t)
def AN.drop:∀{xs:List V}{us:List Value}(n:Nat),AN xs us->AN (xs.drop n) (us.drop n)
 | _,_,0,r=>r
 | _,_,_+1,.nil=>.nil
 | _,_,n+1,.cons _ t=>AN.drop n t
def BW:Option V->Option Value->Prop
 | some v,some u=>AR v u
 | none,none=>True
 | _,_=>False
def KV {κ:Type}:List (κ×V)->List (κ×Value)->Prop:=Paired λ(p:κ×V)(q:κ×Value)=>p.1=q.1/\AR p.2 q.2
meta def kV:AO->V
 | .inl i=>.int i
 | .inr x=>.str x
inductive HO where
 | lst (xs:List V)
 | tup (xs:List V)
 | dK (mf:List (AO×V)) | dT (mf:List (List AO×V))
 | set (S:Int->Bool)(n:Nat)
 | ins (C dx:Addr)(fs:List (Str×V))
 | own (x:Addr)
 | xd (fs:List (Str×V))
 | met (f x:Addr)
 | rng (lo hi:Int)
 | frz (o:Obj)(u:HO)
 | tbl (ps:Array Value)
 | ext (φ:Heap->Prop)
abbrev Hp:=Addr->Option HO
meta def upd (H:Hp)(a:Addr)(o:HO):Hp:=λb=>if b=a then some o else H b
def zJ :upd H a o a=some o:=by unfold upd;rw[if_pos rfl]
def zY (h:b≠a):upd H a o b=H b:=by unfold upd;rw[if_neg h]
def Bj :upd (upd H a o) a u=upd H a u:=by funext b;unfold upd;split <;> rfl
def Ac {H:Hp}(h:H a=some o)(h':H b=some u)(d:o≠u):a≠b:=by intro e;subst e;rw[h] at h';show d (zW h')
def zr {H:Hp}(h:H a=some o)(h':H b=none):a≠b:=by intro e;subst e;rw[h] at h';cases h'
section
variable (P:Program)(w:World)
def Aj (H:Hp)(h:Heap)(a:Addr):HO->Prop
 | .lst xs=>xs.length<=sizeLine/\∃(its:List Value)(n:Nat),AN xs its/\h.get? a=some { cls:=.type "list",data:=.seq its.toArray n }
 | .tup xs=>(xs.length<=sizeLine/\∃o,h.get? a=some o/\o.dict=none)/\∃its:List Value,AN xs its/\IsTup h a its.toArray
 | .dK mf=>mf.length<=sizeLine/\(a==sysModules)=false/\∃I,KV mf I/\h.DictOf (As P w) a I
 | .dT mf=>mf.length<=sizeLine/\(a==sysModules)=false/\∃xs:List (List AO×Addr×Value),
  Paired (λ(p:List AO×V)(q:List AO×Addr×Value)=>p.1=q.1/\H q.2.1=some (.tup (p.1.map kV))/\AR p.2 q.2.2) mf xs /\
  ∃o es ep,h.get? a=some o/\o.ExactDict/\o.data=.dict es ep/\es.toList=xs.map (entryOfKey (tupleKind (As P w)))/\(xs.map (·.1)).Nodup
 | .set S n=>h.SetOf (intKind P w) a S n
 | .ins C dx fs=>H dx=some (.own a)/\fs.length<=1000/\dx≠a/\h.get? a=some (PySem.W.instObj C dx) /\
  ∃mA,h.Ns1 dx mA/\(∀f,BW (fs.lookup f) (mA f))/\PySem.Within mA (fs.map (·.1))
 | .own _=>∃o,h.get? a=some o
 | .xd fs=>∃mA,h.Ns1 a mA/\∀f,BW (fs.lookup f) (mA f)
 | .rng lo hi=>∃t u v,h.get? a=some { cls:=.type "range",data:=.fields #[.int lo t,.int hi u,.int 1 v] }
 | .frz o u=>h.get? a=some o/\Aj H h a u
 | .tbl ps=>h.get? a=some { cls:=.none,data:=.fields ps }
 | .met f x=>h.get? a=some (PySem.W.methodObj (.ref f) (.ref x))
 | .ext φ=>φ h/\(∃o,h.get? a=some o)/\∀U J:Heap,φ U->(∀o,U.get? a=some o->J.get? a=some o)->φ J
def Al (H:Hp)(h:Heap):Prop:=∀a o,H a=some o->Aj P w H h a o
end
def Aj.lt (x:Aj P w H h a o):a<h.objs.size:=by
 cases o with
 | lst xs=>let{3,3,e}:=x;show zU e
 | tup xs=>let{_,3,p}:=x;show p.lt
 | dK I=>let{3,3,o,3,e,_}:=x;show zU e
 | dT I=>let{3,3,o,3,e,_}:=x;show zU e
 | set S n=>let{o,_,3,e,_}:=x;show zU e
 | ins C dx fs=>let{_,3,e,_}:=x;show zU e
 | own y=>let{_,e}:=x;show zU e
 | xd fs=>let{_,{_,3,e,_},_}:=x;show zU e
 | rng lo hi=>let{_,3,e}:=x;show zU e
 | frz U u=>let{e,_}:=x;show zU e
 | tbl ps=>show zU (show h.get? a=some _ from x)
 | met f y=>show zU (show h.get? a=some _ from x)
 | ext J=>let{_,{_,e},_}:=x;show zU e
def Paired.mapP :∀{l₁:List α}{l₂:List β},Paired F l₁ l₂->(∀a b,F a b->G a b)->Paired G l₁ l₂
 | _,_,.nil,_=>.nil
 | _,_,.cons r t,f=>.cons (f _ _ r) (Paired.mapP t f)
def Aj.stay (x:Aj P w H h a o)(k:∀b u,(b=a\/H b=some (.own a))->h.get? b=some u->h'.get? b=some u)
 (ho:∀b,H b=some (.own a)->H' b=some (.own a))(ht:∀b xs,H b=some (.tup xs)->H' b=some (.tup xs)):Aj P w H' h' a o:=by
 induction o with
 | lst xs=>let{z,its,n,r,e}:=x;show{z,its,n,r,k _ _ (.inl rfl) e}
 | tup xs=>let{{z,o2,U,d2},its,r,I,e,c}:=x;show{{z,o2,k _ _ (.inl rfl) U,d2},its,r,I,k _ _ (.inl rfl) e,c}
 | dK mf=>let{z,y,vs,r,I,es,ep,e,c}:=x;show{z,y,vs,r,I,es,ep,k _ _ (.inl rfl) e,c}
 | dT mf=>let{z,y,xs,r,I,es,ep,e,c}:=x;show{z,y,xs,Paired.mapP r λp q z=>{z.1,ht _ _ z.2.1,z.2.2},I,es,ep,k _ _ (.inl rfl) e,c}
 | set S n=>let{I,es,ep,t,e,c}:=x;show{I,es,ep,t,k _ _ (.inl rfl) e,c}
 | ins C dx fs=>let{d,z,ne,e,mA,{J,es,ep,U,c},r}:=x;show{ho _ d,z,ne,k _ _ (.inl rfl) e,mA,{J,es,ep,k _ _ (.inr d) U,c},r}
 | own y=>let{I,e}:=x;show{I,k _ _ (.inl rfl) e}
 | xd fs=>let{mA,{J,es,ep,e,c},r}:=x;show{mA,{J,es,ep,k _ _ (.inl rfl) e,c},r}
 | rng lo hi=>let{t,u,v,e}:=x;show{t,u,v,k _ _ (.inl rfl) e}
 | frz I u ih=>let{e,q}:=x;show{k _ _ (.inl rfl) e,ih q}
 | tbl ps=>have e:h.get? a=some { cls:=.none,data:=.fields ps }:=x;change h'.get? a=some { cls:=.none,data:=.fields ps };show k a _ (.inl rfl) e
 | met f y=>have e:h.get? a=some (PySem.W.methodObj (.ref f) (.ref y)):=x;change h'.get? a=some (PySem.W.methodObj (.ref f) (.ref y));show k a _ (.inl rfl) e
 | ext φ=>let{p,{o,e},st}:=x;show{st _ _ p λo q=>k _ _ (.inl rfl) q,{o,k _ _ (.inl rfl) e},st}
def Al.lt (x:Al P w H h)(e:H a=some o):a<h.objs.size:=(x a o e).lt
def Al.fresh (x:Al P w H h)(e:h.objs.size<=a):H a=none:=by
 cases q:H a with
 | none=>rfl
 | some u=>show absurd (zk (x.lt q) e) (GJ _)
def Al.kept (x:Al P w H h)(k:∀b u,h.get? b=some u->h'.get? b=some u):Al P w H h':=λa o e=>
 (x a o e).stay (λb u _ q=>k b u q) (λ_ q=>q) λ_ _ q=>q
def Al.laid (x:Al P w H h)(k:∀b u,h.get? b=some u->h'.get? b=some u)(J:h.objs.size<=a)(new:Aj P w (upd H a o) h' a o):Al P w (upd H a o) h':=λb u e=>by
 let C:=x.fresh J;by_cases I:b=a
 . subst I;rw[zJ] at e;cases e;show new
 . rw[zY I] at e;show (x b u e).stay (λc v _ q=>k c v q) (λc q=>by rwa[zY (zr q C)]) λc xs q=>by rwa[zY (zr q C)]
def Rd (H:Hp)(a:Addr)(u:HO):Prop:=H a=some u\/∃o,H a=some (.frz o u)
def Rd.ok (r:Rd H a u)(x:Al P w H h):Aj P w H h a u:=by
 rcases r with r | ⟨o,r⟩
 . show x a u r
 . let{_,q}:=x a _ r;show q
def JK:Option HO->Prop
 | some (.lst _)=>True
 | some (.dK _)=>True
 | some (.dT _)=>True
 | some (.set _ _)=>True
 | some (.ins _ _ _)=>True
 | some (.ext _)=>True
 | _=>False
def Al.write (ok:Al P w H h)(mu:JK (H x))(he:e=x\/H e=some (.own x))(k:∀b u,b≠e->h.get? b=some u->h'.get? b=some u)(qT:∃u,h'.get? e=some u)
 (new:Aj P w (upd H x o') h' x o'):Al P w (upd H x o') h':=λb u q=>by
 let C:∀c y,H c=some (.own y)->c≠x:=λc y r z=>by subst z;rwa[r] at mu
 let I:∀c xs,H c=some (.tup xs)->c≠x:=λc xs r z=>by subst z;rwa[r] at mu
 by_cases J:b=x
 . subst J;rw[zJ] at q;cases q;show new
 . rw[zY J] at q;by_cases o:b=e
   . let U:H b=some (.own x):=by
      rcases he with z | z
      . show absurd (o.trans z) J
      . rwa[o]
     rw[q] at U;cases U;let{v,hv}:=qT;show{v,by rwa[o]}
   . show (ok b u q).stay (λc v hc r=>k c v ?_ r) (λc r=>by rwa[zY (C c b r)]) λc xs r=>by rwa[zY (I c xs r)]
     rcases hc with rfl | hc
     . show o
     . rintro rfl;rcases he with z | z
       . show C c b hc z
       . rw[hc] at z;cases z;show J rfl
structure Un (fs ex:List Addr)(H H':Hp)(h h':Heap):Prop where
 keep:∀b o,h.get? b=some o->H b=none->b∉fs->b∉ex->h'.get? b=some o
 slot:∀b o,h.get? b=some o->H b=none->b∈fs->b∉ex->∃sl,h'.get? b=some { o with slots:=sl }
 free:∀b o,h.get? b=some o->H b=none->b∉ex->H' b=none
 there:∀b o,h.get? b=some o->b∉ex->∃o',h'.get? b=some o'
 tups:∀b xs,H b=some (.tup xs)->H' b=some (.tup xs)
 frzs:∀b o u,H b=some (.frz o u)->H' b=some (.frz o u)
 tbls:∀b ps,H b=some (.tbl ps)->∃more,H' b=some (.tbl (ps++more))
def Un.any (u:Un fs ex H H1 h h1)(q:h.get? b=some ob)(n:H b=none)(o:b∉ex):∃I,h1.get? b=some { ob with slots:=I }:=by
 by_cases C:b∈fs
 . show u.slot b ob q n C o
 . show{ob.slots,u.keep b ob q n C o}
def Un.trans (a:Un fs ex H H1 h h1)(b:Un fs ex H1 H2 h1 h2):Un fs ex H H2 h h2 where
 keep:=λc o q n J C=>b.keep c o (a.keep c o q n J C) (a.free c o q n C) J C
 slot:=λc o q n J C=>by let{sl,I}:=a.slot c o q n J C;let{U,e2}:=b.slot c _ I (a.free c o q n C) J C;show⟨U,e2⟩
 free:=λc o q n C=>by let{o',I}:=a.there c o q C;show b.free c o' I (a.free c o q n C) C
 there:=λc o q C=>by let{o',I}:=a.there c o q C;show b.there c o' I C
 tups:=λc xs q=>b.tups c xs (a.tups c xs q)
 frzs:=λc o xs q=>b.frzs c o xs (a.frzs c o xs q)
 tbls:=λc ps q=>by let{m1,I}:=a.tbls c ps q;let{m2,e2}:=b.tbls c _ I;show{m1++m2,by rw[e2,Array.append_assoc]}
def Un.kept (k:∀b u,h.get? b=some u->h'.get? b=some u):Un fs ex H H h h':=
 {λb o q _ _ _=>k b o q,λb o q _ _ _=>{o.slots,k b o q},λ_ _ _ n _=>n,λb o q _=>{o,k b o q},λ_ _ q=>q,λ_ _ _ q=>q,λ_ ps q=>{#[],by rw[q];simp}}
def Un.refl:Un fs ex H H h h:=Un.kept λ_ _ q=>q
def Un.laid (k:∀b u,h.get? b=some u->h'.get? b=some u)(I:h.objs.size<=a)(C:H a=none):Un fs ex H (upd H a o) h h' where
 keep:=λb u q _ _ _=>k b u q
 slot:=λb u q _ _ _=>{u.slots,k b u q}
 free:=λb u q n _=>by rwa[zY (zb (zk (zU q) I))]
 there:=λb u q _=>{u,k b u q}
 tups:=λb xs q=>by rwa[zY (zr q C)]
 frzs:=λb u xs q=>by rwa[zY (zr q C)]
 tbls:=λb ps q=>{#[],by rw[zY (zr q C),q];simp}
def Un.write (mu:JK (H x))(he:e=x\/H e=some (.own x))(k:∀b u,b≠e->h.get? b=some u->h'.get? b=some u)(U:∃u,h'.get? e=some u):Un fs ex H (upd H x o) h h':=by
 let I:∀b,H b=none->b≠x:=λb n z=>by subst z;rwa[n] at mu
 let J:∀b,H b=none->b≠e:=λb n z=>by
  subst z;rcases he with r | r
  . show I b n r
  . rw[n] at r;cases r
 let hm:∀b u,H b=some u->¬ JK (some u)->b≠x:=λb u q nm z=>by subst z;rw[q] at mu;show nm mu
 show{λb u q n _ _=>k b u (J b n) q,λb u q n _ _=>{u.slots,k b u (J b n) q},λb u q n _=>by rwa[zY (I b n)],λb u q _=>?_,
  λb xs q=>by rwa[zY (hm b _ q λz=>z)],λb u xs q=>by rwa[zY (hm b _ q λz=>z)],λb ps q=>{#[],by rw[zY (hm b _ q λz=>z),q];simp}}
 by_cases C:b=e
 . subst C;show U
 . show{u,k b u C q}
meta def Tz (h:Heap)(H:Hp):List Addr:=(List.range h.objs.size).filter λa=>(H a).isSome
meta def FV (h:Heap)(H:Hp):Heap:=PySem.W.hideAll h (Tz h H)
def iw (h)(H):(FV h H).objs.size=h.objs.size:=PySem.W.hideAll_size _ _
def gN (e:h.get? b=some o)(n:H b=none):(FV h H).get? b=some o:=
 PySem.W.hideAll_get _ e λhm=>by let q:(H b).isSome=true:=(Ba.mp hm).2;rw[n] at q;simp at q
def gR (e:(FV h H).get? b=some o):h.get? b=some o/\H b=none:=by
 let C:h.get? b=some o:=PySem.W.of_hideAll (Tz h H) e;show{C,?_};cases q:H b with
 | none=>rfl
 | some x=>have hm:b∈Tz h H:=Ba.mpr {Ej.mpr (zU C),by simp[q]};let z:(FV h H).get? b=none:=PySem.W.hideAll_none (Tz h H) hm;rw[z] at e;cases e
meta def OC (g h:Heap)(L:Addr):List (Addr×Obj):=(List.range h.objs.size).filterMap λa=>if a=L\/(g.get? a).isSome=true then none else (h.get? a).map λo=>(a,o)
def iJ (J:a≠L)(I:g.get? a=none)(C:h.get? a=some o):(a,o)∈OC g h L:=
 List.mem_filterMap.mpr {a,Ej.mpr (zU C),by simp[J,I,C]}
def lr (C:p∈OC g h L):p.1≠L/\g.get? p.1=none/\h.get? p.1=some p.2:=by
 let{b,_,e}:=List.mem_filterMap.mp C;split at e
 . cases e
 . rename_i o
   cases q:h.get? b with
   | none=>rw[q] at e;simp at e
   | some u=>
    rw[q] at e;simp only[Fy,Option.some.injEq] at e;subst e;show{λz=>o (.inl z),?_,q};change g.get? b=none;cases r:g.get? b with
    | none=>rfl
    | some v=>show (o (.inr (by simp[r]))).elim
def iR :News g L h (OC g h L):=λp o=>let ⟨a,b,c⟩:=lr o;⟨c,a,b⟩
structure Mod (K:AK)(mg:A2)(base:Heap):Prop where
 kin:K.In base
 glob:base.Ns mainGlobals mg
 blt:∃mb,base.Ns builtinsNs mb/\∀x:Str,x ≠ "__name__"->mb x=bootBuiltins x
 nolimit:base.NoLimit
structure Cx where
 prog:Program
 w:World
 K:AK
 mg:Str->Option Value
 base:Heap
 A:Around
 N:List Str
 s₀:Shared
 H₀:Hp
 env:Env
 outer:List Env
 stack:List Env
 ex:List Addr
 fn:Str->Bool
 calm:Bool
 pn:List (Addr×Obj)
 xe:Value->Shared->Prop
meta def A4 (l:List Env):List Addr:=l.filterMap (·.frame)
meta abbrev Cx.fs (X:Cx):List Addr:=A4 X.outer
def Wj (sc:Scope)(x:Str):Prop:=sc.names.lookup x=some .local\/sc.names.lookup x=some .cell\/sc.names.lookup x=some .free
def Ig (sc:Scope)(x:Str):Prop:=sc.names.lookup x=some .local\/sc.names.lookup x=some .cell
def Eb (env:Env)(h:Heap)(m:A2)(x:Str)(u:Value):Prop:=
 (env.kindOf x=some .local/\m x=some u)\/((env.kindOf x=some .cell\/env.kindOf x=some .free)/\∃c,env.cells.lookup x=some c/\h.IsCell c (some u))
structure Cx.Ok (X:Cx):Prop where
 mod:Mod X.K X.mg X.base
 kind:X.env.scope.kind=.function
 glob:X.env.globals=mainGlobals
 blt:X.env.builtins=builtinsNs
 above:X.s₀.heap.objs.size<=X.env.locals
 inj:∀x y c,X.env.cells.lookup x=some c->X.env.cells.lookup y=some c->x=y
 has:∀x,(X.env.kindOf x=some .cell\/X.env.kindOf x=some .free)->∃c,X.env.cells.lookup x=some c
 cab:∀x c,X.fn x=true->X.env.cells.lookup x=some c->X.s₀.heap.objs.size<=c
 hd:X.calm=true->X.A.handled=none
 frames:X.A.frames=some X.stack
 stk:X.stack=X.outer\/(X.stack=X.env::X.outer/\X.env.frame=some X.env.locals)
 exf:∀b∈X.ex,b≠X.env.locals/\∀x c,X.env.cells.lookup x=some c->c≠b
 bs:∀b o,X.base.get? b=some o->X.s₀.heap.get? b=some o/\X.H₀ b=none
 bsz:X.base.objs.size<=X.s₀.heap.objs.size
 noex:∀b o,X.base.get? b=some o->b∉X.ex
 exfs:∀b∈X.ex,b∉X.fs
 funs:X.s₀.heap.FunFrames X.base X.outer
 frf:∀b∈X.fs,X.H₀ b=none
structure AA (X:Cx)(pins:CT)(σ:List (Option V))(H:Hp)(s:Shared):Prop where
 ok:X.Ok
 os:s.os=X.s₀.os
 bare:AllBare s.gens
 base:Un X.fs X.ex X.H₀ H X.s₀.heap s.heap
 loc:∃m,s.heap.Ns X.env.locals m/\∀(i:Nat)(x:Str)(v:V),X.N[i]?=some x->σ[i]?=some (some v)->Wj X.env.scope x->∃u,AR v u/\Eb X.env s.heap m x u
 cell:∀x c,X.env.cells.lookup x=some c->∃v,s.heap.IsCell c v
 free:H X.env.locals=none
 freeC:∀x c,X.env.cells.lookup x=some c->H c=none
 pin:∀p∈X.pn++pins,s.heap.get? p.1=some p.2/\H p.1=none/\p.1≠X.env.locals/\p.1∉X.fs/\∀v,p.2.data ≠ .cell v
 hok:Al X.prog X.w H s.heap
 len:σ.length=X.N.length
section
variable {X:Cx}{pins:CT}{σ:List (Option V)}{H H':Hp}{s:Shared}{h':Heap}
def Cx.Ok.nofr (ok:X.Ok)(e:X.base.get? b=some o):b∉X.fs:=λC=>by let:=(ok.funs.mem C).1;rw[e] at this;cases this
def AA.bs (I:AA X pins σ H s):∀b o,X.base.get? b=some o->s.heap.get? b=some o/\H b=none:=λb o e=>
 {I.base.keep b o (I.ok.bs b o e).1 (I.ok.bs b o e).2 (I.ok.nofr e) (I.ok.noex b o e),I.base.free b o (I.ok.bs b o e).1 (I.ok.bs b o e).2 (I.ok.noex b o e)}
def AA.bk (I:AA X pins σ H s):∀b o,X.base.get? b=some o->s.heap.get? b=some o:=λb o e=>(I.bs b o e).1
def AA.mod (I:AA X pins σ H s):Mod X.K X.mg X.base:=I.ok.mod
def AA.kIn (I:AA X pins σ H s):X.K.In s.heap:=I.ok.mod.kin.keeps I.bk
def AA.fr (I:AA X pins σ H s):∃m,Fr X.base X.env.locals s.heap m:=
 let {m,o,_}:=I.loc
 {m,o,I.bk,zn I.ok.bsz I.ok.above}
def AA.lt (I:AA X pins σ H s):X.env.locals<s.heap.objs.size:=let {_,o,_}:=I.loc;o.lt
def AA.sz (I:AA X pins σ H s):X.s₀.heap.objs.size<=s.heap.objs.size:=zn I.ok.above (F6 I.lt)
def AA.nofs (I:AA X pins σ H s)(h:s.heap.objs.size<=a):a∉X.fs:=λJ=>by let{_,o,C,_}:=I.ok.funs.mem J;show absurd (zk (zU C) (zn I.sz h)) (GJ _)
def AA.cne (I:AA X pins σ H s):∀x c,X.env.cells.lookup x=some c->c≠X.env.locals:=λx c e z=>by let{v,o,U,hd}:=I.cell x c e;let{m,{o',es,ep,C,J,_},_}:=I.loc;rw[z,C] at U;cases U;rw[J] at hd;cases hd
def AA.funs (I:AA X pins σ H s):s.heap.FunFrames X.base X.outer:=by
 let all:∀(l:List Env),(∀b∈A4 l,b∈X.fs)->X.s₀.heap.FunFrames X.base l->s.heap.FunFrames X.base l:=by
  intro l
  induction l with
  | nil=>intro _ _;trivial
  | cons env r ih=>intro U hl;let{hk,{L,o,hf,hn,ho,hd},hr}:=hl;let J:L∈X.fs:=U L (by unfold A4;rw[Nb,hf];show za);let{sl,e}:=I.base.slot L o ho (I.ok.frf L J) J λz=>I.ok.exfs L z J;show{hk,{L,_,hf,hn,e,hd},ih (λb C=>U b (by unfold A4;rw[Nb,hf];show zZ _ C)) hr}
 show all X.outer (λ_ C=>C) I.ok.funs
def AA.stack (I:AA X pins σ H s):s.heap.FunFrames X.base X.stack:=by
 rcases I.ok.stk with e | ⟨e,hf⟩
 . rw[e];show I.funs
 . rw[e];let{m,o,_}:=I.loc;show .cons (by rw[I.ok.kind];decide) hf o ?_ I.funs;show Heap.get?_none_of_le (zn I.ok.bsz I.ok.above)
def AA.stkSub (I:AA X pins σ H s):∀b∈A4 X.stack,b∈X.env.locals::X.fs:=λb o=>by
 rcases I.ok.stk with e | ⟨e,hf⟩
 . rw[e] at o;show zZ _ o
 . rw[e] at o;unfold A4 at o;rwa[Nb,hf] at o
def AA.stkFree (I:AA X pins σ H s):∀b∈A4 X.stack,H b=none:=λb hb=>by
 rcases zS.mp (I.stkSub b hb) with e | hb
 . rw[e];show I.free
 . let{_,o,C,_}:=I.ok.funs.mem hb;show I.base.free b o C (I.ok.frf b hb) λz=>I.ok.exfs b z hb
def AA.step {ch:List Addr}(I:AA X pins σ H s)
 (p4:∀b∈ch,(b∈X.ex\/X.s₀.heap.objs.size<=b)/\b≠X.env.locals/\(∀x c,X.env.cells.lookup x=some c->c≠b)/\∀p∈X.pn++pins,p.1≠b)
 (keep:∀b o,b≠X.env.locals->b∉X.fs->b∉ch->s.heap.get? b=some o->H b=none->h'.get? b=some o)
 (slot:∀b o,b≠X.env.locals->b∈X.fs->b∉ch->s.heap.get? b=some o->H b=none->∃sl,h'.get? b=some { o with slots:=sl })(free:∀b o,b∉ch->s.heap.get? b=some o->H b=none->H' b=none)
 (there:∀b o,b∉ch->s.heap.get? b=some o->∃o',h'.get? b=some o')
 (tups:∀b xs,H b=some (.tup xs)->H' b=some (.tup xs))(frzs:∀b o u,H b=some (.frz o u)->H' b=some (.frz o u))(tbls:∀b ps,H b=some (.tbl ps)->∃more,H' b=some (.tbl (ps++more)))
 (ns:∀m,s.heap.Ns X.env.locals m->h'.Ns X.env.locals m)(hok:Al X.prog X.w H' h')(hg:AllBare g'):
 AA X pins σ H' { s with heap:=h',gens:=g',drawn:=d',toks:=t' }:=by
 let neL:∀b o,X.s₀.heap.get? b=some o->b≠X.env.locals:=λb o e=>zb (zk (zU e) I.ok.above);let U:∀b o,X.s₀.heap.get? b=some o->b∉X.ex->b∉ch:=λb o e C hb=>by
  rcases (p4 b hb).1 with z | z
  . show C z
  . show absurd (zk (zU e) z) (GJ _)
 let cellK:∀x c,X.env.cells.lookup x=some c->∀v,s.heap.IsCell c v->h'.IsCell c v:=λx c e v ⟨o,ho,hd⟩=>by
  let J:c∉ch:=λz=>(p4 c z).2.2.1 x c e rfl;by_cases hc:c∈X.fs
  . let{sl,q}:=slot c o (I.cne x c e) hc J ho (I.freeC x c e);show{_,q,hd}
  . show{o,keep c o (I.cne x c e) hc J ho (I.freeC x c e),hd}
 show{I.ok,I.os,hg,{λb o e n hb C=>?_,λb o e n hb C=>?_,λb o e n C=>?_,λb o e C=>?_,λb xs e=>tups b xs (I.base.tups b xs e),λb o xs e=>frzs b o xs (I.base.frzs b o xs e),λb ps e=>?_},?_,λx c e=>?_,?_,λx c e=>?_,λp hp=>?_,hok,I.len}
 . show keep b o (neL b o e) hb (U b o e C) (I.base.keep b o e n hb C) (I.base.free b o e n C)
 . let{sl,e1}:=I.base.slot b o e n hb C;let{sl',e2}:=slot b _ (neL b o e) hb (U b o e C) e1 (I.base.free b o e n C);show⟨sl',e2⟩
 . let{o',e1}:=I.base.there b o e C;show free b o' (U b o e C) e1 (I.base.free b o e n C)
 . let{o',e1}:=I.base.there b o e C;show there b o' (U b o e C) e1
 . let{m1,e1}:=I.base.tbls b ps e;let{m2,e2}:=tbls b _ e1;show{m1++m2,by rw[e2,Array.append_assoc]}
 . let{m,hn,hl}:=I.loc;show{m,ns m hn,λi x v e1 e2 e3=>?_};let{u,r,l}:=hl i x v e1 e2 e3;show{u,r,?_};rcases l with l | ⟨k,c,e,z⟩
   . show .inl l
   . show .inr {k,c,e,cellK x c e _ z}
 . let{v,z}:=I.cell x c e;show{v,cellK x c e v z}
 . let{m,{o,3,ho,_},_}:=I.loc;show free _ o (λz=>(p4 _ z).2.1 rfl) ho I.free
 . let{v,o,ho,hd}:=I.cell x c e;show free c o (λz=>(p4 c z).2.2.1 x c e rfl) ho (I.freeC x c e)
 . let{e,n,ne,nf,d}:=I.pin p hp;let J:p.1∉ch:=λz=>(p4 p.1 z).2.2.2 p hp rfl;show{keep p.1 p.2 ne nf J e n,free p.1 p.2 J e n,ne,nf,d}
def AA.un (I:AA X pins σ H s)(u:Un X.fs [] H H' s.heap h')(J:Al X.prog X.w H' h'):AA X pins σ H' { s with heap:=h',toks:=t' }:=by
 let{m,{o,es,ep,ho,r},_}:=id I.loc;let{sl,hL}:=u.any ho I.free (by simp);show I.step (g':=s.gens) (d':=s.drawn) (ch:=[]) (λ_ z=>nomatch z) (λb o _ U _ e n=>u.keep b o e n U (by simp)) (λb o _ U _ e n=>u.slot b o e n U (by simp)) (λb o _ e n=>u.free b o e n (by simp)) (λb o _ e=>u.there b o e (by simp)) u.tups u.frzs u.tbls (λm' hm=>by let{o',o5,ep',C,r'}:=hm;rw[ho] at C;cases C;show{_,o5,ep',hL,r'}) J I.bare
def AA.call (I:AA X pins σ H s)(u:Un (A4 X.stack) ch H H' s.heap h')(U:Al X.prog X.w H' h')(hg:AllBare g')
 (p4:∀b∈ch,(b∈X.ex\/X.s₀.heap.objs.size<=b)/\b≠X.env.locals/\(∀x c,X.env.cells.lookup x=some c->c≠b)/\∀p∈X.pn++pins,p.1≠b):
 AA X pins σ H' { s with heap:=h',gens:=g',drawn:=d',toks:=t' }:=by
 let{m,{o,es,ep,ho,r},_}:=id I.loc;let{sl,hL}:=u.any ho I.free λz=>(p4 _ z).2.1 rfl;show I.step (ch:=ch) p4 (λb o hL hb C e n=>u.keep b o e n (λz=>(zS.mp (I.stkSub b z)).elim hL hb) C) (λb o _ _ C e n=>u.any e n C) (λb o C e n=>u.free b o e n C) (λb o C e=>u.there b o e C) u.tups u.frzs u.tbls (λm' hm=>by let{o',o5,ep',J,r'}:=hm;rw[ho] at J;cases J;show{_,o5,ep',hL,r'}) U hg
def AA.turned {t':Nat}{it:Addr}(I:AA X pins σ H s)(k:∀b o,b≠it->s.heap.get? b=some o->h'.get? b=some o)(hn:H it=none)(U:it≠X.env.locals)
 (h1:it∈X.ex\/X.s₀.heap.objs.size<=it)(h2:∀x c,X.env.cells.lookup x=some c->c≠it)(h3:∀p∈X.pn++pins,p.1≠it):AA X pins σ H { s with heap:=h',toks:=t' }:=by
 let J:∀b u,H b=some u->b≠it:=λb u e z=>by rw[z,hn] at e;cases e
 show I.step (g':=s.gens) (d':=s.drawn) (ch:=[it]) (λb hb=>?_) (λb o _ _ C e _=>k b o (λz=>C (by simp[z])) e) (λb o _ _ C e _=>{o.slots,k b o (λz=>C (by simp[z])) e}) (λ_ _ _ _ n=>n)
  (λb o C e=>{o,k b o (λz=>C (by simp[z])) e}) (λ_ _ e=>e) (λ_ _ _ e=>e) (λb ps e=>{#[],by rw[e];simp}) (λm hm=>?_) (λb u e=>?_) I.bare
 . let e:b=it:=by simpa using hb
   subst e;show⟨h1,U,h2,h3⟩
 . let{o,es,ep,ho,r}:=hm;show{o,es,ep,k _ o (Ne.symm U) ho,r}
 . show (I.hok b u e).stay (λc v C q=>k c v ?_ q) (λ_ q=>q) λ_ _ q=>q;rcases C with z | z
   . rw[z];show J b u e
   . show J c _ z
def AA.tok (I:AA X pins σ H s)(t):AA X pins σ H { s with toks:=t }:=I.un (h':=s.heap) (t':=t) Un.refl I.hok
def AA.kept (I:AA X pins σ H s)(k:∀b u,s.heap.get? b=some u->h'.get? b=some u):AA X pins σ H { s with heap:=h',toks:=t' }:=I.un (Un.kept k) (I.hok.kept k)
def AA.laid (I:AA X pins σ H s)(k:∀b u,s.heap.get? b=some u->h'.get? b=some u)(C:s.heap.objs.size<=a)(new:Aj X.prog X.w (upd H a o) h' a o):
 AA X pins σ (upd H a o) { s with heap:=h',toks:=t' }:=I.un (Un.laid k C (I.hok.fresh C)) (I.hok.laid k C new)
def AA.write (I:AA X pins σ H s)(mu:JK (H x))(he:e=x\/H e=some (.own x))(k:∀b u,b≠e->s.heap.get? b=some u->h'.get? b=some u)(C:∃u,h'.get? e=some u)
 (new:Aj X.prog X.w (upd H x o) h' x o):AA X pins σ (upd H x o) { s with heap:=h',toks:=t' }:=I.un (Un.write mu he k C) (I.hok.write mu he k C new)
def AA.weak (I:AA X pins σ H s)(J:σ'.length=σ.length)(w:∀(i:Nat) v,σ'[i]?=some (some v)->σ[i]?=some (some v)):AA X pins σ' H s:=
 ⟨I.ok,I.os,I.bare,I.base,let ⟨m,C,o⟩:=I.loc;{m,C,λi x v e1 e2 U=>o i x v e1 (w i v e2) U},I.cell,I.free,I.freeC,I.pin,I.hok,J.trans I.len⟩
def AA.pins_of (I:AA X pins σ H s)(h:∀p∈pins',s.heap.get? p.1=some p.2/\H p.1=none/\p.1≠X.env.locals/\p.1∉X.fs/\∀v,p.2.data ≠ .cell v):AA X pins' σ H s:=
 {I.ok,I.os,I.bare,I.base,I.loc,I.cell,I.free,I.freeC,λp o=>(Bi.mp o).elim (λz=>I.pin p (List.mem_append_left _ z)) (h p),I.hok,I.len}
def V0 {N:List Str}(o:N.Nodup){j:Nat}(a:N[i]?=some x)(b:N[j]?=some x):i=j:=by let{U,I}:=zF.mp a;let{J,C}:=zF.mp b;show (List.getElem_inj o).mp (I.trans C.symm)
def jA (I:AA X pins σ H s)(hN:X.N.Nodup)(hi:X.N[i]?=some x)(U:Ig X.env.scope x)(r:AR v u)
 (h:∀s',AA X pins (σ.set i (some v)) H s'->(∃a,Heap.SameBut a s.heap s'.heap/\(a=X.env.locals\/X.env.cells.lookup x=some a))->Q Unit.unit s')(hf:autoParam (X.fn x=true\/X.env.scope.names.lookup x=some .local) d_._auto_1):wpAny M A (storeName X.env x u) Q E s:=by
 let{m,hn,hl}:=id I.loc;let qq:(X.env.scope.kind == .class || (X.env.scope.kind == .module && X.env.locals != X.env.globals))=false:=by rw[I.ok.kind];rfl
 let hiσ:i<σ.length:=by rw[I.len];show (zF.mp hi).1
 let cne:=I.cne;let tracked:∀{a:Addr}{h':Heap},(∃o,s.heap.get? a=some o/\H a=none)->Heap.SameBut a s.heap h'->Al X.prog X.w H h':=λ{a h'} ha C b ob e=>by
  let{3,ou}:=ha;show (I.hok b ob e).stay (λc w' hc q=>(C.2 c ?_).trans q) (λ_ q=>q) λ_ _ q=>q;rintro rfl;rcases hc with rfl | hc
  . rw[ou] at e;cases e
  . rw[ou] at hc;cases hc
 rcases U with hk | hk
 . show wpAny_storeName_local hk hn (λh' hn' C=>?_) qq;let{oL,3,pD,_}:=id hn;show h _ {I.ok,I.os,I.bare,{λb o e n hb U=>?_,λb o e n hb U=>?_,I.base.free,λb o e U=>?_,I.base.tups,I.base.frzs,I.base.tbls},{_,hn',λj y v' J e2 e3=>?_},λy c e=>?_,I.free,I.freeC,λp hp=>?_,tracked ⟨oL,pD,I.free⟩ C,by simpa using I.len} {_,C,.inl rfl}
   . show (C.2 b (zb (zk (zU e) I.ok.above))).trans (I.base.keep b o e n hb U)
   . let{sl,J}:=I.base.slot b o e n hb U;show{sl,(C.2 b (zb (zk (zU e) I.ok.above))).trans J}
   . let{o',J}:=I.base.there b o e U;show{o',(C.2 b (zb (zk (zU e) I.ok.above))).trans J}
   . by_cases hj:j=i
     . subst hj;rw[hi] at J;cases J;rw[List.getElem?_set_self hiσ] at e2;cases e2;show{u,r,.inl {hk,by simp}}
     . rw[List.getElem?_set_ne (Ne.symm hj)] at e2;let{u',r',q}:=hl j y v' J e2 e3;show{u',r',?_};rcases q with ⟨k,e⟩ | ⟨k,c,e,z⟩
       . show .inl {k,?_};let:y≠x:=λe=>hj (V0 hN J (e ▸ hi));simp[this,e]
       . show .inr {k,c,e,z.sameBut C (cne y c e)}
   . let{w',z}:=I.cell y c e;show{w',z.sameBut C (cne y c e)}
   . let{e,n,ne,nf,d}:=I.pin p hp;show{(C.2 p.1 ne).trans e,n,ne,nf,d}
 . let hfn:X.fn x=true:=by
    rcases hf with z | z
    . show z
    . rw[z] at hk;cases hk
   let{c,hc}:=I.ok.has x (.inl hk);let{w',z}:=I.cell x c hc;show wpAny_storeName_cell I.ok.kind hk hc z (λh' hc' C=>?_);let{oc,hoc,hocd}:=id z;show h { s with heap:=h' } {I.ok,I.os,I.bare,{λb o e n hb U=>?_,λb o e n hb U=>?_,I.base.free,λb o e U=>?_,I.base.tups,I.base.frzs,I.base.tbls},{m,hn.sameBut C (Ne.symm (cne x c hc)),λj y v' J e2 e3=>?_},λy c' e=>?_,I.free,I.freeC,λp hp=>?_,tracked {oc,hoc,I.freeC x c hc} C,by simpa using I.len} {c,C,.inr hc}
   . show (C.2 b (zb (zk (zU e) (I.ok.cab x c hfn hc)))).trans (I.base.keep b o e n hb U)
   . let{sl,J}:=I.base.slot b o e n hb U;show{sl,(C.2 b (zb (zk (zU e) (I.ok.cab x c hfn hc)))).trans J}
   . let{o',J}:=I.base.there b o e U;show{o',(C.2 b (zb (zk (zU e) (I.ok.cab x c hfn hc)))).trans J}
   . by_cases hj:j=i
     . subst hj;rw[hi] at J;cases J;rw[List.getElem?_set_self hiσ] at e2;cases e2;show{u,r,.inr {.inl hk,c,hc,hc'}}
     . rw[List.getElem?_set_ne (Ne.symm hj)] at e2;let{u',r',q}:=hl j y v' J e2 e3;show{u',r',?_};rcases q with q | ⟨k,c',e,z'⟩
       . show .inl q
       . show .inr {k,c',e,z'.sameBut C ?_};rintro rfl;show hj (V0 hN J (I.ok.inj _ _ _ e hc ▸ hi))
   . by_cases hcc:c'=c
     . subst hcc;show{_,hc'}
     . let{w2,z2}:=I.cell y c' e;show{w2,z2.sameBut C hcc}
   . let{e,n,ne,nf,d}:=I.pin p hp;show{(C.2 p.1 ?_).trans e,n,ne,nf,d};intro q;rw[q,hoc] at e;let q':oc=p.2:=zW e;show d w' (by rwa[<-q'])
def Oh (I:AA X pins σ H s)(C:X.N.Nodup)(hi:X.N[i]?=some x)(o:Ig X.env.scope x)(r:AR v u)
 (h:∀s',AA X pins (σ.set i (some v)) H s'->Q Unit.unit s')(hf:autoParam (X.fn x=true\/X.env.scope.names.lookup x=some .local) d_._auto_1):wpAny M A (storeName X.env x u) Q E s:=
 jA I C hi o r (λs' J _=>h s' J) hf
def AA.call' (I:AA X pins σ H s)(U:s'.os=s.os)(u:Un (A4 X.stack) ch H H' s.heap s'.heap)(o:Al X.prog X.w H' s'.heap)(hg:AllBare s'.gens)
 (C:∀b∈ch,(b∈X.ex\/X.s₀.heap.objs.size<=b)/\b≠X.env.locals/\(∀x c,X.env.cells.lookup x=some c->c≠b)/\∀p∈X.pn++pins,p.1≠b):AA X pins σ H' s':=by
 let{h',g',d',t',J}:=s';let e:J=s.os:=U;subst e;show I.call (g':=g') (t':=t') (d':=d') u o hg C
end
abbrev XK:=Value->Option Addr->Hp->Prop
abbrev St:=List (Option V)
abbrev VK:=V->Hp->Prop
abbrev TE:=St->Hp->VK->Prop
abbrev TT:=St->Hp->(Bool->Hp->Prop)->Prop
abbrev TA:=St->Hp->(List V->Hp->Prop)->Prop
structure Ec where
 nx:St->Hp->Prop
 rt:VK
 bk:St->Hp->Prop:=λ_ _=>False
 ct:St->Hp->Prop:=λ_ _=>False
abbrev TS:=Ec->St->Hp->Prop
def EP (X:Cx)(pins:CT)(σ:St)(Q:VK)(u:Value)(s':Shared):Prop:=∃v H',AA X pins σ H' s'/\AR v u/\Q v H'
def TP (X:Cx)(pins:CT)(σ:St)(Q:Bool->Hp->Prop)(b:Bool)(s':Shared):Prop:=∃H',AA X pins σ H' s'/\Q b H'
def AP (X:Cx)(pins:CT)(σ:St)(Q:List V->Hp->Prop)(us:List Value)(s':Shared):Prop:=∃o H',AA X pins σ H' s'/\AN o us/\Q o H'
def SP (X:Cx)(pins:CT)(D:Ec)(f:Flow)(s':Shared):Prop:=
 match f with
 | .next=>∃ o H',AA X pins o H' s'/\D.nx o H'
 | .brk=>∃ o H',AA X pins o H' s'/\D.bk o H'
 | .cont=>∃ o H',AA X pins o H' s'/\D.ct o H'
 | .ret u=>∃v o H',AA X pins o H' s'/\AR v u/\D.rt v H'
def PE (X:Cx)(e:Expr)(t:TE):Prop:=
 ∀pins s σ H Q,AA X pins σ H s->t σ H Q->wpAny (model X.prog X.w) X.A (eval e X.env) (EP X pins σ Q) X.xe s
def PT (X:Cx)(e:Expr)(t:TT):Prop:=
 ∀pins s σ H Q,AA X pins σ H s->t σ H Q->wpAny (model X.prog X.w) X.A (isTrue e X.env (eval e X.env)) (TP X pins σ Q) X.xe s
def PW (X:Cx)(e:Expr)(t:TT):Prop:=
 ∀whole pins s σ H Q,AA X pins σ H s->t σ H Q->wpAny (model X.prog X.w) X.A (isTrue e X.env whole) (TP X pins σ Q) X.xe s
def PW.pt (h:PW X e t):PT X e t:=h _
def PA (X:Cx)(es:List Expr)(t:TA):Prop:=
 ∀pos pins s σ H Q,AA X pins σ H s->t σ H Q->wpAny (model X.prog X.w) X.A (spliced (backTo pos (starEach es X.env))) (AP X pins σ Q) X.xe s
def PS (X:Cx)(st:Stmt)(t:TS):Prop:=
 ∀pins s σ H D,AA X pins σ H s->t D σ H->wpAny (model X.prog X.w) X.A (exec st X.env) (SP X pins D) X.xe s
def CI (X:Cx)(st:List Stmt)(t:TS):Prop:=
 ∀pins s σ H D,AA X pins σ H s->t D σ H->wpAny (model X.prog X.w) X.A (execs st X.env) (SP X pins D) X.xe s
def AM (h:wpAny M A t Q E s)(o:∀a s,Q a s->Q' a s):wpAny M A t Q' E s:=BB h o λ_ _ x=>x
inductive Z3 (i:Nat)(σ:St)(H:Hp)(Q:VK):Prop
 | mk:∀v,(σ[i]?=some (some v))->(Q v H)->Z3 i σ H Q
def Pa (i:Nat):TE:=λσ H Q=>Z3 i σ H Q
def tC (v:V):TE:=λ_ H Q=>Q v H
def Ll (hN:X.N[i]?=some x)(U:Wj X.env.scope x)(hd:autoParam ((x==("__debug__" : Str))=false) d_._auto_2) (J:autoParam ((x==("__classdict__" : Str))=false) d_._auto_2):PE X (.Name x pos) (Pa i):=by
 intro pins s σ H Q I h;let{v,e,h}:=h;let{m,hn,hl}:=I.loc;let{u,r,l}:=hl i x v hN e U;let fin:EP X pins σ Q u s:=⟨v,H,I,r,h⟩;rcases l with ⟨hk,hm⟩ | ⟨hk,c,C,o⟩
 . show wpAny_Name (wpAny_loadName_local I.ok.kind hk hn hm fin) hd
 . rcases hk with hk | hk
   . show wpAny_Name (wpAny_loadName_cell I.ok.kind hk C o fin) hd
   . show wpAny_Name (wpAny_loadName_free I.ok.kind hk C o fin J) hd
def zg {i j pos}:PE X (.Constant (.int i) j pos) (tC (.int i)):=λ_ _ _ H _ I h=>wpAny_Constant_int {.int i,H,I.tok _,{1},h}
def Ct {b j pos}:PE X (.Constant (.bool b) j pos) (tC (.bl b)):=λ_ _ _ H _ I h=>Constant_bool {.bl b,H,I,0,h}
def Av {j pos}:PE X (.Constant .none j pos) (tC .non):=λ_ _ _ H _ I h=>Constant_none {.non,H,I,0,h}
def Ab {x j pos}:PE X (.Constant (.str x) j pos) (tC (.str x)):=λ_ _ _ H _ I h=>Calls.Constant_str {.str x,H,I.tok _,{1},h}
def Gl (X:Cx)(x:Str):Prop:=X.env.kindOf x=some .globalImplicit
def Nq (I:AA X pins σ H s)(o:Gl X x)(hm:X.mg x=some u)(h:Q u s)
 (hd:autoParam ((x==("__debug__" : Str))=false) d_._auto_2):wpAny (model X.prog X.w) X.A (eval (.Name x pos) X.env) Q E s:=
 Calls.Name_function_global I.ok.kind o (Calls.loadGlobal_global (by rw[I.ok.glob];show I.mod.glob.keeps I.bk) hm h) hd
def Cp (I:AA X pins σ H s)(J:Gl X x)(hm:X.mg x=none)(o:bootBuiltins x=some u)(h:Q u s)
 (C:x ≠ "__name__" := by decide) (hd:autoParam ((x==("__debug__" : Str))=false) d_._auto_2):wpAny (model X.prog X.w) X.A (eval (.Name x pos) X.env) Q E s:=by
 let{mb,h1,U}:=I.mod.blt;show Calls.Name_function_global I.ok.kind J (Calls.loadGlobal_builtin (by rw[I.ok.glob];show I.mod.glob.keeps I.bk) hm (by rw[I.ok.blt];show h1.keeps I.bk) ((U x C).trans o) h) hd
def Fm (o:Gl X x)(hm:X.mg x=some u)(r:AR v u)(hd:autoParam ((x==("__debug__" : Str))=false) d_._auto_2):PE X (.Name x pos) (tC v):=
 λ_ _ _ H _ I h=>Nq I o hm ⟨v,H,I,r,h⟩ hd
def PC (X:Cx)(op:CmpOp)(a b:Expr)(t:TE):Prop:=
 ∀pins s σ H Q,AA X pins σ H s->t σ H Q ->
  wpAny (model X.prog X.w) X.A (eval a X.env) (λv C=>wpAny (model X.prog X.w) X.A (eval b X.env) (λu o=>wpAny (model X.prog X.w) X.A (compareOp op v u) (EP X pins σ Q) X.xe o) X.xe C) X.xe s
inductive QJ (Q:Bool->Hp->Prop)(x:V)(H1:Hp):Prop
 | mk:∀c,(x=.bl c)->(Q c H1)->QJ Q x H1
def tB (t:TE):TT:=λσ H Q=>t σ H λx H1=>QJ Q x H1
def M9 (h:PC X op a b t)(o:autoParam (behindInMarks op b=false) d_._auto_3):PT X (.Compare a [op] [b] pos) (tB t):=by intro pins s σ H Q I hw;show wpAny_isTrue_Compare1 (AM (h pins s σ H _ I hw) λv s1 o=>AM o λu s2 U=>AM U λc s3 ⟨x,H1,I1,C,J⟩=>?_) o;let{d,0,q}:=J;cases C;show Fh ⟨H1,I1,q⟩
def BR (h:PE X e t)(he:autoParam (∀whole,isTrue e X.env whole=(do let v <-whole;standAt e.pos;holding [v] (truthy v))) d_._auto_4):PT X e (tB t):=by intro pins s σ H Q I hw;show isTrue_plain (AM (h pins s σ H _ I hw) λv s1 ⟨x,H1,J,o,C⟩=>?_) (he _);let{d,0,q}:=C;cases o;show Fh ⟨H1,J,q⟩
def XI (t u:TT):TT:=λσ H Q=>t σ H λc H1=>if c=true then u σ H1 Q else Q false H1
def mY (t u:TT):TT:=λσ H Q=>t σ H λc H1=>if c=true then Q true H1 else u σ H1 Q
def Xu (t:TT):TT:=λσ H Q=>t σ H λc H1=>Q (!c) H1
def Sx (o:PT X a tA):PW X (.BoolOp .And [a] pos) tA:=by
 intro C pins s σ H Q I h;show isTrue_and (AM (o pins s σ H Q I h) λc s1 e=>?_);cases c with
 | true=>show isTrue_and_nil e
 | false=>show e
def C6 (o:PT X a tA):PW X (.BoolOp .Or [a] pos) tA:=by
 intro C pins s σ H Q I h;show isTrue_or (AM (o pins s σ H Q I h) λc s1 e=>?_);cases c with
 | false=>show isTrue_or_nil e
 | true=>show e
def SA (ha:PT X a tA)(U:PW X (.BoolOp .And (b::rest) pos) tB'):PW X (.BoolOp .And (a::b::rest) pos) (XI tA tB'):=by
 intro J pins s σ H Q I h;show isTrue_and (AM (ha pins s σ H _ I h) λc s1 ⟨H1,C,o⟩=>?_);cases c with
 | true=>show U J pins s1 σ H1 Q C o
 | false=>show⟨H1,C,o⟩
def Cc (ha:PT X a tA)(U:PW X (.BoolOp .Or (b::rest) pos) tB'):PW X (.BoolOp .Or (a::b::rest) pos) (mY tA tB'):=by
 intro J pins s σ H Q I h;show isTrue_or (AM (ha pins s σ H _ I h) λc s1 ⟨H1,C,o⟩=>?_);cases c with
 | true=>show⟨H1,C,o⟩
 | false=>show U J pins s1 σ H1 Q C o
def Bw (o:PT X a tA):PT X (.UnaryOp .Not a pos) (Xu tA):=by intro pins s σ H Q I h;show isTrue_not (o pins s σ H (λc H1=>Q (!c) H1) I h)
def Rb (ta tb:TE):TE:=λσ H Q=>ta σ H λx H1=>∃c,x=.bl c/\if c=true then tb σ H1 Q else Q (.bl false) H1
def Xr (ta tb:TE):TE:=λσ H Q=>ta σ H λx H1=>∃c,x=.bl c/\if c=true then Q (.bl true) H1 else tb σ H1 Q
def Rh (ta:TE):TE:=λσ H Q=>ta σ H λx H1=>∃c,x=.bl c/\Q (.bl (!c)) H1
def ES {op} (h:PE X a t):PE X (.BoolOp op [a] pos) t:=λpins s σ H Q I hw=>BoolOp_one (h pins s σ H Q I hw)
def ED (ha:PE X a ta)(U:PE X (.BoolOp .And (b::rest) pos) tb):PE X (.BoolOp .And (a::b::rest) pos) (Rb ta tb):=by
 intro pins s σ H Q I h;show BoolOp_and (AM (ha pins s σ H _ I h) λv s1 ⟨x,H1,C,J,o⟩=>?_);let{c,0,o}:=o;cases J;show Fh ?_;cases c with
 | true=>show U pins s1 σ H1 Q C o
 | false=>show{.bl false,H1,C,0,o}
def IP (ha:PE X a ta)(U:PE X (.BoolOp .Or (b::rest) pos) tb):PE X (.BoolOp .Or (a::b::rest) pos) (Xr ta tb):=by
 intro pins s σ H Q I h;show BoolOp_or (AM (ha pins s σ H _ I h) λv s1 ⟨x,H1,C,J,o⟩=>?_);let{c,0,o}:=o;cases J;show Fh ?_;cases c with
 | false=>show U pins s1 σ H1 Q C o
 | true=>show{.bl true,H1,C,0,o}
def LN (J:PE X a ta):PE X (.UnaryOp .Not a pos) (Rh ta):=by intro pins s σ H Q I h;show UnaryOp_ (AM (J pins s σ H _ I h) λv s1 ⟨x,H1,U,C,o⟩=>?_);let{c,0,o}:=o;cases C;show not_of (Fh {.bl (!c),H1,U,0,o})
def mU (t:TT)(ta tb:TE):TE:=λσ H Q=>t σ H λc H1=>if c=true then ta σ H1 Q else tb σ H1 Q
def NM (J:PT X c tA)(ha:PE X a ta)(U:PE X b tb):PE X (.IfExp c a b pos) (mU tA ta tb):=by
 intro pins s σ H Q I h;show wpAny_IfExp (AM (J pins s σ H _ I h) λd s1 ⟨H1,C,o⟩=>?_);cases d with
 | true=>show ha pins s1 σ H1 Q C o
 | false=>show U pins s1 σ H1 Q C o
def AD (K:AK)(H:Hp)(a:Addr)(xs:List V):Prop:=
 Rd H a (.lst xs) \/
  ∃o its n,K.lookup a=some o/\o.cls=.type "list"/\o.dict=none/\o.data=.seq its n/\its.size<=sizeLine/\AN xs its.toList
def AB (K:AK)(H:Hp)(a:Addr)(xs:List V):Prop:=
 Rd H a (.tup xs) \/
  ∃o its n,K.lookup a=some o/\o.cls=.type "tuple"/\o.data=.seq its n/\its.size<=sizeLine/\AN xs its.toList
meta def XA:Value->Option V
 | .none=>some .non
 | .bool b=>some (.bl b)
 | .int i _=>some (.int i)
 | .str x _=>some (.str x)
 | .bytes b _=>some (.byt b)
 | .float b _=>some (.flt b)
 | .ref a=>some (.ref a)
 | .type n=>some (.ty n)
 | _=>none
def AR.abs (r:AR x u):XA u=some x:=by
 cases x with
 | non=>cases r;rfl
 | bl _=>cases r;rfl
 | int _=>let{t,0}:=r;rfl
 | str _=>let{t,0}:=r;rfl
 | byt _=>let{t,0}:=r;rfl
 | flt _=>let{t,0}:=r;rfl
 | ref _=>cases r;rfl
 | ty _=>cases r;rfl
def AR.inj (r:AR x u)(q:AR y u):x=y:=zW (r.abs.symm.trans q.abs)
def AN.inj:∀{xs ys:List V}{us:List Value},AN xs us->AN ys us->xs=ys
 | _,_,_,.nil,.nil=>rfl
 | _,_,_,.cons r t,.cons r' t'=>by rw[r.inj r',AN.inj t t']
def AD.of {K:AK}(h:H a=some (.lst xs)):AD K H a xs:=.inl (.inl h)
def AB.of {K:AK}(h:H a=some (.tup xs)):AB K H a xs:=.inl (.inl h)
def AA.list (I:AA X pins σ H s)(h:AD X.K H a xs):∃its:List Value,AN xs its/\PlainL s.heap a its.toArray/\xs.length<=sizeLine:=by
 rcases h with h | ⟨o,its,n,J,U,hd,C,hz,r⟩
 . let{z,its,n,r,e}:=h.ok I.hok;show{its,r,{_,n,e,8},z}
 . show{its.toList,r,{o,n,I.kIn a o J,U,hd,by simpa using C},?_};let e:=r.length;simp only[Array.length_toList] at e
   lia
def AA.tuple (I:AA X pins σ H s)(h:AB X.K H a xs):∃its:List Value,AN xs its/\IsTup s.heap a its.toArray/\xs.length<=sizeLine:=by
 rcases h with h | ⟨o,its,n,J,U,C,hz,r⟩
 . let{{z,_},its,r,p}:=h.ok I.hok;show⟨its,r,p,z⟩
 . show{its.toList,r,{o,I.kIn a o J,U,n,by simpa using C},?_};let e:=r.length;simp only[Array.length_toList] at e
   lia
def AA.list_inj (I:AA X pins σ H s)(h:AD X.K H a xs)(h':AD X.K H a ys):xs=ys:=by
 let{its,r,{o,n,e,3,d},_}:=I.list h;let{C,r',{o',n',J,3,U},_}:=I.list h';rw[e] at J;cases J;rw[d] at U;injection U with d1 _;let:its=C:=by simpa using congrArg Array.toList d1
 subst this;show r.inj r'
def AA.tuple_inj (I:AA X pins σ H s)(h:AB X.K H a xs)(h':AB X.K H a ys):xs=ys:=by
 let{its,r,{o,e,_,n,d},_}:=I.tuple h;let{C,r',{o',J,_,n',U},_}:=I.tuple h';rw[e] at J;cases J;rw[d] at U;injection U with d1 _;let:its=C:=by simpa using congrArg Array.toList d1
 subst this;show r.inj r'
meta abbrev Cx.wish (X:Cx)(E:Bt):Cx:={ X with xe:=E }
meta abbrev Cx.nox (X:Cx):Cx:=X.wish λ_ _=>False
def Cx.Ok.wish {X:Cx}(ok:X.Ok)(E):(X.wish E).Ok:=
 ⟨ok.mod,ok.kind,ok.glob,ok.blt,ok.above,ok.inj,ok.has,ok.cab,ok.hd,ok.frames,ok.stk,ok.exf,ok.bs,ok.bsz,ok.noex,ok.exfs,ok.funs,ok.frf⟩
def Cx.Ok.unwish {X:Cx}(ok:(X.wish E).Ok):X.Ok:=
 ⟨ok.mod,ok.kind,ok.glob,ok.blt,ok.above,ok.inj,ok.has,ok.cab,ok.hd,ok.frames,ok.stk,ok.exf,ok.bs,ok.bsz,ok.noex,ok.exfs,ok.funs,ok.frf⟩
def AA.wish (I:AA X pins σ H s)(E):AA (X.wish E) pins σ H s:={I.ok.wish E,I.os,I.bare,I.base,I.loc,I.cell,I.free,I.freeC,I.pin,I.hok,I.len}
def AA.unwish (I:AA (X.wish E) pins σ H s):AA X pins σ H s:=⟨I.ok.unwish,I.os,I.bare,I.base,I.loc,I.cell,I.free,I.freeC,I.pin,I.hok,I.len⟩
def SP.unwish (h:SP (X.wish E) pins D f s'):SP X pins D f s':=by
 cases f with
 | next=>let{o,H',I,q}:=h;show⟨o,H',I.unwish,q⟩
 | brk=>let{o,H',I,q}:=h;show⟨o,H',I.unwish,q⟩
 | cont=>let{o,H',I,q}:=h;show⟨o,H',I.unwish,q⟩
 | ret u=>let{v,o,H',I,r,q}:=h;show⟨v,o,H',I.unwish,r,q⟩
def CI.nox {st:List Stmt}(h:CI X.nox st t):CI X st t:=λpins s σ H D I hw=>
 BB (h pins s σ H D (I.wish _) hw) (λ_ _ q=>q.unwish) λ_ _ z=>False.elim z
section
variable {X:Cx}{st:Stmt}{rest:List Stmt}{t u:TS}{e:Expr}{te:TE}{pos:Pos}
def Qu:TS:=λD σ H=>D.nx σ H
def Xv (t u:TS):TS:=λD σ H=>t { D with nx:=u D } σ H
def zw:CI X [] Qu:=λ_ _ σ H _ I h=>wpAny_execs_nil ⟨σ,H,I,h⟩
def zP (J:PS X st t)(C:CI X rest u):CI X (st::rest) (Xv t u):=by
 intro pins s σ H D I h;show wpAny_execs_cons (AM (J pins s σ H { D with nx:=u D } I h) λf s1 q=>?_);cases f with
 | next=>let{o,H',U,q}:=q;show C pins s1 o H' D U q
 | ret v=>show q
 | brk=>show q
 | cont=>show q
def zV (o:PS X st t):CI X [st] t:=by
 intro pins s σ H D I h;show wpAny_execs_cons (AM (o pins s σ H D I h) λf s1 q=>?_);cases f with
 | next=>show wpAny_execs_nil q
 | ret v=>show q
 | brk=>show q
 | cont=>show q
def AA.quiet (I:AA X pins σ H s):interactive X.env=false:=by simp[interactive,I.ok.kind]
def P2 (te:TE):TS:=λD σ H=>te σ H λ_ H1=>D.nx σ H1
def Dh (he:PE X e te)(C:autoParam (swapsWith e none pos.line X.env=pure false) d_._auto_5):PS X (.Expr e pos) (P2 te):=by intro pins s σ H D I h;show wpAny_Expr_any (AM (he pins s σ H _ I h) λv s1 ⟨x,H1,J,U,o⟩=>⟨σ,H1,J,o⟩) I.quiet C
def Wi (te:TE):TS:=λD σ H=>te σ H D.rt
def zt (he:PE X e te):PS X (.Return (some e) pos) (Wi te):=by intro pins s σ H D I h;show wpAny_Return_some (AM (he pins s σ H _ I h) λv s1 ⟨x,H1,J,o,C⟩=>⟨x,σ,H1,J,o,C⟩)
def WZ (c:TT)(t u:TS):TS:=λD σ H=>c σ H λb H1=>if b=true then t D σ H1 else u D σ H1
def AV (J:PT X c tc)(ha:CI X a t)(U:CI X b u):PS X (.If c a b pos) (WZ tc t u):=by
 intro pins s σ H D I h;show wpAny_If (AM (J pins s σ H _ I h) λd s1 ⟨H1,C,o⟩=>?_);cases d with
 | true=>show ha pins s1 σ H1 D C o
 | false=>show U pins s1 σ H1 D C o
end
abbrev TG:=V->St->Hp->(St->Hp->Prop)->Prop
abbrev LY:=List V->St->Hp->(St->Hp->Prop)->Prop
def PG (X:Cx)(target:Expr)(t:TG):Prop:=
 ∀pins s σ H v u Q,AA X pins σ H s->AR v u->t v σ H Q ->
  wpAny (model X.prog X.w) X.A (assign target X.env u) (λ_ o=>∃ σ' H',AA X pins σ' H' o/\Q σ' H') X.xe s
def Qh (X:Cx)(ts:List Expr)(t:LY):Prop:=
 ∀pins s σ H o us Q,AA X pins σ H s->AN o us->t o σ H Q ->
  wpAny (model X.prog X.w) X.A (assignInOrder ((assignEach ts X.env).map (·.2)) us) (λ_ C=>∃ σ' H',AA X pins σ' H' C/\Q σ' H') X.xe s
abbrev R4:=V->V->V->Hp->(Hp->Prop)->Prop
def Rw (X:Cx)(t:R4):Prop:=
 ∀pins s σ H o i v C I u Q,AA X pins σ H s->AR o C->AR i I->AR v u->t o i v H Q ->
  wpAny (model X.prog X.w) X.A (setItem C I u) (λ_ J=>∃H',AA X pins σ H' J/\Q H') X.xe s
def NO (i:Nat):TG:=λv σ H Q=>Q (σ.set i (some v)) H
def Cb (C:X.N.Nodup)(hi:X.N[i]?=some x)(o:Ig X.env.scope x)(hf:autoParam (X.fn x=true\/X.env.scope.names.lookup x=some .local) d_._auto_1):PG X (.Name x pos) (NO i):=by intro pins s σ H v u Q I r h;show wpAny_assign_Name (Oh I C hi o r (λU J=>{_,H,J,h}) hf)
def Xs:LY:=λo σ H Q=>o=[]/\Q σ H
inductive cb (t:TG)(u:LY)(vs:List V)(σ:St)(H:Hp)(Q:St->Hp->Prop):Prop
 | mk:∀v r,(vs=v::r)->(t v σ H λσ' H'=>u r σ' H' Q)->cb t u vs σ H Q
def Qv (t:TG)(u:LY):LY:=λo σ H Q=>cb t u o σ H Q
def Cj:Qh X [] Xs:=by intro pins s σ H o us Q I r h;let{e,h}:=h;subst e;cases r;show assignInOrder_nil ⟨σ,H,I,h⟩
def Ai (h1:PG X e t)(h2:Qh X es u)
 (U:autoParam ((assignEach (e::es) X.env).map (·.2)=assign e X.env::(assignEach es X.env).map (·.2)) d_._auto_5):Qh X (e::es) (Qv t u):=by
 intro pins s σ H vs us Q I r h;let{v,vr,e1,h}:=h;subst e1;cases r with
 | cons r C=>rw[U];show assignInOrder_cons (AM (h1 pins s σ H _ _ _ I r h) λ_ s1 ⟨o,H1,I1,J⟩=>?_);show h2 pins s1 o H1 _ _ Q I1 C J
inductive Yi (K:AK)(n:Nat)(t:LY)(v:V)(σ:St)(H:Hp)(Q:St->Hp->Prop):Prop
 | mk:∀a xs,(v=.ref a)->(AB K H a xs)->(xs.length=n)->(t xs σ H Q)->Yi K n t v σ H Q
def P0 (K:AK)(n:Nat)(t:LY):TG:=λv σ H Q=>Yi K n t v σ H Q
def EU (hc:X.calm=true)(h:Qh X es t)
 (hn:autoParam ((assignEach es X.env).length=n) d_._auto_5)(C:autoParam ((assignEach es X.env).findIdx? (·.1)=none) d_._auto_5):PG X (.Tuple es k pos) (P0 X.K n t):=by
 intro pins s σ H v u Q I r hw;let{a,xs,e1,hq,hl,hw}:=hw;subst e1;cases r;let{its,J,ht,hz}:=I.tuple hq;show assign_Tuple_tuple (I.ok.hd hc) ht (by simp[hn,<-hl,J.length]) C λh' U=>?_;let I1:AA X pins σ H { s with heap:=h' }:=I.kept (t':=s.toks) λb o e=>U b o (zb (zU e)) e;show h pins _ σ H xs _ Q I1 (by simpa using J) hw
def Wv (to C:TE)(t:R4):TG:=λv σ H Q=>to σ H λo H1=>C σ H1 λi I=>t o i v I λH3=>Q σ H3
def TV (ho:PE X o to)(hi:PE X i ti)(hs:Rw X t)
 (ha:autoParam (∀v,assign (.Subscript o i pos) X.env v=(do
  let C <-holding [v] (eval o X.env);let J <-holding [v,C] (eval i X.env)
  standAt pos
  holding [v,C,J] (setItem C J v)
  release [v,C,J] [])) d_._auto_4):PG X (.Subscript o i pos) (Wv to ti t):=by
 intro pins s σ H v u Q I r h;rw[ha];show zA (zy (AM (ho pins s σ H _ I h) λC s1 ⟨x,H1,I1,r1,q1⟩=>?_));show zA (zy (AM (hi pins s1 σ H1 _ I1 q1) λJ s2 ⟨y,H2,I2,U,q2⟩=>?_));show zA (wpAny_standAt (zA (zy (AM (hs pins s2 σ H2 x y v C J u _ I2 r1 U r q2) λ_ s3 ⟨H3,I3,q3⟩=>?_))));show wpAny_release ⟨σ,H3,I3,q3⟩
def Hb (te:TE)(g:TG):TS:=λD σ H=>te σ H λx H1=>g x σ H1 D.nx
def SH (he:PE X e te)(U:PG X tg g)(J:autoParam (swapsWithSole [tg] e pos.line X.env=pure false) d_._auto_5)(hw:autoParam (swappedStores [tg] e X.env=pure none) d_._auto_5)
 (h1:autoParam ((assignEach [tg] X.env).map (·.2)=[assign tg X.env]) d_._auto_5):PS X (.Assign [tg] e pos) (Hb te g):=by
 intro pins s σ H D I h;show wpAny_Assign_stores (AM (he pins s σ H _ I h) λv s1 ⟨x,H1,I1,o,C⟩=>?_) J hw;rw[h1];show AM (U pins s1 σ H1 x v _ I1 o C) λ_ s2 q=>q
def Jy (hN:X.N.Nodup)(hi:X.N[i]?=some x)(J:Ig X.env.scope x)(he:PE X e te)(U:autoParam (swapsWith e (some (.Name x pos')) pos.line X.env=pure false) d_._auto_5)(hf:autoParam (X.fn x=true\/X.env.scope.names.lookup x=some .local) d_._auto_1):
 PS X (.Assign [.Name x pos'] e pos) (Hb te (NO i)):=by
 intro pins s σ H D I h;show wpAny_Assign_Name (AM (he pins s σ H _ I h) λv s1 ⟨y,H1,I1,o,C⟩=>?_) U;show Oh I1 hN hi J o (λs2 I2=>{_,H1,I2,C}) hf
def Kl (c:TT)(tb:TS):TS:=λD σ H=>∃W:Nat->St->Hp->Prop,(∃m,W m σ H)/\∀m σ H,W m σ H ->
 c σ H λb H1=>if b=true then ∃N:St->Hp->Prop,(∀ σ' H',N σ' H'->∃o,o<m/\W o σ' H')/\tb { D with nx:=N,ct:=N,bk:=D.nx } σ H1 else D.nx σ H1
def cP (hp:PassesOwn (model X.prog X.w) X.A X.env X.xe)(hc:PT X c tc)(hb:CI X body tb):PS X (.While c body [] pos) (Kl tc tb):=by
 intro pins s σ H D I h;let{W,{m0,w0},turn}:=h;show wpAny_While (codeAny_whileLoop (λn s'=>∃ σ' H',AA X pins σ' H' s'/\W n σ' H') ?_ m0 ⟨σ,H,I,w0⟩);rintro n s1 ⟨C,H1,I1,w1⟩;show wpAny_passesOwn hp (AM (hc pins s1 C H1 _ I1 (turn n C H1 w1)) λb s2 ⟨H2,I2,U⟩=>?_);cases b with
 | true=>
  let{N,hN,U}:=U;rw[if_pos rfl];show wpAny_passesOwn hp (AM (hb pins s2 C H2 _ I2 U) λf s3 J=>?_);cases f with
  | next=>let{o,H3,I3,n3}:=J;let{m',hm,w3}:=hN o H3 n3;show⟨m',hm,o,H3,I3,w3⟩
  | cont=>let{o,H3,I3,n3}:=J;let{m',hm,w3}:=hN o H3 n3;show⟨m',hm,o,H3,I3,w3⟩
  | brk=>show J
  | ret v=>show J
 | false=>rw[if_neg zf];show wpAny_execs_nil ⟨C,H2,I2,U⟩
structure It where
 go:Nat->Hp->Prop
 yld:Nat->Hp->V->Hp->Prop
 stop:Nat->Hp->Prop
def EC (X:Cx)(pins:CT)(H:Hp)(b:Addr):Prop:=
 H b=none/\b≠X.env.locals/\b∉X.fs/\(b∈X.ex\/X.s₀.heap.objs.size<=b)/\(∀x c,X.env.cells.lookup x=some c->c≠b)/\∀p∈X.pn++pins,p.1≠b
def AA.fpOk (I:AA X pins σ H s)(o:s.heap.objs.size<=b)(J:H' b=none):EC X pins H' b:=by
 show{J,Nat.ne_of_gt (zk I.lt o),I.nofs o,.inr (zn I.sz o),λx c e z=>?_,λp C z=>?_}
 . let{v,q}:=I.cell x c e;show absurd (zk q.lt (by rwa[z])) (GJ _)
 . show absurd (zk (zU (I.pin p C).1) (by rwa[z])) (GJ _)
structure IB (P:Program)(w:World)(K:AK)(tg:Expr)(J:It)(fp:List Addr)(it:Addr)(tn:Nat->Heap->Prop):Prop where
 mem:it∈fp
 obj:∀i h,tn i h->∀b∈fp,∃o,h.get? b=some o/\∀v,o.data ≠ .cell v
 keep:∀i h h',tn i h->(∀b∈fp,∀o,h.get? b=some o->h'.get? b=some o)->tn i h'
 item:∀(X:Cx),X.prog=P->X.w=w->X.K=K->X.calm=true->∀(i:Nat)(pins:CT)(s:Shared)(σ:St)(H:Hp)(E:Bt),AA X pins σ H s->(∀b∈fp,EC X pins H b)->tn i s.heap->J.go i H ->
  wpAny (model P w) X.A (pyNext (.ref it)) (λr s1=>∃u,r=some u /\
   wpAny (model P w) X.A (letOwnedTupleGo tg (.ref it) u) (λ_ s2=>∃x H',AA X pins σ H' s2/\AR x u/\J.yld i H x H'/\tn (i+1) s2.heap/\∀b∈fp,H' b=none) E s1) E s
 done:∀(X:Cx),X.prog=P->X.w=w->X.K=K->X.calm=true->∀(i:Nat)(pins:CT)(s:Shared)(σ:St)(H:Hp)(E:Bt),AA X pins σ H s->(∀b∈fp,EC X pins H b)->tn i s.heap->J.stop i H ->
  wpAny (model P w) X.A (pyNext (.ref it)) (λr s1=>r=none/\AA X pins σ H s1) E s
 self:∀(A:Around)(i:Nat)(s:Shared)(Q:Bt)(E:Bt),tn i s.heap->Q (.ref it) s->wpAny (model P w) A (pyIter (.ref it)) Q E s
abbrev TI:=St->Hp->(It->Hp->Prop)->Prop
def du (X:Cx)(pins:CT)(σ:St)(I:Expr)(R:It->Hp->Prop)(o:Value)(s2:Shared):Prop:=
 ∃it fp C J H',o=.ref it/\AA X pins σ H' s2/\IB X.prog X.w X.K I J fp it C/\C 0 s2.heap/\(∀b∈fp,EC X pins H' b)/\R J H'
def PI (X:Cx)(C iter:Expr)(o:TI):Prop:=
 ∀pins s σ H R,AA X pins σ H s->o σ H R ->
  wpAny (model X.prog X.w) X.A (eval iter X.env) (λv s1=>wpAny (model X.prog X.w) X.A (pyIter v) (du X pins σ C R) X.xe s1) X.xe s
def OY (I:s.heap.get? it=some o)(U:o.cls=.type n)(hd:o.data=.fields vs)
 (J:["enumerate", "zip", "dict_itemiterator", "dict_reverseitemiterator", "odict_iterator", "itertools.zip_longest", "itertools.pairwise"].contains n=false) (C:Q Unit.unit s):wpAny M A (letOwnedTupleGo tg (.ref it) u) Q E s:=by
 unfold letOwnedTupleGo;cases tg <;> first
  | show zE C
  | (cases u <;> first
   | show zE C
   | (show zA (wpAny_load I ?_)
      rw[U,hd];change wpAny M A (if (["enumerate", "zip", "dict_itemiterator", "dict_reverseitemiterator", "odict_iterator", "itertools.zip_longest", "itertools.pairwise"].contains n && vs[0]? == some (rawInt _))=true then _ else _) Q E s
      rw[if_neg (by intro h;rw[J,Bool.false_and] at h;cases h)];show zE C))
meta def N5 (K:AK)(a:Addr):It:=
 {λi H=>∃xs x,AD K H a xs/\xs[i]?=some x,λi H x H'=>H'=H/\∀xs,AD K H a xs->xs[i]?=some x,λi H=>∃xs,AD K H a xs/\xs.length<=i}
meta def N8 (K:AK)(a:Addr):It:=
 {λi H=>∃xs x,AB K H a xs/\xs[i]?=some x,λi H x H'=>H'=H/\∀xs,AB K H a xs->xs[i]?=some x,λi H=>∃xs,AB K H a xs/\xs.length<=i}
meta def Ii (lo:Int)(n:Nat):It:={λi _=>i<n,λi H x H'=>H'=H/\x=.int (lo+i),λi _=>n<=i}
def eB {P:Program}{w:World}{K:AK}{tg:Expr}(a it:Addr):IB P w K tg (N5 K a) [it] it (λi h=>h.IsListIter it a i) where
 mem:=by simp
 obj:=λi h st b C=>by
  let e:b=it:=by simpa using C
  subst e;let{o,e,c,d}:=st;show{o,e,λv z=>by rw[d] at z;cases z}
 keep:=λi h h' st k=>st.at λo e=>k it (by simp) o e
 item:=by intro X hP hw hK hc i pins s σ H E I hf st hg;subst hP hw hK;let{xs,x,J,hx}:=hg;let{its,U,p,hz}:=I.list J;let{u,hu,ru}:=U.get hx;let{f0,f1,f2,f3,f4,f5}:=hf it (by simp);show wpAny_pyNext_list_item st p.isList (x:=u) (by simpa using hu) λh' oB sb=>?_;let I1:AA X pins σ H { s with heap:=h' }:=I.turned (t':=s.toks) (λb o C e=>(sb.2 b C).trans e) f0 f1 f3 f4 f5;let{o,e,c,d}:=id oB;show{u,0,OY (s:={ s with heap:=h' }) e c d (by decide) {x,H,I1,ru,{0,λys hy=>by rwa[I.list_inj hy J]},oB,λb C=>(hf b C).1}}
 done:=by intro X hP hw hK hc i pins s σ H E I hf st hg;subst hP hw hK;let{xs,J,hx}:=hg;let{its,U,p,hz}:=I.list J;let{f0,f1,f2,f3,f4,f5}:=hf it (by simp);let hl:=U.length;show wpAny_pyNext_list_end (I.ok.hd hc) st p.isList (by simp;lia) λh' eb=>{0,I.turned (t':=s.toks) (λb o C e=>eb b o C e) f0 f1 f3 f4 f5}
 self:=λ_ _ _ _ _ st h=>wpAny_pyIter_listiter st h
def lA {P:Program}{w:World}{K:AK}{tg:Expr}(a it:Addr):IB P w K tg (N8 K a) [it] it (λi h=>h.IsTupleIter it a i) where
 mem:=by simp
 obj:=λi h st b C=>by
  let e:b=it:=by simpa using C
  subst e;let{o,e,c,d}:=st;show{o,e,λv z=>by rw[d] at z;cases z}
 keep:=λi h h' st k=>st.at λo e=>k it (by simp) o e
 item:=by intro X hP hw hK hc i pins s σ H E I hf st hg;subst hP hw hK;let{xs,x,J,hx}:=hg;let{its,U,p,hz}:=I.tuple J;let{u,hu,ru}:=U.get hx;let{f0,f1,f2,f3,f4,f5}:=hf it (by simp);show wpAny_pyNext_tuple_item st (show s.heap.IsTuple a its.toArray from p) (x:=u) (by simpa using hu) λh' oB sb=>?_;let I1:AA X pins σ H { s with heap:=h' }:=I.turned (t':=s.toks) (λb o C e=>(sb.2 b C).trans e) f0 f1 f3 f4 f5;let{o,e,c,d}:=id oB;show{u,0,OY (s:={ s with heap:=h' }) e c d (by decide) {x,H,I1,ru,{0,λys hy=>by rwa[I.tuple_inj hy J]},oB,λb C=>(hf b C).1}}
 done:=by intro X hP hw hK hc i pins s σ H E I hf st hg;subst hP hw hK;let{xs,J,hx}:=hg;let{its,U,p,hz}:=I.tuple J;let{f0,f1,f2,f3,f4,f5}:=hf it (by simp);let hl:=U.length;show wpAny_pyNext_tuple_end (I.ok.hd hc) st (show s.heap.IsTuple a its.toArray from p) (by simp;lia) λh' eb=>{0,I.turned (t':=s.toks) (λb o C e=>eb b o C e) f0 f1 f3 f4 f5}
 self:=λ_ _ _ _ _ st h=>wpAny_pyIter_tupleiter st h
def k8 {P:Program}{w:World}{K:AK}{tg:Expr}(it:Addr)(lo:Int)(n:Nat):IB P w K tg (Ii lo n) [it] it (λi h=>IsRangeIter h it (lo+(i:Nat)*1) ((n:Int)-(i:Nat)) 1) where
 mem:=by simp
 obj:=λi h st b C=>by
  let e:b=it:=by simpa using C
  subst e;show{_,st,λv z=>by let z':Data.fields _=Data.cell v:=z;cases z'}
 keep:=λi h h' st k=>k it (by simp) _ st
 item:=by intro X hP hw hK U i pins s σ H E I hf st J;subst hP hw hK;let{f0,f1,f2,f3,f4,f5}:=hf it (by simp);let W:=Walks.range (prog:=X.prog) (w:=X.w) (I.ok.hd U) it lo 1 n;show W.item i s _ _ J st λv h' tk hv oB kk=>?_;let{t,0}:=hv;let I1:AA X pins σ H { s with heap:=h',toks:=tk }:=I.turned (λb o C e=>kk b o (by simpa using C) e) f0 f1 f3 f4 f5;show{1,OY (s:={ s with heap:=h',toks:=tk }) (n := "range_iterator") oB rfl rfl (by decide) {.int (lo+i),H,I1,{t,?_},{2},oB,λb C=>(hf b C).1}};rw[Int.mul_one]
 done:=by intro X hP hw hK U i pins s σ H E I hf st J;subst hP hw hK;let{f0,f1,f2,f3,f4,f5}:=hf it (by simp);show wpAny_pyNext_range_end (I.ok.hd U) st (by let:n<=i:=J;lia) λh' eb=>{0,I.turned (t':=s.toks) (λb o C e=>eb b o C e) f0 f1 f3 f4 f5}
 self:=λ_ _ _ _ _ st h=>wpAny_pyIter_rangeiter st h
inductive cS (K:AK)(R:It->Hp->Prop)(x:V)(H1:Hp):Prop
 | mk:∀a,(x=.ref a)->((∃xs,AD K H1 a xs))->(R (N5 K a) H1)->cS K R x H1
def Ro (K:AK)(tl:TE):TI:=λσ H R=>tl σ H λx H1=>cS K R x H1
inductive Yz (K:AK)(R:It->Hp->Prop)(x:V)(H1:Hp):Prop
 | mk:∀a,(x=.ref a)->((∃xs,AB K H1 a xs))->(R (N8 K a) H1)->Yz K R x H1
def Xo (K:AK)(tl:TE):TI:=λσ H R=>tl σ H λx H1=>Yz K R x H1
def C2 (hl:PE X l tl):PI X tg l (Ro X.K tl):=by
 intro pins s σ H R I h;show AM (hl pins s σ H _ I h) λv s1 ⟨x,H1,C,J,U⟩=>?_;let{a,e,{xs,hq},q}:=U;subst e;cases J;let{its,rv,p,hz}:=C.list hq;show Ho p.isList ?_;show{s1.heap.objs.size,[s1.heap.objs.size],3,H1,0,C.kept (t':=s1.toks) λb o e=>zG _ e,eB a _,{_,zM _ rfl,2},λb hb=>?_,q};let e:b=s1.heap.objs.size:=by simpa using hb
 subst e;show C.fpOk (zH _) (C.hok.fresh (zH _))
def BP (hl:PE X l tl):PI X tg l (Xo X.K tl):=by
 intro pins s σ H R I h;show AM (hl pins s σ H _ I h) λv s1 ⟨x,H1,C,J,U⟩=>?_;let{a,e,{xs,hq},q}:=U;subst e;cases J;let{its,rv,p,hz}:=C.tuple hq;show wpAny_pyIter_tuple (show s1.heap.IsTuple a its.toArray from p) ?_;show{s1.heap.objs.size,[s1.heap.objs.size],3,H1,0,C.kept (t':=s1.toks) λb o e=>zG _ e,lA a _,{_,zM _ rfl,2},λb hb=>?_,q};let e:b=s1.heap.objs.size:=by simpa using hb
 subst e;show C.fpOk (zH _) (C.hok.fresh (zH _))
def Ze {lo:Int}(I:AA X pins σ H s)(h1 : -(2 ^ 62)<=lo)(h2:lo<2 ^ 62)(h3 : -(2 ^ 62)<=hi)(U:hi<2 ^ 62)
 (q:R (Ii lo (hi-lo).toNat) H):wpAny (model X.prog X.w) X.A (pyIter (.ref s.heap.objs.size)) (du X pins σ tg R) E { s with heap:=s.heap.push { cls:=.type "range",data:=.fields #[.int lo t,.int hi u,.int 1 v] },toks:=tk }:=by
 show wpAny_pyIter_range (IsRange.new ..) (small_one h1 h2 h3 U) ?_;let C:AA X pins σ H { s with heap:=s.heap.push { cls:=.type "range",data:=.fields #[.int lo t,.int hi u,.int 1 v] },toks:=tk }:=I.kept λb o e=>zG _ e;show{(s.heap.push { cls:=.type "range",data:=.fields #[.int lo t,.int hi u,.int 1 v] }).objs.size,[(s.heap.push { cls:=.type "range",data:=.fields #[.int lo t,.int hi u,.int 1 v] }).objs.size],3,H,0,
  C.kept (t':=tk) λb o e=>zG _ e,k8 _ lo (hi-lo).toNat,?_,λb J=>?_,q}
 . let e1:lo+((0:Nat):Int)*1=lo:=by simp
   let e2:(((hi-lo).toNat:Nat):Int)-((0:Nat):Int)=Builtin.Range.rangeSize lo hi 1:=by rw[rangeSize_one];split <;> lia
   change IsRangeIter _ _ (lo+((0:Nat):Int)*1) ((((hi-lo).toNat:Nat):Int)-((0:Nat):Int)) 1;rw[e1,e2];show zM _ rfl
 . let e:b=(s.heap.push { cls:=.type "range",data:=.fields #[.int lo t,.int hi u,.int 1 v] }).objs.size:=by simpa using J
   subst e;show C.fpOk (zH _) (C.hok.fresh (zH _))
inductive a9 (R:It->Hp->Prop)(vs:List V)(H1:Hp):Prop
 | mk:∀j:Int,(vs=[.int j])->(-(2 ^ 62)<=j)->(j<2 ^ 62)->(R (Ii 0 j.toNat) H1)->a9 R vs H1
def RP (ta:TA):TI:=λσ H R=>ta σ H λo H1=>a9 R o H1
inductive Yq (R:It->Hp->Prop)(vs:List V)(H1:Hp):Prop
 | mk:∀i j:Int,(vs=[.int i,.int j])->((-(2 ^ 62)<=i/\i<2 ^ 62/\-(2 ^ 62)<=j/\j<2 ^ 62))->(R (Ii i (j-i).toNat) H1)->Yq R vs H1
def RW (ta:TA):TI:=λσ H R=>ta σ H λo H1=>Yq R o H1
def Dp (hg:Gl X "range") (hm:X.mg "range"=none) (ha:PA X [a] ta)(hs:autoParam (starEach [a] X.env=[(false,eval a X.env)]) d_._auto_5):PI X tg (.Call (.Name "range" p) [a] [] pos) (RP ta):=by
 intro pins s σ H R I h;show Call_ (Cp I hg hm boot_range (PyProof.Rows.callWith_type1 (AM (ha pos pins s σ H _ I h) λus s1 ⟨vs,H1,I1,J,o⟩=>?_) hs rfl));let{j,e,o,U,q}:=o;subst e;cases J with
 | cons r C=>cases C;let{t,0}:=r;show call_range_1 (Ze I1 () () o U (by simpa using q))
def YO (hg:Gl X "range") (hm:X.mg "range"=none) (ha:PA X [a,b] ta)(hs:autoParam (starEach [a,b] X.env=[(false,eval a X.env),(false,eval b X.env)]) d_._auto_5)(J:autoParam (starEach [b] X.env=[(false,eval b X.env)]) d_._auto_5):
 PI X tg (.Call (.Name "range" p) [a,b] [] pos) (RW ta):=by
 intro pins s σ H R I h;show Call_ (Cp I hg hm boot_range (PyProof.Rows.callWith_type1 (AM (ha pos pins s σ H _ I h) λus s1 ⟨vs,H1,I1,U,C⟩=>?_) (by rw[hs,J]) (by rw[J];rfl)));let{i,j,e,{C,q2,q3,q4},q}:=C;subst e;cases U with
 | cons r o=>
  cases o with
  | cons r' o=>cases o;let{t,0}:=r;let{t',0}:=r';show call_range_2 (Ze I1 C q2 q3 q4 q)
def QO (I:TI)(g:TG)(tb:TS):TS:=λD σ H=>I σ H λJ H1=>∃W:Nat->Nat->St->Hp->Prop,(∃m,W 0 m σ H1)/\∀i m σ H,W i m σ H ->
 (J.stop i H/\D.nx σ H)\/(J.go i H/\∃N:St->Hp->Prop,(∀ σ' H',N σ' H'->∃C,C<m/\W (i+1) C σ' H')/\∀x H',J.yld i H x H'->g x σ H' λo U=>tb { D with nx:=N,ct:=N,bk:=D.nx } o U)
meta def OG (fp:List Addr)(h:Heap):List (Addr×Obj):=fp.filterMap λb=>(h.get? b).map λo=>(b,o)
def Sl (C:b∈fp)(e:h.get? b=some o):(b,o)∈OG fp h:=List.mem_filterMap.mpr {b,C,by rw[e];rfl}
def iV (C:p∈OG fp h):p.1∈fp/\h.get? p.1=some p.2:=by
 let{b,I,e}:=List.mem_filterMap.mp C;cases q:h.get? b with
 | none=>rw[q] at e;cases e
 | some o=>rw[q] at e;let J:(b,o)=p:=zW e;subst J;show⟨I,q⟩
def AA.pinned (I:AA X pins σ H s)(hf:∀b∈fp,EC X pins H b)(ho:∀b∈fp,∃o,s.heap.get? b=some o/\∀v,o.data ≠ .cell v):AA X (pins++OG fp s.heap) σ H s:=
 I.pins_of λp U=>(Bi.mp U).elim (λz=>I.pin p (DY _ z)) λz=>by let{C,e}:=iV z;let{f0,f1,f2,_}:=hf p.1 C;let{o,J,d}:=ho p.1 C;rw[e] at J;cases J;show⟨e,f0,f1,f2,d⟩
def AA.unpinned (I:AA X (pins++pl) σ H s):AA X pins σ H s:=I.pins_of λp o=>I.pin p (DY _ (List.mem_append_left _ o))
def MM (hp:PassesOwn (model X.prog X.w) X.A X.env X.xe)(hc:X.calm=true)(hi:PI X tg iter wi)(hg:PG X tg g)(hb:CI X body tb)
 (hs:autoParam (∀x,foldedSetIterable iter X.env x=pure x) d_._auto_4):PS X (.For tg iter body [] pos) (QO wi g tb):=by
 intro pins s σ H D I h;show wpAny_For (AM (hi pins s σ H _ I h) λv s1 h1=>AM h1 λitv s2 h2=>?_) hs;let{it,fp,tn,J,H2,e,I2,T,st2,f2,W,{m0,w0},turn}:=h2;subst e;let pN:∀{H':Hp},(∀b∈fp,H' b=none)->∀b∈fp,EC X pins H' b:=λhn b hb=>{hn b hb,(f2 b hb).2};show codeAny_forLoop_any (λn s'=>∃i σ' H',AA X pins σ' H' s'/\tn i s'.heap/\(∀b∈fp,H' b=none)/\W i n σ' H') ?_ m0 ⟨0,σ,H2,I2,st2,λb hb=>(f2 b hb).1,w0⟩;rintro n s3 ⟨i,U,H3,I3,st3,fr3,w3⟩;rcases turn i n U H3 w3 with ⟨stop,qn⟩ | ⟨go,N,hN,step⟩
 . show wpAny_passesOwn hp (AM (T.done X rfl rfl rfl hc i pins s3 U H3 X.xe I3 (pN fr3) st3 stop) λr s4 ⟨hr,I4⟩=>?_);subst hr;show wpAny_execs_nil ⟨U,H3,I4,qn⟩
 . show wpAny_passesOwn hp (AM (T.item X rfl rfl rfl hc i pins s3 U H3 X.xe I3 (pN fr3) st3 go) λr s4 ⟨u,hr,h4⟩=>?_);subst hr;show wpAny_passesOwn hp (AM h4 λ_ s5 ⟨x,H5,I5,r5,y5,st5,fr5⟩=>?_);let I5':=I5.pinned (pN fr5) (T.obj _ _ st5);show wpAny_passesOwn hp (AM (hg _ s5 U H5 x u _ I5' r5 (step x H5 y5)) λ_ s6 ⟨σ6,H6,I6,q6⟩=>?_);show wpAny_passesOwn hp (AM (hb _ s6 σ6 H6 _ I6 q6) λf s7 q7=>?_);let again:∀{C:St}{H7:Hp},AA X (pins++OG fp s5.heap) C H7 s7->N C H7->∃m,m<n/\∃i σ' H',AA X pins σ' H' s7/\tn i s7.heap/\(∀b∈fp,H' b=none)/\W i m σ' H':=λ{C H7} I7 n7=>by let{m',hm,w7}:=hN C H7 n7;show{m',hm,i+1,C,H7,I7.unpinned,T.keep _ _ _ st5 λb hb o e=>(I7.pin (b,o) (DY _ (DY _ (Sl hb e)))).1,λb hb=>?_,w7};let{o,e,d}:=T.obj _ _ st5 b hb;show (I7.pin (b,o) (DY _ (DY _ (Sl hb e)))).2.1
   cases f with
   | next=>let{C,H7,I7,n7}:=q7;show again I7 n7
   | cont=>let{C,H7,I7,n7}:=q7;show again I7 n7
   | brk=>let{C,H7,I7,q7}:=q7;show⟨C,H7,I7.unpinned,q7⟩
   | ret v=>let{x7,C,H7,I7,r7,q7}:=q7;show⟨x7,C,H7,I7.unpinned,r7,q7⟩
def Hi {K:AK}{g:TG}{tb:TS}{D:Ec}(Pv:Nat->St->Hp->Prop)(h0:Pv 0 σ H)(hl:∀i σ H,i<=xs.length->Pv i σ H->AD K H a xs)
 (hs:∀i x σ H,xs[i]?=some x->Pv i σ H->g x σ H λo I=>tb { D with nx:=Pv (i+1),ct:=Pv (i+1),bk:=D.nx } o I)(hd:∀ σ H,Pv xs.length σ H->D.nx σ H):
 ∃W:Nat->Nat->St->Hp->Prop,(∃m,W 0 m σ H)/\∀i m σ H,W i m σ H ->
  ((N5 K a).stop i H/\D.nx σ H)\/((N5 K a).go i H/\∃N:St->Hp->Prop,(∀ C H',N C H'->∃m',m'<m/\W (i+1) m' C H')/\∀x H',(N5 K a).yld i H x H'->g x σ H' λo I=>tb { D with nx:=N,ct:=N,bk:=D.nx } o I):=by
 show{λi m σ H=>m=xs.length-i/\i<=xs.length/\Pv i σ H,{xs.length,by simp,zd _,h0},?_};rintro i m σ H ⟨rfl,hi,p⟩;let q:=hl i σ H hi p;by_cases J:i<xs.length
 . show .inr {{xs,xs[i],q,by simp[J]},Pv (i+1),λC H' U=>{xs.length-(i+1),(),0,J,U},λx H' y=>?_};let{e,y}:=y;subst e;show hs i x σ _ (y xs q) p
 . let e:i=xs.length:=()
   subst e;show .inl {{xs,q,zH _},hd σ H p}
def Ve {K:AK}{g:TG}{tb:TS}{D:Ec}(Pv:Nat->St->Hp->Prop)(h0:Pv 0 σ H)(hl:∀i σ H,i<=xs.length->Pv i σ H->AB K H a xs)
 (hs:∀i x σ H,xs[i]?=some x->Pv i σ H->g x σ H λo I=>tb { D with nx:=Pv (i+1),ct:=Pv (i+1),bk:=D.nx } o I)(hd:∀ σ H,Pv xs.length σ H->D.nx σ H):
 ∃W:Nat->Nat->St->Hp->Prop,(∃m,W 0 m σ H)/\∀i m σ H,W i m σ H ->
  ((N8 K a).stop i H/\D.nx σ H)\/((N8 K a).go i H/\∃N:St->Hp->Prop,(∀ C H',N C H'->∃m',m'<m/\W (i+1) m' C H')/\∀x H',(N8 K a).yld i H x H'->g x σ H' λo I=>tb { D with nx:=N,ct:=N,bk:=D.nx } o I):=by
 show{λi m σ H=>m=xs.length-i/\i<=xs.length/\Pv i σ H,{xs.length,by simp,zd _,h0},?_};rintro i m σ H ⟨rfl,hi,p⟩;let q:=hl i σ H hi p;by_cases J:i<xs.length
 . show .inr {{xs,xs[i],q,by simp[J]},Pv (i+1),λC H' U=>{xs.length-(i+1),(),0,J,U},λx H' y=>?_};let{e,y}:=y;subst e;show hs i x σ _ (y xs q) p
 . let e:i=xs.length:=()
   subst e;show .inl {{xs,q,zH _},hd σ H p}
def Hs {lo:Int}{g:TG}{tb:TS}{D:Ec}(Pv:Nat->St->Hp->Prop)(h0:Pv 0 σ H)
 (hs:∀i σ H,i<n->Pv i σ H->g (.int (lo+i)) σ H λo J=>tb { D with nx:=Pv (i+1),ct:=Pv (i+1),bk:=D.nx } o J)(hd:∀ σ H,Pv n σ H->D.nx σ H):
 ∃W:Nat->Nat->St->Hp->Prop,(∃m,W 0 m σ H)/\∀i m σ H,W i m σ H ->
  ((Ii lo n).stop i H/\D.nx σ H)\/((Ii lo n).go i H/\∃N:St->Hp->Prop,(∀ C H',N C H'->∃m',m'<m/\W (i+1) m' C H')/\∀x H',(Ii lo n).yld i H x H'->g x σ H' λo J=>tb { D with nx:=N,ct:=N,bk:=D.nx } o J):=by
 show{λi m σ H=>m=n-i/\i<=n/\Pv i σ H,{n,by simp,zd _,h0},?_};rintro i m σ H ⟨rfl,hi,p⟩;by_cases I:i<n
 . show .inr {I,Pv (i+1),λC H' U=>{n-(i+1),(),0,I,U},λx H' y=>?_};let{e,y}:=y;subst e y;show hs i σ _ I p
 . let e:i=n:=()
   subst e;show .inl {zH _,hd σ H p}
abbrev R2:=V->V->Hp->VK->Prop
def BD (X:Cx)(f:Value->Value->Sem Value)(r:R2):Prop:=
 ∀pins s σ H x y v u Q,AA X pins σ H s->AR x v->AR y u->r x y H Q ->
  wpAny (model X.prog X.w) X.A (f v u) (EP X pins σ Q) X.xe s
def Ww (X:Cx)(f:Value->Sem Value)(r:V->Hp->VK->Prop):Prop:=
 ∀pins s σ H x v Q,AA X pins σ H s->AR x v->r x H Q ->
  wpAny (model X.prog X.w) X.A (f v) (EP X pins σ Q) X.xe s
def Bx (X:Cx)(f:Value)(r:List V->Hp->VK->Prop):Prop:=
 ∀pins s σ H xs us Q,AA X pins σ H s->AN xs us->r xs H Q ->
  wpAny (model X.prog X.w) X.A (call f us) (EP X pins σ Q) X.xe s
def Wx (X:Cx)(r:V->Hp->(Bool->Hp->Prop)->Prop):Prop:=
 ∀pins s σ H x v Q,AA X pins σ H s->AR x v->r x H Q ->
  wpAny (model X.prog X.w) X.A (truthy v) (TP X pins σ Q) X.xe s
def QB (r:R2)(ta tb:TE):TE:=λσ H Q=>ta σ H λx H1=>tb σ H1 λy o=>r x y o Q
def md (r:V->Hp->VK->Prop)(ta:TE):TE:=λσ H Q=>ta σ H λx H1=>r x H1 Q
inductive Rk (C:Int->Int->Prop)(g:Int->Int->V)(x:V)(y:V)(H:Hp)(Q:VK):Prop
 | mk:∀i j,(x=.int i)->(y=.int j)->(C i j)->(Q (g i j) H)->Rk C g x y H Q
def rI (C:Int->Int->Prop)(g:Int->Int->V):R2:=λx y H Q=>Rk C g x y H Q
inductive JO (g:Int->Int->V)(x:V)(y:V)(H:Hp)(Q:VK):Prop
 | mk:∀i j,(x=.int i)->(y=.int j)->(Q (g i j) H)->JO g x y H Q
def Jd (g:Int->Int->V):R2:=λx y H Q=>JO g x y H Q
inductive QZ (g:Int->V)(x:V)(H:Hp)(Q:VK):Prop
 | mk:∀i,(x=.int i)->(Q (g i) H)->QZ g x H Q
def rU (g:Int->V):V->Hp->VK->Prop:=λx H Q=>QZ g x H Q
def Ml (ha:PE X a ta)(hb:PE X b tb){R:V->V->Hp->Prop}(I:AA X pins σ H s)
 (h:ta σ H λx H1=>tb σ H1 λy o=>R x y o){f:Value->Value->Sem Value}
 (hf:∀v u s2 x y o,AA X pins σ o s2->AR x v->AR y u->R x y o->wpAny (model X.prog X.w) X.A (f v u) Q X.xe s2):
 wpAny (model X.prog X.w) X.A (eval a X.env) (λv J=>wpAny (model X.prog X.w) X.A (eval b X.env) (λu C=>wpAny (model X.prog X.w) X.A (f v u) Q X.xe C) X.xe J) X.xe s:=by
 show AM (ha pins s σ H _ I h) λv s1 ⟨x,H1,I1,r1,q1⟩=>?_;show AM (hb pins s1 σ H1 _ I1 q1) λu s2 ⟨y,o,I2,U,q2⟩=>?_;show hf v u s2 x y o I2 r1 U q2
def Ae (J:BD X (binaryOp op) r)(ha:PE X a ta)(U:PE X b tb):PE X (.BinOp a op b pos) (QB r ta tb):=by intro pins s σ H Q I h;show wpAny_BinOp (Ml ha U I h λv u s2 x y H2 I2 C o q=>J pins s2 σ H2 x y v u Q I2 C o q)
def TZ (J:Ww X (unaryOp op) r)(U:PE X a ta):PE X (.UnaryOp op a pos) (md r ta):=by intro pins s σ H Q I h;show UnaryOp_ (AM (U pins s σ H _ I h) λv s1 ⟨x,H1,I1,o,C⟩=>J pins s1 σ H1 x v Q I1 o C)
def Uh {g:Int->Int->Int}
 (rule:∀i j t u s Q E,C i j->Q (.int (g i j) s.toks) { s with toks:=s.toks+1 }->wpAny (model X.prog X.w) X.A (f (.int i t) (.int j u)) Q E s):
 BD X f (rI C λi j=>.int (g i j)):=by
 intro pins s σ H x y v u Q I U J h;let{i,j,2,hc,q}:=h;let{t,0}:=U;let{o,0}:=J;show rule i j t o s _ _ hc {.int (g i j),H,I.tok _,{1},q}
def Pf {g:Int->Int->Int}
 (rule:∀i j t u s Q E,Q (.int (g i j) s.toks) { s with toks:=s.toks+1 }->wpAny (model X.prog X.w) X.A (f (.int i t) (.int j u)) Q E s):
 BD X f (Jd λi j=>.int (g i j)):=by
 intro pins s σ H x y v u Q I J C h;let{i,j,2,q}:=h;let{t,0}:=J;let{o,0}:=C;show rule i j t o s _ _ {.int (g i j),H,I.tok _,{1},q}
def G4 {g:Int->Int->Bool}
 (rule:∀i j t u s Q E,Q (.bool (g i j)) s->wpAny (model X.prog X.w) X.A (f (.int i t) (.int j u)) Q E s):
 BD X f (Jd λi j=>.bl (g i j)):=by
 intro pins s σ H x y v u Q I J C h;let{i,j,2,q}:=h;let{t,0}:=J;let{o,0}:=C;show rule i j t o s _ _ {.bl (g i j),H,I,0,q}
def Q5 (i j:Int):Prop:=0<j/\j<1073741824
def Xa (i j:Int):Prop:=0<=j/\j<=1000000/\i.natAbs<2 ^ 64
def MX (i j:Int):Prop:=(-(2 ^ 64)<i/\i<2 ^ 64)\/(-(2 ^ 64)<j/\j<2 ^ 64)
def MX.ok (h:MX i j):IntMulOk i j:=by
 rcases h with ⟨C,o⟩ | ⟨C,o⟩
 . show .of_left (intBits_le_64 C o)
 . show .of_right (intBits_le_64 C o)
def C4:BD X (binaryOp .Add) (Jd λi j=>.int (i+j)):=Pf λ_ _ _ _ _ _ _ q=>add_int q
def Gv:BD X (binaryOp .Sub) (Jd λi j=>.int (i-j)):=Pf λ_ _ _ _ _ _ _ q=>sub_int q
def OO:BD X (binaryOp .Mult) (rI MX λi j=>.int (i*j)):=Uh λ_ _ _ _ _ _ _ o q=>mul_int q o.ok
def Te:BD X (binaryOp .FloorDiv) (rI Q5 λi j=>.int (i/j)):=Uh λi j _ _ _ _ _ o q=>by let I:(0:Int)<j:=o.1;let C:j<1073741824:=o.2;show floordiv_int () (by rwa[Int.fdiv_eq_ediv_of_nonneg i ()]) (.inl (PyProof.noPylong_small ()))
def Js:BD X (binaryOp .Mod) (rI (λ_ j=>0<j) λi j=>.int (i%j)):=Uh λi j _ _ _ _ _ o q=>by let C:(0:Int)<j:=o;show mod_int' () (by rwa[Int.fmod_eq_emod_of_nonneg i ()])
def Ki:BD X (binaryOp .Pow) (rI Xa λi j=>.int (i ^ j.toNat)):=Uh λ_ _ _ _ _ _ _ o q=>pow_int_small o.1 o.2.1 o.2.2 q
def me {g:Int->Int}
 (rule:∀i t s Q E,Q (.int (g i) s.toks) { s with toks:=s.toks+1 }->wpAny (model X.prog X.w) X.A (f (.int i t)) Q E s):
 Ww X f (rU λi=>.int (g i)):=by
 intro pins s σ H x v Q I o h;let{i,0,q}:=h;let{t,0}:=o;show rule i t s _ _ {.int (g i),H,I.tok _,{1},q}
def Se:Ww X (unaryOp .USub) (rU λi=>.int (-i)):=me λ_ _ _ _ _ q=>neg_int q
meta def RY:V->V->Bool
 | .non,.non=>true | .non,.int _=>true | .int _,.non=>true | .non,.bl _=>true | .bl _,.non=>true | .non,.str _=>true | .str _,.non=>true
 | .int _,.int _=>true | .bl _,.bl _=>true | .str _,.str _=>true | .byt _,.byt _=>true
 | .int _,.str _=>true | .str _,.int _=>true | .bl _,.str _=>true | .str _,.bl _=>true
 | _,_=>false
inductive Ic (x:V)(y:V)(H:Hp)(Q:VK):Prop
 | mk:(RY x y=true)->(Q (.bl (decide (x=y))) H)->Ic x y H Q
def mZ:R2:=λx y H Q=>Ic x y H Q
inductive JR (x:V)(y:V)(H:Hp)(Q:VK):Prop
 | mk:(RY x y=true)->(Q (.bl (!decide (x=y))) H)->JR x y H Q
def mJ:R2:=λx y H Q=>JR x y H Q
def ai :decide (V.int i=V.int j)=(i==j):=by rw[Bool.eq_iff_iff];simp
def bz :decide (V.bl i=V.bl j)=(i==j):=by rw[Bool.eq_iff_iff];simp
def ag :decide (V.str i=V.str j)=(i==j):=by rw[Bool.eq_iff_iff];simp
def X5 :decide (V.byt i=V.byt j)=(i.toList==j.toList):=by rw[Bool.eq_iff_iff];cases i;cases j;simp
def A0 (I:AA X pins σ H s)(q:Q (.bl k) H)(e:k=k'):EP X pins σ Q (.bool k') s:=by subst e;show{.bl k,H,I,0,q}
def A1:BD X (compareOp .Eq) mZ:=by
 intro pins s σ H x y v u Q I U o h;let{J,q}:=h;cases x with
 | non=>
  cases U;cases y with
  | non=>cases o;show PySem.EqNone.eq_none_none (A0 I q (by simp))
  | bl j=>cases o;show PySem.EqNone.eq_none_bool (A0 I q (by simp))
  | int j=>let{C,0}:=o;show PySem.EqNone.eq_none_int (A0 I q (by simp))
  | str j=>let{C,0}:=o;show PySem.EqNone.eq_none_str (A0 I q (by simp))
  | _=>show absurd (show false=true from J) zf
 | bl i=>
  cases U;cases y with
  | non=>cases o;show PySem.EqNone.eq_bool_none (A0 I q (by simp))
  | bl j=>cases o;show eq_bool (A0 I q bz)
  | str j=>let{C,0}:=o;show PySem.EqMixed.eq_bool_str (A0 I q (by simp))
  | _=>show absurd (show false=true from J) zf
 | int i=>
  let{t,0}:=U;cases y with
  | non=>cases o;show PySem.EqNone.eq_int_none (A0 I q (by simp))
  | int j=>let{C,0}:=o;show eq_int (A0 I q ai)
  | str j=>let{C,0}:=o;show PySem.EqMixed.eq_int_str (A0 I q (by simp))
  | _=>show absurd (show false=true from J) zf
 | str i=>
  let{t,0}:=U;cases y with
  | non=>cases o;show PySem.EqNone.eq_str_none (A0 I q (by simp))
  | bl j=>cases o;show PySem.EqMixed.eq_str_bool (A0 I q (by simp))
  | int j=>let{C,0}:=o;show PySem.EqMixed.eq_str_int (A0 I q (by simp))
  | str j=>let{C,0}:=o;show eq_str (A0 I q ag)
  | _=>show absurd (show false=true from J) zf
 | byt i=>
  let{t,0}:=U;cases y with
  | byt j=>let{C,0}:=o;show PySem.W.eq_bytes (A0 I q X5)
  | _=>show absurd (show false=true from J) zf
 | _=>cases y <;> show absurd (show false=true from J) zf
def CL:BD X (compareOp .NotEq) mJ:=by
 intro pins s σ H x y v u Q I U o h;let{J,q}:=h;cases x with
 | non=>
  cases U;cases y with
  | non=>cases o;show PySem.EqNone.ne_none_none (A0 I q (by simp))
  | bl j=>cases o;show PySem.EqNone.ne_none_bool (A0 I q (by simp))
  | int j=>let{C,0}:=o;show PySem.EqNone.ne_none_int (A0 I q (by simp))
  | str j=>let{C,0}:=o;show PySem.EqNone.ne_none_str (A0 I q (by simp))
  | _=>show absurd (show false=true from J) zf
 | bl i=>
  cases U;cases y with
  | non=>cases o;show PySem.EqNone.ne_bool_none (A0 I q (by simp))
  | bl j=>cases o;show ne_bool (A0 I q (congrArg not bz))
  | str j=>let{C,0}:=o;show PySem.EqMixed.ne_bool_str (A0 I q (by simp))
  | _=>show absurd (show false=true from J) zf
 | int i=>
  let{t,0}:=U;cases y with
  | non=>cases o;show PySem.EqNone.ne_int_none (A0 I q (by simp))
  | int j=>let{C,0}:=o;show ne_int (A0 I q (congrArg not ai))
  | str j=>let{C,0}:=o;show PySem.EqMixed.ne_int_str (A0 I q (by simp))
  | _=>show absurd (show false=true from J) zf
 | str i=>
  let{t,0}:=U;cases y with
  | non=>cases o;show PySem.EqNone.ne_str_none (A0 I q (by simp))
  | bl j=>cases o;show PySem.EqMixed.ne_str_bool (A0 I q (by simp))
  | int j=>let{C,0}:=o;show PySem.EqMixed.ne_str_int (A0 I q (by simp))
  | str j=>let{C,0}:=o;show ne_str (A0 I q (congrArg not ag))
  | _=>show absurd (show false=true from J) zf
 | byt i=>
  let{t,0}:=U;cases y with
  | byt j=>let{C,0}:=o;show PySem.W.ne_bytes (A0 I q (congrArg not X5))
  | _=>show absurd (show false=true from J) zf
 | _=>cases y <;> show absurd (show false=true from J) zf
def Oa:BD X (compareOp .Lt) (Jd λi j=>.bl (decide (i<j))):=G4 λ_ _ _ _ _ _ _ q=>lt_int q
def V1:BD X (compareOp .LtE) (Jd λi j=>.bl (decide (i<=j))):=G4 λ_ _ _ _ _ _ _ q=>le_int q
def Gd:BD X (compareOp .Gt) (Jd λi j=>.bl (decide (j<i))):=G4 λ_ _ _ _ _ _ _ q=>gt_int q
def IX:BD X (compareOp .GtE) (Jd λi j=>.bl (decide (j<=i))):=G4 λ_ _ _ _ _ _ _ q=>ge_int q
def lL:BD X (compareOp .In) (λx y H Q=>∃i j,x=.str i/\y=.str j/\Q (.bl (!(Builtin.Str.occurrences j i 0 j.length 1).isEmpty)) H):=by intro pins s σ H x y v u Q I C o h;let{i,j,2,q}:=h;let{t,0}:=C;let{J,0}:=o;show in_str (A0 I q rfl)
def DH:BD X (compareOp .Is) (λx y H Q=>y=.non/\Q (.bl (decide (x=.non))) H):=by
 intro pins s σ H x y v u Q I o C h;let{0,q}:=h;cases C;show is_none_gen (A0 I q ?_);cases x <;> first
  | (cases o;rfl)
  | (let{t,0}:=o;rfl)
def Ou:BD X (compareOp .IsNot) (λx y H Q=>y=.non/\Q (.bl (!decide (x=.non))) H):=by
 intro pins s σ H x y v u Q I o C h;let{0,q}:=h;cases C;show isnot_none_gen (A0 I q ?_);cases x <;> first
  | (cases o;rfl)
  | (let{t,0}:=o;rfl)
def zx (b)(h:autoParam (op ≠ .In) d_._auto_2)(o:autoParam (op ≠ .NotIn) d_._auto_2):behindInMarks op b=false:=by
 let I:(op==CmpOp.In)=false:=by cases op <;> first | rfl | show absurd rfl h
 let C:(op==CmpOp.NotIn)=false:=by cases op <;> first | rfl | show absurd rfl o
 cases b <;> simp[behindInMarks,I,C]
def Bo (J:BD X (compareOp op) r)(ha:PE X a ta)(U:PE X b tb)(hm:behindInMarks op b=false):PE X (.Compare a [op] [b] pos) (QB r ta tb):=by intro pins s σ H Q I h;show wpAny_Compare1 (Ml ha U I h λv u s2 x y H2 I2 C o q=>J pins s2 σ H2 x y v u Q I2 C o q) hm
inductive cw (Q:Bool->Hp->Prop)(x:V)(H':Hp):Prop
 | mk:∀k,(x=.bl k)->(Q k H')->cw Q x H'
def Qz (t:TE):TT:=λσ H Q=>t σ H λx H'=>cw Q x H'
def zu (ho:BD X (compareOp op) r)(ha:PE X a ta)(hb:PE X b tb)(hm:behindInMarks op b=false):PT X (.Compare a [op] [b] pos) (Qz (QB r ta tb)):=by
 intro pins s σ H Q I h;show wpAny_isTrue_Compare1 (AM (ha pins s σ H _ I h) λv s1 ⟨x,H1,I1,J,q1⟩=>AM (hb pins s1 σ H1 _ I1 q1) λu s2 ⟨y,H2,I2,C,q2⟩=>
  AM (ho pins s2 σ H2 x y v u _ I2 J C q2) λc s3 ⟨z,H3,I3,o,k,e,U⟩=>?_) hm
 subst e;cases o;show Fh ⟨H3,I3,U⟩
def Ph (K:AK)(x:V)(H:Hp)(k:Bool):Prop:=
 match x with
 | .non=>k=false
 | .bl b=>k=b
 | .int i=>k=(i != 0)
 | .str y=>y.length<=sizeLine/\k=((y.length:Int) != 0)
 | .byt y=>y.size<=sizeLine/\k=((y.size:Int) != 0)
 | .ref p=>(∃xs,AD K H p xs/\k=!xs.isEmpty)\/(∃xs,AB K H p xs/\k=!xs.isEmpty)\/∃mf,H p=some (.dK mf)/\k=!mf.isEmpty
 | _=>False
def j4 (r:KV mf vs):(!vs.isEmpty)=!mf.isEmpty:=by cases r <;> rfl
def aB (r:AN xs its):(!its.toArray.isEmpty)=!xs.isEmpty:=by cases r <;> simp
def Jv:(sizeLine:Nat)<2 ^ 63:=by rw[sizeLine_eq];decide
def Kk:Wx X (λx H Q=>∃k,Ph X.K x H k/\Q k H):=by
 intro pins s σ H x v Q I C h;let{k,e,q}:=h;let hl:=Jv;let hs:sizeLine=16777216:=sizeLine_eq;cases x with
 | non=>cases C;let o:k=false:=e;subst o;show truthy_none ⟨H,I,q⟩
 | bl b=>cases C;let o:k=b:=e;subst o;show Fh ⟨H,I,q⟩
 | int i=>let{t,0}:=C;let o:k=(i != 0):=e;subst o;show PySem.P.truthy_int ⟨H,I,q⟩
 | str y=>let{t,0}:=C;obtain⟨hy,o⟩:y.length<=sizeLine/\k=((y.length:Int) != 0):=e;subst o;show PySem.P.truthy_str () {H,I.tok _,q}
 | byt y=>let{t,0}:=C;obtain⟨hy,o⟩:y.size<=sizeLine/\k=((y.size:Int) != 0):=e;subst o;show PySem.W.truthy_bytes () {H,I.tok _,q}
 | ref p=>
  cases C;let o:(∃xs,AD X.K H p xs/\k=!xs.isEmpty)\/(∃xs,AB X.K H p xs/\k=!xs.isEmpty)\/∃mf,H p=some (.dK mf)/\k=!mf.isEmpty:=e;rcases o with ⟨xs,J,o⟩ | ⟨xs,J,o⟩ | ⟨mf,J,o⟩
  . subst o;let{its,r,pl,hz}:=I.list J;let hlen:=r.length;show wpAny_truthy_list pl.isList (by simp only[zc];lia) {H,I.tok _,by rwa[aB r]}
  . subst o;let{its,r,pl,hz}:=I.tuple J;let hlen:=r.length;show truthy_tuple pl (by simp only[zc];lia) {H,I.tok _,by rwa[aB r]}
  . subst o;obtain⟨hz,hS,U,r,m⟩:mf.length<=sizeLine/\(p==sysModules)=false/\∃U,KV mf U/\s.heap.DictOf (As X.prog X.w) p U:=I.hok p _ J;let hlen:mf.length=U.length:=Paired.length r;show wpAny_truthy_dict hS m () {H,I.tok _,by rwa[j4 r]}
 | _=>show (show False from e).elim
def TU (J:PE X a ta)(he:∀whole,isTrue a X.env whole=(do let v <-whole;standAt a.pos;holding [v] (truthy v))):
 PT X a (λσ H Q=>ta σ H λx H'=>∃k,Ph X.K x H' k/\Q k H'):=by
 intro pins s σ H Q I h;show isTrue_plain (AM (J pins s σ H _ I h) λv s1 ⟨x,H1,U,o,C⟩=>Kk pins s1 σ H1 x v Q U o C) (he _)
def BL (r:AN [x] us):∃u,us=[u]/\AR x u:=by
 cases r with
 | cons C o=>cases o;show{1,C}
def U9 (r:AN [x,y] us):∃u o,us=[u,o]/\AR x u/\AR y o:=by
 cases r with
 | cons U J=>
  cases J with
  | cons I C=>cases C;show{7,U,I}
inductive Pq (xs:List V)(H:Hp)(Q:VK):Prop
 | mk:∀i j,(xs=[.int i,.int j])->(Q (.int (if j<i then j else i)) H)->Pq xs H Q
def k9 (C:X.calm=true):Bx X (.builtin "min") Pq:=by
 intro pins s σ H xs us Q I r h;let{i,j,0,q}:=h;let{u,J,0,{t,0},{t',0}}:=U9 r;show min_two_ints (I.ok.hd C) λh' U k=>{_,H,I.kept k,?_,q};by_cases o:j<i
 . rw[if_pos o,if_pos o];show{1}
 . rw[if_neg o,if_neg o];show{1}
structure KJ (h:Heap)(x dx C:Addr)(mA:A2):Prop where
 obj:h.get? x=some (PySem.W.instObj C dx)
 ns:h.Ns1 dx mA
 ne:dx≠x
def kg {h:Heap}(n:h.Ns1 dx mA):∃od,h.get? dx=some od/\∀name,PySem.W.lookIn name od=some (mA name):=by
 let{o,es,ep,J,hd,U,_,hm}:=n;show{o,J,λname=>?_};let e:=hm name;unfold nsFind findBy at e;rw[<-Array.find?_toList] at e;unfold PySem.W.lookIn;rw[hd];dsimp only;split
 . rename_i y q
   rw[q] at e;show congrArg some e
 . rename_i q
   rw[q] at e;let a:es.toList.any (·.refKey)=false:=by rw[List.any_eq_false];intro y I;let{z,t,C}:=U y (Array.mem_toList_iff.mp I);simp[DictEntry.refKey,C]
   let a':¬ es.toList.any (·.refKey)=true:=by rw[a];show zf
   rw[if_neg a'];show congrArg some e
def KJ.look (I:KJ h x dx C mA):∃od,PySem.W.InstAt h x (PySem.W.instObj C dx) C (some od)/\∀name,PySem.W.lookIn name od=some (mA name):=
 let ⟨od,o,J⟩:=kg I.ns
 {od,{I.obj,2,o},J}
section
variable {prog:Program}{w:World}{A:Around}{E:Bt}{s:Shared}{K:AK}{x dx C f:Addr}{mA:A2}{name:Str}{v:Value}
def iH (X:K.In s.heap)(I:KJ s.heap x dx C mA)(hg:PySem.W.plainGet K C name=true)(hh:PySem.W.hasDictIn K C=true)
 (ha:PySem.W.findIn K (.ref C) name=some none)(U:mA name=some v)(o:PySem.W.handedIn v=true)(h:Q v { s with toks:=s.toks+1 }):
 wpAny (model prog w) A (getAttr (.ref x) name expr) Q E s:=by
 let{od,J,hl}:=I.look;show PySem.W.get_value X J (PySem.W.plainGet_of hg).1 (PySem.W.findObj_own hh ha rfl (by rw[hl,U])) o h
def eJ (X:K.In s.heap)(I:KJ s.heap x dx C mA)(o:PySem.W.plainGet K C name=true)
 (hf:PySem.W.findIn K (.ref C) name=some (some (.ref f)))(ht:PySem.W.isFn K (.ref f)=true)(hv:mA name=none)(h:Q (.ref f,[.ref x]) s):
 wpAny (model prog w) A (getMethod (.ref x) name pl) Q E s:=by
 let{U,J,hl}:=I.look;show PySem.W.method_fn X J (PySem.W.plainGet_of o).1 (PySem.W.plainGet_of o).2 hf (beq_iff_eq.mp ht) (by change (PySem.W.lookIn name U).map (·.isSome)=some false;rw[hl,hv];rfl) h
def jI (X:K.In s.heap)(I:KJ s.heap x dx C mA)
 (hs:PySem.W.findIn K (.ref C) "__setattr__"=some (some (.builtin "object.__setattr__"))) (hp:PySem.W.plainOver K C=true)(ht:PySem.W.takerIn K C name=some none)(hh:PySem.W.hasDictIn K C=true)
 (hw:PySem.Within mA ns)(hsz:ns.length<=sizeLine)
 (h:∀h',KJ h' x dx C (λy=>if y=name then some v else mA y)->Heap.SameBut dx s.heap h'->Q Unit.unit { s with heap:=h',toks:=s.toks+2 }):
 wpAny (model prog w) A (setAttr (.ref x) name v) Q E s:=by
 let{od,J,hl}:=I.look;show PySem.W.set_plain X J hs (PySem.W.osa_open (s:={ s with toks:=s.toks+1 }) (r:=none) X J hp ht λb=>?_);let{cd,hc,hd'}:=PySem.W.any_some hh;let hx:s.heap.get? x=some {.ref C,some dx,.plain,#[]}:=I.obj;show zA (zE (zA (zA (wpAny_loadPart hx (zA (PySem.W.Looks.here (s:={ s with toks:=s.toks+1 }) (PySem.W.looks_clsIn X hc) ?_))))));rw[hd'];show zE (a:=some dx) (zA (zE (zA ?_)));show wpAny_nsSet1 (s:={ s with toks:=s.toks+1 }) I.ns λh' o nh=>?_;let{oD,esD,epD,U,hdD,hcD}:=o.count (PySem.Within.cons name v hw);show zA (wpAny_lookBehind U (by rw[hdD];show pastItsLine_dict (zn hcD (by rw[zm];lia))) ?_);show zE (h _ {(nh.2 _ (Ne.symm I.ne)).trans I.obj,o,I.ne} nh)
def lZ (X:K.In s.heap)(hm:PySem.W.makesIn K C=true)
 (hi:PySem.W.findIn K (.ref C) "__init__"=some (some (.ref f))) (hf:PySem.W.typeIn K (.ref f)=some (.type "function"))
 (h:codeAny (model prog w) (A.under (.builtin "type.__call__" ⟨.ref C::vs,kw⟩)) (.call (.ref f) ⟨.ref (s.heap.objs.size+1)::vs,kw⟩) (PySem.W.InitBack (s.heap.objs.size+1) R)
  { s with heap:=(s.heap.push PySem.W.emptyDict).push (PySem.W.instObj C s.heap.objs.size) }):
 codeAny (model prog w) A (.call (.ref C) ⟨vs,kw⟩) R s:=by
 let{o,g,d,t,os}:=s;show PySem.W.make_core (PySem.W.makes_of X hm) (PySem.W.looks_findIn X hi) (λself=>PySem.W.bind_fn X self hf) (.inl rfl) h
end
meta def BK (f:Str)(v:V):List (Str×V)->List (Str×V)
 | []=>[(f,v)]
 | (g,x)::r=>if g=f then (g,v)::r else (g,x)::BK f v r
def VW (f g)(v):∀fs:List (Str×V),(BK f v fs).lookup g=if g=f then some v else fs.lookup g
 | []=>by
  change List.lookup g [(f,v)]=_;by_cases h:g=f
  . let o:(g==f)=true:=beq_iff_eq.mpr h;simp only[List.lookup,o,if_pos h]
  . let o:(g==f)=false:=beq_eq_false_iff_ne.mpr h;simp only[List.lookup,o,if_neg h]
 | (k,x)::r=>by
  let I:=VW f g v r;rw[show BK f v ((k,x)::r)=(if k=f then (k,v)::r else (k,x)::BK f v r) from rfl]
  by_cases C:k=f
  . rw[if_pos C];by_cases h:g=k
    . let o:(g==k)=true:=beq_iff_eq.mpr h;simp only[List.lookup,o,if_pos (h.trans C)]
    . let o:(g==k)=false:=beq_eq_false_iff_ne.mpr h;simp only[List.lookup,o,if_neg (λe:g=f=>h (e.trans C.symm))]
  . rw[if_neg C];by_cases h:g=k
    . let o:(g==k)=true:=beq_iff_eq.mpr h;simp only[List.lookup,o,if_neg (λe:g=f=>C (h.symm.trans e))]
    . let o:(g==k)=false:=beq_eq_false_iff_ne.mpr h;simp only[List.lookup,o];show I
def OD (f)(v):∀fs:List (Str×V),f∈(BK f v fs).map (·.1)/\∀g,g∈fs.map (·.1)->g∈(BK f v fs).map (·.1)
 | []=>{by simp[BK],λg h=>by simp at h}
 | (k,x)::r=>by
  let{I,C}:=OD f v r;rw[show BK f v ((k,x)::r)=(if k=f then (k,v)::r else (k,x)::BK f v r) from rfl]
  by_cases o:k=f
  . rw[if_pos o];subst o;show{by simp,λg h=>by simpa using h}
  . rw[if_neg o];show{?_,λg h=>?_}
    . rw[Bf];show zZ _ I
    . rw[Bf] at h ⊢;rcases zS.mp h with e | e
      . show zS.mpr (.inl e)
      . show zZ _ (C g e)
def YE (f)(v):∀fs:List (Str×V),(BK f v fs).length<=fs.length+1
 | []=>by simp[BK]
 | (k,x)::r=>by
  let C:=YE f v r;rw[show BK f v ((k,x)::r)=(if k=f then (k,v)::r else (k,x)::BK f v r) from rfl]
  by_cases o:k=f
  . rw[if_pos o,zm,zm];lia
  . rw[if_neg o,zm,zm];lia
def BW.some_of (r:BW (some v) o):∃u,o=some u/\AR v u:=by
 cases o with
 | none=>show (show False from r).elim
 | some u=>show{u,0,r}
def BW.none_of (r:BW none o):o=none:=by
 cases o with
 | none=>rfl
 | some u=>show (show False from r).elim
def YF (r:AR v u):PySem.W.handedIn u=true:=by
 cases v with
 | non=>cases (show u=Value.none from r);rfl
 | bl b=>cases (show u=Value.bool b from r);rfl
 | int i=>let{t,e}:=(show ∃t,u=Value.int i t from r);cases e;rfl
 | str x=>let{t,e}:=(show ∃t,u=Value.str x t from r);cases e;rfl
 | byt b=>let{t,e}:=(show ∃t,u=Value.bytes b t from r);cases e;rfl
 | flt b=>let{t,e}:=(show ∃t,u=Value.float b t from r);cases e;rfl
 | ref a=>cases (show u=Value.ref a from r);rfl
 | ty n=>cases (show u=Value.type n from r);rfl
def TK (o:Al P w H h)(e:H a=some (.ins C dx fs)):∃mA,KJ h a dx C mA/\(∀f,BW (fs.lookup f) (mA f))/\PySem.Within mA (fs.map (·.1))/\fs.length<=1000/\H dx=some (.own a):=by let{d,z,ne,I,mA,n,r,q}:=(show Aj P w H h a (.ins C dx fs) from o a _ e);show{mA,⟨I,n,ne⟩,r,q,z,d}
structure EY (K:AK)(C:Addr):Prop where
 pg:PySem.W.plainGet K C Str.empty=true
 hd:PySem.W.hasDictIn K C=true
 po:PySem.W.plainOver K C=true
 sa:PySem.W.findIn K (.ref C) "__setattr__"=some (some (.builtin "object.__setattr__"))
def EY.get {K:AK}(c:EY K C)(f):PySem.W.plainGet K C f=true:=c.pg
def DP (K:AK)(C:Addr)(f:Str):Prop:=PySem.W.findIn K (.ref C) f=some none
def DP.taker {K:AK}(n:DP K C f):PySem.W.takerIn K C f=some none:=by unfold PySem.W.takerIn;rw[show PySem.W.findIn K (.ref C) f=some none from n];rfl
structure D6 (K:AK)(C:Addr)(m:Str)(f:Addr):Prop where
 at_:PySem.W.findIn K (.ref C) m=some (some (.ref f))
 fn:PySem.W.isFn K (.ref f)=true
 kp:PySem.W.keepIn K (.ref f)=true
def mB (I:AA X pins σ H s)(e:H a=some (.ins C dx fs))(c:EY X.K C)(n:DP X.K C f)(l:fs.lookup f=some v)
 (h:∀u s',AA X pins σ H s'->AR v u->Q u s'):wpAny (model X.prog X.w) A (getAttr (.ref a) f b) Q E s:=by
 let{mA,O,r,_,3}:=TK I.hok e;let{u,U,J}:=BW.some_of (v:=v) (o:=mA f) (by rw[<-l];show r f);show iH I.kIn O (c.get f) c.hd n U (YF J) (h u _ (I.tok _) J)
def ZS (I:AA X pins σ H s)(e:H a=some (.ins C dx fs))(c:EY X.K C)(k:D6 X.K C m g)(l:fs.lookup m=none)
 (h:Q (.ref g,[.ref a]) s):wpAny (model X.prog X.w) A (getMethod (.ref a) m pl) Q E s:=by
 let{mA,O,r,_,3}:=TK I.hok e;let o:mA m=none:=BW.none_of (by rw[<-l];show r m);show eJ I.kIn O (c.get m) k.at_ k.fn o h
def kr (I:AA X pins σ H s)(e:H a=some (.ins C dx fs))(c:EY X.K C)(n:DP X.K C f)(hl:fs.length<1000)(ry:AR y u)
 (h:∀s',AA X pins σ (upd H a (.ins C dx (BK f y fs))) s'->Q Unit.unit s'):wpAny (model X.prog X.w) A (setAttr (.ref a) f u) Q E s:=by
 let{mA,O,r,U,_,ho}:=TK I.hok e;let hz:(fs.map (·.1)).length<=sizeLine:=by rw[zB,sizeLine_eq];lia
 show jI I.kIn O c.sa c.po n.taker c.hd U hz λh' J sb=>h _ ?_;let hd:∃o,h'.get? dx=some o:=let {o,3,e',_}:=J.ns;⟨o,e'⟩;show I.write (x:=a) (e:=dx) (by rw[e];show True.intro) (.inr ho) (λb q hb z=>(sb.2 b hb).trans z) hd ?_;show{by rwa[zY O.ne],?_,O.ne,J.obj,_,J.ns,λg=>?_,λg hg=>?_}
 . let:=YE f y fs;lia
 . change BW ((BK f y fs).lookup g) (if g=f then some u else mA g)
   rw[VW];by_cases q:g=f
   . rwa[if_pos q,if_pos q]
   . rw[if_neg q,if_neg q];show r g
 . by_cases q:g=f
   . rw[q];show (OD f y fs).1
   . show (OD f y fs).2 g (U g λz=>hg ?_);change (if g=f then some u else mA g)=none
     rwa[if_neg q]
def AA.made (I:AA X pins σ H s):AA X pins σ (upd (upd H s.heap.objs.size (.own (s.heap.objs.size+1))) (s.heap.objs.size+1) (.ins C s.heap.objs.size []))
 { s with heap:=(s.heap.push PySem.W.emptyDict).push (PySem.W.instObj C s.heap.objs.size) }:=by
 let J:(s.heap.push PySem.W.emptyDict).get? s.heap.objs.size=some PySem.W.emptyDict:=zM s.heap rfl;let e2:((s.heap.push PySem.W.emptyDict).push (PySem.W.instObj C s.heap.objs.size)).get? (s.heap.objs.size+1)=some (PySem.W.instObj C s.heap.objs.size):=by let:=zM (s.heap.push PySem.W.emptyDict) (o:=PySem.W.instObj C s.heap.objs.size) rfl;rwa [Co] at this
 let e3:(s.heap.push PySem.W.emptyDict).Ns s.heap.objs.size (λ_=>none):={PySem.W.emptyDict,#[],_,J,0,(λe he=>absurd he (by simp)),λ_=>rfl};let I1:=I.laid (a:=s.heap.objs.size) (o:=.own (s.heap.objs.size+1)) (h':=s.heap.push PySem.W.emptyDict) (t':=s.toks) (λb u q=>zG _ q) (zH _) {_,J};show I1.laid (a:=s.heap.objs.size+1) (o:=.ins C s.heap.objs.size []) (t':=s.toks) (λb u q=>zG _ q) (Nat.le_of_eq (Co _ _)) ?_;let ne:s.heap.objs.size≠s.heap.objs.size+1:=zb (Jq _);show{by rw[zY ne,zJ],zd _,ne,e2,λ_=>none,(Heap.Ns1.of_empty e3).at λo q=>zG _ q,λ_=>True.intro,λy U=>absurd rfl U}
def aL (I:attributeBase e f env (eval e env)=eval e env)
 (h:wpAny (model prog w) A (eval e env) (λo C=>wpAny (model prog w) A (getAttr o f true) Q E C) E s):wpAny (model prog w) A (eval (.Attribute e f pos) env) Q E s:=
 Attribute_any_ h (by rw[arm_eval_Attribute,I])
inductive cu (K:AK)(f:Str)(Q:VK)(x:V)(H1:Hp):Prop
 | mk:∀a C dx fs v,(x=.ref a)->(H1 a=some (.ins C dx fs))->(EY K C)->(DP K C f)->(fs.lookup f=some v)->(Q v H1)->cu K f Q x H1
def XN (K:AK)(ta:TE)(f:Str):TE:=λσ H Q=>ta σ H λx H1=>cu K f Q x H1
inductive Yt (K:AK)(f:Str)(D:Ec)(σ:St)(y:V)(x:V)(H2:Hp):Prop
 | mk:∀a C dx fs,(x=.ref a)->(H2 a=some (.ins C dx fs))->(EY K C)->(DP K C f)->(fs.length<1000)->(D.nx σ (upd H2 a (.ins C dx (BK f y fs))))->Yt K f D σ y x H2
def Wc (K:AK)(ta tv:TE)(f:Str):TS:=λD σ H=>tv σ H λy H1=>ta σ H1 λx o=>Yt K f D σ y x o
def OE (he:PE X e ta)(U:attributeBase e f X.env (eval e X.env)=eval e X.env):PE X (.Attribute e f pos) (XN X.K ta f):=by intro pins s σ H Q I h;show aL U (AM (he pins s σ H _ I h) λu s1 z0=>?_);let{x,H1,I1,o,a,C,dx,fs,v,ex,ea,c,n,l,q}:=z0;subst ex;obtain rfl:u=Value.ref a:=o;show mB I1 ea c n l λu' s2 I2 J=>⟨v,H1,I2,J,q⟩
def OK (ha:PE X o ta)(hv:PE X value tv)(hs:swapsWith value (some (.Attribute o f pos')) pos.line X.env=pure false):PS X (.Assign [.Attribute o f pos'] value pos) (Wc X.K ta tv f):=by intro pins s σ H D I h;show plainObj_wpAny_Assign_Attribute (AM (hv pins s σ H _ I h) λu s1 ⟨y,H1,I1,J,q⟩=>AM (ha pins s1 σ H1 _ I1 q) λov s2 z0=>?_) hs;let{x,H2,I2,U,a,C,dx,fs,ex,ea,c,n,l,q2}:=z0;subst ex;obtain rfl:ov=Value.ref a:=U;show kr I2 ea c n l J λs3 I3=>{σ,_,I3,q2}
inductive Dq (K:AK)(H:Hp):V->Value->Prop where
 | non:Dq K H .non (.type "NoneType")
 | bl (x:Bool):Dq K H (.bl x) (.type "bool")
 | int (i:Int):Dq K H (.int i) (.type "int")
 | str (x:Str):Dq K H (.str x) (.type "str")
 | flt (x:UInt64):Dq K H (.flt x) (.type "float")
 | lst {a:Addr}{xs:List V}(e:H a=some (.lst xs)):Dq K H (.ref a) (.type "list")
 | frz {a:Addr}{o:Obj}{xs:List V}(e:H a=some (.frz o (.lst xs))):Dq K H (.ref a) (.type "list")
 | tup {a:Addr}{xs:List V}(e:H a=some (.tup xs)):Dq K H (.ref a) (.type "tuple")
 | dK {a:Addr}{mf:List (AO×V)}(e:H a=some (.dK mf)):Dq K H (.ref a) (.type "dict")
 | dT {a:Addr}{mf:List (List AO×V)}(e:H a=some (.dT mf)):Dq K H (.ref a) (.type "dict")
 | ins {a C dx:Addr}{fs:List (Str×V)}(e:H a=some (.ins C dx fs))(cl:EY K C)(ha:PySem.W.findIn K (.ref C) "__class__"=some (some (.builtin "object.__class__")))
  (hn:PySem.W.specialIn K (.builtin "object.__class__") "__get__"=some (some (.builtin "getset_descriptor.__get__"))) (htk:PySem.W.takesIn K (.builtin "object.__class__")=some true)
  (hm:PySem.W.mroIn K C (.type "object")=some true):Dq K H (.ref a) (.ref C)
def fu (I:AA X pins σ H s)(U:AR x u)(ty:Dq X.K H x t)(e:PySem.W.kitOne X.K t c=some b)(h:∀tk,Q (.bool b) { s with toks:=tk }):
 wpAny (model X.prog X.w) A (call (.builtin "isinstance") [u,c]) Q E s:=by
 cases ty with
 | non=>cases (show u=Value.none from U);show PySem.W.kia_one PySem.W.kitx_none I.kIn True.intro e (λz=>nomatch z) h
 | bl y=>cases (show u=Value.bool y from U);show PySem.W.kia_one PySem.W.kitx_bool I.kIn True.intro e (λz=>nomatch z) h
 | int i=>let{t,q}:=(show ∃t,u=Value.int i t from U);cases q;show PySem.W.kia_one PySem.W.kitx_int I.kIn True.intro e (λz=>nomatch z) h
 | str y=>let{t,q}:=(show ∃t,u=Value.str y t from U);cases q;show PySem.W.kia_one PySem.W.kitx_str I.kIn True.intro e (λz=>nomatch z) h
 | flt y=>let{t,q}:=(show ∃t,u=Value.float y t from U);cases q;show PySem.W.kia_one PySem.W.kitx_float I.kIn True.intro e (λz=>nomatch z) h
 | @lst a xs ea=>cases (show u=Value.ref a from U);let{3,n,_,h1}:=(show Aj X.prog X.w H s.heap a (.lst xs) from I.hok a _ ea);show PySem.W.kia_one PySem.W.kitx_list I.kIn {_,h1,0} e (λz=>nomatch z) h
 | @frz a ob xs ea=>cases (show u=Value.ref a from U);let{_,3,n,_,h1}:=(show Aj X.prog X.w H s.heap a (.frz ob (.lst xs)) from I.hok a _ ea);show PySem.W.kia_one PySem.W.kitx_list I.kIn {_,h1,0} e (λz=>nomatch z) h
 | @tup a xs ea=>cases (show u=Value.ref a from U);let{_,3,p}:=(show Aj X.prog X.w H s.heap a (.tup xs) from I.hok a _ ea);let{o,h1,h2,_}:=p;show PySem.W.kia_one PySem.W.kitx_tuple I.kIn ⟨o,h1,h2⟩ e (λz=>nomatch z) h
 | @dK a mf ea=>cases (show u=Value.ref a from U);let{3,vs,_,p}:=(show Aj X.prog X.w H s.heap a (.dK mf) from I.hok a _ ea);let{o,es,ep,h1,h2,_}:=p;show PySem.W.kia_one PySem.W.kitx_dict I.kIn ⟨o,h1,h2.1⟩ e (λz=>nomatch z) h
 | @dT a mf ea=>cases (show u=Value.ref a from U);let{3,xs,_,o,es,ep,h1,h2,_}:=(show Aj X.prog X.w H s.heap a (.dT mf) from I.hok a _ ea);show PySem.W.kia_one PySem.W.kitx_dict I.kIn ⟨o,h1,h2.1⟩ e (λz=>nomatch z) h
 | @ins a C dx fs ea cl ha hn htk hm=>cases (show u=Value.ref a from U);let{mA,O,_}:=TK I.hok ea;let{od,J,_}:=O.look;show PySem.W.kia_one (PySem.W.kitx_own (cl.get _) cl.hd ha hn htk hm) I.kIn J e (λz=>nomatch z) h
structure Ap (k:Nat)(A:Around):Prop where
 hd:A.handled=none
 dp:A.depth+3*k+5<recursionLimit
 un:A.units+16*k+200<cLine
 gd:A.guards=some []
def Ap.mono (r:Ap k A)(h:j<=k):Ap j A:={r.hd,by let:=r.dp;lia,by let:=r.un;lia,r.gd}
def Ap.deeper (r:Ap (k+1) A)(env:Env):Ap k (A.deeper env):=
 {r.hd,by let:=r.dp;change A.depth+1+3*k+5<_;lia,by let:=r.un;change A.units+3+16*k+200<_;lia,r.gd}
def Ap.in1 (r:Ap (k+1) A):Ap k A.in1:=
 {r.hd,by let:=r.dp;change A.depth+3*k+5<_;lia,by let:=r.un;change A.units+1+16*k+200<_;lia,r.gd}
def lG {A:Around}:(A.under (.builtin "type.__call__" {.ref C::us,kw})).depth=A.depth+1:=by
 first | rfl | simp[Around.under,Code.weight,Code.isCreation,Code.isGuard,Code.isCaller,Code.frames,Code.isFrame,guardIds]
def jJ {A:Around}:(A.under (.builtin "type.__call__" {.ref C::us,kw})).units=A.units+1:=by
 first | rfl | simp[Around.under,Code.cUnits,Code.frames,Code.isFrame]
def Ap.make (r:Ap (k+1) A)(C)(us)(kw):Ap k (A.under (.builtin "type.__call__" {.ref C::us,kw})):=
 {r.hd,by let:=r.dp;rw[lG];lia,by let:=r.un;rw[jJ];lia,by first | show r.gd | (simp[Around.under,Code.guards,Code.isGuard,guardIds,pushGuards];show r.gd)}
def Ap.depth (r:Ap k A):A.depth<recursionLimit:=by let:=r.dp;lia
def Ap.units (r:Ap k A):A.units+64<cLine:=by let:=r.un;lia
def Ap.units0 (r:Ap k A):A.units<cLine:=by let:=r.un;lia
def LD:TA:=λ_ H Q=>Q [] H
def Ul (ta:TE)(o:TA):TA:=λσ H Q=>ta σ H λx H1=>o σ H1 λxs C=>Q (x::xs) C
def zL:PA X [] LD:=λ_ _ _ _ H Q I h=>Calls.spliced_nil {[],H,I,.nil,h}
def zC (ha:PE X e te)(hr:PA X es t)(hs:autoParam (starEach (e::es) X.env=(false,eval e X.env)::starEach es X.env) d_._auto_5):PA X (e::es) (Ul te t):=by intro pos pins s σ H Q I h;rw[hs];change wpAny _ _ (spliced ((false,eval e X.env)::backTo pos (starEach es X.env))) _ _ s;show Calls.spliced_cons (AM (ha pins s σ H _ I h) λu s1 ⟨x,H1,I1,C,U⟩=>?_);show AM (hr pos pins s1 σ H1 _ I1 U) λus s2 ⟨xs,H2,I2,o,J⟩=>{x::xs,H2,I2,.cons C o,J}
inductive br (Q:VK)(xs:List V)(H1:Hp):Prop
 | mk:(xs.length<=sizeLine)->(∀p,H1 p=none->Q (.ref p) (upd H1 p (.tup xs)))->br Q xs H1
def XS (t:TA):TE:=λσ H Q=>t σ H λxs H1=>br Q xs H1
inductive bh (Q:VK)(xs:List V)(H1:Hp):Prop
 | mk:(xs.length<=sizeLine)->(∀p,H1 p=none->Q (.ref p) (upd H1 p (.lst xs)))->bh Q xs H1
def Q2 (t:TA):TE:=λσ H Q=>t σ H λxs H1=>bh Q xs H1
def BZ {x1} (h:PA X es t):PE X (.Tuple es x1 pos) (XS t):=by intro pins s σ H Q I C;show wpAny_Tuple_spliced (AM (h pos pins s σ H _ I C) λus s1 ⟨xs,H1,o,r,z,q⟩=>{by rwa[<-r.length],?_});let hf:H1 s1.heap.objs.size=none:=o.hok.fresh (zH _);show{.ref s1.heap.objs.size,upd H1 s1.heap.objs.size (.tup xs),o.laid (t':=s1.toks) (λb u e=>zG _ e) (zH _) ?_,0,q _ hf};show{{z,_,zM _ rfl,0},us,r,{_,zM _ rfl,6}}
def Dc (h:PA X es t):PE X (.List es pos) (Q2 t):=by intro pins s σ H Q I C;show wpAny_List_spliced (AM (h pos pins s σ H _ I C) λus s1 ⟨xs,H1,o,r,z,q⟩=>{by rwa[<-r.length],?_});let hf:H1 s1.heap.objs.size=none:=o.hok.fresh (zH _);show{.ref s1.heap.objs.size,upd H1 s1.heap.objs.size (.lst xs),o.laid (t':=s1.toks) (λb u e=>zG _ e) (zH _) ?_,0,q _ hf};show⟨z,us,0,r,zM _ rfl⟩
abbrev Sp:=List V->Hp->VK->XK->Prop
abbrev Kv:=List Env->Hp->Shared->XK->Value->Shared->Prop
structure Jz (P:Program)(w:World)(K:AK)(mg:A2)(base:Heap)(A:Around)(outer:List Env)(s:Shared)(H:Hp):Prop where
 frames:A.frames=some outer
 mod:Mod K mg base
 bs:∀b o,base.get? b=some o->s.heap.get? b=some o/\H b=none
 bsz:base.objs.size<=s.heap.objs.size
 funs:s.heap.FunFrames base outer
 frf:∀b∈A4 outer,H b=none
 hok:Al P w H s.heap
 bare:AllBare s.gens
def CE (outer:List Env)(P:Program)(w:World)(H:Hp)(s:Shared)(Q:VK)(u:Value)(s':Shared):Prop:=
 ∃v H',s'.os=s.os/\AllBare s'.gens/\Un (A4 outer) [] H H' s.heap s'.heap/\Al P w H' s'.heap/\AR v u/\Q v H'
def CR (CX:Kv)(outer:List Env)(P:Program)(w:World)(H:Hp)(s:Shared)(Q:VK)(E:XK)(r:Result)(s':Shared):Prop:=
 match r with
 | .ok (.ret u)=>CE outer P w H s Q u s'
 | .ok _=>False
 | .error e=>CX outer H s E e s'
structure AF (P:Program)(w:World)(K:AK)(mg:A2)(base:Heap)(CX:Kv)(k:Nat)(f:Addr)(fd:FuncData)(ps:List Str)(sp:Sp):Prop where
 len:∀vs H Q E,sp vs H Q E->vs.length=ps.length
 run:∀(A:Around)(outer:List Env)(s:Shared)(H:Hp)(args:Args)(us:List Value)(vs:List V)(Q:VK)(E:XK),Ap k A->Jz P w K mg base A outer s H->BindsTo s fd args (ps.zip us)->AN vs us->sp vs H Q E ->
  codeAny (model P w) A (.call (.ref f) args) (CR CX outer P w H s Q E) s
def AF.mono {K:AK}(F:AF P w K mg base CX j f fd ps sp)(h:autoParam (j<=k) d_._auto_2):
 AF P w K mg base CX k f fd ps sp:={F.len,λA outer s H args us o Q E C=>F.run A outer s H args us o Q E (C.mono h)}
def AF.imp {K:AK}(F:AF P w K mg base CX k f fd ps sp)
 (h:∀vs H Q E,sp' vs H Q E->sp vs H Q E):AF P w K mg base CX k f fd ps sp':=
 {λvs H Q E q=>F.len vs H Q E (h _ _ _ _ q),λA outer s H args us vs Q E I he J o C=>F.run A outer s H args us vs Q E I he J o (h _ _ _ _ C)}
def Jz.make {K:AK}(e:Jz P w K mg base A outer s H)(C)(us)(kw):
 Jz P w K mg base (A.under (.builtin "type.__call__" {.ref C::us,kw})) outer s H:={by first | show e.frames | (simpa [Around.under,Code.envs,Code.isFrame,pushEnvs] using e.frames),e.mod,e.bs,e.bsz,e.funs,e.frf,e.hok,e.bare}
def AA.env0 (I:AA X pins σ H s):Jz X.prog X.w X.K X.mg X.base X.A X.stack s H:=
 {I.ok.frames,I.ok.mod,I.bs,zn I.ok.bsz I.sz,I.stack,I.stkFree,I.hok,I.bare}
def AA.after (I:AA X pins σ H s)(h:CE X.stack X.prog X.w H s Q u s'):EP X pins σ Q u s':=by let{v,H',os,bare,un,C,r,q}:=h;let{J,g,d,t,o}:=s';obtain rfl:o=s.os:=os;show{v,H',I.call (h':=J) (g':=g) (d':=d) (t':=t) (ch:=[]) un C bare (λb z=>absurd z (by simp)),r,q}
def Iv (sp:Sp)(C:List V)(E:XK)(t:TA):TE:=λσ H Q=>t σ H λo H1=>sp (o++C) H1 Q E
inductive aQ (C:Addr)(m:Str)(sp:Sp)(oO:List V)(E:XK)(t:TA)(σ:St)(Q:VK)(x:V)(H1:Hp):Prop
 | mk:∀a dx fs,(x=.ref a)->(H1 a=some (.ins C dx fs))->(fs.lookup m=none)->(t σ H1 λvs H2=>sp (x::(vs++oO)) H2 Q E)->aQ C m sp oO E t σ Q x H1
def JT (C:Addr)(m:Str)(sp:Sp)(o:List V)(E:XK)(ta:TE)(t:TA):TE:=λσ H Q=>ta σ H λx H1=>aQ C m sp o E t σ Q x H1
def Qw (C:Addr)(sp:Sp)(I:List V)(E:XK)(t:TA):TE:=λσ H Q=>t σ H λo H1=>∀x dx,H1 x=none->H1 dx=none->dx≠x ->
 sp (.ref x::(o++I)) (upd (upd H1 dx (.own x)) x (.ins C dx [])) (λv J=>v=.non/\Q (.ref x) J) E
def BC (K:AK)(fd:FuncData)(ps:List Str)(ds:List Value):Prop:=
 ∀s us,K.In s.heap->(us++ds).length=ps.length->BindsTo s fd {us,[]} (ps.zip (us++ds))
def BC.all {K:AK}(h:∀us:List Value,us.length=ps.length->bindArgs fd {us,[]}=pure (ps.zip us)):BC K fd ps []:=λs us _ o=>by rw[Bl] at o ⊢;show .of_eq (h us o)
def Hv (CX:Kv)(X:Cx)(E:XK):Prop:=∀pins σ H s e o,AA X pins σ H s->CX X.stack H s E e o->X.xe e o
def WS (F:AF X.prog X.w X.K X.mg X.base CX k f fd ps sp)(hr:Ap k X.A)(hb:BC X.K fd ps ds)(hd:AN oO ds)(U:Hv CX X E)
 (I:AA X pins σ H s)(r:AN vs us)(h:sp (vs++oO) H Q E):wpAny (model X.prog X.w) X.A (call (.ref f) us) (EP X pins σ Q) X.xe s:=by
 let C:AN (vs++oO) (us++ds):=r.append hd;let hl:(us++ds).length=ps.length:=by rw[<-C.length];show F.len _ _ _ _ h
 show B9 (codeAny_mono (F.run X.A X.stack s H {us,[]} (us++ds) (vs++oO) Q E hr I.env0 (hb s us I.kIn hl) C h) λr J o=>?_);cases r with
 | error e=>show U pins σ H s e J I o
 | ok fl=>
  cases fl with
  | ret u=>show I.after o
  | next=>show False.elim o
  | brk=>show False.elim o
  | cont=>show False.elim o
def Nf (F:AF X.prog X.w X.K X.mg X.base CX k f fd ps sp)(hr:Ap k X.A)(hg:Gl X x)(hm:X.mg x=some (.ref f))(hk:PySem.W.keepIn X.K (.ref f)=true)(hb:BC X.K fd ps ds)(hd:AN oO ds)(U:Hv CX X E)
 (ha:PA X (e::es) t)(C:autoParam ((x==("__debug__" : Str))=false) d_._auto_2) (he:autoParam (starEach (e::es) X.env=(false,eval e X.env)::starEach es X.env) d_._auto_5)(J:autoParam ((backTo pos (starEach es X.env)).any (·.1)=false) d_._auto_5):
 PE X (.Call (.Name x p) (e::es) [] pos) (Iv sp oO E t):=by
 intro pins s σ H Q I h;show EN (Nq I hg hm ?_ C);show PySem.W.callWith_K (h₀:=X.base) I.ok.mod.kin hk (AM (ha pos pins s σ H _ I h) λus s1 ⟨vs,H1,o,r,q⟩=>{o.kIn,?_}) he J;show WS F hr hb hd U o r q
def O6 (he:PE X o ta)(c:EY X.K C)(hm:D6 X.K C m f)(F:AF X.prog X.w X.K X.mg X.base CX k f fd ps sp)(hr:Ap k X.A)(hb:BC X.K fd ps ds)(hd:AN oO ds)(hx:Hv CX X E)(ha:PA X (e::es) t)
 (J:autoParam (starEach (e::es) X.env=(false,eval e X.env)::starEach es X.env) d_._auto_5)(nq:autoParam ((backTo pos (starEach es X.env)).any (·.1)=false) d_._auto_5)
 (ht:autoParam (eval (.Call (.Attribute o m apos) (e::es) [] pos) X.env=(do
  let U <-eval o X.env
  standAt apos.atName
  let (f,first) <-holding [U] (getMethod U m pl)
  callWith pos f first (backTo pos (starEach (e::es) X.env)) (backToKw pos (keywordEach [] X.env)))) d_._auto_5):
 PE X (.Call (.Attribute o m apos) (e::es) [] pos) (JT C m sp oO E ta t):=by
 intro pins s σ H Q I h;show PySem.W.methodCall_KW (pl:=pl) (AM (he pins s σ H _ I h) λu s1 z0=>?_) ht;let{x,H1,I1,rx,a,dx,fs,ex,ea,l,q}:=z0;subst ex;obtain rfl:u=Value.ref a:=rx;show ZS I1 ea c hm l ?_;show PySem.W.callWith_K (first:=[.ref a]) (h₀:=X.base) I.ok.mod.kin hm.kp (AM (ha pos pins s1 σ H1 _ I1 q) λus s2 ⟨vs,H2,I2,r,q2⟩=>{I2.kIn,?_}) J nq;show WS (us:=.ref a::us) (vs:=.ref a::vs) F hr hb hd hx I2 (.cons rfl r) q2
def Oy (he:PE X o ta)(c:EY X.K C)(hm:D6 X.K C m f)(F:AF X.prog X.w X.K X.mg X.base CX k f fd ps sp)(hr:Ap k X.A)(hb:BC X.K fd ps ds)(hd:AN oO ds)(hx:Hv CX X E)
 (ht:autoParam (eval (.Call (.Attribute o m apos) [] [] pos) X.env=(do
  let U <-eval o X.env
  standAt apos.atName
  let (f,first) <-holding [U] (getMethod U m pl)
  callWith pos f first (backTo pos (starEach [] X.env)) (backToKw pos (keywordEach [] X.env)))) d_._auto_5):
 PE X (.Call (.Attribute o m apos) [] [] pos) (JT C m sp oO E ta LD):=by
 intro pins s σ H Q I h;show PySem.W.methodCall_KW (pl:=pl) (AM (he pins s σ H _ I h) λu s1 z0=>?_) ht;let{x,H1,J,rx,a,dx,fs,ex,ea,l,q}:=z0;subst ex;obtain rfl:u=Value.ref a:=rx;show ZS J ea c hm l ?_;show PySem.W.callWith_K0 (first:=[.ref a]) J.kIn hm.kp (WS (us:=[.ref a]) (vs:=[.ref a]) F hr hb hd hx J (.cons rfl .nil) q)
structure Mk (K:AK)(C f:Addr):Prop where
 makes:PySem.W.makesIn K C=true
 init:PySem.W.findIn K (.ref C) "__init__"=some (some (.ref f))
 fn:PySem.W.isFn K (.ref f)=true
 kp:PySem.W.keepIn K (.ref C)=true
def jd (M:Mk X.K C f)(F:AF X.prog X.w X.K X.mg X.base CX k f fd ps sp)(hr:Ap (k+1) X.A)(hb:BC X.K fd ps ds)(hd:AN oO ds)
 (hx:Hv CX X E)(I:AA X pins σ H s)(r:AN vs us)
 (h:∀x dx,H x=none->H dx=none->dx≠x->sp (.ref x::(vs++oO)) (upd (upd H dx (.own x)) x (.ins C dx [])) (λv H2=>v=.non/\Q (.ref x) H2) E):
 wpAny (model X.prog X.w) X.A (call (.ref C) us) (EP X pins σ Q) X.xe s:=by
 let hq:=h (s.heap.objs.size+1) s.heap.objs.size (I.hok.fresh (Ci _)) (I.hok.fresh (zH _)) (zb (Jq _));let J:=AA.made (C:=C) I;let U:AN (V.ref (s.heap.objs.size+1)::(vs++oO)) (Value.ref (s.heap.objs.size+1)::(us++ds)):=.cons rfl (r.append hd);let hl:(Value.ref (s.heap.objs.size+1)::us++ds).length=ps.length:=by let e:=U.length;rw[F.len _ _ _ _ hq] at e;show e.symm
 show B9 (lZ (f:=f) I.kIn M.makes M.init (beq_iff_eq.mp M.fn) (codeAny_mono (F.run _ X.stack _ _ {Value.ref (s.heap.objs.size+1)::us,[]} (Value.ref (s.heap.objs.size+1)::(us++ds)) _ _ E (hr.make C us [])
  (J.env0.make C us []) (hb _ (Value.ref (s.heap.objs.size+1)::us) J.kIn hl) U hq) λr s' o=>?_))
 cases r with
 | error e=>show hx pins σ _ _ e s' J o
 | ok fl=>
  cases fl with
  | ret u=>let{v,H',I3,rv,ev,q3}:=J.after o;subst ev;show{rv,{V.ref (s.heap.objs.size+1),H',I3,0,q3}}
  | next=>show False.elim o
  | brk=>show False.elim o
  | cont=>show False.elim o
def Vh (M:Mk X.K C f)(F:AF X.prog X.w X.K X.mg X.base CX k f fd ps sp)(hr:Ap (k+1) X.A)(hg:Gl X x)(hm:X.mg x=some (.ref C))(hb:BC X.K fd ps ds)(hd:AN oO ds)(hx:Hv CX X E)
 (ha:PA X (e::es) t)(J:autoParam ((x==("__debug__" : Str))=false) d_._auto_2) (he:autoParam (starEach (e::es) X.env=(false,eval e X.env)::starEach es X.env) d_._auto_5)(U:autoParam ((backTo pos (starEach es X.env)).any (·.1)=false) d_._auto_5):
 PE X (.Call (.Name x p) (e::es) [] pos) (Qw C sp oO E t):=by
 intro pins s σ H Q I h;show EN (Nq I hg hm ?_ J);show PySem.W.callWith_K (h₀:=X.base) I.ok.mod.kin M.kp (AM (ha pos pins s σ H _ I h) λus s1 ⟨vs,H1,o,r,q⟩=>{o.kIn,?_}) he U;show jd M F hr hb hd hx o r q
structure zo (N P:List Str)(sc:Scope):Prop where
 kind:sc.kind=.function
 co:sc.isCoroutine=false
 gen:sc.isGenerator=false
 nd:N.Nodup
 pre:N.take P.length=P
 par:∀x∈P,sc.names.lookup x=some .local\/sc.names.lookup x=some .cell
 nofree:∀y∈sc.names,y.2 ≠ .free
def AQ (a:autoParam (sc.kind=.function) d_._auto_5)(b:autoParam (sc.isCoroutine=false) d_._auto_5)(c:autoParam (sc.isGenerator=false) d_._auto_5)(d:autoParam (N.Nodup) d_._auto_6)(e:autoParam (N.take P.length=P) d_._auto_5)(f:autoParam (∀x∈P,sc.names.lookup x=some .local\/sc.names.lookup x=some .cell) d_._auto_6)(g:autoParam (∀y∈sc.names,y.2 ≠ .free) d_._auto_6):zo N P sc:=⟨a,b,c,d,e,f,g⟩
def dI {kindOf:Str->Option NameKind}:∀{binds:List (Str×Value)}{m:A2},(∀v,(x,v)∉binds)->bindL kindOf binds m x=m x
 | [],_,_=>rfl
 | (n,v)::r,m,h=>by
  unfold bindL;rw[dI λw hw=>h w (zZ _ hw)];split
  . let:x≠n:=by rintro rfl;show h v za
    simp[this]
  . rfl
def Zt {kindOf:Str->Option NameKind}:∀{binds:List (Str×Value)}{m:A2},(∀v,(x,v)∉binds)->bindC kindOf binds m x=m x
 | [],_,_=>rfl
 | (n,v)::r,m,h=>by
  unfold bindC;rw[Zt λw hw=>h w (zZ _ hw)];split
  . rfl
  . let:x≠n:=by rintro rfl;show h v za
    simp[this]
def ZY {kindOf:Str->Option NameKind}:∀{P:List Str}{vs:List Value}{i:Nat}{m:A2},P.Nodup->P[i]?=some x->vs[i]?=some v->kindOf x=some .local ->
 bindL kindOf (P.zip vs) m x=some v
 | [],_,_,_,_,h,_,_=>by simp at h
 | _::_,[],_,_,_,_,h,_=>by simp at h
 | p::P,w::vs,0,m,nd,h1,h2,hk=>by simp at h1 h2;subst h1;subst h2;change bindL kindOf ((p,w)::P.zip vs) m p=_;unfold bindL;rw[dI λv o=>(C7.mp nd).1 (List.of_mem_zip o).1,if_pos hk];simp
 | p::P,w::vs,i+1,m,nd,h1,h2,hk=>by change bindL kindOf ((p,w)::P.zip vs) m x=_;unfold bindL;show ZY (i:=i) (C7.mp nd).2 (by simpa using h1) (by simpa using h2) hk
def bC {kindOf:Str->Option NameKind}:∀{P:List Str}{vs:List Value}{i:Nat}{m:A2},P.Nodup->P[i]?=some x->vs[i]?=some v->kindOf x≠some .local ->
 bindC kindOf (P.zip vs) m x=some v
 | [],_,_,_,_,h,_,_=>by simp at h
 | _::_,[],_,_,_,_,h,_=>by simp at h
 | p::P,w::vs,0,m,nd,h1,h2,hk=>by simp at h1 h2;subst h1;subst h2;change bindC kindOf ((p,w)::P.zip vs) m p=_;unfold bindC;rw[Zt λv o=>(C7.mp nd).1 (List.of_mem_zip o).1,if_neg hk];simp
 | p::P,w::vs,i+1,m,nd,h1,h2,hk=>by change bindC kindOf ((p,w)::P.zip vs) m x=_;unfold bindC;show bC (i:=i) (C7.mp nd).2 (by simpa using h1) (by simpa using h2) hk
meta def start (N:List Str)(vs:List V):St:=vs.map some++List.replicate (N.length-vs.length) none
meta def DU (CX:Kv)(P:Program)(w:World)(K:AK)(mg:A2)(base:Heap)(N:List Str)(qual:Str)(scope:Scope)(f:Addr)(cd:Value)(A:Around)(outer:List Env)(s:Shared)(H:Hp)(E:XK):Cx where
 prog:=P
 w:=w
 K:=K
 mg:=mg
 base:=base
 A:=A.deeper (envOfC qual scope s.heap.objs.size f cd)
 N:=N
 s₀:=s
 H₀:=H
 env:=envOfC qual scope s.heap.objs.size f cd
 outer:=outer
 stack:=envOfC qual scope s.heap.objs.size f cd::outer
 ex:=[]
 calm:=true
 fn:=λ_=>true
 pn:=[]
 xe:=λe C=>wpAny (model P w) (A.deeper (envOfC qual scope s.heap.objs.size f cd)) (leaving (envOfC qual scope s.heap.objs.size f cd) e) (λ_ o=>CX outer H s E e o) (λI o=>CX outer H s E I o) C
def dB {sc:Scope}(h:sc.names.lookup x=some .cell):∃c,(cellsFrom n sc.names []).lookup x=some c:=by let q:=PySem.W.cellsFrom_some sc.names n [] (.inl h);show Option.isSome_iff_exists.mp q
def gq {K:AK}
 (S:zo N ps scope)(hd:A.handled=none)(C:Jz P w K mg base A outer s H)(hl:vs.length=ps.length)(r:AN vs us)
 (x:InCallC s s.heap.objs.size (bindL (envOfC qual scope s.heap.objs.size f cd).kindOf (ps.zip us) λ_=>none) (cellsFrom (s.heap.objs.size+1) scope.names []) (bindC (envOfC qual scope s.heap.objs.size f cd).kindOf (ps.zip us) λ_=>none) s1):
 AA (DU CX P w K mg base N qual scope f cd A outer s H E) [] (start N vs) H s1:=by
 let nq:ps.length<=N.length:=by let:=congrArg List.length S.pre;rw[zl] at this;lia
 let{h1,tk,0,hk}:=x.done;let I:∀b:Addr,b∉(DU CX P w K mg base N qual scope f cd A outer s H E).ex:=λb z=>absurd (show b∈([]:List Addr) from z) (by simp);show{{C.mod,S.kind,2,zH _,λy z c h1 o=>?_,λy hy=>?_,λy c _ h=>?_,λ_=>hd,Around.frames_deeper C.frames,.inr {2},λb z=>absurd z (I b),C.bs,C.bsz,λb _ _=>I b,λb z=>absurd z (I b),C.funs,C.frf},0,C.bare,Un.kept hk,{_,x.toInCall.ns,λi y v h1 o h3=>?_},λy c h=>{_,x.cell y c h},C.hok.fresh (zH _),λy c h=>?_,λp U=>absurd (show p∈([]:CT) from U) (by simp),C.hok.kept hk,?_}
 . show name_of_addr x.apart (PySem.mem_of_lookup h1) (PySem.mem_of_lookup o)
 . let hy:scope.names.lookup y=some .cell\/scope.names.lookup y=some .free:=hy;rcases hy with hy | hy
   . show dB hy
   . show absurd rfl (S.nofree _ (PySem.mem_of_lookup hy))
 . show F6 (x.above y c (PySem.mem_of_lookup h))
 . let hi:i<vs.length:=by
    unfold start at o;by_cases hi:i<vs.length
    . show hi
    . rw[zh (by simpa using hi)] at o;rw[List.getElem?_replicate] at o;split at o <;> cases o
   let ha:vs[i]?=some v:=by
    unfold start at o;rw[zi (by simpa using hi),zO] at o;cases e:vs[i]? with
    | none=>rw[e] at o;cases o
    | some a=>rw[e] at o;cases o;rfl
   let{u,hu,rv}:=r.get ha;let U:ps[i]?=some y:=by rwa[<-S.pre,List.getElem?_take_of_lt ()]
   let J:ps.Nodup:=by rw[<-S.pre];show S.nd.sublist (List.take_sublist _ _)
   show{u,rv,?_};rcases S.par y (zN U) with k | k
   . show .inl {k,ZY J U hu k}
   . let{c,e}:=dB (n:=s.heap.objs.size+1) k;show .inr {.inl k,c,e,?_};let q:=x.cell y c e;rw[bC J U hu (by change scope.names.lookup y≠_;rw[k];decide)] at q;show q
 . show C.hok.fresh (F6 (x.above y c (PySem.mem_of_lookup h)))
 . unfold start;change _=N.length;rw[zT,zB,C8]
   lia
def VL {CX:Kv}{P:Program}{w:World}{K:AK}{mg:A2}{base:Heap}{k:Nat}{f:Addr}{name qual:Str}{params:Arguments}{body:List Stmt}{scope:Scope}{dV kV doc pm U ct oc:Value}{an od:Option Addr}
 {pQ:Array (Option Value)}{N ps:List Str}{sp:Sp}(lk:K.lookup f=some {oc,od,.func (PySem.W.fnOf name qual params body scope dV kV doc pm an U ct),pQ})(pF:PySem.W.codeIn K U qual=true)(S:zo N ps scope)
 (len:∀vs H Q E,sp vs H Q E->vs.length=ps.length)
 (nZ:∀A outer s H vs Q E,Ap k (A.deeper (envOfC qual scope s.heap.objs.size f U))->sp vs H Q E ->
  ∃t,CI (DU CX P w K mg base N qual scope f U A outer s H E) body t/\t { nx:=λ_ H'=>Q .non H',rt:=Q } (start N vs) H):
 AF P w K mg base CX (k+1) f (PySem.W.fnOf name qual params body scope dV kV doc pm an U ct) ps sp:=by
 show{len,λA outer s H args us vs Q E hr e0 hb r oz=>?_};let hl:=len _ _ _ _ oz;let KX:K.In s.heap:=e0.mod.kin.keeps λb o e=>(e0.bs b o e).1;let lim:s.heap.NoLimit:=e0.mod.nolimit.keeps λb o e=>(e0.bs b o e).1;let hkind:∀y∈ps.zip us,scope.names.lookup y.1=some .local\/(scope.names.lookup y.1=some .cell/\((cellsFrom (s.heap.objs.size+1) scope.names []).lookup y.1).isSome=true):=λ⟨n,v⟩ hy=>by
  rcases S.par n (List.of_mem_zip hy).1 with q | q
  . show .inl q
  . show .inr {q,PySem.W.cellsFrom_some _ _ _ (.inl q)}
 show codeAny_call_function hr.depth (KX _ _ lk) rfl S.co S.gen rfl (PySem.W.codeRec_of KX pF) (hb _ _ _ _ ?_);show wpAny_newFunctionEnv_cells S.kind hkind λenv he s1 x=>?_;subst he;show{lim.keeps x.toInCall.keep,codeAny_func ?_};let{t,ht,hq}:=nZ A outer s H vs Q E (hr.deeper _) oz;let I:AA (DU CX P w K mg base N qual scope f U A outer s H E) [] (start N vs) H s1:=gq S hr.hd e0 hl r x;show BB (ht [] s1 (start N vs) H _ I hq) (λfl s' hs=>?_) λe s' hs=>hs;let fin:∀{C:St}{H':Hp}{v:V}{u:Value},AA (DU CX P w K mg base N qual scope f U A outer s H E) [] C H' s'->AR v u->Q v H'->CE outer P w H s Q u s':=
  λ{C H' v u} J rv q=>⟨v,H',J.os,J.bare,J.base,J.hok,rv,q⟩
 cases fl with
 | ret u=>let{v,C,H',J,rv,q}:=hs;show fin J rv q
 | next=>let{C,H',J,q}:=hs;show fin (v:=V.non) (u:=Value.none) J rfl q
 | brk=>let{_,3,q}:=hs;show False.elim q
 | cont=>let{_,3,q}:=hs;show False.elim q
section
variable {X:Cx}{x:Str}{p pos:Pos}{e:Expr}{es:List Expr}{t:TA}{id T:String}{r:List V->Hp->VK->Prop}
def dW (r:List V->Hp->VK->Prop)(t:TA):TE:=λσ H Q=>t σ H λo H1=>r o H1 Q
def AZ (hc:Bx X (.builtin id) r)(hm:X.mg x=none)(ha:PA X (e::es) t)(hg:autoParam (Gl X x) d_._auto_5)(hv:autoParam (bootBuiltins x=some (.builtin id)) d_._auto_6)(hn:x ≠ "__name__" := by decide) (U:autoParam ((x==("__debug__" : Str))=false) d_._auto_2)
 (he:autoParam (starEach (e::es) X.env=(false,eval e X.env)::starEach es X.env) d_._auto_5)(nq:autoParam ((backTo pos (starEach es X.env)).any (·.1)=false) d_._auto_5):PE X (.Call (.Name x p) (e::es) [] pos) (dW r t):=by
 intro pins s σ H Q I h;show EN (Cp I hg hm hv ?_ hn U);show PyProof.Rows.callWith_builtin1 (AM (ha pos pins s σ H _ I h) λus s1 ⟨o,H1,I1,C,J⟩=>hc pins s1 σ H1 o us Q I1 C J) he nq
def BQ (hc:Bx X (.type T) r)(hm:X.mg x=none)(ha:PA X (e::es) t)(hg:autoParam (Gl X x) d_._auto_5)(hv:autoParam (bootBuiltins x=some (.type T)) d_._auto_6)(hn:x ≠ "__name__" := by decide) (U:autoParam ((x==("__debug__" : Str))=false) d_._auto_2)
 (he:autoParam (starEach (e::es) X.env=(false,eval e X.env)::starEach es X.env) d_._auto_5)(nq:autoParam ((backTo pos (starEach es X.env)).any (·.1)=false) d_._auto_5):PE X (.Call (.Name x p) (e::es) [] pos) (dW r t):=by
 intro pins s σ H Q I h;show EN (Cp I hg hm hv ?_ hn U);show PyProof.Rows.callWith_type1 (AM (ha pos pins s σ H _ I h) λus s1 ⟨o,H1,I1,C,J⟩=>hc pins s1 σ H1 o us Q I1 C J) he nq
end
section
variable {κ:Type} [DecidableEq κ]
meta def Ag (o:List (κ×V))(k:κ):Option V:=(o.find? λC=>decide (C.1=k)).map (·.2)
meta def Au (C:List (κ×V))(k:κ)(v:V):List (κ×V):=
 if (C.any λo=>decide (o.1=k))=true then C.map (λo=>if o.1=k then (o.1,v) else o) else C++[(k,v)]
meta def Bg (o:List (κ×V))(k:κ):List (κ×V):=o.filter λC=>decide (C.1≠k)
def lQ :Ag ([]:List (κ×V)) k=none:=rfl
def DT {k:κ}(e:p.1=k):Ag (p::r) k=some p.2:=by simp[Ag,Hu,e]
def C5 {k:κ}(e:¬ p.1=k):Ag (p::r) k=Ag r k:=by simp[Ag,Hu,e]
def Ft (k:κ):∀o:List (κ×V),(o.any λC=>decide (C.1=k))=(Ag o k).isSome
 | []=>rfl
 | p::r=>by
  rw[List.any_cons];by_cases e:p.1=k
  . simp only[DT e,zX e,Bool.true_or,Option.isSome_some]
  . rw[C5 e,ze e,Bool.false_or];show Ft k r
def aS (k j:κ)(y):∀C:List (κ×V),Ag (C.map λo=>if o.1=k then (o.1,y) else o) j=(Ag C j).map λx=>if j=k then y else x
 | []=>rfl
 | p::r=>by
  let I:=aS k j y r;rw[Bf];by_cases h:p.1=k
  . rw[if_pos h];by_cases e:p.1=j
    . rw[DT (p:=(p.1,y)) e,DT e,Fy,if_pos (e.symm.trans h)]
    . rw[C5 (p:=(p.1,y)) e,C5 e,I]
  . rw[if_neg h];by_cases e:p.1=j
    . rw[DT (p:=p) e,DT e,Fy,if_neg (λz=>h (e.trans z))]
    . rw[C5 (p:=p) e,C5 e,I]
def aq (k j:κ)(y):∀o:List (κ×V),Ag o k=none->Ag (o++[(k,y)]) j=if j=k then some y else Ag o j
 | [],_=>by
  by_cases e:k=j
  . rw[if_pos e.symm];show DT (p:=(k,y)) e
  . rw[if_neg (λz=>e z.symm)];show C5 (p:=(k,y)) e
 | p::r,hn=>by
  rw[List.cons_append];let C:¬ p.1=k:=λz=>by rw[DT z] at hn;cases hn
  rw[C5 C] at hn;let I:=aq k j y r hn;by_cases e:p.1=j
  . rw[DT e,DT e,if_neg (λz=>C (e.trans z))]
  . rw[C5 e,C5 e,I]
def h8 (mf)(k j:κ)(y):Ag (Au mf k y) j=if j=k then some y else Ag mf j:=by
 unfold Au;by_cases a:(mf.any λo=>decide (o.1=k))=true
 . rw[if_pos a,aS];rw[Ft] at a;by_cases e:j=k
   . let{x,C}:=Option.isSome_iff_exists.mp a;rw[if_pos e,e,C,Fy,if_pos rfl]
   . rw[if_neg e];cases Ag mf j with
     | none=>rfl
     | some x=>rw[Fy,if_neg e]
 . rw[if_neg a];show aq k j y mf ?_;rw[Ft] at a;cases q:Ag mf k with
   | none=>rfl
   | some x=>rw[q] at a;show (a rfl).elim
def OP (mf)(k:κ)(v):(Au mf k v).length<=mf.length+1:=by
 unfold Au;split
 . rw[zB];lia
 . rw[zT,zm,List.length_nil];lia
def YJ {o:List (κ×V)}(v)(h:Ag o k=none):Au o k v=o++[(k,v)]:=by unfold Au;rw[Ft,h];show if_neg (by decide)
def BW.isSome_eq (r:BW o u):o.isSome=u.isSome:=by
 cases o with
 | none=>cases u with
  | none=>rfl
  | some _=>show (show False from r).elim
 | some _=>cases u with
  | none=>show (show False from r).elim
  | some _=>rfl
def BW.getD (r:BW o u)(C:AR d d'):AR (o.getD d) (u.getD d'):=by
 cases o with
 | none=>cases u with
  | none=>show C
  | some _=>show (show False from r).elim
 | some _=>cases u with
  | none=>show (show False from r).elim
  | some _=>show r
def KV.val (r:KV mf vs)(k:κ):BW (Ag mf k) (valueAt vs k):=by
 unfold KV at r
 induction r with
 | nil=>show True.intro
 | @cons p q ps qs h t ih=>
  let{C,I}:=h;by_cases e:p.1=k
  . let o:q.1=k:=C.symm.trans e;let b:valueAt (q::qs) k=some q.2:=by simp[valueAt,Hu,o]
    rwa[DT e,b]
  . let o:¬ q.1=k:=λz=>e (C.trans z);let b:valueAt (q::qs) k=valueAt qs k:=by simp[valueAt,Hu,o]
    rwa[C5 e,b]
def KV.any (r:KV mf vs)(k:κ):(mf.any λo=>decide (o.1=k))=vs.any λo=>decide (o.1=k):=by
 unfold KV at r
 induction r with
 | nil=>rfl
 | cons h t C=>rw[List.any_cons,List.any_cons,C,h.1]
def KV.repl (r:KV mf vs)(k:κ)(I:AR y u):
 KV (mf.map λo=>if o.1=k then (o.1,y) else o) (vs.map λo=>if o.1=k then (o.1,u) else o):=by
 unfold KV at r ⊢
 induction r with
 | nil=>show .nil
 | @cons p q ps qs h t ih=>
  rw[Bf,Bf];show .cons ?_ ih;let{C,J}:=h;by_cases e:p.1=k
  . rw[if_pos e,if_pos (C.symm.trans e)];show⟨C,I⟩
  . rw[if_neg e,if_neg (λz=>e (C.trans z))];show⟨C,J⟩
def KV.put (r:KV mf vs)(k:κ)(o:AR y u):KV (Au mf k y) (stored vs k u):=by
 unfold Au stored;rw[r.any k];by_cases e:(vs.any λC=>decide (C.1=k))=true
 . rw[if_pos e,if_pos e];show r.repl k o
 . rw[if_neg e,if_neg e];show Paired.snoc r {0,o}
def KV.drop (r:KV mf vs)(k:κ):KV (Bg mf k) (without vs k):=by
 unfold KV at r ⊢;unfold Bg without
 induction r with
 | nil=>show .nil
 | @cons p q ps qs h t ih=>
  let{o,C}:=h;rw[Jr,Jr];by_cases e:p.1=k
  . let a:¬ decide (p.1≠k)=true:=by simp[e]
    let b:¬ decide (q.1≠k)=true:=by simp[o.symm.trans e]
    rwa[if_neg a,if_neg b]
  . let I:¬ q.1=k:=λz=>e (o.trans z);let a:decide (p.1≠k)=true:=by simp[e]
    let b:decide (q.1≠k)=true:=by simp[I]
    rw[if_pos a,if_pos b];show .cons ⟨o,C⟩ ih
def KV.length {vs:List (κ×Value)}(r:KV mf vs):mf.length=vs.length:=Paired.length r
def gY (mf)(k:κ):(Bg mf k).length<=mf.length:=CZ _ _
end
def Fj (r:AR (kV k) u):(As P w).is k u=true:=by
 cases k with
 | inl i=>let{t,e}:=(show ∃t,u=Value.int i t from r);subst e;show k4 P w i t
 | inr x=>let{t,e}:=(show ∃t,u=Value.str x t from r);subst e;show fV P w x t
def YI :∀{ks:List AO}{us:List Value},AN (ks.map kV) us->ItemsAre (As P w) ks us
 | [],_,r=>by rw[List.map_nil] at r;cases r;show .nil
 | k::ks,_,r=>by
  rw[Bf] at r;cases r with
  | cons h t=>show .cons (Fj h) (YI t)
abbrev KT (H:Hp):List (List AO×V)->List (List AO×Addr×Value)->Prop:=Paired λp q=>p.1=q.1/\H q.2.1=some (.tup (p.1.map kV))/\AR p.2 q.2.2
def KT.val (r:KT H mf xs)(k):BW (Ag mf k) ((atKey xs k).map (·.2)):=by
 induction r with
 | nil=>show True.intro
 | @cons p q ps qs h t ih=>
  let{C,_,I}:=h;by_cases e:p.1=k
  . let o:q.1=k:=C.symm.trans e;let b:atKey (q::qs) k=some q.2:=by simp[atKey,Hu,o]
    rwa[DT e,b]
  . let o:¬ q.1=k:=λz=>e (C.trans z);let b:atKey (q::qs) k=atKey qs k:=by simp[atKey,Hu,o]
    rwa[C5 e,b]
def KT.repl (r:KT H mf xs)(k)(J:AR y u):
 KT H (mf.map λC=>if C.1=k then (C.1,y) else C) (xs.map (putAt k u)):=by
 induction r with
 | nil=>show .nil
 | @cons p q ps qs h t ih=>
  rw[Bf,Bf];show .cons ?_ ih;let{o,I,U}:=h;unfold putAt;by_cases e:p.1=k
  . rw[if_pos e,if_pos (o.symm.trans e)];show⟨o,I,J⟩
  . rw[if_neg e,if_neg (λz=>e (o.trans z))];show⟨o,I,U⟩
def KT.put (r:KT H mf xs)(k)(I:H b=some (.tup (k.map kV)))(o:AR y u):
 KT H (Au mf k y) (storedH xs k b u):=by
 let e:(mf.any λC=>decide (C.1=k))=(atKey xs k).isSome:=by rw[Ft,(r.val k).isSome_eq,Option.isSome_map]
 unfold Au storedH;rw[e];by_cases q:(atKey xs k).isSome=true
 . rw[if_pos q,if_pos q];show r.repl k o
 . rw[if_neg q,if_neg q];show Paired.snoc r {0,I,o}
def KT.keeps (r:KT H mf xs)(o:∀b ys,H b=some (.tup ys)->H' b=some (.tup ys)):KT H' mf xs:=
 Paired.mapP r λ_ _ z=>{z.1,o _ _ z.2.1,z.2.2}
def JI (ok:Al P w H h)(e:Rd H a u):Aj P w H h a u:=e.ok ok
def Np (ok:Al P w H h)(e:Rd H a (.dK mf)):mf.length<=sizeLine/\(a==sysModules)=false/\∃vs,KV mf vs/\h.DictOf (As P w) a vs:=
 show Aj P w H h a (.dK mf) from JI ok e
def Ob (ok:Al P w H h)(e:H a=some (.dK mf)):mf.length<=sizeLine/\(a==sysModules)=false/\∃vs,KV mf vs/\h.DictOf (As P w) a vs:=Np ok (.inl e)
def O5 (ok:Al P w H h)(e:H a=some (.tup (ks.map kV))):(tupleKind (As P w)).is h ks a:=by let{_,its,r,o,J,I,n,C}:=(show Aj P w H h a (.tup (ks.map kV)) from ok a _ e);show{o,its.toArray,n,J,I,C,by simpa using YI r}
def NR (ok:Al P w H h)(e:Rd H a (.dT mf)):mf.length<=sizeLine/\(a==sysModules)=false /\
 ∃xs,KT H mf xs/\h.DictOfH (tupleKind (As P w)) a xs:=by
 let{z,y,xs,r,o,es,ep,h1,U,J,I,C}:=(show Aj P w H h a (.dT mf) from JI ok e);show{z,y,xs,r,o,es,ep,h1,U,J,I,λx hx=>?_,C};let all:∀{l:List (List AO×V)}{m:List (List AO×Addr×Value)},KT H l m->∀x∈m,(tupleKind (As P w)).is h x.1 x.2.1:=by
  intro l m q
  induction q with
  | nil=>intro x hx;show nomatch hx
  | @cons p q ps qs hq t ih=>
   intro x hx;rcases zS.mp hx with e | hx
   . subst e;show O5 ok (by rw[<-hq.1];show hq.2.1)
   . show ih x hx
 show all r x hx
def Qf (ok:Al P w H h)(e:H a=some (.dT mf)):mf.length<=sizeLine/\(a==sysModules)=false /\
 ∃xs,KT H mf xs/\h.DictOfH (tupleKind (As P w)) a xs:=NR ok (.inl e)
def DJ (H:Hp)(a:Addr)(y:V)(r:Option V):Prop:=
 (∃o k,Rd H a (.dK o)/\y=kV k/\r=Ag o k)\/∃o k b,Rd H a (.dT o)/\y=.ref b/\H b=some (.tup (k.map kV))/\r=Ag o k
def Gs (H:Hp)(a:Addr)(y v:V)(H':Hp):Prop:=
 (∃o k,H a=some (.dK o)/\y=kV k/\o.length<sizeLine/\H'=upd H a (.dK (Au o k v))) \/
 ∃o k b,H a=some (.dT o)/\y=.ref b/\H b=some (.tup (k.map kV))/\o.length<sizeLine/\H'=upd H a (.dT (Au o k v))
def DJ.k {k:AO}(e:H a=some (.dK mf)):DJ H a (kV k) (Ag mf k):=.inl {mf,k,.inl e,2}
def DJ.t {k:List AO}(e:H a=some (.dT mf))(o:H b=some (.tup (k.map kV))):DJ H a (.ref b) (Ag mf k):=.inr {mf,k,b,.inl e,0,o,0}
def Gs.k {k:AO}(e:H a=some (.dK mf))(o:mf.length<sizeLine):Gs H a (kV k) v (upd H a (.dK (Au mf k v))):=.inl {mf,k,e,0,o,0}
def Gs.t {k:List AO}(e:H a=some (.dT mf))(C:H b=some (.tup (k.map kV)))(o:mf.length<sizeLine):
 Gs H a (.ref b) v (upd H a (.dT (Au mf k v))):=.inr {mf,k,b,e,0,C,o,0}
def AA.big (I:AA X pins σ H s):sysModules<s.heap.objs.size:=by let h:mainGlobals<s.heap.objs.size:=(I.mod.glob.keeps I.bk).lt;show Nat.lt_trans (by decide) h
def gC (hu:A.units+1<cLine)(I:AA X pins σ H s)(g:DJ H a y (some v))(ry:AR y u)(h:∀C s',AA X pins σ H s'->AR v C->Q C s'):
 wpAny (model X.prog X.w) A (getItem (.ref a) u) Q E s:=by
 rcases g with ⟨mf,k,e,ey,l⟩ | ⟨mf,k,b,e,ey,eb,l⟩
 . subst ey;let{z,hd,vs,rel,dd}:=Np I.hok e;let{C,hw,J}:=BW.some_of (v:=v) (o:=valueAt vs k) (by rw[l];show rel.val k);show wpAny_getItem_of (Fj ry) dd.mapOf hw (h C _ (I.tok _) J)
 . subst ey;cases (show u=Value.ref b from ry);let{z,hd,xs,rel,dd}:=NR I.hok e;let{C,hw,J}:=BW.some_of (v:=v) (o:=(atKey xs k).map (·.2)) (by rw[l];show rel.val k);let{p,hp,U}:=Option.map_eq_some_iff.mp hw;show wpAny_getItem_heap (tupleKind_room_in1 hu) (O5 I.hok eb) dd hp ?_;rw[U];show h C _ (I.tok _) J
def Wa (hu:A.units+1<cLine)(I:AA X pins σ H s)(g:DJ H a y o)(U:AR y u)(h:∀s',AA X pins σ H s'->Q (.bool o.isSome) s'):
 wpAny (model X.prog X.w) A (compareOp .In u (.ref a)) Q E s:=by
 rcases g with ⟨mf,k,e,C,l⟩ | ⟨mf,k,b,e,C,eb,l⟩
 . subst C;let{z,hd,vs,rel,J}:=Np I.hok e;show wpAny_in_of (Fj U) hd J.mapOf ?_;rw[<-(rel.val k).isSome_eq,<-l];show h _ (I.tok _)
 . subst C;cases (show u=Value.ref b from U);let{z,hd,xs,rel,J}:=NR I.hok e;show wpAny_in_heap (tupleKind_room_in1 hu) (O5 I.hok eb) hd J ?_;let q:=(rel.val k).isSome_eq;rw[Option.isSome_map] at q;rw[<-q,<-l];show h _ (I.tok _)
def TM (I:AA X pins σ H s)(mu:JK (H a))(o:Heap.SameBut a s.heap h')(he:∃q,h'.get? a=some q)(new:Aj X.prog X.w (upd H a ob) h' a ob):
 AA X pins σ (upd H a ob) { s with heap:=h',toks:=t' }:=
 I.write (x:=a) (e:=a) mu (.inl rfl) (λb q C z=>(o.2 b C).trans z) he new
def Sq (z:mf.length<=sizeLine)(hd:(a==sysModules)=false)(rel:KV mf vs)(o:h'.DictOf (As P w) a vs):
 Aj P w H' h' a (.dK mf):=⟨z,hd,vs,rel,o⟩
def fq (hu:A.units+1<cLine)(I:AA X pins σ H s)(g:Gs H a y v H')(ry:AR y u)(rv:AR v r)(h:∀s',AA X pins σ H' s'->Q Unit.unit s'):
 wpAny (model X.prog X.w) A (setItem (.ref a) u r) Q E s:=by
 rcases g with ⟨o,k,e,ey,l,eH⟩ | ⟨o,k,b,e,ey,eb,l,eH⟩
 . subst ey eH;let{z,hd,vs,rel,dd}:=Ob I.hok e;let U:vs.length<=sizeLine:=by rwa[<-rel.length]
   let hl:(Au o k v).length<=sizeLine:=by let:=OP o k v;lia
   show wpAny_setItem_pairs (hsz:=U) (Fj ry) dd λh' C hs=>h _ ?_;let he:∃q,h'.get? a=some q:=let {q,3,J,_}:=C;⟨q,J⟩;show TM I (by rw[e];show True.intro) hs he (Sq hl hd (rel.put k rv) C)
 . subst ey eH;cases (show u=Value.ref b from ry);let{z,hd,xs,rel,dd}:=Qf I.hok e;let U:xs.length<=sizeLine:=by rwa[<-Paired.length rel]
   let hl:(Au o k v).length<=sizeLine:=by let:=OP o k v;lia
   show wpAny_setItem_heap (hsz:=U) (tupleKind_room_in1 hu) (O5 I.hok eb) dd λh' C hs=>h _ ?_;let{q,es,ep,J,h2,h3,h4,_,h5}:=C;show TM I (by rw[e];show True.intro) hs ⟨q,J⟩ {hl,hd,_,(rel.put k eb rv).keeps λc ys ec=>?_,q,es,ep,J,h2,h3,h4,h5};rwa[zY (Ac ec e (λz=>nomatch z))]
def Rt (I:AA X pins σ H s)(e:H a=some (.dK mf))(J:AR (kV k) u)(l:Ag mf k=some v)(hm:more=[]\/∃x,more=[x])
 (h:∀C s',AA X pins σ (upd H a (.dK (Bg mf k))) s'->AR v C->Q C s'):wpAny (model X.prog X.w) A (call (.builtin "dict.pop") (.ref a::u::more)) Q E s:=by
 let{z,hd,U,rel,dd}:=Ob I.hok e;let{C,hw,ow}:=BW.some_of (v:=v) (o:=valueAt U k) (by rw[<-l];show rel.val k);let hp:(keyPart u).isSome=true:=by
  cases k with
  | inl i=>let{t,q}:=(show ∃t,u=Value.int i t from J);subst q;rfl
  | inr x=>let{t,q}:=(show ∃t,u=Value.str x t from J);subst q;rfl
 let ha:argsOk "dict.pop" {.ref a::u::more,[]}:=by
  rcases hm with q | ⟨x,q⟩
  . subst q;show PySem.F.args_dict_pop_2 _ _
  . subst q;show PySem.F.args_dict_pop_3 _ _ _
 show call_meetsIn PySem.F.slot_dict_pop dd.typeIs PySem.F.entry_dict_pop ha (meets_dict_pop_there (As X.prog X.w) a (Fj J) more hm hp)
  {U,C,dd,by rwa[<-rel.length],hw,λh' qN hs=>h C _ ?_ ow}
 let he:∃q,h'.get? a=some q:=let {q,3,hq,_}:=qN;⟨q,hq⟩;show TM I (by rw[e];show True.intro) hs he (Sq (zn (gY mf k) z) hd (rel.drop k) qN)
def Py (i:Expr):Prop:=∀o C,subscripted i false o C=operate [o,C] (getItem o C)
def YX {id:String}
 (hl:typeLookup (.type T) "__getitem__"=pure (some (.builtin id))) (hs:Py slice)
 (h:wpAny (model prog w) A (eval value env) (λo U=>wpAny (model prog w) A (eval slice env) (λi C=>C.TypeIs o T/\wpAny (model prog w) A (getItem o i) Q E C) E U) E s):
 wpAny (model prog w) A (eval (.Subscript value slice pos) env) Q E s:=by
 show Subscript_ (BB h (λo U h₁=>BB h₁ (λi C I=>?_) λ_ _ x=>x) λ_ _ x=>x);let{hT,I}:=I;unfold subscriptTail;show zA ?_;rw[getitemInPython_of_ne hT.not_modules];show zA (wpAny_specialOf hT hl ?_);let fin:wpAny (model prog w) A (subscripted slice false o i) (λr J=>wpAny (model prog w) A (letTemporaryGo value o r >>= λ_=>pure r) Q E J) E C:=by rw[hs o i];show wpAny_operating (BB I (λr J h₃=>zA (wpAny_letTemporaryGo (zE h₃))) λ_ _ x=>x)
 first
  | show zE (zA fin)
  | show zA (zE (zA fin))
  | show zA fin
def mE (I:AA X pins σ H s)(g:DJ H a y o):s.TypeIs (.ref a) "dict" := by
 rcases g with ⟨J,k,e,_,_⟩ | ⟨J,k,b,e,_,_,_⟩
 . let{3,U,_,C}:=Np I.hok e;show C.typeIs
 . let{3,xs,_,C}:=NR I.hok e;show C.typeIs
def Qi (C ty:TE):TE:=λσ H Q=>C σ H λx H1=>ty σ H1 λy o=>∃a v,x=.ref a/\DJ o a y (some v)/\Q v o
def Xn (ty I:TE):TE:=λσ H Q=>ty σ H λy H1=>I σ H1 λx C=>∃a o,x=.ref a/\DJ C a y o/\Q (.bl o.isSome) C
def Pp (C ty tv:TE):TS:=λD σ H=>tv σ H λv H1=>C σ H1 λx I=>ty σ I λy H3=>∃a o,x=.ref a/\Gs H3 a y v o/\D.nx σ o
def cK (hu:X.A.units+1<cLine)(ho:PE X o td)(hi:PE X i ty)(hs:Py i):PE X (.Subscript o i pos) (Qi td ty):=by intro pins s σ H Q I h;show YX PySem.F.slot_dict_getitem.lookup hs (AM (ho pins s σ H _ I h) λu s1 ⟨x,H1,I1,U,q1⟩=>AM (hi pins s1 σ H1 _ I1 q1) λiv s2 ⟨y,H2,C,J,a,v,ex,g,q2⟩=>?_);subst ex;obtain rfl:u=Value.ref a:=U;show{mE C g,gC hu C g J λw' s3 I3 ow=>⟨v,H2,I3,ow,q2⟩}
def Mt (hu:X.A.units+1<cLine)(hi:PE X i ty)(ho:PE X o td):PC X .In i o (Xn ty td):=by intro pins s σ H Q I h;show AM (hi pins s σ H _ I h) λiv s1 ⟨y,H1,I1,C,q1⟩=>AM (ho pins s1 σ H1 _ I1 q1) λu s2 ⟨x,H2,I2,J,a,ov,ex,g,U⟩=>?_;subst ex;obtain rfl:u=Value.ref a:=J;show Wa hu I2 g C λs3 I3=>{.bl ov.isSome,H2,I3,0,U}
def Uz (hu:X.A.units+1<cLine)(ho:PE X o td)(hi:PE X i ty)(hv:PE X value tv)(hs:swapsWith value (some (.Subscript o i pos')) pos.line X.env=pure false):
 PS X (.Assign [.Subscript o i pos'] value pos) (Pp td ty tv):=by
 intro pins s σ H D I h;show wpAny_Assign_Subscript (AM (hv pins s σ H _ I h) λr s1 ⟨v,H1,I1,U,q1⟩=>AM (ho pins s1 σ H1 _ I1 q1) λu s2 ⟨x,H2,I2,J,q2⟩=>AM (hi pins s2 σ H2 _ I2 q2) λiv s3 ⟨y,H3,I3,C,a,H4,ex,g,q3⟩=>?_) hs;subst ex;obtain rfl:u=Value.ref a:=J;show fq hu I3 g C U λs4 I4=>⟨σ,H4,I4,q3⟩
def gM (h:Heap)(o:sysModules<h.objs.size):Aj P w H (h.push { cls:=.type "dict",data:=.dict #[] }) h.objs.size (.dK []):=
 {zd _,beq_eq_false_iff_ne.mpr (Ne.symm (zb o)),[],.nil,Heap.DictOf.new h}
def jh (h:Heap)(o:sysModules<h.objs.size):Aj P w H (h.push { cls:=.type "dict",data:=.dict #[] }) h.objs.size (.dT []):=
 ⟨zd _,beq_eq_false_iff_ne.mpr (Ne.symm (zb o)),[],.nil,_,#[],0,zM _ rfl,{8},rfl,rfl,List.nodup_nil⟩
def MJ:TE:=λ_ H Q=>∀p,H p=none->Q (.ref p) (upd H p (.dT []))
def lI:PE X (.Dict [] [] pos) MJ:=λpins s σ H Q I h=>
 wpAny_Dict_empty {.ref s.heap.objs.size,_,I.laid (a:=s.heap.objs.size) (o:=.dT []) (t':=s.toks) (λ_ _ q=>zG _ q) (zH _) (jh s.heap I.big),0,h _ (I.hok.fresh (zH _))}
def V3:List (TE×TE)->St->Hp->(List (V×V)->Hp->Prop)->Prop
 | [],_,H,Q=>Q [] H
 | (tk,tv)::r,σ,H,Q=>tk σ H λx H1=>tv σ H1 λy o=>V3 r σ o λps H3=>Q ((x,y)::ps) H3
abbrev VV:List (V×V)->List (Value×Value)->Prop:=Paired λp q=>AR p.1 q.1/\AR p.2 q.2
def T9 (X:Cx)(pos:Pos)(keys:List (Option Expr))(values:List Expr)(o:List (TE×TE)):Prop:=
 ∀pins s σ H Q,AA X pins σ H s->V3 o σ H Q ->
  wpAny (model X.prog X.w) X.A (evalPairs (pairTrees keys values X.env pos)) (λC I=>∃ps H',AA X pins σ H' I/\VV ps C/\Q ps H') X.xe s
def lU :T9 X pos [] [] []:=λpins s σ H Q I h=>pairTrees_nil_walk {[],H,I,.nil,h}
def eG (hk:PE X k tk)(hv:PE X v tv)(hr:T9 X pos ks vs trs):
 T9 X pos (some k::ks) (v::vs) ((tk,tv)::trs):=λpins s σ H Q I h=>
 pairTrees_cons_walk (AM (hk pins s σ H _ I h) λu s1 ⟨x,H1,I1,C,q1⟩=>AM (hv pins s1 σ H1 _ I1 q1) λw2 s2 ⟨y,H2,I2,o,U⟩=>
  AM (hr pins s2 σ H2 _ I2 U) λws s3 ⟨ps,H3,I3,rel,J⟩=>{(x,y)::ps,H3,I3,.cons ⟨C,o⟩ rel,J})
meta def Nk (C more:List (AO×V)):List (AO×V):=more.foldl (λacc o=>Au acc o.1 o.2) C
def KV.merge:∀{more:List (AO×V)}{rs:List (AO×Value)}{o:List (AO×V)}{vs:List (AO×Value)},KV more rs->KV o vs->KV (Nk o more) (merged vs rs):=by
 intro more rs o vs r;unfold KV at r
 induction r generalizing o vs with
 | nil=>intro q;show q
 | @cons p q ps qs h t ih=>
  intro C;let e:KV (Au o p.1 p.2) (stored vs q.1 q.2):=by let:=C.put p.1 h.2;rwa[<-h.1]
  show ih e
def Z5:∀more o,(Nk o more).length<=o.length+more.length
 | [],o=>by change o.length<=o.length+0;lia
 | p::r,o=>by let I:=Z5 r (Au o p.1 p.2);let C:=OP o p.1 p.2;change (Nk (Au o p.1 p.2) r).length<=_;rw[zm];lia
def YA :∀{o:List (AO×V)}{ws:List (Value×Value)},VV (o.map λC=>(kV C.1,C.2)) ws->∃rs,Carries (As P w) ws rs/\KV o rs
 | [],_,r=>by rw[List.map_nil] at r;cases r;show{[],True.intro,.nil}
 | p::o,_,r=>by
  rw[Bf] at r;cases r with
  | @cons a b as bs h t=>let{rs,c,q}:=YA (P:=P) (w:=w) t;let{J,I}:=b;show{(p.1,I)::rs,{Fj h.1,0,c},.cons {0,h.2} q}
def Pk (o:List (TE×TE)):TE:=λσ H Q=>∀p,H p=none->V3 o σ (upd H p (.dK [])) λps J=>J p=some (.dK [])/\∃C:List (AO×V),ps=C.map (λI=>(kV I.1,I.2))/\C.length<=15/\Q (.ref p) (upd J p (.dK (Nk [] C)))
def lB (h:T9 X pos keys values trs)(n6:keys.all (·.isSome)=true)(hl:keys.length=values.length)(h0:keys≠[])
 (C:keys.length<=15):PE X (.Dict keys values pos) (Pk trs):=by
 intro pins s σ H Q I q;let hn:=I.hok.fresh (zH s.heap.objs.size);let I1:=I.laid (a:=s.heap.objs.size) (o:=.dK []) (h':=s.heap.push { cls:=.type "dict",data:=.dict #[] }) (t':=s.toks) (λ_ _ q=>zG _ q) (zH _) (gM s.heap I.big);show wpAny_Dict_walk (knd:=As X.prog X.w) n6 hl h0 C (AM (h pins _ σ _ _ I1 (q _ hn)) λws s2 ⟨ps,H2,I2,rel,e,U,ep,lk,q2⟩=>?_);subst ep;let{rs,c,rk}:=YA (P:=X.prog) (w:=X.w) rel;let{z,hd,vs0,r0,dd}:=Ob I2.hok e;cases r0;show{rs,c,dd,λh' J hs=>{.ref s.heap.objs.size,_,?_,0,q2}};let hz:(Nk [] U).length<=sizeLine:=by let h1:=Z5 U [];rw[List.length_nil] at h1;rw[sizeLine_eq];lia
 let he:∃q,h'.get? s.heap.objs.size=some q:=let {q,3,hq,_}:=J;⟨q,hq⟩;show TM I2 (by rw[e];show True.intro) hs he (Sq hz hd (rk.merge .nil) J)
structure M1 (X:Cx)(o:Expr)(m:Str)(apos:Pos)(e:Expr)(mw:Pos):Prop where
 base:attributeBase o m X.env (eval o X.env)=eval o X.env
 few:((backTo mw (starEach [e] X.env)).all (λx=>!x.1) && (backToKw mw (keywordEach [] X.env)).all (λx=>x.1.isSome)
  && decide (([e]:List Expr).length+([]:List Keyword).length+(if ([]:List Keyword).isEmpty then 0 else 1)<30))=true
 line:(apos.endLine==mw.line)=true
 trees:backTo mw (starEach [e] X.env)=[(false,eval e X.env)]
structure M2 (X:Cx)(o:Expr)(m:Str)(apos:Pos)(e f:Expr)(mw:Pos):Prop where
 base:attributeBase o m X.env (eval o X.env)=eval o X.env
 few:((backTo mw (starEach [e,f] X.env)).all (λx=>!x.1) && (backToKw mw (keywordEach [] X.env)).all (λx=>x.1.isSome)
  && decide (([e,f]:List Expr).length+([]:List Keyword).length+(if ([]:List Keyword).isEmpty then 0 else 1)<30))=true
 line:(apos.endLine==mw.line)=true
 trees:backTo mw (starEach [e,f] X.env)=[(false,eval e X.env),(false,eval f X.env)]
def IsD (H:Hp)(a:Addr):Prop:=(∃o,Rd H a (.dK o))\/∃o,Rd H a (.dT o)
def X6 (I:AA X pins σ H s)(d:IsD H a):
 s.TypeIs (.ref a) "dict"/\(∀b,Value.ref a=.ref b->∃o,s.heap.get? b=some o/\o.dict=none)/\(a==sysModules)=false:=by
 rcases d with ⟨mf,e⟩ | ⟨mf,e⟩
 . let{_,hd,vs,_,C}:=Np I.hok e;show{C.typeIs,λb q=>?_,hd};cases q;let{o,3,U,J,_}:=C;show⟨o,U,J.2.1⟩
 . let{_,hd,xs,_,C}:=NR I.hok e;show{C.typeIs,λb q=>?_,hd};cases q;let{o,3,U,J,_}:=C;show⟨o,U,J.2.1⟩
def Lj (hu:A.units+1<cLine)(I:AA X pins σ H s)(g:DJ H a y o)(ry:AR y u)(rd:AR d r)(h:∀U s',AA X pins σ H s'->AR (o.getD d) U->Q U s'):
 wpAny (model X.prog X.w) A (call (.builtin "dict.get") [.ref a,u,r]) Q E s:=by
 rcases g with ⟨mf,k,e,J,l⟩ | ⟨mf,k,b,e,J,eb,l⟩
 . subst J;let{z,hd,vs,rel,C}:=Np I.hok e;show call_meetsIn PySem.F.slot_dict_get C.typeIs PySem.F.entry_dict_get (PySem.F.args_dict_get_3 _ _ _) (meets_dict_get_default (As X.prog X.w) a (Fj ry) hd r) {_,C.mapOf,h _ _ (I.tok _) ?_};rw[l];show (rel.val k).getD rd
 . subst J;cases (show u=Value.ref b from ry);let{z,hd,xs,rel,C}:=NR I.hok e;show call_meetsIn PySem.F.slot_dict_get C.typeIs PySem.F.entry_dict_get (PySem.F.args_dict_get_3 _ _ _) (meetsH_dict_get_default (tupleKind (As X.prog X.w)) a b hd r) {tupleKind_room_in1 hu,k,xs,O5 I.hok eb,C,h _ _ (I.tok _) ?_};rw[l];show (rel.val k).getD rd
def MH (I ty C:TE):TE:=λσ H Q=>I σ H λx H1=>∃a,x=.ref a/\IsD H1 a/\ty σ H1 λy J=>C σ J λz H3=>∃o,DJ H3 a y o/\Q (o.getD z) H3
def Kq (I ty:TE):TE:=λσ H Q=>I σ H λx H1=>∃a,x=.ref a/\IsD H1 a/\ty σ H1 λy C=>∃o k v,C a=some (.dK o)/\y=kV k/\Ag o k=some v/\Q v (upd C a (.dK (Bg o k)))
def fY (hu:X.A.units+1<cLine)(ho:PE X o td)(he:PE X e ty)(hf:PE X f tx)(m:M2 X o "get" apos e f mw):PE X (.Call (.Attribute o "get" apos) [e,f] [] mw) (MH td ty tx):=by
 intro pins s σ H Q I h;show wpAny_Call_method m.base m.few m.line PySem.F.plainAttrs_dict PySem.F.slot_dict_get PySem.F.type_dict_get (AM (ho pins s σ H _ I h) λu s1 ⟨x,H1,C,rx,a,ex,d,q1⟩=>?_);subst ex;obtain rfl:u=Value.ref a:=rx;let{t1,J,_}:=X6 C d;show{t1,J,?_};rw[m.trees];show Calls.callWith_builtin rfl (Calls.evalArgs_plain (Calls.spliced_cons (AM (he pins s1 σ H1 _ C q1) λiv s2 ⟨y,H2,I2,ry,q2⟩=>
  Calls.spliced_cons (AM (hf pins s2 σ H2 _ I2 q2) λfv s3 ⟨z,H3,I3,U,ov,g,q3⟩=>Calls.spliced_nil ?_))))
 show Lj hu I3 g ry U λw' s4 I4 ow=>{_,H3,I4,ow,q3}
theorem l5 (ho:PE X o td)(he:PE X e ty)(m:M1 X o "pop" apos e mw):PE X (.Call (.Attribute o "pop" apos) [e] [] mw) (Kq td ty):=by intro pins s σ H Q I h;refine wpAny_Call_method m.base m.few m.line PySem.F.plainAttrs_dict PySem.F.slot_dict_pop PySem.F.type_dict_pop (AM (ho pins s σ H _ I h) fun u s1 ⟨x,H1,I1,rx,a,ex,d,q1⟩=>?_);subst ex;obtain rfl:u=Value.ref a:=rx;obtain⟨t1,t2,_⟩:=X6 I1 d;refine{t1,t2,?_};rw[m.trees];refine Calls.callWith_builtin rfl (Calls.evalArgs_plain (Calls.spliced_cons (AM (he pins s1 σ H1 _ I1 q1) fun iv s2 ⟨y,H2,I2,ry,mf,k,v,ea,ey,l,q2⟩=>Calls.spliced_nil ?_)));subst ey;exact Rt I2 ea ry l (.inl rfl) fun w' s3 I3 ow=>{v,_,I3,ow,q2}
end L2
namespace HT
open PySem PyProof.Rows
meta def lexLt:List Int->List Int->Bool
 | [],[]=>false
 | [],_::_=>true
 | _::_,[]=>false
 | x::xs,y::ys=>if x=y then lexLt xs ys else decide (x<y)
def lexLt_cons (x y)(xs ys):lexLt (x::xs) (y::ys)=if x=y then lexLt xs ys else decide (x<y):=rfl
def kc:lexLt [] []=false:=rfl
def eT (y)(ys):lexLt [] (y::ys)=true:=rfl
def hV (x)(xs):lexLt (x::xs) []=false:=rfl
def gW (A)(s)(a)(t:Tok)(c)(u:Tok):∃e,SeqAt.EqAt A s (.int a t) (.int c u) e/\(e=true↔a=c):=
 {(a==c),SeqAt.EqAt.int_int a t c u,by simp}
def hZ (A)(s)(a)(t:Tok)(c)(u:Tok)(prog)(w)(E)(Q)(h:Q (.bool (decide (a<c))) s):
 wpAny (model prog w) A (richCompare .Lt (.int a t) (.int c u)) Q E s:=
 (PyProof.Rows.lt_int h:wpAny (model prog w) A (compareOp .Lt (.int a t) (.int c u)) Q E s)
section
open PySem.SeqAt
open PySem.AutoSeq1 (wpAny_loadPart')
open PySem.MeetsSeq PySem.MeetsSeq2 PySem.MeetsSeq3
def fJ (l b)(items items2)(n n2)(dd dd2)(sl sl2)(ns ms)(hi:IntsAre items.toList ns)(hj:IntsAre items2.toList ms):
 Meets (Builtin.«tuple.__lt__» {[.ref l,.ref b],[]})
  (λ_ R s=>s.heap.get? l=some { cls:=.type "tuple",dict:=dd,data:=.seq items n,slots:=sl }/\s.heap.get? b=some { cls:=.type "tuple",dict:=dd2,data:=.seq items2 n2,slots:=sl2 } /\
   R (.ok (.ret (.bool (lexLt ns ms)))) s):=
 .of_wp λprog w A R s h=>by
  let{hp,g,d,tk,os}:=s;let{hl,hb,h}:=h;let f2:=AutoSeq1.sub_tuple_tuple;let z1:items.size=ns.length:=by rw[<-hi.length];simp
  let z2:items2.size=ms.length:=by rw[<-hj.length];simp
  wp_walk using wpAny_loadPart' hl,wpAny_loadPart' hb,wpAny_forIn_list _ (λrest b s'=>b.1=none/\s'=⟨hp,g,d,tk,os⟩/\∃(vs ws:List Value)(o C:List Int),rest=vs.zip ws /\
   IntsAre vs o/\IntsAre ws C/\o.length+items2.size=C.length+items.size/\R (.ok (.ret (.bool (lexLt o C)))) ⟨hp,g,d,tk,os⟩) _
  case turn=>
   rintro ⟨y,x⟩ rest b s' ⟨pL,rfl,vs,ws,o,C,I,hvi,J,hlen,hR⟩;cases hvi with
   | nil=>rw[List.zip_nil_left] at I;cases I
   | cons a t hvi'=>
    cases J with
    | nil=>rw[List.zip_nil_right] at I;cases I
    | cons c u hwi'=>
     rw[List.zip_cons_cons] at I;injection I with hyx oq;injection hyx with hy hx;subst hy hx;rw[lexLt_cons] at hR;simp only[zm] at hlen;let{e,he,U}:=gW A.in1 ⟨hp,g,d,tk,os⟩ a t c u;show zA (he prog w _ _ ?_);cases e with
     | true=>
      rw[if_pos (U.mp rfl)] at hR
      wp_walk
      show{2,3,3,oq,hvi',hwi',(),hR}
     | false=>
      rw[if_neg (λq=>absurd (U.mpr q) zf)] at hR;let hri:=hZ A.in1 ⟨hp,g,d,tk,os⟩ a t c u prog w
      wp_walk using hri
      show{1,by simpa using hR}
  case fin=>
   rintro ⟨b1,b2⟩ s' ⟨pL,rfl,vs,ws,o,C,I,hvi,J,hlen,hR⟩;simp only at pL;subst pL;let hv:lexLt o C=decide (items.size<items2.size):=by
    cases hvi with
    | nil=>
     cases J with
     | nil=>simp only[List.length_nil] at hlen;rw[kc];show (ze ()).symm
     | cons c u hw=>simp only[List.length_nil,zm] at hlen;rw[eT];show (zX ()).symm
    | cons a t hv=>
     cases J with
     | nil=>simp only[List.length_nil,zm] at hlen;rw[hV];show (ze ()).symm
     | cons c u hw=>rw[List.zip_cons_cons] at I;cases I
   rw[hv] at hR
   wp_walk
   show{1,by simpa [Builtin.Tuple.tupleCompareSizes] using hR}
  case h=>
   show{2,items.toList,items2.toList,ns,ms,0,hi,hj,(),h}
end
def lt_tupInts (hl:IsTup s.heap l items)(hb:IsTup s.heap b items2)(hi:IntsAre items.toList ns)(hj:IntsAre items2.toList ms)
 (hu:A.units<cLine)(h:Q (.bool (lexLt ns ms)) s):wpAny (model prog w) A (compareOp .Lt (.ref l) (.ref b)) Q E s:=by
 let{{cls,dd,data,sl},U,hc,n,hd}:=id hl;let{{cls2,J,data2,I},o,C,n2,hd2}:=id hb;simp only at hc hd C hd2;subst hc hd C hd2;show richCompare_meets_room (op:=.Lt) {_,U,0} {_,o,0} PySem.F.slot_tuple_lt PySem.F.entry_tuple_lt (PySem.F.args_tuple_lt_2 _ _) (fJ l b items items2 n n2 dd J sl I ns ms hi hj)
  ⟨U,o,show Value.bool (lexLt ns ms)≠Value.notImplemented/\Q (.bool (lexLt ns ms)) s from {(λx=>nomatch x),h}⟩ hu
meta def sIx (n d:Nat):Option Int->Nat
 | none=>d
 | some v=>if v<0 then (v+(n:Int)).toNat else min v.toNat n
def sIx_none (n d):sIx n d none=d:=rfl
def sIx_nat (n d k:Nat):sIx n d (some (k:Int))=min k n:=by
 change (if (k:Int)<0 then ((k:Int)+(n:Int)).toNat else min (k:Int).toNat n)=min k n
 rw[if_neg (),Bz]
end HT
namespace L2
open PySem PySem.Spec PyProof.Rows
abbrev TO:=St->Hp->(Option Int->Hp->Prop)->Prop
def PO (X:Cx)(e:Option Expr)(t:TO):Prop:=
 ∀pins s σ H Q,AA X pins σ H s->t σ H Q ->
  wpAny (model X.prog X.w) X.A (evalPart e X.env) (λu C=>∃o H',AA X pins σ H' C/\IsPart u o/\Q o H') X.xe s
def gX:TO:=λ_ H Q=>Q none H
def Q3 (t:TE):TO:=λσ H Q=>t σ H λx H1=>∃i,x=.int i/\Q (some i) H1
def Fp :∀{us:List Value},AN (ns.map V.int) us->IntsAre us ns:=by
 induction ns with
 | nil=>intro us r;rw[List.map_nil] at r;cases r;show .nil
 | cons n ns I=>
  intro us r;rw[Bf] at r;cases r with
  | cons C o=>let{t,e}:=C;subst e;show .cons n t (I o)
section
variable {X:Cx}{e:Expr}{te:TE}{lo hi:Option Expr}{tl th:TO}{pos p2:Pos}
def Ng:PO X none gX:=by intro pins s σ H Q I h;rw[evalPart_none];show zE {none,H,I,.none,h}
def Nm (h:PE X e te):PO X (some e) (Q3 te):=by intro pins s σ H Q I hw;rw[evalPart_some];show AM (h pins s σ H _ I hw) λu s1 ⟨x,H1,J,o,C⟩=>?_;let{i,0,q}:=C;let{t,0}:=o;show{some i,H1,J,.int i t,q}
def Xc (X:Cx)(r:V->Option Int->Option Int->Hp->VK->Prop):Prop:=
 ∀pins s σ H x v C o lo hi I Q,AA X pins σ H s->AR x v->s.heap.IsSliceOf I C o .none->IsPart C lo->IsPart o hi->r x lo hi H Q ->
  ∃T id,typeLookup (.type T) "__getitem__"=pure (some (.builtin id))/\s.TypeIs v T/\wpAny (model X.prog X.w) X.A (getItem v (.ref I)) (EP X pins σ Q) X.xe s
def mT (r:V->Option Int->Option Int->Hp->VK->Prop)(te:TE)(tl th:TO):TE:=λσ H Q=>te σ H λx H1=>tl σ H1 λl o=>th σ o λu H3=>r x l u H3 Q
def NY (hr:Xc X r)(he:PE X e te)(hl:PO X lo tl)(hu:PO X hi th):PE X (.Subscript e (.Slice lo hi none p2) pos) (mT r te tl th):=by intro pins s σ H Q I h;show Subscript_ (AM (he pins s σ H _ I h) λv s1 ⟨x,H1,I1,J,q1⟩=>?_);show wpAny_Slice (AM (hl pins s1 σ H1 _ I1 q1) λC s2 ⟨l,H2,I2,pl,q2⟩=>AM (hu pins s2 σ H2 _ I2 q2) λo s3 ⟨u,H3,I3,pu,U⟩=>?_);rw[evalPart_none];show zE ?_;let I4:AA X pins σ H3 { s3 with heap:=s3.heap.push { cls:=.type "slice",data:=.fields #[C,o,.none] } }:=I3.kept (t':=s3.toks) λb ob q=>zG _ q;let{T,id,hT,ht,hg}:=hr pins { s3 with heap:=s3.heap.push { cls:=.type "slice",data:=.fields #[C,o,.none] } } σ H3 x v C o l u s3.heap.objs.size Q I4 J (Heap.IsSliceOf.new ..) pl pu U;change wpAny (model X.prog X.w) X.A (subscriptTail e (.Slice lo hi none p2) v (.ref s3.heap.objs.size)) (EP X pins σ Q) X.xe { s3 with heap:=s3.heap.push { cls:=.type "slice",data:=.fields #[C,o,.none] } };show tail_any (ops:=[.ref s3.heap.objs.size,v]) ht hT hg (by with_unfolding_all rfl)
meta def Fz (xs:List V)(lo hi:Option Int):List V:=(xs.drop (HT.sIx xs.length 0 lo)).take (HT.sIx xs.length xs.length hi-HT.sIx xs.length 0 lo)
def iL (xs)(lo hi):(Fz xs lo hi).length<=xs.length:=by
 unfold Fz;rw[zl,List.length_drop]
 lia
end
meta def E4 (n:Nat)(i:Int):Option Nat:=if 0<=i then (if i<n then some i.toNat else none) else if -(n:Int)<=i then some (i+n).toNat else none
meta def CK {α:Type}(xs:List α)(i:Int):Option α:=(E4 xs.length i).bind λj=>xs[j]?
def Zd (h:E4 n i=some j):seqIndex? i n=some j/\j<n/\-(n:Int)<=i/\i<n:=by
 unfold E4 at h;by_cases h0:0<=i
 . rw[if_pos h0] at h;by_cases o:i<n
   . rw[if_pos o] at h;let e:i.toNat=j:=zW h;show{by rw[seqIndex_of h0 o,e],(),(),o}
   . rw[if_neg o] at h;cases h
 . rw[if_neg h0] at h;by_cases o : -(n:Int)<=i
   . rw[if_pos o] at h;let e:(i+n).toNat=j:=zW h;show{by rw[seqIndex_neg () o,e],(),o,()}
   . rw[if_neg o] at h;cases h
def Vq (h:CK xs i=some v):∃j,seqIndex? i xs.length=some j/\xs[j]?=some v/\j<xs.length/\-(xs.length:Int)<=i/\i<xs.length:=by
 unfold CK at h;cases e:E4 xs.length i with
 | none=>rw[e] at h;cases h
 | some j=>rw[e] at h;let{J,I,C,o}:=Zd e;show⟨j,J,h,I,C,o⟩
def CA {j:Nat}(h:xs[j]?=some v):CK xs (j:Int)=some v:=by
 let o:j<xs.length:=(zF.mp h).1;let e:E4 xs.length (j:Int)=some j:=by unfold E4;rw[if_pos (),if_pos ()];simp
 unfold CK;rwa[e]
def aU (xs)(v:α):CK (xs++[v]) (-1)=some v:=by
 let o:(xs++[v]).length=xs.length+1:=by simp
 let e:E4 (xs++[v]).length (-1)=some xs.length:=by
  unfold E4;rw[o,if_neg (by decide),if_pos ()];congr 1
  lia
 unfold CK;rw[e];change (xs++[v])[xs.length]?=some v;simp
def dA (b:Expr):Prop:=∀o i,subscripted b false o i=operate [o,i] (getItem o i)
def JQ (X:Cx)(r:R2):Prop:=
 ∀value slice pins s σ H x y v u Q,AA X pins σ H s->AR x v->AR y u->r x y H Q ->
  subscripted slice false v u=operate [v,u] (getItem v u)->wpAny (model X.prog X.w) X.A (subscriptTail value slice v u) (EP X pins σ Q) X.xe s
def JJ (X:Cx)(id:String)(r:V->List V->Hp->VK->Prop):Prop:=
 ∀pins s σ H x xs v us Q,AA X pins σ H s->AR x v->AN xs us->r x xs H Q ->
  wpAny (model X.prog X.w) X.A (call (.builtin id) (v::us)) (EP X pins σ Q) X.xe s
section
variable {X:Cx}{a b:Expr}{ta tb:TE}{pos:Pos}
def R0 (U:JQ X r)(ha:PE X a ta)(hb:PE X b tb)(J:dA b):PE X (.Subscript a b pos) (QB r ta tb):=by intro pins s σ H Q I h;show Subscript_ (Ml ha hb I h λv u s2 x y H2 I2 C o q=>U a b pins s2 σ H2 x y v u Q I2 C o q (J _ _))
inductive YR (K:AK)(x:V)(y:V)(H:Hp)(Q:VK):Prop
 | mk:∀p xs i v,(x=.ref p)->(y=.int i)->(AD K H p xs)->(CK xs i=some v)->(Q v H)->YR K x y H Q
def MR (K:AK):R2:=λx y H Q=>YR K x y H Q
inductive ZV (K:AK)(x:V)(y:V)(H:Hp)(Q:VK):Prop
 | mk:∀p xs i v,(x=.ref p)->(y=.int i)->(AB K H p xs)->(CK xs i=some v)->(Q v H)->ZV K x y H Q
def NG (K:AK):R2:=λx y H Q=>ZV K x y H Q
inductive bq (x:V)(y:V)(H:Hp)(Q:VK):Prop
 | mk:∀z i c,(x=.str z)->(y=.int i)->(z.length<=sizeLine)->(CK z.cps.toList i=some c)->(Q (.str {#[c]}) H)->bq x y H Q
def HR:R2:=λx y H Q=>bq x y H Q
def Ar:JQ X (MR X.K):=by
 intro value slice pins s σ H x y v u Q I rx ry h U;let{p,xs,i,z,2,hq,he,q}:=h;cases rx;let{t,0}:=ry;let{its,r,C,hz}:=I.list hq;let{j,o,h2,h3,h4,h5}:=Vq he;let{w,ew,ow}:=r.get h2;let hl:=r.length;let hn:=Jv;let fin:EP X pins σ Q w s:=⟨z,H,I,ow,q⟩;by_cases h0:0<=i
 . let J:i.toNat=j:=by rw[seqIndex_of h0 h5] at o;show zW o
   show item_listR C.isList h0 () (by rw[J];simpa using ew) fin U
 . let J:(i+(its.toArray.size:Int)).toNat=j:=by rw[seqIndex_neg () h4] at o;rw[zc,<-hl];show zW o
   show subscriptTail_builtinR (x:=w) C.isList.typeIs slot_list_getitem.lookup
    (wpAny_getItem_list_neg (Q:=λr s'=>r=w/\EP X pins σ Q r s') C.isList () (by rw[zc] <;> lia) () (by rw[J];simpa using ew) {0,fin}) U
def AS:JQ X (NG X.K):=by
 intro value slice pins s σ H x y v u Q I U J h hs;let{p,xs,i,z,2,hq,he,q}:=h;cases U;let{t,0}:=J;let{its,r,o,hz}:=I.tuple hq;let{j,h1,h2,h3,h4,h5}:=Vq he;let{w,ew,ow}:=r.get h2;let hl:=r.length;let hn:=Jv;let fin:EP X pins σ Q w s:=⟨z,H,I,ow,q⟩;show subscriptTail_builtinR (x:=w) o.typeIs slot_tuple_getitem.lookup
  (getItem_tuple (j:=j) (Q:=λr C=>r=w/\EP X pins σ Q r C) o () () (by rwa[zc,<-hl]) (by simpa using ew) {0,fin}) hs
def LB:JQ X HR:=by
 intro value slice pins s σ H x y v u Q I J C h U;let{z,i,c,2,hz,he,q}:=h;let{t,0}:=J;let{t',0}:=C;let{j,o,h2,h3,h4,h5}:=Vq he;let hl:z.cps.toList.length=z.length:=by simp[Str.length]
 rw[hl] at o h4 h5;let hn:=Jv;show tail_any (typeIs_str s z t) slot_str_getitem.lookup (getItem_str (c:=c) (by let e1:decide (i < -(2 ^ 63:Int))=false:=ze ();let e2:decide (i ≥ 2 ^ 63)=false:=ze ();rw[e1,e2,Bool.or_false]) (by rw[o];simpa using h2) {.str {#[c]},H,I.tok _,{1},q}) U
def kO (its:List Value)(n j)(u):Obj.mapSeq (·.setIfInBounds j u) { cls:=.type "list",data:=.seq its.toArray n }={ cls:=.type "list",data:=.seq (its.set j u).toArray n }:=by simp[Obj.mapSeq]
def AA.lst {pins:CT}{σ:St}{H:Hp}{s:Shared}{p:Addr}{xs:List V}(I:AA X pins σ H s)(h:H p=some (.lst xs)):
 ∃its n,AN xs its/\s.heap.get? p=some { cls:=.type "list",data:=.seq its.toArray n }/\xs.length<=sizeLine:=by
 let{z,its,n,r,e}:=I.hok p _ h;show⟨its,n,r,e,z⟩
def AA.lstUpd {its:List Value}(I:AA X pins σ H s)(h:H p=some (.lst xs))
 (o:s.heap.get? p=some { cls:=.type "list",data:=.seq its.toArray n }) (hf:f { cls:=.type "list",data:=.seq its.toArray n }={ cls:=.type "list",data:=.seq its'.toArray n' }) (r:AN ys its')(hz:ys.length<=sizeLine)(t):
 AA X pins σ (upd H p (.lst ys)) { s with heap:=s.heap.update p f,toks:=t }:=by
 let e:(s.heap.update p f).get? p=some { cls:=.type "list",data:=.seq its'.toArray n' }:=by rw[Ce f o (by rw[hf] <;> rfl),hf]
 show I.write (x:=p) (e:=p) (by rw[h];trivial) (.inl rfl) (λb u C q=>(Gj _ _ (Ne.symm C)).trans q) {_,e} ?_;show⟨hz,its',n',r,e⟩
inductive cH (o:V)(i:V)(v:V)(H:Hp)(Q:Hp->Prop):Prop
 | mk:∀p xs k j,(o=.ref p)->(i=.int k)->(H p=some (.lst xs))->(E4 xs.length k=some j)->(Q (upd H p (.lst (xs.set j v))))->cH o i v H Q
def Pz:V->V->V->Hp->(Hp->Prop)->Prop:=λo i v H Q=>cH o i v H Q
def TX:Rw X Pz:=by
 intro pins s σ H o i v ov iv u Q I ro ri rv h;let{p,xs,k,j,2,hp,hj,q}:=h;cases ro;let{t,0}:=ri;let{its,n,r,J,hz}:=I.lst hp;let{C,h2,h3,h4}:=Zd hj;let U:=r.length;let hn:=Jv;let I':AA X pins σ (upd H p (.lst (xs.set j v))) { s with heap:=s.heap.update p (Obj.mapSeq (·.setIfInBounds j u)) }:=
  I.lstUpd hp J (kO its n j u) (r.set rv j) (by rwa[List.length_set]) s.toks
 by_cases h0:0<=k
 . let hk:k.toNat=j:=by rw[seqIndex_of h0 h4] at C;show zW C
   show PySem.W.ki_setAt J h0 () (by rwa[zc,<-U]) (by rw[hk];show{_,I',q})
 . let hk:(k+(its.toArray.size:Int)).toNat=j:=by rw[seqIndex_neg () h3] at C;rw[zc,<-U];show zW C
   show PySem.W.ki_setBack J () (by rwa[zc,<-U]) () (by rw[hk];show{_,I',q})
def lM (lo hi)(n):(sliceBounds lo hi none n).1=((HT.sIx n 0 lo:Nat):Int)/\(sliceBounds lo hi none n).2.1=((HT.sIx n n hi:Nat):Int)/\(sliceBounds lo hi none n).2.2=1:=by
 show{?_,?_,0}
 . cases lo with
   | none=>simp[sliceBounds,HT.sIx]
   | some i=>
    simp only[sliceBounds,HT.sIx,Option.getD_none,show (1:Int) > 0 by decide,if_true];by_cases h:i<0
    . simp only[h,if_true] <;> lia
    . simp only[h,if_false] <;> lia
 . cases hi with
   | none=>simp[sliceBounds,HT.sIx]
   | some i=>
    simp only[sliceBounds,HT.sIx,Option.getD_none,show (1:Int) > 0 by decide,if_true];by_cases h:i<0
    . simp only[h,if_true] <;> lia
    . simp only[h,if_false] <;> lia
def jK (its:List Value)(lo hi):slicePick its.toArray lo hi none=((its.drop (HT.sIx its.length 0 lo)).take (HT.sIx its.length its.length hi-HT.sIx its.length 0 lo)).toArray:=by let{I,C,o}:=lM lo hi its.toArray.size;unfold slicePick;rw[I,C,o];simp only[sliceRange_one,pick_run,zc] <;> rfl
def XT (K:AK):V->Option Int->Option Int->Hp->VK->Prop:=λx lo hi H Q=>∃a xs,x=.ref a/\AD K H a xs/\∀p,H p=none->Q (.ref p) (upd H p (.lst (Fz xs lo hi)))
def OF:Xc X (XT X.K):=by intro pins s σ H x v vl vu lo hi sl Q I J hs U pu h;let{a,xs,0,hx,q}:=h;cases J;let{its,r,C,hz}:=I.list hx;let hlen:=r.length;show{"list",_,slot_list_getitem.lookup,C.isList.typeIs,?_};show wpAny_getItem_list_slice C.isList hs U pu .none (by simp) ?_ (by rw[zc] <;> lia);rw[jK,<-hlen];show{.ref s.heap.objs.size,_,I.laid (t':=s.toks) (o:=.lst (Fz xs lo hi)) (λb ob q=>zG _ q) (zH _) ?_,0,q _ (I.hok.fresh (zH _))};show⟨zn (iL xs lo hi) hz,_,0,(r.drop (HT.sIx xs.length 0 lo)).take (HT.sIx xs.length xs.length hi-HT.sIx xs.length 0 lo),zM _ rfl⟩
meta def Gn:V->Bool
 | .non=>true
 | .bl _=>true
 | .int _=>true
 | .str _=>true
 | _=>false
meta def Ga:V->V->Bool
 | .non,.non=>true
 | .bl a,.bl b=>a==b
 | .bl a,.int b=>(if a then 1 else 0)==b
 | .int a,.bl b=>a==(if b then 1 else 0)
 | .int a,.int b=>a==b
 | .str a,.str b=>a==b
 | _,_=>false
def LM (I:AR y u)(o:AR x v)(U:Gn y=true)(J:Gn x=true):SeqAt.EqAt A s u v (Ga y x):=by
 cases y with
 | non=>
  cases I;cases x with
  | non=>cases o;show SeqAt.EqAt.same _
  | bl b=>cases o;show SeqAt.EqAt.none_bool b
  | int b=>let{t,0}:=o;show SeqAt.EqAt.none_int b t
  | str b=>let{t,0}:=o;show SeqAt.EqAt.none_str b t
  | _=>show absurd (show false=true from J) zf
 | bl a=>
  cases I;cases x with
  | non=>cases o;show SeqAt.EqAt.bool_none a
  | bl b=>cases o;show SeqAt.EqAt.bool_bool a b
  | int b=>let{t,0}:=o;show SeqAt.EqAt.bool_int a b t
  | str b=>let{t,0}:=o;show SeqAt.EqAt.bool_str a b t
  | _=>show absurd (show false=true from J) zf
 | int a=>
  let{C,0}:=I;cases x with
  | non=>cases o;show SeqAt.EqAt.int_none a C
  | bl b=>cases o;show SeqAt.EqAt.int_bool a C b
  | int b=>let{t,0}:=o;show SeqAt.EqAt.int_int a C b t
  | str b=>let{t,0}:=o;show SeqAt.EqAt.int_str a C b t
  | _=>show absurd (show false=true from J) zf
 | str a=>
  let{C,0}:=I;cases x with
  | non=>cases o;show SeqAt.EqAt.str_none a C
  | bl b=>cases o;show SeqAt.EqAt.str_bool a C b
  | int b=>let{t,0}:=o;show SeqAt.EqAt.str_int a C b t
  | str b=>let{t,0}:=o;show SeqAt.EqAt.str_str a C b t
  | _=>show absurd (show false=true from J) zf
 | _=>show absurd (show false=true from U) zf
meta def HP (x:V)(u:Value):Bool:=match u with
 | .none=>Ga .non x
 | .bool b=>Ga (.bl b) x
 | .int i _=>Ga (.int i) x
 | .str z _=>Ga (.str z) x
 | _=>false
def Yd (r:AR y u)(f:Gn y=true):HP x u=Ga y x:=by
 cases y with
 | non=>cases r;rfl
 | bl b=>cases r;rfl
 | int i=>let{t,0}:=r;rfl
 | str z=>let{t,0}:=r;rfl
 | _=>show absurd (show false=true from f) zf
def Up :∀{xs:List V}{us:List Value},AN xs us->xs.all Gn=true->us.any (HP x)=xs.any λy=>Ga y x
 | _,_,.nil,_=>rfl
 | y::xs,u::us,.cons r t,f=>by rw[List.all_cons,KI] at f;rw[List.any_cons,List.any_cons,Yd r f.1,Up t f.2]
def Vb (o:AR x v)(C:Gn x=true):∀{xs:List V}{us:List Value},AN xs us->xs.all Gn=true->∀u∈us,SeqAt.EqAt A s u v (HP x u)
 | _,_,.nil,_=>λu hu=>by cases hu
 | y::xs,u::us,.cons r t,f=>λI hu=>by
  rw[List.all_cons,KI] at f;rcases zS.mp hu with rfl | hu
  . rw[Yd r f.1];show LM r o f.1 C
  . show Vb o C t f.2 I hu
meta def Ep (x:V)(xs:List V):Bool:=xs.any λy=>Ga y x
inductive Ja (K:AK)(neg:Bool)(x:V)(y:V)(H:Hp)(Q:VK):Prop
 | mk:∀p xs,(y=.ref p)->((AD K H p xs\/AB K H p xs))->(Gn x=true)->(xs.all Gn=true)->(Q (.bl (if neg then !Ep x xs else Ep x xs)) H)->Ja K neg x y H Q
def da (K:AK)(neg:Bool):R2:=λx y H Q=>Ja K neg x y H Q
def aV:BD X (compareOp .In) (da X.K false):=by
 intro pins s σ H x y v u Q I C U h;let{p,xs,0,hq,J,fs,q}:=h;cases U;rcases hq with hq | hq
 . let{its,r,o,hz}:=I.list hq;show SeqAt.in_listAt (HP x) o.isList (λw hw=>Vb C J r fs w (by simpa using hw)) {.bl _,H,I,0,?_};rwa[show its.toArray.any (HP x)=its.any (HP x) by simp,Up r fs]
 . let{its,r,o,hz}:=I.tuple hq;show SeqAt.in_tupleAt (HP x) o (λw hw=>Vb C J r fs w (by simpa using hw)) {.bl _,H,I,0,?_};rwa[show its.toArray.any (HP x)=its.any (HP x) by simp,Up r fs]
inductive Lg (K:AK)(xs:List V)(H:Hp)(Q:VK):Prop
 | mk:∀p ys,(xs=[.ref p])->((AD K H p ys\/AB K H p ys))->(Q (.int ys.length) H)->Lg K xs H Q
def Bq:Bx X (.builtin "len") (Lg X.K):=by
 intro pins s σ H xs us Q I r h;let{p,J,0,hq,q}:=h;let{u,0,U}:=BL r;cases U;let hn:=Jv;rcases hq with hq | hq
 . let{its,o,C,hz}:=I.list hq;let hlen:=o.length;show Calls.call_len_list C.isList (by simp only[zc] <;> lia) {.int J.length,H,I.tok _,{s.toks+1,by rw[zc,hlen]},q}
 . let{its,o,C,hz}:=I.tuple hq;let hlen:=o.length;show len_tuple C (by simp only[zc] <;> lia) {.int J.length,H,I.tok _,{s.toks+1,by rw[zc,hlen]},q}
inductive Pe (xs:List V)(H:Hp)(Q:VK):Prop
 | mk:∀z,(xs=[.str z])->(z.length<=sizeLine)->(Q (.int z.length) H)->Pe xs H Q
def WA:Bx X (.builtin "len") Pe:=by intro pins s σ H xs us Q I r h;let{z,0,o,q}:=h;let{u,0,t,0}:=BL r;let C:=Jv;show len_str () {.int z.length,H,I.tok _,{1},q}
inductive RE (K:AK)(xs:List V)(H:Hp)(Q:VK):Prop
 | mk:∀p ys,(xs=[.ref p])->((AD K H p ys\/AB K H p ys))->(∀l,H l=none->Q (.ref l) (upd H l (.lst ys)))->RE K xs H Q
def aC:Bx X (.type "list") (RE X.K):=by
 intro pins s σ H xs us Q I r h;let{p,ys,0,hq,q}:=h;let{u,0,rx}:=BL r;cases rx;let fin:∀(its:List Value),AN ys its->ys.length<=sizeLine->∀(h':Heap)(J:Nat),(∀b o',s.heap.get? b=some o'->h'.get? b=some o') ->
  h'.get? s.heap.objs.size=some { cls:=.type "list",dict:=none,data:=.seq its.toArray J,slots:=#[] }->EP X pins σ Q (.ref s.heap.objs.size) { s with heap:=h' }:=λits C hz h' J U e=>
  {.ref s.heap.objs.size,_,I.laid (t':=s.toks) U (zH _) (show Aj X.prog X.w _ h' _ (.lst ys) from ⟨hz,its,J,C,e⟩),0,q _ (I.hok.fresh (zH _))}
 rcases hq with hq | hq
 . let{its,C,pl,hz}:=I.list hq;let hlen:=C.length;let{o,ho,hc,n,hd}:=pl.isList;show call_list_seq p (.inl rfl) ho hc hd (λh' J U e=>fin its C hz h' J U e) (by simp only[zc] <;> lia)
 . let{its,C,pl,hz}:=I.tuple hq;let hlen:=C.length;let{o,ho,hc,n,hd}:=pl;show call_list_seq p (.inr rfl) ho hc hd (λh' J U e=>fin its C hz h' J U e) (by simp only[zc] <;> lia)
inductive P5 (K:AK)(xs:List V)(H:Hp)(Q:VK):Prop
 | mk:∀p ys,(xs=[.ref p])->(((AD K H p ys/\∀l,H l=none->Q (.ref l) (upd H l (.tup ys)))\/(AB K H p ys/\Q (.ref p) H)))->P5 K xs H Q
def Cf:Bx X (.type "tuple") (P5 X.K):=by
 intro pins s σ H xs us Q I r h;let{p,ys,0,h}:=h;let{u,0,rx}:=BL r;cases rx;rcases h with ⟨U,q⟩ | ⟨U,q⟩
 . let{its,C,J,hz}:=I.list U;let hlen:=C.length;show call_tuple_list J.isList (λh' kp=>?_) (by simp only[zc] <;> lia);let I1:AA X pins σ H { s with heap:=h' }:=I.kept (t':=s.toks) kp;let I2:AA X pins σ (upd H h'.objs.size (.tup ys)) { s with heap:=h'.push { cls:=.type "tuple",data:=.seq its.toArray } }:=
    I1.laid (t':=s.toks) (λb o e=>zG _ e) (zH _) (show Aj X.prog X.w _ _ _ (.tup ys) from {{hz,_,zM _ rfl,0},its,C,IsTup.new _ _})
   show{.ref h'.objs.size,_,I2,0,q _ (I1.hok.fresh (zH _))}
 . let{its,C,J,hz}:=I.tuple U;show call_tuple_same J {.ref p,H,I,0,q}
def dw (K:AK)(T:String)(x:V)(H:Hp):Prop:=match x with
 | .str _=>T="str"
 | .int _=>T="int"
 | .ref p=>(T="list"/\∃xs,AD K H p xs)\/(T="tuple"/\∃o,K.lookup p=some o/\o.cls=.type "tuple"/\o.dict=none) \/
  (T="dict"/\((∃C,H p=some (.dK C))\/∃C,H p=some (.dT C)))\/(T="set"/\∃S n,H p=some (.set S n))
 | _=>False
def LX (I:AA X pins σ H s)(r:AR x v)(ty:dw X.K T x H):
 s.TypeIs v T/\∀a,v=.ref a->∃ob,s.heap.get? a=some ob/\ob.dict=none:=by
 cases x with
 | str z=>let{t,0}:=r;cases (show T="str" from ty);show{typeIs_str s z t,λ_ e=>nomatch e}
 | int i=>let{t,0}:=r;cases (show T="int" from ty);show{typeIs_int s i t,λ_ e=>nomatch e}
 | ref p=>
  cases r;rcases ty with ⟨rfl,xs,hq⟩ | ⟨rfl,o,C,hc,hd⟩ | ⟨rfl,C⟩ | ⟨rfl,S,n,C⟩
  . let{its,_,U,_}:=I.list hq;show{U.isList.typeIs,λa e=>?_};cases e;let{o,n,e,c,hd,_}:=U;show⟨o,e,hd⟩
  . show{{o,I.kIn p o C,hc},λa e=>?_};cases e;show{o,I.kIn _ o C,hd}
  . let z:∃o,s.heap.get? p=some o/\o.ExactDict:=by
     rcases C with ⟨mf,C⟩ | ⟨mf,C⟩
     . let{3,3,o,3,e,ex,_}:=I.hok p _ C;show⟨o,e,ex⟩
     . let{3,3,o,3,e,ex,_}:=I.hok p _ C;show⟨o,e,ex⟩
    let{o,e,ex}:=z;show{⟨o,e,ex.1⟩,λa J=>?_};cases J;show⟨o,e,ex.2.1⟩
  . let{o,_,3,e,ex,_}:=I.hok p _ C;show{⟨o,e,ex.1⟩,λa J=>?_};cases J;show⟨o,e,ex.2.1⟩
 | _=>show False.elim ty
inductive JW (K:AK)(T:String)(r:V->List V->Hp->VK->Prop)(t:TA)(σ:St)(Q:VK)(x:V)(H1:Hp):Prop
 | mk:(dw K T x H1)->(t σ H1 λxs H2=>r x xs H2 Q)->JW K T r t σ Q x H1
def mO (K:AK)(T:String)(r:V->List V->Hp->VK->Prop)(to:TE)(t:TA):TE:=λσ H Q=>to σ H λx H1=>JW K T r t σ Q x H1
variable {o e:Expr}{es:List Expr}{to:TE}{t:TA}{name:Str}{apos mw:Pos}{T id:String}{r:V->List V->Hp->VK->Prop}
def Bp (pa:PlainAttrs T)(slot:Slot T name id)(J:typeOf (.builtin id)=pure (.type "method_descriptor")) (hm:JJ X id r)(ho:PE X o to)(ha:PA X (e::es) t)
 (qu:autoParam (attributeBase o name X.env (eval o X.env)=eval o X.env) d_._auto_5)
 (C:autoParam (((backTo mw (starEach (e::es) X.env)).all (λx=>!x.1) && (backToKw mw (keywordEach [] X.env)).all (λx=>x.1.isSome)
  && decide ((e::es).length+([]:List Keyword).length+(if ([]:List Keyword).isEmpty then 0 else 1)<30))=true) d_._auto_5)
 (qk:autoParam ((apos.endLine==mw.line)=true) d_._auto_5)(hs:autoParam (starEach (e::es) X.env=(false,eval e X.env)::starEach es X.env) d_._auto_5)(pV:autoParam ((backTo mw (starEach es X.env)).any (·.1)=false) d_._auto_5):
 PE X (.Call (.Attribute o name apos) (e::es) [] mw) (mO X.K T r to t):=by
 intro pins s σ H Q I h;show wpAny_Call_method_late qu C qk rfl (AM (ho pins s σ H _ I h) λv s1 ⟨x,H1,I1,U,ty,q1⟩=>?_);let{h1,h2}:=LX I1 U ty;show{T,id,pa,slot,J,h1,h2,?_};let hA:=ha mw pins s1 σ H1 _ I1 q1;rw[hs] at hA ⊢;show Calls.callWith_builtin (by change (false || (backTo mw (starEach es X.env)).any (·.1))=false;rw[pV] <;> rfl) (Calls.evalArgs_plain ?_);show AM hA λus s2 ⟨vs,H2,I2,r2,q2⟩=>hm pins s2 σ H2 x vs v us Q I2 U r2 q2
end
def Tt (X:Cx)(id:String)(r:V->List V->Hp->VK->Prop):Prop:=
 ∀pins s σ H x xs v us Q,AA X pins σ H s->AR x v->AN xs us->r x xs H Q ->
  wpAny (model X.prog X.w) X.A (call (.builtin id) (v::us)) (EP X pins σ Q) X.xe s
def AN.one:∀{x:V}{us:List Value},AN [x] us->∃u,us=[u]/\AR x u
 | _,_,.cons r .nil=>{1,r}
def AN.eraseIdx:∀{xs:List V}{us:List Value}(i:Nat),AN xs us->AN (xs.eraseIdx i) (us.eraseIdx i)
 | _,_,_,.nil=>.nil
 | _,_,0,.cons _ t=>t
 | _,_,i+1,.cons r t=>.cons r (AN.eraseIdx i t)
def AN.rep (h:AN xs us):∀k:Nat,AN (List.replicate k xs).flatten (List.replicate k us).flatten
 | 0=>.nil
 | k+1=>by rw[GK,GK,List.flatten_cons,List.flatten_cons];show AN.append h (AN.rep h k)
def b8 {α:Type}:∀(l:List α)(i:Nat),(l.eraseIdx i).length<=l.length
 | [],_=>zH _
 | _::_,0=>Ci _
 | _::r,i+1=>Nat.succ_le_succ (b8 r i)
def aO (its:List Value):∀k acc,
 List.foldl (λC o=>C++o) acc.toArray (List.replicate k its.toArray)=(acc++(List.replicate k its).flatten).toArray
 | 0,acc=>by simp
 | k+1,acc=>by
  let e:acc.toArray++its.toArray=(acc++its).toArray:=by simp
  let I:(acc++its)++(List.replicate k its).flatten=acc++(List.replicate (k+1) its).flatten:=by rw[GK,List.flatten_cons,KG]
  rw[<-I,<-aO its k (acc++its),<-e,GK,List.foldl_cons]
def AA.lset {its:List Value}(I:AA X pins σ H s)(U:H l=some (.lst xs))
 (e:s.heap.get? l=some { cls:=.type "list",data:=.seq its.toArray n }) (hf:f its.toArray=its'.toArray)(o:AN ys its')(hz:ys.length<=sizeLine):
 AA X pins σ (upd H l (.lst ys)) { s with heap:=s.heap.update l (Obj.mapSeq f),toks:=t' }:=by
 let q:=PySem.IsL.update e f;rw[hf] at q;show I.write (x:=l) (e:=l) (by rw[U];show trivial) (.inl rfl) (λb' u J C=>(Gj s.heap (Obj.mapSeq f) (Ne.symm J)).trans C) {_,q} ?_;show{hz,its',_,o,q}
def AA.lnew (I:AA X pins σ H s)(o:AN ys its)(hz:ys.length<=sizeLine):
 AA X pins σ (upd H s.heap.objs.size (.lst ys)) { s with heap:=s.heap.push { cls:=.type "list",data:=.seq its.toArray },toks:=t' }:=
 I.laid (λ_ _ q=>zG _ q) (zH _) ⟨hz,its,0,o,zM _ rfl⟩
def AA.fresh (I:AA X pins σ H s):H s.heap.objs.size=none:=I.hok.fresh (zH _)
def AA.lstM (I:AA X pins σ H s)(o:H l=some (.lst xs)):xs.length<=sizeLine/\∃its n,AN xs its/\xs.length=its.length/\s.heap.get? l=some { cls:=.type "list",data:=.seq its.toArray n }:=by let{z,its,n,r,e}:=I.hok l _ o;show⟨z,its,n,r,r.length,e⟩
def V4 (h:n<=sizeLine):Builtin.List.listTooLong n=false:=by unfold Builtin.List.listTooLong;show ze ()
inductive Zh (x:V)(vs:List V)(H:Hp)(Q:VK):Prop
 | mk:∀l xs y,(x=.ref l)->(vs=[y])->(H l=some (.lst xs))->(xs.length<sizeLine)->(Q .non (upd H l (.lst (xs++[y]))))->Zh x vs H Q
def g6:V->List V->Hp->VK->Prop:=λx o H Q=>Zh x o H Q
def Nh:Tt X "list.append" g6:=by
 intro pins s σ H x vs v us Q I C J h;let{l,xs,y,2,o,hz,q}:=h;cases C;let{u,0,U}:=J.one;let{z,its,n,r,hl,e}:=I.lstM o;show call_meets F.slot_list_append {_,e,0} F.entry_list_append (F.args_list_append_2 _ _) (PySem.list_append l its.toArray n u (by rw[zc];lia)) {e,?_};show{.non,_,I.lset (its':=its++[u]) o e (by simp) (r.append (.cons U .nil)) ?_,0,q};rw[zT,List.length_singleton]
 lia
def jv:V->List V->Hp->VK->Prop:=λx o H Q=>∃l b xs zs,x=.ref l/\o=[.ref b]/\H l=some (.lst xs)/\H b=some (.lst zs)/\xs.length+zs.length<=sizeLine/\Q .non (upd H l (.lst (xs++zs)))
def gp:Tt X "list.extend" jv:=by
 intro pins s σ H x vs v us Q I U rv h;let{l,b,xs,zs,2,J,hB,hz,q}:=h;cases U;let{u,0,ru}:=rv.one;cases ru;let{z,its,n,r,hl,e}:=I.lstM J;let{z2,o,n2,r2,nH,e2}:=I.lstM hB;let C:its.toArray.size+o.toArray.size<=sizeLine:=by rw[zc,zc];lia
 let oI:¬ (!its.toArray.isEmpty && Builtin.List.listTooLong (its.toArray.size+o.toArray.size))=true:=by rw[V4 C,Bool.and_false];show zf
 show call_meets F.slot_list_extend {_,e,0} F.entry_list_extend (F.args_list_extend_2 _ _)
  (AutoSeq1.list_extend_list_list_0 l its.toArray n b o.toArray n2 oI (by rw[zc];lia) ()) {e,e2,?_}
 show{.non,_,I.lset (its':=its++o) J e (by simp) (r.append r2) ?_,0,q};rw[zT]
 lia
inductive dC (x:V)(vs:List V)(H:Hp)(Q:VK):Prop
 | mk:∀l xs i k y,(x=.ref l)->(vs=[.int i])->(H l=some (.lst xs))->(-(2 ^ 63)<=i)->(i<2 ^ 63)->(seqIndex? i xs.length=some k)->(xs[k]?=some y)->(Q y (upd H l (.lst (xs.eraseIdx k))))->dC x vs H Q
def KP:V->List V->Hp->VK->Prop:=λx o H Q=>dC x o H Q
def lY:Tt X "list.pop" KP:=by
 intro pins s σ H x vs v us Q I C J h;let{l,xs,i,k,y,2,o,h1,h2,hk,hy,q}:=h;cases C;let{u,0,U}:=J.one;let{t,0}:=U;let{z,its,n,r,hl,e}:=I.lstM o;let{w,hw,ow}:=r.get hy;show call_meets F.slot_list_pop {_,e,0} F.entry_list_pop (F.args_list_pop_2 _ _)
  (MeetsSeq.list_pop_at l its.toArray n i t k w (fitsIndex_both h1 h2) (by rwa[zc,<-hl]) (by rwa[<-Array.getElem?_toList]) (by rw[zc];lia)) {e,?_}
 show{y,_,I.lset (its':=its.eraseIdx k) o e ?_ (r.eraseIdx k) ?_,ow,q}
 . change its.toArray.eraseIdxIfInBounds k=(its.eraseIdx k).toArray;rw[List.eraseIdxIfInBounds_toArray]
 . let:=b8 xs k
   lia
inductive Y3 (x:V)(y:V)(H:Hp)(Q:VK):Prop
 | mk:∀l b xs zs,(x=.ref l)->(y=.ref b)->(H l=some (.lst xs))->(H b=some (.lst zs))->(xs.length+zs.length<=sizeLine)->(∀p,H p=none->Q (.ref p) (upd H p (.lst (xs++zs))))->Y3 x y H Q
def Wy:R2:=λx y H Q=>Y3 x y H Q
def Zl:BD X (binaryOp .Add) Wy:=by
 intro pins s σ H x y v u Q I J C h;let{l,b,xs,zs,2,hH,hB,hz,q}:=h;cases J;cases C;let{z,its,n,r,hl,e}:=I.lstM hH;let{z2,o,n2,U,nH,e2}:=I.lstM hB;show PySem.P.add_list e e2 ?_ (by rw[zc,zc];lia);let ea:its.toArray++o.toArray=(its++o).toArray:=by simp
 rw[ea];show{.ref _,_,I.lnew (t':=s.toks) (r.append U) (by rw[zT];lia),0,q _ I.fresh}
def Xb:R2:=λx y H Q=>∃l k xs,x=.ref l/\y=.int k/\H l=some (.lst xs)/\-(2 ^ 63)<=k/\k<2 ^ 63/\xs.length*k.toNat<=sizeLine /\
 ∀p,H p=none->Q (.ref p) (upd H p (.lst (List.replicate k.toNat xs).flatten))
def ke {α:Type}(xs:List α)(k):(List.replicate k xs).flatten.length=k*xs.length:=by
 induction k with
 | zero=>simp
 | succ k o=>rw[GK,List.flatten_cons,zT,o,Nat.succ_mul,Nat.add_comm]
def Kr:BD X (binaryOp .Mult) Xb:=by
 intro pins s σ H x y v u Q I rx ry h;let{l,k,xs,2,hH,h1,h2,hz,q}:=h;cases rx;let{t,0}:=ry;let{z,its,n,r,hl,e}:=I.lstM hH;let hlen:its.toArray.size*k.toNat<=sizeLine:=by rw[zc,<-hl];show hz
 let J:¬ its.toArray.size*k.toNat > (2 ^ 63-1)/8:=by
  let:(sizeLine:Nat)<=(2 ^ 63-1)/8:=by decide
  lia
 let C:¬ (!Builtin.List.listFitsIndex k)=true:=by rw[fitsIndex_both h1 h2];show zf
 let oI:¬ Builtin.List.listTooLong (its.toArray.size*k.toNat)=true:=by rw[V4 hlen];show zf
 let o:List.foldl (λx1 x2=>x1++x2) #[] (List.replicate (if its.toArray.isEmpty=true then 0 else k.toNat) its.toArray)=(List.replicate k.toNat its).flatten.toArray:=by
  let f0:∀m:Nat,List.foldl (λx1 x2=>x1++x2) #[] (List.replicate m its.toArray)=(List.replicate m its).flatten.toArray:=λm=>by let:=aO its m [];rw[List.nil_append] at this;show this
  rw[f0];cases its with
  | nil=>simp
  | cons a r'=>rw[if_neg (by simp)]
 show wpAny_binaryOp_repeat_ref (T := "list") (U := "int") (by decide) {_,e,0} (λs'=>typeIs_int s' k t) noFill_list_mul F.fills_int_mul F.slot_int_rmul repeat_list F.slot_int_index.lookup
  (call_meets F.slot_int_rmul (typeIs_int s k t) F.entry_int_rmul (F.args_int_rmul_2 _ _) (int___rmul___int_list k t l its.toArray n)
   {e,0,{_,e,0},call_meets F.slot_list_mul {_,e,0} F.entry_list_mul (F.args_list_mul_2 _ _) (AutoListH.list___mul___list_int_3 l its.toArray n k t C J oI) {e,?_}})
 rw[o];show{.ref _,_,I.lnew (t':=s.toks) (r.rep k.toNat) (by rw[ke,Nat.mul_comm];show hz),0,q _ I.fresh}
end L2
namespace Att
open PySem PySem.W PySem.Calls PyProof.Rows
def eD :∀ns vs,WellAll P h vs (ns.map WData.int)->IntsAre vs ns:=by
 intro ns
 induction ns with
 | nil=>intro vs w;rw[List.map_nil] at w;cases w;show .nil
 | cons n ns o=>
  intro vs w;rw[Bf] at w;cases w with
  | cons a b=>cases a;show .cons _ _ (o _ b)
def jL {l:OpenLaw}(hn:l.most=some n)
 (o:l.row.toRowW.claim.pre args=true)(I:WellAll P h vals args):
 ∃a vs ns,vals=[Value.ref a]/\args=[WData.list (ns.map WData.int)]/\h.get? a=some { cls:=.type "list",data:=.seq vs.toArray }/\IntsAre vs ns/\ns.length<=n:=by
 let J:WShape.hasAll [] args [.list .int]=true:=(pre_splitW o).1;let hc:l.pre.holds [] { args:=args }=true:=(pre_splitW o).2;let{d,r,0,h1,h2}:=hasAllW_cons J;obtain rfl:=hasAllW_nil h2;let{xs,0,h3}:=hasW_list h1;let{ns,0}:=items_int h3;let hlen:ns.length<=n:=by
  unfold OpenLaw.pre at hc;let U:(WTm.not (.lt (.lit (.int (n:Int))) (.len (.arg 0)))).holds [] { args:=[.list (ns.map .int)] }=true:=by let U:=(holds_andW hc).1;rwa[hn] at U
  let C:=condW_of U (w_not (w_lt w_lit (w_len_list (w_arg rfl))));rw[zB] at C;show Nat.le_of_not_lt λq=>?_;let q':(n:Int)<((ns.length:Nat):Int):=()
  first
   | (rw[zX q'] at C;show absurd C (by decide))
   | (simp at C;lia)
 cases I with
 | cons w1 w2=>
  cases w2;cases w1 with
  | list ho n6=>show{3,ns,2,ho,eD ns _ n6,hlen}
def jR (l:OpenLaw)(args):l.row.toRowW.claim.post args (.bool true) args=true:=
 postW_of (r:=l.row.toRowW) (X:=(true==true))
  (show WShape.has [] (.bool true) .bool=true by first | rfl | decide | simp[WShape.has,WShape.arms,WShape.armsAll])
  (show (WTm.eq .res (.lit (.bool true))).value [] { args:=args,res:=some (.bool true),after:=args }=some (.bool (true==true)) from w_eq_bool (w_res rfl) w_lit) rfl
def attach_call {l:OpenLaw}
 (hn:l.most=some n)(hdf:d.params.defaults=[])
 (call:∀w I C mg mb fa o pm cd doc a vs ns,
  Ground q loose [] XP w I mg mb C.heap->YP w C.heap ->
  C.heap.get? fa=some o->o.data=.func (docDef d.name d.params d.body d.scope pm cd doc)->C.heap.CodeRec cd d.name->mg d.name=some (.ref fa) ->
  C.heap.get? a=some { cls:=.type "list",data:=.seq vs.toArray }->IntsAre vs ns->ns.length<=n->C.gens=#[] ->
  codeAny (model l.prog w) callerA (.call (.ref fa) {[.ref a],[]}) (λr s'=>r=.ok (.ret (.bool true))/\OldK C.heap s'.heap/\s'.os=C.os/\AllBare s'.gens) C):
 WalkO q loose XP YP l.row.toRowW d [] (λf vs=>PySem.call f vs):=by
 intro w I C mg mb G Y fa o pm cd doc dV kV ho hd pF hD hmg hg args vals as J hlay hrd hwl hlo;obtain rfl:dV=.none:=Dflts.none hD hdf;obtain rfl:kV=.none:=Dflts.noKw hD;let{a,vs,ns,2,U,hints,hlen}:=jL hn J hwl;show enter_call (codeAny_mono (call w I C mg mb fa o pm cd doc a vs ns G Y ho (fd_plain hd) pF hmg U hints hlen hg) λr s' hq=>?_);let{0,h2,h3,h4}:=hq;show{.inl {.bool true,.bool true,[],0,λ_=>rfl,.bool true,jR l _,λ_=>{List.Pairwise.nil,λ_ hm=>(nomatch hm)}},h2,h3,h4}
end Att
namespace L2
open PySem PySem.Spec PyProof.Rows
def bU:∀{vs:List Value}{ns:List Int},IntsAre vs ns->AN (ns.map V.int) vs
 | _,_,.nil=>.nil
 | _,_,.cons n t h=>.cons {t,0} (bU h)
abbrev AL:Kv:=λ_ _ _ _ _ _=>False
abbrev E0:XK:=λ_ _ _=>False
def DD :Hv AL X E0:=λ_ _ _ _ _ _ _ h=>h.elim
structure BS (K:AK)(x qual:Str)(st:Stmt)(f:Addr)(fd:FuncData):Prop where
 ex:∃(oc:Value)(od:Option Addr)(kV doc pm:Value)(an:Option Addr)(nN ct:Value)(pQ:Array (Option Value)),
  fd=PySem.W.fnOf x qual (defArgs st) (defBody st) (defScope st) .none kV doc pm an nN ct/\K.lookup f=some {oc,od,.func fd,pQ}/\PySem.W.codeIn K nN qual=true
 kp:PySem.W.keepIn K (.ref f)=true
section
variable {P:Program}{w:World}{K:AK}{mg:A2}{base:Heap}
def BS.ok {st:Stmt}(F:BS K x qual st f fd)(S:zo N ps (defScope st))(len:∀vs H Q E,sp vs H Q E->vs.length=ps.length)
 (J:∀o A outer s H vs Q E,Ap k (A.deeper (envOfC qual (defScope st) s.heap.objs.size f o))->sp vs H Q E ->
  ∃t,CI (DU AL P w K mg base N qual (defScope st) f o A outer s H E).nox (defBody st) t/\t { nx:=λ_ H'=>Q .non H',rt:=Q } (start N vs) H):AF P w K mg base AL (k+1) f fd ps sp:=by
 let{oc,od,kV,doc,pm,an,o,ct,pQ,0,U,C}:=F.ex;show VL U C S len λA outer s H vs Q E hr I=>?_;let{t,h,q}:=J o A outer s H vs Q E hr I;show⟨t,h.nox,q⟩
def BS.binds {st:Stmt}(F:BS K x qual st f fd)
 (h:∀kV doc pm an o C us,us.length=ps.length->bindArgs (PySem.W.fnOf x qual (defArgs st) (defBody st) (defScope st) .none kV doc pm an o C) {us,[]}=pure (ps.zip us)):BC K fd ps []:=by
 let{oc,U,kV,doc,pm,an,o,C,I,0,lk,J}:=F.ex;show .all (h kV doc pm an o C)
def Vi {st:Stmt}{kV:Value}(l:K.lookup f=some {oc,od,.func (PySem.W.fnOf x qual (defArgs st) (defBody st) (defScope st) .none kV doc pm an nN ct),pQ})
 (c:PySem.W.codeIn K nN qual=true)(k:PySem.W.keepIn K (.ref f)=true):BS K x qual st f (PySem.W.fnOf x qual (defArgs st) (defBody st) (defScope st) .none kV doc pm an nN ct):={{oc,od,kV,doc,pm,an,nN,ct,pQ,0,l,c},k}
end
def TC (o:Ap k A):A.units+1<cLine:=Em (Nat.add_le_add_left (by decide:1<=64) _) o.units
def pv (i)(I:autoParam (X.N[i]?=some x) d_._auto_5)(C:autoParam (Wj X.env.scope x) d_._auto_7)(hd:autoParam ((x==("__debug__" : Str))=false) d_._auto_2)
 (o:autoParam ((x==("__classdict__" : Str))=false) d_._auto_2):PE X (.Name x pos) (Pa i):=Ll I C hd o
def Ax {B:Prop}(h:B):if false=true then A else B:=by rwa[if_neg zf]
def Br {B:Prop}(h:A):if true=true then A else B:=by rwa[if_pos rfl]
def CP {B:Prop} [Decidable c] (C:c->A)(o:¬ c->B):if c then A else B:=by
 by_cases h:c
 . rw[if_pos h];show C h
 . rw[if_neg h];show o h
def AG (H H':Hp):Prop:=∀b o,H b=some o->H' b=some o
def AG.refl (H):AG H H:=λ_ _ h=>h
def AG.trans (a:AG H H1)(b:AG H1 H2):AG H H2:=λc o h=>b c o (a c o h)
section
variable {κ:Type} [DecidableEq κ]
def dP {o:List (κ×V)}(h:Ag o k=none):¬ k∈o.map (·.1):=by intro m;let{p,I,e}:=zp.mp m;let q:(o.any λC=>decide (C.1=k))=true:=EE.mpr {p,I,zX e};rw[Ft,h] at q;show absurd q (by simp)
def jM {o:List (κ×V)}(h:Ag o k=some v):k∈o.map (·.1):=by
 let q:(o.any λC=>decide (C.1=k))=true:=by
  rw[Ft,h]
  all_goals rfl
 let{p,I,e}:=EE.mp q;show zp.mpr {p,I,of_decide_eq_true e}
def b7:∀{l:List κ}{k:κ},l.Nodup->¬ k∈l->(l++[k]).Nodup
 | [],k,_,_=>by simp
 | a::r,k,h,hk=>by
  let{C,o}:=C7.mp h;change (a::(r++[k])).Nodup;show C7.mpr {λm=>?_,b7 o λm=>hk (zS.mpr (Or.inr m))};rcases Bi.mp m with q | q
  . show C q
  . show hk (zS.mpr (Or.inl (zv.mp q).symm))
def Yl {o:List (κ×V)}(v)(C:(o.map (·.1)).Nodup)(h:Ag o k=none):((Au o k v).map (·.1)).Nodup:=by rw[YJ v h,zQ];show b7 C (dP h)
def Yx {k:κ}(e:p.1=k):Bg (p::r) k=Bg r k:=by unfold Bg;rw[Jr,if_neg (by simp[e])]
def cW {k:κ}(e:¬ p.1=k):Bg (p::r) k=p::Bg r k:=by unfold Bg;rw[Jr,if_pos (by simp[e])]
def cO {o:List (κ×V)}(h:p∈Bg o k):p∈o:=(Ba.mp h).1
def WV:∀{o:List (κ×V)}{k:κ},(o.map (·.1)).Nodup->((Bg o k).map (·.1)).Nodup
 | [],_,_=>List.nodup_nil
 | p::r,k,h=>by
  let h:(p.1::r.map (·.1)).Nodup:=h;let{J,C}:=C7.mp h;by_cases e:p.1=k
  . rw[Yx e];show WV C
  . rw[cW e];change (p.1::(Bg r k).map (·.1)).Nodup;show C7.mpr {λm=>J ?_,WV C};let{q,I,eq}:=zp.mp m;show zp.mpr {q,cO I,eq}
end
end L2
set_option Elab.async false
set_option linter.all false
set_option maxRecDepth 100000
set_option maxHeartbeats 4000000
namespace L2
open PySem PySem.Spec PyProof.Rows
def eZ (I:Nat->Shared->Prop)
 (turn:∀n s,I n s->wpAny (model prog w) A (pyNext it) (λr J=>match r with
  | none=>R (.ok .next) J
  | some v=>wpAny (model prog w) A (letOwnedTupleGo target it v) (λ_ C=>wpAny (model prog w) A (assign target env v) (λ_ s₂=>
   wpAny (model prog w) A (forIn ifs true λc r=>if r=true then do let ok <-isTrue c env (eval c env);pure (ForInStep.yield ok) else pure (ForInStep.yield r)) (λok o=>
    if ok=true then wpAny (model prog w) A (eval elt env) (λx s₄=>
     wpAny (model prog w) A (call (.builtin "list.append") [acc,x]) (λ_ U=>∃m,m<n/\I m U) (λ_ _=>False) s₄) (λ_ _=>False) o
    else ∃m,m<n/\I m o) (λ_ _=>False) s₂) (λ_ _=>False) C) (λ_ _=>False) J) (λ_ _=>False) s)
 (n)(h:I n s):codeAny (model prog w) A (.compLoop (.ListComp elt [⟨target,iter,ifs,0⟩] scope pos) 0 it acc env) R s:=by
 show codeAny_loop rfl I (λn s hI=>?_) n h;change wpAny _ A ((compTurn (.ListComp elt [⟨target,iter,ifs,0⟩] scope pos) 0 it acc env).onRaise (λx=>do noteFrame x env;theTreesLotGoes x)) _ _ s
 show wpAny_noted ?_;rw[compTurn_list];show zA (wpAny_standAt (zA (BB (turn n s hI) (λr J h₁=>?_) λ_ _ h'=>h'.elim)));cases r with
 | none=>show zE h₁
 | some v=>
  show zA (BB h₁ (λ_ C h₁'=>?_) λ_ _ h'=>h'.elim);show zA (BB h₁' (λ_ s₂ h₂=>zA (BB h₂ (λok o h₃=>?_) λ_ _ h'=>h'.elim)) λ_ _ h'=>h'.elim);cases ok with
  | false=>show zE {0,h₃}
  | true=>show zA (zA (BB h₃ (λx s₄ h₄=>zA (BB h₄ (λ_ U h₅=>zE (zE {0,h₅})) λ_ _ h'=>h'.elim)) λ_ _ h'=>h'.elim))
def N9 (X:Cx)(ifs:List Expr)(t:TT):Prop:=
 ∀pins s σ H Q,AA X pins σ H s->t σ H Q ->
  wpAny (model X.prog X.w) X.A (forIn ifs true λc r=>if r=true then do let ok <-isTrue c X.env (eval c X.env);pure (ForInStep.yield ok) else pure (ForInStep.yield r)) (TP X pins σ Q) X.xe s
def QS:TT:=λ_ H Q=>Q true H
def A9 {A B:Hp->Prop}(h:A H):QS σ H (λb H3=>if b=true then A H3 else B H3):=by
 change (if true=true then A H else B H)
 show Br h
def A8 :N9 X [] QS:=λ_ _ _ H _ I h=>wpAny_tests_nil ⟨H,I,h⟩
def Fd (h:PT X c t):N9 X [c] t:=λpins s σ H Q I q=>wpAny_tests_one (h pins s σ H Q I q)
meta def BO (cells:List (Str×Addr)):List (Str×NameKind)->List (Str×Addr)->List (Str×Addr)
 | [],acc=>acc
 | (n,k)::r,acc=>if (k == .free)=true then (match cells.lookup n with | some c=>BO cells r ((n,c)::acc) | none=>BO cells r acc) else BO cells r acc
def OH :∀names acc,(BO cells names acc).lookup x=some c->acc.lookup x=some c\/cells.lookup x=some c
 | [],acc,h=>.inl h
 | (n,k)::r,acc,h=>by
  unfold BO at h;split at h
  . cases C:cells.lookup n with
    | none=>rw[C] at h;show OH r acc h
    | some J=>
     rw[C] at h;rcases OH r _ h with q | q
     . rw[Hw] at q;cases o:x==n with
       | true=>
        rw[o] at q;let e:x=n:=by simpa using o
        let I:J=c:=by simpa using q
        rw[e,C,I];show .inr rfl
       | false=>rw[o] at q;show .inl q
     . show .inr q
  . show OH r acc h
def SG :∀names acc,(∃c,acc.lookup x=some c)->∃c,(BO cells names acc).lookup x=some c
 | [],acc,h=>h
 | (n,k)::r,acc,h=>by
  unfold BO;split
  . cases I:cells.lookup n with
    | none=>show SG r acc h
    | some o=>
     show SG r _ ?_;rw[Hw];cases C:x==n with
     | true=>show{o,0}
     | false=>show h
  . show SG r acc h
def Od (o:∃c,cells.lookup x=some c):∀names acc,(x,NameKind.free)∈names->∃c,(BO cells names acc).lookup x=some c
 | [],acc,h=>by simp at h
 | (n,k)::r,acc,h=>by
  rcases zS.mp h with e | h
  . cases e;let{c,C}:=o;unfold BO;rw[if_pos (by rfl),C];show SG r _ {c,by rw[Hw];simp}
  . unfold BO;split
    . cases C:cells.lookup n with
      | none=>show Od o r acc h
      | some I=>show Od o r _ h
    . show Od o r acc h
def V8 :∀names acc,(∀y∈names,y.2=.free->∃c,env.cells.lookup y.1=some c) ->
 (forIn names acc λ(x:Str×NameKind)(cs:List (Str×Addr))=>(if (x.2 == .free)=true then (do let a <-cellOf env x.1;pure (ForInStep.yield ((x.1,a)::cs))) else pure (ForInStep.yield cs):Sem (ForInStep (List (Str×Addr)))))=pure (BO env.cells names acc)
 | [],acc,_=>rfl
 | (n,k)::r,acc,h=>by
  rw[List.forIn_cons];let C:∀y∈r,y.2=.free->∃c,env.cells.lookup y.1=some c:=λy I=>h y (zZ _ I);unfold BO;cases o:(k==NameKind.free) with
  | true=>let{c,J}:=h (n,k) za (by simpa using o);simp only[o,if_true,cellOf,J,pure_bind];show V8 r _ C
  | false=>simp only[o,Jt,if_false,pure_bind];show V8 r _ C
def ba (h:∀y∈scope.names,y.2=.free->∃c,env.cells.lookup y.1=some c):closureFor scope env=pure (BO env.cells scope.names []):=by let e:=V8 scope.names [] h;simp only[closureFor];simp only[bind_pure];show e
def V5 {env:Env}:∀(names:List (Str×NameKind)),
 (names.map λ(n,k)=>if (k==NameKind.free && env.scope.kind == .function && env.kindOf n==some .cell) then (n,NameKind.cell) else (n,k)).lookup x =
  (names.lookup x).map λk=>if (k==NameKind.free && env.scope.kind == .function && env.kindOf x==some .cell)=true then NameKind.cell else k
 | []=>rfl
 | (n,k)::r=>by
  let C:=V5 (env:=env) (x:=x) r;rw[Bf];change List.lookup x ((if (k==NameKind.free && env.scope.kind == .function && env.kindOf n==some .cell)=true then (n,NameKind.cell) else (n,k))::_)=_
  by_cases c:(k==NameKind.free && env.scope.kind == .function && env.kindOf n==some .cell)=true
  . rw[if_pos c,Hw,Hw];cases o:x==n with
    | true=>
     let e:x=n:=by simpa using o
     subst e;change some NameKind.cell=Option.map _ (some k);rw[Fy,if_pos c]
    | false=>show C
  . rw[if_neg c,Hw,Hw];cases o:x==n with
    | true=>
     let e:x=n:=by simpa using o
     subst e;change some k=Option.map _ (some k);rw[Fy,if_neg c]
    | false=>show C
meta def Bk (X:Cx)(pl:CT)(N':List Str)(scope:Scope)(fp:List Addr)(s3:Shared)(H3:Hp):Cx where
 prog:=X.prog
 w:=X.w
 K:=X.K
 mg:=X.mg
 base:=X.base
 A:=X.A
 N:=N'
 s₀:=s3
 H₀:=H3
 env:=compEnvC scope (BO X.env.cells scope.names []) s3.heap.objs.size X.env
 outer:=X.stack
 stack:=X.stack
 ex:=fp
 fn:=λ_=>false
 calm:=X.calm
 pn:=pl
 xe:=λ_ _=>False
def Ht (X:Cx)(scope:Scope):List Str->List Nat->Prop
 | [],[]=>True
 | x::cn,j::ci=>X.N[j]?=some x/\X.env.kindOf x=some .cell/\scope.names.lookup x=some .free/\Ht X scope cn ci
 | _,_=>False
def Ht.get :∀{cn:List Str}{ci:List Nat}{k:Nat}{x:Str},Ht X scope cn ci->cn[k]?=some x->∃j,ci[k]?=some j/\X.N[j]?=some x/\X.env.kindOf x=some .cell/\scope.names.lookup x=some .free
 | [],_,_,_,_,h=>by simp at h
 | _::_,[],_,_,c,_=>c.elim
 | y::cn,j::ci,0,x,c,h=>by
  let{a,b,J,_}:=c;let e:y=x:=by simpa using h
  subst e;show{j,0,a,b,J}
 | y::cn,j::ci,k+1,x,c,h=>by let{o,I,C}:=Ht.get (k:=k) c.2.2.2 (by simpa using h);show{o,by simpa using I,C}
structure Jn (X:Cx)(scope:Scope):Prop where
 kind:scope.kind=.function
 nocell:∀y∈scope.names,y.2 ≠ .cell
 names:∀y∈scope.names,y.2=.local->scope.names.lookup y.1=some .local
 free:∀y∈scope.names,y.2=.free->X.env.kindOf y.1=some .cell
section
variable {X:Cx}{pins:CT}{σ:St}{H3:Hp}{s3:Shared}{scope:Scope}{fp:List Addr}{N' own cn:List Str}{ci:List Nat}{cv:List V}
def X4 (ok:X.Ok)(S:Jn X scope)(h:(relabel scope X.env).names.lookup x=some .cell\/(relabel scope X.env).names.lookup x=some .free):
 ∃c,(BO X.env.cells scope.names []).lookup x=some c:=by
 let e:(relabel scope X.env).names.lookup x=(scope.names.lookup x).map λk=>if (k==NameKind.free && X.env.scope.kind == .function && X.env.kindOf x==some .cell)=true then NameKind.cell else k:=V5 scope.names
 let hf:scope.names.lookup x=some .free:=by
  cases q:scope.names.lookup x with
  | none=>rw[e,q] at h;simp at h
  | some k=>
   by_cases o:k=.free
   . rw[o]
   . let C:(k==NameKind.free)=false:=by simpa using o
     rw[e,q] at h;simp only[Fy,C,Bool.false_and,Jt,if_false,Option.some.injEq] at h;rcases h with h | h
     . show absurd h (S.nocell _ (PySem.mem_of_lookup q))
     . show absurd h o
 show Od (ok.has x (.inl (S.free _ (PySem.mem_of_lookup hf) rfl))) scope.names [] (PySem.mem_of_lookup hf)
def NX (h:(BO X.env.cells scope.names []).lookup x=some c):X.env.cells.lookup x=some c:=by
 rcases OH _ _ h with q | q
 . simp at q
 . show q
def lD (I:AA X pins σ H3 s3)(S:Jn X scope)(f:∀b∈fp,EC X pins H3 b)(fz:∀b∈fp,b<s3.heap.objs.size):(Bk X (X.pn++pins) N' scope fp s3 H3).Ok where
 mod:=I.ok.mod
 kind:=S.kind
 glob:=I.ok.glob
 blt:=I.ok.blt
 above:=zH _
 inj:=λx y c U J=>I.ok.inj x y c (NX U) (NX J)
 has:=λx h=>X4 I.ok S h
 cab:=λx c h=>by cases h
 hd:=I.ok.hd
 frames:=I.ok.frames
 stk:=.inl rfl
 exf:=λb C=>{zb (fz b C),λx c h=>(f b C).2.2.2.2.1 x c (NX h)}
 bs:=I.bs
 bsz:=zn I.ok.bsz I.sz
 noex:=λb o e C=>by
  rcases (f b C).2.2.2.1 with z | z
  . show I.ok.noex b o e z
  . show absurd (zk (zU e) (zn I.ok.bsz z)) (GJ _)
 exfs:=λb C z=>by
  rcases zS.mp (I.stkSub b z) with q | q
  . show (f b C).2.1 q
  . show (f b C).2.2.1 q
 funs:=I.stack
 frf:=I.stkFree
def gE (I:AA X pins σ H3 s3)(S:Jn X scope)(f:∀b∈fp,EC X pins H3 b)(fz:∀b∈fp,b<s3.heap.objs.size)
 (hN:N'=own++cn)(hc:Ht X scope cn ci)(hv:ci.map (λj=>σ[j]?)=cv.map λv=>some (some v))(hl:cn.length=ci.length)
 (oR:h1.Ns s3.heap.objs.size (λ_=>none))(hk:∀b o,s3.heap.get? b=some o->h1.get? b=some o):
 AA (Bk X (X.pn++pins) N' scope fp s3 H3) [] (List.replicate own.length none++cv.map some) H3 { s3 with heap:=h1,toks:=t }:=by
 let J:cv.length=ci.length:=by let:=congrArg List.length hv;simpa using this.symm
 show{lD I S f fz,0,I.bare,Un.kept hk,{_,oR,λi x v e1 C e3=>?_},λx c e=>?_,I.hok.fresh (zH _),λx c e=>I.freeC x c (NX e),λp hp=>?_,I.hok.kept hk,?_}
 . -- a captured name
   let hi:own.length<=i:=by
    by_cases hi:own.length<=i
    . show hi
    . rw[zi (by simpa using hi),List.getElem?_replicate] at C;split at C <;> cases C
   rw[zh (by simpa using hi),C8,zO] at C;let e1':(own++cn)[i]?=some x:=by rwa[<-hN]
   rw[zh hi] at e1';let{j,hj,hNj,U,hfr}:=hc.get e1';let hcv:cv[i-own.length]?=some v:=by
    cases q:cv[i-own.length]? with
    | none=>rw[q] at C;cases C
    | some v'=>rw[q] at C;cases C;rfl
   let hσ:σ[j]?=some (some v):=by let:=congrArg (λl:List (Option (Option V))=>l[i-own.length]?) hv;simp only[zO,hj,hcv,Fy,Option.some.injEq] at this;show this
   let{m,_,nU}:=I.loc;let{u,r,q}:=nU j x v hNj hσ (.inr (.inl U));let hkd:(relabel scope X.env).names.lookup x=some .cell\/(relabel scope X.env).names.lookup x=some .free:=by
    let e:(relabel scope X.env).names.lookup x=(scope.names.lookup x).map λk=>if (k==NameKind.free && X.env.scope.kind == .function && X.env.kindOf x==some .cell)=true then NameKind.cell else k:=V5 scope.names
    rw[e,hfr,Fy];by_cases cc:(NameKind.free==NameKind.free && X.env.scope.kind == .function && X.env.kindOf x==some .cell)=true
    . rw[if_pos cc];show .inl rfl
    . rw[if_neg cc];show .inr rfl
   let{c',hc'}:=X4 I.ok S hkd;show{u,r,.inr {hkd,c',hc',?_}};rcases q with ⟨z,_⟩ | ⟨_,c,hcc,o,ho,hd⟩
   . rw[U] at z;cases z
   . let e:c=c':=zW (hcc.symm.trans (NX hc'));subst e;show{o,hk c o ho,hd}
 . let{v,o,ho,hd}:=I.cell x c (NX e);show{v,o,hk c o ho,hd}
 . let hp':p∈X.pn++pins:=by rwa[Bl] at hp
   let{e,n,ne,nf,d}:=I.pin p hp';show{hk _ _ e,n,zb (zU e),λz=>?_,d};rcases zS.mp (I.stkSub p.1 z) with q | q
   . show ne q
   . show nf q
 . change (List.replicate own.length none++cv.map some).length=N'.length;rw[hN,zT,zT,C8,zB,J,hl]
def Nd (J:It)(own:Nat)(cv:List V)(g:TG)(ti:TT)(te:TE)(D:Addr)(H1:Hp)(Q:VK):Prop:=∃W:Nat->Nat->List V->Hp->Prop,(∃m,W 0 m [] (upd H1 D (.lst [])))/\∀i m C H,W i m C H ->
 (J.stop i H/\Q (.ref D) H)\/(J.go i H/\C.length<sizeLine/\∃N:List V->Hp->Prop,(∀I H',N I H'->∃U,U<m/\W (i+1) U I H') /\
  ∀x H',J.yld i H x H'->g x (List.replicate own none++cv.map some) H' λo H2=>(o.length=own+cv.length/\o.drop own=cv.map some) /\
   ti o H2 λb H3=>if b=true then te o H3 λy H4=>H4 D=some (.lst C)/\N (C++[y]) (upd H4 D (.lst (C++[y]))) else N C H3)
def Uw (own:Nat)(ci:List Nat)(o:TI)(g:TG)(C:TT)(te:TE):TE:=λσ H Q=>o σ H λJ H1=>∃cv:List V,ci.map (λj=>σ[j]?)=cv.map (λv=>some (some v)) /\
 ∀D,H1 D=none->Nd J own cv g C te D H1 Q
def bB (pG:X.calm=true)(S:Jn X scope)(hc:Ht X scope cn ci)(hl:cn.length=ci.length)
 (hi:PI X target iter wi)(hg:∀pl fp s3 H3,PG (Bk X pl (own++cn) scope fp s3 H3) target g)(ht:∀pl fp s3 H3,N9 (Bk X pl (own++cn) scope fp s3 H3) ifs ti)
 (he:∀pl fp s3 H3,PE (Bk X pl (own++cn) scope fp s3 H3) elt te)(hs:∀x,foldedSetIterable iter X.env x=pure x)(I:AA X pins σ H s)(h:Uw own.length ci wi g ti te σ H Q)
 (fin:∀D C H5 s6 m6,AA X pins σ H5 s6->s6.heap.Ns C m6->H5 C=none->C≠X.env.locals->X.s₀.heap.objs.size<=C->(∀x c,X.env.cells.lookup x=some c->c≠C) ->
  (∀p∈X.pn++pins,p.1≠C)->Q (.ref D) H5->compPost (model X.prog X.w) X.A X.xe use Q0 (.ref D) C (.ok .next) s6):
 wpAny (model X.prog X.w) X.A (comprehension (.ListComp elt [⟨target,iter,ifs,0⟩] scope pos) scope X.env mw (newList []) false (eval iter X.env) use) Q0 X.xe s:=by
 let pz:closureFor scope X.env=pure (BO X.env.cells scope.names []):=ba λy hy hf=>I.ok.has y.1 (.inl (S.free y hy hf));show wpAny_comprehension_free (use:=use) rfl hs pz S.kind S.names ?_;show AM (hi pins s σ H _ I h) λv s1 h1=>AM h1 λitv s2 h2=>?_;let{it,fp,tn,J,H2,e,I2,T,st2,f2,cv,hv,hD}:=h2;subst e;let lenv:cv.length=ci.length:=by let:=congrArg List.length hv;simpa using this.symm
 let I3:=I2.lnew (ys:=[]) (its:=[]) (t':=s2.toks) .nil (zd _);let{W,{m0,w0},turn}:=hD s2.heap.objs.size I2.fresh;let fz:∀b∈fp,b<s2.heap.objs.size:=λb U=>by let{o,ho,_}:=T.obj _ _ st2 b U;show zU ho
 show DW ?_;show wpAny_newFunctionEnv S.nocell (by intro y hy;simp at hy) (λh4 hns4 hsb4=>?_) S.kind;generalize hs3:({ s2 with heap:=s2.heap.push { cls:=.type "list",dict:=none,data:=.seq ([]:List Value).toArray } }:Shared)=s3 at hns4 hsb4 ⊢;let I3':AA X pins σ (upd H2 s2.heap.objs.size (.lst [])) s3:=by rwa[<-hs3]
 let hsz3:s3.heap.objs.size=s2.heap.objs.size+1:=by rw[<-hs3];show Co ..
 let k23:∀b o,s2.heap.get? b=some o->s3.heap.get? b=some o:=λb o e=>by rw[<-hs3];show zG _ e
 let k34:∀b o,s3.heap.get? b=some o->h4.get? b=some o:=λb o e=>hsb4.extBut b o (zb (zU e)) (zG _ e);let nD:∀b∈fp,b≠s2.heap.objs.size:=λb U=>zb (fz b U);let f3:∀b∈fp,EC X pins (upd H2 s2.heap.objs.size (.lst [])) b:=λb U=>{by rw[zY (nD b U)];show (f2 b U).1,(f2 b U).2};let fz3:∀b∈fp,b<s3.heap.objs.size:=λb U=>by rw[hsz3];show EJ (fz b U)
 let I4:AA (Bk X (X.pn++pins) (own++cn) scope fp s3 (upd H2 s2.heap.objs.size (.lst []))) [] (List.replicate own.length none++cv.map some) (upd H2 s2.heap.objs.size (.lst [])) { s3 with heap:=h4,toks:=s3.toks+([]:List (Str×Value)).length }:=
  gE I3' S f3 fz3 rfl hc hv hl hns4 k34
 let st4:tn 0 h4:=T.keep _ _ _ st2 λb U o e=>k34 b o (k23 b o e);generalize hX:Bk X (X.pn++pins) (own++cn) scope fp s3 (upd H2 s2.heap.objs.size (.lst []))=X' at I4;let hg':PG X' target g:=by rw[<-hX];show hg _ _ _ _
 let ht':N9 X' ifs ti:=by rw[<-hX];show ht _ _ _ _
 let o4:PE X' elt te:=by rw[<-hX];show he _ _ _ _
 let ePr:X'.prog=X.prog:=by rw[<-hX];rfl
 let eW:X'.w=X.w:=by rw[<-hX];rfl
 let eK:X'.K=X.K:=by rw[<-hX];rfl
 let eA:X'.A=X.A:=by rw[<-hX];rfl
 let eE:X'.env=compEnvC scope (BO X.env.cells scope.names []) s3.heap.objs.size X.env:=by rw[<-hX];rfl
 let eXe:X'.xe=λ_ _=>False:=by rw[<-hX];rfl
 let eC:X'.calm=true:=by rwa[<-hX]
 let eex:X'.ex=fp:=by rw[<-hX];rfl
 let epn:X'.pn=X.pn++pins:=by rw[<-hX];rfl
 let es0:X'.s₀=s3:=by rw[<-hX];rfl
 let eH0:X'.H₀=upd H2 s2.heap.objs.size (.lst []):=by rw[<-hX];rfl
 let efs:X'.fs=A4 X.stack:=by rw[<-hX];rfl
 let ok':=I4.ok;let pN:∀{H':Hp},(∀b∈fp,H' b=none)->∀b∈fp,EC X' [] H' b:=λhn b U=>by
  let pL:b∈X'.ex:=by rwa[eex]
  show{hn b U,(ok'.exf b pL).1,ok'.exfs b pL,.inl pL,(ok'.exf b pL).2,λp hp=>?_};rw[epn,Bl] at hp;show (f2 b U).2.2.2.2.2 p hp
 let wk:∀(σ2:St),(σ2.length=own.length+cv.length/\σ2.drop own.length=cv.map some)->∀{pl:CT}{H':Hp}{s':Shared},AA X' pl σ2 H' s'->AA X' pl (List.replicate own.length none++cv.map some) H' s':=λσ2 hq pl H' s' I'=>by
  show I'.weak (by rw[hq.1,zT,C8,zB]) λi v hi=>?_;by_cases mr:i<own.length
  . rw[zi (by simpa using mr),List.getElem?_replicate] at hi;split at hi <;> cases hi
  . rw[zh (by simpa using mr),C8,<-hq.2,List.getElem?_drop] at hi;rwa[show own.length+(i-own.length)=i by lia] at hi
 let loop:codeAny (model X.prog X.w) X.A (.compLoop (.ListComp elt [⟨target,iter,ifs,0⟩] scope pos) 0 (.ref it) (.ref s2.heap.objs.size) (compEnvC scope (BO X.env.cells scope.names []) s3.heap.objs.size X.env))
  (compPost (model X.prog X.w) X.A X.xe use Q0 (.ref s2.heap.objs.size) s3.heap.objs.size) { s3 with heap:=h4,toks:=s3.toks+([]:List (Str×Value)).length }:=by
  show eZ (λn s'=>∃i ys H',AA X' [] (List.replicate own.length none++cv.map some) H' s'/\tn i s'.heap/\(∀b∈fp,H' b=none)/\W i n ys H') ?_ m0
   ⟨0,[],_,I4,st4,λb U=>(f3 b U).1,w0⟩
  rintro n s5 ⟨i,ys,H5,I5,st5,fr5,w5⟩;rcases turn i n ys H5 w5 with ⟨stop,qn⟩ | ⟨go,hsz,N,hN,step⟩
  . let d:=T.done X' ePr eW eK eC i [] s5 _ H5 (λ_ _=>False) I5 (pN fr5) st5 stop;rw[eA] at d;show AM d λr s6 ⟨hr,I6⟩=>?_;subst hr;let{m6,hn6,_}:=I6.loc;rw[eE] at hn6;let hn6':s6.heap.Ns s3.heap.objs.size m6:=hn6;let un6:Un (A4 X.stack) fp (upd H2 s2.heap.objs.size (.lst [])) H5 s3.heap s6.heap:=by let b6:=I6.base;rwa[efs,eex,eH0,es0] at b6
    let os6:s6.os=s3.os:=by let o6:=I6.os;rwa[es0] at o6
    let hok6:Al X.prog X.w H5 s6.heap:=by let o6:=I6.hok;rwa[ePr,eW] at o6
    let I7:AA X pins σ H5 s6:=I3'.call' (ch:=fp) os6 un6 hok6 I6.bare λb U=>{(f2 b U).2.2.2.1,(f2 b U).2.1,(f2 b U).2.2.2.2.1,(f2 b U).2.2.2.2.2};let fr6:H5 s3.heap.objs.size=none:=by let q:=I6.free;rwa[eE] at q
    show fin s2.heap.objs.size s3.heap.objs.size H5 s6 m6 I7 hn6' fr6 (Nat.ne_of_gt I3'.lt) I3'.sz (λx c e=>?_) (λp hp=>?_) qn
    . let{_,o,ho,_}:=I3'.cell x c e;show zb (zU ho)
    . show zb (zU (I3'.pin p hp).1)
  . let d:=T.item X' ePr eW eK eC i [] s5 _ H5 (λ_ _=>False) I5 (pN fr5) st5 go;rw[eA] at d;show AM d λr s6 ⟨u,hr,h6⟩=>?_;subst hr;show AM h6 λ_ s7 ⟨x,H7,I7,r7,y7,st7,fr7⟩=>?_;let I7':=I7.pinned (pN fr7) (T.obj _ _ st7);let g7:=hg' _ s7 _ H7 x u _ I7' r7 (step x H7 y7);rw[ePr,eW,eA,eE,eXe] at g7;show AM g7 λ_ s8 ⟨σ8,H8,I8,q8,ti8⟩=>?_;let t8:=ht' _ s8 σ8 H8 _ I8 ti8;rw[ePr,eW,eA,eE,eXe] at t8;show AM t8 λok s9 ⟨H9,I9,q9⟩=>?_;let again:∀{pI:List V}{H':Hp}{s':Shared},AA X' ([]++OG fp s7.heap) σ8 H' s'->N pI H' ->
     ∃m,m<n/\∃i ys H',AA X' [] (List.replicate own.length none++cv.map some) H' s'/\tn i s'.heap/\(∀b∈fp,H' b=none)/\W i m ys H':=λ{pI H' s'} I' n'=>by
     let{m',hm,w'}:=hN pI H' n';show{m',hm,i+1,pI,H',(wk σ8 q8 I').unpinned,T.keep _ _ _ st7 λb U o e=>(I'.pin (b,o) (DY _ (DY _ (Sl U e)))).1,λb U=>?_,w'};let{o,e,_}:=T.obj _ _ st7 b U;show (I'.pin (b,o) (DY _ (DY _ (Sl U e)))).2.1
    cases ok with
    | false=>show again I9 q9
    | true=>have e9:=o4 _ s9 σ8 H9 _ I9 q9;rw[ePr,eW,eA,eE,eXe] at e9;show AM e9 λu10 s10 ⟨y,H10,I10,r10,hD10,n10⟩=>?_;let a10:=Nh (X:=X') _ s10 σ8 H10 (.ref s2.heap.objs.size) [y] (.ref s2.heap.objs.size) [u10] (λ_ H'=>N (ys++[y]) H') I10 rfl (.cons r10 .nil) {_,5,hD10,hsz,n10};rw[ePr,eW,eA,eXe] at a10;show AM a10 λ_ s11 ⟨_,H11,I11,_,n11⟩=>again I11 n11
 show codeAny_compStart_list loop (T.self X.A 0 _ _ _ st4 loop)
def A3 (pG:X.calm=true)(S:Jn X scope)(hc:Ht X scope cn ci)(hl:cn.length=ci.length)
 (hi:PI X target iter wi)(hg:∀pl fp s3 H3,PG (Bk X pl (own++cn) scope fp s3 H3) target g)(ht:∀pl fp s3 H3,N9 (Bk X pl (own++cn) scope fp s3 H3) ifs ti)
 (he:∀pl fp s3 H3,PE (Bk X pl (own++cn) scope fp s3 H3) elt te)(hs:autoParam (∀x,foldedSetIterable iter X.env x=pure x) d_._auto_4):
 PE X (.ListComp elt [⟨target,iter,ifs,0⟩] scope pos) (Uw own.length ci wi g ti te):=by
 intro pins s σ H Q I h;rw[eval_ListComp];show bB pG S hc hl hi hg ht he hs I h λD C H5 J m6 I7 hn fr nL ge nC nP q=>{m6,hn,λh' U=>{.ref D,H5,I7.turned (t':=J.toks) (it:=C) (λb o hb e=>U.extBut b o hb e) fr nL (.inr ge) nC nP,0,q}}
def Hz (hN:X.N.Nodup)(hix:X.N[i]?=some x)(hx:Ig X.env.scope x)(pG:X.calm=true)(S:Jn X scope)(hc:Ht X scope cn ci)(hl:cn.length=ci.length)
 (hi:PI X target iter wi)(hg:∀pl fp s3 H3,PG (Bk X pl (own++cn) scope fp s3 H3) target g)(ht:∀pl fp s3 H3,N9 (Bk X pl (own++cn) scope fp s3 H3) ifs ti)
 (he:∀pl fp s3 H3,PE (Bk X pl (own++cn) scope fp s3 H3) elt te)(hs:autoParam (∀x,foldedSetIterable iter X.env x=pure x) d_._auto_4)
 (hsw:autoParam (swapsWith (.ListComp elt [⟨target,iter,ifs,0⟩] scope mw) (some (.Name x pos')) pos.line X.env=pure true) d_._auto_5)
 (hf:autoParam (X.fn x=true\/X.env.scope.names.lookup x=some .local) d_._auto_1):
 PS X (.Assign [.Name x pos'] (.ListComp elt [⟨target,iter,ifs,0⟩] scope mw) pos) (Hb (Uw own.length ci wi g ti te) (NO i)):=by
 intro pins s σ H D I h;rw[exec_Assign_Name_used _ _ _ _ hsw];show zA (wpAny_standAt (zA ?_));change wpAny _ X.A (do let _ <-comprehension (.ListComp elt [⟨target,iter,ifs,0⟩] scope mw) scope X.env _ (newList []) false (eval iter X.env) (some (assign (.Name x pos') X.env))) _ _ s
 show zA (BB (bB (use:=some (assign (.Name x pos') X.env)) (Q0:=λ_ J=>SP X pins D .next J) pG S hc hl hi hg ht he hs I h (λU C H5 s6 m6 I7 hn fr nL ge nC nP q=>?_)) (λ_ J hq=>zE (zE hq)) λ_ _ e=>e);let{oC,es,ep,hoC,hd,r1}:=hn;let nf:C∉X.fs:=λhb=>by let{_,o,ho,_}:=I7.ok.funs.mem hb;show absurd (zk (zU ho) ge) (GJ _)
 let I7':AA X (pins++[(C,oC)]) σ H5 s6:=I7.pins_of λp hp=>by
  rcases Bi.mp hp with z | z
  . show I7.pin p (DY _ z)
  . rw[zv.mp z];show{hoC,fr,nL,nf,λv e=>by rw[hd] at e;cases e}
 change wpAny _ X.A (assign (.Name x pos') X.env (.ref U)) _ _ s6;show wpAny_assign_Name (Oh I7' hN hix hx (show AR (.ref U) (.ref U) from rfl) (λJ I'=>?_) hf);let hC':=(I'.pin (C,oC) (DY _ (DY _ (zv.mpr rfl)))).1;show{m6,⟨oC,es,ep,hC',hd,r1⟩,λh' pj=>{_,H5,?_,q}};let I2:AA X pins (σ.set i (some (.ref U))) H5 J:=I'.pins_of λp hp=>I'.pin p (DY _ (List.mem_append_left _ hp));show I2.turned (t':=J.toks) (it:=C) (λb o hb e=>pj.extBut b o hb e) fr nL (.inr ge) nC nP
end
meta def Q7 (outer inner:Scope):Bool:=inner.names.all λy=>(y.2 != .cell) && (y.2 != .local || inner.names.lookup y.1==some .local) && (y.2 != .free || outer.names.lookup y.1==some .cell)
def Aq (C:scope.kind=.function)(h:Q7 X.env.scope scope=true):Jn X scope:=by
 let a:=Gf.mp h;show{C,λy o e=>?_,λy o e=>?_,λy o e=>?_}
 . let:=a y o;rw[e] at this;simp at this
 . let:=a y o;rw[e] at this;simpa using this
 . let:=a y o;rw[e] at this;let I:X.env.scope.names.lookup y.1=some .cell:=by simpa using this
   show I
def DN {l:List Str}(h:decide l.Nodup=true):l.Nodup:=of_decide_eq_true h
def CG:JQ (Bk X pl N' sc fp s3 H3) (NG X.K):=AS
def Ux:JQ (Bk X pl N' sc fp s3 H3) (MR X.K):=Ar
def NU (I:X.calm=true)(h:Qh (Bk X pl N' sc fp s3 H3) es t)
 (C:autoParam ((assignEach es (Bk X pl N' sc fp s3 H3).env).length=n) d_._auto_5)(o:autoParam ((assignEach es (Bk X pl N' sc fp s3 H3).env).findIdx? (·.1)=none) d_._auto_5):PG (Bk X pl N' sc fp s3 H3) (.Tuple es k pos) (P0 X.K n t):=EU I h C o
def Jp {K:AK}(Pv:Nat->List V->Hp->Prop)(h0:Pv 0 [] (upd H1 D (.lst [])))(hl:∀i ys H,Pv i ys H->AD K H a xs)(hz:∀i ys H,Pv i ys H->ys.length<sizeLine)
 (U:∀i x ys H,xs[i]?=some x->Pv i ys H->g x (List.replicate own none++cv.map some) H λo H2=>(o.length=own+cv.length/\o.drop own=cv.map some) /\
  ti o H2 λb H3=>if b=true then te o H3 λy I=>I D=some (.lst ys)/\Pv (i+1) (ys++[y]) (upd I D (.lst (ys++[y]))) else Pv (i+1) ys H3)
 (hd:∀ys H,Pv xs.length ys H->Q (.ref D) H):
 Nd (N5 K a) own cv g ti te D H1 Q:=by
 show{λi m ys H=>m=xs.length-i/\i<=xs.length/\Pv i ys H,{xs.length,0,zd _,h0},?_};rintro i m ys H ⟨rfl,hi,p⟩;let q:=hl i ys H p;by_cases C:i<xs.length
 . show .inr {{xs,xs[i],q,by simp[C]},hz i ys H p,Pv (i+1),λpI H' J=>{xs.length-(i+1),(),0,C,J},λx H' y=>?_};let{e,y}:=y;subst e;show U i x ys _ (y xs q) p
 . let e:i=xs.length:=()
   subst e;show .inl {{xs,q,zH _},hd ys H p}
def Bm {K:AK}(Pv:Nat->List V->Hp->Prop)(h0:Pv 0 [] (upd H1 D (.lst [])))(hl:∀i ys H,Pv i ys H->AB K H a xs)(hz:∀i ys H,Pv i ys H->ys.length<sizeLine)
 (U:∀i x ys H,xs[i]?=some x->Pv i ys H->g x (List.replicate own none++cv.map some) H λo H2=>(o.length=own+cv.length/\o.drop own=cv.map some) /\
  ti o H2 λb H3=>if b=true then te o H3 λy I=>I D=some (.lst ys)/\Pv (i+1) (ys++[y]) (upd I D (.lst (ys++[y]))) else Pv (i+1) ys H3)
 (hd:∀ys H,Pv xs.length ys H->Q (.ref D) H):
 Nd (N8 K a) own cv g ti te D H1 Q:=by
 show{λi m ys H=>m=xs.length-i/\i<=xs.length/\Pv i ys H,{xs.length,0,zd _,h0},?_};rintro i m ys H ⟨rfl,hi,p⟩;let q:=hl i ys H p;by_cases C:i<xs.length
 . show .inr {{xs,xs[i],q,by simp[C]},hz i ys H p,Pv (i+1),λpI H' J=>{xs.length-(i+1),(),0,C,J},λx H' y=>?_};let{e,y}:=y;subst e;show U i x ys _ (y xs q) p
 . let e:i=xs.length:=()
   subst e;show .inl {{xs,q,zH _},hd ys H p}
def Jx {lo:Int}(Pv:Nat->List V->Hp->Prop)(h0:Pv 0 [] (upd H1 D (.lst [])))(hz:∀i ys H,Pv i ys H->ys.length<sizeLine)
 (U:∀i ys H,i<n->Pv i ys H->g (.int (lo+i)) (List.replicate own none++cv.map some) H λo H2=>(o.length=own+cv.length/\o.drop own=cv.map some) /\
  ti o H2 λb H3=>if b=true then te o H3 λy I=>I D=some (.lst ys)/\Pv (i+1) (ys++[y]) (upd I D (.lst (ys++[y]))) else Pv (i+1) ys H3)
 (hd:∀ys H,Pv n ys H->Q (.ref D) H):
 Nd (Ii lo n) own cv g ti te D H1 Q:=by
 show{λi m ys H=>m=n-i/\i<=n/\Pv i ys H,{n,0,zd _,h0},?_};rintro i m ys H ⟨rfl,hi,p⟩;by_cases C:i<n
 . show .inr {C,hz i ys H p,Pv (i+1),λpI H' J=>{n-(i+1),(),0,C,J},λx H' y=>?_};let{e,y}:=y;subst e;subst y;show U i ys _ C p
 . let e:i=n:=()
   subst e;show .inl {zH _,hd ys H p}
end L2
namespace SortT
open PySem.W PyProof.Rows
meta def ev {α:Type}(lt:Nat->Nat->Bool):KasT α->α
 | .ret a=>a
 | .ask i j k=>ev lt (k (lt i j))
def Nr (lt:Nat->Nat->Bool)(f:α->KasT β):∀t:KasT α,ev lt (t.bind f)=ev lt (f (ev lt t))
 | .ret _=>rfl
 | .ask i j k=>Nr lt f (k (lt i j))
section
variable {O:KeyOrd}{key:Nat->O.α}
meta def kk (key:Nat->O.α)(p:Array Nat)(i:Nat):O.α:=key (p.getD i 0)
def Sr (key:Nat->O.α)(p:Array Nat)(n:Nat):Prop:=∀i j,i<=j->j<n->O.kle (kk key p i) (kk key p j)
def Fl (key:Nat->O.α)(p:Array Nat)(n:Nat):Prop:=∀i j,i<=j->j<n->O.kle (kk key p j) (kk key p i)
def Oz (h:p[i]?=q[j]?):kk key p i=kk key q j:=by unfold kk;rw[Array.getD_eq_getD_getElem?,Array.getD_eq_getD_getElem?,h]
def WG (C:j<=p.size)(k):kk key (kas_rev p i j) k=if i<=k/\k<j then kk key p (i+j-1-k) else kk key p k:=by
 let e:=getElem?_mirror_all (i:=i) C k;unfold kas_rev;by_cases o:i<=k/\k<j
 . rw[if_pos o] at e ⊢;show Oz e
 . rw[if_neg o] at e ⊢;show Oz e
def U7 (o:j<=p.size)(he:∀k,i<=k->k<j->kk key p k=kk key p (j-1))(k):kk key (kas_rev p i j) k=kk key p k:=by
 rw[WG o];split
 . rw[he _ () (),he k () ()]
 . rfl
def Yb (I:src<p.size)(hd:d<=src)(k):
 kk key (bubble p src d) k=if k=src-d then kk key p src else if src-d<k/\k<=src then kk key p (k-1) else kk key p k:=by
 let e:=getElem?_bubble I d hd k;by_cases C:k=src-d
 . rw[if_pos C] at e ⊢;show Oz e
 . rw[if_neg C] at e ⊢;by_cases o:src-d<k/\k<=src
   . rw[if_pos o] at e ⊢;show Oz e
   . rw[if_neg o] at e ⊢;show Oz e
meta def Bc (key:Nat->O.α)(i j:Nat):Bool:=O.blt (key i) (key j)
def F7 (p)(i j):(kas_rev p i j).Perm p:=mirror_perm _ _ _ _
def U8 (p)(i j):(kas_rev p i j).size=p.size:=(F7 p i j).size_eq
def Vd :∀f n,1<=n->Sr key p n->∃m,ev (Bc key) (kas_asc p f n)=m/\n<=m/\m<=n+f/\Sr key p m/\(m=n+f\/O.klt (kk key p m) (kk key p (m-1)))
 | 0,n,_,hs=>{n,0,zH _,zH _,hs,.inl rfl}
 | f+1,n,h1,hs=>by
  change ∃m,ev (Bc key) (if Bc key (p.getD n 0) (p.getD (n-1) 0)=true then KasT.ret n else kas_asc p f (n+1))=m/\_
  cases I:Bc key (p.getD n 0) (p.getD (n-1) 0) with
  | true=>show{n,by simp[ev],zH _,(),hs,.inr I}
  | false=>
   let U:Sr key p (n+1):=λi j nr hj=>by
    by_cases o:j<n
    . show hs i j nr o
    . let C:j=n:=()
      subst C;by_cases J:i=j
      . subst J;show KeyOrd.kle_refl _
      . show KeyOrd.kle_trans (hs i (j-1) () ()) I
   let{m,e,a,b,c,d}:=Vd f (n+1) () U;show{m,by simpa using e,(),(),c,?_};rcases d with d | d
   . show .inl ()
   . show .inr d
def Xw (I:1<=n)(U:n<=nrem)(hz:nrem<=p.size)(C:Fl key p n):
 ∃m q,ev (Bc key) (kas_tail3 n nrem p)=(m,q)/\q.Perm p/\1<=m/\m<=nrem/\Sr key q m:=by
 unfold kas_tail3;let o:Sr key (kas_rev p 0 n) n:=λi j J hj=>by rw[WG (),WG (),if_pos (),if_pos ()];show C _ _ () ()
 let{m,e,a,b,c,_}:=Vd (nrem-n) n I o;show{m,kas_rev p 0 n,by rw[Nr,e];rfl,F7 _ _ _,(),(),c}
def S8:∀f n q p,1<=n->n+f<=p.size->Fl key p n->q+1<=n->(∀i,n-(q+1)<=i->i<n->kk key p i=kk key p (n-1)) ->
 ∃C o I,ev (Bc key) (kas_desc f p n q)=(C,o,I)/\C.Perm p/\n<=o/\o<=n+f/\Fl key C o/\I+1<=o/\(∀i,o-(I+1)<=i->i<o->kk key C i=kk key C (o-1))
 | 0,n,q,p,_,_,hs,hq,he=>{p,n,q,0,.refl _,zH _,zH _,hs,hq,he}
 | f+1,n,q,p,h1,hz,hs,hq,he=>by
  change ∃C o I,ev (Bc key) (if Bc key (p.getD n 0) (p.getD (n-1) 0)=true then _ else KasT.ask _ _ _)=(C,o,I)/\_
  cases hl:Bc key (p.getD n 0) (p.getD (n-1) 0) with
  | true=>
   let step:∀xs:Array Nat,(∀k,kk key xs k=kk key p k)->Fl key xs (n+1):=λxs hk i j nr hj=>by
    rw[hk,hk];by_cases J:j<n
    . show hs i j nr J
    . let U:j=n:=()
      subst U;by_cases qR:i=j
      . subst qR;show KeyOrd.kle_refl _
      . show KeyOrd.kle_trans (KeyOrd.kle_of_klt hl) (hs i (j-1) () ())
   by_cases hq0:q > 0
   . let hk:=U7 (key:=key) (p:=p) (i:=n-(q+1)) (j:=n) () he;let{C,o,I,e,a,b,c,d}:=S8 f (n+1) 0 (kas_rev p (n-(q+1)) n) () (by rw[U8];lia) (step _ hk) () (λi h1 h2=>by congr 1;lia);show{C,o,I,by simpa [hq0] using e,a.trans (F7 _ _ _),(),(),d}
   . let{C,o,I,e,a,b,c,d}:=S8 f (n+1) 0 p () () (step _ λ_=>rfl) () (λi h1 h2=>by congr 1;lia);show{C,o,I,by simpa [hq0] using e,a,(),(),d}
  | false=>
   change ∃C o I,ev (Bc key) (if Bc key (p.getD (n-1) 0) (p.getD n 0)=true then KasT.ret (p,n,q) else kas_desc f p (n+1) (q+1))=(C,o,I)/\_
   cases hr:Bc key (p.getD (n-1) 0) (p.getD n 0) with
   | true=>show{p,n,q,by simp[ev],.refl _,zH _,(),hs,hq,he}
   | false=>
    let heq:kk key p n=kk key p (n-1):=KeyOrd.kle_antisymm hr hl;let pj:Fl key p (n+1):=λi j nr hj=>by
     by_cases J:j<n
     . show hs i j nr J
     . let U:j=n:=()
       subst U;by_cases qR:i=j
       . subst qR;show KeyOrd.kle_refl _
       . rw[heq];show hs i (j-1) () ()
    let{C,o,I,e,a,b,c,d}:=S8 f (n+1) (q+1) p () () pj () (λi h1 h2=>by
     rw[show n+1-1=n by lia];by_cases hix:i=n
     . subst hix;rfl
     . rw[heq];show he i () ())
    show{C,o,I,by simpa using e,a,(),(),d}
def YZ (hn:n+1<=nrem)(hz:nrem<=p.size)(hs:Fl key p (n+1)):
 ∃m q,ev (Bc key) (kas_descPart n nrem p)=(m,q)/\q.Perm p/\1<=m/\m<=nrem/\Sr key q m:=by
 unfold kas_descPart;rw[Nr];let{I,o,J,e,a,b,c,d,hq,he}:=S8 (nrem-(n+1)) (n+1) 0 p () () hs () (λi h1 h2=>by congr 1;lia);rw[e];dsimp only;let hz':I.size=p.size:=a.size_eq;by_cases C:J > 0
 . rw[if_pos C];let hk:=U7 (key:=key) (p:=I) (i:=o-(J+1)) (j:=o) () he;let{m,r,U,a2,b2,c2,d2}:=Xw (key:=key) (p:=kas_rev I (o-(J+1)) o) (n:=o) (nrem:=nrem) () () (by rw[U8];lia) (λi j nr hj=>by rw[hk,hk];show d i j nr hj);show{m,r,U,a2.trans ((F7 _ _ _).trans a),b2,c2,d2}
 . rw[if_neg C];let{m,r,U,a2,b2,c2,d2}:=Xw (key:=key) (p:=I) (n:=o) (nrem:=nrem) () () () d;show{m,r,U,a2.trans a,b2,c2,d2}
def g9 (h1:1<=nrem)(hz:nrem<=p.size):∃m q,ev (Bc key) (kas_count nrem p)=(m,q)/\q.Perm p/\1<=m/\m<=nrem/\Sr key q m:=by
 unfold kas_count;rw[Nr];let{n,e,a,b,o,hor}:=Vd (key:=key) (p:=p) (nrem-1) 1 (zH _) (λi j nr hj=>by let:i=j:=();subst this;show KeyOrd.kle_refl _);rw[e];by_cases C:n=nrem
 . rw[if_pos (by simpa using C)];show{n,p,0,.refl _,a,(),o}
 . rw[if_neg (by simpa using C)];let mr:O.klt (kk key p n) (kk key p (n-1)):=hor.resolve_left ();by_cases I:n > 1
   . rw[if_pos I];change ∃m q,ev (Bc key) (if Bc key (p.getD 0 0) (p.getD (n-1) 0)=true then KasT.ret (n,p) else kas_descPart n nrem (kas_rev p 0 n))=(m,q)/\_
     cases hr:Bc key (p.getD 0 0) (p.getD (n-1) 0) with
     | true=>show{n,p,by simp[ev],.refl _,a,(),o}
     | false=>
      let J:∀k,0<=k->k<n->kk key p k=kk key p (n-1):=λk _ U=>
       KeyOrd.kle_antisymm (o k (n-1) () ()) (KeyOrd.kle_trans hr (o 0 k () U))
      let U:=U7 (key:=key) (p:=p) (i:=0) (j:=n) () J;let{m,q,e2,a2,b2,c2,d2}:=YZ (key:=key) (p:=kas_rev p 0 n) (n:=n) (nrem:=nrem) () (by rw[U8];lia) (λi j nr hj=>by
       rw[U,U];by_cases hjn:j<n
       . rw[J i () (),J j () hjn];show KeyOrd.kle_refl _
       . let hj':j=n:=()
         subst hj';by_cases qR:i=j
         . subst qR;show KeyOrd.kle_refl _
         . rw[J i () ()];show KeyOrd.kle_of_klt mr)
      show{m,q,by simpa using e2,a2.trans (F7 _ _ _),b2,c2,d2}
   . rw[if_neg I];let qi:n=1:=()
     subst qi;show YZ () hz λi j nr hj=>?_;by_cases qR:i=j
     . subst qR;show KeyOrd.kle_refl _
     . let hi0:i=0:=()
       let hj1:j=1:=()
       subst hi0;subst hj1;show KeyOrd.kle_of_klt mr
def VD (I:Sr key p k):∀f l r,l<=r->r<=k->r-l<=f->(∀i,i<l->O.kle (kk key p i) (kk key p k))->(∀i,r<=i->i<k->O.klt (kk key p k) (kk key p i)) ->
 ∃m,ev (Bc key) (kas_place p k f l r)=m/\m<=k/\(∀i,i<m->O.kle (kk key p i) (kk key p k))/\(∀i,m<=i->i<k->O.klt (kk key p k) (kk key p i))
 | 0,l,r,hlr,hrk,hf,hlo,hhi=>{l,0,(),hlo,λi J C=>hhi i () C}
 | f+1,l,r,hlr,hrk,hf,hlo,hhi=>by
  unfold kas_place;by_cases o:l ≥ r
  . rw[if_pos o];show{l,0,(),hlo,λi J C=>hhi i () C}
  . rw[if_neg o];change ∃m,ev (Bc key) (if Bc key (p.getD k 0) (p.getD ((l+r)/2) 0)=true then kas_place p k f l ((l+r)/2) else kas_place p k f ((l+r)/2+1) r)=m/\_
    cases U:Bc key (p.getD k 0) (p.getD ((l+r)/2) 0) with
    | true=>let{m,e,x}:=VD I f l ((l+r)/2) () () () hlo (λi J C=>KeyOrd.klt_of_klt_of_kle U (I _ _ J C));show{m,by simpa using e,x}
    | false=>let{m,e,x}:=VD I f ((l+r)/2+1) r () () () (λi J=>KeyOrd.kle_trans (I i ((l+r)/2) () ()) (show O.kle _ _ from U)) hhi;show{m,by simpa using e,x}
def X3:∀f p k,k+f=p.size->Sr key p k->∃q,ev (Bc key) (kas_bin f p k)=q/\q.Perm p/\Sr key q (k+f)
 | 0,p,k,_,hs=>{p,0,.refl _,hs}
 | f+1,p,k,hz,hs=>by
  unfold kas_bin;rw[Nr];let{l,e,J,o,C}:=VD (key:=key) hs k 0 k () () () (λi h=>()) (λi h1 h2=>());rw[e];let I:Sr key (bubble p k (k-l)) (k+1):=λi j nr hj=>by
   rw[Yb () (),Yb () (),show k-(k-l)=l by lia]
   repeat' split
   all_goals first
    | (exfalso;lia)
    | show KeyOrd.kle_refl _
    | show o _ ()
    | show KeyOrd.kle_of_klt (C _ () ())
    | show hs _ _ () ()
  let{q,U,a,b}:=X3 f (bubble p k (k-l)) (k+1) (by rw[(bubble_perm p k (k-l)).size_eq];lia) I;show{q,U,a.trans (bubble_perm _ _ _),by rwa[show k+(f+1)=k+1+f by lia]}
def kU (n)(C:1<=n):∃q,ev (Bc key) (kas_sort n)=q/\q.Perm (List.range n).toArray/\Sr key q n:=by
 unfold kas_sort;rw[Nr];let o:(List.range n).toArray.size=n:=by simp
 let{m,q,e,a,b,c,d}:=g9 (key:=key) (p:=(List.range n).toArray) C ();rw[e];dsimp only;let U:q.size=n:=by rw[a.size_eq,o]
 by_cases hm:m<n
 . rw[if_pos hm];let{r,I,a2,J}:=X3 (key:=key) (n-max m 1) q (max m 1) () (by rwa[show max m 1=m by lia]);show{r,I,a2.trans a,by rwa[show max m 1+(n-max m 1)=n by lia] at J}
 . rw[if_neg hm];let:m=n:=()
   subst this;show{q,0,a,d}
end
def Bv {α:Type}(n:Nat)(R:α->Prop):KasT α->Prop
 | .ret a=>R a
 | .ask i j k=>i<n/\j<n/\∀b,Bv n R (k b)
def Bv.bind {R:α->Prop}(hf:∀a,R a->Bv n R' (f a)):∀t,Bv n R t->Bv n R' (t.bind f)
 | .ret a,h=>hf a h
 | .ask _ _ k,h=>{h.1,h.2.1,λb=>Bv.bind hf (k b) (h.2.2 b)}
def Bd (n:Nat)(p:Array Nat):Prop:=∀i,p.getD i 0<n
def Bd.perm (h:Bd n q)(C:p.Perm q):Bd n p:=λi=>by
 let h0:0<n:=Em (zd _) (h 0);by_cases hi:i<p.size
 . let e:p.getD i 0=p[i]:=by simp[Array.getD,hi]
   rw[e];let hm:p[i]∈q.toList:=(Array.perm_iff_toList_perm.mp C).mem_iff.mp (by simp);let{j,I,J}:=DA hm;let o:j<q.size:=by simpa using I
   let:=h j;rw[show q.getD j 0=q[j] by simp[Array.getD,o]] at this;rw[<-J];simpa using this
 . let e:p.getD i 0=0:=by simp[Array.getD,hi]
   rwa[e]
def Um (o:Bd n p):∀f m,Bv n (λ_=>True) (kas_asc p f m)
 | 0,_=>trivial
 | f+1,m=>{o _,o _,λb=>by
  cases b with
  | true=>show trivial
  | false=>show Um o f (m+1)}
def S6 :∀f p m q,Bd n p->Bv n (λr=>Bd n r.1) (kas_desc f p m q)
 | 0,_,_,_,hp=>hp
 | f+1,p,m,q,hp=>{hp _,hp _,λb=>by
  cases b with
  | true=>
   change Bv n _ (if q > 0 then kas_desc f (kas_rev p (m-(q+1)) m) (m+1) 0 else kas_desc f p (m+1) 0)
   split
   . show S6 f _ _ _ (hp.perm (F7 _ _ _))
   . show S6 f _ _ _ hp
  | false=>
   show{hp _,hp _,λd=>?_};cases d with
   | true=>show hp
   | false=>show S6 f _ _ _ hp}
def aD (o:Bd n p):Bv n (λr=>Bd n r.2) (kas_tail3 m nrem p):=by unfold kas_tail3;show Bv.bind (R:=λ_=>True) (R':=λr=>Bd n r.2) (f:=λk=>KasT.ret (k,kas_rev p 0 m)) (λa _=>o.perm (F7 p 0 m)) _ (Um (o.perm (F7 p 0 m)) _ _)
def Y9 (C:Bd n p):Bv n (λr=>Bd n r.2) (kas_descPart m nrem p):=
 Bv.bind (λr o=>by
  split
  . show aD (o.perm (F7 _ _ _))
  . show aD o) _ (S6 _ _ _ _ C)
def gg (o:Bd n p):Bv n (λr=>Bd n r.2) (kas_count nrem p):=
 Bv.bind (λr _=>by
  split
  . show o
  . split
    . show{o _,o _,λb=>?_};cases b with
      | true=>show o
      | false=>show Y9 (o.perm (F7 _ _ _))
    . show Y9 o) _ (Um o _ _)
def Vk (o:Bd n p):∀f l r,Bv n (λ_=>True) (kas_place p k f l r)
 | 0,_,_=>trivial
 | f+1,l,r=>by
  unfold kas_place;split
  . show trivial
  . show{o _,o _,λb=>?_};cases b with
    | true=>show Vk o f _ _
    | false=>show Vk o f _ _
def Zn :∀f p k,Bd n p->Bv n (λ_=>True) (kas_bin f p k)
 | 0,_,_,_=>trivial
 | f+1,p,k,hp=>Bv.bind (λl _=>Zn f _ _ (hp.perm (bubble_perm _ _ _))) _ (Vk hp _ _ _)
def j6 (h:0<n):Bv n (λ_=>True) (kas_sort n):=
 Bv.bind (λr o=>by
  split
  . show Zn _ _ _ o
  . show trivial) _ (gg λi=>by
    by_cases hi:i<n
    . simp[Array.getD,hi]
    . simp[Array.getD,hi];show h)
end SortT
namespace SortT
open PySem PySem.W PySem.Calls PyProof.Rows
def Io (o:∀i j C,i<n->j<n->C (lt i j) s->cmp i j C s):
 ∀t:KasT α,Bv n R t->Q (ev lt t) s->t.kasWp cmp Q s
 | .ret _,_,h=>h
 | .ask i j k,w,h=>o i j _ w.1 w.2.1 (Io o (k (lt i j)) (w.2.2 _) h)
structure Put {O:KeyOrd}(key:Nat->O.α)(n:Nat)(out:List Nat):Prop where
 perm:out.Perm (List.range n)
 rise:∀(i j a b:Nat),i<=j->out[i]?=some a->out[j]?=some b->O.kle (key a) (key b)
def LQ {O:KeyOrd}{key:Nat->O.α}{n:Nat}{q:Array Nat}(C:q.Perm (List.range n).toArray)(hs:Sr key q n):Put key n q.toList:=by
 let hl:q.toList.Perm (List.range n):=Array.perm_iff_toList_perm.mp C;show{hl,λi j a b J ha I=>?_};let U:q.size=n:=by let:=C.size_eq;simpa using this
 let hj:j<q.toList.length:=(zF.mp I).1;let o:j<n:=by rw[<-U];simpa using hj
 let h:=hs i j J o;let ga:q.getD i 0=a:=by rw[Array.getD_eq_getD_getElem?,<-Array.getElem?_toList,ha];rfl
 let gb:q.getD j 0=b:=by rw[Array.getD_eq_getD_getElem?,<-Array.getElem?_toList,I];rfl
 unfold kk at h;rwa[ga,gb] at h
structure Asks (prog:Program)(w:World)(A:Around)(s:Shared)(a:Addr)(vs:List Value){O:KeyOrd}(key:Nat->O.α)(κ:SortKind):Prop where
 kind:∀(h':Heap)(Q:SortKind->Shared->Prop)(E:Bt),(∀b o,b≠a->s.heap.get? b=some o->h'.get? b=some o)->Q κ { s with heap:=h' }->wpAny (model prog w) A (keyKind' vs.toArray) Q E { s with heap:=h' }
 less:∀(h':Heap)(i j:Nat)(Q:Bool->Shared->Prop)(E:Bt),(∀b o,b≠a->s.heap.get? b=some o->h'.get? b=some o)->i<vs.length->j<vs.length->Q (O.blt (key i) (key j)) { s with heap:=h' } ->
  wpAny (model prog w) A (keyLt' κ (vs.getD i Value.none) (vs.getD j Value.none)) Q E { s with heap:=h' }
def list_sort {a:Addr}{vs:List Value}{n:Nat}{P:PySem.Fin->Shared->Prop}{O:KeyOrd}{key:Nat->O.α}{κ:SortKind}(ho:s.heap.get? a=some (seqObj "list" vs.toArray n)) (h64:vs.length<64)
 (ask:2<=vs.length->Asks prog w A s a vs key κ)
 (h:∀out:List Nat,Put key vs.length out->P (.done (.ret .none)) { s with heap:=sortedHeap s.heap a vs (out.map λi=>vs.getD i Value.none).toArray }):
 wpAny (model prog w) A (Builtin.«list.sort» {[.ref a],[]}) P E s:=by
 rw[list_sort_plain];let ha:a<s.heap.objs.size:=zU ho;show zA (listItems_at ho rfl ?_);show zA (listUpdate_at ho rfl ?_ (by rw[zc,sizeLine_eq];lia) (zd _));obtain⟨e1,ho1⟩:∃e1,(s.heap.update a (Obj.mapSeq λ_=>#[])).get? a=some (seqObj "list" #[] e1):={_,get?_update_seq ho (λ_=>#[])};show zA (seqEpoch_at ho1 rfl ?_);show zA (wpAny_newTuple ?_ (by change vs.length<=_;rw[sizeLine_eq];lia));show zA (wpAny_newList ?_ (zd _));show zy ?_;let J:(((s.heap.update a (Obj.mapSeq λ_=>#[])).push (seqObj "tuple" vs.toArray 0)).push (seqObj "list" #[] 0)).get? a=some (seqObj "list" #[] e1):=by rw[Heap.get?_push_ne _ _ _ (by rw[size_push',Heap.size_update];show zb (EJ ha)),Heap.get?_push_ne _ _ _ (by rw[Heap.size_update];show zb ha)];show ho1
 let keep:∀b o,b≠a->s.heap.get? b=some o->(((s.heap.update a (Obj.mapSeq λ_=>#[])).push (seqObj "tuple" vs.toArray 0)).push (seqObj "list" #[] 0)).get? b=some o:=λb o hb e=>by show zG _ (zG _ ?_);rwa[Heap.get?_update_ne _ _ _ _ hb]
 change wpAny (model prog w) A _ P E { s with heap:=((s.heap.update a (Obj.mapSeq λ_=>#[])).push (seqObj "tuple" vs.toArray 0)).push (seqObj "list" #[] 0) };dsimp only;by_cases U:vs.toArray.size<2
 . rw[if_pos U,if_pos U];show zA (zE ?_);rw[StateT.run_pure];show zA (zE ?_);dsimp only;show zA (seqEpoch_at J rfl ?_);show zA (listUpdate_at J rfl ?_ (zd _) (by rw[Array.size_map];change (pairsOf vs).size<=_;rw[pairsOf_size,sizeLine_eq];lia));simp only[bne_self_eq_false,Jt,if_false];show zE ?_;let hlen:vs.length<2:=by simpa using U
   let I:(arrOf (SortSt.mk' general' (vs.toArray.zip vs.toArray) #[] 7 none)).map (·.2)=((List.range vs.length).map λi=>vs.getD i Value.none).toArray:=by
    change (vs.toArray.zip vs.toArray).map (·.2)=_
    match vs,hlen with
    | [],_=>simp
    | [v],_=>simp
    | _::_::_,h=>exfalso;simp only[zm] at h;lia
   let fin:=h (List.range vs.length) {.refl _,λi j x y nr hx hy=>by
    let hj:j<(List.range vs.length).length:=(zF.mp hy).1;rw[Dr] at hj;let e:i=j:=()
    subst e;rw[hx] at hy;cases hy;show KeyOrd.kle_refl _}
   rwa[<-I] at fin
 . rw[if_neg U,if_neg U];let h2':2<=vs.length:=by
    let:¬ vs.length<2:=by simpa using U
    lia
   let K:=ask h2';show zA (K.kind _ _ _ keep ?_);let{q,eq,hp,hs}:=kU (key:=key) vs.length ();let run:(kas_sort vs.length).kasWp (kas_ask prog w A κ vs) (λp s'=>p=q/\s'={ s with heap:=((s.heap.update a (Obj.mapSeq λ_=>#[])).push (seqObj "tuple" vs.toArray 0)).push (seqObj "list" #[] 0) })
    { s with heap:=((s.heap.update a (Obj.mapSeq λ_=>#[])).push (seqObj "tuple" vs.toArray 0)).push (seqObj "list" #[] 0) }:=
    Io (lt:=Bc key) (n:=vs.length) (λi j C hi hj hC=>K.less _ i j C _ keep hi hj hC) _ (j6 ()) {eq,0}
   show zA (BB (kat_run (ks:=vs) (vs:=vs) (Q:=λoB s'=>∃p:Array Nat,p.size=vs.length/\arrOf oB=p.map (kas_item (vs.toArray.zip vs.toArray))/\failedOf oB=none/\p=q/\s'={ s with heap:=((s.heap.update a (Obj.mapSeq λ_=>#[])).push (seqObj "tuple" vs.toArray 0)).push (seqObj "list" #[] 0) })
    rfl h2' h64 (λp' oB s' a1 a2 a3 a4=>⟨p',a1,a2,a3,a4⟩) run) ?_ λ_ _ e=>e)
   rintro ⟨⟨⟩,oB⟩ s' ⟨p,hsz,har,hf,rfl,rfl⟩;dsimp only;show zA (seqEpoch_at J rfl ?_);show zA (listUpdate_at J rfl ?_ (zd _) (by rw[Array.size_map,har,Array.size_map,hsz,sizeLine_eq];lia));rw[hf];simp only[bne_self_eq_false,Jt,if_false];show zE ?_;let I:=kat_snds (ks:=vs) (vs:=vs) rfl har;let fin:=h p.toList (LQ hp hs);rwa[<-I] at fin
def sorted_list {l:Addr}{vs:List Value}{Q:Bt}{O:KeyOrd}{key:Nat->O.α}{κ:SortKind}(hl:s.heap.IsList l vs.toArray)(J:vs.length<64)
 (ask:2<=vs.length->∀(s':Shared)(a:Addr),(∀b o,s.heap.get? b=some o->b≠a)->(∀b o,s.heap.get? b=some o->s'.heap.get? b=some o)->Asks prog w A.in1.in1 s' a vs key κ)
 (h:∀(D:Addr)(h':Heap)(out:List Nat)(c:Nat),Put key vs.length out->s.heap.objs.size<=D->(∀b o,s.heap.get? b=some o->h'.get? b=some o) ->
  h'.get? D=some (seqObj "list" (out.map λi=>vs.getD i Value.none).toArray c)->Q (.ref D) { s with heap:=h' }):
 wpAny (model prog w) A (call (.builtin "sorted") [.ref l]) Q E s:=by
 show Calls.call_function_entry kind_sorted plain_sorted entry_sorted (args_sorted1 _) ?_;unfold Builtin.«sorted»;show zA (m:=checkCount "sorted" 1 1 _) (zE ?_);show zA (collect_list hl ?_ (by rw[sizeLine_eq];lia));show zA (wpAny_newList ?_ (by rw[sizeLine_eq];lia));let C:((s.heap.push (seqObj "list" #[] 0)).update s.heap.objs.size (Obj.mapSeq (· ++ vs.toArray))).objs.size=s.heap.objs.size+1:=by rw[Heap.size_update,size_push']
 let U:(((s.heap.push (seqObj "list" #[] 0)).update s.heap.objs.size (Obj.mapSeq (· ++ vs.toArray))).push (seqObj "list" vs.toArray 0)).get? (s.heap.objs.size+1)=some (seqObj "list" vs.toArray 0):=by rw[<-C];show zM _ rfl
 let keep:∀b o,s.heap.get? b=some o->(((s.heap.push (seqObj "list" #[] 0)).update s.heap.objs.size (Obj.mapSeq (· ++ vs.toArray))).push (seqObj "list" vs.toArray 0)).get? b=some o:=λb o q=>by let I:b<s.heap.objs.size:=zU q;rw[Heap.get?_push_ne _ _ _ (by rw[C];show zb (EJ I)),Heap.get?_update_ne _ _ _ _ (zb I),Heap.get?_push_ne _ _ _ (zb I)];show q
 change wpAny _ _ _ _ _ { s with heap:=((s.heap.push (seqObj "list" #[] 0)).update s.heap.objs.size (Obj.mapSeq (· ++ vs.toArray))).push (seqObj "list" vs.toArray 0) };rw[C];show zA (zy (Cq slot_list_sort {_,U,0} entry_list_sort (list_sort (O:=O) (key:=key) (κ:=κ) U J (λh2=>ask h2 _ _ (λb o e=>zb (EJ (zU e))) keep) λout hp=>{1,?_}) (args_list_sort _)));show zE {1,?_};let{c,hc}:=sortedAll_at s.heap vs (out.map λi=>vs.getD i Value.none).toArray;show h _ _ out c hp (Ci _) (λb o e=>sortedAll_old e) hc
end SortT
namespace DRaw
open PySem PySem.W PySem.Calls PyProof.Rows
def At (h:Heap)(d:Addr)(es:Array DictEntry)(ep:Nat):Prop:=∃o,h.get? d=some o/\o.ExactDict/\o.data=.dict es ep
def At.keep (x:At h d es ep)(k:∀o,h.get? d=some o->h'.get? d=some o):At h' d es ep:=
 let ⟨o,C,r⟩:=x;{o,k o C,r}
def At.lt (x:At h d es ep):d<h.objs.size:=let {_,o,_}:=x;zU o
def At.typeIs {s:Shared}(x:At s.heap d es ep):s.TypeIs (.ref d) "dict" := let {o,C,I,_}:=x;⟨o,C,I.1⟩
def iter (hd:(d==sysModules)=false)(hm:At s.heap d es ep)
 (U:Q (.ref s.heap.objs.size) { s with heap:=s.heap.push { cls:=.type "dict_keyiterator",data:=.fields #[.ref d,.int 0 0,.int es.size 0,.int ep 0] } }):
 wpAny (model prog w) A (pyIter (.ref d)) Q E s:=by
 let{o,J,hc,I}:=id hm;let C:=hm.typeIs;show wpAny_pyIter_slot C F.slot_dict_iter (Cq F.slot_dict_iter C F.entry_dict_iter ?_ (F.args_dict_iter_1 _));unfold Builtin.«dict.__iter__»;show zA ?_;unfold Builtin.Dict.dictSlotNone;show zA (wpAny_notOrdered_dict C ?_);change wpAny _ _ (pure (Value.ref d)) _ _ s;show zE ?_;change wpAny _ _ (Builtin.Dict.showsAll d >>= _) _ _ s;unfold Builtin.Dict.showsAll;rw[if_neg (by rw[hd];show zf)];show zA (zE ?_);show zA (wpAny_dictEntries J I ?_);show zA (wpAny_dictEpoch J I ?_);show zA (DW (zE {1, "dict_keyiterator",_,{_,zM _ rfl,0},F.slot_dict_keyiterator_next.lookup,?_}));simpa [rawInt] using U
def next (hit:s.heap.IsKeyIter it d i es.size ep)(hm:At s.heap d es ep)(J:i<es.size)
 (hQ:∀h',h'.IsKeyIter it d (i+1) es.size ep->Heap.SameBut it s.heap h'->Q (some es[i].key) { s with heap:=h' }):wpAny (model prog w) A (pyNext (.ref it)) Q E s:=by
 let{o,U,hc,hd}:=id hit;let{od,I,pF,pZ}:=id hm;unfold pyNext;show zA (Fo (F3 (name:=Str.ofString "__next__") hit.typeIs F.slot_dict_keyiterator_next
  (Cq F.slot_dict_keyiterator_next hit.typeIs F.entry_dict_keyiterator_next ?_ (F.args_dict_keyiterator_next_1 _))))
 show zA (zE ?_);show zA ?_;show zA ?_
 first | show zA (SV hit.typeIs (zE ?_)) | show zA (wpAny_typeNameOf_keyiter hit.typeIs (zE ?_))
 show zA (wpAny_fieldsOf U hd ?_);let C:Builtin.Dict_items.ownsTuple "dict_keyiterator"=false:=by decide
 simp only[C,Jt,if_false];change wpAny _ _ (if (Value.ref d==Value.none)=true then _ else _) _ _ s
 rw[if_neg (show ¬ ((Value.ref d==Value.none)=true) from zf)];show zA (zE ?_);show zA (wpAny_dictEntries I pZ ?_);rw[if_neg (by simp)];show zA (zE ?_);show zA (wpAny_dictEpoch I pZ ?_);rw[if_neg (by simp)];show zE ?_;simp only[show ¬ ((i:Int)<0) from by lia,if_false,Bz,Array.getElem?_eq_getElem J];show zA ?_
 first | show zA (SV hit.typeIs (zE ?_)) | show zA (wpAny_typeNameOf_keyiter hit.typeIs (zE ?_))
 show zA (wpAny_isOneOf_keyiter hit.typeIs ?_);change wpAny _ _ (setField (.ref it) 1 (rawInt ((i:Int)+1)) >>= _) _ _ s;show zA (Fs U hd (by simp) ?_);let nQ:(s.heap.update it (Obj.mapFields (·.setIfInBounds 1 (rawInt ((i:Int)+1))))).IsKeyIter it d (i+1) es.size ep:=
  {_,Ce _ U (Obj.isFreed_of_fields (Obj.data_mapFields hd _)),(Obj.cls_mapFields ..).trans hc,by rw[Obj.data_mapFields hd];simp[rawInt]}
 show zA (zy ?_);show zA (wpAny_isOneOf_keyiter (s:={ s with heap:=s.heap.update it (Obj.mapFields (·.setIfInBounds 1 (rawInt ((i:Int)+1)))) }) nQ.typeIs ?_);change wpAny _ _ (pure es[i].key) _ _ _;show zE (zE {1,zE (hQ _ nQ (EH ..))})
def stop (hh:A.handled=none)(hit:s.heap.IsKeyIter it d i es.size ep)(hm:At s.heap d es ep)(J:es.size<=i)
 (hQ:∀h',Heap.ExtBut it s.heap h'->Q none { s with heap:=h' }):wpAny (model prog w) A (pyNext (.ref it)) Q E s:=by
 let{o,ho,hc,hd}:=id hit;let{od,I,pF,U}:=id hm;unfold pyNext;show zA (Fo (F3 (name:=Str.ofString "__next__") hit.typeIs F.slot_dict_keyiterator_next
  (Cq F.slot_dict_keyiterator_next hit.typeIs F.entry_dict_keyiterator_next ?_ (F.args_dict_keyiterator_next_1 _))))
 show zA (zE ?_);show zA ?_;show zA ?_
 first | show zA (SV hit.typeIs (zE ?_)) | show zA (wpAny_typeNameOf_keyiter hit.typeIs (zE ?_))
 show zA (wpAny_fieldsOf ho hd ?_);let C:Builtin.Dict_items.ownsTuple "dict_keyiterator"=false:=by decide
 simp only[C,Jt,if_false];change wpAny _ _ (if (Value.ref d==Value.none)=true then _ else _) _ _ s
 rw[if_neg (show ¬ ((Value.ref d==Value.none)=true) from zf)];show zA (zE ?_);show zA (wpAny_dictEntries I U ?_);rw[if_neg (by simp)];show zA (zE ?_);show zA (wpAny_dictEpoch I U ?_);rw[if_neg (by simp)];show zE ?_;simp only[show ¬ ((i:Int)<0) from by lia,if_false,Bz,Array.getElem?_eq_none J];show zA ?_
 first | show zA (SV hit.typeIs (zE ?_)) | show zA (wpAny_typeNameOf_keyiter hit.typeIs (zE ?_))
 change wpAny _ _ (setField (.ref it) 0 .none >>= _) _ _ s;show zA (Fs ho hd (by simp) ?_);change wpAny _ _ (newExc (.type "StopIteration") [] >>= _) _ _ _;show zA ?_;simp only[newExc,newTuple];show zA (DW ?_ (by size_fits));show zA (m:=firstArgMember _ _) (wpAny_of_eq (a:=Value.none) (by first | rfl | (simp only[firstArgMember];rfl)) ?_);show DW ?_ (by size_fits);simp only[raiseNew];show zA (wpAny_handled ?_);rw[show A.in1.handled=none from hh];show zA (zE (wpAny_throw ?_));show zA (DV (T := "StopIteration") (b:=true) {_,zM _ rfl,0} isSubtype_stop ?_);show zE (hQ _ (((EH ..).extBut.push _).push _))
def PZ (hh:A.handled=none)(I:Addr)(nG:d≠I):Walks prog w A I [I,d] [I] es.size (λi v=>∃e,es[i]?=some e/\v=e.key) (λi h=>h.IsKeyIter I d i es.size ep/\At h d es ep) where
 sub:=λb C=>by simp at C;simp[C]
 frame:=λ_ _ _ st hk=>{st.1.at λo e=>hk I (by simp) o e,st.2.keep λo e=>hk d (by simp) o e}
 item:=λi s Q E hi st J=>next st.1 st.2 hi λh' nQ U=>
  J _ h' s.toks {es[i],by simp[hi],0} {nQ,st.2.keep λo e=>U.extBut d o nG e} λb o C e=>U.extBut b o (λh=>C (by simp[h])) e
 done:=λs Q E st J=>stop hh st.1 st.2 (zH _) λh' o4=>J h' s.toks λb o C e=>o4 b o (λh=>C (by simp[h])) e
 self:=λ_ _ _ _ st J=>wpAny_pyIter_keyiter st.1 J
def src (lo:(d==sysModules)=false):KdlSrc prog w "dict" d d es.size (λi v=>∃e,es[i]?=some e/\v=e.key) (λh=>At h d es ep) where
 type:=λ_ hm=>hm.typeIs
 there:=λ_ hm=>⟨hm.lt,hm.lt⟩
 keep:=λ_ _ hm I=>hm.keep λo e=>I d (.inl rfl) o e
 notList:=by decide
 notTuple:=by decide
 hint:=λ_ _ _ _ hm C=>kdl_hint_dict hm.typeIs C
 iter:=λ_ _ J hm=>{3,(λ_ _ C=>iter lo hm C),PZ J _ (zb hm.lt),{{_,zM _ rfl,2},hm.keep λo e=>zG _ e}}
end DRaw
namespace SortT
open PySem PySem.W PySem.Calls PyProof.Rows
def sorted_dict {prog:Program}{w:World}{A:Around}{E:Bt}{s:Shared}{d:Addr}{es:Array DictEntry}{ep:Nat}{vs:List Value}{Q:Bt}{O:KeyOrd}{key:Nat->O.α}{κ:SortKind}
 (hh:A.handled=none)(lo:(d==sysModules)=false)(hm:DRaw.At s.heap d es ep)(I:vs=es.toList.map (·.key))(h64:vs.length<64)
 (ask:2<=vs.length->∀(s':Shared)(a:Addr),(∀b o,s.heap.get? b=some o->b≠a)->(∀b o,s.heap.get? b=some o->s'.heap.get? b=some o)->Asks prog w A.in1.in1 s' a vs key κ)
 (h:∀(h1:Heap)(D:Addr)(h':Heap)(t':Nat)(out:List Nat)(c:Nat),Put key vs.length out->(∀b o,s.heap.get? b=some o->h1.get? b=some o)->h1.objs.size<=D->(∀b o,h1.get? b=some o->h'.get? b=some o) ->
  h'.get? D=some (seqObj "list" (out.map λi=>vs.getD i Value.none).toArray c)->Q (.ref D) { s with heap:=h',toks:=t' }):
 wpAny (model prog w) A (call (.builtin "sorted") [.ref d]) Q E s:=by
 let hlen:vs.length=es.size:=by rw[I];simp
 show call_function_entry kind_sorted plain_sorted entry_sorted (args_sorted1 _) ?_;unfold Builtin.«sorted»;show zA (m:=checkCount "sorted" 1 1 _) (zE ?_);show zA (kdu_collect (A:=A.in1) (DRaw.src (es:=es) (ep:=ep) lo) hh hm (by rw[sizeLine_eq];lia) λh1 tk acc hk U=>?_);let el:acc.toList=vs:=by
  apply List.ext_getElem?;intro j;by_cases hj:j<es.size
  . let hz:j<acc.size:=by rwa[U.1]
    let{e,he,hv}:=U.2 j acc[j] (by simp[hz]);rw[Array.getElem?_toList,Array.getElem?_eq_getElem hz,hv,I,zO,Array.getElem?_toList,he];rfl
  . rw[Ck (by rw[Array.length_toList,U.1];lia),Ck ()]
 rw[el];show zA (wpAny_newList ?_ (by rw[sizeLine_eq];lia));let J:(h1.push (seqObj "list" vs.toArray 0)).get? h1.objs.size=some (seqObj "list" vs.toArray 0):=zM _ rfl;let C:∀b o,h1.get? b=some o->(h1.push (seqObj "list" vs.toArray 0)).get? b=some o:=λb o q=>zG _ q;show zA (zy (Cq slot_list_sort {_,J,0} entry_list_sort (list_sort (O:=O) (key:=key) (κ:=κ) J h64
  (λh2=>ask h2 _ _ (λb o e=>zb (zU (hk b o e))) λb o e=>C b o (hk b o e)) λout hp=>{1,?_}) (args_list_sort _)))
 show zE {1,?_};let{c,hc}:=sortedHeap_at (vs:=vs) (out:=(out.map λi=>vs.getD i Value.none).toArray) J;show h h1 _ _ _ out c hp hk (zH _) (λb o e=>?_) hc;let hb:b<h1.objs.size:=zU e;rw[sortedHeap_old (zb hb) (by rw[Co];show EJ hb)];show C b o e
end SortT
namespace L2
open PySem PySem.Spec PyProof.Rows
def YN:∀a:List Int,HT.lexLt a a=false
 | []=>rfl
 | x::r=>by rw[HT.lexLt_cons,if_pos rfl];show YN r
def Us:∀a b c:List Int,HT.lexLt a b=true->HT.lexLt b c=true->HT.lexLt a c=true
 | [],[],_,h,_=>by cases h
 | [],_::_,[],_,h=>by cases h
 | [],_::_,_::_,_,_=>rfl
 | _::_,[],_,h,_=>by cases h
 | _::_,_::_,[],_,h=>by cases h
 | x::a,y::b,z::c,h1,h2=>by
  rw[HT.lexLt_cons] at h1 h2 ⊢;by_cases C:x=y
  . subst C;rw[if_pos rfl] at h1;by_cases o:x=z
    . subst o;rw[if_pos rfl] at h2 ⊢;show Us a b c h1 h2
    . rw[if_neg o] at h2 ⊢;show h2
  . rw[if_neg C] at h1;let J:x<y:=of_decide_eq_true h1;by_cases o:y=z
    . subst o;rwa[if_neg C]
    . rw[if_neg o] at h2;let I:y<z:=of_decide_eq_true h2;rw[if_neg ()];show zX ()
def Vv:∀a b:List Int,HT.lexLt a b=false->HT.lexLt b a=false->a=b
 | [],[],_,_=>rfl
 | [],_::_,h,_=>by cases h
 | _::_,[],_,h=>by cases h
 | x::a,y::b,h1,h2=>by
  rw[HT.lexLt_cons] at h1 h2;by_cases e:x=y
  . subst e;rw[if_pos rfl] at h1 h2;rw[Vv a b h1 h2]
  . rw[if_neg e] at h1;rw[if_neg (Ne.symm e)] at h2;let C:=of_decide_eq_false h1;let o:=of_decide_eq_false h2
    lia
def i6 (a b c)(h:HT.lexLt a c=true):HT.lexLt a b=true\/HT.lexLt b c=true:=by
 cases C:HT.lexLt a b with
 | true=>show .inl rfl
 | false=>
  cases o:HT.lexLt b a with
  | true=>show .inr (Us b a c o h)
  | false=>rw[<-Vv a b C o];show .inr h
meta def Gw:KeyOrd:={List Int,HT.lexLt,YN,Us,i6,Vv}
def Du (ms:List (List Int)):Prop:=ms.Pairwise λa b=>HT.lexLt b a=false
def Am (H:Hp):List V->List (List Int)->Prop
 | [],[]=>True
 | x::xs,k::ks=>(∃a,x=.ref a/\H a=some (.tup (k.map V.int))/\k≠[])/\Am H xs ks
 | _,_=>False
def Am.length :∀{xs:List V}{ks:List (List Int)},Am H xs ks->xs.length=ks.length
 | [],[],_=>rfl
 | [],_::_,h=>h.elim
 | _::_,[],h=>h.elim
 | _::_,_::_,h=>by rw[zm,zm,Am.length h.2]
def Am.get :∀{xs:List V}{ks:List (List Int)}{i:Nat}{x:V},Am H xs ks->xs[i]?=some x->∃a k,x=.ref a/\ks[i]?=some k/\H a=some (.tup (k.map V.int))/\k≠[]
 | [],_,_,_,_,h=>by simp at h
 | _::_,[],_,_,h,_=>h.elim
 | y::_,k::_,0,x,h,e=>by
  let{{a,I,C,o},_}:=h;let J:y=x:=by simpa using e
  subst J;show{a,k,I,0,C,o}
 | _::_,_::_,i+1,x,h,e=>by let{a,k,I,C,o}:=Am.get (i:=i) h.2 (by simpa using e);show{a,k,I,by simpa using C,o}
def Am.mk :∀{xs:List V}{ks:List (List Int)},xs.length=ks.length->(∀(i:Nat)x(k:List Int),xs[i]?=some x->ks[i]?=some k->∃a,x=V.ref a/\H a=some (.tup (k.map V.int))/\k≠[])->Am H xs ks
 | [],[],_,_=>trivial
 | [],_::_,e,_=>by simp at e
 | _::_,[],e,_=>by simp at e
 | x::xs,k::ks,e,h=>{h 0 x k rfl rfl,Am.mk (by simpa using e) λi o C J I=>h (i+1) o C (by simpa using J) (by simpa using I)}
def Am.keep (h:Am H xs ks)(k:∀b ys,H b=some (.tup ys)->H' b=some (.tup ys)):Am H' xs ks:=
 Am.mk h.length λi x c I C=>by let{a,c',e1,o,U,J}:=h.get I;rw[C] at o;cases o;show{a,e1,k a _ U,J}
def Am.snoc :∀{xs:List V}{ks:List (List Int)}{x:V}{k:List Int},Am H xs ks->(∃a,x=.ref a/\H a=some (.tup (k.map V.int))/\k≠[])->Am H (xs++[x]) (ks++[k])
 | [],[],_,_,_,h=>⟨h,trivial⟩
 | [],_::_,_,_,t,_=>t.elim
 | _::_,[],_,_,t,_=>t.elim
 | _::_,_::_,_,_,t,h=>{t.1,Am.snoc t.2 h}
def aF :∀ns ms us ws i,IntsAre us ns->IntsAre ws ms->fin=decide (ns.length<ms.length)->Q (HT.lexLt ns ms) s ->
 PySem.W.KatLex prog w A true fin Q (us.zip ws) i s:=by
 intro ns;induction ns with
 | nil=>
  intro ms us ws i a b e q;cases a;cases b with
  | nil=>subst e;show q
  | cons=>subst e;show q
 | cons n ns o=>
  intro ms us ws i a b e q;cases a with | cons _ t hu=>
  cases ms with
  | nil=>cases b;subst e;show q
  | cons m ms=>
   cases b with | cons _ u hw=>
   rw[HT.lexLt_cons] at q;show PySem.W.kat_cons (wpAny_eqBool_int ?_);by_cases h:n=m
   . rw[if_pos h] at q;rw[show (n==m)=true by simpa using h];show PySem.W.kat_yes (o ms _ _ (i+1) hu hw (by rw[e];simp) q)
   . rw[if_neg h] at q;rw[show (n==m)=false by simpa using h];show PySem.W.kat_no ?_;cases i with
     | zero=>show oneLt_int q
     | succ j=>show PySem.W.kat_one _ _ (PyProof.Rows.lt_int q)
def ZI (I:AA X pins σ H s)(T:Am H ys ks)(r:AN ys vs)(nG:0<vs.length)
 (fa:∀b o,s.heap.get? b=some o->b≠a)(kp:∀b o,s.heap.get? b=some o->s'.heap.get? b=some o):SortT.Asks X.prog X.w A s' a vs (O:=Gw) (λi=>ks.getD i []) (tuples' true):=by
 let hl:=T.length;let hv:=r.length;let at_:∀(h':Heap),(∀b o,b≠a->s'.heap.get? b=some o->h'.get? b=some o)->∀i,i<vs.length->∃(p:Addr)(k:List Int)(us:List Value)(o:Obj)(n:Nat),vs[i]?=some (Value.ref p)/\ks[i]?=some k/\k≠[]/\IntsAre us k/\h'.get? p=some o/\o.cls=.type "tuple"/\o.data=.seq us.toArray n:=λh' C i hi=>by
  let hy:i<ys.length:=()
  let{p,k,e1,e2,e3,e4}:=T.get (i:=i) (x:=ys[i]) (by simp[hy]);let{u,J,ru}:=r.get (i:=i) (x:=ys[i]) (by simp[hy]);rw[e1] at ru;cases (show u=Value.ref p from ru);let{_,its,rv,o,U,hc,n,hd}:=I.hok p _ e3;show{p,k,its,o,n,J,e2,e4,Fp rv,C p o (fa p o U) (kp p o U),hc,hd}
 show{λh' Q E C q=>?_,λh' i j Q E C hi hj q=>?_}
 . -- all keys are tuples whose first items are ints
   let tups:∀(m:Nat),m<=vs.length->∃fs:List Value,PySem.W.KatTups h' (vs.drop (vs.length-m)) fs/\fs.length=m/\∀f∈fs,∃x t,f=Value.int x t:=by
    intro m
    induction m with
    | zero=>intro _;show{[],by rw[Nat.sub_zero,List.drop_length];show trivial,0,λf hf=>by simp at hf}
    | succ m ih=>
     intro hm;let{fs,t,e,hf}:=ih ();let{p,k,us,o,n,J,hk,ql,hI,U,hc,hd}:=at_ h' C (vs.length-(m+1)) ();let ed:vs.drop (vs.length-(m+1))=Value.ref p::vs.drop (vs.length-m):=by
      let mr:vs.length-(m+1)<vs.length:=()
      rw[List.drop_eq_getElem_cons mr,show vs.length-(m+1)+1=vs.length-m by lia];let:vs[vs.length-(m+1)]=Value.ref p:=by rw[zD mr] at J;show zW J
      rw[this]
     cases hI with
     | nil=>show absurd rfl ql
     | cons x tx hI'=>
      show{Value.int x tx::fs,by rw[ed];show PySem.W.KatTups.cons U hc hd rfl t,by rw[zm,e],λf qJ=>?_};rcases zS.mp qJ with rfl | qJ
      . show{x,tx,0}
      . show hf f qJ
   let{fs,t,e,hf}:=tups vs.length (zH _);rw[Nat.sub_self,List.drop_zero] at t;show PySem.W.kat_kind (T:=Value.type "int") t () (λv hv=>?_) (by rfl) q;let{x,tx,0}:=hf v hv;show PySem.W.Looks.of_pure rfl
 . let{p,k,us,o,n,J,hk,_,hI,U,hc,hd}:=at_ h' C i hi;let{p2,k2,us2,o2,n2,hu2,hk2,_,hI2,ho2,hc2,hd2}:=at_ h' C j hj;let e1:vs.getD i Value.none=.ref p:=by rw[zI,J];rfl
   let e2:vs.getD j Value.none=.ref p2:=by rw[zI,hu2];rfl
   let g1:ks.getD i []=k:=by rw[zI,hk];rfl
   let g2:ks.getD j []=k2:=by rw[zI,hk2];rfl
   rw[e1,e2];show PySem.W.kat_lt (s:={ s' with heap:=h' }) U hd ho2 hd2 ?_;let q':Q (HT.lexLt k k2) { s' with heap:=h' }:=by
    let:Gw.blt (ks.getD i []) (ks.getD j [])=HT.lexLt k k2:=by rw[g1,g2];rfl
    rw[<-this];show q
   let l1:=hI.length;let l2:=hI2.length;show aF k k2 us us2 0 hI hI2 (by simp only[zc];rw[l1,l2]) q'
def Zc (T:Am H ys ks)(r:AN ys vs)(p:SortT.Put (O:=Gw) (λi=>ks.getD i []) vs.length out):
 ∃zs ms,Am H zs ms/\ms.Perm ks/\Du ms/\AN zs (out.map λi=>vs.getD i Value.none)/\zs.length=ys.length:=by
 let hl:=T.length;let hv:=r.length;let hb:∀i∈out,i<vs.length:=λi hi=>Ej.mp (p.perm.mem_iff.mp hi);show{out.map λi=>ys.getD i .non,out.map λi=>ks.getD i [],Am.mk (by rw[zB,zB]) λj x k I J=>?_,?_,?_,?_,?_}
 . rw[zO] at I J;cases e:out[j]? with
   | none=>rw[e] at I;cases I
   | some i=>
    rw[e] at I J;let hi:=hb i (zN e);let C:i<ys.length:=()
    let{a,c,e1,e2,e3,e4}:=T.get (i:=i) (x:=ys[i]) (by simp[C]);let ex:ys.getD i .non=x:=zW I;let ek:ks.getD i []=k:=zW J;rw[zI,zD C] at ex;rw[zI,e2] at ek;let U:ys[i]=x:=ex;let ek':c=k:=ek;subst ek';show{a,by rwa[<-U],e3,e4}
 . let h1:=p.perm.map λi=>ks.getD i [];let h2:(List.range vs.length).map (λi=>ks.getD i [])=ks:=by
    rw[show vs.length=ks.length by lia];apply List.ext_getElem?;intro j;rw[zO];by_cases o:j<ks.length
    . rw[List.getElem?_range o,zD o];simp[o]
    . rw[Ck (by rw[Dr];lia),Ck ()];rfl
   rwa[h2] at h1
 . show zq.mpr λi j hi o nr=>?_;rw[zB] at hi o;let:=p.rise i j out[i] out[j] (F6 nr) (by simp) (by simp);let h3:HT.lexLt (ks.getD out[j] []) (ks.getD out[i] [])=false:=this;simpa using h3
 . let:∀l:List Nat,(∀i∈l,i<vs.length)->AN (l.map λi=>ys.getD i .non) (l.map λi=>vs.getD i Value.none):=by
    intro l
    induction l with
    | nil=>intro _;show .nil
    | cons i l ih=>
     intro h;let hi:=h i za;let C:i<ys.length:=()
     let{u,hu,ru}:=r.get (i:=i) (x:=ys[i]) (by simp[C]);show .cons ?_ (ih λj o=>h j (zZ _ o));change AR (ys.getD i V.non) (vs.getD i Value.none);rwa[zI,zD C,zI,hu]
   show this out hb
 . rw[zB,p.perm.length_eq,Dr];lia
def SK (I:AA X pins σ H s)(U:s.heap.objs.size<=D)(C:∀b o,s.heap.get? b=some o->h'.get? b=some o)
 (J:h'.get? D=some (seqObj "list" us.toArray c)) (r:AN zs us)(hz:zs.length<=sizeLine):AA X pins σ (upd H D (.lst zs)) { s with heap:=h',toks:=t' }:=
 I.laid C U (show Aj X.prog X.w _ _ _ (.lst zs) from ⟨hz,us,c,r,J⟩)
inductive Rl (K:AK)(xs:List V)(H:Hp)(Q:VK):Prop
 | mk:∀p ys ks,(xs=[.ref p])->(AD K H p ys)->(Am H ys ks)->(ks.length<64)->(∀l zs ms,H l=none->Am H zs ms->ms.Perm ks->Du ms->Q (.ref l) (upd H l (.lst zs)))->Rl K xs H Q
def gA:Bx X (.builtin "sorted") (Rl X.K):=by intro pins s σ H xs us Q I r h;let{p,ys,ks,0,hq,T,h64,q}:=h;let{u,0,rx}:=BL r;cases rx;let{its,o,pl,hz}:=I.list hq;let hl:=T.length;let hv:=o.length;show SortT.sorted_list (O:=Gw) (key:=λi=>ks.getD i []) (κ:=tuples' true) pl.isList () (λh2 s' a fa C=>ZI I T o () fa C) λD h' out c pt J C ho=>?_;let{zs,ms,T2,hp,hr,U,hlz}:=Zc T o pt;show{.ref D,_,SK (t':=s.toks) I J C ho U (),0,q D zs ms (I.hok.fresh J) T2 hp hr}
inductive Qp (xs:List V)(H:Hp)(Q:VK):Prop
 | mk:∀p mf ks,(xs=[.ref p])->(H p=some (.dT mf))->(mf.map (·.1)=ks.map (List.map Sum.inl))->((∀k∈ks,k≠[]))->(ks.length<64)->(∀l zs ms,H l=none->Am H zs ms->ms.Perm ks->Du ms->Q (.ref l) (upd H l (.lst zs)))->Qp xs H Q
def gU (hc:X.calm=true):Bx X (.builtin "sorted") Qp:=by
 intro pins s σ H xs us Q I r h;let{p,J,C,0,hd,hks,ql,h64,q}:=h;let{u,0,rx}:=BL r;cases rx;let{hz,lo,xs,rel,o,es,ep,ho,hx,n5,pY,hnd}:=I.hok p _ hd;let key:∀(J:List (List AO×V))(xs:List (List AO×Addr×Value))(C:List (List Int)),KT H J xs->J.map (·.1)=C.map (List.map Sum.inl)->(∀k∈C,k≠[]) ->
  Am H (xs.map λq=>V.ref q.2.1) C/\AN (xs.map λq=>V.ref q.2.1) ((xs.map (entryOfKey (tupleKind (As X.prog X.w)))).map (·.key)):=by
  intro J xs C rel
  induction rel generalizing C with
  | nil=>
   intro e _;cases C with
   | nil=>show{trivial,.nil}
   | cons k C=>simp at e
  | cons hpq _ ih=>
   intro e h0;cases C with
   | nil=>simp at e
   | cons k C=>simp only[Bf,List.cons.injEq] at e;let{T,V}:=ih C e.2 λc hc=>h0 c (zZ _ hc);let{e1,e2,_}:=hpq;show{{{1,?_,h0 k za},T},.cons rfl V};rw[e2,e.1,List.map_map];rfl
 let{T,U}:=key J xs C rel hks ql;let hl:=T.length;let hv:=U.length;let evs:(xs.map (entryOfKey (tupleKind (As X.prog X.w)))).map (·.key)=es.toList.map (·.key):=by rw[pY]
 show SortT.sorted_dict (O:=Gw) (key:=λi=>C.getD i []) (κ:=tuples' true) (vs:=(xs.map (entryOfKey (tupleKind (As X.prog X.w)))).map (·.key)) (I.ok.hd hc) lo ⟨o,ho,hx,n5⟩ evs () (λh2 s' a fa kp=>ZI I T U () fa kp) λh1 D h' t' out c pt k1 hD k2 ho=>?_;let{zs,ms,T2,hp,hr,rz,hlz}:=Zc T U pt;let I1:AA X pins σ H { s with heap:=h1,toks:=s.toks }:=I.kept k1;show{.ref D,_,SK (s:={ s with heap:=h1,toks:=s.toks }) (t':=t') I1 hD k2 ho rz ?_,0,q D zs ms (I1.hok.fresh hD) T2 hp hr};let:sizeLine=16777216:=rfl
 lia
mutual
inductive BI (H:Hp):V->PyData->Prop
 | non:BI H .non .none
 | bl (b:Bool):BI H (.bl b) (.bool b)
 | int (i:Int):BI H (.int i) (.int i)
 | str (x:Str):BI H (.str x) (.str x)
 | tup {a:Addr}{xs:List V}{ds:List PyData}:H a=some (.tup xs)->DI H xs ds->BI H (.ref a) (.tuple ds)
 | lst {a:Addr}{xs:List V}{ds:List PyData}:H a=some (.lst xs)->DI H xs ds->BI H (.ref a) (.list ds)
inductive DI (H:Hp):List V->List PyData->Prop
 | nil:DI H [] []
 | cons {x:V}{xs:List V}{d:PyData}{ds:List PyData}:BI H x d->DI H xs ds->DI H (x::xs) (d::ds)
end
mutual
def BI.reads (ok:Al P w H h):∀{x:V}{d:PyData},BI H x d->∀{u:Value},AR x u->∃as,Reads h u d as
 | _,_,.non,u,r=>by cases (show u=Value.none from r);show{_,.none}
 | _,_,.bl b,u,r=>by cases (show u=Value.bool b from r);show{_,.bool b}
 | _,_,.int i,u,r=>by let{t,0}:=r;show{_,.int i t}
 | _,_,.str x,u,r=>by let{t,0}:=r;show{_,.str x t}
 | _,_,.tup (a:=a) e s,u,r=>by cases (show u=Value.ref a from r);let{_,its,C,o,J,U,n,hd}:=ok a _ e;let{as,I}:=DI.reads ok s C;show{_,.tuple J U hd (by simpa using I)}
 | _,_,.lst (a:=a) e s,u,r=>by cases (show u=Value.ref a from r);let{_,its,n,C,J}:=ok a _ e;let{as,I}:=DI.reads ok s C;show{_,.list J rfl rfl (by simpa using I)}
def DI.reads (ok:Al P w H h):∀{xs:List V}{ds:List PyData},DI H xs ds->∀{us:List Value},AN xs us->∃as,ReadsAll h us ds as
 | _,_,.nil,us,r=>by cases r;show{_,.nil}
 | _,_,.cons s t,us,r=>by
  cases r with
  | cons C o=>let{a1,J}:=BI.reads ok s C;let{a2,I}:=DI.reads ok t o;show{_,.cons J I}
end
def Aw {i j pos} (o:PA X es t):PA X (.Constant (.int i) j pos::es) (Ul (tC (.int i)) t):=zC zg o (by rfl)
def Mh {pos} (h:PA X xs t1)(o:PA X es t):PA X (.List xs pos::es) (Ul (Q2 t1) t):=zC (Dc h) o (by rfl)
inductive Oq:List Expr->List Int->Prop where
 | nil:Oq [] []
 | cons {i:Int}{j:Nat}{pos:Pos}{es:List Expr}{ns:List Int}:Oq es ns->Oq (.Constant (.int i) j pos::es) (i::ns)
def i7 (h:Oq es ns):PA X es (λ_ H Q=>Q (ns.map V.int) H):=by
 induction h with
 | nil=>show zL
 | cons _ o=>intro pos pins s σ H Q I q;show (Aw o) pos pins s σ H Q I q
inductive OZ:List Expr->List (List Int)->Prop where
 | nil:OZ [] []
 | cons {xs:List Expr}{ns:List Int}{pos:Pos}{es:List Expr}{nss:List (List Int)}:Oq xs ns->ns.length<=sizeLine->OZ es nss->OZ (.List xs pos::es) (ns::nss)
def au:List (List Int)->TA
 | []=>LD
 | ns::r=>λσ H Q=>∀p,H p=none->au r σ (upd H p (.lst (ns.map V.int))) λxs o=>Q (.ref p::xs) o
def ig (h:OZ es nss):PA X es (au nss):=by
 induction h with
 | nil=>show zL
 | cons C U _ o=>intro pos pins s σ H Q I q;show (Mh (i7 C) o) pos pins s σ H Q I {by rwa[zB],λp J=>q p J}
end L2
namespace WM
def Y4 {α:Type} [DecidableEq α]:∀{l₁ l₂:List α},l₁.Nodup->(∀x∈l₁,x∈l₂)->l₁.length<=l₂.length
 | [],_,_,_=>zd _
 | x::r,l₂,h,s=>by
  let{h1,U}:=C7.mp h;let C:x∈l₂:=s x za;let J:=Y4 (l₁:=r) (l₂:=l₂.erase x) U λy o=>by let I:y≠x:=λe=>h1 (e ▸ o);show (List.mem_erase_of_ne I).mpr (s y (zZ _ o))
  rw[List.length_erase_of_mem C] at J;let:0<l₂.length:=List.length_pos_of_mem C;rw[zm]
  lia
meta def lowTo (n:Nat):List Int:=(List.range n).map λ(i:Nat)=>(i:Int)
def OL :x∈lowTo n↔0<=x/\x<n:=by
 unfold lowTo;rw[zp];constructor
 . rintro ⟨i,hi,rfl⟩;let:=Ej.mp hi
   lia
 . rintro ⟨h0,o⟩;show{x.toNat,Ej.mpr (),()}
def nd_len {n:Nat}{l:List Int}(h:l.Nodup)(C:∀x∈l,0<=x/\x<n):l.length<=n:=by let:=Y4 h (l₂:=lowTo n) λx o=>OL.mpr (C x o);simpa [lowTo] using this
def bX:∀{l₁ l₂:List Int},l₁.Pairwise (· < ·)->l₂.Pairwise (· < ·)->(∀x,x∈l₁↔x∈l₂)->l₁=l₂
 | [],[],_,_,_=>rfl
 | [],y::_,_,_,h=>by let:=(h y).mpr za;simp at this
 | x::_,[],_,_,h=>by let:=(h x).mp za;simp at this
 | x::r,y::q,h1,h2,h=>by
  let{a1,I}:=Fv.mp h1;let{a2,C}:=Fv.mp h2;let e:x=y:=by
   rcases zS.mp ((h x).mp za) with e | e
   . show e
   . rcases zS.mp ((h y).mpr za) with e' | e'
     . show e'.symm
     . let:=a2 x e;let:=a1 y e';lia
  subst e;show congrArg (x :: ·) (bX I C λz=>?_);constructor
  . intro o;rcases zS.mp ((h z).mp (zZ _ o)) with e | e
    . subst e;let:=a1 z o;lia
    . show e
  . intro o;rcases zS.mp ((h z).mpr (zZ _ o)) with e | e
    . subst e;let:=a2 z o;lia
    . show e
def V2 (n):(lowTo n).Pairwise (· < ·):=by unfold lowTo;rw[CM];show List.pairwise_lt_range.imp λh=>by lia
abbrev T3:=Int×Int×Int
meta def tl (t:T3):List Int:=[t.1,t.2.1,t.2.2]
structure GW (n:Int)(ts:List T3):Prop where
 n1:1<=n
 n24:n<=24
 len:ts.length<64
 rng:∀t∈ts,0<=t.1/\t.1<t.2.1/\t.2.1<n/\1<=t.2.2/\t.2.2<=99
 dis:ts.Pairwise λs t=>¬ (s.1=t.1/\s.2.1=t.2.1)
def A7 (ts:List T3)(x y l:Int):Prop:=(x,y,l)∈ts\/(y,x,l)∈ts
def A7.symm (h:A7 ts x y l):A7 ts y x l:=h.elim .inr .inl
def GW.uniq (g:GW n ts)(h:A7 ts x y l)(h':A7 ts x y l'):l=l':=by
 let key:∀{ts:List T3},ts.Pairwise (λs t=>¬ (s.1=t.1/\s.2.1=t.2.1))->∀{a b l l':Int},(a,b,l)∈ts->(a,b,l')∈ts->l=l':=by
  intro ts
  induction ts with
  | nil=>intro _ a b l l' h;simp at h
  | cons t r o=>
   intro I a b l l' h h';let{q,C}:=Fv.mp I;rcases zS.mp h with e | e
   . rcases zS.mp h' with e' | e'
     . rw[<-e] at e';injection e' with _ e2;injection e2 with _ e3;show e3.symm
     . show absurd (by rw[<-e];show{2}) (q _ e')
   . rcases zS.mp h' with e' | e'
     . show absurd (by rw[<-e'];show{2}) (q _ e)
     . show o C e e'
 rcases h with h | h <;> rcases h' with h' | h'
 . show key g.dis h h'
 . let:=g.rng _ h;let:=g.rng _ h';simp only at *;lia
 . let:=g.rng _ h;let:=g.rng _ h';simp only at *;lia
 . show key g.dis h h'
def GW.adj (g:GW n ts)(h:A7 ts x y l):0<=x/\x<n/\0<=y/\y<n/\x≠y/\1<=l/\l<=99:=by rcases h with h | h <;> (have:=g.rng _ h;simp only at *;lia)
meta def fd (p:Int):List T3->List (List Int)
 | []=>[]
 | t::r=>(if t.1=p then [[t.2.1,t.2.2]] else [])++(if t.2.1=p then [[t.1,t.2.2]] else [])++fd p r
def cT (p):∀a b:List T3,fd p (a++b)=fd p a++fd p b
 | [],b=>rfl
 | t::r,b=>by change _++_++fd p (r++b)=_;rw[cT p r b];simp[fd,KG]
def Eg :∀{ts:List T3},k∈fd p ts↔∃y l,k=[y,l]/\A7 ts p y l
 | []=>by simp[fd,A7]
 | (a,b,c)::r=>by
  let o:=Eg (p:=p) (k:=k) (ts:=r);change k∈_++_++fd p r↔_;rw[Bi,Bi,o];simp only;constructor
  . rintro ((h | h) | ⟨y,l,e,h⟩)
    . split at h
      . rename_i e;simp at h;subst e;show{b,c,h,.inl za}
      . simp at h
    . split at h
      . rename_i e;simp at h;subst e;show{a,c,h,.inr za}
      . simp at h
    . show{y,l,e,h.elim (λz=>.inl (zZ _ z)) λz=>.inr (zZ _ z)}
  . rintro ⟨y,l,e,h⟩;rcases h with h | h
    . rcases zS.mp h with q | q
      . injection q with q1 q2;injection q2 with q2 q3;subst q1 q2 q3;show .inl (.inl (by simp[e]))
      . show .inr {y,l,e,.inl q}
    . rcases zS.mp h with q | q
      . injection q with q1 q2;injection q2 with q2 q3;subst q1 q2 q3;show .inl (.inr (by simp[e]))
      . show .inr {y,l,e,.inr q}
def SR {n:Int}(p:Int):∀{ts:List T3},(∀t∈ts,t.1<t.2.1)->(fd p ts).length<=ts.length
 | [],_=>zH _
 | t::r,h=>by
  let C:=SR (n:=n) p (ts:=r) λt o=>h t (zZ _ o);let h0:=h t za;change (_++_++fd p r).length<=_;rw[zT,zT,zm];let:(if t.1=p then [[t.2.1,t.2.2]] else ([]:List (List Int))).length+(if t.2.1=p then [[t.1,t.2.2]] else ([]:List (List Int))).length<=1:=by split <;> split <;> simp <;> lia
  lia
meta def hd (k:List Int):Int:=k.getD 0 0
def iM (g:GW n ts)(p):((fd p ts).map hd).Nodup:=by
 let key:∀(ts:List T3),(∀t∈ts,t.1<t.2.1)->ts.Pairwise (λs t=>¬ (s.1=t.1/\s.2.1=t.2.1))->((fd p ts).map hd).Nodup:=by
  intro ts
  induction ts with
  | nil=>intro _ _;show List.nodup_nil
  | cons t r ih=>
   intro mr hp;let{q,hr}:=Fv.mp hp;let h0:=mr t za;let J:∀t∈r,t.1<t.2.1:=λt U=>mr t (zZ _ U);let o:=ih J hr;let no:∀y c,(∀l,A7 r p y l->False)->([y,c]:List Int)=[y,c]->¬ y∈(fd p r).map hd:=by intro y c hn _ hm;let{k,hk,e}:=zp.mp hm;let{y',l,ek,ha}:=Eg.mp hk;subst ek;let:y'=y:=e;subst this;show hn l ha
   change ((_++_++fd p r).map hd).Nodup;by_cases I:t.1=p
   . let C:¬ t.2.1=p:=()
     rw[if_pos I,if_neg C];change (t.2.1::(fd p r).map hd).Nodup;show C7.mpr {no _ t.2.2 (λl ha=>?_) rfl,o};rcases ha with ha | ha
     . show q _ ha {I,0}
     . let:=J _ ha;simp only at this;lia
   . by_cases C:t.2.1=p
     . rw[if_neg I,if_pos C];change (t.1::(fd p r).map hd).Nodup;show C7.mpr {no _ t.2.2 (λl ha=>?_) rfl,o};rcases ha with ha | ha
       . let:=J _ ha;simp only at this;lia
       . show q _ ha {0,C}
     . rwa[if_neg I,if_neg C]
 show key ts (λt U=>(g.rng t U).2.1) g.dis
inductive Ad (ts:List T3):Int->Int->Int->Prop where
 | nil (x:Int):Ad ts x x 0
 | cons {x z y l d:Int}:A7 ts x z l->Ad ts z y d->Ad ts x y (l+d)
def Ad.nn (g:GW n ts)(h:Ad ts x y d):0<=d:=by
 induction h with
 | nil=>show ER _
 | cons o _ C=>have:=g.adj o;lia
def Ad.one (h:A7 ts x y l):Ad ts x y l:=by let:=Ad.cons h (.nil y);rwa [Int.add_zero] at this
def Ad.trans (h:Ad ts x y d)(h':Ad ts y z e):Ad ts x z (d+e):=by
 induction h with
 | nil=>rwa[EK]
 | cons C _ o=>rw[Int.add_assoc];show .cons C (o h')
def Ad.symm (h:Ad ts x y d):Ad ts y x d:=by
 induction h with
 | nil=>show .nil _
 | cons C _ o=>have:=o.trans (.one C.symm);rwa [Int.add_comm] at this
def Ad.snoc (h:Ad ts x y d)(o:A7 ts y z l):Ad ts x z (d+l):=h.trans (.one o)
def IsD (ts:List T3)(x y d:Int):Prop:=Ad ts x y d/\∀e,Ad ts x y e->d<=e
def BY (ts:List T3)(x y:Int):Option Int->Prop
 | some d=>IsD ts x y d
 | none=>∀d,¬ Ad ts x y d
def IsD.uniq (h:IsD ts x y d)(h':IsD ts x y e):d=e:=Int.le_antisymm (h.2 _ h'.1) (h'.2 _ h.1)
def BY.uniq (h:BY ts x y o)(h':BY ts x y o'):o=o':=by
 cases o with
 | none=>
  cases o' with
  | none=>rfl
  | some e=>show absurd h'.1 (h e)
 | some d=>
  cases o' with
  | none=>show absurd h.1 (h' d)
  | some e=>show congrArg some (IsD.uniq h h')
def IsD.symm (h:IsD ts x y d):IsD ts y x d:={h.1.symm,λe he=>h.2 e he.symm}
def BY.symm (h:BY ts x y o):BY ts y x o:=by
 cases o with
 | none=>show λd hd=>h d hd.symm
 | some d=>show IsD.symm h
def Hy (g:GW n ts)(x):IsD ts x x 0:={.nil x,λ_ h=>h.nn g}
structure Dj (ts:List T3)(s:Int)(kn wt:Int->Option Int):Prop where
 kd:∀p d,kn p=some d->IsD ts s p d
 wk:∀p d,wt p=some d->kn p=none/\Ad ts s p d
 ord:∀p d q e,kn p=some d->wt q=some e->d<=e
 nb:∀p d q l,kn p=some d->A7 ts p q l->(∃e,kn q=some e)\/∃e,wt q=some e/\e<=d+l
 st:(∃d,kn s=some d)\/wt s=some 0
def Dj.front (g:GW n ts)(h:Dj ts s kn wt)(w:Ad ts s y d):(∃e,kn y=some e)\/∃q e,wt q=some e/\e<=d:=by
 let key:∀{x y d:Int},Ad ts x y d->∀dx,kn x=some dx->(∃e,kn y=some e)\/∃q e,wt q=some e/\e<=dx+d:=by
  intro x y d w
  induction w with
  | nil=>intro dx o;show .inl ⟨dx,o⟩
  | cons C I J=>
   intro dx o
   rename_i x z y l d
   let hl:=g.adj C;let hw:=I.nn g;rcases h.nb x dx z l o C with ⟨e,he⟩ | ⟨e,he,hle⟩
   . let hez:e<=dx+l:=(h.kd z e he).2 _ ((h.kd x dx o).1.snoc C);rcases J e he with q | ⟨q,e',U,hle⟩
     . show .inl q
     . show .inr {q,e',U,()}
   . show .inr {z,e,he,()}
 rcases h.st with ⟨ds,hs⟩ | hs
 . let:ds=0:=IsD.uniq (h.kd s ds hs) (Hy g s);subst this;rcases key w 0 hs with q | ⟨q,e,a,b⟩
   . show .inl q
   . show .inr {q,e,a,()}
 . show .inr ⟨s,0,hs,w.nn g⟩
def Dj.pick (g:GW n ts)(h:Dj ts s kn wt)(I:wt p=some d)(hm:∀q e,wt q=some e->d<=e):IsD ts s p d:=by
 let{J,hw}:=h.wk p d I;show{hw,λe he=>?_};rcases h.front g he with ⟨o,q⟩ | ⟨q,o,C,hle⟩
 . rw[J] at q;cases q
 . show Int.le_trans (hm q o C) hle
def Dj.done (g:GW n ts)(h:Dj ts s kn wt)(hw:∀q,wt q=none)(y):BY ts s y (kn y):=by
 cases e:kn y with
 | some d=>show h.kd y d e
 | none=>
  intro d w;rcases h.front g w with ⟨C,q⟩ | ⟨q,C,o,_⟩
  . rw[e] at q;cases q
  . rw[hw] at o;cases o
structure Dm (ts:List T3)(s p d:Int)(kn wt:Int->Option Int)(seen:Int->Prop):Prop where
 kd:∀q e,kn q=some e->IsD ts s q e
 wk:∀q e,wt q=some e->kn q=none/\Ad ts s q e
 ord:∀q e r f,kn q=some e->wt r=some f->e<=f
 nb:∀q e r l,kn q=some e->A7 ts q r l->(q=p/\¬ seen r)\/(∃f,kn r=some f)\/∃f,wt r=some f/\f<=e+l
 st:∃e,kn s=some e
 pd:kn p=some d
 mx:∀q e,kn q=some e->e<=d
def Dj.enter (g:GW n ts)(h:Dj ts s kn wt)(hp:wt p=some d)(hm:∀q e,wt q=some e->d<=e):
 Dm ts s p d (λq=>if q=p then some d else kn q) (λq=>if q=p then none else wt q) (λ_=>False):=by
 let hd:=h.pick g hp hm;let hk:=(h.wk p d hp).1;show{λq e o=>?_,λq e o=>?_,λq e r f o J=>?_,λq e r l o ha=>?_,?_,if_pos rfl,λq e o=>?_}
 . by_cases C:q=p
   . rw[if_pos C] at o;cases o;rwa[C]
   . rw[if_neg C] at o;show h.kd q e o
 . by_cases C:q=p
   . rw[if_pos C] at o;cases o
   . rw[if_neg C] at o ⊢;show h.wk q e o
 . by_cases I:r=p
   . rw[if_pos I] at J;cases J
   . rw[if_neg I] at J;by_cases C:q=p
     . rw[if_pos C] at o;cases o;show hm r f J
     . rw[if_neg C] at o;show h.ord q e r f o J
 . by_cases C:q=p
   . show .inl {C,λz=>z}
   . rw[if_neg C] at o;by_cases I:r=p
     . show .inr (.inl {d,if_pos I})
     . rcases h.nb q e r l o ha with ⟨f,hf⟩ | ⟨f,hf,hle⟩
       . show .inr (.inl {f,by rwa[if_neg I]})
       . show .inr (.inr {f,by rwa[if_neg I],hle})
 . by_cases U:s=p
   . show{d,if_pos U}
   . rcases h.st with ⟨e,he⟩ | he
     . show{e,by rwa[if_neg U]}
     . -- s waits with 0: then d is 0 too,and p is come to by a way of 0
       let h0:=hm s 0 he;let:=hd.1.nn g;let hd0:d=0:=()
       subst hd0;exfalso;let:∀{x y d:Int},Ad ts x y d->d=0->x=y:=by
        intro x y d w;cases w with
        | nil=>intro _;rfl
        | cons ha w'=>intro e;let:=g.adj ha;let:=w'.nn g;lia
       show U (this hd.1 rfl)
 . by_cases C:q=p
   . rw[if_pos C] at o;cases o;show ER _
   . rw[if_neg C] at o;show h.ord q e p d o hp
def Dm.skip (h:Dm ts s p d kn wt seen)(C:∃f,kn r=some f):Dm ts s p d kn wt (λx=>seen x\/x=r):=
 {h.kd,h.wk,h.ord,λq e x l I J=>by
  rcases h.nb q e x l I J with ⟨a,b⟩ | c
  . by_cases o:x=r
    . subst o;show .inr (.inl C)
    . show .inl {a,λz=>z.elim b o}
  . show .inr c,h.st,h.pd,h.mx}
def Dm.wait (g:GW n ts)(h:Dm ts s p d kn wt seen)(ha:A7 ts p r l)(hr:kn r=none)
 (hf:(wt r=none/\f=d+l)\/∃e,wt r=some e/\f=min (d+l) e):Dm ts s p d kn (λx=>if x=r then some f else wt x) (λx=>seen x\/x=r):=by
 let hl:=g.adj ha;let hway:Ad ts s r (d+l):=(h.kd p d h.pd).1.snoc ha;let hf1:f<=d+l:=by
  rcases hf with ⟨_,e⟩ | ⟨e,_,e'⟩
  . lia
  . lia
 let hf2:Ad ts s r f:=by
  rcases hf with ⟨_,rfl⟩ | ⟨e,he,rfl⟩
  . show hway
  . by_cases hle:d+l<=e
    . rwa[Int.min_eq_left hle]
    . rw[Int.min_eq_right ()];show (h.wk r e he).2
 let hf3:d<=f:=by
  rcases hf with ⟨_,rfl⟩ | ⟨e,he,rfl⟩
  . lia
  . let:=h.ord p d r e h.pd he;lia
 show{h.kd,λq e C=>?_,λq e x y C hx=>?_,λq e x k C U=>?_,h.st,h.pd,h.mx}
 . by_cases J:q=r
   . rw[if_pos J] at C;cases C;rw[J];show⟨hr,hf2⟩
   . rw[if_neg J] at C;show h.wk q e C
 . by_cases o:x=r
   . rw[if_pos o] at hx;cases hx;let:=h.mx q e C;lia
   . rw[if_neg o] at hx;show h.ord q e x y C hx
 . by_cases o:x=r
   . subst o;show .inr (.inr {f,if_pos rfl,?_});rcases h.nb q e x k C U with ⟨a,_⟩ | ⟨y,I⟩ | ⟨y,I,hle⟩
     . subst a;rw[h.pd] at C;cases C;rwa[g.uniq U ha]
     . rw[hr] at I;cases I
     . rcases hf with ⟨e1,_⟩ | ⟨e1,he1,e2⟩
       . rw[e1] at I;cases I
       . rw[he1] at I;cases I;lia
   . rcases h.nb q e x k C U with ⟨a,b⟩ | c | ⟨y,I,hle⟩
     . show .inl {a,λz=>z.elim b o}
     . show .inr (.inl c)
     . show .inr (.inr {y,by rwa[if_neg o],hle})
def Dm.leave (h:Dm ts s p d kn wt seen)(C:∀r l,A7 ts p r l->seen r):Dj ts s kn wt:=
 {h.kd,h.wk,h.ord,λq e r l I o=>by
  rcases h.nb q e r l I o with ⟨a,b⟩ | c
  . subst a;show absurd (C r l o) b
  . show c,.inl h.st}
meta def AY (kn:List (Option Int))(p:Int):Option Int:=if 0<=p then kn.getD p.toNat none else none
meta def BN (kn:List (Option Int)):Nat:=(kn.filter Option.isSome).length
def TH (kn):BN kn<=kn.length:=CZ _ _
def fj (h0:0<=p)(I:p.toNat<kn.length)(q):AY (kn.set p.toNat o) q=if q=p then o else AY kn q:=by
 unfold AY;by_cases C:0<=q
 . rw[if_pos C,if_pos C,zI,zI,List.getElem?_set];by_cases e:q=p
   . subst e;simp[I]
   . let:¬ p.toNat=q.toNat:=()
     rw[if_neg this,if_neg e]
 . rw[if_neg C,if_neg (),if_neg C]
def cg:∀{kn:List (Option Int)}{j:Nat}{d:Int},kn[j]?=some none->BN (kn.set j (some d))=BN kn+1
 | [],_,_,h=>by simp at h
 | o::r,0,d,h=>by
  let:o=none:=by simpa using h
  subst this;simp[BN,List.set]
 | o::r,j+1,d,h=>by
  let C:=cg (kn:=r) (j:=j) (d:=d) (by simpa using h);unfold BN at C ⊢;rw[List.set_cons_succ];cases o with
  | none=>rwa[OM (by simp),OM (by simp)]
  | some x=>rw[Nj (by simp),Nj (by simp),zm,zm,C]
def iB (n):BN (List.replicate n none)=0:=by unfold BN;rw[List.filter_replicate];simp
def OU (n)(q):AY (List.replicate n none) q=none:=by
 unfold AY;split
 . rw[zI,List.getElem?_replicate];split <;> rfl
 . rfl
structure Dl (ts:List T3)(n s:Int)(kn:List (Option Int))(wt:Int->Option Int):Prop where
 dj:Dj ts s (AY kn) wt
 ln:kn.length=n.toNat
 bk:∀p d,AY kn p=some d->d<=99*BN kn
 bw:∀p e,wt p=some e->e<=99*BN kn/\0<=p/\p<n
structure Dn (ts:List T3)(n s p d:Int)(kn:List (Option Int))(wt:Int->Option Int)(seen:Int->Prop):Prop where
 dm:Dm ts s p d (AY kn) wt seen
 ln:kn.length=n.toNat
 bk:∀q e,AY kn q=some e->e<=99*BN kn
 bd:d+99<=99*BN kn
 bw:∀q e,wt q=some e->e<=99*BN kn/\0<=q/\q<n
def Dl.start (g:GW n ts)(h0:0<=s)(o:s<n):Dl ts n s (List.replicate n.toNat none) (λq=>if q=s then some 0 else none):=by
 show{{λp d h=>?_,λp d h=>?_,λp d q e h=>?_,λp d q l h=>?_,.inr (if_pos rfl)},C8,λp d h=>?_,λp e h=>?_}
 . rw[OU] at h;cases h
 . by_cases e:p=s
   . rw[if_pos e] at h;cases h;rw[e];show{OU _ _,.nil s}
   . rw[if_neg e] at h;cases h
 . rw[OU] at h;cases h
 . rw[OU] at h;cases h
 . rw[OU] at h;cases h
 . by_cases e:p=s
   . rw[if_pos e] at h;cases h;rw[e,iB];show{by simp,h0,o}
   . rw[if_neg e] at h;cases h
def Dl.enter (g:GW n ts)(h:Dl ts n s kn wt)(U:wt p=some d)(hm:∀q e,wt q=some e->d<=e):
 kn[p.toNat]?=some none/\0<=p/\p<n/\BN (kn.set p.toNat (some d))=BN kn+1/\Dn ts n s p d (kn.set p.toNat (some d)) (λq=>if q=p then none else wt q) (λ_=>False):=by
 let{hb,h0,h1}:=h.bw p d U;let hl:=h.ln;let J:p.toNat<kn.length:=()
 let hk:=(h.dj.wk p d U).1;let hn:kn[p.toNat]?=some none:=by unfold AY at hk;rw[if_pos h0,zI,zD J] at hk;rw[zD J];show congrArg some hk
 let I:=cg (d:=d) hn;let ef:AY (kn.set p.toNat (some d))=λq=>if q=p then some d else AY kn q:=funext λq=>fj h0 J q
 show{hn,h0,h1,I,{?_,by rwa[List.length_set],λq e o=>?_,by rw[I];lia,λq e o=>?_}}
 . rw[ef];show h.dj.enter g U hm
 . rw[ef] at o;simp only at o;rw[I];by_cases C:q=p
   . rw[if_pos C] at o;cases o;lia
   . rw[if_neg C] at o;let:=h.bk q e o;lia
 . by_cases C:q=p
   . rw[if_pos C] at o;cases o
   . rw[if_neg C] at o;let:=h.bw q e o;rw[I];show{(),this.2}
def Dn.skip (h:Dn ts n s p d kn wt seen)(o:AY kn r=some f):Dn ts n s p d kn wt (λx=>seen x\/x=r):=
 {h.dm.skip ⟨f,o⟩,h.ln,h.bk,h.bd,h.bw}
def Dn.wait (g:GW n ts)(h:Dn ts n s p d kn wt seen)(C:A7 ts p r l)(J:AY kn r=none):
 Dn ts n s p d kn (λx=>if x=r then some (if (wt r).getD (d+l)<d+l then (wt r).getD (d+l) else d+l) else wt x) (λx=>seen x\/x=r):=by
 let hl:=g.adj C;let hf:(wt r=none/\(if (wt r).getD (d+l)<d+l then (wt r).getD (d+l) else d+l)=d+l)\/∃e,wt r=some e/\(if (wt r).getD (d+l)<d+l then (wt r).getD (d+l) else d+l)=min (d+l) e:=by
  cases e:wt r with
  | none=>show .inl {0,by simp}
  | some x=>show .inr {x,0,?_};simp only[Option.getD_some];split <;> lia
 show{h.dm.wait g C J hf,h.ln,h.bk,h.bd,λq e o=>?_};by_cases I:q=r
 . rw[if_pos I] at o;let hd:=h.bd;let U:=zW o;show{?_,(),()};split at U <;> lia
 . rw[if_neg I] at o;show h.bw q e o
def Dn.leave (h:Dn ts n s p d kn wt seen)(o:∀r l,A7 ts p r l->seen r):Dl ts n s kn wt:=
 {h.dm.leave o,h.ln,h.bk,h.bw}
structure Gg (ts:List T3)(n s:Int)(kn:List (Option Int)):Prop where
 ln:kn.length=n.toNat
 len:∀y,0<=y->y<n->BY ts s y (AY kn y)
 bd:∀o∈kn,∀d,o=some d->0<=d/\d<=2376
def Dl.done (g:GW n ts)(h:Dl ts n s kn wt)(hw:∀q,wt q=none):Gg ts n s kn:=by
 show{h.ln,λy _ _=>h.dj.done g hw y,λo C d e=>?_};let{j,I,J}:=DA C;let hf:AY kn (j:Int)=some d:=by unfold AY;rw[if_pos (),zI,Bz,zD I,J,e];rfl
 let h1:=h.bk _ _ hf;let h2:=(h.dj.kd _ _ hf).1.nn g;let U:=TH kn;let:=h.ln;let:=g.n24
 lia
def Rows (ts:List T3)(n:Int)(M:HB):Prop:=M.length=n.toNat/\∀x,0<=x->x<n->Gg ts n x (M.getD x.toNat [])
def BM (ts:List T3)(x y p:Int):Prop:=∃a b,IsD ts x p a/\IsD ts p y b/\IsD ts x y (a+b)
def BF (ts:List T3)(x y p:Int):Prop:=∃l b,A7 ts x p l/\IsD ts p y b/\IsD ts x y (l+b)
def BM.symm (h:BM ts x y p):BM ts y x p:=by let{a,b,I,C,o}:=h;show{b,a,C.symm,I.symm,by rw[Int.add_comm];show o.symm}
def Ad.zero (g:GW n ts)(h:Ad ts x y 0):x=y:=by
 let:∀{x y d:Int},Ad ts x y d->d=0->x=y:=by
  intro x y d w;cases w with
  | nil=>intro _;rfl
  | cons C o=>intro e;let:=g.adj C;let:=o.nn g;lia
 show this h rfl
def Ad.in_ (g:GW n ts)(w:Ad ts x y d)(I:0<=x)(o:x<n):0<=y/\y<n:=by
 induction w with
 | nil=>show⟨I,o⟩
 | cons J _ C=>have:=g.adj J;show C this.2.2.1 this.2.2.2.1
def BM.self (g:GW n ts)(h:IsD ts x y d):BM ts x y x:=⟨0,d,Hy g x,h,by rwa[EK]⟩
def Fx (g:GW n ts)(h:IsD ts x y d):d=0↔x=y:=by
 constructor
 . intro e;subst e;show h.1.zero g
 . intro e;subst e;show IsD.uniq h (Hy g x)
def BM.trans (h:BM ts x y p)(h':BM ts x p q):BM ts x y q:=by
 let{a,b,h1,U,C}:=h;let{c,e,o,J,I}:=h';let e1:a=c+e:=IsD.uniq h1 I;show{c,e+b,o,{J.1.trans U.1,λf hf=>?_},?_}
 . let:=C.2 _ (o.1.trans hf)
   lia
 . rwa[e1,Int.add_assoc] at C
def Ad.least (g:GW n ts)(h:Ad ts x y d):∃e,IsD ts x y e:=by
 let:∀(m:Nat)(d:Int),Ad ts x y d->d.toNat<=m->∃e,IsD ts x y e:=by
  intro m
  induction m with
  | zero=>
   intro d hd hm;let:=hd.nn g;let e:d=0:=()
   subst e;show⟨0,hd,λf hf=>hf.nn g⟩
  | succ m C=>
   intro d hd hm;by_cases o:∃f,Ad ts x y f/\f<d
   . let{f,hf,I}:=o;let:=hf.nn g;show C f hf ()
   . show{d,hd,λf hf=>?_};apply NQ;intro J;show o {f,hf,()}
 show this _ d h (zH _)
def BF.exists (g:GW n ts)(h:IsD ts x y d)(I:x≠y):∃p,BF ts x y p:=by
 let{hw,C}:=h;cases hw with
 | nil=>show absurd rfl I
 | cons o w=>
  rename_i z l e
  let{f,hf}:=w.least g;let U:=hf.2 _ w;let J:=C _ (.cons o hf.1);let:f=e:=()
  subst this;show{z,l,f,o,hf,.cons o hf.1,C}
def BF.ne (g:GW n ts)(h:BF ts x y p):x≠y:=by
 let{l,b,C,o,hd}:=h;intro e;subst e;let:=IsD.uniq hd (Hy g x);let:=g.adj C;let:=o.1.nn g
 lia
def BF.btw (g:GW n ts)(h:BM ts x y p)(h':BF ts p y q):BM ts x y q:=by
 let{a,b,U,J,C}:=h;let{l,c,I,o,hd}:=h';let e1:b=l+c:=IsD.uniq J hd;show{a+l,c,{U.1.snoc I,λf hf=>?_},o,?_}
 . let:=C.2 _ (hf.trans o.1)
   lia
 . rwa[e1,<-Int.add_assoc] at C
def BY.via (J:IsD ts x p a)(I:IsD ts x y d)(C:BY ts p y o):∃b,o=some b/\d<=a+b:=by
 cases o with
 | none=>show absurd (J.1.symm.trans I.1) (C _)
 | some b=>show{b,0,I.2 _ (J.1.trans C.1)}
end WM
namespace L2
open PySem PySem.Spec PyProof.Rows
meta def HS:KeyOrd:={Int,λa b=>decide (a<b),λa=>ze (),λa b c C o=>zX (by let:=of_decide_eq_true C;let:=of_decide_eq_true o;lia),
 λa b c h=>by
  let h':a<c:=of_decide_eq_true h;by_cases I:a<b
  . show .inl (zX I)
  . show .inr (zX ()),
 λa b C o=>by let:=of_decide_eq_false C;let:=of_decide_eq_false o;lia}
def YL (o:IntsAre vs ns)(U:2<=vs.length):
 SortT.Asks prog w A s a vs (O:=HS) (λi=>ns.getD i 0) oneType':=by
 let hl:=o.length;let at_:∀i,i<vs.length->∃t,vs.getD i Value.none=.int (ns.getD i 0) t:=λi hi=>by obtain⟨n,hn⟩:∃n,ns[i]?=some n:={_,zD ()};let{t,I}:=o.get i n hn;show{t,by rw[zI,zI,I,hn];rfl}
 show{λh' Q E C q=>?_,λh' i j Q E C hi J q=>?_}
 . rw[ksk_kind (keys:=vs.toArray) (kz:=ns) (by simpa using o) (by simpa using U)];show zE q
 . let{t,e1}:=at_ i hi;let{u,e2}:=at_ j J;rw[e1,e2];show PySem.W.kat_lt_int q
def Z4 (C:IntsAre vs ns)(p:SortT.Put (O:=HS) (λi=>ns.getD i 0) vs.length out):
 ∃ms:List Int,ms.Perm ns/\ms.Pairwise (· <= ·)/\AN (ms.map V.int) (out.map λi=>vs.getD i Value.none)/\ms.length=ns.length:=by
 let hl:=C.length;let hb:∀i∈out,i<vs.length:=λi hi=>Ej.mp (p.perm.mem_iff.mp hi);show{out.map λi=>ns.getD i 0,?_,?_,?_,?_}
 . let h1:=p.perm.map λi=>ns.getD i 0;let h2:(List.range vs.length).map (λi=>ns.getD i 0)=ns:=by
    rw[show vs.length=ns.length by lia];apply List.ext_getElem?;intro j;rw[zO];by_cases o:j<ns.length
    . rw[List.getElem?_range o,zD o];simp[o]
    . rw[Ck (by rw[Dr];lia),Ck ()];rfl
   rwa[h2] at h1
 . show zq.mpr λi j hi o I=>?_;rw[zB] at hi o;let:=p.rise i j out[i] out[j] (F6 I) (by simp) (by simp);let h3:decide (ns.getD out[j] 0<ns.getD out[i] 0)=false:=this;let h4:=of_decide_eq_false h3;rw[List.getElem_map,List.getElem_map]
   lia
 . let:∀l:List Nat,(∀i∈l,i<vs.length)->AN ((l.map λi=>ns.getD i 0).map V.int) (l.map λi=>vs.getD i Value.none):=by
    intro l
    induction l with
    | nil=>intro _;show .nil
    | cons i l J=>intro h;let hi:=h i za;obtain⟨n,hn⟩:∃n,ns[i]?=some n:={_,zD ()};let{t,U}:=C.get i n hn;show .cons ?_ (J λj o=>h j (zZ _ o));change AR (V.int (ns.getD i 0)) (vs.getD i Value.none);rw[zI,zI,U,hn];show{t,0}
   show this out hb
 . rw[zB,p.perm.length_eq,Dr];lia
inductive P7 (xs:List V)(H:Hp)(Q:VK):Prop
 | mk:∀p mf ns,(xs=[.ref p])->(H p=some (.dK mf))->(mf.map (·.1)=ns.map Sum.inl)->(ns.length<64)->(∀(l:Addr)(ms:List Int),H l=none->ms.Perm ns->ms.Pairwise (· <= ·)->Q (.ref l) (upd H l (.lst (ms.map V.int))))->P7 xs H Q
def kD (hc:X.calm=true):Bx X (.builtin "sorted") P7:=by
 intro pins s σ H xs us Q I r h;let{p,C,ns,0,hd,hks,h64,q}:=h;let{u,0,rx}:=BL r;cases rx;let{hz,lo,vs,rel,o,es,ep,ho,hx,n5,_,U,hnd}:=Ob I.hok hd;let key:∀(es:List DictEntry)(C:List (AO×V))(vs:List (AO×Value))(ns:List Int),KV C vs->Pairs (As X.prog X.w) es vs->C.map (·.1)=ns.map Sum.inl->IntsAre (es.map (·.key)) ns:=by
  intro es
  induction es with
  | nil=>
   intro C vs ns rel pr e;cases pr;cases rel;cases ns with
   | nil=>show .nil
   | cons n ns=>simp at e
  | cons d es ih=>
   intro C vs ns rel pr e;cases pr with
   | cons J k2 k3=>
    cases rel with
    | cons hpq t=>
     cases ns with
     | nil=>simp at e
     | cons n ns=>simp only[Bf,List.cons.injEq] at e;rw[<-hpq.1,e.1] at J;let{t0,e0}:=Value.isInt_shape (k:=n) (v:=d.key) J;rw[Bf,e0];show .cons n t0 (ih _ _ _ t k3 e.2)
 let hI:IntsAre (es.toList.map (·.key)) ns:=key _ _ _ _ rel U hks;let hl:=hI.length;show SortT.sorted_dict (O:=HS) (key:=λi=>ns.getD i 0) (κ:=oneType') (vs:=es.toList.map (·.key)) (I.ok.hd hc) lo ⟨o,ho,hx,n5⟩ rfl () (λh2 s' a fa kp=>YL hI h2) λh1 D h' t' out c pt J hD k2 ho=>?_;let{ms,hp,hr,rz,hlz}:=Z4 hI pt;let I1:AA X pins σ H { s with heap:=h1,toks:=s.toks }:=I.kept J;show{.ref D,_,SK (s:={ s with heap:=h1,toks:=s.toks }) (t':=t') I1 hD k2 ho rz ?_,0,q D ms (I1.hok.fresh hD) hp hr};let:sizeLine=16777216:=rfl;rw[zB]
 lia
def Z8 (c:Addr)(q:Str):Heap->Prop:=λh=>∃o C t,h.get? c=some o/\o.data=.fields C/\C[1]?=some (.str q t)
def By (H:Hp)(P:Addr)(pos:Pos)(q:Str):Prop:=∃ps,H P=some (.tbl ps)/\TriplesOk ps.toList/\(codeAmong pos ps.toList=none\/∃c,codeAmong pos ps.toList=some (.ref c)/\H c=some (.ext (Z8 c q)))
def Aa (H H':Hp):Prop:=∀b o,H b=some o->(∃ps,o=.tbl ps)\/H' b=some o
def Aa.refl (H):Aa H H:=λ_ _ e=>.inr e
def Aa.of (h:AG H H'):Aa H H':=λb o e=>.inr (h b o e)
def Aa.trans (a:Aa H H1)(b:Aa H1 H2):Aa H H2:=λc o e=>by
 rcases a c o e with z | z
 . show .inl z
 . show b c o z
def By.keep (h:By H P pos q)(k:∀o,H P=some o->H' P=some o)(I:∀c C,H c=some (.ext C)->H' c=some (.ext C)):By H' P pos q:=by let{ps,a,b,c}:=h;show{ps,k _ a,b,c.imp id λ⟨c,e,f⟩=>{c,e,I _ _ f}}
def By.same (h:By H P pos q)(k:AG H H'):By H' P pos q:=h.keep (λ_=>k _ _) λ_ _=>k _ _
def Ed (mg:A2)(h:Heap):Prop:=∃bm o,mg "__builtins__"=some (.ref bm)/\bm≠builtinsNs/\h.get? bm=some o/\o.cls=.type "module"/\o.dict=some builtinsNs/\o.data=.plain
def av {h:Heap}(x:h.Ns a m)(y:h.Ns a m'):m=m':=by let{o,es,ep,e,d,_,f}:=x;let{o',o5,U,C,I,_,J}:=y;rw[e] at C;cases C;rw[d] at I;cases I;funext n;rw[<-f n,<-J n]
def AA.growL (I:AA X pins σ H s)(U:H Pt=some (.tbl ps))(hp:s.heap.objs.size<=c')(k:∀b u,b≠Pt->s.heap.get? b=some u->h'.get? b=some u)
 (J:h'.get? Pt=some (PySem.W.tabObj (ps++more)))(new:Aj X.prog X.w (upd (upd H Pt (.tbl (ps++more))) c' o) h' c' o):
 AA X pins σ (upd (upd H Pt (.tbl (ps++more))) c' o) { s with heap:=h',toks:=t' }:=by
 let hc:H c'=none:=I.hok.fresh hp;let nP:∀b,H b=none->b≠Pt:=λb n z=>by rw[z,U] at n;cases n
 let nc:∀b u,s.heap.get? b=some u->b≠c':=λb u e=>zb (zk (zU e) hp);let up:∀b u,H b=some u->b≠Pt->(upd (upd H Pt (.tbl (ps++more))) c' o) b=some u:=λb u e C=>by rwa[zY (zr e hc),zY C]
 show I.un {λb u e n _ _=>k b u (nP b n) e,λb u e n _ _=>{u.slots,k b u (nP b n) e},λb u e n _=>by rwa[zY (nc b u e),zY (nP b n)],λb u e _=>?_,λb xs e=>up b _ e (Ac e U (by intro z;cases z)),λb ob u e=>up b _ e (Ac e U (by intro z;cases z)),λb qs e=>?_} ?_
 . by_cases C:b=Pt
   . rw[C];show{_,J}
   . show{u,k b u C e}
 . by_cases C:b=Pt
   . subst C;rw[U] at e;cases e;show{more,by rw[zY (zr U hc),zJ]}
   . show{#[],by rw[up b _ e C];simp}
 . intro b u e;by_cases hbc:b=c'
   . subst hbc;rw[zJ] at e;cases e;show new
   . rw[zY hbc] at e;by_cases C:b=Pt
     . subst C;rw[zJ] at e;cases e;show J
     . rw[zY C] at e;show (I.hok b u e).stay (λd v hd q=>k d v ?_ q) (λd q=>up d _ q (Ac q U (by intro z;cases z))) λd xs q=>up d _ q (Ac q U (by intro z;cases z));rcases hd with z | z
       . rwa[z]
       . show Ac z U (by intro z';cases z')
def Lz (I:AA X pins σ H s)(T:By H P og (X.env.qual ++ "<lambda>"))
 (px:X.env.code=.ref c)(C:PySem.W.CodeHd X.base c P)(qK:Ed X.mg X.base)(ou:∀y∈lscope.names,y.2=.free->X.env.kindOf y.1=some .cell)(hdef:defaultsOf params X.env=([],[]))
 (h:∀f pm cv J s' H',AA X pins σ H' s'->Aa H H'->By H' P og (X.env.qual ++ "<lambda>")->s.heap.objs.size<=f ->
  s'.heap.get? f=some { cls:=.type "function",data:=.func (PySem.W.kla_fn "<lambda>" (X.env.qual ++ "<lambda>") params body lscope (BO X.env.cells lscope.names []) pm cv J) } ->
  s'.heap.CodeRec cv (X.env.qual ++ "<lambda>")->Q (.ref f) s'):
 wpAny (model X.prog X.w) X.A (eval (.Lambda params body lscope og) X.env) Q E s:=by
 let{ps,hP,ht,hcase}:=T;let oP:s.heap.get? P=some (PySem.W.tabObj ps):=I.hok P _ hP;let hg:=I.mod.glob.keeps I.bk;let C':PySem.W.CodeHd s.heap c P:=C.keeps I.bk;let pz:closureFor lscope X.env=pure (BO X.env.cells lscope.names []):=ba λy hy hf=>I.ok.has y.1 (.inl (ou y hy hf));let nP:∀b o,X.base.get? b=some o->b≠P:=λb o e z=>by let:=(I.bs b o e).2;rw[z,hP] at this;cases this
 let hgP:mainGlobals≠P:=by let{o,es,ep,e,_}:=I.mod.glob;show nP _ _ e
 let hb:s.heap.BuiltinsAt X.mg P:=by let{bm,ob,b1,b2,b3,b4,b5,b6}:=qK;show{bm,ob,b1,b2,λz=>?_,nP _ _ b3,I.bk _ _ b3,b4,b5,b6};let{o,es,ep,e,hd,_}:=I.mod.glob;rw[z,e] at b3;cases b3;rw[hd] at b6;cases b6
 show PySem.W.kla_eval hdef ?_;rcases hcase with hn | ⟨c1,hc1,hH⟩
 . show PySem.W.kla_makeFunction (mg:=X.mg) pz I.ok.glob hg px C' oP ht hn hgP hb λc' J h' tk hx hge mr pC htb=>?_;let{c2,oc,vs,t,e2,U,hd,hv}:=id pC;cases e2;let kp:∀b u,b≠P->s.heap.get? b=some u->(h'.push (PySem.W.kla_obj "<lambda>" (X.env.qual ++ "<lambda>") params body lscope (BO X.env.cells lscope.names []) ((X.mg "__name__").getD .none) c' J)).get? b=some u:=λb u pL e=>zG _ (hx b u pL e);let hcn:H c'=none:=I.hok.fresh hge;let nPc:P≠c':=zr hP hcn;show h h'.objs.size ((X.mg "__name__").getD .none) (.ref c') J _ _ (I.growL (c':=c') (o:=.ext (Z8 c' (X.env.qual ++ "<lambda>"))) (t':=tk) hP hge kp (zG _ htb) {{oc,vs,t,zG _ U,hd,hv},{oc,zG _ U},λh1 h2 ⟨o1,v1,t1,a1,a2,a3⟩ k12=>{o1,v1,t1,k12 _ a1,a2,a3}}) ?_ ?_ ?_ ?_ ?_
   . intro b o e;by_cases hbP:b=P
     . left;rw[hbP,hP] at e;show{ps,(zW e).symm}
     . right;rwa[zY (zr e hcn),zY hbP]
   . show{ps ++ #[rawInt og.line,rawInt og.col,.ref c'],by rw[zY nPc,zJ],?_,.inr {c',?_,zJ}}
     . rw[Array.toList_append];show TriplesOk_snoc _ _ _ _ ht
     . rw[Array.toList_append];show codeAmong_snoc _ ht hn
   . let:=F6 (Em hge mr);show this
   . show zM _ rfl
   . show pC.keeps λb o e=>zG _ e
 . let{{oc,vs,t,U,hd,hv},_}:=I.hok c1 _ hH;show PySem.W.kla_makeFunctionHit (mg:=X.mg) pz I.ok.glob hg px C' oP ht hc1 hb λJ h' tk hk hsz=>?_;show h h'.objs.size ((X.mg "__name__").getD .none) (.ref c1) J _ _ (I.kept (t':=tk) λb u e=>zG _ (hk b u e)) (Aa.refl _) {ps,hP,ht,.inr ⟨c1,hc1,hH⟩} hsz (zM _ rfl) {c1,oc,vs,t,0,zG _ (hk _ _ U),hd,hv}
def kB {X:Cx}{sc:Scope}(h:(sc.names.all λy=>y.2 != .free || X.env.kindOf y.1==some .cell)=true):∀y∈sc.names,y.2=.free->X.env.kindOf y.1=some .cell:=λy o e=>by let a:=Gf.mp h y o;rw[e] at a;simpa using a
def lu (j:Nat)(P:Addr)(C:Pos)(q:Str)(t:TA):TE:=λσ H Q=>t σ H λJ H1=>∃(l d:Addr)(ns:List Int)(I:List (AO×V))(val:Int->Int),J=[.ref l]/\H1 l=some (.lst (ns.map V.int))/\ns≠[]/\σ[j]?=some (some (.ref d))/\H1 d=some (.dK I) /\
 (∀n∈ns,Ag I (Sum.inl n)=some (.int (val n)))/\By H1 P C q/\∀(M:Int)(o:Hp),M∈ns->(∀n∈ns,val M<=val n)->Aa H1 o->By o P C q->Q (.int M) o
def gk 
 (hc:X.calm=true)(hr:Ap (k+1) X.A)(hg:Gl X "min") (hm:X.mg "min"=none) (he:PA X [e] t)(px:X.env.code=.ref c)(C:PySem.W.CodeHd X.base c P)(qK:Ed X.mg X.base)
 (hN:X.N[j]?=some dn)(hkd:X.env.kindOf dn=some .cell)(hS:lscope.kind=.function)(hco:lscope.isCoroutine=false)(hgen:lscope.isGenerator=false)(p5:∀x∈lscope.names,x.2 ≠ .cell)
 (ou:∀y∈lscope.names,y.2=.free->X.env.kindOf y.1=some .cell)(o8:lscope.names.lookup dn=some .free)(hpn:lscope.names.lookup pn=some .local)(hdef:defaultsOf params X.env=([],[]))
 (qt:∀q body cl pm nN ct v,bindArgs (PySem.W.kla_fn "<lambda>" q params body lscope cl pm nN ct) {[v],[]}=pure [(pn,v)])
 (hd1:autoParam ((dn==("__debug__" : Str))=false) d_._auto_2) (hd2:autoParam ((dn==("__classdict__" : Str))=false) d_._auto_2) (hd3:autoParam ((pn==("__debug__" : Str))=false) d_._auto_2)
 (qd:autoParam (backTo pos (starEach [e] X.env)=(false,eval e X.env)::backTo pos (starEach [] X.env)) d_._auto_5)(nh:autoParam ((backTo pos (starEach [e] X.env)).any (·.1)=false) d_._auto_5):
 PE X (.Call (.Name "min" np) [e] [{some "key",.Lambda params (.Subscript (.Name dn p1) (.Name pn p2) p3) lscope og,kpos}] pos) (lu j P og (X.env.qual ++ "<lambda>") t):=by
 intro pins s σ H Q I h;show EN (Cp I hg hm (by decide +kernel:bootBuiltins "min"=some (.builtin "min")) ?_);show PyProof.Rows.callWith_kw (AM (he pos pins s σ H _ I h) λus s1 ⟨vs,H1,I1,r,q1⟩=>?_) qd nh;let{l,d,ns,mf,val,0,hl,nG,hσ,pZ,qG,T,q}:=q1;let{u,0,rx}:=BL r;cases rx;change wpAny _ _ (evalAll ((do let v <-eval (.Lambda params (.Subscript (.Name dn p1) (.Name pn p2) p3) lscope og) X.env;standAt pos;pure v)::[])) _ _ s1
 show wpAny_evalAll_cons (zA (Lz I1 T px C qK ou hdef λf pm cv ctv s2 H2 I2 sm T2 hfge hf pC=>zA (wpAny_standAt (zE (wpAny_evalAll_nil ?_)))));change wpAny _ _ (call (.builtin "min") [.ref l] [(Str.ofString "key",.ref f)]) _ _ s2;let keep2:∀b o,H1 b=some o->(∀ps,o ≠ .tbl ps)->H2 b=some o:=λb o e ho=>by
  rcases sm b o e with ⟨ps,z⟩ | z
  . show absurd z (ho ps)
  . show z
 let nH:H2 l=some (.lst (ns.map V.int)):=keep2 _ _ hl (by intro ps z;cases z);let hd2':H2 d=some (.dK mf):=keep2 _ _ pZ (by intro ps z;cases z);let{_,its,nn,rv,ho}:=I2.hok l _ nH;let{hz,lo,vs,rel,od,es,ep,hod,hdr}:=Ob I2.hok hd2';let hI:IntsAre its ns:=Fp rv;let{m,F0}:=I2.fr;let notL:∀b o,H2 b=some o->b≠X.env.locals:=λb o e z=>by rw[z,I2.free] at e;cases e
 let kp:∀(h':Heap)(own:CT),Fr X.base X.env.locals h' m->News X.base X.env.locals h' (OC X.base s2.heap X.env.locals++own)->∀b o,b≠X.env.locals->s2.heap.get? b=some o->h'.get? b=some o:=λh' own F' N' b o hb U=>by
  cases qb:X.base.get? b with
  | some u=>have z:=I2.bk b u qb;rw[U] at z;cases z;show F'.keep b _ qb
  | none=>show (N' (b,o) (List.mem_append_left _ (iJ hb qb U))).1
 let{m',hn',hloc}:=I2.loc;let em:m'=m:=av hn' F0.ns;subst em;let{ud,rd,lk}:=hloc j dn (.ref d) hN hσ (.inr (.inl hkd));cases (show ud=Value.ref d from rd);obtain⟨cc,hcc,oc,hoc,hdc⟩:∃cc,X.env.cells.lookup dn=some cc/\s2.heap.IsCell cc (some (.ref d)):=by
  rcases lk with ⟨z,_⟩ | ⟨_,cc,a,b⟩
  . rw[hkd] at z;cases z
  . show⟨cc,a,b⟩
 let pz:(BO X.env.cells lscope.names []).lookup dn=some cc:=by
  let{c',hc'}:=Od ⟨cc,hcc⟩ lscope.names [] (PySem.mem_of_lookup o8);rcases OH _ _ hc' with z | z
  . simp at z
  . rw[hcc] at z;cases z;show hc'
 let hsz0:X.env.locals<s1.heap.objs.size:=I1.lt;let hfL:f≠X.env.locals:=Nat.ne_of_gt (zk hsz0 hfge);show PyProof.Rows.kmk_min_letter (h₀:=X.base) (L:=X.env.locals) (m:=m') (news:=OC X.base s2.heap X.env.locals) (ns:=ns) val (I2.ok.hd hc) F0 iR (λh' F' N'=>?_) hI (List.length_pos_iff.mpr nG) (λn tn h' tk own hn F' N'=>?_) (λM tM h' tk F' N' hM hbest=>?_)
 . show{_,kp h' [] F' (by rwa[Bl]) l _ (notL _ _ nH) ho,0,nn,0}
 . let kk:=kp h' own F' N';let{c1,o1,v1,t1,e1,ho1,hd1',hv1}:=id pC;subst e1;let hc1L:c1≠X.env.locals\/True:=.inr trivial;let rec':h'.CodeRec (.ref c1) (X.env.qual ++ "<lambda>"):=by show{c1,o1,v1,t1,0,kk c1 o1 (λz=>?_) ho1,hd1',hv1};let{oL,esL,epL,pD,hdL,_}:=F0.ns;rw[z,pD] at ho1;cases ho1;rw[hdL] at hd1';cases hd1'
   show B9 (PySem.W.kla_callFunE hr.in1.depth (kk f _ hfL hf) rfl hco hgen rfl rec' ?_);rw[qt];show zE (wpAny_newFunctionEnv p5 (λy hy=>?_) (λh₁ oR hsb=>?_) hS)
   . obtain rfl:y=(pn,Value.int n tn):=zv.mp hy;show hpn
   . let J:∀b o,h'.get? b=some o->h₁.get? b=some o:=λb o U=>hsb.extBut b o (zb (zU U)) (zG _ U);show{I2.mod.nolimit.keeps λb o U=>J b o (F'.keep b o U),?_};change codeAny _ _ (.expr (.Subscript (.Name dn p1) (.Name pn p2) p3) (PySem.W.envX (X.env.qual ++ "<lambda>") lscope h'.objs.size f (.ref c1) (BO X.env.cells lscope.names []))) _ _;show PySem.W.kla_codeExpr (YX PySem.F.slot_dict_getitem.lookup (λ_ _=>rfl) ?_);show wpAny_Name (wpAny_loadName_free hS (show (PySem.W.envX (X.env.qual ++ "<lambda>") lscope h'.objs.size f (.ref c1) (BO X.env.cells lscope.names [])).kindOf dn=some .free from o8) pz {oc,J _ _ (kk cc oc (I2.cne dn cc hcc) hoc),hdc} ?_ hd2) hd1;show wpAny_Name (wpAny_loadName_local hS (show (PySem.W.envX (X.env.qual ++ "<lambda>") lscope h'.objs.size f (.ref c1) (BO X.env.cells lscope.names [])).kindOf pn=some .local from hpn) oR (v:=.int n tn) (by simp) ?_) hd3;let dd:h₁.DictOf (As X.prog X.w) d vs:={od,es,ep,J _ _ (kk d od (notL _ _ hd2') hod),hdr};show{dd.typeIs,?_};let{w',hw,ow}:=BW.some_of (v:=.int (val n)) (o:=valueAt vs (Sum.inl n)) (by rw[<-qG n hn];show rel.val (Sum.inl n));let{t',0}:=ow;show wpAny_getItem_of (Fj (k:=Sum.inl n) {tn,0}) dd.mapOf hw ?_;show{h₁,_,t',2,{F'.ns.keeps J,λb o U=>J b o (F'.keep b o U),F'.above},λp hp=>{J _ _ (N' p hp).1,(N' p hp).2}}
 . let kk:=kp h' [] F' (by rwa[Bl]);let I3:AA X pins σ H2 { s2 with heap:=h',toks:=tk }:=by
    show I2.step (g':=s2.gens) (d':=s2.drawn) (ch:=[]) (λ_ z=>nomatch z) (λb o hb _ _ U _=>kk b o hb U) (λb o hb _ _ U _=>{o.slots,kk b o hb U}) (λ_ _ _ _ n=>n) (λb o _ U=>?_) (λ_ _ U=>U) (λ_ _ _ U=>U) (λb ps U=>{#[],by rw[U];simp}) (λmm hmm=>?_) ?_ I2.bare
    . by_cases hb:b=X.env.locals
      . let{oL,esL,epL,pD,_}:=F'.ns;show{oL,by rwa[hb]}
      . show{o,kk b o hb U}
    . let:=av hmm F0.ns;subst this;show F'.ns
    . intro b u U;show (I2.hok b u U).stay (λx v hx z=>kk x v ?_ z) (λ_ z=>z) λ_ _ z=>z;rcases hx with z1 | z1
      . rw[z1];show notL _ _ U
      . show notL _ _ z1
   show{.int M,H2,I3,{tM,0},q M H2 hM hbest sm T2}
def g8 {K:AK}{PT:Addr}
 (KX:K.In s₁.heap)(oR:s₁.heap.Ns mainGlobals mg)(I:s₁.heap.Ns builtinsNs mb)(hbb:∀x:Str,x ≠ "__name__"->mb x=bootBuiltins x) (hlim:s₁.heap.NoLimit)(hg:s₁.gens=#[])
 (ha:s₁.heap.get? a=some { cls:=.type "list",data:=.seq vs.toArray }) (hi:IntsAre vs ns)(hl:ns.length<=sizeLine)(hr:Ap k callerA)
 (hT:s₁.heap.get? PT=some (PySem.W.tabObj #[]))(hC:isCodeTable s₁.heap PT)(hK:PySem.W.noTabs K=true)(qK:Ed mg s₁.heap)
 (F:∀base:Heap,K.In base->base.Ns mainGlobals mg->Ed mg base->AF P w K mg base CX k fa fd [x] sp)(qt:∀s u,BindsTo s fd {[u],[]} [(x,u)])
 (oz:∀H:Hp,H PT=some (.tbl #[])->AD K H a (ns.map V.int)->sp [.ref a] H (λv _=>v=.bl true) λ_ _ _=>False)
 (hCX:∀H e s',CX [] H s₁ (λ_ _ _=>False) e s'->False):
 codeAny (model P w) callerA (.call (.ref fa) {[.ref a],[]}) (λr s'=>r=.ok (.ret (.bool true))/\OldK s₁.heap s'.heap/\s'.os=s₁.os/\AllBare s'.gens) s₁:=by
 let rv:=bU hi;let lenV:=hi.length;let npa:PT≠a:=λe=>by rw[e,ha] at hT;cases hT
 let kPT:K.lookup PT=none:=by
  cases q:K.lookup PT with
  | none=>rfl
  | some o=>have e:=KX PT o q;rw[hT] at e;cases e;let h2:=Gf.mp hK (PT,_) (PySem.W.mem_of_lookupK q);show absurd (show false=true from h2) zf
 let core:∀H:Hp,(∀b u,H b=some u->(b=PT/\u=.tbl #[])\/(b=a/\K.lookup a=none/\∃o xs,u=.frz o (.lst xs)))->H PT=some (.tbl #[])->AD K H a (ns.map V.int)->Al P w H s₁.heap ->
  codeAny (model P w) callerA (.call (.ref fa) {[.ref a],[]}) (λr s'=>r=.ok (.ret (.bool true))/\OldK s₁.heap s'.heap/\s'.os=s₁.os/\AllBare s'.gens) s₁:=by
  intro H hA hP hS hok;let C:∀{b:Addr}{o:Obj},s₁.heap.get? b=some o->H b=none->(FV s₁.heap H).get? b=some o:=λe n=>gN e n;let noA:∀{b:Addr}{o:Obj},s₁.heap.get? b=some o->(∀ps,o.data ≠ .fields ps)->(∀ps n,o.data ≠ .seq ps n)->H b=none:=λ{b o} e d1 d2=>by
   cases q:H b with
   | none=>rfl
   | some u=>
    rcases hA b u q with ⟨rfl,_⟩ | ⟨rfl,_⟩
    . rw[hT] at e;cases e;show absurd rfl (d1 #[])
    . rw[ha] at e;cases e;show absurd rfl (d2 _ _)
  let U:∀{b:Addr}{m:A2},s₁.heap.Ns b m->(FV s₁.heap H).Ns b m:=λ{b m} ⟨o,es,ep,e,d,r⟩=>{o,es,ep,C e (noA e (λps z=>by rw[d] at z;cases z) (λps n z=>by rw[d] at z;cases z)),d,r};let hKb:K.In (FV s₁.heap H):=λb o e=>C (KX b o e) (by
   cases q:H b with
   | none=>rfl
   | some u=>
    rcases hA b u q with ⟨rfl,_⟩ | ⟨rfl,z,_⟩
    . rw[kPT] at e;cases e
    . rw[z] at e;cases e)
  let hBm:Ed mg (FV s₁.heap H):=by let{bm,ob,b1,b2,b3,b4,b5,b6}:=qK;show{bm,ob,b1,b2,C b3 (noA b3 (λps z=>by rw[b6] at z;cases z) (λps n z=>by rw[b6] at z;cases z)),b4,b5,b6}
  let hM:Mod K mg (FV s₁.heap H):=⟨hKb,U oR,{mb,U I,hbb},let ⟨mc,h1,h2⟩:=hlim;{mc,U h1,h2}⟩;let e0:Jz P w K mg (FV s₁.heap H) callerA [] s₁ H:={0,hM,λb o e=>gR e,Nat.le_of_eq (iw _ _),trivial,λb I=>absurd (show b∈([]:List Addr) from I) (by simp),hok,.of_eq hg};show codeAny_mono ((F _ hKb (U oR) hBm).run callerA [] s₁ H {[.ref a],[]} [.ref a] [.ref a] _ _ hr e0 (qt s₁ (.ref a)) (.cons rfl .nil) (oz H hP hS)) λr s' h=>?_;cases r with
  | error e=>show (hCX H e s' h).elim
  | ok fl=>
   cases fl with
   | next=>show False.elim h
   | brk=>show False.elim h
   | cont=>show False.elim h
   | ret u=>
    let{v,H',os,bare,un,hok',r',q}:=h;let q':v=.bl true:=q;subst q';obtain rfl:u=Value.bool true:=r';let{more,hPn}:=un.tbls PT _ hP;let objP:s'.heap.get? PT=some { cls:=.none,data:=.fields (#[]++more) }:=hok' PT _ hPn;let keep:∀b o,b≠PT->s₁.heap.get? b=some o->s'.heap.get? b=some o:=λb o I e=>by
     cases q:H b with
     | none=>show un.keep b o e q (by intro z;show absurd (show b∈([]:List Addr) from z) (by simp)) (by simp)
     | some u=>
      rcases hA b u q with ⟨z,_⟩ | ⟨_,_,ob,xs,z⟩
      . show absurd z I
      . subst z;let z2:=un.frzs b ob _ q;let{e1,_}:=hok b _ q;let{e2,_}:=hok' b _ z2;rw[e] at e1;cases e1;show e2
    show{0,{λb o e=>?_,λb o e=>?_},os,bare}
    . by_cases I:b=PT
      . subst I;rw[hT] at e;cases e;show .inr (.inl {hC,0,#[],more,0,objP})
      . show .inl (keep b o I e)
    . by_cases I:b=PT
      . rw[I];show{_,objP}
      . show{o,keep b o I e}
 let okP:∀H:Hp,Aj P w H s₁.heap PT (.tbl #[]):=λH=>hT;cases hk:K.lookup a with
 | some o=>
  let e:=KX a o hk;rw[ha] at e;cases e;show core (λb=>if b=PT then some (.tbl #[]) else none) (λb u z=>?_) (if_pos rfl) (.inr {_,vs.toArray,_,hk,8,by rwa[zc,lenV],by simpa using rv}) (λb u z=>?_)
  all_goals
   let J:(if b=PT then some (HO.tbl #[]) else none)=some u:=z
   by_cases I:b=PT
   . rw[if_pos I] at J;cases J
     first
      | show .inl {I,0}
      | (subst I;show okP _)
   . rw[if_neg I] at J;cases J
 | none=>
  show core (λb=>if b=PT then some (.tbl #[]) else if b=a then some (.frz { cls:=.type "list",data:=.seq vs.toArray } (.lst (ns.map V.int))) else none) (λb u z=>?_) (if_pos rfl)
   (.inl (.inr {{ cls:=.type "list",data:=.seq vs.toArray },by change (if a=PT then _ else if a=a then _ else _)=_;rw[if_neg npa.symm,if_pos rfl]})) (λb u z=>?_)
  all_goals
   let J:(if b=PT then some (HO.tbl #[]) else if b=a then some (.frz { cls:=.type "list",data:=.seq vs.toArray } (.lst (ns.map V.int))) else none)=some u:=z
   by_cases I:b=PT
   . rw[if_pos I] at J;cases J
     first
      | show .inl {I,0}
      | (subst I;show okP _)
   . rw[if_neg I] at J;by_cases hba:b=a
     . rw[if_pos hba] at J;cases J
       first
        | show .inr {hba,hk,7}
        | (subst hba;show{ha,by rwa[zB],vs,_,rv,ha})
     . rw[if_neg hba] at J;cases J
def walk_T {l:PySem.W.OpenLaw}{K:Params->AK}{sp:AK->Addr->Sp}
 (hn:l.most=some n)(hn2:n<=sizeLine)(hdf:d.params.defaults=[])(hr:Ap k callerA)(pC:∃dn,(recsOf q).find? (λe=>e.name==tn)=some dn)
 (hY:∀w h,YP w h->(K w.params).In h)
 (F:∀w mg fa h,(K w.params).In h->h.Ns mainGlobals mg->mg d.name=some (.ref fa) ->
  ∃fd c PT,PySem.W.tabIn (K w.params) tn=some (c,PT)/\PySem.W.noTabs (K w.params)=true/\(∀s u,BindsTo s fd {[u],[]} [(x,u)]) /\
   ∀base:Heap,(K w.params).In base->base.Ns mainGlobals mg->Ed mg base->AF l.prog w (K w.params) mg base CX k fa fd [x] (sp (K w.params) PT))
 (oz:∀K PT H a(ns:List Int),ns.length<=n->H PT=some (.tbl #[])->AD K H a (ns.map V.int)->sp K PT [.ref a] H (λv _=>v=.bl true) λ_ _ _=>False)
 (hCX:∀H s e s',CX [] H s (λ_ _ _=>False) e s'->False):
 PySem.W.WalkO q loose XP YP l.row.toRowW d [] (λf vs=>PySem.call f vs):=by
 show Att.attach_call hn hdf λw s₀ I mg mb fa o pm cd doc a vs ns G Y ho hd pF hmg U hints hlen hg=>?_;let KX:=hY w _ Y;let{fd,c,PT,J,hnt,hb,hF}:=F w mg fa _ KX G.T.g hmg;let{dn,o8}:=pC;let{C,hPT}:=PySem.W.tab_of G.T KX o8 J;show g8 KX G.T.g G.T.b G.T.builtins G.T.nolimit hg U hints (zn hlen hn2) hr hPT (C.tab hPT).isCodeTable hnt G.T.bmain hF hb (λH hP hS=>oz _ PT H a ns hlen hP hS) λH e s'=>hCX H I e s'
structure Gq (K:AK)(x qual:Str)(st:Stmt)(f:Addr)(fd:FuncData)(c:Addr):Prop where
 ex:∃(oc:Value)(od:Option Addr)(kV doc pm:Value)(an:Option Addr)(ct:Value)(pQ:Array (Option Value)),
  fd=PySem.W.fnOf x qual (defArgs st) (defBody st) (defScope st) .none kV doc pm an (.ref c) ct/\K.lookup f=some {oc,od,.func fd,pQ}/\PySem.W.codeIn K (.ref c) qual=true
 kp:PySem.W.keepIn K (.ref f)=true
def Gq.fn {K:AK}{st:Stmt}(F:Gq K x qual st f fd c):BS K x qual st f fd:=by let{I,C,kV,doc,pm,an,J,o,h}:=F.ex;show{{I,C,kV,doc,pm,an,.ref c,J,o,h},F.kp}
def Gq.ok {K:AK}{st:Stmt}(F:Gq K x qual st f fd c)(S:zo N ps (defScope st))(len:∀vs H Q E,sp vs H Q E->vs.length=ps.length)
 (I:∀A outer s H vs Q E,Ap k (A.deeper (envOfC qual (defScope st) s.heap.objs.size f (.ref c)))->sp vs H Q E ->
  ∃t,CI (DU AL P w K mg base N qual (defScope st) f (.ref c) A outer s H E).nox (defBody st) t/\t { nx:=λ_ H'=>Q .non H',rt:=Q } (start N vs) H):AF P w K mg base AL (k+1) f fd ps sp:=by
 let{oc,od,kV,doc,pm,an,ct,pQ,0,J,o}:=F.ex;show VL J o S len λA outer s H vs Q E U C=>?_;let{t,h,q}:=I A outer s H vs Q E U C;show⟨t,h.nox,q⟩
def jg {K:AK}{st:Stmt}{kV:Value}(l:K.lookup f=some {oc,od,.func (PySem.W.fnOf x qual (defArgs st) (defBody st) (defScope st) .none kV doc pm an (.ref c) ct),pQ})
 (o:PySem.W.codeIn K (.ref c) qual=true)(k:PySem.W.keepIn K (.ref f)=true):Gq K x qual st f (PySem.W.fnOf x qual (defArgs st) (defBody st) (defScope st) .none kV doc pm an (.ref c) ct) c:={{oc,od,kV,doc,pm,an,ct,pQ,0,l,o},k}
section
variable {κ:Type} [DecidableEq κ]
def gB {C:List (κ×V)}(h:kv∈Au C k v):kv∈C\/kv=(k,v):=by
 unfold Au at h;split at h
 . let{q,I,e}:=zp.mp h;by_cases o:q.1=k
   . rw[if_pos o] at e;rw[<-e,o];show .inr rfl
   . rw[if_neg o] at e;rw[<-e];show .inl I
 . rcases Bi.mp h with q | q
   . show .inl q
   . show .inr (zv.mp q)
def LS {C:List (κ×V)}(h:(C.map (·.1)).Nodup):((Au C k v).map (·.1)).Nodup:=by
 cases e:Ag C k with
 | none=>show Yl v h e
 | some x=>
  let I:(C.any λo=>decide (o.1=k))=true:=by rw[Ft,e];rfl
  unfold Au;rw[if_pos I];let J:(C.map λo=>if o.1=k then (o.1,v) else o).map (·.1)=C.map (·.1):=by
   rw[List.map_map];show List.map_congr_left λo _=>?_;change (if o.1=k then (o.1,v) else o).1=o.1
   split <;> rfl
  rwa[J]
def YK (k j:κ):∀C:List (κ×V),Ag (Bg C k) j=if j=k then none else Ag C j
 | []=>by change (none:Option V)=_;split <;> rfl
 | p::r=>by
  let I:=YK k j r;by_cases e:p.1=k
  . rw[Yx e,I];by_cases o:j=k
    . rw[if_pos o,if_pos o]
    . rw[if_neg o,if_neg o,C5 λz=>o (z.symm.trans e)]
  . rw[cW e];by_cases o:p.1=j
    . rw[DT o,DT o,if_neg λz=>e (o.trans z)]
    . rw[C5 o,C5 o,I]
end
meta def XY:AO->Int
 | .inl i=>i
 | .inr _=>0
structure WD (n:Int)(mf:List (AO×V))(wt:Int->Option Int):Prop where
 sh:∀kv∈mf,∃p d,kv=(Sum.inl p,V.int d)/\0<=p/\p<n
 nd:(mf.map (·.1)).Nodup
 at_:∀p:Int,Ag mf (Sum.inl p)=(wt p).map V.int
meta def F9 (o:List (AO×V)):List Int:=o.map λC=>XY C.1
def WD.keys (h:WD n mf wt):mf.map (·.1)=(F9 mf).map Sum.inl:=by unfold F9;rw[List.map_map];show List.map_congr_left λC o=>?_;let{p,d,e,_}:=h.sh C o;rw[e];rfl
def WD.nds (h:WD n mf wt):(F9 mf).Nodup:=by let e:=h.nd;rw[h.keys,List.Nodup,CM] at e;show e.imp λh o=>h (by rw[o])
def WD.len (h:WD n mf wt)(h0:0<=n):(mf.length:Int)<=n:=by
 let:=WM.nd_len (n:=n.toNat) h.nds λx I=>by
  let{C,o,e}:=zp.mp I;let{p,d,J,h1,U}:=h.sh C o;let:x=p:=by rw[<-e,J];rfl
  lia
 unfold F9 at this;rw[zB] at this
 lia
def WD.mem (h:WD n mf wt):p∈F9 mf↔∃e,wt p=some e:=by
 let e:p∈F9 mf↔(Sum.inl p:AO)∈mf.map (·.1):=by
  rw[h.keys];constructor
  . intro m;show zp.mpr {p,m,0}
  . intro m;let{q,C,e}:=zp.mp m;cases e;show C
 rw[e];let o:=h.at_ p;constructor
 . intro m;cases hw:wt p with
   | some d=>show{d,0}
   | none=>rw[hw] at o;show absurd m (dP o)
 . rintro ⟨d,hw⟩;rw[hw] at o;show jM o
def WD.one (h0:0<=s)(C:s<n):WD n [(Sum.inl s,V.int 0)] (λq=>if q=s then some 0 else none):=by
 show{λI o=>?_,by simp,λp=>?_}
 . rw[zv.mp o];show⟨s,0,rfl,h0,C⟩
 . by_cases e:p=s
   . rw[if_pos e,e];show DT rfl
   . rw[if_neg e];show (C5 λz=>e (Sum.inl.inj z).symm).trans lQ
def WD.put (h:WD n mf wt)(h0:0<=p)(I:p<n):WD n (Au mf (Sum.inl p) (.int d)) (λq=>if q=p then some d else wt q):=by
 show{λC o=>?_,LS h.nd,λq=>?_}
 . rcases gB o with z | z
   . show h.sh C z
   . show⟨p,d,z,h0,I⟩
 . rw[h8];by_cases e:q=p
   . rw[if_pos e,if_pos (by rw[e])];rfl
   . rw[if_neg e,if_neg λz=>e (Sum.inl.inj z)];show h.at_ q
def WD.drop (h:WD n mf wt):WD n (Bg mf (Sum.inl p)) (λq=>if q=p then none else wt q):=by
 show{λC o=>h.sh C (cO o),WV h.nd,λq=>?_};rw[YK];by_cases e:q=p
 . rw[if_pos e,if_pos (by rw[e])];rfl
 . rw[if_neg e,if_neg λz=>e (Sum.inl.inj z)];show h.at_ q
meta def oV:Option Int->V
 | none=>.non
 | some d=>.int d
def KO {n:Nat}{i:Int}(h0:0<=i)(o:i<n):E4 n i=some i.toNat:=by unfold E4;rw[if_pos h0,if_pos o]
def Ao (h0:0<=i)(h:xs[i.toNat]?=some v):CK xs i=some v:=by let:=CA h;rwa [Jk h0] at this
def Aa.get (k:Aa H H')(e:H b=some o)(h:∀ps,o ≠ .tbl ps):H' b=some o:=by
 rcases k b o e with ⟨ps,z⟩ | z
 . show absurd z (h ps)
 . show z
def Aa.chg (k:Aa H H')(h:H l=none):Aa H (upd H' l o):=λb u e=>by
 rcases k b u e with z | z
 . show .inl z
 . right;rwa[zY (zr e h)]
def By.chg (T:By H P pos q)(h:H l=some (.lst xs)):By (upd H l o) P pos q:=by
 let{ps,C,_}:=id T;show T.keep (λu U=>?_) λc J I=>?_
 . rwa[zY (Ac C h (by intro z;cases z))]
 . rwa[zY (Ac I h (by intro z;cases z))]
def gO {xs:List Int}:((List.range (min xs.length ys.length)).all (λj=>xs.getD j 0==ys.getD j 0) && xs.length==ys.length)=decide (xs=ys):=by
 by_cases h:xs=ys
 . subst h;simp
 . rw[ze h];by_cases C:xs.length=ys.length
   . let:∃j,j<xs.length/\xs.getD j 0≠ys.getD j 0:=by apply NQ;intro J;show h (List.ext_getElem C λj I U=>?_);apply NQ;intro o;show J {j,I,by simpa [zI,I,U] using o}
     let{j,hj,o}:=this;rw[Bool.and_eq_false_iff];left;rw[List.all_eq_false];show{j,by rw[Ej];lia,by simpa using o}
   . simp[C]
def Qo (J:IntsAre us xs)(I:IntsAre ws ys)(j)(a:j<us.toArray.size)(b:j<ws.toArray.size):SeqAt.EqAt A s us.toArray[j] ws.toArray[j] (xs.getD j 0==ys.getD j 0):=by
 let l1:=J.length;let l2:=I.length;rw[zc] at a b;obtain⟨n,hn⟩:∃n,xs[j]?=some n:={_,zD ()};obtain⟨m,hm⟩:∃m,ys[j]?=some m:={_,zD ()};let{t,C}:=J.get j n hn;let{u,o}:=I.get j m hm;let e1:us.toArray[j]=.int n t:=by rw[zD a] at C;simpa using zW C
 let U:ws.toArray[j]=.int m u:=by rw[zD b] at o;simpa using zW o
 rw[e1,U,zI,zI,hn,hm];show SeqAt.EqAt.int_int n t m u
def XZ (K:AK):R2:=λx y H Q=>∃a b,∃(xs o:List Int),x=.ref a/\y=.ref b/\AD K H a (xs.map V.int)/\AD K H b (o.map V.int)/\Q (.bl (!decide (xs=o))) H
def Mg (hu:X.A.units<cLine):BD X (compareOp .NotEq) (XZ X.K):=by
 intro pins s σ H x y v u Q I rx ry h;let{a,b,xs,ys,2,ha,hb,q}:=h;cases rx;cases ry;let{its,r,U,hz}:=I.list ha;let{nX,r2,o,hz2}:=I.list hb;let J:=Fp r;let C:=Fp r2;by_cases hl:its.length=nX.length
 . show PySem.EqBoolInt.of_rcne (SeqAt.RcNeAt.lists (e:=λj=>xs.getD j 0==ys.getD j 0) U.isList o.isList (by rwa[zc,zc]) hu (λj a b=>Qo J C j a b)) {.bl _,H,I,0,?_};rw[zc];let e:=gO (xs:=xs) (ys:=ys);let l1:=J.length;let l2:=C.length;rw[show min xs.length ys.length=its.length by lia,show (xs.length==ys.length)=true by simpa using (),Bool.and_true] at e;rwa[e]
 . show PySem.EqBoolInt.of_rcne (SeqAt.RcNeAt.lists_lengths U.isList o.isList (by rw[zc,zc];simpa using hl) hu) {.bl _,H,I,0,?_};let nG:xs≠ys:=λe=>hl (by rw[J.length,C.length,e]);rwa[ze nG] at q
def j5 (ta:TA):TE:=λσ H Q=>ta σ H λo H1=>∃j:Int,o=[.int j]/\0<=j/\j<=1000/\∀l,H1 l=none->Q (.ref l) (upd H1 l (.lst ((WM.lowTo j.toNat).map V.int)))
def YY:∀vs(n:Nat),vs.length=n->(∀(j:Nat)v,vs[j]?=some v->∃t,v=.int (0+(j:Int)*1) t)->AN ((WM.lowTo n).map V.int) vs:=by
 let key:∀(vs:List Value)(a:Nat),(∀(j:Nat)(v:Value),vs[j]?=some v->∃t,v=.int ((a+j:Nat):Int) t)->AN ((List.range' a vs.length).map λ(i:Nat)=>V.int (i:Int)) vs:=by
  intro vs
  induction vs with
  | nil=>intro _ _;show .nil
  | cons v r U=>intro a h;let{t,C}:=h 0 v rfl;rw[zm,List.range'_succ,Bf];show .cons {t,by rw[C];rfl} (U (a+1) λj u I=>?_);let{J,o}:=h (j+1) u I;show{J,by rw[o];congr 1;lia}
 intro vs n e h;subst e;let:=key vs 0 λj v I=>by let{t,C}:=h j v I;show{t,by rw[C];congr 1;lia}
 unfold WM.lowTo;rwa[List.map_map,List.range_eq_range']
def il (hc:X.calm=true)(hgL:Gl X "list") (hmL:X.mg "list"=none) (hgR:Gl X "range") (U:X.mg "range"=none) (ha:PA X [a] ta)(hs:autoParam (starEach [a] X.env=[(false,eval a X.env)]) d_._auto_5)
 (he:autoParam (starEach [.Call (.Name "range" p2) [a] [] pos2] X.env=[(false,eval (.Call (.Name "range" p2) [a] [] pos2) X.env)]) d_._auto_5):PE X (.Call (.Name "list" p1) [.Call (.Name "range" p2) [a] [] pos2] [] pos1) (j5 ta):=by
 intro pins s σ H Q I h;show EN (Cp I hgL hmL (by decide +kernel:bootBuiltins "list"=some (.type "list")) ?_ (by decide) (by decide));show PyProof.Rows.callWith_type1 ?_ he rfl;rw[he];show Calls.spliced_cons ?_;show Call_ (Cp I hgR U boot_range (PyProof.Rows.callWith_type1 (AM (ha pos2 pins s σ H _ I h) λus s1 ⟨vs,H1,I1,r1,q1⟩=>?_) hs rfl));let{j,e,h0,h1,q}:=q1;subst e;cases r1 with
 | cons r rr=>
  cases rr;let{t,0}:=r;show call_range_1 ?_;show Calls.spliced_nil ?_;let hz:Builtin.Range.rangeSize 0 j 1=(j.toNat:Int):=by rw[rangeSize_one];split <;> lia
  show call_list_range (I.ok.hd hc) (IsRange.new ..) (small_one () () () ()) hz () λh' tk acc c' kp hD hI=>?_;let J:∀b o,s1.heap.get? b=some o->h'.get? b=some o:=λb o e=>kp b o (zG _ e);let rv:AN ((WM.lowTo j.toNat).map V.int) acc.toList:=YY acc.toList _ (by rw[Array.length_toList];show hI.1) λi v hi=>hI.2 i v (by rw[<-hi,Array.getElem?_toList]);let C:s1.heap.objs.size<=(s1.heap.push { cls:=.type "range",data:=.fields #[.int 0 s1.toks,.int j t,.int 1 (s1.toks+1)] }).objs.size:=by rw[Co];show Ci _
  show{.ref _,_,I1.laid (t':=tk) J C (show Aj X.prog X.w _ h' _ (.lst ((WM.lowTo j.toNat).map V.int)) from {?_,acc.toList,c',rv,by rwa[Array.toArray_toList]}),0,q _ (I1.hok.fresh C)};rw[zB,WM.lowTo,zB,Dr];let:sizeLine=16777216:=rfl
  lia
def iQ:Bx (Bk X pl N' sc fp s3 H3) (.builtin "len") (Lg X.K):=Bq
end L2
namespace L2
open PySem PyProof.Rows
def Kp (s0:Shared)(h:Heap):Prop:=∀b o,s0.heap.get? b=some o->h.get? b=some o
structure JF (prog:Program)(w:World)(A:Around)(s0:Shared)(I:Addr)(its:List Value)(itAt:Nat->Heap->Prop):Prop where
 stay:∀j h h',itAt j h->h'.get? I=h.get? I->itAt j h'
 next:∀(j:Nat)(h:Heap)(tk:Nat)(v:Value)(Q:Option Value->Shared->Prop)(E:Bt),Kp s0 h->itAt j h->its[j]?=some v ->
  (∀h',itAt (j+1) h'->(∀b,b≠I->h'.get? b=h.get? b)->Q (some v) { s0 with heap:=h',toks:=tk })->wpAny (model prog w) A (pyNext (.ref I)) Q E { s0 with heap:=h,toks:=tk }
 fin:∀(j:Nat)(h:Heap)(tk:Nat)(Q:Option Value->Shared->Prop)(E:Bt),Kp s0 h->itAt j h->its[j]?=none ->
  (∀h',(∀b o,b≠I->h.get? b=some o->h'.get? b=some o)->Q none { s0 with heap:=h',toks:=tk })->wpAny (model prog w) A (pyNext (.ref I)) Q E { s0 with heap:=h,toks:=tk }
def Kp.upd (K:Kp s0 h)(C:s0.heap.objs.size<=S):Kp s0 (h.update S f):=λb o e=>by rw[Heap.get?_update_ne _ _ _ _ (zb (zk (zU e) C))];show K b o e
def Kp.but (K:Kp s0 h)(C:s0.heap.objs.size<=I)(k:∀b o,b≠I->h.get? b=some o->h'.get? b=some o):Kp s0 h':=λb o e=>
 k b o (zb (zk (zU e) C)) (K b o e)
def Ts:0<=sizeLine:=by decide
def mF:1<=sizeLine:=by decide
def CJ:2<=sizeLine:=by decide
def HW:3<=sizeLine:=by decide
def N3:4<=sizeLine:=by decide
def mM:9<=sizeLine:=by decide
def iz (M:JF prog w A.in1 s0 I its itAt)(bt:Nat->Nat->Bool)(hS:s0.heap.objs.size<=S)(hI:s0.heap.objs.size<=I)(hSI:S≠I)
 (cmp:∀i j vi vj h C Q E,Kp s0 h->its[i]?=some vi->its[j]?=some vj->Q (.bool (bt i j)) { s0 with heap:=h,toks:=C }->wpAny (model prog w) A.in1 (richCompare .Lt vi vj) Q E { s0 with heap:=h,toks:=C })
 (hR:∀v h C,its[argBest bt (its.length-1)]?=some v->Kp s0 h->R (.ok (.ret v)) { s0 with heap:=h,toks:=C })
 : ∀r j h C J c,its.length-(j+1)=r->j+1<=its.length->Kp s0 h->itAt (j+1) h->its[argBest bt j]?=some J ->
  h.get? S=some { cls:=.type "list",data:=.seq #[J,J] c }->codeAny (model prog w) A (.builtin "min.loop" { pos:=[.ref I,.none,.ref S],kw:=kw }) R { s0 with heap:=h,toks:=C }:=by
 intro r
 induction r with
 | zero=>intro j h C J c hr hj K hit hv U;show codeAny_builtin PySem.F.entry_min_loop ?_;unfold Builtin.«min.loop»;show zA (Di U rfl ?_);dsimp only;show zA (wpAny_tryCatch (M.fin (j+1) h C _ _ K hit (Ck ()) λh' k=>?_));let ng:=k S _ hSI U;show zA (Hx ng rfl (zA (wpAny_letGo (zE ?_))) CJ (by change 0<=sizeLine+1;decide));show hR J _ C ?_ ((K.but hI k).upd hS);rwa[show its.length-1=j by lia]
 | succ r ih=>
  intro j h C J c hr hj K hit hv U;obtain⟨x,hx⟩:∃x,its[j+1]?=some x:={_,zD ()};show codeAny_builtin PySem.F.entry_min_loop ?_;unfold Builtin.«min.loop»;show zA (Di U rfl ?_);dsimp only;show zA (wpAny_tryCatch (M.next (j+1) h C x _ _ K hit hx λh' nQ k=>?_));let K':Kp s0 h':=K.but hI λb o hb e=>by rwa[k b hb]
  let ng:h'.get? S=some { cls:=.type "list",data:=.seq #[J,J] c }:=by rwa[k S hSI]
  show zA (zE ?_);show zA (wpAny_tryCatch (zy (zA (cmp (j+1) (argBest bt j) x J h' C _ _ K' hx hv ?_))));show zA (zy (Fh (zA (wpAny_letGo (zE ?_)))));let eb:argBest bt (j+1)=if bt (j+1) (argBest bt j)=true then j+1 else argBest bt j:=argBest.eq_2 bt j
  cases e:bt (j+1) (argBest bt j) with
  | true=>rw[if_pos e] at eb;show zA (Hx ng rfl (zA (wpAny_letGo (zE {0,?_}))) CJ (by change 2<=sizeLine+1;decide));show ih (j+1) _ C x c () () (K'.upd hS) (M.stay _ _ _ nQ (Heap.get?_update_ne _ _ _ _ (Ne.symm hSI))) (by rwa[eb]) (Ce _ ng rfl)
  | false=>rw[e,if_neg (by decide)] at eb;show zA (wpAny_letGo (zE {0,?_}));show ih (j+1) h' C J c () () K' nQ (by rwa[eb]) ng
def bH (M:JF prog w A.in1 s0 I its itAt)(bt:Nat->Nat->Bool)(hS:s0.heap.objs.size<=S)(hI:s0.heap.objs.size<=I)(J:S≠I)
 (cmp:∀i j vi vj h C Q E,Kp s0 h->its[i]?=some vi->its[j]?=some vj->Q (.bool (bt i j)) { s0 with heap:=h,toks:=C }->wpAny (model prog w) A.in1 (richCompare .Lt vi vj) Q E { s0 with heap:=h,toks:=C })
 (hR:∀v h C,its[argBest bt (its.length-1)]?=some v->Kp s0 h->R (.ok (.ret v)) { s0 with heap:=h,toks:=C })
 (h0:its=[]->∀h C,Kp s0 h->R (.ok (.ret d)) { s0 with heap:=h,toks:=C })
 (h)(C)(c)(K:Kp s0 h)(hit:itAt 0 h)(U:h.get? S=some { cls:=.type "list",data:=.seq #[] c }):
 codeAny (model prog w) A (.builtin "min.loop" { pos:=[.ref I,.none,.ref S],kw:=[(Str.ofString "default",d)] }) R { s0 with heap:=h,toks:=C }:=by
 show codeAny_builtin PySem.F.entry_min_loop ?_;unfold Builtin.«min.loop»;show zA (Di U rfl ?_);dsimp only;cases e:its with
 | nil=>subst e;show zA (wpAny_tryCatch (M.fin 0 h C _ _ K hit rfl λh' k=>?_));show zA (EM (zE (h0 rfl h' C (K.but hI k))))
 | cons x xs=>
  let hx:its[0]?=some x:=by rw[e];rfl
  show zA (wpAny_tryCatch (M.next 0 h C x _ _ K hit hx λh' nQ k=>?_));let K':Kp s0 h':=K.but hI λb o hb e=>by rwa[k b hb]
  let ng:h'.get? S=some { cls:=.type "list",data:=.seq #[] c }:=by rwa[k S J]
  show zA (zE ?_);show zA (Hx ng rfl (zE {0,?_}) Ts (by change 2<=sizeLine+1;decide));show iz M bt hS hI J cmp hR (its.length-1) 0 _ C x (c+1) rfl (by rw[e];simp) (K'.upd hS) (M.stay _ _ _ nQ (Heap.get?_update_ne _ _ _ _ (Ne.symm J))) hx (Ce _ ng rfl)
def wpAny_of_eq (e:m=m')(h:wpAny M A m' Q E s):wpAny M A m Q E s:=by subst e;show h
def cM {O:KeyOrd}(o:Nat->O.α):∀k,argBest (λi j=>O.blt (o i) (o j)) k<=k/\∀j,j<=k->O.blt (o j) (o (argBest (λi j=>O.blt (o i) (o j)) k))=false
 | 0=>{zH _,λj C=>by obtain rfl:j=0:=();show O.irrefl _}
 | k+1=>by
  let{U,I}:=cM o k;rw[argBest.eq_2];cases e:O.blt (o (k+1)) (o (argBest (λi j=>O.blt (o i) (o j)) k)) with
  | true=>
   rw[if_pos rfl];show{zH _,λj C=>?_};by_cases c:j=k+1
   . subst c;show O.irrefl _
   . cases J:O.blt (o j) (o (k+1)) with
     | false=>rfl
     | true=>rw[<-I j ()];show (O.trans _ _ _ J e).symm
  | false=>
   rw[if_neg (by decide)];show{(),λj C=>?_};by_cases c:j=k+1
   . subst c;show e
   . show I j ()
def bE (hA:A.handled=none)(bt:Nat->Nat->Bool)(hp:s.heap.IsList p its.toArray\/s.heap.IsTuple p its.toArray)
 (cmp:∀i j vi vj h U Q E,Kp s h->its[i]?=some vi->its[j]?=some vj->Q (.bool (bt i j)) { s with heap:=h,toks:=U }->wpAny (model prog w) A.in1 (richCompare .Lt vi vj) Q E { s with heap:=h,toks:=U })
 (hR:∀v h U,its[argBest bt (its.length-1)]?=some v->Kp s h->Q v { s with heap:=h,toks:=U })
 (h0:its=[]->∀h U,Kp s h->Q d { s with heap:=h,toks:=U }):
 wpAny (model prog w) A (call (.builtin "min") [.ref p] [(Str.ofString "default",d)]) Q E s:=by
 show B9 (codeAny_call_builtin PySem.F.plain_min PySem.F.entry_min (wpAny_of_eq (show checkBuiltinCall "min" { pos:=[.ref p],kw:=[(Str.ofString "default",d)] }=pure Unit.unit from rfl) (zE ?_)));unfold Builtin.min;show zA (wpAny_of_eq (show Builtin.Builtins.bindParams "min" ["key", "default"] 0 { kw:=[(Str.ofString "default",d)] }=pure [none,some d] from rfl) (zE ?_));dsimp only;show zA (zE ?_);let kp0:∀(o1 o2:Obj),Kp s ((s.heap.push o1).push o2):=λo1 o2 b o e=>zG _ (zG _ e);rcases hp with hp | hp
 . show zA (Ho hp (zA (wpAny_newList (zE {0,?_}) Ts)));let J:(s.heap.push { cls:=.type "list_iterator",data:=.fields #[.ref p,.int 0 0] }).objs.size=s.heap.objs.size+1:=Co ..;rw[J];show bH (s0:=s) (I:=s.heap.objs.size) (S:=s.heap.objs.size+1) (itAt:=λj h=>h.IsListIter s.heap.objs.size p j) {λj h h' a e=>?_,λj h U v Q E K hit hv q=>?_,λj h U Q E K hit hv q=>?_} bt (Ci _) (zH _) (Nat.succ_ne_self _) cmp hR h0 _ s.toks 0 (kp0 _ _) ?_ ?_
   . let{o,ho,C}:=a;show{o,by rwa[e],C}
   . let{o,ho,C}:=hp;show wpAny_pyNext_list_item hit {o,K _ _ ho,C} (by rwa[Cr]) λh' a b=>q h' a λc C=>b.2 c C
   . let{o,ho,C}:=hp;show wpAny_pyNext_list_end hA hit {o,K _ _ ho,C} (by rwa[Cr]) λh' b=>q h' b
   . show{_,zG _ (zM _ rfl),2}
   . rw[<-J];show zM _ rfl
 . show zA (wpAny_pyIter_tuple hp (zA (wpAny_newList (zE {0,?_}) Ts)));let J:(s.heap.push { cls:=.type "tuple_iterator",data:=.fields #[.ref p,.int 0 0] }).objs.size=s.heap.objs.size+1:=Co ..;rw[J];show bH (s0:=s) (I:=s.heap.objs.size) (S:=s.heap.objs.size+1) (itAt:=λj h=>h.IsTupleIter s.heap.objs.size p j) {λj h h' a e=>?_,λj h U v Q E K hit hv q=>?_,λj h U Q E K hit hv q=>?_} bt (Ci _) (zH _) (Nat.succ_ne_self _) cmp hR h0 _ s.toks 0 (kp0 _ _) ?_ ?_
   . let{o,ho,C}:=a;show{o,by rwa[e],C}
   . let{o,ho,C}:=hp;show wpAny_pyNext_tuple_item hit {o,K _ _ ho,C} (by rwa[Cr]) λh' a b=>q h' a λc C=>b.2 c C
   . let{o,ho,C}:=hp;show wpAny_pyNext_tuple_end hA hit {o,K _ _ ho,C} (by rwa[Cr]) λh' b=>q h' b
   . show{_,zG _ (zM _ rfl),2}
   . rw[<-J];show zM _ rfl
inductive Yu (K:AK)(x:V)(dv:V)(H:Hp)(Q:VK):Prop
 | mk:∀(p:Addr)(ys:List V),(x=.ref p)->((AD K H p ys\/AB K H p ys))->((ys=[]->Q dv H))->(((∃ks,Am H ys ks/\∀(i:Nat)(y:V)(k:List Int),ys[i]?=some y->ks[i]?=some k->(∀k'∈ks,HT.lexLt k' k=false)->Q y H)\/(∃ns:List Int,ys=ns.map V.int/\∀n∈ns,(∀m∈ns,n<=m)->Q (.int n) H)))->Yu K x dv H Q
def IK (K:AK)(x dv:V)(H:Hp)(Q:VK):Prop:=Yu K x dv H Q
def PQ (K:AK)(t:TA)(C:TE):TE:=λσ H Q=>t σ H λo H1=>∃x,o=[x]/\C σ H1 λdv I=>IK K x dv I Q
def U2 (hc:X.calm=true)(hu:X.A.units+1<cLine)(hg:Gl X "min") (hm:X.mg "min"=none) (he:PA X [e] t)(hd:PE X de td)
 (qd:autoParam (backTo pos (starEach [e] X.env)=(false,eval e X.env)::backTo pos (starEach [] X.env)) d_._auto_5)(nh:autoParam ((backTo pos (starEach [e] X.env)).any (·.1)=false) d_._auto_5):
 PE X (.Call (.Name "min" np) [e] [{some "default",de,kpos}] pos) (PQ X.K t td):=by
 intro pins s σ H Q I h;show EN (Cp I hg hm (by decide +kernel:bootBuiltins "min"=some (.builtin "min")) ?_);show PyProof.Rows.callWith_kw (AM (he pos pins s σ H _ I h) λus s1 ⟨vs,H1,I1,r,q1⟩=>?_) qd nh;let{x,0,q1}:=q1;let{u,0,rx}:=BL r;change wpAny _ _ (evalAll ((do let v <-eval de X.env;standAt pos;pure v)::[])) _ _ s1
 show wpAny_evalAll_cons (zA (AM (hd pins s1 σ H1 _ I1 q1) λud s2 ⟨dv,H2,I2,rd,q2⟩=>zA (wpAny_standAt (zE (wpAny_evalAll_nil ?_)))));change wpAny _ _ (call (.builtin "min") [u] [(Str.ofString "default",ud)]) _ _ s2;let{p,J,0,hp,q0,hk}:=q2;cases rx;obtain⟨its,rv,hpp⟩:∃its:List Value,AN J its/\(s2.heap.IsList p its.toArray\/s2.heap.IsTuple p its.toArray):=by
  rcases hp with hp | hp
  . let{its,r',pl,_}:=I2.list hp;show{its,r',.inl pl.isList}
  . let{its,r',pl,_}:=I2.tuple hp;show{its,r',.inr pl}
 let hlen:=rv.length;let e0:its=[]->J=[]:=λz=>Hh.mp (by rw[hlen,z];rfl);rcases hk with ⟨U,T,q⟩ | ⟨ns,rfl,q⟩
 . let hl:=T.length;show bE (I2.ok.hd hc) (λi j=>Gw.blt (U.getD i []) (U.getD j [])) hpp (λi j vi vj h tk Q E K hi hj q=>?_) (λv h tk C K=>?_) (λz h tk K=>{dv,H2,I2.kept K,rd,q0 (e0 z)})
   . let look:∀(i:Nat)(v:Value),its[i]?=some v->∃(p:Addr)(k:List Int)(us:List Value),v=.ref p/\U[i]?=some k/\IntsAre us k/\IsTup h p us.toArray:=λi v C=>by
      let hi:i<J.length:=by let:=(zF.mp C).1;lia
      let{p,k,e1,e2,e3,_}:=T.get (i:=i) (x:=J[i]) (by simp[hi]);let{u,hu,ru}:=rv.get (i:=i) (x:=J[i]) (by simp[hi]);rw[C] at hu;cases hu;rw[e1] at ru;cases (show v=Value.ref p from ru);let{_,us,rv',o,ho,hc}:=I2.hok p _ e3;show{p,k,us,0,e2,Fp rv',o,K _ _ ho,hc}
     let{p1,k1,us1,0,g1,i1,t1}:=look i vi hi;let{p2,k2,us2,0,g2,i2,t2}:=look j vj hj;show HT.lt_tupInts (ns:=k1) (ms:=k2) t1 t2 i1 i2 hu ?_;let:Gw.blt (U.getD i []) (U.getD j [])=HT.lexLt k1 k2:=by rw[zI,zI,g1,g2];rfl
     rwa[<-this]
   . let{b1,b2}:=cM (O:=Gw) (λi=>U.getD i []) (its.length-1);let mr:=(zF.mp C).1;generalize eb:argBest (λi j=>Gw.blt (U.getD i []) (U.getD j [])) (its.length-1)=bi at C mr b1 b2;let hy:bi<J.length:=()
     let{u,hu,ru}:=rv.get (i:=bi) (x:=J[bi]) (by simp[hy]);rw[C] at hu;cases hu;let{pa,k,e1,e2,e3,_}:=T.get (i:=bi) (x:=J[bi]) (by simp[hy]);show{J[bi],H2,I2.kept K,ru,q bi J[bi] k (by simp[hy]) e2 λk' pK=>?_};let{j,hj,ej}:=DA pK;let:=b2 j ();let g1:U.getD j []=k':=by rw[zI,zD hj,ej];rfl
     let g2:U.getD bi []=k:=by rw[zI,e2];rfl
     rwa[g1,g2] at this
 . let hI:IntsAre its ns:=Fp rv;let hl:=hI.length;let look:∀(i:Nat)(v:Value),its[i]?=some v->∃t,v=.int (ns.getD i 0) t:=λi v C=>by
    let hi:i<ns.length:=by let:=(zF.mp C).1;lia
    let{u,hu,ru}:=rv.get (i:=i) (x:=.int ns[i]) (by simp[hi]);rw[C] at hu;cases hu;let{t,0}:=(show ∃t,v=Value.int ns[i] t from ru);show{t,by rw[zI,zD hi];rfl}
   show bE (I2.ok.hd hc) (λi j=>decide (ns.getD i 0<ns.getD j 0)) hpp (λi j vi vj h tk Q E K hi hj q=>?_) (λv h tk C K=>?_) (λz h tk K=>{dv,H2,I2.kept K,rd,q0 (e0 z)})
   . let{t1,0}:=look i vi hi;let{t2,0}:=look j vj hj;show PyProof.Rows.lt_int q
   . let{b1,b2}:=argBest_lt (λi=>ns.getD i 0) (its.length-1);let mr:=(zF.mp C).1;generalize eb:argBest (λi j=>decide (ns.getD i 0<ns.getD j 0)) (its.length-1)=bi at C mr b1 b2;let{t,0}:=look bi v C;let hy:bi<ns.length:=()
     show{.int (ns.getD bi 0),H2,I2.kept K,{t,0},q _ ?_ λm hm=>?_}
     . rw[zI,zD hy];show El hy
     . let{j,hj,ej}:=DA hm;let:=b2 j ();let g1:ns.getD j 0=m:=by rw[zI,zD hj,ej];rfl
       rwa[g1] at this
def lH (hA:A.handled=none)(hl:PlainL s.heap l its)
 (q:∀h' C,Kp s h'->Q none { s with heap:=h',toks:=C }):wpAny (model prog w) A (getAttr? (.ref l) (Str.ofString "keys")) Q E s:=by
 let ty:∀C,Shared.TypeIs { s with toks:=C } (.ref l) "list" := λC=>by let{o,J,U,_}:=hl.isList;show⟨o,J,U⟩
 unfold getAttr?;show zA (zA (wpAny_fresh (zE ?_)));unfold getAttrBy?;show zA (Fo ?_);unfold getAttrBy;show zy (zA (DO (ty _) (zA (wpAny_of_eq (show typeLookup (.type "list") (Str.ofString "__getattribute__")=pure (some (.builtin "list.__getattribute__")) from rfl) (zE ?_)))));change wpAny _ _ (getAttrByItsOwn _ _ _ _ _ _) _ _ _;unfold getAttrByItsOwn;show zA (wpAny_of_eq (show hookBefore (.type "list")=pure none from rfl) (zE (zA (Fo (zy ?_)))));change wpAny _ _ (boundAndCalled _ _ _) _ _ _;unfold boundAndCalled;show zA (wpAny_of_eq (show bindSpecial (.builtin "list.__getattribute__") (.ref l)=pure (.builtin "list.__getattribute__",[.ref l]) from rfl) (zE ?_));show B9 (codeAny_call_builtin (by decide +kernel) PySem.am_entry_list_getattribute ?_);show zA (DV (ty _) (b:=true) rfl ?_);show wpAny_of_eq (m':=pure Unit.unit) rfl (zE ?_);unfold Builtin.«object.__getattribute__»;show zA (wpAny_of_eq (m':=pure (Value.ref l,[Value.str (Str.ofString "keys") s.toks])) rfl (zE ?_));show zA (zE (zA (DO (ty _) (zA ?_))));unfold Builtin.ObjectAttr.find;show zA (wpAny_of_eq (m':=pure none) rfl (zE (zA (zE (zA (zE ?_))))));let{o,n,J,U,hd,n5}:=id hl;let{cls,dict,data,slots}:=o;obtain rfl:cls=_:=U;obtain rfl:dict=_:=hd;obtain rfl:data=_:=n5
 show zA (zA (zA (wpAny_loadPart J (zA (wpAny_loadPart J (zE (zE ?_)))))));show zA (wpAny_of_eq (m':=pure Unit.unit) rfl (zE (zA (EM (zE ?_)))));change wpAny _ _ (Builtin.ObjectAttr.noSuchAttribute (Value.ref l) (Str.ofString "keys")) _ _ _;unfold Builtin.ObjectAttr.noSuchAttribute;show zA (zA (zA (DO (ty _) (wpAny_of_eq (m':=pure (Value.type "list")) rfl (zE (wpAny_of_eq (m':=pure "list") rfl (zE ?_)))))));show wpAny_raiseAttrError hA (λh' C e ne=>?_) (by decide +kernel);let{t,u,he}:=ne.there;let I:∀C,Shared.TypeIs { s with heap:=h',toks:=C } (.ref e) "AttributeError" := λC=>{_,he,0};change wpAny _ _ (getattributeRaised _ _ _ _ _ _ _) _ _ _;unfold getattributeRaised;show zA (DV (I _) (b:=true) rfl ?_);show zA (wpAny_of_eq (m':=pure none) rfl (zE ?_));show zA (wpAny_throw ?_);show zA (DV (I _) (b:=true) rfl (zE ?_));show q h' C ne.keeps
def ZJ (a):(Code.builtin "dict.update.loop" a).quiet=true:=plainId_quiet (id := "dict.update.loop") (by decide +kernel) a
def e6 [DecidableEq κ] (mf)(k:κ)(v):(stored mf k v).length<=mf.length+1:=by
 unfold stored;split
 . rw[zB];lia
 . rw[zT];show zH _
meta def Fw (qs:List (AO×Value)):List (AO×Value):=qs.foldl (λa q=>stored a q.1 q.2) []
def j9 (qs)(q:AO×Value):Fw (qs++[q])=stored (Fw qs) q.1 q.2:=by unfold Fw;rw[List.foldl_append];rfl
def kq (qs):(Fw qs).length<=qs.length:=by
 let:∀(qs:List (AO×Value))(a:List (AO×Value)),(qs.foldl (λa q=>stored a q.1 q.2) a).length<=a.length+qs.length:=by
  intro qs
  induction qs with
  | nil=>intro a;show zH _
  | cons q qs o=>intro a;let I:=o (stored a q.1 q.2);let C:=e6 a q.1 q.2;rw[List.foldl_cons,zm];lia
 let:=this qs [];simpa [Fw] using this
section
variable {prog:Program}{w:World}{A:Around}{s0:Shared}{D I l:Addr}{its:List Value}{qs:List (AO×Value)}
def i3 (hA:A.handled=none)(hD:s0.heap.objs.size<=D)(hI:s0.heap.objs.size<=I)(hDI:D≠I)(hl:s0.heap.IsList l its.toArray)(hz:its.length<=sizeLine)(hqs:qs.length=its.length)
 (look:∀(i:Nat)v,its[i]?=some v->∃p kv u k,v=.ref p/\IsTup s0.heap p #[kv,u]/\(As prog w).is k kv=true/\qs[i]?=some (k,u))
 (hR:∀h(J:Nat),Kp s0 h->h.DictOf (As prog w) D (Fw qs)->R (.ok (.ret .none)) { s0 with heap:=h,toks:=J }):
 ∀(r j:Nat)h(J:Nat),its.length-j=r->j<=its.length->Kp s0 h->h.IsListIter I l j->h.DictOf (As prog w) D (Fw (qs.take j)) ->
  codeAny (model prog w) A (.builtin "dict.update.loop" { pos:=[.ref D,.ref I,rawInt j,.none] }) R { s0 with heap:=h,toks:=J }:=by
 let nU:∀h,Kp s0 h->h.IsList l its.toArray:=λh K=>by let{o,C,U}:=hl;show{o,K _ _ C,U}
 intro r
 induction r with
 | zero=>intro j h J hr hj K hit hd;show codeAny_builtin (b:=Builtin.«dict.update.loop») (by rfl) ?_;unfold Builtin.«dict.update.loop»;show zA (wpAny_pyNext_list_end hA hit (nU h K) (by rw[Cr];show Ck ()) λh' b=>?_);show zA (wpAny_of_eq (m':=pure Unit.unit) rfl (zE (zE ?_)));show hR h' J (K.but hI b) ?_;let{o,es,ep,C,oq}:=hd;rw[zR ()] at oq;show{o,es,ep,b D o hDI C,oq}
 | succ r ih=>
  intro j h J hr hj K hit hd;obtain⟨x,hx⟩:∃x,its[j]?=some x:={_,zD ()};let{p,kv,u,k,0,tp,hk,hq}:=look j x hx;show codeAny_builtin (b:=Builtin.«dict.update.loop») (by rfl) ?_;unfold Builtin.«dict.update.loop»;show zA (wpAny_pyNext_list_item hit (nU h K) (by rwa[Cr]) λh' nQ b=>?_);let K':Kp s0 h':=K.but hI λc o U e=>by rwa[b.2 c U]
  let{o,C,U,n,n5}:=tp;show zA (zy (zA (wpAny_tryCatch ?_)));unfold Builtin.Dict.pairItems;show zA (DO (T := "tuple") {o,K' _ _ C,U} ?_);show zA (Di (K' _ _ C) n5 (zE ?_));let hd':h'.DictOf (As prog w) D (Fw (qs.take j)):=by let{o,es,ep,C,oq}:=hd;show{o,es,ep,by rwa[b.2 D hDI],oq}
  show zy (wpAny_dictSet_pairs hk hd' (λh2 hd2 b2=>?_) (zn (kq _) (by rw[zl];lia)));show zE {ZJ _,?_};show ih (j+1) h2 (J+1) () () (λc o e=>?_) ?_ ?_
  . rw[b2.2 c (zb (zk (zU e) hD))];show K' c o e
  . let{o,C,U}:=nQ;show{o,by rwa[b2.2 I (Ne.symm hDI)],U}
  . rw[zj,hq];change h2.DictOf _ D (Fw (qs.take j++[(k,u)]));rwa[j9]
end
def eL (h:Heap):(h.push { cls:=.type "dict",data:=.dict #[] }).DictOf (As prog w) h.objs.size []:=
 ⟨_,#[],0,zM _ rfl,{8},rfl,by
  first | show KeysOf.nil | (intro x o;simp at o) | trivial | decide,by
  first | show .nil | trivial,List.nodup_nil⟩
def kR {its:List Value}(hA:A.handled=none)(hl:PlainL s.heap l its.toArray)(hz:its.length<=sizeLine)(hqs:qs.length=its.length)
 (look:∀(i:Nat)v,its[i]?=some v->∃p kv u k,v=.ref p/\IsTup s.heap p #[kv,u]/\(As prog w).is k kv=true/\qs[i]?=some (k,u))
 (q:∀D h(tk:Nat),s.heap.objs.size<=D->Kp s h->h.DictOf (As prog w) D (Fw qs)->Q (.ref D) { s with heap:=h,toks:=tk }):
 wpAny (model prog w) A (call (.type "dict") [.ref l]) Q E s:=by
 show callType_codes (Q₁:=λobj C=>obj=.ref s.heap.objs.size/\C={ s with heap:=s.heap.push { cls:=.type "dict",data:=.dict #[] } }) PySem.F.kt_called_dict (PySem.F.kt_typeCall_dict_1 _) PySem.F.entry_dict_init ?_ (λobj C e=>?_)
 . show codeAny_call_builtin (by decide +kernel) PySem.F.kt_entry_dict_new (wpAny_of_eq (PySem.F.kt_newCall_dict_1 _) (zE ?_));unfold Builtin.«dict.__new__»;show zA (wpAny_of_eq (m':=pure true) rfl (zE (zA (wpAny_of_eq (m':=pure true) rfl (zE (zA (wpAny_of_eq (m':=pure [Value.type "dict",Value.type "object"]) rfl (zE ?_))))))));show zA (wpAny_newObjAsIs_type (zE {2}))
 . let{2}:=e;show{{_,zM _ rfl,0},PySem.F.args_dict_init_2 _ _,?_};unfold Builtin.«dict.__init__»;let h0:Kp s (s.heap.push { cls:=.type "dict",data:=.dict #[] }):=λb o e=>zG _ e;let nY:∀h,Kp s h->PlainL h l its.toArray:=λh K=>by let{o,n,J,hr}:=hl;show{o,n,K _ _ J,hr}
   show zA (zA (zA (DO (T := "dict") {_,zM _ rfl,0} (zE (zA (zE (zE ?_)))))));change wpAny _ _ (Builtin.Dict.updateFrom "dict.__init__" s.heap.objs.size (.ref l) [] .none) _ _ _;unfold Builtin.Dict.updateFrom;show zA (DO (T := "list") (let {o,J,hc,_}:=(nY _ h0).isList;⟨o,J,hc⟩) ?_);show zA (lH hA (nY _ h0) λh1 qO K1=>?_);let U:Kp s h1:=λb o e=>K1 b o (h0 b o e);show zA (EM (zA (Ho (nY _ U).isList (zE {ZJ _,?_}))));let I:s.heap.objs.size<h1.objs.size:=zU (K1 _ _ (zM _ rfl));show i3 (A:=A.in1) (s0:=s) (l:=l) (its:=its) (qs:=qs) hA (zH _) (F6 I) (zb I) hl.isList hz hqs look ?_ its.length 0 _ qO rfl (zd _) (λb o e=>zG _ (U b o e)) ?_ ?_
   . show λh tk K hd=>{0,q _ h tk (zH _) K hd}
   . show{_,zM _ rfl,2}
   let{o,es,ep,J,hr}:=eL (prog:=prog) (w:=w) s.heap;show{o,es,ep,zG _ (K1 _ _ J),hr}
def kM (H:Hp)(ys:List V)(ps:List (AO×V)):Prop:=ps.length=ys.length/\∀(i:Nat)y,ys[i]?=some y->∃p k v,y=.ref p/\H p=some (.tup [kV k,v])/\ps[i]?=some (k,v)
meta def NN (ps:List (AO×V)):List (AO×V):=ps.foldl (λa p=>Au a p.1 p.2) []
def X0:∀(ps:List (AO×V))(qs:List (AO×Value))(a:List (AO×V))(b:List (AO×Value)),KV ps qs->KV a b->KV (ps.foldl (λa p=>Au a p.1 p.2) a) (qs.foldl (λa q=>stored a q.1 q.2) b)
 | [],[],_,_,_,h=>h
 | p::ps,q::qs,a,b,h,h'=>by
  cases h with
  | cons o C=>rw[List.foldl_cons,List.foldl_cons];show X0 ps qs _ _ C ?_;rw[<-o.1];show KV.put h' p.1 o.2
 | [],_::_,_,_,h,_=>by cases h
 | _::_,[],_,_,h,_=>by cases h
def f7 (ps):(NN ps).length<=ps.length:=by
 let:∀(ps:List (AO×V))(a:List (AO×V)),(ps.foldl (λa p=>Au a p.1 p.2) a).length<=a.length+ps.length:=by
  intro ps
  induction ps with
  | nil=>intro a;show zH _
  | cons q qs o=>intro a;let I:=o (Au a q.1 q.2);let C:=OP a q.1 q.2;rw[List.foldl_cons,zm];lia
 let:=this ps [];simpa [NN] using this
inductive R3 (K:AK)(xs:List V)(H:Hp)(Q:VK):Prop
 | mk:∀l ys ps,(xs=[.ref l])->(AD K H l ys)->(kM H ys ps)->(∀d,H d=none->Q (.ref d) (upd H d (.dK (NN ps))))->R3 K xs H Q
def fb (hc:X.calm=true):Bx X (.type "dict") (R3 X.K):=by
 intro pins s σ H xs us Q I r h;let{l,ys,ps,0,hq,{nq,pU},q}:=h;let{u,0,rx}:=BL r;cases rx;let{its,rv,pl,hz}:=I.list hq;let hlen:=rv.length;let both:∀(i:Nat),i<its.length->∃(p:Addr)(C u:Value)(k:AO)(v:V),its[i]?=some (.ref p)/\IsTup s.heap p #[C,u]/\(As X.prog X.w).is k C=true/\AR v u/\ps[i]?=some (k,v):=λi hi=>by
  let hy:i<ys.length:=()
  let{p,k,v,e1,e2,e3}:=pU i ys[i] (by simp[hy]);let{u,hu,ru}:=rv.get (i:=i) (x:=ys[i]) (by simp[hy]);rw[e1] at ru;cases (show u=Value.ref p from ru);let{_,us,rv',tp}:=I.hok p _ e2;let{a,b,0,ra,rb}:=U9 rv';show{p,a,b,k,v,hu,tp,Fj ra,rb,e3}
 obtain⟨qs,hql,hqk⟩:∃qs:List (AO×Value),qs.length=its.length/\∀(i:Nat),i<its.length->∃(p:Addr)(C u:Value)(k:AO)(v:V),its[i]?=some (.ref p)/\IsTup s.heap p #[C,u]/\(As X.prog X.w).is k C=true/\AR v u/\ps[i]?=some (k,v)/\qs[i]?=some (k,u):=by
  let:∀m,m<=its.length->∃qs:List (AO×Value),qs.length=m/\∀(i:Nat),i<m->∃(p:Addr)(C u:Value)(k:AO)(v:V),its[i]?=some (.ref p)/\IsTup s.heap p #[C,u]/\(As X.prog X.w).is k C=true/\AR v u/\ps[i]?=some (k,v)/\qs[i]?=some (k,u):=by
   intro m
   induction m with
   | zero=>intro _;show{[],0,λi hi=>absurd hi (Hk _)}
   | succ m ih=>
    intro hm;let{qs,J,U}:=ih ();let{p,C,u,k,v,g1,g2,g3,g4,g5}:=both m ();show{qs++[(k,u)],by rw[zT,J];rfl,λi hi=>?_};by_cases c:i=m
    . subst c;show{p,C,u,k,v,g1,g2,g3,g4,g5,by rw[zh (),J,Nat.sub_self];rfl}
    . let{p,C,u,k,v,f1,f2,f3,f4,f5,f6}:=U i ();show{p,C,u,k,v,f1,f2,f3,f4,f5,by rwa[zi ()]}
  show this its.length (zH _)
 let C:KV ps qs:=by
  let:∀(ps:List (AO×V))(qs:List (AO×Value)),ps.length=qs.length->(∀i,i<ps.length->∃k v u,ps[i]?=some (k,v)/\qs[i]?=some (k,u)/\AR v u)->KV ps qs:=by
   intro ps
   induction ps with
   | nil=>intro qs e _;cases qs with
    | nil=>show .nil
    | cons _ _=>simp at e
   | cons p ps ih=>
    intro qs e h;cases qs with
    | nil=>simp at e
    | cons q qs=>let{k,v,u,J,U,h3}:=h 0 (by simp);simp at J U;subst J U;show .cons {0,h3} (ih qs (by simpa using e) λi hi=>?_);let{k,v,u,J,U,h3}:=h (i+1) (by simp;lia);show{k,v,u,by simpa using J,by simpa using U,h3}
  show this ps qs () λi hi=>?_;let{p,C,u,k,v,_,3,f4,f5,f6}:=hqk i ();show⟨k,v,u,f5,f6,f4⟩
 show kR (its:=its) (qs:=qs) (I.ok.hd hc) pl () hql (λi v hv=>?_) (λD h tk hD K dd=>?_)
 . let{p,C,u,k,v',f1,f2,f3,f4,f5,f6}:=hqk i (zF.mp hv).1;rw[hv] at f1;cases f1;show{p,C,u,k,0,f2,f3,f6}
 . let hfr:H D=none:=I.hok.fresh hD;let zz:(NN ps).length<=sizeLine:=zn (f7 ps) ();show{.ref D,_,I.laid (a:=D) (o:=.dK (NN ps)) (t':=tk) K hD (Sq zz (beq_eq_false_iff_ne.mpr (Ne.symm (zb (zk I.big hD)))) (X0 ps qs [] [] C .nil) dd),0,q D hfr}
end L2
namespace L2
open PySem PySem.Spec PyProof.Rows
def O1 (hm:X.mg x=none)(U:autoParam (Gl X x) d_._auto_5)(C:autoParam (bootBuiltins x=some (.type T)) d_._auto_6)(J:x ≠ "__name__" := by decide) (o:autoParam ((x==("__debug__" : Str))=false) d_._auto_2):PE X (.Name x pos) (tC (.ty T)):=
 λpins s σ H Q I h=>Cp I U hm C {.ty T,H,I,0,h} J o
inductive QX (K:AK)(xs:List V)(H:Hp)(Q:VK):Prop
 | mk:∀x T t b,(xs=[x,.ty T])->(Dq K H x t)->(PySem.W.kitOne K t (.type T)=some b)->(Q (.bl b) H)->QX K xs H Q
def Om:Bx X (.builtin "isinstance") (QX X.K):=by intro pins s σ H xs us Q I r h;let{x,T,t,b,0,ty,e,q}:=h;let{u,o,0,J,U}:=U9 r;cases (show o=Value.type T from U);show fu I J ty e λC=>{.bl b,H,I.tok C,0,q}
def JX {st:Stmt}:PS X st (λ_ _ _=>False):=λ_ _ _ _ _ _ h=>h.elim
section
variable {prog:Program}{w:World}{A:Around}{s0:Shared}{I l:Addr}{bs:List Bool}
def gZ (hA:A.handled=none)(hI:s0.heap.objs.size<=I)(hl:s0.heap.IsList l (bs.map Value.bool).toArray)
 (hR:∀h C,Kp s0 h->R (.ok (.ret (.bool (bs.all id)))) { s0 with heap:=h,toks:=C }):
 ∀r j h C,bs.length-j=r->j<=bs.length->Kp s0 h->h.IsListIter I l j->(bs.take j).all id=true ->
  codeAny (model prog w) A (.builtin "all.loop" { pos:=[.ref I] }) R { s0 with heap:=h,toks:=C }:=by
 let nU:∀h,Kp s0 h->h.IsList l (bs.map Value.bool).toArray:=λh K=>by let{o,ho,U}:=hl;show{o,K _ _ ho,U}
 intro r
 induction r with
 | zero=>intro j h C hr hj K hit J;show codeAny_builtin PySem.F.entry_all_loop ?_;unfold Builtin.«all.loop»;show zA (wpAny_pyNext_list_end hA hit (nU h K) (by rw[Cr];show Ck (by rw[zB];lia)) λh' b=>?_);show zA (EM (zE ?_));rw[zR ()] at J;let:=hR h' C (K.but hI b);rwa[J] at this
 | succ r ih=>
  intro j h C hr hj K hit J;obtain⟨x,hx⟩:∃x,bs[j]?=some x:={_,zD ()};show codeAny_builtin PySem.F.entry_all_loop ?_;unfold Builtin.«all.loop»;show zA (wpAny_pyNext_list_item hit (nU h K) (x:=.bool x) (by rw[Cr,zO,hx];rfl) λh' nQ b=>?_);let K':Kp s0 h':=K.but hI λc o U e=>by rwa[b.2 c U]
  show zA (zy (Fh (zA (wpAny_letGo ?_))));cases x with
  | true=>show zE {0,?_};show ih (j+1) h' C () () K' nQ (by rw[zj,hx,List.all_append,J];rfl)
  | false=>
   show zA (EM (zE ?_));let e:bs.all id=false:=by
    cases z:bs.all id with
    | false=>rfl
    | true=>have:=Gf.mp z false (zN hx);simp at this
   let:=hR h' C K';rwa[e] at this
end
def WH:∀{bs:List Bool}{its:List Value},AN (bs.map V.bl) its->its=bs.map Value.bool
 | [],[],_=>rfl
 | b::bs,u::its,h=>by
  cases h with
  | cons C o=>rw[Bf,<-WH o,show u=Value.bool b from C]
 | [],_::_,h=>by cases h
 | _::_,[],h=>by cases h
inductive Ip (K:AK)(xs:List V)(H:Hp)(Q:VK):Prop
 | mk:∀(p:Addr)(bs:List Bool),(xs=[.ref p])->(AD K H p (bs.map V.bl))->(Q (.bl (bs.all id)) H)->Ip K xs H Q
def Ff (hc:X.calm=true):Bx X (.builtin "all") (Ip X.K):=by
 intro pins s σ H xs us Q I r h;let{p,bs,0,hq,q}:=h;let{u,0,J}:=BL r;cases J;let{its,U,C,hz}:=I.list hq;rw[WH U] at C;show B9 (codeAny_call_builtin PySem.F.plain_all PySem.F.entry_all (wpAny_of_eq (m':=pure Unit.unit) rfl (zE ?_)));unfold Builtin.all;show zA (wpAny_of_eq (m':=pure (Value.ref p)) rfl (zE (zA (Ho C.isList (zE {0,?_})))));show gZ (s0:=s) (l:=p) (bs:=bs) (I.ok.hd hc) (zH _) C.isList ?_ bs.length 0 _ s.toks rfl (zd _) (λb o e=>zG _ e) ?_ rfl
 . show λh tk K=>{.bl _,H,I.kept K,0,q}
 . show{_,zM _ rfl,2}
def eM {h:Heap}(led:Bool):(h.push { cls:=.type "set",data:=.set #[] 0 (SetTable.fresh 0 0 led) }).SetOf (intKind prog w) h.objs.size (λ_=>false) 0:=by
 show⟨_,#[],0,_,zM _ rfl,{8},rfl,?_,λk=>{λz=>by simp at z,λ⟨e,he,_⟩=>by simp at he},by decide,?_,rfl⟩
 . first | show ElemsOf.nil | trivial | (intro e he;simp at he)
 . cases led <;> first | rfl | decide +kernel
def lq (hA:A.handled=none)(hl:s.heap.IsTuple l its.toArray)(hi:IntsAre its ns)(hz:its.length+1<scanBound)
 (q:∀h tk,Kp s h->h.SetOf (intKind prog w) s.heap.objs.size (λk'=>(firstMet (λi=>ns.getD i 0) its.length).any λx=>x==k') (firstMet (λi=>ns.getD i 0) its.length).length->Q (.ref s.heap.objs.size) { s with heap:=h,toks:=tk }):
 wpAny (model prog w) A (call (.type "set") [.ref l]) Q E s:=by
 show B9 (codeAny_of_tree (zE {Code.quiet_builtin _ (by decide +kernel),codeAny_builtin PySem.F.entry_type_call ?_}));unfold Builtin.«type.__call__»;dsimp only;rw[if_neg (by rw[PySem.F.called_set.notType];decide)];rw[if_neg (by rw[PySem.F.called_set.canCreate];decide)];let{c,tl,hm}:=PySem.F.called_set.mro;show zA (wpAny_of_eq (PySem.F.typeCall_set_1 _) (zE (zA (wpAny_of_eq hm (zE ?_)))));show zA (wpAny_of_eq PySem.F.called_set.made (zE (zA (zE ?_))));show zA (zy (B9 (codeAny_mono (code_set_new_1 (E:=E) (.ref l) (Q₁:=λobj I=>obj=.ref s.heap.objs.size/\∃led,I={ s with heap:=s.heap.push { cls:=.type "set",data:=.set #[] 0 (SetTable.fresh 0 0 led) } }) λled=>{0,led,0}) λr I e=>?_)))
 match r,e with
 | .ok (.ret obj),e=>
  let{0,led,0}:=e;let h0:Kp s (s.heap.push { cls:=.type "set",data:=.set #[] 0 (SetTable.fresh 0 0 led) }):=λb o e=>zG _ e;let ht:∀h,Kp s h->h.IsTuple l its.toArray:=λh K=>by let{o,ho,hr}:=hl;show{o,K _ _ ho,hr}
  let mr:l<s.heap.objs.size:=by let{o,ho,_}:=hl;show zU ho
  let C:Shared.TypeIs { s with heap:=s.heap.push { cls:=.type "set",data:=.set #[] 0 (SetTable.fresh 0 0 led) } } (.ref s.heap.objs.size) "set" := {_,zM _ rfl,0};change wpAny _ _ _ _ _ _;show zA (DV C PySem.F.called_set.sub ?_);show zA (zy ?_);unfold callSpecial?;show zA (wpAny_specialOf C PySem.F.called_set.init.lookup (zy (zA (wpAny_of_eq (PySem.F.called_set.init.bind _) (zE (zA (B9 (codeAny_call_builtin PySem.F.called_set.init.plain PySem.F.entry_set_init (check_set_init_1 C ?_)))))))));unfold Builtin.«set.__init__»;show zA (wpAny_of_eq (m':=pure Unit.unit) rfl (zE ?_));dsimp only;show zA (zA (zA (DO C (wpAny_of_eq (m':=pure (Value.type "set")) rfl (zE (wpAny_of_eq (m':=pure "set") rfl (zE ?_)))))));show zA (wpAny_of_eq (m':=pure Unit.unit) rfl (zE (zA (zE ?_))));show zA (zA (zA (wpAny_load (zM _ rfl) ?_)));show wpAny_of_eq (m':=pure (#[],0,SetTable.fresh 0 0 led)) (by cases led <;> rfl) (zE (wpAny_of_eq (m':=pure false) (by cases led <;> rfl) (zE ?_)));let J:∀h tk,Kp s h->Shared.TypeIs { s with heap:=h,toks:=tk } (.ref l) "tuple" := λh tk K=>by let{o,ho,hr}:=ht h K;show⟨o,ho,hr.1⟩
  change wpAny _ _ (Builtin.Frozenset.updateFrom "set.__init__" s.heap.objs.size (.ref l) >>= _) _ _ _;unfold Builtin.Frozenset.updateFrom;show zA (zA (zA (DV (J _ _ h0) PySem.F.sub_tuple_set (DV (J _ _ h0) (b:=false) rfl ?_))));show zA (DO (J _ _ h0) ?_);show zA (wpAny_pyIter_tuple (ht _ h0) (zA (wpAny_runValue ?_)));let U:(s.heap.push { cls:=.type "set",data:=.set #[] 0 (SetTable.fresh 0 0 led) }).objs.size=s.heap.objs.size+1:=Co ..;show codeAny_set_update_loopS (Walks.toS (Walks.tuple (A:=(A.under (Code.builtin "type.__call__" { pos:=[.type "set",.ref l] })).in1.in1) hA (s.heap.push { cls:=.type "set",data:=.set #[] 0 (SetTable.fresh 0 0 led) }).objs.size l (zb (by rw[U];show EJ mr)) its.toArray)) s.heap.objs.size ?_ (λi=>ns.getD i 0) ?_ (by simpa using hz) its.toArray.size 0 _ rfl (zd _) ?_ ?_ ?_
  . rw[U];intro z;rcases zS.mp z with z | z
    . show absurd z (zb (Jq _))
    . show absurd (zv.mp z) (Nat.ne_of_gt mr)
  . intro i v hv;rw[Cr] at hv;show hi.int_at i v hv
  . show{{_,zM _ rfl,2},ht _ λb o e=>zG _ (h0 b o e)}
  . let:=eM (prog:=prog) (w:=w) (h:=s.heap) led;let{o,es,ep,t,ho,hr}:=this;show{o,es,ep,t,zG _ ho,hr}
  . intro s' mv so;show zE (zE (zE (zE ?_)));let{h',g',d',t',o'}:=s';obtain rfl:g'=s.gens:=mv.gens;obtain rfl:d'=s.drawn:=mv.drawn;obtain rfl:o'=s.os:=mv.os;show q h' t' (λb o e=>mv.heap b o ?_ (zG _ (h0 b o e))) (by simpa using so);let hb:b<s.heap.objs.size:=zU e;intro z;rw[U] at z;rcases zS.mp z with z | z
    . show absurd z (zb hb)
    . show absurd (zv.mp z) (zb (EJ hb))
 | .ok .next,e=>show e.elim
 | .ok .brk,e=>show e.elim
 | .ok .cont,e=>show e.elim
 | .error v,e=>show e
def bO {ns:List Int}(h:ns.Nodup):∀k,k<=ns.length->firstMet (λi=>ns.getD i 0) k=ns.take k
 | 0,_=>rfl
 | k+1,hk=>by
  rw[firstMet_succ,bO h k ()];let o:ns[k]?=some (ns.getD k 0):=by rw[zI,zD ()];rfl
  unfold step_dedup;rw[if_neg,zj,o]
  . rfl
  . intro z;let{y,I,e}:=EE.mp z;let e':y=ns.getD k 0:=by simpa using e
    let{j,J,C}:=DA I;rw[zl] at J;rw[List.getElem_take] at C;let{pK,U}:=zF.mp o;let:=(List.nodup_iff_pairwise_ne.mp h);let:=zq.mp this j k () () ();show this (by rw[C,U,e'])
section
variable {X:Cx}
inductive Jb (K:AK)(xs:List V)(H:Hp)(Q:VK):Prop
 | mk:∀(p:Addr)(ns:List Int),(xs=[.ref p])->(AB K H p (ns.map V.int))->(ns.length<=1000)->(∀d S,H d=none->Q (.ref d) (upd H d (.set S (firstMet (λi=>ns.getD i 0) ns.length).length)))->Jb K xs H Q
def jy (hc:X.calm=true):Bx X (.type "set") (Jb X.K):=by intro pins s σ H xs us Q I r h;let{p,ns,0,hq,hl,q}:=h;let{u,0,U}:=BL r;cases U;let{its,rv,pl,hz}:=I.tuple hq;let hi:=Fp rv;let o:=hi.length;show lq (I.ok.hd hc) pl hi (by let:scanBound=4096:=rfl;lia) λh J K C=>?_;rw[o] at C;show{.ref s.heap.objs.size,_,I.laid (a:=s.heap.objs.size) (t':=J) K (zH _) (show Aj X.prog X.w _ _ _ (.set _ _) from C),0,q _ _ I.fresh}
inductive JS (xs:List V)(H:Hp)(Q:VK):Prop
 | mk:∀(a:Addr)(S:Int->Bool)(n:Nat),(xs=[.ref a])->(H a=some (.set S n))->(Q (.int n) H)->JS xs H Q
def jZ:Bx X (.builtin "len") JS:=by intro pins s σ H xs us Q I r h;let{a,S,n,0,ha,q}:=h;let{u,0,C}:=BL r;cases C;let{o,es,ep,t,J,ex,hd,3,hb,hf,U}:=(show Aj X.prog X.w H s.heap a (.set S n) from I.hok a _ ha);show call_len_set J ex hd hf (by let:scanBound=4096:=rfl;lia) {.int n,H,I.tok _,{_,by rw[U]},q}
def XC (r:V->List V->Hp->VK->Prop)(to:TE)(t:TA):TE:=λσ H Q=>to σ H λx H1=>(∃p o,x=.ref p/\H1 p=some (.tup o))/\t σ H1 λxs C=>r x xs C Q
variable {o e:Expr}{es:List Expr}{to:TE}{t:TA}{name:Str}{apos mw:Pos}{id:String}{r:V->List V->Hp->VK->Prop}
def He (slot:Slot "tuple" name id) (J:typeOf (.builtin id)=pure (.type "method_descriptor")) (hm:JJ X id r)(ho:PE X o to)(ha:PA X (e::es) t)
 (qu:autoParam (attributeBase o name X.env (eval o X.env)=eval o X.env) d_._auto_5)
 (C:autoParam (((backTo mw (starEach (e::es) X.env)).all (λx=>!x.1) && (backToKw mw (keywordEach [] X.env)).all (λx=>x.1.isSome)
  && decide ((e::es).length+([]:List Keyword).length+(if ([]:List Keyword).isEmpty then 0 else 1)<30))=true) d_._auto_5)
 (qk:autoParam ((apos.endLine==mw.line)=true) d_._auto_5)(hs:autoParam (starEach (e::es) X.env=(false,eval e X.env)::starEach es X.env) d_._auto_5)(pV:autoParam ((backTo mw (starEach es X.env)).any (·.1)=false) d_._auto_5):
 PE X (.Call (.Attribute o name apos) (e::es) [] mw) (XC r to t):=by
 intro pins s σ H Q I h;show wpAny_Call_method_late qu C qk rfl (AM (ho pins s σ H _ I h) λv s1 ⟨x,H1,I1,r1,⟨p,ys,ex,hp⟩,q1⟩=>?_);subst ex;cases (show v=Value.ref p from r1);let{{_,o2,U,hd2},its,rv,ob,qI,pz,_}:=(show Aj X.prog X.w H1 s1.heap p (.tup ys) from I1.hok p _ hp);show{"tuple",id,PySem.F.plainAttrs_tuple,slot,J,⟨ob,qI,pz⟩,λa ea=>?_,?_}
 . cases ea;show⟨o2,U,hd2⟩
 let hA:=ha mw pins s1 σ H1 _ I1 q1;rw[hs] at hA ⊢;show Calls.callWith_builtin (by change (false || (backTo mw (starEach es X.env)).any (·.1))=false;rw[pV] <;> rfl) (Calls.evalArgs_plain ?_);show AM hA λus s2 ⟨vs,H2,I2,r2,q2⟩=>hm pins s2 σ H2 (.ref p) vs (.ref p) us Q I2 rfl r2 q2
end
def eI {its:Array Value}(hi:IntsAre its.toList ns)(hv:ns[i]?=some v)(qQ:∀j,j<i->ns[j]?≠some v)
 (f:Nat->Option PySem.Fin×Unit->Sem (ForInStep (Option PySem.Fin×Unit)))
 (hf:∀j x,f j x=(match its[j]? with
  | some y=>do
   let b <-eqBool y (.int v tv)
   if b=true then do
    let r <-retInt j
    pure (.done (some r,Unit.unit))
   else pure (.yield (none,Unit.unit))
  | _=>pure (.yield (none,Unit.unit))))
 (s)(hR:∀tk,R (some (.done (.ret (.int i s.toks))),Unit.unit) { s with toks:=tk }):
 ∀r j b,i-j=r->j<=i->wpAny (model prog w) A (forIn (List.range' j (its.size-j) 1) b f) R E s:=by
 have hsz:its.size=ns.length:=by have:=hi.length;simpa using this
 have hil:i<ns.length:=(zF.mp hv).1;have look:∀j,j<ns.length->∃t,its[j]?=some (.int (ns.getD j 0) t):=λj hj=>by
  have hj':j<its.size:=()
  let{t,ht}:=hi.int_at j (its[j]'hj') (by rw[Array.getElem?_toList,Array.getElem?_eq_getElem hj']);show{t,by rw[Array.getElem?_eq_getElem hj',ht]}
 intro r
 induction r with
 | zero=>
  intro j b hr hj;obtain rfl:j=i:=()
  rw[show its.size-j=(its.size-j-1)+1 by lia,List.range'_succ,List.forIn_cons,hf];let{t,ht}:=look j hil;rw[ht];show zA (zA (wpAny_eqBool_int ?_));have e:ns.getD j 0=v:=by rw[zI,hv];rfl
  rw[e,show (v==v)=true by simp];show zA (zA (wpAny_mkInt (zE (zE (zE ?_)))));show hR _
 | succ r ih=>
  intro j b hr hj;rw[show its.size-j=(its.size-(j+1))+1 by lia,List.range'_succ,List.forIn_cons,hf];let{t,ht}:=look j ();rw[ht];show zA (zA (wpAny_eqBool_int ?_));have hj':ns[j]?=some (ns.getD j 0):=by rw[zI,zD ()];rfl
  have e:¬ ns.getD j 0=v:=λz=>qQ j () (by rw[hj',z]);rw[show (ns.getD j 0==v)=false by simpa using e];show zE ?_;show ih (j+1) _ () ()
def Ju:JJ X "tuple.index" (λx xs H Q=>∃p,∃(ns:List Int)(i:Nat)(v:Int),x=.ref p/\xs=[.int v]/\AB X.K H p (ns.map V.int)/\ns[i]?=some v/\(∀j,j<i->ns[j]?≠some v)/\Q (.int i) H):=by
 intro pins s σ H x xs v us Q I J r h;let{p,ns,i,k,2,hq,hi,qQ,q}:=h;cases (show v=Value.ref p from J);let{u,0,t,0}:=BL r;let{its,U,{ob,C,pz,n,n5},hz}:=I.tuple hq;let hI:=Fp U;show B9 (codeAny_call_builtin PySem.F.slot_tuple_index.plain PySem.F.entry_tuple_index (PySem.F.slot_tuple_index.check _ _ _ _ _ _ _ _ ⟨ob,C,pz⟩ (PySem.F.args_tuple_index_2 _ _) ?_));unfold Builtin.«tuple.index»;show zA (wpAny_of_eq (m':=pure (Value.ref p,[Value.int k t])) rfl (zE ?_));show zA (zA (Di C n5 (zE ?_)));show zA (zE (zA (zE (zA ?_))));rw[Std.Legacy.Range.forIn_eq_forIn_range'];let o:(Std.Legacy.Range.mk 0 (min its.toArray.size its.toArray.size) 1 (by decide)).size=its.toArray.size-0:=by change (min its.toArray.size its.toArray.size-0+1-1)/1=_;rw[Nat.min_self];lia
 rw[o];show eI (its:=its.toArray) (ns:=ns) (v:=k) (tv:=t) (i:=i) hI hi qQ _ (λj x=>by rfl) s (λtk=>?_) i 0 _ () (zd _);show zE {.int i,H,I.tok _,{1},q}
def bD:JJ (Bk X pl N' sc fp s3 H3) "tuple.index" (λx xs H Q=>∃p,∃(ns:List Int)(i:Nat)(v:Int),x=.ref p/\xs=[.int v]/\AB X.K H p (ns.map V.int)/\ns[i]?=some v/\(∀j,j<i->ns[j]?≠some v)/\Q (.int i) H):=Ju
def YV (a):(Code.builtin "list.count.loop" a).quiet=true:=Code.quiet_builtin a (by decide +kernel)
def gf (J:s.heap.IsList l its.toArray)(hi:IntsAre its ns)(hR:∀t U,R (.ok (.ret (.int (ns.countP λx=>x==v:Nat) t))) { s with toks:=U }):
 ∀r j,its.length-j=r->j<=its.length->codeAny (model prog w) A (.builtin "list.count.loop" { pos:=[.ref l,.int v tv,rawInt j,rawInt ((ns.take j).countP λx=>x==v:Nat)] }) R s:=by
 let hil:=hi.length;intro r
 induction r with
 | zero=>
  intro j hr hj;show codeAny_builtin (b:=Builtin.«list.count.loop») (by rfl) ?_;unfold Builtin.«list.count.loop»;let{o,C,hc,n,hd}:=id J;show zA (zA (Di C hd (zE ?_)));let e:its.toArray[(j:Int).toNat]?=none:=by rw[Cr,Bz];show Ck ()
  rw[e];rw[zR ()];show zA (wpAny_mkInt (zE (hR _ _)))
 | succ r ih=>
  intro j hr hj;show codeAny_builtin (b:=Builtin.«list.count.loop») (by rfl) ?_;unfold Builtin.«list.count.loop»;let{o,C,hc,n,hd}:=id J;show zA (zA (Di C hd (zE ?_)));obtain⟨x,hx⟩:∃x,its[j]?=some x:={_,zD ()};let{t,0}:=hi.int_at j x hx;let e:its.toArray[(j:Int).toNat]?=some (.int (ns.getD j 0) t):=by rwa[Cr,Bz]
  rw[e];show zA (wpAny_eqBool_int ?_);show zE {YV _,?_};let I:ns[j]?=some (ns.getD j 0):=by rw[zI,zD ()];rfl
  let st:(ns.take (j+1)).countP (λx=>x==v)=(ns.take j).countP (λx=>x==v)+(if (ns.getD j 0==v)=true then 1 else 0):=by rw[zj,I,List.countP_append];change _+List.countP _ [ns.getD j 0]=_;rw[List.countP_cons,List.countP_nil,Nat.zero_add]
  let:=ih (j+1) () ();rw[st] at this;cases c:(ns.getD j 0==v) with
  | true=>rwa[c] at this
  | false=>rwa[c] at this
def lj:JJ X "list.count" (λx xs H Q=>∃p,∃(ns:List Int)(v:Int),x=.ref p/\xs=[.int v]/\AD X.K H p (ns.map V.int)/\Q (.int (ns.countP λx=>x==v:Nat)) H):=by intro pins s σ H x xs u us Q I J r h;let{p,ns,v,2,hq,q}:=h;cases (show u=Value.ref p from J);let{w',0,t,0}:=BL r;let{its,U,o,hz}:=I.list hq;let hi:=Fp U;show B9 (codeAny_call_builtin PySem.F.slot_list_count.plain PySem.F.entry_list_count (PySem.F.slot_list_count.check _ _ _ _ _ _ _ _ o.isList.typeIs (PySem.F.args_list_count_2 _ _) ?_));unfold Builtin.«list.count»;show zA (wpAny_of_eq (m':=pure (Value.ref p,Value.int v t)) rfl (zE (zE {YV _,?_})));show gf (s:=s) (ns:=ns) o.isList hi ?_ its.length 0 () (zd _);show λC tk=>{.int _,H,I.tok _,{C,0},q}
end L2
namespace WM
open L2
structure En where
 h:Int
 l:Int
 u:Option Int
 d:Option Int
def Cd (es fs:List En)(c:Int×Int):Prop:=∃e∈es,∃f∈fs,f.h=e.h/\c=(e.l+f.l,e.h)
def CB (P:Int×Int->Prop):Option (Int×Int)->Prop
 | none=>∀c,¬ P c
 | some c=>P c/\∀o,P o->c.1<o.1\/(c.1=o.1/\c.2<=o.2)
def CB.uniq :∀{a b:Option (Int×Int)},CB P a->CB P b->a=b
 | none,none,_,_=>rfl
 | none,some c,h,g=>absurd g.1 (h c)
 | some c,none,h,g=>absurd h.1 (g c)
 | some a,some b,h,g=>by
  let J:=h.2 b g.1;let I:=g.2 a h.1;let C:a.1=b.1:=()
  let o:a.2=b.2:=()
  rw[show a=b from Prod.ext C o]
def CB.congr (e:∀c,P c↔P' c):∀{a:Option (Int×Int)},CB P a->CB P' a
 | none,h=>λc z=>h c ((e c).mpr z)
 | some _,h=>{(e _).mp h.1,λo z=>h.2 o ((e o).mpr z)}
def Eu (es:List En):Prop:=es.Pairwise λa b=>a.h<b.h
meta def Dt (es:List En)(h:Int):Option En:=es.find? λe=>decide (e.h=h)
def S0 (I:Eu es):Dt es h=some e↔e∈es/\e.h=h:=by
 unfold Dt;constructor
 . intro z;show{List.mem_of_find?_eq_some z,of_decide_eq_true (List.find?_some (p:=λe:En=>decide (e.h=h)) z)}
 . rintro ⟨hm,rfl⟩
   induction es with
   | nil=>simp at hm
   | cons a es C=>
    rw[Hu];rcases zS.mp hm with rfl | hm'
    . simp
    . let o:=Fv.mp I;let:=o.1 e hm';rw[ze (show ¬ a.h=e.h by lia)];show C o.2 hm'
def ZU :Dt es h=none↔∀e∈es,e.h≠h:=by unfold Dt;rw[List.find?_eq_none];show{λz e he=>λq=>z e he (zX q),λz e he=>λq=>z e he (of_decide_eq_true q)}
meta def Et (fs:List En)(e:En):Option (Int×Int):=(Dt fs e.h).map λf=>(e.l+f.l,e.h)
def aJ (hf:Eu fs)(c:Int×Int):c∈es.filterMap (Et fs)↔Cd es fs c:=by
 rw[List.mem_filterMap];constructor
 . rintro ⟨e,he,z⟩;unfold Et at z;cases q:Dt fs e.h with
   | none=>rw[q] at z;cases z
   | some f=>rw[q] at z;let{C,I}:=(S0 hf).mp q;show{e,he,f,C,I,(zW z).symm}
 . rintro ⟨e,he,f,o,C,rfl⟩;show{e,he,?_};unfold Et;rw[(S0 hf).mpr ⟨o,C⟩];rfl
def Oo {α:Type}{l:List α}{x:α}(p:α->Bool)(h:l[i]?=some x):(l.take (i+1)).filter p=(l.take i).filter p++(if p x=true then [x] else []):=by rw[zj,h,List.filter_append];change _++List.filter p [x]=_;rw[Jr];rfl
def kJ {α o:Type}{l:List α}{x:α}(f:α->Option o)(h:l[i]?=some x):(l.take (i+1)).filterMap f=(l.take i).filterMap f++(f x).toList:=by
 rw[zj,h,List.filterMap_append];change _++List.filterMap f [x]=_;cases e:f x with
 | none=>rw[List.filterMap_cons_none e];rfl
 | some y=>rw[List.filterMap_cons_some e];rfl
end WM
namespace L2
open PySem PyProof.Rows
def i8 (h:(ps.map (·.1)).Nodup):NN ps=ps:=by
 let:∀(ps a:List (AO×V)),((a++ps).map (·.1)).Nodup->ps.foldl (λa p=>Au a p.1 p.2) a=a++ps:=by
  intro ps
  induction ps with
  | nil=>intro a _;rw[Bl];rfl
  | cons p ps C=>
   intro a o;let e:Au a p.1 p.2=a++[p]:=by unfold Au;rw[if_neg];intro z;let{q,I,e}:=EE.mp z;let J:=of_decide_eq_true e;rw[zQ,Bf] at o;let:=(List.nodup_append.mp o).2.2 q.1 (List.mem_map_of_mem I) p.1 za;show this J
   rw[List.foldl_cons,e,C (a++[p]) (by rwa[KG]),KG];rfl
 show this ps [] h
end L2
namespace WM
structure EG (ts:List T3)(n v:Int)(e:En):Prop where
 rng:0<=e.h/\e.h<n
 len:IsD ts v e.h e.l
 up:e.h≠v->∃p,e.u=some p/\BF ts v e.h p
 dn:e.h≠v->∃p,e.d=some p/\BF ts e.h v p
structure LG (ts:List T3)(n v:Int)(es:List En):Prop where
 hub:Eu es
 ent:∀e∈es,EG ts n v e
 own:∃e∈es,e.h=v
def KR (ts:List T3)(v w:Int)(es fs:List En):Prop:=∀d,IsD ts v w d->∃h,BM ts v w h/\(∃e∈es,e.h=h)/\∃f∈fs,f.h=h
def LG.zero (g:GW n ts)(L:LG ts n v es):∃e r,es.filter (λe=>decide (e.l=0))=e::r/\e.h=v:=by
 let{o,I,C}:=L.own;let J:o.l=0:=by let:=(L.ent o I).len;rw[C] at this;show this.uniq (Hy g v)
 let hm:o∈es.filter (λe=>decide (e.l=0)):=Ba.mpr {I,zX J};cases e:es.filter (λe=>decide (e.l=0)) with
 | nil=>rw[e] at hm;simp at hm
 | cons a r=>
  let U:a∈es.filter (λe=>decide (e.l=0)):=by rw[e];show za
  let{h1,h2}:=Ba.mp U;let:=(Fx g (L.ent a h1).len).mp (of_decide_eq_true h2);show{a,r,0,this.symm}
def VB (g:GW n ts)(L1:LG ts n v es)(L2:LG ts n w fs)(C:KR ts v w es fs)(h:CB (Cd es fs) lm):
 BY ts v w (lm.map (·.1))/\∀c,lm=some c->BM ts v w c.2:=by
 cases lm with
 | none=>show{λd hd=>?_,λc z=>by cases z};let{d',hd'}:=Ad.least g hd;let{x,_,{e,he,e1},{f,hf,f1}}:=C d' hd';show h _ {e,he,f,hf,by rw[f1,e1],0}
 | some c=>
  let{{e,he,f,hf,hfe,0},om}:=h;let ie:=(L1.ent e he).len;let o:=(L2.ent f hf).len;rw[hfe] at o;let wy:Ad ts v w (e.l+f.l):=ie.1.trans o.1.symm;let{d,hd}:=Ad.least g wy;let{x,{a,b,ia,ib,pS},{I,o4,e1},{J,qJ,f1}}:=C d hd;let ed:a+b=d:=pS.uniq hd;let ea:I.l=a:=by let:=(L1.ent I o4).len;rw[e1] at this;show this.uniq ia
  let eb:J.l=b:=by let:=(L2.ent J qJ).len;rw[f1] at this;show this.uniq ib.symm
  let hm:=om (I.l+J.l,I.h) {I,o4,J,qJ,by rw[f1,e1],0};let h1:=hd.2 _ wy;let es:e.l+f.l=d:=by
   rcases hm with z | z
   . let:e.l+f.l<I.l+J.l:=z
     lia
   . let:e.l+f.l=I.l+J.l:=z.1
     lia
  let U:IsD ts v w (e.l+f.l):=by rwa[es]
  show{U,λc z=>?_};cases z;show⟨e.l,f.l,ie,o.symm,U⟩
def ah {P:Int->Prop}(o:Int->Int):∀m p,P p->(o p).toNat<=m->∃q,P q/\∀r,P r->(o q).toNat<=(o r).toNat
 | 0,p,hp,h=>{p,hp,λr _=>()}
 | m+1,p,hp,h=>by
  by_cases c:∃r,P r/\(o r).toNat<(o p).toNat
  . let{r,C,I}:=c;show ah o m r C ()
  . show{p,hp,λr C=>Nat.le_of_not_lt λz=>c ⟨r,C,z⟩}
end WM
namespace L2
open PySem PySem.Spec PyProof.Rows
def jt {i:Int}(h:i.natAbs<10 ^ 40):(Str.ofString (toString i)).length<=41:=by
 let e:=int_text_length_le10 (a:=i) (k:=40) (by decide) h;let o:(Str.ofString (toString i)).length=(toString i).length:=by rw[Str.ofString_eq_toList];change ((toString i).toList.map Char.toNat).toArray.size=_;rw[zc,zB,String.length_toList]
 lia
end L2
namespace SortT
open PySem PySem.W PySem.Calls PyProof.Rows
end SortT
namespace L2
open PySem PySem.Spec PyProof.Rows
inductive Ir (xs:List V)(H:Hp)(Q:VK):Prop
 | mk:∀i:Int,(xs=[.int i])->(i.natAbs<1000000000)->(Q (.str (Str.ofString (toString i))) H)->Ir xs H Q
def Yo:Bx X (.type "str") Ir:=by intro pins s σ H xs us Q I r h;let{i,0,hi,q}:=h;let{u,0,o}:=BL r;let{t,0}:=o;show str_of_int_fit (N:=1000000000) (by split <;> lia) (by decide) λ_=>{.str _,H,I.tok _,{1},q}
end L2
namespace HT
open PySem PySem.Spec PyProof.Rows
end HT
namespace L2
open PySem PySem.Spec PyProof.Rows
end L2
namespace HT
open PySem PySem.Spec PyProof.Rows
end HT
namespace L2
open PySem PySem.Spec PyProof.Rows
end L2
namespace STb
open PySem
def Dy (xs:Array Nat):Prop:=xs.toList.Pairwise (· < ·)
def Dy.lt (h:Dy xs){i:Nat}(o:i<j)(hi:xs[i]?=some a)(C:xs[j]?=some b):a<b:=by let{J,e1}:=Array.getElem?_eq_some_iff.mp hi;let{I,U}:=Array.getElem?_eq_some_iff.mp C;let:=zq.mp h i j (by simpa using J) (by simpa using I) o;simpa [e1,U] using this
def jY (h:Dy xs)(j):∀fuel lo hi,hi-lo<=fuel->lo<=hi->hi<=xs.size->(∀k v,k<lo->xs[k]?=some v->v<j)->(∀k v,hi<=k->xs[k]?=some v->j<=v) ->
 lo<=SetTable.below.go xs j fuel lo hi/\SetTable.below.go xs j fuel lo hi<=hi/\(∀k v,k<SetTable.below.go xs j fuel lo hi->xs[k]?=some v->v<j)/\(∀k v,SetTable.below.go xs j fuel lo hi<=k->xs[k]?=some v->j<=v):=by
 intro fuel
 induction fuel with
 | zero=>
  intro lo hi hf hl hs C o;let:lo=hi:=()
  subst this;show{zH _,zH _,C,o}
 | succ fuel U=>
  intro lo hi hf hl hs C o;unfold SetTable.below.go;by_cases c:lo<hi
  . rw[if_pos c];let hm:(lo+hi)/2<xs.size:=()
    let em:xs[(lo+hi)/2]?=some xs[(lo+hi)/2]:=Array.getElem?_eq_getElem hm;let eg:xs.getD ((lo+hi)/2) j=xs[(lo+hi)/2]:=by simp[Array.getD,hm]
    dsimp only;rw[eg];by_cases d:xs[(lo+hi)/2]<j
    . rw[if_pos d];let{a,b,J,I}:=U ((lo+hi)/2+1) hi () () hs (λk v hk e=>by
       by_cases z:k=(lo+hi)/2
       . subst z;rw[em] at e;cases e;show d
       . let:=h.lt (i:=k) (j:=(lo+hi)/2) () e em;lia) o
      show{(),b,J,I}
    . rw[if_neg d];let{a,b,J,I}:=U lo ((lo+hi)/2) () () () C (λk v hk e=>by
       by_cases z:k=(lo+hi)/2
       . subst z;rw[em] at e;cases e;lia
       . let:=h.lt (i:=(lo+hi)/2) (j:=k) () em e;lia)
      show{a,(),J,I}
  . rw[if_neg c];let:lo=hi:=()
    subst this;show{zH _,zH _,C,o}
def Vj (h:Dy xs)(j):SetTable.below xs j<=xs.size/\(∀k v,k<SetTable.below xs j->xs[k]?=some v->v<j)/\(∀k v,SetTable.below xs j<=k->xs[k]?=some v->j<=v):=by
 let{_,a,b,c}:=jY h j xs.size 0 xs.size () () (zH _) (λk v o _=>absurd o (Hk _)) (λk v o e=>by let:=(Array.getElem?_eq_some_iff.mp e).1;lia)
 show⟨a,b,c⟩
def eX (h:Dy xs)(e:xs[i]?=some a):SetTable.below xs (a+1)=i+1:=by
 let{U,J,I}:=Vj h (a+1);let hi:=(Array.getElem?_eq_some_iff.mp e).1;rcases Nat.lt_trichotomy (SetTable.below xs (a+1)) (i+1) with c | c | c
 . let:=I i a () e;lia
 . show c
 . let C:i+1<xs.size:=()
   let o:xs[i+1]?=some xs[i+1]:=Array.getElem?_eq_getElem C;let a1:=J (i+1) _ c o;let a2:=h.lt (i:=i) (j:=i+1) () e o
   lia
def iN (h:Dy xs):SetTable.below xs 0=0:=by
 let{J,C,I}:=Vj h 0;rcases Nat.eq_zero_or_pos (SetTable.below xs 0) with c | c
 . show c
 . let o:0<xs.size:=()
   let:=C 0 _ c (Array.getElem?_eq_getElem o)
   lia
def j2 (h:Dy xs)(ne:xs[SetTable.below xs j]?≠some j):Dy (SetTable.insertAt xs (SetTable.below xs j) j):=by
 let{h1,h2,J}:=Vj h j;unfold Dy;rw[SetTable.toList_insertAt];let hp:(xs.toList.take (SetTable.below xs j)++xs.toList.drop (SetTable.below xs j)).Pairwise (· < ·):=by rwa[List.take_append_drop]
 let{p1,p2,p3}:=List.pairwise_append.mp hp;let lo:∀a∈xs.toList.take (SetTable.below xs j),a<j:=λa o=>by let{k,C,e}:=DA o;rw[zl] at C;rw[List.getElem_take] at e;show h2 k a () (by rw[<-Array.getElem?_toList,zD (),e])
 let hi:∀a∈xs.toList.drop (SetTable.below xs j),j<a:=λa o=>by
  let{k,C,e}:=DA o;rw[List.length_drop] at C;rw[List.getElem_drop] at e;let I:xs[SetTable.below xs j+k]?=some a:=by rw[<-Array.getElem?_toList,zD (),e]
  let:=J _ a () I;by_cases c:k=0
  . subst c;rw[Nat.add_zero] at I;let:a≠j:=λz=>ne (by rw[I,z])
    lia
  . let hz:SetTable.below xs j<xs.size:=by simp at C;lia
    let U:xs[SetTable.below xs j]?=some xs[SetTable.below xs j]:=Array.getElem?_eq_getElem hz;let a0:=J _ _ (zH _) U;let a1:=h.lt (i:=SetTable.below xs j) (j:=SetTable.below xs j+k) () U I
    lia
 show List.pairwise_append.mpr {p1,Fv.mpr ⟨hi,p2⟩,λa o b hb=>?_};rcases zS.mp hb with rfl | hb
 . show lo a o
 . show p3 a o b hb
structure GT (led:Bool)(t:SetTable):Prop where
 dm:t.dummies=#[]
 ld:t.led=led
 rs:t.plain=true->Dy t.place
def gD (led:Bool):GT led (SetTable.fresh 0 0 led):={2,λ_=>List.Pairwise.nil}
def ae (j):SetTable.has #[] j=false:=by unfold SetTable.has;simp
def af {t:SetTable}(hd:t.dummies=#[]):(t.slot j=.empty->t.place[SetTable.below t.place j]?≠some j)/\t.slot j ≠ .dummy:=by
 unfold SetTable.slot;rw[hd,ae];dsimp only;constructor
 . intro h e;rw[e] at h;simp at h
 . split <;> simp
def jN (hd:t.dummies=#[]):∀fuel p,p.dummy=none->SetTable.probe.go t ha hh fuel p=some (.empty j d)->t.slot j=.empty/\d=none:=by
 intro fuel
 induction fuel with
 | zero=>intro p _ h;unfold SetTable.probe.go at h;cases h
 | succ fuel C=>
  intro p o h;unfold SetTable.probe.go at h;cases e:t.slot p.j with
  | empty=>rw[e] at h;simp only[Option.some.injEq,SetTable.Met.empty.injEq] at h;show{by rwa[<-h.1],by rwa[<-h.2]}
  | dummy=>show absurd e (af hd).2
  | live i=>
   rw[e] at h;dsimp only at h;split at h
   . cases h
   . show C _ ?_ h;unfold SetTable.advance;split
     . show o
     . show o
def eP {t:SetTable}(hd:t.dummies=#[])(h:t.freeSlot hh=some (j,w)):t.place[SetTable.below t.place j]?≠some j:=by
 unfold SetTable.freeSlot at h;cases e:t.probe (λ_=>hh+1) hh (t.probeStart hh) with
 | none=>rw[e] at h;cases h
 | some met=>
  rw[e] at h;cases met with
  | candidate a b c=>cases h
  | empty I d=>let{C,o}:=jN hd _ _ rfl e;subst o;simp only[Option.getD_none,Option.some.injEq,Prod.mk.injEq] at h;rw[<-h.1];show (af hd).1 C
def Lq (g:GT led t)(h:t.place[SetTable.below t.place j]?≠some j):GT led (t.put j).1:=by unfold SetTable.put;show{?_,g.ld,λo=>j2 (g.rs o) h};dsimp only;rw[g.dm,ae];rfl
def TR (g:GT led t)(n):GT led (t.standIn n):={0,g.ld,λh=>by cases h}
def RL (g:GT led t)(n):GT led (t.orStandIn n):=by
 unfold SetTable.orStandIn;split
 . show g
 . show TR g n
def Ku (g:GT led t)(es)(h)(x):GT led (layNew t es h x).2.1:=by
 unfold layNew;cases e:t.freeSlot h with
 | none=>show TR g _
 | some q=>let{j,w}:=q;show RL (Lq g (eP g.dm e)) _
def gK {f:Nat->Option Nat}:∀(l:List Nat),l.Pairwise (· < ·)->((l.filterMap λj=>(f j).map (j,·)).map (·.1)).Pairwise (· < ·):=by
 intro l h;rw[CM,List.pairwise_filterMap];show h.imp λ{a b} J x C y o=>?_;cases ea:f a with
 | none=>rw[ea] at C;cases C
 | some u=>
  cases I:f b with
  | none=>rw[I] at o;cases o
  | some v=>rw[ea] at C;rw[I] at o;cases C;cases o;show J
def iO (g:GT led t)(es)(n):GT led (relayAll t es n).2.1:=by
 unfold relayAll;cases e:t.relaid (es.map (·.1)) n with
 | none=>show TR g _
 | some q=>
  let{C,order}:=q;dsimp only;split
  . unfold SetTable.relaid SetTable.laid at e;simp only[Option.bind_eq_bind,Option.bind_eq_some_iff,Option.pure_def,Option.some.injEq,Prod.mk.injEq] at e;let{owner,_,o,_}:=e;rw[<-o];show{0,g.ld,λ_=>?_};change List.Pairwise _ (List.map _ _).toArray.toList;show gK _ List.pairwise_lt_range
  . show TR g _
end STb
namespace STb
open PySem PySem.Spec PyProof.Rows L2
structure Xm (prog:Program)(w:World)(led:Bool)(S:Int->Bool)(n:Nat)(el:Array (Int×Value))(tb:SetTable):Prop where
 elm:ElemsOf (intKind prog w) el.toList
 mem:∀k,S k=true↔∃e∈el.toList,(intKind prog w).is k e.2=true
 few:el.size<scanBound
 fit:tb.fits el.size=true
 siz:el.size=n
 gt:GT led tb
inductive aw (prog:Program)(w:World)(led:Bool)(h:Heap)(a:Addr)(S:Int->Bool)(n:Nat):Prop
 | mk:∀ob el ep tb,(h.get? a=some ob)->(ob.ExactSet)->(ob.data=.set el ep tb)->(Xm prog w led S n el tb)->aw prog w led h a S n
def CS (prog:Program)(w:World)(led:Bool)(h:Heap)(a:Addr)(S:Int->Bool)(n:Nat):Prop:=aw prog w led h a S n
def CS.keep (x:CS prog w led h a S n)(k:∀o,h.get? a=some o->h'.get? a=some o):CS prog w led h' a S n:=
 let ⟨C,el,ep,tb,g1,g2,g3,I⟩:=x;{C,el,ep,tb,k _ g1,g2,g3,I}
def CS.congr (x:CS prog w led h a S n)(e:∀k,S' k=S k)(I:n'=n):CS prog w led h a S' n':=by let{C,el,ep,tb,g1,g2,g3,o}:=x;subst I;show{C,el,ep,tb,g1,g2,g3,{o.elm,λk=>by rw[e k];show o.mem k,o.few,o.fit,o.siz,o.gt}}
def Zr {h:Heap}(g1:h.get? a=some ob)(g3:ob.data=.set el ep tb)(el')(o:SetTable):
 (h.update a (Obj.putSet el' o)).get? a=some { ob with data:=.set el' (ep+1) o }:=by
 let q:=Ce (Obj.putSet el' o) g1 (by rw[putSet_of el' o g3];rfl);rwa [putSet_of el' o g3] at q
def ZN {note:Bool->Sem Unit}
 (hn:∀b o Q',Q' Unit.unit o->wpAny (model prog w) A (note b) Q' E o)
 (g1:s.heap.get? a=some ob)(g2:ob.ExactSet)(g3:ob.data=.set el ep tb)(B:Xm prog w led S n oW pM)
 (q:∀h',Heap.SameBut a s.heap h'->CS prog w led h' a S n->R (some true) { s with heap:=h' }):
 wpAny (model prog w) A (storeSet a oW pM >>= λ_=>if (!wd && pM.tooFull)=true then (note (relayAll pM oW (SetTable.grown oW.size)).2.2 >>= λ_=>storeSet a (relayAll pM oW (SetTable.grown oW.size)).1 (relayAll pM oW (SetTable.grown oW.size)).2.1 >>= λ_=>pure (some true)) else pure (some true)) R E s:=by
 show zA (wpAny_storeSet_of g1 g3 ?_ (fits_of_scanBound B.few));let p1:=Zr g1 g3 oW pM;let b1:=EH s.heap a (Obj.putSet oW pM);by_cases c:(!wd && pM.tooFull)=true
 . rw[if_pos c];let pm:=relayAll_perm pM oW (SetTable.grown oW.size);let U:=relayAll_fits pM oW (SetTable.grown oW.size);let J:=iO B.gt oW (SetTable.grown oW.size);generalize relayAll pM oW (SetTable.grown oW.size)=ra at pm U J ⊢;let{C,I,gv}:=ra;dsimp only at pm U J ⊢;let z:C.size=oW.size:=by rw[<-Array.length_toList,pm.length_eq,Array.length_toList]
   show zA (hn _ _ _ (zA (wpAny_storeSet_of p1 rfl ?_ (fits_of_scanBound (by rw[z];show B.few)))));show zE (q _ (b1.trans (EH _ a _)) {_,C,_,I,Zr p1 rfl C I,g2,0,{B.elm.perm pm,λk=>(B.mem k).trans ?_,by rw[z];show B.few,U,by rw[z];show B.siz,J}});show{λ⟨e,he,u⟩=>{e,pm.mem_iff.mpr he,u},λ⟨e,he,u⟩=>{e,pm.mem_iff.mp he,u}}
 . rw[if_neg c];show zE (q _ b1 {_,oW,_,pM,p1,g2,0,B})
def Pl (G:CS prog w led s.heap a S n)(room:n+1<scanBound)
 (q:∀h',Heap.SameBut a s.heap h'->CS prog w led h' a (λj=>S j || decide (j=k)) (if S k then n else n+1)->Q (!S k) { s with heap:=h' }):
 wpAny (model prog w) A (setAddHashed a (.int k tk) ((intKind prog w).hash k)) Q E s:=by
 let kk:(intKind prog w).is k (.int k tk)=true:=intKind_is _ _ _ _;let{ob,el,ep,tb,g1,g2,g3,B}:=G;unfold setAddHashed setAddHashedIn;show zy (zA (Hj g1 g3 B.fit ?_));dsimp only;rw[byScan_of (knd:=intKind prog w) (x:=.int k tk) rfl B.few B.elm];rw[if_pos rfl];unfold setAddByScan;show zA (zA (EM (zA (wpAny_setScan_of kk g1 g3 B.fit B.elm ?_))));cases fi:el.toList.findIdx? (λe=>(intKind prog w).is k e.2) with
 | some j=>
  let{hj,hp,_}:=List.findIdx?_eq_some_iff_getElem.mp fi;let yes:S k=true:=(B.mem k).mpr {_,El hj,hp};show zE (zE ?_);let r:=q s.heap (Heap.SameBut.refl a s.heap) {ob,el,ep,tb,g1,g2,g3,{B.elm,λi=>?_,B.few,B.fit,by rw[yes];show B.siz,B.gt}}
  . rwa[yes] at r
  . rw[Bool.or_eq_true,KH,<-B.mem i];show{λz=>z.elim id λe=>by rwa[e],.inl}
 | none=>
  let no:S k=false:=by
   cases hk:S k with
   | false=>rfl
   | true=>let{e,he,hp}:=(B.mem k).mp hk;let:=List.findIdx?_eq_none_iff.mp fi e he;rw[hp] at this;cases this
  dsimp only;let pm:=layNew_perm tb el ((intKind prog w).hash k) (.int k tk);let U:=layNew_fits tb el ((intKind prog w).hash k) (.int k tk);let J:=Ku B.gt el ((intKind prog w).hash k) (.int k tk);generalize layNew tb el ((intKind prog w).hash k) (.int k tk)=la at pm U J ⊢;let{oW,pM,wd,gv}:=la;dsimp only at pm U J ⊢;rw[Array.toList_push] at pm;let z:oW.size=n+1:=by rw[<-Array.length_toList,pm.length_eq,zT,Array.length_toList,B.siz];rfl
  let B1:Xm prog w led (λj=>S j || decide (j=k)) (n+1) oW pM:={(B.elm.push kk rfl).perm pm,mem_push_iff kk B.mem pm,by rwa[z],U,z,J};let fin:∀h',Heap.SameBut a s.heap h'->CS prog w led h' a (λj=>S j || decide (j=k)) (n+1)->Q true { s with heap:=h' }:=λh' C I=>by let r:=q h' C;rw[no] at r;show r I
  let nt:∀(b:Bool)(o:Shared)(Q':Unit->Shared->Prop),Q' Unit.unit o->wpAny (model prog w) A (match b with | true=>rule "set.scan.the-table-gave-way" | false=>pure Unit.unit) Q' E o:=λb o Q' u=>by
   cases b
   . show zE u
   . show EM u
  show zA (nt gv _ _ ?_);by_cases c:pM.plain=true
  . rw[if_pos c];show zA (wpAny_of_eq (m':=pure true) rfl (zE ?_));rw[if_pos rfl];show ZN nt g1 g2 g3 B1 λh' C I=>zE (fin h' C I)
  . rw[if_neg c];show zA (zE ?_);rw[if_pos rfl];show ZN nt g1 g2 g3 B1 λh' C I=>zE (fin h' C I)
def Ei:Slot "set_iterator" "__next__" "set_iterator.__next__" := .of (owner := "set_iterator") (n := "__next__") (by rw[typeLookup_type,builtinLookup_eq_fast];kernel_rfl) (by decide +kernel) (by decide +kernel) (by decide +kernel) (by first | show .inl (by decide +kernel) | show .inr (by decide +kernel)) (by rw[isSubtype_type];kernel_rfl)
def Z7:Slot "set_iterator" "__iter__" "set_iterator.__iter__" := .of (owner := "set_iterator") (n := "__iter__") (by rw[typeLookup_type,builtinLookup_eq_fast];kernel_rfl) (by decide +kernel) (by decide +kernel) (by decide +kernel) (by first | show .inl (by decide +kernel) | show .inr (by decide +kernel)) (by rw[isSubtype_type];kernel_rfl)
def Sz:entryFor table "set_iterator.__next__"=some Builtin.«set_iterator.__next__» := entryFor_of_tree (by kernel_rfl)
def eU:entryFor table "set_iterator.__iter__"=some Builtin.«dict_keyiterator.__iter__» := entryFor_alias (id' := "dict_keyiterator.__iter__") (by kernel_rfl) (by first | rfl | decide +kernel) (by decide +kernel) (by kernel_rfl)
def fm:entryFor table "set.__iter__"=some Builtin.«frozenset.__iter__» := entryFor_alias (id' := "frozenset.__iter__") (by kernel_rfl) (by first | rfl | decide +kernel) (by decide +kernel) (by kernel_rfl)
def cV:Manifest.owners.lookup (String.ofList ['r','o','t','a','r','e','t','i','_','t','e','s'].reverse)=some Manifest.sig_set_iterator:=by kernel_rfl
def SO (a):argsOk "set_iterator.__next__" {[a],[]}:=by
 unfold argsOk;rw[signature?_of (id := "set_iterator.__next__") (n:=['_','_','t','x','e','n','_','_']) (o:=['r','o','t','a','r','e','t','i','_','t','e','s']) (by kernel_rfl) cV]
 kernel_rfl
def fX (a):argsOk "set_iterator.__iter__" {[a],[]}:=by
 unfold argsOk;rw[signature?_of (id := "set_iterator.__iter__") (n:=['_','_','r','e','t','i','_','_']) (o:=['r','o','t','a','r','e','t','i','_','t','e','s']) (by kernel_rfl) cV]
 kernel_rfl
def Ut {α:Type}:∀{l:List α}{k:Nat}{x:α},l[k]?=some x->(x::l.eraseIdx k).Perm l
 | [],_,_,h=>by simp at h
 | _::_,0,_,h=>by simp at h;subst h;show List.Perm.refl _
 | y::r,k+1,x,h=>by change (x::y::r.eraseIdx k).Perm (y::r);show (List.Perm.swap y x _).trans ((Ut (by simpa using h)).cons y)
def Yg (next:Nat->Nat):∀(fuel k:Nat)(left:List α)(out:Array α),left.length=fuel->(pickOrder.go next fuel k left out).toList.Perm (out.toList++left)
 | 0,k,left,out,h=>by let:left=[]:=Hh.mp h;subst this;unfold pickOrder.go;rw[Bl]
 | fuel+1,k,left,out,h=>by unfold pickOrder.go;let o:next k%left.length<left.length:=Nat.mod_lt _ ();let e:left[next k%left.length]?=some left[next k%left.length]:=zD o;rw[e];dsimp only;show (Yg next fuel (k+1) _ _ (by rw[List.length_eraseIdx,if_pos o];lia)).trans ?_;rw[Array.toList_push,KG];show (Ut e).append_left _
def c8 (next:Nat->Nat)(xs:Array α):(pickOrder next xs).toList.Perm xs.toList:=by let:=Yg next xs.size 0 xs.toList #[] (by simp);simpa [pickOrder] using this
def PB (o:n≠0)(h:∀i d',i<n->Q i { s with drawn:=d' }):wpAny (model prog w) A (choose src n) Q E s:=
 λ_ _ _=>{o,h _ _ (Nat.mod_lt _ (Nat.pos_of_ne_zero o))}
def Z0 :∀(k:Nat)(xs:List α)(s:Shared)(Q:List α->Shared->Prop),xs.length=k->(∀ys d',ys.Perm xs->Q ys { s with drawn:=d' })->wpAny (model prog w) A (drawOrder k xs) Q E s
 | 0,xs,s,Q,h,q=>by let:xs=[]:=Hh.mp h;subst this;unfold drawOrder;show zE (q [] s.drawn (List.Perm.refl _))
 | k+1,[],s,Q,h,q=>by cases h
 | k+1,x::r,s,Q,h,q=>by unfold drawOrder;show zA (PB (by simp) λi d' hi=>?_);let e:(x::r)[i]?=some (x::r)[i]:=zD hi;rw[e];dsimp only;show zA (Z0 k _ _ _ (by rw[List.length_eraseIdx,if_pos hi];lia) λys C o=>zE ?_);show q _ C ((o.cons _).trans (Ut e))
def Bn (h:Heap)(a:Addr)(el:Array (Int×Value))(ep:Nat)(tb:SetTable):Prop:=∃o,h.get? a=some o/\o.ExactSet/\o.data=.set el ep tb
def Bn.keep (x:Bn h a el ep tb)(k:∀o,h.get? a=some o->h'.get? a=some o):Bn h' a el ep tb:=let ⟨C,g,r⟩:=x;{C,k _ g,r}
def Bn.typeIs {s:Shared}(x:Bn s.heap a el ep tb):s.TypeIs (.ref a) "set" := let {o,g,c,_}:=x;⟨o,g,c.1⟩
def Bn.lt (x:Bn h a el ep tb):a<h.objs.size:=let {_,g,_}:=x;zU g
def SI (h:Heap)(I:Addr)(f:Value)(i n ep:Nat)(a:Addr):Prop:=∃o,h.get? I=some o/\o.cls=.type "set_iterator"/\o.data=.fields #[f,.int i 0,.ref a,.int n 0,.int ep 0]
def SI.typeIs {s:Shared}(x:SI s.heap I f i n ep a):s.TypeIs (.ref I) "set_iterator" := let {o,h,c,_}:=x;⟨o,h,c⟩
def SI.keep (x:SI h I f i n ep a)(k:∀o,h.get? I=some o->h'.get? I=some o):SI h' I f i n ep a:=let ⟨o,g,r⟩:=x;{o,k _ g,r}
section
variable {prog:Program}{w:World}{A:Around}{E:Bt}{s:Shared}{a I:Addr}{el:Array (Int×Value)}{ep:Nat}{tb:SetTable}
meta def ET (f:Value)(n ep:Nat)(a:Addr):Obj:={ cls:=.type "set_iterator",data:=.fields #[f,.int 0 0,.ref a,.int n 0,.int ep 0] }
def i5 (hm:Bn s.heap a el ep tb)(hf:tb.fits el.size=true)
 (U:(w.params.followText "set-order"=true\/tb.plain=true\/el.size<=1)->Q (.ref s.heap.objs.size) { s with heap:=s.heap.push (ET (.int 0 0) el.size ep a) })
 (J:∀(ys:List Nat)d',ys.Perm (List.range el.size)->Q (.ref (s.heap.push { cls:=.type "tuple",data:=.seq (ys.map λ(i:Nat)=>rawInt i).toArray }).objs.size) { s with heap:=(s.heap.push { cls:=.type "tuple",data:=.seq (ys.map λ(i:Nat)=>rawInt i).toArray }).push (ET (.ref s.heap.objs.size) el.size ep a),drawn:=d' }) (hz:el.size<=100000):
 wpAny (model prog w) A (pyIter (.ref a)) Q E s:=by
 let{ob,g1,g2,g3}:=id hm;show wpAny_pyIter_slot hm.typeIs F.slot_set_iter (Cq F.slot_set_iter hm.typeIs fm ?_ (F.args_set_iter_1 _));unfold Builtin.«frozenset.__iter__»;show zA ?_;show zA (zE (zE ?_));show zA ?_;unfold Builtin.Frozenset.sizeOf;show zA (wpAny_setEntries_of g1 g3 hf (zE ?_));unfold setDrawn setsByText;show zA (zA (Hj g1 g3 hf (zA (zA (wpAny_askSetting (zE (zE ?_)))))));change wpAny _ _ (if (!w.params.followText "set-order" && (!tb.plain && decide (el.size > 1)))=true then _ else _) _ _ s
 by_cases c:(!w.params.followText "set-order" && (!tb.plain && decide (el.size > 1)))=true
 . rw[if_pos c];show zA (Z0 _ _ _ _ (by rw[Dr]) λys d' o=>zA ?_);unfold newTuple;show DW ?_ ?_
   . unfold setEpoch;show zA (zA (Hj (zG _ g1) g3 hf (zE ?_)));show zA (DW (zE {1, "set_iterator",_,{_,zM _ rfl,0},Ei.lookup,?_}));show J ys d' o
   . change (List.toArray _).size<=sizeLine;rw[zc,zB,o.length_eq,Dr];let:sizeLine=16777216:=rfl
     lia
 . rw[if_neg c];show zA (zE ?_);unfold setEpoch;show zA (zA (Hj g1 g3 hf (zE ?_)));show zA (DW (zE {1, "set_iterator",_,{_,zM _ rfl,0},Ei.lookup,?_}));show U ?_;by_cases I:w.params.followText "set-order"=true
   . show .inl I
   . right;by_cases C:tb.plain=true
     . show .inl C
     . right;by_cases c3:el.size<=1
       . show c3
       . show absurd (by simp[I,C];lia) c
def Zy (hm:Bn s.heap a el ep tb)(hf:tb.fits el.size=true)(o:w.params.followText "set-order"=true)
 (q:Q (((pickOrder (w.params.setOrder a ep) el)[given]?).map λe=>(e.2,slot)) s):wpAny (model prog w) A (setNext a slot given ep) Q E s:=by
 let{C,g1,g2,g3}:=id hm;unfold setNext setsByText;show zA (Hj g1 g3 hf (zA (zA (wpAny_askSetting (zE ?_)))));change wpAny _ _ (if w.params.followText "set-order"=true then _ else _) _ _ s
 rw[if_pos o];change wpAny _ _ (if (ep != ep)=true then _ else _) _ _ s
 rw[if_neg (by simp)];unfold setWalk setsByText;show zA (zA (Hj g1 g3 hf (zA (zA (wpAny_askSetting (zE ?_))))));change wpAny _ _ (if w.params.followText "set-order"=true then _ else _) _ _ s
 rw[if_pos o];show zA (wpAny_askSetting (zE (zE q)))
def bM (hm:Bn s.heap a el ep tb)(hf:tb.fits el.size=true)(o:w.params.followText "set-order"=false) (C:tb.plain=true\/el.size<=1)(I:tb.led=true)(hi:SetTable.below tb.place slot=i)
 (q:Q (match el[i]?,tb.place[i]? with | some (_,x),some j=>some (x,j+1) | _,_=>none) s):wpAny (model prog w) A (setNext a slot given ep) Q E s:=by
 let{J,g1,g2,g3}:=id hm;unfold setNext setsByText;show zA (Hj g1 g3 hf (zA (zA (wpAny_askSetting (zE ?_)))));change wpAny _ _ (if w.params.followText "set-order"=true then _ else _) _ _ s
 rw[if_neg (by rw[o];simp)];change wpAny _ _ (if (!tb.plain && decide (el.size > 1))=true then _ else _) _ _ s
 rw[if_neg (by rcases C with z | z <;> simp[z])];change wpAny _ _ ((if (!tb.led && !el.isEmpty)=true then _ else _) >>= _) _ _ s
 rw[if_neg (by rw[I];simp)];show zA (zE ?_);dsimp only;rw[hi];show zE q
def Yy (prog:Program)(w:World)(a:Addr)(slot i ep:Nat)(r:Option (Value×Nat))(s:Shared):Prop:=∀A E Q,Q r s->wpAny (model prog w) A (setNext a slot i ep) Q E s
def Lc {h:Heap}{i n:Nat}(J:h.get? I=some o)(U:o.cls=.type "set_iterator") (hd:o.data=.fields #[f,.int i 0,.ref a,.int n 0,.int ep 0]):
 SI ((h.update I (Obj.mapFields (·.setIfInBounds 0 f'))).update I (Obj.mapFields (·.setIfInBounds 1 (rawInt ((i:Int)+1))))) I f' (i+1) n ep a:=by
 let e1:(h.update I (Obj.mapFields (·.setIfInBounds 0 f'))).get? I=some (Obj.mapFields (·.setIfInBounds 0 f') o):=Ce _ J (Obj.isFreed_of_fields (Obj.data_mapFields hd _));let C:=Obj.data_mapFields hd (·.setIfInBounds 0 f');show{_,Ce _ e1 (Obj.isFreed_of_fields (Obj.data_mapFields C _)),(Obj.cls_mapFields ..).trans ((Obj.cls_mapFields ..).trans U),?_};rw[Obj.data_mapFields C];simp[rawInt]
def Kh {h:Heap}{i n:Nat}(C:h.get? I=some o)(J:o.cls=.type "set_iterator") (hd:o.data=.fields #[f,.int i 0,.ref a,.int n 0,.int ep 0]):
 SI (h.update I (Obj.mapFields (·.setIfInBounds 1 (rawInt ((i:Int)+1))))) I f (i+1) n ep a:=by
 show{_,Ce _ C (Obj.isFreed_of_fields (Obj.data_mapFields hd _)),(Obj.cls_mapFields ..).trans J,?_};rw[Obj.data_mapFields hd];simp[rawInt]
def aZ {slot:Nat}(hit:SI s.heap I (.int slot 0) i el.size ep a)(hm:Bn s.heap a el ep tb)(hf:tb.fits el.size=true)(J:Yy prog w a slot i ep (some (x,nx)) s)
 (hQ:∀h',SI h' I (.int nx 0) (i+1) el.size ep a->Heap.SameBut I s.heap h'->Q (some x) { s with heap:=h' }):wpAny (model prog w) A (pyNext (.ref I)) Q E s:=by
 let{o,C,U,hd}:=id hit;let{ob,g1,g2,g3}:=id hm;unfold pyNext;show zA (Fo (F3 (name:=Str.ofString "__next__") hit.typeIs Ei (Cq Ei hit.typeIs Sz ?_ (SO _))));unfold Builtin.«set_iterator.__next__»;show zA (zE ?_);show zA (wpAny_fieldsOf C hd ?_);show zA (wpAny_setEntries_of g1 g3 hf ?_);rw[if_neg (by simp)];dsimp only;rw[Bz,Bz,Bz];show zA (J _ _ _ ?_);dsimp only;show zA (Fs C hd (by simp) ?_);let e1:(s.heap.update I (Obj.mapFields (·.setIfInBounds 0 (rawInt (nx:Int))))).get? I=some (Obj.mapFields (·.setIfInBounds 0 (rawInt (nx:Int))) o):=Ce _ C (Obj.isFreed_of_fields (Obj.data_mapFields hd _));show zA (Fs e1 (Obj.data_mapFields hd _) (by simp) ?_);show zE {1,zE (hQ _ (Lc C U hd) ((EH ..).trans (EH ..)))}
def cq {Q:Option Value->Shared->Prop}(C:A.handled=none)(I:∀h',(∀b o,h0.get? b=some o->h'.get? b=some o)->Q none { s with heap:=h' }):
 wpAny (model prog w) A.in1 (newExc (.type "StopIteration") [] >>= λe=>raiseNew (α:=Fin) e) R (λe s'=>wpAny (model prog w) A (isInstance e (.type "StopIteration") >>= λb=>if b=true then pure none else throw e) Q E s') { s with heap:=h0 }:=by
 show zA ?_;simp only[newExc,newTuple];show zA (DW ?_ (by size_fits));show zA (m:=firstArgMember _ _) (wpAny_of_eq (m':=pure Value.none) (by first | rfl | (simp only[firstArgMember];rfl)) (zE ?_));show DW ?_ (by size_fits);simp only[raiseNew];show zA (wpAny_handled ?_);rw[show A.in1.handled=none from C];show zA (zE (wpAny_throw ?_));show zA (DV (T := "StopIteration") (b:=true) {_,zM _ rfl,0} isSubtype_stop ?_);show zE (I _ λb o e=>zG _ (zG _ e))
def JP {slot:Nat}(hh:A.handled=none)(hit:SI s.heap I (.int slot 0) i el.size ep a)(hm:Bn s.heap a el ep tb)(hf:tb.fits el.size=true)(U:Yy prog w a slot i ep none s)
 (hQ:∀h',(∀b o,b≠I->s.heap.get? b=some o->h'.get? b=some o)->Q none { s with heap:=h' }):wpAny (model prog w) A (pyNext (.ref I)) Q E s:=by
 let{o,J,hc,hd}:=id hit;let{ob,g1,g2,g3}:=id hm;unfold pyNext;show zA (Fo (F3 (name:=Str.ofString "__next__") hit.typeIs Ei (Cq Ei hit.typeIs Sz ?_ (SO _))));unfold Builtin.«set_iterator.__next__»;show zA (zE ?_);show zA (wpAny_fieldsOf J hd ?_);show zA (wpAny_setEntries_of g1 g3 hf ?_);rw[if_neg (by simp)];dsimp only;rw[Bz,Bz,Bz];show zA (U _ _ _ ?_);dsimp only;show zA (Fs J hd (by simp) ?_);show cq hh λh' k=>hQ h' λb C nb e=>k b C ((EH s.heap I _).extBut b C nb e)
end
section
variable {prog:Program}{w:World}{A:Around}{E:Bt}{s:Shared}{a I tp:Addr}{el:Array (Int×Value)}{ep:Nat}{tb:SetTable}
def J5 (h:Heap)(tp:Addr)(ys:List Nat):Prop:=∃o n,h.get? tp=some o/\o.data=.seq (ys.map λ(i:Nat)=>rawInt i).toArray n
def J5.keep (x:J5 h tp ys)(k:∀o,h.get? tp=some o->h'.get? tp=some o):J5 h' tp ys:=let ⟨o,n,e,d⟩:=x;{o,n,k _ e,d}
def LP (hit:SI s.heap I (.ref tp) i el.size ep a)(hm:Bn s.heap a el ep tb)(hf:tb.fits el.size=true)(ht:J5 s.heap tp ys)(U:ys[i]?=some y)(he:el[y]?=some e)
 (hQ:∀h',SI h' I (.ref tp) (i+1) el.size ep a->Heap.SameBut I s.heap h'->Q (some e.2) { s with heap:=h' }):wpAny (model prog w) A (pyNext (.ref I)) Q E s:=by
 let{o,C,hc,hd}:=id hit;let{ob,g1,g2,g3}:=id hm;let{ot,n,t1,J}:=ht;unfold pyNext;show zA (Fo (F3 (name:=Str.ofString "__next__") hit.typeIs Ei (Cq Ei hit.typeIs Sz ?_ (SO _))));unfold Builtin.«set_iterator.__next__»;show zA (zE ?_);show zA (wpAny_fieldsOf C hd ?_);show zA (wpAny_setEntries_of g1 g3 hf ?_);rw[if_neg (by simp)];show zA (Di t1 J ?_);dsimp only;let ey:(ys.map λ(i:Nat)=>rawInt i).toArray[(i:Int).toNat]?=some (.int (y:Int) 0):=by rw[Bz,Cr,zO,U];rfl
 rw[ey];dsimp only;rw[Bz,Bz];unfold setNextDrawn;show zA (zA (Hj g1 g3 hf ?_));change wpAny _ _ (if (ep != ep)=true then _ else _) _ _ s
 rw[if_neg (by simp)];let{e1,e2}:=e;change wpAny _ _ (match el[y]? with | some (_,x)=>_ | _=>_) _ _ s
 rw[he];show zE ?_;show zA (Fs C hd (by simp) ?_);show zE {1,zE (hQ _ (Kh C hc hd) (EH ..))}
def QA (hh:A.handled=none)(hit:SI s.heap I (.ref tp) i el.size ep a)(hm:Bn s.heap a el ep tb)(hf:tb.fits el.size=true)(ht:J5 s.heap tp ys)(hy:ys[i]?=none)
 (hQ:∀h',(∀b o,b≠I->s.heap.get? b=some o->h'.get? b=some o)->Q none { s with heap:=h' }):wpAny (model prog w) A (pyNext (.ref I)) Q E s:=by
 let{o,J,hc,hd}:=id hit;let{ob,g1,g2,g3}:=id hm;let{ot,n,t1,U}:=ht;unfold pyNext;show zA (Fo (F3 (name:=Str.ofString "__next__") hit.typeIs Ei (Cq Ei hit.typeIs Sz ?_ (SO _))));unfold Builtin.«set_iterator.__next__»;show zA (zE ?_);show zA (wpAny_fieldsOf J hd ?_);show zA (wpAny_setEntries_of g1 g3 hf ?_);rw[if_neg (by simp)];show zA (Di t1 U ?_);dsimp only;let ey:(ys.map λ(i:Nat)=>rawInt i).toArray[(i:Int).toNat]?=none:=by rw[Bz,Cr,zO,hy];rfl
 rw[ey];dsimp only;show zA (Fs J hd (by simp) ?_);let e1:(s.heap.update I (Obj.mapFields (·.setIfInBounds 0 (rawInt 0)))).get? I=some (Obj.mapFields (·.setIfInBounds 0 (rawInt 0)) o):=Ce _ J (Obj.isFreed_of_fields (Obj.data_mapFields hd _));show zA (Fs e1 (Obj.data_mapFields hd _) (by simp) ?_);show cq hh λh' k=>hQ h' λb C nb e=>k b C ((EH _ I _).extBut b C nb ((EH s.heap I _).extBut b C nb e))
def ZA (hit:SI s.heap I f i el.size ep a)(h:Q (.ref I) s):wpAny (model prog w) A (pyIter (.ref I)) Q E s:=by show wpAny_pyIter_slot hit.typeIs Z7 (Cq Z7 hit.typeIs eU ?_ (fX _));change wpAny _ _ (ret (.ref I)) _ _ s;show zE {1, "set_iterator",_,hit.typeIs,Ei.lookup,h}
meta def Dk (w:World)(a:Addr)(ep:Nat)(el:Array (Int×Value)):List (Int×Value):=if w.params.followText "set-order"=true then (pickOrder (w.params.setOrder a ep) el).toList else el.toList
def VH:(Dk w a ep el).Perm el.toList:=by
 unfold Dk;split
 . show c8 _ _
 . show List.Perm.refl _
def ar (h:xs.size<=1):Dy xs:=by
 unfold Dy;let o:xs.toList.length<=1:=by simpa using h
 generalize xs.toList=l at o;cases l with
 | nil=>show List.Pairwise.nil
 | cons x r=>cases r with
  | nil=>show List.pairwise_singleton _ _
  | cons y r=>simp at o
def MV (hh:A.handled=none)(hIa:a≠I)(hf:tb.fits el.size=true)(hc:w.params.followText "set-order"=true\/tb.plain=true\/el.size<=1) (gt:GT (!w.params.followText "set-order") tb):
 Walks prog w A I [I,a] [I] el.size (λi v=>∃e,(Dk w a ep el)[i]?=some e/\v=e.2) (λi h=>∃slot:Nat,SI h I (.int slot 0) i el.size ep a/\Bn h a el ep tb/\(w.params.followText "set-order"=false->SetTable.below tb.place slot=i)) where
 sub:=λb U=>by simp at U;simp[U]
 frame:=λ_ _ _ ⟨slot,h1,J,h3⟩ hk=>{slot,h1.keep λo e=>hk I (by simp) o e,J.keep λo e=>hk a (by simp) o e,h3}
 item:=λi s Q E hi ⟨slot,h1,J,h3⟩ hQ=>by
  let lo:i<(Dk w a ep el).length:=by rw[VH.length_eq];simpa using hi
  cases C:w.params.followText "set-order" with
  | true=>
   let ei:(pickOrder (w.params.setOrder a ep) el)[i]?=some (Dk w a ep el)[i]:=by
    rw[<-Array.getElem?_toList];let:(pickOrder (w.params.setOrder a ep) el).toList=Dk w a ep el:=by unfold Dk;rw[if_pos C]
    rw[this];show zD lo
   show aZ (x:=(Dk w a ep el)[i].2) (nx:=slot) h1 J hf (λA' E' Q' q=>Zy J hf C (by rwa[ei])) λh' st sb=>?_;show hQ _ h' s.toks {_,zD lo,0} {slot,st,J.keep λo e=>sb.extBut a o hIa e,λz=>by rw[C] at z;cases z} λb o U e=>sb.extBut b o (λz=>U (by simp[z])) e
  | false=>
   let hp:tb.plain=true\/el.size<=1:=hc.resolve_left (by rw[C];simp);let ps:tb.place.size=el.size:=by simp only[SetTable.fits,KI,beq_iff_eq] at hf;show hf.1
   let rs:Dy tb.place:=hp.elim gt.rs λz=>ar ();let eo:Dk w a ep el=el.toList:=by unfold Dk;rw[if_neg (by rw[C];simp)]
   let e1:el[i]?=some el[i]:=Array.getElem?_eq_getElem hi;let e2:tb.place[i]?=some (tb.place[i]'()):=Array.getElem?_eq_getElem ();show aZ (x:=el[i].2) (nx:=tb.place[i]'()+1) h1 J hf (λA' E' Q' q=>bM (i:=i) J hf C hp (by rw[gt.ld,C];rfl) (h3 C) (by rwa[e1,e2])) λh' st sb=>?_;show hQ _ h' s.toks {el[i],by rwa[eo,Array.getElem?_toList],0} {_,st,J.keep λo e=>sb.extBut a o hIa e,λ_=>eX rs e2} λb o U e=>sb.extBut b o (λz=>U (by simp[z])) e
 done:=λs Q E ⟨slot,h1,J,h3⟩ hQ=>by
  cases C:w.params.followText "set-order" with
  | true=>
   let ei:(pickOrder (w.params.setOrder a ep) el)[el.size]?=none:=by rw[<-Array.getElem?_toList];show Ck (by rw[(c8 _ _).length_eq];simp)
   show JP hh h1 J hf (λA' E' Q' q=>Zy J hf C (by rwa[ei])) λh' k=>hQ h' s.toks λb o U e=>k b o (λz=>U (by simp[z])) e
  | false=>have hp:tb.plain=true\/el.size<=1:=hc.resolve_left (by rw[C];simp);show JP hh h1 J hf (λA' E' Q' q=>bM (i:=el.size) J hf C hp (by rw[gt.ld,C];rfl) (h3 C) (by rwa[Array.getElem?_eq_none (zH _)])) λh' k=>hQ h' s.toks λb o U e=>k b o (λz=>U (by simp[z])) e
 self:=λi s Q E ⟨slot,h1,_⟩ h=>ZA h1 h
def Mo {ys:List Nat}(hh:A.handled=none)(hIa:a≠I)(hIt:tp≠I)(hf:tb.fits el.size=true)(hp:ys.Perm (List.range el.size)):
 Walks prog w A I [I,a,tp] [I] el.size (λi v=>∃y e,ys[i]?=some y/\el[y]?=some e/\v=e.2) (λi h=>SI h I (.ref tp) i el.size ep a/\Bn h a el ep tb/\J5 h tp ys) where
 sub:=λb J=>by simp at J;simp[J]
 frame:=λ_ _ _ ⟨C,h2,U⟩ hk=>{C.keep λo e=>hk I (by simp) o e,h2.keep λo e=>hk a (by simp) o e,U.keep λo e=>hk tp (by simp) o e}
 item:=λi s Q E hi ⟨C,h2,U⟩ hQ=>by
  let hl:ys.length=el.size:=by rw[hp.length_eq,Dr]
  let e1:ys[i]?=some ys[i]:=zD ();let hy:ys[i]<el.size:=Ej.mp (hp.mem_iff.mp (El _));let e2:el[ys[i]]?=some el[ys[i]]:=Array.getElem?_eq_getElem hy;show LP C h2 hf U e1 e2 λh' st sb=>?_;show hQ _ h' s.toks {3,e1,e2,0} {st,h2.keep λo e=>sb.extBut a o hIa e,U.keep λo e=>sb.extBut tp o hIt e} λb o J e=>sb.extBut b o (λz=>J (by simp[z])) e
 done:=λs Q E ⟨C,h2,U⟩ hQ=>by
  let hl:ys.length=el.size:=by rw[hp.length_eq,Dr]
  show QA hh C h2 hf U (Ck ()) λh' k=>hQ h' s.toks λb o J e=>k b o (λz=>J (by simp[z])) e
 self:=λi s Q E ⟨C,_⟩ h=>ZA C h
end
end STb
namespace STb
open PySem PySem.Spec PyProof.Rows PySem.Calls L2
def Yw (I:s.TypeIs (.ref a) "set") (h:Q false s):wpAny (model prog w) A (Builtin.List.listLengthHint (.ref a)) Q E s:=by
 unfold Builtin.List.listLengthHint;show zA (wpAny_specialOf I PySem.F.slot_set_len.lookup ?_);generalize o:("set.__len__" : String)=id0
 wp_delta
 rw[show splitId id0=some ("set", "__len__") from by subst o;decide +kernel];subst o;show zA (DV (T := "set") (b:=true) I sub_set_self ?_);show wpAny_ite_split (λC=>absurd C (by decide)) (λ_=>?_);show wpAny_ite_split (λ_=>zA (DO I (zE h))) (λC=>absurd (by decide +kernel) C)
def Sn {St:Nat->Heap->Prop}{s0:Shared}(W:Walks prog w A.in1 I fp [I] n P St)(J:S∉fp)(hn:n<=sizeLine)(hI:s0.heap.objs.size<=I)
 (k0:∀b o,b≠S->s0.heap.get? b=some o->s.heap.get? b=some o)(st:St 0 s.heap)(hS:s.heap.get? S=some { cls:=.type "list",data:=.seq #[] c })
 (q:∀s' acc c',s'.gens=s.gens->s'.drawn=s.drawn->s'.os=s.os->(∀b o,b≠S->s0.heap.get? b=some o->s'.heap.get? b=some o)->s'.heap.get? S=some { cls:=.type "list",dict:=none,data:=.seq acc c',slots:=#[] }->ItemsOf P acc n->R (.ok (.ret res)) s'):
 codeAny (model prog w) A (.builtin "list.extend.loop" {[.ref S,.ref I,res],[]}) R s:=by
 show codeAny_extend_loopS W.toS hn S J res n 0 s #[] c rfl (zd _) st hS (ItemsOf.nil _) λs' acc c' C ng ha=>?_;show q s' acc c' C.gens C.drawn C.os (λb o hb e=>C.heap b o (λz=>?_) (k0 b o hb e)) ng ha;rcases zS.mp z with z | z
 . show hb z
 . let U:=zU e;rw[zv.mp z] at U;show absurd (zk U hI) (GJ _)
inductive cF (el:Array (Int×Value))(acc:Array Value):Prop
 | mk:∀l:List (Int×Value),(l.Perm el.toList)->(acc.toList=l.map (·.2))->cF el acc
def FJ (el:Array (Int×Value))(acc:Array Value):Prop:=cF el acc
def a7 (h:ItemsOf (λi v=>∃e,(Dk w a ep el)[i]?=some e/\v=e.2) acc el.size):FJ el acc:=by
 show{Dk w a ep el,VH,?_};let I:(Dk w a ep el).length=el.size:=by rw[VH.length_eq];simp
 apply List.ext_getElem?;intro j;by_cases J:j<el.size
 . let o:j<acc.size:=by rwa[h.1]
   let{e,he,C}:=h.2 j acc[j] (by simp[o]);rw[Array.getElem?_toList,Array.getElem?_eq_getElem o,C,zO,he];rfl
 . rw[Ck (by rw[Array.length_toList,h.1];lia),Ck (by rw[zB];lia)]
def jQ {α:Type}{l:List α}{ys:List Nat}(h:ys.Perm (List.range l.length)):(ys.filterMap λi=>l[i]?).Perm l:=by show (h.filterMap _).trans ?_;rw[List.filterMap_getElem?_range_length]
def YC {ys:List Nat}(C:ys.Perm (List.range el.size))(h:ItemsOf (λi v=>∃y e,ys[i]?=some y/\el[y]?=some e/\v=e.2) acc el.size):FJ el acc:=by
 let hl:ys.length=el.size:=by rw[C.length_eq,Dr]
 show{ys.map λy=>el.toList.getD y (0,.none),?_,?_}
 . let e:(ys.map λy=>el.toList.getD y (0,.none))=ys.filterMap λi=>el.toList[i]?:=by
    rw[<-List.filterMap_eq_map];show fm_eq λy hy=>?_;let o:y<el.toList.length:=by let:=Ej.mp (C.mem_iff.mp hy);simpa using this
    simp only[Function.comp];rw[zI,zD o];rfl
   rw[e];show jQ (by simpa using C)
 . apply List.ext_getElem?;intro j;by_cases hj:j<el.size
   . let J:j<acc.size:=by rwa[h.1]
     let{y,e,h1,h2,hv}:=h.2 j acc[j] (by simp[J]);rw[Array.getElem?_toList,Array.getElem?_eq_getElem J,hv,zO,zO,h1];change some e.2=some (el.toList.getD y (0,.none)).2;rw[zI,Array.getElem?_toList,h2];rfl
   . rw[Ck (by rw[Array.length_toList,h.1];lia),Ck (by rw[zB,zB];lia)]
where
 fm_eq {I U:Type}{f g:I->Option U}:∀{l:List I},(∀m∈l,f m=g m)->l.filterMap f=l.filterMap g
  | [],_=>rfl
  | x::r,h=>by rw[Nb,Nb,h x za,fm_eq λm hm=>h m (zZ _ hm)]
def jz (hh:A.handled=none)(hm:Bn s.heap a el ep tb)(hf:tb.fits el.size=true)(gt:GT (!w.params.followText "set-order") tb) (hz:el.size<=100000)(hSa:S≠a)
 (hS:s.heap.get? S=some { cls:=.type "list",data:=.seq #[] c })
 (q:∀s' acc c',s'.gens=s.gens->s'.os=s.os->(∀b o,b≠S->s.heap.get? b=some o->s'.heap.get? b=some o)->s'.heap.get? S=some { cls:=.type "list",dict:=none,data:=.seq acc c',slots:=#[] }->FJ el acc->R (.ok (.ret res)) s'):
 wpAny (model prog w) A.in1 (Builtin.List.listExtendWith (.ref S) (.ref a) res)
  (λfin s'=>match fin with | .done f=>R (.ok f) s' | .again c'=>c'.quiet=true/\codeAny (model prog w) A c' R s') (λe s'=>R (.error e) s') s:=by
 let nS:el.size<=sizeLine:=by let:sizeLine=16777216:=rfl;lia
 unfold Builtin.List.listExtendWith;show zA (DO (T := "set") hm.typeIs ?_);let h1:Builtin.List.listSameRef (.ref S) (.ref a)=false:=by simp[Builtin.List.listSameRef,hSa]
 let h2:(Value.type "set" == Value.type "list")=false:=by decide
 let h3:(Value.type "set" == Value.type "tuple")=false:=by decide
 simp only[h1,h2,h3,Bool.or_false,Jt,if_false];let nSI:∀I,s.heap.objs.size<=I->S≠I:=λI h z=>absurd (zk (zU hS) h) (by rw[z];show GJ _);let naI:∀I,s.heap.objs.size<=I->a≠I:=λI h z=>absurd (zk hm.lt h) (by rw[z];show GJ _);show zA (i5 hm hf (λhc=>?_) (λU d' hp=>?_) hz)
 . let W:=MV (prog:=prog) (w:=w) (A:=A.in1) (I:=s.heap.objs.size) (ep:=ep) hh (naI _ (zH _)) hf hc gt;let nf:S∉[s.heap.objs.size,a]:=by simp only[zS,List.not_mem_nil,or_false,not_or];show{nSI _ (zH _),hSa}
   let C:∀b o,s.heap.get? b=some o->(s.heap.push (ET (.int 0 0) el.size ep a)).get? b=some o:=λb o e=>zG _ e;let J:∃slot:Nat,SI (s.heap.push (ET (.int 0 0) el.size ep a)) s.heap.objs.size (.int slot 0) 0 el.size ep a/\Bn (s.heap.push (ET (.int 0 0) el.size ep a)) a el ep tb/\(w.params.followText "set-order"=false->SetTable.below tb.place slot=0):=by
    show⟨0,{_,zM _ rfl,2},hm.keep λo e=>C _ o e,λht=>iN ?_⟩;let ps:tb.place.size=el.size:=by simp only[SetTable.fits,KI,beq_iff_eq] at hf;show hf.1
    show (hc.resolve_left (by rw[ht];simp)).elim gt.rs λz=>ar ()
   show zA (zy (Yw (Bn.typeIs (hm.keep λo e=>C _ o e)) ?_));show wpAny_ite_split (λ_=>?_) (λ_=>?_)
   . show zA (EM (zA ?_));change wpAny _ _ (updateSeq S (·.push .none) >>= λ_=>updateSeq S (·.pop)) _ _ _;show zA (Hx (C _ _ hS) rfl ?_);let hS2:=Ce (Obj.mapSeq (·.push Value.none)) (C _ _ hS) rfl;show Hx (hz:=by seq_fits) hS2 rfl ?_;let hS3:=Ce (Obj.mapSeq (·.pop)) hS2 rfl;let up:∀b o,b≠S->(s.heap.push (ET (.int 0 0) el.size ep a)).get? b=some o->(((s.heap.push (ET (.int 0 0) el.size ep a)).update S (Obj.mapSeq (·.push Value.none))).update S (Obj.mapSeq (·.pop))).get? b=some o:=λb o hb e=>(Gj _ _ (Ne.symm hb)).trans ((Gj _ _ (Ne.symm hb)).trans e);show zE {plainId_quiet PySem.F.plain_extend_loop _,Sn W nf nS (zH _) (λb o hb e=>up b o hb (C b o e)) (W.frame 0 _ _ J λb hb o e=>up b o (λz=>nf (z ▸ hb)) e) hS3 λs' acc c' e1 _ e3 k ng ha=>q s' acc c' e1 e3 k ng (a7 ha)}
   . show zE {plainId_quiet PySem.F.plain_extend_loop _,Sn W nf nS (zH _) (λb o _ e=>C b o e) J (C _ _ hS) λs' acc c' e1 _ e3 k ng ha=>q s' acc c' e1 e3 k ng (a7 ha)}
 . let hT:(s.heap.push { cls:=.type "tuple",data:=.seq (U.map λ(i:Nat)=>rawInt i).toArray }).objs.size=s.heap.objs.size+1:=Co ..;let hI:s.heap.objs.size<=(s.heap.push { cls:=.type "tuple",data:=.seq (U.map λ(i:Nat)=>rawInt i).toArray }).objs.size:=by rw[hT];show Ci _
   let ntI:s.heap.objs.size≠(s.heap.push { cls:=.type "tuple",data:=.seq (U.map λ(i:Nat)=>rawInt i).toArray }).objs.size:=by rw[hT];show zb (Jq _)
   let W:=Mo (prog:=prog) (w:=w) (A:=A.in1) (I:=(s.heap.push { cls:=.type "tuple",data:=.seq (U.map λ(i:Nat)=>rawInt i).toArray }).objs.size) (tp:=s.heap.objs.size) (tb:=tb) (ep:=ep) hh (naI _ hI) ntI hf hp;let nf:S∉[(s.heap.push { cls:=.type "tuple",data:=.seq (U.map λ(i:Nat)=>rawInt i).toArray }).objs.size,a,s.heap.objs.size]:=by simp only[zS,List.not_mem_nil,or_false,not_or];show{nSI _ hI,hSa,nSI _ (zH _)}
   let C:∀b o,s.heap.get? b=some o->((s.heap.push { cls:=.type "tuple",data:=.seq (U.map λ(i:Nat)=>rawInt i).toArray }).push (ET (.ref s.heap.objs.size) el.size ep a)).get? b=some o:=λb o e=>zG _ (zG _ e);let J:SI ((s.heap.push { cls:=.type "tuple",data:=.seq (U.map λ(i:Nat)=>rawInt i).toArray }).push (ET (.ref s.heap.objs.size) el.size ep a)) (s.heap.push { cls:=.type "tuple",data:=.seq (U.map λ(i:Nat)=>rawInt i).toArray }).objs.size (.ref s.heap.objs.size) 0 el.size ep a/\Bn ((s.heap.push { cls:=.type "tuple",data:=.seq (U.map λ(i:Nat)=>rawInt i).toArray }).push (ET (.ref s.heap.objs.size) el.size ep a)) a el ep tb/\J5 ((s.heap.push { cls:=.type "tuple",data:=.seq (U.map λ(i:Nat)=>rawInt i).toArray }).push (ET (.ref s.heap.objs.size) el.size ep a)) s.heap.objs.size U:=
    {{_,zM _ rfl,2},hm.keep λo e=>C _ o e,{3,zG _ (zM _ rfl),0}}
   generalize (s.heap.push { cls:=.type "tuple",data:=.seq (U.map λ(i:Nat)=>rawInt i).toArray }).objs.size=I0 at hT hI ntI W nf J C ⊢;generalize (s.heap.push { cls:=.type "tuple",data:=.seq (U.map λ(i:Nat)=>rawInt i).toArray }).push (ET (.ref s.heap.objs.size) el.size ep a)=h0 at J C ⊢;show zA (zy (Yw (Bn.typeIs (hm.keep λo e=>C _ o e)) ?_));show wpAny_ite_split (λ_=>?_) (λ_=>?_)
   . show zA (EM (zA ?_));change wpAny _ _ (updateSeq S (·.push .none) >>= λ_=>updateSeq S (·.pop)) _ _ _;show zA (Hx (C _ _ hS) rfl ?_);let hS2:=Ce (Obj.mapSeq (·.push Value.none)) (C _ _ hS) rfl;show Hx (hz:=by seq_fits) hS2 rfl ?_;let hS3:=Ce (Obj.mapSeq (·.pop)) hS2 rfl;let up:∀b o,b≠S->h0.get? b=some o->((h0.update S (Obj.mapSeq (·.push Value.none))).update S (Obj.mapSeq (·.pop))).get? b=some o:=λb o hb e=>(Gj _ _ (Ne.symm hb)).trans ((Gj _ _ (Ne.symm hb)).trans e);show zE {plainId_quiet PySem.F.plain_extend_loop _,Sn (s0:=s) W nf nS hI (λb o hb e=>up b o hb (C b o e)) (W.frame 0 _ _ J λb hb o e=>up b o (λz=>nf (z ▸ hb)) e) hS3 λs' acc c' e1 _ e3 k ng ha=>q s' acc c' e1 e3 k ng (YC hp ha)}
   . show zE {plainId_quiet PySem.F.plain_extend_loop _,Sn (s0:=s) W nf nS hI (λb o _ e=>C b o e) J (C _ _ hS) λs' acc c' e1 _ e3 k ng ha=>q s' acc c' e1 e3 k ng (YC hp ha)}
def kL (hh:A.handled=none)(hm:Bn s.heap a el ep tb)(hf:tb.fits el.size=true)(gt:GT (!w.params.followText "set-order") tb) (hz:el.size<=100000)
 (q:∀s' acc,s'.gens=s.gens->s'.os=s.os->(∀b o,s.heap.get? b=some o->s'.heap.get? b=some o)->FJ el acc->R acc.toList s'):wpAny (model prog w) A (collect (.ref a)) R E s:=by
 unfold collect;show zA (wpAny_runValue (codeAny_builtin entry_proto_collect' ?_));rw[Around.under_plainId PySem.F.plain_proto_collect _];show zA (m:=newList []) (DW ?_);show zE {plainId_quiet PySem.F.plain_list_iadd _,codeAny_builtin entry_list_iadd' ?_};rw[Around.under_plainId PySem.F.plain_list_iadd _];let hS:(s.heap.push { cls:=.type "list",data:=.seq ([]:List Value).toArray }).get? s.heap.objs.size=some { cls:=.type "list",data:=.seq #[] }:=zM _ rfl;change wpAny _ A.in1 (Builtin.List.listExtendWith (.ref s.heap.objs.size) (.ref a) (.ref s.heap.objs.size)) _ _ _;let key:=jz (prog:=prog) (w:=w) (A:=A) (s:={ s with heap:=s.heap.push { cls:=.type "list",data:=.seq ([]:List Value).toArray } }) (res:=.ref s.heap.objs.size)
  (R:=λ(u:Result)(s':Shared)=>∃(acc:Array Value)(U:Nat),u=.ok (.ret (.ref s.heap.objs.size))/\s'.gens=s.gens/\s'.os=s.os/\(∀b o,s.heap.get? b=some o->s'.heap.get? b=some o)/\s'.heap.get? s.heap.objs.size=some { cls:=.type "list",dict:=none,data:=.seq acc U,slots:=#[] }/\FJ el acc)
  hh (hm.keep λo e=>zG _ e) hf gt hz (Nat.ne_of_gt hm.lt) hS (λs' acc U J I k C g=>{acc,U,0,J,I,λb o e=>k b o (zb (zU e)) (zG _ e),C,g})
 show BB key (λfin s' x=>?_) λe s' x=>?_
 . cases fin with
   | done f=>let{acc,U,e,J,I,k,C,g}:=x;cases e;show zA (wpAny_load C (zE (q s' acc J I k g)))
   | again c1=>show{x.1,codeAny_mono x.2 λu s2 y=>?_};let{acc,U,0,J,I,k,C,g}:=y;show zA (wpAny_load C (zE (q s2 acc J I k g)))
 . let{3,e',_}:=x;cases e'
end STb
namespace STb
open PySem PySem.Spec PyProof.Rows L2
def MT {St:Nat->Heap->Prop}(W:Walks prog w A.in1 I fp [I] n P St)(hSf:S∉fp)(hSI:S≠I)(val:Nat->Int)(hv:∀i v,P i v->∃t,v=.int (val i) t)(hb:n+1<scanBound):
 ∀k i s,n-i=k->i<=n->St i s.heap->CS prog w led s.heap S (λz=>(firstMet val i).any λx=>x==z) (firstMet val i).length ->
  (∀s':Shared,s'.gens=s.gens->s'.drawn=s.drawn->s'.os=s.os->(∀b o,b≠S->b≠I->s.heap.get? b=some o->s'.heap.get? b=some o)->CS prog w led s'.heap S (λz=>(firstMet val n).any λx=>x==z) (firstMet val n).length->R (.ok (.ret .none)) s') ->
  codeAny (model prog w) A (.builtin "set.update.loop" {[.ref S,.ref I],[]}) R s:=by
 intro k
 induction k with
 | zero=>
  intro i s hk hi st G q;obtain rfl:i=n:=()
  show codeAny_builtin PyProof.Rows.F.entry_set_update_loop ?_;rw[Around.under_plainId PyProof.Rows.F.plain_set_update_loop _];show zA (m:=pyNext (.ref I)) (W.done s _ _ st λh' tk J=>?_);show zE (q _ rfl rfl rfl (λb o _ C e=>J b o (λz=>C (by simpa using z)) e) (G.keep λo e=>J S o (λz=>hSI (by simpa using z)) e))
 | succ k ih=>
  intro i s hk hi st G q;let mr:i<n:=()
  show codeAny_builtin PyProof.Rows.F.entry_set_update_loop ?_;rw[Around.under_plainId PyProof.Rows.F.plain_set_update_loop _];show zA (m:=pyNext (.ref I)) (W.item i s _ _ mr st λv h' tk hP oB J=>?_);let{t,0}:=hv i v hP;let G':CS prog w led h' S (λz=>(firstMet val i).any λx=>x==z) (firstMet val i).length:=G.keep λo e=>J S o (λz=>hSI (by simpa using z)) e;show zA (m:=holding [Value.int (val i) t] (setAdd S (.int (val i) t))) (zy ?_);unfold setAdd;show zy (zA ((intKind prog w).pyHash (k:=val i) (intKind_is _ _ _ _) ?_));show Pl (s:={ s with heap:=h',toks:=tk+1 }) G' (by let:=firstMet_length_le val i;lia) λh2 sb G2=>?_;let Gi:CS prog w led h2 S (λz=>(firstMet val (i+1)).any λx=>x==z) (firstMet val (i+1)).length:=G2.congr (λz=>by rw[firstMet_succ,step_any]) (by rw[firstMet_succ,step_length]);show zE {plainId_quiet PyProof.Rows.F.plain_set_update_loop _,ih (i+1) _ () mr (W.frame _ _ _ oB λb hb o e=>(sb.2 b λz=>hSf (z ▸ hb)).trans e) Gi λs'' e1 e2 e3 qF G3=>?_};show q s'' e1 e2 e3 (λb o U C e=>qF b o U C ((sb.2 b U).trans (J b o (λz=>C (by simpa using z)) e))) G3
meta def FX (w:World):Obj:={ cls:=.type "set",dict:=none,data:=.set #[] 0 (.fresh 0 0 (!w.params.followText "set-order")) }
def iI (h:Heap):CS prog w (!w.params.followText "set-order") (h.push (FX w)) h.objs.size (λ_=>false) 0:=
 ⟨_,#[],0,_,zM _ rfl,{8},rfl,{λe he=>by simp at he,λk=>by simp,by decide,by rfl,0,gD _}⟩
def Pb (a)(h:Q₁ (.ref s.heap.objs.size) { s with heap:=s.heap.push (FX w) }):codeAny (model prog w) A (.call (.builtin "set.__new__") {[.type "set",a],[]}) (wants Q₁ E) s:=by
 show codeAny_of_tree (zA (m:=checkBuiltinCall "set.__new__" {[.type "set",a],[]}) (wpAny_of_eq (PySem.F.newCall_set_1 a) (zE {plainId_quiet PySem.F.plain_set_new _,codeAny_builtin PySem.F.entry_set_new ?_})));rw[Around.under_plainId PySem.F.plain_set_new _];unfold Builtin.«set.__new__» Builtin.Frozenset.newClass;let sub:=sub_set_self;let{C,g,d,o,os}:=s;dsimp only
 wp_walk
 show wpAny_askSetting (zE ?_);dsimp only;simp only[newObj];show zA (wpAny_alloc (zE (zE h)))
def eS (hA:A.handled=none)(hl:s.heap.IsList l its.toArray)(hi:IntsAre its ns)(hz:its.length+1<scanBound)
 (q:∀h tk,(∀b o,s.heap.get? b=some o->h.get? b=some o)->CS prog w (!w.params.followText "set-order") h s.heap.objs.size (λz=>(firstMet (λi=>ns.getD i 0) its.length).any λx=>x==z) (firstMet (λi=>ns.getD i 0) its.length).length->Q (.ref s.heap.objs.size) { s with heap:=h,toks:=tk }):
 wpAny (model prog w) A (call (.type "set") [.ref l]) Q E s:=by
 show B9 (codeAny_of_tree (zE {Code.quiet_builtin _ (by decide +kernel),codeAny_builtin PySem.F.entry_type_call ?_}));unfold Builtin.«type.__call__»;dsimp only;rw[if_neg (by rw[PySem.F.called_set.notType];decide)];rw[if_neg (by rw[PySem.F.called_set.canCreate];decide)];let{c,tl,hm}:=PySem.F.called_set.mro;show zA (wpAny_of_eq (PySem.F.typeCall_set_1 _) (zE (zA (wpAny_of_eq hm (zE ?_)))));show zA (wpAny_of_eq PySem.F.called_set.made (zE (zA (zE ?_))));show zA (zy (B9 (codeAny_mono (Pb (E:=E) (.ref l) (Q₁:=λobj I=>obj=.ref s.heap.objs.size/\I={ s with heap:=s.heap.push (FX w) }) {2}) λr I e=>?_)))
 match r,e with
 | .ok (.ret obj),e=>
  let{2}:=e;let h0:∀b o,s.heap.get? b=some o->(s.heap.push (FX w)).get? b=some o:=λb o e=>zG _ e;let ht:∀h:Heap,(∀b o,s.heap.get? b=some o->h.get? b=some o)->h.IsList l its.toArray:=λh K=>by let{o,ho,hr}:=hl;show{o,K _ _ ho,hr}
  let mr:l<s.heap.objs.size:=by let{o,ho,_}:=hl;show zU ho
  let C:Shared.TypeIs { s with heap:=s.heap.push (FX w) } (.ref s.heap.objs.size) "set" := {_,zM _ rfl,0};change wpAny _ _ _ _ _ _;show zA (DV C PySem.F.called_set.sub ?_);show zA (zy ?_);unfold callSpecial?;show zA (wpAny_specialOf C PySem.F.called_set.init.lookup (zy (zA (wpAny_of_eq (PySem.F.called_set.init.bind _) (zE (zA (B9 (codeAny_call_builtin PySem.F.called_set.init.plain PySem.F.entry_set_init (check_set_init_1 C ?_)))))))));unfold Builtin.«set.__init__»;show zA (wpAny_of_eq (m':=pure Unit.unit) rfl (zE ?_));dsimp only;show zA (zA (zA (DO C (wpAny_of_eq (m':=pure (Value.type "set")) rfl (zE (wpAny_of_eq (m':=pure "set") rfl (zE ?_)))))));show zA (wpAny_of_eq (m':=pure Unit.unit) rfl (zE (zA (zE ?_))));show zA (zA (zA (wpAny_load (zM _ rfl) ?_)));show wpAny_of_eq (m':=pure (#[],0,SetTable.fresh 0 0 (!w.params.followText "set-order"))) (by unfold FX;cases w.params.followText "set-order" <;> rfl) (zE (wpAny_of_eq (m':=pure false) (by cases w.params.followText "set-order" <;> rfl) (zE ?_)));let J:∀h tk,(∀b o,s.heap.get? b=some o->h.get? b=some o)->Shared.TypeIs { s with heap:=h,toks:=tk } (.ref l) "list" := λh tk K=>by let{o,ho,hr}:=ht h K;show⟨o,ho,hr.1⟩
  change wpAny _ _ (Builtin.Frozenset.updateFrom "set.__init__" s.heap.objs.size (.ref l) >>= _) _ _ _;unfold Builtin.Frozenset.updateFrom;show zA (zA (zA (DV (J _ _ h0) PySem.F.sub_list_set (DV (J _ _ h0) (b:=false) PySem.F.sub_list_frozenset ?_))));show zA (DO (J _ _ h0) ?_);show zA (Ho (ht _ h0) (zA (wpAny_runValue ?_)));let U:(s.heap.push (FX w)).objs.size=s.heap.objs.size+1:=Co ..;let nli:l≠(s.heap.push (FX w)).objs.size:=zb (by rw[U];show EJ mr);let nsi:s.heap.objs.size≠(s.heap.push (FX w)).objs.size:=by rw[U];show zb (Jq _)
  show MT (led:=!w.params.followText "set-order") (Walks.list (prog:=prog) (w:=w) (A:=(A.under (Code.builtin "type.__call__" { pos:=[.type "set",.ref l] })).in1.in1) hA (s.heap.push (FX w)).objs.size l nli its.toArray) ?_ nsi (λi=>ns.getD i 0) ?_ (by simpa using hz) its.toArray.size 0 _ rfl (zd _) ?_ ?_ ?_
  . intro z;rcases zS.mp z with z | z
    . show nsi z
    . show absurd (zv.mp z) (Nat.ne_of_gt mr)
  . intro i v hv;rw[Cr] at hv;show hi.int_at i v hv
  . show{{_,zM _ rfl,2},ht _ λb o e=>zG _ (h0 b o e)}
  . show (iI (prog:=prog) (w:=w) s.heap).keep λo e=>zG _ e
  . intro s' e1 e2 e3 kp so;show zE (zE (zE (zE ?_)));let{h',g',d',t',o'}:=s';cases e1;cases e2;cases e3;show q h' t' (λb o e=>kp b o (zb (zU e)) (λz=>?_) (zG _ (h0 b o e))) (by simpa using so);let hb:b<s.heap.objs.size:=zU e;rw[z,U] at hb;show absurd hb (Nat.not_lt.mpr (Ci _))
 | .ok .next,e=>show e.elim
 | .ok .brk,e=>show e.elim
 | .ok .cont,e=>show e.elim
 | .error v,e=>show e
end STb
namespace L2
open PySem PySem.Spec PyProof.Rows STb
def SN (val:Nat->Int):∀i,(firstMet val i).Nodup
 | 0=>List.nodup_nil
 | i+1=>by
  let o:=SN val i;rw[firstMet_succ];unfold step_dedup;split
  . show o
  . rename_i h
    show List.nodup_append.mpr {o,by simp,λa I b C e=>h ?_};rw[zv.mp C] at e;subst e;show EE.mpr {_,I,by simp}
def X2:∀{l2 l1:List Int},l2.Nodup->(∀x∈l2,x∈l1)->l1.length<=l2.length->l1.Perm l2
 | [],l1,_,_,h=>by let:l1=[]:=Hh.mp (by simpa using h);subst this;show List.Perm.refl _
 | x::r,l1,nd,hs,h=>by
  let o:x∈l1:=hs x za;let C:x∉r:=(C7.mp nd).1;show (List.perm_cons_erase o).trans ((X2 (C7.mp nd).2 (λy I=>?_) ?_).cons x)
  . show (List.mem_erase_of_ne (a:=y) (b:=x) (λz=>C (by rwa[<-z]))).mpr (hs y (zZ _ I))
  . rw[List.length_erase_of_mem o];simp only[zm] at h
    lia
def cf :∀{l:List (Int×Value)},ElemsOf (intKind prog w) l->∃ns:List Int,IntsAre (l.map (·.2)) ns/\∀z,z∈ns↔∃e∈l,(intKind prog w).is z e.2=true
 | [],_=>{[],.nil,λz=>by simp}
 | e::r,h=>by
  let{ns,U,J}:=cf (l:=r) h.tail;let{{k,C,_},_}:=h.head;let{t,et}:=Value.isInt_shape C;show{k::ns,?_,λz=>?_}
  . rw[Bf,et];show .cons k t U
  . rw[zS,J];constructor
    . rintro (rfl | ⟨I,o4,o⟩)
      . show⟨e,za,C⟩
      . show{I,zZ _ o4,o}
    . rintro ⟨I,o4,o⟩;rcases zS.mp o4 with rfl | o4
      . show .inl ((intKind prog w).inj _ _ _ o C)
      . show .inr ⟨I,o4,o⟩
def Zu (ns:List Int)(z):((firstMet (λi=>ns.getD i 0) ns.length).any λx=>x==z)=true↔z∈ns:=by
 rw[firstMet_any];let e:(List.range ns.length).map (λi=>ns.getD i 0)=ns:=by
  apply List.ext_getElem
  . simp
  . intro i I o;simp[o]
 rw[e,EE];show{λ⟨x,C,h⟩=>by rwa[<-eq_of_beq h],λh=>{z,h,by simp}}
def gT {ms:List Int}(o:ms.Pairwise (· <= ·))(J:ms.Nodup):ms.Pairwise (· < ·):=by
 rw[zq] at o ⊢;intro i j hi I C;let a:=o i j hi I C;let b:ms[i]≠ms[j]:=λz=>by let:=(List.getElem_inj J).mp z;lia
 lia
section
open PySem.W PySem.Calls SortT
def jS (hh:A.handled=none)(G:CS prog w (!w.params.followText "set-order") s.heap a S n) (h64:n<64)
 (q:∀(s1:Shared)(h':Heap)(D:Addr)(ms:List Int)(us:List Value)(c:Nat),s1.gens=s.gens->s1.os=s.os->(∀b o,s.heap.get? b=some o->s1.heap.get? b=some o)->(∀b o,s1.heap.get? b=some o->h'.get? b=some o)->s1.heap.objs.size<=D->h'.get? D=some (seqObj "list" us.toArray c)->AN (ms.map V.int) us->ms.Pairwise (· <= ·)->(∀z,z∈ms↔S z=true)->ms.length=n->Q (.ref D) { s1 with heap:=h' }):
 wpAny (model prog w) A (call (.builtin "sorted") [.ref a]) Q E s:=by
 let{ob,el,ep,tb,g1,g2,g3,B}:=G;show Calls.call_function_entry kind_sorted plain_sorted entry_sorted (args_sorted1 _) ?_;unfold Builtin.«sorted»;show zA (m:=checkCount "sorted" 1 1 _) (zE ?_);show zA (kL (A:=A.in1) hh ⟨ob,g1,g2,g3⟩ B.fit B.gt (by let:=B.siz;lia) λs1 acc e1 e2 k1 hg=>?_);let{l,J,la}:=hg;let{ns,I,hm}:=cf (B.elm.perm J);let hl:l.length=n:=by rw[J.length_eq,Array.length_toList,B.siz]
 let C:acc.toList.length=n:=by rw[la,zB,hl]
 rw[<-la] at I;generalize acc.toList=vs at I C;show zA (wpAny_newList ?_ (by rw[sizeLine_eq];lia));let U:(s1.heap.push (seqObj "list" vs.toArray 0)).get? s1.heap.objs.size=some (seqObj "list" vs.toArray 0):=zM _ rfl;let kp1:∀b o,s1.heap.get? b=some o->(s1.heap.push (seqObj "list" vs.toArray 0)).get? b=some o:=λb o z=>zG _ z;show zA (zy (Cq slot_list_sort {_,U,0} entry_list_sort (SortT.list_sort (O:=HS) (key:=λi=>ns.getD i 0) (κ:=oneType') U () (λh2=>YL I h2) λout hp=>{1,?_}) (args_list_sort _)));show zE {1,?_};let{c,hc}:=sortedHeap_at (vs:=vs) (out:=(out.map λi=>vs.getD i Value.none).toArray) U;let{ms,pm,pr,rz,pl}:=Z4 I hp;show q s1 _ _ ms _ c e1 e2 k1 (λb o z=>?_) (zH _) hc rz pr (λz=>?_) (by rw[pl,<-I.length,C])
 . let hb:b<s1.heap.objs.size:=zU z;rw[sortedHeap_old (zb hb) (by rw[Co];show EJ hb)];show kp1 b o z
 . rw[pm.mem_iff,hm z,B.mem z];show{λ⟨e,he,u⟩=>{e,J.mem_iff.mp he,u},λ⟨e,he,u⟩=>{e,J.mem_iff.mpr he,u}}
end
def eY (K:AK)(ta:TA):TE:=λσ H Q=>ta σ H λo H1=>∃p,∃(ns:List Int),o=[.ref p]/\AD K H1 p (ns.map V.int)/\ns.length<4000/\(∀z∈ns,0<=z/\z<60)/\∀l(ms:List Int),H1 l=none->ms.Pairwise (· < ·)->(∀z:Int,z∈ms↔z∈ns)->Q (.ref l) (upd H1 l (.lst (ms.map V.int)))
theorem l6 (hc:X.calm=true)(hgS:Gl X "sorted") (hmS:X.mg "sorted"=none) (hgT:Gl X "set") (hmT:X.mg "set"=none) (ha:PA X [a] ta)(hs:autoParam (starEach [a] X.env=[(false,eval a X.env)]) d_._auto_5)
 (nh:autoParam (starEach [.Call (.Name "set" p2) [a] [] pos2] X.env=[(false,eval (.Call (.Name "set" p2) [a] [] pos2) X.env)]) d_._auto_5):
 PE X (.Call (.Name "sorted" p1) [.Call (.Name "set" p2) [a] [] pos2] [] pos1) (eY X.K ta):=by
 intro pins s σ H Q I h;refine EN (Cp I hgS hmS (by decide +kernel:bootBuiltins "sorted"=some (.builtin "sorted")) ?_ (by decide) (by decide));refine PyProof.Rows.callWith_builtin1 ?_ nh rfl;rw[nh];refine Calls.spliced_cons ?_;refine Call_ (Cp I hgT hmT (by decide +kernel:bootBuiltins "set"=some (.type "set")) (PyProof.Rows.callWith_type1 (AM (ha pos2 pins s σ H _ I h) fun us s1 ⟨vs,H1,I1,r1,q1⟩=>?_) hs rfl));obtain⟨p,ns,e,hq,h4k,h60,q⟩:=q1;subst e;obtain⟨u,rfl,rx⟩:=BL r1;cases rx;have lh:(firstMet (fun i=>ns.getD i 0) ns.length).length<=ns.length:=firstMet_length_le _ _;have l60:(firstMet (fun i=>ns.getD i 0) ns.length).length<=60:=WM.nd_len (n:=60) (SN _ _) fun x hx=>h60 x ((Zu ns x).mp (EE.mpr {x,hx,by simp}));have key:∀(h:Heap)(tk:Nat),(∀b o,s1.heap.get? b=some o->h.get? b=some o)->CS X.prog X.w (!X.w.params.followText "set-order") h s1.heap.objs.size (fun z=>(firstMet (fun i=>ns.getD i 0) ns.length).any fun x=>x==z) (firstMet (fun i=>ns.getD i 0) ns.length).length ->
  wpAny (model X.prog X.w) X.A (call (.builtin "sorted") [.ref s1.heap.objs.size]) (EP X pins σ Q) X.xe { s1 with heap:=h,toks:=tk }:=by
  intro h tk K so;refine jS (I1.ok.hd hc) so (by lia) fun s2 h' D ms us c e1 e2 k1 k2 hD ho rz pr hm hlen=>?_;obtain⟨hp2,g2,d2,t2,o2⟩:=s2;cases e1;cases e2;have kk:∀b o,s1.heap.get? b=some o->hp2.get? b=some o:=fun b o z=>k1 b o (K b o z);have I2:AA X pins σ H1 { s1 with heap:=hp2,gens:=s1.gens,drawn:=d2,toks:=t2 }:=I1.call (ch:=[]) (Un.kept kk) (I1.hok.kept kk) I1.bare fun _ z=>nomatch z;have cov:=X2 (l2:=firstMet (fun i=>ns.getD i 0) ns.length) (l1:=ms) (SN _ _) (fun x hx=>(hm x).mpr (EE.mpr {x,hx,by simp})) (by lia);refine{.ref D,_,SK (t':=t2) I2 hD k2 ho rz ?_,0,q D ms (I2.hok.fresh hD) (gT pr (cov.nodup_iff.mpr (SN _ _))) fun z=>(hm z).trans (Zu ns z)};have:sizeLine=16777216:=rfl;rw[zB]
  lia
 have sb:scanBound=4096:=rfl;obtain⟨its,rv,pl,hz⟩:=I1.list hq;have hi:=Fp rv;have hil:=hi.length;refine eS (I1.ok.hd hc) pl.isList hi (by lia) fun h tk K so=>?_;rw[hil] at so;exact Calls.spliced_nil (key h tk K so)
end L2
namespace L2
open PySem PyProof.Rows
end L2
namespace L2
open PySem PySem.Spec PyProof.Rows
def iU (l)(items)(n)(b)(o)(items2)(n2)(J:¬ (!items.isEmpty && Builtin.List.listTooLong (items.size+items2.size))=true)(qd:items.size<=sizeLine)(nh:items.size+items2.size<=sizeLine+1):
 Meets (Builtin.«list.extend» {[.ref l,.ref b],[]}) (λ_ R s=>s.heap.get? l=some { cls:=.type "list",dict:=none,data:=.seq items n,slots:=#[] }/\(s.heap.get? b=some o/\o.cls=.type "tuple"/\o.data=.seq items2 n2)/\R (.ok (.ret Value.none)) { s with heap:=s.heap.update l (Obj.mapSeq λx=>x++items2),toks:=s.toks }):=
 .of_wp λprog w A R s h=>by
  let{C,{I,U,hd},h}:=h;change wpAny _ A.in1 (Builtin.List.listExtendWith (.ref l) (.ref b) .none) _ _ s;unfold Builtin.List.listExtendWith;show zA (DO ⟨o,I,U⟩ ?_);let h1:(Builtin.List.listSameRef (.ref l) (.ref b) || Value.type "tuple" == Value.type "list" || Value.type "tuple" == Value.type "tuple")=true:=by simp
  simp only[h1,if_true];show zA ?_;unfold Builtin.List.listItems;show zA (Di I hd (zE ?_));show zA ?_;show zA (Di C rfl (zE ?_));rw[if_neg J];change wpAny _ A.in1 (updateSeq l (· ++ items2) >>= λ_=>ret .none) _ _ s;show zA (Hx C rfl ?_ () (by rwa[Array.size_append]));show zE {1,h}
def lN:V->List V->Hp->VK->Prop:=λx o H Q=>∃l b xs zs,x=.ref l/\o=[.ref b]/\H l=some (.lst xs)/\H b=some (.tup zs)/\xs.length+zs.length<=sizeLine/\Q .non (upd H l (.lst (xs++zs)))
def ki:Tt X "list.extend" lN:=by
 intro pins s σ H x vs v us Q I rx rv h;let{l,b,xs,zs,2,hH,hB,hz,q}:=h;cases rx;let{u,0,ru}:=rv.one;cases ru;let{z,its,n,r,hl,e}:=I.lstM hH;let{z2,o,r2,o2,J,U,n2,hd2}:=I.hok b _ hB;let nH:=r2.length;let C:its.toArray.size+o.toArray.size<=sizeLine:=by rw[zc,zc];lia
 let oI:¬ (!its.toArray.isEmpty && Builtin.List.listTooLong (its.toArray.size+o.toArray.size))=true:=by rw[V4 C,Bool.and_false];show zf
 show call_meets PySem.F.slot_list_extend {_,e,0} PySem.F.entry_list_extend (PySem.F.args_list_extend_2 _ _)
  (iU l its.toArray n b o2 o.toArray n2 oI (by rw[zc];lia) ()) {e,⟨J,U,hd2⟩,?_}
 show{.non,_,I.lset (its':=its++o) hH e (by simp) (r.append r2) ?_,0,q};rw[zT]
 lia
def AA.turnedLaid {t':Nat}{fp:List Addr}{a:Addr}{o:HO}(I:AA X pins σ H s)(hf:∀b∈fp,EC X pins H b)(k:∀b u,b∉fp->s.heap.get? b=some u->h'.get? b=some u)(U:s.heap.objs.size<=a)
 (new:Aj X.prog X.w (upd H a o) h' a o):AA X pins σ (upd H a o) { s with heap:=h',toks:=t' }:=by
 let fr:H a=none:=I.hok.fresh U;let J:∀b u,H b=some u->b∉fp:=λb u e z=>by rw[(hf b z).1] at e;cases e
 let na:∀b u,H b=some u->b≠a:=λb u e z=>by rw[z,fr] at e;cases e
 show I.step (g':=s.gens) (d':=s.drawn) (ch:=fp) (λb hb=>?_) (λb u _ _ C e _=>k b u C e) (λb u _ _ C e _=>{u.slots,k b u C e}) (λb u C e n=>?_) (λb u C e=>{u,k b u C e})
  (λb xs e=>by rwa[zY (na b _ e)]) (λb u w e=>by rwa[zY (na b _ e)]) (λb ps e=>{#[],by rw[zY (na b _ e),e];simp}) (λm hm=>?_) (λb u e=>?_) I.bare
 . let{f0,f1,f2,f3,f4,f5}:=hf b hb;show⟨f3,f1,f4,f5⟩
 . rwa[zY (zb (zk (zU e) U))]
 . let{u,es,ep,ho,r}:=hm;show{u,es,ep,k _ u (λz=>(hf _ z).2.1 rfl) ho,r}
 . by_cases z:b=a
   . subst z;rw[zJ] at e;cases e;show new
   . rw[zY z] at e;show (I.hok b u e).stay (λc v C q=>k c v ?_ q) (λc q=>by rwa[zY (na c _ q)]) λc xs q=>by rwa[zY (na c _ q)]
     rcases C with z | z
     . rw[z];show J b u e
     . show J c _ z
meta def Wg (K:AK)(a:Addr):It:=
 {λi H=>∃xs x,AD K H a xs/\xs[i]?=some x,λi H x H'=>∃T v,x=.ref T/\H T=none/\H'=upd H T (.tup [.int i,v])/\∀xs,AD K H a xs->xs[i]?=some v,λi H=>∃xs,AD K H a xs/\xs.length<=i}
def eO {P:Program}{w:World}{K:AK}{elts:List Expr} {x1} {tp:Pos}(a e it:Addr):IB P w K (.Tuple elts x1 tp) (Wg K a) [e,it] e (λi h=>(∃old,IsEnum h e it (i:Nat) old)/\h.IsListIter it a i/\e≠it) where
 mem:=by simp
 obj:=λi h st b hb=>by
  let{{old,he},{o,e1,c,d},_}:=st;rcases zS.mp hb with rfl | hb
  . show{_,he,λv z=>by cases z}
  . let e2:b=it:=by simpa using hb
    subst e2;show{o,e1,λv z=>by rw[d] at z;cases z}
 keep:=λi h h' st k=>by let{{old,he},hit,ne}:=st;show{{old,k e (by simp) _ he},hit.at λo x=>k it (by simp) o x,ne}
 item:=by
  intro X hP hw hK hc i pins s σ H E I hf st hg;subst hP hw hK;let{{old,he},hit,ne}:=st;let{xs,x,J,hx}:=hg;let{its,U,p,hz}:=I.list J;let{u,hu,ru}:=U.get hx;let elt:e<s.heap.objs.size:=zU he;let ilt:it<s.heap.objs.size:=by let{_,q,_}:=id hit;show zU q
  show wpAny_pyNext_enum_item he hit p.isList (x:=u) (by simpa using hu) ne λh' qT nQ hT hsz hk=>?_;show{1,wpAny_letOwnedTupleGo_enum qT λh2 qm nh=>?_};let C:h2.get? s.heap.objs.size=some { cls:=.type "tuple",data:=.seq #[.int i s.toks,u] }:=(nh.2 _ (Nat.ne_of_gt elt)).trans hT;show{.ref s.heap.objs.size,upd H s.heap.objs.size (.tup [.int i,x]),I.turnedLaid (t':=s.toks+1) (fp:=[e,it]) hf (λb o hb q=>?_) (zH _) ?_,0,{_,x,0,I.hok.fresh (zH _),0,λys hy=>by rwa[I.list_inj hy J]},{{u,?_},?_,ne},λb hb=>?_}
  . show (nh.2 b λz=>hb (by simp[z])).trans (hk b o (λz=>hb (by simp[z])) (λz=>hb (by simp[z])) q)
  . show{{CJ,_,C,0},[.int i s.toks,u],.cons {1} (.cons ru .nil),{_,C,6}}
  . let:=qm;rwa [show ((i:Nat):Int)+1=((i+1:Nat):Int) by lia] at this
  . show nQ.at λo q=>(nh.2 it (Ne.symm ne)).trans q
  . rcases zS.mp hb with rfl | hb
    . rw[zY (zb elt)];show (hf _ (by simp)).1
    . let e2:b=it:=by simpa using hb
      subst e2;rw[zY (zb ilt)];show (hf _ (by simp)).1
 done:=by intro X hP hw hK hc i pins s σ H E I hf st hg;subst hP hw hK;let{{old,he},hit,ne}:=st;let{xs,J,hx}:=hg;let{its,U,p,hz}:=I.list J;let{f0,f1,f2,f3,f4,f5}:=hf it (by simp);let hl:=U.length;show wpAny_pyNext_enum_end (I.ok.hd hc) he hit p.isList (by simp;lia) λh' eb=>{0,I.turned (t':=s.toks) (λb o hb e=>eb b o hb e) f0 f1 f3 f4 f5}
 self:=λ_ _ _ _ _ st h=>by let{{old,he},_}:=st;show wpAny_pyIter_enum he h
def RN (K:AK)(ta:TA):TI:=λσ H R=>ta σ H λo H1=>∃a,o=[.ref a]/\(∃xs,AD K H1 a xs)/\R (Wg K a) H1
def jq {x1} (hg:Gl X "enumerate") (hm:X.mg "enumerate"=none) (ha:PA X [a] ta)(hs:autoParam (starEach [a] X.env=[(false,eval a X.env)]) d_._auto_5):PI X (.Tuple elts x1 tp) (.Call (.Name "enumerate" p) [a] [] pos) (RN X.K ta):=by
 intro pins s σ H R I h;show Call_ (Cp I hg hm boot_enumerate (PyProof.Rows.callWith_type1 (AM (ha pos pins s σ H _ I h) λus s1 ⟨vs,H1,o,J,U⟩=>?_) hs rfl));let{l,e,{xs,hq},q}:=U;subst e;let{u,0,C}:=BL J;cases C;let{its,rv,pl,hz}:=o.list hq;show call_enumerate_list pl.isList λh' he hit hsz hk=>?_;show wpAny_pyIter_enum he ?_;show{s1.heap.objs.size+1,[s1.heap.objs.size+1,s1.heap.objs.size],3,H1,0,o.kept (t':=s1.toks) hk,eO l _ _,{{_,he},hit,Nat.succ_ne_self _},λb hb=>?_,q};rcases zS.mp hb with rfl | hb
 . show o.fpOk (Ci _) (o.hok.fresh (Ci _))
 . let e2:b=s1.heap.objs.size:=by simpa using hb
   subst e2;show o.fpOk (zH _) (o.hok.fresh (zH _))
def kS {K:AK}(Pv:Nat->List V->Hp->Prop)(h0:Pv 0 [] (upd H1 D (.lst [])))(hl:∀i ys H,Pv i ys H->AD K H a xs)(hz:∀i ys H,Pv i ys H->ys.length<sizeLine)
 (hs:∀i x ys H T,xs[i]?=some x->Pv i ys H->H T=none->g (.ref T) (List.replicate own none++cv.map some) (upd H T (.tup [.int i,x])) λo H2=>(o.length=own+cv.length/\o.drop own=cv.map some) /\
  ti o H2 λb H3=>if b=true then te o H3 λy I=>I D=some (.lst ys)/\Pv (i+1) (ys++[y]) (upd I D (.lst (ys++[y]))) else Pv (i+1) ys H3)
 (hd:∀ys H,Pv xs.length ys H->Q (.ref D) H):Nd (Wg K a) own cv g ti te D H1 Q:=by
 show{λi m ys H=>m=xs.length-i/\i<=xs.length/\Pv i ys H,{xs.length,0,zd _,h0},?_};rintro i m ys H ⟨rfl,hi,p⟩;let q:=hl i ys H p;by_cases C:i<xs.length
 . show .inr {{xs,xs[i],q,by simp[C]},hz i ys H p,Pv (i+1),λpI H' J=>{xs.length-(i+1),(),0,C,J},λx H' y=>?_};let{T,v,0,hT,0,U}:=y;show hs i v ys H T (U xs q) p hT
 . let e:i=xs.length:=()
   subst e;show .inl {{xs,q,zH _},hd ys H p}
end L2
namespace L2
open PySem PySem.Spec PyProof.Rows
open PySem.AutoSeq1 (wpAny_loadPart')
def j0 (hi:s.heap.IsTupleIter it t i)(U:s.heap.IsTuple t items)(J:items[i]?=some x)
 (hQ:∀h',h'.IsTupleIter it t (i+1)->Heap.SameBut it s.heap h'->Q x { s with heap:=h' }):wpAny (model prog w) A (Builtin.SmallTypes.nextOf (.ref it)) Q E s:=by
 let{oi,C,ci,o}:=id hi;let{ot,I,_,nt,dt}:=U;unfold Builtin.SmallTypes.nextOf;show zA (F3 (name:=Str.ofString "__next__") hi.typeIs PySem.F.slot_tuple_iterator_next (Cq PySem.F.slot_tuple_iterator_next hi.typeIs PySem.F.entry_tuple_iterator_next ?_ (PySem.F.args_tuple_iterator_next_1 _)));change wpAny (model prog w) _ (field (.ref it) 0 >>= _) _ _ s;show zA (wpAny_field C o (x:=.ref t) rfl ?_);change wpAny (model prog w) _ (if (Value.ref t==Value.none)=true then _ else _) _ _ s;rw[if_neg (show ¬ ((Value.ref t==Value.none)=true) from zf)]
 change wpAny (model prog w) _ (field (.ref it) 1 >>= _) _ _ s;show zA (wpAny_field C o (x:=.int i 0) rfl ?_);change wpAny (model prog w) _ (seqItems? (.ref t) >>= _) _ _ s;show zA (Di I dt ?_);simp only[J,Bz];show zA (Fs C o (by simp) (zE {x,0,zE (hQ _ ?_ (EH ..))}));show{_,Ce _ C (Obj.isFreed_of_fields (Obj.data_mapFields o _)),(Obj.cls_mapFields ..).trans ci,?_};rw[Obj.data_mapFields o];simp[rawInt]
def YS (U:A.handled=none)(hi:s.heap.IsTupleIter it t i)(ht:s.heap.IsTuple t items)(hx:items[i]?=none)
 (hE:∀h' e,Heap.ExtBut it s.heap h'->(∃o,h'.get? e=some o/\o.cls=.type "StopIteration")->E (.ref e) { s with heap:=h' }):wpAny (model prog w) A (Builtin.SmallTypes.nextOf (.ref it)) Q E s:=by
 let{oi,C,ci,J}:=id hi;let{ot,I,_,nt,dt}:=ht;unfold Builtin.SmallTypes.nextOf;show zA (F3 (name:=Str.ofString "__next__") hi.typeIs PySem.F.slot_tuple_iterator_next (Cq PySem.F.slot_tuple_iterator_next hi.typeIs PySem.F.entry_tuple_iterator_next ?_ (PySem.F.args_tuple_iterator_next_1 _)));change wpAny (model prog w) _ (field (.ref it) 0 >>= _) _ _ s;show zA (wpAny_field C J (x:=.ref t) rfl ?_);change wpAny (model prog w) _ (if (Value.ref t==Value.none)=true then _ else _) _ _ s;rw[if_neg (show ¬ ((Value.ref t==Value.none)=true) from zf)]
 change wpAny (model prog w) _ (field (.ref it) 1 >>= _) _ _ s;show zA (wpAny_field C J (x:=.int i 0) rfl ?_);change wpAny (model prog w) _ (seqItems? (.ref t) >>= _) _ _ s;show zA (Di I dt ?_);simp only[hx,Bz];show zA (EM (zA (Fs C J (by simp) ?_)));change wpAny (model prog w) _ (newExc (.type "StopIteration") [] >>= _) _ _ _;show zA ?_;simp only[newTuple,newExc];show zA (DW ?_ (by size_fits));show zA (m:=firstArgMember _ _) (PySem.wpAny_of_eq (a:=Value.none) (by first | rfl | (simp only[firstArgMember];rfl)) ?_);show DW ?_ (by size_fits);simp only[raiseNew];show zA (wpAny_handled ?_)
 first
  | rw[show A.in1.handled=none from U]
  | rw[U]
 show zA (zE (wpAny_throw (hE _ _ (((EH ..).extBut.push _).push _) {_,zM _ rfl,0})))
def jB {prog:Program}{w:World}{A:Around}(hA:A.handled=none)(it t:Addr)(nG:t≠it)(items:Array Value):
 Draws prog w A it [it,t] items.size (λi v=>items[i]?=some v) (λi h=>h.IsTupleIter it t i/\h.IsTuple t items) where
 live:=λ_ _ st=>by let{{o,I,_},_}:=st;show⟨o,I⟩
 frame:=λ_ h h' st U=>by let{{o,I,r},J,C,r2}:=st;show{{o,U it (by simp) o I,r},J,U t (by simp) J C,r2}
 item:=λi s Q E hi st hQ=>j0 st.1 st.2 (x:=items[i]) (by simp[hi]) λh' a b=>hQ _ h' s.toks (by simp[hi]) {a,st.2.extBut b.extBut nG} b
 done:=λs Q E st hE=>YS hA st.1 st.2 (by simp) hE
def jf (t)(items)(n)(dct)(sl):
 Meets (Builtin.«enumerate.__new__» {[.type "enumerate",.ref t],[]}) (λ_ R s=>s.heap.get? t=some { cls:=.type "tuple",dict:=dct,data:=.seq items n,slots:=sl } /\
  R (.ok (.ret (.ref (s.heap.push { cls:=.type "tuple_iterator",data:=.fields #[.ref t,.int 0 0] }).objs.size))) { s with heap:=(s.heap.push { cls:=.type "tuple_iterator",data:=.fields #[.ref t,.int 0 0] }).push { cls:=.type "enumerate",data:=.fields #[.none,.bool false,.ref s.heap.objs.size,rawInt 0,.none,.none] } }):=by
 show .of_wp λprog w A R s hs=>?_;let{hp,g,d,J,os}:=s;let{o,I}:=hs;let su:=sub_enumerate;let C:Heap.IsTuple (Shared.heap ⟨hp,g,d,J,os⟩) t items:={_,o,0,n,0}
 wp_walk using wpAny_loadPart' o
 show wpAny_stack_any λU=>zE ?_;split
 . rename_i c _ _ _ _ _
   cases (c==Value.type "enumerate") <;> (wp_walk using wpAny_loadPart' o,wpAny_pyIter_tuple C;show{1,I})
 . wp_walk using wpAny_loadPart' o,wpAny_pyIter_tuple C
   show{1,I}
def kI (hT:s.heap.IsTuple t items)
 (h:∀h',IsEnum h' (s.heap.objs.size+1) s.heap.objs.size 0 .none->h'.IsTupleIter s.heap.objs.size t 0->(∀b o,s.heap.get? b=some o->h'.get? b=some o)->Q (.ref (s.heap.objs.size+1)) { s with heap:=h' }):
 wpAny (model prog w) A (call (.type "enumerate") [.ref t]) Q E s:=by
 let{{c,C,dt,J},U,hc,n,hd}:=hT;obtain rfl:c=.type "tuple" := hc;obtain rfl:dt=.seq items n:=hd;show callType_new PySem.F.called_enumerate (by decide) (PySem.F.typeCall_enumerate_1 _) (PySem.F.newCall_enumerate_1 _) (λobj=>PySem.F.args_object_init_2 obj _) PySem.F.entry_enumerate_new (jf t items n C J) {U,?_};let I:(s.heap.push { cls:=.type "tuple_iterator",data:=.fields #[.ref t,.int 0 0] }).objs.size=s.heap.objs.size+1:=Co ..;change _/\_;rw[I];let he:IsEnum ((s.heap.push { cls:=.type "tuple_iterator",data:=.fields #[.ref t,.int 0 0] }).push { cls:=.type "enumerate",data:=.fields #[.none,.bool false,.ref s.heap.objs.size,rawInt 0,.none,.none] }) (s.heap.objs.size+1) s.heap.objs.size 0 .none:=by let g:=zM (s.heap.push { cls:=.type "tuple_iterator",data:=.fields #[.ref t,.int 0 0] }) (o:={ cls:=.type "enumerate",data:=.fields #[.none,.bool false,.ref s.heap.objs.size,rawInt 0,.none,.none] }) rfl;rwa [I] at g
 show{{_,he,0},h _ he {_,zG _ (zM _ rfl),2} λb o x=>zG _ (zG _ x)}
meta def FK (K:AK)(a:Addr):It:=
 {λi H=>∃xs x,AB K H a xs/\xs[i]?=some x,λi H x H'=>∃T v,x=.ref T/\H T=none/\H'=upd H T (.tup [.int i,v])/\∀xs,AB K H a xs->xs[i]?=some v,λi H=>∃xs,AB K H a xs/\xs.length<=i}
def jC {P:Program}{w:World}{K:AK}{elts:List Expr} {x1} {tp:Pos}(a e it:Addr):IB P w K (.Tuple elts x1 tp) (FK K a) [e,it] e (λi h=>(∃old,IsEnum h e it (i:Nat) old)/\h.IsTupleIter it a i/\e≠it/\a≠it/\a≠e) where
 mem:=by simp
 obj:=λi h st b hb=>by
  let{{old,he},{o,e1,c,d},_}:=st;rcases zS.mp hb with rfl | hb
  . show{_,he,λv z=>by cases z}
  . let e2:b=it:=by simpa using hb
    subst e2;show{o,e1,λv z=>by rw[d] at z;cases z}
 keep:=λi h h' st k=>by let{{old,he},{o,e1,r},ne}:=st;show{{old,k e (by simp) _ he},{o,k it (by simp) o e1,r},ne}
 item:=by
  intro X hP hw hK hc i pins s σ H E I hf st hg;subst hP hw hK;let{{old,he},hit,ne,C,J}:=st;let{xs,x,hq,hx}:=hg;let{its,rv,p,hz}:=I.tuple hq;let{u,hu,ru}:=rv.get hx;let elt:e<s.heap.objs.size:=zU he;let ilt:it<s.heap.objs.size:=by let{_,q,_}:=id hit;show zU q
  let mr:i<its.toArray.size:=by let:=(zF.mp hu).1;simpa using this
  show wpAny_pyNext_enum_itemD (jB (A:=X.A.in1) (I.ok.hd hc) it a C its.toArray) he ⟨hit,p⟩ mr ne (by simp;show{ne,λz=>J z.symm}) λy h' tk hy qT U hT hsz hk=>?_;let hyu:y=u:=by
   let h1:its[i]?=some y:=by simpa using hy
   rw[hu] at h1;show (zW h1).symm
  subst hyu;show{1,wpAny_letOwnedTupleGo_enum qT λh2 qm nh=>?_};let hT2:h2.get? s.heap.objs.size=some { cls:=.type "tuple",data:=.seq #[.int i tk,y] }:=(nh.2 _ (Nat.ne_of_gt elt)).trans hT;show{.ref s.heap.objs.size,upd H s.heap.objs.size (.tup [.int i,x]),I.turnedLaid (t':=tk+1) (fp:=[e,it]) hf (λb o hb q=>?_) (zH _) ?_,0,{_,x,0,I.hok.fresh (zH _),0,λzs hzs=>by rwa[I.tuple_inj hzs hq]},{{y,?_},?_,ne,C,J},λb hb=>?_}
  . show (nh.2 b λz=>hb (by simp[z])).trans (hk b o (λz=>hb (by simp[z])) (λz=>hb (by simp[z])) q)
  . show{{CJ,_,hT2,0},[.int i tk,y],.cons {1} (.cons ru .nil),{_,hT2,6}}
  . let:=qm;rwa [show ((i:Nat):Int)+1=((i+1:Nat):Int) by lia] at this
  . let{{o,ho,r},_}:=U;show{o,(nh.2 it (Ne.symm ne)).trans ho,r}
  . rcases zS.mp hb with rfl | hb
    . rw[zY (zb elt)];show (hf _ (by simp)).1
    . let e2:b=it:=by simpa using hb
      subst e2;rw[zY (zb ilt)];show (hf _ (by simp)).1
 done:=by intro X hP hw hK hc i pins s σ H E I hf st hg;subst hP hw hK;let{{old,he},hit,ne,C,J}:=st;let{xs,hq,hx}:=hg;let{its,rv,p,hz}:=I.tuple hq;let{f0,f1,f2,f3,f4,f5}:=hf it (by simp);let hl:=rv.length;unfold pyNext;let hT:s.TypeIs (.ref e) "enumerate" := {_,he,0};show zA (Fo (F3 (name:=Str.ofString "__next__") hT PySem.F.slot_enumerate_next (Cq PySem.F.slot_enumerate_next hT PySem.F.entry_enumerate_next ?_ (PySem.F.args_enumerate_next_1 _))));change wpAny (model X.prog X.w) _ (field (.ref e) 2 >>= _) _ _ s;show zA (wpAny_field he rfl (x:=.ref it) rfl ?_);show zA (YS (A:=X.A.in1) (I.ok.hd hc) hit p (by simp;lia) λh' z eb hz'=>?_);let{o,ho,pz}:=hz';show zA (DV (T := "StopIteration") (b:=true) ⟨o,ho,pz⟩ isSubtype_stop (zE ?_));show{0,I.turned (t':=s.toks) (λb o hb e=>eb b o hb e) f0 f1 f3 f4 f5}
 self:=λ_ _ _ _ _ st h=>by let{{old,he},_}:=st;show wpAny_pyIter_enum he h
def Mx (K:AK)(ta:TA):TI:=λσ H R=>ta σ H λo H1=>∃a,o=[.ref a]/\(∃xs,AB K H1 a xs)/\R (FK K a) H1
def Vo {x1} (hg:Gl X "enumerate") (hm:X.mg "enumerate"=none) (ha:PA X [a] ta)(hs:autoParam (starEach [a] X.env=[(false,eval a X.env)]) d_._auto_5):PI X (.Tuple elts x1 tp) (.Call (.Name "enumerate" p) [a] [] pos) (Mx X.K ta):=by
 intro pins s σ H R I h;show Call_ (Cp I hg hm boot_enumerate (PyProof.Rows.callWith_type1 (AM (ha pos pins s σ H _ I h) λus s1 ⟨vs,H1,C,r1,q1⟩=>?_) hs rfl));let{l,e,{xs,hq},q}:=q1;subst e;let{u,0,rx}:=BL r1;cases rx;let{its,rv,U,hz}:=C.tuple hq;let J:l<s1.heap.objs.size:=by let{o,ho,_}:=id U;show zU ho
 show kI U λh' he hit hk=>?_;show wpAny_pyIter_enum he ?_;show{s1.heap.objs.size+1,[s1.heap.objs.size+1,s1.heap.objs.size],3,H1,0,C.kept (t':=s1.toks) hk,jC l _ _,{{_,he},hit,Nat.succ_ne_self _,zb J,zb (EJ J)},λb hb=>?_,q};rcases zS.mp hb with rfl | hb
 . show C.fpOk (Ci _) (C.hok.fresh (Ci _))
 . let e2:b=s1.heap.objs.size:=by simpa using hb
   subst e2;show C.fpOk (zH _) (C.hok.fresh (zH _))
def Vc {K:AK}{g:TG}{tb:TS}{D:Ec}(Pv:Nat->St->Hp->Prop)(h0:Pv 0 σ H)(U:∀i σ H,i<=xs.length->Pv i σ H->AB K H a xs)
 (hs:∀i x σ H T,xs[i]?=some x->Pv i σ H->H T=none->g (.ref T) σ (upd H T (.tup [.int i,x])) λo H2=>tb { D with nx:=Pv (i+1),ct:=Pv (i+1),bk:=D.nx } o H2)(hd:∀ σ H,Pv xs.length σ H->D.nx σ H):
 ∃W:Nat->Nat->St->Hp->Prop,(∃m,W 0 m σ H)/\∀i m σ H,W i m σ H ->
  ((FK K a).stop i H/\D.nx σ H)\/((FK K a).go i H/\∃N:St->Hp->Prop,(∀ C H',N C H'->∃m',m'<m/\W (i+1) m' C H')/\∀x H',(FK K a).yld i H x H'->g x σ H' λo H2=>tb { D with nx:=N,ct:=N,bk:=D.nx } o H2):=by
 show{λi m σ H=>i<=xs.length/\m=xs.length-i/\Pv i σ H,{_,zd _,0,h0},λi m σ H h=>?_};let{hi,0,I}:=h;by_cases c:i<xs.length
 . show .inr {{xs,xs[i],U i σ H hi I,zD c},Pv (i+1),λC H' J=>{xs.length-(i+1),(),c,0,J},λx H' y=>?_};let{T,v,0,hT,0,hv}:=y;show hs i v σ H T (hv xs (U i σ H hi I)) I hT
 . let e:i=xs.length:=()
   subst e;show .inl {{xs,U _ σ H hi I,zH _},hd σ H I}
def Aj.there (x:Aj P w H h a o):∃I,h.get? a=some I:=by
 cases o with
 | lst xs=>let{3,3,e}:=x;show{_,e}
 | tup xs=>let{{_,o2,U,_},_}:=x;show{_,U}
 | dK J=>let{3,3,o,3,e,_}:=x;show{_,e}
 | dT J=>let{3,3,o,3,e,_}:=x;show{_,e}
 | set S n=>let{o,_,3,e,_}:=x;show{_,e}
 | ins C dx fs=>let{_,3,e,_}:=x;show{_,e}
 | own y=>let{_,e}:=x;show{_,e}
 | xd fs=>let{_,{_,3,e,_},_}:=x;show{_,e}
 | rng lo hi=>let{_,3,e}:=x;show{_,e}
 | frz I u=>let{e,_}:=x;show{_,e}
 | tbl ps=>show⟨_,show h.get? a=some _ from x⟩
 | met f y=>show⟨_,show h.get? a=some _ from x⟩
 | ext φ=>let{_,{_,e},_}:=x;show{_,e}
def Al.stays {B:Heap}(x:Al P w H h)(k:B.StaysIn h)(U:B.StaysIn h')(J:∀b u,H b=some u->∃o,B.get? b=some o):Al P w H h':=λa o e=>
 (x a o e).stay (λb u hb q=>by
  let:∃v,H b=some v:=by
   rcases hb with rfl | hb
   . show{_,e}
   . show{_,hb}
  let{v,hv}:=this;let{I,C}:=J b v hv;let e2:I=u:=zW ((k b I C).symm.trans q);show e2 ▸ U b I C) (λ_ q=>q) λ_ _ q=>q
meta abbrev QV:List Value:=[.type "ValueError",.type "Exception",.type "BaseException",.type "object"]
def aG {K:AK}(X:K.In h)(q:PySem.W.excIn K C bmB newId=true):
 ∃bm N nm qn bs oN sn sub ab col dd k0 k1 k2 k3 k5 U,h.get? C=some (excClassObj nm qn C N bs bm oN sn sub ab col dd k0 k1 k2 k3 k5 newId)/\h.Ns N U/\U "__init__"=none/\OwnTail h bmB bm:=by
 unfold PySem.W.excIn at q;split at q
 . next dd cd sl look=>
   split at q
   . next D bm k0 k1 k2 k3 n k5 em es=>
     simp only[KI,beq_iff_eq,Bool.not_eq_true'] at q;let{{{{{q1,q2},J},q4},o},I}:=q;subst q1 q2;cases cd;simp only at em J o I;subst em J;cases sl;simp only at es;subst es;show{_,3,3,3,3,3,3,3,3,X _ _ look,.of_isNs (PySem.W.isNs_of_in X o),PySem.W.nsMap_none_of_in X o I,PySem.W.tail_of_in X q4}
   . cases q
 . cases q
def j7 (I:AA X pins σ H s)(hN:X.N.Nodup)(hi:X.N[i]?=some x)(hk:X.env.kindOf x=some .local)(hv:σ[i]?=some (some v))
 (h:∀s',AA X pins (σ.set i none) H s'->Q Unit.unit s'):wpAny M A (unbindName X.env x) Q E s:=by
 let{m,hn,hl}:=id I.loc;let qq:(X.env.scope.kind == .class || (X.env.scope.kind == .module && X.env.locals != X.env.globals))=false:=by rw[I.ok.kind];rfl
 let pK:X.env.scope.names.lookup x=some .local:=hk;let{u,_,lk}:=hl i x v hi hv (.inl pK);let hm:m x=some u:=by
  rcases lk with ⟨_,e⟩ | ⟨q,_⟩
  . show e
  . rcases q with q | q <;> (rw[hk] at q;cases q)
 let{oL,3,pD,_}:=id hn;let C:∀b o,X.s₀.heap.get? b=some o->b≠X.env.locals:=λb o e=>zb (zk (zU e) I.ok.above);show wpAny_unbindName_local hk hn hm qq λh' uu hn' J=>h _ {I.ok,I.os,I.bare,{λb o e n hb hx=>(J.2 b (C b o e)).trans (I.base.keep b o e n hb hx),λb o e n hb hx=>?_,I.base.free,λb o e hx=>?_,I.base.tups,I.base.frzs,I.base.tbls},{_,hn',λj y v' U e2 e3=>?_},λy c e=>?_,I.free,I.freeC,λp hp=>?_,λb ob e=>?_,by simpa using I.len}
 . let{sl,U}:=I.base.slot b o e n hb hx;show{sl,(J.2 b (C b o e)).trans U}
 . let{o',U}:=I.base.there b o e hx;show{o',(J.2 b (C b o e)).trans U}
 . let hj:j≠i:=λz=>by subst z;let:j<σ.length:=(zF.mp hv).1;rw[List.getElem?_set_self this] at e2;cases e2
   rw[List.getElem?_set_ne (Ne.symm hj)] at e2;let{u',r',q}:=hl j y v' U e2 e3;show{u',r',?_};rcases q with ⟨k,e⟩ | ⟨k,c,e,z⟩
   . let ny:y≠x:=λe=>hj (V0 hN U (e ▸ hi));show .inl {k,by simp[ny,e]}
   . show .inr {k,c,e,z.sameBut J (I.cne y c e)}
 . let{w',z}:=I.cell y c e;show{w',z.sameBut J (I.cne y c e)}
 . let{e,n,ne,nf,d}:=I.pin p hp;show{(J.2 p.1 ne).trans e,n,ne,nf,d}
 . show (I.hok b ob e).stay (λc w' hc q=>(J.2 c ?_).trans q) (λ_ q=>q) λ_ _ q=>q;rintro rfl;rcases hc with rfl | hc
   . rw[I.free] at e;cases e
   . rw[I.free] at hc;cases hc
def lO {M:Model}{A:Around}{E:Bt}{s:Shared}{nm qn nm' qn':Str}{C W Nn Nn':Addr}{bs bm bs' J:List Value}{oN I:Bool}{sn sn':List Str}{sub U:List Value}{ab ab':Bool}{col col':Option Bool}{dd qN:Option Addr}
 {k0 k1 k2 k3 k5 k0' k1' k2' k3' k5':Option Value}{newId o:String}{e:Addr}{oe:Obj}{Q:Bool->Shared->Prop}
 (hC:s.heap.get? C=some (excClassObj nm qn C Nn bs bm oN sn sub ab col dd k0 k1 k2 k3 k5 newId))(hW:s.heap.get? W=some (excClassObj nm' qn' W Nn' bs' J I sn' U ab' col' qN k0' k1' k2' k3' k5' o))
 (he:s.heap.get? e=some oe)(qq:oe.cls=.ref C)(hb:J.contains (.type "BaseException")=true) (hs:(Value.ref C::bm).contains (.ref W)=true)(hq:Q true s):wpAny M A (excMatches (.ref e) (.ref W)) Q E s:=by
 let{h,g,d,t,os}:=s;let hWB:(Value.ref W::J).contains (.type "BaseException")=true:=by rw[List.contains_cons,hb,Bool.or_true]
 let f:=tc_notTuple;unfold excMatches
 repeat (first | (with_reducible show Dv he ?_;rw[qq]) | with_reducible show Dv hW ?_ | (with_reducible show wpAny_isSubtype_exc hW ?_;rw[hWB]) | (with_reducible show wpAny_isSubtype_exc hC ?_;rw[hs]) | wp_step)
 show hq
meta def subIn (K:AK)(C W:Addr):Bool:=match K.lookup C with
 | some {3,.cls cd,_}=>cd.mro.contains (.ref W)
 | _=>false
def LU {K:AK}
 (X:K.In h)(q:subIn K C W=true)(o:h.get? C=some (excClassObj nm qn C Nn bs bm oN sn sub ab col dd k0 k1 k2 k3 k5 newId)):(Value.ref C::bm).contains (.ref W)=true:=by
 unfold subIn at q;split at q
 . next look=>
   let e:=(X _ _ look).symm.trans o;unfold excClassObj at e;cases e;show q
 . cases q
meta def Cx.held (X:Cx)(ea:Addr)(oe:Obj):Cx:={ X with A:=X.A.mark (some (.ref ea)),calm:=false,pn:=(ea,oe)::X.pn,xe:=λ_ _=>False }
def AA.hold (I:AA X pins σ H s)(h1:s.heap.get? ea=some oe)(U:H ea=none)(J:ea≠X.env.locals)(C:ea∉X.fs)(o:∀v,oe.data ≠ .cell v):AA (X.held ea oe) pins σ H s:=
 {{I.ok.mod,I.ok.kind,I.ok.glob,I.ok.blt,I.ok.above,I.ok.inj,I.ok.has,I.ok.cab,(λz=>by cases z),I.ok.frames,I.ok.stk,I.ok.exf,I.ok.bs,I.ok.bsz,I.ok.noex,I.ok.exfs,I.ok.funs,I.ok.frf},I.os,I.bare,I.base,I.loc,I.cell,I.free,I.freeC,
  λp hp=>by
   rcases zS.mp (show p∈(ea,oe)::(X.pn++pins) from hp) with rfl | hp
   . show⟨h1,U,J,C,o⟩
   . show I.pin p hp,I.hok,I.len}
def AA.letgo (ok:X.Ok)(I:AA (X.held ea oe) pins σ H s):AA X pins σ H s:=
 {ok,I.os,I.bare,I.base,I.loc,I.cell,I.free,I.freeC,λp o=>I.pin p (zZ _ o),I.hok,I.len}
def gH {st:List Env}{s1 s':Shared}(un:Un (A4 st) [] H1 H' s1.heap s'.heap)(fl:Heap.FlyingW B st ea C a0 s'.heap)
 (old:∀b o,s1.heap.get? b=some o->H1 b=none->b∉A4 st->B.get? b=some o)(al:∀b o,s1.heap.get? b=some o->b∉A4 st->∃o',B.get? b=some o')(U:B.StaysIn h5)(up:s'.heap.UpToSlots h5):Un (A4 st) [] H1 H' s1.heap h5:=by
 show{λb o e n I _=>U b o (old b o e n I),λb o e n I _=>?_,un.free,λb o e _=>?_,un.tups,un.frzs,un.tbls}
 . let{sl2,e2}:=un.slot b o e n I (by intro z;cases z);let{_,o3,J,nd}:=fl.2.2.1.mem I;let{sl4,e4}:=up b _ J nd;let e5:=zW (J.symm.trans e2);rw[e5] at e4;show⟨sl4,e4⟩
 . by_cases I:b∈A4 st
   . let{_,o3,J,nd}:=fl.2.2.1.mem I;let{sl4,e4}:=up b _ J nd;show{_,e4}
   . let{o3,J}:=al b o e I;show{_,U b o3 J}
meta def JN (i:Nat)(D:Ec):Ec:={ D with nx:=λσ H=>D.nx (σ.set i none) H,bk:=λσ H=>D.bk (σ.set i none) H,ct:=λσ H=>D.ct (σ.set i none) H }
end L2
namespace L2
open PySem PySem.Spec PySem.W PyProof.Rows Builtin Builtin.ObjectAttr Builtin.Getset_descriptor
section
variable {prog:Program}{w:World}{A:Around}{E:Bt}{s:Shared}{K:Frag}{x C:Addr}{ox:Obj}
structure NS (K:Frag)(C:Addr):Prop where
 ga:findIn K (.ref C) "__getattribute__"=some (some (.builtin "BaseException.__getattribute__"))
 gn:findIn K (.ref C) "__getattr__"=some none
 cl:findIn K (.ref C) "__class__"=some (some (.builtin "object.__class__"))
 mo:mroIn K C (.type "object")=some true
 mb:mroIn K C (.type "BaseException")=some true
 ci:(clsIn K C).isSome=true
def Nl (h:Heap)(x C:Addr):Prop:=∃o,h.get? x=some o/\o.cls=.ref C
def Nl.type (I:Nl h x C):Looks M h (typeOf (.ref x)) (.ref C):=by let{o,e,c}:=I;rw[<-c];show (Looks.ld e).andThen .now
def kG (X:K.In s.heap)(I:Nl s.heap x C)(F':NS K C)(hq:Q Unit.unit s):wpAny M A (checkBuiltinCall "BaseException.__getattribute__" {[.ref x,qX],[]}) Q E s:=by
 let{h,g,d,t,os}:=s;let L0:=I.type (M:=M);let U:=looks_mroIn (M:=M) X F'.mb;let J:builtinKind "BaseException.__getattribute__"=some .slot:=by decide +kernel
 let o:splitId "BaseException.__getattribute__"=some ("BaseException", "__getattribute__"):=by decide +kernel
 let ha:=F.args_bexc_ga (.ref x) qX;simp only[checkBuiltinCall,J,o];show zA ?_;unfold isInstance
 repeat (any_goals (first | assumption | with_reducible show L0.at ?_ | with_reducible show U.at ?_ | wp_step))
end
end L2
namespace L2
open PySem PySem.Spec PyProof.Rows
def DK (h h':Heap):Prop:=∀b o,h.get? b=some o->∃C,h'.get? b=some C/\C.dict=o.dict
def DK.refl (h):DK h h:=λ_ o e=>{o,e,0}
def DK.trans (a:DK h1 h2)(b:DK h2 h3):DK h1 h3:=λx o e=>by let{I,U,d1}:=a x o e;let{C,J,d2}:=b x I U;show{C,J,d2.trans d1}
def KD {α:Type}:Sem α->Prop
 | .pure _=>True
 | .raise _=>True
 | .unsupported _=>True
 | .finish _=>True
 | .rule _ k=>KD (k Unit.unit)
 | .at _ k=>KD (k Unit.unit)
 | .load _ _ k=>∀o,KD (k o)
 | .update _ _ f k=>(∀o,(f o).dict=o.dict/\(o.isFreed=false->(f o).isFreed=false))/\KD (k Unit.unit)
 | .alloc _ k=>∀a,KD (k a)
 | .loadIfAlive _ k=>∀o,KD (k o)
 | .point _ k=>KD (k Unit.unit)
 | .fresh k=>∀t,KD (k t)
 | .ask k=>∀x,KD (k x)
 | .stack k=>∀l,KD (k l)
 | .handled _ k=>∀v,KD (k v)
 | _=>False
def KD.bind (h:KD t)(I:∀a,KD (k a)):KD (t >>= k):=by
 change KD (Sem.bind t k)
 induction t with
 | pure a=>show I a
 | raise e=>trivial
 | unsupported w=>trivial
 | finish e=>trivial
 | rule t f C=>show C Unit.unit h
 | «at» p f C=>show C Unit.unit h
 | load a p f C=>show λo=>C o (h o)
 | update a p f g C=>show{h.1,C Unit.unit h.2}
 | alloc o f C=>show λa=>C a (h a)
 | loadIfAlive a f C=>show λo=>C o (h o)
 | point l f C=>show C Unit.unit h
 | fresh f C=>show λt=>C t (h t)
 | ask f C=>show λx=>C x (h x)
 | stack f C=>show λl=>C l (h l)
 | handled o f C=>show λv=>C v (h v)
 | register=>show h.elim
 | choose=>show h.elim
 | os=>show h.elim
 | call=>show h.elim
 | newGen=>show h.elim
 | genState=>show h.elim
 | resume=>show h.elim
 | yield=>show h.elim
 | fork=>show h.elim
 | thread=>show h.elim
 | await=>show h.elim
def KD.wp (h:KD t):∀{p:Pos}{s:Shared},DK h0 s.heap->Sem.wp M Γ t Q E p s->Sem.wp M Γ t (λa I s'=>Q a I s'/\DK h0 s'.heap) E p s:=by
 induction t with
 | pure a=>show λd w=>⟨w,d⟩
 | raise e=>show λd w=>w
 | unsupported w=>show λd w=>w
 | finish e=>show λd w=>w
 | rule t f C=>show λd w=>C Unit.unit h d w
 | «at» p f C=>show λd w=>C Unit.unit h d w
 | load a p f C=>intro p s d w;let{o,e,w}:=w;show{o,e,C o (h o) d w}
 | update a p f g C=>
  intro p s d w;let{e,w}:=w;show{e,C Unit.unit h.2 (d.trans λb o q=>?_) w};by_cases c:b=a
  . subst c;let fr:=(Heap.get?_some_iff.mp q).2;show{f o,Ce f q ((h.1 o).2 fr),(h.1 o).1}
  . show{o,(Gj _ _ (Ne.symm c)).trans q,0}
 | alloc o f C=>intro p s d w;show C _ (h _) (d.trans λb o q=>{o,zG _ q,0}) w
 | loadIfAlive a f C=>show λd w=>C _ (h _) d w
 | point l f C=>show λd w=>C Unit.unit h d w
 | fresh f C=>show λd w=>C _ (h _) d w
 | ask f C=>show λd w=>C _ (h _) d w
 | stack f C=>show λd w=>C _ (h _) d w
 | handled o f C=>show λd w=>C _ (h _) d w
 | register=>show h.elim
 | choose=>show h.elim
 | os=>show h.elim
 | call=>show h.elim
 | newGen=>show h.elim
 | genState=>show h.elim
 | resume=>show h.elim
 | yield=>show h.elim
 | fork=>show h.elim
 | thread=>show h.elim
 | await=>show h.elim
def OI (k:KD t)(h:wpAny M A t Q E s):wpAny M A t (λa s'=>Q a s'/\DK s.heap s'.heap) E s:=
 λC p o => k.wp (DK.refl _) (h C p o)
def Gx [Decidable c] (C:KD a)(o:KD b):KD (if c then a else b):=by split <;> assumption
def jW (v):KD (fieldsOf v):=by
 unfold fieldsOf;split
 . show KD.bind (λo=>trivial) λo=>?_;split <;> trivial
 . trivial
def Sw (v)(i):KD (field v i):=by unfold field;show KD.bind (jW v) λo=>?_;split <;> trivial
theorem l9 (g:Array Value->Array Value)(o):(Obj.mapFields g o).dict=o.dict/\(o.isFreed=false->(Obj.mapFields g o).isFreed=false):=by obtain⟨c,d,dt,sl⟩:=o;cases dt <;> exact{0,fun h=>h}
def VC (v)(i)(x):KD (setField v i x):=by
 unfold setField;split
 . unfold updateField;show KD.bind (λo=>trivial) λo=>?_;split
   . show Gx {λo=>l9 _ o,trivial} trivial
   . trivial
 . trivial
def VJ (e)(f):KD (setFlight e f):=by unfold setFlight;show KD.bind (Sw e 1) λtb=>Gx (VC _ _ _) trivial
def jl:KD frameEnvs:=by unfold frameEnvs;show KD.bind (λl=>trivial) λl=>trivial
def jo (env:Env)(l):KD (behindIsImport env l):=by unfold behindIsImport;show Gx trivial (Gx trivial (KD.bind (Sw _ _) λ_=>trivial))
def kf (env:Env)(b:Bool)(l):KD (keptBack env b l):=by
 unfold keptBack;split
 . show Gx trivial ?_;show KD.bind ?_ λ_=>trivial;unfold underTheClaimsCaller;show KD.bind (λl=>trivial) λl=>trivial
 . trivial
def dH:∀l:List Env,KD (readyFrames l)
 | []=>trivial
 | env::outer=>by
  unfold readyFrames;split
  . show KD.bind (λo=>trivial) λo=>?_;show Gx trivial ?_;show KD.bind (jo _ _) λb=>?_;show KD.bind (kf _ _ _) λb=>?_;show KD.bind {λo=>{0,λh=>(by let{c,d,C,I}:=o;cases C <;> show h)},trivial} λ_=>dH outer
  . trivial
def fc (env:Env):KD (PySem.frameOf env):=by
 unfold PySem.frameOf;show KD.bind jl λl=>?_;show KD.bind ?_ λr=>?_
 . unfold frameObject;split
   . trivial
   . show KD.bind (dH _) λ_=>trivial
 . split <;> trivial
def ja (f)(b:Bool):KD (entryPlaceOf f b):=by unfold entryPlaceOf;show KD.bind (λl=>trivial) λl=>?_;split <;> trivial
def k6 (a b c d e)(l):KD (EntryCells.newEntry a b c d e l):=by
 unfold EntryCells.newEntry newFields newObj;let fin:∀d:Data,KD (newObjAsIs (.type "traceback") d):=λd=>by unfold newObjAsIs;show KD.bind (λa=>trivial) λa=>trivial
 simp only[];show Gx (KD.bind trivial λ_=>fin _) (fin _)
def Z6 (e)(env:Env):KD (noteFrame e env):=by
 unfold noteFrame;split
 . show KD.bind (Sw _ _) λhd=>?_;let fin:∀f:Addr,KD (do setField e 1 (<-EntryCells.newEntry hd (<-PySem.frameOf env) .none (rawInt f) .none (<-entryPlaceOf f (hd != .none)))):=λf=>
    KD.bind (fc env) λa=>KD.bind (ja _ _) λo=>KD.bind (k6 _ _ _ _ _ _) λb=>VC _ _ _
   show Gx ?_ (fin _);show KD.bind (Sw _ _) λx=>Gx trivial ?_;show KD.bind (VC _ _ _) λ_=>fin _
 . trivial
def Zv (env:Env)(e):KD (leaving env e):=KD.bind (Z6 e env) λ_=>VJ e none
meta def Fc (K:AK)(C:Addr):Bool:=match K.lookup C with
 | some {.type "type",_,.cls u,z}=>
  match u.mro,z.toList with
  | .ref D::b,[_,_,_,_,some (.builtin m),_]=>D==C && m == "ValueError.__new__" && !u.hasDel && PySem.W.tailIn K QV b && PySem.W.nsOkIn K u.ns && u.hasDict
  | _,_=>false
 | _=>false
def Hm {K:AK}(X:K.In h)(q:Fc K C=true):
 ∃bm N nm qn bs sn sub ab col dd k0 k1 k2 k3 U mN,h.get? C=some (excClassObj nm qn C N bs bm true sn sub ab col dd k0 k1 k2 k3 U "ValueError.__new__")/\h.Ns N mN/\OwnTail h QV bm:=by
 unfold Fc at q;split at q
 . next dd cd sl look=>
   split at q
   . next D bm k0 k1 k2 k3 n U em es=>
     simp only[KI,beq_iff_eq,Bool.not_eq_true'] at q;let{{{{{q1,q2},J},q4},I},o}:=q;subst q1 q2;cases cd;simp only at em J I o;subst em J o;cases sl;simp only at es;subst es;show{3,3,3,3,3,3,3,3,X _ _ look,.of_isNs (PySem.W.isNs_of_in X I),PySem.W.tail_of_in X q4}
   . cases q
 . cases q
structure C3 (K:AK)(C fI:Addr):Prop where
 cl:Fc K C=true
 ini:PySem.W.findIn K (.ref C) "__init__"=some (some (.ref fI))
 fn:PySem.W.isFn K (.ref fI)=true
 sa:PySem.W.findIn K (.ref C) "__setattr__"=some (some (.builtin "object.__setattr__"))
 kp:PySem.W.keepIn K (.ref C)=true
meta def CF (C t:Addr)(od:Option Addr):Obj:={ cls:=.ref C,dict:=od,data:=.fields #[.ref t,.none,.none,.none,.bool false,.none] }
meta def HA (us:List Value):Obj:={ cls:=.type "tuple",data:=.seq us.toArray }
section
variable {prog:Program}{w:World}{A:Around}{E:Bt}{h:Heap}{g:Array GenState}{d:Drawn}{t:Nat}{os:OsState}{K:AK}{C fI:Addr}{us:List Value}
meta def Gu (h:Heap)(C:Addr)(us:List Value):Heap:=(h.push (HA us)).push (CF C h.objs.size none)
def YM (h)(C)(us):∀b o,h.get? b=some o->(Gu h C us).get? b=some o:=λ_ _ e=>zG _ (zG _ e)
def X7 (h)(C)(us):(Gu h C us).get? (h.objs.size+1)=some (CF C h.objs.size none):=Heap.get?_push_at (by rw[Co]) rfl
def js (X:K.In h)(I:C3 K C fI)(hz:us.length<=sizeLine)
 (hq:wpAny (model prog w) A (call (.ref fI) (.ref (h.objs.size+1)::us)) (λr s'=>r=.none/\Q (.done (.ret (.ref (h.objs.size+1)))) s') E {Gu h C us,g,d,t,os}):
 wpAny (model prog w) A (Builtin.«type.__call__» {.ref C::us,[]}) Q E ⟨h,g,d,t,os⟩:=by
 let{bm,N,nm,qn,bs,sn,sub,ab,col,dd,k0,k1,k2,k3,k5,mN,o,hN,T}:=Hm X I.cl;let F:=PySem.F.excBase_ValueError
 repeat (first | with_reducible show Dv o ?_ | with_reducible show wpAny_madeBy_exc o ?_ | wp_step)
 show codeAny_call_builtin_code (Code.quiet_builtin _ F.quiet) (wpAny_check_new_subT F T o (codeAny_exc_new_subT F T o ?_ hz));change wpAny _ _ _ _ _ {Gu h C us,g,d,t,os};let U:=YM h C us _ _ o;let J:(Gu h C us).get? (h.objs.size+1)=some { cls:=.ref C,data:=.fields #[.ref h.objs.size,.none,.none,.none,.bool false,.none] }:=X7 h C us;let X1:K.In (Gu h C us):=X.keeps (YM h C us);let own:(Value.ref C::bm).contains (.ref C)=true:=by simp
 unfold isInstance
 repeat (first | with_reducible show Dv J ?_ | (with_reducible show wpAny_isSubtype_exc U ?_;rw[own]) | wp_step)
 let L:=PySem.W.looks_findIn (M:=model prog w) X1 I.ini;show L.at ?_;show zy (zA ?_);show (PySem.W.bind_fn (M:=model prog w) X1 (.ref (h.objs.size+1)) (beq_iff_eq.mp I.fn)).at ?_;show zA (BB hq (λr s' hr=>?_) λ_ _ z=>z);let{0,hQ}:=hr
 wp_walk
 show hQ
def ij (X:K.In h)(I:C3 K C fI)(hz:us.length<=sizeLine)
 (J:wpAny (model prog w) (A.under (.builtin "type.__call__" {.ref C::us,[]})) (call (.ref fI) (.ref (h.objs.size+1)::us)) (λr s'=>r=.none/\Q (.ref (h.objs.size+1)) s') E {Gu h C us,g,d,t,os}):
 wpAny (model prog w) A (call (.ref C) us) Q E ⟨h,g,d,t,os⟩:=by
 let{bm,N,nm,U,bs,sn,sub,ab,col,dd,k0,k1,k2,k3,k5,mN,o,hN,T}:=Hm X I.cl;let f1:=tc_lookup;let f2:=tc_bind (.ref C);let hT:(⟨h,g,d,t,os⟩:Shared).TypeIs (.ref C) "type" := {_,o,0};show B9 (codeAny_of_tree ?_);change wpAny _ _ (callAny (.ref C) _) _ _ _
 repeat (any_goals (first | assumption | with_reducible show Dv o ?_ | wp_step))
 show{0,?_};show codeAny_call_builtin_at (Code.quiet_builtin _ (by decide +kernel)) entry_typeCall (wpAny_check_type_call_sub o (js X I hz J))
end
def Zx (T:OwnTail h QV bm)(self):refuseLoop self "__setattr__" bm=pure Unit.unit:=by
 induction T with
 | base=>show PySem.F.store_ValueError.passes self
 | own _ _ _ _ o=>rwa[refuseLoop_ref]
section
variable {prog:Program}{w:World}{A:Around}{E:Bt}{h:Heap}{g:Array GenState}{d:Drawn}{t:Nat}{os:OsState}{K:AK}{C fI x tt:Addr}{name:Str}{v:Value}
def eF (X:K.In h)(mo:PySem.W.mroIn K C (.type "object")=some true) (o:h.get? x=some (CF C tt od))(hq:Q Unit.unit ⟨h,g,d,t,os⟩):
 wpAny M A (checkBuiltinCall "object.__setattr__" {[.ref x,qX,v],[]}) Q E ⟨h,g,d,t,os⟩:=by
 let L0:=(show Nl h x C from {_,o,0}).type (M:=M);let U:=PySem.W.looks_mroIn (M:=M) X mo;let ha:=PySem.F.store_ValueError.args (.ref x) qX v;let J:=PySem.F.store_ValueError.kind;let I:=PySem.F.store_ValueError.split;simp only[checkBuiltinCall,J,I];show zA ?_;unfold isInstance
 repeat (any_goals (first | assumption | with_reducible show L0.at ?_ | with_reducible show U.at ?_ | wp_step))
def Ys (oR:h.Ns1 dx mA)(hw:PySem.Within mA ns)(hz:ns.length<1000)
 (hq:∀h' U,h'.Ns1 dx (λy=>if y=name then some v else mA y)->(∀b,b≠dx->h'.get? b=h.get? b)->Q (.done (.ret .none)) ⟨h',g,d,U,os⟩):
 wpAny M A (Builtin.ObjectAttr.storeInDict dx (.str name tk) name v) Q E ⟨h,g,d,t,os⟩:=by
 unfold Builtin.ObjectAttr.storeInDict Builtin.ObjectAttr.newKeyGuard;show zA (zE (zA (wpAny_nsSet1 oR λh' o hs=>?_)));let{oD,esD,epD,C,I,J}:=o.count (Within.cons name v hw);show zA (wpAny_lookBehind C (by rw[I];show pastItsLine_dict (zn J (by rw[zm,sizeLine_eq];lia))) ?_)
 wp_walk
 show hq h' _ o λb hb=>hs.2 b hb
def gG (X:K.In h)(I:C3 K C fI)(nm:PySem.W.findIn K (.ref C) name=some none)(J:h.get? x=some (CF C tt none))
 (hq:∀h' U,h'.get? x=some (CF C tt (some h.objs.size))->h'.Ns1 h.objs.size (λy=>if y=name then some v else none)->(∀b o,b≠x->h.get? b=some o->h'.get? b=some o)->Q (.done (.ret .none)) ⟨h',g,d,U,os⟩):
 wpAny (model prog w) A (Builtin.«object.__setattr__» {[.ref x,.str name tk,v],[]}) Q E ⟨h,g,d,t,os⟩:=by
 let{bm,N,nmm,qn,bs,sn,sub,ab,col,dd,k0,k1,k2,k3,k5,mN,hC,hN,T}:=Hm X I.cl;let pass:=Zx T (.ref x);obtain⟨o,ho⟩:∃o,o=CF C tt none:={1};rw[<-ho] at J;let hc:o.cls=.ref C:=by rw[ho];rfl
 let o8:o.dict=none:=by rw[ho];rfl
 let L:=PySem.W.looks_findIn (M:=model prog w) X nm;unfold Builtin.«object.__setattr__»
 repeat (first | rw[refuse_eq] | (rw[refuseLoop_ref,pass]) | (with_reducible show Dv J ?_;rw[hc]) | with_reducible show wpAny_mroOf_exc hC ?_ | with_reducible show L.at ?_ | wp_step)
 let hdt:o.data=.fields #[.ref tt,.none,.none,.none,.bool false,.none]:=by rw[ho];rfl
 let qP:=zG { cls:=.type "dict",data:=.dict #[] } J;let xs:x≠h.objs.size:=zb (zU J);rw[o8,hdt];show zA (wpAny_alloc' (zA (wpAny_update' qP (zE ?_))));let fr:(CF C tt (some h.objs.size)).isFreed=false:=rfl;let up:((h.push { cls:=.type "dict",data:=.dict #[] }).update x λo=>{ cls:=o.cls,dict:=some h.objs.size,data:=o.data,slots:=o.slots }).get? x=some (CF C tt (some h.objs.size)):=by let:=Ce (λo:Obj=>{ cls:=o.cls,dict:=some h.objs.size,data:=o.data,slots:=o.slots }) qP (by rw[ho];rfl);rw[this,ho];rfl
 let nd:((h.push { cls:=.type "dict",data:=.dict #[] }).update x λo=>{ cls:=o.cls,dict:=some h.objs.size,data:=o.data,slots:=o.slots }).get? h.objs.size=some { cls:=.type "dict",data:=.dict #[] }:=
  (Gj _ _ xs).trans (Heap.get?_push_at rfl rfl)
 show Ys (Heap.Ns1.of_empty {_,#[],_,nd,0,λe he=>absurd he (by simp),λ_=>rfl}) Within.nil (by decide) λh' U n' same=>?_;show hq h' U ((same x xs).trans up) n' λb ob hb e=>?_;rw[same b (zb (zU e)),Gj _ _ (Ne.symm hb)];show zG _ e
def iS (X:K.In h)(I:C3 K C fI)(nm:PySem.W.findIn K (.ref C) name=some none)(J:h.get? x=some (CF C tt (some dx)))
 (oR:h.Ns1 dx mA)(hw:PySem.Within mA ns)(hz:ns.length<1000)
 (hq:∀h' U,h'.Ns1 dx (λy=>if y=name then some v else mA y)->(∀b,b≠dx->h'.get? b=h.get? b)->Q (.done (.ret .none)) ⟨h',g,d,U,os⟩):
 wpAny (model prog w) A (Builtin.«object.__setattr__» {[.ref x,.str name tk,v],[]}) Q E ⟨h,g,d,t,os⟩:=by
 let{bm,N,nmm,qn,bs,sn,sub,ab,col,dd,k0,k1,k2,k3,k5,mN,hC,hN,T}:=Hm X I.cl;let pass:=Zx T (.ref x);obtain⟨o,ho⟩:∃o,o=CF C tt (some dx):={1};rw[<-ho] at J;let hc:o.cls=.ref C:=by rw[ho];rfl
 let o8:o.dict=some dx:=by rw[ho];rfl
 let L:=PySem.W.looks_findIn (M:=model prog w) X nm;unfold Builtin.«object.__setattr__»
 repeat (first | rw[refuse_eq] | (rw[refuseLoop_ref,pass]) | (with_reducible show Dv J ?_;rw[hc]) | with_reducible show wpAny_mroOf_exc hC ?_ | with_reducible show L.at ?_ | wp_step)
 rw[o8];show zE (Ys oR hw hz hq)
def bR {Pr:Heap->Prop}(X:K.In h)(I:C3 K C fI)(mo:PySem.W.mroIn K C (.type "object")=some true) (U:h.get? x=some (CF C tt od))
 (ent:∀A' E' tk t' Q',(∀h' o,Pr h'->Q' (.done (.ret .none)) ⟨h',g,d,o,os⟩)->wpAny (model prog w) A' (Builtin.«object.__setattr__» {[.ref x,.str name tk,v],[]}) Q' E' ⟨h,g,d,t',os⟩)
 (hq:∀h' o,Pr h'->Q Unit.unit ⟨h',g,d,o,os⟩):wpAny (model prog w) A (setAttr (.ref x) name v) Q E ⟨h,g,d,t,os⟩:=by
 let J:=PySem.F.store_ValueError;let f3:=J.slot.bind (.ref x);let L0:=(show Nl h x C from {_,U,0}).type (M:=model prog w);let L1:=PySem.W.looks_findIn (M:=model prog w) X I.sa;unfold setAttr callSpecial? specialOf
 repeat (any_goals (first | assumption | with_reducible show L0.at ?_ | with_reducible show L1.at ?_ | wp_step))
 show codeAny_call_builtin J.slot.plain J.entry (eF X mo U (ent _ _ _ _ _ λh' o p=>?_))
 repeat (any_goals (first | assumption | wp_step))
 show hq h' o p
end
meta def xO (e C t:Addr)(od:Option Addr):HO:=.ext λh=>h.get? e=some (CF C t od)
meta def dO (dx:Addr)(fs:List (Str×V)):HO:=.ext λh=>∃mA,h.Ns1 dx mA/\(∀f,BW (fs.lookup f) (mA f))/\PySem.Within mA (fs.map (·.1))
def JG (o:h.get? e=some (CF C t od)):Aj P w H h e (xO e C t od):={o,{_,o},λ_ _ p k=>k _ p}
def Ie (I:h.Ns1 dx mA)(r:∀f,BW (fs.lookup f) (mA f))(C:PySem.Within mA (fs.map (·.1))):Aj P w H h dx (dO dx fs):=
 ⟨⟨mA,I,r,C⟩,let {o,3,q,_}:=I;⟨o,q⟩,λ_ _ ⟨m,⟨o,es,ep,q,z⟩,r,C⟩ k=>{m,{o,es,ep,k _ q,z},r,C}⟩
def Al.add (x:Al P w H h)(C:H a=none)(new:Aj P w (upd H a o) h a o):Al P w (upd H a o) h:=λb u e=>by
 by_cases I:b=a
 . subst I;rw[zJ] at e;cases e;show new
 . rw[zY I] at e;show (x b u e).stay (λc v _ q=>q) (λc q=>by rwa[zY (zr q C)]) λc xs q=>by rwa[zY (zr q C)]
def gP (n:a≠b):upd (upd H a o) b u=upd (upd H b u) a o:=by
 funext c;by_cases C:c=a
 . subst C;rw[zJ,zY n,zJ]
 . by_cases I:c=b
   . subst I;rw[zJ,zY C,zJ]
   . rw[zY I,zY C,zY C,zY I]
def jO (I:AA X pins σ H s)(EI:C3 X.K C fI)(mo:PySem.W.mroIn X.K C (.type "object")=some true) (nm:PySem.W.findIn X.K (.ref C) f=some none)(he:H e=some (xO e C t none))(ry:AR y u)
 (h:∀dx s',H dx=none->AA X pins σ (upd (upd H dx (dO dx [(f,y)])) e (xO e C t (some dx))) s'->Q Unit.unit s'):wpAny (model X.prog X.w) A (setAttr (.ref e) f u) Q E s:=by
 let{J,g,d,tk,os}:=s;let hx:J.get? e=some (CF C t none):=(I.hok e _ he).1;show bR (Pr:=λh'=>h'.get? e=some (CF C t (some J.objs.size))/\h'.Ns1 J.objs.size (λy=>if y=f then some u else none)/\(∀b o,b≠e->J.get? b=some o->h'.get? b=some o)) I.kIn EI mo hx
  (λA' E' oX t' Q' k=>gG I.kIn EI nm hx λh' U a b c=>k h' U ⟨a,b,c⟩) λh' oX ⟨a,b,c⟩=>?_
 let hn:H J.objs.size=none:=I.hok.fresh (zH _);let ne:e≠J.objs.size:=zb (zU hx);show h J.objs.size _ hn ?_;let mu:JK ((upd H J.objs.size (dO J.objs.size [(f,y)])) e):=by rw[zY ne,he];show True.intro
 let mu':JK (H e):=by rw[he];show True.intro
 show I.un (h':=h') (t':=oX) ((Un.laid (h':=J) (λ_ _ q=>q) (zH _) hn).trans (Un.write mu (.inl rfl) c {_,a})) ?_;rw[gP (Ne.symm ne)];show Al.add (I.hok.write mu' (.inl rfl) c {_,a} (JG a)) (by rwa[zY (Ne.symm ne)]) (Ie b (λg=>?_) (λg hg=>?_))
 . change BW (List.lookup g [(f,y)]) (if g=f then some u else none)
   by_cases q:g=f
   . subst q;rwa[if_pos rfl,List.lookup_cons_self]
   . rw[if_neg q,Hw,show (g==f)=false from by simpa using q];trivial
 . by_cases q:g=f
   . subst q;show za
   . show absurd (by change (if g=f then some u else none)=none;rw[if_neg q]) hg
def iD (I:AA X pins σ H s)(EI:C3 X.K C fI)(mo:PySem.W.mroIn X.K C (.type "object")=some true) (nm:PySem.W.findIn X.K (.ref C) f=some none)(he:H e=some (xO e C t (some dx)))(hd:H dx=some (dO dx fs))(hl:fs.length<900)(ry:AR y u)
 (h:∀s',AA X pins σ (upd H dx (dO dx (BK f y fs))) s'->Q Unit.unit s'):wpAny (model X.prog X.w) A (setAttr (.ref e) f u) Q E s:=by
 let{hp,g,d,tk,os}:=s;let hx:hp.get? e=some (CF C t (some dx)):=(I.hok e _ he).1;let{mA,oR,r,U}:=(I.hok dx _ hd).1;show bR (Pr:=λh'=>h'.Ns1 dx (λy=>if y=f then some u else mA y)/\(∀b,b≠dx->h'.get? b=hp.get? b)) I.kIn EI mo hx
  (λA' E' oX t' Q' k=>iS I.kIn EI nm hx oR U (by rw[zB];lia) λh' J a b=>k h' J ⟨a,b⟩) λh' oX ⟨a,b⟩=>?_
 show h _ ?_;let mu:JK (H dx):=by rw[hd];show True.intro
 show I.write (x:=dx) (e:=dx) (t':=oX) mu (.inl rfl) (λb_ u' hb q=>(b b_ hb).trans q) (let {o,3,q,_}:=a;⟨o,q⟩) (Ie a (λg=>?_) (λg hg=>?_))
 . change BW ((BK f y fs).lookup g) (if g=f then some u else mA g)
   rw[VW];by_cases q:g=f
   . rwa[if_pos q,if_pos q]
   . rw[if_neg q,if_neg q];show r g
 . by_cases q:g=f
   . rw[q];show (OD f y fs).1
   . show (OD f y fs).2 g (U g λz=>hg ?_);change (if g=f then some u else mA g)=none
     rwa[if_neg q]
def Qa (C:Addr)(f:Str)(ta tv:TE):TS:=λD σ H=>tv σ H λy H1=>ta σ H1 λx o=>∃e t,x=.ref e /\
 ((o e=some (xO e C t none)/\∀dx,o dx=none->D.nx σ (upd (upd o dx (dO dx [(f,y)])) e (xO e C t (some dx)))) \/
  ∃dx fs,o e=some (xO e C t (some dx))/\o dx=some (dO dx fs)/\fs.length<900/\D.nx σ (upd o dx (dO dx (BK f y fs))))
def YH (EI:C3 X.K C fI)(mo:PySem.W.mroIn X.K C (.type "object")=some true) (nm:PySem.W.findIn X.K (.ref C) f=some none)(ha:PE X o ta)(hv:PE X value tv)(hs:autoParam (swapsWith value (some (.Attribute o f pos')) pos.line X.env=pure false) d_._auto_5):
 PS X (.Assign [.Attribute o f pos'] value pos) (Qa C f ta tv):=by
 intro pins s σ H D I h;show plainObj_wpAny_Assign_Attribute (AM (hv pins s σ H _ I h) λu s1 ⟨y,H1,I1,U,q⟩=>AM (ha pins s1 σ H1 _ I1 q) λov s2 ⟨x,H2,I2,rx,e,t,ex,q2⟩=>?_) hs;subst ex;obtain rfl:ov=Value.ref e:=rx;rcases q2 with ⟨he,q⟩ | ⟨dx,fs,he,hd,hl,q⟩
 . show jO I2 EI mo nm he U λdx s3 n J=>{σ,_,J,q dx n}
 . show iD I2 EI mo nm he hd hl U λs3 J=>{σ,_,J,q}
def E2 (C:Addr)(f1 f2:Str):Sp:=λo H Q _=>∃e t v1 v2,o=[.ref e,v1,v2]/\H e=some (xO e C t none)/\∀dx,H dx=none->dx≠e->Q .non (upd (upd H dx (dO dx [(f1,v1),(f2,v2)])) e (xO e C t (some dx)))
def G1 (B:Heap)(l:List Env)(e:Addr)(C I:Value)(od:Option Addr)(h:Heap):Prop:=Heap.FlyingW B l e C I h/\∃o,h.get? e=some o/\o.dict=od
def G1.step (x:G1 B l e C a0 od h)(f:Heap.FlyingW B l' e C a0 h')(k:DK h h'):G1 B l' e C a0 od h':=by let{_,o,q,r}:=x;let{U,J,I}:=k e o q;show{f,U,J,I.trans r}
def Bu (P:Program)(w:World):Kv:=λouter H s E e I=>
 ∃ea t C J H' B,e=.ref ea/\I.os=s.os/\AllBare I.gens/\Un (A4 outer) [] H H' s.heap I.heap/\Al P w H' I.heap /\
  G1 B outer ea C (.ref t) J I.heap/\(∀b u,H' b=some u->∃o,B.get? b=some o)/\(∀b o,s.heap.get? b=some o->H b=none->b∉A4 outer->B.get? b=some o)/\(∀b o,s.heap.get? b=some o->b∉A4 outer->∃U,B.get? b=some U)/\E C J H'
section
variable {P:Program}{w:World}{K:AK}{mg:A2}{base:Heap}{N:List Str}{qual:Str}{scope:Scope}{f:Addr}{cd:Value}{A:Around}{outer:List Env}{s0 s:Shared}{H0 H:Hp}{E:XK}{pins:CT}{σ:St}
def iK (I:AA (DU (Bu P w) P w K mg base N qual scope f cd A outer s0 H0 E) pins σ H s)(he:s.heap.get? ea=some oe)(hc:oe.cls=C)(hd:oe.data=.fields vs)(h1:vs[1]?=some .none)(h0:vs[0]?=some (.ref t))(hn:H ea=none)(h00:s0.heap.get? ea=none)(hE:E C oe.dict H):
 (DU (Bu P w) P w K mg base N qual scope f cd A outer s0 H0 E).xe (.ref ea) s:=by
 subst hc;let' fr:List Addr:=(envOfC qual scope s0.heap.objs.size f cd::outer).filterMap (·.frame);let pq:∀env∈(envOfC qual scope s0.heap.objs.size f cd::outer),∀a,env.frame=some a->a∈ea::fr:=λenv he b J=>zZ _ (List.mem_filterMap.mpr ⟨env,he,J⟩);let ff:=PySem.W.funFrames_hide I.stack pq;let off:ea∉fr:=λz=>by let{_,o,ho,nd}:=I.stack.mem z;rw[he] at ho;cases ho;show nd vs hd
 show BB (OI (Zv _ _) (wpAny_leaving_firstW (Q:=λ_ s'=>∃h',s'={ s with heap:=h' }/\Heap.LeftW (PySem.W.hideAll s.heap (ea::fr)) (envOfC qual scope s0.heap.objs.size f cd::outer) ea oe.cls (.ref t) s.heap h') (base:=PySem.W.hideAll s.heap (ea::fr)) I.ok.frames ff rfl he (λb o q=>PySem.W.of_hideAll _ q) (PySem.W.hideAll_none _ za) hd h1 h0 λh' L=>{h',0,L})) (λ_ s' hq=>?_) λ_ _ z=>z;let{{h'',0,L1,{3,L2'},L3,up},dk}:=hq;let st:(PySem.W.hideAll s.heap (ea::fr)).StaysIn h'':=L1;let stk:∀b,b∈fr->b=s0.heap.objs.size\/b∈A4 outer:=λb z=>zS.mp (I.stkSub b z);let U:∀b o,s.heap.get? b=some o->b≠ea->b∉fr->(PySem.W.hideAll s.heap (ea::fr)).get? b=some o:=λb o q n z=>PySem.W.hideAll_get _ q λy=>by
  rcases zS.mp y with y | y
  . show n y
  . show z y
 let nea:∀b o,s0.heap.get? b=some o->b≠ea:=λb o q z=>by rw[z,h00] at q;cases q
 let nfr:∀b o,s0.heap.get? b=some o->b∉A4 outer->b∉fr:=λb o q J z=>by
  rcases stk b z with y | y
  . show absurd (zU q) (by rw[y];show Nat.not_lt_of_le (zH _))
  . show J y
 let old:∀b o,s0.heap.get? b=some o->H0 b=none->b∉A4 outer->(PySem.W.hideAll s.heap (ea::fr)).get? b=some o:=λb o e n J=>
  U b o (I.base.keep b o e n J (by intro z;cases z)) (nea b o e) (nfr b o e J)
 let al:∀b o,s0.heap.get? b=some o->b∉A4 outer->∃o',(PySem.W.hideAll s.heap (ea::fr)).get? b=some o':=λb o e J=>by let{o1,e1}:=I.base.there b o e (by intro z;cases z);show{o1,U b o1 e1 (nea b o e) (nfr b o e J)}
 let tr:∀b u,H b=some u->∃o,(PySem.W.hideAll s.heap (ea::fr)).get? b=some o:=λb u e=>by let{o,ho}:=(I.hok b u e).there;show{o,U b o ho (λz=>by rw[z,hn] at e;cases e) λz=>?_};let:=I.stkFree b z;rw[e] at this;cases this
 let{o',q',r'}:=dk ea oe he;show{ea,t,oe.cls,oe.dict,H,1,I.os,I.bare,{λb o e n J oQ=>st b o (old b o e n J),λb o e n J oQ=>?_,I.base.free,λb o e oQ=>?_,I.base.tups,I.base.frzs,I.base.tbls},I.hok.stays (λb o q=>PySem.W.of_hideAll _ q) st tr,{{L1,PySem.W.hideAll_none _ za,L2',L3},o',q',r'},tr,old,al,hE}
 . let{sl,e1}:=I.base.slot b o e n J (by intro z;cases z);let{_,o2,e2,nd}:=I.stack.mem (show b∈fr from zZ _ J);let e3:o2={ o with slots:=sl }:=zW (e2.symm.trans e1);let{sl2,e4}:=up b _ e1 (λvs=>by rw[<-e3];show nd vs);show⟨sl2,e4⟩
 . let{o1,e1}:=I.base.there b o e (by intro z;cases z);by_cases J:b∈fr
   . let{_,o2,e2,nd}:=I.stack.mem J;let{sl2,e4}:=up b _ e2 nd;show{_,e4}
   . show{_,st b _ (U b o1 e1 (nea b o e) J)}
end
section
variable {P:Program}{w:World}{K:AK}{mg:A2}{base:Heap}{N:List Str}{qual:Str}{scope:Scope}{f:Addr}{cd:Value}{A:Around}{outer:List Env}{s0 s:Shared}{H0 H:Hp}{E:XK}{pins:CT}{σ:St}
def jc (I:AA (DU (Bu P w) P w K mg base N qual scope f cd A outer s0 H0 E) pins σ H s)(h:Bu P w (envOfC qual scope s0.heap.objs.size f cd::outer) H s E1 e s')
 (imp:∀C d H',E1 C d H'->E C d H'):(DU (Bu P w) P w K mg base N qual scope f cd A outer s0 H0 E).xe e s':=by
 let{ea,t,C,od,H',B,0,os,bare,un,hok,fl,tr,old,al,hE}:=h;show BB (OI (Zv _ _) (wpAny_leaves_onW (Q:=λ_ s2=>∃h',s2={ s' with heap:=h' }/\Heap.FlyingW B outer ea C (.ref t) h'/\s'.heap.UpToSlots h') I.ok.frames rfl fl.1 λh' f2 u=>{h',0,f2,u})) (λ_ s2 hq=>?_) λ_ _ z=>z;let{{h'',0,fl2,up},dk}:=hq;let st:B.StaysIn h'':=fl2.1;let nl:∀b o,s0.heap.get? b=some o->H0 b=none->b∉A4 outer->B.get? b=some o:=λb o e n J=>by
  show old b o (I.base.keep b o e n J (by intro z;cases z)) (I.base.free b o e n (by intro z;cases z)) λz=>?_;rcases zS.mp (I.stkSub b z) with q | q
  . show absurd (zU e) (by rw[q];show Nat.not_lt_of_le (zH _))
  . show J q
 let na:∀b o,s0.heap.get? b=some o->b∉A4 outer->∃o',B.get? b=some o':=λb o e J=>by
  let{o1,U}:=I.base.there b o e (by intro z;cases z);show al b o1 U λz=>?_;rcases zS.mp (I.stkSub b z) with q | q
  . show absurd (zU e) (by rw[q];show Nat.not_lt_of_le (zH _))
  . show J q
 show{ea,t,C,od,H',B,0,os.trans I.os,bare,{λb o e n J _=>st b o (nl b o e n J),λb o e n J _=>?_,λb o e n _=>?_,λb o e _=>?_,λb xs e=>un.tups _ _ (I.base.tups _ _ e),λb o u e=>un.frzs _ _ _ (I.base.frzs _ _ _ e),λb ps e=>?_},hok.stays fl.1.1 st tr,fl.step fl2 dk,tr,nl,na,imp _ _ _ hE}
 . let{sl,U}:=I.base.slot b o e n J (by intro z;cases z);let n1:=I.base.free b o e n (by intro z;cases z);let{sl2,e2}:=un.slot b _ U n1 (zZ _ J) (by intro z;cases z);let{_,o3,e3,nd}:=fl.1.2.2.1.mem (show b∈(envOfC qual scope s0.heap.objs.size f cd::outer).filterMap (·.frame) from zZ _ J);let{sl4,e4}:=up b _ e3 nd;let e5:=zW (e3.symm.trans e2);rw[e5] at e4;show⟨sl4,e4⟩
 . show un.free b _ (I.base.there b o e (by intro z;cases z)).choose_spec (I.base.free b o e n (by intro z;cases z)) (by intro z;cases z)
 . let{o1,U}:=I.base.there b o e (by intro z;cases z);by_cases J:b∈(envOfC qual scope s0.heap.objs.size f cd::outer).filterMap (·.frame)
   . let{_,o3,e3,nd}:=fl.1.2.2.1.mem J;let{sl4,e4}:=up b _ e3 nd;show{_,e4}
   . let{o3,e3}:=al b o1 U J;show{_,st b o3 e3}
 . let{m1,U}:=I.base.tbls _ _ e;let{m2,e2}:=un.tbls _ _ U;show{m1++m2,by rw[e2,Array.append_assoc]}
end
def R5 {K:AK}:Hv (Bu P w) (DU (Bu P w) P w K mg base N qual scope f cd A outer s0 H0 E) E:=λ_ _ _ _ _ _ I h=>jc I h λ_ _ _ z=>z
def BS.okI {K:AK}{st:Stmt}(F:BS K x qual st f fd)(S:zo N ps (defScope st))(len:∀vs H Q E,sp vs H Q E->vs.length=ps.length)
 (J:∀o A outer s H vs Q E,Ap k (A.deeper (envOfC qual (defScope st) s.heap.objs.size f o))->sp vs H Q E ->
  ∃t,CI (DU (Bu P w) P w K mg base N qual (defScope st) f o A outer s H E) (defBody st) t/\t { nx:=λ_ H'=>Q .non H',rt:=Q } (start N vs) H):AF P w K mg base (Bu P w) (k+1) f fd ps sp:=by
 let{oc,od,kV,doc,pm,an,o,ct,pQ,0,U,C}:=F.ex;show VL U C S len λA outer s H vs Q E hr I=>J o A outer s H vs Q E hr I
meta def Jg (e:Addr)(H:Hp):Hp:=λb=>if b=e then none else H b
def Ek (n:b≠e):Jg e H b=H b:=by unfold Jg;rw[if_neg n]
def KL :Jg e H e=none:=by unfold Jg;rw[if_pos rfl]
def AA.drop (I:AA X pins σ H s)(he:H e=some (.ext φ)):AA X pins σ (Jg e H) s:=by
 let C:∀b xs,H b=some (.tup xs)->b≠e:=λb xs q z=>by rw[z,he] at q;cases q
 let no:∀b y,H b=some (.own y)->b≠e:=λb y q z=>by rw[z,he] at q;cases q
 show{I.ok,I.os,I.bare,{I.base.keep,I.base.slot,λb o q n J=>?_,I.base.there,λb xs q=>by rw[Ek (C b xs (I.base.tups b xs q))];show I.base.tups b xs q,λb o u q=>?_,λb ps q=>?_},I.loc,I.cell,?_,λx c q=>?_,λp U=>?_,λb o q=>?_,I.len}
 . by_cases z:b=e
   . subst z;show KL
   . rw[Ek z];show I.base.free b o q n J
 . let r:=I.base.frzs b o u q;rw[Ek (λz=>by rw[z,he] at r;cases r)];show r
 . let{m,r}:=I.base.tbls b ps q;show{m,by rw[Ek (λz=>by rw[z,he] at r;cases r)];show r}
 . by_cases z:X.env.locals=e
   . rw[z];show KL
   . rw[Ek z];show I.free
 . by_cases z:c=e
   . subst z;show KL
   . rw[Ek z];show I.freeC x c q
 . let{a,b,r}:=I.pin p U;show{a,?_,r};by_cases z:p.1=e
   . rw[z];show KL
   . rw[Ek z];show b
 . let z:b≠e:=λz=>by rw[z,KL] at q;cases q
   rw[Ek z] at q;show (I.hok b o q).stay (λ_ _ _ r=>r) (λc r=>by rw[Ek (no c _ r)];show r) λc xs r=>by rw[Ek (C c xs r)];show r
def i0 {M:Model}{A:Around}{E:Bt}{env:Env}{K:AK}{C tt:Addr}{od:Option Addr}{y:Sem Value}{Q:Flow->Shared->Prop}(q:Fc K C=true)(hh:A.handled=none)
 (h:wpAny M A y (λv s1=>∃e,v=.ref e/\K.In s1.heap/\(∃tt od,s1.heap.get? e=some (CF C tt od))/\E (.ref e) s1) E s):wpAny M A (raiseStmt env (some y) none) Q E s:=by
 unfold raiseStmt;show zA (BB h (λv s1 U=>?_) λ_ _ z=>z);let{e,0,X1,{tt,od,he},hE}:=U;let{bm,N,nm,qn,bs,sn,sub,ab,col,dd,k0,k1,k2,k3,k5,mN,I,hN,T}:=Hm X1 q;let o:(Value.ref C::bm).contains (.type "BaseException")=true:=by rw[List.contains_cons,T.hasType (X := "BaseException") (b:=true) (by rfl),Bool.or_true]
 let{hp,g,d,tk,os}:=s1;let J:hp.get? e=some { cls:=.ref C,dict:=od,data:=.fields #[.ref tt,.none,.none,.none,.bool false,.none] }:=he
 repeat (first | with_reducible show Dv J ?_ | with_reducible show Dv I ?_ | (with_reducible show wpAny_isSubtype_exc I ?_;rw[o]) | wp_step)
 show wpAny_raiseNew_none hh hE
def AA.madeX (I:AA X pins σ H s)(r:AN vs us)(hz:vs.length<=sizeLine):
 AA X pins σ (upd (upd H s.heap.objs.size (.tup vs)) (s.heap.objs.size+1) (xO (s.heap.objs.size+1) C s.heap.objs.size none)) { s with heap:=Gu s.heap C us }:=by
 let J:(s.heap.push (HA us)).get? s.heap.objs.size=some (HA us):=Heap.get?_push_at rfl rfl;let U:=I.laid (a:=s.heap.objs.size) (o:=.tup vs) (h':=s.heap.push (HA us)) (t':=s.toks) (λb u q=>zG _ q) (zH _) {{hz,_,J,0},us,r,{_,J,6}};show U.laid (a:=s.heap.objs.size+1) (t':=s.toks) (h':=Gu s.heap C us) (λb u q=>zG _ q) (Nat.le_of_eq (Co _ _)) (JG (X7 s.heap C us))
def iT (C:Addr)(f1 f2:Str)(t:TA)(E:XK):TS:=λ_ σ H=>t σ H λo H1=>∃v1 v2,o=[v1,v2]/\∀tt dx,H1 tt=none->H1 dx=none->tt≠dx->E (.ref C) (some dx) (upd (upd H1 tt (.tup [v1,v2])) dx (dO dx [(f1,v1),(f2,v2)]))
def d7 (hg:Gl X x)(hm:X.mg x=some (.ref C))(EI:C3 X.K C fI)(hc:X.calm=true)(F:AF X.prog X.w X.K X.mg X.base AL k fI fd ps (E2 C f1 f2))(hr:Ap (k+1) X.A)(J:BC X.K fd ps [])(ha:PA X [e1,e2] t)
 (hxe:∀pins σ H s ea tt dx,AA X pins σ H s->s.heap.get? ea=some (CF C tt (some dx))->H ea=none->X.s₀.heap.get? ea=none->E (.ref C) (some dx) H->X.xe (.ref ea) s)
 (hd:autoParam ((x==("__debug__" : Str))=false) d_._auto_2) (hs:autoParam (starEach [e1,e2] X.env=(false,eval e1 X.env)::starEach [e2] X.env) d_._auto_5)(nq:autoParam ((backTo mw (starEach [e2] X.env)).any (·.1)=false) d_._auto_5):
 PS X (.Raise (some (.Call (.Name x np) [e1,e2] [] mw)) none pos) (iT C f1 f2 t E):=by
 intro pins s σ H D I h;rw[arm_exec_Raise];show zA (wpAny_standAt ?_);change wpAny _ _ (raiseStmt X.env (some (do let v <-eval (.Call (.Name x np) [e1,e2] [] mw) X.env;standAt pos;pure v)) none) _ _ _
 show i0 (tt:=0) (od:=none) EI.cl (I.ok.hd hc) (zA (BB (Q:=λv s1=>∃e,v=.ref e/\X.K.In s1.heap/\(∃tt od,s1.heap.get? e=some (CF C tt od))/\X.xe (.ref e) s1) (E:=X.xe) ?main (λv s3 h3=>zA (wpAny_standAt (zE h3))) λ_ _ z=>z))
 case main=>
  show EN (Nq I hg hm ?_ hd);show PySem.W.callWith_K (h₀:=X.base) I.ok.mod.kin EI.kp (BB (ha mw pins s σ H _ I h) (λus s1 ⟨vs,H1,U,r,q⟩=>{U.kIn,?_}) λ_ _ z=>z) hs nq;let{v1,v2,0,q}:=q;let hz:us.length<=sizeLine:=by rw[<-r.length];change 2<=sizeLine;decide
  let I2:=AA.madeX (C:=C) U r (show 2<=sizeLine by decide);let r2:AN (V.ref (s1.heap.objs.size+1)::[v1,v2]) (Value.ref (s1.heap.objs.size+1)::us):=.cons rfl r;let n1:H1 s1.heap.objs.size=none:=U.hok.fresh (zH _);let n2:H1 (s1.heap.objs.size+1)=none:=U.hok.fresh (Ci _);let s00:X.s₀.heap.get? (s1.heap.objs.size+1)=none:=Heap.get?_none_of_le (zn U.sz (Ci _));show ij (h:=s1.heap) U.kIn EI hz ?_;let ne:s1.heap.objs.size≠s1.heap.objs.size+1:=zb (Jq _);let oz:E2 C f1 f2 (V.ref (s1.heap.objs.size+1)::[v1,v2]) (upd (upd H1 s1.heap.objs.size (.tup [v1,v2])) (s1.heap.objs.size+1) (xO (s1.heap.objs.size+1) C s1.heap.objs.size none))
   (λv H2=>v=.non/\∃dx,H2 (s1.heap.objs.size+1)=some (xO (s1.heap.objs.size+1) C s1.heap.objs.size (some dx))/\E (.ref C) (some dx) (Jg (s1.heap.objs.size+1) H2)) (λ_ _ _=>False):=by
   show{3,v1,v2,0,zJ,λdx oo nd=>{0,dx,zJ,?_}};rw[zY nd] at oo;let nt:s1.heap.objs.size≠dx:=λz=>by rw[<-z,zJ] at oo;cases oo
   let hdx1:H1 dx=none:=by rwa[zY (Ne.symm nt)] at oo
   let eq:Jg (s1.heap.objs.size+1) (upd (upd (upd (upd H1 s1.heap.objs.size (.tup [v1,v2])) (s1.heap.objs.size+1) (xO (s1.heap.objs.size+1) C s1.heap.objs.size none)) dx (dO dx [(f1,v1),(f2,v2)])) (s1.heap.objs.size+1) (xO (s1.heap.objs.size+1) C s1.heap.objs.size (some dx)))
   =upd (upd H1 s1.heap.objs.size (.tup [v1,v2])) dx (dO dx [(f1,v1),(f2,v2)]):=by
    funext b;by_cases J:b=s1.heap.objs.size+1
    . subst J;rw[KL,zY (Ne.symm nd),zY (Ne.symm ne)];show n2.symm
    . rw[Ek J,zY J];by_cases o:b=dx
      . subst o;rw[zJ,zJ]
      . rw[zY o,zY J,zY o]
   rw[eq];show q _ dx n1 hdx1 nt
  let hl:(Value.ref (s1.heap.objs.size+1)::us).length=ps.length:=by rw[<-r2.length];show F.len _ _ _ _ oz
  show B9 (codeAny_mono (F.run _ X.stack _ _ {Value.ref (s1.heap.objs.size+1)::us,[]} (Value.ref (s1.heap.objs.size+1)::us) _ _ (λ_ _ _=>False) (hr.make C us []) (I2.env0.make C us [])
   (by let:=J _ (Value.ref (s1.heap.objs.size+1)::us) I2.kIn (by rwa[Bl]);rwa[Bl] at this) r2 oz) λr s' qH=>?_)
  cases r with
  | error e=>show False.elim qH
  | ok fl=>
   cases fl with
   | ret u=>let{v,H',I3,rv,ev,dx,hx,hE}:=I2.after qH;subst ev;show{rv,1,I3.kIn,{3,(I3.hok _ _ hx).1},?_};show hxe pins σ _ s' _ _ dx (I3.drop hx) (I3.hok _ _ hx).1 KL s00 hE
   | next=>show False.elim qH
   | brk=>show False.elim qH
   | cont=>show False.elim qH
section
variable {prog:Program}{w:World}{A:Around}{E:Bt}{h:Heap}{g:Array GenState}{d:Drawn}{t:Nat}{os:OsState}{K:AK}{C x dx:Addr}{o:Obj}{name:Str}{v:Value}{mA:A2}
def fK (X:K.In h)(q:Fc K C=true)(I:h.get? x=some o)(J:o.cls=.ref C)(hd:o.data=.fields vs)(o8:o.dict=some dx)(oR:h.Ns1 dx mA)(nm:PySem.W.findIn K (.ref C) name=some none)(hv:mA name=some v)(hq:Q (.done (.ret v)) ⟨h,g,d,t,os⟩):
 wpAny (model prog w) A (Builtin.«object.__getattribute__» {[.ref x,.str name tk],[]}) Q E ⟨h,g,d,t,os⟩:=by
 let{bm,N,nmm,qn,bs,sn,sub,ab,col,dd,k0,k1,k2,k3,k5,mN,U,hN,T}:=Hm X q;let L:=PySem.W.looks_findIn (M:=model prog w) X nm;unfold Builtin.«object.__getattribute__»
 repeat (first | (with_reducible show Dv I ?_;rw[J]) | with_reducible show Dv U ?_ | with_reducible show L.at ?_ | wp_step)
 rw[hd];let ns:h.Ns dx mA:=oR.ns;change wpAny _ _ (instanceDict x false) _ _ _;unfold instanceDict
 repeat (first | (with_reducible show Dv I ?_;rw[J]) | with_reducible show Dv U ?_ | wp_step)
 rw[o8];show zE ?_;unfold Builtin.ObjectAttr.inDict;show wpAny_nsGet ns ?_;rw[hv]
 repeat (any_goals (first | assumption | wp_step))
def ji (X:K.In h)(q:Fc K C=true)(F':NS K C)(I:h.get? x=some o)(J:o.cls=.ref C)(hd:o.data=.fields vs)(o8:o.dict=some dx)(U:h.Ns1 dx mA)(nm:PySem.W.findIn K (.ref C) name=some none)(hv:mA name=some v)(hq:R (.ok (.ret v)) ⟨h,g,d,t,os⟩):
 codeAny (model prog w) A (.call (.builtin "BaseException.__getattribute__") {[.ref x,.str name tk],[]}) R ⟨h,g,d,t,os⟩:=
 codeAny_call_builtin PySem.F.attrBase_ValueError.ga.plain PySem.F.entry_bexc_ga (kG X ⟨o,I,J⟩ F' (fK X q I J hd o8 U nm hv hq))
def Kt {fill:Bool}(X:K.In h)(q:Fc K C=true)(J:NS K C)(U:h.get? x=some o)(hc:o.cls=.ref C)(hd:o.data=.fields vs)(o8:o.dict=some dx)(oR:h.Ns1 dx mA)(nm:PySem.W.findIn K (.ref C) name=some none)(hv:mA name=some v)(hh:PySem.W.handedIn v=true)(hq:Q v ⟨h,g,d,t,os⟩):
 wpAny (model prog w) A (getAttrBy (.ref x) (.str name tk) fill b) Q E ⟨h,g,d,t,os⟩:=by
 let L0:=(show Nl h x C from ⟨o,U,hc⟩).type (M:=model prog w);let L1:=PySem.W.looks_findIn (M:=model prog w) X J.ga;let L2:=PySem.W.looks_findIn (M:=model prog w) X J.gn;let f3:=PySem.F.attrBase_ValueError.ga.bind (.ref x);let I:(Value.builtin "BaseException.__getattribute__" == Value.builtin "object.__getattribute__")=false:=by decide +kernel
 let qZ:(b && onTheHeap (Value.builtin "BaseException.__getattribute__"))=false:=by cases b <;> rfl
 let qP:(onTheHeap (Value.ref C) && Value.builtin "BaseException.__getattribute__" == Value.builtin "object.__getattribute__")=false:=by rw[I];rfl
 repeat (any_goals (first | assumption | with_reducible show L0.at ?_ | with_reducible show L1.at ?_ | with_reducible show L2.at ?_ | wp_step))
 show ji X q J U hc hd o8 oR nm hv ?_;change wpAny _ _ (handedOut v) _ _ _;show PySem.W.handed_on hh hq
def PF (X:K.In h)(q:Fc K C=true)(F':NS K C)(hx:h.get? x=some o)(hc:o.cls=.ref C)(hd:o.data=.fields vs)(U:o.dict=some dx)(J:h.Ns1 dx mA)(nm:PySem.W.findIn K (.ref C) name=some none)(hv:mA name=some v)(hh:PySem.W.handedIn v=true)(hq:∀I,Q v ⟨h,g,d,I,os⟩):
 wpAny (model prog w) A (getAttr (.ref x) name b) Q E ⟨h,g,d,t,os⟩:=by
 unfold getAttr
 repeat (any_goals (first | assumption | show hq _ | with_reducible show Kt X q F' hx hc hd U J nm hv hh ?_ | wp_step))
end
structure IC (X:Cx)(ea C dx:Addr):Prop where
 pin:∃oe vs,(ea,oe)∈X.pn/\oe.cls=.ref C/\oe.dict=some dx/\oe.data=.fields vs
def RT (X:Cx)(ta:TE)(f:Str):TE:=λσ H Q=>ta σ H λx H1=>∃ea C dx fs v,x=.ref ea/\IC X ea C dx/\Fc X.K C=true/\NS X.K C/\PySem.W.findIn X.K (.ref C) f=some none/\H1 dx=some (dO dx fs)/\fs.lookup f=some v/\Q v H1
def Yc (he:PE X e ta)(hb:autoParam (attributeBase e f X.env (eval e X.env)=eval e X.env) d_._auto_5):PE X (.Attribute e f pos) (RT X ta f):=by intro pins s σ H Q I h;show aL hb (AM (he pins s σ H _ I h) λu s1 z0=>?_);let{x,H1,J,rx,ea,C,dx,fs,v,ex,{{oe,vs,hp,hc,o8,hd}},q,F',nm,oo,hl,hq}:=z0;subst ex;obtain rfl:u=Value.ref ea:=rx;let{e1,_}:=J.pin (ea,oe) (List.mem_append_left _ hp);let{mA,oR,r,wi}:=(J.hok dx _ oo).1;let{u,hu,U}:=BW.some_of (v:=v) (o:=mA f) (by rw[<-hl];show r f);let{hp',g,d,tk,os}:=s1;show PF J.kIn q F' e1 hc hd o8 oR nm hu (YF U) λoX=>{v,H1,J.tok oX,U,hq}
def F8 (e:Addr)(od:Option Addr)(h:Heap):Prop:=∃o,h.get? e=some o/\o.dict=od
def F8.step (x:F8 e od h)(k:DK h h'):F8 e od h':=by let{o,q,r}:=x;let{J,I,C}:=k e o q;show{J,I,C.trans r}
def iX (o:A.frames=some (env::outer))(hf:env.frame=some L)(C:Heap.FlyingW base (env::outer) e cls a0 s.heap)(hd:F8 e od s.heap)
 (J:∀h',Heap.HeldW base (env::outer) e cls a0 L h'->s.heap.UpToSlots h'->F8 e od h'->Q Unit.unit { s with heap:=h' }):wpAny M A (noteFrame (.ref e) env) Q E s:=by
 show BB (OI (Z6 _ _) (wpAny_looks_onW (Q:=λ_ s2=>∃h',s2={ s with heap:=h' }/\Heap.HeldW base (env::outer) e cls a0 L h'/\s.heap.UpToSlots h') o hf C λh' a b=>{h',0,a,b})) (λ_ s2 I=>?_) λ_ _ z=>z;let{{h',0,a,b},k}:=I;show J h' a b (hd.step k)
def ME (C:Heap.HeldW base l e cls a0 L s.heap)(hd:F8 e od s.heap)
 (I:∀h',Heap.FlyingW base l e cls a0 h'->s.heap.UpToSlots h'->F8 e od h'->Q Unit.unit { s with heap:=h' }):wpAny M A (setFlight (.ref e) none) Q E s:=by
 show BB (OI (VJ _ _) (wpAny_landsW (Q:=λ_ s2=>∃h',s2={ s with heap:=h' }/\Heap.FlyingW base l e cls a0 h'/\s.heap.UpToSlots h') C λh' a b=>{h',0,a,b})) (λ_ s2 o=>?_) λ_ _ z=>z;let{{h',0,a,b},k}:=o;show I h' a b (hd.step k)
def MA (C:Heap.FlyingW base l e cls a0 s.heap)(hd:F8 e od s.heap)
 (I:∀h',Heap.FlyingW base l e cls a0 h'->s.heap.UpToSlots h'->F8 e od h'->Q Unit.unit { s with heap:=h' }):wpAny M A (setFlight (.ref e) none) Q E s:=by
 show BB (OI (VJ _ _) (lands_againW (Q:=λ_ s2=>∃h',s2={ s with heap:=h' }/\Heap.FlyingW base l e cls a0 h'/\s.heap.UpToSlots h') C λh' a b=>{h',0,a,b})) (λ_ s2 o=>?_) λ_ _ z=>z;let{{h',0,a,b},k}:=o;show I h' a b (hd.step k)
meta def Fi (K:AK)(C:Addr):Bool:=Fc K C || PySem.W.excIn K C QV "ValueError.__new__"
def iP {K:AK}(X:K.In h)(q:Fi K C=true):
 ∃bm N nm o bs oN sn sub ab col dd k0 k1 U J I,h.get? C=some (excClassObj nm o C N bs bm oN sn sub ab col dd k0 k1 U J I "ValueError.__new__"):=by
 unfold Fi at q;rcases Bool.or_eq_true _ _ ▸ q with q | q
 . let{bm,N,nm,o,bs,sn,sub,ab,col,dd,k0,k1,U,J,I,mN,hC,_}:=Hm X q;show{3,3,3,3,3,3,3,3,hC}
 . let{bm,N,nm,o,bs,oN,sn,sub,ab,col,dd,k0,k1,U,J,I,mN,hC,_}:=aG X q;show{3,3,3,3,3,3,3,3,hC}
def mH (K:AK)(W:Addr)(ts:Addr->Obj->Addr->TS)(i:Nat)(D:Ec)(σ:St):XK:=λC J H'=>∃o,C=.ref o/\Fi K o=true/\subIn K o W=true/\∀ea oe I,oe.cls=.ref o->oe.dict=J->oe.data=.fields I->H' ea=none->ts ea oe o (JN i D) (σ.set i (some (.ref ea))) H'
def RO (K:AK)(W:Addr)(tb:XK->TS)(ts:Addr->Obj->Addr->TS)(i:Nat):TS:=λD σ H=>tb (mH K W ts i D σ) D σ H
def dX (X:Cx)(body:List Stmt)(tb:XK->TS):Prop:=∀pins s σ H D o,AA X pins σ H s->tb o D σ H ->
 wpAny (model X.prog X.w) X.A (execs body X.env) (SP X pins D) (λe C=>∃H1 s1,AA X pins σ H1 s1/\Bu X.prog X.w X.stack H1 s1 o e C) s
def jF (F:AF X.prog X.w X.K X.mg X.base (Bu X.prog X.w) k f fd ps sp)(hr:Ap k X.A)(hg:Gl X x)(hm:X.mg x=some (.ref f))(hk:PySem.W.keepIn X.K (.ref f)=true)(hb:BC X.K fd ps [])
 (ha:PA X.nox (e::es) t)(I:AA X pins σ H s)(h:t σ H λvs H1=>sp vs H1 Q E1)(U:autoParam ((x==("__debug__" : Str))=false) d_._auto_2) (he:autoParam (starEach (e::es) X.env=(false,eval e X.env)::starEach es X.env) d_._auto_5)(nq:autoParam ((backTo pos (starEach es X.env)).any (·.1)=false) d_._auto_5):
 wpAny (model X.prog X.w) X.A (eval (.Call (.Name x p) (e::es) [] pos) X.env) (EP X pins σ Q) (λe s'=>∃H1 s1,AA X pins σ H1 s1/\Bu X.prog X.w X.stack H1 s1 E1 e s') s:=by
 show EN (Nq I hg hm ?_ U);show PySem.W.callWith_K (h₀:=X.base) I.ok.mod.kin hk (BB (ha pos pins s σ H _ (I.wish _) h) (λus s1 ⟨vs,H1,J,r,q⟩=>{J.unwish.kIn,?_}) λ_ _ z=>False.elim z) he nq;let C:=J.unwish;let hl:us.length=ps.length:=by rw[<-r.length];show F.len _ _ _ _ q
 show B9 (codeAny_mono (F.run X.A X.stack s1 H1 {us,[]} us vs Q E1 hr C.env0 (by let:=hb s1 us C.kIn (by rwa[Bl]);rwa[Bl] at this) r q) λr s' o=>?_);cases r with
 | error e=>show⟨H1,s1,C,o⟩
 | ok fl=>
  cases fl with
  | ret u=>show C.after o
  | next=>show False.elim o
  | brk=>show False.elim o
  | cont=>show False.elim o
def Y0 (F:AF X.prog X.w X.K X.mg X.base (Bu X.prog X.w) k f fd ps sp)(hr:Ap k X.A)(hg:Gl X x)(hm:X.mg x=some (.ref f))(hk:PySem.W.keepIn X.K (.ref f)=true)(hb:BC X.K fd ps [])
 (ha:PA X.nox (e::es) t)(hs:autoParam (swapsWith (.Call (.Name x p) (e::es) [] pos) none epos.line X.env=pure false) d_._auto_5)(J:autoParam ((x==("__debug__" : Str))=false) d_._auto_2) (he:autoParam (starEach (e::es) X.env=(false,eval e X.env)::starEach es X.env) d_._auto_5)(U:autoParam ((backTo pos (starEach es X.env)).any (·.1)=false) d_._auto_5):
 dX X [.Expr (.Call (.Name x p) (e::es) [] pos) epos] (λo D σ H=>t σ H λvs H1=>sp vs H1 (λ_ H2=>D.nx σ H2) o):=by
 intro pins s σ H D o I h;show wpAny_execs_cons (wpAny_Expr_any (BB (jF F hr hg hm hk hb ha I h J he U) (λv s1 ⟨y,H1,I1,r1,C⟩=>?_) λ_ _ z=>z) I.quiet hs);show wpAny_execs_nil ⟨σ,H1,I1,C⟩
section
variable {X:Cx}{k:Nat}{f:Addr}{fd:FuncData}{ps:List Str}{sp:Addr->Addr->Sp}{x:Str}{p pos:Pos}{e:Expr}{es:List Expr}{t:TA}{ea:Addr}{oe:Obj}
def Yn (h:oe.cls=.ref C)(I:oe.dict=some dx)(o:oe.data=.fields vs):IC (X.held ea oe) ea C dx:={⟨oe,vs,za,h,I,o⟩}
end
def kT {K:AK}(X:K.In h)(q:Fi K C=true):
 ∃bm N nm o bs oN sn sub ab col dd k0 k1 U J I,h.get? C=some (excClassObj nm o C N bs bm oN sn sub ab col dd k0 k1 U J I "ValueError.__new__")/\OwnTail h QV bm:=by
 unfold Fi at q;rcases Bool.or_eq_true _ _ ▸ q with q | q
 . let{bm,N,nm,o,bs,sn,sub,ab,col,dd,k0,k1,U,J,I,mN,hC,_,T}:=Hm X q;show{3,3,3,3,3,3,3,3,hC,T}
 . let{bm,N,nm,o,bs,oN,sn,sub,ab,col,dd,k0,k1,U,J,I,mN,hC,3,T}:=aG X q;show{3,3,3,3,3,3,3,3,hC,T}
end L2
namespace L2
open PySem PyProof.Rows
end L2
namespace L2
open PySem PySem.Spec PyProof.Rows
open Builtin Builtin.Str in
def eQ (J:(y.length==0)=false)
 (I:∀l k,l.map (·.1)=Txt.split x y->Q (.ref s.heap.objs.size) { s with toks:=k,heap:=s.heap.push { cls:=.type "list",data:=.seq (strValues l).toArray } })
 (hsz:x.length<=sizeLine)(C:(Txt.split x y).length<=sizeLine):
 wpAny (model prog w) A (call (.builtin "str.split") [.str x t,.str y u]) Q E s:=by
 cases o:(decide (x.length<y.length) || decide (strKind x<strKind y))
 . cases hf:(occurrences x y 0 x.length (x.length+1)).isEmpty
   . let e:Txt.split x y=partsBetween x (occurrences x y 0 x.length (x.length+1)) y.length:=(if_neg (ne_true_of_eq_false o)).trans (if_neg (ne_true_of_eq_false hf));show call_meets F.slot_str_split (typeIs_str _ _ _) F.entry_str_split (F.args_str_split_2 _ _) (meets_str_split_sep x y t u o J hf hsz (e ▸ C)) ?_;change wants Q E _ { s with toks:=_,heap:=s.heap.push { cls:=.type "list",data:=.seq (strsFrom s.toks (partsBetween x (occurrences x y 0 x.length (x.length+1)) y.length)).toArray } };rw[strsFrom_eq];show I (numbered s.toks _) _ ((numbered_texts _ _).trans e.symm)
   . show call_meets F.slot_str_split (typeIs_str _ _ _) F.entry_str_split (F.args_str_split_2 _ _) (meets_str_split_not_found x y t u o J hf)
      (I [(x,t)] s.toks ((if_neg (ne_true_of_eq_false o)).trans (if_pos hf)).symm)
 . show call_meets F.slot_str_split (typeIs_str _ _ _) F.entry_str_split (F.args_str_split_2 _ _) (meets_str_split_cannot_occur x y t u o)
    (I [(x,t)] s.toks (if_pos o).symm)
def Y2:∀l,AN ((l.map (·.1)).map V.str) (strValues l)
 | []=>.nil
 | (x,t)::l=>.cons {t,0} (Y2 l)
inductive ZH (x:V)(vs:List V)(H:Hp)(Q:VK):Prop
 | mk:∀z y,(x=.str z)->(vs=[.str y])->((y.length==0)=false)->(z.length<=1000000)->(∀l,H l=none->Q (.ref l) (upd H l (.lst ((Txt.split z y).map V.str))))->ZH x vs H Q
def MY:V->List V->Hp->VK->Prop:=λx o H Q=>ZH x o H Q
def Oe:JJ X "str.split" MY:=by
 intro pins s σ H x xs v us Q I o r h;let{z,y,2,C,U,q}:=h;let{t,0}:=o;let{u,0,J,0}:=BL r;let f2:=(fact_split z y).2;let hl:1000002<=sizeLine:=by decide
 show eQ C (λl k e=>?_) () ();let hf:H s.heap.objs.size=none:=I.hok.fresh (zH _);show{.ref s.heap.objs.size,_,I.laid (t':=k) (λb u e=>zG _ e) (zH _) ?_,0,q _ hf};show⟨by rw[zB];lia,strValues l,0,?_,zM _ rfl⟩;rw[<-e];show Y2 l
def Rc:R2:=λx y H Q=>∃a b:Str,x=.str a/\y=.str b/\(a++b).length<=sizeLine/\Q (.str (a++b)) H
def Sj:BD X (binaryOp .Add) Rc:=by
 intro pins s σ H x y v u Q I U J h;let{a,b,2,hl,q}:=h;let{t,0}:=U;let{t',0}:=J;show P.add_str ?_;by_cases C:(a.length==0)=true
 . rw[if_pos C];rw[Str.append_left_empty C] at q;show{.str b,H,I,{1},q}
 rw[if_neg C];by_cases o:(b.length==0)=true
 . rw[if_pos o];rw[Str.append_right_empty o] at q;show{.str a,H,I,{1},q}
 rw[if_neg o];show{hl,.str _,H,I.tok _,{1},q}
inductive IJ (xs:List V)(H:Hp)(Q:VK):Prop
 | mk:∀z n,(xs=[.str z])->(intText? z=some n)->(z.length<=640)->(Q (.int n) H)->IJ xs H Q
def kQ:Bx X (.type "int") IJ:=by intro pins s σ H xs us Q I r h;let{z,n,0,o,C,q}:=h;let{u,0,t,0}:=BL r;show PySem.W.KIN.call_text o C {.int n,H,I.tok _,{1},q}
abbrev TJ:=St->Hp->Str->(Str->Hp->Prop)->Prop
def PJ (X:Cx)(es:List Expr)(t:TJ):Prop:=∀pins s σ H acc Q,AA X pins σ H s->t σ H acc Q ->
 Joins (model X.prog X.w) X.A X.xe (evalEach es X.env) acc (λout s1=>∃H',AA X pins σ H' s1/\Q out H') s
def Xf:TJ:=λ_ H acc Q=>Q acc H
def QK (te:TE)(t:TJ):TJ:=λσ H acc Q=>te σ H λv H1=>∃y,v=.str y/\(acc++y).length<=sizeLine/\t σ H1 (acc++y) Q
def ZD:PJ X [] Xf:=λ_ _ _ H _ _ I h=>⟨H,I,h⟩
def Hn (he:PE X e te)(C:PJ X es t):PJ X (e::es) (QK te t):=by intro pins s σ H acc Q I h;change wpAny (model X.prog X.w) X.A (eval e X.env) _ X.xe s;show AM (he pins s σ H _ I h) λv s1 ⟨x,H1,U,o,y,ex,J,q⟩=>?_;subst ex;let{t,0}:=o;show{y,t,0,J,C pins s1 σ H1 _ Q U q}
def mK (t:TJ):TE:=λσ H Q=>t σ H Str.empty λout H1=>out.length<=sizeLine/\Q (.str out) H1
def Iy (h:PJ X (e::e2::es) t):PE X (.JoinedStr (e::e2::es) pos) (mK t):=by intro pins s σ H Q I q;show wpAny_JoinedStr ?_;let:=h pins s σ H Str.empty _ I q;show joins_mono ?_ this;intro out s1 ⟨H',I',o,J⟩;show{o,.str out,H',I'.tok _,{1},J}
where joins_mono {M:Model}{A:Around}{E:Bt}:∀{ps:List (Sem Value)}{acc:Str}{Q C:Str->Shared->Prop}{s:Shared},(∀out s,Q out s->C out s)->Joins M A E ps acc Q s->Joins M A E ps acc C s
 | [],_,_,_,_,h,j=>h _ _ j
 | p::ps,acc,Q,C,s,h,j=>AM (show wpAny M A p _ E s from j) λv s1 ⟨y,t,ey,o,U⟩=>{y,t,ey,o,joins_mono h U}
def Xp (te:TE):TE:=λσ H Q=>te σ H λv H1=>∃i:Int,v=.int i/\i.natAbs.log2<1920/\Q (.str (Str.ofString (toString i))) H1
def TF (he:PE X e te):PE X (.FormattedValue e (-1) none pos) (Xp te):=by intro pins s σ H Q I h;show wpAny_FormattedValue_plain (AM (he pins s σ H _ I h) λv s1 ⟨x,H1,J,o,i,ex,C,q⟩=>?_);subst ex;let{t,0}:=o;show wpAny_formatField_int C {.str _,H1,J.tok _,{1},q}
def cG:∀{ys:List Str}{its:List Value},AN (ys.map V.str) its->StrsAre its ys
 | [],_,.nil=>.nil
 | _::_,_,.cons {_,e} r=>by subst e;show .cons _ _ (cG r)
inductive Xx (K:AK)(x:V)(vs:List V)(H:Hp)(Q:VK):Prop
 | mk:∀z l ys,(x=.str z)->(vs=[.ref l])->(AD K H l (ys.map V.str))->(z.length<=16)->((ys.map λy=>y.length).sum+ys.length<=1048576)->(Q (.str (Txt.join z ys)) H)->Xx K x vs H Q
def Q4 (K:AK):V->List V->Hp->VK->Prop:=λx o H Q=>Xx K x o H Q
def Jm:JJ X "str.join" (Q4 X.K):=by intro pins s σ H x xs v us Q I C r h;let{z,l,ys,2,hl,hz,hs,q}:=h;let{t,0}:=C;let{u,0,U}:=BL r;cases (show u=Value.ref l from U);let{its,J,{o,n,e1,e2,e3,e4},_}:=I.list hl;show join_listW ⟨o,e1,e2,n,e4⟩ (cG (by simpa using J)) hz hs λt' k=>{.str _,H,I.tok _,{1},q}
meta def Xl (z:Str):It:={λi _=>i<z.cps.size,λi H v H'=>H'=H/\∃c,z.cps[i]?=some c/\v=.str {#[c]},λi _=>z.cps.size<=i}
def Zm {P:Program}{w:World}{K:AK}{tg:Expr}(z:Str)(t:Tok)(it:Addr):
 IB P w K tg (Xl z) [it] it (λi h=>h.IsStrIter it "str_ascii_iterator" z t i\/h.IsStrIter it "str_iterator" z t i) where
 mem:=by simp
 obj:=λi h st b C=>by
  let e:b=it:=by simpa using C
  subst e;rcases st with ⟨o,e,c,d⟩ | ⟨o,e,c,d⟩
  . show{o,e,λv z=>by rw[d] at z;cases z}
  . show{o,e,λv z=>by rw[d] at z;cases z}
 keep:=λi h h' st k=>st.imp (λ⟨o,e,r⟩=>{o,k it (by simp) o e,r}) (λ⟨o,e,r⟩=>{o,k it (by simp) o e,r})
 item:=by
  intro X hP hw hK hc i pins s σ H E I hf st U;subst hP hw hK;let U:i<z.cps.size:=U;let{f0,f1,f2,f3,f4,f5}:=hf it (by simp);let J:z.cps[i]?=some z.cps[i]:=by simp[U]
  rcases st with st | st
  . show wpAny_pyNext_ascii_item st J λh' oB sb=>?_;let I1:AA X pins σ H { s with heap:=h',toks:=s.toks+1 }:=I.turned (λb o C e=>(sb.2 b C).trans e) f0 f1 f3 f4 f5;let{o,e,c,d}:=id oB;show{1,OY (s:={ s with heap:=h',toks:=s.toks+1 }) e c d (by decide) {.str {#[z.cps[i]]},H,I1,{1},{0,_,J,0},.inl oB,λb C=>(hf b C).1}}
  . show wpAny_pyNext_wide_item st J λh' oB sb=>?_;let I1:AA X pins σ H { s with heap:=h',toks:=s.toks+1 }:=I.turned (λb o C e=>(sb.2 b C).trans e) f0 f1 f3 f4 f5;let{o,e,c,d}:=id oB;show{1,OY (s:={ s with heap:=h',toks:=s.toks+1 }) e c d (by decide) {.str {#[z.cps[i]]},H,I1,{1},{0,_,J,0},.inr oB,λb C=>(hf b C).1}}
 done:=by
  intro X hP hw hK hc i pins s σ H E I hf st U;subst hP hw hK;let U:z.cps.size<=i:=U;let{f0,f1,f2,f3,f4,f5}:=hf it (by simp);let J:z.cps[i]?=none:=by simp[U]
  rcases st with st | st
  . show wpAny_pyNext_ascii_end (I.ok.hd hc) st J λh' eb=>{0,I.turned (t':=s.toks) (λb o C e=>eb b o C e) f0 f1 f3 f4 f5}
  . show wpAny_pyNext_wide_end (I.ok.hd hc) st J λh' eb=>{0,I.turned (t':=s.toks) (λb o C e=>eb b o C e) f0 f1 f3 f4 f5}
 self:=λA i s Q E st hQ=>by
  rcases st with st | st
  . show wpAny_pyIter_striter_ascii st hQ
  . show wpAny_pyIter_striter_wide st hQ
def XE (tl:TE):TI:=λσ H R=>tl σ H λv H1=>∃z,v=.str z/\R (Xl z) H1
def Kc (hl:PE X l tl):PI X tg l (XE tl):=by
 intro pins s σ H R I h;show AM (hl pins s σ H _ I h) λv s1 ⟨x,H1,C,U,q1⟩=>?_;let{z,e,q}:=q1;subst e;let{t,0}:=U;let fin:∀b∈[s1.heap.objs.size],EC X pins H1 b:=λb hb=>by
  let e:b=s1.heap.objs.size:=by simpa using hb
  subst e;show C.fpOk (zH _) (C.hok.fresh (zH _))
 cases J:z.cps.all (· < 128)
 . show wpAny_pyIter_wide J {s1.heap.objs.size,[s1.heap.objs.size],3,H1,0,C.kept (t':=s1.toks) λb o e=>zG _ e,Zm z t _,.inr {_,zM _ rfl,2},fin,q}
 . show wpAny_pyIter_ascii J {s1.heap.objs.size,[s1.heap.objs.size],3,H1,0,C.kept (t':=s1.toks) λb o e=>zG _ e,Zm z t _,.inl {_,zM _ rfl,2},fin,q}
def e7 (Pv:Nat->List V->Hp->Prop)(h0:Pv 0 [] (upd H1 D (.lst [])))(hz:∀i ys H,Pv i ys H->ys.length<sizeLine)
 (U:∀i c ys H,z.cps[i]?=some c->Pv i ys H->g (.str {#[c]}) (List.replicate own none++cv.map some) H λo H2=>(o.length=own+cv.length/\o.drop own=cv.map some) /\
  ti o H2 λb H3=>if b=true then te o H3 λy I=>I D=some (.lst ys)/\Pv (i+1) (ys++[y]) (upd I D (.lst (ys++[y]))) else Pv (i+1) ys H3)
 (hd:∀ys H,Pv z.cps.size ys H->Q (.ref D) H):
 Nd (Xl z) own cv g ti te D H1 Q:=by
 show{λi m ys H=>m=z.cps.size-i/\i<=z.cps.size/\Pv i ys H,{z.cps.size,0,zd _,h0},?_};rintro i m ys H ⟨rfl,hi,p⟩;by_cases C:i<z.cps.size
 . show .inr {C,hz i ys H p,Pv (i+1),λpI H' J=>{z.cps.size-(i+1),(),0,C,J},λx H' y=>?_};let{e,c,hc,ex}:=y;subst e;subst ex;show U i c ys _ hc p
 . let e:i=z.cps.size:=()
   subst e;show .inl {zH _,hd ys H p}
def Wd:V->Option Int->Option Int->Hp->VK->Prop:=λx lo hi H Q=>∃z:Str,x=.str z/\z.length<=sizeLine/\Q (.str (Txt.slice z lo hi)) H
def Zz (h:IsPart v o):∃l:Option (Int×Tok),v=partValue l/\l.map (·.1)=o:=by
 cases h with
 | none=>show{none,2}
 | int i t=>show{some (i,t),2}
def Ls:Xc X Wd:=by intro pins s σ H x v vl vu lo hi sl Q I o U C pu h;let{z,0,J,q}:=h;let{t,0}:=o;let{l,2}:=Zz C;let{u,2}:=Zz pu;show{"str",_,F.slot_str_getitem.lookup,typeIs_str _ _ _,wpAny_getItem_str_slice (l:=l) (u:=u) (st:=none) U rfl ?_};show post_val_or_str {zn (Txt.slice_le z _ _) J,λt' k=>{.str _,H,I.tok _,{1},q}}
section
variable {prog:Program}{w:World}{A:Around}{s0:Shared}{I l:Addr}{bs:List Bool}
def jP (hA:A.handled=none)(hI:s0.heap.objs.size<=I)(hl:s0.heap.IsList l (bs.map Value.bool).toArray)
 (hR:∀h C,Kp s0 h->R (.ok (.ret (.bool (bs.any id)))) { s0 with heap:=h,toks:=C }):
 ∀r j h C,bs.length-j=r->j<=bs.length->Kp s0 h->h.IsListIter I l j->(bs.take j).any id=false ->
  codeAny (model prog w) A (.builtin "any.loop" { pos:=[.ref I] }) R { s0 with heap:=h,toks:=C }:=by
 let nU:∀h,Kp s0 h->h.IsList l (bs.map Value.bool).toArray:=λh K=>by let{o,ho,U}:=hl;show{o,K _ _ ho,U}
 intro r
 induction r with
 | zero=>intro j h C hr hj K hit J;show codeAny_builtin PySem.F.entry_any_loop ?_;unfold Builtin.«any.loop»;show zA (wpAny_pyNext_list_end hA hit (nU h K) (by rw[Cr];show Ck (by rw[zB];lia)) λh' b=>?_);show zA (EM (zE ?_));rw[zR ()] at J;let:=hR h' C (K.but hI b);rwa[J] at this
 | succ r ih=>
  intro j h C hr hj K hit J;obtain⟨x,hx⟩:∃x,bs[j]?=some x:={_,zD ()};show codeAny_builtin PySem.F.entry_any_loop ?_;unfold Builtin.«any.loop»;show zA (wpAny_pyNext_list_item hit (nU h K) (x:=.bool x) (by rw[Cr,zO,hx];rfl) λh' nQ b=>?_);let K':Kp s0 h':=K.but hI λc o U e=>by rwa[b.2 c U]
  show zA (zy (Fh (zA (wpAny_letGo ?_))));cases x with
  | false=>show zE {0,?_};show ih (j+1) h' C () () K' nQ (by rw[zj,hx,List.any_append,J];rfl)
  | true=>show zA (EM (zE ?_));let e:bs.any id=true:=EE.mpr {true,zN hx,0};let:=hR h' C K';rwa[e] at this
end
inductive ID (K:AK)(xs:List V)(H:Hp)(Q:VK):Prop
 | mk:∀(p:Addr)(bs:List Bool),(xs=[.ref p])->(AD K H p (bs.map V.bl))->(Q (.bl (bs.any id)) H)->ID K xs H Q
def lS (hc:X.calm=true):Bx X (.builtin "any") (ID X.K):=by
 intro pins s σ H xs us Q I r h;let{p,bs,0,hq,q}:=h;let{u,0,J}:=BL r;cases J;let{its,U,C,hz}:=I.list hq;rw[WH U] at C;show B9 (codeAny_call_builtin PySem.F.plain_any PySem.F.entry_any (wpAny_of_eq (m':=pure Unit.unit) rfl (zE ?_)));unfold Builtin.any;show zA (wpAny_of_eq (m':=pure (Value.ref p)) rfl (zE (zA (Ho C.isList (zE {0,?_})))));show jP (s0:=s) (l:=p) (bs:=bs) (I.ok.hd hc) (zH _) C.isList ?_ bs.length 0 _ s.toks rfl (zd _) (λb o e=>zG _ e) ?_ rfl
 . show λh tk K=>{.bl _,H,I.kept K,0,q}
 . show{_,zM _ rfl,2}
inductive IH (xs:List V)(H:Hp)(Q:VK):Prop
 | mk:∀i:Int,(xs=[.int i])->(i.natAbs<1000000000000000)->(Q (.str (Str.ofString (toString i))) H)->IH xs H Q
def Yv:Bx X (.type "str") IH:=by intro pins s σ H xs us Q I r h;let{i,0,hi,q}:=h;let{u,0,o}:=BL r;let{t,0}:=o;show str_of_int_fit (N:=1000000000000000) (by split <;> lia) (by decide) λ_=>{.str _,H,I.tok _,{1},q}
def lJ:V->List V->Hp->VK->Prop:=λx o H Q=>∃z y:Str,x=.str z/\o=[.str y]/\Q (.bl (Txt.startswith z y)) H
def hJ:JJ X "str.startswith" lJ:=by intro pins s σ H x xs v us Q I C r h;let{z,y,2,q}:=h;let{t,0}:=C;let{u,0,o,0}:=BL r;show call_gives PySem.F.slot_str_startswith (typeIs_str _ _ _) PySem.F.entry_str_startswith (PySem.F.args_str_startswith_2 _ _) (gives_str_startswith z y t o) {.bl _,H,I,0,q}
end L2
namespace DG
open PySem PySem.W PySem.W.KIN PySem.NumText PyProof.Rows
structure Dg (z:Str):Prop where
 all:AllDigits z.cps.toList
 ne:z.cps.toList≠[]
 lead:z.cps.toList.head?=some 48->z.cps.toList=[48]
meta def dv (z:Str):Nat:=digitsVal z.cps.toList
def Fq {b:Str}(h:a.cps.toList=b.cps.toList):a=b:=by obtain⟨⟨x⟩⟩:=a;obtain⟨⟨y⟩⟩:=b;simp only at h;rw[h]
def SS (m):Dg (Str.ofString (toString ((m:Nat):Int))):=by
 let hd:AllDigits (Str.ofString (toString ((m:Nat):Int))).cps.toList:=by intro c C;rw[signs_num] at C;let{ch,I,e}:=zp.mp C;let r:=digit_range (Nat.isDigit_of_mem_toDigits (by decide) (by decide) I);rwa[<-e]
 let J:(Str.ofString (toString ((m:Nat):Int))).cps.toList≠[]:=by rw[signs_num];intro e;let h:=toDigits_len_ge 10 m;rw[List.map_eq_nil_iff.mp e] at h;show absurd h (by decide)
 show{hd,J,?_};rw[signs_num]
 induction m using Nat.strongRecOn with
 | _ m U=>
  intro o;by_cases h:m<10
  . rw[Ox h] at o ⊢;let:(Nat.digitChar m).toNat=48:=by simpa using o
    change [(Nat.digitChar m).toNat]=[48];rw[this]
  . let hm:m%10<10:=Nat.mod_lt m (by decide);let t:Nat.toDigits 10 (m/10)++Nat.toDigits 10 (m%10)=Nat.toDigits 10 (10*(m/10)+m%10):=Nat.toDigits_append_toDigits (by decide) () hm;rw[Nat.div_add_mod] at t;let hq:((Nat.toDigits 10 (m/10)).map Char.toNat).head?=some 48:=by
     rw[<-t,zQ] at o;cases e:(Nat.toDigits 10 (m/10)).map Char.toNat with
     | nil=>have h:=toDigits_len_ge 10 (m/10);rw[List.map_eq_nil_iff.mp e] at h;show absurd h (by decide)
     | cons a as=>rw[e] at o;simpa using o
    let i:=U (m/10) () (by
     intro c C;rw[signs_num] at C;let{ch,I,e}:=zp.mp C;let r:=digit_range (Nat.isDigit_of_mem_toDigits (by decide) (by decide) I);rwa[<-e]) (by
     rw[signs_num];intro e;let h:=toDigits_len_ge 10 (m/10);rw[List.map_eq_nil_iff.mp e] at h;show absurd h (by decide)) hq
    let v:=val_back (m/10);rw[i] at v;let:digitsVal [48]=0:=rfl
    lia
def M0 (m):dv (Str.ofString (toString ((m:Nat):Int)))=m:=by change digitsVal _=m;rw[signs_num,val_back]
def Dg.reads (h:Dg z)(o:z.length<=640):PySem.intText? z=some ((dv z:Nat):Int):=intText_digits h.all h.ne (zn o (by decide))
def Yr (h:¬ n<10):(Nat.toDigits 10 n).length=(Nat.toDigits 10 (n/10)).length+1:=by let hm:n%10<10:=Nat.mod_lt n (by decide);let t:Nat.toDigits 10 (n/10)++Nat.toDigits 10 (n%10)=Nat.toDigits 10 (10*(n/10)+n%10):=Nat.toDigits_append_toDigits (by decide) () hm;rw[Nat.div_add_mod] at t;rw[<-t,zT,Ox hm];rfl
def dJ:∀{m n:Nat},m<=n->(Nat.toDigits 10 m).length<=(Nat.toDigits 10 n).length:=by
 intro m n
 induction n using Nat.strongRecOn generalizing m with
 | _ n o=>
  intro h;let o:∀k,k<n->∀{m:Nat},m<=k->(Nat.toDigits 10 m).length<=(Nat.toDigits 10 k).length:=λk I m hm=>o k I hm;by_cases C:n<10
  . rw[Ox C,Ox (show m<10 by lia)];show zH _
  . rw[Yr C];by_cases hm:m<10
    . rw[Ox hm];change 1<=_
      lia
    . rw[Yr hm];let:=o (n/10) () (show m/10<=n/10 by lia)
      lia
def VT (m):(Str.ofString (toString ((m:Nat):Int))).length=(Nat.toDigits 10 m).length:=by change (Str.ofString (toString ((m:Nat):Int))).cps.size=_;rw[<-Array.length_toList,signs_num,zB]
end DG
namespace DG
open PySem PySem.StrLaws Builtin Builtin.Str
def WE :∀{p o r C:List Nat},c∉p->c∉o->p++c::r=o++c::C->p=o/\r=C
 | [],[],_,_,_,_,h=>{0,by simpa using h}
 | [],a::o,_,_,_,h2,h=>by
  let e:c=a:=by simpa using (List.cons.inj h).1
  show absurd (by rw[e];simp) h2
 | a::p,[],_,_,h1,_,h=>by
  let e:a=c:=by simpa using (List.cons.inj h).1
  show absurd (by rw[e];simp) h1
 | a::p,b::o,r,C,h1,h2,h=>by let{e,h'}:=List.cons.inj (show a::(p++c::r)=b::(o++c::C) from h);let{J,I}:=WE (λz=>h1 (by simp[z])) (λz=>h2 (by simp[z])) h';show{by rw[e,J],I}
def WC :(Str.join {#[c]} (p::q::r)).cps.toList=p.cps.toList++c::(Str.join {#[c]} (q::r)).cps.toList:=by change (p++({#[c]}:Str)++Str.join {#[c]} (q::r)).cps.toList=_;simp only[Str.cps_append,Array.toList_append];simp
def Y6 :∀{ws vs:List Str},ws≠[]->vs≠[]->(∀w∈ws,c∉w.cps.toList)->(∀w∈vs,c∉w.cps.toList)->Str.join {#[c]} ws=Str.join {#[c]} vs->ws=vs
 | [],_,h,_,_,_,_=>absurd rfl h
 | _,[],_,h,_,_,_=>absurd rfl h
 | [p],[q],_,_,_,_,e=>by rw[show p=q from e]
 | [p],q::o::r,_,_,f1,_,e=>by let e:=congrArg (λz:Str=>z.cps.toList) e;simp only[WC] at e;let e:p.cps.toList=q.cps.toList++c::(Str.join {#[c]} (o::r)).cps.toList:=e;show absurd (by rw[e];simp) (f1 p (by simp))
 | p::p2::r,[q],_,_,_,f2,e=>by let e:=congrArg (λz:Str=>z.cps.toList) e;simp only[WC] at e;let e:p.cps.toList++c::(Str.join {#[c]} (p2::r)).cps.toList=q.cps.toList:=e;show absurd (by rw[<-e];simp) (f2 q (by simp))
 | p::p2::r,q::o::r2,_,_,f1,f2,e=>by let e:=congrArg (λz:Str=>z.cps.toList) e;simp only[WC] at e;let{I,C}:=WE (f1 p (by simp)) (f2 q (by simp)) e;rw[Fq I,Y6 (by simp) (by simp) (λw hw=>f1 w (by simp[zS.mp hw])) (λw hw=>f2 w (by simp[zS.mp hw])) (Fq C)]
def Z1 (o:ws≠[])(hf:∀w∈ws,c∉w.cps.toList):Txt.split (Str.join {#[c]} ws) {#[c]}=ws:=by show Y6 (c:=c) ?_ o (λw hw=>split_free _ c w hw) hf (join_split _ _);intro e;let:=(PyProof.Rows.fact_split (Str.join {#[c]} ws) {#[c]}).1;rw[e] at this;show absurd this (by decide)
def j8 (h:Dg z):32∉z.cps.toList:=λhm=>by
 let:=h.all 32 hm
 lia
def Oi {k:Int}(h:0<=k):32∉(Str.ofString (toString k)).cps.toList:=by let{m,0}:=Gk h;show j8 (SS m)
meta def BU:Str:={#[59,32]}
def MC:Str.ofString "; "=BU:=by decide
def Oj (x:Str):x.length=x.cps.toList.length:=by rw[Array.length_toList];rfl
def dQ (J:x.cps.toList[k]?=some 59)(I:x.cps.toList[k+1]?=some 32):At x BU x.length k:=by let{o,U}:=zF.mp I;let{C,e1}:=zF.mp J;show{by let:=Oj x;change k+2<=x.length;lia,?_};change (x.cps.extract k (k+2)==(#[59,32]:Array Nat))=true;rw[beq_iff_eq];apply Array.toList_inj.mp;rw[Array.toList_extract];change (x.cps.toList.drop k).take (k+2-k)=[59,32];rw[show k+2-k=2 by lia,List.drop_eq_getElem_cons C,List.drop_eq_getElem_cons o,e1,U];rfl
def VA (I:∀k:Nat,x.cps.toList[k]?=some 59->x.cps.toList[k+1]?=some 32)(hb:b<=x.length)(J:∀k,a<=k->k<b->¬ At x BU x.length k):59∉(strSub x a b).cps.toList:=by
 intro hm;rw[strSub_toList] at hm;let{j,o}:=List.getElem?_of_mem hm;let C:j<b-a:=by
  let U:j<((x.cps.toList.drop a).take (b-a)).length:=(zF.mp o).1;simp at U
  lia
 rw[List.getElem?_take_of_lt C,List.getElem?_drop] at o;show J (a+j) () () (dQ o (I _ o))
def Zf (C:∀k:Nat,x.cps.toList[k]?=some 59->x.cps.toList[k+1]?=some 32):∀o a f,ChainG x BU x.length a o f->(∀k,f<=k->¬ At x BU x.length k)->∀p∈partsFrom x BU.length a o,59∉p.cps.toList
 | [],a,f,h,hn,p,hp=>by let e:f=a:=h;subst e;rw[zv.mp hp];show VA C (zH _) λk I _=>hn k I
 | d::r,a,f,h,hn,p,hp=>by
  rcases zS.mp hp with rfl | hp'
  . show VA C (by let:=h.2.1.1;lia) h.2.2.1
  . show Zf C r _ f h.2.2.2 hn p hp'
def Rg (x):¬ Str.strKind x<Str.strKind BU:=by
 let:Str.strKind BU=1:=by decide +kernel
 rw[this];unfold Str.strKind;split
 . lia
 . split <;> lia
def ic (o:∀k:Nat,x.cps.toList[k]?=some 59->x.cps.toList[k+1]?=some 32):∀p∈Txt.split x BU,59∉p.cps.toList:=by
 let{f,I,J}:=occ_tight x BU (by decide);unfold Txt.split;split
 . rename_i hc
   intro p C;rw[zv.mp C];intro hm;let{j,U}:=List.getElem?_of_mem hm;let hA:=dQ U (o _ U);rw[Bool.or_eq_true,KH,KH] at hc;rcases hc with h | h
   . let:=hA.1;lia
   . show Rg x h
 . split
   . rename_i he
     intro p C;rw[zv.mp C];let e0:occurrences x BU 0 x.length (x.length+1)=[]:=List.isEmpty_iff.mp he;rw[e0] at I;let ef:f=0:=I;subst ef;rw[<-sub_whole x];let oQ:∀k:Nat,x.cps.toList[k]?=some 59->x.cps.toList[k+1]?=some 32:=o;show VA oQ (zH _) λk h1 _=>J k h1
   . rw[partsBetween_eq];show Zf o _ 0 f I J
def SD :(Str.join BU (p::q::r)).cps.toList=p.cps.toList++59::32::(Str.join BU (q::r)).cps.toList:=by change (p++BU++Str.join BU (q::r)).cps.toList=_;simp only[Str.cps_append,Array.toList_append];simp[BU]
def Iu:∀{ws:List Str},(∀w∈ws,59∉w.cps.toList)->∀k:Nat,(Str.join BU ws).cps.toList[k]?=some 59->(Str.join BU ws).cps.toList[k+1]?=some 32
 | [],_,k,h=>by cases k <;> cases h
 | [p],f,k,h=>absurd (zN h) (f p (by simp))
 | p::q::r,f,k,h=>by
  rw[SD] at h ⊢;by_cases c:k<p.cps.toList.length
  . rw[zi c] at h;show absurd (zN h) (f p (by simp))
  . obtain⟨j,rfl⟩:∃j,k=p.cps.toList.length+j:={k-p.cps.toList.length,()};rw[zh (),show p.cps.toList.length+j-p.cps.toList.length=j by lia] at h;rw[zh (),show p.cps.toList.length+j+1-p.cps.toList.length=j+1 by lia]
    match j,h with
    | 0,_=>rfl
    | 1,h=>cases h
    | j+2,h=>show Iu (λw hw=>f w (by simp[zS.mp hw])) j h
def cX:∀{ws vs:List Str},ws≠[]->vs≠[]->(∀w∈ws,59∉w.cps.toList)->(∀w∈vs,59∉w.cps.toList)->Str.join BU ws=Str.join BU vs->ws=vs
 | [],_,h,_,_,_,_=>absurd rfl h
 | _,[],_,h,_,_,_=>absurd rfl h
 | [p],[q],_,_,_,_,e=>by rw[show p=q from e]
 | [p],q::o::r,_,_,f1,_,e=>by let e:=congrArg (λz:Str=>z.cps.toList) e;simp only[SD] at e;let e:p.cps.toList=q.cps.toList++59::32::(Str.join BU (o::r)).cps.toList:=e;show absurd (by rw[e];simp) (f1 p (by simp))
 | p::p2::r,[q],_,_,_,f2,e=>by let e:=congrArg (λz:Str=>z.cps.toList) e;simp only[SD] at e;let e:p.cps.toList++59::32::(Str.join BU (p2::r)).cps.toList=q.cps.toList:=e;show absurd (by rw[<-e];simp) (f2 q (by simp))
 | p::p2::r,q::o::r2,_,_,f1,f2,e=>by let e:=congrArg (λz:Str=>z.cps.toList) e;simp only[SD] at e;let{I,C}:=WE (f1 p (by simp)) (f2 q (by simp)) e;rw[Fq I,cX (by simp) (by simp) (λw hw=>f1 w (by simp[zS.mp hw])) (λw hw=>f2 w (by simp[zS.mp hw])) (Fq (List.cons.inj C).2)]
def km (o:ws≠[])(hf:∀w∈ws,59∉w.cps.toList):Txt.split (Str.join BU ws) BU=ws:=by show cX ?_ o (ic (Iu hf)) hf (join_split _ _);intro e;let:=(PyProof.Rows.fact_split (Str.join BU ws) BU).1;rw[e] at this;show absurd this (by decide)
end DG
namespace L2
open PySem PySem.Spec PyProof.Rows
def kP {prog:Program}{w:World}{A:Around}{it:Addr}{fp:List Addr}{n:Nat}{P:Nat->Value->Prop}{St:Nat->Heap->Prop}(c:Nat)(D:Draws prog w A it fp n P St):
 Draws prog w A it fp (n+c) (λj v=>∀i,j=i+c->P i v) (λj h=>∃i,j=i+c/\St i h) where
 live:=λ_ h ⟨i,_,st⟩=>D.live i h st
 frame:=λ_ h h' ⟨i,e,st⟩ k=>{i,e,D.frame i h h' st k}
 item:=λj s Q E hj ⟨i,e,st⟩ U=>D.item i s Q E () st λx h' o p I C=>U x h' o (λJ e'=>by obtain rfl:J=i:=();show p) {i+1,(),I} C
 done:=λs Q E ⟨i,e,st⟩ hE=>D.done s Q E (by obtain rfl:i=n:=();show st) hE
meta def E3 (c:Nat)(K:AK)(a:Addr):It:=
 {λi H=>∃xs x,AD K H a xs/\xs[i]?=some x,λi H x H'=>∃T v,x=.ref T/\H T=none/\H'=upd H T (.tup [.int ((i+c:Nat):Int),v])/\∀xs,AD K H a xs->xs[i]?=some v,λi H=>∃xs,AD K H a xs/\xs.length<=i}
def ju {c:Nat}{P:Program}{w:World}{K:AK}{elts:List Expr} {x1} {tp:Pos}(a e it:Addr):IB P w K (.Tuple elts x1 tp) (E3 c K a) [e,it] e (λi h=>(∃old,IsEnum h e it ((i+c:Nat):Int) old)/\h.IsListIter it a i/\e≠it/\a≠it/\a≠e) where
 mem:=by simp
 obj:=λi h st b hb=>by
  let{{old,he},{o,e1,c',d},_}:=st;rcases zS.mp hb with rfl | hb
  . show{_,he,λv z=>by cases z}
  . let e2:b=it:=by simpa using hb
    subst e2;show{o,e1,λv z=>by rw[d] at z;cases z}
 keep:=λi h h' st k=>by let{{old,he},{o,e1,r},ne}:=st;show{{old,k e (by simp) _ he},{o,k it (by simp) o e1,r},ne}
 item:=by
  intro X hP hw hK hc i pins s σ H E I hf st hg;subst hP hw hK;let{{old,he},hit,ne,C,J}:=st;let{xs,x,hq,hx}:=hg;let{its,rv,p,hz}:=I.list hq;let{u,hu,ru}:=rv.get hx;let elt:e<s.heap.objs.size:=zU he;let ilt:it<s.heap.objs.size:=by let{_,q,_}:=id hit;show zU q
  let mr:i<its.toArray.size:=by let:=(zF.mp hu).1;simpa using this
  show wpAny_pyNext_enum_itemD (kP c (Draws.list (A:=X.A.in1) (I.ok.hd hc) it a C its.toArray)) he {i,0,hit,p.isList} () ne (by simp;show{ne,λz=>J z.symm}) λy h' tk hy qT U hT hsz hk=>?_;let hyu:y=u:=by
   let h1:its[i]?=some y:=by simpa using hy i rfl
   rw[hu] at h1;show (zW h1).symm
  subst hyu;show{1,wpAny_letOwnedTupleGo_enum qT λh2 qm nh=>?_};let hT2:h2.get? s.heap.objs.size=some { cls:=.type "tuple",data:=.seq #[.int ((i+c:Nat):Int) tk,y] }:=(nh.2 _ (Nat.ne_of_gt elt)).trans hT;show{.ref s.heap.objs.size,upd H s.heap.objs.size (.tup [.int ((i+c:Nat):Int),x]),I.turnedLaid (t':=tk+1) (fp:=[e,it]) hf (λb o hb q=>?_) (zH _) ?_,0,{_,x,0,I.hok.fresh (zH _),0,λzs hzs=>by rwa[I.list_inj hzs hq]},{{y,?_},?_,ne,C,J},λb hb=>?_}
  . show (nh.2 b λz=>hb (by simp[z])).trans (hk b o (λz=>hb (by simp[z])) (λz=>hb (by simp[z])) q)
  . show{{CJ,_,hT2,0},[.int ((i+c:Nat):Int) tk,y],.cons {1} (.cons ru .nil),{_,hT2,6}}
  . let:=qm;rwa [show ((i+c:Nat):Int)+1=((i+1+c:Nat):Int) by lia] at this
  . let{i',e',{o,ho,r},_}:=U;obtain rfl:i'=i+1:=()
    show{o,(nh.2 it (Ne.symm ne)).trans ho,r}
  . rcases zS.mp hb with rfl | hb
    . rw[zY (zb elt)];show (hf _ (by simp)).1
    . let e2:b=it:=by simpa using hb
      subst e2;rw[zY (zb ilt)];show (hf _ (by simp)).1
 done:=by intro X hP hw hK hc i pins s σ H E I hf st hg;subst hP hw hK;let{{old,he},hit,ne,C,J}:=st;let{xs,hq,hx}:=hg;let{its,rv,p,hz}:=I.list hq;let{f0,f1,f2,f3,f4,f5}:=hf it (by simp);let hl:=rv.length;unfold pyNext;let hT:s.TypeIs (.ref e) "enumerate" := {_,he,0};show zA (Fo (F3 (name:=Str.ofString "__next__") hT PySem.F.slot_enumerate_next (Cq PySem.F.slot_enumerate_next hT PySem.F.entry_enumerate_next ?_ (PySem.F.args_enumerate_next_1 _))));change wpAny (model X.prog X.w) _ (field (.ref e) 2 >>= _) _ _ s;show zA (wpAny_field he rfl (x:=.ref it) rfl ?_);show zA (wpAny_nextOf_list_end (A:=X.A.in1) (I.ok.hd hc) hit p.isList (by simp;lia) λh' z eb hz'=>?_);let{o,ho,pz}:=hz';show zA (DV (T := "StopIteration") (b:=true) ⟨o,ho,pz⟩ isSubtype_stop (zE ?_));show{0,I.turned (t':=s.toks) (λb o hb e=>eb b o hb e) f0 f1 f3 f4 f5}
 self:=λ_ _ _ _ _ st h=>by let{{old,he},_}:=st;show wpAny_pyIter_enum he h
end L2
namespace L2
open PySem PySem.Spec PyProof.Rows
open AutoSeq1 (wpAny_loadPart')
def eR (l)(items)(n)(dct)(sl)(t:Tok):
 Meets (Builtin.«enumerate.__new__» {[.type "enumerate",.ref l],[(Str.ofString "start",.int 1 t)]}) (λ_ R s=>s.heap.get? l=some { cls:=.type "list",dict:=dct,data:=.seq items n,slots:=sl } /\
  R (.ok (.ret (.ref (s.heap.push { cls:=.type "list_iterator",data:=.fields #[.ref l,.int 0 0] }).objs.size)))
   { s with heap:=(s.heap.push { cls:=.type "list_iterator",data:=.fields #[.ref l,.int 0 0] }).push { cls:=.type "enumerate",data:=.fields #[.none,.bool false,.ref s.heap.objs.size,rawInt 1,.none,.none] } }):=
 .of_wp λprog w A R s h=>by
  let{U,g,d,J,os}:=s;let{o,h}:=h;let C:=sub_enumerate;let I:Heap.IsList (Shared.heap ⟨U,g,d,J,os⟩) l items:={_,o,0,n,0}
  wp_walk using wpAny_loadPart' o
  show wpAny_stack_any λst=>zE ?_;split
  . rename_i c _ _ _ _ _
    cases (c==Value.type "enumerate") <;> (wp_walk using wpAny_loadPart' o,Ho I;show{1,h})
  . wp_walk using wpAny_loadPart' o,Ho I
    show{1,h}
def jU (a v):checkTypeCall "enumerate" {[a],[(Str.ofString "start",v)]}=pure Unit.unit:=by kernel_rfl
def f9 (a v):checkBuiltinCall "enumerate.__new__" {[.type "enumerate",a],[(Str.ofString "start",v)]}=pure Unit.unit:=by kernel_rfl
def iY (o a v):argsOk "object.__init__" {[o,a],[(Str.ofString "start",v)]}:=by unfold argsOk;kernel_rfl
def gV (o a v):Meets (Builtin.«object.__init__» {[o,a],[(Str.ofString "start",v)]}) (λ_ R s=>s.TypeIs o "enumerate"/\R (.ok (.ret .none)) s):=by
 show Meets.of_wp λprog w A R s C=>?_;let{U,I}:=C;let J:=F.called_enumerate.init.lookup;let hm:=F.called_enumerate.made
 repeat (any_goals (first | assumption | wp_step))
 show{1,I}
def gF (hL:s.heap.IsList l items)
 (h:∀h',IsEnum h' (s.heap.objs.size+1) s.heap.objs.size 1 .none->h'.IsListIter s.heap.objs.size l 0->(∀b o,s.heap.get? b=some o->h'.get? b=some o)->Q (.ref (s.heap.objs.size+1)) { s with heap:=h' }):
 wpAny (model prog w) A (call (.type "enumerate") [.ref l] [(Str.ofString "start",.int 1 t)]) Q E s:=by
 let{{c,dct,dt,sl},ho,hc,n,hd}:=hL;obtain rfl:c=.type "list" := hc;obtain rfl:dt=.seq items n:=hd;let J:=F.called_enumerate;let{c,tl,hmro}:=J.mro;let hmade:=J.made;let hsub:=J.sub;let hct:=jU (.ref l) (.int 1 t);show B9 (codeAny_of_tree ?_);change wpAny _ _ (callAny (.type "enumerate") _) _ _ _;show zE {Code.quiet_builtin _ (by decide +kernel),codeAny_builtin F.entry_type_call ?_};rw[Around.under_plain (weight_type_call_type "enumerate" _ _) (units_type_call_type "enumerate" _ _)];let h1:=J.notType;let h2:=J.canCreate
 repeat (any_goals (first | assumption | wp_step))
 let hz:(s.heap.push { cls:=.type "list_iterator",data:=.fields #[.ref l,.int 0 0] }).objs.size=s.heap.objs.size+1:=Co ..;let he:IsEnum ((s.heap.push { cls:=.type "list_iterator",data:=.fields #[.ref l,.int 0 0] }).push { cls:=.type "enumerate",data:=.fields #[.none,.bool false,.ref s.heap.objs.size,rawInt 1,.none,.none] }) (s.heap.objs.size+1) s.heap.objs.size 1 .none:=by let g:=zM (s.heap.push { cls:=.type "list_iterator",data:=.fields #[.ref l,.int 0 0] }) (o:={ cls:=.type "enumerate",data:=.fields #[.none,.bool false,.ref s.heap.objs.size,rawInt 1,.none,.none] }) rfl;rwa [hz] at g
 let first:wants (λobj C=>C.TypeIs obj "enumerate"/\Q obj C) E (.ok (.ret (.ref (s.heap.push { cls:=.type "list_iterator",data:=.fields #[.ref l,.int 0 0] }).objs.size)))
  { s with heap:=(s.heap.push { cls:=.type "list_iterator",data:=.fields #[.ref l,.int 0 0] }).push { cls:=.type "enumerate",data:=.fields #[.none,.bool false,.ref s.heap.objs.size,rawInt 1,.none,.none] } }:=by
  change _/\_;rw[hz];show{{_,he,0},h _ he {_,zG _ (zM _ rfl),2} λb o x=>zG _ (zG _ x)}
 show codeAny_mono (codeAny_call_builtin J.plain F.entry_enumerate_new (PySem.wpAny_of_eq (f9 _ _) (eR l items n dct sl t prog w A.in1 _ s ⟨ho,first⟩))) λr C hr=>?_;cases r with
 | error e=>show hr
 | ok fl=>
  cases fl with
  | ret obj=>
   let hli:=J.init.lookup;let hbi:=J.init.bind obj;let hT:C.TypeIs obj "enumerate" := hr.1
   repeat (any_goals (first | assumption | wp_step))
   show codeAny_mono (codeAny_call_builtin J.init.plain F.entry_object_init (J.init.check _ _ _ _ _ _ _ _ hT (iY _ _ _) (gV obj _ _ prog w A.in1 (wants (λr U=>r=.none/\Q obj U) E) C {hT,0,hr.2}))) λr₂ U I=>?_;cases r₂ with
   | error e=>show I
   | ok fl₂=>
    cases fl₂ with
    | ret r=>
     let{0,hq}:=I
     repeat (any_goals (first | assumption | wp_step))
    | _=>show I.elim
  | _=>show hr.elim
def hO 
 (U:args.any (·.1)=false)(hk:keywords.any (·.1.isNone)=false)
 (h:wpAny M A (evalArgs (.type T) true args keywords) (λa o=>wpAny M A (call (.type T) ([]++a.pos) a.kw) Q E o) E s):wpAny M A (callWith pos (.type T) [] args keywords) Q E s:=by
 unfold callWith;show zA (zy (AM h λa o C=>zA (wpAny_standAt ?_)));simp only[U,hk,Bool.or_false];show zA (zE ?_);show zA (AM C λr I J=>zA (zy (wpAny_point (zE J))))
def Kw (c:Nat)(K:AK)(ta:TA):TI:=λσ H R=>ta σ H λo H1=>∃a,o=[.ref a]/\(∃xs,AD K H1 a xs)/\R (E3 c K a) H1
def Y8 {x1}  {ck} (hg:Gl X "enumerate") (hm:X.mg "enumerate"=none) (ha:PA X [a] ta)
 (J:autoParam (backTo pos (starEach [a] X.env)=(false,eval a X.env)::backTo pos (starEach [] X.env)) d_._auto_5)(nh:autoParam ((backTo pos (starEach [a] X.env)).any (·.1)=false) d_._auto_5):
 PI X (.Tuple elts x1 tp) (.Call (.Name "enumerate" p) [a] [{some "start",.Constant (.int 1) ck cp,kp}] pos) (Kw 1 X.K ta):=by
 intro pins s σ H R I h;show EN (Cp I hg hm boot_enumerate ?_);show hO nh rfl ?_;rw[J];show evalArgs_kwB rfl ?_;rw[<-J];show AM (ha pos pins s σ H _ I h) λus s1 ⟨vs,H1,I1,r1,q1⟩=>?_;let{l,e,{xs,hq},q}:=q1;subst e;let{u,0,rx}:=BL r1;cases rx;show kws_cons (wpAny_Constant_int (kws_nil ?_));let o:AA X pins σ H1 { s1 with toks:=s1.toks+1 }:=I1.tok _;let{its,rv,U,hz}:=o.list hq;show gF U.isList λh' he hit hk=>?_;show wpAny_pyIter_enum he ?_;let C:=U;let{ol,nl,el,_}:=C;let ll:l<s1.heap.objs.size:=zU el;show{s1.heap.objs.size+1,[s1.heap.objs.size+1,s1.heap.objs.size],3,H1,0,o.kept (t':=s1.toks+1) hk,ju (c:=1) l _ _,{{_,he},hit,Nat.succ_ne_self _,zb ll,zb (EJ ll)},λb hb=>?_,q};rcases zS.mp hb with rfl | hb
 . show o.fpOk (Ci _) (o.hok.fresh (Ci _))
 . let e2:b=s1.heap.objs.size:=by simpa using hb
   subst e2;show o.fpOk (zH _) (o.hok.fresh (zH _))
def bu {K:AK}{g:TG}{tb:TS}{D:Ec}(Pv:Nat->St->Hp->Prop)(h0:Pv 0 σ H)(hl:∀i σ H,i<=xs.length->Pv i σ H->AD K H a xs)
 (hs:∀i x σ H T,xs[i]?=some x->Pv i σ H->H T=none->g (.ref T) σ (upd H T (.tup [.int ((i+c:Nat):Int),x])) λo J=>tb { D with nx:=Pv (i+1),ct:=Pv (i+1),bk:=D.nx } o J)(hd:∀ σ H,Pv xs.length σ H->D.nx σ H):
 ∃W:Nat->Nat->St->Hp->Prop,(∃m,W 0 m σ H)/\∀i m σ H,W i m σ H ->
  ((E3 c K a).stop i H/\D.nx σ H)\/((E3 c K a).go i H/\∃N:St->Hp->Prop,(∀ C H',N C H'->∃m',m'<m/\W (i+1) m' C H')/\∀x H',(E3 c K a).yld i H x H'->g x σ H' λo J=>tb { D with nx:=N,ct:=N,bk:=D.nx } o J):=by
 show{λi m σ H=>i<=xs.length/\m=xs.length-i/\Pv i σ H,{_,zd _,0,h0},λi m σ H h=>?_};let{hi,0,I}:=h;let q:=hl i σ H hi I;by_cases U:i<xs.length
 . show .inr {{xs,xs[i],q,zD U},Pv (i+1),λC H' p'=>{xs.length-(i+1),(),U,0,p'},λx H' y=>?_};let{T,v,0,hT,0,hv}:=y;show hs i v σ H T (hv xs q) I hT
 . let e:i=xs.length:=()
   subst e;show .inl {{xs,q,zH _},hd σ H I}
end L2
namespace L2
open PySem PySem.Spec PyProof.Rows
open PySem.AutoSeq1 (wpAny_loadPart')
def Jw (P:Program)(w:World)(K:AK)(ca:Addr)(I:List (AO×V)):Prop:=
 (ca==sysModules)=false/\∃o es ep C,K.lookup ca=some o/\o.ExactDict/\o.data=.dict es ep/\KeysOf (As P w) es/\Pairs (As P w) es.toList C/\(C.map (·.1)).Nodup/\KV I C
def Jw.at (D:Jw X.prog X.w X.K ca mf)(I:AA X pins σ H s):∃vs,KV mf vs/\s.heap.DictOf (As X.prog X.w) ca vs:=by let{_,o,es,ep,vs,h1,h2,h3,h4,U,J,C}:=D;show{vs,C,o,es,ep,I.kIn ca o h1,h2,h3,h4,U,J}
def jb (hg:Gl X n)(hm:X.mg n=some (.ref ca))(D:Jw X.prog X.w X.K ca mf)(he:PE X e ty)(m:M1 X (.Name n p) "get" apos e mw) (pE:autoParam ((n==("__debug__" : Str))=false) d_._auto_2):
 PE X (.Call (.Attribute (.Name n p) "get" apos) [e] [] mw) (λσ H Q=>ty σ H λy H1=>∃k,y=kV k/\Q ((Ag mf k).getD .non) H1):=by
 intro pins s σ H Q I h;show wpAny_Call_method m.base m.few m.line PySem.F.plainAttrs_dict PySem.F.slot_dict_get PySem.F.type_dict_get (AM ((Fm (v:=.ref ca) hg hm rfl (hd:=pE)) pins s σ H (λx H1=>x=.ref ca/\H1=H) I {2}) λu s1 ⟨x,H1,I1,rx,ex,eH⟩=>?_);subst ex eH;obtain rfl:u=Value.ref ca:=rx;let{vs,_,J}:=D.at I1;show{J.typeIs,λb q=>?_,?_}
 . cases q;let{ob,3,h1,h2,_}:=J;show⟨ob,h1,h2.2.1⟩
 rw[m.trees];show Calls.callWith_builtin rfl (Calls.evalArgs_plain (Calls.spliced_cons (AM (he pins s1 σ H1 _ I1 h) λiv s2 ⟨y,H2,U,ry,k,ey,q2⟩=>Calls.spliced_nil ?_)));subst ey;let{C,rel,o}:=D.at U;let rn:AR .non Value.none:=rfl;let rr:AR ((Ag mf k).getD .non) ((valueAt C k).getD .none):=(rel.val k).getD rn;show call_meetsIn PySem.F.slot_dict_get o.typeIs PySem.F.entry_dict_get (PySem.F.args_dict_get_2 _ _) (meets_dict_get (As X.prog X.w) ca (Fj ry) D.1) {_,o.mapOf,{_,H2,U.tok _,rr,q2}}
end L2
namespace L2
open PySem PySem.Spec PyProof.Rows
open AutoSeq1 (wpAny_loadPart')
set_option maxRecDepth 100000
def kK {n:Nat}(hh:A.handled=none)(hr:IsRange s.heap r a b c t u v)(oF:Builtin.Range.small a b c=true)(hn:Builtin.Range.rangeSize a b c=n)(hlen:n<=2 ^ 24)
 (hQ:∀h' C acc,s.heap.objs.size<=h'.objs.size->(∀b o,s.heap.get? b=some o->h'.get? b=some o)->ItemsOf (λi v=>∃t,v=.int (a+i*c) t) acc n->Q acc.toList { s with heap:=h',toks:=C }):wpAny (model prog w) A (collect (.ref r)) Q E s:=by
 unfold collect;show zA (wpAny_runValue (codeAny_builtin F.entry_proto_collect ?_));rw[Around.under_plainId F.plain_proto_collect _];change wpAny _ A.in1 (newList [] >>= λl=>again (.builtin "list.__iadd__" {[l,.ref r],[]})) _ _ s;show zA (DW ?_);show zE {plainId_quiet F.plain_list_iadd _,codeAny_builtin F.entry_list_iadd ?_};rw[Around.under_plainId F.plain_list_iadd _];change wpAny _ A.in1 (Builtin.List.listExtendWith (.ref s.heap.objs.size) (.ref r) (.ref s.heap.objs.size)) _ _ _;let hS:(s.heap.push { cls:=.type "list",data:=.seq ([]:List Value).toArray }).get? s.heap.objs.size=some { cls:=.type "list",data:=.seq #[] 0 }:=zM _ rfl;let U:∀(h':Heap)(C:Nat)(I:Array Value)(J:Nat),(∀b o,b≠s.heap.objs.size->(s.heap.push { cls:=.type "list",data:=.seq ([]:List Value).toArray }).get? b=some o->h'.get? b=some o)->h'.get? s.heap.objs.size=some { cls:=.type "list",dict:=none,data:=.seq I J,slots:=#[] }->ItemsOf (λi v=>∃t,v=.int (a+i*c) t) I n ->
  wpAny (model prog w) A (match Value.ref s.heap.objs.size with
  | Value.ref a=>do
   match (<-load a).data with
    | Data.seq xs _=>pure xs.toList
    | _=>unsupported "internal:collect"
  | _=>unsupported "internal:collect") Q E { s with heap:=h',toks:=C }:=λh' C I J hk ng n8=>by
  change wpAny _ A (load s.heap.objs.size >>= _) _ _ _;show zA (wpAny_load ng (zE ?_));show hQ h' C I (F6 (zU ng)) (λb o e=>hk b o (zb (zU e)) (zG _ e)) n8
 show BB (wpAny_extend_range (A:=A) (R:=λr s'=>r=.ok (.ret (.ref s.heap.objs.size))/\∃(h':Heap)(C:Nat)(I:Array Value)(J:Nat),s'={ s with heap:=h',toks:=C }/\(∀b o,b≠s.heap.objs.size->(s.heap.push { cls:=.type "list",data:=.seq ([]:List Value).toArray }).get? b=some o->h'.get? b=some o)/\h'.get? s.heap.objs.size=some { cls:=.type "list",dict:=none,data:=.seq I J,slots:=#[] }/\ItemsOf (λi v=>∃t,v=.int (a+i*c) t) I n)
  (s:={ s with heap:=s.heap.push { cls:=.type "list",data:=.seq ([]:List Value).toArray } }) hh (zG _ hr) oF hn hlen s.heap.objs.size (.ref s.heap.objs.size) 0 hS λh' C I J hk ng n8=>{0,h',C,I,J,0,hk,ng,n8}) (λfin s' h=>?_) (λe s' h=>?_)
 . cases fin with
   | done f=>let{e,h',C,I,J,0,h1,h2,h3}:=h;cases e;show U h' C I J h1 h2 h3
   | again J=>show{h.1,codeAny_mono h.2 λr s'' hr=>by let{0,h',C,I,J,0,h1,h2,h3}:=hr;show U h' C I J h1 h2 h3}
 . show absurd h.1 (by simp)
def iu {n:Nat}(hh:A.handled=none)(hr:IsRange s.heap r a b c t u v)(oF:Builtin.Range.small a b c=true)(hn:Builtin.Range.rangeSize a b c=n)(hlen:n<=2 ^ 24)
 (h:∀(h':Heap)(C:Nat)(acc:Array Value),s.heap.objs.size<=h'.objs.size->(∀b o,s.heap.get? b=some o->h'.get? b=some o)->ItemsOf (λi v=>∃t,v=.int (a+i*c) t) acc n->Q₁ (.ref h'.objs.size) { s with heap:=h'.push { cls:=.type "tuple",data:=.seq acc },toks:=C }):
 codeAny (model prog w) A (.call (.builtin "tuple.__new__") {[.type "tuple",.ref r],[]}) (wants Q₁ E) s:=by
 show codeAny_of_tree ?_;change wpAny _ A.in1 (do checkBuiltinCall "tuple.__new__" {[.type "tuple",.ref r],[]};again (.builtin "tuple.__new__" {[.type "tuple",.ref r],[]})) _ _ s
 show zA (PySem.wpAny_of_eq (F.newCall_tuple_1 _) (zE {plainId_quiet F.plain_tuple_new _,codeAny_builtin F.entry_tuple_new ?_}));rw[Around.under_plainId F.plain_tuple_new _];let hsub:=sub_tuple_self;let I:=init_tuple_lookup;let hmh:=madeHere_tuple;let J:s.TypeIs (.ref r) "range" := {_,hr,0}
 wp_walk using DO J,kK (A:=A.in1) hh hr oF hn hlen
 intro h' C acc hz hk U;change wpAny _ _ (Builtin.Tuple.tupleExact acc.toList.toArray >>= λv=>ret v) _ _ _;unfold Builtin.Tuple.tupleExact;show zA (DW ?_ (by change acc.toList.toArray.size<=sizeLine;simp only[Array.toArray_toList];rw[U.1,sizeLine_eq];lia));show zE ?_;let e:acc.toList.toArray=acc:=by simp
 rw[e];show h h' C acc hz hk U
theorem l8 {n:Nat}(hh:A.handled=none)(hr:IsRange s.heap r a b c t u v)(oF:Builtin.Range.small a b c=true)(hn:Builtin.Range.rangeSize a b c=n)(hlen:n<=2 ^ 24)
 (hQ:∀(h':Heap)(tk:Nat)(acc:Array Value),s.heap.objs.size<=h'.objs.size->(∀b o,s.heap.get? b=some o->h'.get? b=some o)->ItemsOf (fun i v=>∃t,v=.int (a+i*c) t) acc n->Q (.ref h'.objs.size) { s with heap:=h'.push { cls:=.type "tuple",data:=.seq acc },toks:=tk }):
 wpAny (model prog w) A (call (.type "tuple") [.ref r]) Q E s:=by
 refine callType_codes (Q₁:=fun obj s₁=>s₁.TypeIs obj "tuple"/\Q obj s₁) F.called_tuple (F.typeCall_tuple_1 _) F.entry_object_init
  (iu hh hr oF hn hlen fun h' tk acc hz hk n8=>{{_,zM _ rfl,0},hQ h' tk acc hz hk n8}) fun obj s₁ h₁=>?_
 exact{h₁.1,F.args_object_init_2 obj _,object_init_meets F.called_tuple.init.lookup F.called_tuple.made (by decide) prog w A.in1 _ s₁ {h₁.1,0,h₁.2}}
def kW (ta:TA):TE:=λσ H Q=>ta σ H λo H1=>∃j:Int,o=[.int j]/\0<=j/\j<=1000/\∀l,H1 l=none->Q (.ref l) (upd H1 l (.tup ((WM.lowTo j.toNat).map V.int)))
def lK (hc:X.calm=true)(hgL:Gl X "tuple") (hmL:X.mg "tuple"=none) (hgR:Gl X "range") (hmR:X.mg "range"=none) (ha:PA X [a] ta)(hs:autoParam (starEach [a] X.env=[(false,eval a X.env)]) d_._auto_5)
 (he:autoParam (starEach [.Call (.Name "range" p2) [a] [] pos2] X.env=[(false,eval (.Call (.Name "range" p2) [a] [] pos2) X.env)]) d_._auto_5):PE X (.Call (.Name "tuple" p1) [.Call (.Name "range" p2) [a] [] pos2] [] pos1) (kW ta):=by
 intro pins s σ H Q I h;show EN (Cp I hgL hmL (by decide +kernel:bootBuiltins "tuple"=some (.type "tuple")) ?_ (by decide) (by decide));show PyProof.Rows.callWith_type1 ?_ he rfl;rw[he];show Calls.spliced_cons ?_;show Call_ (Cp I hgR hmR boot_range (PyProof.Rows.callWith_type1 (AM (ha pos2 pins s σ H _ I h) λus s1 ⟨vs,H1,I1,r1,q1⟩=>?_) hs rfl));let{j,e,h0,h1,q}:=q1;subst e;cases r1 with
 | cons r rr=>
  cases rr;let{t,0}:=r;show call_range_1 ?_;show Calls.spliced_nil ?_;let hz:Builtin.Range.rangeSize 0 j 1=(j.toNat:Int):=by rw[rangeSize_one];split <;> lia
  show l8 (I.ok.hd hc) (IsRange.new ..) (small_one () () () ()) hz () λh' tk acc U kp hI=>?_;let J:∀b o,s1.heap.get? b=some o->(h'.push { cls:=.type "tuple",data:=.seq acc }).get? b=some o:=λb o e=>zG _ (kp b o (zG _ e));let rv:AN ((WM.lowTo j.toNat).map V.int) acc.toList:=YY acc.toList _ (by rw[Array.length_toList];show hI.1) λi v hi=>hI.2 i v (by rw[<-hi,Array.getElem?_toList]);let C:s1.heap.objs.size<=h'.objs.size:=zn (by rw[Co];show Ci _) U;show{.ref _,_,I1.laid (t':=tk) J C (show Aj X.prog X.w _ (h'.push { cls:=.type "tuple",data:=.seq acc }) _ (.tup ((WM.lowTo j.toNat).map V.int)) from {{?_,_,zM _ rfl,0},acc.toList,rv,_,zM _ rfl,0,_,by rw[Array.toArray_toList]}),0,q _ (I1.hok.fresh C)};rw[zB,WM.lowTo,zB,Dr];let:sizeLine=16777216:=rfl
  lia
end L2
namespace L2
open PySem PySem.Spec PyProof.Rows
structure AE (K:AK)(mg:A2)(x:Str)(st:Stmt)(f:Addr)(fd:FuncData)(ps:List Str):Prop where
 F:BS K x x st f fd
 b:BC K fd ps []
 m:mg x=some (.ref f)
def AI {st:Stmt}(G:AF X.prog X.w X.K X.mg X.base AL k f fd ps sp)(I:Ap k X.A)(B:AE X.K X.mg x st f fd ps)(U:PA X (e::es) t)(J:autoParam (Gl X x) d_._auto_5)(o:autoParam ((x==("__debug__" : Str))=false) d_._auto_2)(he:autoParam (starEach (e::es) X.env=(false,eval e X.env)::starEach es X.env) d_._auto_5)(C:autoParam ((backTo pos (starEach es X.env)).any (·.1)=false) d_._auto_5):PE X (.Call (.Name x p) (e::es) [] pos) (Iv sp [] E0 t):=Nf G I J B.m B.F.kp B.b .nil DD U o he C
def BS.okD {K:AK}{st:Stmt}(F:BS K x qual st f fd)(S:zo N ps (defScope st))
 (C:∀o A outer s H vs Q E,Ap k (A.deeper (PyProof.Rows.envOfC qual (defScope st) s.heap.objs.size f o))->sp vs H Q E ->
  ∃t,CI (DU AL P w K mg base N qual (defScope st) f o A outer s H E).nox (defBody st) t/\t { nx:=λ_ H'=>Q .non H',rt:=Q } (start N vs) H)(len:autoParam (∀vs H Q E,sp vs H Q E->vs.length=ps.length) d_._auto_8):AF P w K mg base AL (k+1) f fd ps sp:=F.ok S len C
abbrev AH (P:Program)(w:World)(base:Heap){K:AK}{mg:A2}{x:Str}{st:Stmt}{f:Addr}{fd:FuncData}{ps:List Str}(k:Nat)(_:AE K mg x st f fd ps)(sp:Sp):Prop:=AF P w K mg base AL k f fd ps sp
abbrev Fu (K:AK)(x:Str)(st:Stmt)(f:Addr)(fd:FuncData):Prop:=BS K x x st f fd
def Az {i:Nat}(C:X.N.Nodup)(hi:autoParam (X.N[i]?=some x) d_._auto_5)(o:autoParam (Ig X.env.scope x) d_._auto_9)(hf:autoParam (X.fn x=true\/X.env.scope.names.lookup x=some .local) d_._auto_1):PG X (.Name x pos) (NO i):=Cb C hi o hf
def Bb (hi:PI X tg iter wi)(I:PG X tg g)(U:CI X body tb)(C:autoParam (PassesOwn (model X.prog X.w) X.A X.env X.xe) d_._auto_10)(J:autoParam (X.calm=true) d_._auto_5)(o:autoParam (∀x,foldedSetIterable iter X.env x=pure x) d_._auto_4):PS X (.For tg iter body [] pos) (QO wi g tb):=MM C J hi I U o
def AX (I:X.N.Nodup)(he:PE X e te)(hi:autoParam (X.N[i]?=some x) d_._auto_5)(o:autoParam (Ig X.env.scope x) d_._auto_9)(C:autoParam (swapsWith e (some (.Name x pos')) pos.line X.env=pure false) d_._auto_5)(hf:autoParam (X.fn x=true\/X.env.scope.names.lookup x=some .local) d_._auto_1):PS X (.Assign [.Name x pos'] e pos) (Hb te (NO i)):=Jy I hi o he C hf
def AJ (C:JQ X r)(J:PE X a ta)(I:PE X b tb)(o:autoParam (dA b) d_._auto_11):PE X (.Subscript a b pos) (QB r ta tb):=R0 C J I o
def An (C:autoParam (X.N.Nodup) d_._auto_12)(hi:autoParam (X.N[0]?=some x) d_._auto_5)(o:autoParam (Ig X.env.scope x) d_._auto_9)(hf:autoParam (X.fn x=true\/X.env.scope.names.lookup x=some .local) d_._auto_1):PG X (.Name x pos) (NO 0):=Cb C hi o hf
end L2
namespace K93
open PySem L2 WM
variable {P:Program}{w:World}{K:AK}{mg:A2}{base:Heap}{PT:Addr}{X:Cx}
inductive Gb {α0 α1:Type}(p:α0->α1->Prop):Prop
 | mk:∀a0 a1,p a0 a1->Gb p
inductive Nu {α0 α1 α2:Type}(p:α0->α1->α2->Prop):Prop
 | mk:∀a0 a1 a2,p a0 a1 a2->Nu p
inductive dr {α0 α1 α2 α3:Type}(p:α0->α1->α2->α3->Prop):Prop
 | mk:∀a0 a1 a2 a3,p a0 a1 a2 a3->dr p
inductive dq {α0 α1 α2 α3 α4:Type}(p:α0->α1->α2->α3->α4->Prop):Prop
 | mk:∀a0 a1 a2 a3 a4,p a0 a1 a2 a3 a4->dq p
inductive dh {α0 α1 α2 α3 α4 α5:Type}(p:α0->α1->α2->α3->α4->α5->Prop):Prop
 | mk:∀a0 a1 a2 a3 a4 a5,p a0 a1 a2 a3 a4 a5->dh p
inductive dR {α0 α1 α2 α3 α4 α5 α6:Type}(p:α0->α1->α2->α3->α4->α5->α6->Prop):Prop
 | mk:∀a0 a1 a2 a3 a4 a5 a6,p a0 a1 a2 a3 a4 a5 a6->dR p
meta abbrev WB:Stmt:=top 109
meta abbrev Jl:Stmt:=top 110
meta abbrev E8:Stmt:=top 111
meta abbrev Hr:Stmt:=top 10
meta abbrev LJ:Stmt:=top 11
meta abbrev D4:Stmt:=top 12
meta abbrev Es:Stmt:=top 13
meta abbrev Kd:Stmt:=top 14
meta abbrev Sg:Stmt:=top 42
meta abbrev Tf:Stmt:=top 43
meta abbrev Sb:Stmt:=top 44
meta abbrev O8:Stmt:=top 50
meta abbrev IA:Stmt:=top 23
meta abbrev ON:Stmt:=top 24
meta abbrev O2:Stmt:=top 28
meta abbrev Ow:Stmt:=top 27
meta abbrev Oc:Stmt:=top 26
meta abbrev D8:Stmt:=top 30
meta abbrev HZ:Stmt:=top 31
meta abbrev G0:Stmt:=top 64
meta abbrev Eo:Stmt:=top 65
meta abbrev G7:Stmt:=top 66
meta abbrev Hc:Stmt:=top 67
meta abbrev HL:Stmt:=top 68
meta abbrev HF:Stmt:=top 45
meta abbrev HC:Stmt:=top 48
meta abbrev NP:Stmt:=top 46
meta abbrev HX:Stmt:=top 49
meta abbrev Nc:Stmt:=top 54
meta abbrev Tc:Stmt:=top 55
meta abbrev UI:Stmt:=top 56
meta abbrev UA:Stmt:=top 57
meta abbrev UU:Stmt:=top 58
meta abbrev UM:Stmt:=top 59
meta abbrev Uc:Stmt:=top 60
meta abbrev UY:Stmt:=top 61
meta abbrev Ud:Stmt:=top 62
meta abbrev WU:Stmt:=top 112
meta abbrev G6:Stmt:=top 15
meta abbrev Ex:Stmt:=top 33
meta abbrev Sy:Stmt:=top 34
meta abbrev Sv:Stmt:=top 35
meta abbrev Tg:Stmt:=top 36
meta abbrev To:Stmt:=top 37
meta abbrev Th:Stmt:=top 38
meta abbrev SW:Stmt:=top 39
meta abbrev Ss:Stmt:=top 40
meta abbrev LH:Stmt:=top 16
meta abbrev Ui:Stmt:=top 17
meta abbrev RJ:Stmt:=top 89
meta abbrev Uj:Stmt:=top 90
meta abbrev Ub:Stmt:=top 91
meta abbrev UO:Stmt:=top 92
meta abbrev UX:Stmt:=top 93
meta abbrev UE:Stmt:=top 94
meta abbrev RD:Stmt:=top 95
meta abbrev RC:Stmt:=top 96
meta abbrev Qx:Stmt:=top 97
meta abbrev UB:Stmt:=top 78
meta abbrev RF:Stmt:=top 79
meta abbrev RX:Stmt:=top 80
meta abbrev N7:Stmt:=top 81
meta abbrev UZ:Stmt:=top 82
meta abbrev Tv:Stmt:=top 83
meta abbrev UN:Stmt:=top 84
meta abbrev Tw:Stmt:=top 85
meta abbrev UL:Stmt:=top 86
meta abbrev OB:Stmt:=top 87
meta abbrev US:Stmt:=mth 102 0
meta abbrev UK:Stmt:=mth 102 1
meta abbrev UH:Stmt:=mth 71 4
meta abbrev Tx:Stmt:=mth 71 5
meta abbrev UC:Stmt:=mth 71 0
meta abbrev UP:Stmt:=mth 2 0
meta abbrev D5:Stmt:=top 117
def DE (H:Hp)(t p:Addr)(N:Nat):Prop:=∃(ns:List Int)(o rest:Int),H t=some (.lst [.ref p,.int o,.int rest])/\H p=some (.lst (ns.map V.int))/\p≠t/\0<=o/\o<=N/\0<=rest/\ns.length<=63
def Af (H:Hp)(t:Addr)(N:Nat):Prop:=∃p:Addr,DE H t p N
def Af.mono (h:Af H t N)(l:N<=M):Af H t M:=by let{p,ns,o,rest,a,b,c,d,e,f}:=h;show{p,ns,o,rest,a,b,c,d,(),f}
def Sm (t:Addr)(H H':Hp):Prop:=∀b o,b≠t->H b=some o->H' b=some o
def Sm.trans (a:Sm t H H1)(b:Sm t H1 H2):Sm t H H2:=λc o n e=>b c o n (a c o n e)
def Sm.of (h:AG H H'):Sm t H H':=λb o _ e=>h b o e
def Sm.laid (h:H l=none):Sm t H (upd H l o):=λb u _ e=>by rwa[zY (zr e h)]
def Sm.chg (s:Sm t H H')(h:H l=none):Sm t H (upd H' l o):=λb u n e=>by rw[zY (zr e h)];show s b u n e
def zK (h:H l=none):AG H (upd H l o):=λb u e=>by rwa[zY (zr e h)]
def Bs (s:AG H H')(h:H l=none):AG H (upd H' l o):=λb u e=>by rw[zY (zr e h)];show s b u e
def Af.keep (h:Af H t N)(k:AG H H'):Af H' t N:=by let{p,ns,o,rest,a,b,c}:=h;show{p,ns,o,rest,k _ _ a,k _ _ b,c}
def Af.laid (h:Af H t N)(C:H l=none):Af (upd H l o) t N:=h.keep (zK C)
def Af.ne (h:Af H t N)(o:H b=none):b≠t:=by let{p,ns,C,rest,a,_}:=h;show (zr a o).symm
def Af.chg (h:Af H t N)(I:H l=some u)(C:∀xs,u ≠ .lst xs):Af (upd H l o) t N:=by let{p,ns,J,rest,a,b,c}:=h;show{p,ns,J,rest,by rwa[zY (Ac a I λz=>C _ z.symm)],by rwa[zY (Ac b I λz=>C _ z.symm)],c}
def DE.keepF (h:DE H t p N)(J:∀o,H t=some o->H' t=some o)(I:∀o,H p=some o->H' p=some o)(l:N<=M):DE H' t p M:=by let{ns,C,rest,a,b,c,d,e,f}:=h;show{ns,C,rest,J _ a,I _ b,c,d,(),f}
inductive ZW (vs:List V)(H:Hp)(Q:VK):Prop
 | mk:∀(t p:Addr)(N:Nat)(many:Int),(vs=[.ref t,.int many])->(DE H t p N)->(N<1000000)->(0<many)->(many<1000000)->(∀(r:Int)(H':Hp),0<=r->r<many->DE H' t p (N+1)->(∀b,b≠t->H' b=H b)->Q (.int r) H')->ZW vs H Q
def Vz:Sp:=λo H Q _=>ZW o H Q
def Vn:Sp:=λo H Q _=>∃t N many,o=[.ref t,.int many]/\Af H t N/\N<1000000/\0<many/\many<1000000 /\
 ∀r H',0<=r->r<many->Af H' t (N+1)->(∀b,b≠t->H' b=H b)->Q (.int r) H'
def Zw (K:AK):Sp:=λo H Q _=>∃a,∃(ns:List Int),o=[.ref a]/\AD K H a (ns.map V.int)/\ns.length<=63/\∀t H',H t=none->Af H' t 0->AG H H'->Q (.ref t) H'
def Lf:zo II II (defScope WB):=AQ
def i9 {fd:FuncData}(F:Fu K "_law_tape" WB f fd):AF P w K mg base AL 1 f fd II (Zw K):=by
 show F.okD Lf λ_ A _ _ H vs Q E hr h=>?_;let{a,ns,0,U,hl,k}:=h;show{_,zV (zt (Dc (zC (NY OF (pv 0) Ng (Nm zg)) (Aw (Aw zL))))),?_};show{4,a,1,U,λp J=>{HW,λt I=>?_}};let o:p≠t:=λe=>by rw[e,zJ] at I;cases I
 let e1:Fz (ns.map V.int) none (some 63)=(ns.take 63).map V.int:=by unfold Fz;rw[HT.sIx_none,List.drop_zero,Nat.sub_zero,zB,show (63:Int)=((63:Nat):Int) from rfl,HT.sIx_nat,List.map_take];rw[show min 63 ns.length=ns.length by lia,zR (by rw[zB];show zH _),zR (by rwa[zB])]
 let C:H t=none:=by rwa[zY o.symm] at I
 show k t _ C ⟨p,ns.take 63,0,0,zJ,?_,o,ER _,ER _,ER _,by rw[zl];lia⟩ ?_
 . rw[zY o,zJ,e1]
 . show Bs (zK J) C
def O4:zo ["_law_tape_here","_law_many","_law_found","_law_spot","_law_cell","_law_mixed"] JC (defScope Jl):=AQ
def Jj {m:Int}(h:0<m):0<=a%m/\a%m<m:={Int.emod_nonneg _ (),Int.emod_lt_of_pos _ h}
def U0 {fd:FuncData}(F:Fu K "_law_draw" Jl f fd) (mj:mg "len"=none):AF P w K mg base AL 1 f fd JC Vz:=by
 show F.okD O4 λ_ A _ _ H vs Q E hr h=>?_;let{t,p,N,many,0,T,hN,C,hm1,k}:=h;let{ns,I,rest,ht,hp,U,hs0,qd,hr0,hl}:=T;show{_,zP (AV (zu Gd (AJ Ar (pv 0) zg) zg (zx _))
  (zP (AX (i:=2) O4.nd (Ae Js (AJ Ar (pv 0) zg) (pv 1)))
  (zP (SH (Ae Te (AJ Ar (pv 0) zg) (pv 1)) (TV (pv 0) zg TX))
  (zV (zt (pv 2))))) zw)
  (zP (AX (i:=3) O4.nd (AJ Ar (pv 0) zg))
  (zP (SH (Ae C4 (pv 3) zg) (TV (pv 0) zg TX))
  (zP (AX (i:=4) O4.nd (NM (zu Gd (AZ Bq mj (zC (AJ Ar (pv 0) zg) zL)) zg (zx _))
   (AJ Ar (AJ Ar (pv 0) zg) (Ae Js (pv 3) (AZ Bq mj (zC (AJ Ar (pv 0) zg) zL)))) zg))
  (zP (AV (SA (zu IX (pv 4) (Ae Ki zg zg) (zx _)) (Sx (zu Oa (pv 3) (AZ Bq mj (zC (AJ Ar (pv 0) zg) zL)) (zx _)))).pt
   (zP (SH (Ae Te (pv 4) (pv 1)) (TV (pv 0) zg TX)) (zV (zt (Ae Js (pv 4) (pv 1))))) zw)
  (zP (AX (i:=5) O4.nd (Ae Js (Ae OO (Ae C4 (Ae Js (pv 4) zg) zg) (Ae C4 zg (Ae OO zg (pv 3)))) zg))
  (zV (zt (Ae Js (Ae Te (Ae Js (Ae OO (Ae C4 (pv 5) (Ae OO (Ae OO zg (pv 3)) (pv 3))) zg) zg) zg) (pv 1))))))))),?_}
 let cd:Q5 0 many:={C,()};show{1,t,_,5,AD.of ht,0,_,9,?_};show CP (λhc=>?_) (λhc=>?_)
 . let hpos:0<rest:=of_decide_eq_true hc;show{1,t,_,5,AD.of ht,6,5,C,?_};show{1,t,_,5,AD.of ht,6,5,cd,?_};show⟨_,rfl,t,_,_,2,rfl,rfl,ht,rfl,?_⟩;show{1,?_};show k _ _ (Jj C).1 (Jj C).2 {ns,I,rest/many,zJ,by rwa[zY U],U,hs0,(),Int.ediv_nonneg hr0 (),hl} λb J=>zY J
 . -- I=tape[1];tape[1]=I+1
   show{1,t,_,5,AD.of ht,0,?_};show⟨_,rfl,_,_,rfl,rfl,_,rfl,t,_,_,1,rfl,rfl,ht,rfl,?_⟩;let o:(upd H t (.lst [.ref p,.int (I+1),.int rest])) t=some (.lst [.ref p,.int (I+1),.int rest]):=zJ;let oj:(upd H t (.lst [.ref p,.int (I+1),.int rest])) p=some (.lst (ns.map V.int)):=by rwa[zY U]
   let ex:0<((ns.map V.int).length:Int)->∃c,CK (ns.map V.int) (I%((ns.map V.int).length:Int))=some (.int c):=λh=>by
    let J:=Jj (a:=I) h;let{j,hj}:=Gk J.1;let mr:j<ns.length:=by
     let h2:=J.2;rw[hj,zB] at h2
     lia
    show{ns[j],?_};rw[hj];show CA (by simp[mr])
   show{1,t,_,5,AD.of o,0,p,1,.inl (AD.of oj),_,9,?_};show CP (λh2=>?a) (λh2=>?b)
   case' a=>
    let{c,hc}:=ex (of_decide_eq_true h2);show{1,t,_,5,AD.of o,0,4,t,_,5,AD.of o,0,p,1,.inl (AD.of oj),5,of_decide_eq_true h2,p,_,5,AD.of oj,hc,?_}
   all_goals
    show{1,5,{by decide,by decide,by decide},_,9,?_};show CP (λh3=>?_) (λh3=>?_)
   all_goals first
    | (show{4,t,_,5,AD.of o,0,p,1,.inl (AD.of oj),_,9,?_};show CP (λh4=>?_) (λh4=>?_))
    | show Ax ?_
   all_goals first
    | (show⟨_,rfl,_,rfl,_,_,rfl,rfl,{C,()},_,rfl,t,_,_,2,rfl,rfl,o,rfl,?_⟩
       show{4,5,C,?_};show k _ _ (Jj C).1 (Jj C).2 {ns,I+1,_,zJ,by rwa[zY U],U,(),(),Int.ediv_nonneg (Int.le_trans (show (0:Int)<=10 ^ (18:Int).toNat by decide) (of_decide_eq_true h3)) (),hl} λb J=>by rw[zY J,zY J])
    | (show{1,5,(by first | decide | (dsimp only;decide)),_,9,5,.inl {by decide,by decide},5,5,.inl {(),()},5,(by first | decide | (dsimp only;decide)),?_}
       show{4,5,.inl {by decide,by decide},1,5,.inr {(),()},5,5,.inr {by decide,by decide},5,(by first | decide | (dsimp only;decide)),5,{by decide,by decide},1,5,C,?_};show k _ _ (Jj C).1 (Jj C).2 {ns,I+1,rest,o,oj,U,(),(),hr0,hl} λb J=>zY J)
def cz {fd:FuncData}(F:Fu K "_law_draw" Jl f fd) (o:mg "len"=none):AF P w K mg base AL 1 f fd JC Vn:=
 (U0 F o).imp λJ H Q E ⟨t,N,many,e,⟨p,T⟩,a,b,c,k⟩=>{t,p,N,many,e,T,a,b,c,λr H' h0 C I he=>k r H' h0 C ⟨p,I⟩ he}
def aH {L:List Int}{r:Int}(h0:0<=r)(C:r<L.length):∃n,n∈L/\CK (L.map V.int) r=some (.int n):=by
 let{j,0}:=Gk h0;let o:j<L.length:=()
 show{L[j],El o,CA (by simp[o])}
inductive dF (H:Hp)(wa:Addr)(n:Int)(ts:List T3):Prop
 | mk:∀(ta:Addr)(tys:List V),(H wa=some (.tup [.int n,.ref ta]))->(H ta=some (.tup tys))->(Am H tys (ts.map tl))->(GW n ts)->dF H wa n ts
def Ak (H:Hp)(o:Addr)(n:Int)(ts:List T3):Prop:=dF H o n ts
def Ak.keepT (h:Ak H wa n ts)(k:∀b ys,H b=some (.tup ys)->H' b=some (.tup ys)):Ak H' wa n ts:=by let{ta,tys,a,b,c,d}:=h;show{ta,tys,k _ _ a,k _ _ b,c.keep k,d}
def Ak.keep (h:Ak H wa n ts)(k:AG H H'):Ak H' wa n ts:=h.keepT λb _ e=>k b _ e
def Ak.sm (h:Ak H wa n ts)(T:Af H t N)(k:Sm t H H'):Ak H' wa n ts:=h.keepT λb _ e=>by let{p,ns,o,rest,a,_}:=T;show k b _ (Ac e a (by intro z;cases z)) e
def Iq:Sp:=λI H Q _=>∃t N n,I=[.ref t,.int n]/\Af H t N/\N<900000/\1<=n/\n<=24 /\
 ∀o C H',H o=none->Ak H' o n C->Du (C.map tl)->Af H' t (N+200)->Sm t H H'->Q (.ref o) H'
def JD (n:Int)(o:List (List AO×V)):Prop:=(∀kv∈o,∃a b l:Int,kv=([Sum.inl a,Sum.inl b],V.int l)/\0<=a/\a<b/\b<n/\1<=l/\l<=99)/\(o.map (·.1)).Nodup
def JD.nil (n):JD n []:={λ_ h=>by simp at h,List.nodup_nil}
def JD.put (h:JD n mf)(h0:0<=a)(h1:a<b)(h2:b<n)(h3:1<=l)(U:l<=99):JD n (Au mf [Sum.inl a,Sum.inl b] (.int l)):=by
 cases e:Ag mf [Sum.inl a,Sum.inl b] with
 | none=>
  show{λo C=>?_,Yl _ h.2 e};rw[YJ _ e] at C;rcases Bi.mp C with q | q
  . show h.1 o q
  . rw[zv.mp q];show{a,b,l,0,h0,h1,h2,h3,U}
 | some v=>
  let ha:(mf.any λo=>decide (o.1=[Sum.inl a,Sum.inl b]))=true:=by rw[Ft,e];rfl
  unfold Au;rw[if_pos ha];show{λo C=>?_,?_}
  . let{q,hq,I}:=zp.mp C;by_cases J:q.1=[Sum.inl a,Sum.inl b]
    . rw[if_pos J,J] at I;rw[<-I];show{a,b,l,0,h0,h1,h2,h3,U}
    . rw[if_neg J] at I;rw[<-I];show h.1 q hq
  . let e3:(mf.map λo=>if o.1=[Sum.inl a,Sum.inl b] then (o.1,V.int l) else o).map (·.1)=mf.map (·.1):=by
     rw[List.map_map];show List.map_congr_left λo _=>?_;change (if o.1=[Sum.inl a,Sum.inl b] then (o.1,V.int l) else o).1=o.1
     split <;> rfl
    rw[e3];show h.2
meta def mX:AO->Int
 | .inl i=>i
 | .inr _=>0
meta def FY (o:List (List AO×V)):List (List Int):=o.map λC=>C.1.map mX
def JD.keys (h:JD n mf):mf.map (·.1)=(FY mf).map (List.map Sum.inl):=by unfold FY;rw[List.map_map];show List.map_congr_left λC o=>?_;let{a,b,l,e,_}:=h.1 C o;rw[e];rfl
def JD.ne (h:JD n mf):∀k∈FY mf,k≠[]:=λk I=>by let{C,o,e}:=zp.mp I;let{a,b,l,J,_}:=h.1 C o;rw[<-e,J];simp[List.map]
def JD.nd (h:JD n mf):(FY mf).Nodup:=by let e:=h.2;rw[h.keys] at e;rw[List.Nodup,CM] at e;show e.imp λh o=>h (by rw[o])
def JD.val (h:JD n mf)(hk:k∈FY mf):∃a b l,k=[a,b]/\Ag mf [Sum.inl a,Sum.inl b]=some (.int l)/\0<=a/\a<b/\b<n/\1<=l/\l<=99:=by
 let{C,J,e}:=zp.mp hk;let{a,b,l,e2,h0,h1,h2,h3,h4}:=h.1 C J;let ek:k=[a,b]:=by rw[<-e,e2];rfl
 let hm:(mf.any λC=>decide (C.1=[Sum.inl a,Sum.inl b]))=true:=EE.mpr {C,J,zX (by rw[e2])};rw[Ft] at hm;cases o:Ag mf [Sum.inl a,Sum.inl b] with
 | none=>rw[o] at hm;cases hm
 | some v=>
  let I:=o;unfold Ag at o;cases hf:mf.find? λC=>decide (C.1=[Sum.inl a,Sum.inl b]) with
  | none=>rw[hf] at o;cases o
  | some q=>
   rw[hf] at o;let{a',b',U,e3,_,3,g3,g4}:=h.1 q (List.mem_of_find?_eq_some hf);let ev:v=.int U:=by rw[e3] at o;show (zW o).symm
   show{a,b,U,ek,by rw[I,ev],h0,h1,h2,g3,g4}
def jk (h:HT.lexLt [a',b'] [a,b]=false)(ne:¬ (a=a'/\b=b')):HT.lexLt [a',b',c'] [a,b,c]=false:=by
 rw[HT.lexLt_cons] at h ⊢;by_cases C:a'=a
 . subst C;simp only[HT.lexLt_cons] at h ⊢;by_cases o:b'=b
   . show absurd {0,o.symm} ne
   . simp_all
 . simp_all
def lT {ts:List T3}(h:Du (ts.map λt=>[t.1,t.2.1]))(d:ts.Pairwise λs t=>¬ (s.1=t.1/\s.2.1=t.2.1)):Du (ts.map tl):=by unfold Du at *;rw[CM] at *;show (h.and d).imp λ⟨x,y⟩=>jk x y
structure WI (H:Hp)(t d la:Addr)(n:Int)(N m:Nat)(H2:Hp):Prop where
 sm:Sm t H H2
 tp:Af H2 t N
 dc:∃mf,H2 d=some (.dT mf)/\JD n mf/\mf.length<=m
 lg:∃l0 l1 l2:Int,H2 la=some (.lst [.int l0,.int l1,.int l2])/\(∀l∈[l0,l1,l2],1<=l/\l<=99)
def WI.draw (h:WI H t d la n N m H2)(hd:d≠t)(C:la≠t)(T:Af H3 t (N+1))(he:∀b,b≠t->H3 b=H2 b):WI H t d la n (N+1) m H3:=by
 show{λb o nb e=>by rw[he b nb];show h.sm b o nb e,T,?_,?_}
 . rw[he d hd];show h.dc
 . rw[he la C];show h.lg
def WI.laid (h:WI H t d la n N m H2)(C:H2 l=none):WI H t d la n N m (upd H2 l o):=by let{I,a,b}:=h.dc;let{l0,U,J,c,e}:=h.lg;show{h.sm.trans (Sm.laid C),h.tp.laid C,{I,by rwa[zY (zr a C)],b},{l0,U,J,by rwa[zY (zr c C)],e}}
def WI.put (h:WI H t d la n N m H2)(o:H d=none)(hd:H2 d=some (.dT mf))(h0:0<=a)(h1:a<b)(h2:b<n)(h3:1<=l)(U:l<=99):
 WI H t d la n N (m+1) (upd H2 d (.dT (Au mf [Sum.inl a,Sum.inl b] (.int l)))):=by
 let{nW,e,j,hm}:=h.dc;rw[hd] at e;cases e;let{J,I,C,c,e}:=h.lg;show{h.sm.chg o,h.tp.chg hd (by intro xs z;cases z),{_,zJ,j.put h0 h1 h2 h3 U,?_},{J,I,C,by rwa[zY (Ac c hd (by intro z;cases z))],e}};let:=OP mf [Sum.inl a,Sum.inl b] (V.int l)
 lia
def WI.up (h:WI H t d la n N m H2)(C:N<=N')(hm:m<=m'):WI H t d la n N' m' H2:=by let{o,a,b,c}:=h.dc;show{h.sm,h.tp.mono C,{o,a,b,()},h.lg}
def dU (h:∀l∈[l0,l1,l2],1<=l/\l<=99)(h0:0<=r)(I:r<3):∃l,CK [V.int l0,V.int l1,V.int l2] r=some (.int l)/\1<=l/\l<=99:=by let{l,o,C}:=aH (L:=[l0,l1,l2]) h0 I;show{l,C,h l o}
def BV (h:n<=100000):n<sizeLine:=Em h (by decide)
def jx (h:JD n mf)(C:ms.Perm (FY mf))(hl:mf.length<64)(hn:1<=n)(o:n<=24)(e:ts.map (λt=>[t.1,t.2.1])=ms)(U:∀t∈ts,0<=t.1/\t.1<t.2.1/\t.2.1<n/\1<=t.2.2/\t.2.2<=99):GW n ts:=by
 let hlen:ts.length=mf.length:=by let:=C.length_eq;rw[<-e] at this;simpa [FY] using this
 show{hn,o,(),U,?_};let nd:(ts.map λt:T3=>[t.1,t.2.1]).Nodup:=by rw[e];show C.nodup_iff.mpr h.nd
 rw[List.Nodup,CM] at nd;show nd.imp λJ I=>J (by rw[I.1,I.2])
def Jh:zo ["_law_tape_here","_law_n","_law_longs","_law_joined","_law_b","_law_k","_law_a"] N2 (defScope E8):=AQ
def MI {fd:FuncData}(F:Fu K "_law_web" E8 f fd) (FD:AE K mg "_law_draw" Jl fD fdD JC) (mj:mg "len"=none)
 (mi:mg "range"=none) (mh:mg "tuple"=none) (mq:mg "sorted"=none):AF P w K mg base AL 2 f fd N2 Iq:=by
 let GD:AH P w base 1 FD Vn:=cz FD.F mj;show F.okD Jh λ_ A _ _ H vs Q E hr h=>?_;let{t,N,n,0,T,hN,qi,hn2,k}:=h;let hu:=TC hr;obtain⟨es,q0,q1,q2,j3,q3,q4,p1,p2,p3,hbd,pY⟩:∃es q0 q1 q2 j3 q3 q4 p1 p2 p3,defBody E8=.Assign [.Name "_law_longs" q0] (.Subscript (.List es p1) (.Call (.Name "_law_draw" q1) [.Name "_law_tape_here" q2,.Constant (.int 4) j3 q3] [] q4) p2) p3::(defBody E8).drop 1 /\
  OZ es [[1,1,1],[1,2,1],[1,2,3],[5,99,7]]:={3,3,3,3,7,.cons (.cons (.cons (.cons .nil))) HW (.cons (.cons (.cons (.cons .nil))) HW (.cons (.cons (.cons (.cons .nil))) HW (.cons (.cons (.cons (.cons .nil))) HW (.nil))))}
 rw[hbd];show{_,zP (AX (i:=2) Jh.nd (AJ Ar (Dc (ig pY))
  (AI GD hr FD (zC (pv 0) (Aw zL)))))
  (zP (Jy (i:=3) Jh.nd rfl (Or.inr rfl) lI)
  (zP (AV (zu Gd (AI GD hr FD (zC (pv 0) (Aw zL))) zg (zx _))
   (zV (Bb (YO rfl mi (Aw (zC (pv 1) zL))) (Az (i:=4) Jh.nd)
    (zV (Uz hu (pv 3) (BZ (zC (AI GD hr FD (zC (pv 0) (zC (pv 4) zL))) (zC (pv 4) zL)))
     (AJ Ar (pv 2) (AI GD hr FD (zC (pv 0) (Aw zL)))) rfl)))) zw)
  (zP (Bb (Dp rfl mi (zC (AI GD hr FD (zC (pv 0) (zC (Ae C4 (Ae C4 zg (pv 1)) (Ae Te (pv 1) zg)) zL))) zL)) (Az (i:=5) Jh.nd)
   (zP (AX (i:=6) Jh.nd (AI GD hr FD (zC (pv 0) (zC (pv 1) zL))))
   (zP (AX (i:=4) Jh.nd (AI GD hr FD (zC (pv 0) (zC (pv 1) zL))))
   (zV (AV (zu Oa (pv 6) (pv 4) (zx _)) (zV (Uz hu (pv 3) (BZ (zC (pv 6) (zC (pv 4) zL)))
    (AJ Ar (pv 2) (AI GD hr FD (zC (pv 0) (Aw zL)))) rfl)) zw)))))
  (zV (zt (BZ (zC (pv 1) (zC (BQ Cf mh (zC
   (A3 (own:=["_law_pair"]) (cn:=["_law_joined"]) (ci:=[3]) rfl (Aq rfl rfl) {8,trivial} rfl
    (C2 (AZ (gU rfl) mq (zC (pv 3) zL))) (λ_ _ _ _=>An) (λ_ _ _ _=>A8)
    (λ_ _ _ _=>BZ (zC (AJ CG (pv 0) zg) (zC (AJ CG (pv 0) zg) (zC (cK hu (pv 1) (pv 0) (λ_ _=>rfl)) zL))))) zL)) zL)))))))),?_}
 intro a1 e1 a2 I a3 e3 a4 e4;show{N3,λal el=>?_};let T5:=((((T.laid (o:=.lst [.int 1,.int 1,.int 1]) e1).laid (o:=.lst [.int 1,.int 2,.int 1]) I).laid (o:=.lst [.int 1,.int 2,.int 3]) e3).laid (o:=.lst [.int 5,.int 99,.int 7]) e4).laid (o:=.lst [.ref a1,.ref a2,.ref a3,.ref a4]) el;show⟨_,rfl,t,N,4,rfl,T5,(),by decide,by decide,λr H1 h0 h1 T1 he1=>?_⟩;let nel:al≠t:=((((T.laid (o:=.lst [.int 1,.int 1,.int 1]) e1).laid (o:=.lst [.int 1,.int 2,.int 1]) I).laid (o:=.lst [.int 1,.int 2,.int 3]) e3).laid (o:=.lst [.int 5,.int 99,.int 7]) e4).ne el;obtain⟨C,l0,l1,l2,hat,pk,hb,qB⟩:∃(C:Addr)(l0 l1 l2:Int),CK [V.ref a1,V.ref a2,V.ref a3,V.ref a4] r=some (.ref C)/\H1 C=some (.lst [.int l0,.int l1,.int l2])/\(∀l∈[l0,l1,l2],1<=l/\l<=99)/\C≠t:=by
  let n1:a1≠t:=T.ne e1;let n2:a2≠t:=(T.laid (o:=.lst [.int 1,.int 1,.int 1]) e1).ne I;let n3:a3≠t:=((T.laid (o:=.lst [.int 1,.int 1,.int 1]) e1).laid (o:=.lst [.int 1,.int 2,.int 1]) I).ne e3;let n4:a4≠t:=(((T.laid (o:=.lst [.int 1,.int 1,.int 1]) e1).laid (o:=.lst [.int 1,.int 2,.int 1]) I).laid (o:=.lst [.int 1,.int 2,.int 3]) e3).ne e4;let g1:H1 a1=some (.lst [.int 1,.int 1,.int 1]):=by rw[he1 a1 n1];show zK el _ _ (zK e4 _ _ (zK e3 _ _ (zK I _ _ zJ)))
  let g2:H1 a2=some (.lst [.int 1,.int 2,.int 1]):=by rw[he1 a2 n2];show zK el _ _ (zK e4 _ _ (zK e3 _ _ zJ))
  let g3:H1 a3=some (.lst [.int 1,.int 2,.int 3]):=by rw[he1 a3 n3];show zK el _ _ (zK e4 _ _ zJ)
  let g4:H1 a4=some (.lst [.int 5,.int 99,.int 7]):=by rw[he1 a4 n4];show zK el _ _ zJ
  let hr4:r=0\/r=1\/r=2\/r=3:=()
  rcases hr4 with rfl | rfl | rfl | rfl
  . show⟨a1,1,1,1,rfl,g1,by decide,n1⟩
  . show⟨a2,1,2,1,rfl,g2,by decide,n2⟩
  . show⟨a3,1,2,3,rfl,g3,by decide,n3⟩
  . show⟨a4,5,99,7,rfl,g4,by decide,n4⟩
 show{al,_,5,AD.of (by rw[he1 al nel];show zJ),hat,?_};let sm1:Sm t H H1:=λb o nb e=>by rw[he1 b nb];show zK el _ _ (zK e4 _ _ (zK e3 _ _ (zK I _ _ (zK e1 _ _ e))))
 intro d hd;let nd:d≠t:=T1.ne hd;let hd0:H d=none:=by
  cases q:H d with
  | none=>rfl
  | some o=>have:=sm1 d o nd q;rw[hd] at this;cases this
 let W0:WI H t d C n (N+1) 0 (upd H1 d (.dT [])):={sm1.chg hd0,T1.laid hd,{[],zJ,JD.nil n,zH _},{l0,l1,l2,by rw[zY (zr pk hd)];show pk,hb}};show⟨_,rfl,t,N+1,3,rfl,W0.tp,(),by decide,by decide,λr1 H2 _ _ T2 qm=>?_⟩;let W2:=W0.draw nd qB T2 qm;show{_,9,?_};show CP (λ_=>?a) (λ_=>?b)
 case' a=>
  show⟨_,rfl,1,n,rfl,{by decide,by decide,(),()},Hs (lo:=1) (n:=(n-1).toNat) (λi σ H3=>∃vb:Option V,σ=[some (.ref t),some (.int n),some (.ref C),some (.ref d),vb,none,none]/\WI H t d C n (N+2+2*i) i H3) {none,0,W2} ?turn ?after⟩
  case turn=>
   rintro i σ H3 hi ⟨vb,rfl,W⟩;let{m0,m1,m2,hm,hmb}:=W.lg;show⟨_,rfl,_,rfl,t,N+2+2*i,3,rfl,W.tp,(),by decide,by decide,λr3 H4 g0 g1 T4 he4=>?_⟩;let W4:=W.draw nd qB T4 he4;let{lg,hlg,hg1,hg2}:=dU hmb g0 g1;show{C,_,5,AD.of (by rw[he4 C qB];show hm),hlg,?_};show⟨_,rfl,_,rfl,_,rfl,t,N+2+2*i+1,1+i,rfl,W4.tp,(),(),(),λr5 H5 q0 q1 T5 he5=>?_⟩;let W5:=W4.draw nd qB T5 he5;show{1,CJ,λp hp=>?_};let W6:=W5.laid (o:=.tup [.int r5,.int (1+i)]) hp;let{mf,hk,J,hkl}:=W6.dc;show{d,1,Gs.t (k:=[Sum.inl r5,Sum.inl (1+(i:Int))]) hk zJ (BV ()),?_};show{1,(W6.put hd0 hk q0 q1 () hg1 hg2).up () ()}
  case' after=>
   rintro σ H3 ⟨vb,rfl,W⟩;let W3:WI H t d C n (N+50) 23 H3:=W.up () ()
 case' b=>
  let W3:WI H t d C n (N+50) 23 H2:=W2.up () ()
 all_goals
  show{4,_,9,5,{by decide,by decide},5,t,N+50,1,W3.tp,(),(),(),λr4 H4 p0 p1 T4 he4=>?_};let W4:=W3.draw nd qB T4 he4;show{r4,0,(),(),Hs (lo:=0) (n:=r4.toNat) (λi σ H5=>Nu λ(vb vk va:Option V)=>σ=[some (.ref t),some (.int n),some (.ref C),some (.ref d),vb,vk,va]/\WI H t d C n (N+51+3*i) (23+i) H5) {_,7,W4} ?turn2 ?after2}
  case turn2=>
   rintro i σ H5 hi ⟨vb,vk,va,rfl,W⟩;show{4,t,N+51+3*i,n,0,W.tp,(),(),(),λa U a0 a1 T6 he6=>?_};let W6:=W.draw nd qB T6 he6;show{4,t,N+51+3*i+1,n,0,W6.tp,(),(),(),λb H7 b0 b1 T7 he7=>?_};let W7:=W6.draw nd qB T7 he7;show{4,_,9,?_};show CP (λhc=>?_) (λhc=>?_)
   . let qU:a<b:=of_decide_eq_true hc;let{m0,m1,m2,hm,hmb}:=W7.lg;show⟨_,rfl,_,rfl,t,N+51+3*i+1+1,3,rfl,W7.tp,(),by decide,by decide,λr3 H8 g0 g1 T8 he8=>?_⟩;let W8:=W7.draw nd qB T8 he8;let{lg,hlg,hg1,hg2}:=dU hmb g0 g1;show{C,_,5,AD.of (by rw[he8 C qB];show hm),hlg,?_};show{1,4,CJ,λp hp=>?_};let W9:=W8.laid (o:=.tup [.int a,.int b]) hp;let{mf,hk,J,hkl}:=W9.dc;show{d,1,Gs.t (k:=[Sum.inl a,Sum.inl b]) hk zJ (BV ()),?_};show{_,7,(W9.put hd0 hk a0 qU b1 hg1 hg2).up () ()}
   . show{_,7,W7.up () ()}
  case after2=>
   rintro σ H5 ⟨vb,vk,va,rfl,W⟩;let{mf,hk,J,hkl}:=W.dc;let hk64:mf.length<64:=()
   show{4,d,mf,FY mf,0,hk,J.keys,J.ne,by rw[FY,zB];show hk64,λl zs ms hl TA hp hris=>?_};show{l,0,{_,AD.of zJ},[.ref d],0,λD hD=>?_};let hlz:=TA.length;let hlm:ms.length=mf.length:=by rw[hp.length_eq,FY,zB]
   let nlD:l≠D:=λe=>by rw[<-e,zJ] at hD;cases hD
   let hk1:(upd H5 l (.lst zs)) d=some (.dT mf):=zK hl _ _ hk;let oU:H5 D=none:=by rw[zY nlD.symm] at hD;show hD
   show Jp (a:=l) (xs:=zs) (λi ys U=>∃ts:List T3,ts.length=i/\ts.map (λt:T3=>[t.1,t.2.1])=ms.take i/\(∀t∈ts,0<=t.1/\t.1<t.2.1/\t.2.1<n/\1<=t.2.2/\t.2.2<=99)/\U D=some (.lst ys)/\Am U ys (ts.map tl)/\AG (upd H5 l (.lst zs)) U)
    {[],2,λ_ h=>by simp at h,zJ,trivial,zK hD} (λi ys U h=>?_) (λi ys U h=>?_) (λi x ys U hx h=>?_) (λys U h=>?_)
   . let{3,3,3,s6}:=h;show AD.of (s6 _ _ zJ)
   . let{ts,e1,I,3,T6,_}:=h;let e3:=T6.length;rw[zB] at e3;let e4:=congrArg List.length I;rw[zB,zl] at e4;show BV ()
   . let{ts,e1,I,hts,pb,T6,s6}:=h;let{pa,kx,ex,hkx,nK,_}:=TA.get hx;subst ex;let hpa6:U pa=some (.tup (kx.map V.int)):=s6 _ _ (zK hl _ _ nK);let{a,b,lg,ek,hv,a0,ab,bn,lg1,lg2}:=J.val (hp.mem_iff.mp (zN hkx));subst ek;show{{2},?_};show A9 ?_;show{1,pa,_,5,AB.of hpa6,6,pa,_,5,AB.of hpa6,0,4,d,1,hv ▸ DJ.t (k:=[Sum.inl a,Sum.inl b]) (s6 _ _ hk1) hpa6,HW,λp hp6=>?_};let nDp:D≠p:=zr pb hp6;show{by rw[zY nDp];show pb,ts++[(a,b,lg)],by rw[zT,e1];rfl,?_,?_,zJ,?_,?_}
     . rw[zQ,I,zj,hkx];rfl
     . intro t ht;rcases Bi.mp ht with q | q
       . show hts t q
       . rw[zv.mp q];show⟨a0,ab,bn,lg1,lg2⟩
     . rw[zQ];show (T6.keep λc xs e=>?_).snoc {p,0,by rw[zY nDp.symm,zJ];rfl,by simp[tl]};rw[zY (Ac e pb (by intro z;cases z)),zY (zr e hp6)];show e
     . show Bs (s6.trans (zK hp6)) hD
   . let{ts,e1,I,hts,pb,T6,s6}:=h;show{D,ys,0,.inl {AD.of pb,λta pB=>?_}};show{CJ,λwa nI=>?_};rw[hlz,zR (zH _)] at I;let G:GW n ts:=jx J hp hk64 qi hn2 I hts;let nwt:wa≠ta:=λe=>by rw[e,zJ] at nI;cases nI
     let h6wa:U wa=none:=by rw[zY nwt] at nI;show nI
     let s7:AG U (upd (upd U ta (.tup ys)) wa (.tup [.int n,.ref ta])):=Bs (zK pB) h6wa;let T7:Af (upd (upd U ta (.tup ys)) wa (.tup [.int n,.ref ta])) t (N+200):=((W.tp.mono ()).keep ((zK hl).trans (s6.trans s7)));let nwa:wa≠t:=((W.tp.keep ((zK hl).trans s6)).ne h6wa);let sm7:Sm t H (upd (upd U ta (.tup ys)) wa (.tup [.int n,.ref ta])):=W.sm.trans (Sm.of ((zK hl).trans (s6.trans s7)));show k wa ts _ ?_ {ta,ys,zJ,by rw[zY nwt.symm,zJ],T6.keep λc xs e=>s7 _ _ e,G} (lT (by rw[I];show hris) G.dis) T7 sm7;cases q:H wa with
     | none=>rfl
     | some o=>have:=(W.sm.trans (Sm.of ((zK hl).trans s6))) wa o nwa q;rw[h6wa] at this;cases this
def BX {q:Prop}(h:c=true)(o:p):(if c=true then p else q):=by rwa[if_pos h]
def AU {q:Prop}(h:c=false)(o:q):(if c=true then p else q):=by rw[if_neg (by simp[h])];show o
inductive cm (vs:List V)(H:Hp)(Q:VK):Prop
 | mk:∀(wa:Addr)(n:Int)(ts:List T3)(p:Int),(vs=[.ref wa,.int p])->(Ak H wa n ts)->(∀(l:Addr)(zs:List V)(ms:List (List Int))(H':Hp),AG H H'->H l=none->H' l=some (.lst zs)->Am H' zs ms->ms.Perm (fd p ts)->Du ms->Q (.ref l) H')->cm vs H Q
def O0:Sp:=λo H Q _=>cm o H Q
def O3:zo ["web","place","found","a","b","long"] IF (defScope IA):=AQ
def TN (F:Fu K "ties_at" IA f ml) (mq:mg "sorted"=none):AF P w K mg base AL 1 f ml IF O0:=by
 show F.okD O3 λ_ A _ _ H vs Q E hr h=>?_;let{wa,n,ts,p,0,{ta,tys,nI,pB,TA,G},k}:=h;show{_,zP (AX (i:=2) O3.nd (Dc zL))
  (zP (Bb (BP (AJ AS (pv 0) zg)) (EU rfl (Ai (Az (i:=3) O3.nd) (Ai (Az (i:=4) O3.nd) (Ai (Az (i:=5) O3.nd) Cj))))
   (zP (AV (zu A1 (pv 3) (pv 1) (zx _)) (zV (Dh (Bp PySem.F.plainAttrs_list PySem.F.slot_list_append PySem.F.type_list_append Nh (pv 2) (zC (BZ (zC (pv 4) (zC (pv 5) zL))) zL)))) zw)
   (zV (AV (zu A1 (pv 4) (pv 1) (zx _)) (zV (Dh (Bp PySem.F.plainAttrs_list PySem.F.slot_list_append PySem.F.type_list_append Nh (pv 2) (zC (BZ (zC (pv 3) (zC (pv 5) zL))) zL)))) zw))))
  (zV (zt (AZ gA mq (zC (pv 2) zL))))),?_}
 show{zd _,λl hl=>?_};let hwl:wa≠l:=zr nI hl;let htl:ta≠l:=zr pB hl;let mr:tys.length=ts.length:=by rw[TA.length,zB]
 show{1,wa,_,5,AB.of (by rwa[zY hwl]),0,ta,0,{_,AB.of (by rwa[zY htl])},Ve (K:=K) (a:=ta) (xs:=tys)
  (λi σ U=>dr λ(va vb vl:Option V)(xs:List V)=>σ=[some (.ref wa),some (.int p),some (.ref l),va,vb,vl]/\AG H U/\U l=some (.lst xs)/\Am U xs (fd p (ts.take i)))
  {none,none,none,[],0,zK hl,zJ,trivial} (λi σ U _ ⟨_,_,_,_,_,s2,_⟩=>AB.of (s2 _ _ pB)) ?turn ?after}
 case turn=>
  rintro i y σ U hi ⟨va,vb,vl,xs,rfl,s2,J,T2⟩;let{ya,ky,0,oJ,pA,_}:=TA.get hi;rw[zO] at oJ;obtain⟨⟨a,b,c⟩,hti,rfl⟩:∃t:T3,ts[i]?=some t/\tl t=ky:=by
   cases e:ts[i]? with
   | none=>rw[e] at oJ;cases oJ
   | some t=>rw[e] at oJ;show{t,0,zW oJ}
  let hil:i<ts.length:=(zF.mp hti).1;let hlen:∀{C:List V}{H3:Hp},Am H3 C (fd p (ts.take i))->C.length<sizeLine:=λT=>by let e1:=T.length;let e2:=SR (n:=n) p (ts:=ts.take i) λt ht=>(G.rng t (List.mem_of_mem_take ht)).2.1;rw[zl] at e2;show BV (by let:=G.len;lia)
  let hfd:fd p (ts.take (i+1))=fd p (ts.take i)++((if a=p then [[b,c]] else [])++(if b=p then [[a,c]] else [])):=by
   rw[zj,hti,cT];change _++((if a=p then [[b,c]] else [])++(if b=p then [[a,c]] else [])++[])=_
   rw[Bl]
  let qU:a<b:=(G.rng _ (zN hti)).2.1;show{ya,1,AB.of (s2 _ _ pA),0,7,7,5,?_};let app:∀{x:Int},∀q,U q=none->∃C,(upd (upd U q (.tup [.int x,.int c])) l (.lst (xs++[.ref q]))) l=some (.lst C)/\AG H (upd (upd U q (.tup [.int x,.int c])) l (.lst (xs++[.ref q])))/\Am (upd (upd U q (.tup [.int x,.int c])) l (.lst (xs++[.ref q]))) C (fd p (ts.take i)++[[x,c]]):=by intro x q hq;let I:l≠q:=zr J hq;show{_,zJ,Bs (s2.trans (zK hq)) hl,(T2.keep λe ys he=>?_).snoc {q,0,by rw[zY I.symm,zJ];rfl,by simp}};rwa[zY (Ac he J (by intro z;cases z)),zY (zr he hq)]
  show{1,9,?_};show CP (λh1=>?_) (λh1=>?_)
  . let e1:a=p:=by let:=of_decide_eq_true h1;injection this
    let n2:¬ b=p:=()
    show{1,.inl {0,_,AD.of J},4,CJ,λq hq=>?_};let I:l≠q:=zr J hq;show{l,5,by rwa[zY I],hlen T2,?_};show{1,9,?_};rw[show decide (V.int b=V.int p)=false from ze λe=>n2 (by injection e)];show Ax ?_;let{C,g1,g2,g3}:=app (x:=b) q hq;show{_,3,C,0,g2,g1,?_};rwa[hfd,if_pos e1,if_neg n2]
  . let n1:¬ a=p:=λe=>by let:=h1;rw[e] at this;show this (zX rfl)
    show{1,9,?_};show CP (λh2=>?_) (λh2=>?_)
    . let e2:b=p:=by let:=of_decide_eq_true h2;injection this
      show{1,.inl {0,_,AD.of J},4,CJ,λq hq=>?_};let I:l≠q:=zr J hq;show{l,5,by rwa[zY I],hlen T2,?_};let{C,g1,g2,g3}:=app (x:=a) q hq;show{_,3,C,0,g2,g1,?_};rwa[hfd,if_neg n1,if_pos e2]
    . let n2:¬ b=p:=λe=>by let:=h2;rw[e] at this;show this (zX rfl)
      show{_,3,xs,0,s2,J,?_};rwa[hfd,if_neg n1,if_neg n2,Bl,Bl]
 case after=>
  rintro σ U ⟨va,vb,vl,xs,rfl,s2,J,T2⟩;rw[mr,zR (zH _)] at T2;let e2:=SR (n:=n) p (ts:=ts) λt ht=>(G.rng t ht).2.1;show{1,l,xs,fd p ts,0,AD.of J,T2,by let:=G.len;lia,λl' zs ms nU T3 hp hrs=>?_};let nll:l'≠l:=λe=>by rw[e,J] at nU;cases nU
  let hl0:H l'=none:=by
   cases q:H l' with
   | none=>rfl
   | some o=>have:=s2 l' o q;rw[nU] at this;cases this
  show k l' zs ms _ (s2.trans (zK nU)) hl0 zJ (T3.keep λe ys he=>zK nU _ _ he) hp hrs
inductive ZP (vs:List V)(H:Hp)(Q:VK):Prop
 | mk:∀(wa:Addr)(n:Int)(ts:List T3)(one other:Int),(vs=[.ref wa,.int one,.int other])->(Ak H wa n ts)->(∀(r:V)(H':Hp),AG H H'->((∃l,A7 ts one other l/\r=.int l)\/((∀l,¬ A7 ts one other l)/\r=.non))->Q r H')->ZP vs H Q
def S9:Sp:=λo H Q _=>ZP o H Q
def jr (h:Du ms)(J:∀k∈ms,∃y l,k=[y,l])(I:(ms.map hd).Nodup):(ms.map hd).Pairwise (· < ·):=by
 rw[CM];rw[List.Nodup,CM] at I;let both:ms.Pairwise λa b=>HT.lexLt b a=false/\hd a≠hd b:=by rw[zq];intro i j hi U C;show{zq.mp h i j hi U C,zq.mp I i j hi U C}
 show both.imp_of_mem λ{a b} ha hb qU=>?_;let{y,l,0}:=J a ha;let{z,m,0}:=J b hb;let{h1,h2}:=qU;let o:y≠z:=h2;rw[HT.lexLt_cons,if_neg (Ne.symm o)] at h1;let:=of_decide_eq_false h1;change y<z
 lia
def VF:zo ["web","one","other","place","long"] E7 (defScope ON):=AQ
def iW {fT:Addr}(F:Fu K "long_of" ON f ml) (FT:AE K mg "ties_at" IA fT p6 IF) (mq:mg "sorted"=none):
 AF P w K mg base AL 2 f ml E7 S9:=by
 let GT:AH P w base 1 FT O0:=TN FT.F mq;show F.okD VF λ_ A _ _ H vs Q E hr h=>?_;let{wa,n,ts,one,other,0,W,k}:=h;show{_,zP (Bb (C2 (AI GT hr FT (zC (pv 0) (zC (pv 1) zL)))) (EU rfl (Ai (Az (i:=3) VF.nd) (Ai (Az (i:=4) VF.nd) Cj)))
  (zV (AV (zu A1 (pv 3) (pv 2) (zx _)) (zV (zt (pv 4))) zw)))
  (zV (zt Av)),?_}
 show{4,wa,n,ts,one,0,W,λl zs ms H1 s1 hl0 nY T1 hp _=>?_};show{l,0,{_,AD.of nY},Hi (K:=K) (a:=l) (xs:=zs) (λi σ C=>Gb λ(J I:Option V)=>σ=[some (.ref wa),some (.int one),some (.int other),J,I]/\C=H1/\∀j k,j<i->ms[j]?=some k->hd k≠other)
  {none,none,2,λj _ h=>()} (λi σ C _ ⟨_,_,_,e,_⟩=>e ▸ AD.of nY) ?turn ?after}
 case turn=>
  rintro i y σ C hi ⟨J,I,rfl,rfl,U⟩;let{ya,ky,0,oJ,pA,_}:=T1.get hi;let hm:ky∈fd one ts:=hp.mem_iff.mp (zN oJ);let{z,c,0,ha}:=Eg.mp hm;show{ya,1,AB.of pA,0,7,5,?_};show{1,9,?_};show CP (λh1=>?_) (λh1=>?_)
  . let e1:z=other:=by let:=of_decide_eq_true h1;injection this
    subst e1;show{1,k _ _ s1 (.inl {c,ha,0})}
  . let n1:z≠other:=λe=>by let:=h1;rw[e] at this;show this (zX rfl)
    show{5,λj kj hj o=>?_};by_cases hji:j<i
    . show U j kj hji o
    . let e:j=i:=()
      subst e;rw[oJ] at o;cases o;show n1
 case after=>
  rintro σ C ⟨J,I,rfl,rfl,U⟩;show k _ _ s1 (.inr {λc ha=>?_,0});let hm:[other,c]∈ms:=hp.mem_iff.mpr (Eg.mpr {other,c,0,ha});let{j,hj,e}:=DA hm;show U j _ (by let:=T1.length;lia) (by rw[zD hj,e]) rfl
def jm (a b):Ga (.int a) (.int b)=(a==b):=rfl
def NZ :∀{l:List Int},Ep (.int z) (l.map V.int)=decide (z∈l)
 | []=>rfl
 | x::r=>by
  change (Ga (.int x) (.int z) || Ep (.int z) (r.map V.int))=_;rw[NZ (l:=r),jm];by_cases h:x=z
  . subst h;simp
  . let h':(x==z)=false:=by simpa using h
    rw[h',Bool.false_or];simp[Ne.symm h]
def J7:∀(l:List Int),(l.map V.int).all Gn=true
 | []=>rfl
 | _::r=>by rw[Bf,List.all_cons,J7 r];rfl
def Zq :decide (V.int i=V.int j)=decide (i=j):=by
 by_cases h:i=j
 . subst h;simp
 . rw[ze h,ze λe=>h (by injection e)]
meta def XO:Pos:=⟨81,36,81,64⟩
meta abbrev Wl:Str:=(("nearest" : Str) ++ ".<locals>.") ++ "<lambda>"
abbrev Tb (H:Hp)(PT:Addr):Prop:=By H PT XO Wl
inductive cy (PT:Addr)(vs:List V)(H:Hp)(Q:VK):Prop
 | mk:∀(d:Addr)(n:Int)(mf:List (AO×V))(wt:Int->Option Int),(vs=[.ref d])->(H d=some (.dK mf))->(WD n mf wt)->(0<=n)->(n<=24)->(mf≠[])->(Tb H PT)->(∀(M e:Int)(H':Hp),wt M=some e->(∀q f,wt q=some f->e<=f)->Aa H H'->Tb H' PT->Q (.int M) H')->cy PT vs H Q
def ZG (PT:Addr):Sp:=λo H Q _=>cy PT o H Q
inductive Z2 (PT:Addr)(vs:List V)(H:Hp)(Q:VK):Prop
 | mk:∀(wa:Addr)(n:Int)(ts:List T3)(s:Int),(vs=[.ref wa,.int s])->(Ak H wa n ts)->(0<=s)->(s<n)->(Tb H PT)->(∀(l:Addr)(kn:List (Option Int))(H':Hp),Aa H H'->Tb H' PT->H' l=some (.tup (kn.map oV))->Gg ts n s kn->Q (.ref l) H')->Z2 PT vs H Q
def Tr (PT:Addr):Sp:=λo H Q _=>Z2 PT o H Q
def Ak.smT (h:Ak H wa n ts)(k:Aa H H'):Ak H' wa n ts:=h.keepT λb o e=>by
 rcases k b _ e with ⟨ps,z⟩ | z
 . cases z
 . show z
def Mc:zo Mj Mj (defScope O2):=AQ
def gJ (F:Gq K "nearest" "nearest" O2 f ml c) (C:PySem.W.CodeHd base c PT)(qK:Ed mg base)(nT:mg "min"=none) (mq:mg "sorted"=none):AF P w K mg base AL 2 f ml Mj (ZG PT):=by
 show F.ok Mc (λvs H Q E h=>?_) (λA outer s H vs Q E hr h=>?_)
 . let{d,n,o,I,0,_}:=h;rfl
 . let{d,n,o,I,0,hd,W,hn0,hn,nG,T,k}:=h;show{_,zV (zt (gk (k:=0) (j:=0) (P:=PT) (c:=c) (dn := "waiting") (pn := "place") rfl hr rfl nT (zC (AZ (kD rfl) mq (zC (pv 0) zL)) zL) rfl C qK rfl rfl rfl rfl rfl (by decide +kernel) (kB rfl) rfl rfl rfl (λ_ _ _ _ _ _ _=>rfl))),?_};let hl:=W.len hn0;show{1,d,o,F9 o,0,hd,W.keys,by unfold F9;rw[zB];lia,λl ms J hp _=>?_};let mem:∀x,x∈ms->∃e,I x=some e:=λx U=>W.mem.mp (hp.mem_iff.mp U);show{l,d,ms,o,λx=>(I x).getD 0,0,zJ,λe=>?_,0,by rwa[zY (zr hd J)],λx U=>?_,T.same (zK J),λM H2 hM hb sm T2=>?_}
   . subst e;let:=hp.length_eq;unfold F9 at this;rw[zB] at this;show nG (List.eq_nil_of_length_eq_zero this.symm)
   . let{e,he}:=mem x U;change Ag o (Sum.inl x)=some (.int ((I x).getD 0));rw[W.at_ x,he];rfl
   . let{e,he}:=mem M hM;show k M e H2 he (λq f hq=>?_) ((Aa.of (zK J)).trans sm) T2;let qH:q∈ms:=hp.mem_iff.mpr (W.mem.mpr ⟨f,hq⟩);let:=hb q qH;simp only[he,hq,Option.getD_some] at this;show this
def Ji:zo ["web","start","known","waiting","place","other","long","far"] Qy (defScope Ow):=AQ
def gL {kn:List (Option Int)}:(kn.map oV).set j (oV o)=(kn.set j o).map oV:=by rw[List.map_set]
def OQ :decide (oV o=V.non)=o.isNone:=by
 cases o with
 | none=>rfl
 | some d=>show ze (by intro e;cases e)
def hU {fT:Addr}(F:Fu K "lengths_from" Ow f ml) (FN:Gq K "nearest" "nearest" O2 fN fdN c) (bN:BC K fdN Mj []) (mN:mg "nearest"=some (.ref fN)) (FT:AE K mg "ties_at" IA fT p6 IF)
 (C:PySem.W.CodeHd base c PT)(qK:Ed mg base)(nT:mg "min"=none) (mq:mg "sorted"=none) (mh:mg "tuple"=none):AF P w K mg base AL 3 f ml Qy (Tr PT):=by
 let GN:AF P w K mg base AL 2 fN fdN Mj (ZG PT):=gJ FN C qK nT mq;let GT:AH P w base 2 FT O0:=(TN FT.F mq).mono;show F.okD Ji λ_ A _ _ H vs Q E hr h=>?_;let{wa,n,ts,st,0,W,hs0,qd,T,k}:=h;let{ta,tys,nI,3,G}:=id W;let hu:=TC hr;let qi:=G.n1;let n0:=G.n24;show{_,zP (AX (i:=2) Ji.nd (Ae Kr (Dc (zC Av zL)) (AJ AS (pv 0) zg)))
  (zP (AX (i:=3) Ji.nd (lB (eG (pv 1) zg lU) rfl rfl (by decide) (by decide)))
  (zP (cP PassesOwn.never (TU (pv 3) (λ_=>rfl))
   (zP (AX (i:=4) Ji.nd (Nf GN hr rfl mN FN.kp bN .nil DD (zC (pv 3) zL)))
   (zP (SH (l5 (pv 3) (pv 4) {0,8}) (TV (pv 2) (pv 4) TX))
   (zV (Bb (C2 (AI GT hr FT (zC (pv 0) (zC (pv 4) zL)))) (EU rfl (Ai (Az (i:=5) Ji.nd) (Ai (Az (i:=6) Ji.nd) Cj)))
    (zV (AV (zu DH (AJ Ar (pv 2) (pv 5)) Av (zx _))
     (zP (AX (i:=7) Ji.nd (Ae C4 (AJ Ar (pv 2) (pv 4)) (pv 6)))
     (zV (Uz hu (pv 3) (pv 5) (AZ (k9 rfl) nT (zC (pv 7) (zC (fY hu (pv 3) (pv 5) (pv 7) {0,8}) zL))) rfl))) zw)))))))
  (zV (zt (BQ Cf mh (zC (pv 2) zL)))))),?_}
 show{mF,λl0 hl0=>?_};show{1,wa,_,5,AB.of (zK hl0 _ _ nI),0,l0,n,_,2,zJ,(),(),?_,λI hkl=>?_}
 . let:sizeLine=16777216:=rfl;change 1*n.toNat<=sizeLine
   lia
 let s1:AG H (upd (upd H l0 (.lst [.non])) I (.lst (List.replicate n.toNat [V.non]).flatten)):=(zK hl0).trans (zK hkl);let erep:(List.replicate n.toNat [V.non]).flatten=(List.replicate n.toNat (none:Option Int)).map oV:=by
  generalize n.toNat=m
  induction m with
  | zero=>rfl
  | succ m ih=>rw[GK,List.flatten_cons,ih,GK];rfl
 rw[erep] at s1 ⊢;let hk1:(upd (upd H l0 (.lst [.non])) I (.lst ((List.replicate n.toNat (none:Option Int)).map oV))) I=some (.lst ((List.replicate n.toNat (none:Option Int)).map oV)):=zJ;generalize hH1:upd (upd H l0 (.lst [.non])) I (.lst ((List.replicate n.toNat (none:Option Int)).map oV))=H1 at s1 hk1 ⊢;intro wd hwd;show{1,zJ,[(Sum.inl st,.int 0)],0,by change 1<=15;decide,?_};let s2:AG H (upd (upd H1 wd (.dK [])) wd (.dK [(Sum.inl st,.int 0)])):=by rw[Bj];show s1.trans (zK hwd)
 let nkw:I≠wd:=zr hk1 hwd;rw[show Nk [] [((Sum.inl st:AO),V.int 0)]=[((Sum.inl st:AO),V.int 0)] from rfl,Bj];rw[Bj] at s2;show{λm σ H2=>∃(J:List (Option Int))(U:List (AO×V))(wt:Int->Option Int)(v4 v5 v6 v7:Option V),σ=[some (.ref wa),some (.int st),some (.ref I),some (.ref wd),v4,v5,v6,v7]/\m=n.toNat-BN J/\Aa H H2/\Tb H2 PT/\H2 I=some (.lst (J.map oV))/\H2 wd=some (.dK U)/\WD n U wt/\Dl ts n st J wt,
  {3,3,3,5,Aa.of s2,T.same s2,by rwa[zY nkw],zJ,WD.one hs0 qd,Dl.start G hs0 qd},?_}
 rintro m σ H2 ⟨J,U,wt,v4,v5,v6,v7,rfl,rfl,sm,T2,hk2,hw2,WW,D⟩;cases hkb:U.isEmpty with
 | true=>
  show{1,false,.inr (.inr {U,hw2,by rw[hkb];rfl}),?_};show Ax ?_;let oK:U=[]:=List.isEmpty_iff.mp hkb;let hnone:∀q,wt q=none:=λq=>by
   cases e:wt q with
   | none=>rfl
   | some d=>have:=WW.mem.mpr ⟨d,e⟩;rw[oK] at this;simp[F9] at this
  show{1,I,1,.inl {AD.of hk2,λq hq=>?_}};show k q J _ (sm.trans (Aa.of (zK hq))) (T2.same (zK hq)) zJ (D.done G hnone)
 | false=>
  show{1,true,.inr (.inr {U,hw2,by rw[hkb];rfl}),?_};show Br ?_;let nG:U≠[]:=by intro e;rw[e] at hkb;cases hkb
  show{λσ' H'=>∃(kn':List (Option Int))(nW:List (AO×V))(p7:Int->Option Int)(v4 v5 v6 v7:Option V),σ'=[some (.ref wa),some (.int st),some (.ref I),some (.ref wd),v4,v5,v6,v7]/\BN kn'=BN J+1/\Aa H H'/\Tb H' PT/\H' I=some (.lst (kn'.map oV))/\H' wd=some (.dK nW)/\WD n nW p7/\Dl ts n st kn' p7,?_,?_}
  . rintro σ' H' ⟨kn',nW,p7,v4',v5',v6',v7',rfl,hc,sm',T',pK,qc,WW',D'⟩;let h1:=TH kn';let h2:=D'.ln;show{n.toNat-BN kn',(),kn',nW,p7,v4',v5',v6',v7',2,sm',T',pK,qc,WW',D'}
  show{1,wd,n,U,wt,0,hw2,WW,(),n0,nG,T2,λM e H3 hM om sm3 T3=>?_};let hk3:H3 I=some (.lst (J.map oV)):=sm3.get hk2 (by intro ps z;cases z);let hw3:H3 wd=some (.dK U):=sm3.get hw2 (by intro ps z;cases z);let{hknM,hM0,hM1,hcnt,N0}:=D.enter G hM om;let qG:Ag U (Sum.inl M)=some (.int e):=by rw[WW.at_ M,hM];rfl
  show{1,wd,0,.inl {U,.inl hw3},1,U,Sum.inl M,_,hw3,0,qG,?_};let hlk:(J.map oV).length=n.toNat:=by rw[zB];show D.ln
  let hk3':(upd H3 wd (.dK (Bg U (Sum.inl M)))) I=some (.lst (J.map oV)):=by rwa[zY nkw]
  show{4,I,_,M,M.toNat,2,hk3',KO hM0 (by rw[hlk];lia),?_};rw[show V.int e=oV (some e) from rfl,gL];let sm4:Aa H (upd (upd H3 wd (.dK (Bg U (Sum.inl M)))) I (.lst ((J.set M.toNat (some e)).map oV))):=by
   intro b o hb;rcases (sm.trans sm3) b o hb with z | z
   . show .inl z
   . right;let n1:b≠wd:=λq=>by
      let hbn:H b=none:=by
       rw[q];cases e':H wd with
       | none=>rfl
       | some o'=>have:=s1 wd o' e';rw[hwd] at this;cases this
      rw[hbn] at hb;cases hb
     let n2:b≠I:=λq=>by
      let hbn:H b=none:=by
       rw[q];cases e':H I with
       | none=>rfl
       | some o'=>have:=zK (o:=.lst [.non]) hl0 I o' e';rw[hkl] at this;cases this
      rw[hbn] at hb;cases hb
     rwa[zY n2,zY n1]
  let T4:Tb (upd (upd H3 wd (.dK (Bg U (Sum.inl M)))) I (.lst ((J.set M.toNat (some e)).map oV))) PT:=by
   show T3.keep (λo ho=>?_) λc φ hc=>?_
   . let{ps,pU,_}:=T3;let e1:=ho;rw[pU] at e1;cases e1;rwa[zY (Ac ho hk3 (by intro z;cases z)),zY (Ac ho hw3 (by intro z;cases z))]
   . rwa[zY (Ac hc hk3 (by intro z;cases z)),zY (Ac hc hw3 (by intro z;cases z))]
  let hk4:(upd (upd H3 wd (.dK (Bg U (Sum.inl M)))) I (.lst ((J.set M.toNat (some e)).map oV))) I=some (.lst ((J.set M.toNat (some e)).map oV)):=zJ;let hw4:(upd (upd H3 wd (.dK (Bg U (Sum.inl M)))) I (.lst ((J.set M.toNat (some e)).map oV))) wd=some (.dK (Bg U (Sum.inl M))):=by rw[zY nkw.symm,zJ]
  generalize upd (upd H3 wd (.dK (Bg U (Sum.inl M)))) I (.lst ((J.set M.toNat (some e)).map oV))=H4 at sm4 T4 hk4 hw4 ⊢;show{4,wa,n,ts,M,0,W.smT sm4,λl zs ms H5 s5 hl5 hl5' T5 hp _=>?_};let hlz:=T5.length;show{l,0,{_,AD.of hl5'},Hi (K:=K) (a:=l) (xs:=zs) (λi σ H6=>dq λ(nW:List (AO×V))(p7:Int->Option Int)(v5 v6 v7:Option V)=>σ=[some (.ref wa),some (.int st),some (.ref I),some (.ref wd),some (.int M),v5,v6,v7]/\(∀b o,b≠wd->H5 b=some o->H6 b=some o)/\H6 wd=some (.dK nW)/\WD n nW p7/\Dn ts n st M e (J.set M.toNat (some e)) p7 (λr=>∃j k,j<i/\ms[j]?=some k/\hd k=r))
   {_,3,7,λ_ _ _ z=>z,s5 _ _ hw4,WW.drop,{{N0.dm.kd,N0.dm.wk,N0.dm.ord,λq e' r l' hq ha=>(N0.dm.nb q e' r l' hq ha).imp (λz=>{z.1,λ⟨j,_,hj,_⟩=>absurd hj (Hk _)}) id,N0.dm.st,N0.dm.pd,N0.dm.mx},N0.ln,N0.bk,N0.bd,N0.bw}}
   (λi σ H6 _ ⟨_,_,_,_,_,_,s6,_⟩=>AD.of (s6 l _ (Ac hl5' (s5 _ _ hw4) (by intro z;cases z)) hl5')) ?turn ?after}
  case after=>
   rintro σ H6 ⟨nW,p7,v5,v6,v7,rfl,s6,hw6,WW6,N6⟩;let hk5:H5 I=some (.lst ((J.set M.toNat (some e)).map oV)):=s5 _ _ hk4;show{_,nW,p7,3,7,hcnt,?_,?_,s6 I _ nkw hk5,hw6,WW6,N6.leave λr c ha=>?_}
   . intro b o hb;rcases (sm4.trans (Aa.of s5)) b o hb with z | z
     . show .inl z
     . right;show s6 b o (λq=>?_) z;let hbn:H b=none:=by
        rw[q];cases e':H wd with
        | none=>rfl
        | some o'=>have:=s1 wd o' e';rw[hwd] at this;cases this
       rw[hbn] at hb;cases hb
   . show (T4.same s5).keep (λo ho=>?_) λc φ hc=>?_
     . let{ps,pU,_}:=T4.same s5;show s6 PT o (λq=>?_) ho;rw[q,s5 _ _ hw4] at pU;cases pU
     . show s6 c _ (λq=>?_) hc;rw[q,s5 _ _ hw4] at hc;cases hc
   . let hm:[r,c]∈ms:=hp.mem_iff.mpr (Eg.mpr {r,c,0,ha});let{j,hj,ej}:=DA hm;show{j,[r,c],(),by rw[zD hj,ej],0}
  case turn=>
   rintro i y σ H6 hi ⟨nW,p7,v5,v6,v7,rfl,s6,hw6,WW6,N6⟩;let{ya,ky,0,oJ,pA,_}:=T5.get hi;let{r,c,0,ha}:=Eg.mp (hp.mem_iff.mp (zN oJ));let nM:=G.adj ha;let hk6:H6 I=some (.lst ((J.set M.toNat (some e)).map oV)):=s6 I _ nkw (s5 _ _ hk4);let pX:(J.set M.toNat (some e)).length=n.toNat:=N6.ln;let seen_of:∀{x:Int},(x=r\/∃j k,j<i/\ms[j]?=some k/\hd k=x)->∃j k,j<i+1/\ms[j]?=some k/\hd k=x:=λ{x} z=>by
    rcases z with rfl | ⟨j,k',hj,pK,e'⟩
    . show{i,[x,c],Jq _,oJ,0}
    . show{j,k',EJ hj,pK,e'}
   let sub:∀{x:Int},(∃j k,j<i+1/\ms[j]?=some k/\hd k=x)->(∃j k,j<i/\ms[j]?=some k/\hd k=x)\/x=r:=λ{x} ⟨j,k',hj,pK,e'⟩=>by
    by_cases hji:j<i
    . show .inl ⟨j,k',hji,pK,e'⟩
    . let:j=i:=()
      subst this;rw[oJ] at pK;cases pK;show .inr e'.symm
   let conv:∀{wt2:Int->Option Int},Dn ts n st M e (J.set M.toNat (some e)) wt2 (λx=>(∃j k,j<i/\ms[j]?=some k/\hd k=x)\/x=r)->Dn ts n st M e (J.set M.toNat (some e)) wt2 (λx=>∃j k,j<i+1/\ms[j]?=some k/\hd k=x):=λ{wt2} N=>
    {{N.dm.kd,N.dm.wk,N.dm.ord,λq e' r' l' hq qv=>(N.dm.nb q e' r' l' hq qv).imp (λz=>{z.1,λy=>z.2 (sub y)}) id,N.dm.st,N.dm.pd,N.dm.mx},N.ln,N.bk,N.bd,N.bw}
   show{ya,1,AB.of (s6 _ _ (Ac pA (s5 _ _ hw4) (by intro z;cases z)) pA),0,7,5,?_};obtain⟨o,ho⟩:∃o,(J.set M.toNat (some e))[r.toNat]?=some o:={_,zD ()};let hfnl:AY (J.set M.toNat (some e)) r=o:=by unfold AY;rw[if_pos nM.2.2.1,zI,ho];rfl
   show{4,I,3,oV o,2,AD.of hk6,Ao nM.2.2.1 (by rw[zO,ho];rfl),6,?_};rw[OQ];cases o with
   | some f0=>show Ax ?_;show{nW,p7,_,7,s6,hw6,WW6,conv (N6.skip hfnl)}
   | none=>
    show Br ?_;let hkM:(J.set M.toNat (some e))[M.toNat]?=some (some e):=by rw[List.getElem?_set_self (by let:=D.ln;lia)]
    show{4,I,3,oV (some e),2,AD.of hk6,Ao hM0 (by rw[zO,hkM];rfl),1,5,?_};show{4,wd,0,.inl {nW,.inl hw6},4,_,DJ.k (k:=Sum.inl r) hw6,?_};let hg:((Ag nW (Sum.inl r)).getD (V.int (e+c)))=V.int ((p7 r).getD (e+c)):=by rw[WW6.at_ r];cases p7 r <;> rfl
    rw[hg];show{7,?_};let hwl:=WW6.len ();show{4,wd,1,Gs.k (k:=Sum.inl r) hw6 (BV ()),?_};show{_,3,7,λb o' hb z=>by rw[zY hb];show s6 b o' hb z,zJ,WW6.put nM.2.2.1 nM.2.2.2.1,conv (N6.wait G ha hfnl)}
inductive Xy (vs:List V)(H:Hp)(Q:VK):Prop
 | mk:∀(lh lt:Addr)(n:Int)(ts:List T3)(x y:Int)(oy qY:List (Option Int)),(vs=[.ref lh,.ref lt,.int y])->(GW n ts)->(0<=x)->(x<n)->(0<=y)->(y<n)->(H lh=some (.tup (oy.map oV)))->(H lt=some (.tup (qY.map oV)))->(Gg ts n x oy)->(Gg ts n y qY)->(∀(l:Addr)(xs:List Int)(H':Hp),AG H H'->H' l=some (.tup (xs.map V.int))->xs.Pairwise (· < ·)->(∀p,p∈xs↔BM ts x y p)->Q (.ref l) H')->Xy vs H Q
def SQ:Sp:=λo H Q _=>Xy o H Q
inductive YT (vs:List V)(H:Hp)(Q:VK):Prop
 | mk:∀(wa lt:Addr)(n:Int)(ts:List T3)(x y:Int)(kn:List (Option Int)),(vs=[.ref wa,.int x,.ref lt])->(Ak H wa n ts)->(0<=x)->(x<n)->(0<=y)->(y<n)->(H lt=some (.tup (kn.map oV)))->(Gg ts n y kn)->(∀(l:Addr)(xs:List Int)(H':Hp),AG H H'->H' l=some (.tup (xs.map V.int))->xs.Pairwise (· < ·)->(∀p,p∈xs↔BF ts x y p)->Q (.ref l) H')->YT vs H Q
def IV:Sp:=λo H Q _=>YT o H Q
def Fb (h:Gg ts n s kn)(h0:0<=y)(I:y<n):(kn.map oV)[y.toNat]?=some (oV (AY kn y)):=by
 let C:=h.ln;let o:y.toNat<kn.length:=()
 rw[zO,zD o];unfold AY;rw[if_pos h0,zI,zD o];rfl
def bY (q):lowTo (q+1)=lowTo q++[(q:Int)]:=by unfold lowTo;rw[List.range_succ,zQ];rfl
def Na (q):(lowTo q).length=q:=by unfold lowTo;rw[zB,Dr]
def JZ:zo ["here","there","other","reached"] NC (defScope D8):=AQ
def WJ (F:Fu K "between_rows" D8 f ml) (mi:mg "range"=none) (mh:mg "tuple"=none) (mj:mg "len"=none):AF P w K mg base AL 1 f ml NC SQ:=by
 show F.ok JZ (λvs H Q E h=>?_) (λnN A outer s H2 vs Q E hr h=>?_)
 . let{lh,lt,n,ts,x,y,C,qY,0,_}:=h;rfl
 . let{lh,lt,n,ts,x,y,C,qY,0,G,qZ,qP,U,hy1,hh2,nH,L1,L2,k}:=h;let n0:=G.n24;let pX:=L1.ln;show{_,zP (AV (zu DH (AJ AS (pv 0) (pv 2)) Av (zx _)) (zV (zt (BZ zL))) zw)
    (zP (Hz (i:=3) (own:=EZ) (cn:=["here"]) (ci:=[0]) JZ.nd rfl (Or.inl rfl) rfl (Aq rfl rfl) {8,trivial} rfl
     (Dp rfl mi (zC (AZ Bq mj (zC (pv 0) zL)) zL)) (λ_ _ _ _=>An)
     (λ_ _ _ _=>Fd (zu Ou (AJ CG (pv 1) (pv 0)) Av (zx _))) (λ_ _ _ _=>pv 0))
    (zV (zt (BQ Cf mh (zC
     (A3 (own:=EZ) (cn:=NC) (ci:=[0,1,2]) rfl (Aq rfl rfl) {8,8,8,trivial} rfl
      (C2 (pv 3)) (λ_ _ _ _=>An)
      (λ_ _ _ _=>Fd (zu A1 (Ae C4 (AJ CG (pv 1) (pv 0)) (AJ CG (pv 2) (pv 0))) (AJ CG (pv 1) (pv 3)) (zx _)))
      (λ_ _ _ _=>pv 0)) zL))))),?_}
   let hy:=L1.len y U hy1;show{4,lh,3,oV (AY C y),2,AB.of hh2,Ao U (Fb L1 U hy1),6,?_};rw[OQ];cases hd:AY C y with
   | none=>show Br ?_;rw[hd] at hy;show{zd _,λl hl=>k l [] _ (zK hl) zJ List.Pairwise.nil λp=>{λz=>by simp at z,λ⟨a,b,_,_,z⟩=>absurd z.1 (hy _)}}
   | some d=>
    show Ax ?_;rw[hd] at hy;let hyD:WM.IsD ts x y d:=hy;show{1,lh,1,.inr (AB.of hh2),n,by rw[zB,pX];show congrArg (λz=>[V.int z]) (Jk ()),(),(),[.ref lh],0,λD hD=>?_};show Jx (lo:=0) (n:=n.toNat) (λq I H3=>q<=n.toNat/\I=((lowTo q).filter λo=>(AY C o).isSome).map V.int/\AG H2 H3/\H3 D=some (.lst I)) {zd _,0,zK hD,zJ} (λq I H3 h=>?_) (λq I H3 hq h=>?_) (λI H3 h=>?_)
    . let{hq,0,_}:=h;rw[zB];show Em (CZ _ _) (BV ?_);rw[Na];lia
    . let{1,s3,pH}:=h;rw[EK];show{{2},?_};show{4,lh,3,oV (AY C q),2,AB.of (s3 _ _ hh2),Ao () (Fb L1 () ()),6,?_};rw[OQ];cases e:AY C q with
      | none=>show Ax ?_;show{hq,?_,s3,pH};rw[bY,List.filter_append,OM (by rw[e];decide),List.filter_nil,Bl]
      | some a=>show Br ?_;show{1,pH,hq,?_,Bs s3 hD,zJ};rw[bY,List.filter_append,Nj (by rw[e];rfl),List.filter_nil,zQ];rfl
    . let{1,s3,pH}:=h;generalize hR:((lowTo n.toNat).filter λo=>(AY C o).isSome)=R at pH ⊢;let hRm:∀p,p∈R↔(0<=p/\p<n)/\∃a,AY C p=some a:=λp=>by
       rw[<-hR,Ba,OL,Option.isSome_iff_exists];constructor
       . rintro ⟨z1,z2⟩;show{(),z2}
       . rintro ⟨z1,z2⟩;show{(),z2}
      let hRr:R.Pairwise (· < ·):=by rw[<-hR];show (V2 _).sublist List.filter_sublist
      let hRl:R.length<=24:=by rw[<-hR];show zn (CZ _ _) (by rw[Na];lia)
      let both:∀p,p∈R->∃a b,AY C p=some a/\AY qY p=some b/\WM.IsD ts x p a/\WM.IsD ts p y b:=λp J=>by let{{h0,h1},a,ha}:=(hRm p).mp J;let l1:=L1.len p h0 h1;rw[ha] at l1;let{b,hb,_}:=BY.via (show WM.IsD ts x p a from l1) hyD (BY.symm (L2.len p h0 h1));let l2:=L2.len p h0 h1;rw[hb] at l2;show{a,b,ha,hb,l1,WM.IsD.symm l2}
      show{1,D,0,{_,AD.of pH},[.ref lh,.ref lt,.int y],0,λD2 nV=>?_};let nDD:D≠D2:=zr pH nV;show Jp (a:=D) (xs:=R.map V.int) (λi I H4=>I=((R.take i).filter λp=>decide ((AY C p).getD 0+(AY qY p).getD 0=d)).map V.int/\AG H3 H4/\H4 D2=some (.lst I)) {0,zK nV,zJ} (λi I H4 h=>?_) (λi I H4 h=>?_) (λi v I H4 hv h=>?_) (λI H4 h=>?_)
      . let{_,s4,_}:=h;show AD.of (s4 _ _ pH)
      . let{0,_}:=h;rw[zB];show Em (CZ _ _) (BV ?_);rw[zl];lia
      . let{0,s4,m9}:=h;obtain⟨p,J,rfl⟩:∃p,R[i]?=some p/\V.int p=v:=by
         rw[zO] at hv;cases e:R[i]? with
         | none=>rw[e] at hv;cases hv
         | some p=>rw[e] at hv;show{p,0,zW hv}
        let hpR:=zN J;let{{h0,h1},_}:=(hRm p).mp hpR;let{a,b,ha,hb,3}:=both p hpR;let hlh4:H4 lh=some (.tup (C.map oV)):=s4 _ _ (s3 _ _ hh2);let hlt4:H4 lt=some (.tup (qY.map oV)):=s4 _ _ (s3 _ _ nH);show{{2},?_};show{4,lh,3,.int a,2,AB.of hlh4,Ao h0 (by rw[Fb L1 h0 h1,ha];rfl),?_};show{4,lt,3,.int b,2,AB.of hlt4,Ao h0 (by rw[Fb L2 h0 h1,hb];rfl),5,?_};show{4,lh,3,.int d,2,AB.of hlh4,Ao U (by rw[Fb L1 U hy1,hd];rfl),6,?_};rw[Zq];let etk:(R.take (i+1)).filter (λp=>decide ((AY C p).getD 0+(AY qY p).getD 0=d))=(R.take i).filter (λp=>decide ((AY C p).getD 0+(AY qY p).getD 0=d))++(if a+b=d then [p] else []):=by
         rw[zj,J,List.filter_append];change _++List.filter _ [p]=_;rw[Jr,ha,hb];by_cases c:a+b=d
         . rw[if_pos (by simpa using c),if_pos c];rfl
         . rw[if_neg (by simpa using c),if_neg c];rfl
        show CP (λc=>?_) (λc=>?_)
        . let c':=of_decide_eq_true c;show{1,m9,?_,Bs s4 nV,zJ};rw[etk,if_pos c',zQ];rfl
        . let c':¬ a+b=d:=λz=>c (zX z);show{?_,s4,m9};rw[etk,if_neg c',Bl]
      . let{0,s4,m9}:=h;rw[zB,zR (zH _)] at m9;show{D2,1,.inl {AD.of m9,λq hq=>?_}};show k q _ _ ((s3.trans s4).trans (zK hq)) zJ (hRr.sublist List.filter_sublist) λp=>?_;rw[Ba];constructor
        . rintro ⟨J,c⟩;let{a,b,ha,hb,ia,ib}:=both p J;let c':=of_decide_eq_true c;rw[ha,hb] at c';show{a,b,ia,ib,by rwa[show a+b=d from c']}
        . rintro ⟨a,b,ia,ib,pS⟩;let J:=ia.1.in_ G qZ qP;let l1:=BY.uniq (L1.len p J.1 J.2) (show BY ts x p (some a) from ia);let l2:=BY.uniq (L2.len p J.1 J.2) (show BY ts y p (some b) from WM.IsD.symm ib);show{(hRm p).mpr ⟨J,a,l1⟩,zX ?_};rw[l1,l2];show WM.IsD.uniq pS hyD
def Ra:zo Qt Qt (defScope HZ):=AQ
meta def Kg (k:List Int):Int:=k.getD 1 0
def Mw {fT:Addr}(F:Fu K "next_by_row" HZ f ml)
 (FT:AE K mg "ties_at" IA fT p6 IF) (mq:mg "sorted"=none) (mh:mg "tuple"=none):AF P w K mg base AL 3 f ml Qt IV:=by
 let GT:AH P w base 2 FT O0:=(TN FT.F mq).mono;show F.ok Ra (λvs H Q E h=>?_) (λnN A outer s H1 vs Q E hr h=>?_)
 . let{wa,lt,n,ts,x,y,C,0,_}:=h;rfl
 . let{wa,lt,n,ts,x,y,C,0,W,qZ,qP,hy0,hy1,nY,L,k}:=h;let{ta,tys,nI,3,G}:=id W;show{_,zP (AV (zu DH (AJ AS (pv 2) (pv 1)) Av (zx _)) (zV (zt (BZ zL))) zw)
    (zV (zt (BQ Cf mh (zC
     (A3 (own:=["place","long"]) (cn:=["there","one"]) (ci:=[2,1]) rfl (Aq rfl rfl) {8,8,trivial} rfl
      (C2 (AI GT hr FT (zC (pv 0) (zC (pv 1) zL))))
      (λ_ _ _ _=>NU (n:=2) rfl (Ai (An) (Ai (Cb (i:=1) (DN rfl) rfl (Or.inl rfl)) Cj)))
      (λ_ _ _ _=>Fd (zu A1 (Ae C4 (pv 1) (AJ CG (pv 2) (pv 0))) (AJ CG (pv 2) (pv 3)) (zx _)))
      (λ_ _ _ _=>pv 0)) zL)))),?_}
   let hx:=L.len x qZ qP;show{4,lt,3,oV (AY C x),2,AB.of nY,Ao qZ (Fb L qZ qP),6,?_};rw[OQ];cases hd:AY C x with
   | none=>show Br ?_;rw[hd] at hx;show{zd _,λl hl=>k l [] _ (zK hl) zJ List.Pairwise.nil λp=>{λz=>by simp at z,λ⟨a,b,_,_,z⟩=>absurd z.1.symm (hx _)}}
   | some d=>
    show Ax ?_;rw[hd] at hx;let hxD:WM.IsD ts x y d:=WM.IsD.symm hx;show{4,wa,n,ts,x,0,W,λl zs ms H2 s2 hl0 nH TT hp hrs=>?_};let hlz:=TT.length;let hlt2:H2 lt=some (.tup (C.map oV)):=s2 _ _ nY;let hlm:ms.length<64:=by let e2:=SR (n:=n) x (ts:=ts) λt ht=>(G.rng t ht).2.1;let:=G.len;rw[hp.length_eq];lia
    let near:∀k,k∈ms->∃z c b,k=[z,c]/\A7 ts x z c/\AY C z=some b/\WM.IsD ts z y b:=λk hk=>by
     let{z,c,e,I}:=Eg.mp (hp.mem_iff.mp hk);let J:=G.adj I;let lz:=L.len z J.2.2.1 J.2.2.2.1;cases hz:AY C z with
     | none=>rw[hz] at lz;show absurd (hx.1.snoc I) (lz _)
     | some b=>rw[hz] at lz;show{z,c,b,e,I,hz,WM.IsD.symm lz}
    show{l,0,{_,AD.of nH},[.ref lt,.int x],0,λD hD=>?_};let nlD:l≠D:=zr nH hD;show Jp (a:=l) (xs:=zs) (λi ys H3=>ys=(((ms.take i).filter λk=>decide (Kg k+(AY C (WM.hd k)).getD 0=d)).map WM.hd).map V.int/\H3=upd H2 D (.lst ys)) {2} (λi ys H3 h=>?_) (λi ys H3 h=>?_) (λi v ys H3 hv h=>?_) (λys H3 h=>?_)
    . let{1}:=h;show AD.of (by rwa[zY nlD])
    . let{0,_}:=h;rw[zB,zB];show Em (CZ _ _) (BV ?_);rw[zl];lia
    . let{2}:=h;let{ya,ky,0,oJ,pA,_}:=TT.get hv;let{z,c,b,0,I,hb,ib}:=near ky (zN oJ);let J:=G.adj I;show{ya,1,AB.of (by rwa[zY (zr pA hD)]),0,7,5,{2},?_};let U:(upd H2 D (.lst ((((ms.take i).filter λk=>decide (Kg k+(AY C (WM.hd k)).getD 0=d)).map WM.hd).map V.int))) lt=some (.tup (C.map oV)):=by rwa[zY (zr hlt2 hD)]
      show{1,4,lt,3,.int b,2,AB.of U,Ao J.2.2.1 (by rw[Fb L J.2.2.1 J.2.2.2.1,hb];rfl),5,?_};show{4,lt,3,.int d,2,AB.of U,Ao qZ (by rw[Fb L qZ qP,hd];rfl),6,?_};rw[Zq];let etk:(ms.take (i+1)).filter (λk=>decide (Kg k+(AY C (WM.hd k)).getD 0=d))=(ms.take i).filter (λk=>decide (Kg k+(AY C (WM.hd k)).getD 0=d))++(if c+b=d then [[z,c]] else []):=by
       rw[zj,oJ,List.filter_append];change _++List.filter _ [[z,c]]=_;rw[Jr];let e1:decide (Kg [z,c]+(AY C (WM.hd [z,c])).getD 0=d)=decide (c+b=d):=by change decide (c+(AY C z).getD 0=d)=_;rw[hb];rfl
       rw[e1];by_cases cc:c+b=d
       . rw[if_pos (by simpa using cc),if_pos cc];rfl
       . rw[if_neg (by simpa using cc),if_neg cc];rfl
      show CP (λcc=>?_) (λcc=>?_)
      . let c':=of_decide_eq_true cc;show{1,zJ,?_,Bj};rw[etk,if_pos c',zQ,zQ];rfl
      . let c':¬ c+b=d:=λq=>cc (zX q);show{?_,0};rw[etk,if_neg c',Bl]
    . let{2}:=h;show{D,1,.inl {AD.of zJ,λq hq=>?_}};rw[hlz,zR (zH _)] at hq ⊢;let s4:=(zK (o:=.lst ((((ms.filter λk=>decide (Kg k+(AY C (WM.hd k)).getD 0=d)).map WM.hd).map V.int))) hD).trans (zK (o:=.tup ((((ms.filter λk=>decide (Kg k+(AY C (WM.hd k)).getD 0=d)).map WM.hd).map V.int))) hq);let hk:∀k∈ms,∃y l,k=[y,l]:=λk hk=>by let{z,c,b,e,_}:=near k hk;show⟨z,c,e⟩
      let oG:=jr hrs hk ((hp.map WM.hd).nodup_iff.mpr (iM G x));show k q _ _ (s2.trans s4) zJ (oG.sublist (List.filter_sublist.map _)) λp=>?_;rw[zp];constructor
      . rintro ⟨k0,ql,rfl⟩;let{hm,c}:=Ba.mp ql;let{z,c0,b,0,I,hb,ib}:=near k0 hm;let c':=of_decide_eq_true c;let c2:c0+b=d:=by let:c0+(AY C z).getD 0=d:=c';rwa[hb] at this
        show{c0,b,I,ib,by rwa[c2]}
      . rintro ⟨c0,b,I,ib,pS⟩;let hm:[p,c0]∈ms:=hp.mem_iff.mpr (Eg.mpr {p,c0,0,I});show{[p,c0],Ba.mpr {hm,zX ?_},0};let J:=G.adj I;let lp:=BY.uniq (L.len p J.2.2.1 J.2.2.2.1) (show BY ts y p (some b) from WM.IsD.symm ib);change c0+(AY C p).getD 0=d;rw[lp];show WM.IsD.uniq pS hxD
def Ds (H:Hp)(rs:List Addr)(M:HB):Prop:=rs.length=M.length/\∀(i:Nat)r row,rs[i]?=some r->M[i]?=some row->H r=some (.tup (row.map oV))
def Ds.smT (h:Ds H rs M)(k:Aa H H'):Ds H' rs M:={h.1,λi r row a b=>k.get (h.2 i r row a b) (by intro ps z;cases z)}
inductive aP (PT:Addr)(vs:List V)(H:Hp)(Q:VK):Prop
 | mk:∀(wa:Addr)(n:Int)(ts:List T3),(vs=[.ref wa])->(Ak H wa n ts)->(Tb H PT)->(∀(l:Addr)(rs:List Addr)(M:HB)(H':Hp),Aa H H'->Tb H' PT->H' l=some (.tup (rs.map V.ref))->Ds H' rs M->Rows ts n M->Q (.ref l) H')->aP PT vs H Q
def SE (PT:Addr):Sp:=λo H Q _=>aP PT o H Q
def MD:zo Df Df (defScope Oc):=AQ
def k7 (F:Fu K "lengths" Oc f ml) (FF:AE K mg "lengths_from" Ow fF fdF Qy) (GF:AH P w base 3 FF (Tr PT))
 (mi:mg "range"=none) (mh:mg "tuple"=none):AF P w K mg base AL 4 f ml Df (SE PT):=by
 show F.okD MD λ_ A _ _ H vs Q E hr h=>?_;let{wa,n,ts,0,W,T,k}:=h;let{ta,tys,nI,3,G}:=id W;let n0:=G.n24;let qi:=G.n1;show{_,zV (zt (BQ Cf mh (zC
  (A3 (own:=EZ) (cn:=Df) (ci:=[0]) rfl (Aq rfl rfl) {8,trivial} rfl
   (Dp rfl mi (zC (AJ AS (pv 0) zg) zL)) (λ_ _ _ _=>An) (λ_ _ _ _=>A8)
   (λ_ _ _ _=>AI GF hr FF (zC (pv 1) (zC (pv 0) zL)))) zL))),?_}
 show{1,wa,_,5,AB.of nI,0,n,0,(),(),[.ref wa],0,λD hD=>?_};show Jx (lo:=0) (n:=n.toNat) (λq ys H1=>q<=n.toNat/\Gb λ(rs:List Addr)(M:HB)=>ys=rs.map V.ref/\rs.length=q/\Ds H1 rs M/\(∀x:Nat,x<q->Gg ts n x (M.getD x []))/\Aa H H1/\Tb H1 PT/\H1 D=some (.lst ys))
  {zd _,[],[],2,{0,λi r row h=>by simp at h},λx hx=>absurd hx (Hk _),Aa.of (zK hD),T.same (zK hD),zJ} (λq ys H1 h=>?_) (λq ys H1 U h=>?_) (λys H1 h=>?_)
 . let{U,rs,M,0,o,_}:=h;rw[zB,o];show BV ()
 . let{_,rs,M,0,o,R,L,sm,T1,I}:=h;rw[EK];show{{2},?_};show A9 ?_;show{4,wa,n,ts,q,0,W.smT sm,(),(),T1,λl kn H2 C T2 nH L2=>?_};let nV:H2 D=some (.lst (rs.map V.ref)):=C.get I (by intro ps z;cases z);show{nV,U,rs++[l],M++[kn],by rw[zQ];rfl,by rw[zT,o];rfl,{by rw[zT,zT,R.1];rfl,λi r row J h2=>?_},λx hx=>?_,(sm.trans C).chg hD,T2.chg nV,zJ}
   . let key:H2 r=some (.tup (row.map oV)):=by
      by_cases hi:i<rs.length
      . rw[zi hi] at J;rw[zi (by rw[<-R.1];show hi)] at h2;show C.get (R.2 i r row J h2) (by intro ps z;cases z)
      . rw[zh ()] at J;rw[zh (by rw[<-R.1];lia),<-R.1] at h2;cases hz:i-rs.length with
        | zero=>
         rw[hz] at J h2;let e1:l=r:=by simpa using J
         let e2:kn=row:=by simpa using h2
         subst e1 e2;show nH
        | succ k=>rw[hz] at J;simp at J
     rw[zY (Ac key nV (by intro z;cases z))];show key
   . by_cases oQ:x<q
     . rw[zI,zi (by rw[<-R.1,o];show oQ),<-zI];show L x oQ
     . let e:x=q:=()
       subst e;rw[zI,zh (by rw[<-R.1,o];show zH _),<-R.1,o];simpa using L2
 . let{_,rs,M,0,o,R,L,sm,T1,I}:=h;show{D,1,.inl {AD.of I,λq U=>?_}};show k q rs M _ (sm.trans (Aa.of (zK U))) (T1.same (zK U)) zJ (R.smT (Aa.of (zK U))) {by rw[<-R.1,o],λx hx oQ=>?_};let:=L x.toNat ();rw[show ((x.toNat:Nat):Int)=x by lia] at this;show this
def VU:Sp:=λo H Q _=>∃i:Int,o=[.int i]/\Q (.bl true) H
def NB:Sp:=λo H Q _=>∃i a b:Int,o=[.int i,.int a,.int b]/\a<=i/\i<=b/\Q (.bl true) H
def D7:Sp:=λo H Q _=>∃n i:Int,o=[.int n,.int i]/\0<=i/\i<=n-1/\Q (.bl true) H
def OT:Sp:=λC H Q _=>∃p o,C=[.ref p,.int o.length]/\H p=some (.tup o)/\Q (.bl true) H
structure CC (n:Int)(os:List Int):Prop where
 ln:os.length=n.toNat
 nd:os.Nodup
 rng:∀p∈os,0<=p/\p<n
inductive X8 (vs:List V)(H:Hp)(Q:VK):Prop
 | mk:∀(wa p:Addr)(n:Int)(ts:List T3)(os:List Int),(vs=[.ref wa,.ref p])->(Ak H wa n ts)->(H p=some (.tup (os.map V.int)))->(CC n os)->(∀H',AG H H'->Q (.bl true) H')->X8 vs H Q
def V7:Sp:=λo H Q _=>X8 o H Q
def PM:zo GV GV (defScope Hr):=AQ
def Xz (F:Fu K "is_number" Hr f ml) (o:mg "isinstance"=none) (C:mg "int"=none) (I:mg "bool"=none):AF P w K mg base AL 1 f ml GV VU:=by
 show F.okD PM λ_ A _ _ H J Q E U h=>?_;let{i,0,k}:=h;show{_,zV (zt (ED (AZ Om o (zC (pv 0) (zC (O1 (T := "int") C) zL)))
  (ES (LN (AZ Om o (zC (pv 0) (zC (O1 (T := "bool") I) zL))))))),?_}
 show{1,_,3,true,0,.int i,0,true,0,Br ?_};show{1,_,3,false,0,.int i,0,false,0,k}
def Wz:zo IZ IZ (defScope LJ):=AQ
def IS (F:Fu K "is_within" LJ f ml) (o:AE K mg "is_number" Hr fN fdN GV) (J:mg "isinstance"=none) (C:mg "int"=none) (I:mg "bool"=none):
 AF P w K mg base AL 2 f ml IZ NB:=by
 let GN:AH P w base 1 o VU:=Xz o.F J C I;show F.okD Wz λ_ A _ _ H vs Q E U h=>?_;let{i,a,b,0,h1,h2,k}:=h;show{_,zV (zt (ED (AI GN U o (zC (pv 0) zL)) (ED (Bo V1 (pv 1) (pv 0) (zx _)) (ES (Bo V1 (pv 0) (pv 2) (zx _)))))),?_};show{1,i,0,true,0,Br ?_};show{4,_,9,?_};show BX (zX h1) ?_;show{4,5,?_};change Q (.bl (decide (i<=b))) H;rwa[zX h2]
def XM:zo BG BG (defScope Kd):=AQ
def VM (F:Fu K "is_place" Kd f ml) (o:AE K mg "is_within" LJ fW qM IZ) (FN:AE K mg "is_number" Hr fN fdN GV) (U:mg "isinstance"=none) (I:mg "int"=none) (J:mg "bool"=none):
 AF P w K mg base AL 3 f ml BG D7:=by
 let C:AH P w base 2 o NB:=IS o.F FN U I J;show F.okD XM λ_ A _ _ H vs Q E hr h=>?_;let{n,i,0,h1,h2,k}:=h;show{_,zV (zt (AI C hr o (zC (pv 1) (zC zg (zC (Ae Gv (pv 0) zg) zL))))),?_};show⟨_,rfl,_,rfl,_,_,rfl,rfl,i,0,n-1,rfl,h1,h2,k⟩
def QN:zo Lo Lo (defScope D4):=AQ
def Vy (F:Fu K "is_tuple_of" D4 f ml) (J:mg "isinstance"=none) (I:mg "tuple"=none) (C:mg "len"=none):AF P w K mg base AL 1 f ml Lo OT:=by
 show F.okD QN λ_ A _ _ H vs Q E hr h=>?_;let{p,U,0,o,k}:=h;show{_,zV (zt (ED (AZ Om J (zC (pv 0) (zC (O1 (T := "tuple") I) zL)))
  (ES (Bo A1 (AZ Bq C (zC (pv 0) zL)) (pv 1) (zx _))))),?_}
 show{1,_,3,true,0,.tup o,0,true,0,Br ?_};show{1,p,1,.inr (AB.of o),_,2,?_};rwa[zX rfl]
def IQ:zo ["web","thing","n"] BE (defScope G0):=AQ
def Mu {fT:Addr}(F:Fu K "is_order" G0 f ml) (FT:AE K mg "is_tuple_of" D4 fT p6 Lo)
 (FW:AE K mg "is_within" LJ fW qM IZ) (FP:AE K mg "is_place" Kd fP fdP BG) (FN:AE K mg "is_number" Hr fN fdN GV)
 (m7:mg "isinstance"=none) (nJ:mg "int"=none) (nE:mg "bool"=none) (mh:mg "tuple"=none) (mj:mg "len"=none) (my:mg "all"=none) (qD:mg "set"=none):AF P w K mg base AL 4 f ml BE V7:=by
 let GT:AH P w base 3 FT OT:=(Vy FT.F m7 mh mj).mono;let GP:AH P w base 3 FP D7:=VM FP.F FW FN m7 nJ nE;show F.okD IQ λ_ A _ _ H vs Q E hr h=>?_;let{wa,p,n,ts,os,0,W,U,O,k}:=h;let{ta,tys,nI,3,G}:=id W;let qi:=G.n1;let n0:=G.n24;let hol:os.length<=24:=by rw[O.ln];lia
 show{_,zP (Jy (i:=2) IQ.nd rfl (Or.inr rfl) (AJ AS (pv 0) zg))
  (zP (AV (PW.pt (Cc (Bw (BR (AI GT hr FT (zC (pv 1) (zC (pv 2) zL)))))
   (C6 (Bw (BR (AZ (Ff rfl) my (zC (A3 (own:=EZ) (cn:=["n"]) (ci:=[2]) rfl (Aq rfl rfl) {8,trivial} rfl (BP (pv 1)) (λ_ _ _ _=>An)
    (λ_ _ _ _=>A8) (λ_ _ _ _=>AI GP hr FP (zC (pv 1) (zC (pv 0) zL)))) zL))))))) (zV (zt Ct)) zw)
  (zV (zt (Bo A1 (AZ jZ mj (zC (BQ (jy rfl) qD (zC (pv 1) zL)) zL)) (pv 2) (zx _))))),?_}
 show{1,wa,_,5,AB.of nI,0,?_};let nq:(os.map V.int).length=n:=by rw[zB,O.ln];lia
 show{4,p,os.map V.int,by rw[nq];rfl,U,1,Ax ?_};show{1,p,0,{_,AB.of U},[.int n],0,λD hD=>?_};show Bm (a:=p) (xs:=os.map V.int) (λi C J=>i<=os.length/\C=(List.replicate i true).map V.bl/\J=upd H D (.lst C)) {zd _,2} (λi C J h=>?_) (λi C J h=>?_) (λi v C J I h=>?_) (λC J h=>?_)
 . let{7}:=h;show AB.of (by rwa[zY (zr U hD)])
 . let{hi,0,_}:=h;rw[zB,C8];show BV ()
 . let{_,2}:=h;obtain⟨x,hx,rfl⟩:∃x,os[i]?=some x/\V.int x=v:=by
    rw[zO] at I;cases e:os[i]? with
    | none=>rw[e] at I;cases I
    | some x=>rw[e] at I;show{x,0,zW I}
   let qe:=O.rng x (zN hx);show{{2},?_};show A9 ?_;show{4,n,x,0,qe.1,(),?_};show{zJ,(zF.mp hx).1,?_,Bj};rw[Gr,zQ];rfl
 . let{_,2}:=h;show{D,List.replicate (os.map V.int).length true,0,AD.of zJ,1,?_};let n6:(List.replicate (os.map V.int).length true).all id=true:=Gf.mpr λb hb=>(List.mem_replicate.mp hb).2;rw[n6];show Ax ?_;let hp5:=zK (o:=.lst ((List.replicate (os.map V.int).length true).map V.bl)) hD _ _ U;show{1,p,os,0,AB.of hp5,(),λd S hd=>?_};show{d,S,1,zJ,_,2,?_};rw[bO O.nd os.length (zH _),zR (zH _),zX (by rw[<-nq,zB])];show k _ ((zK hD).trans (zK hd))
meta def eV (e:En):List V:=[.int e.h,.int e.l,oV e.u,oV e.d]
def DS (H:Hp)(as:List Addr)(es:List En):Prop:=as.length=es.length/\∀(i:Nat)a,as[i]?=some a->∃e,es[i]?=some e/\H a=some (.tup (eV e))
inductive bQ (H:Hp)(p:Addr)(es:List En):Prop
 | mk:∀as:List Addr,(H p=some (.tup (as.map V.ref)))->(DS H as es)->(es.length<=1000)->bQ H p es
def A6 (H:Hp)(p:Addr)(es:List En):Prop:=bQ H p es
def DS.keep (h:DS H as es)(k:∀b ys,H b=some (.tup ys)->H' b=some (.tup ys)):DS H' as es:=
 {h.1,λi a o=>let ⟨e,I,C⟩:=h.2 i a o;{e,I,k _ _ C}}
def DS.snoc (h:DS H as es)(C:H a=some (.tup (eV e))):DS H (as++[a]) (es++[e]):=by
 show{by rw[zT,zT,h.1];rfl,λi b o=>?_};by_cases c:i<as.length
 . rw[zi c] at o;let{U,J,I}:=h.2 i b o;show{U,by rw[zi (by rw[<-h.1];show c)];show J,I}
 . rw[zh ()] at o;let hi:i-as.length=0:=by
    cases z:i-as.length with
    | zero=>rfl
    | succ m=>rw[z] at o;simp at o
   rw[hi] at o;let:a=b:=by simpa using o
   subst this;show{e,by rw[zh (by rw[<-h.1];lia),<-h.1,hi];rfl,C}
def A6.keep (h:A6 H p es)(k:∀b ys,H b=some (.tup ys)->H' b=some (.tup ys)):A6 H' p es:=
 let ⟨as,I,C,o⟩:=h;{as,k _ _ I,C.keep k,o}
def A6.same (h:A6 H p es)(k:AG H H'):A6 H' p es:=h.keep λb o e=>k _ _ e
def DS.at (h:DS H as es){i:Nat}(o:(as.map V.ref)[i]?=some v):∃a e,v=.ref a/\es[i]?=some e/\H a=some (.tup (eV e)):=by
 rw[zO] at o;cases z:as[i]? with
 | none=>rw[z] at o;cases o
 | some a=>rw[z] at o;let{e,I,C}:=h.2 i a z;show{a,e,(zW o).symm,I,C}
inductive YB (vs:List V)(H:Hp)(Q:VK):Prop
 | mk:∀(p:Addr)(es:List En)(e:En)(r:List En),(vs=[.ref p])->(A6 H p es)->(es.filter (λe=>decide (e.l=0))=e::r)->(∀H',AG H H'->Q (.int e.h) H')->YB vs H Q
def Ij:Sp:=λo H Q _=>YB o H Q
def JE:Sp:=λo H Q _=>∃p q es fs,o=[.ref p,.ref q]/\A6 H p es/\A6 H q fs/\Eu fs /\
 ∀r lm H',AG H H'->CB (Cd es fs) lm->H' r=some (.tup [oV (lm.map (·.1)),oV (lm.map (·.2))])->Q (.ref r) H'
inductive bc (vs:List V)(H:Hp)(Q:VK):Prop
 | mk:∀(p q:Addr)(es fs:List En),(vs=[.ref p,.ref q])->(A6 H p es)->(A6 H q fs)->(Eu fs)->(∀(lm:Option (Int×Int))(H':Hp),AG H H'->CB (Cd es fs) lm->Q (oV (lm.map (·.1))) H')->bc vs H Q
def Of:Sp:=λo H Q _=>bc o H Q
inductive YQ (vs:List V)(H:Hp)(Q:VK):Prop
 | mk:∀(p:Addr)(es:List En)(x:Int),(vs=[.ref p,.int x])->(A6 H p es)->((Dt es x=none->Q .non H))->((∀e a,Dt es x=some e->H a=some (.tup (eV e))->Q (.ref a) H))->YQ vs H Q
def IE:Sp:=λo H Q _=>YQ o H Q
def DF (h:n<=1000):n<sizeLine:=Em h (by decide)
def OR :decide (V.int a=V.int b)=decide (a=b):=by
 by_cases h:a=b
 . rw[zX h,zX (congrArg V.int h)]
 . rw[ze h,ze λz=>h (V.int.inj z)]
def RZ:zo DM DM (defScope HF):=AQ
def NK (F:Fu K "own_place" HF f ml):AF P w K mg base AL 1 f ml DM Ij:=by
 show F.okD RZ λ_ A _ _ H vs Q E hr h=>?_;let{p,es,e,r,0,L,hf,k}:=h;let{as,J,U,hl}:=id L;show{_,zV (zt (AJ Ar (A3 (own:=Xd) (cn:=[]) (ci:=[]) rfl (Aq rfl rfl) trivial rfl (BP (pv 0))
  (λ_ _ _ _=>NU (n:=4) rfl (Ai (An) (Ai (Cb (i:=1) (DN rfl) rfl (Or.inl rfl)) (Ai (Cb (i:=2) (DN rfl) rfl (Or.inl rfl)) (Ai (Cb (i:=3) (DN rfl) rfl (Or.inl rfl)) Cj)))))
  (λ_ _ _ _=>Fd (zu A1 (pv 1) zg (zx _))) (λ_ _ _ _=>pv 0)) zg)),?_}
 show{1,p,0,{_,AB.of J},[],0,λD I=>?_};show Bm (a:=p) (xs:=as.map V.ref) (λi o C=>o=((es.take i).filter λe=>decide (e.l=0)).map (λe=>V.int e.h)/\C=upd H D (.lst o)) {2} (λi o C h=>?_) (λi o C h=>?_) (λi v o C hv h=>?_) (λo C h=>?_)
 . let{1}:=h;show AB.of (by rwa[zY (zr J I)])
 . let{0,_}:=h;rw[zB];show Em (CZ _ _) (DF (by rw[zl];lia))
 . let{2}:=h;let{a,x,0,hx,ha}:=U.at hv;show{a,1,AB.of (by rwa[zY (zr ha I)]),0,7,7,7,5,{2},?_};show{9,?_};rw[OR];let st:=Oo (λe:En=>decide (e.l=0)) hx;show CP (λc=>?_) (λc=>?_)
   . show{1,zJ,?_,Bj};rw[st,if_pos c,zQ];rfl
   . show{?_,0};rw[st,if_neg c,Bl]
 . let{2}:=h;rw[zB,U.1,zR (zH _),hf];show{D,3,.int e.h,2,AD.of zJ,Ao (by decide) rfl,k _ (zK I)}
def JM:zo ["label","hub","entry"] ["label","hub"] (defScope HX):=AQ
def LV (F:Fu K "entry_of" HX f ml):AF P w K mg base AL 1 f ml ["label","hub"] IE:=by
 show F.okD JM λ_ A _ _ H vs Q E hr h=>?_;let{p,es,x,0,L,kn,ks}:=h;let{as,J,EA,hl}:=id L;show{_,zP (Bb (BP (pv 0)) (Az (i:=2) JM.nd)
  (zV (AV (zu A1 (AJ AS (pv 2) zg) (pv 1) (zx _)) (zV (zt (pv 2))) zw)))
  (zV (zt Av)),?_}
 show{1,p,0,{_,AB.of J},Ve (K:=K) (a:=p) (xs:=as.map V.ref) (λi σ C=>∃I:Option V,σ=[some (.ref p),some (.int x),I]/\C=H/\∀e∈es.take i,e.h≠x)
  {none,2,λe he=>by simp at he} (λi σ C _ ⟨_,_,e,_⟩=>e ▸ AB.of J) ?turn ?after}
 case turn=>
  rintro i y σ C hi ⟨I,rfl,rfl,o⟩;let{a,e,0,he,U}:=EA.at hi;show{1,a,3,.int e.h,2,AB.of U,0,9,?_};rw[OR];show CP (λc=>?_) (λc=>?_)
  . let c':e.h=x:=of_decide_eq_true c;show{1,ks e a ?_ U};unfold Dt;let mr:=(zF.mp he).1;rw[<-List.take_append_drop i es,List.find?_append,List.find?_eq_none.mpr (λf hf=>by simpa using o f hf)];rw[List.drop_eq_getElem_cons mr,(zF.mp he).2,Hu,zX c'];rfl
  . show{_,2,λf hf=>?_};rw[zj,he] at hf;rcases Bi.mp hf with z | z
    . show o f z
    . let:f=e:=by simpa using z
      subst this;show λq=>c (zX q)
 case after=>
  rintro σ C ⟨I,rfl,rfl,o⟩;show kn (ZU.mpr λe he=>o e ?_);rwa[zB,EA.1,zR (zH _)]
def VS:zo ["one","other","longs","sums"] Ea (defScope HC):=AQ
def MN (F:Fu K "least_sum" HC f ml) (o9:mg "dict"=none) (nT:mg "min"=none):AF P w K mg base AL 1 f ml Ea JE:=by
 show F.okD VS λ_ A _ _ H vs Q E hr h=>?_;let{p,q,es,fs,0,L1,L2',hF,k}:=h;let{as,hp,EA,hl}:=id L1;let{bs,hq,EB,nH}:=id L2';let hu:=TC hr;show{_,zP (Jy (i:=2) VS.nd rfl (Or.inr rfl) (BQ (fb rfl) o9 (zC
  (A3 (own:=Xd) (cn:=[]) (ci:=[]) rfl (Aq rfl rfl) trivial rfl (BP (pv 1))
   (λ_ _ _ _=>NU (n:=4) rfl (Ai (An) (Ai (Cb (i:=1) (DN rfl) rfl (Or.inl rfl)) (Ai (Cb (i:=2) (DN rfl) rfl (Or.inl rfl)) (Ai (Cb (i:=3) (DN rfl) rfl (Or.inl rfl)) Cj)))))
   (λ_ _ _ _=>A8) (λ_ _ _ _=>BZ (zC (pv 0) (zC (pv 1) zL)))) zL)))
  (zP (Hz (i:=3) (own:=Xd) (cn:=["longs"]) (ci:=[2]) VS.nd rfl (Or.inl rfl) rfl (Aq rfl rfl) {8,trivial} rfl (BP (pv 0))
   (λ_ _ _ _=>NU (n:=4) rfl (Ai (An) (Ai (Cb (i:=1) (DN rfl) rfl (Or.inl rfl)) (Ai (Cb (i:=2) (DN rfl) rfl (Or.inl rfl)) (Ai (Cb (i:=3) (DN rfl) rfl (Or.inl rfl)) Cj)))))
   (λ_ _ _ _=>Fd (M9 (Mt hu (pv 0) (pv 4)))) (λ_ _ _ _=>BZ (zC (Ae C4 (pv 1) (cK hu (pv 4) (pv 0) (λ_ _=>rfl))) (zC (pv 0) zL))))
  (zV (zt (U2 rfl hu (by rfl) nT (zC (pv 3) zL) (BZ (zC Av (zC Av zL))))))),?_}
 show{1,q,0,{_,AB.of hq},[],0,λD hD=>?_};show Bm (a:=q) (xs:=bs.map V.ref) (λi o I=>i<=fs.length/\o.length=i/\(∀(j:Nat)(y:V),o[j]?=some y->∃c e,y=.ref c/\fs[j]?=some e/\I c=some (.tup [.int e.h,.int e.l]))/\AG H I/\I D=some (.lst o)) {zd _,0,λj y z=>by simp at z,zK hD,zJ} (λi o I h=>?_) (λi o I h=>?_) (λi v o I hv h=>?_) (λo I h=>?_)
 . show AB.of (h.2.2.2.1 _ _ hq)
 . show DF (by let:=h.1;let:=h.2.1;lia)
 . let{hi,C,hys,s4,m9}:=h;let{a,x,0,hx,ha}:=EB.at hv;show{a,1,AB.of (s4 _ _ ha),0,7,7,7,5,{2},?_};show A9 ?_;show{4,CJ,λc hc=>?_};let nDc:D≠c:=zr m9 hc;show{zK hc _ _ m9,(zF.mp hx).1,by rw[zT,C];rfl,λj y J=>?_,Bs (s4.trans (zK hc)) hD,zJ};by_cases cj:j<i
   . rw[zi ()] at J;let{c',e,h1,h2,h3}:=hys j y J;show{c',e,h1,h2,?_};rw[zY (Ac h3 m9 (by intro z;cases z))];show zK hc _ _ h3
   . let ej:j=i:=by let:=(zF.mp J).1;rw[zT,C] at this;simp at this;lia
     subst ej;rw[zh (),C,Nat.sub_self] at J;let ey:V.ref c=y:=by simpa using J
     subst ey;show{c,x,0,hx,by rw[zY (Ne.symm nDc)];show zJ}
 . let{_,C,hys,s4,m9}:=h;rw[zB,EB.1] at C;show{D,o,fs.map λe=>(Sum.inl e.h,V.int e.l),0,AD.of m9,{by rw[zB,C],λj y J=>?_},λdd pZ=>?_}
   . let{c,e,h1,h2,h3}:=hys j y J;show{c,Sum.inl e.h,.int e.l,h1,h3,by rw[zO,h2];rfl}
   let hnd:((fs.map λe=>((Sum.inl e.h:AO),V.int e.l)).map (·.1)).Nodup:=by rw[List.map_map,List.Nodup,CM];show hF.imp λh z=>by injection z with z;lia
   rw[i8 hnd];let qG:∀x:Int,Ag (fs.map λe=>((Sum.inl e.h:AO),V.int e.l)) (Sum.inl x)=(Dt fs x).map λe=>V.int e.l:=λx=>by
    unfold Ag Dt;rw[List.find?_map,Option.map_map];let:((λkv:AO×V=>decide (kv.1=Sum.inl x))∘λe:En=>((Sum.inl e.h:AO),V.int e.l))=λe:En=>decide (e.h=x):=by
     funext e;change decide ((Sum.inl e.h:AO)=Sum.inl x)=_;by_cases c:e.h=x
     . rw[zX c,zX (by rw[c])]
     . rw[ze c,ze (by intro z;injection z with z;show c z)]
    rw[this];rfl
   let s5:AG H (upd I dd (.dK (fs.map λe=>(Sum.inl e.h,V.int e.l)))):=s4.trans (zK pZ);let hd5:(upd I dd (.dK (fs.map λe=>((Sum.inl e.h:AO),V.int e.l)))) dd=some (.dK (fs.map λe=>(Sum.inl e.h,V.int e.l))):=zJ;generalize upd I dd (.dK (fs.map λe=>((Sum.inl e.h:AO),V.int e.l)))=H5 at s5 hd5 ⊢;generalize (fs.map λe=>((Sum.inl e.h:AO),V.int e.l))=mf at qG hd5;show{1,p,0,{_,AB.of (s5 _ _ hp)},[.ref dd],0,λD2 nV=>?_};show Bm (a:=p) (xs:=as.map V.ref) (λi o H6=>Am H6 o (((es.take i).filterMap (Et fs)).map λc=>[c.1,c.2])/\AG H5 H6/\H6 D2=some (.lst o)) {trivial,zK nV,zJ} (λi o H6 h=>?_) (λi o H6 h=>?_) (λi v o H6 hv h=>?_) (λo H6 h=>?_)
   . show AB.of (h.2.1 _ _ (s5 _ _ hp))
   . let:=h.1.length;rw[this,zB];show Em (List.length_filterMap_le _ _) (DF (by rw[zl];lia))
   . let{T6,s6,pb}:=h;let{a,x,0,hx,ha}:=EA.at hv;show{a,1,AB.of (s6 _ _ (s5 _ _ ha)),0,7,7,7,5,{2},?_};show{4,dd,1,DJ.k (k:=Sum.inl x.h) (s6 _ _ hd5),1,?_};let st:=kJ (Et fs) hx;let U:=qG x.h;cases e:Dt fs x.h with
     | none=>
      rw[e] at U;rw[U];show Ax ?_;let ec:Et fs x=none:=by unfold Et;rw[e];rfl
      show{?_,s6,pb};rw[st,ec];simpa using T6
     | some g=>
      rw[e] at U;let hv3:Ag mf (Sum.inl x.h)=some (.int g.l):=U;rw[hv3];show Br ?_;let ec:Et fs x=some (x.l+g.l,x.h):=by unfold Et;rw[e];rfl
      show{1,4,dd,.int g.l,0,hv3 ▸ DJ.k (k:=Sum.inl x.h) (s6 _ _ hd5),_,9,CJ,λc hc=>?_};show{zK hc _ _ pb,?_,Bs (s6.trans (zK hc)) nV,zJ};rw[st,ec,zQ];show Am.snoc (T6.keep λb zs e=>?_) {c,0,?_,by intro z;cases z}
      . rw[zY (Ac e pb (by intro z;cases z))];show zK hc _ _ e
      . rw[zY (Ne.symm (zr pb hc))];show zJ
   . let{T6,s6,pb}:=h;rw[zB,EA.1,zR (zH _)] at T6;let oH:=λc=>aJ (es:=es) hF c;generalize es.filterMap (Et fs)=cs at T6 oH;show{4,CJ,λn hn=>?_};let s7:AG H (upd H6 n (.tup [.non,.non])):=(s5.trans s6).trans (zK hn);show{D2,o,0,.inl (AD.of (zK hn _ _ pb)),λe0=>?_,.inl {_,T6.keep λb zs e=>zK hn _ _ e,λi y kk J hk om=>?_}}
     . show k n none _ s7 (λc z=>?_) zJ;let:cs=[]:=by let:=T6.length;rw[e0,zB] at this;show Hh.mp this.symm
       rw[<-oH,this] at z;simp at z
     . let{a,k',e1,e2,e3,_}:=T6.get J;rw[hk] at e2;cases e2;rw[zO] at hk;cases ec:cs[i]? with
       | none=>rw[ec] at hk;cases hk
       | some c=>
        rw[ec] at hk;let ek:[c.1,c.2]=kk:=zW hk;subst ek e1;show k a (some c) _ s7 {(oH c).mp (zN ec),λc' hc'=>?_} (zK hn _ _ e3);let:=om [c'.1,c'.2] (zp.mpr {c',(oH c').mpr hc',0});rw[HT.lexLt_cons] at this;by_cases q:c'.1=c.1
        . rw[if_pos q,HT.lexLt_cons] at this;by_cases q2:c'.2=c.2
          . show .inr {q.symm,()}
          . rw[if_neg q2] at this;let:=of_decide_eq_false this;show .inr {q.symm,()}
        . rw[if_neg q] at this;let:=of_decide_eq_false this;show .inl ()
def Ma:zo Ea Ea (defScope NP):=AQ
def jG (F:Fu K "told" NP f ml) (FS:AE K mg "least_sum" HC fS fdS Ea) (I:mg "dict"=none) (J:mg "min"=none):AF P w K mg base AL 2 f ml Ea Of:=by let GS:AH P w base 1 FS JE:=MN FS.F I J;show F.okD Ma λ_ A _ _ H vs Q E U h=>?_;let{p,q,es,fs,0,L1,o,hF,k}:=h;show{_,zV (zt (AJ AS (AI GS U FS (zC (pv 0) (zC (pv 1) zL))) zg)),?_};show{4,p,q,es,fs,0,L1,o,hF,λr lm H' s1 hm C=>?_};show{r,_,5,AB.of C,0,k lm H' s1 hm}
meta def CV (o:List Int)(p:Int):Int:=o.getD p.toNat 0
def F5 (ts:List T3)(o:Int->Int)(h v:Int):Prop:=(∃d,WM.IsD ts h v d)/\∀p,BM ts h v p->o h<=o p
def DB (P:Int->Prop):Option Int->Prop
 | none=>∀p,¬ P p
 | some m=>P m/\∀p,P p->m<=p
def DB.congr {P:Int->Prop}(e:∀p,P p↔P' p):∀{o:Option Int},DB P o->DB P' o
 | none,h=>λp z=>h p ((e p).mpr z)
 | some _,h=>{(e _).mp h.1,λp z=>h.2 p ((e p).mpr z)}
structure Hf (ts:List T3)(n:Int)(rk:Int->Int)(v:Int)(e:En):Prop where
 rng:0<=e.h/\e.h<n
 hub:F5 ts rk e.h v
 len:WM.IsD ts v e.h e.l
 up:DB (BF ts v e.h) e.u
 dn:DB (BF ts e.h v) e.d
structure C1 (ts:List T3)(n:Int)(rk:Int->Int)(v:Int)(es:List En):Prop where
 hub:Eu es
 ent:∀e∈es,Hf ts n rk v e
 all:∀h,0<=h->h<n->F5 ts rk h v->∃e∈es,e.h=h
 len:es.length<=24
def F5.congr (G:GW n ts)(e:∀p,0<=p->p<n->rk p=nv p)(h0:0<=h)(C:h<n)(x:F5 ts rk h v):F5 ts nv h v:=by show{x.1,λp o=>?_};let{a,b,I,_}:=id o;let:=I.1.in_ G h0 C;rw[<-e h h0 C,<-e p this.1 this.2];show x.2 p o
def C1.congr (G:GW n ts)(e:∀p,0<=p->p<n->rk p=nv p)(x:C1 ts n rk v es):C1 ts n nv v es:=
 {x.hub,λa C=>let y:=x.ent a C;{y.rng,y.hub.congr G e y.rng.1 y.rng.2,y.len,y.up,y.dn},λh h0 o z=>x.all h h0 o (z.congr G (λp a b=>(e p a b).symm) h0 o),x.len}
inductive Ye (H:Hp)(l:Addr)(ess:List (List En)):Prop
 | mk:∀as:List Addr,(H l=some (.tup (as.map V.ref)))->(as.length=ess.length)->(∀(i:Nat)(a:Addr),as[i]?=some a->∃es,ess[i]?=some es/\A6 H a es)->Ye H l ess
def BJ (H:Hp)(l:Addr)(ess:List (List En)):Prop:=Ye H l ess
def BJ.keep (h:BJ H l ess)(k:∀b ys,H b=some (.tup ys)->H' b=some (.tup ys)):BJ H' l ess:=
 let ⟨as,J,I,C⟩:=h;{as,k _ _ J,I,λi a o=>let ⟨es,e1,U⟩:=C i a o;{es,e1,U.keep k}}
def Ds.at (C:Ds H rs M)(RR:Rows ts n M)(h0:0<=x)(J:x<n):
 ∃r,(rs.map V.ref)[x.toNat]?=some (.ref r)/\H r=some (.tup ((M.getD x.toNat []).map oV))/\Gg ts n x (M.getD x.toNat []):=by
 let I:x.toNat<M.length:=by rw[RR.1];lia
 let o:x.toNat<rs.length:=by rwa[C.1]
 let e:M[x.toNat]?=some (M.getD x.toNat []):=by rw[zI,zD I];rfl
 show{rs[x.toNat],by rw[zO,zD o];rfl,C.2 _ _ _ (zD o) e,RR.2 x h0 J}
def Ds.same (h:Ds H rs M)(k:AG H H'):Ds H' rs M:={h.1,λi r row a b=>k _ _ (h.2 i r row a b)}
def ZL {xs:List Int}(C:AB K H p (xs.map V.int))(h:∀u,DB (· ∈ xs) u->Q (oV u) H):IK K (.ref p) .non H Q:=by
 show{p,1,.inr C,λe=>?_,.inr {xs,0,λn I hm=>h (some n) ⟨I,hm⟩}};let:xs=[]:=by simpa using e
 show h none λq o=>by rw[this] at o;simp at o
structure Eb (H:Hp)(rl ra:Addr)(rs:List Addr)(M:HB)(nR:List Int)(n:Int)(ts:List T3):Prop where
 tab:H rl=some (.tup (rs.map V.ref))
 rows:Ds H rs M
 right:Rows ts n M
 rk:H ra=some (.lst (nR.map V.int))
 rln:nR.length=n.toNat
 web:GW n ts
def Eb.same (L:Eb H rl ra rs M nR n ts)(k:AG H H'):Eb H' rl ra rs M nR n ts:={k _ _ L.tab,L.rows.same k,L.right,k _ _ L.rk,L.rln,L.web}
def Eb.rank (L:Eb H rl ra rs M nR n ts)(h0:0<=x)(o:x<n):(nR.map V.int)[x.toNat]?=some (.int (CV nR x)):=by
 let:x.toNat<nR.length:=by rw[L.rln];lia
 rw[zO,zD this];unfold CV;rw[zI,zD this];rfl
inductive Y5 (vs:List V)(H:Hp)(Q:VK):Prop
 | mk:∀(rl ra:Addr)(rs:List Addr)(M:HB)(nR:List Int)(n:Int)(ts:List T3)(h v:Int),(vs=[.ref rl,.ref ra,.int h,.int v])->(Eb H rl ra rs M nR n ts)->(0<=h)->(h<n)->(0<=v)->(v<n)->(∀(b:Bool)(H':Hp),AG H H'->(b=true↔F5 ts (CV nR) h v)->Q (.bl b) H')->Y5 vs H Q
def Uu:Sp:=λo H Q _=>Y5 o H Q
inductive aI (vs:List V)(H:Hp)(Q:VK):Prop
 | mk:∀(wa rl ra:Addr)(rs:List Addr)(M:HB)(nR:List Int)(n:Int)(ts:List T3)(v h:Int),(vs=[.ref wa,.ref rl,.int v,.int h])->(Ak H wa n ts)->(Eb H rl ra rs M nR n ts)->(0<=h)->(h<n)->(0<=v)->(v<n)->(F5 ts (CV nR) h v)->(∀(a:Addr)(e:En)(H':Hp),AG H H'->H' a=some (.tup (eV e))->e.h=h->Hf ts n (CV nR) v e->Q (.ref a) H')->aI vs H Q
def U3:Sp:=λo H Q _=>aI o H Q
inductive cY (vs:List V)(H:Hp)(Q:VK):Prop
 | mk:∀(wa rl ra:Addr)(rs:List Addr)(M:HB)(nR:List Int)(n:Int)(ts:List T3)(v:Int),(vs=[.ref wa,.ref rl,.ref ra,.int v])->(Ak H wa n ts)->(Eb H rl ra rs M nR n ts)->(0<=v)->(v<n)->(∀(a:Addr)(es:List En)(H':Hp),AG H H'->A6 H' a es->C1 ts n (CV nR) v es->Q (.ref a) H')->cY vs H Q
def Vt:Sp:=λo H Q _=>cY o H Q
def P8:zo RK RK (defScope Hc):=AQ
def KN (F:Fu K "is_hub" Hc f ml) (FB:AE K mg "between_rows" D8 fB fdB NC) (mi:mg "range"=none) (mh:mg "tuple"=none) (mj:mg "len"=none) (my:mg "all"=none):
 AF P w K mg base AL 2 f ml RK Uu:=by
 let GB:AH P w base 1 FB SQ:=WJ FB.F mi mh mj;show F.okD P8 λ_ A _ _ H vs Q E hr h=>?_;let{rl,ra,rs,M,nR,n,ts,h,v,0,L,h0,h1,v0,v1,k}:=h;let G:=L.web;let n0:=G.n24;show{_,zP (AV (zu DH (AJ AS (AJ AS (pv 0) (pv 2)) (pv 3)) Av (zx _)) (zV (zt Ct)) zw)
  (zV (zt (AZ (Ff rfl) my (zC (A3 (own:=["other"]) (cn:=["ranks","hub"]) (ci:=[1,2]) rfl (Aq rfl rfl) {8,8,trivial} rfl
   (BP (AI GB hr FB (zC (AJ AS (pv 0) (pv 2)) (zC (AJ AS (pv 0) (pv 3)) (zC (pv 3) zL))))) (λ_ _ _ _=>An)
   (λ_ _ _ _=>A8) (λ_ _ _ _=>Bo V1 (AJ Ux (pv 1) (pv 2)) (AJ Ux (pv 1) (pv 0)) (zx _))) zL)))),?_}
 let{rh,gh,hh,Lh}:=L.rows.at L.right h0 h1;let{rv,gv,hv,Lv}:=L.rows.at L.right v0 v1;let C:=Lh.len v v0 v1;show{4,rl,3,.ref rh,2,AB.of L.tab,Ao h0 gh,1,rh,3,oV (AY (M.getD h.toNat []) v),2,AB.of hh,Ao v0 (Fb Lh v0 v1),6,?_};rw[OQ];cases ed:AY (M.getD h.toNat []) v with
 | none=>rw[ed] at C;show Br ?_;show k false H (AG.refl _) {(λz=>by cases z),(λz=>by let{d,hd}:=z.1;show absurd hd.1 (C d))}
 | some d=>
  rw[ed] at C;show Ax ?_;show{4,rl,3,.ref rh,2,AB.of L.tab,Ao h0 gh,4,rl,3,.ref rv,2,AB.of L.tab,Ao v0 gv,1,rh,rv,n,ts,h,v,7,G,h0,h1,v0,v1,hh,hv,Lh,Lv,λl xs H1 s1 hl oG oH=>?_};let hxr:∀p∈xs,0<=p/\p<n:=λp J=>by let{a,b,ia,_}:=(oH p).mp J;show ia.1.in_ G h0 h1
  let hxl:xs.length<=24:=by
   let:=nd_len (n:=n.toNat) (l:=xs) (oG.imp λz=>()) λx U=>by let:=hxr x U;lia
   lia
  show{l,0,{_,AB.of hl},[.ref ra,.int h],0,λD hD=>?_};let hra:=s1 _ _ L.rk;show Bm (a:=l) (xs:=xs.map V.int) (λi ys H4=>ys=((xs.take i).map λp=>decide (CV nR h<=CV nR p)).map V.bl/\H4=upd H1 D (.lst ys)) {2} (λi ys H4 z=>?_) (λi ys H4 z=>?_) (λi x ys H4 U z=>?_) (λys H4 z=>?_)
  . let{1}:=z;show AB.of (by rwa[zY (zr hl hD)])
  . let{0,_}:=z;rw[zB,zB,zl];show BV ()
  . let{2}:=z;obtain⟨p,J,rfl⟩:∃p,xs[i]?=some p/\V.int p=x:=by
     rw[zO] at U;cases e:xs[i]? with
     | none=>rw[e] at U;cases U
     | some p=>rw[e] at U;show{p,0,zW U}
    let hpr:=hxr p (zN J);let I:=zK (o:=.lst (((xs.take i).map λp=>decide (CV nR h<=CV nR p)).map V.bl)) hD _ _ hra;show{{2},?_};show A9 ?_;show{4,ra,3,.int (CV nR h),2,AD.of I,Ao h0 (L.rank h0 h1),4,ra,3,.int (CV nR p),2,AD.of I,Ao hpr.1 (L.rank hpr.1 hpr.2),5,zJ,?_,Bj};rw[zj,J,zQ,zQ];rfl
  . let{2}:=z;rw[zB,zR (zH _)];show{D,1,AD.of zJ,?_};show k _ _ (s1.trans (zK hD)) {λz=>{⟨d,C⟩,λp J=>?_},λz=>Gf.mpr λb hb=>?_}
    . let:=Gf.mp z _ (zp.mpr {p,(oH p).mpr J,0});show of_decide_eq_true this
    . let{p,J,0}:=zp.mp hb;show zX (z.2 p ((oH p).mp J))
def V6:zo ["web","rows","place","hub","up","down"] Ua (defScope HL):=AQ
def MG {fT:Addr}(F:Fu K "entry_by_rows" HL f ml) (I:AE K mg "next_by_row" HZ fN fdN Qt)
 (FT:AE K mg "ties_at" IA fT p6 IF) (mq:mg "sorted"=none) (mh:mg "tuple"=none) (nT:mg "min"=none):AF P w K mg base AL 4 f ml Ua U3:=by
 let GN:AH P w base 3 I IV:=Mw I.F FT mq mh;show F.okD V6 λ_ A _ _ H vs Q E hr h=>?_;let{wa,U,ra,rs,M,nR,n,J,v,h,0,W,L,h0,o,v0,v1,hh,k}:=h;let hu:=TC hr;show{_,zP (AX (i:=4) V6.nd (U2 rfl hu (by rfl) nT (zC (AI GN hr I (zC (pv 0) (zC (pv 2) (zC (AJ AS (pv 1) (pv 3)) zL)))) zL) Av))
  (zP (AX (i:=5) V6.nd (U2 rfl hu (by rfl) nT (zC (AI GN hr I (zC (pv 0) (zC (pv 3) (zC (AJ AS (pv 1) (pv 2)) zL)))) zL) Av))
  (zV (zt (BZ (zC (pv 3) (zC (AJ AS (AJ AS (pv 1) (pv 2)) (pv 3)) (zC (pv 4) (zC (pv 5) zL)))))))),?_}
 let{rh,gh,ha,Lh}:=L.rows.at L.right h0 o;let{C,gv,hv,Lv}:=L.rows.at L.right v0 v1;show{4,4,U,3,.ref rh,2,AB.of L.tab,Ao h0 gh,wa,rh,n,J,v,h,1,W,v0,v1,h0,o,ha,Lh,λl1 xs H1 s1 nY _ hm1=>?_};show{1,?_};unfold tC;show ZL (AB.of nY) λu hu1=>?_;let L1:=L.same s1;show{4,4,U,3,.ref C,2,AB.of L1.tab,Ao v0 gv,wa,C,n,J,h,v,1,W.keep s1,h0,o,v0,v1,s1 _ _ hv,Lv,λl2 ys H2 s2 nH _ hm2=>?_};show{1,?_};dsimp only;show ZL (AB.of nH) λd hd1=>?_;let o7:=s1.trans s2;let L2':=L.same o7;let{dd,pZ}:=hh.1;let lv:=BY.uniq (Lv.len h h0 o) (show BY J v h (some dd) from WM.IsD.symm pZ);show{1,4,U,3,.ref C,2,AB.of L2'.tab,Ao v0 gv,1,C,3,.int dd,2,AB.of (o7 _ _ hv),Ao h0 (by rw[Fb Lv h0 o,lv];rfl),4,N3,λa qv=>?_};show k a ⟨h,dd,u,d⟩ _ (o7.trans (zK qv)) zJ rfl {⟨h0,o⟩,hh,WM.IsD.symm pZ,hu1.congr hm1,hd1.congr hm2}
def ik (R:Rows ts n M)(x0:0<=x)(x1:x<n)(J:0<=y)(U:y<n)(h:WM.IsD ts x y d):0<=d/\d<=2376:=by
 let L:=R.2 x x0 x1;let l:=L.len y J U;cases e:AY (M.getD x.toNat []) y with
 | none=>rw[e] at l;show absurd h.1 (l d)
 | some C=>
  rw[e] at l;let ed:C=d:=WM.IsD.uniq l h;subst ed;show L.bd (some C) ?_ C rfl;unfold AY at e;rw[if_pos J,zI] at e;cases I:(M.getD x.toNat [])[y.toNat]? with
  | none=>rw[I] at e;cases e
  | some o=>rw[I] at e;let eo:o=some C:=e;rw[<-eo];show zN I
def Bh (n:Int)(os:List Int)(o:Int->Int):Prop:=∀p,0<=p->p<n->0<=o p/\os[(o p).toNat]?=some p
def CQ (ts:List T3)(n:Int)(o:Int->Int)(ess:List (List En)):Prop:=ess.length=n.toNat/\∀(i:Nat)es,ess[i]?=some es->C1 ts n o i es
inductive X9 (PT:Addr)(vs:List V)(H:Hp)(Q:VK):Prop
 | mk:∀(wa p:Addr)(n:Int)(ts:List T3)(os:List Int),(vs=[.ref wa,.ref p])->(Ak H wa n ts)->(H p=some (.tup (os.map V.int)))->(CC n os)->(Tb H PT)->(∀(l:Addr)(ess:List (List En))(rk:Int->Int)(H':Hp),Aa H H'->Tb H' PT->BJ H' l ess->Bh n os rk->CQ ts n rk ess->(∀es∈ess,∀e∈es,0<=e.l/\e.l<=2376)->Q (.ref l) H')->X9 PT vs H Q
def Ov (PT:Addr):Sp:=λo H Q _=>X9 PT o H Q
def CC.mem {os:List Int}(O:CC n os)(h0:0<=p)(C:p<n):p∈os:=by
 apply NQ;intro o;let:=nd_len (n:=n.toNat) (l:=p::os) (C7.mpr ⟨o,O.nd⟩) λx hx=>by
  rcases zS.mp hx with rfl | hx
  . lia
  . let:=O.rng x hx;lia
 rw[zm,O.ln] at this
 lia
def IL:zo ["web","rows","ranks","place","hubs"] UQ (defScope G7):=AQ
def Ks (F:Fu K "label_by_ranks" G7 f ml) (FI:AE K mg "is_hub" Hc fI fdI RK) (GI:AH P w base 4 FI Uu)
 (FE:AE K mg "entry_by_rows" HL fE fdE Ua) (GE:AH P w base 4 FE U3) (mi:mg "range"=none) (mh:mg "tuple"=none):
 AF P w K mg base AL 5 f ml UQ Vt:=by
 show F.okD IL λ_ A _ _ H vs Q E hr h=>?_;let{wa,rl,ra,rs,M,nR,n,ts,v,0,W,L,v0,v1,k}:=h;let{ta,tys,nI,3,G}:=id W;let qi:=G.n1;let n0:=G.n24;show{_,zP (Hz (i:=4) (own:=["hub"]) (cn:=["rows","ranks","place"]) (ci:=[1,2,3]) IL.nd rfl (Or.inl rfl) rfl (Aq rfl rfl) {8,8,8,trivial} rfl
  (Dp rfl mi (zC (AJ AS (pv 0) zg) zL)) (λ_ _ _ _=>An)
  (λ_ _ _ _=>Fd (BR (AI GI hr FI (zC (pv 1) (zC (pv 2) (zC (pv 0) (zC (pv 3) zL))))))) (λ_ _ _ _=>pv 0))
  (zV (zt (BQ Cf mh (zC (A3 (own:=["hub"]) (cn:=["web","rows","place"]) (ci:=[0,1,3]) rfl (Aq rfl rfl) {8,8,8,trivial} rfl
   (C2 (pv 4)) (λ_ _ _ _=>An) (λ_ _ _ _=>A8)
   (λ_ _ _ _=>AI GE hr FE (zC (pv 1) (zC (pv 2) (zC (pv 3) (zC (pv 0) zL)))))) zL)))),?_}
 show{1,wa,_,5,AB.of nI,0,n,0,(),(),[.ref rl,.ref ra,.int v],0,λD hD=>?_};show Jx (lo:=0) (n:=n.toNat) (λq C H3=>q<=n.toNat/\(∃o:List Int,C=o.map V.int/\o.Pairwise (· < ·)/\∀p,p∈o↔(0<=p/\p<(q:Int))/\F5 ts (CV nR) p v)/\AG H H3/\H3 D=some (.lst C)) {zd _,{[],0,List.Pairwise.nil,λp=>{λz=>by simp at z,λz=>absurd z.1 ()}},zK hD,zJ} (λq C H3 z=>?_) (λq C H3 hq z=>?_) (λC H3 z=>?_)
 . let{hq,{o,0,J,hm},_}:=z;rw[zB];let:=nd_len (n:=q) (l:=o) (J.imp λz=>()) λx I=>by let:=((hm x).mp I).1;lia
   show BV ()
 . let{_,{o,0,J,hm},s3,pH}:=z;rw[EK];show{{2},?_};show{4,4,rl,ra,rs,M,nR,n,ts,q,v,0,L.same s3,(),(),v0,v1,λb H4 s4 hb=>?_};show{1,?_};show CP (λc=>?_) (λc=>?_)
   . show{1,s4 _ _ pH,hq,{o++[(q:Int)],by rw[zQ];rfl,List.pairwise_append.mpr {J,List.pairwise_singleton _ _,λa ha b pL=>?_},λp=>?_},Bs (s3.trans s4) hD,zJ}
     . let:b=(q:Int):=by simpa using pL
       let:=((hm a).mp ha).1
       lia
     . rw[Bi,hm];constructor
       . rintro (⟨a,b⟩ | a)
         . show{(),b}
         . let:p=(q:Int):=by simpa using a
           subst this;show{(),hb.mp c}
       . rintro ⟨a,b⟩;by_cases e:p=(q:Int)
         . show .inr (by simpa using e)
         . show .inl {(),b}
   . show{hq,{o,0,J,λp=>?_},s3.trans s4,s4 _ _ pH};rw[hm];constructor
     . rintro ⟨a,b⟩;show{(),b}
     . rintro ⟨a,b⟩;show{?_,b};let:p≠(q:Int):=λz=>by subst z;show c (hb.mpr b)
       lia
 . let{_,{o,0,J,hm},s3,pH}:=z;let hsl:o.length<=24:=by
    let:=nd_len (n:=n.toNat) (l:=o) (J.imp λz=>()) λx I=>by let:=((hm x).mp I).1;lia
    lia
   show{1,D,0,{_,AD.of pH},[.ref wa,.ref rl,.int v],0,λD2 nV=>?_};show Jp (a:=D) (xs:=o.map V.int) (λi C U=>i<=o.length/\(∃(as:List Addr)(es:List En),C=as.map V.ref/\DS U as es/\es.map (·.h)=o.take i/\∀e∈es,Hf ts n (CV nR) v e)/\AG H3 U/\U D2=some (.lst C)) {zd _,{[],[],0,{0,λi a z=>by simp at z},0,by simp},zK nV,zJ} (λi C U z=>?_) (λi C U z=>?_) (λi x C U I z=>?_) (λC U z=>?_)
   . show AD.of (z.2.2.1 _ _ pH)
   . let{_,{as,es,0,EA,em,_},_}:=z;let:=congrArg List.length em;rw[zB,zl] at this;rw[zB,EA.1];show BV ()
   . let{_,{as,es,0,EA,em,he},s5,oU}:=z;obtain⟨p,hpi,rfl⟩:∃p,o[i]?=some p/\V.int p=x:=by
      rw[zO] at I;cases e:o[i]? with
      | none=>rw[e] at I;cases I
      | some p=>rw[e] at I;show{p,0,zW I}
     let hpm:=(hm p).mp (zN hpi);let s35:=s3.trans s5;show{{2},?_};show A9 ?_;show{4,4,wa,rl,ra,rs,M,nR,n,ts,v,p,0,W.keep s35,L.same s35,(),(),v0,v1,hpm.2,λa e H6 s6 ha ep o4=>?_};show{s6 _ _ oU,(zF.mp hpi).1,{as++[a],es++[e],by rw[zQ];rfl,(EA.keep λb zs z=>?_).snoc ?_,?_,λx oQ=>?_},Bs (s5.trans s6) nV,zJ}
     . rw[zY (Ac z oU (by intro y;cases y))];show s6 _ _ z
     . rwa[zY (Ac ha (s6 _ _ oU) (by intro y;cases y))]
     . rw[zQ,em,zj,hpi,<-ep];rfl
     . rcases Bi.mp oQ with z | z
       . show he x z
       . let:x=e:=by simpa using z
         subst this;show o4
   . let{_,{as,es,0,EA,em,he},s5,oU}:=z;rw[zB,zR (zH _)] at em;let hel:es.length<=24:=by let:=congrArg List.length em;rw[zB] at this;lia
     show{D2,1,.inl {AD.of oU,λl hl=>?_}};show k l es _ ((s3.trans s5).trans (zK hl)) {as,zJ,EA.keep λb zs z=>zK hl _ _ z,()} {?_,he,λh h0 h1 z=>?_,hel}
     . let:=J;rwa[<-em,CM] at this
     . let:h∈es.map (·.h):=by rw[em];show (hm h).mpr {(),z}
       let{e,e1,e2}:=zp.mp this;show⟨e,e1,e2⟩
def U5:zo ["web","order","rows","ranks"] Nx (defScope Eo):=AQ
def Lb (F:Fu K "by_order" Eo f ml) (FO:AE K mg "is_order" G0 fO fdO BE) (GO:AH P w base 5 FO V7)
 (FL:AE K mg "lengths" Oc fL fdL Df) (GL:AH P w base 5 FL (SE PT))
 (FB:AE K mg "label_by_ranks" G7 fB fdB UQ) (GB:AH P w base 5 FB Vt) (mi:mg "range"=none) (mh:mg "tuple"=none):
 AF P w K mg base AL 6 f ml Nx (Ov PT):=by
 show F.okD U5 λ_ A _ _ H vs Q E hr h=>?_;let{wa,p,n,ts,os,0,W,hp,O,T,k}:=h;let{ta,tys,nI,3,G}:=id W;let qi:=G.n1;let n0:=G.n24;show{_,zP (AV (Bw (BR (AI GO hr FO (zC (pv 0) (zC (pv 1) zL))))) (zV JX) zw)
  (zP (Jy (i:=2) U5.nd rfl (Or.inr rfl) (AI GL hr FL (zC (pv 0) zL)))
  (zP (Jy (i:=3) U5.nd rfl (Or.inr rfl) (A3 (own:=EZ) (cn:=["order"]) (ci:=[1]) rfl (Aq rfl rfl) {8,trivial} rfl
   (Dp rfl mi (zC (AJ AS (pv 0) zg) zL)) (λ_ _ _ _=>An) (λ_ _ _ _=>A8)
   (λ_ _ _ _=>He PySem.F.slot_tuple_index PySem.F.type_tuple_index bD (pv 1) (zC (pv 0) zL))))
  (zV (zt (BQ Cf mh (zC (A3 (own:=EZ) (cn:=["web","rows","ranks"]) (ci:=[0,2,3]) rfl (Aq rfl rfl) {8,8,8,trivial} rfl
   (Dp rfl mi (zC (AJ AS (pv 0) zg) zL)) (λ_ _ _ _=>An) (λ_ _ _ _=>A8)
   (λ_ _ _ _=>AI GB hr FB (zC (pv 1) (zC (pv 2) (zC (pv 3) (zC (pv 0) zL)))))) zL)))))),?_}
 show{4,wa,p,n,ts,os,0,W,hp,O,λH0 s0=>?_};show{1,Ax ?_};show{1,wa,n,ts,0,W.keep s0,T.same s0,λrl rs M H1 sm1 T1 hrl RA RR=>?_};let J:Aa H H1:=(Aa.of s0).trans sm1;let hwa1:H1 wa=some (.tup [.int n,.ref ta]):=J.get nI (by intro ps z;cases z);let oj:H1 p=some (.tup (os.map V.int)):=J.get hp (by intro ps z;cases z);let W1:Ak H1 wa n ts:=W.smT J;show{1,wa,_,5,AB.of hwa1,0,n,0,(),(),[.ref p],0,λD hD=>?_};show Jx (lo:=0) (n:=n.toNat) (λq U H3=>q<=n.toNat/\(∃C:List Int,U=C.map V.int/\C.length=q/\∀(j:Nat)(x:Int),C[j]?=some x->0<=x/\os[x.toNat]?=some (j:Int))/\H3=upd H1 D (.lst U)) {zd _,{[],2,λj x z=>by simp at z},0} (λq U H3 z=>?_) (λq U H3 hq z=>?_) (λU H3 z=>?_)
 . let{_,{C,0,hl,_},_}:=z;rw[zB];show BV ()
 . let{_,{C,0,hl,hrk},0}:=z;rw[EK];let{i,hi,ei}:=DA (O.mem (p:=(q:Int)) () ());let qg:os[i]?=some (q:Int):=by rw[zD hi,ei]
   let hp3:=zK (o:=.lst (C.map V.int)) hD _ _ oj;show{{2},?_};show A9 ?_;show{1,{p,1,hp3},1,p,os,i,q,2,AB.of hp3,qg,λj hj e=>?_,zJ,hq,{C++[(i:Int)],by rw[zQ];rfl,by rw[zT,hl];rfl,λj x hx=>?_},Bj}
   . let{hj',ej}:=zF.mp e;show zq.mp (List.nodup_iff_pairwise_ne.mp O.nd) j i hj' hi hj (by rw[ej,ei])
   . by_cases c:j<C.length
     . rw[zi c] at hx;show hrk j x hx
     . let hj:j=q:=by let:=(zF.mp hx).1;rw[zT] at this;simp at this;lia
       subst hj;rw[zh (),hl,Nat.sub_self] at hx;let:(i:Int)=x:=by simpa using hx
       subst this;show{(),qg}
 . let{_,{C,0,hl,hrk},0}:=z;let sD:AG H1 (upd H1 D (.lst (C.map V.int))):=zK hD;let hDr:(upd H1 D (.lst (C.map V.int))) D=some (.lst (C.map V.int)):=zJ;generalize upd H1 D (.lst (C.map V.int))=H4 at sD hDr ⊢;let L:Eb H4 rl D rs M C n ts:={sD _ _ hrl,RA.same sD,RR,hDr,hl,G};let W4:=W1.keep sD;show{1,wa,_,5,AB.of (sD _ _ hwa1),0,n,0,(),(),[.ref wa,.ref rl,.ref D],0,λD2 nV=>?_};show Jx (lo:=0) (n:=n.toNat) (λq U H5=>q<=n.toNat/\(∃(as:List Addr)(I:List (List En)),U=as.map V.ref/\as.length=q/\I.length=q/\(∀(i:Nat)(a:Addr),as[i]?=some a->∃es,I[i]?=some es/\A6 H5 a es)/\∀(i:Nat)(es:List En),I[i]?=some es->C1 ts n (CV C) i es)/\AG H4 H5/\H5 D2=some (.lst U)) {zd _,{[],[],8,λi a z=>by simp at z,λi a z=>by simp at z},zK nV,zJ} (λq U H5 z=>?_) (λq U H5 hq z=>?_) (λU H5 z=>?_)
   . let{_,{as,I,0,h1,_},_}:=z;rw[zB];show BV ()
   . let{_,{as,I,0,h1,h2,h3,h4},s5,oU}:=z;rw[EK];show{{2},?_};show A9 ?_;show{4,4,wa,rl,D,rs,M,C,n,ts,q,0,W4.keep s5,L.same s5,(),(),λa es H6 s6 la lo=>?_};show{s6 _ _ oU,hq,{as++[a],I++[es],by rw[zQ];rfl,by rw[zT,h1];rfl,by rw[zT,h2];rfl,λi b hb=>?_,λi o5 he=>?_},Bs (s5.trans s6) nV,zJ}
     . let keep:∀c zs,H6 c=some (.tup zs)->(upd H6 D2 (.lst (as.map V.ref++[.ref a]))) c=some (.tup zs):=λc zs z=>by rwa[zY (Ac z (s6 _ _ oU) (by intro y;cases y))]
       by_cases c:i<as.length
       . rw[zi c] at hb;let{o5,e1,e2}:=h3 i b hb;show{o5,by rwa[zi ()],(e2.same s6).keep keep}
       . let hi:i=q:=by let:=(zF.mp hb).1;rw[zT] at this;simp at this;lia
         subst hi;rw[zh (),h1,Nat.sub_self] at hb;let:a=b:=by simpa using hb
         subst this;show{es,by rw[zh (),h2,Nat.sub_self];rfl,la.keep keep}
     . by_cases c:i<I.length
       . rw[zi c] at he;show h4 i o5 he
       . let hi:i=q:=by let:=(zF.mp he).1;rw[zT] at this;simp at this;lia
         subst hi;rw[zh (),h2,Nat.sub_self] at he;let:es=o5:=by simpa using he
         subst this;show lo
   . let{_,{as,I,0,h1,h2,h3,h4},s5,oU}:=z;show{D2,1,.inl {AD.of oU,λl nU=>?_}};let s6:AG H1 (upd H5 l (.tup (as.map V.ref))):=(sD.trans s5).trans (zK nU);show k l I (CV C) _ (J.trans (Aa.of s6)) (T1.same s6) {as,zJ,(),λi a ha=>?_} (λp h0 h1'=>?_) ⟨h2,h4⟩ ?bound
     case bound=>
      intro es pY e he;let{i,hi,ei}:=DA pY;let EO:=(h4 i es (by rw[zD hi,ei])).ent e he;show ik RR () () EO.rng.1 EO.rng.2 EO.len
     . let{es,e1,e2}:=h3 i a ha;show{es,e1,e2.same (zK nU)}
     . let mr:p.toNat<C.length:=()
       let e:C[p.toNat]?=some (CV C p):=by unfold CV;rw[zI,zD mr];rfl
       let{a,b}:=hrk _ _ e;show{a,by rw[b,Jk h0]}
def DB.uniq {P:Int->Prop}:∀{a b:Option Int},DB P a->DB P b->a=b
 | none,none,_,_=>rfl
 | none,some m,h,h'=>absurd h'.1 (h m)
 | some m,none,h,h'=>absurd h.1 (h' m)
 | some m,some k,h,h'=>congrArg some (Int.le_antisymm (h.2 k h'.1) (h'.2 m h.1))
def Hf.uniq (x:Hf ts n rk v e)(y:Hf ts n rk v e')(h:e.h=e'.h):e=e':=by let{h1,J,C,d1}:=e;let{h2,I,o,d2}:=e';let U:h1=h2:=h;subst U;let e1:J=I:=WM.IsD.uniq x.len y.len;let e2:C=o:=DB.uniq x.up y.up;let e3:d1=d2:=DB.uniq x.dn y.dn;rw[e1,e2,e3]
def Zp:∀{a b:List En},Eu a->Eu b->(∀e,e∈a↔e∈b)->a=b
 | [],[],_,_,_=>rfl
 | [],y::b,_,_,h=>absurd ((h y).mpr za) (by simp)
 | x::a,[],_,_,h=>absurd ((h x).mp za) (by simp)
 | x::a,y::b,ha,hb,h=>by
  let{I,J}:=Fv.mp ha;let{C,U}:=Fv.mp hb;let o:x=y:=by
   rcases zS.mp ((h x).mp za) with e | m
   . show e
   . rcases zS.mp ((h y).mpr za) with e | m'
     . show e.symm
     . let:=C x m;let:=I y m'
       lia
  subst o;rw[Zp J U λe=>{λm=>?_,λm=>?_}]
  . rcases zS.mp ((h e).mp (zZ _ m)) with z | z
    . subst z;show absurd (I e m) ()
    . show z
  . rcases zS.mp ((h e).mpr (zZ _ m)) with z | z
    . subst z;show absurd (C e m) ()
    . show z
def C1.uniq (x:C1 ts n rk v es)(y:C1 ts n rk v o5):es=o5:=by
 show Zp x.hub y.hub λe=>{λm=>?_,λm=>?_}
 . let E:=x.ent e m;let{C,o,h'}:=y.all e.h E.rng.1 E.rng.2 E.hub;rwa[E.uniq (y.ent C o) h'.symm]
 . let E:=y.ent e m;let{C,o,h'}:=x.all e.h E.rng.1 E.rng.2 E.hub;rwa[E.uniq (x.ent C o) h'.symm]
def Bh.eq {os:List Int}(nd:os.Nodup)(a:Bh n os rk)(b:Bh n os nv)(h0:0<=p)(o:p<n):rk p=nv p:=by
 let{a0,a1}:=a p h0 o;let{b0,J}:=b p h0 o;let{i1,I}:=zF.mp a1;let{U,C}:=zF.mp J;let:=(List.getElem_inj nd).mp (I.trans C.symm)
 lia
def CQ.uniq {os:List Int}(G:GW n ts)(nd:os.Nodup)(a:Bh n os rk)(b:Bh n os nv)(x:CQ ts n rk ess)(y:CQ ts n nv qy):ess=qy:=by apply List.ext_getElem (x.1.trans y.1.symm);intro i J I;show (x.2 i _ (zD J)).uniq ((y.2 i _ (zD I)).congr G λp C o=>b.eq nd a C o)
structure OV (ts:List T3)(n:Int)(ess:List (List En)):Prop where
 ln:ess.length=n.toNat
 lg:∀(i:Nat)(es:List En),ess[i]?=some es->LG ts n i es
 cov:∀(i j:Nat)(es fs:List En),ess[i]?=some es->ess[j]?=some fs->KR ts i j es fs
def DB.some_of {P:Int->Prop}(h:DB P o)(C:P p):∃m,o=some m/\P m:=by
 cases o with
 | none=>show absurd C (h p)
 | some m=>show{m,0,h.1}
def C1.lg (G:GW n ts)(L:C1 ts n rk v es)(v0:0<=v)(v1:v<n):LG ts n v es:=by
 show{L.hub,λe he=>?_,?_}
 . let E:=L.ent e he;show{E.rng,E.len,λC=>?_,λC=>?_}
   . let{p,o}:=BF.exists G E.len (Ne.symm C);show E.up.some_of o
   . let{p,o}:=BF.exists G E.len.symm C;show E.dn.some_of o
 . show L.all v v0 v1 {⟨0,Hy G v⟩,λp o=>?_};let{a,b,I,U,J}:=o;let e0:a+b=0:=J.uniq (Hy G v);let:=I.1.nn G;let:=U.1.nn G;let:a=0:=()
   rw[<-(Fx G I).mp this];show ER _
def CQ.good (G:GW n ts){os:List Int}(R:Bh n os rk)(L:CQ ts n rk ess):OV ts n ess:=by
 let pX:=L.1;let inr:∀(i:Nat)(es:List En),ess[i]?=some es->(0:Int)<=i/\(i:Int)<n:=λi es h=>by
  let:=(zF.mp h).1
  lia
 show{L.1,λi es h=>(L.2 i es h).lg G (inr i es h).1 (inr i es h).2,λi j es fs hi hj d hd=>?_};let{p,J,om}:=ah (P:=BM ts i j) rk (rk (i:Int)).toNat i (BM.self G hd) (zH _);let o:=inr i es hi;let{a,b,ia,ib,pS}:=id J;let C:=ia.1.in_ G o.1 o.2;let le:∀q,BM ts i j q->rk p<=rk q:=λq I=>by
  let{a',b',U,_}:=id I;let qr:=U.1.in_ G o.1 o.2;let h1:=om q I;let h2:=(R p C.1 C.2).1;let h3:=(R q qr.1 qr.2).1
  lia
 show{p,J,(L.2 i es hi).all p C.1 C.2 {⟨a,ia.symm⟩,λq I=>le q (J.trans I.symm)},(L.2 j fs hj).all p C.1 C.2 {⟨b,ib⟩,λq I=>le q (J.symm.trans I.symm).symm}}
def Zi:∀(l:List Int)(k:Nat),(l.map V.int).eraseIdx k=(l.eraseIdx k).map V.int
 | [],_=>rfl
 | _::_,0=>rfl
 | x::r,k+1=>by change V.int x::(r.map V.int).eraseIdx k=V.int x::(r.eraseIdx k).map V.int;rw[Zi r k]
def Yj:∀{l:List Int}{k:Nat}(h:k<l.length),(l[k]::l.eraseIdx k).Perm l
 | [],_,h=>absurd h (Hk _)
 | _::_,0,_=>List.Perm.refl _
 | x::r,k+1,h=>by
  let o:k<r.length:=by simpa using h
  change (r[k]::x::r.eraseIdx k).Perm (x::r);show (List.Perm.swap x r[k] _).trans ((Yj o).cons x)
def ZX:Sp:=λo H Q _=>∃t N n,o=[.ref t,.int n]/\Af H t N/\N<900000/\1<=n/\n<=24 /\
 ∀l os H',H' l=some (.tup (os.map V.int))->CC n os->Af H' t (N+24)->Sm t H H'->Q (.ref l) H'
def SY:zo ["_law_tape_here","_law_n","_law_left","_law_found","_law_k"] N2 (defScope WU):=AQ
def je (F:Fu K "_law_order" WU f ml) (FD:AE K mg "_law_draw" Jl fD fdD JC)
 (mj:mg "len"=none) (mi:mg "range"=none) (mh:mg "tuple"=none) (oE:mg "list"=none):AF P w K mg base AL 2 f ml N2 ZX:=by
 let GD:AH P w base 1 FD Vz:=U0 FD.F mj;show F.okD SY λ_ A _ _ H vs Q E hr h=>?_;let{t,N,n,0,TT,hN,qi,n0,k}:=h;let{tp,TP}:=TT;show{_,zP (AX (i:=2) SY.nd (il rfl rfl oE rfl mi (zC (pv 1) zL)))
  (zP (AX (i:=3) SY.nd (Dc zL))
  (zP (Bb (Dp rfl mi (zC (pv 1) zL)) (Az (i:=4) SY.nd)
   (zV (Dh (Bp PySem.F.plainAttrs_list PySem.F.slot_list_append PySem.F.type_list_append Nh (pv 3)
    (zC (Bp PySem.F.plainAttrs_list PySem.F.slot_list_pop PySem.F.type_list_pop lY (pv 2)
     (zC (AI GD hr FD (zC (pv 0) (zC (AZ Bq mj (zC (pv 2) zL)) zL))) zL)) zL)))))
  (zV (zt (BQ Cf mh (zC (pv 3) zL)))))),?_}
 show{1,n,0,(),(),λlf J=>?_};let{ns0,sp0,re0,ht0,hp0,_}:=id TP;let nlt:lf≠t:=(zr ht0 J).symm;let nlp:lf≠tp:=(zr hp0 J).symm;show{zd _,λD hD=>?_};let I:D≠lf:=λz=>by rw[z,zJ] at hD;cases hD
 let U:H D=none:=by rw[zY I] at hD;show hD
 let nDt:D≠t:=(zr ht0 U).symm;let nDp:D≠tp:=(zr hp0 U).symm;show{1,n,0,(),(),Hs (lo:=0) (n:=n.toNat) (λq σ H2=>Nu λ(v4:Option V)(row left:List Int)=>σ=[some (.ref t),some (.int n),some (.ref lf),some (.ref D),v4]/\row.length=q/\(row++left).Perm (lowTo n.toNat)/\H2 lf=some (.lst (left.map V.int))/\H2 D=some (.lst (row.map V.int))/\DE H2 t tp (N+q)/\Sm t H H2)
  {none,[],lowTo n.toNat,2,List.Perm.refl _,by rw[zY I.symm,zJ],zJ,TP.keepF (λo e=>by rw[zY nDt.symm,zY nlt.symm];show e) (λo e=>by rw[zY nDp.symm,zY nlp.symm];show e) (),(Sm.laid J).chg U} ?turn ?after}
 case after=>
  rintro σ H2 ⟨v4,row,left,rfl,hl,hp,C,nV,TP2,s2⟩;let hleft:left=[]:=by let:=hp.length_eq;rw[zT,Na,hl] at this;show Hh.mp ()
  subst hleft;rw[Bl] at hp;let nd:row.Nodup:=hp.nodup_iff.mpr ((V2 _).imp λh=>());show{1,D,1,.inl {AD.of nV,λl nU=>?_}};show k l row _ zJ {hl,nd,λp hp'=>?_} (Af.mono (Af.laid ⟨tp,TP2⟩ nU) ()) (s2.trans (Sm.laid nU));let:=OL.mp (hp.mem_iff.mp hp')
  lia
 case turn=>
  rintro q σ H2 hq ⟨v4,row,left,rfl,hl,hp,C,nV,TP2,s2⟩;let hll:row.length+left.length=n.toNat:=by let:=hp.length_eq;rw[zT,Na] at this;show this
  show{1,.inl {0,_,AD.of nV},1,.inl {0,_,AD.of C},?_};show{4,lf,1,.inl (AD.of C),t,tp,N+q,1,TP2,(),by rw[zB];lia,by rw[zB];lia,λrr H3 h0 h1 TP3 e3=>?_};rw[zB] at h1;let mr:rr.toNat<left.length:=()
  show{lf,left.map V.int,rr,rr.toNat,.int left[rr.toNat],2,by rw[e3 lf nlt];show C,(),(),PySem.StrLaws.seqIndex_nonneg h0 (by rw[zB];lia),by rw[zO,zD mr];rfl,?_};rw[Zi left rr.toNat];let s3:Sm t H H3:=λb o nb e=>by rw[e3 b nb];show s2 b o nb e
  let hlf0:H lf=none:=J;show{D,5,by rw[zY I,e3 D nDt];show nV,by rw[zB];show BV (),?_};show{_,row++[left[rr.toNat]],left.eraseIdx rr.toNat,0,by rw[zT,hl];rfl,?_,by rw[zY I.symm,zJ],by rw[zQ];show zJ,TP3.keepF (λo e=>by rw[zY nDt.symm,zY nlt.symm];show e) (λo e=>by rw[zY nDp.symm,zY nlp.symm];show e) (),(s3.chg hlf0).chg U};show List.Perm.trans ?_ hp;rw[KG];show (Yj mr).append_left row
def Qn (h:PS X st u)(m:∀D σ H,u' D σ H->u D σ H):PS X st u':=λpins s σ H D I q=>h pins s σ H D I (m D σ H q)
def KY (ts:List T3):Prop:=Du (ts.map tl)
def Ah (C:Addr)(H H':Hp):Prop:=∀b o,b≠C->H b=some o->(∃ps,o=.tbl ps)\/H' b=some o
def Ah.of (h:AG H H'):Ah kp H H':=λb o _ e=>.inr (h b o e)
def Ah.ofT (h:Aa H H'):Ah kp H H':=λb o _ e=>h b o e
def Ah.trans (a:Ah kp H H1)(b:Ah kp H1 H2):Ah kp H H2:=λc o n e=>by
 rcases a c o n e with z | z
 . show .inl z
 . show b c o n z
def Ah.get (s:Ah kp H H')(n:b≠kp)(e:H b=some o)(h:∀ps,o ≠ .tbl ps):H' b=some o:=by
 rcases s b o n e with ⟨ps,z⟩ | z
 . show absurd z (h ps)
 . show z
def Ah.chg (s:Ah kp H H'):Ah kp H (upd H' kp o):=λb u n e=>by rw[zY n];show s b u n e
def Vg (T:By H PT pos q)(h:H kp=some (.ins C dx fs)):By (upd H kp o) PT pos q:=by
 show T.keep (λu e=>?_) λc J e=>?_
 . let{ps,I,_}:=T;rwa[zY (Ac I h (by intro z;cases z))]
 . rwa[zY (Ac e h (by intro z;cases z))]
meta def dY (I o C:Addr):List (Str×V):=[("labels",.ref I),("web",.ref o),("order",.ref C)]
structure CO (H:Hp)(C kp dx la wa oa:Addr)(n:Int)(ts:List T3)(os:List Int)(ess:List (List En)):Prop where
 ins:H kp=some (.ins C dx (dY la wa oa))
 web:Ak H wa n ts
 ord:H oa=some (.tup (os.map V.int))
 lab:BJ H la ess
 lof:∃rk,Bh n os rk/\CQ ts n rk ess
 od:CC n os
 sr:KY ts
 bd:∀es∈ess,∀e∈es,0<=e.l/\e.l<=2376
def CO.keep {os:List Int}(h:CO H C kp dx la wa oa n ts os ess)(I:H' kp=H kp)(o:∀b ys,H b=some (.tup ys)->H' b=some (.tup ys)):CO H' C kp dx la wa oa n ts os ess:=
 {I.trans h.ins,h.web.keepT o,o _ _ h.ord,h.lab.keep o,h.lof,h.od,h.sr,h.bd}
def CO.same {os:List Int}(h:CO H C kp dx la wa oa n ts os ess)(s:AG H H'):CO H' C kp dx la wa oa n ts os ess:=
 h.keep ((s _ _ h.ins).trans h.ins.symm) λb o e=>s _ _ e
meta def EV (e:En):List (Option Int):=[some e.h,some e.l,e.u,e.d]
def BJ.at_ (h:BJ H l ess)(hi:i<ess.length):∃(as:List Addr)(a:Addr),H l=some (.tup (as.map V.ref))/\(as.map V.ref)[i]?=some (.ref a)/\A6 H a (ess.getD i []):=by
 let{as,I,U,C}:=h;let o:i<as.length:=()
 let{es,J,e2}:=C i as[i] (zD o);show{as,as[i],I,by rw[zO,zD o];rfl,?_};rwa[zI,J]
structure KC (K:AK)(mg:A2)(C fI fW fL:Addr):Prop where
 mC:mg "Keeper"=some (.ref C)
 mI:Mk K C fI
 cl:EY K C
 nl:DP K C "labels"
 nw:DP K C "web"
 no:DP K C "order"
 mW:D6 K C "web_now" fW
 mL:D6 K C "labels_now" fL
inductive cN (C:Addr)(PT:Addr)(vs:List V)(H:Hp)(Q:VK):Prop
 | mk:∀(kp dx wa oa:Addr)(n:Int)(ts:List T3)(os:List Int),(vs=[.ref kp,.ref wa,.ref oa])->(H kp=some (.ins C dx []))->(Ak H wa n ts)->(KY ts)->(H oa=some (.tup (os.map V.int)))->(CC n os)->(Tb H PT)->(∀(la:Addr)(ess:List (List En))(H':Hp),Ah kp H H'->Tb H' PT->CO H' C kp dx la wa oa n ts os ess->Q .non H')->cN C PT vs H Q
def Ha (C PT:Addr):Sp:=λo H Q _=>cN C PT o H Q
inductive YW (C:Addr)(vs:List V)(H:Hp)(Q:VK):Prop
 | mk:∀(kp dx la wa oa:Addr)(n:Int)(ts:List T3)(os:List Int)(ess:List (List En)),(vs=[.ref kp])->(CO H C kp dx la wa oa n ts os ess)->(Q (.ref wa) H)->YW C vs H Q
def Gz (C:Addr):Sp:=λo H Q _=>YW C o H Q
inductive cI (C:Addr)(vs:List V)(H:Hp)(Q:VK):Prop
 | mk:∀(kp dx la wa oa:Addr)(n:Int)(ts:List T3)(os:List Int)(ess:List (List En)),(vs=[.ref kp])->(CO H C kp dx la wa oa n ts os ess)->(Q (.ref la) H)->cI C vs H Q
def MP (C:Addr):Sp:=λo H Q _=>cI C o H Q
def Ws (la):BK "labels" la []=([("labels",la)]:List (Str×V)):=rfl
def XX (la wa):BK "web" wa [("labels",la)]=([("labels",la),("web",wa)]:List (Str×V)):=by unfold BK;rw[if_neg (by decide)];rfl
def Wt (la wa oa):BK "order" oa [("labels",la),("web",wa)]=([("labels",la),("web",wa),("order",oa)]:List (Str×V)):=by unfold BK;rw[if_neg (by decide)];unfold BK;rw[if_neg (by decide)];rfl
section
variable {P:Program}{w:World}{K:AK}{mg:A2}{base:Heap}{C fI fW fL PT:Addr}
def XB:zo CY CY (defScope UH):=AQ
def Q9 (T:KC K mg C fI fW fL)(F:BS K "web_now" "Keeper.web_now" UH f ml):AF P w K mg base AL 1 f ml CY (Gz C):=by show F.okD XB λ_ A _ _ H U Q E hr h=>?_;let{o,dx,la,J,oa,n,ts,os,I,0,k,q}:=h;show{_,zV (zt (OE (pv 0) rfl)),?_};show{1,o,C,dx,7,k.ins,T.cl,T.nw,0,q}
def Wb:zo CY CY (defScope Tx):=AQ
def RH (T:KC K mg C fI fW fL)(F:BS K "labels_now" "Keeper.labels_now" Tx f ml):AF P w K mg base AL 1 f ml CY (MP C):=by show F.okD Wb λ_ A _ _ H U Q E hr h=>?_;let{o,dx,la,J,oa,n,ts,os,I,0,k,q}:=h;show{_,zV (zt (OE (pv 0) rfl)),?_};show{1,o,C,dx,7,k.ins,T.cl,T.nl,0,q}
def XG:zo GY GY (defScope UC):=AQ
def Pc (T:KC K mg C fI fW fL)(F:BS K "__init__" "Keeper.__init__" UC f ml) (FB:AE K mg "by_order" Eo fB fdB Nx) (GB:AH P w base 6 FB (Ov PT)):
 AF P w K mg base AL 7 f ml GY (Ha C PT):=by
 show F.okD XG λ_ A _ _ H vs Q E hr h=>?_;let{I,dx,wa,oa,n,ts,os,0,hkp,W,sr,qh,O,TT,q}:=h;show{_,zP (OK (pv 0) (AI GB hr FB (zC (pv 1) (zC (pv 2) zL))) rfl)
  (zP (OK (pv 0) (pv 1) rfl) (zV (OK (pv 0) (pv 2) rfl))),?_}
 show{4,wa,oa,n,ts,os,0,W,qh,O,TT,λla ess rk H1 s1 T1 L1 R1 LO bd=>?_};let o:H1 I=some (.ins C dx []):=s1.get hkp (by intro ps z;cases z);show{1,I,C,dx,1,o,T.cl,T.nl,by change 0<1000;decide,?_};rw[Ws];show{4,I,C,dx,1,zJ,T.cl,T.nw,by change 1<1000;decide,?_};rw[XX,Bj];show{4,I,C,dx,1,zJ,T.cl,T.no,by change 2<1000;decide,?_};rw[Wt,Bj];let U:∀b J,H1 b=some (.tup J)->(upd H1 I (.ins C dx (dY la wa oa))) b=some (.tup J):=λb J e=>by rwa[zY (Ac e o (by intro z;cases z))]
 show q la ess _ (Ah.ofT s1).chg (Vg T1 o) {zJ,(W.keepT λb J e=>s1.get e (by intro ps z;cases z)).keepT U,U _ _ (s1.get qh (by intro ps z;cases z)),L1.keep U,⟨rk,R1,LO⟩,O,sr,bd}
end
structure XR (n:Int)(e:En):Prop where
 rng:0<=e.h/\e.h<n
 nn:0<=e.l
 own:e.l=0->e.u=none/\e.d=none
 far:e.l≠0->∃u d,e.u=some u/\e.d=some d/\0<=u/\u<n/\0<=d/\d<n
structure DR (n:Int)(es:List En):Prop where
 ent:∀e∈es,XR n e
 hub:Eu es
 len:(es.length:Int)<=n
 one:(es.map (·.l)).countP (λx=>x==0)=1
def HR (K:AK):R2:=λx y H Q=>MR K x y H Q\/NG K x y H Q
def bZ :JQ (Bk X pl N' sc fp s3 H3) (HR X.K):=λo C pins s σ H x y v u Q I U J h e=>h.elim (λh=>Ux o C pins s σ H x y v u Q I U J h e) λh=>CG o C pins s σ H x y v u Q I U J h e
def mG (H:Hp)(p:Addr)(xs:List V):Prop:=H p=some (.lst xs)\/H p=some (.tup xs)
def VO:Sp:=λo H Q _=>∃p,∃(xs:List Int),o=[.ref p]/\mG H p (xs.map V.int)/\xs.Pairwise (· < ·)/\xs.length<=1000/\∀H',AG H H'->Q (.bl true) H'
def Uv:Sp:=λo H Q _=>∃n a e,o=[.int n,.ref a]/\H a=some (.tup (eV e))/\XR n e/\Q (.bl true) H
def VI:Sp:=λo H Q _=>∃n p es,o=[.int n,.ref p]/\A6 H p es/\DR n es/\∀H',AG H H'->Q (.bl true) H'
inductive aK (vs:List V)(H:Hp)(Q:VK):Prop
 | mk:∀(n:Int)(l:Addr)(ess:List (List En)),(vs=[.int n,.ref l])->(BJ H l ess)->((ess.length:Int)=n)->(n<=24)->((∀es∈ess,DR n es))->(∀H',AG H H'->Q (.bl true) H')->aK vs H Q
def WT:Sp:=λo H Q _=>aK o H Q
def QM:zo ["things"] ["things"] (defScope Es):=AQ
def dD (F:Fu K "is_rising" Es f ml) (mj:mg "len"=none) (mi:mg "range"=none) (my:mg "all"=none):AF P w K mg base AL 1 f ml ["things"] VO:=by
 show F.okD QM λ_ A _ _ H vs Q E hr h=>?_;let{p,xs,0,hp,oG,hl,k}:=h;show{_,zV (zt (AZ (Ff rfl) my (zC (A3 (own:=["k"]) (cn:=["things"]) (ci:=[0]) rfl (Aq rfl rfl) {8,trivial} rfl
  (YO rfl mi (zC zg (zC (AZ Bq mj (zC (pv 0) zL)) zL))) (λ_ _ _ _=>An) (λ_ _ _ _=>A8)
  (λ_ _ _ _=>Bo Oa (AJ bZ (pv 1) (Ae Gv (pv 0) zg)) (AJ bZ (pv 1) (pv 0)) (zx _))) zL))),?_}
 show⟨_,rfl,p,_,rfl,hp.elim (λh=>.inl (AD.of h)) (λh=>.inr (AB.of h)),1,_,rfl,{by decide,by decide,by rw[zB];lia,by rw[zB];lia},[.ref p],rfl,λD hD=>?_⟩;show Jx (lo:=1) (n:=(((xs.map V.int).length:Int)-1).toNat) (λq C J=>q<=(((xs.map V.int).length:Int)-1).toNat/\C=(List.replicate q true).map V.bl/\J=upd H D (.lst C)) {zd _,2} (λq C J z=>?_) (λq C J U z=>?_) (λC J z=>?_)
 . let{U,0,_}:=z;rw[zB] at U;rw[zB,C8];show DF ()
 . let{_,2}:=z;rw[zB] at U;let I:=zK (o:=.lst ((List.replicate q true).map V.bl)) hD;let ix:∀(i:Int)(v:V)(Q:VK),CK (xs.map V.int) i=some v->Q v (upd H D (.lst ((List.replicate q true).map V.bl)))->HR K (.ref p) (.int i) (upd H D (.lst ((List.replicate q true).map V.bl))) Q:=λi v Q e z=>hp.elim (λh=>.inl {p,_,i,v,2,AD.of (I _ _ h),e,z}) λh=>.inr {p,_,i,v,2,AB.of (I _ _ h),e,z};let h1:q<xs.length:=()
   let h2:q+1<xs.length:=()
   show{{2},?_};show A9 ?_;show{4,5,ix _ (.int xs[q]) _ (Ao () (by rw[show ((1:Int)+q-1).toNat=q by lia,zO,zD h1];rfl)) {4,ix _ (.int xs[q+1]) _ (Ao () (by rw[show ((1:Int)+q).toNat=q+1 by lia,zO,zD h2];rfl)) {5,zJ,by rw[zB];lia,?_,Bj}}};let mr:=zq.mp oG q (q+1) h1 h2 ()
   try dsimp only
   rw[zX mr,Gr,zQ];rfl
 . let{_,2}:=z;show{D,1,AD.of zJ,?_};let n6:∀m,(List.replicate m true).all id=true:=λm=>Gf.mpr λb hb=>(List.mem_replicate.mp hb).2;rw[n6];show k _ (zK hD)
def Kj:zo BG BG (defScope Tf):=AQ
def fg {fT:Addr}(F:Fu K "is_entry" Tf f ml) (FT:AE K mg "is_tuple_of" D4 fT p6 Lo)
 (FW:AE K mg "is_within" LJ fW qM IZ) (I:AE K mg "is_place" Kd fP fdP BG) (J:AE K mg "is_number" Hr fN fdN GV)
 (U:mg "isinstance"=none) (nJ:mg "int"=none) (nE:mg "bool"=none) (mh:mg "tuple"=none) (mj:mg "len"=none):AF P w K mg base AL 4 f ml BG Uv:=by
 let GT:AH P w base 3 FT OT:=(Vy FT.F U mh mj).mono;let GN:AH P w base 3 J VU:=(Xz J.F U nJ nE).mono;let GP:AH P w base 3 I D7:=VM I.F FW J U nJ nE;show F.okD Kj λ_ A _ _ H vs Q E C h=>?_;let{n,a,e,0,ha,O,k}:=h;show{_,zP (AV (PW.pt (Cc (Bw (BR (AI GT C FT (zC (pv 1) (zC zg zL))))) (C6 (Bw (BR (AI GP C I (zC (pv 0) (zC (AJ AS (pv 1) zg) zL)))))))) (zV (zt Ct)) zw)
  (zP (AV (PW.pt (Cc (Bw (BR (AI GN C J (zC (AJ AS (pv 1) zg) zL)))) (C6 (zu Oa (AJ AS (pv 1) zg) zg (zx _))))) (zV (zt Ct)) zw)
  (zP (AV (zu A1 (AJ AS (pv 1) zg) zg (zx _)) (zV (zt (ED (Bo DH (AJ AS (pv 1) zg) Av (zx _)) (ES (Bo DH (AJ AS (pv 1) zg) Av (zx _)))))) zw)
  (zV (zt (ED (AI GP C I (zC (pv 0) (zC (AJ AS (pv 1) zg) zL))) (ES (AI GP C I (zC (pv 0) (zC (AJ AS (pv 1) zg) zL))))))))),?_}
 let qe:=O.rng;let o:=AB.of (K:=K) ha;show{1,a,eV e,0,ha,1,Ax ?_};show{4,a,3,.int e.h,2,o,0,n,e.h,0,qe.1,(),1,Ax ?_};show{1,a,3,.int e.l,2,o,0,e.l,6,Ax ?_};let hnn:=O.nn;show{1,a,3,.int e.l,2,o,0,_,9,AU (ze ()) ?_};show{1,a,3,.int e.l,2,o,0,6,?_};rw[OR];by_cases c:e.l=0
 . show BX (zX c) ?_;let{hu,hd}:=O.own c;show{1,a,3,oV e.u,2,o,0,6,?_};show BX (by rw[hu];rfl) ?_;show{1,a,3,oV e.d,2,o,2,?_};rwa[hd,show decide (oV none=V.non)=true from rfl]
 . show AU (ze c) ?_;let{u,d,hu,hd,u0,u1,d0,d1}:=O.far c;show{4,a,3,oV e.u,2,o,0,n,u,by rw[hu];rfl,u0,(),true,0,Br ?_};show{4,a,3,oV e.d,2,o,0,n,d,by rw[hd];rfl,d0,(),k}
def bF (m):(List.replicate m true).all id=true:=Gf.mpr λb o=>(List.mem_replicate.mp o).2
def Yk:zo ["n","thing","longs"] BG (defScope Sg):=AQ
def e8 (F:Fu K "is_label" Sg f ml) (FE:AE K mg "is_entry" Tf fE fdE BG) (GE:AH P w base 4 FE Uv)
 (FR:AE K mg "is_rising" Es fR fdR ["things"]) (GR:AH P w base 4 FR VO) (m7:mg "isinstance"=none) (mh:mg "tuple"=none) (mj:mg "len"=none) (my:mg "all"=none):
 AF P w K mg base AL 5 f ml BG VI:=by
 show F.okD Yk λ_ A _ _ H vs Q E hr h=>?_;let{n,p,es,0,L,LK,k}:=h;let{as,U,EA,hl}:=id L;let hlen:=LK.len;show{_,zP (AV (PW.pt (Cc (Bw (BR (AZ Om m7 (zC (pv 1) (zC (O1 (T := "tuple") mh) zL))))) (C6 (zu Gd (AZ Bq mj (zC (pv 1) zL)) (pv 0) (zx _))))) (zV (zt Ct)) zw)
  (zP (AV (Bw (BR (AZ (Ff rfl) my (zC (A3 (own:=D0) (cn:=["n"]) (ci:=[0]) rfl (Aq rfl rfl) {8,trivial} rfl (BP (pv 1)) (λ_ _ _ _=>An) (λ_ _ _ _=>A8)
   (λ_ _ _ _=>AI GE hr FE (zC (pv 1) (zC (pv 0) zL)))) zL)))) (zV (zt Ct)) zw)
  (zP (Hz (i:=2) (own:=D0) (cn:=[]) (ci:=[]) Yk.nd rfl (Or.inl rfl) rfl (Aq rfl rfl) trivial rfl (BP (pv 1)) (λ_ _ _ _=>An) (λ_ _ _ _=>A8) (λ_ _ _ _=>AJ CG (pv 0) zg))
  (zV (zt (ED (Bo A1 (Bp PySem.F.plainAttrs_list PySem.F.slot_list_count PySem.F.type_list_count lj (pv 2) (zC zg zL)) zg (zx _)) (ES (AI GR hr FR
   (zC (A3 (own:=D0) (cn:=[]) (ci:=[]) rfl (Aq rfl rfl) trivial rfl (BP (pv 1)) (λ_ _ _ _=>An) (λ_ _ _ _=>A8) (λ_ _ _ _=>AJ CG (pv 0) zg)) zL)))))))),?_}
 show{1,_,3,true,0,.tup U,6,Ax ?_};show{1,p,1,.inr (AB.of U),1,_,9,AU (ze (by rw[zB,EA.1];lia)) ?_};show{1,p,0,{_,AB.of U},[.int n],0,λD hD=>?_};show Bm (a:=p) (xs:=as.map V.ref) (λi C I=>i<=es.length/\C=(List.replicate i true).map V.bl/\I=upd H D (.lst C)) {zd _,2} (λi C I z=>?_) (λi C I z=>?_) (λi v C I hv z=>?_) (λC I z=>?_)
 . let{7}:=z;show AB.of (zK hD _ _ U)
 . let{hi,0,_}:=z;rw[zB,C8];show DF ()
 . let{_,2}:=z;let{a,x,0,hx,ha}:=EA.at hv;show{{2},?_};show A9 ?_;show{4,n,a,x,0,zK hD _ _ ha,LK.ent x (zN hx),zJ,(zF.mp hx).1,?_,Bj};rw[Gr,zQ];rfl
 . let{_,2}:=z;show{D,1,AD.of zJ,1,?_};rw[bF];show Ax ?_;let s1:=zK (o:=.lst ((List.replicate (as.map V.ref).length true).map V.bl)) hD;generalize upd H D (.lst ((List.replicate (as.map V.ref).length true).map V.bl))=H1 at s1 ⊢;show{1,p,0,{_,AB.of (s1 _ _ U)},[],0,λD2 nV=>?_};show Bm (a:=p) (xs:=as.map V.ref) (λi C I=>C=((es.take i).map (·.l)).map V.int/\I=upd H1 D2 (.lst C)) {2} (λi C I z=>?_) (λi C I z=>?_) (λi v C I hv z=>?_) (λC I z=>?_)
   . let{1}:=z;show AB.of (zK nV _ _ (s1 _ _ U))
   . let{0,_}:=z;rw[zB,zB,zl];show DF ()
   . let{2}:=z;let{a,x,0,hx,ha}:=EA.at hv;show{{2},?_};show A9 ?_;show{1,a,3,.int x.l,2,AB.of (zK nV _ _ (s1 _ _ ha)),0,zJ,?_,Bj};rw[zj,hx,zQ,zQ];rfl
   . let{2}:=z;rw[zB,EA.1,zR (zH _)];let s2:=s1.trans (zK (o:=.lst ((es.map (·.l)).map V.int)) nV);let J:(upd H1 D2 (.lst ((es.map (·.l)).map V.int))) D2=some (.lst ((es.map (·.l)).map V.int)):=zJ;generalize upd H1 D2 (.lst ((es.map (·.l)).map V.int))=H2 at s2 J ⊢;show⟨_,rfl,.inl {0,_,AD.of J},D2,es.map (·.l),0,rfl,rfl,AD.of J,rfl,_,rfl,?_⟩;show BX (by rw[LK.one];rfl) ?_;show{1,p,0,{_,AB.of (s2 _ _ U)},[],0,λD3 pH=>?_};show Bm (a:=p) (xs:=as.map V.ref) (λi C I=>C=((es.take i).map (·.h)).map V.int/\I=upd H2 D3 (.lst C)) {2} (λi C I z=>?_) (λi C I z=>?_) (λi v C I hv z=>?_) (λC I z=>?_)
     . let{1}:=z;show AB.of (zK pH _ _ (s2 _ _ U))
     . let{0,_}:=z;rw[zB,zB,zl];show DF ()
     . let{2}:=z;let{a,x,0,hx,ha}:=EA.at hv;show{{2},?_};show A9 ?_;show{1,a,3,.int x.h,2,AB.of (zK pH _ _ (s2 _ _ ha)),0,zJ,?_,Bj};rw[zj,hx,zQ,zQ];rfl
     . let{2}:=z;rw[zB,EA.1,zR (zH _)];show{D3,es.map (·.h),0,.inl zJ,by rw[CM];show LK.hub,by rw[zB];lia,λH5 s5=>?_};show k _ ((s2.trans (zK pH)).trans s5)
def ir:zo BG BG (defScope Sb):=AQ
def jV {fT:Addr}(F:Fu K "are_labels" Sb f ml) (FT:AE K mg "is_tuple_of" D4 fT p6 Lo) (GT:AH P w base 5 FT OT)
 (FL:AE K mg "is_label" Sg fL fdL BG) (GL:AH P w base 5 FL VI) (my:mg "all"=none):AF P w K mg base AL 6 f ml BG WT:=by
 show F.okD ir λ_ A _ _ H vs Q E hr h=>?_;let{n,l,ess,0,{as,U,hal,pk},hn,n0,hk,k}:=h;show{_,zV (zt (ED (AI GT hr FT (zC (pv 1) (zC (pv 0) zL))) (ES (AZ (Ff rfl) my (zC (A3 (own:=DM) (cn:=["n"]) (ci:=[0]) rfl (Aq rfl rfl) {8,trivial} rfl (BP (pv 1)) (λ_ _ _ _=>An) (λ_ _ _ _=>A8)
  (λ_ _ _ _=>AI GL hr FL (zC (pv 1) (zC (pv 0) zL)))) zL))))),?_}
 let pX:((as.map V.ref).length:Int)=n:=by rwa[zB,hal]
 show{4,l,as.map V.ref,by rw[pX];rfl,U,true,0,Br ?_};show{1,l,0,{_,AB.of U},[.int n],0,λD hD=>?_};show Bm (a:=l) (xs:=as.map V.ref) (λi o C=>i<=as.length/\o=(List.replicate i true).map V.bl/\AG H C/\C D=some (.lst o)) {zd _,0,zK hD,zJ} (λi o C z=>?_) (λi o C z=>?_) (λi v o C I z=>?_) (λo C z=>?_)
 . show AB.of (z.2.2.1 _ _ U)
 . let{hi,0,_}:=z;rw[zB,C8];show DF ()
 . let{1,s4,J}:=z;obtain⟨a,ha,rfl⟩:∃a,as[i]?=some a/\V.ref a=v:=by
    rw[zO] at I;cases e:as[i]? with
    | none=>rw[e] at I;cases I
    | some a=>rw[e] at I;show{a,0,zW I}
   let{es,e1,e2}:=pk i a ha;show{{2},?_};show A9 ?_;show{4,n,a,es,0,e2.same s4,hk es (zN e1),λH5 s5=>?_};show{s5 _ _ J,(zF.mp ha).1,?_,Bs (s4.trans s5) hD,zJ};rw[Gr,zQ];rfl
 . let{1,s4,J}:=z;show{D,1,AD.of J,?_};rw[bF];show k _ s4
def ZK:∀{l:List Int}{a b:Int},l.Pairwise (· < ·)->(∀x∈l,a<=x/\x<b)->a<=b->(l.length:Int)<=b-a
 | [],a,b,_,_,h=>by simp;lia
 | x::r,a,b,hp,hb,h=>by
  let J:=hb x za;let{I,C}:=Fv.mp hp;let:=ZK (l:=r) (a:=x+1) (b:=b) C (λy o=>{by let:=I y o;lia,(hb y (zZ _ o)).2}) ();rw[zm]
  lia
def C1.kind (G:GW n ts)(L:C1 ts n rk v es)(v0:0<=v)(v1:v<n):DR n es:=by
 show{λe he=>?_,L.hub,?_,?_}
 . let E:=L.ent e he;show{E.rng,E.len.1.nn G,λh0=>?_,λnG=>?_}
   . let ev:=(Fx G E.len).mp h0;constructor
     . let u:=E.up;cases J:e.u with
       | none=>rfl
       | some m=>rw[J] at u;show absurd ev (u.1.ne G)
     . let u:=E.dn;cases J:e.d with
       | none=>rfl
       | some m=>rw[J] at u;show absurd ev.symm (u.1.ne G)
   . let ev:v≠e.h:=λz=>nG ((Fx G E.len).mpr z);let{p,o}:=BF.exists G E.len ev;let{q,hq}:=BF.exists G E.len.symm ev.symm;let{u,eu,pu}:=E.up.some_of o;let{d,ed,pd}:=E.dn.some_of hq;let{l1,b1,a1,_}:=pu;let{l2,b2,a2,_}:=pd;let g1:=G.adj a1;let g2:=G.adj a2;show{u,d,eu,ed,(),(),(),()}
 . let:=ZK (l:=es.map (·.h)) (a:=0) (b:=n) (by rw[CM];show L.hub) (λx C=>by let{e,he,0}:=zp.mp C;show (L.ent e he).rng) ()
   rw[zB] at this
   lia
 . let{e,r,hf,_}:=(L.lg G v0 v1).zero G;let I:∀x∈es.filter (λe=>decide (e.l=0)),x.h=v:=λx C=>by let{h1,U}:=Ba.mp C;show ((Fx G (L.ent x h1).len).mp (of_decide_eq_true U)).symm
   let o:(es.filter (λe=>decide (e.l=0))).Pairwise λa b=>a.h<b.h:=List.Pairwise.filter _ L.hub;rw[hf] at I o;let hr:r=[]:=by
    cases r with
    | nil=>rfl
    | cons e' r'=>
     let h1:=I e za;let U:=I e' (zZ _ za);let:=(Fv.mp o).1 e' za
     lia
   rw[List.countP_map,List.countP_eq_length_filter];let:(λx:Int=>x==0)∘(λe:En=>e.l)=λe=>decide (e.l=0):=by
    funext e;change (e.l==0)=decide (e.l=0);cases h:decide (e.l=0) with
    | true=>have:=of_decide_eq_true h;rw[this];rfl
    | false=>have:=of_decide_eq_false h;show beq_false_of_ne this
   rw[this,hf,hr];rfl
meta def Cu (ess:List (List En)):Nat->List (Nat×En)
 | 0=>[]
 | i+1=>Cu ess i++((ess.getD i []).filter λe=>decide (e.l≠0)).map λe=>(i,e)
def Eh (H:Hp)(ys:List V)(o:List (Nat×En)):Prop:=ys.length=o.length/\∀(j:Nat)y,ys[j]?=some y->∃c a,∃(i:Nat),∃e,y=.ref c/\o[j]?=some (i,e)/\H c=some (.tup [.int i,.ref a])/\H a=some (.tup (eV e))
def Eh.keep (h:Eh H ys fe)(k:∀b zs,H b=some (.tup zs)->H' b=some (.tup zs)):Eh H' ys fe:=
 {h.1,λj y e=>let ⟨c,a,i,x,J,I,C,o⟩:=h.2 j y e;{c,a,i,x,J,I,k _ _ C,k _ _ o}}
def Eh.app (h:Eh H ys fe)(g:Eh H zs ge):Eh H (ys++zs) (fe++ge):=by
 show{by rw[zT,zT,h.1,g.1],λj y e=>?_};by_cases c:j<ys.length
 . rw[zi c] at e;let{a,b,i,x,I,C,o}:=h.2 j y e;show{a,b,i,x,I,by rw[zi (by rw[<-h.1];show c)];show C,o}
 . rw[zh ()] at e;let{a,b,i,x,I,C,o}:=g.2 _ y e;show{a,b,i,x,I,by rw[zh (by rw[<-h.1];lia),<-h.1];show C,o}
inductive aN (vs:List V)(H:Hp)(Q:VK):Prop
 | mk:∀(l:Addr)(ess:List (List En)),(vs=[.ref l])->(BJ H l ess)->(ess.length<=24)->((∀es∈ess,es.length<=24))->(∀(a:Addr)(ys:List V)(H':Hp),AG H H'->H a=none->H' a=some (.lst ys)->Eh H' ys (Cu ess ess.length)->Q (.ref a) H')->aN vs H Q
def S7:Sp:=λo H Q _=>aN o H Q
def J6 :∀{n i:Nat}{e:En},(i,e)∈Cu ess n->i<n/\e∈ess.getD i []
 | 0,_,_,h=>by simp[Cu] at h
 | n+1,i,e,h=>by
  rcases Bi.mp (show (i,e)∈Cu ess n++_ from h) with z | z
  . let:=J6 z;show{(),this.2}
  . let{x,o,ex}:=zp.mp z;simp only[Prod.mk.injEq] at ex;let{2}:=ex;show{(),(Ba.mp o).1}
def a8 (h:∀es∈ess,es.length<=24):∀n,(Cu ess n).length<=24*n
 | 0=>zH _
 | n+1=>by
  change (Cu ess n++_).length<=_;rw[zT,zB];let I:=a8 h n;let C:=CZ (λe:En=>decide (e.l≠0)) (ess.getD n []);let o:(ess.getD n []).length<=24:=by
   rw[zI];cases e:ess[n]? with
   | none=>show zd _
   | some x=>show h x (zN e)
  lia
def SX:zo ["labels","found","place","label"] DL (defScope O8):=AQ
def ku (F:Fu K "far_entries" O8 f ml) (m8:mg "enumerate"=none):AF P w K mg base AL 1 f ml DL S7:=by
 show F.okD SX λ_ A _ _ H vs Q E hr h=>?_;let{l,ess,0,LL,hn,pY,k}:=h;let{as,hl,hal,hA}:=id LL;show{_,zP (AX (i:=1) SX.nd (Dc zL))
  (zP (Bb (Vo (by rfl) m8 (zC (pv 0) zL)) (EU rfl (Ai (Cb (i:=2) SX.nd rfl (Or.inr rfl)) (Ai (Az (i:=3) SX.nd) Cj)))
   (zV (Dh (Bp PySem.F.plainAttrs_list PySem.F.slot_list_extend PySem.F.type_list_extend gp (pv 1) (zC
    (A3 (own:=D0) (cn:=EZ) (ci:=[2]) rfl (Aq rfl rfl) {8,trivial} rfl (BP (pv 3)) (λ_ _ _ _=>An)
     (λ_ _ _ _=>Fd (zu CL (AJ CG (pv 0) zg) zg (zx _)))
     (λ_ _ _ _=>BZ (zC (pv 1) (zC (pv 0) zL)))) zL)))))
  (zV (zt (pv 1)))),?_}
 show{Ts,λD hD=>?_};let s0:=zK (o:=.lst []) hD;show{1,l,0,{_,AB.of (s0 _ _ hl)},Vc (K:=K) (a:=l) (xs:=as.map V.ref) (λi σ I=>Nu λ(v2 v3:Option V)(J:List V)=>σ=[some (.ref l),some (.ref D),v2,v3]/\AG H I/\I D=some (.lst J)/\Eh I J (Cu ess i))
  {3,[],0,s0,zJ,0,λj y e=>by simp at e} (λi σ I _ ⟨_,_,_,_,s2,_⟩=>AB.of (s2 _ _ hl)) ?turn ?after}
 case after=>
  rintro σ I ⟨v2,v3,J,rfl,s2,nV,FA⟩;rw[zB,hal] at FA;show{1,k D J I s2 hD nV FA}
 case turn=>
  rintro i x σ I Tp hx ⟨v2,v3,J,rfl,s2,nV,FA⟩ hTp;rw[zO] at hx;cases ha:as[i]? with
  | none=>rw[ha] at hx;cases hx
  | some a=>
  rw[ha] at hx;cases hx;let hia:=(zF.mp ha).1;let{es,U,bs,hb,EA,hl3}:=hA i a ha;let eget:ess.getD i []=es:=by rw[zI,U];rfl
  let hel:=pY es (zN U);let sT:=zK (o:=.tup [.int (i:Int),.ref a]) hTp;let s3:=s2.trans sT;show{Tp,1,AB.of zJ,0,7,5,?_};show{1,.inl {0,_,AD.of (sT _ _ nV)},1,a,0,{_,AB.of (s3 _ _ hb)},[.int i],0,λD2 hD2'=>?_};let EA3:DS (upd I Tp (.tup [.int (i:Int),.ref a])) bs es:=EA.keep λb zs e=>s3 _ _ e;let hbl:=EA.1;show Bm (a:=a) (xs:=bs.map V.ref) (λj zs C=>Eh C zs (((es.take j).filter λe=>decide (e.l≠0)).map λe=>(i,e))/\AG (upd I Tp (.tup [.int (i:Int),.ref a])) C/\C D2=some (.lst zs)) {{0,λj y e=>by simp at e},zK hD2',zJ} (λj zs C h=>?_) (λj zs C h=>?_) (λj v zs C hv h=>?_) (λzs C h=>?_)
  . show AB.of (h.2.1 _ _ (s3 _ _ hb))
  . rw[h.1.1,zB];show Em (CZ _ _) (DF (by rw[zl];lia))
  . let{F4,s4,m9}:=h;let{c,e,0,he,hc}:=EA3.at hv;let hc4:=s4 _ _ hc;show{{2},?_};show{1,c,3,.int e.l,2,AB.of hc4,0,6,?_};rw[OR];let st:=Oo (λe:En=>decide (e.l≠0)) he;by_cases cc:e.l=0
    . rw[zX cc];show Ax {?_,s4,m9};rw[st,if_neg (by simp[cc]),Bl];show F4
    . rw[ze cc];show Br ?_;show{4,CJ,λq hq=>?_};let nDq:=zr m9 hq;show{zK hq _ _ m9,?_,Bs (s4.trans (zK hq)) hD2',zJ};rw[st,if_pos (by simp[cc]),zQ];let kp:∀b us,C b=some (.tup us)->(upd (upd C q (.tup [.int (i:Int),.ref c])) D2 (.lst (zs++[.ref q]))) b=some (.tup us):=λb us e=>by rw[zY (Ac e m9 (by intro z;cases z))];show zK hq _ _ e
      show (F4.keep kp).app {0,λj' y' e'=>?_};cases j' with
      | zero=>
       let:V.ref q=y':=by simpa using e'
       subst this;show{q,c,i,e,2,by rw[zY nDq.symm];show zJ,kp _ _ hc4}
      | succ z=>simp at e'
  . let{F4,s4,m9}:=h;rw[zB,EA.1,zR (zH _)] at F4;let hDD:=s4 _ _ (sT _ _ nV);let f1:=a8 pY i;let f2:=FA.1;let f3:=F4.1;let f4:=CZ (λe:En=>decide (e.l≠0)) es;rw[zB] at f3;show{D,D2,5,hDD,m9,F6 (DF ()),?_};let s5:=Bs (o:=.lst (J++zs)) (s3.trans s4) hD;let kp:∀b us,C b=some (.tup us)->(upd C D (.lst (J++zs))) b=some (.tup us):=λb us e=>by rw[zY (Ac e hDD (by intro z;cases z))];show e
    show{3,J++zs,0,s5,zJ,?_};change Eh _ _ (Cu ess i++_);rw[eget];show ((FA.keep λb us e=>s4 _ _ (sT _ _ e)).keep kp).app (F4.keep kp)
structure Yp (n:Int)(ps:List Int):Prop where
 ne:ps≠[]
 ln:(ps.length:Int)<=n
 rng:∀p∈ps,0<=p/\p<n
 rise:ps.Pairwise (· < ·)
inductive ak (vs:List V)(H:Hp)(Q:VK):Prop
 | mk:∀(n:Int)(p:Addr)(ps:List Int),(vs=[.int n,.ref p])->(H p=some (.tup (ps.map V.int)))->(Yp n ps)->(n<=24)->(∀H',AG H H'->Q (.bl true) H')->ak vs H Q
def VY:Sp:=λo H Q _=>ak o H Q
def P4:zo BG BG (defScope G6):=AQ
def Mp (F:Fu K "are_places" G6 f ml) (FP:AE K mg "is_place" Kd fP fdP BG) (GP:AH P w base 3 FP D7)
 (FR:AE K mg "is_rising" Es fR fdR ["things"]) (m7:mg "isinstance"=none) (mh:mg "tuple"=none) (U:mg "len"=none) (mi:mg "range"=none) (my:mg "all"=none):
 AF P w K mg base AL 4 f ml BG VY:=by
 let GR:AH P w base 3 FR VO:=(dD FR.F U mi my).mono;show F.okD P4 λ_ A _ _ H vs Q E hr h=>?_;let{n,p,ps,0,C,O,hn,k}:=h;let pX:=O.ln;show{_,zP (AV (PW.pt (Cc (Bw (BR (AZ Om m7 (zC (pv 1) (zC (O1 (T := "tuple") mh) zL)))))
  (Cc (zu A1 (AZ Bq U (zC (pv 1) zL)) zg (zx _))
  (C6 (zu Gd (AZ Bq U (zC (pv 1) zL)) (pv 0) (zx _)))))) (zV (zt Ct)) zw)
  (zV (zt (ED (AZ (Ff rfl) my (zC (A3 (own:=EZ) (cn:=["n"]) (ci:=[0]) rfl (Aq rfl rfl) {8,trivial} rfl
   (BP (pv 1)) (λ_ _ _ _=>An) (λ_ _ _ _=>A8)
   (λ_ _ _ _=>AI GP hr FP (zC (pv 1) (zC (pv 0) zL)))) zL))
   (ES (AI GR hr FR (zC (pv 1) zL)))))),?_}
 let nq:0<ps.length:=List.length_pos_iff.mpr O.ne;show{1,_,3,true,0,.tup C,6,Ax ?_};show{1,p,1,.inr (AB.of C),6,AU (by rw[zB];show ze λz=>by let:=V.int.inj z;lia) ?_};show{1,p,1,.inr (AB.of C),1,_,9,AU (by rw[zB];show ze ()) ?_};show{1,p,0,{_,AB.of C},[.int n],0,λD hD=>?_};show Bm (a:=p) (xs:=ps.map V.int) (λq o J=>q<=ps.length/\o=(List.replicate q true).map V.bl/\J=upd H D (.lst o)) {zd _,2} (λq o J z=>?_) (λq o J z=>?_) (λq v o J I z=>?_) (λo J z=>?_)
 . let{_,2}:=z;show AB.of (zK hD _ _ C)
 . let{hq,0,_}:=z;rw[zB,C8];show BV ()
 . let{_,2}:=z;obtain⟨i,hi,rfl⟩:∃i,ps[q]?=some i/\V.int i=v:=by
    rw[zO] at I;cases e:ps[q]? with
    | none=>rw[e] at I;cases I
    | some i=>rw[e] at I;show{i,0,zW I}
   let qe:=O.rng i (zN hi);let hql:=(zF.mp hi).1;show{{2},?_};show A9 ?_;show{4,n,i,0,qe.1,(),zJ,(),?_,Bj};rw[Gr,zQ];rfl
 . let{_,2}:=z;show{D,1,AD.of zJ,true,?_,Br ?_}
   . congr 1;generalize (ps.map V.int).length=m
     induction m with
     | zero=>rfl
     | succ m ih=>rw[GK,List.all_cons];simpa using ih
   . show{1,p,ps,0,.inr (zK hD _ _ C),O.rise,(),λH' s'=>?_};show k H' ((zK hD).trans s')
structure De (n:Int)(ps:List Int):Prop where
 ri:ps.Pairwise (· < ·)
 rng:∀p∈ps,0<=p/\p<n
 ne:ps≠[]
structure Cm (ts:List T3)(n:Int)(ps:List Int):Prop where
 pr:De n ps
 cv:∀x∈ps,∀y∈ps,∀p,BM ts x y p->p∈ps
meta def AW (ps:List Int)(p:Int):Int:=(ps.idxOf p:Nat)
def De.nd (h:De n ps):ps.Nodup:=h.ri.imp λh e=>by lia
def De.len (h:De n ps):1<=ps.length/\ps.length<=n.toNat:=by
 show{List.length_pos_iff.mpr h.ne,nd_len h.nd λx o=>?_};let:=h.rng x o
 lia
def DZ (h:p∈ps):0<=AW ps p/\AW ps p<ps.length/\ps[(AW ps p).toNat]?=some p:=by let o:ps.idxOf p<ps.length:=List.idxOf_lt_length_iff.mpr h;unfold AW;show{(),(),?_};rw[Bz,zD o,List.getElem_idxOf o]
def OS (nd:ps.Nodup){i:Nat}(h:ps[i]?=some p):AW ps p=i:=by
 let{hi,e}:=zF.mp h;let{_,J,o}:=DZ (zN h);let{I,C}:=zF.mp o;let:=(List.getElem_inj nd).mp (e.trans C.symm);let h0:0<=AW ps p:=Int.natCast_nonneg _
 lia
def Ee (C:p∈ps)(o:q∈ps)(e:AW ps p=AW ps q):p=q:=by let a:=(DZ C).2.2;rw[e,(DZ o).2.2] at a;show (zW a).symm
def Uk (P:De n ps)(C:p∈ps)(o:q∈ps):AW ps p<AW ps q↔p<q:=by
 let{a0,a1,a2}:=DZ C;let{b0,b1,U}:=DZ o;let{_,J}:=zF.mp a2;let{_,I}:=zF.mp U;let key:=zq.mp P.ri;constructor
 . intro h;let:=key (AW ps p).toNat (AW ps q).toNat () () ();rwa[J,I] at this
 . intro h;apply NQ;intro hn;by_cases e:AW ps p=AW ps q
   . let:=Ee C o e;lia
   . let:=key (AW ps q).toNat (AW ps p).toNat () () ();rw[J,I] at this
     lia
def Qd (P:De n ps)(C:p∈ps)(o:q∈ps)(h:p<=q):AW ps p<=AW ps q:=by
 by_cases e:p=q
 . rw[e];show ER _
 . let:=(Uk P C o).mpr ()
   lia
meta def G5 (ps:List Int)(t:T3):Bool:=decide (t.1∈ps) && decide (t.2.1∈ps)
meta def HM (ps:List Int)(t:T3):T3:=(AW ps t.1,AW ps t.2.1,t.2.2)
meta def BA (ps:List Int)(ts:List T3):List T3:=(ts.filter (G5 ps)).map (HM ps)
def Hg :G5 ps t=true↔t.1∈ps/\t.2.1∈ps:=by unfold G5;simp
def Ol :u∈BA ps ts↔∃t∈ts,t.1∈ps/\t.2.1∈ps/\HM ps t=u:=by
 unfold BA;rw[zp];constructor
 . rintro ⟨t,o,e⟩;let{a,b}:=Ba.mp o;show{t,a,(Hg.mp b).1,(Hg.mp b).2,e}
 . rintro ⟨t,a,b,c,e⟩;show{t,Ba.mpr {a,Hg.mpr ⟨b,c⟩},e}
def Ti (h:A7 (BA ps ts) i j l):∃x y,x∈ps/\y∈ps/\AW ps x=i/\AW ps y=j/\A7 ts x y l:=by
 rcases h with h | h
 . let{{a,b,c},I,C,o,e}:=Ol.mp h;injection e with e1 e;injection e with e2 e3;dsimp only at C o e1 e2 e3;subst e3;show{a,b,C,o,e1,e2,.inl I}
 . let{{a,b,c},I,C,o,e}:=Ol.mp h;injection e with e1 e;injection e with e2 e3;dsimp only at C o e1 e2 e3;subst e3;show{b,a,o,C,e2,e1,.inr I}
def Zj (C:x∈ps)(o:y∈ps)(h:A7 ts x y l):A7 (BA ps ts) (AW ps x) (AW ps y) l:=by
 rcases h with h | h
 . show .inl (Ol.mpr {_,h,C,o,0})
 . show .inr (Ol.mpr {_,h,o,C,0})
def bP (G:GW n ts)(P:De n ps):GW (ps.length:Int) (BA ps ts):=by
 let hl:=P.len;let hn:=G.n24;show{(),(),?_,λu U=>?_,?_}
 . let:=CZ (G5 ps) ts;unfold BA;rw[zB];let:=G.len
   lia
 . let{t,o,I,C,0}:=Ol.mp U;let{g0,g1,g2,g3}:=G.rng t o;show{(DZ I).1,(Uk P I C).mpr g1,(DZ C).2.1,g3}
 . unfold BA;rw[CM];show (G.dis.filter _).imp_of_mem λ{s t} hs o J e=>?_;let a:=Hg.mp (Ba.mp hs).2;let b:=Hg.mp (Ba.mp o).2;show J {Ee a.1 b.1 e.1,Ee a.2 b.2 e.2}
def Zg (w:Ad (BA ps ts) i j d):∀x∈ps,AW ps x=i->∃y∈ps,AW ps y=j/\Ad ts x y d:=by
 induction w with
 | nil i=>intro x o e;show{x,o,e,.nil x}
 | cons ha _ U=>intro x o e;let{x',z,J,hz,e1,e2,I}:=Ti ha;let ex:=Ee J o (e1.trans e.symm);subst ex;let{y,hy,ey,C}:=U z hz e2;show{y,hy,ey,.cons I C}
def WL (I:x∈ps)(C:y∈ps)(w:Ad (BA ps ts) (AW ps x) (AW ps y) d):Ad ts x y d:=by let{J,o,e,U}:=Zg w x I rfl;rwa[<-Ee o C e]
def Y1 (G:GW n ts)(h:BF ts x y p):BM ts x y p:=by let{l,b,3,i}:=id h;show BF.btw G (BM.self G i) h
def U4 (G:GW n ts)(C:Cm ts n ps):∀(m:Nat){x y d:Int},d.toNat<=m->x∈ps->y∈ps->WM.IsD ts x y d->Ad (BA ps ts) (AW ps x) (AW ps y) d
 | 0,x,y,d,hm,hx,hy,h=>by
  let:=h.1.nn G;let e:d=0:=()
  subst e;rw[(Fx G h).mp rfl];show .nil _
 | m+1,x,y,d,hm,hx,hy,h=>by
  by_cases e:x=y
  . subst e;let:=h.uniq (Hy G x);subst this;show .nil _
  . let{p,I}:=BF.exists G h e;let J:=C.cv x hx y hy p (Y1 G I);let{l,b,U,hd,o}:=I;let ed:=o.uniq h;subst ed;let:=G.adj U;let:=hd.1.nn G;show .cons (Zj hx J U) (U4 G C m () J hy hd)
def DX (G:GW n ts)(C:Cm ts n ps)(I:x∈ps)(o:y∈ps):WM.IsD (BA ps ts) (AW ps x) (AW ps y) d↔WM.IsD ts x y d:=by
 constructor
 . rintro ⟨w,hm⟩;let J:=WL I o w;let{e,he}:=Ad.least G J;let:=hm e (U4 G C _ (zH _) I o he);let:=he.2 d J;let U:e=d:=()
   rwa[<-U]
 . intro h;show{U4 G C _ (zH _) I o h,λe w=>h.2 e (WL I o w)}
def d9 (G:GW n ts)(C:Cm ts n ps)(J:x∈ps)(I:y∈ps)(h:BY ts x y o):BY (BA ps ts) (AW ps x) (AW ps y) o:=by
 cases o with
 | none=>show λd w=>h d (WL J I w)
 | some d=>show (DX G C J I).mpr h
def bp (G:GW n ts)(C:Cm ts n ps)(I:x∈ps)(o:y∈ps)(J:p∈ps):BM (BA ps ts) (AW ps x) (AW ps y) (AW ps p)↔BM ts x y p:=by
 constructor
 . rintro ⟨a,b,h1,h2,U⟩;show{a,b,(DX G C I J).mp h1,(DX G C J o).mp h2,(DX G C I o).mp U}
 . rintro ⟨a,b,h1,h2,U⟩;show{a,b,(DX G C I J).mpr h1,(DX G C J o).mpr h2,(DX G C I o).mpr U}
def KS (C:x∈ps)(h:BM (BA ps ts) (AW ps x) j q):∃p∈ps,AW ps p=q:=by let{a,b,I,_}:=h;let{y,o,e,_}:=Zg I.1 x C rfl;show⟨y,o,e⟩
def VE (G:GW n ts)(C:Cm ts n ps)(J:x∈ps)(I:y∈ps)(U:p∈ps):BF (BA ps ts) (AW ps x) (AW ps y) (AW ps p)↔BF ts x y p:=by
 constructor
 . rintro ⟨l,b,o,h2,h3⟩;let{x',p',oQ,hp',e1,e2,o}:=Ti o;rw[Ee oQ J e1,Ee hp' U e2] at o;show{l,b,o,(DX G C U I).mp h2,(DX G C J I).mp h3}
 . rintro ⟨l,b,o,h2,h3⟩;show{l,b,Zj J U o,(DX G C U I).mpr h2,(DX G C J I).mpr h3}
def Uq (G:GW n ts)(C:Cm ts n ps)(I:x∈ps)(o:y∈ps)(h:BF ts x y p):p∈ps:=C.cv x I y o p (Y1 G h)
def Zs (G:GW n ts)(C:Cm ts n ps)(U:x∈ps)(J:y∈ps):∀{o:Option Int},DB (BF ts x y) o->DB (BF (BA ps ts) (AW ps x) (AW ps y)) (o.map (AW ps))
 | none,h=>λq I=>by let{l,b,ha,_}:=id I;let{_,p,_,hp,_,e,_}:=Ti ha;rw[<-e] at I;show h p ((VE G C U J hp).mp I)
 | some m,h=>by let hm:=Uq G C U J h.1;show{(VE G C U J hm).mpr h.1,λq I=>?_};let{l,b,ha,_}:=id I;let{_,p,_,hp,_,e,_}:=Ti ha;rw[<-e] at I ⊢;show Qd C.pr hm hp (h.2 p ((VE G C U J hp).mp I))
meta def CN (ps os:List Int):List Int:=(os.filter λp=>decide (p∈ps)).map (AW ps)
def WQ:∀{l l':List Int},l.Nodup->(∀x∈l,x∈l')->l.length<=l'.length
 | [],_,_,_=>zd _
 | x::l,l',nd,h=>by
  let{J,I}:=C7.mp nd;let o:=h x za;let:=WQ (l:=l) (l':=l'.erase x) I λy C=>(List.mem_erase_of_ne (λz=>J (by rwa[<-z]))).mpr (h y (zZ _ C));rw[List.length_erase_of_mem o] at this;let:=List.length_pos_of_mem o;rw[zm]
  lia
def kA {os:List Int}(O:CC n os)(P:De n ps):CC (ps.length:Int) (CN ps os):=by
 let nd:(os.filter λp=>decide (p∈ps)).Nodup:=O.nd.filter _;let mem:∀x,x∈(os.filter λp=>decide (p∈ps))↔x∈ps:=λx=>by
  rw[Ba];constructor
  . show λh=>of_decide_eq_true h.2
  . intro h;let:=P.rng x h;show{O.mem this.1 this.2,zX h}
 show{?_,?_,λq C=>?_}
 . unfold CN;rw[zB];let a:=WQ nd λx o=>(mem x).mp o;let b:=WQ P.nd λx o=>(mem x).mpr o
   lia
 . unfold CN;rw[List.Nodup,CM];show List.Pairwise.imp_of_mem (λ{a b} ha U I e=>I (Ee ((mem a).mp ha) ((mem b).mp U) e)) nd
 . unfold CN at C;let{p,J,0}:=zp.mp C;let:=DZ ((mem p).mp J);show⟨this.1,this.2.1⟩
def gQ {os:List Int}(O:CC n os)(R:Bh n os rk):os.Pairwise λx y=>rk x<rk y:=by
 rw[zq];intro i j hi I U;let key:∀(k:Nat)(o:k<os.length),rk os[k]=k:=λk o=>by
  let{J,C}:=R os[k] (O.rng _ (El o)).1 (O.rng _ (El o)).2;let{h1,e}:=zF.mp C;let:=(List.getElem_inj O.nd).mp e
  lia
 rw[key i hi,key j I]
 lia
def ZF {os:List Int}(O:CC n os)(P:De n ps)(R:Bh n os rk)(R':Bh (ps.length:Int) (CN ps os) nv)(hp:p∈ps)(hq:q∈ps)(h:nv (AW ps p)<nv (AW ps q)):rk p<rk q:=by
 let U:=DZ hp;let J:=DZ hq;let{a0,a1}:=R' _ U.1 U.2.1;let{b0,o}:=R' _ J.1 J.2.1;unfold CN at a1 o;rw[zO] at a1 o;let pr:=(gQ O R).filter λp=>decide (p∈ps);let mem:∀x,x∈(os.filter λp=>decide (p∈ps))->x∈ps:=λx hx=>of_decide_eq_true (Ba.mp hx).2;generalize (os.filter λp=>decide (p∈ps))=F at a1 o pr mem;cases I:F[(nv (AW ps p)).toNat]? with
 | none=>rw[I] at a1;cases a1
 | some u=>
  cases C:F[(nv (AW ps q)).toNat]? with
  | none=>rw[C] at o;cases o
  | some v=>rw[I] at a1;rw[C] at o;let eu:=Ee (mem u (zN I)) hp (zW a1);let ev:=Ee (mem v (zN C)) hq (zW o);let{i1,z1}:=zF.mp I;let{i2,z2}:=zF.mp C;let:=zq.mp pr _ _ i1 i2 ();rwa[z1,z2,eu,ev] at this
def JH {os:List Int}(O:CC n os)(P:De n ps)(R:Bh n os rk)(R':Bh (ps.length:Int) (CN ps os) nv)(C:p∈ps)(o:q∈ps):nv (AW ps p)<=nv (AW ps q)↔rk p<=rk q:=by
 constructor
 . intro h;by_cases e:nv (AW ps p)=nv (AW ps q)
   . let J:=DZ C;let I:=DZ o;let{a0,a1}:=R' _ J.1 J.2.1;let{b0,U}:=R' _ I.1 I.2.1;rw[e,U] at a1;rw[Ee C o (zW a1).symm];show ER _
   . let:=ZF O P R R' C o ()
     lia
 . intro h;apply NQ;intro hn;let:=ZF O P R R' o C ()
   lia
def ZZ {os:List Int}(G:GW n ts)(C:Cm ts n ps)(O:CC n os)(R:Bh n os rk)(R':Bh (ps.length:Int) (CN ps os) nv)(o:h∈ps)(J:v∈ps):F5 (BA ps ts) nv (AW ps h) (AW ps v)↔F5 ts rk h v:=by
 constructor
 . rintro ⟨⟨d,hd⟩,hm⟩;show{{d,(DX G C o J).mp hd},λp hp=>?_};let I:=C.cv h o v J p hp;show (JH O C.pr R R' o I).mp (hm _ ((bp G C o J I).mpr hp))
 . rintro ⟨⟨d,hd⟩,hm⟩;show{{d,(DX G C o J).mpr hd},λq U=>?_};let{p,I,e}:=KS o U;rw[<-e] at U ⊢;show (JH O C.pr R R' o I).mpr (hm _ ((bp G C o J I).mp U))
meta def E6 (ps:List Int)(e:En):En:={AW ps e.h,e.l,e.u.map (AW ps),e.d.map (AW ps)}
meta def Dw (ps:List Int)(es:List En):List En:=(es.filter λe=>decide (e.h∈ps)).map (E6 ps)
meta def Fe (ps:List Int)(ess:List (List En)):List (List En):=ps.map λp=>Dw ps (ess.getD p.toNat [])
def lF {os:List Int}(G:GW n ts)(C:Cm ts n ps)(O:CC n os)(R:Bh n os rk)(R':Bh (ps.length:Int) (CN ps os) nv)(o:v∈ps)(E:Hf ts n rk v e)(he:e.h∈ps):Hf (BA ps ts) (ps.length:Int) nv (AW ps v) (E6 ps e):=by let I:=DZ he;show{⟨I.1,I.2.1⟩,(ZZ G C O R R' he o).mpr E.hub,(DX G C o he).mpr E.len,Zs G C o he E.up,Zs G C he o E.dn}
def lP {os:List Int}(G:GW n ts)(C:Cm ts n ps)(O:CC n os)(R:Bh n os rk)(R':Bh (ps.length:Int) (CN ps os) nv)(J:v∈ps)(L:C1 ts n rk v es):C1 (BA ps ts) (ps.length:Int) nv (AW ps v) (Dw ps es):=by
 show{?_,λe' I=>?_,λh h0 h1 hh=>?_,?_}
 . unfold Eu Dw;rw[CM];show List.Pairwise.imp_of_mem (λ{a b} ha hb mr=>?_) (L.hub.filter _);show (Uk C.pr (of_decide_eq_true (Ba.mp ha).2) (of_decide_eq_true (Ba.mp hb).2)).mpr mr
 . unfold Dw at I;let{e,he,0}:=zp.mp I;let{h1,h2}:=Ba.mp he;show lF G C O R R' J (L.ent e h1) (of_decide_eq_true h2)
 . let U:h.toNat<ps.length:=()
   let hm:ps[h.toNat]∈ps:=El U;let ei:AW ps ps[h.toNat]=h:=by
    rw[OS C.pr.nd (zD U)]
    lia
   rw[<-ei] at hh;let o:=(ZZ G C O R R' hm J).mp hh;let{e,he,eh}:=L.all _ (C.pr.rng _ hm).1 (C.pr.rng _ hm).2 o;show{E6 ps e,zp.mpr {e,Ba.mpr {he,zX (by rwa[eh])},0},?_};change AW ps e.h=h;rw[eh,ei]
 . unfold Dw;rw[zB];show zn (CZ _ _) L.len
def fZ {os:List Int}(G:GW n ts)(C:Cm ts n ps)(O:CC n os)(R:Bh n os rk)(R':Bh (ps.length:Int) (CN ps os) nv)(L:CQ ts n rk ess):CQ (BA ps ts) (ps.length:Int) nv (Fe ps ess):=by
 show{by unfold Fe;rw[zB];rfl,λi es hi=>?_};unfold Fe at hi;rw[zO] at hi;cases e:ps[i]? with
 | none=>rw[e] at hi;cases hi
 | some p=>
  rw[e] at hi;let U:=zW hi;subst U;let o:=zN e;let J:=C.pr.rng p o;let I:p.toNat<ess.length:=by rw[L.1];lia
  rw[<-OS C.pr.nd e];show lP G C O R R' o ?_;let:=L.2 p.toNat _ (zD I);rw[Jk J.1] at this;rwa[zI,zD I]
def JB (ps:List Int)(ess:List (List En)):Prop:=∀p∈ps,0<=p/\p.toNat<ess.length/\∀e∈ess.getD p.toNat [],e.h∈ps->(e.l=0/\e.u=none/\e.d=none)\/(e.l≠0/\∃a b,e.u=some a/\e.d=some b/\a∈ps/\b∈ps)
def Mi (G:GW n ts)(C:Cm ts n ps)(L:CQ ts n rk ess):JB ps ess:=by
 intro p o;let U:=C.pr.rng p o;let I:p.toNat<ess.length:=by rw[L.1];lia
 show{U.1,I,λe he J=>?_};let LL:=L.2 p.toNat _ (zD I);rw[Jk U.1] at LL;rw[zI,zD I,Option.getD_some] at he;let E:=LL.ent e he;by_cases z:e.l=0
 . let ev:=(Fx G E.len).mp z;show .inl {z,?_,?_}
   . cases u:e.u with
     | none=>rfl
     | some m=>have:=E.up;rw[u] at this;show absurd ev (BF.ne G this.1)
   . cases u:e.d with
     | none=>rfl
     | some m=>have:=E.dn;rw[u] at this;show absurd ev.symm (BF.ne G this.1)
 . let ne:p≠e.h:=λq=>z ((Fx G E.len).mpr q);let{a,ha}:=BF.exists G E.len ne;let{b,hb}:=BF.exists G E.len.symm (Ne.symm ne);let{a',ea,qv}:=E.up.some_of ha;let{b',eb,pL}:=E.dn.some_of hb;show .inr {z,a',b',ea,eb,Uq G C o J qv,Uq G C J o pL}
def O7:BD (Bk X pl N' sc fp s3 H3) (compareOp .In) (da X.K false):=aV
def NV (nd:ps.Nodup)(h:v∈ps):∃i:Nat,ps[i]?=some v/\(∀j,j<i->ps[j]?≠some v)/\(i:Int)=AW ps v:=by
 let a:=DZ h;show{(AW ps v).toNat,a.2.2,λj o e=>?_,()};let:=OS nd e
 lia
def int_at {ps:List Int}{i:Nat}(h:(ps.map V.int)[i]?=some v):∃p,ps[i]?=some p/\V.int p=v:=by
 rw[zO] at h;cases e:ps[i]? with
 | none=>rw[e] at h;cases h
 | some p=>rw[e] at h;show{p,0,zW h}
def cR (m):(List.replicate m true).all id=true:=by
 induction m with
 | zero=>rfl
 | succ m o=>rw[GK,List.all_cons,o];rfl
def ZO:Sp:=λI H Q _=>∃C o ps t,I=[.ref C,.ref o]/\H C=some (.tup (ps.map V.int))/\H o=some (.tup ((tl t).map V.int))/\ps.Nodup/\t.1∈ps/\t.2.1∈ps/\∀q H',AG H H'->H' q=some (.tup ((tl (HM ps t)).map V.int))->Q (.ref q) H'
inductive aR (vs:List V)(H:Hp)(Q:VK):Prop
 | mk:∀(rl pa:Addr)(rs:List Addr)(M:HB)(n x:Int)(ts:List T3)(ps:List Int),(vs=[.ref rl,.ref pa,.int x])->(H rl=some (.tup (rs.map V.ref)))->(Ds H rs M)->(Rows ts n M)->(GW n ts)->(H pa=some (.tup (ps.map V.int)))->(Cm ts n ps)->(x∈ps)->(∀H',AG H H'->Q (.bl true) H')->aR vs H Q
def VQ:Sp:=λo H Q _=>aR o H Q
inductive b9 (PT:Addr)(vs:List V)(H:Hp)(Q:VK):Prop
 | mk:∀(wa pa:Addr)(n:Int)(ts:List T3)(ps:List Int),(vs=[.ref wa,.ref pa])->(Ak H wa n ts)->(H pa=some (.tup (ps.map V.int)))->(Cm ts n ps)->(Tb H PT)->(∀H',Aa H H'->Tb H' PT->Q (.bl true) H')->b9 PT vs H Q
def SU (PT:Addr):Sp:=λo H Q _=>b9 PT o H Q
inductive aE (PT:Addr)(vs:List V)(H:Hp)(Q:VK):Prop
 | mk:∀(wa pa:Addr)(n:Int)(ts:List T3)(ps:List Int),(vs=[.ref wa,.ref pa])->(Ak H wa n ts)->(H pa=some (.tup (ps.map V.int)))->(Cm ts n ps)->(Tb H PT)->(∀(wb:Addr)(H':Hp),Aa H H'->Tb H' PT->Ak H' wb (ps.length:Int) (BA ps ts)->Q (.ref wb) H')->aE PT vs H Q
def Uo (PT:Addr):Sp:=λo H Q _=>aE PT o H Q
inductive aX (vs:List V)(H:Hp)(Q:VK):Prop
 | mk:∀(oa pa:Addr)(n:Int)(os ps:List Int),(vs=[.ref oa,.ref pa])->(H oa=some (.tup (os.map V.int)))->(H pa=some (.tup (ps.map V.int)))->(os.length<=24)->(De n ps)->(∀(ob:Addr)(H':Hp),AG H H'->H' ob=some (.tup ((CN ps os).map V.int))->Q (.ref ob) H')->aX vs H Q
def Vx:Sp:=λo H Q _=>aX o H Q
def Me:zo Qk Qk (defScope Tg):=AQ
def kC (F:Fu K "new_tie" Tg f ml):AF P w K mg base AL 1 f ml Qk ZO:=by
 show F.okD Me λ_ A _ _ H vs Q E hr h=>?_;let{o,I,ps,t,0,C,J,nd,h1,h2,k}:=h;show{_,zV (zt (BZ (zC (He PySem.F.slot_tuple_index PySem.F.type_tuple_index Ju (pv 0) (zC (AJ AS (pv 1) zg) zL))
  (zC (He PySem.F.slot_tuple_index PySem.F.type_tuple_index Ju (pv 0) (zC (AJ AS (pv 1) zg) zL)) (zC (AJ AS (pv 1) zg) zL))))),?_}
 let{i,hi,ni,ei}:=NV nd h1;let{j,hj,U,ej}:=NV nd h2;show{1,{o,1,C},1,I,3,.int t.1,2,AB.of J,0,o,ps,i,t.1,2,AB.of C,hi,ni,?_};show{1,{o,1,C},1,I,3,.int t.2.1,2,AB.of J,0,o,ps,j,t.2.1,2,AB.of C,hj,U,?_};show{1,I,3,.int t.2.2,2,AB.of J,0,HW,λq hq=>?_};rw[ei,ej];show k q _ (zK hq) zJ
def c9:zo ["rows","places","one","other"] UR (defScope Sy):=AQ
def lC (F:Fu K "holds_ways_from" Sy f ml) (FB:AE K mg "between_rows" D8 fB fdB NC) (mi:mg "range"=none) (mh:mg "tuple"=none) (mj:mg "len"=none) (my:mg "all"=none):
 AF P w K mg base AL 2 f ml UR VQ:=by
 let GB:AH P w base 1 FB SQ:=WJ FB.F mi mh mj;show F.okD c9 λ_ A _ _ H vs Q E hr h=>?_;let{rl,pa,rs,M,n,x,ts,ps,0,hrl,RA,RR,G,nK,C,hx,k}:=h;show{_,zP (Bb (BP (pv 1)) (Az (i:=3) c9.nd)
  (zV (AV (Bw (BR (AZ (Ff rfl) my (zC (A3 (own:=EZ) (cn:=["places"]) (ci:=[1]) rfl (Aq rfl rfl) {8,trivial} rfl
   (BP (AI GB hr FB (zC (AJ AS (pv 0) (pv 2)) (zC (AJ AS (pv 0) (pv 3)) (zC (pv 3) zL))))) (λ_ _ _ _=>An)
   (λ_ _ _ _=>A8) (λ_ _ _ _=>Bo O7 (pv 0) (pv 1) (by with_unfolding_all rfl))) zL)))) (zV (zt Ct)) zw)))
  (zV (zt Ct)),?_}
 let I:=C.pr.rng x hx;let n0:=G.n24;show{1,pa,0,{_,AB.of nK},Ve (K:=K) (a:=pa) (xs:=ps.map V.int) (λi σ U=>∃va:Option V,σ=[some (.ref rl),some (.ref pa),some (.int x),va]/\AG H U)
  {none,0,AG.refl _} (λi σ U _ ⟨_,_,s2⟩=>AB.of (s2 _ _ nK)) ?turn ?after}
 case turn=>
  rintro i v σ U hi ⟨va,rfl,s2⟩;let{y,hy,0}:=int_at hi;let hy':=zN hy;let yr:=C.pr.rng y hy';let RA2:Ds U rs M:={RA.1,λi r row a b=>s2 _ _ (RA.2 i r row a b)};let{rh,gh,hh,Lh}:=RA2.at RR I.1 I.2;let{rv,gv,hv,Lv}:=RA2.at RR yr.1 yr.2;let o:=s2 _ _ hrl;show{4,rl,3,.ref rh,2,AB.of o,Ao I.1 gh,4,rl,3,.ref rv,2,AB.of o,Ao yr.1 gv,1,rh,rv,n,ts,x,y,7,G,I.1,I.2,yr.1,yr.2,hh,hv,Lh,Lv,λl xs H3 s3 hl oG oH=>?_};let hxl:xs.length<=24:=by
   let:=nd_len (n:=n.toNat) (l:=xs) (oG.imp λz=>()) λp hp=>by
    let{a,b,ia,_}:=(oH p).mp hp;let:=ia.1.in_ G I.1 I.2
    lia
   lia
  show{l,0,{_,AB.of hl},[.ref pa],0,λD hD=>?_};let qf:=s3 _ _ (s2 _ _ nK);show Bm (a:=l) (xs:=xs.map V.int) (λq J H4=>q<=xs.length/\J=(List.replicate q true).map V.bl/\H4=upd H3 D (.lst J)) {zd _,2} (λq J H4 z=>?_) (λq J H4 z=>?_) (λq v J H4 hv z=>?_) (λJ H4 z=>?_)
  . let{_,2}:=z;show AB.of (zK hD _ _ hl)
  . let{hq,0,_}:=z;rw[zB,C8];show BV ()
  . let{_,2}:=z;let{p,hp,0}:=int_at hv;let hql:=(zF.mp hp).1;let pq:p∈ps:=C.cv x hx y hy' p ((oH p).mp (zN hp));show{{2},?_};show A9 ?_;show{4,pa,1,.inr (AB.of (zK hD _ _ qf)),0,J7 _,zJ,(),?_,Bj};rw[Gr,zQ];change _++[V.bl (Ep (.int p) (ps.map V.int))]=_;rw[NZ,zX pq];rfl
  . let{_,2}:=z;show{D,1,AD.of zJ,true,by rw[cR],Ax ?_};show{1,s2.trans (s3.trans (zK hD))}
 case after=>
  rintro σ U ⟨va,rfl,s2⟩;show k U s2
def IT:zo ["web","thing","rows"] BE (defScope Ex):=AQ
def De.posts (h:De n ps):Yp n ps:={h.ne,by let:=h.len;lia,h.rng,h.ri}
def LF (F:Fu K "is_part" Ex f ml) (FA:AE K mg "are_places" G6 fA fdA BG) (GA:AH P w base 5 FA VY)
 (FL:AE K mg "lengths" Oc fL fdL Df) (GL:AH P w base 5 FL (SE PT))
 (FH:AE K mg "holds_ways_from" Sy fH fdH UR) (GH:AH P w base 5 FH VQ) (my:mg "all"=none):
 AF P w K mg base AL 6 f ml BE (SU PT):=by
 show F.okD IT λ_ A _ _ H vs Q E hr h=>?_;let{wa,J,n,ts,ps,0,W,nK,C,TT,k}:=h;let{ta,tys,nI,pB,TA,G}:=id W;let n0:=G.n24;let nq:=C.pr.len;show{_,zP (AV (Bw (BR (AI GA hr FA (zC (AJ AS (pv 0) zg) (zC (pv 1) zL))))) (zV (zt Ct)) zw)
  (zP (Jy (i:=2) IT.nd rfl (Or.inr rfl) (AI GL hr FL (zC (pv 0) zL)))
  (zV (zt (AZ (Ff rfl) my (zC (A3 (own:=EZ) (cn:=["rows","thing"]) (ci:=[2,1]) rfl (Aq rfl rfl) {8,8,trivial} rfl
   (BP (pv 1)) (λ_ _ _ _=>An) (λ_ _ _ _=>A8)
   (λ_ _ _ _=>AI GH hr FH (zC (pv 1) (zC (pv 2) (zC (pv 0) zL))))) zL))))),?_}
 show{1,wa,3,.int n,2,AB.of nI,6,n,J,ps,0,nK,C.pr.posts,n0,λH1 s1=>?_};show{1,Ax ?_};show{1,wa,n,ts,0,W.keep s1,TT.same s1,λrl rs M H2 s2 T2 hrl RA RR=>?_};let U:H2 J=some (.tup (ps.map V.int)):=s2.get (s1 _ _ nK) (by intro ps z;cases z);show{1,J,0,{_,AB.of U},[.ref rl,.ref J],0,λD hD=>?_};show Bm (a:=J) (xs:=ps.map V.int) (λq I o=>q<=ps.length/\I=(List.replicate q true).map V.bl/\AG H2 o/\o D=some (.lst I)) {zd _,0,zK hD,zJ} (λq I o z=>?_) (λq I o z=>?_) (λq v I o hv z=>?_) (λI o z=>?_)
 . show AB.of (z.2.2.1 _ _ U)
 . let{hq,0,_}:=z;rw[zB,C8];show BV ()
 . let{1,s4,m9}:=z;let{p,hp,0}:=int_at hv;let hql:=(zF.mp hp).1;show{{2},?_};show A9 ?_;show{1,4,rl,J,rs,M,n,p,ts,ps,0,s4 _ _ hrl,{RA.1,λi r row a b=>s4 _ _ (RA.2 i r row a b)},RR,G,s4 _ _ U,C,zN hp,λH5 s5=>?_};show{s5 _ _ m9,(),?_,Bs (s4.trans s5) hD,zJ};rw[Gr,zQ];rfl
 . let{1,s4,m9}:=z;show{D,1,AD.of m9,?_};rw[cR];show k o (((Aa.of s1).trans s2).trans (Aa.of s4)) (T2.same s4)
def Z9:zo ["web","thing","ties"] BE (defScope Sv):=AQ
def iE {ts:List T3}(h:ts[i]?=some t):BA ps (ts.take (i+1))=BA ps (ts.take i)++(if G5 ps t=true then [HM ps t] else []):=by
 unfold BA;rw[Oo (G5 ps) h,zQ];congr 1;by_cases c:G5 ps t=true
 . rw[if_pos c,if_pos c];rfl
 . rw[if_neg c,if_neg c];rfl
def jX (F:Fu K "part_web" Sv f ml) (FI:AE K mg "is_part" Ex fI fdI BE) (GI:AH P w base 6 FI (SU PT))
 (FN:AE K mg "new_tie" Tg fN fdN Qk) (mj:mg "len"=none) (mh:mg "tuple"=none):
 AF P w K mg base AL 7 f ml BE (Uo PT):=by
 let GN:AH P w base 6 FN ZO:=(kC FN.F).mono;show F.okD Z9 λ_ A _ _ H vs Q E hr h=>?_;let{wa,pa,n,ts,ps,0,W,nK,C,TT,k}:=h;let{ta,tys,nI,pB,TA,G}:=id W;let hlT:=TA.length;rw[zB] at hlT;let h64:=G.len;show{_,zP (AV (Bw (BR (AI GI hr FI (zC (pv 0) (zC (pv 1) zL))))) (zV JX) zw)
  (zP (Hz (i:=2) (own:=["tie"]) (cn:=GV) (ci:=[1]) Z9.nd rfl (Or.inl rfl) rfl (Aq rfl rfl) {8,trivial} rfl (BP (AJ AS (pv 0) zg)) (λ_ _ _ _=>An)
   (λ_ _ _ _=>Fd (PW.pt (SA (zu O7 (AJ CG (pv 0) zg) (pv 1) (by with_unfolding_all rfl)) (Sx (zu O7 (AJ CG (pv 0) zg) (pv 1) (by with_unfolding_all rfl))))))
   (λ_ _ _ _=>AI GN hr FN (zC (pv 1) (zC (pv 0) zL))))
  (zV (zt (BZ (zC (AZ Bq mj (zC (pv 1) zL)) (zC (BQ Cf mh (zC (pv 2) zL)) zL)))))),?_}
 show{4,wa,pa,n,ts,ps,0,W,nK,C,TT,λH1 s1 T1=>?_};show{1,Ax ?_};let qO:∀b I,H b=some (.tup I)->H1 b=some (.tup I):=λb I e=>s1.get e (by intro ps z;cases z);let hta1:=qO _ _ pB;let hpa1:=qO _ _ nK;show{1,wa,3,.ref ta,2,AB.of (qO _ _ nI),0,ta,0,{_,AB.of hta1},[.ref pa],0,λD hD=>?_};show Bm (a:=ta) (xs:=tys) (λi I H4=>Am H4 I ((BA ps (ts.take i)).map tl)/\AG H1 H4/\H4 D=some (.lst I)) {by rw[List.take_zero];show trivial,zK hD,zJ} (λi I H4 h=>?_) (λi I H4 h=>?_) (λi v I H4 hv h=>?_) (λI H4 h=>?_)
 . show AB.of (h.2.1 _ _ hta1)
 . let h1:=h.1.length;rw[zB] at h1;let h2:=CZ (G5 ps) (ts.take i);rw[zl] at h2;show BV (by unfold BA at h1;rw[zB] at h1;lia)
 . let{T4,s4,m9}:=h;let{ya,kk,0,U,pA,_}:=TA.get hv;rw[zO] at U;obtain⟨t,ht,rfl⟩:∃t,ts[i]?=some t/\tl t=kk:=by
    cases e:ts[i]? with
    | none=>rw[e] at U;cases U
    | some t=>rw[e] at U;show{t,0,zW U}
   let J:=s4 _ _ (qO _ _ pA);let oh:=s4 _ _ hpa1;let sn:=iE (ps:=ps) ht;let no:¬ (G5 ps t=true)->Am H4 I ((BA ps (ts.take (i+1))).map tl):=λc=>by rw[sn,if_neg c,Bl];show T4
   show{{2},?_};show{1,ya,3,.int t.1,2,AB.of J,6,pa,1,.inr (AB.of oh),0,J7 _,1,?_};change if Ep (.int t.1) (ps.map V.int)=true then _ else _
   rw[NZ];show CP (λc1=>?_) (λc1=>?_)
   . show{1,ya,3,.int t.2.1,2,AB.of J,6,pa,1,.inr (AB.of oh),0,J7 _,1,?_};change if Ep (.int t.2.1) (ps.map V.int)=true then _ else _
     rw[NZ];show CP (λc2=>?_) (λc2=>?_)
     . let i1:=of_decide_eq_true c1;let i2:=of_decide_eq_true c2;show{4,pa,ya,ps,t,0,oh,J,C.pr.nd,i1,i2,λq H5 s5 hq=>?_};let oU:=s5 _ _ m9;show{oU,?_,Bs (s4.trans s5) hD,zJ};rw[sn,if_pos (Hg.mpr ⟨i1,i2⟩),zQ];show (T4.keep λb zs e=>?_).snoc {q,0,?_,by simp[tl]}
       . let e5:=s5 _ _ e;rw[zY (Ac e5 oU (by intro z;cases z))];show e5
       . rw[zY (Ac hq oU (by intro z;cases z))];show hq
     . show{no λz=>c2 (zX (Hg.mp z).2),s4,m9}
   . show{no λz=>c1 (zX (Hg.mp z).1),s4,m9}
 let{T4,s4,m9}:=h;rw[hlT,zR (zH _)] at T4;show{1,pa,1,.inr (AB.of (s4 _ _ hpa1)),?_};show{1,D,1,.inl {AD.of m9,λtb htb=>?_}};show{CJ,λwb hwb=>?_};let s5:=zK (o:=.tup I) htb;rw[zB];let s6:=zK (o:=.tup [.int (ps.length:Int),.ref tb]) hwb;show k wb _ (s1.trans (Aa.of (s4.trans (s5.trans s6)))) (T1.same (s4.trans (s5.trans s6))) {tb,I,zJ,s6 _ _ zJ,T4.keep λb zs e=>s6 _ _ (s5 _ _ e),bP G C.pr}
def Km:zo OA OA (defScope To):=AQ
def lX (F:Fu K "part_order" To f ml) (mh:mg "tuple"=none):AF P w K mg base AL 1 f ml OA Vx:=by
 show F.okD Km λ_ A _ _ H vs Q E hr h=>?_;let{oa,J,n,os,ps,0,qh,nK,hol,PR,k}:=h;show{_,zV (zt (BQ Cf mh (zC (A3 (own:=EZ) (cn:=["places"]) (ci:=[1]) rfl (Aq rfl rfl) {8,trivial} rfl (BP (pv 0)) (λ_ _ _ _=>An)
  (λ_ _ _ _=>Fd (zu O7 (pv 0) (pv 1) (by with_unfolding_all rfl))) (λ_ _ _ _=>He PySem.F.slot_tuple_index PySem.F.type_tuple_index bD (pv 1) (zC (pv 0) zL))) zL))),?_}
 show{1,oa,0,{_,AB.of qh},[.ref J],0,λD hD=>?_};show Bm (a:=oa) (xs:=os.map V.int) (λi C I=>C=(CN ps (os.take i)).map V.int/\I=upd H D (.lst C)) {2} (λi C I z=>?_) (λi C I z=>?_) (λi v C I hv z=>?_) (λC I z=>?_)
 . let{1}:=z;show AB.of (zK hD _ _ qh)
 . let{0,_}:=z;let h2:=CZ (λp=>decide (p∈ps)) (os.take i);rw[zl] at h2;unfold CN;rw[zB,zB];show BV ()
 . let{2}:=z;let{p,hp,0}:=int_at hv;let U:=zK (o:=.lst ((CN ps (os.take i)).map V.int)) hD _ _ nK;let st:=Oo (λp:Int=>decide (p∈ps)) hp;show{{2},?_};show{4,J,1,.inr (AB.of U),0,J7 _,1,?_};change if Ep (.int p) (ps.map V.int)=true then _ else _
   rw[NZ];show CP (λc=>?_) (λc=>?_)
   . let{j,hj,nj,ej}:=NV PR.nd (of_decide_eq_true c);show{1,{J,1,U},1,J,ps,j,p,2,AB.of U,hj,nj,zJ,?_,Bj};unfold CN;rw[st,if_pos c,zQ,zQ,ej];rfl
   . show{?_,0};unfold CN;rw[st,if_neg c,Bl]
 . let{2}:=z;rw[zB,zR (zH _)];show{D,1,.inl {AD.of zJ,λob qI=>?_}};show k ob _ ((zK hD).trans (zK qI)) zJ
def QQ (ps:List Int)(e:En):Prop:=(e.l=0/\e.u=none/\e.d=none)\/(e.l≠0/\∃a b,e.u=some a/\e.d=some b/\a∈ps/\b∈ps)
def bf:Sp:=λC H Q _=>∃o ea ps e,C=[.ref o,.ref ea]/\H o=some (.tup (ps.map V.int))/\H ea=some (.tup (eV e))/\ps.Nodup/\e.h∈ps/\QQ ps e/\∀q H',AG H H'->H' q=some (.tup (eV (E6 ps e)))->Q (.ref q) H'
inductive Y7 (vs:List V)(H:Hp)(Q:VK):Prop
 | mk:∀(la pa:Addr)(ps:List Int)(es:List En),(vs=[.ref la,.ref pa])->(H pa=some (.tup (ps.map V.int)))->(A6 H la es)->(ps.Nodup)->((∀e∈es,e.h∈ps->QQ ps e))->(∀(q:Addr)(H':Hp),AG H H'->A6 H' q (Dw ps es)->Q (.ref q) H')->Y7 vs H Q
def VN:Sp:=λo H Q _=>Y7 o H Q
inductive ZC (vs:List V)(H:Hp)(Q:VK):Prop
 | mk:∀(ll pa:Addr)(ps:List Int)(ess:List (List En)),(vs=[.ref ll,.ref pa])->(H pa=some (.tup (ps.map V.int)))->(BJ H ll ess)->(ps.Nodup)->(ps.length<=24)->(JB ps ess)->(∀(q:Addr)(H':Hp),AG H H'->BJ H' q (Fe ps ess)->Q (.ref q) H')->ZC vs H Q
def VZ:Sp:=λo H Q _=>ZC o H Q
def j1 {es:List En}(h:es[i]?=some e):Dw ps (es.take (i+1))=Dw ps (es.take i)++(if decide (e.h∈ps)=true then [E6 ps e] else []):=by
 unfold Dw;rw[Oo (λe:En=>decide (e.h∈ps)) h,zQ];congr 1;by_cases c:decide (e.h∈ps)=true
 . rw[if_pos c,if_pos c];rfl
 . rw[if_neg c,if_neg c];rfl
def KU:zo QE QE (defScope Ss):=AQ
def iF (F:Fu K "new_entry" Ss f ml):AF P w K mg base AL 1 f ml QE bf:=by
 show F.okD KU λ_ A _ _ H vs Q E hr h=>?_;let{C,ea,ps,e,0,I,o,nd,pq,ok,k}:=h;show{_,zP (AV (zu A1 (AJ AS (pv 1) zg) zg (zx _))
  (zV (zt (BZ (zC (He PySem.F.slot_tuple_index PySem.F.type_tuple_index Ju (pv 0) (zC (AJ AS (pv 1) zg) zL)) (Aw (zC Av (zC Av zL))))))) zw)
  (zV (zt (BZ (zC (He PySem.F.slot_tuple_index PySem.F.type_tuple_index Ju (pv 0) (zC (AJ AS (pv 1) zg) zL)) (zC (AJ AS (pv 1) zg)
   (zC (He PySem.F.slot_tuple_index PySem.F.type_tuple_index Ju (pv 0) (zC (AJ AS (pv 1) zg) zL)) (zC (He PySem.F.slot_tuple_index PySem.F.type_tuple_index Ju (pv 0) (zC (AJ AS (pv 1) zg) zL)) zL))))))),?_}
 let{i,hi,ni,ei}:=NV nd pq;let{eh,el,eu,ed}:=e;dsimp only at pq hi ni ei;show{1,ea,3,.int el,2,AB.of o,0,6,?_};rw[OR];rcases ok with ⟨z1,U,J⟩ | ⟨z1,a,b,U,J,ha,hb⟩
 . dsimp only at z1 U J;subst z1 U J;show Br ?_;show{1,{C,1,I},1,ea,3,.int eh,2,AB.of o,0,C,ps,i,eh,2,AB.of I,hi,ni,?_};show{N3,λq hq=>?_};rw[ei];show k q _ (zK hq) zJ
 . dsimp only at z1 U J;subst U J;show AU (ze z1) ?_;let{ia,hia,nia,eia}:=NV nd ha;let{ib,hib,nib,eib}:=NV nd hb;show{1,{C,1,I},1,ea,3,.int eh,2,AB.of o,0,C,ps,i,eh,2,AB.of I,hi,ni,?_};show{1,ea,3,.int el,2,AB.of o,0,?_};show{1,{C,1,I},1,ea,3,.int a,2,AB.of o,0,C,ps,ia,a,2,AB.of I,hia,nia,?_};show{1,{C,1,I},1,ea,3,.int b,2,AB.of o,0,C,ps,ib,b,2,AB.of I,hib,nib,?_};show{N3,λq hq=>?_};rw[ei,eia,eib];show k q _ (zK hq) zJ
def Mn:zo QC QC (defScope SW):=AQ
def kZ (F:Fu K "cut_label" SW f ml) (FN:AE K mg "new_entry" Ss fN fdN QE) (mh:mg "tuple"=none):AF P w K mg base AL 2 f ml QC VN:=by
 let GN:AH P w base 1 FN bf:=iF FN.F;show F.okD Mn λ_ A _ _ H vs Q E hr h=>?_;let{la,pa,ps,es,0,nK,L,nd,ok,k}:=h;let{as,pk,EA,hl}:=id L;show{_,zV (zt (BQ Cf mh (zC (A3 (own:=D0) (cn:=["places"]) (ci:=[1]) rfl (Aq rfl rfl) {8,trivial} rfl (BP (pv 0)) (λ_ _ _ _=>An)
  (λ_ _ _ _=>Fd (zu O7 (AJ CG (pv 0) zg) (pv 1) (by with_unfolding_all rfl))) (λ_ _ _ _=>AI GN hr FN (zC (pv 1) (zC (pv 0) zL)))) zL))),?_}
 show{1,la,0,{_,AB.of pk},[.ref pa],0,λD hD=>?_};show Bm (a:=la) (xs:=as.map V.ref) (λi J I=>(∃bs:List Addr,J=bs.map V.ref/\DS I bs (Dw ps (es.take i)))/\AG H I/\I D=some (.lst J)) {{[],2,λi a z=>by simp at z},zK hD,zJ} (λi J I h=>?_) (λi J I h=>?_) (λi v J I hv h=>?_) (λJ I h=>?_)
 . show AB.of (h.2.1 _ _ pk)
 . let{{bs,0,EB},_}:=h;let h1:=EB.1;let h2:=CZ (λe:En=>decide (e.h∈ps)) (es.take i);rw[zl] at h2;unfold Dw at h1;rw[zB] at h1 ⊢;show DF ()
 . let{{bs,0,EB},s4,U}:=h;let{ea,e,0,he,hea}:=EA.at hv;let C:=s4 _ _ hea;let oh:=s4 _ _ nK;let sn:=j1 (ps:=ps) he;show{{2},?_};show{1,ea,3,.int e.h,2,AB.of C,6,pa,1,.inr (AB.of oh),0,J7 _,1,?_};change if Ep (.int e.h) (ps.map V.int)=true then _ else _
   rw[NZ];show CP (λc=>?_) (λc=>?_)
   . let pq:=of_decide_eq_true c;show{4,pa,ea,ps,e,0,oh,C,nd,pq,ok e (zN he) pq,λq H5 s5 hq=>?_};let oU:=s5 _ _ U;show{oU,{bs++[q],by rw[zQ];rfl,?_},Bs (s4.trans s5) hD,zJ};rw[sn,if_pos c];show (EB.keep λb zs e=>?_).snoc ?_
     . let e5:=s5 _ _ e;rwa[zY (Ac e5 oU (by intro z;cases z))]
     . rwa[zY (Ac hq oU (by intro z;cases z))]
   . show{{bs,0,?_},s4,U};rwa[sn,if_neg c,Bl]
 let{{bs,0,EB},s4,U}:=h;rw[zB,EA.1,zR (zH _)] at EB;show{D,1,.inl {AD.of U,λq hq=>?_}};let s5:=zK (o:=.tup (bs.map V.ref)) hq;show k q _ (s4.trans s5) {bs,zJ,EB.keep λb zs e=>s5 _ _ e,?_};unfold Dw;rw[zB];show zn (CZ _ _) hl
def K8:zo Mz Mz (defScope Th):=AQ
def jE (F:Fu K "cut_down" Th f ml) (FC:AE K mg "cut_label" SW fC fdC QC) (GC:AH P w base 2 FC VN) (mh:mg "tuple"=none):AF P w K mg base AL 3 f ml Mz VZ:=by
 show F.okD K8 λ_ A _ _ H vs Q E hr h=>?_;let{ll,pa,ps,ess,0,nK,L,nd,h24,ok,k}:=h;show{_,zV (zt (BQ Cf mh (zC (A3 (own:=EZ) (cn:=Mz) (ci:=[0,1]) rfl (Aq rfl rfl) {8,8,trivial} rfl (BP (pv 1)) (λ_ _ _ _=>An)
  (λ_ _ _ _=>A8) (λ_ _ _ _=>AI GC hr FC (zC (AJ CG (pv 1) (pv 0)) (zC (pv 2) zL)))) zL))),?_}
 show{1,pa,0,{_,AB.of nK},[.ref ll,.ref pa],0,λD hD=>?_};show Bm (a:=pa) (xs:=ps.map V.int) (λi J U=>i<=ps.length/\(∃bs:List Addr,J=bs.map V.ref/\bs.length=i/\∀(j:Nat)(b:Addr),bs[j]?=some b->∃es,(Fe ps ess)[j]?=some es/\A6 U b es)/\AG H U/\U D=some (.lst J)) {zd _,{[],2,λi a z=>by simp at z},zK hD,zJ} (λi J U h=>?_) (λi J U h=>?_) (λi v J U hv h=>?_) (λJ U h=>?_)
 . show AB.of (h.2.2.1 _ _ nK)
 . let{hi,{bs,0,C,_},_}:=h;rw[zB];show BV ()
 . let{_,{bs,0,C,EB},s4,m9}:=h;let{p,hp,0}:=int_at hv;let hql:=(zF.mp hp).1;let{p0,pl,eok}:=ok p (zN hp);let{as,h1,h2,h3}:=id L;let nq:p.toNat<as.length:=()
   let{es,g1,g2}:=h3 p.toNat as[p.toNat] (zD nq);let ge:ess.getD p.toNat []=es:=by rw[zI,g1];rfl
   rw[ge] at eok;show{{2},?_};show A9 ?_;show{4,ll,3,.ref as[p.toNat],2,AB.of (s4 _ _ h1),Ao p0 (by rw[zO,zD nq];rfl),1,_,pa,ps,es,0,s4 _ _ nK,g2.same s4,nd,eok,λq H5 s5 hq=>?_};let oU:=s5 _ _ m9;show{oU,(),{bs++[q],by rw[zQ];rfl,by rw[zT,C];rfl,λj b I=>?_},Bs (s4.trans s5) hD,zJ};let kp:∀ {x zs},A6 H5 x zs->A6 (upd H5 D (.lst (bs.map V.ref++[.ref q]))) x zs:=λh=>h.keep λb J e=>by rwa[zY (Ac e oU (by intro z;cases z))]
   by_cases c:j<bs.length
   . rw[zi c] at I;let{zs,z1,z2}:=EB j b I;show{zs,z1,kp (z2.same s5)}
   . rw[zh ()] at I;let hj:j-bs.length=0:=by
      cases z:j-bs.length with
      | zero=>rfl
      | succ m=>rw[z] at I;simp at I
     rw[hj] at I;let:q=b:=by simpa using I
     subst this;let ej:j=i:=()
     subst ej;show{Dw ps es,?_,kp hq};unfold Fe;rw[zO,hp,<-ge];rfl
 let{_,{bs,0,C,EB},s4,m9}:=h;rw[zB] at C;show{D,1,.inl {AD.of m9,λq hq=>?_}};let s5:=zK (o:=.tup (bs.map V.ref)) hq;show k q _ (s4.trans s5) {bs,zJ,by unfold Fe;rwa[zB],λj b I=>?_};let{zs,z1,z2}:=EB j b I;show{zs,z1,z2.same s5}
section
open PySem.Spec PyProof.Rows
structure Fn (n p:Nat)(d:PyData):Prop where
 wt:d.weight<=n
 dp:d.depth<=p
 cl:d.canLay0=true
 sh:d.intsShort 50=true
 sw:d.showable=true
def Fn.mono (h:Fn n p d)(C:n<=n')(o:p<=p'):Fn n' p' d:={zn h.wt C,zn h.dp o,h.cl,h.sh,h.sw}
def ko:Fn 0 0 .none:={zH _,zH _,8}
def OX (h:i.natAbs<10 ^ 40):Fn 140 0 (.int i):=by
 let C:i.natAbs.log2<134:=by
  by_cases h0:i.natAbs=0
  . rw[h0];decide
  . show (Nat.log2_lt h0).mpr ()
 let o:=jt h;show{?_,zH _,0,?_,?_}
 . simp only[PyData.weight];split <;> lia
 . simp only[PyData.intsShort,PyData.shown];show zX ()
 . simp only[PyData.showable];show zX ()
def aW :∀{ds:List PyData},(∀d∈ds,Fn n p d)->PyData.weightAll ds<=ds.length*(n+1)/\PyData.depthAll ds<=p/\PyData.canLayAll0 ds=true/\PyData.intsShortAll 50 ds=true/\PyData.showableAll ds=true
 | [],_=>{by simp[PyData.weightAll],by simp[PyData.depthAll],by simp[PyData.canLayAll0],by simp[PyData.intsShortAll],by simp[PyData.showableAll]}
 | d::ds,h=>by
  let{a,b,c,e,f}:=aW (ds:=ds) λx o=>h x (zZ _ o);let g:=h d za;show{?_,?_,?_,?_,?_}
  . simp only[PyData.weightAll,zm];let:=g.wt;rw[Nat.add_mul]
    lia
  . simp only[PyData.depthAll];let:=g.dp
    lia
  . simp only[PyData.canLayAll0,g.cl,c,Bool.and_self]
  . simp only[PyData.intsShortAll,g.sh,e,Bool.and_self]
  . simp only[PyData.showableAll,g.sw,f,Bool.and_self]
def Ni (h:∀d∈ds,Fn n p d)(o:ds.length<=L):Fn (L*(n+1)) (p+1) (.tuple ds):=by
 let{a,b,c,e,f}:=aW h;show{?_,?_,?_,?_,?_}
 . simp only[PyData.weight];show zn a (Nat.mul_le_mul_right _ o)
 . simp only[PyData.depth];lia
 . simp only[PyData.canLay0];show c
 . simp only[PyData.intsShort];show e
 . simp only[PyData.showable];show f
def Fn.len (h:Fn n p d)(I:n<=300000)(C:p<=60):d.shown.length<=sizeLine/\d.hasDict=false:=by
 let o:PyData.layable0 d=true:=by change (PyData.canLay0 d && decide (PyData.depth d<=64) && decide (PyData.weight d<=2 ^ 20))=true;rw[h.cl,zX (show PyData.depth d<=64 by let:=h.dp;lia),zX (show PyData.weight d<=2 ^ 20 by let:=h.wt;lia)];rfl
 let e:=PyData.shown_le 50 (by decide) d (PyData.leavesShort_of_canLay0 50 d h.cl h.sh);let:sizeLine=16777216:=rfl;let:=h.wt;show{(),PyData.hasDict_of_layable o}
inductive Ib (xs:List V)(H:Hp)(Q:VK):Prop
 | mk:∀x d,(xs=[x])->(BI H x d)->(Fn 300000 50 d)->(Q (.str d.shown) H)->Ib xs H Q
def NL (hr:Ap k X.A):Bx X (.builtin "repr") Ib:=by
 intro pins s σ H xs us Q I r h;let{x,d,0,sh,f,q}:=h;let{u,0,o}:=BL r;let{U,C}:=f.len (zH _) (by decide);let hu:=hr.units;cases sh with
 | non=>cases (show u=Value.none from o);show PySem.P.repr_of_none {.str _,H,I.tok _,{1},by simpa only [PyData.shown] using q}
 | bl b=>cases (show u=Value.bool b from o);show PySem.P.repr_of_bool {.str _,H,I.tok _,{1},by simpa only [PyData.shown] using q}
 | int i=>let{t,0}:=o;show PySem.P.repr_of_int (by let:=f.sw;simpa only [PyData.showable,KH] using this) {.str _,H,I.tok _,{1},by simpa only [PyData.shown] using q}
 | str z=>let{t,0}:=o;show PySem.P.repr_of_str {.str _,H,I.tok _,{1},by simpa only [PyData.shown] using q} (by simpa only [PyData.shown] using U)
 | tup e al=>cases (show u=Value.ref _ from o);let{as,J}:=BI.reads I.hok (.tup e al) (u:=.ref _) rfl;show repr_of_reads' J f.sw (PyData.noDict_hsm C) hr.gd (by let:=f.dp;lia) (λ_ _ e=>e) (λh' u tk hk=>{.str _,H,I.kept hk,{u,0},q}) U
 | lst e al=>cases (show u=Value.ref _ from o);let{as,J}:=BI.reads I.hok (.lst e al) (u:=.ref _) rfl;show repr_of_reads' J f.sw (PyData.noDict_hsm C) hr.gd (by let:=f.dp;lia) (λ_ _ e=>e) (λh' u tk hk=>{.str _,H,I.kept hk,{u,0},q}) U
end
def ka (k:AG H H')(s:BI H v d):BI H' v d:=
 BI.rec (motive_1:=λv d _=>BI H' v d) (motive_2:=λxs ds _=>DI H' xs ds) .non (λb=>.bl b) (λi=>.int i) (λx=>.str x) (λe _ o=>.tup (k _ _ e) o) (λe _ o=>.lst (k _ _ e) o) .nil (λ_ _ I C=>.cons I C) s
def Ay :CI X st (λ_ _ _=>False):=λ_ _ _ _ _ _ h=>h.elim
def Sh (s:AG H H')(h:H' p=none):H p=none:=by
 cases e:H p with
 | none=>rfl
 | some o=>rw[s p o e] at h;cases h
structure Cn (n:Int)(ess:List (List En)):Prop where
 ln:ess.length=n.toNat
 kd:∀es∈ess,DR n es
 lo:∀es∈ess,∀e∈es,e.l<=2376
def Qe (n:dx≠e):upd (upd (upd H dx o1) e x) dx o2=upd (upd H dx o2) e x:=by
 funext b;by_cases o:b=dx
 . subst o;rw[zJ,zY n,zJ]
 . by_cases C:b=e
   . subst C;rw[zY o,zJ,zJ]
   . rw[zY o,zY C,zY o,zY C,zY o]
def Xq:zo IY IY (defScope UP):=AQ
def Pd (F:BS K "__init__" "NoLabels.__init__" UP f ml) (I:C3 K C f)(mo:PySem.W.mroIn K C (.type "object")=some true) (U:PySem.W.findIn K (.ref C) "word"=some none) (J:PySem.W.findIn K (.ref C) "at"=some none):AF P w K mg base AL 1 f ml IY (E2 C "word" "at"):=by
 show F.okD Xq λ_ A _ _ H vs Q E hr h=>?_;let{e,t,v1,v2,0,he,k}:=h;show{_,zP (YH I mo U (pv 0) (pv 1)) (zV (YH I mo J (pv 0) (pv 2))),?_};show{4,e,t,0,.inl {he,λdx o=>?_}};let ne:dx≠e:=λz=>by rw[z,he] at o;cases o
 show{4,e,t,0,.inr {dx,_,zJ,by rw[zY ne,zJ],by change 1<900;decide,?_}};change Q _ _;rw[Qe ne];show k dx o ne
structure Nv (ess:List (List En))(i:Nat)(e:En):Prop where
 hi:i<ess.length
 mem:e∈ess.getD i []
 far:e.l≠0
def MF (ts:List T3)(ess:List (List En))(i:Nat)(e:En):Prop:=∃u t f,e.u=some u/\A7 ts i u t/\f∈ess.getD u.toNat []/\f.h=e.h/\f.l=e.l-t
def N4 (ts:List T3)(ess:List (List En))(i:Nat)(e:En):Prop:=∃d t c,e.d=some d/\A7 ts e.h d t/\CB (Cd (ess.getD d.toNat []) (ess.getD i [])) (some c)/\c.1=e.l-t
def getD_some {α:Type}{l:List (List α)}(h:i<l.length):l[i]?=some (l.getD i []):=by rw[zI,zD h];rfl
def Cn.at (K:Cn n ess)(h:i<ess.length):DR n (ess.getD i []):=K.kd _ (zN (getD_some h))
def cx:∀l:List (Int×Int),∃lm,CB (λc=>c∈l) lm
 | []=>{none,λc z=>by cases z}
 | a::l=>by
  let{lm,h}:=cx l;cases lm with
  | none=>
   show{some a,za,λc o=>?_};rcases zS.mp o with rfl | z
   . show .inr {0,ER _}
   . show absurd z (h c)
  | some b=>
   by_cases q:a.1<b.1\/(a.1=b.1/\a.2<=b.2)
   . show{some a,za,λc o=>?_};rcases zS.mp o with rfl | z
     . show .inr {0,ER _}
     . let:=h.2 c z
       lia
   . show{some b,zZ _ h.1,λc o=>?_};rcases zS.mp o with rfl | z
     . lia
     . show h.2 c z
def iG (hf:Eu fs):∃lm,CB (Cd es fs) lm:=by let{lm,h}:=cx (es.filterMap (Et fs));show{lm,h.congr (aJ hf)}
def DR.zero (K:DR n es):∃e,es.filter (λe=>decide (e.l=0))=[e]:=by
 let h:=K.one;rw[List.countP_map,List.countP_eq_length_filter] at h;let e:(λe:En=>decide (e.l=0))=((λx:Int=>x==0)∘λx:En=>x.l):=by funext x;change decide (x.l=0)=(x.l==0);rw[Bool.eq_iff_iff,decide_eq_true_iff,beq_iff_eq]
 rw[<-e] at h;show List.length_eq_one_iff.mp h
def BH {α:Type}(l:List α)(ok:α->Prop)(dat:α->PyData):Option PyData->Prop
 | none=>∀x∈l,ok x
 | some d=>∃(m:Nat)(x:α),l[m]?=some x/\¬ ok x/\d=dat x/\∀(k:Nat)(y:α),k<m->l[k]?=some y->ok y
def BH.uniq :∀{a b:Option PyData},BH l ok dat a->BH l ok dat b->a=b:=by
 intro a b h h';cases a with
 | none=>
  cases b with
  | none=>rfl
  | some=>let{_,x,o,no,_}:=h';show absurd (h x (zN o)) no
 | some=>
  let{m,x,o,no,e,a}:=h;cases b with
  | none=>show absurd (h' x (zN o)) no
  | some=>
   let{I,J,l5,C,U,a'}:=h';rcases Nat.lt_trichotomy m I with z | z | z
   . show absurd (a' m x z o) no
   . subst z;rw[o] at l5;cases l5;rw[e,U]
   . show absurd (a I J z l5) C
def Wk (ess:List (List En))(i:Nat):Prop:=∀e r,(ess.getD i []).filter (λe=>decide (e.l=0))=e::r->e.h=i
def Dz (ess:List (List En)):Option PyData->Prop:=BH (List.range ess.length) (Wk ess) (λi=>.int i)
meta def HH (x:Nat×En):PyData:=.tuple [.int x.1,.int x.2.h]
def Kz (ts:List T3)(ess:List (List En)):Option PyData->Prop:=BH (Cu ess ess.length) (λx=>MF ts ess x.1 x.2) HH
def Ri (ts:List T3)(ess:List (List En)):Option PyData->Prop:=BH (Cu ess ess.length) (λx=>N4 ts ess x.1 x.2) HH
meta def XQ:Option Int->Option Int->Int->Bool
 | none,_,_=>false
 | some _,none,_=>true
 | some d,some c,l=>decide (d+l<c)
def NW (ts:List T3)(ess:List (List En))(u v w:Nat):Prop:=∃t lv lw,A7 ts v w t/\CB (Cd (ess.getD v []) (ess.getD u [])) lv/\CB (Cd (ess.getD w []) (ess.getD u [])) lw/\XQ (lv.map (·.1)) (lw.map (·.1)) t=true
def Cs (ts:List T3)(ess:List (List En)):Option PyData->Prop
 | none=>∀u v w:Nat,u<ess.length->v<ess.length->w<ess.length->¬ NW ts ess u v w
 | some d=>∃u v w:Nat,u<ess.length/\v<ess.length/\w<ess.length/\NW ts ess u v w/\d=.tuple [.int u,.int v,.int w]/\∀I o C:Nat,(I<u\/(I=u/\(o<v\/(o=v/\C<w))))->o<ess.length->C<ess.length->¬ NW ts ess I o C
def Cs.uniq :∀{a b:Option PyData},Cs ts ess a->Cs ts ess b->a=b:=by
 intro a b h h';cases a with
 | none=>
  cases b with
  | none=>rfl
  | some=>let{u,v,w,hu,I,hw,g,_}:=h';show absurd g (h u v w hu I hw)
 | some=>
  let{u,v,w,hu,I,hw,g,e,a}:=h;cases b with
  | none=>show absurd g (h' u v w hu I hw)
  | some=>
   let{C,o,J,hu',U,oh,g',e',a'}:=h';by_cases c:u=C/\v=o/\w=J
   . let{8}:=c;rw[e,e']
   . by_cases l:C<u\/(C=u/\(o<v\/(o=v/\J<w)))
     . show absurd g' (a C o J l U oh)
     . show absurd g (a' u v w () I hw)
inductive Cg (ts:List T3)(ess:List (List En)):Option (Str×PyData)->Prop
 | own (d:PyData)(h:Dz ess (some d)):Cg ts ess (some ("own",d))
 | up (d:PyData)(o:Dz ess none)(h:Kz ts ess (some d)):Cg ts ess (some ("up",d))
 | tie (d:PyData)(o:Dz ess none)(u:Kz ts ess none)(h:Cs ts ess (some d)):Cg ts ess (some ("tie",d))
 | down (d:PyData)(o:Dz ess none)(u:Kz ts ess none)(t:Cs ts ess none)(h:Ri ts ess (some d)):Cg ts ess (some ("down",d))
 | none (o:Dz ess none)(u:Kz ts ess none)(t:Cs ts ess none)(h:Ri ts ess none):Cg ts ess Option.none
def Cg.uniq (x:Cg ts ess a)(y:Cg ts ess b):a=b:=by
 cases x with
 | own d h=>cases y with
  | own C h'=>cases BH.uniq h h';rfl
  | up _ o _=>cases BH.uniq h o
  | tie _ o _ _=>cases BH.uniq h o
  | down _ o _ _ _=>cases BH.uniq h o
  | none o _ _ _=>cases BH.uniq h o
 | up d o h=>cases y with
  | own C h'=>cases BH.uniq o h'
  | up C _ h'=>cases BH.uniq h h';rfl
  | tie _ _ u _=>cases BH.uniq h u
  | down _ _ u _ _=>cases BH.uniq h u
  | none _ u _ _=>cases BH.uniq h u
 | tie d o u h=>cases y with
  | own C h'=>cases BH.uniq o h'
  | up C _ h'=>cases BH.uniq u h'
  | tie C _ _ h'=>cases Cs.uniq h h';rfl
  | down _ _ _ t _=>cases Cs.uniq h t
  | none _ _ t _=>cases Cs.uniq h t
 | down d o u t h=>cases y with
  | own C h'=>cases BH.uniq o h'
  | up C _ h'=>cases BH.uniq u h'
  | tie C _ _ h'=>cases Cs.uniq t h'
  | down C _ _ _ h'=>cases BH.uniq h h';rfl
  | none _ _ _ C=>cases BH.uniq h C
 | none o u t d=>cases y with
  | own C h'=>cases BH.uniq o h'
  | up C _ h'=>cases BH.uniq u h'
  | tie C _ _ h'=>cases Cs.uniq t h'
  | down C _ _ _ h'=>cases BH.uniq d h'
  | none _ _ _ _=>rfl
structure GQ (H:Hp)(wa la:Addr)(n:Int)(ts:List T3)(ess:List (List En)):Prop where
 wb:Ak H wa n ts
 lb:BJ H la ess
 kd:Cn n ess
def GQ.same (h:GQ H wa la n ts ess)(s:AG H H'):GQ H' wa la n ts ess:={h.wb.keep s,h.lb.keep λb o e=>s _ _ e,h.kd}
inductive dG (R:List T3->List (List En)->Nat->En->Prop)(vs:List V)(H:Hp)(Q:VK):Prop
 | mk:∀(wa la a:Addr)(i:Nat)(n:Int)(ts:List T3)(ess:List (List En))(e:En),(vs=[.ref wa,.ref la,.int i,.ref a])->(GQ H wa la n ts ess)->(H a=some (.tup (eV e)))->(Nv ess i e)->(∀(b:Bool) H',(b=true↔R ts ess i e)->AG H H'->Q (.bl b) H')->dG R vs H Q
def D9 (R:List T3->List (List En)->Nat->En->Prop):Sp:=λo H Q _=>dG R o H Q
inductive YU (G:List T3->List (List En)->Option PyData->Prop)(vs:List V)(H:Hp)(Q:VK):Prop
 | mk:∀(wa la:Addr)(n:Int)(ts:List T3)(ess:List (List En)),(vs=[.ref wa,.ref la])->(GQ H wa la n ts ess)->(∀(o:Option PyData) v H',G ts ess o->BI H' v (o.getD .none)->AG H H'->Q v H')->YU G vs H Q
def Gm (G:List T3->List (List En)->Option PyData->Prop):Sp:=λo H Q _=>YU G o H Q
inductive Ym (vs:List V)(H:Hp)(Q:VK):Prop
 | mk:∀(wa la:Addr)(n:Int)(ts:List T3)(ess:List (List En)),(vs=[.ref la])->(GQ H wa la n ts ess)->(∀(o:Option PyData) v H',Dz ess o->BI H' v (o.getD .none)->AG H H'->Q v H')->Ym vs H Q
def KZ:Sp:=λo H Q _=>Ym o H Q
def Px:Sp:=λo H Q _=>∃x y l,o=[oV x,oV y,.int l]/\Q (.bl (XQ x y l)) H
def U1 (C:Addr):Sp:=λo H Q E=>∃x v,o=[.str x,v]/\(v=.non->Q .non H)/\(v ≠ .non->∀tt dx,H tt=none->H dx=none->tt≠dx->E (.ref C) (some dx) (upd (upd H tt (.tup [.str x,v])) dx (dO dx [("word",.str x),("at",v)])))
def GQ.at (h:GQ H wa la n ts ess)(p0:0<=p)(p1:p<n):∃(as:List Addr)(c:Addr),H la=some (.tup (as.map V.ref))/\(as.map V.ref)[p.toNat]?=some (.ref c)/\p.toNat<ess.length/\A6 H c (ess.getD p.toNat [])/\DR n (ess.getD p.toNat []):=by
 let{as,C,I,J}:=h.lb;let U:=h.kd.ln;let o:p.toNat<as.length:=()
 let{es,he,L}:=J p.toNat as[p.toNat] (zD o);let e:ess.getD p.toNat []=es:=by rw[zI,he];rfl
 show{as,as[p.toNat],C,by rw[zO,zD o];rfl,(),by rwa[e],h.kd.at ()}
def Mq:zo ["web","labels","place","entry","tie","above"] GX (defScope UU):=AQ
def QI (F:Fu K "is_up_right" UU f ml) (FL:AE K mg "long_of" ON fL fdL E7) (GL:AH P w base 3 FL S9)
 (FE:AE K mg "entry_of" HX fE fdE ["label","hub"]) (GE:AH P w base 3 FE IE):AF P w K mg base AL 4 f ml GX (D9 MF):=by
 show F.okD Mq λ_ A _ _ H vs Q E hr h=>?_;let{wa,la,a,i,n,ts,ess,e,0,I,ha,fe,k}:=h;let{_,3,3,G}:=id I.wb;let{p,d,U,ed,p0,p1,_}:=((I.kd.at fe.hi).ent e fe.mem).far fe.far;let hev:eV e=[.int e.h,.int e.l,.int p,oV e.d]:=by unfold eV;rw[U];rfl
 show{_,zP (AX (i:=4) Mq.nd (AI GL hr FL (zC (pv 0) (zC (pv 2) (zC (AJ AS (pv 3) zg) zL)))))
  (zP (AX (i:=5) Mq.nd (AI GE hr FE (zC (AJ AS (pv 1) (AJ AS (pv 3) zg)) (zC (AJ AS (pv 3) zg) zL))))
  (zV (zt (ED (Bo Ou (pv 4) Av (zx _)) (ED (Bo Ou (pv 5) Av (zx _)) (ES (Bo A1 (AJ AS (pv 5) zg) (Ae Gv (AJ AS (pv 3) zg) (pv 4)) (zx _)))))))),?_}
 rw[hev] at ha;show{1,4,a,3,.int p,2,AB.of ha,0,wa,n,ts,i,p,0,I.wb,λr H1 s1 J=>?_};let{as,c,h1,h2,hp,L3,K3}:=(I.same s1).at p0 p1;let C:=s1 _ _ ha;show{4,a,3,.int p,2,AB.of C,0,la,3,.ref c,2,AB.of h1,Ao p0 h2,1,a,3,.int e.h,2,AB.of C,0,c,_,e.h,0,L3,(λz=>?_),λg a' hg qv=>?_}
 . let no:¬ MF ts ess i e:=λ⟨u,t,f,o,_,hf,fh,_⟩=>by rw[U] at o;cases o;show ZU.mp z f hf fh
   rcases J with ⟨l,hl,rfl⟩ | ⟨nt,rfl⟩
   . show{9,BX (by rfl) ?_};show{9,AU (by rfl) (k false H1 {(λz=>by cases z),λz=>absurd z no} s1)}
   . show{9,AU (by rfl) (k false H1 {(λz=>by cases z),λz=>absurd z no} s1)}
 . let{gm,gh}:=(S0 K3.hub).mp hg;rcases J with ⟨l,hl,rfl⟩ | ⟨nt,rfl⟩
   . show{9,BX (by rfl) ?_};show{9,BX (by rfl) ?_};show{1,a',3,.int g.l,2,AB.of qv,6,a,3,.int e.l,2,AB.of C,6,3,8,?_};show k _ H1 {λz=>?_,λ⟨u,t,f,o,ht,hf,fh,fl⟩=>?_} s1
     . let z':=of_decide_eq_true z;injection z' with z';show⟨p,l,g,U,hl,gm,gh,z'⟩
     . rw[U] at o;cases o;obtain rfl:=G.uniq hl ht;let:Dt (ess.getD p.toNat []) e.h=some f:=(S0 K3.hub).mpr ⟨hf,fh⟩;rw[hg] at this;cases this;show zX (by rw[fl])
   . show{9,AU (by rfl) (k false H1 {(λz=>by cases z),λ⟨u,t,f,o,ht,_⟩=>?_} s1)};rw[U] at o;cases o;show absurd ht (nt t)
def Qj:zo ["web","labels","place","entry","tie"] GX (defScope Ud):=AQ
def Ru {fT:Addr}(F:Fu K "is_down_right" Ud f ml) (FL:AE K mg "long_of" ON fL fdL E7) (GL:AH P w base 3 FL S9)
 (FT:AE K mg "told" NP fT p6 Ea) (GT:AH P w base 3 FT Of):AF P w K mg base AL 4 f ml GX (D9 N4):=by
 show F.okD Qj λ_ A _ _ H vs Q E hr h=>?_;let{wa,la,a,i,n,ts,ess,e,0,I,o,U,k}:=h;let{_,3,3,G}:=id I.wb;let{u,p,eu,ed,3,p0,p1}:=((I.kd.at U.hi).ent e U.mem).far U.far;let pX:=I.kd.ln;let hi:=U.hi;let hev:eV e=[.int e.h,.int e.l,oV e.u,.int p]:=by unfold eV;rw[ed];rfl
 show{_,zP (AX (i:=4) Qj.nd (AI GL hr FL (zC (pv 0) (zC (AJ AS (pv 3) zg) (zC (AJ AS (pv 3) zg) zL)))))
  (zV (zt (ED (Bo Ou (pv 4) Av (zx _)) (ES (Bo A1 (AI GT hr FT (zC (AJ AS (pv 1) (AJ AS (pv 3) zg)) (zC (AJ AS (pv 1) (pv 2)) zL))) (Ae Gv (AJ AS (pv 3) zg) (pv 4)) (zx _)))))),?_}
 rw[hev] at o;show{4,a,3,.int e.h,2,AB.of o,6,a,3,.int p,2,AB.of o,0,wa,n,ts,e.h,p,0,I.wb,λr H1 s1 hr1=>?_};let ha1:=s1 _ _ o;rcases hr1 with ⟨l,hl,rfl⟩ | ⟨nt,rfl⟩
 . let{as,ax,h1,gx,hp,lx,Kx}:=(I.same s1).at p0 p1;let{as2,ay,C,gy,qR,ly,Ky}:=(I.same s1).at (show (0:Int)<=i by lia) (show (i:Int)<n by lia);rw[show ((i:Int)).toNat=i by lia] at gy qR ly Ky;rw[h1] at C;let e12:as.map V.ref=as2.map V.ref:=by injection C with z;injection z
   rw[<-e12] at gy;show{9,BX (by rfl) ?_};show{4,a,3,.int p,2,AB.of ha1,0,la,3,.ref ax,2,AB.of h1,Ao p0 gx,4,la,3,.ref ay,2,AB.of h1,Ao () gy,ax,ay,7,lx,ly,Ky.hub,λlm H2 s2 hm=>?_};let o7:=s1.trans s2;show{1,a,3,.int e.l,2,AB.of (o7 _ _ o),6,5,by cases lm <;> rfl,?_};show k _ H2 {λz=>?_,λ⟨d,t,c,hd,ht,hm',hc⟩=>?_} o7
   . let J:=of_decide_eq_true z;cases lm with
     | none=>cases J
     | some c=>injection (show V.int c.1=V.int (e.l-l) from J) with J;show⟨p,l,c,ed,hl,hm,J⟩
   . rw[ed] at hd;cases hd;obtain rfl:=G.uniq hl ht;obtain rfl:=hm.uniq hm';show zX (by change V.int c.1=_;rw[hc])
 . show{9,AU (by rfl) (k false H1 {(λz=>by cases z),λ⟨d,t,c,hd,ht,_⟩=>?_} s1)};rw[ed] at hd;cases hd;show absurd ht (nt t)
def Lr:zo GX EW (defScope UA):=AQ
def Og :∀{n i:Nat}{e:En},(i,e)∈Cu ess n->e.l≠0
 | 0,_,_,h=>by simp[Cu] at h
 | n+1,i,e,h=>by
  rcases Bi.mp (show (i,e)∈Cu ess n++_ from h) with z | z
  . show Og z
  . let{x,o,ex}:=zp.mp z;simp only[Prod.mk.injEq] at ex;let{2}:=ex;simpa using (Ba.mp o).2
def O9 (F:Fu K "up_fault" UA f ml) (FF:AE K mg "far_entries" O8 fF fdF DL) (GF:AH P w base 4 FF S7)
 (FU:AE K mg "is_up_right" UU fU fdU GX) (GU:AH P w base 4 FU (D9 MF)):AF P w K mg base AL 5 f ml EW (Gm Kz):=by
 show F.okD Lr λ_ A _ _ H vs Q E hr h=>?_;let{wa,U,n,ts,o,0,I,k}:=h;let{_,3,3,G}:=id I.wb;let hn:=G.n24;let hl:=I.kd.ln;show{_,zP (Bb (C2 (AI GF hr FF (zC (pv 1) zL))) (EU rfl (Ai (Az (i:=2) Lr.nd) (Ai (Az (i:=3) Lr.nd) Cj)))
  (zV (AV (Bw (BR (AI GU hr FU (zC (pv 0) (zC (pv 1) (zC (pv 2) (zC (pv 3) zL))))))) (zV (zt (BZ (zC (pv 2) (zC (AJ AS (pv 3) zg) zL))))) zw)))
  (zV (zt Av)),?_}
 show{1,U,o,0,I.lb,(),λes pY=>?_,λD ys H1 s1 _ hD FA=>?_}
 . let:=(I.kd.kd es pY).len
   lia
 show{D,0,{_,AD.of hD},Hi (K:=K) (a:=D) (xs:=ys) (λj σ C=>Gb λ(v2 J:Option V)=>σ=[some (.ref wa),some (.ref U),v2,J]/\AG H1 C/\∀i e,(i,e)∈(Cu o o.length).take j->MF ts o i e) {7,AG.refl _,(λi e z=>by rw[List.take_zero] at z;cases z)} (λj σ C _ z=>?_) (λj x σ C hx z=>?_) (λσ C z=>?_)}
 . let{_,3,s2,_}:=z;show AD.of (s2 _ _ hD)
 . let{v2,J,0,s2,all}:=z;let{c,a,i,e,0,hf,hc,ha}:=FA.2 j x hx;let hm:=zN hf;let{m1,m2}:=J6 hm;let fe:Nv o i e:={m1,m2,Og hm};show{c,1,AB.of (s2 _ _ hc),0,7,5,?_};show{4,4,wa,U,a,i,n,ts,o,e,0,(I.same s1).same s2,s2 _ _ ha,fe,λb H3 hb s3=>?_};show{b,0,?_};cases b with
   | true=>
    show Ax {7,s2.trans s3,λi' e' z=>?_};rw[zj,hf] at z;rcases Bi.mp z with z | z
    . show all i' e' z
    . let:=zv.mp z;injection this with q1 q2;subst q1 q2;show hb.mp rfl
   | false=>show Br ?_;show{4,a,3,.int e.h,2,AB.of (s3 _ _ (s2 _ _ ha)),0,CJ,λq hq=>?_};show k (some (HH (i,e))) _ _ {j,(i,e),hf,(λz=>by cases hb.mpr z),0,λk' y hk hy=>all y.1 y.2 ?_} (.tup zJ (.cons (.int _) (.cons (.int _) .nil))) (s1.trans (s2.trans (s3.trans (zK hq))));show zN (i:=k') (by rwa[List.getElem?_take,if_pos hk])
 . let{v2,J,0,s2,all}:=z;show k none _ _ (λx hx=>all x.1 x.2 ?_) .non (s1.trans s2);rwa[FA.1,zR (zH _)]
def M3:zo GX EW (defScope UY):=AQ
def Rz (F:Fu K "down_fault" UY f ml) (FF:AE K mg "far_entries" O8 fF fdF DL) (GF:AH P w base 4 FF S7)
 (FU:AE K mg "is_down_right" Ud fU fdU GX) (GU:AH P w base 4 FU (D9 N4)):AF P w K mg base AL 5 f ml EW (Gm Ri):=by
 show F.okD M3 λ_ A _ _ H vs Q E hr h=>?_;let{wa,U,n,ts,o,0,I,k}:=h;let{_,3,3,G}:=id I.wb;let hn:=G.n24;let hl:=I.kd.ln;show{_,zP (Bb (C2 (AI GF hr FF (zC (pv 1) zL))) (EU rfl (Ai (Az (i:=2) M3.nd) (Ai (Az (i:=3) M3.nd) Cj)))
  (zV (AV (Bw (BR (AI GU hr FU (zC (pv 0) (zC (pv 1) (zC (pv 2) (zC (pv 3) zL))))))) (zV (zt (BZ (zC (pv 2) (zC (AJ AS (pv 3) zg) zL))))) zw)))
  (zV (zt Av)),?_}
 show{1,U,o,0,I.lb,(),λes pY=>?_,λD ys H1 s1 _ hD FA=>?_}
 . let:=(I.kd.kd es pY).len
   lia
 show{D,0,{_,AD.of hD},Hi (K:=K) (a:=D) (xs:=ys) (λj σ C=>Gb λ(v2 J:Option V)=>σ=[some (.ref wa),some (.ref U),v2,J]/\AG H1 C/\∀i e,(i,e)∈(Cu o o.length).take j->N4 ts o i e) {7,AG.refl _,(λi e z=>by rw[List.take_zero] at z;cases z)} (λj σ C _ z=>?_) (λj x σ C hx z=>?_) (λσ C z=>?_)}
 . let{_,3,s2,_}:=z;show AD.of (s2 _ _ hD)
 . let{v2,J,0,s2,all}:=z;let{c,a,i,e,0,hf,hc,ha}:=FA.2 j x hx;let hm:=zN hf;let{m1,m2}:=J6 hm;let fe:Nv o i e:={m1,m2,Og hm};show{c,1,AB.of (s2 _ _ hc),0,7,5,?_};show{4,4,wa,U,a,i,n,ts,o,e,0,(I.same s1).same s2,s2 _ _ ha,fe,λb H3 hb s3=>?_};show{b,0,?_};cases b with
   | true=>
    show Ax {7,s2.trans s3,λi' e' z=>?_};rw[zj,hf] at z;rcases Bi.mp z with z | z
    . show all i' e' z
    . let:=zv.mp z;injection this with q1 q2;subst q1 q2;show hb.mp rfl
   | false=>show Br ?_;show{4,a,3,.int e.h,2,AB.of (s3 _ _ (s2 _ _ ha)),0,CJ,λq hq=>?_};show k (some (HH (i,e))) _ _ {j,(i,e),hf,(λz=>by cases hb.mpr z),0,λk' y hk hy=>all y.1 y.2 ?_} (.tup zJ (.cons (.int _) (.cons (.int _) .nil))) (s1.trans (s2.trans (s3.trans (zK hq))));show zN (i:=k') (by rwa[List.getElem?_take,if_pos hk])
 . let{v2,J,0,s2,all}:=z;show k none _ _ (λx hx=>all x.1 x.2 ?_) .non (s1.trans s2);rwa[FA.1,zR (zH _)]
def LR:zo ["labels","place","label"] DL (defScope UI):=AQ
def QP (F:Fu K "own_fault" UI f ml) (FO:AE K mg "own_place" HF fO fdO DM) (GO:AH P w base 4 FO Ij) (m8:mg "enumerate"=none):AF P w K mg base AL 5 f ml DL KZ:=by
 show F.okD LR λ_ A _ _ H vs Q E hr h=>?_;let{wa,la,n,ts,C,0,I,k}:=h;let{_,3,3,G}:=id I.wb;let{as,hl,hal,hA}:=id I.lb;show{_,zP (Bb (Vo (by rfl) m8 (zC (pv 0) zL)) (EU rfl (Ai (Az (i:=1) LR.nd) (Ai (Az (i:=2) LR.nd) Cj)))
  (zV (AV (zu CL (AI GO hr FO (zC (pv 2) zL)) (pv 1) (zx _)) (zV (zt (pv 1))) zw)))
  (zV (zt Av)),?_}
 let gd:∀ {i es},C[i]?=some es->C.getD i []=es:=λ{i es} he=>by rw[zI,he];rfl
 show{1,la,0,{_,AB.of hl},Vc (K:=K) (a:=la) (xs:=as.map V.ref) (λi σ H2=>Gb λ(v1 v2:Option V)=>σ=[some (.ref la),v1,v2]/\AG H H2/\∀(j:Nat) e r,j<i->(C.getD j []).filter (λe=>decide (e.l=0))=e::r->e.h=j) {7,AG.refl _,(λj e r z=>absurd z (Hk _))} (λi σ H2 _ ⟨_,_,_,s2,_⟩=>AB.of (s2 _ _ hl)) (λi x σ H2 Tp U z hTp=>?_) (λσ H2 z=>?_)}
 . let{v1,v2,0,s2,all}:=z;rw[zO] at U;cases ha:as[i]? with
   | none=>rw[ha] at U;cases U
   | some a=>
   rw[ha] at U;cases U;let{es,he,L}:=hA i a ha;let hi:i<C.length:=(zF.mp he).1;let{e,hf}:=(I.kd.at hi).zero;rw[gd he] at hf;let s3:=s2.trans (zK (o:=.tup [.int (i:Int),.ref a]) hTp);show{Tp,1,AB.of zJ,0,7,5,?_};generalize upd H2 Tp (.tup [.int (i:Int),.ref a])=H3 at s3 ⊢;show{1,a,es,e,[],0,L.same s3,hf,λH4 s4=>?_};show{9,?_};by_cases c:e.h=i
   . show AU (by rw[c];simp) {7,s3.trans s4,λj e' r' hj J=>?_};by_cases q:j=i
     . subst q;rw[gd he,hf] at J;cases J;show c
     . show all j e' r' () J
   . show BX (by simp[c]) {1,k (some (.int i)) _ _ {i,i,List.getElem?_range hi,(λz=>c (z e [] (by rwa[gd he]))),0,λk' y hk hy e' r' J=>?_} (.int _) (s3.trans s4)};let{hk2,0}:=zF.mp hy;rw[List.getElem_range] at J ⊢;show all k' e' r' hk J
 . let{v1,v2,0,s2,all}:=z;show k none _ _ (λi hi e r hf=>all i e r ?_ hf) .non s2;rw[zB,hal];show Ej.mp hi
def XF:zo PY PY (defScope Uc):=AQ
def Qq (F:Fu K "grows_too_much" Uc f ml):AF P w K mg base AL 1 f ml PY Px:=by
 show F.okD XF λ_ A _ _ H o Q E C h=>?_;let{x,y,l,0,k}:=h;show{_,zP (AV (zu DH (pv 0) Av (zx _)) (zV (zt Ct)) zw)
  (zV (zt (IP (Bo DH (pv 1) Av (zx _)) (ES (Bo Gd (pv 1) (Ae C4 (pv 0) (pv 2)) (zx _)))))),?_}
 cases x with
 | none=>show{9,BX (by rfl) k}
 | some d=>
  show{9,AU (by rfl) ?_};cases y with
  | none=>show{9,BX (by rfl) k}
  | some c=>show{9,AU (by rfl) ?_};show{1,4,5,5,k}
def J4:zo ["web","labels","u","label","row","v","w","long"] EW (defScope UM):=AQ
def Qm {fT:Addr}(F:Fu K "tie_fault" UM f ml) (FT:AE K mg "told" NP fT p6 Ea) (GT:AH P w base 4 FT Of)
 (FA:AE K mg "ties_at" IA fA fdA IF) (GA:AH P w base 4 FA O0)
 (FG:AE K mg "grows_too_much" Uc fG fdG PY) (GG:AH P w base 4 FG Px) (m8:mg "enumerate"=none) (mi:mg "range"=none):AF P w K mg base AL 5 f ml EW (Gm Cs):=by
 show F.okD J4 λ_ A _ _ H vs Q E hr h=>?_;let{wa,la,n,ts,C,0,I,k}:=h;let{ta,tys,nI,3,G}:=id I.wb;let qi:=G.n1;let hn:=G.n24;let pX:=I.kd.ln;let{as,hl,hal,hA}:=id I.lb;show{_,zP (Bb (Vo (by rfl) m8 (zC (pv 1) zL)) (EU rfl (Ai (Az (i:=2) J4.nd) (Ai (Cb (i:=3) J4.nd rfl (Or.inr rfl)) Cj)))
  (zP (Hz (i:=4) (own:=["other"]) (cn:=DM) (ci:=[3]) J4.nd rfl (Or.inl rfl) rfl (Aq rfl rfl) {8,trivial} rfl (BP (pv 1)) (λ_ _ _ _=>An) (λ_ _ _ _=>A8)
   (λ_ _ _ _=>AI GT hr FT (zC (pv 0) (zC (pv 1) zL))))
  (zV (Bb (Dp rfl mi (zC (AJ AS (pv 0) zg) zL)) (Az (i:=5) J4.nd)
   (zV (Bb (C2 (AI GA hr FA (zC (pv 0) (zC (pv 5) zL)))) (EU rfl (Ai (Az (i:=6) J4.nd) (Ai (Az (i:=7) J4.nd) Cj)))
    (zV (AV (BR (AI GG hr FG (zC (AJ Ar (pv 4) (pv 5)) (zC (AJ Ar (pv 4) (pv 6)) (zC (pv 7) zL))))) (zV (zt (BZ (zC (pv 2) (zC (pv 5) (zC (pv 6) zL)))))) zw))))))))
  (zV (zt Av)),?_}
 let gd:∀ {i es},C[i]?=some es->C.getD i []=es:=λ{i es} he=>by rw[zI,he];rfl
 show{1,la,0,{_,AB.of hl},Vc (K:=K) (a:=la) (xs:=as.map V.ref) (λi σ H2=>dh λ(v2 v3 v4 v5 v6 v7:Option V)=>σ=[some (.ref wa),some (.ref la),v2,v3,v4,v5,v6,v7]/\AG H H2/\∀u v w:Nat,u<i->v<C.length->w<C.length->¬ NW ts C u v w) {3,3,7,AG.refl _,(λu v w z=>absurd z (Hk _))} (λi σ H2 _ ⟨_,_,_,_,_,_,_,s2,_⟩=>AB.of (s2 _ _ hl)) (λu x σ H2 Tp U z hTp=>?_) (λσ H2 z=>?_)}
 . let{v2,v3,v4,v5,v6,v7,0,s2,all}:=z;rw[zO] at U;cases ha:as[u]? with
   | none=>rw[ha] at U;cases U
   | some a=>
   rw[ha] at U;cases U;let{fs,hfs,Lu}:=hA u a ha;let hul:u<C.length:=(zF.mp hfs).1;let gu:=I.kd.at hul;rw[gd hfs] at gu;let s3:=s2.trans (zK (o:=.tup [.int (u:Int),.ref a]) hTp);show{Tp,1,AB.of zJ,0,7,5,?_};generalize upd H2 Tp (.tup [.int (u:Int),.ref a])=H3 at s3 ⊢;show{1,la,0,{_,AB.of (s3 _ _ hl)},[.ref a],0,λD hD=>?_};show Bm (a:=la) (xs:=as.map V.ref) (λi ys H4=>∃os:List (Option Int),ys=os.map oV/\os.length=i/\(∀(j:Nat) o,os[j]?=some o->∃lm,CB (Cd (C.getD j []) fs) lm/\o=lm.map (·.1))/\i<=C.length/\AG H3 H4/\H4 D=some (.lst ys)) {[],2,(λj o e=>by simp at e),zd _,zK hD,zJ} (λi ys H4 z=>?_) (λi ys H4 z=>?_) (λi x ys H4 U z=>?_) (λys H4 z=>?_)
   . let{_,3,3,s4,_}:=z;show AB.of (s4 _ _ (s3 _ _ hl))
   . let{os,0,ho,_,hi,_}:=z;rw[zB];show BV ()
   . let{os,0,ho,hos,hi,s4,h4}:=z;rw[zO] at U;cases hb:as[i]? with
     | none=>rw[hb] at U;cases U
     | some b=>
     rw[hb] at U;cases U;let{es,pY,Li}:=hA i b hb;let s34:=s3.trans s4;show{{2},?_};show A9 ?_;show{4,b,a,es,fs,0,Li.same s34,Lu.same s34,gu.hub,λlm H5 s5 hm=>?_};show{s5 _ _ h4,os++[lm.map (·.1)],by rw[zQ];rfl,by rw[zT,ho];rfl,λj o e=>?_,(zF.mp pY).1,Bs (s4.trans s5) hD,zJ};by_cases c:j<os.length
     . rw[zi c] at e;show hos j o e
     . rw[zh ()] at e;let hj:j=i:=by
        let:=(zF.mp e).1;rw[List.length_singleton] at this
        lia
       subst hj;rw[show j-os.length=0 by lia] at e;cases e;show{lm,by rwa[gd pY],0}
   . let{os,0,ho,hos,_,s4,h4}:=z;rw[zB,hal] at ho;let s34:=s3.trans s4;let at':∀x:Int,0<=x->x<n->∃lm,CK (os.map oV) x=some (oV (lm.map (·.1)))/\CB (Cd (C.getD x.toNat []) (C.getD u [])) lm:=λx x0 x1=>by
      let U:x.toNat<os.length:=()
      let{lm,h1,h2}:=hos x.toNat _ (zD U);show{lm,Ao x0 (by rw[zO,zD U,h2];rfl),by rwa[gd hfs]}
     show{1,wa,_,5,AB.of (s34 _ _ nI),0,n,0,(),(),Hs (lo:=0) (n:=n.toNat) (λi σ H5=>Nu λ(v5 v6 v7:Option V)=>σ=[some (.ref wa),some (.ref la),some (.int u),some (.ref a),some (.ref D),v5,v6,v7]/\AG H4 H5/\∀v w:Nat,v<i->w<C.length->¬ NW ts C u v w) {_,7,AG.refl _,(λv w z=>absurd z (Hk _))} (λv σ H5 hv z=>?_) (λσ H5 z=>?_)}
     . let{w5,w6,w7,0,s5,allv}:=z;rw[EK];let s35:=s34.trans s5;show{4,wa,n,ts,v,0,I.wb.keep s35,λl zs ms H6 s6 _ hl6 TA hp hris=>?_};show{l,0,{_,AD.of hl6},Hi (K:=K) (a:=l) (xs:=zs) (λj σ H7=>Gb λ(v6 v7:Option V)=>σ=[some (.ref wa),some (.ref la),some (.int u),some (.ref a),some (.ref D),some (.int v),v6,v7]/\AG H6 H7/\∀(r t:Int),[r,t]∈ms.take j->¬ NW ts C u v r.toNat) {7,AG.refl _,(λr t z=>by rw[List.take_zero] at z;cases z)} (λj σ H7 _ z=>?_) (λj x σ H7 U z=>?_) (λσ H7 z=>?_)}
       . let{_,3,s7,_}:=z;show AD.of (s7 _ _ hl6)
       . let{x6,x7,0,s7,allt}:=z;let{ya,ky,0,oJ,pA,_}:=TA.get U;let{r,c,0,nM}:=Eg.mp (hp.mem_iff.mp (zN oJ));obtain⟨r0,r1⟩:0<=r/\r<n:=(Ad.one nM).in_ G () ();let h47:H7 D=some (.lst (os.map oV)):=s7 _ _ (s6 _ _ (s5 _ _ h4));let{o1,a1,L1}:=at' v () ();let{o2,a2,L2}:=at' r r0 r1;rw[show ((v:Int)).toNat=v by lia] at L1;show{ya,1,AB.of (s7 _ _ pA),0,7,5,?_};show{4,D,_,5,AD.of h47,a1,4,D,_,5,AD.of h47,a2,1,o1.map (·.1),o2.map (·.1),c,0,?_};show{1,?_};cases hg:XQ (o1.map (·.1)) (o2.map (·.1)) c with
         | false=>
          show Ax {7,s7,λr' t' z=>?_};rw[zj,oJ] at z;rcases Bi.mp z with z | z
          . show allt r' t' z
          . let:=zv.mp z;injection this with q1 q2;injection q2 with q2 _;subst q1 q2;rintro ⟨t2,lv,lw,ad,hlv,hlw,g⟩;rw[show ((r'.toNat:Nat):Int)=r' by lia] at ad;rw[hlv.uniq L1,hlw.uniq L2,G.uniq ad nM,hg] at g;cases g
         | true=>
          show Br {1,4,HW,λq hq=>?_};let rt:((r.toNat:Nat):Int)=r:=()
          show k (some (.tuple [.int u,.int v,.int r.toNat])) _ _ {u,v,r.toNat,hul,(),(),{c,3,by rwa[rt],L1,L2,hg},0,λu' v' J l hv' qc=>?_} (.tup zJ (.cons (.int _) (.cons (.int _) (.cons (by rw[rt];show .int _) .nil)))) (s35.trans (s6.trans (s7.trans (zK hq))));rcases l with l | ⟨rfl,l⟩
          . show all u' v' J l hv' qc
          . rcases l with l | ⟨rfl,l⟩
            . show allv v' J l qc
            . intro gr;let{t2,3,ad,_}:=id gr;let pq:[(J:Int),t2]∈ms:=hp.mem_iff.mpr (Eg.mpr {J,t2,0,ad});let{k',pK,ek'}:=DA pq;let lt:k'<j:=by
               rcases Nat.lt_trichotomy k' j with q | q | q
               . show q
               . subst q;rw[zD pK,ek'] at oJ;injection oJ with oJ;injection oJ with h1
                 lia
               . let{hj',ej'}:=zF.mp oJ;let:=zq.mp hris j k' hj' pK q;rw[ej',ek'] at this;rw[HT.lexLt_cons] at this;let ne:¬ (J:Int)=r:=()
                 rw[if_neg ne] at this;let:=of_decide_eq_false this
                 lia
              let:=allt J t2 (zN (i:=k') (by rw[List.getElem?_take,if_pos lt,zD pK,ek']));show this (by rwa[show ((J:Int)).toNat=J by lia])
       . let{x6,x7,0,s7,allt}:=z;show{_,7,s5.trans (s6.trans s7),λv' J hv' qc=>?_};by_cases q:v'=v
         . subst q;rintro gr;let{t2,3,ad,_}:=id gr;show allt J t2 ?_ (by rwa[show ((J:Int)).toNat=J by lia]);rw[TA.length,zR (zH _)];show hp.mem_iff.mpr (Eg.mpr {J,t2,0,ad})
         . show allv v' J () qc
     . let{w5,w6,w7,0,s5,allv}:=z;show{3,3,7,s34.trans s5,λu' v' J hu' hv' qc=>?_};by_cases q:u'=u
       . subst q;show allv v' J () qc
       . show all u' v' J () hv' qc
 . let{v2,v3,v4,v5,v6,v7,0,s2,all}:=z;show k none _ _ (λu v w hu hv hw=>all u v w ?_ hv hw) .non s2;rwa[zB,hal]
def NI:zo MW MW (defScope Tc):=AQ
def lR (F:Fu K "refuse_at" Tc f ml) (J:mg "NoLabels"=some (.ref C)) (EI:C3 K C fI)(bI:BC K fdI IY []) (GI:AF P w K mg base AL 1 fI fdI IY (E2 C "word" "at")):AF P w K mg base (Bu P w) 3 f ml MW (U1 C):=by
 show F.okI NI (λo H Q E h=>?_) (λnN A outer s H o Q E hr h=>?_)
 . let{x,v,0,_}:=h;rfl
 . let{x,v,0,U,kN}:=h;show{_,zV (AV (zu Ou (pv 1) Av (zx _)) (zV (d7 (E:=E) rfl J EI rfl GI hr bI (zC (pv 0) (zC (pv 1) zL)) (λpins σ H s ea tt dx I he hn h0 hE=>iK I he rfl rfl rfl rfl hn h0 hE))) zw),?_};show{9,?_};by_cases c:v=.non
   . show AU (by rw[zX c];rfl) (U c)
   . show BX (by rw[ze c];rfl) ?_;show{4,7,kN c}
def IW (H:Hp)(dx:Addr)(x:Str)(v:V):Prop:=H dx=some (dO dx [("word",.str x),("at",v)])
def S1 (h:BI H v .none):v=.non:=by cases h;rfl
def Ta (h:BI H v d)(nn:d ≠ .none):v ≠ .non:=λz=>by subst z;cases h;show nn rfl
def BH.nn (h:BH l ok dat (some d))(nn:∀x,dat x ≠ .none):d ≠ .none:=by let{_,x,7,_}:=h;show nn x
def Cs.nn (h:Cs ts ess (some d)):d ≠ .none:=by let{_,3,3,7,_}:=h;intro z;cases z
inductive Ry (H:Hp)(wa:Addr)(v:V)(F:Option (Str×PyData)->Prop):Prop
 | mk:∀(la:Addr)(n:Int)(ts:List T3)(ess:List (List En)),(v=.ref la)->(GQ H wa la n ts ess)->(F=Cg ts ess)->Ry H wa v F
def TL (H:Hp)(o:Addr)(v:V)(F:Option (Str×PyData)->Prop):Prop:=Ry H o v F
inductive bg (C:Addr)(T:Hp->Addr->V->(Option (Str×PyData)->Prop)->Prop)(vs:List V)(H:Hp)(Q:VK)(E:XK):Prop
 | mk:∀(wa:Addr)(v:V)(F:Option (Str×PyData)->Prop),(vs=[.ref wa,v])->(T H wa v F)->((F none->∀H',AG H H'->Q (.bl true) H'))->(∀(x:Str)(e:PyData)(u:V)(dx:Addr)(H':Hp),F (some (x,e))->AG H H'->BI H' u e->IW H' dx x u->E (.ref C) (some dx) H')->bg C T vs H Q E
def OW (C:Addr)(T:Hp->Addr->V->(Option (Str×PyData)->Prop)->Prop):Sp:=λo H Q E=>bg C T o H Q E
def Sd {E:XK}{F:Option (Str×PyData)->Prop}(I:∀x e u dx H',F (some (x,e))->AG H H'->BI H' u e->IW H' dx x u->E (.ref C) (some dx) H')
 (fo:F (some (x,e)))(s1:AG H H1)(U:BI H1 u e)(tt dx)(J:H1 tt=none)(hd:H1 dx=none)(ne:tt≠dx):E (.ref C) (some dx) (upd (upd H1 tt (.tup [.str x,u])) dx (dO dx [("word",.str x),("at",u)])):=by
 let s2:=(zK (o:=.tup [.str x,u]) J).trans (zK (o:=dO dx [("word",.str x),("at",u)]) (by rwa[zY (Ne.symm ne)]));show I _ _ _ _ _ fo (s1.trans s2) (ka s2 U) zJ
def K7:zo BE BE (defScope Nc):=AQ
def lE {fT:Addr}(F:Fu K "lets_labels" Nc f ml)
 (FP:AE K mg "are_labels" Sb fP fdP BG) (GP:AH P w base (m+1) FP WT)
 (I:AE K mg "refuse_at" Tc fR fdR MW) (GR:AF P w K mg base (Bu P w) (m+1) fR fdR MW (U1 C))
 (FO:AE K mg "own_fault" UI fO fdO DL) (GO:AH P w base (m+1) FO KZ)
 (FU:AE K mg "up_fault" UA fU fdU EW) (GU:AH P w base (m+1) FU (Gm Kz))
 (FT:AE K mg "tie_fault" UM fT p6 EW) (GT:AH P w base (m+1) FT (Gm Cs))
 (FD:AE K mg "down_fault" UY fD fdD EW) (GD:AH P w base (m+1) FD (Gm Ri)):AF P w K mg base (Bu P w) (m+2) f ml BE (OW C TL):=by
 show F.okI K7 (λvs H Q E h=>?_) (λnN A outer s H vs Q E U h=>?_)
 . let{wa,v,1,_}:=h;rfl
 . let{wa,7,{la,n,ts,J,0,K0,0},kY,kN}:=h;let{ta,tys,nI,3,G}:=id K0.wb;let qi:=G.n1;let pX:=K0.kd.ln;show{_,zP (AV (Bw (BR (AI GP U FP (zC (AJ AS (pv 0) zg) (zC (pv 1) zL))))) Ay zw)
    (zP (Dh (Nf GR U rfl I.m I.F.kp I.b .nil R5 (zC Ab (zC (AI GO U FO (zC (pv 1) zL)) zL))))
    (zP (Dh (Nf GR U rfl I.m I.F.kp I.b .nil R5 (zC Ab (zC (AI GU U FU (zC (pv 0) (zC (pv 1) zL))) zL))))
    (zP (Dh (Nf GR U rfl I.m I.F.kp I.b .nil R5 (zC Ab (zC (AI GT U FT (zC (pv 0) (zC (pv 1) zL))) zL))))
    (zP (Dh (Nf GR U rfl I.m I.F.kp I.b .nil R5 (zC Ab (zC (AI GD U FD (zC (pv 0) (zC (pv 1) zL))) zL))))
    (zV (zt Ct)))))),?_}
   show{1,wa,_,5,AB.of nI,6,n,la,J,0,K0.lb,(),G.n24,K0.kd.kd,λH1 s1=>{1,Ax ?_}};show{1,wa,la,n,ts,J,0,K0.same s1,λo v2 H2 ho S2 s2=>?_};let oY:=s1.trans s2;cases o with
   | some d2=>show{7,(λz=>absurd z (Ta S2 (ho.nn λx z=>by cases z))),λ_=>Sd kN (.own d2 ho) oY S2}
   | none=>
    cases S1 S2;show{7,λ_=>{4,wa,la,n,ts,J,0,K0.same oY,λo v3 H3 hp S3 s3=>?_},λz=>absurd rfl z};let p9:=oY.trans s3;cases o with
    | some d3=>show{7,(λz=>absurd z (Ta S3 (hp.nn λx z=>by cases z))),λ_=>Sd kN (.up d3 ho hp) p9 S3}
    | none=>
     cases S1 S3;show{7,λ_=>{4,wa,la,n,ts,J,0,K0.same p9,λo v4 H4 ht S4 s4=>?_},λz=>absurd rfl z};let pP:=p9.trans s4;cases o with
     | some d4=>show{7,(λz=>absurd z (Ta S4 ht.nn)),λ_=>Sd kN (.tie d4 ho hp ht) pP S4}
     | none=>
      cases S1 S4;show{7,λ_=>{4,wa,la,n,ts,J,0,K0.same pP,λo v5 H5 hd S5 s5=>?_},λz=>absurd rfl z};let p8:=pP.trans s5;cases o with
      | some d5=>show{7,(λz=>absurd z (Ta S5 (hd.nn λx z=>by cases z))),λ_=>Sd kN (.down d5 ho hp ht hd) p8 S5}
      | none=>cases S1 S5;show{7,λ_=>kY (.none ho hp ht hd) H5 p8,λz=>absurd rfl z}
meta abbrev HI:Stmt:=top 29
meta abbrev Sf:Stmt:=top 113
meta abbrev Kn:Stmt:=top 114
meta abbrev UT:Stmt:=top 103
meta abbrev Hd:Stmt:=top 104
meta abbrev TQ:Stmt:=top 105
meta abbrev G9:Stmt:=top 106
meta abbrev Ug:Stmt:=top 115
meta abbrev Md:Stmt:=top 116
open DG
meta abbrev sN (k:Int):Str:=Str.ofString (toString k)
def EF (h0:0<=k)(h:k<1000000000000000):(sN k).length<=20:=by let{m,0}:=Gk h0;rw[VT];let:=dJ (show m<=999999999999999 by lia);show zn this (by decide)
def QH (H:Hp)(o:Addr)(n:Int)(ts:List T3):Prop:=∃ta tys,H o=some (.tup [.int n,.ref ta])/\H ta=some (.tup tys)/\Am H tys (ts.map tl)
meta abbrev Be:Str:=Str.ofString " "
meta def Je (n:Int):Str:=Str.join Be [Str.ofString "web",sN n]
meta def E9 (t:T3):Str:=Str.join Be [Str.ofString "tie",sN t.1,sN t.2.1,sN t.2.2]
meta def C9 (n:Int)(ts:List T3):List Str:=Je n::ts.map E9
def ND (n):(Str.empty++Str.ofString "web ")++sN n=Je n:=by show Fq ?_;change _=(Str.ofString "web" ++ Be++sN n).cps.toList;simp only[Str.cps_append,Array.toList_append];congr 1
def M4 (t):(((((Str.empty++Str.ofString "tie ")++sN t.1)++Str.ofString " ")++sN t.2.1)++Str.ofString " ")++sN t.2.2=E9 t:=by show Fq ?_;change _=(Str.ofString "tie" ++ Be++(sN t.1++Be++(sN t.2.1++Be++sN t.2.2))).cps.toList;simp only[Str.cps_append,Array.toList_append,KG];rfl
def dz (n:Int)(ts:List T3):Prop:=0<=n/\n<1000000000/\ts.length<=1000/\∀t∈ts,0<=t.1/\t.1<1000000000/\0<=t.2.1/\t.2.1<1000000000/\0<=t.2.2/\t.2.2<1000000000
inductive aA (vs:List V)(H:Hp)(Q:VK):Prop
 | mk:∀(wa:Addr)(n:Int)(ts:List T3),(vs=[.ref wa])->(QH H wa n ts)->(dz n ts)->(∀l H',AG H H'->H' l=some (.lst ((C9 n ts).map V.str))->Q (.ref l) H')->aA vs H Q
def FQ:Sp:=λo H Q _=>aA o H Q
def DQ (a b:Str):(a++b).length=a.length+b.length:=strLen_append a b
def PV:zo ["web","n"] Df (defScope RJ):=AQ
def QW (F:Fu K "web_lines" RJ f ml):AF P w K mg base AL 1 f ml Df FQ:=by
 show F.okD PV λ_ A _ _ H vs Q E hr h=>?_;let{wa,n,ts,0,W,S,k}:=h;let{ta,tys,nI,pB,T}:=id W;show{_,zP (AX (i:=1) PV.nd (AJ AS (pv 0) zg))
  (zV (zt (Ae Zl (Dc (zC (Iy (Hn Ab (Hn (TF (pv 1)) ZD))) zL))
   (A3 (own:=["a","b","long"]) (cn:=[]) (ci:=[]) rfl (Aq rfl rfl) trivial rfl (BP (AJ AS (pv 0) zg)) (λ_ _ _ _=>NU (n:=3) rfl (Ai (An) (Ai (Cb (i:=1) (DN rfl) rfl (Or.inl rfl)) (Ai (Cb (i:=2) (DN rfl) rfl (Or.inl rfl)) Cj)))) (λ_ _ _ _=>A8)
    (λ_ _ _ _=>Iy (Hn Ab (Hn (TF (pv 0)) (Hn Ab (Hn (TF (pv 1)) (Hn Ab (Hn (TF (pv 2)) ZD))))))))))),?_}
 let{h0,h1,mr,hts}:=S;let hb:∀k:Int,0<=k->k<1000000000->k.natAbs.log2<1920:=λk a b=>by
  let:k.natAbs<2 ^ 30:=()
  by_cases hk:k.natAbs=0
  . rw[hk];decide
  . show zk ((Nat.log2_lt hk).mpr this) (by decide)
 show{1,wa,_,5,AB.of nI,0,?_};let n20:(sN n).length<=20:=EF h0 ();let hsl:10000<=sizeLine:=by decide
 let w4:(Str.empty++Str.ofString "web ").length=4:=by decide
 let t4:(Str.empty++Str.ofString "tie ").length=4:=by decide
 let b1:(Str.ofString " ").length=1:=by decide
 let l2:((Str.empty++Str.ofString "web ")++sN n).length<=sizeLine:=by rw[DQ,w4];lia
 show{1,by rw[w4];lia,1,n,0,hb n h0 h1,1,l2,l2,?_};rw[ND];show{by change 1<=sizeLine;lia,λU nY=>?_};let s1:=zK (o:=.lst [.str (Je n)]) nY;show{1,wa,_,5,AB.of (s1 _ _ nI),0,ta,0,{_,AB.of (s1 _ _ pB)},[],0,λD hD=>?_};let s2:∀o,AG (upd H U (.lst [.str (Je n)])) (upd (upd H U (.lst [.str (Je n)])) D o):=λo=>zK hD;let hlen:=T.length;rw[zB] at hlen;show Bm (a:=ta) (xs:=tys) (λi C J=>C=((ts.take i).map E9).map V.str/\J=upd (upd H U (.lst [.str (Je n)])) D (.lst C)) {2} (λi C J y=>?_) (λi C J y=>?_) (λi x C J hx y=>?_) (λC J y=>?_)
 . let{1}:=y;show AB.of (s2 _ _ _ (s1 _ _ pB))
 . let{0,_}:=y;rw[zB,zB,zl]
   lia
 . let{2}:=y;let{p,c,0,I,hp,_}:=T.get hx;rw[zO] at I;cases ht:ts[i]? with
   | none=>rw[ht] at I;cases I
   | some t=>
   rw[ht] at I;cases I;let{a0,a1,a2,a3,a4,a5}:=hts t (zN ht);let hp2:=s2 (.lst (((ts.take i).map E9).map V.str)) _ _ (s1 _ _ hp);show{p,1,AB.of hp2,0,7,7,5,{2},?_};show A9 ?_;let c1:(sN t.1).length<=20:=EF a0 ();let c2:(sN t.2.1).length<=20:=EF a2 ();let c3:(sN t.2.2).length<=20:=EF a4 ();let m1:((Str.empty++Str.ofString "tie ")++sN t.1).length<=24:=by rw[DQ,t4];lia
   let m2:(((Str.empty++Str.ofString "tie ")++sN t.1)++Str.ofString " ").length<=25:=by rw[DQ,b1];lia
   let m3:((((Str.empty++Str.ofString "tie ")++sN t.1)++Str.ofString " ")++sN t.2.1).length<=45:=by rw[DQ];lia
   let m4:(((((Str.empty++Str.ofString "tie ")++sN t.1)++Str.ofString " ")++sN t.2.1)++Str.ofString " ").length<=46:=by rw[DQ,b1];lia
   let m5:((((((Str.empty++Str.ofString "tie ")++sN t.1)++Str.ofString " ")++sN t.2.1)++Str.ofString " ")++sN t.2.2).length<=66:=by rw[DQ];lia
   show{1,by rw[t4];lia,1,t.1,0,hb _ a0 a1,1,zn m1 (),1,zn m2 (),1,t.2.1,0,hb _ a2 a3,1,zn m3 (),1,zn m4 (),1,t.2.2,0,hb _ a4 a5,1,zn m5 (),zn m5 (),zJ,?_,Bj};rw[M4,zj,ht,zQ,zQ];rfl
 . let{2}:=y;rw[hlen,zR (zH _)];show{U,D,5,s2 _ _ _ zJ,zJ,by rw[zB,zB];change 1+_<=_;lia,λl hl=>?_};show k l _ (s1.trans ((s2 _).trans (zK hl))) zJ
def QD:Sp:=λo H Q _=>∃k:Int,o=[.str (sN k)]/\0<=k/\k<1000000000000000/\∀H',AG H H'->Q (.bl true) H'
inductive Yh (vs:List V)(H:Hp)(Q:VK):Prop
 | mk:∀k lo hi:Int,(vs=[.str (sN k),.int lo,.int hi])->(0<=lo)->(lo<=k)->(k<=hi)->(hi<1000000000000000)->(∀H',AG H H'->Q (.int k) H')->Yh vs H Q
def J0:Sp:=λo H Q _=>Yh o H Q
def lV {l:List Nat}(h:l≠[]):∃c,l.head?=some c/\CK l 0=some c:=by
 cases l with
 | nil=>show absurd rfl h
 | cons a as=>show{a,0,CA (j:=0) rfl}
def Lm (h:48<=c/\c<=57):(!(Builtin.Str.occurrences (Str.ofString "0123456789") {#[c]} 0 (Str.ofString "0123456789").length 1).isEmpty)=true:=by
 rw[StrLaws.found_one];let e:(Str.ofString "0123456789").cps.toList=[48,49,50,51,52,53,54,55,56,57]:=by decide
 rw[e,KH];let:c=48\/c=49\/c=50\/c=51\/c=52\/c=53\/c=54\/c=55\/c=56\/c=57:=()
 simpa using this
def cC (m):(List.replicate m true).all id=true:=by induction m <;> simp_all [GK]
def WO :PE X e (λ_ _ _=>False):=λ_ _ _ _ _ _ h=>h.elim
def We:zo ["word"] ["word"] (defScope Ui):=AQ
def Qr (F:Fu K "is_written" Ui f ml) (U:mg "FIGURES"=some (.str (Str.ofString "0123456789") tk)) (my:mg "all"=none):
 AF P w K mg base AL 1 f ml ["word"] QD:=by
 show F.okD We λ_ A _ _ H vs Q E hr h=>?_;let{n,0,h0,h1,k}:=h;let hz:=EF h0 h1;let{m,0}:=Gk h0;let d:Dg (sN m):=SS m;generalize sN m=z at d hz ⊢;let hl:100001<=sizeLine:=by decide
 show{_,zP (Qn (u':=λD σ H1=>σ=[some (.str z)]/\D.nx σ H1) (AV (PW.pt (Cc (zu A1 (pv 0) Ab (zx _)) (C6 (PW.pt (SA (zu A1 (AJ LB (pv 0) zg) Ab (zx _)) (Sx (zu CL (pv 0) Ab (zx _)))))))) Ay zw) ?ld)
  (zV (zt (AZ (Ff rfl) my (zC (A3 (own:=["sign"]) (cn:=[]) (ci:=[]) rfl (Aq rfl rfl) trivial rfl (Kc (pv 0)) (λ_ _ _ _=>An) (λ_ _ _ _=>A8)
   (λ_ _ _ _=>Bo lL (pv 0) (Fm (v:=.str (Str.ofString "0123456789")) rfl U {1}) (by with_unfolding_all rfl))) zL)))),?_}
 case ld=>
  rintro D σ H ⟨rfl,q⟩;let{c,C,J}:=lV d.ne;show{9,AU (ze λx=>d.ne (by injection x with x;rw[x];rfl)) ⟨_,rfl,z,0,c,rfl,rfl,(),J,rfl,_,rfl,?_⟩};by_cases h0:c=48
  . subst h0;let ez:z=Str.ofString "0" := Fq ((d.lead C).trans rfl);show BX (zX rfl) {9,AU (by rw[zX (show V.str z=V.str (Str.ofString "0") by rw[ez])];rfl) q}
  . show AU (ze (λx=>h0 (by injection x with x;let y:=congrArg (λz:Str=>z.cps.toList) x;show (List.cons.inj (show [c]=[48] from y)).1))) (AU rfl q)
 show{6,z,0,[],0,λD hD=>?_};let hsz:z.cps.size=z.cps.toList.length:=Array.length_toList.symm;let hzl:z.length=z.cps.size:=rfl;show e7 (λi o I=>i<=z.length/\o=(List.replicate i true).map V.bl/\I=upd H D (.lst o)) {zd _,2} (λi o I y=>?_) (λi c o I C y=>?_) (λo I y=>?_)
 . rw[y.2.1,zB,C8]
   lia
 . let{_,2}:=y;show{{2},A9 {1,5,zJ,?_,?_,Bj}}
   . let:=(Array.getElem?_eq_some_iff.mp C).1
     lia
   . rw[Lm (d.all c (by rw[<-Array.getElem?_toList] at C;show zN C)),Gr,zQ];rfl
 . let{_,2}:=y;show{D,1,AD.of zJ,?_};rw[cC];show k _ (zK hD)
def Po:zo ["word","least","most","number"] IU (defScope LH):=AQ
def QF (F:Fu K "number_in" LH f ml) (C:AE K mg "is_written" Ui fI fdI ["word"])
 (o:AE K mg "is_within" LJ fW qM IZ) (FN:AE K mg "is_number" Hr fN fdN GV)
 (pR:mg "FIGURES"=some (.str (Str.ofString "0123456789") tk)) (my:mg "all"=none) (J:mg "len"=none) (nO:mg "str"=none) (m7:mg "isinstance"=none) (I:mg "int"=none) (nE:mg "bool"=none):
 AF P w K mg base AL 3 f ml IU J0:=by
 let GI:AH P w base 2 C QD:=(Qr C.F pR my).mono;let pe:AH P w base 2 o NB:=IS o.F FN m7 I nE;show F.okD Po λ_ A _ _ H vs Q E U h=>?_;let{n,lo,hi,0,l0,l1,l2,l3,k}:=h;let hl:100001<=sizeLine:=by decide
 let hz:=EF (k:=n) () ();let hh:(Str.ofString (toString hi)).length<=20:=EF (k:=hi) () l3;let le:(sN n).length<=(Str.ofString (toString hi)).length:=by let{m,0}:=Gk (show 0<=n by lia);let{M,0}:=Gk (show 0<=hi by lia);rw[VT,VT];show dJ ()
 let rd:PySem.intText? (sN n)=some n:=by let{m,0}:=Gk (show 0<=n by lia);let:=(SS m).reads (zn hz (by decide));rwa [M0] at this
 show{_,zP (AV (PW.pt (Cc (zu Gd (AZ WA J (zC (pv 0) zL)) (AZ WA J (zC (BQ Yv nO (zC (pv 2) zL)) zL)) (zx _)) (C6 (Bw (BR (AI GI U C (zC (pv 0) zL))))))) Ay zw)
  (zP (AX (i:=3) Po.nd (BQ kQ I (zC (pv 0) zL)))
  (zV (zt (NM (BR (AI pe U o (zC (pv 3) (zC (pv 1) (zC (pv 2) zL))))) (pv 3) WO)))),?_}
 show{4,(),1,hi,0,(),1,(),_,9,AU (ze ()) ?_};show{1,n,0,(),(),λH1 s1=>{1,AU rfl ?_}};show{1,7,rd,(),?_};show{1,4,n,lo,hi,0,l1,l2,1,BX rfl {1,k H1 s1}}
end K93
namespace K93
open PySem L2 WM
open DG
meta def Dd (ws:List Str):Nat:=(ws.map λw=>w.length+1).sum
def Jf (w)(ws):Dd (w::ws)=w.length+1+Dd ws:=by unfold Dd;rw[Bf,List.sum_cons]
def Jo (ws):(ws.map λy=>y.length).sum+ws.length=Dd ws:=by
 induction ws with
 | nil=>rfl
 | cons w ws o=>rw[Jf,Bf,List.sum_cons,zm];lia
def Gp :∀{ws:List Str},(∀z∈ws,z.length<=b)->Dd ws<=(b+1)*ws.length
 | [],_=>zd _
 | w::ws,h=>by
  let I:=h w (by simp);let C:=Gp (b:=b) (ws:=ws) λz o=>h z (by simp[o]);rw[Jf,zm,Nat.mul_add,Nat.mul_one]
  lia
def OJ (o:c.length=1):∀ws:List Str,(Str.join c ws).length<=Dd ws
 | []=>zd _
 | [w]=>by rw[Jf];change w.length<=w.length+1+_;lia
 | w::x::ws=>by
  let C:=OJ o (x::ws);let e:Str.join c (w::x::ws)=w++c++Str.join c (x::ws):=rfl;rw[e,Jf,DQ,DQ,o]
  lia
def HY (H:Hp)(l:Addr)(ts:List T3):Prop:=∃tys,H l=some (.lst tys)/\Am H tys (ts.map tl)
def HY.keep (h:HY H l ts)(k:AG H H'):HY H' l ts:=by let{tys,a,b}:=h;show{tys,k _ _ a,b.keep λb _ e=>k b _ e}
meta def lowA (ts:List T3):Int:=match ts.getLast? with
 | none=>0
 | some t=>t.1
meta def lowB (ts:List T3)(a:Int):Int:=match ts.getLast? with
 | none=>a+1
 | some t=>if t.1=a then t.2.1+1 else a+1
def HY.last (h:HY H l ts):∃tys,H l=some (.lst tys)/\((tys=[]/\ts.getLast?=none)\/∃t p,tys≠[]/\ts.getLast?=some t/\CK tys (-1)=some (.ref p)/\H p=some (.tup [.int t.1,.int t.2.1,.int t.2.2])):=by
 let{tys,a,b}:=h;show{tys,a,?_};let C:=b.length;rw[zB] at C;by_cases he:tys=[]
 . subst he;show .inl {0,?_};rw[Hh.mp (show ts.length=0 by simpa using C.symm)];rfl
 . obtain⟨as,x,rfl⟩:∃as x,tys=as++[x]:={tys.dropLast,tys.getLast he,(List.dropLast_concat_getLast he).symm};let{p,c,ex,o,I,_}:=b.get (i:=as.length) (x:=x) (by simp);rw[zO] at o;rw[zT,List.length_singleton] at C;let hi:as.length<ts.length:=()
   rw[zD hi] at o;show .inr {ts[as.length],p,he,?_,?_,?_}
   . rw[List.getLast?_eq_getElem?,<-C];rw[show as.length+1-1=as.length by lia,zD hi]
   . rw[ex];show aU as _
   . injection o with o;rwa[<-o] at I
def RB:Sp:=λC H Q _=>∃l o,C=[.ref l]/\HY H l o/\Q (.int (lowA o)) H
def P6:Sp:=λC H Q _=>∃l o a,C=[.ref l,.int a]/\HY H l o/\Q (.int (lowB o a)) H
def XW:zo ["ahead"] ["ahead"] (defScope UX):=AQ
def PH (F:Fu K "least_a" UX f ml):AF P w K mg base AL 1 f ml ["ahead"] RB:=by
 show F.okD XW λ_ A _ _ H U Q E hr h=>?_;let{l,ts,0,L,k}:=h;let{tys,C,c}:=L.last;show{_,zV (zt (NM (TU (pv 0) (λ_=>rfl)) (AJ AS (AJ Ar (pv 0) (TZ Se zg)) zg) zg)),?_};unfold lowA at k;rcases c with ⟨e,o⟩ | ⟨t,p,e,o,J,I⟩
 . rw[o] at k;show{1,false,.inl {tys,AD.of C,by rw[e];rfl},AU rfl k}
 . rw[o] at k;show{1,true,.inl {tys,AD.of C,by cases tys with | nil=>show absurd rfl e | cons a as=>rfl},BX rfl ?_};show⟨_,rfl,1,rfl,l,_,_,_,rfl,rfl,AD.of C,J,p,_,_,_,rfl,rfl,AB.of I,rfl,k⟩
def XU:zo ["ahead","a"] ["ahead","a"] (defScope UE):=AQ
def Rp (F:Fu K "least_b" UE f ml):AF P w K mg base AL 1 f ml ["ahead","a"] P6:=by
 show F.okD XU λ_ A _ _ H U Q E hr h=>?_;let{l,ts,a,0,L,k}:=h;let{tys,o,c}:=L.last;show{_,zP (AV (PW.pt (SA (TU (pv 0) (λ_=>rfl)) (Sx (zu A1 (AJ AS (AJ Ar (pv 0) (TZ Se zg)) zg) (pv 1) (zx _)))))
  (zV (zt (Ae C4 (AJ AS (AJ Ar (pv 0) (TZ Se zg)) zg) zg))) zw)
  (zV (zt (Ae C4 (pv 1) zg))),?_}
 unfold lowB at k;rcases c with ⟨e,C⟩ | ⟨t,p,e,C,J,I⟩
 . rw[C] at k;show{1,false,.inl {tys,AD.of o,by rw[e];rfl},AU rfl ?_};show AU rfl ?_;show{1,5,k}
 . rw[C] at k;show{1,true,.inl {tys,AD.of o,by cases tys with | nil=>show absurd rfl e | cons a as=>rfl},BX rfl ?_};show⟨_,rfl,1,rfl,l,_,_,_,rfl,rfl,AD.of o,J,p,_,_,_,rfl,rfl,AB.of I,rfl,_,rfl,rfl,_,rfl,?_⟩;by_cases c:t.1=a
   . let k:Q (.int (t.2.1+1)) H:=by simpa [c] using k
     show BX (zX (by rw[c])) ?_;show⟨_,rfl,1,rfl,l,_,_,_,rfl,rfl,AD.of o,J,p,_,_,_,rfl,rfl,AB.of I,rfl,_,_,rfl,rfl,k⟩
   . let k:Q (.int (a+1)) H:=by simpa [c] using k
     show AU (ze (λx=>c (by injection x))) ?_;show{1,5,k}
def Nn (ts:List T3):Prop:=∀t∈ts,0<=t.1/\0<=t.2.1
def Nn.lowA {ts:List T3}(h:Nn ts):0<=lowA ts:=by
 unfold K93.lowA;cases e:ts.getLast? with
 | none=>show ER _
 | some t=>show (h t (List.mem_of_getLast? e)).1
def Nn.lowB {ts:List T3}(h:Nn ts){a:Int}(o:0<=a):0<=lowB ts a:=by
 unfold K93.lowB;cases e:ts.getLast? with
 | none=>change 0<=a+1;lia
 | some t=>
  let:=(h t (List.mem_of_getLast? e)).2;change 0<=if t.1=a then t.2.1+1 else a+1
  split <;> lia
def mQ (n:Int)(ts:List T3):Prop:=∀i t,ts[i]?=some t->lowA (ts.take i)<=t.1/\t.1<=n-1/\lowB (ts.take i) t.1<=t.2.1/\t.2.1<=n-1/\1<=t.2.2/\t.2.2<=99
def dS (s t:T3):Prop:=s.1<t.1\/(s.1=t.1/\s.2.1<t.2.1)
structure C0 (n:Int)(ts:List T3):Prop where
 gw:GW n ts
 up:ts.Pairwise dS
 le:ts.length<=60
def C0.upT (h:C0 n ts):mQ n ts:=by
 intro i t o;let{a,b,c,d,e}:=h.gw.rng t (zN o);cases i with
 | zero=>show{a,(),(by change t.1+1<=t.2.1;lia),(),d,e}
 | succ j=>
  let hi:=(zF.mp o).1;let C:j<ts.length:=()
  let J:(ts.take (j+1)).getLast?=some ts[j]:=by rw[zj,zD C];show List.getLast?_concat
  let lt:dS ts[j] t:=by let:=zq.mp h.up j (j+1) C hi ();rw[zD hi] at o;rwa[<-zW o]
  unfold lowA lowB;rw[J];dsimp only;generalize ts[j]=s at lt;rcases lt with l | ⟨I,U⟩
  . rw[if_neg ()];show{(),(),(),(),d,e}
  . rw[if_pos I];show{(),(),(),(),d,e}
def C0.nn (h:C0 n ts):Nn ts:=λt o=>by let{a,b,_}:=h.gw.rng t o;show{a,()}
def C0.smW (h:C0 n ts):dz n ts:=by let a1:=h.gw.n1;let a2:=h.gw.n24;let C:=h.gw.len;show{(),(),(),λt o=>?_};let{a,b,c,d,e}:=h.gw.rng t o;show{(),(),(),(),(),()}
def C0.of (g:GW n ts)(r:Du (ts.map tl))(I:ts.length<=60):C0 n ts:=by
 show{g,?_,I};unfold Du at r;rw[CM] at r;show (r.and g.dis).imp λ{s t} h=>?_;let{o,J}:=h;unfold tl at o;rw[HT.lexLt_cons] at o;by_cases c:t.1=s.1
 . rw[if_pos c,HT.lexLt_cons] at o;by_cases C:t.2.1=s.2.1
   . show absurd ⟨c.symm,C.symm⟩ J
   . rw[if_neg C] at o;let:=of_decide_eq_false o;show .inr {c.symm,()}
 . rw[if_neg c] at o;let:=of_decide_eq_false o;show .inl ()
def V9 (xs)(m:Nat):Fz xs (some (m:Int)) none=xs.drop m:=by
 unfold Fz;rw[HT.sIx_none,HT.sIx_nat];by_cases h:m<=xs.length
 . rw[Nat.min_eq_left h,zR (by rw[List.length_drop];show zH _)]
 . rw[Nat.min_eq_right (),Nat.sub_self,List.take_zero,List.drop_of_length_le ()]
open DG
meta abbrev dZ (z:Str):List Str:=Txt.split z (Str.ofString " ")
def Wh:Str.ofString " "={#[32]}:=by decide
def Va (o:ws≠[])(hf:∀w∈ws,32∉w.cps.toList):dZ (Str.join Be ws)=ws:=by change Txt.split (Str.join (Str.ofString " ") ws) (Str.ofString " ")=ws;rw[Wh];show Z1 o hf
def R9 (h:∀z∈ws,z.length<=20)(o:ws.length<=4):(Str.join Be ws).length<=84:=zn (OJ (by decide) _) (zn (Gp h) ())
def Tn (h0:0<=k)(o:k<=99):(sN k).length<=20:=EF h0 ()
def Iz (h0:1<=n)(o:n<=24):(∀z∈[Str.ofString "web",sN n],z.length<=20)/\∀z∈[Str.ofString "web",sN n],32∉z.cps.toList:=by simp only[List.forall_mem_cons,List.not_mem_nil];show{{by decide,Tn () (),nofun},by decide,Oi (),nofun}
def JU {t:T3}(I:0<=t.1)(a1:t.1<=99)(C:0<=t.2.1)(U:t.2.1<=99)(o:0<=t.2.2)(J:t.2.2<=99):(∀z∈[Str.ofString "tie",sN t.1,sN t.2.1,sN t.2.2],z.length<=20)/\∀z∈[Str.ofString "tie",sN t.1,sN t.2.1,sN t.2.2],32∉z.cps.toList:=by simp only[List.forall_mem_cons,List.not_mem_nil];show{{by decide,Tn I a1,Tn C U,Tn o J,nofun},by decide,Oi I,Oi C,Oi o,nofun}
def K6 (U:C0 n ts):∀y∈C9 n ts,y.length<=84:=λy hy=>by
 let C:=U.gw.n1;let o:=U.gw.n24;rcases zS.mp hy with rfl | hy
 . show R9 (Iz C o).1 (by simp)
 . let{t,I,0}:=zp.mp hy;let a:=U.gw.rng t I;show R9 (JU () () () () () ()).1 (by simp)
def La:Sp:=λo H Q _=>∃i ws y,o=[.int i,.str (Str.join Be (y::ws)),.str y]/\(∀w∈y::ws,32∉w.cps.toList)/\(Str.join Be (y::ws)).length<=84/\∀l H',AG H H'->H' l=some (.lst ((y::ws).map V.str))->Q (.ref l) H'
inductive dM (vs:List V)(H:Hp)(Q:VK):Prop
 | mk:∀(i:Int)(l:Addr)(k:Nat)(ws:List Str)(j lo hi:Int),(vs=[.int i,.ref l,.int k,.int lo,.int hi])->(H l=some (.lst (ws.map V.str)))->(ws[k]?=some (sN j))->(0<=lo)->(lo<=j)->(j<=hi)->(hi<=99)->(∀H',AG H H'->Q (.int j) H')->dM vs H Q
def HQ:Sp:=λo H Q _=>dM o H Q
def Ko:Sp:=λo H Q _=>∃(i:Int)(l:Addr)(ws:List Str)(c:Nat),o=[.int i,.ref l,.int c]/\H l=some (.lst (ws.map V.str))/\ws.length<=c/\Q .non H
def NA:Sp:=λo H Q _=>∃n:Int,o=[.str (Je n)]/\1<=n/\n<=24/\∀H',AG H H'->Q (.int n) H'
inductive YD (vs:List V)(H:Hp)(Q:VK):Prop
 | mk:∀(n i:Int)(l:Addr)(ts:List T3)(t:T3),(vs=[.int n,.ref l,.int i,.str (E9 t)])->(HY H l ts)->(Nn ts)->(n<=24)->(lowA ts<=t.1)->(t.1<=n-1)->(lowB ts t.1<=t.2.1)->(t.2.1<=n-1)->(1<=t.2.2)->(t.2.2<=99)->(∀p H',AG H H'->H' p=some (.tup [.int t.1,.int t.2.1,.int t.2.2])->Q (.ref p) H')->YD vs H Q
def Mf:Sp:=λo H Q _=>YD o H Q
inductive ZE (vs:List V)(H:Hp)(Q:VK):Prop
 | mk:∀(l:Addr)(n:Int)(ts:List T3),(vs=[.ref l])->(H l=some (.lst ((C9 n ts).map V.str)))->(C0 n ts)->(∀wa H',AG H H'->Ak H' wa n ts->Q (.ref wa) H')->ZE vs H Q
def Ew:Sp:=λo H Q _=>ZE o H Q
def Rv:zo ["at","line","first","words"] Pm (defScope RD):=AQ
def Im (F:Fu K "words_of" RD f ml):AF P w K mg base AL 1 f ml Pm La:=by
 show F.okD Rv λ_ A _ _ H C Q E J h=>?_;let{i,ws,y,0,fr,I,k}:=h;show{_,zP (AX (i:=3) Rv.nd (Bp PySem.F.plainAttrs_str PySem.F.slot_str_split PySem.F.type_str_split Oe (pv 1) (zC Ab zL)))
  (zP (AV (zu CL (AJ Ar (pv 3) zg) (pv 2) (zx _)) Ay zw)
  (zV (zt (pv 3)))),?_}
 show{_,2,3,8,(),λl o=>?_};rw[show Txt.split (Str.join Be (y::ws)) (Str.ofString " ")=y::ws from Va (by simp) fr];show{1,l,3,.str y,2,AD.of zJ,Ao (by decide) rfl,9,AU (by simp) {1,k l _ (zK o) zJ}}
def Rq:zo ["at","words","k","least","most","number"] QU (defScope RC):=AQ
def PK (F:Fu K "number_at" RC f ml) (I:AE K mg "number_in" LH fN fdN IU) (GN:AH P w base 3 I J0) (J:mg "len"=none):
 AF P w K mg base AL 4 f ml QU HQ:=by
 show F.okD Rq λ_ A _ _ H vs Q E hr h=>?_;let{i,l,n,ws,j,lo,hi,0,o,C,l0,l1,U,l3,k}:=h;show{_,zP (AX (i:=5) Rq.nd (NM (zu Oa (pv 2) (AZ Bq J (zC (pv 1) zL)) (zx _)) (AI GN hr I (zC (AJ Ar (pv 1) (pv 2)) (zC (pv 3) (zC (pv 4) zL)))) WO))
  (zP (AV (zu DH (pv 5) Av (zx _)) Ay zw) (zV (zt (pv 5)))),?_}
 let hn:=(zF.mp C).1;show{4,l,1,.inl (AD.of o),_,9,BX (zX (by rw[zB];lia)) ?_};show{4,l,_,n,.str (sN j),2,AD.of o,CA (by rw[zO,C];rfl),4,j,lo,hi,0,l0,l1,U,(),λH1 s1=>{9,AU rfl {1,k H1 s1}}}
def WY:zo Ny Ny (defScope Qx):=AQ
def Il (F:Fu K "refuse_more" Qx f ml) (o:mg "len"=none):AF P w K mg base AL 1 f ml Ny Ko:=by show F.okD WY λ_ A _ _ H I Q E J h=>?_;let{i,l,ws,c,0,C,U,k}:=h;show{_,zV (AV (zu Gd (AZ Bq o (zC (pv 1) zL)) (pv 2) (zx _)) Ay zw),?_};show{1,l,1,.inl (AD.of C),1,_,9,AU (ze (by rw[zB];lia)) k}
def MK:zo ["line","words","n"] ["line"] (defScope Ub):=AQ
def P1 (F:Fu K "read_count" Ub f ml) (J:AE K mg "words_of" RD fW qM Pm) (FN:AE K mg "number_at" RC fN fdN QU) (GN:AH P w base 4 FN HQ)
 (U:AE K mg "refuse_more" Qx fR fdR Ny) (C:mg "MOST_PLACES"=some (.int 24 tk)) (mj:mg "len"=none):AF P w K mg base AL 5 f ml ["line"] NA:=by
 let pe:AH P w base 4 J La:=(Im J.F).mono;let GR:AH P w base 4 U Ko:=(Il U.F mj).mono;show F.okD MK λ_ A _ _ H vs Q E I h=>?_;let{n,0,n1,o,k}:=h;show{_,zP (AX (i:=1) MK.nd (AI pe I J (Aw (zC (pv 0) (zC Ab zL)))))
  (zP (AX (i:=2) MK.nd (AI GN I FN (Aw (zC (pv 1) (Aw (Aw (zC (Fm (v:=.int 24) rfl C {1}) zL)))))))
  (zP (Dh (AI GR I U (Aw (zC (pv 1) (Aw zL)))))
  (zV (zt (pv 2))))),?_}
 let{w1,w2}:=Iz n1 o;show⟨_,rfl,0,[sN n],Str.ofString "web",rfl,w2,R9 w1 (by simp),λl H1 s1 hl=>?_⟩;show⟨_,rfl,0,l,1,_,n,1,24,rfl,hl,rfl,by decide,n1,o,by decide,λH2 s2=>?_⟩;show⟨_,rfl,0,l,_,2,rfl,s2 _ _ hl,by simp,_,rfl,k H2 (s1.trans s2)⟩
def Ey:zo ["n","ahead","at","line","words","a","b","long"] Tu (defScope UO):=AQ
def Qc (F:Fu K "read_tie" UO f ml) (FW:AE K mg "words_of" RD fW qM Pm) (FN:AE K mg "number_at" RC fN fdN QU) (GN:AH P w base 4 FN HQ)
 (FR:AE K mg "refuse_more" Qx fR fdR Ny)
 (FA:AE K mg "least_a" UX fA fdA ["ahead"]) (FB:AE K mg "least_b" UE fB fdB ["ahead","a"])
 (mML:mg "MOST_LONG"=some (.int 99 tk)) (mj:mg "len"=none):AF P w K mg base AL 5 f ml Tu Mf:=by
 let pe:AH P w base 4 FW La:=(Im FW.F).mono;let GR:AH P w base 4 FR Ko:=(Il FR.F mj).mono;let GA:AH P w base 4 FA RB:=(PH FA.F).mono;let GB:AH P w base 4 FB P6:=(Rp FB.F).mono;show F.okD Ey λ_ A _ _ H vs Q E C h=>?_;let{n,i,l,I,t,0,L,nn,n24,a1,a2,b1,b2,c1,c2,k}:=h;show{_,zP (AX (i:=4) Ey.nd (AI pe C FW (zC (pv 2) (zC (pv 3) (zC Ab zL)))))
  (zP (AX (i:=5) Ey.nd (AI GN C FN (zC (pv 2) (zC (pv 4) (Aw (zC (AI GA C FA (zC (pv 1) zL)) (zC (Ae Gv (pv 0) zg) zL)))))))
  (zP (AX (i:=6) Ey.nd (AI GN C FN (zC (pv 2) (zC (pv 4) (Aw (zC (AI GB C FB (zC (pv 1) (zC (pv 5) zL))) (zC (Ae Gv (pv 0) zg) zL)))))))
  (zP (AX (i:=7) Ey.nd (AI GN C FN (zC (pv 2) (zC (pv 4) (Aw (Aw (zC (Fm (v:=.int 99) rfl mML {1}) zL)))))))
  (zP (Dh (AI GR C FR (zC (pv 2) (zC (pv 4) (Aw zL)))))
  (zV (zt (BZ (zC (pv 5) (zC (pv 6) (zC (pv 7) zL)))))))))),?_}
 let nA:=nn.lowA;let nB:=nn.lowB (a:=t.1) ();let{w1,w2}:=JU (t:=t) () () () () () ();show{4,i,_,Str.ofString "tie",0,w2,R9 w1 (by simp),λJ H1 s1 U=>?_};show⟨_,rfl,_,rfl,_,rfl,l,I,rfl,L.keep s1,_,rfl,_,_,rfl,rfl,i,J,1,_,t.1,lowA I,n-1,rfl,U,rfl,nA,a1,a2,(),λH2 s2=>?_⟩;show⟨_,rfl,_,rfl,_,rfl,_,rfl,l,I,t.1,rfl,L.keep (s1.trans s2),_,rfl,_,_,rfl,rfl,i,J,2,_,t.2.1,lowB I t.1,n-1,rfl,s2 _ _ U,rfl,nB,b1,b2,(),λH3 s3=>?_⟩;let o:=s2.trans s3;show⟨_,rfl,_,rfl,i,J,3,_,t.2.2,1,99,rfl,o _ _ U,rfl,by decide,c1,c2,by decide,λH4 s4=>?_⟩;show⟨_,rfl,_,rfl,i,J,_,4,rfl,s4 _ _ (o _ _ U),by simp,?_⟩;show{1,4,HW,λp hp=>k p _ (s1.trans ((o.trans s4).trans (zK hp))) zJ}
def E5:zo ["lines","n","ties","at","line"] Ez (defScope Uj):=AQ
def Pw {fT:Addr}(F:Fu K "read_web" Uj f ml) (FC:AE K mg "read_count" Ub fC fdC ["line"]) (GC:AH P w base 5 FC NA)
 (FT:AE K mg "read_tie" UO fT p6 Tu) (GT:AH P w base 5 FT Mf)
 (mMT:mg "MOST_TIES"=some (.int 60 tk)) (mj:mg "len"=none) (m8:mg "enumerate"=none) (mh:mg "tuple"=none):AF P w K mg base AL 6 f ml Ez Ew:=by
 show F.okD E5 λ_ A _ _ H vs Q E hr h=>?_;let{l,n,I,0,hl,U,k}:=h;let n1:=U.gw.n1;let n24:=U.gw.n24;let h60:=U.le;show{_,zP (AV (zu A1 (AZ Bq mj (zC (pv 0) zL)) zg (zx _)) Ay zw)
  (zP (AX (i:=1) E5.nd (AI GC hr FC (zC (AJ Ar (pv 0) zg) zL)))
  (zP (AX (i:=2) E5.nd (Dc zL))
  (zP (Bb (Y8 (by rfl) m8 (zC (NY OF (pv 0) (Nm zg) Ng) zL)) (EU rfl (Ai (Az (i:=3) E5.nd) (Ai (Az (i:=4) E5.nd) Cj)))
   (zP (AV (zu A1 (AZ Bq mj (zC (pv 2) zL)) (Fm (v:=.int 60) rfl mMT {1}) (zx _)) Ay zw)
   (zV (Dh (Bp PySem.F.plainAttrs_list PySem.F.slot_list_append PySem.F.type_list_append Nh (pv 2) (zC (AI GT hr FT (zC (pv 1) (zC (pv 2) (zC (pv 3) (zC (pv 4) zL))))) zL))))))
  (zV (zt (BZ (zC (pv 1) (zC (BQ Cf mh (zC (pv 2) zL)) zL)))))))),?_}
 show{1,l,1,.inl (AD.of hl),6,AU (ze (λx=>by injection x with x;simp[C9] at x;lia)) ?_};show{1,l,3,.str (Je n),2,AD.of hl,Ao (by decide) rfl,n,0,n1,n24,λH1 s1=>?_};show{zd _,λC pk=>?_};let qB:H C=none:=Sh s1 pk;let s2:AG H (upd H1 C (.lst [])):=s1.trans (zK pk);show⟨_,rfl,1,rfl,l,_,rfl,AD.of (s2 _ _ hl),λl2 nH=>?_⟩;rw[show (some 1:Option Int)=some ((1:Nat):Int) from rfl,V9,show List.drop 1 ((C9 n I).map V.str)=(I.map E9).map V.str from rfl];let hl2a:l2≠C:=λx=>by rw[x,zJ] at nH;cases nH
 show{l2,0,{_,AD.of zJ},?_};show bu (K:=K) (c:=1) (a:=l2) (xs:=(I.map E9).map V.str) (λi σ H4=>Gb λ(v3 v4:Option V)=>σ=[some (.ref l),some (.int n),some (.ref C),v3,v4]/\AG H H4/\H4 l2=some (.lst ((I.map E9).map V.str))/\HY H4 C (I.take i))
  {7,s2.trans (zK nH),zJ,{[],by rw[zY (Ne.symm hl2a),zJ],trivial}}
  (λi σ H4 _ ⟨_,_,_,_,h2,_⟩=>AD.of h2) (λi x σ H4 T hx y hT=>?_) (λσ H4 y=>?_)
 . let{v3,v4,0,s4,h2,Lt}:=y;obtain⟨t,ht,rfl⟩:∃t,I[i]?=some t/\V.str (E9 t)=x:=by
    rw[zO,zO] at hx;cases e:I[i]? with
    | none=>rw[e] at hx;cases hx
    | some t=>rw[e] at hx;show{t,0,zW hx}
   let hi:i<I.length:=(zF.mp ht).1;let s5:=zK (o:=.tup [.int ((i+1:Nat):Int),.str (E9 t)]) hT;show{T,1,AB.of zJ,0,7,5,?_};generalize upd H4 T (.tup [.int ((i+1:Nat):Int),.str (E9 t)])=H5 at s5 ⊢;let L5:=Lt.keep s5;let{tys,ha,hb}:=id L5;let hlen:=hb.length;rw[zB,zl] at hlen;show{1,C,1,.inl (AD.of ha),6,AU (ze (λx=>by injection x with x;lia)) ?_};let{u1,u2,u3,u4,u5,u6}:=U.upT i t ht;show{1,.inl {0,_,AD.of ha},4,4,n,((i+1:Nat):Int),C,I.take i,t,0,L5,(λt' h'=>U.nn t' (List.mem_of_mem_take h')),n24,u1,u2,u3,u4,u5,u6,λp H6 J hp=>?_};let s06:=(s4.trans s5).trans J;let ha6:=J _ _ ha;let npl:p≠C:=Ac hp ha6 (by intro z;cases z);let hsl:100<=sizeLine:=by decide
   show{C,tys,.ref p,2,ha6,(),?_};show{7,λb o e=>?_,?_,{tys++[.ref p],zJ,?_}}
   . rw[zY (λx=>by rw[x,qB] at e;cases e)];show s06 b o e
   . rw[zY hl2a];show J _ _ (s5 _ _ h2)
   . rw[zj,ht,zQ];show (hb.keep λb ys e=>?_).snoc {p,0,?_,by intro z;cases z}
     . rw[zY (Ac e ha (by intro z;cases z))];show J _ _ e
     . rwa[zY npl]
 . let{v3,v4,0,s4,h2,Lt}:=y;rw[zB,zB,zR (zH _)] at Lt;let{tys,ha,hb}:=Lt;show{4,C,tys,0,.inl {AD.of ha,λta pB=>{CJ,λwa nI=>?_}}};let s5:=zK (o:=.tup tys) pB;let J:=zK (o:=.tup [.int n,.ref ta]) nI;show k wa _ (s4.trans (s5.trans J)) {ta,tys,zJ,J _ _ zJ,hb.keep λb ys e=>J _ _ (s5 _ _ e),U.gw}
meta abbrev lab:Str:=Str.ofString "label"
meta abbrev M6:Str:=Str.ofString "-"
meta abbrev col:Str:=Str.ofString ":"
meta def oT:Option Int->Str
 | none=>M6
 | some k=>sN k
meta def eW (e:En):Str:=Txt.join col ((EV e).map oT)
meta def lW (es:List En):Str:=Txt.join Be (lab::es.map eW)
meta def A5 (ess:List (List En)):List Str:=ess.map lW
def PD (o:Option Int):Prop:=∀k,o=some k->0<=k/\k<=2376
structure EB (n:Int)(e:En):Prop where
 ok:XR n e
 lo:e.l<=2376
 n24:n<=24
structure UD (n:Int)(es:List En):Prop where
 e:∀e∈es,EB n e
 l:es.length<=24
def EB.sm (h:EB n e):∀o∈EV e,PD o:=by
 let a:=h.ok.rng;let b:=h.ok.nn;let c:=h.lo;let d:=h.n24;let C:PD e.u/\PD e.d:=by
  by_cases z:e.l=0
  . let{x,y}:=h.ok.own z;rw[x,y];show⟨nofun,nofun⟩
  . let{u,v,x,y,_}:=h.ok.far z;rw[x,y];show{λk e=>by cases e;lia,λk e=>by cases e;lia}
 simp only[EV,List.forall_mem_cons,List.not_mem_nil];show{λk e=>by cases e;lia,λk e=>by cases e;lia,C.1,C.2,nofun}
def Jc (h:PD o):(oT o).length<=20/\∀c,c=32\/c=58\/c=59->c∉(oT o).cps.toList:=by
 cases o with
 | none=>show{by decide,by rintro c (rfl | rfl | rfl) <;> decide}
 | some k=>
  let{h0,I}:=h k rfl;show{EF h0 (),λc C hm=>?_};let{m,0}:=Gk h0;let:=(SS m).all c hm
  lia
def Uy (o:c∉sep.cps.toList):∀{ws:List Str},(∀w∈ws,c∉w.cps.toList)->c∉(Str.join sep ws).cps.toList
 | [],_=>by intro h;cases h
 | [p],f=>f p (by simp)
 | p::q::r,f=>by
  change c∉(p++sep++Str.join sep (q::r)).cps.toList;simp only[Str.cps_append,Array.toList_append,Bi];rintro ((z | z) | z)
  . show f p (by simp) z
  . show o z
  . show Uy o (λw hw=>f w (by simp[zS.mp hw])) z
def Vw (h:EB n e):(eW e).length<=84/\Txt.split (eW e) col=(EV e).map oT/\∀c,c=32\/c=59->c∉(eW e).cps.toList:=by
 let w:∀z∈(EV e).map oT,z.length<=20/\∀c,c=32\/c=58\/c=59->c∉z.cps.toList:=λz C=>by let{o,I,0}:=zp.mp C;show Jc (h.sm o I)
 rw[show eW e=Str.join col ((EV e).map oT) from StrLaws.glued_eq_join _ _];show{zn (OJ (by decide) _) (zn (Gp λz C=>(w z C).1) (show 21*4<=84 by decide)),?_,λc J=>Uy ?_ λz C=>(w z C).2 c ()}
 . rw[show col={#[58]} from by decide];show Z1 (by simp[EV]) λz C=>(w z C).2 58 (by simp)
 . rw[show col.cps.toList=[58] from by decide];intro hm;let:=zv.mp hm
   lia
def Tj (h:UD n es):(lW es).length<=2060/\Dd (lab::es.map eW)<=2060/\dZ (lW es)=lab::es.map eW/\59∉(lW es).cps.toList:=by
 let w:∀z∈lab::es.map eW,z.length<=84/\∀c,c=32\/c=59->c∉z.cps.toList:=λz hz=>by
  rcases zS.mp hz with rfl | hz
  . show{by decide,by rintro c (rfl | rfl) <;> decide}
  . let{e,he,0}:=zp.mp hz;show{(Vw (h.e e he)).1,(Vw (h.e e he)).2.2}
 let t:Dd (es.map eW)<=85*24:=zn (Gp λz hz=>(w z (zZ _ hz)).1) (Nat.mul_le_mul_left _ (by rw[zB];show h.l));let o:Dd (lab::es.map eW)<=2060:=by rw[Jf,show lab.length=5 from by decide];lia
 rw[show lW es=Str.join Be (lab::es.map eW) from StrLaws.glued_eq_join _ _];show{zn (OJ (by decide) _) o,o,Va (by simp) λz hz=>(w z hz).2 32 (by simp),Uy (by decide) λz hz=>(w z hz).2 59 (by simp)}
def Cn.esb (K:Cn n ess)(h:n<=24):∀es∈ess,UD n es:=λes he=>{λe hm=>{(K.kd es he).ent e hm,K.lo es he e hm,h},by let:=(K.kd es he).len;lia}
def EL (H:Hp)(l:Addr)(es:List En):Prop:=∃as:List Addr,H l=some (.lst (as.map V.ref))/\DS H as es
def EL.same (h:EL H l es)(k:AG H H'):EL H' l es:=by let{as,a,b}:=h;show{as,k _ _ a,b.keep λb _ e=>k b _ e}
def VP {as:List Addr}{i:Nat}(h:(as.map V.ref)[i]?=some v):∃a,as[i]?=some a/\V.ref a=v:=by
 rw[zO] at h;cases e:as[i]? with
 | none=>rw[e] at h;cases h
 | some a=>rw[e] at h;show{a,0,zW h}
meta def Hq (es:List En):Int:=match es.getLast? with
 | none=>0
 | some e=>e.h+1
meta def own (es:List En):Bool:=es.any λe=>decide (e.l=0)
def EL.last (h:EL H l es):∃xs,H l=some (.lst xs)/\((xs=[]/\es.getLast?=none)\/∃e p,xs≠[]/\es.getLast?=some e/\CK xs (-1)=some (.ref p)/\H p=some (.tup (eV e))):=by
 let{as,a,C,b}:=h;show{_,a,?_};rcases List.eq_nil_or_concat as with rfl | ⟨o,x,rfl⟩
 . show .inl {0,by rw[Hh.mp (show es.length=0 from C.symm)];rfl}
 . rw[List.concat_eq_append] at *;let{e,J,I}:=b o.length x (by simp);let:es.length=o.length+1:=by rw[<-C,zT];rfl
   show .inr {e,x,by simp,by rwa[List.getLast?_eq_getElem?,this],by rw[zQ];show aU _ _,I}
def aY {α:Type}{p:α->Bool}:∀{l:List α},l.countP p<=1->l.Pairwise λa b=>¬ (p a=true/\p b=true)
 | [],_=>.nil
 | x::l,h=>by
  rw[List.countP_cons] at h;show .cons (λy o z=>?_) (aY (by split at h <;> lia));rw[if_pos z.1] at h;let:0<l.countP p:=List.countP_pos_iff.mpr ⟨y,o,z.2⟩
  lia
def d8 (h:DR n es)(he:es[j]?=some e):0<=Hq (es.take j)/\Hq (es.take j)<=e.h:=by
 let g:=(h.ent e (zN he)).rng;cases j with
 | zero=>show{ER _,g.1}
 | succ i=>
  let o:=(zF.mp he).1;let hi:i<es.length:=()
  let C:(es.take (i+1)).getLast?=some es[i]:=by rw[zj,zD hi];show List.getLast?_concat
  unfold Hq;rw[C];let lt:es[i].h<es[i+1].h:=zq.mp h.hub i (i+1) hi o ();rw[zD o] at he;rw[zW he] at lt;let g2:=(h.ent es[i] (El hi)).rng;show{by change 0<=es[i].h+1;lia,by change es[i].h+1<=e.h;lia}
def DR.one1 (h:DR n es):es.countP (λe=>e.l==0)=1:=by let:=h.one;rwa[List.countP_map] at this
def jw (h:DR n es)(he:es[j]?=some e)(h0:e.l=0):own (es.take j)=false:=by
 cases c:own (es.take j) with
 | false=>rfl
 | true=>unfold own at c;let{x,hx,U}:=EE.mp c;let U:=of_decide_eq_true U;let{i,hi}:=List.mem_iff_getElem?.mp hx;let I:=(zF.mp hi).1;rw[zl] at I;let C:=(zF.mp he).1;rw[List.getElem?_take_of_lt ()] at hi;let o:=(zF.mp hi).2;let J:=(zF.mp he).2;let:=zq.mp (aY (Nat.le_of_eq h.one1)) i j () C ();rw[o,J] at this;show absurd {by rwa[beq_iff_eq],by rwa[beq_iff_eq]} this
def jH (h:DR n es):own es=true:=by let{x,o,C}:=List.countP_pos_iff.mp (show 0<es.countP λe:En=>e.l==0 by rw[h.one1];decide);show EE.mpr {x,o,zX (by rwa[beq_iff_eq] at C)}
def Rm {α:Type}{p:Addr->α->Prop}{es:List α}{e:α}(C:as.length=es.length)(J:∀(i:Nat)b,as[i]?=some b->∃x,es[i]?=some x/\p b x)(I:p a e):(as++[a]).length=(es++[e]).length/\∀(i:Nat)b,(as++[a])[i]?=some b->∃x,(es++[e])[i]?=some x/\p b x:=by
 show{by rw[zT,zT,C];rfl,λi b o=>?_};by_cases c:i<as.length
 . rw[zi c] at o;let{x,e1,U}:=J i b o;show{x,by rwa[zi ()],U}
 . let hi:=(zF.mp o).1;rw[zT] at hi;let:i=as.length:=by let:[a].length=1:=rfl;lia
   subst this;rw[List.getElem?_concat_length] at o;cases o;show{e,by rw[C,List.getElem?_concat_length],I}
def Pu:Sp:=λC H Q _=>∃o:Option Int,C=[oV o]/\PD o/\Q (.str (oT o)) H
def Q8:Sp:=λo H Q _=>∃p n e,o=[.ref p]/\H p=some (.tup (eV e))/\EB n e/\∀H',AG H H'->Q (.str (eW e)) H'
inductive Za (vs:List V)(H:Hp)(Q:VK):Prop
 | mk:∀(p:Addr)(n:Int)(es:List En),(vs=[.ref p])->(A6 H p es)->(UD n es)->(∀H',AG H H'->Q (.str (lW es)) H')->Za vs H Q
def MQ:Sp:=λo H Q _=>Za o H Q
inductive aT (vs:List V)(H:Hp)(Q:VK):Prop
 | mk:∀(a:Addr)(n:Int)(ess:List (List En)),(vs=[.ref a])->(BJ H a ess)->(Cn n ess)->(n<=24)->(∀l H',AG H H'->H' l=some (.lst ((A5 ess).map V.str))->Q (.ref l) H')->aT vs H Q
def Gy:Sp:=λo H Q _=>aT o H Q
def M8:Sp:=λo H Q _=>∃l es,o=[.ref l]/\EL H l es/\es.length<=24/\∀H',AG H H'->Q (.bl (own es)) H'
inductive bJ (vs:List V)(H:Hp)(Q:VK):Prop
 | mk:∀(l lp:Addr)(es:List En)(h:Int)(p0 p1:Str),(vs=[.ref l,.int h,.ref lp])->(EL H l es)->(es.length<=24)->(own es=false)->(H lp=some (.lst [.str p0,.str p1,.str M6,.str M6]))->(∀p H',AG H H'->H' p=some (.tup [.int h,.int 0,.non,.non])->Q (.ref p) H')->bJ vs H Q
def Rr:Sp:=λo H Q _=>bJ o H Q
inductive c6 (vs:List V)(H:Hp)(Q:VK):Prop
 | mk:∀(lp:Addr)(n h l u d:Int)(p0 p1:Str),(vs=[.int n,.int h,.int l,.ref lp])->(n<=24)->(H lp=some (.lst [.str p0,.str p1,.str (sN u),.str (sN d)]))->((0<=u/\u<=n-1))->((0<=d/\d<=n-1))->(∀p H',AG H H'->H' p=some (.tup [.int h,.int l,.int u,.int d])->Q (.ref p) H')->c6 vs H Q
def RI:Sp:=λo H Q _=>c6 o H Q
inductive ZQ (vs:List V)(H:Hp)(Q:VK):Prop
 | mk:∀(l:Addr)(n:Int)(es:List En)(e:En),(vs=[.int n,.ref l,.str (eW e)])->(EL H l es)->(es.length<=24)->(EB n e)->((0<=Hq es/\Hq es<=e.h))->((e.l=0->own es=false))->(∀p H',AG H H'->H' p=some (.tup (eV e))->Q (.ref p) H')->ZQ vs H Q
def Lw:Sp:=λo H Q _=>ZQ o H Q
inductive dN (vs:List V)(H:Hp)(Q:VK):Prop
 | mk:∀(n:Int)(i:Nat)(es:List En),(vs=[.int n,.int i,.str (lW es)])->(i<24)->(DR n es)->(UD n es)->(∀p H',AG H H'->A6 H' p es->Q (.ref p) H')->dN vs H Q
def K9:Sp:=λo H Q _=>dN o H Q
inductive bV (vs:List V)(H:Hp)(Q:VK):Prop
 | mk:∀(l:Addr)(n:Int)(ess:List (List En)),(vs=[.ref l])->(H l=some (.lst ((A5 ess).map V.str)))->(1<=n)->(n<=24)->(Cn n ess)->(∀a H',AG H H'->BJ H' a ess->Q (.ref a) H')->bV vs H Q
def G8:Sp:=λo H Q _=>bV o H Q
def Rx (h:PE X e te)(m:∀ σ H Q,te' σ H Q->te σ H Q):PE X e te':=λpins s σ H Q I q=>h pins s σ H Q I (m σ H Q q)
def Wu:zo HN HN (defScope N7):=AQ
def Wo:zo D0 D0 (defScope RX):=AQ
def Wq:zo DM DM (defScope RF):=AQ
def Xe:zo DL DL (defScope UB):=AQ
def XH:zo LW LW (defScope OB):=AQ
def Wr:zo Rn Rn (defScope Tw):=AQ
def KW:zo ["n","hub","long","parts","up","down"] UW (defScope UL):=AQ
def HJ:zo ["n","ahead","word","parts","hub","long"] Ue (defScope UN):=AQ
def D1:zo ["n","at","line","words","label","k","word","entry"] UJ (defScope Tv):=AQ
def Xh:zo Ez Ez (defScope UZ):=AQ
def Qb (F:Fu K "number_word" N7 f ml) (C:mg "str"=none):AF P w K mg base AL 1 f ml HN Pu:=by
 show F.okD Wu λ_ A _ _ H I Q E J h=>?_;let{o,0,sm,k}:=h;show{_,zV (zt (NM (zu DH (pv 0) Av (zx _)) Ab (BQ Yv C (zC (pv 0) zL)))),?_};cases o with
 | none=>show{9,BX rfl k}
 | some i=>let{h0,U}:=sm i rfl;show{9,AU rfl {1,i,0,(),k}}
def QT (F:Fu K "entry_word" RX f ml) (FN:AE K mg "number_word" N7 fN fdN HN) (nO:mg "str"=none):AF P w K mg base AL 2 f ml D0 Q8:=by
 let GN:AH P w base 1 FN Pu:=Qb FN.F nO;show F.okD Wo λ_ A _ _ H vs Q E hr h=>?_;let{p,n,e,0,J,eb,k}:=h;let sm:=eb.sm;let J:H p=some (.tup ((EV e).map oV)):=J;let h4:(EV e).length=4:=rfl;let tt:Dd ((EV e).map oT)<=84:=zn (Gp λz hz=>by let{o,ho,0}:=zp.mp hz;show (Jc (sm o ho)).1) (show 21*4<=84 by decide);let k:∀H',AG H H'->Q (.str (Txt.join col ((EV e).map oT))) H':=k;generalize EV e=os at *;show{_,zV (zt (Bp PySem.F.plainAttrs_str PySem.F.slot_str_join PySem.F.type_str_join Jm Ab (zC (A3 (own:=HN) (cn:=[]) (ci:=[]) rfl (Aq rfl rfl) trivial rfl (BP (pv 0)) (λ_ _ _ _=>An) (λ_ _ _ _=>A8)
  (λ_ _ _ _=>AI GN hr FN (zC (pv 0) zL))) zL))),?_}
 show{6,p,0,{_,AB.of J},[],0,λD hD=>?_};let sD:∀o,AG H (upd H D o):=λo=>zK hD;show Bm (a:=p) (xs:=os.map oV) (λi C I=>i<=4/\C=((os.take i).map oT).map V.str/\I=upd H D (.lst C)) {zd _,2} (λi C I y=>?_) (λi C I y=>?_) (λi x C I U y=>?_) (λC I y=>?_)
 . rw[y.2.2];show AB.of (sD _ _ _ J)
 . rw[y.2.1,zB,zB,zl];show BV ()
 . let{_,2}:=y;let hi:=(zF.mp U).1;rw[zB] at hi;rw[zO,zD hi] at U;cases U;show{{2},A9 {1,os[i],0,sm _ (El hi),zJ,(),?_,Bj}};rw[zj,zD hi,zQ,zQ];rfl
 . let{_,2}:=y;rw[zB,zR (zH _)];show{_,D,os.map oT,2,AD.of zJ,by decide,by rw[Jo];lia,k _ (sD _)}
def Ik (F:Fu K "label_line" RF f ml) (FE:AE K mg "entry_word" RX fE fdE D0) (FN:AE K mg "number_word" N7 fN fdN HN) (nO:mg "str"=none):AF P w K mg base AL 3 f ml DM MQ:=by
 let GE:AH P w base 2 FE Q8:=QT FE.F FN nO;show F.okD Wq λ_ A _ _ H vs Q E hr h=>?_;let{p,n,es,0,{as,hp,ea,_},eb,k}:=h;let hsl:200000<=sizeLine:=by decide
 let e24:=eb.l;show{_,zV (zt (Bp PySem.F.plainAttrs_str PySem.F.slot_str_join PySem.F.type_str_join Jm Ab (zC (Ae Zl (Dc (zC Ab zL)) (A3 (own:=D0) (cn:=[]) (ci:=[]) rfl (Aq rfl rfl) trivial rfl (BP (pv 0)) (λ_ _ _ _=>An) (λ_ _ _ _=>A8)
  (λ_ _ _ _=>AI GE hr FE (zC (pv 0) zL)))) zL))),?_}
 show{0,by change 1<=sizeLine;lia,λU nY=>?_};let s1:=zK (o:=.lst [.str lab]) nY;let h1:(upd H U (.lst [.str lab])) U=some (.lst [.str lab]):=zJ;let oj:=s1 _ _ hp;let C:=ea.keep λb _ e=>s1 b _ e;generalize upd H U (.lst [.str lab])=H1 at s1 h1 oj C ⊢;show{1,p,0,{_,AB.of oj},[],0,λD hD=>?_};show Bm (a:=p) (xs:=as.map V.ref) (λi xs I=>i<=as.length/\xs=((es.take i).map eW).map V.str/\AG H1 I/\I D=some (.lst xs)) {zd _,0,zK hD,zJ} (λi xs I y=>AB.of (y.2.2.1 _ _ oj)) (λi xs I y=>?_) (λi x xs I hx y=>?_) (λxs I y=>?_)
 . rw[y.2.1,zB,zB,zl]
   lia
 . let{1,s4,J}:=y;let{q,hq,0}:=VP hx;let{e,he,qm}:=C.2 i q hq;show{{2},A9 {1,q,n,e,0,s4 _ _ qm,eb.e e (zN he),λH5 s5=>?_}};show{s5 _ _ J,(zF.mp hq).1,?_,Bs (s4.trans s5) hD,zJ};rw[zj,he,zQ,zQ];rfl
 . let{1,s4,J}:=y;rw[zB,C.1,zR (zH _)] at J;show{U,D,5,s4 _ _ h1,J,by rw[zB,zB];change 1+es.length<=_;lia,λq hq=>?_};let lt:=(Tj eb).2.1;show{_,q,lab::es.map eW,2,AD.of zJ,by decide,by rw[Jo];lia,k _ (s1.trans (s4.trans (zK hq)))}
def PL (F:Fu K "label_lines" UB f ml) (U:AE K mg "label_line" RF fL fdL DM) (FE:AE K mg "entry_word" RX fE fdE D0) (FN:AE K mg "number_word" N7 fN fdN HN) (nO:mg "str"=none):AF P w K mg base AL 4 f ml DL Gy:=by
 let GL:AH P w base 3 U MQ:=Ik U.F FE FN nO;show F.okD Xe λ_ A _ _ H vs Q E hr h=>?_;let{a,n,J,0,{as,ha,hl,lt},K1,I,k}:=h;let hsl:200000<=sizeLine:=by decide
 let h1:=K1.ln;show{_,zV (zt (A3 (own:=DM) (cn:=[]) (ci:=[]) rfl (Aq rfl rfl) trivial rfl (BP (pv 0)) (λ_ _ _ _=>An) (λ_ _ _ _=>A8)
  (λ_ _ _ _=>AI GL hr U (zC (pv 0) zL)))),?_}
 show{1,a,0,{_,AB.of ha},[],0,λD hD=>?_};show Bm (a:=a) (xs:=as.map V.ref) (λi xs o=>i<=as.length/\xs=((J.take i).map lW).map V.str/\AG H o/\o D=some (.lst xs)) {zd _,0,zK hD,zJ} (λi xs o y=>AB.of (y.2.2.1 _ _ ha)) (λi xs o y=>?_) (λi x xs o hx y=>?_) (λxs o y=>?_)
 . rw[y.2.1,zB,zB,zl]
   lia
 . let{1,s4,C}:=y;let{q,hq,0}:=VP hx;let{es,he,le}:=lt i q hq;show{{2},A9 {1,q,n,es,0,le.same s4,K1.esb I es (zN he),λH5 s5=>?_}};show{s5 _ _ C,(zF.mp hq).1,?_,Bs (s4.trans s5) hD,zJ};rw[zj,he,zQ,zQ];rfl
 . let{1,s4,C}:=y;rw[zB,hl,zR (zH _)] at C;show k D o s4 C
def Ia (F:Fu K "has_own_place" OB f ml) (oZ:mg "any"=none):AF P w K mg base AL 1 f ml LW M8:=by
 show F.okD XH λ_ A _ _ H vs Q E hr h=>?_;let{l,es,0,{as,hl,ea},hle,k}:=h;let hsl:200001<=sizeLine:=by decide
 show{_,zV (zt (AZ (lS rfl) oZ (zC (A3 (own:=D0) (cn:=[]) (ci:=[]) rfl (Aq rfl rfl) trivial rfl (C2 (pv 0)) (λ_ _ _ _=>An) (λ_ _ _ _=>A8)
  (λ_ _ _ _=>Bo A1 (AJ CG (pv 0) zg) zg (zx _))) zL))),?_}
 show{1,l,0,{_,AD.of hl},[],0,λD hD=>?_};let J:∀o,AG H (upd H D o):=λo=>zK hD;show Jp (a:=l) (xs:=as.map V.ref) (λi C I=>i<=as.length/\C=((es.take i).map λe=>decide (e.l=0)).map V.bl/\I=upd H D (.lst C)) {zd _,2} (λi C I y=>?_) (λi C I y=>?_) (λi x C I hx y=>?_) (λC I y=>?_)
 . rw[y.2.2];show AD.of (J _ _ _ hl)
 . rw[y.2.1,zB,zB,zl]
   lia
 . let{_,2}:=y;let{p,U,0}:=VP hx;let{e,he,qm}:=ea.2 i p U;show{{2},A9 {1,p,_,5,AB.of (J _ _ _ qm),CA (j:=1) rfl,0,zJ,(zF.mp U).1,?_,Bj}};rw[zj,he,zQ,zQ];let ez:decide (V.int e.l=V.int 0)=decide (e.l=0):=by rw[Bool.eq_iff_iff,KH,KH];show{λz=>by injection z,λz=>by rw[z]}
   rw[ez];rfl
 . let{_,2}:=y;rw[zB,ea.1,zR (zH _)];show{D,1,AD.of zJ,?_};let e:(es.map λe:En=>decide (e.l=0)).any id=own es:=by rw[List.any_map];rfl
   rw[e];show k _ (J _)
def Pj (F:Fu K "own_entry" Tw f ml) (C:AE K mg "has_own_place" OB fH fdH LW) (U:mg "any"=none):AF P w K mg base AL 2 f ml Rn Rr:=by
 let GH:AH P w base 1 C M8:=Ia C.F U;show F.okD Wr λ_ A _ _ H vs Q E hr h=>?_;let{l,J,es,h,p0,p1,0,L,hle,ho,o,k}:=h;show{_,zP (AV (PW.pt (Cc (BR (AI GH hr C (zC (pv 0) zL))) (Cc (zu CL (AJ Ar (pv 2) zg) Ab (zx _)) (C6 (zu CL (AJ Ar (pv 2) zg) Ab (zx _)))))) Ay zw)
  (zV (zt (BZ (zC (pv 1) (Aw (zC Av (zC Av zL))))))),?_}
 show{1,l,es,0,L,(),λH1 s1=>{1,?_}};let I:=s1 _ _ o;rw[ho];show AU rfl {1,J,_,5,AD.of I,CA (j:=2) rfl,6,AU (by simp) {1,J,_,5,AD.of I,CA (j:=3) rfl,6,AU (by simp) {1,N3,λp o=>k p _ (s1.trans (zK o)) zJ}}}
def Ql (F:Fu K "far_entry" UL f ml) (C:AE K mg "number_in" LH fN fdN IU) (GN:AH P w base 3 C J0):AF P w K mg base AL 4 f ml UW RI:=by
 show F.okD KW λ_ A _ _ H vs Q E U h=>?_;let{I,n,h,l,u,d,p0,p1,0,n24,o,J,hd,k}:=h;show{_,zP (AX (i:=4) KW.nd (AI GN U C (zC (AJ Ar (pv 3) zg) (Aw (zC (Ae Gv (pv 0) zg) zL)))))
  (zP (AX (i:=5) KW.nd (AI GN U C (zC (AJ Ar (pv 3) zg) (Aw (zC (Ae Gv (pv 0) zg) zL)))))
  (zP (AV (PW.pt (Cc (zu DH (pv 4) Av (zx _)) (C6 (zu DH (pv 5) Av (zx _))))) Ay zw)
  (zV (zt (BZ (zC (pv 1) (zC (pv 2) (zC (pv 4) (zC (pv 5) zL))))))))),?_}
 show⟨_,rfl,I,_,_,_,rfl,rfl,AD.of o,CA (j:=2) rfl,_,rfl,_,_,rfl,rfl,u,0,n-1,rfl,by decide,J.1,J.2,(),λH1 s1=>?_⟩;show⟨_,rfl,I,_,_,_,rfl,rfl,AD.of (s1 _ _ o),CA (j:=3) rfl,_,rfl,_,_,rfl,rfl,d,0,n-1,rfl,by decide,hd.1,hd.2,(),λH2 s2=>?_⟩;show{9,AU rfl {9,AU rfl {4,4,N3,λp o=>k p _ ((s1.trans s2).trans (zK o)) zJ}}}
def RG (F:Fu K "entry_in" UN f ml) (FN:AE K mg "number_in" LH fN fdN IU) (GN:AH P w base 3 FN J0)
 (FO:AE K mg "own_entry" Tw fO fdO Rn) (FF:AE K mg "far_entry" UL fF fdF UW)
 (FH:AE K mg "has_own_place" OB fH fdH LW) (oZ:mg "any"=none) (mj:mg "len"=none) (mMW:mg "MOST_WRITTEN_LONG"=some (.int 999999999999 tk)):AF P w K mg base AL 5 f ml Ue Lw:=by
 let GN4:AH P w base 4 FN J0:=GN.mono;let GO:AH P w base 4 FO Rr:=(Pj FO.F FH oZ).mono;let GF:AH P w base 4 FF RI:=Ql FF.F FN GN;show F.okD HJ λ_ A _ _ H vs Q E hr h=>?_;let{l,n,es,e,0,L,hle,eb,lo,ho,k}:=h;let g:=eb.ok;let n24:=eb.n24;show{_,zP (AX (i:=3) HJ.nd (Bp PySem.F.plainAttrs_str PySem.F.slot_str_split PySem.F.type_str_split Oe (pv 2) (zC Ab zL)))
  (zP (AV (zu CL (AZ Bq mj (zC (pv 3) zL)) zg (zx _)) Ay zw)
  (zP (AX (i:=4) HJ.nd (AI GN4 hr FN (zC (AJ Ar (pv 3) zg) (zC (Rx (te':=λσ H Q=>∃(l:Addr)(es:List En),σ[1]?=some (some (.ref l))/\EL H l es/\Q (.int (Hq es)) H) (NM (TU (pv 1) (λ_=>rfl)) (Ae C4 (AJ AS (AJ Ar (pv 1) (TZ Se zg)) zg) zg) zg) ?lo) (zC (Ae Gv (pv 0) zg) zL)))))
  (zP (AX (i:=5) HJ.nd (AI GN4 hr FN (zC (AJ Ar (pv 3) zg) (Aw (zC (Fm (v:=.int 999999999999) rfl mMW {1}) zL)))))
  (zP (AV (PW.pt (Cc (zu DH (pv 4) Av (zx _)) (C6 (zu DH (pv 5) Av (zx _))))) Ay zw)
  (zP (AV (zu A1 (pv 5) zg (zx _)) (zV (zt (AI GO hr FO (zC (pv 1) (zC (pv 4) (zC (pv 3) zL)))))) zw)
  (zV (zt (AI GF hr FF (zC (pv 0) (zC (pv 4) (zC (pv 5) (zC (pv 3) zL)))))))))))),?_}
 case lo=>
  intro σ H1 Q1 ⟨l,es,J,L1,q⟩;let{xs,hl,c}:=L1.last;unfold Hq at q;rcases c with ⟨e,hn⟩ | ⟨x,p,e,hn,ha,hp⟩
  . rw[hn] at q;show{_,J,false,.inl {xs,AD.of hl,by rw[e];rfl},AU rfl q}
  . rw[hn] at q;show{_,J,true,.inl {xs,AD.of hl,by cases xs with | nil=>show absurd rfl e | cons a as=>rfl},BX rfl ?_};show⟨_,J,1,rfl,l,_,_,_,rfl,rfl,AD.of hl,ha,p,_,_,_,rfl,rfl,AB.of hp,CA (j:=0) rfl,_,_,rfl,rfl,q⟩
 let{el,ec,_}:=Vw eb;show{_,2,3,8,(),λI hlp=>?_};rw[show Txt.split (eW e) (Str.ofString ":")=[sN e.h,sN e.l,oT e.u,oT e.d] from ec];let s1:=zK (o:=.lst ([sN e.h,sN e.l,oT e.u,oT e.d].map V.str)) hlp;let oj:(upd H I (.lst ([sN e.h,sN e.l,oT e.u,oT e.d].map V.str))) I=some (.lst [.str (sN e.h),.str (sN e.l),.str (oT e.u),.str (oT e.d)]):=zJ;generalize upd H I (.lst ([sN e.h,sN e.l,oT e.u,oT e.d].map V.str))=H1 at s1 oj ⊢;show{1,I,1,.inl (AD.of oj),6,AU (by simp) ?_};let g1:=g.rng;let gl:=g.nn;let gm:=eb.lo;show{1,I,_,5,AD.of oj,CA (j:=0) rfl,l,es,0,L.same s1,1,5,e.h,Hq es,n-1,0,lo.1,lo.2,(),(),λH2 s2=>?_};show⟨_,rfl,I,_,_,_,rfl,rfl,AD.of (s2 _ _ oj),CA (j:=1) rfl,e.l,0,999999999999,rfl,by decide,gl,(),by decide,λH3 s3=>?_⟩;let U:=s2.trans s3;let p9:=s1.trans U;show{9,AU rfl {9,AU rfl {9,?_}}};let C:=U _ _ oj;by_cases z:e.l=0
 . show BX (zX (congrArg V.int z)) ?_;let{q2,q3}:=g.own z;let kk:eV e=[.int e.h,.int 0,.non,.non]:=by unfold eV;rw[z,q2,q3];rfl
   rw[kk] at k;rw[q2,q3] at C;show{1,4,l,I,es,e.h,7,L.same p9,hle,ho z,C,λp H4 s4 hp=>k p H4 (p9.trans s4) hp}
 . show AU (ze (λz'=>z (V.int.inj z'))) ?_;let{u,d,q2,q3,u0,u1,d0,d1}:=g.far z;let kk:eV e=[.int e.h,.int e.l,.int u,.int d]:=by unfold eV;rw[q2,q3];rfl
   rw[kk] at k;rw[q2,q3] at C;show{4,4,I,n,e.h,e.l,u,d,7,n24,C,{u0,()},{d0,()},λp H4 s4 hp=>k p H4 (p9.trans s4) hp}
def QL (F:Fu K "read_label" Tv f ml) (FE:AE K mg "entry_in" UN fE fdE Ue) (GE':AH P w base 5 FE Lw)
 (FH:AE K mg "has_own_place" OB fH fdH LW) (oZ:mg "any"=none) (mMP:mg "MOST_PLACES"=some (.int 24 tk)) (m8:mg "enumerate"=none) (mh:mg "tuple"=none):AF P w K mg base AL 6 f ml UJ K9:=by
 let GH:AH P w base 5 FH M8:=(Ia FH.F oZ).mono;show F.okD D1 λ_ A _ _ H vs Q E hr h=>?_;let{n,i,es,0,i24,g,eb,k}:=h;let e24:=eb.l;let hsl:200000<=sizeLine:=by decide
 let{ll,_,wl,_}:=Tj eb;show{_,zP (AX (i:=3) D1.nd (Bp PySem.F.plainAttrs_str PySem.F.slot_str_split PySem.F.type_str_split Oe (pv 2) (zC Ab zL)))
  (zP (AV (PW.pt (Cc (zu IX (pv 1) (Fm (v:=.int 24) rfl mMP {1}) (zx _)) (C6 (zu CL (AJ Ar (pv 3) zg) Ab (zx _))))) Ay zw)
  (zP (AX (i:=4) D1.nd (Dc zL))
  (zP (Bb (Y8 (by rfl) m8 (zC (NY OF (pv 3) (Nm zg) Ng) zL)) (EU rfl (Ai (Az (i:=5) D1.nd) (Ai (Az (i:=6) D1.nd) Cj)))
   (zP (AX (i:=7) D1.nd (AI GE' hr FE (zC (pv 0) (zC (pv 4) (zC (pv 6) zL)))))
   (zP (AV (zu DH (pv 7) Av (zx _)) Ay zw)
   (zV (Dh (Bp PySem.F.plainAttrs_list PySem.F.slot_list_append PySem.F.type_list_append Nh (pv 4) (zC (pv 7) zL)))))))
  (zP (AV (Bw (BR (AI GH hr FH (zC (pv 4) zL)))) Ay zw)
  (zV (zt (BQ Cf mh (zC (pv 4) zL)))))))),?_}
 show{_,2,3,8,(),λlw hlw=>?_};rw[show Txt.split (lW es) (Str.ofString " ")=lab::es.map eW from wl];let s1:=zK (o:=.lst ((lab::es.map eW).map V.str)) hlw;let I:(upd H lw (.lst ((lab::es.map eW).map V.str))) lw=some (.lst ((lab::es.map eW).map V.str)):=zJ;generalize upd H lw (.lst ((lab::es.map eW).map V.str))=H1 at s1 I ⊢;show{1,_,9,AU (ze ()) {1,lw,_,5,AD.of I,CA (j:=0) rfl,6,AU (by simp) ?_}};show{zd _,λC pk=>?_};let qB:H C=none:=Sh s1 pk;let s2:AG H (upd H1 C (.lst [])):=s1.trans (zK pk);let hw2:=zK (o:=.lst []) pk _ _ I;show⟨_,rfl,1,rfl,lw,_,rfl,AD.of hw2,λl2 nH=>?_⟩;rw[show (some 1:Option Int)=some ((1:Nat):Int) from rfl,V9,show List.drop 1 ((lab::es.map eW).map V.str)=(es.map eW).map V.str from rfl];let hl2a:l2≠C:=λx=>by rw[x,zJ] at nH;cases nH
 show{l2,0,{_,AD.of zJ},?_};show bu (K:=K) (c:=1) (a:=l2) (xs:=(es.map eW).map V.str) (λj σ J=>Nu λ(v5 v6 v7:Option V)=>σ=[some (.int n),some (.int i),some (.str (lW es)),some (.ref lw),some (.ref C),v5,v6,v7]/\AG H J/\J l2=some (.lst ((es.map eW).map V.str))/\EL J C (es.take j))
  {_,7,s2.trans (zK nH),zJ,{[],zK nH _ _ zJ,0,λi a h=>by simp at h}}
  (λj σ J _ ⟨_,_,_,_,_,h2,_⟩=>AD.of h2) (λj x σ J T hx y hT=>?_) (λσ J y=>?_)
 . let{v5,v6,v7,0,s4,h2,Le}:=y;obtain⟨e,he,rfl⟩:∃e,es[j]?=some e/\V.str (eW e)=x:=by
    rw[zO,zO] at hx;cases q:es[j]? with
    | none=>rw[q] at hx;cases hx
    | some e=>rw[q] at hx;show{e,0,zW hx}
   let s5:=zK (o:=.tup [.int ((j+1:Nat):Int),.str (eW e)]) hT;show{T,1,AB.of zJ,0,7,5,?_};generalize upd J T (.tup [.int ((j+1:Nat):Int),.str (eW e)])=H5 at s5 ⊢;let p8:=s4.trans s5;let L5:=Le.same s5;show{1,4,C,n,es.take j,e,0,L5,by rw[zl];lia,eb.e e (zN he),d8 g he,jw g he,λp H6 U hp=>?_};show{9,AU rfl ?_};let{xs,ha,hb}:=L5.same U;let npl:p≠C:=Ac hp ha (by intro z;cases z);show{1,.inl {0,_,AD.of ha},1,C,_,.ref p,2,ha,by let:=hb.1;rw[zl] at this;rw[zB];lia,?_};show{_,7,λb o q=>?_,?_,{xs++[p],by rw[zJ,zQ];rfl,?_}}
   . rw[zY (λx=>by rw[x,qB] at q;cases q)];show (p8.trans U) b o q
   . rw[zY hl2a];show U _ _ (s5 _ _ h2)
   . rw[zj,he];show (hb.keep λb ys q=>?_).snoc ?_
     . rwa[zY (Ac q ha (by intro z;cases z))]
     . rwa[zY npl]
 . let{v5,v6,v7,0,s4,h2,Le}:=y;rw[zB,zB,zR (zH _)] at Le;show{1,C,es,0,Le,(),λH5 s5=>{1,?_}};rw[jH g];show AU rfl ?_;let{xs,ha,hb}:=Le.same s5;show{1,C,1,.inl {AD.of ha,λta pB=>?_}};let U:=zK (o:=.tup (xs.map V.ref)) pB;show k ta _ ((s4.trans s5).trans U) {xs,zJ,hb.keep λb _ e=>U b _ e,()}
def PX (F:Fu K "read_labels" UZ f ml) (FL:AE K mg "read_label" Tv fL fdL UJ) (GL':AH P w base 6 FL K9) (mj:mg "len"=none) (m8:mg "enumerate"=none) (mh:mg "tuple"=none):AF P w K mg base AL 7 f ml Ez G8:=by
 show F.okD Xh λ_ A _ _ H vs Q E hr h=>?_;let{l,n,C,0,hl,n1,n24,K1,k}:=h;let hn:=K1.ln;let pX:((A5 C).map V.str).length=C.length:=by unfold A5;rw[zB,zB]
 let hnn:(((A5 C).map V.str).length:Int)=n:=by rw[pX];lia
 show{_,zP (AV (zu A1 (AZ Bq mj (zC (pv 0) zL)) zg (zx _)) Ay zw)
  (zV (zt (BQ Cf mh (zC (A3 (own:=["at","line"]) (cn:=Ez) (ci:=[0]) rfl (Aq rfl rfl) {8,trivial} rfl (jq rfl m8 (zC (pv 0) zL))
   (λ_ _ _ _=>NU (n:=2) rfl (Ai (An) (Ai (Cb (i:=1) (DN rfl) rfl (Or.inl rfl)) Cj))) (λ_ _ _ _=>A8)
   (λ_ _ _ _=>AI GL' hr FL (zC (AZ iQ mj (zC (pv 2) zL)) (zC (pv 0) (zC (pv 1) zL))))) zL)))),?_}
 show{1,l,1,.inl (AD.of hl),6,AU (ze (λx=>by injection x with x;lia)) ?_};show{1,l,0,{_,AD.of hl},[.ref l],0,λD hD=>?_};let hsl:200000<=sizeLine:=by decide
 show kS (a:=l) (xs:=(A5 C).map V.str) (λi J I=>i<=C.length/\AG H I/\I D=some (.lst J)/\∃as:List Addr,J=as.map V.ref/\as.length=(C.take i).length/\∀(j:Nat)(a:Addr),as[j]?=some a->∃es,(C.take i)[j]?=some es/\A6 I a es)
  {zd _,zK hD,zJ,[],2,λj a h=>by simp at h} (λi J I ⟨_,s4,_⟩=>AD.of (s4 _ _ hl)) (λi J I ⟨hi,_,_,as,e,hl,_⟩=>by rw[e,zB,hl,zl];lia) (λi x J I T U y hT=>?_) (λJ I y=>?_)
 . let{_,s4,m9,as,0,al,lt}:=y;obtain⟨es,he,rfl⟩:∃es,C[i]?=some es/\V.str (lW es)=x:=by
    unfold A5 at U;rw[zO,zO] at U;cases q:C[i]? with
    | none=>rw[q] at U;cases U
    | some e=>rw[q] at U;show{e,0,zW U}
   let hi:i<C.length:=(zF.mp he).1;let hm:=zN he;let s5:=zK (o:=.tup [.int (i:Int),.str (lW es)]) hT;show{T,1,AB.of zJ,0,7,5,{2},A9 ?_};show{1,l,1,.inl (AD.of (s5 _ _ (s4 _ _ hl))),4,_,i,es,0,(),by rw[hnn];show K1.kd es hm,by rw[hnn];show K1.esb n24 es hm,λp H6 s6 hp=>?_};let pb:=s6 _ _ (s5 _ _ m9);let s56:=s5.trans s6;show{pb,hi,λb o q=>?_,zJ,as++[p],by rw[zQ];rfl,?_}
   . rw[zY (zr q hD)];show s56 _ _ (s4 _ _ q)
   . let kp:∀b pI,H6 b=some (.tup pI)->(upd H6 D (.lst (as.map V.ref++[.ref p]))) b=some (.tup pI):=λb pI q=>by rwa[zY (Ac q pb (by intro z;cases z))]
     rw[zj,he];show Rm al (λj a ha=>by let{o5,e1,e2}:=lt j a ha;show{o5,e1,(e2.same s56).keep kp}) (hp.keep kp)
 . let{_,s4,m9,as,0,al,lt}:=y;rw[pX,zR (zH _)] at al lt;show{D,1,.inl {AD.of m9,λta pB=>?_}};let s5:=zK (o:=.tup (as.map V.ref)) pB;show k ta _ (s4.trans s5) {as,zJ,al,λj a ha=>by let{o5,e1,e2}:=lt j a ha;show{o5,e1,e2.same s5}}
end K93
namespace K93
open PySem L2 WM
variable {P:Program}{w:World}{K:AK}{mg:A2}{base:Heap}{PT:Addr}{X:Cx}
inductive bG (PT:Addr)(vs:List V)(H:Hp)(Q:VK):Prop
 | mk:∀(wa:Addr)(n:Int)(ts:List T3)(x y:Int),(vs=[.ref wa,.int x,.int y])->(Ak H wa n ts)->(0<=x)->(x<n)->(0<=y)->(y<n)->(Tb H PT)->(∀(l:Addr)(xs:List Int)(H':Hp),Aa H H'->Tb H' PT->H' l=some (.tup (xs.map V.int))->xs.Pairwise (· < ·)->(∀p,p∈xs↔BM ts x y p)->Q (.ref l) H')->bG PT vs H Q
def WR (PT:Addr):Sp:=λo H Q _=>bG PT o H Q
def Q6:zo E7 E7 (defScope HI):=AQ
def M5 (F:Fu K "between" HI f ml) (FF:AE K mg "lengths_from" Ow fF fdF Qy) (GF:AH P w base 3 FF (Tr PT))
 (FR:AE K mg "between_rows" D8 fR fdR NC) (mi:mg "range"=none) (mh:mg "tuple"=none) (mj:mg "len"=none):AF P w K mg base AL 4 f ml E7 (WR PT):=by
 let GR:AH P w base 3 FR SQ:=(WJ FR.F mi mh mj).mono;show F.okD Q6 λ_ A _ _ H vs Q E hr h=>?_;let{wa,n,U,x,y,0,W,qZ,qP,J,I,T,k}:=h;let{ta,tys,nI,3,G}:=id W;show{_,zV (zt (AI GR hr FR (zC (AI GF hr FF (zC (pv 0) (zC (pv 1) zL)))
  (zC (AI GF hr FF (zC (pv 0) (zC (pv 2) zL))) (zC (pv 2) zL))))),?_}
 show{4,wa,n,U,x,0,W,qZ,qP,T,λlh oy H1 C T1 nY L1=>?_};show{4,wa,n,U,y,0,W.smT C,J,I,T1,λlt qY H2 o T2 nH L2=>?_};let hh2:H2 lh=some (.tup (oy.map oV)):=o.get nY (by intro ps z;cases z);let sm:=C.trans o;show{1,lh,lt,n,U,x,y,oy,qY,0,G,qZ,qP,J,I,hh2,nH,L1,L2,λl xs H3 s3 hl3 hp hm=>?_};show k l xs H3 (sm.trans (Aa.of s3)) (T2.same s3) hl3 hp hm
def QG {ps} (h:DE H t p N)(e:H t=some (.tbl ps)):False:=by let{ns,o,rest,a,_}:=h;rw[a] at e;cases e
def Lk {ps} (h:DE H t p N)(e:H p=some (.tbl ps)):False:=by let{ns,o,rest,_,a,_}:=h;rw[a] at e;cases e
def Af.smT (h:Af H t N)(s:Aa H H'):Af H' t N:=by let{p,ns,o,rest,a,b,c}:=h;show{p,ns,o,rest,s.get a (by intro ps z;cases z),s.get b (by intro ps z;cases z),c}
def Ot (T:By H PT pos q)(F:Af H t N)(s:Sm t H H'):By H' PT pos q:=by
 let{p,ns,U,rest,I,_}:=F;show T.keep (λo e=>?_) λc J e=>?_
 . show s _ _ (λz=>?_) e;let{ps,C,_}:=T;rw[z,I] at C;cases C
 . show s _ _ (λz=>by rw[z,I] at e;cases e) e
def Ah.ofS (s:Sm t H H'):Ah t H H':=λb o n e=>.inr (s b o n e)
def Fr (H:Hp)(M:Addr):Prop:=∀u,H M=some u->∃ps,u=.tbl ps
def Ah.new (s:Ah t H H')(f:Fr H M):Ah t H (upd H' M o):=λb u n e=>by
 by_cases c:b=M
 . subst c;show .inl (f u e)
 . rw[zY c];show s b u n e
def Ah.fr (s:Ah t H H')(ne:M≠t)(h:H' M=none):Fr H M:=λu e=>by
 rcases s M u ne e with z | z
 . show z
 . rw[h] at z;cases z
def fM (T:By H PT pos q)(h:H M=some (.lst xs)):By (upd H M o) PT pos q:=by
 show T.keep (λu e=>?_) λc I e=>?_
 . let{ps,C,_}:=T;rwa[zY (Ac C h (by intro z;cases z))]
 . rwa[zY (Ac e h (by intro z;cases z))]
def DE.smT (h:DE H t p N)(s:Aa H H'):DE H' t p N:=h.keepF (λo e=>s.get e (by intro ps z;subst z;show (QG h e).elim)) (λo e=>s.get e (by intro ps z;subst z;show (Lk h e).elim)) (zH _)
def VX (h:∀x,p x=true->q x=true):∀l:List Int,(l.filter p).Sublist (l.filter q)
 | []=>.slnil
 | x::l=>by
  let o:=VX h l;cases C:p x with
  | true=>rw[Nj C,Nj (h x C)];show o.cons₂ _
  | false=>
   rw[OM (by rw[C];decide)];cases I:q x with
   | true=>rw[Nj I];show o.cons _
   | false=>rw[OM (by rw[I];decide)];show o
def SJ {l:List Int}{i:Nat}(h:(l.map V.int)[i]?=some v):∃x,l[i]?=some x/\V.int x=v:=by
 rw[zO] at h;cases e:l[i]? with
 | none=>rw[e] at h;cases h
 | some x=>rw[e] at h;show{x,0,zW h}
meta def BN (n:Nat)(o:List Int):Nat:=((lowTo n).filter λx=>decide (x∈o)).length
def TH (n)(so):BN n so<=n:=by let:=CZ (λx=>decide (x∈so)) (lowTo n);rwa[Na] at this
def gc (h:∀x∈so,x∈pJ):BN n so<=BN n pJ:=by show List.Sublist.length_le (VX (λx o=>?_) _);rw[decide_eq_true_iff] at o ⊢;show h x o
def MS {n:Nat}{o:List Int}(h:∀x∈so,x∈o)(r:∀x∈o,0<=x/\x<n)(e:BN n o<=BN n so):∀x∈o,x∈so:=λx C=>by
 let sub:((lowTo n).filter λx=>decide (x∈so)).Sublist ((lowTo n).filter λx=>decide (x∈o)):=VX (λx C=>by rw[decide_eq_true_iff] at C ⊢;show h x C) _
 let eq:=sub.eq_of_length_le e;let:x∈(lowTo n).filter λx=>decide (x∈o):=Ba.mpr {OL.mpr (by let:=r x C;lia),zX C};rw[<-eq] at this;show of_decide_eq_true (Ba.mp this).2
meta def mu (n:Nat)(fo o:List Int):Nat:=if fo=o then 0 else 1+2*(n-BN n o)+(if o.Pairwise (· < ·) then 0 else 1)
def Ld {n:Nat}{o:List Int}(ne:fo≠so)(h:∀x∈so,x∈o)(r:∀x∈o,0<=x/\x<n)(C:o.Pairwise (· < ·)):mu n so o<mu n fo so:=by
 unfold mu;rw[if_neg ne,if_pos C];by_cases c:so=o
 . rw[if_pos c];lia
 . rw[if_neg c];let J:=gc (n:=n) h;let I:=TH n o;by_cases e:BN n o<=BN n so
   . rw[if_neg λp=>c (bX p C λz=>{h z,MS h r e z})]
     lia
   . lia
inductive ZM (PT:Addr)(vs:List V)(H:Hp)(Q:VK):Prop
 | mk:∀(t wa:Addr)(N:Nat)(n:Int)(ts:List T3),(vs=[.ref t,.ref wa])->(Af H t N)->(N<800000)->(Ak H wa n ts)->(n<=9)->(Tb H PT)->(∀(l:Addr)(ps:List Int)(H':Hp),H' l=some (.tup (ps.map V.int))->Cm ts n ps->Af H' t (N+4)->Ah t H H'->Tb H' PT->Q (.ref l) H')->ZM PT vs H Q
def L9 (PT:Addr):Sp:=λo H Q _=>ZM PT o H Q
structure df (H H2:Hp)(PT t wa S F:Addr)(n:Int)(ts:List T3)(N:Nat)(so fo:List Int):Prop where
 sm:Ah t H H2
 tb:Tb H2 PT
 tp:Af H2 t N
 wb:Ak H2 wa n ts
 hS:H2 S=some (.lst (so.map V.int))
 hF:H2 F=some (.lst (fo.map V.int))
 ne:so≠[]
 rg:∀x∈so,0<=x/\x<n
 ln:so.length<=9
 cv:fo=so->Cm ts n so
structure Xi (H H5:Hp)(PT t p wa S F M:Addr)(n:Int)(ts:List T3)(N:Nat)(so:List Int)(i j:Nat):Prop where
 sm:Ah t H H5
 tb:Tb H5 PT
 tp:DE H5 t p N
 wb:Ak H5 wa n ts
 hS:H5 S=some (.lst (so.map V.int))
 hF:H5 F=some (.lst (so.map V.int))
 fr:Fr H M
 nt:M≠t
 np:M≠p
 nS:S≠M
 nF:F≠M
 mo:∃mo:List Int,H5 M=some (.lst (mo.map V.int))/\(∀z∈mo,0<=z/\z<n)/\(∀x∈so,x∈mo)/\mo.length<=9+9*(9*i+j)/\∀(a b:Nat)(x y q:Int),(a<i\/(a=i/\b<j))->so[a]?=some x->so[b]?=some y->BM ts x y q->q∈mo
def Hl:zo ["_law_tape_here","_law_web_here","_law_some","_law_former","_law_more","_law_one","_law_other"] Nz (defScope Sf):=AQ
def RV (F:Fu K "_law_part" Sf f ml) (FD:AE K mg "_law_draw" Jl fD fdD JC) (GD:AF P w K mg base AL m fD fdD JC Vz)
 (FB:AE K mg "between" HI fB fdB E7) (GB:AF P w K mg base AL m fB fdB E7 (WR PT)) (mi:mg "range"=none) (oE:mg "list"=none) (mh:mg "tuple"=none) (mq:mg "sorted"=none) (qD:mg "set"=none):AF P w K mg base AL (m+1) f ml Nz (L9 PT):=by
 show F.okD Hl λ_ A _ _ H vs Q E hr h=>?_;let{t,wa,N,n,ts,0,T,hN,W,n9,TB,k}:=h;let hu0:=hr.units0;let{ta,tys,nI,3,G}:=id W;let n1:=G.n1;show{_,zP (Hz (i:=2) (own:=["_law_k"]) (cn:=Nz) (ci:=[0,1]) Hl.nd rfl (Or.inl rfl) rfl (Aq rfl rfl) {8,8,trivial} rfl
  (Dp rfl mi (zC (Ae C4 zg (AI GD hr FD (zC (pv 0) (Aw zL)))) zL)) (λ_ _ _ _=>An) (λ_ _ _ _=>A8)
  (λ_ _ _ _=>AI GD hr FD (zC (pv 1) (zC (AJ CG (pv 2) zg) zL))))
  (zP (AX (i:=3) Hl.nd (Dc zL))
  (zP (cP PassesOwn.never (zu (Mg hu0) (pv 3) (pv 2) (zx _))
   (zP (AX (i:=3) Hl.nd (BQ aC oE (zC (pv 2) zL)))
   (zP (AX (i:=4) Hl.nd (BQ aC oE (zC (pv 2) zL)))
   (zP (Bb (C2 (pv 2)) (Az (i:=5) Hl.nd)
    (zV (Bb (C2 (pv 2)) (Az (i:=6) Hl.nd)
     (zV (Dh (Bp PySem.F.plainAttrs_list PySem.F.slot_list_extend PySem.F.type_list_extend ki (pv 4) (zC (AI GB hr FB (zC (pv 1) (zC (pv 5) (zC (pv 6) zL)))) zL)))))))
   (zV (AX (i:=2) Hl.nd (l6 rfl rfl mq rfl qD (zC (pv 4) zL))))))))
  (zV (zt (BQ Cf mh (zC (pv 2) zL)))))),?_}
 let{p0,TP0}:=id T;show⟨_,rfl,t,p0,N,3,rfl,TP0,(),by decide,by decide,λr H1 r0 r1 TP1 e1=>?_⟩;let T1:Af H1 t (N+1):=⟨p0,TP1⟩;let s1:Sm t H H1:=λb o nb z=>by rw[e1 b nb];show z
 show⟨_,_,rfl,rfl,1+r,rfl,(),(),[.ref t,.ref wa],rfl,λD hD=>?_⟩;let nD:=T1.ne hD;let nDp:p0≠D:=λz=>by let{3,3,hp,_}:=TP1;rw[z,hD] at hp;cases hp
 show Jx (lo:=0) (n:=(1+r).toNat) (λq ys H4=>q<=(1+r).toNat/\∃C:List Int,ys=C.map V.int/\C.length=q/\(∀x∈C,0<=x/\x<n)/\Sm t H H4/\DE H4 t p0 (N+1+q)/\H4 D=some (.lst ys)) {zd _,[],2,(λx J=>by cases J),s1.trans (Sm.of (zK hD)),TP1.keepF (zK hD _) (zK hD _) (zH _),zJ} (λq ys H4 z=>?_) (λq ys H4 hq z=>?_) (λys H4 z=>?_)
 . let{hq,C,0,hl,_}:=z;rw[zB,hl];show BV ()
 . let{_,C,0,hl,rg,s4,T4,h4}:=z;let W4:=W.sm T s4;let{ta4,_,hwa4,_}:=id W4;show{{2},A9 {4,wa,_,5,AB.of hwa4,0,t,p0,_,n,0,T4,(),(),(),λr2 H5 a0 a1 T5 e5=>?_}};let h5:H5 D=some (.lst (C.map V.int)):=by rw[e5 D nD];show h4
   show{h5,hq,C++[r2],by rw[zQ];rfl,by rw[zT,hl];rfl,λx J=>?_,?_,?_,zJ}
   . rcases Bi.mp J with z | z
     . show rg x z
     . rw[zv.mp z];show⟨a0,a1⟩
   . show (s4.trans λb o nb z=>by rw[e5 b nb];show z).chg (by let:=s1;cases z:H D with
      | none=>rfl
      | some o=>rw[s1 D o nD z] at hD;cases hD)
   . show T5.keepF (λo e=>by rw[zY nD.symm];show e) (λo e=>by rw[zY nDp];show e) ()
 . let{_,C,0,hl,rg,s4,T4',h4}:=z;let T4:Af H4 t _:=⟨p0,T4'⟩;let ne:C≠[]:=λz=>by rw[z] at hl;let:0=(1+r).toNat:=hl;lia
   show{zd _,λF0 hF0=>?_};let s5:=zK (o:=.lst []) hF0;show{λm σ H2=>∃(v4 v5 v6:Option V)(S F:Addr)(C fo:List Int),σ=[some (.ref t),some (.ref wa),some (.ref S),some (.ref F),v4,v5,v6]/\df H H2 PT t wa S F n ts (N+4) C fo/\m=mu n.toNat fo C,
    {3,3,D,F0,C,[],0,{Ah.ofS (s4.trans (Sm.of s5)),(Ot TB T (s4.trans (Sm.of s5))),(T4.keep s5).mono (),(W.sm T s4).keep s5,s5 _ _ h4,zJ,ne,rg,(),λz=>absurd z.symm ne},0},λm σ H2 z=>?_}
   let{v4,v5,v6,S,F1,C,fo,0,I,0}:=z;show{4,F1,S,fo,C,2,AD.of I.hF,AD.of I.hS,1,?_};by_cases c:fo=C
   . show AU (by rw[zX c];rfl) ?_;show{1,S,1,.inl {AD.of I.hS,λl hl=>?_}};show k l C _ zJ (I.cv c) (I.tp.laid hl) (I.sm.trans (Ah.of (zK hl))) (I.tb.same (zK hl))
   . show BX (by rw[ze c];rfl) ?_;show{λσ' H'=>∃m',m'<mu n.toNat fo C/\∃(v4 v5 v6:Option V)(S F:Addr)(C fo:List Int),σ'=[some (.ref t),some (.ref wa),some (.ref S),some (.ref F),v4,v5,v6]/\df H H' PT t wa S F n ts (N+4) C fo/\m'=mu n.toNat fo C,λσ' H' z=>z,?_};show{1,S,1,.inl (AD.of I.hS),λF2 hF2=>?_};let u1:=zK (o:=.lst (C.map V.int)) hF2;show{1,S,1,.inl (AD.of (u1 _ _ I.hS)),λM hM=>?_};let u2:=zK (o:=.lst (C.map V.int)) hM;let u12:=u1.trans u2;let{p,TP}:=id (I.tp.keep u1);let nMt:M≠t:=Af.ne ⟨p,TP⟩ hM;obtain⟨p',TP'⟩:∃p',DE _ t p' (N+4)/\M≠p':={p,TP.keepF (u2 _) (u2 _) (zH _),λz=>by let{3,3,hp,_}:=TP;rw[<-z,hM] at hp;cases hp};let smM:Ah t H _:=I.sm.trans (Ah.of u1);let L0:Xi H _ PT t p' wa S F2 M n ts (N+4) C 0 0:={smM.trans (Ah.of u2),I.tb.same u12,TP'.1,I.wb.keep u12,u12 _ _ I.hS,u2 _ _ zJ,smM.fr nMt hM,nMt,TP'.2,(λz=>by rw[<-z,u1 _ _ I.hS] at hM;cases hM),(λz=>by rw[<-z,zJ] at hM;cases hM),C,zJ,I.rg,λx J=>J,by let:=I.ln;lia,λa b x y q h=>()};generalize upd (upd H2 F2 (.lst (C.map V.int))) M (.lst (C.map V.int))=H3 at L0 ⊢;show{1,S,0,{_,AD.of L0.hS},Hi (a:=S) (xs:=C.map V.int) (λi σ H5=>Gb λ(v5 v6:Option V)=>σ=[some (.ref t),some (.ref wa),some (.ref S),some (.ref F2),some (.ref M),v5,v6]/\Xi H H5 PT t p' wa S F2 M n ts (N+4) C i 0) {7,L0} (λi σ H5 hi z=>?_) (λi x σ H5 J z=>?_) (λσ H5 z=>?_)}
     . let{_,3,L}:=z;show AD.of L.hS
     . let{v5,v6,0,L}:=z;let{x,oQ,0}:=SJ J;let J:=oQ;let xr:=I.rg x (zN J);let hi9:i<C.length:=(zF.mp J).1;let ln9:=I.ln;show{1,S,0,{_,AD.of L.hS},Hi (a:=S) (xs:=C.map V.int) (λj σ H6=>∃v6:Option V,σ=[some (.ref t),some (.ref wa),some (.ref S),some (.ref F2),some (.ref M),some (.int x),v6]/\Xi H H6 PT t p' wa S F2 M n ts (N+4) C i j) {1,L} (λj σ H6 hj z=>?_) (λj y σ H6 hy z=>?_) (λσ H6 z=>?_)}
       . let{3,L}:=z;show AD.of L.hS
       . let{v6,0,L}:=z;let{y,hy',0}:=SJ hy;let hy:=hy';let yr:=I.rg y (zN hy);let hj9:j<C.length:=(zF.mp hy).1;let{mo,U,m1,m2,m3,m4}:=L.mo;show{1,.inl {0,_,AD.of U},1,4,wa,n,ts,x,y,0,L.wb,xr.1,xr.2,yr.1,yr.2,L.tb,λl xs H7 s7 T7 h7 ri mm=>?_};let hM7:H7 M=some (.lst (mo.map V.int)):=s7.get U (by intro ps z;cases z);let xl:xs.length<=9:=by
          let nd:xs.Nodup:=ri.imp λh=>by lia
          let:=nd_len (n:=n.toNat) nd λz hz=>by
           let{3,b1,_}:=(mm z).mp hz;let:=b1.1.in_ G xr.1 xr.2
           lia
          lia
         show{M,l,5,hM7,h7,?_,?_}
         . rw[zB,zB];show F6 (DF ())
         let kp:∀b o,b≠M->H6 b=some o->(∀ps,o ≠ .tbl ps)->(upd H7 M (.lst (mo.map V.int++xs.map V.int))) b=some o:=λb o nb e ht=>by rw[zY nb];show s7.get e ht
         show{1,{(L.sm.trans (Ah.ofT s7)).new L.fr,fM T7 hM7,(L.tp.smT s7).keepF (λo e=>by rw[zY L.nt.symm];show e) (λo e=>by rw[zY L.np.symm];show e) (zH _),(L.wb.smT s7).keepT λb ys e=>by rw[zY (Ac e hM7 (by intro z;cases z))];show e,kp _ _ L.nS L.hS (by intro ps z;cases z),kp _ _ L.nF L.hF (by intro ps z;cases z),L.fr,L.nt,L.np,L.nS,L.nF,mo++xs,by rw[zQ];show zJ,λz hz=>?_,λz hz=>Bi.mpr (.inl (m2 z hz)),by rw[zT];lia,λa b x' y' q h ha hb B=>?_}}
         . rcases Bi.mp hz with hz | hz
           . show m1 z hz
           . let{3,b1,_}:=(mm z).mp hz;show b1.1.in_ G xr.1 xr.2
         . by_cases e:a=i/\b=j
           . let{2}:=e;rw[J] at ha;rw[hy] at hb;cases ha;cases hb;show Bi.mpr (.inr ((mm q).mpr B))
           . show Bi.mpr (.inl (m4 a b x' y' q () ha hb B))
       . let{v6,0,L}:=z;let{mo,U,m1,m2,m3,m4}:=L.mo;rw[zB] at m3 m4;show{7,{L.sm,L.tb,L.tp,L.wb,L.hS,L.hF,L.fr,L.nt,L.np,L.nS,L.nF,mo,U,m1,m2,(),λa b x y q h ha hb=>m4 a b x y q ?_ ha hb}};let:=(zF.mp hb).1
         lia
     . let{v5,v6,0,L}:=z;let{mo,U,m1,m2,m3,m4}:=L.mo;rw[zB] at m3 m4;let ln9:=I.ln;show{1,M,mo,0,AD.of U,(),λz hz=>by let:=m1 z hz;lia,λl ms hl hr hm=>?_};let u:=zK (o:=.lst (ms.map V.int)) hl;let r':∀z∈ms,0<=z/\z<n:=λz hz=>m1 z ((hm z).mp hz);show{_,Ld c (λx J=>(hm x).mpr (m2 x J)) (λz hz=>by let:=r' z hz;lia) hr,_,3,l,F2,ms,C,0,{L.sm.trans (Ah.of u),L.tb.same u,Af.keep ⟨p',L.tp⟩ u,L.wb.keep u,zJ,u _ _ L.hF,?_,r',?_,λe=>?_},0}
       . intro e;let{x,J}:=List.exists_mem_of_ne_nil _ I.ne;let:=(hm x).mpr (m2 x J);rw[e] at this;cases this
       . let nd:ms.Nodup:=hr.imp λh=>by lia
         let:=nd_len (n:=n.toNat) nd λz hz=>by let:=r' z hz;lia
         lia
       . subst e;show{⟨hr,r',I.ne⟩,λx J y hy q B=>?_};let{a,ha,ea}:=DA J;let{b,hb,eb}:=DA hy;show (hm q).mpr (m4 a b x y q () (by rw[zD ha,ea]) (by rw[zD hb,eb]) B)
def BJ.at {x:Int}(h:BJ H ll ess)(J:ess.length=n.toNat)(h0:0<=x)(U:x<n):∃(as:List Addr)(a:Addr)(es:List En),H ll=some (.tup (as.map V.ref))/\(as.map V.ref)[x.toNat]?=some (.ref a)/\ess[x.toNat]?=some es/\A6 H a es:=by
 let{as,I,e2,C}:=h;let o:x.toNat<as.length:=()
 let{es,g1,g2}:=C x.toNat as[x.toNat] (zD o);show{as,as[x.toNat],es,I,by rw[zO,zD o];rfl,g1,g2}
def BJ.two (h:BJ H ll ess)(g:OV ts n ess)(x0:0<=x)(x1:x<n)(y0:0<=y)(y1:y<n):∃(as:List Addr)(a b:Addr)(es fs:List En),H ll=some (.tup (as.map V.ref))/\(as.map V.ref)[x.toNat]?=some (.ref a)/\(as.map V.ref)[y.toNat]?=some (.ref b)/\A6 H a es/\A6 H b fs/\LG ts n x es/\LG ts n y fs/\KR ts x y es fs:=by
 let{as,ax,ex,I,gx,ix,lx}:=h.at g.ln x0 x1;let{U,ay,ey,o,gy,iy,ly}:=h.at g.ln y0 y1;let J:U.map V.ref=as.map V.ref:=by rw[I] at o;injection o with h;injection h with h;show h.symm
 rw[J] at gy;let Lx:=g.lg _ _ ix;let Ly:=g.lg _ _ iy;let C:=g.cov _ _ _ _ ix iy;rw[Jk x0] at Lx C;rw[Jk y0] at Ly C;show⟨as,ax,ay,ex,ey,I,gx,gy,lx,ly,Lx,Ly,C⟩
def Fg (s:Aa H H'):∀b ys,H b=some (.tup ys)->H' b=some (.tup ys):=λb ys e=>s.get e (by intro ps z;cases z)
def c5:BD X (compareOp .IsNot) (λx y H Q=>∃c d,x=.bl c/\y=.bl d/\Q (.bl (c != d)) H):=by intro pins s σ H x y v u Q I C o h;let{c,d,2,q}:=h;cases C;cases o;show PyProof.Rows.isnot_bool (A0 I q rfl)
def WX (ts:List T3)(ess:List (List En))(u v:Nat):Prop:=∀(w t:Int) lv lw,A7 ts v w t->CB (Cd (ess.getD v []) (ess.getD u [])) lv->CB (Cd (ess.getD w.toNat []) (ess.getD u [])) lw->∀c,lv=some c->∃o,lw=some o/\o.1<=c.1+t
structure VR (ts:List T3)(n:Int)(ess:List (List En)):Prop where
 own:∀(i:Nat) e r,i<ess.length->(ess.getD i []).filter (λe=>decide (e.l=0))=e::r->e.h=i
 up:∀i e,Nv ess i e->MF ts ess i e
 tie:∀u v:Nat,u<ess.length->v<ess.length->WX ts ess u v
 dn:∀i e,Nv ess i e->N4 ts ess i e
def OV.let (G:GW n ts)(L:OV ts n ess)(U:∀i e p,Nv ess i e->e.u=some p->BF ts i e.h p->∃f∈ess.getD p.toNat [],f.h=e.h):VR ts n ess:=by
 let pX:=L.ln;let lg:∀i,i<ess.length->LG ts n i (ess.getD i []):=λi hi=>L.lg i _ (getD_some hi);let td:∀ {i j lm},i<ess.length->j<ess.length->CB (Cd (ess.getD i []) (ess.getD j [])) lm->BY ts i j (lm.map (·.1)):=λ{i j lm} hi hj h=>(VB G (lg i hi) (lg j hj) (L.cov i j _ _ (getD_some hi) (getD_some hj)) h).1;show{λi e r hi hf=>?_,λi e F=>?_,λu v hu hv w t lv lw o J h2 c hc=>?_,λi e F=>?_}
 . let{e',r',J,h2}:=(lg i hi).zero G;rw[hf] at J;cases J;show h2
 . let E:=(lg i F.hi).ent e F.mem;let ne:e.h≠i:=λz=>F.far ((Fx G E.len).mpr z.symm);let{p,I,x}:=E.up ne;let{f,hf,fh}:=U i e p F I x;let{l,b,o,C,pS}:=x;let r:=G.adj o;let Ef:=((lg p.toNat ()).ent f hf).len;rw[fh,show ((p.toNat:Nat):Int)=p by lia] at Ef;show{p,l,f,I,o,hf,fh,?_};rw[Ef.uniq C,E.len.uniq pS]
   lia
 . subst hc;let r:=G.adj o;let a:=td hv hu J;let b:=td (i:=w.toNat) () hu h2;rw[show ((w.toNat:Nat):Int)=w by lia] at b;let wy:=(Ad.one o).symm.trans (show WM.IsD ts v u c.1 from a).1;cases lw with
   | none=>show absurd wy (b _)
   | some c'=>show{c',0,by let:=(show WM.IsD ts w u c'.1 from b).2 _ wy;lia}
 . let E:=(lg i F.hi).ent e F.mem;let ne:e.h≠i:=λz=>F.far ((Fx G E.len).mpr z.symm);let{p,I,l,b,o,C,pS}:=E.dn ne;let r:=G.adj o;let{lm,hm}:=iG (es:=ess.getD p.toNat []) (lg i F.hi).hub;let b':=td (i:=p.toNat) () F.hi hm;rw[show ((p.toNat:Nat):Int)=p by lia] at b';cases lm with
   | none=>show absurd C.1 (b' b)
   | some c=>
    show{p,l,c,I,o,hm,?_};let e1:c.1=b:=WM.IsD.uniq (show WM.IsD ts p i c.1 from b') C;rw[e1,E.len.symm.uniq pS]
    lia
def CQ.let {os:List Int}(G:GW n ts)(R:Bh n os rk)(L:CQ ts n rk ess):VR ts n ess:=by
 show OV.let G (L.good G R) λi e p F _ x=>?_;let hl:=L.1;let E:=(L.2 i _ (getD_some F.hi)).ent e F.mem;let{l,b,I,o,C}:=x;let r:=G.adj I;let hp:p.toNat<ess.length:=()
 let J:=L.2 p.toNat _ (getD_some hp);rw[show ((p.toNat:Nat):Int)=p by lia] at J;show J.all e.h E.rng.1 E.rng.2 {⟨b,o.symm⟩,λq U=>E.hub.2 q ?_};show BM.trans (p:=p) {b,l,o.symm,?_,?_} U
 . show{(Ad.one I).symm,λd hd=>?_};let:=C.2 _ (hd.symm.trans o.1)
   lia
 . rw[Int.add_comm];show C.symm
def Zb (L:VR ts n ess):Cg ts ess none:=by
 show .none (λi hi e r z=>L.own i e r (Ej.mp hi) z) (λx o=>?_) (λu v w J I hw ⟨t,lv,lw,ad,C,m2,g⟩=>?_) (λx o=>?_)
 . let{i,e}:=x;show L.up i e {(J6 o).1,(J6 o).2,Og o}
 . cases lv with
   | none=>cases g
   | some c=>
    let{U,0,le}:=L.tie u v J I w t _ _ ad C (by rwa[Bz]) c rfl;let:decide (c.1+t<U.1)=true:=g;let:=of_decide_eq_true this
    lia
 . let{i,e}:=x;show L.dn i e {(J6 o).1,(J6 o).2,Og o}
meta def oD:Option Int->PyData
 | none=>.none
 | some i=>.int i
meta def dg (e:En):PyData:=.tuple [.int e.h,.int e.l,oD e.u,oD e.d]
meta def dy (es:List En):PyData:=.tuple (es.map dg)
meta def PN (ess:List (List En)):PyData:=.tuple (ess.map dy)
def JL (H)(o):BI H (oV o) (oD o):=by
 cases o with
 | none=>show .non
 | some d=>show .int d
def c4 :∀{as:List Addr}{es:List En},DS H as es->DI H (as.map V.ref) (es.map dg)
 | [],[],_=>.nil
 | [],_::_,h=>by let:=h.1;simp at this
 | _::_,[],h=>by let:=h.1;simp at this
 | a::as,e::es,h=>by
  let{e',U,J}:=h.2 0 a rfl;let:e=e':=by simpa using U
  subst this;show .cons (.tup J (.cons (.int _) (.cons (.int _) (.cons (JL H _) (.cons (JL H _) .nil))))) (c4 {by let:=h.1;simpa using this,λi b o=>?_});let{e2,I,C}:=h.2 (i+1) b (by simpa using o);show{e2,by simpa using I,C}
def ZR :∀{as:List Addr}{ess:List (List En)},as.length=ess.length->(∀(i:Nat)a,as[i]?=some a->∃es,ess[i]?=some es/\A6 H a es)->DI H (as.map V.ref) (ess.map dy)
 | [],[],_,_=>.nil
 | [],_::_,h,_=>by simp at h
 | _::_,[],h,_=>by simp at h
 | a::as,es::ess,h,k=>by
  let{o,h1,as',h2,U,_}:=k 0 a rfl;let:es=o:=by simpa using h1
  subst this;show .cons (.tup h2 (c4 U)) (ZR (by simpa using h) λi b C=>?_);let{e2,J,I}:=k (i+1) b (by simpa using C);show{e2,by simpa using J,I}
def Sa (h:BJ H l ess):BI H (.ref l) (PN ess):=by let{as,I,C,o}:=h;show .tup I (ZR C o)
meta def HD (t:T3):PyData:=.tuple ((tl t).map PyData.int)
meta def IM (n:Int)(ts:List T3):PyData:=.tuple [.int n,.tuple (ts.map HD)]
def ao :∀l:List Int,DI H (l.map V.int) (l.map PyData.int)
 | []=>.nil
 | _::r=>.cons (.int _) (ao r)
def ZT :∀{xs:List V}{ts:List T3},Am H xs (ts.map tl)->DI H xs (ts.map HD)
 | [],[],_=>.nil
 | [],_::_,h=>h.elim
 | _::_,[],h=>h.elim
 | x::xs,t::ts,h=>by let{{a,0,C,_},o}:=h;show .cons (.tup C (ao _)) (ZT o)
def cZ (W:Ak H wa n ts):BI H (.ref wa) (IM n ts):=by let{ta,tys,I,C,o,_}:=W;show .tup I (.cons (.int _) (.cons (.tup C (ZT o)) .nil))
def JY (h:∀u,o=some u->u.natAbs<10 ^ 40):Fn 140 0 (oD o):=by
 cases o with
 | none=>show ko.mono (by decide) (by decide)
 | some u=>show OX (h u rfl)
def Si (K:Cn n ess)(h9:n<=9):Fn 300000 50 (PN ess):=by
 let U:=K.ln;show (Ni (n:=5085) (p:=2) (L:=9) (λd hd=>?_) (by rw[zB];lia)).mono (by decide) (by decide);let{es,he,0}:=zp.mp hd;let kd:=K.kd es he;let:=kd.len;show (Ni (n:=564) (p:=1) (L:=9) (λd hd=>?_) (by rw[zB];lia)).mono (by decide) (by decide);let{e,hm,0}:=zp.mp hd;let o:=kd.ent e hm;let hh:=o.rng;let h0:=o.nn;let h1:=K.lo es he e hm;let C:(∀u,e.u=some u->u.natAbs<10 ^ 40)/\∀u,e.d=some u->u.natAbs<10 ^ 40:=by
  by_cases c:e.l=0
  . let{a,b}:=o.own c;rw[a,b];show{λu z=>by (cases z),λu z=>by (cases z)}
  . let{u,d,a,b,J,I,d0,d1}:=o.far c;rw[a,b];show{λv z=>by cases z;lia,λv z=>by cases z;lia}
 show Ni (n:=140) (p:=0) (L:=4) (ds:=[.int e.h,.int e.l,oD e.u,oD e.d]) (λd hd=>?_) (zH 4);simp only[zS,List.not_mem_nil,or_false] at hd;rcases hd with rfl | rfl | rfl | rfl
 . show OX ()
 . show OX ()
 . show JY C.1
 . show JY C.2
def TY (G:GW n ts)(L:CQ ts n rk ess)(o:∀es∈ess,∀e∈es,0<=e.l/\e.l<=2376):Cn n ess:=by show{L.1,λes he=>?_,λes he e h=>(o es he e h).2};let{i,hi,e}:=DA he;let:=L.1;show (L.2 i es (by rw[zD hi,e])).kind G () ()
inductive Zk (vs:List V)(H:Hp)(Q:VK):Prop
 | mk:∀(wa la:Addr)(n:Int)(ts:List T3)(ess:List (List En)),(vs=[.ref wa,.ref la])->(GQ H wa la n ts ess)->(Cg ts ess none)->(∀H',AG H H'->Q (.bl true) H')->Zk vs H Q
def Vr:Sp:=λo H Q _=>Zk o H Q
structure mR (H:Hp)(la:Addr)(n:Int)(ts:List T3)(os:List Int)(ess:List (List En)):Prop where
 lab:BJ H la ess
 lof:∃rk,Bh n os rk/\CQ ts n rk ess
 bd:∀es∈ess,∀e∈es,0<=e.l/\e.l<=2376
inductive cD (PT:Addr)(vs:List V)(H:Hp)(Q:VK):Prop
 | mk:∀(t wa oa la:Addr)(N:Nat)(n:Int)(ts:List T3)(os:List Int)(ess:List (List En)),(vs=[.ref t,.ref wa,.ref oa,.ref la])->(Af H t N)->(N<800000)->(Ak H wa n ts)->(n<=9)->(H oa=some (.tup (os.map V.int)))->(CC n os)->(mR H la n ts os ess)->(Tb H PT)->(∀H',Af H' t (N+4)->Ah t H H'->Tb H' PT->Q (.bl true) H')->cD PT vs H Q
def Pn (PT:Addr):Sp:=λo H Q _=>cD PT o H Q
def AF.calm {fd:FuncData}(F:AF P w K mg base (Bu P w) k f fd ps sp)(h:∀vs H Q E,sp' vs H Q E->sp vs H Q λ_ _ _=>False):AF P w K mg base AL k f fd ps sp':=
 {λvs H Q E o=>F.len vs H Q _ (h vs H Q E o),λA outer s H args us vs Q E J he U I o=>PySem.codeAny_mono (F.run A outer s H args us vs Q (λ_ _ _=>False) J he U I (h vs H Q E o)) λr s' C=>by
  cases r with
  | error e=>let{_,3,3,3,3,3,3,3,z}:=C;show z.elim
  | ok fl=>cases fl <;> show C}
def Ln (G:AF P w K mg base (Bu P w) m f ml BE (OW C TL)):AF P w K mg base AL m f ml BE Vr:=
 AF.calm G λvs H Q E ⟨U,J,n,I,o,e,K0,fo,k⟩=>{U,.ref J,Cg I o,e,{J,n,I,o,0,K0,0},λ_=>k,λx e' u dx H' f1=>by cases fo.uniq f1}
def J8:zo ["_law_tape_here","_law_web_here","_law_order_here","_law_labels","_law_places","_law_small","_law_mine","_law_cut","_law_one","_law_other"] Wn (defScope Kn):=AQ
def Qg {fT:Addr}(F:Fu K "_law_part_right" Kn f ml) (FP:AE K mg "_law_part" Sf fP fdP Nz) (GP:AF P w K mg base AL m fP fdP Nz (L9 PT))
 (FI:AE K mg "is_part" Ex fI fdI BE) (GI:AF P w K mg base AL m fI fdI BE (SU PT))
 (FW:AE K mg "part_web" Sv fW qM BE) (pe:AF P w K mg base AL m fW qM BE (Uo PT))
 (FO:AE K mg "part_order" To fO fdO OA) (GO:AF P w K mg base AL m fO fdO OA Vx)
 (FC:AE K mg "cut_down" Th fC fdC Mz) (GC:AF P w K mg base AL m fC fdC Mz VZ)
 (FB:AE K mg "by_order" Eo fB fdB Nx) (GB:AF P w K mg base AL m fB fdB Nx (Ov PT))
 (FL:AE K mg "lets_labels" Nc fL fdL BE) (GL:AF P w K mg base AL m fL fdL BE Vr)
 (FT:AE K mg "told" NP fT p6 Ea) (GT:AF P w K mg base AL m fT p6 Ea Of) (mj:mg "len"=none) (mi:mg "range"=none) (nz:mg "repr"=none):AF P w K mg base AL (m+1) f ml Wn (Pn PT):=by
 show F.okD J8 λ_ A _ _ H vs Q E U h=>?_;let{t,wa,oa,la,N,n,ts,os,ess,0,T,hN,W,n9,qh,O,{LA,{rk,R,LO},bd},TT,k}:=h;let{ta,tys,_,3,G}:=id W;let hol:=O.ln;show{_,zP (AX (i:=4) J8.nd (AI GP U FP (zC (pv 0) (zC (pv 1) zL))))
  (zP (AV (zu c5 (AI GI U FI (zC (pv 1) (zC (pv 4) zL))) Ct (zx _)) Ay zw)
  (zP (AX (i:=5) J8.nd (AI pe U FW (zC (pv 1) (zC (pv 4) zL))))
  (zP (AX (i:=6) J8.nd (AI GO U FO (zC (pv 2) (zC (pv 4) zL))))
  (zP (AX (i:=7) J8.nd (AI GC U FC (zC (pv 3) (zC (pv 4) zL))))
  (zP (AV (PW.pt (Cc (zu CL (AZ (NL U) nz (zC (AI GB U FB (zC (pv 5) (zC (pv 6) zL))) zL)) (AZ (NL U) nz (zC (pv 7) zL)) (zx _)) (C6 (zu c5 (AI GL U FL (zC (pv 5) (zC (pv 7) zL))) Ct (zx _))))) Ay zw)
  (zP (Bb (Dp rfl mi (zC (AZ Bq mj (zC (pv 4) zL)) zL)) (Az (i:=8) J8.nd)
   (zV (Bb (Dp rfl mi (zC (AZ Bq mj (zC (pv 4) zL)) zL)) (Az (i:=9) J8.nd)
    (zV (AV (zu CL (AI GT U FT (zC (AJ AS (pv 7) (pv 8)) (zC (AJ AS (pv 7) (pv 9)) zL))) (AI GT U FT (zC (AJ AS (pv 3) (AJ AS (pv 4) (pv 8))) (zC (AJ AS (pv 3) (AJ AS (pv 4) (pv 9))) zL))) (zx _)) Ay zw)))))
  (zV (zt Ct)))))))),?_}
 let kt:∀b o,H b=some (.tup o)->b≠t:=λb o e z=>by let{3,3,ht,_}:=T;rw[z,ht] at e;cases e
 show{4,t,wa,N,n,ts,0,T,hN,W,n9,TT,λpa ps H1 nK C T1 s1 TB1=>?_};let qO:∀b o,H b=some (.tup o)->H1 b=some (.tup o):=λb o e=>s1.get (kt b o e) e (by intro ps z;cases z);let nq:=C.pr.len;show{4,wa,pa,n,ts,ps,0,W.keepT qO,nK,C,TB1,λH2 s2 TB2=>{_,9,Ax ?_}};let tk2:∀b o,H b=some (.tup o)->H2 b=some (.tup o):=λb o e=>Fg s2 _ _ (qO b o e);let pW:=Fg s2 _ _ nK;show{4,wa,pa,n,ts,ps,0,W.keepT tk2,pW,C,TB2,λwb H3 s3 TB3 W3=>?_};let tk3:∀b o,H b=some (.tup o)->H3 b=some (.tup o):=λb o e=>Fg s3 _ _ (tk2 b o e);let qf:=Fg s3 _ _ pW;show{4,oa,pa,n,os,ps,0,tk3 _ _ qh,qf,(),C.pr,λob H4 s4 qI=>?_};show{4,la,pa,ps,ess,0,s4 _ _ qf,LA.keep λb o e=>s4 _ _ (tk3 b o e),C.pr.nd,(),Mi G C LO,λlc H5 s5 L5=>?_};let O':=kA O C.pr;let G':=bP G C.pr;let qV:=s4.trans s5;show{4,wb,ob,(ps.length:Int),BA ps ts,CN ps os,0,W3.keep qV,s5 _ _ qI,O',TB3.same qV,λld qy nv H6 s6 TB6 L6 R6 LO' bd'=>?_};let LC:=fZ G C O R R6 LO;let ee:qy=Fe ps ess:=CQ.uniq G' O'.nd R6 R6 LO' LC;subst ee;let KC:=TY G' LC bd';let L56:BJ H6 lc (Fe ps ess):=L5.keep (Fg s6);show{7,Sa L6,Si KC (),1,7,Sa L56,Si KC (),6,AU (by simp) ?_};show{4,wb,lc,(ps.length:Int),BA ps ts,Fe ps ess,0,{(W3.keep qV).smT s6,L56,KC},Zb (CQ.let G' R6 LC),λH7 s7=>{_,9,Ax ?_}};let I:Aa H3 H7:=((Aa.of qV).trans s6).trans (Aa.of s7);let pO:Aa H1 H7:=(s2.trans s3).trans I;let hpa7:=Fg pO _ _ nK;let L7:=L56.keep λb o e=>s7 _ _ e;let LA7:BJ H7 la ess:=LA.keep λb o e=>Fg I _ _ (tk3 b o e);let TB7:=TB6.same s7;let LGd:=LC.good G' R6;let LGo:=LO.good G R;clear L56 L6 s6 qI s5 W3 TB3 s4 tk3 L5 s3 tk2 TB2 s2 qV I TB6 s7 pW qf TB1 qO;show{1,pa,1,.inr (AB.of hpa7),?_};rw[zB];show{(ps.length:Int),0,(),(),Hs (lo:=0) (n:=ps.length) (λi σ H8=>Gb λ(v8 v9:Option V)=>σ=[some (.ref t),some (.ref wa),some (.ref oa),some (.ref la),some (.ref pa),some (.ref wb),some (.ref ob),some (.ref lc),v8,v9]/\AG H7 H8) {7,AG.refl _} (λi σ H8 hi z=>?_) (λσ H8 z=>?_)}
 . let{v8,v9,0,s8}:=z;rw[EK];show{1,pa,1,.inr (AB.of (s8 _ _ hpa7)),?_};rw[zB];show{(ps.length:Int),0,(),(),Hs (lo:=0) (n:=ps.length) (λj σ H9=>∃v9:Option V,σ=[some (.ref t),some (.ref wa),some (.ref oa),some (.ref la),some (.ref pa),some (.ref wb),some (.ref ob),some (.ref lc),some (.int i),v9]/\AG H7 H9) {1,s8} (λj σ H9 hj z=>?_) (λσ H9 z=>?_)}
   . let{v9,0,s9}:=z;rw[EK];let gi:ps[i]?=some ps[i]:=zD hi;let gj:ps[j]?=some ps[j]:=zD hj;let xm:=El hi;let ym:=El hj;let xr:=C.pr.rng _ xm;let yr:=C.pr.rng _ ym;let{as,ax,ay,es,fs,hl,gx,gy,lx,ly,Lx,Ly,Cv}:=(L7.keep λb o e=>s9 _ _ e).two LGd (x:=(i:Int)) (y:=(j:Int)) () () () ();show{4,lc,3,.ref ax,2,AB.of hl,CA gx,4,lc,3,.ref ay,2,AB.of hl,CA gy,ax,ay,es,fs,0,lx,ly,Ly.hub,λlm H10 s10 hm=>?_};let J:=s9.trans s10;let hpa10:=J _ _ hpa7;let{as',bx,by',o5,fs',nU,gx',gy',lx',ly',Lx',Ly',Cv'}:=(LA7.keep λb o e=>J _ _ e).two LGo xr.1 xr.2 yr.1 yr.2;show{1,4,pa,3,.int ps[i],2,AB.of hpa10,CA (by rw[zO,gi];rfl),la,3,.ref bx,2,AB.of nU,Ao xr.1 gx',1,4,pa,3,.int ps[j],2,AB.of hpa10,CA (by rw[zO,gj];rfl),la,3,.ref by',2,AB.of nU,Ao yr.1 gy',bx,by',o5,fs',0,lx',ly',Ly'.hub,λlm' H11 s11 hm'=>?_};let lcut:=d9 G C xm ym (VB G Lx' Ly' Cv' hm').1;rw[OS C.pr.nd gi,OS C.pr.nd gj] at lcut;let eo:lm.map (·.1)=lm'.map (·.1):=BY.uniq (VB G' Lx Ly Cv hm).1 lcut;rw[eo];show{?_,1,AU (by simp) {1,J.trans s11}};cases lm'.map (·.1) <;> rfl
   . let{v9,0,s9}:=z;show{7,s9}
 . let{v8,v9,0,s8}:=z;show k H8 ((T1.smT pO).keep s8) (s1.trans ((Ah.ofT pO).trans (Ah.of s8))) (TB7.same s8)
end K93
namespace K93
open PySem L2 WM
open DG
def jD (K:Cn n ess)(C:1<=n)(o:n<=24):Txt.split (Str.join (Str.ofString "; ") (A5 ess)) (Str.ofString "; ")=A5 ess:=by
 let I:=K.ln;rw[MC];show km (λz=>?_) λw hw=>?_
 . let:=congrArg List.length z;unfold A5 at this;rw[zB] at this;let:ess.length=0:=this
   lia
 . let{es,he,0}:=zp.mp hw;show (Tj (K.esb o es he)).2.2.2
end K93
namespace K93
open PySem L2 WM
end K93
namespace L2
open PySem PySem.Spec PyProof.Rows
def YG (hN:X.N.Nodup)(hi:X.N[i]?=some n)(hk:X.env.kindOf n=some .local)
 (hst:X.stack=X.env::X.outer)(hfl:X.env.frame=some X.env.locals)(hg:Gl X x)(hm:X.mg x=some (.ref W))(qW:Fi X.K W=true)
 (hb:dX X body tb)(hs:∀ea oe C,oe.cls=.ref C->CI (X.held ea oe) (b0::suite) (ts ea oe C))(hd:autoParam ((x==("__debug__" : Str))=false) d_._auto_2):
 PS X (.Try body [.ExceptHandler (some (.Name x np)) (some n) (b0::suite) hpos] [] [] pos) (RO X.K W tb ts i):=by
 intro pins s σ H D I h;show wpAny_Try_except (BB (hb pins s σ H D _ I h) (λfl s' hq=>?_) λe s' hq=>?_)
 . cases fl with
   | next=>show wpAny_execs_nil hq
   | brk=>show hq
   | cont=>show hq
   | ret u=>show hq
 . let{H1,s1,I1,ea,t,C,od,H',B,0,os,bare,un,hok,{fl,fd},tr,old,al,Ca,0,qC,sub,hts}:=hq;let hfr:X.A.frames=some (X.env::X.outer):=by rw[<-hst];show I.ok.frames
   let fl':=fl;rw[hst] at fl';let hHe:H' ea=none:=by
    cases z:H' ea with
    | none=>rfl
    | some u=>let{o,ho}:=tr ea u z;rw[fl.2.1] at ho;cases ho
   show iX hfr hfl fl' fd λh4 held up4 d4=>?_;show ME held d4 λh5 fl5 up5 d5=>?_;let key:∀(h6:Heap),Heap.FlyingW B (X.env::X.outer) ea (.ref Ca) (.ref t) h6->s'.heap.UpToSlots h6->F8 ea od h6->∃oe vs,h6.get? ea=some oe/\oe.cls=.ref Ca/\oe.dict=od/\oe.data=.fields vs/\AA (X.held ea oe) pins σ H' { s' with heap:=h6 }:=λh6 fl6 up6 d6=>by
    let{oe,ws,hoe,hc,hdt,_}:=fl6.first;let hdi:oe.dict=od:=by let{o2,q2,r2}:=d6;rw[hoe] at q2;cases q2;show r2
    let un6:Un (A4 X.stack) [] H1 H' s1.heap h6:=gH un fl old al fl6.1 up6;let I6:AA X pins σ H' { s' with heap:=h6 }:=I1.call' (s':={ s' with heap:=h6 }) os un6 (hok.stays fl.1 fl6.1 tr) bare (λb z=>absurd z (by simp));let nfr:ea∉A4 X.stack:=λz=>by rw[hst] at z;let{_,o,ho,nd}:=fl6.2.2.1.mem z;rw[hoe] at ho;cases ho;show nd ws hdt
    let hfs:A4 X.stack=X.env.locals::X.fs:=by rw[hst];unfold A4;rw[Nb,hfl];rfl
    rw[hfs] at nfr;show{oe,ws,hoe,hc,hdi,hdt,I6.hold hoe hHe (λz=>nfr (z ▸ za)) (λz=>nfr (zZ _ z)) (λv z=>by rw[hdt] at z;cases z)}
   let{oe5,ws5,hoe5,hc5,3,I5}:=key h5 fl5 (up4.trans up5) d5;show wpAny_handleBy_cons (codeAny_handlers_test (Nq (X:=X.held ea oe5) I5 hg hm ?_ hd)) (by intro q;cases q);let{bm,Nn,nm,qn,bs,oN,sn,sb,ab,col,dd,k0,k1,k2,k3,k5,hC}:=iP I5.kIn qC;let{bm',Nn',nm',qn',bs',hdct',sn',sb',ab',col',qN,k0',k1',k2',k3',k5',hW,TW}:=kT I5.kIn qW;show lO hC hW hoe5 hc5 (TW.hasType (by rfl)) (LU I5.kIn sub hC) ?_;show codeAny_handlers_suite_as (MA fl5 d5 λh6 fl6 up6 d6=>?_);let{oe6,ws6,hoe6,hc6,hd6,hf6,I6}:=key h6 fl6 ((up4.trans up5).trans up6) d6;show Oh (X:=X.held ea oe6) I6 hN hi (.inl hk) (v:=.ref ea) rfl (λs7 I7=>?_) (.inr hk);show BB (hs ea oe6 Ca hc6 pins s7 _ H' (JN i D) I7 (hts ea oe6 ws6 hc6 hd6 hf6 hHe)) (λf s8 hq=>?_) λ_ _ z=>z.elim;let fin:∀{U:St}{H2:Hp}{Q:Unit->Shared->Prop},AA (X.held ea oe6) pins U H2 s8->(∀s9,AA X pins (U.set i none) H2 s9->Q Unit.unit s9)->wpAny (model X.prog X.w) X.A (do bindName X.env n .none;unbindBehindTheSuite X.env n hpos) Q X.xe s8:=λ{U H2 Q} J hQ=>by
    let J1:=AA.letgo I.ok J;let hiσ:i<U.length:=by rw[J1.len];show (zF.mp hi).1
    show zA (wpAny_bindName (Oh J1 hN hi (.inl hk) (v:=.non) rfl (λs9 J2=>?_) (.inr hk)));unfold unbindBehindTheSuite;show wpAny_onRaise (j7 J2 hN hi hk (v:=.non) (List.getElem?_set_self hiσ) λs10 J3=>?_);rw[List.set_set] at J3;show hQ s10 J3
   cases f with
   | next=>let{U,H2,J,q}:=hq;show fin J λs9 J9=>{_,H2,J9,q}
   | brk=>let{U,H2,J,q}:=hq;show fin J λs9 J9=>{_,H2,J9,q}
   | cont=>let{U,H2,J,q}:=hq;show fin J λs9 J9=>{_,H2,J9,q}
   | ret u=>let{v,U,H2,J,r,q}:=hq;show fin J λs9 J9=>{v,_,H2,J9,r,q}
end L2
namespace K93
open PySem L2 WM
structure UG (K:AK)(mg:A2)(C:Addr):Prop where
 mP:mg "NoLabels"=some (.ref C)
 sb:L2.subIn K C C=true
 ex:NS K C
 n1:PySem.W.findIn K (.ref C) "word"=some none
meta def wd:Option (Str×PyData)->Str
 | none => "ok"
 | some (x,_)=>x
inductive cU (vs:List V)(H:Hp)(Q:VK):Prop
 | mk:∀(wa:Addr)(v:V)(F:Option (Str×PyData)->Prop),(vs=[.ref wa,v])->(TL H wa v F)->(∀f H',F f->AG H H'->Q (.str (wd f)) H')->cU vs H Q
def MB:Sp:=λo H Q _=>cU o H Q
meta def jn (zs:List Str):Str:=Str.join (Str.ofString "; ") zs
inductive c7 (vs:List V)(H:Hp)(Q:VK):Prop
 | mk:∀(wa:Addr)(n:Int)(ts:List T3)(ess:List (List En)),(vs=[.ref wa,.str (jn (A5 ess))])->(Ak H wa n ts)->(Cn n ess)->((jn (A5 ess)).length<=100000)->(∀f H',Cg ts ess f->AG H H'->Q (.str (wd f)) H')->c7 vs H Q
def Ms:Sp:=λo H Q _=>c7 o H Q
def HU:zo ["_law_web_here","_law_labels","_law_found","e"] RS (defScope Ug):=AQ
def RQ (F:Fu K "_law_word" Ug f ml) (o:UG K mg C)(EI:C3 K C fI)
 (J:AE K mg "lets_labels" Nc fL fdL BE) (GL:AF P w K mg base (Bu P w) m fL fdL BE (OW C TL)):AF P w K mg base AL (m+1) f ml RS MB:=by
 let qC:Fi K C=true:=by unfold Fi;rw[EI.cl];rfl
 show F.okD HU λ_ A _ _ H vs Q E hr h=>?_;let{wa,v,F0,0,T0,k}:=h;show{_,zP (AX (i:=2) HU.nd Ab)
  (zP (YG (i:=3) HU.nd rfl rfl rfl rfl rfl o.mP qC (Y0 GL hr rfl J.m J.F.kp J.b (zC (pv 0) (zC (pv 1) zL))) (λea oe c U=>zV (AX (i:=2) HU.nd (Yc (pv 3)))))
  (zV (zt (pv 2)))),?_}
 show{4,wa,v,F0,0,T0,λfo H' I=>{1,k none H' fo I},λx e u dx H' fo I Su oo=>?_};show{C,0,qC,o.sb,λea oe ws U hd hf hea=>?_};show{1,ea,C,dx,_,.str x,0,Yn U hd hf,EI.cl,o.ex,o.n1,oo,6,k (some (x,e)) H' fo I}
def Mr:zo ["web","text","labels","fault"] ["web","text"] (defScope UT):=AQ
def QY (F:Fu K "checked" UT f ml) (J:UG K mg C)(EI:C3 K C fI)
 (FL:AE K mg "lets_labels" Nc fL fdL BE) (GL:AF P w K mg base (Bu P w) m fL fdL BE (OW C TL))
 (FR:AE K mg "read_labels" UZ fR fdR Ez) (GR:AF P w K mg base AL m fR fdR Ez G8):AF P w K mg base AL (m+1) f ml ["web","text"] Ms:=by
 let qC:Fi K C=true:=by unfold Fi;rw[EI.cl];rfl
 show F.okD Mr λ_ A _ _ H vs Q E hr h=>?_;let{wa,n,ts,I,0,W,KD,hlen,k}:=h;let{ta,tys,_,3,G}:=id W;let b1:=jD KD G.n1 G.n24;let pX:=KD.ln;let n24:=G.n24;show{_,zP (AX (i:=2) Mr.nd (AI GR hr FR (zC (Bp PySem.F.plainAttrs_str PySem.F.slot_str_split PySem.F.type_str_split Oe (pv 1) (zC Ab zL)) zL)))
  (zP (YG (i:=3) Mr.nd rfl rfl rfl rfl rfl J.mP qC (Y0 GL hr rfl FL.m FL.F.kp FL.b (zC (pv 0) (zC (pv 2) zL))) (λea oe c hc=>zV (zt (Yc (pv 3)))))
  (zV (zt Ab))),?_}
 show{_,2,jn (A5 I),_,8,(),λl hl=>?_};let hh:(upd H l (.lst ((Txt.split (jn (A5 I)) (Str.ofString "; ")).map V.str))) l=some (.lst ((A5 I).map V.str)):=by rw[zJ];unfold jn;rw[b1]
 let s1:=zK (o:=.lst ((Txt.split (jn (A5 I)) (Str.ofString "; ")).map V.str)) hl;show{l,n,I,0,hh,G.n1,G.n24,KD,λa H2 s2 L2=>?_};let oY:=s1.trans s2;show{4,wa,.ref a,Cg ts I,0,{a,n,ts,I,0,{W.keep oY,L2,KD},0},λfo H' U=>k none H' fo (oY.trans U),λx e u dx H' fo U Su oo=>?_};show{C,0,qC,J.sb,λea oe ws hc hd hf hea=>?_};show{1,ea,C,dx,_,.str x,0,Yn hc hd hf,EI.cl,J.ex,J.n1,oo,0,k (some (x,e)) H' fo (oY.trans U)}
end K93
namespace K93
open PySem L2 WM
open DG
def iC (a b):Txt.startswith (a++b) a=true:=by change (decide (0+a.length<=(a++b).length) && Builtin.Str.subAt (a++b) a 0)=true;rw[DQ,zX (),Bool.true_and];change ((a++b).cps.extract 0 (0+a.length)==a.cps)=true;rw[beq_iff_eq];apply Array.toList_inj.mp;rw[Array.toList_extract,Str.cps_append,Array.toList_append];let:a.length=a.cps.toList.length:=Oj a;change ((a.cps.toList++b.cps.toList).drop 0).take (0+a.length-0)=a.cps.toList;rw[List.drop_zero,show 0+a.length-0=a.cps.toList.length by lia,List.take_left]
def kb (C:y.cps.toList≠[])(h:x.cps.toList.head?≠y.cps.toList.head?):Txt.startswith x y=false:=by
 cases e:Txt.startswith x y with
 | false=>rfl
 | true=>
  let e:(decide (0+y.length<=x.length) && Builtin.Str.subAt x y 0)=true:=e;rw[KI] at e;let I:(x.cps.extract 0 (0+y.length)==y.cps)=true:=e.2;rw[beq_iff_eq] at I;let o:=congrArg Array.toList I;rw[Array.toList_extract] at o;let o:(x.cps.toList.drop 0).take (0+y.length-0)=y.cps.toList:=o;rw[List.drop_zero,show 0+y.length-0=y.cps.toList.length by let:=Oj y;lia] at o;show absurd ?_ h;rw[<-o];cases U:x.cps.toList with
  | nil=>rw[U,List.take_nil] at o;show absurd o.symm C
  | cons c r=>
   cases J:y.cps.toList with
   | nil=>show absurd J C
   | cons d q=>rfl
def gz (a b):Txt.slice (a++b) (some (a.length:Int)) none=b:=by let o:=DQ a b;rw[PyProof.Rows.slice_from_eq (b:=((a++b).length:Int)) () () rfl];apply Fq;change ((a++b).cps.toList.drop _).take _=b.cps.toList;let I:=Oj a;let C:=Oj b;rw[Str.cps_append,Array.toList_append,show ((a.length:Nat):Int).toNat=a.cps.toList.length by lia,List.drop_left,zR ()]
end K93
namespace K93
open PySem L2 WM
meta def My:List (AO×V):=[(.inr "put",.int 3),(.inr "strike",.int 2),(.inr "told",.int 2),(.inr "step",.int 2),(.inr "walk",.int 2),(.inr "label",.int 1),(.inr "total",.int 0),(.inr "web",.int 0)]
def Vu (z:Str)(m:Nat):Prop:=(z="order"/\0<m)\/(z="label"/\m=1)\/(z="web"/\m=0)
def Vl:Sp:=λo H Q _=>∃z l xs,o=[.str z,.ref l]/\H l=some (.lst xs)/\Vu z xs.length/\Q (.bl true) H
def MU:zo N1 N1 (defScope TQ):=AQ
def jj (F:Fu K "is_row" TQ f ml) (o:mg "COUNTS"=some (.ref ca)) (D:Jw P w K ca My)(I:mg "len"=none):AF P w K mg base AL 1 f ml N1 Vl:=by
 show F.okD MU λ_ A _ _ H J Q E U h=>?_;let{z,l,xs,0,C,ok,k}:=h;show{_,zP (AV (zu A1 (pv 0) Ab (zx _)) (zV (zt (Bo Gd (AZ Bq I (zC (pv 1) zL)) zg (zx _)))) zw)
  (zP (AV (zu CL (AZ Bq I (zC (pv 1) zL)) (jb rfl o D (pv 0) {0,8}) (zx _)) Ay zw)
  (zV (zt (IP (Bo CL (pv 0) Ab (zx _)) (ES WO))))),?_}
 rcases ok with ⟨rfl,hm⟩ | ⟨rfl,hm⟩ | ⟨rfl,hm⟩
 . show{9,BX (by decide +kernel) ?_};show{1,l,1,.inl (AD.of C),5,?_};dsimp only;rwa[zX ()]
 . show{9,AU (by decide +kernel) ?_};show{1,l,1,.inl (AD.of C),1,.inr "label",0,6,AU (by rw[hm];decide +kernel) ?_};show{_,2,true,0,Br k}
 . show{9,AU (by decide +kernel) ?_};show{1,l,1,.inl (AD.of C),1,.inr "web",0,6,AU (by rw[hm];decide +kernel) ?_};show{_,2,true,0,Br k}
inductive Zo (vs:List V)(H:Hp)(Q:VK):Prop
 | mk:∀(l:Addr)(z:Str)(ns:List Int),(vs=[.ref l])->(H l=some (.lst ((z::ns.map sN).map V.str)))->((∀k∈ns,0<=k/\k<=9999))->(Vu z ns.length)->(ns.length<=100)->(∀(q:Addr)(H':Hp),AG H H'->H' q=some (.lst (ns.map V.int))->Q (.ref q) H')->Zo vs H Q
def Vs:Sp:=λo H Q _=>Zo o H Q
def bK:∀ns:List Int,Ep .non (ns.map V.int)=false
 | []=>rfl
 | _::ns=>bK ns
def Iw:zo ["words","numbers"] ["words"] (defScope Hd):=AQ
def Mv (F:Fu K "numbers_behind" Hd f ml) (FN:AE K mg "number_in" LH fN fdN IU) (GN:AF P w K mg base AL m fN fdN IU J0)
 (FI:AE K mg "is_row" TQ fI fdI N1) (GI:AF P w K mg base AL m fI fdI N1 Vl) (mMo:mg "MOST_IN_A_ROW"=some (.int 9999 tk)):AF P w K mg base AL (m+1) f ml ["words"] Vs:=by
 show F.okD Iw λ_ A _ _ H vs Q E hr h=>?_;let{l,z,ns,0,hl,rg,ok,n100,k}:=h;show{_,zP (Hz (i:=1) (own:=["word"]) (cn:=[]) (ci:=[]) Iw.nd rfl (Or.inl rfl) rfl (Aq rfl rfl) trivial rfl (C2 (NY OF (pv 0) (Nm zg) Ng)) (λ_ _ _ _=>An) (λ_ _ _ _=>A8)
  (λ_ _ _ _=>AI GN hr FN (zC (pv 0) (zC zg (zC (Fm (v:=.int 9999) rfl mMo {tk,0}) zL)))))
  (zP (AV (PW.pt (Cc (zu aV Av (pv 1) (by with_unfolding_all rfl)) (C6 (Bw (BR (AI GI hr FI (zC (AJ Ar (pv 0) zg) (zC (pv 1) zL)))))))) Ay zw)
  (zV (zt (pv 1)))),?_}
 show⟨_,rfl,1,rfl,l,_,rfl,AD.of hl,λq hq=>?_⟩;let e1:Fz ((z::ns.map sN).map V.str) (some 1) none=(ns.map sN).map V.str:=V9 _ 1;rw[e1];let s1:=zK (o:=.lst ((ns.map sN).map V.str)) hq;let C:(upd H q (.lst ((ns.map sN).map V.str))) q=some (.lst ((ns.map sN).map V.str)):=zJ;generalize upd H q (.lst ((ns.map sN).map V.str))=H1 at s1 C ⊢;show{q,0,{_,AD.of C},[],0,λD hD=>?_};show Jp (a:=q) (xs:=(ns.map sN).map V.str) (λi J I=>J=(ns.take i).map V.int/\AG H1 I/\I D=some (.lst J)) {0,zK hD,zJ} (λi J I z=>?_) (λi J I z=>?_) (λi v J I hv z=>?_) (λJ I z=>?_)
 . show AD.of (z.2.1 _ _ C)
 . rw[z.1,zB,zl];show DF ()
 . let{0,s4,U}:=z;obtain⟨x,hx,rfl⟩:∃x,ns[i]?=some x/\V.str (sN x)=v:=by
    rw[zO,zO] at hv;cases e:ns[i]? with
    | none=>rw[e] at hv;cases hv
    | some x=>rw[e] at hv;show{x,0,zW hv}
   let xr:=rg x (zN hx);show{{2},A9 ⟨_,rfl,x,0,9999,rfl,by decide,xr.1,xr.2,by decide,λH5 s5=>?_⟩};show{s5 _ _ U,?_,Bs (s4.trans s5) hD,zJ};rw[zj,hx,zQ];rfl
 . let{0,s4,U}:=z;rw[zB,zB,zR (zH _)] at U;let pP:=s1.trans s4;show{1,D,1,.inl (AD.of U),0,J7 _,1,?_};change (if Ep .non (ns.map V.int)=true then _ else _)
   rw[bK];show Ax ?_;show{1,l,3,.str z,2,AD.of (pP _ _ hl),Ao (by decide) rfl,1,z,D,1,U,by rwa[zB],1,Ax {1,k D I pP U}}
end K93
namespace K93
open PySem L2 WM
open DG
def XD (G:GW n ts)(J:n<=9):ts.length<=49:=by
 let nd:(ts.map λt:T3=>if t.1<4 then 8*t.1+t.2.1 else 12+4*t.1+t.2.1).Nodup:=by unfold List.Nodup;rw[CM];show G.dis.imp_of_mem λ{s t} I o h e=>h ?_;let a:=G.rng s I;let b:=G.rng t o;split at e <;> split at e <;> lia
 let:=nd_len (n:=49) nd λx C=>by let{t,o,0}:=zp.mp C;let a:=G.rng t o;split <;> lia
 rwa [zB] at this
def mV (G:GW n ts)(r:Du (ts.map tl))(o:n<=9):C0 n ts:=.of G r (by let:=XD G o;lia)
def Sk (zs):Txt.join (Str.ofString "; ") zs=jn zs:=StrLaws.glued_eq_join _ _
def IG:∀zs:List Str,(jn zs).length<=Dd zs+zs.length
 | []=>zd _
 | [w]=>by rw[Jf];change w.length<=w.length+1+_+_;lia
 | w::x::ws=>by
  let o:=IG (x::ws);let e:jn (w::x::ws)=w++Str.ofString "; " ++ jn (x::ws):=rfl;rw[e,Jf,DQ,DQ,show (Str.ofString "; ").length=2 from by decide];rw[zm]
  lia
def bo (U:C0 n ts):Dd (C9 n ts)<=6000/\(C9 n ts).length<=61:=by
 let I:=Gp (K6 U);let C:(C9 n ts).length=ts.length+1:=by unfold C9;rw[zm,zB]
 let o:=U.le;constructor
 . let:85*(C9 n ts).length<=85*61:=Nat.mul_le_mul_left _ ()
   lia
 . lia
def VG (K:Cn n ess)(h:n<=24):Dd (A5 ess)<=60000/\(A5 ess).length<=24:=by
 let C:=K.ln;let I:(A5 ess).length=ess.length:=by unfold A5;rw[zB]
 let J:=Gp (b:=2060) (ws:=A5 ess) λy o=>by let{es,he,0}:=zp.mp o;show (Tj (K.esb h es he)).1
 constructor
 . let:2061*(A5 ess).length<=2061*24:=Nat.mul_le_mul_left _ ()
   lia
 . lia
def WK (K:Cn n ess)(h:n<=24):(jn (A5 ess)).length<=100000/\(Str.ofString "check " ++ jn (A5 ess)).length<=sizeLine:=by
 let I:=IG (A5 ess);let{C,o}:=VG K h;rw[DQ,show (Str.ofString "check ").length=6 from by decide];let:10000000<=sizeLine:=by decide
 lia
def Ak.r (W:Ak H wa n ts):QH H wa n ts:=by let{ta,tys,I,C,o,_}:=W;show⟨ta,tys,I,C,o⟩
def CO.kd {os:List Int}(k:CO H C kp dx la wa oa n ts os ess):Cn n ess:=by let{ta,tys,_,3,G}:=k.web;let{I,_,o}:=k.lof;show TY G o k.bd
def Nt (n:Int)(ts:List T3)(ess:List (List En))(z:Str)(ns:List Int)(r:Str):Prop:=(∃k es,z="label"/\ns=[k]/\0<=k/\k<n/\ess[k.toNat]?=some es/\r=lW es)\/(z="web"/\ns=[]/\r=jn (C9 n ts))
inductive cJ (C:Addr)(vs:List V)(H:Hp)(Q:VK):Prop
 | mk:∀(kp dx la wa oa l:Addr)(n:Int)(ts:List T3)(os:List Int)(ess:List (List En))(z r:Str)(ns:List Int),(vs=[.ref kp,.str z,.ref l])->(CO H C kp dx la wa oa n ts os ess)->(C0 n ts)->(H l=some (.lst (ns.map V.int)))->(Nt n ts ess z ns r)->(∀H',AG H H'->Q (.str r) H')->cJ C vs H Q
def Ur (C:Addr):Sp:=λo H Q _=>cJ C o H Q
def Nt.ns {ns:List Int}(h:Nt n ts ess z ns r):(∀k∈ns,0<=k/\k<n)/\Fz (ns.map V.int) none (some 2)=ns.map V.int:=by
 rcases h with ⟨k,es,_,rfl,h0,C,_⟩ | ⟨_,rfl,_⟩
 . show{λx o=>by rw[zv.mp o];show⟨h0,C⟩,0}
 . show{(λx o=>by cases o),0}
def P9:zo RM RM (defScope G9):=AQ
def Mm (T:KC K mg C fI fW fL)(F:Fu K "answer" G9 f ml) (FP:AE K mg "is_place" Kd fP fdP BG) (GP:AF P w K mg base AL m fP fdP BG D7)
 (FLo:AE K mg "label_line" RF fLo fdLo DM) (GLo:AF P w K mg base AL m fLo fdLo DM MQ)
 (qz:AE K mg "web_lines" RJ fWl qw Df) (GWl:AF P w K mg base AL m fWl qw Df FQ)
 (bW:BC K qM CY []) (pe:AF P w K mg base AL m fW qM CY (Gz C)) (bL:BC K fdL CY []) (GL:AF P w K mg base AL m fL fdL CY (MP C)) (my:mg "all"=none):AF P w K mg base AL (m+1) f ml RM (Ur C):=by
 show F.okD P9 λ_ A _ _ H vs Q E hr h=>?_;let{kp,dx,la,wa,oa,l,n,ts,os,I,z,r,ns,0,KA,U,hl,an,k}:=h;show{_,zP (AV (Bw (BR (AZ (Ff rfl) my (zC (A3 (own:=HN) (cn:=["keeper"]) (ci:=[0]) rfl (Aq rfl rfl) {8,trivial} rfl (C2 (NY OF (pv 2) Ng (Nm zg))) (λ_ _ _ _=>An) (λ_ _ _ _=>A8)
  (λ_ _ _ _=>AI GP hr FP (zC (AJ CG (Oy (pv 1) T.cl T.mW pe hr bW .nil DD) zg) (zC (pv 0) zL)))) zL)))) Ay zw)
  (zP (AV (zu A1 (pv 1) Ab (zx _)) Ay zw)
  (zP (AV (zu A1 (pv 1) Ab (zx _)) Ay zw)
  (zP (AV (zu A1 (pv 1) Ab (zx _)) Ay zw)
  (zP (AV (zu A1 (pv 1) Ab (zx _)) Ay zw)
  (zP (AV (zu A1 (pv 1) Ab (zx _)) Ay zw)
  (zP (AV (zu A1 (pv 1) Ab (zx _)) (zV (zt (AI GLo hr FLo (zC (AJ AS (Oy (pv 0) T.cl T.mL GL hr bL .nil DD) (AJ Ar (pv 2) zg)) zL)))) zw)
  (zP (AV (zu A1 (pv 1) Ab (zx _)) Ay zw)
  (zV (zt (Bp PySem.F.plainAttrs_str PySem.F.slot_str_join PySem.F.type_str_join Jm Ab (zC (AI GWl hr qz (zC (Oy (pv 0) T.cl T.mW pe hr bW .nil DD) zL)) zL))))))))))),?_}
 let{rg,ct}:=an.ns;let{ta,tys,nI,3,G}:=id KA.web;let n24:=G.n24;let nl:ns.length<=1:=by
  rcases an with ⟨_,_,_,rfl,_⟩ | ⟨_,rfl,_⟩
  . show zH 1
  . show zd 1
 show⟨_,rfl,2,rfl,l,_,rfl,AD.of hl,λq hq=>?_⟩;rw[ct];let s1:=zK (o:=.lst (ns.map V.int)) hq;let hq1:(upd H q (.lst (ns.map V.int))) q=some (.lst (ns.map V.int)):=zJ;generalize upd H q (.lst (ns.map V.int))=H1 at s1 hq1 ⊢;show{q,0,{_,AD.of hq1},[.ref kp],0,λD hD=>?_};show Jp (a:=q) (xs:=ns.map V.int) (λi ys H4=>i<=ns.length/\ys=(List.replicate i true).map V.bl/\H4=upd H1 D (.lst ys)) {zd _,2} (λi ys H4 z=>?_) (λi ys H4 z=>?_) (λi v ys H4 hv z=>?_) (λys H4 z=>?_)
 . let{7}:=z;show AD.of (zK hD _ _ hq1)
 . let{hi,0,_}:=z;rw[zB,C8];show DF ()
 . let{_,2}:=z;let{x,hx,0}:=SJ hv;let xr:=rg x (zN hx);let s14:=s1.trans (zK (o:=.lst ((List.replicate i true).map V.bl)) hD);show{{2},A9 {1,kp,dx,1,s14 _ _ KA.ins,0,kp,dx,la,wa,oa,n,ts,os,I,0,KA.same s14,wa,3,.int n,2,AB.of (s14 _ _ nI),6,n,x,0,xr.1,(),zJ,(zF.mp hx).1,?_,Bj}};rw[Gr,zQ];rfl
 let{_,2}:=z;let s2:=s1.trans (zK (o:=.lst ((List.replicate (ns.map V.int).length true).map V.bl)) hD);show{D,1,AD.of zJ,1,?_};rw[cC];show Ax ?_;generalize upd H1 D (.lst ((List.replicate (ns.map V.int).length true).map V.bl))=H2 at s2 ⊢;rcases an with ⟨k0,es,rfl,rfl,h0,h1,he,rfl⟩ | ⟨rfl,rfl,rfl⟩
 . show{9,AU (by decide +kernel) {9,AU (by decide +kernel) {9,AU (by decide +kernel) {9,AU (by decide +kernel) {9,AU (by decide +kernel) {9,BX (by decide +kernel) ?_}}}}}};let J:=KA.same s2;let hk:k0.toNat<I.length:=(zF.mp he).1;let{as,p,x1,y1,y2}:=J.lab.at_ hk;rw[zI,he] at y2;show{1,kp,dx,1,J.ins,0,kp,dx,la,wa,oa,n,ts,os,I,0,J,1,l,3,.int k0,2,AD.of (s2 _ _ hl),0,la,3,.ref p,2,AB.of x1,Ao h0 y1,p,n,es,0,y2,J.kd.esb n24 es (zN he),λH3 s3=>k H3 (s2.trans s3)}
 . show{9,AU (by decide +kernel) {9,AU (by decide +kernel) {9,AU (by decide +kernel) {9,AU (by decide +kernel) {9,AU (by decide +kernel) {9,AU (by decide +kernel) {9,AU (by decide +kernel) ?_}}}}}}};let J:=KA.same s2;let{t1,t2}:=bo U;show{6,kp,dx,1,J.ins,0,kp,dx,la,wa,oa,n,ts,os,I,0,J,wa,n,ts,0,J.web.r,U.smW,λl3 H3 s3 hl3=>{_,l3,C9 n ts,2,AD.of hl3,by decide,by rw[Jo];lia,?_}};rw[Sk];show k H3 (s2.trans s3)
variable {P:Program}{w:World}{K:AK}{mg:A2}{base:Heap}{PT:Addr}{X:Cx}
structure DC (K:AK)(mg:A2)(D gI gS:Addr):Prop where
 mD:mg "Desk"=some (.ref D)
 mI:Mk K D gI
 cl:EY K D
 nk:DP K D "keeper"
 mS:D6 K D "say" gS
meta def JA (o:Addr):List (Str×V):=[("keeper",.ref o)]
def Ah.made (s:AG H H3)(f:H kp=none)(k:Ah kp H3 H4):Ah dk H H4:=λb o _ e=>k b o (λz=>by rw[z,f] at e;cases e) (s b o e)
def QR (C D PT:Addr):Sp:=λvs H Q _=>∃I dd l n o,vs=[.ref I,.ref l]/\H I=some (.ins D dd [])/\H l=some (.lst ((C9 n o).map V.str))/\C0 n o/\KY o/\Tb H PT /\
 ∀U dx la wa oa os J H',Ah I H H'->Tb H' PT->H' I=some (.ins D dd (JA U))->CO H' C U dx la wa oa n o os J->Q .non H'
def PU (C D PT dk dd wa:Addr)(n:Int)(ts:List T3)(ess:List (List En))(row:Str)(H:Hp)(Q:VK):Prop:=
 (∃U:List (List En),row=Str.ofString "check " ++ jn (A5 U)/\Cn n U/\∀f H',Cg ts U f->AG H H'->Q (.str (wd f)) H') \/
 (∃I:List Int,row=Str.join Be (Str.ofString "order" :: I.map sN)/\CC n I/\∀o dx' la' J qy H',Ah dk H H'->Tb H' PT->H' dk=some (.ins D dd (JA o))->CO H' C o dx' la' wa J n ts I qy->Q (.str "ok") H') \/
 (∃z r ns,row=Str.join Be (z::ns.map sN)/\Nt n ts ess z ns r/\∀H',AG H H'->Q (.str r) H')
inductive aj (C:Addr)(D:Addr)(PT:Addr)(vs:List V)(H:Hp)(Q:VK):Prop
 | mk:∀(dk dd kp dx la wa oa:Addr)(n:Int)(ts:List T3)(os:List Int)(ess:List (List En))(row:Str),(vs=[.ref dk,.str row])->(H dk=some (.ins D dd (JA kp)))->(CO H C kp dx la wa oa n ts os ess)->(C0 n ts)->(Tb H PT)->(PU C D PT dk dd wa n ts ess row H Q)->aj C D PT vs H Q
def So (C D PT:Addr):Sp:=λo H Q _=>aj C D PT o H Q
def Xk (a b):BK "keeper" (.ref b) (JA a)=JA b:=by unfold JA BK;rw[if_pos rfl]
def Nt.z {z:Str}{ns:List Int}(h:Nt n ts ess z ns r):∃c,z.cps.toList.head?=some c/\c≠99/\32∉z.cps.toList/\Vu z ns.length/\z.length<=20/\ns.length<=1/\(z="label" \/ z="web"):=by
 rcases h with ⟨k,es,rfl,rfl,_⟩ | ⟨rfl,rfl,_⟩
 . show⟨108,by decide,by decide,by decide,.inr (.inl {2}),by decide,zH 1,.inl rfl⟩
 . show⟨119,by decide,by decide,by decide,.inr (.inr {2}),by decide,zd 1,.inr rfl⟩
def kX {w:Str}(h:w.cps.toList.head?=some c):∀ws:List Str,(Str.join sep (w::ws)).cps.toList.head?=some c
 | []=>h
 | x::ws=>by
  change (w++sep++Str.join sep (x::ws)).cps.toList.head?=some c;cases e:w.cps.toList with
  | nil=>rw[e] at h;cases h
  | cons a r=>rw[e] at h;simp only[Str.cps_append,Array.toList_append,e,List.cons_append];show h
def aM (h:z.cps.toList.head?=some c)(o:c≠99)(ns:List Int):Txt.startswith (Str.join Be (z::ns.map sN)) (Str.ofString "check ")=false:=by show kb (by decide) ?_;rw[kX h,show (Str.ofString "check ").cps.toList.head?=some 99 from by decide];intro e;show o (zW e)
def bj (hz:32∉z.cps.toList){ns:List Int}(h:∀k∈ns,0<=k):Txt.split (Str.join Be (z::ns.map sN)) (Str.ofString " ")=z::ns.map sN:=by
 show Va (by simp) λw hw=>?_;rcases zS.mp hw with rfl | hw
 . show hz
 . let{k,o,0}:=zp.mp hw;show Oi (h k o)
def WN (hz:z.length<=20){ns:List Int}(h:∀k∈ns,0<=k/\k<24)(C:ns.length<=24):(Str.join Be (z::ns.map sN)).length<=1000000:=by
 show zn (OJ (by decide) _) (zn (Gp (b:=20) λw hw=>?_) ?_)
 . rcases zS.mp hw with rfl | hw
   . show hz
   . let{k,o,0}:=zp.mp hw;let:=h k o;show EF () ()
 . rw[zm,zB]
   lia
section
variable {P:Program}{w:World}{K:AK}{mg:A2}{base:Heap}{C D fI fW fL gI gS PT:Addr}
def Qs:zo ["self","lines","web"] Rf (defScope US):=AQ
def jT (C:1<=n):CC n (lowTo n.toNat):={by rw[Na],(V2 _).imp λh=>(),λp o=>by let:=OL.mp o;lia}
def Pg (T:KC K mg C fI fW fL)(Td:DC K mg D gI gS)(F:BS K "__init__" "Desk.__init__" US f ml) (FR:AE K mg "read_web" Uj fR fdR Ez) (GR:AH P w base (m+1) FR Ew)
 (bI:BC K fdI GY []) (GI:AF P w K mg base AL m fI fdI GY (Ha C PT)) (mh:mg "tuple"=none) (mi:mg "range"=none):AF P w K mg base AL (m+2) f ml Rf (QR C D PT):=by
 show F.okD Qs λ_ A _ _ H vs Q E hr h=>?_;let{dk,dd,l,n,ts,0,oS,hl,U,sr,TT,q}:=h;let n1:=U.gw.n1;let n24:=U.gw.n24;show{_,zP (AX (i:=2) Qs.nd (AI GR hr FR (zC (pv 1) zL)))
  (zV (OK (pv 0) (Vh T.mI GI hr rfl T.mC bI .nil DD (zC (pv 2) (zC (lK rfl rfl mh rfl mi (zC (AJ AS (pv 2) zg) zL)) zL))) rfl)),?_}
 show{1,l,n,ts,0,hl,U,λwa H1 s1 W1=>?_};let{ta,tys,nI,_}:=id W1;show{4,wa,3,.int n,2,AB.of nI,0,n,0,(),(),λob qI I dx hkp oo ne=>?_};let o7:=zK (o:=.tup ((lowTo n.toNat).map V.int)) qI;let J:(upd H1 ob (.tup ((lowTo n.toNat).map V.int))) ob=some (.tup ((lowTo n.toNat).map V.int)):=zJ;generalize upd H1 ob (.tup ((lowTo n.toNat).map V.int))=H2 at o7 J hkp oo ⊢;let s2:=s1.trans o7;let hkp':(upd H2 dx (.own I)) I=none:=by rwa[zY (Ne.symm ne)]
 let s23:AG H2 (upd (upd H2 dx (.own I)) I (.ins C dx [])):=(zK (o:=.own I) oo).trans (zK (o:=.ins C dx []) hkp');let s3:=s2.trans s23;let ql:H I=none:=Sh s2 hkp;let nk:dk≠I:=λz=>by rw[z,ql] at oS;cases oS
 show{I,dx,wa,ob,n,ts,lowTo n.toNat,0,zJ,W1.keep (o7.trans s23),sr,s23 _ _ J,jT n1,TT.same s3,λla ess H4 sm4 B4 K4=>{0,?_}};let hd4:H4 dk=some (.ins D dd []):=sm4.get nk (s3 _ _ oS) (by intro ps z;cases z);show{1,dk,D,dd,[],0,hd4,Td.cl,Td.nk,by decide,?_};show q I dx la wa ob _ ess _ (Ah.made s3 ql sm4).chg (Vg B4 hd4) zJ (K4.keep (zY nk.symm) λb ys e=>by rwa[zY (Ac e hd4 (by intro z;cases z))])
def U6:zo ["self","row","words","numbers"] JV (defScope UK):=AQ
def M7 (T:KC K mg C fI fW fL)(Td:DC K mg D gI gS)(F:BS K "say" "Desk.say" UK f ml) (FC:AE K mg "checked" UT fC fdC ["web","text"]) (GC:AH P w base (m+1) FC Ms)
 (FN:AE K mg "numbers_behind" Hd fN fdN ["words"]) (GN:AH P w base (m+1) FN Vs)
 (FA:AE K mg "answer" G9 fA fdA RM) (GA:AH P w base (m+1) FA (Ur C))
 (bI:BC K fdI GY []) (GI:AF P w K mg base AL m fI fdI GY (Ha C PT)) (bW:BC K qM CY []) (pe:AF P w K mg base AL (m+1) fW qM CY (Gz C))
 (qE:mg "CHECK"=some (.str (Str.ofString "check ") tk)) (mh:mg "tuple"=none) (mj:mg "len"=none):AF P w K mg base AL (m+2) f ml JV (So C D PT):=by
 show F.okD U6 λ_ A _ _ H vs Q E hr h=>?_;let{dk,dd,kp,dx,la,wa,oa,n,ts,os,ess,row,0,oS,KA,U,TT,sy}:=h;let n1:=U.gw.n1;let n24:=U.gw.n24;show{_,zP (AV (BR (Bp PySem.F.plainAttrs_str PySem.F.slot_str_startswith PySem.F.type_str_startswith hJ (pv 1) (zC (Fm (v:=.str (Str.ofString "check ")) rfl qE {tk,0}) zL)))
  (zV (zt (AI GC hr FC (zC (Oy (OE (pv 0) rfl) T.cl T.mW pe hr bW .nil DD) (zC (NY Ls (pv 1) (Nm (AZ WA mj (zC (Fm (v:=.str (Str.ofString "check ")) rfl qE {tk,0}) zL))) Ng) zL))))) zw)
  (zP (AX (i:=2) U6.nd (Bp PySem.F.plainAttrs_str PySem.F.slot_str_split PySem.F.type_str_split Oe (pv 1) (zC Ab zL)))
  (zP (AX (i:=3) U6.nd (AI GN hr FN (zC (pv 2) zL)))
  (zP (AV (zu A1 (AJ Ar (pv 2) zg) Ab (zx _)) (zP (OK (pv 0) (Vh T.mI GI hr rfl T.mC bI .nil DD (zC (Oy (OE (pv 0) rfl) T.cl T.mW pe hr bW .nil DD) (zC (BQ Cf mh (zC (pv 3) zL)) zL))) rfl) (zV (zt Ab))) zw)
  (zV (zt (AI GA hr FA (zC (OE (pv 0) rfl) (zC (AJ Ar (pv 2) zg) (zC (pv 3) zL))))))))),?_}
 rcases sy with ⟨oA,rfl,KD,k⟩ | ⟨ph,rfl,O,k⟩ | ⟨z,r,ns,rfl,an,k⟩
 . show{_,2,_,9,?_};rw[iC];show Br ?_;let{c1,c2}:=WK KD n24;show{1,dk,D,dd,_,.ref kp,0,oS,Td.cl,Td.nk,0,kp,dx,1,KA.ins,0,kp,dx,la,wa,oa,n,ts,os,ess,0,KA,4,by decide,4,c2,wa,n,ts,oA,congrArg (λy=>[V.ref wa,V.str y]) (gz _ _),KA.web,KD,c1,k}
 . show{_,2,_,9,?_};rw[aM (c:=111) (by decide) (by decide)];show Ax ?_;let ol:=O.ln;show{_,2,3,8,WN (by decide) (λp J=>by let:=O.rng p J;lia) (),λl hl=>?_};rw[bj (by decide) λp J=>(O.rng p J).1];let s1:=zK (o:=.lst ((Str.ofString "order" :: ph.map sN).map V.str)) hl;let nY:(upd H l (.lst ((Str.ofString "order" :: ph.map sN).map V.str))) l=some (.lst ((Str.ofString "order" :: ph.map sN).map V.str)):=zJ;generalize upd H l (.lst ((Str.ofString "order" :: ph.map sN).map V.str))=H1 at s1 nY ⊢;show{1,l,Str.ofString "order",ph,0,nY,λp J=>by let:=O.rng p J;lia,.inl {0,()},(),λq H2 s2 hq=>?_};let oY:=s1.trans s2;let K2:=KA.same oY;show{1,l,3,.str (Str.ofString "order"),2,AD.of (s2 _ _ nY),Ao (by decide) rfl,6,BX (by decide +kernel) ?_};show{1,dk,D,dd,_,.ref kp,0,oY _ _ oS,Td.cl,Td.nk,0,kp,dx,1,K2.ins,0,kp,dx,la,wa,oa,n,ts,os,ess,0,K2,1,q,1,.inl {AD.of hq,λob qI qF I hkp oo ne=>?_}};let s23:=zK (o:=.tup (ph.map V.int)) qI;let hob3:(upd H2 ob (.tup (ph.map V.int))) ob=some (.tup (ph.map V.int)):=zJ;generalize upd H2 ob (.tup (ph.map V.int))=H3 at s23 hob3 hkp oo ⊢;let p9:=oY.trans s23;let hkp':(upd H3 I (.own qF)) qF=none:=by rwa[zY (Ne.symm ne)]
   let s34:AG H3 (upd (upd H3 I (.own qF)) qF (.ins C I [])):=(zK (o:=.own qF) oo).trans (zK (o:=.ins C I []) hkp');let pP:=p9.trans s34;let ql:H qF=none:=Sh p9 hkp;let nk:dk≠qF:=λz=>by rw[z,ql] at oS;cases oS
   show{qF,I,wa,ob,n,ts,ph,0,zJ,KA.web.keep pP,KA.sr,s34 _ _ hob3,O,TT.same pP,λla2 qx H5 sm5 B5 K5=>{0,?_}};let hd5:H5 dk=some (.ins D dd (JA kp)):=sm5.get nk (pP _ _ oS) (by intro ps z;cases z);show{1,dk,D,dd,1,hd5,Td.cl,Td.nk,by change 1<1000;decide,?_};rw[Xk];show k qF I la2 ob qx _ (Ah.made pP ql sm5).chg (Vg B5 hd5) zJ (K5.keep (zY nk.symm) λb ys e=>by rwa[zY (Ac e hd5 (by intro z;cases z))])
 . let{c,z1,z2,z3,z4,z5,z6,z7}:=an.z;let{rg,_}:=an.ns;show{_,2,_,9,?_};rw[aM z1 z2];show Ax ?_;show{_,2,3,8,WN z5 (λp J=>by let:=rg p J;lia) (),λl hl=>?_};rw[bj z3 λp J=>(rg p J).1];let s1:=zK (o:=.lst ((z::ns.map sN).map V.str)) hl;let nY:(upd H l (.lst ((z::ns.map sN).map V.str))) l=some (.lst ((z::ns.map sN).map V.str)):=zJ;generalize upd H l (.lst ((z::ns.map sN).map V.str))=H1 at s1 nY ⊢;show{1,l,z,ns,0,nY,λp J=>by let:=rg p J;lia,z4,(),λq H2 s2 hq=>?_};let oY:=s1.trans s2;let K2:=KA.same oY;show{1,l,3,.str z,2,AD.of (s2 _ _ nY),Ao (by decide) rfl,6,AU (by rcases z7 with rfl | rfl <;> decide +kernel) ?_};show{1,dk,D,dd,_,.ref kp,0,oY _ _ oS,Td.cl,Td.nk,6,l,3,.str z,2,AD.of (s2 _ _ nY),Ao (by decide) rfl,1,kp,dx,la,wa,oa,q,n,ts,os,ess,z,r,ns,0,K2,U,hq,an,λH3 s3=>k H3 (oY.trans s3)}
end
end K93
namespace K93
open PySem L2 WM
open DG
variable {P:Program}{w:World}{K:AK}{mg:A2}{base:Heap}{PT:Addr}{X:Cx}
inductive bb (C:Addr)(D:Addr)(PT:Addr)(vs:List V)(H:Hp)(Q:VK):Prop
 | mk:∀(dk dd kp dx la wa oa wb lb lo:Addr)(n:Int)(ts:List T3)(os:List Int)(ess oA:List (List En)),(vs=[.ref dk,.ref wb,.ref lb,.ref lo])->(H dk=some (.ins D dd (JA kp)))->(CO H C kp dx la wa oa n ts os ess)->(C0 n ts)->(Tb H PT)->(Ak H wb n ts)->(BJ H lb ess)->(BJ H lo oA)->(Cn n oA)->(∀H',AG H H'->Q (.bl true) H')->bb C D PT vs H Q
def Ih (C D PT:Addr):Sp:=λo H Q _=>bb C D PT o H Q
def CO.fo {os:List Int}(k:CO H C kp dx la wa oa n ts os ess):Cg ts ess none:=by let{ta,tys,_,3,G}:=k.web;let{I,R,o}:=k.lof;show Zb (CQ.let G R o)
def iA (hi:i<ess.length):∃es,ess[i]?=some es/\((A5 ess).map V.str)[i]?=some (.str (lW es)):=by show{ess[i],zD hi,?_};unfold A5;rw[zO,zO,zD hi];rfl
def iZ (k):Str.ofString "label " ++ sN k=Str.join Be (Str.ofString "label" :: [k].map sN):=by show Fq ?_;change _=(Str.ofString "label" ++ Be++sN k).cps.toList;simp only[Str.cps_append,Array.toList_append];congr 1
section
variable {P:Program}{w:World}{K:AK}{mg:A2}{base:Heap}{C D gI gS PT:Addr}
def Vm:zo ["_law_desk","_law_web_here","_law_labels","_law_others","_law_lines","_law_place"] Wf (defScope Md):=AQ
def NH (Td:DC K mg D gI gS)(F:Fu K "_law_desk_right" Md f ml) (FLl:AE K mg "label_lines" UB fLl fdLl DL) (GLl:AF P w K mg base AL m fLl fdLl DL Gy)
 (qz:AE K mg "web_lines" RJ fWl qw Df) (GWl:AF P w K mg base AL m fWl qw Df FQ)
 (FWd:AE K mg "_law_word" Ug fWd fdWd RS) (GWd:AF P w K mg base AL m fWd fdWd RS MB)
 (bS:BC K fdS JV []) (GS:AF P w K mg base AL m gS fdS JV (So C D PT)) (mi:mg "range"=none) (nO:mg "str"=none):AF P w K mg base AL (m+1) f ml Wf (Ih C D PT):=by
 show F.okD Vm λ_ A _ _ H vs Q E hr h=>?_;let{dk,dd,kp,dx,la,wa,oa,wb,lb,lo,n,I,os,ess,oA,0,oS,KA,U,TT,W,L,L2',K2,k}:=h;let n1:=U.gw.n1;let o:=U.gw.n24;let K1:=KA.kd;show{_,zP (AX (i:=4) Vm.nd (AI GLl hr FLl (zC (pv 2) zL)))
  (zP (AV (PW.pt (Cc (zu CL (O6 (pv 0) Td.cl Td.mS GS hr bS .nil DD (zC (Ae Sj Ab (Bp PySem.F.plainAttrs_str PySem.F.slot_str_join PySem.F.type_str_join Jm Ab (zC (pv 4) zL))) zL)) Ab (zx _))
   (C6 (zu CL (O6 (pv 0) Td.cl Td.mS GS hr bS .nil DD (zC Ab zL)) (Bp PySem.F.plainAttrs_str PySem.F.slot_str_join PySem.F.type_str_join Jm Ab (zC (AI GWl hr qz (zC (pv 1) zL)) zL)) (zx _))))) Ay zw)
  (zP (Bb (Dp rfl mi (zC (AJ AS (pv 1) zg) zL)) (Az (i:=5) Vm.nd)
   (zV (AV (zu CL (O6 (pv 0) Td.cl Td.mS GS hr bS .nil DD (zC (Ae Sj Ab (BQ Yo nO (zC (pv 5) zL))) zL)) (AJ Ar (pv 4) (pv 5)) (zx _)) Ay zw)))
  (zV (zt (Bo A1 (O6 (pv 0) Td.cl Td.mS GS hr bS .nil DD (zC (Ae Sj Ab (Bp PySem.F.plainAttrs_str PySem.F.slot_str_join PySem.F.type_str_join Jm Ab (zC (AI GLl hr FLl (zC (pv 3) zL)) zL))) zL)) (AI GWd hr FWd (zC (pv 1) (zC (pv 3) zL))) (zx _)))))),?_}
 let{c1,c2}:=VG K1 o;let{d1,d2}:=VG K2 o;let{e1,e2}:=bo U;let hsl:10000000<=sizeLine:=by decide
 let ln:=K1.ln;show{1,lb,n,ess,0,L,K1,o,λl H1 s1 hl=>?_};show{1,dk,dd,1,s1 _ _ oS,0,6,_,l,A5 ess,2,AD.of hl,by decide,by rw[Jo];lia,?_};rw[Sk];show{5,(WK K1 o).2,dk,dd,kp,dx,la,wa,oa,n,I,os,ess,1,s1 _ _ oS,KA.same s1,U,TT.same s1,.inl {ess,0,K1,λf H2 fo s2=>?_}};cases fo.uniq KA.fo;let oY:=s1.trans s2;show{6,AU (by decide +kernel) ?_};show{1,dk,dd,1,oY _ _ oS,0,dk,dd,kp,dx,la,wa,oa,n,I,os,ess,1,oY _ _ oS,KA.same oY,U,TT.same oY,.inr (.inr {Str.ofString "web",jn (C9 n I),[],0,.inr {8},λH3 s3=>?_})};let p9:=oY.trans s3;show{6,wb,n,I,0,(W.keep p9).r,U.smW,λl4 H4 s4 hl4=>{_,l4,C9 n I,2,AD.of hl4,by decide,by rw[Jo];lia,?_}};rw[Sk];show{6,AU (by simp) ?_};let pP:=p9.trans s4;let hl4':=s4 _ _ (s3 _ _ (s2 _ _ hl));let{ta,tys,hwb,_}:=id (W.keep pP);show{1,wb,3,.int n,2,AB.of hwb,0,n,0,(),(),Hs (lo:=0) (n:=n.toNat) (λi σ H5=>∃v5:Option V,σ=[some (.ref dk),some (.ref wb),some (.ref lb),some (.ref lo),some (.ref l),v5]/\AG H4 H5) {1,AG.refl _} (λi σ H5 hi z=>?_) (λσ H5 z=>?_)}
 . let{v5,0,qV}:=z;let p8:=pP.trans qV;rw[EK];let{es,he,hh}:=iA (ess:=ess) (i:=i) ();show{1,dk,dd,1,p8 _ _ oS,6,(i:Int),0,(),5,?_,dk,dd,kp,dx,la,wa,oa,n,I,os,ess,1,p8 _ _ oS,KA.same p8,U,TT.same p8,.inr (.inr {Str.ofString "label",lW es,[(i:Int)],iZ i,.inl {i,es,2,(),(),he,0},λH6 s6=>?_})}
   . let:(Str.ofString (toString (i:Int))).length<=20:=EF (k:=(i:Int)) () ();rw[DQ,show (Str.ofString "label ").length=6 from by decide]
     lia
   show{4,l,_,5,AD.of (s6 _ _ (qV _ _ hl4')),CA hh,6,AU (by simp) {1,qV.trans s6}}
 let{v5,0,qV}:=z;let p8:=pP.trans qV;show{1,dk,dd,1,p8 _ _ oS,0,6,lo,n,oA,0,L2'.keep λb ys e=>p8 _ _ e,K2,o,λl7 H7 s7 hl7=>{_,l7,A5 oA,2,AD.of hl7,by decide,by rw[Jo];lia,?_}};rw[Sk];let J:=p8.trans s7;show{5,(WK K2 o).2,dk,dd,kp,dx,la,wa,oa,n,I,os,ess,1,J _ _ oS,KA.same J,U,TT.same J,.inl {oA,0,K2,λf H8 fo s8=>?_}};let s08:=J.trans s8;show{4,wb,.ref lo,Cg I oA,0,{lo,n,I,oA,0,{W.keep s08,L2'.keep λb ys e=>s08 _ _ e,K2},0},λf' H9 fo' s9=>{0,?_}};cases fo.uniq fo';rw[zX rfl];show k H9 (s08.trans s9)
end
end K93
namespace K93
open PySem L2 WM
open DG
variable {P:Program}{w:World}{K:AK}{mg:A2}{base:Heap}{PT:Addr}{X:Cx}
def SM (K:AK)(PT:Addr):Sp:=λo H Q _=>∃a,∃(ns:List Int),o=[.ref a]/\AD K H a (ns.map V.int)/\ns.length<=63/\H PT=some (.tbl #[])/\∀H',Q (.bl true) H'
structure MZ (H:Hp)(PT t wa oa la lo:Addr)(N:Nat)(n:Int)(ts:List T3)(os:List Int)(ess oA:List (List En)):Prop where
 tp:Af H t N
 tb:Tb H PT
 wb:Ak H wa n ts
 od:H oa=some (.tup (os.map V.int))
 la:BJ H la ess
 lo:BJ H lo oA
def MZ.keep {o lo:Addr}{os:List Int}(h:MZ H PT t wa oa o lo N n ts os ess oA)(T:Af H' t N)(B:Tb H' PT)(k:∀b ys,H b=some (.tup ys)->H' b=some (.tup ys)):MZ H' PT t wa oa o lo N n ts os ess oA:={T,B,h.wb.keepT k,k _ _ h.od,h.la.keep k,h.lo.keep k}
def MZ.same {o lo:Addr}{os:List Int}(h:MZ H PT t wa oa o lo N n ts os ess oA)(s:AG H H'):MZ H' PT t wa oa o lo N n ts os ess oA:=h.keep (h.tp.keep s) (h.tb.same s) λb C e=>s _ _ e
def Ah.tup {H H':Hp}{o D C:Addr}{fs:List (Str×V)}(s:Ah o H H')(hd:H o=some (.ins D C fs)):∀b ys,H b=some (.tup ys)->H' b=some (.tup ys):=λb ys e=>s.get (Ac e hd (by intro z;cases z)) e (by intro ps z;cases z)
def Af.smK (h:Af H t N)(s:Ah dk H H')(hd:H dk=some (.ins D dd fs)):Af H' t N:=by let{p,ns,o,rest,a1,a2,C}:=h;show{p,ns,o,rest,s.get (Ac a1 hd (by intro z;cases z)) a1 (by intro ps z;cases z),s.get (Ac a2 hd (by intro z;cases z)) a2 (by intro ps z;cases z),C}
def NF (g:GW n ts):Fn 60002 3 (IM n ts):=by
 let h1:=g.n1;let h2:=g.n24;let hl:=g.len;let o:Fn 30000 2 (.tuple (ts.map HD)):=by
  show (Ni (n:=423) (p:=1) (L:=64) (λd hd=>?_) (by rw[zB];lia)).mono (by decide) (by decide);let{t,o,0}:=zp.mp hd;let{r1,U,J,I,C}:=g.rng t o;show (Ni (n:=140) (p:=0) (L:=3) (λd hd=>?_) (by rw[zB];show zH 3)).mono (by decide) (by decide);let{i,hi,0}:=zp.mp hd;let qR:i=t.1\/i=t.2.1\/i=t.2.2:=by simpa [tl] using hi
  show OX ()
 show (Ni (n:=30000) (p:=2) (L:=2) (ds:=[.int n,.tuple (ts.map HD)]) (λd hd=>?_) (zH 2)).mono (by decide) (by decide);rcases zS.mp hd with rfl | hd
 . show (OX ()).mono (by decide) (by decide)
 . rcases zS.mp hd with rfl | hd
   . show o
   . cases hd
def i4 {os:List Int}(h:os≠[]):Str.ofString "order " ++ Txt.join (Str.ofString " ") (os.map sN)=Str.join Be (Str.ofString "order" :: os.map sN):=by
 rw[show Txt.join (Str.ofString " ") (os.map sN)=Str.join Be (os.map sN) from StrLaws.glued_eq_join _ _];cases os with
 | nil=>show absurd rfl h
 | cons k r=>show Fq ?_;change _=(Str.ofString "order" ++ Be++Str.join Be (sN k::r.map sN)).cps.toList;simp only[Str.cps_append,Array.toList_append,Bf];congr 1
def Ge:zo ["_law_script","_law_tape_here","_law_k","_law_web_here","_law_order_here","_law_labels","_law_others","_law_some","_law_desk"] II (defScope D5):=AQ
def LI {PT c ca cL  C D fIL fKI fKW fKL fDI fDS f fTa fD fW fNu fWi fTo fRs fPl fLl fEe fAl fFa fT fLo fNe fF fLe fBw fNb fIo fBy fLb fIh fEb fOw fSu fTd fEn fLt fRa fOf fUf fUr fTf fGm fDf fDr fOr fAr fIp fHw fPw fNt fPo fCd fCl fNn fNi fIw fWl fRw fRc fRt fAa fAb fWox fNa fRm fLlx fLox fEw fNw fRsx fRl fEi fOe fFax fHo fBx fPt fPr fCk fNb2 fIr fAn fWd fDr2:Addr}{fdIL fdKI fdKW fdKL fdDI fdDS ml fdTa fdD qM fdNu fdWi fdTo fdRs fdPl fdLl fdEe fdAl fdFa p6 fdLo fdNe fdF fdLe fdBw fdNb fdIo fdBy fdLb fdIh fdEb fdOw fdSu fdTd fdEn fdLt fdRa fdOf fdUf fdUr fdTf fdGm fdDf fdDr fdOr fdAr fdIp fdHw fdPw fdNt fdPo fdCd fdCl fdNn fdNi fdIw qw fdRw fdRc fdRt fdAa fdAb fdWox fdNa fdRm fdLlx fdLox fdEw fdNw fdRsx fdRl fdEi fdOe fdFax fdHo fdBx fdPt fdPr fdCk fdNb2 fdIr fdAn fdWd fdDr2:FuncData}{qO tk2 tk3 tk4 tk5 tk6 tk7:Tok}(F:Fu K "law" D5 f ml) (CH:PySem.W.CodeHd base c PT)(qK:Ed mg base)(T:KC K mg C fKI fKW fKL)(Td:DC K mg D fDI fDS)(Er:UG K mg cL)(n2:PySem.W.findIn K (.ref cL) "at"=some none) (EI:C3 K cL fIL)(mo:PySem.W.mroIn K cL (.type "object")=some true) (FIL:BS K "__init__" "NoLabels.__init__" UP fIL fdIL) (bIL:BC K fdIL IY [])
 (FKI:BS K "__init__" "Keeper.__init__" UC fKI fdKI) (bKI:BC K fdKI GY []) (FKW:BS K "web_now" "Keeper.web_now" UH fKW fdKW) (bKW:BC K fdKW CY []) (FKL:BS K "labels_now" "Keeper.labels_now" Tx fKL fdKL) (bKL:BC K fdKL CY [])
 (FDI:BS K "__init__" "Desk.__init__" US fDI fdDI) (bDI:BC K fdDI Rf []) (FDS:BS K "say" "Desk.say" UK fDS fdDS) (bDS:BC K fdDS JV [])
 (pR:mg "FIGURES"=some (.str (Str.ofString "0123456789") qO)) (mMP:mg "MOST_PLACES"=some (.int 24 tk2)) (mMT:mg "MOST_TIES"=some (.int 60 tk3)) (mML:mg "MOST_LONG"=some (.int 99 tk4)) (mMW:mg "MOST_WRITTEN_LONG"=some (.int 999999999999 tk5)) (mMo:mg "MOST_IN_A_ROW"=some (.int 9999 tk6)) (qE:mg "CHECK"=some (.str (Str.ofString "check ") tk7)) (mCt:mg "COUNTS"=some (.ref ca)) (CD:Jw P w K ca My)
 (FTa:AE K mg "_law_tape" WB fTa fdTa II)
 (FD:AE K mg "_law_draw" Jl fD fdD JC)
 (FW:AE K mg "_law_web" E8 fW qM N2)
 (FNu:AE K mg "is_number" Hr fNu fdNu GV)
 (FWi:AE K mg "is_within" LJ fWi fdWi IZ)
 (FTo:AE K mg "is_tuple_of" D4 fTo fdTo Lo)
 (FRs:AE K mg "is_rising" Es fRs fdRs ["things"])
 (FPl:AE K mg "is_place" Kd fPl fdPl BG)
 (FLl:AE K mg "is_label" Sg fLl fdLl BG)
 (FEe:AE K mg "is_entry" Tf fEe fdEe BG)
 (FAl:AE K mg "are_labels" Sb fAl fdAl BG)
 (FFa:AE K mg "far_entries" O8 fFa fdFa DL)
 (FT:AE K mg "ties_at" IA fT p6 IF)
 (FLo:AE K mg "long_of" ON fLo fdLo E7)
 (FNe:Gq K "nearest" "nearest" O2 fNe fdNe c) (bNe:BC K fdNe Mj []) (mNe:mg "nearest"=some (.ref fNe))
 (FF:AE K mg "lengths_from" Ow fF fdF Qy)
 (FLe:AE K mg "lengths" Oc fLe fdLe Df)
 (FBw:AE K mg "between_rows" D8 fBw fdBw NC)
 (FNb:AE K mg "next_by_row" HZ fNb fdNb Qt)
 (FIo:AE K mg "is_order" G0 fIo fdIo BE)
 (FBy:AE K mg "by_order" Eo fBy fdBy Nx)
 (FLb:AE K mg "label_by_ranks" G7 fLb fdLb UQ)
 (FIh:AE K mg "is_hub" Hc fIh fdIh RK)
 (FEb:AE K mg "entry_by_rows" HL fEb fdEb Ua)
 (FOw:AE K mg "own_place" HF fOw fdOw DM)
 (FSu:AE K mg "least_sum" HC fSu fdSu Ea)
 (FTd:AE K mg "told" NP fTd fdTd Ea)
 (FEn:AE K mg "entry_of" HX fEn fdEn ["label","hub"])
 (FLt:AE K mg "lets_labels" Nc fLt fdLt BE)
 (FRa:AE K mg "refuse_at" Tc fRa fdRa MW)
 (FOf:AE K mg "own_fault" UI fOf fdOf DL)
 (FUf:AE K mg "up_fault" UA fUf fdUf EW)
 (FUr:AE K mg "is_up_right" UU fUr fdUr GX)
 (FTf:AE K mg "tie_fault" UM fTf fdTf EW)
 (FGm:AE K mg "grows_too_much" Uc fGm fdGm PY)
 (FDf:AE K mg "down_fault" UY fDf fdDf EW)
 (FDr:AE K mg "is_down_right" Ud fDr fdDr GX)
 (FOr:AE K mg "_law_order" WU fOr fdOr N2)
 (FAr:AE K mg "are_places" G6 fAr fdAr BG)
 (FIp:AE K mg "is_part" Ex fIp fdIp BE)
 (FHw:AE K mg "holds_ways_from" Sy fHw fdHw UR)
 (FPw:AE K mg "part_web" Sv fPw fdPw BE)
 (FNt:AE K mg "new_tie" Tg fNt fdNt Qk)
 (FPo:AE K mg "part_order" To fPo fdPo OA)
 (FCd:AE K mg "cut_down" Th fCd fdCd Mz)
 (FCl:AE K mg "cut_label" SW fCl fdCl QC)
 (FNn:AE K mg "new_entry" Ss fNn fdNn QE)
 (FNi:AE K mg "number_in" LH fNi fdNi IU)
 (FIw:AE K mg "is_written" Ui fIw fdIw ["word"])
 (qz:AE K mg "web_lines" RJ fWl qw Df)
 (FRw:AE K mg "read_web" Uj fRw fdRw Ez)
 (FRc:AE K mg "read_count" Ub fRc fdRc ["line"])
 (FRt:AE K mg "read_tie" UO fRt fdRt Tu)
 (FAa:AE K mg "least_a" UX fAa fdAa ["ahead"])
 (FAb:AE K mg "least_b" UE fAb fdAb ["ahead","a"])
 (FWox:AE K mg "words_of" RD fWox fdWox Pm)
 (FNa:AE K mg "number_at" RC fNa fdNa QU)
 (FRm:AE K mg "refuse_more" Qx fRm fdRm Ny)
 (rB:AE K mg "label_lines" UB fLlx fdLlx DL)
 (FLox:AE K mg "label_line" RF fLox fdLox DM)
 (FEw:AE K mg "entry_word" RX fEw fdEw D0)
 (FNw:AE K mg "number_word" N7 fNw fdNw HN)
 (rA:AE K mg "read_labels" UZ fRsx fdRsx Ez)
 (FRl:AE K mg "read_label" Tv fRl fdRl UJ)
 (FEi:AE K mg "entry_in" UN fEi fdEi Ue)
 (FOe:AE K mg "own_entry" Tw fOe fdOe Rn)
 (FFax:AE K mg "far_entry" UL fFax fdFax UW)
 (FHo:AE K mg "has_own_place" OB fHo fdHo LW)
 (FBx:AE K mg "between" HI fBx fdBx E7)
 (FPt:AE K mg "_law_part" Sf fPt fdPt Nz)
 (FPr:AE K mg "_law_part_right" Kn fPr fdPr Wn)
 (FCk:AE K mg "checked" UT fCk fdCk ["web","text"])
 (FNb2:AE K mg "numbers_behind" Hd fNb2 fdNb2 ["words"])
 (FIr:AE K mg "is_row" TQ fIr fdIr N1)
 (FAn:AE K mg "answer" G9 fAn fdAn RM)
 (FWd:AE K mg "_law_word" Ug fWd fdWd RS)
 (FDr2:AE K mg "_law_desk_right" Md fDr2 fdDr2 Wf)
 (J:mg "len"=none) (mi:mg "range"=none) (I:mg "tuple"=none) (mq:mg "sorted"=none) (nT:mg "min"=none) (oE:mg "list"=none) (m7:mg "isinstance"=none) (nJ:mg "int"=none) (nE:mg "bool"=none) (my:mg "all"=none) (qD:mg "set"=none) (o9:mg "dict"=none) (m8:mg "enumerate"=none) (nz:mg "repr"=none) (nO:mg "str"=none) (oZ:mg "any"=none):AF P w K mg base AL 12 f ml II (SM K PT):=by
 let GTa:AH P w base 11 FTa (Zw K):=(i9 FTa.F).mono;let GD:AH P w base 11 FD Vn:=(cz FD.F J).mono;let GWe:AH P w base 11 FW Iq:=(MI FW.F FD J mi I mq).mono;let GOr:AH P w base 11 FOr ZX:=(je FOr.F FD J mi I oE).mono;let GF:AH P w base 3 FF (Tr PT):=hU FF.F FNe bNe mNe FT CH qK nT mq I;let GLe:AH P w base 5 FLe (SE PT):=(k7 FLe.F FF GF mi I).mono;let GIo:AH P w base 5 FIo V7:=(Mu FIo.F FTo FWi FPl FNu m7 nJ nE I J my qD).mono;let GIh:AH P w base 4 FIh Uu:=(KN FIh.F FBw mi I J my).mono;let GEb:AH P w base 4 FEb U3:=MG FEb.F FNb FT mq I nT;let GLb:AH P w base 5 FLb Vt:=Ks FLb.F FIh GIh FEb GEb mi I;let GBy:AH P w base 6 FBy (Ov PT):=Lb FBy.F FIo GIo FLe GLe FLb GLb mi I;let GPl:AH P w base 3 FPl D7:=VM FPl.F FWi FNu m7 nJ nE;let GTo:∀m,AH P w base (m+2) FTo OT:=λm=>(Vy FTo.F m7 I J).mono ();let GEe:AH P w base 4 FEe Uv:=fg FEe.F FTo FWi FPl FNu m7 nJ nE I J;let GLl:AH P w base 5 FLl VI:=e8 FLl.F FEe GEe FRs ((dD FRs.F J mi my).mono) m7 I J my;let GAl:AH P w base 6 FAl WT:=jV FAl.F FTo (GTo 3) FLl GLl my;let GLo:AH P w base 3 FLo S9:=(iW FLo.F FT mq).mono;let GTd:AH P w base 2 FTd Of:=jG FTd.F FSu o9 nT;let GUr:AH P w base 4 FUr (D9 MF):=QI FUr.F FLo GLo FEn ((LV FEn.F).mono);let GDr:AH P w base 4 FDr (D9 N4):=Ru FDr.F FLo GLo FTd (GTd.mono);let GFa:AH P w base 4 FFa S7:=(ku FFa.F m8).mono;let GUf:AH P w base 6 FUf (Gm Kz):=(O9 FUf.F FFa GFa FUr GUr).mono;let GDf:AH P w base 6 FDf (Gm Ri):=(Rz FDf.F FFa GFa FDr GDr).mono;let GOf:AH P w base 6 FOf KZ:=(QP FOf.F FOw ((NK FOw.F).mono) m8).mono;let GTf:AH P w base 6 FTf (Gm Cs):=(Qm FTf.F FTd (GTd.mono) FT ((TN FT.F mq).mono) FGm ((Qq FGm.F).mono) m8 mi).mono;let GIL:AF P w K mg base AL 1 fIL fdIL IY (E2 cL "word" "at"):=Pd FIL EI mo Er.n1 n2;let GRa:AF P w K mg base (Bu P w) 3 fRa fdRa MW (U1 cL):=lR FRa.F Er.mP EI bIL GIL;let GLt:AF P w K mg base (Bu P w) 7 fLt fdLt BE (OW cL TL):=lE FLt.F FAl GAl FRa (GRa.mono) FOf GOf FUf GUf FTf GTf FDf GDf;let GLtY:AH P w base 10 FLt Vr:=(Ln GLt).mono (by decide);let GAr:AH P w base 5 FAr VY:=(Mp FAr.F FPl GPl FRs m7 I J mi my).mono;let GHw:AH P w base 5 FHw VQ:=(lC FHw.F FBw mi I J my).mono;let GIp:AH P w base 6 FIp (SU PT):=LF FIp.F FAr GAr FLe GLe FHw GHw my;let GPw:AH P w base 7 FPw (Uo PT):=jX FPw.F FIp GIp FNt J I;let GPo:AH P w base 10 FPo Vx:=(lX FPo.F I).mono;let GCl:AH P w base 2 FCl VN:=kZ FCl.F FNn I;let GCd:AH P w base 10 FCd VZ:=(jE FCd.F FCl GCl I).mono;let GBx:AH P w base 9 FBx (WR PT):=(M5 FBx.F FF GF FBw mi I J).mono;let GPt:AH P w base 10 FPt (L9 PT):=RV FPt.F FD ((U0 FD.F J).mono) FBx GBx mi oE I mq qD;let GPr:AH P w base 11 FPr (Pn PT):=Qg FPr.F FPt GPt FIp (GIp.mono) FPw (GPw.mono) FPo GPo FCd GCd FBy (GBy.mono) FLt GLtY FTd (GTd.mono) J mi nz;let GNi:AH P w base 3 FNi J0:=QF FNi.F FIw FWi FNu pR my J nO m7 nJ nE;let GNa:AH P w base 4 FNa HQ:=PK FNa.F FNi GNi J;let GRc:AH P w base 5 FRc NA:=P1 FRc.F FWox FNa GNa FRm mMP J;let GRt:AH P w base 5 FRt Mf:=Qc FRt.F FWox FNa GNa FRm FAa FAb mML J;let GRw:AH P w base 6 FRw Ew:=Pw FRw.F FRc GRc FRt GRt mMT J m8 I;let GRw8:AH P w base 8 FRw Ew:=GRw.mono;let GRw':AH P w base 11 FRw Ew:=GRw.mono;let GWl:AH P w base 1 qz FQ:=QW qz.F;let GWl':AH P w base 11 qz FQ:=GWl.mono;let GLlx:AH P w base 9 rB Gy:=(PL rB.F FLox FEw FNw nO).mono;let GLlx':AH P w base 11 rB Gy:=GLlx.mono
 let GEi:AH P w base 5 FEi Lw:=RG FEi.F FNi GNi FOe FFax FHo oZ J mMW;let GRl:AH P w base 6 FRl K9:=QL FRl.F FEi GEi FHo oZ mMP m8 I;let GRs:AH P w base 7 rA G8:=PX rA.F FRl GRl J m8 I;let GRs':AH P w base 11 rA G8:=GRs.mono;let GCk:AH P w base 8 FCk Ms:=QY FCk.F Er EI FLt GLt rA GRs;let GWd:AH P w base 9 FWd MB:=(RQ FWd.F Er EI FLt GLt).mono;let GIr:AH P w base 3 FIr Vl:=(jj FIr.F mCt CD J).mono;let GNb2:AH P w base 8 FNb2 Vs:=(Mv FNb2.F FNi GNi FIr GIr mMo).mono;let GKW:AF P w K mg base AL 3 fKW fdKW CY (Gz C):=(Q9 T FKW).mono (by decide);let GKL:AF P w K mg base AL 3 fKL fdKL CY (MP C):=(RH T FKL).mono (by decide);let GAn:AH P w base 8 FAn (Ur C):=(Mm T FAn.F FPl GPl FLox (Ik FLox.F FEw FNw nO) qz (GWl.mono) bKW GKW bKL GKL my).mono (by decide);let GKI:AF P w K mg base AL 7 fKI fdKI GY (Ha C PT):=Pc T FKI FBy GBy;let GSy:AF P w K mg base AL 9 fDS fdDS JV (So C D PT):=M7 T Td FDS FCk GCk FNb2 GNb2 FAn GAn bKI GKI bKW (GKW.mono) qE I J;let GSy':AF P w K mg base AL 11 fDS fdDS JV (So C D PT):=GSy.mono;let GDI:AF P w K mg base AL 10 fDI fdDI Rf (QR C D PT):=(Pg T Td FDI FRw GRw8 bKI GKI I mi).mono (by decide);let GDk:AH P w base 11 FDr2 (Ih C D PT):=(NH Td FDr2.F rB GLlx qz (GWl.mono) FWd GWd bDS GSy mi nO).mono (by decide);let GBy':AH P w base 11 FBy (Ov PT):=GBy.mono;show F.okD Ge λ_ A _ _ H vs Q E hr h=>?_;let{a,ns,0,hS,hlen,hPT,kF}:=h;show{_,zP (AX (i:=1) Ge.nd (AI GTa hr FTa (zC (pv 0) zL)))
  (zP (Bb (Dp rfl mi (Aw zL)) (Az (i:=2) Ge.nd)
   (zP (AX (i:=3) Ge.nd (AI GWe hr FW (zC (pv 1) (zC (AJ Ar (Dc (Aw (Aw (Aw (Aw (Aw (Aw (Aw (Aw (Aw zL)))))))))) (AI GD hr FD (zC (pv 1) (Aw zL)))) zL))))
   (zP (AX (i:=4) Ge.nd (AI GOr hr FOr (zC (pv 1) (zC (AJ AS (pv 3) zg) zL))))
   (zP (AX (i:=5) Ge.nd (AI GBy' hr FBy (zC (pv 3) (zC (pv 4) zL))))
   (zP (AX (i:=6) Ge.nd (AI GBy' hr FBy (zC (AI GWe hr FW (zC (pv 1) (zC (AJ AS (pv 3) zg) zL))) (zC (pv 4) zL))))
   (zP (AV (zu CL (AZ (NL hr) nz (zC (AI GRw' hr FRw (zC (AI GWl' hr qz (zC (pv 3) zL)) zL)) zL)) (AZ (NL hr) nz (zC (pv 3) zL)) (zx _)) Ay zw)
   (zP (Bb (C2 (Dc (zC (pv 5) (zC (pv 6) zL)))) (Az (i:=7) Ge.nd)
    (zV (AV (zu CL (AZ (NL hr) nz (zC (AI GRs' hr rA (zC (AI GLlx' hr rB (zC (pv 7) zL)) zL)) zL)) (AZ (NL hr) nz (zC (pv 7) zL)) (zx _)) Ay zw)))
   (zP (AX (i:=8) Ge.nd (Vh Td.mI GDI hr rfl Td.mD bDI .nil DD (zC (AI GWl' hr qz (zC (pv 3) zL)) zL)))
   (zP (AV (zu CL (O6 (pv 8) Td.cl Td.mS GSy' hr bDS .nil DD (zC (Ae Sj Ab (Bp PySem.F.plainAttrs_str PySem.F.slot_str_join PySem.F.type_str_join Jm Ab (zC (A3 (own:=["_law_place"]) (cn:=[]) (ci:=[]) rfl (Aq rfl rfl) trivial rfl (BP (pv 4)) (λ_ _ _ _=>An) (λ_ _ _ _=>A8) (λ_ _ _ _=>BQ Yo nO (zC (pv 0) zL))) zL))) zL)) Ab (zx _)) Ay zw)
   (zV (AV (PW.pt (Cc (Bw (BR (AI GDk hr FDr2 (zC (pv 8) (zC (pv 3) (zC (pv 5) (zC (pv 6) zL))))))) (C6 (Bw (BR (AI GPr hr FPr (zC (pv 1) (zC (pv 3) (zC (pv 4) (zC (pv 5) zL)))))))))) Ay zw)))))))))))
  (zV (zt Ct))),?_}
 show{1,a,ns,0,hS,hlen,λt H1 ht T1 s1=>?_};let B1:Tb H1 PT:={#[],s1 _ _ hPT,trivial,.inl rfl};show⟨2,rfl,by decide,by decide,Hs (lo:=0) (n:=2) (λq σ H2=>dR λ(v2 v3 v4 v5 v6 v7 v8:Option V)=>σ=[some (.ref a),some (.ref t),v2,v3,v4,v5,v6,v7,v8]/\Af H2 t (1000*q)/\Tb H2 PT) {_,3,3,7,T1,B1} (λq σ H2 hq z=>?_) (λσ H2 z=>?_)⟩
 . let{v2,v3,v4,v5,v6,v7,v8,0,T2,B2}:=z;rw[EK];clear T1 B1;show{1,mM,λl hl=>?_};let sl:=zK (o:=.lst (([1,2,3,4,5,6,7,8,9]:List Int).map V.int)) hl;show⟨_,rfl,t,_,9,rfl,T2.keep sl,(),by decide,by decide,λr H3 h30 h31 T3 he3=>?_⟩;let{n,hmo,hat}:=aH (L:=[1,2,3,4,5,6,7,8,9]) (r:=r) () (by change r<9;lia);let hmb:1<=n/\n<=9:=by
    let:∀m∈([1,2,3,4,5,6,7,8,9]:List Int),1<=m/\m<=9:=by decide
    show this n hmo
   let{n1,n9}:=hmb;let nl:l≠t:=T2.ne hl;show{l,_,5,AD.of (by rw[he3 l nl];show zJ),hat,?_};let B3:Tb H3 PT:=Ot (B2.same sl) (T2.keep sl) (λb o nb z=>by rw[he3 b nb];show z);show{t,_,n,0,T3,(),n1,(),λwa ts H4 _ W4 sr T4 s4=>?_};let B4:Tb H4 PT:=Ot B3 T3 s4;let{ta,tys,nI,3,G}:=id W4;let U:=mV G sr n9;show{4,wa,3,.int n,2,AB.of nI,0,t,_,n,0,T4,(),(),(),λoa os H5 qh O T5 s5=>?_};let B5:Tb H5 PT:=Ot B4 T4 s5;let W5:Ak H5 wa n ts:=W4.sm T4 s5;show{4,wa,oa,n,ts,os,0,W5,qh,O,B5,λla ess rk H6 s6 B6 L6 R6 LO6 bd6=>?_};let T6:=T5.smT s6;let W6:=W5.smT s6;let hoa6:=Fg s6 _ _ qh;let{ta6,tys6,hwa6,_}:=id W6;show{4,wa,3,.int n,2,AB.of hwa6,0,t,_,n,0,T6,(),(),(),λwb us H7 _ W7 _ T7 s7=>?_};let B7:Tb H7 PT:=Ot B6 T6 s7;let tk7:∀b ys,H6 b=some (.tup ys)->H7 b=some (.tup ys):=λb ys e=>s7 _ _ (λz=>by let{3,3,ht,_}:=T6;rw[z,ht] at e;cases e) e;let{tb,uys,_,3,G2}:=id W7;show{1,wb,oa,n,us,os,0,W7,tk7 _ _ hoa6,O,B7,λlo oA rk2 H8 s8 B8 L8 R8 LO8 bd8=>?_};let K1:=TY G LO6 bd6;let K2:=TY G2 LO8 bd8;let I8:MZ H8 PT t wa oa la lo (1000*q+430) n ts os ess oA:={(T7.smT s8).mono (),B8,(W6.keepT tk7).smT s8,Fg s8 _ _ (tk7 _ _ hoa6),(L6.keep tk7).keep (Fg s8),L8};clear B8 L8 s8 W7 B7 T7 s7 tk7 L6 hwa6 hoa6 W6 T6 B6 s6 W5 B5 T5 s5 qh nI W4 B4 T4 s4 B3 T3 T2 B2 sl he3;let fw:=(NF G).mono (show 60002<=300000 by decide) (show 3<=50 by decide);show{1,wa,n,ts,0,I8.wb.r,U.smW,λl1 H9 s9 nY=>{l1,n,ts,0,nY,U,λwc H10 s10 W10=>?_}};let I10:=I8.same (s9.trans s10);show{7,cZ W10,fw,1,7,cZ I10.wb,fw,6,AU (by simp) ?_};show{4,CJ,λl2 nH=>?_};let s11:=zK (o:=.lst [V.ref la,V.ref lo]) nH;let hl11:(upd H10 l2 (.lst [V.ref la,V.ref lo])) l2=some (.lst [V.ref la,V.ref lo]):=zJ;let I11:=I10.same s11;generalize upd H10 l2 (.lst [V.ref la,V.ref lo])=H11 at hl11 I11 ⊢;clear s11 nH I10 W10 s10 nY s9 I8;show{l2,0,{_,AD.of hl11},Hi (a:=l2) (xs:=[V.ref la,V.ref lo]) (λi σ H12=>∃v7:Option V,σ=[some (.ref a),some (.ref t),some (.int q),some (.ref wa),some (.ref oa),some (.ref la),some (.ref lo),v7,v8]/\AG H11 H12) {1,AG.refl _} (λi σ H12 hi z=>?_) (λi x σ H12 hx z=>?_) (λσ H12 z=>?_)}
   . let{3,o7}:=z;show AD.of (o7 _ _ hl11)
   . let{v7,0,o7}:=z;obtain⟨p,fs,rfl,Lp,Kp⟩:∃(p:Addr)(fs:List (List En)),x=.ref p/\BJ H11 p fs/\Cn n fs:=by
      match i,hx with
      | 0,hx=>cases hx;show{la,ess,0,I11.la,K1}
      | 1,hx=>cases hx;show{lo,oA,0,I11.lo,K2}
     let Lp2:=Lp.keep λb ys e=>o7 _ _ e;show{1,p,n,fs,0,Lp2,Kp,(),λlx H13 s13 hlx=>{lx,n,fs,0,hlx,n1,(),Kp,λaa H14 s14 LT=>?_}};show{7,Sa LT,Si Kp n9,1,7,Sa (Lp2.keep λb ys e=>s14 _ _ (s13 _ _ e)),Si Kp n9,6,AU (by simp) {1,o7.trans (s13.trans s14)}}
   let{v7,0,o7}:=z;let I12:=I11.same o7;clear I11 hl11 o7;show{1,wa,n,ts,0,I12.wb.r,U.smW,λl3 H13 s13 hl3 dk dd oS pZ ne=>?_};let hdk':(upd H13 dd (.own dk)) dk=none:=by rw[zY (Ne.symm ne)];show oS
   let s14:AG H13 (upd (upd H13 dd (.own dk)) dk (.ins D dd [])):=(zK (o:=.own dk) pZ).trans (zK (o:=.ins D dd []) hdk');let I14:=(I12.same s13).same s14;let qp:(upd (upd H13 dd (.own dk)) dk (.ins D dd [])) dk=some (.ins D dd []):=zJ;let hl14:=s14 _ _ hl3;generalize upd (upd H13 dd (.own dk)) dk (.ins D dd [])=H14 at I14 qp hl14 ⊢;clear s14 hdk' oS pZ hl3 s13 I12;show{dk,dd,l3,n,ts,0,qp,hl14,U,sr,I14.tb,λkp dx la1 wa1 oa1 os1 ess1 H15 sm15 B15 hd15 K15=>{0,?_}};let I15:=I14.keep (I14.tp.smK sm15 qp) B15 (sm15.tup qp);clear I14 sm15 qp hl14;let ol:=O.ln;let nG:os≠[]:=λz=>by rw[z] at ol;let:0=n.toNat:=ol;lia
   show{1,dk,dd,1,hd15,0,6,oa,0,{_,AB.of I15.od},[],0,λDl hDl=>?_};show Bm (a:=oa) (xs:=os.map V.int) (λi ys H16=>i<=os.length/\ys=((os.take i).map sN).map V.str/\H16=upd H15 Dl (.lst ys)) {zd _,2} (λi ys H16 z=>?_) (λi ys H16 z=>?_) (λi v ys H16 hv z=>?_) (λys H16 z=>?_)
   . let{7}:=z;show AB.of (zK hDl _ _ I15.od)
   . let{hi,0,_}:=z;rw[zB,zB,zl];show DF ()
   . let{_,2}:=z;let{x,hx,0}:=SJ hv;let xr:=O.rng x (zN hx);show{{2},A9 {1,x,0,(),zJ,(zF.mp hx).1,?_,Bj}};rw[zj,hx,zQ,zQ];rfl
   let{_,2}:=z;rw[zB,zR (zH _)];let s16:=zK (o:=.lst ((os.map sN).map V.str)) hDl;let hD16:(upd H15 Dl (.lst ((os.map sN).map V.str))) Dl=some (.lst ((os.map sN).map V.str)):=zJ;let I16:=I15.same s16;let qo:=s16 _ _ hd15;let K16:=K15.same s16;generalize upd H15 Dl (.lst ((os.map sN).map V.str))=H16 at I16 qo K16 hD16 ⊢;clear s16 I15 hd15 K15 hDl;let tt:Dd (os.map sN)<=21*24:=by show zn (Gp (b:=20) λz hz=>?_) (Nat.mul_le_mul_left _ (by rw[zB];lia));let{x,hx,0}:=zp.mp hz;let:=O.rng x hx;show EF () ()
   show{_,Dl,os.map sN,2,AD.of hD16,by decide,by rw[Jo];lia,?_};let er:=i4 nG;show{5,by rw[er];show zn (WN (by decide) (λx hx=>by let:=O.rng x hx;lia) ()) (by decide),dk,dd,kp,dx,la1,wa1,oa1,n,ts,os1,ess1,1,qo,K16,U,I16.tb,.inr (.inl {os,er,O,λqF dx2 la2 oa2 qx H17 pO B17 hd17 K17=>?_})};let I17:=I16.keep (I16.tp.smK pO qo) B17 (pO.tup qo);clear I16 qo K16 hD16 pO er;show{6,AU (by decide +kernel) ?_};let{rk7,R7,LO7}:=id K17.lof;let ee:qx=ess:=CQ.uniq G O.nd R7 R6 LO7 LO6;subst ee;show{4,4,dk,dd,qF,dx2,la2,wa1,oa2,wa,la,lo,n,ts,os,qx,oA,0,hd17,K17,U,I17.tb,I17.wb,I17.la,I17.lo,K2,λH18 s18=>{1,Ax ?_}};let I18:=I17.same s18;show{4,4,t,wa,oa,la,_,n,ts,os,qx,0,I18.tp,(),I18.wb,n9,I18.od,O,{I18.la,⟨rk,R6,LO6⟩,bd6},I18.tb,λH19 T19 sm19 B19=>{1,Ax {_,3,3,7,T19.mono (),B19}}}
 . show kF _
end K93
namespace K93
open PySem L2 WM
meta def cE (P:Params)(x:Str×Int×Tok×Tok):DictEntry:={PyData.keyHash P x.1,.str x.1 x.2.2.1,.int x.2.1 x.2.2.2}
def Rj (xs:List (Str×Int×Tok×Tok))(ep)(C:(ca==sysModules)=false)(h:K.lookup ca=some {.type "dict",none,.dict (xs.map (cE w.params)).toArray ep,#[]}) (nd:(xs.map (·.1)).Nodup):Jw P w K ca (xs.map λx=>(.inr x.1,.int x.2.1)):=by
 show{C,3,ep,xs.map λx=>(.inr x.1,.int x.2.1 x.2.2.2),h,{8},0,λe he=>?_,?_,?_,?_}
 . rw[List.mem_toArray] at he;let{x,1}:=zp.mp he;show{.inr x.1,Vf x.1 x.2.2.1,0}
 . change Pairs _ (xs.map (cE w.params)) _;clear h nd
   induction xs with
   | nil=>show .nil
   | cons x xs o=>show .cons (Vf x.1 x.2.2.1) rfl o
 . rw[List.map_map];unfold List.Nodup at nd ⊢;rw[CM] at nd ⊢;show nd.imp λh e=>h (Sum.inr.inj e)
 . clear h nd
   induction xs with
   | nil=>show .nil
   | cons x xs o=>show .cons {6} o
def Nw (x q)(st)(f)(pm cd)(l:autoParam (K.lookup f=some {.type "function",.none,.func (PySem.W.fnOf x q (defArgs st) (defBody st) (defScope st) .none .none .none pm .none cd .none),#[]}) d_._auto_13) (c:autoParam (PySem.W.codeIn K cd q=true) d_._auto_13)(k:autoParam (PySem.W.keepIn K (.ref f)=true) d_._auto_13):BS K x q st f (PySem.W.fnOf x q (defArgs st) (defBody st) (defScope st) .none .none .none pm .none cd .none):=Vi l c k
def uZq {us:List Value}{n}(h:us.length=n+1):∃a t,us=a::t/\t.length=n:=by
 cases us with
 | nil=>cases h
 | cons a t=>show ⟨a,t,rfl,Nat.succ.inj h⟩
def HE {us:List Value}(h:us.length=1):∃o,us=[o]:=by
 let{a,t,0,e}:=uZq h;cases t with
 | nil=>show ⟨a,rfl⟩
 | cons=>cases e
def MO {us:List Value}(h:us.length=2):∃C o,us=[C,o]:=by
 let{a,t,0,e}:=uZq h;let{o,0}:=HE e;show ⟨a,o,rfl⟩
def Mb {us:List Value}(h:us.length=3):∃I C o,us=[I,C,o]:=by
 let{a,t,0,e}:=uZq h;let{C,o,0}:=MO e;show ⟨a,C,o,rfl⟩
def Wm {us:List Value}(h:us.length=4):∃J I C o,us=[J,I,C,o]:=by
 let{a,t,0,e}:=uZq h;let{I,C,o,0}:=Mb e;show ⟨a,I,C,o,rfl⟩
def XJ {us:List Value}(h:us.length=5):∃U J I C o,us=[U,J,I,C,o]:=by
 let{a,t,0,e}:=uZq h;let{J,I,C,o,0}:=Wm e;show ⟨a,J,I,C,o,rfl⟩
def walk {l:PySem.W.OpenLaw}{K:Params->AK}(J:l.most=some 63)(o:d.params.defaults=[])(I:∃dn,(PyProof.Rows.recsOf q).find? (λe=>e.name==("nearest" : Str))=some dn)
 (hY:∀w h,YP w h->(K w.params).In h)
 (F:∀w mg C h,(K w.params).In h->h.Ns mainGlobals mg->mg d.name=some (.ref C) ->
  ∃fd c P,PySem.W.tabIn (K w.params) "nearest"=some (c,P)/\PySem.W.noTabs (K w.params)=true/\(∀s u,BindsTo s fd {[u],[]} [("_law_script",u)])/\∀base:Heap,(K w.params).In base->base.Ns mainGlobals mg->Ed mg base->AF l.prog w (K w.params) mg base AL 12 C fd II (SM (K w.params) P)):
 PySem.W.WalkO q loose XP YP l.row.toRowW d [] (λf vs=>PySem.call f vs):=
 L2.walk_T (n:=63) (k:=12) (x := "_law_script") (tn := "nearest") (CX:=AL) (sp:=SM) J (by decide) o {0,by decide,by decide,0} I hY F (λ_ _ _ a ns U hP hS=>{a,ns,0,hS,U,hP,λ_=>rfl}) λ_ _ _ _ z=>z
def fk {K:AK}(x:Str)(st:Stmt)(f:Addr)(pm cd:Value)(l:autoParam (K.lookup f=some {.type "function",.none,.func (PySem.W.fnOf x x (defArgs st) (defBody st) (defScope st) .none .none .none pm .none cd .none),#[]}) d_._auto_13) (c:autoParam (PySem.W.codeIn K cd x=true) d_._auto_13)(k:autoParam (PySem.W.keepIn K (.ref f)=true) d_._auto_13):BS K x x st f (PySem.W.fnOf x x (defArgs st) (defBody st) (defScope st) .none .none .none pm .none cd .none):=Vi l c k
def ma (x)(st)(f)(pm)(cc)(l:autoParam (K.lookup f=some {.type "function",.none,.func (PySem.W.fnOf x x (defArgs st) (defBody st) (defScope st) .none .none .none pm .none (.ref cc) .none),#[]}) d_._auto_13) (c:autoParam (PySem.W.codeIn K (.ref cc) x=true) d_._auto_13)(k:autoParam (PySem.W.keepIn K (.ref f)=true) d_._auto_13):Gq K x x st f (PySem.W.fnOf x x (defArgs st) (defBody st) (defScope st) .none .none .none pm .none (.ref cc) .none) cc:=jg l c k
meta def dL:DefRec:={ name := "law",params:=defArgs D5,body:=defBody D5,scope:=defScope D5,pos:=⟨519,0,536,15⟩ }
def fB (KX:K.In h)(G:h.Ns mainGlobals mg)(f)(pm)(l:autoParam (K.lookup f=some {.type "function",.none,.func (PySem.W.fnOf x x (defArgs st) (defBody st) (defScope st) .none .none .none pm .none (vR (f-1)) .none),#[]}) d_._auto_13)(d:autoParam (PySem.W.codeIn K (vR (f-1)) x=true) d_._auto_13)(k:autoParam (PySem.W.keepIn K (.ref f)=true) d_._auto_13)(m:autoParam (PySem.W.nsIn K mainGlobals x=some (some (.ref f))) d_._auto_13)(b:∀us:List Value,us.length=ps.length->bindArgs (PySem.W.fnOf x x (defArgs st) (defBody st) (defScope st) .none .none .none pm .none (vR (f-1)) .none) {us,[]}=pure (ps.zip us):=by
 intro us o
 first
 | (let{C,0}:=HE o;rfl)
 | (let{C,I,0}:=MO o;rfl)
 | (let{C,I,J,0}:=Mb o;rfl)
 | (let{C,I,J,U,0}:=Wm o;rfl)
 | (let{C,I,J,U,u4,0}:=XJ o;rfl)):AE K mg x st f (PySem.W.fnOf x x (defArgs st) (defBody st) (defScope st) .none .none .none pm .none (vR (f-1)) .none) ps:={Vi l d k,.all b,PySem.W.mg_of KX G m}
theorem facts (w:World)(mg:A2)(fa:Addr)(h:Heap)(KX:(Kf w.params).In h)(G:h.Ns mainGlobals mg)(hmg:mg "law"=some (.ref fa)):∃fd c P,PySem.W.tabIn (Kf w.params) "nearest"=some (c,P)/\PySem.W.noTabs (Kf w.params)=true/\(∀s u,BindsTo s fd {[u],[]} [("_law_script",u)])/\∀base:Heap,(Kf w.params).In base->base.Ns mainGlobals mg->Ed mg base->AF (PySem.Challenge.rw_labelways_k93_whole_lines_and_parts).prog w (Kf w.params) mg base AL 12 fa fd II (SM (Kf w.params) P):=by
 have mk:∀(x:Str)(f:Addr),PySem.W.nsIn (Kf w.params) mainGlobals x=some (some (.ref f))->mg x=some (.ref f):=fun x f e=>PySem.W.mg_of KX G e;have mn:∀x:Str,PySem.W.nsIn (Kf w.params) mainGlobals x=some none->mg x=none:=fun x e=>PySem.W.mg_none_of KX G e;have FNe:=ma (K:=Kf w.params) "nearest" O2 203 EX 202;have bNe:=FNe.fn.binds (ps:=Mj) fun _ _ _ _ _ _ us hl=>by obtain⟨u0,rfl⟩:=HE hl;rfl
 have mNe:=mk "nearest" 203 (by kernel_rfl);have FZ:=fk (K:=Kf w.params) "law" D5 754 qL (vR 753);have e:=hmg.symm.trans (mk "law" 754 (by kernel_rfl));cases e;have FKI:=Nw (K:=Kf w.params) "__init__" "Keeper.__init__" UC 438 L4 (vR 437);have bKI:=FKI.binds (ps:=GY) fun _ _ _ _ _ _ us hl=>by obtain⟨u0,u1,u2,rfl⟩:=Mb hl;rfl
 have FKW:=Nw (K:=Kf w.params) "web_now" "Keeper.web_now" UH 464 L4 (vR 463);have bKW:=FKW.binds (ps:=CY) fun _ _ _ _ _ _ us hl=>by obtain⟨u0,rfl⟩:=HE hl;rfl
 have FKL:=Nw (K:=Kf w.params) "labels_now" "Keeper.labels_now" Tx 471 L4 (vR 470);have bKL:=FKL.binds (ps:=CY) fun _ _ _ _ _ _ us hl=>by obtain⟨u0,rfl⟩:=HE hl;rfl
 have FDI:=Nw (K:=Kf w.params) "__init__" "Desk.__init__" US 654 Dx (vR 653);have bDI:=FDI.binds (ps:=Rf) fun _ _ _ _ _ _ us hl=>by obtain⟨u0,u1,rfl⟩:=MO hl;rfl
 have FDS:=Nw (K:=Kf w.params) "say" "Desk.say" UK 661 Dx (vR 660);have bDS:=FDS.binds (ps:=JV) fun _ _ _ _ _ _ us hl=>by obtain⟨u0,u1,rfl⟩:=MO hl;rfl
 have FIL:=Nw (K:=Kf w.params) "__init__" "NoLabels.__init__" UP 41 HG (vR 40);have bIL:=FIL.binds (ps:=IY) fun _ _ _ _ _ _ us hl=>by obtain⟨u0,u1,u2,rfl⟩:=Mb hl;rfl
 have TKC:KC (Kf w.params) mg 488 438 464 471:={mk "Keeper" 488 (by kernel_rfl),{by kernel_rfl,by kernel_rfl,by kernel_rfl,by kernel_rfl},{by kernel_rfl,by kernel_rfl,by kernel_rfl,by kernel_rfl},by unfold DP;kernel_rfl,by unfold DP;kernel_rfl,by unfold DP;kernel_rfl,{by kernel_rfl,by kernel_rfl,by kernel_rfl},{by kernel_rfl,by kernel_rfl,by kernel_rfl}};have TDC:DC (Kf w.params) mg 664 654 661:={mk "Desk" 664 (by kernel_rfl),{by kernel_rfl,by kernel_rfl,by kernel_rfl,by kernel_rfl},{by kernel_rfl,by kernel_rfl,by kernel_rfl,by kernel_rfl},by unfold DP;kernel_rfl,{by kernel_rfl,by kernel_rfl,by kernel_rfl}};have Er:UG (Kf w.params) mg 44:={mk "NoLabels" 44 (by kernel_rfl),by kernel_rfl,{by kernel_rfl,by kernel_rfl,by kernel_rfl,by kernel_rfl,by kernel_rfl,by kernel_rfl},by kernel_rfl};have n2:PySem.W.findIn (Kf w.params) (.ref 44) "at"=some none:=by kernel_rfl
 have EI:C3 (Kf w.params) 44 41:={by kernel_rfl,by kernel_rfl,by kernel_rfl,by kernel_rfl,by kernel_rfl};have mo:PySem.W.mroIn (Kf w.params) 44 (.type "object")=some true:=by kernel_rfl
 have pR:mg "FIGURES"=some (.str (Str.ofString "0123456789") 327):=PySem.W.mg_of KX G (by kernel_rfl);have qE:mg "CHECK"=some (.str (Str.ofString "check ") 1050):=PySem.W.mg_of KX G (by kernel_rfl);have mMP:mg "MOST_PLACES"=some (.int 24 391):=PySem.W.mg_of KX G (by kernel_rfl);have mMT:mg "MOST_TIES"=some (.int 60 393):=PySem.W.mg_of KX G (by kernel_rfl);have mML:mg "MOST_LONG"=some (.int 99 395):=PySem.W.mg_of KX G (by kernel_rfl);have mMW:mg "MOST_WRITTEN_LONG"=some (.int 999999999999 874):=PySem.W.mg_of KX G (by kernel_rfl);have mMo:mg "MOST_IN_A_ROW"=some (.int 9999 1052):=PySem.W.mg_of KX G (by kernel_rfl);have mCt:=mk "COUNTS" 640 (by kernel_rfl);have CD:Jw (PySem.Challenge.rw_labelways_k93_whole_lines_and_parts).prog w (Kf w.params) 640 My:=Rj [("put",3,1054,1055),("strike",2,1056,1057),("told",2,1058,1059),("step",2,1060,1061),("walk",2,1062,1063),("label",1,1064,1065),("total",0,1066,1067),("web",0,1068,1069)] 8 (by decide) (by kernel_rfl) (by decide +kernel);exact⟨_,202,198,by kernel_rfl,by kernel_rfl,fun s v=>.of_eq rfl,fun base hb _ qK=>LI FZ (PySem.W.codeHd_of_K hb (show PySem.W.codeHdIn (Kf w.params) 202 198=true by kernel_rfl)) qK TKC TDC Er n2 EI mo FIL bIL FKI bKI FKW bKW FKL bKL FDI bDI FDS bDS pR mMP mMT mML mMW mMo qE mCt CD (fB KX G 704 qL) (fB KX G 711 qL) (fB KX G 716 qL) (fB KX G 120 Cy) (fB KX G 127 Cy) (fB KX G 134 Cy) (fB KX G 139 Cy) (fB KX G 146 Cy) (fB KX G 269 Cz) (fB KX G 276 Cz) (fB KX G 281 Cz) (fB KX G 317 Cz) (fB KX G 177 HV) (fB KX G 184 HV) FNe bNe mNe (fB KX G 196 EX) (fB KX G 189 EX) (fB KX G 215 EX) (fB KX G 220 EX) (fB KX G 397 GZ) (fB KX G 402 GZ) (fB KX G 407 GZ) (fB KX G 412 GZ) (fB KX G 419 GZ) (fB KX G 286 Cz) (fB KX G 305 Cz) (fB KX G 293 Cz) (fB KX G 312 Cz) (fB KX G 338 CW) (fB KX G 345 CW) (fB KX G 352 CW) (fB KX G 359 CW) (fB KX G 366 CW) (fB KX G 371 CW) (fB KX G 378 CW) (fB KX G 385 CW) (fB KX G 392 CW) (fB KX G 723 qL) (fB KX G 151 Cy) (fB KX G 225 Cw) (fB KX G 230 Cw) (fB KX G 235 Cw) (fB KX G 242 Cw) (fB KX G 247 Cw) (fB KX G 252 Cw) (fB KX G 257 Cw) (fB KX G 264 Cw) (fB KX G 158 Cy) (fB KX G 163 Cy) (fB KX G 583 CU) (fB KX G 590 CU) (fB KX G 597 CU) (fB KX G 604 CU) (fB KX G 611 CU) (fB KX G 618 CU) (fB KX G 625 CU) (fB KX G 632 CU) (fB KX G 639 CU) (fB KX G 523 B0) (fB KX G 528 B0) (fB KX G 533 B0) (fB KX G 540 B0) (fB KX G 545 B0) (fB KX G 552 B0) (fB KX G 559 B0) (fB KX G 566 B0) (fB KX G 573 B0) (fB KX G 578 B0) (fB KX G 210 EX) (fB KX G 728 qL) (fB KX G 735 qL) (fB KX G 675 Dx) (fB KX G 680 Dx) (fB KX G 687 Dx) (fB KX G 692 Dx) (fB KX G 742 qL) (fB KX G 749 qL) (mn _ (by kernel_rfl)) (mn _ (by kernel_rfl)) (mn _ (by kernel_rfl)) (mn _ (by kernel_rfl)) (mn _ (by kernel_rfl)) (mn _ (by kernel_rfl)) (mn _ (by kernel_rfl)) (mn _ (by kernel_rfl)) (mn _ (by kernel_rfl)) (mn _ (by kernel_rfl)) (mn _ (by kernel_rfl)) (mn _ (by kernel_rfl)) (mn _ (by kernel_rfl)) (mn _ (by kernel_rfl)) (mn _ (by kernel_rfl)) (mn _ (by kernel_rfl))⟩
end K93
open PySem PySem.W PyProof.Rows
set_option maxRecDepth 100000 in
set_option maxHeartbeats 0 in
theorem PySem.Challenge.cw_labelways_k93_whole_lines_and_parts_holds : PySem.Challenge.rw_labelways_k93_whole_lines_and_parts.Holds := by
 show holds_law K93.wS λo=>?_;show holds_open (q:=K93.Vp) (loose:=K93.LZ) (Xt:=λs=>xlAt K93.Vp [] s && recOk (RowW.records K93.RR) s) (XP:=XL K93.Vp []) (Yf:=Hook.obs K93.HK) (Ya:=Hook.val K93.HK) (YP:=Hook.says K93.HK) (d:=K93.dL) (kwd:=[]) (N:=10400) K93.left (Hook.of K93.HK) (Hook.keeps K93.HK) (λs e=>xl_of s (Bool.and_eq_true_iff.mp e).1) XL.keeps (by kernel_rfl) (by kernel_rfl) (by kernel_rfl) (λs e=>recFacts_of (Bool.and_eq_true_iff.mp e).2) (by kernel_rfl) o (by decide +kernel) {2,8,by decide +kernel} ?hw ?hc
 case hw=>w_witness2
 case hc=>
  show K93.walk (l:=PySem.Challenge.rw_labelways_k93_whole_lines_and_parts) (K:=K93.Kf) rfl rfl {((PyProof.Rows.recsOf K93.Vp).find? (λe=>e.name==("nearest" : Str))).get (by decide +kernel),by simp} (λw h Y=>PySem.W.kIn_of Y) K93.facts
