import PyProof.Rows.All
import Wide.All
import OpenK.AllK
import Wide.FinOn
import Lean
import PyProof.EqAt
import PyProof.EqKinds
import PyProof.TupleCall
import PyProof.ListRange
import PyProof.TupleOfGen
import PyProof.Rows.StrKeys3
import PyProof.ZipIter
import PyProof.StrCalls2
import KE.KIntText
import PyProof.FString
import PyProof.StrWalks
import PyProof.Rows.StrInSeq3
import PyProof.StrBlock
import PyProof.StrBlock2
import PyProof.StrBlockI
import PyProof.StrLawsReplace
import PyProof.Rows.CallKwBuiltin
import PyProof.Rows.CatFin
import PyProof.Draws
import PyProof.EqKinds
import PyProof.FactsAll.set
import PyProof.FactsAll.str_7
import PySem.Challenge.RW_labelways_k73_whole_desks
set_option Elab.async false
set_option linter.all false
set_option maxRecDepth 100000
local macro_rules (kind:=«term{_}»)
 | `({$xs,*})=>do
  let h← `(_)
  let r← `(rfl)
  let mut ys:=#[]
  for x in xs.getElems do
   ys:=ys ++ (match x.raw.isNatLit? with
    | some 0=>#[r]
    | some 1=>#[h,r]
    | some 2=>#[r,r]
    | some 3=>#[h,h]
    | some 4=>#[h,r,h,r]
    | some 5=>#[h,h,r,r]
    | some 6=>#[r,h,r]
    | some 7=>#[h,h,r]
    | some 8=>#[h,r,r,h,r]
    | some 9=>#[r,r,r]
    | _=>#[x])
  `(⟨$ys,*⟩)
open Lean in
def pq:Nat->Syntax->MacroM (Array (TSyntax `rcasesPat))
 | 0,_=>Macro.throwUnsupported
 | n+1,x=>do
  let h← `(rcasesPat|_)
  let i:=mkIdent `rfl
  let r← `(rcasesPat|$i:ident)
  if x.isIdent then return #[← `(rcasesPat|$(⟨x⟩):ident)]
  match x.isNatLit? with
  | some 0=>return #[r]
  | some 1=>return #[h,r]
  | some 2=>return #[r,r]
  | some 3=>return #[h,h]
  | some 4=>return #[h,r,h,r]
  | some 5=>return #[h,h,r,r]
  | some 6=>return #[r,h,r]
  | some 7=>return #[h,h,r]
  | some 8=>return #[h,r,r,h,r]
  | some 9=>return #[r,r,r]
  | _=>
   if x.isOfKind choiceKind then return (← pq n x[0])
   if x.isOfKind `«term{_}» then
    let ys← x[1].getSepArgs.flatMapM (pq n)
    return #[← `(rcasesPat|⟨$[$ys:rcasesPat],*⟩)]
   return #[h]
local macro_rules (kind:=Lean.Parser.Term.tuple)
 | `(())=>`((by lia))
local macro_rules
 | `(tactic|let $d:letDecl)=>do
  let x:=d.raw[0]
  if x.isOfKind ``Lean.Parser.Term.letPatDecl then
   let p←pq 9 x[0]
   `(tactic|obtain $(p[0]!):rcasesPat:=$(⟨x[4]⟩))
  else `(tactic|have $d:letDecl)
 | `(tactic|show $e)=>`(tactic|refine $e)
 | `(command|meta def $n:ident $s:optDeclSig $v:declVal)=>`(command|noncomputable def $n $s:optDeclSig $v:declVal)
 | `(command|meta abbrev $n:ident $s:optDeclSig $v:declVal)=>`(command|noncomputable abbrev $n $s:optDeclSig $v:declVal)
noncomputable section
theorem d_ (h0:True:=by first | show .inl rfl | show .inr rfl | assumption)(h1:True:=by decide)(h2:True:=by first | show nobehind _ (by decide) (by decide) | rfl)(h3:True:=by intro _;rfl)(h4:True:=by rfl)(h5:True:=by decide +kernel)(h6:True:=by first | show Or.inl rfl | show Or.inr (Or.inl rfl) | show Or.inr (Or.inr rfl))(h7:True:=by intro _ _ _ _ h;first|(cases h;subst_vars;rfl)|repeat (first|(let{0,_}:=h;rfl)|let{_,h}:=h))(h8:True:=by show Or.inl rfl)(h9:True:=by show PassesOwn.never)(h10:True:=by show λ_ _=>rfl)(h11:True:=by show DD rfl)(h12:True:=by simp)(h13:True:=by kernel_rfl)(h14:True:=by show {by kernel_rfl,by kernel_rfl,by kernel_rfl,by kernel_rfl})(h15:True:=by show {by kernel_rfl,by kernel_rfl,by kernel_rfl}):True:=trivial
section
open PySem PySem.Spec PyProof.Rows
abbrev zA:=@List.length_map
abbrev zC:=@List.getElem?_eq_getElem
abbrev zD:=@wpAny_bind
abbrev zE:=@List.getD_eq_getElem?_getD
abbrev zH:=@List.getElem?_eq_some_iff
abbrev zI:=@wpAny_pure
abbrev zK:=@List.getElem?_map
abbrev zL:=@Nat.le_refl
abbrev zM:=@Heap.get?_push_of_some
abbrev zO:=@List.map_append
abbrev zP:=@List.size_toArray
abbrev zQ:=@List.mem_of_getElem?
abbrev zR:=@List.take_of_length_le
abbrev zS:=@List.length_append
abbrev zT:=@Option.some.inj
abbrev zU:=@Heap.get?_push_size
abbrev zV:=@List.getElem?_append_left
abbrev zW:=@List.getElem?_append_right
abbrev zY:=@decide_eq_true
abbrev zZ:=@List.mem_cons
abbrev za:=@decide_eq_false
abbrev zc:=@Heap.lt_size
abbrev zd:=@Nat.zero_le
abbrev ze:=@List.take_add_one
abbrev zf:=@List.mem_singleton
abbrev zh:=@Nat.ne_of_lt
abbrev zi:=@List.length_take
abbrev zj:=@List.length_cons
abbrev zk:=@Bool.false_ne_true
abbrev zn:=@Nat.le_trans
abbrev zo:=@List.mem_cons_self
abbrev zq:=@List.mem_append_right
abbrev zr:=@List.mem_cons_of_mem
abbrev zv:=@Nat.lt_of_lt_of_le
abbrev zy:=@List.mem_map
abbrev BW:=@List.append_nil
abbrev CP:=@List.getElem_of_mem
abbrev Cq:=@List.length_replicate
abbrev C7:=@List.length_filter_le
abbrev Bu:=@List.mem_append
abbrev Ba:=@wpAny_holding
abbrev EZ:=@List.pairwise_iff_getElem
abbrev Bg:=@List.map_cons
abbrev CZ:=@List.mem_filter
abbrev Dy:=@List.getElem?_toArray
abbrev BZ:=@Nat.le_succ
abbrev E5:=@Int.eq_ofNat_of_zero_le
abbrev F9:=@Classical.byContradiction
abbrev DK:=@List.pairwise_map
abbrev CC:=@Int.zero_add
abbrev E1:=@List.getElem?_eq_none
abbrev D7:=@wpAny_newObj_type
abbrev E8:=@Int.toNat_of_nonneg
abbrev DE:=@Heap.size_push
abbrev E9:=@Nat.lt_of_le_of_lt
abbrev EC:=@Option.map_some
abbrev Ea:=@List.all_eq_true
abbrev Hq:=@wpAny_callSpecial?_slot
abbrev E2:=@Nat.lt_succ_of_lt
abbrev Gj:=@List.mem_append_left
abbrev F1:=@List.pairwise_cons
abbrev ER:=@List.nodup_cons
abbrev Ez:=@wpAny_call_entry
abbrev GC:=@wpAny_truthy_bool
abbrev Fs:=@Int.toNat_natCast
abbrev Ga:=@wpAny_Call_Name_kw
abbrev Eu:=@Nat.not_lt_zero
abbrev Gu:=@List.mem_filterMap
abbrev Gf:=@List.filter_append
abbrev C1:=@Int.le_refl
abbrev GQ:=@Bool.false_eq_true
abbrev DY:=@List.map_map
abbrev GF:=@List.lookup_cons
abbrev Cr:=@wpAny_mono
abbrev Hs:=@List.replicate_succ
abbrev Hk:=@List.map_congr_left
abbrev Gq:=@List.length_range
abbrev Et:=@List.mem_range
abbrev Ms:=@List.drop_eq_getElem_cons
abbrev Gv:=@wpAny_isInstance
abbrev GX:=@List.filter_cons
abbrev JY:=@List.replicate_succ'
abbrev ND:=@List.getElem?_replicate
abbrev Ec:=@wpAny_typeOf
abbrev Hy:=@wpAny_pyIter_list
abbrev M6:=@wpAny_pyNext_list_item
abbrev M9:=@wpAny_pyNext_list_end
abbrev E4:=@Nat.sub_self
abbrev FH:=@Nat.le_of_lt
abbrev Gn:=@wpAny_seqItems
abbrev Dv:=@wpAny_call
abbrev N5:=@Option.isSome_iff_exists
abbrev Hn:=@List.length_nil
abbrev Hv:=@List.find?_cons
abbrev JP:=@List.Pairwise.nil
abbrev OH:=@Nat.toDigits_of_lt_base
abbrev GZ:=@Nat.lt_irrefl
abbrev Np:=@List.filter_cons_of_pos
abbrev Nj:=@List.filter_cons_of_neg
abbrev GP:=@List.cons.inj
abbrev Sf:=@wpAny_typeNameOfWhole_keyiter
abbrev JQ:=@List.any_eq_true
abbrev ES:=@wpAny_rule
end
abbrev UJ:List PySem.Str:=["web","labels","place","entry"]
abbrev NW:List PySem.Str:=["self","one","other"]
abbrev TX:List PySem.Str:=["web","one","other"]
abbrev NX:List PySem.Str:=["_law_script"]
abbrev NU:List PySem.Str:=["one","other"]
abbrev Vm:List PySem.Str:=["hub","long","up","down"]
abbrev K0:List PySem.Str:=["n","thing"]
abbrev GI:List PySem.Str:=["place"]
namespace L2
open PySem PySem.Spec PyProof.Rows
meta def defArgs (s:Stmt):Arguments:=match s with
 | .FunctionDef _ a _ _ _ _ _ _ _ _=>a
 | _=>{ posonlyargs:=[],args:=[],vararg:=none,kwonlyargs:=[],kw_defaults:=[],kwarg:=none,defaults:=[] }
meta def defBody (s:Stmt):List Stmt:=match s with
 | .FunctionDef _ _ b _ _ _ _ _ _ _=>b
 | _=>[]
meta def defScope (s:Stmt):Scope:=match s with
 | .FunctionDef _ _ _ _ _ _ sc _ _ _=>sc
 | _=>{ kind:=.function,names:=[],isGenerator:=false,isCoroutine:=false }
end L2
namespace L2
section
open PySem PySem.W PyProof.Rows
def Ri (p:Program)(w:World)(o:Nat)(ann:Option Value):Nat->SharedT->Thread->Option SharedT
 | 0,_,_=>none
 | n+1,s,t=>match through t with
  | true=>some s
  | false=>match Fast.tw6613529449190102663 o ann t with
   | false=>none
   | true=>match Fast.tw10156331382660048174 (Fast.tw11892475500146522536 Fast.tw14364793385576792824) p w s t with
    | some (s',t')=>Ri p w o ann n s' t'
    | none=>none
def Yg :∀{n:Nat}{s o:SharedT}{t:Thread},Ri p w n₀ ann n s t=some o->topRun treeTable p w n₀ ann n s.abs t=some o.abs
 | 0,_,_,_,h=>by cases h
 | n+1,s,o,t,h=>by
  unfold Ri at h;rw[<-Fast.te6613529449190102663,<-Fast.te10156331382660048174,<-Fast.te11892475500146522536,<-Fast.te14364793385576792824] at h;unfold topRun;cases he:through t with
  | true=>rw[he] at h;cases h;rfl
  | false=>
   rw[he] at h;cases U:stepOk n₀ ann t with
   | false=>rw[U] at h;cases h
   | true=>
    rw[U] at h;cases C:stepT (denote treeTable) p w s t with
    | none=>rw[C] at h;cases h
    | some r=>let{J,I}:=r;rw[C] at h;rw[stepT_spec C];show Yg h
meta def bt:List Obj->Nat->BT->BT
 | [],_,t=>t
 | o::l,i,t=>bt l (i+1) (t.ins i o)
def bT (P:Params):BT:=bt (boot_heap P).objs.toList 0 .nil
def bS (w:World)(os:OsState):SharedT:={bT w.params,(boot_heap w.params).objs.size,(boot_heap w.params).life,Array.mk [],boot_drawn,boot_toks,os}
def bA (w)(os:OsState):(bS w os).abs={boot_heap w.params,Array.mk [],boot_drawn,boot_toks,os}:=by kernel_rfl
abbrev Xe (p:Program)(N:Nat)(w:World)(os:OsState):Option SharedT:=Ri p w (boot_heap w.params).objs.size ((boot_heap w.params).nsMap mainGlobals "__annotations__") N (bS w os) (topStub p)
meta abbrev Qf (p:Program)(h h':Heap)(s:Shared):Bool:=staticsOk (importedModules p.main.body) h h' && namesBound p h' && gensDone s && laidKept h h'
def left_of (e:opening p=plainProg p.main.scope.names)(o:Nat.ble 600 N=true)(f:∀s,fenceModules? p s=some s)
 (h:∀w os,(Xe p N w os).map (λs=>(Qf p (boot_heap w.params) s.abs.heap s.abs,Fast.tw4187177175401517315 q loose (importedModules p.main.body) Xt true s.abs,Yf s.abs))=some (true,openGood q loose,Ya w)):LeftO p q loose Xt Yf Ya N:=by
 intro w;let{{h0,C,d,k,os},J,I}:=Option.map_eq_some_iff.mp (boot_open e o f w);obtain⟨rfl,rfl,rfl,rfl⟩:h0=boot_heap w.params/\C=Array.mk []/\d=boot_drawn/\k=boot_toks:=by simpa using I
 let{s,r,a}:=Option.map_eq_some_iff.mp (h w os);let{b,a}:=Prod.mk.inj a;rw[<-Fast.te4187177175401517315] at a;let y:=Yg r;rw[bA] at y;unfold openEnds;rw[J];change (topFrom treeTable p w N _).map _=_;unfold topFrom;let z:((boot_heap w.params).isNs mainGlobals && (Array.mk []:Array GenState).size==0)=true:=by kernel_rfl
 dsimp only;rw[z];dsimp only;rw[y];change Option.map _ (match Qf p (boot_heap w.params) s.abs.heap s.abs with | true=>some s.abs | false=>none)=_
 rw[b];show congrArg some a
end
end L2
namespace K73
open PySem L2
meta def top (i:Nat):Stmt:=PySem.Challenge.pw_labelways_k73_whole_desks.main.body.getD i (.Pass ⟨0,0,0,0⟩)
meta def mth (k i:Nat):Stmt:=match top k with
 | .ClassDef _ _ _ body ..=>body.getD i (.Pass ⟨0,0,0,0⟩)
 | _=>.Pass ⟨0,0,0,0⟩
meta abbrev sT:String->Str:=Str.ofString
meta abbrev kH:=PyData.keyHash
meta abbrev dE:=DictEntry.mk
meta abbrev vS:=Value.str
meta abbrev vI:=Value.int
meta abbrev vR:=Value.ref
meta abbrev vB:=Value.bool
meta abbrev vN:Value:=Value.none
meta abbrev vT:=Value.type
meta abbrev oM:=Obj.mk
meta abbrev cQ (x:Array Value):Obj:=oM (vT "code") .none (.fields x) #[]
meta abbrev fQ (x:FuncData):Obj:=oM (vT "function") .none (.func x) #[]
meta abbrev fT (x:String)(i:Nat)(m:Value)(c:Nat):Obj:=fQ (.mk (sT x) (sT x) (L2.defArgs (top i)) (FuncBody.stmts (L2.defBody (top i))) (L2.defScope (top i)) 3 [] vN vN vN m .none (vR c) vN 0)
meta abbrev qS (x:String)(n:Nat):Value:=vS (sT x) n
meta abbrev qC (n:Nat):Value:=qS "/claim/cut.py" n
meta abbrev cA (x:String)(a:Nat)(l q:Int)(p:Nat)(n:Int)(m:Nat):Obj:=cQ #[qS x a,qS x (a+1),qC (a+2),vI l 0,vI q 0,vI 0 0,vI 0 0,vI 3 0,vR p,vB true,vI 181 0,vR (p+1),vN,vR (p+2),vR (p+3),vR (p+4),vI n 0,vI l 0,qC m]
meta abbrev cB (x:String)(a:Nat)(l q:Int)(p:Nat)(n:Int)(m:Nat):Obj:=cQ #[qS x a,qS x (a+1),qC (a+2),vI l 0,vI q 0,vI 0 0,vI 0 0,vI 3 0,vR p,vB true,vI 181 0,vR (p+1),vN,vN,vN,vR (p+2),vI n 0,vI l 0,qC m]
meta abbrev Bj:=qS "labelways.keeper" 660
meta abbrev CG:=qS "labelways.labels" 367
meta abbrev Ci:=qS "labelways.checker" 489
meta abbrev Cg:=qS "labelways.labeltexts" 787
meta abbrev Co:=qS "labelways.webtexts" 869
meta abbrev DU:=qS "labelways.desk" 957
meta abbrev Dp:=qS "labelways.kinds" 309
meta abbrev Em:=qS "labelways.orders" 616
meta abbrev GK:=qS "labelways.lengths" 574
meta abbrev NY:=qS "labelways.webs" 451
meta abbrev qL:=qS "law_labelways_k73_whole_desks" 1064
meta abbrev kE (P:Params)(x:String)(n:Nat):Value->DictEntry:=dE (kH P (sT x)) (qS x n)
meta def Kf:Params->PySem.W.Frag:=λP=>[
(2,oM vN .none (Data.dict #[]) #[]),
(3,oM (vT "dict") .none (Data.dict #[kE P "__name__" 165 qL,kE P "__doc__" 166 vN,kE P "__package__" 167 vN,kE P "__loader__" 168 (Value.builtin "__main__.__loader__#opaque"),kE P "__spec__" 169 vN,kE P "__annotations__" 170 (vR 6),kE P "__builtins__" 171 (vR 4),kE P "__file__" 173 (qC 172),kE P "__cached__" 174 vN,kE P "WayError" 206 (vR 24),kE P "NoLabels" 233 (vR 44),kE P "NoText" 260 (vR 63),kE P "NoOrder" 276 (vR 75),kE P "NoTie" 292 (vR 87),kE P "NoRow" 308 (vR 99),kE P "FIGURES" 312 (qS "0123456789" 311),kE P "is_number" 319 (vR 108),kE P "is_within" 328 (vR 115),kE P "is_tuple_of" 336 (vR 122),kE P "is_rising" 342 (vR 127),kE P "is_place" 350 (vR 134),kE P "number_in" 360 (vR 141),kE P "is_written" 366 (vR 146),kE P "is_label" 374 (vR 151),kE P "is_entry" 382 (vR 158),kE P "are_labels" 388 (vR 163),kE P "own_place" 394 (vR 168),kE P "told" 402 (vR 175),kE P "told_hub" 410 (vR 182),kE P "least_sum" 416 (vR 187),kE P "entry_of" 425 (vR 194),kE P "far_entries" 431 (vR 199),kE P "next_step" 440 (vR 206),kE P "walk" 450 (vR 213),kE P "MOST_PLACES" 454 (vI 24 453),kE P "MOST_TIES" 456 (vI 60 455),kE P "MOST_LONG" 458 (vI 99 457),kE P "is_long" 465 (vR 220),kE P "ties_at" 477 (vR 227),kE P "long_of" 488 (vR 234),kE P "lets_labels" 498 (vR 241),kE P "refuse_at" 506 (vR 248),kE P "own_fault" 515 (vR 255),kE P "up_fault" 525 (vR 262),kE P "is_up_right" 537 (vR 269),kE P "tie_fault" 543 (vR 274),kE P "grows_too_much" 552 (vR 281),kE P "down_fault" 562 (vR 288),kE P "is_down_right" 573 (vR 295),kE P "lengths" 581 (vR 300),kE P "lengths_from" 595 (vR 307),kE P "nearest" 603 (vR 314),kE P "between_rows" 609 (vR 319),kE P "next_by_row" 615 (vR 324),kE P "is_order" 623 (vR 329),kE P "by_order" 629 (vR 334),kE P "label_by_ranks" 635 (vR 339),kE P "is_hub" 641 (vR 344),kE P "entry_by_rows" 653 (vR 351),kE P "total" 659 (vR 356),kE P "Keeper" 750 (vR 420),kE P "with_tie" 761 (vR 431),kE P "without_tie" 771 (vR 438),kE P "pair_of" 780 (vR 445),kE P "ties_but" 786 (vR 450),kE P "MOST_WRITTEN_LONG" 790 (vI 999999999999 789),kE P "label_line" 796 (vR 455),kE P "entry_word" 802 (vR 460),kE P "number_word" 809 (vR 467),kE P "read_labels" 815 (vR 472),kE P "read_label" 829 (vR 479),kE P "entry_in" 841 (vR 486),kE P "own_entry" 850 (vR 493),kE P "far_entry" 862 (vR 500),kE P "has_own_place" 868 (vR 505),kE P "web_lines" 876 (vR 510),kE P "read_web" 887 (vR 517),kE P "read_count" 896 (vR 524),kE P "read_tie" 910 (vR 531),kE P "least_a" 917 (vR 538),kE P "least_b" 925 (vR 545),kE P "words_of" 935 (vR 552),kE P "number_at" 947 (vR 559),kE P "refuse_more" 956 (vR 566),kE P "CHECK" 960 (qS "check " 959),kE P "MOST_IN_A_ROW" 962 (vI 9999 961),kE P "COUNTS" 987 (vR 567),kE P "Desk" 1027 (vR 591),kE P "checked" 1037 (vR 602),kE P "numbers_behind" 1043 (vR 607),kE P "is_row" 1051 (vR 614),kE P "answer" 1057 (vR 619),kE P "places_line" 1063 (vR 624),kE P "_law_feed" 1072 (vR 631),kE P "_law_take" 1084 (vR 638),kE P "_law_web" 1090 (vR 643),kE P "_law_rows" 1096 (vR 648),kE P "_law_order" 1106 (vR 655),kE P "_law_row_web" 1118 (vR 662),kE P "_law_hubs" 1124 (vR 667),kE P "_law_long" 1130 (vR 672),kE P "_law_way_right" 1136 (vR 677),kE P "_law_lines" 1142 (vR 682),kE P "_law_labels_right" 1148 (vR 687),kE P "_law_lines_right" 1154 (vR 692),kE P "_law_turned" 1160 (vR 697),kE P "law" 1166 (vR 702)] 107) #[]),
(25,oM (vT "getset_descriptor") .none (Data.fields #[qS "__weakref__" 202,vR 24,Value.builtin "ExceptionGroup.__weakref__",vN]) #[]),
(107,cA "is_number" 313 22 1 102 317 318),
(108,fT "is_number" 9 Dp 107),
(114,cA "is_within" 320 24 3 109 326 327),
(115,fT "is_within" 10 Dp 114),
(121,cA "is_tuple_of" 329 26 2 116 334 335),
(122,fT "is_tuple_of" 11 Dp 121),
(126,cB "is_rising" 337 28 1 123 340 341),
(127,fT "is_rising" 12 Dp 126),
(133,cA "is_place" 343 30 2 128 348 349),
(134,fT "is_place" 13 Dp 133),
(140,cA "number_in" 351 32 3 135 358 359),
(141,fT "number_in" 14 Dp 140),
(145,cB "is_written" 361 37 1 142 364 365),
(146,fT "is_written" 15 Dp 145),
(150,cB "is_label" 369 42 2 147 372 373),
(151,fT "is_label" 17 CG 150),
(157,cA "is_entry" 375 49 2 152 380 381),
(158,fT "is_entry" 18 CG 157),
(162,cB "are_labels" 383 57 2 159 386 387),
(163,fT "are_labels" 19 CG 162),
(167,cB "own_place" 389 59 1 164 392 393),
(168,fT "own_place" 20 CG 167),
(174,cA "told" 395 61 2 169 400 401),
(175,fT "told" 21 CG 174),
(181,cA "told_hub" 403 63 2 176 408 409),
(182,fT "told_hub" 22 CG 181),
(186,cB "least_sum" 411 65 2 183 414 415),
(187,fT "least_sum" 23 CG 186),
(193,cA "entry_of" 417 69 2 188 423 424),
(194,fT "entry_of" 24 CG 193),
(198,cB "far_entries" 426 74 1 195 429 430),
(199,fT "far_entries" 25 CG 198),
(205,cA "next_step" 432 79 2 200 438 439),
(206,fT "next_step" 26 CG 205),
(212,cA "walk" 441 86 3 207 448 449),
(213,fT "walk" 27 CG 212),
(219,cA "is_long" 459 97 1 214 463 464),
(220,fT "is_long" 32 NY 219),
(226,cA "ties_at" 466 99 2 221 475 476),
(227,fT "ties_at" 33 NY 226),
(233,cA "long_of" 478 107 3 228 486 487),
(234,fT "long_of" 34 NY 233),
(240,cA "lets_labels" 491 113 2 235 496 497),
(241,fT "lets_labels" 36 Ci 240),
(247,cA "refuse_at" 499 121 2 242 504 505),
(248,fT "refuse_at" 37 Ci 247),
(254,cA "own_fault" 507 124 1 249 513 514),
(255,fT "own_fault" 38 Ci 254),
(261,cA "up_fault" 516 129 2 256 523 524),
(262,fT "up_fault" 39 Ci 261),
(268,cA "is_up_right" 526 134 4 263 535 536),
(269,fT "is_up_right" 40 Ci 268),
(273,cB "tie_fault" 538 138 2 270 541 542),
(274,fT "tie_fault" 41 Ci 273),
(280,cA "grows_too_much" 544 146 3 275 550 551),
(281,fT "grows_too_much" 42 Ci 280),
(287,cA "down_fault" 553 150 2 282 560 561),
(288,fT "down_fault" 43 Ci 287),
(294,cA "is_down_right" 563 155 4 289 571 572),
(295,fT "is_down_right" 44 Ci 294),
(299,cB "lengths" 576 159 1 296 579 580),
(300,fT "lengths" 46 GK 299),
(306,cA "lengths_from" 582 161 2 301 593 594),
(307,fT "lengths_from" 47 GK 306),
(313,cA "nearest" 596 172 1 308 601 602),
(314,fT "nearest" 48 GK 313),
(318,cB "between_rows" 604 174 3 315 607 608),
(319,fT "between_rows" 49 GK 318),
(323,cB "next_by_row" 610 179 3 320 613 614),
(324,fT "next_by_row" 50 GK 323),
(328,cB "is_order" 618 184 2 325 621 622),
(329,fT "is_order" 52 Em 328),
(333,cB "by_order" 624 189 2 330 627 628),
(334,fT "by_order" 53 Em 333),
(338,cB "label_by_ranks" 630 195 4 335 633 634),
(339,fT "label_by_ranks" 54 Em 338),
(343,cB "is_hub" 636 198 4 340 639 640),
(344,fT "is_hub" 55 Em 343),
(350,cA "entry_by_rows" 642 202 4 345 651 652),
(351,fT "entry_by_rows" 56 Em 350),
(355,cB "total" 654 206 1 352 657 658),
(356,fT "total" 57 Em 355),
(369,cQ #[qS "__init__" 674,qS "Keeper.__init__" 675,qC 676,vI 211 0,vI 3 0,vI 0 0,vI 0 0,vI 3 0,vR 364,vB true,vI 181 0,vR 365,vN,vR 366,vR 367,vR 368,vI 680 0,vI 211 0,qC 681]),
(370,fQ (.mk (sT "__init__") (sT "Keeper.__init__") (L2.defArgs (mth 59 0)) (FuncBody.stmts (L2.defBody (mth 59 0))) (L2.defScope (mth 59 0)) 3 [] vN vN vN Bj .none (vR 369) vN 0)),
(376,cQ #[qS "put" 683,qS "Keeper.put" 684,qC 685,vI 216 0,vI 4 0,vI 0 0,vI 0 0,vI 3 0,vR 371,vB true,vI 181 0,vR 372,vN,vR 373,vR 374,vR 375,vI 690 0,vI 216 0,qC 691]),
(377,fQ (.mk (sT "put") (sT "Keeper.put") (L2.defArgs (mth 59 1)) (FuncBody.stmts (L2.defBody (mth 59 1))) (L2.defScope (mth 59 1)) 3 [] vN vN vN Bj .none (vR 376) vN 0)),
(383,cQ #[qS "strike" 693,qS "Keeper.strike" 694,qC 695,vI 219 0,vI 3 0,vI 0 0,vI 0 0,vI 3 0,vR 378,vB true,vI 181 0,vR 379,vN,vR 380,vR 381,vR 382,vI 699 0,vI 219 0,qC 700]),
(384,fQ (.mk (sT "strike") (sT "Keeper.strike") (L2.defArgs (mth 59 2)) (FuncBody.stmts (L2.defBody (mth 59 2))) (L2.defScope (mth 59 2)) 3 [] vN vN vN Bj .none (vR 383) vN 0)),
(388,cQ #[qS "turn_to" 702,qS "Keeper.turn_to" 703,qC 704,vI 222 0,vI 2 0,vI 0 0,vI 0 0,vI 3 0,vR 385,vB true,vI 181 0,vR 386,vN,vN,vN,vR 387,vI 705 0,vI 222 0,qC 706]),
(389,fQ (.mk (sT "turn_to") (sT "Keeper.turn_to") (L2.defArgs (mth 59 3)) (FuncBody.stmts (L2.defBody (mth 59 3))) (L2.defScope (mth 59 3)) 3 [] vN vN vN Bj .none (vR 388) vN 0)),
(395,cQ #[qS "web_now" 708,qS "Keeper.web_now" 709,qC 710,vI 228 0,vI 1 0,vI 0 0,vI 0 0,vI 3 0,vR 390,vB true,vI 181 0,vR 391,vN,vR 392,vR 393,vR 394,vI 712 0,vI 228 0,qC 713]),
(396,fQ (.mk (sT "web_now") (sT "Keeper.web_now") (L2.defArgs (mth 59 4)) (FuncBody.stmts (L2.defBody (mth 59 4))) (L2.defScope (mth 59 4)) 3 [] vN vN vN Bj .none (vR 395) vN 0)),
(402,cQ #[qS "labels_now" 715,qS "Keeper.labels_now" 716,qC 717,vI 231 0,vI 1 0,vI 0 0,vI 0 0,vI 3 0,vR 397,vB true,vI 181 0,vR 398,vN,vR 399,vR 400,vR 401,vI 719 0,vI 231 0,qC 720]),
(403,fQ (.mk (sT "labels_now") (sT "Keeper.labels_now") (L2.defArgs (mth 59 5)) (FuncBody.stmts (L2.defBody (mth 59 5))) (L2.defScope (mth 59 5)) 3 [] vN vN vN Bj .none (vR 402) vN 0)),
(409,cQ #[qS "length_of" 722,qS "Keeper.length_of" 723,qC 724,vI 234 0,vI 3 0,vI 0 0,vI 0 0,vI 3 0,vR 404,vB true,vI 181 0,vR 405,vN,vR 406,vR 407,vR 408,vI 728 0,vI 234 0,qC 729]),
(410,fQ (.mk (sT "length_of") (sT "Keeper.length_of") (L2.defArgs (mth 59 6)) (FuncBody.stmts (L2.defBody (mth 59 6))) (L2.defScope (mth 59 6)) 3 [] vN vN vN Bj .none (vR 409) vN 0)),
(416,cQ #[qS "step_of" 731,qS "Keeper.step_of" 732,qC 733,vI 237 0,vI 3 0,vI 0 0,vI 0 0,vI 3 0,vR 411,vB true,vI 181 0,vR 412,vN,vR 413,vR 414,vR 415,vI 737 0,vI 237 0,qC 738]),
(417,fQ (.mk (sT "step_of") (sT "Keeper.step_of") (L2.defArgs (mth 59 7)) (FuncBody.stmts (L2.defBody (mth 59 7))) (L2.defScope (mth 59 7)) 3 [] vN vN vN Bj .none (vR 416) vN 0)),
(419,oM (vT "dict") .none (Data.dict #[kE P "__module__" 669 Bj,kE P "__firstlineno__" 673 (vI 209 672),kE P "__init__" 682 (vR 370),kE P "put" 692 (vR 377),kE P "strike" 701 (vR 384),kE P "turn_to" 707 (vR 389),kE P "web_now" 714 (vR 396),kE P "labels_now" 721 (vR 403),kE P "length_of" 730 (vR 410),kE P "step_of" 739 (vR 417),kE P "__static_attributes__" 743 (vR 418),kE P "__dict__" 745 (vR 421),kE P "__weakref__" 747 (vR 422),kE P "__doc__" 748 vN] 4) #[]),
(420,oM (vT "type") .none (Data.cls (ClassData.mk (sT "Keeper") [vT "object"] [vR 420,vT "object"] 419 (sT "Keeper") true [] [] false .none false)) #[.none,.none,.some (qS "Keeper" 662),.some (qS "Keeper" 670),.some (Value.builtin "object.__new__"),.some (vB true)]),
(421,oM (vT "getset_descriptor") .none (Data.fields #[qS "__dict__" 744,vR 420,Value.builtin "function.__dict__",Value.builtin "function.__dict__#set"]) #[]),
(422,oM (vT "getset_descriptor") .none (Data.fields #[qS "__weakref__" 746,vR 420,Value.builtin "ExceptionGroup.__weakref__",vN]) #[]),
(430,cA "with_tie" 751 239 4 425 759 760),
(431,fT "with_tie" 60 Bj 430),
(437,cA "without_tie" 762 246 3 432 769 770),
(438,fT "without_tie" 61 Bj 437),
(444,cA "pair_of" 772 251 3 439 778 779),
(445,fT "pair_of" 62 Bj 444),
(449,cB "ties_but" 781 255 2 446 784 785),
(450,fT "ties_but" 63 Bj 449),
(454,cB "label_line" 791 259 1 451 794 795),
(455,fT "label_line" 66 Cg 454),
(459,cB "entry_word" 797 261 1 456 800 801),
(460,fT "entry_word" 67 Cg 459),
(466,cA "number_word" 803 263 1 461 807 808),
(467,fT "number_word" 68 Cg 466),
(471,cB "read_labels" 810 265 1 468 813 814),
(472,fT "read_labels" 69 Cg 471),
(478,cA "read_label" 816 269 3 473 827 828),
(479,fT "read_label" 70 Cg 478),
(485,cA "entry_in" 830 282 3 480 839 840),
(486,fT "entry_in" 71 Cg 485),
(492,cA "own_entry" 842 293 3 487 848 849),
(493,fT "own_entry" 72 Cg 492),
(499,cA "far_entry" 851 297 4 494 860 861),
(500,fT "far_entry" 73 Cg 499),
(504,cB "has_own_place" 863 303 1 501 866 867),
(505,fT "has_own_place" 74 Cg 504),
(509,cB "web_lines" 871 306 1 506 874 875),
(510,fT "web_lines" 76 Co 509),
(516,cA "read_web" 877 309 1 511 885 886),
(517,fT "read_web" 77 Co 516),
(523,cA "read_count" 888 319 1 518 894 895),
(524,fT "read_count" 78 Co 523),
(530,cA "read_tie" 897 324 4 525 908 909),
(531,fT "read_tie" 79 Co 530),
(537,cA "least_a" 911 331 1 532 915 916),
(538,fT "least_a" 80 Co 537),
(544,cA "least_b" 918 333 2 539 923 924),
(545,fT "least_b" 81 Co 544),
(551,cA "words_of" 926 337 3 546 933 934),
(552,fT "words_of" 82 Co 551),
(558,cA "number_at" 936 342 5 553 945 946),
(559,fT "number_at" 83 Co 558),
(565,cA "refuse_more" 948 347 3 560 954 955),
(566,fT "refuse_more" 84 Co 565),
(567,oM (vT "dict") .none (Data.dict #[kE P "put" 963 (vI 3 964),kE P "strike" 965 (vI 2 966),kE P "told" 967 (vI 2 968),kE P "step" 969 (vI 2 970),kE P "walk" 971 (vI 2 972),kE P "label" 973 (vI 1 974),kE P "total" 975 (vI 0 976),kE P "web" 977 (vI 0 978)] 8) #[]),
(580,cQ #[qS "__init__" 1000,qS "Desk.__init__" 1001,qC 1002,vI 356 0,vI 2 0,vI 0 0,vI 0 0,vI 3 0,vR 575,vB true,vI 181 0,vR 576,vN,vR 577,vR 578,vR 579,vI 1006 0,vI 356 0,qC 1007]),
(581,fQ (.mk (sT "__init__") (sT "Desk.__init__") (L2.defArgs (mth 89 0)) (FuncBody.stmts (L2.defBody (mth 89 0))) (L2.defScope (mth 89 0)) 3 [] vN vN vN DU .none (vR 580) vN 0)),
(587,cQ #[qS "say" 1009,qS "Desk.say" 1010,qC 1011,vI 360 0,vI 2 0,vI 0 0,vI 0 0,vI 3 0,vR 582,vB true,vI 181 0,vR 583,vN,vR 584,vR 585,vR 586,vI 1016 0,vI 360 0,qC 1017]),
(588,fQ (.mk (sT "say") (sT "Desk.say") (L2.defArgs (mth 89 1)) (FuncBody.stmts (L2.defBody (mth 89 1))) (L2.defScope (mth 89 1)) 3 [] vN vN vN DU .none (vR 587) vN 0)),
(590,oM (vT "dict") .none (Data.dict #[kE P "__module__" 995 DU,kE P "__firstlineno__" 999 (vI 354 998),kE P "__init__" 1008 (vR 581),kE P "say" 1018 (vR 588),kE P "__static_attributes__" 1020 (vR 589),kE P "__dict__" 1022 (vR 592),kE P "__weakref__" 1024 (vR 593),kE P "__doc__" 1025 vN] 4) #[]),
(591,oM (vT "type") .none (Data.cls (ClassData.mk (sT "Desk") [vT "object"] [vR 591,vT "object"] 590 (sT "Desk") true [] [] false .none false)) #[.none,.none,.some (qS "Desk" 988),.some (qS "Desk" 996),.some (Value.builtin "object.__new__"),.some (vB true)]),
(592,oM (vT "getset_descriptor") .none (Data.fields #[qS "__dict__" 1021,vR 591,Value.builtin "function.__dict__",Value.builtin "function.__dict__#set"]) #[]),
(593,oM (vT "getset_descriptor") .none (Data.fields #[qS "__weakref__" 1023,vR 591,Value.builtin "ExceptionGroup.__weakref__",vN]) #[]),
(601,cA "checked" 1028 369 2 596 1035 1036),
(602,fT "checked" 90 DU 601),
(606,cB "numbers_behind" 1038 376 1 603 1041 1042),
(607,fT "numbers_behind" 91 DU 606),
(613,cA "is_row" 1044 381 2 608 1049 1050),
(614,fT "is_row" 92 DU 613),
(618,cB "answer" 1052 387 3 615 1055 1056),
(619,fT "answer" 93 DU 618),
(623,cB "places_line" 1058 405 1 620 1061 1062),
(624,fT "places_line" 94 DU 623),
(630,cA "_law_feed" 1066 408 1 625 1070 1071),
(631,fT "_law_feed" 96 qL 630),
(637,cA "_law_take" 1073 410 2 632 1082 1083),
(638,fT "_law_take" 97 qL 637),
(642,cB "_law_web" 1085 424 2 639 1088 1089),
(643,fT "_law_web" 98 qL 642),
(647,cB "_law_rows" 1091 436 1 644 1094 1095),
(648,fT "_law_rows" 99 qL 647),
(654,cA "_law_order" 1097 447 2 649 1104 1105),
(655,fT "_law_order" 100 qL 654),
(661,cA "_law_row_web" 1107 453 1 656 1116 1117),
(662,fT "_law_row_web" 101 qL 661),
(666,cB "_law_hubs" 1119 460 3 663 1122 1123),
(667,fT "_law_hubs" 102 qL 666),
(671,cB "_law_long" 1125 469 3 668 1128 1129),
(672,fT "_law_long" 103 qL 671),
(676,cB "_law_way_right" 1131 472 4 673 1134 1135),
(677,fT "_law_way_right" 104 qL 676),
(681,cB "_law_lines" 1137 485 2 678 1140 1141),
(682,fT "_law_lines" 105 qL 681),
(686,cB "_law_labels_right" 1143 487 3 683 1146 1147),
(687,fT "_law_labels_right" 106 qL 686),
(691,cB "_law_lines_right" 1149 495 2 688 1152 1153),
(692,fT "_law_lines_right" 107 qL 691),
(696,cB "_law_turned" 1155 499 3 693 1158 1159),
(697,fT "_law_turned" 108 qL 696),
(701,cB "law" 1161 517 1 698 1164 1165),
(702,fT "law" 109 qL 701)]
meta def Ka:List Addr:=[2,3,25,107,108,114,115,121,122,126,127,133,134,140,141,145,146,150,151,157,158,162,163,167,168,174,175,181,182,186,187,193,194,198,199,205,206,212,213,219,220,226,227,233,234,240,241,247,248,254,255,261,262,268,269,273,274,280,281,287,288,294,295,299,300,306,307,313,314,318,319,323,324,328,329,333,334,338,339,343,344,350,351,355,356,369,370,376,377,383,384,388,389,395,396,402,403,409,410,416,417,419,420,421,422,430,431,437,438,444,445,449,450,454,455,459,460,466,467,471,472,478,479,485,486,492,493,499,500,504,505,509,510,516,517,523,524,530,531,537,538,544,545,551,552,558,559,565,566,567,580,581,587,588,590,591,592,593,601,602,606,607,613,614,618,619,623,624,630,631,637,638,642,643,647,648,654,655,661,662,666,667,671,672,676,677,681,682,686,687,691,692,696,697,701,702]
meta abbrev pw:Program:=PySem.Challenge.pw_labelways_k73_whole_desks
meta def Vp:Program:={ pw with main:={ pw.main with body:=[top 1,top 2,top 3,top 4,top 5,top 6,top 8,top 9,top 10,top 11,top 12,top 13,top 14,top 15,top 17,top 18,top 19,top 20,top 21,top 22,top 23,top 24,top 25,top 26,top 27,top 29,top 30,top 31,top 32,top 33,top 34,top 36,top 37,top 38,top 39,top 40,top 41,top 42,top 43,top 44,top 46,top 47,top 48,top 49,top 50,top 52,top 53,top 54,top 55,top 56,top 57,top 59,top 60,top 61,top 62,top 63,top 65,top 66,top 67,top 68,top 69,top 70,top 71,top 72,top 73,top 74,top 76,top 77,top 78,top 79,top 80,top 81,top 82,top 83,top 84,top 86,top 87,top 88,top 89,top 90,top 91,top 92,top 93,top 94,top 96,top 97,top 98,top 99,top 100,top 101,top 102,top 103,top 104,top 105,top 106,top 107,top 108,top 109] } }
meta abbrev RR:PySem.W.RowW:=PySem.W.OpenRow.toRowW (PySem.Challenge.rw_labelways_k73_whole_desks).row
meta abbrev LZ:List Str:=["COUNTS"]
def Ke:∀P,Ka=(Kf P).map (·.1):=λP=>by kernel_rfl
abbrev HK:PySem.W.Hook:=PySem.W.kHook Kf Ka Ke
def fin_ {A B C D E F G I J:Type}{U β γ:Type}{o:Option U}{T:U->A×B×C×D×E×List F×G×I×J}{c:U->β}{h:U->γ}{a b d e f g i j k y z}(p:o.map (λs=>((T s).1,(T s).2.1))=some (a,b))(q:o.map (λs=>(T s).2.2.1)=some d)(q2:o.map (λs=>(T s).2.2.2.1)=some e)(r:o.map (λs=>((T s).2.2.2.2.1,(T s).2.2.2.2.2.2.2))=some (f,(j,k)))(u:o.map (fun s=>(T s).2.2.2.2.2.1)=some g)(u2:o.map (λs=>(T s).2.2.2.2.2.2.1)=some i)(v:o.map (λs=>(c s,h s))=some (y,z)):o.map (λs=>(c s,T s,h s))=some (y,(a,b,d,e,f,g,i,j,k),z):=by
 cases o with
 | none=>cases p
 | some s=>
  let e2:(T s).2.2.2.2.2.2.2=(j,k):=congrArg Prod.snd (Option.some.inj r)
  let e3:(T s).2.2.2.2.2.1=g:=Option.some.inj u
  cases p;cases q;cases q2;cases u2;cases v
  let e1:(T s).2.2.2.2.1=f:=congrArg Prod.fst (Option.some.inj r)
  rw [← e1,← e2,← e3];rfl
section
open PySem PySem.W PyProof.Rows
abbrev F_ (b:Bool)(w:World):World:=w.withFollow "special-get-raises" b
abbrev TT_ (s:SharedT):=Fast.tw4187177175401517315 Vp LZ (importedModules pw.main.body) (λs=>xlAt Vp [] s && recOk (RowW.records RR) s) true s.abs
theorem l1_f (w:World)(os:OsState):(L2.Xe pw 9580 (F_ false w) os).map (fun s=>((TT_ s).1,(TT_ s).2.1))=some (expectedOf Vp,bltViewBooted):=by kernel_rfl
theorem l1_t (w:World)(os:OsState):(L2.Xe pw 9580 (F_ true w) os).map (fun s=>((TT_ s).1,(TT_ s).2.1))=some (expectedOf Vp,bltViewBooted):=by kernel_rfl
theorem l1_ (w:World):∀os,(L2.Xe pw 9580 w os).map (fun s=>((TT_ s).1,(TT_ s).2.1))=some (expectedOf Vp,bltViewBooted):=byRow2 "special-get-raises" (P:=fun w=>∀os,(L2.Xe pw 9580 w os).map (fun s=>((TT_ s).1,(TT_ s).2.1))=some (expectedOf Vp,bltViewBooted)) l1_f l1_t w
theorem l2_f (w:World)(os:OsState):(L2.Xe pw 9580 (F_ false w) os).map (fun s=>((TT_ s).2.2.1))=some (true):=by kernel_rfl
theorem l2_t (w:World)(os:OsState):(L2.Xe pw 9580 (F_ true w) os).map (fun s=>((TT_ s).2.2.1))=some (true):=by kernel_rfl
theorem l2_ (w:World):∀os,(L2.Xe pw 9580 w os).map (fun s=>((TT_ s).2.2.1))=some (true):=byRow2 "special-get-raises" (P:=fun w=>∀os,(L2.Xe pw 9580 w os).map (fun s=>((TT_ s).2.2.1))=some (true)) l2_f l2_t w
theorem l6_f (w:World)(os:OsState):(L2.Xe pw 9580 (F_ false w) os).map (fun s=>((TT_ s).2.2.2.1))=some (true):=by kernel_rfl
theorem l6_t (w:World)(os:OsState):(L2.Xe pw 9580 (F_ true w) os).map (fun s=>((TT_ s).2.2.2.1))=some (true):=by kernel_rfl
theorem l6_ (w:World):∀os,(L2.Xe pw 9580 w os).map (fun s=>((TT_ s).2.2.2.1))=some (true):=byRow2 "special-get-raises" (P:=fun w=>∀os,(L2.Xe pw 9580 w os).map (fun s=>((TT_ s).2.2.2.1))=some (true)) l6_f l6_t w
theorem l3_f (w:World)(os:OsState):(L2.Xe pw 9580 (F_ false w) os).map (fun s=>((TT_ s).2.2.2.2.1,(TT_ s).2.2.2.2.2.2.2))=some (pinGoodD (drecsOf Vp),(wideGood Vp,clsGoodW Vp LZ)):=by kernel_rfl
theorem l3_t (w:World)(os:OsState):(L2.Xe pw 9580 (F_ true w) os).map (fun s=>((TT_ s).2.2.2.2.1,(TT_ s).2.2.2.2.2.2.2))=some (pinGoodD (drecsOf Vp),(wideGood Vp,clsGoodW Vp LZ)):=by kernel_rfl
theorem l3_ (w:World):∀os,(L2.Xe pw 9580 w os).map (fun s=>((TT_ s).2.2.2.2.1,(TT_ s).2.2.2.2.2.2.2))=some (pinGoodD (drecsOf Vp),(wideGood Vp,clsGoodW Vp LZ)):=byRow2 "special-get-raises" (P:=fun w=>∀os,(L2.Xe pw 9580 w os).map (fun s=>((TT_ s).2.2.2.2.1,(TT_ s).2.2.2.2.2.2.2))=some (pinGoodD (drecsOf Vp),(wideGood Vp,clsGoodW Vp LZ))) l3_f l3_t w
theorem l4_f (w:World)(os:OsState):(L2.Xe pw 9580 (F_ false w) os).map (fun s=>Fast.tw2386780881361962483 Vp LZ s.abs)=some (plainGoodE Vp LZ):=by kernel_rfl
theorem l4_t (w:World)(os:OsState):(L2.Xe pw 9580 (F_ true w) os).map (fun s=>Fast.tw2386780881361962483 Vp LZ s.abs)=some (plainGoodE Vp LZ):=by kernel_rfl
theorem l4_ (w:World):∀os,(L2.Xe pw 9580 w os).map (fun s=>Fast.tw2386780881361962483 Vp LZ s.abs)=some (plainGoodE Vp LZ):=byRow2 "special-get-raises" (P:=fun w=>∀os,(L2.Xe pw 9580 w os).map (fun s=>Fast.tw2386780881361962483 Vp LZ s.abs)=some (plainGoodE Vp LZ)) l4_f l4_t w
theorem lz_:Fast.tw821141287760084731 Vp LZ=LZ:=by kernel_rfl
theorem ly_:looseW Vp LZ=LZ:=by kernel_rfl
theorem cg_ {α β:Type}{o:Option α}{f:List Str->α->β}{g:List Str->β}{L M N:List Str}(e:L=N)(e':M=N)(h:o.map (f N)=some (g N)):o.map (f L)=some (g M):=by subst e;subst e';exact h
theorem l9_ (w:World)(os:OsState):(L2.Xe pw 9580 w os).map (fun s=>Fast.tw2386780881361962483 Vp (Fast.tw821141287760084731 Vp LZ) s.abs)=some (plainGoodE Vp (looseW Vp LZ)):=@cg_ _ _ (L2.Xe pw 9580 w os) (fun L s=>Fast.tw2386780881361962483 Vp L s.abs) (fun L=>plainGoodE Vp L) (Fast.tw821141287760084731 Vp LZ) (looseW Vp LZ) LZ lz_ ly_ (l4_ w os)
theorem lx_:(fun s:SharedT=>(TT_ s).2.2.2.2.2.1)=fun s=>Fast.tw2386780881361962483 Vp (Fast.tw821141287760084731 Vp LZ) s.abs:=by kernel_rfl
theorem cf_ {α β:Type}{o:Option α}{f g:α->β}{y}(e:f=g)(h:o.map g=y):o.map f=y:=by subst e;exact h
theorem l8_ (w:World)(os:OsState):(L2.Xe pw 9580 w os).map (fun s=>(TT_ s).2.2.2.2.2.1)=some (plainGoodE Vp (looseW Vp LZ)):=@cf_ _ _ (L2.Xe pw 9580 w os) (fun s:SharedT=>(TT_ s).2.2.2.2.2.1) (fun s=>Fast.tw2386780881361962483 Vp (Fast.tw821141287760084731 Vp LZ) s.abs) (some (plainGoodE Vp (looseW Vp LZ))) lx_ (l9_ w os)
theorem l7_f (w:World)(os:OsState):(L2.Xe pw 9580 (F_ false w) os).map (fun s=>((TT_ s).2.2.2.2.2.2.1))=some (plainGoodD Vp LZ):=by kernel_rfl
theorem l7_t (w:World)(os:OsState):(L2.Xe pw 9580 (F_ true w) os).map (fun s=>((TT_ s).2.2.2.2.2.2.1))=some (plainGoodD Vp LZ):=by kernel_rfl
theorem l7_ (w:World):∀os,(L2.Xe pw 9580 w os).map (fun s=>((TT_ s).2.2.2.2.2.2.1))=some (plainGoodD Vp LZ):=byRow2 "special-get-raises" (P:=fun w=>∀os,(L2.Xe pw 9580 w os).map (fun s=>((TT_ s).2.2.2.2.2.2.1))=some (plainGoodD Vp LZ)) l7_f l7_t w
theorem l5_f (w:World)(os:OsState):(L2.Xe pw 9580 (F_ false w) os).map (fun s=>(L2.Qf pw (boot_heap (F_ false w).params) s.abs.heap s.abs,Hook.obs HK s.abs))=some (true,Hook.val HK (F_ false w)):=by kernel_rfl
theorem l5_t (w:World)(os:OsState):(L2.Xe pw 9580 (F_ true w) os).map (fun s=>(L2.Qf pw (boot_heap (F_ true w).params) s.abs.heap s.abs,Hook.obs HK s.abs))=some (true,Hook.val HK (F_ true w)):=by kernel_rfl
theorem l5_ (w:World):∀os,(L2.Xe pw 9580 w os).map (fun s=>(L2.Qf pw (boot_heap w.params) s.abs.heap s.abs,Hook.obs HK s.abs))=some (true,Hook.val HK w):=byRow2 "special-get-raises" (P:=fun w=>∀os,(L2.Xe pw 9580 w os).map (fun s=>(L2.Qf pw (boot_heap w.params) s.abs.heap s.abs,Hook.obs HK s.abs))=some (true,Hook.val HK w)) l5_f l5_t w
end
theorem left:PySem.W.LeftO pw Vp LZ (fun s=>PySem.W.xlAt Vp [] s && PySem.W.recOk (PySem.W.RowW.records RR) s) (PySem.W.Hook.obs HK) (PySem.W.Hook.val HK) 9580:=L2.left_of (by kernel_rfl) (by decide) (fun _=>rfl) fun w os=>fin_ (l1_ w os) (l2_ w os) (l6_ w os) (l3_ w os) (l8_ w os) (l7_ w os) (l5_ w os)
theorem wS:PySem.Challenge.rw_labelways_k73_whole_desks.wellSaid=true:=by decide +kernel
end K73
abbrev Dq:=PySem.Value->PySem.Shared->Prop
abbrev Cc:=List (PySem.Addr×PySem.Obj)
abbrev CV:=List (List (Option Int))
abbrev Aj:=PySem.Str->Option PySem.Value
abbrev AG:=PySem.W.Frag
namespace L2
open PySem PySem.Spec PyProof.Rows
abbrev AS:=Sum Int Str
meta def Mx:AS->Value->Bool
 | .inl k,v=>Value.isInt k v
 | .inr x,v=>Value.isStrOf x v
meta def Xb (w:World):AS->Int
 | .inl k=>hashInt k
 | .inr x=>hashStr w x
def GY:∀{k:AS}{v:Value},Mx k v=true->(∃i t,k=Sum.inl i/\v=Value.int i t)\/(∃x t,k=Sum.inr x/\v=Value.str x t)
 | .inl i,v,h=>by let{t,e}:=Value.isInt_shape (k:=i) (v:=v) h;show .inl {i,t,0,e}
 | .inr x,v,h=>by let{t,e}:=Value.isStrOf_shape (x:=x) (v:=v) h;show .inr {x,t,0,e}
def jh (i)(t:Tok):Mx (.inl i) (.int i t)=true:=by simp[Mx,Value.isInt]
def Uc (x)(t:Tok):Mx (.inr x) (.str x t)=true:=by simp[Mx,Value.isStrOf]
def Jw (a b):decide ((Sum.inl a:AS)=Sum.inl b)=(a==b):=by
 by_cases e:a=b
 . subst e;simp
 . let h:¬ (Sum.inl a:AS)=Sum.inl b:=λq=>e (Sum.inl.inj q);rw[za h];show (beq_eq_false_iff_ne.mpr e).symm
def Jr (a b):decide ((Sum.inr a:AS)=Sum.inr b)=decide (a=b):=by
 by_cases e:a=b
 . subst e;simp
 . let h:¬ (Sum.inr a:AS)=Sum.inr b:=λq=>e (Sum.inr.inj q);rw[za h,za e]
def MM (a)(b):decide ((Sum.inl a:AS)=Sum.inr b)=false:=za (λq=>nomatch q)
def Kh (a)(b):decide ((Sum.inr a:AS)=Sum.inl b)=false:=za (λq=>nomatch q)
meta def BC (prog:Program)(w:World):PySem.KeyKind prog w AS where
 is:=Mx
 hash:=Xb w
 inj:=λv a b J C=>by
  rcases GY J with ⟨i,t,rfl,rfl⟩ | ⟨x,t,rfl,rfl⟩
  . rcases GY C with ⟨j,u,rfl,e⟩ | ⟨y,u,rfl,e⟩
    . injection e with e1 _;rw[e1]
    . show nomatch e
  . rcases GY C with ⟨j,u,rfl,e⟩ | ⟨y,u,rfl,e⟩
    . show nomatch e
    . injection e with e1 _;rw[e1]
 byValue:=λk v h=>by rcases GY h with ⟨i,t,rfl,rfl⟩ | ⟨x,t,rfl,rfl⟩ <;> rfl
 pyHash:=λo h=>by
  rcases GY o with ⟨i,t,rfl,rfl⟩ | ⟨x,t,rfl,rfl⟩
  . show wpAny_pyHash_int h
  . show wpAny_pyHash_str h
 eqBool:=λI o h=>by
  rcases GY I with ⟨i,t,rfl,rfl⟩ | ⟨x,t,rfl,rfl⟩
  . rcases GY o with ⟨j,u,rfl,rfl⟩ | ⟨y,u,rfl,rfl⟩
    . rw[Jw] at h;show wpAny_eqBool_int h
    . rw[MM] at h;show SeqAt.EqAt.int_str i t y u _ _ _ _ h
  . rcases GY o with ⟨j,u,rfl,rfl⟩ | ⟨y,u,rfl,rfl⟩
    . rw[Kh] at h;show SeqAt.EqAt.str_int x t j u _ _ _ _ h
    . rw[Jr] at h;show wpAny_eqBool_str h
 «strs» := λk x t v h=>by
  rcases GY h with ⟨i,u,rfl,e⟩ | ⟨y,u,rfl,e⟩
  . show nomatch e
  . injection e with e1 _;subst e1;cases v <;> rfl
def d9 (prog)(w)(i)(t:Tok):(BC prog w).is (.inl i) (.int i t)=true:=jh i t
def f7 (prog)(w)(x)(t:Tok):(BC prog w).is (.inr x) (.str x t)=true:=Uc x t
inductive V where
 | non | bl (b:Bool) | int (i:Int) | str (x:Str) | byt (b:Array UInt8) | flt (b:UInt64) | ref (a:Addr) | ty (n:String)
 deriving DecidableEq
def AR:V->Value->Prop
 | .non,u=>u=Value.none
 | .bl b,u=>u=Value.bool b
 | .int i,u=>∃t,u=Value.int i t
 | .str x,u=>∃t,u=Value.str x t
 | .byt b,u=>∃t,u=Value.bytes b t
 | .flt b,u=>∃t,u=Value.float b t
 | .ref a,u=>u=Value.ref a
 | .ty n,u=>u=Value.type n
abbrev AI:List V->List Value->Prop:=Paired AR
def AI.length (r:AI xs us):xs.length=us.length:=Paired.length r
def AI.get:∀{xs:List V}{us:List Value}{i:Nat}{x:V},AI xs us->xs[i]?=some x->∃u,us[i]?=some u/\AR x u
 | _,_,_,_,.nil,e=>by simp at e
 | _,_,0,_,.cons r _,e=>by simp at e;subst e;show{1,r}
 | _,_,i+1,x,.cons _ t,e=>by let{u,C,o}:=AI.get (i:=i) (x:=x) t (by simpa using e);show{u,by simpa using C,o}
def AI.set (r:AR x u):∀{xs:List V}{us:List Value}(i:Nat),AI xs us->AI (xs.set i x) (us.set i u)
 | _,_,_,.nil=>.nil
 | _,_,0,.cons _ t=>.cons r t
 | _,_,i+1,.cons q t=>.cons q (AI.set r i t)
def AI.append:∀{xs ys:List V}{us ws:List Value},AI xs us->AI ys ws->AI (xs++ys) (us++ws)
 | _,_,_,_,.nil,s=>s
 | _,_,_,_,.cons r t,s=>.cons r (AI.append t s)
def AI.take:∀{xs:List V}{us:List Value}(n:Nat),AI xs us->AI (xs.take n) (us.take n)
 | _,_,0,_=>.nil
 | _,_,_+1,.nil=>.nil
 | _,_,n+1,.cons r t=>.cons r (AI.take n t)
def AI.drop:∀{xs:List V}{us:List Value}(n:Nat),AI xs us->AI (xs.drop n) (us.drop n)
 | _,_,0,r=>r
 | _,_,_+1,.nil=>.nil
 | _,_,n+1,.cons _ t=>AI.drop n t
def CU:Option V->Option Value->Prop
 | some v,some u=>AR v u
 | none,none=>True
 | _,_=>False
def KV {κ:Type}:List (κ×V)->List (κ×Value)->Prop:=Paired λ(p:κ×V)(q:κ×Value)=>p.1=q.1/\AR p.2 q.2
meta def kV:AS->V
 | .inl i=>.int i
 | .inr x=>.str x
inductive HO where
 | lst (xs:List V)
 | tup (xs:List V)
 | dK (kR:List (AS×V)) | dT (kR:List (List AS×V))
 | set (S:Int->Bool)(n:Nat)
 | ins (C dx:Addr)(fs:List (Str×V))
 | own (x:Addr)
 | xd (fs:List (Str×V))
 | met (f x:Addr)
 | rng (lo hi:Int)
 | frz (o:Obj)(u:HO)
 | tbl (ps:Array Value)
 | ext (φ:Heap->Prop)
abbrev Hp:=Addr->Option HO
meta def upd (H:Hp)(a:Addr)(o:HO):Hp:=λb=>if b=a then some o else H b
def zF :upd H a o a=some o:=by unfold upd;rw[if_pos rfl]
def zg (h:b≠a):upd H a o b=H b:=by unfold upd;rw[if_neg h]
def Bp :upd (upd H a o) a u=upd H a u:=by funext b;unfold upd;split <;> rfl
def AJ {H:Hp}(h:H a=some o)(h':H b=some u)(d:o≠u):a≠b:=by intro e;subst e;rw[h] at h';show d (zT h')
def zp {H:Hp}(h:H a=some o)(h':H b=none):a≠b:=by intro e;subst e;rw[h] at h';cases h'
section
variable (P:Program)(w:World)
def BD (H:Hp)(h:Heap)(a:Addr):HO->Prop
 | .lst xs=>xs.length<=sizeLine/\∃(its:List Value)(n:Nat),AI xs its/\h.get? a=some { cls:=.type "list",data:=.seq its.toArray n }
 | .tup xs=>(xs.length<=sizeLine/\∃o,h.get? a=some o/\o.dict=none)/\∃its:List Value,AI xs its/\IsTup h a its.toArray
 | .dK kR=>kR.length<=sizeLine/\(a==sysModules)=false/\∃I,KV kR I/\h.DictOf (BC P w) a I
 | .dT kR=>kR.length<=sizeLine/\(a==sysModules)=false/\∃xs:List (List AS×Addr×Value),
  Paired (λ(p:List AS×V)(q:List AS×Addr×Value)=>p.1=q.1/\H q.2.1=some (.tup (p.1.map kV))/\AR p.2 q.2.2) kR xs /\
  ∃o es ep,h.get? a=some o/\o.ExactDict/\o.data=.dict es ep/\es.toList=xs.map (entryOfKey (tupleKind (BC P w)))/\(xs.map (·.1)).Nodup
 | .set S n=>h.SetOf (intKind P w) a S n
 | .ins C dx fs=>H dx=some (.own a)/\fs.length<=1000/\dx≠a/\h.get? a=some (PySem.W.instObj C dx) /\
  ∃mA,h.Ns1 dx mA/\(∀f,CU (fs.lookup f) (mA f))/\PySem.Within mA (fs.map (·.1))
 | .own _=>∃o,h.get? a=some o
 | .xd fs=>∃mA,h.Ns1 a mA/\∀f,CU (fs.lookup f) (mA f)
 | .rng lo hi=>∃t u v,h.get? a=some { cls:=.type "range",data:=.fields #[.int lo t,.int hi u,.int 1 v] }
 | .frz o u=>h.get? a=some o/\BD H h a u
 | .tbl ps=>h.get? a=some { cls:=.none,data:=.fields ps }
 | .met f x=>h.get? a=some (PySem.W.methodObj (.ref f) (.ref x))
 | .ext φ=>φ h/\(∃o,h.get? a=some o)/\∀U J:Heap,φ U->(∀o,U.get? a=some o->J.get? a=some o)->φ J
def BF (H:Hp)(h:Heap):Prop:=∀a o,H a=some o->BD P w H h a o
end
def BD.lt (x:BD P w H h a o):a<h.objs.size:=by
 cases o with
 | lst xs=>let{3,3,e}:=x;show zc e
 | tup xs=>let{_,3,p}:=x;show p.lt
 | dK I=>let{3,3,o,3,e,_}:=x;show zc e
 | dT I=>let{3,3,o,3,e,_}:=x;show zc e
 | set S n=>let{o,_,3,e,_}:=x;show zc e
 | ins C dx fs=>let{_,3,e,_}:=x;show zc e
 | own y=>let{_,e}:=x;show zc e
 | xd fs=>let{_,{_,3,e,_},_}:=x;show zc e
 | rng lo hi=>let{_,3,e}:=x;show zc e
 | frz ob u=>let{e,_}:=x;show zc e
 | tbl U=>show zc (show h.get? a=some _ from x)
 | met f y=>show zc (show h.get? a=some _ from x)
 | ext J=>let{_,{_,e},_}:=x;show zc e
def Paired.mapP :∀{l₁:List α}{l₂:List β},Paired F l₁ l₂->(∀a b,F a b->G a b)->Paired G l₁ l₂
 | _,_,.nil,_=>.nil
 | _,_,.cons r t,f=>.cons (f _ _ r) (Paired.mapP t f)
def BD.stay (x:BD P w H h a o)(k:∀b u,(b=a\/H b=some (.own a))->h.get? b=some u->h'.get? b=some u)
 (ho:∀b,H b=some (.own a)->H' b=some (.own a))(ht:∀b xs,H b=some (.tup xs)->H' b=some (.tup xs)):BD P w H' h' a o:=by
 induction o with
 | lst xs=>let{z,its,n,r,e}:=x;show{z,its,n,r,k _ _ (.inl rfl) e}
 | tup xs=>let{{z,o2,e2,d2},its,r,I,e,c}:=x;show{{z,o2,k _ _ (.inl rfl) e2,d2},its,r,I,k _ _ (.inl rfl) e,c}
 | dK kR=>let{z,y,vs,r,I,es,J,e,c}:=x;show{z,y,vs,r,I,es,J,k _ _ (.inl rfl) e,c}
 | dT kR=>let{z,y,xs,r,I,es,J,e,c}:=x;show{z,y,xs,Paired.mapP r λp q z=>{z.1,ht _ _ z.2.1,z.2.2},I,es,J,k _ _ (.inl rfl) e,c}
 | set S n=>let{I,es,J,t,e,c}:=x;show{I,es,J,t,k _ _ (.inl rfl) e,c}
 | ins C dx fs=>let{d,z,ne,e,mA,{U,es,J,e2,c},r}:=x;show{ho _ d,z,ne,k _ _ (.inl rfl) e,mA,{U,es,J,k _ _ (.inr d) e2,c},r}
 | own y=>let{I,e}:=x;show{I,k _ _ (.inl rfl) e}
 | xd fs=>let{mA,{U,es,J,e,c},r}:=x;show{mA,{U,es,J,k _ _ (.inl rfl) e,c},r}
 | rng lo hi=>let{t,u,v,e}:=x;show{t,u,v,k _ _ (.inl rfl) e}
 | frz I u ih=>let{e,q}:=x;show{k _ _ (.inl rfl) e,ih q}
 | tbl ps=>have e:h.get? a=some { cls:=.none,data:=.fields ps }:=x;change h'.get? a=some { cls:=.none,data:=.fields ps };show k a _ (.inl rfl) e
 | met f y=>have e:h.get? a=some (PySem.W.methodObj (.ref f) (.ref y)):=x;change h'.get? a=some (PySem.W.methodObj (.ref f) (.ref y));show k a _ (.inl rfl) e
 | ext φ=>let{p,{o,e},st}:=x;show{st _ _ p λo q=>k _ _ (.inl rfl) q,{o,k _ _ (.inl rfl) e},st}
def BF.lt (x:BF P w H h)(e:H a=some o):a<h.objs.size:=(x a o e).lt
def BF.fresh (x:BF P w H h)(e:h.objs.size<=a):H a=none:=by
 cases q:H a with
 | none=>rfl
 | some u=>show absurd (zv (x.lt q) e) (GZ _)
def BF.kept (x:BF P w H h)(k:∀b u,h.get? b=some u->h'.get? b=some u):BF P w H h':=λa o e=>
 (x a o e).stay (λb u _ q=>k b u q) (λ_ q=>q) λ_ _ q=>q
def BF.laid (x:BF P w H h)(k:∀b u,h.get? b=some u->h'.get? b=some u)(J:h.objs.size<=a)(new:BD P w (upd H a o) h' a o):BF P w (upd H a o) h':=λb u e=>by
 let C:=x.fresh J;by_cases I:b=a
 . subst I;rw[zF] at e;cases e;show new
 . rw[zg I] at e;show (x b u e).stay (λc v _ q=>k c v q) (λc q=>by rwa[zg (zp q C)]) λc xs q=>by rwa[zg (zp q C)]
def Rd (H:Hp)(a:Addr)(u:HO):Prop:=H a=some u\/∃o,H a=some (.frz o u)
def Rd.ok (r:Rd H a u)(x:BF P w H h):BD P w H h a u:=by
 rcases r with r | ⟨o,r⟩
 . show x a u r
 . let{_,q}:=x a _ r;show q
def Ob:Option HO->Prop
 | some (.lst _)=>True
 | some (.dK _)=>True
 | some (.dT _)=>True
 | some (.set _ _)=>True
 | some (.ins _ _ _)=>True
 | some (.ext _)=>True
 | _=>False
def BF.write (ok:BF P w H h)(mu:Ob (H x))(he:e=x\/H e=some (.own x))(k:∀b u,b≠e->h.get? b=some u->h'.get? b=some u)(oO:∃u,h'.get? e=some u)
 (new:BD P w (upd H x o') h' x o'):BF P w (upd H x o') h':=λb u q=>by
 let C:∀c y,H c=some (.own y)->c≠x:=λc y r z=>by subst z;rwa[r] at mu
 let I:∀c xs,H c=some (.tup xs)->c≠x:=λc xs r z=>by subst z;rwa[r] at mu
 by_cases J:b=x
 . subst J;rw[zF] at q;cases q;show new
 . rw[zg J] at q;by_cases o:b=e
   . let U:H b=some (.own x):=by
      rcases he with z | z
      . show absurd (o.trans z) J
      . rwa[o]
     rw[q] at U;cases U;let{v,hv}:=oO;show{v,by rwa[o]}
   . show (ok b u q).stay (λc v hc r=>k c v ?_ r) (λc r=>by rwa[zg (C c b r)]) λc xs r=>by rwa[zg (I c xs r)]
     rcases hc with rfl | hc
     . show o
     . rintro rfl;rcases he with z | z
       . show C c b hc z
       . rw[hc] at z;cases z;show J rfl
structure Un (fs ex:List Addr)(H H':Hp)(h h':Heap):Prop where
 keep:∀b o,h.get? b=some o->H b=none->b∉fs->b∉ex->h'.get? b=some o
 slot:∀b o,h.get? b=some o->H b=none->b∈fs->b∉ex->∃sl,h'.get? b=some { o with slots:=sl }
 free:∀b o,h.get? b=some o->H b=none->b∉ex->H' b=none
 there:∀b o,h.get? b=some o->b∉ex->∃o',h'.get? b=some o'
 tups:∀b xs,H b=some (.tup xs)->H' b=some (.tup xs)
 frzs:∀b o u,H b=some (.frz o u)->H' b=some (.frz o u)
 tbls:∀b ps,H b=some (.tbl ps)->∃more,H' b=some (.tbl (ps++more))
def Un.any (u:Un fs ex H H1 h h1)(q:h.get? b=some ob)(n:H b=none)(o:b∉ex):∃I,h1.get? b=some { ob with slots:=I }:=by
 by_cases C:b∈fs
 . show u.slot b ob q n C o
 . show{ob.slots,u.keep b ob q n C o}
def Un.kept (k:∀b u,h.get? b=some u->h'.get? b=some u):Un fs ex H H h h':=
 {λb o q _ _ _=>k b o q,λb o q _ _ _=>{o.slots,k b o q},λ_ _ _ n _=>n,λb o q _=>{o,k b o q},λ_ _ q=>q,λ_ _ _ q=>q,λ_ C q=>{#[],by rw[q];simp}}
def Un.refl:Un fs ex H H h h:=Un.kept λ_ _ q=>q
def Un.laid (k:∀b u,h.get? b=some u->h'.get? b=some u)(I:h.objs.size<=a)(C:H a=none):Un fs ex H (upd H a o) h h' where
 keep:=λb u q _ _ _=>k b u q
 slot:=λb u q _ _ _=>{u.slots,k b u q}
 free:=λb u q n _=>by rwa[zg (zh (zv (zc q) I))]
 there:=λb u q _=>{u,k b u q}
 tups:=λb xs q=>by rwa[zg (zp q C)]
 frzs:=λb u xs q=>by rwa[zg (zp q C)]
 tbls:=λb J q=>{#[],by rw[zg (zp q C),q];simp}
def Un.write (I:Ob (H x))(he:e=x\/H e=some (.own x))(k:∀b u,b≠e->h.get? b=some u->h'.get? b=some u)(oO:∃u,h'.get? e=some u):Un fs ex H (upd H x o) h h':=by
 let J:∀b,H b=none->b≠x:=λb n z=>by subst z;rwa[n] at I
 let U:∀b,H b=none->b≠e:=λb n z=>by
  subst z;rcases he with r | r
  . show J b n r
  . rw[n] at r;cases r
 let hm:∀b u,H b=some u->¬ Ob (some u)->b≠x:=λb u q nm z=>by subst z;rw[q] at I;show nm I
 show{λb u q n _ _=>k b u (U b n) q,λb u q n _ _=>{u.slots,k b u (U b n) q},λb u q n _=>by rwa[zg (J b n)],λb u q _=>?_,
  λb xs q=>by rwa[zg (hm b _ q λz=>z)],λb u xs q=>by rwa[zg (hm b _ q λz=>z)],λb ps q=>{#[],by rw[zg (hm b _ q λz=>z),q];simp}}
 by_cases C:b=e
 . subst C;show oO
 . show{u,k b u C q}
meta def Ta (h:Heap)(H:Hp):List Addr:=(List.range h.objs.size).filter λa=>(H a).isSome
meta def GA (h:Heap)(H:Hp):Heap:=PySem.W.hideAll h (Ta h H)
def jF (h)(H):(GA h H).objs.size=h.objs.size:=PySem.W.hideAll_size _ _
def jq (e:h.get? b=some o)(n:H b=none):(GA h H).get? b=some o:=
 PySem.W.hideAll_get _ e λhm=>by let q:(H b).isSome=true:=(CZ.mp hm).2;rw[n] at q;simp at q
def ju (e:(GA h H).get? b=some o):h.get? b=some o/\H b=none:=by
 let C:h.get? b=some o:=PySem.W.of_hideAll (Ta h H) e;show{C,?_};cases q:H b with
 | none=>rfl
 | some x=>have hm:b∈Ta h H:=CZ.mpr {Et.mpr (zc C),by simp[q]};let z:(GA h H).get? b=none:=PySem.W.hideAll_none (Ta h H) hm;rw[z] at e;cases e
meta def OE (g h:Heap)(L:Addr):List (Addr×Obj):=(List.range h.objs.size).filterMap λa=>if a=L\/(g.get? a).isSome=true then none else (h.get? a).map λo=>(a,o)
def jI (J:a≠L)(I:g.get? a=none)(C:h.get? a=some o):(a,o)∈OE g h L:=
 Gu.mpr {a,Et.mpr (zc C),by simp[J,I,C]}
def jo (C:p∈OE g h L):p.1≠L/\g.get? p.1=none/\h.get? p.1=some p.2:=by
 let{b,_,e}:=Gu.mp C;split at e
 . cases e
 . rename_i o
   cases q:h.get? b with
   | none=>rw[q] at e;simp at e
   | some u=>
    rw[q] at e;simp only[EC,Option.some.injEq] at e;subst e;show{λz=>o (.inl z),?_,q};change g.get? b=none;cases r:g.get? b with
    | none=>rfl
    | some v=>show (o (.inr (by simp[r]))).elim
def gO :News g L h (OE g h L):=λp o=>let ⟨a,b,c⟩:=jo o;⟨c,a,b⟩
structure Mod (K:AG)(mg:Aj)(base:Heap):Prop where
 kin:K.In base
 glob:base.Ns mainGlobals mg
 blt:∃mb,base.Ns builtinsNs mb/\∀x:Str,x ≠ "__name__"->mb x=bootBuiltins x
 nolimit:base.NoLimit
structure Cx where
 prog:Program
 w:World
 K:AG
 mg:Str->Option Value
 base:Heap
 A:Around
 N:List Str
 s₀:Shared
 H₀:Hp
 env:Env
 outer:List Env
 stack:List Env
 ex:List Addr
 fn:Str->Bool
 calm:Bool
 pn:List (Addr×Obj)
 xe:Value->Shared->Prop
meta def DR (l:List Env):List Addr:=l.filterMap (·.frame)
meta abbrev Cx.fs (X:Cx):List Addr:=DR X.outer
def XG (sc:Scope)(x:Str):Prop:=sc.names.lookup x=some .local\/sc.names.lookup x=some .cell\/sc.names.lookup x=some .free
def G6 (sc:Scope)(x:Str):Prop:=sc.names.lookup x=some .local\/sc.names.lookup x=some .cell
def FD (env:Env)(h:Heap)(m:Aj)(x:Str)(u:Value):Prop:=
 (env.kindOf x=some .local/\m x=some u)\/((env.kindOf x=some .cell\/env.kindOf x=some .free)/\∃c,env.cells.lookup x=some c/\h.IsCell c (some u))
structure Cx.Ok (X:Cx):Prop where
 mod:Mod X.K X.mg X.base
 kind:X.env.scope.kind=.function
 glob:X.env.globals=mainGlobals
 blt:X.env.builtins=builtinsNs
 above:X.s₀.heap.objs.size<=X.env.locals
 inj:∀x y c,X.env.cells.lookup x=some c->X.env.cells.lookup y=some c->x=y
 has:∀x,(X.env.kindOf x=some .cell\/X.env.kindOf x=some .free)->∃c,X.env.cells.lookup x=some c
 cab:∀x c,X.fn x=true->X.env.cells.lookup x=some c->X.s₀.heap.objs.size<=c
 hd:X.calm=true->X.A.handled=none
 frames:X.A.frames=some X.stack
 stk:X.stack=X.outer\/(X.stack=X.env::X.outer/\X.env.frame=some X.env.locals)
 exf:∀b∈X.ex,b≠X.env.locals/\∀x c,X.env.cells.lookup x=some c->c≠b
 bs:∀b o,X.base.get? b=some o->X.s₀.heap.get? b=some o/\X.H₀ b=none
 bsz:X.base.objs.size<=X.s₀.heap.objs.size
 noex:∀b o,X.base.get? b=some o->b∉X.ex
 exfs:∀b∈X.ex,b∉X.fs
 funs:X.s₀.heap.FunFrames X.base X.outer
 frf:∀b∈X.fs,X.H₀ b=none
structure AB (X:Cx)(pins:Cc)(σ:List (Option V))(H:Hp)(s:Shared):Prop where
 ok:X.Ok
 os:s.os=X.s₀.os
 bare:AllBare s.gens
 base:Un X.fs X.ex X.H₀ H X.s₀.heap s.heap
 loc:∃m,s.heap.Ns X.env.locals m/\∀(i:Nat)(x:Str)(v:V),X.N[i]?=some x->σ[i]?=some (some v)->XG X.env.scope x->∃u,AR v u/\FD X.env s.heap m x u
 cell:∀x c,X.env.cells.lookup x=some c->∃v,s.heap.IsCell c v
 free:H X.env.locals=none
 freeC:∀x c,X.env.cells.lookup x=some c->H c=none
 pin:∀p∈X.pn++pins,s.heap.get? p.1=some p.2/\H p.1=none/\p.1≠X.env.locals/\p.1∉X.fs/\∀v,p.2.data ≠ .cell v
 hok:BF X.prog X.w H s.heap
 len:σ.length=X.N.length
section
variable {X:Cx}{pins:Cc}{σ:List (Option V)}{H H':Hp}{s:Shared}{h':Heap}
def Cx.Ok.nofr (ok:X.Ok)(e:X.base.get? b=some o):b∉X.fs:=λC=>by let:=(ok.funs.mem C).1;rw[e] at this;cases this
def AB.bs (I:AB X pins σ H s):∀b o,X.base.get? b=some o->s.heap.get? b=some o/\H b=none:=λb o e=>
 {I.base.keep b o (I.ok.bs b o e).1 (I.ok.bs b o e).2 (I.ok.nofr e) (I.ok.noex b o e),I.base.free b o (I.ok.bs b o e).1 (I.ok.bs b o e).2 (I.ok.noex b o e)}
def AB.bk (I:AB X pins σ H s):∀b o,X.base.get? b=some o->s.heap.get? b=some o:=λb o e=>(I.bs b o e).1
def AB.mod (I:AB X pins σ H s):Mod X.K X.mg X.base:=I.ok.mod
def AB.kIn (I:AB X pins σ H s):X.K.In s.heap:=I.ok.mod.kin.keeps I.bk
def AB.fr (I:AB X pins σ H s):∃m,Fr X.base X.env.locals s.heap m:=
 let {m,o,_}:=I.loc
 {m,o,I.bk,zn I.ok.bsz I.ok.above}
def AB.lt (I:AB X pins σ H s):X.env.locals<s.heap.objs.size:=let {_,o,_}:=I.loc;o.lt
def AB.sz (I:AB X pins σ H s):X.s₀.heap.objs.size<=s.heap.objs.size:=zn I.ok.above (FH I.lt)
def AB.nofs (I:AB X pins σ H s)(h:s.heap.objs.size<=a):a∉X.fs:=λJ=>by let{_,o,C,_}:=I.ok.funs.mem J;show absurd (zv (zc C) (zn I.sz h)) (GZ _)
def AB.cne (I:AB X pins σ H s):∀x c,X.env.cells.lookup x=some c->c≠X.env.locals:=λx c e z=>by let{v,o,U,hd}:=I.cell x c e;let{m,{o',es,ep,C,J,_},_}:=I.loc;rw[z,C] at U;cases U;rw[J] at hd;cases hd
def AB.funs (I:AB X pins σ H s):s.heap.FunFrames X.base X.outer:=by
 let all:∀(l:List Env),(∀b∈DR l,b∈X.fs)->X.s₀.heap.FunFrames X.base l->s.heap.FunFrames X.base l:=by
  intro l
  induction l with
  | nil=>intro _ _;trivial
  | cons env r ih=>intro U hl;let{hk,{L,o,hf,hn,ho,hd},hr}:=hl;let J:L∈X.fs:=U L (by unfold DR;rw[List.filterMap_cons,hf];show zo);let{sl,e}:=I.base.slot L o ho (I.ok.frf L J) J λz=>I.ok.exfs L z J;show{hk,{L,_,hf,hn,e,hd},ih (λb C=>U b (by unfold DR;rw[List.filterMap_cons,hf];show zr _ C)) hr}
 show all X.outer (λ_ C=>C) I.ok.funs
def AB.stack (I:AB X pins σ H s):s.heap.FunFrames X.base X.stack:=by
 rcases I.ok.stk with e | ⟨e,hf⟩
 . rw[e];show I.funs
 . rw[e];let{m,o,_}:=I.loc;show .cons (by rw[I.ok.kind];decide) hf o ?_ I.funs;show Heap.get?_none_of_le (zn I.ok.bsz I.ok.above)
def AB.stkSub (I:AB X pins σ H s):∀b∈DR X.stack,b∈X.env.locals::X.fs:=λb o=>by
 rcases I.ok.stk with e | ⟨e,hf⟩
 . rw[e] at o;show zr _ o
 . rw[e] at o;unfold DR at o;rwa[List.filterMap_cons,hf] at o
def AB.stkFree (I:AB X pins σ H s):∀b∈DR X.stack,H b=none:=λb hb=>by
 rcases zZ.mp (I.stkSub b hb) with e | hb
 . rw[e];show I.free
 . let{_,o,C,_}:=I.ok.funs.mem hb;show I.base.free b o C (I.ok.frf b hb) λz=>I.ok.exfs b z hb
def AB.step {ch:List Addr}(I:AB X pins σ H s)
 (nj:∀b∈ch,(b∈X.ex\/X.s₀.heap.objs.size<=b)/\b≠X.env.locals/\(∀x c,X.env.cells.lookup x=some c->c≠b)/\∀p∈X.pn++pins,p.1≠b)
 (keep:∀b o,b≠X.env.locals->b∉X.fs->b∉ch->s.heap.get? b=some o->H b=none->h'.get? b=some o)
 (slot:∀b o,b≠X.env.locals->b∈X.fs->b∉ch->s.heap.get? b=some o->H b=none->∃sl,h'.get? b=some { o with slots:=sl })(free:∀b o,b∉ch->s.heap.get? b=some o->H b=none->H' b=none)
 (there:∀b o,b∉ch->s.heap.get? b=some o->∃o',h'.get? b=some o')
 (tups:∀b xs,H b=some (.tup xs)->H' b=some (.tup xs))(frzs:∀b o u,H b=some (.frz o u)->H' b=some (.frz o u))(tbls:∀b ps,H b=some (.tbl ps)->∃more,H' b=some (.tbl (ps++more)))
 (ns:∀m,s.heap.Ns X.env.locals m->h'.Ns X.env.locals m)(hok:BF X.prog X.w H' h')(hg:AllBare g'):
 AB X pins σ H' { s with heap:=h',gens:=g',drawn:=d',toks:=t' }:=by
 let neL:∀b o,X.s₀.heap.get? b=some o->b≠X.env.locals:=λb o e=>zh (zv (zc e) I.ok.above);let U:∀b o,X.s₀.heap.get? b=some o->b∉X.ex->b∉ch:=λb o e C hb=>by
  rcases (nj b hb).1 with z | z
  . show C z
  . show absurd (zv (zc e) z) (GZ _)
 let cellK:∀x c,X.env.cells.lookup x=some c->∀v,s.heap.IsCell c v->h'.IsCell c v:=λx c e v ⟨o,ho,hd⟩=>by
  let J:c∉ch:=λz=>(nj c z).2.2.1 x c e rfl;by_cases hc:c∈X.fs
  . let{sl,q}:=slot c o (I.cne x c e) hc J ho (I.freeC x c e);show{_,q,hd}
  . show{o,keep c o (I.cne x c e) hc J ho (I.freeC x c e),hd}
 show{I.ok,I.os,hg,{λb o e n hb C=>?_,λb o e n hb C=>?_,λb o e n C=>?_,λb o e C=>?_,λb xs e=>tups b xs (I.base.tups b xs e),λb o xs e=>frzs b o xs (I.base.frzs b o xs e),λb ps e=>?_},?_,λx c e=>?_,?_,λx c e=>?_,λp hp=>?_,hok,I.len}
 . show keep b o (neL b o e) hb (U b o e C) (I.base.keep b o e n hb C) (I.base.free b o e n C)
 . let{sl,e1}:=I.base.slot b o e n hb C;let{sl',e2}:=slot b _ (neL b o e) hb (U b o e C) e1 (I.base.free b o e n C);show⟨sl',e2⟩
 . let{o',e1}:=I.base.there b o e C;show free b o' (U b o e C) e1 (I.base.free b o e n C)
 . let{o',e1}:=I.base.there b o e C;show there b o' (U b o e C) e1
 . let{m1,e1}:=I.base.tbls b ps e;let{m2,e2}:=tbls b _ e1;show{m1++m2,by rw[e2,Array.append_assoc]}
 . let{m,hn,hl}:=I.loc;show{m,ns m hn,λi x v e1 e2 e3=>?_};let{u,r,l}:=hl i x v e1 e2 e3;show{u,r,?_};rcases l with l | ⟨k,c,e,z⟩
   . show .inl l
   . show .inr {k,c,e,cellK x c e _ z}
 . let{v,z}:=I.cell x c e;show{v,cellK x c e v z}
 . let{m,{o,3,ho,_},_}:=I.loc;show free _ o (λz=>(nj _ z).2.1 rfl) ho I.free
 . let{v,o,ho,hd}:=I.cell x c e;show free c o (λz=>(nj c z).2.2.1 x c e rfl) ho (I.freeC x c e)
 . let{e,n,ne,nf,d}:=I.pin p hp;let J:p.1∉ch:=λz=>(nj p.1 z).2.2.2 p hp rfl;show{keep p.1 p.2 ne nf J e n,free p.1 p.2 J e n,ne,nf,d}
def AB.un (I:AB X pins σ H s)(u:Un X.fs [] H H' s.heap h')(J:BF X.prog X.w H' h'):AB X pins σ H' { s with heap:=h',toks:=t' }:=by
 let{m,{o,es,ep,ho,r},_}:=id I.loc;let{sl,hL}:=u.any ho I.free (by simp);show I.step (g':=s.gens) (d':=s.drawn) (ch:=[]) (λ_ z=>nomatch z) (λb o _ U _ e n=>u.keep b o e n U (by simp)) (λb o _ U _ e n=>u.slot b o e n U (by simp)) (λb o _ e n=>u.free b o e n (by simp)) (λb o _ e=>u.there b o e (by simp)) u.tups u.frzs u.tbls (λm' hm=>by let{o',nr,ep',C,r'}:=hm;rw[ho] at C;cases C;show{_,nr,ep',hL,r'}) J I.bare
def AB.call (I:AB X pins σ H s)(u:Un (DR X.stack) ch H H' s.heap h')(U:BF X.prog X.w H' h')(hg:AllBare g')
 (nj:∀b∈ch,(b∈X.ex\/X.s₀.heap.objs.size<=b)/\b≠X.env.locals/\(∀x c,X.env.cells.lookup x=some c->c≠b)/\∀p∈X.pn++pins,p.1≠b):
 AB X pins σ H' { s with heap:=h',gens:=g',drawn:=d',toks:=t' }:=by
 let{m,{o,es,ep,ho,r},_}:=id I.loc;let{sl,hL}:=u.any ho I.free λz=>(nj _ z).2.1 rfl;show I.step (ch:=ch) nj (λb o hL hb C e n=>u.keep b o e n (λz=>(zZ.mp (I.stkSub b z)).elim hL hb) C) (λb o _ _ C e n=>u.any e n C) (λb o C e n=>u.free b o e n C) (λb o C e=>u.there b o e C) u.tups u.frzs u.tbls (λm' hm=>by let{o',nr,ep',J,r'}:=hm;rw[ho] at J;cases J;show{_,nr,ep',hL,r'}) U hg
def AB.turned {t':Nat}{it:Addr}(I:AB X pins σ H s)(k:∀b o,b≠it->s.heap.get? b=some o->h'.get? b=some o)(hn:H it=none)(U:it≠X.env.locals)
 (h1:it∈X.ex\/X.s₀.heap.objs.size<=it)(h2:∀x c,X.env.cells.lookup x=some c->c≠it)(h3:∀p∈X.pn++pins,p.1≠it):AB X pins σ H { s with heap:=h',toks:=t' }:=by
 let J:∀b u,H b=some u->b≠it:=λb u e z=>by rw[z,hn] at e;cases e
 show I.step (g':=s.gens) (d':=s.drawn) (ch:=[it]) (λb hb=>?_) (λb o _ _ C e _=>k b o (λz=>C (by simp[z])) e) (λb o _ _ C e _=>{o.slots,k b o (λz=>C (by simp[z])) e}) (λ_ _ _ _ n=>n)
  (λb o C e=>{o,k b o (λz=>C (by simp[z])) e}) (λ_ _ e=>e) (λ_ _ _ e=>e) (λb ps e=>{#[],by rw[e];simp}) (λm hm=>?_) (λb u e=>?_) I.bare
 . let e:b=it:=by simpa using hb
   subst e;show⟨h1,U,h2,h3⟩
 . let{o,es,ep,ho,r}:=hm;show{o,es,ep,k _ o (Ne.symm U) ho,r}
 . show (I.hok b u e).stay (λc v C q=>k c v ?_ q) (λ_ q=>q) λ_ _ q=>q;rcases C with z | z
   . rw[z];show J b u e
   . show J c _ z
def AB.tok (I:AB X pins σ H s)(t):AB X pins σ H { s with toks:=t }:=I.un (h':=s.heap) (t':=t) Un.refl I.hok
def AB.kept (I:AB X pins σ H s)(k:∀b u,s.heap.get? b=some u->h'.get? b=some u):AB X pins σ H { s with heap:=h',toks:=t' }:=I.un (Un.kept k) (I.hok.kept k)
def AB.laid (I:AB X pins σ H s)(k:∀b u,s.heap.get? b=some u->h'.get? b=some u)(C:s.heap.objs.size<=a)(new:BD X.prog X.w (upd H a o) h' a o):
 AB X pins σ (upd H a o) { s with heap:=h',toks:=t' }:=I.un (Un.laid k C (I.hok.fresh C)) (I.hok.laid k C new)
def AB.write (I:AB X pins σ H s)(J:Ob (H x))(he:e=x\/H e=some (.own x))(k:∀b u,b≠e->s.heap.get? b=some u->h'.get? b=some u)(C:∃u,h'.get? e=some u)
 (new:BD X.prog X.w (upd H x o) h' x o):AB X pins σ (upd H x o) { s with heap:=h',toks:=t' }:=I.un (Un.write J he k C) (I.hok.write J he k C new)
def AB.weak (I:AB X pins σ H s)(J:σ'.length=σ.length)(w:∀(i:Nat) v,σ'[i]?=some (some v)->σ[i]?=some (some v)):AB X pins σ' H s:=
 ⟨I.ok,I.os,I.bare,I.base,let ⟨m,C,o⟩:=I.loc;{m,C,λi x v e1 e2 U=>o i x v e1 (w i v e2) U},I.cell,I.free,I.freeC,I.pin,I.hok,J.trans I.len⟩
def AB.pins_of (I:AB X pins σ H s)(h:∀p∈pins',s.heap.get? p.1=some p.2/\H p.1=none/\p.1≠X.env.locals/\p.1∉X.fs/\∀v,p.2.data ≠ .cell v):AB X pins' σ H s:=
 {I.ok,I.os,I.bare,I.base,I.loc,I.cell,I.free,I.freeC,λp o=>(Bu.mp o).elim (λz=>I.pin p (Gj _ z)) (h p),I.hok,I.len}
def YS {N:List Str}(o:N.Nodup){j:Nat}(a:N[i]?=some x)(b:N[j]?=some x):i=j:=by let{U,I}:=zH.mp a;let{J,C}:=zH.mp b;show (List.getElem_inj o).mp (I.trans C.symm)
def ji (I:AB X pins σ H s)(hN:X.N.Nodup)(hi:X.N[i]?=some x)(U:G6 X.env.scope x)(r:AR v u)
 (h:∀s',AB X pins (σ.set i (some v)) H s'->(∃a,Heap.SameBut a s.heap s'.heap/\(a=X.env.locals\/X.env.cells.lookup x=some a))->Q Unit.unit s')(hf:autoParam (X.fn x=true\/X.env.scope.names.lookup x=some .local) d_._auto_1):wpAny M A (storeName X.env x u) Q E s:=by
 let{m,hn,hl}:=id I.loc;let hcls:(X.env.scope.kind == .class || (X.env.scope.kind == .module && X.env.locals != X.env.globals))=false:=by rw[I.ok.kind];rfl
 let hiσ:i<σ.length:=by rw[I.len];show (zH.mp hi).1
 let cne:=I.cne;let tracked:∀{a:Addr}{h':Heap},(∃o,s.heap.get? a=some o/\H a=none)->Heap.SameBut a s.heap h'->BF X.prog X.w H h':=λ{a h'} ha C b ob e=>by
  let{3,mR}:=ha;show (I.hok b ob e).stay (λc w' hc q=>(C.2 c ?_).trans q) (λ_ q=>q) λ_ _ q=>q;rintro rfl;rcases hc with rfl | hc
  . rw[mR] at e;cases e
  . rw[mR] at hc;cases hc
 rcases U with hk | hk
 . show wpAny_storeName_local hk hn (λh' hn' C=>?_) hcls;let{oL,3,oJ,_}:=id hn;show h _ {I.ok,I.os,I.bare,{λb o e n hb U=>?_,λb o e n hb U=>?_,I.base.free,λb o e U=>?_,I.base.tups,I.base.frzs,I.base.tbls},{_,hn',λj y v' J e2 e3=>?_},λy c e=>?_,I.free,I.freeC,λp hp=>?_,tracked ⟨oL,oJ,I.free⟩ C,by simpa using I.len} {_,C,.inl rfl}
   . show (C.2 b (zh (zv (zc e) I.ok.above))).trans (I.base.keep b o e n hb U)
   . let{sl,J}:=I.base.slot b o e n hb U;show{sl,(C.2 b (zh (zv (zc e) I.ok.above))).trans J}
   . let{o',J}:=I.base.there b o e U;show{o',(C.2 b (zh (zv (zc e) I.ok.above))).trans J}
   . by_cases hj:j=i
     . subst hj;rw[hi] at J;cases J;rw[List.getElem?_set_self hiσ] at e2;cases e2;show{u,r,.inl {hk,by simp}}
     . rw[List.getElem?_set_ne (Ne.symm hj)] at e2;let{u',r',q}:=hl j y v' J e2 e3;show{u',r',?_};rcases q with ⟨k,e⟩ | ⟨k,c,e,z⟩
       . show .inl {k,?_};let:y≠x:=λe=>hj (YS hN J (e ▸ hi));simp[this,e]
       . show .inr {k,c,e,z.sameBut C (cne y c e)}
   . let{w',z}:=I.cell y c e;show{w',z.sameBut C (cne y c e)}
   . let{e,n,ne,nf,d}:=I.pin p hp;show{(C.2 p.1 ne).trans e,n,ne,nf,d}
 . let hfn:X.fn x=true:=by
    rcases hf with z | z
    . show z
    . rw[z] at hk;cases hk
   let{c,hc}:=I.ok.has x (.inl hk);let{w',z}:=I.cell x c hc;show wpAny_storeName_cell I.ok.kind hk hc z (λh' oF C=>?_);let{oc,hoc,hocd}:=id z;show h { s with heap:=h' } {I.ok,I.os,I.bare,{λb o e n hb U=>?_,λb o e n hb U=>?_,I.base.free,λb o e U=>?_,I.base.tups,I.base.frzs,I.base.tbls},{m,hn.sameBut C (Ne.symm (cne x c hc)),λj y v' J e2 e3=>?_},λy c' e=>?_,I.free,I.freeC,λp hp=>?_,tracked {oc,hoc,I.freeC x c hc} C,by simpa using I.len} {c,C,.inr hc}
   . show (C.2 b (zh (zv (zc e) (I.ok.cab x c hfn hc)))).trans (I.base.keep b o e n hb U)
   . let{sl,J}:=I.base.slot b o e n hb U;show{sl,(C.2 b (zh (zv (zc e) (I.ok.cab x c hfn hc)))).trans J}
   . let{o',J}:=I.base.there b o e U;show{o',(C.2 b (zh (zv (zc e) (I.ok.cab x c hfn hc)))).trans J}
   . by_cases hj:j=i
     . subst hj;rw[hi] at J;cases J;rw[List.getElem?_set_self hiσ] at e2;cases e2;show{u,r,.inr {.inl hk,c,hc,oF}}
     . rw[List.getElem?_set_ne (Ne.symm hj)] at e2;let{u',r',q}:=hl j y v' J e2 e3;show{u',r',?_};rcases q with q | ⟨k,c',e,z'⟩
       . show .inl q
       . show .inr {k,c',e,z'.sameBut C ?_};rintro rfl;show hj (YS hN J (I.ok.inj _ _ _ e hc ▸ hi))
   . by_cases hcc:c'=c
     . subst hcc;show{_,oF}
     . let{w2,z2}:=I.cell y c' e;show{w2,z2.sameBut C hcc}
   . let{e,n,ne,nf,d}:=I.pin p hp;show{(C.2 p.1 ?_).trans e,n,ne,nf,d};intro q;rw[q,hoc] at e;let q':oc=p.2:=zT e;show d w' (by rwa[<-q'])
def Rv (I:AB X pins σ H s)(J:X.N.Nodup)(hi:X.N[i]?=some x)(C:G6 X.env.scope x)(r:AR v u)
 (h:∀o,AB X pins (σ.set i (some v)) H o->Q Unit.unit o)(hf:autoParam (X.fn x=true\/X.env.scope.names.lookup x=some .local) d_._auto_1):wpAny M A (storeName X.env x u) Q E s:=
 ji I J hi C r (λo U _=>h o U) hf
def AB.call' (I:AB X pins σ H s)(U:s'.os=s.os)(u:Un (DR X.stack) ch H H' s.heap s'.heap)(o:BF X.prog X.w H' s'.heap)(hg:AllBare s'.gens)
 (J:∀b∈ch,(b∈X.ex\/X.s₀.heap.objs.size<=b)/\b≠X.env.locals/\(∀x c,X.env.cells.lookup x=some c->c≠b)/\∀p∈X.pn++pins,p.1≠b):AB X pins σ H' s':=by
 let{h',g',d',t',C}:=s';let e:C=s.os:=U;subst e;show I.call (g':=g') (t':=t') (d':=d') u o hg J
end
abbrev XK:=Value->Option Addr->Hp->Prop
abbrev St:=List (Option V)
abbrev VK:=V->Hp->Prop
abbrev TE:=St->Hp->VK->Prop
abbrev TT:=St->Hp->(Bool->Hp->Prop)->Prop
abbrev TA:=St->Hp->(List V->Hp->Prop)->Prop
structure EE where
 nx:St->Hp->Prop
 rt:VK
 bk:St->Hp->Prop:=λ_ _=>False
 ct:St->Hp->Prop:=λ_ _=>False
abbrev TS:=EE->St->Hp->Prop
def EP (X:Cx)(pins:Cc)(σ:St)(Q:VK)(u:Value)(o:Shared):Prop:=∃v H',AB X pins σ H' o/\AR v u/\Q v H'
def TP (X:Cx)(pins:Cc)(σ:St)(Q:Bool->Hp->Prop)(b:Bool)(o:Shared):Prop:=∃H',AB X pins σ H' o/\Q b H'
def AP (X:Cx)(pins:Cc)(σ:St)(Q:List V->Hp->Prop)(us:List Value)(C:Shared):Prop:=∃o H',AB X pins σ H' C/\AI o us/\Q o H'
def SP (X:Cx)(pins:Cc)(D:EE)(f:Flow)(C:Shared):Prop:=
 match f with
 | .next=>∃ o H',AB X pins o H' C/\D.nx o H'
 | .brk=>∃ o H',AB X pins o H' C/\D.bk o H'
 | .cont=>∃ o H',AB X pins o H' C/\D.ct o H'
 | .ret u=>∃v o H',AB X pins o H' C/\AR v u/\D.rt v H'
def PE (X:Cx)(e:Expr)(t:TE):Prop:=
 ∀pins s σ H Q,AB X pins σ H s->t σ H Q->wpAny (model X.prog X.w) X.A (eval e X.env) (EP X pins σ Q) X.xe s
def PT (X:Cx)(e:Expr)(t:TT):Prop:=
 ∀pins s σ H Q,AB X pins σ H s->t σ H Q->wpAny (model X.prog X.w) X.A (isTrue e X.env (eval e X.env)) (TP X pins σ Q) X.xe s
def PW (X:Cx)(e:Expr)(t:TT):Prop:=
 ∀whole pins s σ H Q,AB X pins σ H s->t σ H Q->wpAny (model X.prog X.w) X.A (isTrue e X.env whole) (TP X pins σ Q) X.xe s
def PW.pt (h:PW X e t):PT X e t:=h _
def PA (X:Cx)(es:List Expr)(t:TA):Prop:=
 ∀pos pins s σ H Q,AB X pins σ H s->t σ H Q->wpAny (model X.prog X.w) X.A (spliced (backTo pos (starEach es X.env))) (AP X pins σ Q) X.xe s
def PS (X:Cx)(st:Stmt)(t:TS):Prop:=
 ∀pins s σ H D,AB X pins σ H s->t D σ H->wpAny (model X.prog X.w) X.A (exec st X.env) (SP X pins D) X.xe s
def CN (X:Cx)(st:List Stmt)(t:TS):Prop:=
 ∀pins s σ H D,AB X pins σ H s->t D σ H->wpAny (model X.prog X.w) X.A (execs st X.env) (SP X pins D) X.xe s
def AH (h:wpAny M A t Q E s)(o:∀a s,Q a s->Q' a s):wpAny M A t Q' E s:=Cr h o λ_ _ x=>x
inductive Yx (i:Nat)(σ:St)(H:Hp)(Q:VK):Prop
 | mk:∀v,(σ[i]?=some (some v))->(Q v H)->Yx i σ H Q
def O7 (i:Nat):TE:=λσ H Q=>Yx i σ H Q
def tC (v:V):TE:=λ_ H Q=>Q v H
def Me (hN:X.N[i]?=some x)(U:XG X.env.scope x)(hd:autoParam ((x==("__debug__" : Str))=false) d_._auto_2) (J:autoParam ((x==("__classdict__" : Str))=false) d_._auto_2):PE X (.Name x pos) (O7 i):=by
 intro pins s σ H Q I h;let{v,e,h}:=h;let{m,hn,hl}:=I.loc;let{u,r,l}:=hl i x v hN e U;let fin:EP X pins σ Q u s:=⟨v,H,I,r,h⟩;rcases l with ⟨hk,hm⟩ | ⟨hk,c,C,o⟩
 . show wpAny_Name (wpAny_loadName_local I.ok.kind hk hn hm fin) hd
 . rcases hk with hk | hk
   . show wpAny_Name (wpAny_loadName_cell I.ok.kind hk C o fin) hd
   . show wpAny_Name (wpAny_loadName_free I.ok.kind hk C o fin J) hd
def zb {i j pos}:PE X (.Constant (.int i) j pos) (tC (.int i)):=λ_ _ _ H _ I h=>wpAny_Constant_int {.int i,H,I.tok _,{1},h}
def GS {b j pos}:PE X (.Constant (.bool b) j pos) (tC (.bl b)):=λ_ _ _ H _ I h=>Constant_bool {.bl b,H,I,0,h}
def Ax {j pos}:PE X (.Constant .none j pos) (tC .non):=λ_ _ _ H _ I h=>Constant_none {.non,H,I,0,h}
def AW {x j pos}:PE X (.Constant (.str x) j pos) (tC (.str x)):=λ_ _ _ H _ I h=>Calls.Constant_str {.str x,H,I.tok _,{1},h}
def Gl (X:Cx)(x:Str):Prop:=X.env.kindOf x=some .globalImplicit
def VW (I:AB X pins σ H s)(o:Gl X x)(hm:X.mg x=some u)(h:Q u s)
 (hd:autoParam ((x==("__debug__" : Str))=false) d_._auto_2):wpAny (model X.prog X.w) X.A (eval (.Name x pos) X.env) Q E s:=
 Calls.Name_function_global I.ok.kind o (Calls.loadGlobal_global (by rw[I.ok.glob];show I.mod.glob.keeps I.bk) hm h) hd
def Dd (I:AB X pins σ H s)(J:Gl X x)(hm:X.mg x=none)(o:bootBuiltins x=some u)(h:Q u s)
 (C:x ≠ "__name__" := by decide) (hd:autoParam ((x==("__debug__" : Str))=false) d_._auto_2):wpAny (model X.prog X.w) X.A (eval (.Name x pos) X.env) Q E s:=by
 let{mb,h1,U}:=I.mod.blt;show Calls.Name_function_global I.ok.kind J (Calls.loadGlobal_builtin (by rw[I.ok.glob];show I.mod.glob.keeps I.bk) hm (by rw[I.ok.blt];show h1.keeps I.bk) ((U x C).trans o) h) hd
def EV (o:Gl X x)(hm:X.mg x=some u)(r:AR v u)(hd:autoParam ((x==("__debug__" : Str))=false) d_._auto_2):PE X (.Name x pos) (tC v):=
 λ_ _ _ H _ I h=>VW I o hm ⟨v,H,I,r,h⟩ hd
def PC (X:Cx)(op:CmpOp)(a b:Expr)(t:TE):Prop:=
 ∀pins s σ H Q,AB X pins σ H s->t σ H Q ->
  wpAny (model X.prog X.w) X.A (eval a X.env) (λv C=>wpAny (model X.prog X.w) X.A (eval b X.env) (λu o=>wpAny (model X.prog X.w) X.A (compareOp op v u) (EP X pins σ Q) X.xe o) X.xe C) X.xe s
inductive Qo (Q:Bool->Hp->Prop)(x:V)(H1:Hp):Prop
 | mk:∀c,(x=.bl c)->(Q c H1)->Qo Q x H1
def tB (t:TE):TT:=λσ H Q=>t σ H λx H1=>Qo Q x H1
def J7 (h:PC X op a b t)(o:autoParam (behindInMarks op b=false) d_._auto_3):PT X (.Compare a [op] [b] pos) (tB t):=by intro pins s σ H Q I hw;show wpAny_isTrue_Compare1 (AH (h pins s σ H _ I hw) λv s1 o=>AH o λu s2 U=>AH U λc s3 ⟨x,H1,I1,C,J⟩=>?_) o;let{d,0,q}:=J;cases C;show GC ⟨H1,I1,q⟩
def BR (h:PE X e t)(he:autoParam (∀whole,isTrue e X.env whole=(do let v <-whole;standAt e.pos;holding [v] (truthy v))) d_._auto_4):PT X e (tB t):=by intro pins s σ H Q I hw;show isTrue_plain (AH (h pins s σ H _ I hw) λv s1 ⟨x,H1,J,o,C⟩=>?_) (he _);let{d,0,q}:=C;cases o;show GC ⟨H1,J,q⟩
def W5 (t u:TT):TT:=λσ H Q=>t σ H λc H1=>if c=true then u σ H1 Q else Q false H1
def kK (t u:TT):TT:=λσ H Q=>t σ H λc H1=>if c=true then Q true H1 else u σ H1 Q
def Xk (t:TT):TT:=λσ H Q=>t σ H λc H1=>Q (!c) H1
def Jg (o:PT X a tA):PW X (.BoolOp .And [a] pos) tA:=by
 intro C pins s σ H Q I h;show isTrue_and (AH (o pins s σ H Q I h) λc s1 e=>?_);cases c with
 | true=>show isTrue_and_nil e
 | false=>show e
def DO (o:PT X a tA):PW X (.BoolOp .Or [a] pos) tA:=by
 intro C pins s σ H Q I h;show isTrue_or (AH (o pins s σ H Q I h) λc s1 e=>?_);cases c with
 | false=>show isTrue_or_nil e
 | true=>show e
def Ja (ha:PT X a tA)(U:PW X (.BoolOp .And (b::rest) pos) tB'):PW X (.BoolOp .And (a::b::rest) pos) (W5 tA tB'):=by
 intro J pins s σ H Q I h;show isTrue_and (AH (ha pins s σ H _ I h) λc s1 ⟨H1,C,o⟩=>?_);cases c with
 | true=>show U J pins s1 σ H1 Q C o
 | false=>show⟨H1,C,o⟩
def Cs (ha:PT X a tA)(U:PW X (.BoolOp .Or (b::rest) pos) tB'):PW X (.BoolOp .Or (a::b::rest) pos) (kK tA tB'):=by
 intro J pins s σ H Q I h;show isTrue_or (AH (ha pins s σ H _ I h) λc s1 ⟨H1,C,o⟩=>?_);cases c with
 | true=>show⟨H1,C,o⟩
 | false=>show U J pins s1 σ H1 Q C o
def CM (o:PT X a tA):PT X (.UnaryOp .Not a pos) (Xk tA):=by intro pins s σ H Q I h;show isTrue_not (o pins s σ H (λc H1=>Q (!c) H1) I h)
def RD (ta tb:TE):TE:=λσ H Q=>ta σ H λx H1=>∃c,x=.bl c/\if c=true then tb σ H1 Q else Q (.bl false) H1
def Xi (ta tb:TE):TE:=λσ H Q=>ta σ H λx H1=>∃c,x=.bl c/\if c=true then Q (.bl true) H1 else tb σ H1 Q
def Q9 (ta:TE):TE:=λσ H Q=>ta σ H λx H1=>∃c,x=.bl c/\Q (.bl (!c)) H1
def Du {op} (h:PE X a t):PE X (.BoolOp op [a] pos) t:=λpins s σ H Q I hw=>BoolOp_one (h pins s σ H Q I hw)
def Ef (ha:PE X a ta)(U:PE X (.BoolOp .And (b::rest) pos) tb):PE X (.BoolOp .And (a::b::rest) pos) (RD ta tb):=by
 intro pins s σ H Q I h;show BoolOp_and (AH (ha pins s σ H _ I h) λv s1 ⟨x,H1,C,J,o⟩=>?_);let{c,0,o}:=o;cases J;show GC ?_;cases c with
 | true=>show U pins s1 σ H1 Q C o
 | false=>show{.bl false,H1,C,0,o}
def IM (ha:PE X a ta)(U:PE X (.BoolOp .Or (b::rest) pos) tb):PE X (.BoolOp .Or (a::b::rest) pos) (Xi ta tb):=by
 intro pins s σ H Q I h;show BoolOp_or (AH (ha pins s σ H _ I h) λv s1 ⟨x,H1,C,J,o⟩=>?_);let{c,0,o}:=o;cases J;show GC ?_;cases c with
 | false=>show U pins s1 σ H1 Q C o
 | true=>show{.bl true,H1,C,0,o}
def Ku (J:PE X a ta):PE X (.UnaryOp .Not a pos) (Q9 ta):=by intro pins s σ H Q I h;show UnaryOp_ (AH (J pins s σ H _ I h) λv s1 ⟨x,H1,U,C,o⟩=>?_);let{c,0,o}:=o;cases C;show not_of (GC {.bl (!c),H1,U,0,o})
def kP (t:TT)(ta tb:TE):TE:=λσ H Q=>t σ H λc H1=>if c=true then ta σ H1 Q else tb σ H1 Q
def GV (J:PT X c tA)(ha:PE X a ta)(U:PE X b tb):PE X (.IfExp c a b pos) (kP tA ta tb):=by
 intro pins s σ H Q I h;show wpAny_IfExp (AH (J pins s σ H _ I h) λd s1 ⟨H1,C,o⟩=>?_);cases d with
 | true=>show ha pins s1 σ H1 Q C o
 | false=>show U pins s1 σ H1 Q C o
def AA (K:AG)(H:Hp)(a:Addr)(xs:List V):Prop:=
 Rd H a (.lst xs) \/
  ∃o its n,K.lookup a=some o/\o.cls=.type "list"/\o.dict=none/\o.data=.seq its n/\its.size<=sizeLine/\AI xs its.toList
def AD (K:AG)(H:Hp)(a:Addr)(xs:List V):Prop:=
 Rd H a (.tup xs) \/
  ∃o its n,K.lookup a=some o/\o.cls=.type "tuple"/\o.data=.seq its n/\its.size<=sizeLine/\AI xs its.toList
meta def Xg:Value->Option V
 | .none=>some .non
 | .bool b=>some (.bl b)
 | .int i _=>some (.int i)
 | .str x _=>some (.str x)
 | .bytes b _=>some (.byt b)
 | .float b _=>some (.flt b)
 | .ref a=>some (.ref a)
 | .type n=>some (.ty n)
 | _=>none
def AR.abs (r:AR x u):Xg u=some x:=by
 cases x with
 | non=>cases r;rfl
 | bl _=>cases r;rfl
 | int _=>let{t,0}:=r;rfl
 | str _=>let{t,0}:=r;rfl
 | byt _=>let{t,0}:=r;rfl
 | flt _=>let{t,0}:=r;rfl
 | ref _=>cases r;rfl
 | ty _=>cases r;rfl
def AR.inj (r:AR x u)(q:AR y u):x=y:=zT (r.abs.symm.trans q.abs)
def AI.inj:∀{xs ys:List V}{us:List Value},AI xs us->AI ys us->xs=ys
 | _,_,_,.nil,.nil=>rfl
 | _,_,_,.cons r t,.cons r' t'=>by rw[r.inj r',AI.inj t t']
def AA.of {K:AG}(h:H a=some (.lst xs)):AA K H a xs:=.inl (.inl h)
def AD.of {K:AG}(h:H a=some (.tup xs)):AD K H a xs:=.inl (.inl h)
def AB.list (I:AB X pins σ H s)(h:AA X.K H a xs):∃its:List Value,AI xs its/\PlainL s.heap a its.toArray/\xs.length<=sizeLine:=by
 rcases h with h | ⟨o,its,n,J,U,hd,C,hz,r⟩
 . let{z,its,n,r,e}:=h.ok I.hok;show{its,r,{_,n,e,9},z}
 . show{its.toList,r,{o,n,I.kIn a o J,U,hd,by simpa using C},?_};let e:=r.length;simp only[Array.length_toList] at e
   lia
def AB.tuple (I:AB X pins σ H s)(h:AD X.K H a xs):∃its:List Value,AI xs its/\IsTup s.heap a its.toArray/\xs.length<=sizeLine:=by
 rcases h with h | ⟨o,its,n,J,U,C,hz,r⟩
 . let{{z,_},its,r,p}:=h.ok I.hok;show⟨its,r,p,z⟩
 . show{its.toList,r,{o,I.kIn a o J,U,n,by simpa using C},?_};let e:=r.length;simp only[Array.length_toList] at e
   lia
def AB.list_inj (I:AB X pins σ H s)(h:AA X.K H a xs)(h':AA X.K H a ys):xs=ys:=by
 let{its,r,{o,n,e,3,d},_}:=I.list h;let{C,r',{o',n',J,3,U},_}:=I.list h';rw[e] at J;cases J;rw[d] at U;injection U with d1 _;let:its=C:=by simpa using congrArg Array.toList d1
 subst this;show r.inj r'
def AB.tuple_inj (I:AB X pins σ H s)(h:AD X.K H a xs)(h':AD X.K H a ys):xs=ys:=by
 let{its,r,{o,e,_,n,d},_}:=I.tuple h;let{C,r',{o',J,_,n',U},_}:=I.tuple h';rw[e] at J;cases J;rw[d] at U;injection U with d1 _;let:its=C:=by simpa using congrArg Array.toList d1
 subst this;show r.inj r'
meta abbrev Cx.wish (X:Cx)(E:Dq):Cx:={ X with xe:=E }
meta abbrev Cx.nox (X:Cx):Cx:=X.wish λ_ _=>False
def Cx.Ok.wish {X:Cx}(ok:X.Ok)(E):(X.wish E).Ok:=
 ⟨ok.mod,ok.kind,ok.glob,ok.blt,ok.above,ok.inj,ok.has,ok.cab,ok.hd,ok.frames,ok.stk,ok.exf,ok.bs,ok.bsz,ok.noex,ok.exfs,ok.funs,ok.frf⟩
def Cx.Ok.unwish {X:Cx}(ok:(X.wish E).Ok):X.Ok:=
 ⟨ok.mod,ok.kind,ok.glob,ok.blt,ok.above,ok.inj,ok.has,ok.cab,ok.hd,ok.frames,ok.stk,ok.exf,ok.bs,ok.bsz,ok.noex,ok.exfs,ok.funs,ok.frf⟩
def AB.wish (I:AB X pins σ H s)(E):AB (X.wish E) pins σ H s:={I.ok.wish E,I.os,I.bare,I.base,I.loc,I.cell,I.free,I.freeC,I.pin,I.hok,I.len}
def AB.unwish (I:AB (X.wish E) pins σ H s):AB X pins σ H s:=⟨I.ok.unwish,I.os,I.bare,I.base,I.loc,I.cell,I.free,I.freeC,I.pin,I.hok,I.len⟩
def SP.unwish (h:SP (X.wish E) pins D f s'):SP X pins D f s':=by
 cases f with
 | next=>let{o,H',I,q}:=h;show⟨o,H',I.unwish,q⟩
 | brk=>let{o,H',I,q}:=h;show⟨o,H',I.unwish,q⟩
 | cont=>let{o,H',I,q}:=h;show⟨o,H',I.unwish,q⟩
 | ret u=>let{v,o,H',I,r,q}:=h;show⟨v,o,H',I.unwish,r,q⟩
def CN.nox {st:List Stmt}(h:CN X.nox st t):CN X st t:=λpins s σ H D I hw=>
 Cr (h pins s σ H D (I.wish _) hw) (λ_ _ q=>q.unwish) λ_ _ z=>False.elim z
section
variable {X:Cx}{st:Stmt}{rest:List Stmt}{t u:TS}{e:Expr}{te:TE}{pos:Pos}
def QX:TS:=λD σ H=>D.nx σ H
def X0 (t u:TS):TS:=λD σ H=>t { D with nx:=u D } σ H
def AV:CN X [] QX:=λ_ _ σ H _ I h=>wpAny_execs_nil ⟨σ,H,I,h⟩
def zN (J:PS X st t)(C:CN X rest u):CN X (st::rest) (X0 t u):=by
 intro pins s σ H D I h;show wpAny_execs_cons (AH (J pins s σ H { D with nx:=u D } I h) λf s1 q=>?_);cases f with
 | next=>let{o,H',U,q}:=q;show C pins s1 o H' D U q
 | ret v=>show q
 | brk=>show q
 | cont=>show q
def zX (o:PS X st t):CN X [st] t:=by
 intro pins s σ H D I h;show wpAny_execs_cons (AH (o pins s σ H D I h) λf s1 q=>?_);cases f with
 | next=>show wpAny_execs_nil q
 | ret v=>show q
 | brk=>show q
 | cont=>show q
def AB.quiet (I:AB X pins σ H s):interactive X.env=false:=by simp[interactive,I.ok.kind]
def Om (te:TE):TS:=λD σ H=>te σ H λ_ H1=>D.nx σ H1
def Ca (he:PE X e te)(C:autoParam (swapsWith e none pos.line X.env=pure false) d_._auto_5):PS X (.Expr e pos) (Om te):=by intro pins s σ H D I h;show wpAny_Expr_any (AH (he pins s σ H _ I h) λv s1 ⟨x,H1,J,U,o⟩=>⟨σ,H1,J,o⟩) I.quiet C
def WN (te:TE):TS:=λD σ H=>te σ H D.rt
def zu (he:PE X e te):PS X (.Return (some e) pos) (WN te):=by intro pins s σ H D I h;show wpAny_Return_some (AH (he pins s σ H _ I h) λv s1 ⟨x,H1,J,o,C⟩=>⟨x,σ,H1,J,o,C⟩)
def Xp (c:TT)(t u:TS):TS:=λD σ H=>c σ H λb H1=>if b=true then t D σ H1 else u D σ H1
def AU (J:PT X c tc)(ha:CN X a t)(U:CN X b u):PS X (.If c a b pos) (Xp tc t u):=by
 intro pins s σ H D I h;show wpAny_If (AH (J pins s σ H _ I h) λd s1 ⟨H1,C,o⟩=>?_);cases d with
 | true=>show ha pins s1 σ H1 D C o
 | false=>show U pins s1 σ H1 D C o
end
abbrev TG:=V->St->Hp->(St->Hp->Prop)->Prop
abbrev Ip:=List V->St->Hp->(St->Hp->Prop)->Prop
def PG (X:Cx)(target:Expr)(t:TG):Prop:=
 ∀pins s σ H v u Q,AB X pins σ H s->AR v u->t v σ H Q ->
  wpAny (model X.prog X.w) X.A (assign target X.env u) (λ_ o=>∃ σ' H',AB X pins σ' H' o/\Q σ' H') X.xe s
def NR (X:Cx)(ts:List Expr)(t:Ip):Prop:=
 ∀pins s σ H o us Q,AB X pins σ H s->AI o us->t o σ H Q ->
  wpAny (model X.prog X.w) X.A (assignInOrder ((assignEach ts X.env).map (·.2)) us) (λ_ C=>∃ σ' H',AB X pins σ' H' C/\Q σ' H') X.xe s
abbrev OY:=V->V->V->Hp->(Hp->Prop)->Prop
def PD (X:Cx)(t:OY):Prop:=
 ∀pins s σ H o i v C I u Q,AB X pins σ H s->AR o C->AR i I->AR v u->t o i v H Q ->
  wpAny (model X.prog X.w) X.A (setItem C I u) (λ_ J=>∃H',AB X pins σ H' J/\Q H') X.xe s
def Jp (i:Nat):TG:=λv σ H Q=>Q (σ.set i (some v)) H
def CY (C:X.N.Nodup)(hi:X.N[i]?=some x)(o:G6 X.env.scope x)(hf:autoParam (X.fn x=true\/X.env.scope.names.lookup x=some .local) d_._auto_1):PG X (.Name x pos) (Jp i):=by intro pins s σ H v u Q I r h;show wpAny_assign_Name (Rv I C hi o r (λU J=>{_,H,J,h}) hf)
def WI:Ip:=λo σ H Q=>o=[]/\Q σ H
inductive YO (t:TG)(u:Ip)(vs:List V)(σ:St)(H:Hp)(Q:St->Hp->Prop):Prop
 | mk:∀v r,(vs=v::r)->(t v σ H λσ' H'=>u r σ' H' Q)->YO t u vs σ H Q
def QN (t:TG)(u:Ip):Ip:=λo σ H Q=>YO t u o σ H Q
def CK:NR X [] WI:=by intro pins s σ H o us Q I r h;let{e,h}:=h;subst e;cases r;show assignInOrder_nil ⟨σ,H,I,h⟩
def Ag (h1:PG X e t)(h2:NR X es u)
 (U:autoParam ((assignEach (e::es) X.env).map (·.2)=assign e X.env::(assignEach es X.env).map (·.2)) d_._auto_5):NR X (e::es) (QN t u):=by
 intro pins s σ H vs us Q I r h;let{v,vr,e1,h}:=h;subst e1;cases r with
 | cons r C=>rw[U];show assignInOrder_cons (AH (h1 pins s σ H _ _ _ I r h) λ_ s1 ⟨o,H1,I1,J⟩=>?_);show h2 pins s1 o H1 _ _ Q I1 C J
inductive cV (K:AG)(n:Nat)(t:Ip)(v:V)(σ:St)(H:Hp)(Q:St->Hp->Prop):Prop
 | mk:∀a xs,(v=.ref a)->(AD K H a xs)->(xs.length=n)->(t xs σ H Q)->cV K n t v σ H Q
def O0 (K:AG)(n:Nat)(t:Ip):TG:=λv σ H Q=>cV K n t v σ H Q
def DN (hc:X.calm=true)(h:NR X es t)
 (hn:autoParam ((assignEach es X.env).length=n) d_._auto_5)(J:autoParam ((assignEach es X.env).findIdx? (·.1)=none) d_._auto_5):PG X (.Tuple es k pos) (O0 X.K n t):=by
 intro pins s σ H v u Q I r hw;let{a,xs,e1,hq,hl,hw}:=hw;subst e1;cases r;let{its,C,ht,hz}:=I.tuple hq;show assign_Tuple_tuple (I.ok.hd hc) ht (by simp[hn,<-hl,C.length]) J λh' U=>?_;let I1:AB X pins σ H { s with heap:=h' }:=I.kept (t':=s.toks) λb o e=>U b o (zh (zc e)) e;show h pins _ σ H xs _ Q I1 (by simpa using C) hw
def V8 (to C:TE)(t:OY):TG:=λv σ H Q=>to σ H λo H1=>C σ H1 λi I=>t o i v I λH3=>Q σ H3
def Fg (ho:PE X o to)(hi:PE X i ti)(hs:PD X t)
 (ha:autoParam (∀v,assign (.Subscript o i pos) X.env v=(do
  let C <-holding [v] (eval o X.env);let J <-holding [v,C] (eval i X.env)
  standAt pos
  holding [v,C,J] (setItem C J v)
  release [v,C,J] [])) d_._auto_4):PG X (.Subscript o i pos) (V8 to ti t):=by
 intro pins s σ H v u Q I r h;rw[ha];show zD (Ba (AH (ho pins s σ H _ I h) λC s1 ⟨x,H1,I1,r1,q1⟩=>?_));show zD (Ba (AH (hi pins s1 σ H1 _ I1 q1) λJ s2 ⟨y,H2,I2,U,q2⟩=>?_));show zD (wpAny_standAt (zD (Ba (AH (hs pins s2 σ H2 x y v C J u _ I2 r1 U r q2) λ_ s3 ⟨H3,I3,q3⟩=>?_))));show wpAny_release ⟨σ,H3,I3,q3⟩
def FT (te:TE)(g:TG):TS:=λD σ H=>te σ H λx H1=>g x σ H1 D.nx
def Dx (he:PE X e te)(U:PG X tg g)(J:autoParam (swapsWithSole [tg] e pos.line X.env=pure false) d_._auto_5)(hw:autoParam (swappedStores [tg] e X.env=pure none) d_._auto_5)
 (h1:autoParam ((assignEach [tg] X.env).map (·.2)=[assign tg X.env]) d_._auto_5):PS X (.Assign [tg] e pos) (FT te g):=by
 intro pins s σ H D I h;show wpAny_Assign_stores (AH (he pins s σ H _ I h) λv s1 ⟨x,H1,I1,o,C⟩=>?_) J hw;rw[h1];show AH (U pins s1 σ H1 x v _ I1 o C) λ_ s2 q=>q
def C8 (hN:X.N.Nodup)(hi:X.N[i]?=some x)(J:G6 X.env.scope x)(he:PE X e te)(U:autoParam (swapsWith e (some (.Name x pos')) pos.line X.env=pure false) d_._auto_5)(hf:autoParam (X.fn x=true\/X.env.scope.names.lookup x=some .local) d_._auto_1):
 PS X (.Assign [.Name x pos'] e pos) (FT te (Jp i)):=by
 intro pins s σ H D I h;show wpAny_Assign_Name (AH (he pins s σ H _ I h) λv s1 ⟨y,H1,I1,o,C⟩=>?_) U;show Rv I1 hN hi J o (λs2 I2=>{_,H1,I2,C}) hf
def Ju (c:TT)(tb:TS):TS:=λD σ H=>∃W:Nat->St->Hp->Prop,(∃m,W m σ H)/\∀m σ H,W m σ H ->
 c σ H λb H1=>if b=true then ∃N:St->Hp->Prop,(∀ σ' H',N σ' H'->∃o,o<m/\W o σ' H')/\tb { D with nx:=N,ct:=N,bk:=D.nx } σ H1 else D.nx σ H1
def Vi (hp:PassesOwn (model X.prog X.w) X.A X.env X.xe)(hc:PT X c tc)(hb:CN X body tb):PS X (.While c body [] pos) (Ju tc tb):=by
 intro pins s σ H D I h;let{W,{m0,w0},turn}:=h;show wpAny_While (codeAny_whileLoop (λn s'=>∃ σ' H',AB X pins σ' H' s'/\W n σ' H') ?_ m0 ⟨σ,H,I,w0⟩);rintro n s1 ⟨C,H1,I1,w1⟩;show wpAny_passesOwn hp (AH (hc pins s1 C H1 _ I1 (turn n C H1 w1)) λb s2 ⟨H2,I2,U⟩=>?_);cases b with
 | true=>
  let{N,hN,U}:=U;rw[if_pos rfl];show wpAny_passesOwn hp (AH (hb pins s2 C H2 _ I2 U) λf s3 J=>?_);cases f with
  | next=>let{o,H3,I3,n3}:=J;let{m',hm,w3}:=hN o H3 n3;show⟨m',hm,o,H3,I3,w3⟩
  | cont=>let{o,H3,I3,n3}:=J;let{m',hm,w3}:=hN o H3 n3;show⟨m',hm,o,H3,I3,w3⟩
  | brk=>show J
  | ret v=>show J
 | false=>rw[if_neg zk];show wpAny_execs_nil ⟨C,H2,I2,U⟩
structure It where
 go:Nat->Hp->Prop
 yld:Nat->Hp->V->Hp->Prop
 stop:Nat->Hp->Prop
def Cy (X:Cx)(pins:Cc)(H:Hp)(b:Addr):Prop:=
 H b=none/\b≠X.env.locals/\b∉X.fs/\(b∈X.ex\/X.s₀.heap.objs.size<=b)/\(∀x c,X.env.cells.lookup x=some c->c≠b)/\∀p∈X.pn++pins,p.1≠b
def AB.fpOk (I:AB X pins σ H s)(o:s.heap.objs.size<=b)(J:H' b=none):Cy X pins H' b:=by
 show{J,Nat.ne_of_gt (zv I.lt o),I.nofs o,.inr (zn I.sz o),λx c e z=>?_,λp C z=>?_}
 . let{v,q}:=I.cell x c e;show absurd (zv q.lt (by rwa[z])) (GZ _)
 . show absurd (zv (zc (I.pin p C).1) (by rwa[z])) (GZ _)
structure Hw (P:Program)(w:World)(K:AG)(tg:Expr)(J:It)(fp:List Addr)(it:Addr)(tn:Nat->Heap->Prop):Prop where
 mem:it∈fp
 obj:∀i h,tn i h->∀b∈fp,∃o,h.get? b=some o/\∀v,o.data ≠ .cell v
 keep:∀i h h',tn i h->(∀b∈fp,∀o,h.get? b=some o->h'.get? b=some o)->tn i h'
 item:∀(X:Cx),X.prog=P->X.w=w->X.K=K->X.calm=true->∀(i:Nat)(pins:Cc)(s:Shared)(σ:St)(H:Hp)(E:Dq),AB X pins σ H s->(∀b∈fp,Cy X pins H b)->tn i s.heap->J.go i H ->
  wpAny (model P w) X.A (pyNext (.ref it)) (λr s1=>∃u,r=some u /\
   wpAny (model P w) X.A (letOwnedTupleGo tg (.ref it) u) (λ_ s2=>∃x H',AB X pins σ H' s2/\AR x u/\J.yld i H x H'/\tn (i+1) s2.heap/\∀b∈fp,H' b=none) E s1) E s
 done:∀(X:Cx),X.prog=P->X.w=w->X.K=K->X.calm=true->∀(i:Nat)(pins:Cc)(s:Shared)(σ:St)(H:Hp)(E:Dq),AB X pins σ H s->(∀b∈fp,Cy X pins H b)->tn i s.heap->J.stop i H ->
  wpAny (model P w) X.A (pyNext (.ref it)) (λr s1=>r=none/\AB X pins σ H s1) E s
 self:∀(A:Around)(i:Nat)(s:Shared)(Q:Dq)(E:Dq),tn i s.heap->Q (.ref it) s->wpAny (model P w) A (pyIter (.ref it)) Q E s
abbrev TI:=St->Hp->(It->Hp->Prop)->Prop
def c6 (X:Cx)(pins:Cc)(σ:St)(I:Expr)(R:It->Hp->Prop)(o:Value)(s2:Shared):Prop:=
 ∃it fp C J H',o=.ref it/\AB X pins σ H' s2/\Hw X.prog X.w X.K I J fp it C/\C 0 s2.heap/\(∀b∈fp,Cy X pins H' b)/\R J H'
def PI (X:Cx)(C iter:Expr)(o:TI):Prop:=
 ∀pins s σ H R,AB X pins σ H s->o σ H R ->
  wpAny (model X.prog X.w) X.A (eval iter X.env) (λv s1=>wpAny (model X.prog X.w) X.A (pyIter v) (c6 X pins σ C R) X.xe s1) X.xe s
def Nd (I:s.heap.get? it=some o)(U:o.cls=.type n)(hd:o.data=.fields vs)
 (J:["enumerate", "zip", "dict_itemiterator", "dict_reverseitemiterator", "odict_iterator", "itertools.zip_longest", "itertools.pairwise"].contains n=false) (C:Q Unit.unit s):wpAny M A (letOwnedTupleGo tg (.ref it) u) Q E s:=by
 unfold letOwnedTupleGo;cases tg <;> first
  | show zI C
  | (cases u <;> first
   | show zI C
   | (show zD (wpAny_load I ?_)
      rw[U,hd];change wpAny M A (if (["enumerate", "zip", "dict_itemiterator", "dict_reverseitemiterator", "odict_iterator", "itertools.zip_longest", "itertools.pairwise"].contains n && vs[0]? == some (rawInt _))=true then _ else _) Q E s
      rw[if_neg (by intro h;rw[J,Bool.false_and] at h;cases h)];show zI C))
meta def NZ (K:AG)(a:Addr):It:=
 {λi H=>∃xs x,AA K H a xs/\xs[i]?=some x,λi H x H'=>H'=H/\∀xs,AA K H a xs->xs[i]?=some x,λi H=>∃xs,AA K H a xs/\xs.length<=i}
meta def Nc (K:AG)(a:Addr):It:=
 {λi H=>∃xs x,AD K H a xs/\xs[i]?=some x,λi H x H'=>H'=H/\∀xs,AD K H a xs->xs[i]?=some x,λi H=>∃xs,AD K H a xs/\xs.length<=i}
meta def JF (lo:Int)(n:Nat):It:={λi _=>i<n,λi H x H'=>H'=H/\x=.int (lo+i),λi _=>n<=i}
def jJ {P:Program}{w:World}{K:AG}{tg:Expr}(a it:Addr):Hw P w K tg (NZ K a) [it] it (λi h=>h.IsListIter it a i) where
 mem:=by simp
 obj:=λi h st b C=>by
  let e:b=it:=by simpa using C
  subst e;let{o,e,c,d}:=st;show{o,e,λv z=>by rw[d] at z;cases z}
 keep:=λi h h' st k=>st.at λo e=>k it (by simp) o e
 item:=by intro X hP hw hK hc i pins s σ H E I hf st hg;subst hP hw hK;let{xs,x,J,hx}:=hg;let{its,U,p,hz}:=I.list J;let{u,hu,ru}:=U.get hx;let{f0,f1,f2,f3,f4,f5}:=hf it (by simp);show M6 st p.isList (x:=u) (by simpa using hu) λh' lr sb=>?_;let I1:AB X pins σ H { s with heap:=h' }:=I.turned (t':=s.toks) (λb o C e=>(sb.2 b C).trans e) f0 f1 f3 f4 f5;let{o,e,c,d}:=id lr;show{u,0,Nd (s:={ s with heap:=h' }) e c d (by decide) {x,H,I1,ru,{0,λys hy=>by rwa[I.list_inj hy J]},lr,λb C=>(hf b C).1}}
 done:=by intro X hP hw hK hc i pins s σ H E I hf st hg;subst hP hw hK;let{xs,J,hx}:=hg;let{its,U,p,hz}:=I.list J;let{f0,f1,f2,f3,f4,f5}:=hf it (by simp);let hl:=U.length;show M9 (I.ok.hd hc) st p.isList (by simp;lia) λh' eb=>{0,I.turned (t':=s.toks) (λb o C e=>eb b o C e) f0 f1 f3 f4 f5}
 self:=λ_ _ _ _ _ st h=>wpAny_pyIter_listiter st h
def eP {P:Program}{w:World}{K:AG}{tg:Expr}(a it:Addr):Hw P w K tg (Nc K a) [it] it (λi h=>h.IsTupleIter it a i) where
 mem:=by simp
 obj:=λi h st b C=>by
  let e:b=it:=by simpa using C
  subst e;let{o,e,c,d}:=st;show{o,e,λv z=>by rw[d] at z;cases z}
 keep:=λi h h' st k=>st.at λo e=>k it (by simp) o e
 item:=by intro X hP hw hK hc i pins s σ H E I hf st hg;subst hP hw hK;let{xs,x,J,hx}:=hg;let{its,U,p,hz}:=I.tuple J;let{u,hu,ru}:=U.get hx;let{f0,f1,f2,f3,f4,f5}:=hf it (by simp);show wpAny_pyNext_tuple_item st (show s.heap.IsTuple a its.toArray from p) (x:=u) (by simpa using hu) λh' lr sb=>?_;let I1:AB X pins σ H { s with heap:=h' }:=I.turned (t':=s.toks) (λb o C e=>(sb.2 b C).trans e) f0 f1 f3 f4 f5;let{o,e,c,d}:=id lr;show{u,0,Nd (s:={ s with heap:=h' }) e c d (by decide) {x,H,I1,ru,{0,λys hy=>by rwa[I.tuple_inj hy J]},lr,λb C=>(hf b C).1}}
 done:=by intro X hP hw hK hc i pins s σ H E I hf st hg;subst hP hw hK;let{xs,J,hx}:=hg;let{its,U,p,hz}:=I.tuple J;let{f0,f1,f2,f3,f4,f5}:=hf it (by simp);let hl:=U.length;show wpAny_pyNext_tuple_end (I.ok.hd hc) st (show s.heap.IsTuple a its.toArray from p) (by simp;lia) λh' eb=>{0,I.turned (t':=s.toks) (λb o C e=>eb b o C e) f0 f1 f3 f4 f5}
 self:=λ_ _ _ _ _ st h=>wpAny_pyIter_tupleiter st h
def jg {P:Program}{w:World}{K:AG}{tg:Expr}(it:Addr)(lo:Int)(n:Nat):Hw P w K tg (JF lo n) [it] it (λi h=>IsRangeIter h it (lo+(i:Nat)*1) ((n:Int)-(i:Nat)) 1) where
 mem:=by simp
 obj:=λi h st b C=>by
  let e:b=it:=by simpa using C
  subst e;show{_,st,λv z=>by let z':Data.fields _=Data.cell v:=z;cases z'}
 keep:=λi h h' st k=>k it (by simp) _ st
 item:=by intro X hP hw hK U i pins s σ H E I hf st J;subst hP hw hK;let{f0,f1,f2,f3,f4,f5}:=hf it (by simp);let W:=Walks.range (prog:=X.prog) (w:=X.w) (I.ok.hd U) it lo 1 n;show W.item i s _ _ J st λv h' tk hv lr kk=>?_;let{t,0}:=hv;let I1:AB X pins σ H { s with heap:=h',toks:=tk }:=I.turned (λb o C e=>kk b o (by simpa using C) e) f0 f1 f3 f4 f5;show{1,Nd (s:={ s with heap:=h',toks:=tk }) (n := "range_iterator") lr rfl rfl (by decide) {.int (lo+i),H,I1,{t,?_},{2},lr,λb C=>(hf b C).1}};rw[Int.mul_one]
 done:=by intro X hP hw hK U i pins s σ H E I hf st J;subst hP hw hK;let{f0,f1,f2,f3,f4,f5}:=hf it (by simp);show wpAny_pyNext_range_end (I.ok.hd U) st (by let:n<=i:=J;lia) λh' eb=>{0,I.turned (t':=s.toks) (λb o C e=>eb b o C e) f0 f1 f3 f4 f5}
 self:=λ_ _ _ _ _ st h=>wpAny_pyIter_rangeiter st h
inductive bu (K:AG)(R:It->Hp->Prop)(x:V)(H1:Hp):Prop
 | mk:∀a,(x=.ref a)->((∃xs,AA K H1 a xs))->(R (NZ K a) H1)->bu K R x H1
def Qu (K:AG)(tl:TE):TI:=λσ H R=>tl σ H λx H1=>bu K R x H1
inductive ZP (K:AG)(R:It->Hp->Prop)(x:V)(H1:Hp):Prop
 | mk:∀a,(x=.ref a)->((∃xs,AD K H1 a xs))->(R (Nc K a) H1)->ZP K R x H1
def Vq (K:AG)(tl:TE):TI:=λσ H R=>tl σ H λx H1=>ZP K R x H1
def CQ (hl:PE X l tl):PI X tg l (Qu X.K tl):=by
 intro pins s σ H R I h;show AH (hl pins s σ H _ I h) λv s1 ⟨x,H1,C,J,U⟩=>?_;let{a,e,{xs,hq},q}:=U;subst e;cases J;let{its,rv,p,hz}:=C.list hq;show Hy p.isList ?_;show{s1.heap.objs.size,[s1.heap.objs.size],3,H1,0,C.kept (t':=s1.toks) λb o e=>zM _ e,jJ a _,{_,zU _ rfl,2},λb hb=>?_,q};let e:b=s1.heap.objs.size:=by simpa using hb
 subst e;show C.fpOk (zL _) (C.hok.fresh (zL _))
def Bo (hl:PE X l tl):PI X tg l (Vq X.K tl):=by
 intro pins s σ H R I h;show AH (hl pins s σ H _ I h) λv s1 ⟨x,H1,C,J,U⟩=>?_;let{a,e,{xs,hq},q}:=U;subst e;cases J;let{its,rv,p,hz}:=C.tuple hq;show wpAny_pyIter_tuple (show s1.heap.IsTuple a its.toArray from p) ?_;show{s1.heap.objs.size,[s1.heap.objs.size],3,H1,0,C.kept (t':=s1.toks) λb o e=>zM _ e,eP a _,{_,zU _ rfl,2},λb hb=>?_,q};let e:b=s1.heap.objs.size:=by simpa using hb
 subst e;show C.fpOk (zL _) (C.hok.fresh (zL _))
def aC {lo:Int}(I:AB X pins σ H s)(h1 : -(2 ^ 62)<=lo)(h2:lo<2 ^ 62)(h3 : -(2 ^ 62)<=hi)(U:hi<2 ^ 62)
 (q:R (JF lo (hi-lo).toNat) H):wpAny (model X.prog X.w) X.A (pyIter (.ref s.heap.objs.size)) (c6 X pins σ tg R) E { s with heap:=s.heap.push { cls:=.type "range",data:=.fields #[.int lo t,.int hi u,.int 1 v] },toks:=tk }:=by
 show wpAny_pyIter_range (IsRange.new ..) (small_one h1 h2 h3 U) ?_;let C:AB X pins σ H { s with heap:=s.heap.push { cls:=.type "range",data:=.fields #[.int lo t,.int hi u,.int 1 v] },toks:=tk }:=I.kept λb o e=>zM _ e;show{(s.heap.push { cls:=.type "range",data:=.fields #[.int lo t,.int hi u,.int 1 v] }).objs.size,[(s.heap.push { cls:=.type "range",data:=.fields #[.int lo t,.int hi u,.int 1 v] }).objs.size],3,H,0,
  C.kept (t':=tk) λb o e=>zM _ e,jg _ lo (hi-lo).toNat,?_,λb J=>?_,q}
 . let e1:lo+((0:Nat):Int)*1=lo:=by simp
   let e2:(((hi-lo).toNat:Nat):Int)-((0:Nat):Int)=Builtin.Range.rangeSize lo hi 1:=by rw[rangeSize_one];split <;> lia
   change IsRangeIter _ _ (lo+((0:Nat):Int)*1) ((((hi-lo).toNat:Nat):Int)-((0:Nat):Int)) 1;rw[e1,e2];show zU _ rfl
 . let e:b=(s.heap.push { cls:=.type "range",data:=.fields #[.int lo t,.int hi u,.int 1 v] }).objs.size:=by simpa using J
   subst e;show C.fpOk (zL _) (C.hok.fresh (zL _))
inductive aY (R:It->Hp->Prop)(vs:List V)(H1:Hp):Prop
 | mk:∀j:Int,(vs=[.int j])->(-(2 ^ 62)<=j)->(j<2 ^ 62)->(R (JF 0 j.toNat) H1)->aY R vs H1
def PF (ta:TA):TI:=λσ H R=>ta σ H λo H1=>aY R o H1
inductive Z2 (R:It->Hp->Prop)(vs:List V)(H1:Hp):Prop
 | mk:∀i j:Int,(vs=[.int i,.int j])->((-(2 ^ 62)<=i/\i<2 ^ 62/\-(2 ^ 62)<=j/\j<2 ^ 62))->(R (JF i (j-i).toNat) H1)->Z2 R vs H1
def QZ (ta:TA):TI:=λσ H R=>ta σ H λo H1=>Z2 R o H1
def CO (hg:Gl X "range") (hm:X.mg "range"=none) (ha:PA X [a] ta)(hs:autoParam (starEach [a] X.env=[(false,eval a X.env)]) d_._auto_5):PI X tg (.Call (.Name "range" p) [a] [] pos) (PF ta):=by
 intro pins s σ H R I h;show Call_ (Dd I hg hm boot_range (PyProof.Rows.callWith_type1 (AH (ha pos pins s σ H _ I h) λus s1 ⟨vs,H1,I1,J,o⟩=>?_) hs rfl));let{j,e,o,U,q}:=o;subst e;cases J with
 | cons r C=>cases C;let{t,0}:=r;show call_range_1 (aC I1 () () o U (by simpa using q))
def R9 (hg:Gl X "range") (hm:X.mg "range"=none) (ha:PA X [a,b] ta)(hs:autoParam (starEach [a,b] X.env=[(false,eval a X.env),(false,eval b X.env)]) d_._auto_5)(J:autoParam (starEach [b] X.env=[(false,eval b X.env)]) d_._auto_5):
 PI X tg (.Call (.Name "range" p) [a,b] [] pos) (QZ ta):=by
 intro pins s σ H R I h;show Call_ (Dd I hg hm boot_range (PyProof.Rows.callWith_type1 (AH (ha pos pins s σ H _ I h) λus s1 ⟨vs,H1,I1,U,C⟩=>?_) (by rw[hs,J]) (by rw[J];rfl)));let{i,j,e,{C,q2,q3,q4},q}:=C;subst e;cases U with
 | cons r o=>
  cases o with
  | cons r' o=>cases o;let{t,0}:=r;let{t',0}:=r';show call_range_2 (aC I1 C q2 q3 q4 q)
def RB (I:TI)(g:TG)(tb:TS):TS:=λD σ H=>I σ H λJ H1=>∃W:Nat->Nat->St->Hp->Prop,(∃m,W 0 m σ H1)/\∀i m σ H,W i m σ H ->
 (J.stop i H/\D.nx σ H)\/(J.go i H/\∃N:St->Hp->Prop,(∀ σ' H',N σ' H'->∃C,C<m/\W (i+1) C σ' H')/\∀x H',J.yld i H x H'->g x σ H' λo U=>tb { D with nx:=N,ct:=N,bk:=D.nx } o U)
meta def Mr (fp:List Addr)(h:Heap):List (Addr×Obj):=fp.filterMap λb=>(h.get? b).map λo=>(b,o)
def NO (C:b∈fp)(e:h.get? b=some o):(b,o)∈Mr fp h:=Gu.mpr {b,C,by rw[e];rfl}
def gq (C:p∈Mr fp h):p.1∈fp/\h.get? p.1=some p.2:=by
 let{b,I,e}:=Gu.mp C;cases q:h.get? b with
 | none=>rw[q] at e;cases e
 | some o=>rw[q] at e;let J:(b,o)=p:=zT e;subst J;show⟨I,q⟩
def AB.pinned (I:AB X pins σ H s)(hf:∀b∈fp,Cy X pins H b)(ho:∀b∈fp,∃o,s.heap.get? b=some o/\∀v,o.data ≠ .cell v):AB X (pins++Mr fp s.heap) σ H s:=
 I.pins_of λp U=>(Bu.mp U).elim (λz=>I.pin p (zq _ z)) λz=>by let{C,e}:=gq z;let{f0,f1,f2,_}:=hf p.1 C;let{o,J,d}:=ho p.1 C;rw[e] at J;cases J;show⟨e,f0,f1,f2,d⟩
def AB.unpinned (I:AB X (pins++pl) σ H s):AB X pins σ H s:=I.pins_of λp o=>I.pin p (zq _ (Gj _ o))
def J5 (hp:PassesOwn (model X.prog X.w) X.A X.env X.xe)(hc:X.calm=true)(hi:PI X tg iter wi)(hg:PG X tg g)(hb:CN X body tb)
 (hs:autoParam (∀x,foldedSetIterable iter X.env x=pure x) d_._auto_4):PS X (.For tg iter body [] pos) (RB wi g tb):=by
 intro pins s σ H D I h;show wpAny_For (AH (hi pins s σ H _ I h) λv s1 h1=>AH h1 λitv s2 h2=>?_) hs;let{it,fp,tn,J,H2,e,I2,T,st2,f2,W,{m0,w0},turn}:=h2;subst e;let lj:∀{H':Hp},(∀b∈fp,H' b=none)->∀b∈fp,Cy X pins H' b:=λhn b hb=>{hn b hb,(f2 b hb).2};show codeAny_forLoop_any (λn s'=>∃i σ' H',AB X pins σ' H' s'/\tn i s'.heap/\(∀b∈fp,H' b=none)/\W i n σ' H') ?_ m0 ⟨0,σ,H2,I2,st2,λb hb=>(f2 b hb).1,w0⟩;rintro n s3 ⟨i,U,H3,I3,st3,fr3,w3⟩;rcases turn i n U H3 w3 with ⟨stop,qn⟩ | ⟨go,N,hN,step⟩
 . show wpAny_passesOwn hp (AH (T.done X rfl rfl rfl hc i pins s3 U H3 X.xe I3 (lj fr3) st3 stop) λr s4 ⟨hr,I4⟩=>?_);subst hr;show wpAny_execs_nil ⟨U,H3,I4,qn⟩
 . show wpAny_passesOwn hp (AH (T.item X rfl rfl rfl hc i pins s3 U H3 X.xe I3 (lj fr3) st3 go) λr s4 ⟨u,hr,h4⟩=>?_);subst hr;show wpAny_passesOwn hp (AH h4 λ_ s5 ⟨x,H5,I5,r5,y5,st5,fr5⟩=>?_);let I5':=I5.pinned (lj fr5) (T.obj _ _ st5);show wpAny_passesOwn hp (AH (hg _ s5 U H5 x u _ I5' r5 (step x H5 y5)) λ_ s6 ⟨σ6,H6,I6,q6⟩=>?_);show wpAny_passesOwn hp (AH (hb _ s6 σ6 H6 _ I6 q6) λf s7 q7=>?_);let again:∀{C:St}{H7:Hp},AB X (pins++Mr fp s5.heap) C H7 s7->N C H7->∃m,m<n/\∃i σ' H',AB X pins σ' H' s7/\tn i s7.heap/\(∀b∈fp,H' b=none)/\W i m σ' H':=λ{C H7} I7 n7=>by let{m',hm,w7}:=hN C H7 n7;show{m',hm,i+1,C,H7,I7.unpinned,T.keep _ _ _ st5 λb hb o e=>(I7.pin (b,o) (zq _ (zq _ (NO hb e)))).1,λb hb=>?_,w7};let{o,e,d}:=T.obj _ _ st5 b hb;show (I7.pin (b,o) (zq _ (zq _ (NO hb e)))).2.1
   cases f with
   | next=>let{C,H7,I7,n7}:=q7;show again I7 n7
   | cont=>let{C,H7,I7,n7}:=q7;show again I7 n7
   | brk=>let{C,H7,I7,q7}:=q7;show⟨C,H7,I7.unpinned,q7⟩
   | ret v=>let{x7,C,H7,I7,r7,q7}:=q7;show⟨x7,C,H7,I7.unpinned,r7,q7⟩
def Ng {K:AG}{g:TG}{tb:TS}{D:EE}(Pv:Nat->St->Hp->Prop)(h0:Pv 0 σ H)(hl:∀i σ H,i<=xs.length->Pv i σ H->AA K H a xs)
 (hs:∀i x σ H,xs[i]?=some x->Pv i σ H->g x σ H λo I=>tb { D with nx:=Pv (i+1),ct:=Pv (i+1),bk:=D.nx } o I)(hd:∀ σ H,Pv xs.length σ H->D.nx σ H):
 ∃W:Nat->Nat->St->Hp->Prop,(∃m,W 0 m σ H)/\∀i m σ H,W i m σ H ->
  ((NZ K a).stop i H/\D.nx σ H)\/((NZ K a).go i H/\∃N:St->Hp->Prop,(∀ C H',N C H'->∃m',m'<m/\W (i+1) m' C H')/\∀x H',(NZ K a).yld i H x H'->g x σ H' λo I=>tb { D with nx:=N,ct:=N,bk:=D.nx } o I):=by
 show{λi m σ H=>m=xs.length-i/\i<=xs.length/\Pv i σ H,{xs.length,by simp,zd _,h0},?_};rintro i m σ H ⟨rfl,hi,p⟩;let q:=hl i σ H hi p;by_cases J:i<xs.length
 . show .inr {{xs,xs[i],q,by simp[J]},Pv (i+1),λC H' U=>{xs.length-(i+1),(),0,J,U},λx H' y=>?_};let{e,y}:=y;subst e;show hs i x σ _ (y xs q) p
 . let e:i=xs.length:=()
   subst e;show .inl {{xs,q,zL _},hd σ H p}
def Uw {K:AG}{g:TG}{tb:TS}{D:EE}(Pv:Nat->St->Hp->Prop)(h0:Pv 0 σ H)(hl:∀i σ H,i<=xs.length->Pv i σ H->AD K H a xs)
 (hs:∀i x σ H,xs[i]?=some x->Pv i σ H->g x σ H λo I=>tb { D with nx:=Pv (i+1),ct:=Pv (i+1),bk:=D.nx } o I)(hd:∀ σ H,Pv xs.length σ H->D.nx σ H):
 ∃W:Nat->Nat->St->Hp->Prop,(∃m,W 0 m σ H)/\∀i m σ H,W i m σ H ->
  ((Nc K a).stop i H/\D.nx σ H)\/((Nc K a).go i H/\∃N:St->Hp->Prop,(∀ C H',N C H'->∃m',m'<m/\W (i+1) m' C H')/\∀x H',(Nc K a).yld i H x H'->g x σ H' λo I=>tb { D with nx:=N,ct:=N,bk:=D.nx } o I):=by
 show{λi m σ H=>m=xs.length-i/\i<=xs.length/\Pv i σ H,{xs.length,by simp,zd _,h0},?_};rintro i m σ H ⟨rfl,hi,p⟩;let q:=hl i σ H hi p;by_cases J:i<xs.length
 . show .inr {{xs,xs[i],q,by simp[J]},Pv (i+1),λC H' U=>{xs.length-(i+1),(),0,J,U},λx H' y=>?_};let{e,y}:=y;subst e;show hs i x σ _ (y xs q) p
 . let e:i=xs.length:=()
   subst e;show .inl {{xs,q,zL _},hd σ H p}
def Es {lo:Int}{g:TG}{tb:TS}{D:EE}(Pv:Nat->St->Hp->Prop)(h0:Pv 0 σ H)
 (hs:∀i σ H,i<n->Pv i σ H->g (.int (lo+i)) σ H λo J=>tb { D with nx:=Pv (i+1),ct:=Pv (i+1),bk:=D.nx } o J)(hd:∀ σ H,Pv n σ H->D.nx σ H):
 ∃W:Nat->Nat->St->Hp->Prop,(∃m,W 0 m σ H)/\∀i m σ H,W i m σ H ->
  ((JF lo n).stop i H/\D.nx σ H)\/((JF lo n).go i H/\∃N:St->Hp->Prop,(∀ C H',N C H'->∃m',m'<m/\W (i+1) m' C H')/\∀x H',(JF lo n).yld i H x H'->g x σ H' λo J=>tb { D with nx:=N,ct:=N,bk:=D.nx } o J):=by
 show{λi m σ H=>m=n-i/\i<=n/\Pv i σ H,{n,by simp,zd _,h0},?_};rintro i m σ H ⟨rfl,hi,p⟩;by_cases I:i<n
 . show .inr {I,Pv (i+1),λC H' U=>{n-(i+1),(),0,I,U},λx H' y=>?_};let{e,y}:=y;subst e y;show hs i σ _ I p
 . let e:i=n:=()
   subst e;show .inl {zL _,hd σ H p}
abbrev R2:=V->V->Hp->VK->Prop
def Au (X:Cx)(f:Value->Value->Sem Value)(r:R2):Prop:=
 ∀pins s σ H x y v u Q,AB X pins σ H s->AR x v->AR y u->r x y H Q ->
  wpAny (model X.prog X.w) X.A (f v u) (EP X pins σ Q) X.xe s
def Xc (X:Cx)(f:Value->Sem Value)(r:V->Hp->VK->Prop):Prop:=
 ∀pins s σ H x v Q,AB X pins σ H s->AR x v->r x H Q ->
  wpAny (model X.prog X.w) X.A (f v) (EP X pins σ Q) X.xe s
def CF (X:Cx)(f:Value)(r:List V->Hp->VK->Prop):Prop:=
 ∀pins s σ H xs us Q,AB X pins σ H s->AI xs us->r xs H Q ->
  wpAny (model X.prog X.w) X.A (call f us) (EP X pins σ Q) X.xe s
def Xz (X:Cx)(r:V->Hp->(Bool->Hp->Prop)->Prop):Prop:=
 ∀pins s σ H x v Q,AB X pins σ H s->AR x v->r x H Q ->
  wpAny (model X.prog X.w) X.A (truthy v) (TP X pins σ Q) X.xe s
def Pj (r:R2)(ta tb:TE):TE:=λσ H Q=>ta σ H λx H1=>tb σ H1 λy o=>r x y o Q
def kG (r:V->Hp->VK->Prop)(ta:TE):TE:=λσ H Q=>ta σ H λx H1=>r x H1 Q
inductive Qh (C:Int->Int->Prop)(g:Int->Int->V)(x:V)(y:V)(H:Hp)(Q:VK):Prop
 | mk:∀i j,(x=.int i)->(y=.int j)->(C i j)->(Q (g i j) H)->Qh C g x y H Q
def rI (C:Int->Int->Prop)(g:Int->Int->V):R2:=λx y H Q=>Qh C g x y H Q
inductive JC (g:Int->Int->V)(x:V)(y:V)(H:Hp)(Q:VK):Prop
 | mk:∀i j,(x=.int i)->(y=.int j)->(Q (g i j) H)->JC g x y H Q
def JN (g:Int->Int->V):R2:=λx y H Q=>JC g x y H Q
inductive Oz (g:Int->V)(x:V)(H:Hp)(Q:VK):Prop
 | mk:∀i,(x=.int i)->(Q (g i) H)->Oz g x H Q
def rU (g:Int->V):V->Hp->VK->Prop:=λx H Q=>Oz g x H Q
def Mc (ha:PE X a ta)(hb:PE X b tb){R:V->V->Hp->Prop}(I:AB X pins σ H s)
 (h:ta σ H λx H1=>tb σ H1 λy o=>R x y o){f:Value->Value->Sem Value}
 (hf:∀v u s2 x y o,AB X pins σ o s2->AR x v->AR y u->R x y o->wpAny (model X.prog X.w) X.A (f v u) Q X.xe s2):
 wpAny (model X.prog X.w) X.A (eval a X.env) (λv J=>wpAny (model X.prog X.w) X.A (eval b X.env) (λu C=>wpAny (model X.prog X.w) X.A (f v u) Q X.xe C) X.xe J) X.xe s:=by
 show AH (ha pins s σ H _ I h) λv s1 ⟨x,H1,I1,r1,q1⟩=>?_;show AH (hb pins s1 σ H1 _ I1 q1) λu s2 ⟨y,o,I2,U,q2⟩=>?_;show hf v u s2 x y o I2 r1 U q2
def AQ (J:Au X (binaryOp op) r)(ha:PE X a ta)(U:PE X b tb):PE X (.BinOp a op b pos) (Pj r ta tb):=by intro pins s σ H Q I h;show wpAny_BinOp (Mc ha U I h λv u s2 x y H2 I2 C o q=>J pins s2 σ H2 x y v u Q I2 C o q)
def Hx (J:Xc X (unaryOp op) r)(U:PE X a ta):PE X (.UnaryOp op a pos) (kG r ta):=by intro pins s σ H Q I h;show UnaryOp_ (AH (U pins s σ H _ I h) λv s1 ⟨x,H1,I1,o,C⟩=>J pins s1 σ H1 x v Q I1 o C)
def UA {g:Int->Int->Int}
 (rule:∀i j t u s Q E,C i j->Q (.int (g i j) s.toks) { s with toks:=s.toks+1 }->wpAny (model X.prog X.w) X.A (f (.int i t) (.int j u)) Q E s):
 Au X f (rI C λi j=>.int (g i j)):=by
 intro pins s σ H x y v u Q I U J h;let{i,j,2,hc,q}:=h;let{t,0}:=U;let{o,0}:=J;show rule i j t o s _ _ hc {.int (g i j),H,I.tok _,{1},q}
def QB {g:Int->Int->Int}
 (rule:∀i j t u s Q E,Q (.int (g i j) s.toks) { s with toks:=s.toks+1 }->wpAny (model X.prog X.w) X.A (f (.int i t) (.int j u)) Q E s):
 Au X f (JN λi j=>.int (g i j)):=by
 intro pins s σ H x y v u Q I J C h;let{i,j,2,q}:=h;let{t,0}:=J;let{o,0}:=C;show rule i j t o s _ _ {.int (g i j),H,I.tok _,{1},q}
def HU {g:Int->Int->Bool}
 (rule:∀i j t u s Q E,Q (.bool (g i j)) s->wpAny (model X.prog X.w) X.A (f (.int i t) (.int j u)) Q E s):
 Au X f (JN λi j=>.bl (g i j)):=by
 intro pins s σ H x y v u Q I J C h;let{i,j,2,q}:=h;let{t,0}:=J;let{o,0}:=C;show rule i j t o s _ _ {.bl (g i j),H,I,0,q}
def Ql (i j:Int):Prop:=0<j/\j<1073741824
def Xm (i j:Int):Prop:=0<=j/\j<=1000000/\i.natAbs<2 ^ 64
def Mm (i j:Int):Prop:=(-(2 ^ 64)<i/\i<2 ^ 64)\/(-(2 ^ 64)<j/\j<2 ^ 64)
def Mm.ok (h:Mm i j):IntMulOk i j:=by
 rcases h with ⟨C,o⟩ | ⟨C,o⟩
 . show .of_left (intBits_le_64 C o)
 . show .of_right (intBits_le_64 C o)
def Bs:Au X (binaryOp .Add) (JN λi j=>.int (i+j)):=QB λ_ _ _ _ _ _ _ q=>add_int q
def ED:Au X (binaryOp .Sub) (JN λi j=>.int (i-j)):=QB λ_ _ _ _ _ _ _ q=>sub_int q
def IH:Au X (binaryOp .Mult) (rI Mm λi j=>.int (i*j)):=UA λ_ _ _ _ _ _ _ o q=>mul_int q o.ok
def X7:Au X (binaryOp .FloorDiv) (rI Ql λi j=>.int (i/j)):=UA λi j _ _ _ _ _ o q=>by let I:(0:Int)<j:=o.1;let C:j<1073741824:=o.2;show floordiv_int () (by rwa[Int.fdiv_eq_ediv_of_nonneg i ()]) (.inl (PyProof.noPylong_small ()))
def GU:Au X (binaryOp .Mod) (rI (λ_ j=>0<j) λi j=>.int (i%j)):=UA λi j _ _ _ _ _ o q=>by let C:(0:Int)<j:=o;show mod_int' () (by rwa[Int.fmod_eq_emod_of_nonneg i ()])
def OK:Au X (binaryOp .Pow) (rI Xm λi j=>.int (i ^ j.toNat)):=UA λ_ _ _ _ _ _ _ o q=>pow_int_small o.1 o.2.1 o.2.2 q
def kN {g:Int->Int}
 (rule:∀i t s Q E,Q (.int (g i) s.toks) { s with toks:=s.toks+1 }->wpAny (model X.prog X.w) X.A (f (.int i t)) Q E s):
 Xc X f (rU λi=>.int (g i)):=by
 intro pins s σ H x v Q I o h;let{i,0,q}:=h;let{t,0}:=o;show rule i t s _ _ {.int (g i),H,I.tok _,{1},q}
def Hl:Xc X (unaryOp .USub) (rU λi=>.int (-i)):=kN λ_ _ _ _ _ q=>neg_int q
meta def RI:V->V->Bool
 | .non,.non=>true | .non,.int _=>true | .int _,.non=>true | .non,.bl _=>true | .bl _,.non=>true | .non,.str _=>true | .str _,.non=>true
 | .int _,.int _=>true | .bl _,.bl _=>true | .str _,.str _=>true | .byt _,.byt _=>true
 | .int _,.str _=>true | .str _,.int _=>true | .bl _,.str _=>true | .str _,.bl _=>true
 | _,_=>false
inductive IJ (x:V)(y:V)(H:Hp)(Q:VK):Prop
 | mk:(RI x y=true)->(Q (.bl (decide (x=y))) H)->IJ x y H Q
def kQ:R2:=λx y H Q=>IJ x y H Q
inductive I0 (x:V)(y:V)(H:Hp)(Q:VK):Prop
 | mk:(RI x y=true)->(Q (.bl (!decide (x=y))) H)->I0 x y H Q
def kI:R2:=λx y H Q=>I0 x y H Q
def YA :decide (V.int i=V.int j)=(i==j):=by rw[Bool.eq_iff_iff];simp
def Zh :decide (V.bl i=V.bl j)=(i==j):=by rw[Bool.eq_iff_iff];simp
def YG :decide (V.str i=V.str j)=(i==j):=by rw[Bool.eq_iff_iff];simp
def YE :decide (V.byt i=V.byt j)=(i.toList==j.toList):=by rw[Bool.eq_iff_iff];cases i;cases j;simp
def BI (I:AB X pins σ H s)(q:Q (.bl k) H)(e:k=k'):EP X pins σ Q (.bool k') s:=by subst e;show{.bl k,H,I,0,q}
def Am:Au X (compareOp .Eq) kQ:=by
 intro pins s σ H x y v u Q I U o h;let{J,q}:=h;cases x with
 | non=>
  cases U;cases y with
  | non=>cases o;show PySem.EqNone.eq_none_none (BI I q (by simp))
  | bl j=>cases o;show PySem.EqNone.eq_none_bool (BI I q (by simp))
  | int j=>let{C,0}:=o;show PySem.EqNone.eq_none_int (BI I q (by simp))
  | str j=>let{C,0}:=o;show PySem.EqNone.eq_none_str (BI I q (by simp))
  | _=>show absurd (show false=true from J) zk
 | bl i=>
  cases U;cases y with
  | non=>cases o;show PySem.EqNone.eq_bool_none (BI I q (by simp))
  | bl j=>cases o;show eq_bool (BI I q Zh)
  | str j=>let{C,0}:=o;show PySem.EqMixed.eq_bool_str (BI I q (by simp))
  | _=>show absurd (show false=true from J) zk
 | int i=>
  let{t,0}:=U;cases y with
  | non=>cases o;show PySem.EqNone.eq_int_none (BI I q (by simp))
  | int j=>let{C,0}:=o;show eq_int (BI I q YA)
  | str j=>let{C,0}:=o;show PySem.EqMixed.eq_int_str (BI I q (by simp))
  | _=>show absurd (show false=true from J) zk
 | str i=>
  let{t,0}:=U;cases y with
  | non=>cases o;show PySem.EqNone.eq_str_none (BI I q (by simp))
  | bl j=>cases o;show PySem.EqMixed.eq_str_bool (BI I q (by simp))
  | int j=>let{C,0}:=o;show PySem.EqMixed.eq_str_int (BI I q (by simp))
  | str j=>let{C,0}:=o;show eq_str (BI I q YG)
  | _=>show absurd (show false=true from J) zk
 | byt i=>
  let{t,0}:=U;cases y with
  | byt j=>let{C,0}:=o;show PySem.W.eq_bytes (BI I q YE)
  | _=>show absurd (show false=true from J) zk
 | _=>cases y <;> show absurd (show false=true from J) zk
def Cb:Au X (compareOp .NotEq) kI:=by
 intro pins s σ H x y v u Q I U o h;let{J,q}:=h;cases x with
 | non=>
  cases U;cases y with
  | non=>cases o;show PySem.EqNone.ne_none_none (BI I q (by simp))
  | bl j=>cases o;show PySem.EqNone.ne_none_bool (BI I q (by simp))
  | int j=>let{C,0}:=o;show PySem.EqNone.ne_none_int (BI I q (by simp))
  | str j=>let{C,0}:=o;show PySem.EqNone.ne_none_str (BI I q (by simp))
  | _=>show absurd (show false=true from J) zk
 | bl i=>
  cases U;cases y with
  | non=>cases o;show PySem.EqNone.ne_bool_none (BI I q (by simp))
  | bl j=>cases o;show ne_bool (BI I q (congrArg not Zh))
  | str j=>let{C,0}:=o;show PySem.EqMixed.ne_bool_str (BI I q (by simp))
  | _=>show absurd (show false=true from J) zk
 | int i=>
  let{t,0}:=U;cases y with
  | non=>cases o;show PySem.EqNone.ne_int_none (BI I q (by simp))
  | int j=>let{C,0}:=o;show ne_int (BI I q (congrArg not YA))
  | str j=>let{C,0}:=o;show PySem.EqMixed.ne_int_str (BI I q (by simp))
  | _=>show absurd (show false=true from J) zk
 | str i=>
  let{t,0}:=U;cases y with
  | non=>cases o;show PySem.EqNone.ne_str_none (BI I q (by simp))
  | bl j=>cases o;show PySem.EqMixed.ne_str_bool (BI I q (by simp))
  | int j=>let{C,0}:=o;show PySem.EqMixed.ne_str_int (BI I q (by simp))
  | str j=>let{C,0}:=o;show ne_str (BI I q (congrArg not YG))
  | _=>show absurd (show false=true from J) zk
 | byt i=>
  let{t,0}:=U;cases y with
  | byt j=>let{C,0}:=o;show PySem.W.ne_bytes (BI I q (congrArg not YE))
  | _=>show absurd (show false=true from J) zk
 | _=>cases y <;> show absurd (show false=true from J) zk
def N8:Au X (compareOp .Lt) (JN λi j=>.bl (decide (i<j))):=HU λ_ _ _ _ _ _ _ q=>lt_int q
def UQ:Au X (compareOp .LtE) (JN λi j=>.bl (decide (i<=j))):=HU λ_ _ _ _ _ _ _ q=>le_int q
def Jl:Au X (compareOp .Gt) (JN λi j=>.bl (decide (j<i))):=HU λ_ _ _ _ _ _ _ q=>gt_int q
def SU:Au X (compareOp .GtE) (JN λi j=>.bl (decide (j<=i))):=HU λ_ _ _ _ _ _ _ q=>ge_int q
def dY:Au X (compareOp .In) (λx y H Q=>∃i j,x=.str i/\y=.str j/\Q (.bl (!(Builtin.Str.occurrences j i 0 j.length 1).isEmpty)) H):=by intro pins s σ H x y v u Q I C o h;let{i,j,2,q}:=h;let{t,0}:=C;let{J,0}:=o;show in_str (BI I q rfl)
def CS:Au X (compareOp .Is) (λx y H Q=>y=.non/\Q (.bl (decide (x=.non))) H):=by
 intro pins s σ H x y v u Q I o C h;let{0,q}:=h;cases C;show is_none_gen (BI I q ?_);cases x <;> first
  | (cases o;rfl)
  | (let{t,0}:=o;rfl)
def Nz:Au X (compareOp .IsNot) (λx y H Q=>y=.non/\Q (.bl (!decide (x=.non))) H):=by
 intro pins s σ H x y v u Q I o C h;let{0,q}:=h;cases C;show isnot_none_gen (BI I q ?_);cases x <;> first
  | (cases o;rfl)
  | (let{t,0}:=o;rfl)
def zw (b)(h:autoParam (op ≠ .In) d_._auto_2)(o:autoParam (op ≠ .NotIn) d_._auto_2):behindInMarks op b=false:=by
 let I:(op==CmpOp.In)=false:=by cases op <;> first | rfl | show absurd rfl h
 let C:(op==CmpOp.NotIn)=false:=by cases op <;> first | rfl | show absurd rfl o
 cases b <;> simp[behindInMarks,I,C]
def BS (J:Au X (compareOp op) r)(ha:PE X a ta)(U:PE X b tb)(hm:behindInMarks op b=false):PE X (.Compare a [op] [b] pos) (Pj r ta tb):=by intro pins s σ H Q I h;show wpAny_Compare1 (Mc ha U I h λv u s2 x y H2 I2 C o q=>J pins s2 σ H2 x y v u Q I2 C o q) hm
inductive Zq (Q:Bool->Hp->Prop)(x:V)(H':Hp):Prop
 | mk:∀k,(x=.bl k)->(Q k H')->Zq Q x H'
def Oa (t:TE):TT:=λσ H Q=>t σ H λx H'=>Zq Q x H'
def zt (ho:Au X (compareOp op) r)(ha:PE X a ta)(hb:PE X b tb)(hm:behindInMarks op b=false):PT X (.Compare a [op] [b] pos) (Oa (Pj r ta tb)):=by
 intro pins s σ H Q I h;show wpAny_isTrue_Compare1 (AH (ha pins s σ H _ I h) λv s1 ⟨x,H1,I1,J,q1⟩=>AH (hb pins s1 σ H1 _ I1 q1) λu s2 ⟨y,H2,I2,C,q2⟩=>
  AH (ho pins s2 σ H2 x y v u _ I2 J C q2) λc s3 ⟨z,H3,I3,o,k,e,U⟩=>?_) hm
 subst e;cases o;show GC ⟨H3,I3,U⟩
def Ld (K:AG)(x:V)(H:Hp)(k:Bool):Prop:=
 match x with
 | .non=>k=false
 | .bl b=>k=b
 | .int i=>k=(i != 0)
 | .str y=>y.length<=sizeLine/\k=((y.length:Int) != 0)
 | .byt y=>y.size<=sizeLine/\k=((y.size:Int) != 0)
 | .ref p=>(∃xs,AA K H p xs/\k=!xs.isEmpty)\/(∃xs,AD K H p xs/\k=!xs.isEmpty)\/∃kR,H p=some (.dK kR)/\k=!kR.isEmpty
 | _=>False
def iR (r:KV kR vs):(!vs.isEmpty)=!kR.isEmpty:=by cases r <;> rfl
def cY (r:AI xs its):(!its.toArray.isEmpty)=!xs.isEmpty:=by cases r <;> simp
def Jm:(sizeLine:Nat)<2 ^ 63:=by rw[sizeLine_eq];decide
def cJ:Xz X (λx H Q=>∃k,Ld X.K x H k/\Q k H):=by
 intro pins s σ H x v Q I C h;let{k,e,q}:=h;let hl:=Jm;let hs:sizeLine=16777216:=sizeLine_eq;cases x with
 | non=>cases C;let o:k=false:=e;subst o;show truthy_none ⟨H,I,q⟩
 | bl b=>cases C;let o:k=b:=e;subst o;show GC ⟨H,I,q⟩
 | int i=>let{t,0}:=C;let o:k=(i != 0):=e;subst o;show PySem.P.truthy_int ⟨H,I,q⟩
 | str y=>let{t,0}:=C;obtain⟨hy,o⟩:y.length<=sizeLine/\k=((y.length:Int) != 0):=e;subst o;show PySem.P.truthy_str () {H,I.tok _,q}
 | byt y=>let{t,0}:=C;obtain⟨hy,o⟩:y.size<=sizeLine/\k=((y.size:Int) != 0):=e;subst o;show PySem.W.truthy_bytes () {H,I.tok _,q}
 | ref p=>
  cases C;let o:(∃xs,AA X.K H p xs/\k=!xs.isEmpty)\/(∃xs,AD X.K H p xs/\k=!xs.isEmpty)\/∃kR,H p=some (.dK kR)/\k=!kR.isEmpty:=e;rcases o with ⟨xs,J,o⟩ | ⟨xs,J,o⟩ | ⟨kR,J,o⟩
  . subst o;let{its,r,pl,hz}:=I.list J;let hlen:=r.length;show wpAny_truthy_list pl.isList (by simp only[zP];lia) {H,I.tok _,by rwa[cY r]}
  . subst o;let{its,r,pl,hz}:=I.tuple J;let hlen:=r.length;show truthy_tuple pl (by simp only[zP];lia) {H,I.tok _,by rwa[cY r]}
  . subst o;obtain⟨hz,hS,U,r,m⟩:kR.length<=sizeLine/\(p==sysModules)=false/\∃U,KV kR U/\s.heap.DictOf (BC X.prog X.w) p U:=I.hok p _ J;let hlen:kR.length=U.length:=Paired.length r;show wpAny_truthy_dict hS m () {H,I.tok _,by rwa[iR r]}
 | _=>show (show False from e).elim
def My (J:PE X a ta)(he:∀whole,isTrue a X.env whole=(do let v <-whole;standAt a.pos;holding [v] (truthy v))):
 PT X a (λσ H Q=>ta σ H λx H'=>∃k,Ld X.K x H' k/\Q k H'):=by
 intro pins s σ H Q I h;show isTrue_plain (AH (J pins s σ H _ I h) λv s1 ⟨x,H1,U,o,C⟩=>cJ pins s1 σ H1 x v Q U o C) (he _)
def BX (r:AI [x] us):∃u,us=[u]/\AR x u:=by
 cases r with
 | cons C o=>cases o;show{1,C}
def RP (r:AI [x,y] us):∃u o,us=[u,o]/\AR x u/\AR y o:=by
 cases r with
 | cons U J=>
  cases J with
  | cons I C=>cases C;show{7,U,I}
inductive OT (xs:List V)(H:Hp)(Q:VK):Prop
 | mk:∀i j,(xs=[.int i,.int j])->(Q (.int (if j > i then j else i)) H)->OT xs H Q
def VE (C:X.calm=true):CF X (.builtin "max") OT:=by
 intro pins s σ H xs us Q I r h;let{i,j,0,q}:=h;let{u,J,0,{t,0},{t',0}}:=RP r;show max_two_ints (I.ok.hd C) λh' U k=>{_,H,I.kept k,?_,q};by_cases o:j > i
 . rw[if_pos o,if_pos o];show{1}
 . rw[if_neg o,if_neg o];show{1}
inductive Oj (xs:List V)(H:Hp)(Q:VK):Prop
 | mk:∀i j,(xs=[.int i,.int j])->(Q (.int (if j<i then j else i)) H)->Oj xs H Q
def OF (C:X.calm=true):CF X (.builtin "min") Oj:=by
 intro pins s σ H xs us Q I r h;let{i,j,0,q}:=h;let{u,J,0,{t,0},{t',0}}:=RP r;show min_two_ints (I.ok.hd C) λh' U k=>{_,H,I.kept k,?_,q};by_cases o:j<i
 . rw[if_pos o,if_pos o];show{1}
 . rw[if_neg o,if_neg o];show{1}
def cg:CF X (.type "int") (λxs H Q=>(∃i,xs=[.int i]/\Q (.int i) H)\/∃k,xs=[.bl k]/\Q (.int (if k then 1 else 0)) H):=by
 intro pins s σ H xs us Q I r h;rcases h with ⟨i,rfl,q⟩ | ⟨k,rfl,q⟩
 . let{u,0,t,0}:=BX r;show call_int_int {.int i,H,I,{1},q}
 . let{u,0,o}:=BX r;cases o;show call_int_bool {.int (if k then 1 else 0),H,I.tok _,{1},q}
structure JT (h:Heap)(x dx C:Addr)(mA:Aj):Prop where
 obj:h.get? x=some (PySem.W.instObj C dx)
 ns:h.Ns1 dx mA
 ne:dx≠x
def dO {h:Heap}(n:h.Ns1 dx mA):∃I,h.get? dx=some I/\∀name,PySem.W.lookIn name I=some (mA name):=by
 let{o,es,ep,U,hd,hk,_,hm}:=n;show{o,U,λname=>?_};let e:=hm name;unfold nsFind findBy at e;rw[<-Array.find?_toList] at e;unfold PySem.W.lookIn;rw[hd];dsimp only;split
 . rename_i y q
   rw[q] at e;show congrArg some e
 . rename_i q
   rw[q] at e;let a:es.toList.any (·.refKey)=false:=by rw[List.any_eq_false];intro y J;let{z,t,C}:=hk y (Array.mem_toList_iff.mp J);simp[DictEntry.refKey,C]
   let a':¬ es.toList.any (·.refKey)=true:=by rw[a];show zk
   rw[if_neg a'];show congrArg some e
def JT.look (I:JT h x dx C mA):∃o,PySem.W.InstAt h x (PySem.W.instObj C dx) C (some o)/\∀name,PySem.W.lookIn name o=some (mA name):=
 let ⟨o,J,U⟩:=dO I.ns
 {o,{I.obj,2,J},U}
section
variable {prog:Program}{w:World}{A:Around}{E:Dq}{s:Shared}{K:AG}{x dx C f:Addr}{mA:Aj}{name:Str}{v:Value}
def iN (X:K.In s.heap)(I:JT s.heap x dx C mA)(hg:PySem.W.plainGet K C name=true)(hh:PySem.W.hasDictIn K C=true)
 (ha:PySem.W.findIn K (.ref C) name=some none)(U:mA name=some v)(o:PySem.W.handedIn v=true)(h:Q v { s with toks:=s.toks+1 }):
 wpAny (model prog w) A (getAttr (.ref x) name expr) Q E s:=by
 let{od,J,hl}:=I.look;show PySem.W.get_value X J (PySem.W.plainGet_of hg).1 (PySem.W.findObj_own hh ha rfl (by rw[hl,U])) o h
def iE (X:K.In s.heap)(I:JT s.heap x dx C mA)(o:PySem.W.plainGet K C name=true)
 (hf:PySem.W.findIn K (.ref C) name=some (some (.ref f)))(ht:PySem.W.isFn K (.ref f)=true)(hv:mA name=none)(h:Q (.ref f,[.ref x]) s):
 wpAny (model prog w) A (getMethod (.ref x) name pl) Q E s:=by
 let{U,J,hl}:=I.look;show PySem.W.method_fn X J (PySem.W.plainGet_of o).1 (PySem.W.plainGet_of o).2 hf (beq_iff_eq.mp ht) (by change (PySem.W.lookIn name U).map (·.isSome)=some false;rw[hl,hv];rfl) h
def i4 (X:K.In s.heap)(I:JT s.heap x dx C mA)
 (hs:PySem.W.findIn K (.ref C) "__setattr__"=some (some (.builtin "object.__setattr__"))) (hp:PySem.W.plainOver K C=true)(ht:PySem.W.takerIn K C name=some none)(hh:PySem.W.hasDictIn K C=true)
 (hw:PySem.Within mA ns)(hsz:ns.length<=sizeLine)
 (h:∀h',JT h' x dx C (λy=>if y=name then some v else mA y)->Heap.SameBut dx s.heap h'->Q Unit.unit { s with heap:=h',toks:=s.toks+2 }):
 wpAny (model prog w) A (setAttr (.ref x) name v) Q E s:=by
 let{od,J,hl}:=I.look;show PySem.W.set_plain X J hs (PySem.W.osa_open (s:={ s with toks:=s.toks+1 }) (r:=none) X J hp ht λb=>?_);let{cd,hc,hd'}:=PySem.W.any_some hh;let hx:s.heap.get? x=some {.ref C,some dx,.plain,#[]}:=I.obj;show zD (zI (zD (zD (wpAny_loadPart hx (zD (PySem.W.Looks.here (s:={ s with toks:=s.toks+1 }) (PySem.W.looks_clsIn X hc) ?_))))));rw[hd'];show zI (a:=some dx) (zD (zI (zD ?_)));show wpAny_nsSet1 (s:={ s with toks:=s.toks+1 }) I.ns λh' o l6=>?_;let{oD,esD,epD,U,hdD,hcD}:=o.count (PySem.Within.cons name v hw);show zD (wpAny_lookBehind U (by rw[hdD];show pastItsLine_dict (zn hcD (by rw[zj];lia))) ?_);show zI (h _ {(l6.2 _ (Ne.symm I.ne)).trans I.obj,o,I.ne} l6)
def dD (X:K.In s.heap)(hm:PySem.W.makesIn K C=true)
 (hi:PySem.W.findIn K (.ref C) "__init__"=some (some (.ref f))) (hf:PySem.W.typeIn K (.ref f)=some (.type "function"))
 (h:codeAny (model prog w) (A.under (.builtin "type.__call__" ⟨.ref C::vs,kw⟩)) (.call (.ref f) ⟨.ref (s.heap.objs.size+1)::vs,kw⟩) (PySem.W.InitBack (s.heap.objs.size+1) R)
  { s with heap:=(s.heap.push PySem.W.emptyDict).push (PySem.W.instObj C s.heap.objs.size) }):
 codeAny (model prog w) A (.call (.ref C) ⟨vs,kw⟩) R s:=by
 let{o,g,d,t,os}:=s;show PySem.W.make_core (PySem.W.makes_of X hm) (PySem.W.looks_findIn X hi) (λself=>PySem.W.bind_fn X self hf) (.inl rfl) h
end
meta def BQ (f:Str)(v:V):List (Str×V)->List (Str×V)
 | []=>[(f,v)]
 | (g,x)::r=>if g=f then (g,v)::r else (g,x)::BQ f v r
def aR (f g)(v):∀fs:List (Str×V),(BQ f v fs).lookup g=if g=f then some v else fs.lookup g
 | []=>by
  change List.lookup g [(f,v)]=_;by_cases h:g=f
  . let o:(g==f)=true:=beq_iff_eq.mpr h;simp only[List.lookup,o,if_pos h]
  . let o:(g==f)=false:=beq_eq_false_iff_ne.mpr h;simp only[List.lookup,o,if_neg h]
 | (k,x)::r=>by
  let I:=aR f g v r;rw[show BQ f v ((k,x)::r)=(if k=f then (k,v)::r else (k,x)::BQ f v r) from rfl]
  by_cases C:k=f
  . rw[if_pos C];by_cases h:g=k
    . let o:(g==k)=true:=beq_iff_eq.mpr h;simp only[List.lookup,o,if_pos (h.trans C)]
    . let o:(g==k)=false:=beq_eq_false_iff_ne.mpr h;simp only[List.lookup,o,if_neg (λe:g=f=>h (e.trans C.symm))]
  . rw[if_neg C];by_cases h:g=k
    . let o:(g==k)=true:=beq_iff_eq.mpr h;simp only[List.lookup,o,if_neg (λe:g=f=>C (h.symm.trans e))]
    . let o:(g==k)=false:=beq_eq_false_iff_ne.mpr h;simp only[List.lookup,o];show I
def VT (f)(v):∀fs:List (Str×V),f∈(BQ f v fs).map (·.1)/\∀g,g∈fs.map (·.1)->g∈(BQ f v fs).map (·.1)
 | []=>{by simp[BQ],λg h=>by simp at h}
 | (k,x)::r=>by
  let{I,C}:=VT f v r;rw[show BQ f v ((k,x)::r)=(if k=f then (k,v)::r else (k,x)::BQ f v r) from rfl]
  by_cases o:k=f
  . rw[if_pos o];subst o;show{by simp,λg h=>by simpa using h}
  . rw[if_neg o];show{?_,λg h=>?_}
    . rw[Bg];show zr _ I
    . rw[Bg] at h ⊢;rcases zZ.mp h with e | e
      . show zZ.mpr (.inl e)
      . show zr _ (C g e)
def Yu (f)(v):∀fs:List (Str×V),(BQ f v fs).length<=fs.length+1
 | []=>by simp[BQ]
 | (k,x)::r=>by
  let C:=Yu f v r;rw[show BQ f v ((k,x)::r)=(if k=f then (k,v)::r else (k,x)::BQ f v r) from rfl]
  by_cases o:k=f
  . rw[if_pos o,zj,zj];lia
  . rw[if_neg o,zj,zj];lia
def CU.some_of (r:CU (some v) o):∃u,o=some u/\AR v u:=by
 cases o with
 | none=>show (show False from r).elim
 | some u=>show{u,0,r}
def CU.none_of (r:CU none o):o=none:=by
 cases o with
 | none=>rfl
 | some u=>show (show False from r).elim
def gN (r:AR v u):PySem.W.handedIn u=true:=by
 cases v with
 | non=>cases (show u=Value.none from r);rfl
 | bl b=>cases (show u=Value.bool b from r);rfl
 | int i=>let{t,e}:=(show ∃t,u=Value.int i t from r);cases e;rfl
 | str x=>let{t,e}:=(show ∃t,u=Value.str x t from r);cases e;rfl
 | byt b=>let{t,e}:=(show ∃t,u=Value.bytes b t from r);cases e;rfl
 | flt b=>let{t,e}:=(show ∃t,u=Value.float b t from r);cases e;rfl
 | ref a=>cases (show u=Value.ref a from r);rfl
 | ty n=>cases (show u=Value.type n from r);rfl
def Sw (o:BF P w H h)(e:H a=some (.ins C dx fs)):∃mA,JT h a dx C mA/\(∀f,CU (fs.lookup f) (mA f))/\PySem.Within mA (fs.map (·.1))/\fs.length<=1000/\H dx=some (.own a):=by let{d,z,ne,I,mA,n,r,q}:=(show BD P w H h a (.ins C dx fs) from o a _ e);show{mA,⟨I,n,ne⟩,r,q,z,d}
structure DT (K:AG)(C:Addr):Prop where
 pg:PySem.W.plainGet K C Str.empty=true
 hd:PySem.W.hasDictIn K C=true
 po:PySem.W.plainOver K C=true
 sa:PySem.W.findIn K (.ref C) "__setattr__"=some (some (.builtin "object.__setattr__"))
def DT.get {K:AG}(c:DT K C)(f):PySem.W.plainGet K C f=true:=c.pg
def DV (K:AG)(C:Addr)(f:Str):Prop:=PySem.W.findIn K (.ref C) f=some none
def DV.taker {K:AG}(n:DV K C f):PySem.W.takerIn K C f=some none:=by unfold PySem.W.takerIn;rw[show PySem.W.findIn K (.ref C) f=some none from n];rfl
structure EJ (K:AG)(C:Addr)(m:Str)(f:Addr):Prop where
 at_:PySem.W.findIn K (.ref C) m=some (some (.ref f))
 fn:PySem.W.isFn K (.ref f)=true
 kp:PySem.W.keepIn K (.ref f)=true
def dR (I:AB X pins σ H s)(e:H a=some (.ins C dx fs))(c:DT X.K C)(n:DV X.K C f)(l:fs.lookup f=some v)
 (h:∀u J,AB X pins σ H J->AR v u->Q u J):wpAny (model X.prog X.w) A (getAttr (.ref a) f b) Q E s:=by
 let{mA,O,r,_,3}:=Sw I.hok e;let{u,hu,U}:=CU.some_of (v:=v) (o:=mA f) (by rw[<-l];show r f);show iN I.kIn O (c.get f) c.hd n hu (gN U) (h u _ (I.tok _) U)
def Z5 (I:AB X pins σ H s)(e:H a=some (.ins C dx fs))(c:DT X.K C)(k:EJ X.K C m g)(l:fs.lookup m=none)
 (h:Q (.ref g,[.ref a]) s):wpAny (model X.prog X.w) A (getMethod (.ref a) m pl) Q E s:=by
 let{mA,O,r,_,3}:=Sw I.hok e;let o:mA m=none:=CU.none_of (by rw[<-l];show r m);show iE I.kIn O (c.get m) k.at_ k.fn o h
def dH (I:AB X pins σ H s)(e:H a=some (.ins C dx fs))(c:DT X.K C)(n:DV X.K C f)(hl:fs.length<1000)(ry:AR y u)
 (h:∀s',AB X pins σ (upd H a (.ins C dx (BQ f y fs))) s'->Q Unit.unit s'):wpAny (model X.prog X.w) A (setAttr (.ref a) f u) Q E s:=by
 let{mA,O,r,U,_,ho}:=Sw I.hok e;let hz:(fs.map (·.1)).length<=sizeLine:=by rw[zA,sizeLine_eq];lia
 show i4 I.kIn O c.sa c.po n.taker c.hd U hz λh' J sb=>h _ ?_;let hd:∃o,h'.get? dx=some o:=let {o,3,e',_}:=J.ns;⟨o,e'⟩;show I.write (x:=a) (e:=dx) (by rw[e];show True.intro) (.inr ho) (λb q hb z=>(sb.2 b hb).trans z) hd ?_;show{by rwa[zg O.ne],?_,O.ne,J.obj,_,J.ns,λg=>?_,λg hg=>?_}
 . let:=Yu f y fs;lia
 . change CU ((BQ f y fs).lookup g) (if g=f then some u else mA g)
   rw[aR];by_cases q:g=f
   . rwa[if_pos q,if_pos q]
   . rw[if_neg q,if_neg q];show r g
 . by_cases q:g=f
   . rw[q];show (VT f y fs).1
   . show (VT f y fs).2 g (U g λz=>hg ?_);change (if g=f then some u else mA g)=none
     rwa[if_neg q]
def AB.made (I:AB X pins σ H s):AB X pins σ (upd (upd H s.heap.objs.size (.own (s.heap.objs.size+1))) (s.heap.objs.size+1) (.ins C s.heap.objs.size []))
 { s with heap:=(s.heap.push PySem.W.emptyDict).push (PySem.W.instObj C s.heap.objs.size) }:=by
 let J:(s.heap.push PySem.W.emptyDict).get? s.heap.objs.size=some PySem.W.emptyDict:=zU s.heap rfl;let e2:((s.heap.push PySem.W.emptyDict).push (PySem.W.instObj C s.heap.objs.size)).get? (s.heap.objs.size+1)=some (PySem.W.instObj C s.heap.objs.size):=by let:=zU (s.heap.push PySem.W.emptyDict) (o:=PySem.W.instObj C s.heap.objs.size) rfl;rwa [DE] at this
 let e3:(s.heap.push PySem.W.emptyDict).Ns s.heap.objs.size (λ_=>none):={PySem.W.emptyDict,#[],_,J,0,(λe he=>absurd he (by simp)),λ_=>rfl};let I1:=I.laid (a:=s.heap.objs.size) (o:=.own (s.heap.objs.size+1)) (h':=s.heap.push PySem.W.emptyDict) (t':=s.toks) (λb u q=>zM _ q) (zL _) {_,J};show I1.laid (a:=s.heap.objs.size+1) (o:=.ins C s.heap.objs.size []) (t':=s.toks) (λb u q=>zM _ q) (Nat.le_of_eq (DE _ _)) ?_;let ne:s.heap.objs.size≠s.heap.objs.size+1:=zh (Nat.lt_succ_self _);show{by rw[zg ne,zF],zd _,ne,e2,λ_=>none,(Heap.Ns1.of_empty e3).at λo q=>zM _ q,λ_=>True.intro,λy U=>absurd rfl U}
def gT (I:attributeBase e f env (eval e env)=eval e env)
 (h:wpAny (model prog w) A (eval e env) (λo C=>wpAny (model prog w) A (getAttr o f true) Q E C) E s):wpAny (model prog w) A (eval (.Attribute e f pos) env) Q E s:=
 Attribute_any_ h (by rw[arm_eval_Attribute,I])
inductive aF (K:AG)(f:Str)(Q:VK)(x:V)(H1:Hp):Prop
 | mk:∀a C dx fs v,(x=.ref a)->(H1 a=some (.ins C dx fs))->(DT K C)->(DV K C f)->(fs.lookup f=some v)->(Q v H1)->aF K f Q x H1
def QC (K:AG)(ta:TE)(f:Str):TE:=λσ H Q=>ta σ H λx H1=>aF K f Q x H1
inductive aG (K:AG)(f:Str)(D:EE)(σ:St)(y:V)(x:V)(H2:Hp):Prop
 | mk:∀a C dx fs,(x=.ref a)->(H2 a=some (.ins C dx fs))->(DT K C)->(DV K C f)->(fs.length<1000)->(D.nx σ (upd H2 a (.ins C dx (BQ f y fs))))->aG K f D σ y x H2
def V2 (K:AG)(ta tv:TE)(f:Str):TS:=λD σ H=>tv σ H λy H1=>ta σ H1 λx o=>aG K f D σ y x o
def Dc (he:PE X e ta)(U:attributeBase e f X.env (eval e X.env)=eval e X.env):PE X (.Attribute e f pos) (QC X.K ta f):=by intro pins s σ H Q I h;show gT U (AH (he pins s σ H _ I h) λu s1 z0=>?_);let{x,H1,I1,o,a,C,dx,fs,v,ex,ea,c,n,l,q}:=z0;subst ex;obtain rfl:u=Value.ref a:=o;show dR I1 ea c n l λu' s2 I2 J=>⟨v,H1,I2,J,q⟩
def JV (ha:PE X o ta)(hv:PE X value tv)(hs:swapsWith value (some (.Attribute o f pos')) pos.line X.env=pure false):PS X (.Assign [.Attribute o f pos'] value pos) (V2 X.K ta tv f):=by intro pins s σ H D I h;show plainObj_wpAny_Assign_Attribute (AH (hv pins s σ H _ I h) λu s1 ⟨y,H1,I1,J,q⟩=>AH (ha pins s1 σ H1 _ I1 q) λov s2 z0=>?_) hs;let{x,H2,I2,U,a,C,dx,fs,ex,ea,c,n,l,q2}:=z0;subst ex;obtain rfl:ov=Value.ref a:=U;show dH I2 ea c n l J λs3 I3=>{σ,_,I3,q2}
inductive D0 (K:AG)(H:Hp):V->Value->Prop where
 | non:D0 K H .non (.type "NoneType")
 | bl (x:Bool):D0 K H (.bl x) (.type "bool")
 | int (i:Int):D0 K H (.int i) (.type "int")
 | str (x:Str):D0 K H (.str x) (.type "str")
 | flt (x:UInt64):D0 K H (.flt x) (.type "float")
 | lst {a:Addr}{xs:List V}(e:H a=some (.lst xs)):D0 K H (.ref a) (.type "list")
 | frz {a:Addr}{o:Obj}{xs:List V}(e:H a=some (.frz o (.lst xs))):D0 K H (.ref a) (.type "list")
 | tup {a:Addr}{xs:List V}(e:H a=some (.tup xs)):D0 K H (.ref a) (.type "tuple")
 | dK {a:Addr}{kR:List (AS×V)}(e:H a=some (.dK kR)):D0 K H (.ref a) (.type "dict")
 | dT {a:Addr}{kR:List (List AS×V)}(e:H a=some (.dT kR)):D0 K H (.ref a) (.type "dict")
 | ins {a C dx:Addr}{fs:List (Str×V)}(e:H a=some (.ins C dx fs))(cl:DT K C)(ha:PySem.W.findIn K (.ref C) "__class__"=some (some (.builtin "object.__class__")))
  (hn:PySem.W.specialIn K (.builtin "object.__class__") "__get__"=some (some (.builtin "getset_descriptor.__get__"))) (htk:PySem.W.takesIn K (.builtin "object.__class__")=some true)
  (hm:PySem.W.mroIn K C (.type "object")=some true):D0 K H (.ref a) (.ref C)
def iZ (I:AB X pins σ H s)(U:AR x u)(ty:D0 X.K H x t)(e:PySem.W.kitOne X.K t c=some b)(h:∀tk,Q (.bool b) { s with toks:=tk }):
 wpAny (model X.prog X.w) A (call (.builtin "isinstance") [u,c]) Q E s:=by
 cases ty with
 | non=>cases (show u=Value.none from U);show PySem.W.kia_one PySem.W.kitx_none I.kIn True.intro e (λz=>nomatch z) h
 | bl y=>cases (show u=Value.bool y from U);show PySem.W.kia_one PySem.W.kitx_bool I.kIn True.intro e (λz=>nomatch z) h
 | int i=>let{t,q}:=(show ∃t,u=Value.int i t from U);cases q;show PySem.W.kia_one PySem.W.kitx_int I.kIn True.intro e (λz=>nomatch z) h
 | str y=>let{t,q}:=(show ∃t,u=Value.str y t from U);cases q;show PySem.W.kia_one PySem.W.kitx_str I.kIn True.intro e (λz=>nomatch z) h
 | flt y=>let{t,q}:=(show ∃t,u=Value.float y t from U);cases q;show PySem.W.kia_one PySem.W.kitx_float I.kIn True.intro e (λz=>nomatch z) h
 | @lst a xs ea=>cases (show u=Value.ref a from U);let{3,n,_,h1}:=(show BD X.prog X.w H s.heap a (.lst xs) from I.hok a _ ea);show PySem.W.kia_one PySem.W.kitx_list I.kIn {_,h1,0} e (λz=>nomatch z) h
 | @frz a ob xs ea=>cases (show u=Value.ref a from U);let{_,3,n,_,h1}:=(show BD X.prog X.w H s.heap a (.frz ob (.lst xs)) from I.hok a _ ea);show PySem.W.kia_one PySem.W.kitx_list I.kIn {_,h1,0} e (λz=>nomatch z) h
 | @tup a xs ea=>cases (show u=Value.ref a from U);let{_,3,p}:=(show BD X.prog X.w H s.heap a (.tup xs) from I.hok a _ ea);let{o,h1,h2,_}:=p;show PySem.W.kia_one PySem.W.kitx_tuple I.kIn ⟨o,h1,h2⟩ e (λz=>nomatch z) h
 | @dK a kR ea=>cases (show u=Value.ref a from U);let{3,vs,_,p}:=(show BD X.prog X.w H s.heap a (.dK kR) from I.hok a _ ea);let{o,es,ep,h1,h2,_}:=p;show PySem.W.kia_one PySem.W.kitx_dict I.kIn ⟨o,h1,h2.1⟩ e (λz=>nomatch z) h
 | @dT a kR ea=>cases (show u=Value.ref a from U);let{3,xs,_,o,es,ep,h1,h2,_}:=(show BD X.prog X.w H s.heap a (.dT kR) from I.hok a _ ea);show PySem.W.kia_one PySem.W.kitx_dict I.kIn ⟨o,h1,h2.1⟩ e (λz=>nomatch z) h
 | @ins a C dx fs ea cl ha hn htk hm=>cases (show u=Value.ref a from U);let{mA,O,_}:=Sw I.hok ea;let{od,J,_}:=O.look;show PySem.W.kia_one (PySem.W.kitx_own (cl.get _) cl.hd ha hn htk hm) I.kIn J e (λz=>nomatch z) h
structure A2 (k:Nat)(A:Around):Prop where
 hd:A.handled=none
 dp:A.depth+3*k+5<recursionLimit
 un:A.units+16*k+200<cLine
 gd:A.guards=some []
def A2.mono (r:A2 k A)(h:j<=k):A2 j A:={r.hd,by let:=r.dp;lia,by let:=r.un;lia,r.gd}
def A2.deeper (r:A2 (k+1) A)(env:Env):A2 k (A.deeper env):=
 {r.hd,by let:=r.dp;change A.depth+1+3*k+5<_;lia,by let:=r.un;change A.units+3+16*k+200<_;lia,r.gd}
def A2.in1 (r:A2 (k+1) A):A2 k A.in1:=
 {r.hd,by let:=r.dp;change A.depth+3*k+5<_;lia,by let:=r.un;change A.units+1+16*k+200<_;lia,r.gd}
def iO {A:Around}:(A.under (.builtin "type.__call__" {.ref C::us,kw})).depth=A.depth+1:=by
 first | rfl | simp[Around.under,Code.weight,Code.isCreation,Code.isGuard,Code.isCaller,Code.frames,Code.isFrame,guardIds]
def fJ {A:Around}:(A.under (.builtin "type.__call__" {.ref C::us,kw})).units=A.units+1:=by
 first | rfl | simp[Around.under,Code.cUnits,Code.frames,Code.isFrame]
def A2.make (r:A2 (k+1) A)(C)(us)(kw):A2 k (A.under (.builtin "type.__call__" {.ref C::us,kw})):=
 {r.hd,by let:=r.dp;rw[iO];lia,by let:=r.un;rw[fJ];lia,by first | show r.gd | (simp[Around.under,Code.guards,Code.isGuard,guardIds,pushGuards];show r.gd)}
def A2.depth (r:A2 k A):A.depth<recursionLimit:=by let:=r.dp;lia
def A2.units (r:A2 k A):A.units+64<cLine:=by let:=r.un;lia
def A2.units0 (r:A2 k A):A.units<cLine:=by let:=r.un;lia
def G3:TA:=λ_ H Q=>Q [] H
def U0 (ta:TE)(o:TA):TA:=λσ H Q=>ta σ H λx H1=>o σ H1 λxs C=>Q (x::xs) C
def zJ:PA X [] G3:=λ_ _ _ _ H Q I h=>Calls.spliced_nil {[],H,I,.nil,h}
def zB (ha:PE X e te)(hr:PA X es t)(hs:autoParam (starEach (e::es) X.env=(false,eval e X.env)::starEach es X.env) d_._auto_5):PA X (e::es) (U0 te t):=by intro pos pins s σ H Q I h;rw[hs];change wpAny _ _ (spliced ((false,eval e X.env)::backTo pos (starEach es X.env))) _ _ s;show Calls.spliced_cons (AH (ha pins s σ H _ I h) λu s1 ⟨x,H1,I1,C,U⟩=>?_);show AH (hr pos pins s1 σ H1 _ I1 U) λus s2 ⟨xs,H2,I2,o,J⟩=>{x::xs,H2,I2,.cons C o,J}
inductive aD (Q:VK)(xs:List V)(H1:Hp):Prop
 | mk:(xs.length<=sizeLine)->(∀p,H1 p=none->Q (.ref p) (upd H1 p (.tup xs)))->aD Q xs H1
def WH (t:TA):TE:=λσ H Q=>t σ H λxs H1=>aD Q xs H1
inductive Yk (Q:VK)(xs:List V)(H1:Hp):Prop
 | mk:(xs.length<=sizeLine)->(∀p,H1 p=none->Q (.ref p) (upd H1 p (.lst xs)))->Yk Q xs H1
def PV (t:TA):TE:=λσ H Q=>t σ H λxs H1=>Yk Q xs H1
def BY {x1} (h:PA X es t):PE X (.Tuple es x1 pos) (WH t):=by intro pins s σ H Q I C;show wpAny_Tuple_spliced (AH (h pos pins s σ H _ I C) λus s1 ⟨xs,H1,o,r,z,q⟩=>{by rwa[<-r.length],?_});let hf:H1 s1.heap.objs.size=none:=o.hok.fresh (zL _);show{.ref s1.heap.objs.size,upd H1 s1.heap.objs.size (.tup xs),o.laid (t':=s1.toks) (λb u e=>zM _ e) (zL _) ?_,0,q _ hf};show{{z,_,zU _ rfl,0},us,r,{_,zU _ rfl,6}}
def BA (h:PA X es t):PE X (.List es pos) (PV t):=by intro pins s σ H Q I C;show wpAny_List_spliced (AH (h pos pins s σ H _ I C) λus s1 ⟨xs,H1,o,r,z,q⟩=>{by rwa[<-r.length],?_});let hf:H1 s1.heap.objs.size=none:=o.hok.fresh (zL _);show{.ref s1.heap.objs.size,upd H1 s1.heap.objs.size (.lst xs),o.laid (t':=s1.toks) (λb u e=>zM _ e) (zL _) ?_,0,q _ hf};show⟨z,us,0,r,zU _ rfl⟩
abbrev Sp:=List V->Hp->VK->XK->Prop
abbrev NS:=List Env->Hp->Shared->XK->Value->Shared->Prop
structure Ji (P:Program)(w:World)(K:AG)(mg:Aj)(base:Heap)(A:Around)(outer:List Env)(s:Shared)(H:Hp):Prop where
 frames:A.frames=some outer
 mod:Mod K mg base
 bs:∀b o,base.get? b=some o->s.heap.get? b=some o/\H b=none
 bsz:base.objs.size<=s.heap.objs.size
 funs:s.heap.FunFrames base outer
 frf:∀b∈DR outer,H b=none
 hok:BF P w H s.heap
 bare:AllBare s.gens
def CE (outer:List Env)(P:Program)(w:World)(H:Hp)(s:Shared)(Q:VK)(u:Value)(o:Shared):Prop:=
 ∃v H',o.os=s.os/\AllBare o.gens/\Un (DR outer) [] H H' s.heap o.heap/\BF P w H' o.heap/\AR v u/\Q v H'
def CR (CX:NS)(outer:List Env)(P:Program)(w:World)(H:Hp)(s:Shared)(Q:VK)(E:XK)(r:Result)(o:Shared):Prop:=
 match r with
 | .ok (.ret u)=>CE outer P w H s Q u o
 | .ok _=>False
 | .error e=>CX outer H s E e o
structure Bh (P:Program)(w:World)(K:AG)(mg:Aj)(base:Heap)(CX:NS)(k:Nat)(f:Addr)(fd:FuncData)(ps:List Str)(sp:Sp):Prop where
 len:∀vs H Q E,sp vs H Q E->vs.length=ps.length
 run:∀(A:Around)(outer:List Env)(s:Shared)(H:Hp)(args:Args)(us:List Value)(vs:List V)(Q:VK)(E:XK),A2 k A->Ji P w K mg base A outer s H->BindsTo s fd args (ps.zip us)->AI vs us->sp vs H Q E ->
  codeAny (model P w) A (.call (.ref f) args) (CR CX outer P w H s Q E) s
def Bh.mono {K:AG}(F:Bh P w K mg base CX j f fd ps sp)(h:autoParam (j<=k) d_._auto_2):
 Bh P w K mg base CX k f fd ps sp:={F.len,λA outer s H args us o Q E C=>F.run A outer s H args us o Q E (C.mono h)}
def Bh.imp {K:AG}(F:Bh P w K mg base CX k f fd ps sp)
 (h:∀vs H Q E,sp' vs H Q E->sp vs H Q E):Bh P w K mg base CX k f fd ps sp':=
 {λvs H Q E q=>F.len vs H Q E (h _ _ _ _ q),λA outer s H args us vs Q E I he J o C=>F.run A outer s H args us vs Q E I he J o (h _ _ _ _ C)}
def Ji.make {K:AG}(e:Ji P w K mg base A outer s H)(C)(us)(kw):
 Ji P w K mg base (A.under (.builtin "type.__call__" {.ref C::us,kw})) outer s H:={by first | show e.frames | (simpa [Around.under,Code.envs,Code.isFrame,pushEnvs] using e.frames),e.mod,e.bs,e.bsz,e.funs,e.frf,e.hok,e.bare}
def AB.env0 (I:AB X pins σ H s):Ji X.prog X.w X.K X.mg X.base X.A X.stack s H:=
 {I.ok.frames,I.ok.mod,I.bs,zn I.ok.bsz I.sz,I.stack,I.stkFree,I.hok,I.bare}
def AB.after (I:AB X pins σ H s)(h:CE X.stack X.prog X.w H s Q u s'):EP X pins σ Q u s':=by let{v,H',os,bare,un,C,r,q}:=h;let{J,g,d,t,o}:=s';obtain rfl:o=s.os:=os;show{v,H',I.call (h':=J) (g':=g) (d':=d) (t':=t) (ch:=[]) un C bare (λb z=>absurd z (by simp)),r,q}
def VJ (sp:Sp)(C:List V)(E:XK)(t:TA):TE:=λσ H Q=>t σ H λo H1=>sp (o++C) H1 Q E
inductive bf (C:Addr)(m:Str)(sp:Sp)(mG:List V)(E:XK)(t:TA)(σ:St)(Q:VK)(x:V)(H1:Hp):Prop
 | mk:∀a dx fs,(x=.ref a)->(H1 a=some (.ins C dx fs))->(fs.lookup m=none)->(t σ H1 λvs H2=>sp (x::(vs++mG)) H2 Q E)->bf C m sp mG E t σ Q x H1
def SQ (C:Addr)(m:Str)(sp:Sp)(o:List V)(E:XK)(ta:TE)(t:TA):TE:=λσ H Q=>ta σ H λx H1=>bf C m sp o E t σ Q x H1
def Il (C:Addr)(sp:Sp)(I:List V)(E:XK)(t:TA):TE:=λσ H Q=>t σ H λo H1=>∀x dx,H1 x=none->H1 dx=none->dx≠x ->
 sp (.ref x::(o++I)) (upd (upd H1 dx (.own x)) x (.ins C dx [])) (λv J=>v=.non/\Q (.ref x) J) E
def Cz (K:AG)(fd:FuncData)(ps:List Str)(ds:List Value):Prop:=
 ∀s us,K.In s.heap->(us++ds).length=ps.length->BindsTo s fd {us,[]} (ps.zip (us++ds))
def Cz.all {K:AG}(h:∀us:List Value,us.length=ps.length->bindArgs fd {us,[]}=pure (ps.zip us)):Cz K fd ps []:=λs us _ o=>by rw[BW] at o ⊢;show .of_eq (h us o)
def Jk (CX:NS)(X:Cx)(E:XK):Prop:=∀pins σ H s e o,AB X pins σ H s->CX X.stack H s E e o->X.xe e o
def Ug (F:Bh X.prog X.w X.K X.mg X.base CX k f fd ps sp)(hr:A2 k X.A)(hb:Cz X.K fd ps ds)(hd:AI mG ds)(U:Jk CX X E)
 (I:AB X pins σ H s)(r:AI vs us)(h:sp (vs++mG) H Q E):wpAny (model X.prog X.w) X.A (call (.ref f) us) (EP X pins σ Q) X.xe s:=by
 let C:AI (vs++mG) (us++ds):=r.append hd;let hl:(us++ds).length=ps.length:=by rw[<-C.length];show F.len _ _ _ _ h
 show Dv (codeAny_mono (F.run X.A X.stack s H {us,[]} (us++ds) (vs++mG) Q E hr I.env0 (hb s us I.kIn hl) C h) λr J o=>?_);cases r with
 | error e=>show U pins σ H s e J I o
 | ok fl=>
  cases fl with
  | ret u=>show I.after o
  | next=>show False.elim o
  | brk=>show False.elim o
  | cont=>show False.elim o
def iU (F:Bh X.prog X.w X.K X.mg X.base CX k f fd ps sp)(hr:A2 k X.A)(hg:Gl X x)(hm:X.mg x=some (.ref f))(hk:PySem.W.keepIn X.K (.ref f)=true)(hb:Cz X.K fd ps ds)(hd:AI mG ds)(U:Jk CX X E)
 (ha:PA X (e::es) t)(C:autoParam ((x==("__debug__" : Str))=false) d_._auto_2) (he:autoParam (starEach (e::es) X.env=(false,eval e X.env)::starEach es X.env) d_._auto_5)(J:autoParam ((backTo pos (starEach es X.env)).any (·.1)=false) d_._auto_5):
 PE X (.Call (.Name x p) (e::es) [] pos) (VJ sp mG E t):=by
 intro pins s σ H Q I h;show Ga (VW I hg hm ?_ C);show PySem.W.callWith_K (h₀:=X.base) I.ok.mod.kin hk (AH (ha pos pins s σ H _ I h) λus s1 ⟨vs,H1,o,r,q⟩=>{o.kIn,?_}) he J;show Ug F hr hb hd U o r q
def dB (he:PE X o ta)(c:DT X.K C)(hm:EJ X.K C m f)(F:Bh X.prog X.w X.K X.mg X.base CX k f fd ps sp)(hr:A2 k X.A)(hb:Cz X.K fd ps ds)(hd:AI mG ds)(hx:Jk CX X E)(ha:PA X (e::es) t)
 (og:autoParam (starEach (e::es) X.env=(false,eval e X.env)::starEach es X.env) d_._auto_5)(mI:autoParam ((backTo pos (starEach es X.env)).any (·.1)=false) d_._auto_5)
 (ht:autoParam (eval (.Call (.Attribute o m apos) (e::es) [] pos) X.env=(do
  let J <-eval o X.env
  standAt apos.atName
  let (f,first) <-holding [J] (getMethod J m pl)
  callWith pos f first (backTo pos (starEach (e::es) X.env)) (backToKw pos (keywordEach [] X.env)))) d_._auto_5):
 PE X (.Call (.Attribute o m apos) (e::es) [] pos) (SQ C m sp mG E ta t):=by
 intro pins s σ H Q I h;show PySem.W.methodCall_KW (pl:=pl) (AH (he pins s σ H _ I h) λu s1 z0=>?_) ht;let{x,H1,I1,rx,a,dx,fs,ex,ea,l,q}:=z0;subst ex;obtain rfl:u=Value.ref a:=rx;show Z5 I1 ea c hm l ?_;show PySem.W.callWith_K (first:=[.ref a]) (h₀:=X.base) I.ok.mod.kin hm.kp (AH (ha pos pins s1 σ H1 _ I1 q) λus s2 ⟨vs,H2,U,r,q2⟩=>{U.kIn,?_}) og mI;show Ug (us:=.ref a::us) (vs:=.ref a::vs) F hr hb hd hx U (.cons rfl r) q2
def jU (he:PE X o ta)(c:DT X.K C)(hm:EJ X.K C m f)(F:Bh X.prog X.w X.K X.mg X.base CX k f fd ps sp)(hr:A2 k X.A)(hb:Cz X.K fd ps ds)(hd:AI mG ds)(hx:Jk CX X E)
 (ht:autoParam (eval (.Call (.Attribute o m apos) [] [] pos) X.env=(do
  let U <-eval o X.env
  standAt apos.atName
  let (f,first) <-holding [U] (getMethod U m pl)
  callWith pos f first (backTo pos (starEach [] X.env)) (backToKw pos (keywordEach [] X.env)))) d_._auto_5):
 PE X (.Call (.Attribute o m apos) [] [] pos) (SQ C m sp mG E ta G3):=by
 intro pins s σ H Q I h;show PySem.W.methodCall_KW (pl:=pl) (AH (he pins s σ H _ I h) λu s1 z0=>?_) ht;let{x,H1,J,rx,a,dx,fs,ex,ea,l,q}:=z0;subst ex;obtain rfl:u=Value.ref a:=rx;show Z5 J ea c hm l ?_;show PySem.W.callWith_K0 (first:=[.ref a]) J.kIn hm.kp (Ug (us:=[.ref a]) (vs:=[.ref a]) F hr hb hd hx J (.cons rfl .nil) q)
structure Mk (K:AG)(C f:Addr):Prop where
 makes:PySem.W.makesIn K C=true
 init:PySem.W.findIn K (.ref C) "__init__"=some (some (.ref f))
 fn:PySem.W.isFn K (.ref f)=true
 kp:PySem.W.keepIn K (.ref C)=true
def gH (M:Mk X.K C f)(F:Bh X.prog X.w X.K X.mg X.base CX k f fd ps sp)(hr:A2 (k+1) X.A)(hb:Cz X.K fd ps ds)(hd:AI mG ds)
 (hx:Jk CX X E)(I:AB X pins σ H s)(r:AI vs us)
 (h:∀x dx,H x=none->H dx=none->dx≠x->sp (.ref x::(vs++mG)) (upd (upd H dx (.own x)) x (.ins C dx [])) (λv H2=>v=.non/\Q (.ref x) H2) E):
 wpAny (model X.prog X.w) X.A (call (.ref C) us) (EP X pins σ Q) X.xe s:=by
 let hq:=h (s.heap.objs.size+1) s.heap.objs.size (I.hok.fresh (BZ _)) (I.hok.fresh (zL _)) (zh (Nat.lt_succ_self _));let J:=AB.made (C:=C) I;let U:AI (V.ref (s.heap.objs.size+1)::(vs++mG)) (Value.ref (s.heap.objs.size+1)::(us++ds)):=.cons rfl (r.append hd);let hl:(Value.ref (s.heap.objs.size+1)::us++ds).length=ps.length:=by let e:=U.length;rw[F.len _ _ _ _ hq] at e;show e.symm
 show Dv (dD (f:=f) I.kIn M.makes M.init (beq_iff_eq.mp M.fn) (codeAny_mono (F.run _ X.stack _ _ {Value.ref (s.heap.objs.size+1)::us,[]} (Value.ref (s.heap.objs.size+1)::(us++ds)) _ _ E (hr.make C us [])
  (J.env0.make C us []) (hb _ (Value.ref (s.heap.objs.size+1)::us) J.kIn hl) U hq) λr s' o=>?_))
 cases r with
 | error e=>show hx pins σ _ _ e s' J o
 | ok fl=>
  cases fl with
  | ret u=>let{v,H',I3,rv,ev,q3}:=J.after o;subst ev;show{rv,{V.ref (s.heap.objs.size+1),H',I3,0,q3}}
  | next=>show False.elim o
  | brk=>show False.elim o
  | cont=>show False.elim o
def jA (M:Mk X.K C f)(F:Bh X.prog X.w X.K X.mg X.base CX k f fd ps sp)(hr:A2 (k+1) X.A)(hg:Gl X x)(hm:X.mg x=some (.ref C))(hb:Cz X.K fd ps ds)(hd:AI mG ds)(hx:Jk CX X E)
 (ha:PA X (e::es) t)(J:autoParam ((x==("__debug__" : Str))=false) d_._auto_2) (he:autoParam (starEach (e::es) X.env=(false,eval e X.env)::starEach es X.env) d_._auto_5)(U:autoParam ((backTo pos (starEach es X.env)).any (·.1)=false) d_._auto_5):
 PE X (.Call (.Name x p) (e::es) [] pos) (Il C sp mG E t):=by
 intro pins s σ H Q I h;show Ga (VW I hg hm ?_ J);show PySem.W.callWith_K (h₀:=X.base) I.ok.mod.kin M.kp (AH (ha pos pins s σ H _ I h) λus s1 ⟨vs,H1,o,r,q⟩=>{o.kIn,?_}) he U;show gH M F hr hb hd hx o r q
structure zl (N P:List Str)(sc:Scope):Prop where
 kind:sc.kind=.function
 co:sc.isCoroutine=false
 gen:sc.isGenerator=false
 nd:N.Nodup
 pre:N.take P.length=P
 par:∀x∈P,sc.names.lookup x=some .local\/sc.names.lookup x=some .cell
 nofree:∀y∈sc.names,y.2 ≠ .free
def AK (a:autoParam (sc.kind=.function) d_._auto_5)(b:autoParam (sc.isCoroutine=false) d_._auto_5)(c:autoParam (sc.isGenerator=false) d_._auto_5)(d:autoParam (N.Nodup) d_._auto_6)(e:autoParam (N.take P.length=P) d_._auto_5)(f:autoParam (∀x∈P,sc.names.lookup x=some .local\/sc.names.lookup x=some .cell) d_._auto_6)(g:autoParam (∀y∈sc.names,y.2 ≠ .free) d_._auto_6):zl N P sc:=⟨a,b,c,d,e,f,g⟩
def cC {kindOf:Str->Option NameKind}:∀{binds:List (Str×Value)}{m:Aj},(∀v,(x,v)∉binds)->bindL kindOf binds m x=m x
 | [],_,_=>rfl
 | (n,v)::r,m,h=>by
  unfold bindL;rw[cC λw hw=>h w (zr _ hw)];split
  . let:x≠n:=by rintro rfl;show h v zo
    simp[this]
  . rfl
def YI {kindOf:Str->Option NameKind}:∀{binds:List (Str×Value)}{m:Aj},(∀v,(x,v)∉binds)->bindC kindOf binds m x=m x
 | [],_,_=>rfl
 | (n,v)::r,m,h=>by
  unfold bindC;rw[YI λw hw=>h w (zr _ hw)];split
  . rfl
  . let:x≠n:=by rintro rfl;show h v zo
    simp[this]
def Zy {kindOf:Str->Option NameKind}:∀{P:List Str}{vs:List Value}{i:Nat}{m:Aj},P.Nodup->P[i]?=some x->vs[i]?=some v->kindOf x=some .local ->
 bindL kindOf (P.zip vs) m x=some v
 | [],_,_,_,_,h,_,_=>by simp at h
 | _::_,[],_,_,_,_,h,_=>by simp at h
 | p::P,w::vs,0,m,nd,h1,h2,hk=>by simp at h1 h2;subst h1;subst h2;change bindL kindOf ((p,w)::P.zip vs) m p=_;unfold bindL;rw[cC λv o=>(ER.mp nd).1 (List.of_mem_zip o).1,if_pos hk];simp
 | p::P,w::vs,i+1,m,nd,h1,h2,hk=>by change bindL kindOf ((p,w)::P.zip vs) m x=_;unfold bindL;show Zy (i:=i) (ER.mp nd).2 (by simpa using h1) (by simpa using h2) hk
def Zr {kindOf:Str->Option NameKind}:∀{P:List Str}{vs:List Value}{i:Nat}{m:Aj},P.Nodup->P[i]?=some x->vs[i]?=some v->kindOf x≠some .local ->
 bindC kindOf (P.zip vs) m x=some v
 | [],_,_,_,_,h,_,_=>by simp at h
 | _::_,[],_,_,_,_,h,_=>by simp at h
 | p::P,w::vs,0,m,nd,h1,h2,hk=>by simp at h1 h2;subst h1;subst h2;change bindC kindOf ((p,w)::P.zip vs) m p=_;unfold bindC;rw[YI λv o=>(ER.mp nd).1 (List.of_mem_zip o).1,if_neg hk];simp
 | p::P,w::vs,i+1,m,nd,h1,h2,hk=>by change bindC kindOf ((p,w)::P.zip vs) m x=_;unfold bindC;show Zr (i:=i) (ER.mp nd).2 (by simpa using h1) (by simpa using h2) hk
meta def start (N:List Str)(vs:List V):St:=vs.map some++List.replicate (N.length-vs.length) none
meta def E3 (CX:NS)(P:Program)(w:World)(K:AG)(mg:Aj)(base:Heap)(N:List Str)(qual:Str)(scope:Scope)(f:Addr)(cd:Value)(A:Around)(outer:List Env)(s:Shared)(H:Hp)(E:XK):Cx where
 prog:=P
 w:=w
 K:=K
 mg:=mg
 base:=base
 A:=A.deeper (envOfC qual scope s.heap.objs.size f cd)
 N:=N
 s₀:=s
 H₀:=H
 env:=envOfC qual scope s.heap.objs.size f cd
 outer:=outer
 stack:=envOfC qual scope s.heap.objs.size f cd::outer
 ex:=[]
 calm:=true
 fn:=λ_=>true
 pn:=[]
 xe:=λe C=>wpAny (model P w) (A.deeper (envOfC qual scope s.heap.objs.size f cd)) (leaving (envOfC qual scope s.heap.objs.size f cd) e) (λ_ o=>CX outer H s E e o) (λI o=>CX outer H s E I o) C
def YU {sc:Scope}(h:sc.names.lookup x=some .cell):∃c,(cellsFrom n sc.names []).lookup x=some c:=by let q:=PySem.W.cellsFrom_some sc.names n [] (.inl h);show N5.mp q
def dG {K:AG}
 (S:zl N ps scope)(hd:A.handled=none)(C:Ji P w K mg base A outer s H)(hl:vs.length=ps.length)(r:AI vs us)
 (x:InCallC s s.heap.objs.size (bindL (envOfC qual scope s.heap.objs.size f cd).kindOf (ps.zip us) λ_=>none) (cellsFrom (s.heap.objs.size+1) scope.names []) (bindC (envOfC qual scope s.heap.objs.size f cd).kindOf (ps.zip us) λ_=>none) s1):
 AB (E3 CX P w K mg base N qual scope f cd A outer s H E) [] (start N vs) H s1:=by
 let mI:ps.length<=N.length:=by let:=congrArg List.length S.pre;rw[zi] at this;lia
 let{h1,tk,0,hk}:=x.done;let I:∀b:Addr,b∉(E3 CX P w K mg base N qual scope f cd A outer s H E).ex:=λb z=>absurd (show b∈([]:List Addr) from z) (by simp);show{{C.mod,S.kind,2,zL _,λy z c h1 o=>?_,λy hy=>?_,λy c _ h=>?_,λ_=>hd,Around.frames_deeper C.frames,.inr {2},λb z=>absurd z (I b),C.bs,C.bsz,λb _ _=>I b,λb z=>absurd z (I b),C.funs,C.frf},0,C.bare,Un.kept hk,{_,x.toInCall.ns,λi y v h1 o h3=>?_},λy c h=>{_,x.cell y c h},C.hok.fresh (zL _),λy c h=>?_,λp U=>absurd (show p∈([]:Cc) from U) (by simp),C.hok.kept hk,?_}
 . show name_of_addr x.apart (PySem.mem_of_lookup h1) (PySem.mem_of_lookup o)
 . let hy:scope.names.lookup y=some .cell\/scope.names.lookup y=some .free:=hy;rcases hy with hy | hy
   . show YU hy
   . show absurd rfl (S.nofree _ (PySem.mem_of_lookup hy))
 . show FH (x.above y c (PySem.mem_of_lookup h))
 . let hi:i<vs.length:=by
    unfold start at o;by_cases hi:i<vs.length
    . show hi
    . rw[zW (by simpa using hi)] at o;rw[ND] at o;split at o <;> cases o
   let ha:vs[i]?=some v:=by
    unfold start at o;rw[zV (by simpa using hi),zK] at o;cases e:vs[i]? with
    | none=>rw[e] at o;cases o
    | some a=>rw[e] at o;cases o;rfl
   let{u,hu,rv}:=r.get ha;let U:ps[i]?=some y:=by rwa[<-S.pre,List.getElem?_take_of_lt ()]
   let J:ps.Nodup:=by rw[<-S.pre];show S.nd.sublist (List.take_sublist _ _)
   show{u,rv,?_};rcases S.par y (zQ U) with k | k
   . show .inl {k,Zy J U hu k}
   . let{c,e}:=YU (n:=s.heap.objs.size+1) k;show .inr {.inl k,c,e,?_};let q:=x.cell y c e;rw[Zr J U hu (by change scope.names.lookup y≠_;rw[k];decide)] at q;show q
 . show C.hok.fresh (FH (x.above y c (PySem.mem_of_lookup h)))
 . unfold start;change _=N.length;rw[zS,zA,Cq]
   lia
def IS {CX:NS}{P:Program}{w:World}{K:AG}{mg:Aj}{base:Heap}{k:Nat}{f:Addr}{name qual:Str}{params:Arguments}{body:List Stmt}{scope:Scope}{dV kV doc pm U ct oc:Value}{an od:Option Addr}
 {nY:Array (Option Value)}{N ps:List Str}{sp:Sp}(lk:K.lookup f=some {oc,od,.func (PySem.W.fnOf name qual params body scope dV kV doc pm an U ct),nY})(nR:PySem.W.codeIn K U qual=true)(S:zl N ps scope)
 (len:∀vs H Q E,sp vs H Q E->vs.length=ps.length)
 (mF:∀A outer s H vs Q E,A2 k (A.deeper (envOfC qual scope s.heap.objs.size f U))->sp vs H Q E ->
  ∃t,CN (E3 CX P w K mg base N qual scope f U A outer s H E) body t/\t { nx:=λ_ H'=>Q .non H',rt:=Q } (start N vs) H):
 Bh P w K mg base CX (k+1) f (PySem.W.fnOf name qual params body scope dV kV doc pm an U ct) ps sp:=by
 show{len,λA outer s H args us vs Q E hr e0 hb r my=>?_};let hl:=len _ _ _ _ my;let KX:K.In s.heap:=e0.mod.kin.keeps λb o e=>(e0.bs b o e).1;let lim:s.heap.NoLimit:=e0.mod.nolimit.keeps λb o e=>(e0.bs b o e).1;let hkind:∀y∈ps.zip us,scope.names.lookup y.1=some .local\/(scope.names.lookup y.1=some .cell/\((cellsFrom (s.heap.objs.size+1) scope.names []).lookup y.1).isSome=true):=λ⟨n,v⟩ hy=>by
  rcases S.par n (List.of_mem_zip hy).1 with q | q
  . show .inl q
  . show .inr {q,PySem.W.cellsFrom_some _ _ _ (.inl q)}
 show codeAny_call_function hr.depth (KX _ _ lk) rfl S.co S.gen rfl (PySem.W.codeRec_of KX nR) (hb _ _ _ _ ?_);show wpAny_newFunctionEnv_cells S.kind hkind λenv he s1 x=>?_;subst he;show{lim.keeps x.toInCall.keep,codeAny_func ?_};let{t,ht,hq}:=mF A outer s H vs Q E (hr.deeper _) my;let I:AB (E3 CX P w K mg base N qual scope f U A outer s H E) [] (start N vs) H s1:=dG S hr.hd e0 hl r x;show Cr (ht [] s1 (start N vs) H _ I hq) (λfl s' hs=>?_) λe s' hs=>hs;let fin:∀{C:St}{H':Hp}{v:V}{u:Value},AB (E3 CX P w K mg base N qual scope f U A outer s H E) [] C H' s'->AR v u->Q v H'->CE outer P w H s Q u s':=
  λ{C H' v u} J rv q=>⟨v,H',J.os,J.bare,J.base,J.hok,rv,q⟩
 cases fl with
 | ret u=>let{v,C,H',J,rv,q}:=hs;show fin J rv q
 | next=>let{C,H',J,q}:=hs;show fin (v:=V.non) (u:=Value.none) J rfl q
 | brk=>let{_,3,q}:=hs;show False.elim q
 | cont=>let{_,3,q}:=hs;show False.elim q
section
variable {X:Cx}{x:Str}{p pos:Pos}{e:Expr}{es:List Expr}{t:TA}{id T:String}{r:List V->Hp->VK->Prop}
def cu (r:List V->Hp->VK->Prop)(t:TA):TE:=λσ H Q=>t σ H λo H1=>r o H1 Q
def AZ (hc:CF X (.builtin id) r)(hm:X.mg x=none)(ha:PA X (e::es) t)(hg:autoParam (Gl X x) d_._auto_5)(hv:autoParam (bootBuiltins x=some (.builtin id)) d_._auto_6)(hn:x ≠ "__name__" := by decide) (U:autoParam ((x==("__debug__" : Str))=false) d_._auto_2)
 (he:autoParam (starEach (e::es) X.env=(false,eval e X.env)::starEach es X.env) d_._auto_5)(mI:autoParam ((backTo pos (starEach es X.env)).any (·.1)=false) d_._auto_5):PE X (.Call (.Name x p) (e::es) [] pos) (cu r t):=by
 intro pins s σ H Q I h;show Ga (Dd I hg hm hv ?_ hn U);show PyProof.Rows.callWith_builtin1 (AH (ha pos pins s σ H _ I h) λus s1 ⟨o,H1,I1,C,J⟩=>hc pins s1 σ H1 o us Q I1 C J) he mI
def Aq (hc:CF X (.type T) r)(hm:X.mg x=none)(ha:PA X (e::es) t)(hg:autoParam (Gl X x) d_._auto_5)(hv:autoParam (bootBuiltins x=some (.type T)) d_._auto_6)(hn:x ≠ "__name__" := by decide) (U:autoParam ((x==("__debug__" : Str))=false) d_._auto_2)
 (he:autoParam (starEach (e::es) X.env=(false,eval e X.env)::starEach es X.env) d_._auto_5)(mI:autoParam ((backTo pos (starEach es X.env)).any (·.1)=false) d_._auto_5):PE X (.Call (.Name x p) (e::es) [] pos) (cu r t):=by
 intro pins s σ H Q I h;show Ga (Dd I hg hm hv ?_ hn U);show PyProof.Rows.callWith_type1 (AH (ha pos pins s σ H _ I h) λus s1 ⟨o,H1,I1,C,J⟩=>hc pins s1 σ H1 o us Q I1 C J) he mI
end
section
variable {κ:Type} [DecidableEq κ]
meta def Ar (C:List (κ×V))(k:κ):Option V:=(C.find? λo=>decide (o.1=k)).map (·.2)
meta def BM (C:List (κ×V))(k:κ)(v:V):List (κ×V):=
 if (C.any λo=>decide (o.1=k))=true then C.map (λo=>if o.1=k then (o.1,v) else o) else C++[(k,v)]
meta def Bv (C:List (κ×V))(k:κ):List (κ×V):=C.filter λo=>decide (o.1≠k)
def dU :Ar ([]:List (κ×V)) k=none:=rfl
def Dh {k:κ}(e:p.1=k):Ar (p::r) k=some p.2:=by simp[Ar,Hv,e]
def DM {k:κ}(e:¬ p.1=k):Ar (p::r) k=Ar r k:=by simp[Ar,Hv,e]
def IC (k:κ):∀o:List (κ×V),(o.any λC=>decide (C.1=k))=(Ar o k).isSome
 | []=>rfl
 | p::r=>by
  rw[List.any_cons];by_cases e:p.1=k
  . simp only[Dh e,zY e,Bool.true_or,Option.isSome_some]
  . rw[DM e,za e,Bool.false_or];show IC k r
def bh (k j:κ)(y):∀C:List (κ×V),Ar (C.map λo=>if o.1=k then (o.1,y) else o) j=(Ar C j).map λx=>if j=k then y else x
 | []=>rfl
 | p::r=>by
  let I:=bh k j y r;rw[Bg];by_cases h:p.1=k
  . rw[if_pos h];by_cases e:p.1=j
    . rw[Dh (p:=(p.1,y)) e,Dh e,EC,if_pos (e.symm.trans h)]
    . rw[DM (p:=(p.1,y)) e,DM e,I]
  . rw[if_neg h];by_cases e:p.1=j
    . rw[Dh (p:=p) e,Dh e,EC,if_neg (λz=>h (e.trans z))]
    . rw[DM (p:=p) e,DM e,I]
def Z6 (k j:κ)(y):∀o:List (κ×V),Ar o k=none->Ar (o++[(k,y)]) j=if j=k then some y else Ar o j
 | [],_=>by
  by_cases e:k=j
  . rw[if_pos e.symm];show Dh (p:=(k,y)) e
  . rw[if_neg (λz=>e z.symm)];show DM (p:=(k,y)) e
 | p::r,hn=>by
  rw[List.cons_append];let C:¬ p.1=k:=λz=>by rw[Dh z] at hn;cases hn
  rw[DM C] at hn;let I:=Z6 k j y r hn;by_cases e:p.1=j
  . rw[Dh e,Dh e,if_neg (λz=>C (e.trans z))]
  . rw[DM e,DM e,I]
def gk (kR)(k j:κ)(y):Ar (BM kR k y) j=if j=k then some y else Ar kR j:=by
 unfold BM;by_cases a:(kR.any λo=>decide (o.1=k))=true
 . rw[if_pos a,bh];rw[IC] at a;by_cases e:j=k
   . let{x,C}:=N5.mp a;rw[if_pos e,e,C,EC,if_pos rfl]
   . rw[if_neg e];cases Ar kR j with
     | none=>rfl
     | some x=>rw[EC,if_neg e]
 . rw[if_neg a];show Z6 k j y kR ?_;rw[IC] at a;cases q:Ar kR k with
   | none=>rfl
   | some x=>rw[q] at a;show (a rfl).elim
def R7 (kR)(k:κ)(v):(BM kR k v).length<=kR.length+1:=by
 unfold BM;split
 . rw[zA];lia
 . rw[zS,zj,Hn];lia
def dM {o:List (κ×V)}(v)(h:Ar o k=none):BM o k v=o++[(k,v)]:=by unfold BM;rw[IC,h];show if_neg (by decide)
def CU.isSome_eq (r:CU o u):o.isSome=u.isSome:=by
 cases o with
 | none=>cases u with
  | none=>rfl
  | some _=>show (show False from r).elim
 | some _=>cases u with
  | none=>show (show False from r).elim
  | some _=>rfl
def CU.getD (r:CU o u)(C:AR d d'):AR (o.getD d) (u.getD d'):=by
 cases o with
 | none=>cases u with
  | none=>show C
  | some _=>show (show False from r).elim
 | some _=>cases u with
  | none=>show (show False from r).elim
  | some _=>show r
def KV.val (r:KV kR vs)(k:κ):CU (Ar kR k) (valueAt vs k):=by
 unfold KV at r
 induction r with
 | nil=>show True.intro
 | @cons p q ps qs h t ih=>
  let{C,I}:=h;by_cases e:p.1=k
  . let o:q.1=k:=C.symm.trans e;let b:valueAt (q::qs) k=some q.2:=by simp[valueAt,Hv,o]
    rwa[Dh e,b]
  . let o:¬ q.1=k:=λz=>e (C.trans z);let b:valueAt (q::qs) k=valueAt qs k:=by simp[valueAt,Hv,o]
    rwa[DM e,b]
def KV.any (r:KV kR vs)(k:κ):(kR.any λo=>decide (o.1=k))=vs.any λo=>decide (o.1=k):=by
 unfold KV at r
 induction r with
 | nil=>rfl
 | cons h t C=>rw[List.any_cons,List.any_cons,C,h.1]
def KV.repl (r:KV kR vs)(k:κ)(I:AR y u):
 KV (kR.map λo=>if o.1=k then (o.1,y) else o) (vs.map λo=>if o.1=k then (o.1,u) else o):=by
 unfold KV at r ⊢
 induction r with
 | nil=>show .nil
 | @cons p q ps qs h t ih=>
  rw[Bg,Bg];show .cons ?_ ih;let{C,J}:=h;by_cases e:p.1=k
  . rw[if_pos e,if_pos (C.symm.trans e)];show⟨C,I⟩
  . rw[if_neg e,if_neg (λz=>e (C.trans z))];show⟨C,J⟩
def KV.put (r:KV kR vs)(k:κ)(o:AR y u):KV (BM kR k y) (stored vs k u):=by
 unfold BM stored;rw[r.any k];by_cases e:(vs.any λC=>decide (C.1=k))=true
 . rw[if_pos e,if_pos e];show r.repl k o
 . rw[if_neg e,if_neg e];show Paired.snoc r {0,o}
def KV.drop (r:KV kR vs)(k:κ):KV (Bv kR k) (without vs k):=by
 unfold KV at r ⊢;unfold Bv without
 induction r with
 | nil=>show .nil
 | @cons p q ps qs h t ih=>
  let{o,C}:=h;rw[GX,GX];by_cases e:p.1=k
  . let a:¬ decide (p.1≠k)=true:=by simp[e]
    let b:¬ decide (q.1≠k)=true:=by simp[o.symm.trans e]
    rwa[if_neg a,if_neg b]
  . let I:¬ q.1=k:=λz=>e (o.trans z);let a:decide (p.1≠k)=true:=by simp[e]
    let b:decide (q.1≠k)=true:=by simp[I]
    rw[if_pos a,if_pos b];show .cons ⟨o,C⟩ ih
def KV.length {o:List (κ×V)}(r:KV o vs):o.length=vs.length:=Paired.length r
def gg (kR)(k:κ):(Bv kR k).length<=kR.length:=C7 _ _
end
def Fo (r:AR (kV k) u):(BC P w).is k u=true:=by
 cases k with
 | inl i=>let{t,e}:=(show ∃t,u=Value.int i t from r);subst e;show d9 P w i t
 | inr x=>let{t,e}:=(show ∃t,u=Value.str x t from r);subst e;show f7 P w x t
def Yo :∀{ks:List AS}{us:List Value},AI (ks.map kV) us->ItemsAre (BC P w) ks us
 | [],_,r=>by rw[List.map_nil] at r;cases r;show .nil
 | k::ks,_,r=>by
  rw[Bg] at r;cases r with
  | cons h t=>show .cons (Fo h) (Yo t)
abbrev KT (H:Hp):List (List AS×V)->List (List AS×Addr×Value)->Prop:=Paired λp q=>p.1=q.1/\H q.2.1=some (.tup (p.1.map kV))/\AR p.2 q.2.2
def KT.val (r:KT H kR xs)(k):CU (Ar kR k) ((atKey xs k).map (·.2)):=by
 induction r with
 | nil=>show True.intro
 | @cons p q ps qs h t ih=>
  let{C,_,I}:=h;by_cases e:p.1=k
  . let o:q.1=k:=C.symm.trans e;let b:atKey (q::qs) k=some q.2:=by simp[atKey,Hv,o]
    rwa[Dh e,b]
  . let o:¬ q.1=k:=λz=>e (C.trans z);let b:atKey (q::qs) k=atKey qs k:=by simp[atKey,Hv,o]
    rwa[DM e,b]
def KT.repl (r:KT H kR xs)(k)(J:AR y u):
 KT H (kR.map λC=>if C.1=k then (C.1,y) else C) (xs.map (putAt k u)):=by
 induction r with
 | nil=>show .nil
 | @cons p q ps qs h t ih=>
  rw[Bg,Bg];show .cons ?_ ih;let{o,I,U}:=h;unfold putAt;by_cases e:p.1=k
  . rw[if_pos e,if_pos (o.symm.trans e)];show⟨o,I,J⟩
  . rw[if_neg e,if_neg (λz=>e (o.trans z))];show⟨o,I,U⟩
def KT.put (r:KT H kR xs)(k)(I:H b=some (.tup (k.map kV)))(o:AR y u):
 KT H (BM kR k y) (storedH xs k b u):=by
 let e:(kR.any λC=>decide (C.1=k))=(atKey xs k).isSome:=by rw[IC,(r.val k).isSome_eq,Option.isSome_map]
 unfold BM storedH;rw[e];by_cases q:(atKey xs k).isSome=true
 . rw[if_pos q,if_pos q];show r.repl k o
 . rw[if_neg q,if_neg q];show Paired.snoc r {0,I,o}
def KT.keeps (r:KT H kR xs)(o:∀b ys,H b=some (.tup ys)->H' b=some (.tup ys)):KT H' kR xs:=
 Paired.mapP r λ_ _ z=>{z.1,o _ _ z.2.1,z.2.2}
def JH (ok:BF P w H h)(e:Rd H a u):BD P w H h a u:=e.ok ok
def NL (ok:BF P w H h)(e:Rd H a (.dK kR)):kR.length<=sizeLine/\(a==sysModules)=false/\∃vs,KV kR vs/\h.DictOf (BC P w) a vs:=
 show BD P w H h a (.dK kR) from JH ok e
def Nl (ok:BF P w H h)(e:H a=some (.dK kR)):kR.length<=sizeLine/\(a==sysModules)=false/\∃vs,KV kR vs/\h.DictOf (BC P w) a vs:=NL ok (.inl e)
def Nr (ok:BF P w H h)(e:H a=some (.tup (ks.map kV))):(tupleKind (BC P w)).is h ks a:=by let{_,its,r,o,J,I,n,C}:=(show BD P w H h a (.tup (ks.map kV)) from ok a _ e);show{o,its.toArray,n,J,I,C,by simpa using Yo r}
def NH (ok:BF P w H h)(e:Rd H a (.dT kR)):kR.length<=sizeLine/\(a==sysModules)=false /\
 ∃xs,KT H kR xs/\h.DictOfH (tupleKind (BC P w)) a xs:=by
 let{z,y,xs,r,o,es,ep,h1,U,J,I,C}:=(show BD P w H h a (.dT kR) from JH ok e);show{z,y,xs,r,o,es,ep,h1,U,J,I,λx hx=>?_,C};let all:∀{l:List (List AS×V)}{m:List (List AS×Addr×Value)},KT H l m->∀x∈m,(tupleKind (BC P w)).is h x.1 x.2.1:=by
  intro l m q
  induction q with
  | nil=>intro x hx;show nomatch hx
  | @cons p q ps qs hq t ih=>
   intro x hx;rcases zZ.mp hx with e | hx
   . subst e;show Nr ok (by rw[<-hq.1];show hq.2.1)
   . show ih x hx
 show all r x hx
def RL (ok:BF P w H h)(e:H a=some (.dT kR)):kR.length<=sizeLine/\(a==sysModules)=false /\
 ∃xs,KT H kR xs/\h.DictOfH (tupleKind (BC P w)) a xs:=NH ok (.inl e)
def Ed (H:Hp)(a:Addr)(y:V)(r:Option V):Prop:=
 (∃o k,Rd H a (.dK o)/\y=kV k/\r=Ar o k)\/∃o k b,Rd H a (.dT o)/\y=.ref b/\H b=some (.tup (k.map kV))/\r=Ar o k
def FV (H:Hp)(a:Addr)(y v:V)(H':Hp):Prop:=
 (∃o k,H a=some (.dK o)/\y=kV k/\o.length<sizeLine/\H'=upd H a (.dK (BM o k v))) \/
 ∃o k b,H a=some (.dT o)/\y=.ref b/\H b=some (.tup (k.map kV))/\o.length<sizeLine/\H'=upd H a (.dT (BM o k v))
def Ed.k {k:AS}(e:H a=some (.dK kR)):Ed H a (kV k) (Ar kR k):=.inl {kR,k,.inl e,2}
def FV.k {k:AS}(e:H a=some (.dK kR))(o:kR.length<sizeLine):FV H a (kV k) v (upd H a (.dK (BM kR k v))):=.inl {kR,k,e,0,o,0}
def AB.big (I:AB X pins σ H s):sysModules<s.heap.objs.size:=by let h:mainGlobals<s.heap.objs.size:=(I.mod.glob.keeps I.bk).lt;show Nat.lt_trans (by decide) h
def jZ (hu:A.units+1<cLine)(I:AB X pins σ H s)(g:Ed H a y (some v))(ry:AR y u)(h:∀C s',AB X pins σ H s'->AR v C->Q C s'):
 wpAny (model X.prog X.w) A (getItem (.ref a) u) Q E s:=by
 rcases g with ⟨kR,k,e,ey,l⟩ | ⟨kR,k,b,e,ey,eb,l⟩
 . subst ey;let{z,hd,vs,rel,dd}:=NL I.hok e;let{C,hw,J}:=CU.some_of (v:=v) (o:=valueAt vs k) (by rw[l];show rel.val k);show wpAny_getItem_of (Fo ry) dd.mapOf hw (h C _ (I.tok _) J)
 . subst ey;cases (show u=Value.ref b from ry);let{z,hd,xs,rel,dd}:=NH I.hok e;let{C,hw,J}:=CU.some_of (v:=v) (o:=(atKey xs k).map (·.2)) (by rw[l];show rel.val k);let{p,hp,U}:=Option.map_eq_some_iff.mp hw;show wpAny_getItem_heap (tupleKind_room_in1 hu) (Nr I.hok eb) dd hp ?_;rw[U];show h C _ (I.tok _) J
def Vs (hu:A.units+1<cLine)(I:AB X pins σ H s)(g:Ed H a y o)(ry:AR y u)(h:∀U,AB X pins σ H U->Q (.bool o.isSome) U):
 wpAny (model X.prog X.w) A (compareOp .In u (.ref a)) Q E s:=by
 rcases g with ⟨kR,k,e,C,l⟩ | ⟨kR,k,b,e,C,eb,l⟩
 . subst C;let{z,hd,vs,rel,J}:=NL I.hok e;show wpAny_in_of (Fo ry) hd J.mapOf ?_;rw[<-(rel.val k).isSome_eq,<-l];show h _ (I.tok _)
 . subst C;cases (show u=Value.ref b from ry);let{z,hd,xs,rel,J}:=NH I.hok e;show wpAny_in_heap (tupleKind_room_in1 hu) (Nr I.hok eb) hd J ?_;let q:=(rel.val k).isSome_eq;rw[Option.isSome_map] at q;rw[<-q,<-l];show h _ (I.tok _)
def Rx (I:AB X pins σ H s)(o:Ob (H a))(C:Heap.SameBut a s.heap h')(he:∃q,h'.get? a=some q)(new:BD X.prog X.w (upd H a ob) h' a ob):
 AB X pins σ (upd H a ob) { s with heap:=h',toks:=t' }:=
 I.write (x:=a) (e:=a) o (.inl rfl) (λb q J z=>(C.2 b J).trans z) he new
def RM (z:kR.length<=sizeLine)(hd:(a==sysModules)=false)(rel:KV kR vs)(o:h'.DictOf (BC P w) a vs):
 BD P w H' h' a (.dK kR):=⟨z,hd,vs,rel,o⟩
def dA (hu:A.units+1<cLine)(I:AB X pins σ H s)(g:FV H a y v H')(ry:AR y u)(rv:AR v r)(h:∀s',AB X pins σ H' s'->Q Unit.unit s'):
 wpAny (model X.prog X.w) A (setItem (.ref a) u r) Q E s:=by
 rcases g with ⟨o,k,e,ey,l,eH⟩ | ⟨o,k,b,e,ey,eb,l,eH⟩
 . subst ey eH;let{z,hd,vs,rel,dd}:=Nl I.hok e;let U:vs.length<=sizeLine:=by rwa[<-rel.length]
   let hl:(BM o k v).length<=sizeLine:=by let:=R7 o k v;lia
   show wpAny_setItem_pairs (hsz:=U) (Fo ry) dd λh' C hs=>h _ ?_;let he:∃q,h'.get? a=some q:=let {q,3,J,_}:=C;⟨q,J⟩;show Rx I (by rw[e];show True.intro) hs he (RM hl hd (rel.put k rv) C)
 . subst ey eH;cases (show u=Value.ref b from ry);let{z,hd,xs,rel,dd}:=RL I.hok e;let U:xs.length<=sizeLine:=by rwa[<-Paired.length rel]
   let hl:(BM o k v).length<=sizeLine:=by let:=R7 o k v;lia
   show wpAny_setItem_heap (hsz:=U) (tupleKind_room_in1 hu) (Nr I.hok eb) dd λh' C hs=>h _ ?_;let{q,es,ep,J,h2,h3,h4,_,h5}:=C;show Rx I (by rw[e];show True.intro) hs ⟨q,J⟩ {hl,hd,_,(rel.put k eb rv).keeps λc ys ec=>?_,q,es,ep,J,h2,h3,h4,h5};rwa[zg (AJ ec e (λz=>nomatch z))]
def Q3 (I:AB X pins σ H s)(e:H a=some (.dK kR))(J:AR (kV k) u)(l:Ar kR k=some v)(hm:more=[]\/∃x,more=[x])
 (h:∀C s',AB X pins σ (upd H a (.dK (Bv kR k))) s'->AR v C->Q C s'):wpAny (model X.prog X.w) A (call (.builtin "dict.pop") (.ref a::u::more)) Q E s:=by
 let{z,hd,U,rel,dd}:=Nl I.hok e;let{C,hw,mJ}:=CU.some_of (v:=v) (o:=valueAt U k) (by rw[<-l];show rel.val k);let hp:(keyPart u).isSome=true:=by
  cases k with
  | inl i=>let{t,q}:=(show ∃t,u=Value.int i t from J);subst q;rfl
  | inr x=>let{t,q}:=(show ∃t,u=Value.str x t from J);subst q;rfl
 let ha:argsOk "dict.pop" {.ref a::u::more,[]}:=by
  rcases hm with q | ⟨x,q⟩
  . subst q;show PySem.F.args_dict_pop_2 _ _
  . subst q;show PySem.F.args_dict_pop_3 _ _ _
 show call_meetsIn PySem.F.slot_dict_pop dd.typeIs PySem.F.entry_dict_pop ha (meets_dict_pop_there (BC X.prog X.w) a (Fo J) more hm hp)
  {U,C,dd,by rwa[<-rel.length],hw,λh' pH hs=>h C _ ?_ mJ}
 let he:∃q,h'.get? a=some q:=let {q,3,hq,_}:=pH;⟨q,hq⟩;show Rx I (by rw[e];show True.intro) hs he (RM (zn (gg kR k) z) hd (rel.drop k) pH)
def Oy (i:Expr):Prop:=∀o C,subscripted i false o C=operate [o,C] (getItem o C)
def X2 {id:String}
 (hl:typeLookup (.type T) "__getitem__"=pure (some (.builtin id))) (hs:Oy slice)
 (h:wpAny (model prog w) A (eval value env) (λo U=>wpAny (model prog w) A (eval slice env) (λi C=>C.TypeIs o T/\wpAny (model prog w) A (getItem o i) Q E C) E U) E s):
 wpAny (model prog w) A (eval (.Subscript value slice pos) env) Q E s:=by
 show Subscript_ (Cr h (λo U h₁=>Cr h₁ (λi C I=>?_) λ_ _ x=>x) λ_ _ x=>x);let{hT,I}:=I;unfold subscriptTail;show zD ?_;rw[getitemInPython_of_ne hT.not_modules];show zD (wpAny_specialOf hT hl ?_);let fin:wpAny (model prog w) A (subscripted slice false o i) (λr J=>wpAny (model prog w) A (letTemporaryGo value o r >>= λ_=>pure r) Q E J) E C:=by rw[hs o i];show wpAny_operating (Cr I (λr J h₃=>zD (wpAny_letTemporaryGo (zI h₃))) λ_ _ x=>x)
 first
  | show zI (zD fin)
  | show zD (zI (zD fin))
  | show zD fin
def d7 (I:AB X pins σ H s)(g:Ed H a y o):s.TypeIs (.ref a) "dict" := by
 rcases g with ⟨J,k,e,_,_⟩ | ⟨J,k,b,e,_,_,_⟩
 . let{3,U,_,C}:=NL I.hok e;show C.typeIs
 . let{3,xs,_,C}:=NH I.hok e;show C.typeIs
def Pc (C ty:TE):TE:=λσ H Q=>C σ H λx H1=>ty σ H1 λy o=>∃a v,x=.ref a/\Ed o a y (some v)/\Q v o
def Xw (ty I:TE):TE:=λσ H Q=>ty σ H λy H1=>I σ H1 λx C=>∃a o,x=.ref a/\Ed C a y o/\Q (.bl o.isSome) C
def Qv (C ty tv:TE):TS:=λD σ H=>tv σ H λv H1=>C σ H1 λx I=>ty σ I λy H3=>∃a o,x=.ref a/\FV H3 a y v o/\D.nx σ o
def eG (hu:X.A.units+1<cLine)(ho:PE X o td)(hi:PE X i ty)(hs:Oy i):PE X (.Subscript o i pos) (Pc td ty):=by intro pins s σ H Q I h;show X2 PySem.F.slot_dict_getitem.lookup hs (AH (ho pins s σ H _ I h) λu s1 ⟨x,H1,I1,U,q1⟩=>AH (hi pins s1 σ H1 _ I1 q1) λiv s2 ⟨y,H2,C,J,a,v,ex,g,q2⟩=>?_);subst ex;obtain rfl:u=Value.ref a:=U;show{d7 C g,jZ hu C g J λw' s3 I3 mJ=>⟨v,H2,I3,mJ,q2⟩}
def MA (hu:X.A.units+1<cLine)(hi:PE X i ty)(ho:PE X o td):PC X .In i o (Xw ty td):=by intro pins s σ H Q I h;show AH (hi pins s σ H _ I h) λiv s1 ⟨y,H1,I1,C,q1⟩=>AH (ho pins s1 σ H1 _ I1 q1) λu s2 ⟨x,H2,I2,J,a,ov,ex,g,U⟩=>?_;subst ex;obtain rfl:u=Value.ref a:=J;show Vs hu I2 g C λs3 I3=>{.bl ov.isSome,H2,I3,0,U}
def eD (hu:X.A.units+1<cLine)(ho:PE X o td)(hi:PE X i ty)(hv:PE X value tv)(hs:swapsWith value (some (.Subscript o i pos')) pos.line X.env=pure false):
 PS X (.Assign [.Subscript o i pos'] value pos) (Qv td ty tv):=by
 intro pins s σ H D I h;show wpAny_Assign_Subscript (AH (hv pins s σ H _ I h) λr s1 ⟨v,H1,I1,U,q1⟩=>AH (ho pins s1 σ H1 _ I1 q1) λu s2 ⟨x,H2,I2,J,q2⟩=>AH (hi pins s2 σ H2 _ I2 q2) λiv s3 ⟨y,H3,I3,C,a,H4,ex,g,q3⟩=>?_) hs;subst ex;obtain rfl:u=Value.ref a:=J;show dA hu I3 g C U λs4 I4=>⟨σ,H4,I4,q3⟩
def j7 (h:Heap)(o:sysModules<h.objs.size):BD P w H (h.push { cls:=.type "dict",data:=.dict #[] }) h.objs.size (.dK []):=
 {zd _,beq_eq_false_iff_ne.mpr (Ne.symm (zh o)),[],.nil,Heap.DictOf.new h}
def VZ:List (TE×TE)->St->Hp->(List (V×V)->Hp->Prop)->Prop
 | [],_,H,Q=>Q [] H
 | (tk,tv)::r,σ,H,Q=>tk σ H λx H1=>tv σ H1 λy C=>VZ r σ C λo H3=>Q ((x,y)::o) H3
abbrev VV:List (V×V)->List (Value×Value)->Prop:=Paired λp q=>AR p.1 q.1/\AR p.2 q.2
def UH (X:Cx)(pos:Pos)(keys:List (Option Expr))(values:List Expr)(o:List (TE×TE)):Prop:=
 ∀pins s σ H Q,AB X pins σ H s->VZ o σ H Q ->
  wpAny (model X.prog X.w) X.A (evalPairs (pairTrees keys values X.env pos)) (λI J=>∃C H',AB X pins σ H' J/\VV C I/\Q C H') X.xe s
def gG :UH X pos [] [] []:=λpins s σ H Q I h=>pairTrees_nil_walk {[],H,I,.nil,h}
def eZ (hk:PE X k tk)(hv:PE X v tv)(hr:UH X pos ks vs trs):
 UH X pos (some k::ks) (v::vs) ((tk,tv)::trs):=λpins s σ H Q I h=>
 pairTrees_cons_walk (AH (hk pins s σ H _ I h) λu s1 ⟨x,H1,I1,C,q1⟩=>AH (hv pins s1 σ H1 _ I1 q1) λw2 s2 ⟨y,H2,I2,o,U⟩=>
  AH (hr pins s2 σ H2 _ I2 U) λws s3 ⟨ps,H3,I3,rel,J⟩=>{(x,y)::ps,H3,I3,.cons ⟨C,o⟩ rel,J})
meta def NG (C more:List (AS×V)):List (AS×V):=more.foldl (λacc o=>BM acc o.1 o.2) C
def KV.merge:∀{more:List (AS×V)}{rs:List (AS×Value)}{o:List (AS×V)}{vs:List (AS×Value)},KV more rs->KV o vs->KV (NG o more) (merged vs rs):=by
 intro more rs o vs r;unfold KV at r
 induction r generalizing o vs with
 | nil=>intro q;show q
 | @cons p q ps qs h t ih=>
  intro C;let e:KV (BM o p.1 p.2) (stored vs q.1 q.2):=by let:=C.put p.1 h.2;rwa[<-h.1]
  show ih e
def bo:∀more o,(NG o more).length<=o.length+more.length
 | [],o=>by change o.length<=o.length+0;lia
 | p::r,o=>by let I:=bo r (BM o p.1 p.2);let C:=R7 o p.1 p.2;change (NG (BM o p.1 p.2) r).length<=_;rw[zj];lia
def Y8 :∀{o:List (AS×V)}{ws:List (Value×Value)},VV (o.map λC=>(kV C.1,C.2)) ws->∃rs,Carries (BC P w) ws rs/\KV o rs
 | [],_,r=>by rw[List.map_nil] at r;cases r;show{[],True.intro,.nil}
 | p::o,_,r=>by
  rw[Bg] at r;cases r with
  | @cons a b as bs h t=>let{rs,c,q}:=Y8 (P:=P) (w:=w) t;let{J,I}:=b;show{(p.1,I)::rs,{Fo h.1,0,c},.cons {0,h.2} q}
def RF (o:List (TE×TE)):TE:=λσ H Q=>∀p,H p=none->VZ o σ (upd H p (.dK [])) λU J=>J p=some (.dK [])/\∃C:List (AS×V),U=C.map (λI=>(kV I.1,I.2))/\C.length<=15/\Q (.ref p) (upd J p (.dK (NG [] C)))
def j9 (h:UH X pos keys values trs)(lU:keys.all (·.isSome)=true)(hl:keys.length=values.length)(h0:keys≠[])
 (C:keys.length<=15):PE X (.Dict keys values pos) (RF trs):=by
 intro pins s σ H Q I q;let hn:=I.hok.fresh (zL s.heap.objs.size);let I1:=I.laid (a:=s.heap.objs.size) (o:=.dK []) (h':=s.heap.push { cls:=.type "dict",data:=.dict #[] }) (t':=s.toks) (λ_ _ q=>zM _ q) (zL _) (j7 s.heap I.big);show wpAny_Dict_walk (knd:=BC X.prog X.w) lU hl h0 C (AH (h pins _ σ _ _ I1 (q _ hn)) λws s2 ⟨ps,H2,I2,rel,e,U,ep,lk,q2⟩=>?_);subst ep;let{rs,c,rk}:=Y8 (P:=X.prog) (w:=X.w) rel;let{z,hd,vs0,r0,dd}:=Nl I2.hok e;cases r0;show{rs,c,dd,λh' J hs=>{.ref s.heap.objs.size,_,?_,0,q2}};let hz:(NG [] U).length<=sizeLine:=by let h1:=bo U [];rw[Hn] at h1;rw[sizeLine_eq];lia
 let he:∃q,h'.get? s.heap.objs.size=some q:=let {q,3,hq,_}:=J;⟨q,hq⟩;show Rx I2 (by rw[e];show True.intro) hs he (RM hz hd (rk.merge .nil) J)
structure M1 (X:Cx)(o:Expr)(m:Str)(apos:Pos)(e:Expr)(kX:Pos):Prop where
 base:attributeBase o m X.env (eval o X.env)=eval o X.env
 few:((backTo kX (starEach [e] X.env)).all (λx=>!x.1) && (backToKw kX (keywordEach [] X.env)).all (λx=>x.1.isSome)
  && decide (([e]:List Expr).length+([]:List Keyword).length+(if ([]:List Keyword).isEmpty then 0 else 1)<30))=true
 line:(apos.endLine==kX.line)=true
 trees:backTo kX (starEach [e] X.env)=[(false,eval e X.env)]
structure M2 (X:Cx)(o:Expr)(m:Str)(apos:Pos)(e f:Expr)(kX:Pos):Prop where
 base:attributeBase o m X.env (eval o X.env)=eval o X.env
 few:((backTo kX (starEach [e,f] X.env)).all (λx=>!x.1) && (backToKw kX (keywordEach [] X.env)).all (λx=>x.1.isSome)
  && decide (([e,f]:List Expr).length+([]:List Keyword).length+(if ([]:List Keyword).isEmpty then 0 else 1)<30))=true
 line:(apos.endLine==kX.line)=true
 trees:backTo kX (starEach [e,f] X.env)=[(false,eval e X.env),(false,eval f X.env)]
def IsD (H:Hp)(a:Addr):Prop:=(∃o,Rd H a (.dK o))\/∃o,Rd H a (.dT o)
def cF (I:AB X pins σ H s)(d:IsD H a):
 s.TypeIs (.ref a) "dict"/\(∀b,Value.ref a=.ref b->∃o,s.heap.get? b=some o/\o.dict=none)/\(a==sysModules)=false:=by
 rcases d with ⟨kR,e⟩ | ⟨kR,e⟩
 . let{_,hd,vs,_,C}:=NL I.hok e;show{C.typeIs,λb q=>?_,hd};cases q;let{o,3,U,J,_}:=C;show⟨o,U,J.2.1⟩
 . let{_,hd,xs,_,C}:=NH I.hok e;show{C.typeIs,λb q=>?_,hd};cases q;let{o,3,U,J,_}:=C;show⟨o,U,J.2.1⟩
def MJ (hu:A.units+1<cLine)(I:AB X pins σ H s)(g:Ed H a y o)(ry:AR y u)(rd:AR d r)(h:∀U s',AB X pins σ H s'->AR (o.getD d) U->Q U s'):
 wpAny (model X.prog X.w) A (call (.builtin "dict.get") [.ref a,u,r]) Q E s:=by
 rcases g with ⟨kR,k,e,J,l⟩ | ⟨kR,k,b,e,J,eb,l⟩
 . subst J;let{z,hd,vs,rel,C}:=NL I.hok e;show call_meetsIn PySem.F.slot_dict_get C.typeIs PySem.F.entry_dict_get (PySem.F.args_dict_get_3 _ _ _) (meets_dict_get_default (BC X.prog X.w) a (Fo ry) hd r) {_,C.mapOf,h _ _ (I.tok _) ?_};rw[l];show (rel.val k).getD rd
 . subst J;cases (show u=Value.ref b from ry);let{z,hd,xs,rel,C}:=NH I.hok e;show call_meetsIn PySem.F.slot_dict_get C.typeIs PySem.F.entry_dict_get (PySem.F.args_dict_get_3 _ _ _) (meetsH_dict_get_default (tupleKind (BC X.prog X.w)) a b hd r) {tupleKind_room_in1 hu,k,xs,Nr I.hok eb,C,h _ _ (I.tok _) ?_};rw[l];show (rel.val k).getD rd
def Ky (I ty C:TE):TE:=λσ H Q=>I σ H λx H1=>∃a,x=.ref a/\IsD H1 a/\ty σ H1 λy J=>C σ J λz H3=>∃o,Ed H3 a y o/\Q (o.getD z) H3
def K8 (I ty:TE):TE:=λσ H Q=>I σ H λx H1=>∃a,x=.ref a/\IsD H1 a/\ty σ H1 λy C=>∃o k v,C a=some (.dK o)/\y=kV k/\Ar o k=some v/\Q v (upd C a (.dK (Bv o k)))
def fC (hu:X.A.units+1<cLine)(ho:PE X o td)(he:PE X e ty)(hf:PE X f tx)(m:M2 X o "get" apos e f kX):PE X (.Call (.Attribute o "get" apos) [e,f] [] kX) (Ky td ty tx):=by
 intro pins s σ H Q I h;show wpAny_Call_method m.base m.few m.line PySem.F.plainAttrs_dict PySem.F.slot_dict_get PySem.F.type_dict_get (AH (ho pins s σ H _ I h) λu s1 ⟨x,H1,C,rx,a,ex,d,q1⟩=>?_);subst ex;obtain rfl:u=Value.ref a:=rx;let{t1,J,_}:=cF C d;show{t1,J,?_};rw[m.trees];show Calls.callWith_builtin rfl (Calls.evalArgs_plain (Calls.spliced_cons (AH (he pins s1 σ H1 _ C q1) λiv s2 ⟨y,H2,I2,ry,q2⟩=>
  Calls.spliced_cons (AH (hf pins s2 σ H2 _ I2 q2) λfv s3 ⟨z,H3,I3,U,ov,g,q3⟩=>Calls.spliced_nil ?_))))
 show MJ hu I3 g ry U λw' s4 I4 mJ=>{_,H3,I4,mJ,q3}
def jv (ho:PE X o td)(he:PE X e ty)(m:M1 X o "pop" apos e kX):PE X (.Call (.Attribute o "pop" apos) [e] [] kX) (K8 td ty):=by intro pins s σ H Q I h;show wpAny_Call_method m.base m.few m.line PySem.F.plainAttrs_dict PySem.F.slot_dict_pop PySem.F.type_dict_pop (AH (ho pins s σ H _ I h) λu s1 ⟨x,H1,C,rx,a,ex,d,q1⟩=>?_);subst ex;obtain rfl:u=Value.ref a:=rx;let{t1,J,_}:=cF C d;show{t1,J,?_};rw[m.trees];show Calls.callWith_builtin rfl (Calls.evalArgs_plain (Calls.spliced_cons (AH (he pins s1 σ H1 _ C q1) λiv s2 ⟨y,H2,I2,U,kR,k,v,ea,ey,l,q2⟩=>Calls.spliced_nil ?_)));subst ey;show Q3 I2 ea U l (.inl rfl) λw' s3 I3 mJ=>{v,_,I3,mJ,q2}
end L2
namespace HT
open PySem PyProof.Rows
meta def lexLt:List Int->List Int->Bool
 | [],[]=>false
 | [],_::_=>true
 | _::_,[]=>false
 | x::xs,y::ys=>if x=y then lexLt xs ys else decide (x<y)
def lexLt_cons (x y)(xs ys):lexLt (x::xs) (y::ys)=if x=y then lexLt xs ys else decide (x<y):=rfl
def gU:lexLt [] []=false:=rfl
def jB (y)(ys):lexLt [] (y::ys)=true:=rfl
def fm (x)(xs):lexLt (x::xs) []=false:=rfl
def fD (A)(s)(a)(t:Tok)(c)(u:Tok):∃e,SeqAt.EqAt A s (.int a t) (.int c u) e/\(e=true↔a=c):=
 {(a==c),SeqAt.EqAt.int_int a t c u,by simp}
def iX (A)(s)(a)(t:Tok)(c)(u:Tok)(prog)(w)(E)(Q)(h:Q (.bool (decide (a<c))) s):
 wpAny (model prog w) A (richCompare .Lt (.int a t) (.int c u)) Q E s:=
 (PyProof.Rows.lt_int h:wpAny (model prog w) A (compareOp .Lt (.int a t) (.int c u)) Q E s)
section
open PySem.SeqAt
open PySem.AutoSeq1 (wpAny_loadPart')
open PySem.MeetsSeq PySem.MeetsSeq2 PySem.MeetsSeq3
def jY (l b)(items items2)(n n2)(dd pG)(sl sl2)(ns ms)(hi:IntsAre items.toList ns)(hj:IntsAre items2.toList ms):
 Meets (Builtin.«tuple.__lt__» {[.ref l,.ref b],[]})
  (λ_ R s=>s.heap.get? l=some { cls:=.type "tuple",dict:=dd,data:=.seq items n,slots:=sl }/\s.heap.get? b=some { cls:=.type "tuple",dict:=pG,data:=.seq items2 n2,slots:=sl2 } /\
   R (.ok (.ret (.bool (lexLt ns ms)))) s):=
 .of_wp λprog w A R s h=>by
  let{hp,g,d,tk,os}:=s;let{hl,hb,h}:=h;let f2:=AutoSeq1.sub_tuple_tuple;let z1:items.size=ns.length:=by rw[<-hi.length];simp
  let z2:items2.size=ms.length:=by rw[<-hj.length];simp
  wp_walk using wpAny_loadPart' hl,wpAny_loadPart' hb,wpAny_forIn_list _ (λrest b s'=>b.1=none/\s'=⟨hp,g,d,tk,os⟩/\∃(vs ws:List Value)(o C:List Int),rest=vs.zip ws /\
   IntsAre vs o/\IntsAre ws C/\o.length+items2.size=C.length+items.size/\R (.ok (.ret (.bool (lexLt o C)))) ⟨hp,g,d,tk,os⟩) _
  case turn=>
   rintro ⟨y,x⟩ rest b s' ⟨lH,rfl,vs,ws,o,C,I,hvi,J,hlen,hR⟩;cases hvi with
   | nil=>rw[List.zip_nil_left] at I;cases I
   | cons a t hvi'=>
    cases J with
    | nil=>rw[List.zip_nil_right] at I;cases I
    | cons c u hwi'=>
     rw[List.zip_cons_cons] at I;injection I with hyx mP;injection hyx with hy hx;subst hy hx;rw[lexLt_cons] at hR;simp only[zj] at hlen;let{e,he,U}:=fD A.in1 ⟨hp,g,d,tk,os⟩ a t c u;show zD (he prog w _ _ ?_);cases e with
     | true=>
      rw[if_pos (U.mp rfl)] at hR
      wp_walk
      show{2,3,3,mP,hvi',hwi',(),hR}
     | false=>
      rw[if_neg (λq=>absurd (U.mpr q) zk)] at hR;let hri:=iX A.in1 ⟨hp,g,d,tk,os⟩ a t c u prog w
      wp_walk using hri
      show{1,by simpa using hR}
  case fin=>
   rintro ⟨b1,b2⟩ s' ⟨lH,rfl,vs,ws,o,C,I,hvi,J,hlen,hR⟩;simp only at lH;subst lH;let hv:lexLt o C=decide (items.size<items2.size):=by
    cases hvi with
    | nil=>
     cases J with
     | nil=>simp only[Hn] at hlen;rw[gU];show (za ()).symm
     | cons c u hw=>simp only[Hn,zj] at hlen;rw[jB];show (zY ()).symm
    | cons a t hv=>
     cases J with
     | nil=>simp only[Hn,zj] at hlen;rw[fm];show (za ()).symm
     | cons c u hw=>rw[List.zip_cons_cons] at I;cases I
   rw[hv] at hR
   wp_walk
   show{1,by simpa [Builtin.Tuple.tupleCompareSizes] using hR}
  case h=>
   show{2,items.toList,items2.toList,ns,ms,0,hi,hj,(),h}
end
def lt_tupInts (hl:IsTup s.heap l items)(hb:IsTup s.heap b items2)(hi:IntsAre items.toList ns)(hj:IntsAre items2.toList ms)
 (hu:A.units<cLine)(h:Q (.bool (lexLt ns ms)) s):wpAny (model prog w) A (compareOp .Lt (.ref l) (.ref b)) Q E s:=by
 let{{cls,dd,data,sl},J,U,n,hd}:=id hl;let{{cls2,pG,data2,o},I,C,n2,hd2}:=id hb;simp only at U hd C hd2;subst U hd C hd2;show richCompare_meets_room (op:=.Lt) {_,J,0} {_,I,0} PySem.F.slot_tuple_lt PySem.F.entry_tuple_lt (PySem.F.args_tuple_lt_2 _ _) (jY l b items items2 n n2 dd pG sl o ns ms hi hj)
  ⟨J,I,show Value.bool (lexLt ns ms)≠Value.notImplemented/\Q (.bool (lexLt ns ms)) s from {(λx=>nomatch x),h}⟩ hu
def cat_tup (ht:IsTup s.heap t vs.toArray)(hb:IsTup s.heap b ws.toArray)(hv:vs≠[])
 (h1:ws=[]->Q (.ref t) s)(h2:ws≠[]->Q (.ref s.heap.objs.size) { s with heap:=s.heap.push { cls:=.type "tuple",data:=.seq (vs++ws).toArray } })
 (hsz:vs.length+ws.length<=sizeLine):wpAny (model prog w) A (binaryOp .Add (.ref t) (.ref b)) Q E s:=by
 let{{cls,dd,data,J},I,hc,n,hd}:=id ht;let{{cls2,U,data2,o},C,pC,n2,hd2}:=id hb;simp only at hc hd pC hd2;subst hc hd pC hd2;let e:vs.toArray++ws.toArray=(vs++ws).toArray:=by simp
 by_cases hw:ws=[]
 . show concat_meets {_,I,0} {_,C,0} noFill_tuple_add seq_tuple_add PySem.F.slot_tuple_add PySem.F.entry_tuple_add (PySem.F.args_tuple_add_2 _ _)
    (tuple_addW1 t b vs.toArray ws.toArray n n2 dd U J o (by simpa using hv) (by simp[hw])) {I,C,h1 hw}
 . show concat_meets {_,I,0} {_,C,0} noFill_tuple_add seq_tuple_add PySem.F.slot_tuple_add PySem.F.entry_tuple_add (PySem.F.args_tuple_add_2 _ _)
    (tuple_addW2 t b vs.toArray ws.toArray n n2 dd U J o (by simpa using hv) (by simpa using hw) (by rwa[zP,zP])) {I,C,?_}
   rw[e];show h2 hw
meta def sIx (n d:Nat):Option Int->Nat
 | none=>d
 | some v=>if v<0 then (v+(n:Int)).toNat else min v.toNat n
def sIx_none (n d):sIx n d none=d:=rfl
def sIx_nat (n d k:Nat):sIx n d (some (k:Int))=min k n:=by
 change (if (k:Int)<0 then ((k:Int)+(n:Int)).toNat else min (k:Int).toNat n)=min k n
 rw[if_neg (),Fs]
def MZ (n d)(hd:d<=n)(o):sIx n d o<=n:=by
 cases o with
 | none=>show hd
 | some v=>
  change (if v<0 then (v+(n:Int)).toNat else min v.toNat n)<=n
  by_cases C:v<0
  . rw[if_pos C];lia
  . rw[if_neg C];show Nat.min_le_right _ _
def ZF (v)(n d:Nat):(if v<0 then max (v+(n:Int)) 0 else min v (n:Int))=((sIx n d (some v):Nat):Int):=by
 change (if v<0 then max (v+(n:Int)) 0 else min v (n:Int))=(((if v<0 then (v+(n:Int)).toNat else min v.toNat n):Nat):Int)
 by_cases o:v<0
 . simp only[if_pos o];lia
 . simp only[if_neg o];lia
def dq (lo hi) (n:Nat):Builtin.Slice.sliceAdjust lo hi 1 (n:Int)=(((sIx n 0 lo:Nat):Int),((sIx n n hi:Nat):Int)):=by
 let o:¬ ((1:Int)<0):=()
 unfold Builtin.Slice.sliceAdjust;simp only[o,if_false];show Prod.ext ?_ ?_
 . cases lo with
   | none=>rfl
   | some v=>show ZF v n 0
 . cases hi with
   | none=>rfl
   | some v=>show ZF v n n
def gB (i j:Nat):Builtin.Slice.slicePlaces (i:Int) (j:Int) 1=j-i:=by
 unfold Builtin.Slice.slicePlaces;let o:(1:Int) > 0:=()
 simp only[o,if_true,Int.ediv_one];split <;> lia
def Zp (p:IsPart v o) (h:Q o s):wpAny (model prog w) A (Builtin.Slice.slicePartIndex v) Q E s:=by
 cases p with
 | none=>show slicePart_none h
 | int i t=>show slicePart_int h
def YF {lo:Option Int}{n:Nat}(I:s.heap.IsSliceOf sl vl vu .none)(pl:IsPart vl lo)(pu:IsPart vu hi)
 (h:Q (((sIx n 0 lo:Nat):Int),1,sIx n n hi-sIx n 0 lo) s):wpAny (model prog w) A (Builtin.Slice.sliceApplied (.ref sl) (pure (n:Int))) Q E s:=by
 let{os,C,J,o}:=id I;unfold Builtin.Slice.sliceApplied Builtin.Slice.sliceFields;show zD (zD (wpAny_field C o (x:=vl) rfl (zD (wpAny_field C o (x:=vu) rfl (zD (wpAny_field C o (x:=.none) rfl (zI ?_)))))));show zD (slicePart_none ?_);change wpAny _ _ (if ((1:Int)==0)=true then _ else _) _ _ s
 rw[if_neg (by decide)];show zD (Zp pl (zD (Zp pu (zD (zI ?_)))));change wpAny _ _ (match Builtin.Slice.sliceAdjust lo hi 1 (n:Int) with | (lo,hi)=>pure (lo,(1:Int),Builtin.Slice.slicePlaces lo hi 1)) _ _ s
 rw[dq lo hi n];change wpAny _ _ (pure (((sIx n 0 lo:Nat):Int),(1:Int),Builtin.Slice.slicePlaces ((sIx n 0 lo:Nat):Int) ((sIx n n hi:Nat):Int) 1)) _ _ s;rw[gB];show zI h
def jW (xs:Array Value)(i k:Nat):((List.range k).filterMap λ(m:Nat)=>xs[((i:Int)+(m:Int)*1).toNat]?).toArray=((xs.toList.drop i).take k).toArray:=by
 let e:(λ(m:Nat)=>xs[((i:Int)+(m:Int)*1).toNat]?)=λm=>xs[i+m]?:=by
  funext m;let:((i:Int)+(m:Int)*1).toNat=i+m:=()
  rw[this]
 rw[e];let:=pick_run xs i k;rw[List.filterMap_map] at this;let o:((λx=>xs[x]?)∘λx=>i+x)=λm=>xs[i+m]?:=rfl;rw[o] at this;rw[this]
def getItem_tuple_cut {lo:Option Int}(C:IsTup s.heap t items)(U:s.heap.IsSliceOf sl vl vu .none)(pl:IsPart vl lo)(pu:IsPart vu hi)
 (hw:¬ (sIx items.size 0 lo=0/\sIx items.size items.size hi=items.size))
 (h:Q (.ref s.heap.objs.size) { s with heap:=s.heap.push { cls:=.type "tuple",data:=.seq ((items.toList.drop (sIx items.size 0 lo)).take (sIx items.size items.size hi-sIx items.size 0 lo)).toArray } })
 (hsz:items.size<=sizeLine):wpAny (model prog w) A (getItem (.ref t) (.ref sl)) Q E s:=by
 let o:sizeOk (.seq ((items.toList.drop (sIx items.size 0 lo)).take (sIx items.size items.size hi-sIx items.size 0 lo)).toArray):=by
  change ((items.toList.drop (sIx items.size 0 lo)).take (sIx items.size items.size hi-sIx items.size 0 lo)).toArray.size<=sizeLine;rw[zP,zi,List.length_drop,Array.length_toList]
  lia
 let hj:sIx items.size items.size hi<=items.size:=MZ _ _ (zL _) hi;let{os,oB,I,hds}:=id U;let J:s.TypeIs (.ref sl) "slice" := ⟨os,oB,I⟩;unfold getItem
 try with_reducible show Ba ?_
 first | show zD (zI ?_) | skip
 show zD (wpAny_sequenceKey C.typeIs (by decide) ?_);show zD (Hq (name:=Str.ofString "__getitem__") C.typeIs PyProof.Rows.slot_tuple_getitem
  (Ez PyProof.Rows.slot_tuple_getitem C.typeIs entry_tuple_getitem ?_ (args_tuple_getitem _ _)))
 change wpAny _ _ (Builtin.Tuple.tupleItemsOf (.ref t) >>= _) _ _ s;show zD (tupleItemsOf_ C ?_);show zD (Ec J ?_);rw[if_pos (by decide)];show zD (YF U pl pu ?_);let mQ:¬ ((((sIx items.size 0 lo:Nat):Int)==0 && (1:Int)==1 && (sIx items.size items.size hi-sIx items.size 0 lo)==items.size)=true):=by intro q;rw[Bool.and_eq_true,Bool.and_eq_true] at q;let q1:((sIx items.size 0 lo:Nat):Int)=0:=eq_of_beq q.1.1;let q2:sIx items.size items.size hi-sIx items.size 0 lo=items.size:=eq_of_beq q.2;show hw {(),()}
 change wpAny _ _ (if (((sIx items.size 0 lo:Nat):Int)==0 && (1:Int)==1 && (sIx items.size items.size hi-sIx items.size 0 lo)==items.size)=true then _ else _) _ _ s
 rw[if_neg mQ,jW]
 first
  | show zD (m:=Builtin.Tuple.tupleExact _) (D7 (zI {1,zI h}) o)
  | show zD (m:=Builtin.Tuple.tupleExact _) (D7 (zD (zI (zI {1,zI h}))) o)
  | show zD (zD (m:=Builtin.Tuple.tupleExact _) (D7 (zI (zI {1,zI h})) o))
  | show zD (zD (m:=Builtin.Tuple.tupleExact _) (D7 (zI {1,zI h}) o))
end HT
namespace L2
open PySem PySem.Spec PyProof.Rows
abbrev TO:=St->Hp->(Option Int->Hp->Prop)->Prop
def PO (X:Cx)(e:Option Expr)(t:TO):Prop:=
 ∀pins s σ H Q,AB X pins σ H s->t σ H Q ->
  wpAny (model X.prog X.w) X.A (evalPart e X.env) (λu C=>∃o H',AB X pins σ H' C/\IsPart u o/\Q o H') X.xe s
def jO:TO:=λ_ H Q=>Q none H
def RG (t:TE):TO:=λσ H Q=>t σ H λx H1=>∃i,x=.int i/\Q (some i) H1
def DH :∀{us:List Value},AI (ns.map V.int) us->IntsAre us ns:=by
 induction ns with
 | nil=>intro us r;rw[List.map_nil] at r;cases r;show .nil
 | cons n ns I=>
  intro us r;rw[Bg] at r;cases r with
  | cons C o=>let{t,e}:=C;subst e;show .cons n t (I o)
section
variable {X:Cx}{e:Expr}{te:TE}{lo hi:Option Expr}{tl th:TO}{pos p2:Pos}
def Ek:PO X none jO:=by intro pins s σ H Q I h;rw[evalPart_none];show zI {none,H,I,.none,h}
def Di (h:PE X e te):PO X (some e) (RG te):=by intro pins s σ H Q I hw;rw[evalPart_some];show AH (h pins s σ H _ I hw) λu s1 ⟨x,H1,J,o,C⟩=>?_;let{i,0,q}:=C;let{t,0}:=o;show{some i,H1,J,.int i t,q}
def NV (X:Cx)(r:V->Option Int->Option Int->Hp->VK->Prop):Prop:=
 ∀pins s σ H x v C o lo hi I Q,AB X pins σ H s->AR x v->s.heap.IsSliceOf I C o .none->IsPart C lo->IsPart o hi->r x lo hi H Q ->
  ∃T id,typeLookup (.type T) "__getitem__"=pure (some (.builtin id))/\s.TypeIs v T/\wpAny (model X.prog X.w) X.A (getItem v (.ref I)) (EP X pins σ Q) X.xe s
def kM (r:V->Option Int->Option Int->Hp->VK->Prop)(te:TE)(tl th:TO):TE:=λσ H Q=>te σ H λx H1=>tl σ H1 λl o=>th σ o λu H3=>r x l u H3 Q
def Dz (hr:NV X r)(he:PE X e te)(hl:PO X lo tl)(hu:PO X hi th):PE X (.Subscript e (.Slice lo hi none p2) pos) (kM r te tl th):=by intro pins s σ H Q I h;show Subscript_ (AH (he pins s σ H _ I h) λv s1 ⟨x,H1,I1,J,q1⟩=>?_);show wpAny_Slice (AH (hl pins s1 σ H1 _ I1 q1) λC s2 ⟨l,H2,I2,pl,q2⟩=>AH (hu pins s2 σ H2 _ I2 q2) λo s3 ⟨u,H3,I3,pu,U⟩=>?_);rw[evalPart_none];show zI ?_;let I4:AB X pins σ H3 { s3 with heap:=s3.heap.push { cls:=.type "slice",data:=.fields #[C,o,.none] } }:=I3.kept (t':=s3.toks) λb ob q=>zM _ q;let{T,id,hT,ht,hg}:=hr pins { s3 with heap:=s3.heap.push { cls:=.type "slice",data:=.fields #[C,o,.none] } } σ H3 x v C o l u s3.heap.objs.size Q I4 J (Heap.IsSliceOf.new ..) pl pu U;change wpAny (model X.prog X.w) X.A (subscriptTail e (.Slice lo hi none p2) v (.ref s3.heap.objs.size)) (EP X pins σ Q) X.xe { s3 with heap:=s3.heap.push { cls:=.type "slice",data:=.fields #[C,o,.none] } };show tail_any (ops:=[.ref s3.heap.objs.size,v]) ht hT hg (by with_unfolding_all rfl)
meta def BV (xs:List V)(lo hi:Option Int):List V:=(xs.drop (HT.sIx xs.length 0 lo)).take (HT.sIx xs.length xs.length hi-HT.sIx xs.length 0 lo)
def Y7 (xs)(lo hi):(BV xs lo hi).length<=xs.length:=by
 unfold BV;rw[zi,List.length_drop]
 lia
def WJ (K:AG):V->Option Int->Option Int->Hp->VK->Prop:=λx lo hi H Q=>∃a xs,x=.ref a/\AD K H a xs /\
 ¬ (HT.sIx xs.length 0 lo=0/\HT.sIx xs.length xs.length hi=xs.length)/\∀p,H p=none->Q (.ref p) (upd H p (.tup (BV xs lo hi)))
def KR:NV X (WJ X.K):=by
 intro pins s σ H x v vl vu lo hi sl Q I J hs U pu h;let{a,xs,0,hx,hw,q}:=h;cases J;let{its,r,C,hz}:=I.tuple hx;let hlen:its.toArray.size=xs.length:=by rw[zP];show r.length.symm
 show{"tuple",_,PyProof.Rows.slot_tuple_getitem.lookup,C.typeIs,?_};show HT.getItem_tuple_cut C hs U pu (by rwa[hlen]) ?_ (by rwa[hlen]);rw[hlen];show{.ref s.heap.objs.size,_,I.laid (t':=s.toks) (o:=.tup (BV xs lo hi)) (λb ob q=>zM _ q) (zL _) ?_,0,q _ (I.hok.fresh (zL _))};show{{zn (Y7 xs lo hi) hz,_,zU _ rfl,0},_,(r.drop (HT.sIx xs.length 0 lo)).take (HT.sIx xs.length xs.length hi-HT.sIx xs.length 0 lo),IsTup.new _ _}
def P9 (K:AG):R2:=λx y H Q=>∃a b xs o,x=.ref a/\y=.ref b/\AD K H a xs/\AD K H b o/\xs≠[]/\xs.length+o.length<=sizeLine /\
 (o=[]->Q (.ref a) H)/\(o≠[]->∀p,H p=none->Q (.ref p) (upd H p (.tup (xs++o))))
def AI.nil_iff (r:AI xs us):us=[]↔xs=[]:=by
 cases r with
 | nil=>simp
 | cons _ _=>simp
def fu:Au X (binaryOp .Add) (P9 X.K):=by intro pins s σ H x y v u Q I rx ry h;let{a,b,xs,U,2,ha,hb,hx,hz,q1,q2}:=h;cases rx;cases ry;let{its,J,p1,_}:=I.tuple ha;let{kf,C,p2,_}:=I.tuple hb;show HT.cat_tup p1 p2 (λz=>hx (J.nil_iff.mp z)) (λz=>{.ref a,H,I,0,q1 (C.nil_iff.mp z)}) (λz=>?_) (by rwa[<-J.length,<-C.length]);show{.ref s.heap.objs.size,_,I.laid (t':=s.toks) (o:=.tup (xs++U)) (λb ob q=>zM _ q) (zL _) ?_,0,q2 (λw=>z (C.nil_iff.mpr w)) _ (I.hok.fresh (zL _))};show{{by rwa[zS],_,zU _ rfl,0},_,J.append C,IsTup.new _ _}
end
meta def DP (n:Nat)(i:Int):Option Nat:=if 0<=i then (if i<n then some i.toNat else none) else if -(n:Int)<=i then some (i+n).toNat else none
meta def Bl {o:Type}(xs:List o)(i:Int):Option o:=(DP xs.length i).bind λj=>xs[j]?
def Z9 (h:DP n i=some j):seqIndex? i n=some j/\j<n/\-(n:Int)<=i/\i<n:=by
 unfold DP at h;by_cases h0:0<=i
 . rw[if_pos h0] at h;by_cases o:i<n
   . rw[if_pos o] at h;let e:i.toNat=j:=zT h;show{by rw[seqIndex_of h0 o,e],(),(),o}
   . rw[if_neg o] at h;cases h
 . rw[if_neg h0] at h;by_cases o : -(n:Int)<=i
   . rw[if_pos o] at h;let e:(i+n).toNat=j:=zT h;show{by rw[seqIndex_neg () o,e],(),o,()}
   . rw[if_neg o] at h;cases h
def UX (h:Bl xs i=some v):∃j,seqIndex? i xs.length=some j/\xs[j]?=some v/\j<xs.length/\-(xs.length:Int)<=i/\i<xs.length:=by
 unfold Bl at h;cases e:DP xs.length i with
 | none=>rw[e] at h;cases h
 | some j=>rw[e] at h;let{J,I,C,o}:=Z9 e;show⟨j,J,h,I,C,o⟩
def Bb {j:Nat}(h:xs[j]?=some v):Bl xs (j:Int)=some v:=by
 let o:j<xs.length:=(zH.mp h).1;let e:DP xs.length (j:Int)=some j:=by unfold DP;rw[if_pos (),if_pos ()];simp
 unfold Bl;rwa[e]
def ON (xs)(v:α):Bl (xs++[v]) (-1)=some v:=by
 let o:(xs++[v]).length=xs.length+1:=by simp
 let e:DP (xs++[v]).length (-1)=some xs.length:=by
  unfold DP;rw[o,if_neg (by decide),if_pos ()];congr 1
  lia
 unfold Bl;rw[e];change (xs++[v])[xs.length]?=some v;simp
def ZO (b:Expr):Prop:=∀o i,subscripted b false o i=operate [o,i] (getItem o i)
def MD (X:Cx)(r:R2):Prop:=
 ∀value slice pins s σ H x y v u Q,AB X pins σ H s->AR x v->AR y u->r x y H Q ->
  subscripted slice false v u=operate [v,u] (getItem v u)->wpAny (model X.prog X.w) X.A (subscriptTail value slice v u) (EP X pins σ Q) X.xe s
def HX (X:Cx)(id:String)(r:V->List V->Hp->VK->Prop):Prop:=
 ∀pins s σ H x xs v us Q,AB X pins σ H s->AR x v->AI xs us->r x xs H Q ->
  wpAny (model X.prog X.w) X.A (call (.builtin id) (v::us)) (EP X pins σ Q) X.xe s
section
variable {X:Cx}{a b:Expr}{ta tb:TE}{pos:Pos}
def OV (U:MD X r)(ha:PE X a ta)(hb:PE X b tb)(J:ZO b):PE X (.Subscript a b pos) (Pj r ta tb):=by intro pins s σ H Q I h;show Subscript_ (Mc ha hb I h λv u s2 x y H2 I2 C o q=>U a b pins s2 σ H2 x y v u Q I2 C o q (J _ _))
inductive Y3 (K:AG)(x:V)(y:V)(H:Hp)(Q:VK):Prop
 | mk:∀p xs i v,(x=.ref p)->(y=.int i)->(AA K H p xs)->(Bl xs i=some v)->(Q v H)->Y3 K x y H Q
def Qx (K:AG):R2:=λx y H Q=>Y3 K x y H Q
inductive Zk (K:AG)(x:V)(y:V)(H:Hp)(Q:VK):Prop
 | mk:∀p xs i v,(x=.ref p)->(y=.int i)->(AD K H p xs)->(Bl xs i=some v)->(Q v H)->Zk K x y H Q
def RJ (K:AG):R2:=λx y H Q=>Zk K x y H Q
def Xl:R2:=λx y H Q=>∃z i c,x=.str z/\y=.int i/\z.length<=sizeLine/\Bl z.cps.toList i=some c/\Q (.str {#[c]}) H
def zx:MD X (Qx X.K):=by
 intro value slice pins s σ H x y v u Q I rx ry h U;let{p,xs,i,z,2,hq,he,q}:=h;cases rx;let{t,0}:=ry;let{its,r,C,hz}:=I.list hq;let{j,o,h2,h3,h4,h5}:=UX he;let{w,ew,mJ}:=r.get h2;let hl:=r.length;let hn:=Jm;let fin:EP X pins σ Q w s:=⟨z,H,I,mJ,q⟩;by_cases h0:0<=i
 . let J:i.toNat=j:=by rw[seqIndex_of h0 h5] at o;show zT o
   show item_listR C.isList h0 () (by rw[J];simpa using ew) fin U
 . let J:(i+(its.toArray.size:Int)).toNat=j:=by rw[seqIndex_neg () h4] at o;rw[zP,<-hl];show zT o
   show subscriptTail_builtinR (x:=w) C.isList.typeIs slot_list_getitem.lookup
    (wpAny_getItem_list_neg (Q:=λr s'=>r=w/\EP X pins σ Q r s') C.isList () (by rw[zP] <;> lia) () (by rw[J];simpa using ew) {0,fin}) U
def AM:MD X (RJ X.K):=by
 intro value slice pins s σ H x y v u Q I U J h hs;let{p,xs,i,z,2,hq,he,q}:=h;cases U;let{t,0}:=J;let{its,r,o,hz}:=I.tuple hq;let{j,h1,h2,h3,h4,h5}:=UX he;let{w,ew,mJ}:=r.get h2;let hl:=r.length;let hn:=Jm;let fin:EP X pins σ Q w s:=⟨z,H,I,mJ,q⟩;show subscriptTail_builtinR (x:=w) o.typeIs slot_tuple_getitem.lookup
  (getItem_tuple (j:=j) (Q:=λr C=>r=w/\EP X pins σ Q r C) o () () (by rwa[zP,<-hl]) (by simpa using ew) {0,fin}) hs
def ZU:MD X Xl:=by
 intro value slice pins s σ H x y v u Q I J C h U;let{z,i,c,2,hz,he,q}:=h;let{t,0}:=J;let{t',0}:=C;let{j,o,h2,h3,h4,h5}:=UX he;let hl:z.cps.toList.length=z.length:=by simp[Str.length]
 rw[hl] at o h4 h5;let hn:=Jm;show tail_any (typeIs_str s z t) slot_str_getitem.lookup (getItem_str (c:=c) (by let e1:decide (i < -(2 ^ 63:Int))=false:=za ();let e2:decide (i ≥ 2 ^ 63)=false:=za ();rw[e1,e2,Bool.or_false]) (by rw[o];simpa using h2) {.str {#[c]},H,I.tok _,{1},q}) U
def dC (its:List Value)(n j)(u):Obj.mapSeq (·.setIfInBounds j u) { cls:=.type "list",data:=.seq its.toArray n }={ cls:=.type "list",data:=.seq (its.set j u).toArray n }:=by simp[Obj.mapSeq]
def AB.lst {pins:Cc}{σ:St}{H:Hp}{s:Shared}{p:Addr}{xs:List V}(I:AB X pins σ H s)(h:H p=some (.lst xs)):
 ∃its n,AI xs its/\s.heap.get? p=some { cls:=.type "list",data:=.seq its.toArray n }/\xs.length<=sizeLine:=by
 let{z,its,n,r,e}:=I.hok p _ h;show⟨its,n,r,e,z⟩
def AB.lstUpd {its:List Value}(I:AB X pins σ H s)(h:H p=some (.lst xs))
 (C:s.heap.get? p=some { cls:=.type "list",data:=.seq its.toArray n }) (hf:f { cls:=.type "list",data:=.seq its.toArray n }={ cls:=.type "list",data:=.seq its'.toArray n' }) (r:AI ys its')(o:ys.length<=sizeLine)(t):
 AB X pins σ (upd H p (.lst ys)) { s with heap:=s.heap.update p f,toks:=t }:=by
 let e:(s.heap.update p f).get? p=some { cls:=.type "list",data:=.seq its'.toArray n' }:=by rw[Heap.get?_update_self f C (by rw[hf] <;> rfl),hf]
 show I.write (x:=p) (e:=p) (by rw[h];trivial) (.inl rfl) (λb u J q=>(Heap.get?_update_other _ _ (Ne.symm J)).trans q) {_,e} ?_;show⟨o,its',n',r,e⟩
inductive Yp (o:V)(i:V)(v:V)(H:Hp)(Q:Hp->Prop):Prop
 | mk:∀p xs k j,(o=.ref p)->(i=.int k)->(H p=some (.lst xs))->(DP xs.length k=some j)->(Q (upd H p (.lst (xs.set j v))))->Yp o i v H Q
def Ov:V->V->V->Hp->(Hp->Prop)->Prop:=λo i v H Q=>Yp o i v H Q
def Fi:PD X Ov:=by
 intro pins s σ H o i v ov iv u Q I ro ri rv h;let{p,xs,k,j,2,hp,hj,q}:=h;cases ro;let{t,0}:=ri;let{its,n,r,J,hz}:=I.lst hp;let{C,h2,h3,h4}:=Z9 hj;let U:=r.length;let hn:=Jm;let I':AB X pins σ (upd H p (.lst (xs.set j v))) { s with heap:=s.heap.update p (Obj.mapSeq (·.setIfInBounds j u)) }:=
  I.lstUpd hp J (dC its n j u) (r.set rv j) (by rwa[List.length_set]) s.toks
 by_cases h0:0<=k
 . let hk:k.toNat=j:=by rw[seqIndex_of h0 h4] at C;show zT C
   show PySem.W.ki_setAt J h0 () (by rwa[zP,<-U]) (by rw[hk];show{_,I',q})
 . let hk:(k+(its.toArray.size:Int)).toNat=j:=by rw[seqIndex_neg () h3] at C;rw[zP,<-U];show zT C
   show PySem.W.ki_setBack J () (by rwa[zP,<-U]) () (by rw[hk];show{_,I',q})
def df (lo hi)(n):(sliceBounds lo hi none n).1=((HT.sIx n 0 lo:Nat):Int)/\(sliceBounds lo hi none n).2.1=((HT.sIx n n hi:Nat):Int)/\(sliceBounds lo hi none n).2.2=1:=by
 show{?_,?_,0}
 . cases lo with
   | none=>simp[sliceBounds,HT.sIx]
   | some i=>
    simp only[sliceBounds,HT.sIx,Option.getD_none,show (1:Int) > 0 by decide,if_true];by_cases h:i<0
    . simp only[h,if_true] <;> lia
    . simp only[h,if_false] <;> lia
 . cases hi with
   | none=>simp[sliceBounds,HT.sIx]
   | some i=>
    simp only[sliceBounds,HT.sIx,Option.getD_none,show (1:Int) > 0 by decide,if_true];by_cases h:i<0
    . simp only[h,if_true] <;> lia
    . simp only[h,if_false] <;> lia
def iK (its:List Value)(lo hi):slicePick its.toArray lo hi none=((its.drop (HT.sIx its.length 0 lo)).take (HT.sIx its.length its.length hi-HT.sIx its.length 0 lo)).toArray:=by let{I,C,o}:=df lo hi its.toArray.size;unfold slicePick;rw[I,C,o];simp only[sliceRange_one,pick_run,zP] <;> rfl
def Vr (K:AG):V->Option Int->Option Int->Hp->VK->Prop:=λx lo hi H Q=>∃a xs,x=.ref a/\AA K H a xs/\∀p,H p=none->Q (.ref p) (upd H p (.lst (BV xs lo hi)))
def Jo:NV X (Vr X.K):=by intro pins s σ H x v vl vu lo hi sl Q I J hs U pu h;let{a,xs,0,hx,q}:=h;cases J;let{its,r,C,hz}:=I.list hx;let hlen:=r.length;show{"list",_,slot_list_getitem.lookup,C.isList.typeIs,?_};show wpAny_getItem_list_slice C.isList hs U pu .none (by simp) ?_ (by rw[zP] <;> lia);rw[iK,<-hlen];show{.ref s.heap.objs.size,_,I.laid (t':=s.toks) (o:=.lst (BV xs lo hi)) (λb ob q=>zM _ q) (zL _) ?_,0,q _ (I.hok.fresh (zL _))};show⟨zn (Y7 xs lo hi) hz,_,0,(r.drop (HT.sIx xs.length 0 lo)).take (HT.sIx xs.length xs.length hi-HT.sIx xs.length 0 lo),zU _ rfl⟩
meta def Fc:V->Bool
 | .non=>true
 | .bl _=>true
 | .int _=>true
 | .str _=>true
 | _=>false
meta def Gy:V->V->Bool
 | .non,.non=>true
 | .bl a,.bl b=>a==b
 | .bl a,.int b=>(if a then 1 else 0)==b
 | .int a,.bl b=>a==(if b then 1 else 0)
 | .int a,.int b=>a==b
 | .str a,.str b=>a==b
 | _,_=>false
def aS (I:AR y u)(o:AR x v)(U:Fc y=true)(J:Fc x=true):SeqAt.EqAt A s u v (Gy y x):=by
 cases y with
 | non=>
  cases I;cases x with
  | non=>cases o;show SeqAt.EqAt.same _
  | bl b=>cases o;show SeqAt.EqAt.none_bool b
  | int b=>let{t,0}:=o;show SeqAt.EqAt.none_int b t
  | str b=>let{t,0}:=o;show SeqAt.EqAt.none_str b t
  | _=>show absurd (show false=true from J) zk
 | bl a=>
  cases I;cases x with
  | non=>cases o;show SeqAt.EqAt.bool_none a
  | bl b=>cases o;show SeqAt.EqAt.bool_bool a b
  | int b=>let{t,0}:=o;show SeqAt.EqAt.bool_int a b t
  | str b=>let{t,0}:=o;show SeqAt.EqAt.bool_str a b t
  | _=>show absurd (show false=true from J) zk
 | int a=>
  let{C,0}:=I;cases x with
  | non=>cases o;show SeqAt.EqAt.int_none a C
  | bl b=>cases o;show SeqAt.EqAt.int_bool a C b
  | int b=>let{t,0}:=o;show SeqAt.EqAt.int_int a C b t
  | str b=>let{t,0}:=o;show SeqAt.EqAt.int_str a C b t
  | _=>show absurd (show false=true from J) zk
 | str a=>
  let{C,0}:=I;cases x with
  | non=>cases o;show SeqAt.EqAt.str_none a C
  | bl b=>cases o;show SeqAt.EqAt.str_bool a C b
  | int b=>let{t,0}:=o;show SeqAt.EqAt.str_int a C b t
  | str b=>let{t,0}:=o;show SeqAt.EqAt.str_str a C b t
  | _=>show absurd (show false=true from J) zk
 | _=>show absurd (show false=true from U) zk
meta def HA (x:V)(u:Value):Bool:=match u with
 | .none=>Gy .non x
 | .bool b=>Gy (.bl b) x
 | .int i _=>Gy (.int i) x
 | .str z _=>Gy (.str z) x
 | _=>false
def cb (r:AR y u)(f:Fc y=true):HA x u=Gy y x:=by
 cases y with
 | non=>cases r;rfl
 | bl b=>cases r;rfl
 | int i=>let{t,0}:=r;rfl
 | str z=>let{t,0}:=r;rfl
 | _=>show absurd (show false=true from f) zk
def VP :∀{xs:List V}{us:List Value},AI xs us->xs.all Fc=true->us.any (HA x)=xs.any λy=>Gy y x
 | _,_,.nil,_=>rfl
 | y::xs,u::us,.cons r t,f=>by rw[List.all_cons,Bool.and_eq_true] at f;rw[List.any_cons,List.any_cons,cb r f.1,VP t f.2]
def Ua (o:AR x v)(C:Fc x=true):∀{xs:List V}{us:List Value},AI xs us->xs.all Fc=true->∀u∈us,SeqAt.EqAt A s u v (HA x u)
 | _,_,.nil,_=>λu hu=>by cases hu
 | y::xs,u::us,.cons r t,f=>λI hu=>by
  rw[List.all_cons,Bool.and_eq_true] at f;rcases zZ.mp hu with rfl | hu
  . rw[cb r f.1];show aS r o f.1 C
  . show Ua o C t f.2 I hu
meta def UC (x:V)(xs:List V):Bool:=xs.any λy=>Gy y x
def kL (K:AG)(neg:Bool):R2:=λx y H Q=>∃p xs,y=.ref p/\(AA K H p xs\/AD K H p xs)/\Fc x=true/\xs.all Fc=true/\Q (.bl (if neg then !UC x xs else UC x xs)) H
def hJ:Au X (compareOp .In) (kL X.K false):=by
 intro pins s σ H x y v u Q I C U h;let{p,xs,0,hq,J,fs,q}:=h;cases U;rcases hq with hq | hq
 . let{its,r,o,hz}:=I.list hq;show SeqAt.in_listAt (HA x) o.isList (λw hw=>Ua C J r fs w (by simpa using hw)) {.bl _,H,I,0,?_};rwa[show its.toArray.any (HA x)=its.any (HA x) by simp,VP r fs]
 . let{its,r,o,hz}:=I.tuple hq;show SeqAt.in_tupleAt (HA x) o (λw hw=>Ua C J r fs w (by simpa using hw)) {.bl _,H,I,0,?_};rwa[show its.toArray.any (HA x)=its.any (HA x) by simp,VP r fs]
inductive J6 (K:AG)(xs:List V)(H:Hp)(Q:VK):Prop
 | mk:∀p ys,(xs=[.ref p])->((AA K H p ys\/AD K H p ys))->(Q (.int ys.length) H)->J6 K xs H Q
def CD:CF X (.builtin "len") (J6 X.K):=by
 intro pins s σ H xs us Q I r h;let{p,J,0,hq,q}:=h;let{u,0,U}:=BX r;cases U;let hn:=Jm;rcases hq with hq | hq
 . let{its,o,C,hz}:=I.list hq;let hlen:=o.length;show Calls.call_len_list C.isList (by simp only[zP] <;> lia) {.int J.length,H,I.tok _,{s.toks+1,by rw[zP,hlen]},q}
 . let{its,o,C,hz}:=I.tuple hq;let hlen:=o.length;show len_tuple C (by simp only[zP] <;> lia) {.int J.length,H,I.tok _,{s.toks+1,by rw[zP,hlen]},q}
inductive Pf (xs:List V)(H:Hp)(Q:VK):Prop
 | mk:∀z,(xs=[.str z])->(z.length<=sizeLine)->(Q (.int z.length) H)->Pf xs H Q
def VY:CF X (.builtin "len") Pf:=by intro pins s σ H xs us Q I r h;let{z,0,o,q}:=h;let{u,0,t,0}:=BX r;let C:=Jm;show len_str () {.int z.length,H,I.tok _,{1},q}
inductive Oq (K:AG)(xs:List V)(H:Hp)(Q:VK):Prop
 | mk:∀p ys,(xs=[.ref p])->(((AA K H p ys/\∀l,H l=none->Q (.ref l) (upd H l (.tup ys)))\/(AD K H p ys/\Q (.ref p) H)))->Oq K xs H Q
def Ct:CF X (.type "tuple") (Oq X.K):=by
 intro pins s σ H xs us Q I r h;let{p,ys,0,h}:=h;let{u,0,rx}:=BX r;cases rx;rcases h with ⟨U,q⟩ | ⟨U,q⟩
 . let{its,C,J,hz}:=I.list U;let hlen:=C.length;show call_tuple_list J.isList (λh' kp=>?_) (by simp only[zP] <;> lia);let I1:AB X pins σ H { s with heap:=h' }:=I.kept (t':=s.toks) kp;let I2:AB X pins σ (upd H h'.objs.size (.tup ys)) { s with heap:=h'.push { cls:=.type "tuple",data:=.seq its.toArray } }:=
    I1.laid (t':=s.toks) (λb o e=>zM _ e) (zL _) (show BD X.prog X.w _ _ _ (.tup ys) from {{hz,_,zU _ rfl,0},its,C,IsTup.new _ _})
   show{.ref h'.objs.size,_,I2,0,q _ (I1.hok.fresh (zL _))}
 . let{its,C,J,hz}:=I.tuple U;show call_tuple_same J {.ref p,H,I,0,q}
def cq (K:AG)(T:String)(x:V)(H:Hp):Prop:=match x with
 | .str _=>T="str"
 | .int _=>T="int"
 | .ref p=>(T="list"/\∃xs,AA K H p xs)\/(T="tuple"/\∃o,K.lookup p=some o/\o.cls=.type "tuple"/\o.dict=none) \/
  (T="dict"/\((∃C,H p=some (.dK C))\/∃C,H p=some (.dT C)))\/(T="set"/\∃S n,H p=some (.set S n))
 | _=>False
def LP (I:AB X pins σ H s)(r:AR x v)(ty:cq X.K T x H):
 s.TypeIs v T/\∀a,v=.ref a->∃ob,s.heap.get? a=some ob/\ob.dict=none:=by
 cases x with
 | str z=>let{t,0}:=r;cases (show T="str" from ty);show{typeIs_str s z t,λ_ e=>nomatch e}
 | int i=>let{t,0}:=r;cases (show T="int" from ty);show{typeIs_int s i t,λ_ e=>nomatch e}
 | ref p=>
  cases r;rcases ty with ⟨rfl,xs,hq⟩ | ⟨rfl,o,C,hc,hd⟩ | ⟨rfl,C⟩ | ⟨rfl,S,n,C⟩
  . let{its,_,U,_}:=I.list hq;show{U.isList.typeIs,λa e=>?_};cases e;let{o,n,e,c,hd,_}:=U;show⟨o,e,hd⟩
  . show{{o,I.kIn p o C,hc},λa e=>?_};cases e;show{o,I.kIn _ o C,hd}
  . let z:∃o,s.heap.get? p=some o/\o.ExactDict:=by
     rcases C with ⟨kR,C⟩ | ⟨kR,C⟩
     . let{3,3,o,3,e,ex,_}:=I.hok p _ C;show⟨o,e,ex⟩
     . let{3,3,o,3,e,ex,_}:=I.hok p _ C;show⟨o,e,ex⟩
    let{o,e,ex}:=z;show{⟨o,e,ex.1⟩,λa J=>?_};cases J;show⟨o,e,ex.2.1⟩
  . let{o,_,3,e,ex,_}:=I.hok p _ C;show{⟨o,e,ex.1⟩,λa J=>?_};cases J;show⟨o,e,ex.2.1⟩
 | _=>show False.elim ty
inductive IV (K:AG)(T:String)(r:V->List V->Hp->VK->Prop)(t:TA)(σ:St)(Q:VK)(x:V)(H1:Hp):Prop
 | mk:(cq K T x H1)->(t σ H1 λxs H2=>r x xs H2 Q)->IV K T r t σ Q x H1
def c4 (K:AG)(T:String)(r:V->List V->Hp->VK->Prop)(to:TE)(t:TA):TE:=λσ H Q=>to σ H λx H1=>IV K T r t σ Q x H1
variable {o e:Expr}{es:List Expr}{to:TE}{t:TA}{name:Str}{apos kX:Pos}{T id:String}{r:V->List V->Hp->VK->Prop}
def BE (pa:PlainAttrs T)(slot:Slot T name id)(C:typeOf (.builtin id)=pure (.type "method_descriptor")) (hm:HX X id r)(ho:PE X o to)(ha:PA X (e::es) t)
 (mr:autoParam (attributeBase o name X.env (eval o X.env)=eval o X.env) d_._auto_5)
 (pA:autoParam (((backTo kX (starEach (e::es) X.env)).all (λx=>!x.1) && (backToKw kX (keywordEach [] X.env)).all (λx=>x.1.isSome)
  && decide ((e::es).length+([]:List Keyword).length+(if ([]:List Keyword).isEmpty then 0 else 1)<30))=true) d_._auto_5)
 (ml:autoParam ((apos.endLine==kX.line)=true) d_._auto_5)(hs:autoParam (starEach (e::es) X.env=(false,eval e X.env)::starEach es X.env) d_._auto_5)(mB:autoParam ((backTo kX (starEach es X.env)).any (·.1)=false) d_._auto_5):
 PE X (.Call (.Attribute o name apos) (e::es) [] kX) (c4 X.K T r to t):=by
 intro pins s σ H Q I h;show wpAny_Call_method_late mr pA ml rfl (AH (ho pins s σ H _ I h) λv s1 ⟨x,H1,I1,J,ty,q1⟩=>?_);let{h1,h2}:=LP I1 J ty;show{T,id,pa,slot,C,h1,h2,?_};let U:=ha kX pins s1 σ H1 _ I1 q1;rw[hs] at U ⊢;show Calls.callWith_builtin (by change (false || (backTo kX (starEach es X.env)).any (·.1))=false;rw[mB] <;> rfl) (Calls.evalArgs_plain ?_);show AH U λus s2 ⟨vs,H2,I2,r2,q2⟩=>hm pins s2 σ H2 x vs v us Q I2 J r2 q2
end
def Xr (X:Cx)(id:String)(r:V->List V->Hp->VK->Prop):Prop:=
 ∀pins s σ H x xs v us Q,AB X pins σ H s->AR x v->AI xs us->r x xs H Q ->
  wpAny (model X.prog X.w) X.A (call (.builtin id) (v::us)) (EP X pins σ Q) X.xe s
def AI.one:∀{x:V}{us:List Value},AI [x] us->∃u,us=[u]/\AR x u
 | _,_,.cons r .nil=>{1,r}
def AI.eraseIdx:∀{xs:List V}{us:List Value}(i:Nat),AI xs us->AI (xs.eraseIdx i) (us.eraseIdx i)
 | _,_,_,.nil=>.nil
 | _,_,0,.cons _ t=>t
 | _,_,i+1,.cons r t=>.cons r (AI.eraseIdx i t)
def AI.rep (h:AI xs us):∀k:Nat,AI (List.replicate k xs).flatten (List.replicate k us).flatten
 | 0=>.nil
 | k+1=>by rw[Hs,Hs,List.flatten_cons,List.flatten_cons];show AI.append h (AI.rep h k)
def ZK {o:Type}:∀(l:List o)(i:Nat),(l.eraseIdx i).length<=l.length
 | [],_=>zL _
 | _::_,0=>BZ _
 | _::r,i+1=>Nat.succ_le_succ (ZK r i)
def au (its:List Value):∀k acc,
 List.foldl (λC o=>C++o) acc.toArray (List.replicate k its.toArray)=(acc++(List.replicate k its).flatten).toArray
 | 0,acc=>by simp
 | k+1,acc=>by
  let e:acc.toArray++its.toArray=(acc++its).toArray:=by simp
  let I:(acc++its)++(List.replicate k its).flatten=acc++(List.replicate (k+1) its).flatten:=by rw[Hs,List.flatten_cons,List.append_assoc]
  rw[<-I,<-au its k (acc++its),<-e,Hs,List.foldl_cons]
def AB.lset {its:List Value}(I:AB X pins σ H s)(hH:H l=some (.lst xs))
 (e:s.heap.get? l=some { cls:=.type "list",data:=.seq its.toArray n }) (hf:f its.toArray=its'.toArray)(C:AI ys its')(o:ys.length<=sizeLine):
 AB X pins σ (upd H l (.lst ys)) { s with heap:=s.heap.update l (Obj.mapSeq f),toks:=t' }:=by
 let q:=PySem.IsL.update e f;rw[hf] at q;show I.write (x:=l) (e:=l) (by rw[hH];show trivial) (.inl rfl) (λb' u U J=>(Heap.get?_update_other s.heap (Obj.mapSeq f) (Ne.symm U)).trans J) {_,q} ?_;show{o,its',_,C,q}
def AB.lnew (I:AB X pins σ H s)(C:AI ys its)(o:ys.length<=sizeLine):
 AB X pins σ (upd H s.heap.objs.size (.lst ys)) { s with heap:=s.heap.push { cls:=.type "list",data:=.seq its.toArray },toks:=t' }:=
 I.laid (λ_ _ q=>zM _ q) (zL _) ⟨o,its,0,C,zU _ rfl⟩
def AB.fresh (I:AB X pins σ H s):H s.heap.objs.size=none:=I.hok.fresh (zL _)
def AB.lstM (I:AB X pins σ H s)(o:H l=some (.lst xs)):xs.length<=sizeLine/\∃its n,AI xs its/\xs.length=its.length/\s.heap.get? l=some { cls:=.type "list",data:=.seq its.toArray n }:=by let{z,its,n,r,e}:=I.hok l _ o;show⟨z,its,n,r,r.length,e⟩
def Zf (h:n<=sizeLine):Builtin.List.listTooLong n=false:=by unfold Builtin.List.listTooLong;show za ()
inductive aW (x:V)(vs:List V)(H:Hp)(Q:VK):Prop
 | mk:∀l xs y,(x=.ref l)->(vs=[y])->(H l=some (.lst xs))->(xs.length<sizeLine)->(Q .non (upd H l (.lst (xs++[y]))))->aW x vs H Q
def eF:V->List V->Hp->VK->Prop:=λx o H Q=>aW x o H Q
def Ej:Xr X "list.append" eF:=by
 intro pins s σ H x vs v us Q I C J h;let{l,xs,y,2,o,hz,q}:=h;cases C;let{u,0,U}:=J.one;let{z,its,n,r,hl,e}:=I.lstM o;show call_meets F.slot_list_append {_,e,0} F.entry_list_append (F.args_list_append_2 _ _) (PySem.list_append l its.toArray n u (by rw[zP];lia)) {e,?_};show{.non,_,I.lset (its':=its++[u]) o e (by simp) (r.append (.cons U .nil)) ?_,0,q};rw[zS,List.length_singleton]
 lia
def gn:V->List V->Hp->VK->Prop:=λx o H Q=>∃l b xs zs,x=.ref l/\o=[.ref b]/\H l=some (.lst xs)/\H b=some (.lst zs)/\xs.length+zs.length<=sizeLine/\Q .non (upd H l (.lst (xs++zs)))
def Yr:Xr X "list.extend" gn:=by
 intro pins s σ H x vs v us Q I U rv h;let{l,b,xs,zs,2,J,hB,hz,q}:=h;cases U;let{u,0,ru}:=rv.one;cases ru;let{z,its,n,r,hl,e}:=I.lstM J;let{z2,o,n2,r2,kY,e2}:=I.lstM hB;let C:its.toArray.size+o.toArray.size<=sizeLine:=by rw[zP,zP];lia
 let ou:¬ (!its.toArray.isEmpty && Builtin.List.listTooLong (its.toArray.size+o.toArray.size))=true:=by rw[Zf C,Bool.and_false];show zk
 show call_meets F.slot_list_extend {_,e,0} F.entry_list_extend (F.args_list_extend_2 _ _)
  (AutoSeq1.list_extend_list_list_0 l its.toArray n b o.toArray n2 ou (by rw[zP];lia) ()) {e,e2,?_}
 show{.non,_,I.lset (its':=its++o) J e (by simp) (r.append r2) ?_,0,q};rw[zS]
 lia
def Kd:V->List V->Hp->VK->Prop:=λx o H Q=>∃l xs i k y,x=.ref l/\o=[.int i]/\H l=some (.lst xs)/\-(2 ^ 63)<=i/\i<2 ^ 63/\seqIndex? i xs.length=some k/\xs[k]?=some y/\Q y (upd H l (.lst (xs.eraseIdx k)))
def gL:Xr X "list.pop" Kd:=by
 intro pins s σ H x vs v us Q I C J h;let{l,xs,i,k,y,2,o,h1,h2,hk,hy,q}:=h;cases C;let{u,0,U}:=J.one;let{t,0}:=U;let{z,its,n,r,hl,e}:=I.lstM o;let{w,hw,mJ}:=r.get hy;show call_meets F.slot_list_pop {_,e,0} F.entry_list_pop (F.args_list_pop_2 _ _)
  (MeetsSeq.list_pop_at l its.toArray n i t k w (fitsIndex_both h1 h2) (by rwa[zP,<-hl]) (by rwa[<-Array.getElem?_toList]) (by rw[zP];lia)) {e,?_}
 show{y,_,I.lset (its':=its.eraseIdx k) o e ?_ (r.eraseIdx k) ?_,mJ,q}
 . change its.toArray.eraseIdxIfInBounds k=(its.eraseIdx k).toArray;rw[List.eraseIdxIfInBounds_toArray]
 . let:=ZK xs k
   lia
inductive ai (x:V)(y:V)(H:Hp)(Q:VK):Prop
 | mk:∀l b xs zs,(x=.ref l)->(y=.ref b)->(H l=some (.lst xs))->(H b=some (.lst zs))->(xs.length+zs.length<=sizeLine)->(∀p,H p=none->Q (.ref p) (upd H p (.lst (xs++zs))))->ai x y H Q
def XS:R2:=λx y H Q=>ai x y H Q
def JU:Au X (binaryOp .Add) XS:=by
 intro pins s σ H x y v u Q I J C h;let{l,b,xs,zs,2,hH,hB,hz,q}:=h;cases J;cases C;let{z,its,n,r,hl,e}:=I.lstM hH;let{z2,o,n2,U,kY,e2}:=I.lstM hB;show PySem.P.add_list e e2 ?_ (by rw[zP,zP];lia);let ea:its.toArray++o.toArray=(its++o).toArray:=by simp
 rw[ea];show{.ref _,_,I.lnew (t':=s.toks) (r.append U) (by rw[zS];lia),0,q _ I.fresh}
def Wx:R2:=λx y H Q=>∃l k xs,x=.ref l/\y=.int k/\H l=some (.lst xs)/\-(2 ^ 63)<=k/\k<2 ^ 63/\xs.length*k.toNat<=sizeLine /\
 ∀p,H p=none->Q (.ref p) (upd H p (.lst (List.replicate k.toNat xs).flatten))
def iq {o:Type}(xs:List o)(k):(List.replicate k xs).flatten.length=k*xs.length:=by
 induction k with
 | zero=>simp
 | succ k C=>rw[Hs,List.flatten_cons,zS,C,Nat.succ_mul,Nat.add_comm]
def YJ:Au X (binaryOp .Mult) Wx:=by
 intro pins s σ H x y v u Q I rx ry h;let{l,k,xs,2,hH,h1,h2,hz,q}:=h;cases rx;let{t,0}:=ry;let{z,its,n,r,hl,e}:=I.lstM hH;let hlen:its.toArray.size*k.toNat<=sizeLine:=by rw[zP,<-hl];show hz
 let J:¬ its.toArray.size*k.toNat > (2 ^ 63-1)/8:=by
  let:(sizeLine:Nat)<=(2 ^ 63-1)/8:=by decide
  lia
 let C:¬ (!Builtin.List.listFitsIndex k)=true:=by rw[fitsIndex_both h1 h2];show zk
 let ou:¬ Builtin.List.listTooLong (its.toArray.size*k.toNat)=true:=by rw[Zf hlen];show zk
 let o:List.foldl (λx1 x2=>x1++x2) #[] (List.replicate (if its.toArray.isEmpty=true then 0 else k.toNat) its.toArray)=(List.replicate k.toNat its).flatten.toArray:=by
  let f0:∀m:Nat,List.foldl (λx1 x2=>x1++x2) #[] (List.replicate m its.toArray)=(List.replicate m its).flatten.toArray:=λm=>by let:=au its m [];rw[List.nil_append] at this;show this
  rw[f0];cases its with
  | nil=>simp
  | cons a r'=>rw[if_neg (by simp)]
 show wpAny_binaryOp_repeat_ref (T := "list") (U := "int") (by decide) {_,e,0} (λs'=>typeIs_int s' k t) noFill_list_mul F.fills_int_mul F.slot_int_rmul repeat_list F.slot_int_index.lookup
  (call_meets F.slot_int_rmul (typeIs_int s k t) F.entry_int_rmul (F.args_int_rmul_2 _ _) (int___rmul___int_list k t l its.toArray n)
   {e,0,{_,e,0},call_meets F.slot_list_mul {_,e,0} F.entry_list_mul (F.args_list_mul_2 _ _) (AutoListH.list___mul___list_int_3 l its.toArray n k t C J ou) {e,?_}})
 rw[o];show{.ref _,_,I.lnew (t':=s.toks) (r.rep k.toNat) (by rw[iq,Nat.mul_comm];show hz),0,q _ I.fresh}
end L2
namespace Att
open PySem PySem.W PySem.Calls PyProof.Rows
def dh :∀ns vs,WellAll P h vs (ns.map WData.int)->IntsAre vs ns:=by
 intro ns
 induction ns with
 | nil=>intro vs w;rw[List.map_nil] at w;cases w;show .nil
 | cons n ns o=>
  intro vs w;rw[Bg] at w;cases w with
  | cons a b=>cases a;show .cons _ _ (o _ b)
def dJ {l:OpenLaw}(hn:l.most=some n)
 (U:l.row.toRowW.claim.pre args=true)(C:WellAll P h vals args):
 ∃a vs ns,vals=[Value.ref a]/\args=[WData.list (ns.map WData.int)]/\h.get? a=some { cls:=.type "list",data:=.seq vs.toArray }/\IntsAre vs ns/\ns.length<=n:=by
 let I:WShape.hasAll [] args [.list .int]=true:=(pre_splitW U).1;let hc:l.pre.holds [] { args:=args }=true:=(pre_splitW U).2;let{d,r,0,h1,h2}:=hasAllW_cons I;obtain rfl:=hasAllW_nil h2;let{xs,0,h3}:=hasW_list h1;let{ns,0}:=items_int h3;let hlen:ns.length<=n:=by
  unfold OpenLaw.pre at hc;let J:(WTm.not (.lt (.lit (.int (n:Int))) (.len (.arg 0)))).holds [] { args:=[.list (ns.map .int)] }=true:=by let J:=(holds_andW hc).1;rwa[hn] at J
  let o:=condW_of J (w_not (w_lt w_lit (w_len_list (w_arg rfl))));rw[zA] at o;show Nat.le_of_not_lt λq=>?_;let q':(n:Int)<((ns.length:Nat):Int):=()
  first
   | (rw[zY q'] at o;show absurd o (by decide))
   | (simp at o;lia)
 cases C with
 | cons w1 w2=>
  cases w2;cases w1 with
  | list ho lU=>show{3,ns,2,ho,dh ns _ lU,hlen}
def j0 (l:OpenLaw)(args):l.row.toRowW.claim.post args (.bool true) args=true:=
 postW_of (r:=l.row.toRowW) (X:=(true==true))
  (show WShape.has [] (.bool true) .bool=true by first | rfl | decide | simp[WShape.has,WShape.arms,WShape.armsAll])
  (show (WTm.eq .res (.lit (.bool true))).value [] { args:=args,res:=some (.bool true),after:=args }=some (.bool (true==true)) from w_eq_bool (w_res rfl) w_lit) rfl
def attach_call {l:OpenLaw}
 (hn:l.most=some n)(hdf:d.params.defaults=[])
 (call:∀w I C mg mb fa o pm cd doc a vs ns,
  Ground q loose [] XP w I mg mb C.heap->YP w C.heap ->
  C.heap.get? fa=some o->o.data=.func (docDef d.name d.params d.body d.scope pm cd doc)->C.heap.CodeRec cd d.name->mg d.name=some (.ref fa) ->
  C.heap.get? a=some { cls:=.type "list",data:=.seq vs.toArray }->IntsAre vs ns->ns.length<=n->C.gens=#[] ->
  codeAny (model l.prog w) callerA (.call (.ref fa) {[.ref a],[]}) (λr U=>r=.ok (.ret (.bool true))/\OldK C.heap U.heap/\U.os=C.os/\AllBare U.gens) C):
 WalkO q loose XP YP l.row.toRowW d [] (λf vs=>PySem.call f vs):=by
 intro w I C mg mb G Y fa o pm cd doc dV kV ho hd nR hD hmg hg args vals as mS hlay hrd hwl hlo;obtain rfl:dV=.none:=Dflts.none hD hdf;obtain rfl:kV=.none:=Dflts.noKw hD;let{a,vs,ns,2,J,hints,hlen}:=dJ hn mS hwl;show enter_call (codeAny_mono (call w I C mg mb fa o pm cd doc a vs ns G Y ho (fd_plain hd) nR hmg J hints hlen hg) λr U hq=>?_);let{0,h2,h3,h4}:=hq;show{.inl {.bool true,.bool true,[],0,λ_=>rfl,.bool true,j0 l _,λ_=>{JP,λ_ hm=>(nomatch hm)}},h2,h3,h4}
end Att
namespace L2
open PySem PySem.Spec PyProof.Rows
def aH:∀{vs:List Value}{ns:List Int},IntsAre vs ns->AI (ns.map V.int) vs
 | _,_,.nil=>.nil
 | _,_,.cons n t h=>.cons {t,0} (aH h)
abbrev Cm:NS:=λ_ _ _ _ _ _=>False
abbrev E0:XK:=λ_ _ _=>False
def SG :Jk Cm X E0:=λ_ _ _ _ _ _ _ h=>h.elim
structure EH (K:AG)(x qual:Str)(st:Stmt)(f:Addr)(fd:FuncData):Prop where
 ex:∃(oc:Value)(od:Option Addr)(kV doc pm:Value)(an:Option Addr)(km ct:Value)(nY:Array (Option Value)),
  fd=PySem.W.fnOf x qual (defArgs st) (defBody st) (defScope st) .none kV doc pm an km ct/\K.lookup f=some {oc,od,.func fd,nY}/\PySem.W.codeIn K km qual=true
 kp:PySem.W.keepIn K (.ref f)=true
section
variable {P:Program}{w:World}{K:AG}{mg:Aj}{base:Heap}
def EH.ok {st:Stmt}(F:EH K x qual st f fd)(S:zl N ps (defScope st))(len:∀vs H Q E,sp vs H Q E->vs.length=ps.length)
 (J:∀o A outer s H vs Q E,A2 k (A.deeper (envOfC qual (defScope st) s.heap.objs.size f o))->sp vs H Q E ->
  ∃t,CN (E3 Cm P w K mg base N qual (defScope st) f o A outer s H E).nox (defBody st) t/\t { nx:=λ_ H'=>Q .non H',rt:=Q } (start N vs) H):Bh P w K mg base Cm (k+1) f fd ps sp:=by
 let{oc,od,kV,doc,pm,an,o,ct,nY,0,U,C}:=F.ex;show IS U C S len λA outer s H vs Q E hr I=>?_;let{t,h,q}:=J o A outer s H vs Q E hr I;show⟨t,h.nox,q⟩
def EH.binds {st:Stmt}(F:EH K x qual st f fd)
 (h:∀kV doc pm an o C us,us.length=ps.length->bindArgs (PySem.W.fnOf x qual (defArgs st) (defBody st) (defScope st) .none kV doc pm an o C) {us,[]}=pure (ps.zip us)):Cz K fd ps []:=by
 let{J,I,kV,doc,pm,an,o,C,U,0,lk,nR}:=F.ex;show .all (h kV doc pm an o C)
def Sv {st:Stmt}{kV:Value}(l:K.lookup f=some {oc,od,.func (PySem.W.fnOf x qual (defArgs st) (defBody st) (defScope st) .none kV doc pm an km ct),nY})
 (c:PySem.W.codeIn K km qual=true)(k:PySem.W.keepIn K (.ref f)=true):EH K x qual st f (PySem.W.fnOf x qual (defArgs st) (defBody st) (defScope st) .none kV doc pm an km ct):={{oc,od,kV,doc,pm,an,km,ct,nY,0,l,c},k}
end
def RT (o:A2 k A):A.units+1<cLine:=E9 (Nat.add_le_add_left (by decide:1<=64) _) o.units
def pv (i)(I:autoParam (X.N[i]?=some x) d_._auto_5)(C:autoParam (XG X.env.scope x) d_._auto_7)(hd:autoParam ((x==("__debug__" : Str))=false) d_._auto_2)
 (o:autoParam ((x==("__classdict__" : Str))=false) d_._auto_2):PE X (.Name x pos) (O7 i):=Me I C hd o
def Ao {A:Prop}(h:B):if false=true then A else B:=by rwa[if_neg zk]
def CB {A:Prop}(h:A):if true=true then A else B:=by rwa[if_pos rfl]
def BU {A:Prop} [Decidable c] (C:c->A)(o:¬ c->B):if c then A else B:=by
 by_cases h:c
 . rw[if_pos h];show C h
 . rw[if_neg h];show o h
def AE (H H':Hp):Prop:=∀b o,H b=some o->H' b=some o
def AE.refl (H):AE H H:=λ_ _ h=>h
def AE.trans (a:AE H H1)(b:AE H1 H2):AE H H2:=λc o h=>b c o (a c o h)
section
variable {κ:Type} [DecidableEq κ]
def bW {o:List (κ×V)}(h:Ar o k=none):¬ k∈o.map (·.1):=by intro m;let{p,I,e}:=zy.mp m;let q:(o.any λC=>decide (C.1=k))=true:=JQ.mpr {p,I,zY e};rw[IC,h] at q;show absurd q (by simp)
def hV {o:List (κ×V)}(h:Ar o k=some v):k∈o.map (·.1):=by
 let q:(o.any λC=>decide (C.1=k))=true:=by
  rw[IC,h]
  all_goals rfl
 let{p,I,e}:=JQ.mp q;show zy.mpr {p,I,of_decide_eq_true e}
def bP:∀{l:List κ}{k:κ},l.Nodup->¬ k∈l->(l++[k]).Nodup
 | [],k,_,_=>by simp
 | a::r,k,h,hk=>by
  let{C,o}:=ER.mp h;change (a::(r++[k])).Nodup;show ER.mpr {λm=>?_,bP o λm=>hk (zZ.mpr (Or.inr m))};rcases Bu.mp m with q | q
  . show C q
  . show hk (zZ.mpr (Or.inl (zf.mp q).symm))
def dI {o:List (κ×V)}(v)(C:(o.map (·.1)).Nodup)(h:Ar o k=none):((BM o k v).map (·.1)).Nodup:=by rw[dM v h,zO];show bP C (bW h)
def X5 {k:κ}(e:p.1=k):Bv (p::r) k=Bv r k:=by unfold Bv;rw[GX,if_neg (by simp[e])]
def a7 {k:κ}(e:¬ p.1=k):Bv (p::r) k=p::Bv r k:=by unfold Bv;rw[GX,if_pos (by simp[e])]
def aI {o:List (κ×V)}(h:p∈Bv o k):p∈o:=(CZ.mp h).1
def VD:∀{o:List (κ×V)}{k:κ},(o.map (·.1)).Nodup->((Bv o k).map (·.1)).Nodup
 | [],_,_=>List.nodup_nil
 | p::r,k,h=>by
  let h:(p.1::r.map (·.1)).Nodup:=h;let{J,C}:=ER.mp h;by_cases e:p.1=k
  . rw[X5 e];show VD C
  . rw[a7 e];change (p.1::(Bv r k).map (·.1)).Nodup;show ER.mpr {λm=>J ?_,VD C};let{q,I,eq}:=zy.mp m;show zy.mpr {q,aI I,eq}
end
end L2
set_option Elab.async false
set_option linter.all false
set_option maxRecDepth 100000
set_option maxHeartbeats 4000000
namespace L2
open PySem PySem.Spec PyProof.Rows
def bL (I:Nat->Shared->Prop)
 (turn:∀n s,I n s->wpAny (model prog w) A (pyNext it) (λr J=>match r with
  | none=>R (.ok .next) J
  | some v=>wpAny (model prog w) A (letOwnedTupleGo target it v) (λ_ C=>wpAny (model prog w) A (assign target env v) (λ_ s₂=>
   wpAny (model prog w) A (forIn ifs true λc r=>if r=true then do let ok <-isTrue c env (eval c env);pure (ForInStep.yield ok) else pure (ForInStep.yield r)) (λok o=>
    if ok=true then wpAny (model prog w) A (eval elt env) (λx s₄=>
     wpAny (model prog w) A (call (.builtin "list.append") [acc,x]) (λ_ U=>∃m,m<n/\I m U) (λ_ _=>False) s₄) (λ_ _=>False) o
    else ∃m,m<n/\I m o) (λ_ _=>False) s₂) (λ_ _=>False) C) (λ_ _=>False) J) (λ_ _=>False) s)
 (n)(h:I n s):codeAny (model prog w) A (.compLoop (.ListComp elt [⟨target,iter,ifs,0⟩] scope pos) 0 it acc env) R s:=by
 show codeAny_loop rfl I (λn s hI=>?_) n h;change wpAny _ A ((compTurn (.ListComp elt [⟨target,iter,ifs,0⟩] scope pos) 0 it acc env).onRaise (λx=>do noteFrame x env;theTreesLotGoes x)) _ _ s
 show wpAny_noted ?_;rw[compTurn_list];show zD (wpAny_standAt (zD (Cr (turn n s hI) (λr J h₁=>?_) λ_ _ h'=>h'.elim)));cases r with
 | none=>show zI h₁
 | some v=>
  show zD (Cr h₁ (λ_ C h₁'=>?_) λ_ _ h'=>h'.elim);show zD (Cr h₁' (λ_ s₂ h₂=>zD (Cr h₂ (λok o h₃=>?_) λ_ _ h'=>h'.elim)) λ_ _ h'=>h'.elim);cases ok with
  | false=>show zI {0,h₃}
  | true=>show zD (zD (Cr h₃ (λx s₄ h₄=>zD (Cr h₄ (λ_ U h₅=>zI (zI {0,h₅})) λ_ _ h'=>h'.elim)) λ_ _ h'=>h'.elim))
def HC (X:Cx)(ifs:List Expr)(t:TT):Prop:=
 ∀pins s σ H Q,AB X pins σ H s->t σ H Q ->
  wpAny (model X.prog X.w) X.A (forIn ifs true λc r=>if r=true then do let ok <-isTrue c X.env (eval c X.env);pure (ForInStep.yield ok) else pure (ForInStep.yield r)) (TP X pins σ Q) X.xe s
def Pz:TT:=λ_ H Q=>Q true H
def A7 {A B:Hp->Prop}(h:A H):Pz σ H (λb H3=>if b=true then A H3 else B H3):=by
 change (if true=true then A H else B H)
 show CB h
def A8 :HC X [] Pz:=λ_ _ _ H _ I h=>wpAny_tests_nil ⟨H,I,h⟩
def De (h:PT X c t):HC X [c] t:=λpins s σ H Q I q=>wpAny_tests_one (h pins s σ H Q I q)
meta def BK (cells:List (Str×Addr)):List (Str×NameKind)->List (Str×Addr)->List (Str×Addr)
 | [],acc=>acc
 | (n,k)::r,acc=>if (k == .free)=true then (match cells.lookup n with | some c=>BK cells r ((n,c)::acc) | none=>BK cells r acc) else BK cells r acc
def N3 :∀names acc,(BK cells names acc).lookup x=some c->acc.lookup x=some c\/cells.lookup x=some c
 | [],acc,h=>.inl h
 | (n,k)::r,acc,h=>by
  unfold BK at h;split at h
  . cases C:cells.lookup n with
    | none=>rw[C] at h;show N3 r acc h
    | some J=>
     rw[C] at h;rcases N3 r _ h with q | q
     . rw[GF] at q;cases o:x==n with
       | true=>
        rw[o] at q;let e:x=n:=by simpa using o
        let I:J=c:=by simpa using q
        rw[e,C,I];show .inr rfl
       | false=>rw[o] at q;show .inl q
     . show .inr q
  . show N3 r acc h
def SO :∀names acc,(∃c,acc.lookup x=some c)->∃c,(BK cells names acc).lookup x=some c
 | [],acc,h=>h
 | (n,k)::r,acc,h=>by
  unfold BK;split
  . cases I:cells.lookup n with
    | none=>show SO r acc h
    | some o=>
     show SO r _ ?_;rw[GF];cases C:x==n with
     | true=>show{o,0}
     | false=>show h
  . show SO r acc h
def NC (o:∃c,cells.lookup x=some c):∀names acc,(x,NameKind.free)∈names->∃c,(BK cells names acc).lookup x=some c
 | [],acc,h=>by simp at h
 | (n,k)::r,acc,h=>by
  rcases zZ.mp h with e | h
  . cases e;let{c,C}:=o;unfold BK;rw[if_pos (by rfl),C];show SO r _ {c,by rw[GF];simp}
  . unfold BK;split
    . cases C:cells.lookup n with
      | none=>show NC o r acc h
      | some I=>show NC o r _ h
    . show NC o r acc h
def UW :∀names acc,(∀y∈names,y.2=.free->∃c,env.cells.lookup y.1=some c) ->
 (forIn names acc λ(x:Str×NameKind)(cs:List (Str×Addr))=>(if (x.2 == .free)=true then (do let a <-cellOf env x.1;pure (ForInStep.yield ((x.1,a)::cs))) else pure (ForInStep.yield cs):Sem (ForInStep (List (Str×Addr)))))=pure (BK env.cells names acc)
 | [],acc,_=>rfl
 | (n,k)::r,acc,h=>by
  rw[List.forIn_cons];let C:∀y∈r,y.2=.free->∃c,env.cells.lookup y.1=some c:=λy I=>h y (zr _ I);unfold BK;cases o:(k==NameKind.free) with
  | true=>let{c,J}:=h (n,k) zo (by simpa using o);simp only[o,if_true,cellOf,J,pure_bind];show UW r _ C
  | false=>simp only[o,GQ,if_false,pure_bind];show UW r _ C
def US (h:∀y∈scope.names,y.2=.free->∃c,env.cells.lookup y.1=some c):closureFor scope env=pure (BK env.cells scope.names []):=by let e:=UW scope.names [] h;simp only[closureFor];simp only[bind_pure];show e
def OD {env:Env}:∀(names:List (Str×NameKind)),
 (names.map λ(n,k)=>if (k==NameKind.free && env.scope.kind == .function && env.kindOf n==some .cell) then (n,NameKind.cell) else (n,k)).lookup x =
  (names.lookup x).map λk=>if (k==NameKind.free && env.scope.kind == .function && env.kindOf x==some .cell)=true then NameKind.cell else k
 | []=>rfl
 | (n,k)::r=>by
  let C:=OD (env:=env) (x:=x) r;rw[Bg];change List.lookup x ((if (k==NameKind.free && env.scope.kind == .function && env.kindOf n==some .cell)=true then (n,NameKind.cell) else (n,k))::_)=_
  by_cases c:(k==NameKind.free && env.scope.kind == .function && env.kindOf n==some .cell)=true
  . rw[if_pos c,GF,GF];cases o:x==n with
    | true=>
     let e:x=n:=by simpa using o
     subst e;change some NameKind.cell=Option.map _ (some k);rw[EC,if_pos c]
    | false=>show C
  . rw[if_neg c,GF,GF];cases o:x==n with
    | true=>
     let e:x=n:=by simpa using o
     subst e;change some k=Option.map _ (some k);rw[EC,if_neg c]
    | false=>show C
meta def Ak (X:Cx)(pl:Cc)(N':List Str)(scope:Scope)(fp:List Addr)(s3:Shared)(H3:Hp):Cx where
 prog:=X.prog
 w:=X.w
 K:=X.K
 mg:=X.mg
 base:=X.base
 A:=X.A
 N:=N'
 s₀:=s3
 H₀:=H3
 env:=compEnvC scope (BK X.env.cells scope.names []) s3.heap.objs.size X.env
 outer:=X.stack
 stack:=X.stack
 ex:=fp
 fn:=λ_=>false
 calm:=X.calm
 pn:=pl
 xe:=λ_ _=>False
def FG (X:Cx)(scope:Scope):List Str->List Nat->Prop
 | [],[]=>True
 | x::cn,j::ci=>X.N[j]?=some x/\X.env.kindOf x=some .cell/\scope.names.lookup x=some .free/\FG X scope cn ci
 | _,_=>False
def FG.get :∀{cn:List Str}{ci:List Nat}{k:Nat}{x:Str},FG X scope cn ci->cn[k]?=some x->∃j,ci[k]?=some j/\X.N[j]?=some x/\X.env.kindOf x=some .cell/\scope.names.lookup x=some .free
 | [],_,_,_,_,h=>by simp at h
 | _::_,[],_,_,c,_=>c.elim
 | y::cn,j::ci,0,x,c,h=>by
  let{a,b,J,_}:=c;let e:y=x:=by simpa using h
  subst e;show{j,0,a,b,J}
 | y::cn,j::ci,k+1,x,c,h=>by let{o,I,C}:=FG.get (k:=k) c.2.2.2 (by simpa using h);show{o,by simpa using I,C}
structure Jc (X:Cx)(scope:Scope):Prop where
 kind:scope.kind=.function
 nocell:∀y∈scope.names,y.2 ≠ .cell
 names:∀y∈scope.names,y.2=.local->scope.names.lookup y.1=some .local
 free:∀y∈scope.names,y.2=.free->X.env.kindOf y.1=some .cell
section
variable {X:Cx}{pins:Cc}{σ:St}{H3:Hp}{s3:Shared}{scope:Scope}{fp:List Addr}{N' own cn:List Str}{ci:List Nat}{cv:List V}
def ZI (ok:X.Ok)(S:Jc X scope)(h:(relabel scope X.env).names.lookup x=some .cell\/(relabel scope X.env).names.lookup x=some .free):
 ∃c,(BK X.env.cells scope.names []).lookup x=some c:=by
 let e:(relabel scope X.env).names.lookup x=(scope.names.lookup x).map λk=>if (k==NameKind.free && X.env.scope.kind == .function && X.env.kindOf x==some .cell)=true then NameKind.cell else k:=OD scope.names
 let hf:scope.names.lookup x=some .free:=by
  cases q:scope.names.lookup x with
  | none=>rw[e,q] at h;simp at h
  | some k=>
   by_cases o:k=.free
   . rw[o]
   . let C:(k==NameKind.free)=false:=by simpa using o
     rw[e,q] at h;simp only[EC,C,Bool.false_and,GQ,if_false,Option.some.injEq] at h;rcases h with h | h
     . show absurd h (S.nocell _ (PySem.mem_of_lookup q))
     . show absurd h o
 show NC (ok.has x (.inl (S.free _ (PySem.mem_of_lookup hf) rfl))) scope.names [] (PySem.mem_of_lookup hf)
def Hj (h:(BK X.env.cells scope.names []).lookup x=some c):X.env.cells.lookup x=some c:=by
 rcases N3 _ _ h with q | q
 . simp at q
 . show q
def gr (I:AB X pins σ H3 s3)(S:Jc X scope)(f:∀b∈fp,Cy X pins H3 b)(fz:∀b∈fp,b<s3.heap.objs.size):(Ak X (X.pn++pins) N' scope fp s3 H3).Ok where
 mod:=I.ok.mod
 kind:=S.kind
 glob:=I.ok.glob
 blt:=I.ok.blt
 above:=zL _
 inj:=λx y c U J=>I.ok.inj x y c (Hj U) (Hj J)
 has:=λx h=>ZI I.ok S h
 cab:=λx c h=>by cases h
 hd:=I.ok.hd
 frames:=I.ok.frames
 stk:=.inl rfl
 exf:=λb C=>{zh (fz b C),λx c h=>(f b C).2.2.2.2.1 x c (Hj h)}
 bs:=I.bs
 bsz:=zn I.ok.bsz I.sz
 noex:=λb o e C=>by
  rcases (f b C).2.2.2.1 with z | z
  . show I.ok.noex b o e z
  . show absurd (zv (zc e) (zn I.ok.bsz z)) (GZ _)
 exfs:=λb C z=>by
  rcases zZ.mp (I.stkSub b z) with q | q
  . show (f b C).2.1 q
  . show (f b C).2.2.1 q
 funs:=I.stack
 frf:=I.stkFree
def eQ (I:AB X pins σ H3 s3)(S:Jc X scope)(f:∀b∈fp,Cy X pins H3 b)(fz:∀b∈fp,b<s3.heap.objs.size)
 (hN:N'=own++cn)(hc:FG X scope cn ci)(hv:ci.map (λj=>σ[j]?)=cv.map λv=>some (some v))(hl:cn.length=ci.length)
 (hns:h1.Ns s3.heap.objs.size (λ_=>none))(hk:∀b o,s3.heap.get? b=some o->h1.get? b=some o):
 AB (Ak X (X.pn++pins) N' scope fp s3 H3) [] (List.replicate own.length none++cv.map some) H3 { s3 with heap:=h1,toks:=t }:=by
 let oY:cv.length=ci.length:=by let:=congrArg List.length hv;simpa using this.symm
 show{gr I S f fz,0,I.bare,Un.kept hk,{_,hns,λi x v e1 C e3=>?_},λx c e=>?_,I.hok.fresh (zL _),λx c e=>I.freeC x c (Hj e),λp hp=>?_,I.hok.kept hk,?_}
 . -- a captured name
   let hi:own.length<=i:=by
    by_cases hi:own.length<=i
    . show hi
    . rw[zV (by simpa using hi),ND] at C;split at C <;> cases C
   rw[zW (by simpa using hi),Cq,zK] at C;let e1':(own++cn)[i]?=some x:=by rwa[<-hN]
   rw[zW hi] at e1';let{j,hj,hNj,J,hfr}:=hc.get e1';let hcv:cv[i-own.length]?=some v:=by
    cases q:cv[i-own.length]? with
    | none=>rw[q] at C;cases C
    | some v'=>rw[q] at C;cases C;rfl
   let hσ:σ[j]?=some (some v):=by let:=congrArg (λl:List (Option (Option V))=>l[i-own.length]?) hv;simp only[zK,hj,hcv,EC,Option.some.injEq] at this;show this
   let{m,_,k9}:=I.loc;let{u,r,q}:=k9 j x v hNj hσ (.inr (.inl J));let U:(relabel scope X.env).names.lookup x=some .cell\/(relabel scope X.env).names.lookup x=some .free:=by
    let e:(relabel scope X.env).names.lookup x=(scope.names.lookup x).map λk=>if (k==NameKind.free && X.env.scope.kind == .function && X.env.kindOf x==some .cell)=true then NameKind.cell else k:=OD scope.names
    rw[e,hfr,EC];by_cases cc:(NameKind.free==NameKind.free && X.env.scope.kind == .function && X.env.kindOf x==some .cell)=true
    . rw[if_pos cc];show .inl rfl
    . rw[if_neg cc];show .inr rfl
   let{c',oF}:=ZI I.ok S U;show{u,r,.inr {U,c',oF,?_}};rcases q with ⟨z,_⟩ | ⟨_,c,hcc,o,ho,hd⟩
   . rw[J] at z;cases z
   . let e:c=c':=zT (hcc.symm.trans (Hj oF));subst e;show{o,hk c o ho,hd}
 . let{v,o,ho,hd}:=I.cell x c (Hj e);show{v,o,hk c o ho,hd}
 . let hp':p∈X.pn++pins:=by rwa[BW] at hp
   let{e,n,ne,nf,d}:=I.pin p hp';show{hk _ _ e,n,zh (zc e),λz=>?_,d};rcases zZ.mp (I.stkSub p.1 z) with q | q
   . show ne q
   . show nf q
 . change (List.replicate own.length none++cv.map some).length=N'.length;rw[hN,zS,zS,Cq,zA,oY,hl]
def Mw (J:It)(own:Nat)(cv:List V)(g:TG)(ti:TT)(te:TE)(D:Addr)(H1:Hp)(Q:VK):Prop:=∃W:Nat->Nat->List V->Hp->Prop,(∃m,W 0 m [] (upd H1 D (.lst [])))/\∀i m C H,W i m C H ->
 (J.stop i H/\Q (.ref D) H)\/(J.go i H/\C.length<sizeLine/\∃N:List V->Hp->Prop,(∀U H',N U H'->∃I,I<m/\W (i+1) I U H') /\
  ∀x H',J.yld i H x H'->g x (List.replicate own none++cv.map some) H' λo H2=>(o.length=own+cv.length/\o.drop own=cv.map some) /\
   ti o H2 λb H3=>if b=true then te o H3 λy H4=>H4 D=some (.lst C)/\N (C++[y]) (upd H4 D (.lst (C++[y]))) else N C H3)
def Ny (own:Nat)(ci:List Nat)(o:TI)(g:TG)(C:TT)(te:TE):TE:=λσ H Q=>o σ H λJ H1=>∃cv:List V,ci.map (λj=>σ[j]?)=cv.map (λv=>some (some v)) /\
 ∀D,H1 D=none->Mw J own cv g C te D H1 Q
def cG (lJ:X.calm=true)(S:Jc X scope)(hc:FG X scope cn ci)(hl:cn.length=ci.length)
 (hi:PI X target iter wi)(hg:∀pl fp s3 H3,PG (Ak X pl (own++cn) scope fp s3 H3) target g)(ht:∀pl fp s3 H3,HC (Ak X pl (own++cn) scope fp s3 H3) ifs ti)
 (he:∀pl fp s3 H3,PE (Ak X pl (own++cn) scope fp s3 H3) elt te)(hs:∀x,foldedSetIterable iter X.env x=pure x)(I:AB X pins σ H s)(h:Ny own.length ci wi g ti te σ H Q)
 (fin:∀D C H5 s6 m6,AB X pins σ H5 s6->s6.heap.Ns C m6->H5 C=none->C≠X.env.locals->X.s₀.heap.objs.size<=C->(∀x c,X.env.cells.lookup x=some c->c≠C) ->
  (∀p∈X.pn++pins,p.1≠C)->Q (.ref D) H5->compPost (model X.prog X.w) X.A X.xe use Q0 (.ref D) C (.ok .next) s6):
 wpAny (model X.prog X.w) X.A (comprehension (.ListComp elt [⟨target,iter,ifs,0⟩] scope pos) scope X.env kX (newList []) false (eval iter X.env) use) Q0 X.xe s:=by
 let mY:closureFor scope X.env=pure (BK X.env.cells scope.names []):=US λy hy hf=>I.ok.has y.1 (.inl (S.free y hy hf));show wpAny_comprehension_free (use:=use) rfl hs mY S.kind S.names ?_;show AH (hi pins s σ H _ I h) λv s1 h1=>AH h1 λitv s2 h2=>?_;let{it,fp,tn,J,H2,e,I2,T,st2,f2,cv,hv,hD}:=h2;subst e;let oY:cv.length=ci.length:=by let:=congrArg List.length hv;simpa using this.symm
 let I3:=I2.lnew (ys:=[]) (its:=[]) (t':=s2.toks) .nil (zd _);let{W,{m0,w0},turn}:=hD s2.heap.objs.size I2.fresh;let fz:∀b∈fp,b<s2.heap.objs.size:=λb U=>by let{o,ho,_}:=T.obj _ _ st2 b U;show zc ho
 show D7 ?_;show wpAny_newFunctionEnv S.nocell (by intro y hy;simp at hy) (λh4 oo hsb4=>?_) S.kind;generalize hs3:({ s2 with heap:=s2.heap.push { cls:=.type "list",dict:=none,data:=.seq ([]:List Value).toArray } }:Shared)=s3 at oo hsb4 ⊢;let oH:AB X pins σ (upd H2 s2.heap.objs.size (.lst [])) s3:=by rwa[<-hs3]
 let hsz3:s3.heap.objs.size=s2.heap.objs.size+1:=by rw[<-hs3];show DE ..
 let k23:∀b o,s2.heap.get? b=some o->s3.heap.get? b=some o:=λb o e=>by rw[<-hs3];show zM _ e
 let k34:∀b o,s3.heap.get? b=some o->h4.get? b=some o:=λb o e=>hsb4.extBut b o (zh (zc e)) (zM _ e);let nD:∀b∈fp,b≠s2.heap.objs.size:=λb U=>zh (fz b U);let f3:∀b∈fp,Cy X pins (upd H2 s2.heap.objs.size (.lst [])) b:=λb U=>{by rw[zg (nD b U)];show (f2 b U).1,(f2 b U).2};let fz3:∀b∈fp,b<s3.heap.objs.size:=λb U=>by rw[hsz3];show E2 (fz b U)
 let I4:AB (Ak X (X.pn++pins) (own++cn) scope fp s3 (upd H2 s2.heap.objs.size (.lst []))) [] (List.replicate own.length none++cv.map some) (upd H2 s2.heap.objs.size (.lst [])) { s3 with heap:=h4,toks:=s3.toks+([]:List (Str×Value)).length }:=
  eQ oH S f3 fz3 rfl hc hv hl oo k34
 let st4:tn 0 h4:=T.keep _ _ _ st2 λb U o e=>k34 b o (k23 b o e);generalize hX:Ak X (X.pn++pins) (own++cn) scope fp s3 (upd H2 s2.heap.objs.size (.lst []))=X' at I4;let hg':PG X' target g:=by rw[<-hX];show hg _ _ _ _
 let ht':HC X' ifs ti:=by rw[<-hX];show ht _ _ _ _
 let he':PE X' elt te:=by rw[<-hX];show he _ _ _ _
 let nT:X'.prog=X.prog:=by rw[<-hX];rfl
 let eW:X'.w=X.w:=by rw[<-hX];rfl
 let eK:X'.K=X.K:=by rw[<-hX];rfl
 let eA:X'.A=X.A:=by rw[<-hX];rfl
 let eE:X'.env=compEnvC scope (BK X.env.cells scope.names []) s3.heap.objs.size X.env:=by rw[<-hX];rfl
 let eXe:X'.xe=λ_ _=>False:=by rw[<-hX];rfl
 let eC:X'.calm=true:=by rwa[<-hX]
 let eex:X'.ex=fp:=by rw[<-hX];rfl
 let epn:X'.pn=X.pn++pins:=by rw[<-hX];rfl
 let es0:X'.s₀=s3:=by rw[<-hX];rfl
 let eH0:X'.H₀=upd H2 s2.heap.objs.size (.lst []):=by rw[<-hX];rfl
 let efs:X'.fs=DR X.stack:=by rw[<-hX];rfl
 let ok':=I4.ok;let lj:∀{H':Hp},(∀b∈fp,H' b=none)->∀b∈fp,Cy X' [] H' b:=λhn b U=>by
  let lH:b∈X'.ex:=by rwa[eex]
  show{hn b U,(ok'.exf b lH).1,ok'.exfs b lH,.inl lH,(ok'.exf b lH).2,λp hp=>?_};rw[epn,BW] at hp;show (f2 b U).2.2.2.2.2 p hp
 let wk:∀(σ2:St),(σ2.length=own.length+cv.length/\σ2.drop own.length=cv.map some)->∀{pl:Cc}{H':Hp}{s':Shared},AB X' pl σ2 H' s'->AB X' pl (List.replicate own.length none++cv.map some) H' s':=λσ2 hq pl H' s' I'=>by
  show I'.weak (by rw[hq.1,zS,Cq,zA]) λi v hi=>?_;by_cases kS:i<own.length
  . rw[zV (by simpa using kS),ND] at hi;split at hi <;> cases hi
  . rw[zW (by simpa using kS),Cq,<-hq.2,List.getElem?_drop] at hi;rwa[show own.length+(i-own.length)=i by lia] at hi
 let loop:codeAny (model X.prog X.w) X.A (.compLoop (.ListComp elt [⟨target,iter,ifs,0⟩] scope pos) 0 (.ref it) (.ref s2.heap.objs.size) (compEnvC scope (BK X.env.cells scope.names []) s3.heap.objs.size X.env))
  (compPost (model X.prog X.w) X.A X.xe use Q0 (.ref s2.heap.objs.size) s3.heap.objs.size) { s3 with heap:=h4,toks:=s3.toks+([]:List (Str×Value)).length }:=by
  show bL (λn s'=>∃i ys H',AB X' [] (List.replicate own.length none++cv.map some) H' s'/\tn i s'.heap/\(∀b∈fp,H' b=none)/\W i n ys H') ?_ m0
   ⟨0,[],_,I4,st4,λb U=>(f3 b U).1,w0⟩
  rintro n s5 ⟨i,ys,H5,I5,st5,fr5,w5⟩;rcases turn i n ys H5 w5 with ⟨stop,qn⟩ | ⟨go,hsz,N,hN,step⟩
  . let d:=T.done X' nT eW eK eC i [] s5 _ H5 (λ_ _=>False) I5 (lj fr5) st5 stop;rw[eA] at d;show AH d λr s6 ⟨hr,I6⟩=>?_;subst hr;let{m6,hn6,_}:=I6.loc;rw[eE] at hn6;let hn6':s6.heap.Ns s3.heap.objs.size m6:=hn6;let un6:Un (DR X.stack) fp (upd H2 s2.heap.objs.size (.lst [])) H5 s3.heap s6.heap:=by let b6:=I6.base;rwa[efs,eex,eH0,es0] at b6
    let os6:s6.os=s3.os:=by let o6:=I6.os;rwa[es0] at o6
    let hok6:BF X.prog X.w H5 s6.heap:=by let o6:=I6.hok;rwa[nT,eW] at o6
    let I7:AB X pins σ H5 s6:=oH.call' (ch:=fp) os6 un6 hok6 I6.bare λb U=>{(f2 b U).2.2.2.1,(f2 b U).2.1,(f2 b U).2.2.2.2.1,(f2 b U).2.2.2.2.2};let fr6:H5 s3.heap.objs.size=none:=by let q:=I6.free;rwa[eE] at q
    show fin s2.heap.objs.size s3.heap.objs.size H5 s6 m6 I7 hn6' fr6 (Nat.ne_of_gt oH.lt) oH.sz (λx c e=>?_) (λp hp=>?_) qn
    . let{_,o,ho,_}:=oH.cell x c e;show zh (zc ho)
    . show zh (zc (oH.pin p hp).1)
  . let d:=T.item X' nT eW eK eC i [] s5 _ H5 (λ_ _=>False) I5 (lj fr5) st5 go;rw[eA] at d;show AH d λr s6 ⟨u,hr,h6⟩=>?_;subst hr;show AH h6 λ_ s7 ⟨x,H7,I7,r7,y7,st7,fr7⟩=>?_;let I7':=I7.pinned (lj fr7) (T.obj _ _ st7);let g7:=hg' _ s7 _ H7 x u _ I7' r7 (step x H7 y7);rw[nT,eW,eA,eE,eXe] at g7;show AH g7 λ_ s8 ⟨σ8,H8,I8,q8,ti8⟩=>?_;let t8:=ht' _ s8 σ8 H8 _ I8 ti8;rw[nT,eW,eA,eE,eXe] at t8;show AH t8 λok s9 ⟨H9,I9,q9⟩=>?_;let again:∀{lM:List V}{H':Hp}{s':Shared},AB X' ([]++Mr fp s7.heap) σ8 H' s'->N lM H' ->
     ∃m,m<n/\∃i ys H',AB X' [] (List.replicate own.length none++cv.map some) H' s'/\tn i s'.heap/\(∀b∈fp,H' b=none)/\W i m ys H':=λ{lM H' s'} I' n'=>by
     let{m',hm,w'}:=hN lM H' n';show{m',hm,i+1,lM,H',(wk σ8 q8 I').unpinned,T.keep _ _ _ st7 λb U o e=>(I'.pin (b,o) (zq _ (zq _ (NO U e)))).1,λb U=>?_,w'};let{o,e,_}:=T.obj _ _ st7 b U;show (I'.pin (b,o) (zq _ (zq _ (NO U e)))).2.1
    cases ok with
    | false=>show again I9 q9
    | true=>have e9:=he' _ s9 σ8 H9 _ I9 q9;rw[nT,eW,eA,eE,eXe] at e9;show AH e9 λu10 ny ⟨y,nU,I10,r10,hD10,n10⟩=>?_;let a10:=Ej (X:=X') _ ny σ8 nU (.ref s2.heap.objs.size) [y] (.ref s2.heap.objs.size) [u10] (λ_ H'=>N (ys++[y]) H') I10 rfl (.cons r10 .nil) {_,5,hD10,hsz,n10};rw[nT,eW,eA,eXe] at a10;show AH a10 λ_ nv ⟨_,H11,I11,_,n11⟩=>again I11 n11
 show codeAny_compStart_list loop (T.self X.A 0 _ _ _ st4 loop)
def BB (lJ:X.calm=true)(S:Jc X scope)(hc:FG X scope cn ci)(hl:cn.length=ci.length)
 (hi:PI X target iter wi)(hg:∀pl fp s3 H3,PG (Ak X pl (own++cn) scope fp s3 H3) target g)(ht:∀pl fp s3 H3,HC (Ak X pl (own++cn) scope fp s3 H3) ifs ti)
 (he:∀pl fp s3 H3,PE (Ak X pl (own++cn) scope fp s3 H3) elt te)(hs:autoParam (∀x,foldedSetIterable iter X.env x=pure x) d_._auto_4):
 PE X (.ListComp elt [⟨target,iter,ifs,0⟩] scope pos) (Ny own.length ci wi g ti te):=by
 intro pins s σ H Q I h;rw[eval_ListComp];show cG lJ S hc hl hi hg ht he hs I h λD C H5 J m6 I7 hn fr nL ge nC U q=>{m6,hn,λh' mz=>{.ref D,H5,I7.turned (t':=J.toks) (it:=C) (λb o hb e=>mz.extBut b o hb e) fr nL (.inr ge) nC U,0,q}}
def DZ (hN:X.N.Nodup)(hix:X.N[i]?=some x)(hx:G6 X.env.scope x)(lJ:X.calm=true)(S:Jc X scope)(hc:FG X scope cn ci)(hl:cn.length=ci.length)
 (hi:PI X target iter wi)(hg:∀pl fp s3 H3,PG (Ak X pl (own++cn) scope fp s3 H3) target g)(ht:∀pl fp s3 H3,HC (Ak X pl (own++cn) scope fp s3 H3) ifs ti)
 (he:∀pl fp s3 H3,PE (Ak X pl (own++cn) scope fp s3 H3) elt te)(hs:autoParam (∀x,foldedSetIterable iter X.env x=pure x) d_._auto_4)
 (hsw:autoParam (swapsWith (.ListComp elt [⟨target,iter,ifs,0⟩] scope kX) (some (.Name x pos')) pos.line X.env=pure true) d_._auto_5)
 (hf:autoParam (X.fn x=true\/X.env.scope.names.lookup x=some .local) d_._auto_1):
 PS X (.Assign [.Name x pos'] (.ListComp elt [⟨target,iter,ifs,0⟩] scope kX) pos) (FT (Ny own.length ci wi g ti te) (Jp i)):=by
 intro pins s σ H D I h;rw[exec_Assign_Name_used _ _ _ _ hsw];show zD (wpAny_standAt (zD ?_));change wpAny _ X.A (do let _ <-comprehension (.ListComp elt [⟨target,iter,ifs,0⟩] scope kX) scope X.env _ (newList []) false (eval iter X.env) (some (assign (.Name x pos') X.env))) _ _ s
 show zD (Cr (cG (use:=some (assign (.Name x pos') X.env)) (Q0:=λ_ J=>SP X pins D .next J) lJ S hc hl hi hg ht he hs I h (λU C H5 s6 m6 I7 hn fr nL ge nC nP q=>?_)) (λ_ J hq=>zI (zI hq)) λ_ _ e=>e);let{oC,es,ep,hoC,hd,r1}:=hn;let nf:C∉X.fs:=λhb=>by let{_,o,ho,_}:=I7.ok.funs.mem hb;show absurd (zv (zc ho) ge) (GZ _)
 let I7':AB X (pins++[(C,oC)]) σ H5 s6:=I7.pins_of λp hp=>by
  rcases Bu.mp hp with z | z
  . show I7.pin p (zq _ z)
  . rw[zf.mp z];show{hoC,fr,nL,nf,λv e=>by rw[hd] at e;cases e}
 change wpAny _ X.A (assign (.Name x pos') X.env (.ref U)) _ _ s6;show wpAny_assign_Name (Rv I7' hN hix hx (show AR (.ref U) (.ref U) from rfl) (λJ I'=>?_) hf);let hC':=(I'.pin (C,oC) (zq _ (zq _ (zf.mpr rfl)))).1;show{m6,⟨oC,es,ep,hC',hd,r1⟩,λh' mz=>{_,H5,?_,q}};let I2:AB X pins (σ.set i (some (.ref U))) H5 J:=I'.pins_of λp hp=>I'.pin p (zq _ (Gj _ hp));show I2.turned (t':=J.toks) (it:=C) (λb o hb e=>mz.extBut b o hb e) fr nL (.inr ge) nC nP
end
meta def RE (outer inner:Scope):Bool:=inner.names.all λy=>(y.2 != .cell) && (y.2 != .local || inner.names.lookup y.1==some .local) && (y.2 != .free || outer.names.lookup y.1==some .cell)
def Ai (C:scope.kind=.function)(h:RE X.env.scope scope=true):Jc X scope:=by
 let a:=Ea.mp h;show{C,λy o e=>?_,λy o e=>?_,λy o e=>?_}
 . let:=a y o;rw[e] at this;simp at this
 . let:=a y o;rw[e] at this;simpa using this
 . let:=a y o;rw[e] at this;let I:X.env.scope.names.lookup y.1=some .cell:=by simpa using this
   show I
def DD {l:List Str}(h:decide l.Nodup=true):l.Nodup:=of_decide_eq_true h
def DL:MD (Ak X pl N' sc fp s3 H3) (RJ X.K):=AM
def DX:MD (Ak X pl N' sc fp s3 H3) (Qx X.K):=zx
def NJ (I:X.calm=true)(h:NR (Ak X pl N' sc fp s3 H3) es t)
 (C:autoParam ((assignEach es (Ak X pl N' sc fp s3 H3).env).length=n) d_._auto_5)(o:autoParam ((assignEach es (Ak X pl N' sc fp s3 H3).env).findIdx? (·.1)=none) d_._auto_5):PG (Ak X pl N' sc fp s3 H3) (.Tuple es k pos) (O0 X.K n t):=DN I h C o
def DJ {K:AG}(Pv:Nat->List V->Hp->Prop)(h0:Pv 0 [] (upd H1 D (.lst [])))(hl:∀i ys H,Pv i ys H->AA K H a xs)(J:∀i ys H,Pv i ys H->ys.length<sizeLine)
 (U:∀i x ys H,xs[i]?=some x->Pv i ys H->g x (List.replicate own none++cv.map some) H λo H2=>(o.length=own+cv.length/\o.drop own=cv.map some) /\
  ti o H2 λb H3=>if b=true then te o H3 λy H4=>H4 D=some (.lst ys)/\Pv (i+1) (ys++[y]) (upd H4 D (.lst (ys++[y]))) else Pv (i+1) ys H3)
 (hd:∀ys H,Pv xs.length ys H->Q (.ref D) H):
 Mw (NZ K a) own cv g ti te D H1 Q:=by
 show{λi m ys H=>m=xs.length-i/\i<=xs.length/\Pv i ys H,{xs.length,0,zd _,h0},?_};rintro i m ys H ⟨rfl,hi,p⟩;let q:=hl i ys H p;by_cases C:i<xs.length
 . show .inr {{xs,xs[i],q,by simp[C]},J i ys H p,Pv (i+1),λlM H' I=>{xs.length-(i+1),(),0,C,I},λx H' y=>?_};let{e,y}:=y;subst e;show U i x ys _ (y xs q) p
 . let e:i=xs.length:=()
   subst e;show .inl {{xs,q,zL _},hd ys H p}
def CH {K:AG}(Pv:Nat->List V->Hp->Prop)(h0:Pv 0 [] (upd H1 D (.lst [])))(hl:∀i ys H,Pv i ys H->AD K H a xs)(J:∀i ys H,Pv i ys H->ys.length<sizeLine)
 (U:∀i x ys H,xs[i]?=some x->Pv i ys H->g x (List.replicate own none++cv.map some) H λo H2=>(o.length=own+cv.length/\o.drop own=cv.map some) /\
  ti o H2 λb H3=>if b=true then te o H3 λy H4=>H4 D=some (.lst ys)/\Pv (i+1) (ys++[y]) (upd H4 D (.lst (ys++[y]))) else Pv (i+1) ys H3)
 (hd:∀ys H,Pv xs.length ys H->Q (.ref D) H):
 Mw (Nc K a) own cv g ti te D H1 Q:=by
 show{λi m ys H=>m=xs.length-i/\i<=xs.length/\Pv i ys H,{xs.length,0,zd _,h0},?_};rintro i m ys H ⟨rfl,hi,p⟩;let q:=hl i ys H p;by_cases C:i<xs.length
 . show .inr {{xs,xs[i],q,by simp[C]},J i ys H p,Pv (i+1),λlM H' I=>{xs.length-(i+1),(),0,C,I},λx H' y=>?_};let{e,y}:=y;subst e;show U i x ys _ (y xs q) p
 . let e:i=xs.length:=()
   subst e;show .inl {{xs,q,zL _},hd ys H p}
def Dw {lo:Int}(Pv:Nat->List V->Hp->Prop)(h0:Pv 0 [] (upd H1 D (.lst [])))(J:∀i ys H,Pv i ys H->ys.length<sizeLine)
 (U:∀i ys H,i<n->Pv i ys H->g (.int (lo+i)) (List.replicate own none++cv.map some) H λo H2=>(o.length=own+cv.length/\o.drop own=cv.map some) /\
  ti o H2 λb H3=>if b=true then te o H3 λy H4=>H4 D=some (.lst ys)/\Pv (i+1) (ys++[y]) (upd H4 D (.lst (ys++[y]))) else Pv (i+1) ys H3)
 (hd:∀ys H,Pv n ys H->Q (.ref D) H):
 Mw (JF lo n) own cv g ti te D H1 Q:=by
 show{λi m ys H=>m=n-i/\i<=n/\Pv i ys H,{n,0,zd _,h0},?_};rintro i m ys H ⟨rfl,hi,p⟩;by_cases C:i<n
 . show .inr {C,J i ys H p,Pv (i+1),λlM H' I=>{n-(i+1),(),0,C,I},λx H' y=>?_};let{e,y}:=y;subst e;subst y;show U i ys _ C p
 . let e:i=n:=()
   subst e;show .inl {zL _,hd ys H p}
end L2
namespace SortT
open PySem.W PyProof.Rows
meta def ev {o:Type}(lt:Nat->Nat->Bool):KasT o->o
 | .ret a=>a
 | .ask i j k=>ev lt (k (lt i j))
def M8 (lt:Nat->Nat->Bool)(f:α->KasT β):∀t:KasT α,ev lt (t.bind f)=ev lt (f (ev lt t))
 | .ret _=>rfl
 | .ask i j k=>M8 lt f (k (lt i j))
section
variable {O:KeyOrd}{key:Nat->O.α}
meta def kk (key:Nat->O.α)(p:Array Nat)(i:Nat):O.α:=key (p.getD i 0)
def Sr (key:Nat->O.α)(p:Array Nat)(n:Nat):Prop:=∀i j,i<=j->j<n->O.kle (kk key p i) (kk key p j)
def Fl (key:Nat->O.α)(p:Array Nat)(n:Nat):Prop:=∀i j,i<=j->j<n->O.kle (kk key p j) (kk key p i)
def OP (h:p[i]?=q[j]?):kk key p i=kk key q j:=by unfold kk;rw[Array.getD_eq_getD_getElem?,Array.getD_eq_getD_getElem?,h]
def Ub (C:j<=p.size)(k):kk key (kas_rev p i j) k=if i<=k/\k<j then kk key p (i+j-1-k) else kk key p k:=by
 let e:=getElem?_mirror_all (i:=i) C k;unfold kas_rev;by_cases o:i<=k/\k<j
 . rw[if_pos o] at e ⊢;show OP e
 . rw[if_neg o] at e ⊢;show OP e
def Vf (o:j<=p.size)(he:∀k,i<=k->k<j->kk key p k=kk key p (j-1))(k):kk key (kas_rev p i j) k=kk key p k:=by
 rw[Ub o];split
 . rw[he _ () (),he k () ()]
 . rfl
def X6 (I:src<p.size)(hd:d<=src)(k):
 kk key (bubble p src d) k=if k=src-d then kk key p src else if src-d<k/\k<=src then kk key p (k-1) else kk key p k:=by
 let e:=getElem?_bubble I d hd k;by_cases C:k=src-d
 . rw[if_pos C] at e ⊢;show OP e
 . rw[if_neg C] at e ⊢;by_cases o:src-d<k/\k<=src
   . rw[if_pos o] at e ⊢;show OP e
   . rw[if_neg o] at e ⊢;show OP e
meta def Br (key:Nat->O.α)(i j:Nat):Bool:=O.blt (key i) (key j)
def Fy (p)(i j):(kas_rev p i j).Perm p:=mirror_perm _ _ _ _
def UY (p)(i j):(kas_rev p i j).size=p.size:=(Fy p i j).size_eq
def UM :∀f n,1<=n->Sr key p n->∃m,ev (Br key) (kas_asc p f n)=m/\n<=m/\m<=n+f/\Sr key p m/\(m=n+f\/O.klt (kk key p m) (kk key p (m-1)))
 | 0,n,_,hs=>{n,0,zL _,zL _,hs,.inl rfl}
 | f+1,n,h1,hs=>by
  change ∃m,ev (Br key) (if Br key (p.getD n 0) (p.getD (n-1) 0)=true then KasT.ret n else kas_asc p f (n+1))=m/\_
  cases I:Br key (p.getD n 0) (p.getD (n-1) 0) with
  | true=>show{n,by simp[ev],zL _,(),hs,.inr I}
  | false=>
   let U:Sr key p (n+1):=λi j mE hj=>by
    by_cases o:j<n
    . show hs i j mE o
    . let C:j=n:=()
      subst C;by_cases J:i=j
      . subst J;show KeyOrd.kle_refl _
      . show KeyOrd.kle_trans (hs i (j-1) () ()) I
   let{m,e,a,b,c,d}:=UM f (n+1) () U;show{m,by simpa using e,(),(),c,?_};rcases d with d | d
   . show .inl ()
   . show .inr d
def aL (I:1<=n)(hn:n<=nrem)(U:nrem<=p.size)(C:Fl key p n):
 ∃m q,ev (Br key) (kas_tail3 n nrem p)=(m,q)/\q.Perm p/\1<=m/\m<=nrem/\Sr key q m:=by
 unfold kas_tail3;let o:Sr key (kas_rev p 0 n) n:=λi j J hj=>by rw[Ub (),Ub (),if_pos (),if_pos ()];show C _ _ () ()
 let{m,e,a,b,c,_}:=UM (nrem-n) n I o;show{m,kas_rev p 0 n,by rw[M8,e];rfl,Fy _ _ _,(),(),c}
def Rp:∀f n q p,1<=n->n+f<=p.size->Fl key p n->q+1<=n->(∀i,n-(q+1)<=i->i<n->kk key p i=kk key p (n-1)) ->
 ∃C o I,ev (Br key) (kas_desc f p n q)=(C,o,I)/\C.Perm p/\n<=o/\o<=n+f/\Fl key C o/\I+1<=o/\(∀i,o-(I+1)<=i->i<o->kk key C i=kk key C (o-1))
 | 0,n,q,p,_,_,hs,hq,he=>{p,n,q,0,.refl _,zL _,zL _,hs,hq,he}
 | f+1,n,q,p,h1,hz,hs,hq,he=>by
  change ∃C o I,ev (Br key) (if Br key (p.getD n 0) (p.getD (n-1) 0)=true then _ else KasT.ask _ _ _)=(C,o,I)/\_
  cases hl:Br key (p.getD n 0) (p.getD (n-1) 0) with
  | true=>
   let step:∀xs:Array Nat,(∀k,kk key xs k=kk key p k)->Fl key xs (n+1):=λxs hk i j mE hj=>by
    rw[hk,hk];by_cases J:j<n
    . show hs i j mE J
    . let U:j=n:=()
      subst U;by_cases o9:i=j
      . subst o9;show KeyOrd.kle_refl _
      . show KeyOrd.kle_trans (KeyOrd.kle_of_klt hl) (hs i (j-1) () ())
   by_cases hq0:q > 0
   . let hk:=Vf (key:=key) (p:=p) (i:=n-(q+1)) (j:=n) () he;let{C,o,I,e,a,b,c,d}:=Rp f (n+1) 0 (kas_rev p (n-(q+1)) n) () (by rw[UY];lia) (step _ hk) () (λi h1 h2=>by congr 1;lia);show{C,o,I,by simpa [hq0] using e,a.trans (Fy _ _ _),(),(),d}
   . let{C,o,I,e,a,b,c,d}:=Rp f (n+1) 0 p () () (step _ λ_=>rfl) () (λi h1 h2=>by congr 1;lia);show{C,o,I,by simpa [hq0] using e,a,(),(),d}
  | false=>
   change ∃C o I,ev (Br key) (if Br key (p.getD (n-1) 0) (p.getD n 0)=true then KasT.ret (p,n,q) else kas_desc f p (n+1) (q+1))=(C,o,I)/\_
   cases hr:Br key (p.getD (n-1) 0) (p.getD n 0) with
   | true=>show{p,n,q,by simp[ev],.refl _,zL _,(),hs,hq,he}
   | false=>
    let heq:kk key p n=kk key p (n-1):=KeyOrd.kle_antisymm hr hl;let mz:Fl key p (n+1):=λi j mE hj=>by
     by_cases J:j<n
     . show hs i j mE J
     . let U:j=n:=()
       subst U;by_cases o9:i=j
       . subst o9;show KeyOrd.kle_refl _
       . rw[heq];show hs i (j-1) () ()
    let{C,o,I,e,a,b,c,d}:=Rp f (n+1) (q+1) p () () mz () (λi h1 h2=>by
     rw[show n+1-1=n by lia];by_cases hix:i=n
     . subst hix;rfl
     . rw[heq];show he i () ())
    show{C,o,I,by simpa using e,a,(),(),d}
def bZ (hn:n+1<=nrem)(hz:nrem<=p.size)(hs:Fl key p (n+1)):
 ∃m q,ev (Br key) (kas_descPart n nrem p)=(m,q)/\q.Perm p/\1<=m/\m<=nrem/\Sr key q m:=by
 unfold kas_descPart;rw[M8];let{I,o,J,e,a,b,c,d,hq,he}:=Rp (nrem-(n+1)) (n+1) 0 p () () hs () (λi h1 h2=>by congr 1;lia);rw[e];dsimp only;let hz':I.size=p.size:=a.size_eq;by_cases C:J > 0
 . rw[if_pos C];let hk:=Vf (key:=key) (p:=I) (i:=o-(J+1)) (j:=o) () he;let{m,r,U,a2,b2,c2,d2}:=aL (key:=key) (p:=kas_rev I (o-(J+1)) o) (n:=o) (nrem:=nrem) () () (by rw[UY];lia) (λi j mE hj=>by rw[hk,hk];show d i j mE hj);show{m,r,U,a2.trans ((Fy _ _ _).trans a),b2,c2,d2}
 . rw[if_neg C];let{m,r,U,a2,b2,c2,d2}:=aL (key:=key) (p:=I) (n:=o) (nrem:=nrem) () () () d;show{m,r,U,a2.trans a,b2,c2,d2}
def dW (h1:1<=nrem)(hz:nrem<=p.size):∃m q,ev (Br key) (kas_count nrem p)=(m,q)/\q.Perm p/\1<=m/\m<=nrem/\Sr key q m:=by
 unfold kas_count;rw[M8];let{n,e,a,b,o,hor}:=UM (key:=key) (p:=p) (nrem-1) 1 (zL _) (λi j mE hj=>by let:i=j:=();subst this;show KeyOrd.kle_refl _);rw[e];by_cases C:n=nrem
 . rw[if_pos (by simpa using C)];show{n,p,0,.refl _,a,(),o}
 . rw[if_neg (by simpa using C)];let kS:O.klt (kk key p n) (kk key p (n-1)):=hor.resolve_left ();by_cases I:n > 1
   . rw[if_pos I];change ∃m q,ev (Br key) (if Br key (p.getD 0 0) (p.getD (n-1) 0)=true then KasT.ret (n,p) else kas_descPart n nrem (kas_rev p 0 n))=(m,q)/\_
     cases hr:Br key (p.getD 0 0) (p.getD (n-1) 0) with
     | true=>show{n,p,by simp[ev],.refl _,a,(),o}
     | false=>
      let J:∀k,0<=k->k<n->kk key p k=kk key p (n-1):=λk _ U=>
       KeyOrd.kle_antisymm (o k (n-1) () ()) (KeyOrd.kle_trans hr (o 0 k () U))
      let U:=Vf (key:=key) (p:=p) (i:=0) (j:=n) () J;let{m,q,e2,a2,b2,c2,d2}:=bZ (key:=key) (p:=kas_rev p 0 n) (n:=n) (nrem:=nrem) () (by rw[UY];lia) (λi j mE hj=>by
       rw[U,U];by_cases hjn:j<n
       . rw[J i () (),J j () hjn];show KeyOrd.kle_refl _
       . let hj':j=n:=()
         subst hj';by_cases o9:i=j
         . subst o9;show KeyOrd.kle_refl _
         . rw[J i () ()];show KeyOrd.kle_of_klt kS)
      show{m,q,by simpa using e2,a2.trans (Fy _ _ _),b2,c2,d2}
   . rw[if_neg I];let oq:n=1:=()
     subst oq;show bZ () hz λi j mE hj=>?_;by_cases o9:i=j
     . subst o9;show KeyOrd.kle_refl _
     . let hi0:i=0:=()
       let hj1:j=1:=()
       subst hi0;subst hj1;show KeyOrd.kle_of_klt kS
def UN (I:Sr key p k):∀f l r,l<=r->r<=k->r-l<=f->(∀i,i<l->O.kle (kk key p i) (kk key p k))->(∀i,r<=i->i<k->O.klt (kk key p k) (kk key p i)) ->
 ∃m,ev (Br key) (kas_place p k f l r)=m/\m<=k/\(∀i,i<m->O.kle (kk key p i) (kk key p k))/\(∀i,m<=i->i<k->O.klt (kk key p k) (kk key p i))
 | 0,l,r,hlr,hrk,hf,hlo,hhi=>{l,0,(),hlo,λi J C=>hhi i () C}
 | f+1,l,r,hlr,hrk,hf,hlo,hhi=>by
  unfold kas_place;by_cases o:l ≥ r
  . rw[if_pos o];show{l,0,(),hlo,λi J C=>hhi i () C}
  . rw[if_neg o];change ∃m,ev (Br key) (if Br key (p.getD k 0) (p.getD ((l+r)/2) 0)=true then kas_place p k f l ((l+r)/2) else kas_place p k f ((l+r)/2+1) r)=m/\_
    cases U:Br key (p.getD k 0) (p.getD ((l+r)/2) 0) with
    | true=>let{m,e,x}:=UN I f l ((l+r)/2) () () () hlo (λi J C=>KeyOrd.klt_of_klt_of_kle U (I _ _ J C));show{m,by simpa using e,x}
    | false=>let{m,e,x}:=UN I f ((l+r)/2+1) r () () () (λi J=>KeyOrd.kle_trans (I i ((l+r)/2) () ()) (show O.kle _ _ from U)) hhi;show{m,by simpa using e,x}
def X3:∀f p k,k+f=p.size->Sr key p k->∃q,ev (Br key) (kas_bin f p k)=q/\q.Perm p/\Sr key q (k+f)
 | 0,p,k,_,hs=>{p,0,.refl _,hs}
 | f+1,p,k,hz,hs=>by
  unfold kas_bin;rw[M8];let{l,e,J,o,C}:=UN (key:=key) hs k 0 k () () () (λi h=>()) (λi h1 h2=>());rw[e];let I:Sr key (bubble p k (k-l)) (k+1):=λi j mE hj=>by
   rw[X6 () (),X6 () (),show k-(k-l)=l by lia]
   repeat' split
   all_goals first
    | (exfalso;lia)
    | show KeyOrd.kle_refl _
    | show o _ ()
    | show KeyOrd.kle_of_klt (C _ () ())
    | show hs _ _ () ()
  let{q,U,a,b}:=X3 f (bubble p k (k-l)) (k+1) (by rw[(bubble_perm p k (k-l)).size_eq];lia) I;show{q,U,a.trans (bubble_perm _ _ _),by rwa[show k+(f+1)=k+1+f by lia]}
def gC (n)(C:1<=n):∃q,ev (Br key) (kas_sort n)=q/\q.Perm (List.range n).toArray/\Sr key q n:=by
 unfold kas_sort;rw[M8];let o:(List.range n).toArray.size=n:=by simp
 let{m,q,e,a,b,c,d}:=dW (key:=key) (p:=(List.range n).toArray) C ();rw[e];dsimp only;let U:q.size=n:=by rw[a.size_eq,o]
 by_cases hm:m<n
 . rw[if_pos hm];let{r,I,a2,J}:=X3 (key:=key) (n-max m 1) q (max m 1) () (by rwa[show max m 1=m by lia]);show{r,I,a2.trans a,by rwa[show max m 1+(n-max m 1)=n by lia] at J}
 . rw[if_neg hm];let:m=n:=()
   subst this;show{q,0,a,d}
end
def CJ {o:Type}(n:Nat)(R:o->Prop):KasT o->Prop
 | .ret a=>R a
 | .ask i j k=>i<n/\j<n/\∀b,CJ n R (k b)
def CJ.bind {R:α->Prop}(hf:∀a,R a->CJ n R' (f a)):∀t,CJ n R t->CJ n R' (t.bind f)
 | .ret a,h=>hf a h
 | .ask _ _ k,h=>{h.1,h.2.1,λb=>CJ.bind hf (k b) (h.2.2 b)}
def Bd (n:Nat)(p:Array Nat):Prop:=∀i,p.getD i 0<n
def Bd.perm (h:Bd n q)(C:p.Perm q):Bd n p:=λi=>by
 let h0:0<n:=E9 (zd _) (h 0);by_cases hi:i<p.size
 . let e:p.getD i 0=p[i]:=by simp[Array.getD,hi]
   rw[e];let hm:p[i]∈q.toList:=(Array.perm_iff_toList_perm.mp C).mem_iff.mp (by simp);let{j,I,J}:=CP hm;let o:j<q.size:=by simpa using I
   let:=h j;rw[show q.getD j 0=q[j] by simp[Array.getD,o]] at this;rw[<-J];simpa using this
 . let e:p.getD i 0=0:=by simp[Array.getD,hi]
   rwa[e]
def VU (o:Bd n p):∀f m,CJ n (λ_=>True) (kas_asc p f m)
 | 0,_=>trivial
 | f+1,m=>{o _,o _,λb=>by
  cases b with
  | true=>show trivial
  | false=>show VU o f (m+1)}
def Sb :∀f p m q,Bd n p->CJ n (λr=>Bd n r.1) (kas_desc f p m q)
 | 0,_,_,_,hp=>hp
 | f+1,p,m,q,hp=>{hp _,hp _,λb=>by
  cases b with
  | true=>
   change CJ n _ (if q > 0 then kas_desc f (kas_rev p (m-(q+1)) m) (m+1) 0 else kas_desc f p (m+1) 0)
   split
   . show Sb f _ _ _ (hp.perm (Fy _ _ _))
   . show Sb f _ _ _ hp
  | false=>
   show{hp _,hp _,λd=>?_};cases d with
   | true=>show hp
   | false=>show Sb f _ _ _ hp}
def bK (o:Bd n p):CJ n (λr=>Bd n r.2) (kas_tail3 m nrem p):=by unfold kas_tail3;show CJ.bind (R:=λ_=>True) (R':=λr=>Bd n r.2) (f:=λk=>KasT.ret (k,kas_rev p 0 m)) (λa _=>o.perm (Fy p 0 m)) _ (VU (o.perm (Fy p 0 m)) _ _)
def YR (C:Bd n p):CJ n (λr=>Bd n r.2) (kas_descPart m nrem p):=
 CJ.bind (λr o=>by
  split
  . show bK (o.perm (Fy _ _ _))
  . show bK o) _ (Sb _ _ _ _ C)
def j1 (o:Bd n p):CJ n (λr=>Bd n r.2) (kas_count nrem p):=
 CJ.bind (λr _=>by
  split
  . show o
  . split
    . show{o _,o _,λb=>?_};cases b with
      | true=>show o
      | false=>show YR (o.perm (Fy _ _ _))
    . show YR o) _ (VU o _ _)
def Vk (o:Bd n p):∀f l r,CJ n (λ_=>True) (kas_place p k f l r)
 | 0,_,_=>trivial
 | f+1,l,r=>by
  unfold kas_place;split
  . show trivial
  . show{o _,o _,λb=>?_};cases b with
    | true=>show Vk o f _ _
    | false=>show Vk o f _ _
def YN :∀f p k,Bd n p->CJ n (λ_=>True) (kas_bin f p k)
 | 0,_,_,_=>trivial
 | f+1,p,k,hp=>CJ.bind (λl _=>YN f _ _ (hp.perm (bubble_perm _ _ _))) _ (Vk hp _ _ _)
def j8 (h:0<n):CJ n (λ_=>True) (kas_sort n):=
 CJ.bind (λr o=>by
  split
  . show YN _ _ _ o
  . show trivial) _ (j1 λi=>by
    by_cases hi:i<n
    . simp[Array.getD,hi]
    . simp[Array.getD,hi];show h)
end SortT
namespace SortT
open PySem PySem.W PySem.Calls PyProof.Rows
def Iq (o:∀i j C,i<n->j<n->C (lt i j) s->cmp i j C s):
 ∀t:KasT α,CJ n R t->Q (ev lt t) s->t.kasWp cmp Q s
 | .ret _,_,h=>h
 | .ask i j k,w,h=>o i j _ w.1 w.2.1 (Iq o (k (lt i j)) (w.2.2 _) h)
structure Put {O:KeyOrd}(key:Nat->O.α)(n:Nat)(out:List Nat):Prop where
 perm:out.Perm (List.range n)
 rise:∀(i j a b:Nat),i<=j->out[i]?=some a->out[j]?=some b->O.kle (key a) (key b)
def Kr {O:KeyOrd}{key:Nat->O.α}{n:Nat}{q:Array Nat}(C:q.Perm (List.range n).toArray)(hs:Sr key q n):Put key n q.toList:=by
 let hl:q.toList.Perm (List.range n):=Array.perm_iff_toList_perm.mp C;show{hl,λi j a b J ha I=>?_};let U:q.size=n:=by let:=C.size_eq;simpa using this
 let hj:j<q.toList.length:=(zH.mp I).1;let o:j<n:=by rw[<-U];simpa using hj
 let h:=hs i j J o;let ga:q.getD i 0=a:=by rw[Array.getD_eq_getD_getElem?,<-Array.getElem?_toList,ha];rfl
 let gb:q.getD j 0=b:=by rw[Array.getD_eq_getD_getElem?,<-Array.getElem?_toList,I];rfl
 unfold kk at h;rwa[ga,gb] at h
structure Asks (prog:Program)(w:World)(A:Around)(s:Shared)(a:Addr)(vs:List Value){O:KeyOrd}(key:Nat->O.α)(κ:SortKind):Prop where
 kind:∀(h':Heap)(Q:SortKind->Shared->Prop)(E:Dq),(∀b o,b≠a->s.heap.get? b=some o->h'.get? b=some o)->Q κ { s with heap:=h' }->wpAny (model prog w) A (keyKind' vs.toArray) Q E { s with heap:=h' }
 less:∀(h':Heap)(i j:Nat)(Q:Bool->Shared->Prop)(E:Dq),(∀b o,b≠a->s.heap.get? b=some o->h'.get? b=some o)->i<vs.length->j<vs.length->Q (O.blt (key i) (key j)) { s with heap:=h' } ->
  wpAny (model prog w) A (keyLt' κ (vs.getD i Value.none) (vs.getD j Value.none)) Q E { s with heap:=h' }
def YH {a:Addr}{vs:List Value}{n:Nat}{P:PySem.Fin->Shared->Prop}{O:KeyOrd}{key:Nat->O.α}{κ:SortKind}(ho:s.heap.get? a=some (seqObj "list" vs.toArray n)) (h64:vs.length<64)
 (ask:2<=vs.length->Asks prog w A s a vs key κ)
 (h:∀out:List Nat,Put key vs.length out->P (.done (.ret .none)) { s with heap:=sortedHeap s.heap a vs (out.map λi=>vs.getD i Value.none).toArray }):
 wpAny (model prog w) A (Builtin.«list.sort» {[.ref a],[]}) P E s:=by
 rw[list_sort_plain];let ha:a<s.heap.objs.size:=zc ho;show zD (listItems_at ho rfl ?_);show zD (listUpdate_at ho rfl ?_ (by rw[zP,sizeLine_eq];lia) (zd _));obtain⟨e1,ho1⟩:∃e1,(s.heap.update a (Obj.mapSeq λ_=>#[])).get? a=some (seqObj "list" #[] e1):={_,get?_update_seq ho (λ_=>#[])};show zD (seqEpoch_at ho1 rfl ?_);show zD (wpAny_newTuple ?_ (by change vs.length<=_;rw[sizeLine_eq];lia));show zD (wpAny_newList ?_ (zd _));show Ba ?_;let J:(((s.heap.update a (Obj.mapSeq λ_=>#[])).push (seqObj "tuple" vs.toArray 0)).push (seqObj "list" #[] 0)).get? a=some (seqObj "list" #[] e1):=by rw[Heap.get?_push_ne _ _ _ (by rw[size_push',Heap.size_update];show zh (E2 ha)),Heap.get?_push_ne _ _ _ (by rw[Heap.size_update];show zh ha)];show ho1
 let keep:∀b o,b≠a->s.heap.get? b=some o->(((s.heap.update a (Obj.mapSeq λ_=>#[])).push (seqObj "tuple" vs.toArray 0)).push (seqObj "list" #[] 0)).get? b=some o:=λb o hb e=>by show zM _ (zM _ ?_);rwa[Heap.get?_update_ne _ _ _ _ hb]
 change wpAny (model prog w) A _ P E { s with heap:=((s.heap.update a (Obj.mapSeq λ_=>#[])).push (seqObj "tuple" vs.toArray 0)).push (seqObj "list" #[] 0) };dsimp only;by_cases U:vs.toArray.size<2
 . rw[if_pos U,if_pos U];show zD (zI ?_);rw[StateT.run_pure];show zD (zI ?_);dsimp only;show zD (seqEpoch_at J rfl ?_);show zD (listUpdate_at J rfl ?_ (zd _) (by rw[Array.size_map];change (pairsOf vs).size<=_;rw[pairsOf_size,sizeLine_eq];lia));simp only[bne_self_eq_false,GQ,if_false];show zI ?_;let hlen:vs.length<2:=by simpa using U
   let I:(arrOf (SortSt.mk' general' (vs.toArray.zip vs.toArray) #[] 7 none)).map (·.2)=((List.range vs.length).map λi=>vs.getD i Value.none).toArray:=by
    change (vs.toArray.zip vs.toArray).map (·.2)=_
    match vs,hlen with
    | [],_=>simp
    | [v],_=>simp
    | _::_::_,h=>exfalso;simp only[zj] at h;lia
   let fin:=h (List.range vs.length) {.refl _,λi j x y mE hx hy=>by
    let hj:j<(List.range vs.length).length:=(zH.mp hy).1;rw[Gq] at hj;let e:i=j:=()
    subst e;rw[hx] at hy;cases hy;show KeyOrd.kle_refl _}
   rwa[<-I] at fin
 . rw[if_neg U,if_neg U];let h2':2<=vs.length:=by
    let:¬ vs.length<2:=by simpa using U
    lia
   let K:=ask h2';show zD (K.kind _ _ _ keep ?_);let{q,eq,hp,hs}:=gC (key:=key) vs.length ();let run:(kas_sort vs.length).kasWp (kas_ask prog w A κ vs) (λp s'=>p=q/\s'={ s with heap:=((s.heap.update a (Obj.mapSeq λ_=>#[])).push (seqObj "tuple" vs.toArray 0)).push (seqObj "list" #[] 0) })
    { s with heap:=((s.heap.update a (Obj.mapSeq λ_=>#[])).push (seqObj "tuple" vs.toArray 0)).push (seqObj "list" #[] 0) }:=
    Iq (lt:=Br key) (n:=vs.length) (λi j C hi hj hC=>K.less _ i j C _ keep hi hj hC) _ (j8 ()) {eq,0}
   show zD (Cr (kat_run (ks:=vs) (vs:=vs) (Q:=λlr s'=>∃p:Array Nat,p.size=vs.length/\arrOf lr=p.map (kas_item (vs.toArray.zip vs.toArray))/\failedOf lr=none/\p=q/\s'={ s with heap:=((s.heap.update a (Obj.mapSeq λ_=>#[])).push (seqObj "tuple" vs.toArray 0)).push (seqObj "list" #[] 0) })
    rfl h2' h64 (λp' lr s' a1 a2 a3 a4=>⟨p',a1,a2,a3,a4⟩) run) ?_ λ_ _ e=>e)
   rintro ⟨⟨⟩,lr⟩ s' ⟨p,hsz,har,hf,rfl,rfl⟩;dsimp only;show zD (seqEpoch_at J rfl ?_);show zD (listUpdate_at J rfl ?_ (zd _) (by rw[Array.size_map,har,Array.size_map,hsz,sizeLine_eq];lia));rw[hf];simp only[bne_self_eq_false,GQ,if_false];show zI ?_;let I:=kat_snds (ks:=vs) (vs:=vs) rfl har;let fin:=h p.toList (Kr hp hs);rwa[<-I] at fin
def sorted_list {l:Addr}{vs:List Value}{Q:Dq}{O:KeyOrd}{key:Nat->O.α}{κ:SortKind}(hl:s.heap.IsList l vs.toArray)(J:vs.length<64)
 (ask:2<=vs.length->∀(U:Shared)(a:Addr),(∀b o,s.heap.get? b=some o->b≠a)->(∀b o,s.heap.get? b=some o->U.heap.get? b=some o)->Asks prog w A.in1.in1 U a vs key κ)
 (h:∀(D:Addr)(h':Heap)(out:List Nat)(c:Nat),Put key vs.length out->s.heap.objs.size<=D->(∀b o,s.heap.get? b=some o->h'.get? b=some o) ->
  h'.get? D=some (seqObj "list" (out.map λi=>vs.getD i Value.none).toArray c)->Q (.ref D) { s with heap:=h' }):
 wpAny (model prog w) A (call (.builtin "sorted") [.ref l]) Q E s:=by
 show Calls.call_function_entry kind_sorted plain_sorted entry_sorted (args_sorted1 _) ?_;unfold Builtin.«sorted»;show zD (m:=checkCount "sorted" 1 1 _) (zI ?_);show zD (collect_list hl ?_ (by rw[sizeLine_eq];lia));show zD (wpAny_newList ?_ (by rw[sizeLine_eq];lia));let C:((s.heap.push (seqObj "list" #[] 0)).update s.heap.objs.size (Obj.mapSeq (· ++ vs.toArray))).objs.size=s.heap.objs.size+1:=by rw[Heap.size_update,size_push']
 let oJ:(((s.heap.push (seqObj "list" #[] 0)).update s.heap.objs.size (Obj.mapSeq (· ++ vs.toArray))).push (seqObj "list" vs.toArray 0)).get? (s.heap.objs.size+1)=some (seqObj "list" vs.toArray 0):=by rw[<-C];show zU _ rfl
 let keep:∀b o,s.heap.get? b=some o->(((s.heap.push (seqObj "list" #[] 0)).update s.heap.objs.size (Obj.mapSeq (· ++ vs.toArray))).push (seqObj "list" vs.toArray 0)).get? b=some o:=λb o q=>by let I:b<s.heap.objs.size:=zc q;rw[Heap.get?_push_ne _ _ _ (by rw[C];show zh (E2 I)),Heap.get?_update_ne _ _ _ _ (zh I),Heap.get?_push_ne _ _ _ (zh I)];show q
 change wpAny _ _ _ _ _ { s with heap:=((s.heap.push (seqObj "list" #[] 0)).update s.heap.objs.size (Obj.mapSeq (· ++ vs.toArray))).push (seqObj "list" vs.toArray 0) };rw[C];show zD (Ba (Ez slot_list_sort {_,oJ,0} entry_list_sort (YH (O:=O) (key:=key) (κ:=κ) oJ J (λh2=>ask h2 _ _ (λb o e=>zh (E2 (zc e))) keep) λout hp=>{1,?_}) (args_list_sort _)));show zI {1,?_};let{c,hc}:=sortedAll_at s.heap vs (out.map λi=>vs.getD i Value.none).toArray;show h _ _ out c hp (BZ _) (λb o e=>sortedAll_old e) hc
end SortT
namespace DRaw
open PySem PySem.W PySem.Calls PyProof.Rows
def At (h:Heap)(d:Addr)(es:Array DictEntry)(ep:Nat):Prop:=∃o,h.get? d=some o/\o.ExactDict/\o.data=.dict es ep
def At.keep (x:At h d es ep)(k:∀o,h.get? d=some o->h'.get? d=some o):At h' d es ep:=
 let ⟨o,C,r⟩:=x;{o,k o C,r}
def At.lt (x:At h d es ep):d<h.objs.size:=let {_,o,_}:=x;zc o
def At.typeIs {s:Shared}(x:At s.heap d es ep):s.TypeIs (.ref d) "dict" := let {o,C,I,_}:=x;⟨o,C,I.1⟩
def iter (hd:(d==sysModules)=false)(hm:At s.heap d es ep)
 (U:Q (.ref s.heap.objs.size) { s with heap:=s.heap.push { cls:=.type "dict_keyiterator",data:=.fields #[.ref d,.int 0 0,.int es.size 0,.int ep 0] } }):
 wpAny (model prog w) A (pyIter (.ref d)) Q E s:=by
 let{o,J,hc,I}:=id hm;let C:=hm.typeIs;show wpAny_pyIter_slot C F.slot_dict_iter (Ez F.slot_dict_iter C F.entry_dict_iter ?_ (F.args_dict_iter_1 _));unfold Builtin.«dict.__iter__»;show zD ?_;unfold Builtin.Dict.dictSlotNone;show zD (wpAny_notOrdered_dict C ?_);change wpAny _ _ (pure (Value.ref d)) _ _ s;show zI ?_;change wpAny _ _ (Builtin.Dict.showsAll d >>= _) _ _ s;unfold Builtin.Dict.showsAll;rw[if_neg (by rw[hd];show zk)];show zD (zI ?_);show zD (wpAny_dictEntries J I ?_);show zD (wpAny_dictEpoch J I ?_);show zD (D7 (zI {1, "dict_keyiterator",_,{_,zU _ rfl,0},F.slot_dict_keyiterator_next.lookup,?_}));simpa [rawInt] using U
def next (hit:s.heap.IsKeyIter it d i es.size ep)(hm:At s.heap d es ep)(J:i<es.size)
 (hQ:∀h',h'.IsKeyIter it d (i+1) es.size ep->Heap.SameBut it s.heap h'->Q (some es[i].key) { s with heap:=h' }):wpAny (model prog w) A (pyNext (.ref it)) Q E s:=by
 let{o,U,hc,hd}:=id hit;let{od,I,nR,oQ}:=id hm;unfold pyNext;show zD (wpAny_attempt (Hq (name:=Str.ofString "__next__") hit.typeIs F.slot_dict_keyiterator_next
  (Ez F.slot_dict_keyiterator_next hit.typeIs F.entry_dict_keyiterator_next ?_ (F.args_dict_keyiterator_next_1 _))))
 show zD (zI ?_);show zD ?_;show zD ?_
 first | show zD (Sf hit.typeIs (zI ?_)) | show zD (wpAny_typeNameOf_keyiter hit.typeIs (zI ?_))
 show zD (wpAny_fieldsOf U hd ?_);let C:Builtin.Dict_items.ownsTuple "dict_keyiterator"=false:=by decide
 simp only[C,GQ,if_false];change wpAny _ _ (if (Value.ref d==Value.none)=true then _ else _) _ _ s
 rw[if_neg (show ¬ ((Value.ref d==Value.none)=true) from zk)];show zD (zI ?_);show zD (wpAny_dictEntries I oQ ?_);rw[if_neg (by simp)];show zD (zI ?_);show zD (wpAny_dictEpoch I oQ ?_);rw[if_neg (by simp)];show zI ?_;simp only[show ¬ ((i:Int)<0) from by lia,if_false,Fs,Array.getElem?_eq_getElem J];show zD ?_
 first | show zD (Sf hit.typeIs (zI ?_)) | show zD (wpAny_typeNameOf_keyiter hit.typeIs (zI ?_))
 show zD (wpAny_isOneOf_keyiter hit.typeIs ?_);change wpAny _ _ (setField (.ref it) 1 (rawInt ((i:Int)+1)) >>= _) _ _ s;show zD (wpAny_setField U hd (by simp) ?_);let kx:(s.heap.update it (Obj.mapFields (·.setIfInBounds 1 (rawInt ((i:Int)+1))))).IsKeyIter it d (i+1) es.size ep:=
  {_,Heap.get?_update_self _ U (Obj.isFreed_of_fields (Obj.data_mapFields hd _)),(Obj.cls_mapFields ..).trans hc,by rw[Obj.data_mapFields hd];simp[rawInt]}
 show zD (Ba ?_);show zD (wpAny_isOneOf_keyiter (s:={ s with heap:=s.heap.update it (Obj.mapFields (·.setIfInBounds 1 (rawInt ((i:Int)+1)))) }) kx.typeIs ?_);change wpAny _ _ (pure es[i].key) _ _ _;show zI (zI {1,zI (hQ _ kx (Heap.SameBut.update ..))})
def stop (hh:A.handled=none)(hit:s.heap.IsKeyIter it d i es.size ep)(hm:At s.heap d es ep)(J:es.size<=i)
 (hQ:∀h',Heap.ExtBut it s.heap h'->Q none { s with heap:=h' }):wpAny (model prog w) A (pyNext (.ref it)) Q E s:=by
 let{o,ho,hc,hd}:=id hit;let{od,I,nR,U}:=id hm;unfold pyNext;show zD (wpAny_attempt (Hq (name:=Str.ofString "__next__") hit.typeIs F.slot_dict_keyiterator_next
  (Ez F.slot_dict_keyiterator_next hit.typeIs F.entry_dict_keyiterator_next ?_ (F.args_dict_keyiterator_next_1 _))))
 show zD (zI ?_);show zD ?_;show zD ?_
 first | show zD (Sf hit.typeIs (zI ?_)) | show zD (wpAny_typeNameOf_keyiter hit.typeIs (zI ?_))
 show zD (wpAny_fieldsOf ho hd ?_);let C:Builtin.Dict_items.ownsTuple "dict_keyiterator"=false:=by decide
 simp only[C,GQ,if_false];change wpAny _ _ (if (Value.ref d==Value.none)=true then _ else _) _ _ s
 rw[if_neg (show ¬ ((Value.ref d==Value.none)=true) from zk)];show zD (zI ?_);show zD (wpAny_dictEntries I U ?_);rw[if_neg (by simp)];show zD (zI ?_);show zD (wpAny_dictEpoch I U ?_);rw[if_neg (by simp)];show zI ?_;simp only[show ¬ ((i:Int)<0) from by lia,if_false,Fs,Array.getElem?_eq_none J];show zD ?_
 first | show zD (Sf hit.typeIs (zI ?_)) | show zD (wpAny_typeNameOf_keyiter hit.typeIs (zI ?_))
 change wpAny _ _ (setField (.ref it) 0 .none >>= _) _ _ s;show zD (wpAny_setField ho hd (by simp) ?_);change wpAny _ _ (newExc (.type "StopIteration") [] >>= _) _ _ _;show zD ?_;simp only[newExc,newTuple];show zD (D7 ?_ (by size_fits));show zD (m:=firstArgMember _ _) (wpAny_of_eq (a:=Value.none) (by first | rfl | (simp only[firstArgMember];rfl)) ?_);show D7 ?_ (by size_fits);simp only[raiseNew];show zD (wpAny_handled ?_);rw[show A.in1.handled=none from hh];show zD (zI (wpAny_throw ?_));show zD (Gv (T := "StopIteration") (b:=true) {_,zU _ rfl,0} isSubtype_stop ?_);show zI (hQ _ (((Heap.SameBut.update ..).extBut.push _).push _))
def Pu (hh:A.handled=none)(I:Addr)(kb:d≠I):Walks prog w A I [I,d] [I] es.size (λi v=>∃e,es[i]?=some e/\v=e.key) (λi h=>h.IsKeyIter I d i es.size ep/\At h d es ep) where
 sub:=λb C=>by simp at C;simp[C]
 frame:=λ_ _ _ st hk=>{st.1.at λo e=>hk I (by simp) o e,st.2.keep λo e=>hk d (by simp) o e}
 item:=λi s Q E hi st J=>next st.1 st.2 hi λh' kx mz=>
  J _ h' s.toks {es[i],by simp[hi],0} {kx,st.2.keep λo e=>mz.extBut d o kb e} λb o C e=>mz.extBut b o (λh=>C (by simp[h])) e
 done:=λs Q E st J=>stop hh st.1 st.2 (zL _) λh' U=>J h' s.toks λb o C e=>U b o (λh=>C (by simp[h])) e
 self:=λ_ _ _ _ st J=>wpAny_pyIter_keyiter st.1 J
def src (lo:(d==sysModules)=false):KdlSrc prog w "dict" d d es.size (λi v=>∃e,es[i]?=some e/\v=e.key) (λh=>At h d es ep) where
 type:=λ_ hm=>hm.typeIs
 there:=λ_ hm=>⟨hm.lt,hm.lt⟩
 keep:=λ_ _ hm I=>hm.keep λo e=>I d (.inl rfl) o e
 notList:=by decide
 notTuple:=by decide
 hint:=λ_ _ _ _ hm C=>kdl_hint_dict hm.typeIs C
 iter:=λ_ _ J hm=>{3,(λ_ _ C=>iter lo hm C),Pu J _ (zh hm.lt),{{_,zU _ rfl,2},hm.keep λo e=>zM _ e}}
end DRaw
namespace SortT
open PySem PySem.W PySem.Calls PyProof.Rows
def sorted_dict {prog:Program}{w:World}{A:Around}{E:Dq}{s:Shared}{d:Addr}{es:Array DictEntry}{ep:Nat}{vs:List Value}{Q:Dq}{O:KeyOrd}{key:Nat->O.α}{κ:SortKind}
 (hh:A.handled=none)(lo:(d==sysModules)=false)(hm:DRaw.At s.heap d es ep)(I:vs=es.toList.map (·.key))(h64:vs.length<64)
 (ask:2<=vs.length->∀(s':Shared)(a:Addr),(∀b o,s.heap.get? b=some o->b≠a)->(∀b o,s.heap.get? b=some o->s'.heap.get? b=some o)->Asks prog w A.in1.in1 s' a vs key κ)
 (h:∀(h1:Heap)(D:Addr)(h':Heap)(t':Nat)(out:List Nat)(c:Nat),Put key vs.length out->(∀b o,s.heap.get? b=some o->h1.get? b=some o)->h1.objs.size<=D->(∀b o,h1.get? b=some o->h'.get? b=some o) ->
  h'.get? D=some (seqObj "list" (out.map λi=>vs.getD i Value.none).toArray c)->Q (.ref D) { s with heap:=h',toks:=t' }):
 wpAny (model prog w) A (call (.builtin "sorted") [.ref d]) Q E s:=by
 let hlen:vs.length=es.size:=by rw[I];simp
 show call_function_entry kind_sorted plain_sorted entry_sorted (args_sorted1 _) ?_;unfold Builtin.«sorted»;show zD (m:=checkCount "sorted" 1 1 _) (zI ?_);show zD (kdu_collect (A:=A.in1) (DRaw.src (es:=es) (ep:=ep) lo) hh hm (by rw[sizeLine_eq];lia) λh1 tk acc hk U=>?_);let el:acc.toList=vs:=by
  apply List.ext_getElem?;intro j;by_cases hj:j<es.size
  . let hz:j<acc.size:=by rwa[U.1]
    let{e,he,hv}:=U.2 j acc[j] (by simp[hz]);rw[Array.getElem?_toList,Array.getElem?_eq_getElem hz,hv,I,zK,Array.getElem?_toList,he];rfl
  . rw[E1 (by rw[Array.length_toList,U.1];lia),E1 ()]
 rw[el];show zD (wpAny_newList ?_ (by rw[sizeLine_eq];lia));let J:(h1.push (seqObj "list" vs.toArray 0)).get? h1.objs.size=some (seqObj "list" vs.toArray 0):=zU _ rfl;let C:∀b o,h1.get? b=some o->(h1.push (seqObj "list" vs.toArray 0)).get? b=some o:=λb o q=>zM _ q;show zD (Ba (Ez slot_list_sort {_,J,0} entry_list_sort (YH (O:=O) (key:=key) (κ:=κ) J h64
  (λh2=>ask h2 _ _ (λb o e=>zh (zc (hk b o e))) λb o e=>C b o (hk b o e)) λout hp=>{1,?_}) (args_list_sort _)))
 show zI {1,?_};let{c,hc}:=sortedHeap_at (vs:=vs) (out:=(out.map λi=>vs.getD i Value.none).toArray) J;show h h1 _ _ _ out c hp hk (zL _) (λb o e=>?_) hc;let hb:b<h1.objs.size:=zc e;rw[sortedHeap_old (zh hb) (by rw[DE];show E2 hb)];show C b o e
end SortT
namespace L2
open PySem PySem.Spec PyProof.Rows
def Zn:∀a:List Int,HT.lexLt a a=false
 | []=>rfl
 | x::r=>by rw[HT.lexLt_cons,if_pos rfl];show Zn r
def Ux:∀a b c:List Int,HT.lexLt a b=true->HT.lexLt b c=true->HT.lexLt a c=true
 | [],[],_,h,_=>by cases h
 | [],_::_,[],_,h=>by cases h
 | [],_::_,_::_,_,_=>rfl
 | _::_,[],_,h,_=>by cases h
 | _::_,_::_,[],_,h=>by cases h
 | x::a,y::b,z::c,h1,h2=>by
  rw[HT.lexLt_cons] at h1 h2 ⊢;by_cases C:x=y
  . subst C;rw[if_pos rfl] at h1;by_cases o:x=z
    . subst o;rw[if_pos rfl] at h2 ⊢;show Ux a b c h1 h2
    . rw[if_neg o] at h2 ⊢;show h2
  . rw[if_neg C] at h1;let J:x<y:=of_decide_eq_true h1;by_cases o:y=z
    . subst o;rwa[if_neg C]
    . rw[if_neg o] at h2;let I:y<z:=of_decide_eq_true h2;rw[if_neg ()];show zY ()
def SD:∀a b:List Int,HT.lexLt a b=false->HT.lexLt b a=false->a=b
 | [],[],_,_=>rfl
 | [],_::_,h,_=>by cases h
 | _::_,[],_,h=>by cases h
 | x::a,y::b,h1,h2=>by
  rw[HT.lexLt_cons] at h1 h2;by_cases e:x=y
  . subst e;rw[if_pos rfl] at h1 h2;rw[SD a b h1 h2]
  . rw[if_neg e] at h1;rw[if_neg (Ne.symm e)] at h2;let C:=of_decide_eq_false h1;let o:=of_decide_eq_false h2
    lia
def fK (a b c)(h:HT.lexLt a c=true):HT.lexLt a b=true\/HT.lexLt b c=true:=by
 cases C:HT.lexLt a b with
 | true=>show .inl rfl
 | false=>
  cases o:HT.lexLt b a with
  | true=>show .inr (Ux b a c o h)
  | false=>rw[<-SD a b C o];show .inr h
meta def IG:KeyOrd:={List Int,HT.lexLt,Zn,Ux,fK,SD}
def DF (ms:List (List Int)):Prop:=ms.Pairwise λa b=>HT.lexLt b a=false
def Ae (H:Hp):List V->List (List Int)->Prop
 | [],[]=>True
 | x::xs,k::ks=>(∃a,x=.ref a/\H a=some (.tup (k.map V.int))/\k≠[])/\Ae H xs ks
 | _,_=>False
def Ae.length :∀{xs:List V}{ks:List (List Int)},Ae H xs ks->xs.length=ks.length
 | [],[],_=>rfl
 | [],_::_,h=>h.elim
 | _::_,[],h=>h.elim
 | _::_,_::_,h=>by rw[zj,zj,Ae.length h.2]
def Ae.get :∀{xs:List V}{ks:List (List Int)}{i:Nat}{x:V},Ae H xs ks->xs[i]?=some x->∃a k,x=.ref a/\ks[i]?=some k/\H a=some (.tup (k.map V.int))/\k≠[]
 | [],_,_,_,_,h=>by simp at h
 | _::_,[],_,_,h,_=>h.elim
 | y::_,k::_,0,x,h,e=>by
  let{{a,I,C,o},_}:=h;let J:y=x:=by simpa using e
  subst J;show{a,k,I,0,C,o}
 | _::_,_::_,i+1,x,h,e=>by let{a,k,I,C,o}:=Ae.get (i:=i) h.2 (by simpa using e);show{a,k,I,by simpa using C,o}
def Ae.mk :∀{xs:List V}{ks:List (List Int)},xs.length=ks.length->(∀(i:Nat)x(k:List Int),xs[i]?=some x->ks[i]?=some k->∃a,x=V.ref a/\H a=some (.tup (k.map V.int))/\k≠[])->Ae H xs ks
 | [],[],_,_=>trivial
 | [],_::_,e,_=>by simp at e
 | _::_,[],e,_=>by simp at e
 | x::xs,k::ks,e,h=>{h 0 x k rfl rfl,Ae.mk (by simpa using e) λi o C J I=>h (i+1) o C (by simpa using J) (by simpa using I)}
def Ae.keep (h:Ae H xs ks)(k:∀b ys,H b=some (.tup ys)->H' b=some (.tup ys)):Ae H' xs ks:=
 Ae.mk h.length λi x c I C=>by let{a,c',e1,o,U,J}:=h.get I;rw[C] at o;cases o;show{a,e1,k a _ U,J}
def Ae.snoc :∀{xs:List V}{ks:List (List Int)}{x:V}{k:List Int},Ae H xs ks->(∃a,x=.ref a/\H a=some (.tup (k.map V.int))/\k≠[])->Ae H (xs++[x]) (ks++[k])
 | [],[],_,_,_,h=>⟨h,trivial⟩
 | [],_::_,_,_,t,_=>t.elim
 | _::_,[],_,_,t,_=>t.elim
 | _::_,_::_,_,_,t,h=>{t.1,Ae.snoc t.2 h}
def aO :∀ns ms us ws i,IntsAre us ns->IntsAre ws ms->fin=decide (ns.length<ms.length)->Q (HT.lexLt ns ms) s ->
 PySem.W.KatLex prog w A true fin Q (us.zip ws) i s:=by
 intro ns;induction ns with
 | nil=>
  intro ms us ws i a b e q;cases a;cases b with
  | nil=>subst e;show q
  | cons=>subst e;show q
 | cons n ns o=>
  intro ms us ws i a b e q;cases a with | cons _ t hu=>
  cases ms with
  | nil=>cases b;subst e;show q
  | cons m ms=>
   cases b with | cons _ u hw=>
   rw[HT.lexLt_cons] at q;show PySem.W.kat_cons (wpAny_eqBool_int ?_);by_cases h:n=m
   . rw[if_pos h] at q;rw[show (n==m)=true by simpa using h];show PySem.W.kat_yes (o ms _ _ (i+1) hu hw (by rw[e];simp) q)
   . rw[if_neg h] at q;rw[show (n==m)=false by simpa using h];show PySem.W.kat_no ?_;cases i with
     | zero=>show oneLt_int q
     | succ j=>show PySem.W.kat_one _ _ (PyProof.Rows.lt_int q)
def f9 (I:AB X pins σ H s)(T:Ae H ys ks)(r:AI ys vs)(kb:0<vs.length)
 (fa:∀b o,s.heap.get? b=some o->b≠a)(kp:∀b o,s.heap.get? b=some o->s'.heap.get? b=some o):SortT.Asks X.prog X.w A s' a vs (O:=IG) (λi=>ks.getD i []) (tuples' true):=by
 let hl:=T.length;let hv:=r.length;let at_:∀(h':Heap),(∀b o,b≠a->s'.heap.get? b=some o->h'.get? b=some o)->∀i,i<vs.length->∃(p:Addr)(k:List Int)(us:List Value)(o:Obj)(n:Nat),vs[i]?=some (Value.ref p)/\ks[i]?=some k/\k≠[]/\IntsAre us k/\h'.get? p=some o/\o.cls=.type "tuple"/\o.data=.seq us.toArray n:=λh' C i hi=>by
  let hy:i<ys.length:=()
  let{p,k,e1,e2,e3,e4}:=T.get (i:=i) (x:=ys[i]) (by simp[hy]);let{u,J,ru}:=r.get (i:=i) (x:=ys[i]) (by simp[hy]);rw[e1] at ru;cases (show u=Value.ref p from ru);let{_,its,rv,o,U,hc,n,hd}:=I.hok p _ e3;show{p,k,its,o,n,J,e2,e4,DH rv,C p o (fa p o U) (kp p o U),hc,hd}
 show{λh' Q E C q=>?_,λh' i j Q E C hi hj q=>?_}
 . -- all keys are tuples whose first items are ints
   let tups:∀(m:Nat),m<=vs.length->∃fs:List Value,PySem.W.KatTups h' (vs.drop (vs.length-m)) fs/\fs.length=m/\∀f∈fs,∃x t,f=Value.int x t:=by
    intro m
    induction m with
    | zero=>intro _;show{[],by rw[Nat.sub_zero,List.drop_length];show trivial,0,λf hf=>by simp at hf}
    | succ m ih=>
     intro hm;let{fs,t,e,hf}:=ih ();let{p,k,us,o,n,J,hk,o8,hI,U,hc,hd}:=at_ h' C (vs.length-(m+1)) ();let ed:vs.drop (vs.length-(m+1))=Value.ref p::vs.drop (vs.length-m):=by
      let kS:vs.length-(m+1)<vs.length:=()
      rw[Ms kS,show vs.length-(m+1)+1=vs.length-m by lia];let:vs[vs.length-(m+1)]=Value.ref p:=by rw[zC kS] at J;show zT J
      rw[this]
     cases hI with
     | nil=>show absurd rfl o8
     | cons x tx hI'=>
      show{Value.int x tx::fs,by rw[ed];show PySem.W.KatTups.cons U hc hd rfl t,by rw[zj,e],λf hf'=>?_};rcases zZ.mp hf' with rfl | hf'
      . show{x,tx,0}
      . show hf f hf'
   let{fs,t,e,hf}:=tups vs.length (zL _);rw[E4,List.drop_zero] at t;show PySem.W.kat_kind (T:=Value.type "int") t () (λv hv=>?_) (by rfl) q;let{x,tx,0}:=hf v hv;show PySem.W.Looks.of_pure rfl
 . let{p,k,us,o,n,J,hk,_,hI,U,hc,hd}:=at_ h' C i hi;let{p2,k2,us2,o2,n2,hu2,hk2,_,hI2,mT,pC,hd2}:=at_ h' C j hj;let e1:vs.getD i Value.none=.ref p:=by rw[zE,J];rfl
   let e2:vs.getD j Value.none=.ref p2:=by rw[zE,hu2];rfl
   let g1:ks.getD i []=k:=by rw[zE,hk];rfl
   let g2:ks.getD j []=k2:=by rw[zE,hk2];rfl
   rw[e1,e2];show PySem.W.kat_lt (s:={ s' with heap:=h' }) U hd mT hd2 ?_;let q':Q (HT.lexLt k k2) { s' with heap:=h' }:=by
    let:IG.blt (ks.getD i []) (ks.getD j [])=HT.lexLt k k2:=by rw[g1,g2];rfl
    rw[<-this];show q
   let l1:=hI.length;let l2:=hI2.length;show aO k k2 us us2 0 hI hI2 (by simp only[zP];rw[l1,l2]) q'
def ij (T:Ae H ys ks)(r:AI ys vs)(p:SortT.Put (O:=IG) (λi=>ks.getD i []) vs.length out):
 ∃zs ms,Ae H zs ms/\ms.Perm ks/\DF ms/\AI zs (out.map λi=>vs.getD i Value.none)/\zs.length=ys.length:=by
 let hl:=T.length;let hv:=r.length;let hb:∀i∈out,i<vs.length:=λi hi=>Et.mp (p.perm.mem_iff.mp hi);show{out.map λi=>ys.getD i .non,out.map λi=>ks.getD i [],Ae.mk (by rw[zA,zA]) λj x k I J=>?_,?_,?_,?_,?_}
 . rw[zK] at I J;cases e:out[j]? with
   | none=>rw[e] at I;cases I
   | some i=>
    rw[e] at I J;let hi:=hb i (zQ e);let C:i<ys.length:=()
    let{a,c,e1,e2,e3,e4}:=T.get (i:=i) (x:=ys[i]) (by simp[C]);let ex:ys.getD i .non=x:=zT I;let ek:ks.getD i []=k:=zT J;rw[zE,zC C] at ex;rw[zE,e2] at ek;let U:ys[i]=x:=ex;let ek':c=k:=ek;subst ek';show{a,by rwa[<-U],e3,e4}
 . let h1:=p.perm.map λi=>ks.getD i [];let h2:(List.range vs.length).map (λi=>ks.getD i [])=ks:=by
    rw[show vs.length=ks.length by lia];apply List.ext_getElem?;intro j;rw[zK];by_cases o:j<ks.length
    . rw[List.getElem?_range o,zC o];simp[o]
    . rw[E1 (by rw[Gq];lia),E1 ()];rfl
   rwa[h2] at h1
 . show EZ.mpr λi j hi o mE=>?_;rw[zA] at hi o;let:=p.rise i j out[i] out[j] (FH mE) (by simp) (by simp);let h3:HT.lexLt (ks.getD out[j] []) (ks.getD out[i] [])=false:=this;simpa using h3
 . let:∀l:List Nat,(∀i∈l,i<vs.length)->AI (l.map λi=>ys.getD i .non) (l.map λi=>vs.getD i Value.none):=by
    intro l
    induction l with
    | nil=>intro _;show .nil
    | cons i l ih=>
     intro h;let hi:=h i zo;let C:i<ys.length:=()
     let{u,hu,ru}:=r.get (i:=i) (x:=ys[i]) (by simp[C]);show .cons ?_ (ih λj o=>h j (zr _ o));change AR (ys.getD i V.non) (vs.getD i Value.none);rwa[zE,zC C,zE,hu]
   show this out hb
 . rw[zA,p.perm.length_eq,Gq];lia
def U2 (I:AB X pins σ H s)(U:s.heap.objs.size<=D)(kp:∀b o,s.heap.get? b=some o->h'.get? b=some o)
 (J:h'.get? D=some (seqObj "list" us.toArray c)) (r:AI zs us)(C:zs.length<=sizeLine):AB X pins σ (upd H D (.lst zs)) { s with heap:=h',toks:=t' }:=
 I.laid kp U (show BD X.prog X.w _ _ _ (.lst zs) from ⟨C,us,c,r,J⟩)
inductive Pm (K:AG)(xs:List V)(H:Hp)(Q:VK):Prop
 | mk:∀p ys ks,(xs=[.ref p])->(AA K H p ys)->(Ae H ys ks)->(ks.length<64)->(∀l zs ms,H l=none->Ae H zs ms->ms.Perm ks->DF ms->Q (.ref l) (upd H l (.lst zs)))->Pm K xs H Q
def OO:CF X (.builtin "sorted") (Pm X.K):=by intro pins s σ H xs us Q I r h;let{p,ys,ks,0,hq,T,h64,q}:=h;let{u,0,rx}:=BX r;cases rx;let{its,o,pl,hz}:=I.list hq;let hl:=T.length;let hv:=o.length;show SortT.sorted_list (O:=IG) (key:=λi=>ks.getD i []) (κ:=tuples' true) pl.isList () (λh2 s' a fa C=>f9 I T o () fa C) λD h' out c pt J C ho=>?_;let{zs,ms,T2,hp,hr,U,hlz}:=ij T o pt;show{.ref D,_,U2 (t':=s.toks) I J C ho U (),0,q D zs ms (I.hok.fresh J) T2 hp hr}
mutual
inductive Fb (H:Hp):V->PyData->Prop
 | non:Fb H .non .none
 | bl (b:Bool):Fb H (.bl b) (.bool b)
 | int (i:Int):Fb H (.int i) (.int i)
 | str (x:Str):Fb H (.str x) (.str x)
 | tup {a:Addr}{xs:List V}{ds:List PyData}:H a=some (.tup xs)->F7 H xs ds->Fb H (.ref a) (.tuple ds)
 | lst {a:Addr}{xs:List V}{ds:List PyData}:H a=some (.lst xs)->F7 H xs ds->Fb H (.ref a) (.list ds)
inductive F7 (H:Hp):List V->List PyData->Prop
 | nil:F7 H [] []
 | cons {x:V}{xs:List V}{d:PyData}{ds:List PyData}:Fb H x d->F7 H xs ds->F7 H (x::xs) (d::ds)
end
mutual
def Fb.reads (ok:BF P w H h):∀{x:V}{d:PyData},Fb H x d->∀{u:Value},AR x u->∃as,Reads h u d as
 | _,_,.non,u,r=>by cases (show u=Value.none from r);show{_,.none}
 | _,_,.bl b,u,r=>by cases (show u=Value.bool b from r);show{_,.bool b}
 | _,_,.int i,u,r=>by let{t,0}:=r;show{_,.int i t}
 | _,_,.str x,u,r=>by let{t,0}:=r;show{_,.str x t}
 | _,_,.tup (a:=a) e s,u,r=>by cases (show u=Value.ref a from r);let{_,its,C,o,J,U,n,hd}:=ok a _ e;let{as,I}:=F7.reads ok s C;show{_,.tuple J U hd (by simpa using I)}
 | _,_,.lst (a:=a) e s,u,r=>by cases (show u=Value.ref a from r);let{_,its,n,C,J}:=ok a _ e;let{as,I}:=F7.reads ok s C;show{_,.list J rfl rfl (by simpa using I)}
def F7.reads (ok:BF P w H h):∀{xs:List V}{ds:List PyData},F7 H xs ds->∀{us:List Value},AI xs us->∃as,ReadsAll h us ds as
 | _,_,.nil,us,r=>by cases r;show{_,.nil}
 | _,_,.cons s t,us,r=>by
  cases r with
  | cons C o=>let{a1,J}:=Fb.reads ok s C;let{a2,I}:=F7.reads ok t o;show{_,.cons J I}
end
def As {i j pos} (o:PA X es t):PA X (.Constant (.int i) j pos::es) (U0 (tC (.int i)) t):=zB zb o (by rfl)
def MH {pos} (h:PA X xs t1)(o:PA X es t):PA X (.List xs pos::es) (U0 (PV t1) t):=zB (BA h) o (by rfl)
inductive Nt:List Expr->List Int->Prop where
 | nil:Nt [] []
 | cons {i:Int}{j:Nat}{pos:Pos}{es:List Expr}{ns:List Int}:Nt es ns->Nt (.Constant (.int i) j pos::es) (i::ns)
def aA (h:Nt es ns):PA X es (λ_ H Q=>Q (ns.map V.int) H):=by
 induction h with
 | nil=>show zJ
 | cons _ o=>intro pos pins s σ H Q I q;show (As o) pos pins s σ H Q I q
inductive Nh:List Expr->List (List Int)->Prop where
 | nil:Nh [] []
 | cons {xs:List Expr}{ns:List Int}{pos:Pos}{es:List Expr}{nss:List (List Int)}:Nt xs ns->ns.length<=sizeLine->Nh es nss->Nh (.List xs pos::es) (ns::nss)
def Yc:List (List Int)->TA
 | []=>G3
 | ns::r=>λσ H Q=>∀p,H p=none->Yc r σ (upd H p (.lst (ns.map V.int))) λxs o=>Q (.ref p::xs) o
def jK (h:Nh es nss):PA X es (Yc nss):=by
 induction h with
 | nil=>show zJ
 | cons C U _ o=>intro pos pins s σ H Q I q;show (MH (aA C) o) pos pins s σ H Q I {by rwa[zA],λp J=>q p J}
end L2
namespace WM
def aj {o:Type} [DecidableEq o]:∀{l₁ l₂:List o},l₁.Nodup->(∀x∈l₁,x∈l₂)->l₁.length<=l₂.length
 | [],_,_,_=>zd _
 | x::r,l₂,h,s=>by
  let{h1,h2}:=ER.mp h;let I:x∈l₂:=s x zo;let U:=aj (l₁:=r) (l₂:=l₂.erase x) h2 λy C=>by let J:y≠x:=λe=>h1 (e ▸ C);show (List.mem_erase_of_ne J).mpr (s y (zr _ C))
  rw[List.length_erase_of_mem I] at U;let:0<l₂.length:=List.length_pos_of_mem I;rw[zj]
  lia
meta def lowTo (n:Nat):List Int:=(List.range n).map λ(i:Nat)=>(i:Int)
def Nm :x∈lowTo n↔0<=x/\x<n:=by
 unfold lowTo;rw[zy];constructor
 . rintro ⟨i,hi,rfl⟩;let:=Et.mp hi
   lia
 . rintro ⟨h0,o⟩;show{x.toNat,Et.mpr (),()}
def nd_len {n:Nat}{l:List Int}(h:l.Nodup)(C:∀x∈l,0<=x/\x<n):l.length<=n:=by let:=aj h (l₂:=lowTo n) λx o=>Nm.mpr (C x o);simpa [lowTo] using this
def Sl (n):(lowTo n).Pairwise (· < ·):=by unfold lowTo;rw[DK];show List.pairwise_lt_range.imp λh=>by lia
abbrev T3:=Int×Int×Int
meta def tl (t:T3):List Int:=[t.1,t.2.1,t.2.2]
structure GW (n:Int)(ts:List T3):Prop where
 n1:1<=n
 n24:n<=24
 len:ts.length<64
 rng:∀t∈ts,0<=t.1/\t.1<t.2.1/\t.2.1<n/\1<=t.2.2/\t.2.2<=99
 dis:ts.Pairwise λs t=>¬ (s.1=t.1/\s.2.1=t.2.1)
def Aw (ts:List T3)(x y l:Int):Prop:=(x,y,l)∈ts\/(y,x,l)∈ts
def Aw.symm (h:Aw ts x y l):Aw ts y x l:=h.elim .inr .inl
def GW.uniq (g:GW n ts)(h:Aw ts x y l)(h':Aw ts x y o):l=o:=by
 let key:∀{ts:List T3},ts.Pairwise (λs t=>¬ (s.1=t.1/\s.2.1=t.2.1))->∀{a b l o:Int},(a,b,l)∈ts->(a,b,o)∈ts->l=o:=by
  intro ts
  induction ts with
  | nil=>intro _ a b l o h;simp at h
  | cons t r C=>
   intro J a b l o h h';let{q,I}:=F1.mp J;rcases zZ.mp h with e | e
   . rcases zZ.mp h' with e' | e'
     . rw[<-e] at e';injection e' with _ e2;injection e2 with _ e3;show e3.symm
     . show absurd (by rw[<-e];show{2}) (q _ e')
   . rcases zZ.mp h' with e' | e'
     . show absurd (by rw[<-e'];show{2}) (q _ e)
     . show C I e e'
 rcases h with h | h <;> rcases h' with h' | h'
 . show key g.dis h h'
 . let:=g.rng _ h;let:=g.rng _ h';simp only at *;lia
 . let:=g.rng _ h;let:=g.rng _ h';simp only at *;lia
 . show key g.dis h h'
def GW.adj (g:GW n ts)(h:Aw ts x y l):0<=x/\x<n/\0<=y/\y<n/\x≠y/\1<=l/\l<=99:=by rcases h with h | h <;> (have:=g.rng _ h;simp only at *;lia)
meta def fd (p:Int):List T3->List (List Int)
 | []=>[]
 | t::r=>(if t.1=p then [[t.2.1,t.2.2]] else [])++(if t.2.1=p then [[t.1,t.2.2]] else [])++fd p r
def Yt (p):∀a b:List T3,fd p (a++b)=fd p a++fd p b
 | [],b=>rfl
 | t::r,b=>by change _++_++fd p (r++b)=_;rw[Yt p r b];simp[fd,List.append_assoc]
def Gk :∀{ts:List T3},k∈fd p ts↔∃y l,k=[y,l]/\Aw ts p y l
 | []=>by simp[fd,Aw]
 | (a,b,c)::r=>by
  let o:=Gk (p:=p) (k:=k) (ts:=r);change k∈_++_++fd p r↔_;rw[Bu,Bu,o];simp only;constructor
  . rintro ((h | h) | ⟨y,l,e,h⟩)
    . split at h
      . rename_i e;simp at h;subst e;show{b,c,h,.inl zo}
      . simp at h
    . split at h
      . rename_i e;simp at h;subst e;show{a,c,h,.inr zo}
      . simp at h
    . show{y,l,e,h.elim (λz=>.inl (zr _ z)) λz=>.inr (zr _ z)}
  . rintro ⟨y,l,e,h⟩;rcases h with h | h
    . rcases zZ.mp h with q | q
      . injection q with q1 q2;injection q2 with q2 q3;subst q1 q2 q3;show .inl (.inl (by simp[e]))
      . show .inr {y,l,e,.inl q}
    . rcases zZ.mp h with q | q
      . injection q with q1 q2;injection q2 with q2 q3;subst q1 q2 q3;show .inl (.inr (by simp[e]))
      . show .inr {y,l,e,.inr q}
def Rn {n:Int}(p:Int):∀{ts:List T3},(∀t∈ts,t.1<t.2.1)->(fd p ts).length<=ts.length
 | [],_=>zL _
 | t::r,h=>by
  let C:=Rn (n:=n) p (ts:=r) λt o=>h t (zr _ o);let h0:=h t zo;change (_++_++fd p r).length<=_;rw[zS,zS,zj];let:(if t.1=p then [[t.2.1,t.2.2]] else ([]:List (List Int))).length+(if t.2.1=p then [[t.1,t.2.2]] else ([]:List (List Int))).length<=1:=by split <;> split <;> simp <;> lia
  lia
meta def hd (k:List Int):Int:=k.getD 0 0
def gJ (g:GW n ts)(p):((fd p ts).map hd).Nodup:=by
 let key:∀(ts:List T3),(∀t∈ts,t.1<t.2.1)->ts.Pairwise (λs t=>¬ (s.1=t.1/\s.2.1=t.2.1))->((fd p ts).map hd).Nodup:=by
  intro ts
  induction ts with
  | nil=>intro _ _;show List.nodup_nil
  | cons t r ih=>
   intro kS hp;let{q,hr}:=F1.mp hp;let h0:=kS t zo;let J:∀t∈r,t.1<t.2.1:=λt U=>kS t (zr _ U);let o:=ih J hr;let no:∀y c,(∀l,Aw r p y l->False)->([y,c]:List Int)=[y,c]->¬ y∈(fd p r).map hd:=by intro y c hn _ hm;let{k,hk,e}:=zy.mp hm;let{y',l,ek,ha}:=Gk.mp hk;subst ek;let:y'=y:=e;subst this;show hn l ha
   change ((_++_++fd p r).map hd).Nodup;by_cases I:t.1=p
   . let C:¬ t.2.1=p:=()
     rw[if_pos I,if_neg C];change (t.2.1::(fd p r).map hd).Nodup;show ER.mpr {no _ t.2.2 (λl ha=>?_) rfl,o};rcases ha with ha | ha
     . show q _ ha {I,0}
     . let:=J _ ha;simp only at this;lia
   . by_cases C:t.2.1=p
     . rw[if_neg I,if_pos C];change (t.1::(fd p r).map hd).Nodup;show ER.mpr {no _ t.2.2 (λl ha=>?_) rfl,o};rcases ha with ha | ha
       . let:=J _ ha;simp only at this;lia
       . show q _ ha {0,C}
     . rwa[if_neg I,if_neg C]
 show key ts (λt U=>(g.rng t U).2.1) g.dis
inductive Ad (ts:List T3):Int->Int->Int->Prop where
 | nil (x:Int):Ad ts x x 0
 | cons {x z y l d:Int}:Aw ts x z l->Ad ts z y d->Ad ts x y (l+d)
def Ad.nn (g:GW n ts)(h:Ad ts x y d):0<=d:=by
 induction h with
 | nil=>show C1 _
 | cons o _ C=>have:=g.adj o;lia
def Ad.one (h:Aw ts x y l):Ad ts x y l:=by let:=Ad.cons h (.nil y);rwa [Int.add_zero] at this
def Ad.trans (h:Ad ts x y d)(h':Ad ts y z e):Ad ts x z (d+e):=by
 induction h with
 | nil=>rwa[CC]
 | cons C _ o=>rw[Int.add_assoc];show .cons C (o h')
def Ad.symm (h:Ad ts x y d):Ad ts y x d:=by
 induction h with
 | nil=>show .nil _
 | cons C _ o=>have:=o.trans (.one C.symm);rwa [Int.add_comm] at this
def Ad.snoc (h:Ad ts x y d)(o:Aw ts y z l):Ad ts x z (d+l):=h.trans (.one o)
def IsD (ts:List T3)(x y d:Int):Prop:=Ad ts x y d/\∀e,Ad ts x y e->d<=e
def A9 (ts:List T3)(x y:Int):Option Int->Prop
 | some d=>IsD ts x y d
 | none=>∀d,¬ Ad ts x y d
def IsD.uniq (h:IsD ts x y d)(h':IsD ts x y e):d=e:=Int.le_antisymm (h.2 _ h'.1) (h'.2 _ h.1)
def A9.uniq (h:A9 ts x y o)(h':A9 ts x y o'):o=o':=by
 cases o with
 | none=>
  cases o' with
  | none=>rfl
  | some e=>show absurd h'.1 (h e)
 | some d=>
  cases o' with
  | none=>show absurd h.1 (h' d)
  | some e=>show congrArg some (IsD.uniq h h')
def IsD.symm (h:IsD ts x y d):IsD ts y x d:={h.1.symm,λe he=>h.2 e he.symm}
def A9.symm (h:A9 ts x y o):A9 ts y x o:=by
 cases o with
 | none=>show λd hd=>h d hd.symm
 | some d=>show IsD.symm h
def Je (g:GW n ts)(x):IsD ts x x 0:={.nil x,λ_ h=>h.nn g}
structure Dj (ts:List T3)(s:Int)(kn wt:Int->Option Int):Prop where
 kd:∀p d,kn p=some d->IsD ts s p d
 wk:∀p d,wt p=some d->kn p=none/\Ad ts s p d
 ord:∀p d q e,kn p=some d->wt q=some e->d<=e
 nb:∀p d q l,kn p=some d->Aw ts p q l->(∃e,kn q=some e)\/∃e,wt q=some e/\e<=d+l
 st:(∃d,kn s=some d)\/wt s=some 0
def Dj.front (g:GW n ts)(h:Dj ts s kn wt)(w:Ad ts s y d):(∃e,kn y=some e)\/∃q e,wt q=some e/\e<=d:=by
 let key:∀{x y d:Int},Ad ts x y d->∀dx,kn x=some dx->(∃e,kn y=some e)\/∃q e,wt q=some e/\e<=dx+d:=by
  intro x y d w
  induction w with
  | nil=>intro dx o;show .inl ⟨dx,o⟩
  | cons C I J=>
   intro dx o
   rename_i x z y l d
   let hl:=g.adj C;let hw:=I.nn g;rcases h.nb x dx z l o C with ⟨e,he⟩ | ⟨e,he,hle⟩
   . let hez:e<=dx+l:=(h.kd z e he).2 _ ((h.kd x dx o).1.snoc C);rcases J e he with q | ⟨q,e',U,hle⟩
     . show .inl q
     . show .inr {q,e',U,()}
   . show .inr {z,e,he,()}
 rcases h.st with ⟨ds,hs⟩ | hs
 . let:ds=0:=IsD.uniq (h.kd s ds hs) (Je g s);subst this;rcases key w 0 hs with q | ⟨q,e,a,b⟩
   . show .inl q
   . show .inr {q,e,a,()}
 . show .inr ⟨s,0,hs,w.nn g⟩
def Dj.pick (g:GW n ts)(h:Dj ts s kn wt)(I:wt p=some d)(hm:∀q e,wt q=some e->d<=e):IsD ts s p d:=by
 let{J,hw}:=h.wk p d I;show{hw,λe he=>?_};rcases h.front g he with ⟨o,q⟩ | ⟨q,o,C,hle⟩
 . rw[J] at q;cases q
 . show Int.le_trans (hm q o C) hle
def Dj.done (g:GW n ts)(h:Dj ts s kn wt)(hw:∀q,wt q=none)(y):A9 ts s y (kn y):=by
 cases e:kn y with
 | some d=>show h.kd y d e
 | none=>
  intro d w;rcases h.front g w with ⟨C,q⟩ | ⟨q,C,o,_⟩
  . rw[e] at q;cases q
  . rw[hw] at o;cases o
structure Dm (ts:List T3)(s p d:Int)(kn wt:Int->Option Int)(seen:Int->Prop):Prop where
 kd:∀q e,kn q=some e->IsD ts s q e
 wk:∀q e,wt q=some e->kn q=none/\Ad ts s q e
 ord:∀q e r f,kn q=some e->wt r=some f->e<=f
 nb:∀q e r l,kn q=some e->Aw ts q r l->(q=p/\¬ seen r)\/(∃f,kn r=some f)\/∃f,wt r=some f/\f<=e+l
 st:∃e,kn s=some e
 pd:kn p=some d
 mx:∀q e,kn q=some e->e<=d
def Dj.enter (g:GW n ts)(h:Dj ts s kn wt)(hp:wt p=some d)(hm:∀q e,wt q=some e->d<=e):
 Dm ts s p d (λq=>if q=p then some d else kn q) (λq=>if q=p then none else wt q) (λ_=>False):=by
 let hd:=h.pick g hp hm;let hk:=(h.wk p d hp).1;show{λq e o=>?_,λq e o=>?_,λq e r f o J=>?_,λq e r l o ha=>?_,?_,if_pos rfl,λq e o=>?_}
 . by_cases C:q=p
   . rw[if_pos C] at o;cases o;rwa[C]
   . rw[if_neg C] at o;show h.kd q e o
 . by_cases C:q=p
   . rw[if_pos C] at o;cases o
   . rw[if_neg C] at o ⊢;show h.wk q e o
 . by_cases I:r=p
   . rw[if_pos I] at J;cases J
   . rw[if_neg I] at J;by_cases C:q=p
     . rw[if_pos C] at o;cases o;show hm r f J
     . rw[if_neg C] at o;show h.ord q e r f o J
 . by_cases C:q=p
   . show .inl {C,λz=>z}
   . rw[if_neg C] at o;by_cases I:r=p
     . show .inr (.inl {d,if_pos I})
     . rcases h.nb q e r l o ha with ⟨f,hf⟩ | ⟨f,hf,hle⟩
       . show .inr (.inl {f,by rwa[if_neg I]})
       . show .inr (.inr {f,by rwa[if_neg I],hle})
 . by_cases U:s=p
   . show{d,if_pos U}
   . rcases h.st with ⟨e,he⟩ | he
     . show{e,by rwa[if_neg U]}
     . -- s waits with 0: then d is 0 too,and p is come to by a way of 0
       let h0:=hm s 0 he;let:=hd.1.nn g;let hd0:d=0:=()
       subst hd0;exfalso;let:∀{x y d:Int},Ad ts x y d->d=0->x=y:=by
        intro x y d w;cases w with
        | nil=>intro _;rfl
        | cons ha w'=>intro e;let:=g.adj ha;let:=w'.nn g;lia
       show U (this hd.1 rfl)
 . by_cases C:q=p
   . rw[if_pos C] at o;cases o;show C1 _
   . rw[if_neg C] at o;show h.ord q e p d o hp
def Dm.skip (h:Dm ts s p d kn wt seen)(C:∃f,kn r=some f):Dm ts s p d kn wt (λx=>seen x\/x=r):=
 {h.kd,h.wk,h.ord,λq e x l I J=>by
  rcases h.nb q e x l I J with ⟨a,b⟩ | c
  . by_cases o:x=r
    . subst o;show .inr (.inl C)
    . show .inl {a,λz=>z.elim b o}
  . show .inr c,h.st,h.pd,h.mx}
def Dm.wait (g:GW n ts)(h:Dm ts s p d kn wt seen)(ha:Aw ts p r l)(hr:kn r=none)
 (hf:(wt r=none/\f=d+l)\/∃e,wt r=some e/\f=min (d+l) e):Dm ts s p d kn (λx=>if x=r then some f else wt x) (λx=>seen x\/x=r):=by
 let hl:=g.adj ha;let hway:Ad ts s r (d+l):=(h.kd p d h.pd).1.snoc ha;let hf1:f<=d+l:=by
  rcases hf with ⟨_,e⟩ | ⟨e,_,e'⟩
  . lia
  . lia
 let hf2:Ad ts s r f:=by
  rcases hf with ⟨_,rfl⟩ | ⟨e,he,rfl⟩
  . show hway
  . by_cases hle:d+l<=e
    . rwa[Int.min_eq_left hle]
    . rw[Int.min_eq_right ()];show (h.wk r e he).2
 let hf3:d<=f:=by
  rcases hf with ⟨_,rfl⟩ | ⟨e,he,rfl⟩
  . lia
  . let:=h.ord p d r e h.pd he;lia
 show{h.kd,λq e C=>?_,λq e x y C hx=>?_,λq e x k C U=>?_,h.st,h.pd,h.mx}
 . by_cases J:q=r
   . rw[if_pos J] at C;cases C;rw[J];show⟨hr,hf2⟩
   . rw[if_neg J] at C;show h.wk q e C
 . by_cases o:x=r
   . rw[if_pos o] at hx;cases hx;let:=h.mx q e C;lia
   . rw[if_neg o] at hx;show h.ord q e x y C hx
 . by_cases o:x=r
   . subst o;show .inr (.inr {f,if_pos rfl,?_});rcases h.nb q e x k C U with ⟨a,_⟩ | ⟨y,I⟩ | ⟨y,I,hle⟩
     . subst a;rw[h.pd] at C;cases C;rwa[g.uniq U ha]
     . rw[hr] at I;cases I
     . rcases hf with ⟨e1,_⟩ | ⟨e1,he1,e2⟩
       . rw[e1] at I;cases I
       . rw[he1] at I;cases I;lia
   . rcases h.nb q e x k C U with ⟨a,b⟩ | c | ⟨y,I,hle⟩
     . show .inl {a,λz=>z.elim b o}
     . show .inr (.inl c)
     . show .inr (.inr {y,by rwa[if_neg o],hle})
def Dm.leave (h:Dm ts s p d kn wt seen)(C:∀r l,Aw ts p r l->seen r):Dj ts s kn wt:=
 {h.kd,h.wk,h.ord,λq e r l I o=>by
  rcases h.nb q e r l I o with ⟨a,b⟩ | c
  . subst a;show absurd (C r l o) b
  . show c,.inl h.st}
inductive CT (ts:List T3)(k:Int):Int->Int->Int->Prop where
 | nil (x:Int):CT ts k x x 0
 | tie {x y l:Int}:Aw ts x y l->CT ts k x y l
 | cons {x z y l d:Int}:Aw ts x z l->z<k->CT ts k z y d->CT ts k x y (l+d)
def CT.way (h:CT ts k x y d):Ad ts x y d:=by
 induction h with
 | nil=>show .nil _
 | tie o=>show .one o
 | cons o _ _ C=>show .cons o C
def Ad.toK (g:GW n ts)(h:Ad ts x y d):CT ts n x y d:=by
 induction h with
 | nil=>show .nil _
 | cons o _ C=>show .cons o (g.adj o).2.2.2.1 C
def CT.split (g:GW n ts)(h:CT ts (k+1) x y d):CT ts k x y d\/∃I C,CT ts k x k I/\CT ts k k y C/\I+C<=d:=by
 induction h with
 | nil=>show .inl (.nil _)
 | tie o=>show .inl (.tie o)
 | cons o hz w J=>
  rename_i x z y l d
  by_cases U:z<k
  . rcases J with q | ⟨I,C,a,b,c⟩
    . show .inl (.cons o U q)
    . show .inr {l+I,C,.cons o U a,b,()}
  . let e:z=k:=()
    subst e;rcases J with q | ⟨I,C,a,b,c⟩
    . show .inr {l,d,.tie o,q,C1 _}
    . let:=a.way.nn g;show .inr {l,C,.tie o,b,()}
def CT.zero (g:GW n ts)(h:CT ts 0 x y d):(x=y/\d=0)\/Aw ts x y d:=by
 cases h with
 | nil=>show .inl {2}
 | tie o=>show .inr o
 | cons o C _=>have:=g.adj o;lia
structure Fw (ts:List T3)(n:Int)(F:Int->Int->Option Int):Prop where
 snd:∀x y d,0<=x->x<n->0<=y->y<n->F x y=some d->Ad ts x y d
def LW (ts:List T3)(n k:Int)(F:Int->Int->Option Int):Prop:=∀x y d,0<=x->x<n->0<=y->y<n->CT ts k x y d->∃e,F x y=some e/\e<=d
def Fw.len (g:GW n ts)(h:Fw ts n F)(c:LW ts n n F)(J:0<=x)(C:x<n)(I:0<=y)(o:y<n):A9 ts x y (F x y):=by
 cases e:F x y with
 | some d=>show{h.snd x y d J C I o e,λU he=>?_};let{f,hf,hle}:=c x y U J C I o (he.toK g);rw[e] at hf;cases hf;show hle
 | none=>intro d hd;let{f,hf,_}:=c x y d J C I o (hd.toK g);rw[e] at hf;cases hf
meta def AY (kn:List (Option Int))(p:Int):Option Int:=if 0<=p then kn.getD p.toNat none else none
meta def Ce (kn:List (Option Int)):Nat:=(kn.filter Option.isSome).length
def Uu (kn):Ce kn<=kn.length:=C7 _ _
def Zi (h0:0<=p)(I:p.toNat<kn.length)(q):AY (kn.set p.toNat o) q=if q=p then o else AY kn q:=by
 unfold AY;by_cases C:0<=q
 . rw[if_pos C,if_pos C,zE,zE,List.getElem?_set];by_cases e:q=p
   . subst e;simp[I]
   . let:¬ p.toNat=q.toNat:=()
     rw[if_neg this,if_neg e]
 . rw[if_neg C,if_neg (),if_neg C]
def Ud:∀{kn:List (Option Int)}{j:Nat}{d:Int},kn[j]?=some none->Ce (kn.set j (some d))=Ce kn+1
 | [],_,_,h=>by simp at h
 | o::r,0,d,h=>by
  let:o=none:=by simpa using h
  subst this;simp[Ce,List.set]
 | o::r,j+1,d,h=>by
  let C:=Ud (kn:=r) (j:=j) (d:=d) (by simpa using h);unfold Ce at C ⊢;rw[List.set_cons_succ];cases o with
  | none=>rwa[Nj (by simp),Nj (by simp)]
  | some x=>rw[Np (by simp),Np (by simp),zj,zj,C]
def i5 (n):Ce (List.replicate n none)=0:=by unfold Ce;rw[List.filter_replicate];simp
def OG (n)(q):AY (List.replicate n none) q=none:=by
 unfold AY;split
 . rw[zE,ND];split <;> rfl
 . rfl
structure Dl (ts:List T3)(n s:Int)(kn:List (Option Int))(wt:Int->Option Int):Prop where
 dj:Dj ts s (AY kn) wt
 ln:kn.length=n.toNat
 bk:∀p d,AY kn p=some d->d<=99*Ce kn
 bw:∀p e,wt p=some e->e<=99*Ce kn/\0<=p/\p<n
structure Dn (ts:List T3)(n s p d:Int)(kn:List (Option Int))(wt:Int->Option Int)(seen:Int->Prop):Prop where
 dm:Dm ts s p d (AY kn) wt seen
 ln:kn.length=n.toNat
 bk:∀q e,AY kn q=some e->e<=99*Ce kn
 bd:d+99<=99*Ce kn
 bw:∀q e,wt q=some e->e<=99*Ce kn/\0<=q/\q<n
def Dl.start (g:GW n ts)(h0:0<=s)(o:s<n):Dl ts n s (List.replicate n.toNat none) (λq=>if q=s then some 0 else none):=by
 show{{λp d h=>?_,λp d h=>?_,λp d q e h=>?_,λp d q l h=>?_,.inr (if_pos rfl)},Cq,λp d h=>?_,λp e h=>?_}
 . rw[OG] at h;cases h
 . by_cases e:p=s
   . rw[if_pos e] at h;cases h;rw[e];show{OG _ _,.nil s}
   . rw[if_neg e] at h;cases h
 . rw[OG] at h;cases h
 . rw[OG] at h;cases h
 . rw[OG] at h;cases h
 . by_cases e:p=s
   . rw[if_pos e] at h;cases h;rw[e,i5];show{by simp,h0,o}
   . rw[if_neg e] at h;cases h
def Dl.enter (g:GW n ts)(h:Dl ts n s kn wt)(U:wt p=some d)(hm:∀q e,wt q=some e->d<=e):
 kn[p.toNat]?=some none/\0<=p/\p<n/\Ce (kn.set p.toNat (some d))=Ce kn+1/\Dn ts n s p d (kn.set p.toNat (some d)) (λq=>if q=p then none else wt q) (λ_=>False):=by
 let{hb,h0,h1}:=h.bw p d U;let hl:=h.ln;let J:p.toNat<kn.length:=()
 let hk:=(h.dj.wk p d U).1;let hn:kn[p.toNat]?=some none:=by unfold AY at hk;rw[if_pos h0,zE,zC J] at hk;rw[zC J];show congrArg some hk
 let I:=Ud (d:=d) hn;let ef:AY (kn.set p.toNat (some d))=λq=>if q=p then some d else AY kn q:=funext λq=>Zi h0 J q
 show{hn,h0,h1,I,{?_,by rwa[List.length_set],λq e o=>?_,by rw[I];lia,λq e o=>?_}}
 . rw[ef];show h.dj.enter g U hm
 . rw[ef] at o;simp only at o;rw[I];by_cases C:q=p
   . rw[if_pos C] at o;cases o;lia
   . rw[if_neg C] at o;let:=h.bk q e o;lia
 . by_cases C:q=p
   . rw[if_pos C] at o;cases o
   . rw[if_neg C] at o;let:=h.bw q e o;rw[I];show{(),this.2}
def Dn.skip (h:Dn ts n s p d kn wt seen)(o:AY kn r=some f):Dn ts n s p d kn wt (λx=>seen x\/x=r):=
 {h.dm.skip ⟨f,o⟩,h.ln,h.bk,h.bd,h.bw}
def Dn.wait (g:GW n ts)(h:Dn ts n s p d kn wt seen)(C:Aw ts p r l)(J:AY kn r=none):
 Dn ts n s p d kn (λx=>if x=r then some (if (wt r).getD (d+l)<d+l then (wt r).getD (d+l) else d+l) else wt x) (λx=>seen x\/x=r):=by
 let hl:=g.adj C;let hf:(wt r=none/\(if (wt r).getD (d+l)<d+l then (wt r).getD (d+l) else d+l)=d+l)\/∃e,wt r=some e/\(if (wt r).getD (d+l)<d+l then (wt r).getD (d+l) else d+l)=min (d+l) e:=by
  cases e:wt r with
  | none=>show .inl {0,by simp}
  | some x=>show .inr {x,0,?_};simp only[Option.getD_some];split <;> lia
 show{h.dm.wait g C J hf,h.ln,h.bk,h.bd,λq e o=>?_};by_cases I:q=r
 . rw[if_pos I] at o;let hd:=h.bd;let U:=zT o;show{?_,(),()};split at U <;> lia
 . rw[if_neg I] at o;show h.bw q e o
def Dn.leave (h:Dn ts n s p d kn wt seen)(o:∀r l,Aw ts p r l->seen r):Dl ts n s kn wt:=
 {h.dm.leave o,h.ln,h.bk,h.bw}
structure Fq (ts:List T3)(n s:Int)(kn:List (Option Int)):Prop where
 ln:kn.length=n.toNat
 len:∀y,0<=y->y<n->A9 ts s y (AY kn y)
 bd:∀o∈kn,∀d,o=some d->0<=d/\d<=2376
def Dl.done (g:GW n ts)(h:Dl ts n s kn wt)(hw:∀q,wt q=none):Fq ts n s kn:=by
 show{h.ln,λy _ _=>h.dj.done g hw y,λo C d e=>?_};let{j,I,J}:=CP C;let hf:AY kn (j:Int)=some d:=by unfold AY;rw[if_pos (),zE,Fs,zC I,J,e];rfl
 let h1:=h.bk _ _ hf;let h2:=(h.dj.kd _ _ hf).1.nn g;let U:=Uu kn;let:=h.ln;let:=g.n24
 lia
meta def FL:Option Int->Option Int->Option Int
 | some a,some b=>some (a+b)
 | _,_=>none
meta def EN:Option Int->Option Int->Option Int
 | none,o=>o
 | some a,none=>some a
 | some a,some b=>some (if b<a then b else a)
def CT.mono (h:CT ts k x y d)(J:k<=k'):CT ts k' x y d:=by
 induction h with
 | nil=>show .nil _
 | tie o=>show .tie o
 | cons o I _ C=>show .cons o () C
structure Fm (ts:List T3)(n k:Int)(F:Int->Int->Option Int)(done:Int->Int->Prop):Prop where
 fw:Fw ts n F
 cv:LW ts n k F
 dn:∀x y d,0<=x->x<n->0<=y->y<n->done x y->CT ts (k+1) x y d->∃e,F x y=some e/\e<=d
def gK (h:(∃e,o=some e/\e<=d)\/∃e,p=some e/\e<=d):∃e,EN o p=some e/\e<=d:=by
 rcases h with ⟨e,rfl,h⟩ | ⟨e,rfl,h⟩
 . cases p with
   | none=>show{e,0,h}
   | some b=>show{1,by split <;> lia}
 . cases o with
   | none=>show{e,0,h}
   | some a=>show{1,by split <;> lia}
def fF (h:EN o p=some d):o=some d\/p=some d:=by
 cases o with
 | none=>show .inr h
 | some a=>
  cases p with
  | none=>show .inl h
  | some b=>
   let e:(if b<a then b else a)=d:=zT h
   split at e
   . show .inr (by rw[e])
   . show .inl (by rw[e])
def eS (h:FL o p=some d):∃a b,o=some a/\p=some b/\a+b=d:=by
 cases o with
 | none=>cases h
 | some a=>
  cases p with
  | none=>cases h
  | some b=>show{a,b,2,zT h}
def Fm.step (g:GW n ts)(h:Fm ts n k F done)(ha:0<=a)(lG:a<n)(hb:0<=b)(lH:b<n)(hk:0<=k)(mW:k<n):
 Fm ts n k (λx y=>if x=a/\y=b then EN (F a b) (FL (F a k) (F k b)) else F x y) (λx y=>done x y\/(x=a/\y=b)):=by
 let snd:∀d,EN (F a b) (FL (F a k) (F k b))=some d->Ad ts a b d:=λd hd=>by
  rcases fF hd with e | e
  . show h.fw.snd a b d ha lG hb lH e
  . let{d1,d2,e1,e2,0}:=eS e;show (h.fw.snd a k d1 ha lG hk mW e1).trans (h.fw.snd k b d2 hk mW hb lH e2)
 let o:∀d,CT ts (k+1) a b d->∃e,EN (F a b) (FL (F a k) (F k b))=some e/\e<=d:=λd w=>by
  show gK ?_;rcases w.split g with q | ⟨d1,d2,q1,q2,hle⟩
  . show .inl (h.cv a b d ha lG hb lH q)
  . let{e1,f1,l1}:=h.cv a k d1 ha lG hk mW q1;let{e2,f2,l2}:=h.cv k b d2 hk mW hb lH q2;show .inr {e1+e2,by rw[f1,f2];rfl,()}
 show{{λx y d U I J C e=>?_},λx y d U I J C w=>?_,λx y d U I J C hd w=>?_}
 . by_cases c:x=a/\y=b
   . rw[if_pos c] at e;rw[c.1,c.2];show snd d e
   . rw[if_neg c] at e;show h.fw.snd x y d U I J C e
 . by_cases c:x=a/\y=b
   . rw[if_pos c];rw[c.1,c.2] at w;show o d (w.mono ())
   . rw[if_neg c];show h.cv x y d U I J C w
 . by_cases c:x=a/\y=b
   . rw[if_pos c];rw[c.1,c.2] at w;show o d w
   . rw[if_neg c];show h.dn x y d U I J C (hd.resolve_right c) w
def Fm.enter (h:Fw ts n F)(c:LW ts n k F):Fm ts n k F (λ_ _=>False):={h,c,λ_ _ _ _ _ _ _ z=>z.elim}
def Fm.leave (h:Fm ts n k F done)(hd:∀x y,0<=x->x<n->0<=y->y<n->done x y):Fw ts n F/\LW ts n (k+1) F:=
 {h.fw,λx y d J C I o w=>h.dn x y d J C I o (hd x y J C I o) w}
def Ft (ts:List T3)(n:Int)(F:Int->Int->Option Int):Prop:=∀x y d,0<=x->x<n->0<=y->y<n->(F x y=some d↔(x=y/\d=0)\/Aw ts x y d)
def Ft.fw (g:GW n ts)(h:Ft ts n F):Fw ts n F/\LW ts n 0 F:=by
 show{{λx y d J C I o e=>?_},λx y d J C I o w=>?_}
 . rcases (h x y d J C I o).mp e with ⟨rfl,rfl⟩ | ha
   . show .nil x
   . show .one ha
 . show{d,(h x y d J C I o).mpr ?_,C1 _};rcases w.zero g with q | q
   . show .inl q
   . show .inr q
def Ft.nil (n)(h:∀x y,0<=x->x<n->0<=y->y<n->F x y=if x=y then some 0 else none):Ft [] n F:=λx y d J C I o=>by
 rw[h x y J C I o];constructor
 . intro e;split at e
   . rename_i c;show .inl {c,(zT e).symm}
   . cases e
 . rintro (⟨rfl,rfl⟩ | ha)
   . rw[if_pos rfl]
   . rcases ha with z | z <;> simp at z
def Ft.put (g:GW n (pre++(a,b,l)::post))(h:Ft pre n F):
 Ft (pre++[(a,b,l)]) n (λx y=>if x=b/\y=a then some l else if x=a/\y=b then some l else F x y):=λx y d hx kZ hy U=>by
 let hr:=g.rng (a,b,l) (by simp);simp only at hr;let sub:∀{x y d:Int},Aw pre x y d->Aw (pre++(a,b,l)::post) x y d:=λz=>z.elim (λz=>.inl (Gj _ z)) λz=>.inr (Gj _ z);let own:Aw (pre++(a,b,l)::post) a b l:=.inl (by simp);let kg:Aw (pre++[(a,b,l)]) x y d↔Aw pre x y d\/(x=a/\y=b/\d=l)\/(x=b/\y=a/\d=l):=by
  unfold Aw;simp only[Bu,zf,Prod.mk.injEq];constructor
  . rintro ((z | z) | (z | z))
    . show .inl (.inl z)
    . show .inr (.inl z)
    . show .inl (.inr z)
    . show .inr (.inr ⟨z.2.1,z.1,z.2.2⟩)
  . rintro ((z | z) | z | z)
    . show .inl (.inl z)
    . show .inr (.inl z)
    . show .inl (.inr z)
    . show .inr (.inr ⟨z.2.1,z.1,z.2.2⟩)
 rw[kg];change (if x=b/\y=a then some l else if x=a/\y=b then some l else F x y)=some d↔_
 by_cases I:x=b/\y=a
 . rw[if_pos I];constructor
   . intro e;show .inr (.inr (.inr {I.1,I.2,(zT e).symm}))
   . rintro (⟨e,_⟩ | z | ⟨e1,e2,o⟩ | ⟨_,_,o⟩)
     . lia
     . let J:=sub z;rw[I.1,I.2] at J;rw[g.uniq J own.symm]
     . rw[o]
     . rw[o]
 . rw[if_neg I];by_cases C:x=a/\y=b
   . rw[if_pos C];constructor
     . intro e;show .inr (.inr (.inl {C.1,C.2,(zT e).symm}))
     . rintro (⟨e,_⟩ | z | ⟨e1,e2,o⟩ | ⟨_,_,o⟩)
       . lia
       . let J:=sub z;rw[C.1,C.2] at J;rw[g.uniq J own]
       . rw[o]
       . rw[o]
   . rw[if_neg C,h x y d hx kZ hy U];constructor
     . rintro (z | z)
       . show .inl z
       . show .inr (.inl z)
     . rintro (z | z | z | z)
       . show .inl z
       . show .inr z
       . show absurd ⟨z.1,z.2.1⟩ C
       . show absurd ⟨z.1,z.2.1⟩ I
meta def Cu (M:CV)(x y:Int):Option Int:=if 0<=x then AY (M.getD x.toNat []) y else none
meta def EX (M:CV)(a b:Int)(v:Option Int):List (List (Option Int)):=M.set a.toNat ((M.getD a.toNat []).set b.toNat v)
structure DQ (n:Int)(M:CV):Prop where
 ln:M.length=n.toNat
 rw_:∀r∈M,r.length=n.toNat
def DQ.row (h:DQ n M)(J:0<=a)(C:a<n):∃r,M[a.toNat]?=some r/\M.getD a.toNat []=r/\r.length=n.toNat:=by
 let I:=h.ln;let o:a.toNat<M.length:=()
 show{M[a.toNat],zC o,by rw[zE,zC o];rfl,h.rw_ _ (List.getElem_mem o)}
def DQ.set (h:DQ n M)(I:0<=a)(C:a<n):DQ n (EX M a b v):=by
 let{r,h1,U,J}:=h.row I C;show{by unfold EX;rw[List.length_set];show h.ln,λq o=>?_};unfold EX at o;rcases List.mem_or_eq_of_mem_set o with z | z
 . show h.rw_ q z
 . rw[z,List.length_set,U,J]
def Vj (h:DQ n M)(U:0<=a)(I:a<n)(J:0<=b)(lH:b<n)(C:0<=x)(kZ:x<n):
 Cu (EX M a b v) x y=if x=a/\y=b then v else Cu M x y:=by
 let{r,h1,h2,h3}:=h.row U I;let hl:=h.ln;unfold Cu EX;rw[if_pos C,if_pos C,zE,List.getElem?_set];by_cases e:x=a
 . subst e;rw[if_pos rfl,if_pos (),Option.getD_some,h2,Zi J ()];by_cases o:y=b
   . rw[if_pos o,if_pos {0,o}]
   . rw[if_neg o,if_neg λz=>o z.2]
 . rw[if_neg (),if_neg λz=>e z.1,<-zE]
def Fm.congr (h:Fm ts n k F done)(e:∀x y,0<=x->x<n->0<=y->y<n->G x y=F x y)(hd:∀x y,0<=x->x<n->0<=y->y<n->done' x y->done x y):Fm ts n k G done':=
 {{λx y d a b c o z=>h.fw.snd x y d a b c o (by rwa[<-e x y a b c o])},λx y d a b c o w=>by rw[e x y a b c o];show h.cv x y d a b c o w,λx y d a b c o z w=>by rw[e x y a b c o];show h.dn x y d a b c o (hd x y a b c o z) w}
def Ft.congr (h:Ft ts n F)(e:∀x y,0<=x->x<n->0<=y->y<n->G x y=F x y):Ft ts n G:=λx y d a b c o=>by rw[e x y a b c o];show h x y d a b c o
def Rows (ts:List T3)(n:Int)(M:CV):Prop:=M.length=n.toNat/\∀x,0<=x->x<n->Fq ts n x (M.getD x.toNat [])
def OR (g:GW n ts)(x y)(hx:0<=x)(kZ:x<n)(d)(h:IsD ts x y d):0<=d/\d<=2376:=by
 let ex:∀(m:Nat)(o:List (Option Int))(I:Int->Option Int),Dl ts n x o I->n.toNat-Ce o<=m->(∃L:List Int,∀q e,I q=some e->q∈L)->∃kn',Fq ts n x kn':=by
  intro m
  induction m with
  | zero=>
   intro o I D hm _;show{o,D.done g λq=>?_};cases e:I q with
   | none=>rfl
   | some d=>
    let hk:=(D.dj.wk q d e).1;let{_,h0,h1}:=D.bw q d e;let hl:=D.ln;let kS:q.toNat<o.length:=()
    let hn:o[q.toNat]?=some none:=by unfold AY at hk;rw[if_pos h0,zE,zC kS] at hk;rw[zC kS];show congrArg some hk
    let h1:=Ud (d:=0) hn;let h2:=Uu (o.set q.toNat (some 0));rw[List.length_set] at h2
    lia
  | succ m ih=>
   intro o I D hm hL;by_cases hw:∀q,I q=none
   . show{o,D.done g hw}
   . -- pick the nearest
     let{L,hL}:=hL;let pick:∀L:List Int,(∃q∈L,(I q).isSome)->∃p d,I p=some d/\∀q∈L,∀e,I q=some e->d<=e:=by
      intro L
      induction L with
      | nil=>rintro ⟨q,hq,_⟩;simp at hq
      | cons z L ihL=>
       rintro ⟨q,hq,hs⟩;by_cases hr:∃q∈L,(I q).isSome
       . let{p,d,hp,lD}:=ihL hr;cases ez:I z with
         | none=>
          show{p,d,hp,λq' l9 e he=>?_};rcases zZ.mp l9 with rfl | l9
          . rw[ez] at he;cases he
          . show lD q' l9 e he
         | some dz=>
          by_cases hz:dz<d
          . show{z,dz,ez,λq' l9 e he=>?_};rcases zZ.mp l9 with rfl | l9
            . rw[ez] at he;cases he;show C1 _
            . let:=lD q' l9 e he;lia
          . show{p,d,hp,λq' l9 e he=>?_};rcases zZ.mp l9 with rfl | l9
            . rw[ez] at he;cases he;lia
            . show lD q' l9 e he
       . rcases zZ.mp hq with rfl | hq
         . let{d,hd}:=N5.mp hs;show{q,d,hd,λq' l9 e he=>?_};rcases zZ.mp l9 with rfl | l9
           . rw[hd] at he;cases he;show C1 _
           . show absurd {q',l9,by rw[he];rfl} hr
         . show absurd ⟨q,hq,hs⟩ hr
     let{p,d,hp,lD}:=pick L (by
      apply F9;intro mQ;show hw λq=>?_;cases e:I q with
      | none=>rfl
      | some d=>show absurd {q,hL q d e,by rw[e];rfl} mQ)
     let{hn,h0,h1,hc,N}:=D.enter g hp (λq e he=>lD q (hL q e he) e he);let all:∀(ns:List (Int×Int))(mO:Int->Option Int)(seen:Int->Prop),Dn ts n x p d (o.set p.toNat (some d)) mO seen->(∃L:List Int,∀q e,mO q=some e->q∈L)->(∀r l,(r,l)∈ns->Aw ts p r l) ->
      ∃(U:Int->Option Int)(oW:Int->Prop),Dn ts n x p d (o.set p.toNat (some d)) U oW/\(∃L:List Int,∀q e,U q=some e->q∈L)/\(∀r,seen r->oW r)/\∀r l,(r,l)∈ns->oW r:=by
      intro ns
      induction ns with
      | nil=>intro mO seen N hL _;show{mO,seen,N,hL,λ_ z=>z,λr l z=>by simp at z}
      | cons t ns ih'=>
       intro mO seen N J ha;let{r,l}:=t;let har:=ha r l zo;let lG:∀r l,(r,l)∈ns->Aw ts p r l:=λr l z=>ha r l (zr _ z);cases ek:AY (o.set p.toNat (some d)) r with
       | some f=>
        let{w2,s2,N2,L2,m2,a2}:=ih' mO _ (N.skip ek) J lG;show{w2,s2,N2,L2,λq z=>m2 q (.inl z),λq l' z=>?_};rcases zZ.mp z with e | z
        . cases e;show m2 _ (.inr rfl)
        . show a2 q l' z
       | none=>
        let{L',J}:=J;let{w2,s2,N2,L2,m2,a2}:=ih' _ _ (N.wait g har ek) {r::L',λq e he=>by
         by_cases C:q=r
         . rw[C];show zo
         . rw[if_neg C] at he;show zr _ (J q e he)} lG
        show{w2,s2,N2,L2,λq z=>m2 q (.inl z),λq l' z=>?_};rcases zZ.mp z with e | z
        . cases e;show m2 _ (.inr rfl)
        . show a2 q l' z
     let nbr:∃ns:List (Int×Int),(∀r l,(r,l)∈ns->Aw ts p r l)/\∀r l,Aw ts p r l->(r,l)∈ns:=by
      show{(ts.filterMap λt=>if t.1=p then some (t.2.1,t.2.2) else none)++(ts.filterMap λt=>if t.2.1=p then some (t.1,t.2.2) else none),λr l z=>?_,λr l z=>?_}
      . rcases Bu.mp z with z | z
        . let{{a,b,c},ht,e}:=Gu.mp z;split at e
          . rename_i c1
            let c1':a=p:=c1;let C:=zT e;simp only[Prod.mk.injEq] at C;let{2}:=C;subst c1';show .inl ht
          . cases e
        . let{{a,b,c},ht,e}:=Gu.mp z;split at e
          . rename_i c1
            let c1':b=p:=c1;let C:=zT e;simp only[Prod.mk.injEq] at C;let{2}:=C;subst c1';show .inr ht
          . cases e
      . rcases z with z | z
        . show Gj _ (Gu.mpr {_,z,by simp})
        . show zq _ (Gu.mpr {_,z,by simp})
     let{ns,hns1,hns2}:=nbr;let{w2,s2,N2,L2,_,a2}:=all ns _ _ N {L,λq e he=>by
      by_cases C:q=p
      . rw[if_pos C] at he;cases he
      . rw[if_neg C] at he;show hL q e he} hns1
     show ih _ _ (N2.leave λr l ha=>a2 r l (hns2 r l ha)) () L2
 let{o,K}:=ex n.toNat _ _ (Dl.start g hx kZ) () {[x],λq e he=>by
  by_cases C:q=x
  . simp[C]
  . rw[if_neg C] at he;cases he}
 let hy:(0<=y/\y<n)\/y=x:=by
  let:∀{x y d:Int},Ad ts x y d->x=y\/(0<=y/\y<n):=by
   intro x y d w
   induction w with
   | nil=>show .inl rfl
   | cons ha _ ih=>
    rcases ih with rfl | q
    . let:=g.adj ha;show .inr ⟨this.2.2.1,this.2.2.2.1⟩
    . show .inr q
  rcases this h.1 with e | q
  . show .inr e.symm
  . show .inl q
 let lC:0<=y/\y<n:=hy.elim id λe=>by lia
 let hl:=K.len y lC.1 lC.2;let hlen:=K.ln;let kS:y.toNat<o.length:=()
 let e1:AY o y=o[y.toNat]:=by unfold AY;rw[if_pos lC.1,zE,zC kS];rfl
 let e2:=A9.uniq hl (show A9 ts x y (some d) from h);show K.bd _ (List.getElem_mem kS) d (by rw[<-e1];show e2)
def gQ (g:GW n ts)(h:DQ n M)(f:Fw ts n (Cu M))(c:LW ts n n (Cu M)):Rows ts n M:=by
 show{h.ln,λx C I=>?_};let{r,h1,U,h3}:=h.row C I;let e:∀y,Cu M x y=AY r y:=λy=>by unfold Cu;rw[if_pos C,U]
 rw[U];show{h3,λy hy lC=>by rw[<-e];show f.len g c C I hy lC,λo ho d ed=>?_};let{j,hj,ej}:=CP ho;let hf:AY r (j:Int)=some d:=by unfold AY;rw[if_pos (),zE,Fs,zC hj,ej,ed];rfl
 let J:=f.len g c C I (y:=(j:Int)) () ();rw[e,hf] at J;show OR g x j C I d J
def Be (ts:List T3)(x y p:Int):Prop:=∃a b,IsD ts x p a/\IsD ts p y b/\IsD ts x y (a+b)
def B8 (ts:List T3)(x y p:Int):Prop:=∃l b,Aw ts x p l/\IsD ts p y b/\IsD ts x y (l+b)
def Be.symm (h:Be ts x y p):Be ts y x p:=by let{a,b,I,C,o}:=h;show{b,a,C.symm,I.symm,by rw[Int.add_comm];show o.symm}
def Ad.zero (g:GW n ts)(h:Ad ts x y 0):x=y:=by
 let:∀{x y d:Int},Ad ts x y d->d=0->x=y:=by
  intro x y d w;cases w with
  | nil=>intro _;rfl
  | cons C o=>intro e;let:=g.adj C;let:=o.nn g;lia
 show this h rfl
def Ad.in_ (g:GW n ts)(w:Ad ts x y d)(I:0<=x)(o:x<n):0<=y/\y<n:=by
 induction w with
 | nil=>show⟨I,o⟩
 | cons J _ C=>have:=g.adj J;show C this.2.2.1 this.2.2.2.1
def Be.self (g:GW n ts)(h:IsD ts x y d):Be ts x y x:=⟨0,d,Je g x,h,by rwa[CC]⟩
def JO (g:GW n ts)(h:IsD ts x y d):d=0↔x=y:=by
 constructor
 . intro e;subst e;show h.1.zero g
 . intro e;subst e;show IsD.uniq h (Je g x)
def Be.trans (h:Be ts x y p)(h':Be ts x p q):Be ts x y q:=by
 let{a,b,h1,U,C}:=h;let{c,e,o,J,I}:=h';let e1:a=c+e:=IsD.uniq h1 I;show{c,e+b,o,{J.1.trans U.1,λf hf=>?_},?_}
 . let:=C.2 _ (o.1.trans hf)
   lia
 . rwa[e1,Int.add_assoc] at C
def Ad.least (g:GW n ts)(h:Ad ts x y d):∃e,IsD ts x y e:=by
 let:∀(m:Nat)(d:Int),Ad ts x y d->d.toNat<=m->∃e,IsD ts x y e:=by
  intro m
  induction m with
  | zero=>
   intro d hd hm;let:=hd.nn g;let e:d=0:=()
   subst e;show⟨0,hd,λf hf=>hf.nn g⟩
  | succ m C=>
   intro d hd hm;by_cases o:∃f,Ad ts x y f/\f<d
   . let{f,hf,I}:=o;let:=hf.nn g;show C f hf ()
   . show{d,hd,λf hf=>?_};apply F9;intro J;show o {f,hf,()}
 show this _ d h (zL _)
def B8.exists (g:GW n ts)(h:IsD ts x y d)(I:x≠y):∃p,B8 ts x y p:=by
 let{hw,C}:=h;cases hw with
 | nil=>show absurd rfl I
 | cons o w=>
  rename_i z l e
  let{f,hf}:=w.least g;let U:=hf.2 _ w;let J:=C _ (.cons o hf.1);let:f=e:=()
  subst this;show{z,l,f,o,hf,.cons o hf.1,C}
def B8.ne (g:GW n ts)(h:B8 ts x y p):x≠y:=by
 let{l,b,C,o,hd}:=h;intro e;subst e;let:=IsD.uniq hd (Je g x);let:=g.adj C;let:=o.1.nn g
 lia
def B8.btw (g:GW n ts)(h:Be ts x y p)(h':B8 ts p y q):Be ts x y q:=by
 let{a,b,U,J,C}:=h;let{l,c,I,o,hd}:=h';let e1:b=l+c:=IsD.uniq J hd;show{a+l,c,{U.1.snoc I,λf hf=>?_},o,?_}
 . let:=C.2 _ (hf.trans o.1)
   lia
 . rwa[e1,<-Int.add_assoc] at C
def A9.via (J:IsD ts x p a)(I:IsD ts x y d)(C:A9 ts p y o):∃b,o=some b/\d<=a+b:=by
 cases o with
 | none=>show absurd (J.1.symm.trans I.1) (C _)
 | some b=>show{b,0,I.2 _ (J.1.trans C.1)}
inductive IB (ts:List T3):List Int->Int->Prop where
 | one (x:Int):IB ts [x] 0
 | snoc {ps:List Int}{x y s l:Int}:IB ts (ps++[x]) s->Aw ts x y l->IB ts (ps++[x]++[y]) (s+l)
def IB.longs (h:IB ts ps s):∃ls:List Int,ls.length+1=ps.length/\ls.sum=s/\∀q x y,ps[q]?=some x->ps[q+1]?=some y->∃l,ls[q]?=some l/\Aw ts x y l:=by
 induction h with
 | one x=>show{[],2,λq a b _ h=>by simp at h}
 | snoc _ ha ih=>
  rename_i ps x y s l hs
  let{ls,h1,h2,h3}:=ih;let hl:ls.length=ps.length:=by simpa using h1
  show{ls++[l],by simp[hl],by rw[List.sum_append,h2];simp,λq a b C o=>?_};by_cases hq:q+1<(ps++[x]).length
  . rw[zV ()] at C;rw[zV hq] at o;let{l',U,J}:=h3 q a b C o;let kS:q<ls.length:=(zH.mp U).1;show{l',by rwa[zV kS],J}
  . let I:q+1<(ps++[x]++[y]).length:=(zH.mp o).1;simp only[zS,zj,Hn] at hq I;let e:q=ps.length:=()
    subst e;let U:a=x:=by rw[zV (by simp),zW (zL _)] at C;simpa using C.symm
    let J:b=y:=by rw[zW (by simp)] at o;simpa using o.symm
    subst U J;show{l,by rw[zW ()];simp[hl],ha}
def IB.ne (h:IB ts ps s):ps≠[]:=by
 cases h with
 | one x=>simp
 | snoc _ _=>simp
structure Ds (ts:List T3)(n x y D:Int)(found:List Int)(s z r:Int):Prop where
 st:IB ts found s
 ls:∃pre,found=pre++[z]
 rm:IsD ts z y r
 sm:s+r=D
 bt:Be ts x y z
 nd:found.Nodup
 fa:∀f∈found,0<=f/\f<n/\∃rf,IsD ts f y rf/\r<=rf
def Ds.start (g:GW n ts)(C:0<=x)(o:x<n)(h:IsD ts x y D):Ds ts n x y D [x] 0 x D:=
 {.one x,{[],0},h,(),Be.self g h,by simp,λf hf=>by rw[zf.mp hf];show{C,o,D,h,C1 _}}
def Ds.step (g:GW n ts)(h:Ds ts n x y D found s z r)(U:B8 ts z y p):∃s' r',Ds ts n x y D (found++[p]) s' p r':=by
 let{l,b,ha,o,hd}:=id U;let e:r=l+b:=IsD.uniq h.rm hd;let J:=g.adj ha;let{pre,mS}:=h.ls;show{s+l,b,?_,{found,0},o,by let:=h.sm;lia,B8.btw g h.bt U,?_,λf hf=>?_}
 . let:=h.st;rw[mS] at this ⊢;show .snoc this ha
 . rw[List.nodup_append];show{h.nd,by simp,λa lG b' lH=>?_};rw[zf.mp lH];intro e2;subst e2;let{3,I,C,h2}:=h.fa a lG;let:=IsD.uniq C o
   lia
 . rcases Bu.mp hf with q | q
   . let{a,b',I,C,h2}:=h.fa f q;show{a,b',I,C,()}
   . rw[zf.mp q];show{J.2.2.1,J.2.2.2.1,b,o,C1 _}
def Ds.len (h:Ds ts n x y D found s z r)(o:0<=n):(found.length:Int)<=n:=by
 let:=nd_len (n:=n.toNat) h.nd λf hf=>by
  let{a,b,_}:=h.fa f hf
  lia
 lia
def Ds.in_ (h:Ds ts n x y D found s z r):0<=z/\z<n:=by let{pre,e}:=h.ls;let{a,b,_}:=h.fa z (by rw[e];simp);show⟨a,b⟩
end WM
namespace L2
open PySem PySem.Spec PyProof.Rows
meta def HZ:KeyOrd:={Int,λa b=>decide (a<b),λa=>za (),λa b c I C=>zY (by let:=of_decide_eq_true I;let:=of_decide_eq_true C;lia),
 λa b c h=>by
  let h':a<c:=of_decide_eq_true h;by_cases o:a<b
  . show .inl (zY o)
  . show .inr (zY ()),
 λa b I C=>by let:=of_decide_eq_false I;let:=of_decide_eq_false C;lia}
def bH (o:IntsAre vs ns)(U:2<=vs.length):
 SortT.Asks prog w A s a vs (O:=HZ) (λi=>ns.getD i 0) oneType':=by
 let hl:=o.length;let at_:∀i,i<vs.length->∃t,vs.getD i Value.none=.int (ns.getD i 0) t:=λi hi=>by obtain⟨n,hn⟩:∃n,ns[i]?=some n:={_,zC ()};let{t,I}:=o.get i n hn;show{t,by rw[zE,zE,I,hn];rfl}
 show{λh' Q E C q=>?_,λh' i j Q E C hi J q=>?_}
 . rw[ksk_kind (keys:=vs.toArray) (kz:=ns) (by simpa using o) (by simpa using U)];show zI q
 . let{t,e1}:=at_ i hi;let{u,e2}:=at_ j J;rw[e1,e2];show PySem.W.kat_lt_int q
def ar (C:IntsAre vs ns)(p:SortT.Put (O:=HZ) (λi=>ns.getD i 0) vs.length out):
 ∃ms:List Int,ms.Perm ns/\ms.Pairwise (· <= ·)/\AI (ms.map V.int) (out.map λi=>vs.getD i Value.none)/\ms.length=ns.length:=by
 let hl:=C.length;let hb:∀i∈out,i<vs.length:=λi hi=>Et.mp (p.perm.mem_iff.mp hi);show{out.map λi=>ns.getD i 0,?_,?_,?_,?_}
 . let h1:=p.perm.map λi=>ns.getD i 0;let h2:(List.range vs.length).map (λi=>ns.getD i 0)=ns:=by
    rw[show vs.length=ns.length by lia];apply List.ext_getElem?;intro j;rw[zK];by_cases o:j<ns.length
    . rw[List.getElem?_range o,zC o];simp[o]
    . rw[E1 (by rw[Gq];lia),E1 ()];rfl
   rwa[h2] at h1
 . show EZ.mpr λi j hi o I=>?_;rw[zA] at hi o;let:=p.rise i j out[i] out[j] (FH I) (by simp) (by simp);let h3:decide (ns.getD out[j] 0<ns.getD out[i] 0)=false:=this;let h4:=of_decide_eq_false h3;rw[List.getElem_map,List.getElem_map]
   lia
 . let:∀l:List Nat,(∀i∈l,i<vs.length)->AI ((l.map λi=>ns.getD i 0).map V.int) (l.map λi=>vs.getD i Value.none):=by
    intro l
    induction l with
    | nil=>intro _;show .nil
    | cons i l J=>intro h;let hi:=h i zo;obtain⟨n,hn⟩:∃n,ns[i]?=some n:={_,zC ()};let{t,U}:=C.get i n hn;show .cons ?_ (J λj o=>h j (zr _ o));change AR (V.int (ns.getD i 0)) (vs.getD i Value.none);rw[zE,zE,U,hn];show{t,0}
   show this out hb
 . rw[zA,p.perm.length_eq,Gq];lia
inductive P0 (xs:List V)(H:Hp)(Q:VK):Prop
 | mk:∀p kR ns,(xs=[.ref p])->(H p=some (.dK kR))->(kR.map (·.1)=ns.map Sum.inl)->(ns.length<64)->(∀(l:Addr)(ms:List Int),H l=none->ms.Perm ns->ms.Pairwise (· <= ·)->Q (.ref l) (upd H l (.lst (ms.map V.int))))->P0 xs H Q
def eU (hc:X.calm=true):CF X (.builtin "sorted") P0:=by
 intro pins s σ H xs us Q I r h;let{p,C,ns,0,hd,hks,h64,q}:=h;let{u,0,rx}:=BX r;cases rx;let{hz,lo,vs,rel,o,es,ep,ho,hx,mL,_,U,hnd}:=Nl I.hok hd;let key:∀(es:List DictEntry)(C:List (AS×V))(vs:List (AS×Value))(ns:List Int),KV C vs->Pairs (BC X.prog X.w) es vs->C.map (·.1)=ns.map Sum.inl->IntsAre (es.map (·.key)) ns:=by
  intro es
  induction es with
  | nil=>
   intro C vs ns rel pr e;cases pr;cases rel;cases ns with
   | nil=>show .nil
   | cons n ns=>simp at e
  | cons d es ih=>
   intro C vs ns rel pr e;cases pr with
   | cons J k2 k3=>
    cases rel with
    | cons hpq t=>
     cases ns with
     | nil=>simp at e
     | cons n ns=>simp only[Bg,List.cons.injEq] at e;rw[<-hpq.1,e.1] at J;let{t0,e0}:=Value.isInt_shape (k:=n) (v:=d.key) J;rw[Bg,e0];show .cons n t0 (ih _ _ _ t k3 e.2)
 let hI:IntsAre (es.toList.map (·.key)) ns:=key _ _ _ _ rel U hks;let hl:=hI.length;show SortT.sorted_dict (O:=HZ) (key:=λi=>ns.getD i 0) (κ:=oneType') (vs:=es.toList.map (·.key)) (I.ok.hd hc) lo ⟨o,ho,hx,mL⟩ rfl () (λh2 s' a fa kp=>bH hI h2) λh1 D h' t' out c pt J hD k2 ho=>?_;let{ms,hp,hr,rz,hlz}:=ar hI pt;let I1:AB X pins σ H { s with heap:=h1,toks:=s.toks }:=I.kept J;show{.ref D,_,U2 (s:={ s with heap:=h1,toks:=s.toks }) (t':=t') I1 hD k2 ho rz ?_,0,q D ms (I1.hok.fresh hD) hp hr};let:sizeLine=16777216:=rfl;rw[zA]
 lia
def YT (c:Addr)(q:Str):Heap->Prop:=λh=>∃o C t,h.get? c=some o/\o.data=.fields C/\C[1]?=some (.str q t)
def Cf (H:Hp)(P:Addr)(pos:Pos)(q:Str):Prop:=∃o,H P=some (.tbl o)/\TriplesOk o.toList/\(codeAmong pos o.toList=none\/∃c,codeAmong pos o.toList=some (.ref c)/\H c=some (.ext (YT c q)))
def A0 (H H':Hp):Prop:=∀b o,H b=some o->(∃C,o=.tbl C)\/H' b=some o
def A0.refl (H):A0 H H:=λ_ _ e=>.inr e
def A0.of (h:AE H H'):A0 H H':=λb o e=>.inr (h b o e)
def A0.trans (a:A0 H H1)(b:A0 H1 H2):A0 H H2:=λc o e=>by
 rcases a c o e with z | z
 . show .inl z
 . show b c o z
def Cf.keep (h:Cf H P pos q)(k:∀o,H P=some o->H' P=some o)(J:∀c C,H c=some (.ext C)->H' c=some (.ext C)):Cf H' P pos q:=by let{I,a,b,c}:=h;show{I,k _ a,b,c.imp id λ⟨c,e,f⟩=>{c,e,J _ _ f}}
def Cf.same (h:Cf H P pos q)(k:AE H H'):Cf H' P pos q:=h.keep (λ_=>k _ _) λ_ _=>k _ _
def Gp (mg:Aj)(h:Heap):Prop:=∃bm o,mg "__builtins__"=some (.ref bm)/\bm≠builtinsNs/\h.get? bm=some o/\o.cls=.type "module"/\o.dict=some builtinsNs/\o.data=.plain
def bE {h:Heap}(x:h.Ns a m)(y:h.Ns a m'):m=m':=by let{o,es,ep,e,d,_,f}:=x;let{o',nr,U,C,I,_,J}:=y;rw[e] at C;cases C;rw[d] at I;cases I;funext n;rw[<-f n,<-J n]
def AB.growL (I:AB X pins σ H s)(U:H Pt=some (.tbl ps))(hp:s.heap.objs.size<=c')(k:∀b u,b≠Pt->s.heap.get? b=some u->h'.get? b=some u)
 (J:h'.get? Pt=some (PySem.W.tabObj (ps++more)))(new:BD X.prog X.w (upd (upd H Pt (.tbl (ps++more))) c' o) h' c' o):
 AB X pins σ (upd (upd H Pt (.tbl (ps++more))) c' o) { s with heap:=h',toks:=t' }:=by
 let hc:H c'=none:=I.hok.fresh hp;let nP:∀b,H b=none->b≠Pt:=λb n z=>by rw[z,U] at n;cases n
 let nc:∀b u,s.heap.get? b=some u->b≠c':=λb u e=>zh (zv (zc e) hp);let up:∀b u,H b=some u->b≠Pt->(upd (upd H Pt (.tbl (ps++more))) c' o) b=some u:=λb u e C=>by rwa[zg (zp e hc),zg C]
 show I.un {λb u e n _ _=>k b u (nP b n) e,λb u e n _ _=>{u.slots,k b u (nP b n) e},λb u e n _=>by rwa[zg (nc b u e),zg (nP b n)],λb u e _=>?_,λb xs e=>up b _ e (AJ e U (by intro z;cases z)),λb ob u e=>up b _ e (AJ e U (by intro z;cases z)),λb qs e=>?_} ?_
 . by_cases C:b=Pt
   . rw[C];show{_,J}
   . show{u,k b u C e}
 . by_cases C:b=Pt
   . subst C;rw[U] at e;cases e;show{more,by rw[zg (zp U hc),zF]}
   . show{#[],by rw[up b _ e C];simp}
 . intro b u e;by_cases hbc:b=c'
   . subst hbc;rw[zF] at e;cases e;show new
   . rw[zg hbc] at e;by_cases C:b=Pt
     . subst C;rw[zF] at e;cases e;show J
     . rw[zg C] at e;show (I.hok b u e).stay (λd v hd q=>k d v ?_ q) (λd q=>up d _ q (AJ q U (by intro z;cases z))) λd xs q=>up d _ q (AJ q U (by intro z;cases z));rcases hd with z | z
       . rwa[z]
       . show AJ z U (by intro z';cases z')
def LB (I:AB X pins σ H s)(T:Cf H P mK (X.env.qual ++ "<lambda>"))
 (ni:X.env.code=.ref c)(C:PySem.W.CodeHd X.base c P)(hbm:Gp X.mg X.base)(mR:∀y∈lscope.names,y.2=.free->X.env.kindOf y.1=some .cell)(hdef:defaultsOf params X.env=([],[]))
 (h:∀f pm cv J s' H',AB X pins σ H' s'->A0 H H'->Cf H' P mK (X.env.qual ++ "<lambda>")->s.heap.objs.size<=f ->
  s'.heap.get? f=some { cls:=.type "function",data:=.func (PySem.W.kla_fn "<lambda>" (X.env.qual ++ "<lambda>") params body lscope (BK X.env.cells lscope.names []) pm cv J) } ->
  s'.heap.CodeRec cv (X.env.qual ++ "<lambda>")->Q (.ref f) s'):
 wpAny (model X.prog X.w) X.A (eval (.Lambda params body lscope mK) X.env) Q E s:=by
 let{ps,hP,ht,hcase}:=T;let oP:s.heap.get? P=some (PySem.W.tabObj ps):=I.hok P _ hP;let hg:=I.mod.glob.keeps I.bk;let C':PySem.W.CodeHd s.heap c P:=C.keeps I.bk;let mY:closureFor lscope X.env=pure (BK X.env.cells lscope.names []):=US λy hy hf=>I.ok.has y.1 (.inl (mR y hy hf));let nP:∀b o,X.base.get? b=some o->b≠P:=λb o e z=>by let:=(I.bs b o e).2;rw[z,hP] at this;cases this
 let hgP:mainGlobals≠P:=by let{o,es,ep,e,_}:=I.mod.glob;show nP _ _ e
 let hb:s.heap.BuiltinsAt X.mg P:=by let{bm,ob,b1,b2,b3,b4,b5,b6}:=hbm;show{bm,ob,b1,b2,λz=>?_,nP _ _ b3,I.bk _ _ b3,b4,b5,b6};let{o,es,ep,e,hd,_}:=I.mod.glob;rw[z,e] at b3;cases b3;rw[hd] at b6;cases b6
 show PySem.W.kla_eval hdef ?_;rcases hcase with hn | ⟨c1,hc1,hH⟩
 . show PySem.W.kla_makeFunction (mg:=X.mg) mY I.ok.glob hg ni C' oP ht hn hgP hb λc' J h' tk hx hge kS mh htb=>?_;let{c2,oc,vs,t,e2,U,hd,hv}:=id mh;cases e2;let kp:∀b u,b≠P->s.heap.get? b=some u->(h'.push (PySem.W.kla_obj "<lambda>" (X.env.qual ++ "<lambda>") params body lscope (BK X.env.cells lscope.names []) ((X.mg "__name__").getD .none) c' J)).get? b=some u:=λb u lH e=>zM _ (hx b u lH e);let hcn:H c'=none:=I.hok.fresh hge;let nPc:P≠c':=zp hP hcn;show h h'.objs.size ((X.mg "__name__").getD .none) (.ref c') J _ _ (I.growL (c':=c') (o:=.ext (YT c' (X.env.qual ++ "<lambda>"))) (t':=tk) hP hge kp (zM _ htb) {{oc,vs,t,zM _ U,hd,hv},{oc,zM _ U},λh1 h2 ⟨o1,v1,t1,a1,a2,a3⟩ k12=>{o1,v1,t1,k12 _ a1,a2,a3}}) ?_ ?_ ?_ ?_ ?_
   . intro b o e;by_cases hbP:b=P
     . left;rw[hbP,hP] at e;show{ps,(zT e).symm}
     . right;rwa[zg (zp e hcn),zg hbP]
   . show{ps ++ #[rawInt mK.line,rawInt mK.col,.ref c'],by rw[zg nPc,zF],?_,.inr {c',?_,zF}}
     . rw[Array.toList_append];show TriplesOk_snoc _ _ _ _ ht
     . rw[Array.toList_append];show codeAmong_snoc _ ht hn
   . let:=FH (E9 hge kS);show this
   . show zU _ rfl
   . show mh.keeps λb o e=>zM _ e
 . let{{oc,vs,t,U,hd,hv},_}:=I.hok c1 _ hH;show PySem.W.kla_makeFunctionHit (mg:=X.mg) mY I.ok.glob hg ni C' oP ht hc1 hb λJ h' tk hk hsz=>?_;show h h'.objs.size ((X.mg "__name__").getD .none) (.ref c1) J _ _ (I.kept (t':=tk) λb u e=>zM _ (hk b u e)) (A0.refl _) {ps,hP,ht,.inr ⟨c1,hc1,hH⟩} hsz (zU _ rfl) {c1,oc,vs,t,0,zM _ (hk _ _ U),hd,hv}
def d6 {X:Cx}{sc:Scope}(h:(sc.names.all λy=>y.2 != .free || X.env.kindOf y.1==some .cell)=true):∀y∈sc.names,y.2=.free->X.env.kindOf y.1=some .cell:=λy o e=>by let a:=Ea.mp h y o;rw[e] at a;simpa using a
def gA (j:Nat)(P:Addr)(C:Pos)(q:Str)(t:TA):TE:=λσ H Q=>t σ H λJ H1=>∃(l d:Addr)(ns:List Int)(I:List (AS×V))(val:Int->Int),J=[.ref l]/\H1 l=some (.lst (ns.map V.int))/\ns≠[]/\σ[j]?=some (some (.ref d))/\H1 d=some (.dK I) /\
 (∀n∈ns,Ar I (Sum.inl n)=some (.int (val n)))/\Cf H1 P C q/\∀(M:Int)(o:Hp),M∈ns->(∀n∈ns,val M<=val n)->A0 H1 o->Cf o P C q->Q (.int M) o
def iH 
 (hc:X.calm=true)(hr:A2 (k+1) X.A)(hg:Gl X "min") (hm:X.mg "min"=none) (he:PA X [e] t)(ni:X.env.code=.ref c)(C:PySem.W.CodeHd X.base c P)(hbm:Gp X.mg X.base)
 (hN:X.N[j]?=some dn)(hkd:X.env.kindOf dn=some .cell)(hS:lscope.kind=.function)(hco:lscope.isCoroutine=false)(hgen:lscope.isGenerator=false)(nq:∀x∈lscope.names,x.2 ≠ .cell)
 (mR:∀y∈lscope.names,y.2=.free->X.env.kindOf y.1=some .cell)(hdn:lscope.names.lookup dn=some .free)(hpn:lscope.names.lookup pn=some .local)(hdef:defaultsOf params X.env=([],[]))
 (pD:∀q body cl pm km ct v,bindArgs (PySem.W.kla_fn "<lambda>" q params body lscope cl pm km ct) {[v],[]}=pure [(pn,v)])
 (hd1:autoParam ((dn==("__debug__" : Str))=false) d_._auto_2) (hd2:autoParam ((dn==("__classdict__" : Str))=false) d_._auto_2) (hd3:autoParam ((pn==("__debug__" : Str))=false) d_._auto_2)
 (oh:autoParam (backTo pos (starEach [e] X.env)=(false,eval e X.env)::backTo pos (starEach [] X.env)) d_._auto_5)(l6:autoParam ((backTo pos (starEach [e] X.env)).any (·.1)=false) d_._auto_5):
 PE X (.Call (.Name "min" np) [e] [{some "key",.Lambda params (.Subscript (.Name dn p1) (.Name pn p2) p3) lscope mK,kpos}] pos) (gA j P mK (X.env.qual ++ "<lambda>") t):=by
 intro pins s σ H Q I h;show Ga (Dd I hg hm (by decide +kernel:bootBuiltins "min"=some (.builtin "min")) ?_);show PyProof.Rows.callWith_kw (AH (he pos pins s σ H _ I h) λus s1 ⟨vs,H1,I1,r,q1⟩=>?_) oh l6;let{l,d,ns,kR,val,0,hl,kb,hσ,oQ,n9,T,q}:=q1;let{u,0,rx}:=BX r;cases rx;change wpAny _ _ (evalAll ((do let v <-eval (.Lambda params (.Subscript (.Name dn p1) (.Name pn p2) p3) lscope mK) X.env;standAt pos;pure v)::[])) _ _ s1
 show wpAny_evalAll_cons (zD (LB I1 T ni C hbm mR hdef λf pm cv ctv s2 H2 I2 sm T2 hfge hf mh=>zD (wpAny_standAt (zI (wpAny_evalAll_nil ?_)))));change wpAny _ _ (call (.builtin "min") [.ref l] [(Str.ofString "key",.ref f)]) _ _ s2;let keep2:∀b o,H1 b=some o->(∀ps,o ≠ .tbl ps)->H2 b=some o:=λb o e ho=>by
  rcases sm b o e with ⟨ps,z⟩ | z
  . show absurd z (ho ps)
  . show z
 let kY:H2 l=some (.lst (ns.map V.int)):=keep2 _ _ hl (by intro ps z;cases z);let hd2':H2 d=some (.dK kR):=keep2 _ _ oQ (by intro ps z;cases z);let{_,its,nn,rv,ho}:=I2.hok l _ kY;let{hz,lo,vs,rel,od,es,ep,hod,hdr}:=Nl I2.hok hd2';let hI:IntsAre its ns:=DH rv;let{m,F0}:=I2.fr;let notL:∀b o,H2 b=some o->b≠X.env.locals:=λb o e z=>by rw[z,I2.free] at e;cases e
 let kp:∀(h':Heap)(own:Cc),Fr X.base X.env.locals h' m->News X.base X.env.locals h' (OE X.base s2.heap X.env.locals++own)->∀b o,b≠X.env.locals->s2.heap.get? b=some o->h'.get? b=some o:=λh' own F' N' b o hb U=>by
  cases qb:X.base.get? b with
  | some u=>have z:=I2.bk b u qb;rw[U] at z;cases z;show F'.keep b _ qb
  | none=>show (N' (b,o) (Gj _ (jI hb qb U))).1
 let{m',hn',hloc}:=I2.loc;let em:m'=m:=bE hn' F0.ns;subst em;let{ud,rd,lk}:=hloc j dn (.ref d) hN hσ (.inr (.inl hkd));cases (show ud=Value.ref d from rd);obtain⟨cc,hcc,oc,hoc,hdc⟩:∃cc,X.env.cells.lookup dn=some cc/\s2.heap.IsCell cc (some (.ref d)):=by
  rcases lk with ⟨z,_⟩ | ⟨_,cc,a,b⟩
  . rw[hkd] at z;cases z
  . show⟨cc,a,b⟩
 let mY:(BK X.env.cells lscope.names []).lookup dn=some cc:=by
  let{c',oF}:=NC ⟨cc,hcc⟩ lscope.names [] (PySem.mem_of_lookup hdn);rcases N3 _ _ oF with z | z
  . simp at z
  . rw[hcc] at z;cases z;show oF
 let hsz0:X.env.locals<s1.heap.objs.size:=I1.lt;let hfL:f≠X.env.locals:=Nat.ne_of_gt (zv hsz0 hfge);show PyProof.Rows.kmk_min_letter (h₀:=X.base) (L:=X.env.locals) (m:=m') (news:=OE X.base s2.heap X.env.locals) (ns:=ns) val (I2.ok.hd hc) F0 gO (λh' F' N'=>?_) hI (List.length_pos_iff.mpr kb) (λn tn h' tk own hn F' N'=>?_) (λM tM h' tk F' N' hM hbest=>?_)
 . show{_,kp h' [] F' (by rwa[BW]) l _ (notL _ _ kY) ho,0,nn,0}
 . let kk:=kp h' own F' N';let{c1,o1,v1,t1,e1,ho1,hd1',hv1}:=id mh;subst e1;let hc1L:c1≠X.env.locals\/True:=.inr trivial;let rec':h'.CodeRec (.ref c1) (X.env.qual ++ "<lambda>"):=by show{c1,o1,v1,t1,0,kk c1 o1 (λz=>?_) ho1,hd1',hv1};let{oL,esL,epL,oJ,hdL,_}:=F0.ns;rw[z,oJ] at ho1;cases ho1;rw[hdL] at hd1';cases hd1'
   show Dv (PySem.W.kla_callFunE hr.in1.depth (kk f _ hfL hf) rfl hco hgen rfl rec' ?_);rw[pD];show zI (wpAny_newFunctionEnv nq (λy hy=>?_) (λh₁ hns hsb=>?_) hS)
   . obtain rfl:y=(pn,Value.int n tn):=zf.mp hy;show hpn
   . let J:∀b o,h'.get? b=some o->h₁.get? b=some o:=λb o U=>hsb.extBut b o (zh (zc U)) (zM _ U);show{I2.mod.nolimit.keeps λb o U=>J b o (F'.keep b o U),?_};change codeAny _ _ (.expr (.Subscript (.Name dn p1) (.Name pn p2) p3) (PySem.W.envX (X.env.qual ++ "<lambda>") lscope h'.objs.size f (.ref c1) (BK X.env.cells lscope.names []))) _ _;show PySem.W.kla_codeExpr (X2 PySem.F.slot_dict_getitem.lookup (λ_ _=>rfl) ?_);show wpAny_Name (wpAny_loadName_free hS (show (PySem.W.envX (X.env.qual ++ "<lambda>") lscope h'.objs.size f (.ref c1) (BK X.env.cells lscope.names [])).kindOf dn=some .free from hdn) mY {oc,J _ _ (kk cc oc (I2.cne dn cc hcc) hoc),hdc} ?_ hd2) hd1;show wpAny_Name (wpAny_loadName_local hS (show (PySem.W.envX (X.env.qual ++ "<lambda>") lscope h'.objs.size f (.ref c1) (BK X.env.cells lscope.names [])).kindOf pn=some .local from hpn) hns (v:=.int n tn) (by simp) ?_) hd3;let dd:h₁.DictOf (BC X.prog X.w) d vs:={od,es,ep,J _ _ (kk d od (notL _ _ hd2') hod),hdr};show{dd.typeIs,?_};let{w',hw,mJ}:=CU.some_of (v:=.int (val n)) (o:=valueAt vs (Sum.inl n)) (by rw[<-n9 n hn];show rel.val (Sum.inl n));let{t',0}:=mJ;show wpAny_getItem_of (Fo (k:=Sum.inl n) {tn,0}) dd.mapOf hw ?_;show{h₁,_,t',2,{F'.ns.keeps J,λb o U=>J b o (F'.keep b o U),F'.above},λp hp=>{J _ _ (N' p hp).1,(N' p hp).2}}
 . let kk:=kp h' [] F' (by rwa[BW]);let I3:AB X pins σ H2 { s2 with heap:=h',toks:=tk }:=by
    show I2.step (g':=s2.gens) (d':=s2.drawn) (ch:=[]) (λ_ z=>nomatch z) (λb o hb _ _ U _=>kk b o hb U) (λb o hb _ _ U _=>{o.slots,kk b o hb U}) (λ_ _ _ _ n=>n) (λb o _ U=>?_) (λ_ _ U=>U) (λ_ _ _ U=>U) (λb ps U=>{#[],by rw[U];simp}) (λmm hmm=>?_) ?_ I2.bare
    . by_cases hb:b=X.env.locals
      . let{oL,esL,epL,oJ,_}:=F'.ns;show{oL,by rwa[hb]}
      . show{o,kk b o hb U}
    . let:=bE hmm F0.ns;subst this;show F'.ns
    . intro b u U;show (I2.hok b u U).stay (λx v hx z=>kk x v ?_ z) (λ_ z=>z) λ_ _ z=>z;rcases hx with z1 | z1
      . rw[z1];show notL _ _ U
      . show notL _ _ z1
   show{.int M,H2,I3,{tM,0},q M H2 hM hbest sm T2}
def iG {K:AG}{PT:Addr}
 (KX:K.In s₁.heap)(hns:s₁.heap.Ns mainGlobals mg)(I:s₁.heap.Ns builtinsNs mb)(hbb:∀x:Str,x ≠ "__name__"->mb x=bootBuiltins x) (hlim:s₁.heap.NoLimit)(hg:s₁.gens=#[])
 (ha:s₁.heap.get? a=some { cls:=.type "list",data:=.seq vs.toArray }) (hi:IntsAre vs ns)(hl:ns.length<=sizeLine)(hr:A2 k callerA)
 (hT:s₁.heap.get? PT=some (PySem.W.tabObj #[]))(hC:isCodeTable s₁.heap PT)(hK:PySem.W.noTabs K=true)(hbm:Gp mg s₁.heap)
 (F:∀base:Heap,K.In base->base.Ns mainGlobals mg->Gp mg base->Bh P w K mg base CX k fa fd [x] sp)(pD:∀s u,BindsTo s fd {[u],[]} [(x,u)])
 (my:∀H:Hp,H PT=some (.tbl #[])->AA K H a (ns.map V.int)->sp [.ref a] H (λv _=>v=.bl true) λ_ _ _=>False)
 (hCX:∀H e J,CX [] H s₁ (λ_ _ _=>False) e J->False):
 codeAny (model P w) callerA (.call (.ref fa) {[.ref a],[]}) (λr J=>r=.ok (.ret (.bool true))/\OldK s₁.heap J.heap/\J.os=s₁.os/\AllBare J.gens) s₁:=by
 let rv:=aH hi;let lenV:=hi.length;let npa:PT≠a:=λe=>by rw[e,ha] at hT;cases hT
 let kPT:K.lookup PT=none:=by
  cases q:K.lookup PT with
  | none=>rfl
  | some o=>have e:=KX PT o q;rw[hT] at e;cases e;let h2:=Ea.mp hK (PT,_) (PySem.W.mem_of_lookupK q);show absurd (show false=true from h2) zk
 let core:∀H:Hp,(∀b u,H b=some u->(b=PT/\u=.tbl #[])\/(b=a/\K.lookup a=none/\∃o xs,u=.frz o (.lst xs)))->H PT=some (.tbl #[])->AA K H a (ns.map V.int)->BF P w H s₁.heap ->
  codeAny (model P w) callerA (.call (.ref fa) {[.ref a],[]}) (λr J=>r=.ok (.ret (.bool true))/\OldK s₁.heap J.heap/\J.os=s₁.os/\AllBare J.gens) s₁:=by
  intro H hA hP hS hok;let C:∀{b:Addr}{o:Obj},s₁.heap.get? b=some o->H b=none->(GA s₁.heap H).get? b=some o:=λe n=>jq e n;let noA:∀{b:Addr}{o:Obj},s₁.heap.get? b=some o->(∀ps,o.data ≠ .fields ps)->(∀ps n,o.data ≠ .seq ps n)->H b=none:=λ{b o} e d1 d2=>by
   cases q:H b with
   | none=>rfl
   | some u=>
    rcases hA b u q with ⟨rfl,_⟩ | ⟨rfl,_⟩
    . rw[hT] at e;cases e;show absurd rfl (d1 #[])
    . rw[ha] at e;cases e;show absurd rfl (d2 _ _)
  let nsK:∀{b:Addr}{m:Aj},s₁.heap.Ns b m->(GA s₁.heap H).Ns b m:=λ{b m} ⟨o,es,ep,e,d,r⟩=>{o,es,ep,C e (noA e (λps z=>by rw[d] at z;cases z) (λps n z=>by rw[d] at z;cases z)),d,r};let hKb:K.In (GA s₁.heap H):=λb o e=>C (KX b o e) (by
   cases q:H b with
   | none=>rfl
   | some u=>
    rcases hA b u q with ⟨rfl,_⟩ | ⟨rfl,z,_⟩
    . rw[kPT] at e;cases e
    . rw[z] at e;cases e)
  let hBm:Gp mg (GA s₁.heap H):=by let{bm,ob,b1,b2,b3,b4,b5,b6}:=hbm;show{bm,ob,b1,b2,C b3 (noA b3 (λps z=>by rw[b6] at z;cases z) (λps n z=>by rw[b6] at z;cases z)),b4,b5,b6}
  let hM:Mod K mg (GA s₁.heap H):=⟨hKb,nsK hns,{mb,nsK I,hbb},let ⟨mc,h1,h2⟩:=hlim;{mc,nsK h1,h2}⟩;let e0:Ji P w K mg (GA s₁.heap H) callerA [] s₁ H:={0,hM,λb o e=>ju e,Nat.le_of_eq (jF _ _),trivial,λb I=>absurd (show b∈([]:List Addr) from I) (by simp),hok,.of_eq hg};show codeAny_mono ((F _ hKb (nsK hns) hBm).run callerA [] s₁ H {[.ref a],[]} [.ref a] [.ref a] _ _ hr e0 (pD s₁ (.ref a)) (.cons rfl .nil) (my H hP hS)) λr J h=>?_;cases r with
  | error e=>show (hCX H e J h).elim
  | ok fl=>
   cases fl with
   | next=>show False.elim h
   | brk=>show False.elim h
   | cont=>show False.elim h
   | ret u=>
    let{v,H',os,bare,un,hok',r',q}:=h;let q':v=.bl true:=q;subst q';obtain rfl:u=Value.bool true:=r';let{more,hPn}:=un.tbls PT _ hP;let objP:J.heap.get? PT=some { cls:=.none,data:=.fields (#[]++more) }:=hok' PT _ hPn;let keep:∀b o,b≠PT->s₁.heap.get? b=some o->J.heap.get? b=some o:=λb o I e=>by
     cases q:H b with
     | none=>show un.keep b o e q (by intro z;show absurd (show b∈([]:List Addr) from z) (by simp)) (by simp)
     | some u=>
      rcases hA b u q with ⟨z,_⟩ | ⟨_,_,ob,xs,z⟩
      . show absurd z I
      . subst z;let z2:=un.frzs b ob _ q;let{e1,_}:=hok b _ q;let{e2,_}:=hok' b _ z2;rw[e] at e1;cases e1;show e2
    show{0,{λb o e=>?_,λb o e=>?_},os,bare}
    . by_cases I:b=PT
      . subst I;rw[hT] at e;cases e;show .inr (.inl {hC,0,#[],more,0,objP})
      . show .inl (keep b o I e)
    . by_cases I:b=PT
      . rw[I];show{_,objP}
      . show{o,keep b o I e}
 let okP:∀H:Hp,BD P w H s₁.heap PT (.tbl #[]):=λH=>hT;cases hk:K.lookup a with
 | some o=>
  let e:=KX a o hk;rw[ha] at e;cases e;show core (λb=>if b=PT then some (.tbl #[]) else none) (λb u z=>?_) (if_pos rfl) (.inr {_,vs.toArray,_,hk,9,by rwa[zP,lenV],by simpa using rv}) (λb u z=>?_)
  all_goals
   let U:(if b=PT then some (HO.tbl #[]) else none)=some u:=z
   by_cases I:b=PT
   . rw[if_pos I] at U;cases U
     first
      | show .inl {I,0}
      | (subst I;show okP _)
   . rw[if_neg I] at U;cases U
 | none=>
  show core (λb=>if b=PT then some (.tbl #[]) else if b=a then some (.frz { cls:=.type "list",data:=.seq vs.toArray } (.lst (ns.map V.int))) else none) (λb u z=>?_) (if_pos rfl)
   (.inl (.inr {{ cls:=.type "list",data:=.seq vs.toArray },by change (if a=PT then _ else if a=a then _ else _)=_;rw[if_neg npa.symm,if_pos rfl]})) (λb u z=>?_)
  all_goals
   let U:(if b=PT then some (HO.tbl #[]) else if b=a then some (.frz { cls:=.type "list",data:=.seq vs.toArray } (.lst (ns.map V.int))) else none)=some u:=z
   by_cases I:b=PT
   . rw[if_pos I] at U;cases U
     first
      | show .inl {I,0}
      | (subst I;show okP _)
   . rw[if_neg I] at U;by_cases hba:b=a
     . rw[if_pos hba] at U;cases U
       first
        | show .inr {hba,hk,7}
        | (subst hba;show{ha,by rwa[zA],vs,_,rv,ha})
     . rw[if_neg hba] at U;cases U
def walk_T {l:PySem.W.OpenLaw}{K:Params->AG}{sp:AG->Addr->Sp}
 (hn:l.most=some n)(hn2:n<=sizeLine)(hdf:d.params.defaults=[])(hr:A2 k callerA)(mh:∃dn,(recsOf q).find? (λe=>e.name==tn)=some dn)
 (hY:∀w h,YP w h->(K w.params).In h)
 (F:∀w mg fa h,(K w.params).In h->h.Ns mainGlobals mg->mg d.name=some (.ref fa) ->
  ∃fd c PT,PySem.W.tabIn (K w.params) tn=some (c,PT)/\PySem.W.noTabs (K w.params)=true/\(∀s u,BindsTo s fd {[u],[]} [(x,u)]) /\
   ∀base:Heap,(K w.params).In base->base.Ns mainGlobals mg->Gp mg base->Bh l.prog w (K w.params) mg base CX k fa fd [x] (sp (K w.params) PT))
 (my:∀K PT H a(ns:List Int),ns.length<=n->H PT=some (.tbl #[])->AA K H a (ns.map V.int)->sp K PT [.ref a] H (λv _=>v=.bl true) λ_ _ _=>False)
 (hCX:∀H s e s',CX [] H s (λ_ _ _=>False) e s'->False):
 PySem.W.WalkO q loose XP YP l.row.toRowW d [] (λf vs=>PySem.call f vs):=by
 show Att.attach_call hn hdf λw s₀ I mg mb fa o pm cd doc a vs ns G Y ho hd nR hmg U hints hlen hg=>?_;let KX:=hY w _ Y;let{fd,c,PT,J,hnt,hb,hF}:=F w mg fa _ KX G.T.g hmg;let{dn,hdn}:=mh;let{C,hPT}:=PySem.W.tab_of G.T KX hdn J;show iG KX G.T.g G.T.b G.T.builtins G.T.nolimit hg U hints (zn hlen hn2) hr hPT (C.tab hPT).isCodeTable hnt G.T.bmain hF hb (λH hP hS=>my _ PT H a ns hlen hP hS) λH e s'=>hCX H I e s'
structure Jd (K:AG)(x qual:Str)(st:Stmt)(f:Addr)(fd:FuncData)(c:Addr):Prop where
 ex:∃(oc:Value)(od:Option Addr)(kV doc pm:Value)(an:Option Addr)(ct:Value)(nY:Array (Option Value)),
  fd=PySem.W.fnOf x qual (defArgs st) (defBody st) (defScope st) .none kV doc pm an (.ref c) ct/\K.lookup f=some {oc,od,.func fd,nY}/\PySem.W.codeIn K (.ref c) qual=true
 kp:PySem.W.keepIn K (.ref f)=true
def Jd.fn {K:AG}{st:Stmt}(F:Jd K x qual st f fd c):EH K x qual st f fd:=by let{C,o,kV,doc,pm,an,J,I,h}:=F.ex;show{{C,o,kV,doc,pm,an,.ref c,J,I,h},F.kp}
def Jd.ok {K:AG}{st:Stmt}(F:Jd K x qual st f fd c)(S:zl N ps (defScope st))(len:∀vs H Q E,sp vs H Q E->vs.length=ps.length)
 (I:∀A outer s H vs Q E,A2 k (A.deeper (envOfC qual (defScope st) s.heap.objs.size f (.ref c)))->sp vs H Q E ->
  ∃t,CN (E3 Cm P w K mg base N qual (defScope st) f (.ref c) A outer s H E).nox (defBody st) t/\t { nx:=λ_ H'=>Q .non H',rt:=Q } (start N vs) H):Bh P w K mg base Cm (k+1) f fd ps sp:=by
 let{oc,od,kV,doc,pm,an,ct,nY,0,J,o}:=F.ex;show IS J o S len λA outer s H vs Q E U C=>?_;let{t,h,q}:=I A outer s H vs Q E U C;show⟨t,h.nox,q⟩
def iQ {K:AG}{st:Stmt}{kV:Value}(l:K.lookup f=some {oc,od,.func (PySem.W.fnOf x qual (defArgs st) (defBody st) (defScope st) .none kV doc pm an (.ref c) ct),nY})
 (o:PySem.W.codeIn K (.ref c) qual=true)(k:PySem.W.keepIn K (.ref f)=true):Jd K x qual st f (PySem.W.fnOf x qual (defArgs st) (defBody st) (defScope st) .none kV doc pm an (.ref c) ct) c:={{oc,od,kV,doc,pm,an,ct,nY,0,l,o},k}
section
variable {κ:Type} [DecidableEq κ]
def eL {C:List (κ×V)}(h:kv∈BM C k v):kv∈C\/kv=(k,v):=by
 unfold BM at h;split at h
 . let{q,I,e}:=zy.mp h;by_cases o:q.1=k
   . rw[if_pos o] at e;rw[<-e,o];show .inr rfl
   . rw[if_neg o] at e;rw[<-e];show .inl I
 . rcases Bu.mp h with q | q
   . show .inl q
   . show .inr (zf.mp q)
def MS {C:List (κ×V)}(h:(C.map (·.1)).Nodup):((BM C k v).map (·.1)).Nodup:=by
 cases e:Ar C k with
 | none=>show dI v h e
 | some x=>
  let I:(C.any λo=>decide (o.1=k))=true:=by rw[IC,e];rfl
  unfold BM;rw[if_pos I];let J:(C.map λo=>if o.1=k then (o.1,v) else o).map (·.1)=C.map (·.1):=by
   rw[DY];show Hk λo _=>?_;change (if o.1=k then (o.1,v) else o).1=o.1
   split <;> rfl
  rwa[J]
def ZQ (k j:κ):∀C:List (κ×V),Ar (Bv C k) j=if j=k then none else Ar C j
 | []=>by change (none:Option V)=_;split <;> rfl
 | p::r=>by
  let I:=ZQ k j r;by_cases e:p.1=k
  . rw[X5 e,I];by_cases o:j=k
    . rw[if_pos o,if_pos o]
    . rw[if_neg o,if_neg o,DM λz=>o (z.symm.trans e)]
  . rw[a7 e];by_cases o:p.1=j
    . rw[Dh o,Dh o,if_neg λz=>e (o.trans z)]
    . rw[DM o,DM o,I]
end
meta def V7:AS->Int
 | .inl i=>i
 | .inr _=>0
structure WD (n:Int)(kR:List (AS×V))(wt:Int->Option Int):Prop where
 sh:∀kv∈kR,∃p d,kv=(Sum.inl p,V.int d)/\0<=p/\p<n
 nd:(kR.map (·.1)).Nodup
 at_:∀p:Int,Ar kR (Sum.inl p)=(wt p).map V.int
meta def F8 (C:List (AS×V)):List Int:=C.map λo=>V7 o.1
def WD.keys (h:WD n kR wt):kR.map (·.1)=(F8 kR).map Sum.inl:=by unfold F8;rw[DY];show Hk λC o=>?_;let{p,d,e,_}:=h.sh C o;rw[e];rfl
def WD.nds (h:WD n kR wt):(F8 kR).Nodup:=by let e:=h.nd;rw[h.keys,List.Nodup,DK] at e;show e.imp λh o=>h (by rw[o])
def WD.len (h:WD n kR wt)(h0:0<=n):(kR.length:Int)<=n:=by
 let:=WM.nd_len (n:=n.toNat) h.nds λx I=>by
  let{C,o,e}:=zy.mp I;let{p,d,J,h1,U}:=h.sh C o;let:x=p:=by rw[<-e,J];rfl
  lia
 unfold F8 at this;rw[zA] at this
 lia
def WD.mem (h:WD n kR wt):p∈F8 kR↔∃e,wt p=some e:=by
 let e:p∈F8 kR↔(Sum.inl p:AS)∈kR.map (·.1):=by
  rw[h.keys];constructor
  . intro m;show zy.mpr {p,m,0}
  . intro m;let{q,C,e}:=zy.mp m;cases e;show C
 rw[e];let o:=h.at_ p;constructor
 . intro m;cases hw:wt p with
   | some d=>show{d,0}
   | none=>rw[hw] at o;show absurd m (bW o)
 . rintro ⟨d,hw⟩;rw[hw] at o;show hV o
def WD.one (h0:0<=s)(C:s<n):WD n [(Sum.inl s,V.int 0)] (λq=>if q=s then some 0 else none):=by
 show{λI o=>?_,by simp,λp=>?_}
 . rw[zf.mp o];show⟨s,0,rfl,h0,C⟩
 . by_cases e:p=s
   . rw[if_pos e,e];show Dh rfl
   . rw[if_neg e];show (DM λz=>e (Sum.inl.inj z).symm).trans dU
def WD.put (h:WD n kR wt)(h0:0<=p)(I:p<n):WD n (BM kR (Sum.inl p) (.int d)) (λq=>if q=p then some d else wt q):=by
 show{λC o=>?_,MS h.nd,λq=>?_}
 . rcases eL o with z | z
   . show h.sh C z
   . show⟨p,d,z,h0,I⟩
 . rw[gk];by_cases e:q=p
   . rw[if_pos e,if_pos (by rw[e])];rfl
   . rw[if_neg e,if_neg λz=>e (Sum.inl.inj z)];show h.at_ q
def WD.drop (h:WD n kR wt):WD n (Bv kR (Sum.inl p)) (λq=>if q=p then none else wt q):=by
 show{λC o=>h.sh C (aI o),VD h.nd,λq=>?_};rw[ZQ];by_cases e:q=p
 . rw[if_pos e,if_pos (by rw[e])];rfl
 . rw[if_neg e,if_neg λz=>e (Sum.inl.inj z)];show h.at_ q
meta def oV:Option Int->V
 | none=>.non
 | some d=>.int d
def Rj {n:Nat}{i:Int}(h0:0<=i)(o:i<n):DP n i=some i.toNat:=by unfold DP;rw[if_pos h0,if_pos o]
def Ac (h0:0<=i)(h:xs[i.toNat]?=some v):Bl xs i=some v:=by let:=Bb h;rwa [E8 h0] at this
def A0.get (k:A0 H H')(e:H b=some o)(h:∀ps,o ≠ .tbl ps):H' b=some o:=by
 rcases k b o e with ⟨ps,z⟩ | z
 . show absurd z (h ps)
 . show z
def A0.chg (k:A0 H H')(h:H l=none):A0 H (upd H' l o):=λb u e=>by
 rcases k b u e with z | z
 . show .inl z
 . right;rwa[zg (zp e h)]
def Cf.chg (T:Cf H P pos q)(h:H l=some (.lst xs)):Cf (upd H l o) P pos q:=by
 let{U,C,_}:=id T;show T.keep (λu hu=>?_) λc J I=>?_
 . rwa[zg (AJ C h (by intro z;cases z))]
 . rwa[zg (AJ I h (by intro z;cases z))]
def Va {xs:List Int}:((List.range (min xs.length ys.length)).all (λj=>xs.getD j 0==ys.getD j 0) && xs.length==ys.length)=decide (xs=ys):=by
 by_cases h:xs=ys
 . subst h;simp
 . rw[za h];by_cases C:xs.length=ys.length
   . let:∃j,j<xs.length/\xs.getD j 0≠ys.getD j 0:=by apply F9;intro J;show h (List.ext_getElem C λj I U=>?_);apply F9;intro o;show J {j,I,by simpa [zE,I,U] using o}
     let{j,hj,o}:=this;rw[Bool.and_eq_false_iff];left;rw[List.all_eq_false];show{j,by rw[Et];lia,by simpa using o}
   . simp[C]
inductive Ym (K:AG)(neg:Bool)(x:V)(y:V)(H:Hp)(Q:VK):Prop
 | mk:∀(a b:Addr)(xs ys:List Int),(x=.ref a)->(y=.ref b)->(AD K H a (xs.map V.int))->(AD K H b (ys.map V.int))->(Q (.bl (if neg then !decide (xs=ys) else decide (xs=ys))) H)->Ym K neg x y H Q
def Ol (K:AG)(neg:Bool):R2:=λx y H Q=>Ym K neg x y H Q
def U5 (J:IntsAre us xs)(I:IntsAre ws ys)(j)(a:j<us.toArray.size)(b:j<ws.toArray.size):SeqAt.EqAt A s us.toArray[j] ws.toArray[j] (xs.getD j 0==ys.getD j 0):=by
 let l1:=J.length;let l2:=I.length;rw[zP] at a b;obtain⟨n,hn⟩:∃n,xs[j]?=some n:={_,zC ()};obtain⟨m,hm⟩:∃m,ys[j]?=some m:={_,zC ()};let{t,C}:=J.get j n hn;let{u,o}:=I.get j m hm;let e1:us.toArray[j]=.int n t:=by rw[zC a] at C;simpa using zT C
 let U:ws.toArray[j]=.int m u:=by rw[zC b] at o;simpa using zT o
 rw[e1,U,zE,zE,hn,hm];show SeqAt.EqAt.int_int n t m u
def Kl (hu:X.A.units<cLine):Au X (compareOp .Eq) (Ol X.K false):=by intro pins s σ H x y v u Q I rx U h;let{a,b,xs,J,2,ha,hb,q}:=h;cases rx;cases U;let{its,r,pl,hz}:=I.tuple ha;let{kf,r2,lR,hz2}:=I.tuple hb;let C:=DH r;let o:=DH r2;show SeqAt.eq_tupleAt (e:=λj=>xs.getD j 0==J.getD j 0) pl lR hu (λj a b=>U5 C o j a b) {.bl _,H,I,0,?_};rwa[zP,zP,C.length,o.length,Va]
def MP (hu:X.A.units<cLine):Au X (compareOp .NotEq) (Ol X.K true):=by intro pins s σ H x y v u Q I rx U h;let{a,b,xs,J,2,ha,hb,q}:=h;cases rx;cases U;let{its,r,pl,hz}:=I.tuple ha;let{kf,r2,lR,hz2}:=I.tuple hb;let C:=DH r;let o:=DH r2;show PySem.EqBoolInt.of_rcne (SeqAt.RcNeAt.tuples (e:=λj=>xs.getD j 0==J.getD j 0) pl lR hu (λj a b=>U5 C o j a b)) {.bl _,H,I,0,?_};rwa[zP,zP,C.length,o.length,Va]
inductive cD (K:AG)(x:V)(y:V)(H:Hp)(Q:VK):Prop
 | mk:∀(a b:Addr)(xs ys:List Int),(x=.ref a)->(y=.ref b)->(AD K H a (xs.map V.int))->(AD K H b (ys.map V.int))->(Q (.bl (!decide (xs=ys))) H)->cD K x y H Q
def PL (K:AG):R2:=λx y H Q=>cD K x y H Q
inductive ZM (K:AG)(x:V)(y:V)(H:Hp)(Q:VK):Prop
 | mk:∀(a b:Addr)(xs ys:List Int),(x=.ref a)->(y=.ref b)->(AD K H a (xs.map V.int))->(AD K H b (ys.map V.int))->(Q (.bl (decide (xs=ys))) H)->ZM K x y H Q
def IX (K:AG):R2:=λx y H Q=>ZM K x y H Q
theorem e8 (hu:X.A.units<cLine):Au X (compareOp .NotEq) (PL X.K):=fun pins s σ H x y v u Q I rx ry h=>MP hu pins s σ H x y v u Q I rx ry (by obtain⟨a,b,c,d,e,f,g,i,j⟩:=h;exact⟨a,b,c,d,e,f,g,i,j⟩)
theorem gV (hu:X.A.units<cLine):Au X (compareOp .Eq) (IX X.K):=fun pins s σ H x y v u Q I rx ry h=>Kl hu pins s σ H x y v u Q I rx ry (by obtain⟨a,b,c,d,e,f,g,i,j⟩:=h;exact⟨a,b,c,d,e,f,g,i,j⟩)
def X1 (K:AG):R2:=λx y H Q=>∃a b,∃(xs o:List Int),x=.ref a/\y=.ref b/\AA K H a (xs.map V.int)/\AA K H b (o.map V.int)/\Q (.bl (!decide (xs=o))) H
def Ks (hu:X.A.units<cLine):Au X (compareOp .NotEq) (X1 X.K):=by
 intro pins s σ H x y v u Q I rx ry h;let{a,b,xs,ys,2,ha,hb,q}:=h;cases rx;cases ry;let{its,r,J,hz}:=I.list ha;let{kf,r2,U,hz2}:=I.list hb;let C:=DH r;let o:=DH r2;by_cases hl:its.length=kf.length
 . show PySem.EqBoolInt.of_rcne (SeqAt.RcNeAt.lists (e:=λj=>xs.getD j 0==ys.getD j 0) J.isList U.isList (by rwa[zP,zP]) hu (λj a b=>U5 C o j a b)) {.bl _,H,I,0,?_};rw[zP];let e:=Va (xs:=xs) (ys:=ys);let l1:=C.length;let l2:=o.length;rw[show min xs.length ys.length=its.length by lia,show (xs.length==ys.length)=true by simpa using (),Bool.and_true] at e;rwa[e]
 . show PySem.EqBoolInt.of_rcne (SeqAt.RcNeAt.lists_lengths J.isList U.isList (by rw[zP,zP];simpa using hl) hu) {.bl _,H,I,0,?_};let kb:xs≠ys:=λe=>hl (by rw[C.length,o.length,e]);rwa[za kb] at q
inductive QW (K:AG)(xs:List V)(H:Hp)(Q:VK):Prop
 | mk:∀(p:Addr)(ns:List Int),(xs=[.ref p])->(AA K H p (ns.map V.int))->(Q (.int ns.sum) H)->QW K xs H Q
def Uz (hc:X.calm=true):CF X (.builtin "sum") (QW X.K):=by
 intro pins s σ H xs us Q I r h;let{p,ns,0,hq,q}:=h;let{u,0,U}:=BX r;cases U;let{its,r',pl,hz}:=I.list hq;let hi:=DH r';let o:=pl.isList;let{zs,C}:=hi.allInts.items;let en:=hi.numsOf;rw[C] at o;let es:preSum (numAt zs) zs.size=ns.sum:=by rw[preSum_eq,zR (by simp),<-en,show its=its.toArray.toList from rfl,C,nums_intItems]
 show sum_intListG (I.ok.hd hc) o λh' tk J hk=>{.int ns.sum,H,I.kept hk,{J,?_},q};rw[es]
meta def Uy (scope:Scope)(yc:Str)(cl:List (Str×Addr))(C:Addr)(env:Env):Env:=
 { scope:=relabel scope env,locals:=C,globals:=env.globals,cells:=(yc,C+1)::cl,qual:=env.qual,func:=none,code:=env.code,frame:=env.frame,builtins:=env.builtins }
def c9 (I:∀n acc,cellsFrom n scope.names acc=(yc,n)::acc)
 (J:∀h':Heap,h'.Ns s.heap.objs.size (λ_=>none)->(∀b o,s.heap.get? b=some o->h'.get? b=some o)->h'.IsCell (s.heap.objs.size+1) none ->
  Q (newEnv scope s.heap.objs.size globals ((yc,s.heap.objs.size+1)::cl) qual none .none (some env) builtinsNs) { s with heap:=h',toks:=s.toks }):
 wpAny M A (newFunctionEnv scope globals cl [] qual none .none (some env)) Q E s:=by
 simp only[newFunctionEnv,Option.isSome_some,if_true];show zD (wpAny_alloc ?_);show zD (wpAny_layCells _ (λname kind cells=>by cases C:kind==NameKind.cell <;> simp[C]) _ _ _ _ ?_);let ok:=cellsFrom_ok scope.names (s.heap.push { cls:=.type "dict",data:=.dict #[] }) (s.heap.objs.size+1) [] {λ_ _ hm=>(nomatch hm),JP} (by rw[DE];show zL _);rw[DE] at ok;rw[show ({ s with heap:=s.heap.push { cls:=.type "dict",data:=.dict #[] } }:Shared).heap.objs.size=s.heap.objs.size+1 from DE ..];rw[I] at ok ⊢;show zD ?_;rw[List.forIn_nil];show zI (zI ?_);show J _ ((Heap.Ns.new s.heap (.type "dict")).keeps (pushCells_keeps _ _)) (λb o e=>pushCells_keeps _ _ b o (zM _ e)) (ok.empty _ _ zo).1
meta def F2 (X:Cx)(pl:Cc)(N':List Str)(scope:Scope)(yc:Str)(fp:List Addr)(s3:Shared)(H3:Hp):Cx where
 prog:=X.prog
 w:=X.w
 K:=X.K
 mg:=X.mg
 base:=X.base
 A:=X.A
 N:=N'
 s₀:=s3
 H₀:=H3
 env:=Uy scope yc (BK X.env.cells scope.names []) s3.heap.objs.size X.env
 outer:=X.stack
 stack:=X.stack
 ex:=fp
 fn:=λx=>x==yc
 calm:=X.calm
 pn:=pl
 xe:=λ_ _=>False
structure NM (X:Cx)(scope:Scope)(yc:Str):Prop where
 kind:scope.kind=.function
 cf:∀n acc,cellsFrom n scope.names acc=(yc,n)::acc
 own:scope.names.lookup yc=some .cell
 one:∀y∈scope.names,y.2=.cell->y.1=yc
 names:∀y∈scope.names,y.2=.local->scope.names.lookup y.1=some .local
 free:∀y∈scope.names,y.2=.free->X.env.kindOf y.1=some .cell
section
variable {X:Cx}{pins:Cc}{σ:St}{H3:Hp}{s3:Shared}{scope:Scope}{fp:List Addr}{N' own cn:List Str}{ci:List Nat}{cv:List V}{yc:Str}
def Pn {n:Addr}(h:((yc,n)::cl).lookup x=some c):(x=yc/\c=n)\/(x≠yc/\cl.lookup x=some c):=by
 rw[GF] at h;cases o:x==yc with
 | true=>rw[o] at h;cases h;show .inl {by simpa using o,0}
 | false=>rw[o] at h;show .inr {by simpa using o,h}
def bM {n:Addr}(h:x≠yc):((yc,n)::cl).lookup x=cl.lookup x:=by rw[GF,show (x==yc)=false by simpa using h]
def bU (ok:X.Ok)(S:NM X scope yc)(h:(relabel scope X.env).names.lookup x=some .cell\/(relabel scope X.env).names.lookup x=some .free):
 ∃c,((yc,n)::BK X.env.cells scope.names []).lookup x=some c:=by
 by_cases o:x=yc
 . subst o;show{n,by rw[GF,beq_self_eq_true]}
 rw[bM o];let e:(relabel scope X.env).names.lookup x=(scope.names.lookup x).map λk=>if (k==NameKind.free && X.env.scope.kind == .function && X.env.kindOf x==some .cell)=true then NameKind.cell else k:=OD scope.names
 let hf:scope.names.lookup x=some .free:=by
  cases q:scope.names.lookup x with
  | none=>rw[e,q] at h;simp at h
  | some k=>
   by_cases C:k=.free
   . rw[C]
   . let I:(k==NameKind.free)=false:=by simpa using C
     rw[e,q] at h;simp only[EC,I,Bool.false_and,GQ,if_false,Option.some.injEq] at h;rcases h with h | h
     . show absurd (S.one _ (PySem.mem_of_lookup q) h) o
     . show absurd h C
 show NC (ok.has x (.inl (S.free _ (PySem.mem_of_lookup hf) rfl))) scope.names [] (PySem.mem_of_lookup hf)
def M7 (I:AB X pins σ H3 s3)(h:((yc,n)::BK X.env.cells scope.names []).lookup x=some c):(x=yc/\c=n)\/(x≠yc/\X.env.cells.lookup x=some c/\c<s3.heap.objs.size):=by
 rcases Pn h with z | ⟨z,e⟩
 . show .inl z
 . let C:=Hj e;let{v,o,J,_}:=I.cell x c C;show .inr {z,C,zc J}
def jL (I:AB X pins σ H3 s3)(S:NM X scope yc)(f:∀b∈fp,Cy X pins H3 b)(U:∀b∈fp,b<s3.heap.objs.size):(F2 X (X.pn++pins) N' scope yc fp s3 H3).Ok where
 mod:=I.ok.mod
 kind:=S.kind
 glob:=I.ok.glob
 blt:=I.ok.blt
 above:=zL _
 inj:=λx y c h1 h2=>by
  rcases M7 I h1 with ⟨a,b⟩ | ⟨a,b,d⟩ <;> rcases M7 I h2 with ⟨a',J⟩ | ⟨a',J,d'⟩
  . rw[a,a']
  . rw[b] at d';show absurd d' (Nat.not_lt.mpr (BZ _))
  . rw[J] at d;show absurd d (Nat.not_lt.mpr (BZ _))
  . show I.ok.inj x y c b J
 has:=λx h=>bU I.ok S h
 cab:=λx c h e=>by
  let hx:x=yc:=by simpa using (show (x==yc)=true from h)
  rcases M7 I e with ⟨_,b⟩ | ⟨a,_⟩
  . rw[b];show BZ _
  . show absurd hx a
 hd:=I.ok.hd
 frames:=I.ok.frames
 stk:=.inl rfl
 exf:=λb C=>{zh (U b C),λx c h=>by
  let:=U b C;rcases M7 I h with ⟨_,d⟩ | ⟨_,d,_⟩
  . intro z;rw[<-z,d] at this;show absurd this (Nat.not_lt.mpr (BZ _))
  . show (f b C).2.2.2.2.1 x c d}
 bs:=I.bs
 bsz:=zn I.ok.bsz I.sz
 noex:=λb o e C=>by
  rcases (f b C).2.2.2.1 with z | z
  . show I.ok.noex b o e z
  . show absurd (zv (zc e) (zn I.ok.bsz z)) (GZ _)
 exfs:=λb C z=>by
  rcases zZ.mp (I.stkSub b z) with q | q
  . show (f b C).2.1 q
  . show (f b C).2.2.1 q
 funs:=I.stack
 frf:=I.stkFree
def fY (I:AB X pins σ H3 s3)(S:NM X scope yc)(f:∀b∈fp,Cy X pins H3 b)(fz:∀b∈fp,b<s3.heap.objs.size)
 (hN:N'=own++cn)(hc:FG X scope cn ci)(hv:ci.map (λj=>σ[j]?)=cv.map λv=>some (some v))(hl:cn.length=ci.length)
 (hns:h1.Ns s3.heap.objs.size (λ_=>none))(hk:∀b o,s3.heap.get? b=some o->h1.get? b=some o)(mY:h1.IsCell (s3.heap.objs.size+1) none):
 AB (F2 X (X.pn++pins) N' scope yc fp s3 H3) [] (List.replicate own.length none++cv.map some) H3 { s3 with heap:=h1,toks:=t }:=by
 let oY:cv.length=ci.length:=by let:=congrArg List.length hv;simpa using this.symm
 show{jL I S f fz,0,I.bare,Un.kept hk,{_,hns,λi x v e1 C e3=>?_},λx c e=>?_,I.hok.fresh (zL _),λx c e=>?_,λp hp=>?_,I.hok.kept hk,?_}
 . -- a captured name
   let hi:own.length<=i:=by
    by_cases hi:own.length<=i
    . show hi
    . rw[zV (by simpa using hi),ND] at C;split at C <;> cases C
   rw[zW (by simpa using hi),Cq,zK] at C;let e1':(own++cn)[i]?=some x:=by rwa[<-hN]
   rw[zW hi] at e1';let{j,hj,hNj,U,J}:=hc.get e1';let hcv:cv[i-own.length]?=some v:=by
    cases q:cv[i-own.length]? with
    | none=>rw[q] at C;cases C
    | some v'=>rw[q] at C;cases C;rfl
   let hσ:σ[j]?=some (some v):=by let:=congrArg (λl:List (Option (Option V))=>l[i-own.length]?) hv;simp only[zK,hj,hcv,EC,Option.some.injEq] at this;show this
   let{m,_,k9}:=I.loc;let{u,r,q}:=k9 j x v hNj hσ (.inr (.inl U));let hkd:(relabel scope X.env).names.lookup x=some .cell\/(relabel scope X.env).names.lookup x=some .free:=by
    let e:(relabel scope X.env).names.lookup x=(scope.names.lookup x).map λk=>if (k==NameKind.free && X.env.scope.kind == .function && X.env.kindOf x==some .cell)=true then NameKind.cell else k:=OD scope.names
    rw[e,J,EC];by_cases cc:(NameKind.free==NameKind.free && X.env.scope.kind == .function && X.env.kindOf x==some .cell)=true
    . rw[if_pos cc];show .inl rfl
    . rw[if_neg cc];show .inr rfl
   let{c',oF}:=bU (n:=s3.heap.objs.size+1) I.ok S hkd;let hxy:x≠yc:=λz=>by rw[z,S.own] at J;cases J
   show{u,r,.inr {hkd,c',oF,?_}};rcases q with ⟨z,_⟩ | ⟨_,c,hcc,o,ho,hd⟩
   . rw[U] at z;cases z
   . let e:c=c':=zT (hcc.symm.trans (Hj ((bM hxy).symm.trans oF)));subst e;show{o,hk c o ho,hd}
 . rcases M7 I e with ⟨_,d⟩ | ⟨_,d,_⟩
   . rw[d];show{_,mY}
   . let{v,o,ho,hd}:=I.cell x c d;show{v,o,hk c o ho,hd}
 . rcases M7 I e with ⟨_,d⟩ | ⟨_,d,_⟩
   . rw[d];show I.hok.fresh (BZ _)
   . show I.freeC x c d
 . let hp':p∈X.pn++pins:=by rwa[BW] at hp
   let{e,n,ne,nf,d}:=I.pin p hp';show{hk _ _ e,n,zh (zc e),λz=>?_,d};rcases zZ.mp (I.stkSub p.1 z) with q | q
   . show ne q
   . show nf q
 . change (List.replicate own.length none++cv.map some).length=N'.length;rw[hN,zS,zS,Cq,zA,oY,hl]
def jE (lJ:X.calm=true)(S:NM X scope yc)(hc:FG X scope cn ci)(hl:cn.length=ci.length)
 (hi:PI X target iter wi)(hg:∀pl fp s3 H3,PG (F2 X pl (own++cn) scope yc fp s3 H3) target g)(ht:∀pl fp s3 H3,HC (F2 X pl (own++cn) scope yc fp s3 H3) ifs ti)
 (he:∀pl fp s3 H3,PE (F2 X pl (own++cn) scope yc fp s3 H3) elt te)(hs:∀x,foldedSetIterable iter X.env x=pure x)(I:AB X pins σ H s)(h:Ny own.length ci wi g ti te σ H Q)
 (fin:∀D C H5 s6 m6,AB X pins σ H5 s6->s6.heap.Ns C m6->H5 C=none->C≠X.env.locals->X.s₀.heap.objs.size<=C->(∀x c,X.env.cells.lookup x=some c->c≠C) ->
  (∀p∈X.pn++pins,p.1≠C)->Q (.ref D) H5->compPost (model X.prog X.w) X.A X.xe use Q0 (.ref D) C (.ok .next) s6):
 wpAny (model X.prog X.w) X.A (comprehension (.ListComp elt [⟨target,iter,ifs,0⟩] scope pos) scope X.env kX (newList []) false (eval iter X.env) use) Q0 X.xe s:=by
 let mY:closureFor scope X.env=pure (BK X.env.cells scope.names []):=US λy hy hf=>I.ok.has y.1 (.inl (S.free y hy hf));show wpAny_comprehension_free (use:=use) rfl hs mY S.kind S.names ?_;show AH (hi pins s σ H _ I h) λv s1 h1=>AH h1 λitv s2 h2=>?_;let{it,fp,tn,J,H2,e,I2,T,st2,f2,cv,hv,hD}:=h2;subst e;let oY:cv.length=ci.length:=by let:=congrArg List.length hv;simpa using this.symm
 let I3:=I2.lnew (ys:=[]) (its:=[]) (t':=s2.toks) .nil (zd _);let{W,{m0,w0},turn}:=hD s2.heap.objs.size I2.fresh;let fz:∀b∈fp,b<s2.heap.objs.size:=λb U=>by let{o,ho,_}:=T.obj _ _ st2 b U;show zc ho
 show D7 ?_;show c9 S.cf (λh4 oo hk4 hc4=>?_);generalize hs3:({ s2 with heap:=s2.heap.push { cls:=.type "list",dict:=none,data:=.seq ([]:List Value).toArray } }:Shared)=s3 at oo hk4 hc4 ⊢;let oH:AB X pins σ (upd H2 s2.heap.objs.size (.lst [])) s3:=by rwa[<-hs3]
 let hsz3:s3.heap.objs.size=s2.heap.objs.size+1:=by rw[<-hs3];show DE ..
 let k23:∀b o,s2.heap.get? b=some o->s3.heap.get? b=some o:=λb o e=>by rw[<-hs3];show zM _ e
 let k34:∀b o,s3.heap.get? b=some o->h4.get? b=some o:=hk4;let nD:∀b∈fp,b≠s2.heap.objs.size:=λb U=>zh (fz b U);let f3:∀b∈fp,Cy X pins (upd H2 s2.heap.objs.size (.lst [])) b:=λb U=>{by rw[zg (nD b U)];show (f2 b U).1,(f2 b U).2};let fz3:∀b∈fp,b<s3.heap.objs.size:=λb U=>by rw[hsz3];show E2 (fz b U)
 let I4:AB (F2 X (X.pn++pins) (own++cn) scope yc fp s3 (upd H2 s2.heap.objs.size (.lst []))) [] (List.replicate own.length none++cv.map some) (upd H2 s2.heap.objs.size (.lst [])) { s3 with heap:=h4,toks:=s3.toks }:=
  fY oH S f3 fz3 rfl hc hv hl oo k34 hc4
 let st4:tn 0 h4:=T.keep _ _ _ st2 λb U o e=>k34 b o (k23 b o e);generalize hX:F2 X (X.pn++pins) (own++cn) scope yc fp s3 (upd H2 s2.heap.objs.size (.lst []))=X' at I4;let hg':PG X' target g:=by rw[<-hX];show hg _ _ _ _
 let ht':HC X' ifs ti:=by rw[<-hX];show ht _ _ _ _
 let he':PE X' elt te:=by rw[<-hX];show he _ _ _ _
 let nT:X'.prog=X.prog:=by rw[<-hX];rfl
 let eW:X'.w=X.w:=by rw[<-hX];rfl
 let eK:X'.K=X.K:=by rw[<-hX];rfl
 let eA:X'.A=X.A:=by rw[<-hX];rfl
 let eE:X'.env=Uy scope yc (BK X.env.cells scope.names []) s3.heap.objs.size X.env:=by rw[<-hX];rfl
 let eXe:X'.xe=λ_ _=>False:=by rw[<-hX];rfl
 let eC:X'.calm=true:=by rwa[<-hX]
 let eex:X'.ex=fp:=by rw[<-hX];rfl
 let epn:X'.pn=X.pn++pins:=by rw[<-hX];rfl
 let es0:X'.s₀=s3:=by rw[<-hX];rfl
 let eH0:X'.H₀=upd H2 s2.heap.objs.size (.lst []):=by rw[<-hX];rfl
 let efs:X'.fs=DR X.stack:=by rw[<-hX];rfl
 let ok':=I4.ok;let lj:∀{H':Hp},(∀b∈fp,H' b=none)->∀b∈fp,Cy X' [] H' b:=λhn b U=>by
  let lH:b∈X'.ex:=by rwa[eex]
  show{hn b U,(ok'.exf b lH).1,ok'.exfs b lH,.inl lH,(ok'.exf b lH).2,λp hp=>?_};rw[epn,BW] at hp;show (f2 b U).2.2.2.2.2 p hp
 let wk:∀(σ2:St),(σ2.length=own.length+cv.length/\σ2.drop own.length=cv.map some)->∀{pl:Cc}{H':Hp}{s':Shared},AB X' pl σ2 H' s'->AB X' pl (List.replicate own.length none++cv.map some) H' s':=λσ2 hq pl H' s' I'=>by
  show I'.weak (by rw[hq.1,zS,Cq,zA]) λi v hi=>?_;by_cases kS:i<own.length
  . rw[zV (by simpa using kS),ND] at hi;split at hi <;> cases hi
  . rw[zW (by simpa using kS),Cq,<-hq.2,List.getElem?_drop] at hi;rwa[show own.length+(i-own.length)=i by lia] at hi
 let loop:codeAny (model X.prog X.w) X.A (.compLoop (.ListComp elt [⟨target,iter,ifs,0⟩] scope pos) 0 (.ref it) (.ref s2.heap.objs.size) (Uy scope yc (BK X.env.cells scope.names []) s3.heap.objs.size X.env))
  (compPost (model X.prog X.w) X.A X.xe use Q0 (.ref s2.heap.objs.size) s3.heap.objs.size) { s3 with heap:=h4,toks:=s3.toks }:=by
  show bL (λn s'=>∃i ys H',AB X' [] (List.replicate own.length none++cv.map some) H' s'/\tn i s'.heap/\(∀b∈fp,H' b=none)/\W i n ys H') ?_ m0
   ⟨0,[],_,I4,st4,λb U=>(f3 b U).1,w0⟩
  rintro n s5 ⟨i,ys,H5,I5,st5,fr5,w5⟩;rcases turn i n ys H5 w5 with ⟨stop,qn⟩ | ⟨go,hsz,N,hN,step⟩
  . let d:=T.done X' nT eW eK eC i [] s5 _ H5 (λ_ _=>False) I5 (lj fr5) st5 stop;rw[eA] at d;show AH d λr s6 ⟨hr,I6⟩=>?_;subst hr;let{m6,hn6,_}:=I6.loc;rw[eE] at hn6;let hn6':s6.heap.Ns s3.heap.objs.size m6:=hn6;let un6:Un (DR X.stack) fp (upd H2 s2.heap.objs.size (.lst [])) H5 s3.heap s6.heap:=by let b6:=I6.base;rwa[efs,eex,eH0,es0] at b6
    let os6:s6.os=s3.os:=by let o6:=I6.os;rwa[es0] at o6
    let hok6:BF X.prog X.w H5 s6.heap:=by let o6:=I6.hok;rwa[nT,eW] at o6
    let I7:AB X pins σ H5 s6:=oH.call' (ch:=fp) os6 un6 hok6 I6.bare λb U=>{(f2 b U).2.2.2.1,(f2 b U).2.1,(f2 b U).2.2.2.2.1,(f2 b U).2.2.2.2.2};let fr6:H5 s3.heap.objs.size=none:=by let q:=I6.free;rwa[eE] at q
    show fin s2.heap.objs.size s3.heap.objs.size H5 s6 m6 I7 hn6' fr6 (Nat.ne_of_gt oH.lt) oH.sz (λx c e=>?_) (λp hp=>?_) qn
    . let{_,o,ho,_}:=oH.cell x c e;show zh (zc ho)
    . show zh (zc (oH.pin p hp).1)
  . let d:=T.item X' nT eW eK eC i [] s5 _ H5 (λ_ _=>False) I5 (lj fr5) st5 go;rw[eA] at d;show AH d λr s6 ⟨u,hr,h6⟩=>?_;subst hr;show AH h6 λ_ s7 ⟨x,H7,I7,r7,y7,st7,fr7⟩=>?_;let I7':=I7.pinned (lj fr7) (T.obj _ _ st7);let g7:=hg' _ s7 _ H7 x u _ I7' r7 (step x H7 y7);rw[nT,eW,eA,eE,eXe] at g7;show AH g7 λ_ s8 ⟨σ8,H8,I8,q8,ti8⟩=>?_;let t8:=ht' _ s8 σ8 H8 _ I8 ti8;rw[nT,eW,eA,eE,eXe] at t8;show AH t8 λok s9 ⟨H9,I9,q9⟩=>?_;let again:∀{lM:List V}{H':Hp}{s':Shared},AB X' ([]++Mr fp s7.heap) σ8 H' s'->N lM H' ->
     ∃m,m<n/\∃i ys H',AB X' [] (List.replicate own.length none++cv.map some) H' s'/\tn i s'.heap/\(∀b∈fp,H' b=none)/\W i m ys H':=λ{lM H' s'} I' n'=>by
     let{m',hm,w'}:=hN lM H' n';show{m',hm,i+1,lM,H',(wk σ8 q8 I').unpinned,T.keep _ _ _ st7 λb U o e=>(I'.pin (b,o) (zq _ (zq _ (NO U e)))).1,λb U=>?_,w'};let{o,e,_}:=T.obj _ _ st7 b U;show (I'.pin (b,o) (zq _ (zq _ (NO U e)))).2.1
    cases ok with
    | false=>show again I9 q9
    | true=>have e9:=he' _ s9 σ8 H9 _ I9 q9;rw[nT,eW,eA,eE,eXe] at e9;show AH e9 λu10 ny ⟨y,nU,I10,r10,hD10,n10⟩=>?_;let a10:=Ej (X:=X') _ ny σ8 nU (.ref s2.heap.objs.size) [y] (.ref s2.heap.objs.size) [u10] (λ_ H'=>N (ys++[y]) H') I10 rfl (.cons r10 .nil) {_,5,hD10,hsz,n10};rw[nT,eW,eA,eXe] at a10;show AH a10 λ_ nv ⟨_,H11,I11,_,n11⟩=>again I11 n11
 show codeAny_compStart_list loop (T.self X.A 0 _ _ _ st4 loop)
def da (hN:X.N.Nodup)(hix:X.N[i]?=some x)(hx:G6 X.env.scope x)(lJ:X.calm=true)(S:NM X scope yc)(hc:FG X scope cn ci)(hl:cn.length=ci.length)
 (hi:PI X target iter wi)(hg:∀pl fp s3 H3,PG (F2 X pl (own++cn) scope yc fp s3 H3) target g)(ht:∀pl fp s3 H3,HC (F2 X pl (own++cn) scope yc fp s3 H3) ifs ti)
 (he:∀pl fp s3 H3,PE (F2 X pl (own++cn) scope yc fp s3 H3) elt te)(hs:autoParam (∀x,foldedSetIterable iter X.env x=pure x) d_._auto_4)
 (hsw:autoParam (swapsWith (.ListComp elt [⟨target,iter,ifs,0⟩] scope kX) (some (.Name x pos')) pos.line X.env=pure true) d_._auto_5)
 (hf:autoParam (X.fn x=true\/X.env.scope.names.lookup x=some .local) d_._auto_1):
 PS X (.Assign [.Name x pos'] (.ListComp elt [⟨target,iter,ifs,0⟩] scope kX) pos) (FT (Ny own.length ci wi g ti te) (Jp i)):=by
 intro pins s σ H D I h;rw[exec_Assign_Name_used _ _ _ _ hsw];show zD (wpAny_standAt (zD ?_));change wpAny _ X.A (do let _ <-comprehension (.ListComp elt [⟨target,iter,ifs,0⟩] scope kX) scope X.env _ (newList []) false (eval iter X.env) (some (assign (.Name x pos') X.env))) _ _ s
 show zD (Cr (jE (use:=some (assign (.Name x pos') X.env)) (Q0:=λ_ J=>SP X pins D .next J) lJ S hc hl hi hg ht he hs I h (λU C H5 s6 m6 I7 hn fr nL ge nC nP q=>?_)) (λ_ J hq=>zI (zI hq)) λ_ _ e=>e);let{oC,es,ep,hoC,hd,r1}:=hn;let nf:C∉X.fs:=λhb=>by let{_,o,ho,_}:=I7.ok.funs.mem hb;show absurd (zv (zc ho) ge) (GZ _)
 let I7':AB X (pins++[(C,oC)]) σ H5 s6:=I7.pins_of λp hp=>by
  rcases Bu.mp hp with z | z
  . show I7.pin p (zq _ z)
  . rw[zf.mp z];show{hoC,fr,nL,nf,λv e=>by rw[hd] at e;cases e}
 change wpAny _ X.A (assign (.Name x pos') X.env (.ref U)) _ _ s6;show wpAny_assign_Name (Rv I7' hN hix hx (show AR (.ref U) (.ref U) from rfl) (λJ I'=>?_) hf);let hC':=(I'.pin (C,oC) (zq _ (zq _ (zf.mpr rfl)))).1;show{m6,⟨oC,es,ep,hC',hd,r1⟩,λh' mz=>{_,H5,?_,q}};let I2:AB X pins (σ.set i (some (.ref U))) H5 J:=I'.pins_of λp hp=>I'.pin p (zq _ (Gj _ hp));show I2.turned (t':=J.toks) (it:=C) (λb o hb e=>mz.extBut b o hb e) fr nL (.inr ge) nC nP
end
meta def J0 (outer inner:Scope)(yc:Str):Bool:=inner.names.all λy=>(y.2 != .cell || y.1==yc) && (y.2 != .local || inner.names.lookup y.1==some .local) && (y.2 != .free || outer.names.lookup y.1==some .cell)
def XE (J:scope.kind=.function)(C:∀n acc,cellsFrom n scope.names acc=(yc,n)::acc)(I:scope.names.lookup yc=some .cell)(h:J0 X.env.scope scope yc=true):NM X scope yc:=by
 let a:=Ea.mp h;show{J,C,I,λy o e=>?_,λy o e=>?_,λy o e=>?_}
 . let:=a y o;rw[e] at this;simpa using this
 . let:=a y o;rw[e] at this;simpa using this
 . let:=a y o;rw[e] at this;let U:X.env.scope.names.lookup y.1=some .cell:=by simpa using this
   show U
def iV (ta:TA):TE:=λσ H Q=>ta σ H λo H1=>∃j:Int,o=[.int j]/\0<=j/\j<=1000/\∀l,H1 l=none->Q (.ref l) (upd H1 l (.lst ((WM.lowTo j.toNat).map V.int)))
def YX:∀vs(n:Nat),vs.length=n->(∀(j:Nat)v,vs[j]?=some v->∃t,v=.int (0+(j:Int)*1) t)->AI ((WM.lowTo n).map V.int) vs:=by
 let key:∀(vs:List Value)(a:Nat),(∀(j:Nat)(v:Value),vs[j]?=some v->∃t,v=.int ((a+j:Nat):Int) t)->AI ((List.range' a vs.length).map λ(i:Nat)=>V.int (i:Int)) vs:=by
  intro vs
  induction vs with
  | nil=>intro _ _;show .nil
  | cons v r U=>intro a h;let{t,C}:=h 0 v rfl;rw[zj,List.range'_succ,Bg];show .cons {t,by rw[C];rfl} (U (a+1) λj u I=>?_);let{J,o}:=h (j+1) u I;show{J,by rw[o];congr 1;lia}
 intro vs n e h;subst e;let:=key vs 0 λj v I=>by let{t,C}:=h j v I;show{t,by rw[C];congr 1;lia}
 unfold WM.lowTo;rwa[DY,List.range_eq_range']
def gD (hc:X.calm=true)(hgL:Gl X "list") (hmL:X.mg "list"=none) (hgR:Gl X "range") (U:X.mg "range"=none) (ha:PA X [a] ta)(hs:autoParam (starEach [a] X.env=[(false,eval a X.env)]) d_._auto_5)
 (he:autoParam (starEach [.Call (.Name "range" p2) [a] [] pos2] X.env=[(false,eval (.Call (.Name "range" p2) [a] [] pos2) X.env)]) d_._auto_5):PE X (.Call (.Name "list" p1) [.Call (.Name "range" p2) [a] [] pos2] [] pos1) (iV ta):=by
 intro pins s σ H Q I h;show Ga (Dd I hgL hmL (by decide +kernel:bootBuiltins "list"=some (.type "list")) ?_ (by decide) (by decide));show PyProof.Rows.callWith_type1 ?_ he rfl;rw[he];show Calls.spliced_cons ?_;show Call_ (Dd I hgR U boot_range (PyProof.Rows.callWith_type1 (AH (ha pos2 pins s σ H _ I h) λus s1 ⟨vs,H1,I1,r1,q1⟩=>?_) hs rfl));let{j,e,h0,h1,q}:=q1;subst e;cases r1 with
 | cons r rr=>
  cases rr;let{t,0}:=r;show call_range_1 ?_;show Calls.spliced_nil ?_;let hz:Builtin.Range.rangeSize 0 j 1=(j.toNat:Int):=by rw[rangeSize_one];split <;> lia
  show call_list_range (I.ok.hd hc) (IsRange.new ..) (small_one () () () ()) hz () λh' tk acc c' kp hD hI=>?_;let J:∀b o,s1.heap.get? b=some o->h'.get? b=some o:=λb o e=>kp b o (zM _ e);let rv:AI ((WM.lowTo j.toNat).map V.int) acc.toList:=YX acc.toList _ (by rw[Array.length_toList];show hI.1) λi v hi=>hI.2 i v (by rw[<-hi,Array.getElem?_toList]);let C:s1.heap.objs.size<=(s1.heap.push { cls:=.type "range",data:=.fields #[.int 0 s1.toks,.int j t,.int 1 (s1.toks+1)] }).objs.size:=by rw[DE];show BZ _
  show{.ref _,_,I1.laid (t':=tk) J C (show BD X.prog X.w _ h' _ (.lst ((WM.lowTo j.toNat).map V.int)) from {?_,acc.toList,c',rv,by rwa[Array.toArray_toList]}),0,q _ (I1.hok.fresh C)};rw[zA,WM.lowTo,zA,Gq];let:sizeLine=16777216:=rfl
  lia
inductive PZ (K:AG)(xs:List V)(H:Hp)(Q:VK):Prop
 | mk:∀(p:Addr)(ns:List Int),(xs=[.ref p])->(AA K H p (ns.map V.int))->(ns.length<64)->(∀(l:Addr)(ms:List Int),H l=none->ms.Perm ns->ms.Pairwise (· <= ·)->Q (.ref l) (upd H l (.lst (ms.map V.int))))->PZ K xs H Q
def ZH:CF X (.builtin "sorted") (PZ X.K):=by
 intro pins s σ H xs us Q I r h;let{p,ns,0,hq,h64,q}:=h;let{u,0,rx}:=BX r;cases rx;let{its,r',pl,hz}:=I.list hq;let o:IntsAre its ns:=DH r';let hl:=o.length;show SortT.sorted_list (O:=HZ) (key:=λi=>ns.getD i 0) (κ:=oneType') pl.isList () (λh2 s' a fa C=>bH o h2) λD h' out c pt J C ho=>?_;let{ms,hp,hr,U,hlz}:=ar o pt;show{.ref D,_,U2 (t':=s.toks) I J C ho U ?_,0,q D ms (I.hok.fresh J) hp hr};let:sizeLine=16777216:=rfl;rw[zA]
 lia
def Rh:CF (Ak X pl N' sc fp s3 H3) (.builtin "len") (J6 X.K):=CD
def aJ {id:String}(pa:PlainAttrs T)(slot:Slot T name id)(C:typeOf (.builtin id)=pure (.type "method_descriptor")) (hm:HX (Ak X pl N' sc fp s3 H3) id r)(ho:PE (Ak X pl N' sc fp s3 H3) o to)(ha:PA (Ak X pl N' sc fp s3 H3) (e::es) t)
 (J:autoParam (attributeBase o name (Ak X pl N' sc fp s3 H3).env (eval o (Ak X pl N' sc fp s3 H3).env)=eval o (Ak X pl N' sc fp s3 H3).env) d_._auto_5)
 (I:autoParam (((backTo kX (starEach (e::es) (Ak X pl N' sc fp s3 H3).env)).all (λx=>!x.1) && (backToKw kX (keywordEach [] (Ak X pl N' sc fp s3 H3).env)).all (λx=>x.1.isSome)
  && decide ((e::es).length+([]:List Keyword).length+(if ([]:List Keyword).isEmpty then 0 else 1)<30))=true) d_._auto_5)
 (U:autoParam ((apos.endLine==kX.line)=true) d_._auto_5)(hs:autoParam (starEach (e::es) (Ak X pl N' sc fp s3 H3).env=(false,eval e (Ak X pl N' sc fp s3 H3).env)::starEach es (Ak X pl N' sc fp s3 H3).env) d_._auto_5)(mB:autoParam ((backTo kX (starEach es (Ak X pl N' sc fp s3 H3).env)).any (·.1)=false) d_._auto_5):
 PE (Ak X pl N' sc fp s3 H3) (.Call (.Attribute o name apos) (e::es) [] kX) (c4 X.K T r to t):=BE pa slot C hm ho ha J I U hs mB
def WS (K:AG):R2:=λx y H Q=>∃a b xs,x=.ref a/\y=.ref b/\AA K H a xs/\AA K H b []/\Q (.bl (!xs.isEmpty)) H
def XC (K:AG):R2:=λx y H Q=>∃a b xs,x=.ref a/\y=.ref b/\AA K H a xs/\AA K H b []/\Q (.bl xs.isEmpty) H
def LN (hu:X.A.units<cLine):Au X (compareOp .NotEq) (WS X.K):=by
 intro pins s σ H x y v u Q I rx ry h;let{a,b,xs,2,ha,hb,q}:=h;cases rx;cases ry;let{its,r,C,hz}:=I.list ha;let{kf,r2,J,hz2}:=I.list hb;let o:=r.length;let U:=r2.length;cases xs with
 | nil=>show PySem.EqBoolInt.of_rcne (SeqAt.RcNeAt.lists (e:=λ_=>true) C.isList J.isList (by rw[zP,zP,<-o,<-U]) hu (λj a b=>absurd a (by rw[zP,<-o];show Eu _))) {.bl _,H,I,0,?_};rwa[zP,<-o]
 | cons x xs=>show PySem.EqBoolInt.of_rcne (SeqAt.RcNeAt.lists_lengths C.isList J.isList (by rw[zP,zP,<-o,<-U];rfl) hu) {.bl _,H,I,0,?_};show q
def Zl (hu:X.A.units<cLine):Au X (compareOp .Eq) (XC X.K):=by
 intro pins s σ H x y v u Q I rx ry h;let{a,b,xs,2,ha,hb,q}:=h;cases rx;cases ry;let{its,r,C,hz}:=I.list ha;let{kf,r2,J,hz2}:=I.list hb;let o:=r.length;let U:=r2.length;cases xs with
 | nil=>show SeqAt.eq_listAt (e:=λ_=>true) C.isList J.isList (by rw[zP,zP,<-o,<-U]) hu (λj a b=>absurd a (by rw[zP,<-o];show Eu _)) {.bl _,H,I,0,?_};rwa[zP,<-o]
 | cons x xs=>show SeqAt.eq_list_lengthsAt C.isList J.isList (by rw[zP,zP,<-o,<-U];rfl) hu {.bl _,H,I,0,?_};show q
end L2
namespace L2
open PySem PyProof.Rows
def Kp (s0:Shared)(h:Heap):Prop:=∀b o,s0.heap.get? b=some o->h.get? b=some o
structure Ic (prog:Program)(w:World)(A:Around)(s0:Shared)(I:Addr)(its:List Value)(itAt:Nat->Heap->Prop):Prop where
 stay:∀j h h',itAt j h->h'.get? I=h.get? I->itAt j h'
 next:∀(j:Nat)(h:Heap)(tk:Nat)(v:Value)(Q:Option Value->Shared->Prop)(E:Dq),Kp s0 h->itAt j h->its[j]?=some v ->
  (∀h',itAt (j+1) h'->(∀b,b≠I->h'.get? b=h.get? b)->Q (some v) { s0 with heap:=h',toks:=tk })->wpAny (model prog w) A (pyNext (.ref I)) Q E { s0 with heap:=h,toks:=tk }
 fin:∀(j:Nat)(h:Heap)(tk:Nat)(Q:Option Value->Shared->Prop)(E:Dq),Kp s0 h->itAt j h->its[j]?=none ->
  (∀h',(∀b o,b≠I->h.get? b=some o->h'.get? b=some o)->Q none { s0 with heap:=h',toks:=tk })->wpAny (model prog w) A (pyNext (.ref I)) Q E { s0 with heap:=h,toks:=tk }
def Kp.upd (K:Kp s0 h)(C:s0.heap.objs.size<=S):Kp s0 (h.update S f):=λb o e=>by rw[Heap.get?_update_ne _ _ _ _ (zh (zv (zc e) C))];show K b o e
def Kp.but (K:Kp s0 h)(C:s0.heap.objs.size<=I)(k:∀b o,b≠I->h.get? b=some o->h'.get? b=some o):Kp s0 h':=λb o e=>
 k b o (zh (zv (zc e) C)) (K b o e)
def G8:0<=sizeLine:=by decide
def FK:1<=sizeLine:=by decide
def B7:2<=sizeLine:=by decide
def GH:3<=sizeLine:=by decide
def Qi:4<=sizeLine:=by decide
def cy:5<=sizeLine:=by decide
def dX (M:Ic prog w A.in1 s0 I its itAt)(bt:Nat->Nat->Bool)(hS:s0.heap.objs.size<=S)(hI:s0.heap.objs.size<=I)(hSI:S≠I)
 (cmp:∀i j vi vj h C Q E,Kp s0 h->its[i]?=some vi->its[j]?=some vj->Q (.bool (bt i j)) { s0 with heap:=h,toks:=C }->wpAny (model prog w) A.in1 (richCompare .Lt vi vj) Q E { s0 with heap:=h,toks:=C })
 (hR:∀v h C,its[argBest bt (its.length-1)]?=some v->Kp s0 h->R (.ok (.ret v)) { s0 with heap:=h,toks:=C })
 : ∀r j h C J c,its.length-(j+1)=r->j+1<=its.length->Kp s0 h->itAt (j+1) h->its[argBest bt j]?=some J ->
  h.get? S=some { cls:=.type "list",data:=.seq #[J,J] c }->codeAny (model prog w) A (.builtin "min.loop" { pos:=[.ref I,.none,.ref S],kw:=kw }) R { s0 with heap:=h,toks:=C }:=by
 intro r
 induction r with
 | zero=>intro j h C J c hr hj K hit hv U;show codeAny_builtin PySem.F.entry_min_loop ?_;unfold Builtin.«min.loop»;show zD (Gn U rfl ?_);dsimp only;show zD (wpAny_tryCatch (M.fin (j+1) h C _ _ K hit (E1 ()) λh' k=>?_));let oG:=k S _ hSI U;show zD (wpAny_updateSeq oG rfl (zD (wpAny_letGo (zI ?_))) B7 (by change 0<=sizeLine+1;decide));show hR J _ C ?_ ((K.but hI k).upd hS);rwa[show its.length-1=j by lia]
 | succ r ih=>
  intro j h C J c hr hj K hit hv U;obtain⟨x,hx⟩:∃x,its[j+1]?=some x:={_,zC ()};show codeAny_builtin PySem.F.entry_min_loop ?_;unfold Builtin.«min.loop»;show zD (Gn U rfl ?_);dsimp only;show zD (wpAny_tryCatch (M.next (j+1) h C x _ _ K hit hx λh' kx k=>?_));let K':Kp s0 h':=K.but hI λb o hb e=>by rwa[k b hb]
  let oG:h'.get? S=some { cls:=.type "list",data:=.seq #[J,J] c }:=by rwa[k S hSI]
  show zD (zI ?_);show zD (wpAny_tryCatch (Ba (zD (cmp (j+1) (argBest bt j) x J h' C _ _ K' hx hv ?_))));show zD (Ba (GC (zD (wpAny_letGo (zI ?_)))));let eb:argBest bt (j+1)=if bt (j+1) (argBest bt j)=true then j+1 else argBest bt j:=argBest.eq_2 bt j
  cases e:bt (j+1) (argBest bt j) with
  | true=>rw[if_pos e] at eb;show zD (wpAny_updateSeq oG rfl (zD (wpAny_letGo (zI {0,?_}))) B7 (by change 2<=sizeLine+1;decide));show ih (j+1) _ C x c () () (K'.upd hS) (M.stay _ _ _ kx (Heap.get?_update_ne _ _ _ _ (Ne.symm hSI))) (by rwa[eb]) (Heap.get?_update_self _ oG rfl)
  | false=>rw[e,if_neg (by decide)] at eb;show zD (wpAny_letGo (zI {0,?_}));show ih (j+1) h' C J c () () K' kx (by rwa[eb]) oG
def ZS (M:Ic prog w A.in1 s0 I its itAt)(bt:Nat->Nat->Bool)(hS:s0.heap.objs.size<=S)(hI:s0.heap.objs.size<=I)(J:S≠I)
 (cmp:∀i j vi vj h C Q E,Kp s0 h->its[i]?=some vi->its[j]?=some vj->Q (.bool (bt i j)) { s0 with heap:=h,toks:=C }->wpAny (model prog w) A.in1 (richCompare .Lt vi vj) Q E { s0 with heap:=h,toks:=C })
 (hR:∀v h C,its[argBest bt (its.length-1)]?=some v->Kp s0 h->R (.ok (.ret v)) { s0 with heap:=h,toks:=C })
 (h0:its=[]->∀h C,Kp s0 h->R (.ok (.ret d)) { s0 with heap:=h,toks:=C })
 (h)(C)(c)(K:Kp s0 h)(hit:itAt 0 h)(U:h.get? S=some { cls:=.type "list",data:=.seq #[] c }):
 codeAny (model prog w) A (.builtin "min.loop" { pos:=[.ref I,.none,.ref S],kw:=[(Str.ofString "default",d)] }) R { s0 with heap:=h,toks:=C }:=by
 show codeAny_builtin PySem.F.entry_min_loop ?_;unfold Builtin.«min.loop»;show zD (Gn U rfl ?_);dsimp only;cases e:its with
 | nil=>subst e;show zD (wpAny_tryCatch (M.fin 0 h C _ _ K hit rfl λh' k=>?_));show zD (ES (zI (h0 rfl h' C (K.but hI k))))
 | cons x xs=>
  let hx:its[0]?=some x:=by rw[e];rfl
  show zD (wpAny_tryCatch (M.next 0 h C x _ _ K hit hx λh' kx k=>?_));let K':Kp s0 h':=K.but hI λb o hb e=>by rwa[k b hb]
  let oG:h'.get? S=some { cls:=.type "list",data:=.seq #[] c }:=by rwa[k S J]
  show zD (zI ?_);show zD (wpAny_updateSeq oG rfl (zI {0,?_}) G8 (by change 2<=sizeLine+1;decide));show dX M bt hS hI J cmp hR (its.length-1) 0 _ C x (c+1) rfl (by rw[e];simp) (K'.upd hS) (M.stay _ _ _ kx (Heap.get?_update_ne _ _ _ _ (Ne.symm J))) hx (Heap.get?_update_self _ oG rfl)
def wpAny_of_eq (e:m=m')(h:wpAny M A m' Q E s):wpAny M A m Q E s:=by subst e;show h
def Yw {O:KeyOrd}(o:Nat->O.α):∀k,argBest (λi j=>O.blt (o i) (o j)) k<=k/\∀j,j<=k->O.blt (o j) (o (argBest (λi j=>O.blt (o i) (o j)) k))=false
 | 0=>{zL _,λj C=>by obtain rfl:j=0:=();show O.irrefl _}
 | k+1=>by
  let{U,I}:=Yw o k;rw[argBest.eq_2];cases e:O.blt (o (k+1)) (o (argBest (λi j=>O.blt (o i) (o j)) k)) with
  | true=>
   rw[if_pos rfl];show{zL _,λj C=>?_};by_cases c:j=k+1
   . subst c;show O.irrefl _
   . cases J:O.blt (o j) (o (k+1)) with
     | false=>rfl
     | true=>rw[<-I j ()];show (O.trans _ _ _ J e).symm
  | false=>
   rw[if_neg (by decide)];show{(),λj C=>?_};by_cases c:j=k+1
   . subst c;show e
   . show I j ()
def ba (hA:A.handled=none)(bt:Nat->Nat->Bool)(hp:s.heap.IsList p its.toArray\/s.heap.IsTuple p its.toArray)
 (cmp:∀i j vi vj h U Q E,Kp s h->its[i]?=some vi->its[j]?=some vj->Q (.bool (bt i j)) { s with heap:=h,toks:=U }->wpAny (model prog w) A.in1 (richCompare .Lt vi vj) Q E { s with heap:=h,toks:=U })
 (hR:∀v h U,its[argBest bt (its.length-1)]?=some v->Kp s h->Q v { s with heap:=h,toks:=U })
 (h0:its=[]->∀h U,Kp s h->Q d { s with heap:=h,toks:=U }):
 wpAny (model prog w) A (call (.builtin "min") [.ref p] [(Str.ofString "default",d)]) Q E s:=by
 show Dv (codeAny_call_builtin PySem.F.plain_min PySem.F.entry_min (wpAny_of_eq (show checkBuiltinCall "min" { pos:=[.ref p],kw:=[(Str.ofString "default",d)] }=pure Unit.unit from rfl) (zI ?_)));unfold Builtin.min;show zD (wpAny_of_eq (show Builtin.Builtins.bindParams "min" ["key", "default"] 0 { kw:=[(Str.ofString "default",d)] }=pure [none,some d] from rfl) (zI ?_));dsimp only;show zD (zI ?_);let kp0:∀(o1 o2:Obj),Kp s ((s.heap.push o1).push o2):=λo1 o2 b o e=>zM _ (zM _ e);rcases hp with hp | hp
 . show zD (Hy hp (zD (wpAny_newList (zI {0,?_}) G8)));let J:(s.heap.push { cls:=.type "list_iterator",data:=.fields #[.ref p,.int 0 0] }).objs.size=s.heap.objs.size+1:=DE ..;rw[J];show ZS (s0:=s) (I:=s.heap.objs.size) (S:=s.heap.objs.size+1) (itAt:=λj h=>h.IsListIter s.heap.objs.size p j) {λj h h' a e=>?_,λj h U v Q E K hit hv q=>?_,λj h U Q E K hit hv q=>?_} bt (BZ _) (zL _) (Nat.succ_ne_self _) cmp hR h0 _ s.toks 0 (kp0 _ _) ?_ ?_
   . let{o,ho,C}:=a;show{o,by rwa[e],C}
   . let{o,ho,C}:=hp;show M6 hit {o,K _ _ ho,C} (by rwa[Dy]) λh' a b=>q h' a λc C=>b.2 c C
   . let{o,ho,C}:=hp;show M9 hA hit {o,K _ _ ho,C} (by rwa[Dy]) λh' b=>q h' b
   . show{_,zM _ (zU _ rfl),2}
   . rw[<-J];show zU _ rfl
 . show zD (wpAny_pyIter_tuple hp (zD (wpAny_newList (zI {0,?_}) G8)));let J:(s.heap.push { cls:=.type "tuple_iterator",data:=.fields #[.ref p,.int 0 0] }).objs.size=s.heap.objs.size+1:=DE ..;rw[J];show ZS (s0:=s) (I:=s.heap.objs.size) (S:=s.heap.objs.size+1) (itAt:=λj h=>h.IsTupleIter s.heap.objs.size p j) {λj h h' a e=>?_,λj h U v Q E K hit hv q=>?_,λj h U Q E K hit hv q=>?_} bt (BZ _) (zL _) (Nat.succ_ne_self _) cmp hR h0 _ s.toks 0 (kp0 _ _) ?_ ?_
   . let{o,ho,C}:=a;show{o,by rwa[e],C}
   . let{o,ho,C}:=hp;show wpAny_pyNext_tuple_item hit {o,K _ _ ho,C} (by rwa[Dy]) λh' a b=>q h' a λc C=>b.2 c C
   . let{o,ho,C}:=hp;show wpAny_pyNext_tuple_end hA hit {o,K _ _ ho,C} (by rwa[Dy]) λh' b=>q h' b
   . show{_,zM _ (zU _ rfl),2}
   . rw[<-J];show zU _ rfl
def IP (K:AG)(x dv:V)(H:Hp)(Q:VK):Prop:=∃p o,x=.ref p/\(AA K H p o\/AD K H p o)/\(o=[]->Q dv H) /\
 ((∃C,Ae H o C/\∀(i:Nat)y(k:List Int),o[i]?=some y->C[i]?=some k->(∀k'∈C,HT.lexLt k' k=false)->Q y H)\/(∃ns:List Int,o=ns.map V.int/\∀n∈ns,(∀m∈ns,n<=m)->Q (.int n) H))
def QY (K:AG)(t:TA)(C:TE):TE:=λσ H Q=>t σ H λo H1=>∃x,o=[x]/\C σ H1 λdv I=>IP K x dv I Q
def U9 (hc:X.calm=true)(hu:X.A.units+1<cLine)(hg:Gl X "min") (hm:X.mg "min"=none) (he:PA X [e] t)(hd:PE X de td)
 (oh:autoParam (backTo pos (starEach [e] X.env)=(false,eval e X.env)::backTo pos (starEach [] X.env)) d_._auto_5)(l6:autoParam ((backTo pos (starEach [e] X.env)).any (·.1)=false) d_._auto_5):
 PE X (.Call (.Name "min" np) [e] [{some "default",de,kpos}] pos) (QY X.K t td):=by
 intro pins s σ H Q I h;show Ga (Dd I hg hm (by decide +kernel:bootBuiltins "min"=some (.builtin "min")) ?_);show PyProof.Rows.callWith_kw (AH (he pos pins s σ H _ I h) λus s1 ⟨vs,H1,I1,r,q1⟩=>?_) oh l6;let{x,0,q1}:=q1;let{u,0,rx}:=BX r;change wpAny _ _ (evalAll ((do let v <-eval de X.env;standAt pos;pure v)::[])) _ _ s1
 show wpAny_evalAll_cons (zD (AH (hd pins s1 σ H1 _ I1 q1) λud s2 ⟨dv,H2,I2,rd,q2⟩=>zD (wpAny_standAt (zI (wpAny_evalAll_nil ?_)))));change wpAny _ _ (call (.builtin "min") [u] [(Str.ofString "default",ud)]) _ _ s2;let{p,J,0,hp,q0,hk}:=q2;cases rx;obtain⟨its,rv,hpp⟩:∃its:List Value,AI J its/\(s2.heap.IsList p its.toArray\/s2.heap.IsTuple p its.toArray):=by
  rcases hp with hp | hp
  . let{its,r',pl,_}:=I2.list hp;show{its,r',.inl pl.isList}
  . let{its,r',pl,_}:=I2.tuple hp;show{its,r',.inr pl}
 let hlen:=rv.length;let e0:its=[]->J=[]:=λz=>List.length_eq_zero_iff.mp (by rw[hlen,z];rfl);rcases hk with ⟨U,T,q⟩ | ⟨ns,rfl,q⟩
 . let hl:=T.length;show ba (I2.ok.hd hc) (λi j=>IG.blt (U.getD i []) (U.getD j [])) hpp (λi j vi vj h tk Q E K hi hj q=>?_) (λv h tk C K=>?_) (λz h tk K=>{dv,H2,I2.kept K,rd,q0 (e0 z)})
   . let look:∀(i:Nat)(v:Value),its[i]?=some v->∃(p:Addr)(k:List Int)(us:List Value),v=.ref p/\U[i]?=some k/\IntsAre us k/\IsTup h p us.toArray:=λi v C=>by
      let hi:i<J.length:=by let:=(zH.mp C).1;lia
      let{p,k,e1,e2,e3,_}:=T.get (i:=i) (x:=J[i]) (by simp[hi]);let{u,hu,ru}:=rv.get (i:=i) (x:=J[i]) (by simp[hi]);rw[C] at hu;cases hu;rw[e1] at ru;cases (show v=Value.ref p from ru);let{_,us,rv',o,ho,hc}:=I2.hok p _ e3;show{p,k,us,0,e2,DH rv',o,K _ _ ho,hc}
     let{p1,k1,us1,0,g1,i1,t1}:=look i vi hi;let{p2,k2,us2,0,g2,i2,t2}:=look j vj hj;show HT.lt_tupInts (ns:=k1) (ms:=k2) t1 t2 i1 i2 hu ?_;let:IG.blt (U.getD i []) (U.getD j [])=HT.lexLt k1 k2:=by rw[zE,zE,g1,g2];rfl
     rwa[<-this]
   . let{b1,b2}:=Yw (O:=IG) (λi=>U.getD i []) (its.length-1);let kS:=(zH.mp C).1;generalize eb:argBest (λi j=>IG.blt (U.getD i []) (U.getD j [])) (its.length-1)=bi at C kS b1 b2;let hy:bi<J.length:=()
     let{u,hu,ru}:=rv.get (i:=bi) (x:=J[bi]) (by simp[hy]);rw[C] at hu;cases hu;let{pa,k,e1,e2,e3,_}:=T.get (i:=bi) (x:=J[bi]) (by simp[hy]);show{J[bi],H2,I2.kept K,ru,q bi J[bi] k (by simp[hy]) e2 λk' mW=>?_};let{j,hj,ej}:=CP mW;let:=b2 j ();let g1:U.getD j []=k':=by rw[zE,zC hj,ej];rfl
     let g2:U.getD bi []=k:=by rw[zE,e2];rfl
     rwa[g1,g2] at this
 . let hI:IntsAre its ns:=DH rv;let hl:=hI.length;let look:∀(i:Nat)(v:Value),its[i]?=some v->∃t,v=.int (ns.getD i 0) t:=λi v C=>by
    let hi:i<ns.length:=by let:=(zH.mp C).1;lia
    let{u,hu,ru}:=rv.get (i:=i) (x:=.int ns[i]) (by simp[hi]);rw[C] at hu;cases hu;let{t,0}:=(show ∃t,v=Value.int ns[i] t from ru);show{t,by rw[zE,zC hi];rfl}
   show ba (I2.ok.hd hc) (λi j=>decide (ns.getD i 0<ns.getD j 0)) hpp (λi j vi vj h tk Q E K hi hj q=>?_) (λv h tk C K=>?_) (λz h tk K=>{dv,H2,I2.kept K,rd,q0 (e0 z)})
   . let{t1,0}:=look i vi hi;let{t2,0}:=look j vj hj;show PyProof.Rows.lt_int q
   . let{b1,b2}:=argBest_lt (λi=>ns.getD i 0) (its.length-1);let kS:=(zH.mp C).1;generalize eb:argBest (λi j=>decide (ns.getD i 0<ns.getD j 0)) (its.length-1)=bi at C kS b1 b2;let{t,0}:=look bi v C;let hy:bi<ns.length:=()
     show{.int (ns.getD bi 0),H2,I2.kept K,{t,0},q _ ?_ λm hm=>?_}
     . rw[zE,zC hy];show List.getElem_mem hy
     . let{j,hj,ej}:=CP hm;let:=b2 j ();let g1:ns.getD j 0=m:=by rw[zE,zC hj,ej];rfl
       rwa[g1] at this
def ip (hA:A.handled=none)(hl:PlainL s.heap l its)
 (q:∀h' C,Kp s h'->Q none { s with heap:=h',toks:=C }):wpAny (model prog w) A (getAttr? (.ref l) (Str.ofString "keys")) Q E s:=by
 let ty:∀C,Shared.TypeIs { s with toks:=C } (.ref l) "list" := λC=>by let{o,J,U,_}:=hl.isList;show⟨o,J,U⟩
 unfold getAttr?;show zD (zD (wpAny_fresh (zI ?_)));unfold getAttrBy?;show zD (wpAny_attempt ?_);unfold getAttrBy;show Ba (zD (Ec (ty _) (zD (wpAny_of_eq (show typeLookup (.type "list") (Str.ofString "__getattribute__")=pure (some (.builtin "list.__getattribute__")) from rfl) (zI ?_)))));change wpAny _ _ (getAttrByItsOwn _ _ _ _ _ _) _ _ _;unfold getAttrByItsOwn;show zD (wpAny_of_eq (show hookBefore (.type "list")=pure none from rfl) (zI (zD (wpAny_attempt (Ba ?_)))));change wpAny _ _ (boundAndCalled _ _ _) _ _ _;unfold boundAndCalled;show zD (wpAny_of_eq (show bindSpecial (.builtin "list.__getattribute__") (.ref l)=pure (.builtin "list.__getattribute__",[.ref l]) from rfl) (zI ?_));show Dv (codeAny_call_builtin (by decide +kernel) PySem.am_entry_list_getattribute ?_);show zD (Gv (ty _) (b:=true) rfl ?_);show wpAny_of_eq (m':=pure Unit.unit) rfl (zI ?_);unfold Builtin.«object.__getattribute__»;show zD (wpAny_of_eq (m':=pure (Value.ref l,[Value.str (Str.ofString "keys") s.toks])) rfl (zI ?_));show zD (zI (zD (Ec (ty _) (zD ?_))));unfold Builtin.ObjectAttr.find;show zD (wpAny_of_eq (m':=pure none) rfl (zI (zD (zI (zD (zI ?_))))));let{o,n,J,U,hd,mL}:=id hl;let{cls,dict,data,slots}:=o;obtain rfl:cls=_:=U;obtain rfl:dict=_:=hd;obtain rfl:data=_:=mL
 show zD (zD (zD (wpAny_loadPart J (zD (wpAny_loadPart J (zI (zI ?_)))))));show zD (wpAny_of_eq (m':=pure Unit.unit) rfl (zI (zD (ES (zI ?_)))));change wpAny _ _ (Builtin.ObjectAttr.noSuchAttribute (Value.ref l) (Str.ofString "keys")) _ _ _;unfold Builtin.ObjectAttr.noSuchAttribute;show zD (zD (zD (Ec (ty _) (wpAny_of_eq (m':=pure (Value.type "list")) rfl (zI (wpAny_of_eq (m':=pure "list") rfl (zI ?_)))))));show wpAny_raiseAttrError hA (λh' C e ne=>?_) (by decide +kernel);let{t,u,he}:=ne.there;let I:∀C,Shared.TypeIs { s with heap:=h',toks:=C } (.ref e) "AttributeError" := λC=>{_,he,0};change wpAny _ _ (getattributeRaised _ _ _ _ _ _ _) _ _ _;unfold getattributeRaised;show zD (Gv (I _) (b:=true) rfl ?_);show zD (wpAny_of_eq (m':=pure none) rfl (zI ?_));show zD (wpAny_throw ?_);show zD (Gv (I _) (b:=true) rfl (zI ?_));show q h' C ne.keeps
def YV (a):(Code.builtin "dict.update.loop" a).quiet=true:=plainId_quiet (id := "dict.update.loop") (by decide +kernel) a
def d8 [DecidableEq κ] (kR)(k:κ)(v):(stored kR k v).length<=kR.length+1:=by
 unfold stored;split
 . rw[zA];lia
 . rw[zS];show zL _
meta def Fv (qs:List (AS×Value)):List (AS×Value):=qs.foldl (λa q=>stored a q.1 q.2) []
def iL (qs)(q:AS×Value):Fv (qs++[q])=stored (Fv qs) q.1 q.2:=by unfold Fv;rw[List.foldl_append];rfl
def fO (qs):(Fv qs).length<=qs.length:=by
 let:∀(qs:List (AS×Value))(a:List (AS×Value)),(qs.foldl (λa q=>stored a q.1 q.2) a).length<=a.length+qs.length:=by
  intro qs
  induction qs with
  | nil=>intro a;show zL _
  | cons q qs o=>intro a;let I:=o (stored a q.1 q.2);let C:=d8 a q.1 q.2;rw[List.foldl_cons,zj];lia
 let:=this qs [];simpa [Fv] using this
section
variable {prog:Program}{w:World}{A:Around}{s0:Shared}{D I l:Addr}{its:List Value}{qs:List (AS×Value)}
def d5 (hA:A.handled=none)(hD:s0.heap.objs.size<=D)(hI:s0.heap.objs.size<=I)(hDI:D≠I)(hl:s0.heap.IsList l its.toArray)(hz:its.length<=sizeLine)(hqs:qs.length=its.length)
 (look:∀(i:Nat)v,its[i]?=some v->∃p kv u k,v=.ref p/\IsTup s0.heap p #[kv,u]/\(BC prog w).is k kv=true/\qs[i]?=some (k,u))
 (hR:∀h(J:Nat),Kp s0 h->h.DictOf (BC prog w) D (Fv qs)->R (.ok (.ret .none)) { s0 with heap:=h,toks:=J }):
 ∀(r j:Nat)h(J:Nat),its.length-j=r->j<=its.length->Kp s0 h->h.IsListIter I l j->h.DictOf (BC prog w) D (Fv (qs.take j)) ->
  codeAny (model prog w) A (.builtin "dict.update.loop" { pos:=[.ref D,.ref I,rawInt j,.none] }) R { s0 with heap:=h,toks:=J }:=by
 let k9:∀h,Kp s0 h->h.IsList l its.toArray:=λh K=>by let{o,C,U}:=hl;show{o,K _ _ C,U}
 intro r
 induction r with
 | zero=>intro j h J hr hj K hit hd;show codeAny_builtin (b:=Builtin.«dict.update.loop») (by rfl) ?_;unfold Builtin.«dict.update.loop»;show zD (M9 hA hit (k9 h K) (by rw[Dy];show E1 ()) λh' b=>?_);show zD (wpAny_of_eq (m':=pure Unit.unit) rfl (zI (zI ?_)));show hR h' J (K.but hI b) ?_;let{o,es,ep,C,mP}:=hd;rw[zR ()] at mP;show{o,es,ep,b D o hDI C,mP}
 | succ r ih=>
  intro j h J hr hj K hit hd;obtain⟨x,hx⟩:∃x,its[j]?=some x:={_,zC ()};let{p,kv,u,k,0,tp,hk,hq}:=look j x hx;show codeAny_builtin (b:=Builtin.«dict.update.loop») (by rfl) ?_;unfold Builtin.«dict.update.loop»;show zD (M6 hit (k9 h K) (by rwa[Dy]) λh' kx b=>?_);let K':Kp s0 h':=K.but hI λc o U e=>by rwa[b.2 c U]
  let{o,C,U,n,mL}:=tp;show zD (Ba (zD (wpAny_tryCatch ?_)));unfold Builtin.Dict.pairItems;show zD (Ec (T := "tuple") {o,K' _ _ C,U} ?_);show zD (Gn (K' _ _ C) mL (zI ?_));let hd':h'.DictOf (BC prog w) D (Fv (qs.take j)):=by let{o,es,ep,C,mP}:=hd;show{o,es,ep,by rwa[b.2 D hDI],mP}
  show Ba (wpAny_dictSet_pairs hk hd' (λh2 hd2 b2=>?_) (zn (fO _) (by rw[zi];lia)));show zI {YV _,?_};show ih (j+1) h2 (J+1) () () (λc o e=>?_) ?_ ?_
  . rw[b2.2 c (zh (zv (zc e) hD))];show K' c o e
  . let{o,C,U}:=kx;show{o,by rwa[b2.2 I (Ne.symm hDI)],U}
  . rw[ze,hq];change h2.DictOf _ D (Fv (qs.take j++[(k,u)]));rwa[iL]
end
def js (h:Heap):(h.push { cls:=.type "dict",data:=.dict #[] }).DictOf (BC prog w) h.objs.size []:=
 ⟨_,#[],0,zU _ rfl,{9},rfl,by
  first | show KeysOf.nil | (intro x o;simp at o) | trivial | decide,by
  first | show .nil | trivial,List.nodup_nil⟩
def jV {its:List Value}(hA:A.handled=none)(hl:PlainL s.heap l its.toArray)(hz:its.length<=sizeLine)(hqs:qs.length=its.length)
 (look:∀(i:Nat)v,its[i]?=some v->∃p kv u k,v=.ref p/\IsTup s.heap p #[kv,u]/\(BC prog w).is k kv=true/\qs[i]?=some (k,u))
 (q:∀D h(tk:Nat),s.heap.objs.size<=D->Kp s h->h.DictOf (BC prog w) D (Fv qs)->Q (.ref D) { s with heap:=h,toks:=tk }):
 wpAny (model prog w) A (call (.type "dict") [.ref l]) Q E s:=by
 show callType_codes (Q₁:=λobj C=>obj=.ref s.heap.objs.size/\C={ s with heap:=s.heap.push { cls:=.type "dict",data:=.dict #[] } }) PySem.F.kt_called_dict (PySem.F.kt_typeCall_dict_1 _) PySem.F.entry_dict_init ?_ (λobj C e=>?_)
 . show codeAny_call_builtin (by decide +kernel) PySem.F.kt_entry_dict_new (wpAny_of_eq (PySem.F.kt_newCall_dict_1 _) (zI ?_));unfold Builtin.«dict.__new__»;show zD (wpAny_of_eq (m':=pure true) rfl (zI (zD (wpAny_of_eq (m':=pure true) rfl (zI (zD (wpAny_of_eq (m':=pure [Value.type "dict",Value.type "object"]) rfl (zI ?_))))))));show zD (wpAny_newObjAsIs_type (zI {2}))
 . let{2}:=e;show{{_,zU _ rfl,0},PySem.F.args_dict_init_2 _ _,?_};unfold Builtin.«dict.__init__»;let h0:Kp s (s.heap.push { cls:=.type "dict",data:=.dict #[] }):=λb o e=>zM _ e;let k8:∀h,Kp s h->PlainL h l its.toArray:=λh K=>by let{o,n,J,hr}:=hl;show{o,n,K _ _ J,hr}
   show zD (zD (zD (Ec (T := "dict") {_,zU _ rfl,0} (zI (zD (zI (zI ?_)))))));change wpAny _ _ (Builtin.Dict.updateFrom "dict.__init__" s.heap.objs.size (.ref l) [] .none) _ _ _;unfold Builtin.Dict.updateFrom;show zD (Ec (T := "list") (let {o,J,hc,_}:=(k8 _ h0).isList;⟨o,J,hc⟩) ?_);show zD (ip hA (k8 _ h0) λh1 tk1 K1=>?_);let U:Kp s h1:=λb o e=>K1 b o (h0 b o e);show zD (ES (zD (Hy (k8 _ U).isList (zI {YV _,?_}))));let I:s.heap.objs.size<h1.objs.size:=zc (K1 _ _ (zU _ rfl));show d5 (A:=A.in1) (s0:=s) (l:=l) (its:=its) (qs:=qs) hA (zL _) (FH I) (zh I) hl.isList hz hqs look ?_ its.length 0 _ tk1 rfl (zd _) (λb o e=>zM _ (U b o e)) ?_ ?_
   . show λh tk K hd=>{0,q _ h tk (zL _) K hd}
   . show{_,zU _ rfl,2}
   let{o,es,ep,J,hr}:=js (prog:=prog) (w:=w) s.heap;show{o,es,ep,zM _ (K1 _ _ J),hr}
def i8 (H:Hp)(ys:List V)(ps:List (AS×V)):Prop:=ps.length=ys.length/\∀(i:Nat)y,ys[i]?=some y->∃p k v,y=.ref p/\H p=some (.tup [kV k,v])/\ps[i]?=some (k,v)
meta def Mv (ps:List (AS×V)):List (AS×V):=ps.foldl (λa p=>BM a p.1 p.2) []
def cH:∀(ps:List (AS×V))(qs:List (AS×Value))(a:List (AS×V))(b:List (AS×Value)),KV ps qs->KV a b->KV (ps.foldl (λa p=>BM a p.1 p.2) a) (qs.foldl (λa q=>stored a q.1 q.2) b)
 | [],[],_,_,_,h=>h
 | p::ps,q::qs,a,b,h,h'=>by
  cases h with
  | cons o C=>rw[List.foldl_cons,List.foldl_cons];show cH ps qs _ _ C ?_;rw[<-o.1];show KV.put h' p.1 o.2
 | [],_::_,_,_,h,_=>by cases h
 | _::_,[],_,_,h,_=>by cases h
def gF (ps):(Mv ps).length<=ps.length:=by
 let:∀(ps:List (AS×V))(a:List (AS×V)),(ps.foldl (λa p=>BM a p.1 p.2) a).length<=a.length+ps.length:=by
  intro ps
  induction ps with
  | nil=>intro a;show zL _
  | cons q qs o=>intro a;let I:=o (BM a q.1 q.2);let C:=R7 a q.1 q.2;rw[List.foldl_cons,zj];lia
 let:=this ps [];simpa [Mv] using this
inductive Qs (K:AG)(xs:List V)(H:Hp)(Q:VK):Prop
 | mk:∀l ys ps,(xs=[.ref l])->(AA K H l ys)->(i8 H ys ps)->(∀d,H d=none->Q (.ref d) (upd H d (.dK (Mv ps))))->Qs K xs H Q
def dc (hc:X.calm=true):CF X (.type "dict") (Qs X.K):=by
 intro pins s σ H xs us Q I r h;let{l,ys,C,0,hq,{mI,oA},q}:=h;let{u,0,rx}:=BX r;cases rx;let{its,rv,pl,hz}:=I.list hq;let hlen:=rv.length;let both:∀(i:Nat),i<its.length->∃(p:Addr)(J u:Value)(k:AS)(v:V),its[i]?=some (.ref p)/\IsTup s.heap p #[J,u]/\(BC X.prog X.w).is k J=true/\AR v u/\C[i]?=some (k,v):=λi hi=>by
  let hy:i<ys.length:=()
  let{p,k,v,e1,e2,e3}:=oA i ys[i] (by simp[hy]);let{u,hu,ru}:=rv.get (i:=i) (x:=ys[i]) (by simp[hy]);rw[e1] at ru;cases (show u=Value.ref p from ru);let{_,us,rv',tp}:=I.hok p _ e2;let{a,b,0,ra,rb}:=RP rv';show{p,a,b,k,v,hu,tp,Fo ra,rb,e3}
 obtain⟨qs,hql,hqk⟩:∃qs:List (AS×Value),qs.length=its.length/\∀(i:Nat),i<its.length->∃(p:Addr)(J u:Value)(k:AS)(v:V),its[i]?=some (.ref p)/\IsTup s.heap p #[J,u]/\(BC X.prog X.w).is k J=true/\AR v u/\C[i]?=some (k,v)/\qs[i]?=some (k,u):=by
  let:∀m,m<=its.length->∃qs:List (AS×Value),qs.length=m/\∀(i:Nat),i<m->∃(p:Addr)(J u:Value)(k:AS)(v:V),its[i]?=some (.ref p)/\IsTup s.heap p #[J,u]/\(BC X.prog X.w).is k J=true/\AR v u/\C[i]?=some (k,v)/\qs[i]?=some (k,u):=by
   intro m
   induction m with
   | zero=>intro _;show{[],0,λi hi=>absurd hi (Eu _)}
   | succ m ih=>
    intro hm;let{qs,U,h2}:=ih ();let{p,J,u,k,v,g1,g2,g3,g4,g5}:=both m ();show{qs++[(k,u)],by rw[zS,U];rfl,λi hi=>?_};by_cases c:i=m
    . subst c;show{p,J,u,k,v,g1,g2,g3,g4,g5,by rw[zW (),U,E4];rfl}
    . let{p,J,u,k,v,f1,f2,f3,f4,f5,f6}:=h2 i ();show{p,J,u,k,v,f1,f2,f3,f4,f5,by rwa[zV ()]}
  show this its.length (zL _)
 let J:KV C qs:=by
  let:∀(C:List (AS×V))(qs:List (AS×Value)),C.length=qs.length->(∀i,i<C.length->∃k v u,C[i]?=some (k,v)/\qs[i]?=some (k,u)/\AR v u)->KV C qs:=by
   intro C
   induction C with
   | nil=>intro qs e _;cases qs with
    | nil=>show .nil
    | cons _ _=>simp at e
   | cons p C ih=>
    intro qs e h;cases qs with
    | nil=>simp at e
    | cons q qs=>let{k,v,u,U,h2,h3}:=h 0 (by simp);simp at U h2;subst U h2;show .cons {0,h3} (ih qs (by simpa using e) λi hi=>?_);let{k,v,u,U,h2,h3}:=h (i+1) (by simp;lia);show{k,v,u,by simpa using U,by simpa using h2,h3}
  show this C qs () λi hi=>?_;let{p,J,u,k,v,_,3,f4,f5,f6}:=hqk i ();show⟨k,v,u,f5,f6,f4⟩
 show jV (its:=its) (qs:=qs) (I.ok.hd hc) pl () hql (λi v hv=>?_) (λD h tk hD K dd=>?_)
 . let{p,J,u,k,v',f1,f2,f3,f4,f5,f6}:=hqk i (zH.mp hv).1;rw[hv] at f1;cases f1;show{p,J,u,k,0,f2,f3,f6}
 . let hfr:H D=none:=I.hok.fresh hD;let zz:(Mv C).length<=sizeLine:=zn (gF C) ();show{.ref D,_,I.laid (a:=D) (o:=.dK (Mv C)) (t':=tk) K hD (RM zz (beq_eq_false_iff_ne.mpr (Ne.symm (zh (zv I.big hD)))) (cH C qs [] [] J .nil) dd),0,q D hfr}
end L2
namespace L2
open PySem PySem.Spec PyProof.Rows
def SV (hm:X.mg x=none)(U:autoParam (Gl X x) d_._auto_5)(C:autoParam (bootBuiltins x=some (.type T)) d_._auto_6)(J:x ≠ "__name__" := by decide) (o:autoParam ((x==("__debug__" : Str))=false) d_._auto_2):PE X (.Name x pos) (tC (.ty T)):=
 λpins s σ H Q I h=>Dd I U hm C {.ty T,H,I,0,h} J o
inductive JG (K:AG)(xs:List V)(H:Hp)(Q:VK):Prop
 | mk:∀x T t b,(xs=[x,.ty T])->(D0 K H x t)->(PySem.W.kitOne K t (.type T)=some b)->(Q (.bl b) H)->JG K xs H Q
def Sn:CF X (.builtin "isinstance") (JG X.K):=by intro pins s σ H xs us Q I r h;let{x,T,t,b,0,ty,e,q}:=h;let{u,o,0,J,U}:=RP r;cases (show o=Value.type T from U);show iZ I J ty e λC=>{.bl b,H,I.tok C,0,q}
def N7 {st:Stmt}:PS X st (λ_ _ _=>False):=λ_ _ _ _ _ _ h=>h.elim
section
variable {prog:Program}{w:World}{A:Around}{s0:Shared}{I l:Addr}{bs:List Bool}
def i9 (hA:A.handled=none)(hI:s0.heap.objs.size<=I)(hl:s0.heap.IsList l (bs.map Value.bool).toArray)
 (hR:∀h C,Kp s0 h->R (.ok (.ret (.bool (bs.all id)))) { s0 with heap:=h,toks:=C }):
 ∀r j h C,bs.length-j=r->j<=bs.length->Kp s0 h->h.IsListIter I l j->(bs.take j).all id=true ->
  codeAny (model prog w) A (.builtin "all.loop" { pos:=[.ref I] }) R { s0 with heap:=h,toks:=C }:=by
 let k9:∀h,Kp s0 h->h.IsList l (bs.map Value.bool).toArray:=λh K=>by let{o,ho,U}:=hl;show{o,K _ _ ho,U}
 intro r
 induction r with
 | zero=>intro j h C hr hj K hit J;show codeAny_builtin PySem.F.entry_all_loop ?_;unfold Builtin.«all.loop»;show zD (M9 hA hit (k9 h K) (by rw[Dy];show E1 (by rw[zA];lia)) λh' b=>?_);show zD (ES (zI ?_));rw[zR ()] at J;let:=hR h' C (K.but hI b);rwa[J] at this
 | succ r ih=>
  intro j h C hr hj K hit J;obtain⟨x,hx⟩:∃x,bs[j]?=some x:={_,zC ()};show codeAny_builtin PySem.F.entry_all_loop ?_;unfold Builtin.«all.loop»;show zD (M6 hit (k9 h K) (x:=.bool x) (by rw[Dy,zK,hx];rfl) λh' kx b=>?_);let K':Kp s0 h':=K.but hI λc o U e=>by rwa[b.2 c U]
  show zD (Ba (GC (zD (wpAny_letGo ?_))));cases x with
  | true=>show zI {0,?_};show ih (j+1) h' C () () K' kx (by rw[ze,hx,List.all_append,J];rfl)
  | false=>
   show zD (ES (zI ?_));let e:bs.all id=false:=by
    cases z:bs.all id with
    | false=>rfl
    | true=>have:=Ea.mp z false (zQ hx);simp at this
   let:=hR h' C K';rwa[e] at this
end
def Ul:∀{bs:List Bool}{its:List Value},AI (bs.map V.bl) its->its=bs.map Value.bool
 | [],[],_=>rfl
 | b::bs,u::its,h=>by
  cases h with
  | cons C o=>rw[Bg,<-Ul o,show u=Value.bool b from C]
 | [],_::_,h=>by cases h
 | _::_,[],h=>by cases h
inductive IY (K:AG)(xs:List V)(H:Hp)(Q:VK):Prop
 | mk:∀(p:Addr)(bs:List Bool),(xs=[.ref p])->(AA K H p (bs.map V.bl))->(Q (.bl (bs.all id)) H)->IY K xs H Q
def JX (hc:X.calm=true):CF X (.builtin "all") (IY X.K):=by
 intro pins s σ H xs us Q I r h;let{p,bs,0,hq,q}:=h;let{u,0,J}:=BX r;cases J;let{its,U,C,hz}:=I.list hq;rw[Ul U] at C;show Dv (codeAny_call_builtin PySem.F.plain_all PySem.F.entry_all (wpAny_of_eq (m':=pure Unit.unit) rfl (zI ?_)));unfold Builtin.all;show zD (wpAny_of_eq (m':=pure (Value.ref p)) rfl (zI (zD (Hy C.isList (zI {0,?_})))));show i9 (s0:=s) (l:=p) (bs:=bs) (I.ok.hd hc) (zL _) C.isList ?_ bs.length 0 _ s.toks rfl (zd _) (λb o e=>zM _ e) ?_ rfl
 . show λh tk K=>{.bl _,H,I.kept K,0,q}
 . show{_,zU _ rfl,2}
def jX {h:Heap}(led:Bool):(h.push { cls:=.type "set",data:=.set #[] 0 (SetTable.fresh 0 0 led) }).SetOf (intKind prog w) h.objs.size (λ_=>false) 0:=by
 show⟨_,#[],0,_,zU _ rfl,{9},rfl,?_,λk=>{λz=>by simp at z,λ⟨e,he,_⟩=>by simp at he},by decide,?_,rfl⟩
 . first | show ElemsOf.nil | trivial | (intro e he;simp at he)
 . cases led <;> first | rfl | decide +kernel
def du (hA:A.handled=none)(hl:s.heap.IsTuple l its.toArray)(hi:IntsAre its ns)(hz:its.length+1<scanBound)
 (q:∀h tk,Kp s h->h.SetOf (intKind prog w) s.heap.objs.size (λk'=>(firstMet (λi=>ns.getD i 0) its.length).any λx=>x==k') (firstMet (λi=>ns.getD i 0) its.length).length->Q (.ref s.heap.objs.size) { s with heap:=h,toks:=tk }):
 wpAny (model prog w) A (call (.type "set") [.ref l]) Q E s:=by
 show Dv (codeAny_of_tree (zI {Code.quiet_builtin _ (by decide +kernel),codeAny_builtin PySem.F.entry_type_call ?_}));unfold Builtin.«type.__call__»;dsimp only;rw[if_neg (by rw[PySem.F.called_set.notType];decide)];rw[if_neg (by rw[PySem.F.called_set.canCreate];decide)];let{c,tl,hm}:=PySem.F.called_set.mro;show zD (wpAny_of_eq (PySem.F.typeCall_set_1 _) (zI (zD (wpAny_of_eq hm (zI ?_)))));show zD (wpAny_of_eq PySem.F.called_set.made (zI (zD (zI ?_))));show zD (Ba (Dv (codeAny_mono (code_set_new_1 (E:=E) (.ref l) (Q₁:=λobj I=>obj=.ref s.heap.objs.size/\∃led,I={ s with heap:=s.heap.push { cls:=.type "set",data:=.set #[] 0 (SetTable.fresh 0 0 led) } }) λled=>{0,led,0}) λr I e=>?_)))
 match r,e with
 | .ok (.ret obj),e=>
  let{0,led,0}:=e;let h0:Kp s (s.heap.push { cls:=.type "set",data:=.set #[] 0 (SetTable.fresh 0 0 led) }):=λb o e=>zM _ e;let ht:∀h,Kp s h->h.IsTuple l its.toArray:=λh K=>by let{o,ho,hr}:=hl;show{o,K _ _ ho,hr}
  let kS:l<s.heap.objs.size:=by let{o,ho,_}:=hl;show zc ho
  let C:Shared.TypeIs { s with heap:=s.heap.push { cls:=.type "set",data:=.set #[] 0 (SetTable.fresh 0 0 led) } } (.ref s.heap.objs.size) "set" := {_,zU _ rfl,0};change wpAny _ _ _ _ _ _;show zD (Gv C PySem.F.called_set.sub ?_);show zD (Ba ?_);unfold callSpecial?;show zD (wpAny_specialOf C PySem.F.called_set.init.lookup (Ba (zD (wpAny_of_eq (PySem.F.called_set.init.bind _) (zI (zD (Dv (codeAny_call_builtin PySem.F.called_set.init.plain PySem.F.entry_set_init (check_set_init_1 C ?_)))))))));unfold Builtin.«set.__init__»;show zD (wpAny_of_eq (m':=pure Unit.unit) rfl (zI ?_));dsimp only;show zD (zD (zD (Ec C (wpAny_of_eq (m':=pure (Value.type "set")) rfl (zI (wpAny_of_eq (m':=pure "set") rfl (zI ?_)))))));show zD (wpAny_of_eq (m':=pure Unit.unit) rfl (zI (zD (zI ?_))));show zD (zD (zD (wpAny_load (zU _ rfl) ?_)));show wpAny_of_eq (m':=pure (#[],0,SetTable.fresh 0 0 led)) (by cases led <;> rfl) (zI (wpAny_of_eq (m':=pure false) (by cases led <;> rfl) (zI ?_)));let J:∀h tk,Kp s h->Shared.TypeIs { s with heap:=h,toks:=tk } (.ref l) "tuple" := λh tk K=>by let{o,ho,hr}:=ht h K;show⟨o,ho,hr.1⟩
  change wpAny _ _ (Builtin.Frozenset.updateFrom "set.__init__" s.heap.objs.size (.ref l) >>= _) _ _ _;unfold Builtin.Frozenset.updateFrom;show zD (zD (zD (Gv (J _ _ h0) PySem.F.sub_tuple_set (Gv (J _ _ h0) (b:=false) rfl ?_))));show zD (Ec (J _ _ h0) ?_);show zD (wpAny_pyIter_tuple (ht _ h0) (zD (wpAny_runValue ?_)));let U:(s.heap.push { cls:=.type "set",data:=.set #[] 0 (SetTable.fresh 0 0 led) }).objs.size=s.heap.objs.size+1:=DE ..;show codeAny_set_update_loopS (Walks.toS (Walks.tuple (A:=(A.under (Code.builtin "type.__call__" { pos:=[.type "set",.ref l] })).in1.in1) hA (s.heap.push { cls:=.type "set",data:=.set #[] 0 (SetTable.fresh 0 0 led) }).objs.size l (zh (by rw[U];show E2 kS)) its.toArray)) s.heap.objs.size ?_ (λi=>ns.getD i 0) ?_ (by simpa using hz) its.toArray.size 0 _ rfl (zd _) ?_ ?_ ?_
  . rw[U];intro z;rcases zZ.mp z with z | z
    . show absurd z (zh (Nat.lt_succ_self _))
    . show absurd (zf.mp z) (Nat.ne_of_gt kS)
  . intro i v hv;rw[Dy] at hv;show hi.int_at i v hv
  . show{{_,zU _ rfl,2},ht _ λb o e=>zM _ (h0 b o e)}
  . let:=jX (prog:=prog) (w:=w) (h:=s.heap) led;let{o,es,ep,t,ho,hr}:=this;show{o,es,ep,t,zM _ ho,hr}
  . intro s' mv so;show zI (zI (zI (zI ?_)));let{h',g',d',t',o'}:=s';obtain rfl:g'=s.gens:=mv.gens;obtain rfl:d'=s.drawn:=mv.drawn;obtain rfl:o'=s.os:=mv.os;show q h' t' (λb o e=>mv.heap b o ?_ (zM _ (h0 b o e))) (by simpa using so);let hb:b<s.heap.objs.size:=zc e;intro z;rw[U] at z;rcases zZ.mp z with z | z
    . show absurd z (zh hb)
    . show absurd (zf.mp z) (zh (E2 hb))
 | .ok .next,e=>show e.elim
 | .ok .brk,e=>show e.elim
 | .ok .cont,e=>show e.elim
 | .error v,e=>show e
def Zc {ns:List Int}(h:ns.Nodup):∀k,k<=ns.length->firstMet (λi=>ns.getD i 0) k=ns.take k
 | 0,_=>rfl
 | k+1,hk=>by
  rw[firstMet_succ,Zc h k ()];let o:ns[k]?=some (ns.getD k 0):=by rw[zE,zC ()];rfl
  unfold step_dedup;rw[if_neg,ze,o]
  . rfl
  . intro z;let{y,I,e}:=JQ.mp z;let e':y=ns.getD k 0:=by simpa using e
    let{j,J,C}:=CP I;rw[zi] at J;rw[List.getElem_take] at C;let{mW,U}:=zH.mp o;let:=(List.nodup_iff_pairwise_ne.mp h);let:=EZ.mp this j k () () ();show this (by rw[C,U,e'])
section
variable {X:Cx}
inductive IZ (K:AG)(xs:List V)(H:Hp)(Q:VK):Prop
 | mk:∀(p:Addr)(ns:List Int),(xs=[.ref p])->(AD K H p (ns.map V.int))->(ns.length<=1000)->(∀d S,H d=none->Q (.ref d) (upd H d (.set S (firstMet (λi=>ns.getD i 0) ns.length).length)))->IZ K xs H Q
def fA (hc:X.calm=true):CF X (.type "set") (IZ X.K):=by intro pins s σ H xs us Q I r h;let{p,ns,0,hq,hl,q}:=h;let{u,0,U}:=BX r;cases U;let{its,rv,pl,hz}:=I.tuple hq;let hi:=DH rv;let o:=hi.length;show du (I.ok.hd hc) pl hi (by let:scanBound=4096:=rfl;lia) λh J K C=>?_;rw[o] at C;show{.ref s.heap.objs.size,_,I.laid (a:=s.heap.objs.size) (t':=J) K (zL _) (show BD X.prog X.w _ _ _ (.set _ _) from C),0,q _ _ I.fresh}
inductive Iz (xs:List V)(H:Hp)(Q:VK):Prop
 | mk:∀(a:Addr)(S:Int->Bool)(n:Nat),(xs=[.ref a])->(H a=some (.set S n))->(Q (.int n) H)->Iz xs H Q
def j5:CF X (.builtin "len") Iz:=by intro pins s σ H xs us Q I r h;let{a,S,n,0,ha,q}:=h;let{u,0,C}:=BX r;cases C;let{o,es,ep,t,J,ex,hd,3,hb,hf,U}:=(show BD X.prog X.w H s.heap a (.set S n) from I.hok a _ ha);show call_len_set J ex hd hf (by let:scanBound=4096:=rfl;lia) {.int n,H,I.tok _,{_,by rw[U]},q}
def XH (r:V->List V->Hp->VK->Prop)(to:TE)(t:TA):TE:=λσ H Q=>to σ H λx H1=>(∃p o,x=.ref p/\H1 p=some (.tup o))/\t σ H1 λxs C=>r x xs C Q
variable {o e:Expr}{es:List Expr}{to:TE}{t:TA}{name:Str}{apos kX:Pos}{id:String}{r:V->List V->Hp->VK->Prop}
def Mp (slot:Slot "tuple" name id) (C:typeOf (.builtin id)=pure (.type "method_descriptor")) (hm:HX X id r)(ho:PE X o to)(ha:PA X (e::es) t)
 (mr:autoParam (attributeBase o name X.env (eval o X.env)=eval o X.env) d_._auto_5)
 (pA:autoParam (((backTo kX (starEach (e::es) X.env)).all (λx=>!x.1) && (backToKw kX (keywordEach [] X.env)).all (λx=>x.1.isSome)
  && decide ((e::es).length+([]:List Keyword).length+(if ([]:List Keyword).isEmpty then 0 else 1)<30))=true) d_._auto_5)
 (ml:autoParam ((apos.endLine==kX.line)=true) d_._auto_5)(hs:autoParam (starEach (e::es) X.env=(false,eval e X.env)::starEach es X.env) d_._auto_5)(mB:autoParam ((backTo kX (starEach es X.env)).any (·.1)=false) d_._auto_5):
 PE X (.Call (.Attribute o name apos) (e::es) [] kX) (XH r to t):=by
 intro pins s σ H Q I h;show wpAny_Call_method_late mr pA ml rfl (AH (ho pins s σ H _ I h) λv s1 ⟨x,H1,I1,r1,⟨p,ys,ex,hp⟩,q1⟩=>?_);subst ex;cases (show v=Value.ref p from r1);let{{_,o2,mT,hd2},its,rv,ob,J,mY,_}:=(show BD X.prog X.w H1 s1.heap p (.tup ys) from I1.hok p _ hp);show{"tuple",id,PySem.F.plainAttrs_tuple,slot,C,⟨ob,J,mY⟩,λa ea=>?_,?_}
 . cases ea;show⟨o2,mT,hd2⟩
 let U:=ha kX pins s1 σ H1 _ I1 q1;rw[hs] at U ⊢;show Calls.callWith_builtin (by change (false || (backTo kX (starEach es X.env)).any (·.1))=false;rw[mB] <;> rfl) (Calls.evalArgs_plain ?_);show AH U λus s2 ⟨vs,H2,I2,r2,q2⟩=>hm pins s2 σ H2 (.ref p) vs (.ref p) us Q I2 rfl r2 q2
end
def fV {its:Array Value}(hi:IntsAre its.toList ns)(hv:ns[i]?=some v)(mQ:∀j,j<i->ns[j]?≠some v)
 (f:Nat->Option PySem.Fin×Unit->Sem (ForInStep (Option PySem.Fin×Unit)))
 (hf:∀j x,f j x=(match its[j]? with
  | some y=>do
   let b <-eqBool y (.int v tv)
   if b=true then do
    let r <-retInt j
    pure (.done (some r,Unit.unit))
   else pure (.yield (none,Unit.unit))
  | _=>pure (.yield (none,Unit.unit))))
 (s)(hR:∀tk,R (some (.done (.ret (.int i s.toks))),Unit.unit) { s with toks:=tk }):
 ∀r j b,i-j=r->j<=i->wpAny (model prog w) A (forIn (List.range' j (its.size-j) 1) b f) R E s:=by
 have hsz:its.size=ns.length:=by have:=hi.length;simpa using this
 have hil:i<ns.length:=(zH.mp hv).1;have look:∀j,j<ns.length->∃t,its[j]?=some (.int (ns.getD j 0) t):=λj hj=>by
  have hj':j<its.size:=()
  let{t,ht}:=hi.int_at j (its[j]'hj') (by rw[Array.getElem?_toList,Array.getElem?_eq_getElem hj']);show{t,by rw[Array.getElem?_eq_getElem hj',ht]}
 intro r
 induction r with
 | zero=>
  intro j b hr hj;obtain rfl:j=i:=()
  rw[show its.size-j=(its.size-j-1)+1 by lia,List.range'_succ,List.forIn_cons,hf];let{t,ht}:=look j hil;rw[ht];show zD (zD (wpAny_eqBool_int ?_));have e:ns.getD j 0=v:=by rw[zE,hv];rfl
  rw[e,show (v==v)=true by simp];show zD (zD (wpAny_mkInt (zI (zI (zI ?_)))));show hR _
 | succ r ih=>
  intro j b hr hj;rw[show its.size-j=(its.size-(j+1))+1 by lia,List.range'_succ,List.forIn_cons,hf];let{t,ht}:=look j ();rw[ht];show zD (zD (wpAny_eqBool_int ?_));have hj':ns[j]?=some (ns.getD j 0):=by rw[zE,zC ()];rfl
  have e:¬ ns.getD j 0=v:=λz=>mQ j () (by rw[hj',z]);rw[show (ns.getD j 0==v)=false by simpa using e];show zI ?_;show ih (j+1) _ () ()
def d3:HX X "tuple.index" (λx xs H Q=>∃p,∃(ns:List Int)(i:Nat)(v:Int),x=.ref p/\xs=[.int v]/\AD X.K H p (ns.map V.int)/\ns[i]?=some v/\(∀j,j<i->ns[j]?≠some v)/\Q (.int i) H):=by
 intro pins s σ H x xs v us Q I J r h;let{p,ns,i,k,2,hq,hi,mQ,q}:=h;cases (show v=Value.ref p from J);let{u,0,t,0}:=BX r;let{its,U,{ob,o,mY,n,mL},hz}:=I.tuple hq;let hI:=DH U;show Dv (codeAny_call_builtin PySem.F.slot_tuple_index.plain PySem.F.entry_tuple_index (PySem.F.slot_tuple_index.check _ _ _ _ _ _ _ _ ⟨ob,o,mY⟩ (PySem.F.args_tuple_index_2 _ _) ?_));unfold Builtin.«tuple.index»;show zD (wpAny_of_eq (m':=pure (Value.ref p,[Value.int k t])) rfl (zI ?_));show zD (zD (Gn o mL (zI ?_)));show zD (zI (zD (zI (zD ?_))));rw[Std.Legacy.Range.forIn_eq_forIn_range'];let C:(Std.Legacy.Range.mk 0 (min its.toArray.size its.toArray.size) 1 (by decide)).size=its.toArray.size-0:=by change (min its.toArray.size its.toArray.size-0+1-1)/1=_;rw[Nat.min_self];lia
 rw[C];show fV (its:=its.toArray) (ns:=ns) (v:=k) (tv:=t) (i:=i) hI hi mQ _ (λj x=>by rfl) s (λtk=>?_) i 0 _ () (zd _);show zI {.int i,H,I.tok _,{1},q}
def iS:HX (Ak X pl N' sc fp s3 H3) "tuple.index" (λx xs H Q=>∃p,∃(ns:List Int)(i:Nat)(v:Int),x=.ref p/\xs=[.int v]/\AD X.K H p (ns.map V.int)/\ns[i]?=some v/\(∀j,j<i->ns[j]?≠some v)/\Q (.int i) H):=d3
def bY (a):(Code.builtin "list.count.loop" a).quiet=true:=Code.quiet_builtin a (by decide +kernel)
def i6 (J:s.heap.IsList l its.toArray)(hi:IntsAre its ns)(hR:∀t U,R (.ok (.ret (.int (ns.countP λx=>x==v:Nat) t))) { s with toks:=U }):
 ∀r j,its.length-j=r->j<=its.length->codeAny (model prog w) A (.builtin "list.count.loop" { pos:=[.ref l,.int v tv,rawInt j,rawInt ((ns.take j).countP λx=>x==v:Nat)] }) R s:=by
 let hil:=hi.length;intro r
 induction r with
 | zero=>
  intro j hr hj;show codeAny_builtin (b:=Builtin.«list.count.loop») (by rfl) ?_;unfold Builtin.«list.count.loop»;let{o,C,hc,n,hd}:=id J;show zD (zD (Gn C hd (zI ?_)));let e:its.toArray[(j:Int).toNat]?=none:=by rw[Dy,Fs];show E1 ()
  rw[e];rw[zR ()];show zD (wpAny_mkInt (zI (hR _ _)))
 | succ r ih=>
  intro j hr hj;show codeAny_builtin (b:=Builtin.«list.count.loop») (by rfl) ?_;unfold Builtin.«list.count.loop»;let{o,C,hc,n,hd}:=id J;show zD (zD (Gn C hd (zI ?_)));obtain⟨x,hx⟩:∃x,its[j]?=some x:={_,zC ()};let{t,0}:=hi.int_at j x hx;let e:its.toArray[(j:Int).toNat]?=some (.int (ns.getD j 0) t):=by rwa[Dy,Fs]
  rw[e];show zD (wpAny_eqBool_int ?_);show zI {bY _,?_};let I:ns[j]?=some (ns.getD j 0):=by rw[zE,zC ()];rfl
  let st:(ns.take (j+1)).countP (λx=>x==v)=(ns.take j).countP (λx=>x==v)+(if (ns.getD j 0==v)=true then 1 else 0):=by rw[ze,I,List.countP_append];change _+List.countP _ [ns.getD j 0]=_;rw[List.countP_cons,List.countP_nil,Nat.zero_add]
  let:=ih (j+1) () ();rw[st] at this;cases c:(ns.getD j 0==v) with
  | true=>rwa[c] at this
  | false=>rwa[c] at this
def dZ:HX X "list.count" (λx xs H Q=>∃p,∃(ns:List Int)(v:Int),x=.ref p/\xs=[.int v]/\AA X.K H p (ns.map V.int)/\Q (.int (ns.countP λx=>x==v:Nat)) H):=by intro pins s σ H x xs u us Q I J r h;let{p,ns,v,2,hq,q}:=h;cases (show u=Value.ref p from J);let{w',0,t,0}:=BX r;let{its,U,o,hz}:=I.list hq;let hi:=DH U;show Dv (codeAny_call_builtin PySem.F.slot_list_count.plain PySem.F.entry_list_count (PySem.F.slot_list_count.check _ _ _ _ _ _ _ _ o.isList.typeIs (PySem.F.args_list_count_2 _ _) ?_));unfold Builtin.«list.count»;show zD (wpAny_of_eq (m':=pure (Value.ref p,Value.int v t)) rfl (zI (zI {bY _,?_})));show i6 (s:=s) (ns:=ns) o.isList hi ?_ its.length 0 () (zd _);show λC tk=>{.int _,H,I.tok _,{C,0},q}
end L2
namespace WM
open L2
structure En where
 h:Int
 l:Int
 u:Option Int
 d:Option Int
def Cd (es fs:List En)(c:Int×Int):Prop:=∃e∈es,∃f∈fs,f.h=e.h/\c=(e.l+f.l,e.h)
def GD (P:Int×Int->Prop):Option (Int×Int)->Prop
 | none=>∀c,¬ P c
 | some c=>P c/\∀o,P o->c.1<o.1\/(c.1=o.1/\c.2<=o.2)
def GD.uniq :∀{a b:Option (Int×Int)},GD P a->GD P b->a=b
 | none,none,_,_=>rfl
 | none,some c,h,g=>absurd g.1 (h c)
 | some c,none,h,g=>absurd h.1 (g c)
 | some a,some b,h,g=>by
  let J:=h.2 b g.1;let I:=g.2 a h.1;let C:a.1=b.1:=()
  let o:a.2=b.2:=()
  rw[show a=b from Prod.ext C o]
def FJ (es:List En):Prop:=es.Pairwise λa b=>a.h<b.h
meta def CL (es:List En)(h:Int):Option En:=es.find? λe=>decide (e.h=h)
def Fp (I:FJ es):CL es h=some e↔e∈es/\e.h=h:=by
 unfold CL;constructor
 . intro z;show{List.mem_of_find?_eq_some z,of_decide_eq_true (List.find?_some (p:=λe:En=>decide (e.h=h)) z)}
 . rintro ⟨hm,rfl⟩
   induction es with
   | nil=>simp at hm
   | cons a es C=>
    rw[Hv];rcases zZ.mp hm with rfl | hm'
    . simp
    . let o:=F1.mp I;let:=o.1 e hm';rw[za (show ¬ a.h=e.h by lia)];show C o.2 hm'
def dS :CL es h=none↔∀e∈es,e.h≠h:=by unfold CL;rw[List.find?_eq_none];show{λz e he=>λq=>z e he (zY q),λz e he=>λq=>z e he (of_decide_eq_true q)}
meta def OM (es fs:List En)(o p:Int):Option (Int×Int)->Option Int
 | none=>none
 | some c=>if o=p then none else if c.2=o then (CL fs c.2).bind (·.d) else (CL es c.2).bind (·.u)
meta def GJ (fs:List En)(e:En):Option (Int×Int):=(CL fs e.h).map λf=>(e.l+f.l,e.h)
def je (hf:FJ fs)(c:Int×Int):c∈es.filterMap (GJ fs)↔Cd es fs c:=by
 rw[Gu];constructor
 . rintro ⟨e,he,z⟩;unfold GJ at z;cases q:CL fs e.h with
   | none=>rw[q] at z;cases z
   | some f=>rw[q] at z;let{C,I}:=(Fp hf).mp q;show{e,he,f,C,I,(zT z).symm}
 . rintro ⟨e,he,f,o,C,rfl⟩;show{e,he,?_};unfold GJ;rw[(Fp hf).mpr ⟨o,C⟩];rfl
def bg {o:Type}{l:List o}{x:o}(p:o->Bool)(h:l[i]?=some x):(l.take (i+1)).filter p=(l.take i).filter p++(if p x=true then [x] else []):=by rw[ze,h,Gf];change _++List.filter p [x]=_;rw[GX];rfl
def dQ {o C:Type}{l:List o}{x:o}(f:o->Option C)(h:l[i]?=some x):(l.take (i+1)).filterMap f=(l.take i).filterMap f++(f x).toList:=by
 rw[ze,h,List.filterMap_append];change _++List.filterMap f [x]=_;cases e:f x with
 | none=>rw[List.filterMap_cons_none e];rfl
 | some y=>rw[List.filterMap_cons_some e];rfl
end WM
namespace L2
open PySem PyProof.Rows
def gE (h:(ps.map (·.1)).Nodup):Mv ps=ps:=by
 let:∀(ps a:List (AS×V)),((a++ps).map (·.1)).Nodup->ps.foldl (λa p=>BM a p.1 p.2) a=a++ps:=by
  intro ps
  induction ps with
  | nil=>intro a _;rw[BW];rfl
  | cons p ps C=>
   intro a o;let e:BM a p.1 p.2=a++[p]:=by unfold BM;rw[if_neg];intro z;let{q,I,e}:=JQ.mp z;let J:=of_decide_eq_true e;rw[zO,Bg] at o;let:=(List.nodup_append.mp o).2.2 q.1 (List.mem_map_of_mem I) p.1 zo;show this J
   rw[List.foldl_cons,e,C (a++[p]) (by rwa[List.append_assoc]),List.append_assoc];rfl
 show this ps [] h
end L2
namespace WM
structure EG (ts:List T3)(n v:Int)(e:En):Prop where
 rng:0<=e.h/\e.h<n
 len:IsD ts v e.h e.l
 up:e.h≠v->∃p,e.u=some p/\B8 ts v e.h p
 dn:e.h≠v->∃p,e.d=some p/\B8 ts e.h v p
structure LG (ts:List T3)(n v:Int)(es:List En):Prop where
 hub:FJ es
 ent:∀e∈es,EG ts n v e
 own:∃e∈es,e.h=v
def HV (ts:List T3)(v w:Int)(es fs:List En):Prop:=∀d,IsD ts v w d->∃h,Be ts v w h/\(∃e∈es,e.h=h)/\∃f∈fs,f.h=h
def LG.zero (g:GW n ts)(L:LG ts n v es):∃e r,es.filter (λe=>decide (e.l=0))=e::r/\e.h=v:=by
 let{o,I,C}:=L.own;let J:o.l=0:=by let:=(L.ent o I).len;rw[C] at this;show this.uniq (Je g v)
 let hm:o∈es.filter (λe=>decide (e.l=0)):=CZ.mpr {I,zY J};cases e:es.filter (λe=>decide (e.l=0)) with
 | nil=>rw[e] at hm;simp at hm
 | cons a r=>
  let U:a∈es.filter (λe=>decide (e.l=0)):=by rw[e];show zo
  let{h1,h2}:=CZ.mp U;let:=(JO g (L.ent a h1).len).mp (of_decide_eq_true h2);show{a,r,0,this.symm}
def Jq (g:GW n ts)(L1:LG ts n v es)(L2:LG ts n w fs)(C:HV ts v w es fs)(h:GD (Cd es fs) lm):
 A9 ts v w (lm.map (·.1))/\∀c,lm=some c->Be ts v w c.2:=by
 cases lm with
 | none=>show{λd hd=>?_,λc z=>by cases z};let{d',hd'}:=Ad.least g hd;let{x,_,{e,he,e1},{f,hf,f1}}:=C d' hd';show h _ {e,he,f,hf,by rw[f1,e1],0}
 | some c=>
  let{{e,he,f,hf,hfe,0},lD}:=h;let ie:=(L1.ent e he).len;let o:=(L2.ent f hf).len;rw[hfe] at o;let wy:Ad ts v w (e.l+f.l):=ie.1.trans o.1.symm;let{d,hd}:=Ad.least g wy;let{x,{a,b,ia,ib,nJ},{I,he',e1},{J,hf',f1}}:=C d hd;let ed:a+b=d:=nJ.uniq hd;let ea:I.l=a:=by let:=(L1.ent I he').len;rw[e1] at this;show this.uniq ia
  let eb:J.l=b:=by let:=(L2.ent J hf').len;rw[f1] at this;show this.uniq ib.symm
  let hm:=lD (I.l+J.l,I.h) {I,he',J,hf',by rw[f1,e1],0};let h1:=hd.2 _ wy;let es:e.l+f.l=d:=by
   rcases hm with z | z
   . let:e.l+f.l<I.l+J.l:=z
     lia
   . let:e.l+f.l=I.l+J.l:=z.1
     lia
  let U:IsD ts v w (e.l+f.l):=by rwa[es]
  show{U,λc z=>?_};cases z;show⟨e.l,f.l,ie,o.symm,U⟩
def B8.on (x:B8 ts v h p)(y:Be ts v w h):B8 ts v w p:=by
 let{l,b,I,U,o}:=x;let{a,c,ia,J,C}:=y;let e:a=l+b:=ia.uniq o;show{l,b+c,I,{U.1.trans J.1,λz hz=>?_},by rwa[<-Int.add_assoc,<-e]};let:=C.2 _ ((Ad.one I).trans hz)
 lia
def UL (g:GW n ts)(U:LG ts n v es)(L2:LG ts n w fs)(C:HV ts v w es fs)(h:GD (Cd es fs) (some c))(kb:v≠w):
 ∃p,OM es fs v w (some c)=some p/\B8 ts v w p:=by
 let hb:=(Jq g U L2 C h).2 c rfl;let{{e,he,f,hf,o,0},_}:=h;change ∃p,(if v=w then none else if e.h=v then (CL fs e.h).bind (·.d) else (CL es e.h).bind (·.u))=some p/\_
 rw[if_neg kb];by_cases q:e.h=v
 . rw[if_pos q,(Fp L2.hub).mpr ⟨hf,o⟩];let{p,J,I}:=(L2.ent f hf).dn (by rwa[o,q]);rw[o,q] at I;show⟨p,J,I⟩
 . rw[if_neg q,(Fp U.hub).mpr {he,0}];let{p,J,I}:=(U.ent e he).up q;show{p,J,I.on hb}
def Y1 {P:Int->Prop}(o:Int->Int):∀m p,P p->(o p).toNat<=m->∃q,P q/\∀r,P r->(o q).toNat<=(o r).toNat
 | 0,p,hp,h=>{p,hp,λr _=>()}
 | m+1,p,hp,h=>by
  by_cases c:∃r,P r/\(o r).toNat<(o p).toNat
  . let{r,C,I}:=c;show Y1 o m r C ()
  . show{p,hp,λr C=>Nat.le_of_not_lt λz=>c ⟨r,C,z⟩}
end WM
namespace L2
open PySem PySem.Spec PyProof.Rows
end L2
namespace SortT
open PySem PySem.W PySem.Calls PyProof.Rows
end SortT
namespace L2
open PySem PySem.Spec PyProof.Rows
def Pp (K:AG):R2:=λx y H Q=>∃a b xs o,x=.ref a/\y=.ref b/\AD K H a xs/\AD K H b o/\xs.length+o.length<=sizeLine /\
 (xs=[]->Q (.ref b) H)/\(xs≠[]->o=[]->Q (.ref a) H)/\(xs≠[]->o≠[]->∀p,H p=none->Q (.ref p) (upd H p (.tup (xs++o))))
def ig {ws:List Value}(ht:IsTup s.heap t #[])(hb:IsTup s.heap b ws.toArray)
 (h:Q (.ref b) s):wpAny (model prog w) A (binaryOp .Add (.ref t) (.ref b)) Q E s:=by
 let{{cls,dd,data,sl},J,U,n,hd}:=id ht;let{{cls2,pG,data2,o},I,C,n2,hd2}:=id hb;simp only at U hd C hd2;subst U hd C hd2;show concat_meets {_,J,0} {_,I,0} noFill_tuple_add seq_tuple_add PySem.F.slot_tuple_add PySem.F.entry_tuple_add (PySem.F.args_tuple_add_2 _ _)
  (tuple_addW0 t b #[] ws.toArray n n2 dd pG sl o rfl) ⟨J,I,h⟩
def jf:Au X (binaryOp .Add) (Pp X.K):=by
 intro pins s σ H x y v u Q I J C h;let{a,b,xs,ys,2,ha,U,hz,q0,q1,q2}:=h;by_cases o:xs=[]
 . subst o;cases J;cases C;let{its,r1,p1,_}:=I.tuple ha;let{kf,r2,p2,_}:=I.tuple U;cases r1;show ig p1 p2 {.ref b,H,I,0,q0 rfl}
 . show fu pins s σ H _ _ v u Q I J C {a,b,xs,ys,2,ha,U,o,hz,q1 o,q2 o}
inductive Ig (xs:List V)(H:Hp)(Q:VK):Prop
 | mk:∀i:Int,(xs=[.int i])->(i.natAbs<1000000000)->(Q (.str (Str.ofString (toString i))) H)->Ig xs H Q
def C3:CF X (.type "str") Ig:=by intro pins s σ H xs us Q I r h;let{i,0,hi,q}:=h;let{u,0,o}:=BX r;let{t,0}:=o;show str_of_int_fit (N:=1000000000) (by split <;> lia) (by decide) λ_=>{.str _,H,I.tok _,{1},q}
def Oi (K:AG):R2:=λx y H Q=>∃a b xs,x=.ref a/\y=.ref b/\AD K H a xs/\AD K H b []/\Q (.bl (!xs.isEmpty)) H
def iT (hu:X.A.units<cLine):Au X (compareOp .NotEq) (Oi X.K):=by
 intro pins s σ H x y v u Q I C o h;let{a,b,xs,2,ha,hb,q}:=h;cases C;cases o;let{its,r,U,hz}:=I.tuple ha;let{kf,J,lR,hz2}:=I.tuple hb;let l1:=r.length;let e2:kf=[]:=by cases J;rfl
 subst e2;show PySem.EqBoolInt.of_rcne (SeqAt.RcNeAt.tuples (e:=λ_=>true) U lR hu (λj _ h2=>absurd h2 (by simp))) {.bl _,H,I,0,?_};let e:(!((List.range (min its.toArray.size ([]:List Value).toArray.size)).all (λ_=>true) && its.toArray.size==([]:List Value).toArray.size))=!xs.isEmpty:=by
  cases xs with
  | nil=>cases r;rfl
  | cons x xs=>cases r;simp
 rwa[e]
end L2
namespace HT
open PySem PySem.Spec PyProof.Rows
end HT
namespace L2
open PySem PySem.Spec PyProof.Rows
end L2
namespace HT
open PySem PySem.Spec PyProof.Rows
def getItem_tuple_all {lo:Option Int}(C:IsTup s.heap t items)(U:s.heap.IsSliceOf sl vl vu .none)(pl:IsPart vl lo)(pu:IsPart vu hi)
 (hw:sIx items.size 0 lo=0/\sIx items.size items.size hi=items.size)(h:Q (.ref t) s):wpAny (model prog w) A (getItem (.ref t) (.ref sl)) Q E s:=by
 let{os,oB,I,hds}:=id U;let J:s.TypeIs (.ref sl) "slice" := ⟨os,oB,I⟩;unfold getItem
 try with_reducible show Ba ?_
 first | show zD (zI ?_) | skip
 show zD (wpAny_sequenceKey C.typeIs (by decide) ?_);show zD (Hq (name:=Str.ofString "__getitem__") C.typeIs PyProof.Rows.slot_tuple_getitem
  (Ez PyProof.Rows.slot_tuple_getitem C.typeIs entry_tuple_getitem ?_ (args_tuple_getitem _ _)))
 change wpAny _ _ (Builtin.Tuple.tupleItemsOf (.ref t) >>= _) _ _ s;show zD (tupleItemsOf_ C ?_);show zD (Ec J ?_);rw[if_pos (by decide)];show zD (YF U pl pu ?_);let o:(((sIx items.size 0 lo:Nat):Int)==0 && (1:Int)==1 && (sIx items.size items.size hi-sIx items.size 0 lo)==items.size)=true:=by rw[hw.1,hw.2];simp
 change wpAny _ _ (if (((sIx items.size 0 lo:Nat):Int)==0 && (1:Int)==1 && (sIx items.size items.size hi-sIx items.size 0 lo)==items.size)=true then _ else _) _ _ s
 rw[if_pos o];unfold Builtin.Tuple.tupleIsExact;show zD (zD (Ec C.typeIs (zI ?_)));rw[if_pos (by decide)]
 first
  | show zD (ES (zI {1,zI h}))
  | show zD (ES (zI (zI {1,zI h})))
  | show zD (ES (zD (zI (zI {1,zI h}))))
  | show ES (zI {1,zI h})
end HT
namespace L2
open PySem PySem.Spec PyProof.Rows
def Xu (K:AG):V->Option Int->Option Int->Hp->VK->Prop:=λx lo hi H Q=>∃a xs,x=.ref a/\AD K H a xs /\
 ((HT.sIx xs.length 0 lo=0/\HT.sIx xs.length xs.length hi=xs.length)->Q (.ref a) H)/\(¬ (HT.sIx xs.length 0 lo=0/\HT.sIx xs.length xs.length hi=xs.length)->∀p,H p=none->Q (.ref p) (upd H p (.tup (BV xs lo hi))))
def j6:NV X (Xu X.K):=by
 intro pins s σ H x v vl vu lo hi sl Q I o hs C pu h;let{a,xs,0,J,q1,q2}:=h;by_cases c:HT.sIx xs.length 0 lo=0/\HT.sIx xs.length xs.length hi=xs.length
 . cases o;let{its,r,U,hz}:=I.tuple J;let hlen:its.toArray.size=xs.length:=by rw[zP];show r.length.symm
   show{"tuple",_,PyProof.Rows.slot_tuple_getitem.lookup,U.typeIs,?_};show HT.getItem_tuple_all U hs C pu (by rwa[hlen]) {.ref a,H,I,0,q1 c}
 . show KR pins s σ H _ v vl vu lo hi sl Q I o hs C pu {a,xs,0,J,c,q2 c}
end L2
namespace STb
open PySem
end STb
namespace STb
open PySem PySem.Spec PyProof.Rows L2
end STb
namespace STb
open PySem PySem.Spec PyProof.Rows PySem.Calls L2
end STb
namespace STb
open PySem PySem.Spec PyProof.Rows L2
end STb
namespace L2
open PySem PySem.Spec PyProof.Rows STb
end L2
namespace L2
open PySem PyProof.Rows
end L2
namespace L2
open PySem PySem.Spec PyProof.Rows
def AB.turnedLaid {t':Nat}{fp:List Addr}{a:Addr}{o:HO}(I:AB X pins σ H s)(hf:∀b∈fp,Cy X pins H b)(k:∀b u,b∉fp->s.heap.get? b=some u->h'.get? b=some u)(U:s.heap.objs.size<=a)
 (new:BD X.prog X.w (upd H a o) h' a o):AB X pins σ (upd H a o) { s with heap:=h',toks:=t' }:=by
 let fr:H a=none:=I.hok.fresh U;let J:∀b u,H b=some u->b∉fp:=λb u e z=>by rw[(hf b z).1] at e;cases e
 let na:∀b u,H b=some u->b≠a:=λb u e z=>by rw[z,fr] at e;cases e
 show I.step (g':=s.gens) (d':=s.drawn) (ch:=fp) (λb hb=>?_) (λb u _ _ C e _=>k b u C e) (λb u _ _ C e _=>{u.slots,k b u C e}) (λb u C e n=>?_) (λb u C e=>{u,k b u C e})
  (λb xs e=>by rwa[zg (na b _ e)]) (λb u w e=>by rwa[zg (na b _ e)]) (λb ps e=>{#[],by rw[zg (na b _ e),e];simp}) (λm hm=>?_) (λb u e=>?_) I.bare
 . let{f0,f1,f2,f3,f4,f5}:=hf b hb;show⟨f3,f1,f4,f5⟩
 . rwa[zg (zh (zv (zc e) U))]
 . let{u,es,ep,ho,r}:=hm;show{u,es,ep,k _ u (λz=>(hf _ z).2.1 rfl) ho,r}
 . by_cases z:b=a
   . subst z;rw[zF] at e;cases e;show new
   . rw[zg z] at e;show (I.hok b u e).stay (λc v C q=>k c v ?_ q) (λc q=>by rwa[zg (na c _ q)]) λc xs q=>by rwa[zg (na c _ q)]
     rcases C with z | z
     . rw[z];show J b u e
     . show J c _ z
meta def W9 (K:AG)(a:Addr):It:=
 {λi H=>∃xs x,AA K H a xs/\xs[i]?=some x,λi H x H'=>∃T v,x=.ref T/\H T=none/\H'=upd H T (.tup [.int i,v])/\∀xs,AA K H a xs->xs[i]?=some v,λi H=>∃xs,AA K H a xs/\xs.length<=i}
def j2 {P:Program}{w:World}{K:AG}{elts:List Expr} {x1} {tp:Pos}(a e it:Addr):Hw P w K (.Tuple elts x1 tp) (W9 K a) [e,it] e (λi h=>(∃old,IsEnum h e it (i:Nat) old)/\h.IsListIter it a i/\e≠it) where
 mem:=by simp
 obj:=λi h st b hb=>by
  let{{old,he},{o,e1,c,d},_}:=st;rcases zZ.mp hb with rfl | hb
  . show{_,he,λv z=>by cases z}
  . let e2:b=it:=by simpa using hb
    subst e2;show{o,e1,λv z=>by rw[d] at z;cases z}
 keep:=λi h h' st k=>by let{{old,he},hit,ne}:=st;show{{old,k e (by simp) _ he},hit.at λo x=>k it (by simp) o x,ne}
 item:=by
  intro X hP hw hK hc i pins s σ H E I hf st hg;subst hP hw hK;let{{old,he},hit,ne}:=st;let{xs,x,J,hx}:=hg;let{its,U,p,hz}:=I.list J;let{u,hu,ru}:=U.get hx;let elt:e<s.heap.objs.size:=zc he;let ilt:it<s.heap.objs.size:=by let{_,q,_}:=id hit;show zc q
  show wpAny_pyNext_enum_item he hit p.isList (x:=u) (by simpa using hu) ne λh' oO kx hT hsz hk=>?_;show{1,wpAny_letOwnedTupleGo_enum oO λh2 m9 l6=>?_};let C:h2.get? s.heap.objs.size=some { cls:=.type "tuple",data:=.seq #[.int i s.toks,u] }:=(l6.2 _ (Nat.ne_of_gt elt)).trans hT;show{.ref s.heap.objs.size,upd H s.heap.objs.size (.tup [.int i,x]),I.turnedLaid (t':=s.toks+1) (fp:=[e,it]) hf (λb o hb q=>?_) (zL _) ?_,0,{_,x,0,I.hok.fresh (zL _),0,λys hy=>by rwa[I.list_inj hy J]},{{u,?_},?_,ne},λb hb=>?_}
  . show (l6.2 b λz=>hb (by simp[z])).trans (hk b o (λz=>hb (by simp[z])) (λz=>hb (by simp[z])) q)
  . show{{B7,_,C,0},[.int i s.toks,u],.cons {1} (.cons ru .nil),{_,C,6}}
  . let:=m9;rwa [show ((i:Nat):Int)+1=((i+1:Nat):Int) by lia] at this
  . show kx.at λo q=>(l6.2 it (Ne.symm ne)).trans q
  . rcases zZ.mp hb with rfl | hb
    . rw[zg (zh elt)];show (hf _ (by simp)).1
    . let e2:b=it:=by simpa using hb
      subst e2;rw[zg (zh ilt)];show (hf _ (by simp)).1
 done:=by intro X hP hw hK hc i pins s σ H E I hf st hg;subst hP hw hK;let{{old,he},hit,ne}:=st;let{xs,J,hx}:=hg;let{its,U,p,hz}:=I.list J;let{f0,f1,f2,f3,f4,f5}:=hf it (by simp);let hl:=U.length;show wpAny_pyNext_enum_end (I.ok.hd hc) he hit p.isList (by simp;lia) λh' eb=>{0,I.turned (t':=s.toks) (λb o hb e=>eb b o hb e) f0 f1 f3 f4 f5}
 self:=λ_ _ _ _ _ st h=>by let{{old,he},_}:=st;show wpAny_pyIter_enum he h
def QE (K:AG)(ta:TA):TI:=λσ H R=>ta σ H λo H1=>∃a,o=[.ref a]/\(∃xs,AA K H1 a xs)/\R (W9 K a) H1
def g8 {x1} (hg:Gl X "enumerate") (hm:X.mg "enumerate"=none) (ha:PA X [a] ta)(hs:autoParam (starEach [a] X.env=[(false,eval a X.env)]) d_._auto_5):PI X (.Tuple elts x1 tp) (.Call (.Name "enumerate" p) [a] [] pos) (QE X.K ta):=by
 intro pins s σ H R I h;show Call_ (Dd I hg hm boot_enumerate (PyProof.Rows.callWith_type1 (AH (ha pos pins s σ H _ I h) λus s1 ⟨vs,H1,o,J,U⟩=>?_) hs rfl));let{l,e,{xs,hq},q}:=U;subst e;let{u,0,C}:=BX J;cases C;let{its,rv,pl,hz}:=o.list hq;show call_enumerate_list pl.isList λh' he hit hsz hk=>?_;show wpAny_pyIter_enum he ?_;show{s1.heap.objs.size+1,[s1.heap.objs.size+1,s1.heap.objs.size],3,H1,0,o.kept (t':=s1.toks) hk,j2 l _ _,{{_,he},hit,Nat.succ_ne_self _},λb hb=>?_,q};rcases zZ.mp hb with rfl | hb
 . show o.fpOk (BZ _) (o.hok.fresh (BZ _))
 . let e2:b=s1.heap.objs.size:=by simpa using hb
   subst e2;show o.fpOk (zL _) (o.hok.fresh (zL _))
def fh {K:AG}(Pv:Nat->List V->Hp->Prop)(h0:Pv 0 [] (upd H1 D (.lst [])))(hl:∀i ys H,Pv i ys H->AA K H a xs)(J:∀i ys H,Pv i ys H->ys.length<sizeLine)
 (hs:∀i x ys H T,xs[i]?=some x->Pv i ys H->H T=none->g (.ref T) (List.replicate own none++cv.map some) (upd H T (.tup [.int i,x])) λo H2=>(o.length=own+cv.length/\o.drop own=cv.map some) /\
  ti o H2 λb H3=>if b=true then te o H3 λy H4=>H4 D=some (.lst ys)/\Pv (i+1) (ys++[y]) (upd H4 D (.lst (ys++[y]))) else Pv (i+1) ys H3)
 (hd:∀ys H,Pv xs.length ys H->Q (.ref D) H):Mw (W9 K a) own cv g ti te D H1 Q:=by
 show{λi m ys H=>m=xs.length-i/\i<=xs.length/\Pv i ys H,{xs.length,0,zd _,h0},?_};rintro i m ys H ⟨rfl,hi,p⟩;let q:=hl i ys H p;by_cases C:i<xs.length
 . show .inr {{xs,xs[i],q,by simp[C]},J i ys H p,Pv (i+1),λlM H' I=>{xs.length-(i+1),(),0,C,I},λx H' y=>?_};let{T,v,0,hT,0,U}:=y;show hs i v ys H T (U xs q) p hT
 . let e:i=xs.length:=()
   subst e;show .inl {{xs,q,zL _},hd ys H p}
end L2
namespace L2
open PySem PySem.Spec PyProof.Rows
open PySem.AutoSeq1 (wpAny_loadPart')
def gZ (hi:s.heap.IsTupleIter it t i)(U:s.heap.IsTuple t items)(J:items[i]?=some x)
 (hQ:∀h',h'.IsTupleIter it t (i+1)->Heap.SameBut it s.heap h'->Q x { s with heap:=h' }):wpAny (model prog w) A (Builtin.SmallTypes.nextOf (.ref it)) Q E s:=by
 let{oi,C,ci,o}:=id hi;let{ot,I,_,nt,dt}:=U;unfold Builtin.SmallTypes.nextOf;show zD (Hq (name:=Str.ofString "__next__") hi.typeIs PySem.F.slot_tuple_iterator_next (Ez PySem.F.slot_tuple_iterator_next hi.typeIs PySem.F.entry_tuple_iterator_next ?_ (PySem.F.args_tuple_iterator_next_1 _)));change wpAny (model prog w) _ (field (.ref it) 0 >>= _) _ _ s;show zD (wpAny_field C o (x:=.ref t) rfl ?_);change wpAny (model prog w) _ (if (Value.ref t==Value.none)=true then _ else _) _ _ s;rw[if_neg (show ¬ ((Value.ref t==Value.none)=true) from zk)]
 change wpAny (model prog w) _ (field (.ref it) 1 >>= _) _ _ s;show zD (wpAny_field C o (x:=.int i 0) rfl ?_);change wpAny (model prog w) _ (seqItems? (.ref t) >>= _) _ _ s;show zD (Gn I dt ?_);simp only[J,Fs];show zD (wpAny_setField C o (by simp) (zI {x,0,zI (hQ _ ?_ (Heap.SameBut.update ..))}));show{_,Heap.get?_update_self _ C (Obj.isFreed_of_fields (Obj.data_mapFields o _)),(Obj.cls_mapFields ..).trans ci,?_};rw[Obj.data_mapFields o];simp[rawInt]
def Yl (U:A.handled=none)(hi:s.heap.IsTupleIter it t i)(ht:s.heap.IsTuple t items)(hx:items[i]?=none)
 (hE:∀h' e,Heap.ExtBut it s.heap h'->(∃o,h'.get? e=some o/\o.cls=.type "StopIteration")->E (.ref e) { s with heap:=h' }):wpAny (model prog w) A (Builtin.SmallTypes.nextOf (.ref it)) Q E s:=by
 let{oi,C,ci,J}:=id hi;let{ot,I,_,nt,dt}:=ht;unfold Builtin.SmallTypes.nextOf;show zD (Hq (name:=Str.ofString "__next__") hi.typeIs PySem.F.slot_tuple_iterator_next (Ez PySem.F.slot_tuple_iterator_next hi.typeIs PySem.F.entry_tuple_iterator_next ?_ (PySem.F.args_tuple_iterator_next_1 _)));change wpAny (model prog w) _ (field (.ref it) 0 >>= _) _ _ s;show zD (wpAny_field C J (x:=.ref t) rfl ?_);change wpAny (model prog w) _ (if (Value.ref t==Value.none)=true then _ else _) _ _ s;rw[if_neg (show ¬ ((Value.ref t==Value.none)=true) from zk)]
 change wpAny (model prog w) _ (field (.ref it) 1 >>= _) _ _ s;show zD (wpAny_field C J (x:=.int i 0) rfl ?_);change wpAny (model prog w) _ (seqItems? (.ref t) >>= _) _ _ s;show zD (Gn I dt ?_);simp only[hx,Fs];show zD (ES (zD (wpAny_setField C J (by simp) ?_)));change wpAny (model prog w) _ (newExc (.type "StopIteration") [] >>= _) _ _ _;show zD ?_;simp only[newTuple,newExc];show zD (D7 ?_ (by size_fits));show zD (m:=firstArgMember _ _) (PySem.wpAny_of_eq (a:=Value.none) (by first | rfl | (simp only[firstArgMember];rfl)) ?_);show D7 ?_ (by size_fits);simp only[raiseNew];show zD (wpAny_handled ?_)
 first
  | rw[show A.in1.handled=none from U]
  | rw[U]
 show zD (zI (wpAny_throw (hE _ _ (((Heap.SameBut.update ..).extBut.push _).push _) {_,zU _ rfl,0})))
def iA {prog:Program}{w:World}{A:Around}(hA:A.handled=none)(it t:Addr)(kb:t≠it)(items:Array Value):
 Draws prog w A it [it,t] items.size (λi v=>items[i]?=some v) (λi h=>h.IsTupleIter it t i/\h.IsTuple t items) where
 live:=λ_ _ st=>by let{{o,C,_},_}:=st;show⟨o,C⟩
 frame:=λ_ h h' st J=>by let{{o,C,r},I,mT,U}:=st;show{{o,J it (by simp) o C,r},I,J t (by simp) I mT,U}
 item:=λi s Q E hi st hQ=>gZ st.1 st.2 (x:=items[i]) (by simp[hi]) λh' a b=>hQ _ h' s.toks (by simp[hi]) {a,st.2.extBut b.extBut kb} b
 done:=λs Q E st hE=>Yl hA st.1 st.2 (by simp) hE
def iD (t)(items)(n)(dct)(sl):
 Meets (Builtin.«enumerate.__new__» {[.type "enumerate",.ref t],[]}) (λ_ R s=>s.heap.get? t=some { cls:=.type "tuple",dict:=dct,data:=.seq items n,slots:=sl } /\
  R (.ok (.ret (.ref (s.heap.push { cls:=.type "tuple_iterator",data:=.fields #[.ref t,.int 0 0] }).objs.size))) { s with heap:=(s.heap.push { cls:=.type "tuple_iterator",data:=.fields #[.ref t,.int 0 0] }).push { cls:=.type "enumerate",data:=.fields #[.none,.bool false,.ref s.heap.objs.size,rawInt 0,.none,.none] } }):=by
 show .of_wp λprog w A R s hs=>?_;let{hp,g,d,J,os}:=s;let{o,I}:=hs;let su:=sub_enumerate;let C:Heap.IsTuple (Shared.heap ⟨hp,g,d,J,os⟩) t items:={_,o,0,n,0}
 wp_walk using wpAny_loadPart' o
 show wpAny_stack_any λU=>zI ?_;split
 . rename_i c _ _ _ _ _
   cases (c==Value.type "enumerate") <;> (wp_walk using wpAny_loadPart' o,wpAny_pyIter_tuple C;show{1,I})
 . wp_walk using wpAny_loadPart' o,wpAny_pyIter_tuple C
   show{1,I}
def fo (hT:s.heap.IsTuple t items)
 (h:∀h',IsEnum h' (s.heap.objs.size+1) s.heap.objs.size 0 .none->h'.IsTupleIter s.heap.objs.size t 0->(∀b o,s.heap.get? b=some o->h'.get? b=some o)->Q (.ref (s.heap.objs.size+1)) { s with heap:=h' }):
 wpAny (model prog w) A (call (.type "enumerate") [.ref t]) Q E s:=by
 let{{c,C,dt,J},U,hc,n,hd}:=hT;obtain rfl:c=.type "tuple" := hc;obtain rfl:dt=.seq items n:=hd;show callType_new PySem.F.called_enumerate (by decide) (PySem.F.typeCall_enumerate_1 _) (PySem.F.newCall_enumerate_1 _) (λobj=>PySem.F.args_object_init_2 obj _) PySem.F.entry_enumerate_new (iD t items n C J) {U,?_};let I:(s.heap.push { cls:=.type "tuple_iterator",data:=.fields #[.ref t,.int 0 0] }).objs.size=s.heap.objs.size+1:=DE ..;change _/\_;rw[I];let he:IsEnum ((s.heap.push { cls:=.type "tuple_iterator",data:=.fields #[.ref t,.int 0 0] }).push { cls:=.type "enumerate",data:=.fields #[.none,.bool false,.ref s.heap.objs.size,rawInt 0,.none,.none] }) (s.heap.objs.size+1) s.heap.objs.size 0 .none:=by let g:=zU (s.heap.push { cls:=.type "tuple_iterator",data:=.fields #[.ref t,.int 0 0] }) (o:={ cls:=.type "enumerate",data:=.fields #[.none,.bool false,.ref s.heap.objs.size,rawInt 0,.none,.none] }) rfl;rwa [I] at g
 show{{_,he,0},h _ he {_,zM _ (zU _ rfl),2} λb o x=>zM _ (zM _ x)}
meta def FO (K:AG)(a:Addr):It:=
 {λi H=>∃xs x,AD K H a xs/\xs[i]?=some x,λi H x H'=>∃T v,x=.ref T/\H T=none/\H'=upd H T (.tup [.int i,v])/\∀xs,AD K H a xs->xs[i]?=some v,λi H=>∃xs,AD K H a xs/\xs.length<=i}
def fG {P:Program}{w:World}{K:AG}{elts:List Expr} {x1} {tp:Pos}(a e it:Addr):Hw P w K (.Tuple elts x1 tp) (FO K a) [e,it] e (λi h=>(∃old,IsEnum h e it (i:Nat) old)/\h.IsTupleIter it a i/\e≠it/\a≠it/\a≠e) where
 mem:=by simp
 obj:=λi h st b hb=>by
  let{{old,he},{o,e1,c,d},_}:=st;rcases zZ.mp hb with rfl | hb
  . show{_,he,λv z=>by cases z}
  . let e2:b=it:=by simpa using hb
    subst e2;show{o,e1,λv z=>by rw[d] at z;cases z}
 keep:=λi h h' st k=>by let{{old,he},{o,e1,r},ne}:=st;show{{old,k e (by simp) _ he},{o,k it (by simp) o e1,r},ne}
 item:=by
  intro X hP hw hK hc i pins s σ H E I hf st hg;subst hP hw hK;let{{old,he},hit,ne,C,J}:=st;let{xs,x,hq,hx}:=hg;let{its,rv,p,hz}:=I.tuple hq;let{u,hu,ru}:=rv.get hx;let elt:e<s.heap.objs.size:=zc he;let ilt:it<s.heap.objs.size:=by let{_,q,_}:=id hit;show zc q
  let kS:i<its.toArray.size:=by let:=(zH.mp hu).1;simpa using this
  show wpAny_pyNext_enum_itemD (iA (A:=X.A.in1) (I.ok.hd hc) it a C its.toArray) he ⟨hit,p⟩ kS ne (by simp;show{ne,λz=>J z.symm}) λy h' tk hy oO U hT hsz hk=>?_;let hyu:y=u:=by
   let h1:its[i]?=some y:=by simpa using hy
   rw[hu] at h1;show (zT h1).symm
  subst hyu;show{1,wpAny_letOwnedTupleGo_enum oO λh2 m9 l6=>?_};let hT2:h2.get? s.heap.objs.size=some { cls:=.type "tuple",data:=.seq #[.int i tk,y] }:=(l6.2 _ (Nat.ne_of_gt elt)).trans hT;show{.ref s.heap.objs.size,upd H s.heap.objs.size (.tup [.int i,x]),I.turnedLaid (t':=tk+1) (fp:=[e,it]) hf (λb o hb q=>?_) (zL _) ?_,0,{_,x,0,I.hok.fresh (zL _),0,λzs hzs=>by rwa[I.tuple_inj hzs hq]},{{y,?_},?_,ne,C,J},λb hb=>?_}
  . show (l6.2 b λz=>hb (by simp[z])).trans (hk b o (λz=>hb (by simp[z])) (λz=>hb (by simp[z])) q)
  . show{{B7,_,hT2,0},[.int i tk,y],.cons {1} (.cons ru .nil),{_,hT2,6}}
  . let:=m9;rwa [show ((i:Nat):Int)+1=((i+1:Nat):Int) by lia] at this
  . let{{o,ho,r},_}:=U;show{o,(l6.2 it (Ne.symm ne)).trans ho,r}
  . rcases zZ.mp hb with rfl | hb
    . rw[zg (zh elt)];show (hf _ (by simp)).1
    . let e2:b=it:=by simpa using hb
      subst e2;rw[zg (zh ilt)];show (hf _ (by simp)).1
 done:=by intro X hP hw hK hc i pins s σ H E I hf st hg;subst hP hw hK;let{{old,he},hit,ne,C,J}:=st;let{xs,hq,hx}:=hg;let{its,rv,p,hz}:=I.tuple hq;let{f0,f1,f2,f3,f4,f5}:=hf it (by simp);let hl:=rv.length;unfold pyNext;let hT:s.TypeIs (.ref e) "enumerate" := {_,he,0};show zD (wpAny_attempt (Hq (name:=Str.ofString "__next__") hT PySem.F.slot_enumerate_next (Ez PySem.F.slot_enumerate_next hT PySem.F.entry_enumerate_next ?_ (PySem.F.args_enumerate_next_1 _))));change wpAny (model X.prog X.w) _ (field (.ref e) 2 >>= _) _ _ s;show zD (wpAny_field he rfl (x:=.ref it) rfl ?_);show zD (Yl (A:=X.A.in1) (I.ok.hd hc) hit p (by simp;lia) λh' z eb hz'=>?_);let{o,ho,mY}:=hz';show zD (Gv (T := "StopIteration") (b:=true) ⟨o,ho,mY⟩ isSubtype_stop (zI ?_));show{0,I.turned (t':=s.toks) (λb o hb e=>eb b o hb e) f0 f1 f3 f4 f5}
 self:=λ_ _ _ _ _ st h=>by let{{old,he},_}:=st;show wpAny_pyIter_enum he h
def Kw (K:AG)(ta:TA):TI:=λσ H R=>ta σ H λo H1=>∃a,o=[.ref a]/\(∃xs,AD K H1 a xs)/\R (FO K a) H1
def VB {x1} (hg:Gl X "enumerate") (hm:X.mg "enumerate"=none) (ha:PA X [a] ta)(hs:autoParam (starEach [a] X.env=[(false,eval a X.env)]) d_._auto_5):PI X (.Tuple elts x1 tp) (.Call (.Name "enumerate" p) [a] [] pos) (Kw X.K ta):=by
 intro pins s σ H R I h;show Call_ (Dd I hg hm boot_enumerate (PyProof.Rows.callWith_type1 (AH (ha pos pins s σ H _ I h) λus s1 ⟨vs,H1,C,r1,q1⟩=>?_) hs rfl));let{l,e,{xs,hq},q}:=q1;subst e;let{u,0,rx}:=BX r1;cases rx;let{its,rv,J,hz}:=C.tuple hq;let U:l<s1.heap.objs.size:=by let{o,ho,_}:=id J;show zc ho
 show fo J λh' he hit hk=>?_;show wpAny_pyIter_enum he ?_;show{s1.heap.objs.size+1,[s1.heap.objs.size+1,s1.heap.objs.size],3,H1,0,C.kept (t':=s1.toks) hk,fG l _ _,{{_,he},hit,Nat.succ_ne_self _,zh U,zh (E2 U)},λb hb=>?_,q};rcases zZ.mp hb with rfl | hb
 . show C.fpOk (BZ _) (C.hok.fresh (BZ _))
 . let e2:b=s1.heap.objs.size:=by simpa using hb
   subst e2;show C.fpOk (zL _) (C.hok.fresh (zL _))
def VR {K:AG}{g:TG}{tb:TS}{D:EE}(Pv:Nat->St->Hp->Prop)(h0:Pv 0 σ H)(U:∀i σ H,i<=xs.length->Pv i σ H->AD K H a xs)
 (hs:∀i x σ H T,xs[i]?=some x->Pv i σ H->H T=none->g (.ref T) σ (upd H T (.tup [.int i,x])) λo H2=>tb { D with nx:=Pv (i+1),ct:=Pv (i+1),bk:=D.nx } o H2)(hd:∀ σ H,Pv xs.length σ H->D.nx σ H):
 ∃W:Nat->Nat->St->Hp->Prop,(∃m,W 0 m σ H)/\∀i m σ H,W i m σ H ->
  ((FO K a).stop i H/\D.nx σ H)\/((FO K a).go i H/\∃N:St->Hp->Prop,(∀ C H',N C H'->∃m',m'<m/\W (i+1) m' C H')/\∀x H',(FO K a).yld i H x H'->g x σ H' λo H2=>tb { D with nx:=N,ct:=N,bk:=D.nx } o H2):=by
 show{λi m σ H=>i<=xs.length/\m=xs.length-i/\Pv i σ H,{_,zd _,0,h0},λi m σ H h=>?_};let{hi,0,I}:=h;by_cases c:i<xs.length
 . show .inr {{xs,xs[i],U i σ H hi I,zC c},Pv (i+1),λC H' J=>{xs.length-(i+1),(),c,0,J},λx H' y=>?_};let{T,v,0,hT,0,hv}:=y;show hs i v σ H T (hv xs (U i σ H hi I)) I hT
 . let e:i=xs.length:=()
   subst e;show .inl {{xs,U _ σ H hi I,zL _},hd σ H I}
end L2
namespace L2
open PySem PySem.Spec PySem.W PyProof.Rows Builtin Builtin.ObjectAttr Builtin.Getset_descriptor
end L2
namespace L2
open PySem PySem.Spec PyProof.Rows
end L2
namespace L2
open PySem PyProof.Rows
end L2
namespace L2
open PySem PySem.Spec PyProof.Rows
def VF (a b):Gy (oV a) (oV b)=decide (a=b):=by
 cases a with
 | none=>cases b with
  | none=>rfl
  | some b=>rfl
 | some a=>cases b with
  | none=>rfl
  | some b=>
   change (a==b)=_;by_cases h:a=b
   . subst h;simp
   . rw[za (by simpa using h)];simpa using h
def cL (a):Fc (oV a)=true:=by cases a <;> rfl
def jr {xs:List (Option Int)}:((List.range (min xs.length ys.length)).all (λj=>decide (xs.getD j none=ys.getD j none)) && xs.length==ys.length)=decide (xs=ys):=by
 by_cases h:xs=ys
 . subst h;simp
 . rw[za h];by_cases C:xs.length=ys.length
   . let:∃j,j<xs.length/\xs.getD j none≠ys.getD j none:=by apply F9;intro J;show h (List.ext_getElem C λj I U=>?_);apply F9;intro o;show J {j,I,by simpa [zE,I,U] using o}
     let{j,hj,o}:=this;rw[Bool.and_eq_false_iff];left;rw[List.all_eq_false];show{j,by rw[Et];lia,by simpa using o}
   . simp[C]
def Md {xs ys:List (Option Int)}(U:AI (xs.map oV) us)(J:AI (ys.map oV) ws)(j)(a:j<us.toArray.size)(b:j<ws.toArray.size):SeqAt.EqAt A s us.toArray[j] ws.toArray[j] (decide (xs.getD j none=ys.getD j none)):=by
 let l1:=U.length;let l2:=J.length;rw[zA] at l1 l2;rw[zP] at a b;let C:j<xs.length:=()
 let o:j<ys.length:=()
 let{u,I,ru}:=U.get (i:=j) (x:=oV xs[j]) (by simp[C]);let{w,hw,mJ}:=J.get (i:=j) (x:=oV ys[j]) (by simp[o]);let e1:us.toArray[j]'(by rwa[zP])=u:=by rw[zC a] at I;simpa using zT I
 let e2:ws.toArray[j]'(by rwa[zP])=w:=by rw[zC b] at hw;simpa using zT hw
 let e3:xs.getD j none=xs[j]:=by rw[zE,zC C];rfl
 let e4:ys.getD j none=ys[j]:=by rw[zE,zC o];rfl
 rw[e1,e2,e3,e4,<-VF];show aS ru mJ (cL _) (cL _)
def gf {N:CV}(h:M.length=N.length):(List.range M.length).all (λj=>decide (M.getD j []=N.getD j []))=decide (M=N):=by
 by_cases c:M=N
 . subst c;rw[zY rfl];show Ea.mpr λj _=>zY rfl
 . rw[za c];let:∃j,j<M.length/\M.getD j []≠N.getD j []:=by apply F9;intro I;show c (List.ext_getElem h λj C U=>?_);apply F9;intro o;show I {j,C,by simpa [zE,C,U] using o}
   let{j,J,o}:=this;rw[List.all_eq_false];show{j,Et.mpr J,by simpa using o}
def FX (K:AG)(H:Hp)(a:Addr)(M:CV):Prop:=∃rs:List Addr,AD K H a (rs.map V.ref)/\rs.length=M.length/\∀(i:Nat)r row,rs[i]?=some r->M[i]?=some row->H r=some (.tup (row.map oV))
def iu {N:CV}:((List.range (min M.length N.length)).all (λj=>decide (M.getD j []=N.getD j [])) && M.length==N.length)=decide (M=N):=by
 by_cases h:M.length=N.length
 . rw[h,Nat.min_self,<-h,gf h,h];simp
 . rw[za λz=>h (congrArg List.length z),show (M.length==N.length)=false from beq_eq_false_iff_ne.mpr h,Bool.and_false]
def aN:∀(xs ys:List (Option Int)),xs.map oV=ys.map oV->xs=ys
 | [],[],_=>rfl
 | [],_::_,h=>by cases h
 | _::_,[],h=>by cases h
 | x::xs,y::ys,h=>by rw[Bg,Bg] at h;injection h with h1 h2;let z:=VF x y;rw[<-h1,VF x x,zY rfl] at z;rw[of_decide_eq_true z.symm,aN xs ys h2]
def iY (hu:X.A.units+1<cLine):Au X (compareOp .NotEq) (λx y H Q=>∃a b M N,x=.ref a/\y=.ref b/\FX X.K H a M/\FX X.K H b N/\Q (.bl (!decide (M=N))) H):=by
 intro pins s σ H x y v u Q I rx ry h;let{a,b,M,N,2,{rs,ha,k8,h1},{o,hb,kY,h2},q}:=h;cases rx;cases ry;let{its,r,pl,hz}:=I.tuple ha;let{kf,r2,lR,hz2}:=I.tuple hb;let l1:=r.length;let l2:=r2.length;rw[zA] at l1 l2;show PySem.EqBoolInt.of_rcne (SeqAt.RcNeAt.tuples (e:=λj=>decide (M.getD j []=N.getD j [])) pl lR () (λj ja jb=>?_)) {.bl _,H,I,0,?_}
 . rw[zP] at ja jb;let jx:j<rs.length:=()
   let jy:j<o.length:=()
   let jM:j<M.length:=()
   let jN:j<N.length:=()
   let{w1,U,rw1}:=r.get (i:=j) (x:=.ref rs[j]) (by simp[jx]);let{w2,oI,rw2}:=r2.get (i:=j) (x:=.ref o[j]) (by simp[jy]);cases (show w1=Value.ref rs[j] from rw1);cases (show w2=Value.ref o[j] from rw2);let g1:its.toArray[j]'(by rwa[zP])=.ref rs[j]:=by rw[zC ja] at U;simpa using zT U
   let g2:kf.toArray[j]'(by rwa[zP])=.ref o[j]:=by rw[zC jb] at oI;simpa using zT oI
   let k1:=h1 j rs[j] M[j] (zC jx) (zC jM);let k2:=h2 j o[j] N[j] (zC jy) (zC jN);let d1:M.getD j []=M[j]:=by rw[zE,zC jM];rfl
   let d2:N.getD j []=N[j]:=by rw[zE,zC jN];rfl
   rw[g1,g2,d1,d2];by_cases c:rs[j]=o[j]
   . rw[c] at k1 ⊢;rw[k1] at k2;injection k2 with z;injection z with z;rw[aN _ _ z,zY rfl];show SeqAt.EqAt.same _
   . let{us,J,t1,_}:=I.tuple (AD.of (K:=X.K) k1);let{ws,C,t2,_}:=I.tuple (AD.of (K:=X.K) k2);let n1:=J.length;let n2:=C.length;rw[zA] at n1 n2;let h:=SeqAt.RcAt.tuples (A:=X.A.in1) (e:=λi=>decide (M[j].getD i none=N[j].getD i none)) t1 t2 (show X.A.units+1<cLine from hu) (λi a b=>Md J C i a b);rw[zP,zP,<-n1,<-n2,jr] at h;show SeqAt.EqAt.of_refs c h
 . rwa[zP,zP,show its.length=M.length by lia,show kf.length=N.length by lia,iu]
def hZ (o:X.A.units+1<cLine):Au (Ak X pl N' sc fp s3 H3) (compareOp .NotEq) (λx y H Q=>∃a b M N,x=.ref a/\y=.ref b/\FX X.K H a M/\FX X.K H b N/\Q (.bl (!decide (M=N))) H):=iY (X:=Ak X pl N' sc fp s3 H3) o
def bC (o:X.A.units<cLine):Au (Ak X pl N' sc fp s3 H3) (compareOp .NotEq) (PL X.K):=e8 (X:=Ak X pl N' sc fp s3 H3) o
def jz (o:X.A.units<cLine):Au (Ak X pl N' sc fp s3 H3) (compareOp .Eq) (IX X.K):=gV (X:=Ak X pl N' sc fp s3 H3) o
def jl (he:PE (Ak X pl N' sc fp s3 H3) e ta)(o:attributeBase e f (Ak X pl N' sc fp s3 H3).env (eval e (Ak X pl N' sc fp s3 H3).env)=eval e (Ak X pl N' sc fp s3 H3).env):PE (Ak X pl N' sc fp s3 H3) (.Attribute e f pos) (QC X.K ta f):=Dc he o
open Builtin Builtin.Str in
def iW (J:(y.length==0)=false)
 (I:∀l k,l.map (·.1)=Txt.split x y->Q (.ref s.heap.objs.size) { s with toks:=k,heap:=s.heap.push { cls:=.type "list",data:=.seq (strValues l).toArray } })
 (hsz:x.length<=sizeLine)(C:(Txt.split x y).length<=sizeLine):
 wpAny (model prog w) A (call (.builtin "str.split") [.str x t,.str y u]) Q E s:=by
 cases o:(decide (x.length<y.length) || decide (strKind x<strKind y))
 . cases hf:(occurrences x y 0 x.length (x.length+1)).isEmpty
   . let e:Txt.split x y=partsBetween x (occurrences x y 0 x.length (x.length+1)) y.length:=(if_neg (ne_true_of_eq_false o)).trans (if_neg (ne_true_of_eq_false hf));show call_meets F.slot_str_split (typeIs_str _ _ _) F.entry_str_split (F.args_str_split_2 _ _) (meets_str_split_sep x y t u o J hf hsz (e ▸ C)) ?_;change wants Q E _ { s with toks:=_,heap:=s.heap.push { cls:=.type "list",data:=.seq (strsFrom s.toks (partsBetween x (occurrences x y 0 x.length (x.length+1)) y.length)).toArray } };rw[strsFrom_eq];show I (numbered s.toks _) _ ((numbered_texts _ _).trans e.symm)
   . show call_meets F.slot_str_split (typeIs_str _ _ _) F.entry_str_split (F.args_str_split_2 _ _) (meets_str_split_not_found x y t u o J hf)
      (I [(x,t)] s.toks ((if_neg (ne_true_of_eq_false o)).trans (if_pos hf)).symm)
 . show call_meets F.slot_str_split (typeIs_str _ _ _) F.entry_str_split (F.args_str_split_2 _ _) (meets_str_split_cannot_occur x y t u o)
    (I [(x,t)] s.toks (if_pos o).symm)
def aB:∀l,AI ((l.map (·.1)).map V.str) (strValues l)
 | []=>.nil
 | (x,t)::l=>.cons {t,0} (aB l)
inductive aV (x:V)(vs:List V)(H:Hp)(Q:VK):Prop
 | mk:∀z y,(x=.str z)->(vs=[.str y])->((y.length==0)=false)->(z.length<=1000000)->(∀l,H l=none->Q (.ref l) (upd H l (.lst ((Txt.split z y).map V.str))))->aV x vs H Q
def Kq:V->List V->Hp->VK->Prop:=λx o H Q=>aV x o H Q
def Gi:HX X "str.split" Kq:=by
 intro pins s σ H x xs v us Q I o r h;let{z,y,2,C,U,q}:=h;let{t,0}:=o;let{u,0,J,0}:=BX r;let f2:=(fact_split z y).2;let hl:1000002<=sizeLine:=by decide
 show iW C (λl k e=>?_) () ();let hf:H s.heap.objs.size=none:=I.hok.fresh (zL _);show{.ref s.heap.objs.size,_,I.laid (t':=k) (λb u e=>zM _ e) (zL _) ?_,0,q _ hf};show⟨by rw[zA];lia,strValues l,0,?_,zU _ rfl⟩;rw[<-e];show aB l
inductive Yh (x:V)(y:V)(H:Hp)(Q:VK):Prop
 | mk:∀a b:Str,(x=.str a)->(y=.str b)->((a++b).length<=sizeLine)->(Q (.str (a++b)) H)->Yh x y H Q
def O9:R2:=λx y H Q=>Yh x y H Q
def GR:Au X (binaryOp .Add) O9:=by
 intro pins s σ H x y v u Q I U J h;let{a,b,2,hl,q}:=h;let{t,0}:=U;let{t',0}:=J;show P.add_str ?_;by_cases C:(a.length==0)=true
 . rw[if_pos C];rw[Str.append_left_empty C] at q;show{.str b,H,I,{1},q}
 rw[if_neg C];by_cases o:(b.length==0)=true
 . rw[if_pos o];rw[Str.append_right_empty o] at q;show{.str a,H,I,{1},q}
 rw[if_neg o];show{hl,.str _,H,I.tok _,{1},q}
inductive Iy (xs:List V)(H:Hp)(Q:VK):Prop
 | mk:∀z n,(xs=[.str z])->(intText? z=some n)->(z.length<=640)->(Q (.int n) H)->Iy xs H Q
def Uh:CF X (.type "int") Iy:=by intro pins s σ H xs us Q I r h;let{z,n,0,o,C,q}:=h;let{u,0,t,0}:=BX r;show PySem.W.KIN.call_text o C {.int n,H,I.tok _,{1},q}
abbrev TJ:=St->Hp->Str->(Str->Hp->Prop)->Prop
def PJ (X:Cx)(es:List Expr)(t:TJ):Prop:=∀pins s σ H acc Q,AB X pins σ H s->t σ H acc Q ->
 Joins (model X.prog X.w) X.A X.xe (evalEach es X.env) acc (λout s1=>∃H',AB X pins σ H' s1/\Q out H') s
def Xq:TJ:=λ_ H acc Q=>Q acc H
def QM (te:TE)(t:TJ):TJ:=λσ H acc Q=>te σ H λv H1=>∃y,v=.str y/\(acc++y).length<=sizeLine/\t σ H1 (acc++y) Q
def Z0:PJ X [] Xq:=λ_ _ _ H _ _ I h=>⟨H,I,h⟩
def IA (he:PE X e te)(C:PJ X es t):PJ X (e::es) (QM te t):=by intro pins s σ H acc Q I h;change wpAny (model X.prog X.w) X.A (eval e X.env) _ X.xe s;show AH (he pins s σ H _ I h) λv s1 ⟨x,H1,U,o,y,ex,J,q⟩=>?_;subst ex;let{t,0}:=o;show{y,t,0,J,C pins s1 σ H1 _ Q U q}
def kO (t:TJ):TE:=λσ H Q=>t σ H Str.empty λout H1=>out.length<=sizeLine/\Q (.str out) H1
def JE (h:PJ X (e::e2::es) t):PE X (.JoinedStr (e::e2::es) pos) (kO t):=by intro pins s σ H Q I q;show wpAny_JoinedStr ?_;let:=h pins s σ H Str.empty _ I q;show joins_mono ?_ this;intro out s1 ⟨H',I',C,U⟩;show{C,.str out,H',I'.tok _,{1},U}
where joins_mono {M:Model}{A:Around}{E:Dq}:∀{o:List (Sem Value)}{acc:Str}{Q J:Str->Shared->Prop}{s:Shared},(∀out s,Q out s->J out s)->Joins M A E o acc Q s->Joins M A E o acc J s
 | [],_,_,_,_,h,j=>h _ _ j
 | p::o,acc,Q,J,s,h,j=>AH (show wpAny M A p _ E s from j) λv s1 ⟨y,t,ey,C,j'⟩=>{y,t,ey,C,joins_mono h j'}
def Vt (te:TE):TE:=λσ H Q=>te σ H λv H1=>∃i:Int,v=.int i/\i.natAbs.log2<1920/\Q (.str (Str.ofString (toString i))) H1
def SE (he:PE X e te):PE X (.FormattedValue e (-1) none pos) (Vt te):=by intro pins s σ H Q I h;show wpAny_FormattedValue_plain (AH (he pins s σ H _ I h) λv s1 ⟨x,H1,J,o,i,ex,C,q⟩=>?_);subst ex;let{t,0}:=o;show wpAny_formatField_int C {.str _,H1,J.tok _,{1},q}
def Zw:∀{ys:List Str}{its:List Value},AI (ys.map V.str) its->StrsAre its ys
 | [],_,.nil=>.nil
 | _::_,_,.cons {_,e} r=>by subst e;show .cons _ _ (Zw r)
inductive ZG (K:AG)(x:V)(vs:List V)(H:Hp)(Q:VK):Prop
 | mk:∀z l ys,(x=.str z)->(vs=[.ref l])->(AA K H l (ys.map V.str))->(z.length<=16)->((ys.map λy=>y.length).sum+ys.length<=1048576)->(Q (.str (Txt.join z ys)) H)->ZG K x vs H Q
def Qq (K:AG):V->List V->Hp->VK->Prop:=λx o H Q=>ZG K x o H Q
def FE:HX X "str.join" (Qq X.K):=by intro pins s σ H x xs v us Q I C r h;let{z,l,ys,2,hl,hz,hs,q}:=h;let{t,0}:=C;let{u,0,U}:=BX r;cases (show u=Value.ref l from U);let{its,J,{o,n,e1,e2,e3,e4},_}:=I.list hl;show join_listW ⟨o,e1,e2,n,e4⟩ (Zw (by simpa using J)) hz hs λt' k=>{.str _,H,I.tok _,{1},q}
meta def Xo (z:Str):It:={λi _=>i<z.cps.size,λi H v H'=>H'=H/\∃c,z.cps[i]?=some c/\v=.str {#[c]},λi _=>z.cps.size<=i}
def ae {P:Program}{w:World}{K:AG}{tg:Expr}(z:Str)(t:Tok)(it:Addr):
 Hw P w K tg (Xo z) [it] it (λi h=>h.IsStrIter it "str_ascii_iterator" z t i\/h.IsStrIter it "str_iterator" z t i) where
 mem:=by simp
 obj:=λi h st b C=>by
  let e:b=it:=by simpa using C
  subst e;rcases st with ⟨o,e,c,d⟩ | ⟨o,e,c,d⟩
  . show{o,e,λv z=>by rw[d] at z;cases z}
  . show{o,e,λv z=>by rw[d] at z;cases z}
 keep:=λi h h' st k=>st.imp (λ⟨o,e,r⟩=>{o,k it (by simp) o e,r}) (λ⟨o,e,r⟩=>{o,k it (by simp) o e,r})
 item:=by
  intro X hP hw hK hc i pins s σ H E I hf st U;subst hP hw hK;let U:i<z.cps.size:=U;let{f0,f1,f2,f3,f4,f5}:=hf it (by simp);let J:z.cps[i]?=some z.cps[i]:=by simp[U]
  rcases st with st | st
  . show wpAny_pyNext_ascii_item st J λh' lr sb=>?_;let I1:AB X pins σ H { s with heap:=h',toks:=s.toks+1 }:=I.turned (λb o C e=>(sb.2 b C).trans e) f0 f1 f3 f4 f5;let{o,e,c,d}:=id lr;show{1,Nd (s:={ s with heap:=h',toks:=s.toks+1 }) e c d (by decide) {.str {#[z.cps[i]]},H,I1,{1},{0,_,J,0},.inl lr,λb C=>(hf b C).1}}
  . show wpAny_pyNext_wide_item st J λh' lr sb=>?_;let I1:AB X pins σ H { s with heap:=h',toks:=s.toks+1 }:=I.turned (λb o C e=>(sb.2 b C).trans e) f0 f1 f3 f4 f5;let{o,e,c,d}:=id lr;show{1,Nd (s:={ s with heap:=h',toks:=s.toks+1 }) e c d (by decide) {.str {#[z.cps[i]]},H,I1,{1},{0,_,J,0},.inr lr,λb C=>(hf b C).1}}
 done:=by
  intro X hP hw hK hc i pins s σ H E I hf st U;subst hP hw hK;let U:z.cps.size<=i:=U;let{f0,f1,f2,f3,f4,f5}:=hf it (by simp);let J:z.cps[i]?=none:=by simp[U]
  rcases st with st | st
  . show wpAny_pyNext_ascii_end (I.ok.hd hc) st J λh' eb=>{0,I.turned (t':=s.toks) (λb o C e=>eb b o C e) f0 f1 f3 f4 f5}
  . show wpAny_pyNext_wide_end (I.ok.hd hc) st J λh' eb=>{0,I.turned (t':=s.toks) (λb o C e=>eb b o C e) f0 f1 f3 f4 f5}
 self:=λA i s Q E st hQ=>by
  rcases st with st | st
  . show wpAny_pyIter_striter_ascii st hQ
  . show wpAny_pyIter_striter_wide st hQ
def Wn (tl:TE):TI:=λσ H R=>tl σ H λv H1=>∃z,v=.str z/\R (Xo z) H1
def Mq (hl:PE X l tl):PI X tg l (Wn tl):=by
 intro pins s σ H R I h;show AH (hl pins s σ H _ I h) λv s1 ⟨x,H1,C,U,q1⟩=>?_;let{z,e,q}:=q1;subst e;let{t,0}:=U;let fin:∀b∈[s1.heap.objs.size],Cy X pins H1 b:=λb hb=>by
  let e:b=s1.heap.objs.size:=by simpa using hb
  subst e;show C.fpOk (zL _) (C.hok.fresh (zL _))
 cases J:z.cps.all (· < 128)
 . show wpAny_pyIter_wide J {s1.heap.objs.size,[s1.heap.objs.size],3,H1,0,C.kept (t':=s1.toks) λb o e=>zM _ e,ae z t _,.inr {_,zU _ rfl,2},fin,q}
 . show wpAny_pyIter_ascii J {s1.heap.objs.size,[s1.heap.objs.size],3,H1,0,C.kept (t':=s1.toks) λb o e=>zM _ e,ae z t _,.inl {_,zU _ rfl,2},fin,q}
def iM (Pv:Nat->List V->Hp->Prop)(h0:Pv 0 [] (upd H1 D (.lst [])))(J:∀i ys H,Pv i ys H->ys.length<sizeLine)
 (U:∀i c ys H,z.cps[i]?=some c->Pv i ys H->g (.str {#[c]}) (List.replicate own none++cv.map some) H λo H2=>(o.length=own+cv.length/\o.drop own=cv.map some) /\
  ti o H2 λb H3=>if b=true then te o H3 λy H4=>H4 D=some (.lst ys)/\Pv (i+1) (ys++[y]) (upd H4 D (.lst (ys++[y]))) else Pv (i+1) ys H3)
 (hd:∀ys H,Pv z.cps.size ys H->Q (.ref D) H):
 Mw (Xo z) own cv g ti te D H1 Q:=by
 show{λi m ys H=>m=z.cps.size-i/\i<=z.cps.size/\Pv i ys H,{z.cps.size,0,zd _,h0},?_};rintro i m ys H ⟨rfl,hi,p⟩;by_cases C:i<z.cps.size
 . show .inr {C,J i ys H p,Pv (i+1),λlM H' I=>{z.cps.size-(i+1),(),0,C,I},λx H' y=>?_};let{e,c,hc,ex}:=y;subst e;subst ex;show U i c ys _ hc p
 . let e:i=z.cps.size:=()
   subst e;show .inl {zL _,hd ys H p}
def Wf:V->Option Int->Option Int->Hp->VK->Prop:=λx lo hi H Q=>∃z:Str,x=.str z/\z.length<=sizeLine/\Q (.str (Txt.slice z lo hi)) H
def bQ (h:IsPart v o):∃l:Option (Int×Tok),v=partValue l/\l.map (·.1)=o:=by
 cases h with
 | none=>show{none,2}
 | int i t=>show{some (i,t),2}
def Kn:NV X Wf:=by intro pins s σ H x v vl vu lo hi sl Q I o U C pu h;let{z,0,J,q}:=h;let{t,0}:=o;let{l,2}:=bQ C;let{u,2}:=bQ pu;show{"str",_,F.slot_str_getitem.lookup,typeIs_str _ _ _,wpAny_getItem_str_slice (l:=l) (u:=u) (st:=none) U rfl ?_};show post_val_or_str {zn (Txt.slice_le z _ _) J,λt' k=>{.str _,H,I.tok _,{1},q}}
def Qg (K:AG):R2:=λx y H Q=>∃a b xs,x=.ref a/\y=.ref b/\AA K H a xs/\AA K H b []/\Q (.bl xs.isEmpty) H
def d4 (J:X.A.units<cLine):Au X (compareOp .Eq) (Qg X.K):=by
 intro pins s σ H x y v u Q I rx U h;let{a,b,xs,2,ha,hb,q}:=h;cases rx;cases U;let{its,r,o,hz}:=I.list ha;let{kf,r2,C,hz2}:=I.list hb;let e2:kf=[]:=by cases r2;rfl
 subst e2;cases xs with
 | nil=>cases r;show SeqAt.eq_listAt (e:=λ_=>true) o.isList C.isList rfl J (λj _ h2=>absurd h2 (Eu _)) {.bl _,H,I,0,q}
 | cons x xs=>cases r;show SeqAt.eq_list_lengthsAt o.isList C.isList (by simp) J {.bl _,H,I,0,q}
section
variable {prog:Program}{w:World}{A:Around}{s0:Shared}{I l:Addr}{bs:List Bool}
def jC (hA:A.handled=none)(hI:s0.heap.objs.size<=I)(hl:s0.heap.IsList l (bs.map Value.bool).toArray)
 (hR:∀h C,Kp s0 h->R (.ok (.ret (.bool (bs.any id)))) { s0 with heap:=h,toks:=C }):
 ∀r j h C,bs.length-j=r->j<=bs.length->Kp s0 h->h.IsListIter I l j->(bs.take j).any id=false ->
  codeAny (model prog w) A (.builtin "any.loop" { pos:=[.ref I] }) R { s0 with heap:=h,toks:=C }:=by
 let k9:∀h,Kp s0 h->h.IsList l (bs.map Value.bool).toArray:=λh K=>by let{o,ho,U}:=hl;show{o,K _ _ ho,U}
 intro r
 induction r with
 | zero=>intro j h C hr hj K hit J;show codeAny_builtin PySem.F.entry_any_loop ?_;unfold Builtin.«any.loop»;show zD (M9 hA hit (k9 h K) (by rw[Dy];show E1 (by rw[zA];lia)) λh' b=>?_);show zD (ES (zI ?_));rw[zR ()] at J;let:=hR h' C (K.but hI b);rwa[J] at this
 | succ r ih=>
  intro j h C hr hj K hit J;obtain⟨x,hx⟩:∃x,bs[j]?=some x:={_,zC ()};show codeAny_builtin PySem.F.entry_any_loop ?_;unfold Builtin.«any.loop»;show zD (M6 hit (k9 h K) (x:=.bool x) (by rw[Dy,zK,hx];rfl) λh' kx b=>?_);let K':Kp s0 h':=K.but hI λc o U e=>by rwa[b.2 c U]
  show zD (Ba (GC (zD (wpAny_letGo ?_))));cases x with
  | false=>show zI {0,?_};show ih (j+1) h' C () () K' kx (by rw[ze,hx,List.any_append,J];rfl)
  | true=>show zD (ES (zI ?_));let e:bs.any id=true:=JQ.mpr {true,zQ hx,0};let:=hR h' C K';rwa[e] at this
end
inductive JA (K:AG)(xs:List V)(H:Hp)(Q:VK):Prop
 | mk:∀(p:Addr)(bs:List Bool),(xs=[.ref p])->(AA K H p (bs.map V.bl))->(Q (.bl (bs.any id)) H)->JA K xs H Q
def iP (hc:X.calm=true):CF X (.builtin "any") (JA X.K):=by
 intro pins s σ H xs us Q I r h;let{p,bs,0,hq,q}:=h;let{u,0,J}:=BX r;cases J;let{its,U,C,hz}:=I.list hq;rw[Ul U] at C;show Dv (codeAny_call_builtin PySem.F.plain_any PySem.F.entry_any (wpAny_of_eq (m':=pure Unit.unit) rfl (zI ?_)));unfold Builtin.any;show zD (wpAny_of_eq (m':=pure (Value.ref p)) rfl (zI (zD (Hy C.isList (zI {0,?_})))));show jC (s0:=s) (l:=p) (bs:=bs) (I.ok.hd hc) (zL _) C.isList ?_ bs.length 0 _ s.toks rfl (zd _) (λb o e=>zM _ e) ?_ rfl
 . show λh tk K=>{.bl _,H,I.kept K,0,q}
 . show{_,zU _ rfl,2}
def af (o:l≠it):∀n i s Q,s.heap.IsListIter it l i->s.heap.IsList l its->i+n<=its.size ->
 (∀h',h'.IsListIter it l (i+n)->Heap.SameBut it s.heap h'->Q ((its.toList.drop i).take n) { s with heap:=h' })->wpAny (model prog w) A (draw (.ref it) n) Q E s
 | 0,i,s,Q,hi,_,_,q=>zI (by simpa using q s.heap hi (Heap.SameBut.refl ..))
 | n+1,i,s,Q,hi,hl,hz,q=>by
  let C:i<its.size:=()
  show zD (M6 hi hl (x:=its[i]) (by simp[C]) λh1 J I=>?_);show zD (Ba (af o n (i+1) _ _ J (hl.extBut I.extBut o) () λU i2 b2=>zI ?_));let e:its.toList.drop i=its[i]::its.toList.drop (i+1):=by simp[Ms,C]
  let:=q U (by rwa[show i+(n+1)=i+1+n by lia]) (I.trans b2);rwa[e,List.take_succ_cons] at this
def eR (hh:A.handled=none)(C:s.heap.IsList l its)(hn:tg.length=its.size)(hs:tg.findIdx? (·.1)=none)
 (k:∀h',Heap.ExtBut s.heap.objs.size s.heap h'->wpAny (model prog w) A (assignInOrder (tg.map (·.2)) its.toList) Q E { s with heap:=h' }):wpAny (model prog w) A (unpack (.ref l) tg) Q E s:=by
 let I:l≠s.heap.objs.size:=by let{o,ho,_}:=C;show zh (zc ho)
 unfold unpack;rw[hn,hs];show zD (Ba ?_);unfold unpackItems notIterableAtAll;show zD (zD (wpAny_specialOf C.typeIs PySem.F.slot_list_iter.lookup (zI ?_)));simp only[GQ,if_false];show zD (Ba (Hy C ?_));show zD (Ba (af I its.size 0 _ _ {_,zU _ rfl,2} (C.push _) () λh1 i1 U=>?_));let e:List.take its.size (List.drop 0 its.toList)=its.toList:=by rw[List.drop_zero];show zR (by simp)
 rw[e,if_neg (by simp)];show zD (Ba (M9 hh i1 ((C.push _).extBut U.extBut I) (by simp) λh2 b2=>?_));simp only[Option.isSome_none,GQ,if_false];show zI (k h2 λb o J z=>b2 b o J (U.extBut b o J (zM _ z)))
def XF (K:AG)(n:Nat)(t:Ip):TG:=λv σ H Q=>∃a xs,v=.ref a/\AA K H a xs/\xs.length=n/\t xs σ H Q
def LY (hc:X.calm=true)(h:NR X es t)(hn:autoParam ((assignEach es X.env).length=n) d_._auto_5)(J:autoParam ((assignEach es X.env).findIdx? (·.1)=none) d_._auto_5):PG X (.Tuple es k pos) (XF X.K n t):=by intro pins s σ H v u Q I r hw;let{a,xs,e1,hq,hl,hw}:=hw;subst e1;cases r;let{its,C,ht,hz}:=I.list hq;rw[PyProof.Rows.assign_Tuple];show zD (wpAny_standAt (eR (I.ok.hd hc) ht.isList (by simp[hn,<-hl,C.length]) J λh' U=>?_));let I1:AB X pins σ H { s with heap:=h' }:=I.kept (t':=s.toks) λb o e=>U b o (zh (zc e)) e;show h pins _ σ H xs _ Q I1 (by simpa using C) hw
inductive Im (xs:List V)(H:Hp)(Q:VK):Prop
 | mk:∀i:Int,(xs=[.int i])->(i.natAbs<1000000000000000)->(Q (.str (Str.ofString (toString i))) H)->Im xs H Q
def bF:CF X (.type "str") Im:=by intro pins s σ H xs us Q I r h;let{i,0,hi,q}:=h;let{u,0,o}:=BX r;let{t,0}:=o;show str_of_int_fit (N:=1000000000000000) (by split <;> lia) (by decide) λ_=>{.str _,H,I.tok _,{1},q}
def QA (K:AG):R2:=λx y H Q=>∃(a b:Addr)(zs o:List Str),x=.ref a/\y=.ref b/\AA K H a (zs.map V.str)/\AA K H b (o.map V.str)/\Q (.bl (decide (zs=o))) H
def gi (hu:X.A.units<cLine):Au X (compareOp .Eq) (QA X.K):=by
 intro pins s σ H x y v u Q I rx ry h;let{a,b,zs,o,2,ha,hb,q}:=h;cases rx;cases ry;let{its,r,pl,hz}:=I.list ha;let{kf,r2,lR,hz2}:=I.list hb;let l1:=r.length;let l2:=r2.length;rw[zA] at l1 l2;by_cases hl:zs.length=o.length
 . show SeqAt.eq_listAt (e:=λj=>zs.getD j Str.empty==o.getD j Str.empty) pl.isList lR.isList (by rw[zP,zP];lia) hu (λj ja jb=>?_) {.bl _,H,I,0,?_}
   . rw[zP] at ja jb;let J:j<zs.length:=()
     let U:j<o.length:=()
     let{w1,C,t1,rw1}:=r.get (i:=j) (x:=.str zs[j]) (by simp[J]);let{w2,oI,t2,rw2}:=r2.get (i:=j) (x:=.str o[j]) (by simp[U]);subst rw1 rw2;let g1:its.toArray[j]'(by rwa[zP])=.str zs[j] t1:=by rw[zC ja] at C;simpa using zT C
     let g2:kf.toArray[j]'(by rwa[zP])=.str o[j] t2:=by rw[zC jb] at oI;simpa using zT oI
     rw[g1,g2];let e1:zs.getD j Str.empty=zs[j]:=by simp[List.getD,J]
     let e2:o.getD j Str.empty=o[j]:=by simp[List.getD,U]
     rw[e1,e2];show SeqAt.EqAt.str_str _ _ _ _
   . let:((List.range its.toArray.size).all λj=>zs.getD j Str.empty==o.getD j Str.empty)=decide (zs=o):=by
      rw[Bool.eq_iff_iff,Ea,decide_eq_true_eq,zP,<-l1];constructor
      . intro h;show List.ext_getElem hl λj J U=>?_;let:=eq_of_beq (h j (Et.mpr J));simpa [List.getD,J,U] using this
      . rintro rfl j _;show beq_self_eq_true _
     rwa[this]
 . show SeqAt.eq_list_lengthsAt pl.isList lR.isList (by rw[zP,zP,<-l1,<-l2];simpa using hl) hu {.bl _,H,I,0,?_};rw[za (λe=>hl (by rw[e]))] at q;show q
def jw:V->List V->Hp->VK->Prop:=λx o H Q=>∃z y:Str,x=.str z/\o=[.str y]/\Q (.bl (Txt.startswith z y)) H
def i0:HX X "str.startswith" jw:=by intro pins s σ H x xs v us Q I C r h;let{z,y,2,q}:=h;let{t,0}:=C;let{u,0,o,0}:=BX r;show call_gives PySem.F.slot_str_startswith (typeIs_str _ _ _) PySem.F.entry_str_startswith (PySem.F.args_str_startswith_2 _ _) (gives_str_startswith z y t o) {.bl _,H,I,0,q}
end L2
namespace DG
open PySem PySem.W PySem.W.KIN PySem.NumText PyProof.Rows
structure Dg (z:Str):Prop where
 all:AllDigits z.cps.toList
 ne:z.cps.toList≠[]
 lead:z.cps.toList.head?=some 48->z.cps.toList=[48]
meta def dv (z:Str):Nat:=digitsVal z.cps.toList
def Gg {b:Str}(h:a.cps.toList=b.cps.toList):a=b:=by obtain⟨⟨x⟩⟩:=a;obtain⟨⟨y⟩⟩:=b;simp only at h;rw[h]
def NF (m):Dg (Str.ofString (toString ((m:Nat):Int))):=by
 let hd:AllDigits (Str.ofString (toString ((m:Nat):Int))).cps.toList:=by intro c C;rw[signs_num] at C;let{ch,I,e}:=zy.mp C;let r:=digit_range (Nat.isDigit_of_mem_toDigits (by decide) (by decide) I);rwa[<-e]
 let J:(Str.ofString (toString ((m:Nat):Int))).cps.toList≠[]:=by rw[signs_num];intro e;let h:=toDigits_len_ge 10 m;rw[List.map_eq_nil_iff.mp e] at h;show absurd h (by decide)
 show{hd,J,?_};rw[signs_num]
 induction m using Nat.strongRecOn with
 | _ m U=>
  intro o;by_cases h:m<10
  . rw[OH h] at o ⊢;let:(Nat.digitChar m).toNat=48:=by simpa using o
    change [(Nat.digitChar m).toNat]=[48];rw[this]
  . let hm:m%10<10:=Nat.mod_lt m (by decide);let t:Nat.toDigits 10 (m/10)++Nat.toDigits 10 (m%10)=Nat.toDigits 10 (10*(m/10)+m%10):=Nat.toDigits_append_toDigits (by decide) () hm;rw[Nat.div_add_mod] at t;let hq:((Nat.toDigits 10 (m/10)).map Char.toNat).head?=some 48:=by
     rw[<-t,zO] at o;cases e:(Nat.toDigits 10 (m/10)).map Char.toNat with
     | nil=>have h:=toDigits_len_ge 10 (m/10);rw[List.map_eq_nil_iff.mp e] at h;show absurd h (by decide)
     | cons a as=>rw[e] at o;simpa using o
    let i:=U (m/10) () (by
     intro c C;rw[signs_num] at C;let{ch,I,e}:=zy.mp C;let r:=digit_range (Nat.isDigit_of_mem_toDigits (by decide) (by decide) I);rwa[<-e]) (by
     rw[signs_num];intro e;let h:=toDigits_len_ge 10 (m/10);rw[List.map_eq_nil_iff.mp e] at h;show absurd h (by decide)) hq
    let v:=val_back (m/10);rw[i] at v;let:digitsVal [48]=0:=rfl
    lia
def bD (m):dv (Str.ofString (toString ((m:Nat):Int)))=m:=by change digitsVal _=m;rw[signs_num,val_back]
def Dg.reads (h:Dg z)(o:z.length<=640):PySem.intText? z=some ((dv z:Nat):Int):=intText_digits h.all h.ne (zn o (by decide))
def ah (h:¬ n<10):(Nat.toDigits 10 n).length=(Nat.toDigits 10 (n/10)).length+1:=by let hm:n%10<10:=Nat.mod_lt n (by decide);let t:Nat.toDigits 10 (n/10)++Nat.toDigits 10 (n%10)=Nat.toDigits 10 (10*(n/10)+n%10):=Nat.toDigits_append_toDigits (by decide) () hm;rw[Nat.div_add_mod] at t;rw[<-t,zS,OH hm];rfl
def Ze:∀{m n:Nat},m<=n->(Nat.toDigits 10 m).length<=(Nat.toDigits 10 n).length:=by
 intro m n
 induction n using Nat.strongRecOn generalizing m with
 | _ n o=>
  intro h;let o:∀k,k<n->∀{m:Nat},m<=k->(Nat.toDigits 10 m).length<=(Nat.toDigits 10 k).length:=λk I m hm=>o k I hm;by_cases C:n<10
  . rw[OH C,OH (show m<10 by lia)];show zL _
  . rw[ah C];by_cases hm:m<10
    . rw[OH hm];change 1<=_
      lia
    . rw[ah hm];let:=o (n/10) () (show m/10<=n/10 by lia)
      lia
def VI (m):(Str.ofString (toString ((m:Nat):Int))).length=(Nat.toDigits 10 m).length:=by change (Str.ofString (toString ((m:Nat):Int))).cps.size=_;rw[<-Array.length_toList,signs_num,zA]
end DG
namespace DG
open PySem PySem.StrLaws Builtin Builtin.Str
def VG :∀{p o r C:List Nat},c∉p->c∉o->p++c::r=o++c::C->p=o/\r=C
 | [],[],_,_,_,_,h=>{0,by simpa using h}
 | [],a::o,_,_,_,h2,h=>by
  let e:c=a:=by simpa using (GP h).1
  show absurd (by rw[e];simp) h2
 | a::p,[],_,_,h1,_,h=>by
  let e:a=c:=by simpa using (GP h).1
  show absurd (by rw[e];simp) h1
 | a::p,b::o,r,C,h1,h2,h=>by let{e,h'}:=GP (show a::(p++c::r)=b::(o++c::C) from h);let{J,I}:=VG (λz=>h1 (by simp[z])) (λz=>h2 (by simp[z])) h';show{by rw[e,J],I}
def VX :(Str.join {#[c]} (p::q::r)).cps.toList=p.cps.toList++c::(Str.join {#[c]} (q::r)).cps.toList:=by change (p++({#[c]}:Str)++Str.join {#[c]} (q::r)).cps.toList=_;simp only[Str.cps_append,Array.toList_append];simp
def Z8 :∀{ws vs:List Str},ws≠[]->vs≠[]->(∀w∈ws,c∉w.cps.toList)->(∀w∈vs,c∉w.cps.toList)->Str.join {#[c]} ws=Str.join {#[c]} vs->ws=vs
 | [],_,h,_,_,_,_=>absurd rfl h
 | _,[],_,h,_,_,_=>absurd rfl h
 | [p],[q],_,_,_,_,e=>by rw[show p=q from e]
 | [p],q::o::r,_,_,f1,_,e=>by let e:=congrArg (λz:Str=>z.cps.toList) e;simp only[VX] at e;let e:p.cps.toList=q.cps.toList++c::(Str.join {#[c]} (o::r)).cps.toList:=e;show absurd (by rw[e];simp) (f1 p (by simp))
 | p::p2::r,[q],_,_,_,f2,e=>by let e:=congrArg (λz:Str=>z.cps.toList) e;simp only[VX] at e;let e:p.cps.toList++c::(Str.join {#[c]} (p2::r)).cps.toList=q.cps.toList:=e;show absurd (by rw[<-e];simp) (f2 q (by simp))
 | p::p2::r,q::o::r2,_,_,f1,f2,e=>by let e:=congrArg (λz:Str=>z.cps.toList) e;simp only[VX] at e;let{I,C}:=VG (f1 p (by simp)) (f2 q (by simp)) e;rw[Gg I,Z8 (by simp) (by simp) (λw hw=>f1 w (by simp[zZ.mp hw])) (λw hw=>f2 w (by simp[zZ.mp hw])) (Gg C)]
def cS (o:ws≠[])(hf:∀w∈ws,c∉w.cps.toList):Txt.split (Str.join {#[c]} ws) {#[c]}=ws:=by show Z8 (c:=c) ?_ o (λw hw=>split_free _ c w hw) hf (join_split _ _);intro e;let:=(PyProof.Rows.fact_split (Str.join {#[c]} ws) {#[c]}).1;rw[e] at this;show absurd this (by decide)
def jS (h:Dg z):32∉z.cps.toList:=λhm=>by
 let:=h.all 32 hm
 lia
def Nv {k:Int}(h:0<=k):32∉(Str.ofString (toString k)).cps.toList:=by let{m,0}:=E5 h;show jS (NF m)
meta def Bc:Str:={#[59,32]}
def Lf:Str.ofString "; "=Bc:=by decide
def Nq (x:Str):x.length=x.cps.toList.length:=by rw[Array.length_toList];rfl
def c7 (J:x.cps.toList[k]?=some 59)(I:x.cps.toList[k+1]?=some 32):At x Bc x.length k:=by let{o,U}:=zH.mp I;let{C,e1}:=zH.mp J;show{by let:=Nq x;change k+2<=x.length;lia,?_};change (x.cps.extract k (k+2)==(#[59,32]:Array Nat))=true;rw[beq_iff_eq];apply Array.toList_inj.mp;rw[Array.toList_extract];change (x.cps.toList.drop k).take (k+2-k)=[59,32];rw[show k+2-k=2 by lia,Ms C,Ms o,e1,U];rfl
def UT (I:∀k:Nat,x.cps.toList[k]?=some 59->x.cps.toList[k+1]?=some 32)(hb:b<=x.length)(J:∀k,a<=k->k<b->¬ At x Bc x.length k):59∉(strSub x a b).cps.toList:=by
 intro hm;rw[strSub_toList] at hm;let{j,o}:=List.getElem?_of_mem hm;let C:j<b-a:=by
  let U:j<((x.cps.toList.drop a).take (b-a)).length:=(zH.mp o).1;simp at U
  lia
 rw[List.getElem?_take_of_lt C,List.getElem?_drop] at o;show J (a+j) () () (c7 o (I _ o))
def ZV (C:∀k:Nat,x.cps.toList[k]?=some 59->x.cps.toList[k+1]?=some 32):∀o a f,ChainG x Bc x.length a o f->(∀k,f<=k->¬ At x Bc x.length k)->∀p∈partsFrom x Bc.length a o,59∉p.cps.toList
 | [],a,f,h,hn,p,hp=>by let e:f=a:=h;subst e;rw[zf.mp hp];show UT C (zL _) λk I _=>hn k I
 | d::r,a,f,h,hn,p,hp=>by
  rcases zZ.mp hp with rfl | hp'
  . show UT C (by let:=h.2.1.1;lia) h.2.2.1
  . show ZV C r _ f h.2.2.2 hn p hp'
def O5 (x):¬ Str.strKind x<Str.strKind Bc:=by
 let:Str.strKind Bc=1:=by decide +kernel
 rw[this];unfold Str.strKind;split
 . lia
 . split <;> lia
def jj (o:∀k:Nat,x.cps.toList[k]?=some 59->x.cps.toList[k+1]?=some 32):∀p∈Txt.split x Bc,59∉p.cps.toList:=by
 let{f,I,J}:=occ_tight x Bc (by decide);unfold Txt.split;split
 . rename_i hc
   intro p C;rw[zf.mp C];intro hm;let{j,U}:=List.getElem?_of_mem hm;let hA:=c7 U (o _ U);rw[Bool.or_eq_true,decide_eq_true_eq,decide_eq_true_eq] at hc;rcases hc with h | h
   . let:=hA.1;lia
   . show O5 x h
 . split
   . rename_i he
     intro p C;rw[zf.mp C];let e0:occurrences x Bc 0 x.length (x.length+1)=[]:=List.isEmpty_iff.mp he;rw[e0] at I;let ef:f=0:=I;subst ef;rw[<-sub_whole x];let kZ:∀k:Nat,x.cps.toList[k]?=some 59->x.cps.toList[k+1]?=some 32:=o;show UT kZ (zL _) λk h1 _=>J k h1
   . rw[partsBetween_eq];show ZV o _ 0 f I J
def Sh :(Str.join Bc (p::q::r)).cps.toList=p.cps.toList++59::32::(Str.join Bc (q::r)).cps.toList:=by change (p++Bc++Str.join Bc (q::r)).cps.toList=_;simp only[Str.cps_append,Array.toList_append];simp[Bc]
def Ii:∀{ws:List Str},(∀w∈ws,59∉w.cps.toList)->∀k:Nat,(Str.join Bc ws).cps.toList[k]?=some 59->(Str.join Bc ws).cps.toList[k+1]?=some 32
 | [],_,k,h=>by cases k <;> cases h
 | [p],f,k,h=>absurd (zQ h) (f p (by simp))
 | p::q::r,f,k,h=>by
  rw[Sh] at h ⊢;by_cases c:k<p.cps.toList.length
  . rw[zV c] at h;show absurd (zQ h) (f p (by simp))
  . obtain⟨j,rfl⟩:∃j,k=p.cps.toList.length+j:={k-p.cps.toList.length,()};rw[zW (),show p.cps.toList.length+j-p.cps.toList.length=j by lia] at h;rw[zW (),show p.cps.toList.length+j+1-p.cps.toList.length=j+1 by lia]
    match j,h with
    | 0,_=>rfl
    | 1,h=>cases h
    | j+2,h=>show Ii (λw hw=>f w (by simp[zZ.mp hw])) j h
def br:∀{ws vs:List Str},ws≠[]->vs≠[]->(∀w∈ws,59∉w.cps.toList)->(∀w∈vs,59∉w.cps.toList)->Str.join Bc ws=Str.join Bc vs->ws=vs
 | [],_,h,_,_,_,_=>absurd rfl h
 | _,[],_,h,_,_,_=>absurd rfl h
 | [p],[q],_,_,_,_,e=>by rw[show p=q from e]
 | [p],q::o::r,_,_,f1,_,e=>by let e:=congrArg (λz:Str=>z.cps.toList) e;simp only[Sh] at e;let e:p.cps.toList=q.cps.toList++59::32::(Str.join Bc (o::r)).cps.toList:=e;show absurd (by rw[e];simp) (f1 p (by simp))
 | p::p2::r,[q],_,_,_,f2,e=>by let e:=congrArg (λz:Str=>z.cps.toList) e;simp only[Sh] at e;let e:p.cps.toList++59::32::(Str.join Bc (p2::r)).cps.toList=q.cps.toList:=e;show absurd (by rw[<-e];simp) (f2 q (by simp))
 | p::p2::r,q::o::r2,_,_,f1,f2,e=>by let e:=congrArg (λz:Str=>z.cps.toList) e;simp only[Sh] at e;let{I,C}:=VG (f1 p (by simp)) (f2 q (by simp)) e;rw[Gg I,br (by simp) (by simp) (λw hw=>f1 w (by simp[zZ.mp hw])) (λw hw=>f2 w (by simp[zZ.mp hw])) (Gg (GP C).2)]
def jk (o:ws≠[])(hf:∀w∈ws,59∉w.cps.toList):Txt.split (Str.join Bc ws) Bc=ws:=by show br ?_ o (jj (Ii hf)) hf (join_split _ _);intro e;let:=(PyProof.Rows.fact_split (Str.join Bc ws) Bc).1;rw[e] at this;show absurd this (by decide)
end DG
namespace L2
open PySem PySem.Spec PyProof.Rows
def dw {prog:Program}{w:World}{A:Around}{it:Addr}{fp:List Addr}{n:Nat}{P:Nat->Value->Prop}{St:Nat->Heap->Prop}(c:Nat)(D:Draws prog w A it fp n P St):
 Draws prog w A it fp (n+c) (λj v=>∀i,j=i+c->P i v) (λj h=>∃i,j=i+c/\St i h) where
 live:=λ_ h ⟨i,_,st⟩=>D.live i h st
 frame:=λ_ h h' ⟨i,e,st⟩ k=>{i,e,D.frame i h h' st k}
 item:=λj s Q E hj ⟨i,e,st⟩ U=>D.item i s Q E () st λx h' o p I C=>U x h' o (λJ e'=>by obtain rfl:J=i:=();show p) {i+1,(),I} C
 done:=λs Q E ⟨i,e,st⟩ hE=>D.done s Q E (by obtain rfl:i=n:=();show st) hE
meta def FU (c:Nat)(K:AG)(a:Addr):It:=
 {λi H=>∃xs x,AA K H a xs/\xs[i]?=some x,λi H x H'=>∃T v,x=.ref T/\H T=none/\H'=upd H T (.tup [.int ((i+c:Nat):Int),v])/\∀xs,AA K H a xs->xs[i]?=some v,λi H=>∃xs,AA K H a xs/\xs.length<=i}
def gY {c:Nat}{P:Program}{w:World}{K:AG}{elts:List Expr} {x1} {tp:Pos}(a e it:Addr):Hw P w K (.Tuple elts x1 tp) (FU c K a) [e,it] e (λi h=>(∃old,IsEnum h e it ((i+c:Nat):Int) old)/\h.IsListIter it a i/\e≠it/\a≠it/\a≠e) where
 mem:=by simp
 obj:=λi h st b hb=>by
  let{{old,he},{o,e1,c',d},_}:=st;rcases zZ.mp hb with rfl | hb
  . show{_,he,λv z=>by cases z}
  . let e2:b=it:=by simpa using hb
    subst e2;show{o,e1,λv z=>by rw[d] at z;cases z}
 keep:=λi h h' st k=>by let{{old,he},{o,e1,r},ne}:=st;show{{old,k e (by simp) _ he},{o,k it (by simp) o e1,r},ne}
 item:=by
  intro X hP hw hK hc i pins s σ H E I hf st hg;subst hP hw hK;let{{old,he},hit,ne,C,J}:=st;let{xs,x,hq,hx}:=hg;let{its,rv,p,hz}:=I.list hq;let{u,hu,ru}:=rv.get hx;let elt:e<s.heap.objs.size:=zc he;let ilt:it<s.heap.objs.size:=by let{_,q,_}:=id hit;show zc q
  let kS:i<its.toArray.size:=by let:=(zH.mp hu).1;simpa using this
  show wpAny_pyNext_enum_itemD (dw c (Draws.list (A:=X.A.in1) (I.ok.hd hc) it a C its.toArray)) he {i,0,hit,p.isList} () ne (by simp;show{ne,λz=>J z.symm}) λy h' tk hy oO U hT hsz hk=>?_;let hyu:y=u:=by
   let h1:its[i]?=some y:=by simpa using hy i rfl
   rw[hu] at h1;show (zT h1).symm
  subst hyu;show{1,wpAny_letOwnedTupleGo_enum oO λh2 m9 l6=>?_};let hT2:h2.get? s.heap.objs.size=some { cls:=.type "tuple",data:=.seq #[.int ((i+c:Nat):Int) tk,y] }:=(l6.2 _ (Nat.ne_of_gt elt)).trans hT;show{.ref s.heap.objs.size,upd H s.heap.objs.size (.tup [.int ((i+c:Nat):Int),x]),I.turnedLaid (t':=tk+1) (fp:=[e,it]) hf (λb o hb q=>?_) (zL _) ?_,0,{_,x,0,I.hok.fresh (zL _),0,λzs hzs=>by rwa[I.list_inj hzs hq]},{{y,?_},?_,ne,C,J},λb hb=>?_}
  . show (l6.2 b λz=>hb (by simp[z])).trans (hk b o (λz=>hb (by simp[z])) (λz=>hb (by simp[z])) q)
  . show{{B7,_,hT2,0},[.int ((i+c:Nat):Int) tk,y],.cons {1} (.cons ru .nil),{_,hT2,6}}
  . let:=m9;rwa [show ((i+c:Nat):Int)+1=((i+1+c:Nat):Int) by lia] at this
  . let{i',e',{o,ho,r},_}:=U;obtain rfl:i'=i+1:=()
    show{o,(l6.2 it (Ne.symm ne)).trans ho,r}
  . rcases zZ.mp hb with rfl | hb
    . rw[zg (zh elt)];show (hf _ (by simp)).1
    . let e2:b=it:=by simpa using hb
      subst e2;rw[zg (zh ilt)];show (hf _ (by simp)).1
 done:=by intro X hP hw hK hc i pins s σ H E I hf st hg;subst hP hw hK;let{{old,he},hit,ne,C,J}:=st;let{xs,hq,hx}:=hg;let{its,rv,p,hz}:=I.list hq;let{f0,f1,f2,f3,f4,f5}:=hf it (by simp);let hl:=rv.length;unfold pyNext;let hT:s.TypeIs (.ref e) "enumerate" := {_,he,0};show zD (wpAny_attempt (Hq (name:=Str.ofString "__next__") hT PySem.F.slot_enumerate_next (Ez PySem.F.slot_enumerate_next hT PySem.F.entry_enumerate_next ?_ (PySem.F.args_enumerate_next_1 _))));change wpAny (model X.prog X.w) _ (field (.ref e) 2 >>= _) _ _ s;show zD (wpAny_field he rfl (x:=.ref it) rfl ?_);show zD (wpAny_nextOf_list_end (A:=X.A.in1) (I.ok.hd hc) hit p.isList (by simp;lia) λh' z eb hz'=>?_);let{o,ho,mY}:=hz';show zD (Gv (T := "StopIteration") (b:=true) ⟨o,ho,mY⟩ isSubtype_stop (zI ?_));show{0,I.turned (t':=s.toks) (λb o hb e=>eb b o hb e) f0 f1 f3 f4 f5}
 self:=λ_ _ _ _ _ st h=>by let{{old,he},_}:=st;show wpAny_pyIter_enum he h
end L2
namespace L2
open PySem PySem.Spec PyProof.Rows
open AutoSeq1 (wpAny_loadPart')
def iJ (l)(items)(n)(dct)(sl)(t:Tok):
 Meets (Builtin.«enumerate.__new__» {[.type "enumerate",.ref l],[(Str.ofString "start",.int 1 t)]}) (λ_ R s=>s.heap.get? l=some { cls:=.type "list",dict:=dct,data:=.seq items n,slots:=sl } /\
  R (.ok (.ret (.ref (s.heap.push { cls:=.type "list_iterator",data:=.fields #[.ref l,.int 0 0] }).objs.size)))
   { s with heap:=(s.heap.push { cls:=.type "list_iterator",data:=.fields #[.ref l,.int 0 0] }).push { cls:=.type "enumerate",data:=.fields #[.none,.bool false,.ref s.heap.objs.size,rawInt 1,.none,.none] } }):=
 .of_wp λprog w A R s h=>by
  let{U,g,d,J,os}:=s;let{o,h}:=h;let C:=sub_enumerate;let I:Heap.IsList (Shared.heap ⟨U,g,d,J,os⟩) l items:={_,o,0,n,0}
  wp_walk using wpAny_loadPart' o
  show wpAny_stack_any λst=>zI ?_;split
  . rename_i c _ _ _ _ _
    cases (c==Value.type "enumerate") <;> (wp_walk using wpAny_loadPart' o,Hy I;show{1,h})
  . wp_walk using wpAny_loadPart' o,Hy I
    show{1,h}
def eO (a v):checkTypeCall "enumerate" {[a],[(Str.ofString "start",v)]}=pure Unit.unit:=by kernel_rfl
def dy (a v):checkBuiltinCall "enumerate.__new__" {[.type "enumerate",a],[(Str.ofString "start",v)]}=pure Unit.unit:=by kernel_rfl
def fj (o a v):argsOk "object.__init__" {[o,a],[(Str.ofString "start",v)]}:=by unfold argsOk;kernel_rfl
def gW (o a v):Meets (Builtin.«object.__init__» {[o,a],[(Str.ofString "start",v)]}) (λ_ R s=>s.TypeIs o "enumerate"/\R (.ok (.ret .none)) s):=by
 show Meets.of_wp λprog w A R s C=>?_;let{U,I}:=C;let J:=F.called_enumerate.init.lookup;let hm:=F.called_enumerate.made
 repeat (any_goals (first | assumption | wp_step))
 show{1,I}
def iB (hL:s.heap.IsList l items)
 (h:∀h',IsEnum h' (s.heap.objs.size+1) s.heap.objs.size 1 .none->h'.IsListIter s.heap.objs.size l 0->(∀b o,s.heap.get? b=some o->h'.get? b=some o)->Q (.ref (s.heap.objs.size+1)) { s with heap:=h' }):
 wpAny (model prog w) A (call (.type "enumerate") [.ref l] [(Str.ofString "start",.int 1 t)]) Q E s:=by
 let{{c,dct,dt,sl},ho,hc,n,hd}:=hL;obtain rfl:c=.type "list" := hc;obtain rfl:dt=.seq items n:=hd;let J:=F.called_enumerate;let{c,tl,hmro}:=J.mro;let hmade:=J.made;let hsub:=J.sub;let hct:=eO (.ref l) (.int 1 t);show Dv (codeAny_of_tree ?_);change wpAny _ _ (callAny (.type "enumerate") _) _ _ _;show zI {Code.quiet_builtin _ (by decide +kernel),codeAny_builtin F.entry_type_call ?_};rw[Around.under_plain (weight_type_call_type "enumerate" _ _) (units_type_call_type "enumerate" _ _)];let h1:=J.notType;let h2:=J.canCreate
 repeat (any_goals (first | assumption | wp_step))
 let hz:(s.heap.push { cls:=.type "list_iterator",data:=.fields #[.ref l,.int 0 0] }).objs.size=s.heap.objs.size+1:=DE ..;let he:IsEnum ((s.heap.push { cls:=.type "list_iterator",data:=.fields #[.ref l,.int 0 0] }).push { cls:=.type "enumerate",data:=.fields #[.none,.bool false,.ref s.heap.objs.size,rawInt 1,.none,.none] }) (s.heap.objs.size+1) s.heap.objs.size 1 .none:=by let g:=zU (s.heap.push { cls:=.type "list_iterator",data:=.fields #[.ref l,.int 0 0] }) (o:={ cls:=.type "enumerate",data:=.fields #[.none,.bool false,.ref s.heap.objs.size,rawInt 1,.none,.none] }) rfl;rwa [hz] at g
 let first:wants (λobj C=>C.TypeIs obj "enumerate"/\Q obj C) E (.ok (.ret (.ref (s.heap.push { cls:=.type "list_iterator",data:=.fields #[.ref l,.int 0 0] }).objs.size)))
  { s with heap:=(s.heap.push { cls:=.type "list_iterator",data:=.fields #[.ref l,.int 0 0] }).push { cls:=.type "enumerate",data:=.fields #[.none,.bool false,.ref s.heap.objs.size,rawInt 1,.none,.none] } }:=by
  change _/\_;rw[hz];show{{_,he,0},h _ he {_,zM _ (zU _ rfl),2} λb o x=>zM _ (zM _ x)}
 show codeAny_mono (codeAny_call_builtin J.plain F.entry_enumerate_new (PySem.wpAny_of_eq (dy _ _) (iJ l items n dct sl t prog w A.in1 _ s ⟨ho,first⟩))) λr C hr=>?_;cases r with
 | error e=>show hr
 | ok fl=>
  cases fl with
  | ret obj=>
   let hli:=J.init.lookup;let hbi:=J.init.bind obj;let hT:C.TypeIs obj "enumerate" := hr.1
   repeat (any_goals (first | assumption | wp_step))
   show codeAny_mono (codeAny_call_builtin J.init.plain F.entry_object_init (J.init.check _ _ _ _ _ _ _ _ hT (fj _ _ _) (gW obj _ _ prog w A.in1 (wants (λr U=>r=.none/\Q obj U) E) C {hT,0,hr.2}))) λr₂ U I=>?_;cases r₂ with
   | error e=>show I
   | ok fl₂=>
    cases fl₂ with
    | ret r=>
     let{0,hq}:=I
     repeat (any_goals (first | assumption | wp_step))
    | _=>show I.elim
  | _=>show hr.elim
def gj 
 (U:args.any (·.1)=false)(hk:keywords.any (·.1.isNone)=false)
 (h:wpAny M A (evalArgs (.type T) true args keywords) (λa o=>wpAny M A (call (.type T) ([]++a.pos) a.kw) Q E o) E s):wpAny M A (callWith pos (.type T) [] args keywords) Q E s:=by
 unfold callWith;show zD (Ba (AH h λa o C=>zD (wpAny_standAt ?_)));simp only[U,hk,Bool.or_false];show zD (zI ?_);show zD (AH C λr I J=>zD (Ba (wpAny_point (zI J))))
def MX (c:Nat)(K:AG)(ta:TA):TI:=λσ H R=>ta σ H λo H1=>∃a,o=[.ref a]/\(∃xs,AA K H1 a xs)/\R (FU c K a) H1
def Yn {x1}  {ck} (hg:Gl X "enumerate") (hm:X.mg "enumerate"=none) (ha:PA X [a] ta)
 (U:autoParam (backTo pos (starEach [a] X.env)=(false,eval a X.env)::backTo pos (starEach [] X.env)) d_._auto_5)(l6:autoParam ((backTo pos (starEach [a] X.env)).any (·.1)=false) d_._auto_5):
 PI X (.Tuple elts x1 tp) (.Call (.Name "enumerate" p) [a] [{some "start",.Constant (.int 1) ck cp,kp}] pos) (MX 1 X.K ta):=by
 intro pins s σ H R I h;show Ga (Dd I hg hm boot_enumerate ?_);show gj l6 rfl ?_;rw[U];show evalArgs_kwB rfl ?_;rw[<-U];show AH (ha pos pins s σ H _ I h) λus s1 ⟨vs,H1,I1,r1,q1⟩=>?_;let{l,e,{xs,hq},q}:=q1;subst e;let{u,0,rx}:=BX r1;cases rx;show kws_cons (wpAny_Constant_int (kws_nil ?_));let o:AB X pins σ H1 { s1 with toks:=s1.toks+1 }:=I1.tok _;let{its,rv,J,hz}:=o.list hq;show iB J.isList λh' he hit hk=>?_;show wpAny_pyIter_enum he ?_;let C:=J;let{ol,nl,el,_}:=C;let ll:l<s1.heap.objs.size:=zc el;show{s1.heap.objs.size+1,[s1.heap.objs.size+1,s1.heap.objs.size],3,H1,0,o.kept (t':=s1.toks+1) hk,gY (c:=1) l _ _,{{_,he},hit,Nat.succ_ne_self _,zh ll,zh (E2 ll)},λb hb=>?_,q};rcases zZ.mp hb with rfl | hb
 . show o.fpOk (BZ _) (o.hok.fresh (BZ _))
 . let e2:b=s1.heap.objs.size:=by simpa using hb
   subst e2;show o.fpOk (zL _) (o.hok.fresh (zL _))
def cI {K:AG}{g:TG}{tb:TS}{D:EE}(Pv:Nat->St->Hp->Prop)(h0:Pv 0 σ H)(hl:∀i σ H,i<=xs.length->Pv i σ H->AA K H a xs)
 (hs:∀i x σ H T,xs[i]?=some x->Pv i σ H->H T=none->g (.ref T) σ (upd H T (.tup [.int ((i+c:Nat):Int),x])) λo J=>tb { D with nx:=Pv (i+1),ct:=Pv (i+1),bk:=D.nx } o J)(hd:∀ σ H,Pv xs.length σ H->D.nx σ H):
 ∃W:Nat->Nat->St->Hp->Prop,(∃m,W 0 m σ H)/\∀i m σ H,W i m σ H ->
  ((FU c K a).stop i H/\D.nx σ H)\/((FU c K a).go i H/\∃N:St->Hp->Prop,(∀ C H',N C H'->∃m',m'<m/\W (i+1) m' C H')/\∀x H',(FU c K a).yld i H x H'->g x σ H' λo J=>tb { D with nx:=N,ct:=N,bk:=D.nx } o J):=by
 show{λi m σ H=>i<=xs.length/\m=xs.length-i/\Pv i σ H,{_,zd _,0,h0},λi m σ H h=>?_};let{hi,0,I}:=h;let q:=hl i σ H hi I;by_cases U:i<xs.length
 . show .inr {{xs,xs[i],q,zC U},Pv (i+1),λC H' p'=>{xs.length-(i+1),(),U,0,p'},λx H' y=>?_};let{T,v,0,hT,0,hv}:=y;show hs i v σ H T (hv xs q) I hT
 . let e:i=xs.length:=()
   subst e;show .inl {{xs,q,zL _},hd σ H I}
def Kt (ha:PE X a ta)(hb:PE X (.BoolOp .Or (b::rest) pos) tb):PE X (.BoolOp .Or (a::b::rest) pos) (λσ H Q=>ta σ H λx H1=>∃k,Ld X.K x H1 k/\if k=true then Q x H1 else tb σ H1 Q):=by
 intro pins s σ H Q I h;show BoolOp_or (AH (ha pins s σ H _ I h) λv s1 ⟨x,H1,I1,C,q1⟩=>?_);show AH (cJ pins s1 σ H1 x v (λk o=>if k=true then Q x o else tb σ o Q) I1 C q1) λk s2 ⟨o,U,J⟩=>?_
 cases k with
 | true=>show⟨x,o,U,C,J⟩
 | false=>show hb pins s2 σ o Q U J
end L2
namespace L2
open PySem PySem.Spec PyProof.Rows
open PySem.AutoSeq1 (wpAny_loadPart')
def OI (P:Program)(w:World)(K:AG)(ca:Addr)(I:List (AS×V)):Prop:=
 (ca==sysModules)=false/\∃o es J C,K.lookup ca=some o/\o.ExactDict/\o.data=.dict es J/\KeysOf (BC P w) es/\Pairs (BC P w) es.toList C/\(C.map (·.1)).Nodup/\KV I C
def OI.at (D:OI X.prog X.w X.K ca kR)(I:AB X pins σ H s):∃vs,KV kR vs/\s.heap.DictOf (BC X.prog X.w) ca vs:=by let{_,o,es,ep,vs,h1,h2,h3,h4,U,J,C}:=D;show{vs,C,o,es,ep,I.kIn ca o h1,h2,h3,h4,U,J}
def eJ (hg:Gl X n)(hm:X.mg n=some (.ref ca))(D:OI X.prog X.w X.K ca kR)(he:PE X e ty)(m:M1 X (.Name n p) "get" apos e kX) (mX:autoParam ((n==("__debug__" : Str))=false) d_._auto_2):
 PE X (.Call (.Attribute (.Name n p) "get" apos) [e] [] kX) (λσ H Q=>ty σ H λy H1=>∃k,y=kV k/\Q ((Ar kR k).getD .non) H1):=by
 intro pins s σ H Q I h;show wpAny_Call_method m.base m.few m.line PySem.F.plainAttrs_dict PySem.F.slot_dict_get PySem.F.type_dict_get (AH ((EV (v:=.ref ca) hg hm rfl (hd:=mX)) pins s σ H (λx H1=>x=.ref ca/\H1=H) I {2}) λu s1 ⟨x,H1,I1,rx,ex,eH⟩=>?_);subst ex eH;obtain rfl:u=Value.ref ca:=rx;let{vs,_,J}:=D.at I1;show{J.typeIs,λb q=>?_,?_}
 . cases q;let{ob,3,h1,h2,_}:=J;show⟨ob,h1,h2.2.1⟩
 rw[m.trees];show Calls.callWith_builtin rfl (Calls.evalArgs_plain (Calls.spliced_cons (AH (he pins s1 σ H1 _ I1 h) λiv s2 ⟨y,H2,U,ry,k,ey,q2⟩=>Calls.spliced_nil ?_)));subst ey;let{o,rel,C}:=D.at U;let rn:AR .non Value.none:=rfl;let rr:AR ((Ar kR k).getD .non) ((valueAt o k).getD .none):=(rel.val k).getD rn;show call_meetsIn PySem.F.slot_dict_get C.typeIs PySem.F.entry_dict_get (PySem.F.args_dict_get_2 _ _) (meets_dict_get (BC X.prog X.w) ca (Fo ry) D.1) {_,C.mapOf,{_,H2,U.tok _,rr,q2}}
end L2
namespace L2
open PySem PySem.Spec PyProof.Rows
open AutoSeq1 (wpAny_loadPart')
set_option maxRecDepth 100000
def dP {n:Nat}(hh:A.handled=none)(hr:IsRange s.heap r a b c t u v)(lu:Builtin.Range.small a b c=true)(hn:Builtin.Range.rangeSize a b c=n)(hlen:n<=2 ^ 24)
 (hQ:∀h' C acc,s.heap.objs.size<=h'.objs.size->(∀b o,s.heap.get? b=some o->h'.get? b=some o)->ItemsOf (λi v=>∃t,v=.int (a+i*c) t) acc n->Q acc.toList { s with heap:=h',toks:=C }):wpAny (model prog w) A (collect (.ref r)) Q E s:=by
 unfold collect;show zD (wpAny_runValue (codeAny_builtin F.entry_proto_collect ?_));rw[Around.under_plainId F.plain_proto_collect _];change wpAny _ A.in1 (newList [] >>= λl=>again (.builtin "list.__iadd__" {[l,.ref r],[]})) _ _ s;show zD (D7 ?_);show zI {plainId_quiet F.plain_list_iadd _,codeAny_builtin F.entry_list_iadd ?_};rw[Around.under_plainId F.plain_list_iadd _];change wpAny _ A.in1 (Builtin.List.listExtendWith (.ref s.heap.objs.size) (.ref r) (.ref s.heap.objs.size)) _ _ _;let hS:(s.heap.push { cls:=.type "list",data:=.seq ([]:List Value).toArray }).get? s.heap.objs.size=some { cls:=.type "list",data:=.seq #[] 0 }:=zU _ rfl;let U:∀(h':Heap)(C:Nat)(I:Array Value)(J:Nat),(∀b o,b≠s.heap.objs.size->(s.heap.push { cls:=.type "list",data:=.seq ([]:List Value).toArray }).get? b=some o->h'.get? b=some o)->h'.get? s.heap.objs.size=some { cls:=.type "list",dict:=none,data:=.seq I J,slots:=#[] }->ItemsOf (λi v=>∃t,v=.int (a+i*c) t) I n ->
  wpAny (model prog w) A (match Value.ref s.heap.objs.size with
  | Value.ref a=>do
   match (<-load a).data with
    | Data.seq xs _=>pure xs.toList
    | _=>unsupported "internal:collect"
  | _=>unsupported "internal:collect") Q E { s with heap:=h',toks:=C }:=λh' C I J hk oG lV=>by
  change wpAny _ A (load s.heap.objs.size >>= _) _ _ _;show zD (wpAny_load oG (zI ?_));show hQ h' C I (FH (zc oG)) (λb o e=>hk b o (zh (zc e)) (zM _ e)) lV
 show Cr (wpAny_extend_range (A:=A) (R:=λr s'=>r=.ok (.ret (.ref s.heap.objs.size))/\∃(h':Heap)(C:Nat)(I:Array Value)(J:Nat),s'={ s with heap:=h',toks:=C }/\(∀b o,b≠s.heap.objs.size->(s.heap.push { cls:=.type "list",data:=.seq ([]:List Value).toArray }).get? b=some o->h'.get? b=some o)/\h'.get? s.heap.objs.size=some { cls:=.type "list",dict:=none,data:=.seq I J,slots:=#[] }/\ItemsOf (λi v=>∃t,v=.int (a+i*c) t) I n)
  (s:={ s with heap:=s.heap.push { cls:=.type "list",data:=.seq ([]:List Value).toArray } }) hh (zM _ hr) lu hn hlen s.heap.objs.size (.ref s.heap.objs.size) 0 hS λh' C I J hk oG lV=>{0,h',C,I,J,0,hk,oG,lV}) (λfin s' h=>?_) (λe s' h=>?_)
 . cases fin with
   | done f=>let{e,h',C,I,J,0,h1,h2,h3}:=h;cases e;show U h' C I J h1 h2 h3
   | again J=>show{h.1,codeAny_mono h.2 λr s'' hr=>by let{0,h',C,I,J,0,h1,h2,h3}:=hr;show U h' C I J h1 h2 h3}
 . show absurd h.1 (by simp)
def fi {n:Nat}(hh:A.handled=none)(hr:IsRange s.heap r a b c t u v)(lu:Builtin.Range.small a b c=true)(hn:Builtin.Range.rangeSize a b c=n)(hlen:n<=2 ^ 24)
 (h:∀(h':Heap)(C:Nat)(acc:Array Value),s.heap.objs.size<=h'.objs.size->(∀b o,s.heap.get? b=some o->h'.get? b=some o)->ItemsOf (λi v=>∃t,v=.int (a+i*c) t) acc n->Q₁ (.ref h'.objs.size) { s with heap:=h'.push { cls:=.type "tuple",data:=.seq acc },toks:=C }):
 codeAny (model prog w) A (.call (.builtin "tuple.__new__") {[.type "tuple",.ref r],[]}) (wants Q₁ E) s:=by
 show codeAny_of_tree ?_;change wpAny _ A.in1 (do checkBuiltinCall "tuple.__new__" {[.type "tuple",.ref r],[]};again (.builtin "tuple.__new__" {[.type "tuple",.ref r],[]})) _ _ s
 show zD (PySem.wpAny_of_eq (F.newCall_tuple_1 _) (zI {plainId_quiet F.plain_tuple_new _,codeAny_builtin F.entry_tuple_new ?_}));rw[Around.under_plainId F.plain_tuple_new _];let hsub:=sub_tuple_self;let I:=init_tuple_lookup;let hmh:=madeHere_tuple;let J:s.TypeIs (.ref r) "range" := {_,hr,0}
 wp_walk using Ec J,dP (A:=A.in1) hh hr lu hn hlen
 intro h' C acc hz hk U;change wpAny _ _ (Builtin.Tuple.tupleExact acc.toList.toArray >>= λv=>ret v) _ _ _;unfold Builtin.Tuple.tupleExact;show zD (D7 ?_ (by change acc.toList.toArray.size<=sizeLine;simp only[Array.toArray_toList];rw[U.1,sizeLine_eq];lia));show zI ?_;let e:acc.toList.toArray=acc:=by simp
 rw[e];show h h' C acc hz hk U
def kA {n:Nat}(hh:A.handled=none)(hr:IsRange s.heap r a b c t u v)(U:Builtin.Range.small a b c=true)(hn:Builtin.Range.rangeSize a b c=n)(hlen:n<=2 ^ 24)
 (hQ:∀(h':Heap)(J:Nat)(acc:Array Value),s.heap.objs.size<=h'.objs.size->(∀b o,s.heap.get? b=some o->h'.get? b=some o)->ItemsOf (λi v=>∃t,v=.int (a+i*c) t) acc n->Q (.ref h'.objs.size) { s with heap:=h'.push { cls:=.type "tuple",data:=.seq acc },toks:=J }):
 wpAny (model prog w) A (call (.type "tuple") [.ref r]) Q E s:=by
 show callType_codes (Q₁:=λobj C=>C.TypeIs obj "tuple"/\Q obj C) F.called_tuple (F.typeCall_tuple_1 _) F.entry_object_init
  (fi hh hr U hn hlen λh' J acc hz hk lV=>{{_,zU _ rfl,0},hQ h' J acc hz hk lV}) λobj C I=>?_
 show{I.1,F.args_object_init_2 obj _,object_init_meets F.called_tuple.init.lookup F.called_tuple.made (by decide) prog w A.in1 _ C {I.1,0,I.2}}
def ik (ta:TA):TE:=λσ H Q=>ta σ H λo H1=>∃j:Int,o=[.int j]/\0<=j/\j<=1000/\∀l,H1 l=none->Q (.ref l) (upd H1 l (.tup ((WM.lowTo j.toNat).map V.int)))
def cP (hc:X.calm=true)(hgL:Gl X "tuple") (hmL:X.mg "tuple"=none) (hgR:Gl X "range") (hmR:X.mg "range"=none) (ha:PA X [a] ta)(hs:autoParam (starEach [a] X.env=[(false,eval a X.env)]) d_._auto_5)
 (he:autoParam (starEach [.Call (.Name "range" p2) [a] [] pos2] X.env=[(false,eval (.Call (.Name "range" p2) [a] [] pos2) X.env)]) d_._auto_5):PE X (.Call (.Name "tuple" p1) [.Call (.Name "range" p2) [a] [] pos2] [] pos1) (ik ta):=by
 intro pins s σ H Q I h;show Ga (Dd I hgL hmL (by decide +kernel:bootBuiltins "tuple"=some (.type "tuple")) ?_ (by decide) (by decide));show PyProof.Rows.callWith_type1 ?_ he rfl;rw[he];show Calls.spliced_cons ?_;show Call_ (Dd I hgR hmR boot_range (PyProof.Rows.callWith_type1 (AH (ha pos2 pins s σ H _ I h) λus s1 ⟨vs,H1,I1,r1,q1⟩=>?_) hs rfl));let{j,e,h0,h1,q}:=q1;subst e;cases r1 with
 | cons r rr=>
  cases rr;let{t,0}:=r;show call_range_1 ?_;show Calls.spliced_nil ?_;let hz:Builtin.Range.rangeSize 0 j 1=(j.toNat:Int):=by rw[rangeSize_one];split <;> lia
  show kA (I.ok.hd hc) (IsRange.new ..) (small_one () () () ()) hz () λh' tk acc U kp hI=>?_;let J:∀b o,s1.heap.get? b=some o->(h'.push { cls:=.type "tuple",data:=.seq acc }).get? b=some o:=λb o e=>zM _ (kp b o (zM _ e));let rv:AI ((WM.lowTo j.toNat).map V.int) acc.toList:=YX acc.toList _ (by rw[Array.length_toList];show hI.1) λi v hi=>hI.2 i v (by rw[<-hi,Array.getElem?_toList]);let C:s1.heap.objs.size<=h'.objs.size:=zn (by rw[DE];show BZ _) U;show{.ref _,_,I1.laid (t':=tk) J C (show BD X.prog X.w _ (h'.push { cls:=.type "tuple",data:=.seq acc }) _ (.tup ((WM.lowTo j.toNat).map V.int)) from {{?_,_,zU _ rfl,0},acc.toList,rv,_,zU _ rfl,0,_,by rw[Array.toArray_toList]}),0,q _ (I1.hok.fresh C)};rw[zA,WM.lowTo,zA,Gq];let:sizeLine=16777216:=rfl
  lia
end L2
namespace L2
open PySem PySem.Spec PyProof.Rows
structure cx (K:AG)(mg:Aj)(x:Str)(st:Stmt)(f:Addr)(fd:FuncData)(ps:List Str):Prop where
 F:EH K x x st f fd
 b:Cz K fd ps []
 m:mg x=some (.ref f)
def EH.okD {K:AG}{st:Stmt}(F:EH K x qual st f fd)(S:zl N ps (defScope st))
 (C:∀o A outer s H vs Q E,A2 k (A.deeper (PyProof.Rows.envOfC qual (defScope st) s.heap.objs.size f o))->sp vs H Q E ->
  ∃t,CN (E3 Cm P w K mg base N qual (defScope st) f o A outer s H E).nox (defBody st) t/\t { nx:=λ_ H'=>Q .non H',rt:=Q } (start N vs) H)(len:autoParam (∀vs H Q E,sp vs H Q E->vs.length=ps.length) d_._auto_8):Bh P w K mg base Cm (k+1) f fd ps sp:=F.ok S len C
abbrev FOk (P:Program)(w:World)(base:Heap){K:AG}{mg:Aj}{x:Str}{st:Stmt}{f:Addr}{fd:FuncData}{ps:List Str}(k:Nat)(_:cx K mg x st f fd ps)(sp:Sp):Prop:=Bh P w K mg base Cm k f fd ps sp
abbrev Fu (K:AG)(x:Str)(st:Stmt)(f:Addr)(fd:FuncData):Prop:=EH K x x st f fd
def Ay {i:Nat}(C:X.N.Nodup)(hi:autoParam (X.N[i]?=some x) d_._auto_5)(o:autoParam (G6 X.env.scope x) d_._auto_9)(hf:autoParam (X.fn x=true\/X.env.scope.names.lookup x=some .local) d_._auto_1):PG X (.Name x pos) (Jp i):=CY C hi o hf
def Bn (hi:PI X tg iter wi)(I:PG X tg g)(U:CN X body tb)(C:autoParam (PassesOwn (model X.prog X.w) X.A X.env X.xe) d_._auto_10)(J:autoParam (X.calm=true) d_._auto_5)(o:autoParam (∀x,foldedSetIterable iter X.env x=pure x) d_._auto_4):PS X (.For tg iter body [] pos) (RB wi g tb):=J5 C J hi I U o
def AX (I:X.N.Nodup)(he:PE X e te)(hi:autoParam (X.N[i]?=some x) d_._auto_5)(o:autoParam (G6 X.env.scope x) d_._auto_9)(C:autoParam (swapsWith e (some (.Name x pos')) pos.line X.env=pure false) d_._auto_5)(hf:autoParam (X.fn x=true\/X.env.scope.names.lookup x=some .local) d_._auto_1):PS X (.Assign [.Name x pos'] e pos) (FT te (Jp i)):=C8 I hi o he C hf
def zm (C:MD X r)(J:PE X a ta)(I:PE X b tb)(o:autoParam (ZO b) d_._auto_11):PE X (.Subscript a b pos) (Pj r ta tb):=OV C J I o
def Ah (C:autoParam (X.N.Nodup) d_._auto_12)(hi:autoParam (X.N[0]?=some x) d_._auto_5)(o:autoParam (G6 X.env.scope x) d_._auto_9)(hf:autoParam (X.fn x=true\/X.env.scope.names.lookup x=some .local) d_._auto_1):PG X (.Name x pos) (Jp 0):=CY C hi o hf
end L2
namespace K73
open PySem L2 WM
variable {P:Program}{w:World}{K:AG}{mg:Aj}{base:Heap}{PT:Addr}{X:Cx}
structure Fn where
 x:Str
 s:Stmt
 p:List Str
meta abbrev Rr:Fn:={"_law_feed",top 96,NX}
meta abbrev OQ:Fn:={"_law_take",top 97,["_law_feed_here","_law_many"]}
meta abbrev JZ:Fn:={"_law_web",top 98,["_law_feed_here","_law_most"]}
meta abbrev Rk:Fn:={"_law_order",top 100,["_law_feed_here","_law_many"]}
meta abbrev Sa:Fn:={"_law_rows",top 99,["_law_web_here"]}
meta abbrev HJ:Fn:={"is_number",top 9,["thing"]}
meta abbrev TM:Fn:={"is_within",top 10,["thing","least","most"]}
meta abbrev HQ:Fn:={"is_tuple_of",top 11,["thing","count"]}
meta abbrev Tv:Fn:={"is_place",top 13,K0}
meta abbrev Gz:Fn:={"is_long",top 32,["thing"]}
meta abbrev Rb:Fn:={"ties_at",top 33,["web","place"]}
meta abbrev RZ:Fn:={"long_of",top 34,TX}
meta abbrev OJ:Fn:={"nearest",top 48,["waiting"]}
meta abbrev SY:Fn:={"lengths_from",top 47,["web","start"]}
meta abbrev So:Fn:={"lengths",top 46,["web"]}
meta abbrev Hg:Fn:={"between_rows",top 49,["here","there","other"]}
meta abbrev Hc:Fn:={"next_by_row",top 50,["web","one","there"]}
meta abbrev HB:Fn:={"is_order",top 52,["web","thing"]}
meta abbrev Hf:Fn:={"by_order",top 53,["web","order"]}
meta abbrev HH:Fn:={"label_by_ranks",top 54,["web","rows","ranks","place"]}
meta abbrev HL:Fn:={"is_hub",top 55,["rows","ranks","hub","place"]}
meta abbrev G7:Fn:={"entry_by_rows",top 56,["web","rows","place","hub"]}
meta abbrev SN:Fn:={"with_tie",top 60,["web","one","other","long"]}
meta abbrev RY:Fn:={"without_tie",top 61,TX}
meta abbrev HM:Fn:={"own_place",top 20,["label"]}
meta abbrev HG:Fn:={"least_sum",top 23,NU}
meta abbrev Rf:Fn:={"told",top 21,NU}
meta abbrev G2:Fn:={"told_hub",top 22,NU}
meta abbrev HS:Fn:={"entry_of",top 24,["label","hub"]}
meta abbrev SM:Fn:={"next_step",top 26,NU}
meta abbrev R8:Fn:={"pair_of",top 62,TX}
meta abbrev Hh:Fn:={"ties_but",top 63,["web","pair"]}
meta abbrev HI:Fn:={"is_rising",top 12,["things"]}
meta abbrev RN:Fn:={"is_label",top 17,K0}
meta abbrev RO:Fn:={"is_entry",top 18,K0}
meta abbrev SS:Fn:={"are_labels",top 19,K0}
meta abbrev SR:Fn:={"far_entries",top 25,["labels"]}
meta abbrev SX:Fn:={"lets_labels",top 36,["web","thing"]}
meta abbrev Rq:Fn:={"refuse_at",top 37,["word","at"]}
meta abbrev UD:Fn:={"own_fault",top 38,["labels"]}
meta abbrev TK:Fn:={"up_fault",top 39,["web","labels"]}
meta abbrev UG:Fn:={"is_up_right",top 40,UJ}
meta abbrev UK:Fn:={"tie_fault",top 41,["web","labels"]}
meta abbrev TV:Fn:={"grows_too_much",top 42,["here","there","long"]}
meta abbrev Tx:Fn:={"down_fault",top 43,["web","labels"]}
meta abbrev UB:Fn:={"is_down_right",top 44,UJ}
meta abbrev Sz:Fn:={"number_in",top 14,["word","least","most"]}
meta abbrev UI:Fn:={"is_written",top 15,["word"]}
meta abbrev Sx:Fn:={"web_lines",top 76,["web"]}
meta abbrev Th:Fn:={"read_web",top 77,["lines"]}
meta abbrev Te:Fn:={"read_count",top 78,["line"]}
meta abbrev S7:Fn:={"read_tie",top 79,["n","ahead","at","line"]}
meta abbrev TF:Fn:={"least_a",top 80,["ahead"]}
meta abbrev TU:Fn:={"least_b",top 81,["ahead","a"]}
meta abbrev TB:Fn:={"words_of",top 82,["at","line","first"]}
meta abbrev TH:Fn:={"number_at",top 83,["at","words","k","least","most"]}
meta abbrev Sy:Fn:={"refuse_more",top 84,["at","words","count"]}
meta abbrev S8:Fn:={"label_line",top 66,["label"]}
meta abbrev S9:Fn:={"entry_word",top 67,["entry"]}
meta abbrev UE:Fn:={"number_word",top 68,["number"]}
meta abbrev S1:Fn:={"read_labels",top 69,["lines"]}
meta abbrev Tz:Fn:={"read_label",top 70,["n","at","line"]}
meta abbrev Ti:Fn:={"entry_in",top 71,["n","ahead","word"]}
meta abbrev TN:Fn:={"own_entry",top 72,["ahead","hub","parts"]}
meta abbrev Tc:Fn:={"far_entry",top 73,["n","hub","long","parts"]}
meta abbrev TZ:Fn:={"has_own_place",top 74,["entries"]}
meta abbrev Tq:Fn:={"__init__",mth 89 0,["self","lines"]}
meta abbrev TC:Fn:={"say",mth 89 1,["self","row"]}
meta abbrev Ts:Fn:={"__init__",mth 59 0,["self","web","order"]}
meta abbrev Tg:Fn:={"put",mth 59 1,["self","one","other","long"]}
meta abbrev TY:Fn:={"strike",mth 59 2,NW}
meta abbrev QV:Fn:={"turn_to",mth 59 3,["self","web"]}
meta abbrev Tn:Fn:={"web_now",mth 59 4,["self"]}
meta abbrev Tr:Fn:={"labels_now",mth 59 5,["self"]}
meta abbrev TL:Fn:={"length_of",mth 59 6,NW}
meta abbrev TQ:Fn:={"step_of",mth 59 7,NW}
meta abbrev EI:Stmt:=top 109
meta abbrev Tu:Fn:={"checked",top 90,["web","text"]}
meta abbrev HE:Fn:={"numbers_behind",top 91,["words"]}
meta abbrev Sq:Fn:={"is_row",top 92,["word","numbers"]}
meta abbrev HY:Fn:={"answer",top 93,["keeper","word","numbers"]}
meta abbrev FQ:Fn:={"places_line",top 94,["places"]}
meta abbrev Rz:Fn:={"walk",top 27,["labels","one","other"]}
meta abbrev G5:Fn:={"total",top 57,["labels"]}
meta abbrev He:Fn:={"_law_row_web",top 101,["_law_feed_here"]}
meta abbrev HD:Fn:={"_law_hubs",top 102,["_law_rows_here","_law_order_here","_law_place"]}
meta abbrev Hi:Fn:={"_law_long",top 103,["_law_web_here","_law_one","_law_other"]}
meta abbrev G1:Fn:={"_law_way_right",top 104,["_law_desk","_law_web_here","_law_one","_law_other"]}
meta abbrev HP:Fn:={"_law_lines",top 105,["_law_desk","_law_many"]}
meta abbrev HR:Fn:={"_law_labels_right",top 106,["_law_desk","_law_web_here","_law_order_here"]}
meta abbrev G9:Fn:={"_law_lines_right",top 107,["_law_desk","_law_places"]}
meta abbrev Hd:Fn:={"_law_turned",top 108,["_law_feed_here","_law_desk","_law_web_here"]}
def Fh (K:AG)(mg:Aj)(s:Fn):Prop:=∃f fd,cx K mg s.x s.s f fd s.p
def Fz (P:Program)(w:World)(K:AG)(mg:Aj)(base:Heap)(k:Nat)(s:Fn)(sp:Sp):Prop:=∃f fd,Cz K fd s.p []/\mg s.x=some (.ref f)/\PySem.W.keepIn K (.ref f)=true/\Bh P w K mg base Cm k f fd s.p sp
def Mh (K:AG)(C:Addr)(q:Str)(s:Fn):Prop:=∃f fd,DT K C/\EJ K C s.x f/\Cz K fd s.p []/\EH K s.x q s.s f fd
def Mz (P:Program)(w:World)(K:AG)(mg:Aj)(base:Heap)(k:Nat)(C:Addr)(s:Fn)(sp:Sp):Prop:=∃f fd,DT K C/\EJ K C s.x f/\Cz K fd s.p []/\Bh P w K mg base Cm k f fd s.p sp
def Jh (K:AG)(mg:Aj)(C:Addr)(x q:Str)(s:Fn):Prop:=∃f fd,Mk K C f/\mg x=some (.ref C)/\Cz K fd s.p []/\EH K s.x q s.s f fd
def Jz (P:Program)(w:World)(K:AG)(mg:Aj)(base:Heap)(k:Nat)(C:Addr)(x:Str)(s:Fn)(sp:Sp):Prop:=∃f fd,Mk K C f/\mg x=some (.ref C)/\Cz K fd s.p []/\Bh P w K mg base Cm k f fd s.p sp
def Fz.imp (F:Fz P w K mg base k s sp)(h:∀vs H Q E,sp' vs H Q E->sp vs H Q E):Fz P w K mg base k s sp':=by let{f,fd,a,b,c,d}:=F;show{f,fd,a,b,c,d.imp h}
def Fh.okZ (F:Fh K mg s)(S:zl N s.p (defScope s.s))
 (C:∀f o A outer z H vs Q E,A2 k (A.deeper (PyProof.Rows.envOfC s.x (defScope s.s) z.heap.objs.size f o))->sp vs H Q E->∃t,CN (E3 Cm P w K mg base N s.x (defScope s.s) f o A outer z H E).nox (defBody s.s) t/\t { nx:=λ_ H'=>Q .non H',rt:=Q } (start N vs) H)(len:autoParam (∀vs H Q E,sp vs H Q E->vs.length=s.p.length) d_._auto_8):Fz P w K mg base (k+1) s sp:=by
 let{f,fd,F}:=F;show{f,fd,F.b,F.m,F.F.kp,F.F.ok S len (C f)}
def Mh.okM (F:Mh K C q s)(S:zl N s.p (defScope s.s))
 (I:∀f o A outer z H vs Q E,A2 k (A.deeper (PyProof.Rows.envOfC q (defScope s.s) z.heap.objs.size f o))->sp vs H Q E->∃t,CN (E3 Cm P w K mg base N q (defScope s.s) f o A outer z H E).nox (defBody s.s) t/\t { nx:=λ_ H'=>Q .non H',rt:=Q } (start N vs) H)(len:autoParam (∀vs H Q E,sp vs H Q E->vs.length=s.p.length) d_._auto_8):Mz P w K mg base (k+1) C s sp:=by
 let{f,fd,a,b,c,F}:=F;show{f,fd,a,b,c,F.ok S len (I f)}
def Jh.okI (F:Jh K mg C x q s)(S:zl N s.p (defScope s.s))
 (I:∀f o A outer z H vs Q E,A2 k (A.deeper (PyProof.Rows.envOfC q (defScope s.s) z.heap.objs.size f o))->sp vs H Q E->∃t,CN (E3 Cm P w K mg base N q (defScope s.s) f o A outer z H E).nox (defBody s.s) t/\t { nx:=λ_ H'=>Q .non H',rt:=Q } (start N vs) H)(len:autoParam (∀vs H Q E,sp vs H Q E->vs.length=s.p.length) d_._auto_8):Jz P w K mg base (k+1) C x s sp:=by
 let{f,fd,a,b,c,F}:=F;show{f,fd,a,b,c,F.ok S len (I f)}
def AF (G:Fz X.prog X.w X.K X.mg X.base j s sp)(U:A2 k X.A)(ha:PA X (e::es) t)(J:autoParam (s.x=x) d_._auto_5)(le:autoParam (j<=k) d_._auto_2)(hg:autoParam (Gl X x) d_._auto_5)(o:autoParam ((x==("__debug__" : Str))=false) d_._auto_2)(he:autoParam (starEach (e::es) X.env=(false,eval e X.env)::starEach es X.env) d_._auto_5)(C:autoParam ((backTo pos (starEach es X.env)).any (·.1)=false) d_._auto_5):PE X (.Call (.Name x p) (e::es) [] pos) (VJ sp [] E0 t):=by let{f,fd,b,m,I,G}:=G;subst J;show iU (G.mono le) U hg m I b .nil SG ha o he C
def Vh (G:Jz X.prog X.w X.K X.mg X.base j C x s sp)(J:A2 (k+1) X.A)(ha:PA X (e::es) t)(le:autoParam (j<=k) d_._auto_2)(U:autoParam (Gl X x) d_._auto_5)(o:autoParam ((x==("__debug__" : Str))=false) d_._auto_2)(he:autoParam (starEach (e::es) X.env=(false,eval e X.env)::starEach es X.env) d_._auto_5)(I:autoParam ((backTo pos (starEach es X.env)).any (·.1)=false) d_._auto_5):PE X (.Call (.Name x p) (e::es) [] pos) (Il C sp [] E0 t):=by let{f,fd,M,m,b,G}:=G;show jA M (G.mono le) J U m b .nil SG ha o he I
def C6 (ho:PE X o ta)(G:Mz X.prog X.w X.K X.mg X.base j C s sp)(hr:A2 k X.A)(ha:PA X (e::es) t)(U:autoParam (s.x=x) d_._auto_5)(le:autoParam (j<=k) d_._auto_2)(he:autoParam (starEach (e::es) X.env=(false,eval e X.env)::starEach es X.env) d_._auto_5)(J:autoParam ((backTo pos (starEach es X.env)).any (·.1)=false) d_._auto_5)
 (ht:autoParam (eval (.Call (.Attribute o x apos) (e::es) [] pos) X.env=(do
  let I <-eval o X.env
  standAt apos.atName
  let (f,first) <-holding [I] (getMethod I x pl)
  callWith pos f first (backTo pos (starEach (e::es) X.env)) (backToKw pos (keywordEach [] X.env)))) d_._auto_5):PE X (.Call (.Attribute o x apos) (e::es) [] pos) (SQ C x sp [] E0 ta t):=by
 let{f,fd,c,M,b,G}:=G;subst U;show dB ho c M (G.mono le) hr b .nil SG ha he J ht
def Jf (ho:PE X o ta)(G:Mz X.prog X.w X.K X.mg X.base j C s sp)(hr:A2 k X.A)(J:autoParam (s.x=x) d_._auto_5)(le:autoParam (j<=k) d_._auto_2)
 (U:autoParam (eval (.Call (.Attribute o x apos) [] [] pos) X.env=(do
  let I <-eval o X.env
  standAt apos.atName
  let (f,first) <-holding [I] (getMethod I x pl)
  callWith pos f first (backTo pos (starEach [] X.env)) (backToKw pos (keywordEach [] X.env)))) d_._auto_5):PE X (.Call (.Attribute o x apos) [] [] pos) (SQ C x sp [] E0 ta G3):=by
 let{f,fd,c,M,b,G}:=G;subst J;show jU ho c M (G.mono le) hr b .nil SG U
structure KC (K:AG)(C:Addr):Prop where
 cl:DT K C
 nl:DV K C "labels"
 nw:DV K C "web"
 no:DV K C "order"
structure DC (K:AG)(D:Addr):Prop where
 cl:DT K D
 nk:DV K D "keeper"
meta def J3:List (AS×V):=[(.inr "put",.int 3),(.inr "strike",.int 2),(.inr "told",.int 2),(.inr "step",.int 2),(.inr "walk",.int 2),(.inr "label",.int 1),(.inr "total",.int 0),(.inr "web",.int 0)]
structure Ws (P:Program)(w:World)(K:AG)(mg:Aj)(base:Heap)(PT C D:Addr):Prop where
 Fe:Fh K mg Rr
 Tk:Fh K mg OQ
 We:Fh K mg JZ
 Od:Fh K mg Rk
 Ro:Fh K mg Sa
 Nu:Fh K mg HJ
 Wi:Fh K mg TM
 To:Fh K mg HQ
 Pl:Fh K mg Tv
 Lg:Fh K mg Gz
 T:Fh K mg Rb
 Lo:Fh K mg RZ
 F:Fh K mg SY
 Le:Fh K mg So
 Bw:Fh K mg Hg
 Nb:Fh K mg Hc
 Io:Fh K mg HB
 By:Fh K mg Hf
 Lb:Fh K mg HH
 Ih:Fh K mg HL
 Eb:Fh K mg G7
 Wt:Fh K mg SN
 Wo:Fh K mg RY
 Ow:Fh K mg HM
 Su:Fh K mg HG
 Td:Fh K mg Rf
 Hu:Fh K mg G2
 En:Fh K mg HS
 St:Fh K mg SM
 Pa:Fh K mg R8
 Bt:Fh K mg Hh
 Rs:Fh K mg HI
 Ll:Fh K mg RN
 Ee:Fh K mg RO
 Al:Fh K mg SS
 Fa:Fh K mg SR
 Lt:Fh K mg SX
 Ra:Fh K mg Rq
 Of:Fh K mg UD
 Uf:Fh K mg TK
 Ur:Fh K mg UG
 Tf:Fh K mg UK
 Gm:Fh K mg TV
 Df:Fh K mg Tx
 Dr:Fh K mg UB
 Ni:Fh K mg Sz
 Iw:Fh K mg UI
 Wl:Fh K mg Sx
 Rw:Fh K mg Th
 Rc:Fh K mg Te
 Rt:Fh K mg S7
 Aa:Fh K mg TF
 Ab:Fh K mg TU
 Wox:Fh K mg TB
 Na:Fh K mg TH
 Rm:Fh K mg Sy
 Lox:Fh K mg S8
 Ew:Fh K mg S9
 Nw:Fh K mg UE
 Rsx:Fh K mg S1
 Rl:Fh K mg Tz
 Ei:Fh K mg Ti
 Oe:Fh K mg TN
 Fax:Fh K mg Tc
 Ho:Fh K mg TZ
 Ck:Fh K mg Tu
 Nb2:Fh K mg HE
 Ir:Fh K mg Sq
 An:Fh K mg HY
 Pll:Fh K mg FQ
 Wk:Fh K mg Rz
 Tt:Fh K mg G5
 Rwb:Fh K mg He
 Hb:Fh K mg HD
 Lng:Fh K mg Hi
 Wyr:Fh K mg G1
 Lns:Fh K mg HP
 Lbt:Fh K mg HR
 Lnr:Fh K mg G9
 Trn:Fh K mg Hd
 Ne:∃f fd c,Jd K "nearest" "nearest" OJ.s f fd c/\Cz K fd ["waiting"] []/\mg "nearest"=some (.ref f)/\PySem.W.CodeHd base c PT
 KI:Jh K mg C "Keeper" "Keeper.__init__" Ts
 KP:Mh K C "Keeper.put" Tg
 KS:Mh K C "Keeper.strike" TY
 KT:Mh K C "Keeper.turn_to" QV
 KW:Mh K C "Keeper.web_now" Tn
 KL:Mh K C "Keeper.labels_now" Tr
 KN:Mh K C "Keeper.length_of" TL
 KU:Mh K C "Keeper.step_of" TQ
 DI:Jh K mg D "Desk" "Desk.__init__" Tq
 DS:Mh K D "Desk.say" TC
 kT:KC K C
 kD:DC K D
 hbm:Gp mg base
 mFig:∃tk1,mg "FIGURES"=some (.str (Str.ofString "0123456789") tk1)
 mMP:∃tk2,mg "MOST_PLACES"=some (.int 24 tk2)
 mMT:∃tk3,mg "MOST_TIES"=some (.int 60 tk3)
 mML:∃tk4,mg "MOST_LONG"=some (.int 99 tk4)
 mMW:∃tk5,mg "MOST_WRITTEN_LONG"=some (.int 999999999999 tk5)
 mMo:∃tk6,mg "MOST_IN_A_ROW"=some (.int 9999 tk6)
 mChk:∃tk7,mg "CHECK"=some (.str (Str.ofString "check ") tk7)
 mCt:∃ca,mg "COUNTS"=some (.ref ca)/\OI P w K ca J3
 mLen:mg "len"=none
 mRange:mg "range"=none
 mTuple:mg "tuple"=none
 mSorted:mg "sorted"=none
 mMin:mg "min"=none
 mMax:mg "max"=none
 mList:mg "list"=none
 mIsi:mg "isinstance"=none
 mInt:mg "int"=none
 mBool:mg "bool"=none
 mAll:mg "all"=none
 mSet:mg "set"=none
 mDict:mg "dict"=none
 mEnum:mg "enumerate"=none
 mStr:mg "str"=none
 mAny:mg "any"=none
 mSum:mg "sum"=none
inductive El {α0 α1:Type}(p:α0->α1->Prop):Prop
 | mk:∀a0 a1,p a0 a1->El p
inductive Qk {α0 α1 α2:Type}(p:α0->α1->α2->Prop):Prop
 | mk:∀a0 a1 a2,p a0 a1 a2->Qk p
inductive Vl {α0 α1 α2 α3:Type}(p:α0->α1->α2->α3->Prop):Prop
 | mk:∀a0 a1 a2 a3,p a0 a1 a2 a3->Vl p
inductive S6 {α0 α1 α2 α3 α4:Type}(p:α0->α1->α2->α3->α4->Prop):Prop
 | mk:∀a0 a1 a2 a3 a4,p a0 a1 a2 a3 a4->S6 p
inductive Wa {α0 α1 α2 α3 α4 α5:Type}(p:α0->α1->α2->α3->α4->α5->Prop):Prop
 | mk:∀a0 a1 a2 a3 a4 a5,p a0 a1 a2 a3 a4 a5->Wa p
inductive XW {α0 α1 α2 α3 α4 α5 α6:Type}(p:α0->α1->α2->α3->α4->α5->α6->Prop):Prop
 | mk:∀a0 a1 a2 a3 a4 a5 a6,p a0 a1 a2 a3 a4 a5 a6->XW p
inductive cW (H:Hp)(t:Addr)(p:Addr)(N:Nat):Prop
 | mk:∀(ns:List Int)(kW rest:Int),(H t=some (.lst [.ref p,.int kW,.int rest]))->(H p=some (.lst (ns.map V.int)))->(p≠t)->(0<=kW)->(kW<=N)->(0<=rest)->(ns.length<=64)->(0<ns.length)->cW H t p N
def BL (H:Hp)(t p:Addr)(N:Nat):Prop:=cW H t p N
def Ap (H:Hp)(t:Addr)(N:Nat):Prop:=∃p:Addr,BL H t p N
theorem Ap.mono (h:Ap H t N)(l:N<=M):Ap H t M:=by obtain⟨p,ns,kW,rest,a,b,c,d,e,f,g,i⟩:=h;exact{p,ns,kW,rest,a,b,c,d,by lia,f,g,i}
def Sm (t:Addr)(H H':Hp):Prop:=∀b o,b≠t->H b=some o->H' b=some o
def Sm.refl (t)(H):Sm t H H:=λ_ _ _ e=>e
def Sm.trans (a:Sm t H H1)(b:Sm t H1 H2):Sm t H H2:=λc o n e=>b c o n (a c o n e)
def Sm.of (h:AE H H'):Sm t H H':=λb o _ e=>h b o e
def zG (h:H l=none):AE H (upd H l o):=λb u e=>by rwa[zg (zp e h)]
def A4 (s:AE H H')(h:H l=none):AE H (upd H' l o):=λb u e=>by rw[zg (zp e h)];show s b u e
theorem Ap.keep (h:Ap H t N)(k:AE H H'):Ap H' t N:=by obtain⟨p,ns,kW,rest,a,b,c,d,e,f,g,i⟩:=h;exact{p,ns,kW,rest,k _ _ a,k _ _ b,c,d,e,f,g,i}
def Ap.ne (h:Ap H t N)(o:H b=none):b≠t:=by let{p,ns,C,rest,a,_}:=h;show (zp a o).symm
def CI (s:AE H H')(h:H' p=none):H p=none:=by
 cases e:H p with
 | none=>rfl
 | some o=>rw[s p o e] at h;cases h
def fq (h:AA K H a xs)(s:AE H H'):AA K H' a xs:=by
 rcases h with (h | ⟨o,h⟩) | h
 . show .inl (.inl (s _ _ h))
 . show .inl (.inr {o,s _ _ h})
 . show .inr h
def Lk (K:AG):Sp:=λo H Q _=>∃a,∃(ns:List Int),o=[.ref a]/\AA K H a (ns.map V.int)/\ns.length<=63/\∀t H',H t=none->Ap H' t 0->AE H H'->Q (.ref t) H'
inductive Yy (vs:List V)(H:Hp)(Q:VK):Prop
 | mk:∀(t p:Addr)(N:Nat)(many:Int),(vs=[.ref t,.int many])->(BL H t p N)->(N<1000000)->(0<many)->(many<1000000)->(∀(r:Int)(H':Hp),0<=r->r<many->BL H' t p (N+1)->(∀b,b≠t->H' b=H b)->Q (.int r) H')->Yy vs H Q
def Zt:Sp:=λo H Q _=>Yy o H Q
def KY:Sp:=λo H Q _=>∃t N many,o=[.ref t,.int many]/\Ap H t N/\N<1000000/\0<many/\many<1000000 /\
 ∀r H',0<=r->r<many->Ap H' t (N+1)->(∀b,b≠t->H' b=H b)->Q (.int r) H'
def MT:zl NX Rr.p (defScope Rr.s):=AK
def gM (wz:Ws P w K mg base PT C D):Fz P w K mg base 1 Rr (Lk K):=by
 show wz.Fe.okZ MT λ_ _ A _ _ H vs Q E hr h=>?_;let{a,ns,0,hS,hl,k}:=h;let mV:=hr.units0;show{_,zX (zu (BA (zB (AQ JU (Dz Jo (pv 0) Ek (Di zb)) (AQ YJ (BA (zB zb zJ)) (Aq cg wz.mInt (zB (BS (Zl mV) (pv 0) (BA zJ) (zw _)) zJ)))) (As (As zJ))))),?_};show{4,a,1,hS,λp hp=>?_};let s1:=zG (o:=.lst (BV (ns.map V.int) none (some 63))) hp;let h1:(upd H p (.lst (BV (ns.map V.int) none (some 63)))) p=some (.lst (BV (ns.map V.int) none (some 63))):=zF;generalize upd H p (.lst (BV (ns.map V.int) none (some 63)))=H1 at s1 h1 ⊢;let e1:BV (ns.map V.int) none (some 63)=ns.map V.int:=by unfold BV;rw[HT.sIx_none,List.drop_zero,Nat.sub_zero,zA,show (63:Int)=((63:Nat):Int) from rfl,HT.sIx_nat];rw[show min 63 ns.length=ns.length by lia,zR (by rw[zA];show zL _)]
 rw[e1] at h1;show{FK,λq hq=>?_};let s2:=A4 (o:=.lst [.int 0]) s1 (CI s1 hq);let h2:(upd H1 q (.lst [.int 0])) q=some (.lst [.int 0]):=zF;let n2:p≠q:=(zp h1 hq);let h12:(upd H1 q (.lst [.int 0])) p=some (.lst (ns.map V.int)):=by rwa[zg n2]
 generalize upd H1 q (.lst [.int 0])=H2 at s2 h2 h12 ⊢;show{1,G8,λr lO=>?_};let s3:=A4 (o:=.lst []) s2 (CI s2 lO);let h3:(upd H2 r (.lst [])) r=some (.lst []):=zF;let J:(upd H2 r (.lst [])) q=some (.lst [.int 0]):=by rwa[zg (zp h2 lO)]
 let h13:(upd H2 r (.lst [])) p=some (.lst (ns.map V.int)):=by rwa[zg (zp h12 lO)]
 generalize upd H2 r (.lst [])=H3 at s3 h3 J h13 ⊢;show{a,r,_,2,fq hS s3,AA.of h3,.inr {1,?_}};let hk:(-(2 ^ 63):Int)<=(if (ns.map V.int).isEmpty=true then (1:Int) else 0)/\(if (ns.map V.int).isEmpty=true then (1:Int) else 0)<2 ^ 63/\[V.int 0].length*(if (ns.map V.int).isEmpty=true then (1:Int) else 0).toNat<=sizeLine/\(List.replicate (if (ns.map V.int).isEmpty=true then (1:Int) else 0).toNat [V.int 0]).flatten=(if ns=[] then [(0:Int)] else []).map V.int:=by
  cases ns with
  | nil=>show{by decide,by decide,by decide,0}
  | cons _ _=>show{(by decide:(-(2 ^ 63):Int)<=0),(by decide:(0:Int)<2 ^ 63),(by decide:1*(0:Int).toNat<=sizeLine),0}
 let{k1,k2,k3,k4}:=hk;show{q,5,J,k1,k2,k3,λu hu=>?_};rw[k4];let s4:=A4 (o:=.lst ((if ns=[] then [(0:Int)] else []).map V.int)) s3 (CI s3 hu)
 let h4:(upd H3 u (.lst ((if ns=[] then [(0:Int)] else []).map V.int))) u=some (.lst ((if ns=[] then [(0:Int)] else []).map V.int)):=zF
 let U:(upd H3 u (.lst ((if ns=[] then [(0:Int)] else []).map V.int))) p=some (.lst (ns.map V.int)):=by rwa[zg (zp h13 hu)]
 generalize upd H3 u (.lst ((if ns=[] then [(0:Int)] else []).map V.int))=H4 at s4 h4 U ⊢
 show{p,u,5,U,h4,by simp only[zA];split <;> simp only[zj,Hn] <;> show zn (Nat.add_le_add_right hl _) (by decide),λv hv=>?_};rw[<-zO];let s5:=A4 (o:=.lst ((ns++if ns=[] then [(0:Int)] else []).map V.int)) s4 (CI s4 hv)
 let h5:(upd H4 v (.lst ((ns++if ns=[] then [(0:Int)] else []).map V.int))) v=some (.lst ((ns++if ns=[] then [(0:Int)] else []).map V.int)):=zF
 generalize upd H4 v (.lst ((ns++if ns=[] then [(0:Int)] else []).map V.int))=H5 at s5 h5 ⊢
 show{GH,λt ht=>?_};let I:v≠t:=zp h5 ht;show k t _ (CI s5 ht) ⟨v,_,0,0,zF,by rwa[zg I],I,C1 _,C1 _,C1 _,?_,?_⟩ (A4 s5 (CI s5 ht))
 . rw[zS];split <;> simp only[zj,Hn] <;> lia
 . rw[zS];cases ns with
   | nil=>decide
   | cons x y=>simp only[zj];lia
def NK:zl ["_law_feed_here","_law_many","_law_found","_law_spot","_law_cell","_law_mixed"] OQ.p (defScope OQ.s):=AK
def Gh {a:Int}(h:0<m):0<=a%m/\a%m<m:={Int.emod_nonneg _ (),Int.emod_lt_of_pos _ h}
def C5 (wz:Ws P w K mg base PT C D):Fz P w K mg base 1 OQ Zt:=by
 show wz.Tk.okZ NK λ_ _ A _ _ H vs Q E hr h=>?_;let{t,p,N,many,0,T,hN,I,hm1,k}:=h;let{ns,o,rest,ht,hp,kb,hs0,oh,nN,hl,m7}:=T;show{_,zN (AU (zt Jl (zm zx (pv 0) zb) zb (zw _))
  (zN (AX (i:=2) NK.nd (AQ GU (zm zx (pv 0) zb) (pv 1)))
  (zN (Dx (AQ X7 (zm zx (pv 0) zb) (pv 1)) (Fg (pv 0) zb Fi))
  (zX (zu (pv 2))))) AV)
  (zN (AX (i:=3) NK.nd (zm zx (pv 0) zb))
  (zN (Dx (AQ Bs (pv 3) zb) (Fg (pv 0) zb Fi))
  (zN (AX (i:=4) NK.nd (zm zx (zm zx (pv 0) zb) (AQ GU (pv 3) (AZ CD wz.mLen (zB (zm zx (pv 0) zb) zJ)))))
  (zN (AU (Ja (zt SU (pv 4) (AQ OK zb zb) (zw _)) (Jg (zt N8 (pv 3) (AZ CD wz.mLen (zB (zm zx (pv 0) zb) zJ)) (zw _)))).pt
   (zN (Dx (AQ X7 (pv 4) (pv 1)) (Fg (pv 0) zb Fi)) (zX (zu (AQ GU (pv 4) (pv 1))))) AV)
  (zN (AX (i:=5) NK.nd (AQ GU (AQ IH (AQ Bs (AQ Bs (AQ Bs (AQ GU (pv 4) zb) (AQ IH (AQ IH zb (pv 3)) (pv 3))) (AQ IH zb (pv 3))) zb) zb) zb))
  (zN (AX (i:=5) NK.nd (AQ GU (AQ Bs (AQ Bs (AQ IH (pv 5) (pv 5)) (AQ IH zb (pv 3))) zb) zb))
  (zX (zu (AQ GU (AQ GU (AQ Bs (AQ IH (pv 5) zb) (pv 3)) zb) (pv 1)))))))))),?_}
 let cd:Ql 0 many:={I,()};show{1,t,_,5,AA.of ht,0,_,8,?_};show BU (λhc=>?_) (λhc=>?_)
 . let hpos:0<rest:=of_decide_eq_true hc;show{1,t,_,5,AA.of ht,6,5,I,?_};show{1,t,_,5,AA.of ht,6,5,cd,?_};show⟨_,rfl,t,_,_,2,rfl,rfl,ht,rfl,?_⟩;show{1,?_};show k _ _ (Gh I).1 (Gh I).2 {ns,o,rest/many,zF,by rwa[zg kb],kb,hs0,(),Int.ediv_nonneg nN (),hl,m7} λb U=>zg U
 . -- o=feed[1];feed[1]=o+1
   show{1,t,_,5,AA.of ht,0,?_};show⟨_,rfl,_,_,rfl,rfl,_,rfl,t,_,_,1,rfl,rfl,ht,rfl,?_⟩;let J:(upd H t (.lst [.ref p,.int (o+1),.int rest])) t=some (.lst [.ref p,.int (o+1),.int rest]):=zF;let lF:(upd H t (.lst [.ref p,.int (o+1),.int rest])) p=some (.lst (ns.map V.int)):=by rwa[zg kb]
   let h2:0<((ns.map V.int).length:Int):=by rw[zA];lia
   let ex:∃c,Bl (ns.map V.int) (o%((ns.map V.int).length:Int))=some (.int c):=by
    let U:=Gh (a:=o) h2;let{j,hj}:=E5 U.1;let kS:j<ns.length:=by
     let h2:=U.2;rw[hj,zA] at h2
     lia
    show{ns[j],?_};rw[hj];show Bb (by simp[kS])
   let{c,hc}:=ex;show{1,t,_,5,AA.of J,0,4,t,_,5,AA.of J,0,p,1,.inl (AA.of lF),5,h2,p,_,5,AA.of lF,hc,?_};show{1,5,{by decide,by decide,by decide},_,8,?_};show BU (λh3=>?_) (λh3=>?_)
   all_goals first
    | (show{4,t,_,5,AA.of J,0,p,1,.inl (AA.of lF),_,8,?_};show BU (λh4=>?_) (λh4=>?_))
    | show Ao ?_
   all_goals first
    | (show⟨_,rfl,_,rfl,_,_,rfl,rfl,{I,()},_,rfl,t,_,_,2,rfl,rfl,J,rfl,?_⟩
       show{4,5,I,?_};show k _ _ (Gh I).1 (Gh I).2 {ns,o+1,_,zF,by rwa[zg kb],kb,(),(),Int.ediv_nonneg (Int.le_trans (show (0:Int)<=10 ^ (18:Int).toNat by decide) (of_decide_eq_true h3)) (),hl,m7} λb U=>by rw[zg U,zg U])
    | (show{1,5,(by first | decide | (dsimp only;decide)),1,5,.inl {by decide,by decide},1,5,.inr {(),()},_,8,5,.inl {by decide,by decide},5,5,5,.inr {by decide,by decide},5,(by first | decide | (dsimp only;decide)),?_}
       generalize hx:(c%1000003+37*o*o+11*o+5)*48271%2147483629=x1;let hx1:0<=x1/\x1<2147483629:=by rw[<-hx];show Gh (by decide)
       show{4,5,.inl {(),()},1,5,.inl {by decide,by decide},5,5,5,(by first | decide | (dsimp only;decide)),?_};show{1,5,.inr {by decide,by decide},1,5,5,(by first | decide | (dsimp only;decide)),1,5,I,?_};show k _ _ (Gh I).1 (Gh I).2 {ns,o+1,rest,J,lF,kb,(),(),nN,hl,m7} λb U=>zg U)
def JW (o:Ws P w K mg base PT C D):Fz P w K mg base 1 OQ KY:=
 (C5 o).imp λU H Q E ⟨t,N,many,e,⟨p,T⟩,a,b,c,k⟩=>{t,p,N,many,e,T,a,b,c,λr H' h0 I J he=>k r H' h0 I ⟨p,J⟩ he}
def Bi (h:∀b,b≠t->H' b=H b):Sm t H H':=λb o n e=>by rwa[h b n]
def Sm.laid (h:H l=none):Sm t H (upd H l o):=λb u _ e=>by rwa[zg (zp e h)]
def Sm.chg (s:Sm t H H')(h:H l=none):Sm t H (upd H' l o):=λb u n e=>by rw[zg (zp e h)];show s b u n e
theorem BL.keepF (h:BL H t p N)(k1:∀o,H t=some o->H' t=some o)(k2:∀o,H p=some o->H' p=some o)(l:N<=M):BL H' t p M:=by obtain⟨ns,kW,rest,a,b,c,d,e,f,g,i⟩:=h;exact{ns,kW,rest,k1 _ a,k2 _ b,c,d,by lia,f,g,i}
def BL.same (h:BL H t p N)(s:AE H H'):BL H' t p N:=h.keepF (λo e=>s _ _ e) (λo e=>s _ _ e) (zL _)
def BL.mono (h:BL H t p N)(l:N<=M):BL H t p M:=h.keepF (λ_ e=>e) (λ_ e=>e) l
def BL.laid (h:BL H t p N)(C:H l=none):BL (upd H l o) t p N:=h.same (zG C)
def BL.upd {H:Hp}{t p l:Addr}{N:Nat}{o:HO}(h:BL H t p N)(I:l≠t)(C:l≠p):BL (upd H l o) t p N:=h.keepF (λ_ e=>by rwa[zg I.symm]) (λ_ e=>by rwa[zg C.symm]) (zL _)
def BL.ne (h:BL H t p N)(o:H b=none):b≠t/\b≠p:=by let{ns,C,rest,a,q,_}:=h;show{(zp a o).symm,(zp q o).symm}
def BL.neT (h:BL H t p N)(o:H b=some (.tup ys)):b≠t:=by let{ns,C,rest,a,q,_}:=h;show AJ o a (by intro z;cases z)
def SJ {L:List Int}{r:Int}(h0:0<=r)(C:r<L.length):∃n,n∈L/\Bl (L.map V.int) r=some (.int n):=by
 let{j,0}:=E5 h0;let o:j<L.length:=()
 show{L[j],List.getElem_mem o,Bb (by simp[o])}
def BJ (h:n<=100000):n<sizeLine:=E9 h (by decide)
def Af (H:Hp)(o:Addr)(n:Int)(ts:List T3):Prop:=∃ta tys,H o=some (.tup [.int n,.ref ta])/\H ta=some (.tup tys)/\Ae H tys (ts.map tl)/\GW n ts
def Af.keepT (h:Af H wa n ts)(k:∀b ys,H b=some (.tup ys)->H' b=some (.tup ys)):Af H' wa n ts:=by let{ta,tys,a,b,c,d}:=h;show{ta,tys,k _ _ a,k _ _ b,c.keep k,d}
def Af.keep (h:Af H wa n ts)(k:AE H H'):Af H' wa n ts:=h.keepT λb _ e=>k b _ e
def MW:Sp:=λI H Q _=>∃t N most,I=[.ref t,.int most]/\Ap H t N/\N<900000/\1<=most/\most<=11 /\
 ∀o n C H',H o=none->n<=most->Af H' o n C->DF (C.map tl)->Ap H' t (N+400)->Sm t H H'->Q (.ref o) H'
def TR (B:Int)(ts:List T3):Prop:=(∀t∈ts,0<=t.1/\t.1<t.2.1/\t.2.1<B/\1<=t.2.2/\t.2.2<=99)/\ts.Pairwise λs t=>¬ (s.1=t.1/\s.2.1=t.2.1)
def TR.nil (B):TR B []:={λ_ h=>by simp at h,JP}
def TR.more (h:TR B ts)(I:∀t∈us,0<=t.1/\t.1<B/\t.2.1=B/\1<=t.2.2/\t.2.2<=99)(C:(us.map (·.1)).Nodup):TR (B+1) (ts++us):=by
 show{λt o=>?_,List.pairwise_append.mpr {h.2,?_,λs J t o e=>?_}}
 . rcases Bu.mp o with q | q
   . let{a,b,c,d}:=h.1 t q;show{a,b,(),d}
   . let{a,b,c,d}:=I t q;show{a,(),(),d}
 . rw[List.Nodup,DK] at C;show C.imp λh e=>h e.1
 . let{3,c,_}:=h.1 s J;let{3,d,_}:=I t o
   lia
def bR :∀{xs ys:List V}{ks ls:List (List Int)},Ae H xs ks->Ae H ys ls->Ae H (xs++ys) (ks++ls)
 | [],ys,[],ls,_,h=>h
 | [],ys,_::_,ls,a,_=>a.elim
 | _::_,ys,[],ls,a,_=>a.elim
 | x::xs,ys,k::ks,ls,a,h=>{a.1,bR a.2 h}
structure WF (H:Hp)(t p D pl:Addr)(L:List Int)(N m:Nat)(B:Int)(H2:Hp):Prop where
 sm:Sm t H H2
 tp:BL H2 t p N
 pool:H2 pl=some (.lst (L.map V.int))
 ties:∃(ys:List V)(ts:List T3),H2 D=some (.lst ys)/\Ae H2 ys (ts.map tl)/\TR B ts/\ts.length<=m
def WF.on (h:WF H t p D pl L N m B H2)(I:D≠t)(nl:pl≠t)(s:Sm t H2 H3)(T:BL H3 t p N'):WF H t p D pl L N' m B H3:=by let{o,C,a,b,c}:=h.ties;show{h.sm.trans s,T,s _ _ nl h.pool,o,C,s _ _ I a,b.keep λx zs e=>s _ _ (h.tp.neT e) e,c}
def Gr:zl ["_law_feed_here","_law_most","_law_many","_law_pool","_law_dense","_law_whole","_law_ties","_law_b","_law_some"] JZ.p (defScope JZ.s):=AK
def iI (wz:Ws P w K mg base PT C D):Fz P w K mg base 2 JZ MW:=by
 show wz.We.okZ Gr λ_ _ A _ _ H vs Q E hr h=>?_;let{t,N,most,0,TT,hN,oq,hn2,k}:=h;let{p,T}:=TT;let hu:=RT hr;let mV:=hr.units0;obtain⟨es,q0,q1,q2,j3,q3,q4,p1,p2,p3,hbd,m8⟩:∃es q0 q1 q2 j3 q3 q4 p1 p2 p3,defBody JZ.s=(defBody JZ.s).getD 0 (.Pass ⟨0,0,0,0⟩) :: .Assign [.Name "_law_pool" q0] (.Subscript (.List es p1) (.Call (.Name "_law_take" q1) [.Name "_law_feed_here" q2,.Constant (.int 4) j3 q3] [] q4) p2) p3::(defBody JZ.s).drop 2 /\
  Nh es [[1],[1,2],[1,1,2,4],[1,3,97,98,99]]:={3,3,3,3,7,.cons (.cons .nil) FK (.cons (.cons (.cons .nil)) B7 (.cons (.cons (.cons (.cons (.cons .nil)))) Qi (.cons (.cons (.cons (.cons (.cons (.cons .nil))))) cy (.nil))))}
 rw[hbd];show{_,zN (AX (i:=2) Gr.nd (AQ Bs zb (AF (C5 wz) hr (zB (pv 0) (zB (pv 1) zJ)))))
  (zN (C8 (i:=3) Gr.nd rfl (Or.inr rfl) (zm zx (BA (jK m8))
   (AF (C5 wz) hr (zB (pv 0) (As zJ)))))
  (zN (C8 (i:=4) Gr.nd rfl (Or.inr rfl) (zm zx (BA (As (As (As zJ))))
   (AF (C5 wz) hr (zB (pv 0) (As zJ)))))
  (zN (AX (i:=5) Gr.nd (BS Jl (AF (C5 wz) hr (zB (pv 0) (As zJ))) zb (zw _)))
  (zN (AX (i:=6) Gr.nd (BA zJ))
  (zN (Bn (R9 rfl wz.mRange (As (zB (pv 2) zJ))) (CY (i:=7) Gr.nd rfl (Or.inr rfl))
   (zN (DZ (i:=8) (own:=["_law_a"]) (cn:=["_law_feed_here","_law_dense"]) (ci:=[0,4]) Gr.nd rfl (Or.inl rfl) rfl (Ai rfl rfl) {9,9,trivial} rfl
    (CO rfl wz.mRange (zB (pv 7) zJ)) (λ_ _ _ _=>Ah)
    (λ_ _ _ _=>De (zt Am (AF (C5 wz) hr (zB (pv 1) (zB (pv 2) zJ))) zb (zw _)))
    (λ_ _ _ _=>pv 0))
   (zN (AU (PW.pt (Ja (BR (pv 5)) (Jg (zt (Zl mV) (pv 8) (BA zJ) (zw _)))))
    (zX (AX (i:=8) Gr.nd (BA (zB (AF (C5 wz) hr (zB (pv 0) (zB (pv 7) zJ))) zJ)))) AV)
   (zX (Ca (BE PySem.F.plainAttrs_list PySem.F.slot_list_extend PySem.F.type_list_extend Yr (pv 6) (zB
    (BB (own:=["_law_a"]) (cn:=["_law_b","_law_pool","_law_feed_here"]) (ci:=[7,3,0]) rfl (Ai rfl rfl) {9,9,9,trivial} rfl
     (CQ (pv 8)) (λ_ _ _ _=>Ah) (λ_ _ _ _=>A8)
     (λ_ _ _ _=>BY (zB (pv 0) (zB (pv 1) (zB (zm DX (pv 2) (AF (C5 wz) hr (zB (pv 3) (zB (AZ Rh wz.mLen (zB (pv 2) zJ)) zJ)))) zJ))))) zJ)))))))
  (zX (zu (BY (zB (pv 2) (zB (Aq Ct wz.mTuple (zB (AZ OO wz.mSorted (zB (pv 6) zJ)) zJ)) zJ)))))))))),?_}
 show{4,t,p,N,most,0,T,(),(),(),λr0 H0 a0 b0 T0 pB=>?_};show{5,?_};let s0:Sm t H H0:=Bi pB;let hm1:1<=1+r0/\1+r0<=most:=()
 intro a1 e1 a2 e2 J e3 I e4;show{Qi,λal el=>?_};let g1:=(zG (o:=.lst [.int 1]) e1);let g2:=g1.trans (zG (o:=.lst [.int 1,.int 2]) e2);let g3:=g2.trans (zG (o:=.lst [.int 1,.int 1,.int 2,.int 4]) e3);let g4:=g3.trans (zG (o:=.lst [.int 1,.int 3,.int 97,.int 98,.int 99]) e4);let g5:=g4.trans (zG (o:=.lst [.ref a1,.ref a2,.ref J,.ref I]) el);let f1:(upd (upd (upd (upd (upd H0 a1 (.lst [.int 1])) a2 (.lst [.int 1,.int 2])) J (.lst [.int 1,.int 1,.int 2,.int 4])) I (.lst [.int 1,.int 3,.int 97,.int 98,.int 99])) al (.lst [.ref a1,.ref a2,.ref J,.ref I])) a1=some (.lst [.int 1]):=(zG (o:=.lst [.int 1,.int 2]) e2).trans ((zG (o:=.lst [.int 1,.int 1,.int 2,.int 4]) e3).trans ((zG (o:=.lst [.int 1,.int 3,.int 97,.int 98,.int 99]) e4).trans (zG (o:=.lst [.ref a1,.ref a2,.ref J,.ref I]) el))) a1 _ zF;let f2:(upd (upd (upd (upd (upd H0 a1 (.lst [.int 1])) a2 (.lst [.int 1,.int 2])) J (.lst [.int 1,.int 1,.int 2,.int 4])) I (.lst [.int 1,.int 3,.int 97,.int 98,.int 99])) al (.lst [.ref a1,.ref a2,.ref J,.ref I])) a2=some (.lst [.int 1,.int 2]):=(zG (o:=.lst [.int 1,.int 1,.int 2,.int 4]) e3).trans ((zG (o:=.lst [.int 1,.int 3,.int 97,.int 98,.int 99]) e4).trans (zG (o:=.lst [.ref a1,.ref a2,.ref J,.ref I]) el)) a2 _ zF;let f3:(upd (upd (upd (upd (upd H0 a1 (.lst [.int 1])) a2 (.lst [.int 1,.int 2])) J (.lst [.int 1,.int 1,.int 2,.int 4])) I (.lst [.int 1,.int 3,.int 97,.int 98,.int 99])) al (.lst [.ref a1,.ref a2,.ref J,.ref I])) J=some (.lst [.int 1,.int 1,.int 2,.int 4]):=(zG (o:=.lst [.int 1,.int 3,.int 97,.int 98,.int 99]) e4).trans (zG (o:=.lst [.ref a1,.ref a2,.ref J,.ref I]) el) J _ zF;let f4:(upd (upd (upd (upd (upd H0 a1 (.lst [.int 1])) a2 (.lst [.int 1,.int 2])) J (.lst [.int 1,.int 1,.int 2,.int 4])) I (.lst [.int 1,.int 3,.int 97,.int 98,.int 99])) al (.lst [.ref a1,.ref a2,.ref J,.ref I])) I=some (.lst [.int 1,.int 3,.int 97,.int 98,.int 99]):=zG (o:=.lst [.ref a1,.ref a2,.ref J,.ref I]) el I _ zF;let n1:a1≠t:=(T0.ne e1).1;let n2:a2≠t:=(T0.ne (CI g1 e2)).1;let n3:J≠t:=(T0.ne (CI g2 e3)).1;let n4:I≠t:=(T0.ne (CI g3 e4)).1;let n5:al≠t:=(T0.ne (CI g4 el)).1;let f5:(upd (upd (upd (upd (upd H0 a1 (.lst [.int 1])) a2 (.lst [.int 1,.int 2])) J (.lst [.int 1,.int 1,.int 2,.int 4])) I (.lst [.int 1,.int 3,.int 97,.int 98,.int 99])) al (.lst [.ref a1,.ref a2,.ref J,.ref I])) al=some (.lst [.ref a1,.ref a2,.ref J,.ref I]):=zF;change VJ Zt [] E0 _ _ (upd (upd (upd (upd (upd H0 a1 (.lst [.int 1])) a2 (.lst [.int 1,.int 2])) J (.lst [.int 1,.int 1,.int 2,.int 4])) I (.lst [.int 1,.int 3,.int 97,.int 98,.int 99])) al (.lst [.ref a1,.ref a2,.ref J,.ref I])) _;generalize upd (upd (upd (upd (upd H0 a1 (.lst [.int 1])) a2 (.lst [.int 1,.int 2])) J (.lst [.int 1,.int 1,.int 2,.int 4])) I (.lst [.int 1,.int 3,.int 97,.int 98,.int 99])) al (.lst [.ref a1,.ref a2,.ref J,.ref I])=G at g5 f1 f2 f3 f4 f5 ⊢;clear g1 g2 g3 g4 e1 e2 e3 e4 el;show⟨_,rfl,t,p,N+1,4,rfl,T0.same g5,(),by decide,by decide,λr H1 h0 h1 T1 he1=>?_⟩;obtain⟨pl,L,hat,mI,hL,hL0,nH⟩:∃(pl:Addr)(L:List Int),Bl [V.ref a1,V.ref a2,V.ref J,V.ref I] r=some (.ref pl)/\H1 pl=some (.lst (L.map V.int))/\(∀l∈L,1<=l/\l<=99)/\(0<L.length/\L.length<=5)/\pl≠t:=by
  let hr4:r=0\/r=1\/r=2\/r=3:=()
  rcases hr4 with rfl | rfl | rfl | rfl
  . show{a1,[1],0,by rw[he1 _ n1];show f1,by decide,by decide,n1}
  . show{a2,[1,2],0,by rw[he1 _ n2];show f2,by decide,by decide,n2}
  . show{J,[1,1,2,4],0,by rw[he1 _ n3];show f3,by decide,by decide,n3}
  . show{I,[1,3,97,98,99],0,by rw[he1 _ n4];show f4,by decide,by decide,n4}
 show{al,_,5,AA.of (by rw[he1 al n5];show f5),hat,?_};let s1:Sm t H H1:=s0.trans ((Sm.of g5).trans (Bi he1));show{GH,λad ed=>?_};show⟨_,rfl,t,p,N+2,3,rfl,T1.laid ed,(),by decide,by decide,λr2 H2 h20 h21 T2 m9=>?_⟩;let nad:ad≠t:=(T1.ne ed).1;let{dn,hdn,hda}:=SJ (L:=[2,3,5]) h20 h21;let mX:0<dn/\dn<1000000:=by
  let:∀m∈([2,3,5]:List Int),0<m/\m<1000000:=by decide
  show this dn hdn
 show{ad,_,5,AA.of (by rw[m9 ad nad];show zF),hda,?_};let s2:Sm t H1 H2:=(Sm.laid ed).trans (Bi m9);let hpl2:=s2 _ _ nH mI;show⟨_,rfl,t,p,N+3,3,rfl,T2,(),by decide,by decide,λr3 H3 _ _ Tw he3=>?_⟩;show{5,?_};let s3:Sm t H2 H3:=Bi he3;let hpl3:=s3 _ _ nH hpl2;show{G8,λD hD=>?_};let nD:=(Tw.ne hD).1;let nDp:=(Tw.ne hD).2;let me:Sm t H H3:=s1.trans (s2.trans s3);let hD0:H D=none:=by
  cases q:H D with
  | none=>rfl
  | some o=>rw[me _ _ nD q] at hD;cases hD
 let npD:pl≠D:=zp hpl3 hD;let W0:WF H t p D pl L (N+4) 0 1 (upd H3 D (.lst [])):={me.trans (Sm.laid hD),Tw.laid hD,zG hD _ _ hpl3,[],[],zF,trivial,TR.nil 1,zL _};generalize upd H3 D (.lst [])=H4 at W0 ⊢;show⟨_,rfl,1,1+r0,rfl,{by decide,by decide,(),()},Es (lo:=1) (n:=(1+r0-1).toNat) (λi σ H5=>El λ(vb vs:Option V)=>σ=[some (.ref t),some (.int most),some (.int (1+r0)),some (.ref pl),some (.int dn),some (.bl (decide (0<r3))),some (.ref D),vb,vs]/\∃m,2*m<=i*(i+1)/\WF H t p D pl L (N+4+30*i) m (1+i) H5) ⟨none,none,rfl,0,(),(by rw[show (1:Int)+((0:Nat):Int)=1 from rfl];show W0)⟩ ?turn ?after⟩
 case turn=>
  rintro i σ H5 hi ⟨vb,vs,rfl,m,hm,W⟩;show⟨_,rfl,1+(i:Int),rfl,(),(),[.ref t,.int dn],rfl,λD1 mM=>?_⟩;let n1t:=(W.tp.ne mM).1;let n1p:=(W.tp.ne mM).2;show Dw (lo:=0) (n:=(1+(i:Int)).toNat) (λj ys H6=>j<=1+i/\(∃as:List Int,ys=as.map V.int/\(∀a∈as,0<=a/\a<j)/\as.Nodup/\as.length<=j)/\BL H6 t p (N+4+30*i+j)/\Sm t H5 H6/\H6 D1=some (.lst ys))
   {zd _,{[],0,by simp,List.nodup_nil,zL _},W.tp.laid mM,Sm.laid mM,zF} (λj ys H6 z=>?_) (λj ys H6 hj z=>?_) (λys H6 z=>?_)
  . let{_,{as,0,3,hk},_}:=z;rw[zA];show BJ ()
  . let{_,{as,0,ha,nd,hk},T6,s6,mZ}:=z;rw[CC];show{{2},?_};show{4,t,p,_,dn,0,T6,(),mX.1,mX.2,λr7 H7 _ _ T7 he7=>?_};let s7:Sm t H6 H7:=Bi he7;let oR:=s7 _ _ n1t mZ;show{6,?_};show BU (λ_=>?_) (λ_=>?_)
    . show{1,oR,(),{as++[(j:Int)],by rw[zO];rfl,λa q=>?_,?_,by rw[zS];simp;lia},T7.upd n1t n1p,(s6.trans s7).chg mM,zF}
      . rcases Bu.mp q with z | z
        . let:=ha a z;lia
        . rw[zf.mp z];lia
      . show List.nodup_append.mpr {nd,by simp,λa q b z e=>by rw[zf.mp z] at e;let:=ha a q;lia}
    . show{(),{as,0,λa q=>by let:=ha a q;lia,nd,()},T7,s6.trans s7,oR}
  . let{_,{as,0,ha,nd,hk},T6,s6,mZ}:=z;let W6:=W.on nD nH s6 T6;let hDa:=mZ;let npD1:D1≠t:=n1t;show{4,?_};show BU (λ_=>?a) (λ_=>?c)
    case' a=>
     show{1,G8,λe0 pB=>?_};let W7:=W6.on nD nH (Sm.laid (o:=.lst []) pB) (W6.tp.laid pB);let oR:=zG (o:=.lst []) pB _ _ mZ;let h00:(upd H6 e0 (.lst [])) e0=some (.lst []):=zF;generalize upd H6 e0 (.lst [])=H7 at W7 oR h00 ⊢;show{D1,e0,_,2,AA.of oR,AA.of h00,1,?_};show BU (λ_=>?a1) (λ_=>?a2)
    case' a1=>
     show⟨_,rfl,_,rfl,t,p,_,1+(i:Int),rfl,W7.tp,(),(),(),λr8 H8 h80 h81 T8 he8=>?_⟩;let W8':=W7.on nD nH (Bi he8) T8;show{FK,λD2 ke=>?_};let nD2:=(W8'.tp.ne ke).1;let W8:WF H t p D pl L (N+4+30*i+(i+2)) m (1+i) (upd H8 D2 (.lst [.int r8])):=W8'.on nD nH (Sm.laid (o:=.lst [.int r8]) ke) ((W8'.tp.laid ke).mono ());obtain⟨U,lX,lG,nd',mW⟩:∃U:List Int,(upd H8 D2 (.lst [.int r8])) D2=some (.lst (U.map V.int))/\(∀a∈U,0<=a/\a<1+(i:Int))/\U.Nodup/\U.length<=i+1:={[r8],zF,λa q=>by rw[zf.mp q];show⟨h80,h81⟩,by simp,by simp};generalize upd H8 D2 (.lst [.int r8])=H9 at W8 lX ⊢
    case' a2=>
     obtain⟨U,lX,lG,nd',mW⟩:∃U:List Int,H7 D1=some (.lst (U.map V.int))/\(∀a∈U,0<=a/\a<1+(i:Int))/\U.Nodup/\U.length<=i+1:={as,oR,λa q=>by let:=ha a q;lia,nd,()};let W8:WF H t p D pl L (N+4+30*i+(i+2)) m (1+i) H7:=W7.on nD nH (Sm.refl _ _) (W7.tp.mono ());let nD2:=n1t;clear ha nd hk oR h00 hDa npD1;generalize H7=H9 at W8 lX ⊢;generalize D1=D2 at lX nD2 ⊢
    case' c=>
     show Ao ?_;obtain⟨U,lX,lG,nd',mW⟩:∃U:List Int,H6 D1=some (.lst (U.map V.int))/\(∀a∈U,0<=a/\a<1+(i:Int))/\U.Nodup/\U.length<=i+1:={as,mZ,λa q=>by let:=ha a q;lia,nd,()};let W8:WF H t p D pl L (N+4+30*i+(i+2)) m (1+i) H6:=W6.on nD nH (Sm.refl _ _) (W6.tp.mono ());let nD2:=n1t;clear ha nd hk hDa npD1;generalize H6=H9 at W8 lX ⊢;generalize D1=D2 at lX nD2 ⊢
    all_goals
     let{ys9,ts9,hD9,TA9,tr9,hl9}:=W8.ties;show{1,.inl {0,_,AA.of hD9},1,D2,0,{_,AA.of lX},[.int (1+(i:Int)),.ref pl,.ref t],0,λD3 lA=>?_};let nD3:=W8.tp.ne lA;show DJ (a:=D2) (xs:=U.map V.int) (λj ys Ha=>∃us:List T3,us.map (·.1)=U.take j/\(∀u∈us,u.2.1=1+(i:Int)/\1<=u.2.2/\u.2.2<=99)/\Ha D3=some (.lst ys)/\Ae Ha ys (us.map tl)/\BL Ha t p (N+4+30*i+(i+2)+j)/\Sm t H9 Ha)
      {[],0,by simp,zF,trivial,W8.tp.laid lA,Sm.laid lA} (λj ys Ha z=>?_) (λj ys Ha z=>?_) (λj x ys Ha hx z=>?_) (λys Ha z=>?_)
     . let{3,3,3,sa}:=z;show AA.of (sa _ _ nD2 lX)
     . let{us,e1,3,TA,_}:=z;let e3:=TA.length;rw[zA] at e3;let e4:=congrArg List.length e1;rw[zA,zi] at e4;show BJ ()
     . let{us,e1,hus,hDa,TA,TP,sa}:=z;rw[zK] at hx;cases hxa:U[j]? with
       | none=>rw[hxa] at hx;cases hx
       | some av=>
       rw[hxa] at hx;cases hx;let hjl:j<U.length:=(zH.mp hxa).1;let hLn:0<((L.map V.int).length:Int)/\((L.map V.int).length:Int)<1000000:=by rw[zA];lia
       let lZ:=sa _ _ nH W8.pool;show{{2},?_};show A7 ?_;show{1,4,4,pl,1,.inl (AA.of lZ),t,p,7,TP,(),hLn.1,hLn.2,λrb Hb g0 g1 Tb heb=>?_};let sb:Sm t Ha Hb:=Bi heb;let{lg,hlg,oN}:=SJ (L:=L) g0 (by rw[zA] at g1;show g1);show{pl,_,5,AA.of (sb _ _ nH lZ),oN,?_};show{GH,λq hq=>?_};let hDb:=sb _ _ nD3.1 hDa;let nDq:D3≠q:=zp hDb hq;show{by rw[zg nDq];show hDb,us++[(av,1+(i:Int),lg)],?_,λu hu=>?_,zF,?_,?_,?_}
       . rw[zO,e1,ze,hxa];rfl
       . rcases Bu.mp hu with z | z
         . show hus u z
         . rw[zf.mp z];show{0,hL lg hlg}
       . rw[zO];show (TA.keep λc zs e=>?_).snoc {q,0,by rw[zg nDq.symm,zF];rfl,by simp[tl]};let e':=sb _ _ (TP.neT e) e;rw[zg (AJ e' hDb (by intro z;cases z)),zg (zp e' hq)];show e'
       . show ((Tb.laid hq).upd nD3.1 nD3.2).mono ()
       . show (sa.trans (sb.trans (Sm.laid hq))).chg lA
     . let{us,e1,hus,hDa,TA,TP,sa}:=z;rw[zA,zR (zL _)] at e1;rw[zA] at TP;let hul:us.length=U.length:=by rw[<-e1,zA]
       let hDDa:=sa _ _ nD hD9;let h9l:=TA9.length;let hal:=TA.length;rw[zA] at h9l hal;let hii:i<=10:=()
       let hmm:i*(i+1)<=10*11:=Nat.mul_le_mul hii ();show{D,D3,5,hDDa,hDa,FH (BJ ()),?_};show{7,m+(i+1),?_,?_}
       . let:(i+1)*(i+1+1)=i*(i+1)+2*(i+1):=by rw[Nat.mul_comm (i+1) (i+1+1),Nat.add_mul (i+1) 1,Nat.add_mul i 1 (i+1)];lia
         lia
       . show{(W8.sm.trans sa).chg hD0,(TP.upd nD nDp).mono (),by rw[zg npD];show sa _ _ nH W8.pool,_,ts9++us,zF,?_,?_,by rw[zS];lia}
         . rw[zO];show bR (TA9.keep λc zs e=>?_) (TA.keep λc zs e=>?_)
           . let e':=sa _ _ (W8.tp.neT e) e;rw[zg (AJ e' hDDa (by intro z;cases z))];show e'
           . rw[zg (AJ e hDDa (by intro z;cases z))];show e
         . rw[show (1:Int)+((i+1:Nat):Int)=(1+(i:Int))+1 by lia];show tr9.more (λu hu=>?_) (by rw[e1];show nd');let h1:=lG u.1 (by rw[<-e1];show List.mem_map_of_mem hu);let h2:=hus u hu;show⟨h1.1,h1.2,h2⟩
 case after=>
  rintro σ H5 ⟨vb,vs,rfl,m,hm,W⟩;let{ys,ts,k7,TA,tr,hl5}:=W.ties;let hii:(1+r0-1).toNat<=10:=()
  let hmm:(1+r0-1).toNat*((1+r0-1).toNat+1)<=10*11:=Nat.mul_le_mul hii ();show{4,D,ys,ts.map tl,0,AA.of k7,TA,by rw[zA];lia,λl us ms hl TA4 mi nM=>?_};show{l,us,0,.inl {AA.of zF,λta lE=>?_}};obtain⟨ku,pF,hpt⟩:∃ku:List T3,ku.map tl=ms/\ku.Perm ts:=by
   show{ms.map λk=>(k.getD 0 0,k.getD 1 0,k.getD 2 0),?_,?_}
   . rw[DY]
     conv=>rhs;rw[<-List.map_id ms]
     show Hk λk hk=>?_;let{t',1}:=zy.mp (mi.mem_iff.mp hk);rfl
   . let:=mi.map λk:List Int=>((k.getD 0 0,k.getD 1 0,k.getD 2 0):T3);rw[DY] at this;let e:ts.map ((λk:List Int=>((k.getD 0 0,k.getD 1 0,k.getD 2 0):T3))∘tl)=ts:=by
      conv=>rhs;rw[<-List.map_id ts]
      show Hk λt' _=>rfl
     rw[e] at this;show this
  show{B7,λwa kc=>?_};let sl:=(zG (o:=.lst us) hl).trans (zG (o:=.tup us) lE);let sw:=sl.trans (zG (o:=.tup [.int (1+r0),.ref ta]) kc);let nwt:wa≠t:=(W.tp.ne (CI sl kc)).1;let h0:H wa=none:=by
   cases q:H wa with
   | none=>rfl
   | some o=>rw[sl _ _ (W.sm _ _ nwt q)] at kc;cases kc
  show k wa (1+r0) ku _ h0 () {ta,us,zF,zG kc _ _ zF,?_,?_} (by rw[pF];show nM) {p,(W.tp.same sw).mono ()} (W.sm.trans (Sm.of sw))
  . rw[pF];show TA4.keep λc zs e=>sw _ _ e
  . show{(),(),by rw[hpt.length_eq];lia,λt' ht'=>?_,?_}
    . let:=tr.1 t' (hpt.mem_iff.mp ht');let e:((1:Int)+((1+r0-1).toNat:Int))=1+r0:=()
      rw[e] at this;show this
    . show (List.Perm.pairwise_iff (R:=λs t:T3=>¬ (s.1=t.1/\s.2.1=t.2.1)) (λh e=>h ⟨e.1.symm,e.2.symm⟩) hpt).mpr tr.2
def BG {p:Prop}(h:c=true)(o:p):(if c=true then p else q):=by rwa[if_pos h]
def AL {p:Prop}(h:c=false)(o:q):(if c=true then p else q):=by rw[if_neg (by simp[h])];show o
inductive aq (vs:List V)(H:Hp)(Q:VK):Prop
 | mk:∀(wa:Addr)(n:Int)(ts:List T3)(p:Int),(vs=[.ref wa,.int p])->(Af H wa n ts)->(∀(l:Addr)(zs:List V)(ms:List (List Int))(H':Hp),AE H H'->H l=none->H' l=some (.lst zs)->Ae H' zs ms->ms.Perm (fd p ts)->DF ms->Q (.ref l) H')->aq vs H Q
def MB:Sp:=λo H Q _=>aq o H Q
def OA:zl ["web","place","found","a","b","long"] Rb.p (defScope Rb.s):=AK
def Si (wz:Ws P w K mg base PT C D):Fz P w K mg base 1 Rb MB:=by
 show wz.T.okZ OA λ_ _ A _ _ H vs Q E hr h=>?_;let{wa,n,ts,p,0,{ta,tys,kc,lE,TA,G},k}:=h;show{_,zN (AX (i:=2) OA.nd (BA zJ))
  (zN (Bn (Bo (zm AM (pv 0) zb)) (DN rfl (Ag (Ay (i:=3) OA.nd) (Ag (Ay (i:=4) OA.nd) (Ag (Ay (i:=5) OA.nd) CK))))
   (zN (AU (zt Am (pv 3) (pv 1) (zw _)) (zX (Ca (BE PySem.F.plainAttrs_list PySem.F.slot_list_append PySem.F.type_list_append Ej (pv 2) (zB (BY (zB (pv 4) (zB (pv 5) zJ))) zJ)))) AV)
   (zX (AU (zt Am (pv 4) (pv 1) (zw _)) (zX (Ca (BE PySem.F.plainAttrs_list PySem.F.slot_list_append PySem.F.type_list_append Ej (pv 2) (zB (BY (zB (pv 3) (zB (pv 5) zJ))) zJ)))) AV))))
  (zX (zu (AZ OO wz.mSorted (zB (pv 2) zJ))))),?_}
 show{zd _,λl hl=>?_};let hwl:wa≠l:=zp kc hl;let htl:ta≠l:=zp lE hl;let kS:tys.length=ts.length:=by rw[TA.length,zA]
 show{1,wa,_,5,AD.of (by rwa[zg hwl]),0,ta,0,{_,AD.of (by rwa[zg htl])},Uw (K:=K) (a:=ta) (xs:=tys)
  (λi σ H2=>Vl λ(va vb vl:Option V)(xs:List V)=>σ=[some (.ref wa),some (.int p),some (.ref l),va,vb,vl]/\AE H H2/\H2 l=some (.lst xs)/\Ae H2 xs (fd p (ts.take i)))
  {none,none,none,[],0,zG hl,zF,trivial} (λi σ H2 _ ⟨_,_,_,_,_,s2,_⟩=>AD.of (s2 _ _ lE)) ?turn ?after}
 case turn=>
  rintro i y σ H2 hi ⟨va,vb,vl,xs,rfl,s2,U,T2⟩;let{ya,ky,0,mD,mH,_}:=TA.get hi;rw[zK] at mD;obtain⟨⟨a,b,c⟩,hti,rfl⟩:∃t:T3,ts[i]?=some t/\tl t=ky:=by
   cases e:ts[i]? with
   | none=>rw[e] at mD;cases mD
   | some t=>rw[e] at mD;show{t,0,zT mD}
  let hil:i<ts.length:=(zH.mp hti).1;let hlen:∀{I:List V}{H3:Hp},Ae H3 I (fd p (ts.take i))->I.length<sizeLine:=λT=>by let e1:=T.length;let e2:=Rn (n:=n) p (ts:=ts.take i) λt ht=>(G.rng t (List.mem_of_mem_take ht)).2.1;rw[zi] at e2;show BJ (by let:=G.len;lia)
  let hfd:fd p (ts.take (i+1))=fd p (ts.take i)++((if a=p then [[b,c]] else [])++(if b=p then [[a,c]] else [])):=by
   rw[ze,hti,Yt];change _++((if a=p then [[b,c]] else [])++(if b=p then [[a,c]] else [])++[])=_
   rw[BW]
  let hab:a<b:=(G.rng _ (zQ hti)).2.1;show{ya,1,AD.of (s2 _ _ mH),0,7,7,5,?_};let app:∀{x:Int},∀q,H2 q=none->∃I,(upd (upd H2 q (.tup [.int x,.int c])) l (.lst (xs++[.ref q]))) l=some (.lst I)/\AE H (upd (upd H2 q (.tup [.int x,.int c])) l (.lst (xs++[.ref q])))/\Ae (upd (upd H2 q (.tup [.int x,.int c])) l (.lst (xs++[.ref q]))) I (fd p (ts.take i)++[[x,c]]):=by intro x q hq;let J:l≠q:=zp U hq;show{_,zF,A4 (s2.trans (zG hq)) hl,(T2.keep λe ys he=>?_).snoc {q,0,by rw[zg J.symm,zF];rfl,by simp}};rwa[zg (AJ he U (by intro z;cases z)),zg (zp he hq)]
  show{1,8,?_};show BU (λh1=>?_) (λh1=>?_)
  . let e1:a=p:=by let:=of_decide_eq_true h1;injection this
    let n2:¬ b=p:=()
    show{1,.inl {0,_,AA.of U},4,B7,λq hq=>?_};let J:l≠q:=zp U hq;show{l,5,by rwa[zg J],hlen T2,?_};show{1,8,?_};rw[show decide (V.int b=V.int p)=false from za λe=>n2 (by injection e)];show Ao ?_;let{I,g1,g2,g3}:=app (x:=b) q hq;show{_,3,I,0,g2,g1,?_};rwa[hfd,if_pos e1,if_neg n2]
  . let n1:¬ a=p:=λe=>by let:=h1;rw[e] at this;show this (zY rfl)
    show{1,8,?_};show BU (λh2=>?_) (λh2=>?_)
    . let e2:b=p:=by let:=of_decide_eq_true h2;injection this
      show{1,.inl {0,_,AA.of U},4,B7,λq hq=>?_};let J:l≠q:=zp U hq;show{l,5,by rwa[zg J],hlen T2,?_};let{I,g1,g2,g3}:=app (x:=a) q hq;show{_,3,I,0,g2,g1,?_};rwa[hfd,if_neg n1,if_pos e2]
    . let n2:¬ b=p:=λe=>by let:=h2;rw[e] at this;show this (zY rfl)
      show{_,3,xs,0,s2,U,?_};rwa[hfd,if_neg n1,if_neg n2,BW,BW]
 case after=>
  rintro σ H2 ⟨va,vb,vl,xs,rfl,s2,U,T2⟩;rw[kS,zR (zL _)] at T2;let e2:=Rn (n:=n) p (ts:=ts) λt ht=>(G.rng t ht).2.1;show{1,l,xs,fd p ts,0,AA.of U,T2,by let:=G.len;lia,λl' zs ms k9 T3 hp hrs=>?_};let nll:l'≠l:=λe=>by rw[e,U] at k9;cases k9
  let m7:H l'=none:=by
   cases q:H l' with
   | none=>rfl
   | some o=>have:=s2 l' o q;rw[k9] at this;cases this
  show k l' zs ms _ (s2.trans (zG k9)) m7 zF (T3.keep λe ys he=>zG k9 _ _ he) hp hrs
inductive aK (vs:List V)(H:Hp)(Q:VK):Prop
 | mk:∀(wa:Addr)(n:Int)(ts:List T3)(one other:Int),(vs=[.ref wa,.int one,.int other])->(Af H wa n ts)->(∀(r:V)(H':Hp),AE H H'->((∃l,Aw ts one other l/\r=.int l)\/((∀l,¬ Aw ts one other l)/\r=.non))->Q r H')->aK vs H Q
def KJ:Sp:=λo H Q _=>aK o H Q
def jD (h:DF ms)(U:∀k∈ms,∃y l,k=[y,l])(J:(ms.map hd).Nodup):(ms.map hd).Pairwise (· < ·):=by
 rw[DK];rw[List.Nodup,DK] at J;let both:ms.Pairwise λa b=>HT.lexLt b a=false/\hd a≠hd b:=by rw[EZ];intro i j hi hj I;show{EZ.mp h i j hi hj I,EZ.mp J i j hi hj I}
 show both.imp_of_mem λ{a b} ha hb o=>?_;let{y,l,0}:=U a ha;let{z,m,0}:=U b hb;let{h1,h2}:=o;let C:y≠z:=h2;rw[HT.lexLt_cons,if_neg (Ne.symm C)] at h1;let:=of_decide_eq_false h1;change y<z
 lia
def VQ:zl ["web","one","other","place","long"] RZ.p (defScope RZ.s):=AK
def RS (wz:Ws P w K mg base PT C D):Fz P w K mg base 2 RZ KJ:=by
 show wz.Lo.okZ VQ λ_ _ A _ _ H vs Q E hr h=>?_;let{wa,n,ts,one,other,0,W,k}:=h;show{_,zN (Bn (CQ (AF (Si wz) hr (zB (pv 0) (zB (pv 1) zJ)))) (DN rfl (Ag (Ay (i:=3) VQ.nd) (Ag (Ay (i:=4) VQ.nd) CK)))
  (zX (AU (zt Am (pv 3) (pv 2) (zw _)) (zX (zu (pv 4))) AV)))
  (zX (zu Ax)),?_}
 show{4,wa,n,ts,one,0,W,λl zs ms H1 s1 m7 k8 T1 hp _=>?_};show{l,0,{_,AA.of k8},Ng (K:=K) (a:=l) (xs:=zs) (λi σ I=>El λ(U J:Option V)=>σ=[some (.ref wa),some (.int one),some (.int other),U,J]/\I=H1/\∀j k,j<i->ms[j]?=some k->hd k≠other)
  {none,none,2,λj _ h=>()} (λi σ I _ ⟨_,_,_,e,_⟩=>e ▸ AA.of k8) ?turn ?after}
 case turn=>
  rintro i y σ I hi ⟨U,J,rfl,rfl,mQ⟩;let{ya,ky,0,mD,mH,_}:=T1.get hi;let hm:ky∈fd one ts:=hp.mem_iff.mp (zQ mD);let{z,c,0,ha}:=Gk.mp hm;show{ya,1,AD.of mH,0,7,5,?_};show{1,8,?_};show BU (λh1=>?_) (λh1=>?_)
  . let e1:z=other:=by let:=of_decide_eq_true h1;injection this
    subst e1;show{1,k _ _ s1 (.inl {c,ha,0})}
  . let n1:z≠other:=λe=>by let:=h1;rw[e] at this;show this (zY rfl)
    show{5,λj kj hj o=>?_};by_cases hji:j<i
    . show mQ j kj hji o
    . let e:j=i:=()
      subst e;rw[mD] at o;cases o;show n1
 case after=>
  rintro σ I ⟨U,J,rfl,rfl,mQ⟩;show k _ _ s1 (.inr {λc ha=>?_,0});let hm:[other,c]∈ms:=hp.mem_iff.mpr (Gk.mpr {other,c,0,ha});let{j,hj,e}:=CP hm;show mQ j _ (by let:=T1.length;lia) (by rw[zC hj,e]) rfl
def YK:∀(l:List Int),(l.map V.int).all Fc=true
 | []=>rfl
 | _::r=>by rw[Bg,List.all_cons,YK r];rfl
def bp :decide (V.int i=V.int j)=decide (i=j):=by
 by_cases h:i=j
 . subst h;simp
 . rw[za h,za λe=>h (by injection e)]
meta def WT:Pos:=⟨173,36,173,64⟩
meta abbrev V6:Str:=(("nearest" : Str) ++ ".<locals>.") ++ "<lambda>"
abbrev Tb (H:Hp)(PT:Addr):Prop:=Cf H PT WT V6
def LH (PT:Addr):Sp:=λI H Q _=>∃d n C o,I=[.ref d]/\H d=some (.dK C)/\WD n C o/\0<=n/\n<=24/\C≠[]/\Tb H PT /\
 ∀M e H',o M=some e->(∀q f,o q=some f->e<=f)->A0 H H'->Tb H' PT->Q (.int M) H'
inductive YL (PT:Addr)(vs:List V)(H:Hp)(Q:VK):Prop
 | mk:∀(wa:Addr)(n:Int)(ts:List T3)(s:Int),(vs=[.ref wa,.int s])->(Af H wa n ts)->(0<=s)->(s<n)->(Tb H PT)->(∀(l:Addr)(kn:List (Option Int))(H':Hp),A0 H H'->Tb H' PT->H' l=some (.tup (kn.map oV))->Fq ts n s kn->Q (.ref l) H')->YL PT vs H Q
def Kv (PT:Addr):Sp:=λo H Q _=>YL PT o H Q
def Af.smT (h:Af H wa n ts)(k:A0 H H'):Af H' wa n ts:=h.keepT λb o e=>by
 rcases k b _ e with ⟨C,z⟩ | z
 . cases z
 . show z
def KH:zl ["waiting"] OJ.p (defScope OJ.s):=AK
def fg (I:Ws P w K mg base PT C D):Fz P w K mg base 2 OJ (LH PT):=by
 let{f,fd',c,F,bN,mN,C0}:=I.Ne;show{f,fd',bN,mN,F.kp,?_};show F.ok KH (λvs H Q E h=>?_) (λA outer s H vs Q E hr h=>?_)
 . let{d,n,o,J,0,_}:=h;rfl
 . let{d,n,o,J,0,hd,W,hn0,hn,kb,T,k}:=h;show{_,zX (zu (iH (k:=0) (j:=0) (P:=PT) (c:=c) (dn := "waiting") (pn := "place") rfl hr rfl I.mMin (zB (AZ (eU rfl) I.mSorted (zB (pv 0) zJ)) zJ) rfl C0 I.hbm rfl rfl rfl rfl rfl (by decide +kernel) (d6 rfl) rfl rfl rfl (λ_ _ _ _ _ _ _=>rfl))),?_};let hl:=W.len hn0;show{1,d,o,F8 o,0,hd,W.keys,by unfold F8;rw[zA];lia,λl ms U hp _=>?_};let mem:∀x,x∈ms->∃e,J x=some e:=λx hx=>W.mem.mp (hp.mem_iff.mp hx);show{l,d,ms,o,λx=>(J x).getD 0,0,zF,λe=>?_,0,by rwa[zg (zp hd U)],λx hx=>?_,T.same (zG U),λM H2 hM hb sm T2=>?_}
   . subst e;let:=hp.length_eq;unfold F8 at this;rw[zA] at this;show kb (List.eq_nil_of_length_eq_zero this.symm)
   . let{e,he}:=mem x hx;change Ar o (Sum.inl x)=some (.int ((J x).getD 0));rw[W.at_ x,he];rfl
   . let{e,he}:=mem M hM;show k M e H2 he (λq f hq=>?_) ((A0.of (zG U)).trans sm) T2;let l9:q∈ms:=hp.mem_iff.mpr (W.mem.mpr ⟨f,hq⟩);let:=hb q l9;simp only[he,hq,Option.getD_some] at this;show this
def Jj:zl ["web","start","known","waiting","place","other","long","far"] SY.p (defScope SY.s):=AK
def eX {kn:List (Option Int)}:(kn.map oV).set j (oV o)=(kn.set j o).map oV:=by rw[List.map_set]
def N9 :decide (oV o=V.non)=o.isNone:=by
 cases o with
 | none=>rfl
 | some d=>show za (by intro e;cases e)
def eM (wz:Ws P w K mg base PT C D):Fz P w K mg base 3 SY (Kv PT):=by
 show wz.F.okZ Jj λ_ _ A _ _ H vs Q E hr h=>?_;let{wa,n,ts,st,0,W,hs0,oh,T,k}:=h;let{ta,tys,kc,3,G}:=id W;let hu:=RT hr;let oq:=G.n1;let mC:=G.n24;show{_,zN (AX (i:=2) Jj.nd (AQ YJ (BA (zB Ax zJ)) (zm AM (pv 0) zb)))
  (zN (AX (i:=3) Jj.nd (j9 (eZ (pv 1) zb gG) rfl rfl (by decide) (by decide)))
  (zN (Vi PassesOwn.never (My (pv 3) (λ_=>rfl))
   (zN (AX (i:=4) Jj.nd (AF (fg wz) hr (zB (pv 3) zJ)))
   (zN (Dx (jv (pv 3) (pv 4) {0,9}) (Fg (pv 2) (pv 4) Fi))
   (zX (Bn (CQ (AF (Si wz) hr (zB (pv 0) (zB (pv 4) zJ)))) (DN rfl (Ag (Ay (i:=5) Jj.nd) (Ag (Ay (i:=6) Jj.nd) CK)))
    (zX (AU (zt CS (zm zx (pv 2) (pv 5)) Ax (zw _))
     (zN (AX (i:=7) Jj.nd (AQ Bs (zm zx (pv 2) (pv 4)) (pv 6)))
     (zX (eD hu (pv 3) (pv 5) (AZ (OF rfl) wz.mMin (zB (pv 7) (zB (fC hu (pv 3) (pv 5) (pv 7) {0,9}) zJ))) rfl))) AV)))))))
  (zX (zu (Aq Ct wz.mTuple (zB (pv 2) zJ)))))),?_}
 show{FK,λl0 m7=>?_};show{1,wa,_,5,AD.of (zG m7 _ _ kc),0,l0,n,_,2,zF,(),(),?_,λI hkl=>?_}
 . let:sizeLine=16777216:=rfl;change 1*n.toNat<=sizeLine
   lia
 let s1:AE H (upd (upd H l0 (.lst [.non])) I (.lst (List.replicate n.toNat [V.non]).flatten)):=(zG m7).trans (zG hkl);let erep:(List.replicate n.toNat [V.non]).flatten=(List.replicate n.toNat (none:Option Int)).map oV:=by
  generalize n.toNat=m
  induction m with
  | zero=>rfl
  | succ m ih=>rw[Hs,List.flatten_cons,ih,Hs];rfl
 rw[erep] at s1 ⊢;let hk1:(upd (upd H l0 (.lst [.non])) I (.lst ((List.replicate n.toNat (none:Option Int)).map oV))) I=some (.lst ((List.replicate n.toNat (none:Option Int)).map oV)):=zF;generalize hH1:upd (upd H l0 (.lst [.non])) I (.lst ((List.replicate n.toNat (none:Option Int)).map oV))=H1 at s1 hk1 ⊢;intro J hwd;show{1,zF,[(Sum.inl st,.int 0)],0,by change 1<=15;decide,?_};let s2:AE H (upd (upd H1 J (.dK [])) J (.dK [(Sum.inl st,.int 0)])):=by rw[Bp];show s1.trans (zG hwd)
 let nkw:I≠J:=zp hk1 hwd;rw[show NG [] [((Sum.inl st:AS),V.int 0)]=[((Sum.inl st:AS),V.int 0)] from rfl,Bp];rw[Bp] at s2;show{λm σ H2=>∃(U:List (Option Int))(kR:List (AS×V))(wt:Int->Option Int)(v4 v5 v6 v7:Option V),σ=[some (.ref wa),some (.int st),some (.ref I),some (.ref J),v4,v5,v6,v7]/\m=n.toNat-Ce U/\A0 H H2/\Tb H2 PT/\H2 I=some (.lst (U.map oV))/\H2 J=some (.dK kR)/\WD n kR wt/\Dl ts n st U wt,
  {3,3,3,5,A0.of s2,T.same s2,by rwa[zg nkw],zF,WD.one hs0 oh,Dl.start G hs0 oh},?_}
 rintro m σ H2 ⟨U,kR,wt,v4,v5,v6,v7,rfl,rfl,sm,T2,hk2,oI,WW,D⟩;cases hkb:kR.isEmpty with
 | true=>
  show{1,false,.inr (.inr {kR,oI,by rw[hkb];rfl}),?_};show Ao ?_;let o5:kR=[]:=List.isEmpty_iff.mp hkb;let hnone:∀q,wt q=none:=λq=>by
   cases e:wt q with
   | none=>rfl
   | some d=>have:=WW.mem.mpr ⟨d,e⟩;rw[o5] at this;simp[F8] at this
  show{1,I,1,.inl {AA.of hk2,λq hq=>?_}};show k q U _ (sm.trans (A0.of (zG hq))) (T2.same (zG hq)) zF (D.done G hnone)
 | false=>
  show{1,true,.inr (.inr {kR,oI,by rw[hkb];rfl}),?_};show CB ?_;let kb:kR≠[]:=by intro e;rw[e] at hkb;cases hkb
  show{λσ' H'=>∃(kn':List (Option Int))(lN:List (AS×V))(mO:Int->Option Int)(v4 v5 v6 v7:Option V),σ'=[some (.ref wa),some (.int st),some (.ref I),some (.ref J),v4,v5,v6,v7]/\Ce kn'=Ce U+1/\A0 H H'/\Tb H' PT/\H' I=some (.lst (kn'.map oV))/\H' J=some (.dK lN)/\WD n lN mO/\Dl ts n st kn' mO,?_,?_}
  . rintro σ' H' ⟨kn',lN,mO,v4',v5',v6',v7',rfl,hc,sm',T',mW,hw',WW',D'⟩;let h1:=Uu kn';let h2:=D'.ln;show{n.toNat-Ce kn',(),kn',lN,mO,v4',v5',v6',v7',2,sm',T',mW,hw',WW',D'}
  show{1,J,n,kR,wt,0,oI,WW,(),mC,kb,T2,λM e H3 hM lD sm3 T3=>?_};let hk3:H3 I=some (.lst (U.map oV)):=sm3.get hk2 (by intro ps z;cases z);let hw3:H3 J=some (.dK kR):=sm3.get oI (by intro ps z;cases z);let{hknM,hM0,hM1,hcnt,N0}:=D.enter G hM lD;let n9:Ar kR (Sum.inl M)=some (.int e):=by rw[WW.at_ M,hM];rfl
  show{1,J,0,.inl {kR,.inl hw3},1,kR,Sum.inl M,_,hw3,0,n9,?_};let hlk:(U.map oV).length=n.toNat:=by rw[zA];show D.ln
  let hk3':(upd H3 J (.dK (Bv kR (Sum.inl M)))) I=some (.lst (U.map oV)):=by rwa[zg nkw]
  show{4,I,_,M,M.toNat,2,hk3',Rj hM0 (by rw[hlk];lia),?_};rw[show V.int e=oV (some e) from rfl,eX];let sm4:A0 H (upd (upd H3 J (.dK (Bv kR (Sum.inl M)))) I (.lst ((U.set M.toNat (some e)).map oV))):=by
   intro b o hb;rcases (sm.trans sm3) b o hb with z | z
   . show .inl z
   . right;let n1:b≠J:=λq=>by
      let hbn:H b=none:=by
       rw[q];cases e':H J with
       | none=>rfl
       | some o'=>have:=s1 J o' e';rw[hwd] at this;cases this
      rw[hbn] at hb;cases hb
     let n2:b≠I:=λq=>by
      let hbn:H b=none:=by
       rw[q];cases e':H I with
       | none=>rfl
       | some o'=>have:=zG (o:=.lst [.non]) m7 I o' e';rw[hkl] at this;cases this
      rw[hbn] at hb;cases hb
     rwa[zg n2,zg n1]
  let T4:Tb (upd (upd H3 J (.dK (Bv kR (Sum.inl M)))) I (.lst ((U.set M.toNat (some e)).map oV))) PT:=by
   show T3.keep (λo ho=>?_) λc φ hc=>?_
   . let{ps,oA,_}:=T3;let e1:=ho;rw[oA] at e1;cases e1;rwa[zg (AJ ho hk3 (by intro z;cases z)),zg (AJ ho hw3 (by intro z;cases z))]
   . rwa[zg (AJ hc hk3 (by intro z;cases z)),zg (AJ hc hw3 (by intro z;cases z))]
  let hk4:(upd (upd H3 J (.dK (Bv kR (Sum.inl M)))) I (.lst ((U.set M.toNat (some e)).map oV))) I=some (.lst ((U.set M.toNat (some e)).map oV)):=zF;let hw4:(upd (upd H3 J (.dK (Bv kR (Sum.inl M)))) I (.lst ((U.set M.toNat (some e)).map oV))) J=some (.dK (Bv kR (Sum.inl M))):=by rw[zg nkw.symm,zF]
  generalize upd (upd H3 J (.dK (Bv kR (Sum.inl M)))) I (.lst ((U.set M.toNat (some e)).map oV))=H4 at sm4 T4 hk4 hw4 ⊢;show{4,wa,n,ts,M,0,W.smT sm4,λl zs ms H5 s5 hl5 hl5' T5 hp _=>?_};let hlz:=T5.length;show{l,0,{_,AA.of hl5'},Ng (K:=K) (a:=l) (xs:=zs) (λi σ H6=>S6 λ(lN:List (AS×V))(mO:Int->Option Int)(v5 v6 v7:Option V)=>σ=[some (.ref wa),some (.int st),some (.ref I),some (.ref J),some (.int M),v5,v6,v7]/\(∀b o,b≠J->H5 b=some o->H6 b=some o)/\H6 J=some (.dK lN)/\WD n lN mO/\Dn ts n st M e (U.set M.toNat (some e)) mO (λr=>∃j k,j<i/\ms[j]?=some k/\hd k=r))
   {_,3,7,λ_ _ _ z=>z,s5 _ _ hw4,WW.drop,{{N0.dm.kd,N0.dm.wk,N0.dm.ord,λq e' r l' hq ha=>(N0.dm.nb q e' r l' hq ha).imp (λz=>{z.1,λ⟨j,_,hj,_⟩=>absurd hj (Eu _)}) id,N0.dm.st,N0.dm.pd,N0.dm.mx},N0.ln,N0.bk,N0.bd,N0.bw}}
   (λi σ H6 _ ⟨_,_,_,_,_,_,s6,_⟩=>AA.of (s6 l _ (AJ hl5' (s5 _ _ hw4) (by intro z;cases z)) hl5')) ?turn ?after}
  case after=>
   rintro σ H6 ⟨lN,mO,v5,v6,v7,rfl,s6,hw6,WW6,N6⟩;let hk5:H5 I=some (.lst ((U.set M.toNat (some e)).map oV)):=s5 _ _ hk4;show{_,lN,mO,3,7,hcnt,?_,?_,s6 I _ nkw hk5,hw6,WW6,N6.leave λr c ha=>?_}
   . intro b o hb;rcases (sm4.trans (A0.of s5)) b o hb with z | z
     . show .inl z
     . right;show s6 b o (λq=>?_) z;let hbn:H b=none:=by
        rw[q];cases e':H J with
        | none=>rfl
        | some o'=>have:=s1 J o' e';rw[hwd] at this;cases this
       rw[hbn] at hb;cases hb
   . show (T4.same s5).keep (λo ho=>?_) λc φ hc=>?_
     . let{ps,oA,_}:=T4.same s5;show s6 PT o (λq=>?_) ho;rw[q,s5 _ _ hw4] at oA;cases oA
     . show s6 c _ (λq=>?_) hc;rw[q,s5 _ _ hw4] at hc;cases hc
   . let hm:[r,c]∈ms:=hp.mem_iff.mpr (Gk.mpr {r,c,0,ha});let{j,hj,ej}:=CP hm;show{j,[r,c],(),by rw[zC hj,ej],0}
  case turn=>
   rintro i y σ H6 hi ⟨lN,mO,v5,v6,v7,rfl,s6,hw6,WW6,N6⟩;let{ya,ky,0,mD,mH,_}:=T5.get hi;let{r,c,0,ha}:=Gk.mp (hp.mem_iff.mp (zQ mD));let kg:=G.adj ha;let hk6:H6 I=some (.lst ((U.set M.toNat (some e)).map oV)):=s6 I _ nkw (s5 _ _ hk4);let hln:(U.set M.toNat (some e)).length=n.toNat:=N6.ln;let seen_of:∀{x:Int},(x=r\/∃j k,j<i/\ms[j]?=some k/\hd k=x)->∃j k,j<i+1/\ms[j]?=some k/\hd k=x:=λ{x} z=>by
    rcases z with rfl | ⟨j,k',hj,mW,e'⟩
    . show{i,[x,c],Nat.lt_succ_self _,mD,0}
    . show{j,k',E2 hj,mW,e'}
   let sub:∀{x:Int},(∃j k,j<i+1/\ms[j]?=some k/\hd k=x)->(∃j k,j<i/\ms[j]?=some k/\hd k=x)\/x=r:=λ{x} ⟨j,k',hj,mW,e'⟩=>by
    by_cases hji:j<i
    . show .inl ⟨j,k',hji,mW,e'⟩
    . let:j=i:=()
      subst this;rw[mD] at mW;cases mW;show .inr e'.symm
   let conv:∀{wt2:Int->Option Int},Dn ts n st M e (U.set M.toNat (some e)) wt2 (λx=>(∃j k,j<i/\ms[j]?=some k/\hd k=x)\/x=r)->Dn ts n st M e (U.set M.toNat (some e)) wt2 (λx=>∃j k,j<i+1/\ms[j]?=some k/\hd k=x):=λ{wt2} N=>
    {{N.dm.kd,N.dm.wk,N.dm.ord,λq e' r' l' hq lG=>(N.dm.nb q e' r' l' hq lG).imp (λz=>{z.1,λy=>z.2 (sub y)}) id,N.dm.st,N.dm.pd,N.dm.mx},N.ln,N.bk,N.bd,N.bw}
   show{ya,1,AD.of (s6 _ _ (AJ mH (s5 _ _ hw4) (by intro z;cases z)) mH),0,7,5,?_};obtain⟨o,ho⟩:∃o,(U.set M.toNat (some e))[r.toNat]?=some o:={_,zC ()};let hfnl:AY (U.set M.toNat (some e)) r=o:=by unfold AY;rw[if_pos kg.2.2.1,zE,ho];rfl
   show{4,I,3,oV o,2,AA.of hk6,Ac kg.2.2.1 (by rw[zK,ho];rfl),6,?_};rw[N9];cases o with
   | some f0=>show Ao ?_;show{lN,mO,_,7,s6,hw6,WW6,conv (N6.skip hfnl)}
   | none=>
    show CB ?_;let hkM:(U.set M.toNat (some e))[M.toNat]?=some (some e):=by rw[List.getElem?_set_self (by let:=D.ln;lia)]
    show{4,I,3,oV (some e),2,AA.of hk6,Ac hM0 (by rw[zK,hkM];rfl),1,5,?_};show{4,J,0,.inl {lN,.inl hw6},4,_,Ed.k (k:=Sum.inl r) hw6,?_};let hg:((Ar lN (Sum.inl r)).getD (V.int (e+c)))=V.int ((mO r).getD (e+c)):=by rw[WW6.at_ r];cases mO r <;> rfl
    rw[hg];show{7,?_};let hwl:=WW6.len ();show{4,J,1,FV.k (k:=Sum.inl r) hw6 (BJ ()),?_};show{_,3,7,λb o' hb z=>by rw[zg hb];show s6 b o' hb z,zF,WW6.put kg.2.2.1 kg.2.2.2.1,conv (N6.wait G ha hfnl)}
inductive YC (vs:List V)(H:Hp)(Q:VK):Prop
 | mk:∀(lh lt:Addr)(n:Int)(ts:List T3)(x y:Int)(nI kn2:List (Option Int)),(vs=[.ref lh,.ref lt,.int y])->(GW n ts)->(0<=x)->(x<n)->(0<=y)->(y<n)->(H lh=some (.tup (nI.map oV)))->(H lt=some (.tup (kn2.map oV)))->(Fq ts n x nI)->(Fq ts n y kn2)->(∀(l:Addr)(xs:List Int)(H':Hp),AE H H'->H' l=some (.tup (xs.map V.int))->xs.Pairwise (· < ·)->(∀p,p∈xs↔Be ts x y p)->Q (.ref l) H')->YC vs H Q
def QO:Sp:=λo H Q _=>YC o H Q
inductive Yz (vs:List V)(H:Hp)(Q:VK):Prop
 | mk:∀(wa lt:Addr)(n:Int)(ts:List T3)(x y:Int)(kn:List (Option Int)),(vs=[.ref wa,.int x,.ref lt])->(Af H wa n ts)->(0<=x)->(x<n)->(0<=y)->(y<n)->(H lt=some (.tup (kn.map oV)))->(Fq ts n y kn)->(∀(l:Addr)(xs:List Int)(H':Hp),AE H H'->H' l=some (.tup (xs.map V.int))->xs.Pairwise (· < ·)->(∀p,p∈xs↔B8 ts x y p)->Q (.ref l) H')->Yz vs H Q
def QR:Sp:=λo H Q _=>Yz o H Q
def Fx (h:Fq ts n s kn)(h0:0<=y)(I:y<n):(kn.map oV)[y.toNat]?=some (oV (AY kn y)):=by
 let C:=h.ln;let o:y.toNat<kn.length:=()
 rw[zK,zC o];unfold AY;rw[if_pos h0,zE,zC o];rfl
def aM (q):lowTo (q+1)=lowTo q++[(q:Int)]:=by unfold lowTo;rw[List.range_succ,zO];rfl
def Ht (q):(lowTo q).length=q:=by unfold lowTo;rw[zA,Gq]
def JI:zl ["here","there","other","reached"] Hg.p (defScope Hg.s):=AK
def MC (wz:Ws P w K mg base PT C D):Fz P w K mg base 1 Hg QO:=by
 show wz.Bw.okZ JI λf km A outer s H2 vs Q E hr h=>?_
 . let{lh,lt,n,ts,x,y,J,kn2,0,G,hx0,hx1,hy0,hy1,hh2,kY,L1,L2,k}:=h;let mC:=G.n24;let hln:=L1.ln;show{_,zN (AU (zt CS (zm AM (pv 0) (pv 2)) Ax (zw _)) (zX (zu (BY zJ))) AV)
    (zN (DZ (i:=3) (own:=GI) (cn:=["here"]) (ci:=[0]) JI.nd rfl (Or.inl rfl) rfl (Ai rfl rfl) {9,trivial} rfl
     (CO rfl wz.mRange (zB (AZ CD wz.mLen (zB (pv 0) zJ)) zJ)) (λ_ _ _ _=>Ah)
     (λ_ _ _ _=>De (zt Nz (zm DL (pv 1) (pv 0)) Ax (zw _))) (λ_ _ _ _=>pv 0))
    (zX (zu (Aq Ct wz.mTuple (zB
     (BB (own:=GI) (cn:=["here","there","other"]) (ci:=[0,1,2]) rfl (Ai rfl rfl) {9,9,9,trivial} rfl
      (CQ (pv 3)) (λ_ _ _ _=>Ah)
      (λ_ _ _ _=>De (zt Am (AQ Bs (zm DL (pv 1) (pv 0)) (zm DL (pv 2) (pv 0))) (zm DL (pv 1) (pv 3)) (zw _)))
      (λ_ _ _ _=>pv 0)) zJ))))),?_}
   let hy:=L1.len y hy0 hy1;show{4,lh,3,oV (AY J y),2,AD.of hh2,Ac hy0 (Fx L1 hy0 hy1),6,?_};rw[N9];cases hd:AY J y with
   | none=>show CB ?_;rw[hd] at hy;show{zd _,λl hl=>k l [] _ (zG hl) zF JP λp=>{λz=>by simp at z,λ⟨a,b,_,_,z⟩=>absurd z.1 (hy _)}}
   | some d=>
    show Ao ?_;rw[hd] at hy;let hyD:WM.IsD ts x y d:=hy;show{1,lh,1,.inr (AD.of hh2),n,by rw[zA,hln];show congrArg (λz=>[V.int z]) (E8 ()),(),(),[.ref lh],0,λD hD=>?_};show Dw (lo:=0) (n:=n.toNat) (λq I H3=>q<=n.toNat/\I=((lowTo q).filter λo=>(AY J o).isSome).map V.int/\AE H2 H3/\H3 D=some (.lst I)) {zd _,0,zG hD,zF} (λq I H3 h=>?_) (λq I H3 hq h=>?_) (λI H3 h=>?_)
    . let{hq,0,_}:=h;rw[zA];show E9 (C7 _ _) (BJ ?_);rw[Ht];lia
    . let{1,s3,lA}:=h;rw[CC];show{{2},?_};show{4,lh,3,oV (AY J q),2,AD.of (s3 _ _ hh2),Ac () (Fx L1 () ()),6,?_};rw[N9];cases e:AY J q with
      | none=>show Ao ?_;show{hq,?_,s3,lA};rw[aM,Gf,Nj (by rw[e];decide),List.filter_nil,BW]
      | some a=>show CB ?_;show{1,lA,hq,?_,A4 s3 hD,zF};rw[aM,Gf,Np (by rw[e];rfl),List.filter_nil,zO];rfl
    . let{1,s3,lA}:=h;generalize hR:((lowTo n.toNat).filter λo=>(AY J o).isSome)=R at lA ⊢;let hRm:∀p,p∈R↔(0<=p/\p<n)/\∃a,AY J p=some a:=λp=>by
       rw[<-hR,CZ,Nm,N5];constructor
       . rintro ⟨z1,z2⟩;show{(),z2}
       . rintro ⟨z1,z2⟩;show{(),z2}
      let hRr:R.Pairwise (· < ·):=by rw[<-hR];show (Sl _).sublist List.filter_sublist
      let hRl:R.length<=24:=by rw[<-hR];show zn (C7 _ _) (by rw[Ht];lia)
      let both:∀p,p∈R->∃a b,AY J p=some a/\AY kn2 p=some b/\WM.IsD ts x p a/\WM.IsD ts p y b:=λp U=>by let{{h0,h1},a,ha}:=(hRm p).mp U;let l1:=L1.len p h0 h1;rw[ha] at l1;let{b,hb,_}:=A9.via (show WM.IsD ts x p a from l1) hyD (A9.symm (L2.len p h0 h1));let l2:=L2.len p h0 h1;rw[hb] at l2;show{a,b,ha,hb,l1,WM.IsD.symm l2}
      show{1,D,0,{_,AA.of lA},[.ref lh,.ref lt,.int y],0,λD2 ke=>?_};let nDD:D≠D2:=zp lA ke;show DJ (a:=D) (xs:=R.map V.int) (λi I H4=>I=((R.take i).filter λp=>decide ((AY J p).getD 0+(AY kn2 p).getD 0=d)).map V.int/\AE H3 H4/\H4 D2=some (.lst I)) {0,zG ke,zF} (λi I H4 h=>?_) (λi I H4 h=>?_) (λi v I H4 hv h=>?_) (λI H4 h=>?_)
      . let{_,s4,_}:=h;show AA.of (s4 _ _ lA)
      . let{0,_}:=h;rw[zA];show E9 (C7 _ _) (BJ ?_);rw[zi];lia
      . let{0,s4,ki}:=h;obtain⟨p,U,rfl⟩:∃p,R[i]?=some p/\V.int p=v:=by
         rw[zK] at hv;cases e:R[i]? with
         | none=>rw[e] at hv;cases hv
         | some p=>rw[e] at hv;show{p,0,zT hv}
        let hpR:=zQ U;let{{h0,h1},_}:=(hRm p).mp hpR;let{a,b,ha,hb,3}:=both p hpR;let hlh4:H4 lh=some (.tup (J.map oV)):=s4 _ _ (s3 _ _ hh2);let hlt4:H4 lt=some (.tup (kn2.map oV)):=s4 _ _ (s3 _ _ kY);show{{2},?_};show{4,lh,3,.int a,2,AD.of hlh4,Ac h0 (by rw[Fx L1 h0 h1,ha];rfl),?_};show{4,lt,3,.int b,2,AD.of hlt4,Ac h0 (by rw[Fx L2 h0 h1,hb];rfl),5,?_};show{4,lh,3,.int d,2,AD.of hlh4,Ac hy0 (by rw[Fx L1 hy0 hy1,hd];rfl),6,?_};rw[bp];let etk:(R.take (i+1)).filter (λp=>decide ((AY J p).getD 0+(AY kn2 p).getD 0=d))=(R.take i).filter (λp=>decide ((AY J p).getD 0+(AY kn2 p).getD 0=d))++(if a+b=d then [p] else []):=by
         rw[ze,U,Gf];change _++List.filter _ [p]=_;rw[GX,ha,hb];by_cases c:a+b=d
         . rw[if_pos (by simpa using c),if_pos c];rfl
         . rw[if_neg (by simpa using c),if_neg c];rfl
        show BU (λc=>?_) (λc=>?_)
        . let c':=of_decide_eq_true c;show{1,ki,?_,A4 s4 ke,zF};rw[etk,if_pos c',zO];rfl
        . let c':¬ a+b=d:=λz=>c (zY z);show{?_,s4,ki};rw[etk,if_neg c',BW]
      . let{0,s4,ki}:=h;rw[zA,zR (zL _)] at ki;show{D2,1,.inl {AA.of ki,λq hq=>?_}};show k q _ _ ((s3.trans s4).trans (zG hq)) zF (hRr.sublist List.filter_sublist) λp=>?_;rw[CZ];constructor
        . rintro ⟨U,c⟩;let{a,b,ha,hb,ia,ib}:=both p U;let c':=of_decide_eq_true c;rw[ha,hb] at c';show{a,b,ia,ib,by rwa[show a+b=d from c']}
        . rintro ⟨a,b,ia,ib,nJ⟩;let U:=ia.1.in_ G hx0 hx1;let l1:=A9.uniq (L1.len p U.1 U.2) (show A9 ts x p (some a) from ia);let l2:=A9.uniq (L2.len p U.1 U.2) (show A9 ts y p (some b) from WM.IsD.symm ib);show{(hRm p).mpr ⟨U,a,l1⟩,zY ?_};rw[l1,l2];show WM.IsD.uniq nJ hyD
def Og:zl ["web","one","there"] Hc.p (defScope Hc.s):=AK
meta def Kz (k:List Int):Int:=k.getD 1 0
def Yd (wz:Ws P w K mg base PT C D):Fz P w K mg base 2 Hc QR:=by
 show wz.Nb.okZ Og λf km A outer s H1 vs Q E hr h=>?_
 . let{wa,lt,n,ts,x,y,I,0,W,J,hx1,hy0,hy1,k8,L,k}:=h;let{ta,tys,kc,3,G}:=id W;show{_,zN (AU (zt CS (zm AM (pv 2) (pv 1)) Ax (zw _)) (zX (zu (BY zJ))) AV)
    (zX (zu (Aq Ct wz.mTuple (zB
     (BB (own:=["place","long"]) (cn:=["there","one"]) (ci:=[2,1]) rfl (Ai rfl rfl) {9,9,trivial} rfl
      (CQ (AF (Si wz) hr (zB (pv 0) (zB (pv 1) zJ))))
      (λ_ _ _ _=>NJ (n:=2) rfl (Ag (Ah) (Ag (CY (i:=1) (DD rfl) rfl (Or.inl rfl)) CK)))
      (λ_ _ _ _=>De (zt Am (AQ Bs (pv 1) (zm DL (pv 2) (pv 0))) (zm DL (pv 2) (pv 3)) (zw _)))
      (λ_ _ _ _=>pv 0)) zJ)))),?_}
   let hx:=L.len x J hx1;show{4,lt,3,oV (AY I x),2,AD.of k8,Ac J (Fx L J hx1),6,?_};rw[N9];cases hd:AY I x with
   | none=>show CB ?_;rw[hd] at hx;show{zd _,λl hl=>k l [] _ (zG hl) zF JP λp=>{λz=>by simp at z,λ⟨a,b,_,_,z⟩=>absurd z.1.symm (hx _)}}
   | some d=>
    show Ao ?_;rw[hd] at hx;let hxD:WM.IsD ts x y d:=WM.IsD.symm hx;show{4,wa,n,ts,x,0,W,λl zs ms H2 s2 m7 kY TT hp hrs=>?_};let hlz:=TT.length;let hlt2:H2 lt=some (.tup (I.map oV)):=s2 _ _ k8;let hlm:ms.length<64:=by let e2:=Rn (n:=n) x (ts:=ts) λt ht=>(G.rng t ht).2.1;let:=G.len;rw[hp.length_eq];lia
    let near:∀k,k∈ms->∃z c b,k=[z,c]/\Aw ts x z c/\AY I z=some b/\WM.IsD ts z y b:=λk hk=>by
     let{z,c,e,U}:=Gk.mp (hp.mem_iff.mp hk);let kg:=G.adj U;let lz:=L.len z kg.2.2.1 kg.2.2.2.1;cases hz:AY I z with
     | none=>rw[hz] at lz;show absurd (hx.1.snoc U) (lz _)
     | some b=>rw[hz] at lz;show{z,c,b,e,U,hz,WM.IsD.symm lz}
    show{l,0,{_,AA.of kY},[.ref lt,.int x],0,λD hD=>?_};let nlD:l≠D:=zp kY hD;show DJ (a:=l) (xs:=zs) (λi ys H3=>ys=(((ms.take i).filter λk=>decide (Kz k+(AY I (WM.hd k)).getD 0=d)).map WM.hd).map V.int/\H3=upd H2 D (.lst ys)) {2} (λi ys H3 h=>?_) (λi ys H3 h=>?_) (λi v ys H3 hv h=>?_) (λys H3 h=>?_)
    . let{1}:=h;show AA.of (by rwa[zg nlD])
    . let{0,_}:=h;rw[zA,zA];show E9 (C7 _ _) (BJ ?_);rw[zi];lia
    . let{2}:=h;let{ya,ky,0,mD,mH,_}:=TT.get hv;let{z,c,b,0,U,hb,ib}:=near ky (zQ mD);let kg:=G.adj U;show{ya,1,AD.of (by rwa[zg (zp mH hD)]),0,7,5,{2},?_};let hltD:(upd H2 D (.lst ((((ms.take i).filter λk=>decide (Kz k+(AY I (WM.hd k)).getD 0=d)).map WM.hd).map V.int))) lt=some (.tup (I.map oV)):=by rwa[zg (zp hlt2 hD)]
      show{1,4,lt,3,.int b,2,AD.of hltD,Ac kg.2.2.1 (by rw[Fx L kg.2.2.1 kg.2.2.2.1,hb];rfl),5,?_};show{4,lt,3,.int d,2,AD.of hltD,Ac J (by rw[Fx L J hx1,hd];rfl),6,?_};rw[bp];let etk:(ms.take (i+1)).filter (λk=>decide (Kz k+(AY I (WM.hd k)).getD 0=d))=(ms.take i).filter (λk=>decide (Kz k+(AY I (WM.hd k)).getD 0=d))++(if c+b=d then [[z,c]] else []):=by
       rw[ze,mD,Gf];change _++List.filter _ [[z,c]]=_;rw[GX];let e1:decide (Kz [z,c]+(AY I (WM.hd [z,c])).getD 0=d)=decide (c+b=d):=by change decide (c+(AY I z).getD 0=d)=_;rw[hb];rfl
       rw[e1];by_cases cc:c+b=d
       . rw[if_pos (by simpa using cc),if_pos cc];rfl
       . rw[if_neg (by simpa using cc),if_neg cc];rfl
      show BU (λcc=>?_) (λcc=>?_)
      . let c':=of_decide_eq_true cc;show{1,zF,?_,Bp};rw[etk,if_pos c',zO,zO];rfl
      . let c':¬ c+b=d:=λq=>cc (zY q);show{?_,0};rw[etk,if_neg c',BW]
    . let{2}:=h;show{D,1,.inl {AA.of zF,λq hq=>?_}};rw[hlz,zR (zL _)] at hq ⊢;let s4:=(zG (o:=.lst ((((ms.filter λk=>decide (Kz k+(AY I (WM.hd k)).getD 0=d)).map WM.hd).map V.int))) hD).trans (zG (o:=.tup ((((ms.filter λk=>decide (Kz k+(AY I (WM.hd k)).getD 0=d)).map WM.hd).map V.int))) hq);let hk:∀k∈ms,∃y l,k=[y,l]:=λk hk=>by let{z,c,b,e,_}:=near k hk;show⟨z,c,e⟩
      let mf:=jD hrs hk ((hp.map WM.hd).nodup_iff.mpr (gJ G x));show k q _ _ (s2.trans s4) zF (mf.sublist (List.filter_sublist.map _)) λp=>?_;rw[zy];constructor
      . rintro ⟨k0,o8,rfl⟩;let{hm,c}:=CZ.mp o8;let{z,c0,b,0,U,hb,ib}:=near k0 hm;let c':=of_decide_eq_true c;let c2:c0+b=d:=by let:c0+(AY I z).getD 0=d:=c';rwa[hb] at this
        show{c0,b,U,ib,by rwa[c2]}
      . rintro ⟨c0,b,U,ib,nJ⟩;let hm:[p,c0]∈ms:=hp.mem_iff.mpr (Gk.mpr {p,c0,0,U});show{[p,c0],CZ.mpr {hm,zY ?_},0};let kg:=G.adj U;let lp:=A9.uniq (L.len p kg.2.2.1 kg.2.2.2.1) (show A9 ts y p (some b) from WM.IsD.symm ib);change c0+(AY I p).getD 0=d;rw[lp];show WM.IsD.uniq nJ hxD
def Er (H:Hp)(rs:List Addr)(M:CV):Prop:=rs.length=M.length/\∀(i:Nat)r row,rs[i]?=some r->M[i]?=some row->H r=some (.tup (row.map oV))
def Er.smT (h:Er H rs M)(k:A0 H H'):Er H' rs M:={h.1,λi r row a b=>k.get (h.2 i r row a b) (by intro o z;cases z)}
def MR (PT:Addr):Sp:=λI H Q _=>∃o n C,I=[.ref o]/\Af H o n C/\Tb H PT /\
 ∀l rs M H',A0 H H'->Tb H' PT->H' l=some (.tup (rs.map V.ref))->Er H' rs M->Rows C n M->Q (.ref l) H'
def ME:zl ["web"] So.p (defScope So.s):=AK
def jG (wz:Ws P w K mg base PT C D):Fz P w K mg base 4 So (MR PT):=by
 show wz.Le.okZ ME λ_ _ A _ _ H vs Q E hr h=>?_;let{wa,n,ts,0,W,T,k}:=h;let{ta,tys,kc,3,G}:=id W;let mC:=G.n24;let oq:=G.n1;show{_,zX (zu (Aq Ct wz.mTuple (zB
  (BB (own:=GI) (cn:=["web"]) (ci:=[0]) rfl (Ai rfl rfl) {9,trivial} rfl
   (CO rfl wz.mRange (zB (zm AM (pv 0) zb) zJ)) (λ_ _ _ _=>Ah) (λ_ _ _ _=>A8)
   (λ_ _ _ _=>AF (eM wz) hr (zB (pv 1) (zB (pv 0) zJ)))) zJ))),?_}
 show{1,wa,_,5,AD.of kc,0,n,0,(),(),[.ref wa],0,λD hD=>?_};show Dw (lo:=0) (n:=n.toNat) (λq ys H1=>q<=n.toNat/\El λ(rs:List Addr)(M:CV)=>ys=rs.map V.ref/\rs.length=q/\Er H1 rs M/\(∀x:Nat,x<q->Fq ts n x (M.getD x []))/\A0 H H1/\Tb H1 PT/\H1 D=some (.lst ys))
  {zd _,[],[],2,{0,λi r row h=>by simp at h},λx hx=>absurd hx (Eu _),A0.of (zG hD),T.same (zG hD),zF} (λq ys H1 h=>?_) (λq ys H1 U h=>?_) (λys H1 h=>?_)
 . let{U,rs,M,0,o,_}:=h;rw[zA,o];show BJ ()
 . let{_,rs,M,0,o,R,L,sm,T1,mM}:=h;rw[CC];show{{2},?_};show A7 ?_;show{4,wa,n,ts,q,0,W.smT sm,(),(),T1,λl kn H2 I T2 kY L2=>?_};let ke:H2 D=some (.lst (rs.map V.ref)):=I.get mM (by intro ps z;cases z);show{ke,U,rs++[l],M++[kn],by rw[zO];rfl,by rw[zS,o];rfl,{by rw[zS,zS,R.1];rfl,λi r row J h2=>?_},λx hx=>?_,(sm.trans I).chg hD,T2.chg ke,zF}
   . let key:H2 r=some (.tup (row.map oV)):=by
      by_cases hi:i<rs.length
      . rw[zV hi] at J;rw[zV (by rw[<-R.1];show hi)] at h2;show I.get (R.2 i r row J h2) (by intro ps z;cases z)
      . rw[zW ()] at J;rw[zW (by rw[<-R.1];lia),<-R.1] at h2;cases hz:i-rs.length with
        | zero=>
         rw[hz] at J h2;let e1:l=r:=by simpa using J
         let e2:kn=row:=by simpa using h2
         subst e1 e2;show kY
        | succ k=>rw[hz] at J;simp at J
     rw[zg (AJ key ke (by intro z;cases z))];show key
   . by_cases kZ:x<q
     . rw[zE,zV (by rw[<-R.1,o];show kZ),<-zE];show L x kZ
     . let e:x=q:=()
       subst e;rw[zE,zW (by rw[<-R.1,o];show zL _),<-R.1,o];simpa using L2
 . let{_,rs,M,0,o,R,L,sm,T1,mM}:=h;show{D,1,.inl {AA.of mM,λq U=>?_}};show k q rs M _ (sm.trans (A0.of (zG U))) (T1.same (zG U)) zF (R.smT (A0.of (zG U))) {by rw[<-R.1,o],λx hx kZ=>?_};let:=L x.toNat ();rw[show ((x.toNat:Nat):Int)=x by lia] at this;show this
def PU:Sp:=λo H Q _=>∃i:Int,o=[.int i]/\Q (.bl true) H
def Vy:Sp:=λo H Q _=>∃i a b:Int,o=[.int i,.int a,.int b]/\a<=i/\i<=b/\Q (.bl true) H
def XZ:Sp:=λo H Q _=>∃n i:Int,o=[.int n,.int i]/\0<=i/\i<=n-1/\Q (.bl true) H
def O3:Sp:=λC H Q _=>∃p o,C=[.ref p,.int o.length]/\H p=some (.tup o)/\Q (.bl true) H
structure ET (n:Int)(os:List Int):Prop where
 ln:os.length=n.toNat
 nd:os.Nodup
 rng:∀p∈os,0<=p/\p<n
inductive Zu (vs:List V)(H:Hp)(Q:VK):Prop
 | mk:∀(wa p:Addr)(n:Int)(ts:List T3)(os:List Int),(vs=[.ref wa,.ref p])->(Af H wa n ts)->(H p=some (.tup (os.map V.int)))->(ET n os)->(∀H',AE H H'->Q (.bl true) H')->Zu vs H Q
def Q5:Sp:=λo H Q _=>Zu o H Q
def Po:zl ["thing"] HJ.p (defScope HJ.s):=AK
def ZX (o:Ws P w K mg base PT C D):Fz P w K mg base 1 HJ PU:=by
 show o.Nu.okZ Po λ_ _ A _ _ H I Q E J h=>?_;let{i,0,k}:=h;show{_,zX (zu (Ef (AZ Sn o.mIsi (zB (pv 0) (zB (SV (T := "int") o.mInt) zJ)))
  (Du (Ku (AZ Sn o.mIsi (zB (pv 0) (zB (SV (T := "bool") o.mBool) zJ))))))),?_}
 show{1,_,3,true,0,.int i,0,true,0,CB ?_};show{1,_,3,false,0,.int i,0,false,0,k}
def XY:zl ["thing","least","most"] TM.p (defScope TM.s):=AK
def Vd (o:Ws P w K mg base PT C D):Fz P w K mg base 2 TM Vy:=by show o.Wi.okZ XY λ_ _ A _ _ H vs Q E I h=>?_;let{i,a,b,0,U,J,k}:=h;show{_,zX (zu (Ef (AF (ZX o) I (zB (pv 0) zJ)) (Ef (BS UQ (pv 1) (pv 0) (zw _)) (Du (BS UQ (pv 0) (pv 2) (zw _)))))),?_};show{1,i,0,true,0,CB ?_};show{4,_,8,?_};show BG (zY U) ?_;show{4,5,?_};change Q (.bl (decide (i<=b))) H;rwa[zY J]
def Vv:zl K0 Tv.p (defScope Tv.s):=AK
def Jb (o:Ws P w K mg base PT C D):Fz P w K mg base 3 Tv XZ:=by show o.Pl.okZ Vv λ_ _ A _ _ H vs Q E I h=>?_;let{n,i,0,U,J,k}:=h;show{_,zX (zu (AF (Vd o) I (zB (pv 1) (zB zb (zB (AQ ED (pv 0) zb) zJ))))),?_};show⟨_,rfl,_,rfl,_,_,rfl,rfl,i,0,n-1,rfl,U,J,k⟩
def Qy:zl ["thing","count"] HQ.p (defScope HQ.s):=AK
def U7 (o:Ws P w K mg base PT C D):Fz P w K mg base 1 HQ O3:=by
 show o.To.okZ Qy λ_ _ A _ _ H U Q E hr h=>?_;let{p,J,0,I,k}:=h;show{_,zX (zu (Ef (AZ Sn o.mIsi (zB (pv 0) (zB (SV (T := "tuple") o.mTuple) zJ)))
  (Du (BS Am (AZ CD o.mLen (zB (pv 0) zJ)) (pv 1) (zw _))))),?_}
 show{1,_,3,true,0,.tup I,0,true,0,CB ?_};show{1,p,1,.inr (AD.of I),_,2,?_};rwa[zY rfl]
def JB:zl ["web","thing","n"] HB.p (defScope HB.s):=AK
def Mi (J:Ws P w K mg base PT C D):Fz P w K mg base 4 HB Q5:=by
 show J.Io.okZ JB λ_ _ A _ _ H vs Q E hr h=>?_;let{wa,p,n,ts,os,0,W,hp,O,k}:=h;let{ta,tys,kc,3,G}:=id W;let oq:=G.n1;let mC:=G.n24;let hol:os.length<=24:=by rw[O.ln];lia
 show{_,zN (C8 (i:=2) JB.nd rfl (Or.inr rfl) (zm AM (pv 0) zb))
  (zN (AU (PW.pt (Cs (CM (BR (AF (U7 J) hr (zB (pv 1) (zB (pv 2) zJ)))))
   (DO (CM (BR (AZ (JX rfl) J.mAll (zB (BB (own:=GI) (cn:=["n"]) (ci:=[2]) rfl (Ai rfl rfl) {9,trivial} rfl (Bo (pv 1)) (λ_ _ _ _=>Ah)
    (λ_ _ _ _=>A8) (λ_ _ _ _=>AF (Jb J) hr (zB (pv 1) (zB (pv 0) zJ)))) zJ))))))) (zX (zu GS)) AV)
  (zX (zu (BS Am (AZ j5 J.mLen (zB (Aq (fA rfl) J.mSet (zB (pv 1) zJ)) zJ)) (pv 2) (zw _))))),?_}
 show{1,wa,_,5,AD.of kc,0,?_};let mI:(os.map V.int).length=n:=by rw[zA,O.ln];lia
 show{4,p,os.map V.int,by rw[mI];rfl,hp,1,Ao ?_};show{1,p,0,{_,AD.of hp},[.int n],0,λD hD=>?_};show CH (a:=p) (xs:=os.map V.int) (λi I H4=>i<=os.length/\I=(List.replicate i true).map V.bl/\H4=upd H D (.lst I)) {zd _,2} (λi I H4 h=>?_) (λi I H4 h=>?_) (λi v I H4 U h=>?_) (λI H4 h=>?_)
 . let{7}:=h;show AD.of (by rwa[zg (zp hp hD)])
 . let{hi,0,_}:=h;rw[zA,Cq];show BJ ()
 . let{_,2}:=h;obtain⟨x,hx,rfl⟩:∃x,os[i]?=some x/\V.int x=v:=by
    rw[zK] at U;cases e:os[i]? with
    | none=>rw[e] at U;cases U
    | some x=>rw[e] at U;show{x,0,zT U}
   let lO:=O.rng x (zQ hx);show{{2},?_};show A7 ?_;show{4,n,x,0,lO.1,(),?_};show{zF,(zH.mp hx).1,?_,Bp};rw[JY,zO];rfl
 . let{_,2}:=h;show{D,List.replicate (os.map V.int).length true,0,AA.of zF,1,?_};let lU:(List.replicate (os.map V.int).length true).all id=true:=Ea.mpr λb hb=>(List.mem_replicate.mp hb).2;rw[lU];show Ao ?_;let hp5:=zG (o:=.lst ((List.replicate (os.map V.int).length true).map V.bl)) hD _ _ hp;show{1,p,os,0,AD.of hp5,(),λd S hd=>?_};show{d,S,1,zF,_,2,?_};rw[Zc O.nd os.length (zL _),zR (zL _),zY (by rw[<-mI,zA])];show k _ ((zG hD).trans (zG hd))
meta def eV (e:En):List V:=[.int e.h,.int e.l,oV e.u,oV e.d]
def EY (H:Hp)(as:List Addr)(es:List En):Prop:=as.length=es.length/\∀(i:Nat)a,as[i]?=some a->∃e,es[i]?=some e/\H a=some (.tup (eV e))
def BN (H:Hp)(p:Addr)(es:List En):Prop:=∃as:List Addr,H p=some (.tup (as.map V.ref))/\EY H as es/\es.length<=1000
def EY.keep (h:EY H as es)(k:∀b ys,H b=some (.tup ys)->H' b=some (.tup ys)):EY H' as es:=
 {h.1,λi a o=>let ⟨e,I,C⟩:=h.2 i a o;{e,I,k _ _ C}}
def EY.snoc (h:EY H as es)(C:H a=some (.tup (eV e))):EY H (as++[a]) (es++[e]):=by
 show{by rw[zS,zS,h.1];rfl,λi b o=>?_};by_cases c:i<as.length
 . rw[zV c] at o;let{U,J,I}:=h.2 i b o;show{U,by rw[zV (by rw[<-h.1];show c)];show J,I}
 . rw[zW ()] at o;let hi:i-as.length=0:=by
    cases z:i-as.length with
    | zero=>rfl
    | succ m=>rw[z] at o;simp at o
   rw[hi] at o;let:a=b:=by simpa using o
   subst this;show{e,by rw[zW (by rw[<-h.1];lia),<-h.1,hi];rfl,C}
def BN.keep (h:BN H p es)(k:∀b ys,H b=some (.tup ys)->H' b=some (.tup ys)):BN H' p es:=
 let ⟨as,I,C,o⟩:=h;{as,k _ _ I,C.keep k,o}
def BN.same (h:BN H p es)(k:AE H H'):BN H' p es:=h.keep λb o e=>k _ _ e
def EY.at (h:EY H as es){i:Nat}(o:(as.map V.ref)[i]?=some v):∃a e,v=.ref a/\es[i]?=some e/\H a=some (.tup (eV e)):=by
 rw[zK] at o;cases z:as[i]? with
 | none=>rw[z] at o;cases o
 | some a=>rw[z] at o;let{e,I,C}:=h.2 i a z;show{a,e,(zT o).symm,I,C}
inductive ao (vs:List V)(H:Hp)(Q:VK):Prop
 | mk:∀(p:Addr)(es:List En)(e:En)(r:List En),(vs=[.ref p])->(BN H p es)->(es.filter (λe=>decide (e.l=0))=e::r)->(∀H',AE H H'->Q (.int e.h) H')->ao vs H Q
def Pd:Sp:=λo H Q _=>ao o H Q
def Pg:Sp:=λo H Q _=>∃p q es fs,o=[.ref p,.ref q]/\BN H p es/\BN H q fs/\FJ fs /\
 ∀r lm H',AE H H'->GD (Cd es fs) lm->H' r=some (.tup [oV (lm.map (·.1)),oV (lm.map (·.2))])->Q (.ref r) H'
inductive b9 (vs:List V)(H:Hp)(Q:VK):Prop
 | mk:∀(p q:Addr)(es fs:List En),(vs=[.ref p,.ref q])->(BN H p es)->(BN H q fs)->(FJ fs)->(∀(lm:Option (Int×Int))(H':Hp),AE H H'->GD (Cd es fs) lm->Q (oV (lm.map (·.1))) H')->b9 vs H Q
def Jx:Sp:=λo H Q _=>b9 o H Q
def Pw:Sp:=λo H Q _=>∃p q es fs,o=[.ref p,.ref q]/\BN H p es/\BN H q fs/\FJ fs /\
 ∀lm H',AE H H'->GD (Cd es fs) lm->Q (oV (lm.map (·.2))) H'
def Pb:Sp:=λo H Q _=>∃p es x,o=[.ref p,.int x]/\BN H p es /\
 (CL es x=none->Q .non H)/\(∀e a,CL es x=some e->H a=some (.tup (eV e))->Q (.ref a) H)
inductive bB (vs:List V)(H:Hp)(Q:VK):Prop
 | mk:∀(p q:Addr)(es fs:List En)(e f:En)(r r':List En),(vs=[.ref p,.ref q])->(BN H p es)->(BN H q fs)->(FJ es)->(FJ fs)->(es.filter (λe=>decide (e.l=0))=e::r)->(fs.filter (λe=>decide (e.l=0))=f::r')->(∀(lm:Option (Int×Int))(H':Hp),AE H H'->GD (Cd es fs) lm->Q (oV (OM es fs e.h f.h lm)) H')->bB vs H Q
def Lj:Sp:=λo H Q _=>bB o H Q
def Bm (h:n<=1000):n<sizeLine:=E9 h (by decide)
def IE :decide (V.int a=V.int b)=decide (a=b):=by
 by_cases h:a=b
 . rw[zY h,zY (congrArg V.int h)]
 . rw[za h,za λz=>h (V.int.inj z)]
def PM:zl ["label"] HM.p (defScope HM.s):=AK
def R6 (wz:Ws P w K mg base PT C D):Fz P w K mg base 1 HM Pd:=by
 show wz.Ow.okZ PM λ_ _ A _ _ H vs Q E hr h=>?_;let{p,es,e,r,0,L,hf,k}:=h;let{as,U,EA,hl}:=id L;show{_,zX (zu (zm zx (BB (own:=Vm) (cn:=[]) (ci:=[]) rfl (Ai rfl rfl) trivial rfl (Bo (pv 0))
  (λ_ _ _ _=>NJ (n:=4) rfl (Ag (Ah) (Ag (CY (i:=1) (DD rfl) rfl (Or.inl rfl)) (Ag (CY (i:=2) (DD rfl) rfl (Or.inl rfl)) (Ag (CY (i:=3) (DD rfl) rfl (Or.inl rfl)) CK)))))
  (λ_ _ _ _=>De (zt Am (pv 1) zb (zw _))) (λ_ _ _ _=>pv 0)) zb)),?_}
 show{1,p,0,{_,AD.of U},[],0,λD J=>?_};show CH (a:=p) (xs:=as.map V.ref) (λi o I=>o=((es.take i).filter λe=>decide (e.l=0)).map (λe=>V.int e.h)/\I=upd H D (.lst o)) {2} (λi o I h=>?_) (λi o I h=>?_) (λi v o I hv h=>?_) (λo I h=>?_)
 . let{1}:=h;show AD.of (by rwa[zg (zp U J)])
 . let{0,_}:=h;rw[zA];show E9 (C7 _ _) (Bm (by rw[zi];lia))
 . let{2}:=h;let{a,x,0,hx,ha}:=EA.at hv;show{a,1,AD.of (by rwa[zg (zp ha J)]),0,7,7,7,5,{2},?_};show{8,?_};rw[IE];let st:=bg (λe:En=>decide (e.l=0)) hx;show BU (λc=>?_) (λc=>?_)
   . show{1,zF,?_,Bp};rw[st,if_pos c,zO];rfl
   . show{?_,0};rw[st,if_neg c,BW]
 . let{2}:=h;rw[zA,EA.1,zR (zL _),hf];show{D,3,.int e.h,2,AA.of zF,Ac (by decide) rfl,k _ (zG J)}
def Iu:zl ["label","hub","entry"] HS.p (defScope HS.s):=AK
def Uv (wz:Ws P w K mg base PT C D):Fz P w K mg base 1 HS Pb:=by
 show wz.En.okZ Iu λ_ _ A _ _ H vs Q E hr h=>?_;let{p,es,x,0,L,kn,ks}:=h;let{as,U,EA,hl}:=id L;show{_,zN (Bn (Bo (pv 0)) (Ay (i:=2) Iu.nd)
  (zX (AU (zt Am (zm AM (pv 2) zb) (pv 1) (zw _)) (zX (zu (pv 2))) AV)))
  (zX (zu Ax)),?_}
 show{1,p,0,{_,AD.of U},Uw (K:=K) (a:=p) (xs:=as.map V.ref) (λi σ I=>∃J:Option V,σ=[some (.ref p),some (.int x),J]/\I=H/\∀e∈es.take i,e.h≠x)
  {none,2,λe he=>by simp at he} (λi σ I _ ⟨_,_,e,_⟩=>e ▸ AD.of U) ?turn ?after}
 case turn=>
  rintro i y σ I hi ⟨J,rfl,rfl,o⟩;let{a,e,0,he,ha}:=EA.at hi;show{1,a,3,.int e.h,2,AD.of ha,0,8,?_};rw[IE];show BU (λc=>?_) (λc=>?_)
  . let c':e.h=x:=of_decide_eq_true c;show{1,ks e a ?_ ha};unfold CL;let kS:=(zH.mp he).1;rw[<-List.take_append_drop i es,List.find?_append,List.find?_eq_none.mpr (λf hf=>by simpa using o f hf)];rw[Ms kS,(zH.mp he).2,Hv,zY c'];rfl
  . show{_,2,λf hf=>?_};rw[ze,he] at hf;rcases Bu.mp hf with z | z
    . show o f z
    . let:f=e:=by simpa using z
      subst this;show λq=>c (zY q)
 case after=>
  rintro σ I ⟨J,rfl,rfl,o⟩;show kn (dS.mpr λe he=>o e ?_);rwa[zA,EA.1,zR (zL _)]
def Uj:zl ["one","other","longs","sums"] HG.p (defScope HG.s):=AK
def bX (wz:Ws P w K mg base PT C D):Fz P w K mg base 1 HG Pg:=by
 show wz.Su.okZ Uj λ_ _ A _ _ H vs Q E hr h=>?_;let{p,q,es,fs,0,L1,oS,hF,k}:=h;let{as,hp,EA,hl}:=id L1;let{bs,hq,EB,kY}:=id oS;let hu:=RT hr;show{_,zN (C8 (i:=2) Uj.nd rfl (Or.inr rfl) (Aq (dc rfl) wz.mDict (zB
  (BB (own:=Vm) (cn:=[]) (ci:=[]) rfl (Ai rfl rfl) trivial rfl (Bo (pv 1))
   (λ_ _ _ _=>NJ (n:=4) rfl (Ag (Ah) (Ag (CY (i:=1) (DD rfl) rfl (Or.inl rfl)) (Ag (CY (i:=2) (DD rfl) rfl (Or.inl rfl)) (Ag (CY (i:=3) (DD rfl) rfl (Or.inl rfl)) CK)))))
   (λ_ _ _ _=>A8) (λ_ _ _ _=>BY (zB (pv 0) (zB (pv 1) zJ)))) zJ)))
  (zN (DZ (i:=3) (own:=Vm) (cn:=["longs"]) (ci:=[2]) Uj.nd rfl (Or.inl rfl) rfl (Ai rfl rfl) {9,trivial} rfl (Bo (pv 0))
   (λ_ _ _ _=>NJ (n:=4) rfl (Ag (Ah) (Ag (CY (i:=1) (DD rfl) rfl (Or.inl rfl)) (Ag (CY (i:=2) (DD rfl) rfl (Or.inl rfl)) (Ag (CY (i:=3) (DD rfl) rfl (Or.inl rfl)) CK)))))
   (λ_ _ _ _=>De (J7 (MA hu (pv 0) (pv 4)))) (λ_ _ _ _=>BY (zB (AQ Bs (pv 1) (eG hu (pv 4) (pv 0) (λ_ _=>rfl))) (zB (pv 0) zJ))))
  (zX (zu (U9 rfl hu (by rfl) wz.mMin (zB (pv 3) zJ) (BY (zB Ax (zB Ax zJ))))))),?_}
 show{1,q,0,{_,AD.of hq},[],0,λD hD=>?_};show CH (a:=q) (xs:=bs.map V.ref) (λi o J=>i<=fs.length/\o.length=i/\(∀(j:Nat)(y:V),o[j]?=some y->∃c e,y=.ref c/\fs[j]?=some e/\J c=some (.tup [.int e.h,.int e.l]))/\AE H J/\J D=some (.lst o)) {zd _,0,λj y z=>by simp at z,zG hD,zF} (λi o J h=>?_) (λi o J h=>?_) (λi v o J hv h=>?_) (λo J h=>?_)
 . show AD.of (h.2.2.2.1 _ _ hq)
 . show Bm (by let:=h.1;let:=h.2.1;lia)
 . let{hi,I,hys,s4,ki}:=h;let{a,x,0,hx,ha}:=EB.at hv;show{a,1,AD.of (s4 _ _ ha),0,7,7,7,5,{2},?_};show A7 ?_;show{4,B7,λc hc=>?_};let nDc:D≠c:=zp ki hc;show{zG hc _ _ ki,(zH.mp hx).1,by rw[zS,I];rfl,λj y U=>?_,A4 (s4.trans (zG hc)) hD,zF};by_cases cj:j<i
   . rw[zV ()] at U;let{c',e,h1,h2,h3}:=hys j y U;show{c',e,h1,h2,?_};rw[zg (AJ h3 ki (by intro z;cases z))];show zG hc _ _ h3
   . let ej:j=i:=by let:=(zH.mp U).1;rw[zS,I] at this;simp at this;lia
     subst ej;rw[zW (),I,E4] at U;let ey:V.ref c=y:=by simpa using U
     subst ey;show{c,x,0,hx,by rw[zg (Ne.symm nDc)];show zF}
 . let{_,I,hys,s4,ki}:=h;rw[zA,EB.1] at I;show{D,o,fs.map λe=>(Sum.inl e.h,V.int e.l),0,AA.of ki,{by rw[zA,I],λj y U=>?_},λdd oQ=>?_}
   . let{c,e,h1,h2,h3}:=hys j y U;show{c,Sum.inl e.h,.int e.l,h1,h3,by rw[zK,h2];rfl}
   let hnd:((fs.map λe=>((Sum.inl e.h:AS),V.int e.l)).map (·.1)).Nodup:=by rw[DY,List.Nodup,DK];show hF.imp λh z=>by injection z with z;lia
   rw[gE hnd];let n9:∀x:Int,Ar (fs.map λe=>((Sum.inl e.h:AS),V.int e.l)) (Sum.inl x)=(CL fs x).map λe=>V.int e.l:=λx=>by
    unfold Ar CL;rw[List.find?_map,Option.map_map];let:((λkv:AS×V=>decide (kv.1=Sum.inl x))∘λe:En=>((Sum.inl e.h:AS),V.int e.l))=λe:En=>decide (e.h=x):=by
     funext e;change decide ((Sum.inl e.h:AS)=Sum.inl x)=_;by_cases c:e.h=x
     . rw[zY c,zY (by rw[c])]
     . rw[za c,za (by intro z;injection z with z;show c z)]
    rw[this];rfl
   let s5:AE H (upd J dd (.dK (fs.map λe=>(Sum.inl e.h,V.int e.l)))):=s4.trans (zG oQ);let hd5:(upd J dd (.dK (fs.map λe=>((Sum.inl e.h:AS),V.int e.l)))) dd=some (.dK (fs.map λe=>(Sum.inl e.h,V.int e.l))):=zF;generalize upd J dd (.dK (fs.map λe=>((Sum.inl e.h:AS),V.int e.l)))=H5 at s5 hd5 ⊢;generalize (fs.map λe=>((Sum.inl e.h:AS),V.int e.l))=kR at n9 hd5;show{1,p,0,{_,AD.of (s5 _ _ hp)},[.ref dd],0,λD2 ke=>?_};show CH (a:=p) (xs:=as.map V.ref) (λi o H6=>Ae H6 o (((es.take i).filterMap (GJ fs)).map λc=>[c.1,c.2])/\AE H5 H6/\H6 D2=some (.lst o)) {trivial,zG ke,zF} (λi o H6 h=>?_) (λi o H6 h=>?_) (λi v o H6 hv h=>?_) (λo H6 h=>?_)
   . show AD.of (h.2.1 _ _ (s5 _ _ hp))
   . let:=h.1.length;rw[this,zA];show E9 (List.length_filterMap_le _ _) (Bm (by rw[zi];lia))
   . let{T6,s6,mZ}:=h;let{a,x,0,hx,ha}:=EA.at hv;show{a,1,AD.of (s6 _ _ (s5 _ _ ha)),0,7,7,7,5,{2},?_};show{4,dd,1,Ed.k (k:=Sum.inl x.h) (s6 _ _ hd5),1,?_};let st:=dQ (GJ fs) hx;let hv2:=n9 x.h;cases e:CL fs x.h with
     | none=>
      rw[e] at hv2;rw[hv2];show Ao ?_;let ec:GJ fs x=none:=by unfold GJ;rw[e];rfl
      show{?_,s6,mZ};rw[st,ec];simpa using T6
     | some g=>
      rw[e] at hv2;let hv3:Ar kR (Sum.inl x.h)=some (.int g.l):=hv2;rw[hv3];show CB ?_;let ec:GJ fs x=some (x.l+g.l,x.h):=by unfold GJ;rw[e];rfl
      show{1,4,dd,.int g.l,0,hv3 ▸ Ed.k (k:=Sum.inl x.h) (s6 _ _ hd5),_,8,B7,λc hc=>?_};show{zG hc _ _ mZ,?_,A4 (s6.trans (zG hc)) ke,zF};rw[st,ec,zO];show Ae.snoc (T6.keep λb zs e=>?_) {c,0,?_,by intro z;cases z}
      . rw[zg (AJ e mZ (by intro z;cases z))];show zG hc _ _ e
      . rw[zg (Ne.symm (zp mZ hc))];show zF
   . let{T6,s6,mZ}:=h;rw[zA,EA.1,zR (zL _)] at T6;let mj:=λc=>je (es:=es) hF c;generalize es.filterMap (GJ fs)=cs at T6 mj;show{4,B7,λn hn=>?_};let s7:AE H (upd H6 n (.tup [.non,.non])):=(s5.trans s6).trans (zG hn);show{D2,o,0,.inl (AA.of (zG hn _ _ mZ)),λe0=>?_,.inl {_,T6.keep λb zs e=>zG hn _ _ e,λi y kk U hk lD=>?_}}
     . show k n none _ s7 (λc z=>?_) zF;let:cs=[]:=by let:=T6.length;rw[e0,zA] at this;show List.length_eq_zero_iff.mp this.symm
       rw[<-mj,this] at z;simp at z
     . let{a,k',e1,e2,e3,_}:=T6.get U;rw[hk] at e2;cases e2;rw[zK] at hk;cases ec:cs[i]? with
       | none=>rw[ec] at hk;cases hk
       | some c=>
        rw[ec] at hk;let ek:[c.1,c.2]=kk:=zT hk;subst ek e1;show k a (some c) _ s7 {(mj c).mp (zQ ec),λc' oF=>?_} (zG hn _ _ e3);let:=lD [c'.1,c'.2] (zy.mpr {c',(mj c').mpr oF,0});rw[HT.lexLt_cons] at this;by_cases q:c'.1=c.1
        . rw[if_pos q,HT.lexLt_cons] at this;by_cases q2:c'.2=c.2
          . show .inr {q.symm,()}
          . rw[if_neg q2] at this;let:=of_decide_eq_false this;show .inr {q.symm,()}
        . rw[if_neg q] at this;let:=of_decide_eq_false this;show .inl ()
def Lc:zl NU Rf.p (defScope Rf.s):=AK
def Ss (o:Ws P w K mg base PT C D):Fz P w K mg base 2 Rf Jx:=by show o.Td.okZ Lc λ_ _ A _ _ H vs Q E U h=>?_;let{p,q,es,fs,0,L1,I,hF,k}:=h;show{_,zX (zu (zm AM (AF (bX o) U (zB (pv 0) (zB (pv 1) zJ))) zb)),?_};show{4,p,q,es,fs,0,L1,I,hF,λr lm H' s1 hm J=>?_};show{r,_,5,AD.of J,0,k lm H' s1 hm}
def Qw:zl NU G2.p (defScope G2.s):=AK
def Ln (o:Ws P w K mg base PT C D):Fz P w K mg base 2 G2 Pw:=by show o.Hu.okZ Qw λ_ _ A _ _ H vs Q E U h=>?_;let{p,q,es,fs,0,L1,I,hF,k}:=h;show{_,zX (zu (zm AM (AF (bX o) U (zB (pv 0) (zB (pv 1) zJ))) zb)),?_};show{4,p,q,es,fs,0,L1,I,hF,λr lm H' s1 hm J=>?_};show{r,_,5,AD.of J,0,k lm H' s1 hm}
def X8 :decide (oV o=V.non)=o.isNone:=by
 cases o with
 | none=>show zY rfl
 | some a=>show za (by intro z;cases z)
def BN.ent (L:BN H p es)(J:FJ es)(h:CL es x=some e):∃a,H a=some (.tup (eV e)):=by
 let{as,_,C,_}:=L;let{hm,_}:=(Fp J).mp h;let{i,hi,ee}:=CP hm;let I:i<as.length:=by rwa[C.1]
 let{e',o,U}:=C.2 i as[i] (zC I);rw[zC hi,ee] at o;cases o;show{_,U}
def Zj:zl ["one","other","hub"] SM.p (defScope SM.s):=AK
def YD (o:Ws P w K mg base PT C D):Fz P w K mg base 3 SM Lj:=by
 show o.St.okZ Zj λ_ _ A _ _ H vs Q E J h=>?_;let{p,q,es,fs,e,f,r,r',0,L1,oS,hE,hF,fe,ff,k}:=h;show{_,zN (AX (i:=2) Zj.nd (AF (Ln o) J (zB (pv 0) (zB (pv 1) zJ))))
  (zN (AU (PW.pt (Cs (zt CS (pv 2) Ax (zw _)) (DO (zt Am (AF (R6 o) J (zB (pv 0) zJ)) (AF (R6 o) J (zB (pv 1) zJ)) (zw _))))) (zX (zu Ax)) AV)
  (zN (AU (zt Am (pv 2) (AF (R6 o) J (zB (pv 0) zJ)) (zw _)) (zX (zu (zm AM (AF (Uv o) J (zB (pv 1) (zB (pv 2) zJ))) zb))) AV)
  (zX (zu (zm AM (AF (Uv o) J (zB (pv 0) (zB (pv 2) zJ))) zb))))),?_}
 show{4,p,q,es,fs,0,L1,oS,hF,λlm H1 s1 hm=>?_};show{8,?_};rw[X8];cases lm with
 | none=>show BG rfl (BG rfl (k none H1 s1 hm))
 | some c=>
  show AL rfl ?_;show{1,p,es,e,r,0,L1.same s1,fe,λH2 s2=>?_};show{1,q,fs,f,r',0,oS.same (s1.trans s2),ff,λH3 s3=>?_};let me:AE H H3:=(s1.trans s2).trans s3;show{6,?_};rw[IE];show BU (λz=>?_) (λz=>?_)
  . let z':e.h=f.h:=of_decide_eq_true z;let:=k (some c) H3 me hm;rw[show OM es fs e.h f.h (some c)=none by change (if e.h=f.h then _ else _)=_;rw[if_pos z']] at this
    show this
  . let z':¬ e.h=f.h:=λy=>z (zY y);show{4,p,es,e,r,0,L1.same me,fe,λH4 s4=>?_};let nu:AE H H4:=me.trans s4;let kk:=k (some c) H4 nu hm;let e0:OM es fs e.h f.h (some c)=if c.2=e.h then (CL fs c.2).bind (·.d) else (CL es c.2).bind (·.u):=by change (if e.h=f.h then _ else _)=_;rw[if_neg z']
    rw[e0] at kk;let{x,hx,y,hy,hyx,0}:=hm.1;show{6,?_};rw[show decide ((oV (Option.map (λx=>x.2) (some (x.l+y.l,x.h))))=V.int e.h)=decide (x.h=e.h) from IE];let h1:CL es x.h=some x:=(Fp hE).mpr {hx,0};let h2:CL fs x.h=some y:=(Fp hF).mpr ⟨hy,hyx⟩;show BU (λc1=>?_) (λc1=>?_)
    . let I:x.h=e.h:=of_decide_eq_true c1;let{a,ha}:=(oS.same nu).ent hF h2;show{4,q,fs,x.h,0,oS.same nu,λn=>?_,λg b U hb=>?_}
      . rw[h2] at n;cases n
      . rw[h2] at U;cases U;rw[if_pos I,h2] at kk;show{b,3,oV y.d,2,AD.of hb,0,kk}
    . let I:¬ x.h=e.h:=λy=>c1 (zY y);show{4,p,es,x.h,0,L1.same nu,λn=>?_,λg b U hb=>?_}
      . rw[h1] at n;cases n
      . rw[h1] at U;cases U;rw[if_neg I,h1] at kk;show{b,3,oV x.u,2,AD.of hb,0,kk}
meta def Cj (o:List Int)(p:Int):Int:=o.getD p.toNat 0
def Ep (ts:List T3)(o:Int->Int)(h v:Int):Prop:=(∃d,WM.IsD ts h v d)/\∀p,Be ts h v p->o h<=o p
def ID (P:Int->Prop):Option Int->Prop
 | none=>∀p,¬ P p
 | some m=>P m/\∀p,P p->m<=p
def ID.congr {P:Int->Prop}(e:∀p,P p↔P' p):∀{o:Option Int},ID P o->ID P' o
 | none,h=>λp z=>h p ((e p).mpr z)
 | some _,h=>{(e _).mp h.1,λp z=>h.2 p ((e p).mpr z)}
structure Vb (ts:List T3)(n:Int)(rk:Int->Int)(v:Int)(e:En):Prop where
 rng:0<=e.h/\e.h<n
 hub:Ep ts rk e.h v
 len:WM.IsD ts v e.h e.l
 up:ID (B8 ts v e.h) e.u
 dn:ID (B8 ts e.h v) e.d
structure Ge (ts:List T3)(n:Int)(rk:Int->Int)(v:Int)(es:List En):Prop where
 hub:FJ es
 ent:∀e∈es,Vb ts n rk v e
 all:∀h,0<=h->h<n->Ep ts rk h v->∃e∈es,e.h=h
 len:es.length<=24
def CW (H:Hp)(l:Addr)(ess:List (List En)):Prop:=∃as:List Addr,H l=some (.tup (as.map V.ref))/\as.length=ess.length/\∀(i:Nat)a,as[i]?=some a->∃es,ess[i]?=some es/\BN H a es
def CW.keep (h:CW H l ess)(k:∀b ys,H b=some (.tup ys)->H' b=some (.tup ys)):CW H' l ess:=
 let ⟨as,J,I,C⟩:=h;{as,k _ _ J,I,λi a o=>let ⟨es,e1,U⟩:=C i a o;{es,e1,U.keep k}}
def Er.at (C:Er H rs M)(RR:Rows ts n M)(h0:0<=x)(J:x<n):
 ∃r,(rs.map V.ref)[x.toNat]?=some (.ref r)/\H r=some (.tup ((M.getD x.toNat []).map oV))/\Fq ts n x (M.getD x.toNat []):=by
 let I:x.toNat<M.length:=by rw[RR.1];lia
 let o:x.toNat<rs.length:=by rwa[C.1]
 let e:M[x.toNat]?=some (M.getD x.toNat []):=by rw[zE,zC I];rfl
 show{rs[x.toNat],by rw[zK,zC o];rfl,C.2 _ _ _ (zC o) e,RR.2 x h0 J}
def Er.same (h:Er H rs M)(k:AE H H'):Er H' rs M:={h.1,λi r row a b=>k _ _ (h.2 i r row a b)}
def ZY {xs:List Int}(C:AD K H p (xs.map V.int))(h:∀u,ID (· ∈ xs) u->Q (oV u) H):IP K (.ref p) .non H Q:=by
 show{p,1,.inr C,λe=>?_,.inr {xs,0,λn I hm=>h (some n) ⟨I,hm⟩}};let:xs=[]:=by simpa using e
 show h none λq o=>by rw[this] at o;simp at o
structure FD (H:Hp)(rl ra:Addr)(rs:List Addr)(M:CV)(lB:List Int)(n:Int)(ts:List T3):Prop where
 tab:H rl=some (.tup (rs.map V.ref))
 rows:Er H rs M
 right:Rows ts n M
 rk:H ra=some (.lst (lB.map V.int))
 rln:lB.length=n.toNat
 web:GW n ts
def FD.same (L:FD H rl ra rs M lB n ts)(k:AE H H'):FD H' rl ra rs M lB n ts:={k _ _ L.tab,L.rows.same k,L.right,k _ _ L.rk,L.rln,L.web}
def FD.rank (L:FD H rl ra rs M lB n ts)(h0:0<=x)(o:x<n):(lB.map V.int)[x.toNat]?=some (.int (Cj lB x)):=by
 let:x.toNat<lB.length:=by rw[L.rln];lia
 rw[zK,zC this];unfold Cj;rw[zE,zC this];rfl
inductive ZZ (vs:List V)(H:Hp)(Q:VK):Prop
 | mk:∀(rl ra:Addr)(rs:List Addr)(M:CV)(lB:List Int)(n:Int)(ts:List T3)(h v:Int),(vs=[.ref rl,.ref ra,.int h,.int v])->(FD H rl ra rs M lB n ts)->(0<=h)->(h<n)->(0<=v)->(v<n)->(∀(b:Bool)(H':Hp),AE H H'->(b=true↔Ep ts (Cj lB) h v)->Q (.bl b) H')->ZZ vs H Q
def Ph:Sp:=λo H Q _=>ZZ o H Q
inductive Za (vs:List V)(H:Hp)(Q:VK):Prop
 | mk:∀(wa rl ra:Addr)(rs:List Addr)(M:CV)(lB:List Int)(n:Int)(ts:List T3)(v h:Int),(vs=[.ref wa,.ref rl,.int v,.int h])->(Af H wa n ts)->(FD H rl ra rs M lB n ts)->(0<=h)->(h<n)->(0<=v)->(v<n)->(Ep ts (Cj lB) h v)->(∀(a:Addr)(e:En)(H':Hp),AE H H'->H' a=some (.tup (eV e))->e.h=h->Vb ts n (Cj lB) v e->Q (.ref a) H')->Za vs H Q
def OZ:Sp:=λo H Q _=>Za o H Q
inductive YZ (vs:List V)(H:Hp)(Q:VK):Prop
 | mk:∀(wa rl ra:Addr)(rs:List Addr)(M:CV)(lB:List Int)(n:Int)(ts:List T3)(v:Int),(vs=[.ref wa,.ref rl,.ref ra,.int v])->(Af H wa n ts)->(FD H rl ra rs M lB n ts)->(0<=v)->(v<n)->(∀(a:Addr)(es:List En)(H':Hp),AE H H'->BN H' a es->Ge ts n (Cj lB) v es->Q (.ref a) H')->YZ vs H Q
def Qz:Sp:=λo H Q _=>YZ o H Q
def OU:zl ["rows","ranks","hub","place"] HL.p (defScope HL.s):=AK
def MO (wz:Ws P w K mg base PT C D):Fz P w K mg base 2 HL Ph:=by
 show wz.Ih.okZ OU λ_ _ A _ _ H vs Q E hr h=>?_;let{rl,ra,rs,M,lB,n,ts,h,v,0,L,h0,h1,v0,v1,k}:=h;let G:=L.web;let mC:=G.n24;show{_,zN (AU (zt CS (zm AM (zm AM (pv 0) (pv 2)) (pv 3)) Ax (zw _)) (zX (zu GS)) AV)
  (zX (zu (AZ (JX rfl) wz.mAll (zB (BB (own:=["other"]) (cn:=["ranks","hub"]) (ci:=[1,2]) rfl (Ai rfl rfl) {9,9,trivial} rfl
   (Bo (AF (MC wz) hr (zB (zm AM (pv 0) (pv 2)) (zB (zm AM (pv 0) (pv 3)) (zB (pv 3) zJ))))) (λ_ _ _ _=>Ah)
   (λ_ _ _ _=>A8) (λ_ _ _ _=>BS UQ (zm DX (pv 1) (pv 2)) (zm DX (pv 1) (pv 0)) (zw _))) zJ)))),?_}
 let{rh,gh,hh,Lh}:=L.rows.at L.right h0 h1;let{rv,gv,hv,Lv}:=L.rows.at L.right v0 v1;let I:=Lh.len v v0 v1;show{4,rl,3,.ref rh,2,AD.of L.tab,Ac h0 gh,1,rh,3,oV (AY (M.getD h.toNat []) v),2,AD.of hh,Ac v0 (Fx Lh v0 v1),6,?_};rw[N9];cases ed:AY (M.getD h.toNat []) v with
 | none=>rw[ed] at I;show CB ?_;show k false H (AE.refl _) {(λz=>by cases z),(λz=>by let{d,hd}:=z.1;show absurd hd.1 (I d))}
 | some d=>
  rw[ed] at I;show Ao ?_;show{4,rl,3,.ref rh,2,AD.of L.tab,Ac h0 gh,4,rl,3,.ref rv,2,AD.of L.tab,Ac v0 gv,1,rh,rv,n,ts,h,v,7,G,h0,h1,v0,v1,hh,hv,Lh,Lv,λl xs H1 s1 hl mf mj=>?_};let hxr:∀p∈xs,0<=p/\p<n:=λp U=>by let{a,b,ia,_}:=(mj p).mp U;show ia.1.in_ G h0 h1
  let hxl:xs.length<=24:=by
   let:=nd_len (n:=n.toNat) (l:=xs) (mf.imp λz=>()) λx hx=>by let:=hxr x hx;lia
   lia
  show{l,0,{_,AD.of hl},[.ref ra,.int h],0,λD hD=>?_};let hra:=s1 _ _ L.rk;show CH (a:=l) (xs:=xs.map V.int) (λi ys H4=>ys=((xs.take i).map λp=>decide (Cj lB h<=Cj lB p)).map V.bl/\H4=upd H1 D (.lst ys)) {2} (λi ys H4 z=>?_) (λi ys H4 z=>?_) (λi x ys H4 hx z=>?_) (λys H4 z=>?_)
  . let{1}:=z;show AD.of (by rwa[zg (zp hl hD)])
  . let{0,_}:=z;rw[zA,zA,zi];show BJ ()
  . let{2}:=z;obtain⟨p,U,rfl⟩:∃p,xs[i]?=some p/\V.int p=x:=by
     rw[zK] at hx;cases e:xs[i]? with
     | none=>rw[e] at hx;cases hx
     | some p=>rw[e] at hx;show{p,0,zT hx}
    let hpr:=hxr p (zQ U);let J:=zG (o:=.lst (((xs.take i).map λp=>decide (Cj lB h<=Cj lB p)).map V.bl)) hD _ _ hra;show{{2},?_};show A7 ?_;show{4,ra,3,.int (Cj lB h),2,AA.of J,Ac h0 (L.rank h0 h1),4,ra,3,.int (Cj lB p),2,AA.of J,Ac hpr.1 (L.rank hpr.1 hpr.2),5,zF,?_,Bp};rw[ze,U,zO,zO];rfl
  . let{2}:=z;rw[zA,zR (zL _)];show{D,1,AA.of zF,?_};show k _ _ (s1.trans (zG hD)) {λz=>{⟨d,I⟩,λp U=>?_},λz=>Ea.mpr λb hb=>?_}
    . let:=Ea.mp z _ (zy.mpr {p,(mj p).mpr U,0});show of_decide_eq_true this
    . let{p,U,0}:=zy.mp hb;show zY (z.2 p ((mj p).mp U))
def Vg:zl ["web","rows","place","hub","up","down"] G7.p (defScope G7.s):=AK
def J4 (I:Ws P w K mg base PT C D):Fz P w K mg base 3 G7 OZ:=by
 show I.Eb.okZ Vg λ_ _ A _ _ H vs Q E hr h=>?_;let{wa,rl,ra,rs,M,lB,n,U,v,h,0,W,L,h0,o,v0,v1,hh,k}:=h;let hu:=RT hr;show{_,zN (AX (i:=4) Vg.nd (U9 rfl hu (by rfl) I.mMin (zB (AF (Yd I) hr (zB (pv 0) (zB (pv 2) (zB (zm AM (pv 1) (pv 3)) zJ)))) zJ) Ax))
  (zN (AX (i:=5) Vg.nd (U9 rfl hu (by rfl) I.mMin (zB (AF (Yd I) hr (zB (pv 0) (zB (pv 3) (zB (zm AM (pv 1) (pv 2)) zJ)))) zJ) Ax))
  (zX (zu (BY (zB (pv 3) (zB (zm AM (zm AM (pv 1) (pv 2)) (pv 3)) (zB (pv 4) (zB (pv 5) zJ)))))))),?_}
 let{rh,gh,ha,Lh}:=L.rows.at L.right h0 o;let{J,gv,hv,Lv}:=L.rows.at L.right v0 v1;show{4,4,rl,3,.ref rh,2,AD.of L.tab,Ac h0 gh,wa,rh,n,U,v,h,1,W,v0,v1,h0,o,ha,Lh,λl1 xs H1 s1 k8 _ hm1=>?_};show{1,?_};unfold tC;show ZY (AD.of k8) λu hu1=>?_;let L1:=L.same s1;show{4,4,rl,3,.ref J,2,AD.of L1.tab,Ac v0 gv,wa,J,n,U,h,v,1,W.keep s1,h0,o,v0,v1,s1 _ _ hv,Lv,λl2 ys H2 s2 kY _ hm2=>?_};show{1,?_};dsimp only;show ZY (AD.of kY) λd hd1=>?_;let lS:=s1.trans s2;let oS:=L.same lS;let{dd,oQ}:=hh.1;let lv:=A9.uniq (Lv.len h h0 o) (show A9 U v h (some dd) from WM.IsD.symm oQ);show{1,4,rl,3,.ref J,2,AD.of oS.tab,Ac v0 gv,1,J,3,.int dd,2,AD.of (lS _ _ hv),Ac h0 (by rw[Fx Lv h0 o,lv];rfl),4,Qi,λa lG=>?_};show k a ⟨h,dd,u,d⟩ _ (lS.trans (zG lG)) zF rfl {⟨h0,o⟩,hh,WM.IsD.symm oQ,hu1.congr hm1,hd1.congr hm2}
def jR (R:Rows ts n M)(x0:0<=x)(x1:x<n)(J:0<=y)(U:y<n)(h:WM.IsD ts x y d):0<=d/\d<=2376:=by
 let L:=R.2 x x0 x1;let l:=L.len y J U;cases e:AY (M.getD x.toNat []) y with
 | none=>rw[e] at l;show absurd h.1 (l d)
 | some C=>
  rw[e] at l;let ed:C=d:=WM.IsD.uniq l h;subst ed;show L.bd (some C) ?_ C rfl;unfold AY at e;rw[if_pos J,zE] at e;cases I:(M.getD x.toNat [])[y.toNat]? with
  | none=>rw[I] at e;cases e
  | some o=>rw[I] at e;let eo:o=some C:=e;rw[<-eo];show zQ I
def EM (n:Int)(os:List Int)(o:Int->Int):Prop:=∀p,0<=p->p<n->0<=o p/\os[(o p).toNat]?=some p
def Hz (ts:List T3)(n:Int)(o:Int->Int)(ess:List (List En)):Prop:=ess.length=n.toNat/\∀(i:Nat)es,ess[i]?=some es->Ge ts n o i es
inductive aP (PT:Addr)(vs:List V)(H:Hp)(Q:VK):Prop
 | mk:∀(wa p:Addr)(n:Int)(ts:List T3)(os:List Int),(vs=[.ref wa,.ref p])->(Af H wa n ts)->(H p=some (.tup (os.map V.int)))->(ET n os)->(Tb H PT)->(∀(l:Addr)(ess:List (List En))(rk:Int->Int)(H':Hp),A0 H H'->Tb H' PT->CW H' l ess->EM n os rk->Hz ts n rk ess->(∀es∈ess,∀e∈es,0<=e.l/\e.l<=2376)->Q (.ref l) H')->aP PT vs H Q
def QI (PT:Addr):Sp:=λo H Q _=>aP PT o H Q
def ET.mem {os:List Int}(O:ET n os)(h0:0<=p)(C:p<n):p∈os:=by
 apply F9;intro o;let:=nd_len (n:=n.toNat) (l:=p::os) (ER.mpr ⟨o,O.nd⟩) λx hx=>by
  rcases zZ.mp hx with rfl | hx
  . lia
  . let:=O.rng x hx;lia
 rw[zj,O.ln] at this
 lia
def Ib:zl ["web","rows","ranks","place","hubs"] HH.p (defScope HH.s):=AK
def Mg (wz:Ws P w K mg base PT C D):Fz P w K mg base 4 HH Qz:=by
 show wz.Lb.okZ Ib λ_ _ A _ _ H vs Q E hr h=>?_;let{wa,rl,ra,rs,M,lB,n,ts,v,0,W,L,v0,v1,k}:=h;let{ta,tys,kc,3,G}:=id W;let oq:=G.n1;let mC:=G.n24;show{_,zN (DZ (i:=4) (own:=["hub"]) (cn:=["rows","ranks","place"]) (ci:=[1,2,3]) Ib.nd rfl (Or.inl rfl) rfl (Ai rfl rfl) {9,9,9,trivial} rfl
  (CO rfl wz.mRange (zB (zm AM (pv 0) zb) zJ)) (λ_ _ _ _=>Ah)
  (λ_ _ _ _=>De (BR (AF (MO wz) hr (zB (pv 1) (zB (pv 2) (zB (pv 0) (zB (pv 3) zJ))))))) (λ_ _ _ _=>pv 0))
  (zX (zu (Aq Ct wz.mTuple (zB (BB (own:=["hub"]) (cn:=["web","rows","place"]) (ci:=[0,1,3]) rfl (Ai rfl rfl) {9,9,9,trivial} rfl
   (CQ (pv 4)) (λ_ _ _ _=>Ah) (λ_ _ _ _=>A8)
   (λ_ _ _ _=>AF (J4 wz) hr (zB (pv 1) (zB (pv 2) (zB (pv 3) (zB (pv 0) zJ)))))) zJ)))),?_}
 show{1,wa,_,5,AD.of kc,0,n,0,(),(),[.ref rl,.ref ra,.int v],0,λD hD=>?_};show Dw (lo:=0) (n:=n.toNat) (λq I H3=>q<=n.toNat/\(∃o:List Int,I=o.map V.int/\o.Pairwise (· < ·)/\∀p,p∈o↔(0<=p/\p<(q:Int))/\Ep ts (Cj lB) p v)/\AE H H3/\H3 D=some (.lst I)) {zd _,{[],0,JP,λp=>{λz=>by simp at z,λz=>absurd z.1 ()}},zG hD,zF} (λq I H3 z=>?_) (λq I H3 hq z=>?_) (λI H3 z=>?_)
 . let{hq,{o,0,U,hm},_}:=z;rw[zA];let:=nd_len (n:=q) (l:=o) (U.imp λz=>()) λx J=>by let:=((hm x).mp J).1;lia
   show BJ ()
 . let{_,{o,0,U,hm},s3,lA}:=z;rw[CC];show{{2},?_};show{4,4,rl,ra,rs,M,lB,n,ts,q,v,0,L.same s3,(),(),v0,v1,λb H4 s4 hb=>?_};show{1,?_};show BU (λc=>?_) (λc=>?_)
   . show{1,s4 _ _ lA,hq,{o++[(q:Int)],by rw[zO];rfl,List.pairwise_append.mpr {U,List.pairwise_singleton _ _,λa ha b lH=>?_},λp=>?_},A4 (s3.trans s4) hD,zF}
     . let:b=(q:Int):=by simpa using lH
       let:=((hm a).mp ha).1
       lia
     . rw[Bu,hm];constructor
       . rintro (⟨a,b⟩ | a)
         . show{(),b}
         . let:p=(q:Int):=by simpa using a
           subst this;show{(),hb.mp c}
       . rintro ⟨a,b⟩;by_cases e:p=(q:Int)
         . show .inr (by simpa using e)
         . show .inl {(),b}
   . show{hq,{o,0,U,λp=>?_},s3.trans s4,s4 _ _ lA};rw[hm];constructor
     . rintro ⟨a,b⟩;show{(),b}
     . rintro ⟨a,b⟩;show{?_,b};let:p≠(q:Int):=λz=>by subst z;show c (hb.mpr b)
       lia
 . let{_,{o,0,U,hm},s3,lA}:=z;let hsl:o.length<=24:=by
    let:=nd_len (n:=n.toNat) (l:=o) (U.imp λz=>()) λx J=>by let:=((hm x).mp J).1;lia
    lia
   show{1,D,0,{_,AA.of lA},[.ref wa,.ref rl,.int v],0,λD2 ke=>?_};show DJ (a:=D) (xs:=o.map V.int) (λi I H5=>i<=o.length/\(∃(as:List Addr)(es:List En),I=as.map V.ref/\EY H5 as es/\es.map (·.h)=o.take i/\∀e∈es,Vb ts n (Cj lB) v e)/\AE H3 H5/\H5 D2=some (.lst I)) {zd _,{[],[],0,{0,λi a z=>by simp at z},0,by simp},zG ke,zF} (λi I H5 z=>?_) (λi I H5 z=>?_) (λi x I H5 J z=>?_) (λI H5 z=>?_)
   . show AA.of (z.2.2.1 _ _ lA)
   . let{_,{as,es,0,EA,em,_},_}:=z;let:=congrArg List.length em;rw[zA,zi] at this;rw[zA,EA.1];show BJ ()
   . let{_,{as,es,0,EA,em,he},s5,k7}:=z;obtain⟨p,hpi,rfl⟩:∃p,o[i]?=some p/\V.int p=x:=by
      rw[zK] at J;cases e:o[i]? with
      | none=>rw[e] at J;cases J
      | some p=>rw[e] at J;show{p,0,zT J}
     let mi:=(hm p).mp (zQ hpi);let s35:=s3.trans s5;show{{2},?_};show A7 ?_;show{4,4,wa,rl,ra,rs,M,lB,n,ts,v,p,0,W.keep s35,L.same s35,(),(),v0,v1,mi.2,λa e H6 s6 ha ep he'=>?_};show{s6 _ _ k7,(zH.mp hpi).1,{as++[a],es++[e],by rw[zO];rfl,(EA.keep λb zs z=>?_).snoc ?_,?_,λx kZ=>?_},A4 (s5.trans s6) ke,zF}
     . rw[zg (AJ z k7 (by intro y;cases y))];show s6 _ _ z
     . rwa[zg (AJ ha (s6 _ _ k7) (by intro y;cases y))]
     . rw[zO,em,ze,hpi,<-ep];rfl
     . rcases Bu.mp kZ with z | z
       . show he x z
       . let:x=e:=by simpa using z
         subst this;show he'
   . let{_,{as,es,0,EA,em,he},s5,k7}:=z;rw[zA,zR (zL _)] at em;let hel:es.length<=24:=by let:=congrArg List.length em;rw[zA] at this;lia
     show{D2,1,.inl {AA.of k7,λl hl=>?_}};show k l es _ ((s3.trans s5).trans (zG hl)) {as,zF,EA.keep λb zs z=>zG hl _ _ z,()} {?_,he,λh h0 h1 z=>?_,hel}
     . let:=U;rwa[<-em,DK] at this
     . let:h∈es.map (·.h):=by rw[em];show (hm h).mpr {(),z}
       let{e,e1,e2}:=zy.mp this;show⟨e,e1,e2⟩
def UZ:zl ["web","order","rows","ranks"] Hf.p (defScope Hf.s):=AK
def Y6 (wz:Ws P w K mg base PT C D):Fz P w K mg base 5 Hf (QI PT):=by
 show wz.By.okZ UZ λ_ _ A _ _ H vs Q E hr h=>?_;let{wa,p,n,ts,os,0,W,hp,O,T,k}:=h;let{ta,tys,kc,3,G}:=id W;let oq:=G.n1;let mC:=G.n24;show{_,zN (AU (CM (BR (AF (Mi wz) hr (zB (pv 0) (zB (pv 1) zJ))))) (zX N7) AV)
  (zN (C8 (i:=2) UZ.nd rfl (Or.inr rfl) (AF (jG wz) hr (zB (pv 0) zJ)))
  (zN (C8 (i:=3) UZ.nd rfl (Or.inr rfl) (BB (own:=GI) (cn:=["order"]) (ci:=[1]) rfl (Ai rfl rfl) {9,trivial} rfl
   (CO rfl wz.mRange (zB (zm AM (pv 0) zb) zJ)) (λ_ _ _ _=>Ah) (λ_ _ _ _=>A8)
   (λ_ _ _ _=>Mp PySem.F.slot_tuple_index PySem.F.type_tuple_index iS (pv 1) (zB (pv 0) zJ))))
  (zX (zu (Aq Ct wz.mTuple (zB (BB (own:=GI) (cn:=["web","rows","ranks"]) (ci:=[0,2,3]) rfl (Ai rfl rfl) {9,9,9,trivial} rfl
   (CO rfl wz.mRange (zB (zm AM (pv 0) zb) zJ)) (λ_ _ _ _=>Ah) (λ_ _ _ _=>A8)
   (λ_ _ _ _=>AF (Mg wz) hr (zB (pv 1) (zB (pv 2) (zB (pv 3) (zB (pv 0) zJ)))))) zJ)))))),?_}
 show{4,wa,p,n,ts,os,0,W,hp,O,λH0 s0=>?_};show{1,Ao ?_};show{1,wa,n,ts,0,W.keep s0,T.same s0,λrl rs M H1 sm1 T1 hrl RA RR=>?_};let U:A0 H H1:=(A0.of s0).trans sm1;let hwa1:H1 wa=some (.tup [.int n,.ref ta]):=U.get kc (by intro ps z;cases z);let lF:H1 p=some (.tup (os.map V.int)):=U.get hp (by intro ps z;cases z);let W1:Af H1 wa n ts:=W.smT U;show{1,wa,_,5,AD.of hwa1,0,n,0,(),(),[.ref p],0,λD hD=>?_};show Dw (lo:=0) (n:=n.toNat) (λq ys H3=>q<=n.toNat/\(∃I:List Int,ys=I.map V.int/\I.length=q/\∀(j:Nat)(x:Int),I[j]?=some x->0<=x/\os[x.toNat]?=some (j:Int))/\H3=upd H1 D (.lst ys)) {zd _,{[],2,λj x z=>by simp at z},0} (λq ys H3 z=>?_) (λq ys H3 hq z=>?_) (λys H3 z=>?_)
 . let{_,{I,0,hl,_},_}:=z;rw[zA];show BJ ()
 . let{_,{I,0,hl,hrk},0}:=z;rw[CC];let{i,hi,ei}:=CP (O.mem (p:=(q:Int)) () ());let om:os[i]?=some (q:Int):=by rw[zC hi,ei]
   let hp3:=zG (o:=.lst (I.map V.int)) hD _ _ lF;show{{2},?_};show A7 ?_;show{1,{p,1,hp3},1,p,os,i,q,2,AD.of hp3,om,λj hj e=>?_,zF,hq,{I++[(i:Int)],by rw[zO];rfl,by rw[zS,hl];rfl,λj x hx=>?_},Bp}
   . let{hj',ej}:=zH.mp e;show EZ.mp (List.nodup_iff_pairwise_ne.mp O.nd) j i hj' hi hj (by rw[ej,ei])
   . by_cases c:j<I.length
     . rw[zV c] at hx;show hrk j x hx
     . let hj:j=q:=by let:=(zH.mp hx).1;rw[zS] at this;simp at this;lia
       subst hj;rw[zW (),hl,E4] at hx;let:(i:Int)=x:=by simpa using hx
       subst this;show{(),om}
 . let{_,{I,0,hl,hrk},0}:=z;let sD:AE H1 (upd H1 D (.lst (I.map V.int))):=zG hD;let hDr:(upd H1 D (.lst (I.map V.int))) D=some (.lst (I.map V.int)):=zF;generalize upd H1 D (.lst (I.map V.int))=H4 at sD hDr ⊢;let L:FD H4 rl D rs M I n ts:={sD _ _ hrl,RA.same sD,RR,hDr,hl,G};let W4:=W1.keep sD;show{1,wa,_,5,AD.of (sD _ _ hwa1),0,n,0,(),(),[.ref wa,.ref rl,.ref D],0,λD2 ke=>?_};show Dw (lo:=0) (n:=n.toNat) (λq ys H5=>q<=n.toNat/\(∃(as:List Addr)(J:List (List En)),ys=as.map V.ref/\as.length=q/\J.length=q/\(∀(i:Nat)(a:Addr),as[i]?=some a->∃es,J[i]?=some es/\BN H5 a es)/\∀(i:Nat)(es:List En),J[i]?=some es->Ge ts n (Cj I) i es)/\AE H4 H5/\H5 D2=some (.lst ys)) {zd _,{[],[],9,λi a z=>by simp at z,λi a z=>by simp at z},zG ke,zF} (λq ys H5 z=>?_) (λq ys H5 hq z=>?_) (λys H5 z=>?_)
   . let{_,{as,J,0,h1,_},_}:=z;rw[zA];show BJ ()
   . let{_,{as,J,0,h1,h2,h3,h4},s5,k7}:=z;rw[CC];show{{2},?_};show A7 ?_;show{4,4,wa,rl,D,rs,M,I,n,ts,q,0,W4.keep s5,L.same s5,(),(),λa es H6 s6 la lo=>?_};show{s6 _ _ k7,hq,{as++[a],J++[es],by rw[zO];rfl,by rw[zS,h1];rfl,by rw[zS,h2];rfl,λi b hb=>?_,λi nr he=>?_},A4 (s5.trans s6) ke,zF}
     . let keep:∀c zs,H6 c=some (.tup zs)->(upd H6 D2 (.lst (as.map V.ref++[.ref a]))) c=some (.tup zs):=λc zs z=>by rwa[zg (AJ z (s6 _ _ k7) (by intro y;cases y))]
       by_cases c:i<as.length
       . rw[zV c] at hb;let{nr,e1,e2}:=h3 i b hb;show{nr,by rwa[zV ()],(e2.same s6).keep keep}
       . let hi:i=q:=by let:=(zH.mp hb).1;rw[zS] at this;simp at this;lia
         subst hi;rw[zW (),h1,E4] at hb;let:a=b:=by simpa using hb
         subst this;show{es,by rw[zW (),h2,E4];rfl,la.keep keep}
     . by_cases c:i<J.length
       . rw[zV c] at he;show h4 i nr he
       . let hi:i=q:=by let:=(zH.mp he).1;rw[zS] at this;simp at this;lia
         subst hi;rw[zW (),h2,E4] at he;let:es=nr:=by simpa using he
         subst this;show lo
   . let{_,{as,J,0,h1,h2,h3,h4},s5,k7}:=z;show{D2,1,.inl {AA.of k7,λl k9=>?_}};let s6:AE H1 (upd H5 l (.tup (as.map V.ref))):=(sD.trans s5).trans (zG k9);show k l J (Cj I) _ (U.trans (A0.of s6)) (T1.same s6) {as,zF,(),λi a ha=>?_} (λp h0 h1'=>?_) ⟨h2,h4⟩ ?bound
     case bound=>
      intro es m8 e he;let{i,hi,ei}:=CP m8;let EO:=(h4 i es (by rw[zC hi,ei])).ent e he;show jR RR () () EO.rng.1 EO.rng.2 EO.len
     . let{es,e1,e2}:=h3 i a ha;show{es,e1,e2.same (zG k9)}
     . let kS:p.toNat<I.length:=()
       let e:I[p.toNat]?=some (Cj I p):=by unfold Cj;rw[zE,zC kS];rfl
       let{a,b}:=hrk _ _ e;show{a,by rw[b,E8 h0]}
structure Hr (ts:List T3)(n:Int)(ess:List (List En)):Prop where
 ln:ess.length=n.toNat
 lg:∀(i:Nat)(es:List En),ess[i]?=some es->LG ts n i es
 cov:∀(i j:Nat)(es fs:List En),ess[i]?=some es->ess[j]?=some fs->HV ts i j es fs
def ID.some_of {P:Int->Prop}(h:ID P o)(C:P p):∃m,o=some m/\P m:=by
 cases o with
 | none=>show absurd C (h p)
 | some m=>show{m,0,h.1}
def Ge.lg (G:GW n ts)(L:Ge ts n rk v es)(v0:0<=v)(v1:v<n):LG ts n v es:=by
 show{L.hub,λe he=>?_,?_}
 . let E:=L.ent e he;show{E.rng,E.len,λC=>?_,λC=>?_}
   . let{p,o}:=B8.exists G E.len (Ne.symm C);show E.up.some_of o
   . let{p,o}:=B8.exists G E.len.symm C;show E.dn.some_of o
 . show L.all v v0 v1 {⟨0,Je G v⟩,λp o=>?_};let{a,b,I,U,J}:=o;let e0:a+b=0:=J.uniq (Je G v);let:=I.1.nn G;let:=U.1.nn G;let:a=0:=()
   rw[<-(JO G I).mp this];show C1 _
def Hz.good (G:GW n ts){os:List Int}(R:EM n os rk)(L:Hz ts n rk ess):Hr ts n ess:=by
 let hln:=L.1;let inr:∀(i:Nat)(es:List En),ess[i]?=some es->(0:Int)<=i/\(i:Int)<n:=λi es h=>by
  let:=(zH.mp h).1
  lia
 show{L.1,λi es h=>(L.2 i es h).lg G (inr i es h).1 (inr i es h).2,λi j es fs hi hj d hd=>?_};let{p,J,lD}:=Y1 (P:=Be ts i j) rk (rk (i:Int)).toNat i (Be.self G hd) (zL _);let o:=inr i es hi;let{a,b,ia,ib,nJ}:=id J;let C:=ia.1.in_ G o.1 o.2;let le:∀q,Be ts i j q->rk p<=rk q:=λq I=>by
  let{a',b',U,_}:=id I;let qr:=U.1.in_ G o.1 o.2;let h1:=lD q I;let h2:=(R p C.1 C.2).1;let h3:=(R q qr.1 qr.2).1
  lia
 show{p,J,(L.2 i es hi).all p C.1 C.2 {⟨a,ia.symm⟩,λq I=>le q (J.trans I.symm)},(L.2 j fs hj).all p C.1 C.2 {⟨b,ib⟩,λq I=>le q (J.symm.trans I.symm).symm}}
def Zs:∀(l:List Int)(k:Nat),(l.map V.int).eraseIdx k=(l.eraseIdx k).map V.int
 | [],_=>rfl
 | _::_,0=>rfl
 | x::r,k+1=>by change V.int x::(r.map V.int).eraseIdx k=V.int x::(r.eraseIdx k).map V.int;rw[Zs r k]
def b8:∀{l:List Int}{k:Nat}(h:k<l.length),(l[k]::l.eraseIdx k).Perm l
 | [],_,h=>absurd h (Eu _)
 | _::_,0,_=>List.Perm.refl _
 | x::r,k+1,h=>by
  let o:k<r.length:=by simpa using h
  change (r[k]::x::r.eraseIdx k).Perm (x::r);show (List.Perm.swap x r[k] _).trans ((b8 o).cons x)
def MF:Sp:=λo H Q _=>∃t,∃(N:Nat)(n:Int),o=[.ref t,.int n]/\Ap H t N/\N<900000/\0<=n/\n<=24 /\
 ∀pa(os:List Int)H',H pa=none->H' pa=some (.tup (os.map V.int))->os.Perm (lowTo n.toNat)->Ap H' t (N+24)->Sm t H H'->Q (.ref pa) H'
structure OW (H:Hp)(t p lf D:Addr)(n:Nat)(N:Nat)(row left:List Int)(H2:Hp):Prop where
 pm:(row++left).Perm (lowTo n)
 lf:H2 lf=some (.lst (left.map V.int))
 ls:H2 D=some (.lst (row.map V.int))
 tp:BL H2 t p (N+row.length)
 sm:Sm t H H2
def OW.on {lf:Addr}{left:List Int}(h:OW H t p lf D n N row left H2)(s:AE H2 H3):OW H t p lf D n N row left H3:={h.pm,s _ _ h.lf,s _ _ h.ls,h.tp.same s,h.sm.trans (Sm.of s)}
def VS:zl ["_law_feed_here","_law_many","_law_left","_law_found"] Rk.p (defScope Rk.s):=AK
def ZJ (wz:Ws P w K mg base PT C D):Fz P w K mg base 2 Rk MF:=by
 show wz.Od.okZ VS λ_ _ A _ _ H vs Q E hr h=>?_;let{t,N,many,0,TT,hN,oK,hm24,k}:=h;let{p,T1}:=TT;let mV:=hr.units0;show{_,zN (AX (i:=2) VS.nd (gD rfl rfl wz.mList rfl wz.mRange (zB (pv 1) zJ)))
  (zN (AX (i:=3) VS.nd (BA zJ))
  (zN (Vi PassesOwn.never (zt (LN mV) (pv 2) (BA zJ) (zw _))
   (zX (Ca (BE PySem.F.plainAttrs_list PySem.F.slot_list_append PySem.F.type_list_append Ej (pv 3)
    (zB (BE PySem.F.plainAttrs_list PySem.F.slot_list_pop PySem.F.type_list_pop gL (pv 2)
     (zB (AF (C5 wz) hr (zB (pv 0) (zB (AZ CD wz.mLen (zB (pv 2) zJ)) zJ))) zJ)) zJ)))))
  (zX (zu (Aq Ct wz.mTuple (zB (pv 3) zJ)))))),?_}
 show{1,many,0,(),(),λlf I=>?_};let nlt:lf≠t:=(T1.ne I).1;let nlp:lf≠p:=(T1.ne I).2;show{zd _,λD hD=>?_};let mM:H D=none:=CI (zG I) hD;let nDt:D≠t:=(T1.ne mM).1;let nDp:D≠p:=(T1.ne mM).2;let nDl:D≠lf:=λz=>by rw[z,zF] at hD;cases hD
 let W0:OW H t p lf D many.toNat N [] (lowTo many.toNat) (upd (upd H lf (.lst ((lowTo many.toNat).map V.int))) D (.lst [])):=
  {List.Perm.refl _,zG hD _ _ zF,zF,(T1.laid I).laid hD,(Sm.laid I).trans (Sm.laid hD)}
 generalize upd (upd H lf (.lst ((lowTo many.toNat).map V.int))) D (.lst [])=H2 at W0 ⊢;show{λm σ H3=>∃(row left:List Int),σ=[some (.ref t),some (.int many),some (.ref lf),some (.ref D)]/\m=left.length/\OW H t p lf D many.toNat N row left H3,{_,[],lowTo many.toNat,2,W0},?_};rintro m σ H3 ⟨row,left,rfl,rfl,W⟩;let oE:row.length+left.length=many.toNat:=by let:=W.pm.length_eq;rw[zS,Ht] at this;show this
 show{1,G8,λe0 pB=>?_};let W1:=W.on (zG (o:=.lst []) pB);let h00:(upd H3 e0 (.lst [])) e0=some (.lst []):=zF;generalize upd H3 e0 (.lst [])=H4 at W1 h00 ⊢;show{lf,e0,_,2,AA.of W1.lf,AA.of h00,1,?_};show BU (λhc=>?_) (λhc=>?_)
 . let m7:0<left.length:=by
    cases left with
    | nil=>cases hc
    | cons _ _=>show Nat.succ_pos _
   show{λσ' H'=>∃(oX nZ:List Int),σ'=[some (.ref t),some (.int many),some (.ref lf),some (.ref D)]/\nZ.length<left.length/\OW H t p lf D many.toNat N oX nZ H',λσ' H' ⟨oX,nZ,e,kS,W'⟩=>{_,kS,oX,nZ,e,0,W'},?_};show{1,.inl {0,_,AA.of W1.ls},1,.inl {0,_,AA.of W1.lf},?_};show{4,lf,1,.inl (AA.of W1.lf),t,p,7,W1.tp,(),by rw[zA];lia,by rw[zA];lia,λJ H5 h0 h1 T5 e5=>?_};rw[zA] at h1;let kS:J.toNat<left.length:=()
   show{lf,left.map V.int,J,J.toNat,.int left[J.toNat],2,by rw[e5 lf nlt];show W1.lf,(),(),PySem.StrLaws.seqIndex_nonneg h0 (by rw[zA];lia),by rw[zK,zC kS];rfl,?_};rw[Zs left J.toNat];show{D,5,by rw[zg nDl,e5 D nDt];show W1.ls,by rw[zA];show BJ (),?_};show{row++[left[J.toNat]],left.eraseIdx J.toNat,0,by rw[List.length_eraseIdx,if_pos kS];lia,?_};show{?_,by rw[zg nDl.symm,zF],by rw[zO];show zF,?_,((W1.sm.trans (Bi e5)).chg I).chg mM}
   . show List.Perm.trans ?_ W1.pm;rw[List.append_assoc];show (b8 kS).append_left row
   . rw[zS];show ((T5.upd nlt nlp).upd nDt nDp).mono (by simp;lia)
 let U:left=[]:=by
  cases left with
  | nil=>rfl
  | cons a r=>show absurd (show (!(List.map V.int (a::r)).isEmpty)=true from rfl) hc
 subst U;let hrl:row.length=many.toNat:=by simpa using oE
 let mi:row.Perm (lowTo many.toNat):=by let:=W1.pm;rwa [BW] at this
 show{1,D,1,.inl {AA.of W1.ls,λpa lZ=>?_}};let npt:pa≠t:=(W1.tp.ne lZ).1;let hpa0:H pa=none:=by
  cases q:H pa with
  | none=>rfl
  | some o=>rw[W1.sm _ _ npt q] at lZ;cases lZ
 show k pa row _ hpa0 zF mi {p,(W1.tp.laid lZ).mono ()} (W1.sm.trans (Sm.laid lZ))
def NP (h:PS X st u)(m:∀D σ H,u' D σ H->u D σ H):PS X st u':=λpins s σ H D I q=>h pins s σ H D I (m D σ H q)
def C4 (ts:List T3):Prop:=DF (ts.map tl)
def MY (h:tl s=tl t):s=t:=by let{a,b,c}:=s;let{I,C,o}:=t;unfold tl at h;simp only[List.cons.injEq,and_true] at h;let{9}:=h;rfl
def YQ:∀{a b:List (List Int)},DF a->DF b->a.Perm b->a=b
 | [],b,_,_,h=>(List.nil_perm.mp h).symm
 | x::xs,[],_,_,h=>by let:=h.length_eq;simp at this
 | x::xs,y::ys,ha,hb,h=>by
  let e:x=y:=by
   apply F9;intro ne;let C:x∈ys:=by
    rcases zZ.mp (h.mem_iff.mp zo) with z | z
    . show absurd z ne
    . show z
   let o:y∈xs:=by
    rcases zZ.mp (h.mem_iff.mpr zo) with z | z
    . show absurd z.symm ne
    . show z
   show ne (SD x y ((F1.mp hb).1 x C) ((F1.mp ha).1 y o))
  subst e;rw[YQ (F1.mp ha).2 (F1.mp hb).2 h.cons_inv]
def C4.uniq (a:C4 s)(b:C4 t)(h:s.Perm t):s=t:=by
 let e:=YQ a b (h.map tl);let inj:∀{s t:List T3},s.map tl=t.map tl->s=t:=by
  intro s
  induction s with
  | nil=>intro t e;cases t with
   | nil=>rfl
   | cons _ _=>cases e
  | cons x xs o=>
   intro t e;cases t with
   | nil=>cases e
   | cons y C=>rw[Bg,Bg] at e;injection e with e1 e2;rw[MY e1,o e2]
 show inj e
meta def Dt (a b:Int)(t:T3):Bool:=decide ([t.1,t.2.1]=[a,b])
def OC :Dt a b t=true↔t.1=a/\t.2.1=b:=by unfold Dt;simp
meta def Bz (a b:Int)(ts:List T3):List T3:=ts.filter λt=>!Dt a b t
meta def E7 (a b:Int):Option Int->List T3
 | none=>[]
 | some l=>[(a,b,l)]
meta def E6 (a b:Int)(ts:List T3):Option Int:=((ts.filter (Dt a b)).map (·.2.2)).head?
def C4.but (h:C4 ts):C4 (Bz a b ts):=by unfold C4 DF Bz at *;rw[DK] at *;show h.filter _
def NQ (a b)(ts):(Bz a b ts).length<=ts.length:=C7 _ _
def UO :∀{ts:List T3},(ts.Pairwise λs t=>¬ (s.1=t.1/\s.2.1=t.2.1))->ts.filter (Dt a b)=E7 a b (E6 a b ts)
 | [],_=>rfl
 | t::ts,h=>by
  let{h1,U}:=F1.mp h;let I:=UO (a:=a) (b:=b) U;unfold E6 at I ⊢;by_cases c:Dt a b t=true
  . let o:=OC.mp c;let no:ts.filter (Dt a b)=[]:=by apply List.filter_eq_nil_iff.mpr;intro x J z;let C:=OC.mp z;show h1 x J {o.1.trans C.1.symm,o.2.trans C.2.symm}
    rw[Np c,no];let{x,y,l}:=t;let{2}:=o;rfl
  . rwa[Nj c]
structure Cw (a b:Int)(lo:Option Int)(ts ku:List T3):Prop where
 pm:ku.Perm (Bz a b ts++E7 a b lo)
 sr:C4 ku
def Cw.uniq (x:Cw a b lo ts t1)(y:Cw a b lo ts t2):t1=t2:=x.sr.uniq y.sr (x.pm.trans y.pm.symm)
def Cw.strike (h:C4 ts):Cw a b none ts (Bz a b ts):={by rw[show E7 a b none=[] from rfl,BW],h.but}
def Cw.gw (G:GW n ts)(x:Cw a b lo ts t1)(h0:0<=a)(U:a<b)(J:b<n)(I:∀l,lo=some l->1<=l/\l<=99)(nS:(Bz a b ts).length<=60):GW n t1:=by
 show{G.n1,G.n24,?_,λt o=>?_,?_}
 . rw[x.pm.length_eq,zS];cases lo with
   | none=>change (Bz a b ts).length+0<64;lia
   | some l=>change (Bz a b ts).length+1<64;lia
 . rcases Bu.mp (x.pm.mem_iff.mp o) with q | q
   . show G.rng t (CZ.mp q).1
   . cases lo with
     | none=>cases q
     | some l=>rw[zf.mp q];show{h0,U,J,I l rfl}
 . show (List.Perm.pairwise_iff (R:=λs t:T3=>¬ (s.1=t.1/\s.2.1=t.2.1)) (λh e=>h ⟨e.1.symm,e.2.symm⟩) x.pm).mpr ?_;show List.pairwise_append.mpr {G.dis.filter _,?_,λs C t o e=>?_}
   . cases lo with
     | none=>show JP
     | some l=>show List.pairwise_singleton _ _
   . cases lo with
     | none=>cases o
     | some l=>rw[zf.mp o] at e;let:=(CZ.mp C).2;rw[OC.mpr e] at this;cases this
def jP:∀a b c d:Fin 9,a<b->c<d->b.val*(b.val-1)/2+a.val=d.val*(d.val-1)/2+c.val->a=c/\b=d:=by decide +kernel
def LU:∀a b:Fin 9,a<b->b.val*(b.val-1)/2+a.val<36:=by decide +kernel
def GW.few (G:GW n ts)(h9:n<=9):ts.length<=36:=by
 let f:∀t:T3,t∈ts->∃a b:Fin 9,a<b/\(a.val:Int)=t.1/\(b.val:Int)=t.2.1:=λt o=>by let{r1,r2,r3,_}:=G.rng t o;show{{t.1.toNat,by omega},{t.2.1.toNat,by omega},by change t.1.toNat<t.2.1.toNat;omega,by change ((t.1.toNat:Nat):Int)=_;omega,by change ((t.2.1.toNat:Nat):Int)=_;omega}
 let nd:(ts.map λt:T3=>((t.2.1.toNat*(t.2.1.toNat-1)/2+t.1.toNat:Nat):Int)).Nodup:=by
  rw[List.Nodup,DK];show G.dis.imp_of_mem λ{s t} hs o kb e=>?_;let{a,b,J,e1,e2}:=f s hs;let{c,d,cd,e3,e4}:=f t o;let I:s.1.toNat=a.val:=by omega
  let C:s.2.1.toNat=b.val:=by omega
  let z3:t.1.toNat=c.val:=by omega
  let U:t.2.1.toNat=d.val:=by omega
  rw[I,C,z3,U] at e;let{p,q}:=jP a b c d J cd (Int.ofNat.inj e);subst p q;show kb {by omega,by omega}
 let:=nd_len (n:=36) nd λx hx=>by
  let{t,o,0}:=zy.mp hx;let{a,b,J,e1,e2}:=f t o;let I:t.1.toNat=a.val:=by omega
  let C:t.2.1.toNat=b.val:=by omega
  let:=LU a b J;rw[I,C];omega
 rw[zA] at this;omega
meta def AO (x y:Int):Int:=if y<x then y else x
meta def AN (x y:Int):Int:=if y > x then y else x
def LX (C:0<=x/\x<n)(o:0<=y/\y<n)(ne:x≠y):0<=AO x y/\AO x y<AN x y/\AN x y<n:=by unfold AO AN;split <;> split <;> lia
def VO (G:GW n ts)(ne:x≠y):(∃l,Aw ts x y l)↔(E6 (AO x y) (AN x y) ts).isSome=true:=by
 let e:=UO (a:=AO x y) (b:=AN x y) G.dis;constructor
 . rintro ⟨l,h⟩;let:(AO x y,AN x y,l)∈ts.filter (Dt (AO x y) (AN x y)):=by
    show CZ.mpr {?_,OC.mpr {2}};unfold AO AN;rcases h with h | h
    . let:=(G.rng _ h).2.1;dsimp only at this;rwa[if_neg (),if_pos ()]
    . let:=(G.rng _ h).2.1;dsimp only at this;rwa[if_pos (),if_neg ()]
   cases z:E6 (AO x y) (AN x y) ts with
   | none=>rw[z] at e;rw[e] at this;cases this
   | some _=>rfl
 . intro h;let{l,z}:=N5.mp h;rw[z] at e;let:(AO x y,AN x y,l)∈ts:=(CZ.mp (by rw[e];show zf.mpr rfl)).1;show{l,?_};unfold AO AN at this;by_cases c:y<x
   . rw[if_pos c,if_neg ()] at this;show .inr this
   . rw[if_neg c,if_pos ()] at this;show .inl this
meta def Bq:Option Int->Int
 | none=>1000000
 | some d=>min d 1000000
meta def eI (o:Option Int):V:=.int (Bq o)
def Bx (H:Hp)(rs:List Addr)(M:CV):Prop:=rs.length=M.length/\rs.Nodup/\∀(i:Nat)r row,rs[i]?=some r->M[i]?=some row->H r=some (.lst (row.map eI))
def Bx.keep (h:Bx H rs M)(k:∀b ys,H b=some (.lst ys)->b∈rs->H' b=some (.lst ys)):Bx H' rs M:={h.1,h.2.1,λi r row a b=>k r _ (h.2.2 i r row a b) (zQ a)}
def Bx.same (h:Bx H rs M)(k:AE H H'):Bx H' rs M:=h.keep λb o e _=>k _ _ e
def Bx.get (h:Bx H rs M)(S:DQ n M)(C:0<=a)(U:a<n):∃r row,rs[a.toNat]?=some r/\M[a.toNat]?=some row/\M.getD a.toNat []=row/\row.length=n.toNat/\H r=some (.lst (row.map eI))/\∀y,AY row y=Cu M a y:=by
 let{row,J,I,h3}:=S.row C U;let o:a.toNat<rs.length:=by rw[h.1,S.ln];lia
 show{rs[a.toNat],row,zC o,J,I,h3,h.2.2 _ _ _ (zC o) J,λy=>by unfold Cu;rw[if_pos C,I]}
def Bx.set (h:Bx H rs M)(S:DQ n M)(ha:0<=a)(lG:a<n)(o:rs[a.toNat]?=some r)(I:M[a.toNat]?=some row):
 Bx (upd H r (.lst ((row.map eI).set b.toNat (eI v)))) rs (EX M a b v):=by
 show{by unfold EX;rw[List.length_set];show h.1,h.2.1,λi C J a1 a2=>?_};unfold EX at a2;rw[List.getElem?_set] at a2;let kS:a.toNat<M.length:=(zH.mp I).1;by_cases e:a.toNat=i
 . subst e;rw[if_pos rfl,if_pos kS] at a2;rw[o] at a1;cases a1;cases a2;rw[zF,zE,I,Option.getD_some,List.map_set]
 . rw[if_neg e] at a2;let U:C≠r:=λz=>by subst z;show e ((List.getElem?_inj ((zH.mp o).1) h.2.1).mp (o.trans a1.symm))
   rw[zg U];show h.2.2 i C J a1 a2
def R0 {row:List (Option Int)}(C:row.length=n.toNat)(h0:0<=y)(I:y<n):Bl (row.map eI) y=some (.int (Bq (AY row y))):=by
 let o:y.toNat<row.length:=()
 show Ac h0 ?_;rw[zK,zC o];unfold AY;rw[if_pos h0,zE,zC o];rfl
meta def Eo (a:Int)(j:Nat):List (Option Int):=(List.range j).map λ(b:Nat)=>if a=(b:Int) then some 0 else none
def g9 (a)(j):Eo a (j+1)=Eo a j++[if a=(j:Int) then some 0 else none]:=by unfold Eo;rw[List.range_succ,zO];rfl
def ZN (a)(j):(Eo a j).length=j:=by unfold Eo;rw[zA,Gq]
def fR {j:Nat}{y:Int}(h0:0<=y)(o:y<j):AY (Eo a j) y=if a=y then some 0 else none:=by
 unfold AY Eo;rw[if_pos h0,zE,zK,List.getElem?_range ()];change (if a=((y.toNat:Nat):Int) then some 0 else none)=_
 rw[show ((y.toNat:Nat):Int)=y by lia]
def fE (I:∀d,a=some d->0<=d)(C:∀d,b=some d->0<=d)(o:∀d,c=some d->0<=d):(if Bq b+Bq c<Bq a then Bq b+Bq c else Bq a)=Bq (EN a (FL b c)):=by
 cases a with
 | none=>cases b with
  | none=>cases c with
   | none=>change (if (1000000:Int)+1000000<1000000 then _ else _)=1000000;rw[if_neg ()];rfl
   | some z=>have:=o z rfl;change (if (1000000:Int)+min z 1000000<1000000 then _ else _)=1000000;rw[if_neg ()];rfl
  | some y=>
   let:=C y rfl;cases c with
   | none=>change (if min y 1000000+(1000000:Int)<1000000 then _ else _)=1000000;rw[if_neg ()];rfl
   | some z=>
    let:=o z rfl;change (if min y 1000000+min z 1000000<(1000000:Int) then min y 1000000+min z 1000000 else 1000000)=min (y+z) 1000000
    split <;> lia
 | some x=>
  let:=I x rfl;cases b with
  | none=>cases c with
   | none=>change (if (1000000:Int)+1000000<min x 1000000 then _ else _)=min x 1000000;rw[if_neg ()];rfl
   | some z=>have:=o z rfl;change (if (1000000:Int)+min z 1000000<min x 1000000 then _ else _)=min x 1000000;rw[if_neg ()];rfl
  | some y=>
   let:=C y rfl;cases c with
   | none=>change (if min y 1000000+(1000000:Int)<min x 1000000 then _ else _)=min x 1000000;rw[if_neg ()];rfl
   | some z=>
    let:=o z rfl;change (if min y 1000000+min z 1000000<min x 1000000 then min y 1000000+min z 1000000 else min x 1000000)=min (if y+z<x then y+z else x) 1000000
    split <;> split <;> lia
def Mo:Sp:=λJ H Q _=>∃C n I,J=[.ref C]/\Af H C n I /\
 ∀o rs M H',AE H H'->H o=none->H' o=some (.lst (rs.map V.ref))->Bx H' rs M->Rows I n M->Q (.ref o) H'
def Gs:zl ["_law_web_here","_law_many","_law_rows_here","_law_a","_law_b","_law_long_here","_law_at","_law_one","_law_other"] Sa.p (defScope Sa.s):=AK
def ZW (wz:Ws P w K mg base PT C D):Fz P w K mg base 1 Sa Mo:=by
 show wz.Ro.okZ Gs λ_ _ A _ _ H vs Q E hr h=>?_;let{wa,n,ts,0,W,k}:=h;let{ta,tys,kc,lE,TA,G}:=id W;let oq:=G.n1;let mC:=G.n24;show{_,zN (C8 (i:=1) Gs.nd rfl (Or.inr rfl) (zm AM (pv 0) zb))
  (zN (da (yc := "_law_one") (i:=2) (own:=["_law_one"]) (cn:=["_law_many"]) (ci:=[1]) Gs.nd rfl (Or.inl rfl) rfl (XE rfl (λ_ _=>rfl) rfl rfl) {9,trivial} rfl
   (CO rfl wz.mRange (zB (pv 1) zJ)) (λ_ _ _ _=>CY (i:=0) (DD rfl) rfl (Or.inr rfl)) (λ_ _ _ _=>A8)
   (λ_ _ _ _=>BB (own:=["_law_other"]) (cn:=["_law_one"]) (ci:=[0]) rfl (Ai rfl rfl) {9,trivial} rfl
    (CO rfl wz.mRange (zB (pv 1) zJ)) (λ_ _ _ _=>Ah) (λ_ _ _ _=>A8)
    (λ_ _ _ _=>AQ IH (AQ OK zb zb) (Aq cg wz.mInt (zB (BS Cb (pv 1) (pv 0) (zw _)) zJ)))))
  (zN (Bn (Bo (zm AM (pv 0) zb)) (DN rfl (Ag (Ay (i:=3) Gs.nd) (Ag (Ay (i:=4) Gs.nd) (Ag (Ay (i:=5) Gs.nd) CK))))
   (zN (Dx (pv 5) (Fg (zm zx (pv 2) (pv 3)) (pv 4) Fi))
   (zX (Dx (pv 5) (Fg (zm zx (pv 2) (pv 4)) (pv 3) Fi)))))
  (zN (Bn (CO rfl wz.mRange (zB (pv 1) zJ)) (Ay (i:=6) Gs.nd)
   (zX (Bn (CO rfl wz.mRange (zB (pv 1) zJ)) (Ay (i:=7) Gs.nd)
    (zX (Bn (CO rfl wz.mRange (zB (pv 1) zJ)) (Ay (i:=8) Gs.nd)
     (zX (Dx (AZ (OF rfl) wz.mMin (zB (zm zx (zm zx (pv 2) (pv 7)) (pv 8))
      (zB (AQ Bs (zm zx (zm zx (pv 2) (pv 7)) (pv 6)) (zm zx (zm zx (pv 2) (pv 6)) (pv 8))) zJ)))
      (Fg (zm zx (pv 2) (pv 7)) (pv 8) Fi))))))))
  (zX (zu (pv 2)))))),?_}
 show{1,3,5,AD.of kc,0,?_};show{1,n,0,(),(),[.int n],0,λD hD=>?_};show Dw (lo:=0) (n:=n.toNat) (λq ys H1=>q<=n.toNat/\El λ(rs:List Addr)(M:CV)=>ys=rs.map V.ref/\rs.length=q/\Bx H1 rs M/\(∀x:Nat,x<q->M[x]?=some (Eo x n.toNat))/\(∀r∈rs,H r=none/\r≠D)/\AE H H1/\H1 D=some (.lst ys))
  {zd _,[],[],2,{0,List.nodup_nil,λi r row h=>by simp at h},λx hx=>absurd hx (Eu _),λr h=>by simp at h,zG hD,zF} (λq ys H1 h=>?_) (λq ys H1 hq h=>?_) (λys H1 h=>?_)
 . let{hq,rs,M,0,hl,_}:=h;rw[zA,hl];show BJ ()
 . let{_,rs,M,0,hl,R,L,fr,sm,mM}:=h;rw[CC];show{{2},?_};show A7 ?_;show{1,n,0,(),(),[.int q],0,λD2 ke=>?_};let nD2:D2≠D:=λz=>by rw[z,mM] at ke;cases ke
   show Dw (lo:=0) (n:=n.toNat) (λj ys I=>j<=n.toNat/\ys=(Eo q j).map eI/\AE H1 I/\I D2=some (.lst ys))
    {zd _,0,zG ke,zF} (λj ys I h=>?_) (λj ys I hj h=>?_) (λys I h=>?_)
   . let{hj,0,_}:=h;rw[zA,ZN];show BJ ()
   . let{1,s2,h2}:=h;rw[CC];show{{2},?_};show A7 ?_;show{5,{by decide,by decide,by decide},4,0,.inr {1,5,.inl {by decide,by decide},h2,hj,?_,A4 s2 ke,zF}};rw[g9,zO];congr 1;by_cases e:(q:Int)=(j:Int)
     . rw[if_pos e,zY (congrArg V.int e)];rfl
     . rw[if_neg e,za λz=>e (V.int.inj z)];rfl
   . let{1,s2,h2}:=h;let pE:I D=some (.lst (rs.map V.ref)):=s2 _ _ mM;let frD2:H D2=none:=by
      cases z:H D2 with
      | none=>rfl
      | some o=>rw[sm _ _ z] at ke;cases ke
     let nin:D2∉rs:=λz=>by
      let{i,hi,e}:=CP z;let hM:i<M.length:=by rw[<-R.1];show hi
      let:=R.2.2 i D2 M[i] (by rw[zC hi,e]) (zC hM);rw[ke] at this;cases this
     show{pE,hq,rs++[D2],M++[Eo q n.toNat],by rw[zO];rfl,by rw[zS,hl];rfl,{by rw[zS,zS,R.1];rfl,?_,λi r row h1 h3=>?_},λx hx=>?_,λr lO=>?_,A4 (sm.trans s2) hD,zF}
     . show List.nodup_append.mpr {R.2.1,by simp,λa ha b hb=>by
        let e:b=D2:=by simpa using hb
        rw[e];show λz=>nin (z ▸ ha)}
     . let key:I r=some (.lst (row.map eI))/\r≠D:=by
        by_cases hi:i<rs.length
        . rw[zV hi] at h1;rw[zV (by rw[<-R.1];show hi)] at h3;show{s2 _ _ (R.2.2 i r row h1 h3),(fr r (zQ h1)).2}
        . rw[zW ()] at h1;rw[zW (by rw[<-R.1];lia),<-R.1] at h3;cases hz:i-rs.length with
          | zero=>
           rw[hz] at h1 h3;let e1:D2=r:=by simpa using h1
           let e2:Eo q n.toNat=row:=by simpa using h3
           subst e1 e2;show⟨h2,nD2⟩
          | succ k=>rw[hz] at h1;simp at h1
       rw[zg key.2];show key.1
     . by_cases kZ:x<q
       . rw[zV (by rw[<-R.1,hl];show kZ)];show L x kZ
       . let e:x=q:=()
         subst e;rw[zW (by rw[<-R.1,hl];show zL _),<-R.1,hl];simp
     . rcases Bu.mp lO with z | z
       . show fr r z
       . let e:r=D2:=by simpa using z
         rw[e];show⟨frD2,nD2⟩
 . let{_,rs,M,0,hl,R,L,fr,sm,mM}:=h;let hML:M.length=n.toNat:=by rw[<-R.1,hl]
   let S0:DQ n M:={hML,λr lO=>by let{i,hi,e}:=CP lO;let:=L i ();rw[zC hi,e] at this;rw[zT this,ZN]}
   let M0:∀x y,0<=x->x<n->0<=y->y<n->Cu M x y=if x=y then some 0 else none:=λx y hx kZ hy lC=>by
    unfold Cu
    rw[if_pos hx,zE,L x.toNat (),Option.getD_some,fR hy (),show ((x.toNat:Nat):Int)=x by lia]
   let wr:∀{I:Hp}{r:Addr}{o:HO},r∈rs->AE H I->AE H (upd I r o):=λ{I r o} lO s2=>A4 s2 (fr r lO).1;let wD:∀{I:Hp}{r:Addr}{o:HO},r∈rs->I D=some (.lst (rs.map V.ref))->(upd I r o) D=some (.lst (rs.map V.ref)):=λ{I r o} lO e=>by rw[zg (fr r lO).2.symm];show e
   show{1,3,5,AD.of (sm _ _ kc),0,ta,0,{_,AD.of (sm _ _ lE)},Uw (K:=K) (a:=ta) (xs:=tys)
    (λi σ I=>XW λ(v3 v4 U v6 v7 J:Option V)(M:CV)=>σ=[some (.ref wa),some (.int n),some (.ref D),v3,v4,U,v6,v7,J]/\AE H I/\I D=some (.lst (rs.map V.ref))/\Bx I rs M/\DQ n M/\Ft (ts.take i) n (Cu M))
    {3,3,3,M,0,sm,mM,R,S0,by rw[List.take_zero];show Ft.nil n M0} (λi σ I _ ⟨_,_,_,_,_,_,_,_,s,_⟩=>AD.of (s _ _ lE)) ?turn1 ?after1}
   case turn1=>
    rintro i y σ I hi ⟨v3,v4,U,v6,v7,J,M2,rfl,s2,ke,R2,S2,T2⟩;let{ya,ky,0,mD,mH,_}:=TA.get hi;rw[zK] at mD;obtain⟨⟨a,b,c⟩,hti,rfl⟩:∃t:T3,ts[i]?=some t/\tl t=ky:=by
     cases e:ts[i]? with
     | none=>rw[e] at mD;cases mD
     | some t=>rw[e] at mD;show{t,0,zT mD}
    let hm:=zQ hti;let hr3:=G.rng _ hm;simp only at hr3;let ec:V.int c=eI (some c):=by change V.int c=V.int (min c 1000000);rw[Int.min_eq_left ()]
    let{ra,nG,a1,a2,a3,a4,a5,_}:=R2.get S2 (a:=a) () ();let ma:=zQ a1;show{ya,1,AD.of (s2 _ _ mH),0,7,7,5,?_};show{1,4,D,3,.ref ra,2,AA.of ke,Ac () (by rw[zK,a1];rfl),1,ra,_,b,b.toNat,2,a5,Rj () (by rw[zA,a4];lia),?_};let R3:Bx (upd I ra (.lst ((nG.map eI).set b.toNat (.int c)))) rs (EX M2 a b (some c)):=by rw[ec];show R2.set S2 (v:=some c) () () a1 a2
    let S3:DQ n (EX M2 a b (some c)):=S2.set () ();let s3:=wr (o:=.lst ((nG.map eI).set b.toNat (.int c))) ma s2;let lA:=wD (o:=.lst ((nG.map eI).set b.toNat (.int c))) ma ke;generalize upd I ra (.lst ((nG.map eI).set b.toNat (.int c)))=H3 at R3 s3 lA ⊢;let{rb,rowb,b1,b2,b3,b4,b5,_}:=R3.get S3 (a:=b) () ();let mb:=zQ b1;show{1,4,D,3,.ref rb,2,AA.of lA,Ac (show 0<=b by lia) (by rw[zK,b1];rfl),1,rb,_,a,a.toNat,2,b5,Rj () (by rw[zA,b4];lia),?_};let R4:Bx (upd H3 rb (.lst ((rowb.map eI).set a.toNat (.int c)))) rs (EX (EX M2 a b (some c)) b a (some c)):=by rw[ec];show R3.set S3 (v:=some c) () () b1 b2
    show{_,3,3,7,wr mb s3,wD mb lA,R4,S3.set () (),?_};let my:ts=ts.take i++(a,b,c)::ts.drop (i+1):=by
     let hil:=(zH.mp hti)
     conv=>lhs;rw[<-List.take_append_drop i ts,Ms hil.1,hil.2]
    let htk:ts.take (i+1)=ts.take i++[(a,b,c)]:=by rw[ze,hti];rfl
    rw[htk];show (Ft.put (post:=ts.drop (i+1)) (by rw[<-my];show G) T2).congr λx y hx kZ hy lC=>?_;rw[Vj S3 () () () () hx kZ,Vj S2 () () () () hx kZ]
   case after1=>
    rintro σ I ⟨v3,v4,U,v6,v7,J,M2,rfl,s2,ke,R2,S2,T2⟩;let kS:tys.length=ts.length:=by rw[TA.length,zA]
    rw[kS,List.take_length] at T2;let FC:=T2.fw G;show{1,n,0,(),(),Es (lo:=0) (n:=n.toNat)
     (λkk σ H3=>XW λ(v3 v4 U v6 v7 J:Option V)(M:CV)=>σ=[some (.ref wa),some (.int n),some (.ref D),v3,v4,U,v6,v7,J]/\AE H H3/\H3 D=some (.lst (rs.map V.ref))/\Bx H3 rs M/\DQ n M/\Fw ts n (Cu M)/\LW ts n (kk:Int) (Cu M))
     {3,3,3,M2,0,s2,ke,R2,S2,FC.1,FC.2} ?turn2 ?after2}
    case after2=>
     rintro σ H3 ⟨v3,v4,U,v6,v7,J,M3,rfl,s3,lA,R3,S3,f3,c3⟩;rw[show ((n.toNat:Nat):Int)=n by lia] at c3;show{1,k D rs M3 H3 s3 hD lA R3 (gQ G S3 f3 c3)}
    case turn2=>
     rintro kk σ H3 lT ⟨v3,v4,U,v6,v7,J,M3,rfl,s3,lA,R3,S3,f3,c3⟩;rw[CC];show{1,n,0,(),(),Es (lo:=0) (n:=n.toNat)
      (λaa σ H4=>Wa λ(v3 v4 U v7 J:Option V)(M:CV)=>σ=[some (.ref wa),some (.int n),some (.ref D),v3,v4,U,some (.int (kk:Int)),v7,J]/\AE H H4/\H4 D=some (.lst (rs.map V.ref))/\Bx H4 rs M/\DQ n M/\Fm ts n (kk:Int) (Cu M) (λx _=>x<(aa:Int)))
      {_,3,3,M3,0,s3,lA,R3,S3,(Fm.enter f3 c3).congr (λ_ _ _ _ _ _=>rfl) λx y hx _ _ _ z=>()} ?turn3 ?after3}
     case after3=>
      rintro σ H4 ⟨v3,v4,U,v7,J,M4,rfl,s4,ki,R4,S4,F4⟩;let fc:=F4.leave λx y _ kZ _ _=>by lia
      show{3,3,3,M4,0,s4,ki,R4,S4,fc.1,fc.2}
     case turn3=>
      rintro aa σ H4 haa ⟨v3,v4,U,v7,J,M4,rfl,s4,ki,R4,S4,F4⟩;rw[CC];show{1,n,0,(),(),Es (lo:=0) (n:=n.toNat)
       (λbb σ H5=>S6 λ(v3 v4 U J:Option V)(M:CV)=>σ=[some (.ref wa),some (.int n),some (.ref D),v3,v4,U,some (.int (kk:Int)),some (.int (aa:Int)),J]/\AE H H5/\H5 D=some (.lst (rs.map V.ref))/\Bx H5 rs M/\DQ n M/\Fm ts n (kk:Int) (Cu M) (λx y=>x<(aa:Int)\/(x=(aa:Int)/\y<(bb:Int))))
       {3,3,M4,0,s4,ki,R4,S4,F4.congr (λ_ _ _ _ _ _=>rfl) λx y _ _ hy _ z=>()} ?turn4 ?after4}
      case after4=>
       rintro σ H5 ⟨v3,v4,U,J,M5,rfl,s5,k7,R5,S5,F5⟩;show{_,3,3,M5,0,s5,k7,R5,S5,F5.congr (λ_ _ _ _ _ _=>rfl) λx y _ _ _ lC z=>()}
      case turn4=>
       rintro bb σ H5 hbb ⟨v3,v4,U,J,M5,rfl,s5,k7,R5,S5,F5⟩;rw[CC];let{ra,nG,a1,a2,a3,a4,a5,a6}:=R5.get S5 (a:=(aa:Int)) () ();let{rk,rowk,k1,k2,k3,k4,k5,k6}:=R5.get S5 (a:=(kk:Int)) () ();let ma:=zQ a1;let nn:∀x y d,0<=x->x<n->0<=y->y<n->Cu M5 x y=some d->0<=d:=λx y d h1 h2 h3 h4 e=>(F5.fw.snd x y d h1 h2 h3 h4 e).nn G;show{4,D,3,.ref ra,2,AA.of k7,Ac () (by rw[zK,a1];rfl),1,ra,_,5,AA.of a5,R0 a4 () (),?_};show{4,D,3,.ref ra,2,AA.of k7,Ac () (by rw[zK,a1];rfl),1,ra,_,5,AA.of a5,R0 a4 () (),?_};show{4,D,3,.ref rk,2,AA.of k7,Ac () (by rw[zK,k1];rfl),1,rk,_,5,AA.of k5,R0 k4 () (),?_};show{5,7,?_};dsimp only;let es:=fE (a:=AY nG (bb:Int)) (b:=AY nG (kk:Int)) (c:=AY rowk (bb:Int)) (λd e=>nn aa bb d () () () () (by rw[<-a6];show e)) (λd e=>nn aa kk d () () () () (by rw[<-a6];show e)) (λd e=>nn kk bb d () () () () (by rw[<-k6];show e));rw[es];show{4,D,3,.ref ra,2,AA.of k7,Ac () (by rw[zK,a1];rfl),1,ra,3,(bb:Int).toNat,2,a5,Rj () (by rw[zA,a4];lia),?_};show{_,3,7,wr ma s5,wD ma k7,R5.set S5 () () a1 a2,S5.set () (),?_};show (Fm.step G F5 (a:=(aa:Int)) (b:=(bb:Int)) () () () () () ()).congr (λx y hx kZ hy lC=>?_) λx y _ _ _ _ z=>by lia
       rw[Vj S5 () () () () hx kZ,a6,a6,k6]
inductive YW (x:V)(y:V)(H:Hp)(Q:VK):Prop
 | mk:∀(a b:Addr)(xs ys:List V),(x=.ref a)->(y=.ref b)->(H a=some (.tup xs))->(H b=some (.tup ys))->(xs.length+ys.length<=sizeLine)->(∀(p:Addr)(H':Hp),AE H H'->H' p=some (.tup (xs++ys))->Q (.ref p) H')->YW x y H Q
def PX:R2:=λx y H Q=>YW x y H Q
def Yv:Au X (binaryOp .Add) PX:=λpins s σ H x y v u Q I U J h=>by
 let{a,b,xs,C,2,ha,o,hz,q}:=h;show jf pins s σ H _ _ v u Q I U J {a,b,xs,C,2,AD.of ha,AD.of o,hz,λe=>?_,λ_ e=>?_,λ_ _ p hp=>q p _ (zG hp) zF}
 . subst e;show q b H (AE.refl _) o
 . subst e;show q a H (AE.refl _) (by rwa[BW])
def Xh:V->Option Int->Option Int->Hp->VK->Prop:=λx lo hi H Q=>∃a xs,x=.ref a/\H a=some (.tup xs)/\∀p H',AE H H'->H' p=some (.tup (BV xs lo hi))->Q (.ref p) H'
def OB:NV X Xh:=λpins s σ H x v C o lo hi J Q I U hs pl pu h=>by
 let{a,xs,0,ha,q}:=h;show j6 pins s σ H _ v C o lo hi J Q I U hs pl pu {a,xs,0,AD.of ha,λe=>?_,λ_ p hp=>q p _ (zG hp) zF};show q a H (AE.refl _) ?_;let:BV xs lo hi=xs:=by unfold BV;rw[e.1,e.2,List.drop_zero,Nat.sub_zero,zR (zL _)]
 rwa[this]
def Pq:Sp:=λo H Q _=>∃l:Int,o=[.int l]/\1<=l/\l<=99/\Q (.bl true) H
inductive X4 (vs:List V)(H:Hp)(Q:VK):Prop
 | mk:∀(wa:Addr)(n:Int)(ts:List T3)(x y:Int),(vs=[.ref wa,.int x,.int y])->(Af H wa n ts)->((0<=x/\x<n))->((0<=y/\y<n))->(x≠y)->(∀(p:Addr),H p=none->Q (.ref p) (upd H p (.tup [.int (AO x y),.int (AN x y)])))->X4 vs H Q
def L0:Sp:=λo H Q _=>X4 o H Q
def OX:Sp:=λJ H Q _=>∃C p n I a b,J=[.ref C,.ref p]/\Af H C n I/\H p=some (.tup [.int a,.int b]) /\
 ∀D o H',AE H H'->H D=none->H' D=some (.lst o)->Ae H' o ((Bz a b I).map tl)->Q (.ref D) H'
inductive bj (vs:List V)(H:Hp)(Q:VK):Prop
 | mk:∀(wa:Addr)(n:Int)(ts:List T3)(x y l:Int),(vs=[.ref wa,.int x,.int y,.int l])->(Af H wa n ts)->((0<=x/\x<n))->((0<=y/\y<n))->(x≠y)->((1<=l/\l<=99))->(((E6 (AO x y) (AN x y) ts).isSome=true\/ts.length<60))->(ts.length<=60)->(∀(wb:Addr)(ku:List T3)(H':Hp),AE H H'->H wb=none->Af H' wb n ku->Cw (AO x y) (AN x y) (some l) ts ku->Q (.ref wb) H')->bj vs H Q
def Ko:Sp:=λo H Q _=>bj o H Q
inductive a8 (vs:List V)(H:Hp)(Q:VK):Prop
 | mk:∀(wa:Addr)(n:Int)(ts:List T3)(x y:Int),(vs=[.ref wa,.int x,.int y])->(Af H wa n ts)->(C4 ts)->((0<=x/\x<n))->((0<=y/\y<n))->(x≠y)->((E6 (AO x y) (AN x y) ts).isSome=true)->(ts.length<=60)->(∀(wb:Addr)(ku:List T3)(H':Hp),AE H H'->H wb=none->Af H' wb n ku->Cw (AO x y) (AN x y) none ts ku->Q (.ref wb) H')->a8 vs H Q
def KO:Sp:=λo H Q _=>a8 o H Q
def Zo (C:ms.Perm (ts.map tl)):∃o:List T3,o.map tl=ms/\o.Perm ts:=by
 show{ms.map λk:List Int=>((k.getD 0 0,k.getD 1 0,k.getD 2 0):T3),?_,?_}
 . rw[DY]
   conv=>rhs;rw[<-List.map_id ms]
   show Hk λk J=>?_;let{I,1}:=zy.mp (C.mem_iff.mp J);rfl
 . let:=C.map λk:List Int=>((k.getD 0 0,k.getD 1 0,k.getD 2 0):T3);rw[DY] at this;let e:ts.map ((λk:List Int=>((k.getD 0 0,k.getD 1 0,k.getD 2 0):T3))∘tl)=ts:=by
    conv=>rhs;rw[<-List.map_id ts]
    show Hk λI _=>rfl
   rwa[e] at this
def HW (t):BV ((tl t).map V.int) none (some 2)=[.int t.1,.int t.2.1]:=rfl
def RX {ts:List T3}(h:ts[i]?=some k):(ts.take (i+1)).filter f=(ts.take i).filter f++(if f k=true then [k] else []):=by rw[ze,h,Gf];change _++List.filter f [k]=_;rw[GX];rfl
def Qt:zl ["thing"] Gz.p (defScope Gz.s):=AK
def cT (o:Ws P w K mg base PT C D):Fz P w K mg base 3 Gz Pq:=by let{J,I}:=o.mML;show o.Lg.okZ Qt λ_ _ A _ _ H vs Q E U h=>?_;let{l,0,h1,h2,k}:=h;show{_,zX (zu (AF (Vd o) U (zB (pv 0) (zB zb (zB (EV (v:=.int 99) rfl I {J,0}) zJ))))),?_};show⟨_,rfl,l,1,99,rfl,h1,h2,k⟩
def Kj:zl TX R8.p (defScope R8.s):=AK
def ZE (o:Ws P w K mg base PT C D):Fz P w K mg base 4 R8 L0:=by
 show o.Pa.okZ Kj λ_ _ A _ _ H vs Q E U h=>?_;let{I,n,ts,x,y,0,W,hx,hy,ne,k}:=h;let{ta,tys,J,3,G}:=id W;show{_,zN (AU (PW.pt (Cs (CM (BR (AF (Jb o) U (zB (zm AM (pv 0) zb) (zB (pv 1) zJ)))))
  (Cs (CM (BR (AF (Jb o) U (zB (zm AM (pv 0) zb) (zB (pv 2) zJ)))))
  (DO (zt Am (pv 1) (pv 2) (zw _)))))) (zX N7) AV)
  (zX (zu (BY (zB (AZ (OF rfl) o.mMin (zB (pv 1) (zB (pv 2) zJ))) (zB (AZ (VE rfl) o.mMax (zB (pv 1) (zB (pv 2) zJ))) zJ))))),?_}
 show{1,I,_,5,AD.of J,6,n,x,0,hx.1,(),true,0,Ao ?_};show{1,I,_,5,AD.of J,6,n,y,0,hy.1,(),true,0,Ao ?_};show{1,8,AL (za λz=>ne (V.int.inj z)) ?_};show{4,x,y,0,4,x,y,0,B7,λp hp=>k p hp}
def QJ:zl ["web","pair"] Hh.p (defScope Hh.s):=AK
def ZA (wz:Ws P w K mg base PT C D):Fz P w K mg base 1 Hh OX:=by
 show wz.Bt.okZ QJ λ_ _ A _ _ H vs Q E hr h=>?_;let{wa,p,n,J,a,b,0,W,hp,k}:=h;let{ta,tys,kc,lE,TA,G}:=id W;let mV:=hr.units0;let hlT:=TA.length;rw[zA] at hlT;let h64:=G.len;show{_,zX (zu (BB (own:=["tie"]) (cn:=["pair"]) (ci:=[1]) rfl (Ai rfl rfl) {9,trivial} rfl (Bo (zm AM (pv 0) zb)) (λ_ _ _ _=>Ah)
  (λ_ _ _ _=>De (zt (bC mV) (Dz OB (pv 0) Ek (Di zb)) (pv 1) (zw _))) (λ_ _ _ _=>pv 0))),?_}
 show{1,wa,3,.ref ta,2,AD.of kc,0,ta,0,{_,AD.of lE},[.ref p],0,λD hD=>?_};show CH (a:=ta) (xs:=tys) (λi o I=>Ae I o ((Bz a b (J.take i)).map tl)/\AE H I/\I D=some (.lst o)) {by rw[List.take_zero];show trivial,zG hD,zF} (λi o I h=>?_) (λi o I h=>?_) (λi v o I hv h=>?_) (λo I h=>?_)
 . show AD.of (h.2.1 _ _ lE)
 . let h1:=h.1.length;let h2:=NQ a b (J.take i);rw[zi] at h2;rw[zA] at h1;show BJ ()
 . let{T4,s4,ki}:=h;let{ya,kk,0,U,mH,_}:=TA.get hv;rw[zK] at U;obtain⟨t,ht,rfl⟩:∃t,J[i]?=some t/\tl t=kk:=by
    cases e:J[i]? with
    | none=>rw[e] at U;cases U
    | some t=>rw[e] at U;show{t,0,zT U}
   let n8:=s4 _ _ mH;show{{2},?_};show{4,ya,1,n8,λq H5 s5 hq=>?_};rw[HW] at hq;show{1,q,p,[t.1,t.2.1],[a,b],2,AD.of hq,AD.of (s5 _ _ (s4 _ _ hp)),1,?_};let k7:=s5 _ _ ki;let T5:Ae H5 o ((Bz a b (J.take i)).map tl):=T4.keep λb zs e=>s5 _ _ e;let e:Bz a b (J.take (i+1))=Bz a b (J.take i)++(if (!Dt a b t)=true then [t] else []):=RX ht
   show BU (λc=>?_) (λc=>?_)
   . show{1,k7,?_,A4 (s4.trans s5) hD,zF};rw[e,if_pos (by show c),zO];show (T5.keep λb zs e=>?_).snoc {ya,0,?_,by simp[tl]}
     . rw[zg (AJ e k7 (by intro z;cases z))];show e
     . rw[zg (AJ (s5 _ _ n8) k7 (by intro z;cases z))];show s5 _ _ n8
   . show{?_,s4.trans s5,k7};rw[e,if_neg (by show c),BW];show T5
 . let{T4,s4,ki}:=h;rw[hlT,zR (zL _)] at T4;show k D o I s4 hD ki T4
def Z7:zl ["web","one","other","long","pair"] SN.p (defScope SN.s):=AK
def jH (I:Ws P w K mg base PT C D):Fz P w K mg base 5 SN Ko:=by
 let{tk,mMT}:=I.mMT;show I.Wt.okZ Z7 λ_ _ A _ _ H vs Q E hr h=>?_;let{wa,n,U,x,y,l,0,W,hx,hy,ne,hl,nS,hle,k}:=h;let{ta,tys,kc,lE,TA,G}:=id W;let hlT:=TA.length;rw[zA] at hlT;let{a0,ab,bn}:=LX hx hy ne;show{_,zN (AX (i:=4) Z7.nd (AF (ZE I) hr (zB (pv 0) (zB (pv 1) (zB (pv 2) zJ)))))
  (zN (AU (CM (BR (AF (cT I) hr (zB (pv 3) zJ)))) (zX N7) AV)
  (zN (NP (u':=λ(D:EE) σ H3=>∃p:Addr,σ=[some (.ref wa),some (.int x),some (.int y),some (.int l),some (.ref p)]/\Af H3 wa n U/\∀H',AE H3 H'->D.nx σ H') (AU (PW.pt (Ja (zt CS (AF (RS I) hr (zB (pv 0) (zB (pv 1) (zB (pv 2) zJ)))) Ax (zw _)) (Jg (zt SU (AZ CD I.mLen (zB (zm AM (pv 0) zb) zJ)) (EV (v:=.int 60) rfl mMT {tk,0}) (zw _))))) (zX N7) AV) (λD σ H3 z=>by
   let{p,0,W3,z}:=z;show{1,4,wa,n,U,x,y,0,W3,λr H4 s4 hr4=>?_};let{ta',tys',hwa',hta',TA',G'}:=W3.keep s4;let k9:=TA'.length;rw[zA] at k9;show{6,?_};rcases hr4 with ⟨l',ha,rfl⟩ | ⟨mQ,rfl⟩
   . show Ao (Ao (z H4 s4))
   . show CB ?_;show{1,wa,3,.ref ta',2,AD.of hwa',0,ta',1,.inr (AD.of hta'),_,8,AL (za ?_) (z H4 s4)};rcases nS with q | q
     . let{l',ha}:=(VO G ne).mpr q;show absurd ha (mQ l')
     . rw[k9];lia))
  (zX (zu (BY (zB (zm AM (pv 0) zb) (zB (Aq Ct I.mTuple (zB (AZ OO I.mSorted (zB
   (AQ JU (AF (ZA I) hr (zB (pv 0) (zB (pv 4) zJ))) (BA (zB (AQ Yv (pv 4) (BY (zB (pv 3) zJ))) zJ))) zJ)) zJ)) zJ))))))),?_}
 show{1,4,wa,n,U,x,y,0,W,hx,hy,ne,λp hp=>?_};let s1:=zG (o:=.tup [.int (AO x y),.int (AN x y)]) hp;let lF:(upd H p (.tup [.int (AO x y),.int (AN x y)])) p=some (.tup [.int (AO x y),.int (AN x y)]):=zF;generalize upd H p (.tup [.int (AO x y),.int (AN x y)])=H1 at s1 lF ⊢;show{1,l,0,hl.1,hl.2,true,0,Ao ?_};show{p,0,W.keep s1,λH2 s2=>?_};let lK:=s1.trans s2;let W2:=W.keep lK;let hp2:=s2 _ _ lF;show{1,wa,3,.int n,2,AD.of (lK _ _ kc),0,?_};show{4,wa,p,n,U,7,W2,hp2,λD ys H3 s3 hD0 lA T3=>?_};show{4,FK,λq hq=>?_};let s4:=zG (o:=.tup [.int l]) hq;show{p,q,5,s4 _ _ (s3 _ _ hp2),zF,GH,λc H5 s5 hc=>?_};show{FK,λL hL=>?_};let s6:=zG (o:=.lst [.ref c]) hL;let J:=s4.trans (s5.trans s6);let hly:=T3.length;let hbl:=NQ (AO x y) (AN x y) U;rw[zA] at hly;show{D,L,5,J _ _ lA,zF,FH (BJ (by change ys.length+1<=100000;lia)),λD2 ke=>?_};let s7:=zG (o:=.lst (ys++[.ref c])) ke;let T7:Ae (upd (upd H5 L (.lst [.ref c])) D2 (.lst (ys++[.ref c]))) (ys++[.ref c]) ((Bz (AO x y) (AN x y) U++E7 (AO x y) (AN x y) (some l)).map tl):=by rw[zO];show (T3.keep λb zs e=>s7 _ _ (J _ _ e)).snoc {c,0,s7 _ _ (s6 _ _ hc),by simp[tl]}
 show{D2,7,AA.of zF,T7,by rw[zA,zS];change (Bz (AO x y) (AN x y) U).length+1<64;lia,λl2 us ms kY TA2 mi nM=>?_};show{l2,1,.inl {AA.of zF,λta2 oe=>?_}};show{B7,λwb lI=>?_};let s8:=(zG (o:=.lst us) kY).trans (zG (o:=.tup us) oe);let s9:=s8.trans (zG (o:=.tup [.int n,.ref ta2]) lI);let s29:=(lK.trans s3).trans (J.trans (s7.trans s8));let{ku,pF,pm'}:=Zo mi;let A:Cw (AO x y) (AN x y) (some l) U ku:={pm',by unfold C4;rwa[pF]};show k wb ku _ ((lK.trans s3).trans (J.trans (s7.trans s9))) (CI s29 lI) {ta2,us,zF,zG lI _ _ zF,?_,A.gw G a0 ab bn (λl' e=>by cases e;show hl) ()} A;rw[pF];show TA2.keep λb zs e=>s9 _ _ e
def ZT:zl ["web","one","other","pair"] RY.p (defScope RY.s):=AK
def gP (U:Ws P w K mg base PT C D):Fz P w K mg base 5 RY KO:=by
 show U.Wo.okZ ZT λ_ _ A _ _ H vs Q E hr h=>?_;let{wa,n,I,x,y,0,W,hS,hx,hy,ne,J,hle,k}:=h;let{ta,tys,kc,lE,TA,G}:=id W;let{a0,ab,bn}:=LX hx hy ne;show{_,zN (AX (i:=3) ZT.nd (AF (ZE U) hr (zB (pv 0) (zB (pv 1) (zB (pv 2) zJ)))))
  (zN (AU (zt CS (AF (RS U) hr (zB (pv 0) (zB (pv 1) (zB (pv 2) zJ)))) Ax (zw _)) (zX N7) AV)
  (zX (zu (BY (zB (zm AM (pv 0) zb) (zB (Aq Ct U.mTuple (zB (AF (ZA U) hr (zB (pv 0) (zB (pv 3) zJ))) zJ)) zJ)))))),?_}
 show{1,4,wa,n,I,x,y,0,W,hx,hy,ne,λp hp=>?_};let s1:=zG (o:=.tup [.int (AO x y),.int (AN x y)]) hp;let lF:(upd H p (.tup [.int (AO x y),.int (AN x y)])) p=some (.tup [.int (AO x y),.int (AN x y)]):=zF;generalize upd H p (.tup [.int (AO x y),.int (AN x y)])=H1 at s1 lF ⊢;show{1,4,wa,n,I,x,y,0,W.keep s1,λr H2 s2 hr2=>?_};let lK:=s1.trans s2;obtain⟨l',ha,rfl⟩:∃l,Aw I x y l/\r=.int l:=by
  rcases hr2 with z | ⟨mQ,_⟩
  . show z
  . let{l',ha}:=(VO G ne).mpr J;show absurd ha (mQ l')
 show{6,Ao ?_};show{1,wa,3,.int n,2,AD.of (lK _ _ kc),0,?_};show{4,wa,p,n,I,7,W.keep lK,s2 _ _ lF,λD ys H3 s3 hD0 lA T3=>?_};show{D,1,.inl {AA.of lA,λta2 oe=>?_}};show{B7,λwb lI=>?_};let s8:=zG (o:=.tup ys) oe;let s9:=s8.trans (zG (o:=.tup [.int n,.ref ta2]) lI);let hbl:=NQ (AO x y) (AN x y) I;let A:Cw (AO x y) (AN x y) none I (Bz (AO x y) (AN x y) I):=Cw.strike hS;show k wb _ _ ((lK.trans s3).trans s9) (CI ((lK.trans s3).trans s8) lI) {ta2,ys,zF,zG lI _ _ zF,T3.keep λb zs e=>s9 _ _ e,A.gw G a0 ab bn (λl' e=>by cases e) ()} A
def Az (kp:Addr)(H H':Hp):Prop:=∀b o,b≠kp->H b=some o->(∃C,o=.tbl C)\/H' b=some o
def Az.of (h:AE H H'):Az kp H H':=λb o _ e=>.inr (h b o e)
def Az.ofT (h:A0 H H'):Az kp H H':=λb o _ e=>h b o e
def Az.trans (a:Az kp H H1)(b:Az kp H1 H2):Az kp H H2:=λc o n e=>by
 rcases a c o n e with z | z
 . show .inl z
 . show b c o n z
def Az.get (s:Az kp H H')(n:b≠kp)(e:H b=some o)(h:∀ps,o ≠ .tbl ps):H' b=some o:=by
 rcases s b o n e with ⟨ps,z⟩ | z
 . show absurd z (h ps)
 . show z
def Az.chg (s:Az kp H H'):Az kp H (upd H' kp o):=λb u n e=>by rw[zg n];show s b u n e
def Sk (T:Cf H PT pos q)(h:H kp=some (.ins C dx fs)):Cf (upd H kp o) PT pos q:=by
 show T.keep (λu e=>?_) λc J e=>?_
 . let{U,I,_}:=T;rwa[zg (AJ I h (by intro z;cases z))]
 . rwa[zg (AJ e h (by intro z;cases z))]
meta def FR (I o C:Addr):List (Str×V):=[("labels",.ref I),("web",.ref o),("order",.ref C)]
structure BP (H:Hp)(C kp dx la wa oa:Addr)(n:Int)(ts:List T3)(os:List Int)(ess:List (List En)):Prop where
 ins:H kp=some (.ins C dx (FR la wa oa))
 web:Af H wa n ts
 ord:H oa=some (.tup (os.map V.int))
 lab:CW H la ess
 lof:∃rk,EM n os rk/\Hz ts n rk ess
 od:ET n os
 sr:C4 ts
 bd:∀es∈ess,∀e∈es,0<=e.l/\e.l<=2376
def BP.keep {os:List Int}(h:BP H C kp dx la wa oa n ts os ess)(I:H' kp=H kp)(o:∀b ys,H b=some (.tup ys)->H' b=some (.tup ys)):BP H' C kp dx la wa oa n ts os ess:=
 {I.trans h.ins,h.web.keepT o,o _ _ h.ord,h.lab.keep o,h.lof,h.od,h.sr,h.bd}
def BP.same {os:List Int}(h:BP H C kp dx la wa oa n ts os ess)(s:AE H H'):BP H' C kp dx la wa oa n ts os ess:=
 h.keep ((s _ _ h.ins).trans h.ins.symm) λb o e=>s _ _ e
meta def Cn (e:En):List (Option Int):=[some e.h,some e.l,e.u,e.d]
meta def Bf (es:List En):List (List (Option Int)):=es.map Cn
def BN.tab (h:BN H p es):FX K H p (Bf es):=by let{as,J,C,_}:=h;show{as,AD.of J,by unfold Bf;rw[zA];show C.1,λi r row I o=>?_};let{e,he,hH}:=C.2 i r I;unfold Bf at o;rw[zK,he] at o;let U:Cn e=row:=zT o;rwa[<-U]
meta def CA (n:Nat)(ess o:List (List En)):List Int:=(lowTo n).filter λi=>!decide (Bf (ess.getD i.toNat [])=Bf (o.getD i.toNat []))
def g6 (n)(ess kU):CA n ess kU=CA n kU ess:=by
 unfold CA;congr 1;funext i;congr 1;by_cases h:Bf (ess.getD i.toNat [])=Bf (kU.getD i.toNat [])
 . rw[zY h,zY h.symm]
 . rw[za h,za λz=>h z.symm]
def fX (m):lowTo (m+1)=lowTo m++[(m:Int)]:=by unfold lowTo;rw[List.range_succ,zO];rfl
def CW.at_ (h:CW H l ess)(hi:i<ess.length):∃(as:List Addr)(a:Addr),H l=some (.tup (as.map V.ref))/\(as.map V.ref)[i]?=some (.ref a)/\BN H a (ess.getD i []):=by
 let{as,I,U,C}:=h;let o:i<as.length:=()
 let{es,J,e2}:=C i as[i] (zC o);show{as,as[i],I,by rw[zK,zC o];rfl,?_};rwa[zE,J]
inductive Yj (C:Addr)(PT:Addr)(vs:List V)(H:Hp)(Q:VK):Prop
 | mk:∀(kp dx wa oa:Addr)(n:Int)(ts:List T3)(os:List Int),(vs=[.ref kp,.ref wa,.ref oa])->(H kp=some (.ins C dx []))->(Af H wa n ts)->(C4 ts)->(H oa=some (.tup (os.map V.int)))->(ET n os)->(Tb H PT)->(∀(la:Addr)(ess:List (List En))(H':Hp),Az kp H H'->Tb H' PT->BP H' C kp dx la wa oa n ts os ess->Q .non H')->Yj C PT vs H Q
def XX (C PT:Addr):Sp:=λo H Q _=>Yj C PT o H Q
inductive aE (C:Addr)(vs:List V)(H:Hp)(Q:VK):Prop
 | mk:∀(kp dx la wa oa:Addr)(n:Int)(ts:List T3)(os:List Int)(ess:List (List En)),(vs=[.ref kp])->(BP H C kp dx la wa oa n ts os ess)->(Q (.ref wa) H)->aE C vs H Q
def WR (C:Addr):Sp:=λo H Q _=>aE C o H Q
inductive Z1 (C:Addr)(vs:List V)(H:Hp)(Q:VK):Prop
 | mk:∀(kp dx la wa oa:Addr)(n:Int)(ts:List T3)(os:List Int)(ess:List (List En)),(vs=[.ref kp])->(BP H C kp dx la wa oa n ts os ess)->(Q (.ref la) H)->Z1 C vs H Q
def Xv (C:Addr):Sp:=λo H Q _=>Z1 C o H Q
inductive cN (C:Addr)(PT:Addr)(vs:List V)(H:Hp)(Q:VK):Prop
 | mk:∀(kp dx la wa oa wb:Addr)(n:Int)(ts ko:List T3)(os:List Int)(ess:List (List En)),(vs=[.ref kp,.ref wb])->(BP H C kp dx la wa oa n ts os ess)->(Af H wb n ko)->(C4 ko)->(Tb H PT)->(∀(pa kq:Addr)(kU:List (List En))(H':Hp),Az kp H H'->Tb H' PT->BP H' C kp dx kq wb oa n ko os kU->H' pa=some (.tup ((CA n.toNat ess kU).map V.int))->Q (.ref pa) H')->cN C PT vs H Q
def Wq (C PT:Addr):Sp:=λo H Q _=>cN C PT o H Q
def Ia (C PT kp dx oa:Addr)(n x y:Int)(lo:Option Int)(ts:List T3)(os:List Int)(ess:List (List En))(H:Hp)(Q:VK):Prop:=
 ∀o kq U I J H',Az kp H H'->Tb H' PT->BP H' C kp dx kq U oa n I os J->Cw (AO x y) (AN x y) lo ts I->H' o=some (.tup ((CA n.toNat ess J).map V.int))->Q (.ref o) H'
inductive Z3 (C:Addr)(PT:Addr)(vs:List V)(H:Hp)(Q:VK):Prop
 | mk:∀(kp dx la wa oa:Addr)(n x y l:Int)(ts:List T3)(os:List Int)(ess:List (List En)),(vs=[.ref kp,.int x,.int y,.int l])->(BP H C kp dx la wa oa n ts os ess)->((0<=x/\x<n))->((0<=y/\y<n))->(x≠y)->((1<=l/\l<=99))->(((E6 (AO x y) (AN x y) ts).isSome=true\/ts.length<60))->(ts.length<=60)->(Tb H PT)->(Ia C PT kp dx oa n x y (some l) ts os ess H Q)->Z3 C PT vs H Q
def Ww (C PT:Addr):Sp:=λo H Q _=>Z3 C PT o H Q
inductive Zg (C:Addr)(PT:Addr)(vs:List V)(H:Hp)(Q:VK):Prop
 | mk:∀(kp dx la wa oa:Addr)(n x y:Int)(ts:List T3)(os:List Int)(ess:List (List En)),(vs=[.ref kp,.int x,.int y])->(BP H C kp dx la wa oa n ts os ess)->((0<=x/\x<n))->((0<=y/\y<n))->(x≠y)->((E6 (AO x y) (AN x y) ts).isSome=true)->(ts.length<=60)->(Tb H PT)->(Ia C PT kp dx oa n x y none ts os ess H Q)->Zg C PT vs H Q
def WG (C PT:Addr):Sp:=λo H Q _=>Zg C PT o H Q
def XJ (la):BQ "labels" la []=([("labels",la)]:List (Str×V)):=rfl
def Vo (la wa):BQ "web" wa [("labels",la)]=([("labels",la),("web",wa)]:List (Str×V)):=by unfold BQ;rw[if_neg (by decide)];rfl
def Vu (la wa oa):BQ "order" oa [("labels",la),("web",wa)]=([("labels",la),("web",wa),("order",oa)]:List (Str×V)):=by unfold BQ;rw[if_neg (by decide)];unfold BQ;rw[if_neg (by decide)];rfl
def XI (la wa oa kq):BQ "labels" kq [("labels",la),("web",wa),("order",oa)]=([("labels",kq),("web",wa),("order",oa)]:List (Str×V)):=by unfold BQ;rw[if_pos rfl]
def V4 (la wa oa wb):BQ "web" wb [("labels",la),("web",wa),("order",oa)]=([("labels",la),("web",wb),("order",oa)]:List (Str×V)):=by unfold BQ;rw[if_neg (by decide)];unfold BQ;rw[if_pos rfl]
section
variable {P:Program}{w:World}{K:AG}{mg:Aj}{base:Heap}{C fI fP fS fT fW fL PT:Addr}
def XM:zl ["self"] Tn.p (defScope Tn.s):=AK
def SI (o:Ws P w K mg base PT C D):Mz P w K mg base 1 C Tn (WR C):=by show o.KW.okM XM λ_ _ A _ _ H vs Q E hr h=>?_;let{I,dx,la,U,oa,n,ts,os,J,0,k,q}:=h;show{_,zX (zu (Dc (pv 0) rfl)),?_};show{1,I,C,dx,7,k.ins,o.kT.cl,o.kT.nw,0,q}
def V9:zl ["self"] Tr.p (defScope Tr.s):=AK
def VC (o:Ws P w K mg base PT C D):Mz P w K mg base 1 C Tr (Xv C):=by show o.KL.okM V9 λ_ _ A _ _ H vs Q E hr h=>?_;let{I,dx,la,U,oa,n,ts,os,J,0,k,q}:=h;show{_,zX (zu (Dc (pv 0) rfl)),?_};show{1,I,C,dx,7,k.ins,o.kT.cl,o.kT.nl,0,q}
def Wd:zl ["self","web","order"] Ts.p (defScope Ts.s):=AK
def IT (o:Ws P w K mg base PT C D):Jz P w K mg base 6 C "Keeper" Ts (XX C PT):=by
 show o.KI.okI Wd λ_ _ A _ _ H vs Q E hr h=>?_;let{I,dx,wa,oa,n,ts,os,0,o7,W,sr,J,O,TT,q}:=h;show{_,zN (JV (pv 0) (AF (Y6 o) hr (zB (pv 1) (zB (pv 2) zJ))) rfl)
  (zN (JV (pv 0) (pv 1) rfl) (zX (JV (pv 0) (pv 2) rfl))),?_}
 show{4,wa,oa,n,ts,os,0,W,J,O,TT,λla ess rk H1 s1 T1 L1 R1 LO bd=>?_};let mq:H1 I=some (.ins C dx []):=s1.get o7 (by intro ps z;cases z);show{1,I,C,dx,1,mq,o.kT.cl,o.kT.nl,by change 0<1000;decide,?_};rw[XJ];show{4,I,C,dx,1,zF,o.kT.cl,o.kT.nw,by change 1<1000;decide,?_};rw[Vo,Bp];show{4,I,C,dx,1,zF,o.kT.cl,o.kT.no,by change 2<1000;decide,?_};rw[Vu,Bp];let tk:∀b U,H1 b=some (.tup U)->(upd H1 I (.ins C dx (FR la wa oa))) b=some (.tup U):=λb U e=>by rwa[zg (AJ e mq (by intro z;cases z))]
 show q la ess _ (Az.ofT s1).chg (Sk T1 mq) {zF,(W.keepT λb U e=>s1.get e (by intro ps z;cases z)).keepT tk,tk _ _ (s1.get J (by intro ps z;cases z)),L1.keep tk,⟨rk,R1,LO⟩,O,sr,bd}
def PH:zl ["self","web","ahead"] QV.p (defScope QV.s):=AK
def IU (U:Ws P w K mg base PT C D):Mz P w K mg base 6 C QV (Wq C PT):=by
 show U.KT.okM PH λf km A outer s H vs Q E hr h=>?_
 . let{J,dx,la,wa,oa,wb,n,ts,ko,os,I,0,k,W2,sr2,TT,q}:=h;let hu1:(A.deeper (PyProof.Rows.envOfC (Str.ofString "Keeper.turn_to") (defScope QV.s) s.heap.objs.size f km)).units+1<cLine:=by let:=hr.un;lia
   let{ta,tys,lI,3,G}:=id W2;let oq:=G.n1;let mC:=G.n24;show{_,zN (C8 (i:=2) PH.nd rfl (Or.inr rfl) (Dc (pv 0) rfl))
    (zN (JV (pv 0) (AF (Y6 U) hr (zB (pv 1) (zB (Dc (pv 0) rfl) zJ))) rfl)
    (zN (JV (pv 0) (pv 1) rfl)
    (zX (zu (Aq Ct U.mTuple (zB (BB (own:=GI) (cn:=["self","ahead"]) (ci:=[0,2]) rfl (Ai rfl rfl) {9,9,trivial} rfl
     (CO rfl U.mRange (zB (zm AM (pv 1) zb) zJ)) (λ_ _ _ _=>Ah)
     (λ_ _ _ _=>De (zt (hZ hu1) (zm DL (jl (pv 1) rfl) (pv 0)) (zm DL (pv 2) (pv 0)) (zw _))) (λ_ _ _ _=>pv 0)) zJ)))))),?_}
   show{1,J,C,dx,7,k.ins,U.kT.cl,U.kT.nl,0,?_};show{4,J,C,dx,_,.ref oa,0,k.ins,U.kT.cl,U.kT.no,0,wb,oa,n,ko,os,0,W2,k.ord,k.od,TT,λng lP rk2 H1 s1 T1 L1 R1 LO bd=>?_};let mq:H1 J=some (.ins C dx (FR la wa oa)):=s1.get k.ins (by intro ps z;cases z);show{1,J,C,dx,1,mq,U.kT.cl,U.kT.nl,by change 3<1000;decide,?_};unfold FR at mq ⊢;rw[XI];show{4,J,C,dx,1,zF,U.kT.cl,U.kT.nw,by change 3<1000;decide,?_};rw[V4,Bp];let tk1:∀b ys,H b=some (.tup ys)->H1 b=some (.tup ys):=λb ys e=>s1.get e (by intro ps z;cases z);let tk:∀b ys,H1 b=some (.tup ys)->(upd H1 J (.ins C dx (FR ng wb oa))) b=some (.tup ys):=λb ys e=>by rwa[zg (AJ e mq (by intro z;cases z))]
   let K2:BP (upd H1 J (.ins C dx (FR ng wb oa))) C J dx ng wb oa n ko os lP:={zF,(W2.keepT tk1).keepT tk,tk _ _ (tk1 _ _ k.ord),L1.keep tk,⟨rk2,R1,LO⟩,k.od,sr2,bd};let La:CW (upd H1 J (.ins C dx (FR ng wb oa))) la I:=(k.lab.keep tk1).keep tk;let sm2:Az J H (upd H1 J (.ins C dx (FR ng wb oa))):=(Az.ofT s1).chg;let T2:Tb (upd H1 J (.ins C dx (FR ng wb oa))) PT:=Sk T1 mq;let oZ:=tk _ _ (tk1 _ _ lI);rw[show ([("labels",V.ref ng),("web",V.ref wb),("order",V.ref oa)]:List (Str×V))=FR ng wb oa from rfl];generalize upd H1 J (.ins C dx (FR ng wb oa))=H2 at K2 La sm2 T2 oZ ⊢;show{1,wb,_,5,AD.of oZ,0,n,0,(),(),[.ref J,.ref la],0,λD hD=>?_};let{rk1,_,LOa}:=k.lof;let l1:I.length=n.toNat:=LOa.1;let l2:lP.length=n.toNat:=LO.1;show Dw (lo:=0) (n:=n.toNat) (λj ys H4=>j<=n.toNat/\ys=(CA j lP I).map V.int/\H4=upd H2 D (.lst ys)) {zd _,2} (λj ys H4 z=>?_) (λj ys H4 hj z=>?_) (λys H4 z=>?_)
   . let{hj,0,_}:=z;let h2:=C7 (λi:Int=>!decide (Bf (lP.getD i.toNat [])=Bf (I.getD i.toNat []))) (lowTo j);rw[Ht] at h2;rw[zA];show BJ (by unfold CA;lia)
   . let{_,2}:=z;rw[CC];let sD:=zG (o:=.lst ((CA j lP I).map V.int)) hD;let{as2,b2,e1,e2,e3}:=K2.lab.at_ (i:=j) ();let{as1,b1,f1,f2,f3}:=La.at_ (i:=j) ();show{{2},?_};show{1,J,C,dx,_,.ref ng,0,sD _ _ K2.ins,U.kT.cl,U.kT.nl,6,ng,3,.ref b2,2,AD.of (sD _ _ e1),Bb e2,?_};show{4,la,3,.ref b1,2,AD.of (sD _ _ f1),Bb f2,?_};show{b2,b1,5,(e3.same sD).tab,(f3.same sD).tab,1,?_};let ed:CA (j+1) lP I=CA j lP I++(if (!decide (Bf (lP.getD j [])=Bf (I.getD j [])))=true then [(j:Int)] else []):=by unfold CA;rw[fX,Gf];congr 1;rw[GX,Fs,List.filter_nil]
     show BU (λc=>?_) (λc=>?_)
     . show{1,zF,hj,?_,Bp};rw[ed,if_pos (by show c),zO];rfl
     . show{hj,?_,0};rw[ed,if_neg (by show c),BW]
   . let{_,2}:=z;let sD:=zG (o:=.lst ((CA n.toNat lP I).map V.int)) hD;show{D,1,.inl {AA.of zF,λpa lZ=>?_}};let s3:=sD.trans (zG (o:=.tup ((CA n.toNat lP I).map V.int)) lZ);show q pa ng lP _ (sm2.trans (Az.of s3)) (T2.same s3) (K2.same s3) ?_;rw[g6,zF]
def V5:zl ["self","one","other","long"] Tg.p (defScope Tg.s):=AK
def O6 (o:Ws P w K mg base PT C D):Mz P w K mg base 7 C Tg (Ww C PT):=by show o.KP.okM V5 λ_ _ A _ _ H vs Q E hr h=>?_;let{J,dx,la,I,oa,n,x,y,l,ts,os,U,0,k,hx,hy,ne,hl,nS,hle,TT,q}:=h;show{_,zX (zu (C6 (pv 0) (IU o) hr (zB (AF (jH o) hr (zB (Dc (pv 0) rfl) (zB (pv 1) (zB (pv 2) (zB (pv 3) zJ))))) zJ))),?_};show{1,J,dx,1,k.ins,0,?_};show{1,J,C,dx,_,.ref I,0,k.ins,o.kT.cl,o.kT.nw,6,4,I,n,ts,x,y,l,0,k.web,hx,hy,ne,hl,nS,hle,λwb ku H1 s1 _ W1 A1=>?_};show{J,dx,la,I,oa,wb,n,ts,ku,os,U,0,k.same s1,W1,A1.sr,TT.same s1,λpa kq kU H2 s2 T2 K2 lZ=>?_};show q pa kq wb ku kU H2 ((Az.of s1).trans s2) T2 K2 A1 lZ
def WE:zl NW TY.p (defScope TY.s):=AK
def Q2 (o:Ws P w K mg base PT C D):Mz P w K mg base 7 C TY (WG C PT):=by show o.KS.okM WE λ_ _ A _ _ H vs Q E hr h=>?_;let{J,dx,la,I,oa,n,x,y,ts,os,ess,0,k,hx,hy,ne,U,hle,TT,q}:=h;show{_,zX (zu (C6 (pv 0) (IU o) hr (zB (AF (gP o) hr (zB (Dc (pv 0) rfl) (zB (pv 1) (zB (pv 2) zJ)))) zJ))),?_};show{1,J,dx,1,k.ins,0,?_};show{1,J,C,dx,_,.ref I,0,k.ins,o.kT.cl,o.kT.nw,0,4,I,n,ts,x,y,0,k.web,k.sr,hx,hy,ne,U,hle,λwb ku H1 s1 _ W1 A1=>?_};show{J,dx,la,I,oa,wb,n,ts,ku,os,ess,0,k.same s1,W1,A1.sr,TT.same s1,λpa kq kU H2 s2 T2 K2 lZ=>?_};show q pa kq wb ku kU H2 ((Az.of s1).trans s2) T2 K2 A1 lZ
end
def CW.at {n:Int}(h:CW H ll ess)(J:ess.length=n.toNat)(h0:0<=x)(U:x<n):∃(as:List Addr)(a:Addr)(es:List En),H ll=some (.tup (as.map V.ref))/\(as.map V.ref)[x.toNat]?=some (.ref a)/\ess[x.toNat]?=some es/\BN H a es:=by
 let{as,I,e2,C}:=h;let o:x.toNat<as.length:=()
 let{es,g1,g2}:=C x.toNat as[x.toNat] (zC o);show{as,as[x.toNat],es,I,by rw[zK,zC o];rfl,g1,g2}
def CW.two (h:CW H ll ess)(g:Hr ts n ess)(x0:0<=x)(x1:x<n)(J:0<=y)(y1:y<n):∃(as:List Addr)(a b:Addr)(es fs:List En),H ll=some (.tup (as.map V.ref))/\(as.map V.ref)[x.toNat]?=some (.ref a)/\(as.map V.ref)[y.toNat]?=some (.ref b)/\BN H a es/\BN H b fs/\LG ts n x es/\LG ts n y fs/\HV ts x y es fs:=by
 let{as,ax,ex,oE,gx,ix,lx}:=h.at g.ln x0 x1;let{I,ay,ey,U,gy,iy,ly}:=h.at g.ln J y1;let C:I.map V.ref=as.map V.ref:=by rw[oE] at U;injection U with h;injection h with h;show h.symm
 rw[C] at gy;let Lx:=g.lg _ _ ix;let Ly:=g.lg _ _ iy;let o:=g.cov _ _ _ _ ix iy;rw[E8 x0] at Lx o;rw[E8 J] at Ly o;show⟨as,ax,ay,ex,ey,oE,gx,gy,lx,ly,Lx,Ly,o⟩
def BP.gd {os:List Int}(h:BP H C kp dx la wa oa n ts os ess):GW n ts/\Hr ts n ess:=by let{ta,tys,_,3,G}:=h.web;let{o,R,L}:=h.lof;show{G,L.good G R}
inductive aQ (C:Addr)(vs:List V)(H:Hp)(Q:VK):Prop
 | mk:∀(kp dx la wa oa:Addr)(n x y:Int)(ts:List T3)(os:List Int)(ess:List (List En)),(vs=[.ref kp,.int x,.int y])->(BP H C kp dx la wa oa n ts os ess)->((0<=x/\x<n))->((0<=y/\y<n))->(∀(o:Option Int)(H':Hp),AE H H'->A9 ts x y o->Q (oV o) H')->aQ C vs H Q
def Wz (C:Addr):Sp:=λo H Q _=>aQ C o H Q
section
variable {P:Program}{w:World}{K:AG}{mg:Aj}{base:Heap}{C fI fP fS fT fW fL PT:Addr}
def Xa:zl NW TL.p (defScope TL.s):=AK
def P1 (o:Ws P w K mg base PT C D):Mz P w K mg base 3 C TL (Wz C):=by show o.KN.okM Xa λ_ _ A _ _ H vs Q E hr h=>?_;let{kp,dx,I,wa,oa,n,x,y,ts,os,ess,0,k,U,J,q}:=h;show{_,zX (zu (AF (Ss o) hr (zB (zm AM (Dc (pv 0) rfl) (pv 1)) (zB (zm AM (Dc (pv 0) rfl) (pv 2)) zJ)))),?_};let{G,L}:=k.gd;let{as,ax,ay,es,fs,hl,gx,gy,lx,ly,Lx,Ly,Cv}:=k.lab.two L U.1 U.2 J.1 J.2;show{1,kp,C,dx,_,.ref I,0,k.ins,o.kT.cl,o.kT.nl,6,I,3,.ref ax,2,AD.of hl,Ac U.1 gx,?_};show{1,kp,C,dx,_,.ref I,0,k.ins,o.kT.cl,o.kT.nl,6,I,3,.ref ay,2,AD.of hl,Ac J.1 gy,?_};show{ax,ay,es,fs,0,lx,ly,Ly.hub,λlm H1 s1 hm=>q _ _ s1 (Jq G Lx Ly Cv hm).1}
def V0:zl NW TQ.p (defScope TQ.s):=AK
end
structure WV (n:Int)(e:En):Prop where
 rng:0<=e.h/\e.h<n
 nn:0<=e.l
 own:e.l=0->e.u=none/\e.d=none
 far:e.l≠0->∃u d,e.u=some u/\e.d=some d/\0<=u/\u<n/\0<=d/\d<n
structure F6 (n:Int)(es:List En):Prop where
 ent:∀e∈es,WV n e
 hub:FJ es
 len:(es.length:Int)<=n
 one:(es.map (·.l)).countP (λx=>x==0)=1
def Pk:Sp:=λo H Q _=>∃p,∃(xs:List Int),o=[.ref p]/\H p=some (.lst (xs.map V.int))/\xs.Pairwise (· < ·)/\xs.length<=1000/\∀H',AE H H'->Q (.bl true) H'
def Ml:Sp:=λo H Q _=>∃n a e,o=[.int n,.ref a]/\H a=some (.tup (eV e))/\WV n e/\Q (.bl true) H
def Lw:Sp:=λo H Q _=>∃n p es,o=[.int n,.ref p]/\BN H p es/\F6 n es/\∀H',AE H H'->Q (.bl true) H'
def i7:Sp:=λC H Q _=>∃n l o,C=[.int n,.ref l]/\CW H l o/\(o.length:Int)=n/\n<=24/\(∀es∈o,F6 n es)/\∀H',AE H H'->Q (.bl true) H'
def QF:zl ["things"] HI.p (defScope HI.s):=AK
def KZ (U:Ws P w K mg base PT C D):Fz P w K mg base 1 HI Pk:=by
 show U.Rs.okZ QF λ_ _ A _ _ H vs Q E hr h=>?_;let{p,xs,0,hp,mf,hl,k}:=h;show{_,zX (zu (AZ (JX rfl) U.mAll (zB (BB (own:=["k"]) (cn:=["things"]) (ci:=[0]) rfl (Ai rfl rfl) {9,trivial} rfl
  (R9 rfl U.mRange (zB zb (zB (AZ CD U.mLen (zB (pv 0) zJ)) zJ))) (λ_ _ _ _=>Ah) (λ_ _ _ _=>A8)
  (λ_ _ _ _=>BS N8 (zm DX (pv 1) (AQ ED (pv 0) zb)) (zm DX (pv 1) (pv 0)) (zw _))) zJ))),?_}
 show⟨_,rfl,p,_,rfl,.inl (AA.of hp),1,_,rfl,{by decide,by decide,by rw[zA];lia,by rw[zA];lia},[.ref p],rfl,λD hD=>?_⟩;show Dw (lo:=1) (n:=(((xs.map V.int).length:Int)-1).toNat) (λq I H4=>q<=(((xs.map V.int).length:Int)-1).toNat/\I=(List.replicate q true).map V.bl/\H4=upd H D (.lst I)) {zd _,2} (λq I H4 z=>?_) (λq I H4 hq z=>?_) (λI H4 z=>?_)
 . let{hq,0,_}:=z;rw[zA] at hq;rw[zA,Cq];show Bm ()
 . let{_,2}:=z;rw[zA] at hq;let J:=zG (o:=.lst ((List.replicate q true).map V.bl)) hD _ _ hp;let h1:q<xs.length:=()
   let h2:q+1<xs.length:=()
   show{{2},?_};show A7 ?_;show{4,5,p,3,.int xs[q],2,AA.of J,Ac () (by rw[show ((1:Int)+q-1).toNat=q by lia,zK,zC h1];rfl),4,p,3,.int xs[q+1],2,AA.of J,Ac () (by rw[show ((1:Int)+q).toNat=q+1 by lia,zK,zC h2];rfl),5,zF,by rw[zA];lia,?_,Bp};let kS:=EZ.mp mf q (q+1) h1 h2 ()
   try dsimp only
   rw[zY kS,JY,zO];rfl
 . let{_,2}:=z;show{D,1,AA.of zF,?_};let lU:∀m,(List.replicate m true).all id=true:=λm=>Ea.mpr λb hb=>(List.mem_replicate.mp hb).2;rw[lU];show k _ (zG hD)
def Js:zl K0 RO.p (defScope RO.s):=AK
def il (I:Ws P w K mg base PT C D):Fz P w K mg base 4 RO Ml:=by
 show I.Ee.okZ Js λ_ _ A _ _ H vs Q E J h=>?_;let{n,a,e,0,ha,O,k}:=h;show{_,zN (AU (PW.pt (Cs (CM (BR (AF (U7 I) J (zB (pv 1) (zB zb zJ))))) (DO (CM (BR (AF (Jb I) J (zB (pv 0) (zB (zm AM (pv 1) zb) zJ)))))))) (zX (zu GS)) AV)
  (zN (AU (PW.pt (Cs (CM (BR (AF (ZX I) J (zB (zm AM (pv 1) zb) zJ)))) (DO (zt N8 (zm AM (pv 1) zb) zb (zw _))))) (zX (zu GS)) AV)
  (zN (AU (zt Am (zm AM (pv 1) zb) zb (zw _)) (zX (zu (Ef (BS CS (zm AM (pv 1) zb) Ax (zw _)) (Du (BS CS (zm AM (pv 1) zb) Ax (zw _)))))) AV)
  (zX (zu (Ef (AF (Jb I) J (zB (pv 0) (zB (zm AM (pv 1) zb) zJ))) (Du (AF (Jb I) J (zB (pv 0) (zB (zm AM (pv 1) zb) zJ))))))))),?_}
 let lO:=O.rng;let o:=AD.of (K:=K) ha;show{1,a,eV e,0,ha,1,Ao ?_};show{4,a,3,.int e.h,2,o,0,n,e.h,0,lO.1,(),1,Ao ?_};show{1,a,3,.int e.l,2,o,0,e.l,6,Ao ?_};let hnn:=O.nn;show{1,a,3,.int e.l,2,o,0,_,8,AL (za ()) ?_};show{1,a,3,.int e.l,2,o,0,6,?_};rw[IE];by_cases c:e.l=0
 . show BG (zY c) ?_;let{U,hd}:=O.own c;show{1,a,3,oV e.u,2,o,0,6,?_};show BG (by rw[U];rfl) ?_;show{1,a,3,oV e.d,2,o,2,?_};rwa[hd,show decide (oV none=V.non)=true from rfl]
 . show AL (za c) ?_;let{u,d,U,hd,u0,u1,d0,d1}:=O.far c;show{4,a,3,oV e.u,2,o,0,n,u,by rw[U];rfl,u0,(),true,0,CB ?_};show{4,a,3,oV e.d,2,o,0,n,d,by rw[hd];rfl,d0,(),k}
def Yi (m):(List.replicate m true).all id=true:=Ea.mpr λb o=>(List.mem_replicate.mp o).2
def aX:zl ["n","thing","longs"] RN.p (defScope RN.s):=AK
def jm (wz:Ws P w K mg base PT C D):Fz P w K mg base 5 RN Lw:=by
 show wz.Ll.okZ aX λ_ _ A _ _ H vs Q E hr h=>?_;let{n,p,es,0,L,LK,k}:=h;let{as,U,EA,hl}:=id L;let hlen:=LK.len;show{_,zN (AU (PW.pt (Cs (CM (BR (AZ Sn wz.mIsi (zB (pv 1) (zB (SV (T := "tuple") wz.mTuple) zJ))))) (DO (zt Jl (AZ CD wz.mLen (zB (pv 1) zJ)) (pv 0) (zw _))))) (zX (zu GS)) AV)
  (zN (AU (CM (BR (AZ (JX rfl) wz.mAll (zB (BB (own:=["entry"]) (cn:=["n"]) (ci:=[0]) rfl (Ai rfl rfl) {9,trivial} rfl (Bo (pv 1)) (λ_ _ _ _=>Ah) (λ_ _ _ _=>A8)
   (λ_ _ _ _=>AF (il wz) hr (zB (pv 1) (zB (pv 0) zJ)))) zJ)))) (zX (zu GS)) AV)
  (zN (DZ (i:=2) (own:=["entry"]) (cn:=[]) (ci:=[]) aX.nd rfl (Or.inl rfl) rfl (Ai rfl rfl) trivial rfl (Bo (pv 1)) (λ_ _ _ _=>Ah) (λ_ _ _ _=>A8) (λ_ _ _ _=>zm DL (pv 0) zb))
  (zX (zu (Ef (BS Am (BE PySem.F.plainAttrs_list PySem.F.slot_list_count PySem.F.type_list_count dZ (pv 2) (zB zb zJ)) zb (zw _)) (Du (AF (KZ wz) hr
   (zB (BB (own:=["entry"]) (cn:=[]) (ci:=[]) rfl (Ai rfl rfl) trivial rfl (Bo (pv 1)) (λ_ _ _ _=>Ah) (λ_ _ _ _=>A8) (λ_ _ _ _=>zm DL (pv 0) zb)) zJ)))))))),?_}
 show{1,_,3,true,0,.tup U,6,Ao ?_};show{1,p,1,.inr (AD.of U),1,_,8,AL (za (by rw[zA,EA.1];lia)) ?_};show{1,p,0,{_,AD.of U},[.int n],0,λD hD=>?_};show CH (a:=p) (xs:=as.map V.ref) (λi I J=>i<=es.length/\I=(List.replicate i true).map V.bl/\J=upd H D (.lst I)) {zd _,2} (λi I J z=>?_) (λi I J z=>?_) (λi v I J hv z=>?_) (λI J z=>?_)
 . let{7}:=z;show AD.of (zG hD _ _ U)
 . let{hi,0,_}:=z;rw[zA,Cq];show Bm ()
 . let{_,2}:=z;let{a,x,0,hx,ha}:=EA.at hv;show{{2},?_};show A7 ?_;show{4,n,a,x,0,zG hD _ _ ha,LK.ent x (zQ hx),zF,(zH.mp hx).1,?_,Bp};rw[JY,zO];rfl
 . let{_,2}:=z;show{D,1,AA.of zF,1,?_};rw[Yi];show Ao ?_;let s1:=zG (o:=.lst ((List.replicate (as.map V.ref).length true).map V.bl)) hD;generalize upd H D (.lst ((List.replicate (as.map V.ref).length true).map V.bl))=H1 at s1 ⊢;show{1,p,0,{_,AD.of (s1 _ _ U)},[],0,λD2 ke=>?_};show CH (a:=p) (xs:=as.map V.ref) (λi I J=>I=((es.take i).map (·.l)).map V.int/\J=upd H1 D2 (.lst I)) {2} (λi I J z=>?_) (λi I J z=>?_) (λi v I J hv z=>?_) (λI J z=>?_)
   . let{1}:=z;show AD.of (zG ke _ _ (s1 _ _ U))
   . let{0,_}:=z;rw[zA,zA,zi];show Bm ()
   . let{2}:=z;let{a,x,0,hx,ha}:=EA.at hv;show{{2},?_};show A7 ?_;show{1,a,3,.int x.l,2,AD.of (zG ke _ _ (s1 _ _ ha)),0,zF,?_,Bp};rw[ze,hx,zO,zO];rfl
   . let{2}:=z;rw[zA,EA.1,zR (zL _)];let s2:=s1.trans (zG (o:=.lst ((es.map (·.l)).map V.int)) ke);let pE:(upd H1 D2 (.lst ((es.map (·.l)).map V.int))) D2=some (.lst ((es.map (·.l)).map V.int)):=zF;generalize upd H1 D2 (.lst ((es.map (·.l)).map V.int))=H2 at s2 pE ⊢;show⟨_,rfl,.inl {0,_,AA.of pE},D2,es.map (·.l),0,rfl,rfl,AA.of pE,rfl,_,rfl,?_⟩;show BG (by rw[LK.one];rfl) ?_;show{1,p,0,{_,AD.of (s2 _ _ U)},[],0,λD3 lA=>?_};show CH (a:=p) (xs:=as.map V.ref) (λi I J=>I=((es.take i).map (·.h)).map V.int/\J=upd H2 D3 (.lst I)) {2} (λi I J z=>?_) (λi I J z=>?_) (λi v I J hv z=>?_) (λI J z=>?_)
     . let{1}:=z;show AD.of (zG lA _ _ (s2 _ _ U))
     . let{0,_}:=z;rw[zA,zA,zi];show Bm ()
     . let{2}:=z;let{a,x,0,hx,ha}:=EA.at hv;show{{2},?_};show A7 ?_;show{1,a,3,.int x.h,2,AD.of (zG lA _ _ (s2 _ _ ha)),0,zF,?_,Bp};rw[ze,hx,zO,zO];rfl
     . let{2}:=z;rw[zA,EA.1,zR (zL _)];show{D3,es.map (·.h),0,zF,by rw[DK];show LK.hub,by rw[zA];lia,λH5 s5=>?_};show k _ ((s2.trans (zG lA)).trans s5)
def iF:zl K0 SS.p (defScope SS.s):=AK
def dF (U:Ws P w K mg base PT C D):Fz P w K mg base 6 SS i7:=by
 show U.Al.okZ iF λ_ _ A _ _ H vs Q E hr h=>?_;let{n,l,ess,0,{as,hl,hal,oN},hn,mC,hk,k}:=h;show{_,zX (zu (Ef (AF (U7 U) hr (zB (pv 1) (zB (pv 0) zJ))) (Du (AZ (JX rfl) U.mAll (zB (BB (own:=["label"]) (cn:=["n"]) (ci:=[0]) rfl (Ai rfl rfl) {9,trivial} rfl (Bo (pv 1)) (λ_ _ _ _=>Ah) (λ_ _ _ _=>A8)
  (λ_ _ _ _=>AF (jm U) hr (zB (pv 1) (zB (pv 0) zJ)))) zJ))))),?_}
 let hln:((as.map V.ref).length:Int)=n:=by rwa[zA,hal]
 show{4,l,as.map V.ref,by rw[hln];rfl,hl,true,0,CB ?_};show{1,l,0,{_,AD.of hl},[.int n],0,λD hD=>?_};show CH (a:=l) (xs:=as.map V.ref) (λi o I=>i<=as.length/\o=(List.replicate i true).map V.bl/\AE H I/\I D=some (.lst o)) {zd _,0,zG hD,zF} (λi o I z=>?_) (λi o I z=>?_) (λi v o I J z=>?_) (λo I z=>?_)
 . show AD.of (z.2.2.1 _ _ hl)
 . let{hi,0,_}:=z;rw[zA,Cq];show Bm ()
 . let{1,s4,ki}:=z;obtain⟨a,ha,rfl⟩:∃a,as[i]?=some a/\V.ref a=v:=by
    rw[zK] at J;cases e:as[i]? with
    | none=>rw[e] at J;cases J
    | some a=>rw[e] at J;show{a,0,zT J}
   let{es,e1,e2}:=oN i a ha;show{{2},?_};show A7 ?_;show{4,n,a,es,0,e2.same s4,hk es (zQ e1),λH5 s5=>?_};show{s5 _ _ ki,(zH.mp ha).1,?_,A4 (s4.trans s5) hD,zF};rw[JY,zO];rfl
 . let{1,s4,ki}:=z;show{D,1,AA.of ki,?_};rw[Yi];show k _ s4
def bJ:∀{l:List Int}{a b:Int},l.Pairwise (· < ·)->(∀x∈l,a<=x/\x<b)->a<=b->(l.length:Int)<=b-a
 | [],a,b,_,_,h=>by simp;lia
 | x::r,a,b,hp,hb,h=>by
  let J:=hb x zo;let{I,C}:=F1.mp hp;let:=bJ (l:=r) (a:=x+1) (b:=b) C (λy o=>{by let:=I y o;lia,(hb y (zr _ o)).2}) ();rw[zj]
  lia
def Ge.kind (G:GW n ts)(L:Ge ts n rk v es)(v0:0<=v)(v1:v<n):F6 n es:=by
 show{λe he=>?_,L.hub,?_,?_}
 . let E:=L.ent e he;show{E.rng,E.len.1.nn G,λh0=>?_,λkb=>?_}
   . let ev:=(JO G E.len).mp h0;constructor
     . let u:=E.up;cases J:e.u with
       | none=>rfl
       | some m=>rw[J] at u;show absurd ev (u.1.ne G)
     . let u:=E.dn;cases J:e.d with
       | none=>rfl
       | some m=>rw[J] at u;show absurd ev.symm (u.1.ne G)
   . let ev:v≠e.h:=λz=>kb ((JO G E.len).mpr z);let{p,o}:=B8.exists G E.len ev;let{q,hq}:=B8.exists G E.len.symm ev.symm;let{u,eu,pu}:=E.up.some_of o;let{d,ed,pd}:=E.dn.some_of hq;let{l1,b1,a1,_}:=pu;let{l2,b2,a2,_}:=pd;let g1:=G.adj a1;let g2:=G.adj a2;show{u,d,eu,ed,(),(),(),()}
 . let:=bJ (l:=es.map (·.h)) (a:=0) (b:=n) (by rw[DK];show L.hub) (λx C=>by let{e,he,0}:=zy.mp C;show (L.ent e he).rng) ()
   rw[zA] at this
   lia
 . let{e,r,hf,_}:=(L.lg G v0 v1).zero G;let I:∀x∈es.filter (λe=>decide (e.l=0)),x.h=v:=λx C=>by let{h1,U}:=CZ.mp C;show ((JO G (L.ent x h1).len).mp (of_decide_eq_true U)).symm
   let o:(es.filter (λe=>decide (e.l=0))).Pairwise λa b=>a.h<b.h:=List.Pairwise.filter _ L.hub;rw[hf] at I o;let hr:r=[]:=by
    cases r with
    | nil=>rfl
    | cons e' r'=>
     let h1:=I e zo;let U:=I e' (zr _ zo);let:=(F1.mp o).1 e' zo
     lia
   rw[List.countP_map,List.countP_eq_length_filter];let:(λx:Int=>x==0)∘(λe:En=>e.l)=λe=>decide (e.l=0):=by
    funext e;change (e.l==0)=decide (e.l=0);cases h:decide (e.l=0) with
    | true=>have:=of_decide_eq_true h;rw[this];rfl
    | false=>have:=of_decide_eq_false h;show beq_false_of_ne this
   rw[this,hf,hr];rfl
meta def EU (ess:List (List En)):Nat->List (Nat×En)
 | 0=>[]
 | i+1=>EU ess i++((ess.getD i []).filter λe=>decide (e.l≠0)).map λe=>(i,e)
def Ey (H:Hp)(ys:List V)(o:List (Nat×En)):Prop:=ys.length=o.length/\∀(j:Nat)y,ys[j]?=some y->∃c a,∃(i:Nat),∃e,y=.ref c/\o[j]?=some (i,e)/\H c=some (.tup [.int i,.ref a])/\H a=some (.tup (eV e))
def Ey.keep (h:Ey H ys fe)(k:∀b zs,H b=some (.tup zs)->H' b=some (.tup zs)):Ey H' ys fe:=
 {h.1,λj y e=>let ⟨c,a,i,x,J,I,C,o⟩:=h.2 j y e;{c,a,i,x,J,I,k _ _ C,k _ _ o}}
def Ey.app (h:Ey H ys fe)(g:Ey H zs ge):Ey H (ys++zs) (fe++ge):=by
 show{by rw[zS,zS,h.1,g.1],λj y e=>?_};by_cases c:j<ys.length
 . rw[zV c] at e;let{a,b,i,x,I,C,o}:=h.2 j y e;show{a,b,i,x,I,by rw[zV (by rw[<-h.1];show c)];show C,o}
 . rw[zW ()] at e;let{a,b,i,x,I,C,o}:=g.2 _ y e;show{a,b,i,x,I,by rw[zW (by rw[<-h.1];lia),<-h.1];show C,o}
inductive YM (vs:List V)(H:Hp)(Q:VK):Prop
 | mk:∀(l:Addr)(ess:List (List En)),(vs=[.ref l])->(CW H l ess)->(ess.length<=24)->((∀es∈ess,es.length<=24))->(∀(a:Addr)(ys:List V)(H':Hp),AE H H'->H a=none->H' a=some (.lst ys)->Ey H' ys (EU ess ess.length)->Q (.ref a) H')->YM vs H Q
def LC:Sp:=λo H Q _=>YM o H Q
def Ut :∀{n i:Nat}{e:En},(i,e)∈EU ess n->i<n/\e∈ess.getD i []
 | 0,_,_,h=>by simp[EU] at h
 | n+1,i,e,h=>by
  rcases Bu.mp (show (i,e)∈EU ess n++_ from h) with z | z
  . let:=Ut z;show{(),this.2}
  . let{x,o,ex}:=zy.mp z;simp only[Prod.mk.injEq] at ex;let{2}:=ex;show{(),(CZ.mp o).1}
def Y5 (h:∀es∈ess,es.length<=24):∀n,(EU ess n).length<=24*n
 | 0=>zL _
 | n+1=>by
  change (EU ess n++_).length<=_;rw[zS,zA];let I:=Y5 h n;let C:=C7 (λe:En=>decide (e.l≠0)) (ess.getD n []);let o:(ess.getD n []).length<=24:=by
   rw[zE];cases e:ess[n]? with
   | none=>show zd _
   | some x=>show h x (zQ e)
  lia
def SF:zl ["labels","found","place","label"] SR.p (defScope SR.s):=AK
def aT (wz:Ws P w K mg base PT C D):Fz P w K mg base 1 SR LC:=by
 show wz.Fa.okZ SF λ_ _ A _ _ H vs Q E hr h=>?_;let{l,ess,0,LL,hn,m8,k}:=h;let{as,hl,hal,hA}:=id LL;show{_,zN (AX (i:=1) SF.nd (BA zJ))
  (zN (Bn (VB (by rfl) wz.mEnum (zB (pv 0) zJ)) (DN rfl (Ag (CY (i:=2) SF.nd rfl (Or.inr rfl)) (Ag (Ay (i:=3) SF.nd) CK)))
   (zX (Ca (BE PySem.F.plainAttrs_list PySem.F.slot_list_extend PySem.F.type_list_extend Yr (pv 1) (zB
    (BB (own:=["entry"]) (cn:=GI) (ci:=[2]) rfl (Ai rfl rfl) {9,trivial} rfl (Bo (pv 3)) (λ_ _ _ _=>Ah)
     (λ_ _ _ _=>De (zt Cb (zm DL (pv 0) zb) zb (zw _)))
     (λ_ _ _ _=>BY (zB (pv 1) (zB (pv 0) zJ)))) zJ)))))
  (zX (zu (pv 1)))),?_}
 show{G8,λD hD=>?_};let s0:=zG (o:=.lst []) hD;show{1,l,0,{_,AD.of (s0 _ _ hl)},VR (K:=K) (a:=l) (xs:=as.map V.ref) (λi σ J=>Qk λ(v2 v3:Option V)(U:List V)=>σ=[some (.ref l),some (.ref D),v2,v3]/\AE H J/\J D=some (.lst U)/\Ey J U (EU ess i))
  {3,[],0,s0,zF,0,λj y e=>by simp at e} (λi σ J _ ⟨_,_,_,_,s2,_⟩=>AD.of (s2 _ _ hl)) ?turn ?after}
 case after=>
  rintro σ J ⟨v2,v3,U,rfl,s2,ke,FA⟩;rw[zA,hal] at FA;show{1,k D U J s2 hD ke FA}
 case turn=>
  rintro i x σ J Tp hx ⟨v2,v3,U,rfl,s2,ke,FA⟩ hTp;rw[zK] at hx;cases ha:as[i]? with
  | none=>rw[ha] at hx;cases hx
  | some a=>
  rw[ha] at hx;cases hx;let hia:=(zH.mp ha).1;let{es,hes1,bs,hb,EA,hl3}:=hA i a ha;let eget:ess.getD i []=es:=by rw[zE,hes1];rfl
  let hel:=m8 es (zQ hes1);let sT:=zG (o:=.tup [.int (i:Int),.ref a]) hTp;let s3:=s2.trans sT;show{Tp,1,AD.of zF,0,7,5,?_};show{1,.inl {0,_,AA.of (sT _ _ ke)},1,a,0,{_,AD.of (s3 _ _ hb)},[.int i],0,λD2 lX=>?_};let EA3:EY (upd J Tp (.tup [.int (i:Int),.ref a])) bs es:=EA.keep λb zs e=>s3 _ _ e;let hbl:=EA.1;show CH (a:=a) (xs:=bs.map V.ref) (λj zs I=>Ey I zs (((es.take j).filter λe=>decide (e.l≠0)).map λe=>(i,e))/\AE (upd J Tp (.tup [.int (i:Int),.ref a])) I/\I D2=some (.lst zs)) {{0,λj y e=>by simp at e},zG lX,zF} (λj zs I h=>?_) (λj zs I h=>?_) (λj v zs I hv h=>?_) (λzs I h=>?_)
  . show AD.of (h.2.1 _ _ (s3 _ _ hb))
  . rw[h.1.1,zA];show E9 (C7 _ _) (Bm (by rw[zi];lia))
  . let{F4,s4,ki}:=h;let{c,e,0,he,hc}:=EA3.at hv;let hc4:=s4 _ _ hc;show{{2},?_};show{1,c,3,.int e.l,2,AD.of hc4,0,6,?_};rw[IE];let st:=bg (λe:En=>decide (e.l≠0)) he;by_cases cc:e.l=0
    . rw[zY cc];show Ao {?_,s4,ki};rw[st,if_neg (by simp[cc]),BW];show F4
    . rw[za cc];show CB ?_;show{4,B7,λq hq=>?_};let nDq:=zp ki hq;show{zG hq _ _ ki,?_,A4 (s4.trans (zG hq)) lX,zF};rw[st,if_pos (by simp[cc]),zO];let kp:∀b us,I b=some (.tup us)->(upd (upd I q (.tup [.int (i:Int),.ref c])) D2 (.lst (zs++[.ref q]))) b=some (.tup us):=λb us e=>by rw[zg (AJ e ki (by intro z;cases z))];show zG hq _ _ e
      show (F4.keep kp).app {0,λj' y' e'=>?_};cases j' with
      | zero=>
       let:V.ref q=y':=by simpa using e'
       subst this;show{q,c,i,e,2,by rw[zg nDq.symm];show zF,kp _ _ hc4}
      | succ z=>simp at e'
  . let{F4,s4,ki}:=h;rw[zA,EA.1,zR (zL _)] at F4;let hDD:=s4 _ _ (sT _ _ ke);let f1:=Y5 m8 i;let f2:=FA.1;let f3:=F4.1;let f4:=C7 (λe:En=>decide (e.l≠0)) es;rw[zA] at f3;show{D,D2,5,hDD,ki,FH (Bm ()),?_};let s5:=A4 (o:=.lst (U++zs)) (s3.trans s4) hD;let kp:∀b us,I b=some (.tup us)->(upd I D (.lst (U++zs))) b=some (.tup us):=λb us e=>by rw[zg (AJ e hDD (by intro z;cases z))];show e
    show{3,U++zs,0,s5,zF,?_};change Ey _ _ (EU ess i++_);rw[eget];show ((FA.keep λb us e=>s4 _ _ (sT _ _ e)).keep kp).app (F4.keep kp)
def BH :CN X st (λ_ _ _=>False):=λ_ _ _ _ _ _ h=>h.elim
structure Jy (H:Hp)(wa la:Addr)(n:Int)(ts:List T3)(rk:Int->Int)(ess:List (List En)):Prop where
 wb:Af H wa n ts
 lb:CW H la ess
 lo:Hz ts n rk ess
 lg:Hr ts n ess
def Jy.same (h:Jy H wa la n ts rk ess)(s:AE H H'):Jy H' wa la n ts rk ess:={h.wb.keep s,h.lb.keep λb o e=>s _ _ e,h.lo,h.lg}
structure Tj (ts:List T3)(n:Int)(ess:List (List En))(i:Nat)(e:En):Prop where
 hi:i<ess.length
 mem:e∈ess.getD i []
 far:e.l≠0
def getD_some {o:Type}{l:List (List o)}(h:i<l.length):l[i]?=some (l.getD i []):=by rw[zE,zC h];rfl
def Tj.eg (h:Tj ts n ess i e)(G:GW n ts)(L:Hr ts n ess):EG ts n i e/\e.h≠i:=by let E:=(L.lg i _ (getD_some h.hi)).ent e h.mem;show{E,λz=>h.far ((JO G E.len).mpr z.symm)}
def J2 (G:GW n ts)(L:Hz ts n rk ess)(h:Tj ts n ess i e)(x:B8 ts i e.h p)(p0:0<=p)(p1:p<n):∃f∈ess.getD p.toNat [],f.h=e.h:=by
 let hl:=L.1;let E:=(L.2 i _ (getD_some h.hi)).ent e h.mem;let{l,b,ha,o,C}:=x;let U:p.toNat<ess.length:=()
 let I:=L.2 p.toNat _ (getD_some U);rw[show ((p.toNat:Nat):Int)=p by lia] at I;show I.all e.h E.rng.1 E.rng.2 {⟨b,o.symm⟩,λq J=>E.hub.2 q ?_};show Be.trans (p:=p) {b,l,o.symm,?_,?_} J
 . show{(Ad.one ha).symm,λd hd=>?_};let:=C.2 _ (hd.symm.trans o.1)
   lia
 . rw[Int.add_comm];show C.symm
inductive cR (vs:List V)(H:Hp)(Q:VK):Prop
 | mk:∀(wa la a:Addr)(i:Nat)(n:Int)(ts:List T3)(rk:Int->Int)(ess:List (List En))(e:En),(vs=[.ref wa,.ref la,.int i,.ref a])->(Jy H wa la n ts rk ess)->(H a=some (.tup (eV e)))->(Tj ts n ess i e)->(∀H',AE H H'->Q (.bl true) H')->cR vs H Q
def QQ:Sp:=λo H Q _=>cR o H Q
inductive YB (vs:List V)(H:Hp)(Q:VK):Prop
 | mk:∀(wa la:Addr)(n:Int)(ts:List T3)(rk:Int->Int)(ess:List (List En)),(vs=[.ref wa,.ref la])->(Jy H wa la n ts rk ess)->(∀H',AE H H'->Q .non H')->YB vs H Q
def VN:Sp:=λo H Q _=>YB o H Q
inductive Y4 (vs:List V)(H:Hp)(Q:VK):Prop
 | mk:∀(wa la:Addr)(n:Int)(ts:List T3)(rk:Int->Int)(ess:List (List En)),(vs=[.ref la])->(Jy H wa la n ts rk ess)->(∀H',AE H H'->Q .non H')->Y4 vs H Q
def Xx:Sp:=λo H Q _=>Y4 o H Q
def Wc:Sp:=λo H Q _=>∃x y l,o=[oV x,oV y,.int l]/\(∀d,x=some d->∃c,y=some c/\c<=d+l)/\Q (.bl false) H
def MU:Sp:=λo H Q _=>∃x:Str,o=[.str x,.non]/\Q .non H
inductive a9 (vs:List V)(H:Hp)(Q:VK):Prop
 | mk:∀(wa la:Addr)(n:Int)(ts:List T3)(rk:Int->Int)(ess:List (List En)),(vs=[.ref wa,.ref la])->(Jy H wa la n ts rk ess)->(∀H',AE H H'->Q (.bl true) H')->a9 vs H Q
def Jt:Sp:=λo H Q _=>a9 o H Q
def Lm:zl ["web","labels","place","entry","tie","above"] UG.p (defScope UG.s):=AK
def QD (wz:Ws P w K mg base PT C D):Fz P w K mg base 3 UG QQ:=by
 show wz.Ur.okZ Lm λ_ _ A _ _ H vs Q E hr h=>?_;let{wa,la,a,i,n,ts,rk,ess,e,0,I,U,fe,k}:=h;let{_,3,3,G}:=id I.wb;let{E,ne}:=fe.eg G I.lg;let{p,eu,x}:=E.up ne;let hl:=I.lg.ln;let hi:=fe.hi;obtain⟨p0,p1⟩:0<=p/\p<n:=by let{l,b,hA,_}:=x;show (Ad.one hA).in_ G () ()
 let{g,J,gh}:=J2 G I.lo fe x p0 p1;let{l,b,hA,ib,nJ}:=x;let{as,c,fs,h1,h2,h3,L3}:=I.lb.at hl p0 p1;let Lp:=I.lg.lg _ _ h3;let gd:ess.getD p.toNat []=fs:=by rw[zE,h3];rfl
 rw[gd] at J;let Eg:=Lp.ent g J;rw[show ((p.toNat:Nat):Int)=p by lia] at Eg;let Egl:=Eg.len;rw[gh] at Egl;let hev:eV e=[.int e.h,.int e.l,.int p,oV e.d]:=by unfold eV;rw[eu];rfl
 show{_,zN (AX (i:=4) Lm.nd (AF (RS wz) hr (zB (pv 0) (zB (pv 2) (zB (zm AM (pv 3) zb) zJ)))))
  (zN (AX (i:=5) Lm.nd (AF (Uv wz) hr (zB (zm AM (pv 1) (zm AM (pv 3) zb)) (zB (zm AM (pv 3) zb) zJ))))
  (zX (zu (Ef (BS Nz (pv 4) Ax (zw _)) (Ef (BS Nz (pv 5) Ax (zw _)) (Du (BS Am (zm AM (pv 5) zb) (AQ ED (zm AM (pv 3) zb) (pv 4)) (zw _)))))))),?_}
 rw[hev] at U;show{1,4,a,3,.int p,2,AD.of U,0,wa,n,ts,i,p,0,I.wb,λr H1 s1 hr1=>?_};obtain rfl:r=.int l:=by
  rcases hr1 with ⟨l',k9,rfl⟩ | ⟨no,_⟩
  . rw[G.uniq hA k9]
  . show absurd hA (no l)
 let{ga,hga}:=(L3.same s1).ent Lp.hub ((Fp Lp.hub).mpr ⟨J,gh⟩);show{4,a,3,.int p,2,AD.of (s1 _ _ U),0,la,3,.ref c,2,AD.of (s1 _ _ h1),Ac p0 h2,1,a,3,.int e.h,2,AD.of (s1 _ _ U),0,c,fs,e.h,0,L3.same s1,(λz=>by rw[(Fp Lp.hub).mpr ⟨J,gh⟩] at z;cases z),λg' a' o lG=>?_};rw[(Fp Lp.hub).mpr ⟨J,gh⟩] at o;cases o;show{8,BG (by rfl) ?_};show{8,BG (by rfl) ?_};show{1,a',3,.int g.l,2,AD.of lG,6,a,3,.int e.l,2,AD.of (s1 _ _ U),6,3,9,?_};let e1:=Egl.uniq ib;let e2:=E.len.uniq nJ;rw[zY (by rw[e1,e2];congr 1;lia)];show k _ s1
def QG:zl ["web","labels","place","entry","tie"] UB.p (defScope UB.s):=AK
def PY (J:Ws P w K mg base PT C D):Fz P w K mg base 3 UB QQ:=by
 show J.Dr.okZ QG λ_ _ A _ _ H vs Q E hr h=>?_;let{wa,la,a,i,n,ts,rk,ess,e,0,I,o,fe,k}:=h;let{_,3,3,G}:=id I.wb;let{E,ne}:=fe.eg G I.lg;let{p,ed,x}:=E.dn ne;let hl:=I.lg.ln;let hi:=fe.hi;let{l,b,hA,ib,nJ}:=x;obtain⟨p0,p1⟩:0<=p/\p<n:=(Ad.one hA).in_ G E.rng.1 E.rng.2;let hev:eV e=[.int e.h,.int e.l,oV e.u,.int p]:=by unfold eV;rw[ed];rfl
 show{_,zN (AX (i:=4) QG.nd (AF (RS J) hr (zB (pv 0) (zB (zm AM (pv 3) zb) (zB (zm AM (pv 3) zb) zJ)))))
  (zX (zu (Ef (BS Nz (pv 4) Ax (zw _)) (Du (BS Am (AF (Ss J) hr (zB (zm AM (pv 1) (zm AM (pv 3) zb)) (zB (zm AM (pv 1) (pv 2)) zJ))) (AQ ED (zm AM (pv 3) zb) (pv 4)) (zw _)))))),?_}
 rw[hev] at o;show{4,a,3,.int e.h,2,AD.of o,6,a,3,.int p,2,AD.of o,0,wa,n,ts,e.h,p,0,I.wb,λr H1 s1 U=>?_};obtain rfl:r=.int l:=by
  rcases U with ⟨l',k9,rfl⟩ | ⟨no,_⟩
  . rw[G.uniq hA k9]
  . show absurd hA (no l)
 let{as,ax,ay,es,fs,h1,gx,gy,lx,ly,Lx,Ly,Cv}:=(I.same s1).lb.two I.lg p0 p1 (show (0:Int)<=i by lia) (show (i:Int)<n by lia);show{8,BG (by rfl) ?_};show{4,a,3,.int p,2,AD.of (s1 _ _ o),0,la,3,.ref ax,2,AD.of h1,Ac p0 gx,4,la,3,.ref ay,2,AD.of h1,Ac () gy,ax,ay,es,fs,0,lx,ly,Ly.hub,λlm H2 s2 hm=>?_};let tr:=(Jq G Lx Ly Cv hm).1;obtain⟨c,hc⟩:∃c,lm=some c:=by
  cases lm with
  | none=>show absurd ib.1 (tr b)
  | some c=>show{c,0}
 subst hc;let e1:c.1=b:=WM.IsD.uniq (show WM.IsD ts p i c.1 from tr) ib;let e2:=E.len.symm.uniq nJ;let lS:=s1.trans s2;show{1,a,3,.int e.l,2,AD.of (lS _ _ o),6,3,9,?_};rw[zY (show oV (Option.map (·.1) (some c))=V.int (e.l-l) by change V.int c.1=_;rw[e1,e2];congr 1;lia)];show k _ lS
def K7:zl UJ TK.p (defScope TK.s):=AK
def LM:zl UJ Tx.p (defScope Tx.s):=AK
def Uq :∀{n i:Nat}{e:En},(i,e)∈EU ess n->e.l≠0
 | 0,_,_,h=>by simp[EU] at h
 | n+1,i,e,h=>by
  rcases Bu.mp (show (i,e)∈EU ess n++_ from h) with z | z
  . show Uq z
  . let{x,o,ex}:=zy.mp z;simp only[Prod.mk.injEq] at ex;let{2}:=ex;simpa using (CZ.mp o).2
def Q4 (U:Ws P w K mg base PT C D):Fz P w K mg base 4 TK VN:=by
 show U.Uf.okZ K7 λ_ _ A _ _ H vs Q E hr h=>?_;let{wa,la,n,ts,rk,o,0,I,k}:=h;let{_,3,3,G}:=id I.wb;let hn:=G.n24;let hl:=I.lg.ln;show{_,zN (Bn (CQ (AF (aT U) hr (zB (pv 1) zJ))) (DN rfl (Ag (Ay (i:=2) K7.nd) (Ag (Ay (i:=3) K7.nd) CK)))
  (zX (AU (CM (BR (AF (QD U) hr (zB (pv 0) (zB (pv 1) (zB (pv 2) (zB (pv 3) zJ))))))) BH AV)))
  (zX (zu Ax)),?_}
 show{1,la,o,0,I.lb,(),λes m8=>?_,λD ys H1 s1 _ hD FA=>?_}
 . let{j,hj,0}:=CP m8;show (I.lo.2 j _ (zC hj)).len
 show{D,0,{_,AA.of hD},Ng (K:=K) (a:=D) (xs:=ys) (λj σ J=>El λ(v2 v3:Option V)=>σ=[some (.ref wa),some (.ref la),v2,v3]/\AE H1 J) {7,AE.refl _} (λj σ J _ z=>?_) (λj x σ J hx z=>?_) (λσ J z=>?_)}
 . let{_,3,s2}:=z;show AA.of (s2 _ _ hD)
 . let{v2,v3,0,s2}:=z;let{c,a,i,e,0,hf,hc,ha}:=FA.2 j x hx;let hm:=zQ hf;let{m1,m2}:=Ut hm;show{c,1,AD.of (s2 _ _ hc),0,7,5,?_};show{4,4,wa,la,a,i,n,ts,rk,o,e,0,(I.same s1).same s2,s2 _ _ ha,{m1,m2,Uq hm},λH3 s3=>?_};show{true,0,Ao {7,s2.trans s3}}
 . let{v2,v3,0,s2}:=z;show k _ (s1.trans s2)
def Qr (U:Ws P w K mg base PT C D):Fz P w K mg base 4 Tx VN:=by
 show U.Df.okZ LM λ_ _ A _ _ H vs Q E hr h=>?_;let{wa,la,n,ts,rk,o,0,I,k}:=h;let{_,3,3,G}:=id I.wb;let hn:=G.n24;let hl:=I.lg.ln;show{_,zN (Bn (CQ (AF (aT U) hr (zB (pv 1) zJ))) (DN rfl (Ag (Ay (i:=2) LM.nd) (Ag (Ay (i:=3) LM.nd) CK)))
  (zX (AU (CM (BR (AF (PY U) hr (zB (pv 0) (zB (pv 1) (zB (pv 2) (zB (pv 3) zJ))))))) BH AV)))
  (zX (zu Ax)),?_}
 show{1,la,o,0,I.lb,(),λes m8=>?_,λD ys H1 s1 _ hD FA=>?_}
 . let{j,hj,0}:=CP m8;show (I.lo.2 j _ (zC hj)).len
 show{D,0,{_,AA.of hD},Ng (K:=K) (a:=D) (xs:=ys) (λj σ J=>El λ(v2 v3:Option V)=>σ=[some (.ref wa),some (.ref la),v2,v3]/\AE H1 J) {7,AE.refl _} (λj σ J _ z=>?_) (λj x σ J hx z=>?_) (λσ J z=>?_)}
 . let{_,3,s2}:=z;show AA.of (s2 _ _ hD)
 . let{v2,v3,0,s2}:=z;let{c,a,i,e,0,hf,hc,ha}:=FA.2 j x hx;let hm:=zQ hf;let{m1,m2}:=Ut hm;show{c,1,AD.of (s2 _ _ hc),0,7,5,?_};show{4,4,wa,la,a,i,n,ts,rk,o,e,0,(I.same s1).same s2,s2 _ _ ha,{m1,m2,Uq hm},λH3 s3=>?_};show{true,0,Ao {7,s2.trans s3}}
 . let{v2,v3,0,s2}:=z;show k _ (s1.trans s2)
def ML:zl ["labels","place","label"] UD.p (defScope UD.s):=AK
def Py (wz:Ws P w K mg base PT C D):Fz P w K mg base 2 UD Xx:=by
 show wz.Of.okZ ML λ_ _ A _ _ H vs Q E hr h=>?_;let{wa,la,n,ts,rk,ess,0,I,k}:=h;let{_,3,3,G}:=id I.wb;let{as,hl,hal,hA}:=id I.lb;show{_,zN (Bn (VB (by rfl) wz.mEnum (zB (pv 0) zJ)) (DN rfl (Ag (Ay (i:=1) ML.nd) (Ag (Ay (i:=2) ML.nd) CK)))
  (zX (AU (zt Cb (AF (R6 wz) hr (zB (pv 2) zJ)) (pv 1) (zw _)) BH AV)))
  (zX (zu Ax)),?_}
 show{1,la,0,{_,AD.of hl},VR (K:=K) (a:=la) (xs:=as.map V.ref) (λi σ U=>El λ(v1 v2:Option V)=>σ=[some (.ref la),v1,v2]/\AE H U) {7,AE.refl _} (λi σ U _ ⟨_,_,_,s2⟩=>AD.of (s2 _ _ hl)) (λi x σ U Tp J z hTp=>?_) (λσ U z=>?_)}
 . let{v1,v2,0,s2}:=z;rw[zK] at J;cases ha:as[i]? with
   | none=>rw[ha] at J;cases J
   | some a=>
   rw[ha] at J;cases J;let{es,he,L}:=hA i a ha;let{e,r,hf,hv}:=(I.lg.lg i es he).zero G;let s3:=s2.trans (zG (o:=.tup [.int (i:Int),.ref a]) hTp);show{Tp,1,AD.of zF,0,7,5,?_};generalize upd U Tp (.tup [.int (i:Int),.ref a])=H3 at s3 ⊢;show{1,a,es,e,r,0,L.same s3,hf,λH4 s4=>?_};show{8,AL (by rw[hv];simp) ?_};show{7,s3.trans s4}
 . let{v1,v2,0,s2}:=z;show k _ s2
def XO:zl ["here","there","long"] TV.p (defScope TV.s):=AK
def Oh (o:Ws P w K mg base PT C D):Fz P w K mg base 1 TV Wc:=by
 show o.Gm.okZ XO λ_ _ A _ _ H J Q E U h=>?_;let{x,y,l,0,I,k}:=h;show{_,zN (AU (zt CS (pv 0) Ax (zw _)) (zX (zu GS)) AV)
  (zX (zu (IM (BS CS (pv 1) Ax (zw _)) (Du (BS Jl (pv 1) (AQ Bs (pv 0) (pv 2)) (zw _)))))),?_}
 cases x with
 | none=>show{8,BG (by rfl) k}
 | some d=>let{c,0,hc}:=I d rfl;show{8,AL (by rfl) ?_};show{8,AL (by rfl) ?_};show{1,4,5,5,?_};let z:decide (d+l<c)=false:=za ();dsimp only;rwa[z]
def Jn:zl ["web","labels","u","label","row","v","w","long"] UK.p (defScope UK.s):=AK
def P4 (wz:Ws P w K mg base PT C D):Fz P w K mg base 3 UK VN:=by
 show wz.Tf.okZ Jn λ_ _ A _ _ H vs Q E hr h=>?_;let{wa,la,n,ts,rk,ess,0,I,k}:=h;let{ta,tys,kc,3,G}:=id I.wb;let oq:=G.n1;let hn:=G.n24;let hln:=I.lg.ln;let{as,hl,hal,hA}:=id I.lb;show{_,zN (Bn (VB (by rfl) wz.mEnum (zB (pv 1) zJ)) (DN rfl (Ag (Ay (i:=2) Jn.nd) (Ag (CY (i:=3) Jn.nd rfl (Or.inr rfl)) CK)))
  (zN (DZ (i:=4) (own:=["other"]) (cn:=["label"]) (ci:=[3]) Jn.nd rfl (Or.inl rfl) rfl (Ai rfl rfl) {9,trivial} rfl (Bo (pv 1)) (λ_ _ _ _=>Ah) (λ_ _ _ _=>A8)
   (λ_ _ _ _=>AF (Ss wz) hr (zB (pv 0) (zB (pv 1) zJ))))
  (zX (Bn (CO rfl wz.mRange (zB (zm AM (pv 0) zb) zJ)) (Ay (i:=5) Jn.nd)
   (zX (Bn (CQ (AF (Si wz) hr (zB (pv 0) (zB (pv 5) zJ)))) (DN rfl (Ag (Ay (i:=6) Jn.nd) (Ag (Ay (i:=7) Jn.nd) CK)))
    (zX (AU (BR (AF (Oh wz) hr (zB (zm zx (pv 4) (pv 5)) (zB (zm zx (pv 4) (pv 6)) (zB (pv 7) zJ))))) BH AV))))))))
  (zX (zu Ax)),?_}
 show{1,la,0,{_,AD.of hl},VR (K:=K) (a:=la) (xs:=as.map V.ref) (λi σ H2=>Wa λ(v2 v3 v4 v5 v6 v7:Option V)=>σ=[some (.ref wa),some (.ref la),v2,v3,v4,v5,v6,v7]/\AE H H2) {3,3,7,AE.refl _} (λi σ H2 _ ⟨_,_,_,_,_,_,_,s2⟩=>AD.of (s2 _ _ hl)) (λu x σ H2 Tp J z hTp=>?_) (λσ H2 z=>?_)}
 . let{v2,v3,v4,v5,v6,v7,0,s2}:=z;rw[zK] at J;cases ha:as[u]? with
   | none=>rw[ha] at J;cases J
   | some a=>
   rw[ha] at J;cases J;let{fs,hfs,Lu}:=hA u a ha;let gu:=I.lg.lg u fs hfs;let s3:=s2.trans (zG (o:=.tup [.int (u:Int),.ref a]) hTp);show{Tp,1,AD.of zF,0,7,5,?_};generalize upd H2 Tp (.tup [.int (u:Int),.ref a])=H3 at s3 ⊢;show{1,la,0,{_,AD.of (s3 _ _ hl)},[.ref a],0,λD hD=>?_};show CH (a:=la) (xs:=as.map V.ref) (λi ys H4=>∃os:List (Option Int),ys=os.map oV/\os.length=i/\(∀(j:Nat) o,os[j]?=some o->A9 ts j u o)/\i<=ess.length/\AE H3 H4/\H4 D=some (.lst ys)) {[],2,(λj o e=>by simp at e),zd _,zG hD,zF} (λi ys H4 z=>?_) (λi ys H4 z=>?_) (λi x ys H4 J z=>?_) (λys H4 z=>?_)
   . let{_,3,3,s4,_}:=z;show AD.of (s4 _ _ (s3 _ _ hl))
   . let{os,0,ho,_,hi,_}:=z;rw[zA];show BJ ()
   . let{os,0,ho,oB,hi,s4,h4}:=z;rw[zK] at J;cases hb:as[i]? with
     | none=>rw[hb] at J;cases J
     | some b=>
     rw[hb] at J;cases J;let{es,m8,Li}:=hA i b hb;let U:=s3.trans s4;show{{2},?_};show A7 ?_;show{4,b,a,es,fs,0,Li.same U,Lu.same U,gu.hub,λlm H5 s5 hm=>?_};let tr:=(Jq G (I.lg.lg i es m8) gu (I.lg.cov i u es fs m8 hfs) hm).1;show{s5 _ _ h4,os++[lm.map (·.1)],by rw[zO];rfl,by rw[zS,ho];rfl,λj o e=>?_,(zH.mp m8).1,A4 (s4.trans s5) hD,zF};by_cases c:j<os.length
     . rw[zV c] at e;show oB j o e
     . rw[zW ()] at e;let hj:j=i:=by
        let:=(zH.mp e).1;rw[List.length_singleton] at this
        lia
       subst hj;rw[show j-os.length=0 by lia] at e;cases e;show tr
   . let{os,0,ho,oB,_,s4,h4}:=z;rw[zA,hal] at ho;let U:=s3.trans s4;let at':∀x:Int,0<=x->x<n->∃o,Bl (os.map oV) x=some (oV o)/\A9 ts x u o:=λx x0 x1=>by
      let J:x.toNat<os.length:=()
      show{os[x.toNat],Ac x0 (by rw[zK,zC J];rfl),?_};let:=oB x.toNat _ (zC J);rwa [show ((x.toNat:Nat):Int)=x by lia] at this
     show{1,wa,_,5,AD.of (U _ _ kc),0,n,0,(),(),Es (lo:=0) (n:=n.toNat) (λi σ H5=>Qk λ(v5 v6 v7:Option V)=>σ=[some (.ref wa),some (.ref la),some (.int u),some (.ref a),some (.ref D),v5,v6,v7]/\AE H4 H5) {_,7,AE.refl _} (λv σ H5 hv z=>?_) (λσ H5 z=>?_)}
     . let{w5,w6,w7,0,s5}:=z;rw[CC];let s35:=U.trans s5;show{4,wa,n,ts,v,0,I.wb.keep s35,λl zs ms H6 s6 _ hl6 TA hp _=>?_};show{l,0,{_,AA.of hl6},Ng (K:=K) (a:=l) (xs:=zs) (λj σ H7=>El λ(v6 v7:Option V)=>σ=[some (.ref wa),some (.ref la),some (.int u),some (.ref a),some (.ref D),some (.int v),v6,v7]/\AE H6 H7) {7,AE.refl _} (λj σ H7 _ z=>?_) (λj x σ H7 J z=>?_) (λσ H7 z=>?_)}
       . let{_,3,s7}:=z;show AA.of (s7 _ _ hl6)
       . let{x6,x7,0,s7}:=z;let{ya,ky,0,mD,mH,_}:=TA.get J;let{r,c,0,kg}:=Gk.mp (hp.mem_iff.mp (zQ mD));obtain⟨r0,r1⟩:0<=r/\r<n:=(Ad.one kg).in_ G () ();let h47:H7 D=some (.lst (os.map oV)):=s7 _ _ (s6 _ _ (s5 _ _ h4));let{o1,a1,L1}:=at' v () ();let{o2,a2,L2}:=at' r r0 r1;show{ya,1,AD.of (s7 _ _ mH),0,7,5,?_};show{4,D,3,oV o1,2,AA.of h47,a1,4,D,3,oV o2,2,AA.of h47,a2,1,o1,o2,c,0,λd hd=>?_,false,0,Ao {7,s7}};subst hd;let wy:=(Ad.one kg).symm.trans (show WM.IsD ts v u d from L1).1;cases o2 with
         | none=>show absurd wy (L2 _)
         | some c'=>show{c',0,by let:=(show WM.IsD ts r u c' from L2).2 _ wy;lia}
       . let{x6,x7,0,s7}:=z;show{_,7,s5.trans (s6.trans s7)}
     . let{w5,w6,w7,0,s5}:=z;show{3,3,7,U.trans s5}
 . let{v2,v3,v4,v5,v6,v7,0,s2}:=z;show k _ s2
def MI:zl ["word","at"] Rq.p (defScope Rq.s):=AK
def SA (o:Ws P w K mg base PT C D):Fz P w K mg base 1 Rq MU:=by show o.Ra.okZ MI λ_ _ A _ _ H I Q E J h=>?_;let{x,0,k}:=h;show{_,zX (AU (zt Nz (pv 1) Ax (zw _)) BH AV),{8,AL (by rfl) k}}
def Mf:zl ["web","thing"] SX.p (defScope SX.s):=AK
def ir (J:Ws P w K mg base PT C D):Fz P w K mg base 7 SX Jt:=by
 show J.Lt.okZ Mf λ_ _ A _ _ H vs Q E U h=>?_;let{wa,la,n,ts,rk,o,0,I,k}:=h;let{ta,tys,kc,3,G}:=id I.wb;let oq:=G.n1;let hl:=I.lg.ln;show{_,zN (AU (CM (BR (AF (dF J) U (zB (zm AM (pv 0) zb) (zB (pv 1) zJ))))) BH AV)
  (zN (Ca (AF (SA J) U (zB AW (zB (AF (Py J) U (zB (pv 1) zJ)) zJ))))
  (zN (Ca (AF (SA J) U (zB AW (zB (AF (Q4 J) U (zB (pv 0) (zB (pv 1) zJ))) zJ))))
  (zN (Ca (AF (SA J) U (zB AW (zB (AF (P4 J) U (zB (pv 0) (zB (pv 1) zJ))) zJ))))
  (zN (Ca (AF (SA J) U (zB AW (zB (AF (Qr J) U (zB (pv 0) (zB (pv 1) zJ))) zJ))))
  (zX (zu GS)))))),?_}
 show{1,wa,_,5,AD.of kc,6,n,la,o,0,I.lb,(),G.n24,λes m8=>?_,λH1 s1=>{true,0,Ao ?_}}
 . let{j,hj,0}:=CP m8;show (I.lo.2 j _ (zC hj)).kind G () ()
 show{1,wa,la,n,ts,rk,o,0,I.same s1,λH2 s2=>{1,?_}};let lS:=s1.trans s2;show{4,wa,la,n,ts,rk,o,0,I.same lS,λH3 s3=>{1,?_}};let me:=lS.trans s3;show{4,wa,la,n,ts,rk,o,0,I.same me,λH4 s4=>{1,?_}};let nu:=me.trans s4;show{4,wa,la,n,ts,rk,o,0,I.same nu,λH5 s5=>{1,?_}};show k _ (nu.trans s5)
structure GN (n:Int)(ess:List (List En)):Prop where
 ln:ess.length=n.toNat
 kd:∀es∈ess,F6 n es
 lo:∀es∈ess,∀e∈es,e.l<=2376
open DG
meta abbrev sN (k:Int):Str:=Str.ofString (toString k)
def Dk (h0:0<=k)(h:k<1000000000000000):(sN k).length<=20:=by let{m,0}:=E5 h0;rw[VI];let:=Ze (show m<=999999999999999 by lia);show zn this (by decide)
def O4 (H:Hp)(o:Addr)(n:Int)(ts:List T3):Prop:=∃ta tys,H o=some (.tup [.int n,.ref ta])/\H ta=some (.tup tys)/\Ae H tys (ts.map tl)
meta abbrev Av:Str:=Str.ofString " "
meta def IK (n:Int):Str:=Str.join Av [Str.ofString "web",sN n]
meta def FN (t:T3):Str:=Str.join Av [Str.ofString "tie",sN t.1,sN t.2.1,sN t.2.2]
meta def DW (n:Int)(ts:List T3):List Str:=IK n::ts.map FN
def Ki (n):(Str.empty++Str.ofString "web ")++sN n=IK n:=by show Gg ?_;change _=(Str.ofString "web" ++ Av++sN n).cps.toList;simp only[Str.cps_append,Array.toList_append];congr 1
def Mj (t):(((((Str.empty++Str.ofString "tie ")++sN t.1)++Str.ofString " ")++sN t.2.1)++Str.ofString " ")++sN t.2.2=FN t:=by show Gg ?_;change _=(Str.ofString "tie" ++ Av++(sN t.1++Av++(sN t.2.1++Av++sN t.2.2))).cps.toList;simp only[Str.cps_append,Array.toList_append,List.append_assoc];rfl
def cz (n:Int)(ts:List T3):Prop:=0<=n/\n<1000000000/\ts.length<=1000/\∀t∈ts,0<=t.1/\t.1<1000000000/\0<=t.2.1/\t.2.1<1000000000/\0<=t.2.2/\t.2.2<1000000000
def Xd:Sp:=λI H Q _=>∃C n o,I=[.ref C]/\O4 H C n o/\cz n o/\∀l H',AE H H'->H' l=some (.lst ((DW n o).map V.str))->Q (.ref l) H'
def B0 (a b:Str):(a++b).length=a.length+b.length:=strLen_append a b
def Qd:zl ["web","n"] Sx.p (defScope Sx.s):=AK
def U6 (wz:Ws P w K mg base PT C D):Fz P w K mg base 1 Sx Xd:=by
 show wz.Wl.okZ Qd λ_ _ A _ _ H vs Q E hr h=>?_;let{wa,n,ts,0,W,S,k}:=h;let{ta,tys,kc,lE,T}:=id W;show{_,zN (AX (i:=1) Qd.nd (zm AM (pv 0) zb))
  (zX (zu (AQ JU (BA (zB (JE (IA AW (IA (SE (pv 1)) Z0))) zJ))
   (BB (own:=["a","b","long"]) (cn:=[]) (ci:=[]) rfl (Ai rfl rfl) trivial rfl (Bo (zm AM (pv 0) zb)) (λ_ _ _ _=>NJ (n:=3) rfl (Ag (Ah) (Ag (CY (i:=1) (DD rfl) rfl (Or.inl rfl)) (Ag (CY (i:=2) (DD rfl) rfl (Or.inl rfl)) CK)))) (λ_ _ _ _=>A8)
    (λ_ _ _ _=>JE (IA AW (IA (SE (pv 0)) (IA AW (IA (SE (pv 1)) (IA AW (IA (SE (pv 2)) Z0))))))))))),?_}
 let{h0,h1,kS,hts}:=S;let hb:∀k:Int,0<=k->k<1000000000->k.natAbs.log2<1920:=λk a b=>by
  let:k.natAbs<2 ^ 30:=()
  by_cases hk:k.natAbs=0
  . rw[hk];decide
  . show zv ((Nat.log2_lt hk).mpr this) (by decide)
 show{1,wa,_,5,AD.of kc,0,?_};let n20:(sN n).length<=20:=Dk h0 ();let hsl:10000<=sizeLine:=by decide
 let w4:(Str.empty++Str.ofString "web ").length=4:=by decide
 let t4:(Str.empty++Str.ofString "tie ").length=4:=by decide
 let b1:(Str.ofString " ").length=1:=by decide
 let l2:((Str.empty++Str.ofString "web ")++sN n).length<=sizeLine:=by rw[B0,w4];lia
 show{1,by rw[w4];lia,1,n,0,hb n h0 h1,1,l2,l2,?_};rw[Ki];show{by change 1<=sizeLine;lia,λl1 k8=>?_};let s1:=zG (o:=.lst [.str (IK n)]) k8;show{1,wa,_,5,AD.of (s1 _ _ kc),0,ta,0,{_,AD.of (s1 _ _ lE)},[],0,λD hD=>?_};let s2:∀o,AE (upd H l1 (.lst [.str (IK n)])) (upd (upd H l1 (.lst [.str (IK n)])) D o):=λo=>zG hD;let hlen:=T.length;rw[zA] at hlen;show CH (a:=ta) (xs:=tys) (λi I U=>I=((ts.take i).map FN).map V.str/\U=upd (upd H l1 (.lst [.str (IK n)])) D (.lst I)) {2} (λi I U y=>?_) (λi I U y=>?_) (λi x I U hx y=>?_) (λI U y=>?_)
 . let{1}:=y;show AD.of (s2 _ _ _ (s1 _ _ lE))
 . let{0,_}:=y;rw[zA,zA,zi]
   lia
 . let{2}:=y;let{p,c,0,J,hp,_}:=T.get hx;rw[zK] at J;cases ht:ts[i]? with
   | none=>rw[ht] at J;cases J
   | some t=>
   rw[ht] at J;cases J;let{a0,a1,a2,a3,a4,a5}:=hts t (zQ ht);let hp2:=s2 (.lst (((ts.take i).map FN).map V.str)) _ _ (s1 _ _ hp);show{p,1,AD.of hp2,0,7,7,5,{2},?_};show A7 ?_;let c1:(sN t.1).length<=20:=Dk a0 ();let c2:(sN t.2.1).length<=20:=Dk a2 ();let c3:(sN t.2.2).length<=20:=Dk a4 ();let m1:((Str.empty++Str.ofString "tie ")++sN t.1).length<=24:=by rw[B0,t4];lia
   let m2:(((Str.empty++Str.ofString "tie ")++sN t.1)++Str.ofString " ").length<=25:=by rw[B0,b1];lia
   let m3:((((Str.empty++Str.ofString "tie ")++sN t.1)++Str.ofString " ")++sN t.2.1).length<=45:=by rw[B0];lia
   let m4:(((((Str.empty++Str.ofString "tie ")++sN t.1)++Str.ofString " ")++sN t.2.1)++Str.ofString " ").length<=46:=by rw[B0,b1];lia
   let m5:((((((Str.empty++Str.ofString "tie ")++sN t.1)++Str.ofString " ")++sN t.2.1)++Str.ofString " ")++sN t.2.2).length<=66:=by rw[B0];lia
   show{1,by rw[t4];lia,1,t.1,0,hb _ a0 a1,1,zn m1 (),1,zn m2 (),1,t.2.1,0,hb _ a2 a3,1,zn m3 (),1,zn m4 (),1,t.2.2,0,hb _ a4 a5,1,zn m5 (),zn m5 (),zF,?_,Bp};rw[Mj,ze,ht,zO,zO];rfl
 . let{2}:=y;rw[hlen,zR (zL _)];show{l1,D,5,s2 _ _ _ zF,zF,by rw[zA,zA];change 1+_<=_;lia,λl hl=>?_};show k l _ (s1.trans ((s2 _).trans (zG hl))) zF
def V1:Sp:=λo H Q _=>∃k:Int,o=[.str (sN k)]/\0<=k/\k<1000000000000000/\∀H',AE H H'->Q (.bl true) H'
inductive Ys (vs:List V)(H:Hp)(Q:VK):Prop
 | mk:∀k lo hi:Int,(vs=[.str (sN k),.int lo,.int hi])->(0<=lo)->(lo<=k)->(k<=hi)->(hi<1000000000000000)->(∀H',AE H H'->Q (.int k) H')->Ys vs H Q
def WA:Sp:=λo H Q _=>Ys o H Q
def i3 {l:List Nat}(h:l≠[]):∃c,l.head?=some c/\Bl l 0=some c:=by
 cases l with
 | nil=>show absurd rfl h
 | cons a as=>show{a,0,Bb (j:=0) rfl}
def J1 (h:48<=c/\c<=57):(!(Builtin.Str.occurrences (Str.ofString "0123456789") {#[c]} 0 (Str.ofString "0123456789").length 1).isEmpty)=true:=by
 rw[StrLaws.found_one];let e:(Str.ofString "0123456789").cps.toList=[48,49,50,51,52,53,54,55,56,57]:=by decide
 rw[e,decide_eq_true_eq];let:c=48\/c=49\/c=50\/c=51\/c=52\/c=53\/c=54\/c=55\/c=56\/c=57:=()
 simpa using this
def aU (m):(List.replicate m true).all id=true:=by induction m <;> simp_all [Hs]
def IQ :PE X e (λ_ _ _=>False):=λ_ _ _ _ _ _ h=>h.elim
def XD:zl ["word"] UI.p (defScope UI.s):=AK
def P8 (wz:Ws P w K mg base PT C D):Fz P w K mg base 1 UI V1:=by
 let{tk,I}:=wz.mFig;show wz.Iw.okZ XD λ_ _ A _ _ H vs Q E hr h=>?_;let{n,0,h0,h1,k}:=h;let hz:=Dk h0 h1;let{m,0}:=E5 h0;let d:Dg (sN m):=NF m;generalize sN m=z at d hz ⊢;let hl:100001<=sizeLine:=by decide
 show{_,zN (NP (u':=λD σ H1=>σ=[some (.str z)]/\D.nx σ H1) (AU (PW.pt (Cs (zt Am (pv 0) AW (zw _)) (DO (PW.pt (Ja (zt Am (zm ZU (pv 0) zb) AW (zw _)) (Jg (zt Cb (pv 0) AW (zw _)))))))) BH AV) ?ld)
  (zX (zu (AZ (JX rfl) wz.mAll (zB (BB (own:=["sign"]) (cn:=[]) (ci:=[]) rfl (Ai rfl rfl) trivial rfl (Mq (pv 0)) (λ_ _ _ _=>Ah) (λ_ _ _ _=>A8)
   (λ_ _ _ _=>BS dY (pv 0) (EV (v:=.str (Str.ofString "0123456789")) rfl I {1}) (by with_unfolding_all rfl))) zJ)))),?_}
 case ld=>
  rintro D σ H ⟨rfl,q⟩;let{c,J,hat}:=i3 d.ne;show{8,AL (za λx=>d.ne (by injection x with x;rw[x];rfl)) ⟨_,rfl,z,0,c,rfl,rfl,(),hat,rfl,_,rfl,?_⟩};by_cases h0:c=48
  . subst h0;let ez:z=Str.ofString "0" := Gg ((d.lead J).trans rfl);show BG (zY rfl) {8,AL (by rw[zY (show V.str z=V.str (Str.ofString "0") by rw[ez])];rfl) q}
  . show AL (za (λx=>h0 (by injection x with x;let y:=congrArg (λz:Str=>z.cps.toList) x;show (GP (show [c]=[48] from y)).1))) (AL rfl q)
 show{6,z,0,[],0,λD hD=>?_};let hsz:z.cps.size=z.cps.toList.length:=Array.length_toList.symm;let hzl:z.length=z.cps.size:=rfl;show iM (λi o U=>i<=z.length/\o=(List.replicate i true).map V.bl/\U=upd H D (.lst o)) {zd _,2} (λi o U y=>?_) (λi c o U J y=>?_) (λo U y=>?_)
 . rw[y.2.1,zA,Cq]
   lia
 . let{_,2}:=y;show{{2},A7 {1,5,zF,?_,?_,Bp}}
   . let:=(Array.getElem?_eq_some_iff.mp J).1
     lia
   . rw[J1 (d.all c (by rw[<-Array.getElem?_toList] at J;show zQ J)),JY,zO];rfl
 . let{_,2}:=y;show{D,1,AA.of zF,?_};rw[aU];show k _ (zG hD)
def QS:zl ["word","least","most","number"] Sz.p (defScope Sz.s):=AK
def Mt (o:Ws P w K mg base PT C D):Fz P w K mg base 3 Sz WA:=by
 show o.Ni.okZ QS λ_ _ A _ _ H vs Q E I h=>?_;let{n,lo,hi,0,l0,l1,l2,U,k}:=h;let hl:100001<=sizeLine:=by decide
 let hz:=Dk (k:=n) () ();let hh:(Str.ofString (toString hi)).length<=20:=Dk (k:=hi) () U;let le:(sN n).length<=(Str.ofString (toString hi)).length:=by let{m,0}:=E5 (show 0<=n by lia);let{M,0}:=E5 (show 0<=hi by lia);rw[VI,VI];show Ze ()
 let J:PySem.intText? (sN n)=some n:=by let{m,0}:=E5 (show 0<=n by lia);let:=(NF m).reads (zn hz (by decide));rwa [bD] at this
 show{_,zN (AU (PW.pt (Cs (zt Jl (AZ VY o.mLen (zB (pv 0) zJ)) (AZ VY o.mLen (zB (Aq bF o.mStr (zB (pv 2) zJ)) zJ)) (zw _)) (DO (CM (BR (AF (P8 o) I (zB (pv 0) zJ))))))) BH AV)
  (zN (AX (i:=3) QS.nd (Aq Uh o.mInt (zB (pv 0) zJ)))
  (zX (zu (GV (BR (AF (Vd o) I (zB (pv 3) (zB (pv 1) (zB (pv 2) zJ))))) (pv 3) IQ)))),?_}
 show{4,(),1,hi,0,(),1,(),_,8,AL (za ()) ?_};show{1,n,0,(),(),λH1 s1=>{1,AL rfl ?_}};show{1,7,J,(),?_};show{1,4,n,lo,hi,0,l1,l2,1,BG rfl {1,k H1 s1}}
end K73
namespace K73
open PySem L2 WM
open DG
variable {P:Program}{w:World}{K:AG}{mg:Aj}{base:Heap}{PT:Addr}{X:Cx}
meta def EF (ws:List Str):Nat:=(ws.map λw=>w.length+1).sum
def JR (w)(ws):EF (w::ws)=w.length+1+EF ws:=by unfold EF;rw[Bg,List.sum_cons]
def GO (ws):(ws.map λy=>y.length).sum+ws.length=EF ws:=by
 induction ws with
 | nil=>rfl
 | cons w ws o=>rw[JR,Bg,List.sum_cons,zj];lia
def D8 :∀{ws:List Str},(∀z∈ws,z.length<=b)->EF ws<=(b+1)*ws.length
 | [],_=>zd _
 | w::ws,h=>by
  let I:=h w (by simp);let C:=D8 (b:=b) (ws:=ws) λz o=>h z (by simp[o]);rw[JR,zj,Nat.mul_add,Nat.mul_one]
  lia
def NA (o:c.length=1):∀ws:List Str,(Str.join c ws).length<=EF ws
 | []=>zd _
 | [w]=>by rw[JR];change w.length<=w.length+1+_;lia
 | w::x::ws=>by
  let C:=NA o (x::ws);let e:Str.join c (w::x::ws)=w++c++Str.join c (x::ws):=rfl;rw[e,JR,B0,B0,o]
  lia
def HF (H:Hp)(l:Addr)(ts:List T3):Prop:=∃tys,H l=some (.lst tys)/\Ae H tys (ts.map tl)
def HF.keep (h:HF H l ts)(k:AE H H'):HF H' l ts:=by let{tys,a,b}:=h;show{tys,k _ _ a,b.keep λb _ e=>k b _ e}
meta def lowA (ts:List T3):Int:=match ts.getLast? with
 | none=>0
 | some t=>t.1
meta def lowB (ts:List T3)(a:Int):Int:=match ts.getLast? with
 | none=>a+1
 | some t=>if t.1=a then t.2.1+1 else a+1
def HF.last (h:HF H l ts):∃tys,H l=some (.lst tys)/\((tys=[]/\ts.getLast?=none)\/∃t p,tys≠[]/\ts.getLast?=some t/\Bl tys (-1)=some (.ref p)/\H p=some (.tup [.int t.1,.int t.2.1,.int t.2.2])):=by
 let{tys,a,b}:=h;show{tys,a,?_};let C:=b.length;rw[zA] at C;by_cases he:tys=[]
 . subst he;show .inl {0,?_};rw[List.length_eq_zero_iff.mp (show ts.length=0 by simpa using C.symm)];rfl
 . obtain⟨as,x,rfl⟩:∃as x,tys=as++[x]:={tys.dropLast,tys.getLast he,(List.dropLast_concat_getLast he).symm};let{p,c,ex,o,I,_}:=b.get (i:=as.length) (x:=x) (by simp);rw[zK] at o;rw[zS,List.length_singleton] at C;let hi:as.length<ts.length:=()
   rw[zC hi] at o;show .inr {ts[as.length],p,he,?_,?_,?_}
   . rw[List.getLast?_eq_getElem?,<-C];rw[show as.length+1-1=as.length by lia,zC hi]
   . rw[ex];show ON as _
   . injection o with o;rwa[<-o] at I
def WQ:Sp:=λC H Q _=>∃l o,C=[.ref l]/\HF H l o/\Q (.int (lowA o)) H
def WC:Sp:=λC H Q _=>∃l o a,C=[.ref l,.int a]/\HF H l o/\Q (.int (lowB o a)) H
def Wj:zl ["ahead"] TF.p (defScope TF.s):=AK
def Qm (J:Ws P w K mg base PT C D):Fz P w K mg base 1 TF WQ:=by
 show J.Aa.okZ Wj λ_ _ A _ _ H vs Q E hr h=>?_;let{l,ts,0,L,k}:=h;let{tys,I,c}:=L.last;show{_,zX (zu (GV (My (pv 0) (λ_=>rfl)) (zm AM (zm zx (pv 0) (Hx Hl zb)) zb) zb)),?_};unfold lowA at k;rcases c with ⟨e,o⟩ | ⟨t,p,e,o,ha,U⟩
 . rw[o] at k;show{1,false,.inl {tys,AA.of I,by rw[e];rfl},AL rfl k}
 . rw[o] at k;show{1,true,.inl {tys,AA.of I,by cases tys with | nil=>show absurd rfl e | cons a as=>rfl},BG rfl ?_};show⟨_,rfl,1,rfl,l,_,_,_,rfl,rfl,AA.of I,ha,p,_,_,_,rfl,rfl,AD.of U,rfl,k⟩
def XU:zl ["ahead","a"] TU.p (defScope TU.s):=AK
def O1 (wz:Ws P w K mg base PT C D):Fz P w K mg base 1 TU WC:=by
 show wz.Ab.okZ XU λ_ _ A _ _ H vs Q E hr h=>?_;let{l,ts,a,0,L,k}:=h;let{tys,o,c}:=L.last;show{_,zN (AU (PW.pt (Ja (My (pv 0) (λ_=>rfl)) (Jg (zt Am (zm AM (zm zx (pv 0) (Hx Hl zb)) zb) (pv 1) (zw _)))))
  (zX (zu (AQ Bs (zm AM (zm zx (pv 0) (Hx Hl zb)) zb) zb))) AV)
  (zX (zu (AQ Bs (pv 1) zb))),?_}
 unfold lowB at k;rcases c with ⟨e,I⟩ | ⟨t,p,e,I,U,J⟩
 . rw[I] at k;show{1,false,.inl {tys,AA.of o,by rw[e];rfl},AL rfl ?_};show AL rfl ?_;show{1,5,k}
 . rw[I] at k;show{1,true,.inl {tys,AA.of o,by cases tys with | nil=>show absurd rfl e | cons a as=>rfl},BG rfl ?_};show⟨_,rfl,1,rfl,l,_,_,_,rfl,rfl,AA.of o,U,p,_,_,_,rfl,rfl,AD.of J,rfl,_,rfl,rfl,_,rfl,?_⟩;by_cases c:t.1=a
   . let k:Q (.int (t.2.1+1)) H:=by simpa [c] using k
     show BG (zY (by rw[c])) ?_;show⟨_,rfl,1,rfl,l,_,_,_,rfl,rfl,AA.of o,U,p,_,_,_,rfl,rfl,AD.of J,rfl,_,_,rfl,rfl,k⟩
   . let k:Q (.int (a+1)) H:=by simpa [c] using k
     show AL (za (λx=>c (by injection x))) ?_;show{1,5,k}
def Nn (ts:List T3):Prop:=∀t∈ts,0<=t.1/\0<=t.2.1
def Nn.lowA {ts:List T3}(h:Nn ts):0<=lowA ts:=by
 unfold K73.lowA;cases e:ts.getLast? with
 | none=>show C1 _
 | some t=>show (h t (List.mem_of_getLast? e)).1
def Nn.lowB {ts:List T3}(h:Nn ts){a:Int}(o:0<=a):0<=lowB ts a:=by
 unfold K73.lowB;cases e:ts.getLast? with
 | none=>change 0<=a+1;lia
 | some t=>
  let:=(h t (List.mem_of_getLast? e)).2;change 0<=if t.1=a then t.2.1+1 else a+1
  split <;> lia
def kJ (n:Int)(ts:List T3):Prop:=∀i t,ts[i]?=some t->lowA (ts.take i)<=t.1/\t.1<=n-1/\lowB (ts.take i) t.1<=t.2.1/\t.2.1<=n-1/\1<=t.2.2/\t.2.2<=99
def cw (s t:T3):Prop:=s.1<t.1\/(s.1=t.1/\s.2.1<t.2.1)
structure DB (n:Int)(ts:List T3):Prop where
 gw:GW n ts
 up:ts.Pairwise cw
 le:ts.length<=60
def DB.upT (h:DB n ts):kJ n ts:=by
 intro i t o;let{a,b,c,d,e}:=h.gw.rng t (zQ o);cases i with
 | zero=>show{a,(),(by change t.1+1<=t.2.1;lia),(),d,e}
 | succ j=>
  let hi:=(zH.mp o).1;let C:j<ts.length:=()
  let J:(ts.take (j+1)).getLast?=some ts[j]:=by rw[ze,zC C];show List.getLast?_concat
  let lt:cw ts[j] t:=by let:=EZ.mp h.up j (j+1) C hi ();rw[zC hi] at o;rwa[<-zT o]
  unfold lowA lowB;rw[J];dsimp only;generalize ts[j]=s at lt;rcases lt with l | ⟨I,U⟩
  . rw[if_neg ()];show{(),(),(),(),d,e}
  . rw[if_pos I];show{(),(),(),(),d,e}
def DB.nn (h:DB n ts):Nn ts:=λt o=>by let{a,b,_}:=h.gw.rng t o;show{a,()}
def DB.smW (h:DB n ts):cz n ts:=by let a1:=h.gw.n1;let a2:=h.gw.n24;let C:=h.gw.len;show{(),(),(),λt o=>?_};let{a,b,c,d,e}:=h.gw.rng t o;show{(),(),(),(),(),()}
def DB.of (g:GW n ts)(r:DF (ts.map tl))(I:ts.length<=60):DB n ts:=by
 show{g,?_,I};unfold DF at r;rw[DK] at r;show (r.and g.dis).imp λ{s t} h=>?_;let{o,J}:=h;unfold tl at o;rw[HT.lexLt_cons] at o;by_cases c:t.1=s.1
 . rw[if_pos c,HT.lexLt_cons] at o;by_cases C:t.2.1=s.2.1
   . show absurd ⟨c.symm,C.symm⟩ J
   . rw[if_neg C] at o;let:=of_decide_eq_false o;show .inr {c.symm,()}
 . rw[if_neg c] at o;let:=of_decide_eq_false o;show .inl ()
def Ry (xs)(m:Nat):BV xs (some (m:Int)) none=xs.drop m:=by
 unfold BV;rw[HT.sIx_none,HT.sIx_nat];by_cases h:m<=xs.length
 . rw[Nat.min_eq_left h,zR (by rw[List.length_drop];show zL _)]
 . rw[Nat.min_eq_right (),E4,List.take_zero,List.drop_of_length_le ()]
open DG
meta abbrev c8 (z:Str):List Str:=Txt.split z (Str.ofString " ")
def XT:Str.ofString " "={#[32]}:=by decide
def SW (o:ws≠[])(hf:∀w∈ws,32∉w.cps.toList):c8 (Str.join Av ws)=ws:=by change Txt.split (Str.join (Str.ofString " ") ws) (Str.ofString " ")=ws;rw[XT];show cS o hf
def RQ (h:∀z∈ws,z.length<=20)(o:ws.length<=4):(Str.join Av ws).length<=84:=zn (NA (by decide) _) (zn (D8 h) ())
def Rg (h0:0<=k)(o:k<=99):(sN k).length<=20:=Dk h0 ()
def JD (h0:1<=n)(o:n<=24):(∀z∈[Str.ofString "web",sN n],z.length<=20)/\∀z∈[Str.ofString "web",sN n],32∉z.cps.toList:=by simp only[List.forall_mem_cons,List.not_mem_nil];show{{by decide,Rg () (),nofun},by decide,Nv (),nofun}
def Ie {t:T3}(I:0<=t.1)(a1:t.1<=99)(C:0<=t.2.1)(U:t.2.1<=99)(o:0<=t.2.2)(J:t.2.2<=99):(∀z∈[Str.ofString "tie",sN t.1,sN t.2.1,sN t.2.2],z.length<=20)/\∀z∈[Str.ofString "tie",sN t.1,sN t.2.1,sN t.2.2],32∉z.cps.toList:=by simp only[List.forall_mem_cons,List.not_mem_nil];show{{by decide,Rg I a1,Rg C U,Rg o J,nofun},by decide,Nv I,Nv C,Nv o,nofun}
def Kb (U:DB n ts):∀y∈DW n ts,y.length<=84:=λy hy=>by
 let C:=U.gw.n1;let o:=U.gw.n24;rcases zZ.mp hy with rfl | hy
 . show RQ (JD C o).1 (by simp)
 . let{t,I,0}:=zy.mp hy;let a:=U.gw.rng t I;show RQ (Ie () () () () () ()).1 (by simp)
def XQ:Sp:=λo H Q _=>∃i ws y,o=[.int i,.str (Str.join Av (y::ws)),.str y]/\(∀w∈y::ws,32∉w.cps.toList)/\(Str.join Av (y::ws)).length<=84/\∀l H',AE H H'->H' l=some (.lst ((y::ws).map V.str))->Q (.ref l) H'
inductive aZ (vs:List V)(H:Hp)(Q:VK):Prop
 | mk:∀(i:Int)(l:Addr)(k:Nat)(ws:List Str)(j lo hi:Int),(vs=[.int i,.ref l,.int k,.int lo,.int hi])->(H l=some (.lst (ws.map V.str)))->(ws[k]?=some (sN j))->(0<=lo)->(lo<=j)->(j<=hi)->(hi<=99)->(∀H',AE H H'->Q (.int j) H')->aZ vs H Q
def XB:Sp:=λo H Q _=>aZ o H Q
def WU:Sp:=λo H Q _=>∃(i:Int)(l:Addr)(ws:List Str)(c:Nat),o=[.int i,.ref l,.int c]/\H l=some (.lst (ws.map V.str))/\ws.length<=c/\Q .non H
def WX:Sp:=λo H Q _=>∃n:Int,o=[.str (IK n)]/\1<=n/\n<=24/\∀H',AE H H'->Q (.int n) H'
inductive bc (vs:List V)(H:Hp)(Q:VK):Prop
 | mk:∀(n i:Int)(l:Addr)(ts:List T3)(t:T3),(vs=[.int n,.ref l,.int i,.str (FN t)])->(HF H l ts)->(Nn ts)->(n<=24)->(lowA ts<=t.1)->(t.1<=n-1)->(lowB ts t.1<=t.2.1)->(t.2.1<=n-1)->(1<=t.2.2)->(t.2.2<=99)->(∀p H',AE H H'->H' p=some (.tup [.int t.1,.int t.2.1,.int t.2.2])->Q (.ref p) H')->bc vs H Q
def Wu:Sp:=λo H Q _=>bc o H Q
def Xj:Sp:=λI H Q _=>∃l n o,I=[.ref l]/\H l=some (.lst ((DW n o).map V.str))/\DB n o/\∀C H',AE H H'->Af H' C n o->Q (.ref C) H'
def P6:zl ["at","line","first","words"] TB.p (defScope TB.s):=AK
def JM (o:Ws P w K mg base PT C D):Fz P w K mg base 1 TB XQ:=by
 show o.Wox.okZ P6 λ_ _ A _ _ H J Q E hr h=>?_;let{i,ws,y,0,fr,U,k}:=h;show{_,zN (AX (i:=3) P6.nd (BE PySem.F.plainAttrs_str PySem.F.slot_str_split PySem.F.type_str_split Gi (pv 1) (zB AW zJ)))
  (zN (AU (zt Cb (zm zx (pv 3) zb) (pv 2) (zw _)) BH AV)
  (zX (zu (pv 3)))),?_}
 show{_,2,3,9,(),λl I=>?_};rw[show Txt.split (Str.join Av (y::ws)) (Str.ofString " ")=y::ws from SW (by simp) fr];show{1,l,3,.str y,2,AA.of zF,Ac (by decide) rfl,8,AL (by simp) {1,k l _ (zG I) zF}}
def Pe:zl ["at","words","k","least","most","number"] TH.p (defScope TH.s):=AK
def SK (o:Ws P w K mg base PT C D):Fz P w K mg base 4 TH XB:=by
 show o.Na.okZ Pe λ_ _ A _ _ H vs Q E hr h=>?_;let{i,l,n,ws,j,lo,hi,0,I,J,l0,l1,U,l3,k}:=h;show{_,zN (AX (i:=5) Pe.nd (GV (zt N8 (pv 2) (AZ CD o.mLen (zB (pv 1) zJ)) (zw _)) (AF (Mt o) hr (zB (zm zx (pv 1) (pv 2)) (zB (pv 3) (zB (pv 4) zJ)))) IQ))
  (zN (AU (zt CS (pv 5) Ax (zw _)) BH AV) (zX (zu (pv 5)))),?_}
 let hn:=(zH.mp J).1;show{4,l,1,.inl (AA.of I),_,8,BG (zY (by rw[zA];lia)) ?_};show{4,l,_,n,.str (sN j),2,AA.of I,Bb (by rw[zK,J];rfl),4,j,lo,hi,0,l0,l1,U,(),λH1 s1=>{8,AL rfl {1,k H1 s1}}}
def XN:zl ["at","words","count"] Sy.p (defScope Sy.s):=AK
def JK (o:Ws P w K mg base PT C D):Fz P w K mg base 1 Sy WU:=by show o.Rm.okZ XN λ_ _ A _ _ H J Q E U h=>?_;let{i,l,ws,c,0,I,hc,k}:=h;show{_,zX (AU (zt Jl (AZ CD o.mLen (zB (pv 1) zJ)) (pv 2) (zw _)) BH AV),?_};show{1,l,1,.inl (AA.of I),1,_,8,AL (za (by rw[zA];lia)) k}
def MN:zl ["line","words","n"] Te.p (defScope Te.s):=AK
def OS (o:Ws P w K mg base PT C D):Fz P w K mg base 5 Te WX:=by
 let{tk,J}:=o.mMP;show o.Rc.okZ MN λ_ _ A _ _ H vs Q E U h=>?_;let{n,0,n1,I,k}:=h;show{_,zN (AX (i:=1) MN.nd (AF (JM o) U (As (zB (pv 0) (zB AW zJ)))))
  (zN (AX (i:=2) MN.nd (AF (SK o) U (As (zB (pv 1) (As (As (zB (EV (v:=.int 24) rfl J {1}) zJ)))))))
  (zN (Ca (AF (JK o) U (As (zB (pv 1) (As zJ)))))
  (zX (zu (pv 2))))),?_}
 let{w1,w2}:=JD n1 I;show⟨_,rfl,0,[sN n],Str.ofString "web",rfl,w2,RQ w1 (by simp),λl H1 s1 hl=>?_⟩;show⟨_,rfl,0,l,1,_,n,1,24,rfl,hl,rfl,by decide,n1,I,by decide,λH2 s2=>?_⟩;show⟨_,rfl,0,l,_,2,rfl,s2 _ _ hl,by simp,_,rfl,k H2 (s1.trans s2)⟩
def FW:zl ["n","ahead","at","line","words","a","b","long"] S7.p (defScope S7.s):=AK
def Oc (o:Ws P w K mg base PT C D):Fz P w K mg base 5 S7 Wu:=by
 let{tk,mML}:=o.mML;show o.Rt.okZ FW λ_ _ A _ _ H vs Q E J h=>?_;let{n,i,l,U,t,0,L,nn,n24,a1,a2,b1,b2,c1,c2,k}:=h;show{_,zN (AX (i:=4) FW.nd (AF (JM o) J (zB (pv 2) (zB (pv 3) (zB AW zJ)))))
  (zN (AX (i:=5) FW.nd (AF (SK o) J (zB (pv 2) (zB (pv 4) (As (zB (AF (Qm o) J (zB (pv 1) zJ)) (zB (AQ ED (pv 0) zb) zJ)))))))
  (zN (AX (i:=6) FW.nd (AF (SK o) J (zB (pv 2) (zB (pv 4) (As (zB (AF (O1 o) J (zB (pv 1) (zB (pv 5) zJ))) (zB (AQ ED (pv 0) zb) zJ)))))))
  (zN (AX (i:=7) FW.nd (AF (SK o) J (zB (pv 2) (zB (pv 4) (As (As (zB (EV (v:=.int 99) rfl mML {1}) zJ)))))))
  (zN (Ca (AF (JK o) J (zB (pv 2) (zB (pv 4) (As zJ)))))
  (zX (zu (BY (zB (pv 5) (zB (pv 6) (zB (pv 7) zJ)))))))))),?_}
 let nA:=nn.lowA;let nB:=nn.lowB (a:=t.1) ();let{w1,w2}:=Ie (t:=t) () () () () () ();show{4,i,_,Str.ofString "tie",0,w2,RQ w1 (by simp),λla H1 s1 hl=>?_};show⟨_,rfl,_,rfl,_,rfl,l,U,rfl,L.keep s1,_,rfl,_,_,rfl,rfl,i,la,1,_,t.1,lowA U,n-1,rfl,hl,rfl,nA,a1,a2,(),λH2 s2=>?_⟩;show⟨_,rfl,_,rfl,_,rfl,_,rfl,l,U,t.1,rfl,L.keep (s1.trans s2),_,rfl,_,_,rfl,rfl,i,la,2,_,t.2.1,lowB U t.1,n-1,rfl,s2 _ _ hl,rfl,nB,b1,b2,(),λH3 s3=>?_⟩;let I:=s2.trans s3;show⟨_,rfl,_,rfl,i,la,3,_,t.2.2,1,99,rfl,I _ _ hl,rfl,by decide,c1,c2,by decide,λH4 s4=>?_⟩;show⟨_,rfl,_,rfl,i,la,_,4,rfl,s4 _ _ (I _ _ hl),by simp,?_⟩;show{1,4,GH,λp hp=>k p _ (s1.trans ((I.trans s4).trans (zG hp))) zF}
def FY:zl ["lines","n","ties","at","line"] Th.p (defScope Th.s):=AK
def RC (wz:Ws P w K mg base PT C D):Fz P w K mg base 6 Th Xj:=by
 let{tk,mMT}:=wz.mMT;show wz.Rw.okZ FY λ_ _ A _ _ H vs Q E hr h=>?_;let{l,n,J,0,hl,U,k}:=h;let n1:=U.gw.n1;let n24:=U.gw.n24;let nS:=U.le;show{_,zN (AU (zt Am (AZ CD wz.mLen (zB (pv 0) zJ)) zb (zw _)) BH AV)
  (zN (AX (i:=1) FY.nd (AF (OS wz) hr (zB (zm zx (pv 0) zb) zJ)))
  (zN (AX (i:=2) FY.nd (BA zJ))
  (zN (Bn (Yn (by rfl) wz.mEnum (zB (Dz Jo (pv 0) (Di zb) Ek) zJ)) (DN rfl (Ag (Ay (i:=3) FY.nd) (Ag (Ay (i:=4) FY.nd) CK)))
   (zN (AU (zt Am (AZ CD wz.mLen (zB (pv 2) zJ)) (EV (v:=.int 60) rfl mMT {1}) (zw _)) BH AV)
   (zX (Ca (BE PySem.F.plainAttrs_list PySem.F.slot_list_append PySem.F.type_list_append Ej (pv 2) (zB (AF (Oc wz) hr (zB (pv 1) (zB (pv 2) (zB (pv 3) (zB (pv 4) zJ))))) zJ))))))
  (zX (zu (BY (zB (pv 1) (zB (Aq Ct wz.mTuple (zB (pv 2) zJ)) zJ)))))))),?_}
 show{1,l,1,.inl (AA.of hl),6,AL (za (λx=>by injection x with x;simp[DW] at x;lia)) ?_};show{1,l,3,.str (IK n),2,AA.of hl,Ac (by decide) rfl,n,0,n1,n24,λH1 s1=>?_};show{zd _,λI oN=>?_};let nla:H I=none:=CI s1 oN;let s2:AE H (upd H1 I (.lst [])):=s1.trans (zG oN);show⟨_,rfl,1,rfl,l,_,rfl,AA.of (s2 _ _ hl),λl2 kY=>?_⟩;rw[show (some 1:Option Int)=some ((1:Nat):Int) from rfl,Ry,show List.drop 1 ((DW n J).map V.str)=(J.map FN).map V.str from rfl];let hl2a:l2≠I:=λx=>by rw[x,zF] at kY;cases kY
 show{l2,0,{_,AA.of zF},?_};show cI (K:=K) (c:=1) (a:=l2) (xs:=(J.map FN).map V.str) (λi σ H4=>El λ(v3 v4:Option V)=>σ=[some (.ref l),some (.int n),some (.ref I),v3,v4]/\AE H H4/\H4 l2=some (.lst ((J.map FN).map V.str))/\HF H4 I (J.take i))
  {7,s2.trans (zG kY),zF,{[],by rw[zg (Ne.symm hl2a),zF],trivial}}
  (λi σ H4 _ ⟨_,_,_,_,h2,_⟩=>AA.of h2) (λi x σ H4 T hx y hT=>?_) (λσ H4 y=>?_)
 . let{v3,v4,0,s4,h2,Lt}:=y;obtain⟨t,ht,rfl⟩:∃t,J[i]?=some t/\V.str (FN t)=x:=by
    rw[zK,zK] at hx;cases e:J[i]? with
    | none=>rw[e] at hx;cases hx
    | some t=>rw[e] at hx;show{t,0,zT hx}
   let hi:i<J.length:=(zH.mp ht).1;let s5:=zG (o:=.tup [.int ((i+1:Nat):Int),.str (FN t)]) hT;show{T,1,AD.of zF,0,7,5,?_};generalize upd H4 T (.tup [.int ((i+1:Nat):Int),.str (FN t)])=H5 at s5 ⊢;let L5:=Lt.keep s5;let{tys,ha,hb}:=id L5;let hlen:=hb.length;rw[zA,zi] at hlen;show{1,I,1,.inl (AA.of ha),6,AL (za (λx=>by injection x with x;lia)) ?_};let{u1,u2,u3,u4,u5,u6}:=U.upT i t ht;show{1,.inl {0,_,AA.of ha},4,4,n,((i+1:Nat):Int),I,J.take i,t,0,L5,(λt' h'=>U.nn t' (List.mem_of_mem_take h')),n24,u1,u2,u3,u4,u5,u6,λp H6 s6 hp=>?_};let s06:=(s4.trans s5).trans s6;let ha6:=s6 _ _ ha;let nH:p≠I:=AJ hp ha6 (by intro z;cases z);let hsl:100<=sizeLine:=by decide
   show{I,tys,.ref p,2,ha6,(),?_};show{7,λb o e=>?_,?_,{tys++[.ref p],zF,?_}}
   . rw[zg (λx=>by rw[x,nla] at e;cases e)];show s06 b o e
   . rw[zg hl2a];show s6 _ _ (s5 _ _ h2)
   . rw[ze,ht,zO];show (hb.keep λb ys e=>?_).snoc {p,0,?_,by intro z;cases z}
     . rw[zg (AJ e ha (by intro z;cases z))];show s6 _ _ e
     . rwa[zg nH]
 . let{v3,v4,0,s4,h2,Lt}:=y;rw[zA,zA,zR (zL _)] at Lt;let{tys,ha,hb}:=Lt;show{4,I,tys,0,.inl {AA.of ha,λta lE=>{B7,λwa kc=>?_}}};let s5:=zG (o:=.tup tys) lE;let s6:=zG (o:=.tup [.int n,.ref ta]) kc;show k wa _ (s4.trans (s5.trans s6)) {ta,tys,zF,s6 _ _ zF,hb.keep λb ys e=>s6 _ _ (s5 _ _ e),U.gw}
end K73
namespace K73
open PySem L2 WM
open DG
variable {P:Program}{w:World}{K:AG}{mg:Aj}{base:Heap}{PT:Addr}{X:Cx}
meta abbrev lab:Str:=Str.ofString "label"
meta abbrev dash:Str:=Str.ofString "-"
meta abbrev col:Str:=Str.ofString ":"
meta def oT:Option Int->Str
 | none=>dash
 | some k=>sN k
meta def eW (e:En):Str:=Txt.join col ((Cn e).map oT)
meta def lW (es:List En):Str:=Txt.join Av (lab::es.map eW)
meta def A6 (ess:List (List En)):List Str:=ess.map lW
def GG (o:Option Int):Prop:=∀k,o=some k->0<=k/\k<=2376
structure EB (n:Int)(e:En):Prop where
 ok:WV n e
 lo:e.l<=2376
 n24:n<=24
structure NT (n:Int)(es:List En):Prop where
 e:∀e∈es,EB n e
 l:es.length<=24
def EB.sm (h:EB n e):∀o∈Cn e,GG o:=by
 let a:=h.ok.rng;let b:=h.ok.nn;let c:=h.lo;let d:=h.n24;let C:GG e.u/\GG e.d:=by
  by_cases z:e.l=0
  . let{x,y}:=h.ok.own z;rw[x,y];show⟨nofun,nofun⟩
  . let{u,v,x,y,_}:=h.ok.far z;rw[x,y];show{λk e=>by cases e;lia,λk e=>by cases e;lia}
 simp only[Cn,List.forall_mem_cons,List.not_mem_nil];show{λk e=>by cases e;lia,λk e=>by cases e;lia,C.1,C.2,nofun}
def Up (h:GG o):(oT o).length<=20/\∀c,c=32\/c=58\/c=59->c∉(oT o).cps.toList:=by
 cases o with
 | none=>show{by decide,by rintro c (rfl | rfl | rfl) <;> decide}
 | some k=>
  let{h0,I}:=h k rfl;show{Dk h0 (),λc C hm=>?_};let{m,0}:=E5 h0;let:=(NF m).all c hm
  lia
def U1 (o:c∉sep.cps.toList):∀{ws:List Str},(∀w∈ws,c∉w.cps.toList)->c∉(Str.join sep ws).cps.toList
 | [],_=>by intro h;cases h
 | [p],f=>f p (by simp)
 | p::q::r,f=>by
  change c∉(p++sep++Str.join sep (q::r)).cps.toList;simp only[Str.cps_append,Array.toList_append,Bu];rintro ((z | z) | z)
  . show f p (by simp) z
  . show o z
  . show U1 o (λw hw=>f w (by simp[zZ.mp hw])) z
def NN (h:EB n e):(eW e).length<=84/\Txt.split (eW e) col=(Cn e).map oT/\∀c,c=32\/c=59->c∉(eW e).cps.toList:=by
 let w:∀z∈(Cn e).map oT,z.length<=20/\∀c,c=32\/c=58\/c=59->c∉z.cps.toList:=λz C=>by let{o,I,0}:=zy.mp C;show Up (h.sm o I)
 rw[show eW e=Str.join col ((Cn e).map oT) from StrLaws.glued_eq_join _ _];show{zn (NA (by decide) _) (zn (D8 λz C=>(w z C).1) (show 21*4<=84 by decide)),?_,λc J=>U1 ?_ λz C=>(w z C).2 c ()}
 . rw[show col={#[58]} from by decide];show cS (by simp[Cn]) λz C=>(w z C).2 58 (by simp)
 . rw[show col.cps.toList=[58] from by decide];intro hm;let:=zf.mp hm
   lia
def IF (h:NT n es):(lW es).length<=2060/\EF (lab::es.map eW)<=2060/\c8 (lW es)=lab::es.map eW/\59∉(lW es).cps.toList:=by
 let w:∀z∈lab::es.map eW,z.length<=84/\∀c,c=32\/c=59->c∉z.cps.toList:=λz hz=>by
  rcases zZ.mp hz with rfl | hz
  . show{by decide,by rintro c (rfl | rfl) <;> decide}
  . let{e,he,0}:=zy.mp hz;show{(NN (h.e e he)).1,(NN (h.e e he)).2.2}
 let t:EF (es.map eW)<=85*24:=zn (D8 λz hz=>(w z (zr _ hz)).1) (Nat.mul_le_mul_left _ (by rw[zA];show h.l));let o:EF (lab::es.map eW)<=2060:=by rw[JR,show lab.length=5 from by decide];lia
 rw[show lW es=Str.join Av (lab::es.map eW) from StrLaws.glued_eq_join _ _];show{zn (NA (by decide) _) o,o,SW (by simp) λz hz=>(w z hz).2 32 (by simp),U1 (by decide) λz hz=>(w z hz).2 59 (by simp)}
def GN.esb (K:GN n ess)(h:n<=24):∀es∈ess,NT n es:=λes he=>{λe hm=>{(K.kd es he).ent e hm,K.lo es he e hm,h},by let:=(K.kd es he).len;lia}
def EL (H:Hp)(l:Addr)(es:List En):Prop:=∃as:List Addr,H l=some (.lst (as.map V.ref))/\EY H as es
def EL.same (h:EL H l es)(k:AE H H'):EL H' l es:=by let{as,a,b}:=h;show{as,k _ _ a,b.keep λb _ e=>k b _ e}
def bx {as:List Addr}{i:Nat}(h:(as.map V.ref)[i]?=some v):∃a,as[i]?=some a/\V.ref a=v:=by
 rw[zK] at h;cases e:as[i]? with
 | none=>rw[e] at h;cases h
 | some a=>rw[e] at h;show{a,0,zT h}
meta def Hm (es:List En):Int:=match es.getLast? with
 | none=>0
 | some e=>e.h+1
meta def own (es:List En):Bool:=es.any λe=>decide (e.l=0)
def EL.last (h:EL H l es):∃xs,H l=some (.lst xs)/\((xs=[]/\es.getLast?=none)\/∃e p,xs≠[]/\es.getLast?=some e/\Bl xs (-1)=some (.ref p)/\H p=some (.tup (eV e))):=by
 let{as,a,C,b}:=h;show{_,a,?_};rcases List.eq_nil_or_concat as with rfl | ⟨o,x,rfl⟩
 . show .inl {0,by rw[List.length_eq_zero_iff.mp (show es.length=0 from C.symm)];rfl}
 . rw[List.concat_eq_append] at *;let{e,J,I}:=b o.length x (by simp);let:es.length=o.length+1:=by rw[<-C,zS];rfl
   show .inr {e,x,by simp,by rwa[List.getLast?_eq_getElem?,this],by rw[zO];show ON _ _,I}
def bV {o:Type}{p:o->Bool}:∀{l:List o},l.countP p<=1->l.Pairwise λa b=>¬ (p a=true/\p b=true)
 | [],_=>.nil
 | x::l,h=>by
  rw[List.countP_cons] at h;show .cons (λy C z=>?_) (bV (by split at h <;> lia));rw[if_pos z.1] at h;let:0<l.countP p:=List.countP_pos_iff.mpr ⟨y,C,z.2⟩
  lia
def eN (h:F6 n es)(he:es[j]?=some e):0<=Hm (es.take j)/\Hm (es.take j)<=e.h:=by
 let g:=(h.ent e (zQ he)).rng;cases j with
 | zero=>show{C1 _,g.1}
 | succ i=>
  let o:=(zH.mp he).1;let hi:i<es.length:=()
  let C:(es.take (i+1)).getLast?=some es[i]:=by rw[ze,zC hi];show List.getLast?_concat
  unfold Hm;rw[C];let lt:es[i].h<es[i+1].h:=EZ.mp h.hub i (i+1) hi o ();rw[zC o] at he;rw[zT he] at lt;let g2:=(h.ent es[i] (List.getElem_mem hi)).rng;show{by change 0<=es[i].h+1;lia,by change es[i].h+1<=e.h;lia}
def F6.one1 (h:F6 n es):es.countP (λe=>e.l==0)=1:=by let:=h.one;rwa[List.countP_map] at this
def jc (h:F6 n es)(he:es[j]?=some e)(h0:e.l=0):own (es.take j)=false:=by
 cases c:own (es.take j) with
 | false=>rfl
 | true=>unfold own at c;let{x,hx,U}:=JQ.mp c;let U:=of_decide_eq_true U;let{i,hi}:=List.mem_iff_getElem?.mp hx;let I:=(zH.mp hi).1;rw[zi] at I;let C:=(zH.mp he).1;rw[List.getElem?_take_of_lt ()] at hi;let o:=(zH.mp hi).2;let J:=(zH.mp he).2;let:=EZ.mp (bV (Nat.le_of_eq h.one1)) i j () C ();rw[o,J] at this;show absurd {by rwa[beq_iff_eq],by rwa[beq_iff_eq]} this
def jQ (h:F6 n es):own es=true:=by let{x,o,C}:=List.countP_pos_iff.mp (show 0<es.countP λe:En=>e.l==0 by rw[h.one1];decide);show JQ.mpr {x,o,zY (by rwa[beq_iff_eq] at C)}
def RH {C:Type}{p:Addr->C->Prop}{es:List C}{e:C}(I:as.length=es.length)(U:∀(i:Nat)b,as[i]?=some b->∃x,es[i]?=some x/\p b x)(J:p a e):(as++[a]).length=(es++[e]).length/\∀(i:Nat)b,(as++[a])[i]?=some b->∃x,(es++[e])[i]?=some x/\p b x:=by
 show{by rw[zS,zS,I];rfl,λi b o=>?_};by_cases c:i<as.length
 . rw[zV c] at o;let{x,e1,e2}:=U i b o;show{x,by rwa[zV ()],e2}
 . let hi:=(zH.mp o).1;rw[zS] at hi;let:i=as.length:=by let:[a].length=1:=rfl;lia
   subst this;rw[List.getElem?_concat_length] at o;cases o;show{e,by rw[I,List.getElem?_concat_length],J}
def Wh:Sp:=λC H Q _=>∃o:Option Int,C=[oV o]/\GG o/\Q (.str (oT o)) H
def XA:Sp:=λo H Q _=>∃p n e,o=[.ref p]/\H p=some (.tup (eV e))/\EB n e/\∀H',AE H H'->Q (.str (eW e)) H'
def Wr:Sp:=λo H Q _=>∃p n es,o=[.ref p]/\BN H p es/\NT n es/\∀H',AE H H'->Q (.str (lW es)) H'
def Vn:Sp:=λo H Q _=>∃l es,o=[.ref l]/\EL H l es/\es.length<=24/\∀H',AE H H'->Q (.bl (own es)) H'
def WK:Sp:=λC H Q _=>∃l o es h J I,C=[.ref l,.int h,.ref o]/\EL H l es/\es.length<=24/\own es=false/\H o=some (.lst [.str J,.str I,.str dash,.str dash])/\∀p H',AE H H'->H' p=some (.tup [.int h,.int 0,.non,.non])->Q (.ref p) H'
def Xs:Sp:=λC H Q _=>∃o n h l u d J I,C=[.int n,.int h,.int l,.ref o]/\n<=24/\H o=some (.lst [.str J,.str I,.str (sN u),.str (sN d)])/\(0<=u/\u<=n-1)/\(0<=d/\d<=n-1)/\∀p H',AE H H'->H' p=some (.tup [.int h,.int l,.int u,.int d])->Q (.ref p) H'
inductive Y9 (vs:List V)(H:Hp)(Q:VK):Prop
 | mk:∀(l:Addr)(n:Int)(es:List En)(e:En),(vs=[.int n,.ref l,.str (eW e)])->(EL H l es)->(es.length<=24)->(EB n e)->((0<=Hm es/\Hm es<=e.h))->((e.l=0->own es=false))->(∀p H',AE H H'->H' p=some (.tup (eV e))->Q (.ref p) H')->Y9 vs H Q
def XR:Sp:=λo H Q _=>Y9 o H Q
def Xy:Sp:=λo H Q _=>∃(n:Int)(i:Nat),∃es,o=[.int n,.int i,.str (lW es)]/\i<24/\F6 n es/\NT n es/\∀p H',AE H H'->BN H' p es->Q (.ref p) H'
def Xn:Sp:=λC H Q _=>∃l n o,C=[.ref l]/\H l=some (.lst ((A6 o).map V.str))/\1<=n/\n<=24/\GN n o/\∀a H',AE H H'->CW H' a o->Q (.ref a) H'
def VA (h:PE X e te)(m:∀ σ H Q,te' σ H Q->te σ H Q):PE X e te':=λpins s σ H Q I q=>h pins s σ H Q I (m σ H Q q)
def WY:zl ["number"] UE.p (defScope UE.s):=AK
def Vw:zl ["entry"] S9.p (defScope S9.s):=AK
def Wg:zl ["label"] S8.p (defScope S8.s):=AK
def Vx:zl ["entries"] TZ.p (defScope TZ.s):=AK
def Vz:zl ["ahead","hub","parts"] TN.p (defScope TN.s):=AK
def Kk:zl ["n","hub","long","parts","up","down"] Tc.p (defScope Tc.s):=AK
def Gw:zl ["n","ahead","word","parts","hub","long"] Ti.p (defScope Ti.s):=AK
def EK:zl ["n","at","line","words","label","k","word","entry"] Tz.p (defScope Tz.s):=AK
def V3:zl ["lines"] S1.p (defScope S1.s):=AK
def U4 (I:Ws P w K mg base PT C D):Fz P w K mg base 1 UE Wh:=by
 show I.Nw.okZ WY λ_ _ A _ _ H J Q E U h=>?_;let{o,0,sm,k}:=h;show{_,zX (zu (GV (zt CS (pv 0) Ax (zw _)) AW (Aq bF I.mStr (zB (pv 0) zJ)))),?_};cases o with
 | none=>show{8,BG rfl k}
 | some i=>let{h0,h1}:=sm i rfl;show{8,AL rfl {1,i,0,(),k}}
def QK (wz:Ws P w K mg base PT C D):Fz P w K mg base 2 S9 XA:=by
 show wz.Ew.okZ Vw λ_ _ A _ _ H vs Q E hr h=>?_;let{p,n,e,0,U,eb,k}:=h;let sm:=eb.sm;let U:H p=some (.tup ((Cn e).map oV)):=U;let h4:(Cn e).length=4:=rfl;let tt:EF ((Cn e).map oT)<=84:=zn (D8 λz hz=>by let{o,ho,0}:=zy.mp hz;show (Up (sm o ho)).1) (show 21*4<=84 by decide);let k:∀H',AE H H'->Q (.str (Txt.join col ((Cn e).map oT))) H':=k;generalize Cn e=os at *;show{_,zX (zu (BE PySem.F.plainAttrs_str PySem.F.slot_str_join PySem.F.type_str_join FE AW (zB (BB (own:=["number"]) (cn:=[]) (ci:=[]) rfl (Ai rfl rfl) trivial rfl (Bo (pv 0)) (λ_ _ _ _=>Ah) (λ_ _ _ _=>A8)
  (λ_ _ _ _=>AF (U4 wz) hr (zB (pv 0) zJ))) zJ))),?_}
 show{6,p,0,{_,AD.of U},[],0,λD hD=>?_};let sD:∀o,AE H (upd H D o):=λo=>zG hD;show CH (a:=p) (xs:=os.map oV) (λi I J=>i<=4/\I=((os.take i).map oT).map V.str/\J=upd H D (.lst I)) {zd _,2} (λi I J y=>?_) (λi I J y=>?_) (λi x I J hx y=>?_) (λI J y=>?_)
 . rw[y.2.2];show AD.of (sD _ _ _ U)
 . rw[y.2.1,zA,zA,zi];show BJ ()
 . let{_,2}:=y;let hi:=(zH.mp hx).1;rw[zA] at hi;rw[zK,zC hi] at hx;cases hx;show{{2},A7 {1,os[i],0,sm _ (List.getElem_mem hi),zF,(),?_,Bp}};rw[ze,zC hi,zO,zO];rfl
 . let{_,2}:=y;rw[zA,zR (zL _)];show{_,D,os.map oT,2,AA.of zF,by decide,by rw[GO];lia,k _ (sD _)}
def RK (wz:Ws P w K mg base PT C D):Fz P w K mg base 3 S8 Wr:=by
 show wz.Lox.okZ Wg λ_ _ A _ _ H vs Q E hr h=>?_;let{p,n,es,0,{as,hp,ea,_},eb,k}:=h;let hsl:200000<=sizeLine:=by decide
 let e24:=eb.l;show{_,zX (zu (BE PySem.F.plainAttrs_str PySem.F.slot_str_join PySem.F.type_str_join FE AW (zB (AQ JU (BA (zB AW zJ)) (BB (own:=["entry"]) (cn:=[]) (ci:=[]) rfl (Ai rfl rfl) trivial rfl (Bo (pv 0)) (λ_ _ _ _=>Ah) (λ_ _ _ _=>A8)
  (λ_ _ _ _=>AF (QK wz) hr (zB (pv 0) zJ)))) zJ))),?_}
 show{0,by change 1<=sizeLine;lia,λU k8=>?_};let s1:=zG (o:=.lst [.str lab]) k8;let h1:(upd H U (.lst [.str lab])) U=some (.lst [.str lab]):=zF;let lF:=s1 _ _ hp;let I:=ea.keep λb _ e=>s1 b _ e;generalize upd H U (.lst [.str lab])=H1 at s1 h1 lF I ⊢;show{1,p,0,{_,AD.of lF},[],0,λD hD=>?_};show CH (a:=p) (xs:=as.map V.ref) (λi xs J=>i<=as.length/\xs=((es.take i).map eW).map V.str/\AE H1 J/\J D=some (.lst xs)) {zd _,0,zG hD,zF} (λi xs J y=>AD.of (y.2.2.1 _ _ lF)) (λi xs J y=>?_) (λi x xs J hx y=>?_) (λxs J y=>?_)
 . rw[y.2.1,zA,zA,zi]
   lia
 . let{1,s4,ki}:=y;let{q,hq,0}:=bx hx;let{e,he,m9}:=I.2 i q hq;show{{2},A7 {1,q,n,e,0,s4 _ _ m9,eb.e e (zQ he),λH5 s5=>?_}};show{s5 _ _ ki,(zH.mp hq).1,?_,A4 (s4.trans s5) hD,zF};rw[ze,he,zO,zO];rfl
 . let{1,s4,ki}:=y;rw[zA,I.1,zR (zL _)] at ki;show{U,D,5,s4 _ _ h1,ki,by rw[zA,zA];change 1+es.length<=_;lia,λq hq=>?_};let lt:=(IF eb).2.1;show{_,q,lab::es.map eW,2,AA.of zF,by decide,by rw[GO];lia,k _ (s1.trans (s4.trans (zG hq)))}
def II (wz:Ws P w K mg base PT C D):Fz P w K mg base 1 TZ Vn:=by
 show wz.Ho.okZ Vx λ_ _ A _ _ H vs Q E hr h=>?_;let{l,es,0,{as,hl,ea},hle,k}:=h;let hsl:200001<=sizeLine:=by decide
 show{_,zX (zu (AZ (iP rfl) wz.mAny (zB (BB (own:=["entry"]) (cn:=[]) (ci:=[]) rfl (Ai rfl rfl) trivial rfl (CQ (pv 0)) (λ_ _ _ _=>Ah) (λ_ _ _ _=>A8)
  (λ_ _ _ _=>BS Am (zm DL (pv 0) zb) zb (zw _))) zJ))),?_}
 show{1,l,0,{_,AA.of hl},[],0,λD hD=>?_};let U:∀o,AE H (upd H D o):=λo=>zG hD;show DJ (a:=l) (xs:=as.map V.ref) (λi I J=>i<=as.length/\I=((es.take i).map λe=>decide (e.l=0)).map V.bl/\J=upd H D (.lst I)) {zd _,2} (λi I J y=>?_) (λi I J y=>?_) (λi x I J hx y=>?_) (λI J y=>?_)
 . rw[y.2.2];show AA.of (U _ _ _ hl)
 . rw[y.2.1,zA,zA,zi]
   lia
 . let{_,2}:=y;let{p,hp,0}:=bx hx;let{e,he,m9}:=ea.2 i p hp;show{{2},A7 {1,p,_,5,AD.of (U _ _ _ m9),Bb (j:=1) rfl,0,zF,(zH.mp hp).1,?_,Bp}};rw[ze,he,zO,zO];let ez:decide (V.int e.l=V.int 0)=decide (e.l=0):=by rw[Bool.eq_iff_iff,decide_eq_true_eq,decide_eq_true_eq];show{λz=>by injection z,λz=>by rw[z]}
   rw[ez];rfl
 . let{_,2}:=y;rw[zA,ea.1,zR (zL _)];show{D,1,AA.of zF,?_};let e:(es.map λe:En=>decide (e.l=0)).any id=own es:=by rw[List.any_map];rfl
   rw[e];show k _ (U _)
def Px (I:Ws P w K mg base PT C D):Fz P w K mg base 2 TN WK:=by
 show I.Oe.okZ Vz λ_ _ A _ _ H vs Q E hr h=>?_;let{l,J,es,h,p0,p1,0,L,hle,ho,o,k}:=h;show{_,zN (AU (PW.pt (Cs (BR (AF (II I) hr (zB (pv 0) zJ))) (Cs (zt Cb (zm zx (pv 2) zb) AW (zw _)) (DO (zt Cb (zm zx (pv 2) zb) AW (zw _)))))) BH AV)
  (zX (zu (BY (zB (pv 1) (As (zB Ax (zB Ax zJ))))))),?_}
 show{1,l,es,0,L,(),λH1 s1=>{1,?_}};let U:=s1 _ _ o;rw[ho];show AL rfl {1,J,_,5,AA.of U,Bb (j:=2) rfl,6,AL (by simp) {1,J,_,5,AA.of U,Bb (j:=3) rfl,6,AL (by simp) {1,Qi,λp o=>k p _ (s1.trans (zG o)) zF}}}
def Ot (I:Ws P w K mg base PT C D):Fz P w K mg base 4 Tc Xs:=by
 show I.Fax.okZ Kk λ_ _ A _ _ H vs Q E hr h=>?_;let{J,n,h,l,u,d,p0,p1,0,n24,o,U,hd,k}:=h;show{_,zN (AX (i:=4) Kk.nd (AF (Mt I) hr (zB (zm zx (pv 3) zb) (As (zB (AQ ED (pv 0) zb) zJ)))))
  (zN (AX (i:=5) Kk.nd (AF (Mt I) hr (zB (zm zx (pv 3) zb) (As (zB (AQ ED (pv 0) zb) zJ)))))
  (zN (AU (PW.pt (Cs (zt CS (pv 4) Ax (zw _)) (DO (zt CS (pv 5) Ax (zw _))))) BH AV)
  (zX (zu (BY (zB (pv 1) (zB (pv 2) (zB (pv 4) (zB (pv 5) zJ))))))))),?_}
 show⟨_,rfl,J,_,_,_,rfl,rfl,AA.of o,Bb (j:=2) rfl,_,rfl,_,_,rfl,rfl,u,0,n-1,rfl,by decide,U.1,U.2,(),λH1 s1=>?_⟩;show⟨_,rfl,J,_,_,_,rfl,rfl,AA.of (s1 _ _ o),Bb (j:=3) rfl,_,rfl,_,_,rfl,rfl,d,0,n-1,rfl,by decide,hd.1,hd.2,(),λH2 s2=>?_⟩;show{8,AL rfl {8,AL rfl {4,4,Qi,λp o=>k p _ ((s1.trans s2).trans (zG o)) zF}}}
def Qe (U:Ws P w K mg base PT C D):Fz P w K mg base 5 Ti XR:=by
 let{tk,mMW}:=U.mMW;show U.Ei.okZ Gw λ_ _ A _ _ H vs Q E hr h=>?_;let{l,n,es,e,0,L,hle,eb,lo,ho,k}:=h;let g:=eb.ok;let n24:=eb.n24;show{_,zN (AX (i:=3) Gw.nd (BE PySem.F.plainAttrs_str PySem.F.slot_str_split PySem.F.type_str_split Gi (pv 2) (zB AW zJ)))
  (zN (AU (zt Cb (AZ CD U.mLen (zB (pv 3) zJ)) zb (zw _)) BH AV)
  (zN (AX (i:=4) Gw.nd (AF (Mt U) hr (zB (zm zx (pv 3) zb) (zB (VA (te':=λσ H Q=>∃(l:Addr)(es:List En),σ[1]?=some (some (.ref l))/\EL H l es/\Q (.int (Hm es)) H) (GV (My (pv 1) (λ_=>rfl)) (AQ Bs (zm AM (zm zx (pv 1) (Hx Hl zb)) zb) zb) zb) ?lo) (zB (AQ ED (pv 0) zb) zJ)))))
  (zN (AX (i:=5) Gw.nd (AF (Mt U) hr (zB (zm zx (pv 3) zb) (As (zB (EV (v:=.int 999999999999) rfl mMW {1}) zJ)))))
  (zN (AU (PW.pt (Cs (zt CS (pv 4) Ax (zw _)) (DO (zt CS (pv 5) Ax (zw _))))) BH AV)
  (zN (AU (zt Am (pv 5) zb (zw _)) (zX (zu (AF (Px U) hr (zB (pv 1) (zB (pv 4) (zB (pv 3) zJ)))))) AV)
  (zX (zu (AF (Ot U) hr (zB (pv 0) (zB (pv 4) (zB (pv 5) (zB (pv 3) zJ)))))))))))),?_}
 case lo=>
  intro σ H1 Q1 ⟨l,es,hσ,L1,q⟩;let{xs,hl,c}:=L1.last;unfold Hm at q;rcases c with ⟨e,hn⟩ | ⟨x,p,e,hn,ha,hp⟩
  . rw[hn] at q;show{_,hσ,false,.inl {xs,AA.of hl,by rw[e];rfl},AL rfl q}
  . rw[hn] at q;show{_,hσ,true,.inl {xs,AA.of hl,by cases xs with | nil=>show absurd rfl e | cons a as=>rfl},BG rfl ?_};show⟨_,hσ,1,rfl,l,_,_,_,rfl,rfl,AA.of hl,ha,p,_,_,_,rfl,rfl,AD.of hp,Bb (j:=0) rfl,_,_,rfl,rfl,q⟩
 let{el,ec,_}:=NN eb;show{_,2,3,9,(),λJ hlp=>?_};rw[show Txt.split (eW e) (Str.ofString ":")=[sN e.h,sN e.l,oT e.u,oT e.d] from ec];let s1:=zG (o:=.lst ([sN e.h,sN e.l,oT e.u,oT e.d].map V.str)) hlp;let lF:(upd H J (.lst ([sN e.h,sN e.l,oT e.u,oT e.d].map V.str))) J=some (.lst [.str (sN e.h),.str (sN e.l),.str (oT e.u),.str (oT e.d)]):=zF;generalize upd H J (.lst ([sN e.h,sN e.l,oT e.u,oT e.d].map V.str))=H1 at s1 lF ⊢;show{1,J,1,.inl (AA.of lF),6,AL (by simp) ?_};let g1:=g.rng;let gl:=g.nn;let gm:=eb.lo;show{1,J,_,5,AA.of lF,Bb (j:=0) rfl,l,es,0,L.same s1,1,5,e.h,Hm es,n-1,0,lo.1,lo.2,(),(),λH2 s2=>?_};show⟨_,rfl,J,_,_,_,rfl,rfl,AA.of (s2 _ _ lF),Bb (j:=1) rfl,e.l,0,999999999999,rfl,by decide,gl,(),by decide,λH3 s3=>?_⟩;let me:=s2.trans s3;let s03:=s1.trans me;show{8,AL rfl {8,AL rfl {8,?_}}};let I:=me _ _ lF;by_cases z:e.l=0
 . show BG (zY (congrArg V.int z)) ?_;let{q2,q3}:=g.own z;let kk:eV e=[.int e.h,.int 0,.non,.non]:=by unfold eV;rw[z,q2,q3];rfl
   rw[kk] at k;rw[q2,q3] at I;show{1,4,l,J,es,e.h,7,L.same s03,hle,ho z,I,λp H4 s4 hp=>k p H4 (s03.trans s4) hp}
 . show AL (za (λz'=>z (V.int.inj z'))) ?_;let{u,d,q2,q3,u0,u1,d0,d1}:=g.far z;let kk:eV e=[.int e.h,.int e.l,.int u,.int d]:=by unfold eV;rw[q2,q3];rfl
   rw[kk] at k;rw[q2,q3] at I;show{4,4,J,n,e.h,e.l,u,d,7,n24,I,{u0,()},{d0,()},λp H4 s4 hp=>k p H4 (s03.trans s4) hp}
def P5 (wz:Ws P w K mg base PT C D):Fz P w K mg base 6 Tz Xy:=by
 let{tk,mMP}:=wz.mMP;show wz.Rl.okZ EK λ_ _ A _ _ H vs Q E hr h=>?_;let{n,i,es,0,i24,g,eb,k}:=h;let e24:=eb.l;let hsl:200000<=sizeLine:=by decide
 let{ll,_,wl,_}:=IF eb;show{_,zN (AX (i:=3) EK.nd (BE PySem.F.plainAttrs_str PySem.F.slot_str_split PySem.F.type_str_split Gi (pv 2) (zB AW zJ)))
  (zN (AU (PW.pt (Cs (zt SU (pv 1) (EV (v:=.int 24) rfl mMP {1}) (zw _)) (DO (zt Cb (zm zx (pv 3) zb) AW (zw _))))) BH AV)
  (zN (AX (i:=4) EK.nd (BA zJ))
  (zN (Bn (Yn (by rfl) wz.mEnum (zB (Dz Jo (pv 3) (Di zb) Ek) zJ)) (DN rfl (Ag (Ay (i:=5) EK.nd) (Ag (Ay (i:=6) EK.nd) CK)))
   (zN (AX (i:=7) EK.nd (AF (Qe wz) hr (zB (pv 0) (zB (pv 4) (zB (pv 6) zJ)))))
   (zN (AU (zt CS (pv 7) Ax (zw _)) BH AV)
   (zX (Ca (BE PySem.F.plainAttrs_list PySem.F.slot_list_append PySem.F.type_list_append Ej (pv 4) (zB (pv 7) zJ)))))))
  (zN (AU (CM (BR (AF (II wz) hr (zB (pv 4) zJ)))) BH AV)
  (zX (zu (Aq Ct wz.mTuple (zB (pv 4) zJ)))))))),?_}
 show{_,2,3,9,(),λlw hlw=>?_};rw[show Txt.split (lW es) (Str.ofString " ")=lab::es.map eW from wl];let s1:=zG (o:=.lst ((lab::es.map eW).map V.str)) hlw;let J:(upd H lw (.lst ((lab::es.map eW).map V.str))) lw=some (.lst ((lab::es.map eW).map V.str)):=zF;generalize upd H lw (.lst ((lab::es.map eW).map V.str))=H1 at s1 J ⊢;show{1,_,8,AL (za ()) {1,lw,_,5,AA.of J,Bb (j:=0) rfl,6,AL (by simp) ?_}};show{zd _,λI oN=>?_};let nla:H I=none:=CI s1 oN;let s2:AE H (upd H1 I (.lst [])):=s1.trans (zG oN);let oI:=zG (o:=.lst []) oN _ _ J;show⟨_,rfl,1,rfl,lw,_,rfl,AA.of oI,λl2 kY=>?_⟩;rw[show (some 1:Option Int)=some ((1:Nat):Int) from rfl,Ry,show List.drop 1 ((lab::es.map eW).map V.str)=(es.map eW).map V.str from rfl];let hl2a:l2≠I:=λx=>by rw[x,zF] at kY;cases kY
 show{l2,0,{_,AA.of zF},?_};show cI (K:=K) (c:=1) (a:=l2) (xs:=(es.map eW).map V.str) (λj σ U=>Qk λ(v5 v6 v7:Option V)=>σ=[some (.int n),some (.int i),some (.str (lW es)),some (.ref lw),some (.ref I),v5,v6,v7]/\AE H U/\U l2=some (.lst ((es.map eW).map V.str))/\EL U I (es.take j))
  {_,7,s2.trans (zG kY),zF,{[],zG kY _ _ zF,0,λi a h=>by simp at h}}
  (λj σ U _ ⟨_,_,_,_,_,h2,_⟩=>AA.of h2) (λj x σ U T hx y hT=>?_) (λσ U y=>?_)
 . let{v5,v6,v7,0,s4,h2,Le}:=y;obtain⟨e,he,rfl⟩:∃e,es[j]?=some e/\V.str (eW e)=x:=by
    rw[zK,zK] at hx;cases q:es[j]? with
    | none=>rw[q] at hx;cases hx
    | some e=>rw[q] at hx;show{e,0,zT hx}
   let s5:=zG (o:=.tup [.int ((j+1:Nat):Int),.str (eW e)]) hT;show{T,1,AD.of zF,0,7,5,?_};generalize upd U T (.tup [.int ((j+1:Nat):Int),.str (eW e)])=H5 at s5 ⊢;let mU:=s4.trans s5;let L5:=Le.same s5;show{1,4,I,n,es.take j,e,0,L5,by rw[zi];lia,eb.e e (zQ he),eN g he,jc g he,λp H6 s6 hp=>?_};show{8,AL rfl ?_};let{xs,ha,hb}:=L5.same s6;let nH:p≠I:=AJ hp ha (by intro z;cases z);show{1,.inl {0,_,AA.of ha},1,I,_,.ref p,2,ha,by let:=hb.1;rw[zi] at this;rw[zA];lia,?_};show{_,7,λb o q=>?_,?_,{xs++[p],by rw[zF,zO];rfl,?_}}
   . rw[zg (λx=>by rw[x,nla] at q;cases q)];show (mU.trans s6) b o q
   . rw[zg hl2a];show s6 _ _ (s5 _ _ h2)
   . rw[ze,he];show (hb.keep λb ys q=>?_).snoc ?_
     . rwa[zg (AJ q ha (by intro z;cases z))]
     . rwa[zg nH]
 . let{v5,v6,v7,0,s4,h2,Le}:=y;rw[zA,zA,zR (zL _)] at Le;show{1,I,es,0,Le,(),λH5 s5=>{1,?_}};rw[jQ g];show AL rfl ?_;let{xs,ha,hb}:=Le.same s5;show{1,I,1,.inl {AA.of ha,λta lE=>?_}};let s6:=zG (o:=.tup (xs.map V.ref)) lE;show k ta _ ((s4.trans s5).trans s6) {xs,zF,hb.keep λb _ e=>s6 b _ e,()}
def Q6 (wz:Ws P w K mg base PT C D):Fz P w K mg base 7 S1 Xn:=by
 show wz.Rsx.okZ V3 λ_ _ A _ _ H vs Q E hr h=>?_;let{l,n,I,0,hl,n1,n24,K1,k}:=h;let hn:=K1.ln;let hln:((A6 I).map V.str).length=I.length:=by unfold A6;rw[zA,zA]
 let hnn:(((A6 I).map V.str).length:Int)=n:=by rw[hln];lia
 show{_,zN (AU (zt Am (AZ CD wz.mLen (zB (pv 0) zJ)) zb (zw _)) BH AV)
  (zX (zu (Aq Ct wz.mTuple (zB (BB (own:=["at","line"]) (cn:=["lines"]) (ci:=[0]) rfl (Ai rfl rfl) {9,trivial} rfl (g8 rfl wz.mEnum (zB (pv 0) zJ))
   (λ_ _ _ _=>NJ (n:=2) rfl (Ag (Ah) (Ag (CY (i:=1) (DD rfl) rfl (Or.inl rfl)) CK))) (λ_ _ _ _=>A8)
   (λ_ _ _ _=>AF (P5 wz) hr (zB (AZ Rh wz.mLen (zB (pv 2) zJ)) (zB (pv 0) (zB (pv 1) zJ))))) zJ)))),?_}
 show{1,l,1,.inl (AA.of hl),6,AL (za (λx=>by injection x with x;lia)) ?_};show{1,l,0,{_,AA.of hl},[.ref l],0,λD hD=>?_};let hsl:200000<=sizeLine:=by decide
 show fh (a:=l) (xs:=(A6 I).map V.str) (λi U J=>i<=I.length/\AE H J/\J D=some (.lst U)/\∃as:List Addr,U=as.map V.ref/\as.length=(I.take i).length/\∀(j:Nat)(a:Addr),as[j]?=some a->∃es,(I.take i)[j]?=some es/\BN J a es)
  {zd _,zG hD,zF,[],2,λj a h=>by simp at h} (λi U J ⟨_,s4,_⟩=>AA.of (s4 _ _ hl)) (λi U J ⟨hi,_,_,as,e,hl,_⟩=>by rw[e,zA,hl,zi];lia) (λi x U J T hx y hT=>?_) (λU J y=>?_)
 . let{_,s4,ki,as,0,al,lt}:=y;obtain⟨es,he,rfl⟩:∃es,I[i]?=some es/\V.str (lW es)=x:=by
    unfold A6 at hx;rw[zK,zK] at hx;cases q:I[i]? with
    | none=>rw[q] at hx;cases hx
    | some e=>rw[q] at hx;show{e,0,zT hx}
   let hi:i<I.length:=(zH.mp he).1;let hm:=zQ he;let s5:=zG (o:=.tup [.int (i:Int),.str (lW es)]) hT;show{T,1,AD.of zF,0,7,5,{2},A7 ?_};show{1,l,1,.inl (AA.of (s5 _ _ (s4 _ _ hl))),4,_,i,es,0,(),by rw[hnn];show K1.kd es hm,by rw[hnn];show K1.esb n24 es hm,λp H6 s6 hp=>?_};let mZ:=s6 _ _ (s5 _ _ ki);let nV:=s5.trans s6;show{mZ,hi,λb o q=>?_,zF,as++[p],by rw[zO];rfl,?_}
   . rw[zg (zp q hD)];show nV _ _ (s4 _ _ q)
   . let kp:∀b lM,H6 b=some (.tup lM)->(upd H6 D (.lst (as.map V.ref++[.ref p]))) b=some (.tup lM):=λb lM q=>by rwa[zg (AJ q mZ (by intro z;cases z))]
     rw[ze,he];show RH al (λj a ha=>by let{nr,e1,e2}:=lt j a ha;show{nr,e1,(e2.same nV).keep kp}) (hp.keep kp)
 . let{_,s4,ki,as,0,al,lt}:=y;rw[hln,zR (zL _)] at al lt;show{D,1,.inl {AA.of ki,λta lE=>?_}};let s5:=zG (o:=.tup (as.map V.ref)) lE;show k ta _ (s4.trans s5) {as,zF,al,λj a ha=>by let{nr,e1,e2}:=lt j a ha;show{nr,e1,e2.same s5}}
end K73
namespace K73
open PySem L2 WM
open DG
variable {P:Program}{w:World}{K:AG}{mg:Aj}{base:Heap}{PT:Addr}{X:Cx}
section
open PySem.Spec PyProof.Rows
def gp (U:CN X body t)(J:∀e s,X.xe e s->False):PS X (.Try body (h0::hs) [] [] pos) t:=by
 intro pins s σ H D I h;show wpAny_Try_except (Cr (U pins s σ H D I h) (λfl C o=>?_) λe C o=>(J e C o).elim);cases fl with
 | next=>show wpAny_execs_nil o
 | brk=>show o
 | cont=>show o
 | ret u=>show o
end
def GL (ess:List (List En))(y v p:Int):Prop:=∃es fs lm,ess[v.toNat]?=some es/\ess[y.toNat]?=some fs/\GD (Cd es fs) lm/\OM es fs v y lm=some p
def GL.uniq (h:GL ess y v p)(h':GL ess y v q):p=q:=by let{es,fs,lm,a,b,c,d}:=h;let{nr,J,I,C,o,c',U}:=h';rw[a] at C;rw[b] at o;cases C;cases o;rw[c.uniq c',U] at d;show (zT d).symm
def NI (ts:List T3)(n:Int)(ess:List (List En))(x y:Int)(ps:List Int):Prop:=(ps=[]/\A9 ts x y none)\/∃d s0 r,WM.IsD ts x y d/\Ds ts n x y d ps s0 y r/\ps.length<=24/\ps[0]?=some x/\∀k a b,ps[k]?=some a->ps[k+1]?=some b->a≠y/\GL ess y a b
def SH (ts:List T3)(ess:List (List En))(x y:Int)(o:Option Int):Prop:=(x=y->o=none)/\(A9 ts x y none->o=none)/\(∀d,x≠y->WM.IsD ts x y d->∃p,o=some p/\GL ess y x p)/\∀p,o=some p->B8 ts x y p
inductive Y2 (vs:List V)(H:Hp)(Q:VK):Prop
 | mk:∀(ll:Addr)(n:Int)(ts:List T3)(ess:List (List En))(x y:Int),(vs=[.ref ll,.int x,.int y])->(GW n ts)->(CW H ll ess)->(Hr ts n ess)->(0<=x)->(x<n)->(0<=y)->(y<n)->(∀(l:Addr)(ps:List Int)(H':Hp),AE H H'->H l=none->H' l=some (.lst (ps.map V.int))->NI ts n ess x y ps->Q (.ref l) H')->Y2 vs H Q
def Kx:Sp:=λo H Q _=>Y2 o H Q
inductive ag (C:Addr)(vs:List V)(H:Hp)(Q:VK):Prop
 | mk:∀(kp dx la wa oa:Addr)(n x y:Int)(ts:List T3)(os:List Int)(ess:List (List En)),(vs=[.ref kp,.int x,.int y])->(BP H C kp dx la wa oa n ts os ess)->((0<=x/\x<n))->((0<=y/\y<n))->(∀(o:Option Int)(H':Hp),AE H H'->SH ts ess x y o->Q (oV o) H')->ag C vs H Q
def Wm (C:Addr):Sp:=λo H Q _=>ag C o H Q
def PB (H:Hp)(l:Addr)(ks:List Nat):Prop:=∃as:List Addr,H l=some (.tup (as.map V.ref))/\as.length=ks.length/\∀(i:Nat)a,as[i]?=some a->∃o:List V,H a=some (.tup o)/\ks[i]?=some o.length
def CW.tlen (h:CW H l ess):PB H l (ess.map List.length):=by let{as,I,h2,C}:=h;show{as,I,by rwa[zA],λi a o=>?_};let{es,U,bs,J,EA,_}:=C i a o;show{_,J,by rw[zK,U,zA,EA.1];rfl}
def Q8:Sp:=λC H Q _=>∃l o,C=[.ref l]/\PB H l o/\o.length<=24/\∀H',AE H H'->Q (.int (o.map λk:Nat=>(k:Int)).sum) H'
def jt (G:GW n ts)(L:Hz ts n rk ess)(o:∀es∈ess,∀e∈es,0<=e.l/\e.l<=2376):GN n ess:=by show{L.1,λes he=>?_,λes he e h=>(o es he e h).2};let{i,hi,e}:=CP he;let:=L.1;show (L.2 i es (by rw[zC hi,e])).kind G () ()
def eY (K:GN n ess)(C:1<=n)(o:n<=24):Txt.split (Str.join (Str.ofString "; ") (A6 ess)) (Str.ofString "; ")=A6 ess:=by
 let I:=K.ln;rw[Lf];show jk (λz=>?_) λw hw=>?_
 . let:=congrArg List.length z;unfold A6 at this;rw[zA] at this;let:ess.length=0:=this
   lia
 . let{es,he,0}:=zy.mp hw;show (IF (K.esb o es he)).2.2.2
meta def jn (zs:List Str):Str:=Str.join (Str.ofString "; ") zs
inductive cK (vs:List V)(H:Hp)(Q:VK):Prop
 | mk:∀(wa:Addr)(n:Int)(ts:List T3)(rk:Int->Int)(ess:List (List En)),(vs=[.ref wa,.str (jn (A6 ess))])->(Af H wa n ts)->(Hz ts n rk ess)->(Hr ts n ess)->(GN n ess)->((jn (A6 ess)).length<=100000)->(∀H',AE H H'->Q (.str "ok") H')->cK vs H Q
def Xf:Sp:=λo H Q _=>cK o H Q
section
variable {P:Program}{w:World}{K:AG}{mg:Aj}{base:Heap}{C fI fP fS fT fW fL:Addr}
def bq:zl ["labels","one","other","gone"] Rz.p (defScope Rz.s):=AK
def j4 (wz:Ws P w K mg base PT C D):Fz P w K mg base 4 Rz Kx:=by
 show wz.Wk.okZ bq λ_ _ A _ _ H vs Q E hr h=>?_;let{ll,n,ts,ess,x,y,0,G,LA,nF,x0,x1,y0,y1,k}:=h;let mC:=G.n24;show{_,zN (AU (zt CS (AF (Ss wz) hr (zB (zm AM (pv 0) (pv 1)) (zB (zm AM (pv 0) (pv 2)) zJ))) Ax (zw _)) (zX (zu (BA zJ))) AV)
  (zN (AX (i:=3) bq.nd (BA (zB (pv 1) zJ)))
  (zN (Vi PassesOwn.never (zt Cb (zm zx (pv 3) (Hx Hl zb)) (pv 2) (zw _))
   (zX (Ca (BE PySem.F.plainAttrs_list PySem.F.slot_list_append PySem.F.type_list_append Ej (pv 3) (zB (AF (YD wz) hr
    (zB (zm AM (pv 0) (zm zx (pv 3) (Hx Hl zb))) (zB (zm AM (pv 0) (pv 2)) zJ))) zJ)))))
  (zX (zu (pv 3))))),?_}
 let{as,ax,ex,oE,gx,ix,lx}:=LA.at nF.ln x0 x1;let{as2,ay,ey,ox,gy,iy,ly}:=LA.at nF.ln y0 y1;let eas:as2.map V.ref=as.map V.ref:=by rw[oE] at ox;injection ox with h;injection h with h;show h.symm
 rw[eas] at gy;let Lx:=nF.lg _ _ ix;let Ly:=nF.lg _ _ iy;let Cxy:=nF.cov _ _ _ _ ix iy;rw[E8 x0] at Lx Cxy;rw[E8 y0] at Ly Cxy;show{4,ll,3,.ref ax,2,AD.of oE,Ac x0 gx,4,ll,3,.ref ay,2,AD.of oE,Ac y0 gy,ax,ay,ex,ey,0,lx,ly,Ly.hub,λlm H1 s1 hm=>?_};show{6,?_};let tr:=Jq G Lx Ly Cxy hm;rw[X8];cases lm with
 | none=>
  show BG rfl ?_;show{zd _,λl hl=>k l [] _ (s1.trans (zG hl)) (by
   cases z:H l with
   | none=>rfl
   | some o=>rw[s1 _ _ z] at hl;cases hl) zF (.inl {0,tr.1})}
 | some c=>
  let hD:WM.IsD ts x y c.1:=tr.1;show AL rfl ?_;show{1,FK,λD hDn=>?_};let hD0:H D=none:=by
   cases z:H D with
   | none=>rfl
   | some o=>rw[s1 _ _ z] at hDn;cases hDn
  show{λm σ H2=>∃(J:List Int)(s0 z r:Int),σ=[some (.ref ll),some (.int x),some (.int y),some (.ref D)]/\m=r.toNat/\AE H H2/\H2 D=some (.lst (J.map V.int))/\Ds ts n x y c.1 J s0 z r/\J[0]?=some x/\(∀(k:Nat)(a b:Int),J[k]?=some a->J[k+1]?=some b->a≠y/\GL ess y a b),
   ⟨_,[x],0,x,c.1,rfl,rfl,s1.trans (zG hDn),zF,Ds.start G x0 x1 hD,rfl,λk a b h1 h2=>by simp at h2⟩,?_}
  rintro m σ H2 ⟨J,s0,z,r,rfl,rfl,s2,ke,LD,og,hgo⟩;let{pre,mS}:=LD.ls;let hlast:Bl (J.map V.int) (-1)=some (V.int z):=by rw[mS,zO];show ON _ _
  let zin:=LD.in_;let hlen:=LD.len ();let hfa:∀f∈J,0<=f:=λf hf=>(LD.fa f hf).1;show{4,D,3,.int z,2,AA.of ke,hlast,8,?_};by_cases U:z=y
  . show AL (by rw[U];simp) ?_;show{1,k D J H2 s2 hD0 ke (.inr {c.1,s0,r,hD,U ▸ LD,(),og,hgo})}
  . show BG (by rw[IE,za U];rfl) ?_;let{as3,az,ez,hll3,gz,iz,lz}:=(LA.keep λb ys e=>s2 _ _ e).at nF.ln zin.1 zin.2;let ow:=s2 _ _ oE;let eas3:as3.map V.ref=as.map V.ref:=by rw[ow] at hll3;injection hll3 with h;injection h with h;show h.symm
    rw[eas3] at gz;let Lz:=nF.lg _ _ iz;let Czy:=nF.cov _ _ _ _ iz iy;rw[E8 zin.1] at Lz Czy;rw[E8 y0] at Czy;let{oz,rz,fz,ez'}:=Lz.zero G;let{oy,ry,fy,ey'}:=Ly.zero G;show{λσ' H'=>∃(I:List Int)(s0' z' r':Int),σ'=[some (.ref ll),some (.int x),some (.int y),some (.ref D)]/\r'.toNat<r.toNat/\AE H H'/\H' D=some (.lst (I.map V.int))/\Ds ts n x y c.1 I s0' z' r'/\I[0]?=some x/\(∀(k:Nat)(a b:Int),I[k]?=some a->I[k+1]?=some b->a≠y/\GL ess y a b),?_,?_}
    . rintro σ' H' ⟨I,s0',z',r',rfl,lO,h1,h2,h3,h4,h5⟩;show{_,lO,I,s0',z',r',2,h1,h2,h3,h4,h5}
    . show{1,.inl {0,_,AA.of ke},1,4,D,3,.int z,2,AA.of ke,hlast,ll,3,.ref az,2,AD.of ow,Ac zin.1 gz,4,ll,3,.ref ay,2,AD.of ow,Ac y0 gy,az,ay,ez,ey,oz,oy,rz,ry,0,lz,ly.same s2,Lz.hub,Ly.hub,fz,fy,λlm2 H3 s3 hm2=>?_};let tr2:=Jq G Lz Ly Czy hm2;cases lm2 with
      | none=>show absurd LD.rm.1 (tr2.1 r)
      | some c2=>
       let{p,lF,hp2}:=UL G Lz Ly Czy hm2 U;rw[ez',ey',lF];show{D,5,s3 _ _ ke,by rw[zA];show BJ (),?_};let{s',r',LD'}:=LD.step G hp2;let{l,b,ha,ib,izy}:=hp2;let e1:b=r':=ib.uniq LD'.rm;let e2:l+b=r:=izy.uniq LD.rm;let kg:=G.adj ha;let hb0:=ib.1.nn G;show{J++[p],s',p,r',0,(),A4 (s2.trans s3) hD0,by rw[zO];show zF,LD',?_,λk a b' h1 h2=>?_}
       . rw[zV (zH.mp og).1];show og
       . by_cases ck:k+1<J.length
         . rw[zV ()] at h1;rw[zV ck] at h2;show hgo k a b' h1 h2
         . let hk:k+1=J.length:=by let:=(zH.mp h2).1;rw[zS] at this;simp at this;lia
           rw[zV ()] at h1;rw[zW (),hk,E4] at h2;let e3:p=b':=by simpa using h2
           let e4:a=z:=by rw[mS] at h1 hk;rw[zS] at hk;simp at hk;rw[zW (),hk,E4] at h1;simpa using h1.symm
           subst e3 e4;show{U,ez,ey,some c2,iz,iy,hm2,lF}
def Oo (o:Ws P w K mg base PT C D):Mz P w K mg base 4 C TQ (Wm C):=by
 show o.KU.okM V0 λ_ _ A _ _ H vs Q E hr h=>?_;let{kp,dx,la,wa,oa,n,x,y,ts,os,ess,0,k,hx,hy,q}:=h;show{_,zX (zu (AF (YD o) hr (zB (zm AM (Dc (pv 0) rfl) (pv 1)) (zB (zm AM (Dc (pv 0) rfl) (pv 2)) zJ)))),?_};let{G,L}:=k.gd;let{as,ax,es,hl,gx,ix,lx}:=k.lab.at L.ln hx.1 hx.2;let{as2,ay,fs,kY,gy,iy,ly}:=k.lab.at L.ln hy.1 hy.2;let eas:as2.map V.ref=as.map V.ref:=by rw[hl] at kY;injection kY with h;injection h with h;show h.symm
 rw[eas] at gy;let J:=L.lg _ _ ix;let I:=L.lg _ _ iy;let U:=L.cov _ _ _ _ ix iy;rw[E8 hx.1] at J U;rw[E8 hy.1] at I U;show{1,kp,C,dx,_,.ref la,0,k.ins,o.kT.cl,o.kT.nl,6,la,3,.ref ax,2,AD.of hl,Ac hx.1 gx,?_};show{1,kp,C,dx,_,.ref la,0,k.ins,o.kT.cl,o.kT.nl,6,la,3,.ref ay,2,AD.of hl,Ac hy.1 gy,?_};let{e,r,he,hev}:=J.zero G;let{f',r',hf,hfv}:=I.zero G;show{ax,ay,es,fs,e,f',r,r',0,lx,ly,J.hub,I.hub,he,hf,λlm H1 s1 hm=>q _ _ s1 ?_};rw[hev,hfv];let tr:=Jq G J I U hm;cases lm with
 | none=>show{λ_=>rfl,λ_=>rfl,λd _ hd=>absurd hd.1 (tr.1 d),λp z=>by cases z}
 | some c=>
  let hD:WM.IsD ts x y c.1:=tr.1;show{λe=>?_,λz=>absurd hD.1 (z _),λd ne hd=>?_,λp z=>?_}
  . change (if x=y then none else _)=none
    rw[if_pos e]
  . let{p,h1,h2}:=UL G J I U hm ne;show{p,h1,es,fs,some c,ix,iy,hm,h1}
  . by_cases ne:x=y
    . let z':(if x=y then none else _)=some p:=z
      rw[if_pos ne] at z';cases z'
    . let{p',h1,h2}:=UL G J I U hm ne;rw[h1] at z;cases z;show h2
def Qj:zl ["labels"] G5.p (defScope G5.s):=AK
def Ma (U:Ws P w K mg base PT C D):Fz P w K mg base 1 G5 Q8:=by
 show U.Tt.okZ Qj λ_ _ A _ _ H vs Q E hr h=>?_;let{l,ks,0,{as,hl,hal,hk},hkl,k}:=h;show{_,zX (zu (AZ (Uz rfl) U.mSum (zB (BB (own:=["label"]) (cn:=[]) (ci:=[]) rfl (Ai rfl rfl) trivial rfl (Bo (pv 0)) (λ_ _ _ _=>Ah) (λ_ _ _ _=>A8)
  (λ_ _ _ _=>AZ Rh U.mLen (zB (pv 0) zJ))) zJ))),?_}
 show{1,l,0,{_,AD.of hl},[],0,λD hD=>?_};show CH (a:=l) (xs:=as.map V.ref) (λi o J=>o=((ks.take i).map λk:Nat=>(k:Int)).map V.int/\J=upd H D (.lst o)) {2} (λi o J z=>?_) (λi o J z=>?_) (λi x o J I z=>?_) (λo J z=>?_)
 . let{1}:=z;show AD.of (by rwa[zg (zp hl hD)])
 . let{0,_}:=z;rw[zA,zA,zi];show BJ ()
 . let{2}:=z;obtain⟨a,ha,rfl⟩:∃a,as[i]?=some a/\V.ref a=x:=by
    rw[zK] at I;cases e:as[i]? with
    | none=>rw[e] at I;cases I
    | some a=>rw[e] at I;show{a,0,zT I}
   let{zs,e1,e2}:=hk i a ha;show{{2},?_};show A7 ?_;show{1,a,zs,0,.inr (AD.of (zG hD _ _ e1)),zF,?_,Bp};rw[ze,e2,zO,zO];rfl
 . let{2}:=z;rw[zA,hal,zR (zL _)];show{D,1,AA.of zF,k _ (zG hD)}
def QU:zl ["web","text","labels","fault"] Tu.p (defScope Tu.s):=AK
def PR (J:Ws P w K mg base PT C D):Fz P w K mg base 8 Tu Xf:=by
 show J.Ck.okZ QU λ_ _ A _ _ H vs Q E hr h=>?_;let{wa,n,ts,rk,I,0,W,LO,nF,KD,hlen,k}:=h;let{ta,tys,_,3,G}:=id W;let b1:=eY KD G.n1 G.n24;show{_,zN (AX (i:=2) QU.nd (AF (Q6 J) hr (zB (BE PySem.F.plainAttrs_str PySem.F.slot_str_split PySem.F.type_str_split Gi (pv 1) (zB AW zJ)) zJ)))
  (zN (gp (zX (Ca (AF (ir J) hr (zB (pv 0) (zB (pv 2) zJ))))) λ_ _ z=>z)
  (zX (zu AW))),?_}
 show{_,2,jn (A6 I),_,9,(),λl hl=>?_};let hh:(upd H l (.lst ((Txt.split (jn (A6 I)) (Str.ofString "; ")).map V.str))) l=some (.lst ((A6 I).map V.str)):=by rw[zF];unfold jn;rw[b1]
 let s1:=zG (o:=.lst ((Txt.split (jn (A6 I)) (Str.ofString "; ")).map V.str)) hl;show{l,n,I,0,hh,G.n1,G.n24,KD,λa H2 s2 L2=>?_};let U:=s1.trans s2;show{4,wa,a,n,ts,rk,I,0,{W.keep U,L2,LO,nF},λH' s'=>k H' (U.trans s')}
end
end K73
namespace K73
open PySem L2 WM
open DG
variable {P:Program}{w:World}{K:AG}{mg:Aj}{base:Heap}{PT:Addr}{X:Cx}
def Nx {l:List Int}{i:Nat}(h:(l.map V.int)[i]?=some v):∃x,l[i]?=some x/\V.int x=v:=by
 rw[zK] at h;cases e:l[i]? with
 | none=>rw[e] at h;cases h
 | some x=>rw[e] at h;show{x,0,zT h}
def et (a b):Txt.startswith (a++b) a=true:=by change (decide (0+a.length<=(a++b).length) && Builtin.Str.subAt (a++b) a 0)=true;rw[B0,zY (),Bool.true_and];change ((a++b).cps.extract 0 (0+a.length)==a.cps)=true;rw[beq_iff_eq];apply Array.toList_inj.mp;rw[Array.toList_extract,Str.cps_append,Array.toList_append];let:a.length=a.cps.toList.length:=Nq a;change ((a.cps.toList++b.cps.toList).drop 0).take (0+a.length-0)=a.cps.toList;rw[List.drop_zero,show 0+a.length-0=a.cps.toList.length by lia,List.take_left]
def gc (C:y.cps.toList≠[])(h:x.cps.toList.head?≠y.cps.toList.head?):Txt.startswith x y=false:=by
 cases e:Txt.startswith x y with
 | false=>rfl
 | true=>
  let e:(decide (0+y.length<=x.length) && Builtin.Str.subAt x y 0)=true:=e;rw[Bool.and_eq_true] at e;let I:(x.cps.extract 0 (0+y.length)==y.cps)=true:=e.2;rw[beq_iff_eq] at I;let o:=congrArg Array.toList I;rw[Array.toList_extract] at o;let o:(x.cps.toList.drop 0).take (0+y.length-0)=y.cps.toList:=o;rw[List.drop_zero,show 0+y.length-0=y.cps.toList.length by let:=Nq y;lia] at o;show absurd ?_ h;rw[<-o];cases U:x.cps.toList with
  | nil=>rw[U,List.take_nil] at o;show absurd o.symm C
  | cons c r=>
   cases J:y.cps.toList with
   | nil=>show absurd J C
   | cons d q=>rfl
def hU (a b):Txt.slice (a++b) (some (a.length:Int)) none=b:=by let o:=B0 a b;rw[PyProof.Rows.slice_from_eq (b:=((a++b).length:Int)) () () rfl];apply Gg;change ((a++b).cps.toList.drop _).take _=b.cps.toList;let I:=Nq a;let C:=Nq b;rw[Str.cps_append,Array.toList_append,show ((a.length:Nat):Int).toNat=a.cps.toList.length by lia,List.drop_left,zR ()]
meta def Gx (ps:List Int):Str:=match ps with
 | []=>Str.ofString "-"
 | p::r=>Txt.join Av ((p::r).map sN)
def IW:zl ["places"] FQ.p (defScope FQ.s):=AK
def QH:Sp:=λC H Q _=>∃l o,C=[.ref l]/\H l=some (.lst (o.map V.int))/\(∀p∈o,0<=p/\p<24)/\o.length<=24/\∀H',AE H H'->Q (.str (Gx o)) H'
def MG (wz:Ws P w K mg base PT C D):Fz P w K mg base 1 FQ QH:=by
 show wz.Pll.okZ IW λ_ _ A _ _ H vs Q E hr h=>?_;let{l,ps,0,U,rg,hn,k}:=h;show{_,zX (zu (GV (My (pv 0) (λ_=>rfl)) (BE PySem.F.plainAttrs_str PySem.F.slot_str_join PySem.F.type_str_join FE AW (zB (BB (own:=GI) (cn:=[]) (ci:=[]) rfl (Ai rfl rfl) trivial rfl (CQ (pv 0)) (λ_ _ _ _=>Ah) (λ_ _ _ _=>A8) (λ_ _ _ _=>Aq C3 wz.mStr (zB (pv 0) zJ))) zJ)) AW)),?_};show{1,!(ps.map V.int).isEmpty,.inl {_,AA.of U,0},?_};cases ps with
 | nil=>show Ao (k H (AE.refl _))
 | cons J pr=>
  show CB ?_;show{6,l,0,{_,AA.of U},[],0,λD hD=>?_};show DJ (a:=l) (xs:=(J::pr).map V.int) (λi o I=>o=((J::pr).take i).map (λp=>V.str (sN p))/\I=upd H D (.lst o)) {2} (λi o I z=>?_) (λi o I z=>?_) (λi v o I hv z=>?_) (λo I z=>?_)
  . let{1}:=z;show AA.of (zG hD _ _ U)
  . let{0,_}:=z;rw[zA,zi];show Bm ()
  . let{2}:=z;let{x,hx,0}:=Nx hv;let xr:=rg x (zQ hx);show{{2},A7 {1,x,0,(),zF,?_,Bp}};rw[ze,hx,zO];rfl
  . let{2}:=z;rw[zA,zR (zL _)];show{_,D,(J::pr).map sN,2,AA.of (by rw[zF,DY];rfl),by decide,?_,k _ (zG hD)};rw[GO];let:=D8 (b:=20) (ws:=(J::pr).map sN) λy hy=>by let{p,hp,0}:=zy.mp hy;let:=rg p hp;show Dk () ()
    rw[zA] at this
    lia
def IL:Sp:=λC H Q _=>∃l o,C=[.ref l]/\H l=some (.tup (o.map V.int))/\(∀p∈o,0<=p/\p<24)/\o.length<=24/\∀H',AE H H'->Q (.str (Gx o)) H'
def Yq (wz:Ws P w K mg base PT C D):Fz P w K mg base 1 FQ IL:=by
 show wz.Pll.okZ IW λ_ _ A _ _ H vs Q E hr h=>?_;let{l,ps,0,U,rg,hn,k}:=h;show{_,zX (zu (GV (My (pv 0) (λ_=>rfl)) (BE PySem.F.plainAttrs_str PySem.F.slot_str_join PySem.F.type_str_join FE AW (zB (BB (own:=GI) (cn:=[]) (ci:=[]) rfl (Ai rfl rfl) trivial rfl (Bo (pv 0)) (λ_ _ _ _=>Ah) (λ_ _ _ _=>A8) (λ_ _ _ _=>Aq C3 wz.mStr (zB (pv 0) zJ))) zJ)) AW)),?_};show{1,!(ps.map V.int).isEmpty,.inr <| .inl {_,AD.of U,0},?_};cases ps with
 | nil=>show Ao (k H (AE.refl _))
 | cons J pr=>
  show CB ?_;show{6,l,0,{_,AD.of U},[],0,λD hD=>?_};show CH (a:=l) (xs:=(J::pr).map V.int) (λi o I=>o=((J::pr).take i).map (λp=>V.str (sN p))/\I=upd H D (.lst o)) {2} (λi o I z=>?_) (λi o I z=>?_) (λi v o I hv z=>?_) (λo I z=>?_)
  . let{1}:=z;show AD.of (zG hD _ _ U)
  . let{0,_}:=z;rw[zA,zi];show Bm ()
  . let{2}:=z;let{x,hx,0}:=Nx hv;let xr:=rg x (zQ hx);show{{2},A7 {1,x,0,(),zF,?_,Bp}};rw[ze,hx,zO];rfl
  . let{2}:=z;rw[zA,zR (zL _)];show{_,D,(J::pr).map sN,2,AA.of (by rw[zF,DY];rfl),by decide,?_,k _ (zG hD)};rw[GO];let:=D8 (b:=20) (ws:=(J::pr).map sN) λy hy=>by let{p,hp,0}:=zy.mp hy;let:=rg p hp;show Dk () ()
    rw[zA] at this
    lia
def Ui (z:Str)(ns:List Int):Prop:=(z="order"/\0<ns.length)\/(∃a b l,z="put"/\ns=[a,b,l]/\1<=l/\l<=99)\/(z ≠ "order"/\z ≠ "put"/\∃m:Nat,Ar J3 (.inr z)=some (.int m)/\ns.length=m)
def Kc:Sp:=λo H Q _=>∃z l ns,o=[.str z,.ref l]/\H l=some (.lst (ns.map V.int))/\Ui z ns/\Q (.bl true) H
def K6:zl ["word","numbers"] Sq.p (defScope Sq.s):=AK
def fZ (o:Ws P w K mg base PT C D):Fz P w K mg base 4 Sq Kc:=by
 let{ca,J,D}:=o.mCt;show o.Ir.okZ K6 λ_ _ A _ _ H vs Q E hr h=>?_;let{z,l,ns,0,I,ok,k}:=h;show{_,zN (AU (zt Am (pv 0) AW (zw _)) (zX (zu (BS Jl (AZ CD o.mLen (zB (pv 1) zJ)) zb (zw _)))) AV)
  (zN (AU (zt Cb (AZ CD o.mLen (zB (pv 1) zJ)) (eJ rfl J D (pv 0) {0,9}) (zw _)) BH AV)
  (zX (zu (IM (BS Cb (pv 0) AW (zw _)) (Du (AF (cT o) hr (zB (zm zx (pv 1) zb) zJ))))))),?_}
 rcases ok with ⟨rfl,hm⟩ | ⟨a,b,g,rfl,rfl,g1,g2⟩ | ⟨n1,U,m',hv,hm⟩
 . show{8,BG (by decide +kernel) ?_};show{1,l,1,.inl (AA.of I),5,?_};dsimp only;rwa[zA,zY ()]
 . show{8,AL (by decide +kernel) ?_};show{1,l,1,.inl (AA.of I),1,.inr "put",0,6,AL (by change (!decide (V.int (3:Nat)=(Ar J3 (.inr (Str.ofString "put"))).getD V.non))=false;decide +kernel) ?_};show{_,2,false,by decide +kernel,Ao {1,l,3,.int g,2,AA.of I,0,g,0,g1,g2,k}}
 . show{8,AL (za (λe=>n1 (V.str.inj e))) ?_};show{1,l,1,.inl (AA.of I),1,.inr z,0,?_};rw[hv];show{6,AL (by rw[zA,hm];simp) ?_};show{_,2,true,by rw[za (λe=>U (V.str.inj e))];rfl,CB k}
def Q7:Sp:=λo H Q _=>∃l z ns,o=[.ref l]/\H l=some (.lst ((z::ns.map sN).map V.str))/\(∀k∈ns,0<=k/\k<=9999)/\Ui z ns/\ns.length<=100/\∀q H',AE H H'->H' q=some (.lst (ns.map V.int))->Q (.ref q) H'
def bz:∀ns:List Int,UC .non (ns.map V.int)=false
 | []=>rfl
 | _::ns=>bz ns
def JJ:zl ["words","numbers"] HE.p (defScope HE.s):=AK
def LI (wz:Ws P w K mg base PT C D):Fz P w K mg base 5 HE Q7:=by
 let{tk,mMo}:=wz.mMo;show wz.Nb2.okZ JJ λ_ _ A _ _ H vs Q E hr h=>?_;let{l,z,ns,0,hl,rg,ok,n100,k}:=h;show{_,zN (DZ (i:=1) (own:=["word"]) (cn:=[]) (ci:=[]) JJ.nd rfl (Or.inl rfl) rfl (Ai rfl rfl) trivial rfl (CQ (Dz Jo (pv 0) (Di zb) Ek)) (λ_ _ _ _=>Ah) (λ_ _ _ _=>A8)
  (λ_ _ _ _=>AF (Mt wz) hr (zB (pv 0) (zB zb (zB (EV (v:=.int 9999) rfl mMo {tk,0}) zJ)))))
  (zN (AU (PW.pt (Cs (zt hJ Ax (pv 1) (by with_unfolding_all rfl)) (DO (CM (BR (AF (fZ wz) hr (zB (zm zx (pv 0) zb) (zB (pv 1) zJ)))))))) BH AV)
  (zX (zu (pv 1)))),?_}
 show⟨_,rfl,1,rfl,l,_,rfl,AA.of hl,λq hq=>?_⟩;let e1:BV ((z::ns.map sN).map V.str) (some 1) none=(ns.map sN).map V.str:=Ry _ 1;rw[e1];let s1:=zG (o:=.lst ((ns.map sN).map V.str)) hq;let I:(upd H q (.lst ((ns.map sN).map V.str))) q=some (.lst ((ns.map sN).map V.str)):=zF;generalize upd H q (.lst ((ns.map sN).map V.str))=H1 at s1 I ⊢;show{q,0,{_,AA.of I},[],0,λD hD=>?_};show DJ (a:=q) (xs:=(ns.map sN).map V.str) (λi U J=>U=(ns.take i).map V.int/\AE H1 J/\J D=some (.lst U)) {0,zG hD,zF} (λi U J z=>?_) (λi U J z=>?_) (λi v U J hv z=>?_) (λU J z=>?_)
 . show AA.of (z.2.1 _ _ I)
 . rw[z.1,zA,zi];show Bm ()
 . let{0,s4,h4}:=z;obtain⟨x,hx,rfl⟩:∃x,ns[i]?=some x/\V.str (sN x)=v:=by
    rw[zK,zK] at hv;cases e:ns[i]? with
    | none=>rw[e] at hv;cases hv
    | some x=>rw[e] at hv;show{x,0,zT hv}
   let xr:=rg x (zQ hx);show{{2},A7 ⟨_,rfl,x,0,9999,rfl,by decide,xr.1,xr.2,by decide,λH5 s5=>?_⟩};show{s5 _ _ h4,?_,A4 (s4.trans s5) hD,zF};rw[ze,hx,zO];rfl
 . let{0,s4,h4}:=z;rw[zA,zA,zR (zL _)] at h4;let nX:=s1.trans s4;show{1,D,1,.inl (AA.of h4),0,YK _,1,?_};change (if UC .non (ns.map V.int)=true then _ else _)
   rw[bz];show Ao ?_;show{1,l,3,.str z,2,AA.of (nX _ _ hl),Ac (by decide) rfl,1,z,D,1,h4,ok,1,Ao {1,k D J nX h4}}
end K73
namespace K73
open PySem L2 WM
open DG
variable {P:Program}{w:World}{K:AG}{mg:Aj}{base:Heap}{PT:Addr}{X:Cx}
def Ue (zs):Txt.join (Str.ofString "; ") zs=jn zs:=StrLaws.glued_eq_join _ _
def Iv:∀zs:List Str,(jn zs).length<=EF zs+zs.length
 | []=>zd _
 | [w]=>by rw[JR];change w.length<=w.length+1+_+_;lia
 | w::x::ws=>by
  let o:=Iv (x::ws);let e:jn (w::x::ws)=w++Str.ofString "; " ++ jn (x::ws):=rfl;rw[e,JR,B0,B0,show (Str.ofString "; ").length=2 from by decide];rw[zj]
  lia
def Z4 (U:DB n ts):EF (DW n ts)<=6000/\(DW n ts).length<=61:=by
 let I:=D8 (Kb U);let C:(DW n ts).length=ts.length+1:=by unfold DW;rw[zj,zA]
 let o:=U.le;constructor
 . let:85*(DW n ts).length<=85*61:=Nat.mul_le_mul_left _ ()
   lia
 . lia
def cM (K:GN n ess)(h:n<=24):EF (A6 ess)<=60000/\(A6 ess).length<=24:=by
 let C:=K.ln;let I:(A6 ess).length=ess.length:=by unfold A6;rw[zA]
 let J:=D8 (b:=2060) (ws:=A6 ess) λy o=>by let{es,he,0}:=zy.mp o;show (IF (K.esb h es he)).1
 constructor
 . let:2061*(A6 ess).length<=2061*24:=Nat.mul_le_mul_left _ ()
   lia
 . lia
def Zv (K:GN n ess)(h:n<=24):(jn (A6 ess)).length<=100000/\(Str.ofString "check " ++ jn (A6 ess)).length<=sizeLine:=by
 let I:=Iv (A6 ess);let{C,o}:=cM K h;rw[B0,show (Str.ofString "check ").length=6 from by decide];let:10000000<=sizeLine:=by decide
 lia
def Af.r (W:Af H wa n ts):O4 H wa n ts:=by let{ta,tys,I,C,o,_}:=W;show⟨ta,tys,I,C,o⟩
def BP.kd {os:List Int}(k:BP H C kp dx la wa oa n ts os ess):GN n ess:=by let{ta,tys,_,3,G}:=k.web;let{I,_,o}:=k.lof;show jt G o k.bd
def ak :∀p∈CA n a b,0<=p/\p<n:=λp o=>by
 let:=Nm.mp (CZ.mp o).1
 lia
def Uo :(CA n a b).length<=n:=by unfold CA;show zn (C7 _ _) ?_;rw[Ht];show zL _
def SH.sm (h:SH ts ess x y o)(G:GW n ts)(L:Hr ts n ess)(r:(0<=x/\x<n)/\(0<=y/\y<n)):GG o:=λp e=>by
 let{l,b,I,_}:=h.2.2.2 p e;let C:=G.n24;let:=G.adj I
 lia
def ZL (K:GN n ess)(h:n<=24):(((ess.map List.length).map λk:Nat=>(k:Int)).sum).natAbs<1000000000:=by
 let key:∀es:List (List En),(∀e∈es,e.length<=24)->0<=((es.map List.length).map λk:Nat=>(k:Int)).sum/\((es.map List.length).map λk:Nat=>(k:Int)).sum<=24*es.length:=by
  intro es
  induction es with
  | nil=>intro _;show{C1 0,C1 0}
  | cons a r C=>
   intro o;let J:=C λe he=>o e (zr _ he);let I:=o a zo;simp only[Bg,List.sum_cons,zj]
   lia
 let:=key ess λe he=>by let:=(K.kd e he).len;lia
 let:=K.ln
 lia
def NI.len (h:NI ts n ess x y ps):ps.length<=24:=by
 rcases h with ⟨rfl,_⟩ | ⟨_,_,_,_,_,h,_⟩
 . show zd _
 . show h
def NI.rng (h:NI ts n ess x y ps)(C:n<=24):∀p∈ps,0<=p/\p<24:=λp o=>by
 rcases h with ⟨rfl,_⟩ | ⟨_,_,_,_,I,_⟩
 . cases o
 . let:=I.fa p o
   lia
def R2 (n x y:Int):Prop:=(0<=x/\x<n)/\(0<=y/\y<n)
def KQ (C PT kp dx U:Addr)(n x y:Int)(lo:Option Int)(ts:List T3)(os:List Int)(ess:List (List En))(H:Hp)(Q:VK):Prop:=
 ∀kq J o I H',Az kp H H'->Tb H' PT->BP H' C kp dx kq J U n o os I->Cw (AO x y) (AN x y) lo ts o->Q (.str (Gx (CA n.toNat ess I))) H'
def Eh (C PT kp dx J:Addr)(n:Int)(ts:List T3)(os:List Int)(ess:List (List En))(z:Str)(ns:List Int)(H:Hp)(Q:VK):Prop:=
 (∃x y l,z="put"/\ns=[x,y,l]/\R2 n x y/\x≠y/\(1<=l/\l<=99)/\ts.length<60/\KQ C PT kp dx J n x y (some l) ts os ess H Q) \/
 (∃x y,z="strike"/\ns=[x,y]/\R2 n x y/\x≠y/\(E6 (AO x y) (AN x y) ts).isSome=true/\ts.length<60/\KQ C PT kp dx J n x y none ts os ess H Q) \/
 (∃x y,z="told"/\ns=[x,y]/\R2 n x y/\∀o H',A9 ts x y o->AE H H'->Q (.str (oT o)) H') \/
 (∃x y,z="step"/\ns=[x,y]/\R2 n x y/\∀o H',SH ts ess x y o->AE H H'->Q (.str (oT o)) H') \/
 (∃x y,z="walk"/\ns=[x,y]/\R2 n x y/\∀I H',NI ts n ess x y I->AE H H'->Q (.str (Gx I)) H') \/
 (∃k es,z="label"/\ns=[k]/\(0<=k/\k<n)/\ess[k.toNat]?=some es/\∀H',AE H H'->Q (.str (lW es)) H') \/
 (z="total"/\ns=[]/\∀H',AE H H'->Q (.str (sN (((ess.map List.length).map λk:Nat=>(k:Int)).sum))) H') \/
 (z="web"/\ns=[]/\∀H',AE H H'->Q (.str (jn (DW n ts))) H')
def Eh.ns {os:List Int}{ns:List Int}(h:Eh C PT kp dx oa n ts os ess z ns H Q):(∀k∈ns.take 2,0<=k/\k<n)/\BV (ns.map V.int) none (some 2)=(ns.take 2).map V.int/\ns.length<=3:=by
 let two:∀{x y:Int},R2 n x y->∀k∈[x,y],0<=k/\k<n:=λr k hk=>by
  rcases zZ.mp hk with rfl | hk
  . show r.1
  . rw[zf.mp hk];show r.2
 rcases h with ⟨x,y,l,_,rfl,r,_⟩ | ⟨x,y,_,rfl,r,_⟩ | ⟨x,y,_,rfl,r,_⟩ | ⟨x,y,_,rfl,r,_⟩ | ⟨x,y,_,rfl,r,_⟩ | ⟨k,es,_,rfl,r,_⟩ | ⟨_,rfl,_⟩ | ⟨_,rfl,_⟩
 . show{two r,0,zL 3}
 . show{two r,0,BZ 2}
 . show{two r,0,BZ 2}
 . show{two r,0,BZ 2}
 . show{two r,0,BZ 2}
 . show{λx o=>by rwa[zf.mp o],0,by change 1<=3;decide}
 . show{(λx o=>by cases o),0,by change 0<=3;decide}
 . show{(λx o=>by cases o),0,by change 0<=3;decide}
inductive cU (C:Addr)(PT:Addr)(vs:List V)(H:Hp)(Q:VK):Prop
 | mk:∀(kp dx la wa oa l:Addr)(n:Int)(ts:List T3)(os:List Int)(ess:List (List En))(z:Str)(ns:List Int),(vs=[.ref kp,.str z,.ref l])->(BP H C kp dx la wa oa n ts os ess)->(DB n ts)->(H l=some (.lst (ns.map V.int)))->(Tb H PT)->(Eh C PT kp dx oa n ts os ess z ns H Q)->cU C PT vs H Q
def P2 (C PT:Addr):Sp:=λo H Q _=>cU C PT o H Q
def KQ.same {os:List Int}(k:KQ C PT kp dx oa n x y lo ts os ess H Q)(s:AE H H2):∀pa U J I o H',Az kp H2 H'->Tb H' PT->BP H' C kp dx U J oa n I os o->Cw (AO x y) (AN x y) lo ts I->n<=24->H' pa=some (.tup ((CA n.toNat ess o).map V.int))->IL [.ref pa] H' Q E0:=
 λpa U J I o H' sm T K A n24 lZ=>{pa,1,lZ,λp hp=>by let:=ak p hp;lia,by let:=Uo (n:=n.toNat) (a:=ess) (b:=o);lia,λH4 s4=>k U J I o H4 (((Az.of s).trans sm).trans (Az.of s4)) (T.same s4) (K.same s4) A}
section
variable {P:Program}{w:World}{K:AG}{mg:Aj}{base:Heap}{C fI fP fS fT fW fL fN fU PT:Addr}
def Ox:zl ["keeper","word","numbers"] HY.p (defScope HY.s):=AK
def LQ (J:Ws P w K mg base PT C D):Fz P w K mg base 8 HY (P2 C PT):=by
 show J.An.okZ Ox λ_ _ A _ _ H vs Q E hr h=>?_;let{kp,dx,la,wa,oa,l,n,ts,os,I,z,ns,0,KA,U,hl,TT,an}:=h;show{_,zN (AU (CM (BR (AZ (JX rfl) J.mAll (zB (BB (own:=["number"]) (cn:=["keeper"]) (ci:=[0]) rfl (Ai rfl rfl) {9,trivial} rfl (CQ (Dz Jo (pv 2) Ek (Di zb))) (λ_ _ _ _=>Ah) (λ_ _ _ _=>A8)
  (λ_ _ _ _=>AF (Jb J) hr (zB (zm DL (Jf (pv 1) (SI J) hr) zb) (zB (pv 0) zJ)))) zJ)))) BH AV)
  (zN (AU (zt Am (pv 1) AW (zw _)) (zX (zu (AF (Yq J) hr (zB (C6 (pv 0) (O6 J) hr (zB (zm zx (pv 2) zb) (zB (zm zx (pv 2) zb) (zB (zm zx (pv 2) zb) zJ)))) zJ)))) AV)
  (zN (AU (zt Am (pv 1) AW (zw _)) (zX (zu (AF (Yq J) hr (zB (C6 (pv 0) (Q2 J) hr (zB (zm zx (pv 2) zb) (zB (zm zx (pv 2) zb) zJ))) zJ)))) AV)
  (zN (AU (zt Am (pv 1) AW (zw _)) (zX (zu (AF (U4 J) hr (zB (C6 (pv 0) (P1 J) hr (zB (zm zx (pv 2) zb) (zB (zm zx (pv 2) zb) zJ))) zJ)))) AV)
  (zN (AU (zt Am (pv 1) AW (zw _)) (zX (zu (AF (U4 J) hr (zB (C6 (pv 0) (Oo J) hr (zB (zm zx (pv 2) zb) (zB (zm zx (pv 2) zb) zJ))) zJ)))) AV)
  (zN (AU (zt Am (pv 1) AW (zw _)) (zX (zu (AF (MG J) hr (zB (AF (j4 J) hr (zB (Jf (pv 0) (VC J) hr) (zB (zm zx (pv 2) zb) (zB (zm zx (pv 2) zb) zJ)))) zJ)))) AV)
  (zN (AU (zt Am (pv 1) AW (zw _)) (zX (zu (AF (RK J) hr (zB (zm AM (Jf (pv 0) (VC J) hr) (zm zx (pv 2) zb)) zJ)))) AV)
  (zN (AU (zt Am (pv 1) AW (zw _)) (zX (zu (Aq C3 J.mStr (zB (AF (Ma J) hr (zB (Jf (pv 0) (VC J) hr) zJ)) zJ)))) AV)
  (zX (zu (BE PySem.F.plainAttrs_str PySem.F.slot_str_join PySem.F.type_str_join FE AW (zB (AF (U6 J) hr (zB (Jf (pv 0) (SI J) hr) zJ)) zJ))))))))))),?_}
 let{rg,ct,nl}:=an.ns;let{ta,tys,kc,3,G}:=id KA.web;let{_,nF}:=KA.gd;let n24:=G.n24;show⟨_,rfl,2,rfl,l,_,rfl,AA.of hl,λq hq=>?_⟩;rw[ct];let s1:=zG (o:=.lst ((ns.take 2).map V.int)) hq;let hq1:(upd H q (.lst ((ns.take 2).map V.int))) q=some (.lst ((ns.take 2).map V.int)):=zF;generalize upd H q (.lst ((ns.take 2).map V.int))=H1 at s1 hq1 ⊢;show{q,0,{_,AA.of hq1},[.ref kp],0,λD hD=>?_};let n2:(ns.take 2).length<=2:=List.length_take_le _ _;show DJ (a:=q) (xs:=(ns.take 2).map V.int) (λi ys H4=>i<=(ns.take 2).length/\ys=(List.replicate i true).map V.bl/\H4=upd H1 D (.lst ys)) {zd _,2} (λi ys H4 z=>?_) (λi ys H4 z=>?_) (λi v ys H4 hv z=>?_) (λys H4 z=>?_)
 . let{7}:=z;show AA.of (zG hD _ _ hq1)
 . let{hi,0,_}:=z;rw[zA,Cq];show Bm ()
 . let{_,2}:=z;let{x,hx,0}:=Nx hv;let xr:=rg x (zQ hx);let nu:=s1.trans (zG (o:=.lst ((List.replicate i true).map V.bl)) hD);show{{2},A7 {1,kp,dx,1,nu _ _ KA.ins,0,kp,dx,la,wa,oa,n,ts,os,I,0,KA.same nu,wa,3,.int n,2,AD.of (nu _ _ kc),6,n,x,0,xr.1,(),zF,(zH.mp hx).1,?_,Bp}};rw[JY,zO];rfl
 let{_,2}:=z;let s2:=s1.trans (zG (o:=.lst ((List.replicate ((ns.take 2).map V.int).length true).map V.bl)) hD);show{D,1,AA.of zF,1,?_};rw[aU];show Ao ?_;generalize upd H1 D (.lst ((List.replicate ((ns.take 2).map V.int).length true).map V.bl))=H2 at s2 ⊢;let K2:=KA.same s2;let kY:=s2 _ _ hl;rcases an with ⟨x,y,g,rfl,rfl,r,ne,hg,nS,k⟩ | ⟨x,y,rfl,rfl,r,ne,hs,nS,k⟩ | ⟨x,y,rfl,rfl,r,k⟩ | ⟨x,y,rfl,rfl,r,k⟩ | ⟨x,y,rfl,rfl,r,k⟩ | ⟨k0,es,rfl,rfl,r,he,k⟩ | ⟨rfl,rfl,k⟩ | ⟨rfl,rfl,k⟩
 . show{8,BG (by decide +kernel) ?_};show{1,kp,dx,1,K2.ins,6,l,3,.int x,2,AA.of kY,6,l,3,.int y,2,AA.of kY,6,l,3,.int g,2,AA.of kY,0,kp,dx,la,wa,oa,n,x,y,g,ts,os,I,0,K2,r.1,r.2,ne,hg,.inr nS,(),TT.same s2,λpa kq wb ko kU H3 sm3 T3 K3 A3 lZ=>k.same s2 pa kq wb ko kU H3 sm3 T3 K3 A3 n24 lZ}
 . show{8,AL (by decide +kernel) {8,BG (by decide +kernel) ?_}};show{1,kp,dx,1,K2.ins,6,l,3,.int x,2,AA.of kY,6,l,3,.int y,2,AA.of kY,0,kp,dx,la,wa,oa,n,x,y,ts,os,I,0,K2,r.1,r.2,ne,hs,(),TT.same s2,λpa kq wb ko kU H3 sm3 T3 K3 A3 lZ=>k.same s2 pa kq wb ko kU H3 sm3 T3 K3 A3 n24 lZ}
 . show{8,AL (by decide +kernel) {8,AL (by decide +kernel) {8,BG (by decide +kernel) ?_}}};show{1,kp,dx,1,K2.ins,6,l,3,.int x,2,AA.of kY,6,l,3,.int y,2,AA.of kY,0,kp,dx,la,wa,oa,n,x,y,ts,os,I,0,K2,r.1,r.2,λo H3 s3 ho=>{o,0,λd e=>by subst e;show OR G x y r.1.1 r.1.2 d ho,k o H3 ho (s2.trans s3)}}
 . show{8,AL (by decide +kernel) {8,AL (by decide +kernel) {8,AL (by decide +kernel) {8,BG (by decide +kernel) ?_}}}};show{1,kp,dx,1,K2.ins,6,l,3,.int x,2,AA.of kY,6,l,3,.int y,2,AA.of kY,0,kp,dx,la,wa,oa,n,x,y,ts,os,I,0,K2,r.1,r.2,λo H3 s3 ho=>{o,0,ho.sm G nF r,k o H3 ho (s2.trans s3)}}
 . show{8,AL (by decide +kernel) {8,AL (by decide +kernel) {8,AL (by decide +kernel) {8,AL (by decide +kernel) {8,BG (by decide +kernel) ?_}}}}};show{1,kp,dx,1,K2.ins,0,kp,dx,la,wa,oa,n,ts,os,I,0,K2,1,l,3,.int x,2,AA.of kY,6,l,3,.int y,2,AA.of kY,0,la,n,ts,I,x,y,0,G,K2.lab,nF,r.1.1,r.1.2,r.2.1,r.2.2,λlp ps H3 s3 _ hlp wk=>{lp,ps,0,hlp,wk.rng n24,wk.len,λH4 s4=>k ps H4 wk (s2.trans (s3.trans s4))}}
 . show{8,AL (by decide +kernel) {8,AL (by decide +kernel) {8,AL (by decide +kernel) {8,AL (by decide +kernel) {8,AL (by decide +kernel) {8,BG (by decide +kernel) ?_}}}}}};let hk:k0.toNat<I.length:=(zH.mp he).1;let{as,p,x1,y1,y2}:=K2.lab.at_ hk;rw[zE,he] at y2;show{1,kp,dx,1,K2.ins,0,kp,dx,la,wa,oa,n,ts,os,I,0,K2,1,l,3,.int k0,2,AA.of kY,0,la,3,.ref p,2,AD.of x1,Ac r.1 y1,p,n,es,0,y2,K2.kd.esb n24 es (zQ he),λH3 s3=>k H3 (s2.trans s3)}
 . show{8,AL (by decide +kernel) {8,AL (by decide +kernel) {8,AL (by decide +kernel) {8,AL (by decide +kernel) {8,AL (by decide +kernel) {8,AL (by decide +kernel) {8,BG (by decide +kernel) ?_}}}}}}};let ln:=nF.ln;show{1,kp,dx,1,K2.ins,0,kp,dx,la,wa,oa,n,ts,os,I,0,K2,la,I.map List.length,0,K2.lab.tlen,by rw[zA];lia,λH3 s3=>{1,ZL K2.kd n24,k H3 (s2.trans s3)}}
 . show{8,AL (by decide +kernel) {8,AL (by decide +kernel) {8,AL (by decide +kernel) {8,AL (by decide +kernel) {8,AL (by decide +kernel) {8,AL (by decide +kernel) {8,AL (by decide +kernel) ?_}}}}}}};let{t1,t2}:=Z4 U;show{6,kp,dx,1,K2.ins,0,kp,dx,la,wa,oa,n,ts,os,I,0,K2,wa,n,ts,0,K2.web.r,U.smW,λl3 H3 s3 hl3=>{_,l3,DW n ts,2,AA.of hl3,by decide,by rw[GO];lia,?_}};rw[Ue];show k H3 (s2.trans s3)
end
end K73
namespace K73
open PySem L2 WM
open DG
variable {P:Program}{w:World}{K:AG}{mg:Aj}{base:Heap}{PT:Addr}{X:Cx}
meta def Ik (kp:Addr):List (Str×V):=[("keeper",.ref kp)]
def Az.made (s:AE H H3)(f:H kp=none)(k:Az kp H3 H4):Az dk H H4:=λb o _ e=>k b o (λz=>by rw[z,f] at e;cases e) (s b o e)
def Wy (a b):BQ "keeper" (.ref b) (Ik a)=Ik b:=by unfold Ik BQ;rw[if_pos rfl]
def Ve {w:Str}(h:w.cps.toList.head?=some c):∀ws:List Str,(Str.join sep (w::ws)).cps.toList.head?=some c
 | []=>h
 | x::ws=>by
  change (w++sep++Str.join sep (x::ws)).cps.toList.head?=some c;cases e:w.cps.toList with
  | nil=>rw[e] at h;cases h
  | cons a r=>rw[e] at h;simp only[Str.cps_append,Array.toList_append,e,List.cons_append];show h
def ZC (h:z.cps.toList.head?=some c)(o:c≠99)(ns:List Int):Txt.startswith (Str.join Av (z::ns.map sN)) (Str.ofString "check ")=false:=by show gc (by decide) ?_;rw[Ve h,show (Str.ofString "check ").cps.toList.head?=some 99 from by decide];intro e;show o (zT e)
def Zz (o:32∉z.cps.toList){ns:List Int}(h:∀k∈ns,0<=k):Txt.split (Str.join Av (z::ns.map sN)) (Str.ofString " ")=z::ns.map sN:=by
 show SW (by simp) λw hw=>?_;rcases zZ.mp hw with rfl | hw
 . show o
 . let{k,C,0}:=zy.mp hw;show Nv (h k C)
def RV (o:z.length<=20){ns:List Int}(h:∀k∈ns,0<=k/\k<=99)(I:ns.length<=24):(Str.join Av (z::ns.map sN)).length<=1000000:=by
 show zn (NA (by decide) _) (zn (D8 (b:=20) λw hw=>?_) ?_)
 . rcases zZ.mp hw with rfl | hw
   . show o
   . let{k,C,0}:=zy.mp hw;let:=h k C;show Dk () ()
 . rw[zj,zA]
   lia
def Eh.same {os:List Int}{ns:List Int}(h:Eh C PT kp dx oa n ts os ess z ns H Q)(s:AE H H2):Eh C PT kp dx oa n ts os ess z ns H2 Q:=by
 rcases h with ⟨x,y,l,a,b,r,ne,hg,h6,k⟩ | ⟨x,y,a,b,r,ne,hs,h6,k⟩ | ⟨x,y,a,b,r,k⟩ | ⟨x,y,a,b,r,k⟩ | ⟨x,y,a,b,r,k⟩ | ⟨k0,es,a,b,r,he,k⟩ | ⟨a,b,k⟩ | ⟨a,b,k⟩
 . show .inl {x,y,l,a,b,r,ne,hg,h6,λkq U ko kU H' sm=>k kq U ko kU H' ((Az.of s).trans sm)}
 . show .inr <| .inl {x,y,a,b,r,ne,hs,h6,λkq U ko kU H' sm=>k kq U ko kU H' ((Az.of s).trans sm)}
 . show .inr <| .inr <| .inl {x,y,a,b,r,λo H' J I=>k o H' J (s.trans I)}
 . show .inr <| .inr <| .inr <| .inl {x,y,a,b,r,λo H' J I=>k o H' J (s.trans I)}
 . show .inr <| .inr <| .inr <| .inr <| .inl {x,y,a,b,r,λo H' J I=>k o H' J (s.trans I)}
 . show .inr <| .inr <| .inr <| .inr <| .inr <| .inl {k0,es,a,b,r,he,λH' I=>k H' (s.trans I)}
 . show .inr <| .inr <| .inr <| .inr <| .inr <| .inr <| .inl {a,b,λH' I=>k H' (s.trans I)}
 . show .inr <| .inr <| .inr <| .inr <| .inr <| .inr <| .inr {a,b,λH' I=>k H' (s.trans I)}
def Eh.z {os:List Int}{z:Str}{ns:List Int}(h:Eh C PT kp dx oa n ts os ess z ns H Q)(J:n<=24):(∃c,z.cps.toList.head?=some c/\c≠99)/\32∉z.cps.toList/\Ui z ns/\z.length<=20/\z ≠ "order"/\ns.length<=3/\∀k∈ns,0<=k/\k<=99:=by
 let two:∀{x y:Int},R2 n x y->∀k∈[x,y],0<=k/\k<=99:=λr k hk=>by
  let h1:=r.1;let U:=r.2;rcases zZ.mp hk with rfl | hk
  . lia
  . rw[zf.mp hk];lia
 rcases h with ⟨x,y,l,rfl,rfl,r,_,I,_⟩ | ⟨x,y,rfl,rfl,r,_⟩ | ⟨x,y,rfl,rfl,r,_⟩ | ⟨x,y,rfl,rfl,r,_⟩ | ⟨x,y,rfl,rfl,r,_⟩ | ⟨k,es,rfl,rfl,r,_⟩ | ⟨rfl,rfl,_⟩ | ⟨rfl,rfl,_⟩
 . show{⟨112,by decide,by decide⟩,by decide,.inr (.inl {x,y,l,2,I.1,I.2}),by decide,by decide,zL 3,λk hk=>?_};rcases zZ.mp hk with rfl | hk
   . let:=r.1;lia
   . rcases zZ.mp hk with rfl | hk
     . let:=r.2;lia
     . rw[zf.mp hk];lia
 . show{⟨115,by decide,by decide⟩,by decide,.inr (.inr ⟨by decide,by decide,2,by decide +kernel,rfl⟩),by decide,by decide,BZ 2,two r}
 . show{⟨116,by decide,by decide⟩,by decide,.inr (.inr ⟨by decide,by decide,2,by decide +kernel,rfl⟩),by decide,by decide,BZ 2,two r}
 . show{⟨115,by decide,by decide⟩,by decide,.inr (.inr ⟨by decide,by decide,2,by decide +kernel,rfl⟩),by decide,by decide,BZ 2,two r}
 . show{⟨119,by decide,by decide⟩,by decide,.inr (.inr ⟨by decide,by decide,2,by decide +kernel,rfl⟩),by decide,by decide,BZ 2,two r}
 . show{⟨108,by decide,by decide⟩,by decide,.inr (.inr ⟨by decide,by decide,1,by decide +kernel,rfl⟩),by decide,by decide,by change 1<=3;decide,λx o=>by rw[zf.mp o];lia}
 . show{⟨116,by decide,by decide⟩,by decide,.inr (.inr ⟨by decide,by decide,0,by decide +kernel,rfl⟩),by decide,by decide,by change 0<=3;decide,λx o=>by cases o}
 . show{⟨119,by decide,by decide⟩,by decide,.inr (.inr ⟨by decide,by decide,0,by decide +kernel,rfl⟩),by decide,by decide,by change 0<=3;decide,λx o=>by cases o}
def WZ (C D PT:Addr):Sp:=λvs H Q _=>∃I dd l n o,vs=[.ref I,.ref l]/\H I=some (.ins D dd [])/\H l=some (.lst ((DW n o).map V.str))/\DB n o/\C4 o/\Tb H PT /\
 ∀J dx la wa oa U H',Az I H H'->H J=none->Tb H' PT->H' I=some (.ins D dd (Ik J))->BP H' C J dx la wa oa n o (lowTo n.toNat) U->Q .non H'
def Qa (C D PT dk dd kp dx wa oa:Addr)(n:Int)(ts:List T3)(os:List Int)(ess:List (List En))(row:Str)(H:Hp)(Q:VK):Prop:=
 (row=Str.ofString "check " ++ jn (A6 ess)/\∀H',AE H H'->Q (.str "ok") H') \/
 (∃J:List Int,row=Str.join Av (Str.ofString "order" :: J.map sN)/\ET n J/\∀o U kq I kU H',Az dk H H'->H o=none->Tb H' PT->H' dk=some (.ins D dd (Ik o))->BP H' C o U kq wa I n ts J kU->Q (.str "ok") H') \/
 (∃z ns,row=Str.join Av (z::ns.map sN)/\Eh C PT kp dx oa n ts os ess z ns H Q)
inductive cO (C:Addr)(D:Addr)(PT:Addr)(vs:List V)(H:Hp)(Q:VK):Prop
 | mk:∀(dk dd kp dx la wa oa:Addr)(n:Int)(ts:List T3)(os:List Int)(ess:List (List En))(row:Str),(vs=[.ref dk,.str row])->(H dk=some (.ins D dd (Ik kp)))->(BP H C kp dx la wa oa n ts os ess)->(DB n ts)->(Tb H PT)->(Qa C D PT dk dd kp dx wa oa n ts os ess row H Q)->cO C D PT vs H Q
def UU (C D PT:Addr):Sp:=λo H Q _=>cO C D PT o H Q
section
variable {P:Program}{w:World}{K:AG}{mg:Aj}{base:Heap}{C D fI fP fS fT fW fL gI gS PT:Addr}
def QP:zl ["self","lines","web"] Tq.p (defScope Tq.s):=AK
def iC (C:1<=n):ET n (lowTo n.toNat):={by rw[Ht],(Sl _).imp λh=>(),λp o=>by let:=Nm.mp o;lia}
def Qn (wz:Ws P w K mg base PT C D):Jz P w K mg base 8 D "Desk" Tq (WZ C D PT):=by
 show wz.DI.okI QP λ_ _ A _ _ H vs Q E hr h=>?_;let{dk,dd,l,n,ts,0,hdk,hl,U,sr,TT,q}:=h;let n1:=U.gw.n1;let n24:=U.gw.n24;show{_,zN (AX (i:=2) QP.nd (AF (RC wz) hr (zB (pv 1) zJ)))
  (zX (JV (pv 0) (Vh (IT wz) hr (zB (pv 2) (zB (cP rfl rfl wz.mTuple rfl wz.mRange (zB (zm AM (pv 2) zb) zJ)) zJ))) rfl)),?_}
 show{1,l,n,ts,0,hl,U,λwa H1 s1 W1=>?_};let{ta,tys,kc,_}:=id W1;show{4,wa,3,.int n,2,AD.of kc,0,n,0,(),(),λob hob I dx o7 hdx ne=>?_};let lS:=zG (o:=.tup ((lowTo n.toNat).map V.int)) hob;let J:(upd H1 ob (.tup ((lowTo n.toNat).map V.int))) ob=some (.tup ((lowTo n.toNat).map V.int)):=zF;generalize upd H1 ob (.tup ((lowTo n.toNat).map V.int))=H2 at lS J o7 hdx ⊢;let s2:=s1.trans lS;let hkp':(upd H2 dx (.own I)) I=none:=by rwa[zg (Ne.symm ne)]
 let s23:AE H2 (upd (upd H2 dx (.own I)) I (.ins C dx [])):=(zG (o:=.own I) hdx).trans (zG (o:=.ins C dx []) hkp');let s3:=s2.trans s23;let o8:H I=none:=CI s2 o7;let nk:dk≠I:=λz=>by rw[z,o8] at hdk;cases hdk
 show{I,dx,wa,ob,n,ts,lowTo n.toNat,0,zF,W1.keep (lS.trans s23),sr,s23 _ _ J,iC n1,TT.same s3,λla ess H4 sm4 B4 K4=>{0,?_}};let hd4:H4 dk=some (.ins D dd []):=sm4.get nk (s3 _ _ hdk) (by intro ps z;cases z);show{1,dk,D,dd,[],0,hd4,wz.kD.cl,wz.kD.nk,by decide,?_};show q I dx la wa ob ess _ (Az.made s3 o8 sm4).chg o8 (Sk B4 hd4) zF (K4.keep (zg nk.symm) λb ys e=>by rwa[zg (AJ e hd4 (by intro z;cases z))])
def UP:zl ["self","row","words","numbers"] TC.p (defScope TC.s):=AK
def Fj (J:Ws P w K mg base PT C D):Mz P w K mg base 9 D TC (UU C D PT):=by
 let{tk,mChk}:=J.mChk;show J.DS.okM UP λ_ _ A _ _ H vs Q E hr h=>?_;let{dk,dd,kp,dx,la,wa,oa,n,ts,os,ess,row,0,hdk,KA,U,TT,sy}:=h;let n1:=U.gw.n1;let n24:=U.gw.n24;show{_,zN (AU (BR (BE PySem.F.plainAttrs_str PySem.F.slot_str_startswith PySem.F.type_str_startswith i0 (pv 1) (zB (EV (v:=.str (Str.ofString "check ")) rfl mChk {tk,0}) zJ)))
  (zX (zu (AF (PR J) hr (zB (Jf (Dc (pv 0) rfl) (SI J) hr) (zB (Dz Kn (pv 1) (Di (AZ VY J.mLen (zB (EV (v:=.str (Str.ofString "check ")) rfl mChk {tk,0}) zJ))) Ek) zJ))))) AV)
  (zN (AX (i:=2) UP.nd (BE PySem.F.plainAttrs_str PySem.F.slot_str_split PySem.F.type_str_split Gi (pv 1) (zB AW zJ)))
  (zN (AX (i:=3) UP.nd (AF (LI J) hr (zB (pv 2) zJ)))
  (zN (AU (zt Am (zm zx (pv 2) zb) AW (zw _)) (zN (JV (pv 0) (Vh (IT J) hr (zB (Jf (Dc (pv 0) rfl) (SI J) hr) (zB (Aq Ct J.mTuple (zB (pv 3) zJ)) zJ))) rfl) (zX (zu AW))) AV)
  (zX (zu (AF (LQ J) hr (zB (Dc (pv 0) rfl) (zB (zm zx (pv 2) zb) (zB (pv 3) zJ))))))))),?_}
 rcases sy with ⟨rfl,k⟩ | ⟨lL,rfl,O,k⟩ | ⟨z,ns,rfl,an⟩
 . show{_,2,_,8,?_};rw[et];show CB ?_;let{c1,c2}:=Zv KA.kd n24;let{rk,R,LO}:=KA.lof;let{_,nF}:=KA.gd;show{1,dk,D,dd,_,.ref kp,0,hdk,J.kD.cl,J.kD.nk,0,kp,dx,1,KA.ins,0,kp,dx,la,wa,oa,n,ts,os,ess,0,KA,4,by decide,4,c2,wa,n,ts,rk,ess,congrArg (λy=>[V.ref wa,V.str y]) (hU _ _),KA.web,LO,nF,KA.kd,c1,k}
 . show{_,2,_,8,?_};rw[ZC (c:=111) (by decide) (by decide)];show Ao ?_;let ol:=O.ln;show{_,2,3,9,RV (by decide) (λp hp=>by let:=O.rng p hp;lia) (),λl hl=>?_};rw[Zz (by decide) λp hp=>(O.rng p hp).1];let s1:=zG (o:=.lst ((Str.ofString "order" :: lL.map sN).map V.str)) hl;let k8:(upd H l (.lst ((Str.ofString "order" :: lL.map sN).map V.str))) l=some (.lst ((Str.ofString "order" :: lL.map sN).map V.str)):=zF;generalize upd H l (.lst ((Str.ofString "order" :: lL.map sN).map V.str))=H1 at s1 k8 ⊢;show{1,l,Str.ofString "order",lL,0,k8,λp hp=>by let:=O.rng p hp;lia,.inl {0,()},(),λq H2 s2 hq=>?_};let lK:=s1.trans s2;let K2:=KA.same lK;show{1,l,3,.str (Str.ofString "order"),2,AA.of (s2 _ _ k8),Ac (by decide) rfl,6,BG (by decide +kernel) ?_};show{1,dk,D,dd,_,.ref kp,0,lK _ _ hdk,J.kD.cl,J.kD.nk,0,kp,dx,1,K2.ins,0,kp,dx,la,wa,oa,n,ts,os,ess,0,K2,1,q,1,.inl {AA.of hq,λob hob I dx2 o7 hdx ne=>?_}};let s23:=zG (o:=.tup (lL.map V.int)) hob;let hob3:(upd H2 ob (.tup (lL.map V.int))) ob=some (.tup (lL.map V.int)):=zF;generalize upd H2 ob (.tup (lL.map V.int))=H3 at s23 hob3 o7 hdx ⊢;let s03:=lK.trans s23;let hkp':(upd H3 dx2 (.own I)) I=none:=by rwa[zg (Ne.symm ne)]
   let s34:AE H3 (upd (upd H3 dx2 (.own I)) I (.ins C dx2 [])):=(zG (o:=.own I) hdx).trans (zG (o:=.ins C dx2 []) hkp');let nX:=s03.trans s34;let o8:H I=none:=CI s03 o7;let nk:dk≠I:=λz=>by rw[z,o8] at hdk;cases hdk
   show{I,dx2,wa,ob,n,ts,lL,0,zF,KA.web.keep nX,KA.sr,s34 _ _ hob3,O,TT.same nX,λng lP H5 sm5 B5 K5=>{0,?_}};let hd5:H5 dk=some (.ins D dd (Ik kp)):=sm5.get nk (nX _ _ hdk) (by intro ps z;cases z);show{1,dk,D,dd,1,hd5,J.kD.cl,J.kD.nk,by change 1<1000;decide,?_};rw[Wy];show k I dx2 ng ob lP _ (Az.made nX o8 sm5).chg o8 (Sk B5 hd5) zF (K5.keep (zg nk.symm) λb ys e=>by rwa[zg (AJ e hd5 (by intro z;cases z))])
 . let{{c,z1,z2},z3,z4,z5,z7,z6,rg}:=an.z n24;show{_,2,_,8,?_};rw[ZC z1 z2];show Ao ?_;show{_,2,3,9,RV z5 (λp hp=>by let:=rg p hp;lia) (),λl hl=>?_};rw[Zz z3 λp hp=>(rg p hp).1];let s1:=zG (o:=.lst ((z::ns.map sN).map V.str)) hl;let k8:(upd H l (.lst ((z::ns.map sN).map V.str))) l=some (.lst ((z::ns.map sN).map V.str)):=zF;generalize upd H l (.lst ((z::ns.map sN).map V.str))=H1 at s1 k8 ⊢;show{1,l,z,ns,0,k8,λp hp=>by let:=rg p hp;lia,z4,(),λq H2 s2 hq=>?_};let lK:=s1.trans s2;let K2:=KA.same lK;show{1,l,3,.str z,2,AA.of (s2 _ _ k8),Ac (by decide) rfl,6,AL (za (λe=>z7 (V.str.inj e))) ?_};show{1,dk,D,dd,_,.ref kp,0,lK _ _ hdk,J.kD.cl,J.kD.nk,6,l,3,.str z,2,AA.of (s2 _ _ k8),Ac (by decide) rfl,1,kp,dx,la,wa,oa,q,n,ts,os,ess,z,ns,0,K2,U,hq,TT.same lK,an.same lK}
end
end K73
namespace K73
open PySem L2 WM
open DG
variable {P:Program}{w:World}{K:AG}{mg:Aj}{base:Heap}{PT:Addr}{X:Cx}
def N4 (hi:i<ess.length):∃es,ess[i]?=some es/\((A6 ess).map V.str)[i]?=some (.str (lW es)):=by show{ess[i],zC hi,?_};unfold A6;rw[zK,zK,zC hi];rfl
def kB (k):Str.ofString "label " ++ sN k=Str.join Av (Str.ofString "label" :: [k].map sN):=by show Gg ?_;change _=(Str.ofString "label" ++ Av++sN k).cps.toList;simp only[Str.cps_append,Array.toList_append];congr 1
structure BO (H:Hp)(C D PT dk dd kp dx la wa oa:Addr)(n:Int)(ts:List T3)(os:List Int)(ess:List (List En)):Prop where
 ins:H dk=some (.ins D dd (Ik kp))
 ka:BP H C kp dx la wa oa n ts os ess
 up:DB n ts
 tb:Tb H PT
def BO.same {os:List Int}(h:BO H C D PT dk dd kp dx la wa oa n ts os ess)(s:AE H H'):BO H' C D PT dk dd kp dx la wa oa n ts os ess:={s _ _ h.ins,h.ka.same s,h.up,h.tb.same s}
def BO.ln {os:List Int}(h:BO H C D PT dk dd kp dx la wa oa n ts os ess):ess.length=n.toNat:=h.ka.kd.ln
def BO.say {os:List Int}(h:BO H C D PT dk dd kp dx la wa oa n ts os ess)(q:Qa C D PT dk dd kp dx wa oa n ts os ess row H Q):UU C D PT [.ref dk,.str row] H Q E0:=
 {dk,dd,kp,dx,la,wa,oa,n,ts,os,ess,row,0,h.ins,h.ka,h.up,h.tb,q}
def Fd {k:Int}(h:0<=k/\k<1000000):(Str.ofString (toString k)).length<=20:=Dk (k:=k) () ()
inductive Zx (C:Addr)(D:Addr)(PT:Addr)(vs:List V)(H:Hp)(Q:VK):Prop
 | mk:∀(dk dd kp dx la wa oa:Addr)(n:Int)(ts:List T3)(os:List Int)(ess:List (List En)),(vs=[.ref dk,.int n])->(BO H C D PT dk dd kp dx la wa oa n ts os ess)->(∀(l:Addr)(H':Hp),AE H H'->H l=none->H' l=some (.lst ((A6 ess).map V.str))->Q (.ref l) H')->Zx C D PT vs H Q
def PN (C D PT:Addr):Sp:=λo H Q _=>Zx C D PT o H Q
inductive Yb (C:Addr)(D:Addr)(PT:Addr)(vs:List V)(H:Hp)(Q:VK):Prop
 | mk:∀(dk dd kp dx la wa oa:Addr)(n:Int)(ts:List T3)(os:List Int)(ess:List (List En)),(vs=[.ref dk,.int n])->(BO H C D PT dk dd kp dx la wa oa n ts os ess)->(∀(H':Hp),AE H H'->Q (.bl true) H')->Yb C D PT vs H Q
def QL (C D PT:Addr):Sp:=λo H Q _=>Yb C D PT o H Q
section
variable {P:Program}{w:World}{K:AG}{mg:Aj}{base:Heap}{C D gI gS PT:Addr}
def Ou:zl ["_law_desk","_law_many"] HP.p (defScope HP.s):=AK
def Se (J:Ws P w K mg base PT C D):Fz P w K mg base 10 HP (PN C D PT):=by
 show J.Lns.okZ Ou λ_ _ A _ _ H vs Q E hr h=>?_;let{dk,dd,kp,dx,la,wa,oa,n,ts,os,ess,0,DA,k}:=h;let n1:=DA.up.gw.n1;let n24:=DA.up.gw.n24;let ln:=DA.ln;show{_,zX (zu (BB (own:=["_law_place"]) (cn:=["_law_desk"]) (ci:=[0]) rfl (Ai rfl rfl) {9,trivial} rfl (CO rfl J.mRange (zB (pv 1) zJ)) (λ_ _ _ _=>Ah) (λ_ _ _ _=>A8)
  (λ_ _ _ _=>C6 (pv 1) (Fj J) hr (zB (AQ GR AW (Aq C3 J.mStr (zB (pv 0) zJ))) zJ)))),?_}
 show{1,n,0,(),(),[.ref dk],0,λl hD=>?_};show Dw (lo:=0) (n:=n.toNat) (λj I o=>j<=n.toNat/\I=((A6 ess).take j).map V.str/\AE H o/\o l=some (.lst I)) {zd _,0,zG hD,zF} (λj I o z=>?_) (λj I o hj z=>?_) (λI o z=>?_)
 . let{hj,0,_}:=z;rw[zA,zi];show Bm ()
 . let{1,s4,U}:=z;rw[CC];let{es,he,hh}:=N4 (ess:=ess) (i:=j) ();let D4:=DA.same s4;show{{2},A7 {1,dk,dd,1,D4.ins,6,(j:Int),0,(),5,?_,D4.say (.inr (.inr {Str.ofString "label",[(j:Int)],kB j,.inr <| .inr <| .inr <| .inr <| .inr <| .inl {j,es,2,(),he,λH5 s5=>{s5 _ _ U,(),?_,A4 (s4.trans s5) hD,zF}}}))}}
   . let:=Fd (k:=(j:Int)) ();let:10000000<=sizeLine:=by decide
     rw[B0,show (Str.ofString "label ").length=6 from by decide]
     lia
   . rw[ze,show (A6 ess)[j]?=some (lW es) from by unfold A6;rw[zK,show ess[j]?=some es from he];rfl,zO];rfl
 . let{1,s4,U}:=z;rw[zR (by unfold A6;rw[zA];lia)] at U;show k l o s4 hD U
def Vc:zl ["_law_desk","_law_places","_law_lines_here","_law_many"] G9.p (defScope G9.s):=AK
def Y0 (J:Ws P w K mg base PT C D):Fz P w K mg base 11 G9 (QL C D PT):=by
 show J.Lnr.okZ Vc λ_ _ A _ _ H vs Q E hr h=>?_;let{dk,dd,kp,dx,la,wa,oa,n,ts,os,ess,0,DA,k}:=h;let o:=DA.up.gw.n24;let ln:=DA.ln;let KD:=DA.ka.kd;show{_,zN (AX (i:=2) Vc.nd (AF (Se J) hr (zB (pv 0) (zB (pv 1) zJ))))
  (zN (AX (i:=3) Vc.nd (AZ (Uz rfl) J.mSum (zB (BB (own:=["_law_line"]) (cn:=[]) (ci:=[]) rfl (Ai rfl rfl) trivial rfl (CQ (pv 2)) (λ_ _ _ _=>Ah) (λ_ _ _ _=>A8)
   (λ_ _ _ _=>AQ ED (AZ Rh J.mLen (zB (aJ PySem.F.plainAttrs_str PySem.F.slot_str_split PySem.F.type_str_split Gi (pv 0) (zB AW zJ)) zJ)) zb)) zJ)))
  (zX (zu (Ef (BS Am (C6 (pv 0) (Fj J) hr (zB AW zJ)) (Aq C3 J.mStr (zB (pv 3) zJ)) (zw _))
   (Du (BS Am (C6 (pv 0) (Fj J) hr (zB (AQ GR AW (BE PySem.F.plainAttrs_str PySem.F.slot_str_join PySem.F.type_str_join FE AW (zB (pv 2) zJ))) zJ)) AW (zw _))))))),?_}
 show{4,dk,dd,kp,dx,la,wa,oa,n,ts,os,ess,0,DA,λl H1 s1 m7 hl=>?_};show{1,l,0,{_,AA.of hl},[],0,λq hq=>?_};show DJ (a:=l) (xs:=(A6 ess).map V.str) (λi U I=>U=(((ess.map List.length).take i).map λk:Nat=>(k:Int)).map V.int/\AE H1 I/\I q=some (.lst U)) {0,zG hq,zF} (λi U I z=>?_) (λi U I z=>?_) (λi v U I hv z=>?_) (λU I z=>?_)
 . show AA.of (z.2.1 _ _ hl)
 . rw[z.1,zA,zA,zi,zA];show Bm ()
 . let{0,s4,h4}:=z;let hi:i<ess.length:=by let:=(zH.mp hv).1;unfold A6 at this;simpa using this
   let{es,he,hh}:=N4 (ess:=ess) hi;rw[hh] at hv;cases hv;let{o1,o2,o3,o4}:=IF (KD.esb o es (zQ he));show{{2},A7 {_,2,lW es,_,9,(),λlw hlw=>?_}};let e3:Txt.split (lW es) (Str.ofString " ")=lab::es.map eW:=o3;rw[e3];show{lw,1,.inl (AA.of zF),5,?_};let s5:AE I (upd I lw (.lst ((lab::es.map eW).map V.str))):=zG hlw;show{s5 _ _ h4,?_,A4 (s4.trans s5) hq,zF};rw[ze,zK,he,zO,zO];simp
 . let{0,s4,h4}:=z;rw[zA,show (A6 ess).length=(ess.map List.length).length from by unfold A6;rw[zA,zA],zR (zL _)] at h4;let nX:=s1.trans s4;let D4:=DA.same nX;show{q,1,AA.of h4,?_};show{1,dk,dd,1,D4.ins,0,D4.say (.inr (.inr {Str.ofString "total",[],0,.inr <| .inr <| .inr <| .inr <| .inr <| .inr <| .inl {2,λH5 s5=>?_}}))};let mU:=nX.trans s5;let D5:=DA.same mU;show{4,ZL KD o,0,true,by rw[zY rfl],CB ?_};let{c1,c2}:=cM KD o;let hsl:10000000<=sizeLine:=by decide
   show{1,dk,dd,1,D5.ins,0,6,_,l,A6 ess,2,AA.of (s5 _ _ (s4 _ _ hl)),by decide,by rw[GO];lia,?_};rw[Ue];show{5,(Zv KD o).2,D5.say (.inl {0,λH6 s6=>{0,?_}})};rw[zY rfl];show k H6 (mU.trans s6)
end
end K73
namespace K73
open PySem L2 WM
open DG
variable {P:Program}{w:World}{K:AG}{mg:Aj}{base:Heap}{PT:Addr}{X:Cx}
def eB (G:GW n ts)(h:Aw ts x p l):ts.filter (Dt (AO x p) (AN x p))=[(AO x p,AN x p,l)]:=by
 let e:=UO (a:=AO x p) (b:=AN x p) G.dis;let m:(AO x p,AN x p,l)∈ts.filter (Dt (AO x p) (AN x p)):=by
  show CZ.mpr {?_,OC.mpr {2}};unfold AO AN;rcases h with h | h
  . let:=(G.rng _ h).2.1;dsimp only at this;rwa[if_neg (),if_pos ()]
  . let:=(G.rng _ h).2.1;dsimp only at this;rwa[if_pos (),if_neg ()]
 rw[e] at m ⊢;cases z:E6 (AO x p) (AN x p) ts with
 | none=>rw[z] at m;cases m
 | some k=>rw[z] at m;let:=zf.mp m;injection this with _ this;injection this with _ this;rw[this];rfl
inductive bO (vs:List V)(H:Hp)(Q:VK):Prop
 | mk:∀(wb:Addr)(n x p l:Int)(ts:List T3),(vs=[.ref wb,.int x,.int p])->(Af H wb n ts)->(Aw ts x p l)->(∀H',AE H H'->Q (.int l) H')->bO vs H Q
def QT:Sp:=λo H Q _=>bO o H Q
def JL:zl ["_law_web_here","_law_one","_law_other","_law_longs"] Hi.p (defScope Hi.s):=AK
def Lq (wz:Ws P w K mg base PT C D):Fz P w K mg base 1 Hi QT:=by
 show wz.Lng.okZ JL λ_ _ A _ _ H vs Q E hr h=>?_;let{wb,n,x,y,g,ts,0,W,ad,k}:=h;let{ta,tys,kc,lE,TA,G}:=id W;let mV:=hr.units0;let hlT:=TA.length;rw[zA] at hlT;let h64:=G.len;show{_,zN (DZ (i:=3) (own:=["_law_tie"]) (cn:=["_law_one","_law_other"]) (ci:=[1,2]) JL.nd rfl (Or.inl rfl) rfl (Ai rfl rfl) {9,9,trivial} rfl (Bo (zm AM (pv 0) zb)) (λ_ _ _ _=>Ah)
  (λ_ _ _ _=>De (zt (jz mV) (Dz OB (pv 0) Ek (Di zb)) (BY (zB (AZ (OF rfl) wz.mMin (zB (pv 1) (zB (pv 2) zJ))) (zB (AZ (VE rfl) wz.mMax (zB (pv 1) (zB (pv 2) zJ))) zJ))) (zw _))) (λ_ _ _ _=>zm DL (pv 0) zb))
  (zX (zu (zm zx (AQ JU (pv 3) (BA (zB (AQ OK zb zb) zJ))) zb))),?_}
 show{1,wb,3,.ref ta,2,AD.of kc,0,ta,0,{_,AD.of lE},[.int x,.int y],0,λD hD=>?_};show CH (a:=ta) (xs:=tys) (λi I J=>I=(((ts.take i).filter (Dt (AO x y) (AN x y))).map (·.2.2)).map V.int/\AE H J/\J D=some (.lst I)) {by rw[List.take_zero];rfl,zG hD,zF} (λi I J h=>?_) (λi I J h=>?_) (λi v I J hv h=>?_) (λI J h=>?_)
 . show AD.of (h.2.1 _ _ lE)
 . let{0,_}:=h;let h2:=C7 (Dt (AO x y) (AN x y)) (ts.take i);rw[zi] at h2;rw[zA,zA];show BJ ()
 . let{0,s4,ki}:=h;let{ya,kk,0,U,mH,_}:=TA.get hv;rw[zK] at U;obtain⟨t,ht,rfl⟩:∃t,ts[i]?=some t/\tl t=kk:=by
    cases e:ts[i]? with
    | none=>rw[e] at U;cases U
    | some t=>rw[e] at U;show{t,0,zT U}
   let n8:=s4 _ _ mH;show{{2},?_};show{4,ya,1,n8,λq H5 s5 hq=>?_};rw[HW] at hq;show{4,x,y,0,4,x,y,0,B7,λp hp=>?_};rw[show (HO.tup [V.int (if y<x then y else x),V.int (if y > x then y else x)])=HO.tup [.int (AO x y),.int (AN x y)] from rfl]
   let s6:=zG (o:=.tup [.int (AO x y),.int (AN x y)]) hp;let lF:(upd H5 p (.tup [.int (AO x y),.int (AN x y)])) p=some (.tup [.int (AO x y),.int (AN x y)]):=zF;generalize upd H5 p (.tup [.int (AO x y),.int (AN x y)])=H6 at s6 lF ⊢;let nV:=s5.trans s6;show{q,p,[t.1,t.2.1],[AO x y,AN x y],2,AD.of (s6 _ _ hq),AD.of lF,1,?_};let k7:=nV _ _ ki;show BU (λc=>?_) (λc=>?_)
   . show{1,ya,3,.int t.2.2,2,AD.of (nV _ _ n8),0,k7,?_,A4 (s4.trans nV) hD,zF};rw[RX ht,if_pos (by show c),zO,zO];rfl
   . show{?_,s4.trans nV,k7};rw[RX ht,if_neg (by show c),BW]
 let{0,s4,ki}:=h;rw[zR (),eB G ad] at ki;let:10000000<=sizeLine:=by decide
 show{1,5,{by decide,by decide,by decide},by change 1<=sizeLine;lia,λe he=>?_};let s5:=zG (o:=.lst [.int ((10:Int) ^ (6:Int).toNat)]) he;show{D,e,5,s5 _ _ ki,zF,by change 2<=sizeLine;lia,λr lO=>?_};show{r,3,.int g,2,AA.of zF,0,k _ (s4.trans (s5.trans (zG lO)))}
end K73
namespace K73
open PySem L2 WM
open DG
variable {P:Program}{w:World}{K:AG}{mg:Aj}{base:Heap}{PT:Addr}{X:Cx}
def dN (xs)(m:Nat):BV xs none (some (m:Int))=xs.take m:=by
 unfold BV;rw[HT.sIx_none,HT.sIx_nat,List.drop_zero,Nat.sub_zero];by_cases h:m<=xs.length
 . rw[Nat.min_eq_left h]
 . rw[Nat.min_eq_right (),zR (zL _),zR ()]
def Ru (L:Bx H rs M)(R:Rows ts n M)(x0:0<=x)(x1:x<n)(J:0<=y)(I:y<n):
 ∃U row o,rs[x.toNat]?=some U/\H U=some (.lst row)/\Bl row y=some (.int (Bq o))/\A9 ts x y o:=by
 let hl:x.toNat<M.length:=by rw[R.1];lia
 let hr:x.toNat<rs.length:=by rwa[L.1]
 let C:=R.2 x x0 x1;rw[zE,zC hl,Option.getD_some] at C;show{rs[x.toNat],3,zC hr,L.2.2 _ _ _ (zC hr) (zC hl),R0 C.ln J I,C.len y J I}
def Gb (G:GW n ts)(x0:0<=x)(C:x<n)(h:A9 ts x y o):(Bq o<1000000↔∃d,WM.IsD ts x y d)/\∀d,WM.IsD ts x y d->Bq o=d/\0<=d/\d<=2376:=by
 cases o with
 | none=>show{{λz=>absurd z (by change ¬ (1000000:Int)<1000000;lia),λ⟨d,z⟩=>absurd z.1 (h d)},λd z=>absurd z.1 (h d)}
 | some e=>
  let b:=OR G x y x0 C e h;let I:Bq (some e)=e:=by change min e 1000000=e;show Int.min_eq_left ()
  rw[I];show{{λ_=>⟨e,h⟩,λ_=>()},λd z=>by rw[WM.IsD.uniq z h];show{0,b}}
def cm (G:GW n ts)(C:0<=h/\h<n)(I:0<=p/\p<n)(w:∃d,WM.IsD ts h v d)(U:A9 ts h p o1)(J:A9 ts p v o2)(l:A9 ts h v o):(Bq o1+Bq o2=Bq o↔Be ts h v p):=by
 let{d,hd}:=w;let{e,d0,d1}:=(Gb G C.1 C.2 l).2 d hd;let n1:∀o,0<=Bq o\/∃k,o=some k/\k<0:=λo=>by
  cases o with
  | none=>show .inl (by change (0:Int)<=1000000;lia)
  | some k=>
   by_cases c:k<0
   . show .inr {k,0,c}
   . show .inl (by change 0<=min k 1000000;lia)
 let p1:0<=Bq o1:=by
  rcases n1 o1 with z | ⟨k,rfl,z⟩
  . show z
  . let:=(OR G h p C.1 C.2 k U).1;lia
 let p2:0<=Bq o2:=by
  rcases n1 o2 with z | ⟨k,rfl,z⟩
  . show z
  . let:=(OR G p v I.1 I.2 k J).1;lia
 rw[e];constructor
 . intro z;let{a,ha}:=(Gb G C.1 C.2 U).1.mp ();let{b,hb}:=(Gb G I.1 I.2 J).1.mp ();let e1:=((Gb G C.1 C.2 U).2 a ha).1;let e2:=((Gb G I.1 I.2 J).2 b hb).1;show{a,b,ha,hb,by rwa[<-e1,<-e2,z]}
 . rintro ⟨a,b,ha,hb,hab⟩;rw[((Gb G C.1 C.2 U).2 a ha).1,((Gb G I.1 I.2 J).2 b hb).1];show WM.IsD.uniq hab hd
def gX {os:List Int}(G:GW n ts)(O:ET n os)(R:EM n os rk)(hq:os[q]?=some h)(I:0<=h/\h<n):Ep ts rk h v↔(∃d,WM.IsD ts h v d)/\∀p∈os.take q,¬ Be ts h v p:=by
 let nd:=O.nd;let o:∀{j:Nat}{p:Int},os[j]?=some p->0<=p/\p<n->rk p=j:=λ{j p} U C=>by
  let{r0,J}:=R p C.1 C.2;let:=(List.getElem?_inj (zH.mp J).1 nd).mp (J.trans U.symm)
  lia
 show and_congr_right λ_=>{λz p C b=>?_,λz p b=>?_}
 . let{j,U,e}:=CP C;rw[zi] at U;rw[List.getElem_take] at e;let pj:os[j]?=some p:=by rw[zC (),e]
   let:=z p b;rw[o hq I,o pj (O.rng p (zQ pj))] at this
   lia
 . let{a,c,ia,_}:=id b;let pr:=ia.1.in_ G I.1 I.2;let{r0,J}:=R p pr.1 pr.2;rw[o hq I];by_cases c:(q:Int)<=rk p
   . show c
   . show absurd b (z p (zQ (i:=(rk p).toNat) ?_));rwa[List.getElem?_take,if_pos ()]
inductive b7 (vs:List V)(H:Hp)(Q:VK):Prop
 | mk:∀(fl oa:Addr)(rs:List Addr)(M:CV)(n v:Int)(ts:List T3)(os:List Int)(rk:Int->Int)(es:List En),(vs=[.ref fl,.ref oa,.int v])->(H fl=some (.lst (rs.map V.ref)))->(Bx H rs M)->(Rows ts n M)->(GW n ts)->(H oa=some (.tup (os.map V.int)))->(ET n os)->(EM n os rk)->((0<=v/\v<n))->(Ge ts n rk v es)->(∀(l:Addr)(H':Hp),AE H H'->H' l=some (.lst ((es.map (·.h)).map V.int))->Q (.ref l) H')->b7 vs H Q
def Qp:Sp:=λo H Q _=>b7 o H Q
open Classical in
def FI (ts:List T3)(o:Int->Int)(v:Int)(os:List Int):List Int:=os.filter λh=>decide (Ep ts o h v)
open Classical in
def U3 {ts:List T3}{o:Int->Int}{v h:Int}{os:List Int}{q:Nat}(C:os[q]?=some h):FI ts o v (os.take (q+1))=FI ts o v (os.take q)++(if Ep ts o h v then [h] else []):=by
 unfold FI;rw[ze,C,Gf];congr 1;by_cases c:Ep ts o h v
 . rw[if_pos c];simp[c]
 . rw[if_neg c];simp[c]
open Classical in
def gR {os:List Int}(G:GW n ts)(O:ET n os)(R:EM n os rk)(L:Ge ts n rk v es)(pm:zs.Perm (FI ts rk v os))(I:zs.Pairwise (· <= ·)):zs=es.map (·.h):=by
 let mem:∀h,h∈FI ts rk v os↔h∈es.map (·.h):=λh=>by
  unfold FI;rw[CZ,zy];constructor
  . rintro ⟨hm,J⟩;let r:=O.rng h hm;show L.all h r.1 r.2 (of_decide_eq_true J)
  . rintro ⟨e,he,rfl⟩;let E:=L.ent e he;show{O.mem E.rng.1 E.rng.2,zY E.hub}
 let C:(FI ts rk v os).Nodup:=O.nd.sublist List.filter_sublist;let ri:=L.hub;let o:(es.map (·.h)).Pairwise (· < ·):=by rwa[DK]
 let p2:(FI ts rk v os).Perm (es.map (·.h)):=(List.perm_ext_iff_of_nodup C (o.imp λh=>())).mpr mem;show List.Perm.eq_of_pairwise (le:=(· <= ·)) (λa b _ _ h1 U=>Int.le_antisymm h1 U) I (o.imp λh=>()) (pm.trans p2)
def Mu:zl ["_law_rows_here","_law_order_here","_law_place","_law_found","_law_at","_law_hub","_law_due","_law_ahead"] HD.p (defScope HD.s):=AK
def J9 (wz:Ws P w K mg base PT C D):Fz P w K mg base 1 HD Qp:=by
 show wz.Hb.okZ Mu λ_ _ A _ _ H vs Q E hr h=>?_;let{fl,oa,rs,M,n,v,ts,os,rk,es,0,hfl,LR,RR,G,hoa,O,R,hv,LO,k}:=h;let mV:=hr.units0;let n1:=G.n1;let n24:=G.n24;let ol:=O.ln;show{_,zN (AX (i:=3) Mu.nd (BA zJ))
  (zN (Bn (CO rfl wz.mRange (zB (AZ CD wz.mLen (zB (pv 1) zJ)) zJ)) (Ay (i:=4) Mu.nd)
   (zN (C8 (i:=5) Mu.nd rfl (Or.inr rfl) (zm AM (pv 1) (pv 4)))
   (zN (C8 (i:=6) Mu.nd rfl (Or.inr rfl) (zm zx (zm zx (pv 0) (pv 5)) (pv 2)))
   (zN (DZ (i:=7) (own:=["_law_one"]) (cn:=["_law_rows_here","_law_place","_law_hub","_law_due"]) (ci:=[0,2,5,6]) Mu.nd rfl (Or.inl rfl) rfl (Ai rfl rfl) {9,9,9,9,trivial} rfl (Bo (Dz OB (pv 1) Ek (Di (pv 4)))) (λ_ _ _ _=>Ah)
    (λ_ _ _ _=>De (zt Am (AQ Bs (zm DX (zm DX (pv 1) (pv 3)) (pv 0)) (zm DX (zm DX (pv 1) (pv 0)) (pv 2))) (pv 4) (zw _))) (λ_ _ _ _=>pv 0))
   (zX (AU (PW.pt (Ja (zt N8 (pv 6) (AQ OK zb zb) (zw _)) (Jg (zt (d4 mV) (pv 7) (BA zJ) (zw _))))) (zX (Ca (BE PySem.F.plainAttrs_list PySem.F.slot_list_append PySem.F.type_list_append Ej (pv 3) (zB (pv 5) zJ)))) AV))))))
  (zX (zu (AZ ZH wz.mSorted (zB (pv 3) zJ))))),?_}
 show{zd _,λD hD=>?_};let s1:=zG (o:=.lst []) hD;let mM:(upd H D (.lst [])) D=some (.lst []):=zF;generalize upd H D (.lst [])=H1 at s1 mM ⊢;show{1,oa,1,.inr (AD.of (s1 _ _ hoa)),?_};rw[show (((os.map V.int).length:Nat):Int)=n from by rw[zA];lia];show{n,0,(),(),Es (lo:=0) (n:=n.toNat) (λq σ H5=>Vl λ(v4 v5 v6 v7:Option V)=>σ=[some (.ref fl),some (.ref oa),some (.int v),some (.ref D),v4,v5,v6,v7]/\AE H H5/\H5 D=some (.lst ((FI ts rk v (os.take q)).map V.int))) {3,7,s1,by rwa[List.take_zero]} (λq σ H5 hq z=>?_) (λσ H5 z=>?_)}
 . let{v4,v5,v6,v7,0,s5,k7}:=z;rw[CC];obtain⟨h,hh⟩:∃h,os[q]?=some h:={_,zC ()};let U:=O.rng h (zQ hh);show{4,oa,3,.int h,2,AD.of (s5 _ _ hoa),Bb (by rw[zK,hh];rfl),?_};let LR5:Bx H5 rs M:=LR.keep λb J e _=>s5 _ _ e;let{ra,row,o,hra,nK,hat,hlen}:=Ru LR5 RR U.1 U.2 hv.1 hv.2;show{4,fl,3,.ref ra,2,AA.of (s5 _ _ hfl),Ac U.1 (by rw[zK,hra];rfl),1,ra,_,5,AA.of nK,hat,?_};show{4,(q:Int),0,oa,1,s5 _ _ hoa,λp H6 s6 hp=>?_};rw[dN,<-List.map_take] at hp;show{p,0,{_,AD.of hp},[.ref fl,.int v,.int h,.int (Bq o)],0,λB hB=>?_};let nV:=s5.trans s6;let e6:(10:Int) ^ (6:Int).toNat=1000000:=rfl;show CH (a:=p) (xs:=(os.take q).map V.int) (λi J H7=>AE H6 H7/\H7 B=some (.lst J)/\(J.length<=i/\i<=(os.take q).length)/\((∃d,WM.IsD ts h v d)->(J=[]↔∀x∈(os.take q).take i,¬ Be ts h v x))) {zG hB,zF,{zL 0,zd _},λ_=>{λ_ x hx=>(by rw[List.take_zero] at hx;cases hx),λ_=>rfl}} (λi J H7 z=>?_) (λi J H7 z=>?_) (λi u J H7 hu z=>?_) (λJ H7 z=>?_)
   . show AD.of (z.1 _ _ hp)
   . let h1:=z.2.2.1;let h2:=List.length_take_le q os;rw[zi] at h1;show Bm ()
   . let{s7,hB7,hle,hi}:=z;let{x,hx,0}:=Nx hu;let xin:x∈os:=List.mem_of_mem_take (zQ hx);let xr:=O.rng x xin;let I:=nV.trans s7;let LR7:Bx H7 rs M:=LR.keep λb J e _=>I _ _ e;let{r1,row1,o1,a1,b1,c1,d1}:=Ru LR7 RR U.1 U.2 xr.1 xr.2;let{r2,row2,o2,a2,b2,c2,d2}:=Ru LR7 RR xr.1 xr.2 hv.1 hv.2;show{{2},?_};show{4,fl,3,.ref r1,2,AA.of (I _ _ hfl),Ac U.1 (by rw[zK,a1];rfl),1,r1,_,5,AA.of b1,c1,?_};show{4,fl,3,.ref r2,2,AA.of (I _ _ hfl),Ac xr.1 (by rw[zK,a2];rfl),1,r2,_,5,AA.of b2,c2,?_};show{5,8,?_};rw[IE];let hB7':=hB7;show BU (λc=>?_) (λc=>?_)
     . show{1,hB7,s7.trans (AE.refl _) |>.trans (AE.refl _) |> λs=>A4 s hB,zF,{by rw[zS];change _+1<=_;lia,(zH.mp hx).1},λw=>?_};let bt:=(cm G U xr w d1 d2 hlen).mp (of_decide_eq_true c);show{λz=>absurd z (by simp),λz=>absurd bt (z x ?_)};rw[ze,hx];simp
     . show{s7,hB7,{(),(zH.mp hx).1},λw=>?_};let bt:¬ Be ts h v x:=λz=>c (zY ((cm G U xr w d1 d2 hlen).mpr z));rw[hi w,ze,hx];constructor
       . intro z y hy;rcases Bu.mp hy with hy | hy
         . show z y hy
         . rwa[show y=x from by simpa using hy]
       . show λz y hy=>z y (Gj _ hy)
   . let{s7,hB7,_,hi}:=z;rw[zA,zR (zL _)] at hi;let I:=nV.trans s7;let oR:=s7 _ _ (s6 _ _ k7);let ew:=Gb G U.1 U.2 hlen;let hi2:=gX G O R hh U (v:=v);show{1,5,{by decide,by decide,by decide},_,8,?_};change if decide (Bq o<(10:Int) ^ (6:Int).toNat)=true then _ else _
     rw[e6];by_cases c:Bq o<1000000
     . show BG (zY c) ?_;let w:=ew.1.mp c;show{1,zd _,λe he=>?_};let s8:=zG (o:=.lst []) he;show{B,e,J,2,AA.of (s8 _ _ hB7),AA.of zF,1,?_};by_cases y0:J=[]
       . show BG (by rw[y0];rfl) ?_;let hb:=hi2.mpr {w,(hi w).mp y0};show{1,.inl {0,_,AA.of (s8 _ _ oR)},1,D,5,s8 _ _ oR,?_,?_}
         . let h1:(FI ts rk v (os.take q)).length<=(os.take q).length:=C7 _ _;let h2:=List.length_take_le' q os;rw[zA];show BJ ()
         . show{3,7,A4 (I.trans s8) hD,?_};rw[zF,U3 hh,if_pos hb,zO];rfl
       . show AL (by cases J with | nil=>show absurd rfl y0 | cons=>rfl) ?_;let hb:¬ Ep ts rk h v:=λz=>y0 ((hi w).mpr (hi2.mp z).2);show{3,7,I.trans s8,?_};rw[U3 hh,if_neg hb,BW];show s8 _ _ oR
     . show AL (za c) ?_;let hb:¬ Ep ts rk h v:=λz=>c (ew.1.mpr (hi2.mp z).1);show{3,7,I,?_};rwa[U3 hh,if_neg hb,BW]
 . let{v4,v5,v6,v7,0,s5,k7}:=z;rw[zR ()] at k7;let hlen:(FI ts rk v os).length<=os.length:=C7 _ _;show{1,D,1,AA.of k7,(),λl zs hl pm sr=>k l _ (s5.trans (zG hl)) (by rw[zF,gR G O R LO pm sr])}
end K73
namespace K73
open PySem L2 WM
variable {P:Program}{w:World}{K:AG}{mg:Aj}{base:Heap}{PT:Addr}{X:Cx}
def aw (row:List Int)(i:Nat)(t:T3):Prop:=∃x y,row[i]?=some x/\row[i+1]?=some y/\t.1<t.2.1/\((t.1=x/\t.2.1=y)\/(t.1=y/\t.2.1=x))/\1<=t.2.2/\t.2.2<=99
def Ls (h1:1<=n)(h24:n<=24)(hp:row.Perm (lowTo n.toNat))(hl:ts.length+1=n.toNat)(ht:∀i t,ts[i]?=some t->aw row i t)(hq:ku.Perm ts):GW n ku:=by
 let nd:row.Nodup:=hp.nodup_iff.mpr ((Sl _).imp λh=>());let inr:∀x∈row,0<=x/\x<n:=λx o=>by
  let:=Nm.mp (hp.mem_iff.mp o)
  lia
 show{h1,h24,by rw[hq.length_eq];lia,λt htt=>?_,?_}
 . let{i,hi,e}:=CP (hq.mem_iff.mp htt);let{x,y,o,U,kS,C,c1,c2}:=ht i t (by rw[zC hi,e]);let a:=inr x (zQ o);let b:=inr y (zQ U);rcases C with ⟨e1,e2⟩ | ⟨e1,e2⟩ <;> lia
 . show (hq.pairwise_iff (λ{a b} h z=>h ⟨z.1.symm,z.2.symm⟩)).mpr ?_;show EZ.mpr λi j hi hj mE=>?_;let{x,y,o,U,kS,C,_}:=ht i ts[i] (zC hi);let{J,y',kZ,lC,hlt',I,_}:=ht j ts[j] (zC hj);rintro ⟨e1,e2⟩;let inj:∀{a b:Nat}{v:Int},row[a]?=some v->row[b]?=some v->a=b:=λ{a b v} h h'=>(List.getElem?_inj (zH.mp h).1 nd).mp (h.trans h'.symm);rcases C with ⟨p1,p2⟩ | ⟨p1,p2⟩ <;> rcases I with ⟨q1,q2⟩ | ⟨q1,q2⟩
   . let:x=J:=()
     rw[this] at o;let:=inj o kZ
     lia
   . let f1:x=y':=()
     let f2:y=J:=()
     rw[f1] at o;rw[f2] at U;let:=inj o lC
     lia
   . let f1:y=J:=()
     let f2:x=y':=()
     rw[f2] at o;let:=inj o lC
     lia
   . let:x=J:=()
     rw[this] at o;let:=inj o kZ
     lia
def eT (U:x≠y){ms:List Int}(o:ms.Perm [x,y])(C:ms.Pairwise (· <= ·)):∃a b,ms=[a,b]/\a<b/\((a=x/\b=y)\/(a=y/\b=x)):=by
 let I:=o.length_eq
 match ms,I with
 | [a,b],_=>
  let J:a<=b:=by simpa using C
  let ha:a=x\/a=y:=by simpa using o.mem_iff.mp (show a∈[a,b] by simp)
  let hx:x=a\/x=b:=by simpa using o.mem_iff.mpr (show x∈[x,y] by simp)
  let hy:y=a\/y=b:=by simpa using o.mem_iff.mpr (show y∈[x,y] by simp)
  show{a,b,0,?_,?_}
  . lia
  . lia
def PK:Sp:=λI H Q _=>∃t N,I=[.ref t]/\Ap H t N/\N<800000/\∀o n C H',H o=none->(11<=n/\n<=14)->C.length<=13->Af H' o n C->DF (C.map tl)->Ap H' t (N+100)->Sm t H H'->Q (.ref o) H'
structure RW (H:Hp)(t p D pa:Addr)(N:Nat)(row:List Int)(i:Nat)(H2:Hp):Prop where
 sm:Sm t H H2
 tp:BL H2 t p N
 rw:H2 pa=some (.tup (row.map V.int))
 ties:∃(ys:List V)(ts:List T3),H2 D=some (.lst ys)/\Ae H2 ys (ts.map tl)/\ts.length=i/\∀j t,ts[j]?=some t->aw row j t
def RW.on (h:RW H t p D pa N row i H2)(I:D≠t)(s:Sm t H2 H3)(T:BL H3 t p N'):RW H t p D pa N' row i H3:=by let{o,C,a,b,c}:=h.ties;show{h.sm.trans s,T,s _ _ (h.tp.neT h.rw) h.rw,o,C,s _ _ I a,b.keep λx zs e=>s _ _ (h.tp.neT e) e,c}
def NB:zl ["_law_feed_here","_law_seats","_law_ties","_law_k","_law_one","_law_other"] He.p (defScope He.s):=AK
def KG (U:Ws P w K mg base PT C D):Fz P w K mg base 3 He PK:=by
 show U.Rwb.okZ NB λ_ _ A _ _ H vs Q E hr h=>?_;let{t,N,0,{p0,T},hN,k}:=h;show{_,zN (AX (i:=1) NB.nd (AF (ZJ U) hr (zB (pv 0) (zB (AQ Bs zb (AF (C5 U) hr (zB (pv 0) (As zJ)))) zJ))))
  (zN (AX (i:=2) NB.nd (BA zJ))
  (zN (Bn (R9 rfl U.mRange (As (zB (AZ CD U.mLen (zB (pv 1) zJ)) zJ))) (Ay (i:=3) NB.nd)
   (zN (Dx (AZ ZH U.mSorted (zB (BA (zB (zm AM (pv 1) (AQ ED (pv 3) zb)) (zB (zm AM (pv 1) (pv 3)) zJ))) zJ)) (LY rfl (Ag (Ay (i:=4) NB.nd) (Ag (Ay (i:=5) NB.nd) CK))))
   (zX (Ca (BE PySem.F.plainAttrs_list PySem.F.slot_list_append PySem.F.type_list_append Ej (pv 2)
    (zB (BY (zB (pv 4) (zB (pv 5) (zB (zm zx (BA (As (As (As zJ)))) (AF (C5 U) hr (zB (pv 0) (As zJ)))) zJ)))) zJ))))))
  (zX (zu (BY (zB (AZ CD U.mLen (zB (pv 1) zJ)) (zB (Aq Ct U.mTuple (zB (AZ OO U.mSorted (zB (pv 2) zJ)) zJ)) zJ))))))),?_}
 show⟨_,rfl,_,rfl,t,p0,N,4,rfl,T,(),by decide,by decide,λr0 H0 a0 b0 T0 pB=>?_⟩;show{5,?_};let s0:Sm t H H0:=Bi pB;show⟨t,N+1,11+r0,rfl,⟨p0,T0⟩,(),(),(),λpa os H1 lZ oB pm FA sm1=>?_⟩;let{p,T1}:=FA;let hol:os.length=(11+r0).toNat:=by let:=pm.length_eq;rwa [Ht] at this
 let nd:os.Nodup:=pm.nodup_iff.mpr ((Sl _).imp λh=>());show{zd _,λD hD=>?_};let nD:=(T1.ne hD).1;let nDp:=(T1.ne hD).2;let s01:=s0.trans sm1;let hD0:H D=none:=by
  cases q:H D with
  | none=>rfl
  | some o=>rw[s01 _ _ nD q] at hD;cases hD
 let W0:RW H t p D pa (N+25) os 0 (upd H1 D (.lst [])):={s01.trans (Sm.laid hD),(T1.laid hD).mono (),zG hD _ _ oB,[],[],zF,trivial,0,λj t h=>by simp at h};generalize upd H1 D (.lst [])=H2 at W0 ⊢;show{1,pa,1,.inr (AD.of W0.rw),?_};rw[show (((os.map V.int).length:Nat):Int)=11+r0 from by rw[zA];lia];show⟨1,11+r0,rfl,{by decide,by decide,(),()},Es (lo:=1) (n:=(11+r0-1).toNat) (λi σ H5=>i<=(11+r0-1).toNat/\∃(v3 v4 v5:Option V),σ=[some (.ref t),some (.ref pa),some (.ref D),v3,v4,v5]/\RW H t p D pa (N+25+i) os i H5) {zd _,_,7,W0} ?turn ?after⟩
 case turn=>
  rintro i σ H5 hi ⟨_,v3,v4,v5,rfl,W⟩;obtain⟨x,hx⟩:∃x,os[i]?=some x:={_,zC ()};obtain⟨y,hy⟩:∃y,os[i+1]?=some y:={_,zC ()};let hxy:x≠y:=λz=>by
   subst z;let:=(List.getElem?_inj (zH.mp hx).1 nd).mp (hx.trans hy.symm)
   lia
  show⟨_,rfl,_,rfl,1+(i:Int),1,rfl,rfl,pa,_,_,.int x,rfl,rfl,AD.of W.rw,?_,?_⟩
  . rw[show 1+(i:Int)-1=i from by lia];show Bb (by rw[zK,hx];rfl)
  show{4,pa,3,.int y,2,AD.of W.rw,?_,B7,λc1 hc1=>?_}
  . rw[show 1+(i:Int)=((i+1:Nat):Int) from by lia];show Bb (by rw[zK,hy];rfl)
  show{c1,[x,y],0,AA.of zF,by change 2<64;decide,λc2 ms pC mi hrm=>?_};let{a,b,0,hab,hor}:=eT hxy mi hrm;let s4:AE H5 (upd (upd H5 c1 (.lst [.int x,.int y])) c2 (.lst ([a,b].map V.int))):=(zG hc1).trans (zG pC);let hc24:(upd (upd H5 c1 (.lst [.int x,.int y])) c2 (.lst ([a,b].map V.int))) c2=some (.lst ([a,b].map V.int)):=zF;generalize upd (upd H5 c1 (.lst [.int x,.int y])) c2 (.lst ([a,b].map V.int))=H6 at s4 hc24 ⊢;let W6:=W.on nD (Sm.of s4) (W.tp.same s4);show{c2,1,AA.of hc24,0,.int a,1,.int b,_,2,?_};let{ys,ts,mZ,TA6,hts,hrt}:=W6.ties;show{1,.inl {0,_,AA.of mZ},4,GH,λe he=>?_};show⟨_,rfl,t,p,N+25+i,3,rfl,W6.tp.laid he,(),by decide,by decide,λdr H7 d0 d1 T7 e7=>?_⟩;let nE:e≠t:=(W6.tp.ne he).1;let{g,hg,hga}:=SJ (L:=[1,2,99]) d0 d1;let hgb:1<=g/\g<=99:=by
   let:∀m∈([1,2,99]:List Int),1<=m/\m<=99:=by decide
   show this g hg
  show{e,_,5,AA.of (by rw[e7 e nE];show zF),hga,GH,λq hq=>?_};let s67:Sm t H6 H7:=(Sm.laid he).trans (Bi e7);let md:Sm t H6 (upd H7 q (.tup [.int a,.int b,.int g])):=s67.trans (Sm.laid hq);let J:=md _ _ nD mZ;let T8:=T7.laid (o:=.tup [.int a,.int b,.int g]) hq;let hq8:(upd H7 q (.tup [.int a,.int b,.int g])) q=some (.tup [.int a,.int b,.int g]):=zF;let TA8:=TA6.keep λx zs e=>md _ _ (W6.tp.neT e) e;let I:=md _ _ (W6.tp.neT W6.rw) W6.rw;generalize upd H7 q (.tup [.int a,.int b,.int g])=H8 at md J T8 hq8 TA8 I ⊢;show{D,ys,_,2,J,?_,?_}
  . let e:=TA6.length;rw[zA,hts] at e;show BJ ()
  show{hi,_,7,{(W6.sm.trans md).chg hD0,(T8.upd nD nDp).mono (),?_,_,ts++[(a,b,g)],zF,?_,by rw[zS,hts];rfl,λj u hj=>?_}}
  . rw[zg (AJ I J (by intro z;cases z))];show I
  . rw[zO];show (TA8.keep λc xs e=>?_).snoc {q,0,?_,by simp[tl]}
    . rw[zg (AJ e J (by intro z;cases z))];show e
    . rw[zg (AJ hq8 J (by intro z;cases z))];show hq8
  . by_cases c:j<ts.length
    . rw[zV c] at hj;show hrt j u hj
    . rw[zW ()] at hj;let ej:j=ts.length:=by
       cases hz:j-ts.length with
       | zero=>lia
       | succ m=>rw[hz] at hj;simp at hj
      subst ej;rw[E4] at hj;cases hj;rw[hts];show⟨x,y,hx,hy,hab,hor,hgb.1,hgb.2⟩
 case after=>
  rintro σ H5 ⟨_,v3,v4,v5,rfl,W⟩;let{ys,ts,k7,TA5,hts,hrt}:=W.ties;show{1,pa,1,.inr (AD.of W.rw),1,D,ys,ts.map tl,0,AA.of k7,TA5,by rw[zA];lia,λl1 us ms k8 TA6 mi nM=>?_};rw[show (((os.map V.int).length:Nat):Int)=11+r0 from by rw[zA];lia];show{l1,us,0,.inl {AA.of zF,λl2 kY=>?_}};obtain⟨ku,pF,hpt⟩:∃ku:List T3,ku.map tl=ms/\ku.Perm ts:=by
   show{ms.map λk=>(k.getD 0 0,k.getD 1 0,k.getD 2 0),?_,?_}
   . rw[DY]
     conv=>rhs;rw[<-List.map_id ms]
     show Hk λk hk=>?_;let{t',1}:=zy.mp (mi.mem_iff.mp hk);rfl
   . let:=mi.map λk:List Int=>((k.getD 0 0,k.getD 1 0,k.getD 2 0):T3);rw[DY] at this;let e:ts.map ((λk:List Int=>((k.getD 0 0,k.getD 1 0,k.getD 2 0):T3))∘tl)=ts:=by
      conv=>rhs;rw[<-List.map_id ts]
      show Hk λt' _=>rfl
     rw[e] at this;show this
  let G:GW (11+r0) ku:=Ls () () pm () hrt hpt;show{B7,λwa kc=>?_};let nV:AE H5 (upd (upd (upd H5 l1 (.lst us)) l2 (.tup us)) wa (.tup [.int (11+r0),.ref l2])):=((zG k8).trans (zG kY)).trans (zG kc);let hw5:H5 wa=none:=CI ((zG k8).trans (zG kY)) kc;let hw0:H wa=none:=by
   cases q:H wa with
   | none=>rfl
   | some o=>rw[W.sm _ _ (W.tp.ne hw5).1 q] at hw5;cases hw5
  show k wa (11+r0) ku _ hw0 () (by rw[hpt.length_eq];lia) {l2,us,zF,?_,?_,G} (by rw[pF];show nM) {p,(W.tp.same nV).mono ()} (W.sm.trans (Sm.of nV))
  . rw[zg (zp zF kc)];show zF
  . rw[pF];show TA6.keep λc xs e=>nV _ _ e
end K73
namespace K73
open PySem L2 WM
open DG
variable {P:Program}{w:World}{K:AG}{mg:Aj}{base:Heap}{PT:Addr}{X:Cx}
def Sj (h0:0<=k)(C:k<1000000):PySem.intText? (sN k)=some k/\(sN k).length<=20:=by let o:=Dk h0 (show k<1000000000000000 by lia);let{m,0}:=E5 h0;let:=(NF m).reads (zn o (by decide));rw[bD] at this;show⟨this,o⟩
inductive Zm (C:Addr)(D:Addr)(PT:Addr)(vs:List V)(H:Hp)(Q:VK):Prop
 | mk:∀(dk dd kp dx la wa oa wb ob:Addr)(n:Int)(ts:List T3)(os:List Int)(ess:List (List En)),(vs=[.ref dk,.ref wb,.ref ob])->(BO H C D PT dk dd kp dx la wa oa n ts os ess)->(Af H wb n ts)->(H ob=some (.tup (os.map V.int)))->(∀(H':Hp),AE H H'->Q (.bl true) H')->Zm C D PT vs H Q
def Qc (C D PT:Addr):Sp:=λo H Q _=>Zm C D PT o H Q
section
variable {P:Program}{w:World}{K:AG}{mg:Aj}{base:Heap}{C D gI gS PT:Addr}
def Nf:zl ["_law_desk","_law_web_here","_law_order_here","_law_lines_here","_law_rows_here","_law_place","_law_hubs_here"] HR.p (defScope HR.s):=AK
def MQ (U:Ws P w K mg base PT C D):Fz P w K mg base 12 HR (Qc C D PT):=by
 show U.Lbt.okZ Nf λ_ _ A _ _ H vs Q E hr h=>?_;let{dk,dd,kp,dx,la,wa,oa,wb,ob,n,ts,os,ess,0,J,WB,hob,k}:=h;let mV:=hr.units0;let n1:=J.up.gw.n1;let n24:=J.up.gw.n24;let ln:=J.ln;let KD:=J.ka.kd;let{ta,tys,lI,3,G}:=id WB;let{rk,R,LO}:=J.ka.lof;let O:=J.ka.od;show{_,zN (AX (i:=3) Nf.nd (AF (Se U) hr (zB (pv 0) (zB (zm AM (pv 1) zb) zJ))))
  (zN (AX (i:=4) Nf.nd (AF (ZW U) hr (zB (pv 1) zJ)))
  (zN (Bn (CO rfl U.mRange (zB (zm AM (pv 1) zb) zJ)) (Ay (i:=5) Nf.nd)
   (zN (DZ (i:=6) (own:=["_law_word"]) (cn:=[]) (ci:=[]) Nf.nd rfl (Or.inl rfl) rfl (Ai rfl rfl) trivial rfl
    (CQ (Dz Jo (BE PySem.F.plainAttrs_str PySem.F.slot_str_split PySem.F.type_str_split Gi (zm zx (pv 3) (pv 5)) (zB AW zJ)) (Di zb) Ek)) (λ_ _ _ _=>Ah) (λ_ _ _ _=>A8)
    (λ_ _ _ _=>Aq Uh U.mInt (zB (zm DX (aJ PySem.F.plainAttrs_str PySem.F.slot_str_split PySem.F.type_str_split Gi (pv 0) (zB AW zJ)) zb) zJ)))
   (zX (AU (zt (Ks mV) (pv 6) (AF (J9 U) hr (zB (pv 4) (zB (pv 2) (zB (pv 5) zJ)))) (zw _)) BH AV))))
  (zX (zu (AF (Y0 U) hr (zB (pv 0) (zB (zm AM (pv 1) zb) zJ))))))),?_}
 show{4,wb,3,.int n,2,AD.of lI,0,dk,dd,kp,dx,la,wa,oa,n,ts,os,ess,0,J,λl H1 s1 m7 hl=>?_};show{1,wb,n,ts,0,WB.keep s1,λfl rs M H2 s2 hfl0 hfl LR RR=>?_};let lK:=s1.trans s2;show{1,wb,3,.int n,2,AD.of (lK _ _ lI),0,n,0,(),(),Es (lo:=0) (n:=n.toNat) (λq σ H5=>El λ(v5 v6:Option V)=>σ=[some (.ref dk),some (.ref wb),some (.ref ob),some (.ref l),some (.ref fl),v5,v6]/\AE H2 H5) {7,AE.refl _} (λq σ H5 hq z=>?_) (λσ H5 z=>?_)}
 . let{v5,v6,0,s5}:=z;rw[CC];let{es,he,hh}:=N4 (ess:=ess) (i:=q) ();let eb:=KD.esb n24 es (zQ he);let{o1,o2,o3,o4}:=IF eb;let hl5:=s5 _ _ (s2 _ _ hl);let e3:Txt.split (lW es) (Str.ofString " ")=lab::es.map eW:=o3;show{4,l,3,.str (lW es),2,AA.of hl5,Bb hh,0,lW es,_,9,(),λlw hlw=>?_};rw[e3];let s6:=zG (o:=.lst ((lab::es.map eW).map V.str)) hlw;show⟨1,rfl,lw,_,rfl,AA.of zF,λp hp=>?_⟩;let s7:=s6.trans (zG (o:=.lst (BV ((lab::es.map eW).map V.str) (some 1) none)) hp);let hp7:(upd (upd H5 lw (.lst ((lab::es.map eW).map V.str))) p (.lst (BV ((lab::es.map eW).map V.str) (some 1) none))) p=some (.lst ((es.map eW).map V.str)):=by rw[zF];show congrArg (λz=>some (HO.lst z)) (Ry _ 1)
   generalize upd (upd H5 lw (.lst ((lab::es.map eW).map V.str))) p (.lst (BV ((lab::es.map eW).map V.str) (some 1) none))=H7 at s7 hp7 ⊢;show{p,0,{_,AA.of hp7},[],0,λB hB=>?_};show DJ (a:=p) (xs:=(es.map eW).map V.str) (λi ys H8=>ys=((es.take i).map (·.h)).map V.int/\AE H7 H8/\H8 B=some (.lst ys)) {0,zG hB,zF} (λi ys H8 z=>?_) (λi ys H8 z=>?_) (λi v ys H8 hv z=>?_) (λys H8 z=>?_)
   . show AA.of (z.2.1 _ _ hp7)
   . let:=eb.l;let h2:=List.length_take_le' i es;rw[z.1,zA,zA];show Bm ()
   . let{0,s8,h8}:=z;rw[zK,zK] at hv;cases ee:es[i]? with
     | none=>rw[ee] at hv;cases hv
     | some e=>rw[ee] at hv;cases hv;let ebe:=eb.e e (zQ ee);let{w1,w2,w3}:=NN ebe;let er:=ebe.ok.rng;let{rd,rl}:=Sj (k:=e.h) er.1 ();show{{2},A7 {_,2,eW e,_,9,(),λlc hlc=>?_}};let e4:Txt.split (eW e) (Str.ofString ":")=(Cn e).map oT:=w2;rw[e4];let s9:=zG (o:=.lst (((Cn e).map oT).map V.str)) hlc;show{lc,3,.str (sN e.h),2,AA.of zF,0,sN e.h,e.h,0,rd,(),s9 _ _ h8,?_,A4 (s8.trans s9) hB,zF};rw[ze,ee,zO,zO];rfl
   . let{0,s8,h8}:=z;rw[zA,zA,zR (zL _)] at h8;let I:=s5.trans (s7.trans s8);show{4,4,fl,ob,rs,M,n,(q:Int),ts,os,rk,es,0,I _ _ hfl,LR.same I,RR,G,(lK.trans I) _ _ hob,O,R,(),LO.2 q es he,λlh H9 s9 hlh=>?_};show{B,lh,es.map (·.h),es.map (·.h),2,AA.of (s9 _ _ h8),AA.of hlh,1,AL (by simp) ?_};show{7,I.trans s9}
 . let{v5,v6,0,s5}:=z;let mU:=lK.trans s5;show{4,wb,3,.int n,2,AD.of (mU _ _ lI),0,dk,dd,kp,dx,la,wa,oa,n,ts,os,ess,0,J.same mU,λH6 s6=>k H6 (mU.trans s6)}
end
end K73
namespace K73
open PySem L2 WM
open DG
variable {P:Program}{w:World}{K:AG}{mg:Aj}{base:Heap}{PT:Addr}{X:Cx}
def Wv (z)(x y):z++Av++(sN x++Av++sN y)=Str.join Av (z::[x,y].map sN):=rfl
def iw (x y):Str.ofString "told " ++ (sN x++Av++sN y)=Str.join Av (Str.ofString "told" :: [x,y].map sN):=by rw[show Str.ofString "told "=Str.ofString "told" ++ Av from by decide];rfl
def fH (x y):Str.ofString "walk " ++ (sN x++Av++sN y)=Str.join Av (Str.ofString "walk" :: [x,y].map sN):=by rw[show Str.ofString "walk "=Str.ofString "walk" ++ Av from by decide];rfl
def eh (x y):Str.ofString "step " ++ (sN x++Av++sN y)=Str.join Av (Str.ofString "step" :: [x,y].map sN):=by rw[show Str.ofString "step "=Str.ofString "step" ++ Av from by decide];rfl
def LJ (I:ps≠[])(h:∀p∈ps,0<=p/\p<24)(hl:ps.length<=24):Txt.split (Gx ps) (Str.ofString " ")=ps.map sN/\(Gx ps).length<=2000:=by
 let e:Gx ps=Str.join Av (ps.map sN):=by
  cases ps with
  | nil=>show absurd rfl I
  | cons p r=>show StrLaws.glued_eq_join _ _
 let w:∀z∈ps.map sN,z.length<=20/\32∉z.cps.toList:=λz C=>by
  let{k,J,0}:=zy.mp C;let U:=h k J;let{a,b}:=Up (o:=some k) λj e=>by cases e;lia
  show{a,b 32 (.inl rfl)}
 rw[e];show{SW (λz=>I (List.map_eq_nil_iff.mp z)) λz C=>(w z C).2,?_};show zn (NA (by decide) _) (zn (D8 (b:=20) λz C=>(w z C).1) ?_);rw[zA]
 lia
def jd (J:Ds ts n x y d ps s0 y r)(h0:ps[0]?=some x)(o:∀k a b,ps[k]?=some a->ps[k+1]?=some b->a≠y/\GL ess y a b):
 ∃qs:List Int,BV (ps.map V.int) (some 1) (some 2)=qs.map V.int/\((qs=[]/\x=y)\/∃p,qs=[p]/\p∈ps/\x≠y/\GL ess y x p):=by
 let{pre,e}:=J.ls
 match ps,h0 with
 | [a],h0=>
  obtain rfl:a=x:=zT h0;show{[],0,.inl {0,?_}};cases pre with
  | nil=>show (GP e).1
  | cons b q=>have:=congrArg List.length e;simp at this
 | a::b::q,h0=>
  obtain rfl:a=x:=zT h0;let{I,C}:=o 0 a b rfl rfl;show{[b],?_,.inr {b,0,by simp,I,C}};let s1:HT.sIx ((a::b::q).map V.int).length 0 (some (1:Int))=1:=by unfold HT.sIx;rw[zA];simp only[zj];split <;> lia
  let s2:HT.sIx ((a::b::q).map V.int).length ((a::b::q).map V.int).length (some (2:Int))=2:=by unfold HT.sIx;rw[zA];simp only[zj];split <;> lia
  unfold BV;rw[s1,s2];rfl
meta def GB:List Str:=[Str.ofString "told",Str.ofString "step",Str.ofString "walk"]
def fb:∀z∈GB,z.length<=10:=by decide
def Eh.dash {C PT kp dx oa:Addr}{n x y:Int}{ts:List T3}{os:List Int}{ess:List (List En)}{H:Hp}{Q:VK}(r:R2 n x y)(nw:A9 ts x y none)(q:∀H',AE H H'->Q (.str dash) H'):∀z∈GB,Eh C PT kp dx oa n ts os ess z [x,y] H Q:=λz hz=>by
 unfold GB at hz;rcases zZ.mp hz with rfl | hz
 . show .inr <| .inr <| .inl {x,y,2,r,λo H' J I=>?_};cases o with
   | none=>show q H' I
   | some d=>show absurd J.1 (nw d)
 rcases zZ.mp hz with rfl | hz
 . show .inr <| .inr <| .inr <| .inl {x,y,2,r,λo H' J I=>?_};rw[J.2.1 nw];show q H' I
 rw[zf.mp hz];show .inr <| .inr <| .inr <| .inr <| .inl {x,y,2,r,λps H' U I=>?_};rcases U with ⟨rfl,_⟩ | ⟨d,_,_,hd,_⟩
 . show q H' I
 . show absurd hd.1 (nw d)
def ON {v:V}:Bl (xs++[v]) (-1)=some v:=by change ((DP (xs++[v]).length (-1)).bind λj=>(xs++[v])[j]?)=some v;rw[zS,show DP (xs.length+[v].length) (-1)=some xs.length from by unfold DP;rw[if_neg (),if_pos (by simp;lia)];congr 1;simp;lia];simp
inductive cX (C:Addr)(D:Addr)(PT:Addr)(vs:List V)(H:Hp)(Q:VK):Prop
 | mk:∀(dk dd kp dx la wa oa wb:Addr)(n x y:Int)(ts:List T3)(os:List Int)(ess:List (List En)),(vs=[.ref dk,.ref wb,.int x,.int y])->(BO H C D PT dk dd kp dx la wa oa n ts os ess)->(Af H wb n ts)->(R2 n x y)->(∀(H':Hp),AE H H'->Q (.bl true) H')->cX C D PT vs H Q
def O8 (C D PT:Addr):Sp:=λo H Q _=>cX C D PT o H Q
section
variable {P:Program}{w:World}{K:AG}{mg:Aj}{base:Heap}{C D gI gS PT:Addr}
def Sg:zl ["_law_desk","_law_web_here","_law_one","_law_other","_law_due","_law_pair","_law_places"] G1.p (defScope G1.s):=AK
def Jv (U:Ws P w K mg base PT C D):Fz P w K mg base 10 G1 (O8 C D PT):=by
 show U.Wyr.okZ Sg λ_ _ A _ _ H vs Q E hr h=>?_;let{dk,dd,kp,dx,la,wa,oa,wb,n,x,y,ts,os,ess,0,DA,WB,r,k}:=h;let mV:=hr.units0;let n24:=DA.up.gw.n24;let rx:=r.1;let ry:=r.2;let{ta,tys,lI,3,G}:=id WB;let sl:10000000<=sizeLine:=by decide
 let lx:=Fd (k:=x) ();let ly:=Fd (k:=y) ();let lx':(sN x).length<=20:=lx;let ly':(sN y).length<=20:=ly;show{_,zN (AX (i:=4) Sg.nd (zm zx (zm zx (AF (ZW U) hr (zB (pv 1) zJ)) (pv 2)) (pv 3)))
  (zN (C8 (i:=5) Sg.nd rfl (Or.inr rfl) (AQ GR (AQ GR (Aq C3 U.mStr (zB (pv 2) zJ)) AW) (Aq C3 U.mStr (zB (pv 3) zJ))))
  (zN (AU (zt SU (pv 4) (AQ OK zb zb) (zw _)) (zX (zu (BS (gi mV) (BB (own:=["_law_word"]) (cn:=["_law_desk","_law_pair"]) (ci:=[0,5]) rfl (Ai rfl rfl) {9,9,trivial} rfl (CQ (BA (zB AW (zB AW (zB AW zJ))))) (λ_ _ _ _=>Ah) (λ_ _ _ _=>A8)
   (λ_ _ _ _=>C6 (pv 1) (Fj U) hr (zB (AQ GR (AQ GR (pv 0) AW) (pv 2)) zJ))) (BA (zB AW (zB AW (zB AW zJ)))) (zw _)))) AV)
  (zN (AU (zt Cb (C6 (pv 0) (Fj U) hr (zB (AQ GR AW (pv 5)) zJ)) (Aq C3 U.mStr (zB (pv 4) zJ)) (zw _)) BH AV)
  (zN (C8 (i:=6) Sg.nd rfl (Or.inr rfl) (BB (own:=["_law_word"]) (cn:=[]) (ci:=[]) rfl (Ai rfl rfl) trivial rfl (CQ (BE PySem.F.plainAttrs_str PySem.F.slot_str_split PySem.F.type_str_split Gi (C6 (pv 0) (Fj U) hr (zB (AQ GR AW (pv 5)) zJ)) (zB AW zJ))) (λ_ _ _ _=>Ah) (λ_ _ _ _=>A8)
   (λ_ _ _ _=>Aq Uh U.mInt (zB (pv 0) zJ))))
  (zN (AU (PW.pt (Cs (zt Cb (zm zx (pv 6) zb) (pv 2) (zw _)) (DO (zt Cb (zm zx (pv 6) (Hx Hl zb)) (pv 3) (zw _))))) BH AV)
  (zN (AU (zt Cb (AZ (Uz rfl) U.mSum (zB (BB (own:=["_law_k"]) (cn:=["_law_web_here","_law_places"]) (ci:=[1,6]) rfl (Ai rfl rfl) {9,9,trivial} rfl (R9 rfl U.mRange (As (zB (AZ CD U.mLen (zB (pv 6) zJ)) zJ))) (λ_ _ _ _=>Ah) (λ_ _ _ _=>A8)
   (λ_ _ _ _=>AF (Lq U) hr (zB (pv 1) (zB (zm DX (pv 2) (AQ ED (pv 0) zb)) (zB (zm DX (pv 2) (pv 0)) zJ))))) zJ)) (pv 4) (zw _)) BH AV)
  (zX (zu (BS Am (C6 (pv 0) (Fj U) hr (zB (AQ GR AW (pv 5)) zJ)) (zm zx (AQ JU (BA (zB AW zJ)) (BB (own:=["_law_place"]) (cn:=[]) (ci:=[]) rfl (Ai rfl rfl) trivial rfl (CQ (Dz Jo (pv 6) (Di zb) (Di zb))) (λ_ _ _ _=>Ah) (λ_ _ _ _=>A8)
   (λ_ _ _ _=>Aq C3 U.mStr (zB (pv 0) zJ)))) (Hx Hl zb)) (zw _)))))))))),?_}
 show{1,wb,n,ts,0,WB,λfl rs M H1 s1 hfl0 hfl LR RR=>?_};let{ra,row,o,hra,nK,hat,hlen}:=Ru LR RR rx.1 rx.2 ry.1 ry.2;show{1,fl,3,.ref ra,2,AA.of hfl,Ac rx.1 (by rw[zK,hra];rfl),1,ra,_,5,AA.of nK,hat,?_};show{1,x,0,(),5,by rw[B0,show (Str.ofString " ").length=1 from by decide];lia,1,y,0,(),5,?_,?_}
 . rw[B0,B0,show (Str.ofString " ").length=1 from by decide];change (sN x).length+1+(sN y).length<=sizeLine;lia
 let pl:(sN x++Av++sN y).length<=50:=by rw[B0,B0,show Av.length=1 from by decide];lia
 let lR:∀z:Str,z.length<=10->(z++(sN x++Av++sN y)).length<=sizeLine:=λz hz=>by rw[B0];lia
 let D1:=DA.same s1;let ew:=Gb G rx.1 rx.2 hlen;let e6:(10:Int) ^ (6:Int).toNat=1000000:=rfl;show{1,5,{by decide,by decide,by decide},_,8,?_};change if decide (Bq o ≥ (10:Int) ^ (6:Int).toNat)=true then _ else _
 rw[e6];by_cases c:Bq o ≥ 1000000
 . show BG (zY c) ?_;let nw:A9 ts x y none:=by
    cases o with
    | none=>show hlen
    | some e=>show absurd (ew.1.mpr ⟨e,hlen⟩) ()
   show{GH,λlq hlq=>?_};let s2:=zG (o:=.lst (GB.map V.str)) hlq;let hq2:(upd H1 lq (.lst (GB.map V.str))) lq=some (.lst (GB.map V.str)):=zF;rw[show (HO.lst [.str (Str.ofString "told"),.str (Str.ofString "step"),.str (Str.ofString "walk")])=.lst (GB.map V.str) from rfl];generalize upd H1 lq (.lst (GB.map V.str))=H2 at s2 hq2 ⊢;show{lq,0,{_,AA.of hq2},[.ref dk,.str (sN x++Av++sN y)],0,λB hB=>?_};show DJ (a:=lq) (xs:=GB.map V.str) (λi I H4=>i<=3/\I=(List.replicate i dash).map V.str/\AE H2 H4/\H4 B=some (.lst I)) {zd _,0,zG hB,zF} (λi I H4 z=>?_) (λi I H4 z=>?_) (λi v I H4 hv z=>?_) (λI H4 z=>?_)
   . show AA.of (z.2.2.1 _ _ hq2)
   . rw[z.2.1,zA,Cq];let:=z.1;show Bm ()
   . let{1,s4,h4}:=z;let hi:i<3:=(zH.mp hv).1;let D4:=D1.same (s2.trans s4);rw[zK] at hv;cases ez:GB[i]? with
     | none=>rw[ez] at hv;cases hv
     | some z=>
      rw[ez] at hv;cases hv;let hz:=zQ ez;let hz10:=fb z hz;show{{2},A7 {1,dk,dd,1,D4.ins,6,5,by rw[B0,show (Str.ofString " ").length=1 from by decide];lia,1,5,?_,D4.say (.inr (.inr {z,[x,y],Wv z x y,Eh.dash r nw (λH5 s5=>{s5 _ _ h4,(),?_,A4 (s4.trans s5) hB,zF}) z hz}))}}
      . rw[B0,B0,show (Str.ofString " ").length=1 from by decide];lia
      . rw[JY,zO];rfl
   . let{1,s4,h4}:=z;show{GH,λl3 hl3=>?_};show{B,l3,List.replicate 3 dash,[dash,dash,dash],2,AA.of (zG hl3 _ _ h4),AA.of zF,?_};rw[show decide (List.replicate 3 dash=[dash,dash,dash])=true from zY rfl];show k _ (s1.trans (s2.trans (s4.trans (zG hl3))))
 show AL (za c) ?_;let{d,hd}:=ew.1.mp ();let{ed,d0,d1}:=ew.2 d hd;show{1,dk,dd,1,D1.ins,6,5,lR (Str.ofString "told ") (by decide),D1.say (.inr (.inr {Str.ofString "told",[x,y],iw x y,.inr <| .inr <| .inl {x,y,2,r,λo2 H2 mT s2=>?_}}))};let eo:o2=some d:=by
  cases o2 with
  | none=>show absurd hd.1 (mT d)
  | some d2=>rw[WM.IsD.uniq mT hd]
 subst eo;show{4,by rw[ed];lia,6,AL (by rw[ed,zY (show V.str (oT (some d))=V.str (Str.ofString (toString d)) from rfl)];rfl) ?_};let lK:=s1.trans s2;let D2:=DA.same lK;show{1,dk,dd,1,D2.ins,6,5,lR (Str.ofString "walk ") (by decide),D2.say (.inr (.inr {Str.ofString "walk",[x,y],fH x y,.inr <| .inr <| .inr <| .inr <| .inl {x,y,2,r,λJ H3 wk s3=>?_}}))};let pr:=wk.rng n24;let p24:=wk.len;rcases wk with ⟨_,nw⟩ | ⟨d',s0,r0,hd',LD,_,h0,hs⟩
 . show absurd hd.1 (nw d)
 cases WM.IsD.uniq hd' hd;let pne:J≠[]:=LD.st.ne;let{sp,spl}:=LJ pne pr p24;show{0,Gx J,_,9,(),λlw hlw=>?_};rw[sp];let s4:=zG (o:=.lst ((J.map sN).map V.str)) hlw;let hw4:(upd H3 lw (.lst ((J.map sN).map V.str))) lw=some (.lst ((J.map sN).map V.str)):=zF;generalize upd H3 lw (.lst ((J.map sN).map V.str))=H4 at s4 hw4 ⊢;show{lw,0,{_,AA.of hw4},[],0,λB hB=>?_};show DJ (a:=lw) (xs:=(J.map sN).map V.str) (λi I H5=>I=(J.take i).map V.int/\AE H4 H5/\H5 B=some (.lst I)) {0,zG hB,zF} (λi I H5 z=>?_) (λi I H5 z=>?_) (λi v I H5 hv z=>?_) (λI H5 z=>?_)
 . show AA.of (z.2.1 _ _ hw4)
 . let h2:=List.length_take_le' i J;rw[z.1,zA];show Bm ()
 . let{0,s5,h5}:=z;rw[zK,zK] at hv;cases ee:J[i]? with
   | none=>rw[ee] at hv;cases hv
   | some p=>rw[ee] at hv;cases hv;let kr:=pr p (zQ ee);let{rd,rl}:=Sj (k:=p) kr.1 ();show{{2},A7 {1,sN p,p,0,rd,(),h5,?_,A4 s5 hB,zF}};rw[ze,ee,zO];rfl
 let{0,s5,hB5}:=z;rw[zA,zA,zR (zL _)] at hB5;let mU:=lK.trans (s3.trans (s4.trans s5));let D5:=DA.same mU;let lastY:Bl (J.map V.int) (-1)=some (.int y):=by let{pre,e}:=LD.ls;rw[e,zO];show ON
 show{1,B,3,.int x,2,AA.of hB5,Bb (j:=0) (by rw[zK,h0];rfl),8,AL (by simp) ?_};show⟨_,rfl,1,rfl,B,_,_,.int y,rfl,rfl,AA.of hB5,lastY,_,rfl,rfl,_,rfl,AL (by simp) ?_⟩;let{ls,oE,hls,oN}:=LD.st.longs;let e0:r0=0:=(JO G LD.rm).mpr rfl;let esum:ls.sum=d:=by let:=LD.sm;lia
 let pl1:0<J.length:=List.length_pos_iff.mpr pne;show{1,B,1,.inl (AA.of hB5),?_};rw[show (((J.map V.int).length:Nat):Int)=(J.length:Int) from by rw[zA]];show⟨1,(J.length:Int),rfl,{by decide,by decide,(),()},[.ref wb,.ref B],rfl,λB2 hB2=>?_⟩;show Dw (lo:=1) (n:=((J.length:Int)-1).toNat) (λi I H6=>i<=ls.length/\I=(ls.take i).map V.int/\AE H5 H6/\H6 B2=some (.lst I)) {zd _,0,zG hB2,zF} (λi I H6 z=>?_) (λi I H6 hi z=>?_) (λI H6 z=>?_)
 . let h2:=List.length_take_le' i ls;rw[z.2.1,zA];show Bm ()
 . let{1,s6,h6}:=z;obtain⟨a,ha⟩:∃a,J[i]?=some a:={_,zC ()};obtain⟨b,hb⟩:∃b,J[i+1]?=some b:={_,zC ()};let{g,hg,had}:=oN i a b ha hb;let hB6:=s6 _ _ hB5;show{{2},A7 ⟨_,rfl,_,rfl,_,rfl,1+(i:Int),1,rfl,rfl,B,_,_,.int a,rfl,rfl,AA.of hB6,?_,_,rfl,_,rfl,B,_,_,.int b,rfl,rfl,AA.of hB6,?_,wb,n,a,b,g,ts,rfl,WB.keep (mU.trans s6),had,λH7 s7=>{s7 _ _ h6,(),?_,A4 (s6.trans s7) hB2,zF}⟩}
   . rw[show 1+(i:Int)-1=i from by lia];show Bb (by rw[zK,ha];rfl)
   . rw[show 1+(i:Int)=((i+1:Nat):Int) from by lia];show Bb (by rw[zK,hb];rfl)
   . rw[ze,hg,zO];rfl
 let{1,s6,h6}:=z;rw[show ((J.length:Int)-1).toNat=ls.length from by lia,zR (zL _)] at h6;let s06:=mU.trans s6;let D6:=DA.same s06;show{B2,ls,0,AA.of h6,8,AL (by rw[esum,ed];simp) ?_};show{1,dk,dd,1,D6.ins,6,5,lR (Str.ofString "step ") (by decide),D6.say (.inr (.inr {Str.ofString "step",[x,y],eh x y,.inr <| .inr <| .inr <| .inl {x,y,2,r,λo3 H7 ho3 s7=>?_}}))};show{FK,λl1 k8=>?_};let s8:=zG (o:=.lst [.str dash]) k8;let hl8:(upd H7 l1 (.lst [.str dash])) l1=some (.lst [.str dash]):=zF;generalize upd H7 l1 (.lst [.str dash])=H8 at s8 hl8 ⊢;let{qs,eq,hqs}:=jd LD h0 hs;show⟨_,rfl,1,rfl,2,rfl,B,_,rfl,AA.of (s8 _ _ (s7 _ _ (s6 _ _ hB5))),λp hp=>?_⟩;rw[eq];let s9:=zG (o:=.lst (qs.map V.int)) hp;let hp9:(upd H8 p (.lst (qs.map V.int))) p=some (.lst (qs.map V.int)):=zF;generalize upd H8 p (.lst (qs.map V.int))=H9 at s9 hp9 ⊢;let q1:qs.length<=1/\∀v∈qs,0<=v/\v<24:=by
  rcases hqs with ⟨rfl,_⟩ | ⟨v,rfl,vm,_⟩
  . show{zd _,nofun}
  . show{zL 1,λu hu=>by rw[zf.mp hu];show pr v vm}
 show{p,0,{_,AA.of hp9},[],0,λB3 hB3=>?_};show DJ (a:=p) (xs:=qs.map V.int) (λi I nU=>I=((qs.take i).map sN).map V.str/\AE H9 nU/\nU B3=some (.lst I)) {0,zG hB3,zF} (λi I nU z=>?_) (λi I nU z=>?_) (λi v I nU hv z=>?_) (λI nU z=>?_)
 . show AA.of (z.2.1 _ _ hp9)
 . let h2:=List.length_take_le' i qs;rw[z.1,zA,zA];show Bm ()
 . let{0,ny,h10}:=z;let{u,hu,0}:=Nx hv;let kr:=q1.2 u (zQ hu);show{{2},A7 {1,u,0,(),h10,?_,A4 ny hB3,zF}};rw[ze,hu,zO,zO];rfl
 let{0,ny,h10}:=z;rw[zA,zR (zL _)] at h10;show{l1,B3,5,ny _ _ (s9 _ _ hl8),h10,by rw[zA,zA];change 1+qs.length<=sizeLine;lia,λe he=>?_};let fin:AE H (upd nU e (.lst ([.str dash]++(qs.map sN).map V.str))):=(s06.trans (s7.trans (s8.trans (s9.trans ny)))).trans (zG he);rcases hqs with ⟨rfl,exy⟩ | ⟨v,rfl,vm,nxy,st⟩
 . show⟨1,rfl,e,_,_,.str dash,rfl,rfl,AA.of zF,rfl,rfl,?_⟩;rw[ho3.1 exy,show decide (V.str (oT none)=V.str dash)=true from zY rfl];show k _ fin
 . show⟨1,rfl,e,_,_,.str (sN v),rfl,rfl,AA.of zF,rfl,rfl,?_⟩;let{v',e3,lr}:=ho3.2.2.1 d nxy hd;rw[e3,GL.uniq lr st,show decide (V.str (oT (some v))=V.str (sN v))=true from zY rfl];show k _ fin
end
end K73
namespace K73
open PySem L2 WM
open DG
variable {P:Program}{w:World}{K:AG}{mg:Aj}{base:Heap}{PT:Addr}{X:Cx}
structure Ff (n:Int)(ts:List T3)(x y:Int)(lo:Option Int):Prop where
 hx:0<=x/\x<n
 hy:0<=y/\y<n
 ne:x≠y
 lg:∀l,lo=some l->1<=l/\l<=99
 st:lo=none->(E6 (AO x y) (AN x y) ts).isSome=true
def Zb (h:x≠y):AO x y=AO y x/\AN x y=AN y x:=by unfold AO AN;constructor <;> (split <;> split <;> lia)
def Ff.swap (h:Ff n ts x y lo):Ff n ts y x lo:=by show{h.hy,h.hx,h.ne.symm,h.lg,λe=>?_};rw[<-(Zb h.ne).1,<-(Zb h.ne).2];show h.st e
def Nk (T:Cf H PT pos q)(F:Ap H t N)(s:Sm t H H'):Cf H' PT pos q:=by
 let{p,ns,kW,rest,I,_}:=F;show T.keep (λo e=>?_) λc J e=>?_
 . show s _ _ (λz=>?_) e;let{U,C,_}:=T;rw[z,I] at C;cases C
 . show s _ _ (λz=>by rw[z,I] at e;cases e) e
def LF (I:GG a)(C:GG b)(h:oT a=oT b):a=b:=by
 let J:∀{k:Int},0<=k->¬ sN k=dash:=λ{k} h0 e=>by
  let{m,0}:=E5 h0;let hm:45∈(sN (m:Int)).cps.toList:=by rw[e];decide
  let:=(NF m).all 45 hm
  lia
 cases a with
 | none=>
  cases b with
  | none=>rfl
  | some k=>show absurd h.symm (J (C k rfl).1)
 | some k=>
  cases b with
  | none=>show absurd h (J (I k rfl).1)
  | some j=>have h1:=I k rfl;let h2:=C j rfl;let o:=(Sj (k:=k) h1.1 ()).1;let U:=(Sj (k:=j) h2.1 ()).1;rw[show sN k=sN j from h] at o;rwa[o] at U
def Zd:∀{as bs:List (Option Int)},(∀o∈as,GG o)->(∀o∈bs,GG o)->as.map oT=bs.map oT->as=bs
 | [],[],_,_,_=>rfl
 | [],_::_,_,_,h=>by cases h
 | _::_,[],_,_,h=>by cases h
 | a::as,b::bs,ha,hb,h=>by let{J,I}:=GP h;rw[LF (ha a zo) (hb b zo) J,Zd (λo C=>ha o (zr _ C)) (λo C=>hb o (zr _ C)) I]
def ZD :∀{es fs:List En},(∀e∈es,EB n e)->(∀e∈fs,EB n e)->es.map eW=fs.map eW->Bf es=Bf fs
 | [],[],_,_,_=>rfl
 | [],_::_,_,_,h=>by cases h
 | _::_,[],_,_,h=>by cases h
 | a::as,b::bs,ha,hb,h=>by let{h1,h2}:=GP h;let a1:=ha a zo;let J:=hb b zo;let I:=(NN a1).2.1;rw[h1,(NN J).2.1] at I;let U:=ZD (λo C=>ha o (zr _ C)) (λo C=>hb o (zr _ C)) h2;change Cn a::Bf as=Cn b::Bf bs;rw[Zd J.sm a1.sm I,U]
def Km (C:NT n es)(o:NT n fs):lW es=lW fs↔Bf es=Bf fs:=by
 constructor
 . intro h;let I:=(IF C).2.2.1;rw[h,(IF o).2.2.1] at I;show ZD C.e o.e (GP I).2.symm
 . intro h;let e:∀xs:List En,xs.map eW=(Bf xs).map λr=>Txt.join col (r.map oT):=λxs=>by unfold Bf;rw[DY];rfl
   change Txt.join Av (lab::es.map eW)=Txt.join Av (lab::fs.map eW);rw[e,e,h]
def C9 (t kp:Addr)(H H':Hp):Prop:=∀b o,b≠t->b≠kp->H b=some o->(∃C,o=.tbl C)\/H' b=some o
def C9.ofK (s:Az kp H H'):C9 t kp H H':=λb o _ n e=>s b o n e
def C9.ofS (s:Sm t H H'):C9 t kp H H':=λb o n _ e=>.inr (s b o n e)
def C9.trans (a:C9 t kp H H1)(b:C9 t kp H1 H2):C9 t kp H H2:=λc o n m e=>by
 rcases a c o n m e with z | z
 . show .inl z
 . show b c o n m z
def C9.get (s:C9 t kp H H')(n:b≠t)(m:b≠kp)(e:H b=some o)(h:∀ps,o ≠ .tbl ps):H' b=some o:=by
 rcases s b o n m e with ⟨ps,z⟩ | z
 . show absurd z (h ps)
 . show z
def BO.dkp {os:List Int}(h:BO H C D PT dk dd kp dx la wa oa n ts os ess):dk≠kp:=AJ h.ins h.ka.ins (by intro z;injection z with _ _ z;cases z)
def BO.sm {os:List Int}(h:BO H C D PT dk dd kp dx la wa oa n ts os ess)(F:Ap H t N)(s:Sm t H H'):BO H' C D PT dk dd kp dx la wa oa n ts os ess:=by let{p,ns,kW,rest,I,_}:=id F;let J:∀b o,H b=some (.tup o)->H' b=some (.tup o):=λb o e=>s _ _ (AJ e I (by intro z;cases z)) e;let U:kp≠t:=AJ h.ka.ins I (by intro z;cases z);show{s _ _ (AJ h.ins I (by intro z;cases z)) h.ins,h.ka.keep ((s _ _ U h.ka.ins).trans h.ka.ins.symm) J,h.up,Nk h.tb F s}
def Af.smF (h:Af H wa n ts)(F:Ap H t N)(s:Sm t H H'):Af H' wa n ts:=by let{p,ns,I,rest,o,_}:=id F;show h.keepT λb C e=>s _ _ (AJ e o (by intro z;cases z)) e
meta def Gd (x y:Int):Option Int->Str
 | some l=>Str.join Av (Str.ofString "put" :: [x,y,l].map sN)
 | none=>Str.join Av (Str.ofString "strike" :: [x,y].map sN)
def ZR (h:Ff n ts x y lo)(o:n<=24):(Gd x y lo).length<=1000000:=by
 let I:=h.hx;let C:=h.hy;cases lo with
 | none=>show RV (z:=Str.ofString "strike") (ns:=[x,y]) (by decide) (λk hk=>by rcases zZ.mp hk with rfl | hk;lia;rw[zf.mp hk];lia) (by change 2<=24;decide)
 | some l=>have J:=h.lg l rfl;show RV (z:=Str.ofString "put") (ns:=[x,y,l]) (by decide) (λk hk=>by rcases zZ.mp hk with rfl | hk;lia;rcases zZ.mp hk with rfl | hk;lia;rw[zf.mp hk];lia) (by change 3<=24;decide)
def jT (lo):∃c,Bl (Gd x y lo).cps.toList 0=some c/\decide (V.str {#[c]}=V.str (Str.ofString "p"))=lo.isSome:=by
 let o:∀{xs:List Nat}{c:Nat},xs.head?=some c->Bl xs 0=some c:=λ{xs c} h=>by show Bb (j:=0) (by rwa[<-List.head?_eq_getElem?])
 cases lo with
 | none=>show⟨115,o (Ve (w:=Str.ofString "strike") (by decide) _),by decide⟩
 | some l=>show⟨112,o (Ve (w:=Str.ofString "put") (by decide) _),by change decide (V.str {#[112]}=V.str (Str.ofString "p"))=true;decide⟩
def BO.deed {os:List Int}(h:BO H C D PT dk dd kp dx la wa oa n ts os ess)(d:Ff n ts x y lo)(o:ts.length<60)(q:KQ C PT kp dx oa n x y lo ts os ess H Q):UU C D PT [.ref dk,.str (Gd x y lo)] H Q E0:=by
 cases lo with
 | some l=>show h.say (.inr (.inr {Str.ofString "put",[x,y,l],0,.inl {x,y,l,2,⟨d.hx,d.hy⟩,d.ne,d.lg l rfl,o,q}}))
 | none=>show h.say (.inr (.inr {Str.ofString "strike",[x,y],0,.inr <| .inl {x,y,2,⟨d.hx,d.hy⟩,d.ne,d.st rfl,o,q}}))
def BO.after {os:List Int}(h:BO H C D PT dk dd kp dx la wa oa n ts os ess)(J:ts.length<60)(s:Az kp H H')(T:Tb H' PT)(K:BP H' C kp dx kq wb oa n ko os kU)(A:Cw (AO x y) (AN x y) lo ts ko):BO H' C D PT dk dd kp dx kq wb oa n ko os kU/\ko.length<=ts.length+1:=by
 let o:ko.length<=ts.length+1:=by
  rw[A.pm.length_eq,zS];let h1:=NQ (AO x y) (AN x y) ts;let U:(E7 (AO x y) (AN x y) lo).length<=1:=by cases lo <;> simp[E7]
  lia
 show{{s.get h.dkp h.ins (by intro I z;cases z),K,.of K.gd.1 A.sr (),T},o}
def cZ :CA (n+1) a b=CA n a b++(if (!decide (Bf (a.getD n [])=Bf (b.getD n [])))=true then [(n:Int)] else []):=by
 unfold CA lowTo;rw[List.range_succ,zO,Gf];congr 1;by_cases c:(!decide (Bf (a.getD n [])=Bf (b.getD n [])))=true
 . rw[if_pos c];show Np c
 . rw[if_neg c];show Nj c
def VL {ws:List Str}(h:∀z∈ws,z.length<=20)(o:autoParam (ws.length<=24) d_._auto_13):(ws.map λy=>y.length).sum+ws.length<=1048576:=by
 rw[GO];let:=D8 h
 lia
inductive bG (C:Addr)(D:Addr)(PT:Addr)(vs:List V)(H:Hp)(Q:VK):Prop
 | mk:∀(t dk dd kp dx la wa oa wb:Addr)(N:Nat)(n:Int)(ts:List T3)(os:List Int)(ess:List (List En)),(vs=[.ref t,.ref dk,.ref wb])->(Ap H t N)->(N<800000)->(BO H C D PT dk dd kp dx la wa oa n ts os ess)->(Af H wb n ts)->(2<=n)->(ts.length<60)->(∀(kq wa' wb':Addr)(ko:List T3)(kU:List (List En))(H':Hp),C9 t kp H H'->Ap H' t (N+6)->BO H' C D PT dk dd kp dx kq wa' oa n ko os kU->Af H' wb' n ko->ko.length<=ts.length+1->Q (.ref wb') H')->bG C D PT vs H Q
def P7 (C D PT:Addr):Sp:=λo H Q _=>bG C D PT o H Q
section
variable {P:Program}{w:World}{K:AG}{mg:Aj}{base:Heap}{C D gI gS PT:Addr}
def C2:zl ["_law_feed_here","_law_desk","_law_web_here","_law_many","_law_ties","_law_one","_law_other","_law_long_here","_law_row","_law_pair","_law_left","_law_ahead","_law_answer","_law_behind","_law_turned_here"] Hd.p (defScope Hd.s):=AK
theorem J8 (wz:Ws P w K mg base PT C D):Fz P w K mg base 11 Hd (P7 C D PT):=by
 refine wz.Trn.okZ C2 fun _ _ A _ _ H vs Q E hr h=>?_;obtain⟨t,dk,dd,kp,dx,la,wa,oa,wb,N,n,ts,os,ess,rfl,TT,hN,DA,WB,hn2,nS,k⟩:=h;obtain⟨p,T⟩:=TT;have mV:=hr.units0;obtain⟨ta,tys,lI,lE,TA,G⟩:=id WB;have n24:=G.n24;have hlT:=TA.length;rw[zA] at hlT;have sl:10000000<=sizeLine:=by decide
 have ln:=DA.ln;refine{_,zN (Dx (pv 2) (DN rfl (Ag (Ay (i:=3) C2.nd) (Ag (Ay (i:=4) C2.nd) CK))))
  (zN (AX (i:=5) C2.nd (AF (C5 wz) hr (zB (pv 0) (zB (pv 3) zJ))))
  (zN (AX (i:=6) C2.nd (AQ GU (AQ Bs (AQ Bs (pv 5) zb) (AF (C5 wz) hr (zB (pv 0) (zB (AQ ED (pv 3) zb) zJ)))) (pv 3)))
  (zN (AX (i:=7) C2.nd (zm zx (BA (aA (.cons (.cons (.cons (.cons (.cons .nil))))))) (AF (C5 wz) hr (zB (pv 0) (As zJ)))))
  (zN (AX (i:=8) C2.nd (BE PySem.F.plainAttrs_str PySem.F.slot_str_join PySem.F.type_str_join FE AW (zB (BA (zB AW (zB (Aq C3 wz.mStr (zB (pv 5) zJ)) (zB (Aq C3 wz.mStr (zB (pv 6) zJ)) (zB (Aq C3 wz.mStr (zB (pv 7) zJ)) zJ))))) zJ)))
  (zN (NP (u':=fun (D1:EE) σ H3=>∃(x y lg:Int),σ=[some (.ref t),some (.ref dk),some (.ref wb),some (.int n),some (.ref ta),some (.int x),some (.int y),some (.int lg),some (.str (Gd x y (some lg))),none,none,none,none,none,none]/\Ff n ts x y (some lg)/\BL H3 t p (N+3)/\H3 ta=some (.tup tys)/\Ae H3 tys (ts.map tl) /\
   ∀(x y:Int)(lo:Option Int)(H':Hp),Ff n ts x y lo->(∀l,lo=some l->l=lg)->BL H' t p (N+5)->Sm t H3 H'->D1.nx [some (.ref t),some (.ref dk),some (.ref wb),some (.int n),some (.ref ta),some (.int x),some (.int y),some (.int lg),some (.str (Gd x y lo)),none,none,none,none,none,none] H')
   (AU (PW.pt (Ja (zt (iT mV) (pv 4) (BY zJ) (zw _)) (Jg (zt Am (AF (C5 wz) hr (zB (pv 0) (As zJ))) zb (zw _)))))
    (zN (Dx (Dz OB (zm AM (pv 4) (AF (C5 wz) hr (zB (pv 0) (zB (AZ CD wz.mLen (zB (pv 4) zJ)) zJ)))) Ek (Di zb)) (DN rfl (Ag (Ay (i:=6) C2.nd) (Ag (Ay (i:=5) C2.nd) CK))))
     (zX (AX (i:=8) C2.nd (BE PySem.F.plainAttrs_str PySem.F.slot_str_join PySem.F.type_str_join FE AW (zB (BA (zB AW (zB (Aq C3 wz.mStr (zB (pv 5) zJ)) (zB (Aq C3 wz.mStr (zB (pv 6) zJ)) zJ)))) zJ)))))
    AV) (fun D1 σ H3 z=>by
    obtain⟨x,y,lg,rfl,dok,T3,hta3,TA3,z⟩:=z;refine{1,G8,fun e0 pB=>?_};have s0:=zG (o:=.tup []) pB;refine{ta,e0,_,2,AD.of (s0 _ _ hta3),AD.of zF,1,?_};refine BU (fun c=>?_) (fun c=>?_)
    . refine⟨_,rfl,t,p,_,3,rfl,T3.same s0,by lia,by decide,by decide,fun r H4 r0 r1 T4 he4=>?_⟩;refine{6,?_};have s4:Sm t H3 H4:=(Sm.of s0).trans (Bi he4);refine BU (fun c2=>?_) (fun c2=>?_)
      . have ntup:∀b zs,H3 b=some (.tup zs)->H4 b=some (.tup zs):=fun b zs e=>s4 _ _ (T3.neT e) e;have hta4:=ntup _ _ hta3;have hpos:0<tys.length:=by
         cases tys with
         | nil=>cases c
         | cons _ _=>exact Nat.succ_pos _
        refine{1,4,ta,1,.inr (AD.of hta4),t,p,7,T4,by lia,by lia,by lia,fun r2 H5 b0 b1 T5 he5=>?_};have s5:=s4.trans (Bi he5);have hta5:H5 ta=some (.tup tys):=s5 _ _ (T3.neT hta3) hta3;have hr2:r2.toNat<tys.length:=by lia
        obtain⟨ya,kk,e1,lT,mH,_⟩:=TA3.get (i:=r2.toNat) (x:=tys[r2.toNat]) (by simp[hr2]);rw[zK] at lT;obtain⟨t3,ht3,rfl⟩:∃t3,ts[r2.toNat]?=some t3/\tl t3=kk:=by
         cases e:ts[r2.toNat]? with
         | none=>rw[e] at lT;cases lT
         | some t3=>rw[e] at lT;exact{t3,0,zT lT}
        have hya5:=s5 _ _ (T3.neT mH) mH;refine{ta,3,.ref ya,2,AD.of hta5,Ac b0 (by rw[zC hr2,e1]),?_};refine⟨2,rfl,ya,_,rfl,hya5,fun q H6 s6 hq=>?_⟩;rw[HW] at hq;have hm:=zQ ht3;obtain⟨g0,g1,g2,g3,g4⟩:=G.rng t3 hm;refine{q,1,AD.of hq,0,7,5,?_};refine{6,t3.2.1,0,by lia,1,t3.1,0,by lia,by change 3<=sizeLine;lia,fun l8 hl8=>?_};have s8:=zG (o:=.lst (([Str.ofString "strike",sN t3.2.1,sN t3.1]:List Str).map V.str)) hl8;have d':Ff n ts t3.2.1 t3.1 none:=Ff.swap {{g0,by lia},{by lia,g2},by lia,(fun l e=>by cases e),fun _=>(VO G (by lia)).mp {t3.2.2,.inl hm}};have rl:=ZR d' n24;refine{_,l8,[Str.ofString "strike",sN t3.2.1,sN t3.1],2,AA.of zF,by decide,?_,?_}
        . exact VL fun z hz=>by rcases zZ.mp hz with rfl | hz;decide;rcases zZ.mp hz with rfl | hz;exact Fd (by lia);rw[zf.mp hz];exact Fd (by lia)
        . rw[show Txt.join (Str.ofString " ") [Str.ofString "strike",sN t3.2.1,sN t3.1]=Gd t3.2.1 t3.1 none from StrLaws.glued_eq_join _ _];exact z t3.2.1 t3.1 none _ d' nofun (((T5.same s6).same s8).mono (by lia)) (s5.trans ((Sm.of s6).trans (Sm.of s8)))
      . exact z x y (some lg) H4 dok (fun l e=>by cases e;rfl) (T4.mono (by lia)) s4
    . exact z x y (some lg) _ dok (fun l e=>by cases e;rfl) ((T3.same s0).mono (by lia)) (Sm.of s0)))
  (zN (C8 (i:=9) C2.nd rfl (Or.inr rfl) (BY (zB (AZ (OF rfl) wz.mMin (zB (pv 5) (zB (pv 6) zJ))) (zB (AZ (VE rfl) wz.mMax (zB (pv 5) (zB (pv 6) zJ))) zJ))))
  (zN (DZ (i:=10) (own:=["_law_tie"]) (cn:=["_law_pair"]) (ci:=[9]) C2.nd rfl (Or.inl rfl) rfl (Ai rfl rfl) {9,trivial} rfl (Bo (pv 4)) (fun _ _ _ _=>Ah)
   (fun _ _ _ _=>De (zt (bC mV) (Dz OB (pv 0) Ek (Di zb)) (pv 1) (zw _))) (fun _ _ _ _=>pv 0))
  (zN (NP (u':=fun (D1:EE) σ H3=>∃(x y lg:Int)(lo:Option Int)(q L:Addr)(ys:List V),σ=[some (.ref t),some (.ref dk),some (.ref wb),some (.int n),some (.ref ta),some (.int x),some (.int y),some (.int lg),some (.str (Gd x y lo)),some (.ref q),some (.ref L),none,none,none,none]/\(∀l,lo=some l->l=lg)/\(Gd x y lo).length<=1000000/\H3 q=some (.tup [.int (AO x y),.int (AN x y)])/\H3 L=some (.lst ys)/\ys.length<=60/\Ae H3 ys ((Bz (AO x y) (AN x y) ts).map tl) /\
   ∀(lM:List V)(H':Hp),(∀b o,b≠L->H3 b=some o->H' b=some o)->H' L=some (.lst lM)->Ae H' lM ((Bz (AO x y) (AN x y) ts++E7 (AO x y) (AN x y) lo).map tl)->D1.nx σ H')
   (AU (zt Am (zm ZU (pv 8) zb) AW (zw _)) (zX (Ca (BE PySem.F.plainAttrs_list PySem.F.slot_list_append PySem.F.type_list_append Ej (pv 10) (zB (AQ Yv (pv 9) (BY (zB (pv 7) zJ))) zJ)))) AV) (fun D1 σ H3 z=>by
    obtain⟨x,y,lg,lo,q,L,ys,rfl,hlg,hrl,hq,hL3,hly,T3,z⟩:=z;obtain⟨c,hc,hd⟩:=jT (x:=x) (y:=y) lo;refine⟨_,rfl,_,0,c,rfl,rfl,by lia,hc,rfl,_,rfl,?_⟩;rw[hd];cases lo with
    | none=>exact Ao (z ys H3 (fun b o _ e=>e) hL3 (by rw[show E7 (AO x y) (AN x y) none=[] from rfl,BW];exact T3))
    | some l=>
     cases hlg l rfl;refine CB ?_;refine{1,.inl {0,_,AA.of hL3},4,FK,fun u hu=>?_};have s4:=zG (o:=.tup [.int lg]) hu;refine{q,u,5,s4 _ _ hq,zF,GH,fun c5 H5 s5 hc5=>?_};have hL5:=s5 _ _ (s4 _ _ hL3);refine{L,5,hL5,BJ (by lia),?_};refine z (ys++[.ref c5]) _ (fun b o nb e=>by rw[zg nb];exact s5 _ _ (s4 _ _ e)) zF ?_;rw[zO];refine (T3.keep fun b zs e=>?_).snoc {c5,0,?_,by simp[tl]}
     . have e5:=s5 _ _ (s4 _ _ e);rw[zg (AJ e5 hL5 (by intro z;cases z))];exact e5
     . rw[zg (AJ hc5 hL5 (by intro z;cases z))];exact hc5))
  (zN (C8 (i:=11) C2.nd rfl (Or.inr rfl) (AF (Se wz) hr (zB (pv 1) (zB (pv 3) zJ))))
  (zN (AX (i:=12) C2.nd (C6 (pv 1) (Fj wz) hr (zB (pv 8) zJ)))
  (zN (C8 (i:=13) C2.nd rfl (Or.inr rfl) (AF (Se wz) hr (zB (pv 1) (zB (pv 3) zJ))))
  (zN (DZ (i:=14) (own:=["_law_place"]) (cn:=["_law_ahead","_law_behind"]) (ci:=[11,13]) C2.nd rfl (Or.inl rfl) rfl (Ai rfl rfl) {9,9,trivial} rfl (CO rfl wz.mRange (zB (pv 3) zJ)) (fun _ _ _ _=>Ah)
   (fun _ _ _ _=>De (zt Cb (zm DX (pv 1) (pv 0)) (zm DX (pv 2) (pv 0)) (zw _))) (fun _ _ _ _=>Aq C3 wz.mStr (zB (pv 0) zJ)))
  (zX (zu (GV (zt Am (pv 12) (VA (te':=fun σ H Q=>∃(B:Addr)(ps:List Int),σ[14]?=some (some (.ref B))/\H B=some (.lst ((ps.map sN).map V.str))/\ps.length<=24/\(∀p∈ps,0<=p/\p<24)/\∀H',AE H H'->Q (.str (Gx ps)) H') (BE PySem.F.plainAttrs_str PySem.F.slot_str_join PySem.F.type_str_join FE AW (zB (Kt (pv 14) (Du (BA (zB AW zJ)))) zJ)) (fun σ H Q z=>by
   obtain⟨B,ps,hσ,hB,hl,hr,q⟩:=z;refine{0,_,hσ,!((ps.map sN).map V.str).isEmpty,.inl {_,AA.of hB,0},?_};cases ps with
   | nil=>refine Ao {FK,fun ld hld=>?_};exact{_,ld,[dash],2,AA.of zF,by decide,by decide,q _ (zG hld)}
   | cons p0 pr=>refine CB {_,B,(p0::pr).map sN,2,AA.of hB,by decide,VL (fun z hz=>?_) (by rw[zA];exact hl),q _ (AE.refl _)};obtain⟨u,hu,rfl⟩:=zy.mp hz;have:=hr u hu;exact Fd (by lia))) (zw _)) (BY (zB (pv 3) (zB (Aq Ct wz.mTuple (zB (AZ OO wz.mSorted (zB (pv 10) zJ)) zJ)) zJ))) Ax))))))))))))))),?_}
 refine{1,wb,1,AD.of lI,0,7,5,?_};refine{4,t,p,N,n,0,T,by lia,by lia,by lia,fun x H1 x0 x1 T1 he1=>?_};refine{1,5,4,5,t,p,_,n-1,0,T1,by lia,by lia,by lia,fun r H2 r0 r1 T2 m9=>?_};refine{_,8,5,by change 0<n;lia,?_};refine{cy,fun l5 hl5=>?_};have s5:=zG (o:=.lst (([1,1,2,5,99]:List Int).map V.int)) hl5;refine⟨_,rfl,t,p,_,5,rfl,T2.same s5,by lia,by decide,by decide,fun r2 H3 c0 c1 T3 he3=>?_⟩;have nl:l5≠t:=(T2.ne hl5).1;obtain⟨lg,hlg,hat⟩:=SJ (L:=[1,1,2,5,99]) c0 c1;have hlb:1<=lg/\lg<=99:=by
  have:∀m∈([1,1,2,5,99]:List Int),1<=m/\m<=99:=by decide
  exact this lg hlg
 refine{l5,_,5,AA.of (by rw[he3 l5 nl];exact zF),hat,?_};have hy:=Gh (a:=x+1+r) (m:=n) (by lia);have nxy:x≠(x+1+r)%n:=fun e=>by
  have q:=Int.emod_add_mul_ediv (x+1+r) n;have q2:(x+1+r)/n=0\/(x+1+r)/n=1:=by
   have a1:0<=(x+1+r)/n:=Int.ediv_nonneg (by lia) (by lia);have a2:(x+1+r)/n<2:=Int.ediv_lt_of_lt_mul (by lia) (by lia)
   lia
  rcases q2 with z2 | z2
  . rw[z2] at q;lia
  . rw[z2] at q;lia
 have s03:Sm t H H3:=(Bi he1).trans ((Bi m9).trans ((Sm.of s5).trans (Bi he3)));have dok0:Ff n ts x ((x+1+r)%n) (some lg):={⟨x0,x1⟩,hy,nxy,fun l e=>by cases e;exact hlb,fun e=>by cases e};refine{6,x,0,by lia,1,((x+1+r)%n),0,by lia,1,lg,0,by lia,by change 4<=sizeLine;lia,fun l4 hl4=>?_};have s4:=zG (o:=.lst (([Str.ofString "put",sN x,sN ((x+1+r)%n),sN lg]:List Str).map V.str)) hl4;refine{_,l4,[Str.ofString "put",sN x,sN ((x+1+r)%n),sN lg],2,AA.of zF,by decide,VL fun z hz=>by rcases zZ.mp hz with rfl | hz;decide;rcases zZ.mp hz with rfl | hz;exact Fd (by lia);rcases zZ.mp hz with rfl | hz;exact Fd (by lia);rw[zf.mp hz];exact Fd (by lia),?_};rw[show Txt.join (Str.ofString " ") [Str.ofString "put",sN x,sN ((x+1+r)%n),sN lg]=Gd x ((x+1+r)%n) (some lg) from StrLaws.glued_eq_join _ _];have nX:Sm t H (upd H3 l4 (.lst (([Str.ofString "put",sN x,sN ((x+1+r)%n),sN lg]:List Str).map V.str))):=s03.trans (Sm.of s4);have T4:=T3.same s4;refine{x,(x+1+r)%n,lg,0,dok0,T4,nX _ _ (T.neT lE) lE,TA.keep fun b zs e=>nX _ _ (T.neT e) e,fun x y lo H5 dok hlo T5 s45=>?_};have mU:=nX.trans s45;have DA5:=DA.sm ⟨p,T⟩ mU;have WB5:=WB.smF ⟨p,T⟩ mU;have hta5:H5 ta=some (.tup tys):=mU _ _ (T.neT lE) lE;have TA5:Ae H5 tys (ts.map tl):=TA.keep fun b zs e=>mU _ _ (T.neT e) e;obtain⟨a0,ab,bn⟩:=LX dok.hx dok.hy dok.ne;have hbl:=NQ (AO x y) (AN x y) ts;refine{4,x,y,0,4,x,y,0,B7,fun q hq=>?_};have s6:=zG (o:=.tup [.int (AO x y),.int (AN x y)]) hq;have hq6:(upd H5 q (.tup [.int (AO x y),.int (AN x y)])) q=some (.tup [.int (AO x y),.int (AN x y)]):=zF;rw[show (HO.tup [V.int (if y<x then y else x),V.int (if y > x then y else x)])=HO.tup [.int (AO x y),.int (AN x y)] from rfl]
 generalize upd H5 q (.tup [.int (AO x y),.int (AN x y)])=H6 at s6 hq6 ⊢;have hta6:=s6 _ _ hta5;refine{1,ta,0,{_,AD.of hta6},[.ref q],0,fun L hL=>?_};refine CH (a:=ta) (xs:=tys) (fun i ys H7=>Ae H7 ys ((Bz (AO x y) (AN x y) (ts.take i)).map tl)/\AE H6 H7/\H7 L=some (.lst ys)) {by rw[List.take_zero];exact trivial,zG hL,zF} (fun i ys H7 h=>?_) (fun i ys H7 h=>?_) (fun i v ys H7 hv h=>?_) (fun ys H7 h=>?_)
 . exact AD.of (h.2.1 _ _ hta6)
 . have h1:=h.1.length;have h2:=NQ (AO x y) (AN x y) (ts.take i);rw[zi] at h2;rw[zA] at h1;exact BJ (by lia)
 . obtain⟨T7,s7,hL7⟩:=h;obtain⟨ya,kk,rfl,lT,mH,_⟩:=TA5.get hv;rw[zK] at lT;obtain⟨t3,ht3,rfl⟩:∃t3,ts[i]?=some t3/\tl t3=kk:=by
    cases e:ts[i]? with
    | none=>rw[e] at lT;cases lT
    | some t3=>rw[e] at lT;exact{t3,0,zT lT}
   have hya7:=s7 _ _ (s6 _ _ mH);refine{{2},?_};refine{4,ya,1,hya7,fun u H8 s8 hu=>?_};rw[HW] at hu;refine{1,u,q,[t3.1,t3.2.1],[AO x y,AN x y],2,AD.of hu,AD.of (s8 _ _ (s7 _ _ hq6)),1,?_};have hL8:=s8 _ _ hL7;have T8:Ae H8 ys ((Bz (AO x y) (AN x y) (ts.take i)).map tl):=T7.keep fun b zs e=>s8 _ _ e;have e:Bz (AO x y) (AN x y) (ts.take (i+1))=Bz (AO x y) (AN x y) (ts.take i)++(if (!Dt (AO x y) (AN x y) t3)=true then [t3] else []):=RX ht3
   refine BU (fun c=>?_) (fun c=>?_)
   . refine{1,hL8,?_,A4 (s7.trans s8) hL,zF};rw[e,if_pos (by exact c),zO];refine (T8.keep fun b zs e=>?_).snoc {ya,0,?_,by simp[tl]}
     . rw[zg (AJ e hL8 (by intro z;cases z))];exact e
     . rw[zg (AJ (s8 _ _ hya7) hL8 (by intro z;cases z))];exact s8 _ _ hya7
   . refine{?_,s7.trans s8,hL8};rw[e,if_neg (by exact c),BW];exact T8
 obtain⟨T7,s7,hL7⟩:=h;rw[hlT,zR (zL _)] at T7;have l7:=T7.length;rw[zA] at l7;refine{x,y,lg,lo,q,L,ys,0,hlo,ZR dok n24,s7 _ _ hq6,hL7,by lia,T7,fun lM H8 s78 hL8 T8=>?_};have md:AE H6 H8:=fun b o e=>s78 b o (zp e hL) (s7 _ _ e);have s58:=s6.trans md;have DA8:=DA5.same s58;refine{4,dk,dd,kp,dx,la,wa,oa,n,ts,os,ess,0,DA8,fun l1 H9 s9 hl10 k8=>?_};have DA9:=DA8.same s9;refine{1,dk,dd,1,DA9.ins,6,DA9.deed dok nS fun kq wa' ko kU nU oU T10 K10 A10=>?_};obtain⟨mw,kY⟩:=DA9.after nS oU T10 K10 A10;have nkl:∀ {b ys},H9 b=some (.lst ys)->nU b=some (.lst ys):=fun e=>oU.get (AJ e DA9.ka.ins (by intro z;cases z)) e (by intro ps z;cases z);refine{4,dk,dd,kp,dx,kq,wa',oa,n,ko,os,kU,0,mw,fun l2 H11 nv _ hl2'=>?_};have hl1':=nv _ _ (nkl k8);have ln2:=mw.ln;have KD1:=DA.ka.kd;have KD2:=mw.ka.kd;refine{1,n,0,by lia,by lia,[.ref l1,.ref l2],0,fun B hB=>?_};refine Dw (lo:=0) (n:=n.toNat) (fun i ys H12=>i<=n.toNat/\ys=((CA i ess kU).map sN).map V.str/\AE H11 H12/\H12 B=some (.lst ys)) {zd _,0,zG hB,zF} (fun i ys H12 z=>?_) (fun i ys H12 hi z=>?_) (fun ys H12 z=>?_)
 . have:=Uo (n:=i) (a:=ess) (b:=kU);have:=z.1;rw[z.2.1,zA,zA];exact Bm (by lia)
 . obtain⟨_,rfl,lS,h12⟩:=z;rw[CC];obtain⟨es,he,hh⟩:=N4 (ess:=ess) (i:=i) (by lia);obtain⟨fs,hf,hh2⟩:=N4 (ess:=kU) (i:=i) (by lia);have eqb:(!decide (V.str (lW es)=V.str (lW fs)))=(!decide (Bf (ess.getD i [])=Bf (kU.getD i []))):=by rw[zE,zE,he,hf];congr 1;have w:=Km (KD1.esb n24 es (zQ he)) (KD2.esb n24 fs (zQ hf));exact decide_eq_decide.mpr {fun z=>w.mp (V.str.inj z),fun z=>congrArg V.str (w.mpr z)}
   refine{{2},?_};refine{4,l1,3,.str (lW es),2,AA.of (lS _ _ hl1'),Bb hh,4,l2,3,.str (lW fs),2,AA.of (lS _ _ hl2'),Bb hh2,6,?_};rw[eqb];refine BU (fun c=>?_) (fun c=>?_)
   . refine{1,(i:Int),0,by lia,h12,by lia,?_,A4 lS hB,zF};rw[cZ,if_pos c,zO,zO];rfl
   . refine{by lia,?_,lS,h12};rw[cZ,if_neg c,BW]
 obtain⟨_,rfl,lS,h12⟩:=z;refine{1,B,CA n.toNat ess kU,0,h12,by have:=Uo (n:=n.toNat) (a:=ess) (b:=kU);lia,fun u hu=>by have:=ak u hu;lia,fun H13 me=>?_};refine{6,BG (zY rfl) ?_};have sL:∀ {b zs},b≠t->H8 b=some (.tup zs)->H13 b=some (.tup zs):=fun _ e=>me _ _ (lS _ _ (nv _ _ (oU.get (AJ (s9 _ _ e) DA9.ka.ins (by intro z;cases z)) (s9 _ _ e) (by intro ps z;cases z))));have hL13:H13 L=some (.lst lM):=me _ _ (lS _ _ (nv _ _ (nkl (s9 _ _ hL8))));have T5a:Ap H5 t (N+5):=⟨p,T5⟩;have T13:Ae H13 lM ((Bz (AO x y) (AN x y) ts++E7 (AO x y) (AN x y) lo).map tl):=T8.keep fun b zs e=>me _ _ (lS _ _ (nv _ _ (oU.get (AJ (s9 _ _ e) DA9.ka.ins (by intro z;cases z)) (s9 _ _ e) (by intro ps z;cases z))));have hadd:(E7 (AO x y) (AN x y) lo).length<=1:=by cases lo <;> simp[E7]
 refine{4,L,7,AA.of hL13,T13,by rw[zA,zS];lia,fun l3 us ms hl3 TA3 mi nM=>?_};refine{l3,1,.inl {AA.of zF,fun ta2 oe=>?_}};refine{B7,fun wb2 oZ=>?_};have nu:=(zG (o:=.lst us) hl3).trans (zG (o:=.tup us) oe);have s15:=nu.trans (zG (o:=.tup [.int n,.ref ta2]) oZ);obtain⟨ku,pF,pm'⟩:=Zo mi;have A':Cw (AO x y) (AN x y) lo ts ku:={pm',by unfold C4;rw[pF];exact nM};cases A'.uniq A10;have se:=nv.trans (lS.trans (me.trans s15));obtain⟨ns,kW,rest,f1,f2,f3,y1,y2,y3,y4,y5⟩:=T5;have g1:=se _ _ (nkl (s9 _ _ (s58 _ _ f1)));have g2:=se _ _ (nkl (s9 _ _ (s58 _ _ f2)));refine k kq wa' wb2 ko kU _ ((C9.ofS mU).trans ((C9.ofK (Az.of (s58.trans s9))).trans ((C9.ofK oU).trans (C9.ofK (Az.of se))))) {p,BL.mono ⟨ns,kW,rest,g1,g2,f3,y1,y2,y3,y4,y5⟩ (by lia)} (mw.same se) {ta2,us,zF,zG oZ _ _ zF,?_,mw.up.gw} kY;rw[pF];exact TA3.keep fun b zs e=>s15 _ _ e
end
end K73
namespace K73
open PySem L2 WM
open DG
variable {P:Program}{w:World}{K:AG}{mg:Aj}{base:Heap}{PT:Addr}{X:Cx}
def Pr (G:GW n ts)(h:n<=23):GW (n+1) ts:={by let:=G.n1;lia,(),G.len,λt o=>by let{a,b,c,d}:=G.rng t o;show{a,b,(),d},G.dis}
def Mn {os:List Int}(h:os.Perm (lowTo n.toNat))(h0:0<=n):ET n os:=by
 let o:(lowTo n.toNat).Nodup:=by unfold lowTo;rw[List.Nodup,DK];show List.nodup_range.imp λh e=>h ()
 show{by rw[h.length_eq,Ht],h.nodup_iff.mpr o,λp C=>?_};let:=h.mem_iff.mp C;unfold lowTo at this;let{j,I,e}:=zy.mp this;let:=Et.mp I
 lia
theorem Ap.smK (F:Ap H t N)(h:H kp=some (.ins C dx fs))(s:Az kp H H'):Ap H' t N:=by obtain⟨p,ns,kW,rest,ht,hp,r,d,e,f,g,i⟩:=F;exact{p,ns,kW,rest,s.get (AJ ht h (by intro z;cases z)) ht (by intro ps z;cases z),s.get (AJ hp h (by intro z;cases z)) hp (by intro ps z;cases z),r,d,e,f,g,i}
def Ap.mvl (F:Ap H t N)(h:H l=some (.lst vs))(I:∀v∈vs,∃a,v=.ref a)(J:l≠t):Ap (upd H l o) t N:=by
 let{p,C}:=F;let{ns,kW,rest,ht,hp,kb,hs0,oh,nN,hl,U}:=id C;show{p,C.upd J λz=>?_};rw[z,hp] at h;let e:=HO.lst.inj (zT h);cases ns with
 | nil=>simp at U
 | cons a r=>let{b,hb}:=I (.int a) (by rw[<-e];show zo);cases hb
theorem Ap.smT (F:Ap H t N)(s:A0 H H'):Ap H' t N:=by obtain⟨p,ns,kW,rest,ht,hp,r,d,e,f,g,i⟩:=F;exact{p,ns,kW,rest,s.get ht (by intro ps z;cases z),s.get hp (by intro ps z;cases z),r,d,e,f,g,i}
meta def bI:Bool->Int
 | false=>0
 | true=>1
meta def bN:Bool->Nat
 | false=>0
 | true=>1
meta def A5 (f:Bool->Addr):List V:=[.ref (f false),.ref (f true)]
meta def Bk (f:Bool->Addr)(b:Bool)(x:Addr):Bool->Addr:=λc=>if c=b then x else f c
def FF :Bk f b x b=x:=by unfold Bk;rw[if_pos rfl]
def Ex (h:c≠b):Bk f b x c=f c:=by unfold Bk;rw[if_neg h]
def Cp (f:Bool->Addr)(b:Bool):Bl (A5 f) (bI b)=some (.ref (f b)):=by cases b <;> rfl
def Uk (f:Bool->Addr)(b:Bool)(x):(A5 f).set (bN b) (.ref x)=A5 (Bk f b x):=by cases b <;> rfl
def VH (f:Bool->Addr)(b:Bool):DP (A5 f).length (bI b)=some (bN b):=by cases b <;> rfl
def UR (f:Bool->Addr)(b:Bool)(x):(A5 f).take (bN b)++[.ref x]=(A5 (Bk f b x)).take (bN b+1):=by cases b <;> rfl
def Um :∀{i:Nat}{v:V},(A5 f)[i]?=some v->∃b,i=bN b/\v=.ref (f b)
 | 0,_,h=>{false,0,(zT h).symm}
 | 1,_,h=>{true,0,(zT h).symm}
 | _+2,_,h=>by cases h
def YY (h0:0<=r)(o:r<2):∃b,r=bI b:=by
 by_cases c:r=0
 . show⟨false,c⟩
 . show⟨true,show r=1 by lia⟩
def X9 (o:q<2):∃b,q=bN b:=by
 by_cases c:q=0
 . show⟨false,c⟩
 . show⟨true,show q=1 by lia⟩
def MV:∀b,((bN b:Nat):Int)=bI b:=by decide
def Us:∀b c,bN c<bN b+1->c≠b->bN c<bN b:=by decide
def JS:∀b,bN b<2:=by decide
def VM :((A5 f).take q).length<=2:=by rw[zi];show Nat.min_le_right _ _
def Ye :∀v∈(A5 f).take q,∃a,v=.ref a:=λv h=>by let{i,hi,e}:=CP (List.mem_of_mem_take h);let{b,_,z}:=Um (f:=f) (i:=i) (v:=v) (by rw[zC hi,e]);show{_,z}
def U8 :∀v∈A5 f,∃a,v=.ref a:=λv h=>Ye (q:=2) v h
def N1 (T:Tb H PT)(h:H l=some (.lst vs)):Tb (upd H l o) PT:=by
 let{J,e,I,C}:=T;show{J,by rwa[zg (AJ e h (by intro z;cases z))],I,?_};rcases C with C | ⟨c,e1,U⟩
 . show .inl C
 . show .inr {c,e1,by rwa[zg (AJ U h (by intro z;cases z))]}
def Ij (H:Hp)(a:Addr):Prop:=∃n o,Af H a n o/\DF (o.map tl)/\(2<=n/\n<=14)/\o.length<=36
def Ij.keep (h:Ij H a)(C:∀b ys,H b=some (.tup ys)->H' b=some (.tup ys)):Ij H' a:=by let{n,o,W,r}:=h;show{n,o,W.keepT C,r}
inductive PQ (H:Hp)(C:Addr)(D:Addr)(PT:Addr)(dk:Addr)(kp:Addr)(wb:Addr)(ob:Addr)(B:Nat):Prop
 | mk:∀(dd dx la wa oa:Addr)(n:Int)(ts:List T3)(os:List Int)(ess:List (List En)),(BO H C D PT dk dd kp dx la wa oa n ts os ess)->(Af H wb n ts)->(H ob=some (.tup (os.map V.int)))->(2<=n)->(ts.length<=B)->PQ H C D PT dk kp wb ob B
def Sd (H:Hp)(C D PT J kp o I:Addr)(B:Nat):Prop:=PQ H C D PT J kp o I B
def Sd.keep (h:Sd H C D PT dk kp wb ob B)(l:B<=B')(T:Tb H' PT)(I:∀b ys,H b=some (.tup ys)->H' b=some (.tup ys))(hd:∀c x fs,H dk=some (.ins c x fs)->H' dk=some (.ins c x fs))(hk:∀c x fs,H kp=some (.ins c x fs)->H' kp=some (.ins c x fs)):Sd H' C D PT dk kp wb ob B':=by let{dd,dx,la,U,oa,n,ts,os,J,o,W,ho,h2,hl}:=h;show{dd,dx,la,U,oa,n,ts,os,J,{hd _ _ _ o.ins,o.ka.keep ((hk _ _ _ o.ka.ins).trans o.ka.ins.symm) I,o.up,T},W.keepT I,I _ _ ho,h2,zn hl l}
def Sd.tb (h:Sd H C D PT dk kp wb ob B):Tb H PT:=by let{dd,dx,la,J,oa,n,U,os,o,I,_}:=h;show I.tb
def Sd.ne (h:Sd H C D PT dk kp wb ob B)(h':Sd H C D PT dk' kp' wb' ob' B'):dk≠kp':=by let{dd,dx,la,wa,oa,n,ts,os,ess,DA,_}:=h;let{pH,dx',kq,I,U,n',ku,J,kU,o,_}:=h';show AJ DA.ins o.ka.ins (by intro z;injection z with _ _ z;cases z)
def Sd.lst {H:Hp}{C D PT U kp I J:Addr}{B:Nat}(h:Sd H C D PT U kp I J B){l:Addr}{vs:List V}{o:HO}(e:H l=some (.lst vs)):Sd (upd H l o) C D PT U kp I J B:=
 h.keep (zL _) (N1 h.tb e) (λb ys z=>by rwa[zg (AJ z e (by intro z;cases z))]) (λc x fs z=>by rwa[zg (AJ z e (by intro z;cases z))]) (λc x fs z=>by rwa[zg (AJ z e (by intro z;cases z))])
structure LS (C D PT t W O L:Addr)(d k w o:Bool->Addr)(N B:Nat)(H:Hp):Prop where
 hW:H W=some (.lst (A5 w))
 hO:H O=some (.lst (A5 o))
 hL:H L=some (.lst (A5 d))
 sd:∀b,Sd H C D PT (d b) (k b) (w b) (o b) B
 kk:∀b c,c≠b->k c≠k b
 dd:∀b c,c≠b->d c≠d b
 fd:Ap H t N
 nW:W≠t
 nO:O≠t
 nL:L≠t
 WO:W≠O
 WL:W≠L
 OL:O≠L
def LS.sm {w:Bool->Addr}(h:LS C D PT t W O L d k w o N B H)(s:Sm t H H')(F:Ap H' t N'):LS C D PT t W O L d k w o N' B H':=by let{p,ns,U,rest,I,_}:=id h.fd;show{s _ _ h.nW h.hW,s _ _ h.nO h.hO,s _ _ h.nL h.hL,λb=>(h.sd b).keep (zL _) (Nk (h.sd b).tb h.fd s) (λb J e=>s _ _ (AJ e I (by intro z;cases z)) e) (λc x fs e=>s _ _ (AJ e I (by intro z;cases z)) e) (λc x fs e=>s _ _ (AJ e I (by intro z;cases z)) e),h.kk,h.dd,F,h.nW,h.nO,h.nL,h.WO,h.WL,h.OL}
def LS.same {w:Bool->Addr}(h:LS C D PT t W O L d k w o N B H)(s:AE H H'):LS C D PT t W O L d k w o N B H':=h.sm (Sm.of s) (h.fd.keep s)
def LS.mono {w:Bool->Addr}(h:LS C D PT t W O L d k w o N B H)(l:N<=N')(m:B<=B'):LS C D PT t W O L d k w o N' B' H:=
 {h.hW,h.hO,h.hL,λb=>(h.sd b).keep m (h.sd b).tb (λ_ _ e=>e) (λ_ _ _ e=>e) (λ_ _ _ e=>e),h.kk,h.dd,h.fd.mono l,h.nW,h.nO,h.nL,h.WO,h.WL,h.OL}
def LS.web {w:Bool->Addr}(h:LS C D PT t W O L d k w o N B H)(b:Bool)(s:C9 t (k b) H H')(F:Ap H' t N')(sb:Sd H' C D PT (d b) (k b) wb (o b) (B+1)):LS C D PT t W O L d k (Bk w b wb) o N' (B+1) (upd H' W (.lst (A5 (Bk w b wb)))):=by
 let{p,ns,kW,rest,U,_}:=id h.fd;let{dd,dx,la,wa,oa,n,ts,os,ess,DA,_}:=id (h.sd b);let hk:=DA.ka.ins;let gl:∀ {l vs},l≠t->H l=some (.lst vs)->H' l=some (.lst vs):=λn e=>s.get n (AJ e hk (by intro z;cases z)) e (by intro J z;cases z);let I:=gl h.nW h.hW;show{zF,by rw[zg h.WO.symm];show gl h.nO h.hO,by rw[zg h.WL.symm];show gl h.nL h.hL,λc=>?_,h.kk,h.dd,F.mvl I U8 h.nW,h.nW,h.nO,h.nL,h.WO,h.WL,h.OL};by_cases e:c=b
 . subst e;rw[FF];show sb.lst I
 . rw[Ex e];show Sd.lst ((h.sd c).keep (BZ _) sb.tb (λx ys z=>s.get (AJ z U (by intro z;cases z)) (AJ z hk (by intro z;cases z)) z (by intro J z;cases z)) (λa x fs z=>s.get (AJ z U (by intro z;cases z)) ((h.sd c).ne (h.sd b)) z (by intro J z;cases z)) (λa x fs z=>s.get (AJ z U (by intro z;cases z)) (h.kk b c e) z (by intro J z;cases z))) I
def LS.ord {w:Bool->Addr}(h:LS C D PT t W O L d k w o N B H1)(b:Bool)(s:AE (upd H1 O (.lst (A5 (Bk o b pa)))) H3)(sm:Az (d b) H3 H4)(nk:H3 kp=none)(sb:Sd H4 C D PT (d b) kp (w b) pa B):LS C D PT t W O L d (Bk k b kp) w (Bk o b pa) N B H4:=by
 let I:∀c,Sd H3 C D PT (d c) (k c) (w c) (o c) B:=λc=>by let z:=(h.sd c).lst (o:=.lst (A5 (Bk o b pa))) h.hO;show z.keep (zL _) (z.tb.same s) (λ_ _ e=>s _ _ e) (λ_ _ _ e=>s _ _ e) (λ_ _ _ e=>s _ _ e)
 let{dd,dx,la,wa,oa,n,ts,os,U,DA,_}:=id (I b);let hd:=DA.ins;let gl:∀ {l vs},H3 l=some (.lst vs)->H4 l=some (.lst vs):=λe=>sm.get (AJ e hd (by intro z;cases z)) e (by intro J z;cases z);let F3:Ap H3 t N:=(h.fd.mvl (o:=.lst (A5 (Bk o b pa))) h.hO U8 h.nO).keep s;let kn:∀c,k c≠kp:=λc e=>by let{dd,dx,la,wa,oa,n,ts,os,U,DA,_}:=id (I c);let:=DA.ka.ins;rw[e,nk] at this;cases this
 show{gl (s _ _ (by rw[zg h.WO];show h.hW)),gl (s _ _ zF),gl (s _ _ (by rw[zg h.OL.symm];show h.hL)),λc=>?_,λx c e=>?_,h.dd,F3.smK hd sm,h.nW,h.nO,h.nL,h.WO,h.WL,h.OL}
 . by_cases e:c=b
   . subst e;rwa[FF,FF]
   . rw[Ex e,Ex e];show (I c).keep (zL _) sb.tb (λx ys z=>sm.get (AJ z hd (by intro z;cases z)) z (by intro J z;cases z)) (λa x fs z=>sm.get (h.dd b c e) z (by intro J z;cases z)) (λa x fs z=>sm.get ((I b).ne (I c)).symm z (by intro J z;cases z))
 . by_cases e1:c=b
   . subst e1;rw[FF,Ex (Ne.symm e)];show (kn x).symm
   . rw[Ex e1];by_cases e2:x=b
     . subst e2;rw[FF];show kn c
     . rw[Ex e2];show h.kk x c e
end K73
namespace K73
open PySem L2 WM
open DG
variable {P:Program}{w:World}{K:AG}{mg:Aj}{base:Heap}{PT:Addr}{X:Cx}
def RU (K:AG)(PT:Addr):Sp:=λo H Q _=>∃a,∃(ns:List Int),o=[.ref a]/\AA K H a (ns.map V.int)/\ns.length<=63/\H PT=some (.tbl #[])/\∀H',Q (.bl true) H'
def EW:zl ["_law_script","_law_feed_here","_law_webs","_law_k","_law_web_here","_law_wide","_law_orders","_law_desks","_law_at"] NX (defScope EI):=AK
def Mb {f fd'}(wz:Ws P w K mg base PT C D)(F:Fu K "law" EI f fd'):Bh P w K mg base Cm 13 f fd' NX (RU K PT):=by
 show F.okD EW λ_ A _ _ H vs Q E hr h=>?_;let{a,ns,0,hS,hlen,hPT,kF}:=h;show{_,zN (AX (i:=1) EW.nd (AF (gM wz) hr (zB (pv 0) zJ)))
  (zN (AX (i:=2) EW.nd (BA zJ))
  (zN (Bn (CO rfl wz.mRange (As zJ)) (Ay (i:=3) EW.nd)
   (zN (AX (i:=4) EW.nd (AF (iI wz) hr (zB (pv 1) (As zJ))))
   (zX (Ca (BE PySem.F.plainAttrs_list PySem.F.slot_list_append PySem.F.type_list_append Ej (pv 2) (zB (BY (zB (AQ Bs (zm AM (pv 4) zb) zb) (zB (zm AM (pv 4) zb) zJ))) zJ))))))
  (zN (AX (i:=5) EW.nd (BS Am (AF (JW wz) hr (zB (pv 1) (As zJ))) zb (zw _)))
  (zN (NP (u':=λ(D1:EE) σ H3=>∃(t W:Addr)(wd:Bool)(v0 v3 v4:Option V)(w:Bool->Addr),σ=[v0,some (.ref t),some (.ref W),v3,v4,some (.bl wd),none,none,none]/\W≠t/\H3 W=some (.lst (A5 w))/\Ap H3 t 900/\Tb H3 PT/\(∀b,Ij H3 (w b)) /\
   ∀(w':Bool->Addr)(H':Hp),H' W=some (.lst (A5 w'))->Ap H' t 1000->Tb H' PT->(∀b,Ij H' (w' b))->D1.nx σ H')
   (AU (BR (pv 5)) (zX (Dx (AF (KG wz) hr (zB (pv 1) zJ)) (Fg (pv 2) zb Fi))) AV) (λD1 σ H3 z=>by
    let{t,W,wd,v0,v3,v4,w,0,nW,hW,T3,B3,wb,z}:=z;show{4,BU (λc=>?_) (λc=>?_)}
    . show{1,t,1,T3,(),λwa n ts H4 _ hn hl W4 sr T4 s4=>?_};let hW4:=s4 _ _ nW hW;let tk:∀x J,H3 x=some (.tup J)->H4 x=some (.tup J):=λx J e=>by let{p,ns,kW,rest,ht,_}:=id T3;show s4 _ _ (AJ e ht (by intro z;cases z)) e
      let tk2:∀ {o} x J,H4 x=some (.tup J)->(upd H4 W o) x=some (.tup J):=λx J e=>by rwa[zg (AJ e hW4 (by intro z;cases z))]
      show⟨_,rfl,W,_,0,_,rfl,rfl,hW4,VH w false,?_⟩;rw[Uk];show z (Bk w false wa) _ zF (T4.mvl hW4 U8 nW) (N1 (Nk B3 T3 s4) hW4) (λb=>?_);by_cases e:b=false
      . subst e;rw[FF];show Ij.keep {n,ts,W4,sr,(),()} tk2
      . rw[Ex e];show ((wb b).keep tk).keep tk2
    . show z w H3 hW (T3.mono ()) B3 wb))
  (zN (DZ (i:=6) (own:=["_law_web_here"]) (cn:=[]) (ci:=[]) EW.nd rfl (Or.inl rfl) rfl (Ai rfl rfl) trivial rfl (CQ (pv 2)) (λ_ _ _ _=>Ah) (λ_ _ _ _=>A8)
   (λ_ _ _ _=>cP rfl rfl wz.mTuple rfl wz.mRange (zB (zm DL (pv 0) zb) zJ)))
  (zN (DZ (i:=7) (own:=["_law_web_here"]) (cn:=[]) (ci:=[]) EW.nd rfl (Or.inl rfl) rfl (Ai rfl rfl) trivial rfl (CQ (pv 2)) (λ_ _ _ _=>Ah) (λ_ _ _ _=>A8)
   (λ_ _ _ _=>Vh (Qn wz) hr (zB (AF (U6 wz) hr (zB (pv 0) zJ)) zJ)))
  (zN (Bn (CO rfl wz.mRange (zB (VA (te':=λσ H Q=>∃(wd:Bool)(t:Addr)(N:Nat),σ[5]?=some (some (.bl wd))/\σ[1]?=some (some (.ref t))/\Ap H t N/\N<900000/\∀(k:Int)(H':Hp),(0<=k/\k<=8)->Ap H' t (N+1)->Sm t H H'->Q (.int k) H')
   (GV (BR (pv 5)) zb (AQ Bs zb (AF (JW wz) hr (zB (pv 1) (As zJ))))) (λσ H Q z=>by
    let{wd,t,N,h5,h1,T1,hN,z}:=z;show{_,h5,1,BU (λc=>?_) (λc=>?_)}
    . show z 3 H (by decide) (T1.mono ()) (Sm.of (AE.refl _))
    . show⟨_,h1,t,_,4,rfl,T1,(),by decide,by decide,λr H2 r0 r1 T2 m9=>?_⟩;show{5,z (5+r) H2 () T2 (Bi m9)})) zJ)) (Ay (i:=3) EW.nd)
   (zN (AX (i:=8) EW.nd (AF (JW wz) hr (zB (pv 1) (As zJ))))
   (zN (NP (u':=λ(D1:EE) σ H3=>∃(t W O L:Addr)(d k w o:Bool->Addr)(N B:Nat)(b:Bool)(v0 v3 v4 v5:Option V),σ=[v0,some (.ref t),some (.ref W),v3,v4,v5,some (.ref O),some (.ref L),some (.int (bI b))]/\LS C D PT t W O L d k w o N B H3/\N<700000/\B<60 /\
    ∀(k' w' o':Bool->Addr)(H':Hp),LS C D PT t W O L d k' w' o' (N+40) (B+1) H'->D1.nx σ H')
    (AU (zt Am (AF (JW wz) hr (zB (pv 1) (As zJ))) zb (zw _))
     (zN (Dx (AF (ZJ wz) hr (zB (pv 1) (zB (zm AM (zm zx (pv 2) (pv 8)) zb) zJ))) (Fg (pv 6) (pv 8) Fi))
     (zX (AU (zt Cb (C6 (zm zx (pv 7) (pv 8)) (Fj wz) hr (zB (BE PySem.F.plainAttrs_str PySem.F.slot_str_join PySem.F.type_str_join FE AW (zB (AQ JU (BA (zB AW zJ))
      (BB (own:=["_law_place"]) (cn:=[]) (ci:=[]) rfl (Ai rfl rfl) trivial rfl (Bo (zm zx (pv 6) (pv 8))) (λ_ _ _ _=>Ah) (λ_ _ _ _=>A8) (λ_ _ _ _=>Aq C3 wz.mStr (zB (pv 0) zJ)))) zJ)) zJ)) AW (zw _)) BH AV)))
     (zX (Dx (AF (J8 wz) hr (zB (pv 1) (zB (zm zx (pv 7) (pv 8)) (zB (zm zx (pv 2) (pv 8)) zJ)))) (Fg (pv 2) (pv 8) Fi)))) (λD1 σ H3 z=>by
     let{t,W,O,L,d,k,w,o,N,B,b,v0,v3,v4,v5,0,L3,hN,hB,z}:=z;show⟨_,rfl,t,_,4,rfl,L3.fd,(),by decide,by decide,λr H4 r0 r1 T4 he4=>{6,?_}⟩;let L4:=L3.sm (Bi he4) T4;let{dd,dx,la,wa,oa,n,ts,os,I,DA,WB,ho,h2,hl}:=id (L4.sd b);let{ta,tys,lI,3,G}:=id WB;let n24:=G.n24;show BU (λc=>?_) (λc=>?_)
     . show{1,4,W,3,.ref (w b),2,AA.of L4.hW,Cp w b,w b,3,.int n,2,AD.of lI,0,t,_,n,0,L4.fd,(),(),(),λpa lL H5 hpa0 lZ mi T5 s5=>?_};let L5:=L4.sm s5 T5;show{4,O,_,5,L5.hO,VH o b,?_};rw[Uk];let O2:=Mn mi ();let ol:=O2.ln;let hO6:(upd H5 O (.lst (A5 (Bk o b pa)))) O=some (.lst (A5 (Bk o b pa))):=zF;let hL6:(upd H5 O (.lst (A5 (Bk o b pa)))) L=some (.lst (A5 d)):=by rw[zg L5.OL.symm];show L5.hL
       let oj:(upd H5 O (.lst (A5 (Bk o b pa)))) pa=some (.tup (lL.map V.int)):=by rwa[zg (AJ lZ L5.hO (by intro z;cases z))]
       let sd6:=(L5.sd b).lst (o:=.lst (A5 (Bk o b pa))) L5.hO;let ord:=λ{kp H3 H4}=>LS.ord (pa:=pa) (kp:=kp) (H3:=H3) (H4:=H4) L5 b;let hwb6:(upd H5 O (.lst (A5 (Bk o b pa)))) (w b)=some (.tup [.int n,.ref ta]):=by let{p,ns,kW,rest,ht,_}:=id L4.fd;let h5:=s5 _ _ (AJ lI ht (by intro z;cases z)) lI;rwa[zg (AJ h5 L5.hO (by intro z;cases z))]
       generalize upd H5 O (.lst (A5 (Bk o b pa)))=H6 at hO6 hL6 oj sd6 ord hwb6 ⊢;let{dd,dx,la,wa,oa,n6,ts6,os6,ess6,DA6,WB6,ho6,h26,hl6}:=sd6;obtain rfl:n6=n:=by let{ta6,tys6,hz,_}:=id WB6;let e:=hwb6.symm.trans hz;simp only[Option.some.injEq,HO.tup.injEq,List.cons.injEq,V.int.injEq] at e;show e.1.symm
       show{4,L,3,.ref (d b),2,AA.of hL6,Cp d b,d b,dd,1,DA6.ins,2,FK,λl1 k8=>?_};let s7:=zG (o:=.lst [.str (Str.ofString "order")]) k8;let hl7:(upd H6 l1 (.lst [.str (Str.ofString "order")])) l1=some (.lst [.str (Str.ofString "order")]):=zF;generalize upd H6 l1 (.lst [.str (Str.ofString "order")])=H7 at s7 hl7 ⊢;show{4,O,3,.ref pa,2,AA.of (s7 _ _ hO6),?_,pa,0,{_,AD.of (s7 _ _ oj)},[],0,λq hq=>?_}
       . rw[Cp,FF]
       show CH (a:=pa) (xs:=lL.map V.int) (λi J H8=>J=((lL.take i).map sN).map V.str/\AE H7 H8/\H8 q=some (.lst J)) {0,zG hq,zF} (λi J H8 y=>?_) (λi J H8 y=>?_) (λi v J H8 hv y=>?_) (λJ H8 y=>?_)
       . show AD.of (y.2.1 _ _ (s7 _ _ oj))
       . rw[y.1,zA,zA,zi];show Bm ()
       . let{0,s8,h8}:=y;rw[zK] at hv;cases e:lL[i]? with
         | none=>rw[e] at hv;cases hv
         | some x=>rw[e] at hv;cases hv;let xr:=O2.rng x (zQ e);show{{2},A7 {1,x,0,(),h8,?_,A4 s8 hq,zF}};rw[ze,e,zO,zO];rfl
       . let{0,s8,h8}:=y;rw[zA,zR (zL _)] at h8;show{l1,q,5,s8 _ _ hl7,h8,?_,λp hp=>?_}
         . let:10000000<=sizeLine:=by decide
           rw[zA,zA];change 1+lL.length<=_
           lia
         let md:=(s7.trans s8).trans (zG (o:=.lst ([.str (Str.ofString "order")]++(lL.map sN).map V.str)) hp);let hp9:(upd H8 p (.lst ([.str (Str.ofString "order")]++(lL.map sN).map V.str))) p=some (.lst ((Str.ofString "order" :: lL.map sN).map V.str)):=zF;generalize upd H8 p (.lst ([.str (Str.ofString "order")]++(lL.map sN).map V.str))=H9 at md hp9 ⊢;let D9:=DA6.same md;show{_,p,Str.ofString "order" :: lL.map sN,2,AA.of hp9,by decide,?_,?_}
         . rw[GO];let:=D8 (b:=20) (ws:=Str.ofString "order" :: lL.map sN) λz hz=>by
            rcases zZ.mp hz with rfl | hz
            . decide
            . let{u,hu,0}:=zy.mp hz;let:=O2.rng u hu;show Fd ()
           rw[zj,zA] at this
           lia
         show D9.say (.inr (.inl {lL,StrLaws.glued_eq_join _ _,O2,λkp' dx' kq oa' kU H' sm nk Tb' hd KA=>{6,AL (by decide +kernel) ?_}}));show z _ _ _ _ ((ord md sm nk {dd,dx',kq,_,oa',n6,ts6,lL,kU,⟨hd,KA,DA6.up,Tb'⟩,(WB6.keep md).keepT λx J e=>sm.get (AJ e D9.ins (by intro z;cases z)) e (by intro ps z;cases z),sm.get (AJ (md _ _ oj) D9.ins (by intro z;cases z)) (md _ _ oj) (by intro ps z;cases z),h26,hl6}).mono () ())
     . show{1,4,L,3,.ref (d b),2,AA.of L4.hL,Cp d b,4,W,3,.ref (w b),2,AA.of L4.hW,Cp w b,t,d b,dd,k b,dx,la,wa,oa,w b,_,n,ts,os,I,0,L4.fd,(),DA,WB,h2,(),λkq wa' wb' ko kU H5 s5 T5 DA5 WB5 hl5=>?_};let hk:=DA.ka.ins;let{p,ns,kW,rest,ht,_}:=id T4;let hW5:=s5.get L4.nW (AJ L4.hW hk (by intro z;cases z)) L4.hW (by intro ps z;cases z);let ho5:=s5.get (AJ ho ht (by intro z;cases z)) (AJ ho hk (by intro z;cases z)) ho (by intro ps z;cases z);show{4,W,_,5,hW5,VH w b,?_};rw[Uk];show z _ _ _ _ ((L4.web b s5 T5 {dd,dx,kq,wa',oa,n,ko,os,kU,DA5,WB5,ho5,h2,()}).mono () (zL _))))
   (zN (AU (PW.pt (Cs (zt CS (zm zx (pv 2) (pv 8)) Ax (zw _)) (DO (CM (BR (AF (Y0 wz) hr (zB (zm zx (pv 7) (pv 8)) (zB (zm AM (zm zx (pv 2) (pv 8)) zb) zJ)))))))) BH AV)
   (zN (AX (i:=8) EW.nd (AF (JW wz) hr (zB (pv 1) (As zJ))))
   (zX (AU (CM (BR (AF (Jv wz) hr (zB (zm zx (pv 7) (pv 8)) (zB (zm zx (pv 2) (pv 8)) (zB (AF (JW wz) hr (zB (pv 1) (zB (zm AM (zm zx (pv 2) (pv 8)) zb) zJ)))
    (zB (AF (JW wz) hr (zB (pv 1) (zB (zm AM (zm zx (pv 2) (pv 8)) zb) zJ))) zJ))))))) BH AV)))))))
  (zN (Bn (CO rfl wz.mRange (As zJ)) (Ay (i:=8) EW.nd)
   (zN (AU (CM (BR (AF (MQ wz) hr (zB (zm zx (pv 7) (pv 8)) (zB (zm zx (pv 2) (pv 8)) (zB (zm zx (pv 6) (pv 8)) zJ)))))) BH AV)
   (zX (AU (zt Cb (C6 (zm zx (pv 7) (pv 8)) (Fj wz) hr (zB AW zJ)) (BE PySem.F.plainAttrs_str PySem.F.slot_str_join PySem.F.type_str_join FE AW (zB (AF (U6 wz) hr (zB (zm zx (pv 2) (pv 8)) zJ)) zJ)) (zw _)) BH AV))))
  (zX (zu GS)))))))))),?_}
 show{1,a,ns,0,hS,hlen,λt H1 ht T1 s1=>?_};let B1:Tb H1 PT:={#[],s1 _ _ hPT,trivial,.inl rfl};show{zd _,λW hW0=>?_};let nW:W≠t:=T1.ne hW0;show⟨2,rfl,by decide,by decide,Es (lo:=0) (n:=2) (λq σ H2=>q<=2/\Qk λ(v3 v4:Option V)(f:Bool->Addr)=>σ=[some (.ref a),some (.ref t),some (.ref W),v3,v4,none,none,none,none]/\H2 W=some (.lst ((A5 f).take q))/\Ap H2 t (400*q)/\Tb H2 PT/\∀b,bN b<q->Ij H2 (f b)) {zd _,3,λ_=>t,0,zF,T1.keep (zG hW0),B1.same (zG hW0),λb hb=>absurd hb (Eu _)} (λq σ H2 hq z=>?_) (λσ H2 z=>?_)⟩
 . let{_,v3,v4,f,0,hW,T2,B2,wb}:=z;rw[CC];let{b,0}:=X9 hq;show⟨_,rfl,t,_,5,rfl,T2,by let:=JS b;lia,by decide,by decide,λwa n0 ts H3 _ hnm W3 sr T3 s3=>?_⟩;let{p,ns',kW,rest,ht2,_}:=id T2;let hW3:=s3 _ _ nW hW;let B3:Tb H3 PT:=Nk B2 T2 s3;let{ta,tys,kc,lE,TA,G0}:=id W3;let hn01:=G0.n1;show{1,.inl {0,_,AA.of hW3},1,wa,3,.int n0,2,AD.of kc,0,5,?_};show{1,wa,3,.ref ta,2,AD.of kc,0,B7,λw0 hw0=>?_};dsimp only;let s4:=zG (o:=.tup [.int (n0+1),.ref ta]) hw0;let W4:Af (upd H3 w0 (.tup [.int (n0+1),.ref ta])) w0 (n0+1) ts:={ta,tys,zF,s4 _ _ lE,TA.keep λb J e=>s4 _ _ e,Pr G0 ()};generalize upd H3 w0 (.tup [.int (n0+1),.ref ta])=H4 at s4 W4 ⊢;let hW4:=s4 _ _ hW3;let tk2:∀ {o} x J,H4 x=some (.tup J)->(upd H4 W o) x=some (.tup J):=λx J e=>by rwa[zg (AJ e hW4 (by intro z;cases z))]
   show{W,5,hW4,BJ (zn VM (by decide)),?_};show{by let:=JS b;lia,3,Bk f b w0,0,by rw[zF,UR],(Ap.mvl (T3.keep s4) hW4 Ye nW).mono (),N1 (B3.same s4) hW4,λc hc=>?_};by_cases e:c=b
   . subst e;rw[FF];let{_,3,3,G4}:=id W4;show Ij.keep {n0+1,ts,W4,sr,(),GW.few G4 ()} tk2
   . rw[Ex e];show ((wb c (Us b c hc e)).keep λx J e=>s4 _ _ (s3 _ _ (AJ e ht2 (by intro z;cases z)) e)).keep tk2
 . let{_,v3,v4,f,0,hW,T2,B2,wb}:=z;show⟨_,rfl,t,_,4,rfl,T2,by decide,by decide,by decide,λr H3 r0 r1 T3 he3=>{0,?_}⟩;let{p,ns',kW,rest,ht2,_}:=id T2;let s3:=Bi he3;generalize decide (V.int r=V.int 0)=wd;show{t,W,wd,_,3,f,0,nW,s3 _ _ nW hW,T3.mono (),Nk B2 T2 s3,λb=>(wb b (JS b)).keep λx J e=>s3 _ _ (AJ e ht2 (by intro z;cases z)) e,λw H4 hW T4 B4 wb=>?_};clear s3 ht2 he3 T3 T2 B2;obtain⟨nt,hnt⟩:∃nt:Bool->Int×List T3,∀b,Af H4 (w b) (nt b).1 (nt b).2/\DF ((nt b).2.map tl)/\(2<=(nt b).1/\(nt b).1<=14)/\(nt b).2.length<=36:=
    Classical.axiomOfChoice (r:=λb (x:Int×List T3)=>Af H4 (w b) x.1 x.2/\DF (x.2.map tl)/\(2<=x.1/\x.1<=14)/\x.2.length<=36) λb=>by let{n,ts,z}:=wb b;show{(n,ts),z}
   show{1,W,0,{_,AA.of hW},[],0,λO hO0=>?_};let nWO:W≠O:=zp hW hO0;let nO:O≠t:=T4.ne hO0;show DJ (a:=W) (xs:=A5 w) (λi J H5=>i<=2/\∃f:Bool->Addr,J=(A5 f).take i/\(∀b,bN b<i->H5 (f b)=some (.tup ((lowTo (nt b).1.toNat).map V.int)))/\AE H4 H5/\H5 O=some (.lst J)) {zd _,λ_=>t,0,λb hb=>absurd hb (Eu _),zG hO0,zF} (λi J H5 z=>?_) (λi J H5 z=>?_) (λi v J H5 hv z=>?_) (λJ H5 z=>?_)
   . let{3,3,s5,_}:=z;show AA.of (s5 _ _ hW)
   . let{_,f,0,_}:=z;show BJ (zn VM (by decide))
   . let{_,f,0,hf,s5,h5}:=z;let{b,2}:=Um hv;let{Wb,_,hn,_}:=hnt b;let{ta,tys,lI,_}:=id (Wb.keep s5);show{{2},A7 {1,w b,3,.int (nt b).1,2,AD.of lI,0,(nt b).1,0,(),(),λl hl=>?_}};let s6:=zG (o:=.tup ((lowTo (nt b).1.toNat).map V.int)) hl;let hl6:(upd H5 l (.tup ((lowTo (nt b).1.toNat).map V.int))) l=some (.tup ((lowTo (nt b).1.toNat).map V.int)):=zF;generalize upd H5 l (.tup ((lowTo (nt b).1.toNat).map V.int))=H6 at s6 hl6 ⊢;let h6:=s6 _ _ h5;show{h6,by let:=JS b;lia,Bk f b l,UR f b l,λc hc=>?_,A4 (s5.trans s6) hO0,zF};by_cases e:c=b
     . subst e;rwa[FF,zg (AJ hl6 h6 (by intro z;cases z))]
     . rw[Ex e];let:=s6 _ _ (hf c (Us b c hc e));rwa[zg (AJ this h6 (by intro z;cases z))]
   let{_,o,0,ho,s5,hO}:=z;let ho':=λb=>ho b (JS b);rw[show ((A5 o).take (A5 w).length)=A5 o from rfl] at hO;let hW5:=s5 _ _ hW;let T5:=T4.keep s5;let B5:=B4.same s5;let hnt5:=λb=>(hnt b).1.keep s5;clear ho hO0 hW T4 B4;show{1,W,0,{_,AA.of hW5},[],0,λL hL0=>?_};let nWL:W≠L:=zp hW5 hL0;let nOL:O≠L:=zp hO hL0;let nL:L≠t:=T5.ne hL0;show DJ (a:=W) (xs:=A5 w) (λi J H6=>i<=2/\El λ(d k:Bool->Addr)=>J=(A5 d).take i/\A0 H5 H6/\Tb H6 PT/\H6 L=some (.lst J)/\(∀b,bN b<i->∃(dd dx la wa oa:Addr)(I:List (List En)),BO H6 C D PT (d b) dd (k b) dx la wa oa (nt b).1 (nt b).2 (lowTo (nt b).1.toNat) I)/\(i=2->k false≠k true/\d false≠d true)) {zd _,λ_=>t,λ_=>t,0,A0.of (zG hL0),B5.same (zG hL0),zF,λb hb=>absurd hb (Eu _),λe=>by cases e} (λi J H6 z=>?_) (λi J H6 z=>?_) (λi v J H6 hv z=>?_) (λJ H6 z=>?_)
   . let{3,3,s6,_}:=z;show AA.of (s6.get hW5 (by intro ps z;cases z))
   . let{_,d,k,0,_}:=z;show BJ (zn VM (by decide))
   . let{_,d,k,0,s6,B6,hL6,dk,nn}:=z;let{b,2}:=Um hv;let{_,sr,hn,hl36}:=hnt b;let Wb:Af H6 (w b) (nt b).1 (nt b).2:=(hnt5 b).keepT λx J e=>s6.get e (by intro ps z;cases z);let{ta,tys,lI,3,G}:=id Wb;let U:DB (nt b).1 (nt b).2:=.of G sr ();show{{2},A7 {1,w b,(nt b).1,(nt b).2,0,Wb.r,U.smW,λl H7 s7 hl7 x dx hx hdx ne=>?_}};let kZ:(upd H7 dx (.own x)) x=none:=by rwa[zg (Ne.symm ne)]
     let s78:AE H7 (upd (upd H7 dx (.own x)) x (.ins D dx [])):=(zG (o:=.own x) hdx).trans (zG (o:=.ins D dx []) kZ);let h8x:(upd (upd H7 dx (.own x)) x (.ins D dx [])) x=some (.ins D dx []):=zF;generalize upd (upd H7 dx (.own x)) x (.ins D dx [])=H8 at s78 h8x ⊢;show{x,dx,l,7,h8x,s78 _ _ hl7,U,sr,(B6.same s7).same s78,λkp dx' la wa oa I H9 sm9 o7 B9 hx9 K9=>{0,?_}};let md:=s7.trans s78;let x6:H6 x=none:=CI s7 hx;let k6:H6 kp=none:=CI md o7;let s69:A0 H6 H9:=λc u e=>sm9 c u (zp e x6) (md _ _ e);let hL9:=s69.get hL6 (by intro ps z;cases z);let DA9:BO H9 C D PT x dx kp dx' la wa oa (nt b).1 (nt b).2 (lowTo (nt b).1.toNat) I:=⟨hx9,K9,U,B9⟩;let up9:∀{dk dd kp dx la wa oa:Addr}{n:Int}{ts:List T3}{os:List Int}{I:List (List En)}{u:HO},BO H9 C D PT dk dd kp dx la wa oa n ts os I->BO (upd H9 L u) C D PT dk dd kp dx la wa oa n ts os I:=λDA=>
      {by rw[zg (AJ DA.ins hL9 (by intro z;cases z))];show DA.ins,DA.ka.keep (zg (AJ DA.ka.ins hL9 (by intro z;cases z))) λx J e=>by rwa[zg (AJ e hL9 (by intro z;cases z))],DA.up,N1 DA.tb hL9}
     let up6:∀{dk dd kp dx la wa oa:Addr}{n:Int}{ts:List T3}{os:List Int}{I:List (List En)},BO H6 C D PT dk dd kp dx la wa oa n ts os I->BO H9 C D PT dk dd kp dx la wa oa n ts os I:=λDA=>
      {s69.get DA.ins (by intro ps z;cases z),DA.ka.keep ((s69.get DA.ka.ins (by intro ps z;cases z)).trans DA.ka.ins.symm) λx J e=>s69.get e (by intro ps z;cases z),DA.up,B9}
     show{hL9,by let:=JS b;lia,Bk d b x,Bk k b kp,UR d b x,(s6.trans s69).chg hL0,N1 B9 hL9,zF,λc hc=>?_,λe=>?_}
     . by_cases e:c=b
       . subst e;rw[FF,FF];show{dx,dx',la,wa,oa,I,up9 DA9}
       . rw[Ex e,Ex e];let{dd,dx,la,wa,oa,I,DA}:=dk c (Us b c hc e);show{dd,dx,la,wa,oa,I,up9 (up6 DA)}
     . cases b with
       | false=>cases e
       | true=>let{dd,dx,la,wa,oa,I,DA}:=dk false (by decide);show{zp DA.ka.ins k6,zp DA.ins x6}
   let{_,d,k,0,s6,B6,hL,dk,nn}:=z;let{nk,nd}:=nn rfl;rw[show ((A5 d).take (A5 w).length)=A5 d from rfl] at hL;let L6:LS C D PT t W O L d k w o 1000 36 H6:={s6.get hW5 (by intro ps z;cases z),s6.get hO (by intro ps z;cases z),hL,λb=>by
    let{dd,dx,la,wa,oa,I,DA}:=dk b (JS b);show{dd,dx,la,wa,oa,(nt b).1,(nt b).2,lowTo (nt b).1.toNat,I,DA,(hnt5 b).keepT λx J e=>s6.get e (by intro ps z;cases z),s6.get (ho' b) (by intro ps z;cases z),(hnt b).2.2.1.1,(hnt b).2.2.2},λb c e=>by cases b <;> cases c <;> first | show absurd rfl e | show nk | show nk.symm,λb c e=>by cases b <;> cases c <;> first | show absurd rfl e | show nd | show nd.symm,
    T5.smT s6,nW,nO,nL,nWO,nWL,nOL}
   clear s6 B6 hL dk nn nk nd hL0 T5 B5 hnt5 hW5 s5 ho' hnt hO;show{wd,t,_,2,L6.fd,by decide,λkk H7 lT T7 s7=>?_};let L7:=L6.sm s7 T7;show{kk,0,(),(),Es (lo:=0) (n:=kk.toNat) (λq σ H8=>S6 λ(v3 v8:Option V)(k w o:Bool->Addr)=>σ=[some (.ref a),some (.ref t),some (.ref W),v3,v4,some (.bl wd),some (.ref O),some (.ref L),v8]/\LS C D PT t W O L d k w o (1001+50*q) (36+q) H8) {_,3,7,L7} (λq σ H8 hq z=>?_) (λσ H8 z=>?_)}
   . let{v3,v8,k,w,o,0,L8}:=z;rw[CC];show⟨_,rfl,t,_,2,rfl,L8.fd,(),by decide,by decide,λr H9 r0 r1 T9 he9=>?_⟩;let L9:=L8.sm (Bi he9) T9;let{b,0}:=YY r0 r1;show{t,W,O,L,d,k,w,o,3,b,3,7,L9,(),(),λk w o nU L10=>?_};let{dd,dx,la,wa,oa,n,ts,os,I,DA,WB,ho,h2,hl}:=id (L10.sd b);let{ta,tys,lI,_}:=id WB;show{4,W,3,.ref (w b),2,AA.of L10.hW,Cp w b,6,AL (by simp) ?_};show{4,L,3,.ref (d b),2,AA.of L10.hL,Cp d b,4,W,3,.ref (w b),2,AA.of L10.hW,Cp w b,w b,3,.int n,2,AD.of lI,0,d b,dd,k b,dx,la,wa,oa,n,ts,os,I,0,DA,λH11 nv=>?_};show{1,Ao ?_};let L11:=L10.same nv;show⟨_,rfl,t,_,2,rfl,L11.fd,(),by decide,by decide,λr2 H12 r20 r21 T12 he12=>?_⟩;let L12:=L11.sm (Bi he12) T12;let{b2,0}:=YY r20 r21;let{dd,dx,la,wa,oa,n,ts,os,I,DA,WB,ho,h2,hl}:=id (L12.sd b2);let{ta,tys,lI,3,G}:=id WB;let n24:=G.n24;show{4,L,3,.ref (d b2),2,AA.of L12.hL,Cp d b2,4,W,3,.ref (w b2),2,AA.of L12.hW,Cp w b2,1,4,W,3,.ref (w b2),2,AA.of L12.hW,Cp w b2,w b2,3,.int n,2,AD.of lI,0,t,_,n,0,L12.fd,(),(),(),λx H13 x0 x1 T13 he13=>?_};let L13:=L12.sm (Bi he13) T13;let hwb13:=λ(H':Hp)(s:Sm t H12 H')=>(show H' (w b2)=_ from by let{p,ns,kW,rest,ht,_}:=id L12.fd;show s _ _ (AJ lI ht (by intro z;cases z)) lI)
     show{1,4,W,3,.ref (w b2),2,AA.of L13.hW,Cp w b2,w b2,3,.int n,2,AD.of (hwb13 _ (Bi he13)),0,t,_,n,0,L13.fd,(),(),(),λy H14 y0 y1 T14 he14=>?_};let s24:=(Bi he13).trans (Bi he14);let L14:=L13.sm (Bi he14) T14;show{d b2,dd,k b2,dx,la,wa,oa,w b2,n,x,y,ts,os,I,0,DA.sm L12.fd s24,WB.smF L12.fd s24,{⟨x0,x1⟩,⟨y0,y1⟩},λH15 s15=>?_};show{1,Ao ?_};show{3,k,w,o,0,(L14.same s15).mono () ()}
   . let{v3,v8,k,w,o,0,L8}:=z;show⟨2,rfl,by decide,by decide,Es (lo:=0) (n:=2) (λq σ H9=>∃v8:Option V,σ=[some (.ref a),some (.ref t),some (.ref W),v3,v4,some (.bl wd),some (.ref O),some (.ref L),v8]/\AE H8 H9) {1,AE.refl _} (λq σ H9 hq z=>?_) (λσ H9 z=>?_)⟩
     . let{v8,0,s9}:=z;rw[CC];let{b,0}:=X9 hq;rw[MV];let L9:=L8.same s9;let{dd,dx,la,wa,oa,n,ts,os,I,DA,WB,ho,h2,hl}:=id (L9.sd b);show{4,L,3,.ref (d b),2,AA.of L9.hL,Cp d b,4,W,3,.ref (w b),2,AA.of L9.hW,Cp w b,4,O,3,.ref (o b),2,AA.of L9.hO,Cp o b,d b,dd,k b,dx,la,wa,oa,w b,o b,n,ts,os,I,0,DA,WB,ho,λnU ny=>?_};show{1,Ao ?_};let L10:=L9.same ny;let mw:=DA.same ny;let{e1,e2}:=Z4 DA.up;show{4,L,3,.ref (d b),2,AA.of L10.hL,Cp d b,d b,dd,1,mw.ins,0,mw.say (.inr (.inr {Str.ofString "web",[],0,.inr <| .inr <| .inr <| .inr <| .inr <| .inr <| .inr {2,λH11 nv=>?_}}))};let L11:=L10.same nv;show{0,4,W,3,.ref (w b),2,AA.of L11.hW,Cp w b,w b,n,ts,0,((WB.keep ny).keep nv).r,DA.up.smW,λl4 H12 lS hl4=>{_,l4,DW n ts,2,AA.of hl4,by decide,by rw[GO];lia,?_}};rw[Ue];show{6,AL (by simp) ?_};show{1,((s9.trans ny).trans nv).trans lS}
     . let{v8,0,s9}:=z;show kF _
end K73
namespace K73
open PySem L2 WM
meta def cE (P:Params)(x:Str×Int×Tok×Tok):DictEntry:={PyData.keyHash P x.1,.str x.1 x.2.2.1,.int x.2.1 x.2.2.2}
def Qb (xs:List (Str×Int×Tok×Tok))(ep)(I:(ca==sysModules)=false)(h:K.lookup ca=some {.type "dict",none,.dict (xs.map (cE w.params)).toArray ep,#[]}) (o:(xs.map (·.1)).Nodup):OI P w K ca (xs.map λx=>(.inr x.1,.int x.2.1)):=by
 show{I,3,ep,xs.map λx=>(.inr x.1,.int x.2.1 x.2.2.2),h,{9},0,λe he=>?_,?_,?_,?_}
 . rw[List.mem_toArray] at he;let{x,1}:=zy.mp he;show{.inr x.1,Uc x.1 x.2.2.1,0}
 . change Pairs _ (xs.map (cE w.params)) _;clear h o
   induction xs with
   | nil=>show .nil
   | cons x xs C=>show .cons (Uc x.1 x.2.2.1) rfl C
 . rw[DY];unfold List.Nodup at o ⊢;rw[DK] at o ⊢;show o.imp λh e=>h (Sum.inr.inj e)
 . clear h o
   induction xs with
   | nil=>show .nil
   | cons x xs C=>show .cons {6} C
def uZq {us:List Value}{n}(h:us.length=n+1):∃a t,us=a::t/\t.length=n:=by
 cases us with
 | nil=>cases h
 | cons a t=>show ⟨a,t,rfl,Nat.succ.inj h⟩
def HN {us:List Value}(h:us.length=1):∃o,us=[o]:=by
 let{a,t,0,e}:=uZq h;cases t with
 | nil=>show ⟨a,rfl⟩
 | cons=>cases e
def LV {us:List Value}(h:us.length=2):∃C o,us=[C,o]:=by
 let{a,t,0,e}:=uZq h;let{o,0}:=HN e;show ⟨a,o,rfl⟩
def Lr {us:List Value}(h:us.length=3):∃I C o,us=[I,C,o]:=by
 let{a,t,0,e}:=uZq h;let{C,o,0}:=LV e;show ⟨a,C,o,rfl⟩
def MK {us:List Value}(h:us.length=4):∃J I C o,us=[J,I,C,o]:=by
 let{a,t,0,e}:=uZq h;let{I,C,o,0}:=Lr e;show ⟨a,I,C,o,rfl⟩
def Kg {us:List Value}(h:us.length=5):∃U J I C o,us=[U,J,I,C,o]:=by
 let{a,t,0,e}:=uZq h;let{J,I,C,o,0}:=MK e;show ⟨a,J,I,C,o,rfl⟩
def walk {l:PySem.W.OpenLaw}{K:Params->AG}(J:l.most=some 63)(o:d.params.defaults=[])(I:∃dn,(PyProof.Rows.recsOf q).find? (λe=>e.name==("nearest" : Str))=some dn)
 (hY:∀w h,YP w h->(K w.params).In h)
 (F:∀w mg C h,(K w.params).In h->h.Ns mainGlobals mg->mg d.name=some (.ref C) ->
  ∃fd c P,PySem.W.tabIn (K w.params) "nearest"=some (c,P)/\PySem.W.noTabs (K w.params)=true/\(∀s u,BindsTo s fd {[u],[]} [("_law_script",u)])/\∀base:Heap,(K w.params).In base->base.Ns mainGlobals mg->Gp mg base->Bh l.prog w (K w.params) mg base Cm 14 C fd NX (RU (K w.params) P)):
 PySem.W.WalkO q loose XP YP l.row.toRowW d [] (λf vs=>PySem.call f vs):=
 L2.walk_T (n:=63) (k:=14) (x := "_law_script") (tn := "nearest") (CX:=Cm) (sp:=RU) J (by decide) o {0,by decide,by decide,0} I hY F (λ_ _ _ a ns U hP hS=>{a,ns,0,hS,U,hP,λ_=>rfl}) λ_ _ _ _ z=>z
def fk {K:AG}(x:Str)(st:Stmt)(f:Addr)(pm cd:Value)(l:autoParam (K.lookup f=some {.type "function",.none,.func (PySem.W.fnOf x x (defArgs st) (defBody st) (defScope st) .none .none .none pm .none cd .none),#[]}) d_._auto_14) (c:autoParam (PySem.W.codeIn K cd x=true) d_._auto_14)(k:autoParam (PySem.W.keepIn K (.ref f)=true) d_._auto_14):EH K x x st f (PySem.W.fnOf x x (defArgs st) (defBody st) (defScope st) .none .none .none pm .none cd .none):=Sv l c k
def kC (x)(st)(f)(pm)(cc)(l:autoParam (K.lookup f=some {.type "function",.none,.func (PySem.W.fnOf x x (defArgs st) (defBody st) (defScope st) .none .none .none pm .none (.ref cc) .none),#[]}) d_._auto_14) (c:autoParam (PySem.W.codeIn K (.ref cc) x=true) d_._auto_14)(k:autoParam (PySem.W.keepIn K (.ref f)=true) d_._auto_14):Jd K x x st f (PySem.W.fnOf x x (defArgs st) (defBody st) (defScope st) .none .none .none pm .none (.ref cc) .none) cc:=iQ l c k
meta def dL:DefRec:={ name := "law",params:=defArgs EI,body:=defBody EI,scope:=defScope EI,pos:=⟨517,0,546,15⟩ }
def fB (KX:K.In h)(G:h.Ns mainGlobals mg)(f)(pm)(l:autoParam (K.lookup f=some {.type "function",.none,.func (PySem.W.fnOf s.x s.x (defArgs s.s) (defBody s.s) (defScope s.s) .none .none .none pm .none (vR (f-1)) .none),#[]}) d_._auto_14)(d:autoParam (PySem.W.codeIn K (vR (f-1)) s.x=true) d_._auto_14)(k:autoParam (PySem.W.keepIn K (.ref f)=true) d_._auto_14)(m:autoParam (PySem.W.nsIn K mainGlobals s.x=some (some (.ref f))) d_._auto_14) (b:∀us:List Value,us.length=s.p.length->bindArgs (PySem.W.fnOf s.x s.x (defArgs s.s) (defBody s.s) (defScope s.s) .none .none .none pm .none (vR (f-1)) .none) {us,[]}=pure (s.p.zip us):=by
 intro us o
 first
 | (let{C,0}:=HN o;rfl)
 | (let{C,I,0}:=LV o;rfl)
 | (let{C,I,J,0}:=Lr o;rfl)
 | (let{C,I,J,U,0}:=MK o;rfl)
 | (let{C,I,J,U,u4,0}:=Kg o;rfl)):Fh K mg s:={f,PySem.W.fnOf s.x s.x (defArgs s.s) (defBody s.s) (defScope s.s) .none .none .none pm .none (vR (f-1)) .none,Sv l d k,.all b,PySem.W.mg_of KX G m}
def fM (f)(pm)(l:autoParam (K.lookup f=some {.type "function",.none,.func (PySem.W.fnOf s.x q (defArgs s.s) (defBody s.s) (defScope s.s) .none .none .none pm .none (vR (f-1)) .none),#[]}) d_._auto_14)(d:autoParam (PySem.W.codeIn K (vR (f-1)) q=true) d_._auto_14)(k:autoParam (PySem.W.keepIn K (.ref f)=true) d_._auto_14)(c:autoParam (DT K C) d_._auto_15)(m:autoParam (EJ K C s.x f) d_._auto_16) (b:∀us:List Value,us.length=s.p.length->bindArgs (PySem.W.fnOf s.x q (defArgs s.s) (defBody s.s) (defScope s.s) .none .none .none pm .none (vR (f-1)) .none) {us,[]}=pure (s.p.zip us):=by
 intro us o
 first
 | (let{I,0}:=HN o;rfl)
 | (let{I,J,0}:=LV o;rfl)
 | (let{I,J,U,0}:=Lr o;rfl)
 | (let{I,J,U,u3,0}:=MK o;rfl)
 | (let{I,J,U,u3,u4,0}:=Kg o;rfl)):Mh K C q s:={f,PySem.W.fnOf s.x q (defArgs s.s) (defBody s.s) (defScope s.s) .none .none .none pm .none (vR (f-1)) .none,c,m,.all b,Sv l d k}
def fI (KX:K.In h)(G:h.Ns mainGlobals mg)(f)(pm)(l:autoParam (K.lookup f=some {.type "function",.none,.func (PySem.W.fnOf s.x q (defArgs s.s) (defBody s.s) (defScope s.s) .none .none .none pm .none (vR (f-1)) .none),#[]}) d_._auto_14)(d:autoParam (PySem.W.codeIn K (vR (f-1)) q=true) d_._auto_14)(k:autoParam (PySem.W.keepIn K (.ref f)=true) d_._auto_14)(c:autoParam (Mk K C f) d_._auto_15)(m:autoParam (PySem.W.nsIn K mainGlobals x=some (some (.ref C))) d_._auto_14) (b:∀us:List Value,us.length=s.p.length->bindArgs (PySem.W.fnOf s.x q (defArgs s.s) (defBody s.s) (defScope s.s) .none .none .none pm .none (vR (f-1)) .none) {us,[]}=pure (s.p.zip us):=by
 intro us o
 first
 | (let{I,0}:=HN o;rfl)
 | (let{I,J,0}:=LV o;rfl)
 | (let{I,J,U,0}:=Lr o;rfl)
 | (let{I,J,U,u3,0}:=MK o;rfl)
 | (let{I,J,U,u3,u4,0}:=Kg o;rfl)):Jh K mg C x q s:={f,PySem.W.fnOf s.x q (defArgs s.s) (defBody s.s) (defScope s.s) .none .none .none pm .none (vR (f-1)) .none,c,PySem.W.mg_of KX G m,.all b,Sv l d k}
theorem facts (w:World)(mg:Aj)(fa:Addr)(h:Heap)(KX:(Kf w.params).In h)(G:h.Ns mainGlobals mg)(hmg:mg "law"=some (.ref fa)):∃fd c P,PySem.W.tabIn (Kf w.params) "nearest"=some (c,P)/\PySem.W.noTabs (Kf w.params)=true/\(∀s u,BindsTo s fd {[u],[]} [("_law_script",u)])/\∀base:Heap,(Kf w.params).In base->base.Ns mainGlobals mg->Gp mg base->Bh (PySem.Challenge.rw_labelways_k73_whole_desks).prog w (Kf w.params) mg base Cm 14 fa fd NX (RU (Kf w.params) P):=by
 have mk:∀(x:Str)(f:Addr),PySem.W.nsIn (Kf w.params) mainGlobals x=some (some (.ref f))->mg x=some (.ref f):=fun x f e=>PySem.W.mg_of KX G e;have mn:∀x:Str,PySem.W.nsIn (Kf w.params) mainGlobals x=some none->mg x=none:=fun x e=>PySem.W.mg_none_of KX G e;have FNe:=kC (K:=Kf w.params) "nearest" OJ.s 314 GK 313;have bNe:=FNe.fn.binds (ps:=["waiting"]) fun _ _ _ _ _ _ us hl=>by obtain⟨u0,rfl⟩:=HN hl;rfl
 have mNe:=mk "nearest" 314 (by kernel_rfl);have FZ:=fk (K:=Kf w.params) "law" EI 702 qL (vR 701);have e:=hmg.symm.trans (mk "law" 702 (by kernel_rfl));cases e;exact⟨_,313,309,by kernel_rfl,by kernel_rfl,fun s v=>.of_eq rfl,fun base hb _ hbm=>(Mb (C:=420) (D:=591) {(fB KX G 631 qL),
 (fB KX G 638 qL),
 (fB KX G 643 qL),
 (fB KX G 655 qL),
 (fB KX G 648 qL),
 (fB KX G 108 Dp),
 (fB KX G 115 Dp),
 (fB KX G 122 Dp),
 (fB KX G 134 Dp),
 (fB KX G 220 NY),
 (fB KX G 227 NY),
 (fB KX G 234 NY),
 (fB KX G 307 GK),
 (fB KX G 300 GK),
 (fB KX G 319 GK),
 (fB KX G 324 GK),
 (fB KX G 329 Em),
 (fB KX G 334 Em),
 (fB KX G 339 Em),
 (fB KX G 344 Em),
 (fB KX G 351 Em),
 (fB KX G 431 Bj),
 (fB KX G 438 Bj),
 (fB KX G 168 CG),
 (fB KX G 187 CG),
 (fB KX G 175 CG),
 (fB KX G 182 CG),
 (fB KX G 194 CG),
 (fB KX G 206 CG),
 (fB KX G 445 Bj),
 (fB KX G 450 Bj),
 (fB KX G 127 Dp),
 (fB KX G 151 CG),
 (fB KX G 158 CG),
 (fB KX G 163 CG),
 (fB KX G 199 CG),
 (fB KX G 241 Ci),
 (fB KX G 248 Ci),
 (fB KX G 255 Ci),
 (fB KX G 262 Ci),
 (fB KX G 269 Ci),
 (fB KX G 274 Ci),
 (fB KX G 281 Ci),
 (fB KX G 288 Ci),
 (fB KX G 295 Ci),
 (fB KX G 141 Dp),
 (fB KX G 146 Dp),
 (fB KX G 510 Co),
 (fB KX G 517 Co),
 (fB KX G 524 Co),
 (fB KX G 531 Co),
 (fB KX G 538 Co),
 (fB KX G 545 Co),
 (fB KX G 552 Co),
 (fB KX G 559 Co),
 (fB KX G 566 Co),
 (fB KX G 455 Cg),
 (fB KX G 460 Cg),
 (fB KX G 467 Cg),
 (fB KX G 472 Cg),
 (fB KX G 479 Cg),
 (fB KX G 486 Cg),
 (fB KX G 493 Cg),
 (fB KX G 500 Cg),
 (fB KX G 505 Cg),
 (fB KX G 602 DU),
 (fB KX G 607 DU),
 (fB KX G 614 DU),
 (fB KX G 619 DU),
 (fB KX G 624 DU),
 (fB KX G 213 CG),
 (fB KX G 356 Em),
 (fB KX G 662 qL),
 (fB KX G 667 qL),
 (fB KX G 672 qL),
 (fB KX G 677 qL),
 (fB KX G 682 qL),
 (fB KX G 687 qL),
 (fB KX G 692 qL),
 (fB KX G 697 qL),
 {_,3,FNe,bNe,mNe,PySem.W.codeHd_of_K hb (show PySem.W.codeHdIn (Kf w.params) 313 309=true by kernel_rfl)},
 (fI KX G 370 Bj),
 (fM 377 Bj),
 (fM 384 Bj),
 (fM 389 Bj),
 (fM 396 Bj),
 (fM 403 Bj),
 (fM 410 Bj),
 (fM 417 Bj),
 (fI KX G 581 DU),
 (fM 588 DU),
 {{by kernel_rfl,by kernel_rfl,by kernel_rfl,by kernel_rfl},by unfold DV;kernel_rfl,by unfold DV;kernel_rfl,by unfold DV;kernel_rfl},
 {{by kernel_rfl,by kernel_rfl,by kernel_rfl,by kernel_rfl},by unfold DV;kernel_rfl},
 hbm,
 ⟨311,PySem.W.mg_of KX G (by kernel_rfl)⟩,
 ⟨453,PySem.W.mg_of KX G (by kernel_rfl)⟩,
 ⟨455,PySem.W.mg_of KX G (by kernel_rfl)⟩,
 ⟨457,PySem.W.mg_of KX G (by kernel_rfl)⟩,
 ⟨789,PySem.W.mg_of KX G (by kernel_rfl)⟩,
 ⟨961,PySem.W.mg_of KX G (by kernel_rfl)⟩,
 ⟨959,PySem.W.mg_of KX G (by kernel_rfl)⟩,
 {_,mk _ 567 (by kernel_rfl),Qb [("put",3,963,964),("strike",2,965,966),("told",2,967,968),("step",2,969,970),("walk",2,971,972),("label",1,973,974),("total",0,975,976),("web",0,977,978)] 8 (by decide) (by kernel_rfl) (by decide +kernel)},
 (mn _ (by kernel_rfl)),
 (mn _ (by kernel_rfl)),
 (mn _ (by kernel_rfl)),
 (mn _ (by kernel_rfl)),
 (mn _ (by kernel_rfl)),
 (mn _ (by kernel_rfl)),
 (mn _ (by kernel_rfl)),
 (mn _ (by kernel_rfl)),
 (mn _ (by kernel_rfl)),
 (mn _ (by kernel_rfl)),
 (mn _ (by kernel_rfl)),
 (mn _ (by kernel_rfl)),
 (mn _ (by kernel_rfl)),
 (mn _ (by kernel_rfl)),
 (mn _ (by kernel_rfl)),
 (mn _ (by kernel_rfl)),
 (mn _ (by kernel_rfl))} FZ).mono (by decide)⟩
end K73
open PySem PySem.W PyProof.Rows
set_option maxRecDepth 100000 in
set_option maxHeartbeats 0 in
theorem PySem.Challenge.cw_labelways_k73_whole_desks_holds : PySem.Challenge.rw_labelways_k73_whole_desks.Holds := by
 show holds_law K73.wS λo=>?_;show holds_open (q:=K73.Vp) (loose:=K73.LZ) (Xt:=λs=>xlAt K73.Vp [] s && recOk (RowW.records K73.RR) s) (XP:=XL K73.Vp []) (Yf:=Hook.obs K73.HK) (Ya:=Hook.val K73.HK) (YP:=Hook.says K73.HK) (d:=K73.dL) (kwd:=[]) (N:=9580) K73.left (Hook.of K73.HK) (Hook.keeps K73.HK) (λs e=>xl_of s (Bool.and_eq_true_iff.mp e).1) XL.keeps (by kernel_rfl) (by kernel_rfl) (by kernel_rfl) (λs e=>recFacts_of (Bool.and_eq_true_iff.mp e).2) (by kernel_rfl) o (by decide +kernel) {2,9,by decide +kernel} ?hw ?hc
 case hw=>w_witness2
 case hc=>
  show K73.walk (l:=PySem.Challenge.rw_labelways_k73_whole_desks) (K:=K73.Kf) rfl rfl {((PyProof.Rows.recsOf K73.Vp).find? (λe=>e.name==("nearest" : Str))).get (by decide +kernel),by simp} (λw h Y=>PySem.W.kIn_of Y) K73.facts
