import PyProof.Rows.All
import Wide.All
import OpenK.AllK
import Wide.FinOn
import Lean
import PyProof.EqAt
import PyProof.EqKinds
import PyProof.TupleCall
import PyProof.ListRange
import PyProof.Rows.StrKeys3
import PyProof.ZipIter
import PyProof.DictRoadsH
import PyProof.MeetsDictList
import PySem.Challenge.RW_labelways_k92_whole_a_keeper_stays_right
set_option Elab.async false
set_option linter.all false
set_option maxRecDepth 100000
section
open PySem PySem.Spec PyProof.Rows
abbrev zA:=@wpAny_bind
abbrev zB:=@List.getElem?_eq_getElem
abbrev zD:=@List.length_map
abbrev zE:=@List.getD_eq_getElem?_getD
abbrev zF:=@wpAny_pure
abbrev zH:=@Heap.get?_push_of_some
abbrev zJ:=@List.getElem?_eq_some_iff
abbrev zK:=@Nat.le_refl
abbrev zM:=@List.size_toArray
abbrev zN:=@List.getElem?_map
abbrev zO:=@decide_eq_true
abbrev zP:=@List.length_append
abbrev zR:=@Option.some.inj
abbrev zS:=@Heap.get?_push_size
abbrev zT:=@List.getElem?_append_right
abbrev zU:=@Heap.lt_size
abbrev zV:=@List.map_append
abbrev zX:=@List.mem_of_getElem?
abbrev zY:=@decide_eq_false
abbrev zZ:=@List.getElem?_append_left
abbrev za:=@List.mem_cons_self
abbrev zb:=@Bool.false_ne_true
abbrev zc:=@List.mem_cons
abbrev ze:=@Nat.ne_of_lt
abbrev zf:=@List.take_of_length_le
abbrev zg:=@List.mem_append_right
abbrev zh:=@Nat.zero_le
abbrev zi:=@List.mem_cons_of_mem
abbrev zk:=@Nat.lt_of_lt_of_le
abbrev zm:=@List.mem_singleton
abbrev zn:=@List.length_cons
abbrev zp:=@List.mem_append
abbrev zq:=@List.mem_map
abbrev zr:=@List.length_filter_le
abbrev zt:=@List.append_nil
abbrev zu:=@List.take_add_one
abbrev zv:=@List.getElem_of_mem
abbrev zx:=@List.length_take
abbrev zAB:=@List.mem_filter
abbrev zAD:=@Nat.le_trans
abbrev zAF:=@List.map_cons
abbrev zAH:=@List.length_replicate
abbrev zAN:=@Nat.lt_of_le_of_lt
abbrev zAO:=@List.mem_append_left
abbrev zAQ:=@Classical.byContradiction
abbrev zAR:=@wpAny_holding
abbrev zAT:=@List.pairwise_map
abbrev zAU:=@List.getElem?_toArray
abbrev zAV:=@List.filter_append
abbrev zAX:=@List.pairwise_cons
abbrev zAY:=@List.getElem?_eq_none
abbrev zAZ:=@List.filter_cons_of_neg
abbrev zAc:=@List.nodup_cons
abbrev zAd:=@List.pairwise_iff_getElem
abbrev zAe:=@Int.toNat_natCast
abbrev zAf:=@Int.zero_add
abbrev zAi:=@Option.map_some
abbrev zAj:=@List.all_eq_true
abbrev zAk:=@wpAny_newObj_type
abbrev zAl:=@List.filter_cons_of_pos
abbrev zAq:=@Heap.size_push
abbrev zAs:=@Option.isSome_iff_exists
abbrev zAt:=@Nat.lt_succ_of_lt
abbrev zAu:=@List.length_range
abbrev zAv:=@wpAny_callSpecial?_slot
abbrev zAw:=@List.mem_filterMap
abbrev zAx:=@Bool.false_eq_true
abbrev zA0:=@wpAny_call_entry
abbrev zA1:=@List.lookup_cons
abbrev zA2:=@List.filter_cons
abbrev zA4:=@wpAny_truthy_bool
abbrev zBG:=@List.getElem?_replicate
abbrev zBI:=@wpAny_mono
abbrev zBJ:=@List.Pairwise.nil
abbrev zBN:=@Nat.le_succ
abbrev zBO:=@List.replicate_succ
abbrev zBU:=@wpAny_isInstance
abbrev zBV:=@wpAny_typeOf
abbrev zBW:=@wpAny_Call_Name_kw
abbrev zBX:=@Nat.lt_irrefl
abbrev zBY:=@Heap.get?_update_self
abbrev zBf:=@wpAny_seqItems
abbrev zBg:=@List.mem_range
abbrev zBi:=@List.find?_cons
abbrev zBj:=@List.filter_nil
abbrev zBo:=@List.map_congr_left
abbrev zBp:=@Heap.SameBut.update
abbrev zBq:=@wpAny_typeNameOfWhole_keyiter
abbrev zBr:=@List.any_eq_true
end
namespace L2
open PySem PySem.Spec PyProof.Rows
noncomputable def defArgs (s:Stmt):Arguments:=match s with
 | .FunctionDef _ a _ _ _ _ _ _ _ _=>a
 | _=>{ posonlyargs:=[],args:=[],vararg:=none,kwonlyargs:=[],kw_defaults:=[],kwarg:=none,defaults:=[] }
noncomputable def defBody (s:Stmt):List Stmt:=match s with
 | .FunctionDef _ _ b _ _ _ _ _ _ _=>b
 | _=>[]
noncomputable def defScope (s:Stmt):Scope:=match s with
 | .FunctionDef _ _ _ _ _ _ sc _ _ _=>sc
 | _=>{ kind:=.function,names:=[],isGenerator:=false,isCoroutine:=false }
end L2
namespace L2
section
open PySem PySem.W PyProof.Rows
noncomputable def zEj (p:Program)(w:World)(n₀:Nat)(ann:Option Value):Nat->SharedT->Thread->Option SharedT
 | 0,_,_=>none
 | n+1,s,t=>match through t with
  | true=>some s
  | false=>match Fast.tw6613529449190102663 n₀ ann t with
   | false=>none
   | true=>match Fast.tw10156331382660048174 (Fast.tw11892475500146522536 Fast.tw14364793385576792824) p w s t with
    | some (s',t')=>zEj p w n₀ ann n s' t'
    | none=>none
theorem zE8 {p:Program}{w:World}{n₀:Nat}{ann:Option Value}:∀{n:Nat}{s s':SharedT}{t:Thread},zEj p w n₀ ann n s t=some s'->topRun treeTable p w n₀ ann n s.abs t=some s'.abs
 | 0,_,_,_,h=>by cases h
 | n+1,s,s',t,h=>by
  unfold zEj at h
  rw[<-Fast.te6613529449190102663,<-Fast.te10156331382660048174,<-Fast.te11892475500146522536,<-Fast.te14364793385576792824] at h
  unfold topRun
  cases he:through t with
  | true=>rw[he] at h;cases h;rfl
  | false=>
   rw[he] at h
   cases hk:stepOk n₀ ann t with
   | false=>rw[hk] at h;cases h
   | true=>
    rw[hk] at h
    cases hs:stepT (denote treeTable) p w s t with
    | none=>rw[hs] at h;cases h
    | some r=>obtain⟨s₂,t₂⟩:=r;rw[hs] at h;rw[stepT_spec hs];exact zE8 h
noncomputable def bt:List Obj->Nat->BT->BT
 | [],_,t=>t
 | o::l,i,t=>bt l (i+1) (t.ins i o)
noncomputable def bT (P:Params):BT:=bt (boot_heap P).objs.toList 0 .nil
noncomputable def bS (w:World)(os:OsState):SharedT:=⟨bT w.params,(boot_heap w.params).objs.size,(boot_heap w.params).life,Array.mk [],boot_drawn,boot_toks,os⟩
theorem bA (w:World)(os:OsState):(bS w os).abs=⟨boot_heap w.params,Array.mk [],boot_drawn,boot_toks,os⟩:=by kernel_rfl
noncomputable abbrev runT (p:Program)(N:Nat)(w:World)(os:OsState):Option SharedT:=zEj p w (boot_heap w.params).objs.size ((boot_heap w.params).nsMap mainGlobals "__annotations__") N (bS w os) (topStub p)
noncomputable abbrev chkT (p:Program)(h h':Heap)(s:Shared):Bool:=staticsOk (importedModules p.main.body) h h' && namesBound p h' && gensDone s && laidKept h h'
theorem left_of {p q:Program}{loose:List Str}{Xt:Shared->Bool}{α:Type}{Yf:Shared->α}{Ya:World->α}{N:Nat}(e:opening p=plainProg p.main.scope.names)(hN:Nat.ble 600 N=true)(f:∀s,fenceModules? p s=some s)
 (h:∀(w:World)(os:OsState),(runT p N w os).map (fun s=>(chkT p (boot_heap w.params) s.abs.heap s.abs,Fast.tw4187177175401517315 q loose (importedModules p.main.body) Xt true s.abs,Yf s.abs))=some (true,openGood q loose,Ya w)):LeftO p q loose Xt Yf Ya N:=by
 intro w
 obtain⟨⟨h0,gs,d,k,os⟩,e1,e2⟩:=Option.map_eq_some_iff.mp (boot_open e hN f w)
 obtain⟨rfl,rfl,rfl,rfl⟩:h0=boot_heap w.params/\gs=Array.mk []/\d=boot_drawn/\k=boot_toks:=by simpa using e2
 obtain⟨s,r,a⟩:=Option.map_eq_some_iff.mp (h w os)
 obtain⟨b,a⟩:=Prod.mk.inj a
 rw[<-Fast.te4187177175401517315] at a
 have y:=zE8 r
 rw[bA] at y
 unfold openEnds
 rw[e1]
 show (topFrom treeTable p w N _).map _=_
 unfold topFrom
 have z:((boot_heap w.params).isNs mainGlobals && (Array.mk []:Array GenState).size==0)=true:=by kernel_rfl
 dsimp only
 rw[z]
 dsimp only
 rw[y]
 show Option.map _ (match chkT p (boot_heap w.params) s.abs.heap s.abs with | true=>some s.abs | false=>none)=_
 rw[b]
 exact congrArg some a
end
end L2
namespace K92
open PySem L2
noncomputable def top (i:Nat):Stmt:=PySem.Challenge.pw_labelways_k92_whole_a_keeper_stays_right.main.body.getD i (.Pass ⟨0,0,0,0⟩)
noncomputable def mth (k i:Nat):Stmt:=match top k with
 | .ClassDef _ _ _ body ..=>body.getD i (.Pass ⟨0,0,0,0⟩)
 | _=>.Pass ⟨0,0,0,0⟩
noncomputable abbrev sT:String->Str:=Str.ofString
noncomputable abbrev kH:=PyData.keyHash
noncomputable abbrev dE:=DictEntry.mk
noncomputable abbrev vS:=Value.str
noncomputable abbrev vI:=Value.int
noncomputable abbrev vR:=Value.ref
noncomputable abbrev vB:=Value.bool
noncomputable abbrev vN:Value:=Value.none
noncomputable abbrev vT:=Value.type
noncomputable abbrev oM:=Obj.mk
noncomputable abbrev cQ (x:Array Value):Obj:=oM (vT "code") .none (.fields x) #[]
noncomputable abbrev fQ (x:FuncData):Obj:=oM (vT "function") .none (.func x) #[]
noncomputable abbrev fT (x:String)(i:Nat)(m:Value)(c:Nat):Obj:=fQ (.mk (sT x) (sT x) (L2.defArgs (top i)) (FuncBody.stmts (L2.defBody (top i))) (L2.defScope (top i)) 3 [] vN vN vN m .none (vR c) vN 0)
noncomputable abbrev qS (x:String)(n:Nat):Value:=vS (sT x) n
noncomputable abbrev qC (n:Nat):Value:=qS "/claim/cut.py" n
noncomputable abbrev qL:=qS "law_labelways_k92_whole_a_keeper_stays_right" 708
noncomputable abbrev kE (P:Params)(x:String)(n:Nat):Value->DictEntry:=dE (kH P (sT x)) (qS x n)
noncomputable def Kf:Params->PySem.W.Frag:=fun P=>[
(2,oM vN .none (Data.dict #[]) #[]),
(3,oM (vT "dict") .none (Data.dict #[kE P "__name__" 165 qL,kE P "__doc__" 166 vN,kE P "__package__" 167 vN,kE P "__loader__" 168 (Value.builtin "__main__.__loader__#opaque"),kE P "__spec__" 169 vN,kE P "__annotations__" 170 (vR 6),kE P "__builtins__" 171 (vR 4),kE P "__file__" 173 (qC 172),kE P "__cached__" 174 vN,kE P "WayError" 206 (vR 24),kE P "NoLabels" 233 (vR 44),kE P "NoOrder" 249 (vR 56),kE P "NoTie" 265 (vR 68),kE P "is_number" 274 (vR 77),kE P "is_within" 283 (vR 84),kE P "is_tuple_of" 291 (vR 91),kE P "is_rising" 297 (vR 96),kE P "is_place" 305 (vR 103),kE P "is_label" 313 (vR 108),kE P "is_entry" 321 (vR 115),kE P "are_labels" 327 (vR 120),kE P "own_place" 333 (vR 125),kE P "told" 341 (vR 132),kE P "told_hub" 349 (vR 139),kE P "least_sum" 355 (vR 144),kE P "entry_of" 364 (vR 151),kE P "far_entries" 370 (vR 156),kE P "next_step" 379 (vR 163),kE P "MOST_TIES" 383 (vI 60 382),kE P "MOST_LONG" 385 (vI 99 384),kE P "is_long" 392 (vR 170),kE P "ties_at" 404 (vR 177),kE P "long_of" 415 (vR 184),kE P "lengths" 423 (vR 189),kE P "lengths_from" 437 (vR 196),kE P "nearest" 445 (vR 203),kE P "between_rows" 451 (vR 208),kE P "next_by_row" 457 (vR 213),kE P "is_order" 465 (vR 218),kE P "by_order" 471 (vR 223),kE P "label_by_ranks" 477 (vR 228),kE P "is_hub" 483 (vR 233),kE P "entry_by_rows" 495 (vR 240),kE P "Keeper" 586 (vR 304),kE P "with_tie" 597 (vR 315),kE P "without_tie" 607 (vR 322),kE P "pair_of" 616 (vR 329),kE P "ties_but" 622 (vR 334),kE P "lets_labels" 632 (vR 341),kE P "refuse_at" 640 (vR 348),kE P "own_fault" 649 (vR 355),kE P "up_fault" 659 (vR 362),kE P "is_up_right" 671 (vR 369),kE P "tie_fault" 677 (vR 374),kE P "grows_too_much" 686 (vR 381),kE P "down_fault" 696 (vR 388),kE P "is_down_right" 707 (vR 395),kE P "_law_tape" 716 (vR 402),kE P "_law_draw" 728 (vR 409),kE P "_law_web" 734 (vR 414),kE P "_law_added" 742 (vR 421),kE P "_law_lesser" 750 (vR 428),kE P "_law_far" 756 (vR 433),kE P "_law_joined" 767 (vR 440),kE P "_law_nexts" 773 (vR 445),kE P "_law_order" 784 (vR 452),kE P "_law_web_of" 790 (vR 457),kE P "_law_is_right" 805 (vR 464),kE P "_law_turned" 811 (vR 469),kE P "_law_put" 821 (vR 476),kE P "_law_deed_right" 839 (vR 483),kE P "law" 856 (vR 490)] 72) #[]),
(23,oM (vT "dict") .none (Data.dict #[kE P "__module__" 196 (qS "labelways.errors" 187),kE P "__firstlineno__" 200 (vI 2 199),kE P "__static_attributes__" 201 (vR 22),kE P "__weakref__" 203 (vR 25),kE P "__doc__" 204 vN] 3) #[]),
(24,oM (vT "type") .none (Data.cls (ClassData.mk (sT "WayError") [vT "ValueError"] [vR 24,vT "ValueError",vT "Exception",vT "BaseException",vT "object"] 23 (sT "WayError") true [] [vR 44,vR 56,vR 68] false .none false)) #[.some (vR 15),.none,.some (qS "WayError" 189),.some (qS "WayError" 197),.some (Value.builtin "ValueError.__new__"),.some (vB true)]),
(25,oM (vT "getset_descriptor") .none (Data.fields #[qS "__weakref__" 202,vR 24,Value.builtin "ExceptionGroup.__weakref__",vN]) #[]),
(40,cQ #[qS "__init__" 219,qS "NoLabels.__init__" 220,qC 221,vI 6 0,vI 3 0,vI 0 0,vI 0 0,vI 3 0,vR 35,vB true,vI 181 0,vR 36,vN,vR 37,vR 38,vR 39,vI 225 0,vI 6 0,qC 226]),
(41,fQ (.mk (sT "__init__") (sT "NoLabels.__init__") (Arguments.mk [] [Arg.mk (sT "self") .none (Pos.mk 6 17 6 21),Arg.mk (sT "word") .none (Pos.mk 6 23 6 27),Arg.mk (sT "at") .none (Pos.mk 6 29 6 31)] .none [] [] .none []) (FuncBody.stmts [Stmt.Assign [Expr.Attribute (Expr.Name (sT "self") (Pos.mk 7 8 7 12)) (sT "word") (Pos.mk 7 8 7 17)] (Expr.Name (sT "word") (Pos.mk 7 20 7 24)) (Pos.mk 7 8 7 24),Stmt.Assign [Expr.Attribute (Expr.Name (sT "self") (Pos.mk 8 8 8 12)) (sT "at") (Pos.mk 8 8 8 15)] (Expr.Name (sT "at") (Pos.mk 8 18 8 20)) (Pos.mk 8 8 8 20)]) (Scope.mk ScopeKind.function [(sT "self",NameKind.local),(sT "word",NameKind.local),(sT "at",NameKind.local)] false false []) 3 [] vN vN vN (qS "labelways.errors" 187) .none (vR 40) vN 0)),
(43,oM (vT "dict") .none (Data.dict #[kE P "__module__" 214 (qS "labelways.errors" 187),kE P "__firstlineno__" 218 (vI 4 217),kE P "__init__" 227 (vR 41),kE P "__static_attributes__" 230 (vR 42),kE P "__doc__" 231 vN] 2) #[]),
(44,oM (vT "type") .none (Data.cls (ClassData.mk (sT "NoLabels") [vR 24] [vR 44,vR 24,vT "ValueError",vT "Exception",vT "BaseException",vT "object"] 43 (sT "NoLabels") true [] [] false .none false)) #[.some (vR 28),.none,.some (qS "NoLabels" 207),.some (qS "NoLabels" 215),.some (Value.builtin "ValueError.__new__"),.some (vB true)]),
(55,oM (vT "dict") .none (Data.dict #[kE P "__module__" 241 (qS "labelways.errors" 187),kE P "__firstlineno__" 245 (vI 9 244),kE P "__static_attributes__" 246 (vR 54),kE P "__doc__" 247 vN] 2) #[]),
(56,oM (vT "type") .none (Data.cls (ClassData.mk (sT "NoOrder") [vR 24] [vR 56,vR 24,vT "ValueError",vT "Exception",vT "BaseException",vT "object"] 55 (sT "NoOrder") true [] [] false .none false)) #[.some (vR 47),.none,.some (qS "NoOrder" 234),.some (qS "NoOrder" 242),.some (Value.builtin "ValueError.__new__"),.some (vB true)]),
(67,oM (vT "dict") .none (Data.dict #[kE P "__module__" 257 (qS "labelways.errors" 187),kE P "__firstlineno__" 261 (vI 11 260),kE P "__static_attributes__" 262 (vR 66),kE P "__doc__" 263 vN] 2) #[]),
(68,oM (vT "type") .none (Data.cls (ClassData.mk (sT "NoTie") [vR 24] [vR 68,vR 24,vT "ValueError",vT "Exception",vT "BaseException",vT "object"] 67 (sT "NoTie") true [] [] false .none false)) #[.some (vR 59),.none,.some (qS "NoTie" 250),.some (qS "NoTie" 258),.some (Value.builtin "ValueError.__new__"),.some (vB true)]),
(76,cQ #[qS "is_number" 268,qS "is_number" 269,qC 270,vI 14 0,vI 1 0,vI 0 0,vI 0 0,vI 3 0,vR 71,vB true,vI 181 0,vR 72,vN,vR 73,vR 74,vR 75,vI 272 0,vI 14 0,qC 273]),
(77,fQ (.mk (sT "is_number") (sT "is_number") (L2.defArgs (top 6)) (FuncBody.stmts (L2.defBody (top 6))) (L2.defScope (top 6)) 3 [] vN vN vN (qS "labelways.kinds" 266) .none (vR 76) vN 0)),
(83,cQ #[qS "is_within" 275,qS "is_within" 276,qC 277,vI 16 0,vI 3 0,vI 0 0,vI 0 0,vI 3 0,vR 78,vB true,vI 181 0,vR 79,vN,vR 80,vR 81,vR 82,vI 281 0,vI 16 0,qC 282]),
(84,fQ (.mk (sT "is_within") (sT "is_within") (L2.defArgs (top 7)) (FuncBody.stmts (L2.defBody (top 7))) (L2.defScope (top 7)) 3 [] vN vN vN (qS "labelways.kinds" 266) .none (vR 83) vN 0)),
(90,cQ #[qS "is_tuple_of" 284,qS "is_tuple_of" 285,qC 286,vI 18 0,vI 2 0,vI 0 0,vI 0 0,vI 3 0,vR 85,vB true,vI 181 0,vR 86,vN,vR 87,vR 88,vR 89,vI 289 0,vI 18 0,qC 290]),
(91,fQ (.mk (sT "is_tuple_of") (sT "is_tuple_of") (L2.defArgs (top 8)) (FuncBody.stmts (L2.defBody (top 8))) (L2.defScope (top 8)) 3 [] vN vN vN (qS "labelways.kinds" 266) .none (vR 90) vN 0)),
(95,cQ #[qS "is_rising" 292,qS "is_rising" 293,qC 294,vI 20 0,vI 1 0,vI 0 0,vI 0 0,vI 3 0,vR 92,vB true,vI 181 0,vR 93,vN,vN,vN,vR 94,vI 295 0,vI 20 0,qC 296]),
(96,fQ (.mk (sT "is_rising") (sT "is_rising") (L2.defArgs (top 9)) (FuncBody.stmts (L2.defBody (top 9))) (L2.defScope (top 9)) 3 [] vN vN vN (qS "labelways.kinds" 266) .none (vR 95) vN 0)),
(102,cQ #[qS "is_place" 298,qS "is_place" 299,qC 300,vI 22 0,vI 2 0,vI 0 0,vI 0 0,vI 3 0,vR 97,vB true,vI 181 0,vR 98,vN,vR 99,vR 100,vR 101,vI 303 0,vI 22 0,qC 304]),
(103,fQ (.mk (sT "is_place") (sT "is_place") (L2.defArgs (top 10)) (FuncBody.stmts (L2.defBody (top 10))) (L2.defScope (top 10)) 3 [] vN vN vN (qS "labelways.kinds" 266) .none (vR 102) vN 0)),
(107,cQ #[qS "is_label" 308,qS "is_label" 309,qC 310,vI 25 0,vI 2 0,vI 0 0,vI 0 0,vI 3 0,vR 104,vB true,vI 181 0,vR 105,vN,vN,vN,vR 106,vI 311 0,vI 25 0,qC 312]),
(108,fQ (.mk (sT "is_label") (sT "is_label") (L2.defArgs (top 12)) (FuncBody.stmts (L2.defBody (top 12))) (L2.defScope (top 12)) 3 [] vN vN vN (qS "labelways.labels" 306) .none (vR 107) vN 0)),
(114,cQ #[qS "is_entry" 314,qS "is_entry" 315,qC 316,vI 32 0,vI 2 0,vI 0 0,vI 0 0,vI 3 0,vR 109,vB true,vI 181 0,vR 110,vN,vR 111,vR 112,vR 113,vI 319 0,vI 32 0,qC 320]),
(115,fQ (.mk (sT "is_entry") (sT "is_entry") (L2.defArgs (top 13)) (FuncBody.stmts (L2.defBody (top 13))) (L2.defScope (top 13)) 3 [] vN vN vN (qS "labelways.labels" 306) .none (vR 114) vN 0)),
(119,cQ #[qS "are_labels" 322,qS "are_labels" 323,qC 324,vI 40 0,vI 2 0,vI 0 0,vI 0 0,vI 3 0,vR 116,vB true,vI 181 0,vR 117,vN,vN,vN,vR 118,vI 325 0,vI 40 0,qC 326]),
(120,fQ (.mk (sT "are_labels") (sT "are_labels") (L2.defArgs (top 14)) (FuncBody.stmts (L2.defBody (top 14))) (L2.defScope (top 14)) 3 [] vN vN vN (qS "labelways.labels" 306) .none (vR 119) vN 0)),
(124,cQ #[qS "own_place" 328,qS "own_place" 329,qC 330,vI 42 0,vI 1 0,vI 0 0,vI 0 0,vI 3 0,vR 121,vB true,vI 181 0,vR 122,vN,vN,vN,vR 123,vI 331 0,vI 42 0,qC 332]),
(125,fQ (.mk (sT "own_place") (sT "own_place") (L2.defArgs (top 15)) (FuncBody.stmts (L2.defBody (top 15))) (L2.defScope (top 15)) 3 [] vN vN vN (qS "labelways.labels" 306) .none (vR 124) vN 0)),
(131,cQ #[qS "told" 334,qS "told" 335,qC 336,vI 44 0,vI 2 0,vI 0 0,vI 0 0,vI 3 0,vR 126,vB true,vI 181 0,vR 127,vN,vR 128,vR 129,vR 130,vI 339 0,vI 44 0,qC 340]),
(132,fQ (.mk (sT "told") (sT "told") (L2.defArgs (top 16)) (FuncBody.stmts (L2.defBody (top 16))) (L2.defScope (top 16)) 3 [] vN vN vN (qS "labelways.labels" 306) .none (vR 131) vN 0)),
(138,cQ #[qS "told_hub" 342,qS "told_hub" 343,qC 344,vI 46 0,vI 2 0,vI 0 0,vI 0 0,vI 3 0,vR 133,vB true,vI 181 0,vR 134,vN,vR 135,vR 136,vR 137,vI 347 0,vI 46 0,qC 348]),
(139,fQ (.mk (sT "told_hub") (sT "told_hub") (L2.defArgs (top 17)) (FuncBody.stmts (L2.defBody (top 17))) (L2.defScope (top 17)) 3 [] vN vN vN (qS "labelways.labels" 306) .none (vR 138) vN 0)),
(143,cQ #[qS "least_sum" 350,qS "least_sum" 351,qC 352,vI 48 0,vI 2 0,vI 0 0,vI 0 0,vI 3 0,vR 140,vB true,vI 181 0,vR 141,vN,vN,vN,vR 142,vI 353 0,vI 48 0,qC 354]),
(144,fQ (.mk (sT "least_sum") (sT "least_sum") (L2.defArgs (top 18)) (FuncBody.stmts (L2.defBody (top 18))) (L2.defScope (top 18)) 3 [] vN vN vN (qS "labelways.labels" 306) .none (vR 143) vN 0)),
(150,cQ #[qS "entry_of" 356,qS "entry_of" 357,qC 358,vI 52 0,vI 2 0,vI 0 0,vI 0 0,vI 3 0,vR 145,vB true,vI 181 0,vR 146,vN,vR 147,vR 148,vR 149,vI 362 0,vI 52 0,qC 363]),
(151,fQ (.mk (sT "entry_of") (sT "entry_of") (L2.defArgs (top 19)) (FuncBody.stmts (L2.defBody (top 19))) (L2.defScope (top 19)) 3 [] vN vN vN (qS "labelways.labels" 306) .none (vR 150) vN 0)),
(155,cQ #[qS "far_entries" 365,qS "far_entries" 366,qC 367,vI 57 0,vI 1 0,vI 0 0,vI 0 0,vI 3 0,vR 152,vB true,vI 181 0,vR 153,vN,vN,vN,vR 154,vI 368 0,vI 57 0,qC 369]),
(156,fQ (.mk (sT "far_entries") (sT "far_entries") (L2.defArgs (top 20)) (FuncBody.stmts (L2.defBody (top 20))) (L2.defScope (top 20)) 3 [] vN vN vN (qS "labelways.labels" 306) .none (vR 155) vN 0)),
(162,cQ #[qS "next_step" 371,qS "next_step" 372,qC 373,vI 62 0,vI 2 0,vI 0 0,vI 0 0,vI 3 0,vR 157,vB true,vI 181 0,vR 158,vN,vR 159,vR 160,vR 161,vI 377 0,vI 62 0,qC 378]),
(163,fQ (.mk (sT "next_step") (sT "next_step") (L2.defArgs (top 21)) (FuncBody.stmts (L2.defBody (top 21))) (L2.defScope (top 21)) 3 [] vN vN vN (qS "labelways.labels" 306) .none (vR 162) vN 0)),
(169,cQ #[qS "is_long" 386,qS "is_long" 387,qC 388,vI 72 0,vI 1 0,vI 0 0,vI 0 0,vI 3 0,vR 164,vB true,vI 181 0,vR 165,vN,vR 166,vR 167,vR 168,vI 390 0,vI 72 0,qC 391]),
(170,fQ (.mk (sT "is_long") (sT "is_long") (L2.defArgs (top 25)) (FuncBody.stmts (L2.defBody (top 25))) (L2.defScope (top 25)) 3 [] vN vN vN (qS "labelways.webs" 380) .none (vR 169) vN 0)),
(176,cQ #[qS "ties_at" 393,qS "ties_at" 394,qC 395,vI 74 0,vI 2 0,vI 0 0,vI 0 0,vI 3 0,vR 171,vB true,vI 181 0,vR 172,vN,vR 173,vR 174,vR 175,vI 402 0,vI 74 0,qC 403]),
(177,fQ (.mk (sT "ties_at") (sT "ties_at") (L2.defArgs (top 26)) (FuncBody.stmts (L2.defBody (top 26))) (L2.defScope (top 26)) 3 [] vN vN vN (qS "labelways.webs" 380) .none (vR 176) vN 0)),
(183,cQ #[qS "long_of" 405,qS "long_of" 406,qC 407,vI 82 0,vI 3 0,vI 0 0,vI 0 0,vI 3 0,vR 178,vB true,vI 181 0,vR 179,vN,vR 180,vR 181,vR 182,vI 413 0,vI 82 0,qC 414]),
(184,fQ (.mk (sT "long_of") (sT "long_of") (L2.defArgs (top 27)) (FuncBody.stmts (L2.defBody (top 27))) (L2.defScope (top 27)) 3 [] vN vN vN (qS "labelways.webs" 380) .none (vR 183) vN 0)),
(188,cQ #[qS "lengths" 418,qS "lengths" 419,qC 420,vI 88 0,vI 1 0,vI 0 0,vI 0 0,vI 3 0,vR 185,vB true,vI 181 0,vR 186,vN,vN,vN,vR 187,vI 421 0,vI 88 0,qC 422]),
(189,fQ (.mk (sT "lengths") (sT "lengths") (L2.defArgs (top 29)) (FuncBody.stmts (L2.defBody (top 29))) (L2.defScope (top 29)) 3 [] vN vN vN (qS "labelways.lengths" 416) .none (vR 188) vN 0)),
(195,cQ #[qS "lengths_from" 424,qS "lengths_from" 425,qC 426,vI 90 0,vI 2 0,vI 0 0,vI 0 0,vI 3 0,vR 190,vB true,vI 181 0,vR 191,vN,vR 192,vR 193,vR 194,vI 435 0,vI 90 0,qC 436]),
(196,fQ (.mk (sT "lengths_from") (sT "lengths_from") (L2.defArgs (top 30)) (FuncBody.stmts (L2.defBody (top 30))) (L2.defScope (top 30)) 3 [] vN vN vN (qS "labelways.lengths" 416) .none (vR 195) vN 0)),
(202,cQ #[qS "nearest" 438,qS "nearest" 439,qC 440,vI 101 0,vI 1 0,vI 0 0,vI 0 0,vI 3 0,vR 197,vB true,vI 181 0,vR 198,vN,vR 199,vR 200,vR 201,vI 443 0,vI 101 0,qC 444]),
(203,fQ (.mk (sT "nearest") (sT "nearest") (L2.defArgs (top 31)) (FuncBody.stmts (L2.defBody (top 31))) (L2.defScope (top 31)) 3 [] vN vN vN (qS "labelways.lengths" 416) .none (vR 202) vN 0)),
(207,cQ #[qS "between_rows" 446,qS "between_rows" 447,qC 448,vI 103 0,vI 3 0,vI 0 0,vI 0 0,vI 3 0,vR 204,vB true,vI 181 0,vR 205,vN,vN,vN,vR 206,vI 449 0,vI 103 0,qC 450]),
(208,fQ (.mk (sT "between_rows") (sT "between_rows") (L2.defArgs (top 32)) (FuncBody.stmts (L2.defBody (top 32))) (L2.defScope (top 32)) 3 [] vN vN vN (qS "labelways.lengths" 416) .none (vR 207) vN 0)),
(212,cQ #[qS "next_by_row" 452,qS "next_by_row" 453,qC 454,vI 108 0,vI 3 0,vI 0 0,vI 0 0,vI 3 0,vR 209,vB true,vI 181 0,vR 210,vN,vN,vN,vR 211,vI 455 0,vI 108 0,qC 456]),
(213,fQ (.mk (sT "next_by_row") (sT "next_by_row") (L2.defArgs (top 33)) (FuncBody.stmts (L2.defBody (top 33))) (L2.defScope (top 33)) 3 [] vN vN vN (qS "labelways.lengths" 416) .none (vR 212) vN 0)),
(217,cQ #[qS "is_order" 460,qS "is_order" 461,qC 462,vI 113 0,vI 2 0,vI 0 0,vI 0 0,vI 3 0,vR 214,vB true,vI 181 0,vR 215,vN,vN,vN,vR 216,vI 463 0,vI 113 0,qC 464]),
(218,fQ (.mk (sT "is_order") (sT "is_order") (L2.defArgs (top 35)) (FuncBody.stmts (L2.defBody (top 35))) (L2.defScope (top 35)) 3 [] vN vN vN (qS "labelways.orders" 458) .none (vR 217) vN 0)),
(222,cQ #[qS "by_order" 466,qS "by_order" 467,qC 468,vI 118 0,vI 2 0,vI 0 0,vI 0 0,vI 3 0,vR 219,vB true,vI 181 0,vR 220,vN,vN,vN,vR 221,vI 469 0,vI 118 0,qC 470]),
(223,fQ (.mk (sT "by_order") (sT "by_order") (L2.defArgs (top 36)) (FuncBody.stmts (L2.defBody (top 36))) (L2.defScope (top 36)) 3 [] vN vN vN (qS "labelways.orders" 458) .none (vR 222) vN 0)),
(227,cQ #[qS "label_by_ranks" 472,qS "label_by_ranks" 473,qC 474,vI 124 0,vI 4 0,vI 0 0,vI 0 0,vI 3 0,vR 224,vB true,vI 181 0,vR 225,vN,vN,vN,vR 226,vI 475 0,vI 124 0,qC 476]),
(228,fQ (.mk (sT "label_by_ranks") (sT "label_by_ranks") (L2.defArgs (top 37)) (FuncBody.stmts (L2.defBody (top 37))) (L2.defScope (top 37)) 3 [] vN vN vN (qS "labelways.orders" 458) .none (vR 227) vN 0)),
(232,cQ #[qS "is_hub" 478,qS "is_hub" 479,qC 480,vI 127 0,vI 4 0,vI 0 0,vI 0 0,vI 3 0,vR 229,vB true,vI 181 0,vR 230,vN,vN,vN,vR 231,vI 481 0,vI 127 0,qC 482]),
(233,fQ (.mk (sT "is_hub") (sT "is_hub") (L2.defArgs (top 38)) (FuncBody.stmts (L2.defBody (top 38))) (L2.defScope (top 38)) 3 [] vN vN vN (qS "labelways.orders" 458) .none (vR 232) vN 0)),
(239,cQ #[qS "entry_by_rows" 484,qS "entry_by_rows" 485,qC 486,vI 131 0,vI 4 0,vI 0 0,vI 0 0,vI 3 0,vR 234,vB true,vI 181 0,vR 235,vN,vR 236,vR 237,vR 238,vI 493 0,vI 131 0,qC 494]),
(240,fQ (.mk (sT "entry_by_rows") (sT "entry_by_rows") (L2.defArgs (top 39)) (FuncBody.stmts (L2.defBody (top 39))) (L2.defScope (top 39)) 3 [] vN vN vN (qS "labelways.orders" 458) .none (vR 239) vN 0)),
(253,cQ #[qS "__init__" 510,qS "Keeper.__init__" 511,qC 512,vI 138 0,vI 3 0,vI 0 0,vI 0 0,vI 3 0,vR 248,vB true,vI 181 0,vR 249,vN,vR 250,vR 251,vR 252,vI 516 0,vI 138 0,qC 517]),
(254,fQ (.mk (sT "__init__") (sT "Keeper.__init__") (L2.defArgs (mth 41 0)) (FuncBody.stmts (L2.defBody (mth 41 0))) (L2.defScope (mth 41 0)) 3 [] vN vN vN (qS "labelways.keeper" 496) .none (vR 253) vN 0)),
(260,cQ #[qS "put" 519,qS "Keeper.put" 520,qC 521,vI 143 0,vI 4 0,vI 0 0,vI 0 0,vI 3 0,vR 255,vB true,vI 181 0,vR 256,vN,vR 257,vR 258,vR 259,vI 526 0,vI 143 0,qC 527]),
(261,fQ (.mk (sT "put") (sT "Keeper.put") (L2.defArgs (mth 41 1)) (FuncBody.stmts (L2.defBody (mth 41 1))) (L2.defScope (mth 41 1)) 3 [] vN vN vN (qS "labelways.keeper" 496) .none (vR 260) vN 0)),
(267,cQ #[qS "strike" 529,qS "Keeper.strike" 530,qC 531,vI 146 0,vI 3 0,vI 0 0,vI 0 0,vI 3 0,vR 262,vB true,vI 181 0,vR 263,vN,vR 264,vR 265,vR 266,vI 535 0,vI 146 0,qC 536]),
(268,fQ (.mk (sT "strike") (sT "Keeper.strike") (L2.defArgs (mth 41 2)) (FuncBody.stmts (L2.defBody (mth 41 2))) (L2.defScope (mth 41 2)) 3 [] vN vN vN (qS "labelways.keeper" 496) .none (vR 267) vN 0)),
(272,cQ #[qS "turn_to" 538,qS "Keeper.turn_to" 539,qC 540,vI 149 0,vI 2 0,vI 0 0,vI 0 0,vI 3 0,vR 269,vB true,vI 181 0,vR 270,vN,vN,vN,vR 271,vI 541 0,vI 149 0,qC 542]),
(273,fQ (.mk (sT "turn_to") (sT "Keeper.turn_to") (L2.defArgs (mth 41 3)) (FuncBody.stmts (L2.defBody (mth 41 3))) (L2.defScope (mth 41 3)) 3 [] vN vN vN (qS "labelways.keeper" 496) .none (vR 272) vN 0)),
(279,cQ #[qS "web_now" 544,qS "Keeper.web_now" 545,qC 546,vI 155 0,vI 1 0,vI 0 0,vI 0 0,vI 3 0,vR 274,vB true,vI 181 0,vR 275,vN,vR 276,vR 277,vR 278,vI 548 0,vI 155 0,qC 549]),
(280,fQ (.mk (sT "web_now") (sT "Keeper.web_now") (L2.defArgs (mth 41 4)) (FuncBody.stmts (L2.defBody (mth 41 4))) (L2.defScope (mth 41 4)) 3 [] vN vN vN (qS "labelways.keeper" 496) .none (vR 279) vN 0)),
(286,cQ #[qS "labels_now" 551,qS "Keeper.labels_now" 552,qC 553,vI 158 0,vI 1 0,vI 0 0,vI 0 0,vI 3 0,vR 281,vB true,vI 181 0,vR 282,vN,vR 283,vR 284,vR 285,vI 555 0,vI 158 0,qC 556]),
(287,fQ (.mk (sT "labels_now") (sT "Keeper.labels_now") (L2.defArgs (mth 41 5)) (FuncBody.stmts (L2.defBody (mth 41 5))) (L2.defScope (mth 41 5)) 3 [] vN vN vN (qS "labelways.keeper" 496) .none (vR 286) vN 0)),
(293,cQ #[qS "length_of" 558,qS "Keeper.length_of" 559,qC 560,vI 161 0,vI 3 0,vI 0 0,vI 0 0,vI 3 0,vR 288,vB true,vI 181 0,vR 289,vN,vR 290,vR 291,vR 292,vI 564 0,vI 161 0,qC 565]),
(294,fQ (.mk (sT "length_of") (sT "Keeper.length_of") (L2.defArgs (mth 41 6)) (FuncBody.stmts (L2.defBody (mth 41 6))) (L2.defScope (mth 41 6)) 3 [] vN vN vN (qS "labelways.keeper" 496) .none (vR 293) vN 0)),
(300,cQ #[qS "step_of" 567,qS "Keeper.step_of" 568,qC 569,vI 164 0,vI 3 0,vI 0 0,vI 0 0,vI 3 0,vR 295,vB true,vI 181 0,vR 296,vN,vR 297,vR 298,vR 299,vI 573 0,vI 164 0,qC 574]),
(301,fQ (.mk (sT "step_of") (sT "Keeper.step_of") (L2.defArgs (mth 41 7)) (FuncBody.stmts (L2.defBody (mth 41 7))) (L2.defScope (mth 41 7)) 3 [] vN vN vN (qS "labelways.keeper" 496) .none (vR 300) vN 0)),
(303,oM (vT "dict") .none (Data.dict #[kE P "__module__" 505 (qS "labelways.keeper" 496),kE P "__firstlineno__" 509 (vI 136 508),kE P "__init__" 518 (vR 254),kE P "put" 528 (vR 261),kE P "strike" 537 (vR 268),kE P "turn_to" 543 (vR 273),kE P "web_now" 550 (vR 280),kE P "labels_now" 557 (vR 287),kE P "length_of" 566 (vR 294),kE P "step_of" 575 (vR 301),kE P "__static_attributes__" 579 (vR 302),kE P "__dict__" 581 (vR 305),kE P "__weakref__" 583 (vR 306),kE P "__doc__" 584 vN] 4) #[]),
(304,oM (vT "type") .none (Data.cls (ClassData.mk (sT "Keeper") [vT "object"] [vR 304,vT "object"] 303 (sT "Keeper") true [] [] false .none false)) #[.none,.none,.some (qS "Keeper" 498),.some (qS "Keeper" 506),.some (Value.builtin "object.__new__"),.some (vB true)]),
(305,oM (vT "getset_descriptor") .none (Data.fields #[qS "__dict__" 580,vR 304,Value.builtin "function.__dict__",Value.builtin "function.__dict__#set"]) #[]),
(306,oM (vT "getset_descriptor") .none (Data.fields #[qS "__weakref__" 582,vR 304,Value.builtin "ExceptionGroup.__weakref__",vN]) #[]),
(314,cQ #[qS "with_tie" 587,qS "with_tie" 588,qC 589,vI 166 0,vI 4 0,vI 0 0,vI 0 0,vI 3 0,vR 309,vB true,vI 181 0,vR 310,vN,vR 311,vR 312,vR 313,vI 595 0,vI 166 0,qC 596]),
(315,fQ (.mk (sT "with_tie") (sT "with_tie") (L2.defArgs (top 42)) (FuncBody.stmts (L2.defBody (top 42))) (L2.defScope (top 42)) 3 [] vN vN vN (qS "labelways.keeper" 496) .none (vR 314) vN 0)),
(321,cQ #[qS "without_tie" 598,qS "without_tie" 599,qC 600,vI 173 0,vI 3 0,vI 0 0,vI 0 0,vI 3 0,vR 316,vB true,vI 181 0,vR 317,vN,vR 318,vR 319,vR 320,vI 605 0,vI 173 0,qC 606]),
(322,fQ (.mk (sT "without_tie") (sT "without_tie") (L2.defArgs (top 43)) (FuncBody.stmts (L2.defBody (top 43))) (L2.defScope (top 43)) 3 [] vN vN vN (qS "labelways.keeper" 496) .none (vR 321) vN 0)),
(328,cQ #[qS "pair_of" 608,qS "pair_of" 609,qC 610,vI 178 0,vI 3 0,vI 0 0,vI 0 0,vI 3 0,vR 323,vB true,vI 181 0,vR 324,vN,vR 325,vR 326,vR 327,vI 614 0,vI 178 0,qC 615]),
(329,fQ (.mk (sT "pair_of") (sT "pair_of") (L2.defArgs (top 44)) (FuncBody.stmts (L2.defBody (top 44))) (L2.defScope (top 44)) 3 [] vN vN vN (qS "labelways.keeper" 496) .none (vR 328) vN 0)),
(333,cQ #[qS "ties_but" 617,qS "ties_but" 618,qC 619,vI 182 0,vI 2 0,vI 0 0,vI 0 0,vI 3 0,vR 330,vB true,vI 181 0,vR 331,vN,vN,vN,vR 332,vI 620 0,vI 182 0,qC 621]),
(334,fQ (.mk (sT "ties_but") (sT "ties_but") (L2.defArgs (top 45)) (FuncBody.stmts (L2.defBody (top 45))) (L2.defScope (top 45)) 3 [] vN vN vN (qS "labelways.keeper" 496) .none (vR 333) vN 0)),
(340,cQ #[qS "lets_labels" 625,qS "lets_labels" 626,qC 627,vI 185 0,vI 2 0,vI 0 0,vI 0 0,vI 3 0,vR 335,vB true,vI 181 0,vR 336,vN,vR 337,vR 338,vR 339,vI 630 0,vI 185 0,qC 631]),
(341,fQ (.mk (sT "lets_labels") (sT "lets_labels") (L2.defArgs (top 47)) (FuncBody.stmts (L2.defBody (top 47))) (L2.defScope (top 47)) 3 [] vN vN vN (qS "labelways.checker" 623) .none (vR 340) vN 0)),
(347,cQ #[qS "refuse_at" 633,qS "refuse_at" 634,qC 635,vI 193 0,vI 2 0,vI 0 0,vI 0 0,vI 3 0,vR 342,vB true,vI 181 0,vR 343,vN,vR 344,vR 345,vR 346,vI 638 0,vI 193 0,qC 639]),
(348,fQ (.mk (sT "refuse_at") (sT "refuse_at") (L2.defArgs (top 48)) (FuncBody.stmts (L2.defBody (top 48))) (L2.defScope (top 48)) 3 [] vN vN vN (qS "labelways.checker" 623) .none (vR 347) vN 0)),
(354,cQ #[qS "own_fault" 641,qS "own_fault" 642,qC 643,vI 196 0,vI 1 0,vI 0 0,vI 0 0,vI 3 0,vR 349,vB true,vI 181 0,vR 350,vN,vR 351,vR 352,vR 353,vI 647 0,vI 196 0,qC 648]),
(355,fQ (.mk (sT "own_fault") (sT "own_fault") (L2.defArgs (top 49)) (FuncBody.stmts (L2.defBody (top 49))) (L2.defScope (top 49)) 3 [] vN vN vN (qS "labelways.checker" 623) .none (vR 354) vN 0)),
(361,cQ #[qS "up_fault" 650,qS "up_fault" 651,qC 652,vI 201 0,vI 2 0,vI 0 0,vI 0 0,vI 3 0,vR 356,vB true,vI 181 0,vR 357,vN,vR 358,vR 359,vR 360,vI 657 0,vI 201 0,qC 658]),
(362,fQ (.mk (sT "up_fault") (sT "up_fault") (L2.defArgs (top 50)) (FuncBody.stmts (L2.defBody (top 50))) (L2.defScope (top 50)) 3 [] vN vN vN (qS "labelways.checker" 623) .none (vR 361) vN 0)),
(368,cQ #[qS "is_up_right" 660,qS "is_up_right" 661,qC 662,vI 206 0,vI 4 0,vI 0 0,vI 0 0,vI 3 0,vR 363,vB true,vI 181 0,vR 364,vN,vR 365,vR 366,vR 367,vI 669 0,vI 206 0,qC 670]),
(369,fQ (.mk (sT "is_up_right") (sT "is_up_right") (L2.defArgs (top 51)) (FuncBody.stmts (L2.defBody (top 51))) (L2.defScope (top 51)) 3 [] vN vN vN (qS "labelways.checker" 623) .none (vR 368) vN 0)),
(373,cQ #[qS "tie_fault" 672,qS "tie_fault" 673,qC 674,vI 210 0,vI 2 0,vI 0 0,vI 0 0,vI 3 0,vR 370,vB true,vI 181 0,vR 371,vN,vN,vN,vR 372,vI 675 0,vI 210 0,qC 676]),
(374,fQ (.mk (sT "tie_fault") (sT "tie_fault") (L2.defArgs (top 52)) (FuncBody.stmts (L2.defBody (top 52))) (L2.defScope (top 52)) 3 [] vN vN vN (qS "labelways.checker" 623) .none (vR 373) vN 0)),
(380,cQ #[qS "grows_too_much" 678,qS "grows_too_much" 679,qC 680,vI 218 0,vI 3 0,vI 0 0,vI 0 0,vI 3 0,vR 375,vB true,vI 181 0,vR 376,vN,vR 377,vR 378,vR 379,vI 684 0,vI 218 0,qC 685]),
(381,fQ (.mk (sT "grows_too_much") (sT "grows_too_much") (L2.defArgs (top 53)) (FuncBody.stmts (L2.defBody (top 53))) (L2.defScope (top 53)) 3 [] vN vN vN (qS "labelways.checker" 623) .none (vR 380) vN 0)),
(387,cQ #[qS "down_fault" 687,qS "down_fault" 688,qC 689,vI 222 0,vI 2 0,vI 0 0,vI 0 0,vI 3 0,vR 382,vB true,vI 181 0,vR 383,vN,vR 384,vR 385,vR 386,vI 694 0,vI 222 0,qC 695]),
(388,fQ (.mk (sT "down_fault") (sT "down_fault") (L2.defArgs (top 54)) (FuncBody.stmts (L2.defBody (top 54))) (L2.defScope (top 54)) 3 [] vN vN vN (qS "labelways.checker" 623) .none (vR 387) vN 0)),
(394,cQ #[qS "is_down_right" 697,qS "is_down_right" 698,qC 699,vI 227 0,vI 4 0,vI 0 0,vI 0 0,vI 3 0,vR 389,vB true,vI 181 0,vR 390,vN,vR 391,vR 392,vR 393,vI 705 0,vI 227 0,qC 706]),
(395,fQ (.mk (sT "is_down_right") (sT "is_down_right") (L2.defArgs (top 55)) (FuncBody.stmts (L2.defBody (top 55))) (L2.defScope (top 55)) 3 [] vN vN vN (qS "labelways.checker" 623) .none (vR 394) vN 0)),
(401,cQ #[qS "_law_tape" 710,qS "_law_tape" 711,qC 712,vI 231 0,vI 1 0,vI 0 0,vI 0 0,vI 3 0,vR 396,vB true,vI 181 0,vR 397,vN,vR 398,vR 399,vR 400,vI 714 0,vI 231 0,qC 715]),
(402,fT "_law_tape" 57 qL 401),
(408,cQ #[qS "_law_draw" 717,qS "_law_draw" 718,qC 719,vI 233 0,vI 2 0,vI 0 0,vI 0 0,vI 3 0,vR 403,vB true,vI 181 0,vR 404,vN,vR 405,vR 406,vR 407,vI 726 0,vI 233 0,qC 727]),
(409,fT "_law_draw" 58 qL 408),
(413,cQ #[qS "_law_web" 729,qS "_law_web" 730,qC 731,vI 246 0,vI 2 0,vI 0 0,vI 0 0,vI 3 0,vR 410,vB true,vI 181 0,vR 411,vN,vN,vN,vR 412,vI 732 0,vI 246 0,qC 733]),
(414,fT "_law_web" 59 qL 413),
(420,cQ #[qS "_law_added" 735,qS "_law_added" 736,qC 737,vI 258 0,vI 2 0,vI 0 0,vI 0 0,vI 3 0,vR 415,vB true,vI 181 0,vR 416,vN,vR 417,vR 418,vR 419,vI 740 0,vI 258 0,qC 741]),
(421,fT "_law_added" 60 qL 420),
(427,cQ #[qS "_law_lesser" 743,qS "_law_lesser" 744,qC 745,vI 260 0,vI 2 0,vI 0 0,vI 0 0,vI 3 0,vR 422,vB true,vI 181 0,vR 423,vN,vR 424,vR 425,vR 426,vI 748 0,vI 260 0,qC 749]),
(428,fT "_law_lesser" 61 qL 427),
(432,cQ #[qS "_law_far" 751,qS "_law_far" 752,qC 753,vI 264 0,vI 1 0,vI 0 0,vI 0 0,vI 3 0,vR 429,vB true,vI 181 0,vR 430,vN,vN,vN,vR 431,vI 754 0,vI 264 0,qC 755]),
(433,fT "_law_far" 62 qL 432),
(439,cQ #[qS "_law_joined" 757,qS "_law_joined" 758,qC 759,vI 276 0,vI 1 0,vI 0 0,vI 0 0,vI 3 0,vR 434,vB true,vI 181 0,vR 435,vN,vR 436,vR 437,vR 438,vI 765 0,vI 276 0,qC 766]),
(440,fT "_law_joined" 63 qL 439),
(444,cQ #[qS "_law_nexts" 768,qS "_law_nexts" 769,qC 770,vI 282 0,vI 4 0,vI 0 0,vI 0 0,vI 3 0,vR 441,vB true,vI 181 0,vR 442,vN,vN,vN,vR 443,vI 771 0,vI 282 0,qC 772]),
(445,fT "_law_nexts" 64 qL 444),
(451,cQ #[qS "_law_order" 774,qS "_law_order" 775,qC 776,vI 289 0,vI 2 0,vI 0 0,vI 0 0,vI 3 0,vR 446,vB true,vI 181 0,vR 447,vN,vR 448,vR 449,vR 450,vI 782 0,vI 289 0,qC 783]),
(452,fT "_law_order" 65 qL 451),
(456,cQ #[qS "_law_web_of" 785,qS "_law_web_of" 786,qC 787,vI 295 0,vI 2 0,vI 0 0,vI 0 0,vI 3 0,vR 453,vB true,vI 181 0,vR 454,vN,vN,vN,vR 455,vI 788 0,vI 295 0,qC 789]),
(457,fT "_law_web_of" 66 qL 456),
(463,cQ #[qS "_law_is_right" 791,qS "_law_is_right" 792,qC 793,vI 297 0,vI 3 0,vI 0 0,vI 0 0,vI 3 0,vR 458,vB true,vI 181 0,vR 459,vN,vR 460,vR 461,vR 462,vI 803 0,vI 297 0,qC 804]),
(464,fT "_law_is_right" 67 qL 463),
(468,cQ #[qS "_law_turned" 806,qS "_law_turned" 807,qC 808,vI 313 0,vI 2 0,vI 0 0,vI 0 0,vI 3 0,vR 465,vB true,vI 181 0,vR 466,vN,vN,vN,vR 467,vI 809 0,vI 313 0,qC 810]),
(469,fT "_law_turned" 68 qL 468),
(475,cQ #[qS "_law_put" 812,qS "_law_put" 813,qC 814,vI 315 0,vI 4 0,vI 0 0,vI 0 0,vI 3 0,vR 470,vB true,vI 181 0,vR 471,vN,vR 472,vR 473,vR 474,vI 819 0,vI 315 0,qC 820]),
(476,fT "_law_put" 69 qL 475),
(482,cQ #[qS "_law_deed_right" 822,qS "_law_deed_right" 823,qC 824,vI 321 0,vI 5 0,vI 0 0,vI 0 0,vI 3 0,vR 477,vB true,vI 181 0,vR 478,vN,vR 479,vR 480,vR 481,vI 837 0,vI 321 0,qC 838]),
(483,fT "_law_deed_right" 70 qL 482),
(489,cQ #[qS "law" 840,qS "law" 841,qC 842,vI 338 0,vI 1 0,vI 0 0,vI 0 0,vI 3 0,vR 484,vB true,vI 181 0,vR 485,vN,vR 486,vR 487,vR 488,vI 854 0,vI 338 0,qC 855]),
(490,fT "law" 71 qL 489)]
noncomputable def Ka:List Addr:=[2,3,23,24,25,40,41,43,44,55,56,67,68,76,77,83,84,90,91,95,96,102,103,107,108,114,115,119,120,124,125,131,132,138,139,143,144,150,151,155,156,162,163,169,170,176,177,183,184,188,189,195,196,202,203,207,208,212,213,217,218,222,223,227,228,232,233,239,240,253,254,260,261,267,268,272,273,279,280,286,287,293,294,300,301,303,304,305,306,314,315,321,322,328,329,333,334,340,341,347,348,354,355,361,362,368,369,373,374,380,381,387,388,394,395,401,402,408,409,413,414,420,421,427,428,432,433,439,440,444,445,451,452,456,457,463,464,468,469,475,476,482,483,489,490]
noncomputable abbrev pw:Program:=PySem.Challenge.pw_labelways_k92_whole_a_keeper_stays_right
noncomputable def Vp:Program:={ pw with main:={ pw.main with body:=[top 1,top 2,top 3,top 4,top 6,top 7,top 8,top 9,top 10,top 12,top 13,top 14,top 15,top 16,top 17,top 18,top 19,top 20,top 21,top 23,top 24,top 25,top 26,top 27,top 29,top 30,top 31,top 32,top 33,top 35,top 36,top 37,top 38,top 39,top 41,top 42,top 43,top 44,top 45,top 47,top 48,top 49,top 50,top 51,top 52,top 53,top 54,top 55,top 57,top 58,top 59,top 60,top 61,top 62,top 63,top 64,top 65,top 66,top 67,top 68,top 69,top 70,top 71] } }
noncomputable abbrev RR:PySem.W.RowW:=PySem.W.OpenRow.toRowW (PySem.Challenge.rw_labelways_k92_whole_a_keeper_stays_right).row
theorem Ke:∀P,Ka=(Kf P).map (·.1):=fun P=>by kernel_rfl
noncomputable abbrev HK:PySem.W.Hook:=PySem.W.kHook Kf Ka Ke
theorem left:PySem.W.LeftO pw Vp [] (fun s=>PySem.W.xlAt Vp [] s && PySem.W.recOk (PySem.W.RowW.records RR) s) (PySem.W.Hook.obs HK) (PySem.W.Hook.val HK) 6286:=L2.left_of (by kernel_rfl) (by decide) (fun _=>rfl) fun w os=>by kernel_rfl
end K92
noncomputable abbrev vSP:=PySem.Value->PySem.Shared->Prop
noncomputable abbrev lPO:=List (PySem.Addr×PySem.Obj)
noncomputable abbrev lLO:=List (List (Option Int))
noncomputable abbrev sOV:=PySem.Str->Option PySem.Value
namespace L2
open PySem PySem.Spec PyProof.Rows
noncomputable abbrev Key:=Sum Int Str
noncomputable def zHG:Key->Value->Bool
 | .inl k,v=>Value.isInt k v
 | .inr x,v=>Value.isStrOf x v
noncomputable def keyH (w:World):Key->Int
 | .inl k=>hashInt k
 | .inr x=>hashStr w x
theorem zBM:∀{k:Key}{v:Value},zHG k v=true->(∃i t,k=Sum.inl i/\v=Value.int i t)\/(∃x t,k=Sum.inr x/\v=Value.str x t)
 | .inl i,v,h=>by
  obtain⟨t,e⟩:=Value.isInt_shape (k:=i) (v:=v) h
  exact .inl ⟨i,t,rfl,e⟩
 | .inr x,v,h=>by
  obtain⟨t,e⟩:=Value.isStrOf_shape (x:=x) (v:=v) h
  exact .inr ⟨x,t,rfl,e⟩
theorem zIi (i:Int)(t:Tok):zHG (.inl i) (.int i t)=true:=by simp[zHG,Value.isInt]
theorem zIh (x:Str)(t:Tok):zHG (.inr x) (.str x t)=true:=by simp[zHG,Value.isStrOf]
theorem key_ll (a b:Int):decide ((Sum.inl a:Key)=Sum.inl b)=(a==b):=by
 by_cases e:a=b
 . subst e;simp
 . have h:¬ (Sum.inl a:Key)=Sum.inl b:=fun q=>e (Sum.inl.inj q)
   rw[zY h]
   exact (beq_eq_false_iff_ne.mpr e).symm
theorem key_rr (a b:Str):decide ((Sum.inr a:Key)=Sum.inr b)=decide (a=b):=by
 by_cases e:a=b
 . subst e;simp
 . have h:¬ (Sum.inr a:Key)=Sum.inr b:=fun q=>e (Sum.inr.inj q)
   rw[zY h,zY e]
theorem key_lr (a:Int)(b:Str):decide ((Sum.inl a:Key)=Sum.inr b)=false:=zY (fun q=>nomatch q)
theorem key_rl (a:Str)(b:Int):decide ((Sum.inr a:Key)=Sum.inl b)=false:=zY (fun q=>nomatch q)
noncomputable def zAW (prog:Program)(w:World):PySem.KeyKind prog w Key where
 is:=zHG
 hash:=keyH w
 inj:=fun v a b ha hb=>by
  rcases zBM ha with ⟨i,t,rfl,rfl⟩ | ⟨x,t,rfl,rfl⟩
  . rcases zBM hb with ⟨j,u,rfl,e⟩ | ⟨y,u,rfl,e⟩
    . injection e with e1 _;rw[e1]
    . exact nomatch e
  . rcases zBM hb with ⟨j,u,rfl,e⟩ | ⟨y,u,rfl,e⟩
    . exact nomatch e
    . injection e with e1 _;rw[e1]
 byValue:=fun k v h=>by
  rcases zBM h with ⟨i,t,rfl,rfl⟩ | ⟨x,t,rfl,rfl⟩ <;> rfl
 pyHash:=fun hv h=>by
  rcases zBM hv with ⟨i,t,rfl,rfl⟩ | ⟨x,t,rfl,rfl⟩
  . exact wpAny_pyHash_int h
  . exact wpAny_pyHash_str h
 eqBool:=fun hu hv h=>by
  rcases zBM hu with ⟨i,t,rfl,rfl⟩ | ⟨x,t,rfl,rfl⟩
  . rcases zBM hv with ⟨j,u,rfl,rfl⟩ | ⟨y,u,rfl,rfl⟩
    . rw[key_ll] at h;exact wpAny_eqBool_int h
    . rw[key_lr] at h;exact SeqAt.EqAt.int_str i t y u _ _ _ _ h
  . rcases zBM hv with ⟨j,u,rfl,rfl⟩ | ⟨y,u,rfl,rfl⟩
    . rw[key_rl] at h;exact SeqAt.EqAt.str_int x t j u _ _ _ _ h
    . rw[key_rr] at h;exact wpAny_eqBool_str h
 «strs» := fun k x t v h=>by
  rcases zBM h with ⟨i,u,rfl,e⟩ | ⟨y,u,rfl,e⟩
  . exact nomatch e
  . injection e with e1 _
    subst e1
    cases v <;> rfl
theorem zF1 (prog:Program)(w:World)(i:Int)(t:Tok):(zAW prog w).is (.inl i) (.int i t)=true:=zIi i t
theorem zF0 (prog:Program)(w:World)(x:Str)(t:Tok):(zAW prog w).is (.inr x) (.str x t)=true:=zIh x t
inductive V where
 | non | bl (b:Bool) | int (i:Int) | str (x:Str) | byt (b:Array UInt8) | flt (b:UInt64) | ref (a:Addr) | ty (n:String)
 deriving DecidableEq
noncomputable def zBH:V->Value->Prop
 | .non,u=>u=Value.none
 | .bl b,u=>u=Value.bool b
 | .int i,u=>∃t,u=Value.int i t
 | .str x,u=>∃t,u=Value.str x t
 | .byt b,u=>∃t,u=Value.bytes b t
 | .flt b,u=>∃t,u=Value.float b t
 | .ref a,u=>u=Value.ref a
 | .ty n,u=>u=Value.type n
noncomputable abbrev zA8:List V->List Value->Prop:=Paired zBH
variable {us:List Value}
theorem zA8.length {xs:List V}(r:zA8 xs us):xs.length=us.length:=Paired.length r
theorem zA8.get:∀{xs:List V}{us:List Value}{i:Nat}{x:V},zA8 xs us->xs[i]? = some x->∃u,us[i]? = some u/\zBH x u
 | _,_,_,_,.nil,e=>by simp at e
 | _,_,0,_,.cons r _,e=>by simp at e;subst e;exact⟨_,rfl,r⟩
 | _,_,i+1,x,.cons _ t,e=>by
  obtain⟨u,h1,h2⟩:=zA8.get (i:=i) (x:=x) t (by simpa using e)
  exact⟨u,by simpa using h1,h2⟩
theorem zA8.set {x:V}{u:Value}(r:zBH x u):∀{xs:List V}{us:List Value}(i:Nat),zA8 xs us->zA8 (xs.set i x) (us.set i u)
 | _,_,_,.nil=>.nil
 | _,_,0,.cons _ t=>.cons r t
 | _,_,i+1,.cons q t=>.cons q (zA8.set r i t)
theorem zA8.append:∀{xs ys:List V}{us ws:List Value},zA8 xs us->zA8 ys ws->zA8 (xs++ys) (us++ws)
 | _,_,_,_,.nil,s=>s
 | _,_,_,_,.cons r t,s=>.cons r (zA8.append t s)
theorem zA8.take:∀{xs:List V}{us:List Value}(n:Nat),zA8 xs us->zA8 (xs.take n) (us.take n)
 | _,_,0,_=>.nil
 | _,_,_+1,.nil=>.nil
 | _,_,n+1,.cons r t=>.cons r (zA8.take n t)
theorem zA8.drop:∀{xs:List V}{us:List Value}(n:Nat),zA8 xs us->zA8 (xs.drop n) (us.drop n)
 | _,_,0,r=>r
 | _,_,_+1,.nil=>.nil
 | _,_,n+1,.cons _ t=>zA8.drop n t
noncomputable def zEg:Option V->Option Value->Prop
 | some v,some u=>zBH v u
 | none,none=>True
 | _,_=>False
noncomputable def KV {κ:Type}:List (κ×V)->List (κ×Value)->Prop:=Paired fun (p:κ×V)(q:κ×Value)=>p.1=q.1/\zBH p.2 q.2
noncomputable def kV:Key->V
 | .inl i=>.int i
 | .inr x=>.str x
inductive HO where
 /-- a list -/
 | lst (xs:List V)
 /-- a tuple (never changes) -/
 | tup (xs:List V)
 /-- a dict whose keys are ints and texts;one whose keys are tuples of ints and texts (the empty one is both) -/
 | dK (kvs:List (Key×V)) | dT (kvs:List (List Key×V))
 /-- a set of ints: its members,its size -/
 | set (S:Int->Bool)(n:Nat)
 /-- an instance of the class at C,its dict at dx,its attributes -/
 | ins (C dx:Addr)(fs:List (Str×V))
 /-- the dict of the instance at x -/
 | own (x:Addr)
 /-- the dict of an exception -/
 | xd (fs:List (Str×V))
 /-- a bound method,f of x -/
 | met (f x:Addr)
 /-- a range object lo,lo+1,.. below hi -/
 | rng (lo hi:Int)
 /-- a thing that is known to the object (the script;a dict while a loop walks it): read,never written while it is so -/
 | frz (o:Obj)(u:HO)
 /-- a code object's table -/
 | tbl (ps:Array Value)
 /-- any other thing,by what is true of its one object (a def of one's own: SetO a S n:=HO.ext fun h=>..) -/
 | ext (φ:Heap->Prop)
noncomputable abbrev Hp:=Addr->Option HO
noncomputable def upd (H:Hp)(a:Addr)(o:HO):Hp:=fun b=>if b=a then some o else H b
variable {H:Hp}{a:Addr}
theorem zI {o:HO}:upd H a o a=some o:=by unfold upd;rw[if_pos rfl]
variable {b:Addr}
theorem zd {o:HO}(h:b≠a):upd H a o b=H b:=by unfold upd;rw[if_neg h]
theorem zBZ {o u:HO}:upd (upd H a o) a u=upd H a u:=by
 funext b;unfold upd;split <;> rfl
theorem zAp {o u:HO}(h:H a=some o)(h':H b=some u)(d:o≠u):a≠b:=by
 intro e;subst e;rw[h] at h';exact d (zR h')
theorem zl {o:HO}(h:H a=some o)(h':H b=none):a≠b:=by
 intro e;subst e;rw[h] at h';cases h'
section
variable (P:Program)(w:World)
noncomputable def zBe (H:Hp)(h:Heap)(a:Addr):HO->Prop
 | .lst xs=>xs.length<=sizeLine/\∃(its:List Value)(n:Nat),zA8 xs its/\h.get? a=some { cls:=.type "list",data:=.seq its.toArray n }
 | .tup xs=>(xs.length<=sizeLine/\∃o,h.get? a=some o/\o.dict=none)/\∃its:List Value,zA8 xs its/\IsTup h a its.toArray
 | .dK kvs=>kvs.length<=sizeLine/\(a==sysModules)=false/\∃vs,KV kvs vs/\h.DictOf (zAW P w) a vs
 | .dT kvs=>kvs.length<=sizeLine/\(a==sysModules)=false/\∃xs:List (List Key×Addr×Value),
  Paired (fun (p:List Key×V)(q:List Key×Addr×Value)=>p.1=q.1/\H q.2.1=some (.tup (p.1.map kV))/\zBH p.2 q.2.2) kvs xs /\
  ∃o es ep,h.get? a=some o/\o.ExactDict/\o.data = .dict es ep/\es.toList=xs.map (entryOfKey (tupleKind (zAW P w)))/\(xs.map (·.1)).Nodup
 | .set S n=>h.SetOf (intKind P w) a S n
 | .ins C dx fs=>H dx=some (.own a)/\fs.length<=1000/\dx≠a/\h.get? a=some (PySem.W.instObj C dx) /\
  ∃mA,h.Ns1 dx mA/\(∀f,zEg (fs.lookup f) (mA f))/\PySem.Within mA (fs.map (·.1))
 | .own _=>∃o,h.get? a=some o
 | .xd fs=>∃mA,h.Ns1 a mA/\∀f,zEg (fs.lookup f) (mA f)
 | .rng lo hi=>∃t u v,h.get? a=some { cls:=.type "range",data:=.fields #[.int lo t,.int hi u,.int 1 v] }
 | .frz o u=>h.get? a=some o/\zBe H h a u
 | .tbl ps=>h.get? a=some { cls:=.none,data:=.fields ps }
 | .met f x=>h.get? a=some (PySem.W.methodObj (.ref f) (.ref x))
 | .ext φ=>φ h/\(∃o,h.get? a=some o)/\∀h1 h2:Heap,φ h1->(∀o,h1.get? a=some o->h2.get? a=some o)->φ h2
noncomputable def HOk (H:Hp)(h:Heap):Prop:=∀a o,H a=some o->zBe P w H h a o
end
section
variable {P:Program}{w:World}{H H':Hp}{h h':Heap}{a:Addr}{o:HO}
theorem zBe.lt (x:zBe P w H h a o):a<h.objs.size:=by
 cases o with
 | lst xs=>obtain⟨_,_,_,_,e⟩:=x;exact zU e
 | tup xs=>obtain⟨_,_,_,p⟩:=x;exact p.lt
 | dK kvs=>obtain⟨_,_,_,_,o,_,_,e,_⟩:=x;exact zU e
 | dT kvs=>obtain⟨_,_,_,_,o,_,_,e,_⟩:=x;exact zU e
 | set S n=>obtain⟨o,_,_,_,e,_⟩:=x;exact zU e
 | ins C dx fs=>obtain⟨_,_,_,e,_⟩:=x;exact zU e
 | own y=>obtain⟨_,e⟩:=x;exact zU e
 | xd fs=>obtain⟨_,⟨_,_,_,e,_⟩,_⟩:=x;exact zU e
 | rng lo hi=>obtain⟨_,_,_,e⟩:=x;exact zU e
 | frz ob u=>obtain⟨e,_⟩:=x;exact zU e
 | tbl ps=>exact zU (show h.get? a=some _ from x)
 | met f y=>exact zU (show h.get? a=some _ from x)
 | ext φ=>obtain⟨_,⟨_,e⟩,_⟩:=x;exact zU e
theorem Paired.mapP {α β:Type}{F G:α->β->Prop}:∀{l₁:List α}{l₂:List β},Paired F l₁ l₂->(∀a b,F a b->G a b)->Paired G l₁ l₂
 | _,_,.nil,_=>.nil
 | _,_,.cons r t,f=>.cons (f _ _ r) (Paired.mapP t f)
theorem zBe.stay (x:zBe P w H h a o)(k:∀b u,(b=a\/H b=some (.own a))->h.get? b=some u->h'.get? b=some u)
 (ho:∀b,H b=some (.own a)->H' b=some (.own a))(ht:∀b xs,H b=some (.tup xs)->H' b=some (.tup xs)):zBe P w H' h' a o:=by
 induction o with
 | lst xs=>obtain⟨z,its,n,r,e⟩:=x;exact⟨z,its,n,r,k _ _ (.inl rfl) e⟩
 | tup xs=>obtain⟨⟨z,o2,e2,d2⟩,its,r,ob,e,c⟩:=x;exact⟨⟨z,o2,k _ _ (.inl rfl) e2,d2⟩,its,r,ob,k _ _ (.inl rfl) e,c⟩
 | dK kvs=>obtain⟨z,y,vs,r,ob,es,ep,e,c⟩:=x;exact⟨z,y,vs,r,ob,es,ep,k _ _ (.inl rfl) e,c⟩
 | dT kvs=>
  obtain⟨z,y,xs,r,ob,es,ep,e,c⟩:=x
  exact⟨z,y,xs,Paired.mapP r fun p q z=>⟨z.1,ht _ _ z.2.1,z.2.2⟩,ob,es,ep,k _ _ (.inl rfl) e,c⟩
 | set S n=>obtain⟨ob,es,ep,t,e,c⟩:=x;exact⟨ob,es,ep,t,k _ _ (.inl rfl) e,c⟩
 | ins C dx fs=>
  obtain⟨d,z,ne,e,mA,⟨od,es,ep,e2,c⟩,r⟩:=x
  exact⟨ho _ d,z,ne,k _ _ (.inl rfl) e,mA,⟨od,es,ep,k _ _ (.inr d) e2,c⟩,r⟩
 | own y=>obtain⟨ob,e⟩:=x;exact⟨ob,k _ _ (.inl rfl) e⟩
 | xd fs=>obtain⟨mA,⟨od,es,ep,e,c⟩,r⟩:=x;exact⟨mA,⟨od,es,ep,k _ _ (.inl rfl) e,c⟩,r⟩
 | rng lo hi=>obtain⟨t,u,v,e⟩:=x;exact⟨t,u,v,k _ _ (.inl rfl) e⟩
 | frz ob u ih=>obtain⟨e,q⟩:=x;exact⟨k _ _ (.inl rfl) e,ih q⟩
 | tbl ps=>
  have e:h.get? a=some { cls:=.none,data:=.fields ps }:=x
  show h'.get? a=some { cls:=.none,data:=.fields ps }
  exact k a _ (.inl rfl) e
 | met f y=>
  have e:h.get? a=some (PySem.W.methodObj (.ref f) (.ref y)):=x
  show h'.get? a=some (PySem.W.methodObj (.ref f) (.ref y))
  exact k a _ (.inl rfl) e
 | ext φ=>obtain⟨p,⟨o,e⟩,st⟩:=x;exact⟨st _ _ p fun o q=>k _ _ (.inl rfl) q,⟨o,k _ _ (.inl rfl) e⟩,st⟩
theorem HOk.lt (x:HOk P w H h)(e:H a=some o):a<h.objs.size:=(x a o e).lt
theorem HOk.fresh (x:HOk P w H h)(e:h.objs.size<=a):H a=none:=by
 cases q:H a with
 | none=>rfl
 | some u=>exact absurd (zk (x.lt q) e) (zBX _)
theorem HOk.kept (x:HOk P w H h)(k:∀b u,h.get? b=some u->h'.get? b=some u):HOk P w H h':=fun a o e=>
 (x a o e).stay (fun b u _ q=>k b u q) (fun _ q=>q) fun _ _ q=>q
theorem HOk.laid (x:HOk P w H h)(k:∀b u,h.get? b=some u->h'.get? b=some u)(hp:h.objs.size<=a)(new:zBe P w (upd H a o) h' a o):HOk P w (upd H a o) h':=fun b u e=>by
 have hn:=x.fresh hp
 by_cases hb:b=a
 . subst hb;rw[zI] at e;cases e;exact new
 . rw[zd hb] at e
   exact (x b u e).stay (fun c v _ q=>k c v q) (fun c q=>by rw[zd (zl q hn)];exact q) fun c xs q=>by rw[zd (zl q hn)];exact q
end
noncomputable def Rd (H:Hp)(a:Addr)(u:HO):Prop:=H a=some u\/∃o,H a=some (.frz o u)
variable {w:World}{h:Heap}
theorem Rd.ok {P:Program}{u:HO}(r:Rd H a u)(x:HOk P w H h):zBe P w H h a u:=by
 rcases r with r | ⟨o,r⟩
 . exact x a u r
 . obtain⟨_,q⟩:=x a _ r
   exact q
noncomputable def Mut:Option HO->Prop
 | some (.lst _)=>True
 | some (.dK _)=>True
 | some (.dT _)=>True
 | some (.set _ _)=>True
 | some (.ins _ _ _)=>True
 | some (.ext _)=>True
 | _=>False
section
variable {P:Program}{w:World}{H:Hp}{h h':Heap}{x e:Addr}{o':HO}
theorem HOk.write (ok:HOk P w H h)(mu:Mut (H x))(he:e=x\/H e=some (.own x))(k:∀b u,b≠e->h.get? b=some u->h'.get? b=some u)(heo:∃u,h'.get? e=some u)
 (new:zBe P w (upd H x o') h' x o'):HOk P w (upd H x o') h':=fun b u q=>by
 have nown:∀c y,H c=some (.own y)->c≠x:=fun c y r z=>by subst z;rw[r] at mu;exact mu
 have ntup:∀c xs,H c=some (.tup xs)->c≠x:=fun c xs r z=>by subst z;rw[r] at mu;exact mu
 by_cases hb:b=x
 . subst hb;rw[zI] at q;cases q;exact new
 . rw[zd hb] at q
   by_cases hbe:b=e
   . have q':H b=some (.own x):=by
      rcases he with z | z
      . exact absurd (hbe.trans z) hb
      . rw[hbe];exact z
     rw[q] at q';cases q'
     obtain⟨v,hv⟩:=heo
     exact⟨v,by rw[hbe];exact hv⟩
   . refine (ok b u q).stay (fun c v hc r=>k c v ?_ r) (fun c r=>by rw[zd (nown c b r)];exact r) fun c xs r=>by rw[zd (ntup c xs r)];exact r
     rcases hc with rfl | hc
     . exact hbe
     . rintro rfl
       rcases he with z | z
       . exact nown c b hc z
       . rw[hc] at z;cases z;exact hb rfl
end
structure Un (fs ex:List Addr)(H H':Hp)(h h':Heap):Prop where
 keep:∀b o,h.get? b=some o->H b=none->b∉fs->b∉ex->h'.get? b=some o
 slot:∀b o,h.get? b=some o->H b=none->b∈fs->b∉ex->∃sl,h'.get? b=some { o with slots:=sl }
 free:∀b o,h.get? b=some o->H b=none->b∉ex->H' b=none
 there:∀b o,h.get? b=some o->b∉ex->∃o',h'.get? b=some o'
 tups:∀b xs,H b=some (.tup xs)->H' b=some (.tup xs)
 frzs:∀b o u,H b=some (.frz o u)->H' b=some (.frz o u)
 tbls:∀b ps,H b=some (.tbl ps)->∃more,H' b=some (.tbl (ps++more))
section
variable {fs fs' ex ex':List Addr}{H H1 H2:Hp}{h h1 h2 h':Heap}{a x e:Addr}{o:HO}
theorem Un.any (u:Un fs ex H H1 h h1){ob:Obj}(q:h.get? b=some ob)(n:H b=none)(hx:b∉ex):∃sl,h1.get? b=some { ob with slots:=sl }:=by
 by_cases hb:b∈fs
 . exact u.slot b ob q n hb hx
 . exact⟨ob.slots,u.keep b ob q n hb hx⟩
theorem Un.kept (k:∀b u,h.get? b=some u->h'.get? b=some u):Un fs ex H H h h':=
 ⟨fun b ob q _ _ _=>k b ob q,fun b ob q _ _ _=>⟨ob.slots,k b ob q⟩,fun _ _ _ n _=>n,fun b ob q _=>⟨ob,k b ob q⟩,fun _ _ q=>q,fun _ _ _ q=>q,fun _ ps q=>⟨#[],by rw[q];simp⟩⟩
theorem Un.refl:Un fs ex H H h h:=Un.kept fun _ _ q=>q
theorem Un.laid (k:∀b u,h.get? b=some u->h'.get? b=some u)(hp:h.objs.size<=a)(hn:H a=none):Un fs ex H (upd H a o) h h' where
 keep:=fun b u q _ _ _=>k b u q
 slot:=fun b u q _ _ _=>⟨u.slots,k b u q⟩
 free:=fun b u q n _=>by rw[zd (ze (zk (zU q) hp))];exact n
 there:=fun b u q _=>⟨u,k b u q⟩
 tups:=fun b xs q=>by rw[zd (zl q hn)];exact q
 frzs:=fun b u xs q=>by rw[zd (zl q hn)];exact q
 tbls:=fun b ps q=>⟨#[],by rw[zd (zl q hn),q];simp⟩
theorem Un.write (mu:Mut (H x))(he:e=x\/H e=some (.own x))(k:∀b u,b≠e->h.get? b=some u->h'.get? b=some u)(heo:∃u,h'.get? e=some u):Un fs ex H (upd H x o) h h':=by
 have hx:∀b,H b=none->b≠x:=fun b n z=>by subst z;rw[n] at mu;exact mu
 have hb:∀b,H b=none->b≠e:=fun b n z=>by
  subst z
  rcases he with r | r
  . exact hx b n r
  . rw[n] at r;cases r
 have hm:∀b u,H b=some u->¬ Mut (some u)->b≠x:=fun b u q nm z=>by subst z;rw[q] at mu;exact nm mu
 refine⟨fun b u q n _ _=>k b u (hb b n) q,fun b u q n _ _=>⟨u.slots,k b u (hb b n) q⟩,fun b u q n _=>by rw[zd (hx b n)];exact n,fun b u q _=>?_,
  fun b xs q=>by rw[zd (hm b _ q fun z=>z)];exact q,fun b u xs q=>by rw[zd (hm b _ q fun z=>z)];exact q,fun b ps q=>⟨#[],by rw[zd (hm b _ q fun z=>z),q];simp⟩⟩
 by_cases hbe:b=e
 . subst hbe;exact heo
 . exact⟨u,k b u hbe q⟩
end
noncomputable def trk (h:Heap)(H:Hp):List Addr:=(List.range h.objs.size).filter fun a=>(H a).isSome
noncomputable def zJK (h:Heap)(H:Hp):Heap:=PySem.W.hideAll h (trk h H)
theorem zIn (h:Heap)(H:Hp):(zJK h H).objs.size=h.objs.size:=PySem.W.hideAll_size _ _
variable {o:Obj}
theorem zJ6 (e:h.get? b=some o)(n:H b=none):(zJK h H).get? b=some o:=
 PySem.W.hideAll_get _ e fun hm=>by
  have q:(H b).isSome=true:=(zAB.mp hm).2
  rw[n] at q;simp at q
theorem zLw (e:(zJK h H).get? b=some o):h.get? b=some o/\H b=none:=by
 have e':h.get? b=some o:=PySem.W.of_hideAll (trk h H) e
 refine⟨e',?_⟩
 cases q:H b with
 | none=>rfl
 | some x=>
  have hm:b∈trk h H:=zAB.mpr ⟨zBg.mpr (zU e'),by simp[q]⟩
  have z:(zJK h H).get? b=none:=PySem.W.hideAll_none (trk h H) hm
  rw[z] at e;cases e
noncomputable def zD7 (g h:Heap)(L:Addr):List (Addr×Obj):=(List.range h.objs.size).filterMap fun a=>if a=L\/(g.get? a).isSome=true then none else (h.get? a).map fun o=>(a,o)
variable {L:Addr}
theorem zF2 {g:Heap}(h1:a≠L)(h2:g.get? a=none)(h3:h.get? a=some o):(a,o)∈zD7 g h L:=
 zAw.mpr ⟨a,zBg.mpr (zU h3),by simp[h1,h2,h3]⟩
theorem zEF {g:Heap}{p:Addr×Obj}(hp:p∈zD7 g h L):p.1≠L/\g.get? p.1=none/\h.get? p.1=some p.2:=by
 obtain⟨b,_,e⟩:=zAw.mp hp
 split at e
 . cases e
 . rename_i hn
   cases q:h.get? b with
   | none=>rw[q] at e;simp at e
   | some u=>
    rw[q] at e
    simp only[zAi,Option.some.injEq] at e
    subst e
    refine⟨fun z=>hn (.inl z),?_,q⟩
    show g.get? b=none
    cases r:g.get? b with
    | none=>rfl
    | some v=>exact (hn (.inr (by simp[r]))).elim
theorem zJw {g:Heap}:News g L h (zD7 g h L):=fun p hp=>let ⟨a,b,c⟩:=zEF hp;⟨c,a,b⟩
structure Mod (K:PySem.W.Frag)(mg:sOV)(base:Heap):Prop where
 kin:K.In base
 glob:base.Ns mainGlobals mg
 blt:∃mb,base.Ns builtinsNs mb/\∀x:Str,x ≠ "__name__" -> mb x=bootBuiltins x
 nolimit:base.NoLimit
structure Cx where
 prog:Program
 w:World
 K:PySem.W.Frag
 mg:Str->Option Value
 base:Heap
 A:Around
 N:List Str
 s₀:Shared
 H₀:Hp
 env:Env
 outer:List Env
 stack:List Env
 ex:List Addr
 fn:Str->Bool
 calm:Bool
 pn:List (Addr×Obj)
 xe:Value->Shared->Prop
noncomputable def frs (l:List Env):List Addr:=l.filterMap (·.frame)
noncomputable abbrev Cx.fs (X:Cx):List Addr:=frs X.outer
noncomputable def Vis (sc:Scope)(x:Str):Prop:=sc.names.lookup x=some .local\/sc.names.lookup x=some .cell\/sc.names.lookup x=some .free
noncomputable def Loc (sc:Scope)(x:Str):Prop:=sc.names.lookup x=some .local\/sc.names.lookup x=some .cell
noncomputable def zJG (env:Env)(h:Heap)(m:sOV)(x:Str)(u:Value):Prop:=
 (env.kindOf x=some .local/\m x=some u)\/((env.kindOf x=some .cell\/env.kindOf x=some .free)/\∃c,env.cells.lookup x=some c/\h.IsCell c (some u))
structure Cx.Ok (X:Cx):Prop where
 mod:Mod X.K X.mg X.base
 kind:X.env.scope.kind = .function
 glob:X.env.globals=mainGlobals
 blt:X.env.builtins=builtinsNs
 above:X.s₀.heap.objs.size<=X.env.locals
 inj:∀x y c,X.env.cells.lookup x=some c->X.env.cells.lookup y=some c->x=y
 has:∀x,(X.env.kindOf x=some .cell\/X.env.kindOf x=some .free)->∃c,X.env.cells.lookup x=some c
 cab:∀x c,X.fn x=true->X.env.cells.lookup x=some c->X.s₀.heap.objs.size<=c
 hd:X.calm=true->X.A.handled=none
 frames:X.A.frames=some X.stack
 stk:X.stack=X.outer\/(X.stack=X.env::X.outer/\X.env.frame=some X.env.locals)
 exf:∀b∈X.ex,b≠X.env.locals/\∀x c,X.env.cells.lookup x=some c->c≠b
 bs:∀b o,X.base.get? b=some o->X.s₀.heap.get? b=some o/\X.H₀ b=none
 bsz:X.base.objs.size<=X.s₀.heap.objs.size
 noex:∀b o,X.base.get? b=some o->b∉X.ex
 exfs:∀b∈X.ex,b∉X.fs
 funs:X.s₀.heap.FunFrames X.base X.outer
 frf:∀b∈X.fs,X.H₀ b=none
structure Inv (X:Cx)(pins:lPO)(σ:List (Option V))(H:Hp)(s:Shared):Prop where
 ok:X.Ok
 os:s.os=X.s₀.os
 bare:AllBare s.gens
 base:Un X.fs X.ex X.H₀ H X.s₀.heap s.heap
 loc:∃m,s.heap.Ns X.env.locals m/\∀(i:Nat)(x:Str)(v:V),X.N[i]? = some x->σ[i]? = some (some v)->Vis X.env.scope x->∃u,zBH v u/\zJG X.env s.heap m x u
 cell:∀x c,X.env.cells.lookup x=some c->∃v,s.heap.IsCell c v
 free:H X.env.locals=none
 freeC:∀x c,X.env.cells.lookup x=some c->H c=none
 pin:∀p∈X.pn++pins,s.heap.get? p.1=some p.2/\H p.1=none/\p.1≠X.env.locals/\p.1∉X.fs/\∀v,p.2.data ≠ .cell v
 hok:HOk X.prog X.w H s.heap
 len:σ.length=X.N.length
variable {u:Value}{t' i:Nat}{N:List Str}{x:Str}{M:Model}{A:Around}{v:V}{Q:Unit->Shared->Prop}
section
variable {X:Cx}{pins:lPO}{σ:List (Option V)}{H H':Hp}{s:Shared}{h':Heap}
theorem Cx.Ok.nofr (ok:X.Ok)(e:X.base.get? b=some o):b∉X.fs:=fun hb=>by
 have:=(ok.funs.mem hb).1
 rw[e] at this;cases this
theorem Inv.bs (I:Inv X pins σ H s):∀b o,X.base.get? b=some o->s.heap.get? b=some o/\H b=none:=fun b o e=>
 ⟨I.base.keep b o (I.ok.bs b o e).1 (I.ok.bs b o e).2 (I.ok.nofr e) (I.ok.noex b o e),I.base.free b o (I.ok.bs b o e).1 (I.ok.bs b o e).2 (I.ok.noex b o e)⟩
theorem Inv.bk (I:Inv X pins σ H s):∀b o,X.base.get? b=some o->s.heap.get? b=some o:=fun b o e=>(I.bs b o e).1
theorem Inv.mod (I:Inv X pins σ H s):Mod X.K X.mg X.base:=I.ok.mod
theorem Inv.kIn (I:Inv X pins σ H s):X.K.In s.heap:=I.ok.mod.kin.keeps I.bk
theorem Inv.fr (I:Inv X pins σ H s):∃m,Fr X.base X.env.locals s.heap m:=
 let ⟨m,hn,_⟩:=I.loc
 ⟨m,hn,I.bk,zAD I.ok.bsz I.ok.above⟩
theorem Inv.lt (I:Inv X pins σ H s):X.env.locals<s.heap.objs.size:=let ⟨_,hn,_⟩:=I.loc;hn.lt
theorem Inv.sz (I:Inv X pins σ H s):X.s₀.heap.objs.size<=s.heap.objs.size:=zAD I.ok.above (Nat.le_of_lt I.lt)
theorem Inv.nofs (I:Inv X pins σ H s)(h:s.heap.objs.size<=a):a∉X.fs:=fun hb=>by
 obtain⟨_,o,ho,_⟩:=I.ok.funs.mem hb
 exact absurd (zk (zU ho) (zAD I.sz h)) (zBX _)
theorem Inv.cne (I:Inv X pins σ H s):∀x c,X.env.cells.lookup x=some c->c≠X.env.locals:=fun x c e z=>by
 obtain⟨v,o,ho,hd⟩:=I.cell x c e
 obtain⟨m,⟨o',es,ep,ho',hd',_⟩,_⟩:=I.loc
 rw[z,ho'] at ho;cases ho;rw[hd'] at hd;cases hd
theorem Inv.funs (I:Inv X pins σ H s):s.heap.FunFrames X.base X.outer:=by
 have all:∀(l:List Env),(∀b∈frs l,b∈X.fs)->X.s₀.heap.FunFrames X.base l->s.heap.FunFrames X.base l:=by
  intro l
  induction l with
  | nil=>intro _ _;trivial
  | cons env r ih=>
   intro hs hl
   obtain⟨hk,⟨L,o,hf,hn,ho,hd⟩,hr⟩:=hl
   have hL:L∈X.fs:=hs L (by unfold frs;rw[List.filterMap_cons,hf];exact za)
   obtain⟨sl,e⟩:=I.base.slot L o ho (I.ok.frf L hL) hL fun z=>I.ok.exfs L z hL
   exact⟨hk,⟨L,_,hf,hn,e,hd⟩,ih (fun b hb=>hs b (by unfold frs;rw[List.filterMap_cons,hf];exact zi _ hb)) hr⟩
 exact all X.outer (fun _ hb=>hb) I.ok.funs
theorem Inv.stack (I:Inv X pins σ H s):s.heap.FunFrames X.base X.stack:=by
 rcases I.ok.stk with e | ⟨e,hf⟩
 . rw[e];exact I.funs
 . rw[e]
   obtain⟨m,hn,_⟩:=I.loc
   refine .cons (by rw[I.ok.kind];decide) hf hn ?_ I.funs
   exact Heap.get?_none_of_le (zAD I.ok.bsz I.ok.above)
theorem Inv.stkSub (I:Inv X pins σ H s):∀b∈frs X.stack,b∈X.env.locals::X.fs:=fun b hb=>by
 rcases I.ok.stk with e | ⟨e,hf⟩
 . rw[e] at hb;exact zi _ hb
 . rw[e] at hb
   unfold frs at hb
   rw[List.filterMap_cons,hf] at hb
   exact hb
theorem Inv.stkFree (I:Inv X pins σ H s):∀b∈frs X.stack,H b=none:=fun b hb=>by
 rcases zc.mp (I.stkSub b hb) with e | hb
 . rw[e];exact I.free
 . obtain⟨_,o,ho,_⟩:=I.ok.funs.mem hb
   exact I.base.free b o ho (I.ok.frf b hb) fun z=>I.ok.exfs b z hb
theorem Inv.step {g':Array GenState}{t':Nat}{d':Drawn}{ch:List Addr}(I:Inv X pins σ H s)
 (hch:∀b∈ch,(b∈X.ex\/X.s₀.heap.objs.size<=b)/\b≠X.env.locals/\(∀x c,X.env.cells.lookup x=some c->c≠b)/\∀p∈X.pn++pins,p.1≠b)
 (keep:∀b o,b≠X.env.locals->b∉X.fs->b∉ch->s.heap.get? b=some o->H b=none->h'.get? b=some o)
 (slot:∀b o,b≠X.env.locals->b∈X.fs->b∉ch->s.heap.get? b=some o->H b=none->∃sl,h'.get? b=some { o with slots:=sl })(free:∀b o,b∉ch->s.heap.get? b=some o->H b=none->H' b=none)
 (there:∀b o,b∉ch->s.heap.get? b=some o->∃o',h'.get? b=some o')
 (tups:∀b xs,H b=some (.tup xs)->H' b=some (.tup xs))(frzs:∀b o u,H b=some (.frz o u)->H' b=some (.frz o u))(tbls:∀b ps,H b=some (.tbl ps)->∃more,H' b=some (.tbl (ps++more)))
 (ns:∀m,s.heap.Ns X.env.locals m->h'.Ns X.env.locals m)(hok:HOk X.prog X.w H' h')(hg:AllBare g') :
 Inv X pins σ H' { s with heap:=h',gens:=g',drawn:=d',toks:=t' }:=by
 have neL:∀b o,X.s₀.heap.get? b=some o->b≠X.env.locals:=fun b o e=>ze (zk (zU e) I.ok.above)
 have neC:∀b o,X.s₀.heap.get? b=some o->b∉X.ex->b∉ch:=fun b o e hx hb=>by
  rcases (hch b hb).1 with z | z
  . exact hx z
  . exact absurd (zk (zU e) z) (zBX _)
 have cellK:∀x c,X.env.cells.lookup x=some c->∀v,s.heap.IsCell c v->h'.IsCell c v:=fun x c e v ⟨o,ho,hd⟩=>by
  have nch:c∉ch:=fun z=>(hch c z).2.2.1 x c e rfl
  by_cases hc:c∈X.fs
  . obtain⟨sl,q⟩:=slot c o (I.cne x c e) hc nch ho (I.freeC x c e)
    exact⟨_,q,hd⟩
  . exact⟨o,keep c o (I.cne x c e) hc nch ho (I.freeC x c e),hd⟩
 refine⟨I.ok,I.os,hg,⟨fun b o e n hb hx=>?_,fun b o e n hb hx=>?_,fun b o e n hx=>?_,fun b o e hx=>?_,fun b xs e=>tups b xs (I.base.tups b xs e),fun b o xs e=>frzs b o xs (I.base.frzs b o xs e),fun b ps e=>?_⟩,?_,fun x c e=>?_,?_,fun x c e=>?_,fun p hp=>?_,hok,I.len⟩
 . exact keep b o (neL b o e) hb (neC b o e hx) (I.base.keep b o e n hb hx) (I.base.free b o e n hx)
 . obtain⟨sl,e1⟩:=I.base.slot b o e n hb hx
   obtain⟨sl',e2⟩:=slot b _ (neL b o e) hb (neC b o e hx) e1 (I.base.free b o e n hx)
   exact⟨sl',e2⟩
 . obtain⟨o',e1⟩:=I.base.there b o e hx
   exact free b o' (neC b o e hx) e1 (I.base.free b o e n hx)
 . obtain⟨o',e1⟩:=I.base.there b o e hx
   exact there b o' (neC b o e hx) e1
 . obtain⟨m1,e1⟩:=I.base.tbls b ps e
   obtain⟨m2,e2⟩:=tbls b _ e1
   exact⟨m1++m2,by rw[e2,Array.append_assoc]⟩
 . obtain⟨m,hn,hl⟩:=I.loc
   refine⟨m,ns m hn,fun i x v e1 e2 e3=>?_⟩
   obtain⟨u,r,l⟩:=hl i x v e1 e2 e3
   refine⟨u,r,?_⟩
   rcases l with l | ⟨k,c,e,z⟩
   . exact .inl l
   . exact .inr ⟨k,c,e,cellK x c e _ z⟩
 . obtain⟨v,z⟩:=I.cell x c e
   exact⟨v,cellK x c e v z⟩
 . obtain⟨m,⟨o,_,_,ho,_⟩,_⟩:=I.loc
   exact free _ o (fun z=>(hch _ z).2.1 rfl) ho I.free
 . obtain⟨v,o,ho,hd⟩:=I.cell x c e
   exact free c o (fun z=>(hch c z).2.2.1 x c e rfl) ho (I.freeC x c e)
 . obtain⟨e,n,ne,nf,d⟩:=I.pin p hp
   have nch:p.1∉ch:=fun z=>(hch p.1 z).2.2.2 p hp rfl
   exact⟨keep p.1 p.2 ne nf nch e n,free p.1 p.2 nch e n,ne,nf,d⟩
theorem Inv.un (I:Inv X pins σ H s)(u:Un X.fs [] H H' s.heap h')(hok:HOk X.prog X.w H' h'):Inv X pins σ H' { s with heap:=h',toks:=t' }:=by
 obtain⟨m,⟨o,es,ep,ho,r⟩,_⟩:=id I.loc
 obtain⟨sl,hL⟩:=u.any ho I.free (by simp)
 exact I.step (g':=s.gens) (d':=s.drawn) (ch:=[]) (fun _ z=>nomatch z) (fun b o _ hb _ e n=>u.keep b o e n hb (by simp)) (fun b o _ hb _ e n=>u.slot b o e n hb (by simp)) (fun b o _ e n=>u.free b o e n (by simp)) (fun b o _ e=>u.there b o e (by simp)) u.tups u.frzs u.tbls (fun m' hm=>by
  obtain⟨o',es',ep',ho',r'⟩:=hm
  rw[ho] at ho';cases ho'
  exact⟨_,es',ep',hL,r'⟩) hok I.bare
theorem Inv.call {g':Array GenState}{d':Drawn}{ch:List Addr}(I:Inv X pins σ H s)(u:Un (frs X.stack) ch H H' s.heap h')(hok:HOk X.prog X.w H' h')(hg:AllBare g')
 (hch:∀b∈ch,(b∈X.ex\/X.s₀.heap.objs.size<=b)/\b≠X.env.locals/\(∀x c,X.env.cells.lookup x=some c->c≠b)/\∀p∈X.pn++pins,p.1≠b) :
 Inv X pins σ H' { s with heap:=h',gens:=g',drawn:=d',toks:=t' }:=by
 obtain⟨m,⟨o,es,ep,ho,r⟩,_⟩:=id I.loc
 obtain⟨sl,hL⟩:=u.any ho I.free fun z=>(hch _ z).2.1 rfl
 exact I.step (ch:=ch) hch (fun b o hL hb hc e n=>u.keep b o e n (fun z=>(zc.mp (I.stkSub b z)).elim hL hb) hc) (fun b o _ _ hc e n=>u.any e n hc) (fun b o hc e n=>u.free b o e n hc) (fun b o hc e=>u.there b o e hc) u.tups u.frzs u.tbls (fun m' hm=>by
  obtain⟨o',es',ep',ho',r'⟩:=hm
  rw[ho] at ho';cases ho'
  exact⟨_,es',ep',hL,r'⟩) hok hg
theorem Inv.turned {it:Addr}(I:Inv X pins σ H s)(k:∀b o,b≠it->s.heap.get? b=some o->h'.get? b=some o)(hn:H it=none)(hL:it≠X.env.locals)
 (h1:it∈X.ex\/X.s₀.heap.objs.size<=it)(h2:∀x c,X.env.cells.lookup x=some c->c≠it)(h3:∀p∈X.pn++pins,p.1≠it):Inv X pins σ H { s with heap:=h',toks:=t' }:=by
 have nit:∀b u,H b=some u->b≠it:=fun b u e z=>by rw[z,hn] at e;cases e
 refine I.step (g':=s.gens) (d':=s.drawn) (ch:=[it]) (fun b hb=>?_) (fun b o _ _ hc e _=>k b o (fun z=>hc (by simp[z])) e) (fun b o _ _ hc e _=>⟨o.slots,k b o (fun z=>hc (by simp[z])) e⟩) (fun _ _ _ _ n=>n)
  (fun b o hc e=>⟨o,k b o (fun z=>hc (by simp[z])) e⟩) (fun _ _ e=>e) (fun _ _ _ e=>e) (fun b ps e=>⟨#[],by rw[e];simp⟩) (fun m hm=>?_) (fun b u e=>?_) I.bare
 . have e:b=it:=by simpa using hb
   subst e
   exact⟨h1,hL,h2,h3⟩
 . obtain⟨o,es,ep,ho,r⟩:=hm
   exact⟨o,es,ep,k _ o (Ne.symm hL) ho,r⟩
 . refine (I.hok b u e).stay (fun c v hc q=>k c v ?_ q) (fun _ q=>q) fun _ _ q=>q
   rcases hc with z | z
   . rw[z];exact nit b u e
   . exact nit c _ z
theorem Inv.tok (I:Inv X pins σ H s)(t:Nat):Inv X pins σ H { s with toks:=t }:=I.un (h':=s.heap) (t':=t) Un.refl I.hok
theorem Inv.kept (I:Inv X pins σ H s)(k:∀b u,s.heap.get? b=some u->h'.get? b=some u):Inv X pins σ H { s with heap:=h',toks:=t' }:=I.un (Un.kept k) (I.hok.kept k)
theorem Inv.laid {a:Addr}{o:HO}{t':Nat}(I:Inv X pins σ H s)(k:∀b u,s.heap.get? b=some u->h'.get? b=some u)(hp:s.heap.objs.size<=a)(new:zBe X.prog X.w (upd H a o) h' a o) :
 Inv X pins σ (upd H a o) { s with heap:=h',toks:=t' }:=I.un (Un.laid k hp (I.hok.fresh hp)) (I.hok.laid k hp new)
theorem Inv.write {x e:Addr}{o:HO}{t':Nat}(I:Inv X pins σ H s)(mu:Mut (H x))(he:e=x\/H e=some (.own x))(k:∀b u,b≠e->s.heap.get? b=some u->h'.get? b=some u)(heo:∃u,h'.get? e=some u)
 (new:zBe X.prog X.w (upd H x o) h' x o):Inv X pins σ (upd H x o) { s with heap:=h',toks:=t' }:=I.un (Un.write mu he k heo) (I.hok.write mu he k heo new)
theorem Inv.weak {σ':List (Option V)}(I:Inv X pins σ H s)(hl:σ'.length=σ.length)(w:∀(i:Nat) v,σ'[i]? = some (some v)->σ[i]? = some (some v)):Inv X pins σ' H s:=
 ⟨I.ok,I.os,I.bare,I.base,let ⟨m,hn,hl'⟩:=I.loc;⟨m,hn,fun i x v e1 e2 e3=>hl' i x v e1 (w i v e2) e3⟩,I.cell,I.free,I.freeC,I.pin,I.hok,hl.trans I.len⟩
theorem Inv.pins_of {pins':lPO}(I:Inv X pins σ H s)(h:∀p∈pins',s.heap.get? p.1=some p.2/\H p.1=none/\p.1≠X.env.locals/\p.1∉X.fs/\∀v,p.2.data ≠ .cell v):Inv X pins' σ H s:=
 ⟨I.ok,I.os,I.bare,I.base,I.loc,I.cell,I.free,I.freeC,fun p hp=>(zp.mp hp).elim (fun z=>I.pin p (zAO _ z)) (h p),I.hok,I.len⟩
theorem zGd (hN:N.Nodup){j:Nat}(a:N[i]? = some x)(b:N[j]? = some x):i=j:=by
 obtain⟨h1,e1⟩:=zJ.mp a
 obtain⟨h2,e2⟩:=zJ.mp b
 exact (List.getElem_inj hN).mp (e1.trans e2.symm)
theorem zHg {E:vSP}(I:Inv X pins σ H s)(hN:X.N.Nodup)(hi:X.N[i]? = some x)(hx:Loc X.env.scope x)(r:zBH v u)
 (h:∀s',Inv X pins (σ.set i (some v)) H s'->(∃a,Heap.SameBut a s.heap s'.heap/\(a=X.env.locals\/X.env.cells.lookup x=some a))->Q () s')(hf:X.fn x=true\/X.env.scope.names.lookup x=some .local:=by first | exact .inl rfl | exact .inr rfl | assumption):wpAny M A (storeName X.env x u) Q E s:=by
 obtain⟨m,hn,hl⟩:=id I.loc
 have hcls:(X.env.scope.kind == .class || (X.env.scope.kind == .module && X.env.locals != X.env.globals))=false:=by rw[I.ok.kind];rfl
 have hiσ:i<σ.length:=by rw[I.len];exact (zJ.mp hi).1
 have cne:=I.cne
 have tracked:∀{a:Addr}{h':Heap},(∃o,s.heap.get? a=some o/\H a=none)->Heap.SameBut a s.heap h'->HOk X.prog X.w H h':=fun {a h'} ha hs b ob e=>by
  obtain⟨_,_,hfree⟩:=ha
  refine (I.hok b ob e).stay (fun c w' hc q=>(hs.2 c ?_).trans q) (fun _ q=>q) fun _ _ q=>q
  rintro rfl
  rcases hc with rfl | hc
  . rw[hfree] at e;cases e
  . rw[hfree] at hc;cases hc
 rcases hx with hk | hk
 . refine wpAny_storeName_local hk hn (fun h' hn' hs=>?_) hcls
   obtain⟨oL,_,_,hoL,_⟩:=id hn
   refine h _ ⟨I.ok,I.os,I.bare,⟨fun b o e n hb hx=>?_,fun b o e n hb hx=>?_,I.base.free,fun b o e hx=>?_,I.base.tups,I.base.frzs,I.base.tbls⟩,⟨_,hn',fun j y v' e1 e2 e3=>?_⟩,fun y c e=>?_,I.free,I.freeC,fun p hp=>?_,tracked ⟨oL,hoL,I.free⟩ hs,by simpa using I.len⟩ ⟨_,hs,.inl rfl⟩
   . exact (hs.2 b (ze (zk (zU e) I.ok.above))).trans (I.base.keep b o e n hb hx)
   . obtain⟨sl,e1⟩:=I.base.slot b o e n hb hx
     exact⟨sl,(hs.2 b (ze (zk (zU e) I.ok.above))).trans e1⟩
   . obtain⟨o',e1⟩:=I.base.there b o e hx
     exact⟨o',(hs.2 b (ze (zk (zU e) I.ok.above))).trans e1⟩
   . by_cases hj:j=i
     . subst hj
       rw[hi] at e1;cases e1
       rw[List.getElem?_set_self hiσ] at e2
       cases e2
       exact⟨u,r,.inl ⟨hk,by simp⟩⟩
     . rw[List.getElem?_set_ne (Ne.symm hj)] at e2
       obtain⟨u',r',q⟩:=hl j y v' e1 e2 e3
       refine⟨u',r',?_⟩
       rcases q with ⟨k,e⟩ | ⟨k,c,e,z⟩
       . refine .inl ⟨k,?_⟩
         have:y≠x:=fun e=>hj (zGd hN e1 (e ▸ hi))
         simp[this,e]
       . exact .inr ⟨k,c,e,z.sameBut hs (cne y c e)⟩
   . obtain⟨w',z⟩:=I.cell y c e
     exact⟨w',z.sameBut hs (cne y c e)⟩
   . obtain⟨e,n,ne,nf,d⟩:=I.pin p hp
     exact⟨(hs.2 p.1 ne).trans e,n,ne,nf,d⟩
 . have hfn:X.fn x=true:=by
    rcases hf with z | z
    . exact z
    . rw[z] at hk;cases hk
   obtain⟨c,hc⟩:=I.ok.has x (.inl hk)
   obtain⟨w',z⟩:=I.cell x c hc
   refine wpAny_storeName_cell I.ok.kind hk hc z (fun h' hc' hs=>?_)
   obtain⟨oc,hoc,hocd⟩:=id z
   refine h { s with heap:=h' } ⟨I.ok,I.os,I.bare,⟨fun b o e n hb hx=>?_,fun b o e n hb hx=>?_,I.base.free,fun b o e hx=>?_,I.base.tups,I.base.frzs,I.base.tbls⟩,⟨m,hn.sameBut hs (Ne.symm (cne x c hc)),fun j y v' e1 e2 e3=>?_⟩,fun y c' e=>?_,I.free,I.freeC,fun p hp=>?_,tracked ⟨oc,hoc,I.freeC x c hc⟩ hs,by simpa using I.len⟩ ⟨c,hs,.inr hc⟩
   . exact (hs.2 b (ze (zk (zU e) (I.ok.cab x c hfn hc)))).trans (I.base.keep b o e n hb hx)
   . obtain⟨sl,e1⟩:=I.base.slot b o e n hb hx
     exact⟨sl,(hs.2 b (ze (zk (zU e) (I.ok.cab x c hfn hc)))).trans e1⟩
   . obtain⟨o',e1⟩:=I.base.there b o e hx
     exact⟨o',(hs.2 b (ze (zk (zU e) (I.ok.cab x c hfn hc)))).trans e1⟩
   . by_cases hj:j=i
     . subst hj
       rw[hi] at e1;cases e1
       rw[List.getElem?_set_self hiσ] at e2
       cases e2
       exact⟨u,r,.inr ⟨.inl hk,c,hc,hc'⟩⟩
     . rw[List.getElem?_set_ne (Ne.symm hj)] at e2
       obtain⟨u',r',q⟩:=hl j y v' e1 e2 e3
       refine⟨u',r',?_⟩
       rcases q with q | ⟨k,c',e,z'⟩
       . exact .inl q
       . refine .inr ⟨k,c',e,z'.sameBut hs ?_⟩
         rintro rfl
         exact hj (zGd hN e1 (I.ok.inj _ _ _ e hc ▸ hi))
   . by_cases hcc:c'=c
     . subst hcc;exact⟨_,hc'⟩
     . obtain⟨w2,z2⟩:=I.cell y c' e
       exact⟨w2,z2.sameBut hs hcc⟩
   . obtain⟨e,n,ne,nf,d⟩:=I.pin p hp
     refine⟨(hs.2 p.1 ?_).trans e,n,ne,nf,d⟩
     intro q
     rw[q,hoc] at e
     have q':oc=p.2:=zR e
     exact d w' (by rw[<-q'];exact hocd)
theorem zDV {E:vSP}(I:Inv X pins σ H s)(hN:X.N.Nodup)(hi:X.N[i]? = some x)(hx:Loc X.env.scope x)(r:zBH v u)
 (h:∀s',Inv X pins (σ.set i (some v)) H s'->Q () s')(hf:X.fn x=true\/X.env.scope.names.lookup x=some .local:=by first | exact .inl rfl | exact .inr rfl | assumption):wpAny M A (storeName X.env x u) Q E s:=
 zHg I hN hi hx r (fun s' I' _=>h s' I') hf
theorem Inv.call' {s':Shared}{ch:List Addr}(I:Inv X pins σ H s)(ho:s'.os=s.os)(u:Un (frs X.stack) ch H H' s.heap s'.heap)(hok:HOk X.prog X.w H' s'.heap)(hg:AllBare s'.gens)
 (hch:∀b∈ch,(b∈X.ex\/X.s₀.heap.objs.size<=b)/\b≠X.env.locals/\(∀x c,X.env.cells.lookup x=some c->c≠b)/\∀p∈X.pn++pins,p.1≠b):Inv X pins σ H' s':=by
 obtain⟨h',g',d',t',o'⟩:=s'
 have e:o'=s.os:=ho
 subst e
 exact I.call (g':=g') (t':=t') (d':=d') u hok hg hch
end
noncomputable abbrev XK:=Value->Option Addr->Hp->Prop
noncomputable abbrev St:=List (Option V)
noncomputable abbrev VK:=V->Hp->Prop
noncomputable abbrev TE:=St->Hp->VK->Prop
noncomputable abbrev TT:=St->Hp->(Bool->Hp->Prop)->Prop
noncomputable abbrev TA:=St->Hp->(List V->Hp->Prop)->Prop
structure zKr where
 nx:St->Hp->Prop
 rt:VK
 bk:St->Hp->Prop:=fun _ _=>False
 ct:St->Hp->Prop:=fun _ _=>False
noncomputable abbrev TS:=zKr->St->Hp->Prop
noncomputable def EP (X:Cx)(pins:lPO)(σ:St)(Q:VK)(u:Value)(s':Shared):Prop:=∃v H',Inv X pins σ H' s'/\zBH v u/\Q v H'
noncomputable def TP (X:Cx)(pins:lPO)(σ:St)(Q:Bool->Hp->Prop)(b:Bool)(s':Shared):Prop:=∃H',Inv X pins σ H' s'/\Q b H'
noncomputable def AP (X:Cx)(pins:lPO)(σ:St)(Q:List V->Hp->Prop)(us:List Value)(s':Shared):Prop:=∃vs H',Inv X pins σ H' s'/\zA8 vs us/\Q vs H'
noncomputable def SP (X:Cx)(pins:lPO)(D:zKr)(f:Flow)(s':Shared):Prop:=
 match f with
 | .next=>∃ σ' H',Inv X pins σ' H' s'/\D.nx σ' H'
 | .brk=>∃ σ' H',Inv X pins σ' H' s'/\D.bk σ' H'
 | .cont=>∃ σ' H',Inv X pins σ' H' s'/\D.ct σ' H'
 | .ret u=>∃v σ' H',Inv X pins σ' H' s'/\zBH v u/\D.rt v H'
noncomputable def PE (X:Cx)(e:Expr)(t:TE):Prop:=
 ∀(pins:lPO)(s:Shared)(σ:St)(H:Hp)(Q:VK),Inv X pins σ H s->t σ H Q->wpAny (model X.prog X.w) X.A (eval e X.env) (EP X pins σ Q) X.xe s
noncomputable def PT (X:Cx)(e:Expr)(t:TT):Prop:=
 ∀(pins:lPO)(s:Shared)(σ:St)(H:Hp)(Q:Bool->Hp->Prop),Inv X pins σ H s->t σ H Q->wpAny (model X.prog X.w) X.A (isTrue e X.env (eval e X.env)) (TP X pins σ Q) X.xe s
noncomputable def PW (X:Cx)(e:Expr)(t:TT):Prop:=
 ∀(whole:Sem Value)(pins:lPO)(s:Shared)(σ:St)(H:Hp)(Q:Bool->Hp->Prop),Inv X pins σ H s->t σ H Q->wpAny (model X.prog X.w) X.A (isTrue e X.env whole) (TP X pins σ Q) X.xe s
variable {X:Cx}{e:Expr}
theorem PW.pt {t:TT}(h:PW X e t):PT X e t:=h _
noncomputable def PA (X:Cx)(es:List Expr)(t:TA):Prop:=
 ∀(pos:Pos)(pins:lPO)(s:Shared)(σ:St)(H:Hp)(Q:List V->Hp->Prop),Inv X pins σ H s->t σ H Q->wpAny (model X.prog X.w) X.A (spliced (backTo pos (starEach es X.env))) (AP X pins σ Q) X.xe s
noncomputable def PS (X:Cx)(st:Stmt)(t:TS):Prop:=
 ∀(pins:lPO)(s:Shared)(σ:St)(H:Hp)(D:zKr),Inv X pins σ H s->t D σ H->wpAny (model X.prog X.w) X.A (exec st X.env) (SP X pins D) X.xe s
noncomputable def PSs (X:Cx)(st:List Stmt)(t:TS):Prop:=
 ∀(pins:lPO)(s:Shared)(σ:St)(H:Hp)(D:zKr),Inv X pins σ H s->t D σ H->wpAny (model X.prog X.w) X.A (execs st X.env) (SP X pins D) X.xe s
variable {s:Shared}
theorem thn {α:Type}{t:Sem α}{Q Q':α->Shared->Prop}{E:vSP}(h:wpAny M A t Q E s)(hQ:∀a s,Q a s->Q' a s):wpAny M A t Q' E s:=zBI h hQ fun _ _ x=>x
variable {pos:Pos}{σ:St}{op:CmpOp}{c:Expr}
section
variable {X:Cx}
noncomputable def tVar (i:Nat):TE:=fun σ H Q=>∃v,σ[i]? = some (some v)/\Q v H
noncomputable def tC (v:V):TE:=fun _ H Q=>Q v H
theorem pe_var (hN:X.N[i]? = some x)(hv:Vis X.env.scope x)(hd:(x==("__debug__" : Str))=false:=by decide) (hcd:(x==("__classdict__" : Str))=false:=by decide):PE X (.Name x pos) (tVar i):=by
 intro pins s σ H Q I h
 obtain⟨v,e,h⟩:=h
 obtain⟨m,hn,hl⟩:=I.loc
 obtain⟨u,r,l⟩:=hl i x v hN e hv
 have fin:EP X pins σ Q u s:=⟨v,H,I,r,h⟩
 rcases l with ⟨hk,hm⟩ | ⟨hk,c,hc,hcell⟩
 . exact wpAny_Name (wpAny_loadName_local I.ok.kind hk hn hm fin) hd
 . rcases hk with hk | hk
   . exact wpAny_Name (wpAny_loadName_cell I.ok.kind hk hc hcell fin) hd
   . exact wpAny_Name (wpAny_loadName_free I.ok.kind hk hc hcell fin hcd) hd
theorem zj {i j pos}:PE X (.Constant (.int i) j pos) (tC (.int i)):=fun _ _ _ H _ I h=>wpAny_Constant_int ⟨.int i,H,I.tok _,⟨_,rfl⟩,h⟩
theorem zDS {b j pos}:PE X (.Constant (.bool b) j pos) (tC (.bl b)):=fun _ _ _ H _ I h=>Constant_bool ⟨.bl b,H,I,rfl,h⟩
theorem zAh {j pos}:PE X (.Constant .none j pos) (tC .non):=fun _ _ _ H _ I h=>Constant_none ⟨.non,H,I,rfl,h⟩
theorem zGY {x j pos}:PE X (.Constant (.str x) j pos) (tC (.str x)):=fun _ _ _ H _ I h=>Calls.Constant_str ⟨.str x,H,I.tok _,⟨_,rfl⟩,h⟩
noncomputable def Gl (X:Cx)(x:Str):Prop:=X.env.kindOf x=some .globalImplicit
theorem zF5 {E:vSP}{pins:lPO}{Q:vSP}(I:Inv X pins σ H s)(hg:Gl X x)(hm:X.mg x=some u)(h:Q u s)
 (hd:(x==("__debug__" : Str))=false:=by decide):wpAny (model X.prog X.w) X.A (eval (.Name x pos) X.env) Q E s:=
 Calls.Name_function_global I.ok.kind hg (Calls.loadGlobal_global (by rw[I.ok.glob];exact I.mod.glob.keeps I.bk) hm h) hd
theorem zCm {E:vSP}{pins:lPO}{Q:vSP}(I:Inv X pins σ H s)(hg:Gl X x)(hm:X.mg x=none)(hv:bootBuiltins x=some u)(h:Q u s)
 (hn:x ≠ "__name__" := by decide) (hd:(x==("__debug__" : Str))=false:=by decide):wpAny (model X.prog X.w) X.A (eval (.Name x pos) X.env) Q E s:=by
 obtain⟨mb,h1,h2⟩:=I.mod.blt
 exact Calls.Name_function_global I.ok.kind hg (Calls.loadGlobal_builtin (by rw[I.ok.glob];exact I.mod.glob.keeps I.bk) hm (by rw[I.ok.blt];exact h1.keeps I.bk) ((h2 x hn).trans hv) h) hd
theorem zIL (hg:Gl X x)(hm:X.mg x=some u)(r:zBH v u)(hd:(x==("__debug__" : Str))=false:=by decide):PE X (.Name x pos) (tC v):=
 fun _ _ _ H _ I h=>zF5 I hg hm ⟨v,H,I,r,h⟩ hd
variable {a b:Expr}{ta tb:TE}{pos:Pos}
noncomputable def PC (X:Cx)(op:CmpOp)(a b:Expr)(t:TE):Prop:=
 ∀(pins:lPO)(s:Shared)(σ:St)(H:Hp)(Q:VK),Inv X pins σ H s->t σ H Q ->
  wpAny (model X.prog X.w) X.A (eval a X.env) (fun v s₁=>wpAny (model X.prog X.w) X.A (eval b X.env) (fun u s₂=>wpAny (model X.prog X.w) X.A (compareOp op v u) (EP X pins σ Q) X.xe s₂) X.xe s₁) X.xe s
noncomputable def tB (t:TE):TT:=fun σ H Q=>t σ H fun x H1=>∃c,x = .bl c/\Q c H1
theorem zIE {t:TE}(h:PC X op a b t)(h1:behindInMarks op b=false:=by first | exact nobehind _ (by decide) (by decide) | rfl):PT X (.Compare a [op] [b] pos) (tB t):=by
 intro pins s σ H Q I hw
 refine wpAny_isTrue_Compare1 (thn (h pins s σ H _ I hw) fun v s1 h1=>thn h1 fun u s2 h2=>thn h2 fun c s3 ⟨x,H1,I1,r1,q1⟩=>?_) h1
 obtain⟨d,rfl,q⟩:=q1
 cases r1
 exact zA4 ⟨H1,I1,q⟩
theorem zBt {t:TE}(h:PE X e t)(he:∀whole,isTrue e X.env whole=(do let v <-whole;standAt e.pos;holding [v] (truthy v)):=by intro _;rfl):PT X e (tB t):=by
 intro pins s σ H Q I hw
 refine isTrue_plain (thn (h pins s σ H _ I hw) fun v s1 ⟨x,H1,I1,r1,q1⟩=>?_) (he _)
 obtain⟨d,rfl,q⟩:=q1
 cases r1
 exact zA4 ⟨H1,I1,q⟩
variable {tA tB':TT}{rest:List Expr}
noncomputable def tAnd (t u:TT):TT:=fun σ H Q=>t σ H fun c H1=>if c=true then u σ H1 Q else Q false H1
noncomputable def tOr (t u:TT):TT:=fun σ H Q=>t σ H fun c H1=>if c=true then Q true H1 else u σ H1 Q
noncomputable def tNot (t:TT):TT:=fun σ H Q=>t σ H fun c H1=>Q (!c) H1
theorem zDD (ha:PT X a tA):PW X (.BoolOp .And [a] pos) tA:=by
 intro wh pins s σ H Q I h
 refine isTrue_and (thn (ha pins s σ H Q I h) fun c s1 e=>?_)
 cases c with
 | true=>exact isTrue_and_nil e
 | false=>exact e
theorem zCG (ha:PT X a tA):PW X (.BoolOp .Or [a] pos) tA:=by
 intro wh pins s σ H Q I h
 refine isTrue_or (thn (ha pins s σ H Q I h) fun c s1 e=>?_)
 cases c with
 | false=>exact isTrue_or_nil e
 | true=>exact e
theorem zER (ha:PT X a tA)(hb:PW X (.BoolOp .And (b::rest) pos) tB'):PW X (.BoolOp .And (a::b::rest) pos) (tAnd tA tB'):=by
 intro wh pins s σ H Q I h
 refine isTrue_and (thn (ha pins s σ H _ I h) fun c s1 ⟨H1,I1,q1⟩=>?_)
 cases c with
 | true=>exact hb wh pins s1 σ H1 Q I1 q1
 | false=>exact⟨H1,I1,q1⟩
theorem zCv (ha:PT X a tA)(hb:PW X (.BoolOp .Or (b::rest) pos) tB'):PW X (.BoolOp .Or (a::b::rest) pos) (tOr tA tB'):=by
 intro wh pins s σ H Q I h
 refine isTrue_or (thn (ha pins s σ H _ I h) fun c s1 ⟨H1,I1,q1⟩=>?_)
 cases c with
 | true=>exact⟨H1,I1,q1⟩
 | false=>exact hb wh pins s1 σ H1 Q I1 q1
theorem zB4 (ha:PT X a tA):PT X (.UnaryOp .Not a pos) (tNot tA):=by
 intro pins s σ H Q I h
 exact isTrue_not (ha pins s σ H (fun c H1=>Q (!c) H1) I h)
noncomputable def tAndV (ta tb:TE):TE:=fun σ H Q=>ta σ H fun x H1=>∃c,x = .bl c/\if c=true then tb σ H1 Q else Q (.bl false) H1
noncomputable def tOrV (ta tb:TE):TE:=fun σ H Q=>ta σ H fun x H1=>∃c,x = .bl c/\if c=true then Q (.bl true) H1 else tb σ H1 Q
noncomputable def tNotV (ta:TE):TE:=fun σ H Q=>ta σ H fun x H1=>∃c,x = .bl c/\Q (.bl (!c)) H1
theorem zCW {op} {t:TE}(h:PE X a t):PE X (.BoolOp op [a] pos) t:=fun pins s σ H Q I hw=>BoolOp_one (h pins s σ H Q I hw)
theorem zCR (ha:PE X a ta)(hb:PE X (.BoolOp .And (b::rest) pos) tb):PE X (.BoolOp .And (a::b::rest) pos) (tAndV ta tb):=by
 intro pins s σ H Q I h
 refine BoolOp_and (thn (ha pins s σ H _ I h) fun v s1 ⟨x,H1,I1,r1,q1⟩=>?_)
 obtain⟨c,rfl,q1⟩:=q1
 cases r1
 refine zA4 ?_
 cases c with
 | true=>exact hb pins s1 σ H1 Q I1 q1
 | false=>exact⟨.bl false,H1,I1,rfl,q1⟩
theorem pe_or (ha:PE X a ta)(hb:PE X (.BoolOp .Or (b::rest) pos) tb):PE X (.BoolOp .Or (a::b::rest) pos) (tOrV ta tb):=by
 intro pins s σ H Q I h
 refine BoolOp_or (thn (ha pins s σ H _ I h) fun v s1 ⟨x,H1,I1,r1,q1⟩=>?_)
 obtain⟨c,rfl,q1⟩:=q1
 cases r1
 refine zA4 ?_
 cases c with
 | false=>exact hb pins s1 σ H1 Q I1 q1
 | true=>exact⟨.bl true,H1,I1,rfl,q1⟩
theorem pe_not (ha:PE X a ta):PE X (.UnaryOp .Not a pos) (tNotV ta):=by
 intro pins s σ H Q I h
 refine UnaryOp_ (thn (ha pins s σ H _ I h) fun v s1 ⟨x,H1,I1,r1,q1⟩=>?_)
 obtain⟨c,rfl,q1⟩:=q1
 cases r1
 exact not_of (zA4 ⟨.bl (!c),H1,I1,rfl,q1⟩)
noncomputable def tIf (t:TT)(ta tb:TE):TE:=fun σ H Q=>t σ H fun c H1=>if c=true then ta σ H1 Q else tb σ H1 Q
theorem zDW (hc:PT X c tA)(ha:PE X a ta)(hb:PE X b tb):PE X (.IfExp c a b pos) (tIf tA ta tb):=by
 intro pins s σ H Q I h
 refine wpAny_IfExp (thn (hc pins s σ H _ I h) fun d s1 ⟨H1,I1,q1⟩=>?_)
 cases d with
 | true=>exact ha pins s1 σ H1 Q I1 q1
 | false=>exact hb pins s1 σ H1 Q I1 q1
end
noncomputable def SqL (K:PySem.W.Frag)(H:Hp)(a:Addr)(xs:List V):Prop:=
 Rd H a (.lst xs) \/
  ∃(o:Obj)(its:Array Value)(n:Nat),K.lookup a=some o/\o.cls = .type "list" /\ o.dict=none/\o.data = .seq its n/\its.size<=sizeLine/\zA8 xs its.toList
noncomputable def SqT (K:PySem.W.Frag)(H:Hp)(a:Addr)(xs:List V):Prop:=
 Rd H a (.tup xs) \/
  ∃(o:Obj)(its:Array Value)(n:Nat),K.lookup a=some o/\o.cls = .type "tuple" /\ o.data = .seq its n/\its.size<=sizeLine/\zA8 xs its.toList
noncomputable def absV:Value->Option V
 | .none=>some .non
 | .bool b=>some (.bl b)
 | .int i _=>some (.int i)
 | .str x _=>some (.str x)
 | .bytes b _=>some (.byt b)
 | .float b _=>some (.flt b)
 | .ref a=>some (.ref a)
 | .type n=>some (.ty n)
 | _=>none
theorem zBH.abs {x:V}(r:zBH x u):absV u=some x:=by
 cases x with
 | non=>cases r;rfl
 | bl _=>cases r;rfl
 | int _=>obtain⟨t,rfl⟩:=r;rfl
 | str _=>obtain⟨t,rfl⟩:=r;rfl
 | byt _=>obtain⟨t,rfl⟩:=r;rfl
 | flt _=>obtain⟨t,rfl⟩:=r;rfl
 | ref _=>cases r;rfl
 | ty _=>cases r;rfl
variable {y:V}
theorem zBH.inj {x:V}(r:zBH x u)(q:zBH y u):x=y:=zR (r.abs.symm.trans q.abs)
theorem zA8.inj:∀{xs ys:List V}{us:List Value},zA8 xs us->zA8 ys us->xs=ys
 | _,_,_,.nil,.nil=>rfl
 | _,_,_,.cons r t,.cons r' t'=>by rw[r.inj r',zA8.inj t t']
variable {K:PySem.W.Frag}
section
variable {X:Cx}{pins:lPO}{σ:St}{H:Hp}{s:Shared}{a:Addr}{xs ys:List V}
theorem SqL.of (h:H a=some (.lst xs)):SqL K H a xs:=.inl (.inl h)
theorem SqT.of (h:H a=some (.tup xs)):SqT K H a xs:=.inl (.inl h)
theorem Inv.list (I:Inv X pins σ H s)(h:SqL X.K H a xs):∃its:List Value,zA8 xs its/\PlainL s.heap a its.toArray/\xs.length<=sizeLine:=by
 rcases h with h | ⟨o,its,n,hk,hc,hd,hs,hz,r⟩
 . obtain⟨z,its,n,r,e⟩:=h.ok I.hok
   exact⟨its,r,⟨_,n,e,rfl,rfl,rfl⟩,z⟩
 . refine⟨its.toList,r,⟨o,n,I.kIn a o hk,hc,hd,by simpa using hs⟩,?_⟩
   have e:=r.length
   simp only[Array.length_toList] at e
   omega
theorem Inv.tuple (I:Inv X pins σ H s)(h:SqT X.K H a xs):∃its:List Value,zA8 xs its/\IsTup s.heap a its.toArray/\xs.length<=sizeLine:=by
 rcases h with h | ⟨o,its,n,hk,hc,hs,hz,r⟩
 . obtain⟨⟨z,_⟩,its,r,p⟩:=h.ok I.hok
   exact⟨its,r,p,z⟩
 . refine⟨its.toList,r,⟨o,I.kIn a o hk,hc,n,by simpa using hs⟩,?_⟩
   have e:=r.length
   simp only[Array.length_toList] at e
   omega
theorem Inv.list_inj (I:Inv X pins σ H s)(h:SqL X.K H a xs)(h':SqL X.K H a ys):xs=ys:=by
 obtain⟨its,r,⟨o,n,e,_,_,d⟩,_⟩:=I.list h
 obtain⟨its',r',⟨o',n',e',_,_,d'⟩,_⟩:=I.list h'
 rw[e] at e';cases e'
 rw[d] at d'
 injection d' with d1 _
 have:its=its':=by simpa using congrArg Array.toList d1
 subst this
 exact r.inj r'
theorem Inv.tuple_inj (I:Inv X pins σ H s)(h:SqT X.K H a xs)(h':SqT X.K H a ys):xs=ys:=by
 obtain⟨its,r,⟨o,e,_,n,d⟩,_⟩:=I.tuple h
 obtain⟨its',r',⟨o',e',_,n',d'⟩,_⟩:=I.tuple h'
 rw[e] at e';cases e'
 rw[d] at d'
 injection d' with d1 _
 have:its=its':=by simpa using congrArg Array.toList d1
 subst this
 exact r.inj r'
end
noncomputable abbrev Cx.wish (X:Cx)(E:vSP):Cx:={ X with xe:=E }
noncomputable abbrev Cx.nox (X:Cx):Cx:=X.wish fun _ _=>False
theorem Cx.Ok.wish (ok:X.Ok)(E:vSP):(X.wish E).Ok:=
 ⟨ok.mod,ok.kind,ok.glob,ok.blt,ok.above,ok.inj,ok.has,ok.cab,ok.hd,ok.frames,ok.stk,ok.exf,ok.bs,ok.bsz,ok.noex,ok.exfs,ok.funs,ok.frf⟩
theorem Cx.Ok.unwish {E:vSP}(ok:(X.wish E).Ok):X.Ok:=
 ⟨ok.mod,ok.kind,ok.glob,ok.blt,ok.above,ok.inj,ok.has,ok.cab,ok.hd,ok.frames,ok.stk,ok.exf,ok.bs,ok.bsz,ok.noex,ok.exfs,ok.funs,ok.frf⟩
section
variable {X:Cx}{pins:lPO}{σ:St}{H:Hp}{s:Shared}{E:vSP}
theorem Inv.wish (I:Inv X pins σ H s)(E:vSP):Inv (X.wish E) pins σ H s:=⟨I.ok.wish E,I.os,I.bare,I.base,I.loc,I.cell,I.free,I.freeC,I.pin,I.hok,I.len⟩
theorem Inv.unwish (I:Inv (X.wish E) pins σ H s):Inv X pins σ H s:=⟨I.ok.unwish,I.os,I.bare,I.base,I.loc,I.cell,I.free,I.freeC,I.pin,I.hok,I.len⟩
theorem SP.unwish {D:zKr}{f:Flow}{s':Shared}(h:SP (X.wish E) pins D f s'):SP X pins D f s':=by
 cases f with
 | next=>obtain⟨σ',H',I,q⟩:=h;exact⟨σ',H',I.unwish,q⟩
 | brk=>obtain⟨σ',H',I,q⟩:=h;exact⟨σ',H',I.unwish,q⟩
 | cont=>obtain⟨σ',H',I,q⟩:=h;exact⟨σ',H',I.unwish,q⟩
 | ret u=>obtain⟨v,σ',H',I,r,q⟩:=h;exact⟨v,σ',H',I.unwish,r,q⟩
theorem PSs.nox {st:List Stmt}{t:TS}(h:PSs X.nox st t):PSs X st t:=fun pins s σ H D I hw=>
 zBI (h pins s σ H D (I.wish _) hw) (fun _ _ q=>q.unwish) fun _ _ z=>False.elim z
end
section
variable {X:Cx}{st:Stmt}{rest:List Stmt}{t u:TS}{e:Expr}{te:TE}{pos:Pos}
noncomputable def tNext:TS:=fun D σ H=>D.nx σ H
noncomputable def tSeq (t u:TS):TS:=fun D σ H=>t { D with nx:=u D } σ H
theorem zAP:PSs X [] tNext:=fun _ _ σ H _ I h=>wpAny_execs_nil ⟨σ,H,I,h⟩
theorem zQ (h1:PS X st t)(h2:PSs X rest u):PSs X (st::rest) (tSeq t u):=by
 intro pins s σ H D I h
 refine wpAny_execs_cons (thn (h1 pins s σ H { D with nx:=u D } I h) fun f s1 q=>?_)
 cases f with
 | next=>
  obtain⟨σ',H',I',q⟩:=q
  exact h2 pins s1 σ' H' D I' q
 | ret v=>exact q
 | brk=>exact q
 | cont=>exact q
theorem zW (h1:PS X st t):PSs X [st] t:=by
 intro pins s σ H D I h
 refine wpAny_execs_cons (thn (h1 pins s σ H D I h) fun f s1 q=>?_)
 cases f with
 | next=>exact wpAny_execs_nil q
 | ret v=>exact q
 | brk=>exact q
 | cont=>exact q
theorem Inv.quiet {pins:lPO}(I:Inv X pins σ H s):interactive X.env=false:=by simp[interactive,I.ok.kind]
noncomputable def tDrop (te:TE):TS:=fun D σ H=>te σ H fun _ H1=>D.nx σ H1
theorem zCL (he:PE X e te)(hs:swapsWith e none pos.line X.env=pure false:=by rfl):PS X (.Expr e pos) (tDrop te):=by
 intro pins s σ H D I h
 exact wpAny_Expr_any (thn (he pins s σ H _ I h) fun v s1 ⟨x,H1,I1,r1,q1⟩=>⟨σ,H1,I1,q1⟩) I.quiet hs
noncomputable def tRet (te:TE):TS:=fun D σ H=>te σ H D.rt
theorem zw (he:PE X e te):PS X (.Return (some e) pos) (tRet te):=by
 intro pins s σ H D I h
 exact wpAny_Return_some (thn (he pins s σ H _ I h) fun v s1 ⟨x,H1,I1,r1,q1⟩=>⟨x,σ,H1,I1,r1,q1⟩)
noncomputable def tIfS (c:TT)(t u:TS):TS:=fun D σ H=>c σ H fun b H1=>if b=true then t D σ H1 else u D σ H1
theorem zA5 {a b:List Stmt}{tc:TT}(hc:PT X c tc)(ha:PSs X a t)(hb:PSs X b u):PS X (.If c a b pos) (tIfS tc t u):=by
 intro pins s σ H D I h
 refine wpAny_If (thn (hc pins s σ H _ I h) fun d s1 ⟨H1,I1,q1⟩=>?_)
 cases d with
 | true=>exact ha pins s1 σ H1 D I1 q1
 | false=>exact hb pins s1 σ H1 D I1 q1
end
noncomputable abbrev TG:=V->St->Hp->(St->Hp->Prop)->Prop
noncomputable abbrev TGs:=List V->St->Hp->(St->Hp->Prop)->Prop
noncomputable def PG (X:Cx)(target:Expr)(t:TG):Prop:=
 ∀(pins:lPO)(s:Shared)(σ:St)(H:Hp)(v:V)(u:Value)(Q:St->Hp->Prop),Inv X pins σ H s->zBH v u->t v σ H Q ->
  wpAny (model X.prog X.w) X.A (assign target X.env u) (fun _ s'=>∃ σ' H',Inv X pins σ' H' s'/\Q σ' H') X.xe s
noncomputable def PGs (X:Cx)(ts:List Expr)(t:TGs):Prop:=
 ∀(pins:lPO)(s:Shared)(σ:St)(H:Hp)(vs:List V)(us:List Value)(Q:St->Hp->Prop),Inv X pins σ H s->zA8 vs us->t vs σ H Q ->
  wpAny (model X.prog X.w) X.A (assignInOrder ((assignEach ts X.env).map (·.2)) us) (fun _ s'=>∃ σ' H',Inv X pins σ' H' s'/\Q σ' H') X.xe s
noncomputable abbrev TSet:=V->V->V->Hp->(Hp->Prop)->Prop
noncomputable def PSet (X:Cx)(t:TSet):Prop:=
 ∀(pins:lPO)(s:Shared)(σ:St)(H:Hp)(o i v:V)(ov iv u:Value)(Q:Hp->Prop),Inv X pins σ H s->zBH o ov->zBH i iv->zBH v u->t o i v H Q ->
  wpAny (model X.prog X.w) X.A (setItem ov iv u) (fun _ s'=>∃H',Inv X pins σ H' s'/\Q H') X.xe s
variable {n:Nat}{body:List Stmt}{tb:TS}
section
variable {X:Cx}{pos:Pos}
noncomputable def zHK (i:Nat):TG:=fun v σ H Q=>Q (σ.set i (some v)) H
theorem zAI (hN:X.N.Nodup)(hi:X.N[i]? = some x)(hx:Loc X.env.scope x)(hf:X.fn x=true\/X.env.scope.names.lookup x=some .local:=by first | exact .inl rfl | exact .inr rfl | assumption):PG X (.Name x pos) (zHK i):=by
 intro pins s σ H v u Q I r h
 exact wpAny_assign_Name (zDV I hN hi hx r (fun s' I'=>⟨_,H,I',h⟩) hf)
noncomputable def gNil:TGs:=fun vs σ H Q=>vs=[]/\Q σ H
noncomputable def gCons (t:TG)(u:TGs):TGs:=fun vs σ H Q=>∃v r,vs=v::r/\t v σ H fun σ' H'=>u r σ' H' Q
theorem zBc:PGs X [] gNil:=by
 intro pins s σ H vs us Q I r h
 obtain⟨e,h⟩:=h
 subst e
 cases r
 exact assignInOrder_nil ⟨σ,H,I,h⟩
theorem zAE {es:List Expr}{t:TG}{u:TGs}(h1:PG X e t)(h2:PGs X es u)
 (hs:(assignEach (e::es) X.env).map (·.2)=assign e X.env::(assignEach es X.env).map (·.2):=by rfl):PGs X (e::es) (gCons t u):=by
 intro pins s σ H vs us Q I r h
 obtain⟨v,vr,e1,h⟩:=h
 subst e1
 cases r with
 | cons r rr=>
  rw[hs]
  refine assignInOrder_cons (thn (h1 pins s σ H _ _ _ I r h) fun _ s1 ⟨σ1,H1,I1,q1⟩=>?_)
  exact h2 pins s1 σ1 H1 _ _ Q I1 rr q1
noncomputable def gTup (K:PySem.W.Frag)(n:Nat)(t:TGs):TG:=fun v σ H Q=>∃a xs,v = .ref a/\SqT K H a xs/\xs.length=n/\t xs σ H Q
theorem zCC {es:List Expr}{k:Nat}{t:TGs}(hc:X.calm=true)(h:PGs X es t)
 (hn:(assignEach es X.env).length=n:=by rfl)(hst:(assignEach es X.env).findIdx? (·.1)=none:=by rfl):PG X (.Tuple es k pos) (gTup X.K n t):=by
 intro pins s σ H v u Q I r hw
 obtain⟨a,xs,e1,hq,hl,hw⟩:=hw
 subst e1
 cases r
 obtain⟨its,rv,ht,hz⟩:=I.tuple hq
 refine assign_Tuple_tuple (I.ok.hd hc) ht (by simp[hn,<-hl,rv.length]) hst fun h' hx=>?_
 have I1:Inv X pins σ H { s with heap:=h' }:=I.kept (t':=s.toks) fun b o e=>hx b o (ze (zU e)) e
 exact h pins _ σ H xs _ Q I1 (by simpa using rv) hw
noncomputable def gSub (to ti:TE)(t:TSet):TG:=fun v σ H Q=>to σ H fun o H1=>ti σ H1 fun i H2=>t o i v H2 fun H3=>Q σ H3
theorem zDh {o i:Expr}{to ti:TE}{t:TSet}(ho:PE X o to)(hi:PE X i ti)(hs:PSet X t)
 (ha:∀v,assign (.Subscript o i pos) X.env v=(do
  let ov <-holding [v] (eval o X.env)
  let iv <-holding [v,ov] (eval i X.env)
  standAt pos
  holding [v,ov,iv] (setItem ov iv v)
  release [v,ov,iv] []):=by intro _;rfl):PG X (.Subscript o i pos) (gSub to ti t):=by
 intro pins s σ H v u Q I r h
 rw[ha]
 refine zA (zAR (thn (ho pins s σ H _ I h) fun ov s1 ⟨x,H1,I1,r1,q1⟩=>?_))
 refine zA (zAR (thn (hi pins s1 σ H1 _ I1 q1) fun iv s2 ⟨y,H2,I2,r2,q2⟩=>?_))
 refine zA (wpAny_standAt (zA (zAR (thn (hs pins s2 σ H2 x y v ov iv u _ I2 r1 r2 r q2) fun _ s3 ⟨H3,I3,q3⟩=>?_))))
 exact wpAny_release ⟨σ,H3,I3,q3⟩
noncomputable def tAsg (te:TE)(g:TG):TS:=fun D σ H=>te σ H fun x H1=>g x σ H1 D.nx
theorem zDO {tg e:Expr}{te:TE}{g:TG}(he:PE X e te)(hg:PG X tg g)(hs:swapsWithSole [tg] e pos.line X.env=pure false:=by rfl)(hw:swappedStores [tg] e X.env=pure none:=by rfl)
 (h1:(assignEach [tg] X.env).map (·.2)=[assign tg X.env]:=by rfl):PS X (.Assign [tg] e pos) (tAsg te g):=by
 intro pins s σ H D I h
 refine wpAny_Assign_stores (thn (he pins s σ H _ I h) fun v s1 ⟨x,H1,I1,r1,q1⟩=>?_) hs hw
 rw[h1]
 exact thn (hg pins s1 σ H1 x v _ I1 r1 q1) fun _ s2 q=>q
theorem zCw {te:TE}{pos':Pos}(hN:X.N.Nodup)(hi:X.N[i]? = some x)(hx:Loc X.env.scope x)(he:PE X e te)(hs:swapsWith e (some (.Name x pos')) pos.line X.env=pure false:=by rfl)(hf:X.fn x=true\/X.env.scope.names.lookup x=some .local:=by first | exact .inl rfl | exact .inr rfl | assumption) :
 PS X (.Assign [.Name x pos'] e pos) (tAsg te (zHK i)):=by
 intro pins s σ H D I h
 refine wpAny_Assign_Name (thn (he pins s σ H _ I h) fun v s1 ⟨y,H1,I1,r1,q1⟩=>?_) hs
 exact zDV I1 hN hi hx r1 (fun s2 I2=>⟨_,H1,I2,q1⟩) hf
noncomputable def tWhile (c:TT)(tb:TS):TS:=fun D σ H=>∃W:Nat->St->Hp->Prop,(∃m,W m σ H)/\∀m σ H,W m σ H ->
 c σ H fun b H1=>if b=true then ∃N:St->Hp->Prop,(∀ σ' H',N σ' H'->∃m',m'<m/\W m' σ' H')/\tb { D with nx:=N,ct:=N,bk:=D.nx } σ H1 else D.nx σ H1
theorem zJh {tc:TT}(hp:PassesOwn (model X.prog X.w) X.A X.env X.xe)(hc:PT X c tc)(hb:PSs X body tb):PS X (.While c body [] pos) (tWhile tc tb):=by
 intro pins s σ H D I h
 obtain⟨W,⟨m0,w0⟩,turn⟩:=h
 refine wpAny_While (codeAny_whileLoop (fun n s'=>∃ σ' H',Inv X pins σ' H' s'/\W n σ' H') ?_ m0 ⟨σ,H,I,w0⟩)
 rintro n s1 ⟨σ1,H1,I1,w1⟩
 refine wpAny_passesOwn hp (thn (hc pins s1 σ1 H1 _ I1 (turn n σ1 H1 w1)) fun b s2 ⟨H2,I2,q2⟩=>?_)
 cases b with
 | true=>
  obtain⟨N,hN,q2⟩:=q2
  rw[if_pos rfl]
  refine wpAny_passesOwn hp (thn (hb pins s2 σ1 H2 _ I2 q2) fun f s3 q3=>?_)
  cases f with
  | next=>
   obtain⟨σ3,H3,I3,n3⟩:=q3
   obtain⟨m',hm,w3⟩:=hN σ3 H3 n3
   exact⟨m',hm,σ3,H3,I3,w3⟩
  | cont=>
   obtain⟨σ3,H3,I3,n3⟩:=q3
   obtain⟨m',hm,w3⟩:=hN σ3 H3 n3
   exact⟨m',hm,σ3,H3,I3,w3⟩
  | brk=>exact q3
  | ret v=>exact q3
 | false=>
  rw[if_neg zb]
  exact wpAny_execs_nil ⟨σ1,H2,I2,q2⟩
end
structure It where
 go:Nat->Hp->Prop
 yld:Nat->Hp->V->Hp->Prop
 stop:Nat->Hp->Prop
noncomputable def zGG (X:Cx)(pins:lPO)(H:Hp)(b:Addr):Prop:=
 H b=none/\b≠X.env.locals/\b∉X.fs/\(b∈X.ex\/X.s₀.heap.objs.size<=b)/\(∀x c,X.env.cells.lookup x=some c->c≠b)/\∀p∈X.pn++pins,p.1≠b
variable {H':Hp}
theorem Inv.fpOk {pins:lPO}(I:Inv X pins σ H s)(hb:s.heap.objs.size<=b)(hn:H' b=none):zGG X pins H' b:=by
 refine⟨hn,Nat.ne_of_gt (zk I.lt hb),I.nofs hb,.inr (zAD I.sz hb),fun x c e z=>?_,fun p hp z=>?_⟩
 . obtain⟨v,q⟩:=I.cell x c e
   exact absurd (zk q.lt (by rw[z];exact hb)) (zBX _)
 . exact absurd (zk (zU (I.pin p hp).1) (by rw[z];exact hb)) (zBX _)
structure Turn (P:Program)(w:World)(K:PySem.W.Frag)(tg:Expr)(J:It)(fp:List Addr)(it:Addr)(tn:Nat->Heap->Prop):Prop where
 mem:it∈fp
 obj:∀i h,tn i h->∀b∈fp,∃o,h.get? b=some o/\∀v,o.data ≠ .cell v
 keep:∀i h h',tn i h->(∀b∈fp,∀o,h.get? b=some o->h'.get? b=some o)->tn i h'
 item:∀(X:Cx),X.prog=P->X.w=w->X.K=K->X.calm=true->∀(i:Nat)(pins:lPO)(s:Shared)(σ:St)(H:Hp)(E:vSP),Inv X pins σ H s->(∀b∈fp,zGG X pins H b)->tn i s.heap->J.go i H ->
  wpAny (model P w) X.A (pyNext (.ref it)) (fun r s1=>∃u,r=some u /\
   wpAny (model P w) X.A (letOwnedTupleGo tg (.ref it) u) (fun _ s2=>∃x H',Inv X pins σ H' s2/\zBH x u/\J.yld i H x H'/\tn (i+1) s2.heap/\∀b∈fp,H' b=none) E s1) E s
 done:∀(X:Cx),X.prog=P->X.w=w->X.K=K->X.calm=true->∀(i:Nat)(pins:lPO)(s:Shared)(σ:St)(H:Hp)(E:vSP),Inv X pins σ H s->(∀b∈fp,zGG X pins H b)->tn i s.heap->J.stop i H ->
  wpAny (model P w) X.A (pyNext (.ref it)) (fun r s1=>r=none/\Inv X pins σ H s1) E s
 self:∀(A:Around)(i:Nat)(s:Shared)(Q:vSP)(E:vSP),tn i s.heap->Q (.ref it) s->wpAny (model P w) A (pyIter (.ref it)) Q E s
noncomputable abbrev TI:=St->Hp->(It->Hp->Prop)->Prop
noncomputable def PIE (X:Cx)(pins:lPO)(σ:St)(tg:Expr)(R:It->Hp->Prop)(itv:Value)(s2:Shared):Prop:=
 ∃(it:Addr)(fp:List Addr)(tn:Nat->Heap->Prop)(J:It)(H':Hp),itv = .ref it/\Inv X pins σ H' s2/\Turn X.prog X.w X.K tg J fp it tn/\tn 0 s2.heap/\(∀b∈fp,zGG X pins H' b)/\R J H'
noncomputable def PI (X:Cx)(tg iter:Expr)(wi:TI):Prop:=
 ∀(pins:lPO)(s:Shared)(σ:St)(H:Hp)(R:It->Hp->Prop),Inv X pins σ H s->wi σ H R ->
  wpAny (model X.prog X.w) X.A (eval iter X.env) (fun v s1=>wpAny (model X.prog X.w) X.A (pyIter v) (PIE X pins σ tg R) X.xe s1) X.xe s
variable {tg:Expr}
theorem zL2 {E:vSP}{it:Addr}{n:String}{vs:Array Value}(ho:s.heap.get? it=some o)(hc:o.cls = .type n)(hd:o.data = .fields vs)
 (hn:["enumerate", "zip", "dict_itemiterator", "dict_reverseitemiterator", "odict_iterator", "itertools.zip_longest", "itertools.pairwise"].contains n=false) (hQ:Q () s):wpAny M A (letOwnedTupleGo tg (.ref it) u) Q E s:=by
 unfold letOwnedTupleGo
 cases tg <;> first
  | exact zF hQ
  | (cases u <;> first
   | exact zF hQ
   | (refine zA (wpAny_load ho ?_)
      rw[hc,hd]
      show wpAny M A (if (["enumerate", "zip", "dict_itemiterator", "dict_reverseitemiterator", "odict_iterator", "itertools.zip_longest", "itertools.pairwise"].contains n && vs[0]? == some (rawInt _))=true then _ else _) Q E s
      rw[if_neg (by intro h;rw[hn,Bool.false_and] at h;cases h)]
      exact zF hQ))
noncomputable def Itl (K:PySem.W.Frag)(a:Addr):It:=
 ⟨fun i H=>∃xs x,SqL K H a xs/\xs[i]? = some x,fun i H x H'=>H'=H/\∀xs,SqL K H a xs->xs[i]? = some x,fun i H=>∃xs,SqL K H a xs/\xs.length<=i⟩
noncomputable def Itt (K:PySem.W.Frag)(a:Addr):It:=
 ⟨fun i H=>∃xs x,SqT K H a xs/\xs[i]? = some x,fun i H x H'=>H'=H/\∀xs,SqT K H a xs->xs[i]? = some x,fun i H=>∃xs,SqT K H a xs/\xs.length<=i⟩
noncomputable def Itr (lo:Int)(n:Nat):It:=⟨fun i _=>i<n,fun i H x H'=>H'=H/\x = .int (lo+i),fun i _=>n<=i⟩
theorem zHb {P:Program}(a it:Addr):Turn P w K tg (Itl K a) [it] it (fun i h=>h.IsListIter it a i) where
 mem:=by simp
 obj:=fun i h st b hb=>by
  have e:b=it:=by simpa using hb
  subst e
  obtain⟨o,e,c,d⟩:=st
  exact⟨o,e,fun v z=>by rw[d] at z;cases z⟩
 keep:=fun i h h' st k=>st.at fun o e=>k it (by simp) o e
 item:=by
  intro X hP hw hK hc i pins s σ H E I hf st hg
  subst hP hw hK
  obtain⟨xs,x,hq,hx⟩:=hg
  obtain⟨its,rv,p,hz⟩:=I.list hq
  obtain⟨u,hu,ru⟩:=rv.get hx
  obtain⟨f0,f1,f2,f3,f4,f5⟩:=hf it (by simp)
  refine wpAny_pyNext_list_item st p.isList (x:=u) (by simpa using hu) fun h' st' sb=>?_
  have I1:Inv X pins σ H { s with heap:=h' }:=I.turned (t':=s.toks) (fun b o hb e=>(sb.2 b hb).trans e) f0 f1 f3 f4 f5
  obtain⟨o,e,c,d⟩:=id st'
  exact⟨u,rfl,zL2 (s:={ s with heap:=h' }) e c d (by decide) ⟨x,H,I1,ru,⟨rfl,fun ys hy=>by rw[I.list_inj hy hq];exact hx⟩,st',fun b hb=>(hf b hb).1⟩⟩
 done:=by
  intro X hP hw hK hc i pins s σ H E I hf st hg
  subst hP hw hK
  obtain⟨xs,hq,hx⟩:=hg
  obtain⟨its,rv,p,hz⟩:=I.list hq
  obtain⟨f0,f1,f2,f3,f4,f5⟩:=hf it (by simp)
  have hl:=rv.length
  exact wpAny_pyNext_list_end (I.ok.hd hc) st p.isList (by simp;omega) fun h' eb=>⟨rfl,I.turned (t':=s.toks) (fun b o hb e=>eb b o hb e) f0 f1 f3 f4 f5⟩
 self:=fun _ _ _ _ _ st h=>wpAny_pyIter_listiter st h
theorem zGw {P:Program}(a it:Addr):Turn P w K tg (Itt K a) [it] it (fun i h=>h.IsTupleIter it a i) where
 mem:=by simp
 obj:=fun i h st b hb=>by
  have e:b=it:=by simpa using hb
  subst e
  obtain⟨o,e,c,d⟩:=st
  exact⟨o,e,fun v z=>by rw[d] at z;cases z⟩
 keep:=fun i h h' st k=>st.at fun o e=>k it (by simp) o e
 item:=by
  intro X hP hw hK hc i pins s σ H E I hf st hg
  subst hP hw hK
  obtain⟨xs,x,hq,hx⟩:=hg
  obtain⟨its,rv,p,hz⟩:=I.tuple hq
  obtain⟨u,hu,ru⟩:=rv.get hx
  obtain⟨f0,f1,f2,f3,f4,f5⟩:=hf it (by simp)
  refine wpAny_pyNext_tuple_item st (show s.heap.IsTuple a its.toArray from p) (x:=u) (by simpa using hu) fun h' st' sb=>?_
  have I1:Inv X pins σ H { s with heap:=h' }:=I.turned (t':=s.toks) (fun b o hb e=>(sb.2 b hb).trans e) f0 f1 f3 f4 f5
  obtain⟨o,e,c,d⟩:=id st'
  exact⟨u,rfl,zL2 (s:={ s with heap:=h' }) e c d (by decide) ⟨x,H,I1,ru,⟨rfl,fun ys hy=>by rw[I.tuple_inj hy hq];exact hx⟩,st',fun b hb=>(hf b hb).1⟩⟩
 done:=by
  intro X hP hw hK hc i pins s σ H E I hf st hg
  subst hP hw hK
  obtain⟨xs,hq,hx⟩:=hg
  obtain⟨its,rv,p,hz⟩:=I.tuple hq
  obtain⟨f0,f1,f2,f3,f4,f5⟩:=hf it (by simp)
  have hl:=rv.length
  exact wpAny_pyNext_tuple_end (I.ok.hd hc) st (show s.heap.IsTuple a its.toArray from p) (by simp;omega) fun h' eb=>⟨rfl,I.turned (t':=s.toks) (fun b o hb e=>eb b o hb e) f0 f1 f3 f4 f5⟩
 self:=fun _ _ _ _ _ st h=>wpAny_pyIter_tupleiter st h
theorem zGx {P:Program}(it:Addr)(lo:Int)(n:Nat):Turn P w K tg (Itr lo n) [it] it (fun i h=>IsRangeIter h it (lo+(i:Nat)*1) ((n:Int)-(i:Nat)) 1) where
 mem:=by simp
 obj:=fun i h st b hb=>by
  have e:b=it:=by simpa using hb
  subst e
  exact⟨_,st,fun v z=>by
   have z':Data.fields _=Data.cell v:=z
   cases z'⟩
 keep:=fun i h h' st k=>k it (by simp) _ st
 item:=by
  intro X hP hw hK hc i pins s σ H E I hf st hg
  subst hP hw hK
  obtain⟨f0,f1,f2,f3,f4,f5⟩:=hf it (by simp)
  have W:=Walks.range (prog:=X.prog) (w:=X.w) (I.ok.hd hc) it lo 1 n
  refine W.item i s _ _ hg st fun v h' tk hv st' kk=>?_
  obtain⟨t,rfl⟩:=hv
  have I1:Inv X pins σ H { s with heap:=h',toks:=tk }:=I.turned (fun b o hb e=>kk b o (by simpa using hb) e) f0 f1 f3 f4 f5
  refine⟨_,rfl,zL2 (s:={ s with heap:=h',toks:=tk }) (n := "range_iterator") st' rfl rfl (by decide) ⟨.int (lo+i),H,I1,⟨t,?_⟩,⟨rfl,rfl⟩,st',fun b hb=>(hf b hb).1⟩⟩
  rw[Int.mul_one]
 done:=by
  intro X hP hw hK hc i pins s σ H E I hf st hg
  subst hP hw hK
  obtain⟨f0,f1,f2,f3,f4,f5⟩:=hf it (by simp)
  exact wpAny_pyNext_range_end (I.ok.hd hc) st (by have:n<=i:=hg;omega) fun h' eb=>⟨rfl,I.turned (t':=s.toks) (fun b o hb e=>eb b o hb e) f0 f1 f3 f4 f5⟩
 self:=fun _ _ _ _ _ st h=>wpAny_pyIter_rangeiter st h
variable {fp:List Addr}
section
variable {X:Cx}{tg:Expr}
noncomputable def iList (K:PySem.W.Frag)(tl:TE):TI:=fun σ H R=>tl σ H fun x H1=>∃a,x = .ref a/\(∃xs,SqL K H1 a xs)/\R (Itl K a) H1
noncomputable def iTup (K:PySem.W.Frag)(tl:TE):TI:=fun σ H R=>tl σ H fun x H1=>∃a,x = .ref a/\(∃xs,SqT K H1 a xs)/\R (Itt K a) H1
theorem zCA {l:Expr}{tl:TE}(hl:PE X l tl):PI X tg l (iList X.K tl):=by
 intro pins s σ H R I h
 refine thn (hl pins s σ H _ I h) fun v s1 ⟨x,H1,I1,r1,q1⟩=>?_
 obtain⟨a,e,⟨xs,hq⟩,q⟩:=q1
 subst e
 cases r1
 obtain⟨its,rv,p,hz⟩:=I1.list hq
 refine wpAny_pyIter_list p.isList ?_
 refine⟨s1.heap.objs.size,[s1.heap.objs.size],_,_,H1,rfl,I1.kept (t':=s1.toks) fun b o e=>zH _ e,zHb a _,⟨_,zS _ rfl,rfl,rfl⟩,fun b hb=>?_,q⟩
 have e:b=s1.heap.objs.size:=by simpa using hb
 subst e
 exact I1.fpOk (zK _) (I1.hok.fresh (zK _))
theorem zB5 {l:Expr}{tl:TE}(hl:PE X l tl):PI X tg l (iTup X.K tl):=by
 intro pins s σ H R I h
 refine thn (hl pins s σ H _ I h) fun v s1 ⟨x,H1,I1,r1,q1⟩=>?_
 obtain⟨a,e,⟨xs,hq⟩,q⟩:=q1
 subst e
 cases r1
 obtain⟨its,rv,p,hz⟩:=I1.tuple hq
 refine wpAny_pyIter_tuple (show s1.heap.IsTuple a its.toArray from p) ?_
 refine⟨s1.heap.objs.size,[s1.heap.objs.size],_,_,H1,rfl,I1.kept (t':=s1.toks) fun b o e=>zH _ e,zGw a _,⟨_,zS _ rfl,rfl,rfl⟩,fun b hb=>?_,q⟩
 have e:b=s1.heap.objs.size:=by simpa using hb
 subst e
 exact I1.fpOk (zK _) (I1.hok.fresh (zK _))
theorem zGU {pins:lPO}{R:It->Hp->Prop}{E:vSP}{lo hi:Int}{t u v:Tok}{tk:Nat}(I:Inv X pins σ H s)(h1 : -(2 ^ 62)<=lo)(h2:lo<2 ^ 62)(h3 : -(2 ^ 62)<=hi)(h4:hi<2 ^ 62)
 (q:R (Itr lo (hi-lo).toNat) H):wpAny (model X.prog X.w) X.A (pyIter (.ref s.heap.objs.size)) (PIE X pins σ tg R) E { s with heap:=s.heap.push { cls:=.type "range",data:=.fields #[.int lo t,.int hi u,.int 1 v] },toks:=tk }:=by
 refine wpAny_pyIter_range (IsRange.new ..) (small_one h1 h2 h3 h4) ?_
 have I1:Inv X pins σ H { s with heap:=s.heap.push { cls:=.type "range",data:=.fields #[.int lo t,.int hi u,.int 1 v] },toks:=tk }:=I.kept fun b o e=>zH _ e
 refine⟨(s.heap.push { cls:=.type "range",data:=.fields #[.int lo t,.int hi u,.int 1 v] }).objs.size,[(s.heap.push { cls:=.type "range",data:=.fields #[.int lo t,.int hi u,.int 1 v] }).objs.size],_,_,H,rfl,
  I1.kept (t':=tk) fun b o e=>zH _ e,zGx _ lo (hi-lo).toNat,?_,fun b hb=>?_,q⟩
 . have e1:lo+((0:Nat):Int)*1=lo:=by simp
   have e2:(((hi-lo).toNat:Nat):Int)-((0:Nat):Int)=Builtin.Range.rangeSize lo hi 1:=by rw[rangeSize_one];split <;> omega
   show IsRangeIter _ _ (lo+((0:Nat):Int)*1) ((((hi-lo).toNat:Nat):Int)-((0:Nat):Int)) 1
   rw[e1,e2]
   exact zS _ rfl
 . have e:b=(s.heap.push { cls:=.type "range",data:=.fields #[.int lo t,.int hi u,.int 1 v] }).objs.size:=by simpa using hb
   subst e
   exact I1.fpOk (zK _) (I1.hok.fresh (zK _))
noncomputable def iRng1 (ta:TA):TI:=fun σ H R=>ta σ H fun vs H1=>∃j:Int,vs=[.int j] /\ -(2 ^ 62)<=j/\j<2 ^ 62/\R (Itr 0 j.toNat) H1
noncomputable def iRng2 (ta:TA):TI:=fun σ H R=>ta σ H fun vs H1=>∃i j:Int,vs=[.int i,.int j]/\(-(2 ^ 62)<=i/\i<2 ^ 62 /\ -(2 ^ 62)<=j/\j<2 ^ 62)/\R (Itr i (j-i).toNat) H1
theorem zAm {a:Expr}{ta:TA}{p:Pos}(hg:Gl X "range") (hm:X.mg "range" = none) (ha:PA X [a] ta)(hs:starEach [a] X.env=[(false,eval a X.env)]:=by rfl):PI X tg (.Call (.Name "range" p) [a] [] pos) (iRng1 ta):=by
 intro pins s σ H R I h
 refine Call_ (zCm I hg hm boot_range (PyProof.Rows.callWith_type1 (thn (ha pos pins s σ H _ I h) fun us s1 ⟨vs,H1,I1,r1,q1⟩=>?_) hs rfl))
 obtain⟨j,e,q1,q2,q⟩:=q1
 subst e
 cases r1 with
 | cons r rr=>
  cases rr
  obtain⟨t,rfl⟩:=r
  exact call_range_1 (zGU I1 (by omega) (by omega) q1 q2 (by simpa using q))
theorem zFP {a b:Expr}{ta:TA}{p pos:Pos}(hg:Gl X "range") (hm:X.mg "range" = none) (ha:PA X [a,b] ta)(hs:starEach [a,b] X.env=[(false,eval a X.env),(false,eval b X.env)]:=by rfl)(hs2:starEach [b] X.env=[(false,eval b X.env)]:=by rfl) :
 PI X tg (.Call (.Name "range" p) [a,b] [] pos) (iRng2 ta):=by
 intro pins s σ H R I h
 refine Call_ (zCm I hg hm boot_range (PyProof.Rows.callWith_type1 (thn (ha pos pins s σ H _ I h) fun us s1 ⟨vs,H1,I1,r1,q1⟩=>?_) (by rw[hs,hs2]) (by rw[hs2];rfl)))
 obtain⟨i,j,e,⟨q1,q2,q3,q4⟩,q⟩:=q1
 subst e
 cases r1 with
 | cons r rr=>
  cases rr with
  | cons r' rr=>
   cases rr
   obtain⟨t,rfl⟩:=r
   obtain⟨t',rfl⟩:=r'
   exact call_range_2 (zGU I1 q1 q2 q3 q4 q)
noncomputable def tFor (wi:TI)(g:TG)(tb:TS):TS:=fun D σ H=>wi σ H fun J H1=>∃W:Nat->Nat->St->Hp->Prop,(∃m,W 0 m σ H1)/\∀i m σ H,W i m σ H ->
 (J.stop i H/\D.nx σ H)\/(J.go i H/\∃N:St->Hp->Prop,(∀ σ' H',N σ' H'->∃m',m'<m/\W (i+1) m' σ' H')/\∀x H',J.yld i H x H'->g x σ H' fun σ2 H2=>tb { D with nx:=N,ct:=N,bk:=D.nx } σ2 H2)
noncomputable def zET (fp:List Addr)(h:Heap):List (Addr×Obj):=fp.filterMap fun b=>(h.get? b).map fun o=>(b,o)
theorem zB9 (hb:b∈fp)(e:h.get? b=some o):(b,o)∈zET fp h:=zAw.mpr ⟨b,hb,by rw[e];rfl⟩
theorem zIT {p:Addr×Obj}(hp:p∈zET fp h):p.1∈fp/\h.get? p.1=some p.2:=by
 obtain⟨b,hb,e⟩:=zAw.mp hp
 cases q:h.get? b with
 | none=>rw[q] at e;cases e
 | some o=>
  rw[q] at e
  have e':(b,o)=p:=zR e
  subst e'
  exact⟨hb,q⟩
theorem Inv.pinned {pins:lPO}(I:Inv X pins σ H s)(hf:∀b∈fp,zGG X pins H b)(ho:∀b∈fp,∃o,s.heap.get? b=some o/\∀v,o.data ≠ .cell v):Inv X (pins++zET fp s.heap) σ H s:=
 I.pins_of fun p hp=>(zp.mp hp).elim (fun z=>I.pin p (zg _ z)) fun z=>by
  obtain⟨hb,e⟩:=zIT z
  obtain⟨f0,f1,f2,_⟩:=hf p.1 hb
  obtain⟨o,e',d⟩:=ho p.1 hb
  rw[e] at e';cases e'
  exact⟨e,f0,f1,f2,d⟩
theorem Inv.unpinned {pins pl:lPO}(I:Inv X (pins++pl) σ H s):Inv X pins σ H s:=I.pins_of fun p hp=>I.pin p (zg _ (zAO _ hp))
theorem zBb {iter:Expr}{wi:TI}{g:TG}(hp:PassesOwn (model X.prog X.w) X.A X.env X.xe)(hc:X.calm=true)(hi:PI X tg iter wi)(hg:PG X tg g)(hb:PSs X body tb)
 (hs:∀x,foldedSetIterable iter X.env x=pure x:=by intro _;rfl):PS X (.For tg iter body [] pos) (tFor wi g tb):=by
 intro pins s σ H D I h
 refine wpAny_For (thn (hi pins s σ H _ I h) fun v s1 h1=>thn h1 fun itv s2 h2=>?_) hs
 obtain⟨it,fp,tn,J,H2,e,I2,T,st2,f2,W,⟨m0,w0⟩,turn⟩:=h2
 subst e
 have stat:∀{H':Hp},(∀b∈fp,H' b=none)->∀b∈fp,zGG X pins H' b:=fun hn b hb=>⟨hn b hb,(f2 b hb).2⟩
 refine codeAny_forLoop_any (fun n s'=>∃i σ' H',Inv X pins σ' H' s'/\tn i s'.heap/\(∀b∈fp,H' b=none)/\W i n σ' H') ?_ m0 ⟨0,σ,H2,I2,st2,fun b hb=>(f2 b hb).1,w0⟩
 rintro n s3 ⟨i,σ3,H3,I3,st3,fr3,w3⟩
 rcases turn i n σ3 H3 w3 with ⟨stop,qn⟩ | ⟨go,N,hN,step⟩
 . refine wpAny_passesOwn hp (thn (T.done X rfl rfl rfl hc i pins s3 σ3 H3 X.xe I3 (stat fr3) st3 stop) fun r s4 ⟨hr,I4⟩=>?_)
   subst hr
   exact wpAny_execs_nil ⟨σ3,H3,I4,qn⟩
 . refine wpAny_passesOwn hp (thn (T.item X rfl rfl rfl hc i pins s3 σ3 H3 X.xe I3 (stat fr3) st3 go) fun r s4 ⟨u,hr,h4⟩=>?_)
   subst hr
   refine wpAny_passesOwn hp (thn h4 fun _ s5 ⟨x,H5,I5,r5,y5,st5,fr5⟩=>?_)
   have I5':=I5.pinned (stat fr5) (T.obj _ _ st5)
   refine wpAny_passesOwn hp (thn (hg _ s5 σ3 H5 x u _ I5' r5 (step x H5 y5)) fun _ s6 ⟨σ6,H6,I6,q6⟩=>?_)
   refine wpAny_passesOwn hp (thn (hb _ s6 σ6 H6 _ I6 q6) fun f s7 q7=>?_)
   have again:∀{σ7:St}{H7:Hp},Inv X (pins++zET fp s5.heap) σ7 H7 s7->N σ7 H7->∃m,m<n/\∃i σ' H',Inv X pins σ' H' s7/\tn i s7.heap/\(∀b∈fp,H' b=none)/\W i m σ' H':=fun {σ7 H7} I7 n7=>by
    obtain⟨m',hm,w7⟩:=hN σ7 H7 n7
    refine⟨m',hm,i+1,σ7,H7,I7.unpinned,T.keep _ _ _ st5 fun b hb o e=>(I7.pin (b,o) (zg _ (zg _ (zB9 hb e)))).1,fun b hb=>?_,w7⟩
    obtain⟨o,e,d⟩:=T.obj _ _ st5 b hb
    exact (I7.pin (b,o) (zg _ (zg _ (zB9 hb e)))).2.1
   cases f with
   | next=>obtain⟨σ7,H7,I7,n7⟩:=q7;exact again I7 n7
   | cont=>obtain⟨σ7,H7,I7,n7⟩:=q7;exact again I7 n7
   | brk=>obtain⟨σ7,H7,I7,q7⟩:=q7;exact⟨σ7,H7,I7.unpinned,q7⟩
   | ret v=>obtain⟨x7,σ7,H7,I7,r7,q7⟩:=q7;exact⟨x7,σ7,H7,I7.unpinned,r7,q7⟩
end
variable {D:zKr}
theorem zC5 {xs:List V}{g:TG}(Pv:Nat->St->Hp->Prop)(h0:Pv 0 σ H)(hl:∀i σ H,i<=xs.length->Pv i σ H->SqL K H a xs)
 (hs:∀i x σ H,xs[i]? = some x->Pv i σ H->g x σ H fun σ2 H2=>tb { D with nx:=Pv (i+1),ct:=Pv (i+1),bk:=D.nx } σ2 H2)(hd:∀ σ H,Pv xs.length σ H->D.nx σ H) :
 ∃W:Nat->Nat->St->Hp->Prop,(∃m,W 0 m σ H)/\∀i m σ H,W i m σ H ->
  ((Itl K a).stop i H/\D.nx σ H)\/((Itl K a).go i H/\∃N:St->Hp->Prop,(∀ σ' H',N σ' H'->∃m',m'<m/\W (i+1) m' σ' H')/\∀x H',(Itl K a).yld i H x H'->g x σ H' fun σ2 H2=>tb { D with nx:=N,ct:=N,bk:=D.nx } σ2 H2):=by
 refine⟨fun i m σ H=>m=xs.length-i/\i<=xs.length/\Pv i σ H,⟨xs.length,by simp,zh _,h0⟩,?_⟩
 rintro i m σ H ⟨rfl,hi,p⟩
 have q:=hl i σ H hi p
 by_cases hlt:i<xs.length
 . refine .inr ⟨⟨xs,xs[i],q,by simp[hlt]⟩,Pv (i+1),fun σ' H' p'=>⟨xs.length-(i+1),by omega,rfl,hlt,p'⟩,fun x H' y=>?_⟩
   obtain⟨e,y⟩:=y
   subst e
   exact hs i x σ _ (y xs q) p
 . have e:i=xs.length:=by omega
   subst e
   exact .inl ⟨⟨xs,q,zK _⟩,hd σ H p⟩
theorem zDu {xs:List V}{g:TG}(Pv:Nat->St->Hp->Prop)(h0:Pv 0 σ H)(hl:∀i σ H,i<=xs.length->Pv i σ H->SqT K H a xs)
 (hs:∀i x σ H,xs[i]? = some x->Pv i σ H->g x σ H fun σ2 H2=>tb { D with nx:=Pv (i+1),ct:=Pv (i+1),bk:=D.nx } σ2 H2)(hd:∀ σ H,Pv xs.length σ H->D.nx σ H) :
 ∃W:Nat->Nat->St->Hp->Prop,(∃m,W 0 m σ H)/\∀i m σ H,W i m σ H ->
  ((Itt K a).stop i H/\D.nx σ H)\/((Itt K a).go i H/\∃N:St->Hp->Prop,(∀ σ' H',N σ' H'->∃m',m'<m/\W (i+1) m' σ' H')/\∀x H',(Itt K a).yld i H x H'->g x σ H' fun σ2 H2=>tb { D with nx:=N,ct:=N,bk:=D.nx } σ2 H2):=by
 refine⟨fun i m σ H=>m=xs.length-i/\i<=xs.length/\Pv i σ H,⟨xs.length,by simp,zh _,h0⟩,?_⟩
 rintro i m σ H ⟨rfl,hi,p⟩
 have q:=hl i σ H hi p
 by_cases hlt:i<xs.length
 . refine .inr ⟨⟨xs,xs[i],q,by simp[hlt]⟩,Pv (i+1),fun σ' H' p'=>⟨xs.length-(i+1),by omega,rfl,hlt,p'⟩,fun x H' y=>?_⟩
   obtain⟨e,y⟩:=y
   subst e
   exact hs i x σ _ (y xs q) p
 . have e:i=xs.length:=by omega
   subst e
   exact .inl ⟨⟨xs,q,zK _⟩,hd σ H p⟩
theorem zBm {lo:Int}{g:TG}(Pv:Nat->St->Hp->Prop)(h0:Pv 0 σ H)
 (hs:∀i σ H,i<n->Pv i σ H->g (.int (lo+i)) σ H fun σ2 H2=>tb { D with nx:=Pv (i+1),ct:=Pv (i+1),bk:=D.nx } σ2 H2)(hd:∀ σ H,Pv n σ H->D.nx σ H) :
 ∃W:Nat->Nat->St->Hp->Prop,(∃m,W 0 m σ H)/\∀i m σ H,W i m σ H ->
  ((Itr lo n).stop i H/\D.nx σ H)\/((Itr lo n).go i H/\∃N:St->Hp->Prop,(∀ σ' H',N σ' H'->∃m',m'<m/\W (i+1) m' σ' H')/\∀x H',(Itr lo n).yld i H x H'->g x σ H' fun σ2 H2=>tb { D with nx:=N,ct:=N,bk:=D.nx } σ2 H2):=by
 refine⟨fun i m σ H=>m=n-i/\i<=n/\Pv i σ H,⟨n,by simp,zh _,h0⟩,?_⟩
 rintro i m σ H ⟨rfl,hi,p⟩
 by_cases hlt:i<n
 . refine .inr ⟨hlt,Pv (i+1),fun σ' H' p'=>⟨n-(i+1),by omega,rfl,hlt,p'⟩,fun x H' y=>?_⟩
   obtain⟨e,y⟩:=y
   subst e y
   exact hs i σ _ hlt p
 . have e:i=n:=by omega
   subst e
   exact .inl ⟨zK _,hd σ H p⟩
noncomputable abbrev R2:=V->V->Hp->VK->Prop
noncomputable def OpR (X:Cx)(f:Value->Value->Sem Value)(r:R2):Prop:=
 ∀(pins:lPO)(s:Shared)(σ:St)(H:Hp)(x y:V)(v u:Value)(Q:VK),Inv X pins σ H s->zBH x v->zBH y u->r x y H Q ->
  wpAny (model X.prog X.w) X.A (f v u) (EP X pins σ Q) X.xe s
noncomputable def zCl (X:Cx)(f:Value)(r:List V->Hp->VK->Prop):Prop:=
 ∀(pins:lPO)(s:Shared)(σ:St)(H:Hp)(xs:List V)(us:List Value)(Q:VK),Inv X pins σ H s->zA8 xs us->r xs H Q ->
  wpAny (model X.prog X.w) X.A (call f us) (EP X pins σ Q) X.xe s
noncomputable def TruR (X:Cx)(r:V->Hp->(Bool->Hp->Prop)->Prop):Prop:=
 ∀(pins:lPO)(s:Shared)(σ:St)(H:Hp)(x:V)(v:Value)(Q:Bool->Hp->Prop),Inv X pins σ H s->zBH x v->r x H Q ->
  wpAny (model X.prog X.w) X.A (truthy v) (TP X pins σ Q) X.xe s
noncomputable def tOp (r:R2)(ta tb:TE):TE:=fun σ H Q=>ta σ H fun x H1=>tb σ H1 fun y H2=>r x y H2 Q
noncomputable def rI (C:Int->Int->Prop)(g:Int->Int->V):R2:=fun x y H Q=>∃i j,x = .int i/\y = .int j/\C i j/\Q (g i j) H
noncomputable def rI0 (g:Int->Int->V):R2:=fun x y H Q=>∃i j,x = .int i/\y = .int j/\Q (g i j) H
variable {f:Value->Value->Sem Value}
section
variable {X:Cx}{a b c:Expr}{ta tb tc:TE}{pos:Pos}
theorem binT (ha:PE X a ta)(hb:PE X b tb){pins:lPO}{R:V->V->Hp->Prop}(I:Inv X pins σ H s)
 (h:ta σ H fun x H1=>tb σ H1 fun y H2=>R x y H2){Q:vSP}
 (hf:∀v u s2 x y H2,Inv X pins σ H2 s2->zBH x v->zBH y u->R x y H2->wpAny (model X.prog X.w) X.A (f v u) Q X.xe s2) :
 wpAny (model X.prog X.w) X.A (eval a X.env) (fun v s₁=>wpAny (model X.prog X.w) X.A (eval b X.env) (fun u s₂=>wpAny (model X.prog X.w) X.A (f v u) Q X.xe s₂) X.xe s₁) X.xe s:=by
 refine thn (ha pins s σ H _ I h) fun v s1 ⟨x,H1,I1,r1,q1⟩=>?_
 refine thn (hb pins s1 σ H1 _ I1 q1) fun u s2 ⟨y,H2,I2,r2,q2⟩=>?_
 exact hf v u s2 x y H2 I2 r1 r2 q2
theorem zA6 {op:Operator}{r:R2}(ho:OpR X (binaryOp op) r)(ha:PE X a ta)(hb:PE X b tb):PE X (.BinOp a op b pos) (tOp r ta tb):=by
 intro pins s σ H Q I h
 exact wpAny_BinOp (binT ha hb I h fun v u s2 x y H2 I2 rx ry q=>ho pins s2 σ H2 x y v u Q I2 rx ry q)
theorem opI {C:Int->Int->Prop}{g:Int->Int->Int}
 (rule:∀(i j:Int)(t u:Tok)(s:Shared)(Q:vSP)(E:vSP),C i j->Q (.int (g i j) s.toks) { s with toks:=s.toks+1 }->wpAny (model X.prog X.w) X.A (f (.int i t) (.int j u)) Q E s) :
 OpR X f (rI C fun i j=>.int (g i j)):=by
 intro pins s σ H x y v u Q I rx ry h
 obtain⟨i,j,rfl,rfl,hc,q⟩:=h
 obtain⟨t,rfl⟩:=rx
 obtain⟨t',rfl⟩:=ry
 exact rule i j t t' s _ _ hc ⟨.int (g i j),H,I.tok _,⟨_,rfl⟩,q⟩
theorem opI0 {g:Int->Int->Int}
 (rule:∀(i j:Int)(t u:Tok)(s:Shared)(Q:vSP)(E:vSP),Q (.int (g i j) s.toks) { s with toks:=s.toks+1 }->wpAny (model X.prog X.w) X.A (f (.int i t) (.int j u)) Q E s) :
 OpR X f (rI0 fun i j=>.int (g i j)):=by
 intro pins s σ H x y v u Q I rx ry h
 obtain⟨i,j,rfl,rfl,q⟩:=h
 obtain⟨t,rfl⟩:=rx
 obtain⟨t',rfl⟩:=ry
 exact rule i j t t' s _ _ ⟨.int (g i j),H,I.tok _,⟨_,rfl⟩,q⟩
theorem opB0 {g:Int->Int->Bool}
 (rule:∀(i j:Int)(t u:Tok)(s:Shared)(Q:vSP)(E:vSP),Q (.bool (g i j)) s->wpAny (model X.prog X.w) X.A (f (.int i t) (.int j u)) Q E s) :
 OpR X f (rI0 fun i j=>.bl (g i j)):=by
 intro pins s σ H x y v u Q I rx ry h
 obtain⟨i,j,rfl,rfl,q⟩:=h
 obtain⟨t,rfl⟩:=rx
 obtain⟨t',rfl⟩:=ry
 exact rule i j t t' s _ _ ⟨.bl (g i j),H,I,rfl,q⟩
noncomputable def CDiv (i j:Int):Prop:=0<j/\j<1073741824
noncomputable def CPow (i j:Int):Prop:=0<=j/\j<=1000000/\i.natAbs<2 ^ 64
noncomputable def CMul (i j:Int):Prop:=(-(2 ^ 64)<i/\i<2 ^ 64)\/(-(2 ^ 64)<j/\j<2 ^ 64)
theorem CMul.ok {i j:Int}(h:CMul i j):IntMulOk i j:=by
 rcases h with ⟨h1,h2⟩ | ⟨h1,h2⟩
 . exact .of_left (intBits_le_64 h1 h2)
 . exact .of_right (intBits_le_64 h1 h2)
theorem zB6:OpR X (binaryOp .Add) (rI0 fun i j=>.int (i+j)):=opI0 fun _ _ _ _ _ _ _ q=>add_int q
theorem zDi:OpR X (binaryOp .Sub) (rI0 fun i j=>.int (i-j)):=opI0 fun _ _ _ _ _ _ _ q=>sub_int q
theorem zEV:OpR X (binaryOp .Mult) (rI CMul fun i j=>.int (i*j)):=opI fun _ _ _ _ _ _ _ hc q=>mul_int q hc.ok
theorem zEv:OpR X (binaryOp .FloorDiv) (rI CDiv fun i j=>.int (i/j)):=opI fun i j _ _ _ _ _ hc q=>by
 have h1:(0:Int)<j:=hc.1
 have h2:j<1073741824:=hc.2
 exact floordiv_int (by omega) (by rw[Int.fdiv_eq_ediv_of_nonneg i (by omega)];exact q) (.inl (PyProof.noPylong_small (by omega)))
theorem zDj:OpR X (binaryOp .Mod) (rI (fun _ j=>0<j) fun i j=>.int (i%j)):=opI fun i j _ _ _ _ _ hc q=>by
 have h1:(0:Int)<j:=hc
 exact mod_int' (by omega) (by rw[Int.fmod_eq_emod_of_nonneg i (by omega)];exact q)
theorem op_pow:OpR X (binaryOp .Pow) (rI CPow fun i j=>.int (i ^ j.toNat)):=opI fun _ _ _ _ _ _ _ hc q=>pow_int_small hc.1 hc.2.1 hc.2.2 q
end
noncomputable def scal:V->V->Bool
 | .non,.non=>true | .non,.int _=>true | .int _,.non=>true | .non,.bl _=>true | .bl _,.non=>true | .non,.str _=>true | .str _,.non=>true
 | .int _,.int _=>true | .bl _,.bl _=>true | .str _,.str _=>true | .byt _,.byt _=>true
 | .int _,.str _=>true | .str _,.int _=>true | .bl _,.str _=>true | .str _,.bl _=>true
 | _,_=>false
noncomputable def rEq:R2:=fun x y H Q=>scal x y=true/\Q (.bl (decide (x=y))) H
noncomputable def rNe:R2:=fun x y H Q=>scal x y=true/\Q (.bl (!decide (x=y))) H
theorem zIx {i j:Int}:decide (V.int i=V.int j)=(i==j):=by
 rw[Bool.eq_iff_iff]
 simp
theorem zKn {i j:Bool}:decide (V.bl i=V.bl j)=(i==j):=by
 rw[Bool.eq_iff_iff]
 simp
theorem zIw {i j:Str}:decide (V.str i=V.str j)=(i==j):=by
 rw[Bool.eq_iff_iff]
 simp
theorem zIy {i j:Array UInt8}:decide (V.byt i=V.byt j)=(i.toList==j.toList):=by
 rw[Bool.eq_iff_iff]
 cases i
 cases j
 simp
section
variable {X:Cx}{a b c:Expr}{ta tb tc:TE}{pos:Pos}
theorem zAz {pins:lPO}{Q:VK}{k k':Bool}(I:Inv X pins σ H s)(q:Q (.bl k) H)(e:k=k'):EP X pins σ Q (.bool k') s:=by
 subst e
 exact⟨.bl k,H,I,rfl,q⟩
theorem zCD:OpR X (compareOp .Eq) rEq:=by
 intro pins s σ H x y v u Q I rx ry h
 obtain⟨hs,q⟩:=h
 cases x with
 | non=>
  cases rx
  cases y with
  | non=>cases ry;exact PySem.EqNone.eq_none_none (zAz I q (by simp))
  | bl j=>cases ry;exact PySem.EqNone.eq_none_bool (zAz I q (by simp))
  | int j=>obtain⟨t',rfl⟩:=ry;exact PySem.EqNone.eq_none_int (zAz I q (by simp))
  | str j=>obtain⟨t',rfl⟩:=ry;exact PySem.EqNone.eq_none_str (zAz I q (by simp))
  | _=>exact absurd (show false=true from hs) zb
 | bl i=>
  cases rx
  cases y with
  | non=>cases ry;exact PySem.EqNone.eq_bool_none (zAz I q (by simp))
  | bl j=>cases ry;exact eq_bool (zAz I q zKn)
  | str j=>obtain⟨t',rfl⟩:=ry;exact PySem.EqMixed.eq_bool_str (zAz I q (by simp))
  | _=>exact absurd (show false=true from hs) zb
 | int i=>
  obtain⟨t,rfl⟩:=rx
  cases y with
  | non=>cases ry;exact PySem.EqNone.eq_int_none (zAz I q (by simp))
  | int j=>obtain⟨t',rfl⟩:=ry;exact eq_int (zAz I q zIx)
  | str j=>obtain⟨t',rfl⟩:=ry;exact PySem.EqMixed.eq_int_str (zAz I q (by simp))
  | _=>exact absurd (show false=true from hs) zb
 | str i=>
  obtain⟨t,rfl⟩:=rx
  cases y with
  | non=>cases ry;exact PySem.EqNone.eq_str_none (zAz I q (by simp))
  | bl j=>cases ry;exact PySem.EqMixed.eq_str_bool (zAz I q (by simp))
  | int j=>obtain⟨t',rfl⟩:=ry;exact PySem.EqMixed.eq_str_int (zAz I q (by simp))
  | str j=>obtain⟨t',rfl⟩:=ry;exact eq_str (zAz I q zIw)
  | _=>exact absurd (show false=true from hs) zb
 | byt i=>
  obtain⟨t,rfl⟩:=rx
  cases y with
  | byt j=>obtain⟨t',rfl⟩:=ry;exact PySem.W.eq_bytes (zAz I q zIy)
  | _=>exact absurd (show false=true from hs) zb
 | _=>cases y <;> exact absurd (show false=true from hs) zb
theorem zFx:OpR X (compareOp .NotEq) rNe:=by
 intro pins s σ H x y v u Q I rx ry h
 obtain⟨hs,q⟩:=h
 cases x with
 | non=>
  cases rx
  cases y with
  | non=>cases ry;exact PySem.EqNone.ne_none_none (zAz I q (by simp))
  | bl j=>cases ry;exact PySem.EqNone.ne_none_bool (zAz I q (by simp))
  | int j=>obtain⟨t',rfl⟩:=ry;exact PySem.EqNone.ne_none_int (zAz I q (by simp))
  | str j=>obtain⟨t',rfl⟩:=ry;exact PySem.EqNone.ne_none_str (zAz I q (by simp))
  | _=>exact absurd (show false=true from hs) zb
 | bl i=>
  cases rx
  cases y with
  | non=>cases ry;exact PySem.EqNone.ne_bool_none (zAz I q (by simp))
  | bl j=>cases ry;exact ne_bool (zAz I q (congrArg not zKn))
  | str j=>obtain⟨t',rfl⟩:=ry;exact PySem.EqMixed.ne_bool_str (zAz I q (by simp))
  | _=>exact absurd (show false=true from hs) zb
 | int i=>
  obtain⟨t,rfl⟩:=rx
  cases y with
  | non=>cases ry;exact PySem.EqNone.ne_int_none (zAz I q (by simp))
  | int j=>obtain⟨t',rfl⟩:=ry;exact ne_int (zAz I q (congrArg not zIx))
  | str j=>obtain⟨t',rfl⟩:=ry;exact PySem.EqMixed.ne_int_str (zAz I q (by simp))
  | _=>exact absurd (show false=true from hs) zb
 | str i=>
  obtain⟨t,rfl⟩:=rx
  cases y with
  | non=>cases ry;exact PySem.EqNone.ne_str_none (zAz I q (by simp))
  | bl j=>cases ry;exact PySem.EqMixed.ne_str_bool (zAz I q (by simp))
  | int j=>obtain⟨t',rfl⟩:=ry;exact PySem.EqMixed.ne_str_int (zAz I q (by simp))
  | str j=>obtain⟨t',rfl⟩:=ry;exact ne_str (zAz I q (congrArg not zIw))
  | _=>exact absurd (show false=true from hs) zb
 | byt i=>
  obtain⟨t,rfl⟩:=rx
  cases y with
  | byt j=>obtain⟨t',rfl⟩:=ry;exact PySem.W.ne_bytes (zAz I q (congrArg not zIy))
  | _=>exact absurd (show false=true from hs) zb
 | _=>cases y <;> exact absurd (show false=true from hs) zb
theorem zJs:OpR X (compareOp .Lt) (rI0 fun i j=>.bl (decide (i<j))):=opB0 fun _ _ _ _ _ _ _ q=>lt_int q
theorem zLZ:OpR X (compareOp .LtE) (rI0 fun i j=>.bl (decide (i<=j))):=opB0 fun _ _ _ _ _ _ _ q=>le_int q
theorem zFy:OpR X (compareOp .Gt) (rI0 fun i j=>.bl (decide (j<i))):=opB0 fun _ _ _ _ _ _ _ q=>gt_int q
theorem op_ge:OpR X (compareOp .GtE) (rI0 fun i j=>.bl (decide (j<=i))):=opB0 fun _ _ _ _ _ _ _ q=>ge_int q
theorem zBk:OpR X (compareOp .Is) (fun x y H Q=>y = .non/\Q (.bl (decide (x = .non))) H):=by
 intro pins s σ H x y v u Q I rx ry h
 obtain⟨rfl,q⟩:=h
 cases ry
 refine is_none_gen (zAz I q ?_)
 cases x <;> first
  | (cases rx;rfl)
  | (obtain⟨t,rfl⟩:=rx;rfl)
theorem zDH:OpR X (compareOp .IsNot) (fun x y H Q=>y = .non/\Q (.bl (!decide (x = .non))) H):=by
 intro pins s σ H x y v u Q I rx ry h
 obtain⟨rfl,q⟩:=h
 cases ry
 refine isnot_none_gen (zAz I q ?_)
 cases x <;> first
  | (cases rx;rfl)
  | (obtain⟨t,rfl⟩:=rx;rfl)
theorem zAC (b:Expr)(h:op ≠ .In:=by decide)(h2:op ≠ .NotIn:=by decide):behindInMarks op b=false:=by
 have e1:(op==CmpOp.In)=false:=by cases op <;> first | rfl | exact absurd rfl h
 have e2:(op==CmpOp.NotIn)=false:=by cases op <;> first | rfl | exact absurd rfl h2
 cases b <;> simp[behindInMarks,e1,e2]
theorem zBR {r:R2}(ho:OpR X (compareOp op) r)(ha:PE X a ta)(hb:PE X b tb)(hm:behindInMarks op b=false):PE X (.Compare a [op] [b] pos) (tOp r ta tb):=by
 intro pins s σ H Q I h
 exact wpAny_Compare1 (binT ha hb I h fun v u s2 x y H2 I2 rx ry q=>ho pins s2 σ H2 x y v u Q I2 rx ry q) hm
noncomputable def tTest (t:TE):TT:=fun σ H Q=>t σ H fun x H'=>∃k,x = .bl k/\Q k H'
theorem zy {r:R2}(ho:OpR X (compareOp op) r)(ha:PE X a ta)(hb:PE X b tb)(hm:behindInMarks op b=false):PT X (.Compare a [op] [b] pos) (tTest (tOp r ta tb)):=by
 intro pins s σ H Q I h
 refine wpAny_isTrue_Compare1 (thn (ha pins s σ H _ I h) fun v s1 ⟨x,H1,I1,r1,q1⟩=>thn (hb pins s1 σ H1 _ I1 q1) fun u s2 ⟨y,H2,I2,r2,q2⟩=>
  thn (ho pins s2 σ H2 x y v u _ I2 r1 r2 q2) fun c s3 ⟨z,H3,I3,r3,k,e,q3⟩=>?_) hm
 subst e
 cases r3
 exact zA4 ⟨H3,I3,q3⟩
noncomputable def TruV (K:PySem.W.Frag)(x:V)(H:Hp)(k:Bool):Prop:=
 match x with
 | .non=>k=false
 | .bl b=>k=b
 | .int i=>k=(i != 0)
 | .str y=>y.length<=sizeLine/\k=((y.length:Int) != 0)
 | .byt y=>y.size<=sizeLine/\k=((y.size:Int) != 0)
 | .ref p=>(∃xs,SqL K H p xs/\k = !xs.isEmpty)\/(∃xs,SqT K H p xs/\k = !xs.isEmpty)\/∃kvs,H p=some (.dK kvs)/\k = !kvs.isEmpty
 | _=>False
theorem zHH {κ:Type}{kvs:List (κ×V)}{vs:List (κ×Value)}(r:KV kvs vs):(!vs.isEmpty) = !kvs.isEmpty:=by
 cases r <;> rfl
theorem zEa {xs:List V}{its:List Value}(r:zA8 xs its):(!its.toArray.isEmpty) = !xs.isEmpty:=by
 cases r <;> simp
theorem zFU:(sizeLine:Nat)<2 ^ 63:=by rw[sizeLine_eq];decide
theorem tru_ok:TruR X (fun x H Q=>∃k,TruV X.K x H k/\Q k H):=by
 intro pins s σ H x v Q I rx h
 obtain⟨k,e,q⟩:=h
 have hl:=zFU
 have hs:sizeLine=16777216:=sizeLine_eq
 cases x with
 | non=>
  cases rx
  have e':k=false:=e
  subst e'
  exact truthy_none ⟨H,I,q⟩
 | bl b=>
  cases rx
  have e':k=b:=e
  subst e'
  exact zA4 ⟨H,I,q⟩
 | int i=>
  obtain⟨t,rfl⟩:=rx
  have e':k=(i != 0):=e
  subst e'
  exact PySem.P.truthy_int ⟨H,I,q⟩
 | str y=>
  obtain⟨t,rfl⟩:=rx
  obtain⟨hy,e'⟩:y.length<=sizeLine/\k=((y.length:Int) != 0):=e
  subst e'
  exact PySem.P.truthy_str (by omega) ⟨H,I.tok _,q⟩
 | byt y=>
  obtain⟨t,rfl⟩:=rx
  obtain⟨hy,e'⟩:y.size<=sizeLine/\k=((y.size:Int) != 0):=e
  subst e'
  exact PySem.W.truthy_bytes (by omega) ⟨H,I.tok _,q⟩
 | ref p=>
  cases rx
  have e':(∃xs,SqL X.K H p xs/\k = !xs.isEmpty)\/(∃xs,SqT X.K H p xs/\k = !xs.isEmpty)\/∃kvs,H p=some (.dK kvs)/\k = !kvs.isEmpty:=e
  rcases e' with ⟨xs,hx,e'⟩ | ⟨xs,hx,e'⟩ | ⟨kvs,hx,e'⟩
  . subst e'
    obtain⟨its,r,pl,hz⟩:=I.list hx
    have hlen:=r.length
    exact wpAny_truthy_list pl.isList (by simp only[zM];omega) ⟨H,I.tok _,by rw[zEa r];exact q⟩
  . subst e'
    obtain⟨its,r,pl,hz⟩:=I.tuple hx
    have hlen:=r.length
    exact truthy_tuple pl (by simp only[zM];omega) ⟨H,I.tok _,by rw[zEa r];exact q⟩
  . subst e'
    obtain⟨hz,hS,vs,r,m⟩:kvs.length<=sizeLine/\(p==sysModules)=false/\∃vs,KV kvs vs/\s.heap.DictOf (zAW X.prog X.w) p vs:=I.hok p _ hx
    have hlen:kvs.length=vs.length:=Paired.length r
    exact wpAny_truthy_dict hS m (by omega) ⟨H,I.tok _,by rw[zHH r];exact q⟩
 | _=>exact (show False from e).elim
theorem zJg (ha:PE X a ta)(he:∀whole,isTrue a X.env whole=(do let v <-whole;standAt a.pos;holding [v] (truthy v))) :
 PT X a (fun σ H Q=>ta σ H fun x H'=>∃k,TruV X.K x H' k/\Q k H'):=by
 intro pins s σ H Q I h
 exact isTrue_plain (thn (ha pins s σ H _ I h) fun v s1 ⟨x,H1,I1,r1,q1⟩=>tru_ok pins s1 σ H1 x v Q I1 r1 q1) (he _)
theorem zCV {x:V}(r:zA8 [x] us):∃u,us=[u]/\zBH x u:=by
 cases r with
 | cons r1 r2=>cases r2;exact⟨_,rfl,r1⟩
theorem zJN {x:V}(r:zA8 [x,y] us):∃u w',us=[u,w']/\zBH x u/\zBH y w':=by
 cases r with
 | cons r1 r2=>
  cases r2 with
  | cons r3 r4=>cases r4;exact⟨_,_,rfl,r1,r3⟩
theorem zI6 (hc:X.calm=true):zCl X (.builtin "max") (fun xs H Q=>∃i j,xs=[.int i,.int j]/\Q (.int (if j > i then j else i)) H):=by
 intro pins s σ H xs us Q I r h
 obtain⟨i,j,rfl,q⟩:=h
 obtain⟨u,w',rfl,⟨t,rfl⟩,⟨t',rfl⟩⟩:=zJN r
 refine max_two_ints (I.ok.hd hc) fun h' tk k=>⟨_,H,I.kept k,?_,q⟩
 by_cases hj:j > i
 . rw[if_pos hj,if_pos hj];exact⟨_,rfl⟩
 . rw[if_neg hj,if_neg hj];exact⟨_,rfl⟩
theorem zD5 (hc:X.calm=true):zCl X (.builtin "min") (fun xs H Q=>∃i j,xs=[.int i,.int j]/\Q (.int (if j<i then j else i)) H):=by
 intro pins s σ H xs us Q I r h
 obtain⟨i,j,rfl,q⟩:=h
 obtain⟨u,w',rfl,⟨t,rfl⟩,⟨t',rfl⟩⟩:=zJN r
 refine min_two_ints (I.ok.hd hc) fun h' tk k=>⟨_,H,I.kept k,?_,q⟩
 by_cases hj:j<i
 . rw[if_pos hj,if_pos hj];exact⟨_,rfl⟩
 . rw[if_neg hj,if_neg hj];exact⟨_,rfl⟩
theorem zI8:zCl X (.type "int") (fun xs H Q=>(∃i,xs=[.int i]/\Q (.int i) H)\/∃k,xs=[.bl k]/\Q (.int (if k then 1 else 0)) H):=by
 intro pins s σ H xs us Q I r h
 rcases h with ⟨i,rfl,q⟩ | ⟨k,rfl,q⟩
 . obtain⟨u,rfl,t,rfl⟩:=zCV r
   exact call_int_int ⟨.int i,H,I,⟨_,rfl⟩,q⟩
 . obtain⟨u,rfl,r1⟩:=zCV r
   cases r1
   exact call_int_bool ⟨.int (if k then 1 else 0),H,I.tok _,⟨_,rfl⟩,q⟩
end
structure zMH (h:Heap)(x dx C:Addr)(mA:sOV):Prop where
 obj:h.get? x=some (PySem.W.instObj C dx)
 ns:h.Ns1 dx mA
 ne:dx≠x
theorem zIe {dx:Addr}{mA:sOV}(n:h.Ns1 dx mA):∃od,h.get? dx=some od/\∀name,PySem.W.lookIn name od=some (mA name):=by
 obtain⟨o,es,ep,ho,hd,hk,_,hm⟩:=n
 refine⟨o,ho,fun name=>?_⟩
 have e:=hm name
 unfold nsFind findBy at e
 rw[<-Array.find?_toList] at e
 unfold PySem.W.lookIn
 rw[hd]
 dsimp only
 split
 . rename_i y q
   rw[q] at e
   exact congrArg some e
 . rename_i q
   rw[q] at e
   have a:es.toList.any (·.refKey)=false:=by
    rw[List.any_eq_false]
    intro y hy
    obtain⟨z,t,hkey⟩:=hk y (Array.mem_toList_iff.mp hy)
    simp[DictEntry.refKey,hkey]
   have a':¬ es.toList.any (·.refKey)=true:=by rw[a];exact zb
   rw[if_neg a']
   exact congrArg some e
variable {C:Addr}
theorem zMH.look {x dx:Addr}{mA:sOV}(I:zMH h x dx C mA):∃od,PySem.W.InstAt h x (PySem.W.instObj C dx) C (some od)/\∀name,PySem.W.lookIn name od=some (mA name):=
 let ⟨od,ho,hl⟩:=zIe I.ns
 ⟨od,⟨I.obj,rfl,rfl,ho⟩,hl⟩
variable {pl:Sem Bool}{kw:List (Str×Value)}
section
variable {prog:Program}{w:World}{A:Around}{E:vSP}{s:Shared}{K:PySem.W.Frag}{x dx C f:Addr}{mA:sOV}{name:Str}{v:Value}
theorem zL3 {expr:Bool}{Q:vSP}(X:K.In s.heap)(I:zMH s.heap x dx C mA)(hg:PySem.W.plainGet K C name=true)(hh:PySem.W.hasDictIn K C=true)
 (ha:PySem.W.findIn K (.ref C) name=some none)(hv:mA name=some v)(hv':PySem.W.handedIn v=true)(h:Q v { s with toks:=s.toks+1 }) :
 wpAny (model prog w) A (getAttr (.ref x) name expr) Q E s:=by
 obtain⟨od,J,hl⟩:=I.look
 exact PySem.W.get_value X J (PySem.W.plainGet_of hg).1 (PySem.W.findObj_own hh ha rfl (by rw[hl,hv])) hv' h
theorem zJ7 {Q:Value×List Value->Shared->Prop}(X:K.In s.heap)(I:zMH s.heap x dx C mA)(hg:PySem.W.plainGet K C name=true)
 (hf:PySem.W.findIn K (.ref C) name=some (some (.ref f)))(ht:PySem.W.isFn K (.ref f)=true)(hv:mA name=none)(h:Q (.ref f,[.ref x]) s) :
 wpAny (model prog w) A (getMethod (.ref x) name pl) Q E s:=by
 obtain⟨od,J,hl⟩:=I.look
 exact PySem.W.method_fn X J (PySem.W.plainGet_of hg).1 (PySem.W.plainGet_of hg).2 hf (beq_iff_eq.mp ht) (by show (PySem.W.lookIn name od).map (·.isSome)=some false;rw[hl,hv];rfl) h
theorem zLF {ns:List Str}(X:K.In s.heap)(I:zMH s.heap x dx C mA)
 (hs:PySem.W.findIn K (.ref C) "__setattr__" = some (some (.builtin "object.__setattr__"))) (hp:PySem.W.plainOver K C=true)(ht:PySem.W.takerIn K C name=some none)(hh:PySem.W.hasDictIn K C=true)
 (hw:PySem.Within mA ns)(hsz:ns.length<=sizeLine)
 (h:∀h',zMH h' x dx C (fun y=>if y=name then some v else mA y)->Heap.SameBut dx s.heap h'->Q () { s with heap:=h',toks:=s.toks+2 }) :
 wpAny (model prog w) A (setAttr (.ref x) name v) Q E s:=by
 obtain⟨od,J,hl⟩:=I.look
 refine PySem.W.set_plain X J hs (PySem.W.osa_open (s:={ s with toks:=s.toks+1 }) (r:=none) X J hp ht fun b=>?_)
 obtain⟨cd,hc,hd'⟩:=PySem.W.any_some hh
 have hx:s.heap.get? x=some ⟨.ref C,some dx,.plain,#[]⟩:=I.obj
 refine zA (zF (zA (zA (wpAny_loadPart hx (zA (PySem.W.Looks.here (s:={ s with toks:=s.toks+1 }) (PySem.W.looks_clsIn X hc) ?_))))))
 rw[hd']
 refine zF (a:=some dx) (zA (zF (zA ?_)))
 refine wpAny_nsSet1 (s:={ s with toks:=s.toks+1 }) I.ns fun h' hn2 hs2=>?_
 obtain⟨oD,esD,epD,hoD,hdD,hcD⟩:=hn2.count (PySem.Within.cons name v hw)
 refine zA (wpAny_lookBehind hoD (by rw[hdD];exact pastItsLine_dict (zAD hcD (by rw[zn];omega))) ?_)
 exact zF (h _ ⟨(hs2.2 _ (Ne.symm I.ne)).trans I.obj,hn2,I.ne⟩ hs2)
theorem zJ1 {R:Result->Shared->Prop}{vs:List Value}(X:K.In s.heap)(hm:PySem.W.makesIn K C=true)
 (hi:PySem.W.findIn K (.ref C) "__init__" = some (some (.ref f))) (hf:PySem.W.typeIn K (.ref f)=some (.type "function"))
 (h:codeAny (model prog w) (A.under (.builtin "type.__call__" ⟨.ref C::vs,kw⟩)) (.call (.ref f) ⟨.ref (s.heap.objs.size+1)::vs,kw⟩) (PySem.W.InitBack (s.heap.objs.size+1) R)
  { s with heap:=(s.heap.push PySem.W.emptyDict).push (PySem.W.instObj C s.heap.objs.size) }) :
 codeAny (model prog w) A (.call (.ref C) ⟨vs,kw⟩) R s:=by
 obtain⟨hh,g,d,t,os⟩:=s
 exact PySem.W.make_core (PySem.W.makes_of X hm) (PySem.W.looks_findIn X hi) (fun self=>PySem.W.bind_fn X self hf) (.inl rfl) h
end
noncomputable def zDE (f:Str)(v:V):List (Str×V)->List (Str×V)
 | []=>[(f,v)]
 | (g,x)::r=>if g=f then (g,v)::r else (g,x)::zDE f v r
theorem zDl (f g:Str)(v:V):∀fs:List (Str×V),(zDE f v fs).lookup g=if g=f then some v else fs.lookup g
 | []=>by
  show List.lookup g [(f,v)]=_
  by_cases h:g=f
  . have hb:(g==f)=true:=beq_iff_eq.mpr h
    simp only[List.lookup,hb,if_pos h]
  . have hb:(g==f)=false:=beq_eq_false_iff_ne.mpr h
    simp only[List.lookup,hb,if_neg h]
 | (k,x)::r=>by
  have ih:=zDl f g v r
  rw[show zDE f v ((k,x)::r)=(if k=f then (k,v)::r else (k,x)::zDE f v r) from rfl]
  by_cases hk:k=f
  . rw[if_pos hk]
    by_cases h:g=k
    . have hb:(g==k)=true:=beq_iff_eq.mpr h
      simp only[List.lookup,hb,if_pos (h.trans hk)]
    . have hb:(g==k)=false:=beq_eq_false_iff_ne.mpr h
      simp only[List.lookup,hb,if_neg (fun e:g=f=>h (e.trans hk.symm))]
  . rw[if_neg hk]
    by_cases h:g=k
    . have hb:(g==k)=true:=beq_iff_eq.mpr h
      simp only[List.lookup,hb,if_neg (fun e:g=f=>hk (h.symm.trans e))]
    . have hb:(g==k)=false:=beq_eq_false_iff_ne.mpr h
      simp only[List.lookup,hb]
      exact ih
theorem zDp (f:Str)(v:V):∀fs:List (Str×V),f∈(zDE f v fs).map (·.1)/\∀g,g∈fs.map (·.1)->g∈(zDE f v fs).map (·.1)
 | []=>⟨by simp[zDE],fun g h=>by simp at h⟩
 | (k,x)::r=>by
  obtain⟨i1,i2⟩:=zDp f v r
  rw[show zDE f v ((k,x)::r)=(if k=f then (k,v)::r else (k,x)::zDE f v r) from rfl]
  by_cases hk:k=f
  . rw[if_pos hk]
    subst hk
    exact⟨by simp,fun g h=>by simpa using h⟩
  . rw[if_neg hk]
    refine⟨?_,fun g h=>?_⟩
    . rw[zAF]
      exact zi _ i1
    . rw[zAF] at h ⊢
      rcases zc.mp h with e | e
      . exact zc.mpr (.inl e)
      . exact zi _ (i2 g e)
theorem zDn (f:Str)(v:V):∀fs:List (Str×V),(zDE f v fs).length<=fs.length+1
 | []=>by simp[zDE]
 | (k,x)::r=>by
  have ih:=zDn f v r
  rw[show zDE f v ((k,x)::r)=(if k=f then (k,v)::r else (k,x)::zDE f v r) from rfl]
  by_cases hk:k=f
  . rw[if_pos hk,zn,zn];omega
  . rw[if_neg hk,zn,zn];omega
theorem zEg.some_of {o:Option Value}(r:zEg (some v) o):∃u,o=some u/\zBH v u:=by
 cases o with
 | none=>exact (show False from r).elim
 | some u=>exact⟨u,rfl,r⟩
theorem zEg.none_of {o:Option Value}(r:zEg none o):o=none:=by
 cases o with
 | none=>rfl
 | some u=>exact (show False from r).elim
theorem zIo (r:zBH v u):PySem.W.handedIn u=true:=by
 cases v with
 | non=>cases (show u=Value.none from r);rfl
 | bl b=>cases (show u=Value.bool b from r);rfl
 | int i=>obtain⟨t,e⟩:=(show ∃t,u=Value.int i t from r);cases e;rfl
 | str x=>obtain⟨t,e⟩:=(show ∃t,u=Value.str x t from r);cases e;rfl
 | byt b=>obtain⟨t,e⟩:=(show ∃t,u=Value.bytes b t from r);cases e;rfl
 | flt b=>obtain⟨t,e⟩:=(show ∃t,u=Value.float b t from r);cases e;rfl
 | ref a=>cases (show u=Value.ref a from r);rfl
 | ty n=>cases (show u=Value.type n from r);rfl
section
variable {P:Program}{w:World}{H H':Hp}{h h':Heap}{a C dx:Addr}{fs fs':List (Str×V)}
theorem zEz (hok:HOk P w H h)(e:H a=some (.ins C dx fs)):∃mA,zMH h a dx C mA/\(∀f,zEg (fs.lookup f) (mA f))/\PySem.Within mA (fs.map (·.1))/\fs.length<=1000/\H dx=some (.own a):=by
 obtain⟨d,z,ne,ob,mA,n,r,q⟩:=(show zBe P w H h a (.ins C dx fs) from hok a _ e)
 exact⟨mA,⟨ob,n,ne⟩,r,q,z,d⟩
end
structure Cls (K:PySem.W.Frag)(C:Addr):Prop where
 pg:PySem.W.plainGet K C Str.empty=true
 hd:PySem.W.hasDictIn K C=true
 po:PySem.W.plainOver K C=true
 sa:PySem.W.findIn K (.ref C) "__setattr__" = some (some (.builtin "object.__setattr__"))
theorem Cls.get (c:Cls K C)(f:Str):PySem.W.plainGet K C f=true:=c.pg
noncomputable def zCT (K:PySem.W.Frag)(C:Addr)(f:Str):Prop:=PySem.W.findIn K (.ref C) f=some none
theorem zCT.taker {f:Str}(n:zCT K C f):PySem.W.takerIn K C f=some none:=by
 unfold PySem.W.takerIn
 rw[show PySem.W.findIn K (.ref C) f=some none from n]
 rfl
structure zGt (K:PySem.W.Frag)(C:Addr)(m:Str)(f:Addr):Prop where
 at_:PySem.W.findIn K (.ref C) m=some (some (.ref f))
 fn:PySem.W.isFn K (.ref f)=true
 kp:PySem.W.keepIn K (.ref f)=true
section
variable {X:Cx}{pins:lPO}{σ:St}{H:Hp}{s:Shared}{a C dx:Addr}{fs:List (Str×V)}{f:Str}{v:V}{A:Around}{E:vSP}
theorem zHJ {b:Bool}{Q:vSP}(I:Inv X pins σ H s)(e:H a=some (.ins C dx fs))(c:Cls X.K C)(n:zCT X.K C f)(l:fs.lookup f=some v)
 (h:∀u s',Inv X pins σ H s'->zBH v u->Q u s'):wpAny (model X.prog X.w) A (getAttr (.ref a) f b) Q E s:=by
 obtain⟨mA,O,r,_,_,_⟩:=zEz I.hok e
 obtain⟨u,hu,ru⟩:=zEg.some_of (v:=v) (o:=mA f) (by rw[<-l];exact r f)
 exact zL3 I.kIn O (c.get f) c.hd n hu (zIo ru) (h u _ (I.tok _) ru)
theorem zEb {m:Str}{g:Addr}{Q:Value×List Value->Shared->Prop}(I:Inv X pins σ H s)(e:H a=some (.ins C dx fs))(c:Cls X.K C)(k:zGt X.K C m g)(l:fs.lookup m=none)
 (h:Q (.ref g,[.ref a]) s):wpAny (model X.prog X.w) A (getMethod (.ref a) m pl) Q E s:=by
 obtain⟨mA,O,r,_,_,_⟩:=zEz I.hok e
 have hn:mA m=none:=zEg.none_of (by rw[<-l];exact r m)
 exact zJ7 I.kIn O (c.get m) k.at_ k.fn hn h
theorem zG2 (I:Inv X pins σ H s)(e:H a=some (.ins C dx fs))(c:Cls X.K C)(n:zCT X.K C f)(hl:fs.length<1000)(ry:zBH y u)
 (h:∀s',Inv X pins σ (upd H a (.ins C dx (zDE f y fs))) s'->Q () s'):wpAny (model X.prog X.w) A (setAttr (.ref a) f u) Q E s:=by
 obtain⟨mA,O,r,wi,_,ho⟩:=zEz I.hok e
 have hz:(fs.map (·.1)).length<=sizeLine:=by rw[zD,sizeLine_eq];omega
 refine zLF I.kIn O c.sa c.po n.taker c.hd wi hz fun h' O' sb=>h _ ?_
 have hd:∃o,h'.get? dx=some o:=let ⟨o,_,_,e',_⟩:=O'.ns;⟨o,e'⟩
 refine I.write (x:=a) (e:=dx) (by rw[e];exact True.intro) (.inr ho) (fun b q hb z=>(sb.2 b hb).trans z) hd ?_
 refine⟨by rw[zd O.ne];exact ho,?_,O.ne,O'.obj,_,O'.ns,fun g=>?_,fun g hg=>?_⟩
 . have:=zDn f y fs;omega
 . show zEg ((zDE f y fs).lookup g) (if g=f then some u else mA g)
   rw[zDl]
   by_cases q:g=f
   . rw[if_pos q,if_pos q];exact ry
   . rw[if_neg q,if_neg q];exact r g
 . by_cases q:g=f
   . rw[q];exact (zDp f y fs).1
   . refine (zDp f y fs).2 g (wi g fun z=>hg ?_)
     show (if g=f then some u else mA g)=none
     rw[if_neg q];exact z
theorem Inv.made (I:Inv X pins σ H s):Inv X pins σ (upd (upd H s.heap.objs.size (.own (s.heap.objs.size+1))) (s.heap.objs.size+1) (.ins C s.heap.objs.size []))
 { s with heap:=(s.heap.push PySem.W.emptyDict).push (PySem.W.instObj C s.heap.objs.size) }:=by
 have e1:(s.heap.push PySem.W.emptyDict).get? s.heap.objs.size=some PySem.W.emptyDict:=zS s.heap rfl
 have e2:((s.heap.push PySem.W.emptyDict).push (PySem.W.instObj C s.heap.objs.size)).get? (s.heap.objs.size+1)=some (PySem.W.instObj C s.heap.objs.size):=by
  have:=zS (s.heap.push PySem.W.emptyDict) (o:=PySem.W.instObj C s.heap.objs.size) rfl
  rwa [zAq] at this
 have e3:(s.heap.push PySem.W.emptyDict).Ns s.heap.objs.size (fun _=>none):=⟨PySem.W.emptyDict,#[],_,e1,rfl,(fun e he=>absurd he (by simp)),fun _=>rfl⟩
 have I1:=I.laid (a:=s.heap.objs.size) (o:=.own (s.heap.objs.size+1)) (h':=s.heap.push PySem.W.emptyDict) (t':=s.toks) (fun b u q=>zH _ q) (zK _) ⟨_,e1⟩
 refine I1.laid (a:=s.heap.objs.size+1) (o:=.ins C s.heap.objs.size []) (t':=s.toks) (fun b u q=>zH _ q) (Nat.le_of_eq (zAq _ _)) ?_
 have ne:s.heap.objs.size≠s.heap.objs.size+1:=ze (Nat.lt_succ_self _)
 refine⟨by rw[zd ne,zI],zh _,ne,e2,fun _=>none,(Heap.Ns1.of_empty e3).at fun o q=>zH _ q,fun _=>True.intro,fun y hy=>absurd rfl hy⟩
theorem zMG {prog:Program}{env:Env}{f:Str}{Q:vSP}(hb:attributeBase e f env (eval e env)=eval e env)
 (h:wpAny (model prog w) A (eval e env) (fun o s₁=>wpAny (model prog w) A (getAttr o f true) Q E s₁) E s):wpAny (model prog w) A (eval (.Attribute e f pos) env) Q E s:=
 Attribute_any_ h (by rw[arm_eval_Attribute,hb])
end
noncomputable def tFld (K:PySem.W.Frag)(ta:TE)(f:Str):TE:=fun σ H Q=>ta σ H fun x H1=>∃a C dx fs v,x = .ref a/\H1 a=some (.ins C dx fs)/\Cls K C/\zCT K C f/\fs.lookup f=some v/\Q v H1
noncomputable def sFld (K:PySem.W.Frag)(ta tv:TE)(f:Str):TS:=fun D σ H=>tv σ H fun y H1=>ta σ H1 fun x H2=>∃a C dx fs,x = .ref a/\H2 a=some (.ins C dx fs)/\Cls K C/\zCT K C f/\fs.length<1000 /\
 D.nx σ (upd H2 a (.ins C dx (zDE f y fs)))
section
variable {X:Cx}{o e value:Expr}{f:Str}{pos pos' tpos:Pos}{ta tv:TE}
theorem zCY (he:PE X e ta)(hb:attributeBase e f X.env (eval e X.env)=eval e X.env):PE X (.Attribute e f pos) (tFld X.K ta f):=by
 intro pins s σ H Q I h
 refine zMG hb (thn (he pins s σ H _ I h) fun u s1 ⟨x,H1,I1,rx,a,C,dx,fs,v,ex,ea,c,n,l,q⟩=>?_)
 subst ex
 obtain rfl:u=Value.ref a:=rx
 exact zHJ I1 ea c n l fun u' s2 I2 ru=>⟨v,H1,I2,ru,q⟩
theorem zFO (ha:PE X o ta)(hv:PE X value tv)(hs:swapsWith value (some (.Attribute o f pos')) pos.line X.env=pure false):PS X (.Assign [.Attribute o f pos'] value pos) (sFld X.K ta tv f):=by
 intro pins s σ H D I h
 refine plainObj_wpAny_Assign_Attribute (thn (hv pins s σ H _ I h) fun u s1 ⟨y,H1,I1,ry,q⟩=>thn (ha pins s1 σ H1 _ I1 q) fun ov s2 ⟨x,H2,I2,rx,a,C,dx,fs,ex,ea,c,n,l,q2⟩=>?_) hs
 subst ex
 obtain rfl:ov=Value.ref a:=rx
 exact zG2 I2 ea c n l ry fun s3 I3=>⟨σ,_,I3,q2⟩
end
section
variable {X:Cx}{pins:lPO}{σ:St}{H:Hp}{s:Shared}{A:Around}{E:vSP}{Q:vSP}{c:Value}{b:Bool}
inductive zHU (K:PySem.W.Frag)(H:Hp):V->Value->Prop where
 | non:zHU K H .non (.type "NoneType")
 | bl (x:Bool):zHU K H (.bl x) (.type "bool")
 | int (i:Int):zHU K H (.int i) (.type "int")
 | str (x:Str):zHU K H (.str x) (.type "str")
 | flt (x:UInt64):zHU K H (.flt x) (.type "float")
 | lst {a:Addr}{xs:List V}(e:H a=some (.lst xs)):zHU K H (.ref a) (.type "list")
 | frz {a:Addr}{o:Obj}{xs:List V}(e:H a=some (.frz o (.lst xs))):zHU K H (.ref a) (.type "list")
 | tup {a:Addr}{xs:List V}(e:H a=some (.tup xs)):zHU K H (.ref a) (.type "tuple")
 | dK {a:Addr}{kvs:List (Key×V)}(e:H a=some (.dK kvs)):zHU K H (.ref a) (.type "dict")
 | dT {a:Addr}{kvs:List (List Key×V)}(e:H a=some (.dT kvs)):zHU K H (.ref a) (.type "dict")
 | ins {a C dx:Addr}{fs:List (Str×V)}(e:H a=some (.ins C dx fs))(cl:Cls K C)(ha:PySem.W.findIn K (.ref C) "__class__" = some (some (.builtin "object.__class__")))
  (hn:PySem.W.specialIn K (.builtin "object.__class__") "__get__" = some (some (.builtin "getset_descriptor.__get__"))) (htk:PySem.W.takesIn K (.builtin "object.__class__")=some true)
  (hm:PySem.W.mroIn K C (.type "object")=some true):zHU K H (.ref a) (.ref C)
theorem zIk {x:V}{t:Value}(I:Inv X pins σ H s)(rx:zBH x u)(ty:zHU X.K H x t)(e:PySem.W.kitOne X.K t c=some b)(h:∀tk,Q (.bool b) { s with toks:=tk }) :
 wpAny (model X.prog X.w) A (call (.builtin "isinstance") [u,c]) Q E s:=by
 cases ty with
 | non=>cases (show u=Value.none from rx);exact PySem.W.kia_one PySem.W.kitx_none I.kIn True.intro e (fun z=>nomatch z) h
 | bl y=>cases (show u=Value.bool y from rx);exact PySem.W.kia_one PySem.W.kitx_bool I.kIn True.intro e (fun z=>nomatch z) h
 | int i=>obtain⟨t,q⟩:=(show ∃t,u=Value.int i t from rx);cases q;exact PySem.W.kia_one PySem.W.kitx_int I.kIn True.intro e (fun z=>nomatch z) h
 | str y=>obtain⟨t,q⟩:=(show ∃t,u=Value.str y t from rx);cases q;exact PySem.W.kia_one PySem.W.kitx_str I.kIn True.intro e (fun z=>nomatch z) h
 | flt y=>obtain⟨t,q⟩:=(show ∃t,u=Value.float y t from rx);cases q;exact PySem.W.kia_one PySem.W.kitx_float I.kIn True.intro e (fun z=>nomatch z) h
 | @lst a xs ea=>
  cases (show u=Value.ref a from rx)
  obtain⟨_,_,n,_,h1⟩:=(show zBe X.prog X.w H s.heap a (.lst xs) from I.hok a _ ea)
  exact PySem.W.kia_one PySem.W.kitx_list I.kIn ⟨_,h1,rfl⟩ e (fun z=>nomatch z) h
 | @frz a ob xs ea=>
  cases (show u=Value.ref a from rx)
  obtain⟨_,_,_,n,_,h1⟩:=(show zBe X.prog X.w H s.heap a (.frz ob (.lst xs)) from I.hok a _ ea)
  exact PySem.W.kia_one PySem.W.kitx_list I.kIn ⟨_,h1,rfl⟩ e (fun z=>nomatch z) h
 | @tup a xs ea=>
  cases (show u=Value.ref a from rx)
  obtain⟨_,_,_,p⟩:=(show zBe X.prog X.w H s.heap a (.tup xs) from I.hok a _ ea)
  obtain⟨o,h1,h2,_⟩:=p
  exact PySem.W.kia_one PySem.W.kitx_tuple I.kIn ⟨o,h1,h2⟩ e (fun z=>nomatch z) h
 | @dK a kvs ea=>
  cases (show u=Value.ref a from rx)
  obtain⟨_,_,vs,_,p⟩:=(show zBe X.prog X.w H s.heap a (.dK kvs) from I.hok a _ ea)
  obtain⟨o,es,ep,h1,h2,_⟩:=p
  exact PySem.W.kia_one PySem.W.kitx_dict I.kIn ⟨o,h1,h2.1⟩ e (fun z=>nomatch z) h
 | @dT a kvs ea=>
  cases (show u=Value.ref a from rx)
  obtain⟨_,_,xs,_,o,es,ep,h1,h2,_⟩:=(show zBe X.prog X.w H s.heap a (.dT kvs) from I.hok a _ ea)
  exact PySem.W.kia_one PySem.W.kitx_dict I.kIn ⟨o,h1,h2.1⟩ e (fun z=>nomatch z) h
 | @ins a C dx fs ea cl ha hn htk hm=>
  cases (show u=Value.ref a from rx)
  obtain⟨mA,O,_⟩:=zEz I.hok ea
  obtain⟨od,J,_⟩:=O.look
  exact PySem.W.kia_one (PySem.W.kitx_own (cl.get _) cl.hd ha hn htk hm) I.kIn J e (fun z=>nomatch z) h
end
structure zCe (k:Nat)(A:Around):Prop where
 hd:A.handled=none
 dp:A.depth+3*k+5<recursionLimit
 un:A.units+16*k+200<cLine
 gd:A.guards=some []
theorem zCe.mono {j k:Nat}(r:zCe k A)(h:j<=k):zCe j A:=⟨r.hd,by have:=r.dp;omega,by have:=r.un;omega,r.gd⟩
theorem zCe.deeper {k:Nat}(r:zCe (k+1) A)(env:Env):zCe k (A.deeper env):=
 ⟨r.hd,by have:=r.dp;show A.depth+1+3*k+5<_;omega,by have:=r.un;show A.units+3+16*k+200<_;omega,r.gd⟩
theorem zCe.in1 {k:Nat}(r:zCe (k+1) A):zCe k A.in1:=
 ⟨r.hd,by have:=r.dp;show A.depth+3*k+5<_;omega,by have:=r.un;show A.units+1+16*k+200<_;omega,r.gd⟩
theorem zHE:(A.under (.builtin "type.__call__" ⟨.ref C::us,kw⟩)).depth=A.depth+1:=by
 first | rfl | simp[Around.under,Code.weight,Code.isCreation,Code.isGuard,Code.isCaller,Code.frames,Code.isFrame,guardIds]
theorem zHD:(A.under (.builtin "type.__call__" ⟨.ref C::us,kw⟩)).units=A.units+1:=by
 first | rfl | simp[Around.under,Code.cUnits,Code.frames,Code.isFrame]
theorem zCe.make {k:Nat}(r:zCe (k+1) A)(C:Addr)(us:List Value)(kw:List (Str×Value)):zCe k (A.under (.builtin "type.__call__" ⟨.ref C::us,kw⟩)):=
 ⟨r.hd,by have:=r.dp;rw[zHE];omega,by have:=r.un;rw[zHD];omega,by first | exact r.gd | (simp[Around.under,Code.guards,Code.isGuard,guardIds,pushGuards];exact r.gd)⟩
theorem zCe.depth {k:Nat}(r:zCe k A):A.depth<recursionLimit:=by have:=r.dp;omega
theorem zCe.units {k:Nat}(r:zCe k A):A.units+64<cLine:=by have:=r.un;omega
theorem zCe.units0 {k:Nat}(r:zCe k A):A.units<cLine:=by have:=r.un;omega
noncomputable def tNil:TA:=fun _ H Q=>Q [] H
noncomputable def zKz (ta:TE)(tr:TA):TA:=fun σ H Q=>ta σ H fun x H1=>tr σ H1 fun xs H2=>Q (x::xs) H2
section
variable {X:Cx}{e:Expr}{es:List Expr}{te:TE}{t:TA}{pos:Pos}
theorem zL:PA X [] tNil:=fun _ _ _ _ H Q I h=>Calls.spliced_nil ⟨[],H,I,.nil,h⟩
theorem zC (ha:PE X e te)(hr:PA X es t)(hs:starEach (e::es) X.env=(false,eval e X.env)::starEach es X.env:=by rfl):PA X (e::es) (zKz te t):=by
 intro pos pins s σ H Q I h
 rw[hs]
 show wpAny _ _ (spliced ((false,eval e X.env)::backTo pos (starEach es X.env))) _ _ s
 refine Calls.spliced_cons (thn (ha pins s σ H _ I h) fun u s1 ⟨x,H1,I1,r1,q1⟩=>?_)
 exact thn (hr pos pins s1 σ H1 _ I1 q1) fun us s2 ⟨xs,H2,I2,r2,q2⟩=>⟨x::xs,H2,I2,.cons r1 r2,q2⟩
noncomputable def tTup (t:TA):TE:=fun σ H Q=>t σ H fun xs H1=>xs.length<=sizeLine/\∀p,H1 p=none->Q (.ref p) (upd H1 p (.tup xs))
noncomputable def tLst (t:TA):TE:=fun σ H Q=>t σ H fun xs H1=>xs.length<=sizeLine/\∀p,H1 p=none->Q (.ref p) (upd H1 p (.lst xs))
theorem zBP {x1} (h:PA X es t):PE X (.Tuple es x1 pos) (tTup t):=by
 intro pins s σ H Q I hq
 refine wpAny_Tuple_spliced (thn (h pos pins s σ H _ I hq) fun us s1 ⟨xs,H1,I1,r,z,q⟩=>⟨by rw[<-r.length];exact z,?_⟩)
 have hf:H1 s1.heap.objs.size=none:=I1.hok.fresh (zK _)
 refine⟨.ref s1.heap.objs.size,upd H1 s1.heap.objs.size (.tup xs),I1.laid (t':=s1.toks) (fun b u e=>zH _ e) (zK _) ?_,rfl,q _ hf⟩
 exact⟨⟨z,_,zS _ rfl,rfl⟩,us,r,⟨_,zS _ rfl,rfl,_,rfl⟩⟩
theorem zCX (h:PA X es t):PE X (.List es pos) (tLst t):=by
 intro pins s σ H Q I hq
 refine wpAny_List_spliced (thn (h pos pins s σ H _ I hq) fun us s1 ⟨xs,H1,I1,r,z,q⟩=>⟨by rw[<-r.length];exact z,?_⟩)
 have hf:H1 s1.heap.objs.size=none:=I1.hok.fresh (zK _)
 refine⟨.ref s1.heap.objs.size,upd H1 s1.heap.objs.size (.lst xs),I1.laid (t':=s1.toks) (fun b u e=>zH _ e) (zK _) ?_,rfl,q _ hf⟩
 exact⟨z,us,0,r,zS _ rfl⟩
end
noncomputable abbrev Sp:=List V->Hp->VK->XK->Prop
noncomputable abbrev CXT:=List Env->Hp->Shared->XK->Value->Shared->Prop
structure zMK (P:Program)(w:World)(K:PySem.W.Frag)(mg:sOV)(base:Heap)(A:Around)(outer:List Env)(s:Shared)(H:Hp):Prop where
 frames:A.frames=some outer
 mod:Mod K mg base
 bs:∀b o,base.get? b=some o->s.heap.get? b=some o/\H b=none
 bsz:base.objs.size<=s.heap.objs.size
 funs:s.heap.FunFrames base outer
 frf:∀b∈frs outer,H b=none
 hok:HOk P w H s.heap
 bare:AllBare s.gens
noncomputable def CE (outer:List Env)(P:Program)(w:World)(H:Hp)(s:Shared)(Q:VK)(u:Value)(s':Shared):Prop:=
 ∃v H',s'.os=s.os/\AllBare s'.gens/\Un (frs outer) [] H H' s.heap s'.heap/\HOk P w H' s'.heap/\zBH v u/\Q v H'
noncomputable def CR (CX:CXT)(outer:List Env)(P:Program)(w:World)(H:Hp)(s:Shared)(Q:VK)(E:XK)(r:Result)(s':Shared):Prop:=
 match r with
 | .ok (.ret u)=>CE outer P w H s Q u s'
 | .ok _=>False
 | .error e=>CX outer H s E e s'
structure zAK (P:Program)(w:World)(K:PySem.W.Frag)(mg:sOV)(base:Heap)(CX:CXT)(k:Nat)(f:Addr)(fd:FuncData)(ps:List Str)(sp:Sp):Prop where
 len:∀vs H Q E,sp vs H Q E->vs.length=ps.length
 run:∀(A:Around)(outer:List Env)(s:Shared)(H:Hp)(args:Args)(us:List Value)(vs:List V)(Q:VK)(E:XK),zCe k A->zMK P w K mg base A outer s H->BindsTo s fd args (ps.zip us)->zA8 vs us->sp vs H Q E ->
  codeAny (model P w) A (.call (.ref f) args) (CR CX outer P w H s Q E) s
theorem zAK.mono {P:Program}{w:World}{K:PySem.W.Frag}{mg:sOV}{base:Heap}{CX:CXT}{j k:Nat}{f:Addr}{fd:FuncData}{ps:List Str}{sp:Sp}(F:zAK P w K mg base CX j f fd ps sp)(h:j<=k) :
 zAK P w K mg base CX k f fd ps sp:=⟨F.len,fun A outer s H args us vs Q E hr=>F.run A outer s H args us vs Q E (hr.mono h)⟩
variable {base:Heap}{CX:CXT}{ps:List Str}
theorem zAK.imp {P:Program}{mg:sOV}{k:Nat}{f:Addr}{fd:FuncData}{sp sp':Sp}(F:zAK P w K mg base CX k f fd ps sp)
 (h:∀vs H Q E,sp' vs H Q E->sp vs H Q E):zAK P w K mg base CX k f fd ps sp':=
 ⟨fun vs H Q E q=>F.len vs H Q E (h _ _ _ _ q),fun A outer s H args us vs Q E hr he hb hv hs=>F.run A outer s H args us vs Q E hr he hb hv (h _ _ _ _ hs)⟩
theorem zMK.make {P:Program}{mg:sOV}{outer:List Env}(e:zMK P w K mg base A outer s H)(C:Addr)(us:List Value)(kw:List (Str×Value)) :
 zMK P w K mg base (A.under (.builtin "type.__call__" ⟨.ref C::us,kw⟩)) outer s H:=⟨by first | exact e.frames | (simpa [Around.under,Code.envs,Code.isFrame,pushEnvs] using e.frames),e.mod,e.bs,e.bsz,e.funs,e.frf,e.hok,e.bare⟩
section
variable {X:Cx}{pins:lPO}{σ:St}{H:Hp}{s s':Shared}
theorem Inv.env0 (I:Inv X pins σ H s):zMK X.prog X.w X.K X.mg X.base X.A X.stack s H:=
 ⟨I.ok.frames,I.ok.mod,I.bs,zAD I.ok.bsz I.sz,I.stack,I.stkFree,I.hok,I.bare⟩
theorem Inv.after {Q:VK}(I:Inv X pins σ H s)(h:CE X.stack X.prog X.w H s Q u s'):EP X pins σ Q u s':=by
 obtain⟨v,H',os,bare,un,hok,r,q⟩:=h
 obtain⟨hh,g,d,t,os'⟩:=s'
 obtain rfl:os'=s.os:=os
 exact⟨v,H',I.call (h':=hh) (g':=g) (d':=d) (t':=t) (ch:=[]) un hok bare (fun b z=>absurd z (by simp)),r,q⟩
end
noncomputable def tCall (sp:Sp)(dvs:List V)(E:XK)(t:TA):TE:=fun σ H Q=>t σ H fun vs H1=>sp (vs++dvs) H1 Q E
noncomputable def tMeth (C:Addr)(m:Str)(sp:Sp)(dvs:List V)(E:XK)(ta:TE)(t:TA):TE:=fun σ H Q=>ta σ H fun x H1=>∃a dx fs,x = .ref a/\H1 a=some (.ins C dx fs)/\fs.lookup m=none /\
 t σ H1 fun vs H2=>sp (x::(vs++dvs)) H2 Q E
noncomputable def tMake (C:Addr)(sp:Sp)(dvs:List V)(E:XK)(t:TA):TE:=fun σ H Q=>t σ H fun vs H1=>∀x dx,H1 x=none->H1 dx=none->dx≠x ->
 sp (.ref x::(vs++dvs)) (upd (upd H1 dx (.own x)) x (.ins C dx [])) (fun v H2=>v = .non/\Q (.ref x) H2) E
noncomputable def zBw (K:PySem.W.Frag)(fd:FuncData)(ps:List Str)(ds:List Value):Prop:=
 ∀(s:Shared)(us:List Value),K.In s.heap->(us++ds).length=ps.length->BindsTo s fd ⟨us,[]⟩ (ps.zip (us++ds))
theorem zBw.all {fd:FuncData}(h:∀us:List Value,us.length=ps.length->bindArgs fd ⟨us,[]⟩=pure (ps.zip us)):zBw K fd ps []:=fun s us _ hl=>by
 rw[zt] at hl ⊢
 exact .of_eq (h us hl)
noncomputable def zD8 (CX:CXT)(X:Cx)(E:XK):Prop:=∀(pins:lPO)(σ:St)(H:Hp)(s:Shared)(e:Value)(s':Shared),Inv X pins σ H s->CX X.stack H s E e s'->X.xe e s'
section
variable {X:Cx}{CX:CXT}{k:Nat}{f C:Addr}{fd:FuncData}{ps:List Str}{sp:Sp}{dvs:List V}{ds:List Value}{E:XK}{x m:Str}{p pos apos:Pos}{e o:Expr}{es:List Expr}{ta:TE}{t:TA}
theorem zH8 {pins:lPO}{Q:VK}{vs:List V}(F:zAK X.prog X.w X.K X.mg X.base CX k f fd ps sp)(hr:zCe k X.A)(hb:zBw X.K fd ps ds)(hd:zA8 dvs ds)(hx:zD8 CX X E)
 (I:Inv X pins σ H s)(r:zA8 vs us)(h:sp (vs++dvs) H Q E):wpAny (model X.prog X.w) X.A (call (.ref f) us) (EP X pins σ Q) X.xe s:=by
 have r2:zA8 (vs++dvs) (us++ds):=r.append hd
 have hl:(us++ds).length=ps.length:=by rw[<-r2.length];exact F.len _ _ _ _ h
 refine wpAny_call (codeAny_mono (F.run X.A X.stack s H ⟨us,[]⟩ (us++ds) (vs++dvs) Q E hr I.env0 (hb s us I.kIn hl) r2 h) fun r s' hq=>?_)
 cases r with
 | error e=>exact hx pins σ H s e s' I hq
 | ok fl=>
  cases fl with
  | ret u=>exact I.after hq
  | next=>exact False.elim hq
  | brk=>exact False.elim hq
  | cont=>exact False.elim hq
theorem zIM (F:zAK X.prog X.w X.K X.mg X.base CX k f fd ps sp)(hr:zCe k X.A)(hg:Gl X x)(hm:X.mg x=some (.ref f))(hk:PySem.W.keepIn X.K (.ref f)=true)(hb:zBw X.K fd ps ds)(hd:zA8 dvs ds)(hx:zD8 CX X E)
 (ha:PA X (e::es) t)(hdb:(x==("__debug__" : Str))=false:=by decide) (he:starEach (e::es) X.env=(false,eval e X.env)::starEach es X.env:=by rfl)(hpl:(backTo pos (starEach es X.env)).any (·.1)=false:=by rfl) :
 PE X (.Call (.Name x p) (e::es) [] pos) (tCall sp dvs E t):=by
 intro pins s σ H Q I h
 refine zBW (zF5 I hg hm ?_ hdb)
 refine PySem.W.callWith_K (h₀:=X.base) I.ok.mod.kin hk (thn (ha pos pins s σ H _ I h) fun us s1 ⟨vs,H1,I1,r,q⟩=>⟨I1.kIn,?_⟩) he hpl
 exact zH8 F hr hb hd hx I1 r q
theorem zDG {pl:Sem Bool}(he:PE X o ta)(c:Cls X.K C)(hm:zGt X.K C m f)(F:zAK X.prog X.w X.K X.mg X.base CX k f fd ps sp)(hr:zCe k X.A)(hb:zBw X.K fd ps ds)(hd:zA8 dvs ds)(hx:zD8 CX X E)(ha:PA X (e::es) t)
 (hst:starEach (e::es) X.env=(false,eval e X.env)::starEach es X.env:=by rfl)(hpl:(backTo pos (starEach es X.env)).any (·.1)=false:=by rfl)
 (ht:eval (.Call (.Attribute o m apos) (e::es) [] pos) X.env=(do
  let ov <-eval o X.env
  standAt apos.atName
  let (f,first) <-holding [ov] (getMethod ov m pl)
  callWith pos f first (backTo pos (starEach (e::es) X.env)) (backToKw pos (keywordEach [] X.env))):=by rfl) :
 PE X (.Call (.Attribute o m apos) (e::es) [] pos) (tMeth C m sp dvs E ta t):=by
 intro pins s σ H Q I h
 refine PySem.W.methodCall_KW (pl:=pl) (thn (he pins s σ H _ I h) fun u s1 ⟨x,H1,I1,rx,a,dx,fs,ex,ea,l,q⟩=>?_) ht
 subst ex
 obtain rfl:u=Value.ref a:=rx
 refine zEb I1 ea c hm l ?_
 refine PySem.W.callWith_K (first:=[.ref a]) (h₀:=X.base) I.ok.mod.kin hm.kp (thn (ha pos pins s1 σ H1 _ I1 q) fun us s2 ⟨vs,H2,I2,r,q2⟩=>⟨I2.kIn,?_⟩) hst hpl
 exact zH8 (us:=.ref a::us) (vs:=.ref a::vs) F hr hb hd hx I2 (.cons rfl r) q2
theorem zCx (he:PE X o ta)(c:Cls X.K C)(hm:zGt X.K C m f)(F:zAK X.prog X.w X.K X.mg X.base CX k f fd ps sp)(hr:zCe k X.A)(hb:zBw X.K fd ps ds)(hd:zA8 dvs ds)(hx:zD8 CX X E)
 (ht:eval (.Call (.Attribute o m apos) [] [] pos) X.env=(do
  let ov <-eval o X.env
  standAt apos.atName
  let (f,first) <-holding [ov] (getMethod ov m pl)
  callWith pos f first (backTo pos (starEach [] X.env)) (backToKw pos (keywordEach [] X.env))):=by rfl) :
 PE X (.Call (.Attribute o m apos) [] [] pos) (tMeth C m sp dvs E ta tNil):=by
 intro pins s σ H Q I h
 refine PySem.W.methodCall_KW (pl:=pl) (thn (he pins s σ H _ I h) fun u s1 ⟨x,H1,I1,rx,a,dx,fs,ex,ea,l,q⟩=>?_) ht
 subst ex
 obtain rfl:u=Value.ref a:=rx
 refine zEb I1 ea c hm l ?_
 exact PySem.W.callWith_K0 (first:=[.ref a]) I1.kIn hm.kp (zH8 (us:=[.ref a]) (vs:=[.ref a]) F hr hb hd hx I1 (.cons rfl .nil) q)
structure Mk (K:PySem.W.Frag)(C f:Addr):Prop where
 makes:PySem.W.makesIn K C=true
 init:PySem.W.findIn K (.ref C) "__init__" = some (some (.ref f))
 fn:PySem.W.isFn K (.ref f)=true
 kp:PySem.W.keepIn K (.ref C)=true
theorem zJb {pins:lPO}{Q:VK}{vs:List V}(M:Mk X.K C f)(F:zAK X.prog X.w X.K X.mg X.base CX k f fd ps sp)(hr:zCe (k+1) X.A)(hb:zBw X.K fd ps ds)(hd:zA8 dvs ds)
 (hx:zD8 CX X E)(I:Inv X pins σ H s)(r:zA8 vs us)
 (h:∀x dx,H x=none->H dx=none->dx≠x->sp (.ref x::(vs++dvs)) (upd (upd H dx (.own x)) x (.ins C dx [])) (fun v H2=>v = .non/\Q (.ref x) H2) E) :
 wpAny (model X.prog X.w) X.A (call (.ref C) us) (EP X pins σ Q) X.xe s:=by
 have hq:=h (s.heap.objs.size+1) s.heap.objs.size (I.hok.fresh (zBN _)) (I.hok.fresh (zK _)) (ze (Nat.lt_succ_self _))
 have I2:=Inv.made (C:=C) I
 have r2:zA8 (V.ref (s.heap.objs.size+1)::(vs++dvs)) (Value.ref (s.heap.objs.size+1)::(us++ds)):=.cons rfl (r.append hd)
 have hl:(Value.ref (s.heap.objs.size+1)::us++ds).length=ps.length:=by
  have e:=r2.length
  rw[F.len _ _ _ _ hq] at e
  exact e.symm
 refine wpAny_call (zJ1 (f:=f) I.kIn M.makes M.init (beq_iff_eq.mp M.fn) (codeAny_mono (F.run _ X.stack _ _ ⟨Value.ref (s.heap.objs.size+1)::us,[]⟩ (Value.ref (s.heap.objs.size+1)::(us++ds)) _ _ E (hr.make C us [])
  (I2.env0.make C us []) (hb _ (Value.ref (s.heap.objs.size+1)::us) I2.kIn hl) r2 hq) fun r s' hq'=>?_))
 cases r with
 | error e=>exact hx pins σ _ _ e s' I2 hq'
 | ok fl=>
  cases fl with
  | ret u=>
   obtain⟨v,H',I3,rv,ev,q3⟩:=I2.after hq'
   subst ev
   exact⟨rv,⟨V.ref (s.heap.objs.size+1),H',I3,rfl,q3⟩⟩
  | next=>exact False.elim hq'
  | brk=>exact False.elim hq'
  | cont=>exact False.elim hq'
theorem zLT (M:Mk X.K C f)(F:zAK X.prog X.w X.K X.mg X.base CX k f fd ps sp)(hr:zCe (k+1) X.A)(hg:Gl X x)(hm:X.mg x=some (.ref C))(hb:zBw X.K fd ps ds)(hd:zA8 dvs ds)(hx:zD8 CX X E)
 (ha:PA X (e::es) t)(hdb:(x==("__debug__" : Str))=false:=by decide) (he:starEach (e::es) X.env=(false,eval e X.env)::starEach es X.env:=by rfl)(hpl:(backTo pos (starEach es X.env)).any (·.1)=false:=by rfl) :
 PE X (.Call (.Name x p) (e::es) [] pos) (tMake C sp dvs E t):=by
 intro pins s σ H Q I h
 refine zBW (zF5 I hg hm ?_ hdb)
 refine PySem.W.callWith_K (h₀:=X.base) I.ok.mod.kin M.kp (thn (ha pos pins s σ H _ I h) fun us s1 ⟨vs,H1,I1,r,q⟩=>⟨I1.kIn,?_⟩) he hpl
 exact zJb M F hr hb hd hx I1 r q
end
structure zo (N P:List Str)(sc:Scope):Prop where
 kind:sc.kind = .function
 co:sc.isCoroutine=false
 gen:sc.isGenerator=false
 nd:N.Nodup
 pre:N.take P.length=P
 par:∀x∈P,sc.names.lookup x=some .local\/sc.names.lookup x=some .cell
 nofree:∀y∈sc.names,y.2 ≠ .free
theorem fS0 {P:List Str}{sc:Scope}(a:sc.kind = .function:=by rfl)(b:sc.isCoroutine=false:=by rfl)(c:sc.isGenerator=false:=by rfl)(d:N.Nodup:=by decide +kernel)(e:N.take P.length=P:=by rfl)(f:∀x∈P,sc.names.lookup x=some .local\/sc.names.lookup x=some .cell:=by decide +kernel)(g:∀y∈sc.names,y.2 ≠ .free:=by decide +kernel):zo N P sc:=⟨a,b,c,d,e,f,g⟩
theorem zFj {kindOf:Str->Option NameKind}{x:Str}:∀{binds:List (Str×Value)}{m:sOV},(∀v,(x,v)∉binds)->bindL kindOf binds m x=m x
 | [],_,_=>rfl
 | (n,v)::r,m,h=>by
  unfold bindL
  rw[zFj fun w hw=>h w (zi _ hw)]
  split
  . have:x≠n:=by rintro rfl;exact h v za
    simp[this]
  . rfl
theorem zFl {kindOf:Str->Option NameKind}{x:Str}:∀{binds:List (Str×Value)}{m:sOV},(∀v,(x,v)∉binds)->bindC kindOf binds m x=m x
 | [],_,_=>rfl
 | (n,v)::r,m,h=>by
  unfold bindC
  rw[zFl fun w hw=>h w (zi _ hw)]
  split
  . rfl
  . have:x≠n:=by rintro rfl;exact h v za
    simp[this]
theorem zFk {kindOf:Str->Option NameKind}{x:Str}{v:Value}:∀{P:List Str}{vs:List Value}{i:Nat}{m:sOV},P.Nodup->P[i]? = some x->vs[i]? = some v->kindOf x=some .local ->
 bindL kindOf (P.zip vs) m x=some v
 | [],_,_,_,_,h,_,_=>by simp at h
 | _::_,[],_,_,_,_,h,_=>by simp at h
 | p::P,w::vs,0,m,nd,h1,h2,hk=>by
  simp at h1 h2;subst h1;subst h2
  show bindL kindOf ((p,w)::P.zip vs) m p=_
  unfold bindL
  rw[zFj fun v hv=>(zAc.mp nd).1 (List.of_mem_zip hv).1,if_pos hk]
  simp
 | p::P,w::vs,i+1,m,nd,h1,h2,hk=>by
  show bindL kindOf ((p,w)::P.zip vs) m x=_
  unfold bindL
  exact zFk (i:=i) (zAc.mp nd).2 (by simpa using h1) (by simpa using h2) hk
theorem zFm {kindOf:Str->Option NameKind}{x:Str}{v:Value}:∀{P:List Str}{vs:List Value}{i:Nat}{m:sOV},P.Nodup->P[i]? = some x->vs[i]? = some v->kindOf x≠some .local ->
 bindC kindOf (P.zip vs) m x=some v
 | [],_,_,_,_,h,_,_=>by simp at h
 | _::_,[],_,_,_,_,h,_=>by simp at h
 | p::P,w::vs,0,m,nd,h1,h2,hk=>by
  simp at h1 h2;subst h1;subst h2
  show bindC kindOf ((p,w)::P.zip vs) m p=_
  unfold bindC
  rw[zFl fun v hv=>(zAc.mp nd).1 (List.of_mem_zip hv).1,if_neg hk]
  simp
 | p::P,w::vs,i+1,m,nd,h1,h2,hk=>by
  show bindC kindOf ((p,w)::P.zip vs) m x=_
  unfold bindC
  exact zFm (i:=i) (zAc.mp nd).2 (by simpa using h1) (by simpa using h2) hk
noncomputable def start (N:List Str)(vs:List V):St:=vs.map some++List.replicate (N.length-vs.length) none
noncomputable def zKo (CX:CXT)(P:Program)(w:World)(K:PySem.W.Frag)(mg:sOV)(base:Heap)(N:List Str)(qual:Str)(scope:Scope)(f:Addr)(cd:Value)(A:Around)(outer:List Env)(s:Shared)(H:Hp)(E:XK):Cx where
 prog:=P
 w:=w
 K:=K
 mg:=mg
 base:=base
 A:=A.deeper (envOfC qual scope s.heap.objs.size f cd)
 N:=N
 s₀:=s
 H₀:=H
 env:=envOfC qual scope s.heap.objs.size f cd
 outer:=outer
 stack:=envOfC qual scope s.heap.objs.size f cd::outer
 ex:=[]
 calm:=true
 fn:=fun _=>true
 pn:=[]
 xe:=fun e s'=>wpAny (model P w) (A.deeper (envOfC qual scope s.heap.objs.size f cd)) (leaving (envOfC qual scope s.heap.objs.size f cd) e) (fun _ s''=>CX outer H s E e s'') (fun e' s''=>CX outer H s E e' s'') s'
theorem zGp {sc:Scope}(h:sc.names.lookup x=some .cell):∃c,(cellsFrom n sc.names []).lookup x=some c:=by
 have q:=PySem.W.cellsFrom_some sc.names n [] (.inl h)
 exact zAs.mp q
theorem zIl {P:Program}{mg:sOV}{qual:Str}{scope:Scope}{f:Addr}{cd:Value}{outer:List Env}{s1:Shared}{E:XK}{vs:List V}
 (S:zo N ps scope)(hd:A.handled=none)(e0:zMK P w K mg base A outer s H)(hl:vs.length=ps.length)(r:zA8 vs us)
 (x:InCallC s s.heap.objs.size (bindL (envOfC qual scope s.heap.objs.size f cd).kindOf (ps.zip us) fun _=>none) (cellsFrom (s.heap.objs.size+1) scope.names []) (bindC (envOfC qual scope s.heap.objs.size f cd).kindOf (ps.zip us) fun _=>none) s1) :
 Inv (zKo CX P w K mg base N qual scope f cd A outer s H E) [] (start N vs) H s1:=by
 have hpl:ps.length<=N.length:=by have:=congrArg List.length S.pre;rw[zx] at this;omega
 obtain⟨h1,tk,rfl,hk⟩:=x.done
 have noA:∀b:Addr,b∉(zKo CX P w K mg base N qual scope f cd A outer s H E).ex:=fun b z=>absurd (show b∈([]:List Addr) from z) (by simp)
 refine⟨⟨e0.mod,S.kind,rfl,rfl,zK _,fun y z c h1 h2=>?_,fun y hy=>?_,fun y c _ h=>?_,fun _=>hd,Around.frames_deeper e0.frames,.inr ⟨rfl,rfl⟩,fun b z=>absurd z (noA b),e0.bs,e0.bsz,fun b _ _=>noA b,fun b z=>absurd z (noA b),e0.funs,e0.frf⟩,
  rfl,e0.bare,Un.kept hk,⟨_,x.toInCall.ns,fun i y v h1 h2 h3=>?_⟩,fun y c h=>⟨_,x.cell y c h⟩,e0.hok.fresh (zK _),fun y c h=>?_,fun p hp=>absurd (show p∈([]:lPO) from hp) (by simp),e0.hok.kept hk,?_⟩
 . exact name_of_addr x.apart (PySem.mem_of_lookup h1) (PySem.mem_of_lookup h2)
 . have hy:scope.names.lookup y=some .cell\/scope.names.lookup y=some .free:=hy
   rcases hy with hy | hy
   . exact zGp hy
   . exact absurd rfl (S.nofree _ (PySem.mem_of_lookup hy))
 . exact Nat.le_of_lt (x.above y c (PySem.mem_of_lookup h))
 . have hi:i<vs.length:=by
    unfold start at h2
    by_cases hi:i<vs.length
    . exact hi
    . rw[zT (by simpa using hi)] at h2
      rw[zBG] at h2
      split at h2 <;> cases h2
   have ha:vs[i]? = some v:=by
    unfold start at h2
    rw[zZ (by simpa using hi),zN] at h2
    cases e:vs[i]? with
    | none=>rw[e] at h2;cases h2
    | some a=>rw[e] at h2;cases h2;rfl
   obtain⟨u,hu,rv⟩:=r.get ha
   have hp:ps[i]? = some y:=by
    rw[<-S.pre,List.getElem?_take_of_lt (by omega)];exact h1
   have ndP:ps.Nodup:=by rw[<-S.pre];exact S.nd.sublist (List.take_sublist _ _)
   refine⟨u,rv,?_⟩
   rcases S.par y (zX hp) with k | k
   . exact .inl ⟨k,zFk ndP hp hu k⟩
   . obtain⟨c,e⟩:=zGp (n:=s.heap.objs.size+1) k
     refine .inr ⟨.inl k,c,e,?_⟩
     have q:=x.cell y c e
     rw[zFm ndP hp hu (by show scope.names.lookup y≠_;rw[k];decide)] at q
     exact q
 . exact e0.hok.fresh (Nat.le_of_lt (x.above y c (PySem.mem_of_lookup h)))
 . unfold start
   show _=N.length
   rw[zP,zD,zAH]
   omega
theorem fn_of {P:Program}{mg:sOV}{k:Nat}{f:Addr}{name qual:Str}{params:Arguments}{scope:Scope}{dV kV doc pm cdv ct oc:Value}{an od:Option Addr}
 {osl:Array (Option Value)}{sp:Sp}(lk:K.lookup f=some ⟨oc,od,.func (PySem.W.fnOf name qual params body scope dV kV doc pm an cdv ct),osl⟩)(hcd:PySem.W.codeIn K cdv qual=true)(S:zo N ps scope)
 (len:∀vs H Q E,sp vs H Q E->vs.length=ps.length)
 (hbody:∀(A:Around)(outer:List Env)(s:Shared)(H:Hp)(vs:List V)(Q:VK)(E:XK),zCe k (A.deeper (envOfC qual scope s.heap.objs.size f cdv))->sp vs H Q E ->
  ∃t,PSs (zKo CX P w K mg base N qual scope f cdv A outer s H E) body t/\t { nx:=fun _ H'=>Q .non H',rt:=Q } (start N vs) H) :
 zAK P w K mg base CX (k+1) f (PySem.W.fnOf name qual params body scope dV kV doc pm an cdv ct) ps sp:=by
 refine⟨len,fun A outer s H args us vs Q E hr e0 hb r hsp=>?_⟩
 have hl:=len _ _ _ _ hsp
 have KX:K.In s.heap:=e0.mod.kin.keeps fun b o e=>(e0.bs b o e).1
 have lim:s.heap.NoLimit:=e0.mod.nolimit.keeps fun b o e=>(e0.bs b o e).1
 have hkind:∀y∈ps.zip us,scope.names.lookup y.1=some .local\/(scope.names.lookup y.1=some .cell/\((cellsFrom (s.heap.objs.size+1) scope.names []).lookup y.1).isSome=true):=fun ⟨n,v⟩ hy=>by
  rcases S.par n (List.of_mem_zip hy).1 with q | q
  . exact .inl q
  . exact .inr ⟨q,PySem.W.cellsFrom_some _ _ _ (.inl q)⟩
 refine codeAny_call_function hr.depth (KX _ _ lk) rfl S.co S.gen rfl (PySem.W.codeRec_of KX hcd) (hb _ _ _ _ ?_)
 refine wpAny_newFunctionEnv_cells S.kind hkind fun env he s1 x=>?_
 subst he
 refine⟨lim.keeps x.toInCall.keep,codeAny_func ?_⟩
 obtain⟨t,ht,hq⟩:=hbody A outer s H vs Q E (hr.deeper _) hsp
 have I:Inv (zKo CX P w K mg base N qual scope f cdv A outer s H E) [] (start N vs) H s1:=zIl S hr.hd e0 hl r x
 refine zBI (ht [] s1 (start N vs) H _ I hq) (fun fl s' hs=>?_) fun e s' hs=>hs
 have fin:∀{σ':St}{H':Hp}{v:V}{u:Value},Inv (zKo CX P w K mg base N qual scope f cdv A outer s H E) [] σ' H' s'->zBH v u->Q v H'->CE outer P w H s Q u s':=
  fun {σ' H' v u} J rv q=>⟨v,H',J.os,J.bare,J.base,J.hok,rv,q⟩
 cases fl with
 | ret u=>
  obtain⟨v,σ',H',J,rv,q⟩:=hs
  exact fin J rv q
 | next=>
  obtain⟨σ',H',J,q⟩:=hs
  exact fin (v:=V.non) (u:=Value.none) J rfl q
 | brk=>
  obtain⟨_,_,_,q⟩:=hs
  exact False.elim q
 | cont=>
  obtain⟨_,_,_,q⟩:=hs
  exact False.elim q
section
variable {X:Cx}{x:Str}{p pos:Pos}{e:Expr}{es:List Expr}{t:TA}{id T:String}{r:List V->Hp->VK->Prop}
noncomputable def tCB (r:List V->Hp->VK->Prop)(t:TA):TE:=fun σ H Q=>t σ H fun vs H1=>r vs H1 Q
theorem zAL (hc:zCl X (.builtin id) r)(hm:X.mg x=none)(ha:PA X (e::es) t)(hg:Gl X x:=by rfl)(hv:bootBuiltins x=some (.builtin id):=by decide +kernel)(hn:x ≠ "__name__" := by decide) (hdb:(x==("__debug__" : Str))=false:=by decide)
 (he:starEach (e::es) X.env=(false,eval e X.env)::starEach es X.env:=by rfl)(hpl:(backTo pos (starEach es X.env)).any (·.1)=false:=by rfl):PE X (.Call (.Name x p) (e::es) [] pos) (tCB r t):=by
 intro pins s σ H Q I h
 refine zBW (zCm I hg hm hv ?_ hn hdb)
 exact PyProof.Rows.callWith_builtin1 (thn (ha pos pins s σ H _ I h) fun us s1 ⟨vs,H1,I1,r1,q1⟩=>hc pins s1 σ H1 vs us Q I1 r1 q1) he hpl
theorem zAy (hc:zCl X (.type T) r)(hm:X.mg x=none)(ha:PA X (e::es) t)(hg:Gl X x:=by rfl)(hv:bootBuiltins x=some (.type T):=by decide +kernel)(hn:x ≠ "__name__" := by decide) (hdb:(x==("__debug__" : Str))=false:=by decide)
 (he:starEach (e::es) X.env=(false,eval e X.env)::starEach es X.env:=by rfl)(hpl:(backTo pos (starEach es X.env)).any (·.1)=false:=by rfl):PE X (.Call (.Name x p) (e::es) [] pos) (tCB r t):=by
 intro pins s σ H Q I h
 refine zBW (zCm I hg hm hv ?_ hn hdb)
 exact PyProof.Rows.callWith_type1 (thn (ha pos pins s σ H _ I h) fun us s1 ⟨vs,H1,I1,r1,q1⟩=>hc pins s1 σ H1 vs us Q I1 r1 q1) he hpl
end
section
variable {κ:Type} [DecidableEq κ]
noncomputable def zBz (kvs:List (κ×V))(k:κ):Option V:=(kvs.find? fun kv=>decide (kv.1=k)).map (·.2)
noncomputable def zCH (kvs:List (κ×V))(k:κ)(v:V):List (κ×V):=
 if (kvs.any fun kv=>decide (kv.1=k))=true then kvs.map (fun kv=>if kv.1=k then (kv.1,v) else kv) else kvs++[(k,v)]
noncomputable def zBy (kvs:List (κ×V))(k:κ):List (κ×V):=kvs.filter fun kv=>decide (kv.1≠k)
theorem zEh {k:κ}:zBz ([]:List (κ×V)) k=none:=rfl
theorem zBK {p:κ×V}{r:List (κ×V)}{k:κ}(e:p.1=k):zBz (p::r) k=some p.2:=by simp[zBz,zBi,e]
theorem zBE {p:κ×V}{r:List (κ×V)}{k:κ}(e:¬ p.1=k):zBz (p::r) k=zBz r k:=by simp[zBz,zBi,e]
theorem zBs (k:κ):∀kvs:List (κ×V),(kvs.any fun kv=>decide (kv.1=k))=(zBz kvs k).isSome
 | []=>rfl
 | p::r=>by
  rw[List.any_cons]
  by_cases e:p.1=k
  . simp only[zBK e,zO e,Bool.true_or,Option.isSome_some]
  . rw[zBE e,zY e,Bool.false_or];exact zBs k r
theorem zGJ (k j:κ)(y:V):∀kvs:List (κ×V),zBz (kvs.map fun kv=>if kv.1=k then (kv.1,y) else kv) j=(zBz kvs j).map fun x=>if j=k then y else x
 | []=>rfl
 | p::r=>by
  have ih:=zGJ k j y r
  rw[zAF]
  by_cases h:p.1=k
  . rw[if_pos h]
    by_cases e:p.1=j
    . rw[zBK (p:=(p.1,y)) e,zBK e,zAi,if_pos (e.symm.trans h)]
    . rw[zBE (p:=(p.1,y)) e,zBE e,ih]
  . rw[if_neg h]
    by_cases e:p.1=j
    . rw[zBK (p:=p) e,zBK e,zAi,if_neg (fun z=>h (e.trans z))]
    . rw[zBE (p:=p) e,zBE e,ih]
theorem zE6 (k j:κ)(y:V):∀kvs:List (κ×V),zBz kvs k=none->zBz (kvs++[(k,y)]) j=if j=k then some y else zBz kvs j
 | [],_=>by
  by_cases e:k=j
  . rw[if_pos e.symm];exact zBK (p:=(k,y)) e
  . rw[if_neg (fun z=>e z.symm)];exact zBE (p:=(k,y)) e
 | p::r,hn=>by
  rw[List.cons_append]
  have hk:¬ p.1=k:=fun z=>by rw[zBK z] at hn;cases hn
  rw[zBE hk] at hn
  have ih:=zE6 k j y r hn
  by_cases e:p.1=j
  . rw[zBK e,zBK e,if_neg (fun z=>hk (e.trans z))]
  . rw[zBE e,zBE e,ih]
theorem zCt (kvs:List (κ×V))(k j:κ)(y:V):zBz (zCH kvs k y) j=if j=k then some y else zBz kvs j:=by
 unfold zCH
 by_cases a:(kvs.any fun kv=>decide (kv.1=k))=true
 . rw[if_pos a,zGJ]
   rw[zBs] at a
   by_cases e:j=k
   . obtain⟨x,hx⟩:=zAs.mp a
     rw[if_pos e,e,hx,zAi,if_pos rfl]
   . rw[if_neg e]
     cases zBz kvs j with
     | none=>rfl
     | some x=>rw[zAi,if_neg e]
 . rw[if_neg a]
   refine zE6 k j y kvs ?_
   rw[zBs] at a
   cases q:zBz kvs k with
   | none=>rfl
   | some x=>rw[q] at a;exact (a rfl).elim
theorem zBL (kvs:List (κ×V))(k:κ)(v:V):(zCH kvs k v).length<=kvs.length+1:=by
 unfold zCH
 split
 . rw[zD];omega
 . rw[zP,zn,List.length_nil];omega
theorem zGW {kvs:List (κ×V)}{k:κ}(v:V)(h:zBz kvs k=none):zCH kvs k v=kvs++[(k,v)]:=by
 unfold zCH
 rw[zBs,h]
 exact if_neg (by decide)
theorem zEg.isSome_eq {o:Option V}{u:Option Value}(r:zEg o u):o.isSome=u.isSome:=by
 cases o with
 | none=>cases u with
  | none=>rfl
  | some _=>exact (show False from r).elim
 | some _=>cases u with
  | none=>exact (show False from r).elim
  | some _=>rfl
theorem zEg.getD {o:Option V}{u:Option Value}{d:V}{d':Value}(r:zEg o u)(rd:zBH d d'):zBH (o.getD d) (u.getD d'):=by
 cases o with
 | none=>cases u with
  | none=>exact rd
  | some _=>exact (show False from r).elim
 | some _=>cases u with
  | none=>exact (show False from r).elim
  | some _=>exact r
theorem KV.val {kvs:List (κ×V)}{vs:List (κ×Value)}(r:KV kvs vs)(k:κ):zEg (zBz kvs k) (valueAt vs k):=by
 unfold KV at r
 induction r with
 | nil=>exact True.intro
 | @cons p q ps qs h t ih=>
  obtain⟨h1,h2⟩:=h
  by_cases e:p.1=k
  . have e':q.1=k:=h1.symm.trans e
    have b:valueAt (q::qs) k=some q.2:=by simp[valueAt,zBi,e']
    rw[zBK e,b];exact h2
  . have e':¬ q.1=k:=fun z=>e (h1.trans z)
    have b:valueAt (q::qs) k=valueAt qs k:=by simp[valueAt,zBi,e']
    rw[zBE e,b];exact ih
theorem KV.any {kvs:List (κ×V)}{vs:List (κ×Value)}(r:KV kvs vs)(k:κ):(kvs.any fun kv=>decide (kv.1=k))=vs.any fun kv=>decide (kv.1=k):=by
 unfold KV at r
 induction r with
 | nil=>rfl
 | cons h t ih=>rw[List.any_cons,List.any_cons,ih,h.1]
theorem KV.repl {kvs:List (κ×V)}{vs:List (κ×Value)}(r:KV kvs vs)(k:κ)(ry:zBH y u) :
 KV (kvs.map fun kv=>if kv.1=k then (kv.1,y) else kv) (vs.map fun kv=>if kv.1=k then (kv.1,u) else kv):=by
 unfold KV at r ⊢
 induction r with
 | nil=>exact .nil
 | @cons p q ps qs h t ih=>
  rw[zAF,zAF]
  refine .cons ?_ ih
  obtain⟨h1,h2⟩:=h
  by_cases e:p.1=k
  . rw[if_pos e,if_pos (h1.symm.trans e)];exact⟨h1,ry⟩
  . rw[if_neg e,if_neg (fun z=>e (h1.trans z))];exact⟨h1,h2⟩
theorem KV.put {kvs:List (κ×V)}{vs:List (κ×Value)}(r:KV kvs vs)(k:κ)(ry:zBH y u):KV (zCH kvs k y) (stored vs k u):=by
 unfold zCH stored
 rw[r.any k]
 by_cases e:(vs.any fun kv=>decide (kv.1=k))=true
 . rw[if_pos e,if_pos e];exact r.repl k ry
 . rw[if_neg e,if_neg e];exact Paired.snoc r ⟨rfl,ry⟩
theorem KV.drop {kvs:List (κ×V)}{vs:List (κ×Value)}(r:KV kvs vs)(k:κ):KV (zBy kvs k) (without vs k):=by
 unfold KV at r ⊢
 unfold zBy without
 induction r with
 | nil=>exact .nil
 | @cons p q ps qs h t ih=>
  obtain⟨h1,h2⟩:=h
  rw[zA2,zA2]
  by_cases e:p.1=k
  . have a:¬ decide (p.1≠k)=true:=by simp[e]
    have b:¬ decide (q.1≠k)=true:=by simp[h1.symm.trans e]
    rw[if_neg a,if_neg b];exact ih
  . have e':¬ q.1=k:=fun z=>e (h1.trans z)
    have a:decide (p.1≠k)=true:=by simp[e]
    have b:decide (q.1≠k)=true:=by simp[e']
    rw[if_pos a,if_pos b];exact .cons ⟨h1,h2⟩ ih
theorem KV.length {kvs:List (κ×V)}{vs:List (κ×Value)}(r:KV kvs vs):kvs.length=vs.length:=Paired.length r
theorem zGl (kvs:List (κ×V))(k:κ):(zBy kvs k).length<=kvs.length:=zr _ _
end
theorem zEJ {P:Program}{k:Key}(r:zBH (kV k) u):(zAW P w).is k u=true:=by
 cases k with
 | inl i=>obtain⟨t,e⟩:=(show ∃t,u=Value.int i t from r);subst e;exact zF1 P w i t
 | inr x=>obtain⟨t,e⟩:=(show ∃t,u=Value.str x t from r);subst e;exact zF0 P w x t
theorem zFY {P:Program}{w:World}:∀{ks:List Key}{us:List Value},zA8 (ks.map kV) us->ItemsAre (zAW P w) ks us
 | [],_,r=>by rw[List.map_nil] at r;cases r;exact .nil
 | k::ks,_,r=>by
  rw[zAF] at r
  cases r with
  | cons h t=>exact .cons (zEJ h) (zFY t)
noncomputable abbrev KT (H:Hp):List (List Key×V)->List (List Key×Addr×Value)->Prop:=Paired fun p q=>p.1=q.1/\H q.2.1=some (.tup (p.1.map kV))/\zBH p.2 q.2.2
variable {xs:List (List Key×Addr×Value)}{kvs:List (List Key×V)}
theorem KT.val (r:KT H kvs xs)(k:List Key):zEg (zBz kvs k) ((atKey xs k).map (·.2)):=by
 induction r with
 | nil=>exact True.intro
 | @cons p q ps qs h t ih=>
  obtain⟨h1,_,h2⟩:=h
  by_cases e:p.1=k
  . have e':q.1=k:=h1.symm.trans e
    have b:atKey (q::qs) k=some q.2:=by simp[atKey,zBi,e']
    rw[zBK e,b];exact h2
  . have e':¬ q.1=k:=fun z=>e (h1.trans z)
    have b:atKey (q::qs) k=atKey qs k:=by simp[atKey,zBi,e']
    rw[zBE e,b];exact ih
theorem KT.repl (r:KT H kvs xs)(k:List Key)(ry:zBH y u) :
 KT H (kvs.map fun kv=>if kv.1=k then (kv.1,y) else kv) (xs.map (putAt k u)):=by
 induction r with
 | nil=>exact .nil
 | @cons p q ps qs h t ih=>
  rw[zAF,zAF]
  refine .cons ?_ ih
  obtain⟨h1,h2,h3⟩:=h
  unfold putAt
  by_cases e:p.1=k
  . rw[if_pos e,if_pos (h1.symm.trans e)];exact⟨h1,h2,ry⟩
  . rw[if_neg e,if_neg (fun z=>e (h1.trans z))];exact⟨h1,h2,h3⟩
theorem KT.put (r:KT H kvs xs)(k:List Key)(hb:H b=some (.tup (k.map kV)))(ry:zBH y u) :
 KT H (zCH kvs k y) (storedH xs k b u):=by
 have e:(kvs.any fun kv=>decide (kv.1=k))=(atKey xs k).isSome:=by
  rw[zBs,(r.val k).isSome_eq,Option.isSome_map]
 unfold zCH storedH
 rw[e]
 by_cases q:(atKey xs k).isSome=true
 . rw[if_pos q,if_pos q];exact r.repl k ry
 . rw[if_neg q,if_neg q];exact Paired.snoc r ⟨rfl,hb,ry⟩
theorem KT.keeps (r:KT H kvs xs)(ht:∀b ys,H b=some (.tup ys)->H' b=some (.tup ys)):KT H' kvs xs:=
 Paired.mapP r fun _ _ z=>⟨z.1,ht _ _ z.2.1,z.2.2⟩
section
variable {P:Program}{w:World}{H:Hp}{h:Heap}{a:Addr}
theorem rd_of {u:HO}(ok:HOk P w H h)(e:Rd H a u):zBe P w H h a u:=e.ok ok
theorem zF8 {kvs:List (Key×V)}(ok:HOk P w H h)(e:Rd H a (.dK kvs)):kvs.length<=sizeLine/\(a==sysModules)=false/\∃vs,KV kvs vs/\h.DictOf (zAW P w) a vs:=
 show zBe P w H h a (.dK kvs) from rd_of ok e
theorem zIu {kvs:List (Key×V)}(ok:HOk P w H h)(e:H a=some (.dK kvs)):kvs.length<=sizeLine/\(a==sysModules)=false/\∃vs,KV kvs vs/\h.DictOf (zAW P w) a vs:=zF8 ok (.inl e)
theorem zDq {ks:List Key}(ok:HOk P w H h)(e:H a=some (.tup (ks.map kV))):(tupleKind (zAW P w)).is h ks a:=by
 obtain⟨_,its,r,o,h1,h2,n,h3⟩:=(show zBe P w H h a (.tup (ks.map kV)) from ok a _ e)
 exact⟨o,its.toArray,n,h1,h2,h3,by simpa using zFY r⟩
theorem zF7 (ok:HOk P w H h)(e:Rd H a (.dT kvs)):kvs.length<=sizeLine/\(a==sysModules)=false /\
 ∃xs,KT H kvs xs/\h.DictOfH (tupleKind (zAW P w)) a xs:=by
 obtain⟨z,y,xs,r,o,es,ep,h1,h2,h3,h4,h5⟩:=(show zBe P w H h a (.dT kvs) from rd_of ok e)
 refine⟨z,y,xs,r,o,es,ep,h1,h2,h3,h4,fun x hx=>?_,h5⟩
 have all:∀{l:List (List Key×V)}{m:List (List Key×Addr×Value)},KT H l m->∀x∈m,(tupleKind (zAW P w)).is h x.1 x.2.1:=by
  intro l m q
  induction q with
  | nil=>intro x hx;exact nomatch hx
  | @cons p q ps qs hq t ih=>
   intro x hx
   rcases zc.mp hx with e | hx
   . subst e
     exact zDq ok (by rw[<-hq.1];exact hq.2.1)
   . exact ih x hx
 exact all r x hx
theorem dt_of (ok:HOk P w H h)(e:H a=some (.dT kvs)):kvs.length<=sizeLine/\(a==sysModules)=false /\
 ∃xs,KT H kvs xs/\h.DictOfH (tupleKind (zAW P w)) a xs:=zF7 ok (.inl e)
end
noncomputable def zED (H:Hp)(a:Addr)(y:V)(r:Option V):Prop:=
 (∃kvs k,Rd H a (.dK kvs)/\y=kV k/\r=zBz kvs k)\/∃kvs k b,Rd H a (.dT kvs)/\y = .ref b/\H b=some (.tup (k.map kV))/\r=zBz kvs k
noncomputable def zHW (H:Hp)(a:Addr)(y v:V)(H':Hp):Prop:=
 (∃kvs k,H a=some (.dK kvs)/\y=kV k/\kvs.length<sizeLine/\H'=upd H a (.dK (zCH kvs k v))) \/
 ∃kvs k b,H a=some (.dT kvs)/\y = .ref b/\H b=some (.tup (k.map kV))/\kvs.length<sizeLine/\H'=upd H a (.dT (zCH kvs k v))
theorem zED.k {kvs:List (Key×V)}{k:Key}(e:H a=some (.dK kvs)):zED H a (kV k) (zBz kvs k):=.inl ⟨kvs,k,.inl e,rfl,rfl⟩
theorem zED.t {k:List Key}(e:H a=some (.dT kvs))(eb:H b=some (.tup (k.map kV))):zED H a (.ref b) (zBz kvs k):=.inr ⟨kvs,k,b,.inl e,rfl,eb,rfl⟩
theorem zHW.k {kvs:List (Key×V)}{k:Key}(e:H a=some (.dK kvs))(hl:kvs.length<sizeLine):zHW H a (kV k) v (upd H a (.dK (zCH kvs k v))):=.inl ⟨kvs,k,e,rfl,hl,rfl⟩
theorem zHW.t {k:List Key}(e:H a=some (.dT kvs))(eb:H b=some (.tup (k.map kV)))(hl:kvs.length<sizeLine) :
 zHW H a (.ref b) v (upd H a (.dT (zCH kvs k v))):=.inr ⟨kvs,k,b,e,rfl,eb,hl,rfl⟩
section
variable {X:Cx}{pins:lPO}{σ:St}{H:Hp}{s:Shared}{a:Addr}{y v:V}{u r:Value}{o:Option V}{A:Around}{E:vSP}
theorem Inv.big (I:Inv X pins σ H s):sysModules<s.heap.objs.size:=by
 have h:mainGlobals<s.heap.objs.size:=(I.mod.glob.keeps I.bk).lt
 exact Nat.lt_trans (by decide) h
theorem zI0 {Q:vSP}(hu:A.units+1<cLine)(I:Inv X pins σ H s)(g:zED H a y (some v))(ry:zBH y u)(h:∀w' s',Inv X pins σ H s'->zBH v w'->Q w' s') :
 wpAny (model X.prog X.w) A (getItem (.ref a) u) Q E s:=by
 rcases g with ⟨kvs,k,e,ey,l⟩ | ⟨kvs,k,b,e,ey,eb,l⟩
 . subst ey
   obtain⟨z,hd,vs,rel,dd⟩:=zF8 I.hok e
   obtain⟨w',hw,rw'⟩:=zEg.some_of (v:=v) (o:=valueAt vs k) (by rw[l];exact rel.val k)
   exact wpAny_getItem_of (zEJ ry) dd.mapOf hw (h w' _ (I.tok _) rw')
 . subst ey
   cases (show u=Value.ref b from ry)
   obtain⟨z,hd,xs,rel,dd⟩:=zF7 I.hok e
   obtain⟨w',hw,rw'⟩:=zEg.some_of (v:=v) (o:=(atKey xs k).map (·.2)) (by rw[l];exact rel.val k)
   obtain⟨p,hp,hp2⟩:=Option.map_eq_some_iff.mp hw
   refine wpAny_getItem_heap (tupleKind_room_in1 hu) (zDq I.hok eb) dd hp ?_
   rw[hp2]
   exact h w' _ (I.tok _) rw'
theorem d_in {Q:vSP}(hu:A.units+1<cLine)(I:Inv X pins σ H s)(g:zED H a y o)(ry:zBH y u)(h:∀s',Inv X pins σ H s'->Q (.bool o.isSome) s') :
 wpAny (model X.prog X.w) A (compareOp .In u (.ref a)) Q E s:=by
 rcases g with ⟨kvs,k,e,ey,l⟩ | ⟨kvs,k,b,e,ey,eb,l⟩
 . subst ey
   obtain⟨z,hd,vs,rel,dd⟩:=zF8 I.hok e
   refine wpAny_in_of (zEJ ry) hd dd.mapOf ?_
   rw[<-(rel.val k).isSome_eq,<-l]
   exact h _ (I.tok _)
 . subst ey
   cases (show u=Value.ref b from ry)
   obtain⟨z,hd,xs,rel,dd⟩:=zF7 I.hok e
   refine wpAny_in_heap (tupleKind_room_in1 hu) (zDq I.hok eb) hd dd ?_
   have q:=(rel.val k).isSome_eq
   rw[Option.isSome_map] at q
   rw[<-q,<-l]
   exact h _ (I.tok _)
theorem zD2 {h':Heap}{ob:HO}(I:Inv X pins σ H s)(mu:Mut (H a))(hs:Heap.SameBut a s.heap h')(he:∃q,h'.get? a=some q)(new:zBe X.prog X.w (upd H a ob) h' a ob) :
 Inv X pins σ (upd H a ob) { s with heap:=h',toks:=t' }:=
 I.write (x:=a) (e:=a) mu (.inl rfl) (fun b q hb z=>(hs.2 b hb).trans z) he new
theorem zGm {P:Program}{h':Heap}{kvs:List (Key×V)}{vs:List (Key×Value)}(z:kvs.length<=sizeLine)(hd:(a==sysModules)=false)(rel:KV kvs vs)(dd:h'.DictOf (zAW P w) a vs) :
 zBe P w H' h' a (.dK kvs):=⟨z,hd,vs,rel,dd⟩
theorem zIz (hu:A.units+1<cLine)(I:Inv X pins σ H s)(g:zHW H a y v H')(ry:zBH y u)(rv:zBH v r)(h:∀s',Inv X pins σ H' s'->Q () s') :
 wpAny (model X.prog X.w) A (setItem (.ref a) u r) Q E s:=by
 rcases g with ⟨kvs,k,e,ey,l,eH⟩ | ⟨kvs,k,b,e,ey,eb,l,eH⟩
 . subst ey eH
   obtain⟨z,hd,vs,rel,dd⟩:=zIu I.hok e
   have hz:vs.length<=sizeLine:=by rw[<-rel.length];exact z
   have hl:(zCH kvs k v).length<=sizeLine:=by have:=zBL kvs k v;omega
   refine wpAny_setItem_pairs (hsz:=hz) (zEJ ry) dd fun h' dd' hs=>h _ ?_
   have he:∃q,h'.get? a=some q:=let ⟨q,_,_,hq,_⟩:=dd';⟨q,hq⟩
   exact zD2 I (by rw[e];exact True.intro) hs he (zGm hl hd (rel.put k rv) dd')
 . subst ey eH
   cases (show u=Value.ref b from ry)
   obtain⟨z,hd,xs,rel,dd⟩:=dt_of I.hok e
   have hz:xs.length<=sizeLine:=by rw[<-Paired.length rel];exact z
   have hl:(zCH kvs k v).length<=sizeLine:=by have:=zBL kvs k v;omega
   refine wpAny_setItem_heap (hsz:=hz) (tupleKind_room_in1 hu) (zDq I.hok eb) dd fun h' dd' hs=>h _ ?_
   obtain⟨q,es,ep,hq,h2,h3,h4,_,h5⟩:=dd'
   refine zD2 I (by rw[e];exact True.intro) hs ⟨q,hq⟩ ⟨hl,hd,_,(rel.put k eb rv).keeps fun c ys ec=>?_,q,es,ep,hq,h2,h3,h4,h5⟩
   rw[zd (zAp ec e (fun z=>nomatch z))]
   exact ec
end
section
variable {X:Cx}{pins:lPO}{σ:St}{H:Hp}{s:Shared}{a:Addr}{kvs:List (Key×V)}{k:Key}{u:Value}{A:Around}{E:vSP}
theorem d_pop {more:List Value}{Q:vSP}(I:Inv X pins σ H s)(e:H a=some (.dK kvs))(ry:zBH (kV k) u)(l:zBz kvs k=some v)(hm:more=[]\/∃x,more=[x])
 (h:∀w' s',Inv X pins σ (upd H a (.dK (zBy kvs k))) s'->zBH v w'->Q w' s'):wpAny (model X.prog X.w) A (call (.builtin "dict.pop") (.ref a::u::more)) Q E s:=by
 obtain⟨z,hd,vs,rel,dd⟩:=zIu I.hok e
 obtain⟨w',hw,rw'⟩:=zEg.some_of (v:=v) (o:=valueAt vs k) (by rw[<-l];exact rel.val k)
 have hp:(keyPart u).isSome=true:=by
  cases k with
  | inl i=>obtain⟨t,q⟩:=(show ∃t,u=Value.int i t from ry);subst q;rfl
  | inr x=>obtain⟨t,q⟩:=(show ∃t,u=Value.str x t from ry);subst q;rfl
 have ha:argsOk "dict.pop" ⟨.ref a::u::more,[]⟩:=by
  rcases hm with q | ⟨x,q⟩
  . subst q;exact PySem.F.args_dict_pop_2 _ _
  . subst q;exact PySem.F.args_dict_pop_3 _ _ _
 refine call_meetsIn PySem.F.slot_dict_pop dd.typeIs PySem.F.entry_dict_pop ha (meets_dict_pop_there (zAW X.prog X.w) a (zEJ ry) more hm hp)
  ⟨vs,w',dd,by rw[<-rel.length];exact z,hw,fun h' dd' hs=>h w' _ ?_ rw'⟩
 have he:∃q,h'.get? a=some q:=let ⟨q,_,_,hq,_⟩:=dd';⟨q,hq⟩
 exact zD2 I (by rw[e];exact True.intro) hs he (zGm (zAD (zGl kvs k) z) hd (rel.drop k) dd')
end
noncomputable def NoSl (i:Expr):Prop:=∀ov iv,subscripted i false ov iv=operate [ov,iv] (getItem ov iv)
theorem zHf {prog:Program}{E:vSP}{env:Env}{value slice:Expr}{T id:String}{Q:vSP}
 (hl:typeLookup (.type T) "__getitem__" = pure (some (.builtin id))) (hs:NoSl slice)
 (h:wpAny (model prog w) A (eval value env) (fun o s₁=>wpAny (model prog w) A (eval slice env) (fun i s₂=>s₂.TypeIs o T/\wpAny (model prog w) A (getItem o i) Q E s₂) E s₁) E s) :
 wpAny (model prog w) A (eval (.Subscript value slice pos) env) Q E s:=by
 refine Subscript_ (zBI h (fun o s₁ h₁=>zBI h₁ (fun i s₂ h₂=>?_) fun _ _ x=>x) fun _ _ x=>x)
 obtain⟨hT,h₂⟩:=h₂
 unfold subscriptTail
 refine zA ?_
 rw[getitemInPython_of_ne hT.not_modules]
 refine zA (wpAny_specialOf hT hl ?_)
 have fin:wpAny (model prog w) A (subscripted slice false o i) (fun r s₃=>wpAny (model prog w) A (letTemporaryGo value o r >>= fun _=>pure r) Q E s₃) E s₂:=by
  rw[hs o i]
  exact wpAny_operating (zBI h₂ (fun r s₃ h₃=>zA (wpAny_letTemporaryGo (zF h₃))) fun _ _ x=>x)
 first
  | exact zF (zA fin)
  | exact zA (zF (zA fin))
  | exact zA fin
theorem zF9 {pins:lPO}{o:Option V}(I:Inv X pins σ H s)(g:zED H a y o):s.TypeIs (.ref a) "dict" := by
 rcases g with ⟨kvs,k,e,_,_⟩ | ⟨kvs,k,b,e,_,_,_⟩
 . obtain⟨_,_,vs,_,dd⟩:=zF8 I.hok e
   exact dd.typeIs
 . obtain⟨_,_,xs,_,dd⟩:=zF7 I.hok e
   exact dd.typeIs
noncomputable def tDGet (td ty:TE):TE:=fun σ H Q=>td σ H fun x H1=>ty σ H1 fun y H2=>∃a v,x = .ref a/\zED H2 a y (some v)/\Q v H2
noncomputable def tDIn (ty td:TE):TE:=fun σ H Q=>ty σ H fun y H1=>td σ H1 fun x H2=>∃a o,x = .ref a/\zED H2 a y o/\Q (.bl o.isSome) H2
noncomputable def sDPut (td ty tv:TE):TS:=fun D σ H=>tv σ H fun v H1=>td σ H1 fun x H2=>ty σ H2 fun y H3=>∃a H4,x = .ref a/\zHW H3 a y v H4/\D.nx σ H4
section
variable {X:Cx}{o i e value:Expr}{pos pos' tpos:Pos}{td ty tv:TE}
theorem zEu (hu:X.A.units+1<cLine)(ho:PE X o td)(hi:PE X i ty)(hs:NoSl i):PE X (.Subscript o i pos) (tDGet td ty):=by
 intro pins s σ H Q I h
 refine zHf PySem.F.slot_dict_getitem.lookup hs (thn (ho pins s σ H _ I h) fun u s1 ⟨x,H1,I1,rx,q1⟩=>thn (hi pins s1 σ H1 _ I1 q1) fun iv s2 ⟨y,H2,I2,ry,a,v,ex,g,q2⟩=>?_)
 subst ex
 obtain rfl:u=Value.ref a:=rx
 exact⟨zF9 I2 g,zI0 hu I2 g ry fun w' s3 I3 rw'=>⟨v,H2,I3,rw',q2⟩⟩
theorem zIN (hu:X.A.units+1<cLine)(hi:PE X i ty)(ho:PE X o td):PC X .In i o (tDIn ty td):=by
 intro pins s σ H Q I h
 refine thn (hi pins s σ H _ I h) fun iv s1 ⟨y,H1,I1,ry,q1⟩=>thn (ho pins s1 σ H1 _ I1 q1) fun u s2 ⟨x,H2,I2,rx,a,ov,ex,g,q2⟩=>?_
 subst ex
 obtain rfl:u=Value.ref a:=rx
 exact d_in hu I2 g ry fun s3 I3=>⟨.bl ov.isSome,H2,I3,rfl,q2⟩
theorem zCp (hu:X.A.units+1<cLine)(ho:PE X o td)(hi:PE X i ty)(hv:PE X value tv)(hs:swapsWith value (some (.Subscript o i pos')) pos.line X.env=pure false) :
 PS X (.Assign [.Subscript o i pos'] value pos) (sDPut td ty tv):=by
 intro pins s σ H D I h
 refine wpAny_Assign_Subscript (thn (hv pins s σ H _ I h) fun r s1 ⟨v,H1,I1,rv,q1⟩=>thn (ho pins s1 σ H1 _ I1 q1) fun u s2 ⟨x,H2,I2,rx,q2⟩=>thn (hi pins s2 σ H2 _ I2 q2) fun iv s3 ⟨y,H3,I3,ry,a,H4,ex,g,q3⟩=>?_) hs
 subst ex
 obtain rfl:u=Value.ref a:=rx
 exact zIz hu I3 g ry rv fun s4 I4=>⟨σ,H4,I4,q3⟩
end
theorem zKB {P:Program}(h:Heap)(hb:sysModules<h.objs.size):zBe P w H (h.push { cls:=.type "dict",data:=.dict #[] }) h.objs.size (.dK []):=
 ⟨zh _,beq_eq_false_iff_ne.mpr (Ne.symm (ze hb)),[],.nil,Heap.DictOf.new h⟩
theorem zKA {P:Program}(h:Heap)(hb:sysModules<h.objs.size):zBe P w H (h.push { cls:=.type "dict",data:=.dict #[] }) h.objs.size (.dT []):=
 ⟨zh _,beq_eq_false_iff_ne.mpr (Ne.symm (ze hb)),[],.nil,_,#[],0,zS _ rfl,⟨rfl,rfl,rfl⟩,rfl,rfl,List.nodup_nil⟩
noncomputable def tDNewT:TE:=fun _ H Q=>∀p,H p=none->Q (.ref p) (upd H p (.dT []))
section
variable {X:Cx}{pos:Pos}
theorem zEt:PE X (.Dict [] [] pos) tDNewT:=fun pins s σ H Q I h=>
 wpAny_Dict_empty ⟨.ref s.heap.objs.size,_,I.laid (a:=s.heap.objs.size) (o:=.dT []) (t':=s.toks) (fun _ _ q=>zH _ q) (zK _) (zKA s.heap I.big),rfl,h _ (I.hok.fresh (zK _))⟩
end
noncomputable def zHd:List (TE×TE)->St->Hp->(List (V×V)->Hp->Prop)->Prop
 | [],_,H,Q=>Q [] H
 | (tk,tv)::r,σ,H,Q=>tk σ H fun x H1=>tv σ H1 fun y H2=>zHd r σ H2 fun ps H3=>Q ((x,y)::ps) H3
noncomputable abbrev VV:List (V×V)->List (Value×Value)->Prop:=Paired fun p q=>zBH p.1 q.1/\zBH p.2 q.2
noncomputable def PPs (X:Cx)(pos:Pos)(keys:List (Option Expr))(values:List Expr)(trs:List (TE×TE)):Prop:=
 ∀(pins:lPO)(s:Shared)(σ:St)(H:Hp)(Q:List (V×V)->Hp->Prop),Inv X pins σ H s->zHd trs σ H Q ->
  wpAny (model X.prog X.w) X.A (evalPairs (pairTrees keys values X.env pos)) (fun vs s'=>∃ps H',Inv X pins σ H' s'/\VV ps vs/\Q ps H') X.xe s
theorem zLS:PPs X pos [] [] []:=fun pins s σ H Q I h=>pairTrees_nil_walk ⟨[],H,I,.nil,h⟩
theorem zJj {k v:Expr}{ks:List (Option Expr)}{vs:List Expr}{tk tv:TE}{trs:List (TE×TE)}(hk:PE X k tk)(hv:PE X v tv)(hr:PPs X pos ks vs trs) :
 PPs X pos (some k::ks) (v::vs) ((tk,tv)::trs):=fun pins s σ H Q I h=>
 pairTrees_cons_walk (thn (hk pins s σ H _ I h) fun u s1 ⟨x,H1,I1,rx,q1⟩=>thn (hv pins s1 σ H1 _ I1 q1) fun w2 s2 ⟨y,H2,I2,ry,q2⟩=>
  thn (hr pins s2 σ H2 _ I2 q2) fun ws s3 ⟨ps,H3,I3,rel,q3⟩=>⟨(x,y)::ps,H3,I3,.cons ⟨rx,ry⟩ rel,q3⟩)
noncomputable def zEX (kvs more:List (Key×V)):List (Key×V):=more.foldl (fun acc kv=>zCH acc kv.1 kv.2) kvs
theorem KV.merge:∀{more:List (Key×V)}{rs:List (Key×Value)}{kvs:List (Key×V)}{vs:List (Key×Value)},KV more rs->KV kvs vs->KV (zEX kvs more) (merged vs rs):=by
 intro more rs kvs vs r
 unfold KV at r
 induction r generalizing kvs vs with
 | nil=>intro q;exact q
 | @cons p q ps qs h t ih=>
  intro r0
  have e:KV (zCH kvs p.1 p.2) (stored vs q.1 q.2):=by
   have:=r0.put p.1 h.2
   rw[<-h.1];exact this
  exact ih e
theorem zC2:∀(more kvs:List (Key×V)),(zEX kvs more).length<=kvs.length+more.length
 | [],kvs=>by show kvs.length<=kvs.length+0;omega
 | p::r,kvs=>by
  have h1:=zC2 r (zCH kvs p.1 p.2)
  have h2:=zBL kvs p.1 p.2
  show (zEX (zCH kvs p.1 p.2) r).length<=_
  rw[zn];omega
theorem zEe {P:Program}{w:World}:∀{kvs:List (Key×V)}{ws:List (Value×Value)},VV (kvs.map fun kv=>(kV kv.1,kv.2)) ws->∃rs,Carries (zAW P w) ws rs/\KV kvs rs
 | [],_,r=>by rw[List.map_nil] at r;cases r;exact⟨[],True.intro,.nil⟩
 | p::kvs,_,r=>by
  rw[zAF] at r
  cases r with
  | @cons a b as bs h t=>
   obtain⟨rs,c,q⟩:=zEe (P:=P) (w:=w) t
   obtain⟨b1,b2⟩:=b
   exact⟨(p.1,b2)::rs,⟨zEJ h.1,rfl,c⟩,.cons ⟨rfl,h.2⟩ q⟩
noncomputable def tDisp (trs:List (TE×TE)):TE:=fun σ H Q=>∀p,H p=none->zHd trs σ (upd H p (.dK [])) fun ps H2=>H2 p=some (.dK [])/\∃kvs:List (Key×V),ps=kvs.map (fun kv=>(kV kv.1,kv.2))/\kvs.length<=15/\Q (.ref p) (upd H2 p (.dK (zEX [] kvs)))
theorem zLV {keys:List (Option Expr)}{values:List Expr}{trs:List (TE×TE)}(h:PPs X pos keys values trs)(hall:keys.all (·.isSome)=true)(hl:keys.length=values.length)(h0:keys≠[])
 (h15:keys.length<=15):PE X (.Dict keys values pos) (tDisp trs):=by
 intro pins s σ H Q I q
 have hn:=I.hok.fresh (zK s.heap.objs.size)
 have I1:=I.laid (a:=s.heap.objs.size) (o:=.dK []) (h':=s.heap.push { cls:=.type "dict",data:=.dict #[] }) (t':=s.toks) (fun _ _ q=>zH _ q) (zK _) (zKB s.heap I.big)
 refine wpAny_Dict_walk (knd:=zAW X.prog X.w) hall hl h0 h15 (thn (h pins _ σ _ _ I1 (q _ hn)) fun ws s2 ⟨ps,H2,I2,rel,e,kvs,ep,lk,q2⟩=>?_)
 subst ep
 obtain⟨rs,c,rk⟩:=zEe (P:=X.prog) (w:=X.w) rel
 obtain⟨z,hd,vs0,r0,dd⟩:=zIu I2.hok e
 cases r0
 refine⟨rs,c,dd,fun h' dd' hs=>⟨.ref s.heap.objs.size,_,?_,rfl,q2⟩⟩
 have hz:(zEX [] kvs).length<=sizeLine:=by
  have h1:=zC2 kvs []
  rw[List.length_nil] at h1
  rw[sizeLine_eq];omega
 have he:∃q,h'.get? s.heap.objs.size=some q:=let ⟨q,_,_,hq,_⟩:=dd';⟨q,hq⟩
 exact zD2 I2 (by rw[e];exact True.intro) hs he (zGm hz hd (rk.merge .nil) dd')
structure M1 (X:Cx)(o:Expr)(m:Str)(apos:Pos)(e:Expr)(cpos:Pos):Prop where
 base:attributeBase o m X.env (eval o X.env)=eval o X.env
 few:((backTo cpos (starEach [e] X.env)).all (fun x=>!x.1) && (backToKw cpos (keywordEach [] X.env)).all (fun x=>x.1.isSome)
  && decide (([e]:List Expr).length+([]:List Keyword).length+(if ([]:List Keyword).isEmpty then 0 else 1)<30))=true
 line:(apos.endLine==cpos.line)=true
 trees:backTo cpos (starEach [e] X.env)=[(false,eval e X.env)]
structure M2 (X:Cx)(o:Expr)(m:Str)(apos:Pos)(e f:Expr)(cpos:Pos):Prop where
 base:attributeBase o m X.env (eval o X.env)=eval o X.env
 few:((backTo cpos (starEach [e,f] X.env)).all (fun x=>!x.1) && (backToKw cpos (keywordEach [] X.env)).all (fun x=>x.1.isSome)
  && decide (([e,f]:List Expr).length+([]:List Keyword).length+(if ([]:List Keyword).isEmpty then 0 else 1)<30))=true
 line:(apos.endLine==cpos.line)=true
 trees:backTo cpos (starEach [e,f] X.env)=[(false,eval e X.env),(false,eval f X.env)]
noncomputable def IsD (H:Hp)(a:Addr):Prop:=(∃kvs,Rd H a (.dK kvs))\/∃kvs,Rd H a (.dT kvs)
theorem zGg {pins:lPO}(I:Inv X pins σ H s)(d:IsD H a) :
 s.TypeIs (.ref a) "dict" /\ (∀b,Value.ref a = .ref b->∃ob,s.heap.get? b=some ob/\ob.dict=none)/\(a==sysModules)=false:=by
 rcases d with ⟨kvs,e⟩ | ⟨kvs,e⟩
 . obtain⟨_,hd,vs,_,dd⟩:=zF8 I.hok e
   refine⟨dd.typeIs,fun b q=>?_,hd⟩
   cases q
   obtain⟨ob,_,_,h1,h2,_⟩:=dd
   exact⟨ob,h1,h2.2.1⟩
 . obtain⟨_,hd,xs,_,dd⟩:=zF7 I.hok e
   refine⟨dd.typeIs,fun b q=>?_,hd⟩
   cases q
   obtain⟨ob,_,_,h1,h2,_⟩:=dd
   exact⟨ob,h1,h2.2.1⟩
section
variable {X:Cx}{pins:lPO}{σ:St}{H:Hp}{s:Shared}{a:Addr}{y d:V}{u r:Value}{o:Option V}{A:Around}{E:vSP}
theorem d_get1 {Q:vSP}(hu:A.units+1<cLine)(I:Inv X pins σ H s)(g:zED H a y o)(ry:zBH y u)(h:∀w' s',Inv X pins σ H s'->zBH (o.getD .non) w'->Q w' s') :
 wpAny (model X.prog X.w) A (call (.builtin "dict.get") [.ref a,u]) Q E s:=by
 rcases g with ⟨kvs,k,e,ey,l⟩ | ⟨kvs,k,b,e,ey,eb,l⟩
 . subst ey
   obtain⟨z,hd,vs,rel,dd⟩:=zF8 I.hok e
   refine call_meetsIn PySem.F.slot_dict_get dd.typeIs PySem.F.entry_dict_get (PySem.F.args_dict_get_2 _ _) (meets_dict_get (zAW X.prog X.w) a (zEJ ry) hd) ⟨_,dd.mapOf,h _ _ (I.tok _) ?_⟩
   rw[l]
   exact (rel.val k).getD rfl
 . subst ey
   cases (show u=Value.ref b from ry)
   obtain⟨z,hd,xs,rel,dd⟩:=zF7 I.hok e
   refine call_meetsIn PySem.F.slot_dict_get dd.typeIs PySem.F.entry_dict_get (PySem.F.args_dict_get_2 _ _) (meetsH_dict_get (tupleKind (zAW X.prog X.w)) a b hd) ⟨tupleKind_room_in1 hu,k,xs,zDq I.hok eb,dd,h _ _ (I.tok _) ?_⟩
   rw[l]
   exact (rel.val k).getD rfl
theorem d_get2 {Q:vSP}(hu:A.units+1<cLine)(I:Inv X pins σ H s)(g:zED H a y o)(ry:zBH y u)(rd:zBH d r)(h:∀w' s',Inv X pins σ H s'->zBH (o.getD d) w'->Q w' s') :
 wpAny (model X.prog X.w) A (call (.builtin "dict.get") [.ref a,u,r]) Q E s:=by
 rcases g with ⟨kvs,k,e,ey,l⟩ | ⟨kvs,k,b,e,ey,eb,l⟩
 . subst ey
   obtain⟨z,hd,vs,rel,dd⟩:=zF8 I.hok e
   refine call_meetsIn PySem.F.slot_dict_get dd.typeIs PySem.F.entry_dict_get (PySem.F.args_dict_get_3 _ _ _) (meets_dict_get_default (zAW X.prog X.w) a (zEJ ry) hd r) ⟨_,dd.mapOf,h _ _ (I.tok _) ?_⟩
   rw[l]
   exact (rel.val k).getD rd
 . subst ey
   cases (show u=Value.ref b from ry)
   obtain⟨z,hd,xs,rel,dd⟩:=zF7 I.hok e
   refine call_meetsIn PySem.F.slot_dict_get dd.typeIs PySem.F.entry_dict_get (PySem.F.args_dict_get_3 _ _ _) (meetsH_dict_get_default (tupleKind (zAW X.prog X.w)) a b hd r) ⟨tupleKind_room_in1 hu,k,xs,zDq I.hok eb,dd,h _ _ (I.tok _) ?_⟩
   rw[l]
   exact (rel.val k).getD rd
end
noncomputable def tDGet1 (td ty:TE):TE:=fun σ H Q=>td σ H fun x H1=>∃a,x = .ref a/\IsD H1 a/\ty σ H1 fun y H2=>∃o,zED H2 a y o/\Q (o.getD .non) H2
noncomputable def tDGet2 (td ty tx:TE):TE:=fun σ H Q=>td σ H fun x H1=>∃a,x = .ref a/\IsD H1 a/\ty σ H1 fun y H2=>tx σ H2 fun z H3=>∃o,zED H3 a y o/\Q (o.getD z) H3
noncomputable def tDPop1 (td ty:TE):TE:=fun σ H Q=>td σ H fun x H1=>∃a,x = .ref a/\IsD H1 a/\ty σ H1 fun y H2=>∃kvs k v,H2 a=some (.dK kvs)/\y=kV k/\zBz kvs k=some v/\Q v (upd H2 a (.dK (zBy kvs k)))
section
variable {X:Cx}{o e f:Expr}{apos cpos:Pos}{td ty tx:TE}
theorem zJo (hu:X.A.units+1<cLine)(ho:PE X o td)(he:PE X e ty)(m:M1 X o "get" apos e cpos):PE X (.Call (.Attribute o "get" apos) [e] [] cpos) (tDGet1 td ty):=by
 intro pins s σ H Q I h
 refine wpAny_Call_method m.base m.few m.line PySem.F.plainAttrs_dict PySem.F.slot_dict_get PySem.F.type_dict_get (thn (ho pins s σ H _ I h) fun u s1 ⟨x,H1,I1,rx,a,ex,d,q1⟩=>?_)
 subst ex
 obtain rfl:u=Value.ref a:=rx
 obtain⟨t1,t2,_⟩:=zGg I1 d
 refine⟨t1,t2,?_⟩
 rw[m.trees]
 refine Calls.callWith_builtin rfl (Calls.evalArgs_plain (Calls.spliced_cons (thn (he pins s1 σ H1 _ I1 q1) fun iv s2 ⟨y,H2,I2,ry,ov,g,q2⟩=>Calls.spliced_nil ?_)))
 exact d_get1 hu I2 g ry fun w' s3 I3 rw'=>⟨_,H2,I3,rw',q2⟩
theorem zJn (hu:X.A.units+1<cLine)(ho:PE X o td)(he:PE X e ty)(hf:PE X f tx)(m:M2 X o "get" apos e f cpos):PE X (.Call (.Attribute o "get" apos) [e,f] [] cpos) (tDGet2 td ty tx):=by
 intro pins s σ H Q I h
 refine wpAny_Call_method m.base m.few m.line PySem.F.plainAttrs_dict PySem.F.slot_dict_get PySem.F.type_dict_get (thn (ho pins s σ H _ I h) fun u s1 ⟨x,H1,I1,rx,a,ex,d,q1⟩=>?_)
 subst ex
 obtain rfl:u=Value.ref a:=rx
 obtain⟨t1,t2,_⟩:=zGg I1 d
 refine⟨t1,t2,?_⟩
 rw[m.trees]
 refine Calls.callWith_builtin rfl (Calls.evalArgs_plain (Calls.spliced_cons (thn (he pins s1 σ H1 _ I1 q1) fun iv s2 ⟨y,H2,I2,ry,q2⟩=>
  Calls.spliced_cons (thn (hf pins s2 σ H2 _ I2 q2) fun fv s3 ⟨z,H3,I3,rz,ov,g,q3⟩=>Calls.spliced_nil ?_))))
 exact d_get2 hu I3 g ry rz fun w' s4 I4 rw'=>⟨_,H3,I4,rw',q3⟩
theorem zJm (ho:PE X o td)(he:PE X e ty)(m:M1 X o "pop" apos e cpos):PE X (.Call (.Attribute o "pop" apos) [e] [] cpos) (tDPop1 td ty):=by
 intro pins s σ H Q I h
 refine wpAny_Call_method m.base m.few m.line PySem.F.plainAttrs_dict PySem.F.slot_dict_pop PySem.F.type_dict_pop (thn (ho pins s σ H _ I h) fun u s1 ⟨x,H1,I1,rx,a,ex,d,q1⟩=>?_)
 subst ex
 obtain rfl:u=Value.ref a:=rx
 obtain⟨t1,t2,_⟩:=zGg I1 d
 refine⟨t1,t2,?_⟩
 rw[m.trees]
 refine Calls.callWith_builtin rfl (Calls.evalArgs_plain (Calls.spliced_cons (thn (he pins s1 σ H1 _ I1 q1) fun iv s2 ⟨y,H2,I2,ry,kvs,k,v,ea,ey,l,q2⟩=>Calls.spliced_nil ?_)))
 subst ey
 exact d_pop I2 ea ry l (.inl rfl) fun w' s3 I3 rw'=>⟨v,_,I3,rw',q2⟩
end
end L2
namespace HT
open PySem PyProof.Rows
noncomputable def lexLt:List Int->List Int->Bool
 | [],[]=>false
 | [],_::_=>true
 | _::_,[]=>false
 | x::xs,y::ys=>if x=y then lexLt xs ys else decide (x<y)
theorem lexLt_cons (x y:Int)(xs ys:List Int):lexLt (x::xs) (y::ys)=if x=y then lexLt xs ys else decide (x<y):=rfl
theorem zEy:lexLt [] []=false:=rfl
theorem zEG (y:Int)(ys:List Int):lexLt [] (y::ys)=true:=rfl
theorem zEH (x:Int)(xs:List Int):lexLt (x::xs) []=false:=rfl
theorem zJ9 (A:Around)(s:Shared)(a:Int)(t:Tok)(c:Int)(u:Tok):∃e,SeqAt.EqAt A s (.int a t) (.int c u) e/\(e=true↔a=c):=
 ⟨(a==c),SeqAt.EqAt.int_int a t c u,by simp⟩
theorem zJe (A:Around)(s:Shared)(a:Int)(t:Tok)(c:Int)(u:Tok)(prog:Program)(w:World)(E:vSP)(Q:vSP)(h:Q (.bool (decide (a<c))) s) :
 wpAny (model prog w) A (richCompare .Lt (.int a t) (.int c u)) Q E s:=
 (PyProof.Rows.lt_int h:wpAny (model prog w) A (compareOp .Lt (.int a t) (.int c u)) Q E s)
section
open PySem.SeqAt
open PySem.AutoSeq1 (wpAny_loadPart')
open PySem.MeetsSeq PySem.MeetsSeq2 PySem.MeetsSeq3
theorem zEi (l b:Addr)(items items2:Array Value)(n n2:Nat)(dd dd2:Option Addr)(sl sl2:Array (Option Value))(ns ms:List Int)(hi:IntsAre items.toList ns)(hj:IntsAre items2.toList ms) :
 Meets (Builtin.«tuple.__lt__» ⟨[.ref l,.ref b],[]⟩)
  (fun _ R s=>s.heap.get? l=some { cls:=.type "tuple",dict:=dd,data:=.seq items n,slots:=sl }/\s.heap.get? b=some { cls:=.type "tuple",dict:=dd2,data:=.seq items2 n2,slots:=sl2 } /\
   R (.ok (.ret (.bool (lexLt ns ms)))) s):=
 .of_wp fun prog w A R s h=>by
  obtain⟨hp,g,d,tk,os⟩:=s;obtain⟨hl,hb,h⟩:=h
  have f2:=AutoSeq1.sub_tuple_tuple
  have z1:items.size=ns.length:=by rw[<-hi.length];simp
  have z2:items2.size=ms.length:=by rw[<-hj.length];simp
  wp_walk using wpAny_loadPart' hl,wpAny_loadPart' hb,wpAny_forIn_list _ (fun rest b s'=>b.1=none/\s'=⟨hp,g,d,tk,os⟩/\∃(vs ws:List Value)(ns' ms':List Int),rest=vs.zip ws /\
   IntsAre vs ns'/\IntsAre ws ms'/\ns'.length+items2.size=ms'.length+items.size/\R (.ok (.ret (.bool (lexLt ns' ms')))) ⟨hp,g,d,tk,os⟩) _
  case turn=>
   rintro ⟨y,x⟩ rest b s' ⟨hb',rfl,vs,ws,ns',ms',hz,hvi,hwi,hlen,hR⟩
   cases hvi with
   | nil=>rw[List.zip_nil_left] at hz;cases hz
   | cons a t hvi'=>
    cases hwi with
    | nil=>rw[List.zip_nil_right] at hz;cases hz
    | cons c u hwi'=>
     rw[List.zip_cons_cons] at hz
     injection hz with hyx hrest
     injection hyx with hy hx
     subst hy hx
     rw[lexLt_cons] at hR
     simp only[zn] at hlen
     obtain⟨e,he,hiff⟩:=zJ9 A.in1 ⟨hp,g,d,tk,os⟩ a t c u
     refine zA (he prog w _ _ ?_)
     cases e with
     | true=>
      rw[if_pos (hiff.mp rfl)] at hR
      wp_walk
      exact⟨rfl,rfl,_,_,_,_,hrest,hvi',hwi',by omega,hR⟩
     | false=>
      rw[if_neg (fun q=>absurd (hiff.mpr q) zb)] at hR
      have hri:=zJe A.in1 ⟨hp,g,d,tk,os⟩ a t c u prog w
      wp_walk using hri
      exact⟨_,rfl,by simpa using hR⟩
  case fin=>
   rintro ⟨b1,b2⟩ s' ⟨hb',rfl,vs,ws,ns',ms',hz,hvi,hwi,hlen,hR⟩
   simp only at hb'
   subst hb'
   have hv:lexLt ns' ms'=decide (items.size<items2.size):=by
    cases hvi with
    | nil=>
     cases hwi with
     | nil=>
      simp only[List.length_nil] at hlen
      rw[zEy]
      exact (zY (by omega)).symm
     | cons c u hw=>
      simp only[List.length_nil,zn] at hlen
      rw[zEG]
      exact (zO (by omega)).symm
    | cons a t hv=>
     cases hwi with
     | nil=>
      simp only[List.length_nil,zn] at hlen
      rw[zEH]
      exact (zY (by omega)).symm
     | cons c u hw=>
      rw[List.zip_cons_cons] at hz
      cases hz
   rw[hv] at hR
   wp_walk
   exact⟨_,rfl,by simpa [Builtin.Tuple.tupleCompareSizes] using hR⟩
  case h=>
   exact⟨rfl,rfl,items.toList,items2.toList,ns,ms,rfl,hi,hj,by omega,h⟩
end
section
variable {prog:Program}{w:World}{A:Around}{E:vSP}{s:Shared}
theorem lt_tupInts {l b:Addr}{items items2:Array Value}{ns ms:List Int}{Q:vSP}(hl:IsTup s.heap l items)(hb:IsTup s.heap b items2)(hi:IntsAre items.toList ns)(hj:IntsAre items2.toList ms)
 (hu:A.units<cLine)(h:Q (.bool (lexLt ns ms)) s):wpAny (model prog w) A (compareOp .Lt (.ref l) (.ref b)) Q E s:=by
 obtain⟨⟨cls,dd,data,sl⟩,ho,hc,n,hd⟩:=id hl
 obtain⟨⟨cls2,dd2,data2,sl2⟩,ho2,hc2,n2,hd2⟩:=id hb
 simp only at hc hd hc2 hd2
 subst hc hd hc2 hd2
 exact richCompare_meets_room (op:=.Lt) ⟨_,ho,rfl⟩ ⟨_,ho2,rfl⟩ PySem.F.slot_tuple_lt PySem.F.entry_tuple_lt (PySem.F.args_tuple_lt_2 _ _) (zEi l b items items2 n n2 dd dd2 sl sl2 ns ms hi hj)
  ⟨ho,ho2,show Value.bool (lexLt ns ms)≠Value.notImplemented/\Q (.bool (lexLt ns ms)) s from ⟨(fun x=>nomatch x),h⟩⟩ hu
theorem cat_tup {t b:Addr}{vs ws:List Value}{Q:vSP}(ht:IsTup s.heap t vs.toArray)(hb:IsTup s.heap b ws.toArray)(hv:vs≠[])
 (h1:ws=[]->Q (.ref t) s)(h2:ws≠[]->Q (.ref s.heap.objs.size) { s with heap:=s.heap.push { cls:=.type "tuple",data:=.seq (vs++ws).toArray } })
 (hsz:vs.length+ws.length<=sizeLine):wpAny (model prog w) A (binaryOp .Add (.ref t) (.ref b)) Q E s:=by
 obtain⟨⟨cls,dd,data,sl⟩,ho,hc,n,hd⟩:=id ht
 obtain⟨⟨cls2,dd2,data2,sl2⟩,ho2,hc2,n2,hd2⟩:=id hb
 simp only at hc hd hc2 hd2
 subst hc hd hc2 hd2
 have e:vs.toArray++ws.toArray=(vs++ws).toArray:=by simp
 by_cases hw:ws=[]
 . exact concat_meets ⟨_,ho,rfl⟩ ⟨_,ho2,rfl⟩ noFill_tuple_add seq_tuple_add PySem.F.slot_tuple_add PySem.F.entry_tuple_add (PySem.F.args_tuple_add_2 _ _)
    (tuple_addW1 t b vs.toArray ws.toArray n n2 dd dd2 sl sl2 (by simpa using hv) (by simp[hw])) ⟨ho,ho2,h1 hw⟩
 . refine concat_meets ⟨_,ho,rfl⟩ ⟨_,ho2,rfl⟩ noFill_tuple_add seq_tuple_add PySem.F.slot_tuple_add PySem.F.entry_tuple_add (PySem.F.args_tuple_add_2 _ _)
    (tuple_addW2 t b vs.toArray ws.toArray n n2 dd dd2 sl sl2 (by simpa using hv) (by simpa using hw) (by rw[zM,zM];exact hsz)) ⟨ho,ho2,?_⟩
   rw[e]
   exact h2 hw
noncomputable def sIx (n d:Nat):Option Int->Nat
 | none=>d
 | some v=>if v<0 then (v+(n:Int)).toNat else min v.toNat n
theorem sIx_none (n d:Nat):sIx n d none=d:=rfl
theorem sIx_nat (n d k:Nat):sIx n d (some (k:Int))=min k n:=by
 show (if (k:Int)<0 then ((k:Int)+(n:Int)).toNat else min (k:Int).toNat n)=min k n
 rw[if_neg (by omega),zAe]
theorem sIx_le (n d:Nat)(hd:d<=n)(o:Option Int):sIx n d o<=n:=by
 cases o with
 | none=>exact hd
 | some v=>
  show (if v<0 then (v+(n:Int)).toNat else min v.toNat n)<=n
  by_cases hv:v<0
  . rw[if_pos hv];omega
  . rw[if_neg hv];exact Nat.min_le_right _ _
theorem zI4 (v:Int)(n d:Nat):(if v<0 then max (v+(n:Int)) 0 else min v (n:Int))=((sIx n d (some v):Nat):Int):=by
 show (if v<0 then max (v+(n:Int)) 0 else min v (n:Int))=(((if v<0 then (v+(n:Int)).toNat else min v.toNat n):Nat):Int)
 by_cases hv:v<0
 . simp only[if_pos hv];omega
 . simp only[if_neg hv];omega
theorem zHT (lo hi:Option Int) (n:Nat):Builtin.Slice.sliceAdjust lo hi 1 (n:Int)=(((sIx n 0 lo:Nat):Int),((sIx n n hi:Nat):Int)):=by
 have h1:¬ ((1:Int)<0):=by omega
 unfold Builtin.Slice.sliceAdjust
 simp only[h1,if_false]
 refine Prod.ext ?_ ?_
 . cases lo with
   | none=>rfl
   | some v=>exact zI4 v n 0
 . cases hi with
   | none=>rfl
   | some v=>exact zI4 v n n
theorem zG6 (i j:Nat):Builtin.Slice.slicePlaces (i:Int) (j:Int) 1=j-i:=by
 unfold Builtin.Slice.slicePlaces
 have h1:(1:Int) > 0:=by omega
 simp only[h1,if_true,Int.ediv_one]
 split <;> omega
theorem zEP {v:Value} {o:Option Int} {Q:Option Int->Shared->Prop} (p:IsPart v o) (h:Q o s):wpAny (model prog w) A (Builtin.Slice.slicePartIndex v) Q E s:=by
 cases p with
 | none=>exact slicePart_none h
 | int i t=>exact slicePart_int h
theorem zCQ {sl:Addr}{vl vu:Value}{lo hi:Option Int}{n:Nat}{Q:Int×Int×Nat->Shared->Prop}(hs:s.heap.IsSliceOf sl vl vu .none)(pl:IsPart vl lo)(pu:IsPart vu hi)
 (h:Q (((sIx n 0 lo:Nat):Int),1,sIx n n hi-sIx n 0 lo) s):wpAny (model prog w) A (Builtin.Slice.sliceApplied (.ref sl) (pure (n:Int))) Q E s:=by
 obtain⟨os,hos,hcs,hds⟩:=id hs
 unfold Builtin.Slice.sliceApplied Builtin.Slice.sliceFields
 refine zA (zA (wpAny_field hos hds (x:=vl) rfl (zA (wpAny_field hos hds (x:=vu) rfl (zA (wpAny_field hos hds (x:=.none) rfl (zF ?_)))))))
 refine zA (slicePart_none ?_)
 show wpAny _ _ (if ((1:Int)==0)=true then _ else _) _ _ s
 rw[if_neg (by decide)]
 refine zA (zEP pl (zA (zEP pu (zA (zF ?_)))))
 show wpAny _ _ (match Builtin.Slice.sliceAdjust lo hi 1 (n:Int) with | (lo,hi)=>pure (lo,(1:Int),Builtin.Slice.slicePlaces lo hi 1)) _ _ s
 rw[zHT lo hi n]
 show wpAny _ _ (pure (((sIx n 0 lo:Nat):Int),(1:Int),Builtin.Slice.slicePlaces ((sIx n 0 lo:Nat):Int) ((sIx n n hi:Nat):Int) 1)) _ _ s
 rw[zG6]
 exact zF h
theorem zJk (xs:Array Value)(i k:Nat):((List.range k).filterMap fun (m:Nat)=>xs[((i:Int)+(m:Int)*1).toNat]?).toArray=((xs.toList.drop i).take k).toArray:=by
 have e:(fun (m:Nat)=>xs[((i:Int)+(m:Int)*1).toNat]?)=fun m=>xs[i+m]?:=by
  funext m
  have:((i:Int)+(m:Int)*1).toNat=i+m:=by omega
  rw[this]
 rw[e]
 have:=pick_run xs i k
 rw[List.filterMap_map] at this
 have e2:((fun x=>xs[x]?)∘fun x=>i+x)=fun m=>xs[i+m]?:=rfl
 rw[e2] at this
 rw[this]
theorem getItem_tuple_cut {t sl:Addr}{items:Array Value}{vl vu:Value}{lo hi:Option Int}{Q:vSP}(ht:IsTup s.heap t items)(hs:s.heap.IsSliceOf sl vl vu .none)(pl:IsPart vl lo)(pu:IsPart vu hi)
 (hw:¬ (sIx items.size 0 lo=0/\sIx items.size items.size hi=items.size))
 (h:Q (.ref s.heap.objs.size) { s with heap:=s.heap.push { cls:=.type "tuple",data:=.seq ((items.toList.drop (sIx items.size 0 lo)).take (sIx items.size items.size hi-sIx items.size 0 lo)).toArray } })
 (hsz:items.size<=sizeLine):wpAny (model prog w) A (getItem (.ref t) (.ref sl)) Q E s:=by
 have htake:sizeOk (.seq ((items.toList.drop (sIx items.size 0 lo)).take (sIx items.size items.size hi-sIx items.size 0 lo)).toArray):=by
  show ((items.toList.drop (sIx items.size 0 lo)).take (sIx items.size items.size hi-sIx items.size 0 lo)).toArray.size<=sizeLine
  rw[zM,zx,List.length_drop,Array.length_toList]
  omega
 have hj:sIx items.size items.size hi<=items.size:=sIx_le _ _ (zK _) hi
 obtain⟨os,hos,hcs,hds⟩:=id hs
 have hTs:s.TypeIs (.ref sl) "slice" := ⟨os,hos,hcs⟩
 unfold getItem
 try with_reducible refine zAR ?_
 first | refine zA (zF ?_) | skip
 refine zA (wpAny_sequenceKey ht.typeIs (by decide) ?_)
 refine zA (zAv (name:=Str.ofString "__getitem__") ht.typeIs PyProof.Rows.slot_tuple_getitem
  (zA0 PyProof.Rows.slot_tuple_getitem ht.typeIs entry_tuple_getitem ?_ (args_tuple_getitem _ _)))
 show wpAny _ _ (Builtin.Tuple.tupleItemsOf (.ref t) >>= _) _ _ s
 refine zA (tupleItemsOf_ ht ?_)
 refine zA (zBV hTs ?_)
 rw[if_pos (by decide)]
 refine zA (zCQ hs pl pu ?_)
 have hno:¬ ((((sIx items.size 0 lo:Nat):Int)==0 && (1:Int)==1 && (sIx items.size items.size hi-sIx items.size 0 lo)==items.size)=true):=by
  intro q
  rw[Bool.and_eq_true,Bool.and_eq_true] at q
  have q1:((sIx items.size 0 lo:Nat):Int)=0:=eq_of_beq q.1.1
  have q2:sIx items.size items.size hi-sIx items.size 0 lo=items.size:=eq_of_beq q.2
  exact hw ⟨by omega,by omega⟩
 show wpAny _ _ (if (((sIx items.size 0 lo:Nat):Int)==0 && (1:Int)==1 && (sIx items.size items.size hi-sIx items.size 0 lo)==items.size)=true then _ else _) _ _ s
 rw[if_neg hno,zJk]
 first
  | exact zA (m:=Builtin.Tuple.tupleExact _) (zAk (zF ⟨_,rfl,zF h⟩) htake)
  | exact zA (m:=Builtin.Tuple.tupleExact _) (zAk (zA (zF (zF ⟨_,rfl,zF h⟩))) htake)
  | exact zA (zA (m:=Builtin.Tuple.tupleExact _) (zAk (zF (zF ⟨_,rfl,zF h⟩)) htake))
  | exact zA (zA (m:=Builtin.Tuple.tupleExact _) (zAk (zF ⟨_,rfl,zF h⟩) htake))
end
end HT
namespace L2
open PySem PySem.Spec PyProof.Rows
noncomputable abbrev TO:=St->Hp->(Option Int->Hp->Prop)->Prop
noncomputable def PO (X:Cx)(e:Option Expr)(t:TO):Prop:=
 ∀(pins:lPO)(s:Shared)(σ:St)(H:Hp)(Q:Option Int->Hp->Prop),Inv X pins σ H s->t σ H Q ->
  wpAny (model X.prog X.w) X.A (evalPart e X.env) (fun u s'=>∃o H',Inv X pins σ H' s'/\IsPart u o/\Q o H') X.xe s
noncomputable def zKw:TO:=fun _ H Q=>Q none H
noncomputable def tPart (t:TE):TO:=fun σ H Q=>t σ H fun x H1=>∃i,x = .int i/\Q (some i) H1
theorem zBh {ns:List Int}:∀{us:List Value},zA8 (ns.map V.int) us->IntsAre us ns:=by
 induction ns with
 | nil=>intro us r;rw[List.map_nil] at r;cases r;exact .nil
 | cons n ns ih=>
  intro us r
  rw[zAF] at r
  cases r with
  | cons r1 r2=>
   obtain⟨t,e⟩:=r1
   subst e
   exact .cons n t (ih r2)
variable {xs:List V}
section
variable {X:Cx}{e:Expr}{te:TE}{lo hi:Option Expr}{tl th:TO}{pos p2:Pos}
theorem zII:PO X none zKw:=by
 intro pins s σ H Q I h
 rw[evalPart_none]
 exact zF ⟨none,H,I,.none,h⟩
theorem zIH (h:PE X e te):PO X (some e) (tPart te):=by
 intro pins s σ H Q I hw
 rw[evalPart_some]
 refine thn (h pins s σ H _ I hw) fun u s1 ⟨x,H1,I1,r1,q1⟩=>?_
 obtain⟨i,rfl,q⟩:=q1
 obtain⟨t,rfl⟩:=r1
 exact⟨some i,H1,I1,.int i t,q⟩
noncomputable def SlR (X:Cx)(r:V->Option Int->Option Int->Hp->VK->Prop):Prop:=
 ∀(pins:lPO)(s:Shared)(σ:St)(H:Hp)(x:V)(v vl vu:Value)(lo hi:Option Int)(sl:Addr)(Q:VK),Inv X pins σ H s->zBH x v->s.heap.IsSliceOf sl vl vu .none->IsPart vl lo->IsPart vu hi->r x lo hi H Q ->
  ∃T id,typeLookup (.type T) "__getitem__" = pure (some (.builtin id))/\s.TypeIs v T/\wpAny (model X.prog X.w) X.A (getItem v (.ref sl)) (EP X pins σ Q) X.xe s
noncomputable def tSl (r:V->Option Int->Option Int->Hp->VK->Prop)(te:TE)(tl th:TO):TE:=fun σ H Q=>te σ H fun x H1=>tl σ H1 fun l H2=>th σ H2 fun u H3=>r x l u H3 Q
theorem zGZ {r:V->Option Int->Option Int->Hp->VK->Prop}(hr:SlR X r)(he:PE X e te)(hl:PO X lo tl)(hu:PO X hi th):PE X (.Subscript e (.Slice lo hi none p2) pos) (tSl r te tl th):=by
 intro pins s σ H Q I h
 refine Subscript_ (thn (he pins s σ H _ I h) fun v s1 ⟨x,H1,I1,r1,q1⟩=>?_)
 refine wpAny_Slice (thn (hl pins s1 σ H1 _ I1 q1) fun vl s2 ⟨l,H2,I2,pl,q2⟩=>thn (hu pins s2 σ H2 _ I2 q2) fun vu s3 ⟨u,H3,I3,pu,q3⟩=>?_)
 rw[evalPart_none]
 refine zF ?_
 have I4:Inv X pins σ H3 { s3 with heap:=s3.heap.push { cls:=.type "slice",data:=.fields #[vl,vu,.none] } }:=I3.kept (t':=s3.toks) fun b ob q=>zH _ q
 obtain⟨T,id,hT,ht,hg⟩:=hr pins { s3 with heap:=s3.heap.push { cls:=.type "slice",data:=.fields #[vl,vu,.none] } } σ H3 x v vl vu l u s3.heap.objs.size Q I4 r1 (Heap.IsSliceOf.new ..) pl pu q3
 show wpAny (model X.prog X.w) X.A (subscriptTail e (.Slice lo hi none p2) v (.ref s3.heap.objs.size)) (EP X pins σ Q) X.xe { s3 with heap:=s3.heap.push { cls:=.type "slice",data:=.fields #[vl,vu,.none] } }
 exact tail_any (ops:=[.ref s3.heap.objs.size,v]) ht hT hg (by with_unfolding_all rfl)
noncomputable def zHO (xs:List V)(lo hi:Option Int):List V:=(xs.drop (HT.sIx xs.length 0 lo)).take (HT.sIx xs.length xs.length hi-HT.sIx xs.length 0 lo)
theorem zD3 (xs:List V)(lo hi:Option Int):(zHO xs lo hi).length<=xs.length:=by
 unfold zHO
 rw[zx,List.length_drop]
 omega
noncomputable def rSlT (K:PySem.W.Frag):V->Option Int->Option Int->Hp->VK->Prop:=fun x lo hi H Q=>∃a xs,x = .ref a/\SqT K H a xs /\
 ¬ (HT.sIx xs.length 0 lo=0/\HT.sIx xs.length xs.length hi=xs.length)/\∀p,H p=none->Q (.ref p) (upd H p (.tup (zHO xs lo hi)))
theorem sl_tup:SlR X (rSlT X.K):=by
 intro pins s σ H x v vl vu lo hi sl Q I rx hs pl pu h
 obtain⟨a,xs,rfl,hx,hw,q⟩:=h
 cases rx
 obtain⟨its,r,ht,hz⟩:=I.tuple hx
 have hlen:its.toArray.size=xs.length:=by rw[zM];exact r.length.symm
 refine⟨"tuple",_,PyProof.Rows.slot_tuple_getitem.lookup,ht.typeIs,?_⟩
 refine HT.getItem_tuple_cut ht hs pl pu (by rw[hlen];exact hw) ?_ (by rw[hlen];exact hz)
 rw[hlen]
 refine⟨.ref s.heap.objs.size,_,I.laid (t':=s.toks) (o:=.tup (zHO xs lo hi)) (fun b ob q=>zH _ q) (zK _) ?_,rfl,q _ (I.hok.fresh (zK _))⟩
 exact⟨⟨zAD (zD3 xs lo hi) hz,_,zS _ rfl,rfl⟩,_,(r.drop (HT.sIx xs.length 0 lo)).take (HT.sIx xs.length xs.length hi-HT.sIx xs.length 0 lo),IsTup.new _ _⟩
noncomputable def rCatT (K:PySem.W.Frag):R2:=fun x y H Q=>∃a b xs ys,x = .ref a/\y = .ref b/\SqT K H a xs/\SqT K H b ys/\xs≠[]/\xs.length+ys.length<=sizeLine /\
 (ys=[]->Q (.ref a) H)/\(ys≠[]->∀p,H p=none->Q (.ref p) (upd H p (.tup (xs++ys))))
theorem zA8.nil_iff {us:List Value}(r:zA8 xs us):us=[]↔xs=[]:=by
 cases r with
 | nil=>simp
 | cons _ _=>simp
theorem zLb:OpR X (binaryOp .Add) (rCatT X.K):=by
 intro pins s σ H x y v u Q I rx ry h
 obtain⟨a,b,xs,ys,rfl,rfl,ha,hb,hx,hz,q1,q2⟩:=h
 cases rx
 cases ry
 obtain⟨its,r1,p1,_⟩:=I.tuple ha
 obtain⟨its2,r2,p2,_⟩:=I.tuple hb
 refine HT.cat_tup p1 p2 (fun z=>hx (r1.nil_iff.mp z)) (fun z=>⟨.ref a,H,I,rfl,q1 (r2.nil_iff.mp z)⟩) (fun z=>?_) (by rw[<-r1.length,<-r2.length];exact hz)
 refine⟨.ref s.heap.objs.size,_,I.laid (t':=s.toks) (o:=.tup (xs++ys)) (fun b ob q=>zH _ q) (zK _) ?_,rfl,q2 (fun w=>z (r2.nil_iff.mpr w)) _ (I.hok.fresh (zK _))⟩
 exact⟨⟨by rw[zP];exact hz,_,zS _ rfl,rfl⟩,_,r1.append r2,IsTup.new _ _⟩
end
noncomputable def ixN (n:Nat)(i:Int):Option Nat:=if 0<=i then (if i<n then some i.toNat else none) else if -(n:Int)<=i then some (i+n).toNat else none
noncomputable def atI {α:Type}(xs:List α)(i:Int):Option α:=(ixN xs.length i).bind fun j=>xs[j]?
variable {n:Nat}
theorem zIj {i:Int}{j:Nat}(h:ixN n i=some j):seqIndex? i n=some j/\j<n /\ -(n:Int)<=i/\i<n:=by
 unfold ixN at h
 by_cases h0:0<=i
 . rw[if_pos h0] at h
   by_cases h1:i<n
   . rw[if_pos h1] at h
     have e:i.toNat=j:=zR h
     exact⟨by rw[seqIndex_of h0 h1,e],by omega,by omega,h1⟩
   . rw[if_neg h1] at h;cases h
 . rw[if_neg h0] at h
   by_cases h1 : -(n:Int)<=i
   . rw[if_pos h1] at h
     have e:(i+n).toNat=j:=zR h
     exact⟨by rw[seqIndex_neg (by omega) h1,e],by omega,h1,by omega⟩
   . rw[if_neg h1] at h;cases h
theorem zJA {α:Type}{xs:List α}{i:Int}{v:α}(h:atI xs i=some v):∃j,seqIndex? i xs.length=some j/\xs[j]? = some v/\j<xs.length /\ -(xs.length:Int)<=i/\i<xs.length:=by
 unfold atI at h
 cases e:ixN xs.length i with
 | none=>rw[e] at h;cases h
 | some j=>
  rw[e] at h
  obtain⟨h1,h2,h3,h4⟩:=zIj e
  exact⟨j,h1,h,h2,h3,h4⟩
theorem zCs {α:Type}{xs:List α}{j:Nat}{v:α}(h:xs[j]? = some v):atI xs (j:Int)=some v:=by
 have hj:j<xs.length:=(zJ.mp h).1
 have e:ixN xs.length (j:Int)=some j:=by
  unfold ixN
  rw[if_pos (by omega),if_pos (by omega)];simp
 unfold atI;rw[e];exact h
noncomputable def zJF (b:Expr):Prop:=∀o i,subscripted b false o i=operate [o,i] (getItem o i)
noncomputable def IxR (X:Cx)(r:R2):Prop:=
 ∀(value slice:Expr)(pins:lPO)(s:Shared)(σ:St)(H:Hp)(x y:V)(v u:Value)(Q:VK),Inv X pins σ H s->zBH x v->zBH y u->r x y H Q ->
  subscripted slice false v u=operate [v,u] (getItem v u)->wpAny (model X.prog X.w) X.A (subscriptTail value slice v u) (EP X pins σ Q) X.xe s
noncomputable def MtR (X:Cx)(id:String)(r:V->List V->Hp->VK->Prop):Prop:=
 ∀(pins:lPO)(s:Shared)(σ:St)(H:Hp)(x:V)(xs:List V)(v:Value)(us:List Value)(Q:VK),Inv X pins σ H s->zBH x v->zA8 xs us->r x xs H Q ->
  wpAny (model X.prog X.w) X.A (call (.builtin id) (v::us)) (EP X pins σ Q) X.xe s
variable {σ:St}{H:Hp}{s:Shared}{its:List Value}{x:V}
section
variable {X:Cx}{a b:Expr}{ta tb:TE}{pos:Pos}
theorem pe_ix {r:R2}(hr:IxR X r)(ha:PE X a ta)(hb:PE X b tb)(hs:zJF b):PE X (.Subscript a b pos) (tOp r ta tb):=by
 intro pins s σ H Q I h
 exact Subscript_ (binT ha hb I h fun v u s2 x y H2 I2 rx ry q=>hr a b pins s2 σ H2 x y v u Q I2 rx ry q (hs _ _))
noncomputable def rIxL (K:PySem.W.Frag):R2:=fun x y H Q=>∃p xs i v,x = .ref p/\y = .int i/\SqL K H p xs/\atI xs i=some v/\Q v H
noncomputable def rIxT (K:PySem.W.Frag):R2:=fun x y H Q=>∃p xs i v,x = .ref p/\y = .int i/\SqT K H p xs/\atI xs i=some v/\Q v H
theorem zAg:IxR X (rIxL X.K):=by
 intro value slice pins s σ H x y v u Q I rx ry h hs
 obtain⟨p,xs,i,z,rfl,rfl,hq,he,q⟩:=h
 cases rx
 obtain⟨t,rfl⟩:=ry
 obtain⟨its,r,pl,hz⟩:=I.list hq
 obtain⟨j,h1,h2,h3,h4,h5⟩:=zJA he
 obtain⟨w,ew,rw'⟩:=r.get h2
 have hl:=r.length
 have hn:=zFU
 have fin:EP X pins σ Q w s:=⟨z,H,I,rw',q⟩
 by_cases h0:0<=i
 . have hj:i.toNat=j:=by
    rw[seqIndex_of h0 h5] at h1
    exact zR h1
   exact item_listR pl.isList h0 (by omega) (by rw[hj];simpa using ew) fin hs
 . have hj:(i+(its.toArray.size:Int)).toNat=j:=by
    rw[seqIndex_neg (by omega) h4] at h1
    rw[zM,<-hl]
    exact zR h1
   exact subscriptTail_builtinR (x:=w) pl.isList.typeIs slot_list_getitem.lookup
    (wpAny_getItem_list_neg (Q:=fun r s'=>r=w/\EP X pins σ Q r s') pl.isList (by omega) (by rw[zM] <;> omega) (by omega) (by rw[hj];simpa using ew) ⟨rfl,fin⟩) hs
theorem zAM:IxR X (rIxT X.K):=by
 intro value slice pins s σ H x y v u Q I rx ry h hs
 obtain⟨p,xs,i,z,rfl,rfl,hq,he,q⟩:=h
 cases rx
 obtain⟨t,rfl⟩:=ry
 obtain⟨its,r,pl,hz⟩:=I.tuple hq
 obtain⟨j,h1,h2,h3,h4,h5⟩:=zJA he
 obtain⟨w,ew,rw'⟩:=r.get h2
 have hl:=r.length
 have hn:=zFU
 have fin:EP X pins σ Q w s:=⟨z,H,I,rw',q⟩
 exact subscriptTail_builtinR (x:=w) pl.typeIs slot_tuple_getitem.lookup
  (getItem_tuple (j:=j) (Q:=fun r s'=>r=w/\EP X pins σ Q r s') pl (by omega) (by omega) (by rw[zM,<-hl];exact h1) (by simpa using ew) ⟨rfl,fin⟩) hs
theorem zHC (its:List Value)(n j:Nat)(u:Value):Obj.mapSeq (·.setIfInBounds j u) { cls:=.type "list",data:=.seq its.toArray n }={ cls:=.type "list",data:=.seq (its.set j u).toArray n }:=by
 simp[Obj.mapSeq]
theorem Inv.lst {pins:lPO}{p:Addr}(I:Inv X pins σ H s)(h:H p=some (.lst xs)) :
 ∃(its:List Value)(n:Nat),zA8 xs its/\s.heap.get? p=some { cls:=.type "list",data:=.seq its.toArray n }/\xs.length<=sizeLine:=by
 obtain⟨z,its,n,r,e⟩:=I.hok p _ h
 exact⟨its,n,r,e,z⟩
theorem Inv.lstUpd {pins:lPO}{p:Addr}{ys:List V}{its':List Value}{n':Nat}{f:Obj->Obj}(I:Inv X pins σ H s)(h:H p=some (.lst xs))
 (ho:s.heap.get? p=some { cls:=.type "list",data:=.seq its.toArray n }) (hf:f { cls:=.type "list",data:=.seq its.toArray n }={ cls:=.type "list",data:=.seq its'.toArray n' }) (r:zA8 ys its')(hz:ys.length<=sizeLine)(t:Nat) :
 Inv X pins σ (upd H p (.lst ys)) { s with heap:=s.heap.update p f,toks:=t }:=by
 have e:(s.heap.update p f).get? p=some { cls:=.type "list",data:=.seq its'.toArray n' }:=by
  rw[zBY f ho (by rw[hf] <;> rfl),hf]
 refine I.write (x:=p) (e:=p) (by rw[h];trivial) (.inl rfl) (fun b u hb q=>(Heap.get?_update_other _ _ (Ne.symm hb)).trans q) ⟨_,e⟩ ?_
 exact⟨hz,its',n',r,e⟩
noncomputable def rSetL:V->V->V->Hp->(Hp->Prop)->Prop:=fun o i v H Q=>∃p xs k j,o = .ref p/\i = .int k/\H p=some (.lst xs)/\ixN xs.length k=some j/\Q (upd H p (.lst (xs.set j v)))
theorem zCK:PSet X rSetL:=by
 intro pins s σ H o i v ov iv u Q I ro ri rv h
 obtain⟨p,xs,k,j,rfl,rfl,hp,hj,q⟩:=h
 cases ro
 obtain⟨t,rfl⟩:=ri
 obtain⟨its,n,r,ho,hz⟩:=I.lst hp
 obtain⟨h1,h2,h3,h4⟩:=zIj hj
 have hl:=r.length
 have hn:=zFU
 have I':Inv X pins σ (upd H p (.lst (xs.set j v))) { s with heap:=s.heap.update p (Obj.mapSeq (·.setIfInBounds j u)) }:=
  I.lstUpd hp ho (zHC its n j u) (r.set rv j) (by rw[List.length_set];exact hz) s.toks
 by_cases h0:0<=k
 . have hk:k.toNat=j:=by
    rw[seqIndex_of h0 h4] at h1
    exact zR h1
   exact PySem.W.ki_setAt ho h0 (by omega) (by rw[zM,<-hl];exact h4) (by rw[hk];exact⟨_,I',q⟩)
 . have hk:(k+(its.toArray.size:Int)).toNat=j:=by
    rw[seqIndex_neg (by omega) h3] at h1
    rw[zM,<-hl]
    exact zR h1
   exact PySem.W.ki_setBack ho (by omega) (by rw[zM,<-hl];exact h3) (by omega) (by rw[hk];exact⟨_,I',q⟩)
theorem zFE (lo hi:Option Int)(n:Nat):(sliceBounds lo hi none n).1=((HT.sIx n 0 lo:Nat):Int)/\(sliceBounds lo hi none n).2.1=((HT.sIx n n hi:Nat):Int)/\(sliceBounds lo hi none n).2.2=1:=by
 refine⟨?_,?_,rfl⟩
 . cases lo with
   | none=>simp[sliceBounds,HT.sIx]
   | some i=>
    simp only[sliceBounds,HT.sIx,Option.getD_none,show (1:Int) > 0 by decide,if_true]
    by_cases h:i<0
    . simp only[h,if_true] <;> omega
    . simp only[h,if_false] <;> omega
 . cases hi with
   | none=>simp[sliceBounds,HT.sIx]
   | some i=>
    simp only[sliceBounds,HT.sIx,Option.getD_none,show (1:Int) > 0 by decide,if_true]
    by_cases h:i<0
    . simp only[h,if_true] <;> omega
    . simp only[h,if_false] <;> omega
theorem zEl (its:List Value)(lo hi:Option Int):slicePick its.toArray lo hi none=((its.drop (HT.sIx its.length 0 lo)).take (HT.sIx its.length its.length hi-HT.sIx its.length 0 lo)).toArray:=by
 obtain⟨h1,h2,h3⟩:=zFE lo hi its.toArray.size
 unfold slicePick
 rw[h1,h2,h3]
 simp only[sliceRange_one,pick_run,zM] <;> rfl
noncomputable def rSlL (K:PySem.W.Frag):V->Option Int->Option Int->Hp->VK->Prop:=fun x lo hi H Q=>∃a xs,x = .ref a/\SqL K H a xs/\∀p,H p=none->Q (.ref p) (upd H p (.lst (zHO xs lo hi)))
theorem zLD:SlR X (rSlL X.K):=by
 intro pins s σ H x v vl vu lo hi sl Q I rx hs pl pu h
 obtain⟨a,xs,rfl,hx,q⟩:=h
 cases rx
 obtain⟨its,r,ht,hz⟩:=I.list hx
 have hlen:=r.length
 refine⟨"list",_,slot_list_getitem.lookup,ht.isList.typeIs,?_⟩
 refine wpAny_getItem_list_slice ht.isList hs pl pu .none (by simp) ?_ (by rw[zM] <;> omega)
 rw[zEl,<-hlen]
 refine⟨.ref s.heap.objs.size,_,I.laid (t':=s.toks) (o:=.lst (zHO xs lo hi)) (fun b ob q=>zH _ q) (zK _) ?_,rfl,q _ (I.hok.fresh (zK _))⟩
 exact⟨zAD (zD3 xs lo hi) hz,_,0,(r.drop (HT.sIx xs.length 0 lo)).take (HT.sIx xs.length xs.length hi-HT.sIx xs.length 0 lo),zS _ rfl⟩
noncomputable def zEL:V->Bool
 | .non=>true
 | .bl _=>true
 | .int _=>true
 | .str _=>true
 | _=>false
noncomputable def eqV:V->V->Bool
 | .non,.non=>true
 | .bl a,.bl b=>a==b
 | .bl a,.int b=>(if a then 1 else 0)==b
 | .int a,.bl b=>a==(if b then 1 else 0)
 | .int a,.int b=>a==b
 | .str a,.str b=>a==b
 | _,_=>false
theorem zKm {A:Around}{y:V}{u v:Value}(ry:zBH y u)(rx:zBH x v)(fy:zEL y=true)(fx:zEL x=true):SeqAt.EqAt A s u v (eqV y x):=by
 cases y with
 | non=>
  cases ry
  cases x with
  | non=>cases rx;exact SeqAt.EqAt.same _
  | bl b=>cases rx;exact SeqAt.EqAt.none_bool b
  | int b=>obtain⟨t,rfl⟩:=rx;exact SeqAt.EqAt.none_int b t
  | str b=>obtain⟨t,rfl⟩:=rx;exact SeqAt.EqAt.none_str b t
  | _=>exact absurd (show false=true from fx) zb
 | bl a=>
  cases ry
  cases x with
  | non=>cases rx;exact SeqAt.EqAt.bool_none a
  | bl b=>cases rx;exact SeqAt.EqAt.bool_bool a b
  | int b=>obtain⟨t,rfl⟩:=rx;exact SeqAt.EqAt.bool_int a b t
  | str b=>obtain⟨t,rfl⟩:=rx;exact SeqAt.EqAt.bool_str a b t
  | _=>exact absurd (show false=true from fx) zb
 | int a=>
  obtain⟨t',rfl⟩:=ry
  cases x with
  | non=>cases rx;exact SeqAt.EqAt.int_none a t'
  | bl b=>cases rx;exact SeqAt.EqAt.int_bool a t' b
  | int b=>obtain⟨t,rfl⟩:=rx;exact SeqAt.EqAt.int_int a t' b t
  | str b=>obtain⟨t,rfl⟩:=rx;exact SeqAt.EqAt.int_str a t' b t
  | _=>exact absurd (show false=true from fx) zb
 | str a=>
  obtain⟨t',rfl⟩:=ry
  cases x with
  | non=>cases rx;exact SeqAt.EqAt.str_none a t'
  | bl b=>cases rx;exact SeqAt.EqAt.str_bool a t' b
  | int b=>obtain⟨t,rfl⟩:=rx;exact SeqAt.EqAt.str_int a t' b t
  | str b=>obtain⟨t,rfl⟩:=rx;exact SeqAt.EqAt.str_str a t' b t
  | _=>exact absurd (show false=true from fx) zb
 | _=>exact absurd (show false=true from fy) zb
noncomputable def eqU (x:V)(u:Value):Bool:=match u with
 | .none=>eqV .non x
 | .bool b=>eqV (.bl b) x
 | .int i _=>eqV (.int i) x
 | .str z _=>eqV (.str z) x
 | _=>false
theorem zKl {y:V}{u:Value}(r:zBH y u)(f:zEL y=true):eqU x u=eqV y x:=by
 cases y with
 | non=>cases r;rfl
 | bl b=>cases r;rfl
 | int i=>obtain⟨t,rfl⟩:=r;rfl
 | str z=>obtain⟨t,rfl⟩:=r;rfl
 | _=>exact absurd (show false=true from f) zb
theorem zGE {x:V}:∀{xs:List V}{us:List Value},zA8 xs us->xs.all zEL=true->us.any (eqU x)=xs.any fun y=>eqV y x
 | _,_,.nil,_=>rfl
 | y::xs,u::us,.cons r t,f=>by
  rw[List.all_cons,Bool.and_eq_true] at f
  rw[List.any_cons,List.any_cons,zKl r f.1,zGE t f.2]
theorem zEx {A:Around}{s:Shared}{x:V}{v:Value}(rx:zBH x v)(fx:zEL x=true):∀{xs:List V}{us:List Value},zA8 xs us->xs.all zEL=true->∀u∈us,SeqAt.EqAt A s u v (eqU x u)
 | _,_,.nil,_=>fun u hu=>by cases hu
 | y::xs,u::us,.cons r t,f=>fun u' hu=>by
  rw[List.all_cons,Bool.and_eq_true] at f
  rcases zc.mp hu with rfl | hu
  . rw[zKl r f.1];exact zKm r rx f.1 fx
  . exact zEx rx fx t f.2 u' hu
noncomputable def inV (x:V)(xs:List V):Bool:=xs.any fun y=>eqV y x
noncomputable def rIn (K:PySem.W.Frag)(neg:Bool):R2:=fun x y H Q=>∃p xs,y = .ref p/\(SqL K H p xs\/SqT K H p xs)/\zEL x=true/\xs.all zEL=true/\Q (.bl (if neg then !inV x xs else inV x xs)) H
theorem zFQ:OpR X (compareOp .NotIn) (rIn X.K true):=by
 intro pins s σ H x y v u Q I rx ry h
 obtain⟨p,xs,rfl,hq,fx,fs,q⟩:=h
 cases ry
 rcases hq with hq | hq
 . obtain⟨its,r,pl,hz⟩:=I.list hq
   refine SeqAt.notIn_listAt (eqU x) pl.isList (fun w hw=>zEx rx fx r fs w (by simpa using hw)) ⟨.bl _,H,I,rfl,?_⟩
   rw[show its.toArray.any (eqU x)=its.any (eqU x) by simp,zGE r fs]
   exact q
 . obtain⟨its,r,pl,hz⟩:=I.tuple hq
   refine SeqAt.notIn_tupleAt (eqU x) pl (fun w hw=>zEx rx fx r fs w (by simpa using hw)) ⟨.bl _,H,I,rfl,?_⟩
   rw[show its.toArray.any (eqU x)=its.any (eqU x) by simp,zGE r fs]
   exact q
theorem zA3:zCl X (.builtin "len") (fun xs H Q=>∃p ys,xs=[.ref p]/\(SqL X.K H p ys\/SqT X.K H p ys)/\Q (.int ys.length) H):=by
 intro pins s σ H xs us Q I r h
 obtain⟨p,ys,rfl,hq,q⟩:=h
 obtain⟨u,rfl,rx⟩:=zCV r
 cases rx
 have hn:=zFU
 rcases hq with hq | hq
 . obtain⟨its,r',pl,hz⟩:=I.list hq
   have hlen:=r'.length
   exact Calls.call_len_list pl.isList (by simp only[zM] <;> omega) ⟨.int ys.length,H,I.tok _,⟨s.toks+1,by rw[zM,hlen]⟩,q⟩
 . obtain⟨its,r',pl,hz⟩:=I.tuple hq
   have hlen:=r'.length
   exact len_tuple pl (by simp only[zM] <;> omega) ⟨.int ys.length,H,I.tok _,⟨s.toks+1,by rw[zM,hlen]⟩,q⟩
theorem zAb:zCl X (.type "tuple") (fun xs H Q=>∃p ys,xs=[.ref p]/\((SqL X.K H p ys/\∀l,H l=none->Q (.ref l) (upd H l (.tup ys)))\/(SqT X.K H p ys/\Q (.ref p) H))):=by
 intro pins s σ H xs us Q I r h
 obtain⟨p,ys,rfl,h⟩:=h
 obtain⟨u,rfl,rx⟩:=zCV r
 cases rx
 rcases h with ⟨hq,q⟩ | ⟨hq,q⟩
 . obtain⟨its,r',pl,hz⟩:=I.list hq
   have hlen:=r'.length
   refine call_tuple_list pl.isList (fun h' kp=>?_) (by simp only[zM] <;> omega)
   have I1:Inv X pins σ H { s with heap:=h' }:=I.kept (t':=s.toks) kp
   have I2:Inv X pins σ (upd H h'.objs.size (.tup ys)) { s with heap:=h'.push { cls:=.type "tuple",data:=.seq its.toArray } }:=
    I1.laid (t':=s.toks) (fun b o e=>zH _ e) (zK _) (show zBe X.prog X.w _ _ _ (.tup ys) from ⟨⟨hz,_,zS _ rfl,rfl⟩,its,r',IsTup.new _ _⟩)
   exact⟨.ref h'.objs.size,_,I2,rfl,q _ (I1.hok.fresh (zK _))⟩
 . obtain⟨its,r',pl,hz⟩:=I.tuple hq
   exact call_tuple_same pl ⟨.ref p,H,I,rfl,q⟩
noncomputable def tyV (K:PySem.W.Frag)(T:String)(x:V)(H:Hp):Prop:=match x with
 | .str _=>T = "str"
 | .int _=>T = "int"
 | .ref p=>(T = "list" /\ ∃xs,SqL K H p xs)\/(T = "tuple" /\ ∃o,K.lookup p=some o/\o.cls = .type "tuple" /\ o.dict=none) \/
  (T = "dict" /\ ((∃kvs,H p=some (.dK kvs))\/∃kvs,H p=some (.dT kvs)))\/(T = "set" /\ ∃S n,H p=some (.set S n))
 | _=>False
theorem tyV_is {pins:lPO}{T:String}{v:Value}(I:Inv X pins σ H s)(r:zBH x v)(ty:tyV X.K T x H) :
 s.TypeIs v T/\∀a,v = .ref a->∃ob,s.heap.get? a=some ob/\ob.dict=none:=by
 cases x with
 | str z=>
  obtain⟨t,rfl⟩:=r
  cases (show T = "str" from ty)
  exact⟨typeIs_str s z t,fun _ e=>nomatch e⟩
 | int i=>
  obtain⟨t,rfl⟩:=r
  cases (show T = "int" from ty)
  exact⟨typeIs_int s i t,fun _ e=>nomatch e⟩
 | ref p=>
  cases r
  rcases ty with ⟨rfl,xs,hq⟩ | ⟨rfl,o,hk,hc,hd⟩ | ⟨rfl,hk⟩ | ⟨rfl,S,n,hk⟩
  . obtain⟨its,_,pl,_⟩:=I.list hq
    refine⟨pl.isList.typeIs,fun a e=>?_⟩
    cases e
    obtain⟨o,n,e,c,hd,_⟩:=pl
    exact⟨o,e,hd⟩
  . refine⟨⟨o,I.kIn p o hk,hc⟩,fun a e=>?_⟩
    cases e
    exact⟨o,I.kIn _ o hk,hd⟩
  . have z:∃o,s.heap.get? p=some o/\o.ExactDict:=by
     rcases hk with ⟨kvs,hk⟩ | ⟨kvs,hk⟩
     . obtain⟨_,_,_,_,o,_,_,e,ex,_⟩:=I.hok p _ hk
       exact⟨o,e,ex⟩
     . obtain⟨_,_,_,_,o,_,_,e,ex,_⟩:=I.hok p _ hk
       exact⟨o,e,ex⟩
    obtain⟨o,e,ex⟩:=z
    refine⟨⟨o,e,ex.1⟩,fun a e2=>?_⟩
    cases e2
    exact⟨o,e,ex.2.1⟩
  . obtain⟨o,_,_,_,e,ex,_⟩:=I.hok p _ hk
    refine⟨⟨o,e,ex.1⟩,fun a e2=>?_⟩
    cases e2
    exact⟨o,e,ex.2.1⟩
 | _=>exact False.elim ty
noncomputable def tBM (K:PySem.W.Frag)(T:String)(r:V->List V->Hp->VK->Prop)(to:TE)(t:TA):TE:=fun σ H Q=>to σ H fun x H1=>tyV K T x H1/\t σ H1 fun xs H2=>r x xs H2 Q
variable {o e:Expr}{es:List Expr}{to:TE}{t:TA}{name:Str}{apos cpos:Pos}{T id:String}{r:V->List V->Hp->VK->Prop}
theorem zG7 (pa:PlainAttrs T)(slot:Slot T name id)(hty:typeOf (.builtin id)=pure (.type "method_descriptor")) (hm:MtR X id r)(ho:PE X o to)(ha:PA X (e::es) t)
 (hbase:attributeBase o name X.env (eval o X.env)=eval o X.env:=by rfl)
 (hfew:((backTo cpos (starEach (e::es) X.env)).all (fun x=>!x.1) && (backToKw cpos (keywordEach [] X.env)).all (fun x=>x.1.isSome)
  && decide ((e::es).length+([]:List Keyword).length+(if ([]:List Keyword).isEmpty then 0 else 1)<30))=true:=by rfl)
 (hline:(apos.endLine==cpos.line)=true:=by rfl)(hs:starEach (e::es) X.env=(false,eval e X.env)::starEach es X.env:=by rfl)(hplain:(backTo cpos (starEach es X.env)).any (·.1)=false:=by rfl) :
 PE X (.Call (.Attribute o name apos) (e::es) [] cpos) (tBM X.K T r to t):=by
 intro pins s σ H Q I h
 refine wpAny_Call_method_late hbase hfew hline rfl (thn (ho pins s σ H _ I h) fun v s1 ⟨x,H1,I1,r1,ty,q1⟩=>?_)
 obtain⟨h1,h2⟩:=tyV_is I1 r1 ty
 refine⟨T,id,pa,slot,hty,h1,h2,?_⟩
 have hA:=ha cpos pins s1 σ H1 _ I1 q1
 rw[hs] at hA ⊢
 refine Calls.callWith_builtin (by show (false || (backTo cpos (starEach es X.env)).any (·.1))=false;rw[hplain] <;> rfl) (Calls.evalArgs_plain ?_)
 exact thn hA fun us s2 ⟨vs,H2,I2,r2,q2⟩=>hm pins s2 σ H2 x vs v us Q I2 r1 r2 q2
end
noncomputable def MtM (X:Cx)(id:String)(r:V->List V->Hp->VK->Prop):Prop:=
 ∀(pins:lPO)(s:Shared)(σ:St)(H:Hp)(x:V)(xs:List V)(v:Value)(us:List Value)(Q:VK),Inv X pins σ H s->zBH x v->zA8 xs us->r x xs H Q ->
  wpAny (model X.prog X.w) X.A (call (.builtin id) (v::us)) (EP X pins σ Q) X.xe s
theorem zA8.one:∀{x:V}{us:List Value},zA8 [x] us->∃u,us=[u]/\zBH x u
 | _,_,.cons r .nil=>⟨_,rfl,r⟩
theorem zA8.eraseIdx:∀{xs:List V}{us:List Value}(i:Nat),zA8 xs us->zA8 (xs.eraseIdx i) (us.eraseIdx i)
 | _,_,_,.nil=>.nil
 | _,_,0,.cons _ t=>t
 | _,_,i+1,.cons r t=>.cons r (zA8.eraseIdx i t)
theorem zA8.rep {xs:List V}{us:List Value}(h:zA8 xs us):∀k:Nat,zA8 (List.replicate k xs).flatten (List.replicate k us).flatten
 | 0=>.nil
 | k+1=>by
  rw[zBO,zBO,List.flatten_cons,List.flatten_cons]
  exact zA8.append h (zA8.rep h k)
theorem zFV {α:Type}:∀(l:List α)(i:Nat),(l.eraseIdx i).length<=l.length
 | [],_=>zK _
 | _::_,0=>zBN _
 | _::r,i+1=>Nat.succ_le_succ (zFV r i)
theorem zFa (its:List Value):∀(k:Nat)(acc:List Value),
 List.foldl (fun x1 x2=>x1++x2) acc.toArray (List.replicate k its.toArray)=(acc++(List.replicate k its).flatten).toArray
 | 0,acc=>by simp
 | k+1,acc=>by
  have e:acc.toArray++its.toArray=(acc++its).toArray:=by simp
  have e2:(acc++its)++(List.replicate k its).flatten=acc++(List.replicate (k+1) its).flatten:=by
   rw[zBO,List.flatten_cons,List.append_assoc]
  rw[<-e2,<-zFa its k (acc++its),<-e,zBO,List.foldl_cons]
section
variable {X:Cx}{pins:lPO}{σ:St}{H:Hp}{s:Shared}{l b:Addr}{xs ys zs:List V}
theorem Inv.lset {its':List Value}{f:Array Value->Array Value}{t':Nat}(I:Inv X pins σ H s)(hH:H l=some (.lst xs))
 (e:s.heap.get? l=some { cls:=.type "list",data:=.seq its.toArray n }) (hf:f its.toArray=its'.toArray)(hv:zA8 ys its')(hz:ys.length<=sizeLine) :
 Inv X pins σ (upd H l (.lst ys)) { s with heap:=s.heap.update l (Obj.mapSeq f),toks:=t' }:=by
 have q:=PySem.IsL.update e f
 rw[hf] at q
 refine I.write (x:=l) (e:=l) (by rw[hH];exact trivial) (.inl rfl) (fun b' u hb hu=>(Heap.get?_update_other s.heap (Obj.mapSeq f) (Ne.symm hb)).trans hu) ⟨_,q⟩ ?_
 exact⟨hz,its',_,hv,q⟩
theorem Inv.lnew {t':Nat}(I:Inv X pins σ H s)(hv:zA8 ys its)(hz:ys.length<=sizeLine) :
 Inv X pins σ (upd H s.heap.objs.size (.lst ys)) { s with heap:=s.heap.push { cls:=.type "list",data:=.seq its.toArray },toks:=t' }:=
 I.laid (fun _ _ q=>zH _ q) (zK _) ⟨hz,its,0,hv,zS _ rfl⟩
theorem Inv.fresh (I:Inv X pins σ H s):H s.heap.objs.size=none:=I.hok.fresh (zK _)
theorem Inv.lstM (I:Inv X pins σ H s)(hH:H l=some (.lst xs)):xs.length<=sizeLine/\∃(its:List Value)(n:Nat),zA8 xs its/\xs.length=its.length/\s.heap.get? l=some { cls:=.type "list",data:=.seq its.toArray n }:=by
 obtain⟨z,its,n,r,e⟩:=I.hok l _ hH
 exact⟨z,its,n,r,r.length,e⟩
theorem zGc (h:n<=sizeLine):Builtin.List.listTooLong n=false:=by
 unfold Builtin.List.listTooLong
 exact zY (by omega)
end
section
variable {X:Cx}
noncomputable def zLQ:V->List V->Hp->VK->Prop:=fun x vs H Q=>∃l xs y,x = .ref l/\vs=[y]/\H l=some (.lst xs)/\xs.length<sizeLine/\Q .non (upd H l (.lst (xs++[y])))
theorem zCZ:MtM X "list.append" zLQ:=by
 intro pins s σ H x vs v us Q I rx rv h
 obtain⟨l,xs,y,rfl,rfl,hH,hz,q⟩:=h
 cases rx
 obtain⟨u,rfl,ru⟩:=rv.one
 obtain⟨z,its,n,r,hl,e⟩:=I.lstM hH
 refine call_meets F.slot_list_append ⟨_,e,rfl⟩ F.entry_list_append (F.args_list_append_2 _ _) (PySem.list_append l its.toArray n u (by rw[zM];omega)) ⟨e,?_⟩
 refine⟨.non,_,I.lset (its':=its++[u]) hH e (by simp) (r.append (.cons ru .nil)) ?_,rfl,q⟩
 rw[zP,List.length_singleton]
 omega
noncomputable def zLP:V->List V->Hp->VK->Prop:=fun x vs H Q=>∃l b xs zs,x = .ref l/\vs=[.ref b]/\H l=some (.lst xs)/\H b=some (.lst zs)/\xs.length+zs.length<=sizeLine/\Q .non (upd H l (.lst (xs++zs)))
theorem zIZ:MtM X "list.extend" zLP:=by
 intro pins s σ H x vs v us Q I rx rv h
 obtain⟨l,b,xs,zs,rfl,rfl,hH,hB,hz,q⟩:=h
 cases rx
 obtain⟨u,rfl,ru⟩:=rv.one
 cases ru
 obtain⟨z,its,n,r,hl,e⟩:=I.lstM hH
 obtain⟨z2,its2,n2,r2,hl2,e2⟩:=I.lstM hB
 have hsz:its.toArray.size+its2.toArray.size<=sizeLine:=by rw[zM,zM];omega
 have hlong:¬ (!its.toArray.isEmpty && Builtin.List.listTooLong (its.toArray.size+its2.toArray.size))=true:=by
  rw[zGc hsz,Bool.and_false]
  exact zb
 refine call_meets F.slot_list_extend ⟨_,e,rfl⟩ F.entry_list_extend (F.args_list_extend_2 _ _)
  (AutoSeq1.list_extend_list_list_0 l its.toArray n b its2.toArray n2 hlong (by rw[zM];omega) (by omega)) ⟨e,e2,?_⟩
 refine⟨.non,_,I.lset (its':=its++its2) hH e (by simp) (r.append r2) ?_,rfl,q⟩
 rw[zP]
 omega
noncomputable def rPopAt:V->List V->Hp->VK->Prop:=fun x vs H Q=>∃l xs i k y,x = .ref l/\vs=[.int i]/\H l=some (.lst xs) /\ -(2 ^ 63)<=i/\i<2 ^ 63/\seqIndex? i xs.length=some k/\xs[k]? = some y/\Q y (upd H l (.lst (xs.eraseIdx k)))
theorem zJx:MtM X "list.pop" rPopAt:=by
 intro pins s σ H x vs v us Q I rx rv h
 obtain⟨l,xs,i,k,y,rfl,rfl,hH,h1,h2,hk,hy,q⟩:=h
 cases rx
 obtain⟨u,rfl,ru⟩:=rv.one
 obtain⟨t,rfl⟩:=ru
 obtain⟨z,its,n,r,hl,e⟩:=I.lstM hH
 obtain⟨w,hw,rw'⟩:=r.get hy
 refine call_meets F.slot_list_pop ⟨_,e,rfl⟩ F.entry_list_pop (F.args_list_pop_2 _ _)
  (MeetsSeq.list_pop_at l its.toArray n i t k w (fitsIndex_both h1 h2) (by rw[zM,<-hl];exact hk) (by rw[<-Array.getElem?_toList];exact hw) (by rw[zM];omega)) ⟨e,?_⟩
 refine⟨y,_,I.lset (its':=its.eraseIdx k) hH e ?_ (r.eraseIdx k) ?_,rw',q⟩
 . show its.toArray.eraseIdxIfInBounds k=(its.eraseIdx k).toArray
   rw[List.eraseIdxIfInBounds_toArray]
 . have:=zFV xs k
   omega
noncomputable def rCat:R2:=fun x y H Q=>∃l b xs zs,x = .ref l/\y = .ref b/\H l=some (.lst xs)/\H b=some (.lst zs)/\xs.length+zs.length<=sizeLine/\∀p,H p=none->Q (.ref p) (upd H p (.lst (xs++zs)))
theorem op_cat:OpR X (binaryOp .Add) rCat:=by
 intro pins s σ H x y v u Q I rx ry h
 obtain⟨l,b,xs,zs,rfl,rfl,hH,hB,hz,q⟩:=h
 cases rx
 cases ry
 obtain⟨z,its,n,r,hl,e⟩:=I.lstM hH
 obtain⟨z2,its2,n2,r2,hl2,e2⟩:=I.lstM hB
 refine PySem.P.add_list e e2 ?_ (by rw[zM,zM];omega)
 have ea:its.toArray++its2.toArray=(its++its2).toArray:=by simp
 rw[ea]
 exact⟨.ref _,_,I.lnew (t':=s.toks) (r.append r2) (by rw[zP];omega),rfl,q _ I.fresh⟩
noncomputable def rRep:R2:=fun x y H Q=>∃l k xs,x = .ref l/\y = .int k/\H l=some (.lst xs) /\ -(2 ^ 63)<=k/\k<2 ^ 63/\xs.length*k.toNat<=sizeLine /\
 ∀p,H p=none->Q (.ref p) (upd H p (.lst (List.replicate k.toNat xs).flatten))
theorem zL0 {α:Type}(xs:List α)(k:Nat):(List.replicate k xs).flatten.length=k*xs.length:=by
 induction k with
 | zero=>simp
 | succ k ih=>rw[zBO,List.flatten_cons,zP,ih,Nat.succ_mul,Nat.add_comm]
theorem op_rep:OpR X (binaryOp .Mult) rRep:=by
 intro pins s σ H x y v u Q I rx ry h
 obtain⟨l,k,xs,rfl,rfl,hH,h1,h2,hz,q⟩:=h
 cases rx
 obtain⟨t,rfl⟩:=ry
 obtain⟨z,its,n,r,hl,e⟩:=I.lstM hH
 have hlen:its.toArray.size*k.toNat<=sizeLine:=by rw[zM,<-hl];exact hz
 have hcap:¬ its.toArray.size*k.toNat > (2 ^ 63-1)/8:=by
  have:(sizeLine:Nat)<=(2 ^ 63-1)/8:=by decide
  omega
 have hfit:¬ (!Builtin.List.listFitsIndex k)=true:=by
  rw[fitsIndex_both h1 h2]
  exact zb
 have hlong:¬ Builtin.List.listTooLong (its.toArray.size*k.toNat)=true:=by
  rw[zGc hlen]
  exact zb
 have hnew:List.foldl (fun x1 x2=>x1++x2) #[] (List.replicate (if its.toArray.isEmpty=true then 0 else k.toNat) its.toArray)=(List.replicate k.toNat its).flatten.toArray:=by
  have f0:∀m:Nat,List.foldl (fun x1 x2=>x1++x2) #[] (List.replicate m its.toArray)=(List.replicate m its).flatten.toArray:=fun m=>by
   have:=zFa its m []
   rw[List.nil_append] at this
   exact this
  rw[f0]
  cases its with
  | nil=>simp
  | cons a r'=>rw[if_neg (by simp)]
 refine wpAny_binaryOp_repeat_ref (T := "list") (U := "int") (by decide) ⟨_,e,rfl⟩ (fun s'=>typeIs_int s' k t) noFill_list_mul F.fills_int_mul F.slot_int_rmul repeat_list F.slot_int_index.lookup
  (call_meets F.slot_int_rmul (typeIs_int s k t) F.entry_int_rmul (F.args_int_rmul_2 _ _) (int___rmul___int_list k t l its.toArray n)
   ⟨e,rfl,⟨_,e,rfl⟩,call_meets F.slot_list_mul ⟨_,e,rfl⟩ F.entry_list_mul (F.args_list_mul_2 _ _) (AutoListH.list___mul___list_int_3 l its.toArray n k t hfit hcap hlong) ⟨e,?_⟩⟩)
 rw[hnew]
 exact⟨.ref _,_,I.lnew (t':=s.toks) (r.rep k.toNat) (by rw[zL0,Nat.mul_comm];exact hz),rfl,q _ I.fresh⟩
end
section
variable {prog:Program}{w:World}{A:Around}{E:vSP}{s:Shared}
set_option maxRecDepth 100000 in
end
end L2
namespace Att
open PySem PySem.W PySem.Calls PyProof.Rows
theorem zDt {P:Params}{h:Heap}:∀(ns:List Int)(vs:List Value),WellAll P h vs (ns.map WData.int)->IntsAre vs ns:=by
 intro ns
 induction ns with
 | nil=>
  intro vs w
  rw[List.map_nil] at w
  cases w
  exact .nil
 | cons n ns ih=>
  intro vs w
  rw[zAF] at w
  cases w with
  | cons a b=>
   cases a
   exact .cons _ _ (ih _ b)
theorem zHu {l:OpenLaw}{n:Nat}(hn:l.most=some n){P:Params}{h:Heap}{args:List WData}{vals:List Value}
 (hpre:l.row.toRowW.claim.pre args=true)(hwl:WellAll P h vals args) :
 ∃a vs ns,vals=[Value.ref a]/\args=[WData.list (ns.map WData.int)]/\h.get? a=some { cls:=.type "list",data:=.seq vs.toArray }/\IntsAre vs ns/\ns.length<=n:=by
 have hsh:WShape.hasAll [] args [.list .int]=true:=(pre_splitW hpre).1
 have hc:l.pre.holds [] { args:=args }=true:=(pre_splitW hpre).2
 obtain⟨d,r,rfl,h1,h2⟩:=hasAllW_cons hsh
 obtain rfl:=hasAllW_nil h2
 obtain⟨xs,rfl,h3⟩:=hasW_list h1
 obtain⟨ns,rfl⟩:=items_int h3
 have hlen:ns.length<=n:=by
  unfold OpenLaw.pre at hc
  have h4:(WTm.not (.lt (.lit (.int (n:Int))) (.len (.arg 0)))).holds [] { args:=[.list (ns.map .int)] }=true:=by
   have h4:=(holds_andW hc).1
   rw[hn] at h4
   exact h4
  have h5:=condW_of h4 (w_not (w_lt w_lit (w_len_list (w_arg rfl))))
  rw[zD] at h5
  refine Nat.le_of_not_lt fun q=>?_
  have q':(n:Int)<((ns.length:Nat):Int):=by omega
  first
   | (rw[zO q'] at h5;exact absurd h5 (by decide))
   | (simp at h5;omega)
 cases hwl with
 | cons w1 w2=>
  cases w2
  cases w1 with
  | list ho hall=>exact⟨_,_,ns,rfl,rfl,ho,zDt ns _ hall,hlen⟩
theorem zIG (l:OpenLaw)(args:List WData):l.row.toRowW.claim.post args (.bool true) args=true:=
 postW_of (r:=l.row.toRowW) (X:=(true==true))
  (show WShape.has [] (.bool true) .bool=true by first | rfl | decide | simp[WShape.has,WShape.arms,WShape.armsAll])
  (show (WTm.eq .res (.lit (.bool true))).value [] { args:=args,res:=some (.bool true),after:=args }=some (.bool (true==true)) from w_eq_bool (w_res rfl) w_lit) rfl
theorem attach_call {l:OpenLaw}{n:Nat}{q:Program}{loose:List Str}{XP:(Str->Option Value)->Heap->Prop}{YP:World->Heap->Prop}{d:DefRec}
 (hn:l.most=some n)(hdf:d.params.defaults=[])
 (call:∀(w:World)(s₀ s₁:Shared)(mg mb:sOV)(fa:Addr)(o:Obj)(pm cd doc:Value)(a:Addr)(vs:List Value)(ns:List Int),
  Ground q loose [] XP w s₀ mg mb s₁.heap->YP w s₁.heap ->
  s₁.heap.get? fa=some o->o.data = .func (docDef d.name d.params d.body d.scope pm cd doc)->s₁.heap.CodeRec cd d.name->mg d.name=some (.ref fa) ->
  s₁.heap.get? a=some { cls:=.type "list",data:=.seq vs.toArray }->IntsAre vs ns->ns.length<=n->s₁.gens = #[] ->
  codeAny (model l.prog w) callerA (.call (.ref fa) ⟨[.ref a],[]⟩) (fun r s'=>r = .ok (.ret (.bool true))/\OldK s₁.heap s'.heap/\s'.os=s₁.os/\AllBare s'.gens) s₁) :
 WalkO q loose XP YP l.row.toRowW d [] (fun f vs=>PySem.call f vs):=by
 intro w s₀ s₁ mg mb G Y fa o pm cd doc dV kV ho hd hcd hD hmg hg args vals as hpre hlay hrd hwl hlo
 obtain rfl:dV = .none:=Dflts.none hD hdf
 obtain rfl:kV = .none:=Dflts.noKw hD
 obtain⟨a,vs,ns,rfl,rfl,hobj,hints,hlen⟩:=zHu hn hpre hwl
 refine enter_call (codeAny_mono (call w s₀ s₁ mg mb fa o pm cd doc a vs ns G Y ho (fd_plain hd) hcd hmg hobj hints hlen hg) fun r s' hq=>?_)
 obtain⟨rfl,h2,h3,h4⟩:=hq
 exact⟨.inl ⟨.bool true,.bool true,[],rfl,fun _=>rfl,.bool true,zIG l _,fun _=>⟨zBJ,fun _ hm=>(nomatch hm)⟩⟩,h2,h3,h4⟩
end Att
namespace L2
open PySem PySem.Spec PyProof.Rows
theorem zE5:∀{vs:List Value}{ns:List Int},IntsAre vs ns->zA8 (ns.map V.int) vs
 | _,_,.nil=>.nil
 | _,_,.cons n t h=>.cons ⟨t,rfl⟩ (zE5 h)
noncomputable abbrev CX0:CXT:=fun _ _ _ _ _ _=>False
noncomputable abbrev E0:XK:=fun _ _ _=>False
theorem zCy {X:Cx}:zD8 CX0 X E0:=fun _ _ _ _ _ _ _ h=>h.elim
structure Fun (K:PySem.W.Frag)(x qual:Str)(st:Stmt)(f:Addr)(fd:FuncData):Prop where
 ex:∃(oc:Value)(od:Option Addr)(kV doc pm:Value)(an:Option Addr)(cdv ct:Value)(osl:Array (Option Value)),
  fd=PySem.W.fnOf x qual (defArgs st) (defBody st) (defScope st) .none kV doc pm an cdv ct/\K.lookup f=some ⟨oc,od,.func fd,osl⟩/\PySem.W.codeIn K cdv qual=true
 kp:PySem.W.keepIn K (.ref f)=true
variable {x qual:Str}{st:Stmt}{f:Addr}
section
variable {P:Program}{w:World}{K:PySem.W.Frag}{mg:sOV}{base:Heap}
theorem Fun.ok {fd:FuncData}{N ps:List Str}{k:Nat}{sp:Sp}(F:Fun K x qual st f fd)(S:zo N ps (defScope st))(len:∀vs H Q E,sp vs H Q E->vs.length=ps.length)
 (hbody:∀(cdv:Value)(A:Around)(outer:List Env)(s:Shared)(H:Hp)(vs:List V)(Q:VK)(E:XK),zCe k (A.deeper (envOfC qual (defScope st) s.heap.objs.size f cdv))->sp vs H Q E ->
  ∃t,PSs (zKo CX0 P w K mg base N qual (defScope st) f cdv A outer s H E).nox (defBody st) t/\t { nx:=fun _ H'=>Q .non H',rt:=Q } (start N vs) H):zAK P w K mg base CX0 (k+1) f fd ps sp:=by
 obtain⟨oc,od,kV,doc,pm,an,cdv,ct,osl,rfl,lk,hcd⟩:=F.ex
 refine fn_of lk hcd S len fun A outer s H vs Q E hr hsp=>?_
 obtain⟨t,h,q⟩:=hbody cdv A outer s H vs Q E hr hsp
 exact⟨t,h.nox,q⟩
theorem Fun.binds {fd:FuncData}{ps:List Str}(F:Fun K x qual st f fd)
 (h:∀(kV doc pm:Value)(an:Option Addr)(cdv ct:Value)(us:List Value),us.length=ps.length->bindArgs (PySem.W.fnOf x qual (defArgs st) (defBody st) (defScope st) .none kV doc pm an cdv ct) ⟨us,[]⟩=pure (ps.zip us)):zBw K fd ps []:=by
 obtain⟨oc,od,kV,doc,pm,an,cdv,ct,osl,rfl,lk,hcd⟩:=F.ex
 exact .all (h kV doc pm an cdv ct)
theorem zKh {oc:Value}{od an:Option Addr}{osl:Array (Option Value)}{kV doc pm cdv ct:Value}(l:K.lookup f=some ⟨oc,od,.func (PySem.W.fnOf x qual (defArgs st) (defBody st) (defScope st) .none kV doc pm an cdv ct),osl⟩)
 (c:PySem.W.codeIn K cdv qual=true)(k:PySem.W.keepIn K (.ref f)=true):Fun K x qual st f (PySem.W.fnOf x qual (defArgs st) (defBody st) (defScope st) .none kV doc pm an cdv ct):=⟨⟨oc,od,kV,doc,pm,an,cdv,ct,osl,rfl,l,c⟩,k⟩
end
theorem zEK {A:Around}{k:Nat}(hr:zCe k A):A.units+1<cLine:=zAN (Nat.add_le_add_left (by decide:1<=64) _) hr.units
section
variable {X:Cx}
theorem pv (i:Nat){x:Str}{pos:Pos}(hN:X.N[i]? = some x:=by rfl)(hv:Vis X.env.scope x:=by first | exact Or.inl rfl | exact Or.inr (Or.inl rfl) | exact Or.inr (Or.inr rfl))(hd:(x==("__debug__" : Str))=false:=by decide)
 (hcd:(x==("__classdict__" : Str))=false:=by decide):PE X (.Name x pos) (tVar i):=pe_var hN hv hd hcd
end
variable {A B:Prop}
theorem zCa (h:B):if false=true then A else B:=by
 rw[if_neg zb]
 exact h
theorem zFZ (h:A):if true=true then A else B:=by
 rw[if_pos rfl]
 exact h
theorem zEC {c:Prop} [Decidable c] (h1:c->A)(h2:¬ c->B):if c then A else B:=by
 by_cases h:c
 . rw[if_pos h]
   exact h1 h
 . rw[if_neg h]
   exact h2 h
noncomputable def zAo (H H':Hp):Prop:=∀b o,H b=some o->H' b=some o
theorem zAo.refl (H:Hp):zAo H H:=fun _ _ h=>h
theorem zAo.trans {H H1 H2:Hp}(a:zAo H H1)(b:zAo H1 H2):zAo H H2:=fun c o h=>b c o (a c o h)
section
variable {κ:Type} [DecidableEq κ]
theorem zGI {kvs:List (κ×V)}{k:κ}(h:zBz kvs k=none):¬ k∈kvs.map (·.1):=by
 intro m
 obtain⟨p,hp,e⟩:=zq.mp m
 have q:(kvs.any fun kv=>decide (kv.1=k))=true:=zBr.mpr ⟨p,hp,zO e⟩
 rw[zBs,h] at q
 exact absurd q (by simp)
theorem zKt {kvs:List (κ×V)}{k:κ}{v:V}(h:zBz kvs k=some v):k∈kvs.map (·.1):=by
 have q:(kvs.any fun kv=>decide (kv.1=k))=true:=by
  rw[zBs,h]
  all_goals rfl
 obtain⟨p,hp,e⟩:=zBr.mp q
 exact zq.mpr ⟨p,hp,of_decide_eq_true e⟩
theorem zIW:∀{l:List κ}{k:κ},l.Nodup->¬ k∈l->(l++[k]).Nodup
 | [],k,_,_=>by simp
 | a::r,k,h,hk=>by
  obtain⟨h1,h2⟩:=zAc.mp h
  show (a::(r++[k])).Nodup
  refine zAc.mpr ⟨fun m=>?_,zIW h2 fun m=>hk (zc.mpr (Or.inr m))⟩
  rcases zp.mp m with q | q
  . exact h1 q
  . exact hk (zc.mpr (Or.inl (zm.mp q).symm))
theorem zIX {kvs:List (κ×V)}{k:κ}(v:V)(hn:(kvs.map (·.1)).Nodup)(h:zBz kvs k=none):((zCH kvs k v).map (·.1)).Nodup:=by
 rw[zGW v h,zV]
 exact zIW hn (zGI h)
theorem zDz {p:κ×V}{r:List (κ×V)}{k:κ}(e:p.1=k):zBy (p::r) k=zBy r k:=by
 unfold zBy
 rw[zA2,if_neg (by simp[e])]
theorem zC6 {p:κ×V}{r:List (κ×V)}{k:κ}(e:¬ p.1=k):zBy (p::r) k=p::zBy r k:=by
 unfold zBy
 rw[zA2,if_pos (by simp[e])]
theorem zGk:∀{kvs:List (κ×V)}{k:κ},¬ k∈kvs.map (·.1)->zBy kvs k=kvs
 | [],_,_=>rfl
 | p::r,k,h=>by
  have h':¬ k∈r.map (·.1):=fun m=>by
   obtain⟨q,hq,e⟩:=zq.mp m
   exact h (zq.mpr ⟨q,zc.mpr (Or.inr hq),e⟩)
  rw[zC6 fun e=>h (zq.mpr ⟨p,zc.mpr (Or.inl rfl),e⟩),zGk h']
theorem zD0 {kvs:List (κ×V)}{k:κ}{p:κ×V}(h:p∈zBy kvs k):p∈kvs:=(zAB.mp h).1
theorem zDY:∀{kvs:List (κ×V)}{k:κ},(kvs.map (·.1)).Nodup->((zBy kvs k).map (·.1)).Nodup
 | [],_,_=>List.nodup_nil
 | p::r,k,h=>by
  have h:(p.1::r.map (·.1)).Nodup:=h
  obtain⟨h1,h2⟩:=zAc.mp h
  by_cases e:p.1=k
  . rw[zDz e]
    exact zDY h2
  . rw[zC6 e]
    show (p.1::(zBy r k).map (·.1)).Nodup
    refine zAc.mpr ⟨fun m=>h1 ?_,zDY h2⟩
    obtain⟨q,hq,eq⟩:=zq.mp m
    exact zq.mpr ⟨q,zD0 hq,eq⟩
end
end L2
set_option Elab.async false
set_option linter.all false
set_option maxRecDepth 100000
set_option maxHeartbeats 4000000
namespace L2
open PySem PySem.Spec PyProof.Rows
theorem zDQ {prog:Program}{w:World}{A:Around}{R:Result->Shared->Prop}{s:Shared}{elt target iter:Expr}{ifs:List Expr}{scope:Scope}{pos:Pos}{it acc:Value}{env:Env}(I:Nat->Shared->Prop)
 (turn:∀n s,I n s->wpAny (model prog w) A (pyNext it) (fun r s₁=>match r with
  | none=>R (.ok .next) s₁
  | some v=>wpAny (model prog w) A (letOwnedTupleGo target it v) (fun _ s₁'=>wpAny (model prog w) A (assign target env v) (fun _ s₂=>
   wpAny (model prog w) A (forIn ifs true fun c r=>if r=true then do let ok <-isTrue c env (eval c env);pure (ForInStep.yield ok) else pure (ForInStep.yield r)) (fun ok s₃=>
    if ok=true then wpAny (model prog w) A (eval elt env) (fun x s₄=>
     wpAny (model prog w) A (call (.builtin "list.append") [acc,x]) (fun _ s₅=>∃m,m<n/\I m s₅) (fun _ _=>False) s₄) (fun _ _=>False) s₃
    else ∃m,m<n/\I m s₃) (fun _ _=>False) s₂) (fun _ _=>False) s₁') (fun _ _=>False) s₁) (fun _ _=>False) s)
 (n:Nat)(h:I n s):codeAny (model prog w) A (.compLoop (.ListComp elt [⟨target,iter,ifs,0⟩] scope pos) 0 it acc env) R s:=by
 refine codeAny_loop rfl I (fun n s hI=>?_) n h
 show wpAny _ A ((compTurn (.ListComp elt [⟨target,iter,ifs,0⟩] scope pos) 0 it acc env).onRaise (fun x=>do noteFrame x env;theTreesLotGoes x)) _ _ s
 refine wpAny_noted ?_
 rw[compTurn_list]
 refine zA (wpAny_standAt (zA (zBI (turn n s hI) (fun r s₁ h₁=>?_) fun _ _ h'=>h'.elim)))
 cases r with
 | none=>exact zF h₁
 | some v=>
  refine zA (zBI h₁ (fun _ s₁' h₁'=>?_) fun _ _ h'=>h'.elim)
  refine zA (zBI h₁' (fun _ s₂ h₂=>zA (zBI h₂ (fun ok s₃ h₃=>?_) fun _ _ h'=>h'.elim)) fun _ _ h'=>h'.elim)
  cases ok with
  | false=>exact zF ⟨rfl,h₃⟩
  | true=>
   exact zA (zA (zBI h₃ (fun x s₄ h₄=>zA (zBI h₄ (fun _ s₅ h₅=>zF (zF ⟨rfl,h₅⟩)) fun _ _ h'=>h'.elim)) fun _ _ h'=>h'.elim))
noncomputable def PTs (X:Cx)(ifs:List Expr)(t:TT):Prop:=
 ∀(pins:lPO)(s:Shared)(σ:St)(H:Hp)(Q:Bool->Hp->Prop),Inv X pins σ H s->t σ H Q ->
  wpAny (model X.prog X.w) X.A (forIn ifs true fun c r=>if r=true then do let ok <-isTrue c X.env (eval c X.env);pure (ForInStep.yield ok) else pure (ForInStep.yield r)) (TP X pins σ Q) X.xe s
noncomputable def tYes:TT:=fun _ H Q=>Q true H
theorem zE7 {σ:St}{H:Hp}{A B:Hp->Prop}(h:A H):tYes σ H (fun b H3=>if b=true then A H3 else B H3):=by
 show (if true=true then A H else B H)
 exact zFZ h
variable {X:Cx}
theorem zBa:PTs X [] tYes:=fun _ _ _ H _ I h=>wpAny_tests_nil ⟨H,I,h⟩
theorem zB7 {c:Expr}{t:TT}(h:PT X c t):PTs X [c] t:=fun pins s σ H Q I q=>wpAny_tests_one (h pins s σ H Q I q)
noncomputable def zCn (cells:List (Str×Addr)):List (Str×NameKind)->List (Str×Addr)->List (Str×Addr)
 | [],acc=>acc
 | (n,k)::r,acc=>if (k == .free)=true then (match cells.lookup n with | some c=>zCn cells r ((n,c)::acc) | none=>zCn cells r acc) else zCn cells r acc
theorem zC7 {cells:List (Str×Addr)}{x:Str}{c:Addr}:∀(names:List (Str×NameKind))(acc:List (Str×Addr)),(zCn cells names acc).lookup x=some c->acc.lookup x=some c\/cells.lookup x=some c
 | [],acc,h=>.inl h
 | (n,k)::r,acc,h=>by
  unfold zCn at h
  split at h
  . cases hc:cells.lookup n with
    | none=>rw[hc] at h;exact zC7 r acc h
    | some c'=>
     rw[hc] at h
     rcases zC7 r _ h with q | q
     . rw[zA1] at q
       cases hx:x==n with
       | true=>
        rw[hx] at q
        have e:x=n:=by simpa using hx
        have e2:c'=c:=by simpa using q
        rw[e,hc,e2]
        exact .inr rfl
       | false=>rw[hx] at q;exact .inl q
     . exact .inr q
  . exact zC7 r acc h
theorem zDa {cells:List (Str×Addr)}{x:Str}:∀(names:List (Str×NameKind))(acc:List (Str×Addr)),(∃c,acc.lookup x=some c)->∃c,(zCn cells names acc).lookup x=some c
 | [],acc,h=>h
 | (n,k)::r,acc,h=>by
  unfold zCn
  split
  . cases hc:cells.lookup n with
    | none=>exact zDa r acc h
    | some c'=>
     refine zDa r _ ?_
     rw[zA1]
     cases hx:x==n with
     | true=>exact⟨c',rfl⟩
     | false=>exact h
  . exact zDa r acc h
theorem zCk {cells:List (Str×Addr)}{x:Str}(hx:∃c,cells.lookup x=some c):∀(names:List (Str×NameKind))(acc:List (Str×Addr)),(x,NameKind.free)∈names->∃c,(zCn cells names acc).lookup x=some c
 | [],acc,h=>by simp at h
 | (n,k)::r,acc,h=>by
  rcases zc.mp h with e | h
  . cases e
    obtain⟨c,hc⟩:=hx
    unfold zCn
    rw[if_pos (by rfl),hc]
    exact zDa r _ ⟨c,by rw[zA1];simp⟩
  . unfold zCn
    split
    . cases hc:cells.lookup n with
      | none=>exact zCk hx r acc h
      | some c'=>exact zCk hx r _ h
    . exact zCk hx r acc h
theorem zDK {env:Env}:∀(names:List (Str×NameKind))(acc:List (Str×Addr)),(∀y∈names,y.2 = .free->∃c,env.cells.lookup y.1=some c) ->
 (forIn names acc fun (x:Str×NameKind)(cs:List (Str×Addr))=>(if (x.2 == .free)=true then (do let a <-cellOf env x.1;pure (ForInStep.yield ((x.1,a)::cs))) else pure (ForInStep.yield cs):Sem (ForInStep (List (Str×Addr)))))=pure (zCn env.cells names acc)
 | [],acc,_=>rfl
 | (n,k)::r,acc,h=>by
  rw[List.forIn_cons]
  have hr:∀y∈r,y.2 = .free->∃c,env.cells.lookup y.1=some c:=fun y hy=>h y (zi _ hy)
  unfold zCn
  cases hk:(k==NameKind.free) with
  | true=>
   obtain⟨c,hc⟩:=h (n,k) za (by simpa using hk)
   simp only[hk,if_true,cellOf,hc,pure_bind]
   exact zDK r _ hr
  | false=>
   simp only[hk,zAx,if_false,pure_bind]
   exact zDK r _ hr
theorem zCO {scope:Scope}{env:Env}(h:∀y∈scope.names,y.2 = .free->∃c,env.cells.lookup y.1=some c):closureFor scope env=pure (zCn env.cells scope.names []):=by
 have e:=zDK scope.names [] h
 simp only[closureFor]
 simp only[bind_pure]
 exact e
theorem zBl {env:Env}{x:Str}:∀(names:List (Str×NameKind)),
 (names.map fun (n,k)=>if (k==NameKind.free && env.scope.kind == .function && env.kindOf n==some .cell) then (n,NameKind.cell) else (n,k)).lookup x =
  (names.lookup x).map fun k=>if (k==NameKind.free && env.scope.kind == .function && env.kindOf x==some .cell)=true then NameKind.cell else k
 | []=>rfl
 | (n,k)::r=>by
  have ih:=zBl (env:=env) (x:=x) r
  rw[zAF]
  show List.lookup x ((if (k==NameKind.free && env.scope.kind == .function && env.kindOf n==some .cell)=true then (n,NameKind.cell) else (n,k))::_)=_
  by_cases c:(k==NameKind.free && env.scope.kind == .function && env.kindOf n==some .cell)=true
  . rw[if_pos c,zA1,zA1]
    cases hx:x==n with
    | true=>
     have e:x=n:=by simpa using hx
     subst e
     show some NameKind.cell=Option.map _ (some k)
     rw[zAi,if_pos c]
    | false=>exact ih
  . rw[if_neg c,zA1,zA1]
    cases hx:x==n with
    | true=>
     have e:x=n:=by simpa using hx
     subst e
     show some k=Option.map _ (some k)
     rw[zAi,if_neg c]
    | false=>exact ih
noncomputable def zBA (X:Cx)(pl:lPO)(N':List Str)(scope:Scope)(fp:List Addr)(s3:Shared)(H3:Hp):Cx where
 prog:=X.prog
 w:=X.w
 K:=X.K
 mg:=X.mg
 base:=X.base
 A:=X.A
 N:=N'
 s₀:=s3
 H₀:=H3
 env:=compEnvC scope (zCn X.env.cells scope.names []) s3.heap.objs.size X.env
 outer:=X.stack
 stack:=X.stack
 ex:=fp
 fn:=fun _=>false
 calm:=X.calm
 pn:=pl
 xe:=fun _ _=>False
noncomputable def zEB (X:Cx)(scope:Scope):List Str->List Nat->Prop
 | [],[]=>True
 | x::cn,j::ci=>X.N[j]? = some x/\X.env.kindOf x=some .cell/\scope.names.lookup x=some .free/\zEB X scope cn ci
 | _,_=>False
theorem zEB.get {X:Cx}{scope:Scope}:∀{cn:List Str}{ci:List Nat}{k:Nat}{x:Str},zEB X scope cn ci->cn[k]? = some x->∃j,ci[k]? = some j/\X.N[j]? = some x/\X.env.kindOf x=some .cell/\scope.names.lookup x=some .free
 | [],_,_,_,_,h=>by simp at h
 | _::_,[],_,_,c,_=>c.elim
 | y::cn,j::ci,0,x,c,h=>by
  obtain⟨a,b,b',_⟩:=c
  have e:y=x:=by simpa using h
  subst e
  exact⟨j,rfl,a,b,b'⟩
 | y::cn,j::ci,k+1,x,c,h=>by
  obtain⟨j',h1,h2⟩:=zEB.get (k:=k) c.2.2.2 (by simpa using h)
  exact⟨j',by simpa using h1,h2⟩
structure zEA (X:Cx)(scope:Scope):Prop where
 kind:scope.kind = .function
 nocell:∀y∈scope.names,y.2 ≠ .cell
 names:∀y∈scope.names,y.2 = .local->scope.names.lookup y.1=some .local
 free:∀y∈scope.names,y.2 = .free->X.env.kindOf y.1=some .cell
variable {g:TG}{ti:TT}{te:TE}{Q:VK}
section
variable {X:Cx}{pins:lPO}{σ:St}{H3:Hp}{s3:Shared}{scope:Scope}{fp:List Addr}{N' own cn:List Str}{ci:List Nat}{cv:List V}
theorem zGo (ok:X.Ok)(S:zEA X scope){x:Str}(h:(relabel scope X.env).names.lookup x=some .cell\/(relabel scope X.env).names.lookup x=some .free) :
 ∃c,(zCn X.env.cells scope.names []).lookup x=some c:=by
 have e:(relabel scope X.env).names.lookup x=(scope.names.lookup x).map fun k=>if (k==NameKind.free && X.env.scope.kind == .function && X.env.kindOf x==some .cell)=true then NameKind.cell else k:=zBl scope.names
 have hf:scope.names.lookup x=some .free:=by
  cases q:scope.names.lookup x with
  | none=>rw[e,q] at h;simp at h
  | some k=>
   by_cases hk:k = .free
   . rw[hk]
   . have hb:(k==NameKind.free)=false:=by simpa using hk
     rw[e,q] at h
     simp only[zAi,hb,Bool.false_and,zAx,if_false,Option.some.injEq] at h
     rcases h with h | h
     . exact absurd h (S.nocell _ (PySem.mem_of_lookup q))
     . exact absurd h hk
 exact zCk (ok.has x (.inl (S.free _ (PySem.mem_of_lookup hf) rfl))) scope.names [] (PySem.mem_of_lookup hf)
theorem zCb {x:Str}{c:Addr}(h:(zCn X.env.cells scope.names []).lookup x=some c):X.env.cells.lookup x=some c:=by
 rcases zC7 _ _ h with q | q
 . simp at q
 . exact q
theorem zL9 (I:Inv X pins σ H3 s3)(S:zEA X scope)(f:∀b∈fp,zGG X pins H3 b)(fz:∀b∈fp,b<s3.heap.objs.size):(zBA X (X.pn++pins) N' scope fp s3 H3).Ok where
 mod:=I.ok.mod
 kind:=S.kind
 glob:=I.ok.glob
 blt:=I.ok.blt
 above:=zK _
 inj:=fun x y c h1 h2=>I.ok.inj x y c (zCb h1) (zCb h2)
 has:=fun x h=>zGo I.ok S h
 cab:=fun x c h=>by cases h
 hd:=I.ok.hd
 frames:=I.ok.frames
 stk:=.inl rfl
 exf:=fun b hb=>⟨ze (fz b hb),fun x c h=>(f b hb).2.2.2.2.1 x c (zCb h)⟩
 bs:=I.bs
 bsz:=zAD I.ok.bsz I.sz
 noex:=fun b o e hb=>by
  rcases (f b hb).2.2.2.1 with z | z
  . exact I.ok.noex b o e z
  . exact absurd (zk (zU e) (zAD I.ok.bsz z)) (zBX _)
 exfs:=fun b hb z=>by
  rcases zc.mp (I.stkSub b z) with q | q
  . exact (f b hb).2.1 q
  . exact (f b hb).2.2.1 q
 funs:=I.stack
 frf:=I.stkFree
theorem zKD {h1:Heap}{t:Nat}(I:Inv X pins σ H3 s3)(S:zEA X scope)(f:∀b∈fp,zGG X pins H3 b)(fz:∀b∈fp,b<s3.heap.objs.size)
 (hN:N'=own++cn)(hc:zEB X scope cn ci)(hv:ci.map (fun j=>σ[j]?)=cv.map fun v=>some (some v))(hl:cn.length=ci.length)
 (hns:h1.Ns s3.heap.objs.size (fun _=>none))(hk:∀b o,s3.heap.get? b=some o->h1.get? b=some o) :
 Inv (zBA X (X.pn++pins) N' scope fp s3 H3) [] (List.replicate own.length none++cv.map some) H3 { s3 with heap:=h1,toks:=t }:=by
 have lenv:cv.length=ci.length:=by
  have:=congrArg List.length hv
  simpa using this.symm
 refine⟨zL9 I S f fz,rfl,I.bare,Un.kept hk,⟨_,hns,fun i x v e1 e2 e3=>?_⟩,fun x c e=>?_,I.hok.fresh (zK _),fun x c e=>I.freeC x c (zCb e),fun p hp=>?_,I.hok.kept hk,?_⟩
 . -- a captured name
   have hi:own.length<=i:=by
    by_cases hi:own.length<=i
    . exact hi
    . rw[zZ (by simpa using hi),zBG] at e2
      split at e2 <;> cases e2
   rw[zT (by simpa using hi),zAH,zN] at e2
   have e1':(own++cn)[i]? = some x:=by rw[<-hN];exact e1
   rw[zT hi] at e1'
   obtain⟨j,hj,hNj,hkx,hfr⟩:=hc.get e1'
   have hcv:cv[i-own.length]? = some v:=by
    cases q:cv[i-own.length]? with
    | none=>rw[q] at e2;cases e2
    | some v'=>rw[q] at e2;cases e2;rfl
   have hσ:σ[j]? = some (some v):=by
    have:=congrArg (fun l:List (Option (Option V))=>l[i-own.length]?) hv
    simp only[zN,hj,hcv,zAi,Option.some.injEq] at this
    exact this
   obtain⟨m,_,hl'⟩:=I.loc
   obtain⟨u,r,q⟩:=hl' j x v hNj hσ (.inr (.inl hkx))
   have hkd:(relabel scope X.env).names.lookup x=some .cell\/(relabel scope X.env).names.lookup x=some .free:=by
    have e:(relabel scope X.env).names.lookup x=(scope.names.lookup x).map fun k=>if (k==NameKind.free && X.env.scope.kind == .function && X.env.kindOf x==some .cell)=true then NameKind.cell else k:=zBl scope.names
    rw[e,hfr,zAi]
    by_cases cc:(NameKind.free==NameKind.free && X.env.scope.kind == .function && X.env.kindOf x==some .cell)=true
    . rw[if_pos cc];exact .inl rfl
    . rw[if_neg cc];exact .inr rfl
   obtain⟨c',hc'⟩:=zGo I.ok S hkd
   refine⟨u,r,.inr ⟨hkd,c',hc',?_⟩⟩
   rcases q with ⟨z,_⟩ | ⟨_,c,hcc,o,ho,hd⟩
   . rw[hkx] at z;cases z
   . have e:c=c':=zR (hcc.symm.trans (zCb hc'))
     subst e
     exact⟨o,hk c o ho,hd⟩
 . obtain⟨v,o,ho,hd⟩:=I.cell x c (zCb e)
   exact⟨v,o,hk c o ho,hd⟩
 . have hp':p∈X.pn++pins:=by rw[zt] at hp;exact hp
   obtain⟨e,n,ne,nf,d⟩:=I.pin p hp'
   refine⟨hk _ _ e,n,ze (zU e),fun z=>?_,d⟩
   rcases zc.mp (I.stkSub p.1 z) with q | q
   . exact ne q
   . exact nf q
 . show (List.replicate own.length none++cv.map some).length=N'.length
   rw[hN,zP,zP,zAH,zD,lenv,hl]
noncomputable def zGu (J:It)(own:Nat)(cv:List V)(g:TG)(ti:TT)(te:TE)(D:Addr)(H1:Hp)(Q:VK):Prop:=∃W:Nat->Nat->List V->Hp->Prop,(∃m,W 0 m [] (upd H1 D (.lst [])))/\∀i m ys H,W i m ys H ->
 (J.stop i H/\Q (.ref D) H)\/(J.go i H/\ys.length<sizeLine/\∃N:List V->Hp->Prop,(∀ys' H',N ys' H'->∃m',m'<m/\W (i+1) m' ys' H') /\
  ∀x H',J.yld i H x H'->g x (List.replicate own none++cv.map some) H' fun σ2 H2=>(σ2.length=own+cv.length/\σ2.drop own=cv.map some) /\
   ti σ2 H2 fun b H3=>if b=true then te σ2 H3 fun y H4=>H4 D=some (.lst ys)/\N (ys++[y]) (upd H4 D (.lst (ys++[y]))) else N ys H3)
noncomputable def zHe (own:Nat)(ci:List Nat)(wi:TI)(g:TG)(ti:TT)(te:TE):TE:=fun σ H Q=>wi σ H fun J H1=>∃cv:List V,ci.map (fun j=>σ[j]?)=cv.map (fun v=>some (some v)) /\
 ∀D,H1 D=none->zGu J own cv g ti te D H1 Q
theorem zFf {elt target iter:Expr}{ifs:List Expr}{pos cpos:Pos}{wi:TI}{use:Option (Value->Sem Unit)}{Q0:vSP}{s:Shared}{H:Hp}(hcalm:X.calm=true)(S:zEA X scope)(hc:zEB X scope cn ci)(hl:cn.length=ci.length)
 (hi:PI X target iter wi)(hg:∀pl fp s3 H3,PG (zBA X pl (own++cn) scope fp s3 H3) target g)(ht:∀pl fp s3 H3,PTs (zBA X pl (own++cn) scope fp s3 H3) ifs ti)
 (he:∀pl fp s3 H3,PE (zBA X pl (own++cn) scope fp s3 H3) elt te)(hs:∀x,foldedSetIterable iter X.env x=pure x)(I:Inv X pins σ H s)(h:zHe own.length ci wi g ti te σ H Q)
 (fin:∀(D C:Addr)(H5:Hp)(s6:Shared)(m6:sOV),Inv X pins σ H5 s6->s6.heap.Ns C m6->H5 C=none->C≠X.env.locals->X.s₀.heap.objs.size<=C->(∀x c,X.env.cells.lookup x=some c->c≠C) ->
  (∀p∈X.pn++pins,p.1≠C)->Q (.ref D) H5->compPost (model X.prog X.w) X.A X.xe use Q0 (.ref D) C (.ok .next) s6) :
 wpAny (model X.prog X.w) X.A (comprehension (.ListComp elt [⟨target,iter,ifs,0⟩] scope pos) scope X.env cpos (newList []) false (eval iter X.env) use) Q0 X.xe s:=by
 have hcl:closureFor scope X.env=pure (zCn X.env.cells scope.names []):=zCO fun y hy hf=>I.ok.has y.1 (.inl (S.free y hy hf))
 refine wpAny_comprehension_free (use:=use) rfl hs hcl S.kind S.names ?_
 refine thn (hi pins s σ H _ I h) fun v s1 h1=>thn h1 fun itv s2 h2=>?_
 obtain⟨it,fp,tn,J,H2,e,I2,T,st2,f2,cv,hv,hD⟩:=h2
 subst e
 have lenv:cv.length=ci.length:=by
  have:=congrArg List.length hv
  simpa using this.symm
 have I3:=I2.lnew (ys:=[]) (its:=[]) (t':=s2.toks) .nil (zh _)
 obtain⟨W,⟨m0,w0⟩,turn⟩:=hD s2.heap.objs.size I2.fresh
 have fz:∀b∈fp,b<s2.heap.objs.size:=fun b hb=>by
  obtain⟨o,ho,_⟩:=T.obj _ _ st2 b hb
  exact zU ho
 refine zAk ?_
 refine wpAny_newFunctionEnv S.nocell (by intro y hy;simp at hy) (fun h4 hns4 hsb4=>?_) S.kind
 generalize hs3:({ s2 with heap:=s2.heap.push { cls:=.type "list",dict:=none,data:=.seq ([]:List Value).toArray } }:Shared)=s3 at hns4 hsb4 ⊢
 have I3':Inv X pins σ (upd H2 s2.heap.objs.size (.lst [])) s3:=by rw[<-hs3];exact I3
 have hsz3:s3.heap.objs.size=s2.heap.objs.size+1:=by rw[<-hs3];exact zAq ..
 have k23:∀b o,s2.heap.get? b=some o->s3.heap.get? b=some o:=fun b o e=>by rw[<-hs3];exact zH _ e
 have k34:∀b o,s3.heap.get? b=some o->h4.get? b=some o:=fun b o e=>hsb4.extBut b o (ze (zU e)) (zH _ e)
 have nD:∀b∈fp,b≠s2.heap.objs.size:=fun b hb=>ze (fz b hb)
 have f3:∀b∈fp,zGG X pins (upd H2 s2.heap.objs.size (.lst [])) b:=fun b hb=>⟨by rw[zd (nD b hb)];exact (f2 b hb).1,(f2 b hb).2⟩
 have fz3:∀b∈fp,b<s3.heap.objs.size:=fun b hb=>by rw[hsz3];exact zAt (fz b hb)
 have I4:Inv (zBA X (X.pn++pins) (own++cn) scope fp s3 (upd H2 s2.heap.objs.size (.lst []))) [] (List.replicate own.length none++cv.map some) (upd H2 s2.heap.objs.size (.lst [])) { s3 with heap:=h4,toks:=s3.toks+([]:List (Str×Value)).length }:=
  zKD I3' S f3 fz3 rfl hc hv hl hns4 k34
 have st4:tn 0 h4:=T.keep _ _ _ st2 fun b hb o e=>k34 b o (k23 b o e)
 generalize hX:zBA X (X.pn++pins) (own++cn) scope fp s3 (upd H2 s2.heap.objs.size (.lst []))=X' at I4
 have hg':PG X' target g:=by rw[<-hX];exact hg _ _ _ _
 have ht':PTs X' ifs ti:=by rw[<-hX];exact ht _ _ _ _
 have he':PE X' elt te:=by rw[<-hX];exact he _ _ _ _
 have ePr:X'.prog=X.prog:=by rw[<-hX];rfl
 have eW:X'.w=X.w:=by rw[<-hX];rfl
 have eK:X'.K=X.K:=by rw[<-hX];rfl
 have eA:X'.A=X.A:=by rw[<-hX];rfl
 have eE:X'.env=compEnvC scope (zCn X.env.cells scope.names []) s3.heap.objs.size X.env:=by rw[<-hX];rfl
 have eXe:X'.xe=fun _ _=>False:=by rw[<-hX];rfl
 have eC:X'.calm=true:=by rw[<-hX];exact hcalm
 have eex:X'.ex=fp:=by rw[<-hX];rfl
 have epn:X'.pn=X.pn++pins:=by rw[<-hX];rfl
 have es0:X'.s₀=s3:=by rw[<-hX];rfl
 have eH0:X'.H₀=upd H2 s2.heap.objs.size (.lst []):=by rw[<-hX];rfl
 have efs:X'.fs=frs X.stack:=by rw[<-hX];rfl
 have ok':=I4.ok
 have stat:∀{H':Hp},(∀b∈fp,H' b=none)->∀b∈fp,zGG X' [] H' b:=fun hn b hb=>by
  have hb':b∈X'.ex:=by rw[eex];exact hb
  refine⟨hn b hb,(ok'.exf b hb').1,ok'.exfs b hb',.inl hb',(ok'.exf b hb').2,fun p hp=>?_⟩
  rw[epn,zt] at hp
  exact (f2 b hb).2.2.2.2.2 p hp
 have wk:∀(σ2:St),(σ2.length=own.length+cv.length/\σ2.drop own.length=cv.map some)->∀{pl:lPO}{H':Hp}{s':Shared},Inv X' pl σ2 H' s'->Inv X' pl (List.replicate own.length none++cv.map some) H' s':=fun σ2 hq pl H' s' I'=>by
  refine I'.weak (by rw[hq.1,zP,zAH,zD]) fun i v hi=>?_
  by_cases hlt:i<own.length
  . rw[zZ (by simpa using hlt),zBG] at hi
    split at hi <;> cases hi
  . rw[zT (by simpa using hlt),zAH,<-hq.2,List.getElem?_drop] at hi
    rw[show own.length+(i-own.length)=i by omega] at hi
    exact hi
 have loop:codeAny (model X.prog X.w) X.A (.compLoop (.ListComp elt [⟨target,iter,ifs,0⟩] scope pos) 0 (.ref it) (.ref s2.heap.objs.size) (compEnvC scope (zCn X.env.cells scope.names []) s3.heap.objs.size X.env))
  (compPost (model X.prog X.w) X.A X.xe use Q0 (.ref s2.heap.objs.size) s3.heap.objs.size) { s3 with heap:=h4,toks:=s3.toks+([]:List (Str×Value)).length }:=by
  refine zDQ (fun n s'=>∃i ys H',Inv X' [] (List.replicate own.length none++cv.map some) H' s'/\tn i s'.heap/\(∀b∈fp,H' b=none)/\W i n ys H') ?_ m0
   ⟨0,[],_,I4,st4,fun b hb=>(f3 b hb).1,w0⟩
  rintro n s5 ⟨i,ys,H5,I5,st5,fr5,w5⟩
  rcases turn i n ys H5 w5 with ⟨stop,qn⟩ | ⟨go,hsz,N,hN,step⟩
  . have d:=T.done X' ePr eW eK eC i [] s5 _ H5 (fun _ _=>False) I5 (stat fr5) st5 stop
    rw[eA] at d
    refine thn d fun r s6 ⟨hr,I6⟩=>?_
    subst hr
    obtain⟨m6,hn6,_⟩:=I6.loc
    rw[eE] at hn6
    have hn6':s6.heap.Ns s3.heap.objs.size m6:=hn6
    have un6:Un (frs X.stack) fp (upd H2 s2.heap.objs.size (.lst [])) H5 s3.heap s6.heap:=by
     have b6:=I6.base
     rw[efs,eex,eH0,es0] at b6
     exact b6
    have os6:s6.os=s3.os:=by have o6:=I6.os;rw[es0] at o6;exact o6
    have hok6:HOk X.prog X.w H5 s6.heap:=by have o6:=I6.hok;rw[ePr,eW] at o6;exact o6
    have I7:Inv X pins σ H5 s6:=I3'.call' (ch:=fp) os6 un6 hok6 I6.bare fun b hb=>⟨(f2 b hb).2.2.2.1,(f2 b hb).2.1,(f2 b hb).2.2.2.2.1,(f2 b hb).2.2.2.2.2⟩
    have fr6:H5 s3.heap.objs.size=none:=by
     have q:=I6.free
     rw[eE] at q
     exact q
    refine fin s2.heap.objs.size s3.heap.objs.size H5 s6 m6 I7 hn6' fr6 (Nat.ne_of_gt I3'.lt) I3'.sz (fun x c e=>?_) (fun p hp=>?_) qn
    . obtain⟨_,o,ho,_⟩:=I3'.cell x c e
      exact ze (zU ho)
    . exact ze (zU (I3'.pin p hp).1)
  . have d:=T.item X' ePr eW eK eC i [] s5 _ H5 (fun _ _=>False) I5 (stat fr5) st5 go
    rw[eA] at d
    refine thn d fun r s6 ⟨u,hr,h6⟩=>?_
    subst hr
    refine thn h6 fun _ s7 ⟨x,H7,I7,r7,y7,st7,fr7⟩=>?_
    have I7':=I7.pinned (stat fr7) (T.obj _ _ st7)
    have g7:=hg' _ s7 _ H7 x u _ I7' r7 (step x H7 y7)
    rw[ePr,eW,eA,eE,eXe] at g7
    refine thn g7 fun _ s8 ⟨σ8,H8,I8,q8,ti8⟩=>?_
    have t8:=ht' _ s8 σ8 H8 _ I8 ti8
    rw[ePr,eW,eA,eE,eXe] at t8
    refine thn t8 fun ok s9 ⟨H9,I9,q9⟩=>?_
    have again:∀{ys':List V}{H':Hp}{s':Shared},Inv X' ([]++zET fp s7.heap) σ8 H' s'->N ys' H' ->
     ∃m,m<n/\∃i ys H',Inv X' [] (List.replicate own.length none++cv.map some) H' s'/\tn i s'.heap/\(∀b∈fp,H' b=none)/\W i m ys H':=fun {ys' H' s'} I' n'=>by
     obtain⟨m',hm,w'⟩:=hN ys' H' n'
     refine⟨m',hm,i+1,ys',H',(wk σ8 q8 I').unpinned,T.keep _ _ _ st7 fun b hb o e=>(I'.pin (b,o) (zg _ (zg _ (zB9 hb e)))).1,fun b hb=>?_,w'⟩
     obtain⟨o,e,_⟩:=T.obj _ _ st7 b hb
     exact (I'.pin (b,o) (zg _ (zg _ (zB9 hb e)))).2.1
    cases ok with
    | false=>exact again I9 q9
    | true=>
     have e9:=he' _ s9 σ8 H9 _ I9 q9
     rw[ePr,eW,eA,eE,eXe] at e9
     refine thn e9 fun u10 s10 ⟨y,H10,I10,r10,hD10,n10⟩=>?_
     have a10:=zCZ (X:=X') _ s10 σ8 H10 (.ref s2.heap.objs.size) [y] (.ref s2.heap.objs.size) [u10] (fun _ H'=>N (ys++[y]) H') I10 rfl (.cons r10 .nil) ⟨_,_,_,rfl,rfl,hD10,hsz,n10⟩
     rw[ePr,eW,eA,eXe] at a10
     exact thn a10 fun _ s11 ⟨_,H11,I11,_,n11⟩=>again I11 n11
 exact codeAny_compStart_list loop (T.self X.A 0 _ _ _ st4 loop)
theorem zA7 {elt target iter:Expr}{ifs:List Expr}{pos:Pos}{wi:TI}(hcalm:X.calm=true)(S:zEA X scope)(hc:zEB X scope cn ci)(hl:cn.length=ci.length)
 (hi:PI X target iter wi)(hg:∀pl fp s3 H3,PG (zBA X pl (own++cn) scope fp s3 H3) target g)(ht:∀pl fp s3 H3,PTs (zBA X pl (own++cn) scope fp s3 H3) ifs ti)
 (he:∀pl fp s3 H3,PE (zBA X pl (own++cn) scope fp s3 H3) elt te)(hs:∀x,foldedSetIterable iter X.env x=pure x:=by intro _;rfl) :
 PE X (.ListComp elt [⟨target,iter,ifs,0⟩] scope pos) (zHe own.length ci wi g ti te):=by
 intro pins s σ H Q I h
 rw[eval_ListComp]
 exact zFf hcalm S hc hl hi hg ht he hs I h fun D C H5 s6 m6 I7 hn fr nL ge nC nP q=>⟨m6,hn,fun h' hs'=>⟨.ref D,H5,I7.turned (t':=s6.toks) (it:=C) (fun b o hb e=>hs'.extBut b o hb e) fr nL (.inr ge) nC nP,rfl,q⟩⟩
theorem zDF {elt target iter:Expr}{ifs:List Expr}{pos pos' cpos:Pos}{wi:TI}{g:TG}{ti:TT}{te:TE}{i:Nat}{x:Str}(hN:X.N.Nodup)(hix:X.N[i]? = some x)(hx:Loc X.env.scope x)(hcalm:X.calm=true)(S:zEA X scope)(hc:zEB X scope cn ci)(hl:cn.length=ci.length)
 (hi:PI X target iter wi)(hg:∀pl fp s3 H3,PG (zBA X pl (own++cn) scope fp s3 H3) target g)(ht:∀pl fp s3 H3,PTs (zBA X pl (own++cn) scope fp s3 H3) ifs ti)
 (he:∀pl fp s3 H3,PE (zBA X pl (own++cn) scope fp s3 H3) elt te)(hs:∀x,foldedSetIterable iter X.env x=pure x:=by intro _;rfl)
 (hsw:swapsWith (.ListComp elt [⟨target,iter,ifs,0⟩] scope cpos) (some (.Name x pos')) pos.line X.env=pure true:=by rfl)
 (hf:X.fn x=true\/X.env.scope.names.lookup x=some .local:=by first | exact .inl rfl | exact .inr rfl | assumption) :
 PS X (.Assign [.Name x pos'] (.ListComp elt [⟨target,iter,ifs,0⟩] scope cpos) pos) (tAsg (zHe own.length ci wi g ti te) (zHK i)):=by
 intro pins s σ H D I h
 rw[exec_Assign_Name_used _ _ _ _ hsw]
 refine zA (wpAny_standAt (zA ?_))
 show wpAny _ X.A (do let _ <-comprehension (.ListComp elt [⟨target,iter,ifs,0⟩] scope cpos) scope X.env _ (newList []) false (eval iter X.env) (some (assign (.Name x pos') X.env))) _ _ s
 refine zA (zBI (zFf (use:=some (assign (.Name x pos') X.env)) (Q0:=fun _ s'=>SP X pins D .next s') hcalm S hc hl hi hg ht he hs I h (fun D' C H5 s6 m6 I7 hn fr nL ge nC nP q=>?_)) (fun _ s' hq=>zF (zF hq)) fun _ _ e=>e)
 obtain⟨oC,es,ep,hoC,hd,r1⟩:=hn
 have nf:C∉X.fs:=fun hb=>by
  obtain⟨_,o,ho,_⟩:=I7.ok.funs.mem hb
  exact absurd (zk (zU ho) ge) (zBX _)
 have I7':Inv X (pins++[(C,oC)]) σ H5 s6:=I7.pins_of fun p hp=>by
  rcases zp.mp hp with z | z
  . exact I7.pin p (zg _ z)
  . rw[zm.mp z]
    exact⟨hoC,fr,nL,nf,fun v e=>by rw[hd] at e;cases e⟩
 show wpAny _ X.A (assign (.Name x pos') X.env (.ref D')) _ _ s6
 refine wpAny_assign_Name (zDV I7' hN hix hx (show zBH (.ref D') (.ref D') from rfl) (fun s' I'=>?_) hf)
 have hC':=(I'.pin (C,oC) (zg _ (zg _ (zm.mpr rfl)))).1
 refine⟨m6,⟨oC,es,ep,hC',hd,r1⟩,fun h' hs'=>⟨_,H5,?_,q⟩⟩
 have I2:Inv X pins (σ.set i (some (.ref D'))) H5 s':=I'.pins_of fun p hp=>I'.pin p (zg _ (zAO _ hp))
 exact I2.turned (t':=s'.toks) (it:=C) (fun b o hb e=>hs'.extBut b o hb e) fr nL (.inr ge) nC nP
end
noncomputable def cscOk (outer inner:Scope):Bool:=inner.names.all fun y=>(y.2 != .cell) && (y.2 != .local || inner.names.lookup y.1==some .local) && (y.2 != .free || outer.names.lookup y.1==some .cell)
theorem csc {scope:Scope}(hk:scope.kind = .function)(h:cscOk X.env.scope scope=true):zEA X scope:=by
 have a:=zAj.mp h
 refine⟨hk,fun y hy e=>?_,fun y hy e=>?_,fun y hy e=>?_⟩
 . have:=a y hy
   rw[e] at this
   simp at this
 . have:=a y hy
   rw[e] at this
   simpa using this
 . have:=a y hy
   rw[e] at this
   have h2:X.env.scope.names.lookup y.1=some .cell:=by simpa using this
   exact h2
theorem zDT {l:List Str}(h:decide l.Nodup=true):l.Nodup:=of_decide_eq_true h
section
variable {X:Cx}{pl:lPO}{N':List Str}{sc:Scope}{fp:List Addr}{s3:Shared}{H3:Hp}
theorem zBd:IxR (zBA X pl N' sc fp s3 H3) (rIxT X.K):=zAM
theorem zCh:IxR (zBA X pl N' sc fp s3 H3) (rIxL X.K):=zAg
theorem zEs {es:List Expr}{k:Nat}{t:TGs}{n:Nat}{pos:Pos}(hc:X.calm=true)(h:PGs (zBA X pl N' sc fp s3 H3) es t)
 (hn:(assignEach es (zBA X pl N' sc fp s3 H3).env).length=n:=by rfl)(hst:(assignEach es (zBA X pl N' sc fp s3 H3).env).findIdx? (·.1)=none:=by rfl):PG (zBA X pl N' sc fp s3 H3) (.Tuple es k pos) (gTup X.K n t):=zCC hc h hn hst
end
variable {own:Nat}{cv:List V}{D:Addr}{H1:Hp}
theorem zCI {K:PySem.W.Frag}{a:Addr}{xs:List V}(Pv:Nat->List V->Hp->Prop)(h0:Pv 0 [] (upd H1 D (.lst [])))(hl:∀i ys H,Pv i ys H->SqL K H a xs)(hz:∀i ys H,Pv i ys H->ys.length<sizeLine)
 (hs:∀i x ys H,xs[i]? = some x->Pv i ys H->g x (List.replicate own none++cv.map some) H fun σ2 H2=>(σ2.length=own+cv.length/\σ2.drop own=cv.map some) /\
  ti σ2 H2 fun b H3=>if b=true then te σ2 H3 fun y H4=>H4 D=some (.lst ys)/\Pv (i+1) (ys++[y]) (upd H4 D (.lst (ys++[y]))) else Pv (i+1) ys H3)
 (hd:∀ys H,Pv xs.length ys H->Q (.ref D) H) :
 zGu (Itl K a) own cv g ti te D H1 Q:=by
 refine⟨fun i m ys H=>m=xs.length-i/\i<=xs.length/\Pv i ys H,⟨xs.length,rfl,zh _,h0⟩,?_⟩
 rintro i m ys H ⟨rfl,hi,p⟩
 have q:=hl i ys H p
 by_cases hlt:i<xs.length
 . refine .inr ⟨⟨xs,xs[i],q,by simp[hlt]⟩,hz i ys H p,Pv (i+1),fun ys' H' p'=>⟨xs.length-(i+1),by omega,rfl,hlt,p'⟩,fun x H' y=>?_⟩
   obtain⟨e,y⟩:=y
   subst e
   exact hs i x ys _ (y xs q) p
 . have e:i=xs.length:=by omega
   subst e
   exact .inl ⟨⟨xs,q,zK _⟩,hd ys H p⟩
theorem zBn {K:PySem.W.Frag}{a:Addr}{xs:List V}(Pv:Nat->List V->Hp->Prop)(h0:Pv 0 [] (upd H1 D (.lst [])))(hl:∀i ys H,Pv i ys H->SqT K H a xs)(hz:∀i ys H,Pv i ys H->ys.length<sizeLine)
 (hs:∀i x ys H,xs[i]? = some x->Pv i ys H->g x (List.replicate own none++cv.map some) H fun σ2 H2=>(σ2.length=own+cv.length/\σ2.drop own=cv.map some) /\
  ti σ2 H2 fun b H3=>if b=true then te σ2 H3 fun y H4=>H4 D=some (.lst ys)/\Pv (i+1) (ys++[y]) (upd H4 D (.lst (ys++[y]))) else Pv (i+1) ys H3)
 (hd:∀ys H,Pv xs.length ys H->Q (.ref D) H) :
 zGu (Itt K a) own cv g ti te D H1 Q:=by
 refine⟨fun i m ys H=>m=xs.length-i/\i<=xs.length/\Pv i ys H,⟨xs.length,rfl,zh _,h0⟩,?_⟩
 rintro i m ys H ⟨rfl,hi,p⟩
 have q:=hl i ys H p
 by_cases hlt:i<xs.length
 . refine .inr ⟨⟨xs,xs[i],q,by simp[hlt]⟩,hz i ys H p,Pv (i+1),fun ys' H' p'=>⟨xs.length-(i+1),by omega,rfl,hlt,p'⟩,fun x H' y=>?_⟩
   obtain⟨e,y⟩:=y
   subst e
   exact hs i x ys _ (y xs q) p
 . have e:i=xs.length:=by omega
   subst e
   exact .inl ⟨⟨xs,q,zK _⟩,hd ys H p⟩
theorem zBF {lo:Int}{n:Nat}(Pv:Nat->List V->Hp->Prop)(h0:Pv 0 [] (upd H1 D (.lst [])))(hz:∀i ys H,Pv i ys H->ys.length<sizeLine)
 (hs:∀i ys H,i<n->Pv i ys H->g (.int (lo+i)) (List.replicate own none++cv.map some) H fun σ2 H2=>(σ2.length=own+cv.length/\σ2.drop own=cv.map some) /\
  ti σ2 H2 fun b H3=>if b=true then te σ2 H3 fun y H4=>H4 D=some (.lst ys)/\Pv (i+1) (ys++[y]) (upd H4 D (.lst (ys++[y]))) else Pv (i+1) ys H3)
 (hd:∀ys H,Pv n ys H->Q (.ref D) H) :
 zGu (Itr lo n) own cv g ti te D H1 Q:=by
 refine⟨fun i m ys H=>m=n-i/\i<=n/\Pv i ys H,⟨n,rfl,zh _,h0⟩,?_⟩
 rintro i m ys H ⟨rfl,hi,p⟩
 by_cases hlt:i<n
 . refine .inr ⟨hlt,hz i ys H p,Pv (i+1),fun ys' H' p'=>⟨n-(i+1),by omega,rfl,hlt,p'⟩,fun x H' y=>?_⟩
   obtain⟨e,y⟩:=y
   subst e
   subst y
   exact hs i ys _ hlt p
 . have e:i=n:=by omega
   subst e
   exact .inl ⟨zK _,hd ys H p⟩
end L2
namespace SortT
open PySem.W PyProof.Rows
noncomputable def ev {α:Type}(lt:Nat->Nat->Bool):KasT α->α
 | .ret a=>a
 | .ask i j k=>ev lt (k (lt i j))
theorem zDI {α β:Type}(lt:Nat->Nat->Bool)(f:α->KasT β):∀t:KasT α,ev lt (t.bind f)=ev lt (f (ev lt t))
 | .ret _=>rfl
 | .ask i j k=>zDI lt f (k (lt i j))
variable {p:Array Nat}{i j n nrem:Nat}
section
variable {O:KeyOrd}{key:Nat->O.α}
noncomputable def kk (key:Nat->O.α)(p:Array Nat)(i:Nat):O.α:=key (p.getD i 0)
noncomputable def Sr (key:Nat->O.α)(p:Array Nat)(n:Nat):Prop:=∀i j,i<=j->j<n->O.kle (kk key p i) (kk key p j)
noncomputable def Fl (key:Nat->O.α)(p:Array Nat)(n:Nat):Prop:=∀i j,i<=j->j<n->O.kle (kk key p j) (kk key p i)
theorem zC3 {q:Array Nat}(h:p[i]? = q[j]?):kk key p i=kk key q j:=by
 unfold kk;rw[Array.getD_eq_getD_getElem?,Array.getD_eq_getD_getElem?,h]
theorem zIg (hj:j<=p.size)(k:Nat):kk key (kas_rev p i j) k=if i<=k/\k<j then kk key p (i+j-1-k) else kk key p k:=by
 have e:=getElem?_mirror_all (i:=i) hj k
 unfold kas_rev
 by_cases h1:i<=k/\k<j
 . rw[if_pos h1] at e ⊢;exact zC3 e
 . rw[if_neg h1] at e ⊢;exact zC3 e
theorem zDo (hj:j<=p.size)(he:∀k,i<=k->k<j->kk key p k=kk key p (j-1))(k:Nat):kk key (kas_rev p i j) k=kk key p k:=by
 rw[zIg hj]
 split
 . rw[he _ (by omega) (by omega),he k (by omega) (by omega)]
 . rfl
theorem zFX {src d:Nat}(hs:src<p.size)(hd:d<=src)(k:Nat) :
 kk key (bubble p src d) k=if k=src-d then kk key p src else if src-d<k/\k<=src then kk key p (k-1) else kk key p k:=by
 have e:=getElem?_bubble hs d hd k
 by_cases h1:k=src-d
 . rw[if_pos h1] at e ⊢;exact zC3 e
 . rw[if_neg h1] at e ⊢
   by_cases h2:src-d<k/\k<=src
   . rw[if_pos h2] at e ⊢;exact zC3 e
   . rw[if_neg h2] at e ⊢;exact zC3 e
noncomputable def lt_ (key:Nat->O.α)(i j:Nat):Bool:=O.blt (key i) (key j)
theorem zB0 (p:Array Nat)(i j:Nat):(kas_rev p i j).Perm p:=mirror_perm _ _ _ _
theorem zEp (p:Array Nat)(i j:Nat):(kas_rev p i j).size=p.size:=(zB0 p i j).size_eq
theorem zJC {p:Array Nat}:∀(f n:Nat),1<=n->Sr key p n->∃m,ev (lt_ key) (kas_asc p f n)=m/\n<=m/\m<=n+f/\Sr key p m/\(m=n+f\/O.klt (kk key p m) (kk key p (m-1)))
 | 0,n,_,hs=>⟨n,rfl,zK _,zK _,hs,.inl rfl⟩
 | f+1,n,h1,hs=>by
  show ∃m,ev (lt_ key) (if lt_ key (p.getD n 0) (p.getD (n-1) 0)=true then KasT.ret n else kas_asc p f (n+1))=m/\_
  cases hl:lt_ key (p.getD n 0) (p.getD (n-1) 0) with
  | true=>exact⟨n,by simp[ev],zK _,by omega,hs,.inr hl⟩
  | false=>
   have hs':Sr key p (n+1):=fun i j hij hj=>by
    by_cases hjn:j<n
    . exact hs i j hij hjn
    . have hj':j=n:=by omega
      subst hj'
      by_cases hi':i=j
      . subst hi';exact KeyOrd.kle_refl _
      . exact KeyOrd.kle_trans (hs i (j-1) (by omega) (by omega)) hl
   obtain⟨m,e,a,b,c,d⟩:=zJC f (n+1) (by omega) hs'
   refine⟨m,by simpa using e,by omega,by omega,c,?_⟩
   rcases d with d | d
   . exact .inl (by omega)
   . exact .inr d
theorem zGK (h1:1<=n)(hn:n<=nrem)(hz:nrem<=p.size)(hs:Fl key p n) :
 ∃m q,ev (lt_ key) (kas_tail3 n nrem p)=(m,q)/\q.Perm p/\1<=m/\m<=nrem/\Sr key q m:=by
 unfold kas_tail3
 have hs':Sr key (kas_rev p 0 n) n:=fun i j hij hj=>by
  rw[zIg (by omega),zIg (by omega),if_pos (by omega),if_pos (by omega)]
  exact hs _ _ (by omega) (by omega)
 obtain⟨m,e,a,b,c,_⟩:=zJC (nrem-n) n h1 hs'
 exact⟨m,kas_rev p 0 n,by rw[zDI,e];rfl,zB0 _ _ _,by omega,by omega,c⟩
theorem zE3:∀(f n q:Nat)(p:Array Nat),1<=n->n+f<=p.size->Fl key p n->q+1<=n->(∀i,n-(q+1)<=i->i<n->kk key p i=kk key p (n-1)) ->
 ∃p' n' q',ev (lt_ key) (kas_desc f p n q)=(p',n',q')/\p'.Perm p/\n<=n'/\n'<=n+f/\Fl key p' n'/\q'+1<=n'/\(∀i,n'-(q'+1)<=i->i<n'->kk key p' i=kk key p' (n'-1))
 | 0,n,q,p,_,_,hs,hq,he=>⟨p,n,q,rfl,.refl _,zK _,zK _,hs,hq,he⟩
 | f+1,n,q,p,h1,hz,hs,hq,he=>by
  show ∃p' n' q',ev (lt_ key) (if lt_ key (p.getD n 0) (p.getD (n-1) 0)=true then _ else KasT.ask _ _ _)=(p',n',q')/\_
  cases hl:lt_ key (p.getD n 0) (p.getD (n-1) 0) with
  | true=>
   have step:∀xs:Array Nat,(∀k,kk key xs k=kk key p k)->Fl key xs (n+1):=fun xs hk i j hij hj=>by
    rw[hk,hk]
    by_cases hjn:j<n
    . exact hs i j hij hjn
    . have hj':j=n:=by omega
      subst hj'
      by_cases hi':i=j
      . subst hi';exact KeyOrd.kle_refl _
      . exact KeyOrd.kle_trans (KeyOrd.kle_of_klt hl) (hs i (j-1) (by omega) (by omega))
   by_cases hq0:q > 0
   . have hk:=zDo (key:=key) (p:=p) (i:=n-(q+1)) (j:=n) (by omega) he
     obtain⟨p',n',q',e,a,b,c,d⟩:=zE3 f (n+1) 0 (kas_rev p (n-(q+1)) n) (by omega) (by rw[zEp];omega) (step _ hk) (by omega) (fun i h1 h2=>by congr 1;omega)
     exact⟨p',n',q',by simpa [hq0] using e,a.trans (zB0 _ _ _),by omega,by omega,d⟩
   . obtain⟨p',n',q',e,a,b,c,d⟩:=zE3 f (n+1) 0 p (by omega) (by omega) (step _ fun _=>rfl) (by omega) (fun i h1 h2=>by congr 1;omega)
     exact⟨p',n',q',by simpa [hq0] using e,a,by omega,by omega,d⟩
  | false=>
   show ∃p' n' q',ev (lt_ key) (if lt_ key (p.getD (n-1) 0) (p.getD n 0)=true then KasT.ret (p,n,q) else kas_desc f p (n+1) (q+1))=(p',n',q')/\_
   cases hr:lt_ key (p.getD (n-1) 0) (p.getD n 0) with
   | true=>exact⟨p,n,q,by simp[ev],.refl _,zK _,by omega,hs,hq,he⟩
   | false=>
    have heq:kk key p n=kk key p (n-1):=KeyOrd.kle_antisymm hr hl
    have hs':Fl key p (n+1):=fun i j hij hj=>by
     by_cases hjn:j<n
     . exact hs i j hij hjn
     . have hj':j=n:=by omega
       subst hj'
       by_cases hi':i=j
       . subst hi';exact KeyOrd.kle_refl _
       . rw[heq];exact hs i (j-1) (by omega) (by omega)
    obtain⟨p',n',q',e,a,b,c,d⟩:=zE3 f (n+1) (q+1) p (by omega) (by omega) hs' (by omega) (fun i h1 h2=>by
     rw[show n+1-1=n by omega]
     by_cases hix:i=n
     . subst hix;rfl
     . rw[heq];exact he i (by omega) (by omega))
    exact⟨p',n',q',by simpa using e,a,by omega,by omega,d⟩
theorem zD1 (hn:n+1<=nrem)(hz:nrem<=p.size)(hs:Fl key p (n+1)) :
 ∃m q,ev (lt_ key) (kas_descPart n nrem p)=(m,q)/\q.Perm p/\1<=m/\m<=nrem/\Sr key q m:=by
 unfold kas_descPart
 rw[zDI]
 obtain⟨p',n',q',e,a,b,c,d,hq,he⟩:=zE3 (nrem-(n+1)) (n+1) 0 p (by omega) (by omega) hs (by omega) (fun i h1 h2=>by congr 1;omega)
 rw[e]
 dsimp only
 have hz':p'.size=p.size:=a.size_eq
 by_cases hq0:q' > 0
 . rw[if_pos hq0]
   have hk:=zDo (key:=key) (p:=p') (i:=n'-(q'+1)) (j:=n') (by omega) he
   obtain⟨m,r,e2,a2,b2,c2,d2⟩:=zGK (key:=key) (p:=kas_rev p' (n'-(q'+1)) n') (n:=n') (nrem:=nrem) (by omega) (by omega) (by rw[zEp];omega) (fun i j hij hj=>by rw[hk,hk];exact d i j hij hj)
   exact⟨m,r,e2,a2.trans ((zB0 _ _ _).trans a),b2,c2,d2⟩
 . rw[if_neg hq0]
   obtain⟨m,r,e2,a2,b2,c2,d2⟩:=zGK (key:=key) (p:=p') (n:=n') (nrem:=nrem) (by omega) (by omega) (by omega) d
   exact⟨m,r,e2,a2.trans a,b2,c2,d2⟩
theorem zKC (h1:1<=nrem)(hz:nrem<=p.size):∃m q,ev (lt_ key) (kas_count nrem p)=(m,q)/\q.Perm p/\1<=m/\m<=nrem/\Sr key q m:=by
 unfold kas_count
 rw[zDI]
 obtain⟨n,e,a,b,hsn,hor⟩:=zJC (key:=key) (p:=p) (nrem-1) 1 (zK _) (fun i j hij hj=>by have:i=j:=(by omega);subst this;exact KeyOrd.kle_refl _)
 rw[e]
 by_cases hnn:n=nrem
 . rw[if_pos (by simpa using hnn)]
   exact⟨n,p,rfl,.refl _,a,by omega,hsn⟩
 . rw[if_neg (by simpa using hnn)]
   have hlt:O.klt (kk key p n) (kk key p (n-1)):=hor.resolve_left (by omega)
   by_cases hgt:n > 1
   . rw[if_pos hgt]
     show ∃m q,ev (lt_ key) (if lt_ key (p.getD 0 0) (p.getD (n-1) 0)=true then KasT.ret (n,p) else kas_descPart n nrem (kas_rev p 0 n))=(m,q)/\_
     cases hr:lt_ key (p.getD 0 0) (p.getD (n-1) 0) with
     | true=>exact⟨n,p,by simp[ev],.refl _,a,by omega,hsn⟩
     | false=>
      have hall:∀k,0<=k->k<n->kk key p k=kk key p (n-1):=fun k _ hk=>
       KeyOrd.kle_antisymm (hsn k (n-1) (by omega) (by omega)) (KeyOrd.kle_trans hr (hsn 0 k (by omega) hk))
      have hk:=zDo (key:=key) (p:=p) (i:=0) (j:=n) (by omega) hall
      obtain⟨m,q,e2,a2,b2,c2,d2⟩:=zD1 (key:=key) (p:=kas_rev p 0 n) (n:=n) (nrem:=nrem) (by omega) (by rw[zEp];omega) (fun i j hij hj=>by
       rw[hk,hk]
       by_cases hjn:j<n
       . rw[hall i (by omega) (by omega),hall j (by omega) hjn];exact KeyOrd.kle_refl _
       . have hj':j=n:=by omega
         subst hj'
         by_cases hi':i=j
         . subst hi';exact KeyOrd.kle_refl _
         . rw[hall i (by omega) (by omega)];exact KeyOrd.kle_of_klt hlt)
      exact⟨m,q,by simpa using e2,a2.trans (zB0 _ _ _),b2,c2,d2⟩
   . rw[if_neg hgt]
     have hn1:n=1:=by omega
     subst hn1
     refine zD1 (by omega) hz fun i j hij hj=>?_
     by_cases hi':i=j
     . subst hi';exact KeyOrd.kle_refl _
     . have hi0:i=0:=by omega
       have hj1:j=1:=by omega
       subst hi0;subst hj1
       exact KeyOrd.kle_of_klt hlt
theorem zEq {p:Array Nat}{k:Nat}(hs:Sr key p k):∀(f l r:Nat),l<=r->r<=k->r-l<=f->(∀i,i<l->O.kle (kk key p i) (kk key p k))->(∀i,r<=i->i<k->O.klt (kk key p k) (kk key p i)) ->
 ∃m,ev (lt_ key) (kas_place p k f l r)=m/\m<=k/\(∀i,i<m->O.kle (kk key p i) (kk key p k))/\(∀i,m<=i->i<k->O.klt (kk key p k) (kk key p i))
 | 0,l,r,hlr,hrk,hf,hlo,hhi=>⟨l,rfl,by omega,hlo,fun i h1 h2=>hhi i (by omega) h2⟩
 | f+1,l,r,hlr,hrk,hf,hlo,hhi=>by
  unfold kas_place
  by_cases hge:l ≥ r
  . rw[if_pos hge]
    exact⟨l,rfl,by omega,hlo,fun i h1 h2=>hhi i (by omega) h2⟩
  . rw[if_neg hge]
    show ∃m,ev (lt_ key) (if lt_ key (p.getD k 0) (p.getD ((l+r)/2) 0)=true then kas_place p k f l ((l+r)/2) else kas_place p k f ((l+r)/2+1) r)=m/\_
    cases hl:lt_ key (p.getD k 0) (p.getD ((l+r)/2) 0) with
    | true=>
     obtain⟨m,e,x⟩:=zEq hs f l ((l+r)/2) (by omega) (by omega) (by omega) hlo (fun i h1 h2=>KeyOrd.klt_of_klt_of_kle hl (hs _ _ h1 h2))
     exact⟨m,by simpa using e,x⟩
    | false=>
     obtain⟨m,e,x⟩:=zEq hs f ((l+r)/2+1) r (by omega) (by omega) (by omega) (fun i h1=>KeyOrd.kle_trans (hs i ((l+r)/2) (by omega) (by omega)) (show O.kle _ _ from hl)) hhi
     exact⟨m,by simpa using e,x⟩
theorem zKp:∀(f:Nat)(p:Array Nat)(k:Nat),k+f=p.size->Sr key p k->∃q,ev (lt_ key) (kas_bin f p k)=q/\q.Perm p/\Sr key q (k+f)
 | 0,p,k,_,hs=>⟨p,rfl,.refl _,hs⟩
 | f+1,p,k,hz,hs=>by
  unfold kas_bin
  rw[zDI]
  obtain⟨l,e,hlk,hlo,hhi⟩:=zEq (key:=key) hs k 0 k (by omega) (by omega) (by omega) (fun i h=>by omega) (fun i h1 h2=>by omega)
  rw[e]
  have hs':Sr key (bubble p k (k-l)) (k+1):=fun i j hij hj=>by
   rw[zFX (by omega) (by omega),zFX (by omega) (by omega),show k-(k-l)=l by omega]
   repeat' split
   all_goals first
    | (exfalso;omega)
    | exact KeyOrd.kle_refl _
    | exact hlo _ (by omega)
    | exact KeyOrd.kle_of_klt (hhi _ (by omega) (by omega))
    | exact hs _ _ (by omega) (by omega)
  obtain⟨q,e2,a,b⟩:=zKp f (bubble p k (k-l)) (k+1) (by rw[(bubble_perm p k (k-l)).size_eq];omega) hs'
  exact⟨q,e2,a.trans (bubble_perm _ _ _),by rw[show k+(f+1)=k+1+f by omega];exact b⟩
theorem zLA (n:Nat)(h1:1<=n):∃q,ev (lt_ key) (kas_sort n)=q/\q.Perm (List.range n).toArray/\Sr key q n:=by
 unfold kas_sort
 rw[zDI]
 have hz:(List.range n).toArray.size=n:=by simp
 obtain⟨m,q,e,a,b,c,d⟩:=zKC (key:=key) (p:=(List.range n).toArray) h1 (by omega)
 rw[e]
 dsimp only
 have hq:q.size=n:=by rw[a.size_eq,hz]
 by_cases hm:m<n
 . rw[if_pos hm]
   obtain⟨r,e2,a2,b2⟩:=zKp (key:=key) (n-max m 1) q (max m 1) (by omega) (by rw[show max m 1=m by omega];exact d)
   exact⟨r,e2,a2.trans a,by rw[show max m 1+(n-max m 1)=n by omega] at b2;exact b2⟩
 . rw[if_neg hm]
   have:m=n:=by omega
   subst this
   exact⟨q,rfl,a,d⟩
end
noncomputable def zEO {α:Type}(n:Nat)(R:α->Prop):KasT α->Prop
 | .ret a=>R a
 | .ask i j k=>i<n/\j<n/\∀b,zEO n R (k b)
theorem zEO.bind {α β:Type}{n:Nat}{R:α->Prop}{R':β->Prop}{f:α->KasT β}(hf:∀a,R a->zEO n R' (f a)):∀(t:KasT α),zEO n R t->zEO n R' (t.bind f)
 | .ret a,h=>hf a h
 | .ask _ _ k,h=>⟨h.1,h.2.1,fun b=>zEO.bind hf (k b) (h.2.2 b)⟩
noncomputable def Bd (n:Nat)(p:Array Nat):Prop:=∀i,p.getD i 0<n
theorem Bd.perm {q:Array Nat}(h:Bd n q)(hp:p.Perm q):Bd n p:=fun i=>by
 have h0:0<n:=zAN (zh _) (h 0)
 by_cases hi:i<p.size
 . have e:p.getD i 0=p[i]:=by simp[Array.getD,hi]
   rw[e]
   have hm:p[i]∈q.toList:=(Array.perm_iff_toList_perm.mp hp).mem_iff.mp (by simp)
   obtain⟨j,hj,ej⟩:=zv hm
   have hj':j<q.size:=by simpa using hj
   have:=h j
   rw[show q.getD j 0=q[j] by simp[Array.getD,hj']] at this
   rw[<-ej]
   simpa using this
 . have e:p.getD i 0=0:=by simp[Array.getD,hi]
   rw[e];exact h0
theorem zGD {n:Nat}{p:Array Nat}(hp:Bd n p):∀f m,zEO n (fun _=>True) (kas_asc p f m)
 | 0,_=>trivial
 | f+1,m=>⟨hp _,hp _,fun b=>by
  cases b with
  | true=>exact trivial
  | false=>exact zGD hp f (m+1)⟩
theorem zDZ {n:Nat}:∀(f:Nat)(p:Array Nat)(m q:Nat),Bd n p->zEO n (fun r=>Bd n r.1) (kas_desc f p m q)
 | 0,_,_,_,hp=>hp
 | f+1,p,m,q,hp=>⟨hp _,hp _,fun b=>by
  cases b with
  | true=>
   show zEO n _ (if q > 0 then kas_desc f (kas_rev p (m-(q+1)) m) (m+1) 0 else kas_desc f p (m+1) 0)
   split
   . exact zDZ f _ _ _ (hp.perm (zB0 _ _ _))
   . exact zDZ f _ _ _ hp
  | false=>
   refine⟨hp _,hp _,fun d=>?_⟩
   cases d with
   | true=>exact hp
   | false=>exact zDZ f _ _ _ hp⟩
theorem zFA {m:Nat}(hp:Bd n p):zEO n (fun r=>Bd n r.2) (kas_tail3 m nrem p):=by
 unfold kas_tail3
 exact zEO.bind (R:=fun _=>True) (R':=fun r=>Bd n r.2) (f:=fun k=>KasT.ret (k,kas_rev p 0 m)) (fun a _=>hp.perm (zB0 p 0 m)) _ (zGD (hp.perm (zB0 p 0 m)) _ _)
theorem zDP {m:Nat}(hp:Bd n p):zEO n (fun r=>Bd n r.2) (kas_descPart m nrem p):=
 zEO.bind (fun r hr=>by
  split
  . exact zFA (hr.perm (zB0 _ _ _))
  . exact zFA hr) _ (zDZ _ _ _ _ hp)
theorem zI1 (hp:Bd n p):zEO n (fun r=>Bd n r.2) (kas_count nrem p):=
 zEO.bind (fun r _=>by
  split
  . exact hp
  . split
    . refine⟨hp _,hp _,fun b=>?_⟩
      cases b with
      | true=>exact hp
      | false=>exact zDP (hp.perm (zB0 _ _ _))
    . exact zDP hp) _ (zGD hp _ _)
theorem zDg {n k:Nat}{p:Array Nat}(hp:Bd n p):∀f l r,zEO n (fun _=>True) (kas_place p k f l r)
 | 0,_,_=>trivial
 | f+1,l,r=>by
  unfold kas_place
  split
  . exact trivial
  . refine⟨hp _,hp _,fun b=>?_⟩
    cases b with
    | true=>exact zDg hp f _ _
    | false=>exact zDg hp f _ _
theorem zI9 {n:Nat}:∀(f:Nat)(p:Array Nat)(k:Nat),Bd n p->zEO n (fun _=>True) (kas_bin f p k)
 | 0,_,_,_=>trivial
 | f+1,p,k,hp=>zEO.bind (fun l _=>zI9 f _ _ (hp.perm (bubble_perm _ _ _))) _ (zDg hp _ _ _)
theorem zJU (h:0<n):zEO n (fun _=>True) (kas_sort n):=
 zEO.bind (fun r hr=>by
  split
  . exact zI9 _ _ _ hr
  . exact trivial) _ (zI1 fun i=>by
    by_cases hi:i<n
    . simp[Array.getD,hi]
    . simp[Array.getD,hi];exact h)
end SortT
namespace SortT
open PySem PySem.W PySem.Calls PyProof.Rows
theorem wp_ev {α:Type}{cmp:Nat->Nat->(Bool->Shared->Prop)->Shared->Prop}{lt:Nat->Nat->Bool}{n:Nat}{s:Shared}(hc:∀i j C,i<n->j<n->C (lt i j) s->cmp i j C s){R:α->Prop}{Q:α->Shared->Prop} :
 ∀t:KasT α,zEO n R t->Q (ev lt t) s->t.kasWp cmp Q s
 | .ret _,_,h=>h
 | .ask i j k,w,h=>hc i j _ w.1 w.2.1 (wp_ev hc (k (lt i j)) (w.2.2 _) h)
variable {O:KeyOrd}
section
variable {prog:Program}{w:World}{A:Around}{E:vSP}{s:Shared}
structure Put {O:KeyOrd}(key:Nat->O.α)(n:Nat)(out:List Nat):Prop where
 perm:out.Perm (List.range n)
 rise:∀(i j a b:Nat),i<=j->out[i]? = some a->out[j]? = some b->O.kle (key a) (key b)
theorem put_of {key:Nat->O.α}{n:Nat}{q:Array Nat}(hp:q.Perm (List.range n).toArray)(hs:Sr key q n):Put key n q.toList:=by
 have hl:q.toList.Perm (List.range n):=Array.perm_iff_toList_perm.mp hp
 refine⟨hl,fun i j a b hij ha hb=>?_⟩
 have hz:q.size=n:=by have:=hp.size_eq;simpa using this
 have hj:j<q.toList.length:=(zJ.mp hb).1
 have hj':j<n:=by rw[<-hz];simpa using hj
 have h:=hs i j hij hj'
 have ga:q.getD i 0=a:=by
  rw[Array.getD_eq_getD_getElem?,<-Array.getElem?_toList,ha];rfl
 have gb:q.getD j 0=b:=by
  rw[Array.getD_eq_getD_getElem?,<-Array.getElem?_toList,hb];rfl
 unfold kk at h
 rw[ga,gb] at h
 exact h
structure Asks (prog:Program)(w:World)(A:Around)(s:Shared)(a:Addr)(vs:List Value){O:KeyOrd}(key:Nat->O.α)(κ:SortKind):Prop where
 kind:∀(h':Heap)(Q:SortKind->Shared->Prop)(E:vSP),(∀b o,b≠a->s.heap.get? b=some o->h'.get? b=some o)->Q κ { s with heap:=h' }->wpAny (model prog w) A (keyKind' vs.toArray) Q E { s with heap:=h' }
 less:∀(h':Heap)(i j:Nat)(Q:Bool->Shared->Prop)(E:vSP),(∀b o,b≠a->s.heap.get? b=some o->h'.get? b=some o)->i<vs.length->j<vs.length->Q (O.blt (key i) (key j)) { s with heap:=h' } ->
  wpAny (model prog w) A (keyLt' κ (vs.getD i Value.none) (vs.getD j Value.none)) Q E { s with heap:=h' }
theorem zFT {a:Addr}{vs:List Value}{n:Nat}{P:PySem.Fin->Shared->Prop}{key:Nat->O.α}{κ:SortKind}(ho:s.heap.get? a=some (seqObj "list" vs.toArray n)) (h64:vs.length<64)
 (ask:2<=vs.length->Asks prog w A s a vs key κ)
 (h:∀out:List Nat,Put key vs.length out->P (.done (.ret .none)) { s with heap:=sortedHeap s.heap a vs (out.map fun i=>vs.getD i Value.none).toArray }) :
 wpAny (model prog w) A (Builtin.«list.sort» ⟨[.ref a],[]⟩) P E s:=by
 rw[list_sort_plain]
 have ha:a<s.heap.objs.size:=zU ho
 refine zA (listItems_at ho rfl ?_)
 refine zA (listUpdate_at ho rfl ?_ (by rw[zM,sizeLine_eq];omega) (zh _))
 obtain⟨e1,ho1⟩:∃e1,(s.heap.update a (Obj.mapSeq fun _=>#[])).get? a=some (seqObj "list" #[] e1):=⟨_,get?_update_seq ho (fun _=>#[])⟩
 refine zA (seqEpoch_at ho1 rfl ?_)
 refine zA (wpAny_newTuple ?_ (by show vs.length<=_;rw[sizeLine_eq];omega))
 refine zA (wpAny_newList ?_ (zh _))
 refine zAR ?_
 have ho6:(((s.heap.update a (Obj.mapSeq fun _=>#[])).push (seqObj "tuple" vs.toArray 0)).push (seqObj "list" #[] 0)).get? a=some (seqObj "list" #[] e1):=by
  rw[Heap.get?_push_ne _ _ _ (by rw[size_push',Heap.size_update];exact ze (zAt ha)),Heap.get?_push_ne _ _ _ (by rw[Heap.size_update];exact ze ha)]
  exact ho1
 have keep:∀b o,b≠a->s.heap.get? b=some o->(((s.heap.update a (Obj.mapSeq fun _=>#[])).push (seqObj "tuple" vs.toArray 0)).push (seqObj "list" #[] 0)).get? b=some o:=fun b o hb e=>by
  refine zH _ (zH _ ?_)
  rw[Heap.get?_update_ne _ _ _ _ hb]
  exact e
 show wpAny (model prog w) A _ P E { s with heap:=((s.heap.update a (Obj.mapSeq fun _=>#[])).push (seqObj "tuple" vs.toArray 0)).push (seqObj "list" #[] 0) }
 dsimp only
 by_cases h2:vs.toArray.size<2
 . rw[if_pos h2,if_pos h2]
   refine zA (zF ?_)
   rw[StateT.run_pure]
   refine zA (zF ?_)
   dsimp only
   refine zA (seqEpoch_at ho6 rfl ?_)
   refine zA (listUpdate_at ho6 rfl ?_ (zh _) (by rw[Array.size_map];show (pairsOf vs).size<=_;rw[pairsOf_size,sizeLine_eq];omega))
   simp only[bne_self_eq_false,zAx,if_false]
   refine zF ?_
   have hlen:vs.length<2:=by simpa using h2
   have hout:(arrOf (SortSt.mk' general' (vs.toArray.zip vs.toArray) #[] 7 none)).map (·.2)=((List.range vs.length).map fun i=>vs.getD i Value.none).toArray:=by
    show (vs.toArray.zip vs.toArray).map (·.2)=_
    match vs,hlen with
    | [],_=>simp
    | [v],_=>simp
    | _::_::_,h=>exfalso;simp only[zn] at h;omega
   have fin:=h (List.range vs.length) ⟨.refl _,fun i j x y hij hx hy=>by
    have hj:j<(List.range vs.length).length:=(zJ.mp hy).1
    rw[zAu] at hj
    have e:i=j:=by omega
    subst e
    rw[hx] at hy
    cases hy
    exact KeyOrd.kle_refl _⟩
   rw[<-hout] at fin
   exact fin
 . rw[if_neg h2,if_neg h2]
   have h2':2<=vs.length:=by
    have:¬ vs.length<2:=by simpa using h2
    omega
   have K:=ask h2'
   refine zA (K.kind _ _ _ keep ?_)
   obtain⟨q,eq,hp,hs⟩:=zLA (key:=key) vs.length (by omega)
   have run:(kas_sort vs.length).kasWp (kas_ask prog w A κ vs) (fun p s'=>p=q/\s'={ s with heap:=((s.heap.update a (Obj.mapSeq fun _=>#[])).push (seqObj "tuple" vs.toArray 0)).push (seqObj "list" #[] 0) })
    { s with heap:=((s.heap.update a (Obj.mapSeq fun _=>#[])).push (seqObj "tuple" vs.toArray 0)).push (seqObj "list" #[] 0) }:=
    wp_ev (lt:=lt_ key) (n:=vs.length) (fun i j C hi hj hC=>K.less _ i j C _ keep hi hj hC) _ (zJU (by omega)) ⟨eq,rfl⟩
   refine zA (zBI (kat_run (ks:=vs) (vs:=vs) (Q:=fun st' s'=>∃p:Array Nat,p.size=vs.length/\arrOf st'=p.map (kas_item (vs.toArray.zip vs.toArray))/\failedOf st'=none/\p=q/\s'={ s with heap:=((s.heap.update a (Obj.mapSeq fun _=>#[])).push (seqObj "tuple" vs.toArray 0)).push (seqObj "list" #[] 0) })
    rfl h2' h64 (fun p' st' s' a1 a2 a3 a4=>⟨p',a1,a2,a3,a4⟩) run) ?_ fun _ _ e=>e)
   rintro ⟨⟨⟩,st'⟩ s' ⟨p,hsz,har,hf,rfl,rfl⟩
   dsimp only
   refine zA (seqEpoch_at ho6 rfl ?_)
   refine zA (listUpdate_at ho6 rfl ?_ (zh _) (by rw[Array.size_map,har,Array.size_map,hsz,sizeLine_eq];omega))
   rw[hf]
   simp only[bne_self_eq_false,zAx,if_false]
   refine zF ?_
   have hout:=kat_snds (ks:=vs) (vs:=vs) rfl har
   have fin:=h p.toList (put_of hp hs)
   rw[<-hout] at fin
   exact fin
theorem sorted_list {l:Addr}{vs:List Value}{Q:vSP}{key:Nat->O.α}{κ:SortKind}(hl:s.heap.IsList l vs.toArray)(h64:vs.length<64)
 (ask:2<=vs.length->∀(s':Shared)(a:Addr),(∀b o,s.heap.get? b=some o->b≠a)->(∀b o,s.heap.get? b=some o->s'.heap.get? b=some o)->Asks prog w A.in1.in1 s' a vs key κ)
 (h:∀(D:Addr)(h':Heap)(out:List Nat)(c:Nat),Put key vs.length out->s.heap.objs.size<=D->(∀b o,s.heap.get? b=some o->h'.get? b=some o) ->
  h'.get? D=some (seqObj "list" (out.map fun i=>vs.getD i Value.none).toArray c)->Q (.ref D) { s with heap:=h' }) :
 wpAny (model prog w) A (call (.builtin "sorted") [.ref l]) Q E s:=by
 refine Calls.call_function_entry kind_sorted plain_sorted entry_sorted (args_sorted1 _) ?_
 unfold Builtin.«sorted»
 refine zA (m:=checkCount "sorted" 1 1 _) (zF ?_)
 refine zA (collect_list hl ?_ (by rw[sizeLine_eq];omega))
 refine zA (wpAny_newList ?_ (by rw[sizeLine_eq];omega))
 have hsz:((s.heap.push (seqObj "list" #[] 0)).update s.heap.objs.size (Obj.mapSeq (· ++ vs.toArray))).objs.size=s.heap.objs.size+1:=by
  rw[Heap.size_update,size_push']
 have hoL:(((s.heap.push (seqObj "list" #[] 0)).update s.heap.objs.size (Obj.mapSeq (· ++ vs.toArray))).push (seqObj "list" vs.toArray 0)).get? (s.heap.objs.size+1)=some (seqObj "list" vs.toArray 0):=by
  rw[<-hsz];exact zS _ rfl
 have keep:∀b o,s.heap.get? b=some o->(((s.heap.push (seqObj "list" #[] 0)).update s.heap.objs.size (Obj.mapSeq (· ++ vs.toArray))).push (seqObj "list" vs.toArray 0)).get? b=some o:=fun b o q=>by
  have hlt:b<s.heap.objs.size:=zU q
  rw[Heap.get?_push_ne _ _ _ (by rw[hsz];exact ze (zAt hlt)),Heap.get?_update_ne _ _ _ _ (ze hlt),Heap.get?_push_ne _ _ _ (ze hlt)]
  exact q
 show wpAny _ _ _ _ _ { s with heap:=((s.heap.push (seqObj "list" #[] 0)).update s.heap.objs.size (Obj.mapSeq (· ++ vs.toArray))).push (seqObj "list" vs.toArray 0) }
 rw[hsz]
 refine zA (zAR (zA0 slot_list_sort ⟨_,hoL,rfl⟩ entry_list_sort (zFT (O:=O) (key:=key) (κ:=κ) hoL h64 (fun h2=>ask h2 _ _ (fun b o e=>ze (zAt (zU e))) keep) fun out hp=>⟨_,rfl,?_⟩) (args_list_sort _)))
 refine zF ⟨_,rfl,?_⟩
 obtain⟨c,hc⟩:=sortedAll_at s.heap vs (out.map fun i=>vs.getD i Value.none).toArray
 exact h _ _ out c hp (zBN _) (fun b o e=>sortedAll_old e) hc
end
end SortT
namespace DRaw
open PySem PySem.W PySem.Calls PyProof.Rows
noncomputable def At (h:Heap)(d:Addr)(es:Array DictEntry)(ep:Nat):Prop:=∃o,h.get? d=some o/\o.ExactDict/\o.data = .dict es ep
variable {d:Addr}{es:Array DictEntry}{ep:Nat}
theorem At.keep {h h':Heap}(x:At h d es ep)(k:∀o,h.get? d=some o->h'.get? d=some o):At h' d es ep:=
 let ⟨o,ho,r⟩:=x;⟨o,k o ho,r⟩
theorem At.lt {h:Heap}(x:At h d es ep):d<h.objs.size:=let ⟨_,ho,_⟩:=x;zU ho
theorem At.typeIs {s:Shared}(x:At s.heap d es ep):s.TypeIs (.ref d) "dict" := let ⟨o,ho,hc,_⟩:=x;⟨o,ho,hc.1⟩
variable {Q:Option Value->Shared->Prop}
section
variable {prog:Program}{w:World}{A:Around}{E:vSP}{s:Shared}{it d:Addr}{es:Array DictEntry}{i ep:Nat}
theorem iter {Q:vSP}(hd:(d==sysModules)=false)(hm:At s.heap d es ep)
 (hQ:Q (.ref s.heap.objs.size) { s with heap:=s.heap.push { cls:=.type "dict_keyiterator",data:=.fields #[.ref d,.int 0 0,.int es.size 0,.int ep 0] } }) :
 wpAny (model prog w) A (pyIter (.ref d)) Q E s:=by
 obtain⟨o,ho,hc,hdat⟩:=id hm
 have hT:=hm.typeIs
 refine wpAny_pyIter_slot hT F.slot_dict_iter (zA0 F.slot_dict_iter hT F.entry_dict_iter ?_ (F.args_dict_iter_1 _))
 unfold Builtin.«dict.__iter__»
 refine zA ?_
 unfold Builtin.Dict.dictSlotNone
 refine zA (wpAny_notOrdered_dict hT ?_)
 show wpAny _ _ (pure (Value.ref d)) _ _ s
 refine zF ?_
 show wpAny _ _ (Builtin.Dict.showsAll d >>= _) _ _ s
 unfold Builtin.Dict.showsAll
 rw[if_neg (by rw[hd];exact zb)]
 refine zA (zF ?_)
 refine zA (wpAny_dictEntries ho hdat ?_)
 refine zA (wpAny_dictEpoch ho hdat ?_)
 refine zA (zAk (zF ⟨_,rfl, "dict_keyiterator",_,⟨_,zS _ rfl,rfl⟩,F.slot_dict_keyiterator_next.lookup,?_⟩))
 simpa [rawInt] using hQ
theorem next (hit:s.heap.IsKeyIter it d i es.size ep)(hm:At s.heap d es ep)(hlt':i<es.size)
 (hQ:∀h',h'.IsKeyIter it d (i+1) es.size ep->Heap.SameBut it s.heap h'->Q (some es[i].key) { s with heap:=h' }):wpAny (model prog w) A (pyNext (.ref it)) Q E s:=by
 obtain⟨o,ho,hc,hd⟩:=id hit
 obtain⟨od,hod,hcd,hdd⟩:=id hm
 unfold pyNext
 refine zA (wpAny_attempt (zAv (name:=Str.ofString "__next__") hit.typeIs F.slot_dict_keyiterator_next
  (zA0 F.slot_dict_keyiterator_next hit.typeIs F.entry_dict_keyiterator_next ?_ (F.args_dict_keyiterator_next_1 _))))
 refine zA (zF ?_)
 refine zA ?_
 refine zA ?_
 first | refine zA (zBq hit.typeIs (zF ?_)) | refine zA (wpAny_typeNameOf_keyiter hit.typeIs (zF ?_))
 refine zA (wpAny_fieldsOf ho hd ?_)
 have hown:Builtin.Dict_items.ownsTuple "dict_keyiterator" = false:=by decide
 simp only[hown,zAx,if_false]
 show wpAny _ _ (if (Value.ref d==Value.none)=true then _ else _) _ _ s
 rw[if_neg (show ¬ ((Value.ref d==Value.none)=true) from zb)]
 refine zA (zF ?_)
 refine zA (wpAny_dictEntries hod hdd ?_)
 rw[if_neg (by simp)]
 refine zA (zF ?_)
 refine zA (wpAny_dictEpoch hod hdd ?_)
 rw[if_neg (by simp)]
 refine zF ?_
 simp only[show ¬ ((i:Int)<0) from by omega,if_false,zAe,Array.getElem?_eq_getElem hlt']
 refine zA ?_
 first | refine zA (zBq hit.typeIs (zF ?_)) | refine zA (wpAny_typeNameOf_keyiter hit.typeIs (zF ?_))
 refine zA (wpAny_isOneOf_keyiter hit.typeIs ?_)
 show wpAny _ _ (setField (.ref it) 1 (rawInt ((i:Int)+1)) >>= _) _ _ s
 refine zA (wpAny_setField ho hd (by simp) ?_)
 have hit':(s.heap.update it (Obj.mapFields (·.setIfInBounds 1 (rawInt ((i:Int)+1))))).IsKeyIter it d (i+1) es.size ep:=
  ⟨_,zBY _ ho (Obj.isFreed_of_fields (Obj.data_mapFields hd _)),(Obj.cls_mapFields ..).trans hc,by rw[Obj.data_mapFields hd];simp[rawInt]⟩
 refine zA (zAR ?_)
 refine zA (wpAny_isOneOf_keyiter (s:={ s with heap:=s.heap.update it (Obj.mapFields (·.setIfInBounds 1 (rawInt ((i:Int)+1)))) }) hit'.typeIs ?_)
 show wpAny _ _ (pure es[i].key) _ _ _
 exact zF (zF ⟨_,rfl,zF (hQ _ hit' (zBp ..))⟩)
theorem stop (hh:A.handled=none)(hit:s.heap.IsKeyIter it d i es.size ep)(hm:At s.heap d es ep)(hge:es.size<=i)
 (hQ:∀h',Heap.ExtBut it s.heap h'->Q none { s with heap:=h' }):wpAny (model prog w) A (pyNext (.ref it)) Q E s:=by
 obtain⟨o,ho,hc,hd⟩:=id hit
 obtain⟨od,hod,hcd,hdd⟩:=id hm
 unfold pyNext
 refine zA (wpAny_attempt (zAv (name:=Str.ofString "__next__") hit.typeIs F.slot_dict_keyiterator_next
  (zA0 F.slot_dict_keyiterator_next hit.typeIs F.entry_dict_keyiterator_next ?_ (F.args_dict_keyiterator_next_1 _))))
 refine zA (zF ?_)
 refine zA ?_
 refine zA ?_
 first | refine zA (zBq hit.typeIs (zF ?_)) | refine zA (wpAny_typeNameOf_keyiter hit.typeIs (zF ?_))
 refine zA (wpAny_fieldsOf ho hd ?_)
 have hown:Builtin.Dict_items.ownsTuple "dict_keyiterator" = false:=by decide
 simp only[hown,zAx,if_false]
 show wpAny _ _ (if (Value.ref d==Value.none)=true then _ else _) _ _ s
 rw[if_neg (show ¬ ((Value.ref d==Value.none)=true) from zb)]
 refine zA (zF ?_)
 refine zA (wpAny_dictEntries hod hdd ?_)
 rw[if_neg (by simp)]
 refine zA (zF ?_)
 refine zA (wpAny_dictEpoch hod hdd ?_)
 rw[if_neg (by simp)]
 refine zF ?_
 simp only[show ¬ ((i:Int)<0) from by omega,if_false,zAe,Array.getElem?_eq_none hge]
 refine zA ?_
 first | refine zA (zBq hit.typeIs (zF ?_)) | refine zA (wpAny_typeNameOf_keyiter hit.typeIs (zF ?_))
 show wpAny _ _ (setField (.ref it) 0 .none >>= _) _ _ s
 refine zA (wpAny_setField ho hd (by simp) ?_)
 show wpAny _ _ (newExc (.type "StopIteration") [] >>= _) _ _ _
 refine zA ?_
 simp only[newExc,newTuple]
 refine zA (zAk ?_ (by size_fits))
 refine zA (m:=firstArgMember _ _) (wpAny_of_eq (a:=Value.none) (by first | rfl | (simp only[firstArgMember];rfl)) ?_)
 refine zAk ?_ (by size_fits)
 simp only[raiseNew]
 refine zA (wpAny_handled ?_)
 rw[show A.in1.handled=none from hh]
 refine zA (zF (wpAny_throw ?_))
 refine zA (zBU (T := "StopIteration") (b:=true) ⟨_,zS _ rfl,rfl⟩ isSubtype_stop ?_)
 exact zF (hQ _ (((zBp ..).extBut.push _).push _))
end
section
variable {prog:Program}{w:World}{A:Around}{d:Addr}{es:Array DictEntry}{ep:Nat}
theorem walks (hh:A.handled=none)(I:Addr)(hne:d≠I):Walks prog w A I [I,d] [I] es.size (fun i v=>∃e,es[i]? = some e/\v=e.key) (fun i h=>h.IsKeyIter I d i es.size ep/\At h d es ep) where
 sub:=fun b hb=>by simp at hb;simp[hb]
 frame:=fun _ _ _ st hk=>⟨st.1.at fun o e=>hk I (by simp) o e,st.2.keep fun o e=>hk d (by simp) o e⟩
 item:=fun i s Q E hi st hQ=>next st.1 st.2 hi fun h' hit' hs'=>
  hQ _ h' s.toks ⟨es[i],by simp[hi],rfl⟩ ⟨hit',st.2.keep fun o e=>hs'.extBut d o hne e⟩ fun b o hb e=>hs'.extBut b o (fun h=>hb (by simp[h])) e
 done:=fun s Q E st hQ=>stop hh st.1 st.2 (zK _) fun h' he'=>hQ h' s.toks fun b o hb e=>he' b o (fun h=>hb (by simp[h])) e
 self:=fun _ _ _ _ st hQ=>wpAny_pyIter_keyiter st.1 hQ
theorem src (lo:(d==sysModules)=false):KdlSrc prog w "dict" d d es.size (fun i v=>∃e,es[i]? = some e/\v=e.key) (fun h=>At h d es ep) where
 type:=fun _ hm=>hm.typeIs
 there:=fun _ hm=>⟨hm.lt,hm.lt⟩
 keep:=fun _ _ hm hk=>hm.keep fun o e=>hk d (.inl rfl) o e
 notList:=by decide
 notTuple:=by decide
 hint:=fun _ _ _ _ hm hq=>kdl_hint_dict hm.typeIs hq
 iter:=fun _ _ hh hm=>⟨_,_,(fun _ _ hq=>iter lo hm hq),walks hh _ (ze hm.lt),⟨⟨_,zS _ rfl,rfl,rfl⟩,hm.keep fun o e=>zH _ e⟩⟩
end
end DRaw
namespace SortT
open PySem PySem.W PySem.Calls PyProof.Rows
theorem sorted_dict {prog:Program}{w:World}{A:Around}{E:vSP}{s:Shared}{d:Addr}{es:Array DictEntry}{ep:Nat}{vs:List Value}{Q:vSP}{O:KeyOrd}{key:Nat->O.α}{κ:SortKind}
 (hh:A.handled=none)(lo:(d==sysModules)=false)(hm:DRaw.At s.heap d es ep)(hvs:vs=es.toList.map (·.key))(h64:vs.length<64)
 (ask:2<=vs.length->∀(s':Shared)(a:Addr),(∀b o,s.heap.get? b=some o->b≠a)->(∀b o,s.heap.get? b=some o->s'.heap.get? b=some o)->Asks prog w A.in1.in1 s' a vs key κ)
 (h:∀(h1:Heap)(D:Addr)(h':Heap)(t':Nat)(out:List Nat)(c:Nat),Put key vs.length out->(∀b o,s.heap.get? b=some o->h1.get? b=some o)->h1.objs.size<=D->(∀b o,h1.get? b=some o->h'.get? b=some o) ->
  h'.get? D=some (seqObj "list" (out.map fun i=>vs.getD i Value.none).toArray c)->Q (.ref D) { s with heap:=h',toks:=t' }) :
 wpAny (model prog w) A (call (.builtin "sorted") [.ref d]) Q E s:=by
 have hlen:vs.length=es.size:=by rw[hvs];simp
 refine call_function_entry kind_sorted plain_sorted entry_sorted (args_sorted1 _) ?_
 unfold Builtin.«sorted»
 refine zA (m:=checkCount "sorted" 1 1 _) (zF ?_)
 refine zA (kdu_collect (A:=A.in1) (DRaw.src (es:=es) (ep:=ep) lo) hh hm (by rw[sizeLine_eq];omega) fun h1 tk acc hk hacc=>?_)
 have el:acc.toList=vs:=by
  apply List.ext_getElem?
  intro j
  by_cases hj:j<es.size
  . have hz:j<acc.size:=by rw[hacc.1];exact hj
    obtain⟨e,he,hv⟩:=hacc.2 j acc[j] (by simp[hz])
    rw[Array.getElem?_toList,Array.getElem?_eq_getElem hz,hv,hvs,zN,Array.getElem?_toList,he]
    rfl
  . rw[zAY (by rw[Array.length_toList,hacc.1];omega),zAY (by omega)]
 rw[el]
 refine zA (wpAny_newList ?_ (by rw[sizeLine_eq];omega))
 have hoL:(h1.push (seqObj "list" vs.toArray 0)).get? h1.objs.size=some (seqObj "list" vs.toArray 0):=zS _ rfl
 have keep1:∀b o,h1.get? b=some o->(h1.push (seqObj "list" vs.toArray 0)).get? b=some o:=fun b o q=>zH _ q
 refine zA (zAR (zA0 slot_list_sort ⟨_,hoL,rfl⟩ entry_list_sort (zFT (O:=O) (key:=key) (κ:=κ) hoL h64
  (fun h2=>ask h2 _ _ (fun b o e=>ze (zU (hk b o e))) fun b o e=>keep1 b o (hk b o e)) fun out hp=>⟨_,rfl,?_⟩) (args_list_sort _)))
 refine zF ⟨_,rfl,?_⟩
 obtain⟨c,hc⟩:=sortedHeap_at (vs:=vs) (out:=(out.map fun i=>vs.getD i Value.none).toArray) hoL
 refine h h1 _ _ _ out c hp hk (zK _) (fun b o e=>?_) hc
 have hb:b<h1.objs.size:=zU e
 rw[sortedHeap_old (ze hb) (by rw[zAq];exact zAt hb)]
 exact keep1 b o e
end SortT
namespace L2
open PySem PySem.Spec PyProof.Rows
theorem zEZ:∀a:List Int,HT.lexLt a a=false
 | []=>rfl
 | x::r=>by rw[HT.lexLt_cons,if_pos rfl];exact zEZ r
theorem zDm:∀a b c:List Int,HT.lexLt a b=true->HT.lexLt b c=true->HT.lexLt a c=true
 | [],[],_,h,_=>by cases h
 | [],_::_,[],_,h=>by cases h
 | [],_::_,_::_,_,_=>rfl
 | _::_,[],_,h,_=>by cases h
 | _::_,_::_,[],_,h=>by cases h
 | x::a,y::b,z::c,h1,h2=>by
  rw[HT.lexLt_cons] at h1 h2 ⊢
  by_cases e1:x=y
  . subst e1
    rw[if_pos rfl] at h1
    by_cases e2:x=z
    . subst e2
      rw[if_pos rfl] at h2 ⊢
      exact zDm a b c h1 h2
    . rw[if_neg e2] at h2 ⊢;exact h2
  . rw[if_neg e1] at h1
    have l1:x<y:=of_decide_eq_true h1
    by_cases e2:y=z
    . subst e2;rw[if_neg e1];exact h1
    . rw[if_neg e2] at h2
      have l2:y<z:=of_decide_eq_true h2
      rw[if_neg (by omega)]
      exact zO (by omega)
theorem zC1:∀a b:List Int,HT.lexLt a b=false->HT.lexLt b a=false->a=b
 | [],[],_,_=>rfl
 | [],_::_,h,_=>by cases h
 | _::_,[],_,h=>by cases h
 | x::a,y::b,h1,h2=>by
  rw[HT.lexLt_cons] at h1 h2
  by_cases e:x=y
  . subst e
    rw[if_pos rfl] at h1 h2
    rw[zC1 a b h1 h2]
  . rw[if_neg e] at h1
    rw[if_neg (Ne.symm e)] at h2
    have l1:=of_decide_eq_false h1
    have l2:=of_decide_eq_false h2
    omega
theorem zLz (a b c:List Int)(h:HT.lexLt a c=true):HT.lexLt a b=true\/HT.lexLt b c=true:=by
 cases h1:HT.lexLt a b with
 | true=>exact .inl rfl
 | false=>
  cases h2:HT.lexLt b a with
  | true=>exact .inr (zDm b a c h2 h)
  | false=>rw[<-zC1 a b h1 h2];exact .inr h
noncomputable def zJ3:KeyOrd:=⟨List Int,HT.lexLt,zEZ,zDm,zLz,zC1⟩
noncomputable def zDL (ms:List (List Int)):Prop:=ms.Pairwise fun a b=>HT.lexLt b a=false
noncomputable def zAS (H:Hp):List V->List (List Int)->Prop
 | [],[]=>True
 | x::xs,k::ks=>(∃a,x = .ref a/\H a=some (.tup (k.map V.int))/\k≠[])/\zAS H xs ks
 | _,_=>False
theorem zAS.length {H:Hp}:∀{xs:List V}{ks:List (List Int)},zAS H xs ks->xs.length=ks.length
 | [],[],_=>rfl
 | [],_::_,h=>h.elim
 | _::_,[],h=>h.elim
 | _::_,_::_,h=>by rw[zn,zn,zAS.length h.2]
theorem zAS.get {H:Hp}:∀{xs:List V}{ks:List (List Int)}{i:Nat}{x:V},zAS H xs ks->xs[i]? = some x->∃a k,x = .ref a/\ks[i]? = some k/\H a=some (.tup (k.map V.int))/\k≠[]
 | [],_,_,_,_,h=>by simp at h
 | _::_,[],_,_,h,_=>h.elim
 | y::_,k::_,0,x,h,e=>by
  obtain⟨⟨a,h1,h2,h3⟩,_⟩:=h
  have e':y=x:=by simpa using e
  subst e'
  exact⟨a,k,h1,rfl,h2,h3⟩
 | _::_,_::_,i+1,x,h,e=>by
  obtain⟨a,k,h1,h2,h3⟩:=zAS.get (i:=i) h.2 (by simpa using e)
  exact⟨a,k,h1,by simpa using h2,h3⟩
theorem zAS.mk {H:Hp}:∀{xs:List V}{ks:List (List Int)},xs.length=ks.length->(∀(i:Nat)(x:V)(k:List Int),xs[i]? = some x->ks[i]? = some k->∃a,x=V.ref a/\H a=some (.tup (k.map V.int))/\k≠[])->zAS H xs ks
 | [],[],_,_=>trivial
 | [],_::_,e,_=>by simp at e
 | _::_,[],e,_=>by simp at e
 | x::xs,k::ks,e,h=>⟨h 0 x k rfl rfl,zAS.mk (by simpa using e) fun i x' k' h1 h2=>h (i+1) x' k' (by simpa using h1) (by simpa using h2)⟩
variable {H:Hp}{ks:List (List Int)}
theorem zAS.keep {H':Hp}{xs:List V}(h:zAS H xs ks)(k:∀b ys,H b=some (.tup ys)->H' b=some (.tup ys)):zAS H' xs ks:=
 zAS.mk h.length fun i x c h1 h2=>by
  obtain⟨a,c',e1,e2,e3,e4⟩:=h.get h1
  rw[h2] at e2
  cases e2
  exact⟨a,e1,k a _ e3,e4⟩
theorem zAS.snoc {H:Hp}:∀{xs:List V}{ks:List (List Int)}{x:V}{k:List Int},zAS H xs ks->(∃a,x = .ref a/\H a=some (.tup (k.map V.int))/\k≠[])->zAS H (xs++[x]) (ks++[k])
 | [],[],_,_,_,h=>⟨h,trivial⟩
 | [],_::_,_,_,t,_=>t.elim
 | _::_,[],_,_,t,_=>t.elim
 | _::_,_::_,_,_,t,h=>⟨t.1,zAS.snoc t.2 h⟩
section
variable {prog:Program}{w:World}{A:Around}{s:Shared}
theorem zDr {fin:Bool}{Q:Bool->Shared->Prop}:∀(ns ms:List Int)(us ws:List Value)(i:Nat),IntsAre us ns->IntsAre ws ms->fin=decide (ns.length<ms.length)->Q (HT.lexLt ns ms) s ->
 PySem.W.KatLex prog w A true fin Q (us.zip ws) i s
 | [],[],_,_,_,.nil,.nil,e,q=>by subst e;exact q
 | [],_::_,_,_,_,.nil,.cons _ _ _,e,q=>by subst e;exact q
 | _::_,[],_,_,_,.cons _ _ _,.nil,e,q=>by subst e;exact q
 | n::ns,m::ms,_,_,i,.cons _ t hu,.cons _ u hw,e,q=>by
  rw[HT.lexLt_cons] at q
  refine PySem.W.kat_cons (wpAny_eqBool_int ?_)
  by_cases h:n=m
  . rw[if_pos h] at q
    rw[show (n==m)=true by simpa using h]
    exact PySem.W.kat_yes (zDr ns ms _ _ (i+1) hu hw (by rw[e];simp) q)
  . rw[if_neg h] at q
    rw[show (n==m)=false by simpa using h]
    refine PySem.W.kat_no ?_
    cases i with
    | zero=>exact oneLt_int q
    | succ j=>exact PySem.W.kat_one _ _ (PyProof.Rows.lt_int q)
theorem zFn {X:Cx}{pins:lPO}{σ:St}{s s':Shared}{a:Addr}{ys:List V}{vs:List Value}{A:Around}(I:Inv X pins σ H s)(T:zAS H ys ks)(r:zA8 ys vs)(hne:0<vs.length)
 (fa:∀b o,s.heap.get? b=some o->b≠a)(kp:∀b o,s.heap.get? b=some o->s'.heap.get? b=some o):SortT.Asks X.prog X.w A s' a vs (O:=zJ3) (fun i=>ks.getD i []) (tuples' true):=by
 have hl:=T.length
 have hv:=r.length
 have at_:∀(h':Heap),(∀b o,b≠a->s'.heap.get? b=some o->h'.get? b=some o)->∀i,i<vs.length->∃(p:Addr)(k:List Int)(us:List Value)(o:Obj)(n:Nat),vs[i]? = some (Value.ref p)/\ks[i]? = some k/\k≠[]/\IntsAre us k/\h'.get? p=some o/\o.cls = .type "tuple" /\ o.data = .seq us.toArray n:=fun h' kh i hi=>by
  have hy:i<ys.length:=by omega
  obtain⟨p,k,e1,e2,e3,e4⟩:=T.get (i:=i) (x:=ys[i]) (by simp[hy])
  obtain⟨u,hu,ru⟩:=r.get (i:=i) (x:=ys[i]) (by simp[hy])
  rw[e1] at ru
  cases (show u=Value.ref p from ru)
  obtain⟨_,its,rv,o,ho,hc,n,hd⟩:=I.hok p _ e3
  exact⟨p,k,its,o,n,hu,e2,e4,zBh rv,kh p o (fa p o ho) (kp p o ho),hc,hd⟩
 refine⟨fun h' Q E kh q=>?_,fun h' i j Q E kh hi hj q=>?_⟩
 . -- all keys are tuples whose first items are ints
   have tups:∀(m:Nat),m<=vs.length->∃fs:List Value,PySem.W.KatTups h' (vs.drop (vs.length-m)) fs/\fs.length=m/\∀f∈fs,∃x t,f=Value.int x t:=by
    intro m
    induction m with
    | zero=>intro _;exact⟨[],by rw[Nat.sub_zero,List.drop_length];exact trivial,rfl,fun f hf=>by simp at hf⟩
    | succ m ih=>
     intro hm
     obtain⟨fs,t,e,hf⟩:=ih (by omega)
     obtain⟨p,k,us,o,n,hu,hk,hk0,hI,ho,hc,hd⟩:=at_ h' kh (vs.length-(m+1)) (by omega)
     have ed:vs.drop (vs.length-(m+1))=Value.ref p::vs.drop (vs.length-m):=by
      have hlt:vs.length-(m+1)<vs.length:=by omega
      rw[List.drop_eq_getElem_cons hlt,show vs.length-(m+1)+1=vs.length-m by omega]
      have:vs[vs.length-(m+1)]=Value.ref p:=by
       rw[zB hlt] at hu
       exact zR hu
      rw[this]
     cases hI with
     | nil=>exact absurd rfl hk0
     | cons x tx hI'=>
      refine⟨Value.int x tx::fs,by rw[ed];exact PySem.W.KatTups.cons ho hc hd rfl t,by rw[zn,e],fun f hf'=>?_⟩
      rcases zc.mp hf' with rfl | hf'
      . exact⟨x,tx,rfl⟩
      . exact hf f hf'
   obtain⟨fs,t,e,hf⟩:=tups vs.length (zK _)
   rw[Nat.sub_self,List.drop_zero] at t
   refine PySem.W.kat_kind (T:=Value.type "int") t (by omega) (fun v hv=>?_) (by rfl) q
   obtain⟨x,tx,rfl⟩:=hf v hv
   exact PySem.W.Looks.of_pure rfl
 . obtain⟨p,k,us,o,n,hu,hk,_,hI,ho,hc,hd⟩:=at_ h' kh i hi
   obtain⟨p2,k2,us2,o2,n2,hu2,hk2,_,hI2,ho2,hc2,hd2⟩:=at_ h' kh j hj
   have e1:vs.getD i Value.none = .ref p:=by rw[zE,hu];rfl
   have e2:vs.getD j Value.none = .ref p2:=by rw[zE,hu2];rfl
   have g1:ks.getD i []=k:=by rw[zE,hk];rfl
   have g2:ks.getD j []=k2:=by rw[zE,hk2];rfl
   rw[e1,e2]
   refine PySem.W.kat_lt (s:={ s' with heap:=h' }) ho hd ho2 hd2 ?_
   have q':Q (HT.lexLt k k2) { s' with heap:=h' }:=by
    have:zJ3.blt (ks.getD i []) (ks.getD j [])=HT.lexLt k k2:=by rw[g1,g2];rfl
    rw[<-this];exact q
   have l1:=hI.length
   have l2:=hI2.length
   exact zDr k k2 us us2 0 hI hI2 (by simp only[zM];rw[l1,l2]) q'
theorem zGV {ys:List V}{vs:List Value}{out:List Nat}(T:zAS H ys ks)(r:zA8 ys vs)(p:SortT.Put (O:=zJ3) (fun i=>ks.getD i []) vs.length out) :
 ∃zs ms,zAS H zs ms/\ms.Perm ks/\zDL ms/\zA8 zs (out.map fun i=>vs.getD i Value.none)/\zs.length=ys.length:=by
 have hl:=T.length
 have hv:=r.length
 have hb:∀i∈out,i<vs.length:=fun i hi=>zBg.mp (p.perm.mem_iff.mp hi)
 refine⟨out.map fun i=>ys.getD i .non,out.map fun i=>ks.getD i [],zAS.mk (by rw[zD,zD]) fun j x k hx hk=>?_,?_,?_,?_,?_⟩
 . rw[zN] at hx hk
   cases e:out[j]? with
   | none=>rw[e] at hx;cases hx
   | some i=>
    rw[e] at hx hk
    have hi:=hb i (zX e)
    have hy:i<ys.length:=by omega
    obtain⟨a,c,e1,e2,e3,e4⟩:=T.get (i:=i) (x:=ys[i]) (by simp[hy])
    have ex:ys.getD i .non=x:=zR hx
    have ek:ks.getD i []=k:=zR hk
    rw[zE,zB hy] at ex
    rw[zE,e2] at ek
    have ex':ys[i]=x:=ex
    have ek':c=k:=ek
    subst ek'
    exact⟨a,by rw[<-ex'];exact e1,e3,e4⟩
 . have h1:=p.perm.map fun i=>ks.getD i []
   have h2:(List.range vs.length).map (fun i=>ks.getD i [])=ks:=by
    rw[show vs.length=ks.length by omega]
    apply List.ext_getElem?
    intro j
    rw[zN]
    by_cases hj:j<ks.length
    . rw[List.getElem?_range hj,zB hj];simp[hj]
    . rw[zAY (by rw[zAu];omega),zAY (by omega)];rfl
   rw[h2] at h1
   exact h1
 . refine zAd.mpr fun i j hi hj hij=>?_
   rw[zD] at hi hj
   have:=p.rise i j out[i] out[j] (Nat.le_of_lt hij) (by simp) (by simp)
   have h3:HT.lexLt (ks.getD out[j] []) (ks.getD out[i] [])=false:=this
   simpa using h3
 . have:∀l:List Nat,(∀i∈l,i<vs.length)->zA8 (l.map fun i=>ys.getD i .non) (l.map fun i=>vs.getD i Value.none):=by
    intro l
    induction l with
    | nil=>intro _;exact .nil
    | cons i l ih=>
     intro h
     have hi:=h i za
     have hy:i<ys.length:=by omega
     obtain⟨u,hu,ru⟩:=r.get (i:=i) (x:=ys[i]) (by simp[hy])
     refine .cons ?_ (ih fun j hj=>h j (zi _ hj))
     show zBH (ys.getD i V.non) (vs.getD i Value.none)
     rw[zE,zB hy,zE,hu]
     exact ru
   exact this out hb
 . rw[zD,p.perm.length_eq,zAu];omega
theorem zDB {X:Cx}{pins:lPO}{σ:St}{s:Shared}{h':Heap}{D:Addr}{c t':Nat}{zs:List V}{us:List Value}(I:Inv X pins σ H s)(hD:s.heap.objs.size<=D)(kp:∀b o,s.heap.get? b=some o->h'.get? b=some o)
 (ho:h'.get? D=some (seqObj "list" us.toArray c)) (r:zA8 zs us)(hz:zs.length<=sizeLine):Inv X pins σ (upd H D (.lst zs)) { s with heap:=h',toks:=t' }:=
 I.laid kp hD (show zBe X.prog X.w _ _ _ (.lst zs) from ⟨hz,us,c,r,ho⟩)
end
section
variable {X:Cx}
theorem zD4:zCl X (.builtin "sorted") (fun xs H Q=>∃p ys ks,xs=[.ref p]/\SqL X.K H p ys/\zAS H ys ks/\ks.length<64 /\
 ∀l zs ms,H l=none->zAS H zs ms->ms.Perm ks->zDL ms->Q (.ref l) (upd H l (.lst zs))):=by
 intro pins s σ H xs us Q I r h
 obtain⟨p,ys,ks,rfl,hq,T,h64,q⟩:=h
 obtain⟨u,rfl,rx⟩:=zCV r
 cases rx
 obtain⟨its,r',pl,hz⟩:=I.list hq
 have hl:=T.length
 have hv:=r'.length
 refine SortT.sorted_list (O:=zJ3) (key:=fun i=>ks.getD i []) (κ:=tuples' true) pl.isList (by omega) (fun h2 s' a fa kp=>zFn I T r' (by omega) fa kp) fun D h' out c pt hD kp ho=>?_
 obtain⟨zs,ms,T2,hp,hr,rz,hlz⟩:=zGV T r' pt
 exact⟨.ref D,_,zDB (t':=s.toks) I hD kp ho rz (by omega),rfl,q D zs ms (I.hok.fresh hD) T2 hp hr⟩
theorem zDR (hc:X.calm=true):zCl X (.builtin "sorted") (fun xs H Q=>∃p kvs ks,xs=[.ref p]/\H p=some (.dT kvs)/\kvs.map (·.1)=ks.map (List.map Sum.inl)/\(∀k∈ks,k≠[])/\ks.length<64 /\
 ∀l zs ms,H l=none->zAS H zs ms->ms.Perm ks->zDL ms->Q (.ref l) (upd H l (.lst zs))):=by
 intro pins s σ H xs us Q I r h
 obtain⟨p,kvs,ks,rfl,hd,hks,hk0,h64,q⟩:=h
 obtain⟨u,rfl,rx⟩:=zCV r
 cases rx
 obtain⟨hz,lo,xs,rel,o,es,ep,ho,hx,hdat,hes,hnd⟩:=I.hok p _ hd
 have key:∀(kvs:List (List Key×V))(xs:List (List Key×Addr×Value))(ks:List (List Int)),KT H kvs xs->kvs.map (·.1)=ks.map (List.map Sum.inl)->(∀k∈ks,k≠[]) ->
  zAS H (xs.map fun q=>V.ref q.2.1) ks/\zA8 (xs.map fun q=>V.ref q.2.1) ((xs.map (entryOfKey (tupleKind (zAW X.prog X.w)))).map (·.key)):=by
  intro kvs xs ks rel
  induction rel generalizing ks with
  | nil=>
   intro e _
   cases ks with
   | nil=>exact⟨trivial,.nil⟩
   | cons k ks=>simp at e
  | cons hpq _ ih=>
   intro e h0
   cases ks with
   | nil=>simp at e
   | cons k ks=>
    simp only[zAF,List.cons.injEq] at e
    obtain⟨T,V⟩:=ih ks e.2 fun c hc=>h0 c (zi _ hc)
    obtain⟨e1,e2,_⟩:=hpq
    refine⟨⟨⟨_,rfl,?_,h0 k za⟩,T⟩,.cons rfl V⟩
    rw[e2,e.1,List.map_map]
    rfl
 obtain⟨T,rv⟩:=key kvs xs ks rel hks hk0
 have hl:=T.length
 have hv:=rv.length
 have evs:(xs.map (entryOfKey (tupleKind (zAW X.prog X.w)))).map (·.key)=es.toList.map (·.key):=by rw[hes]
 refine SortT.sorted_dict (O:=zJ3) (key:=fun i=>ks.getD i []) (κ:=tuples' true) (vs:=(xs.map (entryOfKey (tupleKind (zAW X.prog X.w)))).map (·.key)) (I.ok.hd hc) lo ⟨o,ho,hx,hdat⟩ evs (by omega) (fun h2 s' a fa kp=>zFn I T rv (by omega) fa kp) fun h1 D h' t' out c pt k1 hD k2 ho=>?_
 obtain⟨zs,ms,T2,hp,hr,rz,hlz⟩:=zGV T rv pt
 have I1:Inv X pins σ H { s with heap:=h1,toks:=s.toks }:=I.kept k1
 refine⟨.ref D,_,zDB (s:={ s with heap:=h1,toks:=s.toks }) (t':=t') I1 hD k2 ho rz ?_,rfl,q D zs ms (I1.hok.fresh hD) T2 hp hr⟩
 have:sizeLine=16777216:=rfl
 omega
end
mutual
inductive zCc (H:Hp):V->PyData->Prop
 | non:zCc H .non .none
 | bl (b:Bool):zCc H (.bl b) (.bool b)
 | int (i:Int):zCc H (.int i) (.int i)
 | str (x:Str):zCc H (.str x) (.str x)
 | tup {a:Addr}{xs:List V}{ds:List PyData}:H a=some (.tup xs)->zBS H xs ds->zCc H (.ref a) (.tuple ds)
 | lst {a:Addr}{xs:List V}{ds:List PyData}:H a=some (.lst xs)->zBS H xs ds->zCc H (.ref a) (.list ds)
inductive zBS (H:Hp):List V->List PyData->Prop
 | nil:zBS H [] []
 | cons {x:V}{xs:List V}{d:PyData}{ds:List PyData}:zCc H x d->zBS H xs ds->zBS H (x::xs) (d::ds)
end
section
variable {P:Program}{w:World}{H:Hp}{h:Heap}
mutual
theorem zCc.reads (ok:HOk P w H h):∀{x:V}{d:PyData},zCc H x d->∀{u:Value},zBH x u->∃as,Reads h u d as
 | _,_,.non,u,r=>by cases (show u=Value.none from r);exact⟨_,.none⟩
 | _,_,.bl b,u,r=>by cases (show u=Value.bool b from r);exact⟨_,.bool b⟩
 | _,_,.int i,u,r=>by obtain⟨t,rfl⟩:=r;exact⟨_,.int i t⟩
 | _,_,.str x,u,r=>by obtain⟨t,rfl⟩:=r;exact⟨_,.str x t⟩
 | _,_,.tup (a:=a) e s,u,r=>by
  cases (show u=Value.ref a from r)
  obtain⟨_,its,rv,o,ho,hc,n,hd⟩:=ok a _ e
  obtain⟨as,ra⟩:=zBS.reads ok s rv
  exact⟨_,.tuple ho hc hd (by simpa using ra)⟩
 | _,_,.lst (a:=a) e s,u,r=>by
  cases (show u=Value.ref a from r)
  obtain⟨_,its,n,rv,ho⟩:=ok a _ e
  obtain⟨as,ra⟩:=zBS.reads ok s rv
  exact⟨_,.list ho rfl rfl (by simpa using ra)⟩
theorem zBS.reads (ok:HOk P w H h):∀{xs:List V}{ds:List PyData},zBS H xs ds->∀{us:List Value},zA8 xs us->∃as,ReadsAll h us ds as
 | _,_,.nil,us,r=>by cases r;exact⟨_,.nil⟩
 | _,_,.cons s t,us,r=>by
  cases r with
  | cons r1 r2=>
   obtain⟨a1,h1⟩:=zCc.reads ok s r1
   obtain⟨a2,h2⟩:=zBS.reads ok t r2
   exact⟨_,.cons h1 h2⟩
end
end
structure Fn (n p:Nat)(d:PyData):Prop where
 wt:d.weight<=n
 dp:d.depth<=p
 cl:d.canLay0=true
 sh:d.intsShort 13=true
 sw:d.showable=true
theorem Fn.mono {n p n' p':Nat}{d:PyData}(h:Fn n p d)(hn:n<=n')(hp:p<=p'):Fn n' p' d:=⟨zAD h.wt hn,zAD h.dp hp,h.cl,h.sh,h.sw⟩
theorem zL7:Fn 0 0 .none:=⟨zK _,zK _,rfl,rfl,rfl⟩
theorem zHF {i:Int}(h:i.natAbs<1000000000):i.natAbs.log2<30:=by
 by_cases h0:i.natAbs=0
 . rw[h0];decide
 . exact (Nat.log2_lt h0).mpr (by omega)
theorem zEc {i:Int}(h:i.natAbs<1000000000):Fn 30 0 (.int i):=by
 have hl:=zHF h
 refine⟨?_,zK _,rfl,?_,?_⟩
 . simp only[PyData.weight]
   split <;> omega
 . simp only[PyData.intsShort,PyData.shown]
   refine zO ?_
   have e:=int_text_length_le10 (a:=i) (k:=9) (by decide) (by simpa using h)
   have e2:(Str.ofString (toString i)).length=(toString i).length:=by
    rw[Str.ofString_eq_toList]
    show ((toString i).toList.map Char.toNat).toArray.size=_
    rw[zM,zD,String.length_toList]
   show (Str.ofString (toString i)).length<=13
   omega
 . simp only[PyData.showable]
   exact zO (by omega)
theorem zKj {n p:Nat}:∀{ds:List PyData},(∀d∈ds,Fn n p d)->PyData.weightAll ds<=ds.length*(n+1)/\PyData.depthAll ds<=p/\PyData.canLayAll0 ds=true/\PyData.intsShortAll 13 ds=true/\PyData.showableAll ds=true
 | [],_=>⟨by simp[PyData.weightAll],by simp[PyData.depthAll],by simp[PyData.canLayAll0],by simp[PyData.intsShortAll],by simp[PyData.showableAll]⟩
 | d::ds,h=>by
  obtain⟨a,b,c,e,f⟩:=zKj (ds:=ds) fun x hx=>h x (zi _ hx)
  have g:=h d za
  refine⟨?_,?_,?_,?_,?_⟩
  . simp only[PyData.weightAll,zn]
    have:=g.wt
    rw[Nat.add_mul]
    omega
  . simp only[PyData.depthAll]
    have:=g.dp
    omega
  . simp only[PyData.canLayAll0,g.cl,c,Bool.and_self]
  . simp only[PyData.intsShortAll,g.sh,e,Bool.and_self]
  . simp only[PyData.showableAll,g.sw,f,Bool.and_self]
theorem zDx {n p L:Nat}{ds:List PyData}(h:∀d∈ds,Fn n p d)(hl:ds.length<=L):Fn (L*(n+1)) (p+1) (.tuple ds):=by
 obtain⟨a,b,c,e,f⟩:=zKj h
 refine⟨?_,?_,?_,?_,?_⟩
 . simp only[PyData.weight]
   exact zAD a (Nat.mul_le_mul_right _ hl)
 . simp only[PyData.depth];omega
 . simp only[PyData.canLay0];exact c
 . simp only[PyData.intsShort];exact e
 . simp only[PyData.showable];exact f
theorem Fn.len {n p:Nat}{d:PyData}(h:Fn n p d)(hn:n<=1048576)(hp:p<=60):d.shown.length<=sizeLine/\d.hasDict=false:=by
 have hl:PyData.layable0 d=true:=by
  show (PyData.canLay0 d && decide (PyData.depth d<=64) && decide (PyData.weight d<=2 ^ 20))=true
  rw[h.cl,zO (show PyData.depth d<=64 by have:=h.dp;omega),zO (show PyData.weight d<=2 ^ 20 by have:=h.wt;omega)]
  rfl
 have e:=shown_le13 hl h.sh
 have:sizeLine=16777216:=rfl
 exact⟨by omega,PyData.hasDict_of_layable hl⟩
section
variable {X:Cx}
theorem zBQ {k:Nat}(hr:zCe k X.A):zCl X (.builtin "repr") (fun xs H Q=>∃x d,xs=[x]/\zCc H x d/\Fn 1048576 50 d/\Q (.str d.shown) H):=by
 intro pins s σ H xs us Q I r h
 obtain⟨x,d,rfl,sh,f,q⟩:=h
 obtain⟨u,rfl,rx⟩:=zCV r
 obtain⟨hz,hnd⟩:=f.len (zK _) (by decide)
 have hu:=hr.units
 cases sh with
 | non=>
  cases (show u=Value.none from rx)
  exact PySem.P.repr_of_none ⟨.str _,H,I.tok _,⟨_,rfl⟩,by simpa only [PyData.shown] using q⟩
 | bl b=>
  cases (show u=Value.bool b from rx)
  exact PySem.P.repr_of_bool ⟨.str _,H,I.tok _,⟨_,rfl⟩,by simpa only [PyData.shown] using q⟩
 | int i=>
  obtain⟨t,rfl⟩:=rx
  exact PySem.P.repr_of_int (by have:=f.sw;simpa only [PyData.showable,decide_eq_true_eq] using this) ⟨.str _,H,I.tok _,⟨_,rfl⟩,by simpa only [PyData.shown] using q⟩
 | str z=>
  obtain⟨t,rfl⟩:=rx
  exact PySem.P.repr_of_str ⟨.str _,H,I.tok _,⟨_,rfl⟩,by simpa only [PyData.shown] using q⟩ (by simpa only [PyData.shown] using hz)
 | tup e al=>
  cases (show u=Value.ref _ from rx)
  obtain⟨as,rd⟩:=zCc.reads I.hok (.tup e al) (u:=.ref _) rfl
  exact repr_of_reads' rd f.sw (PyData.noDict_hsm hnd) hr.gd (by have:=f.dp;omega) (fun _ _ e=>e) (fun h' u tk hk=>⟨.str _,H,I.kept hk,⟨u,rfl⟩,q⟩) hz
 | lst e al=>
  cases (show u=Value.ref _ from rx)
  obtain⟨as,rd⟩:=zCc.reads I.hok (.lst e al) (u:=.ref _) rfl
  exact repr_of_reads' rd f.sw (PyData.noDict_hsm hnd) hr.gd (by have:=f.dp;omega) (fun _ _ e=>e) (fun h' u tk hk=>⟨.str _,H,I.kept hk,⟨u,rfl⟩,q⟩) hz
end
end L2
namespace L2
open PySem PySem.Spec PyProof.Rows
section
variable {X:Cx}{es xs:List Expr}{t t1:TA}
theorem zCS {i j pos} (hr:PA X es t):PA X (.Constant (.int i) j pos::es) (zKz (tC (.int i)) t):=zC zj hr (by rfl)
theorem pa_lst {pos} (h:PA X xs t1)(hr:PA X es t):PA X (.List xs pos::es) (zKz (tLst t1) t):=zC (zCX h) hr (by rfl)
end
inductive zD9:List Expr->List Int->Prop where
 | nil:zD9 [] []
 | cons {i:Int}{j:Nat}{pos:Pos}{es:List Expr}{ns:List Int}:zD9 es ns->zD9 (.Constant (.int i) j pos::es) (i::ns)
theorem zLW {X:Cx}{es:List Expr}{ns:List Int}(h:zD9 es ns):PA X es (fun _ H Q=>Q (ns.map V.int) H):=by
 induction h with
 | nil=>exact zL
 | cons _ ih=>
  intro pos pins s σ H Q I q
  exact (zCS ih) pos pins s σ H Q I q
inductive zC9:List Expr->List (List Int)->Prop where
 | nil:zC9 [] []
 | cons {xs:List Expr}{ns:List Int}{pos:Pos}{es:List Expr}{nss:List (List Int)}:zD9 xs ns->ns.length<=sizeLine->zC9 es nss->zC9 (.List xs pos::es) (ns::nss)
noncomputable def zKM:List (List Int)->TA
 | []=>tNil
 | ns::r=>fun σ H Q=>∀p,H p=none->zKM r σ (upd H p (.lst (ns.map V.int))) fun xs H2=>Q (.ref p::xs) H2
theorem zJp {X:Cx}{es:List Expr}{nss:List (List Int)}(h:zC9 es nss):PA X es (zKM nss):=by
 induction h with
 | nil=>exact zL
 | cons hx hl _ ih=>
  intro pos pins s σ H Q I q
  exact (pa_lst (zLW hx) ih) pos pins s σ H Q I ⟨by rw[zD];exact hl,fun p hp=>q p hp⟩
end L2
namespace WM
theorem zKf {α:Type} [DecidableEq α]:∀{l₁ l₂:List α},l₁.Nodup->(∀x∈l₁,x∈l₂)->l₁.length<=l₂.length
 | [],_,_,_=>zh _
 | x::r,l₂,h,s=>by
  obtain⟨h1,h2⟩:=zAc.mp h
  have hx:x∈l₂:=s x za
  have ih:=zKf (l₁:=r) (l₂:=l₂.erase x) h2 fun y hy=>by
   have hne:y≠x:=fun e=>h1 (e ▸ hy)
   exact (List.mem_erase_of_ne hne).mpr (s y (zi _ hy))
  rw[List.length_erase_of_mem hx] at ih
  have:0<l₂.length:=List.length_pos_of_mem hx
  rw[zn]
  omega
noncomputable def lowTo (n:Nat):List Int:=(List.range n).map fun (i:Nat)=>(i:Int)
variable {x:Int}
theorem zCz {n:Nat}:x∈lowTo n↔0<=x/\x<n:=by
 unfold lowTo
 rw[zq]
 constructor
 . rintro ⟨i,hi,rfl⟩
   have:=zBg.mp hi
   omega
 . rintro ⟨h0,h1⟩
   exact⟨x.toNat,zBg.mpr (by omega),by omega⟩
theorem nd_len {n:Nat}{l:List Int}(h:l.Nodup)(hb:∀x∈l,0<=x/\x<n):l.length<=n:=by
 have:=zKf h (l₂:=lowTo n) fun x hx=>zCz.mpr (hb x hx)
 simpa [lowTo] using this
theorem zDs (n:Nat):(lowTo n).Pairwise (· < ·):=by
 unfold lowTo
 rw[zAT]
 exact List.pairwise_lt_range.imp fun h=>by omega
noncomputable abbrev T3:=Int×Int×Int
noncomputable def tl (t:T3):List Int:=[t.1,t.2.1,t.2.2]
structure GW (n:Int)(ts:List T3):Prop where
 n1:1<=n
 n24:n<=24
 len:ts.length<64
 rng:∀t∈ts,0<=t.1/\t.1<t.2.1/\t.2.1<n/\1<=t.2.2/\t.2.2<=99
 dis:ts.Pairwise fun s t=>¬ (s.1=t.1/\s.2.1=t.2.1)
noncomputable def Adj (ts:List T3)(x y l:Int):Prop:=(x,y,l)∈ts\/(y,x,l)∈ts
variable {l y:Int}{ts:List T3}
theorem Adj.symm (h:Adj ts x y l):Adj ts y x l:=h.elim .inr .inl
variable {n:Int}
theorem GW.uniq (g:GW n ts){l':Int}(h:Adj ts x y l)(h':Adj ts x y l'):l=l':=by
 have key:∀{ts:List T3},ts.Pairwise (fun s t=>¬ (s.1=t.1/\s.2.1=t.2.1))->∀{a b l l':Int},(a,b,l)∈ts->(a,b,l')∈ts->l=l':=by
  intro ts
  induction ts with
  | nil=>intro _ a b l l' h;simp at h
  | cons t r ih=>
   intro hp a b l l' h h'
   obtain⟨q,hr⟩:=zAX.mp hp
   rcases zc.mp h with e | e
   . rcases zc.mp h' with e' | e'
     . rw[<-e] at e';injection e' with _ e2;injection e2 with _ e3;exact e3.symm
     . exact absurd (by rw[<-e];exact⟨rfl,rfl⟩) (q _ e')
   . rcases zc.mp h' with e' | e'
     . exact absurd (by rw[<-e'];exact⟨rfl,rfl⟩) (q _ e)
     . exact ih hr e e'
 rcases h with h | h <;> rcases h' with h' | h'
 . exact key g.dis h h'
 . have:=g.rng _ h;have:=g.rng _ h';simp only at *;omega
 . have:=g.rng _ h;have:=g.rng _ h';simp only at *;omega
 . exact key g.dis h h'
theorem GW.adj (g:GW n ts)(h:Adj ts x y l):0<=x/\x<n/\0<=y/\y<n/\x≠y/\1<=l/\l<=99:=by
 rcases h with h | h <;> (have:=g.rng _ h;simp only at *;omega)
noncomputable def fd (p:Int):List T3->List (List Int)
 | []=>[]
 | t::r=>(if t.1=p then [[t.2.1,t.2.2]] else [])++(if t.2.1=p then [[t.1,t.2.2]] else [])++fd p r
theorem zFc (p:Int):∀a b:List T3,fd p (a++b)=fd p a++fd p b
 | [],b=>rfl
 | t::r,b=>by show _++_++fd p (r++b)=_;rw[zFc p r b];simp[fd,List.append_assoc]
theorem zC0 {p:Int}{k:List Int}:∀{ts:List T3},k∈fd p ts↔∃y l,k=[y,l]/\Adj ts p y l
 | []=>by simp[fd,Adj]
 | (a,b,c)::r=>by
  have ih:=zC0 (p:=p) (k:=k) (ts:=r)
  show k∈_++_++fd p r↔_
  rw[zp,zp,ih]
  simp only
  constructor
  . rintro ((h | h) | ⟨y,l,e,h⟩)
    . split at h
      . rename_i e;simp at h;subst e;exact⟨b,c,h,.inl za⟩
      . simp at h
    . split at h
      . rename_i e;simp at h;subst e;exact⟨a,c,h,.inr za⟩
      . simp at h
    . exact⟨y,l,e,h.elim (fun z=>.inl (zi _ z)) fun z=>.inr (zi _ z)⟩
  . rintro ⟨y,l,e,h⟩
    rcases h with h | h
    . rcases zc.mp h with q | q
      . injection q with q1 q2;injection q2 with q2 q3;subst q1 q2 q3
        exact .inl (.inl (by simp[e]))
      . exact .inr ⟨y,l,e,.inl q⟩
    . rcases zc.mp h with q | q
      . injection q with q1 q2;injection q2 with q2 q3;subst q1 q2 q3
        exact .inl (.inr (by simp[e]))
      . exact .inr ⟨y,l,e,.inr q⟩
theorem zGi {n:Int}(p:Int):∀{ts:List T3},(∀t∈ts,t.1<t.2.1)->(fd p ts).length<=ts.length
 | [],_=>zK _
 | t::r,h=>by
  have ih:=zGi (n:=n) p (ts:=r) fun t ht=>h t (zi _ ht)
  have h0:=h t za
  show (_++_++fd p r).length<=_
  rw[zP,zP,zn]
  have:(if t.1=p then [[t.2.1,t.2.2]] else ([]:List (List Int))).length+(if t.2.1=p then [[t.1,t.2.2]] else ([]:List (List Int))).length<=1:=by
   split <;> split <;> simp <;> omega
  omega
noncomputable def hd (k:List Int):Int:=k.getD 0 0
theorem zJ8 (g:GW n ts)(p:Int):((fd p ts).map hd).Nodup:=by
 have key:∀(ts:List T3),(∀t∈ts,t.1<t.2.1)->ts.Pairwise (fun s t=>¬ (s.1=t.1/\s.2.1=t.2.1))->((fd p ts).map hd).Nodup:=by
  intro ts
  induction ts with
  | nil=>intro _ _;exact List.nodup_nil
  | cons t r ih=>
   intro hlt hp
   obtain⟨q,hr⟩:=zAX.mp hp
   have h0:=hlt t za
   have hr':∀t∈r,t.1<t.2.1:=fun t ht=>hlt t (zi _ ht)
   have ih':=ih hr' hr
   have no:∀y c,(∀l,Adj r p y l->False)->([y,c]:List Int)=[y,c]->¬ y∈(fd p r).map hd:=by
    intro y c hn _ hm
    obtain⟨k,hk,e⟩:=zq.mp hm
    obtain⟨y',l,ek,ha⟩:=zC0.mp hk
    subst ek
    have:y'=y:=e
    subst this
    exact hn l ha
   show ((_++_++fd p r).map hd).Nodup
   by_cases h1:t.1=p
   . have h2:¬ t.2.1=p:=by omega
     rw[if_pos h1,if_neg h2]
     show (t.2.1::(fd p r).map hd).Nodup
     refine zAc.mpr ⟨no _ t.2.2 (fun l ha=>?_) rfl,ih'⟩
     rcases ha with ha | ha
     . exact q _ ha ⟨h1,rfl⟩
     . have:=hr' _ ha;simp only at this;omega
   . by_cases h2:t.2.1=p
     . rw[if_neg h1,if_pos h2]
       show (t.1::(fd p r).map hd).Nodup
       refine zAc.mpr ⟨no _ t.2.2 (fun l ha=>?_) rfl,ih'⟩
       rcases ha with ha | ha
       . have:=hr' _ ha;simp only at this;omega
       . exact q _ ha ⟨rfl,h2⟩
     . rw[if_neg h1,if_neg h2]
       exact ih'
 exact key ts (fun t ht=>(g.rng t ht).2.1) g.dis
end WM
namespace WM
inductive Way (ts:List T3):Int->Int->Int->Prop where
 | nil (x:Int):Way ts x x 0
 | cons {x z y l d:Int}:Adj ts x z l->Way ts z y d->Way ts x y (l+d)
variable {n x y d:Int}{ts:List T3}
theorem Way.nn (g:GW n ts)(h:Way ts x y d):0<=d:=by
 induction h with
 | nil=>exact Int.le_refl _
 | cons ha _ ih=>have:=g.adj ha;omega
variable {l:Int}
theorem Way.one (h:Adj ts x y l):Way ts x y l:=by
 have:=Way.cons h (.nil y)
 rwa [Int.add_zero] at this
theorem Way.trans {z e:Int}(h:Way ts x y d)(h':Way ts y z e):Way ts x z (d+e):=by
 induction h with
 | nil=>rw[zAf];exact h'
 | cons ha _ ih=>rw[Int.add_assoc];exact .cons ha (ih h')
theorem Way.symm {ts:List T3}{x y d:Int}(h:Way ts x y d):Way ts y x d:=by
 induction h with
 | nil=>exact .nil _
 | cons ha _ ih=>have:=ih.trans (.one ha.symm);rwa [Int.add_comm] at this
theorem Way.snoc {z:Int}(h:Way ts x y d)(ha:Adj ts y z l):Way ts x z (d+l):=h.trans (.one ha)
noncomputable def IsD (ts:List T3)(x y d:Int):Prop:=Way ts x y d/\∀e,Way ts x y e->d<=e
noncomputable def Len (ts:List T3)(x y:Int):Option Int->Prop
 | some d=>IsD ts x y d
 | none=>∀d,¬ Way ts x y d
theorem IsD.uniq {e:Int}(h:IsD ts x y d)(h':IsD ts x y e):d=e:=Int.le_antisymm (h.2 _ h'.1) (h'.2 _ h.1)
theorem Len.uniq {ts:List T3}{x y:Int}{o o':Option Int}(h:Len ts x y o)(h':Len ts x y o'):o=o':=by
 cases o with
 | none=>
  cases o' with
  | none=>rfl
  | some e=>exact absurd h'.1 (h e)
 | some d=>
  cases o' with
  | none=>exact absurd h.1 (h' d)
  | some e=>exact congrArg some (IsD.uniq h h')
theorem IsD.symm (h:IsD ts x y d):IsD ts y x d:=⟨h.1.symm,fun e he=>h.2 e he.symm⟩
theorem Len.symm {ts:List T3}{x y:Int}{o:Option Int}(h:Len ts x y o):Len ts y x o:=by
 cases o with
 | none=>exact fun d hd=>h d hd.symm
 | some d=>exact IsD.symm h
theorem zCM (g:GW n ts)(x:Int):IsD ts x x 0:=⟨.nil x,fun _ h=>h.nn g⟩
structure Dj (ts:List T3)(s:Int)(kn wt:Int->Option Int):Prop where
 kd:∀p d,kn p=some d->IsD ts s p d
 wk:∀p d,wt p=some d->kn p=none/\Way ts s p d
 ord:∀p d q e,kn p=some d->wt q=some e->d<=e
 nb:∀p d q l,kn p=some d->Adj ts p q l->(∃e,kn q=some e)\/∃e,wt q=some e/\e<=d+l
 st:(∃d,kn s=some d)\/wt s=some 0
variable {s:Int}{kn wt:Int->Option Int}
theorem Dj.front (g:GW n ts)(h:Dj ts s kn wt)(w:Way ts s y d):(∃e,kn y=some e)\/∃q e,wt q=some e/\e<=d:=by
 have key:∀{x y d:Int},Way ts x y d->∀dx,kn x=some dx->(∃e,kn y=some e)\/∃q e,wt q=some e/\e<=dx+d:=by
  intro x y d w
  induction w with
  | nil=>intro dx hx;exact .inl ⟨dx,hx⟩
  | cons ha w' ih=>
   intro dx hx
   rename_i x z y l d
   have hl:=g.adj ha
   have hw:=w'.nn g
   rcases h.nb x dx z l hx ha with ⟨e,he⟩ | ⟨e,he,hle⟩
   . have hez:e<=dx+l:=(h.kd z e he).2 _ ((h.kd x dx hx).1.snoc ha)
     rcases ih e he with q | ⟨q,e',hq,hle⟩
     . exact .inl q
     . exact .inr ⟨q,e',hq,by omega⟩
   . exact .inr ⟨z,e,he,by omega⟩
 rcases h.st with ⟨ds,hs⟩ | hs
 . have:ds=0:=IsD.uniq (h.kd s ds hs) (zCM g s)
   subst this
   rcases key w 0 hs with q | ⟨q,e,a,b⟩
   . exact .inl q
   . exact .inr ⟨q,e,a,by omega⟩
 . exact .inr ⟨s,0,hs,w.nn g⟩
variable {p:Int}
theorem Dj.pick (g:GW n ts)(h:Dj ts s kn wt)(hp:wt p=some d)(hm:∀q e,wt q=some e->d<=e):IsD ts s p d:=by
 obtain⟨hk,hw⟩:=h.wk p d hp
 refine⟨hw,fun e he=>?_⟩
 rcases h.front g he with ⟨e',q⟩ | ⟨q,e',hq,hle⟩
 . rw[hk] at q;cases q
 . exact Int.le_trans (hm q e' hq) hle
theorem Dj.done (g:GW n ts)(h:Dj ts s kn wt)(hw:∀q,wt q=none)(y:Int):Len ts s y (kn y):=by
 cases e:kn y with
 | some d=>exact h.kd y d e
 | none=>
  intro d w
  rcases h.front g w with ⟨e',q⟩ | ⟨q,e',hq,_⟩
  . rw[e] at q;cases q
  . rw[hw] at hq;cases hq
structure Dm (ts:List T3)(s p d:Int)(kn wt:Int->Option Int)(seen:Int->Prop):Prop where
 kd:∀q e,kn q=some e->IsD ts s q e
 wk:∀q e,wt q=some e->kn q=none/\Way ts s q e
 ord:∀q e r f,kn q=some e->wt r=some f->e<=f
 nb:∀q e r l,kn q=some e->Adj ts q r l->(q=p/\¬ seen r)\/(∃f,kn r=some f)\/∃f,wt r=some f/\f<=e+l
 st:∃e,kn s=some e
 pd:kn p=some d
 mx:∀q e,kn q=some e->e<=d
theorem Dj.enter (g:GW n ts)(h:Dj ts s kn wt)(hp:wt p=some d)(hm:∀q e,wt q=some e->d<=e) :
 Dm ts s p d (fun q=>if q=p then some d else kn q) (fun q=>if q=p then none else wt q) (fun _=>False):=by
 have hd:=h.pick g hp hm
 have hk:=(h.wk p d hp).1
 refine⟨fun q e hq=>?_,fun q e hq=>?_,fun q e r f hq hr=>?_,fun q e r l hq ha=>?_,?_,if_pos rfl,fun q e hq=>?_⟩
 . by_cases hqp:q=p
   . rw[if_pos hqp] at hq;cases hq;rw[hqp];exact hd
   . rw[if_neg hqp] at hq;exact h.kd q e hq
 . by_cases hqp:q=p
   . rw[if_pos hqp] at hq;cases hq
   . rw[if_neg hqp] at hq ⊢;exact h.wk q e hq
 . by_cases hrp:r=p
   . rw[if_pos hrp] at hr;cases hr
   . rw[if_neg hrp] at hr
     by_cases hqp:q=p
     . rw[if_pos hqp] at hq;cases hq;exact hm r f hr
     . rw[if_neg hqp] at hq;exact h.ord q e r f hq hr
 . by_cases hqp:q=p
   . exact .inl ⟨hqp,fun z=>z⟩
   . rw[if_neg hqp] at hq
     by_cases hrp:r=p
     . exact .inr (.inl ⟨d,if_pos hrp⟩)
     . rcases h.nb q e r l hq ha with ⟨f,hf⟩ | ⟨f,hf,hle⟩
       . exact .inr (.inl ⟨f,by rw[if_neg hrp];exact hf⟩)
       . exact .inr (.inr ⟨f,by rw[if_neg hrp];exact hf,hle⟩)
 . by_cases hsp:s=p
   . exact⟨d,if_pos hsp⟩
   . rcases h.st with ⟨e,he⟩ | he
     . exact⟨e,by rw[if_neg hsp];exact he⟩
     . -- s waits with 0: then d is 0 too,and p is come to by a way of 0
       have h0:=hm s 0 he
       have:=hd.1.nn g
       have hd0:d=0:=by omega
       subst hd0
       exfalso
       have:∀{x y d:Int},Way ts x y d->d=0->x=y:=by
        intro x y d w
        cases w with
        | nil=>intro _;rfl
        | cons ha w'=>intro e;have:=g.adj ha;have:=w'.nn g;omega
       exact hsp (this hd.1 rfl)
 . by_cases hqp:q=p
   . rw[if_pos hqp] at hq;cases hq;exact Int.le_refl _
   . rw[if_neg hqp] at hq;exact h.ord q e p d hq hp
variable {seen:Int->Prop}
theorem Dm.skip (h:Dm ts s p d kn wt seen){r:Int}(hr:∃f,kn r=some f):Dm ts s p d kn wt (fun x=>seen x\/x=r):=
 ⟨h.kd,h.wk,h.ord,fun q e x l hq ha=>by
  rcases h.nb q e x l hq ha with ⟨a,b⟩ | c
  . by_cases hx:x=r
    . subst hx;exact .inr (.inl hr)
    . exact .inl ⟨a,fun z=>z.elim b hx⟩
  . exact .inr c,h.st,h.pd,h.mx⟩
theorem Dm.wait (g:GW n ts)(h:Dm ts s p d kn wt seen){r:Int}(ha:Adj ts p r l)(hr:kn r=none){f:Int}
 (hf:(wt r=none/\f=d+l)\/∃e,wt r=some e/\f=min (d+l) e):Dm ts s p d kn (fun x=>if x=r then some f else wt x) (fun x=>seen x\/x=r):=by
 have hl:=g.adj ha
 have hway:Way ts s r (d+l):=(h.kd p d h.pd).1.snoc ha
 have hf1:f<=d+l:=by
  rcases hf with ⟨_,e⟩ | ⟨e,_,e'⟩
  . omega
  . omega
 have hf2:Way ts s r f:=by
  rcases hf with ⟨_,rfl⟩ | ⟨e,he,rfl⟩
  . exact hway
  . by_cases hle:d+l<=e
    . rw[Int.min_eq_left hle];exact hway
    . rw[Int.min_eq_right (by omega)];exact (h.wk r e he).2
 have hf3:d<=f:=by
  rcases hf with ⟨_,rfl⟩ | ⟨e,he,rfl⟩
  . omega
  . have:=h.ord p d r e h.pd he;omega
 refine⟨h.kd,fun q e hq=>?_,fun q e x y hq hx=>?_,fun q e x k hq hax=>?_,h.st,h.pd,h.mx⟩
 . by_cases hqr:q=r
   . rw[if_pos hqr] at hq;cases hq;rw[hqr];exact⟨hr,hf2⟩
   . rw[if_neg hqr] at hq;exact h.wk q e hq
 . by_cases hxr:x=r
   . rw[if_pos hxr] at hx;cases hx;have:=h.mx q e hq;omega
   . rw[if_neg hxr] at hx;exact h.ord q e x y hq hx
 . by_cases hxr:x=r
   . subst hxr
     refine .inr (.inr ⟨f,if_pos rfl,?_⟩)
     rcases h.nb q e x k hq hax with ⟨a,_⟩ | ⟨y,hy⟩ | ⟨y,hy,hle⟩
     . subst a
       rw[h.pd] at hq;cases hq
       rw[g.uniq hax ha];exact hf1
     . rw[hr] at hy;cases hy
     . rcases hf with ⟨e1,_⟩ | ⟨e1,he1,e2⟩
       . rw[e1] at hy;cases hy
       . rw[he1] at hy;cases hy;omega
   . rcases h.nb q e x k hq hax with ⟨a,b⟩ | c | ⟨y,hy,hle⟩
     . exact .inl ⟨a,fun z=>z.elim b hxr⟩
     . exact .inr (.inl c)
     . exact .inr (.inr ⟨y,by rw[if_neg hxr];exact hy,hle⟩)
theorem Dm.leave (h:Dm ts s p d kn wt seen)(hs:∀r l,Adj ts p r l->seen r):Dj ts s kn wt:=
 ⟨h.kd,h.wk,h.ord,fun q e r l hq ha=>by
  rcases h.nb q e r l hq ha with ⟨a,b⟩ | c
  . subst a;exact absurd (hs r l ha) b
  . exact c,.inl h.st⟩
inductive zEf (ts:List T3)(k:Int):Int->Int->Int->Prop where
 | nil (x:Int):zEf ts k x x 0
 | tie {x y l:Int}:Adj ts x y l->zEf ts k x y l
 | cons {x z y l d:Int}:Adj ts x z l->z<k->zEf ts k z y d->zEf ts k x y (l+d)
theorem zEf.way {k:Int}(h:zEf ts k x y d):Way ts x y d:=by
 induction h with
 | nil=>exact .nil _
 | tie ha=>exact .one ha
 | cons ha _ _ ih=>exact .cons ha ih
theorem Way.toK (g:GW n ts)(h:Way ts x y d):zEf ts n x y d:=by
 induction h with
 | nil=>exact .nil _
 | cons ha _ ih=>exact .cons ha (g.adj ha).2.2.2.1 ih
theorem zEf.split (g:GW n ts){k:Int}(h:zEf ts (k+1) x y d):zEf ts k x y d\/∃d1 d2,zEf ts k x k d1/\zEf ts k k y d2/\d1+d2<=d:=by
 induction h with
 | nil=>exact .inl (.nil _)
 | tie ha=>exact .inl (.tie ha)
 | cons ha hz w ih=>
  rename_i x z y l d
  by_cases hk:z<k
  . rcases ih with q | ⟨d1,d2,a,b,c⟩
    . exact .inl (.cons ha hk q)
    . exact .inr ⟨l+d1,d2,.cons ha hk a,b,by omega⟩
  . have e:z=k:=by omega
    subst e
    rcases ih with q | ⟨d1,d2,a,b,c⟩
    . exact .inr ⟨l,d,.tie ha,q,Int.le_refl _⟩
    . have:=a.way.nn g
      exact .inr ⟨l,d2,.tie ha,b,by omega⟩
theorem zEf.zero (g:GW n ts)(h:zEf ts 0 x y d):(x=y/\d=0)\/Adj ts x y d:=by
 cases h with
 | nil=>exact .inl ⟨rfl,rfl⟩
 | tie ha=>exact .inr ha
 | cons ha hz _=>have:=g.adj ha;omega
structure Fw (ts:List T3)(n:Int)(F:Int->Int->Option Int):Prop where
 snd:∀x y d,0<=x->x<n->0<=y->y<n->F x y=some d->Way ts x y d
noncomputable def Cov (ts:List T3)(n k:Int)(F:Int->Int->Option Int):Prop:=∀x y d,0<=x->x<n->0<=y->y<n->zEf ts k x y d->∃e,F x y=some e/\e<=d
theorem Fw.len (g:GW n ts){F:Int->Int->Option Int}(h:Fw ts n F)(c:Cov ts n n F)(hx:0<=x)(hx':x<n)(hy:0<=y)(hy':y<n):Len ts x y (F x y):=by
 cases e:F x y with
 | some d=>
  refine⟨h.snd x y d hx hx' hy hy' e,fun e' he=>?_⟩
  obtain⟨f,hf,hle⟩:=c x y e' hx hx' hy hy' (he.toK g)
  rw[e] at hf;cases hf;exact hle
 | none=>
  intro d hd
  obtain⟨f,hf,_⟩:=c x y d hx hx' hy hy' (hd.toK g)
  rw[e] at hf;cases hf
end WM
namespace WM
noncomputable def fnl (kn:List (Option Int))(p:Int):Option Int:=if 0<=p then kn.getD p.toNat none else none
noncomputable def cnt (kn:List (Option Int)):Nat:=(kn.filter Option.isSome).length
theorem zI3 (kn:List (Option Int)):cnt kn<=kn.length:=zr _ _
theorem zIp {kn:List (Option Int)}{p:Int}{o:Option Int}(h0:0<=p)(h1:p.toNat<kn.length)(q:Int):fnl (kn.set p.toNat o) q=if q=p then o else fnl kn q:=by
 unfold fnl
 by_cases hq:0<=q
 . rw[if_pos hq,if_pos hq,zE,zE,List.getElem?_set]
   by_cases e:q=p
   . subst e;simp[h1]
   . have:¬ p.toNat=q.toNat:=by omega
     rw[if_neg this,if_neg e]
 . rw[if_neg hq,if_neg (by omega),if_neg hq]
theorem zGA:∀{kn:List (Option Int)}{j:Nat}{d:Int},kn[j]? = some none->cnt (kn.set j (some d))=cnt kn+1
 | [],_,_,h=>by simp at h
 | o::r,0,d,h=>by
  have:o=none:=by simpa using h
  subst this
  simp[cnt,List.set]
 | o::r,j+1,d,h=>by
  have ih:=zGA (kn:=r) (j:=j) (d:=d) (by simpa using h)
  unfold cnt at ih ⊢
  rw[List.set_cons_succ]
  cases o with
  | none=>rw[zAZ (by simp),zAZ (by simp)];exact ih
  | some x=>rw[zAl (by simp),zAl (by simp),zn,zn,ih]
theorem zMA (n:Nat):cnt (List.replicate n none)=0:=by
 unfold cnt
 rw[List.filter_replicate]
 simp
theorem zDw (n:Nat)(q:Int):fnl (List.replicate n none) q=none:=by
 unfold fnl
 split
 . rw[zE,zBG]
   split <;> rfl
 . rfl
structure Dl (ts:List T3)(n s:Int)(kn:List (Option Int))(wt:Int->Option Int):Prop where
 dj:Dj ts s (fnl kn) wt
 ln:kn.length=n.toNat
 bk:∀p d,fnl kn p=some d->d<=99*cnt kn
 bw:∀p e,wt p=some e->e<=99*cnt kn/\0<=p/\p<n
structure Dn (ts:List T3)(n s p d:Int)(kn:List (Option Int))(wt:Int->Option Int)(seen:Int->Prop):Prop where
 dm:Dm ts s p d (fnl kn) wt seen
 ln:kn.length=n.toNat
 bk:∀q e,fnl kn q=some e->e<=99*cnt kn
 bd:d+99<=99*cnt kn
 bw:∀q e,wt q=some e->e<=99*cnt kn/\0<=q/\q<n
theorem Dl.start {n:Int}{ts:List T3}(g:GW n ts){s:Int}(h0:0<=s)(h1:s<n):Dl ts n s (List.replicate n.toNat none) (fun q=>if q=s then some 0 else none):=by
 refine⟨⟨fun p d h=>?_,fun p d h=>?_,fun p d q e h=>?_,fun p d q l h=>?_,.inr (if_pos rfl)⟩,zAH,fun p d h=>?_,fun p e h=>?_⟩
 . rw[zDw] at h;cases h
 . by_cases e:p=s
   . rw[if_pos e] at h;cases h;rw[e];exact⟨zDw _ _,.nil s⟩
   . rw[if_neg e] at h;cases h
 . rw[zDw] at h;cases h
 . rw[zDw] at h;cases h
 . rw[zDw] at h;cases h
 . by_cases e:p=s
   . rw[if_pos e] at h;cases h;rw[e,zMA];exact⟨by simp,h0,h1⟩
   . rw[if_neg e] at h;cases h
theorem Dl.enter {n:Int}{ts:List T3}(g:GW n ts){s:Int}{kn:List (Option Int)}{wt:Int->Option Int}(h:Dl ts n s kn wt){p d:Int}(hp:wt p=some d)(hm:∀q e,wt q=some e->d<=e) :
 kn[p.toNat]? = some none/\0<=p/\p<n/\cnt (kn.set p.toNat (some d))=cnt kn+1/\Dn ts n s p d (kn.set p.toNat (some d)) (fun q=>if q=p then none else wt q) (fun _=>False):=by
 obtain⟨hb,h0,h1⟩:=h.bw p d hp
 have hl:=h.ln
 have hlt:p.toNat<kn.length:=by omega
 have hk:=(h.dj.wk p d hp).1
 have hn:kn[p.toNat]? = some none:=by
  unfold fnl at hk
  rw[if_pos h0,zE,zB hlt] at hk
  rw[zB hlt]
  exact congrArg some hk
 have hc:=zGA (d:=d) hn
 have ef:fnl (kn.set p.toNat (some d))=fun q=>if q=p then some d else fnl kn q:=funext fun q=>zIp h0 hlt q
 refine⟨hn,h0,h1,hc,⟨?_,by rw[List.length_set];exact hl,fun q e hq=>?_,by rw[hc];omega,fun q e hq=>?_⟩⟩
 . rw[ef];exact h.dj.enter g hp hm
 . rw[ef] at hq
   simp only at hq
   rw[hc]
   by_cases e':q=p
   . rw[if_pos e'] at hq;cases hq;omega
   . rw[if_neg e'] at hq;have:=h.bk q e hq;omega
 . by_cases e':q=p
   . rw[if_pos e'] at hq;cases hq
   . rw[if_neg e'] at hq;have:=h.bw q e hq;rw[hc];exact⟨by omega,this.2⟩
theorem Dn.skip {n:Int}{ts:List T3}{s p d:Int}{kn:List (Option Int)}{wt:Int->Option Int}{seen:Int->Prop}(h:Dn ts n s p d kn wt seen){r f:Int}(hr:fnl kn r=some f):Dn ts n s p d kn wt (fun x=>seen x\/x=r):=
 ⟨h.dm.skip ⟨f,hr⟩,h.ln,h.bk,h.bd,h.bw⟩
theorem Dn.wait {n:Int}{ts:List T3}(g:GW n ts){s p d:Int}{kn:List (Option Int)}{wt:Int->Option Int}{seen:Int->Prop}(h:Dn ts n s p d kn wt seen){r l:Int}(ha:Adj ts p r l)(hr:fnl kn r=none) :
 Dn ts n s p d kn (fun x=>if x=r then some (if (wt r).getD (d+l)<d+l then (wt r).getD (d+l) else d+l) else wt x) (fun x=>seen x\/x=r):=by
 have hl:=g.adj ha
 have hf:(wt r=none/\(if (wt r).getD (d+l)<d+l then (wt r).getD (d+l) else d+l)=d+l)\/∃e,wt r=some e/\(if (wt r).getD (d+l)<d+l then (wt r).getD (d+l) else d+l)=min (d+l) e:=by
  cases e:wt r with
  | none=>exact .inl ⟨rfl,by simp⟩
  | some x=>
   refine .inr ⟨x,rfl,?_⟩
   simp only[Option.getD_some]
   split <;> omega
 refine⟨h.dm.wait g ha hr hf,h.ln,h.bk,h.bd,fun q e hq=>?_⟩
 by_cases e':q=r
 . rw[if_pos e'] at hq
   have hd:=h.bd
   have e2:=zR hq
   refine⟨?_,by omega,by omega⟩
   split at e2 <;> omega
 . rw[if_neg e'] at hq;exact h.bw q e hq
theorem Dn.leave {n:Int}{ts:List T3}{s p d:Int}{kn:List (Option Int)}{wt:Int->Option Int}{seen:Int->Prop}(h:Dn ts n s p d kn wt seen)(hs:∀r l,Adj ts p r l->seen r):Dl ts n s kn wt:=
 ⟨h.dm.leave hs,h.ln,h.bk,h.bw⟩
structure zJL (ts:List T3)(n s:Int)(kn:List (Option Int)):Prop where
 ln:kn.length=n.toNat
 len:∀y,0<=y->y<n->Len ts s y (fnl kn y)
 bd:∀o∈kn,∀d,o=some d->0<=d/\d<=2376
theorem Dl.done {n:Int}{ts:List T3}(g:GW n ts){s:Int}{kn:List (Option Int)}{wt:Int->Option Int}(h:Dl ts n s kn wt)(hw:∀q,wt q=none):zJL ts n s kn:=by
 refine⟨h.ln,fun y _ _=>h.dj.done g hw y,fun o ho d e=>?_⟩
 obtain⟨j,hj,ej⟩:=zv ho
 have hf:fnl kn (j:Int)=some d:=by
  unfold fnl
  rw[if_pos (by omega),zE,zAe,zB hj,ej,e];rfl
 have h1:=h.bk _ _ hf
 have h2:=(h.dj.kd _ _ hf).1.nn g
 have h3:=zI3 kn
 have:=h.ln
 have:=g.n24
 omega
end WM
namespace WM
noncomputable def oadd:Option Int->Option Int->Option Int
 | some a,some b=>some (a+b)
 | _,_=>none
noncomputable def oles:Option Int->Option Int->Option Int
 | none,o=>o
 | some a,none=>some a
 | some a,some b=>some (if b<a then b else a)
variable {ts:List T3}{d:Int}
theorem zEf.mono {k k' x y:Int}(h:zEf ts k x y d)(hk:k<=k'):zEf ts k' x y d:=by
 induction h with
 | nil=>exact .nil _
 | tie ha=>exact .tie ha
 | cons ha hz _ ih=>exact .cons ha (by omega) ih
structure Fm (ts:List T3)(n k:Int)(F:Int->Int->Option Int)(done:Int->Int->Prop):Prop where
 fw:Fw ts n F
 cv:Cov ts n k F
 dn:∀x y d,0<=x->x<n->0<=y->y<n->done x y->zEf ts (k+1) x y d->∃e,F x y=some e/\e<=d
variable {o p:Option Int}
theorem zLe (h:(∃e,o=some e/\e<=d)\/∃e,p=some e/\e<=d):∃e,oles o p=some e/\e<=d:=by
 rcases h with ⟨e,rfl,h⟩ | ⟨e,rfl,h⟩
 . cases p with
   | none=>exact⟨e,rfl,h⟩
   | some b=>exact⟨_,rfl,by split <;> omega⟩
 . cases o with
   | none=>exact⟨e,rfl,h⟩
   | some a=>exact⟨_,rfl,by split <;> omega⟩
theorem zLd (h:oles o p=some d):o=some d\/p=some d:=by
 cases o with
 | none=>exact .inr h
 | some a=>
  cases p with
  | none=>exact .inl h
  | some b=>
   have e:(if b<a then b else a)=d:=zR h
   split at e
   . exact .inr (by rw[e])
   . exact .inl (by rw[e])
theorem zIU (h:oadd o p=some d):∃a b,o=some a/\p=some b/\a+b=d:=by
 cases o with
 | none=>cases h
 | some a=>
  cases p with
  | none=>cases h
  | some b=>exact⟨a,b,rfl,rfl,zR h⟩
variable {n a b:Int}{F:Int->Int->Option Int}
theorem Fm.step (g:GW n ts){k:Int}{done:Int->Int->Prop}(h:Fm ts n k F done)(ha:0<=a)(ha':a<n)(hb:0<=b)(hb':b<n)(hk:0<=k)(hk':k<n) :
 Fm ts n k (fun x y=>if x=a/\y=b then oles (F a b) (oadd (F a k) (F k b)) else F x y) (fun x y=>done x y\/(x=a/\y=b)):=by
 have snd:∀d,oles (F a b) (oadd (F a k) (F k b))=some d->Way ts a b d:=fun d hd=>by
  rcases zLd hd with e | e
  . exact h.fw.snd a b d ha ha' hb hb' e
  . obtain⟨d1,d2,e1,e2,rfl⟩:=zIU e
    exact (h.fw.snd a k d1 ha ha' hk hk' e1).trans (h.fw.snd k b d2 hk hk' hb hb' e2)
 have cov1:∀d,zEf ts (k+1) a b d->∃e,oles (F a b) (oadd (F a k) (F k b))=some e/\e<=d:=fun d w=>by
  refine zLe ?_
  rcases w.split g with q | ⟨d1,d2,q1,q2,hle⟩
  . exact .inl (h.cv a b d ha ha' hb hb' q)
  . obtain⟨e1,f1,l1⟩:=h.cv a k d1 ha ha' hk hk' q1
    obtain⟨e2,f2,l2⟩:=h.cv k b d2 hk hk' hb hb' q2
    exact .inr ⟨e1+e2,by rw[f1,f2];rfl,by omega⟩
 refine⟨⟨fun x y d hx hx' hy hy' e=>?_⟩,fun x y d hx hx' hy hy' w=>?_,fun x y d hx hx' hy hy' hd w=>?_⟩
 . by_cases c:x=a/\y=b
   . rw[if_pos c] at e;rw[c.1,c.2];exact snd d e
   . rw[if_neg c] at e;exact h.fw.snd x y d hx hx' hy hy' e
 . by_cases c:x=a/\y=b
   . rw[if_pos c];rw[c.1,c.2] at w;exact cov1 d (w.mono (by omega))
   . rw[if_neg c];exact h.cv x y d hx hx' hy hy' w
 . by_cases c:x=a/\y=b
   . rw[if_pos c];rw[c.1,c.2] at w;exact cov1 d w
   . rw[if_neg c];exact h.dn x y d hx hx' hy hy' (hd.resolve_right c) w
theorem Fm.enter {k:Int}(h:Fw ts n F)(c:Cov ts n k F):Fm ts n k F (fun _ _=>False):=⟨h,c,fun _ _ _ _ _ _ _ z=>z.elim⟩
theorem Fm.leave {k:Int}{done:Int->Int->Prop}(h:Fm ts n k F done)(hd:∀x y,0<=x->x<n->0<=y->y<n->done x y):Fw ts n F/\Cov ts n (k+1) F:=
 ⟨h.fw,fun x y d hx hx' hy hy' w=>h.dn x y d hx hx' hy hy' (hd x y hx hx' hy hy') w⟩
noncomputable def Ft (ts:List T3)(n:Int)(F:Int->Int->Option Int):Prop:=∀x y d,0<=x->x<n->0<=y->y<n->(F x y=some d↔(x=y/\d=0)\/Adj ts x y d)
theorem Ft.fw (g:GW n ts)(h:Ft ts n F):Fw ts n F/\Cov ts n 0 F:=by
 refine⟨⟨fun x y d hx hx' hy hy' e=>?_⟩,fun x y d hx hx' hy hy' w=>?_⟩
 . rcases (h x y d hx hx' hy hy').mp e with ⟨rfl,rfl⟩ | ha
   . exact .nil x
   . exact .one ha
 . refine⟨d,(h x y d hx hx' hy hy').mpr ?_,Int.le_refl _⟩
   rcases w.zero g with q | q
   . exact .inl q
   . exact .inr q
theorem Ft.nil (n:Int)(h:∀x y,0<=x->x<n->0<=y->y<n->F x y=if x=y then some 0 else none):Ft [] n F:=fun x y d hx hx' hy hy'=>by
 rw[h x y hx hx' hy hy']
 constructor
 . intro e
   split at e
   . rename_i c;exact .inl ⟨c,(zR e).symm⟩
   . cases e
 . rintro (⟨rfl,rfl⟩ | ha)
   . rw[if_pos rfl]
   . rcases ha with z | z <;> simp at z
theorem Ft.put {pre post:List T3}{l:Int}(g:GW n (pre++(a,b,l)::post))(h:Ft pre n F) :
 Ft (pre++[(a,b,l)]) n (fun x y=>if x=b/\y=a then some l else if x=a/\y=b then some l else F x y):=fun x y d hx hx' hy hy'=>by
 have hr:=g.rng (a,b,l) (by simp)
 simp only at hr
 have sub:∀{x y d:Int},Adj pre x y d->Adj (pre++(a,b,l)::post) x y d:=fun z=>z.elim (fun z=>.inl (zAO _ z)) fun z=>.inr (zAO _ z)
 have own:Adj (pre++(a,b,l)::post) a b l:=.inl (by simp)
 have hadj:Adj (pre++[(a,b,l)]) x y d↔Adj pre x y d\/(x=a/\y=b/\d=l)\/(x=b/\y=a/\d=l):=by
  unfold Adj
  simp only[zp,zm,Prod.mk.injEq]
  constructor
  . rintro ((z | z) | (z | z))
    . exact .inl (.inl z)
    . exact .inr (.inl z)
    . exact .inl (.inr z)
    . exact .inr (.inr ⟨z.2.1,z.1,z.2.2⟩)
  . rintro ((z | z) | z | z)
    . exact .inl (.inl z)
    . exact .inr (.inl z)
    . exact .inl (.inr z)
    . exact .inr (.inr ⟨z.2.1,z.1,z.2.2⟩)
 rw[hadj]
 show (if x=b/\y=a then some l else if x=a/\y=b then some l else F x y)=some d↔_
 by_cases c1:x=b/\y=a
 . rw[if_pos c1]
   constructor
   . intro e;exact .inr (.inr (.inr ⟨c1.1,c1.2,(zR e).symm⟩))
   . rintro (⟨e,_⟩ | z | ⟨e1,e2,e3⟩ | ⟨_,_,e3⟩)
     . omega
     . have z':=sub z;rw[c1.1,c1.2] at z';rw[g.uniq z' own.symm]
     . rw[e3]
     . rw[e3]
 . rw[if_neg c1]
   by_cases c2:x=a/\y=b
   . rw[if_pos c2]
     constructor
     . intro e;exact .inr (.inr (.inl ⟨c2.1,c2.2,(zR e).symm⟩))
     . rintro (⟨e,_⟩ | z | ⟨e1,e2,e3⟩ | ⟨_,_,e3⟩)
       . omega
       . have z':=sub z;rw[c2.1,c2.2] at z';rw[g.uniq z' own]
       . rw[e3]
       . rw[e3]
   . rw[if_neg c2,h x y d hx hx' hy hy']
     constructor
     . rintro (z | z)
       . exact .inl z
       . exact .inr (.inl z)
     . rintro (z | z | z | z)
       . exact .inl z
       . exact .inr z
       . exact absurd ⟨z.1,z.2.1⟩ c2
       . exact absurd ⟨z.1,z.2.1⟩ c1
noncomputable def mat (M:lLO)(x y:Int):Option Int:=if 0<=x then fnl (M.getD x.toNat []) y else none
noncomputable def zHY (M:lLO)(a b:Int)(v:Option Int):List (List (Option Int)):=M.set a.toNat ((M.getD a.toNat []).set b.toNat v)
structure Sqm (n:Int)(M:lLO):Prop where
 ln:M.length=n.toNat
 rw_:∀r∈M,r.length=n.toNat
theorem Sqm.row {M:lLO}(h:Sqm n M)(ha:0<=a)(ha':a<n):∃r,M[a.toNat]? = some r/\M.getD a.toNat []=r/\r.length=n.toNat:=by
 have hl:=h.ln
 have hlt:a.toNat<M.length:=by omega
 exact⟨M[a.toNat],zB hlt,by rw[zE,zB hlt];rfl,h.rw_ _ (List.getElem_mem hlt)⟩
theorem Sqm.set {M:lLO}(h:Sqm n M){v:Option Int}(ha:0<=a)(ha':a<n):Sqm n (zHY M a b v):=by
 obtain⟨r,h1,h2,h3⟩:=h.row ha ha'
 refine⟨by unfold zHY;rw[List.length_set];exact h.ln,fun q hq=>?_⟩
 unfold zHY at hq
 rcases List.mem_or_eq_of_mem_set hq with z | z
 . exact h.rw_ q z
 . rw[z,List.length_set,h2,h3]
theorem zF4 {M:lLO}(h:Sqm n M){v:Option Int}(ha:0<=a)(ha':a<n)(hb:0<=b)(hb':b<n){x y:Int}(hx:0<=x)(hx':x<n) :
 mat (zHY M a b v) x y=if x=a/\y=b then v else mat M x y:=by
 obtain⟨r,h1,h2,h3⟩:=h.row ha ha'
 have hl:=h.ln
 unfold mat zHY
 rw[if_pos hx,if_pos hx,zE,List.getElem?_set]
 by_cases e:x=a
 . subst e
   rw[if_pos rfl,if_pos (by omega),Option.getD_some,h2,zIp hb (by omega)]
   by_cases e2:y=b
   . rw[if_pos e2,if_pos ⟨rfl,e2⟩]
   . rw[if_neg e2,if_neg fun z=>e2 z.2]
 . rw[if_neg (by omega),if_neg fun z=>e z.1,<-zE]
theorem Fm.congr {k:Int}{G:Int->Int->Option Int}{done done':Int->Int->Prop}(h:Fm ts n k F done)(e:∀x y,0<=x->x<n->0<=y->y<n->G x y=F x y)(hd:∀x y,0<=x->x<n->0<=y->y<n->done' x y->done x y):Fm ts n k G done':=
 ⟨⟨fun x y d a b c d' z=>h.fw.snd x y d a b c d' (by rw[<-e x y a b c d'];exact z)⟩,fun x y d a b c d' w=>by rw[e x y a b c d'];exact h.cv x y d a b c d' w,fun x y d a b c d' z w=>by rw[e x y a b c d'];exact h.dn x y d a b c d' (hd x y a b c d' z) w⟩
theorem Ft.congr {G:Int->Int->Option Int}(h:Ft ts n F)(e:∀x y,0<=x->x<n->0<=y->y<n->G x y=F x y):Ft ts n G:=fun x y d a b c d'=>by rw[e x y a b c d'];exact h x y d a b c d'
noncomputable def Rows (ts:List T3)(n:Int)(M:lLO):Prop:=M.length=n.toNat/\∀x,0<=x->x<n->zJL ts n x (M.getD x.toNat [])
theorem zHa (g:GW n ts)(x y:Int)(hx:0<=x)(hx':x<n)(d:Int)(h:IsD ts x y d):0<=d/\d<=2376:=by
 have ex:∀(m:Nat)(kn:List (Option Int))(wt:Int->Option Int),Dl ts n x kn wt->n.toNat-cnt kn<=m->(∃L:List Int,∀q e,wt q=some e->q∈L)->∃kn',zJL ts n x kn':=by
  intro m
  induction m with
  | zero=>
   intro kn wt D hm _
   refine⟨kn,D.done g fun q=>?_⟩
   cases e:wt q with
   | none=>rfl
   | some d=>
    have hk:=(D.dj.wk q d e).1
    obtain⟨_,h0,h1⟩:=D.bw q d e
    have hl:=D.ln
    have hlt:q.toNat<kn.length:=by omega
    have hn:kn[q.toNat]? = some none:=by
     unfold fnl at hk
     rw[if_pos h0,zE,zB hlt] at hk
     rw[zB hlt]
     exact congrArg some hk
    have h1:=zGA (d:=0) hn
    have h2:=zI3 (kn.set q.toNat (some 0))
    rw[List.length_set] at h2
    omega
  | succ m ih=>
   intro kn wt D hm hL
   by_cases hw:∀q,wt q=none
   . exact⟨kn,D.done g hw⟩
   . -- pick the nearest
     obtain⟨L,hL⟩:=hL
     have pick:∀L:List Int,(∃q∈L,(wt q).isSome)->∃p d,wt p=some d/\∀q∈L,∀e,wt q=some e->d<=e:=by
      intro L
      induction L with
      | nil=>rintro ⟨q,hq,_⟩;simp at hq
      | cons z L ihL=>
       rintro ⟨q,hq,hs⟩
       by_cases hr:∃q∈L,(wt q).isSome
       . obtain⟨p,d,hp,hmin⟩:=ihL hr
         cases ez:wt z with
         | none=>
          refine⟨p,d,hp,fun q' hq' e he=>?_⟩
          rcases zc.mp hq' with rfl | hq'
          . rw[ez] at he;cases he
          . exact hmin q' hq' e he
         | some dz=>
          by_cases hz:dz<d
          . refine⟨z,dz,ez,fun q' hq' e he=>?_⟩
            rcases zc.mp hq' with rfl | hq'
            . rw[ez] at he;cases he;exact Int.le_refl _
            . have:=hmin q' hq' e he;omega
          . refine⟨p,d,hp,fun q' hq' e he=>?_⟩
            rcases zc.mp hq' with rfl | hq'
            . rw[ez] at he;cases he;omega
            . exact hmin q' hq' e he
       . rcases zc.mp hq with rfl | hq
         . obtain⟨d,hd⟩:=zAs.mp hs
           refine⟨q,d,hd,fun q' hq' e he=>?_⟩
           rcases zc.mp hq' with rfl | hq'
           . rw[hd] at he;cases he;exact Int.le_refl _
           . exact absurd ⟨q',hq',by rw[he];rfl⟩ hr
         . exact absurd ⟨q,hq,hs⟩ hr
     obtain⟨p,d,hp,hmin⟩:=pick L (by
      apply zAQ
      intro hno
      refine hw fun q=>?_
      cases e:wt q with
      | none=>rfl
      | some d=>exact absurd ⟨q,hL q d e,by rw[e];rfl⟩ hno)
     obtain⟨hn,h0,h1,hc,N⟩:=D.enter g hp (fun q e he=>hmin q (hL q e he) e he)
     have all:∀(ns:List (Int×Int))(wt':Int->Option Int)(seen:Int->Prop),Dn ts n x p d (kn.set p.toNat (some d)) wt' seen->(∃L:List Int,∀q e,wt' q=some e->q∈L)->(∀r l,(r,l)∈ns->Adj ts p r l) ->
      ∃(wt'':Int->Option Int)(seen':Int->Prop),Dn ts n x p d (kn.set p.toNat (some d)) wt'' seen'/\(∃L:List Int,∀q e,wt'' q=some e->q∈L)/\(∀r,seen r->seen' r)/\∀r l,(r,l)∈ns->seen' r:=by
      intro ns
      induction ns with
      | nil=>intro wt' seen N hL _;exact⟨wt',seen,N,hL,fun _ z=>z,fun r l z=>by simp at z⟩
      | cons t ns ih'=>
       intro wt' seen N hL' ha
       obtain⟨r,l⟩:=t
       have har:=ha r l za
       have ha':∀r l,(r,l)∈ns->Adj ts p r l:=fun r l z=>ha r l (zi _ z)
       cases ek:fnl (kn.set p.toNat (some d)) r with
       | some f=>
        obtain⟨w2,s2,N2,L2,m2,a2⟩:=ih' wt' _ (N.skip ek) hL' ha'
        refine⟨w2,s2,N2,L2,fun q z=>m2 q (.inl z),fun q l' z=>?_⟩
        rcases zc.mp z with e | z
        . cases e;exact m2 _ (.inr rfl)
        . exact a2 q l' z
       | none=>
        obtain⟨L',hL'⟩:=hL'
        obtain⟨w2,s2,N2,L2,m2,a2⟩:=ih' _ _ (N.wait g har ek) ⟨r::L',fun q e he=>by
         by_cases e':q=r
         . rw[e'];exact za
         . rw[if_neg e'] at he;exact zi _ (hL' q e he)⟩ ha'
        refine⟨w2,s2,N2,L2,fun q z=>m2 q (.inl z),fun q l' z=>?_⟩
        rcases zc.mp z with e | z
        . cases e;exact m2 _ (.inr rfl)
        . exact a2 q l' z
     have nbr:∃ns:List (Int×Int),(∀r l,(r,l)∈ns->Adj ts p r l)/\∀r l,Adj ts p r l->(r,l)∈ns:=by
      refine⟨(ts.filterMap fun t=>if t.1=p then some (t.2.1,t.2.2) else none)++(ts.filterMap fun t=>if t.2.1=p then some (t.1,t.2.2) else none),fun r l z=>?_,fun r l z=>?_⟩
      . rcases zp.mp z with z | z
        . obtain⟨⟨a,b,c⟩,ht,e⟩:=zAw.mp z
          split at e
          . rename_i c1
            have c1':a=p:=c1
            have e':=zR e
            simp only[Prod.mk.injEq] at e'
            obtain⟨rfl,rfl⟩:=e'
            subst c1'
            exact .inl ht
          . cases e
        . obtain⟨⟨a,b,c⟩,ht,e⟩:=zAw.mp z
          split at e
          . rename_i c1
            have c1':b=p:=c1
            have e':=zR e
            simp only[Prod.mk.injEq] at e'
            obtain⟨rfl,rfl⟩:=e'
            subst c1'
            exact .inr ht
          . cases e
      . rcases z with z | z
        . exact zAO _ (zAw.mpr ⟨_,z,by simp⟩)
        . exact zg _ (zAw.mpr ⟨_,z,by simp⟩)
     obtain⟨ns,hns1,hns2⟩:=nbr
     obtain⟨w2,s2,N2,L2,_,a2⟩:=all ns _ _ N ⟨L,fun q e he=>by
      by_cases e':q=p
      . rw[if_pos e'] at he;cases he
      . rw[if_neg e'] at he;exact hL q e he⟩ hns1
     exact ih _ _ (N2.leave fun r l ha=>a2 r l (hns2 r l ha)) (by omega) L2
 obtain⟨kn,K⟩:=ex n.toNat _ _ (Dl.start g hx hx') (by omega) ⟨[x],fun q e he=>by
  by_cases e':q=x
  . simp[e']
  . rw[if_neg e'] at he;cases he⟩
 have hy:(0<=y/\y<n)\/y=x:=by
  have:∀{x y d:Int},Way ts x y d->x=y\/(0<=y/\y<n):=by
   intro x y d w
   induction w with
   | nil=>exact .inl rfl
   | cons ha _ ih=>
    rcases ih with rfl | q
    . have:=g.adj ha;exact .inr ⟨this.2.2.1,this.2.2.2.1⟩
    . exact .inr q
  rcases this h.1 with e | q
  . exact .inr e.symm
  . exact .inl q
 have hy':0<=y/\y<n:=hy.elim id fun e=>by omega
 have hl:=K.len y hy'.1 hy'.2
 have hlen:=K.ln
 have hlt:y.toNat<kn.length:=by omega
 have e1:fnl kn y=kn[y.toNat]:=by
  unfold fnl
  rw[if_pos hy'.1,zE,zB hlt];rfl
 have e2:=Len.uniq hl (show Len ts x y (some d) from h)
 exact K.bd _ (List.getElem_mem hlt) d (by rw[<-e1];exact e2)
theorem zLO (g:GW n ts){M:lLO}(h:Sqm n M)(f:Fw ts n (mat M))(c:Cov ts n n (mat M)):Rows ts n M:=by
 refine⟨h.ln,fun x hx hx'=>?_⟩
 obtain⟨r,h1,h2,h3⟩:=h.row hx hx'
 have e:∀y,mat M x y=fnl r y:=fun y=>by unfold mat;rw[if_pos hx,h2]
 rw[h2]
 refine⟨h3,fun y hy hy'=>by rw[<-e];exact f.len g c hx hx' hy hy',fun o ho d ed=>?_⟩
 obtain⟨j,hj,ej⟩:=zv ho
 have hf:fnl r (j:Int)=some d:=by
  unfold fnl
  rw[if_pos (by omega),zE,zAe,zB hj,ej,ed];rfl
 have hl:=f.len g c hx hx' (y:=(j:Int)) (by omega) (by omega)
 rw[e,hf] at hl
 exact zHa g x j hx hx' d hl
end WM
namespace WM
noncomputable def Btw (ts:List T3)(x y p:Int):Prop:=∃a b,IsD ts x p a/\IsD ts p y b/\IsD ts x y (a+b)
noncomputable def Nxt (ts:List T3)(x y p:Int):Prop:=∃l b,Adj ts x p l/\IsD ts p y b/\IsD ts x y (l+b)
theorem Btw.symm {ts:List T3}{x y p:Int}(h:Btw ts x y p):Btw ts y x p:=by
 obtain⟨a,b,h1,h2,h3⟩:=h
 exact⟨b,a,h2.symm,h1.symm,by rw[Int.add_comm];exact h3.symm⟩
variable {n x y:Int}{ts:List T3}
theorem Way.zero (g:GW n ts)(h:Way ts x y 0):x=y:=by
 have:∀{x y d:Int},Way ts x y d->d=0->x=y:=by
  intro x y d w
  cases w with
  | nil=>intro _;rfl
  | cons ha w'=>intro e;have:=g.adj ha;have:=w'.nn g;omega
 exact this h rfl
variable {d:Int}
theorem Way.in_ (g:GW n ts)(w:Way ts x y d)(hx:0<=x)(hx':x<n):0<=y/\y<n:=by
 induction w with
 | nil=>exact⟨hx,hx'⟩
 | cons ha _ ih=>have:=g.adj ha;exact ih this.2.2.1 this.2.2.2.1
theorem Btw.self (g:GW n ts)(h:IsD ts x y d):Btw ts x y x:=⟨0,d,zCM g x,h,by rw[zAf];exact h⟩
theorem zCi (g:GW n ts)(h:IsD ts x y d):d=0↔x=y:=by
 constructor
 . intro e;subst e;exact h.1.zero g
 . intro e;subst e;exact IsD.uniq h (zCM g x)
theorem Btw.trans {ts:List T3}{x y p q:Int}(h:Btw ts x y p)(h':Btw ts x p q):Btw ts x y q:=by
 obtain⟨a,b,h1,h2,h3⟩:=h
 obtain⟨c,e,k1,k2,k3⟩:=h'
 have e1:a=c+e:=IsD.uniq h1 k3
 refine⟨c,e+b,k1,⟨k2.1.trans h2.1,fun f hf=>?_⟩,?_⟩
 . have:=h3.2 _ (k1.1.trans hf)
   omega
 . rw[e1,Int.add_assoc] at h3;exact h3
theorem Way.least (g:GW n ts)(h:Way ts x y d):∃e,IsD ts x y e:=by
 have:∀(m:Nat)(d:Int),Way ts x y d->d.toNat<=m->∃e,IsD ts x y e:=by
  intro m
  induction m with
  | zero=>
   intro d hd hm
   have:=hd.nn g
   have e:d=0:=by omega
   subst e
   exact⟨0,hd,fun f hf=>hf.nn g⟩
  | succ m ih=>
   intro d hd hm
   by_cases hl:∃f,Way ts x y f/\f<d
   . obtain⟨f,hf,hlt⟩:=hl
     have:=hf.nn g
     exact ih f hf (by omega)
   . refine⟨d,hd,fun f hf=>?_⟩
     apply zAQ
     intro hn
     exact hl ⟨f,hf,by omega⟩
 exact this _ d h (zK _)
theorem Nxt.exists (g:GW n ts)(h:IsD ts x y d)(hne:x≠y):∃p,Nxt ts x y p:=by
 obtain⟨hw,hmin⟩:=h
 cases hw with
 | nil=>exact absurd rfl hne
 | cons ha w=>
  rename_i z l e
  obtain⟨f,hf⟩:=w.least g
  have h1:=hf.2 _ w
  have h2:=hmin _ (.cons ha hf.1)
  have:f=e:=by omega
  subst this
  exact⟨z,l,f,ha,hf,.cons ha hf.1,hmin⟩
theorem Nxt.ne (g:GW n ts){p:Int}(h:Nxt ts x y p):x≠y:=by
 obtain⟨l,b,ha,hb,hd⟩:=h
 intro e
 subst e
 have:=IsD.uniq hd (zCM g x)
 have:=g.adj ha
 have:=hb.1.nn g
 omega
theorem Len.via {p a:Int}{o:Option Int}(h1:IsD ts x p a)(h2:IsD ts x y d)(h3:Len ts p y o):∃b,o=some b/\d<=a+b:=by
 cases o with
 | none=>exact absurd (h1.1.symm.trans h2.1) (h3 _)
 | some b=>exact⟨b,rfl,h2.2 _ (h1.1.trans h3.1)⟩
end WM
namespace WM
end WM
namespace L2
open PySem PySem.Spec PyProof.Rows
noncomputable def intO:KeyOrd:=⟨Int,fun a b=>decide (a<b),fun a=>zY (by omega),fun a b c h1 h2=>zO (by have:=of_decide_eq_true h1;have:=of_decide_eq_true h2;omega),
 fun a b c h=>by
  have h':a<c:=of_decide_eq_true h
  by_cases hab:a<b
  . exact .inl (zO hab)
  . exact .inr (zO (by omega)),
 fun a b h1 h2=>by have:=of_decide_eq_false h1;have:=of_decide_eq_false h2;omega⟩
variable {s:Shared}
theorem zJB {prog:Program}{w:World}{A:Around}{a:Addr}{vs:List Value}{ns:List Int}(hI:IntsAre vs ns)(h2:2<=vs.length) :
 SortT.Asks prog w A s a vs (O:=intO) (fun i=>ns.getD i 0) oneType':=by
 have hl:=hI.length
 have at_:∀i,i<vs.length->∃t,vs.getD i Value.none = .int (ns.getD i 0) t:=fun i hi=>by
  obtain⟨n,hn⟩:∃n,ns[i]? = some n:=⟨_,zB (by omega)⟩
  obtain⟨t,ht⟩:=hI.get i n hn
  exact⟨t,by rw[zE,zE,ht,hn];rfl⟩
 refine⟨fun h' Q E kh q=>?_,fun h' i j Q E kh hi hj q=>?_⟩
 . rw[ksk_kind (keys:=vs.toArray) (kz:=ns) (by simpa using hI) (by simpa using h2)]
   exact zF q
 . obtain⟨t,e1⟩:=at_ i hi
   obtain⟨u,e2⟩:=at_ j hj
   rw[e1,e2]
   exact PySem.W.kat_lt_int q
theorem zJf {vs:List Value}{ns:List Int}{out:List Nat}(hI:IntsAre vs ns)(p:SortT.Put (O:=intO) (fun i=>ns.getD i 0) vs.length out) :
 ∃ms:List Int,ms.Perm ns/\ms.Pairwise (· <= ·)/\zA8 (ms.map V.int) (out.map fun i=>vs.getD i Value.none)/\ms.length=ns.length:=by
 have hl:=hI.length
 have hb:∀i∈out,i<vs.length:=fun i hi=>zBg.mp (p.perm.mem_iff.mp hi)
 refine⟨out.map fun i=>ns.getD i 0,?_,?_,?_,?_⟩
 . have h1:=p.perm.map fun i=>ns.getD i 0
   have h2:(List.range vs.length).map (fun i=>ns.getD i 0)=ns:=by
    rw[show vs.length=ns.length by omega]
    apply List.ext_getElem?
    intro j
    rw[zN]
    by_cases hj:j<ns.length
    . rw[List.getElem?_range hj,zB hj];simp[hj]
    . rw[zAY (by rw[zAu];omega),zAY (by omega)];rfl
   rw[h2] at h1
   exact h1
 . refine zAd.mpr fun i j hi hj hij=>?_
   rw[zD] at hi hj
   have:=p.rise i j out[i] out[j] (Nat.le_of_lt hij) (by simp) (by simp)
   have h3:decide (ns.getD out[j] 0<ns.getD out[i] 0)=false:=this
   have h4:=of_decide_eq_false h3
   rw[List.getElem_map,List.getElem_map]
   omega
 . have:∀l:List Nat,(∀i∈l,i<vs.length)->zA8 ((l.map fun i=>ns.getD i 0).map V.int) (l.map fun i=>vs.getD i Value.none):=by
    intro l
    induction l with
    | nil=>intro _;exact .nil
    | cons i l ih=>
     intro h
     have hi:=h i za
     obtain⟨n,hn⟩:∃n,ns[i]? = some n:=⟨_,zB (by omega)⟩
     obtain⟨t,ht⟩:=hI.get i n hn
     refine .cons ?_ (ih fun j hj=>h j (zi _ hj))
     show zBH (V.int (ns.getD i 0)) (vs.getD i Value.none)
     rw[zE,zE,ht,hn]
     exact⟨t,rfl⟩
   exact this out hb
 . rw[zD,p.perm.length_eq,zAu];omega
section
variable {X:Cx}
theorem zFh (hc:X.calm=true):zCl X (.builtin "sorted") (fun xs H Q=>∃p kvs ns,xs=[.ref p]/\H p=some (.dK kvs)/\kvs.map (·.1)=ns.map Sum.inl/\ns.length<64 /\
 ∀(l:Addr)(ms:List Int),H l=none->ms.Perm ns->ms.Pairwise (· <= ·)->Q (.ref l) (upd H l (.lst (ms.map V.int)))):=by
 intro pins s σ H xs us Q I r h
 obtain⟨p,kvs,ns,rfl,hd,hks,h64,q⟩:=h
 obtain⟨u,rfl,rx⟩:=zCV r
 cases rx
 obtain⟨hz,lo,vs,rel,o,es,ep,ho,hx,hdat,_,hpr,hnd⟩:=zIu I.hok hd
 have key:∀(es:List DictEntry)(kvs:List (Key×V))(vs:List (Key×Value))(ns:List Int),KV kvs vs->Pairs (zAW X.prog X.w) es vs->kvs.map (·.1)=ns.map Sum.inl->IntsAre (es.map (·.key)) ns:=by
  intro es
  induction es with
  | nil=>
   intro kvs vs ns rel pr e
   cases pr
   cases rel
   cases ns with
   | nil=>exact .nil
   | cons n ns=>simp at e
  | cons d es ih=>
   intro kvs vs ns rel pr e
   cases pr with
   | cons k1 k2 k3=>
    cases rel with
    | cons hpq t=>
     cases ns with
     | nil=>simp at e
     | cons n ns=>
      simp only[zAF,List.cons.injEq] at e
      rw[<-hpq.1,e.1] at k1
      obtain⟨t0,e0⟩:=Value.isInt_shape (k:=n) (v:=d.key) k1
      rw[zAF,e0]
      exact .cons n t0 (ih _ _ _ t k3 e.2)
 have hI:IntsAre (es.toList.map (·.key)) ns:=key _ _ _ _ rel hpr hks
 have hl:=hI.length
 refine SortT.sorted_dict (O:=intO) (key:=fun i=>ns.getD i 0) (κ:=oneType') (vs:=es.toList.map (·.key)) (I.ok.hd hc) lo ⟨o,ho,hx,hdat⟩ rfl (by omega) (fun h2 s' a fa kp=>zJB hI h2) fun h1 D h' t' out c pt k1 hD k2 ho=>?_
 obtain⟨ms,hp,hr,rz,hlz⟩:=zJf hI pt
 have I1:Inv X pins σ H { s with heap:=h1,toks:=s.toks }:=I.kept k1
 refine⟨.ref D,_,zDB (s:={ s with heap:=h1,toks:=s.toks }) (t':=t') I1 hD k2 ho rz ?_,rfl,q D ms (I1.hok.fresh hD) hp hr⟩
 have:sizeLine=16777216:=rfl
 rw[zD]
 omega
end
noncomputable def zJI (c:Addr)(q:Str):Heap->Prop:=fun h=>∃o vs t,h.get? c=some o/\o.data = .fields vs/\vs[1]? = some (.str q t)
noncomputable def zCU (H:Hp)(P:Addr)(pos:Pos)(q:Str):Prop:=∃ps,H P=some (.tbl ps)/\TriplesOk ps.toList/\(codeAmong pos ps.toList=none\/∃c,codeAmong pos ps.toList=some (.ref c)/\H c=some (.ext (zJI c q)))
noncomputable def SmT (H H':Hp):Prop:=∀b o,H b=some o->(∃ps,o = .tbl ps)\/H' b=some o
theorem SmT.refl (H:Hp):SmT H H:=fun _ _ e=>.inr e
variable {H H':Hp}
theorem SmT.of (h:zAo H H'):SmT H H':=fun b o e=>.inr (h b o e)
theorem SmT.trans {H1 H2:Hp}(a:SmT H H1)(b:SmT H1 H2):SmT H H2:=fun c o e=>by
 rcases a c o e with z | z
 . exact .inl z
 . exact b c o z
variable {pos:Pos}{q:Str}
theorem zCU.keep {P:Addr}(h:zCU H P pos q)(k:∀o,H P=some o->H' P=some o)(k2:∀c φ,H c=some (.ext φ)->H' c=some (.ext φ)):zCU H' P pos q:=by
 obtain⟨ps,a,b,c⟩:=h
 exact⟨ps,k _ a,b,c.imp id fun ⟨c,e,f⟩=>⟨c,e,k2 _ _ f⟩⟩
theorem zCU.same {P:Addr}(h:zCU H P pos q)(k:zAo H H'):zCU H' P pos q:=h.keep (fun _=>k _ _) fun _ _=>k _ _
noncomputable def zJJ (mg:sOV)(h:Heap):Prop:=∃bm ob,mg "__builtins__" = some (.ref bm)/\bm≠builtinsNs/\h.get? bm=some ob/\ob.cls = .type "module" /\ ob.dict=some builtinsNs/\ob.data = .plain
theorem zKe {h:Heap}{a:Addr}{m m':sOV}(x:h.Ns a m)(y:h.Ns a m'):m=m':=by
 obtain⟨o,es,ep,e,d,_,f⟩:=x
 obtain⟨o',es',ep',e',d',_,f'⟩:=y
 rw[e] at e';cases e'
 rw[d] at d';cases d'
 funext n
 rw[<-f n,<-f' n]
variable {o:HO}
section
variable {X:Cx}{pins:lPO}{σ:St}{H:Hp}{s:Shared}
theorem Inv.growL {Pt c':Addr}{ps more:Array Value}{t':Nat}{h':Heap}(I:Inv X pins σ H s)(hP:H Pt=some (.tbl ps))(hp:s.heap.objs.size<=c')(k:∀b u,b≠Pt->s.heap.get? b=some u->h'.get? b=some u)
 (newP:h'.get? Pt=some (PySem.W.tabObj (ps++more)))(new:zBe X.prog X.w (upd (upd H Pt (.tbl (ps++more))) c' o) h' c' o) :
 Inv X pins σ (upd (upd H Pt (.tbl (ps++more))) c' o) { s with heap:=h',toks:=t' }:=by
 have hc:H c'=none:=I.hok.fresh hp
 have nP:∀b,H b=none->b≠Pt:=fun b n z=>by rw[z,hP] at n;cases n
 have nc:∀b u,s.heap.get? b=some u->b≠c':=fun b u e=>ze (zk (zU e) hp)
 have up:∀b u,H b=some u->b≠Pt->(upd (upd H Pt (.tbl (ps++more))) c' o) b=some u:=fun b u e hb=>by rw[zd (zl e hc),zd hb];exact e
 refine I.un ⟨fun b u e n _ _=>k b u (nP b n) e,fun b u e n _ _=>⟨u.slots,k b u (nP b n) e⟩,fun b u e n _=>by rw[zd (nc b u e),zd (nP b n)];exact n,fun b u e _=>?_,fun b xs e=>up b _ e (zAp e hP (by intro z;cases z)),fun b ob u e=>up b _ e (zAp e hP (by intro z;cases z)),fun b qs e=>?_⟩ ?_
 . by_cases hb:b=Pt
   . rw[hb];exact⟨_,newP⟩
   . exact⟨u,k b u hb e⟩
 . by_cases hb:b=Pt
   . subst hb
     rw[hP] at e;cases e
     exact⟨more,by rw[zd (zl hP hc),zI]⟩
   . exact⟨#[],by rw[up b _ e hb];simp⟩
 . intro b u e
   by_cases hbc:b=c'
   . subst hbc;rw[zI] at e;cases e;exact new
   . rw[zd hbc] at e
     by_cases hb:b=Pt
     . subst hb;rw[zI] at e;cases e;exact newP
     . rw[zd hb] at e
       refine (I.hok b u e).stay (fun d v hd q=>k d v ?_ q) (fun d q=>up d _ q (zAp q hP (by intro z;cases z))) fun d xs q=>up d _ q (zAp q hP (by intro z;cases z))
       rcases hd with z | z
       . rw[z];exact hb
       . exact zAp z hP (by intro z';cases z')
theorem lam_ev {P c:Addr}{params:Arguments}{body:Expr}{lscope:Scope}{lpos:Pos}{Q:vSP}{E:vSP}(I:Inv X pins σ H s)(T:zCU H P lpos (X.env.qual ++ "<lambda>"))
 (hcode:X.env.code = .ref c)(C:PySem.W.CodeHd X.base c P)(hbm:zJJ X.mg X.base)(hfree:∀y∈lscope.names,y.2 = .free->X.env.kindOf y.1=some .cell)(hdef:defaultsOf params X.env=([],[]))
 (h:∀(f:Addr)(pm cv ctv:Value)(s':Shared)(H':Hp),Inv X pins σ H' s'->SmT H H'->zCU H' P lpos (X.env.qual ++ "<lambda>")->s.heap.objs.size<=f ->
  s'.heap.get? f=some { cls:=.type "function",data:=.func (PySem.W.kla_fn "<lambda>" (X.env.qual ++ "<lambda>") params body lscope (zCn X.env.cells lscope.names []) pm cv ctv) } ->
  s'.heap.CodeRec cv (X.env.qual ++ "<lambda>")->Q (.ref f) s') :
 wpAny (model X.prog X.w) X.A (eval (.Lambda params body lscope lpos) X.env) Q E s:=by
 obtain⟨ps,hP,ht,hcase⟩:=T
 have oP:s.heap.get? P=some (PySem.W.tabObj ps):=I.hok P _ hP
 have hg:=I.mod.glob.keeps I.bk
 have C':PySem.W.CodeHd s.heap c P:=C.keeps I.bk
 have hcl:closureFor lscope X.env=pure (zCn X.env.cells lscope.names []):=zCO fun y hy hf=>I.ok.has y.1 (.inl (hfree y hy hf))
 have nP:∀b o,X.base.get? b=some o->b≠P:=fun b o e z=>by
  have:=(I.bs b o e).2
  rw[z,hP] at this;cases this
 have hgP:mainGlobals≠P:=by
  obtain⟨o,es,ep,e,_⟩:=I.mod.glob
  exact nP _ _ e
 have hb:s.heap.BuiltinsAt X.mg P:=by
  obtain⟨bm,ob,b1,b2,b3,b4,b5,b6⟩:=hbm
  refine⟨bm,ob,b1,b2,fun z=>?_,nP _ _ b3,I.bk _ _ b3,b4,b5,b6⟩
  obtain⟨o,es,ep,e,hd,_⟩:=I.mod.glob
  rw[z,e] at b3;cases b3;rw[hd] at b6;cases b6
 refine PySem.W.kla_eval hdef ?_
 rcases hcase with hn | ⟨c1,hc1,hH⟩
 . refine PySem.W.kla_makeFunction (mg:=X.mg) hcl I.ok.glob hg hcode C' oP ht hn hgP hb fun c' ctv h' tk hx hge hlt hrec htb=>?_
   obtain⟨c2,oc,vs,t,e2,hoc,hd,hv⟩:=id hrec
   cases e2
   have kp:∀b u,b≠P->s.heap.get? b=some u->(h'.push (PySem.W.kla_obj "<lambda>" (X.env.qual ++ "<lambda>") params body lscope (zCn X.env.cells lscope.names []) ((X.mg "__name__").getD .none) c' ctv)).get? b=some u:=fun b u hb' e=>zH _ (hx b u hb' e)
   have hcn:H c'=none:=I.hok.fresh hge
   have nPc:P≠c':=zl hP hcn
   refine h h'.objs.size ((X.mg "__name__").getD .none) (.ref c') ctv _ _ (I.growL (c':=c') (o:=.ext (zJI c' (X.env.qual ++ "<lambda>"))) (t':=tk) hP hge kp (zH _ htb) ⟨⟨oc,vs,t,zH _ hoc,hd,hv⟩,⟨oc,zH _ hoc⟩,fun h1 h2 ⟨o1,v1,t1,a1,a2,a3⟩ k12=>⟨o1,v1,t1,k12 _ a1,a2,a3⟩⟩) ?_ ?_ ?_ ?_ ?_
   . intro b o e
     by_cases hbP:b=P
     . left
       rw[hbP,hP] at e
       exact⟨ps,(zR e).symm⟩
     . right
       rw[zd (zl e hcn),zd hbP];exact e
   . refine⟨ps ++ #[rawInt lpos.line,rawInt lpos.col,.ref c'],by rw[zd nPc,zI],?_,.inr ⟨c',?_,zI⟩⟩
     . rw[Array.toList_append];exact TriplesOk_snoc _ _ _ _ ht
     . rw[Array.toList_append];exact codeAmong_snoc _ ht hn
   . have:=Nat.le_of_lt (zAN hge hlt)
     exact this
   . exact zS _ rfl
   . exact hrec.keeps fun b o e=>zH _ e
 . obtain⟨⟨oc,vs,t,hoc,hd,hv⟩,_⟩:=I.hok c1 _ hH
   refine PySem.W.kla_makeFunctionHit (mg:=X.mg) hcl I.ok.glob hg hcode C' oP ht hc1 hb fun ctv h' tk hk hsz=>?_
   refine h h'.objs.size ((X.mg "__name__").getD .none) (.ref c1) ctv _ _ (I.kept (t':=tk) fun b u e=>zH _ (hk b u e)) (SmT.refl _) ⟨ps,hP,ht,.inr ⟨c1,hc1,hH⟩⟩ hsz (zS _ rfl) ⟨c1,oc,vs,t,rfl,zH _ (hk _ _ hoc),hd,hv⟩
end
theorem zL5 {X:Cx}{sc:Scope}(h:(sc.names.all fun y=>y.2 != .free || X.env.kindOf y.1==some .cell)=true):∀y∈sc.names,y.2 = .free->X.env.kindOf y.1=some .cell:=fun y hy e=>by
 have a:=zAj.mp h y hy
 rw[e] at a
 simpa using a
section
variable {X:Cx}
noncomputable def zKx (j:Nat)(P:Addr)(lpos:Pos)(q:Str)(t:TA):TE:=fun σ H Q=>t σ H fun vs H1=>∃(l d:Addr)(ns:List Int)(kvs:List (Key×V))(val:Int->Int),vs=[.ref l]/\H1 l=some (.lst (ns.map V.int))/\ns≠[]/\σ[j]? = some (some (.ref d))/\H1 d=some (.dK kvs) /\
 (∀n∈ns,zBz kvs (Sum.inl n)=some (.int (val n)))/\zCU H1 P lpos q/\∀(M:Int)(H2:Hp),M∈ns->(∀n∈ns,val M<=val n)->SmT H1 H2->zCU H2 P lpos q->Q (.int M) H2
theorem zIJ {k j:Nat}{P c:Addr}{dn pn:Str}{e:Expr}{t:TA}{params:Arguments}{lscope:Scope}{lpos pos np p1 p2 p3 kpos:Pos}
 (hc:X.calm=true)(hr:zCe (k+1) X.A)(hg:Gl X "min") (hm:X.mg "min" = none) (he:PA X [e] t)(hcode:X.env.code = .ref c)(C:PySem.W.CodeHd X.base c P)(hbm:zJJ X.mg X.base)
 (hN:X.N[j]? = some dn)(hkd:X.env.kindOf dn=some .cell)(hS:lscope.kind = .function)(hco:lscope.isCoroutine=false)(hgen:lscope.isGenerator=false)(hcell:∀x∈lscope.names,x.2 ≠ .cell)
 (hfree:∀y∈lscope.names,y.2 = .free->X.env.kindOf y.1=some .cell)(hdn:lscope.names.lookup dn=some .free)(hpn:lscope.names.lookup pn=some .local)(hdef:defaultsOf params X.env=([],[]))
 (hbind:∀(q:Str)(body:Expr)(cl:List (Str×Addr))(pm cdv ct v:Value),bindArgs (PySem.W.kla_fn "<lambda>" q params body lscope cl pm cdv ct) ⟨[v],[]⟩=pure [(pn,v)])
 (hd1:(dn==("__debug__" : Str))=false:=by decide) (hd2:(dn==("__classdict__" : Str))=false:=by decide) (hd3:(pn==("__debug__" : Str))=false:=by decide)
 (hs1:backTo pos (starEach [e] X.env)=(false,eval e X.env)::backTo pos (starEach [] X.env):=by rfl)(hs2:(backTo pos (starEach [e] X.env)).any (·.1)=false:=by rfl) :
 PE X (.Call (.Name "min" np) [e] [⟨some "key",.Lambda params (.Subscript (.Name dn p1) (.Name pn p2) p3) lscope lpos,kpos⟩] pos) (zKx j P lpos (X.env.qual ++ "<lambda>") t):=by
 intro pins s σ H Q I h
 refine zBW (zCm I hg hm (by decide +kernel:bootBuiltins "min" = some (.builtin "min")) ?_)
 refine PyProof.Rows.callWith_kw (thn (he pos pins s σ H _ I h) fun us s1 ⟨vs,H1,I1,r,q1⟩=>?_) hs1 hs2
 obtain⟨l,d,ns,kvs,val,rfl,hl,hne,hσ,hdd,hval,T,q⟩:=q1
 obtain⟨u,rfl,rx⟩:=zCV r
 cases rx
 show wpAny _ _ (evalAll ((do let v <-eval (.Lambda params (.Subscript (.Name dn p1) (.Name pn p2) p3) lscope lpos) X.env;standAt pos;pure v)::[])) _ _ s1
 refine wpAny_evalAll_cons (zA (lam_ev I1 T hcode C hbm hfree hdef fun f pm cv ctv s2 H2 I2 sm T2 hfge hf hrec=>zA (wpAny_standAt (zF (wpAny_evalAll_nil ?_)))))
 show wpAny _ _ (call (.builtin "min") [.ref l] [(Str.ofString "key",.ref f)]) _ _ s2
 have keep2:∀b o,H1 b=some o->(∀ps,o ≠ .tbl ps)->H2 b=some o:=fun b o e ho=>by
  rcases sm b o e with ⟨ps,z⟩ | z
  . exact absurd z (ho ps)
  . exact z
 have hl2:H2 l=some (.lst (ns.map V.int)):=keep2 _ _ hl (by intro ps z;cases z)
 have hd2':H2 d=some (.dK kvs):=keep2 _ _ hdd (by intro ps z;cases z)
 obtain⟨_,its,nn,rv,ho⟩:=I2.hok l _ hl2
 obtain⟨hz,lo,vs,rel,od,es,ep,hod,hdr⟩:=zIu I2.hok hd2'
 have hI:IntsAre its ns:=zBh rv
 obtain⟨m,F0⟩:=I2.fr
 have notL:∀b o,H2 b=some o->b≠X.env.locals:=fun b o e z=>by rw[z,I2.free] at e;cases e
 have kp:∀(h':Heap)(own:lPO),Fr X.base X.env.locals h' m->News X.base X.env.locals h' (zD7 X.base s2.heap X.env.locals++own)->∀b o,b≠X.env.locals->s2.heap.get? b=some o->h'.get? b=some o:=fun h' own F' N' b o hb e'=>by
  cases qb:X.base.get? b with
  | some u=>
   have z:=I2.bk b u qb
   rw[e'] at z;cases z
   exact F'.keep b _ qb
  | none=>exact (N' (b,o) (zAO _ (zF2 hb qb e'))).1
 obtain⟨m',hn',hloc⟩:=I2.loc
 have em:m'=m:=zKe hn' F0.ns
 subst em
 obtain⟨ud,rd,lk⟩:=hloc j dn (.ref d) hN hσ (.inr (.inl hkd))
 cases (show ud=Value.ref d from rd)
 obtain⟨cc,hcc,oc,hoc,hdc⟩:∃cc,X.env.cells.lookup dn=some cc/\s2.heap.IsCell cc (some (.ref d)):=by
  rcases lk with ⟨z,_⟩ | ⟨_,cc,a,b⟩
  . rw[hkd] at z;cases z
  . exact⟨cc,a,b⟩
 have hcl:(zCn X.env.cells lscope.names []).lookup dn=some cc:=by
  obtain⟨c',hc'⟩:=zCk ⟨cc,hcc⟩ lscope.names [] (PySem.mem_of_lookup hdn)
  rcases zC7 _ _ hc' with z | z
  . simp at z
  . rw[hcc] at z;cases z;exact hc'
 have hsz0:X.env.locals<s1.heap.objs.size:=I1.lt
 have hfL:f≠X.env.locals:=Nat.ne_of_gt (zk hsz0 hfge)
 refine PyProof.Rows.kmk_min_letter (h₀:=X.base) (L:=X.env.locals) (m:=m') (news:=zD7 X.base s2.heap X.env.locals) (ns:=ns) val (I2.ok.hd hc) F0 zJw (fun h' F' N'=>?_) hI (List.length_pos_iff.mpr hne) (fun n tn h' tk own hn F' N'=>?_) (fun M tM h' tk F' N' hM hbest=>?_)
 . exact⟨_,kp h' [] F' (by rw[zt];exact N') l _ (notL _ _ hl2) ho,rfl,nn,rfl⟩
 . have kk:=kp h' own F' N'
   obtain⟨c1,o1,v1,t1,e1,ho1,hd1',hv1⟩:=id hrec
   subst e1
   have hc1L:c1≠X.env.locals\/True:=.inr trivial
   have rec':h'.CodeRec (.ref c1) (X.env.qual ++ "<lambda>"):=by
    refine⟨c1,o1,v1,t1,rfl,kk c1 o1 (fun z=>?_) ho1,hd1',hv1⟩
    obtain⟨oL,esL,epL,hoL,hdL,_⟩:=F0.ns
    rw[z,hoL] at ho1;cases ho1;rw[hdL] at hd1';cases hd1'
   refine wpAny_call (PySem.W.kla_callFunE hr.in1.depth (kk f _ hfL hf) rfl hco hgen rfl rec' ?_)
   rw[hbind]
   refine zF (wpAny_newFunctionEnv hcell (fun y hy=>?_) (fun h₁ hns hsb=>?_) hS)
   . obtain rfl:y=(pn,Value.int n tn):=zm.mp hy
     exact hpn
   . have hk₁:∀b o,h'.get? b=some o->h₁.get? b=some o:=fun b o e'=>hsb.extBut b o (ze (zU e')) (zH _ e')
     refine⟨I2.mod.nolimit.keeps fun b o e'=>hk₁ b o (F'.keep b o e'),?_⟩
     show codeAny _ _ (.expr (.Subscript (.Name dn p1) (.Name pn p2) p3) (PySem.W.envX (X.env.qual ++ "<lambda>") lscope h'.objs.size f (.ref c1) (zCn X.env.cells lscope.names []))) _ _
     refine PySem.W.kla_codeExpr (zHf PySem.F.slot_dict_getitem.lookup (fun _ _=>rfl) ?_)
     refine wpAny_Name (wpAny_loadName_free hS (show (PySem.W.envX (X.env.qual ++ "<lambda>") lscope h'.objs.size f (.ref c1) (zCn X.env.cells lscope.names [])).kindOf dn=some .free from hdn) hcl ⟨oc,hk₁ _ _ (kk cc oc (I2.cne dn cc hcc) hoc),hdc⟩ ?_ hd2) hd1
     refine wpAny_Name (wpAny_loadName_local hS (show (PySem.W.envX (X.env.qual ++ "<lambda>") lscope h'.objs.size f (.ref c1) (zCn X.env.cells lscope.names [])).kindOf pn=some .local from hpn) hns (v:=.int n tn) (by simp) ?_) hd3
     have dd:h₁.DictOf (zAW X.prog X.w) d vs:=⟨od,es,ep,hk₁ _ _ (kk d od (notL _ _ hd2') hod),hdr⟩
     refine⟨dd.typeIs,?_⟩
     obtain⟨w',hw,rw'⟩:=zEg.some_of (v:=.int (val n)) (o:=valueAt vs (Sum.inl n)) (by rw[<-hval n hn];exact rel.val (Sum.inl n))
     obtain⟨t',rfl⟩:=rw'
     refine wpAny_getItem_of (zEJ (k:=Sum.inl n) ⟨tn,rfl⟩) dd.mapOf hw ?_
     exact⟨h₁,_,t',rfl,rfl,⟨F'.ns.keeps hk₁,fun b o e'=>hk₁ b o (F'.keep b o e'),F'.above⟩,fun p hp=>⟨hk₁ _ _ (N' p hp).1,(N' p hp).2⟩⟩
 . have kk:=kp h' [] F' (by rw[zt];exact N')
   have I3:Inv X pins σ H2 { s2 with heap:=h',toks:=tk }:=by
    refine I2.step (g':=s2.gens) (d':=s2.drawn) (ch:=[]) (fun _ z=>nomatch z) (fun b o hb _ _ e' _=>kk b o hb e') (fun b o hb _ _ e' _=>⟨o.slots,kk b o hb e'⟩) (fun _ _ _ _ n=>n) (fun b o _ e'=>?_) (fun _ _ e'=>e') (fun _ _ _ e'=>e') (fun b ps e'=>⟨#[],by rw[e'];simp⟩) (fun mm hmm=>?_) ?_ I2.bare
    . by_cases hb:b=X.env.locals
      . obtain⟨oL,esL,epL,hoL,_⟩:=F'.ns
        exact⟨oL,by rw[hb];exact hoL⟩
      . exact⟨o,kk b o hb e'⟩
    . have:=zKe hmm F0.ns
      subst this
      exact F'.ns
    . intro b u e'
      refine (I2.hok b u e').stay (fun x v hx z=>kk x v ?_ z) (fun _ z=>z) fun _ _ z=>z
      rcases hx with z1 | z1
      . rw[z1];exact notL _ _ e'
      . exact notL _ _ z1
   exact⟨.int M,H2,I3,⟨tM,rfl⟩,q M H2 hM hbest sm T2⟩
end
theorem zIf {P:Program}{w:World}{K:PySem.W.Frag}{mg mb:sOV}{CX:CXT}{k:Nat}{fa a PT:Addr}{fd:FuncData}{x:Str}{sp:Sp}{s₁:Shared}{vs:List Value}{ns:List Int}
 (KX:K.In s₁.heap)(hns:s₁.heap.Ns mainGlobals mg)(hb:s₁.heap.Ns builtinsNs mb)(hbb:∀x:Str,x ≠ "__name__" -> mb x=bootBuiltins x) (hlim:s₁.heap.NoLimit)(hg:s₁.gens = #[])
 (ha:s₁.heap.get? a=some { cls:=.type "list",data:=.seq vs.toArray }) (hi:IntsAre vs ns)(hl:ns.length<=sizeLine)(hr:zCe k callerA)
 (hT:s₁.heap.get? PT=some (PySem.W.tabObj #[]))(hC:isCodeTable s₁.heap PT)(hK:PySem.W.noTabs K=true)(hbm:zJJ mg s₁.heap)
 (F:∀base:Heap,K.In base->base.Ns mainGlobals mg->zJJ mg base->zAK P w K mg base CX k fa fd [x] sp)(hbind:∀(s:Shared)(u:Value),BindsTo s fd ⟨[u],[]⟩ [(x,u)])
 (hsp:∀H:Hp,H PT=some (.tbl #[])->SqL K H a (ns.map V.int)->sp [.ref a] H (fun v _=>v = .bl true) fun _ _ _=>False)
 (hCX:∀H e s',CX [] H s₁ (fun _ _ _=>False) e s'->False) :
 codeAny (model P w) callerA (.call (.ref fa) ⟨[.ref a],[]⟩) (fun r s'=>r = .ok (.ret (.bool true))/\OldK s₁.heap s'.heap/\s'.os=s₁.os/\AllBare s'.gens) s₁:=by
 have rv:=zE5 hi
 have lenV:=hi.length
 have npa:PT≠a:=fun e=>by rw[e,ha] at hT;cases hT
 have kPT:K.lookup PT=none:=by
  cases q:K.lookup PT with
  | none=>rfl
  | some o=>
   have e:=KX PT o q
   rw[hT] at e
   cases e
   have h2:=zAj.mp hK (PT,_) (PySem.W.mem_of_lookupK q)
   exact absurd (show false=true from h2) zb
 have core:∀H:Hp,(∀b u,H b=some u->(b=PT/\u = .tbl #[])\/(b=a/\K.lookup a=none/\∃o xs,u = .frz o (.lst xs)))->H PT=some (.tbl #[])->SqL K H a (ns.map V.int)->HOk P w H s₁.heap ->
  codeAny (model P w) callerA (.call (.ref fa) ⟨[.ref a],[]⟩) (fun r s'=>r = .ok (.ret (.bool true))/\OldK s₁.heap s'.heap/\s'.os=s₁.os/\AllBare s'.gens) s₁:=by
  intro H hA hP hS hok
  have base_of:∀{b:Addr}{o:Obj},s₁.heap.get? b=some o->H b=none->(zJK s₁.heap H).get? b=some o:=fun e n=>zJ6 e n
  have noA:∀{b:Addr}{o:Obj},s₁.heap.get? b=some o->(∀ps,o.data ≠ .fields ps)->(∀ps n,o.data ≠ .seq ps n)->H b=none:=fun {b o} e d1 d2=>by
   cases q:H b with
   | none=>rfl
   | some u=>
    rcases hA b u q with ⟨rfl,_⟩ | ⟨rfl,_⟩
    . rw[hT] at e;cases e;exact absurd rfl (d1 #[])
    . rw[ha] at e;cases e;exact absurd rfl (d2 _ _)
  have nsK:∀{b:Addr}{m:sOV},s₁.heap.Ns b m->(zJK s₁.heap H).Ns b m:=fun {b m} ⟨o,es,ep,e,d,r⟩=>⟨o,es,ep,base_of e (noA e (fun ps z=>by rw[d] at z;cases z) (fun ps n z=>by rw[d] at z;cases z)),d,r⟩
  have hKb:K.In (zJK s₁.heap H):=fun b o e=>base_of (KX b o e) (by
   cases q:H b with
   | none=>rfl
   | some u=>
    rcases hA b u q with ⟨rfl,_⟩ | ⟨rfl,z,_⟩
    . rw[kPT] at e;cases e
    . rw[z] at e;cases e)
  have hBm:zJJ mg (zJK s₁.heap H):=by
   obtain⟨bm,ob,b1,b2,b3,b4,b5,b6⟩:=hbm
   exact⟨bm,ob,b1,b2,base_of b3 (noA b3 (fun ps z=>by rw[b6] at z;cases z) (fun ps n z=>by rw[b6] at z;cases z)),b4,b5,b6⟩
  have hM:Mod K mg (zJK s₁.heap H):=⟨hKb,nsK hns,⟨mb,nsK hb,hbb⟩,let ⟨mc,h1,h2⟩:=hlim;⟨mc,nsK h1,h2⟩⟩
  have e0:zMK P w K mg (zJK s₁.heap H) callerA [] s₁ H:=⟨rfl,hM,fun b o e=>zLw e,Nat.le_of_eq (zIn _ _),trivial,fun b hb=>absurd (show b∈([]:List Addr) from hb) (by simp),hok,.of_eq hg⟩
  refine codeAny_mono ((F _ hKb (nsK hns) hBm).run callerA [] s₁ H ⟨[.ref a],[]⟩ [.ref a] [.ref a] _ _ hr e0 (hbind s₁ (.ref a)) (.cons rfl .nil) (hsp H hP hS)) fun r s' h=>?_
  cases r with
  | error e=>exact (hCX H e s' h).elim
  | ok fl=>
   cases fl with
   | next=>exact False.elim h
   | brk=>exact False.elim h
   | cont=>exact False.elim h
   | ret u=>
    obtain⟨v,H',os,bare,un,hok',r',q⟩:=h
    have q':v = .bl true:=q
    subst q'
    obtain rfl:u=Value.bool true:=r'
    obtain⟨more,hPn⟩:=un.tbls PT _ hP
    have objP:s'.heap.get? PT=some { cls:=.none,data:=.fields (#[]++more) }:=hok' PT _ hPn
    have keep:∀b o,b≠PT->s₁.heap.get? b=some o->s'.heap.get? b=some o:=fun b o hb e=>by
     cases q:H b with
     | none=>exact un.keep b o e q (by intro z;exact absurd (show b∈([]:List Addr) from z) (by simp)) (by simp)
     | some u=>
      rcases hA b u q with ⟨z,_⟩ | ⟨_,_,ob,xs,z⟩
      . exact absurd z hb
      . subst z
        have z2:=un.frzs b ob _ q
        obtain⟨e1,_⟩:=hok b _ q
        obtain⟨e2,_⟩:=hok' b _ z2
        rw[e] at e1;cases e1
        exact e2
    refine⟨rfl,⟨fun b o e=>?_,fun b o e=>?_⟩,os,bare⟩
    . by_cases hb:b=PT
      . subst hb
        rw[hT] at e;cases e
        exact .inr (.inl ⟨hC,rfl,#[],more,rfl,objP⟩)
      . exact .inl (keep b o hb e)
    . by_cases hb:b=PT
      . rw[hb];exact⟨_,objP⟩
      . exact⟨o,keep b o hb e⟩
 have okP:∀H:Hp,zBe P w H s₁.heap PT (.tbl #[]):=fun H=>hT
 cases hk:K.lookup a with
 | some o=>
  have e:=KX a o hk
  rw[ha] at e
  cases e
  refine core (fun b=>if b=PT then some (.tbl #[]) else none) (fun b u z=>?_) (if_pos rfl) (.inr ⟨_,vs.toArray,_,hk,rfl,rfl,rfl,by rw[zM,lenV];exact hl,by simpa using rv⟩) (fun b u z=>?_)
  all_goals
   have z':(if b=PT then some (HO.tbl #[]) else none)=some u:=z
   by_cases hb:b=PT
   . rw[if_pos hb] at z';cases z'
     first
      | exact .inl ⟨hb,rfl⟩
      | (subst hb;exact okP _)
   . rw[if_neg hb] at z';cases z'
 | none=>
  refine core (fun b=>if b=PT then some (.tbl #[]) else if b=a then some (.frz { cls:=.type "list",data:=.seq vs.toArray } (.lst (ns.map V.int))) else none) (fun b u z=>?_) (if_pos rfl)
   (.inl (.inr ⟨{ cls:=.type "list",data:=.seq vs.toArray },by show (if a=PT then _ else if a=a then _ else _)=_;rw[if_neg npa.symm,if_pos rfl]⟩)) (fun b u z=>?_)
  all_goals
   have z':(if b=PT then some (HO.tbl #[]) else if b=a then some (.frz { cls:=.type "list",data:=.seq vs.toArray } (.lst (ns.map V.int))) else none)=some u:=z
   by_cases hb:b=PT
   . rw[if_pos hb] at z';cases z'
     first
      | exact .inl ⟨hb,rfl⟩
      | (subst hb;exact okP _)
   . rw[if_neg hb] at z'
     by_cases hba:b=a
     . rw[if_pos hba] at z';cases z'
       first
        | exact .inr ⟨hba,hk,_,_,rfl⟩
        | (subst hba;exact⟨ha,by rw[zD];exact hl,vs,_,rv,ha⟩)
     . rw[if_neg hba] at z';cases z'
variable {x:Str}
theorem walk_T {l:PySem.W.OpenLaw}{n k:Nat}{q:Program}{loose:List Str}{XP:(Str->Option Value)->Heap->Prop}{YP:World->Heap->Prop}{d:DefRec}{K:Params->PySem.W.Frag}{CX:CXT}{sp:PySem.W.Frag->Addr->Sp}{tn:Str}
 (hn:l.most=some n)(hn2:n<=sizeLine)(hdf:d.params.defaults=[])(hr:zCe k callerA)(hrec:∃dn,(recsOf q).find? (fun e=>e.name==tn)=some dn)
 (hY:∀(w:World)(h:Heap),YP w h->(K w.params).In h)
 (F:∀(w:World)(mg:sOV)(fa:Addr)(h:Heap),(K w.params).In h->h.Ns mainGlobals mg->mg d.name=some (.ref fa) ->
  ∃(fd:FuncData)(c PT:Addr),PySem.W.tabIn (K w.params) tn=some (c,PT)/\PySem.W.noTabs (K w.params)=true/\(∀(s:Shared)(u:Value),BindsTo s fd ⟨[u],[]⟩ [(x,u)]) /\
   ∀base:Heap,(K w.params).In base->base.Ns mainGlobals mg->zJJ mg base->zAK l.prog w (K w.params) mg base CX k fa fd [x] (sp (K w.params) PT))
 (hsp:∀(K:PySem.W.Frag)(PT:Addr)(H:Hp)(a:Addr)(ns:List Int),ns.length<=n->H PT=some (.tbl #[])->SqL K H a (ns.map V.int)->sp K PT [.ref a] H (fun v _=>v = .bl true) fun _ _ _=>False)
 (hCX:∀(H:Hp)(s:Shared)(e:Value)(s':Shared),CX [] H s (fun _ _ _=>False) e s'->False) :
 PySem.W.WalkO q loose XP YP l.row.toRowW d [] (fun f vs=>PySem.call f vs):=by
 refine Att.attach_call hn hdf fun w s₀ s₁ mg mb fa o pm cd doc a vs ns G Y ho hd hcd hmg hobj hints hlen hg=>?_
 have KX:=hY w _ Y
 obtain⟨fd,c,PT,htab,hnt,hb,hF⟩:=F w mg fa _ KX G.T.g hmg
 obtain⟨dn,hdn⟩:=hrec
 obtain⟨C,hPT⟩:=PySem.W.tab_of G.T KX hdn htab
 exact zIf KX G.T.g G.T.b G.T.builtins G.T.nolimit hg hobj hints (zAD hlen hn2) hr hPT (C.tab hPT).isCodeTable hnt G.T.bmain hF hb (fun H hP hS=>hsp _ PT H a ns hlen hP hS) fun H e s'=>hCX H s₁ e s'
structure zKK (K:PySem.W.Frag)(x qual:Str)(st:Stmt)(f:Addr)(fd:FuncData)(c:Addr):Prop where
 ex:∃(oc:Value)(od:Option Addr)(kV doc pm:Value)(an:Option Addr)(ct:Value)(osl:Array (Option Value)),
  fd=PySem.W.fnOf x qual (defArgs st) (defBody st) (defScope st) .none kV doc pm an (.ref c) ct/\K.lookup f=some ⟨oc,od,.func fd,osl⟩/\PySem.W.codeIn K (.ref c) qual=true
 kp:PySem.W.keepIn K (.ref f)=true
variable {K:PySem.W.Frag}{qual:Str}{st:Stmt}{f c:Addr}
theorem zKK.fn {fd:FuncData}(F:zKK K x qual st f fd c):Fun K x qual st f fd:=by
 obtain⟨oc,od,kV,doc,pm,an,ct,osl,h⟩:=F.ex
 exact⟨⟨oc,od,kV,doc,pm,an,.ref c,ct,osl,h⟩,F.kp⟩
theorem zKK.ok {P:Program}{w:World}{mg:sOV}{base:Heap}{fd:FuncData}{N ps:List Str}{k:Nat}{sp:Sp}(F:zKK K x qual st f fd c)(S:zo N ps (defScope st))(len:∀vs H Q E,sp vs H Q E->vs.length=ps.length)
 (hbody:∀(A:Around)(outer:List Env)(s:Shared)(H:Hp)(vs:List V)(Q:VK)(E:XK),zCe k (A.deeper (envOfC qual (defScope st) s.heap.objs.size f (.ref c)))->sp vs H Q E ->
  ∃t,PSs (zKo CX0 P w K mg base N qual (defScope st) f (.ref c) A outer s H E).nox (defBody st) t/\t { nx:=fun _ H'=>Q .non H',rt:=Q } (start N vs) H):zAK P w K mg base CX0 (k+1) f fd ps sp:=by
 obtain⟨oc,od,kV,doc,pm,an,ct,osl,rfl,lk,hcd⟩:=F.ex
 refine fn_of lk hcd S len fun A outer s H vs Q E hr hsp=>?_
 obtain⟨t,h,q⟩:=hbody A outer s H vs Q E hr hsp
 exact⟨t,h.nox,q⟩
theorem zL4 {oc:Value}{od an:Option Addr}{osl:Array (Option Value)}{kV doc pm ct:Value}(l:K.lookup f=some ⟨oc,od,.func (PySem.W.fnOf x qual (defArgs st) (defBody st) (defScope st) .none kV doc pm an (.ref c) ct),osl⟩)
 (hc:PySem.W.codeIn K (.ref c) qual=true)(k:PySem.W.keepIn K (.ref f)=true):zKK K x qual st f (PySem.W.fnOf x qual (defArgs st) (defBody st) (defScope st) .none kV doc pm an (.ref c) ct) c:=⟨⟨oc,od,kV,doc,pm,an,ct,osl,rfl,l,hc⟩,k⟩
section
variable {κ:Type} [DecidableEq κ]
theorem zJ0 {kvs:List (κ×V)}{k:κ}{v:V}{kv:κ×V}(h:kv∈zCH kvs k v):kv∈kvs\/kv=(k,v):=by
 unfold zCH at h
 split at h
 . obtain⟨q,hq,e⟩:=zq.mp h
   by_cases hk:q.1=k
   . rw[if_pos hk] at e;rw[<-e,hk];exact .inr rfl
   . rw[if_neg hk] at e;rw[<-e];exact .inl hq
 . rcases zp.mp h with q | q
   . exact .inl q
   . exact .inr (zm.mp q)
theorem nd_put {kvs:List (κ×V)}{k:κ}{v:V}(h:(kvs.map (·.1)).Nodup):((zCH kvs k v).map (·.1)).Nodup:=by
 cases e:zBz kvs k with
 | none=>exact zIX v h e
 | some x=>
  have ha:(kvs.any fun kv=>decide (kv.1=k))=true:=by rw[zBs,e];rfl
  unfold zCH
  rw[if_pos ha]
  have e3:(kvs.map fun kv=>if kv.1=k then (kv.1,v) else kv).map (·.1)=kvs.map (·.1):=by
   rw[List.map_map]
   refine zBo fun kv _=>?_
   show (if kv.1=k then (kv.1,v) else kv).1=kv.1
   split <;> rfl
  rw[e3];exact h
theorem zDb (k j:κ):∀kvs:List (κ×V),zBz (zBy kvs k) j=if j=k then none else zBz kvs j
 | []=>by show (none:Option V)=_;split <;> rfl
 | p::r=>by
  have ih:=zDb k j r
  by_cases e:p.1=k
  . rw[zDz e,ih]
    by_cases hj:j=k
    . rw[if_pos hj,if_pos hj]
    . rw[if_neg hj,if_neg hj,zBE fun z=>hj (z.symm.trans e)]
  . rw[zC6 e]
    by_cases hj:p.1=j
    . rw[zBK hj,zBK hj,if_neg fun z=>e (hj.trans z)]
    . rw[zBE hj,zBE hj,ih]
end
noncomputable def unkW:Key->Int
 | .inl i=>i
 | .inr _=>0
structure WD (n:Int)(kvs:List (Key×V))(wt:Int->Option Int):Prop where
 sh:∀kv∈kvs,∃p d,kv=(Sum.inl p,V.int d)/\0<=p/\p<n
 nd:(kvs.map (·.1)).Nodup
 at_:∀p:Int,zBz kvs (Sum.inl p)=(wt p).map V.int
noncomputable def zEI (kvs:List (Key×V)):List Int:=kvs.map fun kv=>unkW kv.1
variable {n:Int}{kvs:List (Key×V)}{wt:Int->Option Int}
theorem WD.keys (h:WD n kvs wt):kvs.map (·.1)=(zEI kvs).map Sum.inl:=by
 unfold zEI
 rw[List.map_map]
 refine zBo fun kv hkv=>?_
 obtain⟨p,d,e,_⟩:=h.sh kv hkv
 rw[e];rfl
theorem WD.nds (h:WD n kvs wt):(zEI kvs).Nodup:=by
 have e:=h.nd
 rw[h.keys,List.Nodup,zAT] at e
 exact e.imp fun h e'=>h (by rw[e'])
theorem WD.len (h:WD n kvs wt)(h0:0<=n):(kvs.length:Int)<=n:=by
 have:=WM.nd_len (n:=n.toNat) h.nds fun x hx=>by
  obtain⟨kv,hkv,e⟩:=zq.mp hx
  obtain⟨p,d,e2,h1,h2⟩:=h.sh kv hkv
  have:x=p:=by rw[<-e,e2];rfl
  omega
 unfold zEI at this
 rw[zD] at this
 omega
variable {p:Int}
theorem WD.mem (h:WD n kvs wt):p∈zEI kvs↔∃e,wt p=some e:=by
 have e:p∈zEI kvs↔(Sum.inl p:Key)∈kvs.map (·.1):=by
  rw[h.keys]
  constructor
  . intro m;exact zq.mpr ⟨p,m,rfl⟩
  . intro m
    obtain⟨q,hq,e⟩:=zq.mp m
    cases e;exact hq
 rw[e]
 have ha:=h.at_ p
 constructor
 . intro m
   cases hw:wt p with
   | some d=>exact⟨d,rfl⟩
   | none=>rw[hw] at ha;exact absurd m (zGI ha)
 . rintro ⟨d,hw⟩
   rw[hw] at ha
   exact zKt ha
theorem WD.one {s:Int}(h0:0<=s)(h1:s<n):WD n [(Sum.inl s,V.int 0)] (fun q=>if q=s then some 0 else none):=by
 refine⟨fun kv hkv=>?_,by simp,fun p=>?_⟩
 . rw[zm.mp hkv];exact⟨s,0,rfl,h0,h1⟩
 . by_cases e:p=s
   . rw[if_pos e,e];exact zBK rfl
   . rw[if_neg e];exact (zBE fun z=>e (Sum.inl.inj z).symm).trans zEh
theorem WD.put (h:WD n kvs wt){d:Int}(h0:0<=p)(h1:p<n):WD n (zCH kvs (Sum.inl p) (.int d)) (fun q=>if q=p then some d else wt q):=by
 refine⟨fun kv hkv=>?_,nd_put h.nd,fun q=>?_⟩
 . rcases zJ0 hkv with z | z
   . exact h.sh kv z
   . exact⟨p,d,z,h0,h1⟩
 . rw[zCt]
   by_cases e:q=p
   . rw[if_pos e,if_pos (by rw[e])];rfl
   . rw[if_neg e,if_neg fun z=>e (Sum.inl.inj z)];exact h.at_ q
theorem WD.drop (h:WD n kvs wt):WD n (zBy kvs (Sum.inl p)) (fun q=>if q=p then none else wt q):=by
 refine⟨fun kv hkv=>h.sh kv (zD0 hkv),zDY h.nd,fun q=>?_⟩
 rw[zDb]
 by_cases e:q=p
 . rw[if_pos e,if_pos (by rw[e])];rfl
 . rw[if_neg e,if_neg fun z=>e (Sum.inl.inj z)];exact h.at_ q
noncomputable def oV:Option Int->V
 | none=>.non
 | some d=>.int d
theorem zGf {n:Nat}{i:Int}(h0:0<=i)(h1:i<n):ixN n i=some i.toNat:=by
 unfold ixN
 rw[if_pos h0,if_pos h1]
theorem zAn {α:Type}{xs:List α}{i:Int}{v:α}(h0:0<=i)(h:xs[i.toNat]? = some v):atI xs i=some v:=by
 have:=zCs h
 rwa [Int.toNat_of_nonneg h0] at this
theorem SmT.get (k:SmT H H'){b:Addr}(e:H b=some o)(h:∀ps,o ≠ .tbl ps):H' b=some o:=by
 rcases k b o e with ⟨ps,z⟩ | z
 . exact absurd z (h ps)
 . exact z
theorem SmT.chg {l:Addr}(k:SmT H H')(h:H l=none):SmT H (upd H' l o):=fun b u e=>by
 rcases k b u e with z | z
 . exact .inl z
 . right
   rw[zd (zl e h)];exact z
theorem zCU.chg {P l:Addr}{xs:List V}(T:zCU H P pos q)(h:H l=some (.lst xs)):zCU (upd H l o) P pos q:=by
 obtain⟨ps,hps,_⟩:=id T
 refine T.keep (fun u hu=>?_) fun c φ hc=>?_
 . rw[zd (zAp hps h (by intro z;cases z))];exact hu
 . rw[zd (zAp hc h (by intro z;cases z))];exact hc
theorem zJ5 {xs ys:List Int}:((List.range (min xs.length ys.length)).all (fun j=>xs.getD j 0==ys.getD j 0) && xs.length==ys.length)=decide (xs=ys):=by
 by_cases h:xs=ys
 . subst h;simp
 . rw[zY h]
   by_cases hl:xs.length=ys.length
   . have:∃j,j<xs.length/\xs.getD j 0≠ys.getD j 0:=by
      apply zAQ
      intro hn
      refine h (List.ext_getElem hl fun j h1 h2=>?_)
      apply zAQ
      intro hne
      exact hn ⟨j,h1,by simpa [zE,h1,h2] using hne⟩
     obtain⟨j,hj,hne⟩:=this
     rw[Bool.and_eq_false_iff]
     left
     rw[List.all_eq_false]
     exact⟨j,by rw[zBg];omega,by simpa using hne⟩
   . simp[hl]
section
variable {X:Cx}
noncomputable def rEqT (K:PySem.W.Frag)(neg:Bool):R2:=fun x y H Q=>∃(a b:Addr)(xs ys:List Int),x = .ref a/\y = .ref b/\SqT K H a (xs.map V.int)/\SqT K H b (ys.map V.int)/\Q (.bl (if neg then !decide (xs=ys) else decide (xs=ys))) H
theorem eqAts {A:Around}{us ws:List Value}{xs ys:List Int}(h1:IntsAre us xs)(h2:IntsAre ws ys)(j:Nat)(a:j<us.toArray.size)(b:j<ws.toArray.size):SeqAt.EqAt A s us.toArray[j] ws.toArray[j] (xs.getD j 0==ys.getD j 0):=by
 have l1:=h1.length
 have l2:=h2.length
 rw[zM] at a b
 obtain⟨n,hn⟩:∃n,xs[j]? = some n:=⟨_,zB (by omega)⟩
 obtain⟨m,hm⟩:∃m,ys[j]? = some m:=⟨_,zB (by omega)⟩
 obtain⟨t,ht⟩:=h1.get j n hn
 obtain⟨u,hu⟩:=h2.get j m hm
 have e1:us.toArray[j] = .int n t:=by
  rw[zB a] at ht
  simpa using zR ht
 have e2:ws.toArray[j] = .int m u:=by
  rw[zB b] at hu
  simpa using zR hu
 rw[e1,e2,zE,zE,hn,hm]
 exact SeqAt.EqAt.int_int n t m u
theorem op_neT (hu:X.A.units<cLine):OpR X (compareOp .NotEq) (rEqT X.K true):=by
 intro pins s σ H x y v u Q I rx ry h
 obtain⟨a,b,xs,ys,rfl,rfl,ha,hb,q⟩:=h
 cases rx
 cases ry
 obtain⟨its,r,pl,hz⟩:=I.tuple ha
 obtain⟨its2,r2,pl2,hz2⟩:=I.tuple hb
 have h1:=zBh r
 have h2:=zBh r2
 refine PySem.EqBoolInt.of_rcne (SeqAt.RcNeAt.tuples (e:=fun j=>xs.getD j 0==ys.getD j 0) pl pl2 hu (fun j a b=>eqAts h1 h2 j a b)) ⟨.bl _,H,I,rfl,?_⟩
 rw[zM,zM,h1.length,h2.length,zJ5]
 exact q
noncomputable def rNeT (K:PySem.W.Frag):R2:=fun x y H Q=>∃(a b:Addr)(xs ys:List Int),x = .ref a/\y = .ref b/\SqT K H a (xs.map V.int)/\SqT K H b (ys.map V.int)/\Q (.bl (!decide (xs=ys))) H
theorem zLY (hu:X.A.units<cLine):OpR X (compareOp .NotEq) (rNeT X.K):=fun pins s σ H x y v u Q I rx ry h=>op_neT hu pins s σ H x y v u Q I rx ry h
end
noncomputable def zE4 (scope:Scope)(yc:Str)(cl:List (Str×Addr))(C:Addr)(env:Env):Env:=
 { scope:=relabel scope env,locals:=C,globals:=env.globals,cells:=(yc,C+1)::cl,qual:=env.qual,func:=none,code:=env.code,frame:=env.frame,builtins:=env.builtins }
variable {cl:List (Str×Addr)}
theorem zJv {M:Model}{A:Around}{E:vSP}{scope:Scope}{globals:Addr}{yc:Str}{env:Env}{Q:Env->Shared->Prop}(hcf:∀n acc,cellsFrom n scope.names acc=(yc,n)::acc)
 (hQ:∀h':Heap,h'.Ns s.heap.objs.size (fun _=>none)->(∀b o,s.heap.get? b=some o->h'.get? b=some o)->h'.IsCell (s.heap.objs.size+1) none ->
  Q (newEnv scope s.heap.objs.size globals ((yc,s.heap.objs.size+1)::cl) qual none .none (some env) builtinsNs) { s with heap:=h',toks:=s.toks }) :
 wpAny M A (newFunctionEnv scope globals cl [] qual none .none (some env)) Q E s:=by
 simp only[newFunctionEnv,Option.isSome_some,if_true]
 refine zA (wpAny_alloc ?_)
 refine zA (wpAny_layCells _ (fun name kind cells=>by cases hkc:kind==NameKind.cell <;> simp[hkc]) _ _ _ _ ?_)
 have ok:=cellsFrom_ok scope.names (s.heap.push { cls:=.type "dict",data:=.dict #[] }) (s.heap.objs.size+1) [] ⟨fun _ _ hm=>(nomatch hm),zBJ⟩ (by rw[zAq];exact zK _)
 rw[zAq] at ok
 rw[show ({ s with heap:=s.heap.push { cls:=.type "dict",data:=.dict #[] } }:Shared).heap.objs.size=s.heap.objs.size+1 from zAq ..]
 rw[hcf] at ok ⊢
 refine zA ?_
 rw[List.forIn_nil]
 refine zF (zF ?_)
 exact hQ _ ((Heap.Ns.new s.heap (.type "dict")).keeps (pushCells_keeps _ _)) (fun b o e=>pushCells_keeps _ _ b o (zH _ e)) (ok.empty _ _ za).1
noncomputable def zCE (X:Cx)(pl:lPO)(N':List Str)(scope:Scope)(yc:Str)(fp:List Addr)(s3:Shared)(H3:Hp):Cx where
 prog:=X.prog
 w:=X.w
 K:=X.K
 mg:=X.mg
 base:=X.base
 A:=X.A
 N:=N'
 s₀:=s3
 H₀:=H3
 env:=zE4 scope yc (zCn X.env.cells scope.names []) s3.heap.objs.size X.env
 outer:=X.stack
 stack:=X.stack
 ex:=fp
 fn:=fun x=>x==yc
 calm:=X.calm
 pn:=pl
 xe:=fun _ _=>False
structure zDN (X:Cx)(scope:Scope)(yc:Str):Prop where
 kind:scope.kind = .function
 cf:∀n acc,cellsFrom n scope.names acc=(yc,n)::acc
 own:scope.names.lookup yc=some .cell
 one:∀y∈scope.names,y.2 = .cell->y.1=yc
 names:∀y∈scope.names,y.2 = .local->scope.names.lookup y.1=some .local
 free:∀y∈scope.names,y.2 = .free->X.env.kindOf y.1=some .cell
section
variable {X:Cx}{pins:lPO}{σ:St}{H3:Hp}{s3:Shared}{scope:Scope}{fp:List Addr}{N' own cn:List Str}{ci:List Nat}{cv:List V}{yc:Str}
theorem look1 {n:Addr}(h:((yc,n)::cl).lookup x=some c):(x=yc/\c=n)\/(x≠yc/\cl.lookup x=some c):=by
 rw[zA1] at h
 cases hx:x==yc with
 | true=>rw[hx] at h;cases h;exact .inl ⟨by simpa using hx,rfl⟩
 | false=>rw[hx] at h;exact .inr ⟨by simpa using hx,h⟩
theorem zGe {n:Addr}(h:x≠yc):((yc,n)::cl).lookup x=cl.lookup x:=by
 rw[zA1,show (x==yc)=false by simpa using h]
theorem zFg (ok:X.Ok)(S:zDN X scope yc){n:Addr}(h:(relabel scope X.env).names.lookup x=some .cell\/(relabel scope X.env).names.lookup x=some .free) :
 ∃c,((yc,n)::zCn X.env.cells scope.names []).lookup x=some c:=by
 by_cases hxy:x=yc
 . subst hxy
   exact⟨n,by rw[zA1,beq_self_eq_true]⟩
 rw[zGe hxy]
 have e:(relabel scope X.env).names.lookup x=(scope.names.lookup x).map fun k=>if (k==NameKind.free && X.env.scope.kind == .function && X.env.kindOf x==some .cell)=true then NameKind.cell else k:=zBl scope.names
 have hf:scope.names.lookup x=some .free:=by
  cases q:scope.names.lookup x with
  | none=>rw[e,q] at h;simp at h
  | some k=>
   by_cases hk:k = .free
   . rw[hk]
   . have hb:(k==NameKind.free)=false:=by simpa using hk
     rw[e,q] at h
     simp only[zAi,hb,Bool.false_and,zAx,if_false,Option.some.injEq] at h
     rcases h with h | h
     . exact absurd (S.one _ (PySem.mem_of_lookup q) h) hxy
     . exact absurd h hk
 exact zCk (ok.has x (.inl (S.free _ (PySem.mem_of_lookup hf) rfl))) scope.names [] (PySem.mem_of_lookup hf)
theorem zCj (I:Inv X pins σ H3 s3){n:Addr}(h:((yc,n)::zCn X.env.cells scope.names []).lookup x=some c):(x=yc/\c=n)\/(x≠yc/\X.env.cells.lookup x=some c/\c<s3.heap.objs.size):=by
 rcases look1 h with z | ⟨z,e⟩
 . exact .inl z
 . have e':=zCb e
   obtain⟨v,o,ho,_⟩:=I.cell x c e'
   exact .inr ⟨z,e',zU ho⟩
theorem zKE (I:Inv X pins σ H3 s3)(S:zDN X scope yc)(f:∀b∈fp,zGG X pins H3 b)(fz:∀b∈fp,b<s3.heap.objs.size):(zCE X (X.pn++pins) N' scope yc fp s3 H3).Ok where
 mod:=I.ok.mod
 kind:=S.kind
 glob:=I.ok.glob
 blt:=I.ok.blt
 above:=zK _
 inj:=fun x y c h1 h2=>by
  rcases zCj I h1 with ⟨a,b⟩ | ⟨a,b,d⟩ <;> rcases zCj I h2 with ⟨a',b'⟩ | ⟨a',b',d'⟩
  . rw[a,a']
  . rw[b] at d';exact absurd d' (Nat.not_lt.mpr (zBN _))
  . rw[b'] at d;exact absurd d (Nat.not_lt.mpr (zBN _))
  . exact I.ok.inj x y c b b'
 has:=fun x h=>zFg I.ok S h
 cab:=fun x c h e=>by
  have hx:x=yc:=by simpa using (show (x==yc)=true from h)
  rcases zCj I e with ⟨_,b⟩ | ⟨a,_⟩
  . rw[b];exact zBN _
  . exact absurd hx a
 hd:=I.ok.hd
 frames:=I.ok.frames
 stk:=.inl rfl
 exf:=fun b hb=>⟨ze (fz b hb),fun x c h=>by
  have:=fz b hb
  rcases zCj I h with ⟨_,d⟩ | ⟨_,d,_⟩
  . intro z
    rw[<-z,d] at this;exact absurd this (Nat.not_lt.mpr (zBN _))
  . exact (f b hb).2.2.2.2.1 x c d⟩
 bs:=I.bs
 bsz:=zAD I.ok.bsz I.sz
 noex:=fun b o e hb=>by
  rcases (f b hb).2.2.2.1 with z | z
  . exact I.ok.noex b o e z
  . exact absurd (zk (zU e) (zAD I.ok.bsz z)) (zBX _)
 exfs:=fun b hb z=>by
  rcases zc.mp (I.stkSub b z) with q | q
  . exact (f b hb).2.1 q
  . exact (f b hb).2.2.1 q
 funs:=I.stack
 frf:=I.stkFree
theorem zI2 {h1:Heap}{t:Nat}(I:Inv X pins σ H3 s3)(S:zDN X scope yc)(f:∀b∈fp,zGG X pins H3 b)(fz:∀b∈fp,b<s3.heap.objs.size)
 (hN:N'=own++cn)(hc:zEB X scope cn ci)(hv:ci.map (fun j=>σ[j]?)=cv.map fun v=>some (some v))(hl:cn.length=ci.length)
 (hns:h1.Ns s3.heap.objs.size (fun _=>none))(hk:∀b o,s3.heap.get? b=some o->h1.get? b=some o)(hcl:h1.IsCell (s3.heap.objs.size+1) none) :
 Inv (zCE X (X.pn++pins) N' scope yc fp s3 H3) [] (List.replicate own.length none++cv.map some) H3 { s3 with heap:=h1,toks:=t }:=by
 have lenv:cv.length=ci.length:=by
  have:=congrArg List.length hv
  simpa using this.symm
 refine⟨zKE I S f fz,rfl,I.bare,Un.kept hk,⟨_,hns,fun i x v e1 e2 e3=>?_⟩,fun x c e=>?_,I.hok.fresh (zK _),fun x c e=>?_,fun p hp=>?_,I.hok.kept hk,?_⟩
 . -- a captured name
   have hi:own.length<=i:=by
    by_cases hi:own.length<=i
    . exact hi
    . rw[zZ (by simpa using hi),zBG] at e2
      split at e2 <;> cases e2
   rw[zT (by simpa using hi),zAH,zN] at e2
   have e1':(own++cn)[i]? = some x:=by rw[<-hN];exact e1
   rw[zT hi] at e1'
   obtain⟨j,hj,hNj,hkx,hfr⟩:=hc.get e1'
   have hcv:cv[i-own.length]? = some v:=by
    cases q:cv[i-own.length]? with
    | none=>rw[q] at e2;cases e2
    | some v'=>rw[q] at e2;cases e2;rfl
   have hσ:σ[j]? = some (some v):=by
    have:=congrArg (fun l:List (Option (Option V))=>l[i-own.length]?) hv
    simp only[zN,hj,hcv,zAi,Option.some.injEq] at this
    exact this
   obtain⟨m,_,hl'⟩:=I.loc
   obtain⟨u,r,q⟩:=hl' j x v hNj hσ (.inr (.inl hkx))
   have hkd:(relabel scope X.env).names.lookup x=some .cell\/(relabel scope X.env).names.lookup x=some .free:=by
    have e:(relabel scope X.env).names.lookup x=(scope.names.lookup x).map fun k=>if (k==NameKind.free && X.env.scope.kind == .function && X.env.kindOf x==some .cell)=true then NameKind.cell else k:=zBl scope.names
    rw[e,hfr,zAi]
    by_cases cc:(NameKind.free==NameKind.free && X.env.scope.kind == .function && X.env.kindOf x==some .cell)=true
    . rw[if_pos cc];exact .inl rfl
    . rw[if_neg cc];exact .inr rfl
   obtain⟨c',hc'⟩:=zFg (n:=s3.heap.objs.size+1) I.ok S hkd
   have hxy:x≠yc:=fun z=>by rw[z,S.own] at hfr;cases hfr
   refine⟨u,r,.inr ⟨hkd,c',hc',?_⟩⟩
   rcases q with ⟨z,_⟩ | ⟨_,c,hcc,o,ho,hd⟩
   . rw[hkx] at z;cases z
   . have e:c=c':=zR (hcc.symm.trans (zCb ((zGe hxy).symm.trans hc')))
     subst e
     exact⟨o,hk c o ho,hd⟩
 . rcases zCj I e with ⟨_,d⟩ | ⟨_,d,_⟩
   . rw[d];exact⟨_,hcl⟩
   . obtain⟨v,o,ho,hd⟩:=I.cell x c d
     exact⟨v,o,hk c o ho,hd⟩
 . rcases zCj I e with ⟨_,d⟩ | ⟨_,d,_⟩
   . rw[d];exact I.hok.fresh (zBN _)
   . exact I.freeC x c d
 . have hp':p∈X.pn++pins:=by rw[zt] at hp;exact hp
   obtain⟨e,n,ne,nf,d⟩:=I.pin p hp'
   refine⟨hk _ _ e,n,ze (zU e),fun z=>?_,d⟩
   rcases zc.mp (I.stkSub p.1 z) with q | q
   . exact ne q
   . exact nf q
 . show (List.replicate own.length none++cv.map some).length=N'.length
   rw[hN,zP,zP,zAH,zD,lenv,hl]
theorem zHQ {elt target iter:Expr}{ifs:List Expr}{cpos:Pos}{wi:TI}{g:TG}{ti:TT}{te:TE}{use:Option (Value->Sem Unit)}{Q0:vSP}{Q:VK}(hcalm:X.calm=true)(S:zDN X scope yc)(hc:zEB X scope cn ci)(hl:cn.length=ci.length)
 (hi:PI X target iter wi)(hg:∀pl fp s3 H3,PG (zCE X pl (own++cn) scope yc fp s3 H3) target g)(ht:∀pl fp s3 H3,PTs (zCE X pl (own++cn) scope yc fp s3 H3) ifs ti)
 (he:∀pl fp s3 H3,PE (zCE X pl (own++cn) scope yc fp s3 H3) elt te)(hs:∀x,foldedSetIterable iter X.env x=pure x)(I:Inv X pins σ H s)(h:zHe own.length ci wi g ti te σ H Q)
 (fin:∀(D C:Addr)(H5:Hp)(s6:Shared)(m6:sOV),Inv X pins σ H5 s6->s6.heap.Ns C m6->H5 C=none->C≠X.env.locals->X.s₀.heap.objs.size<=C->(∀x c,X.env.cells.lookup x=some c->c≠C) ->
  (∀p∈X.pn++pins,p.1≠C)->Q (.ref D) H5->compPost (model X.prog X.w) X.A X.xe use Q0 (.ref D) C (.ok .next) s6) :
 wpAny (model X.prog X.w) X.A (comprehension (.ListComp elt [⟨target,iter,ifs,0⟩] scope pos) scope X.env cpos (newList []) false (eval iter X.env) use) Q0 X.xe s:=by
 have hcl:closureFor scope X.env=pure (zCn X.env.cells scope.names []):=zCO fun y hy hf=>I.ok.has y.1 (.inl (S.free y hy hf))
 refine wpAny_comprehension_free (use:=use) rfl hs hcl S.kind S.names ?_
 refine thn (hi pins s σ H _ I h) fun v s1 h1=>thn h1 fun itv s2 h2=>?_
 obtain⟨it,fp,tn,J,H2,e,I2,T,st2,f2,cv,hv,hD⟩:=h2
 subst e
 have lenv:cv.length=ci.length:=by
  have:=congrArg List.length hv
  simpa using this.symm
 have I3:=I2.lnew (ys:=[]) (its:=[]) (t':=s2.toks) .nil (zh _)
 obtain⟨W,⟨m0,w0⟩,turn⟩:=hD s2.heap.objs.size I2.fresh
 have fz:∀b∈fp,b<s2.heap.objs.size:=fun b hb=>by
  obtain⟨o,ho,_⟩:=T.obj _ _ st2 b hb
  exact zU ho
 refine zAk ?_
 refine zJv S.cf (fun h4 hns4 hk4 hc4=>?_)
 generalize hs3:({ s2 with heap:=s2.heap.push { cls:=.type "list",dict:=none,data:=.seq ([]:List Value).toArray } }:Shared)=s3 at hns4 hk4 hc4 ⊢
 have I3':Inv X pins σ (upd H2 s2.heap.objs.size (.lst [])) s3:=by rw[<-hs3];exact I3
 have hsz3:s3.heap.objs.size=s2.heap.objs.size+1:=by rw[<-hs3];exact zAq ..
 have k23:∀b o,s2.heap.get? b=some o->s3.heap.get? b=some o:=fun b o e=>by rw[<-hs3];exact zH _ e
 have k34:∀b o,s3.heap.get? b=some o->h4.get? b=some o:=hk4
 have nD:∀b∈fp,b≠s2.heap.objs.size:=fun b hb=>ze (fz b hb)
 have f3:∀b∈fp,zGG X pins (upd H2 s2.heap.objs.size (.lst [])) b:=fun b hb=>⟨by rw[zd (nD b hb)];exact (f2 b hb).1,(f2 b hb).2⟩
 have fz3:∀b∈fp,b<s3.heap.objs.size:=fun b hb=>by rw[hsz3];exact zAt (fz b hb)
 have I4:Inv (zCE X (X.pn++pins) (own++cn) scope yc fp s3 (upd H2 s2.heap.objs.size (.lst []))) [] (List.replicate own.length none++cv.map some) (upd H2 s2.heap.objs.size (.lst [])) { s3 with heap:=h4,toks:=s3.toks }:=
  zI2 I3' S f3 fz3 rfl hc hv hl hns4 k34 hc4
 have st4:tn 0 h4:=T.keep _ _ _ st2 fun b hb o e=>k34 b o (k23 b o e)
 generalize hX:zCE X (X.pn++pins) (own++cn) scope yc fp s3 (upd H2 s2.heap.objs.size (.lst []))=X' at I4
 have hg':PG X' target g:=by rw[<-hX];exact hg _ _ _ _
 have ht':PTs X' ifs ti:=by rw[<-hX];exact ht _ _ _ _
 have he':PE X' elt te:=by rw[<-hX];exact he _ _ _ _
 have ePr:X'.prog=X.prog:=by rw[<-hX];rfl
 have eW:X'.w=X.w:=by rw[<-hX];rfl
 have eK:X'.K=X.K:=by rw[<-hX];rfl
 have eA:X'.A=X.A:=by rw[<-hX];rfl
 have eE:X'.env=zE4 scope yc (zCn X.env.cells scope.names []) s3.heap.objs.size X.env:=by rw[<-hX];rfl
 have eXe:X'.xe=fun _ _=>False:=by rw[<-hX];rfl
 have eC:X'.calm=true:=by rw[<-hX];exact hcalm
 have eex:X'.ex=fp:=by rw[<-hX];rfl
 have epn:X'.pn=X.pn++pins:=by rw[<-hX];rfl
 have es0:X'.s₀=s3:=by rw[<-hX];rfl
 have eH0:X'.H₀=upd H2 s2.heap.objs.size (.lst []):=by rw[<-hX];rfl
 have efs:X'.fs=frs X.stack:=by rw[<-hX];rfl
 have ok':=I4.ok
 have stat:∀{H':Hp},(∀b∈fp,H' b=none)->∀b∈fp,zGG X' [] H' b:=fun hn b hb=>by
  have hb':b∈X'.ex:=by rw[eex];exact hb
  refine⟨hn b hb,(ok'.exf b hb').1,ok'.exfs b hb',.inl hb',(ok'.exf b hb').2,fun p hp=>?_⟩
  rw[epn,zt] at hp
  exact (f2 b hb).2.2.2.2.2 p hp
 have wk:∀(σ2:St),(σ2.length=own.length+cv.length/\σ2.drop own.length=cv.map some)->∀{pl:lPO}{H':Hp}{s':Shared},Inv X' pl σ2 H' s'->Inv X' pl (List.replicate own.length none++cv.map some) H' s':=fun σ2 hq pl H' s' I'=>by
  refine I'.weak (by rw[hq.1,zP,zAH,zD]) fun i v hi=>?_
  by_cases hlt:i<own.length
  . rw[zZ (by simpa using hlt),zBG] at hi
    split at hi <;> cases hi
  . rw[zT (by simpa using hlt),zAH,<-hq.2,List.getElem?_drop] at hi
    rw[show own.length+(i-own.length)=i by omega] at hi
    exact hi
 have loop:codeAny (model X.prog X.w) X.A (.compLoop (.ListComp elt [⟨target,iter,ifs,0⟩] scope pos) 0 (.ref it) (.ref s2.heap.objs.size) (zE4 scope yc (zCn X.env.cells scope.names []) s3.heap.objs.size X.env))
  (compPost (model X.prog X.w) X.A X.xe use Q0 (.ref s2.heap.objs.size) s3.heap.objs.size) { s3 with heap:=h4,toks:=s3.toks }:=by
  refine zDQ (fun n s'=>∃i ys H',Inv X' [] (List.replicate own.length none++cv.map some) H' s'/\tn i s'.heap/\(∀b∈fp,H' b=none)/\W i n ys H') ?_ m0
   ⟨0,[],_,I4,st4,fun b hb=>(f3 b hb).1,w0⟩
  rintro n s5 ⟨i,ys,H5,I5,st5,fr5,w5⟩
  rcases turn i n ys H5 w5 with ⟨stop,qn⟩ | ⟨go,hsz,N,hN,step⟩
  . have d:=T.done X' ePr eW eK eC i [] s5 _ H5 (fun _ _=>False) I5 (stat fr5) st5 stop
    rw[eA] at d
    refine thn d fun r s6 ⟨hr,I6⟩=>?_
    subst hr
    obtain⟨m6,hn6,_⟩:=I6.loc
    rw[eE] at hn6
    have hn6':s6.heap.Ns s3.heap.objs.size m6:=hn6
    have un6:Un (frs X.stack) fp (upd H2 s2.heap.objs.size (.lst [])) H5 s3.heap s6.heap:=by
     have b6:=I6.base
     rw[efs,eex,eH0,es0] at b6
     exact b6
    have os6:s6.os=s3.os:=by have o6:=I6.os;rw[es0] at o6;exact o6
    have hok6:HOk X.prog X.w H5 s6.heap:=by have o6:=I6.hok;rw[ePr,eW] at o6;exact o6
    have I7:Inv X pins σ H5 s6:=I3'.call' (ch:=fp) os6 un6 hok6 I6.bare fun b hb=>⟨(f2 b hb).2.2.2.1,(f2 b hb).2.1,(f2 b hb).2.2.2.2.1,(f2 b hb).2.2.2.2.2⟩
    have fr6:H5 s3.heap.objs.size=none:=by
     have q:=I6.free
     rw[eE] at q
     exact q
    refine fin s2.heap.objs.size s3.heap.objs.size H5 s6 m6 I7 hn6' fr6 (Nat.ne_of_gt I3'.lt) I3'.sz (fun x c e=>?_) (fun p hp=>?_) qn
    . obtain⟨_,o,ho,_⟩:=I3'.cell x c e
      exact ze (zU ho)
    . exact ze (zU (I3'.pin p hp).1)
  . have d:=T.item X' ePr eW eK eC i [] s5 _ H5 (fun _ _=>False) I5 (stat fr5) st5 go
    rw[eA] at d
    refine thn d fun r s6 ⟨u,hr,h6⟩=>?_
    subst hr
    refine thn h6 fun _ s7 ⟨x,H7,I7,r7,y7,st7,fr7⟩=>?_
    have I7':=I7.pinned (stat fr7) (T.obj _ _ st7)
    have g7:=hg' _ s7 _ H7 x u _ I7' r7 (step x H7 y7)
    rw[ePr,eW,eA,eE,eXe] at g7
    refine thn g7 fun _ s8 ⟨σ8,H8,I8,q8,ti8⟩=>?_
    have t8:=ht' _ s8 σ8 H8 _ I8 ti8
    rw[ePr,eW,eA,eE,eXe] at t8
    refine thn t8 fun ok s9 ⟨H9,I9,q9⟩=>?_
    have again:∀{ys':List V}{H':Hp}{s':Shared},Inv X' ([]++zET fp s7.heap) σ8 H' s'->N ys' H' ->
     ∃m,m<n/\∃i ys H',Inv X' [] (List.replicate own.length none++cv.map some) H' s'/\tn i s'.heap/\(∀b∈fp,H' b=none)/\W i m ys H':=fun {ys' H' s'} I' n'=>by
     obtain⟨m',hm,w'⟩:=hN ys' H' n'
     refine⟨m',hm,i+1,ys',H',(wk σ8 q8 I').unpinned,T.keep _ _ _ st7 fun b hb o e=>(I'.pin (b,o) (zg _ (zg _ (zB9 hb e)))).1,fun b hb=>?_,w'⟩
     obtain⟨o,e,_⟩:=T.obj _ _ st7 b hb
     exact (I'.pin (b,o) (zg _ (zg _ (zB9 hb e)))).2.1
    cases ok with
    | false=>exact again I9 q9
    | true=>
     have e9:=he' _ s9 σ8 H9 _ I9 q9
     rw[ePr,eW,eA,eE,eXe] at e9
     refine thn e9 fun u10 s10 ⟨y,H10,I10,r10,hD10,n10⟩=>?_
     have a10:=zCZ (X:=X') _ s10 σ8 H10 (.ref s2.heap.objs.size) [y] (.ref s2.heap.objs.size) [u10] (fun _ H'=>N (ys++[y]) H') I10 rfl (.cons r10 .nil) ⟨_,_,_,rfl,rfl,hD10,hsz,n10⟩
     rw[ePr,eW,eA,eXe] at a10
     exact thn a10 fun _ s11 ⟨_,H11,I11,_,n11⟩=>again I11 n11
 exact codeAny_compStart_list loop (T.self X.A 0 _ _ _ st4 loop)
theorem zJi {elt target iter:Expr}{ifs:List Expr}{pos pos' cpos:Pos}{wi:TI}{g:TG}{ti:TT}{te:TE}{i:Nat}{x:Str}(hN:X.N.Nodup)(hix:X.N[i]? = some x)(hx:Loc X.env.scope x)(hcalm:X.calm=true)(S:zDN X scope yc)(hc:zEB X scope cn ci)(hl:cn.length=ci.length)
 (hi:PI X target iter wi)(hg:∀pl fp s3 H3,PG (zCE X pl (own++cn) scope yc fp s3 H3) target g)(ht:∀pl fp s3 H3,PTs (zCE X pl (own++cn) scope yc fp s3 H3) ifs ti)
 (he:∀pl fp s3 H3,PE (zCE X pl (own++cn) scope yc fp s3 H3) elt te)(hs:∀x,foldedSetIterable iter X.env x=pure x:=by intro _;rfl)
 (hsw:swapsWith (.ListComp elt [⟨target,iter,ifs,0⟩] scope cpos) (some (.Name x pos')) pos.line X.env=pure true:=by rfl)
 (hf:X.fn x=true\/X.env.scope.names.lookup x=some .local:=by first | exact .inl rfl | exact .inr rfl | assumption) :
 PS X (.Assign [.Name x pos'] (.ListComp elt [⟨target,iter,ifs,0⟩] scope cpos) pos) (tAsg (zHe own.length ci wi g ti te) (zHK i)):=by
 intro pins s σ H D I h
 rw[exec_Assign_Name_used _ _ _ _ hsw]
 refine zA (wpAny_standAt (zA ?_))
 show wpAny _ X.A (do let _ <-comprehension (.ListComp elt [⟨target,iter,ifs,0⟩] scope cpos) scope X.env _ (newList []) false (eval iter X.env) (some (assign (.Name x pos') X.env))) _ _ s
 refine zA (zBI (zHQ (use:=some (assign (.Name x pos') X.env)) (Q0:=fun _ s'=>SP X pins D .next s') hcalm S hc hl hi hg ht he hs I h (fun D' C H5 s6 m6 I7 hn fr nL ge nC nP q=>?_)) (fun _ s' hq=>zF (zF hq)) fun _ _ e=>e)
 obtain⟨oC,es,ep,hoC,hd,r1⟩:=hn
 have nf:C∉X.fs:=fun hb=>by
  obtain⟨_,o,ho,_⟩:=I7.ok.funs.mem hb
  exact absurd (zk (zU ho) ge) (zBX _)
 have I7':Inv X (pins++[(C,oC)]) σ H5 s6:=I7.pins_of fun p hp=>by
  rcases zp.mp hp with z | z
  . exact I7.pin p (zg _ z)
  . rw[zm.mp z]
    exact⟨hoC,fr,nL,nf,fun v e=>by rw[hd] at e;cases e⟩
 show wpAny _ X.A (assign (.Name x pos') X.env (.ref D')) _ _ s6
 refine wpAny_assign_Name (zDV I7' hN hix hx (show zBH (.ref D') (.ref D') from rfl) (fun s' I'=>?_) hf)
 have hC':=(I'.pin (C,oC) (zg _ (zg _ (zm.mpr rfl)))).1
 refine⟨m6,⟨oC,es,ep,hC',hd,r1⟩,fun h' hs'=>⟨_,H5,?_,q⟩⟩
 have I2:Inv X pins (σ.set i (some (.ref D'))) H5 s':=I'.pins_of fun p hp=>I'.pin p (zg _ (zAO _ hp))
 exact I2.turned (t':=s'.toks) (it:=C) (fun b o hb e=>hs'.extBut b o hb e) fr nL (.inr ge) nC nP
end
noncomputable def cscOk1 (outer inner:Scope)(yc:Str):Bool:=inner.names.all fun y=>(y.2 != .cell || y.1==yc) && (y.2 != .local || inner.names.lookup y.1==some .local) && (y.2 != .free || outer.names.lookup y.1==some .cell)
theorem csc1 {X:Cx}{scope:Scope}{yc:Str}(hk:scope.kind = .function)(hcf:∀n acc,cellsFrom n scope.names acc=(yc,n)::acc)(ho:scope.names.lookup yc=some .cell)(h:cscOk1 X.env.scope scope yc=true):zDN X scope yc:=by
 have a:=zAj.mp h
 refine⟨hk,hcf,ho,fun y hy e=>?_,fun y hy e=>?_,fun y hy e=>?_⟩
 . have:=a y hy
   rw[e] at this
   simpa using this
 . have:=a y hy
   rw[e] at this
   simpa using this
 . have:=a y hy
   rw[e] at this
   have h2:X.env.scope.names.lookup y.1=some .cell:=by simpa using this
   exact h2
noncomputable def zKy (ta:TA):TE:=fun σ H Q=>ta σ H fun vs H1=>∃j:Int,vs=[.int j]/\0<=j/\j<=1000/\∀l,H1 l=none->Q (.ref l) (upd H1 l (.lst ((WM.lowTo j.toNat).map V.int)))
theorem zJM:∀(vs:List Value)(n:Nat),vs.length=n->(∀(j:Nat)(v:Value),vs[j]? = some v->∃t,v = .int (0+(j:Int)*1) t)->zA8 ((WM.lowTo n).map V.int) vs:=by
 have key:∀(vs:List Value)(a:Nat),(∀(j:Nat)(v:Value),vs[j]? = some v->∃t,v = .int ((a+j:Nat):Int) t)->zA8 ((List.range' a vs.length).map fun (i:Nat)=>V.int (i:Int)) vs:=by
  intro vs
  induction vs with
  | nil=>intro _ _;exact .nil
  | cons v r ih=>
   intro a h
   obtain⟨t,ht⟩:=h 0 v rfl
   rw[zn,List.range'_succ,zAF]
   refine .cons ⟨t,by rw[ht];rfl⟩ (ih (a+1) fun j u hj=>?_)
   obtain⟨t',ht'⟩:=h (j+1) u hj
   exact⟨t',by rw[ht'];congr 1;omega⟩
 intro vs n e h
 subst e
 have:=key vs 0 fun j v hj=>by
  obtain⟨t,ht⟩:=h j v hj
  exact⟨t,by rw[ht];congr 1;omega⟩
 unfold WM.lowTo
 rw[List.map_map,List.range_eq_range']
 exact this
section
variable {X:Cx}
theorem zIK {a:Expr}{ta:TA}{p1 p2 pos1 pos2:Pos}(hc:X.calm=true)(hgL:Gl X "list") (hmL:X.mg "list" = none) (hgR:Gl X "range") (hmR:X.mg "range" = none) (ha:PA X [a] ta)(hs:starEach [a] X.env=[(false,eval a X.env)]:=by rfl)
 (he:starEach [.Call (.Name "range" p2) [a] [] pos2] X.env=[(false,eval (.Call (.Name "range" p2) [a] [] pos2) X.env)]:=by rfl):PE X (.Call (.Name "list" p1) [.Call (.Name "range" p2) [a] [] pos2] [] pos1) (zKy ta):=by
 intro pins s σ H Q I h
 refine zBW (zCm I hgL hmL (by decide +kernel:bootBuiltins "list" = some (.type "list")) ?_ (by decide) (by decide))
 refine PyProof.Rows.callWith_type1 ?_ he rfl
 rw[he]
 refine Calls.spliced_cons ?_
 refine Call_ (zCm I hgR hmR boot_range (PyProof.Rows.callWith_type1 (thn (ha pos2 pins s σ H _ I h) fun us s1 ⟨vs,H1,I1,r1,q1⟩=>?_) hs rfl))
 obtain⟨j,e,h0,h1,q⟩:=q1
 subst e
 cases r1 with
 | cons r rr=>
  cases rr
  obtain⟨t,rfl⟩:=r
  refine call_range_1 ?_
  refine Calls.spliced_nil ?_
  have hz:Builtin.Range.rangeSize 0 j 1=(j.toNat:Int):=by rw[rangeSize_one];split <;> omega
  refine call_list_range (I.ok.hd hc) (IsRange.new ..) (small_one (by omega) (by omega) (by omega) (by omega)) hz (by omega) fun h' tk acc c' kp hD hI=>?_
  have kp1:∀b o,s1.heap.get? b=some o->h'.get? b=some o:=fun b o e=>kp b o (zH _ e)
  have rv:zA8 ((WM.lowTo j.toNat).map V.int) acc.toList:=zJM acc.toList _ (by rw[Array.length_toList];exact hI.1) fun i v hi=>hI.2 i v (by rw[<-hi,Array.getElem?_toList])
  have hsz:s1.heap.objs.size<=(s1.heap.push { cls:=.type "range",data:=.fields #[.int 0 s1.toks,.int j t,.int 1 (s1.toks+1)] }).objs.size:=by rw[zAq];exact zBN _
  refine⟨.ref _,_,I1.laid (t':=tk) kp1 hsz (show zBe X.prog X.w _ h' _ (.lst ((WM.lowTo j.toNat).map V.int)) from ⟨?_,acc.toList,c',rv,by rw[Array.toArray_toList];exact hD⟩),rfl,q _ (I1.hok.fresh hsz)⟩
  rw[zD,WM.lowTo,zD,zAu]
  have:sizeLine=16777216:=rfl
  omega
end
section
variable {X:Cx}
noncomputable def rNeE (K:PySem.W.Frag):R2:=fun x y H Q=>∃(a b:Addr)(xs:List V),x = .ref a/\y = .ref b/\SqL K H a xs/\SqL K H b []/\Q (.bl (!xs.isEmpty)) H
theorem op_neE (hu:X.A.units<cLine):OpR X (compareOp .NotEq) (rNeE X.K):=by
 intro pins s σ H x y v u Q I rx ry h
 obtain⟨a,b,xs,rfl,rfl,ha,hb,q⟩:=h
 cases rx
 cases ry
 obtain⟨its,r,pl,hz⟩:=I.list ha
 obtain⟨its2,r2,pl2,hz2⟩:=I.list hb
 have l1:=r.length
 have l2:=r2.length
 cases xs with
 | nil=>
  refine PySem.EqBoolInt.of_rcne (SeqAt.RcNeAt.lists (e:=fun _=>true) pl.isList pl2.isList (by rw[zM,zM,<-l1,<-l2]) hu (fun j a b=>absurd a (by rw[zM,<-l1];exact Nat.not_lt_zero _))) ⟨.bl _,H,I,rfl,?_⟩
  rw[zM,<-l1]
  exact q
 | cons x xs=>
  refine PySem.EqBoolInt.of_rcne (SeqAt.RcNeAt.lists_lengths pl.isList pl2.isList (by rw[zM,zM,<-l1,<-l2];rfl) hu) ⟨.bl _,H,I,rfl,?_⟩
  exact q
end
end L2
namespace L2
open PySem PyProof.Rows
noncomputable def Kp (s0:Shared)(h:Heap):Prop:=∀b o,s0.heap.get? b=some o->h.get? b=some o
structure MinIt (prog:Program)(w:World)(A:Around)(s0:Shared)(I:Addr)(its:List Value)(itAt:Nat->Heap->Prop):Prop where
 stay:∀j h h',itAt j h->h'.get? I=h.get? I->itAt j h'
 next:∀(j:Nat)(h:Heap)(tk:Nat)(v:Value)(Q:Option Value->Shared->Prop)(E:vSP),Kp s0 h->itAt j h->its[j]? = some v ->
  (∀h',itAt (j+1) h'->(∀b,b≠I->h'.get? b=h.get? b)->Q (some v) { s0 with heap:=h',toks:=tk })->wpAny (model prog w) A (pyNext (.ref I)) Q E { s0 with heap:=h,toks:=tk }
 fin:∀(j:Nat)(h:Heap)(tk:Nat)(Q:Option Value->Shared->Prop)(E:vSP),Kp s0 h->itAt j h->its[j]? = none ->
  (∀h',(∀b o,b≠I->h.get? b=some o->h'.get? b=some o)->Q none { s0 with heap:=h',toks:=tk })->wpAny (model prog w) A (pyNext (.ref I)) Q E { s0 with heap:=h,toks:=tk }
section
variable {prog:Program}{w:World}{A:Around}{s0:Shared}{I S:Addr}{its:List Value}{itAt:Nat->Heap->Prop}
theorem Kp.upd {h:Heap}{f:Obj->Obj}(K:Kp s0 h)(hS:s0.heap.objs.size<=S):Kp s0 (h.update S f):=fun b o e=>by
 rw[Heap.get?_update_ne _ _ _ _ (ze (zk (zU e) hS))];exact K b o e
theorem Kp.but {h h':Heap}(K:Kp s0 h)(hI:s0.heap.objs.size<=I)(k:∀b o,b≠I->h.get? b=some o->h'.get? b=some o):Kp s0 h':=fun b o e=>
 k b o (ze (zk (zU e) hI)) (K b o e)
theorem zIc {R:Result->Shared->Prop}{kw:List (Str×Value)}(M:MinIt prog w A.in1 s0 I its itAt)(bt:Nat->Nat->Bool)(hS:s0.heap.objs.size<=S)(hI:s0.heap.objs.size<=I)(hSI:S≠I)
 (cmp:∀(i j:Nat)(vi vj:Value)(h:Heap)(tk:Nat)(Q E:vSP),Kp s0 h->its[i]? = some vi->its[j]? = some vj->Q (.bool (bt i j)) { s0 with heap:=h,toks:=tk }->wpAny (model prog w) A.in1 (richCompare .Lt vi vj) Q E { s0 with heap:=h,toks:=tk })
 (hR:∀(v:Value)(h:Heap)(tk:Nat),its[argBest bt (its.length-1)]? = some v->Kp s0 h->R (.ok (.ret v)) { s0 with heap:=h,toks:=tk })
 : ∀(r j:Nat)(h:Heap)(tk:Nat)(vb:Value)(c:Nat),its.length-(j+1)=r->j+1<=its.length->Kp s0 h->itAt (j+1) h->its[argBest bt j]? = some vb ->
  h.get? S=some { cls:=.type "list",data:=.seq #[vb,vb] c }->codeAny (model prog w) A (.builtin "min.loop" { pos:=[.ref I,.none,.ref S],kw:=kw }) R { s0 with heap:=h,toks:=tk }:=by
 intro r
 induction r with
 | zero=>
  intro j h tk vb c hr hj K hit hv hSo
  refine codeAny_builtin PySem.F.entry_min_loop ?_
  unfold Builtin.«min.loop»
  refine zA (zBf hSo rfl ?_)
  dsimp only
  refine zA (wpAny_tryCatch (M.fin (j+1) h tk _ _ K hit (zAY (by omega)) fun h' k=>?_))
  have hS':=k S _ hSI hSo
  refine zA (wpAny_updateSeq hS' rfl (zA (wpAny_letGo (zF ?_))) (by show 2<=sizeLine;decide) (by show 0<=sizeLine+1;decide))
  refine hR vb _ tk ?_ ((K.but hI k).upd hS)
  rw[show its.length-1=j by omega];exact hv
 | succ r ih=>
  intro j h tk vb c hr hj K hit hv hSo
  obtain⟨x,hx⟩:∃x,its[j+1]? = some x:=⟨_,zB (by omega)⟩
  refine codeAny_builtin PySem.F.entry_min_loop ?_
  unfold Builtin.«min.loop»
  refine zA (zBf hSo rfl ?_)
  dsimp only
  refine zA (wpAny_tryCatch (M.next (j+1) h tk x _ _ K hit hx fun h' hit' k=>?_))
  have K':Kp s0 h':=K.but hI fun b o hb e=>by rw[k b hb];exact e
  have hS':h'.get? S=some { cls:=.type "list",data:=.seq #[vb,vb] c }:=by rw[k S hSI];exact hSo
  refine zA (zF ?_)
  refine zA (wpAny_tryCatch (zAR (zA (cmp (j+1) (argBest bt j) x vb h' tk _ _ K' hx hv ?_))))
  refine zA (zAR (zA4 (zA (wpAny_letGo (zF ?_)))))
  have eb:argBest bt (j+1)=if bt (j+1) (argBest bt j)=true then j+1 else argBest bt j:=argBest.eq_2 bt j
  cases e:bt (j+1) (argBest bt j) with
  | true=>
   rw[if_pos e] at eb
   refine zA (wpAny_updateSeq hS' rfl (zA (wpAny_letGo (zF ⟨rfl,?_⟩))) (by show 2<=sizeLine;decide) (by show 2<=sizeLine+1;decide))
   exact ih (j+1) _ tk x c (by omega) (by omega) (K'.upd hS) (M.stay _ _ _ hit' (Heap.get?_update_ne _ _ _ _ (Ne.symm hSI))) (by rw[eb];exact hx) (zBY _ hS' rfl)
  | false=>
   rw[e,if_neg (by decide)] at eb
   refine zA (wpAny_letGo (zF ⟨rfl,?_⟩))
   exact ih (j+1) h' tk vb c (by omega) (by omega) K' hit' (by rw[eb];exact hv) hS'
theorem zEW {R:Result->Shared->Prop}{d:Value}(M:MinIt prog w A.in1 s0 I its itAt)(bt:Nat->Nat->Bool)(hS:s0.heap.objs.size<=S)(hI:s0.heap.objs.size<=I)(hSI:S≠I)
 (cmp:∀(i j:Nat)(vi vj:Value)(h:Heap)(tk:Nat)(Q E:vSP),Kp s0 h->its[i]? = some vi->its[j]? = some vj->Q (.bool (bt i j)) { s0 with heap:=h,toks:=tk }->wpAny (model prog w) A.in1 (richCompare .Lt vi vj) Q E { s0 with heap:=h,toks:=tk })
 (hR:∀(v:Value)(h:Heap)(tk:Nat),its[argBest bt (its.length-1)]? = some v->Kp s0 h->R (.ok (.ret v)) { s0 with heap:=h,toks:=tk })
 (h0:its=[]->∀(h:Heap)(tk:Nat),Kp s0 h->R (.ok (.ret d)) { s0 with heap:=h,toks:=tk })
 (h:Heap)(tk:Nat)(c:Nat)(K:Kp s0 h)(hit:itAt 0 h)(hSo:h.get? S=some { cls:=.type "list",data:=.seq #[] c }) :
 codeAny (model prog w) A (.builtin "min.loop" { pos:=[.ref I,.none,.ref S],kw:=[(Str.ofString "default",d)] }) R { s0 with heap:=h,toks:=tk }:=by
 refine codeAny_builtin PySem.F.entry_min_loop ?_
 unfold Builtin.«min.loop»
 refine zA (zBf hSo rfl ?_)
 dsimp only
 cases e:its with
 | nil=>
  subst e
  refine zA (wpAny_tryCatch (M.fin 0 h tk _ _ K hit rfl fun h' k=>?_))
  exact zA (wpAny_rule (zF (h0 rfl h' tk (K.but hI k))))
 | cons x xs=>
  have hx:its[0]? = some x:=by rw[e];rfl
  refine zA (wpAny_tryCatch (M.next 0 h tk x _ _ K hit hx fun h' hit' k=>?_))
  have K':Kp s0 h':=K.but hI fun b o hb e=>by rw[k b hb];exact e
  have hS':h'.get? S=some { cls:=.type "list",data:=.seq #[] c }:=by rw[k S hSI];exact hSo
  refine zA (zF ?_)
  refine zA (wpAny_updateSeq hS' rfl (zF ⟨rfl,?_⟩) (by show 0<=sizeLine;decide) (by show 2<=sizeLine+1;decide))
  refine zIc M bt hS hI hSI cmp hR (its.length-1) 0 _ tk x (c+1) rfl (by rw[e];simp) (K'.upd hS) (M.stay _ _ _ hit' (Heap.get?_update_ne _ _ _ _ (Ne.symm hSI))) hx (zBY _ hS' rfl)
end
variable {A:Around}{s:Shared}
theorem wpAny_of_eq {α:Type}{M:Model}{E:vSP}{m m':Sem α}{Q:α->Shared->Prop}(e:m=m')(h:wpAny M A m' Q E s):wpAny M A m Q E s:=by subst e;exact h
theorem zD6 {O:KeyOrd}(ky:Nat->O.α):∀k,argBest (fun i j=>O.blt (ky i) (ky j)) k<=k/\∀j,j<=k->O.blt (ky j) (ky (argBest (fun i j=>O.blt (ky i) (ky j)) k))=false
 | 0=>⟨zK _,fun j hj=>by obtain rfl:j=0:=(by omega);exact O.irrefl _⟩
 | k+1=>by
  obtain⟨h1,h2⟩:=zD6 ky k
  rw[argBest.eq_2]
  cases e:O.blt (ky (k+1)) (ky (argBest (fun i j=>O.blt (ky i) (ky j)) k)) with
  | true=>
   rw[if_pos rfl]
   refine⟨zK _,fun j hj=>?_⟩
   by_cases c:j=k+1
   . subst c;exact O.irrefl _
   . cases e2:O.blt (ky j) (ky (k+1)) with
     | false=>rfl
     | true=>rw[<-h2 j (by omega)];exact (O.trans _ _ _ e2 e).symm
  | false=>
   rw[if_neg (by decide)]
   refine⟨by omega,fun j hj=>?_⟩
   by_cases c:j=k+1
   . subst c;exact e
   . exact h2 j (by omega)
theorem zFi {prog:Program}{w:World}{A:Around}{s:Shared}{p:Addr}{its:List Value}{d:Value}{Q E:vSP}(hA:A.handled=none)(bt:Nat->Nat->Bool)(hp:s.heap.IsList p its.toArray\/s.heap.IsTuple p its.toArray)
 (cmp:∀(i j:Nat)(vi vj:Value)(h:Heap)(tk:Nat)(Q E:vSP),Kp s h->its[i]? = some vi->its[j]? = some vj->Q (.bool (bt i j)) { s with heap:=h,toks:=tk }->wpAny (model prog w) A.in1 (richCompare .Lt vi vj) Q E { s with heap:=h,toks:=tk })
 (hR:∀(v:Value)(h:Heap)(tk:Nat),its[argBest bt (its.length-1)]? = some v->Kp s h->Q v { s with heap:=h,toks:=tk })
 (h0:its=[]->∀(h:Heap)(tk:Nat),Kp s h->Q d { s with heap:=h,toks:=tk }) :
 wpAny (model prog w) A (call (.builtin "min") [.ref p] [(Str.ofString "default",d)]) Q E s:=by
 refine wpAny_call (codeAny_call_builtin PySem.F.plain_min PySem.F.entry_min (wpAny_of_eq (show checkBuiltinCall "min" { pos:=[.ref p],kw:=[(Str.ofString "default",d)] }=pure () from rfl) (zF ?_)))
 unfold Builtin.min
 refine zA (wpAny_of_eq (show Builtin.Builtins.bindParams "min" ["key", "default"] 0 { kw:=[(Str.ofString "default",d)] }=pure [none,some d] from rfl) (zF ?_))
 dsimp only
 refine zA (zF ?_)
 have kp0:∀(o1 o2:Obj),Kp s ((s.heap.push o1).push o2):=fun o1 o2 b o e=>zH _ (zH _ e)
 rcases hp with hp | hp
 . refine zA (wpAny_pyIter_list hp (zA (wpAny_newList (zF ⟨rfl,?_⟩) (by show 0<=sizeLine;decide))))
   have hSe:(s.heap.push { cls:=.type "list_iterator",data:=.fields #[.ref p,.int 0 0] }).objs.size=s.heap.objs.size+1:=zAq ..
   rw[hSe]
   refine zEW (s0:=s) (I:=s.heap.objs.size) (S:=s.heap.objs.size+1) (itAt:=fun j h=>h.IsListIter s.heap.objs.size p j) ⟨fun j h h' a e=>?_,fun j h tk v Q E K hit hv q=>?_,fun j h tk Q E K hit hv q=>?_⟩ bt (zBN _) (zK _) (Nat.succ_ne_self _) cmp hR h0 _ s.toks 0 (kp0 _ _) ?_ ?_
   . obtain⟨o,ho,hc⟩:=a
     exact⟨o,by rw[e];exact ho,hc⟩
   . obtain⟨o,ho,hc⟩:=hp
     exact wpAny_pyNext_list_item hit ⟨o,K _ _ ho,hc⟩ (by rw[zAU];exact hv) fun h' a b=>q h' a fun c hc=>b.2 c hc
   . obtain⟨o,ho,hc⟩:=hp
     exact wpAny_pyNext_list_end hA hit ⟨o,K _ _ ho,hc⟩ (by rw[zAU];exact hv) fun h' b=>q h' b
   . exact⟨_,zH _ (zS _ rfl),rfl,rfl⟩
   . rw[<-hSe];exact zS _ rfl
 . refine zA (wpAny_pyIter_tuple hp (zA (wpAny_newList (zF ⟨rfl,?_⟩) (by show 0<=sizeLine;decide))))
   have hSe:(s.heap.push { cls:=.type "tuple_iterator",data:=.fields #[.ref p,.int 0 0] }).objs.size=s.heap.objs.size+1:=zAq ..
   rw[hSe]
   refine zEW (s0:=s) (I:=s.heap.objs.size) (S:=s.heap.objs.size+1) (itAt:=fun j h=>h.IsTupleIter s.heap.objs.size p j) ⟨fun j h h' a e=>?_,fun j h tk v Q E K hit hv q=>?_,fun j h tk Q E K hit hv q=>?_⟩ bt (zBN _) (zK _) (Nat.succ_ne_self _) cmp hR h0 _ s.toks 0 (kp0 _ _) ?_ ?_
   . obtain⟨o,ho,hc⟩:=a
     exact⟨o,by rw[e];exact ho,hc⟩
   . obtain⟨o,ho,hc⟩:=hp
     exact wpAny_pyNext_tuple_item hit ⟨o,K _ _ ho,hc⟩ (by rw[zAU];exact hv) fun h' a b=>q h' a fun c hc=>b.2 c hc
   . obtain⟨o,ho,hc⟩:=hp
     exact wpAny_pyNext_tuple_end hA hit ⟨o,K _ _ ho,hc⟩ (by rw[zAU];exact hv) fun h' b=>q h' b
   . exact⟨_,zH _ (zS _ rfl),rfl,rfl⟩
   . rw[<-hSe];exact zS _ rfl
section
variable {X:Cx}
noncomputable def rMinD (K:PySem.W.Frag)(x dv:V)(H:Hp)(Q:VK):Prop:=∃(p:Addr)(ys:List V),x = .ref p/\(SqL K H p ys\/SqT K H p ys)/\(ys=[]->Q dv H) /\
 ((∃ks,zAS H ys ks/\∀(i:Nat)(y:V)(k:List Int),ys[i]? = some y->ks[i]? = some k->(∀k'∈ks,HT.lexLt k' k=false)->Q y H)\/(∃ns:List Int,ys=ns.map V.int/\∀n∈ns,(∀m∈ns,n<=m)->Q (.int n) H))
noncomputable def tMinD (K:PySem.W.Frag)(t:TA)(td:TE):TE:=fun σ H Q=>t σ H fun vs H1=>∃x,vs=[x]/\td σ H1 fun dv H2=>rMinD K x dv H2 Q
theorem zFw {e de:Expr}{t:TA}{td:TE}{pos np kpos:Pos}(hc:X.calm=true)(hu:X.A.units+1<cLine)(hg:Gl X "min") (hm:X.mg "min" = none) (he:PA X [e] t)(hd:PE X de td)
 (hs1:backTo pos (starEach [e] X.env)=(false,eval e X.env)::backTo pos (starEach [] X.env):=by rfl)(hs2:(backTo pos (starEach [e] X.env)).any (·.1)=false:=by rfl) :
 PE X (.Call (.Name "min" np) [e] [⟨some "default",de,kpos⟩] pos) (tMinD X.K t td):=by
 intro pins s σ H Q I h
 refine zBW (zCm I hg hm (by decide +kernel:bootBuiltins "min" = some (.builtin "min")) ?_)
 refine PyProof.Rows.callWith_kw (thn (he pos pins s σ H _ I h) fun us s1 ⟨vs,H1,I1,r,q1⟩=>?_) hs1 hs2
 obtain⟨x,rfl,q1⟩:=q1
 obtain⟨u,rfl,rx⟩:=zCV r
 show wpAny _ _ (evalAll ((do let v <-eval de X.env;standAt pos;pure v)::[])) _ _ s1
 refine wpAny_evalAll_cons (zA (thn (hd pins s1 σ H1 _ I1 q1) fun ud s2 ⟨dv,H2,I2,rd,q2⟩=>zA (wpAny_standAt (zF (wpAny_evalAll_nil ?_)))))
 show wpAny _ _ (call (.builtin "min") [u] [(Str.ofString "default",ud)]) _ _ s2
 obtain⟨p,ys,rfl,hp,q0,hk⟩:=q2
 cases rx
 obtain⟨its,rv,hpp⟩:∃its:List Value,zA8 ys its/\(s2.heap.IsList p its.toArray\/s2.heap.IsTuple p its.toArray):=by
  rcases hp with hp | hp
  . obtain⟨its,r',pl,_⟩:=I2.list hp
    exact⟨its,r',.inl pl.isList⟩
  . obtain⟨its,r',pl,_⟩:=I2.tuple hp
    exact⟨its,r',.inr pl⟩
 have hlen:=rv.length
 have e0:its=[]->ys=[]:=fun z=>List.length_eq_zero_iff.mp (by rw[hlen,z];rfl)
 rcases hk with ⟨ks,T,q⟩ | ⟨ns,rfl,q⟩
 . have hl:=T.length
   refine zFi (I2.ok.hd hc) (fun i j=>zJ3.blt (ks.getD i []) (ks.getD j [])) hpp (fun i j vi vj h tk Q E K hi hj q=>?_) (fun v h tk hv K=>?_) (fun z h tk K=>⟨dv,H2,I2.kept K,rd,q0 (e0 z)⟩)
   . have look:∀(i:Nat)(v:Value),its[i]? = some v->∃(p:Addr)(k:List Int)(us:List Value),v = .ref p/\ks[i]? = some k/\IntsAre us k/\IsTup h p us.toArray:=fun i v hv=>by
      have hi:i<ys.length:=by have:=(zJ.mp hv).1;omega
      obtain⟨p,k,e1,e2,e3,_⟩:=T.get (i:=i) (x:=ys[i]) (by simp[hi])
      obtain⟨u,hu,ru⟩:=rv.get (i:=i) (x:=ys[i]) (by simp[hi])
      rw[hv] at hu;cases hu
      rw[e1] at ru
      cases (show v=Value.ref p from ru)
      obtain⟨_,us,rv',o,ho,hc⟩:=I2.hok p _ e3
      exact⟨p,k,us,rfl,e2,zBh rv',o,K _ _ ho,hc⟩
     obtain⟨p1,k1,us1,rfl,g1,i1,t1⟩:=look i vi hi
     obtain⟨p2,k2,us2,rfl,g2,i2,t2⟩:=look j vj hj
     refine HT.lt_tupInts (ns:=k1) (ms:=k2) t1 t2 i1 i2 hu ?_
     have:zJ3.blt (ks.getD i []) (ks.getD j [])=HT.lexLt k1 k2:=by rw[zE,zE,g1,g2];rfl
     rw[<-this];exact q
   . obtain⟨b1,b2⟩:=zD6 (O:=zJ3) (fun i=>ks.getD i []) (its.length-1)
     have hlt:=(zJ.mp hv).1
     generalize eb:argBest (fun i j=>zJ3.blt (ks.getD i []) (ks.getD j [])) (its.length-1)=bi at hv hlt b1 b2
     have hy:bi<ys.length:=by omega
     obtain⟨u,hu,ru⟩:=rv.get (i:=bi) (x:=ys[bi]) (by simp[hy])
     rw[hv] at hu;cases hu
     obtain⟨pa,k,e1,e2,e3,_⟩:=T.get (i:=bi) (x:=ys[bi]) (by simp[hy])
     refine⟨ys[bi],H2,I2.kept K,ru,q bi ys[bi] k (by simp[hy]) e2 fun k' hk'=>?_⟩
     obtain⟨j,hj,ej⟩:=zv hk'
     have:=b2 j (by omega)
     have g1:ks.getD j []=k':=by rw[zE,zB hj,ej];rfl
     have g2:ks.getD bi []=k:=by rw[zE,e2];rfl
     rw[g1,g2] at this
     exact this
 . have hI:IntsAre its ns:=zBh rv
   have hl:=hI.length
   have look:∀(i:Nat)(v:Value),its[i]? = some v->∃t,v = .int (ns.getD i 0) t:=fun i v hv=>by
    have hi:i<ns.length:=by have:=(zJ.mp hv).1;omega
    obtain⟨u,hu,ru⟩:=rv.get (i:=i) (x:=.int ns[i]) (by simp[hi])
    rw[hv] at hu;cases hu
    obtain⟨t,rfl⟩:=(show ∃t,v=Value.int ns[i] t from ru)
    exact⟨t,by rw[zE,zB hi];rfl⟩
   refine zFi (I2.ok.hd hc) (fun i j=>decide (ns.getD i 0<ns.getD j 0)) hpp (fun i j vi vj h tk Q E K hi hj q=>?_) (fun v h tk hv K=>?_) (fun z h tk K=>⟨dv,H2,I2.kept K,rd,q0 (e0 z)⟩)
   . obtain⟨t1,rfl⟩:=look i vi hi
     obtain⟨t2,rfl⟩:=look j vj hj
     exact PyProof.Rows.lt_int q
   . obtain⟨b1,b2⟩:=argBest_lt (fun i=>ns.getD i 0) (its.length-1)
     have hlt:=(zJ.mp hv).1
     generalize eb:argBest (fun i j=>decide (ns.getD i 0<ns.getD j 0)) (its.length-1)=bi at hv hlt b1 b2
     obtain⟨t,rfl⟩:=look bi v hv
     have hy:bi<ns.length:=by omega
     refine⟨.int (ns.getD bi 0),H2,I2.kept K,⟨t,rfl⟩,q _ ?_ fun m hm=>?_⟩
     . rw[zE,zB hy];exact List.getElem_mem hy
     . obtain⟨j,hj,ej⟩:=zv hm
       have:=b2 j (by omega)
       have g1:ns.getD j 0=m:=by rw[zE,zB hj,ej];rfl
       rw[g1] at this
       exact this
end
variable {prog:Program}{w:World}
theorem zLy {l:Addr}{its:Array Value}{Q:Option Value->Shared->Prop}{E:vSP}(hA:A.handled=none)(hl:PlainL s.heap l its)
 (q:∀h' tk,Kp s h'->Q none { s with heap:=h',toks:=tk }):wpAny (model prog w) A (getAttr? (.ref l) (Str.ofString "keys")) Q E s:=by
 have ty:∀tk,Shared.TypeIs { s with toks:=tk } (.ref l) "list" := fun tk=>by
  obtain⟨o,ho,hc,_⟩:=hl.isList
  exact⟨o,ho,hc⟩
 unfold getAttr?
 refine zA (zA (wpAny_fresh (zF ?_)))
 unfold getAttrBy?
 refine zA (wpAny_attempt ?_)
 unfold getAttrBy
 refine zAR (zA (zBV (ty _) (zA (wpAny_of_eq (show typeLookup (.type "list") (Str.ofString "__getattribute__")=pure (some (.builtin "list.__getattribute__")) from rfl) (zF ?_)))))
 show wpAny _ _ (getAttrByItsOwn _ _ _ _ _ _) _ _ _
 unfold getAttrByItsOwn
 refine zA (wpAny_of_eq (show hookBefore (.type "list")=pure none from rfl) (zF (zA (wpAny_attempt (zAR ?_)))))
 show wpAny _ _ (boundAndCalled _ _ _) _ _ _
 unfold boundAndCalled
 refine zA (wpAny_of_eq (show bindSpecial (.builtin "list.__getattribute__") (.ref l)=pure (.builtin "list.__getattribute__",[.ref l]) from rfl) (zF ?_))
 refine wpAny_call (codeAny_call_builtin (by decide +kernel) PySem.am_entry_list_getattribute ?_)
 refine zA (zBU (ty _) (b:=true) rfl ?_)
 refine wpAny_of_eq (m':=pure ()) rfl (zF ?_)
 unfold Builtin.«object.__getattribute__»
 refine zA (wpAny_of_eq (m':=pure (Value.ref l,[Value.str (Str.ofString "keys") s.toks])) rfl (zF ?_))
 refine zA (zF (zA (zBV (ty _) (zA ?_))))
 unfold Builtin.ObjectAttr.find
 refine zA (wpAny_of_eq (m':=pure none) rfl (zF (zA (zF (zA (zF ?_))))))
 obtain⟨o,n,ho,hc,hd,hdat⟩:=id hl
 obtain⟨cls,dict,data,slots⟩:=o
 obtain rfl:cls=_:=hc
 obtain rfl:dict=_:=hd
 obtain rfl:data=_:=hdat
 refine zA (zA (zA (wpAny_loadPart ho (zA (wpAny_loadPart ho (zF (zF ?_)))))))
 refine zA (wpAny_of_eq (m':=pure ()) rfl (zF (zA (wpAny_rule (zF ?_)))))
 show wpAny _ _ (Builtin.ObjectAttr.noSuchAttribute (Value.ref l) (Str.ofString "keys")) _ _ _
 unfold Builtin.ObjectAttr.noSuchAttribute
 refine zA (zA (zA (zBV (ty _) (wpAny_of_eq (m':=pure (Value.type "list")) rfl (zF (wpAny_of_eq (m':=pure "list") rfl (zF ?_)))))))
 refine wpAny_raiseAttrError hA (fun h' tk e ne=>?_) (by decide +kernel)
 obtain⟨t,u,he⟩:=ne.there
 have tye:∀tk,Shared.TypeIs { s with heap:=h',toks:=tk } (.ref e) "AttributeError" := fun tk=>⟨_,he,rfl⟩
 show wpAny _ _ (getattributeRaised _ _ _ _ _ _ _) _ _ _
 unfold getattributeRaised
 refine zA (zBU (tye _) (b:=true) rfl ?_)
 refine zA (wpAny_of_eq (m':=pure none) rfl (zF ?_))
 refine zA (wpAny_throw ?_)
 refine zA (zBU (tye _) (b:=true) rfl (zF ?_))
 exact q h' tk ne.keeps
theorem zFM (a:Args):(Code.builtin "dict.update.loop" a).quiet=true:=plainId_quiet (id := "dict.update.loop") (by decide +kernel) a
theorem zGz {κ:Type} [DecidableEq κ] (kvs:List (κ×Value))(k:κ)(v:Value):(stored kvs k v).length<=kvs.length+1:=by
 unfold stored
 split
 . rw[zD];omega
 . rw[zP];exact zK _
noncomputable def zEE (qs:List (Key×Value)):List (Key×Value):=qs.foldl (fun a q=>stored a q.1 q.2) []
theorem zG1 (qs:List (Key×Value))(q:Key×Value):zEE (qs++[q])=stored (zEE qs) q.1 q.2:=by unfold zEE;rw[List.foldl_append];rfl
theorem zHh (qs:List (Key×Value)):(zEE qs).length<=qs.length:=by
 have:∀(qs:List (Key×Value))(a:List (Key×Value)),(qs.foldl (fun a q=>stored a q.1 q.2) a).length<=a.length+qs.length:=by
  intro qs
  induction qs with
  | nil=>intro a;exact zK _
  | cons q qs ih=>
   intro a
   have h1:=ih (stored a q.1 q.2)
   have h2:=zGz a q.1 q.2
   rw[List.foldl_cons,zn];omega
 have:=this qs []
 simpa [zEE] using this
section
variable {prog:Program}{w:World}{A:Around}{s0:Shared}{D I l:Addr}{its:List Value}{qs:List (Key×Value)}
theorem zIv {R:Result->Shared->Prop}(hA:A.handled=none)(hD:s0.heap.objs.size<=D)(hI:s0.heap.objs.size<=I)(hDI:D≠I)(hl:s0.heap.IsList l its.toArray)(hz:its.length<=sizeLine)(hqs:qs.length=its.length)
 (look:∀(i:Nat)(v:Value),its[i]? = some v->∃(p:Addr)(kv u:Value)(k:Key),v = .ref p/\IsTup s0.heap p #[kv,u]/\(zAW prog w).is k kv=true/\qs[i]? = some (k,u))
 (hR:∀(h:Heap)(tk:Nat),Kp s0 h->h.DictOf (zAW prog w) D (zEE qs)->R (.ok (.ret .none)) { s0 with heap:=h,toks:=tk }) :
 ∀(r j:Nat)(h:Heap)(tk:Nat),its.length-j=r->j<=its.length->Kp s0 h->h.IsListIter I l j->h.DictOf (zAW prog w) D (zEE (qs.take j)) ->
  codeAny (model prog w) A (.builtin "dict.update.loop" { pos:=[.ref D,.ref I,rawInt j,.none] }) R { s0 with heap:=h,toks:=tk }:=by
 have hl':∀h,Kp s0 h->h.IsList l its.toArray:=fun h K=>by
  obtain⟨o,ho,hc⟩:=hl
  exact⟨o,K _ _ ho,hc⟩
 intro r
 induction r with
 | zero=>
  intro j h tk hr hj K hit hd
  refine codeAny_builtin (b:=Builtin.«dict.update.loop») (by rfl) ?_
  unfold Builtin.«dict.update.loop»
  refine zA (wpAny_pyNext_list_end hA hit (hl' h K) (by rw[zAU];exact zAY (by omega)) fun h' b=>?_)
  refine zA (wpAny_of_eq (m':=pure ()) rfl (zF (zF ?_)))
  refine hR h' tk (K.but hI b) ?_
  obtain⟨o,es,ep,ho,hrest⟩:=hd
  rw[zf (by omega)] at hrest
  exact⟨o,es,ep,b D o hDI ho,hrest⟩
 | succ r ih=>
  intro j h tk hr hj K hit hd
  obtain⟨x,hx⟩:∃x,its[j]? = some x:=⟨_,zB (by omega)⟩
  obtain⟨p,kv,u,k,rfl,tp,hk,hq⟩:=look j x hx
  refine codeAny_builtin (b:=Builtin.«dict.update.loop») (by rfl) ?_
  unfold Builtin.«dict.update.loop»
  refine zA (wpAny_pyNext_list_item hit (hl' h K) (by rw[zAU];exact hx) fun h' hit' b=>?_)
  have K':Kp s0 h':=K.but hI fun c o hc e=>by rw[b.2 c hc];exact e
  obtain⟨o,ho,hc,n,hdat⟩:=tp
  refine zA (zAR (zA (wpAny_tryCatch ?_)))
  unfold Builtin.Dict.pairItems
  refine zA (zBV (T := "tuple") ⟨o,K' _ _ ho,hc⟩ ?_)
  refine zA (zBf (K' _ _ ho) hdat (zF ?_))
  have hd':h'.DictOf (zAW prog w) D (zEE (qs.take j)):=by
   obtain⟨o,es,ep,ho,hrest⟩:=hd
   exact⟨o,es,ep,by rw[b.2 D hDI];exact ho,hrest⟩
  refine zAR (wpAny_dictSet_pairs hk hd' (fun h2 hd2 b2=>?_) (zAD (zHh _) (by rw[zx];omega)))
  refine zF ⟨zFM _,?_⟩
  refine ih (j+1) h2 (tk+1) (by omega) (by omega) (fun c o e=>?_) ?_ ?_
  . rw[b2.2 c (ze (zk (zU e) hD))];exact K' c o e
  . obtain⟨o,ho,hc⟩:=hit'
    exact⟨o,by rw[b2.2 I (Ne.symm hDI)];exact ho,hc⟩
  . rw[zu,hq]
    show h2.DictOf _ D (zEE (qs.take j++[(k,u)]))
    rw[zG1]
    exact hd2
end
theorem zHM (h:Heap):(h.push { cls:=.type "dict",data:=.dict #[] }).DictOf (zAW prog w) h.objs.size []:=
 ⟨_,#[],0,zS _ rfl,⟨rfl,rfl,rfl⟩,rfl,by
  first | exact KeysOf.nil | (intro x hx;simp at hx) | trivial | decide,by
  first | exact .nil | trivial,List.nodup_nil⟩
theorem zEN {l:Addr}{its:List Value}{qs:List (Key×Value)}{Q E:vSP}(hA:A.handled=none)(hl:PlainL s.heap l its.toArray)(hz:its.length<=sizeLine)(hqs:qs.length=its.length)
 (look:∀(i:Nat)(v:Value),its[i]? = some v->∃(p:Addr)(kv u:Value)(k:Key),v = .ref p/\IsTup s.heap p #[kv,u]/\(zAW prog w).is k kv=true/\qs[i]? = some (k,u))
 (q:∀(D:Addr)(h:Heap)(tk:Nat),s.heap.objs.size<=D->Kp s h->h.DictOf (zAW prog w) D (zEE qs)->Q (.ref D) { s with heap:=h,toks:=tk }) :
 wpAny (model prog w) A (call (.type "dict") [.ref l]) Q E s:=by
 refine callType_codes (Q₁:=fun obj s₁=>obj = .ref s.heap.objs.size/\s₁={ s with heap:=s.heap.push { cls:=.type "dict",data:=.dict #[] } }) PySem.F.kt_called_dict (PySem.F.kt_typeCall_dict_1 _) PySem.F.entry_dict_init ?_ (fun obj s₁ e=>?_)
 . refine codeAny_call_builtin (by decide +kernel) PySem.F.kt_entry_dict_new (wpAny_of_eq (PySem.F.kt_newCall_dict_1 _) (zF ?_))
   unfold Builtin.«dict.__new__»
   refine zA (wpAny_of_eq (m':=pure true) rfl (zF (zA (wpAny_of_eq (m':=pure true) rfl (zF (zA (wpAny_of_eq (m':=pure [Value.type "dict",Value.type "object"]) rfl (zF ?_))))))))
   exact zA (wpAny_newObjAsIs_type (zF ⟨rfl,rfl⟩))
 . obtain⟨rfl,rfl⟩:=e
   refine⟨⟨_,zS _ rfl,rfl⟩,PySem.F.args_dict_init_2 _ _,?_⟩
   unfold Builtin.«dict.__init__»
   have h0:Kp s (s.heap.push { cls:=.type "dict",data:=.dict #[] }):=fun b o e=>zH _ e
   have hl1:∀h,Kp s h->PlainL h l its.toArray:=fun h K=>by
    obtain⟨o,n,ho,hr⟩:=hl
    exact⟨o,n,K _ _ ho,hr⟩
   refine zA (zA (zA (zBV (T := "dict") ⟨_,zS _ rfl,rfl⟩ (zF (zA (zF (zF ?_)))))))
   show wpAny _ _ (Builtin.Dict.updateFrom "dict.__init__" s.heap.objs.size (.ref l) [] .none) _ _ _
   unfold Builtin.Dict.updateFrom
   refine zA (zBV (T := "list") (let ⟨o,ho,hc,_⟩:=(hl1 _ h0).isList;⟨o,ho,hc⟩) ?_)
   refine zA (zLy hA (hl1 _ h0) fun h1 tk1 K1=>?_)
   have K1':Kp s h1:=fun b o e=>K1 b o (h0 b o e)
   refine zA (wpAny_rule (zA (wpAny_pyIter_list (hl1 _ K1').isList (zF ⟨zFM _,?_⟩))))
   have hsz:s.heap.objs.size<h1.objs.size:=zU (K1 _ _ (zS _ rfl))
   refine zIv (A:=A.in1) (s0:=s) (l:=l) (its:=its) (qs:=qs) hA (zK _) (Nat.le_of_lt hsz) (ze hsz) hl.isList hz hqs look ?_ its.length 0 _ tk1 rfl (zh _) (fun b o e=>zH _ (K1' b o e)) ?_ ?_
   . exact fun h tk K hd=>⟨rfl,q _ h tk (zK _) K hd⟩
   . exact⟨_,zS _ rfl,rfl,rfl⟩
   obtain⟨o,es,ep,ho,hr⟩:=zHM (prog:=prog) (w:=w) s.heap
   exact⟨o,es,ep,zH _ (K1 _ _ ho),hr⟩
section
variable {X:Cx}
noncomputable def zKJ (H:Hp)(ys:List V)(ps:List (Key×V)):Prop:=ps.length=ys.length/\∀(i:Nat)(y:V),ys[i]? = some y->∃(p:Addr)(k:Key)(v:V),y = .ref p/\H p=some (.tup [kV k,v])/\ps[i]? = some (k,v)
noncomputable def zES (ps:List (Key×V)):List (Key×V):=ps.foldl (fun a p=>zCH a p.1 p.2) []
theorem zFN:∀(ps:List (Key×V))(qs:List (Key×Value))(a:List (Key×V))(b:List (Key×Value)),KV ps qs->KV a b->KV (ps.foldl (fun a p=>zCH a p.1 p.2) a) (qs.foldl (fun a q=>stored a q.1 q.2) b)
 | [],[],_,_,_,h=>h
 | p::ps,q::qs,a,b,h,h'=>by
  cases h with
  | cons h1 h2=>
   rw[List.foldl_cons,List.foldl_cons]
   refine zFN ps qs _ _ h2 ?_
   rw[<-h1.1]
   exact KV.put h' p.1 h1.2
 | [],_::_,_,_,h,_=>by cases h
 | _::_,[],_,_,h,_=>by cases h
theorem zG5 (ps:List (Key×V)):(zES ps).length<=ps.length:=by
 have:∀(ps:List (Key×V))(a:List (Key×V)),(ps.foldl (fun a p=>zCH a p.1 p.2) a).length<=a.length+ps.length:=by
  intro ps
  induction ps with
  | nil=>intro a;exact zK _
  | cons q qs ih=>
   intro a
   have h1:=ih (zCH a q.1 q.2)
   have h2:=zBL a q.1 q.2
   rw[List.foldl_cons,zn];omega
 have:=this ps []
 simpa [zES] using this
theorem zHS (hc:X.calm=true):zCl X (.type "dict") (fun xs H Q=>∃l ys ps,xs=[.ref l]/\SqL X.K H l ys/\zKJ H ys ps/\∀d,H d=none->Q (.ref d) (upd H d (.dK (zES ps)))):=by
 intro pins s σ H xs us Q I r h
 obtain⟨l,ys,ps,rfl,hq,⟨hpl,hps⟩,q⟩:=h
 obtain⟨u,rfl,rx⟩:=zCV r
 cases rx
 obtain⟨its,rv,pl,hz⟩:=I.list hq
 have hlen:=rv.length
 have both:∀(i:Nat),i<its.length->∃(p:Addr)(kv u:Value)(k:Key)(v:V),its[i]? = some (.ref p)/\IsTup s.heap p #[kv,u]/\(zAW X.prog X.w).is k kv=true/\zBH v u/\ps[i]? = some (k,v):=fun i hi=>by
  have hy:i<ys.length:=by omega
  obtain⟨p,k,v,e1,e2,e3⟩:=hps i ys[i] (by simp[hy])
  obtain⟨u,hu,ru⟩:=rv.get (i:=i) (x:=ys[i]) (by simp[hy])
  rw[e1] at ru
  cases (show u=Value.ref p from ru)
  obtain⟨_,us,rv',tp⟩:=I.hok p _ e2
  obtain⟨a,b,rfl,ra,rb⟩:=zJN rv'
  exact⟨p,a,b,k,v,hu,tp,zEJ ra,rb,e3⟩
 obtain⟨qs,hql,hqk⟩:∃qs:List (Key×Value),qs.length=its.length/\∀(i:Nat),i<its.length->∃(p:Addr)(kv u:Value)(k:Key)(v:V),its[i]? = some (.ref p)/\IsTup s.heap p #[kv,u]/\(zAW X.prog X.w).is k kv=true/\zBH v u/\ps[i]? = some (k,v)/\qs[i]? = some (k,u):=by
  have:∀m,m<=its.length->∃qs:List (Key×Value),qs.length=m/\∀(i:Nat),i<m->∃(p:Addr)(kv u:Value)(k:Key)(v:V),its[i]? = some (.ref p)/\IsTup s.heap p #[kv,u]/\(zAW X.prog X.w).is k kv=true/\zBH v u/\ps[i]? = some (k,v)/\qs[i]? = some (k,u):=by
   intro m
   induction m with
   | zero=>intro _;exact⟨[],rfl,fun i hi=>absurd hi (Nat.not_lt_zero _)⟩
   | succ m ih=>
    intro hm
    obtain⟨qs,h1,h2⟩:=ih (by omega)
    obtain⟨p,kv,u,k,v,g1,g2,g3,g4,g5⟩:=both m (by omega)
    refine⟨qs++[(k,u)],by rw[zP,h1];rfl,fun i hi=>?_⟩
    by_cases c:i=m
    . subst c
      exact⟨p,kv,u,k,v,g1,g2,g3,g4,g5,by rw[zT (by omega),h1,Nat.sub_self];rfl⟩
    . obtain⟨p,kv,u,k,v,f1,f2,f3,f4,f5,f6⟩:=h2 i (by omega)
      exact⟨p,kv,u,k,v,f1,f2,f3,f4,f5,by rw[zZ (by omega)];exact f6⟩
  exact this its.length (zK _)
 have kv:KV ps qs:=by
  have:∀(ps:List (Key×V))(qs:List (Key×Value)),ps.length=qs.length->(∀i,i<ps.length->∃k v u,ps[i]? = some (k,v)/\qs[i]? = some (k,u)/\zBH v u)->KV ps qs:=by
   intro ps
   induction ps with
   | nil=>intro qs e _;cases qs with
    | nil=>exact .nil
    | cons _ _=>simp at e
   | cons p ps ih=>
    intro qs e h
    cases qs with
    | nil=>simp at e
    | cons q qs=>
     obtain⟨k,v,u,h1,h2,h3⟩:=h 0 (by simp)
     simp at h1 h2
     subst h1 h2
     refine .cons ⟨rfl,h3⟩ (ih qs (by simpa using e) fun i hi=>?_)
     obtain⟨k,v,u,h1,h2,h3⟩:=h (i+1) (by simp;omega)
     exact⟨k,v,u,by simpa using h1,by simpa using h2,h3⟩
  refine this ps qs (by omega) fun i hi=>?_
  obtain⟨p,kv,u,k,v,_,_,_,f4,f5,f6⟩:=hqk i (by omega)
  exact⟨k,v,u,f5,f6,f4⟩
 refine zEN (its:=its) (qs:=qs) (I.ok.hd hc) pl (by omega) hql (fun i v hv=>?_) (fun D h tk hD K dd=>?_)
 . obtain⟨p,kv,u,k,v',f1,f2,f3,f4,f5,f6⟩:=hqk i (zJ.mp hv).1
   rw[hv] at f1;cases f1
   exact⟨p,kv,u,k,rfl,f2,f3,f6⟩
 . have hfr:H D=none:=I.hok.fresh hD
   have zz:(zES ps).length<=sizeLine:=zAD (zG5 ps) (by omega)
   refine⟨.ref D,_,I.laid (a:=D) (o:=.dK (zES ps)) (t':=tk) K hD (zGm zz (beq_eq_false_iff_ne.mpr (Ne.symm (ze (zk I.big hD)))) (zFN ps qs [] [] kv .nil) dd),rfl,q D hfr⟩
end
end L2
namespace L2
open PySem PySem.Spec PyProof.Rows
section
variable {X:Cx}
theorem zGX {x:Str}{T:String}{pos:Pos}(hm:X.mg x=none)(hg:Gl X x:=by rfl)(hv:bootBuiltins x=some (.type T):=by decide +kernel)(hn:x ≠ "__name__" := by decide) (hdb:(x==("__debug__" : Str))=false:=by decide):PE X (.Name x pos) (tC (.ty T)):=
 fun pins s σ H Q I h=>zCm I hg hm hv ⟨.ty T,H,I,rfl,h⟩ hn hdb
theorem zCP:zCl X (.builtin "isinstance") (fun xs H Q=>∃x T t b,xs=[x,.ty T]/\zHU X.K H x t/\PySem.W.kitOne X.K t (.type T)=some b/\Q (.bl b) H):=by
 intro pins s σ H xs us Q I r h
 obtain⟨x,T,t,b,rfl,ty,e,q⟩:=h
 obtain⟨u,w',rfl,rx,rT⟩:=zJN r
 cases (show w'=Value.type T from rT)
 exact zIk I rx ty e fun tk=>⟨.bl b,H,I.tok tk,rfl,q⟩
theorem zIF {st:Stmt}:PS X st (fun _ _ _=>False):=fun _ _ _ _ _ _ h=>h.elim
end
section
variable {prog:Program}{w:World}{A:Around}{s0:Shared}{I l:Addr}{bs:List Bool}
theorem zKG {R:Result->Shared->Prop}(hA:A.handled=none)(hI:s0.heap.objs.size<=I)(hl:s0.heap.IsList l (bs.map Value.bool).toArray)
 (hR:∀(h:Heap)(tk:Nat),Kp s0 h->R (.ok (.ret (.bool (bs.all id)))) { s0 with heap:=h,toks:=tk }) :
 ∀(r j:Nat)(h:Heap)(tk:Nat),bs.length-j=r->j<=bs.length->Kp s0 h->h.IsListIter I l j->(bs.take j).all id=true ->
  codeAny (model prog w) A (.builtin "all.loop" { pos:=[.ref I] }) R { s0 with heap:=h,toks:=tk }:=by
 have hl':∀h,Kp s0 h->h.IsList l (bs.map Value.bool).toArray:=fun h K=>by
  obtain⟨o,ho,hc⟩:=hl
  exact⟨o,K _ _ ho,hc⟩
 intro r
 induction r with
 | zero=>
  intro j h tk hr hj K hit ha
  refine codeAny_builtin PySem.F.entry_all_loop ?_
  unfold Builtin.«all.loop»
  refine zA (wpAny_pyNext_list_end hA hit (hl' h K) (by rw[zAU];exact zAY (by rw[zD];omega)) fun h' b=>?_)
  refine zA (wpAny_rule (zF ?_))
  rw[zf (by omega)] at ha
  have:=hR h' tk (K.but hI b)
  rw[ha] at this
  exact this
 | succ r ih=>
  intro j h tk hr hj K hit ha
  obtain⟨x,hx⟩:∃x,bs[j]? = some x:=⟨_,zB (by omega)⟩
  refine codeAny_builtin PySem.F.entry_all_loop ?_
  unfold Builtin.«all.loop»
  refine zA (wpAny_pyNext_list_item hit (hl' h K) (x:=.bool x) (by rw[zAU,zN,hx];rfl) fun h' hit' b=>?_)
  have K':Kp s0 h':=K.but hI fun c o hc e=>by rw[b.2 c hc];exact e
  refine zA (zAR (zA4 (zA (wpAny_letGo ?_))))
  cases x with
  | true=>
   refine zF ⟨rfl,?_⟩
   exact ih (j+1) h' tk (by omega) (by omega) K' hit' (by rw[zu,hx,List.all_append,ha];rfl)
  | false=>
   refine zA (wpAny_rule (zF ?_))
   have e:bs.all id=false:=by
    cases z:bs.all id with
    | false=>rfl
    | true=>have:=zAj.mp z false (zX hx);simp at this
   have:=hR h' tk K'
   rw[e] at this
   exact this
end
section
variable {X:Cx}
theorem zGq:∀{bs:List Bool}{its:List Value},zA8 (bs.map V.bl) its->its=bs.map Value.bool
 | [],[],_=>rfl
 | b::bs,u::its,h=>by
  cases h with
  | cons h1 h2=>rw[zAF,<-zGq h2,show u=Value.bool b from h1]
 | [],_::_,h=>by cases h
 | _::_,[],h=>by cases h
theorem zC8 (hc:X.calm=true):zCl X (.builtin "all") (fun xs H Q=>∃(p:Addr)(bs:List Bool),xs=[.ref p]/\SqL X.K H p (bs.map V.bl)/\Q (.bl (bs.all id)) H):=by
 intro pins s σ H xs us Q I r h
 obtain⟨p,bs,rfl,hq,q⟩:=h
 obtain⟨u,rfl,rx⟩:=zCV r
 cases rx
 obtain⟨its,r',pl,hz⟩:=I.list hq
 rw[zGq r'] at pl
 refine wpAny_call (codeAny_call_builtin PySem.F.plain_all PySem.F.entry_all (wpAny_of_eq (m':=pure ()) rfl (zF ?_)))
 unfold Builtin.all
 refine zA (wpAny_of_eq (m':=pure (Value.ref p)) rfl (zF (zA (wpAny_pyIter_list pl.isList (zF ⟨rfl,?_⟩)))))
 refine zKG (s0:=s) (l:=p) (bs:=bs) (I.ok.hd hc) (zK _) pl.isList ?_ bs.length 0 _ s.toks rfl (zh _) (fun b o e=>zH _ e) ?_ rfl
 . exact fun h tk K=>⟨.bl _,H,I.kept K,rfl,q⟩
 . exact⟨_,zS _ rfl,rfl,rfl⟩
end
theorem zLE {prog:Program}{w:World}{h:Heap}(led:Bool):(h.push { cls:=.type "set",data:=.set #[] 0 (SetTable.fresh 0 0 led) }).SetOf (intKind prog w) h.objs.size (fun _=>false) 0:=by
 refine⟨_,#[],0,_,zS _ rfl,⟨rfl,rfl,rfl⟩,rfl,?_,fun k=>⟨fun z=>by simp at z,fun ⟨e,he,_⟩=>by simp at he⟩,by decide,?_,rfl⟩
 . first | exact ElemsOf.nil | trivial | (intro e he;simp at he)
 . cases led <;> first | rfl | decide +kernel
theorem zGB {prog:Program}{w:World}{A:Around}{s:Shared}{l:Addr}{its:List Value}{ns:List Int}{Q E:vSP}(hA:A.handled=none)(hl:s.heap.IsTuple l its.toArray)(hi:IntsAre its ns)(hz:its.length+1<scanBound)
 (q:∀(h:Heap)(tk:Nat),Kp s h->h.SetOf (intKind prog w) s.heap.objs.size (fun k'=>(firstMet (fun i=>ns.getD i 0) its.length).any fun x=>x==k') (firstMet (fun i=>ns.getD i 0) its.length).length->Q (.ref s.heap.objs.size) { s with heap:=h,toks:=tk }) :
 wpAny (model prog w) A (call (.type "set") [.ref l]) Q E s:=by
 refine wpAny_call (codeAny_of_tree (zF ⟨Code.quiet_builtin _ (by decide +kernel),codeAny_builtin PySem.F.entry_type_call ?_⟩))
 unfold Builtin.«type.__call__»
 dsimp only
 rw[if_neg (by rw[PySem.F.called_set.notType];decide)]
 rw[if_neg (by rw[PySem.F.called_set.canCreate];decide)]
 obtain⟨c,tl,hm⟩:=PySem.F.called_set.mro
 refine zA (wpAny_of_eq (PySem.F.typeCall_set_1 _) (zF (zA (wpAny_of_eq hm (zF ?_)))))
 refine zA (wpAny_of_eq PySem.F.called_set.made (zF (zA (zF ?_))))
 refine zA (zAR (wpAny_call (codeAny_mono (code_set_new_1 (E:=E) (.ref l) (Q₁:=fun obj s₁=>obj = .ref s.heap.objs.size/\∃led,s₁={ s with heap:=s.heap.push { cls:=.type "set",data:=.set #[] 0 (SetTable.fresh 0 0 led) } }) fun led=>⟨rfl,led,rfl⟩) fun r s₁ e=>?_)))
 match r,e with
 | .ok (.ret obj),e=>
  obtain⟨rfl,led,rfl⟩:=e
  have h0:Kp s (s.heap.push { cls:=.type "set",data:=.set #[] 0 (SetTable.fresh 0 0 led) }):=fun b o e=>zH _ e
  have ht:∀h,Kp s h->h.IsTuple l its.toArray:=fun h K=>by
   obtain⟨o,ho,hr⟩:=hl
   exact⟨o,K _ _ ho,hr⟩
  have hlt:l<s.heap.objs.size:=by
   obtain⟨o,ho,_⟩:=hl
   exact zU ho
  have tyS:Shared.TypeIs { s with heap:=s.heap.push { cls:=.type "set",data:=.set #[] 0 (SetTable.fresh 0 0 led) } } (.ref s.heap.objs.size) "set" := ⟨_,zS _ rfl,rfl⟩
  show wpAny _ _ _ _ _ _
  refine zA (zBU tyS PySem.F.called_set.sub ?_)
  refine zA (zAR ?_)
  unfold callSpecial?
  refine zA (wpAny_specialOf tyS PySem.F.called_set.init.lookup (zAR (zA (wpAny_of_eq (PySem.F.called_set.init.bind _) (zF (zA (wpAny_call (codeAny_call_builtin PySem.F.called_set.init.plain PySem.F.entry_set_init (check_set_init_1 tyS ?_)))))))))
  unfold Builtin.«set.__init__»
  refine zA (wpAny_of_eq (m':=pure ()) rfl (zF ?_))
  dsimp only
  refine zA (zA (zA (zBV tyS (wpAny_of_eq (m':=pure (Value.type "set")) rfl (zF (wpAny_of_eq (m':=pure "set") rfl (zF ?_)))))))
  refine zA (wpAny_of_eq (m':=pure ()) rfl (zF (zA (zF ?_))))
  refine zA (zA (zA (wpAny_load (zS _ rfl) ?_)))
  refine wpAny_of_eq (m':=pure (#[],0,SetTable.fresh 0 0 led)) (by cases led <;> rfl) (zF (wpAny_of_eq (m':=pure false) (by cases led <;> rfl) (zF ?_)))
  have tyT:∀h tk,Kp s h->Shared.TypeIs { s with heap:=h,toks:=tk } (.ref l) "tuple" := fun h tk K=>by
   obtain⟨o,ho,hr⟩:=ht h K
   exact⟨o,ho,hr.1⟩
  show wpAny _ _ (Builtin.Frozenset.updateFrom "set.__init__" s.heap.objs.size (.ref l) >>= _) _ _ _
  unfold Builtin.Frozenset.updateFrom
  refine zA (zA (zA (zBU (tyT _ _ h0) PySem.F.sub_tuple_set (zBU (tyT _ _ h0) (b:=false) rfl ?_))))
  refine zA (zBV (tyT _ _ h0) ?_)
  refine zA (wpAny_pyIter_tuple (ht _ h0) (zA (wpAny_runValue ?_)))
  have hsz:(s.heap.push { cls:=.type "set",data:=.set #[] 0 (SetTable.fresh 0 0 led) }).objs.size=s.heap.objs.size+1:=zAq ..
  refine codeAny_set_update_loopS (Walks.toS (Walks.tuple (A:=(A.under (Code.builtin "type.__call__" { pos:=[.type "set",.ref l] })).in1.in1) hA (s.heap.push { cls:=.type "set",data:=.set #[] 0 (SetTable.fresh 0 0 led) }).objs.size l (ze (by rw[hsz];exact zAt hlt)) its.toArray)) s.heap.objs.size ?_ (fun i=>ns.getD i 0) ?_ (by simpa using hz) its.toArray.size 0 _ rfl (zh _) ?_ ?_ ?_
  . rw[hsz]
    intro z
    rcases zc.mp z with z | z
    . exact absurd z (ze (Nat.lt_succ_self _))
    . exact absurd (zm.mp z) (Nat.ne_of_gt hlt)
  . intro i v hv
    rw[zAU] at hv
    exact hi.int_at i v hv
  . exact⟨⟨_,zS _ rfl,rfl,rfl⟩,ht _ fun b o e=>zH _ (h0 b o e)⟩
  . have:=zLE (prog:=prog) (w:=w) (h:=s.heap) led
    obtain⟨o,es,ep,t,ho,hr⟩:=this
    exact⟨o,es,ep,t,zH _ ho,hr⟩
  . intro s' mv so
    refine zF (zF (zF (zF ?_)))
    obtain⟨h',g',d',t',o'⟩:=s'
    obtain rfl:g'=s.gens:=mv.gens
    obtain rfl:d'=s.drawn:=mv.drawn
    obtain rfl:o'=s.os:=mv.os
    refine q h' t' (fun b o e=>mv.heap b o ?_ (zH _ (h0 b o e))) (by simpa using so)
    have hb:b<s.heap.objs.size:=zU e
    intro z
    rw[hsz] at z
    rcases zc.mp z with z | z
    . exact absurd z (ze hb)
    . exact absurd (zm.mp z) (ze (zAt hb))
 | .ok .next,e=>exact e.elim
 | .ok .brk,e=>exact e.elim
 | .ok .cont,e=>exact e.elim
 | .error v,e=>exact e
theorem zDy {ns:List Int}(h:ns.Nodup):∀k,k<=ns.length->firstMet (fun i=>ns.getD i 0) k=ns.take k
 | 0,_=>rfl
 | k+1,hk=>by
  rw[firstMet_succ,zDy h k (by omega)]
  have hx:ns[k]? = some (ns.getD k 0):=by rw[zE,zB (by omega)];rfl
  unfold step_dedup
  rw[if_neg,zu,hx]
  . rfl
  . intro z
    obtain⟨y,hy,e⟩:=zBr.mp z
    have e':y=ns.getD k 0:=by simpa using e
    obtain⟨j,hj,ej⟩:=zv hy
    rw[zx] at hj
    rw[List.getElem_take] at ej
    obtain⟨hk',ek⟩:=zJ.mp hx
    have:=(List.nodup_iff_pairwise_ne.mp h)
    have:=zAd.mp this j k (by omega) (by omega) (by omega)
    exact this (by rw[ej,ek,e'])
section
variable {X:Cx}
theorem zI5 (hc:X.calm=true):zCl X (.type "set") (fun xs H Q=>∃(p:Addr)(ns:List Int),xs=[.ref p]/\SqT X.K H p (ns.map V.int)/\ns.length<=1000 /\
 ∀d S,H d=none->Q (.ref d) (upd H d (.set S (firstMet (fun i=>ns.getD i 0) ns.length).length))):=by
 intro pins s σ H xs us Q I r h
 obtain⟨p,ns,rfl,hq,hl,q⟩:=h
 obtain⟨u,rfl,rx⟩:=zCV r
 cases rx
 obtain⟨its,rv,pl,hz⟩:=I.tuple hq
 have hi:=zBh rv
 have hil:=hi.length
 refine zGB (I.ok.hd hc) pl hi (by have:scanBound=4096:=rfl;omega) fun h tk K so=>?_
 rw[hil] at so
 exact⟨.ref s.heap.objs.size,_,I.laid (a:=s.heap.objs.size) (t':=tk) K (zK _) (show zBe X.prog X.w _ _ _ (.set _ _) from so),rfl,q _ _ I.fresh⟩
theorem zI7:zCl X (.builtin "len") (fun xs H Q=>∃(a:Addr)(S:Int->Bool)(n:Nat),xs=[.ref a]/\H a=some (.set S n)/\Q (.int n) H):=by
 intro pins s σ H xs us Q I r h
 obtain⟨a,S,n,rfl,ha,q⟩:=h
 obtain⟨u,rfl,rx⟩:=zCV r
 cases rx
 obtain⟨o,es,ep,t,ho,ex,hd,_,_,hb,hf,hn⟩:=(show zBe X.prog X.w H s.heap a (.set S n) from I.hok a _ ha)
 refine call_len_set ho ex hd hf (by have:scanBound=4096:=rfl;omega) ⟨.int n,H,I.tok _,⟨_,by rw[hn]⟩,q⟩
noncomputable def tBMT (r:V->List V->Hp->VK->Prop)(to:TE)(t:TA):TE:=fun σ H Q=>to σ H fun x H1=>(∃p ys,x = .ref p/\H1 p=some (.tup ys))/\t σ H1 fun xs H2=>r x xs H2 Q
variable {o e:Expr}{es:List Expr}{to:TE}{t:TA}{name:Str}{apos cpos:Pos}{id:String}{r:V->List V->Hp->VK->Prop}
theorem pe_bmT (slot:Slot "tuple" name id) (hty:typeOf (.builtin id)=pure (.type "method_descriptor")) (hm:MtR X id r)(ho:PE X o to)(ha:PA X (e::es) t)
 (hbase:attributeBase o name X.env (eval o X.env)=eval o X.env:=by rfl)
 (hfew:((backTo cpos (starEach (e::es) X.env)).all (fun x=>!x.1) && (backToKw cpos (keywordEach [] X.env)).all (fun x=>x.1.isSome)
  && decide ((e::es).length+([]:List Keyword).length+(if ([]:List Keyword).isEmpty then 0 else 1)<30))=true:=by rfl)
 (hline:(apos.endLine==cpos.line)=true:=by rfl)(hs:starEach (e::es) X.env=(false,eval e X.env)::starEach es X.env:=by rfl)(hplain:(backTo cpos (starEach es X.env)).any (·.1)=false:=by rfl) :
 PE X (.Call (.Attribute o name apos) (e::es) [] cpos) (tBMT r to t):=by
 intro pins s σ H Q I h
 refine wpAny_Call_method_late hbase hfew hline rfl (thn (ho pins s σ H _ I h) fun v s1 ⟨x,H1,I1,r1,⟨p,ys,ex,hp⟩,q1⟩=>?_)
 subst ex
 cases (show v=Value.ref p from r1)
 obtain⟨⟨_,o2,ho2,hd2⟩,its,rv,ob,hob,hcl,_⟩:=(show zBe X.prog X.w H1 s1.heap p (.tup ys) from I1.hok p _ hp)
 refine⟨"tuple",id,PySem.F.plainAttrs_tuple,slot,hty,⟨ob,hob,hcl⟩,fun a ea=>?_,?_⟩
 . cases ea
   exact⟨o2,ho2,hd2⟩
 have hA:=ha cpos pins s1 σ H1 _ I1 q1
 rw[hs] at hA ⊢
 refine Calls.callWith_builtin (by show (false || (backTo cpos (starEach es X.env)).any (·.1))=false;rw[hplain] <;> rfl) (Calls.evalArgs_plain ?_)
 exact thn hA fun us s2 ⟨vs,H2,I2,r2,q2⟩=>hm pins s2 σ H2 (.ref p) vs (.ref p) us Q I2 rfl r2 q2
end
section
variable {prog:Program}{w:World}{A:Around}{E:vSP}
theorem zIm {its:Array Value}{ns:List Int}{v:Int}{tv:Tok}{i:Nat}{R:Option PySem.Fin×Unit->Shared->Prop}(hi:IntsAre its.toList ns)(hv:ns[i]? = some v)(hno:∀j,j<i->ns[j]?≠some v)
 (f:Nat->Option PySem.Fin×Unit->Sem (ForInStep (Option PySem.Fin×Unit)))
 (hf:∀(j:Nat)(x:Option PySem.Fin×Unit),f j x=(match its[j]? with
  | some y=>do
   let b <-eqBool y (.int v tv)
   if b=true then do
    let r <-retInt j
    pure (.done (some r,()))
   else pure (.yield (none,()))
  | _=>pure (.yield (none,()))))
 (s:Shared)(hR:∀tk,R (some (.done (.ret (.int i s.toks))),()) { s with toks:=tk }) :
 ∀(r j:Nat)(b:Option PySem.Fin×Unit),i-j=r->j<=i->wpAny (model prog w) A (forIn (List.range' j (its.size-j) 1) b f) R E s:=by
 have hsz:its.size=ns.length:=by have:=hi.length;simpa using this
 have hil:i<ns.length:=(zJ.mp hv).1
 have look:∀j,j<ns.length->∃t,its[j]? = some (.int (ns.getD j 0) t):=fun j hj=>by
  have hj':j<its.size:=by omega
  obtain⟨t,ht⟩:=hi.int_at j (its[j]'hj') (by rw[Array.getElem?_toList,Array.getElem?_eq_getElem hj'])
  exact⟨t,by rw[Array.getElem?_eq_getElem hj',ht]⟩
 intro r
 induction r with
 | zero=>
  intro j b hr hj
  obtain rfl:j=i:=by omega
  rw[show its.size-j=(its.size-j-1)+1 by omega,List.range'_succ,List.forIn_cons,hf]
  obtain⟨t,ht⟩:=look j hil
  rw[ht]
  refine zA (zA (wpAny_eqBool_int ?_))
  have e:ns.getD j 0=v:=by rw[zE,hv];rfl
  rw[e,show (v==v)=true by simp]
  refine zA (zA (wpAny_mkInt (zF (zF (zF ?_)))))
  exact hR _
 | succ r ih=>
  intro j b hr hj
  rw[show its.size-j=(its.size-(j+1))+1 by omega,List.range'_succ,List.forIn_cons,hf]
  obtain⟨t,ht⟩:=look j (by omega)
  rw[ht]
  refine zA (zA (wpAny_eqBool_int ?_))
  have hj':ns[j]? = some (ns.getD j 0):=by rw[zE,zB (by omega)];rfl
  have e:¬ ns.getD j 0=v:=fun z=>hno j (by omega) (by rw[hj',z])
  rw[show (ns.getD j 0==v)=false by simpa using e]
  refine zF ?_
  exact ih (j+1) _ (by omega) (by omega)
end
section
variable {X:Cx}
theorem zJy:MtR X "tuple.index" (fun x xs H Q=>∃(p:Addr)(ns:List Int)(i:Nat)(v:Int),x = .ref p/\xs=[.int v]/\SqT X.K H p (ns.map V.int)/\ns[i]? = some v/\(∀j,j<i->ns[j]?≠some v)/\Q (.int i) H):=by
 intro pins s σ H x xs v us Q I rx r h
 obtain⟨p,ns,i,k,rfl,rfl,hq,hi,hno,q⟩:=h
 cases (show v=Value.ref p from rx)
 obtain⟨u,rfl,t,rfl⟩:=zCV r
 obtain⟨its,rv,⟨ob,hob,hcl,n,hdat⟩,hz⟩:=I.tuple hq
 have hI:=zBh rv
 refine wpAny_call (codeAny_call_builtin PySem.F.slot_tuple_index.plain PySem.F.entry_tuple_index (PySem.F.slot_tuple_index.check _ _ _ _ _ _ _ _ ⟨ob,hob,hcl⟩ (PySem.F.args_tuple_index_2 _ _) ?_))
 unfold Builtin.«tuple.index»
 refine zA (wpAny_of_eq (m':=pure (Value.ref p,[Value.int k t])) rfl (zF ?_))
 refine zA (zA (zBf hob hdat (zF ?_)))
 refine zA (zF (zA (zF (zA ?_))))
 rw[Std.Legacy.Range.forIn_eq_forIn_range']
 have hsz:(Std.Legacy.Range.mk 0 (min its.toArray.size its.toArray.size) 1 (by decide)).size=its.toArray.size-0:=by
  show (min its.toArray.size its.toArray.size-0+1-1)/1=_
  rw[Nat.min_self];omega
 rw[hsz]
 refine zIm (its:=its.toArray) (ns:=ns) (v:=k) (tv:=t) (i:=i) hI hi hno _ (fun j x=>by rfl) s (fun tk=>?_) i 0 _ (by omega) (zh _)
 exact zF ⟨.int i,H,I.tok _,⟨_,rfl⟩,q⟩
end
section
variable {X:Cx}{pl:lPO}{N':List Str}{sc:Scope}{fp:List Addr}{s3:Shared}{H3:Hp}
theorem zIY:MtR (zBA X pl N' sc fp s3 H3) "tuple.index" (fun x xs H Q=>∃(p:Addr)(ns:List Int)(i:Nat)(v:Int),x = .ref p/\xs=[.int v]/\SqT X.K H p (ns.map V.int)/\ns[i]? = some v/\(∀j,j<i->ns[j]?≠some v)/\Q (.int i) H):=zJy
end
section
variable {prog:Program}{w:World}{A:Around}{s:Shared}{l:Addr}{its:List Value}{ns:List Int}{v:Int}{tv:Tok}
theorem zFL (a:Args):(Code.builtin "list.count.loop" a).quiet=true:=Code.quiet_builtin a (by decide +kernel)
theorem zHP {R:Result->Shared->Prop}(hl:s.heap.IsList l its.toArray)(hi:IntsAre its ns)(hR:∀(t:Tok)(tk:Nat),R (.ok (.ret (.int (ns.countP fun x=>x==v:Nat) t))) { s with toks:=tk }) :
 ∀(r j:Nat),its.length-j=r->j<=its.length->codeAny (model prog w) A (.builtin "list.count.loop" { pos:=[.ref l,.int v tv,rawInt j,rawInt ((ns.take j).countP fun x=>x==v:Nat)] }) R s:=by
 have hil:=hi.length
 intro r
 induction r with
 | zero=>
  intro j hr hj
  refine codeAny_builtin (b:=Builtin.«list.count.loop») (by rfl) ?_
  unfold Builtin.«list.count.loop»
  obtain⟨o,ho,hc,n,hd⟩:=id hl
  refine zA (zA (zBf ho hd (zF ?_)))
  have e:its.toArray[(j:Int).toNat]? = none:=by rw[zAU,zAe];exact zAY (by omega)
  rw[e]
  rw[zf (by omega)]
  exact zA (wpAny_mkInt (zF (hR _ _)))
 | succ r ih=>
  intro j hr hj
  refine codeAny_builtin (b:=Builtin.«list.count.loop») (by rfl) ?_
  unfold Builtin.«list.count.loop»
  obtain⟨o,ho,hc,n,hd⟩:=id hl
  refine zA (zA (zBf ho hd (zF ?_)))
  obtain⟨x,hx⟩:∃x,its[j]? = some x:=⟨_,zB (by omega)⟩
  obtain⟨t,rfl⟩:=hi.int_at j x hx
  have e:its.toArray[(j:Int).toNat]? = some (.int (ns.getD j 0) t):=by rw[zAU,zAe];exact hx
  rw[e]
  refine zA (wpAny_eqBool_int ?_)
  refine zF ⟨zFL _,?_⟩
  have hj':ns[j]? = some (ns.getD j 0):=by rw[zE,zB (by omega)];rfl
  have st:(ns.take (j+1)).countP (fun x=>x==v)=(ns.take j).countP (fun x=>x==v)+(if (ns.getD j 0==v)=true then 1 else 0):=by
   rw[zu,hj',List.countP_append]
   show _+List.countP _ [ns.getD j 0]=_
   rw[List.countP_cons,List.countP_nil,Nat.zero_add]
  have:=ih (j+1) (by omega) (by omega)
  rw[st] at this
  cases c:(ns.getD j 0==v) with
  | true=>rw[c] at this;exact this
  | false=>rw[c] at this;exact this
end
section
variable {X:Cx}
theorem zJz:MtR X "list.count" (fun x xs H Q=>∃(p:Addr)(ns:List Int)(v:Int),x = .ref p/\xs=[.int v]/\SqL X.K H p (ns.map V.int)/\Q (.int (ns.countP fun x=>x==v:Nat)) H):=by
 intro pins s σ H x xs u us Q I rx r h
 obtain⟨p,ns,v,rfl,rfl,hq,q⟩:=h
 cases (show u=Value.ref p from rx)
 obtain⟨w',rfl,t,rfl⟩:=zCV r
 obtain⟨its,rv,pl,hz⟩:=I.list hq
 have hi:=zBh rv
 refine wpAny_call (codeAny_call_builtin PySem.F.slot_list_count.plain PySem.F.entry_list_count (PySem.F.slot_list_count.check _ _ _ _ _ _ _ _ pl.isList.typeIs (PySem.F.args_list_count_2 _ _) ?_))
 unfold Builtin.«list.count»
 refine zA (wpAny_of_eq (m':=pure (Value.ref p,Value.int v t)) rfl (zF (zF ⟨zFL _,?_⟩)))
 refine zHP (s:=s) (ns:=ns) pl.isList hi ?_ its.length 0 (by omega) (zh _)
 exact fun t' tk=>⟨.int _,H,I.tok _,⟨t',rfl⟩,q⟩
end
end L2
namespace WM
open L2
structure En where
 h:Int
 l:Int
 u:Option Int
 d:Option Int
noncomputable def Cd (es fs:List En)(c:Int×Int):Prop:=∃e∈es,∃f∈fs,f.h=e.h/\c=(e.l+f.l,e.h)
noncomputable def LMin (P:Int×Int->Prop):Option (Int×Int)->Prop
 | none=>∀c,¬ P c
 | some c=>P c/\∀c',P c'->c.1<c'.1\/(c.1=c'.1/\c.2<=c'.2)
noncomputable def Hub (es:List En):Prop:=es.Pairwise fun a b=>a.h<b.h
noncomputable def zEM (es:List En)(h:Int):Option En:=es.find? fun e=>decide (e.h=h)
variable {es:List En}
theorem zB2 (hs:Hub es){h:Int}{e:En}:zEM es h=some e↔e∈es/\e.h=h:=by
 unfold zEM
 constructor
 . intro z
   exact⟨List.mem_of_find?_eq_some z,of_decide_eq_true (List.find?_some (p:=fun e:En=>decide (e.h=h)) z)⟩
 . rintro ⟨hm,rfl⟩
   induction es with
   | nil=>simp at hm
   | cons a es ih=>
    rw[zBi]
    rcases zc.mp hm with rfl | hm'
    . simp
    . have hp:=zAX.mp hs
      have:=hp.1 e hm'
      rw[zY (show ¬ a.h=e.h by omega)]
      exact ih hp.2 hm'
theorem zIs {h:Int}:zEM es h=none↔∀e∈es,e.h≠h:=by
 unfold zEM
 rw[List.find?_eq_none]
 exact⟨fun z e he=>fun q=>z e he (zO q),fun z e he=>fun q=>z e he (of_decide_eq_true q)⟩
noncomputable def zJQ (es fs:List En)(o p:Int):Option (Int×Int)->Option Int
 | none=>none
 | some c=>if o=p then none else if c.2=o then (zEM fs c.2).bind (·.d) else (zEM es c.2).bind (·.u)
noncomputable def cOf (fs:List En)(e:En):Option (Int×Int):=(zEM fs e.h).map fun f=>(e.l+f.l,e.h)
theorem zMC {fs:List En}(hf:Hub fs)(c:Int×Int):c∈es.filterMap (cOf fs)↔Cd es fs c:=by
 rw[zAw]
 constructor
 . rintro ⟨e,he,z⟩
   unfold cOf at z
   cases q:zEM fs e.h with
   | none=>rw[q] at z;cases z
   | some f=>
    rw[q] at z
    obtain⟨h1,h2⟩:=(zB2 hf).mp q
    exact⟨e,he,f,h1,h2,(zR z).symm⟩
 . rintro ⟨e,he,f,hfm,h1,rfl⟩
   refine⟨e,he,?_⟩
   unfold cOf
   rw[(zB2 hf).mpr ⟨hfm,h1⟩]
   rfl
theorem zFb {α:Type}{l:List α}{i:Nat}{x:α}(p:α->Bool)(h:l[i]? = some x):(l.take (i+1)).filter p=(l.take i).filter p++(if p x=true then [x] else []):=by
 rw[zu,h,zAV]
 show _++List.filter p [x]=_
 rw[zA2]
 rfl
theorem zL8 {α β:Type}{l:List α}{i:Nat}{x:α}(f:α->Option β)(h:l[i]? = some x):(l.take (i+1)).filterMap f=(l.take i).filterMap f++(f x).toList:=by
 rw[zu,h,List.filterMap_append]
 show _++List.filterMap f [x]=_
 cases e:f x with
 | none=>rw[List.filterMap_cons_none e];rfl
 | some y=>rw[List.filterMap_cons_some e];rfl
end WM
namespace L2
open PySem PyProof.Rows
theorem zID {ps:List (Key×V)}(h:(ps.map (·.1)).Nodup):zES ps=ps:=by
 have:∀(ps a:List (Key×V)),((a++ps).map (·.1)).Nodup->ps.foldl (fun a p=>zCH a p.1 p.2) a=a++ps:=by
  intro ps
  induction ps with
  | nil=>intro a _;rw[zt];rfl
  | cons p ps ih=>
   intro a hn
   have e:zCH a p.1 p.2=a++[p]:=by
    unfold zCH
    rw[if_neg]
    intro z
    obtain⟨q,hq,e⟩:=zBr.mp z
    have e':=of_decide_eq_true e
    rw[zV,zAF] at hn
    have:=(List.nodup_append.mp hn).2.2 q.1 (List.mem_map_of_mem hq) p.1 za
    exact this e'
   rw[List.foldl_cons,e,ih (a++[p]) (by rw[List.append_assoc];exact hn),List.append_assoc]
   rfl
 exact this ps [] h
end L2
namespace WM
structure EG (ts:List T3)(n v:Int)(e:En):Prop where
 rng:0<=e.h/\e.h<n
 len:IsD ts v e.h e.l
 up:e.h≠v->∃p,e.u=some p/\Nxt ts v e.h p
 dn:e.h≠v->∃p,e.d=some p/\Nxt ts e.h v p
structure LG (ts:List T3)(n v:Int)(es:List En):Prop where
 hub:Hub es
 ent:∀e∈es,EG ts n v e
 own:∃e∈es,e.h=v
noncomputable def CovP (ts:List T3)(v w:Int)(es fs:List En):Prop:=∀d,IsD ts v w d->∃h,Btw ts v w h/\(∃e∈es,e.h=h)/\∃f∈fs,f.h=h
variable {n v:Int}{ts:List T3}{es:List En}
theorem LG.zero (g:GW n ts)(L:LG ts n v es):∃e r,es.filter (fun e=>decide (e.l=0))=e::r/\e.h=v:=by
 obtain⟨o,ho,hov⟩:=L.own
 have hl:o.l=0:=by
  have:=(L.ent o ho).len
  rw[hov] at this
  exact this.uniq (zCM g v)
 have hm:o∈es.filter (fun e=>decide (e.l=0)):=zAB.mpr ⟨ho,zO hl⟩
 cases e:es.filter (fun e=>decide (e.l=0)) with
 | nil=>rw[e] at hm;simp at hm
 | cons a r=>
  have ha:a∈es.filter (fun e=>decide (e.l=0)):=by rw[e];exact za
  obtain⟨h1,h2⟩:=zAB.mp ha
  have:=(zCi g (L.ent a h1).len).mp (of_decide_eq_true h2)
  exact⟨a,r,rfl,this.symm⟩
variable {w:Int}
theorem zCF (g:GW n ts){fs:List En}(L1:LG ts n v es)(L2:LG ts n w fs)(C:CovP ts v w es fs){lm:Option (Int×Int)}(h:LMin (Cd es fs) lm) :
 Len ts v w (lm.map (·.1))/\∀c,lm=some c->Btw ts v w c.2:=by
 cases lm with
 | none=>
  refine⟨fun d hd=>?_,fun c z=>by cases z⟩
  obtain⟨d',hd'⟩:=Way.least g hd
  obtain⟨x,_,⟨e,he,e1⟩,⟨f,hf,f1⟩⟩:=C d' hd'
  exact h _ ⟨e,he,f,hf,by rw[f1,e1],rfl⟩
 | some c=>
  obtain⟨⟨e,he,f,hf,hfe,rfl⟩,hmin⟩:=h
  have ie:=(L1.ent e he).len
  have if':=(L2.ent f hf).len
  rw[hfe] at if'
  have wy:Way ts v w (e.l+f.l):=ie.1.trans if'.1.symm
  obtain⟨d,hd⟩:=Way.least g wy
  obtain⟨x,⟨a,b,ia,ib,iab⟩,⟨e',he',e1⟩,⟨f',hf',f1⟩⟩:=C d hd
  have ed:a+b=d:=iab.uniq hd
  have ea:e'.l=a:=by have:=(L1.ent e' he').len;rw[e1] at this;exact this.uniq ia
  have eb:f'.l=b:=by have:=(L2.ent f' hf').len;rw[f1] at this;exact this.uniq ib.symm
  have hm:=hmin (e'.l+f'.l,e'.h) ⟨e',he',f',hf',by rw[f1,e1],rfl⟩
  have h1:=hd.2 _ wy
  have es:e.l+f.l=d:=by
   rcases hm with z | z
   . have:e.l+f.l<e'.l+f'.l:=z
     omega
   . have:e.l+f.l=e'.l+f'.l:=z.1
     omega
  have id':IsD ts v w (e.l+f.l):=by rw[es];exact hd
  refine⟨id',fun c z=>?_⟩
  cases z
  exact⟨e.l,f.l,ie,if'.symm,id'⟩
theorem Nxt.on {h p:Int}(x:Nxt ts v h p)(y:Btw ts v w h):Nxt ts v w p:=by
 obtain⟨l,b,ha,ib,ivh⟩:=x
 obtain⟨a,c,ia,ic,iac⟩:=y
 have e:a=l+b:=ia.uniq ivh
 refine⟨l,b+c,ha,⟨ib.1.trans ic.1,fun z hz=>?_⟩,by rw[<-Int.add_assoc,<-e];exact iac⟩
 have:=iac.2 _ ((Way.one ha).trans hz)
 omega
theorem zG0 (g:GW n ts){fs:List En}(L1:LG ts n v es)(L2:LG ts n w fs)(C:CovP ts v w es fs){c:Int×Int}(h:LMin (Cd es fs) (some c))(hne:v≠w) :
 ∃p,zJQ es fs v w (some c)=some p/\Nxt ts v w p:=by
 have hb:=(zCF g L1 L2 C h).2 c rfl
 obtain⟨⟨e,he,f,hf,hfe,rfl⟩,_⟩:=h
 show ∃p,(if v=w then none else if e.h=v then (zEM fs e.h).bind (·.d) else (zEM es e.h).bind (·.u))=some p/\_
 rw[if_neg hne]
 by_cases q:e.h=v
 . rw[if_pos q,(zB2 L2.hub).mpr ⟨hf,hfe⟩]
   obtain⟨p,h1,h2⟩:=(L2.ent f hf).dn (by rw[hfe,q];exact hne)
   rw[hfe,q] at h2
   exact⟨p,h1,h2⟩
 . rw[if_neg q,(zB2 L1.hub).mpr ⟨he,rfl⟩]
   obtain⟨p,h1,h2⟩:=(L1.ent e he).up q
   exact⟨p,h1,h2.on hb⟩
theorem zKg {P:Int->Prop}(rk:Int->Int):∀(m:Nat)(p:Int),P p->(rk p).toNat<=m->∃q,P q/\∀r,P r->(rk q).toNat<=(rk r).toNat
 | 0,p,hp,h=>⟨p,hp,fun r _=>by omega⟩
 | m+1,p,hp,h=>by
  by_cases c:∃r,P r/\(rk r).toNat<(rk p).toNat
  . obtain⟨r,hr,hlt⟩:=c
    exact zKg rk m r hr (by omega)
  . exact⟨p,hp,fun r hr=>Nat.le_of_not_lt fun z=>c ⟨r,hr,z⟩⟩
end WM
namespace L2
open PySem PySem.Spec PyProof.Rows
end L2
namespace SortT
open PySem PySem.W PySem.Calls PyProof.Rows
end SortT
namespace L2
open PySem PySem.Spec PyProof.Rows
section
variable {X:Cx}
noncomputable def rCatA (K:PySem.W.Frag):R2:=fun x y H Q=>∃a b xs ys,x = .ref a/\y = .ref b/\SqT K H a xs/\SqT K H b ys/\xs.length+ys.length<=sizeLine /\
 (xs=[]->Q (.ref b) H)/\(xs≠[]->ys=[]->Q (.ref a) H)/\(xs≠[]->ys≠[]->∀p,H p=none->Q (.ref p) (upd H p (.tup (xs++ys))))
theorem zMB {prog:Program}{w:World}{A:Around}{E:vSP}{s:Shared}{t b:Addr}{ws:List Value}{Q:vSP}(ht:IsTup s.heap t #[])(hb:IsTup s.heap b ws.toArray)
 (h:Q (.ref b) s):wpAny (model prog w) A (binaryOp .Add (.ref t) (.ref b)) Q E s:=by
 obtain⟨⟨cls,dd,data,sl⟩,ho,hc,n,hd⟩:=id ht
 obtain⟨⟨cls2,dd2,data2,sl2⟩,ho2,hc2,n2,hd2⟩:=id hb
 simp only at hc hd hc2 hd2
 subst hc hd hc2 hd2
 exact concat_meets ⟨_,ho,rfl⟩ ⟨_,ho2,rfl⟩ noFill_tuple_add seq_tuple_add PySem.F.slot_tuple_add PySem.F.entry_tuple_add (PySem.F.args_tuple_add_2 _ _)
  (tuple_addW0 t b #[] ws.toArray n n2 dd dd2 sl sl2 rfl) ⟨ho,ho2,h⟩
theorem zLc:OpR X (binaryOp .Add) (rCatA X.K):=by
 intro pins s σ H x y v u Q I rx ry h
 obtain⟨a,b,xs,ys,rfl,rfl,ha,hb,hz,q0,q1,q2⟩:=h
 by_cases hx:xs=[]
 . subst hx
   cases rx
   cases ry
   obtain⟨its,r1,p1,_⟩:=I.tuple ha
   obtain⟨its2,r2,p2,_⟩:=I.tuple hb
   cases r1
   exact zMB p1 p2 ⟨.ref b,H,I,rfl,q0 rfl⟩
 . exact zLb pins s σ H _ _ v u Q I rx ry ⟨a,b,xs,ys,rfl,rfl,ha,hb,hx,hz,q1 hx,q2 hx⟩
end
end L2
namespace HT
open PySem PySem.Spec PyProof.Rows
end HT
namespace L2
open PySem PySem.Spec PyProof.Rows
end L2
namespace HT
open PySem PySem.Spec PyProof.Rows
section
variable {prog:Program}{w:World}{A:Around}{E:vSP}{s:Shared}
theorem getItem_tuple_all {t sl:Addr}{items:Array Value}{vl vu:Value}{lo hi:Option Int}{Q:vSP}(ht:IsTup s.heap t items)(hs:s.heap.IsSliceOf sl vl vu .none)(pl:IsPart vl lo)(pu:IsPart vu hi)
 (hw:sIx items.size 0 lo=0/\sIx items.size items.size hi=items.size)(h:Q (.ref t) s):wpAny (model prog w) A (getItem (.ref t) (.ref sl)) Q E s:=by
 obtain⟨os,hos,hcs,hds⟩:=id hs
 have hTs:s.TypeIs (.ref sl) "slice" := ⟨os,hos,hcs⟩
 unfold getItem
 try with_reducible refine zAR ?_
 first | refine zA (zF ?_) | skip
 refine zA (wpAny_sequenceKey ht.typeIs (by decide) ?_)
 refine zA (zAv (name:=Str.ofString "__getitem__") ht.typeIs PyProof.Rows.slot_tuple_getitem
  (zA0 PyProof.Rows.slot_tuple_getitem ht.typeIs entry_tuple_getitem ?_ (args_tuple_getitem _ _)))
 show wpAny _ _ (Builtin.Tuple.tupleItemsOf (.ref t) >>= _) _ _ s
 refine zA (tupleItemsOf_ ht ?_)
 refine zA (zBV hTs ?_)
 rw[if_pos (by decide)]
 refine zA (zCQ hs pl pu ?_)
 have hyes:(((sIx items.size 0 lo:Nat):Int)==0 && (1:Int)==1 && (sIx items.size items.size hi-sIx items.size 0 lo)==items.size)=true:=by
  rw[hw.1,hw.2];simp
 show wpAny _ _ (if (((sIx items.size 0 lo:Nat):Int)==0 && (1:Int)==1 && (sIx items.size items.size hi-sIx items.size 0 lo)==items.size)=true then _ else _) _ _ s
 rw[if_pos hyes]
 unfold Builtin.Tuple.tupleIsExact
 refine zA (zA (zBV ht.typeIs (zF ?_)))
 rw[if_pos (by decide)]
 first
  | exact zA (wpAny_rule (zF ⟨_,rfl,zF h⟩))
  | exact zA (wpAny_rule (zF (zF ⟨_,rfl,zF h⟩)))
  | exact zA (wpAny_rule (zA (zF (zF ⟨_,rfl,zF h⟩))))
  | exact wpAny_rule (zF ⟨_,rfl,zF h⟩)
end
end HT
namespace L2
open PySem PySem.Spec PyProof.Rows
section
variable {X:Cx}{e:Expr}{te:TE}{pos p2 p3 p4:Pos}
noncomputable def rSlA (K:PySem.W.Frag):V->Option Int->Option Int->Hp->VK->Prop:=fun x lo hi H Q=>∃a xs,x = .ref a/\SqT K H a xs /\
 ((HT.sIx xs.length 0 lo=0/\HT.sIx xs.length xs.length hi=xs.length)->Q (.ref a) H)/\(¬ (HT.sIx xs.length 0 lo=0/\HT.sIx xs.length xs.length hi=xs.length)->∀p,H p=none->Q (.ref p) (upd H p (.tup (zHO xs lo hi))))
theorem zLC:SlR X (rSlA X.K):=by
 intro pins s σ H x v vl vu lo hi sl Q I rx hs pl pu h
 obtain⟨a,xs,rfl,hx,q1,q2⟩:=h
 by_cases c:HT.sIx xs.length 0 lo=0/\HT.sIx xs.length xs.length hi=xs.length
 . cases rx
   obtain⟨its,r,ht,hz⟩:=I.tuple hx
   have hlen:its.toArray.size=xs.length:=by rw[zM];exact r.length.symm
   refine⟨"tuple",_,PyProof.Rows.slot_tuple_getitem.lookup,ht.typeIs,?_⟩
   exact HT.getItem_tuple_all ht hs pl pu (by rw[hlen];exact c) ⟨.ref a,H,I,rfl,q1 c⟩
 . exact sl_tup pins s σ H _ v vl vu lo hi sl Q I rx hs pl pu ⟨a,xs,rfl,hx,c,q2 c⟩
end
section
variable {X:Cx}{pins:lPO}{σ:St}{H:Hp}{s:Shared}{h':Heap}
theorem Inv.turnedLaid {t':Nat}{fp:List Addr}{a:Addr}{o:HO}(I:Inv X pins σ H s)(hf:∀b∈fp,zGG X pins H b)(k:∀b u,b∉fp->s.heap.get? b=some u->h'.get? b=some u)(hp:s.heap.objs.size<=a)
 (new:zBe X.prog X.w (upd H a o) h' a o):Inv X pins σ (upd H a o) { s with heap:=h',toks:=t' }:=by
 have fr:H a=none:=I.hok.fresh hp
 have nfp:∀b u,H b=some u->b∉fp:=fun b u e z=>by rw[(hf b z).1] at e;cases e
 have na:∀b u,H b=some u->b≠a:=fun b u e z=>by rw[z,fr] at e;cases e
 refine I.step (g':=s.gens) (d':=s.drawn) (ch:=fp) (fun b hb=>?_) (fun b u _ _ hc e _=>k b u hc e) (fun b u _ _ hc e _=>⟨u.slots,k b u hc e⟩) (fun b u hc e n=>?_) (fun b u hc e=>⟨u,k b u hc e⟩)
  (fun b xs e=>by rw[zd (na b _ e)];exact e) (fun b u w e=>by rw[zd (na b _ e)];exact e) (fun b ps e=>⟨#[],by rw[zd (na b _ e),e];simp⟩) (fun m hm=>?_) (fun b u e=>?_) I.bare
 . obtain⟨f0,f1,f2,f3,f4,f5⟩:=hf b hb
   exact⟨f3,f1,f4,f5⟩
 . rw[zd (ze (zk (zU e) hp))]
   exact n
 . obtain⟨u,es,ep,ho,r⟩:=hm
   exact⟨u,es,ep,k _ u (fun z=>(hf _ z).2.1 rfl) ho,r⟩
 . by_cases z:b=a
   . subst z
     rw[zI] at e
     cases e
     exact new
   . rw[zd z] at e
     refine (I.hok b u e).stay (fun c v hc q=>k c v ?_ q) (fun c q=>by rw[zd (na c _ q)];exact q) fun c xs q=>by rw[zd (na c _ q)];exact q
     rcases hc with z | z
     . rw[z];exact nfp b u e
     . exact nfp c _ z
end
end L2
namespace L2
open PySem PySem.Spec PyProof.Rows
open PySem.AutoSeq1 (wpAny_loadPart')
variable {items:Array Value}
section
variable {prog:Program}{w:World}{A:Around}{E:vSP}{s:Shared}
theorem zG9 {it t:Addr}{i:Nat}{x:Value}{Q:vSP}(hi:s.heap.IsTupleIter it t i)(ht:s.heap.IsTuple t items)(hx:items[i]? = some x)
 (hQ:∀h',h'.IsTupleIter it t (i+1)->Heap.SameBut it s.heap h'->Q x { s with heap:=h' }):wpAny (model prog w) A (Builtin.SmallTypes.nextOf (.ref it)) Q E s:=by
 obtain⟨oi,hoi,ci,di⟩:=id hi
 obtain⟨ot,hot,_,nt,dt⟩:=ht
 unfold Builtin.SmallTypes.nextOf
 refine zA (zAv (name:=Str.ofString "__next__") hi.typeIs PySem.F.slot_tuple_iterator_next (zA0 PySem.F.slot_tuple_iterator_next hi.typeIs PySem.F.entry_tuple_iterator_next ?_ (PySem.F.args_tuple_iterator_next_1 _)))
 show wpAny (model prog w) _ (field (.ref it) 0 >>= _) _ _ s;refine zA (wpAny_field hoi di (x:=.ref t) rfl ?_)
 show wpAny (model prog w) _ (if (Value.ref t==Value.none)=true then _ else _) _ _ s;rw[if_neg (show ¬ ((Value.ref t==Value.none)=true) from zb)]
 show wpAny (model prog w) _ (field (.ref it) 1 >>= _) _ _ s;refine zA (wpAny_field hoi di (x:=.int i 0) rfl ?_)
 show wpAny (model prog w) _ (seqItems? (.ref t) >>= _) _ _ s;refine zA (zBf hot dt ?_)
 simp only[hx,zAe]
 refine zA (wpAny_setField hoi di (by simp) (zF ⟨x,rfl,zF (hQ _ ?_ (zBp ..))⟩))
 refine⟨_,zBY _ hoi (Obj.isFreed_of_fields (Obj.data_mapFields di _)),(Obj.cls_mapFields ..).trans ci,?_⟩
 rw[Obj.data_mapFields di];simp[rawInt]
theorem zFe {it t:Addr}{i:Nat}{Q:vSP}(hA:A.handled=none)(hi:s.heap.IsTupleIter it t i)(ht:s.heap.IsTuple t items)(hx:items[i]? = none)
 (hE:∀h' e,Heap.ExtBut it s.heap h'->(∃o,h'.get? e=some o/\o.cls = .type "StopIteration")->E (.ref e) { s with heap:=h' }):wpAny (model prog w) A (Builtin.SmallTypes.nextOf (.ref it)) Q E s:=by
 obtain⟨oi,hoi,ci,di⟩:=id hi
 obtain⟨ot,hot,_,nt,dt⟩:=ht
 unfold Builtin.SmallTypes.nextOf
 refine zA (zAv (name:=Str.ofString "__next__") hi.typeIs PySem.F.slot_tuple_iterator_next (zA0 PySem.F.slot_tuple_iterator_next hi.typeIs PySem.F.entry_tuple_iterator_next ?_ (PySem.F.args_tuple_iterator_next_1 _)))
 show wpAny (model prog w) _ (field (.ref it) 0 >>= _) _ _ s;refine zA (wpAny_field hoi di (x:=.ref t) rfl ?_)
 show wpAny (model prog w) _ (if (Value.ref t==Value.none)=true then _ else _) _ _ s;rw[if_neg (show ¬ ((Value.ref t==Value.none)=true) from zb)]
 show wpAny (model prog w) _ (field (.ref it) 1 >>= _) _ _ s;refine zA (wpAny_field hoi di (x:=.int i 0) rfl ?_)
 show wpAny (model prog w) _ (seqItems? (.ref t) >>= _) _ _ s;refine zA (zBf hot dt ?_)
 simp only[hx,zAe]
 refine zA (wpAny_rule (zA (wpAny_setField hoi di (by simp) ?_)))
 show wpAny (model prog w) _ (newExc (.type "StopIteration") [] >>= _) _ _ _;refine zA ?_
 simp only[newTuple,newExc]
 refine zA (zAk ?_ (by size_fits));refine zA (m:=firstArgMember _ _) (PySem.wpAny_of_eq (a:=Value.none) (by first | rfl | (simp only[firstArgMember];rfl)) ?_)
 refine zAk ?_ (by size_fits);simp only[raiseNew];refine zA (wpAny_handled ?_)
 first
  | rw[show A.in1.handled=none from hA]
  | rw[hA]
 exact zA (zF (wpAny_throw (hE _ _ (((zBp ..).extBut.push _).push _) ⟨_,zS _ rfl,rfl⟩)))
end
theorem zIt {prog:Program}{w:World}{A:Around}(hA:A.handled=none)(it t:Addr)(hne:t≠it)(items:Array Value) :
 Draws prog w A it [it,t] items.size (fun i v=>items[i]? = some v) (fun i h=>h.IsTupleIter it t i/\h.IsTuple t items) where
 live:=fun _ _ st=>by
  obtain⟨⟨o,ho,_⟩,_⟩:=st
  exact⟨o,ho⟩
 frame:=fun _ h h' st hk=>by
  obtain⟨⟨o,ho,r⟩,o2,ho2,r2⟩:=st
  exact⟨⟨o,hk it (by simp) o ho,r⟩,o2,hk t (by simp) o2 ho2,r2⟩
 item:=fun i s Q E hi st hQ=>zG9 st.1 st.2 (x:=items[i]) (by simp[hi]) fun h' a b=>hQ _ h' s.toks (by simp[hi]) ⟨a,st.2.extBut b.extBut hne⟩ b
 done:=fun s Q E st hE=>zFe hA st.1 st.2 (by simp) hE
theorem zF3 (t:Addr)(items:Array Value)(n:Nat)(dct:Option Addr)(sl:Array (Option Value)) :
 Meets (Builtin.«enumerate.__new__» ⟨[.type "enumerate",.ref t],[]⟩) (fun _ R s=>s.heap.get? t=some { cls:=.type "tuple",dict:=dct,data:=.seq items n,slots:=sl } /\
  R (.ok (.ret (.ref (s.heap.push { cls:=.type "tuple_iterator",data:=.fields #[.ref t,.int 0 0] }).objs.size))) { s with heap:=(s.heap.push { cls:=.type "tuple_iterator",data:=.fields #[.ref t,.int 0 0] }).push { cls:=.type "enumerate",data:=.fields #[.none,.bool false,.ref s.heap.objs.size,rawInt 0,.none,.none] } }):=by
 refine .of_wp fun prog w A R s hs=>?_
 obtain⟨hp,g,d,tk,os⟩:=s
 obtain⟨ho,hR⟩:=hs
 have su:=sub_enumerate
 have tT:Heap.IsTuple (Shared.heap ⟨hp,g,d,tk,os⟩) t items:=⟨_,ho,rfl,n,rfl⟩
 wp_walk using wpAny_loadPart' ho
 refine wpAny_stack_any fun stk=>zF ?_
 split
 . rename_i c _ _ _ _ _
   cases (c==Value.type "enumerate") <;> (wp_walk using wpAny_loadPart' ho,wpAny_pyIter_tuple tT;exact⟨_,rfl,hR⟩)
 . wp_walk using wpAny_loadPart' ho,wpAny_pyIter_tuple tT
   exact⟨_,rfl,hR⟩
theorem zHR {prog:Program}{w:World}{A:Around}{E:vSP}{s:Shared}{t:Addr}{Q:vSP}(hT:s.heap.IsTuple t items)
 (h:∀h',IsEnum h' (s.heap.objs.size+1) s.heap.objs.size 0 .none->h'.IsTupleIter s.heap.objs.size t 0->(∀b o,s.heap.get? b=some o->h'.get? b=some o)->Q (.ref (s.heap.objs.size+1)) { s with heap:=h' }) :
 wpAny (model prog w) A (call (.type "enumerate") [.ref t]) Q E s:=by
 obtain⟨⟨c,dct,dt,sl⟩,ho,hc,n,hd⟩:=hT
 obtain rfl:c = .type "tuple" := hc
 obtain rfl:dt = .seq items n:=hd
 refine callType_new PySem.F.called_enumerate (by decide) (PySem.F.typeCall_enumerate_1 _) (PySem.F.newCall_enumerate_1 _) (fun obj=>PySem.F.args_object_init_2 obj _) PySem.F.entry_enumerate_new (zF3 t items n dct sl) ⟨ho,?_⟩
 have hz:(s.heap.push { cls:=.type "tuple_iterator",data:=.fields #[.ref t,.int 0 0] }).objs.size=s.heap.objs.size+1:=zAq ..
 show _/\_
 rw[hz]
 have he:IsEnum ((s.heap.push { cls:=.type "tuple_iterator",data:=.fields #[.ref t,.int 0 0] }).push { cls:=.type "enumerate",data:=.fields #[.none,.bool false,.ref s.heap.objs.size,rawInt 0,.none,.none] }) (s.heap.objs.size+1) s.heap.objs.size 0 .none:=by
  have g:=zS (s.heap.push { cls:=.type "tuple_iterator",data:=.fields #[.ref t,.int 0 0] }) (o:={ cls:=.type "enumerate",data:=.fields #[.none,.bool false,.ref s.heap.objs.size,rawInt 0,.none,.none] }) rfl
  rwa [hz] at g
 exact⟨⟨_,he,rfl⟩,h _ he ⟨_,zH _ (zS _ rfl),rfl,rfl⟩ fun b o x=>zH _ (zH _ x)⟩
noncomputable def ItnT (K:PySem.W.Frag)(a:Addr):It:=
 ⟨fun i H=>∃xs x,SqT K H a xs/\xs[i]? = some x,fun i H x H'=>∃T v,x = .ref T/\H T=none/\H'=upd H T (.tup [.int i,v])/\∀xs,SqT K H a xs->xs[i]? = some v,fun i H=>∃xs,SqT K H a xs/\xs.length<=i⟩
theorem zGy {P:Program}{w:World}{K:PySem.W.Frag}{elts:List Expr} {x1} {tp:Pos}(a e it:Addr):Turn P w K (.Tuple elts x1 tp) (ItnT K a) [e,it] e (fun i h=>(∃old,IsEnum h e it (i:Nat) old)/\h.IsTupleIter it a i/\e≠it/\a≠it/\a≠e) where
 mem:=by simp
 obj:=fun i h st b hb=>by
  obtain⟨⟨old,he⟩,⟨o,e1,c,d⟩,_⟩:=st
  rcases zc.mp hb with rfl | hb
  . exact⟨_,he,fun v z=>by cases z⟩
  . have e2:b=it:=by simpa using hb
    subst e2
    exact⟨o,e1,fun v z=>by rw[d] at z;cases z⟩
 keep:=fun i h h' st k=>by
  obtain⟨⟨old,he⟩,⟨o,e1,r⟩,ne⟩:=st
  exact⟨⟨old,k e (by simp) _ he⟩,⟨o,k it (by simp) o e1,r⟩,ne⟩
 item:=by
  intro X hP hw hK hc i pins s σ H E I hf st hg
  subst hP hw hK
  obtain⟨⟨old,he⟩,hit,ne,nai,nae⟩:=st
  obtain⟨xs,x,hq,hx⟩:=hg
  obtain⟨its,rv,p,hz⟩:=I.tuple hq
  obtain⟨u,hu,ru⟩:=rv.get hx
  have elt:e<s.heap.objs.size:=zU he
  have ilt:it<s.heap.objs.size:=by obtain⟨_,q,_⟩:=id hit;exact zU q
  have hlt:i<its.toArray.size:=by
   have:=(zJ.mp hu).1
   simpa using this
  refine wpAny_pyNext_enum_itemD (zIt (A:=X.A.in1) (I.ok.hd hc) it a nai its.toArray) he ⟨hit,p⟩ hlt ne (by simp;exact⟨ne,fun z=>nae z.symm⟩) fun y h' tk hy heo hst' hT hsz hk=>?_
  have hyu:y=u:=by
   have h1:its[i]? = some y:=by simpa using hy
   rw[hu] at h1
   exact (zR h1).symm
  subst hyu
  refine⟨_,rfl,wpAny_letOwnedTupleGo_enum heo fun h2 he2 hs2=>?_⟩
  have hT2:h2.get? s.heap.objs.size=some { cls:=.type "tuple",data:=.seq #[.int i tk,y] }:=(hs2.2 _ (Nat.ne_of_gt elt)).trans hT
  refine⟨.ref s.heap.objs.size,upd H s.heap.objs.size (.tup [.int i,x]),I.turnedLaid (t':=tk+1) (fp:=[e,it]) hf (fun b o hb q=>?_) (zK _) ?_,rfl,⟨_,x,rfl,I.hok.fresh (zK _),rfl,fun zs hzs=>by rw[I.tuple_inj hzs hq];exact hx⟩,⟨⟨y,?_⟩,?_,ne,nai,nae⟩,fun b hb=>?_⟩
  . exact (hs2.2 b fun z=>hb (by simp[z])).trans (hk b o (fun z=>hb (by simp[z])) (fun z=>hb (by simp[z])) q)
  . exact⟨⟨by show 2<=sizeLine;decide,_,hT2,rfl⟩,[.int i tk,y],.cons ⟨_,rfl⟩ (.cons ru .nil),⟨_,hT2,rfl,_,rfl⟩⟩
  . have:=he2
    rwa [show ((i:Nat):Int)+1=((i+1:Nat):Int) by omega] at this
  . obtain⟨⟨o,ho,r⟩,_⟩:=hst'
    exact⟨o,(hs2.2 it (Ne.symm ne)).trans ho,r⟩
  . rcases zc.mp hb with rfl | hb
    . rw[zd (ze elt)];exact (hf _ (by simp)).1
    . have e2:b=it:=by simpa using hb
      subst e2
      rw[zd (ze ilt)];exact (hf _ (by simp)).1
 done:=by
  intro X hP hw hK hc i pins s σ H E I hf st hg
  subst hP hw hK
  obtain⟨⟨old,he⟩,hit,ne,nai,nae⟩:=st
  obtain⟨xs,hq,hx⟩:=hg
  obtain⟨its,rv,p,hz⟩:=I.tuple hq
  obtain⟨f0,f1,f2,f3,f4,f5⟩:=hf it (by simp)
  have hl:=rv.length
  unfold pyNext
  have hT:s.TypeIs (.ref e) "enumerate" := ⟨_,he,rfl⟩
  refine zA (wpAny_attempt (zAv (name:=Str.ofString "__next__") hT PySem.F.slot_enumerate_next (zA0 PySem.F.slot_enumerate_next hT PySem.F.entry_enumerate_next ?_ (PySem.F.args_enumerate_next_1 _))))
  show wpAny (model X.prog X.w) _ (field (.ref e) 2 >>= _) _ _ s;refine zA (wpAny_field he rfl (x:=.ref it) rfl ?_)
  refine zA (zFe (A:=X.A.in1) (I.ok.hd hc) hit p (by simp;omega) fun h' z eb hz'=>?_)
  obtain⟨o,ho,hcl⟩:=hz'
  refine zA (zBU (T := "StopIteration") (b:=true) ⟨o,ho,hcl⟩ isSubtype_stop (zF ?_))
  exact⟨rfl,I.turned (t':=s.toks) (fun b o hb e=>eb b o hb e) f0 f1 f3 f4 f5⟩
 self:=fun _ _ _ _ _ st h=>by
  obtain⟨⟨old,he⟩,_⟩:=st
  exact wpAny_pyIter_enum he h
section
variable {X:Cx}
noncomputable def iEnumT (K:PySem.W.Frag)(ta:TA):TI:=fun σ H R=>ta σ H fun vs H1=>∃a,vs=[.ref a]/\(∃xs,SqT K H1 a xs)/\R (ItnT K a) H1
theorem zEr {elts:List Expr} {x1} {tp:Pos}{a:Expr}{ta:TA}{p pos:Pos}(hg:Gl X "enumerate") (hm:X.mg "enumerate" = none) (ha:PA X [a] ta)(hs:starEach [a] X.env=[(false,eval a X.env)]:=by rfl):PI X (.Tuple elts x1 tp) (.Call (.Name "enumerate" p) [a] [] pos) (iEnumT X.K ta):=by
 intro pins s σ H R I h
 refine Call_ (zCm I hg hm boot_enumerate (PyProof.Rows.callWith_type1 (thn (ha pos pins s σ H _ I h) fun us s1 ⟨vs,H1,I1,r1,q1⟩=>?_) hs rfl))
 obtain⟨l,e,⟨xs,hq⟩,q⟩:=q1
 subst e
 obtain⟨u,rfl,rx⟩:=zCV r1
 cases rx
 obtain⟨its,rv,pl,hz⟩:=I1.tuple hq
 have hll:l<s1.heap.objs.size:=by obtain⟨o,ho,_⟩:=id pl;exact zU ho
 refine zHR pl fun h' he hit hk=>?_
 refine wpAny_pyIter_enum he ?_
 refine⟨s1.heap.objs.size+1,[s1.heap.objs.size+1,s1.heap.objs.size],_,_,H1,rfl,I1.kept (t':=s1.toks) hk,zGy l _ _,⟨⟨_,he⟩,hit,Nat.succ_ne_self _,ze hll,ze (zAt hll)⟩,fun b hb=>?_,q⟩
 rcases zc.mp hb with rfl | hb
 . exact I1.fpOk (zBN _) (I1.hok.fresh (zBN _))
 . have e2:b=s1.heap.objs.size:=by simpa using hb
   subst e2
   exact I1.fpOk (zK _) (I1.hok.fresh (zK _))
end
theorem zDv {K:PySem.W.Frag}{a:Addr}{xs:List V}{g:TG}{tb:TS}{D:zKr}{σ:St}{H:Hp}(Pv:Nat->St->Hp->Prop)(h0:Pv 0 σ H)(hl:∀i σ H,i<=xs.length->Pv i σ H->SqT K H a xs)
 (hs:∀i x σ H T,xs[i]? = some x->Pv i σ H->H T=none->g (.ref T) σ (upd H T (.tup [.int i,x])) fun σ2 H2=>tb { D with nx:=Pv (i+1),ct:=Pv (i+1),bk:=D.nx } σ2 H2)(hd:∀ σ H,Pv xs.length σ H->D.nx σ H) :
 ∃W:Nat->Nat->St->Hp->Prop,(∃m,W 0 m σ H)/\∀i m σ H,W i m σ H ->
  ((ItnT K a).stop i H/\D.nx σ H)\/((ItnT K a).go i H/\∃N:St->Hp->Prop,(∀ σ' H',N σ' H'->∃m',m'<m/\W (i+1) m' σ' H')/\∀x H',(ItnT K a).yld i H x H'->g x σ H' fun σ2 H2=>tb { D with nx:=N,ct:=N,bk:=D.nx } σ2 H2):=by
 refine⟨fun i m σ H=>i<=xs.length/\m=xs.length-i/\Pv i σ H,⟨_,zh _,rfl,h0⟩,fun i m σ H h=>?_⟩
 obtain⟨hi,rfl,hp⟩:=h
 by_cases c:i<xs.length
 . refine .inr ⟨⟨xs,xs[i],hl i σ H hi hp,zB c⟩,Pv (i+1),fun σ' H' hp'=>⟨xs.length-(i+1),by omega,c,rfl,hp'⟩,fun x H' y=>?_⟩
   obtain⟨T,v,rfl,hT,rfl,hv⟩:=y
   exact hs i v σ H T (hv xs (hl i σ H hi hp)) hp hT
 . have e:i=xs.length:=by omega
   subst e
   exact .inl ⟨⟨xs,hl _ σ H hi hp,zK _⟩,hd σ H hp⟩
end L2
namespace L2
open PySem PySem.Spec PyProof.Rows
open PySem.AutoSeq1 (wpAny_loadPart')
end L2
namespace L2
open PySem PySem.Spec PySem.W PyProof.Rows Builtin Builtin.ObjectAttr Builtin.Getset_descriptor
end L2
namespace L2
open PySem PySem.Spec PyProof.Rows
theorem zIr (a b:Option Int):eqV (oV a) (oV b)=decide (a=b):=by
 cases a with
 | none=>cases b with
  | none=>rfl
  | some b=>rfl
 | some a=>cases b with
  | none=>rfl
  | some b=>
   show (a==b)=_
   by_cases h:a=b
   . subst h;simp
   . rw[zY (by simpa using h)];simpa using h
theorem zKk (a:Option Int):zEL (oV a)=true:=by cases a <;> rfl
theorem zJq {xs ys:List (Option Int)}:((List.range (min xs.length ys.length)).all (fun j=>decide (xs.getD j none=ys.getD j none)) && xs.length==ys.length)=decide (xs=ys):=by
 by_cases h:xs=ys
 . subst h;simp
 . rw[zY h]
   by_cases hl:xs.length=ys.length
   . have:∃j,j<xs.length/\xs.getD j none≠ys.getD j none:=by
      apply zAQ
      intro hn
      refine h (List.ext_getElem hl fun j h1 h2=>?_)
      apply zAQ
      intro hne
      exact hn ⟨j,h1,by simpa [zE,h1,h2] using hne⟩
     obtain⟨j,hj,hne⟩:=this
     rw[Bool.and_eq_false_iff]
     left
     rw[List.all_eq_false]
     exact⟨j,by rw[zBg];omega,by simpa using hne⟩
   . simp[hl]
theorem eqAtsO {A:Around}{s:Shared}{us ws:List Value}{xs ys:List (Option Int)}(h1:zA8 (xs.map oV) us)(h2:zA8 (ys.map oV) ws)(j:Nat)(a:j<us.toArray.size)(b:j<ws.toArray.size):SeqAt.EqAt A s us.toArray[j] ws.toArray[j] (decide (xs.getD j none=ys.getD j none)):=by
 have l1:=h1.length
 have l2:=h2.length
 rw[zD] at l1 l2
 rw[zM] at a b
 have jx:j<xs.length:=by omega
 have jy:j<ys.length:=by omega
 obtain⟨u,hu,ru⟩:=h1.get (i:=j) (x:=oV xs[j]) (by simp[jx])
 obtain⟨w,hw,rw'⟩:=h2.get (i:=j) (x:=oV ys[j]) (by simp[jy])
 have e1:us.toArray[j]'(by rw[zM];exact a)=u:=by
  rw[zB a] at hu
  simpa using zR hu
 have e2:ws.toArray[j]'(by rw[zM];exact b)=w:=by
  rw[zB b] at hw
  simpa using zR hw
 have e3:xs.getD j none=xs[j]:=by rw[zE,zB jx];rfl
 have e4:ys.getD j none=ys[j]:=by rw[zE,zB jy];rfl
 rw[e1,e2,e3,e4,<-zIr]
 exact zKm ru rw' (zKk _) (zKk _)
theorem zJP {M N:lLO}(h:M.length=N.length):(List.range M.length).all (fun j=>decide (M.getD j []=N.getD j []))=decide (M=N):=by
 by_cases c:M=N
 . subst c
   rw[zO rfl]
   exact zAj.mpr fun j _=>zO rfl
 . rw[zY c]
   have:∃j,j<M.length/\M.getD j []≠N.getD j []:=by
    apply zAQ
    intro hn
    refine c (List.ext_getElem h fun j h1 h2=>?_)
    apply zAQ
    intro hne
    exact hn ⟨j,h1,by simpa [zE,h1,h2] using hne⟩
   obtain⟨j,hj,hne⟩:=this
   rw[List.all_eq_false]
   exact⟨j,zBg.mpr hj,by simpa using hne⟩
noncomputable def TabT (K:PySem.W.Frag)(H:Hp)(a:Addr)(M:lLO):Prop:=∃rs:List Addr,SqT K H a (rs.map V.ref)/\rs.length=M.length/\∀(i:Nat)(r:Addr)(row:List (Option Int)),rs[i]? = some r->M[i]? = some row->H r=some (.tup (row.map oV))
theorem zJc {M N:lLO}:((List.range (min M.length N.length)).all (fun j=>decide (M.getD j []=N.getD j [])) && M.length==N.length)=decide (M=N):=by
 by_cases h:M.length=N.length
 . rw[h,Nat.min_self,<-h,zJP h,h];simp
 . rw[zY fun z=>h (congrArg List.length z),show (M.length==N.length)=false from beq_eq_false_iff_ne.mpr h,Bool.and_false]
theorem zKd:∀(xs ys:List (Option Int)),xs.map oV=ys.map oV->xs=ys
 | [],[],_=>rfl
 | [],_::_,h=>by cases h
 | _::_,[],h=>by cases h
 | x::xs,y::ys,h=>by
  rw[zAF,zAF] at h
  injection h with h1 h2
  have z:=zIr x y
  rw[<-h1,zIr x x,zO rfl] at z
  rw[of_decide_eq_true z.symm,zKd xs ys h2]
variable {N':List Str}{sc:Scope}{fp:List Addr}{s3:Shared}{H3:Hp}
section
variable {X:Cx}
theorem zLX (hu:X.A.units+1<cLine):OpR X (compareOp .NotEq) (fun x y H Q=>∃(a b:Addr)(M N:lLO),x = .ref a/\y = .ref b/\TabT X.K H a M/\TabT X.K H b N/\Q (.bl (!decide (M=N))) H):=by
 intro pins s σ H x y v u Q I rx ry h
 obtain⟨a,b,M,N,rfl,rfl,⟨rs,ha,hl1,h1⟩,⟨ts,hb,hl2,h2⟩,q⟩:=h
 cases rx
 cases ry
 obtain⟨its,r,pl,hz⟩:=I.tuple ha
 obtain⟨its2,r2,pl2,hz2⟩:=I.tuple hb
 have l1:=r.length
 have l2:=r2.length
 rw[zD] at l1 l2
 refine PySem.EqBoolInt.of_rcne (SeqAt.RcNeAt.tuples (e:=fun j=>decide (M.getD j []=N.getD j [])) pl pl2 (by omega) (fun j ja jb=>?_)) ⟨.bl _,H,I,rfl,?_⟩
 . rw[zM] at ja jb
   have jx:j<rs.length:=by omega
   have jy:j<ts.length:=by omega
   have jM:j<M.length:=by omega
   have jN:j<N.length:=by omega
   obtain⟨w1,hw1,rw1⟩:=r.get (i:=j) (x:=.ref rs[j]) (by simp[jx])
   obtain⟨w2,hw2,rw2⟩:=r2.get (i:=j) (x:=.ref ts[j]) (by simp[jy])
   cases (show w1=Value.ref rs[j] from rw1)
   cases (show w2=Value.ref ts[j] from rw2)
   have g1:its.toArray[j]'(by rw[zM];exact ja) = .ref rs[j]:=by
    rw[zB ja] at hw1
    simpa using zR hw1
   have g2:its2.toArray[j]'(by rw[zM];exact jb) = .ref ts[j]:=by
    rw[zB jb] at hw2
    simpa using zR hw2
   have k1:=h1 j rs[j] M[j] (zB jx) (zB jM)
   have k2:=h2 j ts[j] N[j] (zB jy) (zB jN)
   have d1:M.getD j []=M[j]:=by rw[zE,zB jM];rfl
   have d2:N.getD j []=N[j]:=by rw[zE,zB jN];rfl
   rw[g1,g2,d1,d2]
   by_cases c:rs[j]=ts[j]
   . rw[c] at k1 ⊢
     rw[k1] at k2
     injection k2 with z
     injection z with z
     rw[zKd _ _ z,zO rfl]
     exact SeqAt.EqAt.same _
   . obtain⟨us,rv1,t1,_⟩:=I.tuple (SqT.of (K:=X.K) k1)
     obtain⟨ws,rv2,t2,_⟩:=I.tuple (SqT.of (K:=X.K) k2)
     have n1:=rv1.length
     have n2:=rv2.length
     rw[zD] at n1 n2
     have h:=SeqAt.RcAt.tuples (A:=X.A.in1) (e:=fun i=>decide (M[j].getD i none=N[j].getD i none)) t1 t2 (show X.A.units+1<cLine from hu) (fun i a b=>eqAtsO rv1 rv2 i a b)
     rw[zM,zM,<-n1,<-n2,zJq] at h
     exact SeqAt.EqAt.of_refs c h
 . rw[zM,zM,show its.length=M.length by omega,show its2.length=N.length by omega,zJc]
   exact q
theorem zGa {pl:lPO}(hu:X.A.units+1<cLine):OpR (zBA X pl N' sc fp s3 H3) (compareOp .NotEq) (fun x y H Q=>∃(a b:Addr)(M N:lLO),x = .ref a/\y = .ref b/\TabT X.K H a M/\TabT X.K H b N/\Q (.bl (!decide (M=N))) H):=zLX (X:=zBA X pl N' sc fp s3 H3) hu
theorem zJr {pl:lPO}(hu:X.A.units<cLine):OpR (zBA X pl N' sc fp s3 H3) (compareOp .NotEq) (rNeT X.K):=zLY (X:=zBA X pl N' sc fp s3 H3) hu
theorem zLU {pl:lPO}{e:Expr}{f:Str}{pos:Pos}{ta:TE}(he:PE (zBA X pl N' sc fp s3 H3) e ta)(hb:attributeBase e f (zBA X pl N' sc fp s3 H3).env (eval e (zBA X pl N' sc fp s3 H3).env)=eval e (zBA X pl N' sc fp s3 H3).env):PE (zBA X pl N' sc fp s3 H3) (.Attribute e f pos) (tFld X.K ta f):=zCY he hb
end
theorem zDJ {α β:Type}(f:α->β):∀(l:List α)(i:Nat),(l.map f).eraseIdx i=(l.eraseIdx i).map f
 | [],_=>rfl
 | _::_,0=>rfl
 | x::l,i+1=>by rw[zAF,List.eraseIdx_cons_succ,List.eraseIdx_cons_succ,zAF,zDJ f l i]
section
variable {prog:Program}{w:World}{K:Type} [DecidableEq K] {knd:HeapKind prog w K}{A:Around}{E:vSP}{s:Shared}{d a:Addr}{k:K}{xs:List (K×Addr×Value)}
theorem zE9 {j:Nat}{p:Addr×Value}{Q:Option DictEntry->Shared->Prop}(hu:knd.room A)(hkey:knd.is s.heap k a)(hm:s.heap.DictOfH knd d xs)(hj:xs[j]? = some (k,p))
 (hQ:∀h',h'.DictOfH knd d (xs.eraseIdx j)->Heap.SameBut d s.heap h'->Q (some (entryOfKey knd (k,p))) { s with heap:=h',toks:=s.toks+knd.draws k })(hsz:xs.length<=sizeLine):wpAny (model prog w) A (Builtin.Dict.takeOut d (.ref a)) Q E s:=by
 obtain⟨o,es,ep,ho,hc,hd,he,his,hn⟩:=hm
 unfold Builtin.Dict.takeOut
 try with_reducible refine zAR ?_
 refine zA (knd.pyHash hu hkey (zA (wpAny_dictFind_heap (s:={ s with toks:=s.toks+knd.draws k }) hu hkey ho hd he his hn (fun hno=>absurd hj (hno j p)) fun i q hi=>?_)))
 have eij:i=j:=idxH_unique hn hi hj
 subst eij
 rw[hj] at hi
 cases hi
 refine zA (wpAny_dictEntries (s:={ s with toks:=s.toks+knd.draws k }) ho hd ?_)
 rw[entry_at he i,hj]
 refine zA (wpAny_updateDictKeys (hz:=by have e:=size_of_entries he;omega) (s:={ s with toks:=s.toks+knd.draws k }) ho hd (zF (hQ _ ⟨_,_,ep+1,zBY _ ho (Obj.isFreed_of_dict (Obj.data_mapDictKeys hd _)),hc.mapDictKeys _,Obj.data_mapDictKeys hd _,?_,fun x hx=>?_,?_⟩ (zBp ..))))
 . obtain⟨l⟩:=es
   have he':l=xs.map (entryOfKey knd):=he
   subst he'
   rw[<-zDJ]
   simp
 . exact knd.keeps (his x (List.mem_of_mem_eraseIdx hx)) ho hd (zBp ..)
 . rw[<-zDJ]
   exact hn.sublist (List.eraseIdx_sublist _ _)
theorem zHA {j:Nat}{p:Addr×Value}:MeetsIn prog w (Builtin.«dict.pop» ⟨[.ref d,.ref a],[]⟩) (fun A R s=>knd.room A.in1/\knd.is s.heap k a/\s.heap.DictOfH knd d xs/\xs[j]? = some (k,p)/\xs.length<=sizeLine /\
 ∀h',h'.DictOfH knd d (xs.eraseIdx j)->Heap.SameBut d s.heap h'->R (.ok (.ret p.2)) { s with heap:=h',toks:=s.toks+knd.draws k }):=
 .of_wp fun A R s ⟨hu,hkey,hm,hj,hsz,h⟩=>by
  unfold Builtin.«dict.pop»
  refine zA ?_
  unfold Builtin.Dict.keyAndDefault
  refine zA (wpAny_notOrdered_dict hm.typeIs ?_)
  show wpAny _ _ (pure (d,Value.ref a,none)) _ _ s
  refine zF ?_
  obtain⟨o,es,ep,ho,hc,hd,he,his,hn⟩:=id hm
  have hne:es.isEmpty=false:=by
   have e1:=size_of_entries he
   have e2:=(zJ.mp hj).1
   rw[Array.isEmpty_eq_false_iff]
   intro z
   rw[z] at e1
   simp at e1
   omega
  dsimp only
  rw[if_neg (show ¬ (keyPart (Value.ref a)).isSome=true by simp[keyPart])]
  refine zA (wpAny_dictEntries ho hd (zA (zF ?_)))
  rw[hne]
  simp only[zAx,if_false]
  refine zA (zE9 hu hkey hm hj (fun h' hm' hs'=>?_) hsz)
  simp only[Option.isNone_some,zAx,if_false]
  exact zA (wpAny_letGo (zF ⟨p.2,rfl,h h' hm' hs'⟩))
end
theorem kt_at {H:Hp}:∀{kvs:List (List Key×V)}{xs:List (List Key×Addr×Value)}{k:List Key}{v:V},KT H kvs xs->(kvs.map (·.1)).Nodup->zBz kvs k=some v->∃j p,xs[j]? = some (k,p)/\zBH v p.2/\KT H (zBy kvs k) (xs.eraseIdx j)
 | _,_,_,_,.nil,_,hv=>by cases hv
 | q::kvs,x::xs,k,v,.cons h t,nd,hv=>by
  rw[zAF,zAc] at nd
  by_cases c:q.1=k
  . rw[zBK c] at hv
    cases hv
    refine⟨0,x.2,?_,h.2.2,?_⟩
    . rw[<-c,h.1];rfl
    . rw[zDz c,zGk (by rw[<-c];exact nd.1)]
      exact t
  . rw[zBE c] at hv
    obtain⟨j,p,a,b,r⟩:=kt_at t nd.2 hv
    exact⟨j+1,p,by rw[List.getElem?_cons_succ];exact a,b,by rw[zC6 c,List.eraseIdx_cons_succ];exact .cons h r⟩
section
variable {X:Cx}{pins:lPO}{σ:St}{H:Hp}{s:Shared}{a b:Addr}{kvs:List (List Key×V)}{k:List Key}{A:Around}{E:vSP}
theorem d_popT {v:V}{Q:vSP}(hu:A.units+1<cLine)(I:Inv X pins σ H s)(e:H a=some (.dT kvs))(eb:H b=some (.tup (k.map kV)))(nd:(kvs.map (·.1)).Nodup)(l:zBz kvs k=some v)
 (h:∀w' s',Inv X pins σ (upd H a (.dT (zBy kvs k))) s'->zBH v w'->Q w' s'):wpAny (model X.prog X.w) A (call (.builtin "dict.pop") [.ref a,.ref b]) Q E s:=by
 obtain⟨z,hd,xs,rel,dd⟩:=dt_of I.hok e
 obtain⟨j,p,hj,rv,rel'⟩:=kt_at rel nd l
 refine call_meetsIn PySem.F.slot_dict_pop dd.typeIs PySem.F.entry_dict_pop (PySem.F.args_dict_pop_2 _ _) (zHA (knd:=tupleKind (zAW X.prog X.w)) (k:=k) (xs:=xs) (j:=j) (p:=p))
  ⟨tupleKind_room_in1 hu,zDq I.hok eb,dd,hj,by rw[<-Paired.length rel];exact z,fun h' dd' hs=>h p.2 _ ?_ rv⟩
 obtain⟨q,es,ep,hq,h2,h3,h4,_,h5⟩:=dd'
 refine zD2 I (by rw[e];exact True.intro) hs ⟨q,hq⟩ ⟨zAD (zGl kvs k) z,hd,_,rel'.keeps fun c ys ec=>?_,q,es,ep,hq,h2,h3,h4,h5⟩
 rw[zd (zAp ec e (fun z=>nomatch z))]
 exact ec
end
noncomputable def tDPopT (td ty:TE):TE:=fun σ H Q=>td σ H fun x H1=>∃a,x = .ref a/\IsD H1 a/\ty σ H1 fun y H2=>∃kvs k b v,H2 a=some (.dT kvs)/\y = .ref b/\H2 b=some (.tup (k.map kV))/\(kvs.map (·.1)).Nodup/\zBz kvs k=some v/\Q v (upd H2 a (.dT (zBy kvs k)))
theorem zJl {X:Cx}{o e:Expr}{apos cpos:Pos}{td ty:TE}(hu:X.A.units+1<cLine)(ho:PE X o td)(he:PE X e ty)(m:M1 X o "pop" apos e cpos):PE X (.Call (.Attribute o "pop" apos) [e] [] cpos) (tDPopT td ty):=by
 intro pins s σ H Q I h
 refine wpAny_Call_method m.base m.few m.line PySem.F.plainAttrs_dict PySem.F.slot_dict_pop PySem.F.type_dict_pop (thn (ho pins s σ H _ I h) fun u s1 ⟨x,H1,I1,rx,a,ex,d,q1⟩=>?_)
 subst ex
 obtain rfl:u=Value.ref a:=rx
 obtain⟨t1,t2,_⟩:=zGg I1 d
 refine⟨t1,t2,?_⟩
 rw[m.trees]
 refine Calls.callWith_builtin rfl (Calls.evalArgs_plain (Calls.spliced_cons (thn (he pins s1 σ H1 _ I1 q1) fun iv s2 ⟨y,H2,I2,ry,kvs,k,b,v,ea,ey,eb,nd,l,q2⟩=>Calls.spliced_nil ?_)))
 subst ey
 obtain rfl:iv=Value.ref b:=ry
 exact d_popT hu I2 ea eb nd l fun w' s3 I3 rw'=>⟨v,_,I3,rw',q2⟩
end L2
namespace L2
open PySem PySem.Spec PyProof.Rows
structure FuB (K:PySem.W.Frag)(mg:sOV)(x:Str)(st:Stmt)(f:Addr)(fd:FuncData)(ps:List Str):Prop where
 F:Fun K x x st f fd
 b:zBw K fd ps []
 m:mg x=some (.ref f)
variable {X:Cx}{x:Str}{pos:Pos}
theorem zAJ {st:Stmt}{f:Addr}{fd:FuncData}{ps:List Str}{sp:Sp}{k:Nat}{e:Expr}{es:List Expr}{t:TA}{p:Pos}(G:zAK X.prog X.w X.K X.mg X.base CX0 k f fd ps sp)(hr:zCe k X.A)(B:FuB X.K X.mg x st f fd ps)(ha:PA X (e::es) t)(hg:Gl X x:=by rfl)(hdb:(x==("__debug__" : Str))=false:=by decide)(he:starEach (e::es) X.env=(false,eval e X.env)::starEach es X.env:=by rfl)(hpl:(backTo pos (starEach es X.env)).any (·.1)=false:=by rfl):PE X (.Call (.Name x p) (e::es) [] pos) (tCall sp [] E0 t):=zIM G hr hg B.m B.F.kp B.b .nil zCy ha hdb he hpl
theorem Fun.okD {P:Program}{w:World}{K:PySem.W.Frag}{mg:sOV}{base:Heap}{qual:Str}{st:Stmt}{f:Addr}{fd:FuncData}{N ps:List Str}{k:Nat}{sp:Sp}(F:Fun K x qual st f fd)(S:zo N ps (defScope st))
 (hbody:∀(cdv:Value)(A:Around)(outer:List Env)(s:Shared)(H:Hp)(vs:List V)(Q:VK)(E:XK),zCe k (A.deeper (PyProof.Rows.envOfC qual (defScope st) s.heap.objs.size f cdv))->sp vs H Q E ->
  ∃t,PSs (zKo CX0 P w K mg base N qual (defScope st) f cdv A outer s H E).nox (defBody st) t/\t { nx:=fun _ H'=>Q .non H',rt:=Q } (start N vs) H)(len:∀vs H Q E,sp vs H Q E->vs.length=ps.length:=by intro _ _ _ _ h;repeat (first|(obtain⟨rfl,_⟩:=h;rfl)|obtain⟨_,h⟩:=h)):zAK P w K mg base CX0 (k+1) f fd ps sp:=F.ok S len hbody
theorem zBB {i:Nat}{e:Expr}{te:TE}{pos':Pos}(hN:X.N.Nodup)(he:PE X e te)(hi:X.N[i]? = some x:=by rfl)(hx:Loc X.env.scope x:=by exact Or.inl rfl)(hs:swapsWith e (some (.Name x pos')) pos.line X.env=pure false:=by rfl)(hf:X.fn x=true\/X.env.scope.names.lookup x=some .local:=by first | exact .inl rfl | exact .inr rfl | assumption):PS X (.Assign [.Name x pos'] e pos) (tAsg te (zHK i)):=zCw hN hi hx he hs hf
theorem zAA {a b:Expr}{ta tb:TE}{r:R2}(hr:IxR X r)(ha:PE X a ta)(hb:PE X b tb)(hs:zJF b:=by exact fun _ _=>rfl):PE X (.Subscript a b pos) (tOp r ta tb):=pe_ix hr ha hb hs
theorem zBx (hN:X.N.Nodup:=by exact zDT rfl)(hi:X.N[0]? = some x:=by rfl)(hx:Loc X.env.scope x:=by exact Or.inl rfl)(hf:X.fn x=true\/X.env.scope.names.lookup x=some .local:=by first | exact .inl rfl | exact .inr rfl | assumption):PG X (.Name x pos) (zHK 0):=zAI hN hi hx hf
end L2
namespace K92
open PySem L2 WM
variable {P:Program}{w:World}{K:PySem.W.Frag}{mg:sOV}{base:Heap}{PT:Addr}{X:Cx}
noncomputable abbrev zJY:Stmt:=top 57
noncomputable abbrev zFJ:Stmt:=top 58
noncomputable abbrev sWeb:Stmt:=top 59
noncomputable abbrev zJZ:Stmt:=top 6
noncomputable abbrev sWi:Stmt:=top 7
noncomputable abbrev zLL:Stmt:=top 8
noncomputable abbrev sRis:Stmt:=top 9
noncomputable abbrev sPl:Stmt:=top 10
noncomputable abbrev sIsL:Stmt:=top 25
noncomputable abbrev zH5:Stmt:=top 12
noncomputable abbrev zH7:Stmt:=top 13
noncomputable abbrev zFI:Stmt:=top 14
noncomputable abbrev zG4:Stmt:=top 20
noncomputable abbrev zEo:Stmt:=top 26
noncomputable abbrev zFH:Stmt:=top 27
noncomputable abbrev zH2:Stmt:=top 31
noncomputable abbrev zH6:Stmt:=top 30
noncomputable abbrev zH4:Stmt:=top 29
noncomputable abbrev sBwr:Stmt:=top 32
noncomputable abbrev sNbr:Stmt:=top 33
noncomputable abbrev sOrd:Stmt:=top 35
noncomputable abbrev zLM:Stmt:=top 36
noncomputable abbrev sLbr:Stmt:=top 37
noncomputable abbrev sIsh:Stmt:=top 38
noncomputable abbrev sEbr:Stmt:=top 39
noncomputable abbrev zHy:Stmt:=top 42
noncomputable abbrev zHx:Stmt:=top 43
noncomputable abbrev sOwn:Stmt:=top 15
noncomputable abbrev sSum:Stmt:=top 18
noncomputable abbrev zFv:Stmt:=top 16
noncomputable abbrev sHub:Stmt:=top 17
noncomputable abbrev sEnt:Stmt:=top 19
noncomputable abbrev zH0:Stmt:=top 21
noncomputable abbrev zG3:Stmt:=top 44
noncomputable abbrev sBut:Stmt:=top 45
noncomputable abbrev zH3:Stmt:=top 47
noncomputable abbrev zH1:Stmt:=top 48
noncomputable abbrev sOf:Stmt:=top 49
noncomputable abbrev sUf:Stmt:=top 50
noncomputable abbrev sUr:Stmt:=top 51
noncomputable abbrev sTf:Stmt:=top 52
noncomputable abbrev sGm:Stmt:=top 53
noncomputable abbrev sDf:Stmt:=top 54
noncomputable abbrev sDr:Stmt:=top 55
noncomputable abbrev sAdd:Stmt:=top 60
noncomputable abbrev sLes:Stmt:=top 61
noncomputable abbrev sFar:Stmt:=top 62
noncomputable abbrev sJoi:Stmt:=top 63
noncomputable abbrev sNxs:Stmt:=top 64
noncomputable abbrev zGQ:Stmt:=top 65
noncomputable abbrev zHz:Stmt:=top 66
noncomputable abbrev sIsr:Stmt:=top 67
noncomputable abbrev zDC:Stmt:=top 68
noncomputable abbrev sPut:Stmt:=top 69
noncomputable abbrev zJa:Stmt:=top 70
noncomputable abbrev sKI:Stmt:=mth 41 0
noncomputable abbrev sKP:Stmt:=mth 41 1
noncomputable abbrev sKS:Stmt:=mth 41 2
noncomputable abbrev sKT:Stmt:=mth 41 3
noncomputable abbrev sKW:Stmt:=mth 41 4
noncomputable abbrev sKL:Stmt:=mth 41 5
noncomputable abbrev sKN:Stmt:=mth 41 6
noncomputable abbrev sKU:Stmt:=mth 41 7
noncomputable abbrev sLaw:Stmt:=top 71
noncomputable def zGF (H:Hp)(t p:Addr)(N:Nat):Prop:=∃(ns:List Int)(spot rest:Int),H t=some (.lst [.ref p,.int spot,.int rest])/\H p=some (.lst (ns.map V.int))/\p≠t/\0<=spot/\spot<=N/\0<=rest/\ns.length<=63
noncomputable def zAr (H:Hp)(t:Addr)(N:Nat):Prop:=∃p:Addr,zGF H t p N
variable {H:Hp}{N:Nat}
theorem zAr.mono {t:Addr}{M:Nat}(h:zAr H t N)(l:N<=M):zAr H t M:=by
 obtain⟨p,ns,spot,rest,a,b,c,d,e,f⟩:=h
 exact⟨p,ns,spot,rest,a,b,c,d,by omega,f⟩
noncomputable def Sm (t:Addr)(H H':Hp):Prop:=∀b o,b≠t->H b=some o->H' b=some o
variable {H2:Hp}
theorem Sm.trans {t:Addr}{H1:Hp}(a:Sm t H H1)(b:Sm t H1 H2):Sm t H H2:=fun c o n e=>b c o n (a c o n e)
variable {H':Hp}
theorem Sm.of {t:Addr}(h:zAo H H'):Sm t H H':=fun b o _ e=>h b o e
variable {l:Addr}
theorem Sm.laid {t:Addr}{o:HO}(h:H l=none):Sm t H (upd H l o):=fun b u _ e=>by rw[zd (zl e h)];exact e
theorem Sm.chg {t:Addr}{o:HO}(s:Sm t H H')(h:H l=none):Sm t H (upd H' l o):=fun b u n e=>by rw[zd (zl e h)];exact s b u n e
theorem zG {o:HO}(h:H l=none):zAo H (upd H l o):=fun b u e=>by rw[zd (zl e h)];exact e
theorem zAa {o:HO}(s:zAo H H')(h:H l=none):zAo H (upd H' l o):=fun b u e=>by rw[zd (zl e h)];exact s b u e
theorem zAr.keep {t:Addr}(h:zAr H t N)(k:zAo H H'):zAr H' t N:=by
 obtain⟨p,ns,spot,rest,a,b,c⟩:=h
 exact⟨p,ns,spot,rest,k _ _ a,k _ _ b,c⟩
theorem zAr.laid {t:Addr}{o:HO}(h:zAr H t N)(hl:H l=none):zAr (upd H l o) t N:=h.keep (zG hl)
theorem zAr.ne {t b:Addr}(h:zAr H t N)(hb:H b=none):b≠t:=by
 obtain⟨p,ns,spot,rest,a,_⟩:=h
 exact (zl a hb).symm
theorem zAr.chg {t:Addr}{o u:HO}(h:zAr H t N)(hl:H l=some u)(hu:∀xs,u ≠ .lst xs):zAr (upd H l o) t N:=by
 obtain⟨p,ns,spot,rest,a,b,c⟩:=h
 exact⟨p,ns,spot,rest,by rw[zd (zAp a hl fun z=>hu _ z.symm)];exact a,by rw[zd (zAp b hl fun z=>hu _ z.symm)];exact b,c⟩
variable {p:Addr}
theorem zGF.keepF {t:Addr}{M:Nat}(h:zGF H t p N)(k1:∀o,H t=some o->H' t=some o)(k2:∀o,H p=some o->H' p=some o)(l:N<=M):zGF H' t p M:=by
 obtain⟨ns,spot,rest,a,b,c,d,e,f⟩:=h
 exact⟨ns,spot,rest,k1 _ a,k2 _ b,c,d,by omega,f⟩
noncomputable def zHr:Sp:=fun vs H Q _=>∃(t p:Addr)(N:Nat)(many:Int),vs=[.ref t,.int many]/\zGF H t p N/\N<1000000/\0<many/\many<1000000 /\
 ∀(r:Int)(H':Hp),0<=r->r<many->zGF H' t p (N+1)->(∀b,b≠t->H' b=H b)->Q (.int r) H'
noncomputable def zFD:Sp:=fun vs H Q _=>∃(t:Addr)(N:Nat)(many:Int),vs=[.ref t,.int many]/\zAr H t N/\N<1000000/\0<many/\many<1000000 /\
 ∀(r:Int)(H':Hp),0<=r->r<many->zAr H' t (N+1)->(∀b,b≠t->H' b=H b)->Q (.int r) H'
noncomputable def zKO (K:PySem.W.Frag):Sp:=fun vs H Q _=>∃(a:Addr)(ns:List Int),vs=[.ref a]/\SqL K H a (ns.map V.int)/\ns.length<=63/\∀(t:Addr)(H':Hp),H t=none->zAr H' t 0->zAo H H'->Q (.ref t) H'
theorem scTape:zo ["_law_script"] ["_law_script"] (defScope zJY):=fS0
variable {f:Addr}
theorem zLj {fd:FuncData}(F:Fun K "_law_tape" "_law_tape" zJY f fd):zAK P w K mg base CX0 1 f fd ["_law_script"] (zKO K):=by
 refine F.okD scTape fun _ A _ _ H vs Q E hr h=>?_
 obtain⟨a,ns,rfl,hS,hl,k⟩:=h
 refine⟨_,zW (zw (zCX (zC (zGZ zLD (pv 0) zII (zIH zj)) (zCS (zCS zL))))),?_⟩
 refine⟨_,rfl,_,rfl,a,_,rfl,hS,fun p hp=>⟨by show 3<=sizeLine;decide,fun t ht=>?_⟩⟩
 have npt:p≠t:=fun e=>by rw[e,zI] at ht;cases ht
 have e1:zHO (ns.map V.int) none (some 63)=(ns.take 63).map V.int:=by
  unfold zHO
  rw[HT.sIx_none,List.drop_zero,Nat.sub_zero,zD,show (63:Int)=((63:Nat):Int) from rfl,HT.sIx_nat,List.map_take]
  rw[show min 63 ns.length=ns.length by omega,zf (by rw[zD];exact zK _),zf (by rw[zD];exact hl)]
 have ht0:H t=none:=by rw[zd npt.symm] at ht;exact ht
 refine k t _ ht0 ⟨p,ns.take 63,0,0,zI,?_,npt,Int.le_refl _,Int.le_refl _,Int.le_refl _,by rw[zx];omega⟩ ?_
 . rw[zd npt,zI,e1]
 . exact zAa (zG hp) ht0
theorem zFG:zo ["_law_tape_here", "_law_many", "_law_found", "_law_spot", "_law_cell", "_law_mixed"] ["_law_tape_here", "_law_many"] (defScope zFJ):=fS0
variable {a:Int}
theorem zDk {m:Int}(h:0<m):0<=a%m/\a%m<m:=⟨Int.emod_nonneg _ (by omega),Int.emod_lt_of_pos _ h⟩
theorem zGb {fd:FuncData}(F:Fun K "_law_draw" "_law_draw" zFJ f fd) (mLen:mg "len" = none):zAK P w K mg base CX0 1 f fd ["_law_tape_here", "_law_many"] zHr:=by
 refine F.okD zFG fun _ A _ _ H vs Q E hr h=>?_
 obtain⟨t,p,N,many,rfl,T,hN,hm0,hm1,k⟩:=h
 obtain⟨ns,spot,rest,ht,hp,hne,hs0,hs1,hr0,hl⟩:=T
 refine⟨_,zQ (zA5 (zy zFy (zAA zAg (pv 0) zj) zj (zAC _))
  (zQ (zBB (i:=2) zFG.nd (zA6 zDj (zAA zAg (pv 0) zj) (pv 1)))
  (zQ (zDO (zA6 zEv (zAA zAg (pv 0) zj) (pv 1)) (zDh (pv 0) zj zCK))
  (zW (zw (pv 2))))) zAP)
  (zQ (zBB (i:=3) zFG.nd (zAA zAg (pv 0) zj))
  (zQ (zDO (zA6 zB6 (pv 3) zj) (zDh (pv 0) zj zCK))
  (zQ (zBB (i:=4) zFG.nd (zDW (zy zFy (zAL zA3 mLen (zC (zAA zAg (pv 0) zj) zL)) zj (zAC _))
   (zAA zAg (zAA zAg (pv 0) zj) (zA6 zDj (pv 3) (zAL zA3 mLen (zC (zAA zAg (pv 0) zj) zL)))) zj))
  (zQ (zA5 (zER (zy op_ge (pv 4) (zA6 op_pow zj zj) (zAC _)) (zDD (zy zJs (pv 3) (zAL zA3 mLen (zC (zAA zAg (pv 0) zj) zL)) (zAC _)))).pt
   (zQ (zDO (zA6 zEv (pv 4) (pv 1)) (zDh (pv 0) zj zCK)) (zW (zw (zA6 zDj (pv 4) (pv 1))))) zAP)
  (zQ (zBB (i:=5) zFG.nd (zA6 zDj (zA6 zEV (zA6 zB6 (zA6 zDj (pv 4) zj) zj) (zA6 zB6 zj (zA6 zEV zj (pv 3)))) zj))
  (zW (zw (zA6 zDj (zA6 zEv (zA6 zDj (zA6 zEV (zA6 zB6 (pv 5) (zA6 zEV (zA6 zEV zj (pv 3)) (pv 3))) zj) zj) zj) (pv 1))))))))),?_⟩
 have cd:CDiv 0 many:=⟨hm0,by omega⟩
 refine⟨_,rfl,t,_,_,_,rfl,rfl,SqL.of ht,rfl,_,_,rfl,rfl,_,rfl,?_⟩
 refine zEC (fun hc=>?_) (fun hc=>?_)
 . have hpos:0<rest:=of_decide_eq_true hc
   refine⟨_,rfl,t,_,_,_,rfl,rfl,SqL.of ht,rfl,_,rfl,_,_,rfl,rfl,hm0,?_⟩
   refine⟨_,rfl,t,_,_,_,rfl,rfl,SqL.of ht,rfl,_,rfl,_,_,rfl,rfl,cd,?_⟩
   refine⟨_,rfl,t,_,_,2,rfl,rfl,ht,rfl,?_⟩
   refine⟨_,rfl,?_⟩
   refine k _ _ (zDk hm0).1 (zDk hm0).2 ⟨ns,spot,rest/many,zI,by rw[zd hne];exact hp,hne,hs0,by omega,Int.ediv_nonneg hr0 (by omega),hl⟩ fun b hb=>zd hb
 . -- spot=tape[1];tape[1]=spot+1
   refine⟨_,rfl,t,_,_,_,rfl,rfl,SqL.of ht,rfl,?_⟩
   refine⟨_,rfl,_,_,rfl,rfl,_,rfl,t,_,_,1,rfl,rfl,ht,rfl,?_⟩
   have ht1:(upd H t (.lst [.ref p,.int (spot+1),.int rest])) t=some (.lst [.ref p,.int (spot+1),.int rest]):=zI
   have hp1:(upd H t (.lst [.ref p,.int (spot+1),.int rest])) p=some (.lst (ns.map V.int)):=by rw[zd hne];exact hp
   have ex:0<((ns.map V.int).length:Int)->∃c,atI (ns.map V.int) (spot%((ns.map V.int).length:Int))=some (.int c):=fun h=>by
    have hb:=zDk (a:=spot) h
    obtain⟨j,hj⟩:=Int.eq_ofNat_of_zero_le hb.1
    have hlt:j<ns.length:=by
     have h2:=hb.2
     rw[hj,zD] at h2
     omega
    refine⟨ns[j],?_⟩
    rw[hj]
    exact zCs (by simp[hlt])
   refine⟨_,rfl,t,_,_,_,rfl,rfl,SqL.of ht1,rfl,p,_,rfl,.inl (SqL.of hp1),_,_,rfl,rfl,_,rfl,?_⟩
   refine zEC (fun h2=>?a) (fun h2=>?b)
   case' a=>
    obtain⟨c,hc⟩:=ex (of_decide_eq_true h2)
    refine⟨_,rfl,t,_,_,_,rfl,rfl,SqL.of ht1,rfl,_,rfl,_,rfl,t,_,_,_,rfl,rfl,SqL.of ht1,rfl,p,_,rfl,.inl (SqL.of hp1),_,_,rfl,rfl,of_decide_eq_true h2,p,_,_,_,rfl,rfl,SqL.of hp1,hc,?_⟩
   all_goals
    refine⟨_,rfl,_,_,rfl,rfl,⟨by decide,by decide,by decide⟩,_,_,rfl,rfl,_,rfl,?_⟩
    refine zEC (fun h3=>?_) (fun h3=>?_)
   all_goals first
    | (refine⟨_,rfl,_,rfl,t,_,_,_,rfl,rfl,SqL.of ht1,rfl,p,_,rfl,.inl (SqL.of hp1),_,_,rfl,rfl,_,rfl,?_⟩;refine zEC (fun h4=>?_) (fun h4=>?_))
    | refine zCa ?_
   all_goals first
    | (refine⟨_,rfl,_,rfl,_,_,rfl,rfl,⟨hm0,by omega⟩,_,rfl,t,_,_,2,rfl,rfl,ht1,rfl,?_⟩
       refine⟨_,rfl,_,rfl,_,_,rfl,rfl,hm0,?_⟩
       refine k _ _ (zDk hm0).1 (zDk hm0).2 ⟨ns,spot+1,_,zI,by rw[zd hne];exact hp1,hne,by omega,by omega,Int.ediv_nonneg (Int.le_trans (show (0:Int)<=10 ^ (18:Int).toNat by decide) (of_decide_eq_true h3)) (by omega),hl⟩ fun b hb=>by rw[zd hb,zd hb])
    | (refine⟨_,rfl,_,_,rfl,rfl,(by dsimp only;decide),_,_,rfl,rfl,_,rfl,_,_,rfl,rfl,.inl ⟨by decide,by decide⟩,_,_,rfl,rfl,_,_,rfl,rfl,.inl ⟨by omega,by omega⟩,_,_,rfl,rfl,(by dsimp only;decide),?_⟩
       refine⟨_,rfl,_,rfl,_,_,rfl,rfl,.inl ⟨by decide,by decide⟩,_,rfl,_,_,rfl,rfl,.inr ⟨by omega,by omega⟩,_,_,rfl,rfl,_,_,rfl,rfl,.inr ⟨by decide,by decide⟩,_,_,rfl,rfl,(by dsimp only;decide),_,_,rfl,rfl,⟨by decide,by decide⟩,_,rfl,_,_,rfl,rfl,hm0,?_⟩
       refine k _ _ (zDk hm0).1 (zDk hm0).2 ⟨ns,spot+1,rest,ht1,hp1,hne,by omega,by omega,hr0,hl⟩ fun b hb=>zd hb)
theorem zFz {fd:FuncData}(F:Fun K "_law_draw" "_law_draw" zFJ f fd) (mLen:mg "len" = none):zAK P w K mg base CX0 1 f fd ["_law_tape_here", "_law_many"] zFD:=
 (zGb F mLen).imp fun vs H Q E ⟨t,N,many,e,⟨p,T⟩,a,b,c,k⟩=>⟨t,p,N,many,e,T,a,b,c,fun r H' h0 h1 T' he=>k r H' h0 h1 ⟨p,T'⟩ he⟩
theorem zId {L:List Int}{r:Int}(h0:0<=r)(h1:r<L.length):∃n,n∈L/\atI (L.map V.int) r=some (.int n):=by
 obtain⟨j,rfl⟩:=Int.eq_ofNat_of_zero_le h0
 have hj:j<L.length:=by omega
 exact⟨L[j],List.getElem_mem hj,zCs (by simp[hj])⟩
noncomputable def zBD (H:Hp)(wa:Addr)(n:Int)(ts:List T3):Prop:=∃(ta:Addr)(tys:List V),H wa=some (.tup [.int n,.ref ta])/\H ta=some (.tup tys)/\zAS H tys (ts.map tl)/\GW n ts
variable {wa:Addr}{n:Int}{ts:List T3}
theorem zBD.keepT (h:zBD H wa n ts)(k:∀b ys,H b=some (.tup ys)->H' b=some (.tup ys)):zBD H' wa n ts:=by
 obtain⟨ta,tys,a,b,c,d⟩:=h
 exact⟨ta,tys,k _ _ a,k _ _ b,c.keep k,d⟩
theorem zBD.keep (h:zBD H wa n ts)(k:zAo H H'):zBD H' wa n ts:=h.keepT fun b _ e=>k b _ e
theorem zBD.sm {t:Addr}(h:zBD H wa n ts)(T:zAr H t N)(k:Sm t H H'):zBD H' wa n ts:=h.keepT fun b _ e=>by
 obtain⟨p,ns,spot,rest,a,_⟩:=T
 exact k b _ (zAp e a (by intro z;cases z)) e
noncomputable def spWeb:Sp:=fun vs H Q _=>∃(t:Addr)(N:Nat)(n:Int),vs=[.ref t,.int n]/\zAr H t N/\N<900000/\1<=n/\n<=24 /\
 ∀(wa:Addr)(ts:List T3)(H':Hp),H wa=none->zBD H' wa n ts->zDL (ts.map tl)->zAr H' t (N+200)->Sm t H H'->Q (.ref wa) H'
noncomputable def JD (n:Int)(kvs:List (List Key×V)):Prop:=(∀kv∈kvs,∃a b l:Int,kv=([Sum.inl a,Sum.inl b],V.int l)/\0<=a/\a<b/\b<n/\1<=l/\l<=99)/\(kvs.map (·.1)).Nodup
theorem JD.nil (n:Int):JD n []:=⟨fun _ h=>by simp at h,List.nodup_nil⟩
variable {b:Int}{kvs:List (List Key×V)}
theorem JD.put (h:JD n kvs){l:Int}(h0:0<=a)(h1:a<b)(h2:b<n)(h3:1<=l)(h4:l<=99):JD n (zCH kvs [Sum.inl a,Sum.inl b] (.int l)):=by
 cases e:zBz kvs [Sum.inl a,Sum.inl b] with
 | none=>
  refine⟨fun kv hkv=>?_,zIX _ h.2 e⟩
  rw[zGW _ e] at hkv
  rcases zp.mp hkv with q | q
  . exact h.1 kv q
  . rw[zm.mp q];exact⟨a,b,l,rfl,h0,h1,h2,h3,h4⟩
 | some v=>
  have ha:(kvs.any fun kv=>decide (kv.1=[Sum.inl a,Sum.inl b]))=true:=by rw[zBs,e];rfl
  unfold zCH
  rw[if_pos ha]
  refine⟨fun kv hkv=>?_,?_⟩
  . obtain⟨q,hq,e2⟩:=zq.mp hkv
    by_cases hk:q.1=[Sum.inl a,Sum.inl b]
    . rw[if_pos hk,hk] at e2;rw[<-e2];exact⟨a,b,l,rfl,h0,h1,h2,h3,h4⟩
    . rw[if_neg hk] at e2;rw[<-e2];exact h.1 q hq
  . have e3:(kvs.map fun kv=>if kv.1=[Sum.inl a,Sum.inl b] then (kv.1,V.int l) else kv).map (·.1)=kvs.map (·.1):=by
     rw[List.map_map]
     refine zBo fun kv _=>?_
     show (if kv.1=[Sum.inl a,Sum.inl b] then (kv.1,V.int l) else kv).1=kv.1
     split <;> rfl
    rw[e3];exact h.2
noncomputable def unk:Key->Int
 | .inl i=>i
 | .inr _=>0
noncomputable def zCq (kvs:List (List Key×V)):List (List Int):=kvs.map fun kv=>kv.1.map unk
theorem JD.keys (h:JD n kvs):kvs.map (·.1)=(zCq kvs).map (List.map Sum.inl):=by
 unfold zCq
 rw[List.map_map]
 refine zBo fun kv hkv=>?_
 obtain⟨a,b,l,e,_⟩:=h.1 kv hkv
 rw[e];rfl
theorem JD.ne (h:JD n kvs):∀k∈zCq kvs,k≠[]:=fun k hk=>by
 obtain⟨kv,hkv,e⟩:=zq.mp hk
 obtain⟨a,b,l,e2,_⟩:=h.1 kv hkv
 rw[<-e,e2];simp[List.map]
theorem JD.nd (h:JD n kvs):(zCq kvs).Nodup:=by
 have e:=h.2
 rw[h.keys] at e
 rw[List.Nodup,zAT] at e
 exact e.imp fun h e'=>h (by rw[e'])
theorem JD.val (h:JD n kvs){k:List Int}(hk:k∈zCq kvs):∃a b l,k=[a,b]/\zBz kvs [Sum.inl a,Sum.inl b]=some (.int l)/\0<=a/\a<b/\b<n/\1<=l/\l<=99:=by
 obtain⟨kv,hkv,e⟩:=zq.mp hk
 obtain⟨a,b,l,e2,h0,h1,h2,h3,h4⟩:=h.1 kv hkv
 have ek:k=[a,b]:=by rw[<-e,e2];rfl
 have hm:(kvs.any fun kv=>decide (kv.1=[Sum.inl a,Sum.inl b]))=true:=zBr.mpr ⟨kv,hkv,zO (by rw[e2])⟩
 rw[zBs] at hm
 cases hv:zBz kvs [Sum.inl a,Sum.inl b] with
 | none=>rw[hv] at hm;cases hm
 | some v=>
  have hv0:=hv
  unfold zBz at hv
  cases hf:kvs.find? fun kv=>decide (kv.1=[Sum.inl a,Sum.inl b]) with
  | none=>rw[hf] at hv;cases hv
  | some q=>
   rw[hf] at hv
   obtain⟨a',b',l',e3,_,_,_,g3,g4⟩:=h.1 q (List.mem_of_find?_eq_some hf)
   have ev:v = .int l':=by rw[e3] at hv;exact (zR hv).symm
   exact⟨a,b,l',ek,by rw[hv0,ev],h0,h1,h2,g3,g4⟩
theorem zJ2 {c a' b' c':Int}(h:HT.lexLt [a',b'] [a,b]=false)(ne:¬ (a=a'/\b=b')):HT.lexLt [a',b',c'] [a,b,c]=false:=by
 rw[HT.lexLt_cons] at h ⊢
 by_cases e1:a'=a
 . subst e1
   simp only[HT.lexLt_cons] at h ⊢
   by_cases e2:b'=b
   . exact absurd ⟨rfl,e2.symm⟩ ne
   . simp_all
 . simp_all
theorem zGT (h:zDL (ts.map fun t=>[t.1,t.2.1]))(d:ts.Pairwise fun s t=>¬ (s.1=t.1/\s.2.1=t.2.1)):zDL (ts.map tl):=by
 unfold zDL at *
 rw[zAT] at *
 exact (h.and d).imp fun ⟨x,y⟩=>zJ2 x y
structure WI (H:Hp)(t d la:Addr)(n:Int)(N m:Nat)(H2:Hp):Prop where
 sm:Sm t H H2
 tp:zAr H2 t N
 dc:∃kvs,H2 d=some (.dT kvs)/\JD n kvs/\kvs.length<=m
 lg:∃l0 l1 l2:Int,H2 la=some (.lst [.int l0,.int l1,.int l2])/\(∀l∈[l0,l1,l2],1<=l/\l<=99)
variable {d la:Addr}
theorem WI.draw {H3:Hp}{t:Addr}{m:Nat}(h:WI H t d la n N m H2)(hd:d≠t)(hl:la≠t)(T:zAr H3 t (N+1))(he:∀b,b≠t->H3 b=H2 b):WI H t d la n (N+1) m H3:=by
 refine⟨fun b o nb e=>by rw[he b nb];exact h.sm b o nb e,T,?_,?_⟩
 . rw[he d hd];exact h.dc
 . rw[he la hl];exact h.lg
theorem WI.laid {H H2:Hp}{t d la l:Addr}{n:Int}{N m:Nat}{o:HO}(h:WI H t d la n N m H2)(hl:H2 l=none):WI H t d la n N m (upd H2 l o):=by
 obtain⟨kvs,a,b⟩:=h.dc
 obtain⟨l0,l1,l2,c,e⟩:=h.lg
 exact⟨h.sm.trans (Sm.laid hl),h.tp.laid hl,⟨kvs,by rw[zd (zl a hl)];exact a,b⟩,⟨l0,l1,l2,by rw[zd (zl c hl)];exact c,e⟩⟩
theorem WI.put {H H2:Hp}{t d la:Addr}{n:Int}{N m:Nat}{kvs:List (List Key×V)}(h:WI H t d la n N m H2)(hd0:H d=none)(hd:H2 d=some (.dT kvs)){a b l:Int}(h0:0<=a)(h1:a<b)(h2:b<n)(h3:1<=l)(h4:l<=99) :
 WI H t d la n N (m+1) (upd H2 d (.dT (zCH kvs [Sum.inl a,Sum.inl b] (.int l)))):=by
 obtain⟨kvs',e,j,hm⟩:=h.dc
 rw[hd] at e
 cases e
 obtain⟨l0,l1,l2,c,e⟩:=h.lg
 refine⟨h.sm.chg hd0,h.tp.chg hd (by intro xs z;cases z),⟨_,zI,j.put h0 h1 h2 h3 h4,?_⟩,⟨l0,l1,l2,by rw[zd (zAp c hd (by intro z;cases z))];exact c,e⟩⟩
 have:=zBL kvs [Sum.inl a,Sum.inl b] (V.int l)
 omega
theorem WI.up {t:Addr}{m N' m':Nat}(h:WI H t d la n N m H2)(hN:N<=N')(hm:m<=m'):WI H t d la n N' m' H2:=by
 obtain⟨kvs,a,b,c⟩:=h.dc
 exact⟨h.sm,h.tp.mono hN,⟨kvs,a,b,by omega⟩,h.lg⟩
theorem at3 {l0 l1 l2 r:Int}(h:∀l∈[l0,l1,l2],1<=l/\l<=99)(h0:0<=r)(h1:r<3):∃l,atI [V.int l0,V.int l1,V.int l2] r=some (.int l)/\1<=l/\l<=99:=by
 obtain⟨l,hl,ha⟩:=zId (L:=[l0,l1,l2]) h0 h1
 exact⟨l,ha,h l hl⟩
theorem zAG {n:Nat}(h:n<=100000):n<sizeLine:=zAN h (by decide)
variable {ms:List (List Int)}
theorem zKv (h:JD n kvs)(hp:ms.Perm (zCq kvs))(hl:kvs.length<64)(hn:1<=n)(hn2:n<=24)(e:ts.map (fun t=>[t.1,t.2.1])=ms)(hr:∀t∈ts,0<=t.1/\t.1<t.2.1/\t.2.1<n/\1<=t.2.2/\t.2.2<=99):GW n ts:=by
 have hlen:ts.length=kvs.length:=by
  have:=hp.length_eq
  rw[<-e] at this
  simpa [zCq] using this
 refine⟨hn,hn2,by omega,hr,?_⟩
 have nd:(ts.map fun t:T3=>[t.1,t.2.1]).Nodup:=by rw[e];exact hp.nodup_iff.mpr h.nd
 rw[List.Nodup,zAT] at nd
 exact nd.imp fun hne hc=>hne (by rw[hc.1,hc.2])
theorem zFt:zo ["_law_tape_here", "_law_n", "_law_longs", "_law_joined_here", "_law_b", "_law_k", "_law_a"] ["_law_tape_here", "_law_n"] (defScope sWeb):=fS0
variable {fD:Addr}{fdD:FuncData}
theorem ok_web {fd:FuncData}(F:Fun K "_law_web" "_law_web" sWeb f fd) (FD:FuB K mg "_law_draw" zFJ fD fdD ["_law_tape_here","_law_many"]) (mLen:mg "len" = none)
 (mRange:mg "range" = none) (mTuple:mg "tuple" = none) (mSorted:mg "sorted" = none):zAK P w K mg base CX0 2 f fd ["_law_tape_here", "_law_n"] spWeb:=by
 have GD:zAK P w K mg base CX0 1 fD fdD ["_law_tape_here", "_law_many"] zFD:=zFz FD.F mLen
 refine F.okD zFt fun _ A _ _ H vs Q E hr h=>?_
 obtain⟨t,N,n,rfl,T,hN,hn1,hn2,k⟩:=h
 have hu:=zEK hr
 obtain⟨es,q0,q1,q2,j3,q3,q4,p1,p2,p3,hbd,hes⟩:∃es q0 q1 q2 j3 q3 q4 p1 p2 p3,defBody sWeb = .Assign [.Name "_law_longs" q0] (.Subscript (.List es p1) (.Call (.Name "_law_draw" q1) [.Name "_law_tape_here" q2,.Constant (.int 4) j3 q3] [] q4) p2) p3::(defBody sWeb).drop 1 /\
  zC9 es [[1,1,1],[1,2,1],[1,2,3],[5,99,7]]:=⟨_,_,_,_,_,_,_,_,_,_,rfl,.cons (.cons (.cons (.cons .nil))) (by show 3<=sizeLine;decide) (.cons (.cons (.cons (.cons .nil))) (by show 3<=sizeLine;decide) (.cons (.cons (.cons (.cons .nil))) (by show 3<=sizeLine;decide) (.cons (.cons (.cons (.cons .nil))) (by show 3<=sizeLine;decide) (.nil))))⟩
 rw[hbd]
 refine⟨_,zQ (zBB (i:=2) zFt.nd (zAA zAg (zCX (zJp hes))
  (zAJ GD hr FD (zC (pv 0) (zCS zL)))))
  (zQ (zCw (i:=3) zFt.nd rfl (Or.inr rfl) zEt)
  (zQ (zA5 (zy zFy (zAJ GD hr FD (zC (pv 0) (zCS zL))) zj (zAC _))
   (zW (zBb PassesOwn.never rfl (zFP rfl mRange (zCS (zC (pv 1) zL))) (zAI (i:=4) zFt.nd rfl (Or.inl rfl))
    (zW (zCp hu (pv 3) (zBP (zC (zAJ GD hr FD (zC (pv 0) (zC (pv 4) zL))) (zC (pv 4) zL)))
     (zAA zAg (pv 2) (zAJ GD hr FD (zC (pv 0) (zCS zL)))) rfl)))) zAP)
  (zQ (zBb PassesOwn.never rfl (zAm rfl mRange (zC (zAJ GD hr FD (zC (pv 0) (zC (zA6 zB6 (zA6 zB6 zj (pv 1)) (zA6 zEv (pv 1) zj)) zL))) zL)) (zAI (i:=5) zFt.nd rfl (Or.inl rfl))
   (zQ (zBB (i:=6) zFt.nd (zAJ GD hr FD (zC (pv 0) (zC (pv 1) zL))))
   (zQ (zBB (i:=4) zFt.nd (zAJ GD hr FD (zC (pv 0) (zC (pv 1) zL))))
   (zW (zA5 (zy zJs (pv 6) (pv 4) (zAC _)) (zW (zCp hu (pv 3) (zBP (zC (pv 6) (zC (pv 4) zL)))
    (zAA zAg (pv 2) (zAJ GD hr FD (zC (pv 0) (zCS zL)))) rfl)) zAP)))))
  (zW (zw (zBP (zC (pv 1) (zC (zAy zAb mTuple (zC
   (zA7 (own:=["_law_pair"]) (cn:=["_law_joined_here"]) (ci:=[3]) rfl (csc rfl rfl) ⟨rfl,rfl,rfl,trivial⟩ rfl
    (zCA (zAL (zDR rfl) mSorted (zC (pv 3) zL))) (fun _ _ _ _=>zBx) (fun _ _ _ _=>zBa)
    (fun _ _ _ _=>zBP (zC (zAA zBd (pv 0) zj) (zC (zAA zBd (pv 0) zj) (zC (zEu hu (pv 1) (pv 0) (fun _ _=>rfl)) zL))))) zL)) zL)))))))),?_⟩
 intro a1 e1 a2 e2 a3 e3 a4 e4
 refine⟨by show 4<=sizeLine;decide,fun al el=>?_⟩
 have T5:=((((T.laid (o:=.lst [.int 1,.int 1,.int 1]) e1).laid (o:=.lst [.int 1,.int 2,.int 1]) e2).laid (o:=.lst [.int 1,.int 2,.int 3]) e3).laid (o:=.lst [.int 5,.int 99,.int 7]) e4).laid (o:=.lst [.ref a1,.ref a2,.ref a3,.ref a4]) el
 refine⟨_,rfl,t,N,4,rfl,T5,by omega,by decide,by decide,fun r H1 h0 h1 T1 he1=>?_⟩
 have nel:al≠t:=((((T.laid (o:=.lst [.int 1,.int 1,.int 1]) e1).laid (o:=.lst [.int 1,.int 2,.int 1]) e2).laid (o:=.lst [.int 1,.int 2,.int 3]) e3).laid (o:=.lst [.int 5,.int 99,.int 7]) e4).ne el
 obtain⟨la,l0,l1,l2,hat,hla,hb,nla⟩:∃(la:Addr)(l0 l1 l2:Int),atI [V.ref a1,V.ref a2,V.ref a3,V.ref a4] r=some (.ref la)/\H1 la=some (.lst [.int l0,.int l1,.int l2])/\(∀l∈[l0,l1,l2],1<=l/\l<=99)/\la≠t:=by
  have n1:a1≠t:=T.ne e1
  have n2:a2≠t:=(T.laid (o:=.lst [.int 1,.int 1,.int 1]) e1).ne e2
  have n3:a3≠t:=((T.laid (o:=.lst [.int 1,.int 1,.int 1]) e1).laid (o:=.lst [.int 1,.int 2,.int 1]) e2).ne e3
  have n4:a4≠t:=(((T.laid (o:=.lst [.int 1,.int 1,.int 1]) e1).laid (o:=.lst [.int 1,.int 2,.int 1]) e2).laid (o:=.lst [.int 1,.int 2,.int 3]) e3).ne e4
  have g1:H1 a1=some (.lst [.int 1,.int 1,.int 1]):=by rw[he1 a1 n1];exact zG el _ _ (zG e4 _ _ (zG e3 _ _ (zG e2 _ _ zI)))
  have g2:H1 a2=some (.lst [.int 1,.int 2,.int 1]):=by rw[he1 a2 n2];exact zG el _ _ (zG e4 _ _ (zG e3 _ _ zI))
  have g3:H1 a3=some (.lst [.int 1,.int 2,.int 3]):=by rw[he1 a3 n3];exact zG el _ _ (zG e4 _ _ zI)
  have g4:H1 a4=some (.lst [.int 5,.int 99,.int 7]):=by rw[he1 a4 n4];exact zG el _ _ zI
  have hr4:r=0\/r=1\/r=2\/r=3:=by omega
  rcases hr4 with rfl | rfl | rfl | rfl
  . exact⟨a1,1,1,1,rfl,g1,by decide,n1⟩
  . exact⟨a2,1,2,1,rfl,g2,by decide,n2⟩
  . exact⟨a3,1,2,3,rfl,g3,by decide,n3⟩
  . exact⟨a4,5,99,7,rfl,g4,by decide,n4⟩
 refine⟨al,_,_,_,rfl,rfl,SqL.of (by rw[he1 al nel];exact zI),hat,?_⟩
 have sm1:Sm t H H1:=fun b o nb e=>by
  rw[he1 b nb]
  exact zG el _ _ (zG e4 _ _ (zG e3 _ _ (zG e2 _ _ (zG e1 _ _ e))))
 intro d hd
 have nd:d≠t:=T1.ne hd
 have hd0:H d=none:=by
  cases q:H d with
  | none=>rfl
  | some o=>have:=sm1 d o nd q;rw[hd] at this;cases this
 have W0:WI H t d la n (N+1) 0 (upd H1 d (.dT [])):=⟨sm1.chg hd0,T1.laid hd,⟨[],zI,JD.nil n,zK _⟩,⟨l0,l1,l2,by rw[zd (zl hla hd)];exact hla,hb⟩⟩
 refine⟨_,rfl,t,N+1,3,rfl,W0.tp,by omega,by decide,by decide,fun r1 H2 _ _ T2 he2=>?_⟩
 have W2:=W0.draw nd nla T2 he2
 refine⟨_,_,rfl,rfl,_,rfl,?_⟩
 refine zEC (fun _=>?a) (fun _=>?b)
 case' a=>
  refine⟨_,rfl,1,n,rfl,⟨by decide,by decide,by omega,by omega⟩,zBm (lo:=1) (n:=(n-1).toNat) (fun i σ H3=>∃vb:Option V,σ=[some (.ref t),some (.int n),some (.ref la),some (.ref d),vb,none,none]/\WI H t d la n (N+2+2*i) i H3) ⟨none,rfl,W2⟩ ?turn ?after⟩
  case turn=>
   rintro i σ H3 hi ⟨vb,rfl,W⟩
   obtain⟨m0,m1,m2,hm,hmb⟩:=W.lg
   refine⟨_,rfl,_,rfl,t,N+2+2*i,3,rfl,W.tp,by omega,by decide,by decide,fun r3 H4 g0 g1 T4 he4=>?_⟩
   have W4:=W.draw nd nla T4 he4
   obtain⟨lg,hlg,hg1,hg2⟩:=at3 hmb g0 g1
   refine⟨la,_,_,_,rfl,rfl,SqL.of (by rw[he4 la nla];exact hm),hlg,?_⟩
   refine⟨_,rfl,_,rfl,_,rfl,t,N+2+2*i+1,1+i,rfl,W4.tp,by omega,by omega,by omega,fun r5 H5 q0 q1 T5 he5=>?_⟩
   have W5:=W4.draw nd nla T5 he5
   refine⟨_,rfl,by show 2<=sizeLine;decide,fun p hp=>?_⟩
   have W6:=W5.laid (o:=.tup [.int r5,.int (1+i)]) hp
   obtain⟨kvs,hk,J,hkl⟩:=W6.dc
   refine⟨d,_,rfl,zHW.t (k:=[Sum.inl r5,Sum.inl (1+(i:Int))]) hk zI (zAG (by omega)),?_⟩
   exact⟨_,rfl,(W6.put hd0 hk q0 q1 (by omega) hg1 hg2).up (by omega) (by omega)⟩
  case' after=>
   rintro σ H3 ⟨vb,rfl,W⟩
   have W3:WI H t d la n (N+50) 23 H3:=W.up (by omega) (by omega)
 case' b=>
  have W3:WI H t d la n (N+50) 23 H2:=W2.up (by omega) (by omega)
 all_goals
  refine⟨_,rfl,_,rfl,_,_,rfl,rfl,_,rfl,_,_,rfl,rfl,⟨by decide,by decide⟩,_,_,rfl,rfl,t,N+50,_,rfl,W3.tp,by omega,by omega,by omega,fun r4 H4 p0 p1 T4 he4=>?_⟩
  have W4:=W3.draw nd nla T4 he4
  refine⟨r4,rfl,by omega,by omega,zBm (lo:=0) (n:=r4.toNat) (fun i σ H5=>∃vb vk va:Option V,σ=[some (.ref t),some (.int n),some (.ref la),some (.ref d),vb,vk,va]/\WI H t d la n (N+51+3*i) (23+i) H5) ⟨_,_,_,rfl,W4⟩ ?turn2 ?after2⟩
  case turn2=>
   rintro i σ H5 hi ⟨vb,vk,va,rfl,W⟩
   refine⟨_,rfl,_,rfl,t,N+51+3*i,n,rfl,W.tp,by omega,by omega,by omega,fun a H6 a0 a1 T6 he6=>?_⟩
   have W6:=W.draw nd nla T6 he6
   refine⟨_,rfl,_,rfl,t,N+51+3*i+1,n,rfl,W6.tp,by omega,by omega,by omega,fun b H7 b0 b1 T7 he7=>?_⟩
   have W7:=W6.draw nd nla T7 he7
   refine⟨_,rfl,_,rfl,_,_,rfl,rfl,_,rfl,?_⟩
   refine zEC (fun hc=>?_) (fun hc=>?_)
   . have hab:a<b:=of_decide_eq_true hc
     obtain⟨m0,m1,m2,hm,hmb⟩:=W7.lg
     refine⟨_,rfl,_,rfl,t,N+51+3*i+1+1,3,rfl,W7.tp,by omega,by decide,by decide,fun r3 H8 g0 g1 T8 he8=>?_⟩
     have W8:=W7.draw nd nla T8 he8
     obtain⟨lg,hlg,hg1,hg2⟩:=at3 hmb g0 g1
     refine⟨la,_,_,_,rfl,rfl,SqL.of (by rw[he8 la nla];exact hm),hlg,?_⟩
     refine⟨_,rfl,_,rfl,_,rfl,by show 2<=sizeLine;decide,fun p hp=>?_⟩
     have W9:=W8.laid (o:=.tup [.int a,.int b]) hp
     obtain⟨kvs,hk,J,hkl⟩:=W9.dc
     refine⟨d,_,rfl,zHW.t (k:=[Sum.inl a,Sum.inl b]) hk zI (zAG (by omega)),?_⟩
     exact⟨_,_,_,rfl,(W9.put hd0 hk a0 hab b1 hg1 hg2).up (by omega) (by omega)⟩
   . exact⟨_,_,_,rfl,W7.up (by omega) (by omega)⟩
  case after2=>
   rintro σ H5 ⟨vb,vk,va,rfl,W⟩
   obtain⟨kvs,hk,J,hkl⟩:=W.dc
   have hk64:kvs.length<64:=by omega
   refine⟨_,rfl,_,rfl,d,kvs,zCq kvs,rfl,hk,J.keys,J.ne,by rw[zCq,zD];exact hk64,fun l zs ms hl TA hp hris=>?_⟩
   refine⟨l,rfl,⟨_,SqL.of zI⟩,[.ref d],rfl,fun D hD=>?_⟩
   have hlz:=TA.length
   have hlm:ms.length=kvs.length:=by rw[hp.length_eq,zCq,zD]
   have nlD:l≠D:=fun e=>by rw[<-e,zI] at hD;cases hD
   have hk1:(upd H5 l (.lst zs)) d=some (.dT kvs):=zG hl _ _ hk
   have hD5:H5 D=none:=by rw[zd nlD.symm] at hD;exact hD
   refine zCI (a:=l) (xs:=zs) (fun i ys H6=>∃ts:List T3,ts.length=i/\ts.map (fun t:T3=>[t.1,t.2.1])=ms.take i/\(∀t∈ts,0<=t.1/\t.1<t.2.1/\t.2.1<n/\1<=t.2.2/\t.2.2<=99)/\H6 D=some (.lst ys)/\zAS H6 ys (ts.map tl)/\zAo (upd H5 l (.lst zs)) H6)
    ⟨[],rfl,rfl,fun _ h=>by simp at h,zI,trivial,zG hD⟩ (fun i ys H6 h=>?_) (fun i ys H6 h=>?_) (fun i x ys H6 hx h=>?_) (fun ys H6 h=>?_)
   . obtain⟨_,_,_,_,_,_,s6⟩:=h
     exact SqL.of (s6 _ _ zI)
   . obtain⟨ts,e1,e2,_,_,T6,_⟩:=h
     have e3:=T6.length
     rw[zD] at e3
     have e4:=congrArg List.length e2
     rw[zD,zx] at e4
     exact zAG (by omega)
   . obtain⟨ts,e1,e2,hts,hD6,T6,s6⟩:=h
     obtain⟨pa,kx,ex,hkx,hpa,_⟩:=TA.get hx
     subst ex
     have hpa6:H6 pa=some (.tup (kx.map V.int)):=s6 _ _ (zG hl _ _ hpa)
     obtain⟨a,b,lg,ek,hv,a0,ab,bn,lg1,lg2⟩:=J.val (hp.mem_iff.mp (zX hkx))
     subst ek
     refine⟨⟨rfl,rfl⟩,?_⟩
     refine zE7 ?_
     refine⟨_,rfl,pa,_,_,_,rfl,rfl,SqT.of hpa6,rfl,_,rfl,pa,_,_,_,rfl,rfl,SqT.of hpa6,rfl,_,rfl,_,rfl,d,_,rfl,hv ▸ zED.t (k:=[Sum.inl a,Sum.inl b]) (s6 _ _ hk1) hpa6,by show 3<=sizeLine;decide,fun p hp6=>?_⟩
     have nDp:D≠p:=zl hD6 hp6
     refine⟨by rw[zd nDp];exact hD6,ts++[(a,b,lg)],by rw[zP,e1];rfl,?_,?_,zI,?_,?_⟩
     . rw[zV,e2,zu,hkx];rfl
     . intro t ht
       rcases zp.mp ht with q | q
       . exact hts t q
       . rw[zm.mp q];exact⟨a0,ab,bn,lg1,lg2⟩
     . rw[zV]
       refine (T6.keep fun c xs e=>?_).snoc ⟨p,rfl,by rw[zd nDp.symm,zI];rfl,by simp[tl]⟩
       rw[zd (zAp e hD6 (by intro z;cases z)),zd (zl e hp6)]
       exact e
     . exact zAa (s6.trans (zG hp6)) hD
   . obtain⟨ts,e1,e2,hts,hD6,T6,s6⟩:=h
     refine⟨D,ys,rfl,.inl ⟨SqL.of hD6,fun ta hta=>?_⟩⟩
     refine⟨by show 2<=sizeLine;decide,fun wa hwa=>?_⟩
     rw[hlz,zf (zK _)] at e2
     have G:GW n ts:=zKv J hp hk64 hn1 hn2 e2 hts
     have nwt:wa≠ta:=fun e=>by rw[e,zI] at hwa;cases hwa
     have h6wa:H6 wa=none:=by rw[zd nwt] at hwa;exact hwa
     have s7:zAo H6 (upd (upd H6 ta (.tup ys)) wa (.tup [.int n,.ref ta])):=zAa (zG hta) h6wa
     have T7:zAr (upd (upd H6 ta (.tup ys)) wa (.tup [.int n,.ref ta])) t (N+200):=((W.tp.mono (by omega)).keep ((zG hl).trans (s6.trans s7)))
     have nwa:wa≠t:=((W.tp.keep ((zG hl).trans s6)).ne h6wa)
     have sm7:Sm t H (upd (upd H6 ta (.tup ys)) wa (.tup [.int n,.ref ta])):=W.sm.trans (Sm.of ((zG hl).trans (s6.trans s7)))
     refine k wa ts _ ?_ ⟨ta,ys,zI,by rw[zd nwt.symm,zI],T6.keep fun c xs e=>s7 _ _ e,G⟩ (zGT (by rw[e2];exact hris) G.dis) T7 sm7
     cases q:H wa with
     | none=>rfl
     | some o=>
      have:=(W.sm.trans (Sm.of ((zG hl).trans s6))) wa o nwa q
      rw[h6wa] at this;cases this
theorem ifT {c:Bool}{p q:Prop}(h:c=true)(hp:p):(if c=true then p else q):=by rw[if_pos h];exact hp
theorem ifF {c:Bool}{p q:Prop}(h:c=false)(hq:q):(if c=true then p else q):=by rw[if_neg (by simp[h])];exact hq
noncomputable def zFC:Sp:=fun vs H Q _=>∃(wa:Addr)(n:Int)(ts:List T3)(p:Int),vs=[.ref wa,.int p]/\zBD H wa n ts /\
 ∀(l:Addr)(zs:List V)(ms:List (List Int))(H':Hp),zAo H H'->H l=none->H' l=some (.lst zs)->zAS H' zs ms->ms.Perm (fd p ts)->zDL ms->Q (.ref l) H'
theorem zFF:zo ["web", "place", "found", "a", "b", "long"] ["web", "place"] (defScope zEo):=fS0
variable {fd':FuncData}
theorem zEw (F:Fun K "ties_at" "ties_at" zEo f fd') (mSorted:mg "sorted" = none):zAK P w K mg base CX0 1 f fd' ["web", "place"] zFC:=by
 refine F.okD zFF fun _ A _ _ H vs Q E hr h=>?_
 obtain⟨wa,n,ts,p,rfl,⟨ta,tys,hwa,hta,TA,G⟩,k⟩:=h
 refine⟨_,zQ (zBB (i:=2) zFF.nd (zCX zL))
  (zQ (zBb PassesOwn.never rfl (zB5 (zAA zAM (pv 0) zj)) (zCC rfl (zAE (zAI (i:=3) zFF.nd rfl (Or.inl rfl)) (zAE (zAI (i:=4) zFF.nd rfl (Or.inl rfl)) (zAE (zAI (i:=5) zFF.nd rfl (Or.inl rfl)) zBc))))
   (zQ (zA5 (zy zCD (pv 3) (pv 1) (zAC _)) (zW (zCL (zG7 PySem.F.plainAttrs_list PySem.F.slot_list_append PySem.F.type_list_append zCZ (pv 2) (zC (zBP (zC (pv 4) (zC (pv 5) zL))) zL)))) zAP)
   (zW (zA5 (zy zCD (pv 4) (pv 1) (zAC _)) (zW (zCL (zG7 PySem.F.plainAttrs_list PySem.F.slot_list_append PySem.F.type_list_append zCZ (pv 2) (zC (zBP (zC (pv 3) (zC (pv 5) zL))) zL)))) zAP))))
  (zW (zw (zAL zD4 mSorted (zC (pv 2) zL))))),?_⟩
 refine⟨zh _,fun l hl=>?_⟩
 have hwl:wa≠l:=zl hwa hl
 have htl:ta≠l:=zl hta hl
 have hlt:tys.length=ts.length:=by rw[TA.length,zD]
 refine⟨_,rfl,wa,_,_,_,rfl,rfl,SqT.of (by rw[zd hwl];exact hwa),rfl,ta,rfl,⟨_,SqT.of (by rw[zd htl];exact hta)⟩,zDu (K:=K) (a:=ta) (xs:=tys)
  (fun i σ H2=>∃(va vb vl:Option V)(xs:List V),σ=[some (.ref wa),some (.int p),some (.ref l),va,vb,vl]/\zAo H H2/\H2 l=some (.lst xs)/\zAS H2 xs (fd p (ts.take i)))
  ⟨none,none,none,[],rfl,zG hl,zI,trivial⟩ (fun i σ H2 _ ⟨_,_,_,_,_,s2,_⟩=>SqT.of (s2 _ _ hta)) ?turn ?after⟩
 case turn=>
  rintro i y σ H2 hi ⟨va,vb,vl,xs,rfl,s2,hl2,T2⟩
  obtain⟨ya,ky,rfl,hky,hya,_⟩:=TA.get hi
  rw[zN] at hky
  obtain⟨⟨a,b,c⟩,hti,rfl⟩:∃t:T3,ts[i]? = some t/\tl t=ky:=by
   cases e:ts[i]? with
   | none=>rw[e] at hky;cases hky
   | some t=>rw[e] at hky;exact⟨t,rfl,zR hky⟩
  have hil:i<ts.length:=(zJ.mp hti).1
  have hlen:∀{xs':List V}{H3:Hp},zAS H3 xs' (fd p (ts.take i))->xs'.length<sizeLine:=fun T=>by
   have e1:=T.length
   have e2:=zGi (n:=n) p (ts:=ts.take i) fun t ht=>(G.rng t (List.mem_of_mem_take ht)).2.1
   rw[zx] at e2
   exact zAG (by have:=G.len;omega)
  have hfd:fd p (ts.take (i+1))=fd p (ts.take i)++((if a=p then [[b,c]] else [])++(if b=p then [[a,c]] else [])):=by
   rw[zu,hti,zFc]
   show _++((if a=p then [[b,c]] else [])++(if b=p then [[a,c]] else [])++[])=_
   rw[zt]
  have hab:a<b:=(G.rng _ (zX hti)).2.1
  refine⟨ya,_,rfl,SqT.of (s2 _ _ hya),rfl,_,_,rfl,_,_,rfl,_,_,rfl,rfl,?_⟩
  have app:∀{x:Int},∀q,H2 q=none->∃xs',(upd (upd H2 q (.tup [.int x,.int c])) l (.lst (xs++[.ref q]))) l=some (.lst xs')/\zAo H (upd (upd H2 q (.tup [.int x,.int c])) l (.lst (xs++[.ref q])))/\zAS (upd (upd H2 q (.tup [.int x,.int c])) l (.lst (xs++[.ref q]))) xs' (fd p (ts.take i)++[[x,c]]):=by
   intro x q hq
   have nlq:l≠q:=zl hl2 hq
   refine⟨_,zI,zAa (s2.trans (zG hq)) hl,(T2.keep fun e ys he=>?_).snoc ⟨q,rfl,by rw[zd nlq.symm,zI];rfl,by simp⟩⟩
   rw[zd (zAp he hl2 (by intro z;cases z)),zd (zl he hq)]
   exact he
  refine⟨_,rfl,_,rfl,rfl,_,rfl,?_⟩
  refine zEC (fun h1=>?_) (fun h1=>?_)
  . have e1:a=p:=by have:=of_decide_eq_true h1;injection this
    have n2:¬ b=p:=by omega
    refine⟨_,rfl,.inl ⟨rfl,_,SqL.of hl2⟩,_,rfl,_,rfl,by show 2<=sizeLine;decide,fun q hq=>?_⟩
    have nlq:l≠q:=zl hl2 hq
    refine⟨l,_,_,rfl,rfl,by rw[zd nlq];exact hl2,hlen T2,?_⟩
    refine⟨_,rfl,_,rfl,rfl,_,rfl,?_⟩
    rw[show decide (V.int b=V.int p)=false from zY fun e=>n2 (by injection e)]
    refine zCa ?_
    obtain⟨xs',g1,g2,g3⟩:=app (x:=b) q hq
    refine⟨_,_,_,xs',rfl,g2,g1,?_⟩
    rw[hfd,if_pos e1,if_neg n2]
    exact g3
  . have n1:¬ a=p:=fun e=>by
     have:=h1
     rw[e] at this
     exact this (zO rfl)
    refine⟨_,rfl,_,rfl,rfl,_,rfl,?_⟩
    refine zEC (fun h2=>?_) (fun h2=>?_)
    . have e2:b=p:=by have:=of_decide_eq_true h2;injection this
      refine⟨_,rfl,.inl ⟨rfl,_,SqL.of hl2⟩,_,rfl,_,rfl,by show 2<=sizeLine;decide,fun q hq=>?_⟩
      have nlq:l≠q:=zl hl2 hq
      refine⟨l,_,_,rfl,rfl,by rw[zd nlq];exact hl2,hlen T2,?_⟩
      obtain⟨xs',g1,g2,g3⟩:=app (x:=a) q hq
      refine⟨_,_,_,xs',rfl,g2,g1,?_⟩
      rw[hfd,if_neg n1,if_pos e2]
      exact g3
    . have n2:¬ b=p:=fun e=>by
       have:=h2
       rw[e] at this
       exact this (zO rfl)
      refine⟨_,_,_,xs,rfl,s2,hl2,?_⟩
      rw[hfd,if_neg n1,if_neg n2,zt,zt]
      exact T2
 case after=>
  rintro σ H2 ⟨va,vb,vl,xs,rfl,s2,hl2,T2⟩
  rw[hlt,zf (zK _)] at T2
  have e2:=zGi (n:=n) p (ts:=ts) fun t ht=>(G.rng t ht).2.1
  refine⟨_,rfl,l,xs,fd p ts,rfl,SqL.of hl2,T2,by have:=G.len;omega,fun l' zs ms hl' T3 hp hrs=>?_⟩
  have nll:l'≠l:=fun e=>by rw[e,hl2] at hl';cases hl'
  have hl0:H l'=none:=by
   cases q:H l' with
   | none=>rfl
   | some o=>have:=s2 l' o q;rw[hl'] at this;cases this
  exact k l' zs ms _ (s2.trans (zG hl')) hl0 zI (T3.keep fun e ys he=>zG hl' _ _ he) hp hrs
noncomputable def zDc:Sp:=fun vs H Q _=>∃(wa:Addr)(n:Int)(ts:List T3)(one other:Int),vs=[.ref wa,.int one,.int other]/\zBD H wa n ts /\
 ∀(r:V)(H':Hp),zAo H H'->((∃l,Adj ts one other l/\r = .int l)\/((∀l,¬ Adj ts one other l)/\r = .non))->Q r H'
theorem zHI (h:zDL ms)(hk:∀k∈ms,∃y l,k=[y,l])(hn:(ms.map hd).Nodup):(ms.map hd).Pairwise (· < ·):=by
 rw[zAT]
 rw[List.Nodup,zAT] at hn
 have both:ms.Pairwise fun a b=>HT.lexLt b a=false/\hd a≠hd b:=by
  rw[zAd]
  intro i j hi hj hij
  exact⟨zAd.mp h i j hi hj hij,zAd.mp hn i j hi hj hij⟩
 refine both.imp_of_mem fun {a b} ha hb hab=>?_
 obtain⟨y,l,rfl⟩:=hk a ha
 obtain⟨z,m,rfl⟩:=hk b hb
 obtain⟨h1,h2⟩:=hab
 have h2':y≠z:=h2
 rw[HT.lexLt_cons,if_neg (Ne.symm h2')] at h1
 have:=of_decide_eq_false h1
 show y<z
 omega
theorem zHv:zo ["web", "one", "other", "place", "long"] ["web", "one", "other"] (defScope zFH):=fS0
variable {fdT:FuncData}
theorem zIS {fT:Addr}(F:Fun K "long_of" "long_of" zFH f fd') (FT:FuB K mg "ties_at" zEo fT fdT ["web","place"]) (mSorted:mg "sorted" = none) :
 zAK P w K mg base CX0 2 f fd' ["web", "one", "other"] zDc:=by
 have GT:zAK P w K mg base CX0 1 fT fdT ["web", "place"] zFC:=zEw FT.F mSorted
 refine F.okD zHv fun _ A _ _ H vs Q E hr h=>?_
 obtain⟨wa,n,ts,one,other,rfl,W,k⟩:=h
 refine⟨_,zQ (zBb PassesOwn.never rfl (zCA (zAJ GT hr FT (zC (pv 0) (zC (pv 1) zL)))) (zCC rfl (zAE (zAI (i:=3) zHv.nd rfl (Or.inl rfl)) (zAE (zAI (i:=4) zHv.nd rfl (Or.inl rfl)) zBc)))
  (zW (zA5 (zy zCD (pv 3) (pv 2) (zAC _)) (zW (zw (pv 4))) zAP)))
  (zW (zw zAh)),?_⟩
 refine⟨_,rfl,_,rfl,wa,n,ts,one,rfl,W,fun l zs ms H1 s1 hl0 hl1 T1 hp _=>?_⟩
 refine⟨l,rfl,⟨_,SqL.of hl1⟩,zC5 (K:=K) (a:=l) (xs:=zs) (fun i σ H2=>∃va vb:Option V,σ=[some (.ref wa),some (.int one),some (.int other),va,vb]/\H2=H1/\∀j k,j<i->ms[j]? = some k->hd k≠other)
  ⟨none,none,rfl,rfl,fun j _ h=>by omega⟩ (fun i σ H2 _ ⟨_,_,_,e,_⟩=>e ▸ SqL.of hl1) ?turn ?after⟩
 case turn=>
  rintro i y σ H2 hi ⟨va,vb,rfl,rfl,hno⟩
  obtain⟨ya,ky,rfl,hky,hya,_⟩:=T1.get hi
  have hm:ky∈fd one ts:=hp.mem_iff.mp (zX hky)
  obtain⟨z,c,rfl,ha⟩:=zC0.mp hm
  refine⟨ya,_,rfl,SqT.of hya,rfl,_,_,rfl,_,_,rfl,rfl,?_⟩
  refine⟨_,rfl,_,rfl,rfl,_,rfl,?_⟩
  refine zEC (fun h1=>?_) (fun h1=>?_)
  . have e1:z=other:=by have:=of_decide_eq_true h1;injection this
    subst e1
    exact⟨_,rfl,k _ _ s1 (.inl ⟨c,ha,rfl⟩)⟩
  . have n1:z≠other:=fun e=>by
     have:=h1
     rw[e] at this
     exact this (zO rfl)
    refine⟨_,_,rfl,rfl,fun j kj hj hkj=>?_⟩
    by_cases hji:j<i
    . exact hno j kj hji hkj
    . have e:j=i:=by omega
      subst e
      rw[hky] at hkj
      cases hkj
      exact n1
 case after=>
  rintro σ H2 ⟨va,vb,rfl,rfl,hno⟩
  refine k _ _ s1 (.inr ⟨fun c ha=>?_,rfl⟩)
  have hm:[other,c]∈ms:=hp.mem_iff.mpr (zC0.mpr ⟨other,c,rfl,ha⟩)
  obtain⟨j,hj,e⟩:=zv hm
  exact hno j _ (by have:=T1.length;omega) (by rw[zB hj,e]) rfl
theorem zGn {i j:Int}:decide (V.int i=V.int j)=decide (i=j):=by
 by_cases h:i=j
 . subst h;simp
 . rw[zY h,zY fun e=>h (by injection e)]
noncomputable def lamP:Pos:=⟨102,36,102,64⟩
noncomputable abbrev lamQ:Str:=(("nearest" : Str) ++ ".<locals>.") ++ "<lambda>"
noncomputable abbrev Tb (H:Hp)(PT:Addr):Prop:=zCU H PT lamP lamQ
noncomputable def zKQ (PT:Addr):Sp:=fun vs H Q _=>∃(d:Addr)(n:Int)(kvs:List (Key×V))(wt:Int->Option Int),vs=[.ref d]/\H d=some (.dK kvs)/\WD n kvs wt/\0<=n/\n<=24/\kvs≠[]/\Tb H PT /\
 ∀(M e:Int)(H':Hp),wt M=some e->(∀q f,wt q=some f->e<=f)->SmT H H'->Tb H' PT->Q (.int M) H'
noncomputable def zHp (PT:Addr):Sp:=fun vs H Q _=>∃(wa:Addr)(n:Int)(ts:List T3)(s:Int),vs=[.ref wa,.int s]/\zBD H wa n ts/\0<=s/\s<n/\Tb H PT /\
 ∀(l:Addr)(kn:List (Option Int))(H':Hp),SmT H H'->Tb H' PT->H' l=some (.tup (kn.map oV))->zJL ts n s kn->Q (.ref l) H'
theorem zBD.smT (h:zBD H wa n ts)(k:SmT H H'):zBD H' wa n ts:=h.keepT fun b ys e=>by
 rcases k b _ e with ⟨ps,z⟩ | z
 . cases z
 . exact z
theorem scNear:zo ["waiting"] ["waiting"] (defScope zH2):=fS0
variable {c:Addr}
theorem zLo (F:zKK K "nearest" "nearest" zH2 f fd' c) (C:PySem.W.CodeHd base c PT)(hbm:zJJ mg base)(mMin:mg "min" = none) (mSorted:mg "sorted" = none):zAK P w K mg base CX0 2 f fd' ["waiting"] (zKQ PT):=by
 refine F.ok scNear (fun vs H Q E h=>?_) (fun A outer s H vs Q E hr h=>?_)
 . obtain⟨d,n,kvs,wt,rfl,_⟩:=h
   rfl
 . obtain⟨d,n,kvs,wt,rfl,hd,W,hn0,hn,hne,T,k⟩:=h
   refine⟨_,zW (zw (zIJ (k:=0) (j:=0) (P:=PT) (c:=c) (dn := "waiting") (pn := "place") rfl hr rfl mMin (zC (zAL (zFh rfl) mSorted (zC (pv 0) zL)) zL) rfl C hbm rfl rfl rfl rfl rfl (by decide +kernel) (zL5 rfl) rfl rfl rfl (fun _ _ _ _ _ _ _=>rfl))),?_⟩
   have hl:=W.len hn0
   refine⟨_,rfl,d,kvs,zEI kvs,rfl,hd,W.keys,by unfold zEI;rw[zD];omega,fun l ms hl' hp _=>?_⟩
   have mem:∀x,x∈ms->∃e,wt x=some e:=fun x hx=>W.mem.mp (hp.mem_iff.mp hx)
   refine⟨l,d,ms,kvs,fun x=>(wt x).getD 0,rfl,zI,fun e=>?_,rfl,by rw[zd (zl hd hl')];exact hd,fun x hx=>?_,T.same (zG hl'),fun M H2 hM hb sm T2=>?_⟩
   . subst e
     have:=hp.length_eq
     unfold zEI at this
     rw[zD] at this
     exact hne (List.eq_nil_of_length_eq_zero this.symm)
   . obtain⟨e,he⟩:=mem x hx
     show zBz kvs (Sum.inl x)=some (.int ((wt x).getD 0))
     rw[W.at_ x,he];rfl
   . obtain⟨e,he⟩:=mem M hM
     refine k M e H2 he (fun q f hq=>?_) ((SmT.of (zG hl')).trans sm) T2
     have hq':q∈ms:=hp.mem_iff.mpr (W.mem.mpr ⟨f,hq⟩)
     have:=hb q hq'
     simp only[he,hq,Option.getD_some] at this
     exact this
theorem zDe:zo ["web", "start", "known", "waiting", "place", "other", "long", "far"] ["web", "start"] (defScope zH6):=fS0
variable {o:Option Int}
theorem zHB {kn:List (Option Int)}{j:Nat}:(kn.map oV).set j (oV o)=(kn.set j o).map oV:=by rw[List.map_set]
theorem zFR:decide (oV o=V.non)=o.isNone:=by
 cases o with
 | none=>rfl
 | some d=>exact zY (by intro e;cases e)
variable {fN:Addr}{fdN:FuncData}
theorem zLs {fT:Addr}(F:Fun K "lengths_from" "lengths_from" zH6 f fd') (FN:zKK K "nearest" "nearest" zH2 fN fdN c) (bN:zBw K fdN ["waiting"] []) (mN:mg "nearest" = some (.ref fN)) (FT:FuB K mg "ties_at" zEo fT fdT ["web","place"])
 (C:PySem.W.CodeHd base c PT)(hbm:zJJ mg base)(mMin:mg "min" = none) (mSorted:mg "sorted" = none) (mTuple:mg "tuple" = none):zAK P w K mg base CX0 3 f fd' ["web", "start"] (zHp PT):=by
 have GN:zAK P w K mg base CX0 2 fN fdN ["waiting"] (zKQ PT):=zLo FN C hbm mMin mSorted
 have GT:zAK P w K mg base CX0 2 fT fdT ["web", "place"] zFC:=(zEw FT.F mSorted).mono (by decide)
 refine F.okD zDe fun _ A _ _ H vs Q E hr h=>?_
 obtain⟨wa,n,ts,st,rfl,W,hs0,hs1,T,k⟩:=h
 obtain⟨ta,tys,hwa,_,_,G⟩:=id W
 have hu:=zEK hr
 have hn1:=G.n1
 have hn24:=G.n24
 refine⟨_,zQ (zBB (i:=2) zDe.nd (zA6 op_rep (zCX (zC zAh zL)) (zAA zAM (pv 0) zj)))
  (zQ (zBB (i:=3) zDe.nd (zLV (zJj (pv 1) zj zLS) rfl rfl (by decide) (by decide)))
  (zQ (zJh PassesOwn.never (zJg (pv 3) (fun _=>rfl))
   (zQ (zBB (i:=4) zDe.nd (zIM GN hr rfl mN FN.kp bN .nil zCy (zC (pv 3) zL)))
   (zQ (zDO (zJm (pv 3) (pv 4) ⟨rfl,rfl,rfl,rfl⟩) (zDh (pv 2) (pv 4) zCK))
   (zW (zBb PassesOwn.never rfl (zCA (zAJ GT hr FT (zC (pv 0) (zC (pv 4) zL)))) (zCC rfl (zAE (zAI (i:=5) zDe.nd rfl (Or.inl rfl)) (zAE (zAI (i:=6) zDe.nd rfl (Or.inl rfl)) zBc)))
    (zW (zA5 (zy zBk (zAA zAg (pv 2) (pv 5)) zAh (zAC _))
     (zQ (zBB (i:=7) zDe.nd (zA6 zB6 (zAA zAg (pv 2) (pv 4)) (pv 6)))
     (zW (zCp hu (pv 3) (pv 5) (zAL (zD5 rfl) mMin (zC (pv 7) (zC (zJn hu (pv 3) (pv 5) (pv 7) ⟨rfl,rfl,rfl,rfl⟩) zL))) rfl))) zAP)))))))
  (zW (zw (zAy zAb mTuple (zC (pv 2) zL)))))),?_⟩
 refine⟨by show 1<=sizeLine;decide,fun l0 hl0=>?_⟩
 refine⟨_,rfl,wa,_,_,_,rfl,rfl,SqT.of (zG hl0 _ _ hwa),rfl,l0,n,_,rfl,rfl,zI,by omega,by omega,?_,fun kl hkl=>?_⟩
 . have:sizeLine=16777216:=rfl
   show 1*n.toNat<=sizeLine
   omega
 have s1:zAo H (upd (upd H l0 (.lst [.non])) kl (.lst (List.replicate n.toNat [V.non]).flatten)):=(zG hl0).trans (zG hkl)
 have erep:(List.replicate n.toNat [V.non]).flatten=(List.replicate n.toNat (none:Option Int)).map oV:=by
  generalize n.toNat=m
  induction m with
  | zero=>rfl
  | succ m ih=>rw[zBO,List.flatten_cons,ih,zBO];rfl
 rw[erep] at s1 ⊢
 have hk1:(upd (upd H l0 (.lst [.non])) kl (.lst ((List.replicate n.toNat (none:Option Int)).map oV))) kl=some (.lst ((List.replicate n.toNat (none:Option Int)).map oV)):=zI
 generalize hH1:upd (upd H l0 (.lst [.non])) kl (.lst ((List.replicate n.toNat (none:Option Int)).map oV))=H1 at s1 hk1 ⊢
 intro wd hwd
 refine⟨_,rfl,zI,[(Sum.inl st,.int 0)],rfl,by show 1<=15;decide,?_⟩
 have s2:zAo H (upd (upd H1 wd (.dK [])) wd (.dK [(Sum.inl st,.int 0)])):=by rw[zBZ];exact s1.trans (zG hwd)
 have nkw:kl≠wd:=zl hk1 hwd
 rw[show zEX [] [((Sum.inl st:Key),V.int 0)]=[((Sum.inl st:Key),V.int 0)] from rfl,zBZ]
 rw[zBZ] at s2
 refine⟨fun m σ H2=>∃(kn:List (Option Int))(kvs:List (Key×V))(wt:Int->Option Int)(v4 v5 v6 v7:Option V),σ=[some (.ref wa),some (.int st),some (.ref kl),some (.ref wd),v4,v5,v6,v7]/\m=n.toNat-cnt kn/\SmT H H2/\Tb H2 PT/\H2 kl=some (.lst (kn.map oV))/\H2 wd=some (.dK kvs)/\WD n kvs wt/\Dl ts n st kn wt,
  ⟨_,_,_,_,_,_,_,_,rfl,rfl,SmT.of s2,T.same s2,by rw[zd nkw];exact hk1,zI,WD.one hs0 hs1,Dl.start G hs0 hs1⟩,?_⟩
 rintro m σ H2 ⟨kn,kvs,wt,v4,v5,v6,v7,rfl,rfl,sm,T2,hk2,hw2,WW,D⟩
 cases hkb:kvs.isEmpty with
 | true=>
  refine⟨_,rfl,false,.inr (.inr ⟨kvs,hw2,by rw[hkb];rfl⟩),?_⟩
  refine zCa ?_
  have hkv:kvs=[]:=List.isEmpty_iff.mp hkb
  have hnone:∀q,wt q=none:=fun q=>by
   cases e:wt q with
   | none=>rfl
   | some d=>
    have:=WW.mem.mpr ⟨d,e⟩
    rw[hkv] at this
    simp[zEI] at this
  refine⟨_,rfl,kl,_,rfl,.inl ⟨SqL.of hk2,fun q hq=>?_⟩⟩
  exact k q kn _ (sm.trans (SmT.of (zG hq))) (T2.same (zG hq)) zI (D.done G hnone)
 | false=>
  refine⟨_,rfl,true,.inr (.inr ⟨kvs,hw2,by rw[hkb];rfl⟩),?_⟩
  refine zFZ ?_
  have hne:kvs≠[]:=by intro e;rw[e] at hkb;cases hkb
  refine⟨fun σ' H'=>∃(kn':List (Option Int))(kvs':List (Key×V))(wt':Int->Option Int)(v4 v5 v6 v7:Option V),σ'=[some (.ref wa),some (.int st),some (.ref kl),some (.ref wd),v4,v5,v6,v7]/\cnt kn'=cnt kn+1/\SmT H H'/\Tb H' PT/\H' kl=some (.lst (kn'.map oV))/\H' wd=some (.dK kvs')/\WD n kvs' wt'/\Dl ts n st kn' wt',?_,?_⟩
  . rintro σ' H' ⟨kn',kvs',wt',v4',v5',v6',v7',rfl,hc,sm',T',hk',hw',WW',D'⟩
    have h1:=zI3 kn'
    have h2:=D'.ln
    exact⟨n.toNat-cnt kn',by omega,kn',kvs',wt',v4',v5',v6',v7',rfl,rfl,sm',T',hk',hw',WW',D'⟩
  refine⟨_,rfl,wd,n,kvs,wt,rfl,hw2,WW,by omega,hn24,hne,T2,fun M e H3 hM hmin sm3 T3=>?_⟩
  have hk3:H3 kl=some (.lst (kn.map oV)):=sm3.get hk2 (by intro ps z;cases z)
  have hw3:H3 wd=some (.dK kvs):=sm3.get hw2 (by intro ps z;cases z)
  obtain⟨hknM,hM0,hM1,hcnt,N0⟩:=D.enter G hM hmin
  have hval:zBz kvs (Sum.inl M)=some (.int e):=by rw[WW.at_ M,hM];rfl
  refine⟨_,rfl,wd,rfl,.inl ⟨kvs,.inl hw3⟩,_,rfl,kvs,Sum.inl M,_,hw3,rfl,hval,?_⟩
  have hlk:(kn.map oV).length=n.toNat:=by rw[zD];exact D.ln
  have hk3':(upd H3 wd (.dK (zBy kvs (Sum.inl M)))) kl=some (.lst (kn.map oV)):=by rw[zd nkw];exact hk3
  refine⟨_,rfl,_,rfl,kl,_,M,M.toNat,rfl,rfl,hk3',zGf hM0 (by rw[hlk];omega),?_⟩
  rw[show V.int e=oV (some e) from rfl,zHB]
  have sm4:SmT H (upd (upd H3 wd (.dK (zBy kvs (Sum.inl M)))) kl (.lst ((kn.set M.toNat (some e)).map oV))):=by
   intro b o hb
   rcases (sm.trans sm3) b o hb with z | z
   . exact .inl z
   . right
     have n1:b≠wd:=fun q=>by
      have hbn:H b=none:=by
       rw[q]
       cases e':H wd with
       | none=>rfl
       | some o'=>have:=s1 wd o' e';rw[hwd] at this;cases this
      rw[hbn] at hb;cases hb
     have n2:b≠kl:=fun q=>by
      have hbn:H b=none:=by
       rw[q]
       cases e':H kl with
       | none=>rfl
       | some o'=>have:=zG (o:=.lst [.non]) hl0 kl o' e';rw[hkl] at this;cases this
      rw[hbn] at hb;cases hb
     rw[zd n2,zd n1];exact z
  have T4:Tb (upd (upd H3 wd (.dK (zBy kvs (Sum.inl M)))) kl (.lst ((kn.set M.toNat (some e)).map oV))) PT:=by
   refine T3.keep (fun o ho=>?_) fun c φ hc=>?_
   . obtain⟨ps,hps,_⟩:=T3
     have e1:=ho
     rw[hps] at e1;cases e1
     rw[zd (zAp ho hk3 (by intro z;cases z)),zd (zAp ho hw3 (by intro z;cases z))];exact ho
   . rw[zd (zAp hc hk3 (by intro z;cases z)),zd (zAp hc hw3 (by intro z;cases z))];exact hc
  have hk4:(upd (upd H3 wd (.dK (zBy kvs (Sum.inl M)))) kl (.lst ((kn.set M.toNat (some e)).map oV))) kl=some (.lst ((kn.set M.toNat (some e)).map oV)):=zI
  have hw4:(upd (upd H3 wd (.dK (zBy kvs (Sum.inl M)))) kl (.lst ((kn.set M.toNat (some e)).map oV))) wd=some (.dK (zBy kvs (Sum.inl M))):=by rw[zd nkw.symm,zI]
  generalize upd (upd H3 wd (.dK (zBy kvs (Sum.inl M)))) kl (.lst ((kn.set M.toNat (some e)).map oV))=H4 at sm4 T4 hk4 hw4 ⊢
  refine⟨_,rfl,_,rfl,wa,n,ts,M,rfl,W.smT sm4,fun l zs ms H5 s5 hl5 hl5' T5 hp _=>?_⟩
  have hlz:=T5.length
  refine⟨l,rfl,⟨_,SqL.of hl5'⟩,zC5 (K:=K) (a:=l) (xs:=zs) (fun i σ H6=>∃(kvs':List (Key×V))(wt':Int->Option Int)(v5 v6 v7:Option V),σ=[some (.ref wa),some (.int st),some (.ref kl),some (.ref wd),some (.int M),v5,v6,v7]/\(∀b o,b≠wd->H5 b=some o->H6 b=some o)/\H6 wd=some (.dK kvs')/\WD n kvs' wt'/\Dn ts n st M e (kn.set M.toNat (some e)) wt' (fun r=>∃j k,j<i/\ms[j]? = some k/\hd k=r))
   ⟨_,_,_,_,_,rfl,fun _ _ _ z=>z,s5 _ _ hw4,WW.drop,⟨⟨N0.dm.kd,N0.dm.wk,N0.dm.ord,fun q e' r l' hq ha=>(N0.dm.nb q e' r l' hq ha).imp (fun z=>⟨z.1,fun ⟨j,_,hj,_⟩=>absurd hj (Nat.not_lt_zero _)⟩) id,N0.dm.st,N0.dm.pd,N0.dm.mx⟩,N0.ln,N0.bk,N0.bd,N0.bw⟩⟩
   (fun i σ H6 _ ⟨_,_,_,_,_,_,s6,_⟩=>SqL.of (s6 l _ (zAp hl5' (s5 _ _ hw4) (by intro z;cases z)) hl5')) ?turn ?after⟩
  case after=>
   rintro σ H6 ⟨kvs',wt',v5,v6,v7,rfl,s6,hw6,WW6,N6⟩
   have hk5:H5 kl=some (.lst ((kn.set M.toNat (some e)).map oV)):=s5 _ _ hk4
   refine⟨_,kvs',wt',_,_,_,_,rfl,hcnt,?_,?_,s6 kl _ nkw hk5,hw6,WW6,N6.leave fun r c ha=>?_⟩
   . intro b o hb
     rcases (sm4.trans (SmT.of s5)) b o hb with z | z
     . exact .inl z
     . right
       refine s6 b o (fun q=>?_) z
       have hbn:H b=none:=by
        rw[q]
        cases e':H wd with
        | none=>rfl
        | some o'=>have:=s1 wd o' e';rw[hwd] at this;cases this
       rw[hbn] at hb;cases hb
   . refine (T4.same s5).keep (fun o ho=>?_) fun c φ hc=>?_
     . obtain⟨ps,hps,_⟩:=T4.same s5
       refine s6 PT o (fun q=>?_) ho
       rw[q,s5 _ _ hw4] at hps;cases hps
     . refine s6 c _ (fun q=>?_) hc
       rw[q,s5 _ _ hw4] at hc;cases hc
   . have hm:[r,c]∈ms:=hp.mem_iff.mpr (zC0.mpr ⟨r,c,rfl,ha⟩)
     obtain⟨j,hj,ej⟩:=zv hm
     exact⟨j,[r,c],by omega,by rw[zB hj,ej],rfl⟩
  case turn=>
   rintro i y σ H6 hi ⟨kvs',wt',v5,v6,v7,rfl,s6,hw6,WW6,N6⟩
   obtain⟨ya,ky,rfl,hky,hya,_⟩:=T5.get hi
   obtain⟨r,c,rfl,ha⟩:=zC0.mp (hp.mem_iff.mp (zX hky))
   have hadj:=G.adj ha
   have hk6:H6 kl=some (.lst ((kn.set M.toNat (some e)).map oV)):=s6 kl _ nkw (s5 _ _ hk4)
   have hln:(kn.set M.toNat (some e)).length=n.toNat:=N6.ln
   have seen_of:∀{x:Int},(x=r\/∃j k,j<i/\ms[j]? = some k/\hd k=x)->∃j k,j<i+1/\ms[j]? = some k/\hd k=x:=fun {x} z=>by
    rcases z with rfl | ⟨j,k',hj,hk',e'⟩
    . exact⟨i,[x,c],Nat.lt_succ_self _,hky,rfl⟩
    . exact⟨j,k',zAt hj,hk',e'⟩
   have sub:∀{x:Int},(∃j k,j<i+1/\ms[j]? = some k/\hd k=x)->(∃j k,j<i/\ms[j]? = some k/\hd k=x)\/x=r:=fun {x} ⟨j,k',hj,hk',e'⟩=>by
    by_cases hji:j<i
    . exact .inl ⟨j,k',hji,hk',e'⟩
    . have:j=i:=by omega
      subst this
      rw[hky] at hk';cases hk'
      exact .inr e'.symm
   have conv:∀{wt2:Int->Option Int},Dn ts n st M e (kn.set M.toNat (some e)) wt2 (fun x=>(∃j k,j<i/\ms[j]? = some k/\hd k=x)\/x=r)->Dn ts n st M e (kn.set M.toNat (some e)) wt2 (fun x=>∃j k,j<i+1/\ms[j]? = some k/\hd k=x):=fun {wt2} N=>
    ⟨⟨N.dm.kd,N.dm.wk,N.dm.ord,fun q e' r' l' hq ha'=>(N.dm.nb q e' r' l' hq ha').imp (fun z=>⟨z.1,fun y=>z.2 (sub y)⟩) id,N.dm.st,N.dm.pd,N.dm.mx⟩,N.ln,N.bk,N.bd,N.bw⟩
   refine⟨ya,_,rfl,SqT.of (s6 _ _ (zAp hya (s5 _ _ hw4) (by intro z;cases z)) hya),rfl,_,_,rfl,_,_,rfl,rfl,?_⟩
   obtain⟨o,ho⟩:∃o,(kn.set M.toNat (some e))[r.toNat]? = some o:=⟨_,zB (by omega)⟩
   have hfnl:fnl (kn.set M.toNat (some e)) r=o:=by
    unfold fnl
    rw[if_pos hadj.2.2.1,zE,ho];rfl
   refine⟨_,rfl,_,rfl,kl,_,_,oV o,rfl,rfl,SqL.of hk6,zAn hadj.2.2.1 (by rw[zN,ho];rfl),rfl,_,rfl,?_⟩
   rw[zFR]
   cases o with
   | some f0=>
    refine zCa ?_
    exact⟨kvs',wt',_,_,_,rfl,s6,hw6,WW6,conv (N6.skip hfnl)⟩
   | none=>
    refine zFZ ?_
    have hkM:(kn.set M.toNat (some e))[M.toNat]? = some (some e):=by
     rw[List.getElem?_set_self (by have:=D.ln;omega)]
    refine⟨_,rfl,_,rfl,kl,_,_,oV (some e),rfl,rfl,SqL.of hk6,zAn hM0 (by rw[zN,hkM];rfl),_,rfl,_,_,rfl,rfl,?_⟩
    refine⟨_,rfl,_,rfl,wd,rfl,.inl ⟨kvs',.inl hw6⟩,_,rfl,_,rfl,_,zED.k (k:=Sum.inl r) hw6,?_⟩
    have hg:((zBz kvs' (Sum.inl r)).getD (V.int (e+c)))=V.int ((wt' r).getD (e+c)):=by
     rw[WW6.at_ r]
     cases wt' r <;> rfl
    rw[hg]
    refine⟨_,_,rfl,?_⟩
    have hwl:=WW6.len (by omega)
    refine⟨_,rfl,_,rfl,wd,_,rfl,zHW.k (k:=Sum.inl r) hw6 (zAG (by omega)),?_⟩
    exact⟨_,_,_,_,_,rfl,fun b o' hb z=>by rw[zd hb];exact s6 b o' hb z,zI,WW6.put hadj.2.2.1 hadj.2.2.2.1,conv (N6.wait G ha hfnl)⟩
noncomputable def spBwr:Sp:=fun vs H Q _=>∃(lh lt:Addr)(n:Int)(ts:List T3)(x y:Int)(kn1 kn2:List (Option Int)),vs=[.ref lh,.ref lt,.int y]/\GW n ts/\0<=x/\x<n/\0<=y/\y<n/\H lh=some (.tup (kn1.map oV))/\H lt=some (.tup (kn2.map oV))/\zJL ts n x kn1/\zJL ts n y kn2 /\
 ∀(l:Addr)(xs:List Int)(H':Hp),zAo H H'->H' l=some (.tup (xs.map V.int))->xs.Pairwise (· < ·)->(∀p,p∈xs↔Btw ts x y p)->Q (.ref l) H'
noncomputable def spNbr:Sp:=fun vs H Q _=>∃(wa lt:Addr)(n:Int)(ts:List T3)(x y:Int)(kn:List (Option Int)),vs=[.ref wa,.int x,.ref lt]/\zBD H wa n ts/\0<=x/\x<n/\0<=y/\y<n/\H lt=some (.tup (kn.map oV))/\zJL ts n y kn /\
 ∀(l:Addr)(xs:List Int)(H':Hp),zAo H H'->H' l=some (.tup (xs.map V.int))->xs.Pairwise (· < ·)->(∀p,p∈xs↔Nxt ts x y p)->Q (.ref l) H'
variable {y:Int}
theorem zB3 {s:Int}{kn:List (Option Int)}(h:zJL ts n s kn)(h0:0<=y)(h1:y<n):(kn.map oV)[y.toNat]? = some (oV (fnl kn y)):=by
 have hl:=h.ln
 have hlt:y.toNat<kn.length:=by omega
 rw[zN,zB hlt]
 unfold fnl
 rw[if_pos h0,zE,zB hlt]
 rfl
theorem zC4 (q:Nat):lowTo (q+1)=lowTo q++[(q:Int)]:=by unfold lowTo;rw[List.range_succ,zV];rfl
theorem zCN (q:Nat):(lowTo q).length=q:=by unfold lowTo;rw[zD,zAu]
theorem scBwr:zo ["here", "there", "other", "reached"] ["here", "there", "other"] (defScope sBwr):=fS0
theorem ok_bwr (F:Fun K "between_rows" "between_rows" sBwr f fd') (mRange:mg "range" = none) (mTuple:mg "tuple" = none) (mLen:mg "len" = none):zAK P w K mg base CX0 1 f fd' ["here", "there", "other"] spBwr:=by
 refine F.ok scBwr (fun vs H Q E h=>?_) (fun cdv A outer s H2 vs Q E hr h=>?_)
 . obtain⟨lh,lt,n,ts,x,y,kn1,kn2,rfl,_⟩:=h
   rfl
 . obtain⟨lh,lt,n,ts,x,y,kn1,kn2,rfl,G,hx0,hx1,hy0,hy1,hh2,hl2,L1,L2,k⟩:=h
   have hn24:=G.n24
   have hln:=L1.ln
   refine⟨_,zQ (zA5 (zy zBk (zAA zAM (pv 0) (pv 2)) zAh (zAC _)) (zW (zw (zBP zL))) zAP)
    (zQ (zDF (i:=3) (own:=["place"]) (cn:=["here"]) (ci:=[0]) scBwr.nd rfl (Or.inl rfl) rfl (csc rfl rfl) ⟨rfl,rfl,rfl,trivial⟩ rfl
     (zAm rfl mRange (zC (zAL zA3 mLen (zC (pv 0) zL)) zL)) (fun _ _ _ _=>zBx)
     (fun _ _ _ _=>zB7 (zy zDH (zAA zBd (pv 1) (pv 0)) zAh (zAC _))) (fun _ _ _ _=>pv 0))
    (zW (zw (zAy zAb mTuple (zC
     (zA7 (own:=["place"]) (cn:=["here", "there", "other"]) (ci:=[0,1,2]) rfl (csc rfl rfl) ⟨rfl,rfl,rfl,rfl,rfl,rfl,rfl,rfl,rfl,trivial⟩ rfl
      (zCA (pv 3)) (fun _ _ _ _=>zBx)
      (fun _ _ _ _=>zB7 (zy zCD (zA6 zB6 (zAA zBd (pv 1) (pv 0)) (zAA zBd (pv 2) (pv 0))) (zAA zBd (pv 1) (pv 3)) (zAC _)))
      (fun _ _ _ _=>pv 0)) zL))))),?_⟩
   have hy:=L1.len y hy0 hy1
   refine⟨_,rfl,_,rfl,lh,_,_,oV (fnl kn1 y),rfl,rfl,SqT.of hh2,zAn hy0 (zB3 L1 hy0 hy1),rfl,_,rfl,?_⟩
   rw[zFR]
   cases hd:fnl kn1 y with
   | none=>
    refine zFZ ?_
    rw[hd] at hy
    refine⟨zh _,fun l hl=>k l [] _ (zG hl) zI zBJ fun p=>⟨fun z=>by simp at z,fun ⟨a,b,_,_,z⟩=>absurd z.1 (hy _)⟩⟩
   | some d=>
    refine zCa ?_
    rw[hd] at hy
    have hyD:WM.IsD ts x y d:=hy
    refine⟨_,rfl,lh,_,rfl,.inr (SqT.of hh2),n,by rw[zD,hln];exact congrArg (fun z=>[V.int z]) (Int.toNat_of_nonneg (by omega)),by omega,by omega,[.ref lh],rfl,fun D hD=>?_⟩
    refine zBF (lo:=0) (n:=n.toNat) (fun q ys H3=>q<=n.toNat/\ys=((lowTo q).filter fun o=>(fnl kn1 o).isSome).map V.int/\zAo H2 H3/\H3 D=some (.lst ys)) ⟨zh _,rfl,zG hD,zI⟩ (fun q ys H3 h=>?_) (fun q ys H3 hq h=>?_) (fun ys H3 h=>?_)
    . obtain⟨hq,rfl,_⟩:=h
      rw[zD]
      refine zAN (zr _ _) (zAG ?_)
      rw[zCN];omega
    . obtain⟨_,rfl,s3,hD3⟩:=h
      rw[zAf]
      refine⟨⟨rfl,rfl⟩,?_⟩
      refine⟨_,rfl,_,rfl,lh,_,_,oV (fnl kn1 q),rfl,rfl,SqT.of (s3 _ _ hh2),zAn (by omega) (zB3 L1 (by omega) (by omega)),rfl,_,rfl,?_⟩
      rw[zFR]
      cases e:fnl kn1 q with
      | none=>
       refine zCa ?_
       refine⟨hq,?_,s3,hD3⟩
       rw[zC4,zAV,zAZ (by rw[e];decide),zBj,zt]
      | some a=>
       refine zFZ ?_
       refine⟨_,rfl,hD3,hq,?_,zAa s3 hD,zI⟩
       rw[zC4,zAV,zAl (by rw[e];rfl),zBj,zV]
       rfl
    . obtain⟨_,rfl,s3,hD3⟩:=h
      generalize hR:((lowTo n.toNat).filter fun o=>(fnl kn1 o).isSome)=R at hD3 ⊢
      have hRm:∀p,p∈R↔(0<=p/\p<n)/\∃a,fnl kn1 p=some a:=fun p=>by
       rw[<-hR,zAB,zCz,zAs]
       constructor
       . rintro ⟨z1,z2⟩;exact⟨by omega,z2⟩
       . rintro ⟨z1,z2⟩;exact⟨by omega,z2⟩
      have hRr:R.Pairwise (· < ·):=by rw[<-hR];exact (zDs _).sublist List.filter_sublist
      have hRl:R.length<=24:=by
       rw[<-hR]
       exact zAD (zr _ _) (by rw[zCN];omega)
      have both:∀p,p∈R->∃a b,fnl kn1 p=some a/\fnl kn2 p=some b/\WM.IsD ts x p a/\WM.IsD ts p y b:=fun p hp=>by
       obtain⟨⟨h0,h1⟩,a,ha⟩:=(hRm p).mp hp
       have l1:=L1.len p h0 h1
       rw[ha] at l1
       obtain⟨b,hb,_⟩:=Len.via (show WM.IsD ts x p a from l1) hyD (Len.symm (L2.len p h0 h1))
       have l2:=L2.len p h0 h1
       rw[hb] at l2
       exact⟨a,b,ha,hb,l1,WM.IsD.symm l2⟩
      refine⟨_,rfl,D,rfl,⟨_,SqL.of hD3⟩,[.ref lh,.ref lt,.int y],rfl,fun D2 hD2=>?_⟩
      have nDD:D≠D2:=zl hD3 hD2
      refine zCI (a:=D) (xs:=R.map V.int) (fun i ys H4=>ys=((R.take i).filter fun p=>decide ((fnl kn1 p).getD 0+(fnl kn2 p).getD 0=d)).map V.int/\zAo H3 H4/\H4 D2=some (.lst ys)) ⟨rfl,zG hD2,zI⟩ (fun i ys H4 h=>?_) (fun i ys H4 h=>?_) (fun i v ys H4 hv h=>?_) (fun ys H4 h=>?_)
      . obtain⟨_,s4,_⟩:=h
        exact SqL.of (s4 _ _ hD3)
      . obtain⟨rfl,_⟩:=h
        rw[zD]
        refine zAN (zr _ _) (zAG ?_)
        rw[zx];omega
      . obtain⟨rfl,s4,hD4⟩:=h
        obtain⟨p,hp,rfl⟩:∃p,R[i]? = some p/\V.int p=v:=by
         rw[zN] at hv
         cases e:R[i]? with
         | none=>rw[e] at hv;cases hv
         | some p=>rw[e] at hv;exact⟨p,rfl,zR hv⟩
        have hpR:=zX hp
        obtain⟨⟨h0,h1⟩,_⟩:=(hRm p).mp hpR
        obtain⟨a,b,ha,hb,_,_⟩:=both p hpR
        have hlh4:H4 lh=some (.tup (kn1.map oV)):=s4 _ _ (s3 _ _ hh2)
        have hlt4:H4 lt=some (.tup (kn2.map oV)):=s4 _ _ (s3 _ _ hl2)
        refine⟨⟨rfl,rfl⟩,?_⟩
        refine⟨_,rfl,_,rfl,lh,_,_,.int a,rfl,rfl,SqT.of hlh4,zAn h0 (by rw[zB3 L1 h0 h1,ha];rfl),?_⟩
        refine⟨_,rfl,_,rfl,lt,_,_,.int b,rfl,rfl,SqT.of hlt4,zAn h0 (by rw[zB3 L2 h0 h1,hb];rfl),_,_,rfl,rfl,?_⟩
        refine⟨_,rfl,_,rfl,lh,_,_,.int d,rfl,rfl,SqT.of hlh4,zAn hy0 (by rw[zB3 L1 hy0 hy1,hd];rfl),rfl,_,rfl,?_⟩
        rw[zGn]
        have etk:(R.take (i+1)).filter (fun p=>decide ((fnl kn1 p).getD 0+(fnl kn2 p).getD 0=d))=(R.take i).filter (fun p=>decide ((fnl kn1 p).getD 0+(fnl kn2 p).getD 0=d))++(if a+b=d then [p] else []):=by
         rw[zu,hp,zAV]
         show _++List.filter _ [p]=_
         rw[zA2,ha,hb]
         by_cases c:a+b=d
         . rw[if_pos (by simpa using c),if_pos c];rfl
         . rw[if_neg (by simpa using c),if_neg c];rfl
        refine zEC (fun c=>?_) (fun c=>?_)
        . have c':=of_decide_eq_true c
          refine⟨_,rfl,hD4,?_,zAa s4 hD2,zI⟩
          rw[etk,if_pos c',zV];rfl
        . have c':¬ a+b=d:=fun z=>c (zO z)
          refine⟨?_,s4,hD4⟩
          rw[etk,if_neg c',zt]
      . obtain⟨rfl,s4,hD4⟩:=h
        rw[zD,zf (zK _)] at hD4
        refine⟨D2,_,rfl,.inl ⟨SqL.of hD4,fun q hq=>?_⟩⟩
        refine k q _ _ ((s3.trans s4).trans (zG hq)) zI (hRr.sublist List.filter_sublist) fun p=>?_
        rw[zAB]
        constructor
        . rintro ⟨hp,c⟩
          obtain⟨a,b,ha,hb,ia,ib⟩:=both p hp
          have c':=of_decide_eq_true c
          rw[ha,hb] at c'
          exact⟨a,b,ia,ib,by rw[show a+b=d from c'];exact hyD⟩
        . rintro ⟨a,b,ia,ib,iab⟩
          have hp:=ia.1.in_ G hx0 hx1
          have l1:=Len.uniq (L1.len p hp.1 hp.2) (show Len ts x p (some a) from ia)
          have l2:=Len.uniq (L2.len p hp.1 hp.2) (show Len ts y p (some b) from WM.IsD.symm ib)
          refine⟨(hRm p).mpr ⟨hp,a,l1⟩,zO ?_⟩
          rw[l1,l2]
          exact WM.IsD.uniq iab hyD
theorem scNbr:zo ["web", "one", "there"] ["web", "one", "there"] (defScope sNbr):=fS0
noncomputable def sl1 (k:List Int):Int:=k.getD 1 0
theorem ok_nbr {fT:Addr}(F:Fun K "next_by_row" "next_by_row" sNbr f fd')
 (FT:FuB K mg "ties_at" zEo fT fdT ["web","place"]) (mSorted:mg "sorted" = none) (mTuple:mg "tuple" = none):zAK P w K mg base CX0 3 f fd' ["web", "one", "there"] spNbr:=by
 have GT:zAK P w K mg base CX0 2 fT fdT ["web", "place"] zFC:=(zEw FT.F mSorted).mono (by decide)
 refine F.ok scNbr (fun vs H Q E h=>?_) (fun cdv A outer s H1 vs Q E hr h=>?_)
 . obtain⟨wa,lt,n,ts,x,y,kn,rfl,_⟩:=h
   rfl
 . obtain⟨wa,lt,n,ts,x,y,kn,rfl,W,hx0,hx1,hy0,hy1,hl1,L,k⟩:=h
   obtain⟨ta,tys,hwa,_,_,G⟩:=id W
   refine⟨_,zQ (zA5 (zy zBk (zAA zAM (pv 2) (pv 1)) zAh (zAC _)) (zW (zw (zBP zL))) zAP)
    (zW (zw (zAy zAb mTuple (zC
     (zA7 (own:=["place", "long"]) (cn:=["there", "one"]) (ci:=[2,1]) rfl (csc rfl rfl) ⟨rfl,rfl,rfl,rfl,rfl,rfl,trivial⟩ rfl
      (zCA (zAJ GT hr FT (zC (pv 0) (zC (pv 1) zL))))
      (fun _ _ _ _=>zEs (n:=2) rfl (zAE (zBx) (zAE (zAI (i:=1) (zDT rfl) rfl (Or.inl rfl)) zBc)))
      (fun _ _ _ _=>zB7 (zy zCD (zA6 zB6 (pv 1) (zAA zBd (pv 2) (pv 0))) (zAA zBd (pv 2) (pv 3)) (zAC _)))
      (fun _ _ _ _=>pv 0)) zL)))),?_⟩
   have hx:=L.len x hx0 hx1
   refine⟨_,rfl,_,rfl,lt,_,_,oV (fnl kn x),rfl,rfl,SqT.of hl1,zAn hx0 (zB3 L hx0 hx1),rfl,_,rfl,?_⟩
   rw[zFR]
   cases hd:fnl kn x with
   | none=>
    refine zFZ ?_
    rw[hd] at hx
    refine⟨zh _,fun l hl=>k l [] _ (zG hl) zI zBJ fun p=>⟨fun z=>by simp at z,fun ⟨a,b,_,_,z⟩=>absurd z.1.symm (hx _)⟩⟩
   | some d=>
    refine zCa ?_
    rw[hd] at hx
    have hxD:WM.IsD ts x y d:=WM.IsD.symm hx
    refine⟨_,rfl,_,rfl,wa,n,ts,x,rfl,W,fun l zs ms H2 s2 hl0 hl2 TT hp hrs=>?_⟩
    have hlz:=TT.length
    have hlt2:H2 lt=some (.tup (kn.map oV)):=s2 _ _ hl1
    have hlm:ms.length<64:=by
     have e2:=zGi (n:=n) x (ts:=ts) fun t ht=>(G.rng t ht).2.1
     have:=G.len
     rw[hp.length_eq];omega
    have near:∀k,k∈ms->∃z c b,k=[z,c]/\Adj ts x z c/\fnl kn z=some b/\WM.IsD ts z y b:=fun k hk=>by
     obtain⟨z,c,e,ha⟩:=zC0.mp (hp.mem_iff.mp hk)
     have hadj:=G.adj ha
     have lz:=L.len z hadj.2.2.1 hadj.2.2.2.1
     cases hz:fnl kn z with
     | none=>rw[hz] at lz;exact absurd (hx.1.snoc ha) (lz _)
     | some b=>rw[hz] at lz;exact⟨z,c,b,e,ha,hz,WM.IsD.symm lz⟩
    refine⟨l,rfl,⟨_,SqL.of hl2⟩,[.ref lt,.int x],rfl,fun D hD=>?_⟩
    have nlD:l≠D:=zl hl2 hD
    refine zCI (a:=l) (xs:=zs) (fun i ys H3=>ys=(((ms.take i).filter fun k=>decide (sl1 k+(fnl kn (WM.hd k)).getD 0=d)).map WM.hd).map V.int/\H3=upd H2 D (.lst ys)) ⟨rfl,rfl⟩ (fun i ys H3 h=>?_) (fun i ys H3 h=>?_) (fun i v ys H3 hv h=>?_) (fun ys H3 h=>?_)
    . obtain⟨_,rfl⟩:=h
      exact SqL.of (by rw[zd nlD];exact hl2)
    . obtain⟨rfl,_⟩:=h
      rw[zD,zD]
      refine zAN (zr _ _) (zAG ?_)
      rw[zx];omega
    . obtain⟨rfl,rfl⟩:=h
      obtain⟨ya,ky,rfl,hky,hya,_⟩:=TT.get hv
      obtain⟨z,c,b,rfl,ha,hb,ib⟩:=near ky (zX hky)
      have hadj:=G.adj ha
      refine⟨ya,_,rfl,SqT.of (by rw[zd (zl hya hD)];exact hya),rfl,_,_,rfl,_,_,rfl,rfl,⟨rfl,rfl⟩,?_⟩
      have hltD:(upd H2 D (.lst ((((ms.take i).filter fun k=>decide (sl1 k+(fnl kn (WM.hd k)).getD 0=d)).map WM.hd).map V.int))) lt=some (.tup (kn.map oV)):=by rw[zd (zl hlt2 hD)];exact hlt2
      refine⟨_,rfl,_,rfl,_,rfl,lt,_,_,.int b,rfl,rfl,SqT.of hltD,zAn hadj.2.2.1 (by rw[zB3 L hadj.2.2.1 hadj.2.2.2.1,hb];rfl),_,_,rfl,rfl,?_⟩
      refine⟨_,rfl,_,rfl,lt,_,_,.int d,rfl,rfl,SqT.of hltD,zAn hx0 (by rw[zB3 L hx0 hx1,hd];rfl),rfl,_,rfl,?_⟩
      rw[zGn]
      have etk:(ms.take (i+1)).filter (fun k=>decide (sl1 k+(fnl kn (WM.hd k)).getD 0=d))=(ms.take i).filter (fun k=>decide (sl1 k+(fnl kn (WM.hd k)).getD 0=d))++(if c+b=d then [[z,c]] else []):=by
       rw[zu,hky,zAV]
       show _++List.filter _ [[z,c]]=_
       rw[zA2]
       have e1:decide (sl1 [z,c]+(fnl kn (WM.hd [z,c])).getD 0=d)=decide (c+b=d):=by
        show decide (c+(fnl kn z).getD 0=d)=_
        rw[hb];rfl
       rw[e1]
       by_cases cc:c+b=d
       . rw[if_pos (by simpa using cc),if_pos cc];rfl
       . rw[if_neg (by simpa using cc),if_neg cc];rfl
      refine zEC (fun cc=>?_) (fun cc=>?_)
      . have c':=of_decide_eq_true cc
        refine⟨_,rfl,zI,?_,zBZ⟩
        rw[etk,if_pos c',zV,zV];rfl
      . have c':¬ c+b=d:=fun q=>cc (zO q)
        refine⟨?_,rfl⟩
        rw[etk,if_neg c',zt]
    . obtain⟨rfl,rfl⟩:=h
      refine⟨D,_,rfl,.inl ⟨SqL.of zI,fun q hq=>?_⟩⟩
      rw[hlz,zf (zK _)] at hq ⊢
      have s4:=(zG (o:=.lst ((((ms.filter fun k=>decide (sl1 k+(fnl kn (WM.hd k)).getD 0=d)).map WM.hd).map V.int))) hD).trans (zG (o:=.tup ((((ms.filter fun k=>decide (sl1 k+(fnl kn (WM.hd k)).getD 0=d)).map WM.hd).map V.int))) hq)
      have hk:∀k∈ms,∃y l,k=[y,l]:=fun k hk=>by
       obtain⟨z,c,b,e,_⟩:=near k hk
       exact⟨z,c,e⟩
      have hrise:=zHI hrs hk ((hp.map WM.hd).nodup_iff.mpr (zJ8 G x))
      refine k q _ _ (s2.trans s4) zI (hrise.sublist (List.filter_sublist.map _)) fun p=>?_
      rw[zq]
      constructor
      . rintro ⟨k0,hk0,rfl⟩
        obtain⟨hm,c⟩:=zAB.mp hk0
        obtain⟨z,c0,b,rfl,ha,hb,ib⟩:=near k0 hm
        have c':=of_decide_eq_true c
        have c2:c0+b=d:=by
         have:c0+(fnl kn z).getD 0=d:=c'
         rw[hb] at this;exact this
        exact⟨c0,b,ha,ib,by rw[c2];exact hxD⟩
      . rintro ⟨c0,b,ha,ib,iab⟩
        have hm:[p,c0]∈ms:=hp.mem_iff.mpr (zC0.mpr ⟨p,c0,rfl,ha⟩)
        refine⟨[p,c0],zAB.mpr ⟨hm,zO ?_⟩,rfl⟩
        have hadj:=G.adj ha
        have lp:=Len.uniq (L.len p hadj.2.2.1 hadj.2.2.2.1) (show Len ts y p (some b) from WM.IsD.symm ib)
        show c0+(fnl kn p).getD 0=d
        rw[lp]
        exact WM.IsD.uniq iab hxD
noncomputable def zCd (H:Hp)(rs:List Addr)(M:lLO):Prop:=rs.length=M.length/\∀(i:Nat)(r:Addr)(row:List (Option Int)),rs[i]? = some r->M[i]? = some row->H r=some (.tup (row.map oV))
variable {rs:List Addr}
theorem zCd.smT {M:lLO}(h:zCd H rs M)(k:SmT H H'):zCd H' rs M:=⟨h.1,fun i r row a b=>k.get (h.2 i r row a b) (by intro ps z;cases z)⟩
noncomputable def zHn (PT:Addr):Sp:=fun vs H Q _=>∃(wa:Addr)(n:Int)(ts:List T3),vs=[.ref wa]/\zBD H wa n ts/\Tb H PT /\
 ∀(l:Addr)(rs:List Addr)(M:lLO)(H':Hp),SmT H H'->Tb H' PT->H' l=some (.tup (rs.map V.ref))->zCd H' rs M->Rows ts n M->Q (.ref l) H'
theorem scLens:zo ["web"] ["web"] (defScope zH4):=fS0
variable {fF:Addr}{fdF:FuncData}
theorem zLq (F:Fun K "lengths" "lengths" zH4 f fd') (FF:FuB K mg "lengths_from" zH6 fF fdF ["web","start"]) (GF:zAK P w K mg base CX0 3 fF fdF ["web", "start"] (zHp PT))
 (mRange:mg "range" = none) (mTuple:mg "tuple" = none):zAK P w K mg base CX0 4 f fd' ["web"] (zHn PT):=by
 refine F.okD scLens fun _ A _ _ H vs Q E hr h=>?_
 obtain⟨wa,n,ts,rfl,W,T,k⟩:=h
 obtain⟨ta,tys,hwa,_,_,G⟩:=id W
 have hn24:=G.n24
 have hn1:=G.n1
 refine⟨_,zW (zw (zAy zAb mTuple (zC
  (zA7 (own:=["place"]) (cn:=["web"]) (ci:=[0]) rfl (csc rfl rfl) ⟨rfl,rfl,rfl,trivial⟩ rfl
   (zAm rfl mRange (zC (zAA zAM (pv 0) zj) zL)) (fun _ _ _ _=>zBx) (fun _ _ _ _=>zBa)
   (fun _ _ _ _=>zAJ GF hr FF (zC (pv 1) (zC (pv 0) zL)))) zL))),?_⟩
 refine⟨_,rfl,wa,_,_,_,rfl,rfl,SqT.of hwa,rfl,n,rfl,by omega,by omega,[.ref wa],rfl,fun D hD=>?_⟩
 refine zBF (lo:=0) (n:=n.toNat) (fun q ys H1=>q<=n.toNat/\∃(rs:List Addr)(M:lLO),ys=rs.map V.ref/\rs.length=q/\zCd H1 rs M/\(∀x:Nat,x<q->zJL ts n x (M.getD x []))/\SmT H H1/\Tb H1 PT/\H1 D=some (.lst ys))
  ⟨zh _,[],[],rfl,rfl,⟨rfl,fun i r row h=>by simp at h⟩,fun x hx=>absurd hx (Nat.not_lt_zero _),SmT.of (zG hD),T.same (zG hD),zI⟩ (fun q ys H1 h=>?_) (fun q ys H1 hq h=>?_) (fun ys H1 h=>?_)
 . obtain⟨hq,rs,M,rfl,hl,_⟩:=h
   rw[zD,hl]
   exact zAG (by omega)
 . obtain⟨_,rs,M,rfl,hl,R,L,sm,T1,hD1⟩:=h
   rw[zAf]
   refine⟨⟨rfl,rfl⟩,?_⟩
   refine zE7 ?_
   refine⟨_,rfl,_,rfl,wa,n,ts,q,rfl,W.smT sm,by omega,by omega,T1,fun l kn H2 sm2 T2 hl2 L2=>?_⟩
   have hD2:H2 D=some (.lst (rs.map V.ref)):=sm2.get hD1 (by intro ps z;cases z)
   refine⟨hD2,hq,rs++[l],M++[kn],by rw[zV];rfl,by rw[zP,hl];rfl,⟨by rw[zP,zP,R.1];rfl,fun i r row h1 h2=>?_⟩,fun x hx=>?_,(sm.trans sm2).chg hD,T2.chg hD2,zI⟩
   . have key:H2 r=some (.tup (row.map oV)):=by
      by_cases hi:i<rs.length
      . rw[zZ hi] at h1
        rw[zZ (by rw[<-R.1];exact hi)] at h2
        exact sm2.get (R.2 i r row h1 h2) (by intro ps z;cases z)
      . rw[zT (by omega)] at h1
        rw[zT (by rw[<-R.1];omega),<-R.1] at h2
        cases hz:i-rs.length with
        | zero=>
         rw[hz] at h1 h2
         have e1:l=r:=by simpa using h1
         have e2:kn=row:=by simpa using h2
         subst e1 e2
         exact hl2
        | succ k=>rw[hz] at h1;simp at h1
     rw[zd (zAp key hD2 (by intro z;cases z))]
     exact key
   . by_cases hx':x<q
     . rw[zE,zZ (by rw[<-R.1,hl];exact hx'),<-zE]
       exact L x hx'
     . have e:x=q:=by omega
       subst e
       rw[zE,zT (by rw[<-R.1,hl];exact zK _),<-R.1,hl]
       simpa using L2
 . obtain⟨_,rs,M,rfl,hl,R,L,sm,T1,hD1⟩:=h
   refine⟨D,_,rfl,.inl ⟨SqL.of hD1,fun q hq=>?_⟩⟩
   refine k q rs M _ (sm.trans (SmT.of (zG hq))) (T1.same (zG hq)) zI (R.smT (SmT.of (zG hq))) ⟨by rw[<-R.1,hl],fun x hx hx'=>?_⟩
   have:=L x.toNat (by omega)
   rw[show ((x.toNat:Nat):Int)=x by omega] at this
   exact this
noncomputable def zK3:Sp:=fun vs H Q _=>∃i:Int,vs=[.int i]/\Q (.bl true) H
noncomputable def spWi:Sp:=fun vs H Q _=>∃i a b:Int,vs=[.int i,.int a,.int b]/\a<=i/\i<=b/\Q (.bl true) H
noncomputable def spPl:Sp:=fun vs H Q _=>∃n i:Int,vs=[.int n,.int i]/\0<=i/\i<=n-1/\Q (.bl true) H
noncomputable def zJR:Sp:=fun vs H Q _=>∃(p:Addr)(ys:List V),vs=[.ref p,.int ys.length]/\H p=some (.tup ys)/\Q (.bl true) H
structure zKq (n:Int)(os:List Int):Prop where
 ln:os.length=n.toNat
 nd:os.Nodup
 rng:∀p∈os,0<=p/\p<n
noncomputable def zK2:Sp:=fun vs H Q _=>∃(wa p:Addr)(n:Int)(ts:List T3)(os:List Int),vs=[.ref wa,.ref p]/\zBD H wa n ts/\H p=some (.tup (os.map V.int))/\zKq n os/\∀H',zAo H H'->Q (.bl true) H'
theorem scNum:zo ["thing"] ["thing"] (defScope zJZ):=fS0
theorem zKa (F:Fun K "is_number" "is_number" zJZ f fd') (mIsi:mg "isinstance" = none) (mInt:mg "int" = none) (mBool:mg "bool" = none):zAK P w K mg base CX0 1 f fd' ["thing"] zK3:=by
 refine F.okD scNum fun _ A _ _ H vs Q E hr h=>?_
 obtain⟨i,rfl,k⟩:=h
 refine⟨_,zW (zw (zCR (zAL zCP mIsi (zC (pv 0) (zC (zGX (T := "int") mInt) zL)))
  (zCW (pe_not (zAL zCP mIsi (zC (pv 0) (zC (zGX (T := "bool") mBool) zL))))))),?_⟩
 refine⟨_,rfl,_,_,_,true,rfl,.int i,rfl,true,rfl,zFZ ?_⟩
 exact⟨_,rfl,_,_,_,false,rfl,.int i,rfl,false,rfl,k⟩
theorem scWi:zo ["thing", "least", "most"] ["thing", "least", "most"] (defScope sWi):=fS0
theorem ok_wi (F:Fun K "is_within" "is_within" sWi f fd') (FN:FuB K mg "is_number" zJZ fN fdN ["thing"]) (mIsi:mg "isinstance" = none) (mInt:mg "int" = none) (mBool:mg "bool" = none) :
 zAK P w K mg base CX0 2 f fd' ["thing", "least", "most"] spWi:=by
 have GN:zAK P w K mg base CX0 1 fN fdN ["thing"] zK3:=zKa FN.F mIsi mInt mBool
 refine F.okD scWi fun _ A _ _ H vs Q E hr h=>?_
 obtain⟨i,a,b,rfl,h1,h2,k⟩:=h
 refine⟨_,zW (zw (zCR (zAJ GN hr FN (zC (pv 0) zL)) (zCR (zBR zLZ (pv 1) (pv 0) (zAC _)) (zCW (zBR zLZ (pv 0) (pv 2) (zAC _)))))),?_⟩
 refine⟨_,rfl,i,rfl,true,rfl,zFZ ?_⟩
 refine⟨_,rfl,_,rfl,_,_,rfl,rfl,_,rfl,?_⟩
 refine ifT (zO h1) ?_
 refine⟨_,rfl,_,rfl,_,_,rfl,rfl,?_⟩
 show Q (.bl (decide (i<=b))) H
 rw[zO h2]
 exact k
theorem scPl:zo ["n", "thing"] ["n", "thing"] (defScope sPl):=fS0
variable {fW:Addr}{fdW:FuncData}
theorem zLm (F:Fun K "is_place" "is_place" sPl f fd') (FW:FuB K mg "is_within" sWi fW fdW ["thing","least","most"]) (FN:FuB K mg "is_number" zJZ fN fdN ["thing"]) (mIsi:mg "isinstance" = none) (mInt:mg "int" = none) (mBool:mg "bool" = none) :
 zAK P w K mg base CX0 3 f fd' ["n", "thing"] spPl:=by
 have GW':zAK P w K mg base CX0 2 fW fdW ["thing", "least", "most"] spWi:=ok_wi FW.F FN mIsi mInt mBool
 refine F.okD scPl fun _ A _ _ H vs Q E hr h=>?_
 obtain⟨n,i,rfl,h1,h2,k⟩:=h
 refine⟨_,zW (zw (zAJ GW' hr FW (zC (pv 1) (zC zj (zC (zA6 zDi (pv 0) zj) zL))))),?_⟩
 exact⟨_,rfl,_,rfl,_,_,rfl,rfl,i,0,n-1,rfl,h1,h2,k⟩
theorem scTof:zo ["thing", "count"] ["thing", "count"] (defScope zLL):=fS0
theorem zIR (F:Fun K "is_tuple_of" "is_tuple_of" zLL f fd') (mIsi:mg "isinstance" = none) (mTuple:mg "tuple" = none) (mLen:mg "len" = none):zAK P w K mg base CX0 1 f fd' ["thing", "count"] zJR:=by
 refine F.okD scTof fun _ A _ _ H vs Q E hr h=>?_
 obtain⟨p,ys,rfl,hp,k⟩:=h
 refine⟨_,zW (zw (zCR (zAL zCP mIsi (zC (pv 0) (zC (zGX (T := "tuple") mTuple) zL)))
  (zCW (zBR zCD (zAL zA3 mLen (zC (pv 0) zL)) (pv 1) (zAC _))))),?_⟩
 refine⟨_,rfl,_,_,_,true,rfl,.tup hp,rfl,true,rfl,zFZ ?_⟩
 refine⟨_,rfl,p,_,rfl,.inr (SqT.of hp),_,rfl,rfl,?_⟩
 rw[zO rfl]
 exact k
theorem scOrd:zo ["web", "thing", "n"] ["web", "thing"] (defScope sOrd):=fS0
variable {fP:Addr}{fdP:FuncData}
theorem ok_ord {fT:Addr}(F:Fun K "is_order" "is_order" sOrd f fd') (FT:FuB K mg "is_tuple_of" zLL fT fdT ["thing","count"])
 (FW:FuB K mg "is_within" sWi fW fdW ["thing","least","most"]) (FP:FuB K mg "is_place" sPl fP fdP ["n","thing"]) (FN:FuB K mg "is_number" zJZ fN fdN ["thing"])
 (mIsi:mg "isinstance" = none) (mInt:mg "int" = none) (mBool:mg "bool" = none) (mTuple:mg "tuple" = none) (mLen:mg "len" = none) (mAll:mg "all" = none) (mSet:mg "set" = none):zAK P w K mg base CX0 4 f fd' ["web", "thing"] zK2:=by
 have GT:zAK P w K mg base CX0 3 fT fdT ["thing", "count"] zJR:=(zIR FT.F mIsi mTuple mLen).mono (by decide)
 have GP:zAK P w K mg base CX0 3 fP fdP ["n", "thing"] spPl:=zLm FP.F FW FN mIsi mInt mBool
 refine F.okD scOrd fun _ A _ _ H vs Q E hr h=>?_
 obtain⟨wa,p,n,ts,os,rfl,W,hp,O,k⟩:=h
 obtain⟨ta,tys,hwa,_,_,G⟩:=id W
 have hn1:=G.n1
 have hn24:=G.n24
 have hol:os.length<=24:=by rw[O.ln];omega
 refine⟨_,zQ (zCw (i:=2) scOrd.nd rfl (Or.inr rfl) (zAA zAM (pv 0) zj))
  (zQ (zA5 (PW.pt (zCv (zB4 (zBt (zAJ GT hr FT (zC (pv 1) (zC (pv 2) zL)))))
   (zCG (zB4 (zBt (zAL (zC8 rfl) mAll (zC (zA7 (own:=["place"]) (cn:=["n"]) (ci:=[2]) rfl (csc rfl rfl) ⟨rfl,rfl,rfl,trivial⟩ rfl (zB5 (pv 1)) (fun _ _ _ _=>zBx)
    (fun _ _ _ _=>zBa) (fun _ _ _ _=>zAJ GP hr FP (zC (pv 1) (zC (pv 0) zL)))) zL))))))) (zW (zw zDS)) zAP)
  (zW (zw (zBR zCD (zAL zI7 mLen (zC (zAy (zI5 rfl) mSet (zC (pv 1) zL)) zL)) (pv 2) (zAC _))))),?_⟩
 refine⟨_,rfl,wa,_,_,_,rfl,rfl,SqT.of hwa,rfl,?_⟩
 have hpl:(os.map V.int).length=n:=by rw[zD,O.ln];omega
 refine⟨_,rfl,_,rfl,p,os.map V.int,by rw[hpl];rfl,hp,_,rfl,zCa ?_⟩
 refine⟨_,rfl,p,rfl,⟨_,SqT.of hp⟩,[.int n],rfl,fun D hD=>?_⟩
 refine zBn (a:=p) (xs:=os.map V.int) (fun i ys H4=>i<=os.length/\ys=(List.replicate i true).map V.bl/\H4=upd H D (.lst ys)) ⟨zh _,rfl,rfl⟩ (fun i ys H4 h=>?_) (fun i ys H4 h=>?_) (fun i v ys H4 hv h=>?_) (fun ys H4 h=>?_)
 . obtain⟨_,_,rfl⟩:=h
   exact SqT.of (by rw[zd (zl hp hD)];exact hp)
 . obtain⟨hi,rfl,_⟩:=h
   rw[zD,zAH]
   exact zAG (by omega)
 . obtain⟨_,rfl,rfl⟩:=h
   obtain⟨x,hx,rfl⟩:∃x,os[i]? = some x/\V.int x=v:=by
    rw[zN] at hv
    cases e:os[i]? with
    | none=>rw[e] at hv;cases hv
    | some x=>rw[e] at hv;exact⟨x,rfl,zR hv⟩
   have hr':=O.rng x (zX hx)
   refine⟨⟨rfl,rfl⟩,?_⟩
   refine zE7 ?_
   refine⟨_,rfl,_,rfl,n,x,rfl,hr'.1,by omega,?_⟩
   refine⟨zI,(zJ.mp hx).1,?_,zBZ⟩
   rw[List.replicate_succ',zV];rfl
 . obtain⟨_,rfl,rfl⟩:=h
   refine⟨D,List.replicate (os.map V.int).length true,rfl,SqL.of zI,_,rfl,?_⟩
   have hall:(List.replicate (os.map V.int).length true).all id=true:=zAj.mpr fun b hb=>(List.mem_replicate.mp hb).2
   rw[hall]
   refine zCa ?_
   have hp5:=zG (o:=.lst ((List.replicate (os.map V.int).length true).map V.bl)) hD _ _ hp
   refine⟨_,rfl,p,os,rfl,SqT.of hp5,by omega,fun d S hd=>?_⟩
   refine⟨d,S,_,rfl,zI,_,rfl,rfl,?_⟩
   rw[zDy O.nd os.length (zK _),zf (zK _),zO (by rw[<-hpl,zD])]
   exact k _ ((zG hD).trans (zG hd))
noncomputable def eV (e:En):List V:=[.int e.h,.int e.l,oV e.u,oV e.d]
noncomputable def zDU (H:Hp)(as:List Addr)(es:List En):Prop:=as.length=es.length/\∀(i:Nat)(a:Addr),as[i]? = some a->∃e,es[i]? = some e/\H a=some (.tup (eV e))
noncomputable def zBv (H:Hp)(p:Addr)(es:List En):Prop:=∃as:List Addr,H p=some (.tup (as.map V.ref))/\zDU H as es/\es.length<=1000
variable {es:List En}
theorem zDU.keep {as:List Addr}(h:zDU H as es)(k:∀b ys,H b=some (.tup ys)->H' b=some (.tup ys)):zDU H' as es:=
 ⟨h.1,fun i a ha=>let ⟨e,h1,h2⟩:=h.2 i a ha;⟨e,h1,k _ _ h2⟩⟩
variable {e:En}
theorem zDU.snoc {as:List Addr}{a:Addr}(h:zDU H as es)(ha:H a=some (.tup (eV e))):zDU H (as++[a]) (es++[e]):=by
 refine⟨by rw[zP,zP,h.1];rfl,fun i b hb=>?_⟩
 by_cases c:i<as.length
 . rw[zZ c] at hb
   obtain⟨e',h1,h2⟩:=h.2 i b hb
   exact⟨e',by rw[zZ (by rw[<-h.1];exact c)];exact h1,h2⟩
 . rw[zT (by omega)] at hb
   have hi:i-as.length=0:=by
    cases z:i-as.length with
    | zero=>rfl
    | succ m=>rw[z] at hb;simp at hb
   rw[hi] at hb
   have:a=b:=by simpa using hb
   subst this
   exact⟨e,by rw[zT (by rw[<-h.1];omega),<-h.1,hi];rfl,ha⟩
theorem zBv.keep {H H':Hp}{p:Addr}{es:List En}(h:zBv H p es)(k:∀b ys,H b=some (.tup ys)->H' b=some (.tup ys)):zBv H' p es:=
 let ⟨as,h1,h2,h3⟩:=h;⟨as,k _ _ h1,h2.keep k,h3⟩
theorem zBv.same (h:zBv H p es)(k:zAo H H'):zBv H' p es:=h.keep fun b ys e=>k _ _ e
theorem zDU.at {H:Hp}{as:List Addr}{es:List En}(h:zDU H as es){i:Nat}{v:V}(hv:(as.map V.ref)[i]? = some v):∃a e,v = .ref a/\es[i]? = some e/\H a=some (.tup (eV e)):=by
 rw[zN] at hv
 cases z:as[i]? with
 | none=>rw[z] at hv;cases hv
 | some a=>
  rw[z] at hv
  obtain⟨e,h1,h2⟩:=h.2 i a z
  exact⟨a,e,(zR hv).symm,h1,h2⟩
noncomputable def zK1:Sp:=fun vs H Q _=>∃(p:Addr)(es:List En)(e:En)(r:List En),vs=[.ref p]/\zBv H p es/\es.filter (fun e=>decide (e.l=0))=e::r/\∀H',zAo H H'->Q (.int e.h) H'
noncomputable def zK0:Sp:=fun vs H Q _=>∃(p q:Addr)(es fs:List En),vs=[.ref p,.ref q]/\zBv H p es/\zBv H q fs/\Hub fs /\
 ∀(r:Addr)(lm:Option (Int×Int))(H':Hp),zAo H H'->LMin (Cd es fs) lm->H' r=some (.tup [oV (lm.map (·.1)),oV (lm.map (·.2))])->Q (.ref r) H'
noncomputable def zFB:Sp:=fun vs H Q _=>∃(p q:Addr)(es fs:List En),vs=[.ref p,.ref q]/\zBv H p es/\zBv H q fs/\Hub fs /\
 ∀(lm:Option (Int×Int))(H':Hp),zAo H H'->LMin (Cd es fs) lm->Q (oV (lm.map (·.1))) H'
noncomputable def spHub:Sp:=fun vs H Q _=>∃(p q:Addr)(es fs:List En),vs=[.ref p,.ref q]/\zBv H p es/\zBv H q fs/\Hub fs /\
 ∀(lm:Option (Int×Int))(H':Hp),zAo H H'->LMin (Cd es fs) lm->Q (oV (lm.map (·.2))) H'
noncomputable def zK7:Sp:=fun vs H Q _=>∃(p:Addr)(es:List En)(x:Int),vs=[.ref p,.int x]/\zBv H p es /\
 (zEM es x=none->Q .non H)/\(∀e a,zEM es x=some e->H a=some (.tup (eV e))->Q (.ref a) H)
noncomputable def zHk:Sp:=fun vs H Q _=>∃(p q:Addr)(es fs:List En)(e f:En)(r r':List En),vs=[.ref p,.ref q]/\zBv H p es/\zBv H q fs/\Hub es/\Hub fs /\
 es.filter (fun e=>decide (e.l=0))=e::r/\fs.filter (fun e=>decide (e.l=0))=f::r' /\
 ∀(lm:Option (Int×Int))(H':Hp),zAo H H'->LMin (Cd es fs) lm->Q (oV (zJQ es fs e.h f.h lm)) H'
theorem zB1 {n:Nat}(h:n<=1000):n<sizeLine:=zAN h (by decide)
theorem zHN:decide (V.int a=V.int b)=decide (a=b):=by
 by_cases h:a=b
 . rw[zO h,zO (congrArg V.int h)]
 . rw[zY h,zY fun z=>h (V.int.inj z)]
theorem scOwn:zo ["label"] ["label"] (defScope sOwn):=fS0
theorem zKZ (F:Fun K "own_place" "own_place" sOwn f fd'):zAK P w K mg base CX0 1 f fd' ["label"] zK1:=by
 refine F.okD scOwn fun _ A _ _ H vs Q E hr h=>?_
 obtain⟨p,es,e,r,rfl,L,hf,k⟩:=h
 obtain⟨as,hp,EA,hl⟩:=id L
 refine⟨_,zW (zw (zAA zAg (zA7 (own:=["hub", "long", "up", "down"]) (cn:=[]) (ci:=[]) rfl (csc rfl rfl) trivial rfl (zB5 (pv 0))
  (fun _ _ _ _=>zEs (n:=4) rfl (zAE (zBx) (zAE (zAI (i:=1) (zDT rfl) rfl (Or.inl rfl)) (zAE (zAI (i:=2) (zDT rfl) rfl (Or.inl rfl)) (zAE (zAI (i:=3) (zDT rfl) rfl (Or.inl rfl)) zBc)))))
  (fun _ _ _ _=>zB7 (zy zCD (pv 1) zj (zAC _))) (fun _ _ _ _=>pv 0)) zj)),?_⟩
 refine⟨_,rfl,p,rfl,⟨_,SqT.of hp⟩,[],rfl,fun D hD=>?_⟩
 refine zBn (a:=p) (xs:=as.map V.ref) (fun i ys H4=>ys=((es.take i).filter fun e=>decide (e.l=0)).map (fun e=>V.int e.h)/\H4=upd H D (.lst ys)) ⟨rfl,rfl⟩ (fun i ys H4 h=>?_) (fun i ys H4 h=>?_) (fun i v ys H4 hv h=>?_) (fun ys H4 h=>?_)
 . obtain⟨_,rfl⟩:=h
   exact SqT.of (by rw[zd (zl hp hD)];exact hp)
 . obtain⟨rfl,_⟩:=h
   rw[zD]
   exact zAN (zr _ _) (zB1 (by rw[zx];omega))
 . obtain⟨rfl,rfl⟩:=h
   obtain⟨a,x,rfl,hx,ha⟩:=EA.at hv
   refine⟨a,_,rfl,SqT.of (by rw[zd (zl ha hD)];exact ha),rfl,_,_,rfl,_,_,rfl,_,_,rfl,_,_,rfl,rfl,⟨rfl,rfl⟩,?_⟩
   refine⟨_,rfl,rfl,_,rfl,?_⟩
   rw[zHN]
   have st:=zFb (fun e:En=>decide (e.l=0)) hx
   refine zEC (fun c=>?_) (fun c=>?_)
   . refine⟨_,rfl,zI,?_,zBZ⟩
     rw[st,if_pos c,zV];rfl
   . refine⟨?_,rfl⟩
     rw[st,if_neg c,zt]
 . obtain⟨rfl,rfl⟩:=h
   rw[zD,EA.1,zf (zK _),hf]
   exact⟨D,_,_,.int e.h,rfl,rfl,SqL.of zI,zAn (by decide) rfl,k _ (zG hD)⟩
theorem scEnt:zo ["label", "hub", "entry"] ["label", "hub"] (defScope sEnt):=fS0
theorem zKb (F:Fun K "entry_of" "entry_of" sEnt f fd'):zAK P w K mg base CX0 1 f fd' ["label", "hub"] zK7:=by
 refine F.okD scEnt fun _ A _ _ H vs Q E hr h=>?_
 obtain⟨p,es,x,rfl,L,kn,ks⟩:=h
 obtain⟨as,hp,EA,hl⟩:=id L
 refine⟨_,zQ (zBb PassesOwn.never rfl (zB5 (pv 0)) (zAI (i:=2) scEnt.nd rfl (Or.inl rfl))
  (zW (zA5 (zy zCD (zAA zAM (pv 2) zj) (pv 1) (zAC _)) (zW (zw (pv 2))) zAP)))
  (zW (zw zAh)),?_⟩
 refine⟨_,rfl,p,rfl,⟨_,SqT.of hp⟩,zDu (K:=K) (a:=p) (xs:=as.map V.ref) (fun i σ H2=>∃va:Option V,σ=[some (.ref p),some (.int x),va]/\H2=H/\∀e∈es.take i,e.h≠x)
  ⟨none,rfl,rfl,fun e he=>by simp at he⟩ (fun i σ H2 _ ⟨_,_,e,_⟩=>e ▸ SqT.of hp) ?turn ?after⟩
 case turn=>
  rintro i y σ H2 hi ⟨va,rfl,rfl,hno⟩
  obtain⟨a,e,rfl,he,ha⟩:=EA.at hi
  refine⟨_,rfl,a,_,_,.int e.h,rfl,rfl,SqT.of ha,rfl,_,rfl,rfl,_,rfl,?_⟩
  rw[zHN]
  refine zEC (fun c=>?_) (fun c=>?_)
  . have c':e.h=x:=of_decide_eq_true c
    refine⟨_,rfl,ks e a ?_ ha⟩
    unfold zEM
    have hlt:=(zJ.mp he).1
    rw[<-List.take_append_drop i es,List.find?_append,List.find?_eq_none.mpr (fun f hf=>by simpa using hno f hf)]
    rw[List.drop_eq_getElem_cons hlt,(zJ.mp he).2,zBi,zO c']
    rfl
  . refine⟨_,rfl,rfl,fun f hf=>?_⟩
    rw[zu,he] at hf
    rcases zp.mp hf with z | z
    . exact hno f z
    . have:f=e:=by simpa using z
      subst this
      exact fun q=>c (zO q)
 case after=>
  rintro σ H2 ⟨va,rfl,rfl,hno⟩
  refine kn (zIs.mpr fun e he=>hno e ?_)
  rw[zD,EA.1,zf (zK _)]
  exact he
theorem zLH:zo ["one", "other", "longs", "sums"] ["one", "other"] (defScope sSum):=fS0
theorem zKY (F:Fun K "least_sum" "least_sum" sSum f fd') (mDict:mg "dict" = none) (mMin:mg "min" = none):zAK P w K mg base CX0 1 f fd' ["one", "other"] zK0:=by
 refine F.okD zLH fun _ A _ _ H vs Q E hr h=>?_
 obtain⟨p,q,es,fs,rfl,L1,L2',hF,k⟩:=h
 obtain⟨as,hp,EA,hl⟩:=id L1
 obtain⟨bs,hq,EB,hl2⟩:=id L2'
 have hu:=zEK hr
 refine⟨_,zQ (zCw (i:=2) zLH.nd rfl (Or.inr rfl) (zAy (zHS rfl) mDict (zC
  (zA7 (own:=["hub", "long", "up", "down"]) (cn:=[]) (ci:=[]) rfl (csc rfl rfl) trivial rfl (zB5 (pv 1))
   (fun _ _ _ _=>zEs (n:=4) rfl (zAE (zBx) (zAE (zAI (i:=1) (zDT rfl) rfl (Or.inl rfl)) (zAE (zAI (i:=2) (zDT rfl) rfl (Or.inl rfl)) (zAE (zAI (i:=3) (zDT rfl) rfl (Or.inl rfl)) zBc)))))
   (fun _ _ _ _=>zBa) (fun _ _ _ _=>zBP (zC (pv 0) (zC (pv 1) zL)))) zL)))
  (zQ (zDF (i:=3) (own:=["hub", "long", "up", "down"]) (cn:=["longs"]) (ci:=[2]) zLH.nd rfl (Or.inl rfl) rfl (csc rfl rfl) ⟨rfl,rfl,rfl,trivial⟩ rfl (zB5 (pv 0))
   (fun _ _ _ _=>zEs (n:=4) rfl (zAE (zBx) (zAE (zAI (i:=1) (zDT rfl) rfl (Or.inl rfl)) (zAE (zAI (i:=2) (zDT rfl) rfl (Or.inl rfl)) (zAE (zAI (i:=3) (zDT rfl) rfl (Or.inl rfl)) zBc)))))
   (fun _ _ _ _=>zB7 (zIE (zIN hu (pv 0) (pv 4)))) (fun _ _ _ _=>zBP (zC (zA6 zB6 (pv 1) (zEu hu (pv 4) (pv 0) (fun _ _=>rfl))) (zC (pv 0) zL))))
  (zW (zw (zFw rfl hu (by rfl) mMin (zC (pv 3) zL) (zBP (zC zAh (zC zAh zL))))))),?_⟩
 refine⟨_,rfl,q,rfl,⟨_,SqT.of hq⟩,[],rfl,fun D hD=>?_⟩
 refine zBn (a:=q) (xs:=bs.map V.ref) (fun i ys H4=>i<=fs.length/\ys.length=i/\(∀(j:Nat)(y:V),ys[j]? = some y->∃c e,y = .ref c/\fs[j]? = some e/\H4 c=some (.tup [.int e.h,.int e.l]))/\zAo H H4/\H4 D=some (.lst ys)) ⟨zh _,rfl,fun j y z=>by simp at z,zG hD,zI⟩ (fun i ys H4 h=>?_) (fun i ys H4 h=>?_) (fun i v ys H4 hv h=>?_) (fun ys H4 h=>?_)
 . exact SqT.of (h.2.2.2.1 _ _ hq)
 . exact zB1 (by have:=h.1;have:=h.2.1;omega)
 . obtain⟨hi,hyl,hys,s4,hD4⟩:=h
   obtain⟨a,x,rfl,hx,ha⟩:=EB.at hv
   refine⟨a,_,rfl,SqT.of (s4 _ _ ha),rfl,_,_,rfl,_,_,rfl,_,_,rfl,_,_,rfl,rfl,⟨rfl,rfl⟩,?_⟩
   refine zE7 ?_
   refine⟨_,rfl,_,rfl,by show 2<=sizeLine;decide,fun c hc=>?_⟩
   have nDc:D≠c:=zl hD4 hc
   refine⟨zG hc _ _ hD4,(zJ.mp hx).1,by rw[zP,hyl];rfl,fun j y hy=>?_,zAa (s4.trans (zG hc)) hD,zI⟩
   by_cases cj:j<i
   . rw[zZ (by omega)] at hy
     obtain⟨c',e,h1,h2,h3⟩:=hys j y hy
     refine⟨c',e,h1,h2,?_⟩
     rw[zd (zAp h3 hD4 (by intro z;cases z))]
     exact zG hc _ _ h3
   . have ej:j=i:=by
      have:=(zJ.mp hy).1
      rw[zP,hyl] at this
      simp at this;omega
     subst ej
     rw[zT (by omega),hyl,Nat.sub_self] at hy
     have ey:V.ref c=y:=by simpa using hy
     subst ey
     exact⟨c,x,rfl,hx,by rw[zd (Ne.symm nDc)];exact zI⟩
 . obtain⟨_,hyl,hys,s4,hD4⟩:=h
   rw[zD,EB.1] at hyl
   refine⟨D,ys,fs.map fun e=>(Sum.inl e.h,V.int e.l),rfl,SqL.of hD4,⟨by rw[zD,hyl],fun j y hy=>?_⟩,fun dd hdd=>?_⟩
   . obtain⟨c,e,h1,h2,h3⟩:=hys j y hy
     exact⟨c,Sum.inl e.h,.int e.l,h1,h3,by rw[zN,h2];rfl⟩
   have hnd:((fs.map fun e=>((Sum.inl e.h:Key),V.int e.l)).map (·.1)).Nodup:=by
    rw[List.map_map,List.Nodup,zAT]
    exact hF.imp fun h z=>by injection z with z;omega
   rw[zID hnd]
   have hval:∀x:Int,zBz (fs.map fun e=>((Sum.inl e.h:Key),V.int e.l)) (Sum.inl x)=(zEM fs x).map fun e=>V.int e.l:=fun x=>by
    unfold zBz zEM
    rw[List.find?_map,Option.map_map]
    have:((fun kv:Key×V=>decide (kv.1=Sum.inl x))∘fun e:En=>((Sum.inl e.h:Key),V.int e.l))=fun e:En=>decide (e.h=x):=by
     funext e
     show decide ((Sum.inl e.h:Key)=Sum.inl x)=_
     by_cases c:e.h=x
     . rw[zO c,zO (by rw[c])]
     . rw[zY c,zY (by intro z;injection z with z;exact c z)]
    rw[this]
    rfl
   have s5:zAo H (upd H4 dd (.dK (fs.map fun e=>(Sum.inl e.h,V.int e.l)))):=s4.trans (zG hdd)
   have hd5:(upd H4 dd (.dK (fs.map fun e=>((Sum.inl e.h:Key),V.int e.l)))) dd=some (.dK (fs.map fun e=>(Sum.inl e.h,V.int e.l))):=zI
   generalize upd H4 dd (.dK (fs.map fun e=>((Sum.inl e.h:Key),V.int e.l)))=H5 at s5 hd5 ⊢
   generalize (fs.map fun e=>((Sum.inl e.h:Key),V.int e.l))=kvs at hval hd5
   refine⟨_,rfl,p,rfl,⟨_,SqT.of (s5 _ _ hp)⟩,[.ref dd],rfl,fun D2 hD2=>?_⟩
   refine zBn (a:=p) (xs:=as.map V.ref) (fun i ys H6=>zAS H6 ys (((es.take i).filterMap (cOf fs)).map fun c=>[c.1,c.2])/\zAo H5 H6/\H6 D2=some (.lst ys)) ⟨trivial,zG hD2,zI⟩ (fun i ys H6 h=>?_) (fun i ys H6 h=>?_) (fun i v ys H6 hv h=>?_) (fun ys H6 h=>?_)
   . exact SqT.of (h.2.1 _ _ (s5 _ _ hp))
   . have:=h.1.length
     rw[this,zD]
     exact zAN (List.length_filterMap_le _ _) (zB1 (by rw[zx];omega))
   . obtain⟨T6,s6,hD6⟩:=h
     obtain⟨a,x,rfl,hx,ha⟩:=EA.at hv
     refine⟨a,_,rfl,SqT.of (s6 _ _ (s5 _ _ ha)),rfl,_,_,rfl,_,_,rfl,_,_,rfl,_,_,rfl,rfl,⟨rfl,rfl⟩,?_⟩
     refine⟨_,rfl,_,rfl,dd,_,rfl,zED.k (k:=Sum.inl x.h) (s6 _ _ hd5),_,rfl,?_⟩
     have st:=zL8 (cOf fs) hx
     have hv2:=hval x.h
     cases e:zEM fs x.h with
     | none=>
      rw[e] at hv2
      rw[hv2]
      refine zCa ?_
      have ec:cOf fs x=none:=by unfold cOf;rw[e];rfl
      refine⟨?_,s6,hD6⟩
      rw[st,ec]
      simpa using T6
     | some g=>
      rw[e] at hv2
      have hv3:zBz kvs (Sum.inl x.h)=some (.int g.l):=hv2
      rw[hv3]
      refine zFZ ?_
      have ec:cOf fs x=some (x.l+g.l,x.h):=by unfold cOf;rw[e];rfl
      refine⟨_,rfl,_,rfl,_,rfl,dd,.int g.l,rfl,hv3 ▸ zED.k (k:=Sum.inl x.h) (s6 _ _ hd5),_,_,rfl,rfl,_,rfl,by show 2<=sizeLine;decide,fun c hc=>?_⟩
      refine⟨zG hc _ _ hD6,?_,zAa (s6.trans (zG hc)) hD2,zI⟩
      rw[st,ec,zV]
      refine zAS.snoc (T6.keep fun b zs e=>?_) ⟨c,rfl,?_,by intro z;cases z⟩
      . rw[zd (zAp e hD6 (by intro z;cases z))]
        exact zG hc _ _ e
      . rw[zd (Ne.symm (zl hD6 hc))]
        exact zI
   . obtain⟨T6,s6,hD6⟩:=h
     rw[zD,EA.1,zf (zK _)] at T6
     have hmem:=fun c=>zMC (es:=es) hF c
     generalize es.filterMap (cOf fs)=cs at T6 hmem
     refine⟨_,rfl,_,rfl,by show 2<=sizeLine;decide,fun n hn=>?_⟩
     have s7:zAo H (upd H6 n (.tup [.non,.non])):=(s5.trans s6).trans (zG hn)
     refine⟨D2,ys,rfl,.inl (SqL.of (zG hn _ _ hD6)),fun e0=>?_,.inl ⟨_,T6.keep fun b zs e=>zG hn _ _ e,fun i y kk hy hk hmin=>?_⟩⟩
     . refine k n none _ s7 (fun c z=>?_) zI
       have:cs=[]:=by
        have:=T6.length
        rw[e0,zD] at this
        exact List.length_eq_zero_iff.mp this.symm
       rw[<-hmem,this] at z
       simp at z
     . obtain⟨a,k',e1,e2,e3,_⟩:=T6.get hy
       rw[hk] at e2
       cases e2
       rw[zN] at hk
       cases ec:cs[i]? with
       | none=>rw[ec] at hk;cases hk
       | some c=>
        rw[ec] at hk
        have ek:[c.1,c.2]=kk:=zR hk
        subst ek e1
        refine k a (some c) _ s7 ⟨(hmem c).mp (zX ec),fun c' hc'=>?_⟩ (zG hn _ _ e3)
        have:=hmin [c'.1,c'.2] (zq.mpr ⟨c',(hmem c').mpr hc',rfl⟩)
        rw[HT.lexLt_cons] at this
        by_cases q:c'.1=c.1
        . rw[if_pos q,HT.lexLt_cons] at this
          by_cases q2:c'.2=c.2
          . exact .inr ⟨q.symm,by omega⟩
          . rw[if_neg q2] at this
            have:=of_decide_eq_false this
            exact .inr ⟨q.symm,by omega⟩
        . rw[if_neg q] at this
          have:=of_decide_eq_false this
          exact .inl (by omega)
theorem scTold:zo ["one", "other"] ["one", "other"] (defScope zFv):=fS0
variable {fS:Addr}{fdS:FuncData}
theorem zLi (F:Fun K "told" "told" zFv f fd') (FS:FuB K mg "least_sum" sSum fS fdS ["one","other"]) (mDict:mg "dict" = none) (mMin:mg "min" = none):zAK P w K mg base CX0 2 f fd' ["one", "other"] zFB:=by
 have GS:zAK P w K mg base CX0 1 fS fdS ["one", "other"] zK0:=zKY FS.F mDict mMin
 refine F.okD scTold fun _ A _ _ H vs Q E hr h=>?_
 obtain⟨p,q,es,fs,rfl,L1,L2',hF,k⟩:=h
 refine⟨_,zW (zw (zAA zAM (zAJ GS hr FS (zC (pv 0) (zC (pv 1) zL))) zj)),?_⟩
 refine⟨_,rfl,_,rfl,p,q,es,fs,rfl,L1,L2',hF,fun r lm H' s1 hm hr'=>?_⟩
 exact⟨r,_,_,_,rfl,rfl,SqT.of hr',rfl,k lm H' s1 hm⟩
theorem scHub:zo ["one", "other"] ["one", "other"] (defScope sHub):=fS0
theorem ok_hub (F:Fun K "told_hub" "told_hub" sHub f fd') (FS:FuB K mg "least_sum" sSum fS fdS ["one","other"]) (mDict:mg "dict" = none) (mMin:mg "min" = none):zAK P w K mg base CX0 2 f fd' ["one", "other"] spHub:=by
 have GS:zAK P w K mg base CX0 1 fS fdS ["one", "other"] zK0:=zKY FS.F mDict mMin
 refine F.okD scHub fun _ A _ _ H vs Q E hr h=>?_
 obtain⟨p,q,es,fs,rfl,L1,L2',hF,k⟩:=h
 refine⟨_,zW (zw (zAA zAM (zAJ GS hr FS (zC (pv 0) (zC (pv 1) zL))) zj)),?_⟩
 refine⟨_,rfl,_,rfl,p,q,es,fs,rfl,L1,L2',hF,fun r lm H' s1 hm hr'=>?_⟩
 exact⟨r,_,_,_,rfl,rfl,SqT.of hr',rfl,k lm H' s1 hm⟩
theorem oV_isN:decide (oV o=V.non)=o.isNone:=by
 cases o with
 | none=>exact zO rfl
 | some a=>exact zY (by intro z;cases z)
variable {x:Int}
theorem zBv.ent (L:zBv H p es)(hs:Hub es)(h:zEM es x=some e):∃a,H a=some (.tup (eV e)):=by
 obtain⟨as,_,EA,_⟩:=L
 obtain⟨hm,_⟩:=(zB2 hs).mp h
 obtain⟨i,hi,ee⟩:=zv hm
 have hi':i<as.length:=by rw[EA.1];exact hi
 obtain⟨e',h1,h2⟩:=EA.2 i as[i] (zB hi')
 rw[zB hi,ee] at h1
 cases h1
 exact⟨_,h2⟩
theorem zKW:zo ["one", "other", "hub"] ["one", "other"] (defScope zH0):=fS0
variable {fO fE:Addr}{fdO fdE:FuncData}
theorem zLk {fH:Addr}{fdH:FuncData}(F:Fun K "next_step" "next_step" zH0 f fd') (FH:FuB K mg "told_hub" sHub fH fdH ["one","other"]) (GH:zAK P w K mg base CX0 2 fH fdH ["one", "other"] spHub)
 (FO:FuB K mg "own_place" sOwn fO fdO ["label"]) (FE:FuB K mg "entry_of" sEnt fE fdE ["label","hub"]):zAK P w K mg base CX0 3 f fd' ["one", "other"] zHk:=by
 have GO:zAK P w K mg base CX0 2 fO fdO ["label"] zK1:=(zKZ FO.F).mono (by decide)
 have GE:zAK P w K mg base CX0 2 fE fdE ["label", "hub"] zK7:=(zKb FE.F).mono (by decide)
 refine F.okD zKW fun _ A _ _ H vs Q E hr h=>?_
 obtain⟨p,q,es,fs,e,f,r,r',rfl,L1,L2',hE,hF,fe,ff,k⟩:=h
 refine⟨_,zQ (zBB (i:=2) zKW.nd (zAJ GH hr FH (zC (pv 0) (zC (pv 1) zL))))
  (zQ (zA5 (PW.pt (zCv (zy zBk (pv 2) zAh (zAC _)) (zCG (zy zCD (zAJ GO hr FO (zC (pv 0) zL)) (zAJ GO hr FO (zC (pv 1) zL)) (zAC _))))) (zW (zw zAh)) zAP)
  (zQ (zA5 (zy zCD (pv 2) (zAJ GO hr FO (zC (pv 0) zL)) (zAC _)) (zW (zw (zAA zAM (zAJ GE hr FE (zC (pv 1) (zC (pv 2) zL))) zj))) zAP)
  (zW (zw (zAA zAM (zAJ GE hr FE (zC (pv 0) (zC (pv 2) zL))) zj))))),?_⟩
 refine⟨_,rfl,_,rfl,p,q,es,fs,rfl,L1,L2',hF,fun lm H1 s1 hm=>?_⟩
 refine⟨_,rfl,rfl,_,rfl,?_⟩
 rw[oV_isN]
 cases lm with
 | none=>exact ifT rfl (ifT rfl (k none H1 s1 hm))
 | some c=>
  refine ifF rfl ?_
  refine⟨_,rfl,p,es,e,r,rfl,L1.same s1,fe,fun H2 s2=>?_⟩
  refine⟨_,rfl,q,fs,f,r',rfl,L2'.same (s1.trans s2),ff,fun H3 s3=>?_⟩
  have s13:zAo H H3:=(s1.trans s2).trans s3
  refine⟨rfl,_,rfl,?_⟩
  rw[zHN]
  refine zEC (fun z=>?_) (fun z=>?_)
  . have z':e.h=f.h:=of_decide_eq_true z
    have:=k (some c) H3 s13 hm
    rw[show zJQ es fs e.h f.h (some c)=none by show (if e.h=f.h then _ else _)=_;rw[if_pos z']] at this
    exact this
  . have z':¬ e.h=f.h:=fun y=>z (zO y)
    refine⟨_,rfl,_,rfl,p,es,e,r,rfl,L1.same s13,fe,fun H4 s4=>?_⟩
    have s14:zAo H H4:=s13.trans s4
    have kk:=k (some c) H4 s14 hm
    have e0:zJQ es fs e.h f.h (some c)=if c.2=e.h then (zEM fs c.2).bind (·.d) else (zEM es c.2).bind (·.u):=by show (if e.h=f.h then _ else _)=_;rw[if_neg z']
    rw[e0] at kk
    obtain⟨x,hx,y,hy,hyx,rfl⟩:=hm.1
    refine⟨rfl,_,rfl,?_⟩
    rw[show decide ((oV (Option.map (fun x=>x.2) (some (x.l+y.l,x.h))))=V.int e.h)=decide (x.h=e.h) from zHN]
    have h1:zEM es x.h=some x:=(zB2 hE).mpr ⟨hx,rfl⟩
    have h2:zEM fs x.h=some y:=(zB2 hF).mpr ⟨hy,hyx⟩
    refine zEC (fun c1=>?_) (fun c1=>?_)
    . have c1':x.h=e.h:=of_decide_eq_true c1
      obtain⟨a,ha⟩:=(L2'.same s14).ent hF h2
      refine⟨_,rfl,_,rfl,q,fs,x.h,rfl,L2'.same s14,fun n=>?_,fun g b hg hb=>?_⟩
      . rw[h2] at n;cases n
      . rw[h2] at hg;cases hg
        rw[if_pos c1',h2] at kk
        exact⟨b,_,_,oV y.d,rfl,rfl,SqT.of hb,rfl,kk⟩
    . have c1':¬ x.h=e.h:=fun y=>c1 (zO y)
      refine⟨_,rfl,_,rfl,p,es,x.h,rfl,L1.same s14,fun n=>?_,fun g b hg hb=>?_⟩
      . rw[h1] at n;cases n
      . rw[h1] at hg;cases hg
        rw[if_neg c1',h1] at kk
        exact⟨b,_,_,oV x.u,rfl,rfl,SqT.of hb,rfl,kk⟩
noncomputable def rkf (rks:List Int)(p:Int):Int:=rks.getD p.toNat 0
noncomputable def zFq (ts:List T3)(rk:Int->Int)(h v:Int):Prop:=(∃d,WM.IsD ts h v d)/\∀p,Btw ts h v p->rk h<=rk p
noncomputable def zGs (P:Int->Prop):Option Int->Prop
 | none=>∀p,¬ P p
 | some m=>P m/\∀p,P p->m<=p
theorem zGs.congr {P P':Int->Prop}(e:∀p,P p↔P' p):∀{o:Option Int},zGs P o->zGs P' o
 | none,h=>fun p z=>h p ((e p).mpr z)
 | some _,h=>⟨(e _).mp h.1,fun p z=>h.2 p ((e p).mpr z)⟩
structure zHV (ts:List T3)(n:Int)(rk:Int->Int)(v:Int)(e:En):Prop where
 rng:0<=e.h/\e.h<n
 hub:zFq ts rk e.h v
 len:WM.IsD ts v e.h e.l
 up:zGs (Nxt ts v e.h) e.u
 dn:zGs (Nxt ts e.h v) e.d
structure zDM (ts:List T3)(n:Int)(rk:Int->Int)(v:Int)(es:List En):Prop where
 hub:Hub es
 ent:∀e∈es,zHV ts n rk v e
 all:∀h,0<=h->h<n->zFq ts rk h v->∃e∈es,e.h=h
 len:es.length<=24
variable {rk:Int->Int}{v:Int}
theorem zFq.congr {rk':Int->Int}{h:Int}(G:GW n ts)(e:∀p,0<=p->p<n->rk p=rk' p)(h0:0<=h)(h1:h<n)(x:zFq ts rk h v):zFq ts rk' h v:=by
 refine⟨x.1,fun p hp=>?_⟩
 obtain⟨a,b,ia,_⟩:=id hp
 have:=ia.1.in_ G h0 h1
 rw[<-e h h0 h1,<-e p this.1 this.2]
 exact x.2 p hp
theorem zDM.congr {ts:List T3}{n:Int}{rk rk':Int->Int}{v:Int}{es:List En}(G:GW n ts)(e:∀p,0<=p->p<n->rk p=rk' p)(x:zDM ts n rk v es):zDM ts n rk' v es:=
 ⟨x.hub,fun a ha=>let y:=x.ent a ha;⟨y.rng,y.hub.congr G e y.rng.1 y.rng.2,y.len,y.up,y.dn⟩,fun h h0 h1 z=>x.all h h0 h1 (z.congr G (fun p a b=>(e p a b).symm) h0 h1),x.len⟩
noncomputable def zBT (H:Hp)(l:Addr)(ess:List (List En)):Prop:=∃as:List Addr,H l=some (.tup (as.map V.ref))/\as.length=ess.length/\∀(i:Nat)(a:Addr),as[i]? = some a->∃es,ess[i]? = some es/\zBv H a es
theorem zBT.keep {H H':Hp}{l:Addr}{ess:List (List En)}(h:zBT H l ess)(k:∀b ys,H b=some (.tup ys)->H' b=some (.tup ys)):zBT H' l ess:=
 let ⟨as,h1,h2,h3⟩:=h;⟨as,k _ _ h1,h2,fun i a ha=>let ⟨es,e1,e2⟩:=h3 i a ha;⟨es,e1,e2.keep k⟩⟩
theorem zCd.at {M:lLO}(RA:zCd H rs M)(RR:Rows ts n M)(h0:0<=x)(h1:x<n) :
 ∃r,(rs.map V.ref)[x.toNat]? = some (.ref r)/\H r=some (.tup ((M.getD x.toNat []).map oV))/\zJL ts n x (M.getD x.toNat []):=by
 have hM:x.toNat<M.length:=by rw[RR.1];omega
 have hr:x.toNat<rs.length:=by rw[RA.1];exact hM
 have e:M[x.toNat]? = some (M.getD x.toNat []):=by rw[zE,zB hM];rfl
 exact⟨rs[x.toNat],by rw[zN,zB hr];rfl,RA.2 _ _ _ (zB hr) e,RR.2 x h0 h1⟩
theorem zCd.same {M:lLO}(h:zCd H rs M)(k:zAo H H'):zCd H' rs M:=⟨h.1,fun i r row a b=>k _ _ (h.2 i r row a b)⟩
theorem zIb {K:PySem.W.Frag}{xs:List Int}{Q:VK}(hp:SqT K H p (xs.map V.int))(h:∀u,zGs (· ∈ xs) u->Q (oV u) H):rMinD K (.ref p) .non H Q:=by
 refine⟨p,_,rfl,.inr hp,fun e=>?_,.inr ⟨xs,rfl,fun n hn hm=>h (some n) ⟨hn,hm⟩⟩⟩
 have:xs=[]:=by simpa using e
 exact h none fun q hq=>by rw[this] at hq;simp at hq
structure zJG (H:Hp)(rl ra:Addr)(rs:List Addr)(M:lLO)(rks:List Int)(n:Int)(ts:List T3):Prop where
 tab:H rl=some (.tup (rs.map V.ref))
 rows:zCd H rs M
 right:Rows ts n M
 rk:H ra=some (.lst (rks.map V.int))
 rln:rks.length=n.toNat
 web:GW n ts
theorem zJG.same {rl ra:Addr}{M:lLO}{rks:List Int}(L:zJG H rl ra rs M rks n ts)(k:zAo H H'):zJG H' rl ra rs M rks n ts:=⟨k _ _ L.tab,L.rows.same k,L.right,k _ _ L.rk,L.rln,L.web⟩
theorem zJG.rank {rl ra:Addr}{M:lLO}{rks:List Int}(L:zJG H rl ra rs M rks n ts)(h0:0<=x)(h1:x<n):(rks.map V.int)[x.toNat]? = some (.int (rkf rks x)):=by
 have:x.toNat<rks.length:=by rw[L.rln];omega
 rw[zN,zB this]
 unfold rkf
 rw[zE,zB this]
 rfl
noncomputable def zK5:Sp:=fun vs H Q _=>∃(rl ra:Addr)(rs:List Addr)(M:lLO)(rks:List Int)(n:Int)(ts:List T3)(h v:Int),vs=[.ref rl,.ref ra,.int h,.int v]/\zJG H rl ra rs M rks n ts/\0<=h/\h<n/\0<=v/\v<n /\
 ∀(b:Bool)(H':Hp),zAo H H'->(b=true↔zFq ts (rkf rks) h v)->Q (.bl b) H'
noncomputable def zK8:Sp:=fun vs H Q _=>∃(wa rl ra:Addr)(rs:List Addr)(M:lLO)(rks:List Int)(n:Int)(ts:List T3)(v h:Int),vs=[.ref wa,.ref rl,.int v,.int h]/\zBD H wa n ts/\zJG H rl ra rs M rks n ts/\0<=h/\h<n/\0<=v/\v<n/\zFq ts (rkf rks) h v /\
 ∀(a:Addr)(e:En)(H':Hp),zAo H H'->H' a=some (.tup (eV e))->e.h=h->zHV ts n (rkf rks) v e->Q (.ref a) H'
noncomputable def zK4:Sp:=fun vs H Q _=>∃(wa rl ra:Addr)(rs:List Addr)(M:lLO)(rks:List Int)(n:Int)(ts:List T3)(v:Int),vs=[.ref wa,.ref rl,.ref ra,.int v]/\zBD H wa n ts/\zJG H rl ra rs M rks n ts/\0<=v/\v<n /\
 ∀(a:Addr)(es:List En)(H':Hp),zAo H H'->zBv H' a es->zDM ts n (rkf rks) v es->Q (.ref a) H'
theorem scIsh:zo ["rows", "ranks", "hub", "place"] ["rows", "ranks", "hub", "place"] (defScope sIsh):=fS0
variable {fB:Addr}{fdB:FuncData}
theorem ok_ish (F:Fun K "is_hub" "is_hub" sIsh f fd') (FB:FuB K mg "between_rows" sBwr fB fdB ["here","there","other"]) (mRange:mg "range" = none) (mTuple:mg "tuple" = none) (mLen:mg "len" = none) (mAll:mg "all" = none) :
 zAK P w K mg base CX0 2 f fd' ["rows", "ranks", "hub", "place"] zK5:=by
 have GB:zAK P w K mg base CX0 1 fB fdB ["here", "there", "other"] spBwr:=ok_bwr FB.F mRange mTuple mLen
 refine F.okD scIsh fun _ A _ _ H vs Q E hr h=>?_
 obtain⟨rl,ra,rs,M,rks,n,ts,h,v,rfl,L,h0,h1,v0,v1,k⟩:=h
 have G:=L.web
 have hn24:=G.n24
 refine⟨_,zQ (zA5 (zy zBk (zAA zAM (zAA zAM (pv 0) (pv 2)) (pv 3)) zAh (zAC _)) (zW (zw zDS)) zAP)
  (zW (zw (zAL (zC8 rfl) mAll (zC (zA7 (own:=["other"]) (cn:=["ranks", "hub"]) (ci:=[1,2]) rfl (csc rfl rfl) ⟨rfl,rfl,rfl,rfl,rfl,rfl,trivial⟩ rfl
   (zB5 (zAJ GB hr FB (zC (zAA zAM (pv 0) (pv 2)) (zC (zAA zAM (pv 0) (pv 3)) (zC (pv 3) zL))))) (fun _ _ _ _=>zBx)
   (fun _ _ _ _=>zBa) (fun _ _ _ _=>zBR zLZ (zAA zCh (pv 1) (pv 2)) (zAA zCh (pv 1) (pv 0)) (zAC _))) zL)))),?_⟩
 obtain⟨rh,gh,hh,Lh⟩:=L.rows.at L.right h0 h1
 obtain⟨rv,gv,hv,Lv⟩:=L.rows.at L.right v0 v1
 have lhv:=Lh.len v v0 v1
 refine⟨_,rfl,_,rfl,rl,_,_,.ref rh,rfl,rfl,SqT.of L.tab,zAn h0 gh,_,rfl,rh,_,_,oV (fnl (M.getD h.toNat []) v),rfl,rfl,SqT.of hh,zAn v0 (zB3 Lh v0 v1),rfl,_,rfl,?_⟩
 rw[zFR]
 cases ed:fnl (M.getD h.toNat []) v with
 | none=>
  rw[ed] at lhv
  refine zFZ ?_
  exact k false H (zAo.refl _) ⟨(fun z=>by cases z),(fun z=>by obtain⟨d,hd⟩:=z.1;exact absurd hd.1 (lhv d))⟩
 | some d=>
  rw[ed] at lhv
  refine zCa ?_
  refine⟨_,rfl,_,rfl,rl,_,_,.ref rh,rfl,rfl,SqT.of L.tab,zAn h0 gh,_,rfl,_,rfl,rl,_,_,.ref rv,rfl,rfl,SqT.of L.tab,zAn v0 gv,_,rfl,rh,rv,n,ts,h,v,_,_,rfl,G,h0,h1,v0,v1,hh,hv,Lh,Lv,fun l xs H1 s1 hl hrise hmem=>?_⟩
  have hxr:∀p∈xs,0<=p/\p<n:=fun p hp=>by
   obtain⟨a,b,ia,_⟩:=(hmem p).mp hp
   exact ia.1.in_ G h0 h1
  have hxl:xs.length<=24:=by
   have:=nd_len (n:=n.toNat) (l:=xs) (hrise.imp fun z=>by omega) fun x hx=>by have:=hxr x hx;omega
   omega
  refine⟨l,rfl,⟨_,SqT.of hl⟩,[.ref ra,.int h],rfl,fun D hD=>?_⟩
  have hra:=s1 _ _ L.rk
  refine zBn (a:=l) (xs:=xs.map V.int) (fun i ys H4=>ys=((xs.take i).map fun p=>decide (rkf rks h<=rkf rks p)).map V.bl/\H4=upd H1 D (.lst ys)) ⟨rfl,rfl⟩ (fun i ys H4 z=>?_) (fun i ys H4 z=>?_) (fun i x ys H4 hx z=>?_) (fun ys H4 z=>?_)
  . obtain⟨_,rfl⟩:=z
    exact SqT.of (by rw[zd (zl hl hD)];exact hl)
  . obtain⟨rfl,_⟩:=z
    rw[zD,zD,zx]
    exact zAG (by omega)
  . obtain⟨rfl,rfl⟩:=z
    obtain⟨p,hp,rfl⟩:∃p,xs[i]? = some p/\V.int p=x:=by
     rw[zN] at hx
     cases e:xs[i]? with
     | none=>rw[e] at hx;cases hx
     | some p=>rw[e] at hx;exact⟨p,rfl,zR hx⟩
    have hpr:=hxr p (zX hp)
    have hra4:=zG (o:=.lst (((xs.take i).map fun p=>decide (rkf rks h<=rkf rks p)).map V.bl)) hD _ _ hra
    refine⟨⟨rfl,rfl⟩,?_⟩
    refine zE7 ?_
    refine⟨_,rfl,_,rfl,ra,_,_,.int (rkf rks h),rfl,rfl,SqL.of hra4,zAn h0 (L.rank h0 h1),_,rfl,_,rfl,ra,_,_,.int (rkf rks p),rfl,rfl,SqL.of hra4,zAn hpr.1 (L.rank hpr.1 hpr.2),_,_,rfl,rfl,zI,?_,zBZ⟩
    rw[zu,hp,zV,zV];rfl
  . obtain⟨rfl,rfl⟩:=z
    rw[zD,zf (zK _)]
    refine⟨D,_,rfl,SqL.of zI,?_⟩
    refine k _ _ (s1.trans (zG hD)) ⟨fun z=>⟨⟨d,lhv⟩,fun p hp=>?_⟩,fun z=>zAj.mpr fun b hb=>?_⟩
    . have:=zAj.mp z _ (zq.mpr ⟨p,(hmem p).mpr hp,rfl⟩)
      exact of_decide_eq_true this
    . obtain⟨p,hp,rfl⟩:=zq.mp hb
      exact zO (z.2 p ((hmem p).mp hp))
theorem zLJ:zo ["web", "rows", "place", "hub", "up", "down"] ["web", "rows", "place", "hub"] (defScope sEbr):=fS0
theorem ok_ebr {fT:Addr}(F:Fun K "entry_by_rows" "entry_by_rows" sEbr f fd') (FN:FuB K mg "next_by_row" sNbr fN fdN ["web","one","there"])
 (FT:FuB K mg "ties_at" zEo fT fdT ["web","place"]) (mSorted:mg "sorted" = none) (mTuple:mg "tuple" = none) (mMin:mg "min" = none):zAK P w K mg base CX0 4 f fd' ["web", "rows", "place", "hub"] zK8:=by
 have GN:zAK P w K mg base CX0 3 fN fdN ["web", "one", "there"] spNbr:=ok_nbr FN.F FT mSorted mTuple
 refine F.okD zLJ fun _ A _ _ H vs Q E hr h=>?_
 obtain⟨wa,rl,ra,rs,M,rks,n,ts,v,h,rfl,W,L,h0,h1,v0,v1,hh,k⟩:=h
 have hu:=zEK hr
 refine⟨_,zQ (zBB (i:=4) zLJ.nd (zFw rfl hu (by rfl) mMin (zC (zAJ GN hr FN (zC (pv 0) (zC (pv 2) (zC (zAA zAM (pv 1) (pv 3)) zL)))) zL) zAh))
  (zQ (zBB (i:=5) zLJ.nd (zFw rfl hu (by rfl) mMin (zC (zAJ GN hr FN (zC (pv 0) (zC (pv 3) (zC (zAA zAM (pv 1) (pv 2)) zL)))) zL) zAh))
  (zW (zw (zBP (zC (pv 3) (zC (zAA zAM (zAA zAM (pv 1) (pv 2)) (pv 3)) (zC (pv 4) (zC (pv 5) zL)))))))),?_⟩
 obtain⟨rh,gh,ha,Lh⟩:=L.rows.at L.right h0 h1
 obtain⟨rv,gv,hv,Lv⟩:=L.rows.at L.right v0 v1
 refine⟨_,rfl,_,rfl,_,rfl,_,rfl,rl,_,_,.ref rh,rfl,rfl,SqT.of L.tab,zAn h0 gh,wa,rh,n,ts,v,h,_,rfl,W,v0,v1,h0,h1,ha,Lh,fun l1 xs H1 s1 hl1 _ hm1=>?_⟩
 refine⟨_,rfl,?_⟩
 unfold tC
 refine zIb (SqT.of hl1) fun u hu1=>?_
 have L1:=L.same s1
 refine⟨_,rfl,_,rfl,_,rfl,_,rfl,rl,_,_,.ref rv,rfl,rfl,SqT.of L1.tab,zAn v0 gv,wa,rv,n,ts,h,v,_,rfl,W.keep s1,h0,h1,v0,v1,s1 _ _ hv,Lv,fun l2 ys H2 s2 hl2 _ hm2=>?_⟩
 refine⟨_,rfl,?_⟩
 dsimp only
 refine zIb (SqT.of hl2) fun d hd1=>?_
 have s12:=s1.trans s2
 have L2':=L.same s12
 obtain⟨dd,hdd⟩:=hh.1
 have lv:=Len.uniq (Lv.len h h0 h1) (show Len ts v h (some dd) from WM.IsD.symm hdd)
 refine⟨_,rfl,_,rfl,_,rfl,rl,_,_,.ref rv,rfl,rfl,SqT.of L2'.tab,zAn v0 gv,_,rfl,rv,_,_,.int dd,rfl,rfl,SqT.of (s12 _ _ hv),zAn h0 (by rw[zB3 Lv h0 h1,lv];rfl),_,rfl,_,rfl,by show 4<=sizeLine;decide,fun a ha'=>?_⟩
 exact k a ⟨h,dd,u,d⟩ _ (s12.trans (zG ha')) zI rfl ⟨⟨h0,h1⟩,hh,WM.IsD.symm hdd,hu1.congr hm1,hd1.congr hm2⟩
theorem zH9 {M:lLO}(R:Rows ts n M){d:Int}(x0:0<=x)(x1:x<n)(y0:0<=y)(y1:y<n)(h:WM.IsD ts x y d):0<=d/\d<=2376:=by
 have L:=R.2 x x0 x1
 have l:=L.len y y0 y1
 cases e:fnl (M.getD x.toNat []) y with
 | none=>rw[e] at l;exact absurd h.1 (l d)
 | some d'=>
  rw[e] at l
  have ed:d'=d:=WM.IsD.uniq l h
  subst ed
  refine L.bd (some d') ?_ d' rfl
  unfold fnl at e
  rw[if_pos y0,zE] at e
  cases e2:(M.getD x.toNat [])[y.toNat]? with
  | none=>rw[e2] at e;cases e
  | some o=>
   rw[e2] at e
   have eo:o=some d':=e
   rw[<-eo]
   exact zX e2
noncomputable def zKI (n:Int)(os:List Int)(rk:Int->Int):Prop:=∀p,0<=p->p<n->0<=rk p/\os[(rk p).toNat]? = some p
noncomputable def zCJ (ts:List T3)(n:Int)(rk:Int->Int)(ess:List (List En)):Prop:=ess.length=n.toNat/\∀(i:Nat)(es:List En),ess[i]? = some es->zDM ts n rk i es
noncomputable def zHs (PT:Addr):Sp:=fun vs H Q _=>∃(wa p:Addr)(n:Int)(ts:List T3)(os:List Int),vs=[.ref wa,.ref p]/\zBD H wa n ts/\H p=some (.tup (os.map V.int))/\zKq n os/\Tb H PT /\
 ∀(l:Addr)(ess:List (List En))(rk:Int->Int)(H':Hp),SmT H H'->Tb H' PT->zBT H' l ess->zKI n os rk->zCJ ts n rk ess->(∀es∈ess,∀e∈es,0<=e.l/\e.l<=2376)->Q (.ref l) H'
variable {os:List Int}
theorem zKq.mem (O:zKq n os){p:Int}(h0:0<=p)(h1:p<n):p∈os:=by
 apply zAQ
 intro hn
 have:=nd_len (n:=n.toNat) (l:=p::os) (zAc.mpr ⟨hn,O.nd⟩) fun x hx=>by
  rcases zc.mp hx with rfl | hx
  . omega
  . have:=O.rng x hx;omega
 rw[zn,O.ln] at this
 omega
theorem scLbr:zo ["web", "rows", "ranks", "place", "hubs"] ["web", "rows", "ranks", "place"] (defScope sLbr):=fS0
theorem ok_lbr {fI:Addr}{fdI:FuncData}(F:Fun K "label_by_ranks" "label_by_ranks" sLbr f fd') (FI:FuB K mg "is_hub" sIsh fI fdI ["rows","ranks","hub","place"]) (GI:zAK P w K mg base CX0 4 fI fdI ["rows", "ranks", "hub", "place"] zK5)
 (FE:FuB K mg "entry_by_rows" sEbr fE fdE ["web","rows","place","hub"]) (GE:zAK P w K mg base CX0 4 fE fdE ["web", "rows", "place", "hub"] zK8) (mRange:mg "range" = none) (mTuple:mg "tuple" = none) :
 zAK P w K mg base CX0 5 f fd' ["web", "rows", "ranks", "place"] zK4:=by
 refine F.okD scLbr fun _ A _ _ H vs Q E hr h=>?_
 obtain⟨wa,rl,ra,rs,M,rks,n,ts,v,rfl,W,L,v0,v1,k⟩:=h
 obtain⟨ta,tys,hwa,_,_,G⟩:=id W
 have hn1:=G.n1
 have hn24:=G.n24
 refine⟨_,zQ (zDF (i:=4) (own:=["hub"]) (cn:=["rows", "ranks", "place"]) (ci:=[1,2,3]) scLbr.nd rfl (Or.inl rfl) rfl (csc rfl rfl) ⟨rfl,rfl,rfl,rfl,rfl,rfl,rfl,rfl,rfl,trivial⟩ rfl
  (zAm rfl mRange (zC (zAA zAM (pv 0) zj) zL)) (fun _ _ _ _=>zBx)
  (fun _ _ _ _=>zB7 (zBt (zAJ GI hr FI (zC (pv 1) (zC (pv 2) (zC (pv 0) (zC (pv 3) zL))))))) (fun _ _ _ _=>pv 0))
  (zW (zw (zAy zAb mTuple (zC (zA7 (own:=["hub"]) (cn:=["web", "rows", "place"]) (ci:=[0,1,3]) rfl (csc rfl rfl) ⟨rfl,rfl,rfl,rfl,rfl,rfl,rfl,rfl,rfl,trivial⟩ rfl
   (zCA (pv 4)) (fun _ _ _ _=>zBx) (fun _ _ _ _=>zBa)
   (fun _ _ _ _=>zAJ GE hr FE (zC (pv 1) (zC (pv 2) (zC (pv 3) (zC (pv 0) zL)))))) zL)))),?_⟩
 refine⟨_,rfl,wa,_,_,_,rfl,rfl,SqT.of hwa,rfl,n,rfl,by omega,by omega,[.ref rl,.ref ra,.int v],rfl,fun D hD=>?_⟩
 refine zBF (lo:=0) (n:=n.toNat) (fun q ys H3=>q<=n.toNat/\(∃hs:List Int,ys=hs.map V.int/\hs.Pairwise (· < ·)/\∀p,p∈hs↔(0<=p/\p<(q:Int))/\zFq ts (rkf rks) p v)/\zAo H H3/\H3 D=some (.lst ys)) ⟨zh _,⟨[],rfl,zBJ,fun p=>⟨fun z=>by simp at z,fun z=>absurd z.1 (by omega)⟩⟩,zG hD,zI⟩ (fun q ys H3 z=>?_) (fun q ys H3 hq z=>?_) (fun ys H3 z=>?_)
 . obtain⟨hq,⟨hs,rfl,hp,hm⟩,_⟩:=z
   rw[zD]
   have:=nd_len (n:=q) (l:=hs) (hp.imp fun z=>by omega) fun x hx=>by have:=((hm x).mp hx).1;omega
   exact zAG (by omega)
 . obtain⟨_,⟨hs,rfl,hp,hm⟩,s3,hD3⟩:=z
   rw[zAf]
   refine⟨⟨rfl,rfl⟩,?_⟩
   refine⟨_,rfl,_,rfl,_,rfl,_,rfl,rl,ra,rs,M,rks,n,ts,q,v,rfl,L.same s3,by omega,by omega,v0,v1,fun b H4 s4 hb=>?_⟩
   refine⟨_,rfl,?_⟩
   refine zEC (fun c=>?_) (fun c=>?_)
   . refine⟨_,rfl,s4 _ _ hD3,hq,⟨hs++[(q:Int)],by rw[zV];rfl,List.pairwise_append.mpr ⟨hp,List.pairwise_singleton _ _,fun a ha b hb'=>?_⟩,fun p=>?_⟩,zAa (s3.trans s4) hD,zI⟩
     . have:b=(q:Int):=by simpa using hb'
       have:=((hm a).mp ha).1
       omega
     . rw[zp,hm]
       constructor
       . rintro (⟨a,b⟩ | a)
         . exact⟨by omega,b⟩
         . have:p=(q:Int):=by simpa using a
           subst this
           exact⟨by omega,hb.mp c⟩
       . rintro ⟨a,b⟩
         by_cases e:p=(q:Int)
         . exact .inr (by simpa using e)
         . exact .inl ⟨by omega,b⟩
   . refine⟨hq,⟨hs,rfl,hp,fun p=>?_⟩,s3.trans s4,s4 _ _ hD3⟩
     rw[hm]
     constructor
     . rintro ⟨a,b⟩;exact⟨by omega,b⟩
     . rintro ⟨a,b⟩
       refine⟨?_,b⟩
       have:p≠(q:Int):=fun z=>by subst z;exact c (hb.mpr b)
       omega
 . obtain⟨_,⟨hs,rfl,hp,hm⟩,s3,hD3⟩:=z
   have hsl:hs.length<=24:=by
    have:=nd_len (n:=n.toNat) (l:=hs) (hp.imp fun z=>by omega) fun x hx=>by have:=((hm x).mp hx).1;omega
    omega
   refine⟨_,rfl,D,rfl,⟨_,SqL.of hD3⟩,[.ref wa,.ref rl,.int v],rfl,fun D2 hD2=>?_⟩
   refine zCI (a:=D) (xs:=hs.map V.int) (fun i ys H5=>i<=hs.length/\(∃(as:List Addr)(es:List En),ys=as.map V.ref/\zDU H5 as es/\es.map (·.h)=hs.take i/\∀e∈es,zHV ts n (rkf rks) v e)/\zAo H3 H5/\H5 D2=some (.lst ys)) ⟨zh _,⟨[],[],rfl,⟨rfl,fun i a z=>by simp at z⟩,rfl,by simp⟩,zG hD2,zI⟩ (fun i ys H5 z=>?_) (fun i ys H5 z=>?_) (fun i x ys H5 hx z=>?_) (fun ys H5 z=>?_)
   . exact SqL.of (z.2.2.1 _ _ hD3)
   . obtain⟨_,⟨as,es,rfl,EA,em,_⟩,_⟩:=z
     have:=congrArg List.length em
     rw[zD,zx] at this
     rw[zD,EA.1]
     exact zAG (by omega)
   . obtain⟨_,⟨as,es,rfl,EA,em,he⟩,s5,hD5⟩:=z
     obtain⟨p,hpi,rfl⟩:∃p,hs[i]? = some p/\V.int p=x:=by
      rw[zN] at hx
      cases e:hs[i]? with
      | none=>rw[e] at hx;cases hx
      | some p=>rw[e] at hx;exact⟨p,rfl,zR hx⟩
     have hpm:=(hm p).mp (zX hpi)
     have s35:=s3.trans s5
     refine⟨⟨rfl,rfl⟩,?_⟩
     refine zE7 ?_
     refine⟨_,rfl,_,rfl,_,rfl,_,rfl,wa,rl,ra,rs,M,rks,n,ts,v,p,rfl,W.keep s35,L.same s35,by omega,by omega,v0,v1,hpm.2,fun a e H6 s6 ha ep he'=>?_⟩
     refine⟨s6 _ _ hD5,(zJ.mp hpi).1,⟨as++[a],es++[e],by rw[zV];rfl,(EA.keep fun b zs z=>?_).snoc ?_,?_,fun x hx'=>?_⟩,zAa (s5.trans s6) hD2,zI⟩
     . rw[zd (zAp z hD5 (by intro y;cases y))];exact s6 _ _ z
     . rw[zd (zAp ha (s6 _ _ hD5) (by intro y;cases y))];exact ha
     . rw[zV,em,zu,hpi,<-ep];rfl
     . rcases zp.mp hx' with z | z
       . exact he x z
       . have:x=e:=by simpa using z
         subst this;exact he'
   . obtain⟨_,⟨as,es,rfl,EA,em,he⟩,s5,hD5⟩:=z
     rw[zD,zf (zK _)] at em
     have hel:es.length<=24:=by have:=congrArg List.length em;rw[zD] at this;omega
     refine⟨D2,_,rfl,.inl ⟨SqL.of hD5,fun l hl=>?_⟩⟩
     refine k l es _ ((s3.trans s5).trans (zG hl)) ⟨as,zI,EA.keep fun b zs z=>zG hl _ _ z,by omega⟩ ⟨?_,he,fun h h0 h1 z=>?_,hel⟩
     . have:=hp
       rw[<-em,zAT] at this
       exact this
     . have:h∈es.map (·.h):=by rw[em];exact (hm h).mpr ⟨by omega,z⟩
       obtain⟨e,e1,e2⟩:=zq.mp this
       exact⟨e,e1,e2⟩
theorem zLK:zo ["web", "order", "rows", "ranks"] ["web", "order"] (defScope zLM):=fS0
variable {fL:Addr}{fdL:FuncData}
theorem ok_byo (F:Fun K "by_order" "by_order" zLM f fd') (FO:FuB K mg "is_order" sOrd fO fdO ["web","thing"]) (GO:zAK P w K mg base CX0 5 fO fdO ["web", "thing"] zK2)
 (FL:FuB K mg "lengths" zH4 fL fdL ["web"]) (GL:zAK P w K mg base CX0 5 fL fdL ["web"] (zHn PT))
 (FB:FuB K mg "label_by_ranks" sLbr fB fdB ["web","rows","ranks","place"]) (GB:zAK P w K mg base CX0 5 fB fdB ["web", "rows", "ranks", "place"] zK4) (mRange:mg "range" = none) (mTuple:mg "tuple" = none) :
 zAK P w K mg base CX0 6 f fd' ["web", "order"] (zHs PT):=by
 refine F.okD zLK fun _ A _ _ H vs Q E hr h=>?_
 obtain⟨wa,p,n,ts,os,rfl,W,hp,O,T,k⟩:=h
 obtain⟨ta,tys,hwa,_,_,G⟩:=id W
 have hn1:=G.n1
 have hn24:=G.n24
 refine⟨_,zQ (zA5 (zB4 (zBt (zAJ GO hr FO (zC (pv 0) (zC (pv 1) zL))))) (zW zIF) zAP)
  (zQ (zCw (i:=2) zLK.nd rfl (Or.inr rfl) (zAJ GL hr FL (zC (pv 0) zL)))
  (zQ (zCw (i:=3) zLK.nd rfl (Or.inr rfl) (zA7 (own:=["place"]) (cn:=["order"]) (ci:=[1]) rfl (csc rfl rfl) ⟨rfl,rfl,rfl,trivial⟩ rfl
   (zAm rfl mRange (zC (zAA zAM (pv 0) zj) zL)) (fun _ _ _ _=>zBx) (fun _ _ _ _=>zBa)
   (fun _ _ _ _=>pe_bmT PySem.F.slot_tuple_index PySem.F.type_tuple_index zIY (pv 1) (zC (pv 0) zL))))
  (zW (zw (zAy zAb mTuple (zC (zA7 (own:=["place"]) (cn:=["web", "rows", "ranks"]) (ci:=[0,2,3]) rfl (csc rfl rfl) ⟨rfl,rfl,rfl,rfl,rfl,rfl,rfl,rfl,rfl,trivial⟩ rfl
   (zAm rfl mRange (zC (zAA zAM (pv 0) zj) zL)) (fun _ _ _ _=>zBx) (fun _ _ _ _=>zBa)
   (fun _ _ _ _=>zAJ GB hr FB (zC (pv 1) (zC (pv 2) (zC (pv 3) (zC (pv 0) zL)))))) zL)))))),?_⟩
 refine⟨_,rfl,_,rfl,wa,p,n,ts,os,rfl,W,hp,O,fun H0 s0=>?_⟩
 refine⟨_,rfl,zCa ?_⟩
 refine⟨_,rfl,wa,n,ts,rfl,W.keep s0,T.same s0,fun rl rs M H1 sm1 T1 hrl RA RR=>?_⟩
 have sm01:SmT H H1:=(SmT.of s0).trans sm1
 have hwa1:H1 wa=some (.tup [.int n,.ref ta]):=sm01.get hwa (by intro ps z;cases z)
 have hp1:H1 p=some (.tup (os.map V.int)):=sm01.get hp (by intro ps z;cases z)
 have W1:zBD H1 wa n ts:=W.smT sm01
 refine⟨_,rfl,wa,_,_,_,rfl,rfl,SqT.of hwa1,rfl,n,rfl,by omega,by omega,[.ref p],rfl,fun D hD=>?_⟩
 refine zBF (lo:=0) (n:=n.toNat) (fun q ys H3=>q<=n.toNat/\(∃rk:List Int,ys=rk.map V.int/\rk.length=q/\∀(j:Nat)(x:Int),rk[j]? = some x->0<=x/\os[x.toNat]? = some (j:Int))/\H3=upd H1 D (.lst ys)) ⟨zh _,⟨[],rfl,rfl,fun j x z=>by simp at z⟩,rfl⟩ (fun q ys H3 z=>?_) (fun q ys H3 hq z=>?_) (fun ys H3 z=>?_)
 . obtain⟨_,⟨rk,rfl,hl,_⟩,_⟩:=z
   rw[zD]
   exact zAG (by omega)
 . obtain⟨_,⟨rk,rfl,hl,hrk⟩,rfl⟩:=z
   rw[zAf]
   obtain⟨i,hi,ei⟩:=zv (O.mem (p:=(q:Int)) (by omega) (by omega))
   have hoi:os[i]? = some (q:Int):=by rw[zB hi,ei]
   have hp3:=zG (o:=.lst (rk.map V.int)) hD _ _ hp1
   refine⟨⟨rfl,rfl⟩,?_⟩
   refine zE7 ?_
   refine⟨_,rfl,⟨p,_,rfl,hp3⟩,_,rfl,p,os,i,q,rfl,rfl,SqT.of hp3,hoi,fun j hj e=>?_,zI,hq,⟨rk++[(i:Int)],by rw[zV];rfl,by rw[zP,hl];rfl,fun j x hx=>?_⟩,zBZ⟩
   . obtain⟨hj',ej⟩:=zJ.mp e
     exact zAd.mp (List.nodup_iff_pairwise_ne.mp O.nd) j i hj' hi hj (by rw[ej,ei])
   . by_cases c:j<rk.length
     . rw[zZ c] at hx
       exact hrk j x hx
     . have hj:j=q:=by
        have:=(zJ.mp hx).1
        rw[zP] at this
        simp at this;omega
       subst hj
       rw[zT (by omega),hl,Nat.sub_self] at hx
       have:(i:Int)=x:=by simpa using hx
       subst this
       exact⟨by omega,hoi⟩
 . obtain⟨_,⟨rk,rfl,hl,hrk⟩,rfl⟩:=z
   have sD:zAo H1 (upd H1 D (.lst (rk.map V.int))):=zG hD
   have hDr:(upd H1 D (.lst (rk.map V.int))) D=some (.lst (rk.map V.int)):=zI
   generalize upd H1 D (.lst (rk.map V.int))=H4 at sD hDr ⊢
   have L:zJG H4 rl D rs M rk n ts:=⟨sD _ _ hrl,RA.same sD,RR,hDr,hl,G⟩
   have W4:=W1.keep sD
   refine⟨_,rfl,wa,_,_,_,rfl,rfl,SqT.of (sD _ _ hwa1),rfl,n,rfl,by omega,by omega,[.ref wa,.ref rl,.ref D],rfl,fun D2 hD2=>?_⟩
   refine zBF (lo:=0) (n:=n.toNat) (fun q ys H5=>q<=n.toNat/\(∃(as:List Addr)(ess:List (List En)),ys=as.map V.ref/\as.length=q/\ess.length=q/\(∀(i:Nat)(a:Addr),as[i]? = some a->∃es,ess[i]? = some es/\zBv H5 a es)/\∀(i:Nat)(es:List En),ess[i]? = some es->zDM ts n (rkf rk) i es)/\zAo H4 H5/\H5 D2=some (.lst ys)) ⟨zh _,⟨[],[],rfl,rfl,rfl,fun i a z=>by simp at z,fun i a z=>by simp at z⟩,zG hD2,zI⟩ (fun q ys H5 z=>?_) (fun q ys H5 hq z=>?_) (fun ys H5 z=>?_)
   . obtain⟨_,⟨as,ess,rfl,h1,_⟩,_⟩:=z
     rw[zD]
     exact zAG (by omega)
   . obtain⟨_,⟨as,ess,rfl,h1,h2,h3,h4⟩,s5,hD5⟩:=z
     rw[zAf]
     refine⟨⟨rfl,rfl⟩,?_⟩
     refine zE7 ?_
     refine⟨_,rfl,_,rfl,_,rfl,_,rfl,wa,rl,D,rs,M,rk,n,ts,q,rfl,W4.keep s5,L.same s5,by omega,by omega,fun a es H6 s6 la lo=>?_⟩
     refine⟨s6 _ _ hD5,hq,⟨as++[a],ess++[es],by rw[zV];rfl,by rw[zP,h1];rfl,by rw[zP,h2];rfl,fun i b hb=>?_,fun i es' he=>?_⟩,zAa (s5.trans s6) hD2,zI⟩
     . have keep:∀c zs,H6 c=some (.tup zs)->(upd H6 D2 (.lst (as.map V.ref++[.ref a]))) c=some (.tup zs):=fun c zs z=>by rw[zd (zAp z (s6 _ _ hD5) (by intro y;cases y))];exact z
       by_cases c:i<as.length
       . rw[zZ c] at hb
         obtain⟨es',e1,e2⟩:=h3 i b hb
         exact⟨es',by rw[zZ (by omega)];exact e1,(e2.same s6).keep keep⟩
       . have hi:i=q:=by
          have:=(zJ.mp hb).1
          rw[zP] at this
          simp at this;omega
         subst hi
         rw[zT (by omega),h1,Nat.sub_self] at hb
         have:a=b:=by simpa using hb
         subst this
         exact⟨es,by rw[zT (by omega),h2,Nat.sub_self];rfl,la.keep keep⟩
     . by_cases c:i<ess.length
       . rw[zZ c] at he
         exact h4 i es' he
       . have hi:i=q:=by
          have:=(zJ.mp he).1
          rw[zP] at this
          simp at this;omega
         subst hi
         rw[zT (by omega),h2,Nat.sub_self] at he
         have:es=es':=by simpa using he
         subst this
         exact lo
   . obtain⟨_,⟨as,ess,rfl,h1,h2,h3,h4⟩,s5,hD5⟩:=z
     refine⟨D2,_,rfl,.inl ⟨SqL.of hD5,fun l hl'=>?_⟩⟩
     have s6:zAo H1 (upd H5 l (.tup (as.map V.ref))):=(sD.trans s5).trans (zG hl')
     refine k l ess (rkf rk) _ (sm01.trans (SmT.of s6)) (T1.same s6) ⟨as,zI,by omega,fun i a ha=>?_⟩ (fun p h0 h1'=>?_) ⟨h2,h4⟩ ?bound
     case bound=>
      intro es hes e he
      obtain⟨i,hi,ei⟩:=zv hes
      have EO:=(h4 i es (by rw[zB hi,ei])).ent e he
      exact zH9 RR (by omega) (by omega) EO.rng.1 EO.rng.2 EO.len
     . obtain⟨es,e1,e2⟩:=h3 i a ha
       exact⟨es,e1,e2.same (zG hl')⟩
     . have hlt:p.toNat<rk.length:=by omega
       have e:rk[p.toNat]? = some (rkf rk p):=by
        unfold rkf
        rw[zE,zB hlt];rfl
       obtain⟨a,b⟩:=hrk _ _ e
       exact⟨a,by rw[b,Int.toNat_of_nonneg h0]⟩
theorem zGs.uniq {P:Int->Prop}:∀{a b:Option Int},zGs P a->zGs P b->a=b
 | none,none,_,_=>rfl
 | none,some m,h,h'=>absurd h'.1 (h m)
 | some m,none,h,h'=>absurd h.1 (h' m)
 | some m,some k,h,h'=>congrArg some (Int.le_antisymm (h.2 k h'.1) (h'.2 m h.1))
theorem zHV.uniq {ts:List T3}{n v:Int}{rk:Int->Int}{e e':En}(x:zHV ts n rk v e)(y:zHV ts n rk v e')(h:e.h=e'.h):e=e':=by
 obtain⟨h1,l1,u1,d1⟩:=e
 obtain⟨h2,l2,u2,d2⟩:=e'
 have hh:h1=h2:=h
 subst hh
 have e1:l1=l2:=WM.IsD.uniq x.len y.len
 have e2:u1=u2:=zGs.uniq x.up y.up
 have e3:d1=d2:=zGs.uniq x.dn y.dn
 rw[e1,e2,e3]
theorem zIC:∀{a b:List En},Hub a->Hub b->(∀e,e∈a↔e∈b)->a=b
 | [],[],_,_,_=>rfl
 | [],y::b,_,_,h=>absurd ((h y).mpr za) (by simp)
 | x::a,[],_,_,h=>absurd ((h x).mp za) (by simp)
 | x::a,y::b,ha,hb,h=>by
  obtain⟨hx,ha'⟩:=zAX.mp ha
  obtain⟨hy,hb'⟩:=zAX.mp hb
  have exy:x=y:=by
   rcases zc.mp ((h x).mp za) with e | m
   . exact e
   . rcases zc.mp ((h y).mpr za) with e | m'
     . exact e.symm
     . have:=hy x m
       have:=hx y m'
       omega
  subst exy
  rw[zIC ha' hb' fun e=>⟨fun m=>?_,fun m=>?_⟩]
  . rcases zc.mp ((h e).mp (zi _ m)) with z | z
    . subst z
      exact absurd (hx e m) (by omega)
    . exact z
  . rcases zc.mp ((h e).mpr (zi _ m)) with z | z
    . subst z
      exact absurd (hy e m) (by omega)
    . exact z
theorem zDM.uniq {ts:List T3}{n v:Int}{rk:Int->Int}{es es':List En}(x:zDM ts n rk v es)(y:zDM ts n rk v es'):es=es':=by
 refine zIC x.hub y.hub fun e=>⟨fun m=>?_,fun m=>?_⟩
 . have E:=x.ent e m
   obtain⟨e',m',h'⟩:=y.all e.h E.rng.1 E.rng.2 E.hub
   rw[E.uniq (y.ent e' m') h'.symm]
   exact m'
 . have E:=y.ent e m
   obtain⟨e',m',h'⟩:=x.all e.h E.rng.1 E.rng.2 E.hub
   rw[E.uniq (x.ent e' m') h'.symm]
   exact m'
theorem zKI.eq {rk':Int->Int}(nd:os.Nodup)(a:zKI n os rk)(b:zKI n os rk'){p:Int}(h0:0<=p)(h1:p<n):rk p=rk' p:=by
 obtain⟨a0,a1⟩:=a p h0 h1
 obtain⟨b0,b1⟩:=b p h0 h1
 obtain⟨i1,e1⟩:=zJ.mp a1
 obtain⟨i2,e2⟩:=zJ.mp b1
 have:=(List.getElem_inj nd).mp (e1.trans e2.symm)
 omega
theorem zCJ.uniq {ts:List T3}{n:Int}{os:List Int}{rk rk':Int->Int}{ess ess':List (List En)}(G:GW n ts)(nd:os.Nodup)(a:zKI n os rk)(b:zKI n os rk')(x:zCJ ts n rk ess)(y:zCJ ts n rk' ess'):ess=ess':=by
 apply List.ext_getElem (x.1.trans y.1.symm)
 intro i h1 h2
 exact (x.2 i _ (zB h1)).uniq ((y.2 i _ (zB h2)).congr G fun p p0 p1=>b.eq nd a p0 p1)
structure zJH (ts:List T3)(n:Int)(ess:List (List En)):Prop where
 ln:ess.length=n.toNat
 lg:∀(i:Nat)(es:List En),ess[i]? = some es->LG ts n i es
 cov:∀(i j:Nat)(es fs:List En),ess[i]? = some es->ess[j]? = some fs->CovP ts i j es fs
theorem zGs.some_of {P:Int->Prop}(h:zGs P o){p:Int}(hp:P p):∃m,o=some m/\P m:=by
 cases o with
 | none=>exact absurd hp (h p)
 | some m=>exact⟨m,rfl,h.1⟩
theorem zDM.lg (G:GW n ts)(L:zDM ts n rk v es)(v0:0<=v)(v1:v<n):LG ts n v es:=by
 refine⟨L.hub,fun e he=>?_,?_⟩
 . have E:=L.ent e he
   refine⟨E.rng,E.len,fun hne=>?_,fun hne=>?_⟩
   . obtain⟨p,hp⟩:=Nxt.exists G E.len (Ne.symm hne)
     exact E.up.some_of hp
   . obtain⟨p,hp⟩:=Nxt.exists G E.len.symm hne
     exact E.dn.some_of hp
 . refine L.all v v0 v1 ⟨⟨0,zCM G v⟩,fun p hp=>?_⟩
   obtain⟨a,b,ia,ib,iab⟩:=hp
   have e0:a+b=0:=iab.uniq (zCM G v)
   have:=ia.1.nn G
   have:=ib.1.nn G
   have:a=0:=by omega
   rw[<-(zCi G ia).mp this]
   exact Int.le_refl _
variable {ess:List (List En)}
theorem zCJ.good (G:GW n ts)(R:zKI n os rk)(L:zCJ ts n rk ess):zJH ts n ess:=by
 have hln:=L.1
 have inr:∀(i:Nat)(es:List En),ess[i]? = some es->(0:Int)<=i/\(i:Int)<n:=fun i es h=>by
  have:=(zJ.mp h).1
  omega
 refine⟨L.1,fun i es h=>(L.2 i es h).lg G (inr i es h).1 (inr i es h).2,fun i j es fs hi hj d hd=>?_⟩
 obtain⟨p,hp,hmin⟩:=zKg (P:=Btw ts i j) rk (rk (i:Int)).toNat i (Btw.self G hd) (zK _)
 have i01:=inr i es hi
 obtain⟨a,b,ia,ib,iab⟩:=id hp
 have prng:=ia.1.in_ G i01.1 i01.2
 have le:∀q,Btw ts i j q->rk p<=rk q:=fun q hq=>by
  obtain⟨a',b',ia',_⟩:=id hq
  have qr:=ia'.1.in_ G i01.1 i01.2
  have h1:=hmin q hq
  have h2:=(R p prng.1 prng.2).1
  have h3:=(R q qr.1 qr.2).1
  omega
 refine⟨p,hp,(L.2 i es hi).all p prng.1 prng.2 ⟨⟨a,ia.symm⟩,fun q hq=>le q (hp.trans hq.symm)⟩,(L.2 j fs hj).all p prng.1 prng.2 ⟨⟨b,ib⟩,fun q hq=>le q (hp.symm.trans hq.symm).symm⟩⟩
theorem zFd:∀(l:List Int)(k:Nat),(l.map V.int).eraseIdx k=(l.eraseIdx k).map V.int
 | [],_=>rfl
 | _::_,0=>rfl
 | x::r,k+1=>by
  show V.int x::(r.map V.int).eraseIdx k=V.int x::(r.eraseIdx k).map V.int
  rw[zFd r k]
theorem zEd:∀{l:List Int}{k:Nat}(h:k<l.length),(l[k]::l.eraseIdx k).Perm l
 | [],_,h=>absurd h (Nat.not_lt_zero _)
 | _::_,0,_=>List.Perm.refl _
 | x::r,k+1,h=>by
  have hk:k<r.length:=by simpa using h
  show (r[k]::x::r.eraseIdx k).Perm (x::r)
  exact (List.Perm.swap x r[k] _).trans ((zEd hk).cons x)
noncomputable def zHl:Sp:=fun vs H Q _=>∃(t:Addr)(N:Nat)(n:Int),vs=[.ref t,.int n]/\zAr H t N/\N<900000/\1<=n/\n<=24 /\
 ∀(l:Addr)(os:List Int)(H':Hp),H' l=some (.tup (os.map V.int))->zKq n os->zAr H' t (N+24)->Sm t H H'->Q (.ref l) H'
theorem zEn:zo ["_law_tape_here", "_law_n", "_law_left", "_law_found", "_law_k"] ["_law_tape_here", "_law_n"] (defScope zGQ):=fS0
theorem zJt (F:Fun K "_law_order" "_law_order" zGQ f fd') (FD:FuB K mg "_law_draw" zFJ fD fdD ["_law_tape_here","_law_many"])
 (mLen:mg "len" = none) (mRange:mg "range" = none) (mTuple:mg "tuple" = none) (mList:mg "list" = none):zAK P w K mg base CX0 2 f fd' ["_law_tape_here", "_law_n"] zHl:=by
 have GD:zAK P w K mg base CX0 1 fD fdD ["_law_tape_here", "_law_many"] zHr:=zGb FD.F mLen
 refine F.okD zEn fun _ A _ _ H vs Q E hr h=>?_
 obtain⟨t,N,n,rfl,TT,hN,hn1,hn24,k⟩:=h
 obtain⟨tp,TP⟩:=TT
 refine⟨_,zQ (zBB (i:=2) zEn.nd (zIK rfl rfl mList rfl mRange (zC (pv 1) zL)))
  (zQ (zBB (i:=3) zEn.nd (zCX zL))
  (zQ (zBb PassesOwn.never rfl (zAm rfl mRange (zC (pv 1) zL)) (zAI (i:=4) zEn.nd rfl (Or.inl rfl))
   (zW (zCL (zG7 PySem.F.plainAttrs_list PySem.F.slot_list_append PySem.F.type_list_append zCZ (pv 3)
    (zC (zG7 PySem.F.plainAttrs_list PySem.F.slot_list_pop PySem.F.type_list_pop zJx (pv 2)
     (zC (zAJ GD hr FD (zC (pv 0) (zC (zAL zA3 mLen (zC (pv 2) zL)) zL))) zL)) zL)))))
  (zW (zw (zAy zAb mTuple (zC (pv 3) zL)))))),?_⟩
 refine⟨_,rfl,n,rfl,by omega,by omega,fun lf hlf=>?_⟩
 obtain⟨ns0,sp0,re0,ht0,hp0,_⟩:=id TP
 have nlt:lf≠t:=(zl ht0 hlf).symm
 have nlp:lf≠tp:=(zl hp0 hlf).symm
 refine⟨zh _,fun D hD=>?_⟩
 have nDl:D≠lf:=fun z=>by rw[z,zI] at hD;cases hD
 have hD0:H D=none:=by rw[zd nDl] at hD;exact hD
 have nDt:D≠t:=(zl ht0 hD0).symm
 have nDp:D≠tp:=(zl hp0 hD0).symm
 refine⟨_,rfl,n,rfl,by omega,by omega,zBm (lo:=0) (n:=n.toNat) (fun q σ H2=>∃(v4:Option V)(row left:List Int),σ=[some (.ref t),some (.int n),some (.ref lf),some (.ref D),v4]/\row.length=q/\(row++left).Perm (lowTo n.toNat)/\H2 lf=some (.lst (left.map V.int))/\H2 D=some (.lst (row.map V.int))/\zGF H2 t tp (N+q)/\Sm t H H2)
  ⟨none,[],lowTo n.toNat,rfl,rfl,List.Perm.refl _,by rw[zd nDl.symm,zI],zI,TP.keepF (fun o e=>by rw[zd nDt.symm,zd nlt.symm];exact e) (fun o e=>by rw[zd nDp.symm,zd nlp.symm];exact e) (by omega),(Sm.laid hlf).chg hD0⟩ ?turn ?after⟩
 case after=>
  rintro σ H2 ⟨v4,row,left,rfl,hl,hp,hlf2,hD2,TP2,s2⟩
  have hleft:left=[]:=by
   have:=hp.length_eq
   rw[zP,zCN,hl] at this
   exact List.length_eq_zero_iff.mp (by omega)
  subst hleft
  rw[zt] at hp
  have nd:row.Nodup:=hp.nodup_iff.mpr ((zDs _).imp fun h=>by omega)
  refine⟨_,rfl,D,_,rfl,.inl ⟨SqL.of hD2,fun l hl'=>?_⟩⟩
  refine k l row _ zI ⟨hl,nd,fun p hp'=>?_⟩ (zAr.mono (zAr.laid ⟨tp,TP2⟩ hl') (by omega)) (s2.trans (Sm.laid hl'))
  have:=zCz.mp (hp.mem_iff.mp hp')
  omega
 case turn=>
  rintro q σ H2 hq ⟨v4,row,left,rfl,hl,hp,hlf2,hD2,TP2,s2⟩
  have hll:row.length+left.length=n.toNat:=by
   have:=hp.length_eq
   rw[zP,zCN] at this
   exact this
  refine⟨_,rfl,.inl ⟨rfl,_,SqL.of hD2⟩,_,rfl,.inl ⟨rfl,_,SqL.of hlf2⟩,?_⟩
  refine⟨_,rfl,_,rfl,lf,_,rfl,.inl (SqL.of hlf2),t,tp,N+q,_,rfl,TP2,by omega,by rw[zD];omega,by rw[zD];omega,fun rr H3 h0 h1 TP3 e3=>?_⟩
  rw[zD] at h1
  have hlt:rr.toNat<left.length:=by omega
  refine⟨lf,left.map V.int,rr,rr.toNat,.int left[rr.toNat],rfl,rfl,by rw[e3 lf nlt];exact hlf2,by omega,by omega,PySem.StrLaws.seqIndex_nonneg h0 (by rw[zD];omega),by rw[zN,zB hlt];rfl,?_⟩
  rw[zFd left rr.toNat]
  have s3:Sm t H H3:=fun b o nb e=>by rw[e3 b nb];exact s2 b o nb e
  have hlf0:H lf=none:=hlf
  refine⟨D,_,_,rfl,rfl,by rw[zd nDl,e3 D nDt];exact hD2,by rw[zD];exact zAG (by omega),?_⟩
  refine⟨_,row++[left[rr.toNat]],left.eraseIdx rr.toNat,rfl,by rw[zP,hl];rfl,?_,by rw[zd nDl.symm,zI],by rw[zV];exact zI,TP3.keepF (fun o e=>by rw[zd nDt.symm,zd nlt.symm];exact e) (fun o e=>by rw[zd nDp.symm,zd nlp.symm];exact e) (by omega),(s3.chg hlf0).chg hD0⟩
  refine List.Perm.trans ?_ hp
  rw[List.append_assoc]
  exact (zEd hlt).append_left row
theorem zB8 (a:Int):decide (oV (some a)=V.non)=false:=zY (by intro z;cases z)
noncomputable def spAdd:Sp:=fun vs H Q _=>∃a b:Option Int,vs=[oV a,oV b]/\Q (oV (oadd a b)) H
noncomputable def spLes:Sp:=fun vs H Q _=>∃a b:Option Int,vs=[oV a,oV b]/\Q (oV (oles a b)) H
noncomputable def zCf (H:Hp)(rs:List Addr)(M:lLO):Prop:=rs.length=M.length/\rs.Nodup/\∀(i:Nat)(r:Addr)(row:List (Option Int)),rs[i]? = some r->M[i]? = some row->H r=some (.lst (row.map oV))
theorem zCf.keep {M:lLO}(h:zCf H rs M)(k:∀b ys,H b=some (.lst ys)->b∈rs->H' b=some (.lst ys)):zCf H' rs M:=⟨h.1,h.2.1,fun i r row a b=>k r _ (h.2.2 i r row a b) (zX a)⟩
theorem zCf.get {M:lLO}(h:zCf H rs M)(S:Sqm n M)(ha:0<=a)(ha':a<n):∃r row,rs[a.toNat]? = some r/\M[a.toNat]? = some row/\M.getD a.toNat []=row/\row.length=n.toNat/\H r=some (.lst (row.map oV))/\∀y,fnl row y=mat M a y:=by
 obtain⟨row,h1,h2,h3⟩:=S.row ha ha'
 have hl:a.toNat<rs.length:=by rw[h.1,S.ln];omega
 exact⟨rs[a.toNat],row,zB hl,h1,h2,h3,h.2.2 _ _ _ (zB hl) h1,fun y=>by unfold mat;rw[if_pos ha,h2]⟩
theorem zCf.set {H:Hp}{rs:List Addr}{M:lLO}{n a b:Int}{v:Option Int}{r:Addr}{row:List (Option Int)}(h:zCf H rs M)(S:Sqm n M)(ha:0<=a)(ha':a<n)(h1:rs[a.toNat]? = some r)(h2:M[a.toNat]? = some row) :
 zCf (upd H r (.lst ((row.map oV).set b.toNat (oV v)))) rs (zHY M a b v):=by
 refine⟨by unfold zHY;rw[List.length_set];exact h.1,h.2.1,fun i r' row' a1 a2=>?_⟩
 unfold zHY at a2
 rw[List.getElem?_set] at a2
 have hlt:a.toNat<M.length:=(zJ.mp h2).1
 by_cases e:a.toNat=i
 . subst e
   rw[if_pos rfl,if_pos hlt] at a2
   rw[h1] at a1
   cases a1
   cases a2
   rw[zI,zE,h2,Option.getD_some,List.map_set]
 . rw[if_neg e] at a2
   have hne:r'≠r:=fun z=>by
    subst z
    exact e ((List.getElem?_inj ((zJ.mp h1).1) h.2.1).mp (h1.trans a1.symm))
   rw[zd hne]
   exact h.2.2 i r' row' a1 a2
theorem zGR {row:List (Option Int)}(hl:row.length=n.toNat)(h0:0<=y)(h1:y<n):atI (row.map oV) y=some (oV (fnl row y)):=by
 have hlt:y.toNat<row.length:=by omega
 refine zAn h0 ?_
 rw[zN,zB hlt]
 unfold fnl
 rw[if_pos h0,zE,zB hlt];rfl
noncomputable def zIA (a:Int)(j:Nat):List (Option Int):=(List.range j).map fun (b:Nat)=>if a=(b:Int) then some 0 else none
theorem zFK (a:Int)(j:Nat):zIA a (j+1)=zIA a j++[if a=(j:Int) then some 0 else none]:=by unfold zIA;rw[List.range_succ,zV];rfl
theorem zGS (a:Int)(j:Nat):(zIA a j).length=j:=by unfold zIA;rw[zD,zAu]
theorem zJd {j:Nat}(h0:0<=y)(h1:y<j):fnl (zIA a j) y=if a=y then some 0 else none:=by
 unfold fnl zIA
 rw[if_pos h0,zE,zN,List.getElem?_range (by omega)]
 show (if a=((y.toNat:Nat):Int) then some 0 else none)=_
 rw[show ((y.toNat:Nat):Int)=y by omega]
noncomputable def spFar:Sp:=fun vs H Q _=>∃(wa:Addr)(n:Int)(ts:List T3),vs=[.ref wa]/\zBD H wa n ts /\
 ∀(fl:Addr)(rs:List Addr)(M:lLO)(H':Hp),zAo H H'->H' fl=some (.lst (rs.map V.ref))->zCf H' rs M->Rows ts n M->Q (.ref fl) H'
theorem scAdd:zo ["_law_one", "_law_other"] ["_law_one", "_law_other"] (defScope sAdd):=fS0
theorem ok_add (F:Fun K "_law_added" "_law_added" sAdd f fd'):zAK P w K mg base CX0 1 f fd' ["_law_one", "_law_other"] spAdd:=by
 refine F.okD scAdd fun _ A _ _ H vs Q E hr h=>?_
 obtain⟨a,b,rfl,k⟩:=h
 refine⟨_,zW (zw (zDW (PW.pt (zCv (zy zBk (pv 0) zAh (zAC _)) (zCG (zy zBk (pv 1) zAh (zAC _))))) zAh (zA6 zB6 (pv 0) (pv 1)))),?_⟩
 cases a with
 | none=>exact⟨_,rfl,rfl,_,rfl,ifT (zO rfl) (ifT rfl k)⟩
 | some a=>
  refine⟨_,rfl,rfl,_,rfl,ifF (zB8 a) ?_⟩
  cases b with
  | none=>exact⟨_,rfl,rfl,_,rfl,ifT (zO rfl) k⟩
  | some b=>exact⟨_,rfl,rfl,_,rfl,ifF (zB8 b) ⟨_,rfl,_,rfl,a,b,rfl,rfl,k⟩⟩
theorem scLes:zo ["_law_one", "_law_other"] ["_law_one", "_law_other"] (defScope sLes):=fS0
theorem ok_les (F:Fun K "_law_lesser" "_law_lesser" sLes f fd') (mMin:mg "min" = none):zAK P w K mg base CX0 1 f fd' ["_law_one", "_law_other"] spLes:=by
 refine F.okD scLes fun _ A _ _ H vs Q E hr h=>?_
 obtain⟨a,b,rfl,k⟩:=h
 refine⟨_,zQ (zA5 (PW.pt (zCv (zy zBk (pv 0) zAh (zAC _)) (zCG (zy zBk (pv 1) zAh (zAC _))))) (zW (zw (zDW (zy zBk (pv 0) zAh (zAC _)) (pv 1) (pv 0)))) zAP)
  (zW (zw (zAL (zD5 rfl) mMin (zC (pv 0) (zC (pv 1) zL))))),?_⟩
 cases a with
 | none=>exact⟨_,rfl,rfl,_,rfl,ifT (zO rfl) (ifT rfl ⟨_,rfl,rfl,_,rfl,ifT (zO rfl) ⟨_,rfl,k⟩⟩)⟩
 | some a=>
  refine⟨_,rfl,rfl,_,rfl,ifF (zB8 a) ?_⟩
  cases b with
  | none=>exact⟨_,rfl,rfl,_,rfl,ifT (zO rfl) ⟨_,rfl,rfl,_,rfl,ifF (zB8 a) ⟨_,rfl,k⟩⟩⟩
  | some b=>exact⟨_,rfl,rfl,_,rfl,ifF (zB8 b) ⟨_,rfl,_,rfl,a,b,rfl,k⟩⟩
theorem zDf:zo ["_law_web_here", "_law_n", "_law_ties", "_law_far_here", "_law_a", "_law_b", "_law_long", "_law_k", "_law_way"] ["_law_web_here"] (defScope sFar):=fS0
variable {fA:Addr}{fdA:FuncData}
theorem ok_far (F:Fun K "_law_far" "_law_far" sFar f fd') (FA:FuB K mg "_law_added" sAdd fA fdA ["_law_one","_law_other"])
 (FL:FuB K mg "_law_lesser" sLes fL fdL ["_law_one","_law_other"]) (mRange:mg "range" = none) (mMin:mg "min" = none):zAK P w K mg base CX0 2 f fd' ["_law_web_here"] spFar:=by
 have GA:zAK P w K mg base CX0 1 fA fdA ["_law_one", "_law_other"] spAdd:=ok_add FA.F
 have GL:zAK P w K mg base CX0 1 fL fdL ["_law_one", "_law_other"] spLes:=ok_les FL.F mMin
 refine F.okD zDf fun _ A _ _ H vs Q E hr h=>?_
 obtain⟨wa,n,ts,rfl,W,k⟩:=h
 obtain⟨ta,tys,hwa,hta,TA,G⟩:=id W
 have hn1:=G.n1
 have hn24:=G.n24
 refine⟨_,zQ (zDO (pv 0) (zCC rfl (zAE (zAI (i:=1) zDf.nd rfl (Or.inr rfl)) (zAE (zAI (i:=2) zDf.nd rfl (Or.inl rfl)) zBc))))
  (zQ (zJi (yc := "_law_a") (i:=3) (own:=["_law_a"]) (cn:=["_law_n"]) (ci:=[1]) zDf.nd rfl (Or.inl rfl) rfl (csc1 rfl (fun _ _=>rfl) rfl rfl) ⟨rfl,rfl,rfl,trivial⟩ rfl
   (zAm rfl mRange (zC (pv 1) zL)) (fun _ _ _ _=>zAI (i:=0) (zDT rfl) rfl (Or.inr rfl)) (fun _ _ _ _=>zBa)
   (fun _ _ _ _=>zA7 (own:=["_law_b"]) (cn:=["_law_a"]) (ci:=[0]) rfl (csc rfl rfl) ⟨rfl,rfl,rfl,trivial⟩ rfl
    (zAm rfl mRange (zC (pv 1) zL)) (fun _ _ _ _=>zBx) (fun _ _ _ _=>zBa)
    (fun _ _ _ _=>zDW (zy zCD (pv 1) (pv 0) (zAC _)) zj zAh)))
  (zQ (zBb PassesOwn.never rfl (zB5 (pv 2)) (zCC rfl (zAE (zAI (i:=4) zDf.nd rfl (Or.inl rfl)) (zAE (zAI (i:=5) zDf.nd rfl (Or.inl rfl)) (zAE (zAI (i:=6) zDf.nd rfl (Or.inl rfl)) zBc))))
   (zQ (zDO (pv 6) (zDh (zAA zAg (pv 3) (pv 4)) (pv 5) zCK))
   (zW (zDO (pv 6) (zDh (zAA zAg (pv 3) (pv 5)) (pv 4) zCK)))))
  (zQ (zBb PassesOwn.never rfl (zAm rfl mRange (zC (pv 1) zL)) (zAI (i:=7) zDf.nd rfl (Or.inl rfl))
   (zW (zBb PassesOwn.never rfl (zAm rfl mRange (zC (pv 1) zL)) (zAI (i:=4) zDf.nd rfl (Or.inl rfl))
    (zW (zBb PassesOwn.never rfl (zAm rfl mRange (zC (pv 1) zL)) (zAI (i:=5) zDf.nd rfl (Or.inl rfl))
     (zQ (zBB (i:=8) zDf.nd (zAJ GA hr FA (zC (zAA zAg (zAA zAg (pv 3) (pv 4)) (pv 7)) (zC (zAA zAg (zAA zAg (pv 3) (pv 7)) (pv 5)) zL))))
     (zW (zDO (zAJ GL hr FL (zC (zAA zAg (zAA zAg (pv 3) (pv 4)) (pv 5)) (zC (pv 8) zL))) (zDh (zAA zAg (pv 3) (pv 4)) (pv 5) zCK)))))))))
  (zW (zw (pv 3)))))),?_⟩
 refine⟨_,rfl,wa,_,rfl,SqT.of hwa,rfl,_,_,rfl,_,_,rfl,rfl,?_⟩
 refine⟨_,rfl,n,rfl,by omega,by omega,[.int n],rfl,fun D hD=>?_⟩
 refine zBF (lo:=0) (n:=n.toNat) (fun q ys H1=>q<=n.toNat/\∃(rs:List Addr)(M:lLO),ys=rs.map V.ref/\rs.length=q/\zCf H1 rs M/\(∀x:Nat,x<q->M[x]? = some (zIA x n.toNat))/\(∀r∈rs,H r=none/\r≠D)/\zAo H H1/\H1 D=some (.lst ys))
  ⟨zh _,[],[],rfl,rfl,⟨rfl,List.nodup_nil,fun i r row h=>by simp at h⟩,fun x hx=>absurd hx (Nat.not_lt_zero _),fun r h=>by simp at h,zG hD,zI⟩ (fun q ys H1 h=>?_) (fun q ys H1 hq h=>?_) (fun ys H1 h=>?_)
 . obtain⟨hq,rs,M,rfl,hl,_⟩:=h
   rw[zD,hl]
   exact zAG (by omega)
 . obtain⟨_,rs,M,rfl,hl,R,L,fr,sm,hD1⟩:=h
   rw[zAf]
   refine⟨⟨rfl,rfl⟩,?_⟩
   refine zE7 ?_
   refine⟨_,rfl,n,rfl,by omega,by omega,[.int q],rfl,fun D2 hD2=>?_⟩
   have nD2:D2≠D:=fun z=>by rw[z,hD1] at hD2;cases hD2
   refine zBF (lo:=0) (n:=n.toNat) (fun j ys H2=>j<=n.toNat/\ys=(zIA q j).map oV/\zAo H1 H2/\H2 D2=some (.lst ys))
    ⟨zh _,rfl,zG hD2,zI⟩ (fun j ys H2 h=>?_) (fun j ys H2 hj h=>?_) (fun ys H2 h=>?_)
   . obtain⟨hj,rfl,_⟩:=h
     rw[zD,zGS]
     exact zAG (by omega)
   . obtain⟨_,rfl,s2,h2⟩:=h
     rw[zAf]
     refine⟨⟨rfl,rfl⟩,?_⟩
     refine zE7 ?_
     refine⟨_,rfl,_,rfl,rfl,_,rfl,?_⟩
     by_cases e:(q:Int)=(j:Int)
     . refine ifT (zO (congrArg V.int e)) ?_
       refine⟨h2,hj,?_,zAa s2 hD2,zI⟩
       rw[zFK,if_pos e,zV];rfl
     . refine ifF (zY fun z=>e (V.int.inj z)) ?_
       refine⟨h2,hj,?_,zAa s2 hD2,zI⟩
       rw[zFK,if_neg e,zV];rfl
   . obtain⟨_,rfl,s2,h2⟩:=h
     have hD22:H2 D=some (.lst (rs.map V.ref)):=s2 _ _ hD1
     have frD2:H D2=none:=by
      cases z:H D2 with
      | none=>rfl
      | some o=>rw[sm _ _ z] at hD2;cases hD2
     have nin:D2∉rs:=fun z=>by
      obtain⟨i,hi,e⟩:=zv z
      have hM:i<M.length:=by rw[<-R.1];exact hi
      have:=R.2.2 i D2 M[i] (by rw[zB hi,e]) (zB hM)
      rw[hD2] at this;cases this
     refine⟨hD22,hq,rs++[D2],M++[zIA q n.toNat],by rw[zV];rfl,by rw[zP,hl];rfl,⟨by rw[zP,zP,R.1];rfl,?_,fun i r row h1 h3=>?_⟩,fun x hx=>?_,fun r hr'=>?_,zAa (sm.trans s2) hD,zI⟩
     . exact List.nodup_append.mpr ⟨R.2.1,by simp,fun a ha b hb=>by
        have e:b=D2:=by simpa using hb
        rw[e];exact fun z=>nin (z ▸ ha)⟩
     . have key:H2 r=some (.lst (row.map oV))/\r≠D:=by
        by_cases hi:i<rs.length
        . rw[zZ hi] at h1
          rw[zZ (by rw[<-R.1];exact hi)] at h3
          exact⟨s2 _ _ (R.2.2 i r row h1 h3),(fr r (zX h1)).2⟩
        . rw[zT (by omega)] at h1
          rw[zT (by rw[<-R.1];omega),<-R.1] at h3
          cases hz:i-rs.length with
          | zero=>
           rw[hz] at h1 h3
           have e1:D2=r:=by simpa using h1
           have e2:zIA q n.toNat=row:=by simpa using h3
           subst e1 e2
           exact⟨h2,nD2⟩
          | succ k=>rw[hz] at h1;simp at h1
       rw[zd key.2]
       exact key.1
     . by_cases hx':x<q
       . rw[zZ (by rw[<-R.1,hl];exact hx')]
         exact L x hx'
       . have e:x=q:=by omega
         subst e
         rw[zT (by rw[<-R.1,hl];exact zK _),<-R.1,hl]
         simp
     . rcases zp.mp hr' with z | z
       . exact fr r z
       . have e:r=D2:=by simpa using z
         rw[e];exact⟨frD2,nD2⟩
 . obtain⟨_,rs,M,rfl,hl,R,L,fr,sm,hD1⟩:=h
   have hML:M.length=n.toNat:=by rw[<-R.1,hl]
   have S0:Sqm n M:=⟨hML,fun r hr'=>by
    obtain⟨i,hi,e⟩:=zv hr'
    have:=L i (by omega)
    rw[zB hi,e] at this
    rw[zR this,zGS]⟩
   have M0:∀x y,0<=x->x<n->0<=y->y<n->mat M x y=if x=y then some 0 else none:=fun x y hx hx' hy hy'=>by
    unfold mat
    rw[if_pos hx,zE,L x.toNat (by omega),Option.getD_some,zJd hy (by omega),show ((x.toNat:Nat):Int)=x by omega]
   have wr:∀{H2:Hp}{r:Addr}{o:HO},r∈rs->zAo H H2->zAo H (upd H2 r o):=fun {H2 r o} hr' s2=>zAa s2 (fr r hr').1
   have wD:∀{H2:Hp}{r:Addr}{o:HO},r∈rs->H2 D=some (.lst (rs.map V.ref))->(upd H2 r o) D=some (.lst (rs.map V.ref)):=fun {H2 r o} hr' e=>by rw[zd (fr r hr').2.symm];exact e
   refine⟨_,rfl,ta,rfl,⟨_,SqT.of (sm _ _ hta)⟩,zDu (K:=K) (a:=ta) (xs:=tys)
    (fun i σ H2=>∃(v4 v5 v6 v7 v8:Option V)(M:lLO),σ=[some (.ref wa),some (.int n),some (.ref ta),some (.ref D),v4,v5,v6,v7,v8]/\zAo H H2/\H2 D=some (.lst (rs.map V.ref))/\zCf H2 rs M/\Sqm n M/\Ft (ts.take i) n (mat M))
    ⟨_,_,_,_,_,M,rfl,sm,hD1,R,S0,by rw[List.take_zero];exact Ft.nil n M0⟩ (fun i σ H2 _ ⟨_,_,_,_,_,_,_,s,_⟩=>SqT.of (s _ _ hta)) ?turn1 ?after1⟩
   case turn1=>
    rintro i y σ H2 hi ⟨v4,v5,v6,v7,v8,M2,rfl,s2,hD2,R2,S2,T2⟩
    obtain⟨ya,ky,rfl,hky,hya,_⟩:=TA.get hi
    rw[zN] at hky
    obtain⟨⟨a,b,c⟩,hti,rfl⟩:∃t:T3,ts[i]? = some t/\tl t=ky:=by
     cases e:ts[i]? with
     | none=>rw[e] at hky;cases hky
     | some t=>rw[e] at hky;exact⟨t,rfl,zR hky⟩
    have hm:=zX hti
    have hr3:=G.rng _ hm
    simp only at hr3
    obtain⟨ra,rowa,a1,a2,a3,a4,a5,_⟩:=R2.get S2 (a:=a) (by omega) (by omega)
    have ma:=zX a1
    refine⟨ya,_,rfl,SqT.of (s2 _ _ hya),rfl,_,_,rfl,_,_,rfl,_,_,rfl,rfl,?_⟩
    refine⟨_,rfl,_,rfl,_,rfl,D,_,_,.ref ra,rfl,rfl,SqL.of hD2,zAn (by omega) (by rw[zN,a1];rfl),_,rfl,ra,_,b,b.toNat,rfl,rfl,a5,zGf (by omega) (by rw[zD,a4];omega),?_⟩
    have R3:zCf (upd H2 ra (.lst ((rowa.map oV).set b.toNat (.int c)))) rs (zHY M2 a b (some c)):=R2.set S2 (v:=some c) (by omega) (by omega) a1 a2
    have S3:Sqm n (zHY M2 a b (some c)):=S2.set (by omega) (by omega)
    have s3:=wr (o:=.lst ((rowa.map oV).set b.toNat (.int c))) ma s2
    have hD3:=wD (o:=.lst ((rowa.map oV).set b.toNat (.int c))) ma hD2
    generalize upd H2 ra (.lst ((rowa.map oV).set b.toNat (.int c)))=H3 at R3 s3 hD3 ⊢
    obtain⟨rb,rowb,b1,b2,b3,b4,b5,_⟩:=R3.get S3 (a:=b) (by omega) (by omega)
    have mb:=zX b1
    refine⟨_,rfl,_,rfl,_,rfl,D,_,_,.ref rb,rfl,rfl,SqL.of hD3,zAn (show 0<=b by omega) (by rw[zN,b1];rfl),_,rfl,rb,_,a,a.toNat,rfl,rfl,b5,zGf (by omega) (by rw[zD,b4];omega),?_⟩
    have R4:zCf (upd H3 rb (.lst ((rowb.map oV).set a.toNat (.int c)))) rs (zHY (zHY M2 a b (some c)) b a (some c)):=R3.set S3 (v:=some c) (by omega) (by omega) b1 b2
    refine⟨_,_,_,_,_,_,rfl,wr mb s3,wD mb hD3,R4,S3.set (by omega) (by omega),?_⟩
    have hsp:ts=ts.take i++(a,b,c)::ts.drop (i+1):=by
     have hil:=(zJ.mp hti)
     conv=>lhs;rw[<-List.take_append_drop i ts,List.drop_eq_getElem_cons hil.1,hil.2]
    have htk:ts.take (i+1)=ts.take i++[(a,b,c)]:=by rw[zu,hti];rfl
    rw[htk]
    refine (Ft.put (post:=ts.drop (i+1)) (by rw[<-hsp];exact G) T2).congr fun x y hx hx' hy hy'=>?_
    rw[zF4 S3 (by omega) (by omega) (by omega) (by omega) hx hx',zF4 S2 (by omega) (by omega) (by omega) (by omega) hx hx']
   case after1=>
    rintro σ H2 ⟨v4,v5,v6,v7,v8,M2,rfl,s2,hD2,R2,S2,T2⟩
    have hlt:tys.length=ts.length:=by rw[TA.length,zD]
    rw[hlt,List.take_length] at T2
    have FC:=T2.fw G
    refine⟨_,rfl,n,rfl,by omega,by omega,zBm (lo:=0) (n:=n.toNat)
     (fun kk σ H3=>∃(v4 v5 v6 v7 v8:Option V)(M:lLO),σ=[some (.ref wa),some (.int n),some (.ref ta),some (.ref D),v4,v5,v6,v7,v8]/\zAo H H3/\H3 D=some (.lst (rs.map V.ref))/\zCf H3 rs M/\Sqm n M/\Fw ts n (mat M)/\Cov ts n (kk:Int) (mat M))
     ⟨_,_,_,_,_,M2,rfl,s2,hD2,R2,S2,FC.1,FC.2⟩ ?turn2 ?after2⟩
    case after2=>
     rintro σ H3 ⟨v4,v5,v6,v7,v8,M3,rfl,s3,hD3,R3,S3,f3,c3⟩
     rw[show ((n.toNat:Nat):Int)=n by omega] at c3
     exact⟨_,rfl,k D rs M3 H3 s3 hD3 R3 (zLO G S3 f3 c3)⟩
    case turn2=>
     rintro kk σ H3 hkk ⟨v4,v5,v6,v7,v8,M3,rfl,s3,hD3,R3,S3,f3,c3⟩
     rw[zAf]
     refine⟨_,rfl,n,rfl,by omega,by omega,zBm (lo:=0) (n:=n.toNat)
      (fun aa σ H4=>∃(v4 v5 v6 v8:Option V)(M:lLO),σ=[some (.ref wa),some (.int n),some (.ref ta),some (.ref D),v4,v5,v6,some (.int (kk:Int)),v8]/\zAo H H4/\H4 D=some (.lst (rs.map V.ref))/\zCf H4 rs M/\Sqm n M/\Fm ts n (kk:Int) (mat M) (fun x _=>x<(aa:Int)))
      ⟨_,_,_,_,M3,rfl,s3,hD3,R3,S3,(Fm.enter f3 c3).congr (fun _ _ _ _ _ _=>rfl) fun x y hx _ _ _ z=>by omega⟩ ?turn3 ?after3⟩
     case after3=>
      rintro σ H4 ⟨v4,v5,v6,v8,M4,rfl,s4,hD4,R4,S4,F4⟩
      have fc:=F4.leave fun x y _ hx' _ _=>by omega
      exact⟨_,_,_,_,_,M4,rfl,s4,hD4,R4,S4,fc.1,fc.2⟩
     case turn3=>
      rintro aa σ H4 haa ⟨v4,v5,v6,v8,M4,rfl,s4,hD4,R4,S4,F4⟩
      rw[zAf]
      refine⟨_,rfl,n,rfl,by omega,by omega,zBm (lo:=0) (n:=n.toNat)
       (fun bb σ H5=>∃(v5 v6 v8:Option V)(M:lLO),σ=[some (.ref wa),some (.int n),some (.ref ta),some (.ref D),some (.int (aa:Int)),v5,v6,some (.int (kk:Int)),v8]/\zAo H H5/\H5 D=some (.lst (rs.map V.ref))/\zCf H5 rs M/\Sqm n M/\Fm ts n (kk:Int) (mat M) (fun x y=>x<(aa:Int)\/(x=(aa:Int)/\y<(bb:Int))))
       ⟨_,_,_,M4,rfl,s4,hD4,R4,S4,F4.congr (fun _ _ _ _ _ _=>rfl) fun x y _ _ hy _ z=>by omega⟩ ?turn4 ?after4⟩
      case after4=>
       rintro σ H5 ⟨v5,v6,v8,M5,rfl,s5,hD5,R5,S5,F5⟩
       exact⟨_,_,_,_,M5,rfl,s5,hD5,R5,S5,F5.congr (fun _ _ _ _ _ _=>rfl) fun x y _ _ _ hy' z=>by omega⟩
      case turn4=>
       rintro bb σ H5 hbb ⟨v5,v6,v8,M5,rfl,s5,hD5,R5,S5,F5⟩
       rw[zAf]
       obtain⟨ra,rowa,a1,a2,a3,a4,a5,a6⟩:=R5.get S5 (a:=(aa:Int)) (by omega) (by omega)
       obtain⟨rk,rowk,k1,k2,k3,k4,k5,k6⟩:=R5.get S5 (a:=(kk:Int)) (by omega) (by omega)
       have ma:=zX a1
       refine⟨_,rfl,_,rfl,D,_,_,.ref ra,rfl,rfl,SqL.of hD5,zAn (by omega) (by rw[zN,a1];rfl),_,rfl,ra,_,_,_,rfl,rfl,SqL.of a5,zGR a4 (by omega) (by omega),?_⟩
       refine⟨_,rfl,_,rfl,D,_,_,.ref rk,rfl,rfl,SqL.of hD5,zAn (by omega) (by rw[zN,k1];rfl),_,rfl,rk,_,_,_,rfl,rfl,SqL.of k5,zGR k4 (by omega) (by omega),?_⟩
       refine⟨_,_,rfl,?_⟩
       refine⟨_,rfl,_,rfl,D,_,_,.ref ra,rfl,rfl,SqL.of hD5,zAn (by omega) (by rw[zN,a1];rfl),_,rfl,ra,_,_,_,rfl,rfl,SqL.of a5,zGR a4 (by omega) (by omega),?_⟩
       refine⟨_,rfl,_,_,rfl,?_⟩
       refine⟨_,rfl,_,rfl,D,_,_,.ref ra,rfl,rfl,SqL.of hD5,zAn (by omega) (by rw[zN,a1];rfl),_,rfl,ra,_,_,(bb:Int).toNat,rfl,rfl,a5,zGf (by omega) (by rw[zD,a4];omega),?_⟩
       refine⟨_,_,_,_,rfl,wr ma s5,wD ma hD5,R5.set S5 (by omega) (by omega) a1 a2,S5.set (by omega) (by omega),?_⟩
       refine (Fm.step G F5 (a:=(aa:Int)) (b:=(bb:Int)) (by omega) (by omega) (by omega) (by omega) (by omega) (by omega)).congr (fun x y hx hx' hy hy'=>?_) fun x y _ _ _ _ z=>by omega
       rw[zF4 S5 (by omega) (by omega) (by omega) (by omega) hx hx',a6,a6,k6]
noncomputable def PD (ts:List T3)(kvs:List (List Key×V)):Prop:=∀x y:Int,(∀l,zBz kvs [Sum.inl x,Sum.inl y]=some (.int l)↔Adj ts x y l)/\∀v,zBz kvs [Sum.inl x,Sum.inl y]=some v->∃l,v = .int l
theorem PD.nil:PD [] []:=fun x y=>⟨fun l=>by simp[zEh,Adj],fun v h=>by simp[zEh] at h⟩
theorem zIO:([Sum.inl x,Sum.inl y]:List Key)=[Sum.inl a,Sum.inl b]↔x=a/\y=b:=by simp
theorem PD.put {pre:List T3}{c:Int}{post:List T3}(g:GW n ts)(e:ts=pre++(a,b,c)::post)(h:PD pre kvs):PD (pre++[(a,b,c)]) (zCH (zCH kvs [Sum.inl a,Sum.inl b] (.int c)) [Sum.inl b,Sum.inl a] (.int c)):=by
 have hin:(a,b,c)∈ts:=by rw[e];simp
 have hab:=(g.rng _ hin).2.1
 simp only at hab
 have sub:∀ {x y l},Adj (pre++[(a,b,c)]) x y l->Adj ts x y l:=fun h=>by
  rw[e]
  rcases h with h | h
  . refine .inl ?_
    rcases zp.mp h with q | q
    . exact zAO _ q
    . rw[zm.mp q];simp
  . refine .inr ?_
    rcases zp.mp h with q | q
    . exact zAO _ q
    . rw[zm.mp q];simp
 have new:Adj (pre++[(a,b,c)]) a b c:=.inl (by simp)
 intro x y
 rw[zCt,zCt]
 by_cases h1:x=b/\y=a
 . obtain⟨rfl,rfl⟩:=h1
   rw[if_pos rfl]
   refine⟨fun l=>⟨fun hl=>?_,fun ha=>?_⟩,fun v hv=>⟨c,(zR hv).symm⟩⟩
   . have:c=l:=by have:=zR hl;injection this
     subst this
     exact new.symm
   . rw[g.uniq (sub ha) (sub new.symm)]
 . rw[if_neg (fun z=>h1 (zIO.mp z))]
   by_cases h2:x=a/\y=b
   . obtain⟨rfl,rfl⟩:=h2
     rw[if_pos rfl]
     refine⟨fun l=>⟨fun hl=>?_,fun ha=>?_⟩,fun v hv=>⟨c,(zR hv).symm⟩⟩
     . have:c=l:=by have:=zR hl;injection this
       subst this
       exact new
     . rw[g.uniq (sub ha) (sub new)]
   . rw[if_neg (fun z=>h2 (zIO.mp z))]
     refine⟨fun l=>?_,(h x y).2⟩
     rw[(h x y).1 l]
     constructor
     . rintro (q | q)
       . exact .inl (zAO _ q)
       . exact .inr (zAO _ q)
     . rintro (q | q)
       . rcases zp.mp q with q | q
         . exact .inl q
         . exfalso
           have:=zm.mp q
           injection this with q1 q2
           injection q2 with q2 q3
           exact h2 ⟨q1,q2⟩
       . rcases zp.mp q with q | q
         . exact .inr q
         . exfalso
           have:=zm.mp q
           injection this with q1 q2
           injection q2 with q2 q3
           exact h1 ⟨q2,q1⟩
theorem PD.some (h:PD ts kvs)(x y:Int):(zBz kvs [Sum.inl x,Sum.inl y]).isSome=true↔∃l,Adj ts x y l:=by
 constructor
 . intro hs
   obtain⟨v,hv⟩:=zAs.mp hs
   obtain⟨l,rfl⟩:=(h x y).2 v hv
   exact⟨l,((h x y).1 l).mp hv⟩
 . rintro ⟨l,ha⟩
   rw[((h x y).1 l).mpr ha]
   rfl
theorem zG8:decide (oV none=V.non)=true:=zO rfl
noncomputable def zGH (H:Hp)(fl:Addr)(n:Int)(ts:List T3)(M:lLO):Prop:=∃rs:List Addr,H fl=some (.lst (rs.map V.ref))/\zCf H rs M/\Rows ts n M
theorem zLN {M:lLO}(R:Rows ts n M):Sqm n M:=⟨R.1,fun r hr=>by
 obtain⟨i,hi,e⟩:=zv hr
 have h1:=R.1
 have:=(R.2 (i:Int) (by omega) (by omega)).ln
 rw[zAe,zE,zB hi,Option.getD_some,e] at this
 exact this⟩
theorem zGH.keep {H H':Hp}{fl:Addr}{n:Int}{ts:List T3}{M:lLO}(h:zGH H fl n ts M)(k:∀b ys,H b=some (.lst ys)->H' b=some (.lst ys)):zGH H' fl n ts M:=by
 obtain⟨rs,a,b,c⟩:=h
 exact⟨rs,k _ _ a,b.keep fun b ys e _=>k b ys e,c⟩
theorem zGH.get {H:Hp}{fl:Addr}{n:Int}{ts:List T3}{M:lLO}(h:zGH H fl n ts M){x y:Int}(hx:0<=x)(hx':x<n)(hy:0<=y)(hy':y<n) :
 ∃(rs:List V)(r:Addr)(row:List V),H fl=some (.lst rs)/\atI rs x=some (.ref r)/\H r=some (.lst row)/\atI row y=some (oV (mat M x y))/\Len ts x y (mat M x y):=by
 obtain⟨rs,a,b,c⟩:=h
 obtain⟨r,row,e1,e2,e3,e4,e5,e6⟩:=b.get (zLN c) hx hx'
 have L:=c.2 x hx hx'
 rw[e3] at L
 refine⟨_,r,_,a,zAn hx (by rw[zN,e1];rfl),e5,?_,?_⟩
 . rw[<-e6];exact zGR e4 hy hy'
 . rw[<-e6];exact L.len y hy hy'
noncomputable def spJoi:Sp:=fun vs H Q _=>∃(wa:Addr)(n:Int)(ts:List T3),vs=[.ref wa]/\zBD H wa n ts/\∀(d:Addr)(kvs:List (List Key×V))(H':Hp),zAo H H'->H' d=some (.dT kvs)->PD ts kvs->Q (.ref d) H'
noncomputable def spNxs:Sp:=fun vs H Q _=>∃(wa fl:Addr)(n:Int)(ts:List T3)(M:lLO)(x y:Int),vs=[.ref wa,.ref fl,.int x,.int y]/\zBD H wa n ts/\zGH H fl n ts M/\0<=x/\x<n/\0<=y/\y<n /\
 ∀(l:Addr)(xs:List Int)(H':Hp),zAo H H'->H' l=some (.lst (xs.map V.int))->xs.Pairwise (· < ·)->(∀p,p∈xs↔Nxt ts x y p)->Q (.ref l) H'
theorem zHw:zo ["_law_web_here", "_law_found", "_law_a", "_law_b", "_law_long"] ["_law_web_here"] (defScope sJoi):=fS0
theorem ok_joi (F:Fun K "_law_joined" "_law_joined" sJoi f fd'):zAK P w K mg base CX0 1 f fd' ["_law_web_here"] spJoi:=by
 refine F.okD zHw fun _ A _ _ H vs Q E hr h=>?_
 obtain⟨wa,n,ts,rfl,W,k⟩:=h
 obtain⟨ta,tys,hwa,hta,TA,G⟩:=id W
 have hlt:tys.length=ts.length:=by rw[TA.length,zD]
 have hu:=zEK hr
 refine⟨_,zQ (zBB (i:=1) zHw.nd zEt)
  (zQ (zBb PassesOwn.never rfl (zB5 (zAA zAM (pv 0) zj)) (zCC rfl (zAE (zAI (i:=2) zHw.nd rfl (Or.inl rfl)) (zAE (zAI (i:=3) zHw.nd rfl (Or.inl rfl)) (zAE (zAI (i:=4) zHw.nd rfl (Or.inl rfl)) zBc))))
   (zQ (zCp hu (pv 1) (zBP (zC (pv 2) (zC (pv 3) zL))) (pv 4) rfl) (zW (zCp hu (pv 1) (zBP (zC (pv 3) (zC (pv 2) zL))) (pv 4) rfl))))
  (zW (zw (pv 1)))),?_⟩
 intro d hd
 refine⟨_,rfl,wa,_,_,_,rfl,rfl,SqT.of (zG hd _ _ hwa),rfl,ta,rfl,⟨_,SqT.of (zG hd _ _ hta)⟩,zDu (K:=K) (a:=ta) (xs:=tys)
  (fun j σ H5=>∃(v2 v3 v4:Option V)(kvs:List (List Key×V)),σ=[some (.ref wa),some (.ref d),v2,v3,v4]/\zAo H H5/\H5 d=some (.dT kvs)/\kvs.length<=2*j/\PD (ts.take j) kvs)
  ⟨_,_,_,[],rfl,zG hd,zI,zK _,PD.nil⟩ (fun j σ H5 _ ⟨_,_,_,_,_,s5,_⟩=>SqT.of (s5 _ _ hta)) ?turn1 ?after1⟩
 case turn1=>
  rintro j y σ H5 hj ⟨v2,v3,v4,kvs,rfl,s5,hd5,hkl,pd⟩
  obtain⟨ya,ky,rfl,hky,hya,_⟩:=TA.get hj
  rw[zN] at hky
  obtain⟨⟨x,z,c⟩,htj,rfl⟩:∃t:T3,ts[j]? = some t/\tl t=ky:=by
   cases e:ts[j]? with
   | none=>rw[e] at hky;cases hky
   | some t=>rw[e] at hky;exact⟨t,rfl,zR hky⟩
  have hjl:j<ts.length:=(zJ.mp htj).1
  have h64:=G.len
  refine⟨ya,_,rfl,SqT.of (s5 _ _ hya),rfl,_,_,rfl,_,_,rfl,_,_,rfl,rfl,?_⟩
  refine⟨_,rfl,_,rfl,_,rfl,_,rfl,by show 2<=sizeLine;decide,fun p hp=>?_⟩
  refine⟨d,_,rfl,zHW.t (k:=[Sum.inl x,Sum.inl z]) (zG hp _ _ hd5) zI (zAG (by omega)),?_⟩
  refine⟨_,rfl,_,rfl,_,rfl,_,rfl,by show 2<=sizeLine;decide,fun p2 hp2=>?_⟩
  refine⟨d,_,rfl,zHW.t (k:=[Sum.inl z,Sum.inl x]) (zG hp2 _ _ zI) zI (zAG (zAD (zBL _ _ _) (by omega))),?_⟩
  refine⟨_,_,_,_,rfl,?_,zI,zAD (zBL _ _ _) (zAD (Nat.succ_le_succ (zBL _ _ _)) (by omega)),?_⟩
  . have a1:zAo H (upd (upd H5 p (.tup [.int x,.int z])) d (.dT (zCH kvs [Sum.inl x,Sum.inl z] (.int c)))):=zAa (s5.trans (zG hp)) hd
    exact zAa (a1.trans (zG hp2)) hd
  . rw[zu,htj]
    refine PD.put G (post:=ts.drop (j+1)) ?_ pd
    have e1:ts.drop j=(x,z,c)::ts.drop (j+1):=by
     rw[List.drop_eq_getElem_cons hjl]
     rw[zB hjl] at htj
     rw[zR htj]
    rw[<-e1,List.take_append_drop]
 case after1=>
  rintro σ H5 ⟨v2,v3,v4,kvs,rfl,s5,hd5,hkl,pd⟩
  rw[hlt,zf (zK _)] at pd
  exact⟨_,rfl,k d kvs H5 s5 hd5 pd⟩
noncomputable def nb (kvs:List (List Key×V))(M:lLO)(x y d p:Int):Bool:=match zBz kvs [Sum.inl x,Sum.inl p],mat M p y with
 | some (.int l),some b=>decide (l+b=d)
 | _,_=>false
theorem zJX:zo ["_law_web_here", "_law_far_here", "_law_one", "_law_other", "_law_due", "_law_pairs", "_law_some"] ["_law_web_here", "_law_far_here", "_law_one", "_law_other"] (defScope sNxs):=fS0
theorem ok_nxs {fJ:Addr}{fdJ:FuncData}(F:Fun K "_law_nexts" "_law_nexts" sNxs f fd') (FJ:FuB K mg "_law_joined" sJoi fJ fdJ ["_law_web_here"]) (mRange:mg "range" = none):zAK P w K mg base CX0 2 f fd' ["_law_web_here", "_law_far_here", "_law_one", "_law_other"] spNxs:=by
 have GJ:zAK P w K mg base CX0 1 fJ fdJ ["_law_web_here"] spJoi:=ok_joi FJ.F
 refine F.okD zJX fun _ A _ _ H vs Q E hr h=>?_
 obtain⟨wa,fl,n,ts,M,x,y,rfl,W,FR,hx,hx',hy,hy',k⟩:=h
 obtain⟨ta,tys,hwa,hta,TA,G⟩:=id W
 have hu:=zEK hr
 have hn1:=G.n1
 have hn24:=G.n24
 refine⟨_,zQ (zCw (i:=4) zJX.nd rfl (Or.inr rfl) (zAA zAg (zAA zAg (pv 1) (pv 2)) (pv 3)))
  (zQ (zA5 (PW.pt (zCv (zy zCD (pv 2) (pv 3) (zAC _)) (zCG (zy zBk (pv 4) zAh (zAC _))))) (zW (zw (zCX zL))) zAP)
  (zQ (zCw (i:=5) zJX.nd rfl (Or.inr rfl) (zAJ GJ hr FJ (zC (pv 0) zL)))
  (zQ (zDF (i:=6) (own:=["_law_place"]) (cn:=["_law_one", "_law_pairs"]) (ci:=[2,5]) zJX.nd rfl (Or.inl rfl) rfl (csc rfl rfl) ⟨rfl,rfl,rfl,rfl,rfl,rfl,trivial⟩ rfl
   (zAm rfl mRange (zC (zAA zAM (pv 0) zj) zL)) (fun _ _ _ _=>zBx)
   (fun _ _ _ _=>zB7 (zIE (zIN hu (zBP (zC (pv 1) (zC (pv 0) zL))) (pv 2)))) (fun _ _ _ _=>pv 0))
  (zW (zw (zA7 (own:=["_law_place"]) (cn:=["_law_pairs", "_law_one", "_law_far_here", "_law_other", "_law_due"]) (ci:=[5,2,1,3,4]) rfl (csc rfl rfl) ⟨rfl,rfl,rfl,rfl,rfl,rfl,rfl,rfl,rfl,rfl,rfl,rfl,rfl,rfl,rfl,trivial⟩ rfl
   (zCA (pv 6)) (fun _ _ _ _=>zBx)
   (fun _ _ _ _=>zB7 (zy zCD (zA6 zB6 (zEu hu (pv 1) (zBP (zC (pv 2) (zC (pv 0) zL))) (fun _ _=>rfl)) (zAA zCh (zAA zCh (pv 3) (pv 0)) (pv 4))) (pv 5) (zAC _)))
   (fun _ _ _ _=>pv 0))))))),?_⟩
 obtain⟨r1,a1,w1,f1,g1,i1,j1,l1⟩:=FR.get hx hx' hy hy'
 refine⟨_,rfl,_,rfl,fl,_,_,.ref a1,rfl,rfl,SqL.of f1,g1,_,rfl,a1,_,_,_,rfl,rfl,SqL.of i1,j1,?_⟩
 refine⟨_,rfl,_,rfl,rfl,_,rfl,?_⟩
 by_cases hxy:x=y
 . refine ifT (zO (congrArg V.int hxy)) (ifT rfl ?_)
   exact⟨zh _,fun l hl=>k l [] _ (zG hl) zI zBJ fun p=>⟨fun z=>by simp at z,fun z=>absurd hxy (Nxt.ne G z)⟩⟩
 refine ifF (zY fun z=>hxy (V.int.inj z)) ?_
 refine⟨_,rfl,rfl,_,rfl,?_⟩
 cases e:mat M x y with
 | none=>
  rw[e] at l1
  refine ifT zG8 ?_
  exact⟨zh _,fun l hl=>k l [] _ (zG hl) zI zBJ fun p=>⟨fun z=>by simp at z,fun ⟨l,b,_,_,z⟩=>absurd z.1 (l1 _)⟩⟩
 | some d=>
  rw[e] at l1
  have hxy':WM.IsD ts x y d:=l1
  refine ifF (zB8 d) ?_
  refine⟨_,rfl,wa,n,ts,rfl,W,fun dd kvs H1 s1 hd1 pd=>?_⟩
  refine⟨_,rfl,wa,_,_,_,rfl,rfl,SqT.of (s1 _ _ hwa),rfl,n,rfl,by omega,by omega,[.int x,.ref dd],rfl,fun D hD=>?_⟩
  refine zBF (lo:=0) (n:=n.toNat) (fun q ys H7=>q<=n.toNat/\ys=((lowTo q).filter fun o=>(zBz kvs [Sum.inl x,Sum.inl o]).isSome).map V.int/\zAo H1 H7/\H7 D=some (.lst ys)) ⟨zh _,rfl,zG hD,zI⟩ (fun q ys H7 h=>?_) (fun q ys H7 hq h=>?_) (fun ys H7 h=>?_)
  . obtain⟨hq,rfl,_⟩:=h
    rw[zD]
    refine zAN (zr _ _) (zAG ?_)
    rw[lowTo,zD,zAu]
    omega
  . obtain⟨_,rfl,s7,hD7⟩:=h
    rw[zAf]
    refine⟨⟨rfl,rfl⟩,?_⟩
    refine⟨_,rfl,_,rfl,by show 2<=sizeLine;decide,fun p hp=>?_⟩
    refine⟨_,rfl,dd,_,rfl,zED.t (k:=[Sum.inl x,Sum.inl (q:Int)]) (zG hp _ _ (s7 _ _ hd1)) zI,_,rfl,?_⟩
    refine zEC (fun hc=>?_) (fun hc=>?_)
    . refine⟨_,rfl,zG hp _ _ hD7,hq,?_,zAa (s7.trans (zG hp)) hD,zI⟩
      rw[zC4,zAV,zAl (p:=fun o=>(zBz kvs [Sum.inl x,Sum.inl o]).isSome) hc,zBj,zV]
      rfl
    . refine⟨hq,?_,s7.trans (zG hp),zG hp _ _ ?_⟩
      . rw[zC4,zAV,zAZ (p:=fun o=>(zBz kvs [Sum.inl x,Sum.inl o]).isSome) hc,zBj,zt]
      . exact hD7
  . obtain⟨_,rfl,s7,hD7⟩:=h
    generalize hsm:((lowTo n.toNat).filter fun o=>(zBz kvs [Sum.inl x,Sum.inl o]).isSome)=sm at hD7 ⊢
    have sm_rise:sm.Pairwise (· < ·):=by rw[<-hsm];exact (zDs _).sublist List.filter_sublist
    have sm_mem:∀p,p∈sm↔∃l,Adj ts x p l:=fun p=>by
     rw[<-hsm,zAB,pd.some]
     refine⟨fun h=>h.2,fun h=>⟨zCz.mpr ?_,h⟩⟩
     obtain⟨c,ha⟩:=h
     have:=G.adj ha
     omega
    have sm_len:sm.length<=24:=by
     rw[<-hsm]
     refine zAD (zr _ _) ?_
     rw[lowTo,zD,zAu]
     omega
    have nb_iff:∀p,p∈sm.filter (nb kvs M x y d)↔Nxt ts x y p:=fun p=>by
     rw[zAB,sm_mem]
     constructor
     . rintro ⟨⟨l,ha⟩,hb⟩
       have hadj:=G.adj ha
       obtain⟨_,_,_,_,_,_,_,l3⟩:=FR.get (x:=p) (y:=y) (by omega) (by omega) hy hy'
       unfold nb at hb
       rw[((pd x p).1 l).mpr ha] at hb
       cases e2:mat M p y with
       | none=>rw[e2] at hb;cases hb
       | some b=>
        rw[e2] at hb l3
        have hs:l+b=d:=of_decide_eq_true hb
        exact⟨l,b,ha,l3,by rw[hs];exact hxy'⟩
     . rintro ⟨l,b,ha,h2,h3⟩
       have hadj:=G.adj ha
       obtain⟨_,_,_,_,_,_,_,l3⟩:=FR.get (x:=p) (y:=y) (by omega) (by omega) hy hy'
       refine⟨⟨l,ha⟩,?_⟩
       unfold nb
       rw[((pd x p).1 l).mpr ha,Len.uniq l3 (show Len ts p y (some b) from h2)]
       exact zO (WM.IsD.uniq h3 hxy')
    refine⟨_,rfl,D,rfl,⟨_,SqL.of hD7⟩,[.ref dd,.int x,.ref fl,.int y,.int d],rfl,fun D2 hD2=>?_⟩
    have nDD:D≠D2:=zl hD7 hD2
    refine zCI (a:=D) (xs:=sm.map V.int) (fun i ys H8=>ys=((sm.take i).filter (nb kvs M x y d)).map V.int/\zAo H7 H8/\H8 D2=some (.lst ys)) ⟨rfl,zG hD2,zI⟩ (fun i ys H8 h=>?_) (fun i ys H8 h=>?_) (fun i v ys H8 hv h=>?_) (fun ys H8 h=>?_)
    . exact SqL.of (h.2.1 _ _ hD7)
    . rw[h.1,zD]
      refine zAN (zr _ _) (zAG ?_)
      rw[zx];omega
    . obtain⟨rfl,s8,hD8⟩:=h
      obtain⟨p,hp,rfl⟩:∃p,sm[i]? = some p/\V.int p=v:=by
       rw[zN] at hv
       cases e:sm[i]? with
       | none=>rw[e] at hv;cases hv
       | some p=>rw[e] at hv;exact⟨p,rfl,zR hv⟩
      obtain⟨l,ha⟩:=(sm_mem p).mp (zX hp)
      have hadj:=G.adj ha
      have hval:=((pd x p).1 l).mpr ha
      have s18:zAo H H8:=s1.trans (s7.trans s8)
      refine⟨⟨rfl,rfl⟩,?_⟩
      refine⟨_,rfl,_,rfl,_,rfl,by show 2<=sizeLine;decide,fun q hq=>?_⟩
      have sq:zAo H (upd H8 q (.tup [.int x,.int p])):=s18.trans (zG hq)
      obtain⟨r3,a3,w3,f3,g3,i3,j3,l3⟩:=(FR.keep fun b ys e=>sq _ _ e).get (x:=p) (y:=y) (by omega) (by omega) hy hy'
      obtain⟨b,eb⟩:∃b,mat M p y=some b:=by
       cases e2:mat M p y with
       | none=>rw[e2] at l3;exact absurd ((WM.Way.one ha).symm.trans hxy'.1) (l3 _)
       | some b=>exact⟨b,rfl⟩
      rw[eb] at j3
      refine⟨dd,_,rfl,hval ▸ zED.t (k:=[Sum.inl x,Sum.inl p]) (zG hq _ _ (s8 _ _ (s7 _ _ hd1))) zI,?_⟩
      refine⟨_,rfl,_,rfl,fl,_,_,.ref a3,rfl,rfl,SqL.of f3,g3,_,rfl,a3,_,_,_,rfl,rfl,SqL.of i3,j3,l,b,rfl,rfl,?_⟩
      refine⟨_,rfl,rfl,_,rfl,?_⟩
      have ek:sm.take (i+1)=sm.take i++[p]:=by rw[zu,hp];rfl
      have enb:nb kvs M x y d p=decide (l+b=d):=by unfold nb;rw[hval,eb]
      by_cases hs:l+b=d
      . refine ifT (zO (congrArg V.int hs)) ?_
        refine⟨_,rfl,zG hq _ _ hD8,?_,zAa (s8.trans (zG hq)) hD2,zI⟩
        rw[ek,zAV,zAl (by rw[enb];exact zO hs),zBj,zV]
        rfl
      . refine ifF (zY fun z=>hs (V.int.inj z)) ?_
        refine⟨?_,s8.trans (zG hq),zG hq _ _ hD8⟩
        rw[ek,zAV,zAZ (by rw[enb,zY hs];decide),zBj,zt]
    . obtain⟨rfl,s8,hD8⟩:=h
      rw[zD,List.take_length] at hD8
      exact k D2 _ H8 (s1.trans (s7.trans s8)) hD8 (sm_rise.sublist List.filter_sublist) nb_iff
theorem zLR {X:Cx}{st:Stmt}{u u':TS}(h:PS X st u)(m:∀D σ H,u' D σ H->u D σ H):PS X st u':=fun pins s σ H D I q=>h pins s σ H D I (m D σ H q)
noncomputable def zFp (ts:List T3):Prop:=zDL (ts.map tl)
theorem tl_inj {s t:T3}(h:tl s=tl t):s=t:=by
 obtain⟨a,b,c⟩:=s
 obtain⟨a',b',c'⟩:=t
 unfold tl at h
 simp only[List.cons.injEq,and_true] at h
 obtain⟨rfl,rfl,rfl⟩:=h
 rfl
theorem zEQ:∀{a b:List (List Int)},zDL a->zDL b->a.Perm b->a=b
 | [],b,_,_,h=>(List.nil_perm.mp h).symm
 | x::xs,[],_,_,h=>by have:=h.length_eq;simp at this
 | x::xs,y::ys,ha,hb,h=>by
  have e:x=y:=by
   apply zAQ
   intro ne
   have hx:x∈ys:=by
    rcases zc.mp (h.mem_iff.mp za) with z | z
    . exact absurd z ne
    . exact z
   have hy:y∈xs:=by
    rcases zc.mp (h.mem_iff.mpr za) with z | z
    . exact absurd z.symm ne
    . exact z
   exact ne (zC1 x y ((zAX.mp hb).1 x hx) ((zAX.mp ha).1 y hy))
  subst e
  rw[zEQ (zAX.mp ha).2 (zAX.mp hb).2 h.cons_inv]
theorem zFp.uniq {s t:List T3}(a:zFp s)(b:zFp t)(h:s.Perm t):s=t:=by
 have e:=zEQ a b (h.map tl)
 have inj:∀{s t:List T3},s.map tl=t.map tl->s=t:=by
  intro s
  induction s with
  | nil=>intro t e;cases t with
   | nil=>rfl
   | cons _ _=>cases e
  | cons x xs ih=>
   intro t e
   cases t with
   | nil=>cases e
   | cons y ys=>
    rw[zAF,zAF] at e
    injection e with e1 e2
    rw[tl_inj e1,ih e2]
 exact inj e
noncomputable def isP (a b:Int)(t:T3):Bool:=decide ([t.1,t.2.1]=[a,b])
theorem zCr {t:T3}:isP a b t=true↔t.1=a/\t.2.1=b:=by unfold isP;simp
noncomputable def zCo (a b:Int)(ts:List T3):List T3:=ts.filter fun t=>!isP a b t
noncomputable def zJE (a b:Int):Option Int->List T3
 | none=>[]
 | some l=>[(a,b,l)]
noncomputable def zBu (a b:Int)(ts:List T3):Option Int:=((ts.filter (isP a b)).map (·.2.2)).head?
theorem zFp.but (h:zFp ts):zFp (zCo a b ts):=by
 unfold zFp zDL zCo at *
 rw[zAT] at *
 exact h.filter _
theorem zME (s t:List T3):zCo a b (s++t)=zCo a b s++zCo a b t:=zAV ..
theorem zMF (lo:Option Int):zCo a b (zJE a b lo)=[]:=by
 cases lo with
 | none=>rfl
 | some l=>
  unfold zCo zJE
  rw[zAZ (by rw[show isP a b (a,b,l)=true from zCr.mpr ⟨rfl,rfl⟩];simp)]
  rfl
theorem zMD (ts:List T3):zCo a b (zCo a b ts)=zCo a b ts:=by unfold zCo;rw[List.filter_filter];congr 1;funext t;simp
theorem zGC (a b:Int)(ts:List T3):(zCo a b ts).length<=ts.length:=zr _ _
theorem zDX {a b:Int}:∀{ts:List T3},(ts.Pairwise fun s t=>¬ (s.1=t.1/\s.2.1=t.2.1))->ts.filter (isP a b)=zJE a b (zBu a b ts)
 | [],_=>rfl
 | t::ts,h=>by
  obtain⟨h1,h2⟩:=zAX.mp h
  have ih:=zDX (a:=a) (b:=b) h2
  unfold zBu at ih ⊢
  by_cases c:isP a b t=true
  . have c':=zCr.mp c
    have no:ts.filter (isP a b)=[]:=by
     apply List.filter_eq_nil_iff.mpr
     intro x hx z
     have z':=zCr.mp z
     exact h1 x hx ⟨c'.1.trans z'.1.symm,c'.2.trans z'.2.symm⟩
    rw[zAl c,no]
    obtain⟨x,y,l⟩:=t
    obtain⟨rfl,rfl⟩:=c'
    rfl
  . rw[zAZ c]
    exact ih
theorem zEU {α:Type}(p:α->Bool):∀ts:List α,ts.Perm (ts.filter (fun t=>!p t)++ts.filter p)
 | []=>List.Perm.refl _
 | t::ts=>by
  have ih:=zEU p ts
  by_cases c:p t=true
  . rw[zAZ (by rw[c];simp),zAl c]
    exact (ih.cons t).trans List.perm_middle.symm
  . rw[zAl (by simpa using c),zAZ c]
    exact ih.cons t
theorem zKF (h:ts.Pairwise fun s t=>¬ (s.1=t.1/\s.2.1=t.2.1)):ts.Perm (zCo a b ts++zJE a b (zBu a b ts)):=by
 rw[<-zDX h]
 exact zEU (isP a b) ts
structure Aft (a b:Int)(lo:Option Int)(ts ts':List T3):Prop where
 pm:ts'.Perm (zCo a b ts++zJE a b lo)
 sr:zFp ts'
variable {lo:Option Int}{t1:List T3}
theorem Aft.uniq {t2:List T3}(x:Aft a b lo ts t1)(y:Aft a b lo ts t2):t1=t2:=x.sr.uniq y.sr (x.pm.trans y.pm.symm)
theorem Aft.strike (h:zFp ts):Aft a b none ts (zCo a b ts):=⟨by rw[show zJE a b none=[] from rfl,zt],h.but⟩
theorem Aft.back (G:GW n ts)(s:zFp ts)(x:Aft a b lo ts t1):Aft a b (zBu a b ts) t1 ts:=by
 refine⟨?_,s⟩
 have e:(zCo a b t1).Perm (zCo a b ts):=by
  have:=x.pm.filter fun t=>!isP a b t
  have e2:(zCo a b ts++zJE a b lo).filter (fun t=>!isP a b t)=zCo a b ts:=by
   have:=zME (a:=a) (b:=b) (zCo a b ts) (zJE a b lo)
   rw[zMF,zMD,zt] at this
   exact this
  rw[e2] at this
  exact this
 exact (zKF G.dis).trans (e.symm.append_right _)
theorem Aft.gw (G:GW n ts)(x:Aft a b lo ts t1)(h0:0<=a)(h1:a<b)(h2:b<n)(hl:∀l,lo=some l->1<=l/\l<=99)(h60:(zCo a b ts).length<=60):GW n t1:=by
 refine⟨G.n1,G.n24,?_,fun t ht=>?_,?_⟩
 . rw[x.pm.length_eq,zP]
   cases lo with
   | none=>show (zCo a b ts).length+0<64;omega
   | some l=>show (zCo a b ts).length+1<64;omega
 . rcases zp.mp (x.pm.mem_iff.mp ht) with q | q
   . exact G.rng t (zAB.mp q).1
   . cases lo with
     | none=>cases q
     | some l=>
      rw[zm.mp q]
      exact⟨h0,h1,h2,hl l rfl⟩
 . refine (List.Perm.pairwise_iff (R:=fun s t:T3=>¬ (s.1=t.1/\s.2.1=t.2.1)) (fun h e=>h ⟨e.1.symm,e.2.symm⟩) x.pm).mpr ?_
   refine List.pairwise_append.mpr ⟨G.dis.filter _,?_,fun s hs t ht e=>?_⟩
   . cases lo with
     | none=>exact zBJ
     | some l=>exact List.pairwise_singleton _ _
   . cases lo with
     | none=>cases ht
     | some l=>
      rw[zm.mp ht] at e
      have:=(zAB.mp hs).2
      rw[zCr.mpr e] at this
      cases this
theorem zKu:∀a b c d:Fin 9,a<b->c<d->b.val*(b.val-1)/2+a.val=d.val*(d.val-1)/2+c.val->a=c/\b=d:=by decide +kernel
theorem tri_lt:∀a b:Fin 9,a<b->b.val*(b.val-1)/2+a.val<36:=by decide +kernel
theorem GW.few (G:GW n ts)(h9:n<=9):ts.length<=36:=by
 have f:∀t:T3,t∈ts->∃a b:Fin 9,a<b/\(a.val:Int)=t.1/\(b.val:Int)=t.2.1:=fun t ht=>by
  obtain⟨r1,r2,r3,_⟩:=G.rng t ht
  exact⟨⟨t.1.toNat,by omega⟩,⟨t.2.1.toNat,by omega⟩,by show t.1.toNat<t.2.1.toNat;omega,by show ((t.1.toNat:Nat):Int)=_;omega,by show ((t.2.1.toNat:Nat):Int)=_;omega⟩
 have nd:(ts.map fun t:T3=>((t.2.1.toNat*(t.2.1.toNat-1)/2+t.1.toNat:Nat):Int)).Nodup:=by
  rw[List.Nodup,zAT]
  refine G.dis.imp_of_mem fun {s t} hs ht hne e=>?_
  obtain⟨a,b,ab,e1,e2⟩:=f s hs
  obtain⟨c,d,cd,e3,e4⟩:=f t ht
  have z1:s.1.toNat=a.val:=by omega
  have z2:s.2.1.toNat=b.val:=by omega
  have z3:t.1.toNat=c.val:=by omega
  have z4:t.2.1.toNat=d.val:=by omega
  rw[z1,z2,z3,z4] at e
  obtain⟨p,q⟩:=zKu a b c d ab cd (Int.ofNat.inj e)
  subst p q
  exact hne ⟨by omega,by omega⟩
 have:=nd_len (n:=36) nd fun x hx=>by
  obtain⟨t,ht,rfl⟩:=zq.mp hx
  obtain⟨a,b,ab,e1,e2⟩:=f t ht
  have z1:t.1.toNat=a.val:=by omega
  have z2:t.2.1.toNat=b.val:=by omega
  have:=tri_lt a b ab
  rw[z1,z2]
  omega
 rw[zD] at this
 omega
noncomputable def loP (x y:Int):Int:=if y<x then y else x
noncomputable def hiP (x y:Int):Int:=if y > x then y else x
theorem lohi (hx:0<=x/\x<n)(hy:0<=y/\y<n)(ne:x≠y):0<=loP x y/\loP x y<hiP x y/\hiP x y<n:=by
 unfold loP hiP
 split <;> split <;> omega
theorem zGr (G:GW n ts)(ne:x≠y):(∃l,Adj ts x y l)↔(zBu (loP x y) (hiP x y) ts).isSome=true:=by
 have e:=zDX (a:=loP x y) (b:=hiP x y) G.dis
 constructor
 . rintro ⟨l,h⟩
   have:(loP x y,hiP x y,l)∈ts.filter (isP (loP x y) (hiP x y)):=by
    refine zAB.mpr ⟨?_,zCr.mpr ⟨rfl,rfl⟩⟩
    unfold loP hiP
    rcases h with h | h
    . have:=(G.rng _ h).2.1
      dsimp only at this
      rw[if_neg (by omega),if_pos (by omega)];exact h
    . have:=(G.rng _ h).2.1
      dsimp only at this
      rw[if_pos (by omega),if_neg (by omega)];exact h
   cases z:zBu (loP x y) (hiP x y) ts with
   | none=>rw[z] at e;rw[e] at this;cases this
   | some _=>rfl
 . intro h
   obtain⟨l,z⟩:=zAs.mp h
   rw[z] at e
   have:(loP x y,hiP x y,l)∈ts:=(zAB.mp (by rw[e];exact zm.mpr rfl)).1
   refine⟨l,?_⟩
   unfold loP hiP at this
   by_cases c:y<x
   . rw[if_pos c,if_neg (by omega)] at this;exact .inr this
   . rw[if_neg c,if_pos (by omega)] at this;exact .inl this
theorem zFS (s:zAo H H')(h:H' p=none):H p=none:=by
 cases e:H p with
 | none=>rfl
 | some o=>rw[s p o e] at h;cases h
noncomputable def rCatV:R2:=fun x y H Q=>∃(a b:Addr)(xs ys:List V),x = .ref a/\y = .ref b/\H a=some (.tup xs)/\H b=some (.tup ys)/\xs.length+ys.length<=sizeLine/\∀(p:Addr)(H':Hp),zAo H H'->H' p=some (.tup (xs++ys))->Q (.ref p) H'
theorem zLa:OpR X (binaryOp .Add) rCatV:=fun pins s σ H x y v u Q I rx ry h=>by
 obtain⟨a,b,xs,ys,rfl,rfl,ha,hb,hz,q⟩:=h
 refine zLc pins s σ H _ _ v u Q I rx ry ⟨a,b,xs,ys,rfl,rfl,SqT.of ha,SqT.of hb,hz,fun e=>?_,fun _ e=>?_,fun _ _ p hp=>q p _ (zG hp) zI⟩
 . subst e;exact q b H (zAo.refl _) hb
 . subst e;exact q a H (zAo.refl _) (by rw[zt];exact ha)
noncomputable def rSlV:V->Option Int->Option Int->Hp->VK->Prop:=fun x lo hi H Q=>∃(a:Addr)(xs:List V),x = .ref a/\H a=some (.tup xs)/\∀(p:Addr)(H':Hp),zAo H H'->H' p=some (.tup (zHO xs lo hi))->Q (.ref p) H'
theorem zLB:SlR X rSlV:=fun pins s σ H x v vl vu lo hi sl Q I rx hs pl pu h=>by
 obtain⟨a,xs,rfl,ha,q⟩:=h
 refine zLC pins s σ H _ v vl vu lo hi sl Q I rx hs pl pu ⟨a,xs,rfl,SqT.of ha,fun e=>?_,fun _ p hp=>q p _ (zG hp) zI⟩
 refine q a H (zAo.refl _) ?_
 have:zHO xs lo hi=xs:=by
  unfold zHO
  rw[e.1,e.2,List.drop_zero,Nat.sub_zero,zf (zK _)]
 rw[this]
 exact ha
noncomputable def zK6:Sp:=fun vs H Q _=>∃l:Int,vs=[.int l]/\1<=l/\l<=99/\Q (.bl true) H
noncomputable def zGM:Sp:=fun vs H Q _=>∃(wa:Addr)(n:Int)(ts:List T3)(x y:Int),vs=[.ref wa,.int x,.int y]/\zBD H wa n ts/\(0<=x/\x<n)/\(0<=y/\y<n)/\x≠y /\
 ∀(p:Addr),H p=none->Q (.ref p) (upd H p (.tup [.int (loP x y),.int (hiP x y)]))
noncomputable def zK9:Sp:=fun vs H Q _=>∃(wa p:Addr)(n:Int)(ts:List T3)(a b:Int),vs=[.ref wa,.ref p]/\zBD H wa n ts/\H p=some (.tup [.int a,.int b]) /\
 ∀(D:Addr)(ys:List V)(H':Hp),zAo H H'->H D=none->H' D=some (.lst ys)->zAS H' ys ((zCo a b ts).map tl)->Q (.ref D) H'
noncomputable def zHj:Sp:=fun vs H Q _=>∃(wa:Addr)(n:Int)(ts:List T3)(x y l:Int),vs=[.ref wa,.int x,.int y,.int l]/\zBD H wa n ts/\(0<=x/\x<n)/\(0<=y/\y<n)/\x≠y/\(1<=l/\l<=99)/\((zBu (loP x y) (hiP x y) ts).isSome=true\/ts.length<60)/\ts.length<=60 /\
 ∀(wb:Addr)(ts':List T3)(H':Hp),zAo H H'->H wb=none->zBD H' wb n ts'->Aft (loP x y) (hiP x y) (some l) ts ts'->Q (.ref wb) H'
noncomputable def zHi:Sp:=fun vs H Q _=>∃(wa:Addr)(n:Int)(ts:List T3)(x y:Int),vs=[.ref wa,.int x,.int y]/\zBD H wa n ts/\zFp ts/\(0<=x/\x<n)/\(0<=y/\y<n)/\x≠y/\(zBu (loP x y) (hiP x y) ts).isSome=true/\ts.length<=60 /\
 ∀(wb:Addr)(ts':List T3)(H':Hp),zAo H H'->H wb=none->zBD H' wb n ts'->Aft (loP x y) (hiP x y) none ts ts'->Q (.ref wb) H'
theorem zHc (hp:ms.Perm (ts.map tl)):∃ts':List T3,ts'.map tl=ms/\ts'.Perm ts:=by
 refine⟨ms.map fun k:List Int=>((k.getD 0 0,k.getD 1 0,k.getD 2 0):T3),?_,?_⟩
 . rw[List.map_map]
   conv=>rhs;rw[<-List.map_id ms]
   refine zBo fun k hk=>?_
   obtain⟨t',_,rfl⟩:=zq.mp (hp.mem_iff.mp hk)
   rfl
 . have:=hp.map fun k:List Int=>((k.getD 0 0,k.getD 1 0,k.getD 2 0):T3)
   rw[List.map_map] at this
   have e:ts.map ((fun k:List Int=>((k.getD 0 0,k.getD 1 0,k.getD 2 0):T3))∘tl)=ts:=by
    conv=>rhs;rw[<-List.map_id ts]
    exact zBo fun t' _=>rfl
   rw[e] at this
   exact this
theorem cut2 (t:T3):zHO ((tl t).map V.int) none (some 2)=[.int t.1,.int t.2.1]:=rfl
variable {i:Nat}
theorem zHL {k:T3}{f:T3->Bool}(h:ts[i]? = some k):(ts.take (i+1)).filter f=(ts.take i).filter f++(if f k=true then [k] else []):=by
 rw[zu,h,zAV]
 show _++List.filter f [k]=_
 rw[zA2]
 rfl
theorem scIsL:zo ["thing"] ["thing"] (defScope sIsL):=fS0
variable {tk:Tok}
theorem ok_isL (F:Fun K "is_long" "is_long" sIsL f fd') (FW:FuB K mg "is_within" sWi fW fdW ["thing","least","most"]) (FN:FuB K mg "is_number" zJZ fN fdN ["thing"]) (mIsi:mg "isinstance" = none) (mInt:mg "int" = none) (mBool:mg "bool" = none) (mML:mg "MOST_LONG" = some (.int 99 tk)) :
 zAK P w K mg base CX0 3 f fd' ["thing"] zK6:=by
 have GW':zAK P w K mg base CX0 2 fW fdW ["thing", "least", "most"] spWi:=ok_wi FW.F FN mIsi mInt mBool
 refine F.okD scIsL fun _ A _ _ H vs Q E hr h=>?_
 obtain⟨l,rfl,h1,h2,k⟩:=h
 refine⟨_,zW (zw (zAJ GW' hr FW (zC (pv 0) (zC zj (zC (zIL (v:=.int 99) rfl mML ⟨tk,rfl⟩) zL))))),?_⟩
 exact⟨_,rfl,l,1,99,rfl,h1,h2,k⟩
theorem scPair:zo ["web", "one", "other"] ["web", "one", "other"] (defScope zG3):=fS0
theorem zLn {fW fN:Addr}{fdW fdN:FuncData}(F:Fun K "pair_of" "pair_of" zG3 f fd') (FP:FuB K mg "is_place" sPl fP fdP ["n","thing"]) (GP:zAK P w K mg base CX0 3 fP fdP ["n", "thing"] spPl) (mMin:mg "min" = none) (mMax:mg "max" = none) :
 zAK P w K mg base CX0 4 f fd' ["web", "one", "other"] zGM:=by
 refine F.okD scPair fun _ A _ _ H vs Q E hr h=>?_
 obtain⟨wa,n,ts,x,y,rfl,W,hx,hy,ne,k⟩:=h
 obtain⟨ta,tys,hwa,_,_,G⟩:=id W
 refine⟨_,zQ (zA5 (PW.pt (zCv (zB4 (zBt (zAJ GP hr FP (zC (zAA zAM (pv 0) zj) (zC (pv 1) zL)))))
  (zCv (zB4 (zBt (zAJ GP hr FP (zC (zAA zAM (pv 0) zj) (zC (pv 2) zL)))))
  (zCG (zy zCD (pv 1) (pv 2) (zAC _)))))) (zW zIF) zAP)
  (zW (zw (zBP (zC (zAL (zD5 rfl) mMin (zC (pv 1) (zC (pv 2) zL))) (zC (zAL (zI6 rfl) mMax (zC (pv 1) (zC (pv 2) zL))) zL))))),?_⟩
 refine⟨_,rfl,wa,_,_,_,rfl,rfl,SqT.of hwa,rfl,_,rfl,n,x,rfl,hx.1,by omega,true,rfl,zCa ?_⟩
 refine⟨_,rfl,wa,_,_,_,rfl,rfl,SqT.of hwa,rfl,_,rfl,n,y,rfl,hy.1,by omega,true,rfl,zCa ?_⟩
 refine⟨_,rfl,_,rfl,rfl,_,rfl,ifF (zY fun z=>ne (V.int.inj z)) ?_⟩
 exact⟨_,rfl,_,rfl,x,y,rfl,_,rfl,_,rfl,x,y,rfl,by show 2<=sizeLine;decide,fun p hp=>k p hp⟩
theorem scBut:zo ["web", "pair"] ["web", "pair"] (defScope sBut):=fS0
theorem zKc (F:Fun K "ties_but" "ties_but" sBut f fd'):zAK P w K mg base CX0 1 f fd' ["web", "pair"] zK9:=by
 refine F.okD scBut fun _ A _ _ H vs Q E hr h=>?_
 obtain⟨wa,p,n,ts,a,b,rfl,W,hp,k⟩:=h
 obtain⟨ta,tys,hwa,hta,TA,G⟩:=id W
 have hu0:=hr.units0
 have hlT:=TA.length
 rw[zD] at hlT
 have h64:=G.len
 refine⟨_,zW (zw (zA7 (own:=["tie"]) (cn:=["pair"]) (ci:=[1]) rfl (csc rfl rfl) ⟨rfl,rfl,rfl,trivial⟩ rfl (zB5 (zAA zAM (pv 0) zj)) (fun _ _ _ _=>zBx)
  (fun _ _ _ _=>zB7 (zy (zJr hu0) (zGZ zLB (pv 0) zII (zIH zj)) (pv 1) (zAC _))) (fun _ _ _ _=>pv 0))),?_⟩
 refine⟨_,rfl,wa,_,_,.ref ta,rfl,rfl,SqT.of hwa,rfl,ta,rfl,⟨_,SqT.of hta⟩,[.ref p],rfl,fun D hD=>?_⟩
 refine zBn (a:=ta) (xs:=tys) (fun i ys H4=>zAS H4 ys ((zCo a b (ts.take i)).map tl)/\zAo H H4/\H4 D=some (.lst ys)) ⟨by rw[List.take_zero];exact trivial,zG hD,zI⟩ (fun i ys H4 h=>?_) (fun i ys H4 h=>?_) (fun i v ys H4 hv h=>?_) (fun ys H4 h=>?_)
 . exact SqT.of (h.2.1 _ _ hta)
 . have h1:=h.1.length
   have h2:=zGC a b (ts.take i)
   rw[zx] at h2
   rw[zD] at h1
   exact zAG (by omega)
 . obtain⟨T4,s4,hD4⟩:=h
   obtain⟨ya,kk,rfl,hkk,hya,_⟩:=TA.get hv
   rw[zN] at hkk
   obtain⟨t,ht,rfl⟩:∃t,ts[i]? = some t/\tl t=kk:=by
    cases e:ts[i]? with
    | none=>rw[e] at hkk;cases hkk
    | some t=>rw[e] at hkk;exact⟨t,rfl,zR hkk⟩
   have hya4:=s4 _ _ hya
   refine⟨⟨rfl,rfl⟩,?_⟩
   refine⟨_,rfl,_,rfl,ya,_,rfl,hya4,fun q H5 s5 hq=>?_⟩
   rw[cut2] at hq
   refine⟨_,rfl,q,p,[t.1,t.2.1],[a,b],rfl,rfl,SqT.of hq,SqT.of (s5 _ _ (s4 _ _ hp)),_,rfl,?_⟩
   have hD5:=s5 _ _ hD4
   have T5:zAS H5 ys ((zCo a b (ts.take i)).map tl):=T4.keep fun b zs e=>s5 _ _ e
   have e:zCo a b (ts.take (i+1))=zCo a b (ts.take i)++(if (!isP a b t)=true then [t] else []):=zHL ht
   refine zEC (fun c=>?_) (fun c=>?_)
   . refine⟨_,rfl,hD5,?_,zAa (s4.trans s5) hD,zI⟩
     rw[e,if_pos (by exact c),zV]
     refine (T5.keep fun b zs e=>?_).snoc ⟨ya,rfl,?_,by simp[tl]⟩
     . rw[zd (zAp e hD5 (by intro z;cases z))];exact e
     . rw[zd (zAp (s5 _ _ hya4) hD5 (by intro z;cases z))];exact s5 _ _ hya4
   . refine⟨?_,s4.trans s5,hD5⟩
     rw[e,if_neg (by exact c),zt]
     exact T5
 . obtain⟨T4,s4,hD4⟩:=h
   rw[hlT,zf (zK _)] at T4
   exact k D ys H4 s4 hD hD4 T4
theorem zKV:zo ["web", "one", "other", "long", "pair"] ["web", "one", "other", "long"] (defScope zHy):=fS0
theorem zLg (F:Fun K "with_tie" "with_tie" zHy f fd') (FP:FuB K mg "pair_of" zG3 fP fdP ["web","one","other"]) (GP:zAK P w K mg base CX0 4 fP fdP ["web", "one", "other"] zGM)
 (FL:FuB K mg "is_long" sIsL fL fdL ["thing"]) (GL:zAK P w K mg base CX0 4 fL fdL ["thing"] zK6)
 (FO:FuB K mg "long_of" zFH fO fdO ["web","one","other"]) (GO:zAK P w K mg base CX0 4 fO fdO ["web", "one", "other"] zDc)
 (FB:FuB K mg "ties_but" sBut fB fdB ["web","pair"]) (mMT:mg "MOST_TIES" = some (.int 60 tk)) (mLen:mg "len" = none) (mTuple:mg "tuple" = none) (mSorted:mg "sorted" = none) :
 zAK P w K mg base CX0 5 f fd' ["web", "one", "other", "long"] zHj:=by
 have GB:zAK P w K mg base CX0 4 fB fdB ["web", "pair"] zK9:=(zKc FB.F).mono (by decide)
 refine F.okD zKV fun _ A _ _ H vs Q E hr h=>?_
 obtain⟨wa,n,ts,x,y,l,rfl,W,hx,hy,ne,hl,h60,hle,k⟩:=h
 obtain⟨ta,tys,hwa,hta,TA,G⟩:=id W
 have hlT:=TA.length
 rw[zD] at hlT
 obtain⟨a0,ab,bn⟩:=lohi hx hy ne
 refine⟨_,zQ (zBB (i:=4) zKV.nd (zAJ GP hr FP (zC (pv 0) (zC (pv 1) (zC (pv 2) zL)))))
  (zQ (zA5 (zB4 (zBt (zAJ GL hr FL (zC (pv 3) zL)))) (zW zIF) zAP)
  (zQ (zLR (u':=fun (D:zKr) σ H3=>∃p:Addr,σ=[some (.ref wa),some (.int x),some (.int y),some (.int l),some (.ref p)]/\zBD H3 wa n ts/\∀H',zAo H3 H'->D.nx σ H') (zA5 (PW.pt (zER (zy zBk (zAJ GO hr FO (zC (pv 0) (zC (pv 1) (zC (pv 2) zL)))) zAh (zAC _)) (zDD (zy op_ge (zAL zA3 mLen (zC (zAA zAM (pv 0) zj) zL)) (zIL (v:=.int 60) rfl mMT ⟨tk,rfl⟩) (zAC _))))) (zW zIF) zAP) (fun D σ H3 z=>by
   obtain⟨p,rfl,W3,z⟩:=z
   refine⟨_,rfl,_,rfl,_,rfl,wa,n,ts,x,y,rfl,W3,fun r H4 s4 hr4=>?_⟩
   obtain⟨ta',tys',hwa',hta',TA',G'⟩:=W3.keep s4
   have hl':=TA'.length
   rw[zD] at hl'
   refine⟨rfl,_,rfl,?_⟩
   rcases hr4 with ⟨l',ha,rfl⟩ | ⟨hno,rfl⟩
   . exact zCa (zCa (z H4 s4))
   . refine zFZ ?_
     refine⟨_,rfl,wa,_,_,.ref ta',rfl,rfl,SqT.of hwa',rfl,ta',_,rfl,.inr (SqT.of hta'),_,_,rfl,rfl,_,rfl,ifF (zY ?_) (z H4 s4)⟩
     rcases h60 with q | q
     . obtain⟨l',ha⟩:=(zGr G ne).mpr q
       exact absurd ha (hno l')
     . rw[hl'];omega))
  (zW (zw (zBP (zC (zAA zAM (pv 0) zj) (zC (zAy zAb mTuple (zC (zAL zD4 mSorted (zC
   (zA6 op_cat (zAJ GB hr FB (zC (pv 0) (zC (pv 4) zL))) (zCX (zC (zA6 zLa (pv 4) (zBP (zC (pv 3) zL))) zL))) zL)) zL)) zL))))))),?_⟩
 refine⟨_,rfl,_,rfl,_,rfl,wa,n,ts,x,y,rfl,W,hx,hy,ne,fun p hp=>?_⟩
 have s1:=zG (o:=.tup [.int (loP x y),.int (hiP x y)]) hp
 have hp1:(upd H p (.tup [.int (loP x y),.int (hiP x y)])) p=some (.tup [.int (loP x y),.int (hiP x y)]):=zI
 generalize upd H p (.tup [.int (loP x y),.int (hiP x y)])=H1 at s1 hp1 ⊢
 refine⟨_,rfl,l,rfl,hl.1,hl.2,true,rfl,zCa ?_⟩
 refine⟨p,rfl,W.keep s1,fun H2 s2=>?_⟩
 have s02:=s1.trans s2
 have W2:=W.keep s02
 have hp2:=s2 _ _ hp1
 refine⟨_,rfl,wa,_,_,.int n,rfl,rfl,SqT.of (s02 _ _ hwa),rfl,?_⟩
 refine⟨_,rfl,_,rfl,wa,p,n,ts,_,_,rfl,W2,hp2,fun D ys H3 s3 hD0 hD3 T3=>?_⟩
 refine⟨_,rfl,_,rfl,by show 1<=sizeLine;decide,fun q hq=>?_⟩
 have s4:=zG (o:=.tup [.int l]) hq
 refine⟨p,q,_,_,rfl,rfl,s4 _ _ (s3 _ _ hp2),zI,by show 3<=sizeLine;decide,fun c H5 s5 hc=>?_⟩
 refine⟨by show 1<=sizeLine;decide,fun L hL=>?_⟩
 have s6:=zG (o:=.lst [.ref c]) hL
 have s36:=s4.trans (s5.trans s6)
 have hly:=T3.length
 have hbl:=zGC (loP x y) (hiP x y) ts
 rw[zD] at hly
 refine⟨D,L,_,_,rfl,rfl,s36 _ _ hD3,zI,Nat.le_of_lt (zAG (by show ys.length+1<=100000;omega)),fun D2 hD2=>?_⟩
 have s7:=zG (o:=.lst (ys++[.ref c])) hD2
 have T7:zAS (upd (upd H5 L (.lst [.ref c])) D2 (.lst (ys++[.ref c]))) (ys++[.ref c]) ((zCo (loP x y) (hiP x y) ts++zJE (loP x y) (hiP x y) (some l)).map tl):=by
  rw[zV]
  exact (T3.keep fun b zs e=>s7 _ _ (s36 _ _ e)).snoc ⟨c,rfl,s7 _ _ (s6 _ _ hc),by simp[tl]⟩
 refine⟨D2,_,_,rfl,SqL.of zI,T7,by rw[zD,zP];show (zCo (loP x y) (hiP x y) ts).length+1<64;omega,fun l2 us ms hl2 TA2 hpm hris=>?_⟩
 refine⟨l2,_,rfl,.inl ⟨SqL.of zI,fun ta2 hta2=>?_⟩⟩
 refine⟨by show 2<=sizeLine;decide,fun wb hwb=>?_⟩
 have s8:=(zG (o:=.lst us) hl2).trans (zG (o:=.tup us) hta2)
 have s9:=s8.trans (zG (o:=.tup [.int n,.ref ta2]) hwb)
 have s29:=(s02.trans s3).trans (s36.trans (s7.trans s8))
 obtain⟨ts',ets,pm'⟩:=zHc hpm
 have A:Aft (loP x y) (hiP x y) (some l) ts ts':=⟨pm',by unfold zFp;rw[ets];exact hris⟩
 refine k wb ts' _ ((s02.trans s3).trans (s36.trans (s7.trans s9))) (zFS s29 hwb) ⟨ta2,us,zI,zG hwb _ _ zI,?_,A.gw G a0 ab bn (fun l' e=>by cases e;exact hl) (by omega)⟩ A
 rw[ets]
 exact TA2.keep fun b zs e=>s9 _ _ e
theorem zKU:zo ["web", "one", "other", "pair"] ["web", "one", "other"] (defScope zHx):=fS0
theorem zLf (F:Fun K "without_tie" "without_tie" zHx f fd') (FP:FuB K mg "pair_of" zG3 fP fdP ["web","one","other"]) (GP:zAK P w K mg base CX0 4 fP fdP ["web", "one", "other"] zGM)
 (FO:FuB K mg "long_of" zFH fO fdO ["web","one","other"]) (GO:zAK P w K mg base CX0 4 fO fdO ["web", "one", "other"] zDc)
 (FB:FuB K mg "ties_but" sBut fB fdB ["web","pair"]) (mTuple:mg "tuple" = none) :
 zAK P w K mg base CX0 5 f fd' ["web", "one", "other"] zHi:=by
 have GB:zAK P w K mg base CX0 4 fB fdB ["web", "pair"] zK9:=(zKc FB.F).mono (by decide)
 refine F.okD zKU fun _ A _ _ H vs Q E hr h=>?_
 obtain⟨wa,n,ts,x,y,rfl,W,hS,hx,hy,ne,hsome,hle,k⟩:=h
 obtain⟨ta,tys,hwa,hta,TA,G⟩:=id W
 obtain⟨a0,ab,bn⟩:=lohi hx hy ne
 refine⟨_,zQ (zBB (i:=3) zKU.nd (zAJ GP hr FP (zC (pv 0) (zC (pv 1) (zC (pv 2) zL)))))
  (zQ (zA5 (zy zBk (zAJ GO hr FO (zC (pv 0) (zC (pv 1) (zC (pv 2) zL)))) zAh (zAC _)) (zW zIF) zAP)
  (zW (zw (zBP (zC (zAA zAM (pv 0) zj) (zC (zAy zAb mTuple (zC (zAJ GB hr FB (zC (pv 0) (zC (pv 3) zL))) zL)) zL)))))),?_⟩
 refine⟨_,rfl,_,rfl,_,rfl,wa,n,ts,x,y,rfl,W,hx,hy,ne,fun p hp=>?_⟩
 have s1:=zG (o:=.tup [.int (loP x y),.int (hiP x y)]) hp
 have hp1:(upd H p (.tup [.int (loP x y),.int (hiP x y)])) p=some (.tup [.int (loP x y),.int (hiP x y)]):=zI
 generalize upd H p (.tup [.int (loP x y),.int (hiP x y)])=H1 at s1 hp1 ⊢
 refine⟨_,rfl,_,rfl,_,rfl,wa,n,ts,x,y,rfl,W.keep s1,fun r H2 s2 hr2=>?_⟩
 have s02:=s1.trans s2
 obtain⟨l',ha,rfl⟩:∃l,Adj ts x y l/\r = .int l:=by
  rcases hr2 with z | ⟨hno,_⟩
  . exact z
  . obtain⟨l',ha⟩:=(zGr G ne).mpr hsome
    exact absurd ha (hno l')
 refine⟨rfl,_,rfl,zCa ?_⟩
 refine⟨_,rfl,wa,_,_,.int n,rfl,rfl,SqT.of (s02 _ _ hwa),rfl,?_⟩
 refine⟨_,rfl,_,rfl,wa,p,n,ts,_,_,rfl,W.keep s02,s2 _ _ hp1,fun D ys H3 s3 hD0 hD3 T3=>?_⟩
 refine⟨D,_,rfl,.inl ⟨SqL.of hD3,fun ta2 hta2=>?_⟩⟩
 refine⟨by show 2<=sizeLine;decide,fun wb hwb=>?_⟩
 have s8:=zG (o:=.tup ys) hta2
 have s9:=s8.trans (zG (o:=.tup [.int n,.ref ta2]) hwb)
 have hbl:=zGC (loP x y) (hiP x y) ts
 have A:Aft (loP x y) (hiP x y) none ts (zCo (loP x y) (hiP x y) ts):=Aft.strike hS
 exact k wb _ _ ((s02.trans s3).trans s9) (zFS ((s02.trans s3).trans s8) hwb) ⟨ta2,ys,zI,zG hwb _ _ zI,T3.keep fun b zs e=>s9 _ _ e,A.gw G a0 ab bn (fun l' e=>by cases e) (by omega)⟩ A
noncomputable def SmK (kp:Addr)(H H':Hp):Prop:=∀b o,b≠kp->H b=some o->(∃ps,o = .tbl ps)\/H' b=some o
variable {kp:Addr}
theorem SmK.of (h:zAo H H'):SmK kp H H':=fun b o _ e=>.inr (h b o e)
theorem SmK.ofT (h:SmT H H'):SmK kp H H':=fun b o _ e=>h b o e
theorem SmK.trans {H1:Hp}(a:SmK kp H H1)(b:SmK kp H1 H2):SmK kp H H2:=fun c o n e=>by
 rcases a c o n e with z | z
 . exact .inl z
 . exact b c o n z
theorem SmK.get (s:SmK kp H H'){b:Addr}{o:HO}(n:b≠kp)(e:H b=some o)(h:∀ps,o ≠ .tbl ps):H' b=some o:=by
 rcases s b o n e with ⟨ps,z⟩ | z
 . exact absurd z (h ps)
 . exact z
theorem SmK.chg {o:HO}(s:SmK kp H H'):SmK kp H (upd H' kp o):=fun b u n e=>by rw[zd n];exact s b u n e
variable {C dx:Addr}
theorem zKL {PT:Addr}{pos:Pos}{q:Str}{fs:List (Str×V)}{o:HO}(T:zCU H PT pos q)(h:H kp=some (.ins C dx fs)):zCU (upd H kp o) PT pos q:=by
 refine T.keep (fun u e=>?_) fun c φ e=>?_
 . obtain⟨ps,hps,_⟩:=T
   rw[zd (zAp hps h (by intro z;cases z))];exact e
 . rw[zd (zAp e h (by intro z;cases z))];exact e
noncomputable def fsK (la wa oa:Addr):List (Str×V):=[("labels",.ref la),("web",.ref wa),("order",.ref oa)]
structure zBC (H:Hp)(C kp dx la wa oa:Addr)(n:Int)(ts:List T3)(os:List Int)(ess:List (List En)):Prop where
 ins:H kp=some (.ins C dx (fsK la wa oa))
 web:zBD H wa n ts
 ord:H oa=some (.tup (os.map V.int))
 lab:zBT H la ess
 lof:∃rk,zKI n os rk/\zCJ ts n rk ess
 od:zKq n os
 sr:zFp ts
 bd:∀es∈ess,∀e∈es,0<=e.l/\e.l<=2376
theorem zBC.keep {H H':Hp}{C kp dx la wa oa:Addr}{n:Int}{ts:List T3}{os:List Int}{ess:List (List En)}(h:zBC H C kp dx la wa oa n ts os ess)(k1:H' kp=H kp)(k2:∀b ys,H b=some (.tup ys)->H' b=some (.tup ys)):zBC H' C kp dx la wa oa n ts os ess:=
 ⟨k1.trans h.ins,h.web.keepT k2,k2 _ _ h.ord,h.lab.keep k2,h.lof,h.od,h.sr,h.bd⟩
variable {oa:Addr}
theorem zBC.same (h:zBC H C kp dx la wa oa n ts os ess)(s:zAo H H'):zBC H' C kp dx la wa oa n ts os ess:=
 h.keep ((s _ _ h.ins).trans h.ins.symm) fun b ys e=>s _ _ e
noncomputable def enL (e:En):List (Option Int):=[some e.h,some e.l,e.u,e.d]
noncomputable def zF6 (es:List En):List (List (Option Int)):=es.map enL
theorem zBv.tab {K:PySem.W.Frag}(h:zBv H p es):TabT K H p (zF6 es):=by
 obtain⟨as,h1,h2,_⟩:=h
 refine⟨as,SqT.of h1,by unfold zF6;rw[zD];exact h2.1,fun i r row hr hrow=>?_⟩
 obtain⟨e,he,hH⟩:=h2.2 i r hr
 unfold zF6 at hrow
 rw[zN,he] at hrow
 have e1:enL e=row:=zR hrow
 rw[<-e1]
 exact hH
noncomputable def dif (n:Nat)(ess ess':List (List En)):List Int:=(lowTo n).filter fun i=>!decide (zF6 (ess.getD i.toNat [])=zF6 (ess'.getD i.toNat []))
theorem zE2 (n:Nat)(ess ess':List (List En)):dif n ess ess'=dif n ess' ess:=by
 unfold dif
 congr 1
 funext i
 congr 1
 by_cases h:zF6 (ess.getD i.toNat [])=zF6 (ess'.getD i.toNat [])
 . rw[zO h,zO h.symm]
 . rw[zY h,zY fun z=>h z.symm]
theorem zEY (m:Nat):lowTo (m+1)=lowTo m++[(m:Int)]:=by
 unfold lowTo
 rw[List.range_succ,zV];rfl
theorem zBT.at_ (h:zBT H l ess)(hi:i<ess.length):∃(as:List Addr)(a:Addr),H l=some (.tup (as.map V.ref))/\(as.map V.ref)[i]? = some (.ref a)/\zBv H a (ess.getD i []):=by
 obtain⟨as,h1,h2,h3⟩:=h
 have hl:i<as.length:=by omega
 obtain⟨es,e1,e2⟩:=h3 i as[i] (zB hl)
 refine⟨as,as[i],h1,by rw[zN,zB hl];rfl,?_⟩
 rw[zE,e1]
 exact e2
structure KC (K:PySem.W.Frag)(mg:sOV)(C fI fP fS fT fW fL:Addr):Prop where
 mC:mg "Keeper" = some (.ref C)
 mI:Mk K C fI
 cl:Cls K C
 nl:zCT K C "labels"
 nw:zCT K C "web"
 no:zCT K C "order"
 mP:zGt K C "put" fP
 mS:zGt K C "strike" fS
 mT:zGt K C "turn_to" fT
 mW:zGt K C "web_now" fW
 mL:zGt K C "labels_now" fL
noncomputable def spKI (C PT:Addr):Sp:=fun vs H Q _=>∃(kp dx wa oa:Addr)(n:Int)(ts:List T3)(os:List Int),vs=[.ref kp,.ref wa,.ref oa]/\H kp=some (.ins C dx [])/\zBD H wa n ts/\zFp ts/\H oa=some (.tup (os.map V.int))/\zKq n os/\Tb H PT /\
 ∀(la:Addr)(ess:List (List En))(H':Hp),SmK kp H H'->Tb H' PT->zBC H' C kp dx la wa oa n ts os ess->Q .non H'
noncomputable def spKW (C:Addr):Sp:=fun vs H Q _=>∃(kp dx la wa oa:Addr)(n:Int)(ts:List T3)(os:List Int)(ess:List (List En)),vs=[.ref kp]/\zBC H C kp dx la wa oa n ts os ess/\Q (.ref wa) H
noncomputable def spKL (C:Addr):Sp:=fun vs H Q _=>∃(kp dx la wa oa:Addr)(n:Int)(ts:List T3)(os:List Int)(ess:List (List En)),vs=[.ref kp]/\zBC H C kp dx la wa oa n ts os ess/\Q (.ref la) H
noncomputable def spKT (C PT:Addr):Sp:=fun vs H Q _=>∃(kp dx la wa oa wb:Addr)(n:Int)(ts ts2:List T3)(os:List Int)(ess:List (List En)),vs=[.ref kp,.ref wb]/\zBC H C kp dx la wa oa n ts os ess/\zBD H wb n ts2/\zFp ts2/\Tb H PT /\
 ∀(pa la':Addr)(ess':List (List En))(H':Hp),SmK kp H H'->Tb H' PT->zBC H' C kp dx la' wb oa n ts2 os ess'->H' pa=some (.tup ((dif n.toNat ess ess').map V.int))->Q (.ref pa) H'
noncomputable def zMJ (C PT kp dx oa:Addr)(n x y:Int)(lo:Option Int)(ts:List T3)(os:List Int)(ess:List (List En))(H:Hp)(Q:VK):Prop:=
 ∀(pa la' wb:Addr)(ts2:List T3)(ess':List (List En))(H':Hp),SmK kp H H'->Tb H' PT->zBC H' C kp dx la' wb oa n ts2 os ess'->Aft (loP x y) (hiP x y) lo ts ts2->H' pa=some (.tup ((dif n.toNat ess ess').map V.int))->Q (.ref pa) H'
noncomputable def spKP (C PT:Addr):Sp:=fun vs H Q _=>∃(kp dx la wa oa:Addr)(n x y l:Int)(ts:List T3)(os:List Int)(ess:List (List En)),vs=[.ref kp,.int x,.int y,.int l]/\zBC H C kp dx la wa oa n ts os ess/\(0<=x/\x<n)/\(0<=y/\y<n)/\x≠y/\(1<=l/\l<=99)/\((zBu (loP x y) (hiP x y) ts).isSome=true\/ts.length<60)/\ts.length<=60/\Tb H PT/\zMJ C PT kp dx oa n x y (some l) ts os ess H Q
noncomputable def spKS (C PT:Addr):Sp:=fun vs H Q _=>∃(kp dx la wa oa:Addr)(n x y:Int)(ts:List T3)(os:List Int)(ess:List (List En)),vs=[.ref kp,.int x,.int y]/\zBC H C kp dx la wa oa n ts os ess/\(0<=x/\x<n)/\(0<=y/\y<n)/\x≠y/\(zBu (loP x y) (hiP x y) ts).isSome=true/\ts.length<=60/\Tb H PT/\zMJ C PT kp dx oa n x y none ts os ess H Q
theorem put1 (la:V):zDE "labels" la []=([("labels",la)]:List (Str×V)):=rfl
theorem put2 (la wa:V):zDE "web" wa [("labels",la)]=([("labels",la),("web",wa)]:List (Str×V)):=by
 unfold zDE;rw[if_neg (by decide)];rfl
theorem put3 (la wa oa:V):zDE "order" oa [("labels",la),("web",wa)]=([("labels",la),("web",wa),("order",oa)]:List (Str×V)):=by
 unfold zDE;rw[if_neg (by decide)];unfold zDE;rw[if_neg (by decide)];rfl
theorem put4 (la wa oa la':V):zDE "labels" la' [("labels",la),("web",wa),("order",oa)]=([("labels",la'),("web",wa),("order",oa)]:List (Str×V)):=by
 unfold zDE;rw[if_pos rfl]
theorem put5 (la wa oa wb:V):zDE "web" wb [("labels",la),("web",wa),("order",oa)]=([("labels",la),("web",wb),("order",oa)]:List (Str×V)):=by
 unfold zDE;rw[if_neg (by decide)];unfold zDE;rw[if_pos rfl]
section
variable {P:Program}{w:World}{K:PySem.W.Frag}{mg:sOV}{base:Heap}{C fI fP fS fT fW fL PT:Addr}
theorem scKW:zo ["self"] ["self"] (defScope sKW):=fS0
theorem ok_KW (T:KC K mg C fI fP fS fT fW fL)(F:Fun K "web_now" "Keeper.web_now" sKW f fd'):zAK P w K mg base CX0 1 f fd' ["self"] (spKW C):=by
 refine F.okD scKW fun _ A _ _ H vs Q E hr h=>?_
 obtain⟨kp,dx,la,wa,oa,n,ts,os,ess,rfl,k,q⟩:=h
 refine⟨_,zW (zw (zCY (pv 0) rfl)),?_⟩
 exact⟨_,rfl,kp,C,dx,_,_,rfl,k.ins,T.cl,T.nw,rfl,q⟩
theorem scKL:zo ["self"] ["self"] (defScope sKL):=fS0
theorem ok_KL (T:KC K mg C fI fP fS fT fW fL)(F:Fun K "labels_now" "Keeper.labels_now" sKL f fd'):zAK P w K mg base CX0 1 f fd' ["self"] (spKL C):=by
 refine F.okD scKL fun _ A _ _ H vs Q E hr h=>?_
 obtain⟨kp,dx,la,wa,oa,n,ts,os,ess,rfl,k,q⟩:=h
 refine⟨_,zW (zw (zCY (pv 0) rfl)),?_⟩
 exact⟨_,rfl,kp,C,dx,_,_,rfl,k.ins,T.cl,T.nl,rfl,q⟩
theorem scKI:zo ["self", "web", "order"] ["self", "web", "order"] (defScope sKI):=fS0
theorem ok_KI (T:KC K mg C fI fP fS fT fW fL)(F:Fun K "__init__" "Keeper.__init__" sKI f fd') (FB:FuB K mg "by_order" zLM fB fdB ["web","order"]) (GB:zAK P w K mg base CX0 6 fB fdB ["web", "order"] (zHs PT)) :
 zAK P w K mg base CX0 7 f fd' ["self", "web", "order"] (spKI C PT):=by
 refine F.okD scKI fun _ A _ _ H vs Q E hr h=>?_
 obtain⟨kp,dx,wa,oa,n,ts,os,rfl,hkp,W,sr,hoa,O,TT,q⟩:=h
 refine⟨_,zQ (zFO (pv 0) (zAJ GB hr FB (zC (pv 1) (zC (pv 2) zL))) rfl)
  (zQ (zFO (pv 0) (pv 1) rfl) (zW (zFO (pv 0) (pv 2) rfl))),?_⟩
 refine⟨_,rfl,_,rfl,wa,oa,n,ts,os,rfl,W,hoa,O,TT,fun la ess rk H1 s1 T1 L1 R1 LO bd=>?_⟩
 have hkp1:H1 kp=some (.ins C dx []):=s1.get hkp (by intro ps z;cases z)
 refine⟨_,rfl,kp,C,dx,_,rfl,hkp1,T.cl,T.nl,by show 0<1000;decide,?_⟩
 rw[put1]
 refine⟨_,rfl,_,rfl,kp,C,dx,_,rfl,zI,T.cl,T.nw,by show 1<1000;decide,?_⟩
 rw[put2,zBZ]
 refine⟨_,rfl,_,rfl,kp,C,dx,_,rfl,zI,T.cl,T.no,by show 2<1000;decide,?_⟩
 rw[put3,zBZ]
 have tk:∀b ys,H1 b=some (.tup ys)->(upd H1 kp (.ins C dx (fsK la wa oa))) b=some (.tup ys):=fun b ys e=>by rw[zd (zAp e hkp1 (by intro z;cases z))];exact e
 refine q la ess _ (SmK.ofT s1).chg (zKL T1 hkp1) ⟨zI,(W.keepT fun b ys e=>s1.get e (by intro ps z;cases z)).keepT tk,tk _ _ (s1.get hoa (by intro ps z;cases z)),L1.keep tk,⟨rk,R1,LO⟩,O,sr,bd⟩
theorem scKT:zo ["self", "web", "ahead"] ["self", "web"] (defScope sKT):=fS0
theorem ok_KT (T:KC K mg C fI fP fS fT fW fL)(F:Fun K "turn_to" "Keeper.turn_to" sKT f fd') (FB:FuB K mg "by_order" zLM fB fdB ["web","order"]) (GB:zAK P w K mg base CX0 6 fB fdB ["web", "order"] (zHs PT))
 (mRange:mg "range" = none) (mTuple:mg "tuple" = none):zAK P w K mg base CX0 7 f fd' ["self", "web"] (spKT C PT):=by
 refine F.ok scKT (fun vs H Q E h=>?_) (fun cdv A outer s H vs Q E hr h=>?_)
 . obtain⟨kp,dx,la,wa,oa,wb,n,ts,ts2,os,ess,rfl,_⟩:=h
   rfl
 . obtain⟨kp,dx,la,wa,oa,wb,n,ts,ts2,os,ess,rfl,k,W2,sr2,TT,q⟩:=h
   have hu1:(A.deeper (PyProof.Rows.envOfC (Str.ofString "Keeper.turn_to") (defScope sKT) s.heap.objs.size f cdv)).units+1<cLine:=by have:=hr.un;omega
   obtain⟨ta,tys,hwb,_,_,G⟩:=id W2
   have hn1:=G.n1
   have hn24:=G.n24
   refine⟨_,zQ (zCw (i:=2) scKT.nd rfl (Or.inr rfl) (zCY (pv 0) rfl))
    (zQ (zFO (pv 0) (zAJ GB hr FB (zC (pv 1) (zC (zCY (pv 0) rfl) zL))) rfl)
    (zQ (zFO (pv 0) (pv 1) rfl)
    (zW (zw (zAy zAb mTuple (zC (zA7 (own:=["place"]) (cn:=["self", "ahead"]) (ci:=[0,2]) rfl (csc rfl rfl) ⟨rfl,rfl,rfl,rfl,rfl,rfl,trivial⟩ rfl
     (zAm rfl mRange (zC (zAA zAM (pv 1) zj) zL)) (fun _ _ _ _=>zBx)
     (fun _ _ _ _=>zB7 (zy (zGa hu1) (zAA zBd (zLU (pv 1) rfl) (pv 0)) (zAA zBd (pv 2) (pv 0)) (zAC _))) (fun _ _ _ _=>pv 0)) zL)))))),?_⟩
   refine⟨_,rfl,kp,C,dx,_,_,rfl,k.ins,T.cl,T.nl,rfl,?_⟩
   refine⟨_,rfl,_,rfl,kp,C,dx,_,.ref oa,rfl,k.ins,T.cl,T.no,rfl,wb,oa,n,ts2,os,rfl,W2,k.ord,k.od,TT,fun la2 ess2 rk2 H1 s1 T1 L1 R1 LO bd=>?_⟩
   have hkp1:H1 kp=some (.ins C dx (fsK la wa oa)):=s1.get k.ins (by intro ps z;cases z)
   refine⟨_,rfl,kp,C,dx,_,rfl,hkp1,T.cl,T.nl,by show 3<1000;decide,?_⟩
   unfold fsK at hkp1 ⊢
   rw[put4]
   refine⟨_,rfl,_,rfl,kp,C,dx,_,rfl,zI,T.cl,T.nw,by show 3<1000;decide,?_⟩
   rw[put5,zBZ]
   have tk1:∀b ys,H b=some (.tup ys)->H1 b=some (.tup ys):=fun b ys e=>s1.get e (by intro ps z;cases z)
   have tk:∀b ys,H1 b=some (.tup ys)->(upd H1 kp (.ins C dx (fsK la2 wb oa))) b=some (.tup ys):=fun b ys e=>by rw[zd (zAp e hkp1 (by intro z;cases z))];exact e
   have K2:zBC (upd H1 kp (.ins C dx (fsK la2 wb oa))) C kp dx la2 wb oa n ts2 os ess2:=⟨zI,(W2.keepT tk1).keepT tk,tk _ _ (tk1 _ _ k.ord),L1.keep tk,⟨rk2,R1,LO⟩,k.od,sr2,bd⟩
   have La:zBT (upd H1 kp (.ins C dx (fsK la2 wb oa))) la ess:=(k.lab.keep tk1).keep tk
   have sm2:SmK kp H (upd H1 kp (.ins C dx (fsK la2 wb oa))):=(SmK.ofT s1).chg
   have T2:Tb (upd H1 kp (.ins C dx (fsK la2 wb oa))) PT:=zKL T1 hkp1
   have hwb2:=tk _ _ (tk1 _ _ hwb)
   rw[show ([("labels",V.ref la2),("web",V.ref wb),("order",V.ref oa)]:List (Str×V))=fsK la2 wb oa from rfl]
   generalize upd H1 kp (.ins C dx (fsK la2 wb oa))=H2 at K2 La sm2 T2 hwb2 ⊢
   refine⟨_,rfl,wb,_,_,_,rfl,rfl,SqT.of hwb2,rfl,n,rfl,by omega,by omega,[.ref kp,.ref la],rfl,fun D hD=>?_⟩
   obtain⟨rk1,_,LOa⟩:=k.lof
   have l1:ess.length=n.toNat:=LOa.1
   have l2:ess2.length=n.toNat:=LO.1
   refine zBF (lo:=0) (n:=n.toNat) (fun j ys H4=>j<=n.toNat/\ys=(dif j ess2 ess).map V.int/\H4=upd H2 D (.lst ys)) ⟨zh _,rfl,rfl⟩ (fun j ys H4 z=>?_) (fun j ys H4 hj z=>?_) (fun ys H4 z=>?_)
   . obtain⟨hj,rfl,_⟩:=z
     have h2:=zr (fun i:Int=>!decide (zF6 (ess2.getD i.toNat [])=zF6 (ess.getD i.toNat []))) (lowTo j)
     rw[zCN] at h2
     rw[zD]
     exact zAG (by unfold dif;omega)
   . obtain⟨_,rfl,rfl⟩:=z
     rw[zAf]
     have sD:=zG (o:=.lst ((dif j ess2 ess).map V.int)) hD
     obtain⟨as2,b2,e1,e2,e3⟩:=K2.lab.at_ (i:=j) (by omega)
     obtain⟨as1,b1,f1,f2,f3⟩:=La.at_ (i:=j) (by omega)
     refine⟨⟨rfl,rfl⟩,?_⟩
     refine⟨_,rfl,kp,C,dx,_,.ref la2,rfl,sD _ _ K2.ins,T.cl,T.nl,rfl,_,rfl,la2,_,_,.ref b2,rfl,rfl,SqT.of (sD _ _ e1),zCs e2,?_⟩
     refine⟨_,rfl,_,rfl,la,_,_,.ref b1,rfl,rfl,SqT.of (sD _ _ f1),zCs f2,?_⟩
     refine⟨b2,b1,_,_,rfl,rfl,(e3.same sD).tab,(f3.same sD).tab,_,rfl,?_⟩
     have ed:dif (j+1) ess2 ess=dif j ess2 ess++(if (!decide (zF6 (ess2.getD j [])=zF6 (ess.getD j [])))=true then [(j:Int)] else []):=by
      unfold dif
      rw[zEY,zAV]
      congr 1
      rw[zA2,zAe,zBj]
     refine zEC (fun c=>?_) (fun c=>?_)
     . refine⟨_,rfl,zI,hj,?_,zBZ⟩
       rw[ed,if_pos (by exact c),zV];rfl
     . refine⟨hj,?_,rfl⟩
       rw[ed,if_neg (by exact c),zt]
   . obtain⟨_,rfl,rfl⟩:=z
     have sD:=zG (o:=.lst ((dif n.toNat ess2 ess).map V.int)) hD
     refine⟨D,_,rfl,.inl ⟨SqL.of zI,fun pa hpa=>?_⟩⟩
     have s3:=sD.trans (zG (o:=.tup ((dif n.toNat ess2 ess).map V.int)) hpa)
     refine q pa la2 ess2 _ (sm2.trans (SmK.of s3)) (T2.same s3) (K2.same s3) ?_
     rw[zE2,zI]
theorem scKP:zo ["self", "one", "other", "long"] ["self", "one", "other", "long"] (defScope sKP):=fS0
theorem ok_KP {fX:Addr}{fdX:FuncData}(T:KC K mg C fI fP fS fT fW fL)(F:Fun K "put" "Keeper.put" sKP f fd') (FX:FuB K mg "with_tie" zHy fX fdX ["web","one","other","long"]) (GX:zAK P w K mg base CX0 7 fX fdX ["web", "one", "other", "long"] zHj)
 (bT:zBw K fdT ["self", "web"] []) (GT:zAK P w K mg base CX0 7 fT fdT ["self", "web"] (spKT C PT)):zAK P w K mg base CX0 8 f fd' ["self", "one", "other", "long"] (spKP C PT):=by
 refine F.okD scKP fun _ A _ _ H vs Q E hr h=>?_
 obtain⟨kp,dx,la,wa,oa,n,x,y,l,ts,os,ess,rfl,k,hx,hy,ne,hl,h60,hle,TT,q⟩:=h
 refine⟨_,zW (zw (zDG (pv 0) T.cl T.mT GT hr bT .nil zCy (zC (zAJ GX hr FX (zC (zCY (pv 0) rfl) (zC (pv 1) (zC (pv 2) (zC (pv 3) zL))))) zL))),?_⟩
 refine⟨_,rfl,kp,dx,_,rfl,k.ins,rfl,?_⟩
 refine⟨_,rfl,kp,C,dx,_,.ref wa,rfl,k.ins,T.cl,T.nw,rfl,_,rfl,_,rfl,_,rfl,wa,n,ts,x,y,l,rfl,k.web,hx,hy,ne,hl,h60,hle,fun wb ts' H1 s1 _ W1 A1=>?_⟩
 refine⟨kp,dx,la,wa,oa,wb,n,ts,ts',os,ess,rfl,k.same s1,W1,A1.sr,TT.same s1,fun pa la' ess' H2 s2 T2 K2 hpa=>?_⟩
 exact q pa la' wb ts' ess' H2 ((SmK.of s1).trans s2) T2 K2 A1 hpa
theorem scKS:zo ["self", "one", "other"] ["self", "one", "other"] (defScope sKS):=fS0
theorem ok_KS {fX:Addr}{fdX:FuncData}(T:KC K mg C fI fP fS fT fW fL)(F:Fun K "strike" "Keeper.strike" sKS f fd') (FX:FuB K mg "without_tie" zHx fX fdX ["web","one","other"]) (GX:zAK P w K mg base CX0 7 fX fdX ["web", "one", "other"] zHi)
 (bT:zBw K fdT ["self", "web"] []) (GT:zAK P w K mg base CX0 7 fT fdT ["self", "web"] (spKT C PT)):zAK P w K mg base CX0 8 f fd' ["self", "one", "other"] (spKS C PT):=by
 refine F.okD scKS fun _ A _ _ H vs Q E hr h=>?_
 obtain⟨kp,dx,la,wa,oa,n,x,y,ts,os,ess,rfl,k,hx,hy,ne,hsm,hle,TT,q⟩:=h
 refine⟨_,zW (zw (zDG (pv 0) T.cl T.mT GT hr bT .nil zCy (zC (zAJ GX hr FX (zC (zCY (pv 0) rfl) (zC (pv 1) (zC (pv 2) zL)))) zL))),?_⟩
 refine⟨_,rfl,kp,dx,_,rfl,k.ins,rfl,?_⟩
 refine⟨_,rfl,kp,C,dx,_,.ref wa,rfl,k.ins,T.cl,T.nw,rfl,_,rfl,_,rfl,wa,n,ts,x,y,rfl,k.web,k.sr,hx,hy,ne,hsm,hle,fun wb ts' H1 s1 _ W1 A1=>?_⟩
 refine⟨kp,dx,la,wa,oa,wb,n,ts,ts',os,ess,rfl,k.same s1,W1,A1.sr,TT.same s1,fun pa la' ess' H2 s2 T2 K2 hpa=>?_⟩
 exact q pa la' wb ts' ess' H2 ((SmK.of s1).trans s2) T2 K2 A1 hpa
end
noncomputable def Lof (n:Int)(os:List Int)(ts:List T3)(ess:List (List En)):Prop:=∃rk,zKI n os rk/\zCJ ts n rk ess
theorem Lof.uniq {n:Int}{os:List Int}{ts:List T3}{e e':List (List En)}(G:GW n ts)(O:zKq n os)(a:Lof n os ts e)(b:Lof n os ts e'):e=e':=by
 obtain⟨rk,r1,l1⟩:=a
 obtain⟨rk',r2,l2⟩:=b
 exact zCJ.uniq G O.nd r1 r2 l1 l2
theorem zBT.at {ll:Addr}(h:zBT H ll ess)(hl:ess.length=n.toNat)(h0:0<=x)(h1:x<n):∃(as:List Addr)(a:Addr)(es:List En),H ll=some (.tup (as.map V.ref))/\(as.map V.ref)[x.toNat]? = some (.ref a)/\ess[x.toNat]? = some es/\zBv H a es:=by
 obtain⟨as,e1,e2,e3⟩:=h
 have hx:x.toNat<as.length:=by omega
 obtain⟨es,g1,g2⟩:=e3 x.toNat as[x.toNat] (zB hx)
 exact⟨as,as[x.toNat],es,e1,by rw[zN,zB hx];rfl,g1,g2⟩
theorem zBT.two {ll:Addr}(h:zBT H ll ess)(g:zJH ts n ess)(x0:0<=x)(x1:x<n)(y0:0<=y)(y1:y<n):∃(as:List Addr)(a b:Addr)(es fs:List En),H ll=some (.tup (as.map V.ref))/\(as.map V.ref)[x.toNat]? = some (.ref a)/\(as.map V.ref)[y.toNat]? = some (.ref b)/\zBv H a es/\zBv H b fs/\LG ts n x es/\LG ts n y fs/\CovP ts x y es fs:=by
 obtain⟨as,ax,ex,hll,gx,ix,lx⟩:=h.at g.ln x0 x1
 obtain⟨as2,ay,ey,hll2,gy,iy,ly⟩:=h.at g.ln y0 y1
 have eas:as2.map V.ref=as.map V.ref:=by rw[hll] at hll2;injection hll2 with h;injection h with h;exact h.symm
 rw[eas] at gy
 have Lx:=g.lg _ _ ix
 have Ly:=g.lg _ _ iy
 have Cxy:=g.cov _ _ _ _ ix iy
 rw[Int.toNat_of_nonneg x0] at Lx Cxy
 rw[Int.toNat_of_nonneg y0] at Ly Cxy
 exact⟨as,ax,ay,ex,ey,hll,gx,gy,lx,ly,Lx,Ly,Cxy⟩
theorem zBC.gd (h:zBC H C kp dx la wa oa n ts os ess):GW n ts/\zJH ts n ess:=by
 obtain⟨ta,tys,_,_,_,G⟩:=h.web
 obtain⟨rk,R,L⟩:=h.lof
 exact⟨G,L.good G R⟩
noncomputable def zFo (ts:List T3)(x y:Int)(o:Option Int):Prop:=(x=y->o=none)/\(Len ts x y none->o=none)/\∀d,x≠y->WM.IsD ts x y d->∃p,o=some p/\Nxt ts x y p
noncomputable def spKN (C:Addr):Sp:=fun vs H Q _=>∃(kp dx la wa oa:Addr)(n x y:Int)(ts:List T3)(os:List Int)(ess:List (List En)),vs=[.ref kp,.int x,.int y]/\zBC H C kp dx la wa oa n ts os ess/\(0<=x/\x<n)/\(0<=y/\y<n)/\∀(o:Option Int)(H':Hp),zAo H H'->Len ts x y o->Q (oV o) H'
noncomputable def spKU (C:Addr):Sp:=fun vs H Q _=>∃(kp dx la wa oa:Addr)(n x y:Int)(ts:List T3)(os:List Int)(ess:List (List En)),vs=[.ref kp,.int x,.int y]/\zBC H C kp dx la wa oa n ts os ess/\(0<=x/\x<n)/\(0<=y/\y<n)/\∀(o:Option Int)(H':Hp),zAo H H'->zFo ts x y o->Q (oV o) H'
section
variable {P:Program}{w:World}{K:PySem.W.Frag}{mg:sOV}{base:Heap}{C fI fP fS fT fW fL PT:Addr}
theorem scKN:zo ["self", "one", "other"] ["self", "one", "other"] (defScope sKN):=fS0
theorem ok_KN (T:KC K mg C fI fP fS fT fW fL)(F:Fun K "length_of" "Keeper.length_of" sKN f fd') (FB:FuB K mg "told" zFv fB fdB ["one","other"]) (GB:zAK P w K mg base CX0 3 fB fdB ["one", "other"] zFB) :
 zAK P w K mg base CX0 4 f fd' ["self", "one", "other"] (spKN C):=by
 refine F.okD scKN fun _ A _ _ H vs Q E hr h=>?_
 obtain⟨kp,dx,la,wa,oa,n,x,y,ts,os,ess,rfl,k,hx,hy,q⟩:=h
 refine⟨_,zW (zw (zAJ GB hr FB (zC (zAA zAM (zCY (pv 0) rfl) (pv 1)) (zC (zAA zAM (zCY (pv 0) rfl) (pv 2)) zL)))),?_⟩
 obtain⟨G,L⟩:=k.gd
 obtain⟨as,ax,ay,es,fs,hl,gx,gy,lx,ly,Lx,Ly,Cv⟩:=k.lab.two L hx.1 hx.2 hy.1 hy.2
 refine⟨_,rfl,kp,C,dx,_,.ref la,rfl,k.ins,T.cl,T.nl,rfl,_,rfl,la,_,_,.ref ax,rfl,rfl,SqT.of hl,zAn hx.1 gx,?_⟩
 refine⟨_,rfl,kp,C,dx,_,.ref la,rfl,k.ins,T.cl,T.nl,rfl,_,rfl,la,_,_,.ref ay,rfl,rfl,SqT.of hl,zAn hy.1 gy,?_⟩
 exact⟨ax,ay,es,fs,rfl,lx,ly,Ly.hub,fun lm H1 s1 hm=>q _ _ s1 (zCF G Lx Ly Cv hm).1⟩
theorem scKU:zo ["self", "one", "other"] ["self", "one", "other"] (defScope sKU):=fS0
theorem ok_KU (T:KC K mg C fI fP fS fT fW fL)(F:Fun K "step_of" "Keeper.step_of" sKU f fd') (FB:FuB K mg "next_step" zH0 fB fdB ["one","other"]) (GB:zAK P w K mg base CX0 3 fB fdB ["one", "other"] zHk) :
 zAK P w K mg base CX0 4 f fd' ["self", "one", "other"] (spKU C):=by
 refine F.okD scKU fun _ A _ _ H vs Q E hr h=>?_
 obtain⟨kp,dx,la,wa,oa,n,x,y,ts,os,ess,rfl,k,hx,hy,q⟩:=h
 refine⟨_,zW (zw (zAJ GB hr FB (zC (zAA zAM (zCY (pv 0) rfl) (pv 1)) (zC (zAA zAM (zCY (pv 0) rfl) (pv 2)) zL)))),?_⟩
 obtain⟨G,L⟩:=k.gd
 obtain⟨as,ax,ay,es,fs,hl,gx,gy,lx,ly,Lx,Ly,Cv⟩:=k.lab.two L hx.1 hx.2 hy.1 hy.2
 refine⟨_,rfl,kp,C,dx,_,.ref la,rfl,k.ins,T.cl,T.nl,rfl,_,rfl,la,_,_,.ref ax,rfl,rfl,SqT.of hl,zAn hx.1 gx,?_⟩
 refine⟨_,rfl,kp,C,dx,_,.ref la,rfl,k.ins,T.cl,T.nl,rfl,_,rfl,la,_,_,.ref ay,rfl,rfl,SqT.of hl,zAn hy.1 gy,?_⟩
 obtain⟨e,r,he,hev⟩:=Lx.zero G
 obtain⟨f',r',hf,hfv⟩:=Ly.zero G
 refine⟨ax,ay,es,fs,e,f',r,r',rfl,lx,ly,Lx.hub,Ly.hub,he,hf,fun lm H1 s1 hm=>q _ _ s1 ?_⟩
 rw[hev,hfv]
 have tr:=zCF G Lx Ly Cv hm
 cases lm with
 | none=>exact⟨fun _=>rfl,fun _=>rfl,fun d _ hd=>absurd hd.1 (tr.1 d)⟩
 | some c=>
  have hD:WM.IsD ts x y c.1:=tr.1
  refine⟨fun e=>?_,fun z=>absurd hD.1 (z _),fun d ne hd=>zG0 G Lx Ly Cv hm ne⟩
  show (if x=y then none else _)=none
  rw[if_pos e]
end
structure EOk (n:Int)(e:En):Prop where
 rng:0<=e.h/\e.h<n
 nn:0<=e.l
 own:e.l=0->e.u=none/\e.d=none
 far:e.l≠0->∃u d,e.u=some u/\e.d=some d/\0<=u/\u<n/\0<=d/\d<n
structure zMI (n:Int)(es:List En):Prop where
 ent:∀e∈es,EOk n e
 hub:Hub es
 len:(es.length:Int)<=n
 one:(es.map (·.l)).countP (fun x=>x==0)=1
noncomputable def spRis:Sp:=fun vs H Q _=>∃(p:Addr)(xs:List Int),vs=[.ref p]/\H p=some (.lst (xs.map V.int))/\xs.Pairwise (· < ·)/\xs.length<=1000/\∀H',zAo H H'->Q (.bl true) H'
noncomputable def zHq:Sp:=fun vs H Q _=>∃(n:Int)(a:Addr)(e:En),vs=[.int n,.ref a]/\H a=some (.tup (eV e))/\EOk n e/\Q (.bl true) H
noncomputable def zHo:Sp:=fun vs H Q _=>∃(n:Int)(p:Addr)(es:List En),vs=[.int n,.ref p]/\zBv H p es/\zMI n es/\∀H',zAo H H'->Q (.bl true) H'
noncomputable def zFr:Sp:=fun vs H Q _=>∃(n:Int)(l:Addr)(ess:List (List En)),vs=[.int n,.ref l]/\zBT H l ess/\(ess.length:Int)=n/\n<=24/\(∀es∈ess,zMI n es)/\∀H',zAo H H'->Q (.bl true) H'
theorem scRis:zo ["things"] ["things"] (defScope sRis):=fS0
theorem ok_ris (F:Fun K "is_rising" "is_rising" sRis f fd') (mLen:mg "len" = none) (mRange:mg "range" = none) (mAll:mg "all" = none):zAK P w K mg base CX0 1 f fd' ["things"] spRis:=by
 refine F.okD scRis fun _ A _ _ H vs Q E hr h=>?_
 obtain⟨p,xs,rfl,hp,hrise,hl,k⟩:=h
 refine⟨_,zW (zw (zAL (zC8 rfl) mAll (zC (zA7 (own:=["k"]) (cn:=["things"]) (ci:=[0]) rfl (csc rfl rfl) ⟨rfl,rfl,rfl,trivial⟩ rfl
  (zFP rfl mRange (zC zj (zC (zAL zA3 mLen (zC (pv 0) zL)) zL))) (fun _ _ _ _=>zBx) (fun _ _ _ _=>zBa)
  (fun _ _ _ _=>zBR zJs (zAA zCh (pv 1) (zA6 zDi (pv 0) zj)) (zAA zCh (pv 1) (pv 0)) (zAC _))) zL))),?_⟩
 refine⟨_,rfl,p,_,rfl,.inl (SqL.of hp),1,_,rfl,⟨by decide,by decide,by rw[zD];omega,by rw[zD];omega⟩,[.ref p],rfl,fun D hD=>?_⟩
 refine zBF (lo:=1) (n:=(((xs.map V.int).length:Int)-1).toNat) (fun q ys H4=>q<=(((xs.map V.int).length:Int)-1).toNat/\ys=(List.replicate q true).map V.bl/\H4=upd H D (.lst ys)) ⟨zh _,rfl,rfl⟩ (fun q ys H4 z=>?_) (fun q ys H4 hq z=>?_) (fun ys H4 z=>?_)
 . obtain⟨hq,rfl,_⟩:=z
   rw[zD] at hq
   rw[zD,zAH]
   exact zB1 (by omega)
 . obtain⟨_,rfl,rfl⟩:=z
   rw[zD] at hq
   have hp4:=zG (o:=.lst ((List.replicate q true).map V.bl)) hD _ _ hp
   have h1:q<xs.length:=by omega
   have h2:q+1<xs.length:=by omega
   refine⟨⟨rfl,rfl⟩,?_⟩
   refine zE7 ?_
   refine⟨_,rfl,_,rfl,_,_,rfl,rfl,p,_,_,.int xs[q],rfl,rfl,SqL.of hp4,zAn (by omega) (by rw[show ((1:Int)+q-1).toNat=q by omega,zN,zB h1];rfl),_,rfl,_,rfl,p,_,_,.int xs[q+1],rfl,rfl,SqL.of hp4,zAn (by omega) (by rw[show ((1:Int)+q).toNat=q+1 by omega,zN,zB h2];rfl),_,_,rfl,rfl,zI,by rw[zD];omega,?_,zBZ⟩
   have hlt:=zAd.mp hrise q (q+1) h1 h2 (by omega)
   dsimp only
   rw[zO hlt,List.replicate_succ',zV];rfl
 . obtain⟨_,rfl,rfl⟩:=z
   refine⟨D,_,rfl,SqL.of zI,?_⟩
   have hall:∀m,(List.replicate m true).all id=true:=fun m=>zAj.mpr fun b hb=>(List.mem_replicate.mp hb).2
   rw[hall]
   exact k _ (zG hD)
theorem scEnt9:zo ["n", "thing"] ["n", "thing"] (defScope zH7):=fS0
theorem zLu {fT:Addr}(F:Fun K "is_entry" "is_entry" zH7 f fd') (FT:FuB K mg "is_tuple_of" zLL fT fdT ["thing","count"])
 (FW:FuB K mg "is_within" sWi fW fdW ["thing","least","most"]) (FP:FuB K mg "is_place" sPl fP fdP ["n","thing"]) (FN:FuB K mg "is_number" zJZ fN fdN ["thing"])
 (mIsi:mg "isinstance" = none) (mInt:mg "int" = none) (mBool:mg "bool" = none) (mTuple:mg "tuple" = none) (mLen:mg "len" = none):zAK P w K mg base CX0 4 f fd' ["n", "thing"] zHq:=by
 have GT:zAK P w K mg base CX0 3 fT fdT ["thing", "count"] zJR:=(zIR FT.F mIsi mTuple mLen).mono (by decide)
 have GN:zAK P w K mg base CX0 3 fN fdN ["thing"] zK3:=(zKa FN.F mIsi mInt mBool).mono (by decide)
 have GP:zAK P w K mg base CX0 3 fP fdP ["n", "thing"] spPl:=zLm FP.F FW FN mIsi mInt mBool
 refine F.okD scEnt9 fun _ A _ _ H vs Q E hr h=>?_
 obtain⟨n,a,e,rfl,ha,O,k⟩:=h
 refine⟨_,zQ (zA5 (PW.pt (zCv (zB4 (zBt (zAJ GT hr FT (zC (pv 1) (zC zj zL))))) (zCG (zB4 (zBt (zAJ GP hr FP (zC (pv 0) (zC (zAA zAM (pv 1) zj) zL)))))))) (zW (zw zDS)) zAP)
  (zQ (zA5 (PW.pt (zCv (zB4 (zBt (zAJ GN hr FN (zC (zAA zAM (pv 1) zj) zL)))) (zCG (zy zJs (zAA zAM (pv 1) zj) zj (zAC _))))) (zW (zw zDS)) zAP)
  (zQ (zA5 (zy zCD (zAA zAM (pv 1) zj) zj (zAC _)) (zW (zw (zCR (zBR zBk (zAA zAM (pv 1) zj) zAh (zAC _)) (zCW (zBR zBk (zAA zAM (pv 1) zj) zAh (zAC _)))))) zAP)
  (zW (zw (zCR (zAJ GP hr FP (zC (pv 0) (zC (zAA zAM (pv 1) zj) zL))) (zCW (zAJ GP hr FP (zC (pv 0) (zC (zAA zAM (pv 1) zj) zL))))))))),?_⟩
 have hr':=O.rng
 have ht:=SqT.of (K:=K) ha
 refine⟨_,rfl,a,eV e,rfl,ha,_,rfl,zCa ?_⟩
 refine⟨_,rfl,_,rfl,a,_,_,.int e.h,rfl,rfl,ht,rfl,n,e.h,rfl,hr'.1,by omega,_,rfl,zCa ?_⟩
 refine⟨_,rfl,a,_,_,.int e.l,rfl,rfl,ht,rfl,e.l,rfl,_,rfl,zCa ?_⟩
 have hnn:=O.nn
 refine⟨_,rfl,a,_,_,.int e.l,rfl,rfl,ht,rfl,_,_,rfl,rfl,_,rfl,ifF (zY (by omega)) ?_⟩
 refine⟨_,rfl,a,_,_,.int e.l,rfl,rfl,ht,rfl,rfl,_,rfl,?_⟩
 rw[zHN]
 by_cases c:e.l=0
 . refine ifT (zO c) ?_
   obtain⟨hu,hd⟩:=O.own c
   refine⟨_,rfl,a,_,_,oV e.u,rfl,rfl,ht,rfl,rfl,_,rfl,?_⟩
   refine ifT (by rw[hu];rfl) ?_
   refine⟨_,rfl,a,_,_,oV e.d,rfl,rfl,ht,rfl,rfl,?_⟩
   rw[hd,show decide (oV none=V.non)=true from rfl]
   exact k
 . refine ifF (zY c) ?_
   obtain⟨u,d,hu,hd,u0,u1,d0,d1⟩:=O.far c
   refine⟨_,rfl,_,rfl,a,_,_,oV e.u,rfl,rfl,ht,rfl,n,u,by rw[hu];rfl,u0,by omega,true,rfl,zFZ ?_⟩
   exact⟨_,rfl,_,rfl,a,_,_,oV e.d,rfl,rfl,ht,rfl,n,d,by rw[hd];rfl,d0,by omega,k⟩
theorem zJD (m:Nat):(List.replicate m true).all id=true:=zAj.mpr fun b hb=>(List.mem_replicate.mp hb).2
theorem zKX:zo ["n", "thing", "longs"] ["n", "thing"] (defScope zH5):=fS0
theorem zLr {fR:Addr}{fdR:FuncData}(F:Fun K "is_label" "is_label" zH5 f fd') (FE:FuB K mg "is_entry" zH7 fE fdE ["n","thing"]) (GE:zAK P w K mg base CX0 4 fE fdE ["n", "thing"] zHq)
 (FR:FuB K mg "is_rising" sRis fR fdR ["things"]) (GR:zAK P w K mg base CX0 4 fR fdR ["things"] spRis) (mIsi:mg "isinstance" = none) (mTuple:mg "tuple" = none) (mLen:mg "len" = none) (mAll:mg "all" = none) :
 zAK P w K mg base CX0 5 f fd' ["n", "thing"] zHo:=by
 refine F.okD zKX fun _ A _ _ H vs Q E hr h=>?_
 obtain⟨n,p,es,rfl,L,LK,k⟩:=h
 obtain⟨as,hp,EA,hl⟩:=id L
 have hlen:=LK.len
 refine⟨_,zQ (zA5 (PW.pt (zCv (zB4 (zBt (zAL zCP mIsi (zC (pv 1) (zC (zGX (T := "tuple") mTuple) zL))))) (zCG (zy zFy (zAL zA3 mLen (zC (pv 1) zL)) (pv 0) (zAC _))))) (zW (zw zDS)) zAP)
  (zQ (zA5 (zB4 (zBt (zAL (zC8 rfl) mAll (zC (zA7 (own:=["entry"]) (cn:=["n"]) (ci:=[0]) rfl (csc rfl rfl) ⟨rfl,rfl,rfl,trivial⟩ rfl (zB5 (pv 1)) (fun _ _ _ _=>zBx) (fun _ _ _ _=>zBa)
   (fun _ _ _ _=>zAJ GE hr FE (zC (pv 1) (zC (pv 0) zL)))) zL)))) (zW (zw zDS)) zAP)
  (zQ (zDF (i:=2) (own:=["entry"]) (cn:=[]) (ci:=[]) zKX.nd rfl (Or.inl rfl) rfl (csc rfl rfl) trivial rfl (zB5 (pv 1)) (fun _ _ _ _=>zBx) (fun _ _ _ _=>zBa) (fun _ _ _ _=>zAA zBd (pv 0) zj))
  (zW (zw (zCR (zBR zCD (zG7 PySem.F.plainAttrs_list PySem.F.slot_list_count PySem.F.type_list_count zJz (pv 2) (zC zj zL)) zj (zAC _)) (zCW (zAJ GR hr FR
   (zC (zA7 (own:=["entry"]) (cn:=[]) (ci:=[]) rfl (csc rfl rfl) trivial rfl (zB5 (pv 1)) (fun _ _ _ _=>zBx) (fun _ _ _ _=>zBa) (fun _ _ _ _=>zAA zBd (pv 0) zj)) zL)))))))),?_⟩
 refine⟨_,rfl,_,_,_,true,rfl,.tup hp,rfl,_,rfl,zCa ?_⟩
 refine⟨_,rfl,p,_,rfl,.inr (SqT.of hp),_,rfl,_,_,rfl,rfl,_,rfl,ifF (zY (by rw[zD,EA.1];omega)) ?_⟩
 refine⟨_,rfl,p,rfl,⟨_,SqT.of hp⟩,[.int n],rfl,fun D hD=>?_⟩
 refine zBn (a:=p) (xs:=as.map V.ref) (fun i ys H4=>i<=es.length/\ys=(List.replicate i true).map V.bl/\H4=upd H D (.lst ys)) ⟨zh _,rfl,rfl⟩ (fun i ys H4 z=>?_) (fun i ys H4 z=>?_) (fun i v ys H4 hv z=>?_) (fun ys H4 z=>?_)
 . obtain⟨_,_,rfl⟩:=z
   exact SqT.of (zG hD _ _ hp)
 . obtain⟨hi,rfl,_⟩:=z
   rw[zD,zAH]
   exact zB1 (by omega)
 . obtain⟨_,rfl,rfl⟩:=z
   obtain⟨a,x,rfl,hx,ha⟩:=EA.at hv
   refine⟨⟨rfl,rfl⟩,?_⟩
   refine zE7 ?_
   refine⟨_,rfl,_,rfl,n,a,x,rfl,zG hD _ _ ha,LK.ent x (zX hx),zI,(zJ.mp hx).1,?_,zBZ⟩
   rw[List.replicate_succ',zV];rfl
 . obtain⟨_,rfl,rfl⟩:=z
   refine⟨D,_,rfl,SqL.of zI,_,rfl,?_⟩
   rw[zJD]
   refine zCa ?_
   have s1:=zG (o:=.lst ((List.replicate (as.map V.ref).length true).map V.bl)) hD
   generalize upd H D (.lst ((List.replicate (as.map V.ref).length true).map V.bl))=H1 at s1 ⊢
   refine⟨_,rfl,p,rfl,⟨_,SqT.of (s1 _ _ hp)⟩,[],rfl,fun D2 hD2=>?_⟩
   refine zBn (a:=p) (xs:=as.map V.ref) (fun i ys H4=>ys=((es.take i).map (·.l)).map V.int/\H4=upd H1 D2 (.lst ys)) ⟨rfl,rfl⟩ (fun i ys H4 z=>?_) (fun i ys H4 z=>?_) (fun i v ys H4 hv z=>?_) (fun ys H4 z=>?_)
   . obtain⟨_,rfl⟩:=z
     exact SqT.of (zG hD2 _ _ (s1 _ _ hp))
   . obtain⟨rfl,_⟩:=z
     rw[zD,zD,zx]
     exact zB1 (by omega)
   . obtain⟨rfl,rfl⟩:=z
     obtain⟨a,x,rfl,hx,ha⟩:=EA.at hv
     refine⟨⟨rfl,rfl⟩,?_⟩
     refine zE7 ?_
     refine⟨_,rfl,a,_,_,.int x.l,rfl,rfl,SqT.of (zG hD2 _ _ (s1 _ _ ha)),rfl,zI,?_,zBZ⟩
     rw[zu,hx,zV,zV];rfl
   . obtain⟨rfl,rfl⟩:=z
     rw[zD,EA.1,zf (zK _)]
     have s2:=s1.trans (zG (o:=.lst ((es.map (·.l)).map V.int)) hD2)
     have hD22:(upd H1 D2 (.lst ((es.map (·.l)).map V.int))) D2=some (.lst ((es.map (·.l)).map V.int)):=zI
     generalize upd H1 D2 (.lst ((es.map (·.l)).map V.int))=H2 at s2 hD22 ⊢
     refine⟨_,rfl,.inl ⟨rfl,_,SqL.of hD22⟩,D2,es.map (·.l),0,rfl,rfl,SqL.of hD22,rfl,_,rfl,?_⟩
     refine ifT (by rw[LK.one];rfl) ?_
     refine⟨_,rfl,p,rfl,⟨_,SqT.of (s2 _ _ hp)⟩,[],rfl,fun D3 hD3=>?_⟩
     refine zBn (a:=p) (xs:=as.map V.ref) (fun i ys H4=>ys=((es.take i).map (·.h)).map V.int/\H4=upd H2 D3 (.lst ys)) ⟨rfl,rfl⟩ (fun i ys H4 z=>?_) (fun i ys H4 z=>?_) (fun i v ys H4 hv z=>?_) (fun ys H4 z=>?_)
     . obtain⟨_,rfl⟩:=z
       exact SqT.of (zG hD3 _ _ (s2 _ _ hp))
     . obtain⟨rfl,_⟩:=z
       rw[zD,zD,zx]
       exact zB1 (by omega)
     . obtain⟨rfl,rfl⟩:=z
       obtain⟨a,x,rfl,hx,ha⟩:=EA.at hv
       refine⟨⟨rfl,rfl⟩,?_⟩
       refine zE7 ?_
       refine⟨_,rfl,a,_,_,.int x.h,rfl,rfl,SqT.of (zG hD3 _ _ (s2 _ _ ha)),rfl,zI,?_,zBZ⟩
       rw[zu,hx,zV,zV];rfl
     . obtain⟨rfl,rfl⟩:=z
       rw[zD,EA.1,zf (zK _)]
       refine⟨D3,es.map (·.h),rfl,zI,by rw[zAT];exact LK.hub,by rw[zD];omega,fun H5 s5=>?_⟩
       exact k _ ((s2.trans (zG hD3)).trans s5)
theorem zLI:zo ["n", "thing"] ["n", "thing"] (defScope zFI):=fS0
theorem zJu {fT:Addr}(F:Fun K "are_labels" "are_labels" zFI f fd') (FT:FuB K mg "is_tuple_of" zLL fT fdT ["thing","count"]) (GT:zAK P w K mg base CX0 5 fT fdT ["thing", "count"] zJR)
 (FL:FuB K mg "is_label" zH5 fL fdL ["n","thing"]) (GL:zAK P w K mg base CX0 5 fL fdL ["n", "thing"] zHo) (mAll:mg "all" = none):zAK P w K mg base CX0 6 f fd' ["n", "thing"] zFr:=by
 refine F.okD zLI fun _ A _ _ H vs Q E hr h=>?_
 obtain⟨n,l,ess,rfl,⟨as,hl,hal,hla⟩,hn,hn24,hk,k⟩:=h
 refine⟨_,zW (zw (zCR (zAJ GT hr FT (zC (pv 1) (zC (pv 0) zL))) (zCW (zAL (zC8 rfl) mAll (zC (zA7 (own:=["label"]) (cn:=["n"]) (ci:=[0]) rfl (csc rfl rfl) ⟨rfl,rfl,rfl,trivial⟩ rfl (zB5 (pv 1)) (fun _ _ _ _=>zBx) (fun _ _ _ _=>zBa)
  (fun _ _ _ _=>zAJ GL hr FL (zC (pv 1) (zC (pv 0) zL)))) zL))))),?_⟩
 have hln:((as.map V.ref).length:Int)=n:=by rw[zD,hal];exact hn
 refine⟨_,rfl,_,rfl,l,as.map V.ref,by rw[hln];rfl,hl,true,rfl,zFZ ?_⟩
 refine⟨_,rfl,l,rfl,⟨_,SqT.of hl⟩,[.int n],rfl,fun D hD=>?_⟩
 refine zBn (a:=l) (xs:=as.map V.ref) (fun i ys H4=>i<=as.length/\ys=(List.replicate i true).map V.bl/\zAo H H4/\H4 D=some (.lst ys)) ⟨zh _,rfl,zG hD,zI⟩ (fun i ys H4 z=>?_) (fun i ys H4 z=>?_) (fun i v ys H4 hv z=>?_) (fun ys H4 z=>?_)
 . exact SqT.of (z.2.2.1 _ _ hl)
 . obtain⟨hi,rfl,_⟩:=z
   rw[zD,zAH]
   exact zB1 (by omega)
 . obtain⟨_,rfl,s4,hD4⟩:=z
   obtain⟨a,ha,rfl⟩:∃a,as[i]? = some a/\V.ref a=v:=by
    rw[zN] at hv
    cases e:as[i]? with
    | none=>rw[e] at hv;cases hv
    | some a=>rw[e] at hv;exact⟨a,rfl,zR hv⟩
   obtain⟨es,e1,e2⟩:=hla i a ha
   refine⟨⟨rfl,rfl⟩,?_⟩
   refine zE7 ?_
   refine⟨_,rfl,_,rfl,n,a,es,rfl,e2.same s4,hk es (zX e1),fun H5 s5=>?_⟩
   refine⟨s5 _ _ hD4,(zJ.mp ha).1,?_,zAa (s4.trans s5) hD,zI⟩
   rw[List.replicate_succ',zV];rfl
 . obtain⟨_,rfl,s4,hD4⟩:=z
   refine⟨D,_,rfl,SqL.of hD4,?_⟩
   rw[zJD]
   exact k _ s4
theorem zIB:∀{l:List Int}{a b:Int},l.Pairwise (· < ·)->(∀x∈l,a<=x/\x<b)->a<=b->(l.length:Int)<=b-a
 | [],a,b,_,_,h=>by simp;omega
 | x::r,a,b,hp,hb,h=>by
  have hx:=hb x za
  obtain⟨h1,h2⟩:=zAX.mp hp
  have:=zIB (l:=r) (a:=x+1) (b:=b) h2 (fun y hy=>⟨by have:=h1 y hy;omega,(hb y (zi _ hy)).2⟩) (by omega)
  rw[zn]
  omega
theorem zDM.kind (G:GW n ts)(L:zDM ts n rk v es)(v0:0<=v)(v1:v<n):zMI n es:=by
 refine⟨fun e he=>?_,L.hub,?_,?_⟩
 . have E:=L.ent e he
   refine⟨E.rng,E.len.1.nn G,fun h0=>?_,fun hne=>?_⟩
   . have ev:=(zCi G E.len).mp h0
     constructor
     . have u:=E.up
       cases hu:e.u with
       | none=>rfl
       | some m=>rw[hu] at u;exact absurd ev (u.1.ne G)
     . have u:=E.dn
       cases hu:e.d with
       | none=>rfl
       | some m=>rw[hu] at u;exact absurd ev.symm (u.1.ne G)
   . have ev:v≠e.h:=fun z=>hne ((zCi G E.len).mpr z)
     obtain⟨p,hp⟩:=Nxt.exists G E.len ev
     obtain⟨q,hq⟩:=Nxt.exists G E.len.symm ev.symm
     obtain⟨u,eu,pu⟩:=E.up.some_of hp
     obtain⟨d,ed,pd⟩:=E.dn.some_of hq
     obtain⟨l1,b1,a1,_⟩:=pu
     obtain⟨l2,b2,a2,_⟩:=pd
     have g1:=G.adj a1
     have g2:=G.adj a2
     exact⟨u,d,eu,ed,by omega,by omega,by omega,by omega⟩
 . have:=zIB (l:=es.map (·.h)) (a:=0) (b:=n) (by rw[zAT];exact L.hub) (fun x hx=>by
    obtain⟨e,he,rfl⟩:=zq.mp hx
    exact (L.ent e he).rng) (by omega)
   rw[zD] at this
   omega
 . obtain⟨e,r,hf,_⟩:=(L.lg G v0 v1).zero G
   have hv:∀x∈es.filter (fun e=>decide (e.l=0)),x.h=v:=fun x hx=>by
    obtain⟨h1,h2⟩:=zAB.mp hx
    exact ((zCi G (L.ent x h1).len).mp (of_decide_eq_true h2)).symm
   have hp:(es.filter (fun e=>decide (e.l=0))).Pairwise fun a b=>a.h<b.h:=List.Pairwise.filter _ L.hub
   rw[hf] at hv hp
   have hr:r=[]:=by
    cases r with
    | nil=>rfl
    | cons e' r'=>
     have h1:=hv e za
     have h2:=hv e' (zi _ za)
     have:=(zAX.mp hp).1 e' za
     omega
   rw[List.countP_map,List.countP_eq_length_filter]
   have:(fun x:Int=>x==0)∘(fun e:En=>e.l)=fun e=>decide (e.l=0):=by
    funext e
    show (e.l==0)=decide (e.l=0)
    cases h:decide (e.l=0) with
    | true=>have:=of_decide_eq_true h;rw[this];rfl
    | false=>have:=of_decide_eq_false h;exact beq_false_of_ne this
   rw[this,hf,hr]
   rfl
noncomputable def zHZ (ess:List (List En)):Nat->List (Nat×En)
 | 0=>[]
 | i+1=>zHZ ess i++((ess.getD i []).filter fun e=>decide (e.l≠0)).map fun e=>(i,e)
noncomputable def zCg (H:Hp)(ys:List V)(fe:List (Nat×En)):Prop:=ys.length=fe.length/\∀(j:Nat)(y:V),ys[j]? = some y->∃(c a:Addr)(i:Nat)(e:En),y = .ref c/\fe[j]? = some (i,e)/\H c=some (.tup [.int i,.ref a])/\H a=some (.tup (eV e))
variable {ys:List V}
theorem zCg.keep {fe:List (Nat×En)}(h:zCg H ys fe)(k:∀b zs,H b=some (.tup zs)->H' b=some (.tup zs)):zCg H' ys fe:=
 ⟨h.1,fun j y e=>let ⟨c,a,i,x,h1,h2,h3,h4⟩:=h.2 j y e;⟨c,a,i,x,h1,h2,k _ _ h3,k _ _ h4⟩⟩
theorem zCg.app {zs:List V}{fe ge:List (Nat×En)}(h:zCg H ys fe)(g:zCg H zs ge):zCg H (ys++zs) (fe++ge):=by
 refine⟨by rw[zP,zP,h.1,g.1],fun j y e=>?_⟩
 by_cases c:j<ys.length
 . rw[zZ c] at e
   obtain⟨a,b,i,x,h1,h2,h3⟩:=h.2 j y e
   exact⟨a,b,i,x,h1,by rw[zZ (by rw[<-h.1];exact c)];exact h2,h3⟩
 . rw[zT (by omega)] at e
   obtain⟨a,b,i,x,h1,h2,h3⟩:=g.2 _ y e
   exact⟨a,b,i,x,h1,by rw[zT (by rw[<-h.1];omega),<-h.1];exact h2,h3⟩
noncomputable def zGN:Sp:=fun vs H Q _=>∃(l:Addr)(ess:List (List En)),vs=[.ref l]/\zBT H l ess/\ess.length<=24/\(∀es∈ess,es.length<=24) /\
 ∀(a:Addr)(ys:List V)(H':Hp),zAo H H'->H a=none->H' a=some (.lst ys)->zCg H' ys (zHZ ess ess.length)->Q (.ref a) H'
theorem zE0 {ess:List (List En)}:∀{n i:Nat}{e:En},(i,e)∈zHZ ess n->i<n/\e∈ess.getD i []
 | 0,_,_,h=>by simp[zHZ] at h
 | n+1,i,e,h=>by
  rcases zp.mp (show (i,e)∈zHZ ess n++_ from h) with z | z
  . have:=zE0 z
    exact⟨by omega,this.2⟩
  . obtain⟨x,hx,ex⟩:=zq.mp z
    simp only[Prod.mk.injEq] at ex
    obtain⟨rfl,rfl⟩:=ex
    exact⟨by omega,(zAB.mp hx).1⟩
theorem zGj {ess:List (List En)}(h:∀es∈ess,es.length<=24):∀n,(zHZ ess n).length<=24*n
 | 0=>zK _
 | n+1=>by
  show (zHZ ess n++_).length<=_
  rw[zP,zD]
  have h1:=zGj h n
  have h2:=zr (fun e:En=>decide (e.l≠0)) (ess.getD n [])
  have h3:(ess.getD n []).length<=24:=by
   rw[zE]
   cases e:ess[n]? with
   | none=>exact zh _
   | some x=>exact h x (zX e)
  omega
theorem zGP:zo ["labels", "found", "place", "label"] ["labels"] (defScope zG4):=fS0
theorem zLt (F:Fun K "far_entries" "far_entries" zG4 f fd') (mEnum:mg "enumerate" = none):zAK P w K mg base CX0 1 f fd' ["labels"] zGN:=by
 refine F.okD zGP fun _ A _ _ H vs Q E hr h=>?_
 obtain⟨l,ess,rfl,LL,hn,hes,k⟩:=h
 obtain⟨as,hl,hal,hA⟩:=id LL
 refine⟨_,zQ (zBB (i:=1) zGP.nd (zCX zL))
  (zQ (zBb PassesOwn.never rfl (zEr (by rfl) mEnum (zC (pv 0) zL)) (zCC rfl (zAE (zAI (i:=2) zGP.nd rfl (Or.inr rfl)) (zAE (zAI (i:=3) zGP.nd rfl (Or.inl rfl)) zBc)))
   (zW (zCL (zG7 PySem.F.plainAttrs_list PySem.F.slot_list_extend PySem.F.type_list_extend zIZ (pv 1) (zC
    (zA7 (own:=["entry"]) (cn:=["place"]) (ci:=[2]) rfl (csc rfl rfl) ⟨rfl,rfl,rfl,trivial⟩ rfl (zB5 (pv 3)) (fun _ _ _ _=>zBx)
     (fun _ _ _ _=>zB7 (zy zFx (zAA zBd (pv 0) zj) zj (zAC _)))
     (fun _ _ _ _=>zBP (zC (pv 1) (zC (pv 0) zL)))) zL)))))
  (zW (zw (pv 1)))),?_⟩
 refine⟨by show 0<=sizeLine;decide,fun D hD=>?_⟩
 have s0:=zG (o:=.lst []) hD
 refine⟨_,rfl,l,rfl,⟨_,SqT.of (s0 _ _ hl)⟩,zDv (K:=K) (a:=l) (xs:=as.map V.ref) (fun i σ H2=>∃(v2 v3:Option V)(ys:List V),σ=[some (.ref l),some (.ref D),v2,v3]/\zAo H H2/\H2 D=some (.lst ys)/\zCg H2 ys (zHZ ess i))
  ⟨_,_,[],rfl,s0,zI,rfl,fun j y e=>by simp at e⟩ (fun i σ H2 _ ⟨_,_,_,_,s2,_⟩=>SqT.of (s2 _ _ hl)) ?turn ?after⟩
 case after=>
  rintro σ H2 ⟨v2,v3,ys,rfl,s2,hD2,FA⟩
  rw[zD,hal] at FA
  exact⟨_,rfl,k D ys H2 s2 hD hD2 FA⟩
 case turn=>
  rintro i x σ H2 Tp hx ⟨v2,v3,ys,rfl,s2,hD2,FA⟩ hTp
  rw[zN] at hx
  cases ha:as[i]? with
  | none=>rw[ha] at hx;cases hx
  | some a=>
  rw[ha] at hx
  cases hx
  have hia:=(zJ.mp ha).1
  obtain⟨es,hes1,bs,hb,EA,hl3⟩:=hA i a ha
  have eget:ess.getD i []=es:=by rw[zE,hes1];rfl
  have hel:=hes es (zX hes1)
  have sT:=zG (o:=.tup [.int (i:Int),.ref a]) hTp
  have s3:=s2.trans sT
  refine⟨Tp,_,rfl,SqT.of zI,rfl,_,_,rfl,_,_,rfl,rfl,?_⟩
  refine⟨_,rfl,.inl ⟨rfl,_,SqL.of (sT _ _ hD2)⟩,_,rfl,a,rfl,⟨_,SqT.of (s3 _ _ hb)⟩,[.int i],rfl,fun D2 hD2'=>?_⟩
  have EA3:zDU (upd H2 Tp (.tup [.int (i:Int),.ref a])) bs es:=EA.keep fun b zs e=>s3 _ _ e
  have hbl:=EA.1
  refine zBn (a:=a) (xs:=bs.map V.ref) (fun j zs H4=>zCg H4 zs (((es.take j).filter fun e=>decide (e.l≠0)).map fun e=>(i,e))/\zAo (upd H2 Tp (.tup [.int (i:Int),.ref a])) H4/\H4 D2=some (.lst zs)) ⟨⟨rfl,fun j y e=>by simp at e⟩,zG hD2',zI⟩ (fun j zs H4 h=>?_) (fun j zs H4 h=>?_) (fun j v zs H4 hv h=>?_) (fun zs H4 h=>?_)
  . exact SqT.of (h.2.1 _ _ (s3 _ _ hb))
  . rw[h.1.1,zD]
    exact zAN (zr _ _) (zB1 (by rw[zx];omega))
  . obtain⟨F4,s4,hD4⟩:=h
    obtain⟨c,e,rfl,he,hc⟩:=EA3.at hv
    have hc4:=s4 _ _ hc
    refine⟨⟨rfl,rfl⟩,?_⟩
    refine⟨_,rfl,c,_,_,.int e.l,rfl,rfl,SqT.of hc4,rfl,rfl,_,rfl,?_⟩
    rw[zHN]
    have st:=zFb (fun e:En=>decide (e.l≠0)) he
    by_cases cc:e.l=0
    . rw[zO cc]
      refine zCa ⟨?_,s4,hD4⟩
      rw[st,if_neg (by simp[cc]),zt]
      exact F4
    . rw[zY cc]
      refine zFZ ?_
      refine⟨_,rfl,_,rfl,by show 2<=sizeLine;decide,fun q hq=>?_⟩
      have nDq:=zl hD4 hq
      refine⟨zG hq _ _ hD4,?_,zAa (s4.trans (zG hq)) hD2',zI⟩
      rw[st,if_pos (by simp[cc]),zV]
      have kp:∀b us,H4 b=some (.tup us)->(upd (upd H4 q (.tup [.int (i:Int),.ref c])) D2 (.lst (zs++[.ref q]))) b=some (.tup us):=fun b us e=>by
       rw[zd (zAp e hD4 (by intro z;cases z))]
       exact zG hq _ _ e
      refine (F4.keep kp).app ⟨rfl,fun j' y' e'=>?_⟩
      cases j' with
      | zero=>
       have:V.ref q=y':=by simpa using e'
       subst this
       exact⟨q,c,i,e,rfl,rfl,by rw[zd nDq.symm];exact zI,kp _ _ hc4⟩
      | succ z=>simp at e'
  . obtain⟨F4,s4,hD4⟩:=h
    rw[zD,EA.1,zf (zK _)] at F4
    have hDD:=s4 _ _ (sT _ _ hD2)
    have f1:=zGj hes i
    have f2:=FA.1
    have f3:=F4.1
    have f4:=zr (fun e:En=>decide (e.l≠0)) es
    rw[zD] at f3
    refine⟨D,D2,_,_,rfl,rfl,hDD,hD4,Nat.le_of_lt (zB1 (by omega)),?_⟩
    have s5:=zAa (o:=.lst (ys++zs)) (s3.trans s4) hD
    have kp:∀b us,H4 b=some (.tup us)->(upd H4 D (.lst (ys++zs))) b=some (.tup us):=fun b us e=>by rw[zd (zAp e hDD (by intro z;cases z))];exact e
    refine⟨_,_,ys++zs,rfl,s5,zI,?_⟩
    show zCg _ _ (zHZ ess i++_)
    rw[eget]
    exact ((FA.keep fun b us e=>s4 _ _ (sT _ _ e)).keep kp).app (F4.keep kp)
theorem zCB {X:Cx}{st:List Stmt}:PSs X st (fun _ _ _=>False):=fun _ _ _ _ _ _ h=>h.elim
structure LtI (H:Hp)(wa la:Addr)(n:Int)(ts:List T3)(rk:Int->Int)(ess:List (List En)):Prop where
 wb:zBD H wa n ts
 lb:zBT H la ess
 lo:zCJ ts n rk ess
 lg:zJH ts n ess
theorem LtI.same (h:LtI H wa la n ts rk ess)(s:zAo H H'):LtI H' wa la n ts rk ess:=⟨h.wb.keep s,h.lb.keep fun b ys e=>s _ _ e,h.lo,h.lg⟩
structure FrE (ts:List T3)(n:Int)(ess:List (List En))(i:Nat)(e:En):Prop where
 hi:i<ess.length
 mem:e∈ess.getD i []
 far:e.l≠0
theorem getD_some {α:Type}{l:List (List α)}(h:i<l.length):l[i]? = some (l.getD i []):=by
 rw[zE,zB h];rfl
theorem FrE.eg (h:FrE ts n ess i e)(G:GW n ts)(L:zJH ts n ess):EG ts n i e/\e.h≠i:=by
 have E:=(L.lg i _ (getD_some h.hi)).ent e h.mem
 refine⟨E,fun z=>h.far ((zCi G E.len).mpr z.symm)⟩
theorem up_hub {p:Int}(G:GW n ts)(L:zCJ ts n rk ess)(h:FrE ts n ess i e)(x:Nxt ts i e.h p)(p0:0<=p)(p1:p<n):∃f∈ess.getD p.toNat [],f.h=e.h:=by
 have hl:=L.1
 have E:=(L.2 i _ (getD_some h.hi)).ent e h.mem
 obtain⟨l,b,ha,ib,iab⟩:=x
 have hp:p.toNat<ess.length:=by omega
 have Lp:=L.2 p.toNat _ (getD_some hp)
 rw[show ((p.toNat:Nat):Int)=p by omega] at Lp
 refine Lp.all e.h E.rng.1 E.rng.2 ⟨⟨b,ib.symm⟩,fun q hq=>E.hub.2 q ?_⟩
 refine Btw.trans (p:=p) ⟨b,l,ib.symm,?_,?_⟩ hq
 . refine⟨(Way.one ha).symm,fun d hd=>?_⟩
   have:=iab.2 _ (hd.symm.trans ib.1)
   omega
 . rw[Int.add_comm];exact iab.symm
noncomputable def spUr:Sp:=fun vs H Q _=>∃(wa la a:Addr)(i:Nat)(n:Int)(ts:List T3)(rk:Int->Int)(ess:List (List En))(e:En),vs=[.ref wa,.ref la,.int i,.ref a]/\LtI H wa la n ts rk ess/\H a=some (.tup (eV e))/\FrE ts n ess i e/\∀H',zAo H H'->Q (.bl true) H'
noncomputable def zEk:Sp:=fun vs H Q _=>∃(wa la:Addr)(n:Int)(ts:List T3)(rk:Int->Int)(ess:List (List En)),vs=[.ref wa,.ref la]/\LtI H wa la n ts rk ess/\∀H',zAo H H'->Q .non H'
noncomputable def spOf:Sp:=fun vs H Q _=>∃(wa la:Addr)(n:Int)(ts:List T3)(rk:Int->Int)(ess:List (List En)),vs=[.ref la]/\LtI H wa la n ts rk ess/\∀H',zAo H H'->Q .non H'
noncomputable def spGm:Sp:=fun vs H Q _=>∃(x y:Option Int)(l:Int),vs=[oV x,oV y,.int l]/\(∀d,x=some d->∃c,y=some c/\c<=d+l)/\Q (.bl false) H
noncomputable def zKP:Sp:=fun vs H Q _=>∃x:Str,vs=[.str x,.non]/\Q .non H
noncomputable def zHm:Sp:=fun vs H Q _=>∃(wa la:Addr)(n:Int)(ts:List T3)(rk:Int->Int)(ess:List (List En)),vs=[.ref wa,.ref la]/\LtI H wa la n ts rk ess/\∀H',zAo H H'->Q (.bl true) H'
theorem scUr:zo ["web", "labels", "place", "entry", "tie", "above"] ["web", "labels", "place", "entry"] (defScope sUr):=fS0
theorem ok_ur (F:Fun K "is_up_right" "is_up_right" sUr f fd') (FL:FuB K mg "long_of" zFH fL fdL ["web","one","other"]) (GL:zAK P w K mg base CX0 3 fL fdL ["web", "one", "other"] zDc)
 (FE:FuB K mg "entry_of" sEnt fE fdE ["label","hub"]) (GE:zAK P w K mg base CX0 3 fE fdE ["label", "hub"] zK7):zAK P w K mg base CX0 4 f fd' ["web", "labels", "place", "entry"] spUr:=by
 refine F.okD scUr fun _ A _ _ H vs Q E hr h=>?_
 obtain⟨wa,la,a,i,n,ts,rk,ess,e,rfl,I,ha,fe,k⟩:=h
 obtain⟨_,_,_,_,_,G⟩:=id I.wb
 obtain⟨E,ne⟩:=fe.eg G I.lg
 obtain⟨p,eu,x⟩:=E.up ne
 have hl:=I.lg.ln
 have hi:=fe.hi
 obtain⟨p0,p1⟩:0<=p/\p<n:=by
  obtain⟨l,b,hA,_⟩:=x
  exact (Way.one hA).in_ G (by omega) (by omega)
 obtain⟨g,hg,gh⟩:=up_hub G I.lo fe x p0 p1
 obtain⟨l,b,hA,ib,iab⟩:=x
 obtain⟨as,c,fs,h1,h2,h3,L3⟩:=I.lb.at hl p0 p1
 have Lp:=I.lg.lg _ _ h3
 have gd:ess.getD p.toNat []=fs:=by rw[zE,h3];rfl
 rw[gd] at hg
 have Eg:=Lp.ent g hg
 rw[show ((p.toNat:Nat):Int)=p by omega] at Eg
 have Egl:=Eg.len
 rw[gh] at Egl
 have hev:eV e=[.int e.h,.int e.l,.int p,oV e.d]:=by unfold eV;rw[eu];rfl
 refine⟨_,zQ (zBB (i:=4) scUr.nd (zAJ GL hr FL (zC (pv 0) (zC (pv 2) (zC (zAA zAM (pv 3) zj) zL)))))
  (zQ (zBB (i:=5) scUr.nd (zAJ GE hr FE (zC (zAA zAM (pv 1) (zAA zAM (pv 3) zj)) (zC (zAA zAM (pv 3) zj) zL))))
  (zW (zw (zCR (zBR zDH (pv 4) zAh (zAC _)) (zCR (zBR zDH (pv 5) zAh (zAC _)) (zCW (zBR zCD (zAA zAM (pv 5) zj) (zA6 zDi (zAA zAM (pv 3) zj) (pv 4)) (zAC _)))))))),?_⟩
 rw[hev] at ha
 refine⟨_,rfl,_,rfl,_,rfl,a,_,_,.int p,rfl,rfl,SqT.of ha,rfl,wa,n,ts,i,p,rfl,I.wb,fun r H1 s1 hr1=>?_⟩
 obtain rfl:r = .int l:=by
  rcases hr1 with ⟨l',hl',rfl⟩ | ⟨no,_⟩
  . rw[G.uniq hA hl']
  . exact absurd hA (no l)
 obtain⟨ga,hga⟩:=(L3.same s1).ent Lp.hub ((zB2 Lp.hub).mpr ⟨hg,gh⟩)
 refine⟨_,rfl,_,rfl,a,_,_,.int p,rfl,rfl,SqT.of (s1 _ _ ha),rfl,la,_,_,.ref c,rfl,rfl,SqT.of (s1 _ _ h1),zAn p0 h2,_,rfl,a,_,_,.int e.h,rfl,rfl,SqT.of (s1 _ _ ha),rfl,c,fs,e.h,rfl,L3.same s1,(fun z=>by rw[(zB2 Lp.hub).mpr ⟨hg,gh⟩] at z;cases z),fun g' a' hg' ha'=>?_⟩
 rw[(zB2 Lp.hub).mpr ⟨hg,gh⟩] at hg'
 cases hg'
 refine⟨_,rfl,rfl,_,rfl,ifT (by rfl) ?_⟩
 refine⟨_,rfl,rfl,_,rfl,ifT (by rfl) ?_⟩
 refine⟨_,rfl,a',_,_,.int g.l,rfl,rfl,SqT.of ha',rfl,_,rfl,a,_,_,.int e.l,rfl,rfl,SqT.of (s1 _ _ ha),rfl,_,rfl,_,_,rfl,rfl,rfl,?_⟩
 have e1:=Egl.uniq ib
 have e2:=E.len.uniq iab
 rw[zO (by rw[e1,e2];congr 1;omega)]
 exact k _ s1
theorem scDr:zo ["web", "labels", "place", "entry", "tie"] ["web", "labels", "place", "entry"] (defScope sDr):=fS0
theorem ok_dr {fT:Addr}(F:Fun K "is_down_right" "is_down_right" sDr f fd') (FL:FuB K mg "long_of" zFH fL fdL ["web","one","other"]) (GL:zAK P w K mg base CX0 3 fL fdL ["web", "one", "other"] zDc)
 (FT:FuB K mg "told" zFv fT fdT ["one","other"]) (GT:zAK P w K mg base CX0 3 fT fdT ["one", "other"] zFB):zAK P w K mg base CX0 4 f fd' ["web", "labels", "place", "entry"] spUr:=by
 refine F.okD scDr fun _ A _ _ H vs Q E hr h=>?_
 obtain⟨wa,la,a,i,n,ts,rk,ess,e,rfl,I,ha,fe,k⟩:=h
 obtain⟨_,_,_,_,_,G⟩:=id I.wb
 obtain⟨E,ne⟩:=fe.eg G I.lg
 obtain⟨p,ed,x⟩:=E.dn ne
 have hl:=I.lg.ln
 have hi:=fe.hi
 obtain⟨l,b,hA,ib,iab⟩:=x
 obtain⟨p0,p1⟩:0<=p/\p<n:=(Way.one hA).in_ G E.rng.1 E.rng.2
 have hev:eV e=[.int e.h,.int e.l,oV e.u,.int p]:=by unfold eV;rw[ed];rfl
 refine⟨_,zQ (zBB (i:=4) scDr.nd (zAJ GL hr FL (zC (pv 0) (zC (zAA zAM (pv 3) zj) (zC (zAA zAM (pv 3) zj) zL)))))
  (zW (zw (zCR (zBR zDH (pv 4) zAh (zAC _)) (zCW (zBR zCD (zAJ GT hr FT (zC (zAA zAM (pv 1) (zAA zAM (pv 3) zj)) (zC (zAA zAM (pv 1) (pv 2)) zL))) (zA6 zDi (zAA zAM (pv 3) zj) (pv 4)) (zAC _)))))),?_⟩
 rw[hev] at ha
 refine⟨_,rfl,_,rfl,a,_,_,.int e.h,rfl,rfl,SqT.of ha,rfl,_,rfl,a,_,_,.int p,rfl,rfl,SqT.of ha,rfl,wa,n,ts,e.h,p,rfl,I.wb,fun r H1 s1 hr1=>?_⟩
 obtain rfl:r = .int l:=by
  rcases hr1 with ⟨l',hl',rfl⟩ | ⟨no,_⟩
  . rw[G.uniq hA hl']
  . exact absurd hA (no l)
 obtain⟨as,ax,ay,es,fs,h1,gx,gy,lx,ly,Lx,Ly,Cv⟩:=(I.same s1).lb.two I.lg p0 p1 (show (0:Int)<=i by omega) (show (i:Int)<n by omega)
 refine⟨_,rfl,rfl,_,rfl,ifT (by rfl) ?_⟩
 refine⟨_,rfl,_,rfl,a,_,_,.int p,rfl,rfl,SqT.of (s1 _ _ ha),rfl,la,_,_,.ref ax,rfl,rfl,SqT.of h1,zAn p0 gx,_,rfl,_,rfl,la,_,_,.ref ay,rfl,rfl,SqT.of h1,zAn (by omega) gy,ax,ay,es,fs,rfl,lx,ly,Ly.hub,fun lm H2 s2 hm=>?_⟩
 have tr:=(zCF G Lx Ly Cv hm).1
 obtain⟨c,hc⟩:∃c,lm=some c:=by
  cases lm with
  | none=>exact absurd ib.1 (tr b)
  | some c=>exact⟨c,rfl⟩
 subst hc
 have e1:c.1=b:=WM.IsD.uniq (show WM.IsD ts p i c.1 from tr) ib
 have e2:=E.len.symm.uniq iab
 have s12:=s1.trans s2
 refine⟨_,rfl,a,_,_,.int e.l,rfl,rfl,SqT.of (s12 _ _ ha),rfl,_,rfl,_,_,rfl,rfl,rfl,?_⟩
 rw[zO (show oV (Option.map (·.1) (some c))=V.int (e.l-l) by show V.int c.1=_;rw[e1,e2];congr 1;omega)]
 exact k _ s12
theorem scUf:zo ["web", "labels", "place", "entry"] ["web", "labels"] (defScope sUf):=fS0
theorem scDf:zo ["web", "labels", "place", "entry"] ["web", "labels"] (defScope sDf):=fS0
theorem zE1 {ess:List (List En)}:∀{n i:Nat}{e:En},(i,e)∈zHZ ess n->e.l≠0
 | 0,_,_,h=>by simp[zHZ] at h
 | n+1,i,e,h=>by
  rcases zp.mp (show (i,e)∈zHZ ess n++_ from h) with z | z
  . exact zE1 z
  . obtain⟨x,hx,ex⟩:=zq.mp z
    simp only[Prod.mk.injEq] at ex
    obtain⟨rfl,rfl⟩:=ex
    simpa using (zAB.mp hx).2
variable {fU:Addr}{fdU:FuncData}
theorem ok_uf (F:Fun K "up_fault" "up_fault" sUf f fd') (FF:FuB K mg "far_entries" zG4 fF fdF ["labels"]) (GF:zAK P w K mg base CX0 4 fF fdF ["labels"] zGN)
 (FU:FuB K mg "is_up_right" sUr fU fdU ["web","labels","place","entry"]) (GU:zAK P w K mg base CX0 4 fU fdU ["web", "labels", "place", "entry"] spUr):zAK P w K mg base CX0 5 f fd' ["web", "labels"] zEk:=by
 refine F.okD scUf fun _ A _ _ H vs Q E hr h=>?_
 obtain⟨wa,la,n,ts,rk,ess,rfl,I,k⟩:=h
 obtain⟨_,_,_,_,_,G⟩:=id I.wb
 have hn:=G.n24
 have hl:=I.lg.ln
 refine⟨_,zQ (zBb PassesOwn.never rfl (zCA (zAJ GF hr FF (zC (pv 1) zL))) (zCC rfl (zAE (zAI (i:=2) scUf.nd rfl (Or.inl rfl)) (zAE (zAI (i:=3) scUf.nd rfl (Or.inl rfl)) zBc)))
  (zW (zA5 (zB4 (zBt (zAJ GU hr FU (zC (pv 0) (zC (pv 1) (zC (pv 2) (zC (pv 3) zL))))))) zCB zAP)))
  (zW (zw zAh)),?_⟩
 refine⟨_,rfl,la,ess,rfl,I.lb,by omega,fun es hes=>?_,fun D ys H1 s1 _ hD FA=>?_⟩
 . obtain⟨j,hj,rfl⟩:=zv hes
   exact (I.lo.2 j _ (zB hj)).len
 refine⟨D,rfl,⟨_,SqL.of hD⟩,zC5 (K:=K) (a:=D) (xs:=ys) (fun j σ H2=>∃v2 v3:Option V,σ=[some (.ref wa),some (.ref la),v2,v3]/\zAo H1 H2) ⟨_,_,rfl,zAo.refl _⟩ (fun j σ H2 _ z=>?_) (fun j x σ H2 hx z=>?_) (fun σ H2 z=>?_)⟩
 . obtain⟨_,_,_,s2⟩:=z
   exact SqL.of (s2 _ _ hD)
 . obtain⟨v2,v3,rfl,s2⟩:=z
   obtain⟨c,a,i,e,rfl,hf,hc,ha⟩:=FA.2 j x hx
   have hm:=zX hf
   obtain⟨m1,m2⟩:=zE0 hm
   refine⟨c,_,rfl,SqT.of (s2 _ _ hc),rfl,_,_,rfl,_,_,rfl,rfl,?_⟩
   refine⟨_,rfl,_,rfl,_,rfl,_,rfl,wa,la,a,i,n,ts,rk,ess,e,rfl,(I.same s1).same s2,s2 _ _ ha,⟨m1,m2,zE1 hm⟩,fun H3 s3=>?_⟩
   exact⟨true,rfl,zCa ⟨_,_,rfl,s2.trans s3⟩⟩
 . obtain⟨v2,v3,rfl,s2⟩:=z
   exact k _ (s1.trans s2)
theorem ok_df (F:Fun K "down_fault" "down_fault" sDf f fd') (FF:FuB K mg "far_entries" zG4 fF fdF ["labels"]) (GF:zAK P w K mg base CX0 4 fF fdF ["labels"] zGN)
 (FU:FuB K mg "is_down_right" sDr fU fdU ["web","labels","place","entry"]) (GU:zAK P w K mg base CX0 4 fU fdU ["web", "labels", "place", "entry"] spUr):zAK P w K mg base CX0 5 f fd' ["web", "labels"] zEk:=by
 refine F.okD scDf fun _ A _ _ H vs Q E hr h=>?_
 obtain⟨wa,la,n,ts,rk,ess,rfl,I,k⟩:=h
 obtain⟨_,_,_,_,_,G⟩:=id I.wb
 have hn:=G.n24
 have hl:=I.lg.ln
 refine⟨_,zQ (zBb PassesOwn.never rfl (zCA (zAJ GF hr FF (zC (pv 1) zL))) (zCC rfl (zAE (zAI (i:=2) scDf.nd rfl (Or.inl rfl)) (zAE (zAI (i:=3) scDf.nd rfl (Or.inl rfl)) zBc)))
  (zW (zA5 (zB4 (zBt (zAJ GU hr FU (zC (pv 0) (zC (pv 1) (zC (pv 2) (zC (pv 3) zL))))))) zCB zAP)))
  (zW (zw zAh)),?_⟩
 refine⟨_,rfl,la,ess,rfl,I.lb,by omega,fun es hes=>?_,fun D ys H1 s1 _ hD FA=>?_⟩
 . obtain⟨j,hj,rfl⟩:=zv hes
   exact (I.lo.2 j _ (zB hj)).len
 refine⟨D,rfl,⟨_,SqL.of hD⟩,zC5 (K:=K) (a:=D) (xs:=ys) (fun j σ H2=>∃v2 v3:Option V,σ=[some (.ref wa),some (.ref la),v2,v3]/\zAo H1 H2) ⟨_,_,rfl,zAo.refl _⟩ (fun j σ H2 _ z=>?_) (fun j x σ H2 hx z=>?_) (fun σ H2 z=>?_)⟩
 . obtain⟨_,_,_,s2⟩:=z
   exact SqL.of (s2 _ _ hD)
 . obtain⟨v2,v3,rfl,s2⟩:=z
   obtain⟨c,a,i,e,rfl,hf,hc,ha⟩:=FA.2 j x hx
   have hm:=zX hf
   obtain⟨m1,m2⟩:=zE0 hm
   refine⟨c,_,rfl,SqT.of (s2 _ _ hc),rfl,_,_,rfl,_,_,rfl,rfl,?_⟩
   refine⟨_,rfl,_,rfl,_,rfl,_,rfl,wa,la,a,i,n,ts,rk,ess,e,rfl,(I.same s1).same s2,s2 _ _ ha,⟨m1,m2,zE1 hm⟩,fun H3 s3=>?_⟩
   exact⟨true,rfl,zCa ⟨_,_,rfl,s2.trans s3⟩⟩
 . obtain⟨v2,v3,rfl,s2⟩:=z
   exact k _ (s1.trans s2)
theorem scOf:zo ["labels", "place", "label"] ["labels"] (defScope sOf):=fS0
theorem ok_of (F:Fun K "own_fault" "own_fault" sOf f fd') (FO:FuB K mg "own_place" sOwn fO fdO ["label"]) (GO:zAK P w K mg base CX0 4 fO fdO ["label"] zK1) (mEnum:mg "enumerate" = none):zAK P w K mg base CX0 5 f fd' ["labels"] spOf:=by
 refine F.okD scOf fun _ A _ _ H vs Q E hr h=>?_
 obtain⟨wa,la,n,ts,rk,ess,rfl,I,k⟩:=h
 obtain⟨_,_,_,_,_,G⟩:=id I.wb
 obtain⟨as,hl,hal,hA⟩:=id I.lb
 refine⟨_,zQ (zBb PassesOwn.never rfl (zEr (by rfl) mEnum (zC (pv 0) zL)) (zCC rfl (zAE (zAI (i:=1) scOf.nd rfl (Or.inl rfl)) (zAE (zAI (i:=2) scOf.nd rfl (Or.inl rfl)) zBc)))
  (zW (zA5 (zy zFx (zAJ GO hr FO (zC (pv 2) zL)) (pv 1) (zAC _)) zCB zAP)))
  (zW (zw zAh)),?_⟩
 refine⟨_,rfl,la,rfl,⟨_,SqT.of hl⟩,zDv (K:=K) (a:=la) (xs:=as.map V.ref) (fun i σ H2=>∃v1 v2:Option V,σ=[some (.ref la),v1,v2]/\zAo H H2) ⟨_,_,rfl,zAo.refl _⟩ (fun i σ H2 _ ⟨_,_,_,s2⟩=>SqT.of (s2 _ _ hl)) (fun i x σ H2 Tp hx z hTp=>?_) (fun σ H2 z=>?_)⟩
 . obtain⟨v1,v2,rfl,s2⟩:=z
   rw[zN] at hx
   cases ha:as[i]? with
   | none=>rw[ha] at hx;cases hx
   | some a=>
   rw[ha] at hx
   cases hx
   obtain⟨es,he,L⟩:=hA i a ha
   obtain⟨e,r,hf,hv⟩:=(I.lg.lg i es he).zero G
   have s3:=s2.trans (zG (o:=.tup [.int (i:Int),.ref a]) hTp)
   refine⟨Tp,_,rfl,SqT.of zI,rfl,_,_,rfl,_,_,rfl,rfl,?_⟩
   generalize upd H2 Tp (.tup [.int (i:Int),.ref a])=H3 at s3 ⊢
   refine⟨_,rfl,a,es,e,r,rfl,L.same s3,hf,fun H4 s4=>?_⟩
   refine⟨_,rfl,rfl,_,rfl,ifF (by rw[hv];simp) ?_⟩
   exact⟨_,_,rfl,s3.trans s4⟩
 . obtain⟨v1,v2,rfl,s2⟩:=z
   exact k _ s2
theorem scGm:zo ["here", "there", "long"] ["here", "there", "long"] (defScope sGm):=fS0
theorem ok_gm (F:Fun K "grows_too_much" "grows_too_much" sGm f fd'):zAK P w K mg base CX0 1 f fd' ["here", "there", "long"] spGm:=by
 refine F.okD scGm fun _ A _ _ H vs Q E hr h=>?_
 obtain⟨x,y,l,rfl,hy,k⟩:=h
 refine⟨_,zQ (zA5 (zy zBk (pv 0) zAh (zAC _)) (zW (zw zDS)) zAP)
  (zW (zw (pe_or (zBR zBk (pv 1) zAh (zAC _)) (zCW (zBR zFy (pv 1) (zA6 zB6 (pv 0) (pv 2)) (zAC _)))))),?_⟩
 cases x with
 | none=>exact⟨_,rfl,rfl,_,rfl,ifT (by rfl) k⟩
 | some d=>
  obtain⟨c,rfl,hc⟩:=hy d rfl
  refine⟨_,rfl,rfl,_,rfl,ifF (by rfl) ?_⟩
  refine⟨_,rfl,rfl,_,rfl,ifF (by rfl) ?_⟩
  refine⟨_,rfl,_,rfl,_,rfl,_,_,rfl,rfl,_,_,rfl,rfl,?_⟩
  have z:decide (d+l<c)=false:=zY (by omega)
  dsimp only
  rw[z]
  exact k
theorem zLG:zo ["web", "labels", "u", "label", "row", "v", "w", "long"] ["web", "labels"] (defScope sTf):=fS0
theorem ok_tf {fT fG:Addr}{fdG:FuncData}(F:Fun K "tie_fault" "tie_fault" sTf f fd') (FT:FuB K mg "told" zFv fT fdT ["one","other"]) (GT:zAK P w K mg base CX0 4 fT fdT ["one", "other"] zFB)
 (FA:FuB K mg "ties_at" zEo fA fdA ["web","place"]) (GA:zAK P w K mg base CX0 4 fA fdA ["web", "place"] zFC)
 (FG:FuB K mg "grows_too_much" sGm fG fdG ["here","there","long"]) (GG:zAK P w K mg base CX0 4 fG fdG ["here", "there", "long"] spGm) (mEnum:mg "enumerate" = none) (mRange:mg "range" = none):zAK P w K mg base CX0 5 f fd' ["web", "labels"] zEk:=by
 refine F.okD zLG fun _ A _ _ H vs Q E hr h=>?_
 obtain⟨wa,la,n,ts,rk,ess,rfl,I,k⟩:=h
 obtain⟨ta,tys,hwa,_,_,G⟩:=id I.wb
 have hn1:=G.n1
 have hn:=G.n24
 have hln:=I.lg.ln
 obtain⟨as,hl,hal,hA⟩:=id I.lb
 refine⟨_,zQ (zBb PassesOwn.never rfl (zEr (by rfl) mEnum (zC (pv 1) zL)) (zCC rfl (zAE (zAI (i:=2) zLG.nd rfl (Or.inl rfl)) (zAE (zAI (i:=3) zLG.nd rfl (Or.inr rfl)) zBc)))
  (zQ (zDF (i:=4) (own:=["other"]) (cn:=["label"]) (ci:=[3]) zLG.nd rfl (Or.inl rfl) rfl (csc rfl rfl) ⟨rfl,rfl,rfl,trivial⟩ rfl (zB5 (pv 1)) (fun _ _ _ _=>zBx) (fun _ _ _ _=>zBa)
   (fun _ _ _ _=>zAJ GT hr FT (zC (pv 0) (zC (pv 1) zL))))
  (zW (zBb PassesOwn.never rfl (zAm rfl mRange (zC (zAA zAM (pv 0) zj) zL)) (zAI (i:=5) zLG.nd rfl (Or.inl rfl))
   (zW (zBb PassesOwn.never rfl (zCA (zAJ GA hr FA (zC (pv 0) (zC (pv 5) zL)))) (zCC rfl (zAE (zAI (i:=6) zLG.nd rfl (Or.inl rfl)) (zAE (zAI (i:=7) zLG.nd rfl (Or.inl rfl)) zBc)))
    (zW (zA5 (zBt (zAJ GG hr FG (zC (zAA zAg (pv 4) (pv 5)) (zC (zAA zAg (pv 4) (pv 6)) (zC (pv 7) zL))))) zCB zAP))))))))
  (zW (zw zAh)),?_⟩
 refine⟨_,rfl,la,rfl,⟨_,SqT.of hl⟩,zDv (K:=K) (a:=la) (xs:=as.map V.ref) (fun i σ H2=>∃v2 v3 v4 v5 v6 v7:Option V,σ=[some (.ref wa),some (.ref la),v2,v3,v4,v5,v6,v7]/\zAo H H2) ⟨_,_,_,_,_,_,rfl,zAo.refl _⟩ (fun i σ H2 _ ⟨_,_,_,_,_,_,_,s2⟩=>SqT.of (s2 _ _ hl)) (fun u x σ H2 Tp hx z hTp=>?_) (fun σ H2 z=>?_)⟩
 . obtain⟨v2,v3,v4,v5,v6,v7,rfl,s2⟩:=z
   rw[zN] at hx
   cases ha:as[u]? with
   | none=>rw[ha] at hx;cases hx
   | some a=>
   rw[ha] at hx
   cases hx
   obtain⟨fs,hfs,Lu⟩:=hA u a ha
   have gu:=I.lg.lg u fs hfs
   have s3:=s2.trans (zG (o:=.tup [.int (u:Int),.ref a]) hTp)
   refine⟨Tp,_,rfl,SqT.of zI,rfl,_,_,rfl,_,_,rfl,rfl,?_⟩
   generalize upd H2 Tp (.tup [.int (u:Int),.ref a])=H3 at s3 ⊢
   refine⟨_,rfl,la,rfl,⟨_,SqT.of (s3 _ _ hl)⟩,[.ref a],rfl,fun D hD=>?_⟩
   refine zBn (a:=la) (xs:=as.map V.ref) (fun i ys H4=>∃os:List (Option Int),ys=os.map oV/\os.length=i/\(∀(j:Nat) o,os[j]? = some o->Len ts j u o)/\i<=ess.length/\zAo H3 H4/\H4 D=some (.lst ys)) ⟨[],rfl,rfl,(fun j o e=>by simp at e),zh _,zG hD,zI⟩ (fun i ys H4 z=>?_) (fun i ys H4 z=>?_) (fun i x ys H4 hx z=>?_) (fun ys H4 z=>?_)
   . obtain⟨_,_,_,_,_,s4,_⟩:=z
     exact SqT.of (s4 _ _ (s3 _ _ hl))
   . obtain⟨os,rfl,ho,_,hi,_⟩:=z
     rw[zD]
     exact zAG (by omega)
   . obtain⟨os,rfl,ho,hos,hi,s4,h4⟩:=z
     rw[zN] at hx
     cases hb:as[i]? with
     | none=>rw[hb] at hx;cases hx
     | some b=>
     rw[hb] at hx
     cases hx
     obtain⟨es,hes,Li⟩:=hA i b hb
     have s34:=s3.trans s4
     refine⟨⟨rfl,rfl⟩,?_⟩
     refine zE7 ?_
     refine⟨_,rfl,_,rfl,b,a,es,fs,rfl,Li.same s34,Lu.same s34,gu.hub,fun lm H5 s5 hm=>?_⟩
     have tr:=(zCF G (I.lg.lg i es hes) gu (I.lg.cov i u es fs hes hfs) hm).1
     refine⟨s5 _ _ h4,os++[lm.map (·.1)],by rw[zV];rfl,by rw[zP,ho];rfl,fun j o e=>?_,(zJ.mp hes).1,zAa (s4.trans s5) hD,zI⟩
     by_cases c:j<os.length
     . rw[zZ c] at e
       exact hos j o e
     . rw[zT (by omega)] at e
       have hj:j=i:=by
        have:=(zJ.mp e).1
        rw[List.length_singleton] at this
        omega
       subst hj
       rw[show j-os.length=0 by omega] at e
       cases e
       exact tr
   . obtain⟨os,rfl,ho,hos,_,s4,h4⟩:=z
     rw[zD,hal] at ho
     have s34:=s3.trans s4
     have at':∀x:Int,0<=x->x<n->∃o,atI (os.map oV) x=some (oV o)/\Len ts x u o:=fun x x0 x1=>by
      have hx:x.toNat<os.length:=by omega
      refine⟨os[x.toNat],zAn x0 (by rw[zN,zB hx];rfl),?_⟩
      have:=hos x.toNat _ (zB hx)
      rwa [show ((x.toNat:Nat):Int)=x by omega] at this
     refine⟨_,rfl,wa,_,_,_,rfl,rfl,SqT.of (s34 _ _ hwa),rfl,n,rfl,by omega,by omega,zBm (lo:=0) (n:=n.toNat) (fun i σ H5=>∃v5 v6 v7:Option V,σ=[some (.ref wa),some (.ref la),some (.int u),some (.ref a),some (.ref D),v5,v6,v7]/\zAo H4 H5) ⟨_,_,_,rfl,zAo.refl _⟩ (fun v σ H5 hv z=>?_) (fun σ H5 z=>?_)⟩
     . obtain⟨w5,w6,w7,rfl,s5⟩:=z
       rw[zAf]
       have s35:=s34.trans s5
       refine⟨_,rfl,_,rfl,wa,n,ts,v,rfl,I.wb.keep s35,fun l zs ms H6 s6 _ hl6 TA hp _=>?_⟩
       refine⟨l,rfl,⟨_,SqL.of hl6⟩,zC5 (K:=K) (a:=l) (xs:=zs) (fun j σ H7=>∃v6 v7:Option V,σ=[some (.ref wa),some (.ref la),some (.int u),some (.ref a),some (.ref D),some (.int v),v6,v7]/\zAo H6 H7) ⟨_,_,rfl,zAo.refl _⟩ (fun j σ H7 _ z=>?_) (fun j x σ H7 hx z=>?_) (fun σ H7 z=>?_)⟩
       . obtain⟨_,_,_,s7⟩:=z
         exact SqL.of (s7 _ _ hl6)
       . obtain⟨x6,x7,rfl,s7⟩:=z
         obtain⟨ya,ky,rfl,hky,hya,_⟩:=TA.get hx
         obtain⟨r,c,rfl,hadj⟩:=zC0.mp (hp.mem_iff.mp (zX hky))
         obtain⟨r0,r1⟩:0<=r/\r<n:=(Way.one hadj).in_ G (by omega) (by omega)
         have h47:H7 D=some (.lst (os.map oV)):=s7 _ _ (s6 _ _ (s5 _ _ h4))
         obtain⟨o1,a1,L1⟩:=at' v (by omega) (by omega)
         obtain⟨o2,a2,L2⟩:=at' r r0 r1
         refine⟨ya,_,rfl,SqT.of (s7 _ _ hya),rfl,_,_,rfl,_,_,rfl,rfl,?_⟩
         refine⟨_,rfl,_,rfl,D,_,_,oV o1,rfl,rfl,SqL.of h47,a1,_,rfl,_,rfl,D,_,_,oV o2,rfl,rfl,SqL.of h47,a2,_,rfl,o1,o2,c,rfl,fun d hd=>?_,false,rfl,zCa ⟨_,_,rfl,s7⟩⟩
         subst hd
         have wy:=(Way.one hadj).symm.trans (show WM.IsD ts v u d from L1).1
         cases o2 with
         | none=>exact absurd wy (L2 _)
         | some c'=>exact⟨c',rfl,by have:=(show WM.IsD ts r u c' from L2).2 _ wy;omega⟩
       . obtain⟨x6,x7,rfl,s7⟩:=z
         exact⟨_,_,_,rfl,s5.trans (s6.trans s7)⟩
     . obtain⟨w5,w6,w7,rfl,s5⟩:=z
       exact⟨_,_,_,_,_,_,rfl,s34.trans s5⟩
 . obtain⟨v2,v3,v4,v5,v6,v7,rfl,s2⟩:=z
   exact k _ s2
theorem scRefa:zo ["word", "at"] ["word", "at"] (defScope zH1):=fS0
theorem zLl (F:Fun K "refuse_at" "refuse_at" zH1 f fd'):zAK P w K mg base CX0 1 f fd' ["word", "at"] zKP:=by
 refine F.okD scRefa fun _ A _ _ H vs Q E hr h=>?_
 obtain⟨x,rfl,k⟩:=h
 exact⟨_,zW (zA5 (zy zDH (pv 1) zAh (zAC _)) zCB zAP),⟨_,rfl,rfl,_,rfl,ifF (by rfl) k⟩⟩
theorem scLets:zo ["web", "thing"] ["web", "thing"] (defScope zH3):=fS0
theorem zLp {fR fT:Addr}{fdR:FuncData}(F:Fun K "lets_labels" "lets_labels" zH3 f fd') (FA:FuB K mg "are_labels" zFI fA fdA ["n","thing"]) (GA:zAK P w K mg base CX0 6 fA fdA ["n", "thing"] zFr)
 (FR:FuB K mg "refuse_at" zH1 fR fdR ["word","at"]) (GR:zAK P w K mg base CX0 6 fR fdR ["word", "at"] zKP)
 (FO:FuB K mg "own_fault" sOf fO fdO ["labels"]) (GO:zAK P w K mg base CX0 6 fO fdO ["labels"] spOf)
 (FU:FuB K mg "up_fault" sUf fU fdU ["web","labels"]) (GU:zAK P w K mg base CX0 6 fU fdU ["web", "labels"] zEk)
 (FT:FuB K mg "tie_fault" sTf fT fdT ["web","labels"]) (GT:zAK P w K mg base CX0 6 fT fdT ["web", "labels"] zEk)
 (FD:FuB K mg "down_fault" sDf fD fdD ["web","labels"]) (GD:zAK P w K mg base CX0 6 fD fdD ["web", "labels"] zEk):zAK P w K mg base CX0 7 f fd' ["web", "thing"] zHm:=by
 refine F.okD scLets fun _ A _ _ H vs Q E hr h=>?_
 obtain⟨wa,la,n,ts,rk,ess,rfl,I,k⟩:=h
 obtain⟨ta,tys,hwa,_,_,G⟩:=id I.wb
 have hn1:=G.n1
 have hl:=I.lg.ln
 refine⟨_,zQ (zA5 (zB4 (zBt (zAJ GA hr FA (zC (zAA zAM (pv 0) zj) (zC (pv 1) zL))))) zCB zAP)
  (zQ (zCL (zAJ GR hr FR (zC zGY (zC (zAJ GO hr FO (zC (pv 1) zL)) zL))))
  (zQ (zCL (zAJ GR hr FR (zC zGY (zC (zAJ GU hr FU (zC (pv 0) (zC (pv 1) zL))) zL))))
  (zQ (zCL (zAJ GR hr FR (zC zGY (zC (zAJ GT hr FT (zC (pv 0) (zC (pv 1) zL))) zL))))
  (zQ (zCL (zAJ GR hr FR (zC zGY (zC (zAJ GD hr FD (zC (pv 0) (zC (pv 1) zL))) zL))))
  (zW (zw zDS)))))),?_⟩
 refine⟨_,rfl,wa,_,_,_,rfl,rfl,SqT.of hwa,rfl,_,rfl,n,la,ess,rfl,I.lb,by omega,G.n24,fun es hes=>?_,fun H1 s1=>⟨true,rfl,zCa ?_⟩⟩
 . obtain⟨j,hj,rfl⟩:=zv hes
   exact (I.lo.2 j _ (zB hj)).kind G (by omega) (by omega)
 refine⟨_,rfl,wa,la,n,ts,rk,ess,rfl,I.same s1,fun H2 s2=>⟨_,rfl,?_⟩⟩
 have s12:=s1.trans s2
 refine⟨_,rfl,_,rfl,wa,la,n,ts,rk,ess,rfl,I.same s12,fun H3 s3=>⟨_,rfl,?_⟩⟩
 have s13:=s12.trans s3
 refine⟨_,rfl,_,rfl,wa,la,n,ts,rk,ess,rfl,I.same s13,fun H4 s4=>⟨_,rfl,?_⟩⟩
 have s14:=s13.trans s4
 refine⟨_,rfl,_,rfl,wa,la,n,ts,rk,ess,rfl,I.same s14,fun H5 s5=>⟨_,rfl,?_⟩⟩
 exact k _ (s14.trans s5)
theorem zA9 {l:Int}(G:GW n ts):zBu a b ts=some l↔(a,b,l)∈ts:=by
 have e:=zDX (a:=a) (b:=b) G.dis
 constructor
 . intro h
   rw[h] at e
   have:(a,b,l)∈ts.filter (isP a b):=by rw[e];exact zm.mpr rfl
   exact (zAB.mp this).1
 . intro h
   have m:(a,b,l)∈ts.filter (isP a b):=zAB.mpr ⟨h,zCr.mpr ⟨rfl,rfl⟩⟩
   rw[e] at m
   cases z:zBu a b ts with
   | none=>rw[z] at m;cases m
   | some k=>
    rw[z] at m
    have:=zm.mp m
    injection this with _ this
    injection this with _ this
    rw[this]
theorem Aft.long (G:GW n ts)(G1:GW n t1)(x:Aft a b lo ts t1)(c d:Int):zBu c d t1=if c=a/\d=b then lo else zBu c d ts:=by
 have key:∀l,(c,d,l)∈t1↔((c,d,l)∈ts/\¬ (c=a/\d=b))\/(c=a/\d=b/\lo=some l):=fun l=>by
  rw[x.pm.mem_iff,zp]
  unfold zCo
  rw[zAB]
  refine or_congr (and_congr Iff.rfl ?_) ?_
  . rw[Bool.not_eq_true',<-Bool.not_eq_true,zCr]
  . cases lo with
    | none=>simp[zJE]
    | some k=>simp[zJE];intro _ _;exact eq_comm
 by_cases q:c=a/\d=b
 . rw[if_pos q]
   cases lo with
   | none=>
    cases z:zBu c d t1 with
    | none=>rfl
    | some l=>
     rcases (key l).mp ((zA9 G1).mp z) with h | h
     . exact absurd q h.2
     . cases h.2.2
   | some l=>exact (zA9 G1).mpr ((key l).mpr (.inr ⟨q.1,q.2,rfl⟩))
 . rw[if_neg q]
   cases z:zBu c d ts with
   | some l=>exact (zA9 G1).mpr ((key l).mpr (.inl ⟨(zA9 G).mp z,q⟩))
   | none=>
    cases z1:zBu c d t1 with
    | none=>rfl
    | some l=>
     rcases (key l).mp ((zA9 G1).mp z1) with h | h
     . rw[(zA9 G).mpr h.1] at z;cases z
     . exact absurd ⟨h.1,h.2.1⟩ q
noncomputable abbrev kyT (a b:Int):List Key:=[Sum.inl a,Sum.inl b]
structure JR (n:Int)(kvs:List (List Key×V))(ts:List T3):Prop where
 jd:JD n kvs
 vl:∀a b:Int,zBz kvs (kyT a b)=(zBu a b ts).map V.int
theorem zFW {c d:Int}:kyT c d=kyT a b↔c=a/\d=b:=by simp[kyT]
theorem JR.put {n a b l:Int}{kvs:List (List Key×V)}{ts t1:List T3}(h:JR n kvs ts)(G:GW n ts)(G1:GW n t1)(x:Aft a b (some l) ts t1)(h0:0<=a)(h1:a<b)(h2:b<n)(h3:1<=l)(h4:l<=99):JR n (zCH kvs (kyT a b) (.int l)) t1:=by
 refine⟨h.jd.put h0 h1 h2 h3 h4,fun c d=>?_⟩
 rw[zCt,x.long G G1]
 by_cases q:c=a/\d=b
 . rw[if_pos (zFW.mpr q),if_pos q];rfl
 . rw[if_neg (fun z=>q (zFW.mp z)),if_neg q];exact h.vl c d
theorem JR.drop (h:JR n kvs ts)(G:GW n ts)(G1:GW n t1)(x:Aft a b none ts t1):JR n (zBy kvs (kyT a b)) t1:=by
 refine⟨⟨fun kv hkv=>h.jd.1 kv (zD0 hkv),zDY h.jd.2⟩,fun c d=>?_⟩
 rw[zDb,x.long G G1]
 by_cases q:c=a/\d=b
 . rw[if_pos (zFW.mpr q),if_pos q];rfl
 . rw[if_neg (fun z=>q (zFW.mp z)),if_neg q];exact h.vl c d
theorem zIV {l l':List (List Int)}(h:l.Nodup)(s:∀x∈l,x∈l'):l.length<=l'.length:=by
 induction l generalizing l' with
 | nil=>exact zh _
 | cons a l ih=>
  obtain⟨h1,h2⟩:=zAc.mp h
  have ha:=s a za
  have:=ih (l':=l'.erase a) h2 fun x hx=>(List.mem_erase_of_ne (fun z=>h1 (by rw[<-z];exact hx))).mpr (s x (zi _ hx))
  rw[List.length_erase_of_mem ha] at this
  have:=List.length_pos_of_mem ha
  rw[zn]
  omega
theorem JR.len (h:JR n kvs ts)(G:GW n ts):kvs.length<=ts.length:=by
 have:=zIV (l':=ts.map fun t:T3=>[t.1,t.2.1]) h.jd.nd fun k hk=>by
  obtain⟨a,b,l,rfl,hv,_⟩:=h.jd.val hk
  rw[h.vl] at hv
  cases z:zBu a b ts with
  | none=>rw[z] at hv;cases hv
  | some l'=>exact zq.mpr ⟨_,(zA9 G).mp z,rfl⟩
 rw[zD] at this
 unfold zCq at this
 rw[zD] at this
 exact this
noncomputable def zKN:Sp:=fun vs H Q _=>∃(d:Addr)(n:Int)(ts:List T3)(kvs:List (List Key×V)),vs=[.int n,.ref d]/\H d=some (.dT kvs)/\JR n kvs ts/\GW n ts/\zFp ts/\∀(wa:Addr)(H':Hp),zAo H H'->zBD H' wa n ts->Q (.ref wa) H'
noncomputable def zGL:Sp:=fun vs H Q _=>∃(la lb:Addr)(n:Nat)(ess ess':List (List En)),vs=[.ref la,.ref lb]/\zBT H la ess/\zBT H lb ess'/\ess.length=n/\ess'.length=n/\n<=24/\∀(pa:Addr)(H':Hp),zAo H H'->H' pa=some (.tup ((dif n ess' ess).map V.int))->Q (.ref pa) H'
noncomputable def SmKD (kp d:Addr)(H H':Hp):Prop:=∀b o,b≠kp->b≠d->H b=some o->(∃ps,o = .tbl ps)\/H' b=some o
theorem SmKD.get (s:SmKD kp d H H'){b:Addr}{o:HO}(n1:b≠kp)(n2:b≠d)(e:H b=some o)(h:∀ps,o ≠ .tbl ps):H' b=some o:=by
 rcases s b o n1 n2 e with ⟨ps,z⟩ | z
 . exact absurd z (h ps)
 . exact z
noncomputable def spPut (C PT:Addr):Sp:=fun vs H Q _=>∃(kp dx la wa oa d pa:Addr)(n a b:Int)(ts:List T3)(os:List Int)(ess:List (List En))(kvs:List (List Key×V))(lo:Option Int),vs=[.ref kp,.ref d,.ref pa,oV lo]/\zBC H C kp dx la wa oa n ts os ess/\H d=some (.dT kvs)/\JR n kvs ts/\H pa=some (.tup [.int a,.int b])/\(0<=a/\a<b/\b<n)/\n<=9/\(∀l,lo=some l->1<=l/\l<=99)/\(lo=none->(zBu a b ts).isSome=true)/\Tb H PT /\
 ∀(ra la' wb:Addr)(t2:List T3)(ess':List (List En))(kvs':List (List Key×V))(H':Hp),SmKD kp d H H'->Tb H' PT->zBC H' C kp dx la' wb oa n t2 os ess'->Aft a b lo ts t2->H' d=some (.dT kvs')->JR n kvs' t2->H' ra=some (.tup ((dif n.toNat ess ess').map V.int))->Q (.ref ra) H'
theorem tab_d {PT:Addr}{pos:Pos}{q:Str}{o:HO}(T:zCU H PT pos q)(h:H d=some (.dT kvs)):zCU (upd H d o) PT pos q:=by
 refine T.keep (fun u e=>?_) fun c φ e=>?_
 . obtain⟨ps,hps,_⟩:=T
   rw[zd (zAp hps h (by intro z;cases z))];exact e
 . rw[zd (zAp e h (by intro z;cases z))];exact e
section
variable {P:Program}{w:World}{K:PySem.W.Frag}{mg:sOV}{base:Heap}{C fI fP fS fT fW fL PT:Addr}
theorem scWebO:zo ["_law_n", "_law_joined_here"] ["_law_n", "_law_joined_here"] (defScope zHz):=fS0
theorem zLh (F:Fun K "_law_web_of" "_law_web_of" zHz f fd') (mTuple:mg "tuple" = none) (mSorted:mg "sorted" = none):zAK P w K mg base CX0 2 f fd' ["_law_n", "_law_joined_here"] zKN:=by
 refine F.okD scWebO fun _ A _ _ H vs Q E hr h=>?_
 obtain⟨d,n,ts,kvs,rfl,hk,JRk,G0,sr,k⟩:=h
 have hu:=zEK hr
 have J:=JRk.jd
 have hk64:kvs.length<64:=zAN (JRk.len G0) G0.len
 refine⟨_,zW (zw (zBP (zC (pv 0) (zC (zAy zAb mTuple (zC
  (zA7 (own:=["_law_pair"]) (cn:=["_law_joined_here"]) (ci:=[1]) rfl (csc rfl rfl) ⟨rfl,rfl,rfl,trivial⟩ rfl
   (zCA (zAL (zDR rfl) mSorted (zC (pv 1) zL))) (fun _ _ _ _=>zBx) (fun _ _ _ _=>zBa)
   (fun _ _ _ _=>zBP (zC (zAA zBd (pv 0) zj) (zC (zAA zBd (pv 0) zj) (zC (zEu hu (pv 1) (pv 0) (fun _ _=>rfl)) zL))))) zL)) zL)))),?_⟩
 refine⟨_,rfl,_,rfl,d,kvs,zCq kvs,rfl,hk,J.keys,J.ne,by rw[zCq,zD];exact hk64,fun l zs ms hl TA hp hris=>?_⟩
 refine⟨l,rfl,⟨_,SqL.of zI⟩,[.ref d],rfl,fun D hD=>?_⟩
 have hlz:=TA.length
 have hlm:ms.length=kvs.length:=by rw[hp.length_eq,zCq,zD]
 have nlD:l≠D:=fun e=>by rw[<-e,zI] at hD;cases hD
 have hk1:(upd H l (.lst zs)) d=some (.dT kvs):=zG hl _ _ hk
 have hD5:H D=none:=by rw[zd nlD.symm] at hD;exact hD
 refine zCI (a:=l) (xs:=zs) (fun i ys H6=>∃us:List T3,us.length=i/\us.map (fun t:T3=>[t.1,t.2.1])=ms.take i/\(∀t∈us,t∈ts)/\H6 D=some (.lst ys)/\zAS H6 ys (us.map tl)/\zAo (upd H l (.lst zs)) H6)
  ⟨[],rfl,rfl,fun _ h=>by simp at h,zI,trivial,zG hD⟩ (fun i ys H6 h=>?_) (fun i ys H6 h=>?_) (fun i x ys H6 hx h=>?_) (fun ys H6 h=>?_)
 . obtain⟨_,_,_,_,_,_,s6⟩:=h
   exact SqL.of (s6 _ _ zI)
 . obtain⟨us,e1,e2,_,_,T6,_⟩:=h
   have e3:=T6.length
   rw[zD] at e3
   have e4:=congrArg List.length e2
   rw[zD,zx] at e4
   exact zAG (by omega)
 . obtain⟨us,e1,e2,hts,hD6,T6,s6⟩:=h
   obtain⟨pa,kx,ex,hkx,hpa,_⟩:=TA.get hx
   subst ex
   have hpa6:H6 pa=some (.tup (kx.map V.int)):=s6 _ _ (zG hl _ _ hpa)
   obtain⟨a,b,lg,ek,hv,a0,ab,bn,lg1,lg2⟩:=J.val (hp.mem_iff.mp (zX hkx))
   subst ek
   have hm:(a,b,lg)∈ts:=by
    have z:=JRk.vl a b
    rw[hv] at z
    cases y:zBu a b ts with
    | none=>rw[y] at z;cases z
    | some l'=>rw[y] at z;cases z;exact (zA9 G0).mp y
   refine⟨⟨rfl,rfl⟩,?_⟩
   refine zE7 ?_
   refine⟨_,rfl,pa,_,_,_,rfl,rfl,SqT.of hpa6,rfl,_,rfl,pa,_,_,_,rfl,rfl,SqT.of hpa6,rfl,_,rfl,_,rfl,d,_,rfl,hv ▸ zED.t (k:=[Sum.inl a,Sum.inl b]) (s6 _ _ hk1) hpa6,by show 3<=sizeLine;decide,fun p hp6=>?_⟩
   have nDp:D≠p:=zl hD6 hp6
   refine⟨by rw[zd nDp];exact hD6,us++[(a,b,lg)],by rw[zP,e1];rfl,?_,?_,zI,?_,?_⟩
   . rw[zV,e2,zu,hkx];rfl
   . intro t ht
     rcases zp.mp ht with q | q
     . exact hts t q
     . rw[zm.mp q];exact hm
   . rw[zV]
     refine (T6.keep fun c xs e=>?_).snoc ⟨p,rfl,by rw[zd nDp.symm,zI];rfl,by simp[tl]⟩
     rw[zd (zAp e hD6 (by intro z;cases z)),zd (zl e hp6)]
     exact e
   . exact zAa (s6.trans (zG hp6)) hD
 . obtain⟨us,e1,e2,hts,hD6,T6,s6⟩:=h
   refine⟨D,ys,rfl,.inl ⟨SqL.of hD6,fun ta hta=>?_⟩⟩
   refine⟨by show 2<=sizeLine;decide,fun wa hwa=>?_⟩
   rw[hlz,zf (zK _)] at e2
   have ndk:(us.map fun t:T3=>[t.1,t.2.1]).Nodup:=by rw[e2];exact hp.nodup_iff.mpr J.nd
   have dis:us.Pairwise fun s t=>¬ (s.1=t.1/\s.2.1=t.2.1):=by
    rw[List.Nodup,zAT] at ndk
    exact ndk.imp fun hne hc=>hne (by rw[hc.1,hc.2])
   have ndu:us.Nodup:=dis.imp fun h z=>h (by rw[z];exact⟨rfl,rfl⟩)
   have ndt:ts.Nodup:=G0.dis.imp fun h z=>h (by rw[z];exact⟨rfl,rfl⟩)
   have pm:us.Perm ts:=(List.perm_ext_iff_of_nodup ndu ndt).mpr fun t=>⟨hts t,fun ht=>by
    obtain⟨a,b,lg⟩:=t
    have z:[a,b]∈zCq kvs:=by
     have y:=JRk.vl a b
     rw[(zA9 G0).mpr ht] at y
     have hany:(kvs.any fun kv=>decide (kv.1=kyT a b))=true:=by rw[zBs,y];rfl
     obtain⟨kv,hkv,he⟩:=zBr.mp hany
     exact zq.mpr ⟨kv,hkv,by rw[of_decide_eq_true he];rfl⟩
    have z2:=hp.mem_iff.mpr z
    rw[<-e2] at z2
    obtain⟨t',ht',e'⟩:=zq.mp z2
    obtain⟨a',b',lg'⟩:=t'
    simp only[List.cons.injEq,and_true] at e'
    obtain⟨rfl,rfl⟩:=e'
    have:=(zA9 G0).mpr (hts _ ht')
    rw[(zA9 G0).mpr ht] at this
    cases this
    exact ht'⟩
   have eu:us=ts:=zFp.uniq (zGT (by rw[e2];exact hris) dis) sr pm
   subst eu
   have nwt:wa≠ta:=fun e=>by rw[e,zI] at hwa;cases hwa
   have h6wa:H6 wa=none:=by rw[zd nwt] at hwa;exact hwa
   have s7:zAo H6 (upd (upd H6 ta (.tup ys)) wa (.tup [.int n,.ref ta])):=zAa (zG hta) h6wa
   exact k wa _ ((zG hl).trans (s6.trans s7)) ⟨ta,ys,zI,by rw[zd nwt.symm,zI],T6.keep fun c xs e=>s7 _ _ e,G0⟩
theorem zJW:zo ["_law_former", "_law_labels"] ["_law_former", "_law_labels"] (defScope zDC):=fS0
theorem zIQ (F:Fun K "_law_turned" "_law_turned" zDC f fd') (mRange:mg "range" = none) (mTuple:mg "tuple" = none) (mLen:mg "len" = none):zAK P w K mg base CX0 1 f fd' ["_law_former", "_law_labels"] zGL:=by
 refine F.ok zJW (fun vs H Q E h=>?_) (fun cdv A outer s H vs Q E hr h=>?_)
 . obtain⟨la,lb,n,ess,ess',rfl,_⟩:=h
   rfl
 . obtain⟨la,lb,n,ess,ess',rfl,L1,L2',l1,l2,hn,q⟩:=h
   have hu1:(A.deeper (PyProof.Rows.envOfC (Str.ofString "_law_turned") (defScope zDC) s.heap.objs.size f cdv)).units+1<cLine:=by have:=hr.un;omega
   refine⟨_,zW (zw (zAy zAb mTuple (zC (zA7 (own:=["_law_place"]) (cn:=["_law_labels", "_law_former"]) (ci:=[1,0]) rfl (csc rfl rfl) ⟨rfl,rfl,rfl,rfl,rfl,rfl,trivial⟩ rfl
    (zAm rfl mRange (zC (zAL zA3 mLen (zC (pv 1) zL)) zL)) (fun _ _ _ _=>zBx)
    (fun _ _ _ _=>zB7 (zy (zGa hu1) (zAA zBd (pv 1) (pv 0)) (zAA zBd (pv 2) (pv 0)) (zAC _))) (fun _ _ _ _=>pv 0)) zL))),?_⟩
   obtain⟨as,h1,h2,h3⟩:=id L2'
   refine⟨_,rfl,lb,_,rfl,.inr (SqT.of h1),?_⟩
   have el:((as.map V.ref).length:Int)=(n:Int):=by rw[zD];omega
   rw[el]
   refine⟨(n:Int),rfl,by omega,by omega,[.ref lb,.ref la],rfl,fun D hD=>?_⟩
   refine zBF (lo:=0) (n:=n) (fun j ys H4=>j<=n/\ys=(dif j ess' ess).map V.int/\H4=upd H D (.lst ys)) ⟨zh _,rfl,rfl⟩ (fun j ys H4 z=>?_) (fun j ys H4 hj z=>?_) (fun ys H4 z=>?_)
   . obtain⟨hj,rfl,_⟩:=z
     have h2:=zr (fun i:Int=>!decide (zF6 (ess'.getD i.toNat [])=zF6 (ess.getD i.toNat []))) (lowTo j)
     rw[zCN] at h2
     rw[zD]
     exact zAG (by unfold dif;omega)
   . obtain⟨_,rfl,rfl⟩:=z
     rw[zAf]
     have sD:=zG (o:=.lst ((dif j ess' ess).map V.int)) hD
     obtain⟨as2,b2,e1,e2,e3⟩:=L2'.at_ (i:=j) (by omega)
     obtain⟨as1,b1,f1,f2,f3⟩:=L1.at_ (i:=j) (by omega)
     refine⟨⟨rfl,rfl⟩,?_⟩
     refine⟨_,rfl,_,rfl,lb,_,_,.ref b2,rfl,rfl,SqT.of (sD _ _ e1),zCs e2,?_⟩
     refine⟨_,rfl,_,rfl,la,_,_,.ref b1,rfl,rfl,SqT.of (sD _ _ f1),zCs f2,?_⟩
     refine⟨b2,b1,_,_,rfl,rfl,(e3.same sD).tab,(f3.same sD).tab,_,rfl,?_⟩
     have ed:dif (j+1) ess' ess=dif j ess' ess++(if (!decide (zF6 (ess'.getD j [])=zF6 (ess.getD j [])))=true then [(j:Int)] else []):=by
      unfold dif
      rw[zEY,zAV]
      congr 1
      rw[zA2,zAe,zBj]
     refine zEC (fun c=>?_) (fun c=>?_)
     . refine⟨_,rfl,zI,hj,?_,zBZ⟩
       rw[ed,if_pos (by exact c),zV];rfl
     . refine⟨hj,?_,rfl⟩
       rw[ed,if_neg (by exact c),zt]
   . obtain⟨_,rfl,rfl⟩:=z
     have sD:=zG (o:=.lst ((dif n ess' ess).map V.int)) hD
     refine⟨D,_,rfl,.inl ⟨SqL.of zI,fun pa hpa=>?_⟩⟩
     exact q pa _ (sD.trans (zG (o:=.tup ((dif n ess' ess).map V.int)) hpa)) zI
theorem scPut:zo ["_law_keeper", "_law_joined_here", "_law_pair", "_law_long"] ["_law_keeper", "_law_joined_here", "_law_pair", "_law_long"] (defScope sPut):=fS0
theorem ok_put (T:KC K mg C fI fP fS fT fW fL)(F:Fun K "_law_put" "_law_put" sPut f fd') (bP:zBw K fdP ["self", "one", "other", "long"] []) (GP:zAK P w K mg base CX0 9 fP fdP ["self", "one", "other", "long"] (spKP C PT))
 (bS:zBw K fdS ["self", "one", "other"] []) (GS:zAK P w K mg base CX0 9 fS fdS ["self", "one", "other"] (spKS C PT)):zAK P w K mg base CX0 10 f fd' ["_law_keeper", "_law_joined_here", "_law_pair", "_law_long"] (spPut C PT):=by
 refine F.okD scPut fun _ A _ _ H vs Q E hr h=>?_
 obtain⟨kp,dx,la,wa,oa,d,pa,n,a,b,ts,os,ess,kvs,lo,rfl,KA,hd,JK,hpa,⟨a0,ab,bn⟩,n9,hlo,hno,TT,k⟩:=h
 have hu:=zEK hr
 obtain⟨_,_,_,_,_,G⟩:=id KA.web
 have few:=GW.few G n9
 have ndk:d≠kp:=zAp hd KA.ins (by intro z;cases z)
 refine⟨_,zQ (zA5 (zy zBk (pv 3) zAh (zAC _))
  (zQ (zCL (zJl hu (pv 1) (pv 2) ⟨rfl,rfl,rfl,rfl⟩)) (zW (zw (zDG (pv 0) T.cl T.mS GS hr bS .nil zCy (zC (zAA zAM (pv 2) zj) (zC (zAA zAM (pv 2) zj) zL)))))) zAP)
  (zQ (zCp hu (pv 1) (pv 2) (pv 3) rfl)
  (zW (zw (zDG (pv 0) T.cl T.mP GP hr bP .nil zCy (zC (zAA zAM (pv 2) zj) (zC (zAA zAM (pv 2) zj) (zC (pv 3) zL))))))),?_⟩
 have hpk:H pa=some (.tup ((kyT a b).map kV)):=hpa
 have fin:∀(kvs':List (List Key×V))(H1:Hp),H1=upd H d (.dT kvs')->zBC H1 C kp dx la wa oa n ts os ess/\Tb H1 PT/\H1 pa=some (.tup [.int a,.int b])/\H1 d=some (.dT kvs'):=fun kvs' H1 e=>by
  subst e
  have kt:∀(c:Addr)(ys:List V),H c=some (.tup ys)->upd H d (.dT kvs') c=some (.tup ys):=fun c ys e=>by rw[zd (zAp e hd (by intro z;cases z))];exact e
  exact⟨KA.keep (by rw[zd ndk.symm]) kt,tab_d TT hd,kt _ _ hpa,zI⟩
 have out:∀(kvs':List (List Key×V))(H1:Hp),H1=upd H d (.dT kvs')->(∀t2,GW n t2->Aft a b lo ts t2->JR n kvs' t2)->∀x y,loP x y=a->hiP x y=b->zMJ C PT kp dx oa n x y lo ts os ess H1 Q:=fun kvs' H1 e hJ x y ex ey ra la' wb t2 ess' H2 sm T2 K2 af hra=>by
  rw[ex,ey] at af
  obtain⟨_,_,_,_,_,G2⟩:=id K2.web
  refine k ra la' wb t2 ess' kvs' H2 (fun c o n1 n2 ec=>?_) T2 K2 af (sm.get ndk (fin kvs' H1 e).2.2.2 (by intro ps z;cases z)) (hJ t2 G2 af) hra
  refine sm c o n1 ?_
  rw[e,zd n2];exact ec
 cases lo with
 | none=>
  refine⟨_,rfl,rfl,_,rfl,ifT (by rfl) ?_⟩
  obtain⟨l,hl⟩:=zAs.mp (hno rfl)
  have hv:zBz kvs (kyT a b)=some (.int l):=by rw[JK.vl,hl];rfl
  refine⟨_,rfl,d,rfl,.inr ⟨kvs,.inl hd⟩,_,rfl,kvs,kyT a b,pa,.int l,hd,rfl,hpk,JK.jd.2,hv,?_⟩
  obtain⟨K1,T1,hp1,_⟩:=fin _ _ rfl
  refine⟨_,rfl,kp,dx,_,rfl,K1.ins,rfl,_,rfl,pa,_,_,.int b,rfl,rfl,SqT.of hp1,rfl,_,rfl,pa,_,_,.int a,rfl,rfl,SqT.of hp1,rfl,?_⟩
  refine⟨kp,dx,la,wa,oa,n,b,a,ts,os,ess,rfl,K1,⟨by omega,bn⟩,⟨a0,by omega⟩,by omega,?_,by omega,T1,?_⟩
  . rw[show loP b a=a by unfold loP;rw[if_pos ab],show hiP b a=b by unfold hiP;rw[if_neg (by omega)]];exact hno rfl
  . exact out _ _ rfl (fun t2 G2 af=>JK.drop G G2 af) b a (by unfold loP;rw[if_pos ab]) (by unfold hiP;rw[if_neg (by omega)])
 | some l=>
  obtain⟨l1,l99⟩:=hlo l rfl
  refine⟨_,rfl,rfl,_,rfl,ifF (by rfl) ?_⟩
  refine⟨_,rfl,_,rfl,_,rfl,d,_,rfl,zHW.t (k:=kyT a b) hd hpk (zAG (by have:=JK.len G;omega)),?_⟩
  obtain⟨K1,T1,hp1,_⟩:=fin _ _ rfl
  refine⟨_,rfl,kp,dx,_,rfl,K1.ins,rfl,_,rfl,pa,_,_,.int a,rfl,rfl,SqT.of hp1,rfl,_,rfl,pa,_,_,.int b,rfl,rfl,SqT.of hp1,rfl,_,rfl,?_⟩
  refine⟨kp,dx,la,wa,oa,n,a,b,l,ts,os,ess,rfl,K1,⟨a0,by omega⟩,⟨by omega,bn⟩,by omega,⟨l1,l99⟩,.inr (by omega),by omega,T1,?_⟩
  exact out _ _ rfl (fun t2 G2 af=>JK.put G G2 af a0 ab bn l1 l99) a b (by unfold loP;rw[if_neg (by omega)]) (by unfold hiP;rw[if_pos (by omega)])
end
noncomputable def oD:Option Int->PyData
 | none=>.none
 | some i=>.int i
noncomputable def entD (e:En):PyData:=.tuple [.int e.h,.int e.l,oD e.u,oD e.d]
noncomputable def labD (es:List En):PyData:=.tuple (es.map entD)
noncomputable def labsD (ess:List (List En)):PyData:=.tuple (ess.map labD)
theorem zJV (H:Hp)(o:Option Int):zCc H (oV o) (oD o):=by
 cases o with
 | none=>exact .non
 | some d=>exact .int d
theorem zKT {H:Hp}:∀{as:List Addr}{es:List En},zDU H as es->zBS H (as.map V.ref) (es.map entD)
 | [],[],_=>.nil
 | [],_::_,h=>by have:=h.1;simp at this
 | _::_,[],h=>by have:=h.1;simp at this
 | a::as,e::es,h=>by
  obtain⟨e',h1,h2⟩:=h.2 0 a rfl
  have:e=e':=by simpa using h1
  subst this
  refine .cons (.tup h2 (.cons (.int _) (.cons (.int _) (.cons (zJV H _) (.cons (zJV H _) .nil))))) (zKT ⟨by have:=h.1;simpa using this,fun i b hb=>?_⟩)
  obtain⟨e2,h3,h4⟩:=h.2 (i+1) b (by simpa using hb)
  exact⟨e2,by simpa using h3,h4⟩
theorem zGO {H:Hp}:∀{as:List Addr}{ess:List (List En)},as.length=ess.length->(∀(i:Nat)(a:Addr),as[i]? = some a->∃es,ess[i]? = some es/\zBv H a es)->zBS H (as.map V.ref) (ess.map labD)
 | [],[],_,_=>.nil
 | [],_::_,h,_=>by simp at h
 | _::_,[],h,_=>by simp at h
 | a::as,es::ess,h,k=>by
  obtain⟨es',h1,as',h2,h3,_⟩:=k 0 a rfl
  have:es=es':=by simpa using h1
  subst this
  refine .cons (.tup h2 (zKT h3)) (zGO (by simpa using h) fun i b hb=>?_)
  obtain⟨e2,h4,h5⟩:=k (i+1) b (by simpa using hb)
  exact⟨e2,by simpa using h4,h5⟩
theorem zEm (h:zBT H l ess):zCc H (.ref l) (labsD ess):=by
 obtain⟨as,h1,h2,h3⟩:=h
 exact .tup h1 (zGO h2 h3)
theorem zL6 (h:∀d,o=some d->d.natAbs<1000000000):Fn 30 0 (oD o):=by
 cases o with
 | none=>exact zL7.mono (by decide) (by decide)
 | some d=>exact zEc (h d rfl)
theorem zLx (G:GW n ts){p:Int}(h:Nxt ts x y p):0<=p/\p<n:=by
 obtain⟨l,b,a,_⟩:=h
 rcases a with a | a
 . have:=G.rng _ a
   simp only at this
   omega
 . have:=G.rng _ a
   simp only at this
   omega
theorem zIa (G:GW n ts)(h:zGs (Nxt ts x y) o):∀d,o=some d->d.natAbs<1000000000:=by
 intro d e
 subst e
 have:=zLx G h.1
 have:=G.n24
 omega
theorem zIq (G:GW n ts)(L:zCJ ts n rk ess)(bd:∀es∈ess,∀e∈es,0<=e.l/\e.l<=2376):Fn 1048576 50 (labsD ess):=by
 have hn:=G.n24
 have hl:=L.1
 refine (zDx (n:=3000) (p:=2) (L:=24) (fun d hd=>?_) (by rw[zD];omega)).mono (by decide) (by decide)
 obtain⟨es,hes,rfl⟩:=zq.mp hd
 obtain⟨i,hi,ei⟩:=zv hes
 have LO:=L.2 i es (by rw[zB hi,ei])
 refine (zDx (n:=124) (p:=1) (L:=24) (fun d hd=>?_) (by rw[zD];exact LO.len)).mono (by decide) (by decide)
 obtain⟨e,he,rfl⟩:=zq.mp hd
 have E:=LO.ent e he
 have hr:=E.rng
 have hb:=bd es hes e he
 refine (zDx (n:=30) (p:=0) (L:=4) (ds:=[.int e.h,.int e.l,oD e.u,oD e.d]) (fun d hd=>?_) (zK 4)).mono (by decide) (by decide)
 simp only[zc,List.not_mem_nil,or_false] at hd
 rcases hd with rfl | rfl | rfl | rfl
 . exact zEc (by omega)
 . exact zEc (by omega)
 . exact zL6 (zIa G E.up)
 . exact zL6 (zIa G E.dn)
noncomputable def tieT (t:T3):PyData:=.tuple ((tl t).map PyData.int)
noncomputable def zKs (n:Int)(ts:List T3):PyData:=.tuple [.int n,.tuple (ts.map tieT)]
theorem zFs {H:Hp}:∀l:List Int,zBS H (l.map V.int) (l.map PyData.int)
 | []=>.nil
 | _::r=>.cons (.int _) (zFs r)
theorem zHt {H:Hp}:∀{xs:List V}{ts:List T3},zAS H xs (ts.map tl)->zBS H xs (ts.map tieT)
 | [],[],_=>.nil
 | [],_::_,h=>h.elim
 | _::_,[],h=>h.elim
 | x::xs,t::ts,h=>by
  obtain⟨⟨a,rfl,ha,_⟩,hr⟩:=h
  exact .cons (.tup ha (zFs _)) (zHt hr)
theorem zKS (W:zBD H wa n ts):zCc H (.ref wa) (zKs n ts):=by
 obtain⟨ta,tys,h1,h2,h3,_⟩:=W
 exact .tup h1 (.cons (.int _) (.cons (.tup h2 (zHt h3)) .nil))
theorem web_fn (g:GW n ts):Fn 12034 3 (zKs n ts):=by
 have h1:=g.n1
 have h2:=g.n24
 have hl:=g.len
 have ht:Fn 6016 2 (.tuple (ts.map tieT)):=by
  refine (zDx (n:=93) (p:=1) (L:=64) (fun d hd=>?_) (by rw[zD];omega)).mono (by decide) (by decide)
  obtain⟨t,ht,rfl⟩:=zq.mp hd
  obtain⟨r1,r2,r3,r4,r5⟩:=g.rng t ht
  refine (zDx (n:=30) (p:=0) (L:=3) (fun d hd=>?_) (by rw[zD];exact zK 3)).mono (by decide) (by decide)
  obtain⟨i,hi,rfl⟩:=zq.mp hd
  have hi':i=t.1\/i=t.2.1\/i=t.2.2:=by simpa [tl] using hi
  exact zEc (by omega)
 refine (zDx (n:=6016) (p:=2) (L:=2) (ds:=[.int n,.tuple (ts.map tieT)]) (fun d hd=>?_) (zK 2)).mono (by decide) (by decide)
 rcases zc.mp hd with rfl | hd
 . exact (zEc (by omega)).mono (by decide) (by decide)
 . rcases zc.mp hd with rfl | hd
   . exact ht
   . cases hd
theorem zIP:OpR X (compareOp .IsNot) (fun x y H Q=>∃c d,x = .bl c/\y = .bl d/\Q (.bl (c != d)) H):=by
 intro pins s σ H x y v u Q I rx ry h
 obtain⟨c,d,rfl,rfl,q⟩:=h
 cases rx
 cases ry
 exact PyProof.Rows.isnot_bool (zAz I q rfl)
noncomputable def zJT (C PT:Addr):Sp:=fun vs H Q _=>∃(kp dx la wa oa wb:Addr)(n:Int)(ts:List T3)(os:List Int)(ess:List (List En)),vs=[.ref kp,.ref wb,.ref oa]/\zBC H C kp dx la wa oa n ts os ess/\zBD H wb n ts/\Tb H PT/\∀H',SmT H H'->Tb H' PT->Q (.bl true) H'
theorem zBC.smT (h:zBC H C kp dx la wa oa n ts os ess)(s:SmT H H'):zBC H' C kp dx la wa oa n ts os ess:=
 h.keep ((s.get h.ins (by intro ps z;cases z)).trans h.ins.symm) fun b ys e=>s.get e (by intro ps z;cases z)
theorem zFo.no (h:zFo ts x y none)(G:GW n ts)(p:Int):¬ Nxt ts x y p:=fun z=>by
 have ne:=Nxt.ne G z
 obtain⟨l,b,_,_,iab⟩:=z
 obtain⟨q,e,_⟩:=h.2.2 _ ne iab
 cases e
theorem zFo.yes {p:Int}(h:zFo ts x y (some p))(G:GW n ts)(L:Len ts x y o):Nxt ts x y p:=by
 cases o with
 | none=>cases h.2.1 L
 | some d=>
  by_cases c:x=y
  . cases h.1 c
  . obtain⟨q,e,nx⟩:=h.2.2 d c L
    cases e
    exact nx
theorem zKi {M:lLO}(R:Rows ts n M)(x0:0<=x)(x1:x<n)(y0:0<=y)(y1:y<n)(L:Len ts x y o):Fn 1048576 50 (oD o):=
 (zL6 fun d e=>by
  subst e
  have:=zH9 R x0 x1 y0 y1 L
  omega).mono (by decide) (by decide)
theorem zJ4 {o':Option Int}(a:Len ts x y o)(b:Len ts x y o'):o=o':=by
 cases o with
 | none=>cases o' with
  | none=>rfl
  | some d=>exact absurd (show WM.IsD ts x y d from b).1 (a d)
 | some d=>cases o' with
  | none=>exact absurd (show WM.IsD ts x y d from a).1 (b d)
  | some d'=>rw[WM.IsD.uniq (show WM.IsD ts x y d from a) b]
theorem zL1 {xs:List Int}(h:x∈xs):inV (.int x) (xs.map V.int)=true:=by
 unfold inV
 rw[List.any_map]
 exact zBr.mpr ⟨x,h,by simp[eqV]⟩
theorem flatI (xs:List Int):(xs.map V.int).all zEL=true:=by
 rw[List.all_map]
 exact zAj.mpr fun x _=>rfl
section
variable {P:Program}{w:World}{K:PySem.W.Frag}{mg:sOV}{base:Heap}{C fI fP fS fT fW fL PT:Addr}
theorem zFu:zo ["_law_keeper", "_law_web_here", "_law_order_here", "_law_labels", "_law_far_here", "_law_one", "_law_other", "_law_step", "_law_nexts_here"] ["_law_keeper", "_law_web_here", "_law_order_here"] (defScope sIsr):=fS0
theorem ok_isr {fLt fFr fNs:Addr}{fdLt fdFr fdNs:FuncData}(T:KC K mg C fI fP fS fT fW fL)(MN:zGt K C "length_of" fN) (MU:zGt K C "step_of" fU) (F:Fun K "_law_is_right" "_law_is_right" sIsr f fd')
 (bW:zBw K fdW ["self"] []) (GW':zAK P w K mg base CX0 8 fW fdW ["self"] (spKW C)) (bL:zBw K fdL ["self"] []) (GL:zAK P w K mg base CX0 8 fL fdL ["self"] (spKL C))
 (bN:zBw K fdN ["self", "one", "other"] []) (GN:zAK P w K mg base CX0 8 fN fdN ["self", "one", "other"] (spKN C)) (bU:zBw K fdU ["self", "one", "other"] []) (GU:zAK P w K mg base CX0 8 fU fdU ["self", "one", "other"] (spKU C))
 (FB:FuB K mg "by_order" zLM fB fdB ["web","order"]) (GB:zAK P w K mg base CX0 8 fB fdB ["web", "order"] (zHs PT))
 (FLt:FuB K mg "lets_labels" zH3 fLt fdLt ["web","thing"]) (GLt:zAK P w K mg base CX0 8 fLt fdLt ["web", "thing"] zHm)
 (FFr:FuB K mg "_law_far" sFar fFr fdFr ["_law_web_here"]) (GFr:zAK P w K mg base CX0 8 fFr fdFr ["_law_web_here"] spFar)
 (FNs:FuB K mg "_law_nexts" sNxs fNs fdNs ["_law_web_here","_law_far_here","_law_one","_law_other"]) (GNs:zAK P w K mg base CX0 8 fNs fdNs ["_law_web_here", "_law_far_here", "_law_one", "_law_other"] spNxs)
 (mRange:mg "range" = none) (mRepr:mg "repr" = none):zAK P w K mg base CX0 9 f fd' ["_law_keeper", "_law_web_here", "_law_order_here"] (zJT C PT):=by
 refine F.okD zFu fun _ A _ _ H vs Q E hr h=>?_
 obtain⟨kp,dx,la,wa,oa,wb,n,ts,os,ess,rfl,KA,WB,TT,k⟩:=h
 have hu0:=hr.units0
 obtain⟨tb,tys,hwb,_,_,G⟩:=id WB
 have hn1:=G.n1
 have hn24:=G.n24
 obtain⟨rk,RK,LO⟩:=id KA.lof
 have fw:Fn 1048576 50 (zKs n ts):=(web_fn G).mono (by decide) (by decide)
 have fl:=zIq G LO KA.bd
 refine⟨_,zQ (zBB (i:=3) zFu.nd (zCx (pv 0) T.cl T.mL GL hr bL .nil zCy))
  (zQ (zA5 (PW.pt (zCv (zy zFx (zAL (zBQ hr) mRepr (zC (zCx (pv 0) T.cl T.mW GW' hr bW .nil zCy) zL)) (zAL (zBQ hr) mRepr (zC (pv 1) zL)) (zAC _))
   (zCG (zy zFx (zAL (zBQ hr) mRepr (zC (pv 3) zL)) (zAL (zBQ hr) mRepr (zC (zAJ GB hr FB (zC (pv 1) (zC (pv 2) zL))) zL)) (zAC _))))) zCB zAP)
  (zQ (zA5 (zy zIP (zAJ GLt hr FLt (zC (pv 1) (zC (pv 3) zL))) zDS (zAC _)) zCB zAP)
  (zQ (zBB (i:=4) zFu.nd (zAJ GFr hr FFr (zC (pv 1) zL)))
  (zQ (zBb PassesOwn.never rfl (zAm rfl mRange (zC (zAA zAM (pv 1) zj) zL)) (zAI (i:=5) zFu.nd rfl (Or.inl rfl))
   (zW (zBb PassesOwn.never rfl (zAm rfl mRange (zC (zAA zAM (pv 1) zj) zL)) (zAI (i:=6) zFu.nd rfl (Or.inl rfl))
    (zQ (zA5 (zy zFx (zAL (zBQ hr) mRepr (zC (zDG (pv 0) T.cl MN GN hr bN .nil zCy (zC (pv 5) (zC (pv 6) zL))) zL)) (zAL (zBQ hr) mRepr (zC (zAA zAg (zAA zAg (pv 4) (pv 5)) (pv 6)) zL)) (zAC _)) zCB zAP)
    (zQ (zBB (i:=7) zFu.nd (zDG (pv 0) T.cl MU GU hr bU .nil zCy (zC (pv 5) (zC (pv 6) zL))))
    (zQ (zBB (i:=8) zFu.nd (zAJ GNs hr FNs (zC (pv 1) (zC (pv 4) (zC (pv 5) (zC (pv 6) zL))))))
    (zW (zA5 (PW.pt (zCv (PW.pt (zER (zy zBk (pv 7) zAh (zAC _)) (zDD (zy (op_neE hu0) (pv 8) (zCX zL) (zAC _))))) (zCG (PW.pt (zER (zy zDH (pv 7) zAh (zAC _)) (zDD (zy zFQ (pv 7) (pv 8) (by with_unfolding_all rfl)))))))) zCB zAP))))))))
  (zW (zw zDS)))))),?_⟩
 refine⟨_,rfl,kp,dx,_,rfl,KA.ins,rfl,kp,dx,la,wa,oa,n,ts,os,ess,rfl,KA,?_⟩
 refine⟨_,rfl,kp,dx,_,rfl,KA.ins,rfl,kp,dx,la,wa,oa,n,ts,os,ess,rfl,KA,_,_,rfl,zKS KA.web,fw,?_⟩
 refine⟨_,rfl,_,_,rfl,zKS WB,fw,rfl,_,rfl,ifF (by simp) ?_⟩
 refine⟨_,rfl,_,_,rfl,zEm KA.lab,fl,?_⟩
 refine⟨_,rfl,_,rfl,wb,oa,n,ts,os,rfl,WB,KA.ord,KA.od,TT,fun l ess' rk' H1 sm1 T1 LA' RK' LO' _=>?_⟩
 obtain rfl:ess=ess':=zCJ.uniq G KA.od.nd RK RK' LO LO'
 refine⟨_,_,rfl,zEm LA',fl,rfl,_,rfl,ifF (by simp) ?_⟩
 have KA1:=KA.smT sm1
 have WB1:zBD H1 wb n ts:=WB.keepT fun b ys e=>sm1.get e (by intro ps z;cases z)
 refine⟨_,rfl,_,rfl,wb,la,n,ts,rk,ess,rfl,⟨WB1,KA1.lab,LO,LO.good G RK⟩,fun H2 s2=>?_⟩
 refine⟨true,true,rfl,rfl,_,rfl,ifF (by rfl) ?_⟩
 refine⟨_,rfl,wb,n,ts,rfl,WB1.keep s2,fun fa rs M H3 s3 hfa LR RR=>?_⟩
 have s13:=s2.trans s3
 have FR:zGH H3 fa n ts M:=⟨rs,hfa,LR,RR⟩
 have KA3:=KA1.same s13
 have WB3:=WB1.keep s13
 have sm3:SmT H H3:=sm1.trans (SmT.of s13)
 have T3:=T1.same s13
 have hwb3:H3 wb=some (.tup [.int n,.ref tb]):=sm3.get hwb (by intro ps z;cases z)
 clear KA1 WB1 s13 s2 s3 T1 sm1
 refine⟨_,rfl,wb,_,_,_,rfl,rfl,SqT.of hwb3,rfl,n,rfl,by omega,by omega,zBm (lo:=0) (n:=n.toNat) (fun i σ H4=>∃v5 v6 v7 v8:Option V,σ=[some (.ref kp),some (.ref wb),some (.ref oa),some (.ref la),some (.ref fa),v5,v6,v7,v8]/\zAo H3 H4) ⟨_,_,_,_,rfl,zAo.refl _⟩ (fun x σ H4 hx z=>?_) (fun σ H4 z=>?_)⟩
 . obtain⟨v5,v6,v7,v8,rfl,s4⟩:=z
   rw[zAf]
   refine⟨_,rfl,wb,_,_,_,rfl,rfl,SqT.of (s4 _ _ hwb3),rfl,n,rfl,by omega,by omega,zBm (lo:=0) (n:=n.toNat) (fun i σ H5=>∃v6 v7 v8:Option V,σ=[some (.ref kp),some (.ref wb),some (.ref oa),some (.ref la),some (.ref fa),some (.int x),v6,v7,v8]/\zAo H3 H5) ⟨_,_,_,rfl,s4⟩ (fun y σ H5 hy z=>?_) (fun σ H5 z=>?_)⟩
   . obtain⟨w6,w7,w8,rfl,s5⟩:=z
     rw[zAf]
     have x0:(0:Int)<=x:=by omega
     have x1:(x:Int)<n:=by omega
     have y0:(0:Int)<=y:=by omega
     have y1:(y:Int)<n:=by omega
     have KA5:=KA3.same s5
     refine⟨_,rfl,kp,dx,_,rfl,KA5.ins,rfl,_,rfl,_,rfl,kp,dx,la,wa,oa,n,x,y,ts,os,ess,rfl,KA5,⟨x0,x1⟩,⟨y0,y1⟩,fun o H6 s6 Lo=>?_⟩
     have s36:=s5.trans s6
     refine⟨_,_,rfl,zJV _ o,zKi RR x0 x1 y0 y1 Lo,?_⟩
     obtain⟨rs6,r6,row6,f1,f2,f3,f4,f5⟩:=(FR.keep fun b ys e=>s36 _ _ e).get x0 x1 y0 y1
     refine⟨_,rfl,_,rfl,fa,_,_,.ref r6,rfl,rfl,SqL.of f1,f2,_,rfl,r6,_,_,_,rfl,rfl,SqL.of f3,f4,?_⟩
     obtain rfl:o=mat M x y:=zJ4 Lo f5
     refine⟨_,_,rfl,zJV _ _,zKi RR x0 x1 y0 y1 f5,rfl,_,rfl,ifF (by simp) ?_⟩
     have KA6:=KA3.same s36
     refine⟨_,rfl,kp,dx,_,rfl,KA6.ins,rfl,_,rfl,_,rfl,kp,dx,la,wa,oa,n,x,y,ts,os,ess,rfl,KA6,⟨x0,x1⟩,⟨y0,y1⟩,fun st H7 s7 St=>?_⟩
     have s37:=s36.trans s7
     refine⟨_,rfl,_,rfl,_,rfl,_,rfl,wb,fa,n,ts,M,x,y,rfl,WB3.keep s37,FR.keep fun b ys e=>s37 _ _ e,x0,x1,y0,y1,fun l8 xs H8 s8 h8 rise mem=>?_⟩
     have s38:=s37.trans s8
     cases st with
     | none=>
      have hxs:xs=[]:=by
       cases xs with
       | nil=>rfl
       | cons p xs=>exact absurd ((mem p).mp za) (St.no G p)
      subst hxs
      refine⟨_,rfl,rfl,_,rfl,ifT (by rfl) ?_⟩
      refine⟨_,rfl,zh _,fun b hb=>?_⟩
      refine⟨l8,b,[],rfl,rfl,SqL.of (zG hb _ _ h8),SqL.of zI,_,rfl,ifF (by rfl) ?_⟩
      refine⟨_,rfl,rfl,_,rfl,ifF (by rfl) (zCa ?_)⟩
      exact⟨_,_,_,rfl,s38.trans (zG hb)⟩
     | some p=>
      refine⟨_,rfl,rfl,_,rfl,ifF (by rfl) (zCa ?_)⟩
      refine⟨_,rfl,rfl,_,rfl,ifT (by rfl) ?_⟩
      refine⟨_,rfl,_,rfl,l8,_,rfl,.inl (SqL.of h8),rfl,flatI xs,_,rfl,ifF (by show (if true=true then !inV (V.int p) (xs.map V.int) else _)=false;rw[if_pos rfl,zL1 ((mem p).mpr (St.yes G Lo))];rfl) ?_⟩
      exact⟨_,_,_,rfl,s38⟩
   . obtain⟨w6,w7,w8,rfl,s5⟩:=z
     exact⟨_,_,_,_,rfl,s5⟩
 . obtain⟨v5,v6,v7,v8,rfl,s4⟩:=z
   exact k _ (sm3.trans (SmT.of s4)) (T3.same s4)
end
theorem zAr.smT {t:Addr}(h:zAr H t N)(k:SmT H H'):zAr H' t N:=by
 obtain⟨p,ns,spot,rest,a,b,c⟩:=h
 exact⟨p,ns,spot,rest,k.get a (by intro ps z;cases z),k.get b (by intro ps z;cases z),c⟩
structure DI (C PT t kp dx oa d:Addr)(n:Int)(os:List Int)(N:Nat)(la wa:Addr)(ts:List T3)(ess:List (List En))(kvs:List (List Key×V))(H:Hp):Prop where
 tp:zAr H t N
 ka:zBC H C kp dx la wa oa n ts os ess
 hd:H d=some (.dT kvs)
 jr:JR n kvs ts
 tb:Tb H PT
section
variable {C PT t kp dx oa d la wa:Addr}{n:Int}{os:List Int}{N:Nat}{ts:List T3}{ess:List (List En)}{kvs:List (List Key×V)}{H H':Hp}
theorem DI.ndt (h:DI C PT t kp dx oa d n os N la wa ts ess kvs H):d≠t/\kp≠t/\d≠kp:=by
 obtain⟨p,ns,spot,rest,a,_⟩:=h.tp
 exact⟨zAp h.hd a (by intro z;cases z),zAp h.ka.ins a (by intro z;cases z),zAp h.hd h.ka.ins (by intro z;cases z)⟩
theorem DI.same (h:DI C PT t kp dx oa d n os N la wa ts ess kvs H)(s:zAo H H'):DI C PT t kp dx oa d n os N la wa ts ess kvs H':=⟨h.tp.keep s,h.ka.same s,s _ _ h.hd,h.jr,h.tb.same s⟩
theorem DI.smT (h:DI C PT t kp dx oa d n os N la wa ts ess kvs H)(s:SmT H H')(b:Tb H' PT):DI C PT t kp dx oa d n os N la wa ts ess kvs H':=⟨h.tp.smT s,h.ka.smT s,s.get h.hd (by intro ps z;cases z),h.jr,b⟩
theorem DI.tup (h:DI C PT t kp dx oa d n os N la wa ts ess kvs H){b:Addr}(e:H b=some (.tup ys)):b≠t/\b≠kp/\b≠d:=by
 obtain⟨p,ns,spot,rest,a,_⟩:=h.tp
 exact⟨zAp e a (by intro z;cases z),zAp e h.ka.ins (by intro z;cases z),zAp e h.hd (by intro z;cases z)⟩
theorem DI.draw {M:Nat}(h:DI C PT t kp dx oa d n os N la wa ts ess kvs H)(T:zAr H' t M)(e:∀b,b≠t->H' b=H b):DI C PT t kp dx oa d n os M la wa ts ess kvs H':=by
 have sm:Sm t H H':=fun b o nb z=>by rw[e b nb];exact z
 exact⟨T,h.ka.keep (e _ h.ndt.2.1) fun b ys z=>sm _ _ (h.tup z).1 z,sm _ _ h.ndt.1 h.hd,h.jr,by
  obtain⟨p,ns,spot,rest,a,_⟩:=h.tp
  obtain⟨ps,hp,_⟩:=id h.tb
  exact h.tb.keep (fun o z=>sm _ _ (zAp hp a (by intro z;cases z)) z) fun c φ z=>sm _ _ (zAp z a (by intro z;cases z)) z⟩
theorem DI.put {la' wb:Addr}{t2:List T3}{ess':List (List En)}{kvs':List (List Key×V)}(h:DI C PT t kp dx oa d n os N la wa ts ess kvs H)(s:SmKD kp d H H')(T2:Tb H' PT)(K2:zBC H' C kp dx la' wb oa n t2 os ess')(hd':H' d=some (.dT kvs'))(J:JR n kvs' t2):DI C PT t kp dx oa d n os N la' wb t2 ess' kvs' H':=by
 refine⟨?_,K2,hd',J,T2⟩
 obtain⟨p,ns,spot,rest,a,b,c⟩:=h.tp
 exact⟨p,ns,spot,rest,s.get (zAp a h.ka.ins (by intro z;cases z)) (zAp a h.hd (by intro z;cases z)) a (by intro ps z;cases z),s.get (zAp b h.ka.ins (by intro z;cases z)) (zAp b h.hd (by intro z;cases z)) b (by intro ps z;cases z),c⟩
end
noncomputable def zKR (C PT:Addr):Sp:=fun vs H Q _=>∃(t kp dx oa d la wa:Addr)(n:Int)(os:List Int)(N:Nat)(ts:List T3)(ess:List (List En))(kvs:List (List Key×V)),vs=[.ref t,.ref kp,.ref d,.int n,.ref oa]/\DI C PT t kp dx oa d n os N la wa ts ess kvs H/\N<800000/\2<=n/\n<=9 /\
 ∀(la' wb:Addr)(t2:List T3)(ess':List (List En))(kvs':List (List Key×V))(H':Hp),DI C PT t kp dx oa d n os (N+10) la' wb t2 ess' kvs' H'->Q (.bl true) H'
noncomputable def tLong (C PT:Addr):TS:=fun D σ H=>∃(t kp dx oa d la wa pa:Addr)(n a b l:Int)(os:List Int)(N:Nat)(ts:List T3)(ess:List (List En))(kvs:List (List Key×V)),σ=[some (.ref t),some (.ref kp),some (.ref d),some (.int n),some (.ref oa),some (.ref la),some (.int a),some (.ref pa),some (.int l),none,none,none]/\DI C PT t kp dx oa d n os N la wa ts ess kvs H/\N<900000/\H pa=some (.tup [.int a,.int b])/\1<=l/\l<=99 /\
 ∀(lo:Option Int)(H':Hp),DI C PT t kp dx oa d n os (N+1) la wa ts ess kvs H'->H' pa=some (.tup [.int a,.int b])->(∀l,lo=some l->1<=l/\l<=99)->(lo=none->(zBu a b ts).isSome=true)->D.nx [some (.ref t),some (.ref kp),some (.ref d),some (.int n),some (.ref oa),some (.ref la),some (.int a),some (.ref pa),some (oV lo),none,none,none] H'
noncomputable def tUndo:TS:=fun D σ H=>∃(t kp d oa la pa ra wb:Addr)(n a:Int)(N:Nat)(lo lh:Option Int),σ=[some (.ref t),some (.ref kp),some (.ref d),some (.int n),some (.ref oa),some (.ref la),some (.int a),some (.ref pa),some (oV lo),some (oV lh),some (.ref ra),some (.ref wb)]/\zAr H t N/\N<900000/\(lo=none->lh≠none) /\
 ∀H',zAr H' t (N+1)->(∀b,b≠t->H' b=H b)->D.rt (.bl true) H'/\D.nx [some (.ref t),some (.ref kp),some (.ref d),some (.int n),some (.ref oa),some (.ref la),some (.int a),some (.ref pa),some (oV lo),some (oV lh),some (.ref ra),some (.ref wb)] H'
theorem zGh (hn:n<=24)(e e':List (List En)):Fn 1048576 50 (.tuple ((dif n.toNat e e').map PyData.int)):=by
 refine (zDx (n:=30) (p:=0) (L:=24) (fun d hd=>?_) ?_).mono (by decide) (by decide)
 . obtain⟨x,hx,rfl⟩:=zq.mp hd
   have:=zCz.mp (zAB.mp hx).1
   exact zEc (by omega)
 . rw[zD]
   refine zAD (zr _ _) ?_
   rw[zCN]
   omega
theorem zKH (o:Option Int):(o.map V.int).getD .non=oV o:=by cases o <;> rfl
section
variable {P:Program}{w:World}{K:PySem.W.Frag}{mg:sOV}{base:Heap}{C fI fP fS fT fW fL PT:Addr}
theorem zCu:zo ["_law_tape_here", "_law_keeper", "_law_joined_here", "_law_n", "_law_order_here", "_law_former", "_law_one", "_law_pair", "_law_long", "_law_ahead", "_law_found", "_law_web_here"] ["_law_tape_here", "_law_keeper", "_law_joined_here", "_law_n", "_law_order_here"] (defScope zJa):=fS0
theorem zLv {fPu fWb fIr fTu:Addr}{fdPu fdWb fdIr fdTu:FuncData}(T:KC K mg C fI fP fS fT fW fL)(F:Fun K "_law_deed_right" "_law_deed_right" zJa f fd') (bL:zBw K fdL ["self"] []) (GL:zAK P w K mg base CX0 11 fL fdL ["self"] (spKL C))
 (FD:FuB K mg "_law_draw" zFJ fD fdD ["_law_tape_here","_law_many"]) (GD:zAK P w K mg base CX0 11 fD fdD ["_law_tape_here", "_law_many"] zFD)
 (FPu:FuB K mg "_law_put" sPut fPu fdPu ["_law_keeper","_law_joined_here","_law_pair","_law_long"]) (GPu:zAK P w K mg base CX0 11 fPu fdPu ["_law_keeper", "_law_joined_here", "_law_pair", "_law_long"] (spPut C PT))
 (FWb:FuB K mg "_law_web_of" zHz fWb fdWb ["_law_n","_law_joined_here"]) (GWb:zAK P w K mg base CX0 11 fWb fdWb ["_law_n", "_law_joined_here"] zKN)
 (FIr:FuB K mg "_law_is_right" sIsr fIr fdIr ["_law_keeper","_law_web_here","_law_order_here"]) (GIr:zAK P w K mg base CX0 11 fIr fdIr ["_law_keeper", "_law_web_here", "_law_order_here"] (zJT C PT))
 (FTu:FuB K mg "_law_turned" zDC fTu fdTu ["_law_former","_law_labels"]) (GTu:zAK P w K mg base CX0 11 fTu fdTu ["_law_former", "_law_labels"] zGL)
 (mRepr:mg "repr" = none):zAK P w K mg base CX0 12 f fd' ["_law_tape_here", "_law_keeper", "_law_joined_here", "_law_n", "_law_order_here"] (zKR C PT):=by
 refine F.okD zCu fun _ A _ _ H vs Q E hr h=>?_
 obtain⟨t,kp,dx,oa,d,la,wa,n,os,N,ts,ess,kvs,rfl,I,hN,n2,n9,k⟩:=h
 have hu:=zEK hr
 refine⟨_,zQ (zBB (i:=5) zCu.nd (zCx (pv 1) T.cl T.mL GL hr bL .nil zCy))
  (zQ (zBB (i:=6) zCu.nd (zAJ GD hr FD (zC (pv 0) (zC (zA6 zDi (pv 3) zj) zL))))
  (zQ (zBB (i:=7) zCu.nd (zBP (zC (pv 6) (zC (zA6 zB6 (zA6 zB6 (pv 6) zj) (zAJ GD hr FD (zC (pv 0) (zC (zA6 zDi (zA6 zDi (pv 3) zj) (pv 6)) zL)))) zL))))
  (zQ (zBB (i:=8) zCu.nd (zAA zAg (zCX (zCS (zCS (zCS (zCS (zC (zA6 zB6 zj (zAJ GD hr FD (zC (pv 0) (zC zj zL)))) zL)))))) (zAJ GD hr FD (zC (pv 0) (zC zj zL)))))
  (zQ (zLR (u':=tLong C PT) (zA5 (PW.pt (zER (zIE (zIN hu (pv 7) (pv 2)) (by with_unfolding_all rfl)) (zDD (zy zCD (zAJ GD hr FD (zC (pv 0) (zC zj zL))) zj (zAC _))))) (zW (zBB (i:=8) zCu.nd zAh)) zAP) ?long)
  (zQ (zBB (i:=9) zCu.nd (zJo hu (pv 2) (pv 7) ⟨rfl,rfl,rfl,rfl⟩))
  (zQ (zBB (i:=10) zCu.nd (zAJ GPu hr FPu (zC (pv 1) (zC (pv 2) (zC (pv 7) (zC (pv 8) zL))))))
  (zQ (zBB (i:=11) zCu.nd (zAJ GWb hr FWb (zC (pv 3) (zC (pv 2) zL))))
  (zQ (zA5 (PW.pt (zCv (zB4 (zBt (zAJ GIr hr FIr (zC (pv 1) (zC (pv 11) (zC (pv 4) zL))))))
   (zCG (zy zFx (zAL (zBQ hr) mRepr (zC (pv 10) zL)) (zAL (zBQ hr) mRepr (zC (zAJ GTu hr FTu (zC (pv 5) (zC (zCx (pv 1) T.cl T.mL GL hr bL .nil zCy) zL))) zL)) (zAC _))))) zCB zAP)
  (zQ (zLR (u':=tUndo) (zA5 (PW.pt (zCv (zy zFy (zAJ GD hr FD (zC (pv 0) (zC zj zL))) zj (zAC _)) (zCG (PW.pt (zER (zy zBk (pv 8) zAh (zAC _)) (zDD (zy zBk (pv 9) zAh (zAC _)))))))) (zW (zw zDS)) zAP) ?undo)
  (zQ (zA5 (zy zFx (zAL (zBQ hr) mRepr (zC (zAJ GPu hr FPu (zC (pv 1) (zC (pv 2) (zC (pv 7) (zC (pv 9) zL))))) zL)) (zAL (zBQ hr) mRepr (zC (pv 10) zL)) (zAC _)) zCB zAP)
  (zW (zw (zCR (zAJ GIr hr FIr (zC (pv 1) (zC (zAJ GWb hr FWb (zC (pv 3) (zC (pv 2) zL))) (zC (pv 4) zL))))
   (zCW (zBR zCD (zAL (zBQ hr) mRepr (zC (zCx (pv 1) T.cl T.mL GL hr bL .nil zCy) zL)) (zAL (zBQ hr) mRepr (zC (pv 5) zL)) (zAC _)))))))))))))))),?_⟩
 case long=>
  rintro D σ H1 ⟨t,kp,dx,oa,d,la,wa,pa,n,a,b,l,os,N,ts,ess,kvs,rfl,I,hN,hpa,l1,l99,kk⟩
  have hpk:H1 pa=some (.tup ((kyT a b).map kV)):=hpa
  have eo:=I.jr.vl a b
  refine⟨_,rfl,_,rfl,d,_,rfl,zED.t (k:=kyT a b) I.hd hpk,_,rfl,?_⟩
  rw[eo]
  cases hl:zBu a b ts with
  | none=>
   refine ifF (by rfl) (zCa ?_)
   exact kk (some l) H1 ⟨I.tp.mono (by omega),I.ka,I.hd,I.jr,I.tb⟩ hpa (fun l' e=>by cases e;exact⟨l1,l99⟩) (fun e=>by cases e)
  | some l'=>
   refine ifT (by rfl) ?_
   refine⟨_,rfl,t,N,2,rfl,I.tp,by omega,by decide,by decide,fun r H2 _ _ T2 e2=>?_⟩
   have I2:=I.draw T2 e2
   have hp2:H2 pa=some (.tup [.int a,.int b]):=by rw[e2 _ (I.tup hpa).1];exact hpa
   refine⟨rfl,_,rfl,zEC (fun c=>?_) (fun c=>?_)⟩
   . exact kk none H2 I2 hp2 (fun l' e=>by cases e) (fun _=>by rw[hl];rfl)
   . exact kk (some l) H2 I2 hp2 (fun l' e=>by cases e;exact⟨l1,l99⟩) (fun e=>by cases e)
 case undo=>
  rintro D σ H1 ⟨t,kp,d,oa,la,pa,ra,wb,n,a,N,lo,lh,rfl,T,hN,hne,kk⟩
  refine⟨_,rfl,t,N,3,rfl,T,by omega,by decide,by decide,fun r H2 _ _ T2 e2=>?_⟩
  obtain⟨yes,no⟩:=kk H2 T2 e2
  refine⟨_,_,rfl,rfl,_,rfl,zEC (fun c=>zFZ yes) (fun c=>?_)⟩
  cases lo with
  | some l=>exact⟨_,rfl,rfl,_,rfl,ifF (by rfl) (zCa no)⟩
  | none=>cases lh with
   | none=>exact absurd rfl (hne rfl)
   | some l=>exact⟨_,rfl,rfl,_,rfl,ifT (by rfl) ⟨_,rfl,rfl,_,rfl,ifF (by rfl) no⟩⟩
 refine⟨_,rfl,kp,dx,_,rfl,I.ka.ins,rfl,kp,dx,la,wa,oa,n,ts,os,ess,rfl,I.ka,?_⟩
 refine⟨_,rfl,_,rfl,_,_,rfl,rfl,t,N,n-1,rfl,I.tp,by omega,by omega,by omega,fun a H1 a0 a1 T1 e1=>?_⟩
 have I1:=I.draw T1 e1
 refine⟨_,rfl,_,rfl,_,_,rfl,rfl,_,rfl,_,rfl,_,_,rfl,rfl,_,rfl,_,_,rfl,rfl,t,N+1,n-1-a,rfl,I1.tp,by omega,by omega,by omega,fun r H2 r0 r1 T2 e2=>?_⟩
 have I2:=I1.draw T2 e2
 refine⟨_,_,rfl,rfl,by show 2<=sizeLine;decide,fun pa hpa=>?_⟩
 obtain⟨b,eb⟩:∃b,b=a+1+r:=⟨_,rfl⟩
 have s3:=zG (o:=.tup [.int a,.int (a+1+r)]) hpa
 have I3:=I2.same s3
 have hp3:(upd H2 pa (.tup [.int a,.int (a+1+r)])) pa=some (.tup [.int a,.int b]):=by rw[zI,eb]
 dsimp only
 generalize upd H2 pa (.tup [.int a,.int (a+1+r)])=H3 at I3 hp3
 clear s3 hpa I2 T2 e2 I1 T1 e1
 refine⟨_,rfl,t,N+2,99,rfl,I3.tp,by omega,by decide,by decide,fun r5 H4 u0 u1 T4 e4=>?_⟩
 have I4:=I3.draw T4 e4
 have hp4:H4 pa=some (.tup [.int a,.int b]):=by rw[e4 _ (I3.tup hp3).1];exact hp3
 refine⟨_,_,rfl,rfl,by show 5<=sizeLine;decide,fun lg hlg=>?_⟩
 have s5:=zG (o:=.lst [.int 1,.int 2,.int 3,.int 99,.int (1+r5)]) hlg
 have I5:=I4.same s5
 have hp5:=s5 _ _ hp4
 have h5:(upd H4 lg (.lst [.int 1,.int 2,.int 3,.int 99,.int (1+r5)])) lg=some (.lst ([1,2,3,99,1+r5].map V.int)):=zI
 have nlt:lg≠t:=I4.tp.ne hlg
 dsimp only
 generalize upd H4 lg (.lst [.int 1,.int 2,.int 3,.int 99,.int (1+r5)])=H5 at I5 hp5 h5
 refine⟨_,rfl,t,N+3,5,rfl,I5.tp,by omega,by decide,by decide,fun q H6 q0 q1 T6 e6=>?_⟩
 have I6:=I5.draw T6 e6
 have hp6:H6 pa=some (.tup [.int a,.int b]):=by rw[e6 _ (I5.tup hp5).1];exact hp5
 obtain⟨l,hl,hat⟩:=zId (L:=[1,2,3,99,1+r5]) (r:=q) q0 (by show q<5;omega)
 have hl9:1<=l/\l<=99:=by
  simp only[zc,List.not_mem_nil,or_false] at hl
  omega
 refine⟨lg,_,_,_,rfl,rfl,SqL.of (by rw[e6 lg nlt];exact h5),hat,?_⟩
 clear I5 I4 I3 T6 e6 T4 e4 s5 h5 hlg hp5 hp4 hp3
 refine⟨t,kp,dx,oa,d,la,wa,pa,n,a,b,l,os,N+4,ts,ess,kvs,rfl,I6,by omega,hp6,hl9.1,hl9.2,fun lo H7 I7 hp7 hlo hno=>?_⟩
 obtain⟨_,_,_,_,_,G⟩:=id I7.ka.web
 have n24:=G.n24
 have eo:=I7.jr.vl a b
 refine⟨_,rfl,d,rfl,.inr ⟨kvs,.inl I7.hd⟩,_,rfl,_,zED.t (k:=kyT a b) I7.hd hp7,?_⟩
 rw[eo,zKH]
 refine⟨_,rfl,_,rfl,_,rfl,_,rfl,kp,dx,la,wa,oa,d,pa,n,a,b,ts,os,ess,kvs,lo,rfl,I7.ka,I7.hd,I7.jr,hp7,⟨a0,by omega,by omega⟩,n9,hlo,hno,I7.tb,fun ra l2 w2 t2 ess2 kvs2 H8 sm8 T8 K8 af hd8 J8 hra=>?_⟩
 have I8:=I7.put sm8 T8 K8 hd8 J8
 have kT:∀(c:Addr)(ys:List V),H7 c=some (.tup ys)->H8 c=some (.tup ys):=fun c ys e=>sm8.get (I7.tup e).2.1 (I7.tup e).2.2 e (by intro ps z;cases z)
 have LA8:zBT H8 la ess:=I7.ka.lab.keep kT
 have hp8:=kT _ _ hp7
 obtain⟨_,_,_,_,_,G2⟩:=id K8.web
 refine⟨_,rfl,_,rfl,d,n,t2,kvs2,rfl,I8.hd,I8.jr,G2,K8.sr,fun wb H9 s9 W9=>?_⟩
 have I9:=I8.same s9
 refine⟨_,rfl,_,rfl,_,rfl,kp,dx,l2,w2,oa,wb,n,t2,os,ess2,rfl,I9.ka,W9,I9.tb,fun H10 sm10 T10=>?_⟩
 have I10:=I9.smT sm10 T10
 have kT2:∀(c:Addr)(ys:List V),H8 c=some (.tup ys)->H10 c=some (.tup ys):=fun c ys e=>sm10.get (s9 _ _ e) (by intro ps z;cases z)
 have LA10:zBT H10 la ess:=LA8.keep kT2
 have hra10:=kT2 _ _ hra
 have hp10:=kT2 _ _ hp8
 refine⟨true,rfl,zCa ?_⟩
 have shD:∀{Hx:Hp}{r:Addr}{e e':List (List En)},Hx r=some (.tup ((dif n.toNat e e').map V.int))->zCc Hx (.ref r) (.tuple ((dif n.toNat e e').map PyData.int)):=fun h=>.tup h (zFs _)
 refine⟨_,rfl,_,_,rfl,shD hra10,zGh n24 _ _,?_⟩
 obtain⟨rk,RK,LO⟩:=id I7.ka.lof
 obtain⟨rk2,RK2,LO2⟩:=id K8.lof
 have le1:=LO.1
 have le2:=LO2.1
 refine⟨_,rfl,_,rfl,kp,dx,_,rfl,I10.ka.ins,rfl,kp,dx,l2,w2,oa,n,t2,os,ess2,rfl,I10.ka,la,l2,n.toNat,ess,ess2,rfl,LA10,I10.ka.lab,le1,le2,by omega,fun pt H11 s11 hpt=>?_⟩
 refine⟨_,_,rfl,shD hpt,zGh n24 _ _,rfl,_,rfl,ifF (by rw[zE2 n.toNat ess2 ess];simp) ?_⟩
 have I11:=I10.same s11
 have LA11:zBT H11 la ess:=LA10.keep fun b ys e=>s11 _ _ e
 have hra11:=s11 _ _ hra10
 have hp11:=s11 _ _ hp10
 clear LA8 LA10 I8 I9 I10 kT kT2 hra hra10 hp8 hp10 hpt s11 sm10 T10 s9 W9 sm8 T8
 refine⟨t,kp,d,oa,la,pa,ra,wb,n,a,N+5,lo,zBu a b ts,rfl,I11.tp,by omega,(fun e h0=>by have:=hno e;rw[h0] at this;cases this),fun H12 T12 e12=>?_⟩
 have I12:=I11.draw T12 e12
 have kT3:∀(c:Addr)(ys:List V),H11 c=some (.tup ys)->H12 c=some (.tup ys):=fun c ys e=>by rw[e12 _ (I11.tup e).1];exact e
 have LA12:zBT H12 la ess:=LA11.keep kT3
 have hra12:=kT3 _ _ hra11
 have hp12:=kT3 _ _ hp11
 refine⟨k l2 w2 t2 ess2 kvs2 H12 ⟨I12.tp.mono (by omega),I12.ka,I12.hd,I12.jr,I12.tb⟩,?_⟩
 have ok2:zBu a b ts=none->(zBu a b t2).isSome=true:=fun h0=>by
  rw[af.long G G2,if_pos ⟨rfl,rfl⟩]
  cases lo with
  | none=>have:=hno rfl;rw[h0] at this;cases this
  | some l'=>rfl
 refine⟨_,rfl,_,rfl,_,rfl,_,rfl,kp,dx,l2,w2,oa,d,pa,n,a,b,t2,os,ess2,kvs2,zBu a b ts,rfl,I12.ka,I12.hd,I12.jr,hp12,⟨a0,by omega,by omega⟩,n9,fun l' e=>(G.rng _ ((zA9 G).mp e)).2.2.2,ok2,I12.tb,fun rb l3 w3 t3 ess3 kvs3 H13 sm13 T13 K13 af3 hd13 J13 hrb=>?_⟩
 obtain rfl:t3=ts:=af3.uniq (Aft.back G I7.ka.sr af)
 obtain rfl:ess=ess3:=Lof.uniq G I7.ka.od ⟨rk,RK,LO⟩ K13.lof
 have I13:=I12.put sm13 T13 K13 hd13 J13
 have kT4:∀(c:Addr)(ys:List V),H12 c=some (.tup ys)->H13 c=some (.tup ys):=fun c ys e=>sm13.get (I12.tup e).2.1 (I12.tup e).2.2 e (by intro ps z;cases z)
 have LA13:zBT H13 la ess:=LA12.keep kT4
 refine⟨_,_,rfl,shD hrb,zGh n24 _ _,?_⟩
 refine⟨_,rfl,_,_,rfl,shD (kT4 _ _ hra12),zGh n24 _ _,rfl,_,rfl,ifF (by rw[zE2 n.toNat ess2 ess];simp) ?_⟩
 refine⟨_,rfl,_,rfl,_,rfl,d,n,t3,kvs3,rfl,I13.hd,I13.jr,G,K13.sr,fun wc H14 s14 W14=>?_⟩
 have I14:=I13.same s14
 refine⟨_,rfl,kp,dx,l3,w3,oa,wc,n,t3,os,ess,rfl,I14.ka,W14,I14.tb,fun H15 sm15 T15=>?_⟩
 have I15:=I14.smT sm15 T15
 have LA15:zBT H15 la ess:=(LA13.keep fun b ys e=>s14 _ _ e).keep fun b ys e=>sm15.get e (by intro ps z;cases z)
 refine⟨true,rfl,zFZ ?_⟩
 have fl:=zIq G LO I7.ka.bd
 refine⟨_,rfl,kp,dx,_,rfl,I15.ka.ins,rfl,kp,dx,l3,w3,oa,n,t3,os,ess,rfl,I15.ka,_,_,rfl,zEm I15.ka.lab,fl,?_⟩
 refine⟨_,rfl,_,_,rfl,zEm LA15,fl,rfl,?_⟩
 rw[zO rfl]
 exact k l3 w3 t3 ess kvs3 H15 ⟨I15.tp.mono (by omega),I15.ka,I15.hd,I15.jr,I15.tb⟩
end
noncomputable def zJS (K:PySem.W.Frag)(PT:Addr):Sp:=fun vs H Q _=>∃(a:Addr)(ns:List Int),vs=[.ref a]/\SqL K H a (ns.map V.int)/\ns.length<=63/\H PT=some (.tbl #[])/\∀H',Q (.bl true) H'
theorem JR.nil:JR n [] []:=⟨JD.nil n,fun a b=>rfl⟩
theorem GW.take (g:GW n ts)(i:Nat):GW n (ts.take i):=⟨g.n1,g.n24,zAN (by rw[zx];omega) g.len,fun t ht=>g.rng t (List.mem_of_mem_take ht),g.dis.sublist (List.take_sublist _ _)⟩
theorem JR.snoc {l:Int}(h:JR n kvs (ts.take i))(G:GW n ts)(ht:ts[i]? = some (a,b,l)):JR n (zCH kvs (kyT a b) (.int l)) (ts.take (i+1)):=by
 obtain⟨r1,r2,r3,r4,r5⟩:=G.rng _ (zX ht)
 refine⟨h.jd.put r1 r2 r3 r4 r5,fun c d=>?_⟩
 have G1:=GW.take G (i+1)
 have e:ts.take (i+1)=ts.take i++[(a,b,l)]:=by rw[zu,ht];rfl
 rw[zCt]
 by_cases q:c=a/\d=b
 . obtain⟨rfl,rfl⟩:=q
   rw[if_pos rfl,(zA9 G1).mpr (by rw[e];exact zg _ za)];rfl
 . rw[if_neg (fun z=>q (zFW.mp z)),h.vl]
   congr 1
   have G0:=GW.take G i
   cases z:zBu c d (ts.take i) with
   | some k=>exact ((zA9 G1).mpr (by rw[e];exact zAO _ ((zA9 G0).mp z))).symm
   | none=>
    cases z1:zBu c d (ts.take (i+1)) with
    | none=>rfl
    | some k=>
     have m:=(zA9 G1).mp z1
     rw[e] at m
     rcases zp.mp m with m | m
     . rw[(zA9 G0).mpr m] at z;cases z
     . have:=zm.mp m
       injection this with e1 e2
       injection e2 with e2 _
       exact absurd ⟨e1,e2⟩ q
theorem zDd:zo ["_law_script", "_law_tape_here", "_law_n", "_law_web_here", "_law_order_here", "_law_keeper", "_law_joined_here", "_law_a", "_law_b", "_law_long", "_law_k"] ["_law_script"] (defScope sLaw):=fS0
theorem ok_law {PT fI fT' fW' fL' fTa fNu fWi fTo fRs fPl fLg fLl fEe fAl fFa fT fLo fNe fLe fBw fNb fIo fBy fLb fIh fEb fWt fWo fOw fSu fTd fHu fEn fSt fPa fBt fLt fRa fOf fUf fUr fTf fGm fDf fDr fLs fFr fJ fNs fOr fWb fIr fTu fPu fDe:Addr}{tk':Tok}{fdKI fdKP fdKS fdKT fdKW fdKL fdKN fdKU fdTa fdNu fdWi fdTo fdRs fdPl fdLg fdLl fdEe fdAl fdFa fdLo fdNe fdLe fdBw fdNb fdIo fdBy fdLb fdIh fdEb fdWt fdWo fdOw fdSu fdTd fdHu fdEn fdSt fdPa fdBt fdLt fdRa fdOf fdUf fdUr fdTf fdGm fdDf fdDr fdLs fdFr fdJ fdNs fdOr fdWb fdIr fdTu fdPu fdDe:FuncData}(F:Fun K "law" "law" sLaw f fd') (CH:PySem.W.CodeHd base c PT)(hbm:zJJ mg base)
 (T:KC K mg C fI fP fS fT' fW' fL')(MN:zGt K C "length_of" fN) (MU:zGt K C "step_of" fU)
 (FKI:Fun K "__init__" "Keeper.__init__" sKI fI fdKI) (bKI:zBw K fdKI ["self", "web", "order"] []) (FKP:Fun K "put" "Keeper.put" sKP fP fdKP) (bKP:zBw K fdKP ["self", "one", "other", "long"] []) (FKS:Fun K "strike" "Keeper.strike" sKS fS fdKS) (bKS:zBw K fdKS ["self", "one", "other"] [])
 (FKT:Fun K "turn_to" "Keeper.turn_to" sKT fT' fdKT) (bKT:zBw K fdKT ["self", "web"] []) (FKW:Fun K "web_now" "Keeper.web_now" sKW fW' fdKW) (bKW:zBw K fdKW ["self"] []) (FKL:Fun K "labels_now" "Keeper.labels_now" sKL fL' fdKL) (bKL:zBw K fdKL ["self"] [])
 (FKN:Fun K "length_of" "Keeper.length_of" sKN fN fdKN) (bKN:zBw K fdKN ["self", "one", "other"] []) (FKU:Fun K "step_of" "Keeper.step_of" sKU fU fdKU) (bKU:zBw K fdKU ["self", "one", "other"] [])
 (mML:mg "MOST_LONG" = some (.int 99 tk)) (mMT:mg "MOST_TIES" = some (.int 60 tk'))
 (FTa:FuB K mg "_law_tape" zJY fTa fdTa ["_law_script"])
 (FD:FuB K mg "_law_draw" zFJ fD fdD ["_law_tape_here","_law_many"])
 (FW:FuB K mg "_law_web" sWeb fW fdW ["_law_tape_here","_law_n"])
 (FNu:FuB K mg "is_number" zJZ fNu fdNu ["thing"])
 (FWi:FuB K mg "is_within" sWi fWi fdWi ["thing","least","most"])
 (FTo:FuB K mg "is_tuple_of" zLL fTo fdTo ["thing","count"])
 (FRs:FuB K mg "is_rising" sRis fRs fdRs ["things"])
 (FPl:FuB K mg "is_place" sPl fPl fdPl ["n","thing"])
 (FLg:FuB K mg "is_long" sIsL fLg fdLg ["thing"])
 (FLl:FuB K mg "is_label" zH5 fLl fdLl ["n","thing"])
 (FEe:FuB K mg "is_entry" zH7 fEe fdEe ["n","thing"])
 (FAl:FuB K mg "are_labels" zFI fAl fdAl ["n","thing"])
 (FFa:FuB K mg "far_entries" zG4 fFa fdFa ["labels"])
 (FT:FuB K mg "ties_at" zEo fT fdT ["web","place"])
 (FLo:FuB K mg "long_of" zFH fLo fdLo ["web","one","other"])
 (FNe:zKK K "nearest" "nearest" zH2 fNe fdNe c) (bNe:zBw K fdNe ["waiting"] []) (mNe:mg "nearest" = some (.ref fNe))
 (FF:FuB K mg "lengths_from" zH6 fF fdF ["web","start"])
 (FLe:FuB K mg "lengths" zH4 fLe fdLe ["web"])
 (FBw:FuB K mg "between_rows" sBwr fBw fdBw ["here","there","other"])
 (FNb:FuB K mg "next_by_row" sNbr fNb fdNb ["web","one","there"])
 (FIo:FuB K mg "is_order" sOrd fIo fdIo ["web","thing"])
 (FBy:FuB K mg "by_order" zLM fBy fdBy ["web","order"])
 (FLb:FuB K mg "label_by_ranks" sLbr fLb fdLb ["web","rows","ranks","place"])
 (FIh:FuB K mg "is_hub" sIsh fIh fdIh ["rows","ranks","hub","place"])
 (FEb:FuB K mg "entry_by_rows" sEbr fEb fdEb ["web","rows","place","hub"])
 (FWt:FuB K mg "with_tie" zHy fWt fdWt ["web","one","other","long"])
 (FWo:FuB K mg "without_tie" zHx fWo fdWo ["web","one","other"])
 (FOw:FuB K mg "own_place" sOwn fOw fdOw ["label"])
 (FSu:FuB K mg "least_sum" sSum fSu fdSu ["one","other"])
 (FTd:FuB K mg "told" zFv fTd fdTd ["one","other"])
 (FHu:FuB K mg "told_hub" sHub fHu fdHu ["one","other"])
 (FEn:FuB K mg "entry_of" sEnt fEn fdEn ["label","hub"])
 (FSt:FuB K mg "next_step" zH0 fSt fdSt ["one","other"])
 (FPa:FuB K mg "pair_of" zG3 fPa fdPa ["web","one","other"])
 (FBt:FuB K mg "ties_but" sBut fBt fdBt ["web","pair"])
 (FLt:FuB K mg "lets_labels" zH3 fLt fdLt ["web","thing"])
 (FRa:FuB K mg "refuse_at" zH1 fRa fdRa ["word","at"])
 (FOf:FuB K mg "own_fault" sOf fOf fdOf ["labels"])
 (FUf:FuB K mg "up_fault" sUf fUf fdUf ["web","labels"])
 (FUr:FuB K mg "is_up_right" sUr fUr fdUr ["web","labels","place","entry"])
 (FTf:FuB K mg "tie_fault" sTf fTf fdTf ["web","labels"])
 (FGm:FuB K mg "grows_too_much" sGm fGm fdGm ["here","there","long"])
 (FDf:FuB K mg "down_fault" sDf fDf fdDf ["web","labels"])
 (FDr:FuB K mg "is_down_right" sDr fDr fdDr ["web","labels","place","entry"])
 (FA:FuB K mg "_law_added" sAdd fA fdA ["_law_one","_law_other"])
 (FLs:FuB K mg "_law_lesser" sLes fLs fdLs ["_law_one","_law_other"])
 (FFr:FuB K mg "_law_far" sFar fFr fdFr ["_law_web_here"])
 (FJ:FuB K mg "_law_joined" sJoi fJ fdJ ["_law_web_here"])
 (FNs:FuB K mg "_law_nexts" sNxs fNs fdNs ["_law_web_here","_law_far_here","_law_one","_law_other"])
 (FOr:FuB K mg "_law_order" zGQ fOr fdOr ["_law_tape_here","_law_n"])
 (FWb:FuB K mg "_law_web_of" zHz fWb fdWb ["_law_n","_law_joined_here"])
 (FIr:FuB K mg "_law_is_right" sIsr fIr fdIr ["_law_keeper","_law_web_here","_law_order_here"])
 (FTu:FuB K mg "_law_turned" zDC fTu fdTu ["_law_former","_law_labels"])
 (FPu:FuB K mg "_law_put" sPut fPu fdPu ["_law_keeper","_law_joined_here","_law_pair","_law_long"])
 (FDe:FuB K mg "_law_deed_right" zJa fDe fdDe ["_law_tape_here","_law_keeper","_law_joined_here","_law_n","_law_order_here"])
 (mLen:mg "len" = none) (mRange:mg "range" = none) (mTuple:mg "tuple" = none) (mSorted:mg "sorted" = none) (mMin:mg "min" = none) (mMax:mg "max" = none) (mList:mg "list" = none) (mIsi:mg "isinstance" = none) (mInt:mg "int" = none) (mBool:mg "bool" = none) (mAll:mg "all" = none) (mSet:mg "set" = none) (mZip:mg "zip" = none) (mDict:mg "dict" = none) (mEnum:mg "enumerate" = none) (mRepr:mg "repr" = none):zAK P w K mg base CX0 13 f fd' ["_law_script"] (zJS K PT):=by
 have GTa:zAK P w K mg base CX0 12 fTa fdTa ["_law_script"] (zKO K):=(zLj FTa.F).mono (by decide)
 have GD:zAK P w K mg base CX0 12 fD fdD ["_law_tape_here", "_law_many"] zFD:=(zFz FD.F mLen).mono (by decide)
 have GD':zAK P w K mg base CX0 11 fD fdD ["_law_tape_here", "_law_many"] zFD:=(zFz FD.F mLen).mono (by decide)
 have GWe:zAK P w K mg base CX0 12 fW fdW ["_law_tape_here", "_law_n"] spWeb:=(ok_web FW.F FD mLen mRange mTuple mSorted).mono (by decide)
 have GOr:zAK P w K mg base CX0 12 fOr fdOr ["_law_tape_here", "_law_n"] zHl:=(zJt FOr.F FD mLen mRange mTuple mList).mono (by decide)
 have GF:zAK P w K mg base CX0 3 fF fdF ["web", "start"] (zHp PT):=zLs FF.F FNe bNe mNe FT CH hbm mMin mSorted mTuple
 have GLe:zAK P w K mg base CX0 5 fLe fdLe ["web"] (zHn PT):=(zLq FLe.F FF GF mRange mTuple).mono (by decide)
 have GIo:zAK P w K mg base CX0 5 fIo fdIo ["web", "thing"] zK2:=(ok_ord FIo.F FTo FWi FPl FNu mIsi mInt mBool mTuple mLen mAll mSet).mono (by decide)
 have GIh:zAK P w K mg base CX0 4 fIh fdIh ["rows", "ranks", "hub", "place"] zK5:=(ok_ish FIh.F FBw mRange mTuple mLen mAll).mono (by decide)
 have GEb:zAK P w K mg base CX0 4 fEb fdEb ["web", "rows", "place", "hub"] zK8:=ok_ebr FEb.F FNb FT mSorted mTuple mMin
 have GLb:zAK P w K mg base CX0 5 fLb fdLb ["web", "rows", "ranks", "place"] zK4:=ok_lbr FLb.F FIh GIh FEb GEb mRange mTuple
 have GBy:zAK P w K mg base CX0 6 fBy fdBy ["web", "order"] (zHs PT):=ok_byo FBy.F FIo GIo FLe GLe FLb GLb mRange mTuple
 have GPl:zAK P w K mg base CX0 3 fPl fdPl ["n", "thing"] spPl:=zLm FPl.F FWi FNu mIsi mInt mBool
 have GLo:zAK P w K mg base CX0 4 fLo fdLo ["web", "one", "other"] zDc:=(zIS FLo.F FT mSorted).mono (by decide)
 have GLo3:zAK P w K mg base CX0 3 fLo fdLo ["web", "one", "other"] zDc:=(zIS FLo.F FT mSorted).mono (by decide)
 have GLg:zAK P w K mg base CX0 4 fLg fdLg ["thing"] zK6:=(ok_isL FLg.F FWi FNu mIsi mInt mBool mML).mono (by decide)
 have GPa:zAK P w K mg base CX0 4 fPa fdPa ["web", "one", "other"] zGM:=zLn (fW:=fWi) (fN:=fNu) (fdW:=fdWi) (fdN:=fdNu) FPa.F FPl GPl mMin mMax
 have GWt:zAK P w K mg base CX0 7 fWt fdWt ["web", "one", "other", "long"] zHj:=(zLg FWt.F FPa GPa FLg GLg FLo GLo FBt mMT mLen mTuple mSorted).mono (by decide)
 have GWo:zAK P w K mg base CX0 7 fWo fdWo ["web", "one", "other"] zHi:=(zLf FWo.F FPa GPa FLo GLo FBt mTuple).mono (by decide)
 have GKI:zAK P w K mg base CX0 7 fI fdKI ["self", "web", "order"] (spKI C PT):=ok_KI T FKI FBy GBy
 have GKT:zAK P w K mg base CX0 7 fT' fdKT ["self", "web"] (spKT C PT):=ok_KT T FKT FBy GBy mRange mTuple
 have GKP:zAK P w K mg base CX0 8 fP fdKP ["self", "one", "other", "long"] (spKP C PT):=ok_KP T FKP FWt GWt bKT GKT
 have GKS:zAK P w K mg base CX0 8 fS fdKS ["self", "one", "other"] (spKS C PT):=ok_KS T FKS FWo GWo bKT GKT
 have GTd:zAK P w K mg base CX0 3 fTd fdTd ["one", "other"] zFB:=(zLi FTd.F FSu mDict mMin).mono (by decide)
 have GSt:zAK P w K mg base CX0 3 fSt fdSt ["one", "other"] zHk:=zLk FSt.F FHu (ok_hub FHu.F FSu mDict mMin) FOw FEn
 have GKN:zAK P w K mg base CX0 8 fN fdKN ["self", "one", "other"] (spKN C):=(ok_KN T FKN FTd GTd).mono (by decide)
 have GKU:zAK P w K mg base CX0 8 fU fdKU ["self", "one", "other"] (spKU C):=(ok_KU T FKU FSt GSt).mono (by decide)
 have GFa:zAK P w K mg base CX0 4 fFa fdFa ["labels"] zGN:=(zLt FFa.F mEnum).mono (by decide)
 have GUr:zAK P w K mg base CX0 4 fUr fdUr ["web", "labels", "place", "entry"] spUr:=ok_ur FUr.F FLo GLo3 FEn ((zKb FEn.F).mono (by decide))
 have GDr:zAK P w K mg base CX0 4 fDr fdDr ["web", "labels", "place", "entry"] spUr:=ok_dr FDr.F FLo GLo3 FTd GTd
 have GUf:zAK P w K mg base CX0 6 fUf fdUf ["web", "labels"] zEk:=(ok_uf FUf.F FFa GFa FUr GUr).mono (by decide)
 have GDf:zAK P w K mg base CX0 6 fDf fdDf ["web", "labels"] zEk:=(ok_df FDf.F FFa GFa FDr GDr).mono (by decide)
 have GTf:zAK P w K mg base CX0 6 fTf fdTf ["web", "labels"] zEk:=(ok_tf FTf.F FTd (GTd.mono (by decide)) FT ((zEw FT.F mSorted).mono (by decide)) FGm ((ok_gm FGm.F).mono (by decide)) mEnum mRange).mono (by decide)
 have GOf:zAK P w K mg base CX0 6 fOf fdOf ["labels"] spOf:=(ok_of FOf.F FOw ((zKZ FOw.F).mono (by decide)) mEnum).mono (by decide)
 have GE9:zAK P w K mg base CX0 4 fEe fdEe ["n", "thing"] zHq:=zLu FEe.F FTo FWi FPl FNu mIsi mInt mBool mTuple mLen
 have GL9:zAK P w K mg base CX0 5 fLl fdLl ["n", "thing"] zHo:=zLr FLl.F FEe GE9 FRs ((ok_ris FRs.F mLen mRange mAll).mono (by decide)) mIsi mTuple mLen mAll
 have GAl:zAK P w K mg base CX0 6 fAl fdAl ["n", "thing"] zFr:=zJu FAl.F FTo ((zIR FTo.F mIsi mTuple mLen).mono (by decide)) FLl GL9 mAll
 have GLt:zAK P w K mg base CX0 8 fLt fdLt ["web", "thing"] zHm:=(zLp FLt.F FAl GAl FRa ((zLl FRa.F).mono (by decide)) FOf GOf FUf GUf FTf GTf FDf GDf).mono (by decide)
 have GIr:zAK P w K mg base CX0 9 fIr fdIr ["_law_keeper", "_law_web_here", "_law_order_here"] (zJT C PT):=ok_isr T MN MU FIr.F bKW ((ok_KW T FKW).mono (by decide)) bKL ((ok_KL T FKL).mono (by decide)) bKN GKN bKU GKU FBy (GBy.mono (by decide)) FLt GLt FFr ((ok_far FFr.F FA FLs mRange mMin).mono (by decide)) FNs ((ok_nxs FNs.F FJ mRange).mono (by decide)) mRange mRepr
 have GDe:zAK P w K mg base CX0 12 fDe fdDe ["_law_tape_here", "_law_keeper", "_law_joined_here", "_law_n", "_law_order_here"] (zKR C PT):=zLv T FDe.F bKL ((ok_KL T FKL).mono (by decide)) FD GD' FPu ((ok_put T FPu.F bKP (GKP.mono (by decide)) bKS (GKS.mono (by decide))).mono (by decide)) FWb ((zLh FWb.F mTuple mSorted).mono (by decide)) FIr (GIr.mono (by decide)) FTu ((zIQ FTu.F mRange mTuple mLen).mono (by decide)) mRepr
 have GIr':zAK P w K mg base CX0 12 fIr fdIr ["_law_keeper", "_law_web_here", "_law_order_here"] (zJT C PT):=GIr.mono (by decide)
 refine F.okD zDd fun _ A _ _ H vs Q E hr h=>?_
 obtain⟨a,ns,rfl,hS,hlen,hPT,k⟩:=h
 have hu:=zEK hr
 refine⟨_,zQ (zBB (i:=1) zDd.nd (zAJ GTa hr FTa (zC (pv 0) zL)))
  (zQ (zBB (i:=2) zDd.nd (zA6 zB6 zj (zAJ GD hr FD (zC (pv 1) (zC zj zL)))))
  (zQ (zBB (i:=3) zDd.nd (zAJ GWe hr FW (zC (pv 1) (zC (pv 2) zL))))
  (zQ (zBB (i:=4) zDd.nd (zAJ GOr hr FOr (zC (pv 1) (zC (pv 2) zL))))
  (zQ (zBB (i:=5) zDd.nd (zLT T.mI (GKI.mono (show 7<=11 by decide)) hr rfl T.mC bKI .nil zCy (zC (pv 3) (zC (pv 4) zL))))
  (zQ (zBB (i:=6) zDd.nd zEt)
  (zQ (zBb PassesOwn.never rfl (zB5 (zAA zAM (pv 3) zj)) (zCC rfl (zAE (zAI (i:=7) zDd.nd rfl (Or.inl rfl)) (zAE (zAI (i:=8) zDd.nd rfl (Or.inl rfl)) (zAE (zAI (i:=9) zDd.nd rfl (Or.inl rfl)) zBc))))
   (zW (zCp hu (pv 6) (zBP (zC (pv 7) (zC (pv 8) zL))) (pv 9) rfl)))
  (zQ (zA5 (zB4 (zBt (zAJ GIr' hr FIr (zC (pv 5) (zC (pv 3) (zC (pv 4) zL)))))) zCB zAP)
  (zQ (zBb PassesOwn.never rfl (zAm rfl mRange (zC (zA6 zEV (zAJ GD hr FD (zC (pv 1) (zC zj zL))) (zAy zI8 mInt (zC (zBR zFy (pv 2) zj (zAC _)) zL))) zL)) (zAI (i:=10) zDd.nd rfl (Or.inl rfl))
   (zW (zA5 (zB4 (zBt (zAJ GDe hr FDe (zC (pv 1) (zC (pv 5) (zC (pv 6) (zC (pv 2) (zC (pv 4) zL)))))))) zCB zAP)))
  (zW (zw zDS)))))))))),?_⟩
 refine⟨_,rfl,a,ns,rfl,hS,hlen,fun t H1 ht T1 s1=>?_⟩
 have B1:Tb H1 PT:=⟨#[],s1 _ _ hPT,trivial,.inl rfl⟩
 refine⟨_,rfl,t,0,8,rfl,T1,by decide,by decide,by decide,fun r H2 r0 r8 T2 e2=>?_⟩
 have tabE:∀{Ha Hb:Hp}{N:Nat},zAr Ha t N->(∀b o,b≠t->Ha b=some o->Hb b=some o)->Tb Ha PT->Tb Hb PT:=fun {Ha Hb N} TA sm TB=>by
  obtain⟨p,ns,spot,rest,a,_⟩:=TA
  obtain⟨ps,hp,_⟩:=id TB
  exact TB.keep (fun o z=>sm _ _ (zAp hp a (by intro z;cases z)) z) fun c φ z=>sm _ _ (zAp z a (by intro z;cases z)) z
 have B2:Tb H2 PT:=tabE T1 (fun b o nb z=>by rw[e2 b nb];exact z) B1
 obtain⟨n,en⟩:∃n,n=1+r:=⟨_,rfl⟩
 refine⟨_,_,rfl,rfl,?_⟩
 dsimp only
 rw[<-en]
 refine⟨_,rfl,_,rfl,t,1,n,rfl,T2,by decide,by omega,by omega,fun wa ts H3 _ W3 sr T3 s3=>?_⟩
 have B3:=tabE T2 s3 B2
 refine⟨_,rfl,_,rfl,t,201,n,rfl,T3,by decide,by omega,by omega,fun oa os H4 hoa O T4 s4=>?_⟩
 have B4:=tabE T3 s4 B3
 have W4:=W3.sm T3 s4
 obtain⟨ta,tys,hwa,hta,TA,G⟩:=id W4
 refine⟨_,rfl,_,rfl,fun kp dx hkp hdx ne=>?_⟩
 have hkp':(upd H4 dx (.own kp)) kp=none:=by rw[zd (Ne.symm ne)];exact hkp
 have s56:zAo H4 (upd (upd H4 dx (.own kp)) kp (.ins C dx [])):=(zG (o:=.own kp) hdx).trans (zG (o:=.ins C dx []) hkp')
 refine⟨kp,dx,wa,oa,n,ts,os,rfl,zI,W4.keep s56,sr,s56 _ _ hoa,O,B4.same s56,fun la ess H6 sm6 B6 K6=>⟨rfl,?_⟩⟩
 have T6:zAr H6 t 225:=by
  obtain⟨p,ns',spot,rest,a1,a2,a3⟩:=T4.keep s56
  exact⟨p,ns',spot,rest,sm6.get (zAp a1 zI (by intro z;cases z)) a1 (by intro ps z;cases z),sm6.get (zAp a2 zI (by intro z;cases z)) a2 (by intro ps z;cases z),a3⟩
 have W6:zBD H6 wa n ts:=(W4.keep s56).keepT fun b ys e=>sm6.get (zAp e zI (by intro z;cases z)) e (by intro ps z;cases z)
 obtain⟨ta6,tys6,hwa6,hta6,TA6,_⟩:=id W6
 clear TA hwa hta B4 W4 T4 hoa s56 hkp' B3 W3 T3 B2 T2 s3 s4 sm6
 intro d hd
 have h64:=G.len
 have hlt:tys6.length=ts.length:=by rw[TA6.length,zD]
 refine⟨_,rfl,wa,_,_,_,rfl,rfl,SqT.of (zG hd _ _ hwa6),rfl,ta6,rfl,⟨_,SqT.of (zG hd _ _ hta6)⟩,zDu (K:=K) (a:=ta6) (xs:=tys6)
  (fun j σ H7=>∃(v7 v8 v9:Option V)(kvs:List (List Key×V)),σ=[some (.ref a),some (.ref t),some (.int n),some (.ref wa),some (.ref oa),some (.ref kp),some (.ref d),v7,v8,v9,none]/\zAo H6 H7/\H7 d=some (.dT kvs)/\kvs.length<=j/\JR n kvs (ts.take j))
  ⟨_,_,_,[],rfl,zG hd,zI,zK _,JR.nil⟩ (fun j σ H7 _ ⟨_,_,_,_,_,s7,_⟩=>SqT.of (s7 _ _ hta6)) (fun j y σ H7 hj z=>?_) (fun σ H7 z=>?_)⟩
 . obtain⟨v7,v8,v9,kvs,rfl,s7,hd7,hkl,jr⟩:=z
   obtain⟨ya,ky,rfl,hky,hya,_⟩:=TA6.get hj
   rw[zN] at hky
   obtain⟨⟨x,z,c⟩,htj,rfl⟩:∃t:T3,ts[j]? = some t/\tl t=ky:=by
    cases e:ts[j]? with
    | none=>rw[e] at hky;cases hky
    | some t=>rw[e] at hky;exact⟨t,rfl,zR hky⟩
   have hjl:j<ts.length:=(zJ.mp htj).1
   refine⟨ya,_,rfl,SqT.of (s7 _ _ hya),rfl,_,_,rfl,_,_,rfl,_,_,rfl,rfl,?_⟩
   refine⟨_,rfl,_,rfl,_,rfl,_,rfl,by show 2<=sizeLine;decide,fun p hp=>?_⟩
   refine⟨d,_,rfl,zHW.t (k:=kyT x z) (zG hp _ _ hd7) zI (zAG (by omega)),?_⟩
   exact⟨_,_,_,_,rfl,zAa (s7.trans (zG hp)) hd,zI,zAD (zBL _ _ _) (by omega),jr.snoc G htj⟩
 . obtain⟨v7,v8,v9,kvs,rfl,s7,hd7,hkl,jr⟩:=z
   rw[hlt,zf (zK _)] at jr
   have I7:DI C PT t kp dx oa d n os 225 la wa ts ess kvs H7:=⟨T6.keep s7,K6.same s7,hd7,jr,B6.same s7⟩
   refine⟨_,rfl,_,rfl,_,rfl,kp,dx,la,wa,oa,wa,n,ts,os,ess,rfl,I7.ka,W6.keep s7,I7.tb,fun H8 sm8 B8=>⟨true,rfl,zCa ?_⟩⟩
   have I8:=I7.smT sm8 B8
   refine⟨_,rfl,t,225,13,rfl,I8.tp,by decide,by decide,by decide,fun q H9 q0 q13 T9 e9=>?_⟩
   have I9:=I8.draw T9 e9
   refine⟨_,rfl,_,_,rfl,rfl,.inr ⟨_,rfl,?_⟩⟩
   refine⟨_,_,rfl,rfl,.inl ⟨by omega,by omega⟩,?_⟩
   obtain⟨m,em,hm⟩:∃m:Nat,q*(if decide (1<n)=true then 1 else 0)=(m:Int)/\(0<m->2<=n)/\m<=12:=by
    by_cases c:1<n
    . exact⟨q.toNat,by rw[zO c,if_pos rfl];omega,fun _=>by omega,by omega⟩
    . exact⟨0,by rw[zY c,if_neg (by decide),Int.mul_zero];rfl,(fun z=>absurd z (zBX _)),by decide⟩
   refine⟨(m:Int),by dsimp only;rw[em],by omega,by omega,zBm (lo:=0) (n:=((m:Int)).toNat) (fun i σ H10=>∃(v10:Option V)(la wb:Addr)(ts:List T3)(ess:List (List En))(kvs:List (List Key×V)),σ=[some (.ref a),some (.ref t),some (.int n),some (.ref wa),some (.ref oa),some (.ref kp),some (.ref d),v7,v8,v9,v10]/\DI C PT t kp dx oa d n os (226+10*i) la wb ts ess kvs H10) ⟨_,_,_,_,_,_,rfl,I9⟩ (fun i σ H10 hi z=>?_) (fun σ H10 z=>?_)⟩
   . obtain⟨v10,la1,wb1,t1,ess1,kvs1,rfl,I10⟩:=z
     have n2:2<=n:=hm.1 (by omega)
     refine⟨_,rfl,_,rfl,_,rfl,_,rfl,_,rfl,t,kp,dx,oa,d,la1,wb1,n,os,_,t1,ess1,kvs1,rfl,I10,by omega,n2,by omega,fun la2 wb2 t2 ess2 kvs2 H11 I11=>⟨true,rfl,zCa ?_⟩⟩
     exact⟨_,la2,wb2,t2,ess2,kvs2,rfl,I11⟩
   . obtain⟨v10,la1,wb1,t1,ess1,kvs1,rfl,I10⟩:=z
     exact k H10
end K92
namespace K92
open PySem L2 WM
variable {P:Program}{w:World}{K:PySem.W.Frag}{mg:sOV}{base:Heap}{PT:Addr}{X:Cx}
variable {K:PySem.W.Frag}
theorem fkM (x q:Str)(st:Stmt)(f:Addr)(pm cd:Value)(l:K.lookup f=some ⟨.type "function",.none,.func (PySem.W.fnOf x q (defArgs st) (defBody st) (defScope st) .none .none .none pm .none cd .none),#[]⟩:=by kernel_rfl) (c:PySem.W.codeIn K cd q=true:=by kernel_rfl)(k:PySem.W.keepIn K (.ref f)=true:=by kernel_rfl):Fun K x q st f (PySem.W.fnOf x q (defArgs st) (defBody st) (defScope st) .none .none .none pm .none cd .none):=zKh l c k
theorem zGv:∀{us:List Value},us.length=1->∃u0,us=[u0]
 | [u0],_=>⟨u0,rfl⟩
theorem zDA:∀{us:List Value},us.length=2->∃u0 u1,us=[u0,u1]
 | [u0,u1],_=>⟨u0,u1,rfl⟩
theorem zHX:∀{us:List Value},us.length=3->∃u0 u1 u2,us=[u0,u1,u2]
 | [u0,u1,u2],_=>⟨u0,u1,u2,rfl⟩
theorem zJO:∀{us:List Value},us.length=4->∃u0 u1 u2 u3,us=[u0,u1,u2,u3]
 | [u0,u1,u2,u3],_=>⟨u0,u1,u2,u3,rfl⟩
theorem usl5:∀{us:List Value},us.length=5->∃u0 u1 u2 u3 u4,us=[u0,u1,u2,u3,u4]
 | [u0,u1,u2,u3,u4],_=>⟨u0,u1,u2,u3,u4,rfl⟩
theorem walk {l:PySem.W.OpenLaw}{q:Program}{loose:List Str}{XP:(Str->Option Value)->Heap->Prop}{YP:World->Heap->Prop}{d:DefRec}{K:Params->PySem.W.Frag}(hn:l.most=some 63)(hdf:d.params.defaults=[])(hrec:∃dn,(PyProof.Rows.recsOf q).find? (fun e=>e.name==("nearest" : Str))=some dn)
 (hY:∀(w:World)(h:Heap),YP w h->(K w.params).In h)
 (F:∀(w:World)(mg:sOV)(fa:Addr)(h:Heap),(K w.params).In h->h.Ns mainGlobals mg->mg d.name=some (.ref fa) ->
  ∃(fd:FuncData)(c P:Addr),PySem.W.tabIn (K w.params) "nearest" = some (c,P)/\PySem.W.noTabs (K w.params)=true/\(∀(s:Shared)(u:Value),BindsTo s fd ⟨[u],[]⟩ [("_law_script",u)])/\∀base:Heap,(K w.params).In base->base.Ns mainGlobals mg->zJJ mg base->zAK l.prog w (K w.params) mg base CX0 13 fa fd ["_law_script"] (zJS (K w.params) P)) :
 PySem.W.WalkO q loose XP YP l.row.toRowW d [] (fun f vs=>PySem.call f vs):=
 L2.walk_T (n:=63) (k:=13) (x := "_law_script") (tn := "nearest") (CX:=CX0) (sp:=zJS) hn (by decide) hdf ⟨rfl,by decide,by decide,rfl⟩ hrec hY F (fun _ _ _ a ns hl hP hS=>⟨a,ns,rfl,hS,hl,hP,fun _=>rfl⟩) fun _ _ _ _ z=>z
theorem fk (x:Str)(st:Stmt)(f:Addr)(pm cd:Value)(l:K.lookup f=some ⟨.type "function",.none,.func (PySem.W.fnOf x x (defArgs st) (defBody st) (defScope st) .none .none .none pm .none cd .none),#[]⟩:=by kernel_rfl) (c:PySem.W.codeIn K cd x=true:=by kernel_rfl)(k:PySem.W.keepIn K (.ref f)=true:=by kernel_rfl):Fun K x x st f (PySem.W.fnOf x x (defArgs st) (defBody st) (defScope st) .none .none .none pm .none cd .none):=zKh l c k
theorem fkC (x:Str)(st:Stmt)(f:Addr)(pm:Value)(cc:Addr)(l:K.lookup f=some ⟨.type "function",.none,.func (PySem.W.fnOf x x (defArgs st) (defBody st) (defScope st) .none .none .none pm .none (.ref cc) .none),#[]⟩:=by kernel_rfl) (c:PySem.W.codeIn K (.ref cc) x=true:=by kernel_rfl)(k:PySem.W.keepIn K (.ref f)=true:=by kernel_rfl):zKK K x x st f (PySem.W.fnOf x x (defArgs st) (defBody st) (defScope st) .none .none .none pm .none (.ref cc) .none) cc:=zL4 l c k
noncomputable def dL:DefRec:={ name := "law",params:=defArgs sLaw,body:=defBody sLaw,scope:=defScope sLaw,pos:=⟨338,0,352,15⟩ }
theorem facts (w:World)(mg:sOV)(fa:Addr)(h:Heap)(KX:(Kf w.params).In h)(G:h.Ns mainGlobals mg)(hmg:mg "law" = some (.ref fa)):∃(fd:FuncData)(c P:Addr),PySem.W.tabIn (Kf w.params) "nearest" = some (c,P)/\PySem.W.noTabs (Kf w.params)=true/\(∀(s:Shared)(u:Value),BindsTo s fd ⟨[u],[]⟩ [("_law_script",u)])/\∀base:Heap,(Kf w.params).In base->base.Ns mainGlobals mg->zJJ mg base->zAK (PySem.Challenge.rw_labelways_k92_whole_a_keeper_stays_right).prog w (Kf w.params) mg base CX0 13 fa fd ["_law_script"] (zJS (Kf w.params) P):=by
 have mk:∀(x:Str)(f:Addr),PySem.W.nsIn (Kf w.params) mainGlobals x=some (some (.ref f))->mg x=some (.ref f):=fun x f e=>PySem.W.mg_of KX G e
 have mn:∀x:Str,PySem.W.nsIn (Kf w.params) mainGlobals x=some none->mg x=none:=fun x e=>PySem.W.mg_none_of KX G e
 have FTa:=fk (K:=Kf w.params) "_law_tape" zJY 402 qL (vR 401)
 have bTa:=FTa.binds (ps:=["_law_script"]) fun _ _ _ _ _ _ us hl=>by obtain⟨u0,rfl⟩:=zGv hl;rfl
 have mTa:=mk "_law_tape" 402 (by kernel_rfl)
 have FD:=fk (K:=Kf w.params) "_law_draw" zFJ 409 qL (vR 408)
 have bD:=FD.binds (ps:=["_law_tape_here", "_law_many"]) fun _ _ _ _ _ _ us hl=>by obtain⟨u0,u1,rfl⟩:=zDA hl;rfl
 have mD:=mk "_law_draw" 409 (by kernel_rfl)
 have FW:=fk (K:=Kf w.params) "_law_web" sWeb 414 qL (vR 413)
 have bW:=FW.binds (ps:=["_law_tape_here", "_law_n"]) fun _ _ _ _ _ _ us hl=>by obtain⟨u0,u1,rfl⟩:=zDA hl;rfl
 have mW:=mk "_law_web" 414 (by kernel_rfl)
 have FNu:=fk (K:=Kf w.params) "is_number" zJZ 77 (qS "labelways.kinds" 266) (vR 76)
 have bNu:=FNu.binds (ps:=["thing"]) fun _ _ _ _ _ _ us hl=>by obtain⟨u0,rfl⟩:=zGv hl;rfl
 have mNu:=mk "is_number" 77 (by kernel_rfl)
 have FWi:=fk (K:=Kf w.params) "is_within" sWi 84 (qS "labelways.kinds" 266) (vR 83)
 have bWi:=FWi.binds (ps:=["thing", "least", "most"]) fun _ _ _ _ _ _ us hl=>by obtain⟨u0,u1,u2,rfl⟩:=zHX hl;rfl
 have mWi:=mk "is_within" 84 (by kernel_rfl)
 have FTo:=fk (K:=Kf w.params) "is_tuple_of" zLL 91 (qS "labelways.kinds" 266) (vR 90)
 have bTo:=FTo.binds (ps:=["thing", "count"]) fun _ _ _ _ _ _ us hl=>by obtain⟨u0,u1,rfl⟩:=zDA hl;rfl
 have mTo:=mk "is_tuple_of" 91 (by kernel_rfl)
 have FRs:=fk (K:=Kf w.params) "is_rising" sRis 96 (qS "labelways.kinds" 266) (vR 95)
 have bRs:=FRs.binds (ps:=["things"]) fun _ _ _ _ _ _ us hl=>by obtain⟨u0,rfl⟩:=zGv hl;rfl
 have mRs:=mk "is_rising" 96 (by kernel_rfl)
 have FPl:=fk (K:=Kf w.params) "is_place" sPl 103 (qS "labelways.kinds" 266) (vR 102)
 have bPl:=FPl.binds (ps:=["n", "thing"]) fun _ _ _ _ _ _ us hl=>by obtain⟨u0,u1,rfl⟩:=zDA hl;rfl
 have mPl:=mk "is_place" 103 (by kernel_rfl)
 have FLg:=fk (K:=Kf w.params) "is_long" sIsL 170 (qS "labelways.webs" 380) (vR 169)
 have bLg:=FLg.binds (ps:=["thing"]) fun _ _ _ _ _ _ us hl=>by obtain⟨u0,rfl⟩:=zGv hl;rfl
 have mLg:=mk "is_long" 170 (by kernel_rfl)
 have FLl:=fk (K:=Kf w.params) "is_label" zH5 108 (qS "labelways.labels" 306) (vR 107)
 have bLl:=FLl.binds (ps:=["n", "thing"]) fun _ _ _ _ _ _ us hl=>by obtain⟨u0,u1,rfl⟩:=zDA hl;rfl
 have mLl:=mk "is_label" 108 (by kernel_rfl)
 have FEe:=fk (K:=Kf w.params) "is_entry" zH7 115 (qS "labelways.labels" 306) (vR 114)
 have bEe:=FEe.binds (ps:=["n", "thing"]) fun _ _ _ _ _ _ us hl=>by obtain⟨u0,u1,rfl⟩:=zDA hl;rfl
 have mEe:=mk "is_entry" 115 (by kernel_rfl)
 have FAl:=fk (K:=Kf w.params) "are_labels" zFI 120 (qS "labelways.labels" 306) (vR 119)
 have bAl:=FAl.binds (ps:=["n", "thing"]) fun _ _ _ _ _ _ us hl=>by obtain⟨u0,u1,rfl⟩:=zDA hl;rfl
 have mAl:=mk "are_labels" 120 (by kernel_rfl)
 have FFa:=fk (K:=Kf w.params) "far_entries" zG4 156 (qS "labelways.labels" 306) (vR 155)
 have bFa:=FFa.binds (ps:=["labels"]) fun _ _ _ _ _ _ us hl=>by obtain⟨u0,rfl⟩:=zGv hl;rfl
 have mFa:=mk "far_entries" 156 (by kernel_rfl)
 have FT:=fk (K:=Kf w.params) "ties_at" zEo 177 (qS "labelways.webs" 380) (vR 176)
 have bT:=FT.binds (ps:=["web", "place"]) fun _ _ _ _ _ _ us hl=>by obtain⟨u0,u1,rfl⟩:=zDA hl;rfl
 have mT:=mk "ties_at" 177 (by kernel_rfl)
 have FLo:=fk (K:=Kf w.params) "long_of" zFH 184 (qS "labelways.webs" 380) (vR 183)
 have bLo:=FLo.binds (ps:=["web", "one", "other"]) fun _ _ _ _ _ _ us hl=>by obtain⟨u0,u1,u2,rfl⟩:=zHX hl;rfl
 have mLo:=mk "long_of" 184 (by kernel_rfl)
 have FNe:=fkC (K:=Kf w.params) "nearest" zH2 203 (qS "labelways.lengths" 416) 202
 have bNe:=FNe.fn.binds (ps:=["waiting"]) fun _ _ _ _ _ _ us hl=>by obtain⟨u0,rfl⟩:=zGv hl;rfl
 have mNe:=mk "nearest" 203 (by kernel_rfl)
 have FF:=fk (K:=Kf w.params) "lengths_from" zH6 196 (qS "labelways.lengths" 416) (vR 195)
 have bF:=FF.binds (ps:=["web", "start"]) fun _ _ _ _ _ _ us hl=>by obtain⟨u0,u1,rfl⟩:=zDA hl;rfl
 have mF:=mk "lengths_from" 196 (by kernel_rfl)
 have FLe:=fk (K:=Kf w.params) "lengths" zH4 189 (qS "labelways.lengths" 416) (vR 188)
 have bLe:=FLe.binds (ps:=["web"]) fun _ _ _ _ _ _ us hl=>by obtain⟨u0,rfl⟩:=zGv hl;rfl
 have mLe:=mk "lengths" 189 (by kernel_rfl)
 have FBw:=fk (K:=Kf w.params) "between_rows" sBwr 208 (qS "labelways.lengths" 416) (vR 207)
 have bBw:=FBw.binds (ps:=["here", "there", "other"]) fun _ _ _ _ _ _ us hl=>by obtain⟨u0,u1,u2,rfl⟩:=zHX hl;rfl
 have mBw:=mk "between_rows" 208 (by kernel_rfl)
 have FNb:=fk (K:=Kf w.params) "next_by_row" sNbr 213 (qS "labelways.lengths" 416) (vR 212)
 have bNb:=FNb.binds (ps:=["web", "one", "there"]) fun _ _ _ _ _ _ us hl=>by obtain⟨u0,u1,u2,rfl⟩:=zHX hl;rfl
 have mNb:=mk "next_by_row" 213 (by kernel_rfl)
 have FIo:=fk (K:=Kf w.params) "is_order" sOrd 218 (qS "labelways.orders" 458) (vR 217)
 have bIo:=FIo.binds (ps:=["web", "thing"]) fun _ _ _ _ _ _ us hl=>by obtain⟨u0,u1,rfl⟩:=zDA hl;rfl
 have mIo:=mk "is_order" 218 (by kernel_rfl)
 have FBy:=fk (K:=Kf w.params) "by_order" zLM 223 (qS "labelways.orders" 458) (vR 222)
 have bBy:=FBy.binds (ps:=["web", "order"]) fun _ _ _ _ _ _ us hl=>by obtain⟨u0,u1,rfl⟩:=zDA hl;rfl
 have mBy:=mk "by_order" 223 (by kernel_rfl)
 have FLb:=fk (K:=Kf w.params) "label_by_ranks" sLbr 228 (qS "labelways.orders" 458) (vR 227)
 have bLb:=FLb.binds (ps:=["web", "rows", "ranks", "place"]) fun _ _ _ _ _ _ us hl=>by obtain⟨u0,u1,u2,u3,rfl⟩:=zJO hl;rfl
 have mLb:=mk "label_by_ranks" 228 (by kernel_rfl)
 have FIh:=fk (K:=Kf w.params) "is_hub" sIsh 233 (qS "labelways.orders" 458) (vR 232)
 have bIh:=FIh.binds (ps:=["rows", "ranks", "hub", "place"]) fun _ _ _ _ _ _ us hl=>by obtain⟨u0,u1,u2,u3,rfl⟩:=zJO hl;rfl
 have mIh:=mk "is_hub" 233 (by kernel_rfl)
 have FEb:=fk (K:=Kf w.params) "entry_by_rows" sEbr 240 (qS "labelways.orders" 458) (vR 239)
 have bEb:=FEb.binds (ps:=["web", "rows", "place", "hub"]) fun _ _ _ _ _ _ us hl=>by obtain⟨u0,u1,u2,u3,rfl⟩:=zJO hl;rfl
 have mEb:=mk "entry_by_rows" 240 (by kernel_rfl)
 have FWt:=fk (K:=Kf w.params) "with_tie" zHy 315 (qS "labelways.keeper" 496) (vR 314)
 have bWt:=FWt.binds (ps:=["web", "one", "other", "long"]) fun _ _ _ _ _ _ us hl=>by obtain⟨u0,u1,u2,u3,rfl⟩:=zJO hl;rfl
 have mWt:=mk "with_tie" 315 (by kernel_rfl)
 have FWo:=fk (K:=Kf w.params) "without_tie" zHx 322 (qS "labelways.keeper" 496) (vR 321)
 have bWo:=FWo.binds (ps:=["web", "one", "other"]) fun _ _ _ _ _ _ us hl=>by obtain⟨u0,u1,u2,rfl⟩:=zHX hl;rfl
 have mWo:=mk "without_tie" 322 (by kernel_rfl)
 have FOw:=fk (K:=Kf w.params) "own_place" sOwn 125 (qS "labelways.labels" 306) (vR 124)
 have bOw:=FOw.binds (ps:=["label"]) fun _ _ _ _ _ _ us hl=>by obtain⟨u0,rfl⟩:=zGv hl;rfl
 have mOw:=mk "own_place" 125 (by kernel_rfl)
 have FSu:=fk (K:=Kf w.params) "least_sum" sSum 144 (qS "labelways.labels" 306) (vR 143)
 have bSu:=FSu.binds (ps:=["one", "other"]) fun _ _ _ _ _ _ us hl=>by obtain⟨u0,u1,rfl⟩:=zDA hl;rfl
 have mSu:=mk "least_sum" 144 (by kernel_rfl)
 have FTd:=fk (K:=Kf w.params) "told" zFv 132 (qS "labelways.labels" 306) (vR 131)
 have bTd:=FTd.binds (ps:=["one", "other"]) fun _ _ _ _ _ _ us hl=>by obtain⟨u0,u1,rfl⟩:=zDA hl;rfl
 have mTd:=mk "told" 132 (by kernel_rfl)
 have FHu:=fk (K:=Kf w.params) "told_hub" sHub 139 (qS "labelways.labels" 306) (vR 138)
 have bHu:=FHu.binds (ps:=["one", "other"]) fun _ _ _ _ _ _ us hl=>by obtain⟨u0,u1,rfl⟩:=zDA hl;rfl
 have mHu:=mk "told_hub" 139 (by kernel_rfl)
 have FEn:=fk (K:=Kf w.params) "entry_of" sEnt 151 (qS "labelways.labels" 306) (vR 150)
 have bEn:=FEn.binds (ps:=["label", "hub"]) fun _ _ _ _ _ _ us hl=>by obtain⟨u0,u1,rfl⟩:=zDA hl;rfl
 have mEn:=mk "entry_of" 151 (by kernel_rfl)
 have FSt:=fk (K:=Kf w.params) "next_step" zH0 163 (qS "labelways.labels" 306) (vR 162)
 have bSt:=FSt.binds (ps:=["one", "other"]) fun _ _ _ _ _ _ us hl=>by obtain⟨u0,u1,rfl⟩:=zDA hl;rfl
 have mSt:=mk "next_step" 163 (by kernel_rfl)
 have FPa:=fk (K:=Kf w.params) "pair_of" zG3 329 (qS "labelways.keeper" 496) (vR 328)
 have bPa:=FPa.binds (ps:=["web", "one", "other"]) fun _ _ _ _ _ _ us hl=>by obtain⟨u0,u1,u2,rfl⟩:=zHX hl;rfl
 have mPa:=mk "pair_of" 329 (by kernel_rfl)
 have FBt:=fk (K:=Kf w.params) "ties_but" sBut 334 (qS "labelways.keeper" 496) (vR 333)
 have bBt:=FBt.binds (ps:=["web", "pair"]) fun _ _ _ _ _ _ us hl=>by obtain⟨u0,u1,rfl⟩:=zDA hl;rfl
 have mBt:=mk "ties_but" 334 (by kernel_rfl)
 have FLt:=fk (K:=Kf w.params) "lets_labels" zH3 341 (qS "labelways.checker" 623) (vR 340)
 have bLt:=FLt.binds (ps:=["web", "thing"]) fun _ _ _ _ _ _ us hl=>by obtain⟨u0,u1,rfl⟩:=zDA hl;rfl
 have mLt:=mk "lets_labels" 341 (by kernel_rfl)
 have FRa:=fk (K:=Kf w.params) "refuse_at" zH1 348 (qS "labelways.checker" 623) (vR 347)
 have bRa:=FRa.binds (ps:=["word", "at"]) fun _ _ _ _ _ _ us hl=>by obtain⟨u0,u1,rfl⟩:=zDA hl;rfl
 have mRa:=mk "refuse_at" 348 (by kernel_rfl)
 have FOf:=fk (K:=Kf w.params) "own_fault" sOf 355 (qS "labelways.checker" 623) (vR 354)
 have bOf:=FOf.binds (ps:=["labels"]) fun _ _ _ _ _ _ us hl=>by obtain⟨u0,rfl⟩:=zGv hl;rfl
 have mOf:=mk "own_fault" 355 (by kernel_rfl)
 have FUf:=fk (K:=Kf w.params) "up_fault" sUf 362 (qS "labelways.checker" 623) (vR 361)
 have bUf:=FUf.binds (ps:=["web", "labels"]) fun _ _ _ _ _ _ us hl=>by obtain⟨u0,u1,rfl⟩:=zDA hl;rfl
 have mUf:=mk "up_fault" 362 (by kernel_rfl)
 have FUr:=fk (K:=Kf w.params) "is_up_right" sUr 369 (qS "labelways.checker" 623) (vR 368)
 have bUr:=FUr.binds (ps:=["web", "labels", "place", "entry"]) fun _ _ _ _ _ _ us hl=>by obtain⟨u0,u1,u2,u3,rfl⟩:=zJO hl;rfl
 have mUr:=mk "is_up_right" 369 (by kernel_rfl)
 have FTf:=fk (K:=Kf w.params) "tie_fault" sTf 374 (qS "labelways.checker" 623) (vR 373)
 have bTf:=FTf.binds (ps:=["web", "labels"]) fun _ _ _ _ _ _ us hl=>by obtain⟨u0,u1,rfl⟩:=zDA hl;rfl
 have mTf:=mk "tie_fault" 374 (by kernel_rfl)
 have FGm:=fk (K:=Kf w.params) "grows_too_much" sGm 381 (qS "labelways.checker" 623) (vR 380)
 have bGm:=FGm.binds (ps:=["here", "there", "long"]) fun _ _ _ _ _ _ us hl=>by obtain⟨u0,u1,u2,rfl⟩:=zHX hl;rfl
 have mGm:=mk "grows_too_much" 381 (by kernel_rfl)
 have FDf:=fk (K:=Kf w.params) "down_fault" sDf 388 (qS "labelways.checker" 623) (vR 387)
 have bDf:=FDf.binds (ps:=["web", "labels"]) fun _ _ _ _ _ _ us hl=>by obtain⟨u0,u1,rfl⟩:=zDA hl;rfl
 have mDf:=mk "down_fault" 388 (by kernel_rfl)
 have FDr:=fk (K:=Kf w.params) "is_down_right" sDr 395 (qS "labelways.checker" 623) (vR 394)
 have bDr:=FDr.binds (ps:=["web", "labels", "place", "entry"]) fun _ _ _ _ _ _ us hl=>by obtain⟨u0,u1,u2,u3,rfl⟩:=zJO hl;rfl
 have mDr:=mk "is_down_right" 395 (by kernel_rfl)
 have FA:=fk (K:=Kf w.params) "_law_added" sAdd 421 qL (vR 420)
 have bA:=FA.binds (ps:=["_law_one", "_law_other"]) fun _ _ _ _ _ _ us hl=>by obtain⟨u0,u1,rfl⟩:=zDA hl;rfl
 have mA:=mk "_law_added" 421 (by kernel_rfl)
 have FLs:=fk (K:=Kf w.params) "_law_lesser" sLes 428 qL (vR 427)
 have bLs:=FLs.binds (ps:=["_law_one", "_law_other"]) fun _ _ _ _ _ _ us hl=>by obtain⟨u0,u1,rfl⟩:=zDA hl;rfl
 have mLs:=mk "_law_lesser" 428 (by kernel_rfl)
 have FFr:=fk (K:=Kf w.params) "_law_far" sFar 433 qL (vR 432)
 have bFr:=FFr.binds (ps:=["_law_web_here"]) fun _ _ _ _ _ _ us hl=>by obtain⟨u0,rfl⟩:=zGv hl;rfl
 have mFr:=mk "_law_far" 433 (by kernel_rfl)
 have FJ:=fk (K:=Kf w.params) "_law_joined" sJoi 440 qL (vR 439)
 have bJ:=FJ.binds (ps:=["_law_web_here"]) fun _ _ _ _ _ _ us hl=>by obtain⟨u0,rfl⟩:=zGv hl;rfl
 have mJ:=mk "_law_joined" 440 (by kernel_rfl)
 have FNs:=fk (K:=Kf w.params) "_law_nexts" sNxs 445 qL (vR 444)
 have bNs:=FNs.binds (ps:=["_law_web_here", "_law_far_here", "_law_one", "_law_other"]) fun _ _ _ _ _ _ us hl=>by obtain⟨u0,u1,u2,u3,rfl⟩:=zJO hl;rfl
 have mNs:=mk "_law_nexts" 445 (by kernel_rfl)
 have FOr:=fk (K:=Kf w.params) "_law_order" zGQ 452 qL (vR 451)
 have bOr:=FOr.binds (ps:=["_law_tape_here", "_law_n"]) fun _ _ _ _ _ _ us hl=>by obtain⟨u0,u1,rfl⟩:=zDA hl;rfl
 have mOr:=mk "_law_order" 452 (by kernel_rfl)
 have FWb:=fk (K:=Kf w.params) "_law_web_of" zHz 457 qL (vR 456)
 have bWb:=FWb.binds (ps:=["_law_n", "_law_joined_here"]) fun _ _ _ _ _ _ us hl=>by obtain⟨u0,u1,rfl⟩:=zDA hl;rfl
 have mWb:=mk "_law_web_of" 457 (by kernel_rfl)
 have FIr:=fk (K:=Kf w.params) "_law_is_right" sIsr 464 qL (vR 463)
 have bIr:=FIr.binds (ps:=["_law_keeper", "_law_web_here", "_law_order_here"]) fun _ _ _ _ _ _ us hl=>by obtain⟨u0,u1,u2,rfl⟩:=zHX hl;rfl
 have mIr:=mk "_law_is_right" 464 (by kernel_rfl)
 have FTu:=fk (K:=Kf w.params) "_law_turned" zDC 469 qL (vR 468)
 have bTu:=FTu.binds (ps:=["_law_former", "_law_labels"]) fun _ _ _ _ _ _ us hl=>by obtain⟨u0,u1,rfl⟩:=zDA hl;rfl
 have mTu:=mk "_law_turned" 469 (by kernel_rfl)
 have FPu:=fk (K:=Kf w.params) "_law_put" sPut 476 qL (vR 475)
 have bPu:=FPu.binds (ps:=["_law_keeper", "_law_joined_here", "_law_pair", "_law_long"]) fun _ _ _ _ _ _ us hl=>by obtain⟨u0,u1,u2,u3,rfl⟩:=zJO hl;rfl
 have mPu:=mk "_law_put" 476 (by kernel_rfl)
 have FDe:=fk (K:=Kf w.params) "_law_deed_right" zJa 483 qL (vR 482)
 have bDe:=FDe.binds (ps:=["_law_tape_here", "_law_keeper", "_law_joined_here", "_law_n", "_law_order_here"]) fun _ _ _ _ _ _ us hl=>by obtain⟨u0,u1,u2,u3,u4,rfl⟩:=usl5 hl;rfl
 have mDe:=mk "_law_deed_right" 483 (by kernel_rfl)
 have FZ:=fk (K:=Kf w.params) "law" sLaw 490 qL (vR 489)
 have mb0:=mn "len" (by kernel_rfl)
 have mb1:=mn "range" (by kernel_rfl)
 have mb2:=mn "tuple" (by kernel_rfl)
 have mb3:=mn "sorted" (by kernel_rfl)
 have mb4:=mn "min" (by kernel_rfl)
 have mb5:=mn "max" (by kernel_rfl)
 have mb6:=mn "list" (by kernel_rfl)
 have mb7:=mn "isinstance" (by kernel_rfl)
 have mb8:=mn "int" (by kernel_rfl)
 have mb9:=mn "bool" (by kernel_rfl)
 have mb10:=mn "all" (by kernel_rfl)
 have mb11:=mn "set" (by kernel_rfl)
 have mb12:=mn "zip" (by kernel_rfl)
 have mb13:=mn "dict" (by kernel_rfl)
 have mb14:=mn "enumerate" (by kernel_rfl)
 have mb15:=mn "repr" (by kernel_rfl)
 have e:=hmg.symm.trans (mk "law" 490 (by kernel_rfl))
 cases e
 have FKI:=fkM (K:=Kf w.params) "__init__" "Keeper.__init__" sKI 254 (qS "labelways.keeper" 496) (vR 253)
 have bKI:=FKI.binds (ps:=["self", "web", "order"]) fun _ _ _ _ _ _ us hl=>by obtain⟨u0,u1,u2,rfl⟩:=zHX hl;rfl
 have FKP:=fkM (K:=Kf w.params) "put" "Keeper.put" sKP 261 (qS "labelways.keeper" 496) (vR 260)
 have bKP:=FKP.binds (ps:=["self", "one", "other", "long"]) fun _ _ _ _ _ _ us hl=>by obtain⟨u0,u1,u2,u3,rfl⟩:=zJO hl;rfl
 have FKS:=fkM (K:=Kf w.params) "strike" "Keeper.strike" sKS 268 (qS "labelways.keeper" 496) (vR 267)
 have bKS:=FKS.binds (ps:=["self", "one", "other"]) fun _ _ _ _ _ _ us hl=>by obtain⟨u0,u1,u2,rfl⟩:=zHX hl;rfl
 have FKT:=fkM (K:=Kf w.params) "turn_to" "Keeper.turn_to" sKT 273 (qS "labelways.keeper" 496) (vR 272)
 have bKT:=FKT.binds (ps:=["self", "web"]) fun _ _ _ _ _ _ us hl=>by obtain⟨u0,u1,rfl⟩:=zDA hl;rfl
 have FKW:=fkM (K:=Kf w.params) "web_now" "Keeper.web_now" sKW 280 (qS "labelways.keeper" 496) (vR 279)
 have bKW:=FKW.binds (ps:=["self"]) fun _ _ _ _ _ _ us hl=>by obtain⟨u0,rfl⟩:=zGv hl;rfl
 have FKL:=fkM (K:=Kf w.params) "labels_now" "Keeper.labels_now" sKL 287 (qS "labelways.keeper" 496) (vR 286)
 have bKL:=FKL.binds (ps:=["self"]) fun _ _ _ _ _ _ us hl=>by obtain⟨u0,rfl⟩:=zGv hl;rfl
 have FKN:=fkM (K:=Kf w.params) "length_of" "Keeper.length_of" sKN 294 (qS "labelways.keeper" 496) (vR 293)
 have bKN:=FKN.binds (ps:=["self", "one", "other"]) fun _ _ _ _ _ _ us hl=>by obtain⟨u0,u1,u2,rfl⟩:=zHX hl;rfl
 have FKU:=fkM (K:=Kf w.params) "step_of" "Keeper.step_of" sKU 301 (qS "labelways.keeper" 496) (vR 300)
 have bKU:=FKU.binds (ps:=["self", "one", "other"]) fun _ _ _ _ _ _ us hl=>by obtain⟨u0,u1,u2,rfl⟩:=zHX hl;rfl
 have TKC:KC (Kf w.params) mg 304 254 261 268 273 280 287:=⟨mk "Keeper" 304 (by kernel_rfl),⟨by kernel_rfl,by kernel_rfl,by kernel_rfl,by kernel_rfl⟩,⟨by kernel_rfl,by kernel_rfl,by kernel_rfl,by kernel_rfl⟩,by unfold zCT;kernel_rfl,by unfold zCT;kernel_rfl,by unfold zCT;kernel_rfl,⟨by kernel_rfl,by kernel_rfl,by kernel_rfl⟩,⟨by kernel_rfl,by kernel_rfl,by kernel_rfl⟩,⟨by kernel_rfl,by kernel_rfl,by kernel_rfl⟩,⟨by kernel_rfl,by kernel_rfl,by kernel_rfl⟩,⟨by kernel_rfl,by kernel_rfl,by kernel_rfl⟩⟩
 have MKN:zGt (Kf w.params) 304 "length_of" 294:=⟨by kernel_rfl,by kernel_rfl,by kernel_rfl⟩
 have MKU:zGt (Kf w.params) 304 "step_of" 301:=⟨by kernel_rfl,by kernel_rfl,by kernel_rfl⟩
 have mML:mg "MOST_LONG" = some (.int 99 384):=PySem.W.mg_of KX G (by kernel_rfl)
 have mMT:mg "MOST_TIES" = some (.int 60 382):=PySem.W.mg_of KX G (by kernel_rfl)
 exact⟨_,202,198,by kernel_rfl,by kernel_rfl,fun s v=>.of_eq rfl,fun base hb _ hbm=>ok_law FZ (PySem.W.codeHd_of_K hb (show PySem.W.codeHdIn (Kf w.params) 202 198=true by kernel_rfl)) hbm TKC MKN MKU FKI bKI FKP bKP FKS bKS FKT bKT FKW bKW FKL bKL FKN bKN FKU bKU mML mMT ⟨FTa,bTa,mTa⟩ ⟨FD,bD,mD⟩ ⟨FW,bW,mW⟩ ⟨FNu,bNu,mNu⟩ ⟨FWi,bWi,mWi⟩ ⟨FTo,bTo,mTo⟩ ⟨FRs,bRs,mRs⟩ ⟨FPl,bPl,mPl⟩ ⟨FLg,bLg,mLg⟩ ⟨FLl,bLl,mLl⟩ ⟨FEe,bEe,mEe⟩ ⟨FAl,bAl,mAl⟩ ⟨FFa,bFa,mFa⟩ ⟨FT,bT,mT⟩ ⟨FLo,bLo,mLo⟩ FNe bNe mNe ⟨FF,bF,mF⟩ ⟨FLe,bLe,mLe⟩ ⟨FBw,bBw,mBw⟩ ⟨FNb,bNb,mNb⟩ ⟨FIo,bIo,mIo⟩ ⟨FBy,bBy,mBy⟩ ⟨FLb,bLb,mLb⟩ ⟨FIh,bIh,mIh⟩ ⟨FEb,bEb,mEb⟩ ⟨FWt,bWt,mWt⟩ ⟨FWo,bWo,mWo⟩ ⟨FOw,bOw,mOw⟩ ⟨FSu,bSu,mSu⟩ ⟨FTd,bTd,mTd⟩ ⟨FHu,bHu,mHu⟩ ⟨FEn,bEn,mEn⟩ ⟨FSt,bSt,mSt⟩ ⟨FPa,bPa,mPa⟩ ⟨FBt,bBt,mBt⟩ ⟨FLt,bLt,mLt⟩ ⟨FRa,bRa,mRa⟩ ⟨FOf,bOf,mOf⟩ ⟨FUf,bUf,mUf⟩ ⟨FUr,bUr,mUr⟩ ⟨FTf,bTf,mTf⟩ ⟨FGm,bGm,mGm⟩ ⟨FDf,bDf,mDf⟩ ⟨FDr,bDr,mDr⟩ ⟨FA,bA,mA⟩ ⟨FLs,bLs,mLs⟩ ⟨FFr,bFr,mFr⟩ ⟨FJ,bJ,mJ⟩ ⟨FNs,bNs,mNs⟩ ⟨FOr,bOr,mOr⟩ ⟨FWb,bWb,mWb⟩ ⟨FIr,bIr,mIr⟩ ⟨FTu,bTu,mTu⟩ ⟨FPu,bPu,mPu⟩ ⟨FDe,bDe,mDe⟩ mb0 mb1 mb2 mb3 mb4 mb5 mb6 mb7 mb8 mb9 mb10 mb11 mb12 mb13 mb14 mb15⟩
end K92
open PySem PySem.W PyProof.Rows
set_option maxRecDepth 100000 in
set_option maxHeartbeats 0 in
theorem PySem.Challenge.cw_labelways_k92_whole_a_keeper_stays_right_holds : PySem.Challenge.rw_labelways_k92_whole_a_keeper_stays_right.Holds := by
 refine holds_law (by decide +kernel) fun said=>?_
 refine holds_open (q:=K92.Vp) (loose:=[]) (Xt:=fun s=>xlAt K92.Vp [] s && recOk (RowW.records K92.RR) s) (XP:=XL K92.Vp []) (Yf:=Hook.obs K92.HK) (Ya:=Hook.val K92.HK) (YP:=Hook.says K92.HK) (d:=K92.dL) (kwd:=[]) (N:=6286) K92.left (Hook.of K92.HK) (Hook.keeps K92.HK) (fun s e=>xl_of s (Bool.and_eq_true_iff.mp e).1) XL.keeps (by kernel_rfl) (by kernel_rfl) (by kernel_rfl) (fun s e=>recFacts_of (Bool.and_eq_true_iff.mp e).2) (by kernel_rfl) said (by decide +kernel) ⟨rfl,rfl,rfl,rfl,rfl,by decide +kernel⟩ ?hw ?hc
 case hw=>w_witness2
 case hc=>
  exact K92.walk (l:=PySem.Challenge.rw_labelways_k92_whole_a_keeper_stays_right) (K:=K92.Kf) rfl rfl ⟨((PyProof.Rows.recsOf K92.Vp).find? (fun e=>e.name==("nearest" : Str))).get (by decide +kernel),by simp⟩ (fun w h Y=>PySem.W.kIn_of Y) K92.facts
