import PyProof.Rows.All
import Wide.All
import OpenK.AllK
import Wide.FinOn
import Lean
import PyProof.EqAt
import PyProof.EqKinds
import PyProof.TupleCall
import PyProof.ListRange
import PyProof.Rows.StrKeys3
import PyProof.ZipIter
import PyProof.Rows.IntBool
import KE.KStateDown
import KE.KRevSl
import PyProof.Rows.Range3
import PySem.Challenge.RW_labelways_k35_least_orders_judged
set_option Elab.async false
set_option linter.all false
set_option maxRecDepth 100000
section
open PySem PySem.Spec PyProof.Rows
abbrev zA:=@List.getElem?_eq_getElem
abbrev zB:=@wpAny_bind
abbrev zC:=@List.getD_eq_getElem?_getD
abbrev zD:=@List.length_map
abbrev zH:=@Nat.le_refl
abbrev zI:=@Heap.get?_push_of_some
abbrev zJ:=@wpAny_pure
abbrev zK:=@List.getElem?_eq_some_iff
abbrev zL:=@List.length_append
abbrev zN:=@List.getElem?_map
abbrev zP:=@decide_eq_true
abbrev zQ:=@List.size_toArray
abbrev zR:=@Heap.lt_size
abbrev zS:=@List.map_append
abbrev zT:=@List.length_cons
abbrev zU:=@Option.some.inj
abbrev zV:=@List.getElem?_append_right
abbrev zW:=@Heap.get?_push_size
abbrev zX:=@List.mem_cons_of_mem
abbrev zY:=@List.mem_cons
abbrev zZ:=@List.take_of_length_le
abbrev za:=@List.mem_of_getElem?
abbrev zb:=@decide_eq_false
abbrev zc:=@Nat.ne_of_lt
abbrev zd:=@List.getElem?_append_left
abbrev zh:=@List.mem_cons_self
abbrev zi:=@Nat.zero_le
abbrev zj:=@List.mem_singleton
abbrev zk:=@List.mem_append_right
abbrev zl:=@List.length_take
abbrev zm:=@Nat.lt_of_lt_of_le
abbrev zn:=@List.mem_append
abbrev zo:=@Bool.false_ne_true
abbrev zp:=@List.append_nil
abbrev zu:=@List.length_filter_le
abbrev zv:=@List.mem_map
abbrev zw:=@List.take_add_one
abbrev zx:=@Nat.le_trans
abbrev zy:=@List.getElem_of_mem
abbrev zAA:=@List.map_cons
abbrev zAB:=@List.length_range
abbrev zAH:=@List.filter_cons_of_neg
abbrev zAJ:=@Int.zero_add
abbrev zAK:=@Nat.lt_of_le_of_lt
abbrev zAL:=@List.nodup_iff_pairwise_ne
abbrev zAM:=@List.filter_nil
abbrev zAO:=@List.nodup_cons
abbrev zAP:=@wpAny_mono
abbrev zAR:=@Int.toNat_natCast
abbrev zAT:=@List.length_replicate
abbrev zAU:=@List.filter_cons_of_pos
abbrev zAV:=@List.pairwise_iff_getElem
abbrev zAW:=@List.mem_range
abbrev zAd:=@wpAny_loadPart_at
abbrev zAg:=@wpAny_holding
abbrev zAh:=@Nat.lt_succ_of_lt
abbrev zAi:=@Heap.size_push
abbrev zAk:=@List.mem_append_left
abbrev zAl:=@List.filter_append
abbrev zAp:=@Option.map_some
abbrev zAq:=@List.getElem_mem
abbrev zAr:=@wpAny_newObj_type
abbrev zAs:=@List.pairwise_map
abbrev zAu:=@List.mem_filter
abbrev zAv:=@Classical.byContradiction
abbrev zAw:=@wpAny_call_entry
abbrev zAx:=@List.lookup_cons
abbrev zAz:=@List.replicate_succ
abbrev zA2:=@List.length_singleton
abbrev zA3:=@List.getElem?_eq_none
abbrev zA4:=@wpAny_callSpecial?_slot
abbrev zA5:=@decide_eq_true_iff
abbrev zA6:=@Nat.le_succ
abbrev zA7:=@List.mem_filterMap
abbrev zA8:=@List.getElem?_replicate
abbrev zBB:=@List.filter_cons
abbrev zBC:=@Bool.and_eq_true
abbrev zBI:=@List.getElem?_toArray
abbrev zBJ:=@Heap.get?_update_self
abbrev zBL:=@wpAny_Call_Name_kw
abbrev zBM:=@Option.isSome_iff_exists
abbrev zBQ:=@List.mem_of_mem_take
abbrev zBW:=@List.map_congr_left
abbrev zBY:=@List.getElem?_set_self
abbrev zBf:=@Bool.false_eq_true
abbrev zBo:=@Nat.pow_le_pow_right
abbrev zBp:=@wpAny_truthy_bool
abbrev zBq:=@Nat.not_lt_zero
abbrev zBw:=@Nat.le_of_lt
abbrev zBz:=@Nat.lt_irrefl
abbrev zB0:=@List.sum_cons
abbrev zB1:=@List.getElem?_range
abbrev zB2:=@Heap.get?_update_ne
abbrev zB3:=@wpAny_typeNameOfWhole_keyiter
abbrev zB4:=@Option.getD_some
abbrev zB5:=@List.all_eq_true
end
namespace L2
open PySem PySem.Spec PyProof.Rows
noncomputable def defArgs (s:Stmt):Arguments:=match s with
 | .FunctionDef _ a _ _ _ _ _ _ _ _=>a
 | _=>{ posonlyargs:=[],args:=[],vararg:=none,kwonlyargs:=[],kw_defaults:=[],kwarg:=none,defaults:=[] }
noncomputable def defBody (s:Stmt):List Stmt:=match s with
 | .FunctionDef _ _ b _ _ _ _ _ _ _=>b
 | _=>[]
noncomputable def defScope (s:Stmt):Scope:=match s with
 | .FunctionDef _ _ _ _ _ _ sc _ _ _=>sc
 | _=>{ kind:=.function,names:=[],isGenerator:=false,isCoroutine:=false }
end L2
namespace L2
section
open PySem PySem.W PyProof.Rows
noncomputable def zE8 (p:Program)(w:World)(n₀:Nat)(ann:Option Value):Nat->SharedT->Thread->Option SharedT
 | 0,_,_=>none
 | n+1,s,t=>match through t with
  | true=>some s
  | false=>match Fast.tw6613529449190102663 n₀ ann t with
   | false=>none
   | true=>match Fast.tw10156331382660048174 (Fast.tw11892475500146522536 Fast.tw14364793385576792824) p w s t with
    | some (s',t')=>zE8 p w n₀ ann n s' t'
    | none=>none
theorem zFm {p:Program}{w:World}{n₀:Nat}{ann:Option Value}:∀{n:Nat}{s s':SharedT}{t:Thread},zE8 p w n₀ ann n s t=some s'->topRun treeTable p w n₀ ann n s.abs t=some s'.abs
 | 0,_,_,_,h=>by cases h
 | n+1,s,s',t,h=>by
  unfold zE8 at h
  rw[<-Fast.te6613529449190102663,<-Fast.te10156331382660048174,<-Fast.te11892475500146522536,<-Fast.te14364793385576792824] at h
  unfold topRun
  cases he:through t with
  | true=>rw[he] at h;cases h;rfl
  | false=>
   rw[he] at h
   cases hk:stepOk n₀ ann t with
   | false=>rw[hk] at h;cases h
   | true=>
    rw[hk] at h
    cases hs:stepT (denote treeTable) p w s t with
    | none=>rw[hs] at h;cases h
    | some r=>obtain⟨s₂,t₂⟩:=r;rw[hs] at h;rw[stepT_spec hs];exact zFm h
noncomputable def bt:List Obj->Nat->BT->BT
 | [],_,t=>t
 | o::l,i,t=>bt l (i+1) (t.ins i o)
noncomputable def bT (P:Params):BT:=bt (boot_heap P).objs.toList 0 .nil
noncomputable def bS (w:World)(os:OsState):SharedT:=⟨bT w.params,(boot_heap w.params).objs.size,(boot_heap w.params).life,Array.mk [],boot_drawn,boot_toks,os⟩
theorem bA (w:World)(os:OsState):(bS w os).abs=⟨boot_heap w.params,Array.mk [],boot_drawn,boot_toks,os⟩:=by kernel_rfl
noncomputable abbrev runT (p:Program)(N:Nat)(w:World)(os:OsState):Option SharedT:=zE8 p w (boot_heap w.params).objs.size ((boot_heap w.params).nsMap mainGlobals "__annotations__") N (bS w os) (topStub p)
noncomputable abbrev chkT (p:Program)(h h':Heap)(s:Shared):Bool:=staticsOk (importedModules p.main.body) h h' && namesBound p h' && gensDone s && laidKept h h'
theorem left_of {p q:Program}{loose:List Str}{Xt:Shared->Bool}{α:Type}{Yf:Shared->α}{Ya:World->α}{N:Nat}(e:opening p=plainProg p.main.scope.names)(hN:Nat.ble 600 N=true)(f:∀s,fenceModules? p s=some s)
 (h:∀(w:World)(os:OsState),(runT p N w os).map (fun s=>(chkT p (boot_heap w.params) s.abs.heap s.abs,Fast.tw4187177175401517315 q loose (importedModules p.main.body) Xt true s.abs,Yf s.abs))=some (true,openGood q loose,Ya w)):LeftO p q loose Xt Yf Ya N:=by
 intro w
 obtain⟨⟨h0,gs,d,k,os⟩,e1,e2⟩:=Option.map_eq_some_iff.mp (boot_open e hN f w)
 obtain⟨rfl,rfl,rfl,rfl⟩:h0=boot_heap w.params/\gs=Array.mk []/\d=boot_drawn/\k=boot_toks:=by simpa using e2
 obtain⟨s,r,a⟩:=Option.map_eq_some_iff.mp (h w os)
 obtain⟨b,a⟩:=Prod.mk.inj a
 rw[<-Fast.te4187177175401517315] at a
 have y:=zFm r
 rw[bA] at y
 unfold openEnds
 rw[e1]
 show (topFrom treeTable p w N _).map _=_
 unfold topFrom
 have z:((boot_heap w.params).isNs mainGlobals && (Array.mk []:Array GenState).size==0)=true:=by kernel_rfl
 dsimp only
 rw[z]
 dsimp only
 rw[y]
 show Option.map _ (match chkT p (boot_heap w.params) s.abs.heap s.abs with | true=>some s.abs | false=>none)=_
 rw[b]
 exact congrArg some a
end
end L2
namespace K35
open PySem L2
noncomputable def top (i:Nat):Stmt:=PySem.Challenge.pw_labelways_k35_least_orders_judged.main.body.getD i (.Pass ⟨0,0,0,0⟩)
noncomputable def mth (k i:Nat):Stmt:=match top k with
 | .ClassDef _ _ _ body ..=>body.getD i (.Pass ⟨0,0,0,0⟩)
 | _=>.Pass ⟨0,0,0,0⟩
noncomputable abbrev sT:String->Str:=Str.ofString
noncomputable abbrev kH:=PyData.keyHash
noncomputable abbrev dE:=DictEntry.mk
noncomputable abbrev vS:=Value.str
noncomputable abbrev vI:=Value.int
noncomputable abbrev vR:=Value.ref
noncomputable abbrev vB:=Value.bool
noncomputable abbrev vN:Value:=Value.none
noncomputable abbrev vT:=Value.type
noncomputable abbrev oM:=Obj.mk
noncomputable abbrev cQ (x:Array Value):Obj:=oM (vT "code") .none (.fields x) #[]
noncomputable abbrev fQ (x:FuncData):Obj:=oM (vT "function") .none (.func x) #[]
noncomputable abbrev fT (x:String)(i:Nat)(m:Value)(c:Nat):Obj:=fQ (.mk (sT x) (sT x) (L2.defArgs (top i)) (FuncBody.stmts (L2.defBody (top i))) (L2.defScope (top i)) 3 [] vN vN vN m .none (vR c) vN 0)
noncomputable abbrev qS (x:String)(n:Nat):Value:=vS (sT x) n
noncomputable abbrev qC (n:Nat):Value:=qS "/claim/cut.py" n
noncomputable abbrev qL:=qS "law_labelways_k35_least_orders_judged" 655
noncomputable abbrev kE (P:Params)(x:String)(n:Nat):Value->DictEntry:=dE (kH P (sT x)) (qS x n)
noncomputable def Kf:Params->PySem.W.Frag:=fun P=>[
(2,oM vN .none (Data.dict #[]) #[]),
(3,oM (vT "dict") .none (Data.dict #[kE P "__name__" 165 qL,kE P "__doc__" 166 vN,kE P "__package__" 167 vN,kE P "__loader__" 168 (Value.builtin "__main__.__loader__#opaque"),kE P "__spec__" 169 vN,kE P "__annotations__" 170 (vR 6),kE P "__builtins__" 171 (vR 4),kE P "__file__" 173 (qC 172),kE P "__cached__" 174 vN,kE P "WayError" 206 (vR 24),kE P "NoLabels" 233 (vR 44),kE P "NoLeast" 260 (vR 63),kE P "NoPlan" 287 (vR 82),kE P "NoText" 314 (vR 101),kE P "NoOrder" 330 (vR 113),kE P "NoTree" 346 (vR 125),kE P "NoRing" 362 (vR 137),kE P "NoPosts" 378 (vR 149),kE P "NoTie" 394 (vR 161),kE P "NoPart" 410 (vR 173),kE P "NoRow" 426 (vR 185),kE P "TooMany" 442 (vR 197),kE P "is_number" 451 (vR 206),kE P "is_within" 460 (vR 213),kE P "is_tuple_of" 468 (vR 220),kE P "is_place" 476 (vR 227),kE P "ties_at" 490 (vR 234),kE P "lengths" 498 (vR 239),kE P "lengths_from" 512 (vR 246),kE P "nearest" 520 (vR 253),kE P "between_rows" 526 (vR 258),kE P "next_by_row" 532 (vR 263),kE P "is_order" 540 (vR 268),kE P "by_order" 546 (vR 273),kE P "label_by_ranks" 552 (vR 278),kE P "is_hub" 558 (vR 283),kE P "entry_by_rows" 570 (vR 290),kE P "total" 576 (vR 295),kE P "MOST_PLACES_OF_LEASTS" 580 (vI 8 579),kE P "count_free" 586 (vR 300),kE P "sets_from" 592 (vR 305),kE P "set_number" 598 (vR 310),kE P "lets_least" 607 (vR 317),kE P "refuse_too_many" 614 (vR 324),kE P "is_order_with_numbers" 620 (vR 329),kE P "step_fault" 632 (vR 336),kE P "all_sets" 638 (vR 341),kE P "left_places" 644 (vR 346),kE P "by_way_of" 654 (vR 353),kE P "_law_tape" 663 (vR 360),kE P "_law_draw" 675 (vR 367),kE P "_law_small" 682 (vR 374),kE P "_law_web" 688 (vR 379),kE P "_law_added" 696 (vR 386),kE P "_law_lesser" 704 (vR 393),kE P "_law_far" 710 (vR 398),kE P "_law_on" 721 (vR 405),kE P "_law_order" 732 (vR 412),kE P "_law_is_order" 738 (vR 417),kE P "_law_masks" 744 (vR 422),kE P "_law_brought" 750 (vR 427),kE P "_law_in_all" 761 (vR 434),kE P "_law_least" 767 (vR 439),kE P "_law_least_order" 773 (vR 444),kE P "_law_step_fault" 784 (vR 451),kE P "_law_least_fault" 790 (vR 456),kE P "_law_least_found" 801 (vR 463),kE P "_law_numbers_bent" 812 (vR 470),kE P "_law_right" 823 (vR 477),kE P "law" 829 (vR 482)] 70) #[]),
(23,oM (vT "dict") .none (Data.dict #[kE P "__module__" 196 (qS "labelways.errors" 187),kE P "__firstlineno__" 200 (vI 2 199),kE P "__static_attributes__" 201 (vR 22),kE P "__weakref__" 203 (vR 25),kE P "__doc__" 204 vN] 3) #[]),
(24,oM (vT "type") .none (Data.cls (ClassData.mk (sT "WayError") [vT "ValueError"] [vR 24,vT "ValueError",vT "Exception",vT "BaseException",vT "object"] 23 (sT "WayError") true [] [vR 44,vR 63,vR 82,vR 101,vR 113,vR 125,vR 137,vR 149,vR 161,vR 173,vR 185,vR 197] false .none false)) #[.some (vR 15),.none,.some (qS "WayError" 189),.some (qS "WayError" 197),.some (Value.builtin "ValueError.__new__"),.some (vB true)]),
(25,oM (vT "getset_descriptor") .none (Data.fields #[qS "__weakref__" 202,vR 24,Value.builtin "ExceptionGroup.__weakref__",vN]) #[]),
(40,cQ #[qS "__init__" 219,qS "NoLabels.__init__" 220,qC 221,vI 6 0,vI 3 0,vI 0 0,vI 0 0,vI 3 0,vR 35,vB true,vI 181 0,vR 36,vN,vR 37,vR 38,vR 39,vI 225 0,vI 6 0,qC 226]),
(41,fQ (.mk (sT "__init__") (sT "NoLabels.__init__") (Arguments.mk [] [Arg.mk (sT "self") .none (Pos.mk 6 17 6 21),Arg.mk (sT "word") .none (Pos.mk 6 23 6 27),Arg.mk (sT "at") .none (Pos.mk 6 29 6 31)] .none [] [] .none []) (FuncBody.stmts [Stmt.Assign [Expr.Attribute (Expr.Name (sT "self") (Pos.mk 7 8 7 12)) (sT "word") (Pos.mk 7 8 7 17)] (Expr.Name (sT "word") (Pos.mk 7 20 7 24)) (Pos.mk 7 8 7 24),Stmt.Assign [Expr.Attribute (Expr.Name (sT "self") (Pos.mk 8 8 8 12)) (sT "at") (Pos.mk 8 8 8 15)] (Expr.Name (sT "at") (Pos.mk 8 18 8 20)) (Pos.mk 8 8 8 20)]) (Scope.mk ScopeKind.function [(sT "self",NameKind.local),(sT "word",NameKind.local),(sT "at",NameKind.local)] false false []) 3 [] vN vN vN (qS "labelways.errors" 187) .none (vR 40) vN 0)),
(43,oM (vT "dict") .none (Data.dict #[kE P "__module__" 214 (qS "labelways.errors" 187),kE P "__firstlineno__" 218 (vI 4 217),kE P "__init__" 227 (vR 41),kE P "__static_attributes__" 230 (vR 42),kE P "__doc__" 231 vN] 2) #[]),
(44,oM (vT "type") .none (Data.cls (ClassData.mk (sT "NoLabels") [vR 24] [vR 44,vR 24,vT "ValueError",vT "Exception",vT "BaseException",vT "object"] 43 (sT "NoLabels") true [] [] false .none false)) #[.some (vR 28),.none,.some (qS "NoLabels" 207),.some (qS "NoLabels" 215),.some (Value.builtin "ValueError.__new__"),.some (vB true)]),
(59,cQ #[qS "__init__" 246,qS "NoLeast.__init__" 247,qC 248,vI 11 0,vI 3 0,vI 0 0,vI 0 0,vI 3 0,vR 54,vB true,vI 181 0,vR 55,vN,vR 56,vR 57,vR 58,vI 252 0,vI 11 0,qC 253]),
(60,fQ (.mk (sT "__init__") (sT "NoLeast.__init__") (L2.defArgs (mth 3 0)) (FuncBody.stmts (L2.defBody (mth 3 0))) (L2.defScope (mth 3 0)) 3 [] vN vN vN (qS "labelways.errors" 187) .none (vR 59) vN 0)),
(62,oM (vT "dict") .none (Data.dict #[kE P "__module__" 241 (qS "labelways.errors" 187),kE P "__firstlineno__" 245 (vI 9 244),kE P "__init__" 254 (vR 60),kE P "__static_attributes__" 257 (vR 61),kE P "__doc__" 258 vN] 2) #[]),
(63,oM (vT "type") .none (Data.cls (ClassData.mk (sT "NoLeast") [vR 24] [vR 63,vR 24,vT "ValueError",vT "Exception",vT "BaseException",vT "object"] 62 (sT "NoLeast") true [] [] false .none false)) #[.some (vR 47),.none,.some (qS "NoLeast" 234),.some (qS "NoLeast" 242),.some (Value.builtin "ValueError.__new__"),.some (vB true)]),
(78,cQ #[qS "__init__" 273,qS "NoPlan.__init__" 274,qC 275,vI 16 0,vI 3 0,vI 0 0,vI 0 0,vI 3 0,vR 73,vB true,vI 181 0,vR 74,vN,vR 75,vR 76,vR 77,vI 279 0,vI 16 0,qC 280]),
(79,fQ (.mk (sT "__init__") (sT "NoPlan.__init__") (Arguments.mk [] [Arg.mk (sT "self") .none (Pos.mk 16 17 16 21),Arg.mk (sT "word") .none (Pos.mk 16 23 16 27),Arg.mk (sT "at") .none (Pos.mk 16 29 16 31)] .none [] [] .none []) (FuncBody.stmts [Stmt.Assign [Expr.Attribute (Expr.Name (sT "self") (Pos.mk 17 8 17 12)) (sT "word") (Pos.mk 17 8 17 17)] (Expr.Name (sT "word") (Pos.mk 17 20 17 24)) (Pos.mk 17 8 17 24),Stmt.Assign [Expr.Attribute (Expr.Name (sT "self") (Pos.mk 18 8 18 12)) (sT "at") (Pos.mk 18 8 18 15)] (Expr.Name (sT "at") (Pos.mk 18 18 18 20)) (Pos.mk 18 8 18 20)]) (Scope.mk ScopeKind.function [(sT "self",NameKind.local),(sT "word",NameKind.local),(sT "at",NameKind.local)] false false []) 3 [] vN vN vN (qS "labelways.errors" 187) .none (vR 78) vN 0)),
(81,oM (vT "dict") .none (Data.dict #[kE P "__module__" 268 (qS "labelways.errors" 187),kE P "__firstlineno__" 272 (vI 14 271),kE P "__init__" 281 (vR 79),kE P "__static_attributes__" 284 (vR 80),kE P "__doc__" 285 vN] 2) #[]),
(82,oM (vT "type") .none (Data.cls (ClassData.mk (sT "NoPlan") [vR 24] [vR 82,vR 24,vT "ValueError",vT "Exception",vT "BaseException",vT "object"] 81 (sT "NoPlan") true [] [] false .none false)) #[.some (vR 66),.none,.some (qS "NoPlan" 261),.some (qS "NoPlan" 269),.some (Value.builtin "ValueError.__new__"),.some (vB true)]),
(97,cQ #[qS "__init__" 300,qS "NoText.__init__" 301,qC 302,vI 21 0,vI 3 0,vI 0 0,vI 0 0,vI 3 0,vR 92,vB true,vI 181 0,vR 93,vN,vR 94,vR 95,vR 96,vI 306 0,vI 21 0,qC 307]),
(98,fQ (.mk (sT "__init__") (sT "NoText.__init__") (Arguments.mk [] [Arg.mk (sT "self") .none (Pos.mk 21 17 21 21),Arg.mk (sT "line") .none (Pos.mk 21 23 21 27),Arg.mk (sT "word") .none (Pos.mk 21 29 21 33)] .none [] [] .none []) (FuncBody.stmts [Stmt.Assign [Expr.Attribute (Expr.Name (sT "self") (Pos.mk 22 8 22 12)) (sT "line") (Pos.mk 22 8 22 17)] (Expr.Name (sT "line") (Pos.mk 22 20 22 24)) (Pos.mk 22 8 22 24),Stmt.Assign [Expr.Attribute (Expr.Name (sT "self") (Pos.mk 23 8 23 12)) (sT "word") (Pos.mk 23 8 23 17)] (Expr.Name (sT "word") (Pos.mk 23 20 23 24)) (Pos.mk 23 8 23 24)]) (Scope.mk ScopeKind.function [(sT "self",NameKind.local),(sT "line",NameKind.local),(sT "word",NameKind.local)] false false []) 3 [] vN vN vN (qS "labelways.errors" 187) .none (vR 97) vN 0)),
(100,oM (vT "dict") .none (Data.dict #[kE P "__module__" 295 (qS "labelways.errors" 187),kE P "__firstlineno__" 299 (vI 19 298),kE P "__init__" 308 (vR 98),kE P "__static_attributes__" 311 (vR 99),kE P "__doc__" 312 vN] 2) #[]),
(101,oM (vT "type") .none (Data.cls (ClassData.mk (sT "NoText") [vR 24] [vR 101,vR 24,vT "ValueError",vT "Exception",vT "BaseException",vT "object"] 100 (sT "NoText") true [] [] false .none false)) #[.some (vR 85),.none,.some (qS "NoText" 288),.some (qS "NoText" 296),.some (Value.builtin "ValueError.__new__"),.some (vB true)]),
(112,oM (vT "dict") .none (Data.dict #[kE P "__module__" 322 (qS "labelways.errors" 187),kE P "__firstlineno__" 326 (vI 24 325),kE P "__static_attributes__" 327 (vR 111),kE P "__doc__" 328 vN] 2) #[]),
(113,oM (vT "type") .none (Data.cls (ClassData.mk (sT "NoOrder") [vR 24] [vR 113,vR 24,vT "ValueError",vT "Exception",vT "BaseException",vT "object"] 112 (sT "NoOrder") true [] [] false .none false)) #[.some (vR 104),.none,.some (qS "NoOrder" 315),.some (qS "NoOrder" 323),.some (Value.builtin "ValueError.__new__"),.some (vB true)]),
(124,oM (vT "dict") .none (Data.dict #[kE P "__module__" 338 (qS "labelways.errors" 187),kE P "__firstlineno__" 342 (vI 26 341),kE P "__static_attributes__" 343 (vR 123),kE P "__doc__" 344 vN] 2) #[]),
(125,oM (vT "type") .none (Data.cls (ClassData.mk (sT "NoTree") [vR 24] [vR 125,vR 24,vT "ValueError",vT "Exception",vT "BaseException",vT "object"] 124 (sT "NoTree") true [] [] false .none false)) #[.some (vR 116),.none,.some (qS "NoTree" 331),.some (qS "NoTree" 339),.some (Value.builtin "ValueError.__new__"),.some (vB true)]),
(136,oM (vT "dict") .none (Data.dict #[kE P "__module__" 354 (qS "labelways.errors" 187),kE P "__firstlineno__" 358 (vI 28 357),kE P "__static_attributes__" 359 (vR 135),kE P "__doc__" 360 vN] 2) #[]),
(137,oM (vT "type") .none (Data.cls (ClassData.mk (sT "NoRing") [vR 24] [vR 137,vR 24,vT "ValueError",vT "Exception",vT "BaseException",vT "object"] 136 (sT "NoRing") true [] [] false .none false)) #[.some (vR 128),.none,.some (qS "NoRing" 347),.some (qS "NoRing" 355),.some (Value.builtin "ValueError.__new__"),.some (vB true)]),
(148,oM (vT "dict") .none (Data.dict #[kE P "__module__" 370 (qS "labelways.errors" 187),kE P "__firstlineno__" 374 (vI 30 373),kE P "__static_attributes__" 375 (vR 147),kE P "__doc__" 376 vN] 2) #[]),
(149,oM (vT "type") .none (Data.cls (ClassData.mk (sT "NoPosts") [vR 24] [vR 149,vR 24,vT "ValueError",vT "Exception",vT "BaseException",vT "object"] 148 (sT "NoPosts") true [] [] false .none false)) #[.some (vR 140),.none,.some (qS "NoPosts" 363),.some (qS "NoPosts" 371),.some (Value.builtin "ValueError.__new__"),.some (vB true)]),
(160,oM (vT "dict") .none (Data.dict #[kE P "__module__" 386 (qS "labelways.errors" 187),kE P "__firstlineno__" 390 (vI 32 389),kE P "__static_attributes__" 391 (vR 159),kE P "__doc__" 392 vN] 2) #[]),
(161,oM (vT "type") .none (Data.cls (ClassData.mk (sT "NoTie") [vR 24] [vR 161,vR 24,vT "ValueError",vT "Exception",vT "BaseException",vT "object"] 160 (sT "NoTie") true [] [] false .none false)) #[.some (vR 152),.none,.some (qS "NoTie" 379),.some (qS "NoTie" 387),.some (Value.builtin "ValueError.__new__"),.some (vB true)]),
(172,oM (vT "dict") .none (Data.dict #[kE P "__module__" 402 (qS "labelways.errors" 187),kE P "__firstlineno__" 406 (vI 34 405),kE P "__static_attributes__" 407 (vR 171),kE P "__doc__" 408 vN] 2) #[]),
(173,oM (vT "type") .none (Data.cls (ClassData.mk (sT "NoPart") [vR 24] [vR 173,vR 24,vT "ValueError",vT "Exception",vT "BaseException",vT "object"] 172 (sT "NoPart") true [] [] false .none false)) #[.some (vR 164),.none,.some (qS "NoPart" 395),.some (qS "NoPart" 403),.some (Value.builtin "ValueError.__new__"),.some (vB true)]),
(184,oM (vT "dict") .none (Data.dict #[kE P "__module__" 418 (qS "labelways.errors" 187),kE P "__firstlineno__" 422 (vI 36 421),kE P "__static_attributes__" 423 (vR 183),kE P "__doc__" 424 vN] 2) #[]),
(185,oM (vT "type") .none (Data.cls (ClassData.mk (sT "NoRow") [vR 24] [vR 185,vR 24,vT "ValueError",vT "Exception",vT "BaseException",vT "object"] 184 (sT "NoRow") true [] [] false .none false)) #[.some (vR 176),.none,.some (qS "NoRow" 411),.some (qS "NoRow" 419),.some (Value.builtin "ValueError.__new__"),.some (vB true)]),
(196,oM (vT "dict") .none (Data.dict #[kE P "__module__" 434 (qS "labelways.errors" 187),kE P "__firstlineno__" 438 (vI 38 437),kE P "__static_attributes__" 439 (vR 195),kE P "__doc__" 440 vN] 2) #[]),
(197,oM (vT "type") .none (Data.cls (ClassData.mk (sT "TooMany") [vR 24] [vR 197,vR 24,vT "ValueError",vT "Exception",vT "BaseException",vT "object"] 196 (sT "TooMany") true [] [] false .none false)) #[.some (vR 188),.none,.some (qS "TooMany" 427),.some (qS "TooMany" 435),.some (Value.builtin "ValueError.__new__"),.some (vB true)]),
(205,cQ #[qS "is_number" 445,qS "is_number" 446,qC 447,vI 41 0,vI 1 0,vI 0 0,vI 0 0,vI 3 0,vR 200,vB true,vI 181 0,vR 201,vN,vR 202,vR 203,vR 204,vI 449 0,vI 41 0,qC 450]),
(206,fQ (.mk (sT "is_number") (sT "is_number") (L2.defArgs (top 15)) (FuncBody.stmts (L2.defBody (top 15))) (L2.defScope (top 15)) 3 [] vN vN vN (qS "labelways.kinds" 443) .none (vR 205) vN 0)),
(212,cQ #[qS "is_within" 452,qS "is_within" 453,qC 454,vI 43 0,vI 3 0,vI 0 0,vI 0 0,vI 3 0,vR 207,vB true,vI 181 0,vR 208,vN,vR 209,vR 210,vR 211,vI 458 0,vI 43 0,qC 459]),
(213,fQ (.mk (sT "is_within") (sT "is_within") (L2.defArgs (top 16)) (FuncBody.stmts (L2.defBody (top 16))) (L2.defScope (top 16)) 3 [] vN vN vN (qS "labelways.kinds" 443) .none (vR 212) vN 0)),
(219,cQ #[qS "is_tuple_of" 461,qS "is_tuple_of" 462,qC 463,vI 45 0,vI 2 0,vI 0 0,vI 0 0,vI 3 0,vR 214,vB true,vI 181 0,vR 215,vN,vR 216,vR 217,vR 218,vI 466 0,vI 45 0,qC 467]),
(220,fQ (.mk (sT "is_tuple_of") (sT "is_tuple_of") (L2.defArgs (top 17)) (FuncBody.stmts (L2.defBody (top 17))) (L2.defScope (top 17)) 3 [] vN vN vN (qS "labelways.kinds" 443) .none (vR 219) vN 0)),
(226,cQ #[qS "is_place" 469,qS "is_place" 470,qC 471,vI 47 0,vI 2 0,vI 0 0,vI 0 0,vI 3 0,vR 221,vB true,vI 181 0,vR 222,vN,vR 223,vR 224,vR 225,vI 474 0,vI 47 0,qC 475]),
(227,fQ (.mk (sT "is_place") (sT "is_place") (L2.defArgs (top 18)) (FuncBody.stmts (L2.defBody (top 18))) (L2.defScope (top 18)) 3 [] vN vN vN (qS "labelways.kinds" 443) .none (vR 226) vN 0)),
(233,cQ #[qS "ties_at" 479,qS "ties_at" 480,qC 481,vI 50 0,vI 2 0,vI 0 0,vI 0 0,vI 3 0,vR 228,vB true,vI 181 0,vR 229,vN,vR 230,vR 231,vR 232,vI 488 0,vI 50 0,qC 489]),
(234,fQ (.mk (sT "ties_at") (sT "ties_at") (L2.defArgs (top 20)) (FuncBody.stmts (L2.defBody (top 20))) (L2.defScope (top 20)) 3 [] vN vN vN (qS "labelways.webs" 477) .none (vR 233) vN 0)),
(238,cQ #[qS "lengths" 493,qS "lengths" 494,qC 495,vI 59 0,vI 1 0,vI 0 0,vI 0 0,vI 3 0,vR 235,vB true,vI 181 0,vR 236,vN,vN,vN,vR 237,vI 496 0,vI 59 0,qC 497]),
(239,fQ (.mk (sT "lengths") (sT "lengths") (L2.defArgs (top 22)) (FuncBody.stmts (L2.defBody (top 22))) (L2.defScope (top 22)) 3 [] vN vN vN (qS "labelways.lengths" 491) .none (vR 238) vN 0)),
(245,cQ #[qS "lengths_from" 499,qS "lengths_from" 500,qC 501,vI 61 0,vI 2 0,vI 0 0,vI 0 0,vI 3 0,vR 240,vB true,vI 181 0,vR 241,vN,vR 242,vR 243,vR 244,vI 510 0,vI 61 0,qC 511]),
(246,fQ (.mk (sT "lengths_from") (sT "lengths_from") (L2.defArgs (top 23)) (FuncBody.stmts (L2.defBody (top 23))) (L2.defScope (top 23)) 3 [] vN vN vN (qS "labelways.lengths" 491) .none (vR 245) vN 0)),
(252,cQ #[qS "nearest" 513,qS "nearest" 514,qC 515,vI 72 0,vI 1 0,vI 0 0,vI 0 0,vI 3 0,vR 247,vB true,vI 181 0,vR 248,vN,vR 249,vR 250,vR 251,vI 518 0,vI 72 0,qC 519]),
(253,fQ (.mk (sT "nearest") (sT "nearest") (L2.defArgs (top 24)) (FuncBody.stmts (L2.defBody (top 24))) (L2.defScope (top 24)) 3 [] vN vN vN (qS "labelways.lengths" 491) .none (vR 252) vN 0)),
(257,cQ #[qS "between_rows" 521,qS "between_rows" 522,qC 523,vI 74 0,vI 3 0,vI 0 0,vI 0 0,vI 3 0,vR 254,vB true,vI 181 0,vR 255,vN,vN,vN,vR 256,vI 524 0,vI 74 0,qC 525]),
(258,fQ (.mk (sT "between_rows") (sT "between_rows") (L2.defArgs (top 25)) (FuncBody.stmts (L2.defBody (top 25))) (L2.defScope (top 25)) 3 [] vN vN vN (qS "labelways.lengths" 491) .none (vR 257) vN 0)),
(262,cQ #[qS "next_by_row" 527,qS "next_by_row" 528,qC 529,vI 79 0,vI 3 0,vI 0 0,vI 0 0,vI 3 0,vR 259,vB true,vI 181 0,vR 260,vN,vN,vN,vR 261,vI 530 0,vI 79 0,qC 531]),
(263,fQ (.mk (sT "next_by_row") (sT "next_by_row") (L2.defArgs (top 26)) (FuncBody.stmts (L2.defBody (top 26))) (L2.defScope (top 26)) 3 [] vN vN vN (qS "labelways.lengths" 491) .none (vR 262) vN 0)),
(267,cQ #[qS "is_order" 535,qS "is_order" 536,qC 537,vI 84 0,vI 2 0,vI 0 0,vI 0 0,vI 3 0,vR 264,vB true,vI 181 0,vR 265,vN,vN,vN,vR 266,vI 538 0,vI 84 0,qC 539]),
(268,fQ (.mk (sT "is_order") (sT "is_order") (L2.defArgs (top 28)) (FuncBody.stmts (L2.defBody (top 28))) (L2.defScope (top 28)) 3 [] vN vN vN (qS "labelways.orders" 533) .none (vR 267) vN 0)),
(272,cQ #[qS "by_order" 541,qS "by_order" 542,qC 543,vI 89 0,vI 2 0,vI 0 0,vI 0 0,vI 3 0,vR 269,vB true,vI 181 0,vR 270,vN,vN,vN,vR 271,vI 544 0,vI 89 0,qC 545]),
(273,fQ (.mk (sT "by_order") (sT "by_order") (L2.defArgs (top 29)) (FuncBody.stmts (L2.defBody (top 29))) (L2.defScope (top 29)) 3 [] vN vN vN (qS "labelways.orders" 533) .none (vR 272) vN 0)),
(277,cQ #[qS "label_by_ranks" 547,qS "label_by_ranks" 548,qC 549,vI 95 0,vI 4 0,vI 0 0,vI 0 0,vI 3 0,vR 274,vB true,vI 181 0,vR 275,vN,vN,vN,vR 276,vI 550 0,vI 95 0,qC 551]),
(278,fQ (.mk (sT "label_by_ranks") (sT "label_by_ranks") (L2.defArgs (top 30)) (FuncBody.stmts (L2.defBody (top 30))) (L2.defScope (top 30)) 3 [] vN vN vN (qS "labelways.orders" 533) .none (vR 277) vN 0)),
(282,cQ #[qS "is_hub" 553,qS "is_hub" 554,qC 555,vI 98 0,vI 4 0,vI 0 0,vI 0 0,vI 3 0,vR 279,vB true,vI 181 0,vR 280,vN,vN,vN,vR 281,vI 556 0,vI 98 0,qC 557]),
(283,fQ (.mk (sT "is_hub") (sT "is_hub") (L2.defArgs (top 31)) (FuncBody.stmts (L2.defBody (top 31))) (L2.defScope (top 31)) 3 [] vN vN vN (qS "labelways.orders" 533) .none (vR 282) vN 0)),
(289,cQ #[qS "entry_by_rows" 559,qS "entry_by_rows" 560,qC 561,vI 102 0,vI 4 0,vI 0 0,vI 0 0,vI 3 0,vR 284,vB true,vI 181 0,vR 285,vN,vR 286,vR 287,vR 288,vI 568 0,vI 102 0,qC 569]),
(290,fQ (.mk (sT "entry_by_rows") (sT "entry_by_rows") (L2.defArgs (top 32)) (FuncBody.stmts (L2.defBody (top 32))) (L2.defScope (top 32)) 3 [] vN vN vN (qS "labelways.orders" 533) .none (vR 289) vN 0)),
(294,cQ #[qS "total" 571,qS "total" 572,qC 573,vI 106 0,vI 1 0,vI 0 0,vI 0 0,vI 3 0,vR 291,vB true,vI 181 0,vR 292,vN,vN,vN,vR 293,vI 574 0,vI 106 0,qC 575]),
(295,fQ (.mk (sT "total") (sT "total") (L2.defArgs (top 33)) (FuncBody.stmts (L2.defBody (top 33))) (L2.defScope (top 33)) 3 [] vN vN vN (qS "labelways.orders" 533) .none (vR 294) vN 0)),
(299,cQ #[qS "count_free" 581,qS "count_free" 582,qC 583,vI 110 0,vI 2 0,vI 0 0,vI 0 0,vI 3 0,vR 296,vB true,vI 181 0,vR 297,vN,vN,vN,vR 298,vI 584 0,vI 110 0,qC 585]),
(300,fQ (.mk (sT "count_free") (sT "count_free") (L2.defArgs (top 36)) (FuncBody.stmts (L2.defBody (top 36))) (L2.defScope (top 36)) 3 [] vN vN vN (qS "labelways.leasts" 577) .none (vR 299) vN 0)),
(304,cQ #[qS "sets_from" 587,qS "sets_from" 588,qC 589,vI 112 0,vI 2 0,vI 0 0,vI 0 0,vI 3 0,vR 301,vB true,vI 181 0,vR 302,vN,vN,vN,vR 303,vI 590 0,vI 112 0,qC 591]),
(305,fQ (.mk (sT "sets_from") (sT "sets_from") (L2.defArgs (top 37)) (FuncBody.stmts (L2.defBody (top 37))) (L2.defScope (top 37)) 3 [] vN vN vN (qS "labelways.leasts" 577) .none (vR 304) vN 0)),
(309,cQ #[qS "set_number" 593,qS "set_number" 594,qC 595,vI 114 0,vI 1 0,vI 0 0,vI 0 0,vI 3 0,vR 306,vB true,vI 181 0,vR 307,vN,vN,vN,vR 308,vI 596 0,vI 114 0,qC 597]),
(310,fQ (.mk (sT "set_number") (sT "set_number") (L2.defArgs (top 38)) (FuncBody.stmts (L2.defBody (top 38))) (L2.defScope (top 38)) 3 [] vN vN vN (qS "labelways.leasts" 577) .none (vR 309) vN 0)),
(316,cQ #[qS "lets_least" 599,qS "lets_least" 600,qC 601,vI 116 0,vI 2 0,vI 0 0,vI 0 0,vI 3 0,vR 311,vB true,vI 181 0,vR 312,vN,vR 313,vR 314,vR 315,vI 605 0,vI 116 0,qC 606]),
(317,fQ (.mk (sT "lets_least") (sT "lets_least") (L2.defArgs (top 39)) (FuncBody.stmts (L2.defBody (top 39))) (L2.defScope (top 39)) 3 [] vN vN vN (qS "labelways.leasts" 577) .none (vR 316) vN 0)),
(323,cQ #[qS "refuse_too_many" 608,qS "refuse_too_many" 609,qC 610,vI 128 0,vI 1 0,vI 0 0,vI 0 0,vI 3 0,vR 318,vB true,vI 181 0,vR 319,vN,vR 320,vR 321,vR 322,vI 612 0,vI 128 0,qC 613]),
(324,fQ (.mk (sT "refuse_too_many") (sT "refuse_too_many") (L2.defArgs (top 40)) (FuncBody.stmts (L2.defBody (top 40))) (L2.defScope (top 40)) 3 [] vN vN vN (qS "labelways.leasts" 577) .none (vR 323) vN 0)),
(328,cQ #[qS "is_order_with_numbers" 615,qS "is_order_with_numbers" 616,qC 617,vI 131 0,vI 2 0,vI 0 0,vI 0 0,vI 3 0,vR 325,vB true,vI 181 0,vR 326,vN,vN,vN,vR 327,vI 618 0,vI 131 0,qC 619]),
(329,fQ (.mk (sT "is_order_with_numbers") (sT "is_order_with_numbers") (L2.defArgs (top 41)) (FuncBody.stmts (L2.defBody (top 41))) (L2.defScope (top 41)) 3 [] vN vN vN (qS "labelways.leasts" 577) .none (vR 328) vN 0)),
(335,cQ #[qS "step_fault" 621,qS "step_fault" 622,qC 623,vI 135 0,vI 2 0,vI 0 0,vI 0 0,vI 3 0,vR 330,vB true,vI 181 0,vR 331,vN,vR 332,vR 333,vR 334,vI 630 0,vI 135 0,qC 631]),
(336,fQ (.mk (sT "step_fault") (sT "step_fault") (L2.defArgs (top 42)) (FuncBody.stmts (L2.defBody (top 42))) (L2.defScope (top 42)) 3 [] vN vN vN (qS "labelways.leasts" 577) .none (vR 335) vN 0)),
(340,cQ #[qS "all_sets" 633,qS "all_sets" 634,qC 635,vI 142 0,vI 1 0,vI 0 0,vI 0 0,vI 3 0,vR 337,vB true,vI 181 0,vR 338,vN,vN,vN,vR 339,vI 636 0,vI 142 0,qC 637]),
(341,fQ (.mk (sT "all_sets") (sT "all_sets") (L2.defArgs (top 43)) (FuncBody.stmts (L2.defBody (top 43))) (L2.defScope (top 43)) 3 [] vN vN vN (qS "labelways.leasts" 577) .none (vR 340) vN 0)),
(345,cQ #[qS "left_places" 639,qS "left_places" 640,qC 641,vI 145 0,vI 2 0,vI 0 0,vI 0 0,vI 3 0,vR 342,vB true,vI 181 0,vR 343,vN,vN,vN,vR 344,vI 642 0,vI 145 0,qC 643]),
(346,fQ (.mk (sT "left_places") (sT "left_places") (L2.defArgs (top 44)) (FuncBody.stmts (L2.defBody (top 44))) (L2.defScope (top 44)) 3 [] vN vN vN (qS "labelways.leasts" 577) .none (vR 345) vN 0)),
(352,cQ #[qS "by_way_of" 645,qS "by_way_of" 646,qC 647,vI 147 0,vI 4 0,vI 0 0,vI 0 0,vI 3 0,vR 347,vB true,vI 181 0,vR 348,vN,vR 349,vR 350,vR 351,vI 652 0,vI 147 0,qC 653]),
(353,fQ (.mk (sT "by_way_of") (sT "by_way_of") (L2.defArgs (top 45)) (FuncBody.stmts (L2.defBody (top 45))) (L2.defScope (top 45)) 3 [] vN vN vN (qS "labelways.leasts" 577) .none (vR 352) vN 0)),
(359,cQ #[qS "_law_tape" 657,qS "_law_tape" 658,qC 659,vI 150 0,vI 1 0,vI 0 0,vI 0 0,vI 3 0,vR 354,vB true,vI 181 0,vR 355,vN,vR 356,vR 357,vR 358,vI 661 0,vI 150 0,qC 662]),
(360,fT "_law_tape" 47 qL 359),
(366,cQ #[qS "_law_draw" 664,qS "_law_draw" 665,qC 666,vI 152 0,vI 2 0,vI 0 0,vI 0 0,vI 3 0,vR 361,vB true,vI 181 0,vR 362,vN,vR 363,vR 364,vR 365,vI 673 0,vI 152 0,qC 674]),
(367,fT "_law_draw" 48 qL 366),
(373,cQ #[qS "_law_small" 676,qS "_law_small" 677,qC 678,vI 165 0,vI 1 0,vI 0 0,vI 0 0,vI 3 0,vR 368,vB true,vI 181 0,vR 369,vN,vR 370,vR 371,vR 372,vI 680 0,vI 165 0,qC 681]),
(374,fT "_law_small" 49 qL 373),
(378,cQ #[qS "_law_web" 683,qS "_law_web" 684,qC 685,vI 167 0,vI 2 0,vI 0 0,vI 0 0,vI 3 0,vR 375,vB true,vI 181 0,vR 376,vN,vN,vN,vR 377,vI 686 0,vI 167 0,qC 687]),
(379,fT "_law_web" 50 qL 378),
(385,cQ #[qS "_law_added" 689,qS "_law_added" 690,qC 691,vI 179 0,vI 2 0,vI 0 0,vI 0 0,vI 3 0,vR 380,vB true,vI 181 0,vR 381,vN,vR 382,vR 383,vR 384,vI 694 0,vI 179 0,qC 695]),
(386,fT "_law_added" 51 qL 385),
(392,cQ #[qS "_law_lesser" 697,qS "_law_lesser" 698,qC 699,vI 181 0,vI 2 0,vI 0 0,vI 0 0,vI 3 0,vR 387,vB true,vI 181 0,vR 388,vN,vR 389,vR 390,vR 391,vI 702 0,vI 181 0,qC 703]),
(393,fT "_law_lesser" 52 qL 392),
(397,cQ #[qS "_law_far" 705,qS "_law_far" 706,qC 707,vI 185 0,vI 1 0,vI 0 0,vI 0 0,vI 3 0,vR 394,vB true,vI 181 0,vR 395,vN,vN,vN,vR 396,vI 708 0,vI 185 0,qC 709]),
(398,fT "_law_far" 53 qL 397),
(404,cQ #[qS "_law_on" 711,qS "_law_on" 712,qC 713,vI 197 0,vI 4 0,vI 0 0,vI 0 0,vI 3 0,vR 399,vB true,vI 181 0,vR 400,vN,vR 401,vR 402,vR 403,vI 719 0,vI 197 0,qC 720]),
(405,fT "_law_on" 54 qL 404),
(411,cQ #[qS "_law_order" 722,qS "_law_order" 723,qC 724,vI 200 0,vI 2 0,vI 0 0,vI 0 0,vI 3 0,vR 406,vB true,vI 181 0,vR 407,vN,vR 408,vR 409,vR 410,vI 730 0,vI 200 0,qC 731]),
(412,fT "_law_order" 55 qL 411),
(416,cQ #[qS "_law_is_order" 733,qS "_law_is_order" 734,qC 735,vI 206 0,vI 2 0,vI 0 0,vI 0 0,vI 3 0,vR 413,vB true,vI 181 0,vR 414,vN,vN,vN,vR 415,vI 736 0,vI 206 0,qC 737]),
(417,fT "_law_is_order" 56 qL 416),
(421,cQ #[qS "_law_masks" 739,qS "_law_masks" 740,qC 741,vI 212 0,vI 1 0,vI 0 0,vI 0 0,vI 3 0,vR 418,vB true,vI 181 0,vR 419,vN,vN,vN,vR 420,vI 742 0,vI 212 0,qC 743]),
(422,fT "_law_masks" 57 qL 421),
(426,cQ #[qS "_law_brought" 745,qS "_law_brought" 746,qC 747,vI 221 0,vI 3 0,vI 0 0,vI 0 0,vI 3 0,vR 423,vB true,vI 181 0,vR 424,vN,vN,vN,vR 425,vI 748 0,vI 221 0,qC 749]),
(427,fT "_law_brought" 58 qL 426),
(433,cQ #[qS "_law_in_all" 751,qS "_law_in_all" 752,qC 753,vI 223 0,vI 2 0,vI 0 0,vI 0 0,vI 3 0,vR 428,vB true,vI 181 0,vR 429,vN,vR 430,vR 431,vR 432,vI 759 0,vI 223 0,qC 760]),
(434,fT "_law_in_all" 59 qL 433),
(438,cQ #[qS "_law_least" 762,qS "_law_least" 763,qC 764,vI 230 0,vI 1 0,vI 0 0,vI 0 0,vI 3 0,vR 435,vB true,vI 181 0,vR 436,vN,vN,vN,vR 437,vI 765 0,vI 230 0,qC 766]),
(439,fT "_law_least" 60 qL 438),
(443,cQ #[qS "_law_least_order" 768,qS "_law_least_order" 769,qC 770,vI 237 0,vI 3 0,vI 0 0,vI 0 0,vI 3 0,vR 440,vB true,vI 181 0,vR 441,vN,vN,vN,vR 442,vI 771 0,vI 237 0,qC 772]),
(444,fT "_law_least_order" 61 qL 443),
(450,cQ #[qS "_law_step_fault" 774,qS "_law_step_fault" 775,qC 776,vI 246 0,vI 2 0,vI 0 0,vI 0 0,vI 3 0,vR 445,vB true,vI 181 0,vR 446,vN,vR 447,vR 448,vR 449,vI 782 0,vI 246 0,qC 783]),
(451,fT "_law_step_fault" 62 qL 450),
(455,cQ #[qS "_law_least_fault" 785,qS "_law_least_fault" 786,qC 787,vI 254 0,vI 2 0,vI 0 0,vI 0 0,vI 3 0,vR 452,vB true,vI 181 0,vR 453,vN,vN,vN,vR 454,vI 788 0,vI 254 0,qC 789]),
(456,fT "_law_least_fault" 63 qL 455),
(462,cQ #[qS "_law_least_found" 791,qS "_law_least_found" 792,qC 793,vI 269 0,vI 2 0,vI 0 0,vI 0 0,vI 3 0,vR 457,vB true,vI 181 0,vR 458,vN,vR 459,vR 460,vR 461,vI 799 0,vI 269 0,qC 800]),
(463,fT "_law_least_found" 64 qL 462),
(469,cQ #[qS "_law_numbers_bent" 802,qS "_law_numbers_bent" 803,qC 804,vI 281 0,vI 2 0,vI 0 0,vI 0 0,vI 3 0,vR 464,vB true,vI 181 0,vR 465,vN,vR 466,vR 467,vR 468,vI 810 0,vI 281 0,qC 811]),
(470,fT "_law_numbers_bent" 65 qL 469),
(476,cQ #[qS "_law_right" 813,qS "_law_right" 814,qC 815,vI 298 0,vI 3 0,vI 0 0,vI 0 0,vI 3 0,vR 471,vB true,vI 181 0,vR 472,vN,vR 473,vR 474,vR 475,vI 821 0,vI 298 0,qC 822]),
(477,fT "_law_right" 66 qL 476),
(481,cQ #[qS "law" 824,qS "law" 825,qC 826,vI 304 0,vI 1 0,vI 0 0,vI 0 0,vI 3 0,vR 478,vB true,vI 181 0,vR 479,vN,vN,vN,vR 480,vI 827 0,vI 304 0,qC 828]),
(482,fT "law" 67 qL 481)]
noncomputable def Ka:List Addr:=[2,3,23,24,25,40,41,43,44,59,60,62,63,78,79,81,82,97,98,100,101,112,113,124,125,136,137,148,149,160,161,172,173,184,185,196,197,205,206,212,213,219,220,226,227,233,234,238,239,245,246,252,253,257,258,262,263,267,268,272,273,277,278,282,283,289,290,294,295,299,300,304,305,309,310,316,317,323,324,328,329,335,336,340,341,345,346,352,353,359,360,366,367,373,374,378,379,385,386,392,393,397,398,404,405,411,412,416,417,421,422,426,427,433,434,438,439,443,444,450,451,455,456,462,463,469,470,476,477,481,482]
noncomputable abbrev pw:Program:=PySem.Challenge.pw_labelways_k35_least_orders_judged
noncomputable def Vp:Program:={ pw with main:={ pw.main with body:=[top 1,top 2,top 3,top 4,top 5,top 6,top 7,top 8,top 9,top 10,top 11,top 12,top 13,top 15,top 16,top 17,top 18,top 20,top 22,top 23,top 24,top 25,top 26,top 28,top 29,top 30,top 31,top 32,top 33,top 35,top 36,top 37,top 38,top 39,top 40,top 41,top 42,top 43,top 44,top 45,top 47,top 48,top 49,top 50,top 51,top 52,top 53,top 54,top 55,top 56,top 57,top 58,top 59,top 60,top 61,top 62,top 63,top 64,top 65,top 66,top 67] } }
noncomputable abbrev RR:PySem.W.RowW:=PySem.W.OpenRow.toRowW (PySem.Challenge.rw_labelways_k35_least_orders_judged).row
theorem Ke:∀P,Ka=(Kf P).map (·.1):=fun P=>by kernel_rfl
noncomputable abbrev HK:PySem.W.Hook:=PySem.W.kHook Kf Ka Ke
theorem left:PySem.W.LeftO pw Vp [] (fun s=>PySem.W.xlAt Vp [] s && PySem.W.recOk (PySem.W.RowW.records RR) s) (PySem.W.Hook.obs HK) (PySem.W.Hook.val HK) 8748:=L2.left_of (by kernel_rfl) (by decide) (fun _=>rfl) fun w os=>by kernel_rfl
end K35
noncomputable abbrev vSP:=PySem.Value->PySem.Shared->Prop
noncomputable abbrev lPO:=List (PySem.Addr×PySem.Obj)
noncomputable abbrev lLO:=List (List (Option Int))
noncomputable abbrev sOV:=PySem.Str->Option PySem.Value
namespace L2
open PySem PySem.Spec PyProof.Rows
noncomputable abbrev Key:=Sum Int Str
noncomputable def zH7:Key->Value->Bool
 | .inl k,v=>Value.isInt k v
 | .inr x,v=>Value.isStrOf x v
noncomputable def keyH (w:World):Key->Int
 | .inl k=>hashInt k
 | .inr x=>hashStr w x
theorem zBV:∀{k:Key}{v:Value},zH7 k v=true->(∃i t,k=Sum.inl i/\v=Value.int i t)\/(∃x t,k=Sum.inr x/\v=Value.str x t)
 | .inl i,v,h=>by
  obtain⟨t,e⟩:=Value.isInt_shape (k:=i) (v:=v) h
  exact .inl ⟨i,t,rfl,e⟩
 | .inr x,v,h=>by
  obtain⟨t,e⟩:=Value.isStrOf_shape (x:=x) (v:=v) h
  exact .inr ⟨x,t,rfl,e⟩
theorem zJM (i:Int)(t:Tok):zH7 (.inl i) (.int i t)=true:=by simp[zH7,Value.isInt]
theorem zJL (x:Str)(t:Tok):zH7 (.inr x) (.str x t)=true:=by simp[zH7,Value.isStrOf]
theorem key_ll (a b:Int):decide ((Sum.inl a:Key)=Sum.inl b)=(a==b):=by
 by_cases e:a=b
 . subst e;simp
 . have h:¬ (Sum.inl a:Key)=Sum.inl b:=fun q=>e (Sum.inl.inj q)
   rw[zb h]
   exact (beq_eq_false_iff_ne.mpr e).symm
theorem key_rr (a b:Str):decide ((Sum.inr a:Key)=Sum.inr b)=decide (a=b):=by
 by_cases e:a=b
 . subst e;simp
 . have h:¬ (Sum.inr a:Key)=Sum.inr b:=fun q=>e (Sum.inr.inj q)
   rw[zb h,zb e]
theorem key_lr (a:Int)(b:Str):decide ((Sum.inl a:Key)=Sum.inr b)=false:=zb (fun q=>nomatch q)
theorem key_rl (a:Str)(b:Int):decide ((Sum.inr a:Key)=Sum.inl b)=false:=zb (fun q=>nomatch q)
noncomputable def zA9 (prog:Program)(w:World):PySem.KeyKind prog w Key where
 is:=zH7
 hash:=keyH w
 inj:=fun v a b ha hb=>by
  rcases zBV ha with ⟨i,t,rfl,rfl⟩ | ⟨x,t,rfl,rfl⟩
  . rcases zBV hb with ⟨j,u,rfl,e⟩ | ⟨y,u,rfl,e⟩
    . injection e with e1 _;rw[e1]
    . exact nomatch e
  . rcases zBV hb with ⟨j,u,rfl,e⟩ | ⟨y,u,rfl,e⟩
    . exact nomatch e
    . injection e with e1 _;rw[e1]
 byValue:=fun k v h=>by
  rcases zBV h with ⟨i,t,rfl,rfl⟩ | ⟨x,t,rfl,rfl⟩ <;> rfl
 pyHash:=fun hv h=>by
  rcases zBV hv with ⟨i,t,rfl,rfl⟩ | ⟨x,t,rfl,rfl⟩
  . exact wpAny_pyHash_int h
  . exact wpAny_pyHash_str h
 eqBool:=fun hu hv h=>by
  rcases zBV hu with ⟨i,t,rfl,rfl⟩ | ⟨x,t,rfl,rfl⟩
  . rcases zBV hv with ⟨j,u,rfl,rfl⟩ | ⟨y,u,rfl,rfl⟩
    . rw[key_ll] at h;exact wpAny_eqBool_int h
    . rw[key_lr] at h;exact SeqAt.EqAt.int_str i t y u _ _ _ _ h
  . rcases zBV hv with ⟨j,u,rfl,rfl⟩ | ⟨y,u,rfl,rfl⟩
    . rw[key_rl] at h;exact SeqAt.EqAt.str_int x t j u _ _ _ _ h
    . rw[key_rr] at h;exact wpAny_eqBool_str h
 «strs» := fun k x t v h=>by
  rcases zBV h with ⟨i,u,rfl,e⟩ | ⟨y,u,rfl,e⟩
  . exact nomatch e
  . injection e with e1 _
    subst e1
    cases v <;> rfl
theorem zGp (prog:Program)(w:World)(i:Int)(t:Tok):(zA9 prog w).is (.inl i) (.int i t)=true:=zJM i t
theorem zGo (prog:Program)(w:World)(x:Str)(t:Tok):(zA9 prog w).is (.inr x) (.str x t)=true:=zJL x t
inductive V where
 | non | bl (b:Bool) | int (i:Int) | str (x:Str) | byt (b:Array UInt8) | flt (b:UInt64) | ref (a:Addr) | ty (n:String)
 deriving DecidableEq
noncomputable def zBk:V->Value->Prop
 | .non,u=>u=Value.none
 | .bl b,u=>u=Value.bool b
 | .int i,u=>∃t,u=Value.int i t
 | .str x,u=>∃t,u=Value.str x t
 | .byt b,u=>∃t,u=Value.bytes b t
 | .flt b,u=>∃t,u=Value.float b t
 | .ref a,u=>u=Value.ref a
 | .ty n,u=>u=Value.type n
noncomputable abbrev zBO:List V->List Value->Prop:=Paired zBk
variable {us:List Value}
theorem zBO.length {xs:List V}(r:zBO xs us):xs.length=us.length:=Paired.length r
theorem zBO.get:∀{xs:List V}{us:List Value}{i:Nat}{x:V},zBO xs us->xs[i]? = some x->∃u,us[i]? = some u/\zBk x u
 | _,_,_,_,.nil,e=>by simp at e
 | _,_,0,_,.cons r _,e=>by simp at e;subst e;exact⟨_,rfl,r⟩
 | _,_,i+1,x,.cons _ t,e=>by
  obtain⟨u,h1,h2⟩:=zBO.get (i:=i) (x:=x) t (by simpa using e)
  exact⟨u,by simpa using h1,h2⟩
theorem zBO.set {x:V}{u:Value}(r:zBk x u):∀{xs:List V}{us:List Value}(i:Nat),zBO xs us->zBO (xs.set i x) (us.set i u)
 | _,_,_,.nil=>.nil
 | _,_,0,.cons _ t=>.cons r t
 | _,_,i+1,.cons q t=>.cons q (zBO.set r i t)
theorem zBO.append:∀{xs ys:List V}{us ws:List Value},zBO xs us->zBO ys ws->zBO (xs++ys) (us++ws)
 | _,_,_,_,.nil,s=>s
 | _,_,_,_,.cons r t,s=>.cons r (zBO.append t s)
theorem zBO.take:∀{xs:List V}{us:List Value}(n:Nat),zBO xs us->zBO (xs.take n) (us.take n)
 | _,_,0,_=>.nil
 | _,_,_+1,.nil=>.nil
 | _,_,n+1,.cons r t=>.cons r (zBO.take n t)
theorem zBO.drop:∀{xs:List V}{us:List Value}(n:Nat),zBO xs us->zBO (xs.drop n) (us.drop n)
 | _,_,0,r=>r
 | _,_,_+1,.nil=>.nil
 | _,_,n+1,.cons _ t=>zBO.drop n t
noncomputable def zE5:Option V->Option Value->Prop
 | some v,some u=>zBk v u
 | none,none=>True
 | _,_=>False
noncomputable def KV {κ:Type}:List (κ×V)->List (κ×Value)->Prop:=Paired fun (p:κ×V)(q:κ×Value)=>p.1=q.1/\zBk p.2 q.2
noncomputable def kV:Key->V
 | .inl i=>.int i
 | .inr x=>.str x
inductive HO where
 /-- a list -/
 | lst (xs:List V)
 /-- a tuple (never changes) -/
 | tup (xs:List V)
 /-- a dict whose keys are ints and texts;one whose keys are tuples of ints and texts (the empty one is both) -/
 | dK (kvs:List (Key×V)) | dT (kvs:List (List Key×V))
 /-- a set of ints: its members,its size -/
 | set (S:Int->Bool)(n:Nat)
 /-- an instance of the class at C,its dict at dx,its attributes -/
 | ins (C dx:Addr)(fs:List (Str×V))
 /-- the dict of the instance at x -/
 | own (x:Addr)
 /-- the dict of an exception -/
 | xd (fs:List (Str×V))
 /-- a bound method,f of x -/
 | met (f x:Addr)
 /-- a range object lo,lo+1,.. below hi -/
 | rng (lo hi:Int)
 /-- a thing that is known to the object (the script;a dict while a loop walks it): read,never written while it is so -/
 | frz (o:Obj)(u:HO)
 /-- a code object's table -/
 | tbl (ps:Array Value)
 /-- any other thing,by what is true of its one object (a def of one's own: SetO a S n:=HO.ext fun h=>..) -/
 | ext (φ:Heap->Prop)
noncomputable abbrev Hp:=Addr->Option HO
noncomputable def upd (H:Hp)(a:Addr)(o:HO):Hp:=fun b=>if b=a then some o else H b
variable {H:Hp}{a:Addr}
theorem zG {o:HO}:upd H a o a=some o:=by unfold upd;rw[if_pos rfl]
variable {b:Addr}
theorem zf {o:HO}(h:b≠a):upd H a o b=H b:=by unfold upd;rw[if_neg h]
theorem zBZ {o u:HO}:upd (upd H a o) a u=upd H a u:=by
 funext b;unfold upd;split <;> rfl
theorem zBv {o u:HO}(h:H a=some o)(h':H b=some u)(d:o≠u):a≠b:=by
 intro e;subst e;rw[h] at h';exact d (zU h')
theorem zq {o:HO}(h:H a=some o)(h':H b=none):a≠b:=by
 intro e;subst e;rw[h] at h';cases h'
section
variable (P:Program)(w:World)
noncomputable def zBP (H:Hp)(h:Heap)(a:Addr):HO->Prop
 | .lst xs=>xs.length<=sizeLine/\∃(its:List Value)(n:Nat),zBO xs its/\h.get? a=some { cls:=.type "list",data:=.seq its.toArray n }
 | .tup xs=>(xs.length<=sizeLine/\∃o,h.get? a=some o/\o.dict=none)/\∃its:List Value,zBO xs its/\IsTup h a its.toArray
 | .dK kvs=>kvs.length<=sizeLine/\(a==sysModules)=false/\∃vs,KV kvs vs/\h.DictOf (zA9 P w) a vs
 | .dT kvs=>kvs.length<=sizeLine/\(a==sysModules)=false/\∃xs:List (List Key×Addr×Value),
  Paired (fun (p:List Key×V)(q:List Key×Addr×Value)=>p.1=q.1/\H q.2.1=some (.tup (p.1.map kV))/\zBk p.2 q.2.2) kvs xs /\
  ∃o es ep,h.get? a=some o/\o.ExactDict/\o.data = .dict es ep/\es.toList=xs.map (entryOfKey (tupleKind (zA9 P w)))/\(xs.map (·.1)).Nodup
 | .set S n=>h.SetOf (intKind P w) a S n
 | .ins C dx fs=>H dx=some (.own a)/\fs.length<=1000/\dx≠a/\h.get? a=some (PySem.W.instObj C dx) /\
  ∃mA,h.Ns1 dx mA/\(∀f,zE5 (fs.lookup f) (mA f))/\PySem.Within mA (fs.map (·.1))
 | .own _=>∃o,h.get? a=some o
 | .xd fs=>∃mA,h.Ns1 a mA/\∀f,zE5 (fs.lookup f) (mA f)
 | .rng lo hi=>∃t u v,h.get? a=some { cls:=.type "range",data:=.fields #[.int lo t,.int hi u,.int 1 v] }
 | .frz o u=>h.get? a=some o/\zBP H h a u
 | .tbl ps=>h.get? a=some { cls:=.none,data:=.fields ps }
 | .met f x=>h.get? a=some (PySem.W.methodObj (.ref f) (.ref x))
 | .ext φ=>φ h/\(∃o,h.get? a=some o)/\∀h1 h2:Heap,φ h1->(∀o,h1.get? a=some o->h2.get? a=some o)->φ h2
noncomputable def HOk (H:Hp)(h:Heap):Prop:=∀a o,H a=some o->zBP P w H h a o
end
section
variable {P:Program}{w:World}{H H':Hp}{h h':Heap}{a:Addr}{o:HO}
theorem zBP.lt (x:zBP P w H h a o):a<h.objs.size:=by
 cases o with
 | lst xs=>obtain⟨_,_,_,_,e⟩:=x;exact zR e
 | tup xs=>obtain⟨_,_,_,p⟩:=x;exact p.lt
 | dK kvs=>obtain⟨_,_,_,_,o,_,_,e,_⟩:=x;exact zR e
 | dT kvs=>obtain⟨_,_,_,_,o,_,_,e,_⟩:=x;exact zR e
 | set S n=>obtain⟨o,_,_,_,e,_⟩:=x;exact zR e
 | ins C dx fs=>obtain⟨_,_,_,e,_⟩:=x;exact zR e
 | own y=>obtain⟨_,e⟩:=x;exact zR e
 | xd fs=>obtain⟨_,⟨_,_,_,e,_⟩,_⟩:=x;exact zR e
 | rng lo hi=>obtain⟨_,_,_,e⟩:=x;exact zR e
 | frz ob u=>obtain⟨e,_⟩:=x;exact zR e
 | tbl ps=>exact zR (show h.get? a=some _ from x)
 | met f y=>exact zR (show h.get? a=some _ from x)
 | ext φ=>obtain⟨_,⟨_,e⟩,_⟩:=x;exact zR e
theorem Paired.mapP {α β:Type}{F G:α->β->Prop}:∀{l₁:List α}{l₂:List β},Paired F l₁ l₂->(∀a b,F a b->G a b)->Paired G l₁ l₂
 | _,_,.nil,_=>.nil
 | _,_,.cons r t,f=>.cons (f _ _ r) (Paired.mapP t f)
theorem zBP.stay (x:zBP P w H h a o)(k:∀b u,(b=a\/H b=some (.own a))->h.get? b=some u->h'.get? b=some u)
 (ho:∀b,H b=some (.own a)->H' b=some (.own a))(ht:∀b xs,H b=some (.tup xs)->H' b=some (.tup xs)):zBP P w H' h' a o:=by
 induction o with
 | lst xs=>obtain⟨z,its,n,r,e⟩:=x;exact⟨z,its,n,r,k _ _ (.inl rfl) e⟩
 | tup xs=>obtain⟨⟨z,o2,e2,d2⟩,its,r,ob,e,c⟩:=x;exact⟨⟨z,o2,k _ _ (.inl rfl) e2,d2⟩,its,r,ob,k _ _ (.inl rfl) e,c⟩
 | dK kvs=>obtain⟨z,y,vs,r,ob,es,ep,e,c⟩:=x;exact⟨z,y,vs,r,ob,es,ep,k _ _ (.inl rfl) e,c⟩
 | dT kvs=>
  obtain⟨z,y,xs,r,ob,es,ep,e,c⟩:=x
  exact⟨z,y,xs,Paired.mapP r fun p q z=>⟨z.1,ht _ _ z.2.1,z.2.2⟩,ob,es,ep,k _ _ (.inl rfl) e,c⟩
 | set S n=>obtain⟨ob,es,ep,t,e,c⟩:=x;exact⟨ob,es,ep,t,k _ _ (.inl rfl) e,c⟩
 | ins C dx fs=>
  obtain⟨d,z,ne,e,mA,⟨od,es,ep,e2,c⟩,r⟩:=x
  exact⟨ho _ d,z,ne,k _ _ (.inl rfl) e,mA,⟨od,es,ep,k _ _ (.inr d) e2,c⟩,r⟩
 | own y=>obtain⟨ob,e⟩:=x;exact⟨ob,k _ _ (.inl rfl) e⟩
 | xd fs=>obtain⟨mA,⟨od,es,ep,e,c⟩,r⟩:=x;exact⟨mA,⟨od,es,ep,k _ _ (.inl rfl) e,c⟩,r⟩
 | rng lo hi=>obtain⟨t,u,v,e⟩:=x;exact⟨t,u,v,k _ _ (.inl rfl) e⟩
 | frz ob u ih=>obtain⟨e,q⟩:=x;exact⟨k _ _ (.inl rfl) e,ih q⟩
 | tbl ps=>
  have e:h.get? a=some { cls:=.none,data:=.fields ps }:=x
  show h'.get? a=some { cls:=.none,data:=.fields ps }
  exact k a _ (.inl rfl) e
 | met f y=>
  have e:h.get? a=some (PySem.W.methodObj (.ref f) (.ref y)):=x
  show h'.get? a=some (PySem.W.methodObj (.ref f) (.ref y))
  exact k a _ (.inl rfl) e
 | ext φ=>obtain⟨p,⟨o,e⟩,st⟩:=x;exact⟨st _ _ p fun o q=>k _ _ (.inl rfl) q,⟨o,k _ _ (.inl rfl) e⟩,st⟩
theorem HOk.lt (x:HOk P w H h)(e:H a=some o):a<h.objs.size:=(x a o e).lt
theorem HOk.fresh (x:HOk P w H h)(e:h.objs.size<=a):H a=none:=by
 cases q:H a with
 | none=>rfl
 | some u=>exact absurd (zm (x.lt q) e) (zBz _)
theorem HOk.kept (x:HOk P w H h)(k:∀b u,h.get? b=some u->h'.get? b=some u):HOk P w H h':=fun a o e=>
 (x a o e).stay (fun b u _ q=>k b u q) (fun _ q=>q) fun _ _ q=>q
theorem HOk.laid (x:HOk P w H h)(k:∀b u,h.get? b=some u->h'.get? b=some u)(hp:h.objs.size<=a)(new:zBP P w (upd H a o) h' a o):HOk P w (upd H a o) h':=fun b u e=>by
 have hn:=x.fresh hp
 by_cases hb:b=a
 . subst hb;rw[zG] at e;cases e;exact new
 . rw[zf hb] at e
   exact (x b u e).stay (fun c v _ q=>k c v q) (fun c q=>by rw[zf (zq q hn)];exact q) fun c xs q=>by rw[zf (zq q hn)];exact q
end
noncomputable def Rd (H:Hp)(a:Addr)(u:HO):Prop:=H a=some u\/∃o,H a=some (.frz o u)
variable {P:Program}{w:World}{h:Heap}
theorem Rd.ok {u:HO}(r:Rd H a u)(x:HOk P w H h):zBP P w H h a u:=by
 rcases r with r | ⟨o,r⟩
 . exact x a u r
 . obtain⟨_,q⟩:=x a _ r
   exact q
noncomputable def Mut:Option HO->Prop
 | some (.lst _)=>True
 | some (.dK _)=>True
 | some (.dT _)=>True
 | some (.set _ _)=>True
 | some (.ins _ _ _)=>True
 | some (.ext _)=>True
 | _=>False
section
variable {P:Program}{w:World}{H:Hp}{h h':Heap}{x e:Addr}{o':HO}
theorem HOk.write (ok:HOk P w H h)(mu:Mut (H x))(he:e=x\/H e=some (.own x))(k:∀b u,b≠e->h.get? b=some u->h'.get? b=some u)(heo:∃u,h'.get? e=some u)
 (new:zBP P w (upd H x o') h' x o'):HOk P w (upd H x o') h':=fun b u q=>by
 have nown:∀c y,H c=some (.own y)->c≠x:=fun c y r z=>by subst z;rw[r] at mu;exact mu
 have ntup:∀c xs,H c=some (.tup xs)->c≠x:=fun c xs r z=>by subst z;rw[r] at mu;exact mu
 by_cases hb:b=x
 . subst hb;rw[zG] at q;cases q;exact new
 . rw[zf hb] at q
   by_cases hbe:b=e
   . have q':H b=some (.own x):=by
      rcases he with z | z
      . exact absurd (hbe.trans z) hb
      . rw[hbe];exact z
     rw[q] at q';cases q'
     obtain⟨v,hv⟩:=heo
     exact⟨v,by rw[hbe];exact hv⟩
   . refine (ok b u q).stay (fun c v hc r=>k c v ?_ r) (fun c r=>by rw[zf (nown c b r)];exact r) fun c xs r=>by rw[zf (ntup c xs r)];exact r
     rcases hc with rfl | hc
     . exact hbe
     . rintro rfl
       rcases he with z | z
       . exact nown c b hc z
       . rw[hc] at z;cases z;exact hb rfl
end
structure Un (fs ex:List Addr)(H H':Hp)(h h':Heap):Prop where
 keep:∀b o,h.get? b=some o->H b=none->b∉fs->b∉ex->h'.get? b=some o
 slot:∀b o,h.get? b=some o->H b=none->b∈fs->b∉ex->∃sl,h'.get? b=some { o with slots:=sl }
 free:∀b o,h.get? b=some o->H b=none->b∉ex->H' b=none
 there:∀b o,h.get? b=some o->b∉ex->∃o',h'.get? b=some o'
 tups:∀b xs,H b=some (.tup xs)->H' b=some (.tup xs)
 frzs:∀b o u,H b=some (.frz o u)->H' b=some (.frz o u)
 tbls:∀b ps,H b=some (.tbl ps)->∃more,H' b=some (.tbl (ps++more))
section
variable {fs fs' ex ex':List Addr}{H H1 H2:Hp}{h h1 h2 h':Heap}{a x e:Addr}{o:HO}
theorem Un.any (u:Un fs ex H H1 h h1){ob:Obj}(q:h.get? b=some ob)(n:H b=none)(hx:b∉ex):∃sl,h1.get? b=some { ob with slots:=sl }:=by
 by_cases hb:b∈fs
 . exact u.slot b ob q n hb hx
 . exact⟨ob.slots,u.keep b ob q n hb hx⟩
theorem Un.trans (a:Un fs ex H H1 h h1)(b:Un fs ex H1 H2 h1 h2):Un fs ex H H2 h h2 where
 keep:=fun c ob q n hc hx=>b.keep c ob (a.keep c ob q n hc hx) (a.free c ob q n hx) hc hx
 slot:=fun c ob q n hc hx=>by
  obtain⟨sl,e1⟩:=a.slot c ob q n hc hx
  obtain⟨sl',e2⟩:=b.slot c _ e1 (a.free c ob q n hx) hc hx
  exact⟨sl',e2⟩
 free:=fun c ob q n hx=>by
  obtain⟨o',e1⟩:=a.there c ob q hx
  exact b.free c o' e1 (a.free c ob q n hx) hx
 there:=fun c ob q hx=>by
  obtain⟨o',e1⟩:=a.there c ob q hx
  exact b.there c o' e1 hx
 tups:=fun c xs q=>b.tups c xs (a.tups c xs q)
 frzs:=fun c ob xs q=>b.frzs c ob xs (a.frzs c ob xs q)
 tbls:=fun c ps q=>by
  obtain⟨m1,e1⟩:=a.tbls c ps q
  obtain⟨m2,e2⟩:=b.tbls c _ e1
  exact⟨m1++m2,by rw[e2,Array.append_assoc]⟩
theorem Un.kept (k:∀b u,h.get? b=some u->h'.get? b=some u):Un fs ex H H h h':=
 ⟨fun b ob q _ _ _=>k b ob q,fun b ob q _ _ _=>⟨ob.slots,k b ob q⟩,fun _ _ _ n _=>n,fun b ob q _=>⟨ob,k b ob q⟩,fun _ _ q=>q,fun _ _ _ q=>q,fun _ ps q=>⟨#[],by rw[q];simp⟩⟩
theorem Un.refl:Un fs ex H H h h:=Un.kept fun _ _ q=>q
theorem Un.laid (k:∀b u,h.get? b=some u->h'.get? b=some u)(hp:h.objs.size<=a)(hn:H a=none):Un fs ex H (upd H a o) h h' where
 keep:=fun b u q _ _ _=>k b u q
 slot:=fun b u q _ _ _=>⟨u.slots,k b u q⟩
 free:=fun b u q n _=>by rw[zf (zc (zm (zR q) hp))];exact n
 there:=fun b u q _=>⟨u,k b u q⟩
 tups:=fun b xs q=>by rw[zf (zq q hn)];exact q
 frzs:=fun b u xs q=>by rw[zf (zq q hn)];exact q
 tbls:=fun b ps q=>⟨#[],by rw[zf (zq q hn),q];simp⟩
theorem Un.write (mu:Mut (H x))(he:e=x\/H e=some (.own x))(k:∀b u,b≠e->h.get? b=some u->h'.get? b=some u)(heo:∃u,h'.get? e=some u):Un fs ex H (upd H x o) h h':=by
 have hx:∀b,H b=none->b≠x:=fun b n z=>by subst z;rw[n] at mu;exact mu
 have hb:∀b,H b=none->b≠e:=fun b n z=>by
  subst z
  rcases he with r | r
  . exact hx b n r
  . rw[n] at r;cases r
 have hm:∀b u,H b=some u->¬ Mut (some u)->b≠x:=fun b u q nm z=>by subst z;rw[q] at mu;exact nm mu
 refine⟨fun b u q n _ _=>k b u (hb b n) q,fun b u q n _ _=>⟨u.slots,k b u (hb b n) q⟩,fun b u q n _=>by rw[zf (hx b n)];exact n,fun b u q _=>?_,
  fun b xs q=>by rw[zf (hm b _ q fun z=>z)];exact q,fun b u xs q=>by rw[zf (hm b _ q fun z=>z)];exact q,fun b ps q=>⟨#[],by rw[zf (hm b _ q fun z=>z),q];simp⟩⟩
 by_cases hbe:b=e
 . subst hbe;exact heo
 . exact⟨u,k b u hbe q⟩
end
noncomputable def trk (h:Heap)(H:Hp):List Addr:=(List.range h.objs.size).filter fun a=>(H a).isSome
noncomputable def zKJ (h:Heap)(H:Hp):Heap:=PySem.W.hideAll h (trk h H)
theorem zJW (h:Heap)(H:Hp):(zKJ h H).objs.size=h.objs.size:=PySem.W.hideAll_size _ _
variable {o:Obj}
theorem zK4 (e:h.get? b=some o)(n:H b=none):(zKJ h H).get? b=some o:=
 PySem.W.hideAll_get _ e fun hm=>by
  have q:(H b).isSome=true:=(zAu.mp hm).2
  rw[n] at q;simp at q
theorem zM1 (e:(zKJ h H).get? b=some o):h.get? b=some o/\H b=none:=by
 have e':h.get? b=some o:=PySem.W.of_hideAll (trk h H) e
 refine⟨e',?_⟩
 cases q:H b with
 | none=>rfl
 | some x=>
  have hm:b∈trk h H:=zAu.mpr ⟨zAW.mpr (zR e'),by simp[q]⟩
  have z:(zKJ h H).get? b=none:=PySem.W.hideAll_none (trk h H) hm
  rw[z] at e;cases e
noncomputable def zEW (g h:Heap)(L:Addr):List (Addr×Obj):=(List.range h.objs.size).filterMap fun a=>if a=L\/(g.get? a).isSome=true then none else (h.get? a).map fun o=>(a,o)
variable {L:Addr}
theorem zGq {g:Heap}(h1:a≠L)(h2:g.get? a=none)(h3:h.get? a=some o):(a,o)∈zEW g h L:=
 zA7.mpr ⟨a,zAW.mpr (zR h3),by simp[h1,h2,h3]⟩
theorem zEd {g:Heap}{p:Addr×Obj}(hp:p∈zEW g h L):p.1≠L/\g.get? p.1=none/\h.get? p.1=some p.2:=by
 obtain⟨b,_,e⟩:=zA7.mp hp
 split at e
 . cases e
 . rename_i hn
   cases q:h.get? b with
   | none=>rw[q] at e;simp at e
   | some u=>
    rw[q] at e
    simp only[zAp,Option.some.injEq] at e
    subst e
    refine⟨fun z=>hn (.inl z),?_,q⟩
    show g.get? b=none
    cases r:g.get? b with
    | none=>rfl
    | some v=>exact (hn (.inr (by simp[r]))).elim
theorem zKu {g:Heap}:News g L h (zEW g h L):=fun p hp=>let ⟨a,b,c⟩:=zEd hp;⟨c,a,b⟩
structure Mod (K:PySem.W.Frag)(mg:sOV)(base:Heap):Prop where
 kin:K.In base
 glob:base.Ns mainGlobals mg
 blt:∃mb,base.Ns builtinsNs mb/\∀x:Str,x ≠ "__name__" -> mb x=bootBuiltins x
 nolimit:base.NoLimit
structure Cx where
 prog:Program
 w:World
 K:PySem.W.Frag
 mg:Str->Option Value
 base:Heap
 A:Around
 N:List Str
 s₀:Shared
 H₀:Hp
 env:Env
 outer:List Env
 stack:List Env
 ex:List Addr
 fn:Str->Bool
 calm:Bool
 pn:List (Addr×Obj)
 xe:Value->Shared->Prop
noncomputable def frs (l:List Env):List Addr:=l.filterMap (·.frame)
noncomputable abbrev Cx.fs (X:Cx):List Addr:=frs X.outer
noncomputable def Vis (sc:Scope)(x:Str):Prop:=sc.names.lookup x=some .local\/sc.names.lookup x=some .cell\/sc.names.lookup x=some .free
noncomputable def Loc (sc:Scope)(x:Str):Prop:=sc.names.lookup x=some .local\/sc.names.lookup x=some .cell
noncomputable def zKC (env:Env)(h:Heap)(m:sOV)(x:Str)(u:Value):Prop:=
 (env.kindOf x=some .local/\m x=some u)\/((env.kindOf x=some .cell\/env.kindOf x=some .free)/\∃c,env.cells.lookup x=some c/\h.IsCell c (some u))
structure Cx.Ok (X:Cx):Prop where
 mod:Mod X.K X.mg X.base
 kind:X.env.scope.kind = .function
 glob:X.env.globals=mainGlobals
 blt:X.env.builtins=builtinsNs
 above:X.s₀.heap.objs.size<=X.env.locals
 inj:∀x y c,X.env.cells.lookup x=some c->X.env.cells.lookup y=some c->x=y
 has:∀x,(X.env.kindOf x=some .cell\/X.env.kindOf x=some .free)->∃c,X.env.cells.lookup x=some c
 cab:∀x c,X.fn x=true->X.env.cells.lookup x=some c->X.s₀.heap.objs.size<=c
 hd:X.calm=true->X.A.handled=none
 frames:X.A.frames=some X.stack
 stk:X.stack=X.outer\/(X.stack=X.env::X.outer/\X.env.frame=some X.env.locals)
 exf:∀b∈X.ex,b≠X.env.locals/\∀x c,X.env.cells.lookup x=some c->c≠b
 bs:∀b o,X.base.get? b=some o->X.s₀.heap.get? b=some o/\X.H₀ b=none
 bsz:X.base.objs.size<=X.s₀.heap.objs.size
 noex:∀b o,X.base.get? b=some o->b∉X.ex
 exfs:∀b∈X.ex,b∉X.fs
 funs:X.s₀.heap.FunFrames X.base X.outer
 frf:∀b∈X.fs,X.H₀ b=none
structure Inv (X:Cx)(pins:lPO)(σ:List (Option V))(H:Hp)(s:Shared):Prop where
 ok:X.Ok
 os:s.os=X.s₀.os
 bare:AllBare s.gens
 base:Un X.fs X.ex X.H₀ H X.s₀.heap s.heap
 loc:∃m,s.heap.Ns X.env.locals m/\∀(i:Nat)(x:Str)(v:V),X.N[i]? = some x->σ[i]? = some (some v)->Vis X.env.scope x->∃u,zBk v u/\zKC X.env s.heap m x u
 cell:∀x c,X.env.cells.lookup x=some c->∃v,s.heap.IsCell c v
 free:H X.env.locals=none
 freeC:∀x c,X.env.cells.lookup x=some c->H c=none
 pin:∀p∈X.pn++pins,s.heap.get? p.1=some p.2/\H p.1=none/\p.1≠X.env.locals/\p.1∉X.fs/\∀v,p.2.data ≠ .cell v
 hok:HOk X.prog X.w H s.heap
 len:σ.length=X.N.length
variable {u:Value}{t' i:Nat}{N:List Str}{x:Str}{M:Model}{A:Around}{v:V}{Q:Unit->Shared->Prop}
section
variable {X:Cx}{pins:lPO}{σ:List (Option V)}{H H':Hp}{s:Shared}{h':Heap}
theorem Cx.Ok.nofr (ok:X.Ok)(e:X.base.get? b=some o):b∉X.fs:=fun hb=>by
 have:=(ok.funs.mem hb).1
 rw[e] at this;cases this
theorem Inv.bs (I:Inv X pins σ H s):∀b o,X.base.get? b=some o->s.heap.get? b=some o/\H b=none:=fun b o e=>
 ⟨I.base.keep b o (I.ok.bs b o e).1 (I.ok.bs b o e).2 (I.ok.nofr e) (I.ok.noex b o e),I.base.free b o (I.ok.bs b o e).1 (I.ok.bs b o e).2 (I.ok.noex b o e)⟩
theorem Inv.bk (I:Inv X pins σ H s):∀b o,X.base.get? b=some o->s.heap.get? b=some o:=fun b o e=>(I.bs b o e).1
theorem Inv.mod (I:Inv X pins σ H s):Mod X.K X.mg X.base:=I.ok.mod
theorem Inv.kIn (I:Inv X pins σ H s):X.K.In s.heap:=I.ok.mod.kin.keeps I.bk
theorem Inv.fr (I:Inv X pins σ H s):∃m,Fr X.base X.env.locals s.heap m:=
 let ⟨m,hn,_⟩:=I.loc
 ⟨m,hn,I.bk,zx I.ok.bsz I.ok.above⟩
theorem Inv.lt (I:Inv X pins σ H s):X.env.locals<s.heap.objs.size:=let ⟨_,hn,_⟩:=I.loc;hn.lt
theorem Inv.sz (I:Inv X pins σ H s):X.s₀.heap.objs.size<=s.heap.objs.size:=zx I.ok.above (zBw I.lt)
theorem Inv.nofs (I:Inv X pins σ H s)(h:s.heap.objs.size<=a):a∉X.fs:=fun hb=>by
 obtain⟨_,o,ho,_⟩:=I.ok.funs.mem hb
 exact absurd (zm (zR ho) (zx I.sz h)) (zBz _)
theorem Inv.cne (I:Inv X pins σ H s):∀x c,X.env.cells.lookup x=some c->c≠X.env.locals:=fun x c e z=>by
 obtain⟨v,o,ho,hd⟩:=I.cell x c e
 obtain⟨m,⟨o',es,ep,ho',hd',_⟩,_⟩:=I.loc
 rw[z,ho'] at ho;cases ho;rw[hd'] at hd;cases hd
theorem Inv.funs (I:Inv X pins σ H s):s.heap.FunFrames X.base X.outer:=by
 have all:∀(l:List Env),(∀b∈frs l,b∈X.fs)->X.s₀.heap.FunFrames X.base l->s.heap.FunFrames X.base l:=by
  intro l
  induction l with
  | nil=>intro _ _;trivial
  | cons env r ih=>
   intro hs hl
   obtain⟨hk,⟨L,o,hf,hn,ho,hd⟩,hr⟩:=hl
   have hL:L∈X.fs:=hs L (by unfold frs;rw[List.filterMap_cons,hf];exact zh)
   obtain⟨sl,e⟩:=I.base.slot L o ho (I.ok.frf L hL) hL fun z=>I.ok.exfs L z hL
   exact⟨hk,⟨L,_,hf,hn,e,hd⟩,ih (fun b hb=>hs b (by unfold frs;rw[List.filterMap_cons,hf];exact zX _ hb)) hr⟩
 exact all X.outer (fun _ hb=>hb) I.ok.funs
theorem Inv.stack (I:Inv X pins σ H s):s.heap.FunFrames X.base X.stack:=by
 rcases I.ok.stk with e | ⟨e,hf⟩
 . rw[e];exact I.funs
 . rw[e]
   obtain⟨m,hn,_⟩:=I.loc
   refine .cons (by rw[I.ok.kind];decide) hf hn ?_ I.funs
   exact Heap.get?_none_of_le (zx I.ok.bsz I.ok.above)
theorem Inv.stkSub (I:Inv X pins σ H s):∀b∈frs X.stack,b∈X.env.locals::X.fs:=fun b hb=>by
 rcases I.ok.stk with e | ⟨e,hf⟩
 . rw[e] at hb;exact zX _ hb
 . rw[e] at hb
   unfold frs at hb
   rw[List.filterMap_cons,hf] at hb
   exact hb
theorem Inv.stkFree (I:Inv X pins σ H s):∀b∈frs X.stack,H b=none:=fun b hb=>by
 rcases zY.mp (I.stkSub b hb) with e | hb
 . rw[e];exact I.free
 . obtain⟨_,o,ho,_⟩:=I.ok.funs.mem hb
   exact I.base.free b o ho (I.ok.frf b hb) fun z=>I.ok.exfs b z hb
theorem Inv.step {g':Array GenState}{t':Nat}{d':Drawn}{ch:List Addr}(I:Inv X pins σ H s)
 (hch:∀b∈ch,(b∈X.ex\/X.s₀.heap.objs.size<=b)/\b≠X.env.locals/\(∀x c,X.env.cells.lookup x=some c->c≠b)/\∀p∈X.pn++pins,p.1≠b)
 (keep:∀b o,b≠X.env.locals->b∉X.fs->b∉ch->s.heap.get? b=some o->H b=none->h'.get? b=some o)
 (slot:∀b o,b≠X.env.locals->b∈X.fs->b∉ch->s.heap.get? b=some o->H b=none->∃sl,h'.get? b=some { o with slots:=sl })(free:∀b o,b∉ch->s.heap.get? b=some o->H b=none->H' b=none)
 (there:∀b o,b∉ch->s.heap.get? b=some o->∃o',h'.get? b=some o')
 (tups:∀b xs,H b=some (.tup xs)->H' b=some (.tup xs))(frzs:∀b o u,H b=some (.frz o u)->H' b=some (.frz o u))(tbls:∀b ps,H b=some (.tbl ps)->∃more,H' b=some (.tbl (ps++more)))
 (ns:∀m,s.heap.Ns X.env.locals m->h'.Ns X.env.locals m)(hok:HOk X.prog X.w H' h')(hg:AllBare g') :
 Inv X pins σ H' { s with heap:=h',gens:=g',drawn:=d',toks:=t' }:=by
 have neL:∀b o,X.s₀.heap.get? b=some o->b≠X.env.locals:=fun b o e=>zc (zm (zR e) I.ok.above)
 have neC:∀b o,X.s₀.heap.get? b=some o->b∉X.ex->b∉ch:=fun b o e hx hb=>by
  rcases (hch b hb).1 with z | z
  . exact hx z
  . exact absurd (zm (zR e) z) (zBz _)
 have cellK:∀x c,X.env.cells.lookup x=some c->∀v,s.heap.IsCell c v->h'.IsCell c v:=fun x c e v ⟨o,ho,hd⟩=>by
  have nch:c∉ch:=fun z=>(hch c z).2.2.1 x c e rfl
  by_cases hc:c∈X.fs
  . obtain⟨sl,q⟩:=slot c o (I.cne x c e) hc nch ho (I.freeC x c e)
    exact⟨_,q,hd⟩
  . exact⟨o,keep c o (I.cne x c e) hc nch ho (I.freeC x c e),hd⟩
 refine⟨I.ok,I.os,hg,⟨fun b o e n hb hx=>?_,fun b o e n hb hx=>?_,fun b o e n hx=>?_,fun b o e hx=>?_,fun b xs e=>tups b xs (I.base.tups b xs e),fun b o xs e=>frzs b o xs (I.base.frzs b o xs e),fun b ps e=>?_⟩,?_,fun x c e=>?_,?_,fun x c e=>?_,fun p hp=>?_,hok,I.len⟩
 . exact keep b o (neL b o e) hb (neC b o e hx) (I.base.keep b o e n hb hx) (I.base.free b o e n hx)
 . obtain⟨sl,e1⟩:=I.base.slot b o e n hb hx
   obtain⟨sl',e2⟩:=slot b _ (neL b o e) hb (neC b o e hx) e1 (I.base.free b o e n hx)
   exact⟨sl',e2⟩
 . obtain⟨o',e1⟩:=I.base.there b o e hx
   exact free b o' (neC b o e hx) e1 (I.base.free b o e n hx)
 . obtain⟨o',e1⟩:=I.base.there b o e hx
   exact there b o' (neC b o e hx) e1
 . obtain⟨m1,e1⟩:=I.base.tbls b ps e
   obtain⟨m2,e2⟩:=tbls b _ e1
   exact⟨m1++m2,by rw[e2,Array.append_assoc]⟩
 . obtain⟨m,hn,hl⟩:=I.loc
   refine⟨m,ns m hn,fun i x v e1 e2 e3=>?_⟩
   obtain⟨u,r,l⟩:=hl i x v e1 e2 e3
   refine⟨u,r,?_⟩
   rcases l with l | ⟨k,c,e,z⟩
   . exact .inl l
   . exact .inr ⟨k,c,e,cellK x c e _ z⟩
 . obtain⟨v,z⟩:=I.cell x c e
   exact⟨v,cellK x c e v z⟩
 . obtain⟨m,⟨o,_,_,ho,_⟩,_⟩:=I.loc
   exact free _ o (fun z=>(hch _ z).2.1 rfl) ho I.free
 . obtain⟨v,o,ho,hd⟩:=I.cell x c e
   exact free c o (fun z=>(hch c z).2.2.1 x c e rfl) ho (I.freeC x c e)
 . obtain⟨e,n,ne,nf,d⟩:=I.pin p hp
   have nch:p.1∉ch:=fun z=>(hch p.1 z).2.2.2 p hp rfl
   exact⟨keep p.1 p.2 ne nf nch e n,free p.1 p.2 nch e n,ne,nf,d⟩
theorem Inv.un (I:Inv X pins σ H s)(u:Un X.fs [] H H' s.heap h')(hok:HOk X.prog X.w H' h'):Inv X pins σ H' { s with heap:=h',toks:=t' }:=by
 obtain⟨m,⟨o,es,ep,ho,r⟩,_⟩:=id I.loc
 obtain⟨sl,hL⟩:=u.any ho I.free (by simp)
 exact I.step (g':=s.gens) (d':=s.drawn) (ch:=[]) (fun _ z=>nomatch z) (fun b o _ hb _ e n=>u.keep b o e n hb (by simp)) (fun b o _ hb _ e n=>u.slot b o e n hb (by simp)) (fun b o _ e n=>u.free b o e n (by simp)) (fun b o _ e=>u.there b o e (by simp)) u.tups u.frzs u.tbls (fun m' hm=>by
  obtain⟨o',es',ep',ho',r'⟩:=hm
  rw[ho] at ho';cases ho'
  exact⟨_,es',ep',hL,r'⟩) hok I.bare
theorem Inv.call {g':Array GenState}{d':Drawn}{ch:List Addr}(I:Inv X pins σ H s)(u:Un (frs X.stack) ch H H' s.heap h')(hok:HOk X.prog X.w H' h')(hg:AllBare g')
 (hch:∀b∈ch,(b∈X.ex\/X.s₀.heap.objs.size<=b)/\b≠X.env.locals/\(∀x c,X.env.cells.lookup x=some c->c≠b)/\∀p∈X.pn++pins,p.1≠b) :
 Inv X pins σ H' { s with heap:=h',gens:=g',drawn:=d',toks:=t' }:=by
 obtain⟨m,⟨o,es,ep,ho,r⟩,_⟩:=id I.loc
 obtain⟨sl,hL⟩:=u.any ho I.free fun z=>(hch _ z).2.1 rfl
 exact I.step (ch:=ch) hch (fun b o hL hb hc e n=>u.keep b o e n (fun z=>(zY.mp (I.stkSub b z)).elim hL hb) hc) (fun b o _ _ hc e n=>u.any e n hc) (fun b o hc e n=>u.free b o e n hc) (fun b o hc e=>u.there b o e hc) u.tups u.frzs u.tbls (fun m' hm=>by
  obtain⟨o',es',ep',ho',r'⟩:=hm
  rw[ho] at ho';cases ho'
  exact⟨_,es',ep',hL,r'⟩) hok hg
theorem Inv.turned {it:Addr}(I:Inv X pins σ H s)(k:∀b o,b≠it->s.heap.get? b=some o->h'.get? b=some o)(hn:H it=none)(hL:it≠X.env.locals)
 (h1:it∈X.ex\/X.s₀.heap.objs.size<=it)(h2:∀x c,X.env.cells.lookup x=some c->c≠it)(h3:∀p∈X.pn++pins,p.1≠it):Inv X pins σ H { s with heap:=h',toks:=t' }:=by
 have nit:∀b u,H b=some u->b≠it:=fun b u e z=>by rw[z,hn] at e;cases e
 refine I.step (g':=s.gens) (d':=s.drawn) (ch:=[it]) (fun b hb=>?_) (fun b o _ _ hc e _=>k b o (fun z=>hc (by simp[z])) e) (fun b o _ _ hc e _=>⟨o.slots,k b o (fun z=>hc (by simp[z])) e⟩) (fun _ _ _ _ n=>n)
  (fun b o hc e=>⟨o,k b o (fun z=>hc (by simp[z])) e⟩) (fun _ _ e=>e) (fun _ _ _ e=>e) (fun b ps e=>⟨#[],by rw[e];simp⟩) (fun m hm=>?_) (fun b u e=>?_) I.bare
 . have e:b=it:=by simpa using hb
   subst e
   exact⟨h1,hL,h2,h3⟩
 . obtain⟨o,es,ep,ho,r⟩:=hm
   exact⟨o,es,ep,k _ o (Ne.symm hL) ho,r⟩
 . refine (I.hok b u e).stay (fun c v hc q=>k c v ?_ q) (fun _ q=>q) fun _ _ q=>q
   rcases hc with z | z
   . rw[z];exact nit b u e
   . exact nit c _ z
theorem Inv.tok (I:Inv X pins σ H s)(t:Nat):Inv X pins σ H { s with toks:=t }:=I.un (h':=s.heap) (t':=t) Un.refl I.hok
theorem Inv.kept (I:Inv X pins σ H s)(k:∀b u,s.heap.get? b=some u->h'.get? b=some u):Inv X pins σ H { s with heap:=h',toks:=t' }:=I.un (Un.kept k) (I.hok.kept k)
theorem Inv.laid {a:Addr}{o:HO}{t':Nat}(I:Inv X pins σ H s)(k:∀b u,s.heap.get? b=some u->h'.get? b=some u)(hp:s.heap.objs.size<=a)(new:zBP X.prog X.w (upd H a o) h' a o) :
 Inv X pins σ (upd H a o) { s with heap:=h',toks:=t' }:=I.un (Un.laid k hp (I.hok.fresh hp)) (I.hok.laid k hp new)
theorem Inv.write {x e:Addr}{o:HO}{t':Nat}(I:Inv X pins σ H s)(mu:Mut (H x))(he:e=x\/H e=some (.own x))(k:∀b u,b≠e->s.heap.get? b=some u->h'.get? b=some u)(heo:∃u,h'.get? e=some u)
 (new:zBP X.prog X.w (upd H x o) h' x o):Inv X pins σ (upd H x o) { s with heap:=h',toks:=t' }:=I.un (Un.write mu he k heo) (I.hok.write mu he k heo new)
theorem Inv.weak {σ':List (Option V)}(I:Inv X pins σ H s)(hl:σ'.length=σ.length)(w:∀(i:Nat) v,σ'[i]? = some (some v)->σ[i]? = some (some v)):Inv X pins σ' H s:=
 ⟨I.ok,I.os,I.bare,I.base,let ⟨m,hn,hl'⟩:=I.loc;⟨m,hn,fun i x v e1 e2 e3=>hl' i x v e1 (w i v e2) e3⟩,I.cell,I.free,I.freeC,I.pin,I.hok,hl.trans I.len⟩
theorem Inv.pins_of {pins':lPO}(I:Inv X pins σ H s)(h:∀p∈pins',s.heap.get? p.1=some p.2/\H p.1=none/\p.1≠X.env.locals/\p.1∉X.fs/\∀v,p.2.data ≠ .cell v):Inv X pins' σ H s:=
 ⟨I.ok,I.os,I.bare,I.base,I.loc,I.cell,I.free,I.freeC,fun p hp=>(zn.mp hp).elim (fun z=>I.pin p (zAk _ z)) (h p),I.hok,I.len⟩
theorem zFQ (hN:N.Nodup){j:Nat}(a:N[i]? = some x)(b:N[j]? = some x):i=j:=by
 obtain⟨h1,e1⟩:=zK.mp a
 obtain⟨h2,e2⟩:=zK.mp b
 exact (List.getElem_inj hN).mp (e1.trans e2.symm)
theorem zIX {E:vSP}(I:Inv X pins σ H s)(hN:X.N.Nodup)(hi:X.N[i]? = some x)(hx:Loc X.env.scope x)(r:zBk v u)
 (h:∀s',Inv X pins (σ.set i (some v)) H s'->(∃a,Heap.SameBut a s.heap s'.heap/\(a=X.env.locals\/X.env.cells.lookup x=some a))->Q () s')(hf:X.fn x=true\/X.env.scope.names.lookup x=some .local:=by first | exact .inl rfl | exact .inr rfl | assumption):wpAny M A (storeName X.env x u) Q E s:=by
 obtain⟨m,hn,hl⟩:=id I.loc
 have hcls:(X.env.scope.kind == .class || (X.env.scope.kind == .module && X.env.locals != X.env.globals))=false:=by rw[I.ok.kind];rfl
 have hiσ:i<σ.length:=by rw[I.len];exact (zK.mp hi).1
 have cne:=I.cne
 have tracked:∀{a:Addr}{h':Heap},(∃o,s.heap.get? a=some o/\H a=none)->Heap.SameBut a s.heap h'->HOk X.prog X.w H h':=fun {a h'} ha hs b ob e=>by
  obtain⟨_,_,hfree⟩:=ha
  refine (I.hok b ob e).stay (fun c w' hc q=>(hs.2 c ?_).trans q) (fun _ q=>q) fun _ _ q=>q
  rintro rfl
  rcases hc with rfl | hc
  . rw[hfree] at e;cases e
  . rw[hfree] at hc;cases hc
 rcases hx with hk | hk
 . refine wpAny_storeName_local hk hn (fun h' hn' hs=>?_) hcls
   obtain⟨oL,_,_,hoL,_⟩:=id hn
   refine h _ ⟨I.ok,I.os,I.bare,⟨fun b o e n hb hx=>?_,fun b o e n hb hx=>?_,I.base.free,fun b o e hx=>?_,I.base.tups,I.base.frzs,I.base.tbls⟩,⟨_,hn',fun j y v' e1 e2 e3=>?_⟩,fun y c e=>?_,I.free,I.freeC,fun p hp=>?_,tracked ⟨oL,hoL,I.free⟩ hs,by simpa using I.len⟩ ⟨_,hs,.inl rfl⟩
   . exact (hs.2 b (zc (zm (zR e) I.ok.above))).trans (I.base.keep b o e n hb hx)
   . obtain⟨sl,e1⟩:=I.base.slot b o e n hb hx
     exact⟨sl,(hs.2 b (zc (zm (zR e) I.ok.above))).trans e1⟩
   . obtain⟨o',e1⟩:=I.base.there b o e hx
     exact⟨o',(hs.2 b (zc (zm (zR e) I.ok.above))).trans e1⟩
   . by_cases hj:j=i
     . subst hj
       rw[hi] at e1;cases e1
       rw[zBY hiσ] at e2
       cases e2
       exact⟨u,r,.inl ⟨hk,by simp⟩⟩
     . rw[List.getElem?_set_ne (Ne.symm hj)] at e2
       obtain⟨u',r',q⟩:=hl j y v' e1 e2 e3
       refine⟨u',r',?_⟩
       rcases q with ⟨k,e⟩ | ⟨k,c,e,z⟩
       . refine .inl ⟨k,?_⟩
         have:y≠x:=fun e=>hj (zFQ hN e1 (e ▸ hi))
         simp[this,e]
       . exact .inr ⟨k,c,e,z.sameBut hs (cne y c e)⟩
   . obtain⟨w',z⟩:=I.cell y c e
     exact⟨w',z.sameBut hs (cne y c e)⟩
   . obtain⟨e,n,ne,nf,d⟩:=I.pin p hp
     exact⟨(hs.2 p.1 ne).trans e,n,ne,nf,d⟩
 . have hfn:X.fn x=true:=by
    rcases hf with z | z
    . exact z
    . rw[z] at hk;cases hk
   obtain⟨c,hc⟩:=I.ok.has x (.inl hk)
   obtain⟨w',z⟩:=I.cell x c hc
   refine wpAny_storeName_cell I.ok.kind hk hc z (fun h' hc' hs=>?_)
   obtain⟨oc,hoc,hocd⟩:=id z
   refine h { s with heap:=h' } ⟨I.ok,I.os,I.bare,⟨fun b o e n hb hx=>?_,fun b o e n hb hx=>?_,I.base.free,fun b o e hx=>?_,I.base.tups,I.base.frzs,I.base.tbls⟩,⟨m,hn.sameBut hs (Ne.symm (cne x c hc)),fun j y v' e1 e2 e3=>?_⟩,fun y c' e=>?_,I.free,I.freeC,fun p hp=>?_,tracked ⟨oc,hoc,I.freeC x c hc⟩ hs,by simpa using I.len⟩ ⟨c,hs,.inr hc⟩
   . exact (hs.2 b (zc (zm (zR e) (I.ok.cab x c hfn hc)))).trans (I.base.keep b o e n hb hx)
   . obtain⟨sl,e1⟩:=I.base.slot b o e n hb hx
     exact⟨sl,(hs.2 b (zc (zm (zR e) (I.ok.cab x c hfn hc)))).trans e1⟩
   . obtain⟨o',e1⟩:=I.base.there b o e hx
     exact⟨o',(hs.2 b (zc (zm (zR e) (I.ok.cab x c hfn hc)))).trans e1⟩
   . by_cases hj:j=i
     . subst hj
       rw[hi] at e1;cases e1
       rw[zBY hiσ] at e2
       cases e2
       exact⟨u,r,.inr ⟨.inl hk,c,hc,hc'⟩⟩
     . rw[List.getElem?_set_ne (Ne.symm hj)] at e2
       obtain⟨u',r',q⟩:=hl j y v' e1 e2 e3
       refine⟨u',r',?_⟩
       rcases q with q | ⟨k,c',e,z'⟩
       . exact .inl q
       . refine .inr ⟨k,c',e,z'.sameBut hs ?_⟩
         rintro rfl
         exact hj (zFQ hN e1 (I.ok.inj _ _ _ e hc ▸ hi))
   . by_cases hcc:c'=c
     . subst hcc;exact⟨_,hc'⟩
     . obtain⟨w2,z2⟩:=I.cell y c' e
       exact⟨w2,z2.sameBut hs hcc⟩
   . obtain⟨e,n,ne,nf,d⟩:=I.pin p hp
     refine⟨(hs.2 p.1 ?_).trans e,n,ne,nf,d⟩
     intro q
     rw[q,hoc] at e
     have q':oc=p.2:=zU e
     exact d w' (by rw[<-q'];exact hocd)
theorem zCf {E:vSP}(I:Inv X pins σ H s)(hN:X.N.Nodup)(hi:X.N[i]? = some x)(hx:Loc X.env.scope x)(r:zBk v u)
 (h:∀s',Inv X pins (σ.set i (some v)) H s'->Q () s')(hf:X.fn x=true\/X.env.scope.names.lookup x=some .local:=by first | exact .inl rfl | exact .inr rfl | assumption):wpAny M A (storeName X.env x u) Q E s:=
 zIX I hN hi hx r (fun s' I' _=>h s' I') hf
theorem Inv.call' {s':Shared}{ch:List Addr}(I:Inv X pins σ H s)(ho:s'.os=s.os)(u:Un (frs X.stack) ch H H' s.heap s'.heap)(hok:HOk X.prog X.w H' s'.heap)(hg:AllBare s'.gens)
 (hch:∀b∈ch,(b∈X.ex\/X.s₀.heap.objs.size<=b)/\b≠X.env.locals/\(∀x c,X.env.cells.lookup x=some c->c≠b)/\∀p∈X.pn++pins,p.1≠b):Inv X pins σ H' s':=by
 obtain⟨h',g',d',t',o'⟩:=s'
 have e:o'=s.os:=ho
 subst e
 exact I.call (g':=g') (t':=t') (d':=d') u hok hg hch
end
noncomputable abbrev XK:=Value->Option Addr->Hp->Prop
noncomputable abbrev St:=List (Option V)
noncomputable abbrev VK:=V->Hp->Prop
noncomputable abbrev TE:=St->Hp->VK->Prop
noncomputable abbrev TT:=St->Hp->(Bool->Hp->Prop)->Prop
noncomputable abbrev TA:=St->Hp->(List V->Hp->Prop)->Prop
structure zIL where
 nx:St->Hp->Prop
 rt:VK
 bk:St->Hp->Prop:=fun _ _=>False
 ct:St->Hp->Prop:=fun _ _=>False
noncomputable abbrev TS:=zIL->St->Hp->Prop
noncomputable def EP (X:Cx)(pins:lPO)(σ:St)(Q:VK)(u:Value)(s':Shared):Prop:=∃v H',Inv X pins σ H' s'/\zBk v u/\Q v H'
noncomputable def TP (X:Cx)(pins:lPO)(σ:St)(Q:Bool->Hp->Prop)(b:Bool)(s':Shared):Prop:=∃H',Inv X pins σ H' s'/\Q b H'
noncomputable def AP (X:Cx)(pins:lPO)(σ:St)(Q:List V->Hp->Prop)(us:List Value)(s':Shared):Prop:=∃vs H',Inv X pins σ H' s'/\zBO vs us/\Q vs H'
noncomputable def SP (X:Cx)(pins:lPO)(D:zIL)(f:Flow)(s':Shared):Prop:=
 match f with
 | .next=>∃ σ' H',Inv X pins σ' H' s'/\D.nx σ' H'
 | .brk=>∃ σ' H',Inv X pins σ' H' s'/\D.bk σ' H'
 | .cont=>∃ σ' H',Inv X pins σ' H' s'/\D.ct σ' H'
 | .ret u=>∃v σ' H',Inv X pins σ' H' s'/\zBk v u/\D.rt v H'
noncomputable def PE (X:Cx)(e:Expr)(t:TE):Prop:=
 ∀(pins:lPO)(s:Shared)(σ:St)(H:Hp)(Q:VK),Inv X pins σ H s->t σ H Q->wpAny (model X.prog X.w) X.A (eval e X.env) (EP X pins σ Q) X.xe s
noncomputable def PT (X:Cx)(e:Expr)(t:TT):Prop:=
 ∀(pins:lPO)(s:Shared)(σ:St)(H:Hp)(Q:Bool->Hp->Prop),Inv X pins σ H s->t σ H Q->wpAny (model X.prog X.w) X.A (isTrue e X.env (eval e X.env)) (TP X pins σ Q) X.xe s
noncomputable def PW (X:Cx)(e:Expr)(t:TT):Prop:=
 ∀(whole:Sem Value)(pins:lPO)(s:Shared)(σ:St)(H:Hp)(Q:Bool->Hp->Prop),Inv X pins σ H s->t σ H Q->wpAny (model X.prog X.w) X.A (isTrue e X.env whole) (TP X pins σ Q) X.xe s
variable {X:Cx}{e:Expr}
theorem PW.pt {t:TT}(h:PW X e t):PT X e t:=h _
noncomputable def PA (X:Cx)(es:List Expr)(t:TA):Prop:=
 ∀(pos:Pos)(pins:lPO)(s:Shared)(σ:St)(H:Hp)(Q:List V->Hp->Prop),Inv X pins σ H s->t σ H Q->wpAny (model X.prog X.w) X.A (spliced (backTo pos (starEach es X.env))) (AP X pins σ Q) X.xe s
noncomputable def PS (X:Cx)(st:Stmt)(t:TS):Prop:=
 ∀(pins:lPO)(s:Shared)(σ:St)(H:Hp)(D:zIL),Inv X pins σ H s->t D σ H->wpAny (model X.prog X.w) X.A (exec st X.env) (SP X pins D) X.xe s
noncomputable def PSs (X:Cx)(st:List Stmt)(t:TS):Prop:=
 ∀(pins:lPO)(s:Shared)(σ:St)(H:Hp)(D:zIL),Inv X pins σ H s->t D σ H->wpAny (model X.prog X.w) X.A (execs st X.env) (SP X pins D) X.xe s
variable {s:Shared}
theorem thn {α:Type}{t:Sem α}{Q Q':α->Shared->Prop}{E:vSP}(h:wpAny M A t Q E s)(hQ:∀a s,Q a s->Q' a s):wpAny M A t Q' E s:=zAP h hQ fun _ _ x=>x
variable {pos:Pos}{σ:St}{c:Expr}
section
variable {X:Cx}
noncomputable def tVar (i:Nat):TE:=fun σ H Q=>∃v,σ[i]? = some (some v)/\Q v H
noncomputable def tC (v:V):TE:=fun _ H Q=>Q v H
theorem pe_var (hN:X.N[i]? = some x)(hv:Vis X.env.scope x)(hd:(x==("__debug__" : Str))=false:=by decide) (hcd:(x==("__classdict__" : Str))=false:=by decide):PE X (.Name x pos) (tVar i):=by
 intro pins s σ H Q I h
 obtain⟨v,e,h⟩:=h
 obtain⟨m,hn,hl⟩:=I.loc
 obtain⟨u,r,l⟩:=hl i x v hN e hv
 have fin:EP X pins σ Q u s:=⟨v,H,I,r,h⟩
 rcases l with ⟨hk,hm⟩ | ⟨hk,c,hc,hcell⟩
 . exact wpAny_Name (wpAny_loadName_local I.ok.kind hk hn hm fin) hd
 . rcases hk with hk | hk
   . exact wpAny_Name (wpAny_loadName_cell I.ok.kind hk hc hcell fin) hd
   . exact wpAny_Name (wpAny_loadName_free I.ok.kind hk hc hcell fin hcd) hd
theorem ze {i j pos}:PE X (.Constant (.int i) j pos) (tC (.int i)):=fun _ _ _ H _ I h=>wpAny_Constant_int ⟨.int i,H,I.tok _,⟨_,rfl⟩,h⟩
theorem zEc {b j pos}:PE X (.Constant (.bool b) j pos) (tC (.bl b)):=fun _ _ _ H _ I h=>Constant_bool ⟨.bl b,H,I,rfl,h⟩
theorem zBF {j pos}:PE X (.Constant .none j pos) (tC .non):=fun _ _ _ H _ I h=>Constant_none ⟨.non,H,I,rfl,h⟩
theorem zCE {x j pos}:PE X (.Constant (.str x) j pos) (tC (.str x)):=fun _ _ _ H _ I h=>Calls.Constant_str ⟨.str x,H,I.tok _,⟨_,rfl⟩,h⟩
noncomputable def Gl (X:Cx)(x:Str):Prop:=X.env.kindOf x=some .globalImplicit
theorem zDa {E:vSP}{pins:lPO}{Q:vSP}(I:Inv X pins σ H s)(hg:Gl X x)(hm:X.mg x=some u)(h:Q u s)
 (hd:(x==("__debug__" : Str))=false:=by decide):wpAny (model X.prog X.w) X.A (eval (.Name x pos) X.env) Q E s:=
 Calls.Name_function_global I.ok.kind hg (Calls.loadGlobal_global (by rw[I.ok.glob];exact I.mod.glob.keeps I.bk) hm h) hd
theorem zCw {E:vSP}{pins:lPO}{Q:vSP}(I:Inv X pins σ H s)(hg:Gl X x)(hm:X.mg x=none)(hv:bootBuiltins x=some u)(h:Q u s)
 (hn:x ≠ "__name__" := by decide) (hd:(x==("__debug__" : Str))=false:=by decide):wpAny (model X.prog X.w) X.A (eval (.Name x pos) X.env) Q E s:=by
 obtain⟨mb,h1,h2⟩:=I.mod.blt
 exact Calls.Name_function_global I.ok.kind hg (Calls.loadGlobal_builtin (by rw[I.ok.glob];exact I.mod.glob.keeps I.bk) hm (by rw[I.ok.blt];exact h1.keeps I.bk) ((h2 x hn).trans hv) h) hd
theorem zBu (hg:Gl X x)(hm:X.mg x=some u)(r:zBk v u)(hd:(x==("__debug__" : Str))=false:=by decide):PE X (.Name x pos) (tC v):=
 fun _ _ _ H _ I h=>zDa I hg hm ⟨v,H,I,r,h⟩ hd
variable {a b:Expr}{ta tb:TE}{pos:Pos}
noncomputable def tB (t:TE):TT:=fun σ H Q=>t σ H fun x H1=>∃c,x = .bl c/\Q c H1
theorem zBR {t:TE}(h:PE X e t)(he:∀whole,isTrue e X.env whole=(do let v <-whole;standAt e.pos;holding [v] (truthy v)):=by intro _;rfl):PT X e (tB t):=by
 intro pins s σ H Q I hw
 refine isTrue_plain (thn (h pins s σ H _ I hw) fun v s1 ⟨x,H1,I1,r1,q1⟩=>?_) (he _)
 obtain⟨d,rfl,q⟩:=q1
 cases r1
 exact zBp ⟨H1,I1,q⟩
variable {tA tB':TT}{rest:List Expr}
noncomputable def tAnd (t u:TT):TT:=fun σ H Q=>t σ H fun c H1=>if c=true then u σ H1 Q else Q false H1
noncomputable def tOr (t u:TT):TT:=fun σ H Q=>t σ H fun c H1=>if c=true then Q true H1 else u σ H1 Q
noncomputable def tNot (t:TT):TT:=fun σ H Q=>t σ H fun c H1=>Q (!c) H1
theorem zD6 (ha:PT X a tA):PW X (.BoolOp .And [a] pos) tA:=by
 intro wh pins s σ H Q I h
 refine isTrue_and (thn (ha pins s σ H Q I h) fun c s1 e=>?_)
 cases c with
 | true=>exact isTrue_and_nil e
 | false=>exact e
theorem zDK (ha:PT X a tA):PW X (.BoolOp .Or [a] pos) tA:=by
 intro wh pins s σ H Q I h
 refine isTrue_or (thn (ha pins s σ H Q I h) fun c s1 e=>?_)
 cases c with
 | false=>exact isTrue_or_nil e
 | true=>exact e
theorem zDi (ha:PT X a tA)(hb:PW X (.BoolOp .And (b::rest) pos) tB'):PW X (.BoolOp .And (a::b::rest) pos) (tAnd tA tB'):=by
 intro wh pins s σ H Q I h
 refine isTrue_and (thn (ha pins s σ H _ I h) fun c s1 ⟨H1,I1,q1⟩=>?_)
 cases c with
 | true=>exact hb wh pins s1 σ H1 Q I1 q1
 | false=>exact⟨H1,I1,q1⟩
theorem zEb (ha:PT X a tA)(hb:PW X (.BoolOp .Or (b::rest) pos) tB'):PW X (.BoolOp .Or (a::b::rest) pos) (tOr tA tB'):=by
 intro wh pins s σ H Q I h
 refine isTrue_or (thn (ha pins s σ H _ I h) fun c s1 ⟨H1,I1,q1⟩=>?_)
 cases c with
 | true=>exact⟨H1,I1,q1⟩
 | false=>exact hb wh pins s1 σ H1 Q I1 q1
theorem zBx (ha:PT X a tA):PT X (.UnaryOp .Not a pos) (tNot tA):=by
 intro pins s σ H Q I h
 exact isTrue_not (ha pins s σ H (fun c H1=>Q (!c) H1) I h)
noncomputable def tAndV (ta tb:TE):TE:=fun σ H Q=>ta σ H fun x H1=>∃c,x = .bl c/\if c=true then tb σ H1 Q else Q (.bl false) H1
noncomputable def tNotV (ta:TE):TE:=fun σ H Q=>ta σ H fun x H1=>∃c,x = .bl c/\Q (.bl (!c)) H1
theorem zEr {op} {t:TE}(h:PE X a t):PE X (.BoolOp op [a] pos) t:=fun pins s σ H Q I hw=>BoolOp_one (h pins s σ H Q I hw)
theorem zD9 (ha:PE X a ta)(hb:PE X (.BoolOp .And (b::rest) pos) tb):PE X (.BoolOp .And (a::b::rest) pos) (tAndV ta tb):=by
 intro pins s σ H Q I h
 refine BoolOp_and (thn (ha pins s σ H _ I h) fun v s1 ⟨x,H1,I1,r1,q1⟩=>?_)
 obtain⟨c,rfl,q1⟩:=q1
 cases r1
 refine zBp ?_
 cases c with
 | true=>exact hb pins s1 σ H1 Q I1 q1
 | false=>exact⟨.bl false,H1,I1,rfl,q1⟩
theorem pe_not (ha:PE X a ta):PE X (.UnaryOp .Not a pos) (tNotV ta):=by
 intro pins s σ H Q I h
 refine UnaryOp_ (thn (ha pins s σ H _ I h) fun v s1 ⟨x,H1,I1,r1,q1⟩=>?_)
 obtain⟨c,rfl,q1⟩:=q1
 cases r1
 exact not_of (zBp ⟨.bl (!c),H1,I1,rfl,q1⟩)
noncomputable def tIf (t:TT)(ta tb:TE):TE:=fun σ H Q=>t σ H fun c H1=>if c=true then ta σ H1 Q else tb σ H1 Q
theorem zCJ (hc:PT X c tA)(ha:PE X a ta)(hb:PE X b tb):PE X (.IfExp c a b pos) (tIf tA ta tb):=by
 intro pins s σ H Q I h
 refine wpAny_IfExp (thn (hc pins s σ H _ I h) fun d s1 ⟨H1,I1,q1⟩=>?_)
 cases d with
 | true=>exact ha pins s1 σ H1 Q I1 q1
 | false=>exact hb pins s1 σ H1 Q I1 q1
end
noncomputable def SqL (K:PySem.W.Frag)(H:Hp)(a:Addr)(xs:List V):Prop:=
 Rd H a (.lst xs) \/
  ∃(o:Obj)(its:Array Value)(n:Nat),K.lookup a=some o/\o.cls = .type "list" /\ o.dict=none/\o.data = .seq its n/\its.size<=sizeLine/\zBO xs its.toList
noncomputable def SqT (K:PySem.W.Frag)(H:Hp)(a:Addr)(xs:List V):Prop:=
 Rd H a (.tup xs) \/
  ∃(o:Obj)(its:Array Value)(n:Nat),K.lookup a=some o/\o.cls = .type "tuple" /\ o.data = .seq its n/\its.size<=sizeLine/\zBO xs its.toList
noncomputable def absV:Value->Option V
 | .none=>some .non
 | .bool b=>some (.bl b)
 | .int i _=>some (.int i)
 | .str x _=>some (.str x)
 | .bytes b _=>some (.byt b)
 | .float b _=>some (.flt b)
 | .ref a=>some (.ref a)
 | .type n=>some (.ty n)
 | _=>none
theorem zBk.abs {x:V}(r:zBk x u):absV u=some x:=by
 cases x with
 | non=>cases r;rfl
 | bl _=>cases r;rfl
 | int _=>obtain⟨t,rfl⟩:=r;rfl
 | str _=>obtain⟨t,rfl⟩:=r;rfl
 | byt _=>obtain⟨t,rfl⟩:=r;rfl
 | flt _=>obtain⟨t,rfl⟩:=r;rfl
 | ref _=>cases r;rfl
 | ty _=>cases r;rfl
variable {y:V}
theorem zBk.inj {x:V}(r:zBk x u)(q:zBk y u):x=y:=zU (r.abs.symm.trans q.abs)
theorem zBO.inj:∀{xs ys:List V}{us:List Value},zBO xs us->zBO ys us->xs=ys
 | _,_,_,.nil,.nil=>rfl
 | _,_,_,.cons r t,.cons r' t'=>by rw[r.inj r',zBO.inj t t']
variable {K:PySem.W.Frag}
section
variable {X:Cx}{pins:lPO}{σ:St}{H:Hp}{s:Shared}{a:Addr}{xs ys:List V}
theorem SqL.of (h:H a=some (.lst xs)):SqL K H a xs:=.inl (.inl h)
theorem SqT.of (h:H a=some (.tup xs)):SqT K H a xs:=.inl (.inl h)
theorem Inv.list (I:Inv X pins σ H s)(h:SqL X.K H a xs):∃its:List Value,zBO xs its/\PlainL s.heap a its.toArray/\xs.length<=sizeLine:=by
 rcases h with h | ⟨o,its,n,hk,hc,hd,hs,hz,r⟩
 . obtain⟨z,its,n,r,e⟩:=h.ok I.hok
   exact⟨its,r,⟨_,n,e,rfl,rfl,rfl⟩,z⟩
 . refine⟨its.toList,r,⟨o,n,I.kIn a o hk,hc,hd,by simpa using hs⟩,?_⟩
   have e:=r.length
   simp only[Array.length_toList] at e
   omega
theorem Inv.tuple (I:Inv X pins σ H s)(h:SqT X.K H a xs):∃its:List Value,zBO xs its/\IsTup s.heap a its.toArray/\xs.length<=sizeLine:=by
 rcases h with h | ⟨o,its,n,hk,hc,hs,hz,r⟩
 . obtain⟨⟨z,_⟩,its,r,p⟩:=h.ok I.hok
   exact⟨its,r,p,z⟩
 . refine⟨its.toList,r,⟨o,I.kIn a o hk,hc,n,by simpa using hs⟩,?_⟩
   have e:=r.length
   simp only[Array.length_toList] at e
   omega
theorem Inv.list_inj (I:Inv X pins σ H s)(h:SqL X.K H a xs)(h':SqL X.K H a ys):xs=ys:=by
 obtain⟨its,r,⟨o,n,e,_,_,d⟩,_⟩:=I.list h
 obtain⟨its',r',⟨o',n',e',_,_,d'⟩,_⟩:=I.list h'
 rw[e] at e';cases e'
 rw[d] at d'
 injection d' with d1 _
 have:its=its':=by simpa using congrArg Array.toList d1
 subst this
 exact r.inj r'
theorem Inv.tuple_inj (I:Inv X pins σ H s)(h:SqT X.K H a xs)(h':SqT X.K H a ys):xs=ys:=by
 obtain⟨its,r,⟨o,e,_,n,d⟩,_⟩:=I.tuple h
 obtain⟨its',r',⟨o',e',_,n',d'⟩,_⟩:=I.tuple h'
 rw[e] at e';cases e'
 rw[d] at d'
 injection d' with d1 _
 have:its=its':=by simpa using congrArg Array.toList d1
 subst this
 exact r.inj r'
end
noncomputable abbrev Cx.wish (X:Cx)(E:vSP):Cx:={ X with xe:=E }
noncomputable abbrev Cx.nox (X:Cx):Cx:=X.wish fun _ _=>False
theorem Cx.Ok.wish (ok:X.Ok)(E:vSP):(X.wish E).Ok:=
 ⟨ok.mod,ok.kind,ok.glob,ok.blt,ok.above,ok.inj,ok.has,ok.cab,ok.hd,ok.frames,ok.stk,ok.exf,ok.bs,ok.bsz,ok.noex,ok.exfs,ok.funs,ok.frf⟩
theorem Cx.Ok.unwish {E:vSP}(ok:(X.wish E).Ok):X.Ok:=
 ⟨ok.mod,ok.kind,ok.glob,ok.blt,ok.above,ok.inj,ok.has,ok.cab,ok.hd,ok.frames,ok.stk,ok.exf,ok.bs,ok.bsz,ok.noex,ok.exfs,ok.funs,ok.frf⟩
section
variable {X:Cx}{pins:lPO}{σ:St}{H:Hp}{s:Shared}{E:vSP}
theorem Inv.wish (I:Inv X pins σ H s)(E:vSP):Inv (X.wish E) pins σ H s:=⟨I.ok.wish E,I.os,I.bare,I.base,I.loc,I.cell,I.free,I.freeC,I.pin,I.hok,I.len⟩
theorem Inv.unwish (I:Inv (X.wish E) pins σ H s):Inv X pins σ H s:=⟨I.ok.unwish,I.os,I.bare,I.base,I.loc,I.cell,I.free,I.freeC,I.pin,I.hok,I.len⟩
theorem SP.unwish {D:zIL}{f:Flow}{s':Shared}(h:SP (X.wish E) pins D f s'):SP X pins D f s':=by
 cases f with
 | next=>obtain⟨σ',H',I,q⟩:=h;exact⟨σ',H',I.unwish,q⟩
 | brk=>obtain⟨σ',H',I,q⟩:=h;exact⟨σ',H',I.unwish,q⟩
 | cont=>obtain⟨σ',H',I,q⟩:=h;exact⟨σ',H',I.unwish,q⟩
 | ret u=>obtain⟨v,σ',H',I,r,q⟩:=h;exact⟨v,σ',H',I.unwish,r,q⟩
theorem PSs.nox {st:List Stmt}{t:TS}(h:PSs X.nox st t):PSs X st t:=fun pins s σ H D I hw=>
 zAP (h pins s σ H D (I.wish _) hw) (fun _ _ q=>q.unwish) fun _ _ z=>False.elim z
end
section
variable {X:Cx}{st:Stmt}{rest:List Stmt}{t u:TS}{e:Expr}{te:TE}{pos:Pos}
noncomputable def tNext:TS:=fun D σ H=>D.nx σ H
noncomputable def tSeq (t u:TS):TS:=fun D σ H=>t { D with nx:=u D } σ H
theorem zAQ:PSs X [] tNext:=fun _ _ σ H _ I h=>wpAny_execs_nil ⟨σ,H,I,h⟩
theorem zO (h1:PS X st t)(h2:PSs X rest u):PSs X (st::rest) (tSeq t u):=by
 intro pins s σ H D I h
 refine wpAny_execs_cons (thn (h1 pins s σ H { D with nx:=u D } I h) fun f s1 q=>?_)
 cases f with
 | next=>
  obtain⟨σ',H',I',q⟩:=q
  exact h2 pins s1 σ' H' D I' q
 | ret v=>exact q
 | brk=>exact q
 | cont=>exact q
theorem zg (h1:PS X st t):PSs X [st] t:=by
 intro pins s σ H D I h
 refine wpAny_execs_cons (thn (h1 pins s σ H D I h) fun f s1 q=>?_)
 cases f with
 | next=>exact wpAny_execs_nil q
 | ret v=>exact q
 | brk=>exact q
 | cont=>exact q
theorem Inv.quiet {pins:lPO}(I:Inv X pins σ H s):interactive X.env=false:=by simp[interactive,I.ok.kind]
noncomputable def tDrop (te:TE):TS:=fun D σ H=>te σ H fun _ H1=>D.nx σ H1
theorem zCg (he:PE X e te)(hs:swapsWith e none pos.line X.env=pure false:=by rfl):PS X (.Expr e pos) (tDrop te):=by
 intro pins s σ H D I h
 exact wpAny_Expr_any (thn (he pins s σ H _ I h) fun v s1 ⟨x,H1,I1,r1,q1⟩=>⟨σ,H1,I1,q1⟩) I.quiet hs
noncomputable def tRet (te:TE):TS:=fun D σ H=>te σ H D.rt
theorem zAF (he:PE X e te):PS X (.Return (some e) pos) (tRet te):=by
 intro pins s σ H D I h
 exact wpAny_Return_some (thn (he pins s σ H _ I h) fun v s1 ⟨x,H1,I1,r1,q1⟩=>⟨x,σ,H1,I1,r1,q1⟩)
noncomputable def tIfS (c:TT)(t u:TS):TS:=fun D σ H=>c σ H fun b H1=>if b=true then t D σ H1 else u D σ H1
theorem zBN {a b:List Stmt}{tc:TT}(hc:PT X c tc)(ha:PSs X a t)(hb:PSs X b u):PS X (.If c a b pos) (tIfS tc t u):=by
 intro pins s σ H D I h
 refine wpAny_If (thn (hc pins s σ H _ I h) fun d s1 ⟨H1,I1,q1⟩=>?_)
 cases d with
 | true=>exact ha pins s1 σ H1 D I1 q1
 | false=>exact hb pins s1 σ H1 D I1 q1
end
noncomputable abbrev TG:=V->St->Hp->(St->Hp->Prop)->Prop
noncomputable abbrev TGs:=List V->St->Hp->(St->Hp->Prop)->Prop
noncomputable def PG (X:Cx)(target:Expr)(t:TG):Prop:=
 ∀(pins:lPO)(s:Shared)(σ:St)(H:Hp)(v:V)(u:Value)(Q:St->Hp->Prop),Inv X pins σ H s->zBk v u->t v σ H Q ->
  wpAny (model X.prog X.w) X.A (assign target X.env u) (fun _ s'=>∃ σ' H',Inv X pins σ' H' s'/\Q σ' H') X.xe s
noncomputable def PGs (X:Cx)(ts:List Expr)(t:TGs):Prop:=
 ∀(pins:lPO)(s:Shared)(σ:St)(H:Hp)(vs:List V)(us:List Value)(Q:St->Hp->Prop),Inv X pins σ H s->zBO vs us->t vs σ H Q ->
  wpAny (model X.prog X.w) X.A (assignInOrder ((assignEach ts X.env).map (·.2)) us) (fun _ s'=>∃ σ' H',Inv X pins σ' H' s'/\Q σ' H') X.xe s
noncomputable abbrev TSet:=V->V->V->Hp->(Hp->Prop)->Prop
noncomputable def PSet (X:Cx)(t:TSet):Prop:=
 ∀(pins:lPO)(s:Shared)(σ:St)(H:Hp)(o i v:V)(ov iv u:Value)(Q:Hp->Prop),Inv X pins σ H s->zBk o ov->zBk i iv->zBk v u->t o i v H Q ->
  wpAny (model X.prog X.w) X.A (setItem ov iv u) (fun _ s'=>∃H',Inv X pins σ H' s'/\Q H') X.xe s
variable {n:Nat}{body:List Stmt}{tb:TS}
section
variable {X:Cx}{pos:Pos}
noncomputable def zIC (i:Nat):TG:=fun v σ H Q=>Q (σ.set i (some v)) H
theorem zAj (hN:X.N.Nodup)(hi:X.N[i]? = some x)(hx:Loc X.env.scope x)(hf:X.fn x=true\/X.env.scope.names.lookup x=some .local:=by first | exact .inl rfl | exact .inr rfl | assumption):PG X (.Name x pos) (zIC i):=by
 intro pins s σ H v u Q I r h
 exact wpAny_assign_Name (zCf I hN hi hx r (fun s' I'=>⟨_,H,I',h⟩) hf)
noncomputable def gNil:TGs:=fun vs σ H Q=>vs=[]/\Q σ H
noncomputable def gCons (t:TG)(u:TGs):TGs:=fun vs σ H Q=>∃v r,vs=v::r/\t v σ H fun σ' H'=>u r σ' H' Q
theorem zDZ:PGs X [] gNil:=by
 intro pins s σ H vs us Q I r h
 obtain⟨e,h⟩:=h
 subst e
 cases r
 exact assignInOrder_nil ⟨σ,H,I,h⟩
theorem zBb {es:List Expr}{t:TG}{u:TGs}(h1:PG X e t)(h2:PGs X es u)
 (hs:(assignEach (e::es) X.env).map (·.2)=assign e X.env::(assignEach es X.env).map (·.2):=by rfl):PGs X (e::es) (gCons t u):=by
 intro pins s σ H vs us Q I r h
 obtain⟨v,vr,e1,h⟩:=h
 subst e1
 cases r with
 | cons r rr=>
  rw[hs]
  refine assignInOrder_cons (thn (h1 pins s σ H _ _ _ I r h) fun _ s1 ⟨σ1,H1,I1,q1⟩=>?_)
  exact h2 pins s1 σ1 H1 _ _ Q I1 rr q1
noncomputable def gTup (K:PySem.W.Frag)(n:Nat)(t:TGs):TG:=fun v σ H Q=>∃a xs,v = .ref a/\SqT K H a xs/\xs.length=n/\t xs σ H Q
theorem zEq {es:List Expr}{k:Nat}{t:TGs}(hc:X.calm=true)(h:PGs X es t)
 (hn:(assignEach es X.env).length=n:=by rfl)(hst:(assignEach es X.env).findIdx? (·.1)=none:=by rfl):PG X (.Tuple es k pos) (gTup X.K n t):=by
 intro pins s σ H v u Q I r hw
 obtain⟨a,xs,e1,hq,hl,hw⟩:=hw
 subst e1
 cases r
 obtain⟨its,rv,ht,hz⟩:=I.tuple hq
 refine assign_Tuple_tuple (I.ok.hd hc) ht (by simp[hn,<-hl,rv.length]) hst fun h' hx=>?_
 have I1:Inv X pins σ H { s with heap:=h' }:=I.kept (t':=s.toks) fun b o e=>hx b o (zc (zR e)) e
 exact h pins _ σ H xs _ Q I1 (by simpa using rv) hw
noncomputable def gSub (to ti:TE)(t:TSet):TG:=fun v σ H Q=>to σ H fun o H1=>ti σ H1 fun i H2=>t o i v H2 fun H3=>Q σ H3
theorem zDj {o i:Expr}{to ti:TE}{t:TSet}(ho:PE X o to)(hi:PE X i ti)(hs:PSet X t)
 (ha:∀v,assign (.Subscript o i pos) X.env v=(do
  let ov <-holding [v] (eval o X.env)
  let iv <-holding [v,ov] (eval i X.env)
  standAt pos
  holding [v,ov,iv] (setItem ov iv v)
  release [v,ov,iv] []):=by intro _;rfl):PG X (.Subscript o i pos) (gSub to ti t):=by
 intro pins s σ H v u Q I r h
 rw[ha]
 refine zB (zAg (thn (ho pins s σ H _ I h) fun ov s1 ⟨x,H1,I1,r1,q1⟩=>?_))
 refine zB (zAg (thn (hi pins s1 σ H1 _ I1 q1) fun iv s2 ⟨y,H2,I2,r2,q2⟩=>?_))
 refine zB (wpAny_standAt (zB (zAg (thn (hs pins s2 σ H2 x y v ov iv u _ I2 r1 r2 r q2) fun _ s3 ⟨H3,I3,q3⟩=>?_))))
 exact wpAny_release ⟨σ,H3,I3,q3⟩
noncomputable def tAsg (te:TE)(g:TG):TS:=fun D σ H=>te σ H fun x H1=>g x σ H1 D.nx
theorem zDN {tg e:Expr}{te:TE}{g:TG}(he:PE X e te)(hg:PG X tg g)(hs:swapsWithSole [tg] e pos.line X.env=pure false:=by rfl)(hw:swappedStores [tg] e X.env=pure none:=by rfl)
 (h1:(assignEach [tg] X.env).map (·.2)=[assign tg X.env]:=by rfl):PS X (.Assign [tg] e pos) (tAsg te g):=by
 intro pins s σ H D I h
 refine wpAny_Assign_stores (thn (he pins s σ H _ I h) fun v s1 ⟨x,H1,I1,r1,q1⟩=>?_) hs hw
 rw[h1]
 exact thn (hg pins s1 σ H1 x v _ I1 r1 q1) fun _ s2 q=>q
theorem zC8 {te:TE}{pos':Pos}(hN:X.N.Nodup)(hi:X.N[i]? = some x)(hx:Loc X.env.scope x)(he:PE X e te)(hs:swapsWith e (some (.Name x pos')) pos.line X.env=pure false:=by rfl)(hf:X.fn x=true\/X.env.scope.names.lookup x=some .local:=by first | exact .inl rfl | exact .inr rfl | assumption) :
 PS X (.Assign [.Name x pos'] e pos) (tAsg te (zIC i)):=by
 intro pins s σ H D I h
 refine wpAny_Assign_Name (thn (he pins s σ H _ I h) fun v s1 ⟨y,H1,I1,r1,q1⟩=>?_) hs
 exact zCf I1 hN hi hx r1 (fun s2 I2=>⟨_,H1,I2,q1⟩) hf
noncomputable def tWhile (c:TT)(tb:TS):TS:=fun D σ H=>∃W:Nat->St->Hp->Prop,(∃m,W m σ H)/\∀m σ H,W m σ H ->
 c σ H fun b H1=>if b=true then ∃N:St->Hp->Prop,(∀ σ' H',N σ' H'->∃m',m'<m/\W m' σ' H')/\tb { D with nx:=N,ct:=N,bk:=D.nx } σ H1 else D.nx σ H1
theorem zKh {tc:TT}(hp:PassesOwn (model X.prog X.w) X.A X.env X.xe)(hc:PT X c tc)(hb:PSs X body tb):PS X (.While c body [] pos) (tWhile tc tb):=by
 intro pins s σ H D I h
 obtain⟨W,⟨m0,w0⟩,turn⟩:=h
 refine wpAny_While (codeAny_whileLoop (fun n s'=>∃ σ' H',Inv X pins σ' H' s'/\W n σ' H') ?_ m0 ⟨σ,H,I,w0⟩)
 rintro n s1 ⟨σ1,H1,I1,w1⟩
 refine wpAny_passesOwn hp (thn (hc pins s1 σ1 H1 _ I1 (turn n σ1 H1 w1)) fun b s2 ⟨H2,I2,q2⟩=>?_)
 cases b with
 | true=>
  obtain⟨N,hN,q2⟩:=q2
  rw[if_pos rfl]
  refine wpAny_passesOwn hp (thn (hb pins s2 σ1 H2 _ I2 q2) fun f s3 q3=>?_)
  cases f with
  | next=>
   obtain⟨σ3,H3,I3,n3⟩:=q3
   obtain⟨m',hm,w3⟩:=hN σ3 H3 n3
   exact⟨m',hm,σ3,H3,I3,w3⟩
  | cont=>
   obtain⟨σ3,H3,I3,n3⟩:=q3
   obtain⟨m',hm,w3⟩:=hN σ3 H3 n3
   exact⟨m',hm,σ3,H3,I3,w3⟩
  | brk=>exact q3
  | ret v=>exact q3
 | false=>
  rw[if_neg zo]
  exact wpAny_execs_nil ⟨σ1,H2,I2,q2⟩
end
structure It where
 go:Nat->Hp->Prop
 yld:Nat->Hp->V->Hp->Prop
 stop:Nat->Hp->Prop
noncomputable def zG6 (X:Cx)(pins:lPO)(H:Hp)(b:Addr):Prop:=
 H b=none/\b≠X.env.locals/\b∉X.fs/\(b∈X.ex\/X.s₀.heap.objs.size<=b)/\(∀x c,X.env.cells.lookup x=some c->c≠b)/\∀p∈X.pn++pins,p.1≠b
variable {H':Hp}
theorem Inv.fpOk {pins:lPO}(I:Inv X pins σ H s)(hb:s.heap.objs.size<=b)(hn:H' b=none):zG6 X pins H' b:=by
 refine⟨hn,Nat.ne_of_gt (zm I.lt hb),I.nofs hb,.inr (zx I.sz hb),fun x c e z=>?_,fun p hp z=>?_⟩
 . obtain⟨v,q⟩:=I.cell x c e
   exact absurd (zm q.lt (by rw[z];exact hb)) (zBz _)
 . exact absurd (zm (zR (I.pin p hp).1) (by rw[z];exact hb)) (zBz _)
structure Turn (P:Program)(w:World)(K:PySem.W.Frag)(tg:Expr)(J:It)(fp:List Addr)(it:Addr)(tn:Nat->Heap->Prop):Prop where
 mem:it∈fp
 obj:∀i h,tn i h->∀b∈fp,∃o,h.get? b=some o/\∀v,o.data ≠ .cell v
 keep:∀i h h',tn i h->(∀b∈fp,∀o,h.get? b=some o->h'.get? b=some o)->tn i h'
 item:∀(X:Cx),X.prog=P->X.w=w->X.K=K->X.calm=true->∀(i:Nat)(pins:lPO)(s:Shared)(σ:St)(H:Hp)(E:vSP),Inv X pins σ H s->(∀b∈fp,zG6 X pins H b)->tn i s.heap->J.go i H ->
  wpAny (model P w) X.A (pyNext (.ref it)) (fun r s1=>∃u,r=some u /\
   wpAny (model P w) X.A (letOwnedTupleGo tg (.ref it) u) (fun _ s2=>∃x H',Inv X pins σ H' s2/\zBk x u/\J.yld i H x H'/\tn (i+1) s2.heap/\∀b∈fp,H' b=none) E s1) E s
 done:∀(X:Cx),X.prog=P->X.w=w->X.K=K->X.calm=true->∀(i:Nat)(pins:lPO)(s:Shared)(σ:St)(H:Hp)(E:vSP),Inv X pins σ H s->(∀b∈fp,zG6 X pins H b)->tn i s.heap->J.stop i H ->
  wpAny (model P w) X.A (pyNext (.ref it)) (fun r s1=>r=none/\Inv X pins σ H s1) E s
 self:∀(A:Around)(i:Nat)(s:Shared)(Q:vSP)(E:vSP),tn i s.heap->Q (.ref it) s->wpAny (model P w) A (pyIter (.ref it)) Q E s
noncomputable abbrev TI:=St->Hp->(It->Hp->Prop)->Prop
noncomputable def PIE (X:Cx)(pins:lPO)(σ:St)(tg:Expr)(R:It->Hp->Prop)(itv:Value)(s2:Shared):Prop:=
 ∃(it:Addr)(fp:List Addr)(tn:Nat->Heap->Prop)(J:It)(H':Hp),itv = .ref it/\Inv X pins σ H' s2/\Turn X.prog X.w X.K tg J fp it tn/\tn 0 s2.heap/\(∀b∈fp,zG6 X pins H' b)/\R J H'
noncomputable def PI (X:Cx)(tg iter:Expr)(wi:TI):Prop:=
 ∀(pins:lPO)(s:Shared)(σ:St)(H:Hp)(R:It->Hp->Prop),Inv X pins σ H s->wi σ H R ->
  wpAny (model X.prog X.w) X.A (eval iter X.env) (fun v s1=>wpAny (model X.prog X.w) X.A (pyIter v) (PIE X pins σ tg R) X.xe s1) X.xe s
variable {tg:Expr}
theorem zK6 {E:vSP}{it:Addr}{n:String}{vs:Array Value}(ho:s.heap.get? it=some o)(hc:o.cls = .type n)(hd:o.data = .fields vs)
 (hn:["enumerate", "zip", "dict_itemiterator", "dict_reverseitemiterator", "odict_iterator", "itertools.zip_longest", "itertools.pairwise"].contains n=false) (hQ:Q () s):wpAny M A (letOwnedTupleGo tg (.ref it) u) Q E s:=by
 unfold letOwnedTupleGo
 cases tg <;> first
  | exact zJ hQ
  | (cases u <;> first
   | exact zJ hQ
   | (refine zB (wpAny_load ho ?_)
      rw[hc,hd]
      show wpAny M A (if (["enumerate", "zip", "dict_itemiterator", "dict_reverseitemiterator", "odict_iterator", "itertools.zip_longest", "itertools.pairwise"].contains n && vs[0]? == some (rawInt _))=true then _ else _) Q E s
      rw[if_neg (by intro h;rw[hn,Bool.false_and] at h;cases h)]
      exact zJ hQ))
noncomputable def Itl (K:PySem.W.Frag)(a:Addr):It:=
 ⟨fun i H=>∃xs x,SqL K H a xs/\xs[i]? = some x,fun i H x H'=>H'=H/\∀xs,SqL K H a xs->xs[i]? = some x,fun i H=>∃xs,SqL K H a xs/\xs.length<=i⟩
noncomputable def Itt (K:PySem.W.Frag)(a:Addr):It:=
 ⟨fun i H=>∃xs x,SqT K H a xs/\xs[i]? = some x,fun i H x H'=>H'=H/\∀xs,SqT K H a xs->xs[i]? = some x,fun i H=>∃xs,SqT K H a xs/\xs.length<=i⟩
noncomputable def Itr (lo:Int)(n:Nat):It:=⟨fun i _=>i<n,fun i H x H'=>H'=H/\x = .int (lo+i),fun i _=>n<=i⟩
theorem zIQ (a it:Addr):Turn P w K tg (Itl K a) [it] it (fun i h=>h.IsListIter it a i) where
 mem:=by simp
 obj:=fun i h st b hb=>by
  have e:b=it:=by simpa using hb
  subst e
  obtain⟨o,e,c,d⟩:=st
  exact⟨o,e,fun v z=>by rw[d] at z;cases z⟩
 keep:=fun i h h' st k=>st.at fun o e=>k it (by simp) o e
 item:=by
  intro X hP hw hK hc i pins s σ H E I hf st hg
  subst hP hw hK
  obtain⟨xs,x,hq,hx⟩:=hg
  obtain⟨its,rv,p,hz⟩:=I.list hq
  obtain⟨u,hu,ru⟩:=rv.get hx
  obtain⟨f0,f1,f2,f3,f4,f5⟩:=hf it (by simp)
  refine wpAny_pyNext_list_item st p.isList (x:=u) (by simpa using hu) fun h' st' sb=>?_
  have I1:Inv X pins σ H { s with heap:=h' }:=I.turned (t':=s.toks) (fun b o hb e=>(sb.2 b hb).trans e) f0 f1 f3 f4 f5
  obtain⟨o,e,c,d⟩:=id st'
  exact⟨u,rfl,zK6 (s:={ s with heap:=h' }) e c d (by decide) ⟨x,H,I1,ru,⟨rfl,fun ys hy=>by rw[I.list_inj hy hq];exact hx⟩,st',fun b hb=>(hf b hb).1⟩⟩
 done:=by
  intro X hP hw hK hc i pins s σ H E I hf st hg
  subst hP hw hK
  obtain⟨xs,hq,hx⟩:=hg
  obtain⟨its,rv,p,hz⟩:=I.list hq
  obtain⟨f0,f1,f2,f3,f4,f5⟩:=hf it (by simp)
  have hl:=rv.length
  exact wpAny_pyNext_list_end (I.ok.hd hc) st p.isList (by simp;omega) fun h' eb=>⟨rfl,I.turned (t':=s.toks) (fun b o hb e=>eb b o hb e) f0 f1 f3 f4 f5⟩
 self:=fun _ _ _ _ _ st h=>wpAny_pyIter_listiter st h
theorem zHl (a it:Addr):Turn P w K tg (Itt K a) [it] it (fun i h=>h.IsTupleIter it a i) where
 mem:=by simp
 obj:=fun i h st b hb=>by
  have e:b=it:=by simpa using hb
  subst e
  obtain⟨o,e,c,d⟩:=st
  exact⟨o,e,fun v z=>by rw[d] at z;cases z⟩
 keep:=fun i h h' st k=>st.at fun o e=>k it (by simp) o e
 item:=by
  intro X hP hw hK hc i pins s σ H E I hf st hg
  subst hP hw hK
  obtain⟨xs,x,hq,hx⟩:=hg
  obtain⟨its,rv,p,hz⟩:=I.tuple hq
  obtain⟨u,hu,ru⟩:=rv.get hx
  obtain⟨f0,f1,f2,f3,f4,f5⟩:=hf it (by simp)
  refine wpAny_pyNext_tuple_item st (show s.heap.IsTuple a its.toArray from p) (x:=u) (by simpa using hu) fun h' st' sb=>?_
  have I1:Inv X pins σ H { s with heap:=h' }:=I.turned (t':=s.toks) (fun b o hb e=>(sb.2 b hb).trans e) f0 f1 f3 f4 f5
  obtain⟨o,e,c,d⟩:=id st'
  exact⟨u,rfl,zK6 (s:={ s with heap:=h' }) e c d (by decide) ⟨x,H,I1,ru,⟨rfl,fun ys hy=>by rw[I.tuple_inj hy hq];exact hx⟩,st',fun b hb=>(hf b hb).1⟩⟩
 done:=by
  intro X hP hw hK hc i pins s σ H E I hf st hg
  subst hP hw hK
  obtain⟨xs,hq,hx⟩:=hg
  obtain⟨its,rv,p,hz⟩:=I.tuple hq
  obtain⟨f0,f1,f2,f3,f4,f5⟩:=hf it (by simp)
  have hl:=rv.length
  exact wpAny_pyNext_tuple_end (I.ok.hd hc) st (show s.heap.IsTuple a its.toArray from p) (by simp;omega) fun h' eb=>⟨rfl,I.turned (t':=s.toks) (fun b o hb e=>eb b o hb e) f0 f1 f3 f4 f5⟩
 self:=fun _ _ _ _ _ st h=>wpAny_pyIter_tupleiter st h
theorem zHm (it:Addr)(lo:Int)(n:Nat):Turn P w K tg (Itr lo n) [it] it (fun i h=>IsRangeIter h it (lo+(i:Nat)*1) ((n:Int)-(i:Nat)) 1) where
 mem:=by simp
 obj:=fun i h st b hb=>by
  have e:b=it:=by simpa using hb
  subst e
  exact⟨_,st,fun v z=>by
   have z':Data.fields _=Data.cell v:=z
   cases z'⟩
 keep:=fun i h h' st k=>k it (by simp) _ st
 item:=by
  intro X hP hw hK hc i pins s σ H E I hf st hg
  subst hP hw hK
  obtain⟨f0,f1,f2,f3,f4,f5⟩:=hf it (by simp)
  have W:=Walks.range (prog:=X.prog) (w:=X.w) (I.ok.hd hc) it lo 1 n
  refine W.item i s _ _ hg st fun v h' tk hv st' kk=>?_
  obtain⟨t,rfl⟩:=hv
  have I1:Inv X pins σ H { s with heap:=h',toks:=tk }:=I.turned (fun b o hb e=>kk b o (by simpa using hb) e) f0 f1 f3 f4 f5
  refine⟨_,rfl,zK6 (s:={ s with heap:=h',toks:=tk }) (n := "range_iterator") st' rfl rfl (by decide) ⟨.int (lo+i),H,I1,⟨t,?_⟩,⟨rfl,rfl⟩,st',fun b hb=>(hf b hb).1⟩⟩
  rw[Int.mul_one]
 done:=by
  intro X hP hw hK hc i pins s σ H E I hf st hg
  subst hP hw hK
  obtain⟨f0,f1,f2,f3,f4,f5⟩:=hf it (by simp)
  exact wpAny_pyNext_range_end (I.ok.hd hc) st (by have:n<=i:=hg;omega) fun h' eb=>⟨rfl,I.turned (t':=s.toks) (fun b o hb e=>eb b o hb e) f0 f1 f3 f4 f5⟩
 self:=fun _ _ _ _ _ st h=>wpAny_pyIter_rangeiter st h
variable {fp:List Addr}
section
variable {X:Cx}{tg:Expr}
noncomputable def iList (K:PySem.W.Frag)(tl:TE):TI:=fun σ H R=>tl σ H fun x H1=>∃a,x = .ref a/\(∃xs,SqL K H1 a xs)/\R (Itl K a) H1
noncomputable def iTup (K:PySem.W.Frag)(tl:TE):TI:=fun σ H R=>tl σ H fun x H1=>∃a,x = .ref a/\(∃xs,SqT K H1 a xs)/\R (Itt K a) H1
theorem zCH {l:Expr}{tl:TE}(hl:PE X l tl):PI X tg l (iList X.K tl):=by
 intro pins s σ H R I h
 refine thn (hl pins s σ H _ I h) fun v s1 ⟨x,H1,I1,r1,q1⟩=>?_
 obtain⟨a,e,⟨xs,hq⟩,q⟩:=q1
 subst e
 cases r1
 obtain⟨its,rv,p,hz⟩:=I1.list hq
 refine wpAny_pyIter_list p.isList ?_
 refine⟨s1.heap.objs.size,[s1.heap.objs.size],_,_,H1,rfl,I1.kept (t':=s1.toks) fun b o e=>zI _ e,zIQ a _,⟨_,zW _ rfl,rfl,rfl⟩,fun b hb=>?_,q⟩
 have e:b=s1.heap.objs.size:=by simpa using hb
 subst e
 exact I1.fpOk (zH _) (I1.hok.fresh (zH _))
theorem zCu {l:Expr}{tl:TE}(hl:PE X l tl):PI X tg l (iTup X.K tl):=by
 intro pins s σ H R I h
 refine thn (hl pins s σ H _ I h) fun v s1 ⟨x,H1,I1,r1,q1⟩=>?_
 obtain⟨a,e,⟨xs,hq⟩,q⟩:=q1
 subst e
 cases r1
 obtain⟨its,rv,p,hz⟩:=I1.tuple hq
 refine wpAny_pyIter_tuple (show s1.heap.IsTuple a its.toArray from p) ?_
 refine⟨s1.heap.objs.size,[s1.heap.objs.size],_,_,H1,rfl,I1.kept (t':=s1.toks) fun b o e=>zI _ e,zHl a _,⟨_,zW _ rfl,rfl,rfl⟩,fun b hb=>?_,q⟩
 have e:b=s1.heap.objs.size:=by simpa using hb
 subst e
 exact I1.fpOk (zH _) (I1.hok.fresh (zH _))
theorem zHL {pins:lPO}{R:It->Hp->Prop}{E:vSP}{lo hi:Int}{t u v:Tok}{tk:Nat}(I:Inv X pins σ H s)(h1 : -(2 ^ 62)<=lo)(h2:lo<2 ^ 62)(h3 : -(2 ^ 62)<=hi)(h4:hi<2 ^ 62)
 (q:R (Itr lo (hi-lo).toNat) H):wpAny (model X.prog X.w) X.A (pyIter (.ref s.heap.objs.size)) (PIE X pins σ tg R) E { s with heap:=s.heap.push { cls:=.type "range",data:=.fields #[.int lo t,.int hi u,.int 1 v] },toks:=tk }:=by
 refine wpAny_pyIter_range (IsRange.new ..) (small_one h1 h2 h3 h4) ?_
 have I1:Inv X pins σ H { s with heap:=s.heap.push { cls:=.type "range",data:=.fields #[.int lo t,.int hi u,.int 1 v] },toks:=tk }:=I.kept fun b o e=>zI _ e
 refine⟨(s.heap.push { cls:=.type "range",data:=.fields #[.int lo t,.int hi u,.int 1 v] }).objs.size,[(s.heap.push { cls:=.type "range",data:=.fields #[.int lo t,.int hi u,.int 1 v] }).objs.size],_,_,H,rfl,
  I1.kept (t':=tk) fun b o e=>zI _ e,zHm _ lo (hi-lo).toNat,?_,fun b hb=>?_,q⟩
 . have e1:lo+((0:Nat):Int)*1=lo:=by simp
   have e2:(((hi-lo).toNat:Nat):Int)-((0:Nat):Int)=Builtin.Range.rangeSize lo hi 1:=by rw[rangeSize_one];split <;> omega
   show IsRangeIter _ _ (lo+((0:Nat):Int)*1) ((((hi-lo).toNat:Nat):Int)-((0:Nat):Int)) 1
   rw[e1,e2]
   exact zW _ rfl
 . have e:b=(s.heap.push { cls:=.type "range",data:=.fields #[.int lo t,.int hi u,.int 1 v] }).objs.size:=by simpa using hb
   subst e
   exact I1.fpOk (zH _) (I1.hok.fresh (zH _))
noncomputable def iRng1 (ta:TA):TI:=fun σ H R=>ta σ H fun vs H1=>∃j:Int,vs=[.int j] /\ -(2 ^ 62)<=j/\j<2 ^ 62/\R (Itr 0 j.toNat) H1
noncomputable def iRng2 (ta:TA):TI:=fun σ H R=>ta σ H fun vs H1=>∃i j:Int,vs=[.int i,.int j]/\(-(2 ^ 62)<=i/\i<2 ^ 62 /\ -(2 ^ 62)<=j/\j<2 ^ 62)/\R (Itr i (j-i).toNat) H1
theorem zAX {a:Expr}{ta:TA}{p:Pos}(hg:Gl X "range") (hm:X.mg "range" = none) (ha:PA X [a] ta)(hs:starEach [a] X.env=[(false,eval a X.env)]:=by rfl):PI X tg (.Call (.Name "range" p) [a] [] pos) (iRng1 ta):=by
 intro pins s σ H R I h
 refine Call_ (zCw I hg hm boot_range (PyProof.Rows.callWith_type1 (thn (ha pos pins s σ H _ I h) fun us s1 ⟨vs,H1,I1,r1,q1⟩=>?_) hs rfl))
 obtain⟨j,e,q1,q2,q⟩:=q1
 subst e
 cases r1 with
 | cons r rr=>
  cases rr
  obtain⟨t,rfl⟩:=r
  exact call_range_1 (zHL I1 (by omega) (by omega) q1 q2 (by simpa using q))
theorem zIx {a b:Expr}{ta:TA}{p pos:Pos}(hg:Gl X "range") (hm:X.mg "range" = none) (ha:PA X [a,b] ta)(hs:starEach [a,b] X.env=[(false,eval a X.env),(false,eval b X.env)]:=by rfl)(hs2:starEach [b] X.env=[(false,eval b X.env)]:=by rfl) :
 PI X tg (.Call (.Name "range" p) [a,b] [] pos) (iRng2 ta):=by
 intro pins s σ H R I h
 refine Call_ (zCw I hg hm boot_range (PyProof.Rows.callWith_type1 (thn (ha pos pins s σ H _ I h) fun us s1 ⟨vs,H1,I1,r1,q1⟩=>?_) (by rw[hs,hs2]) (by rw[hs2];rfl)))
 obtain⟨i,j,e,⟨q1,q2,q3,q4⟩,q⟩:=q1
 subst e
 cases r1 with
 | cons r rr=>
  cases rr with
  | cons r' rr=>
   cases rr
   obtain⟨t,rfl⟩:=r
   obtain⟨t',rfl⟩:=r'
   exact call_range_2 (zHL I1 q1 q2 q3 q4 q)
noncomputable def tFor (wi:TI)(g:TG)(tb:TS):TS:=fun D σ H=>wi σ H fun J H1=>∃W:Nat->Nat->St->Hp->Prop,(∃m,W 0 m σ H1)/\∀i m σ H,W i m σ H ->
 (J.stop i H/\D.nx σ H)\/(J.go i H/\∃N:St->Hp->Prop,(∀ σ' H',N σ' H'->∃m',m'<m/\W (i+1) m' σ' H')/\∀x H',J.yld i H x H'->g x σ H' fun σ2 H2=>tb { D with nx:=N,ct:=N,bk:=D.nx } σ2 H2)
noncomputable def zEp (fp:List Addr)(h:Heap):List (Addr×Obj):=fp.filterMap fun b=>(h.get? b).map fun o=>(b,o)
theorem zCM (hb:b∈fp)(e:h.get? b=some o):(b,o)∈zEp fp h:=zA7.mpr ⟨b,hb,by rw[e];rfl⟩
theorem zI7 {p:Addr×Obj}(hp:p∈zEp fp h):p.1∈fp/\h.get? p.1=some p.2:=by
 obtain⟨b,hb,e⟩:=zA7.mp hp
 cases q:h.get? b with
 | none=>rw[q] at e;cases e
 | some o=>
  rw[q] at e
  have e':(b,o)=p:=zU e
  subst e'
  exact⟨hb,q⟩
theorem Inv.pinned {pins:lPO}(I:Inv X pins σ H s)(hf:∀b∈fp,zG6 X pins H b)(ho:∀b∈fp,∃o,s.heap.get? b=some o/\∀v,o.data ≠ .cell v):Inv X (pins++zEp fp s.heap) σ H s:=
 I.pins_of fun p hp=>(zn.mp hp).elim (fun z=>I.pin p (zk _ z)) fun z=>by
  obtain⟨hb,e⟩:=zI7 z
  obtain⟨f0,f1,f2,_⟩:=hf p.1 hb
  obtain⟨o,e',d⟩:=ho p.1 hb
  rw[e] at e';cases e'
  exact⟨e,f0,f1,f2,d⟩
theorem Inv.unpinned {pins pl:lPO}(I:Inv X (pins++pl) σ H s):Inv X pins σ H s:=I.pins_of fun p hp=>I.pin p (zk _ (zAk _ hp))
theorem zBl {iter:Expr}{wi:TI}{g:TG}(hp:PassesOwn (model X.prog X.w) X.A X.env X.xe)(hc:X.calm=true)(hi:PI X tg iter wi)(hg:PG X tg g)(hb:PSs X body tb)
 (hs:∀x,foldedSetIterable iter X.env x=pure x:=by intro _;rfl):PS X (.For tg iter body [] pos) (tFor wi g tb):=by
 intro pins s σ H D I h
 refine wpAny_For (thn (hi pins s σ H _ I h) fun v s1 h1=>thn h1 fun itv s2 h2=>?_) hs
 obtain⟨it,fp,tn,J,H2,e,I2,T,st2,f2,W,⟨m0,w0⟩,turn⟩:=h2
 subst e
 have stat:∀{H':Hp},(∀b∈fp,H' b=none)->∀b∈fp,zG6 X pins H' b:=fun hn b hb=>⟨hn b hb,(f2 b hb).2⟩
 refine codeAny_forLoop_any (fun n s'=>∃i σ' H',Inv X pins σ' H' s'/\tn i s'.heap/\(∀b∈fp,H' b=none)/\W i n σ' H') ?_ m0 ⟨0,σ,H2,I2,st2,fun b hb=>(f2 b hb).1,w0⟩
 rintro n s3 ⟨i,σ3,H3,I3,st3,fr3,w3⟩
 rcases turn i n σ3 H3 w3 with ⟨stop,qn⟩ | ⟨go,N,hN,step⟩
 . refine wpAny_passesOwn hp (thn (T.done X rfl rfl rfl hc i pins s3 σ3 H3 X.xe I3 (stat fr3) st3 stop) fun r s4 ⟨hr,I4⟩=>?_)
   subst hr
   exact wpAny_execs_nil ⟨σ3,H3,I4,qn⟩
 . refine wpAny_passesOwn hp (thn (T.item X rfl rfl rfl hc i pins s3 σ3 H3 X.xe I3 (stat fr3) st3 go) fun r s4 ⟨u,hr,h4⟩=>?_)
   subst hr
   refine wpAny_passesOwn hp (thn h4 fun _ s5 ⟨x,H5,I5,r5,y5,st5,fr5⟩=>?_)
   have I5':=I5.pinned (stat fr5) (T.obj _ _ st5)
   refine wpAny_passesOwn hp (thn (hg _ s5 σ3 H5 x u _ I5' r5 (step x H5 y5)) fun _ s6 ⟨σ6,H6,I6,q6⟩=>?_)
   refine wpAny_passesOwn hp (thn (hb _ s6 σ6 H6 _ I6 q6) fun f s7 q7=>?_)
   have again:∀{σ7:St}{H7:Hp},Inv X (pins++zEp fp s5.heap) σ7 H7 s7->N σ7 H7->∃m,m<n/\∃i σ' H',Inv X pins σ' H' s7/\tn i s7.heap/\(∀b∈fp,H' b=none)/\W i m σ' H':=fun {σ7 H7} I7 n7=>by
    obtain⟨m',hm,w7⟩:=hN σ7 H7 n7
    refine⟨m',hm,i+1,σ7,H7,I7.unpinned,T.keep _ _ _ st5 fun b hb o e=>(I7.pin (b,o) (zk _ (zk _ (zCM hb e)))).1,fun b hb=>?_,w7⟩
    obtain⟨o,e,d⟩:=T.obj _ _ st5 b hb
    exact (I7.pin (b,o) (zk _ (zk _ (zCM hb e)))).2.1
   cases f with
   | next=>obtain⟨σ7,H7,I7,n7⟩:=q7;exact again I7 n7
   | cont=>obtain⟨σ7,H7,I7,n7⟩:=q7;exact again I7 n7
   | brk=>obtain⟨σ7,H7,I7,q7⟩:=q7;exact⟨σ7,H7,I7.unpinned,q7⟩
   | ret v=>obtain⟨x7,σ7,H7,I7,r7,q7⟩:=q7;exact⟨x7,σ7,H7,I7.unpinned,r7,q7⟩
end
variable {D:zIL}
theorem zDt {xs:List V}{g:TG}(Pv:Nat->St->Hp->Prop)(h0:Pv 0 σ H)(hl:∀i σ H,i<=xs.length->Pv i σ H->SqL K H a xs)
 (hs:∀i x σ H,xs[i]? = some x->Pv i σ H->g x σ H fun σ2 H2=>tb { D with nx:=Pv (i+1),ct:=Pv (i+1),bk:=D.nx } σ2 H2)(hd:∀ σ H,Pv xs.length σ H->D.nx σ H) :
 ∃W:Nat->Nat->St->Hp->Prop,(∃m,W 0 m σ H)/\∀i m σ H,W i m σ H ->
  ((Itl K a).stop i H/\D.nx σ H)\/((Itl K a).go i H/\∃N:St->Hp->Prop,(∀ σ' H',N σ' H'->∃m',m'<m/\W (i+1) m' σ' H')/\∀x H',(Itl K a).yld i H x H'->g x σ H' fun σ2 H2=>tb { D with nx:=N,ct:=N,bk:=D.nx } σ2 H2):=by
 refine⟨fun i m σ H=>m=xs.length-i/\i<=xs.length/\Pv i σ H,⟨xs.length,by simp,zi _,h0⟩,?_⟩
 rintro i m σ H ⟨rfl,hi,p⟩
 have q:=hl i σ H hi p
 by_cases hlt:i<xs.length
 . refine .inr ⟨⟨xs,xs[i],q,by simp[hlt]⟩,Pv (i+1),fun σ' H' p'=>⟨xs.length-(i+1),by omega,rfl,hlt,p'⟩,fun x H' y=>?_⟩
   obtain⟨e,y⟩:=y
   subst e
   exact hs i x σ _ (y xs q) p
 . have e:i=xs.length:=by omega
   subst e
   exact .inl ⟨⟨xs,q,zH _⟩,hd σ H p⟩
theorem zGv {xs:List V}{g:TG}(Pv:Nat->St->Hp->Prop)(h0:Pv 0 σ H)(hl:∀i σ H,i<=xs.length->Pv i σ H->SqT K H a xs)
 (hs:∀i x σ H,xs[i]? = some x->Pv i σ H->g x σ H fun σ2 H2=>tb { D with nx:=Pv (i+1),ct:=Pv (i+1),bk:=D.nx } σ2 H2)(hd:∀ σ H,Pv xs.length σ H->D.nx σ H) :
 ∃W:Nat->Nat->St->Hp->Prop,(∃m,W 0 m σ H)/\∀i m σ H,W i m σ H ->
  ((Itt K a).stop i H/\D.nx σ H)\/((Itt K a).go i H/\∃N:St->Hp->Prop,(∀ σ' H',N σ' H'->∃m',m'<m/\W (i+1) m' σ' H')/\∀x H',(Itt K a).yld i H x H'->g x σ H' fun σ2 H2=>tb { D with nx:=N,ct:=N,bk:=D.nx } σ2 H2):=by
 refine⟨fun i m σ H=>m=xs.length-i/\i<=xs.length/\Pv i σ H,⟨xs.length,by simp,zi _,h0⟩,?_⟩
 rintro i m σ H ⟨rfl,hi,p⟩
 have q:=hl i σ H hi p
 by_cases hlt:i<xs.length
 . refine .inr ⟨⟨xs,xs[i],q,by simp[hlt]⟩,Pv (i+1),fun σ' H' p'=>⟨xs.length-(i+1),by omega,rfl,hlt,p'⟩,fun x H' y=>?_⟩
   obtain⟨e,y⟩:=y
   subst e
   exact hs i x σ _ (y xs q) p
 . have e:i=xs.length:=by omega
   subst e
   exact .inl ⟨⟨xs,q,zH _⟩,hd σ H p⟩
theorem zBT {lo:Int}{g:TG}(Pv:Nat->St->Hp->Prop)(h0:Pv 0 σ H)
 (hs:∀i σ H,i<n->Pv i σ H->g (.int (lo+i)) σ H fun σ2 H2=>tb { D with nx:=Pv (i+1),ct:=Pv (i+1),bk:=D.nx } σ2 H2)(hd:∀ σ H,Pv n σ H->D.nx σ H) :
 ∃W:Nat->Nat->St->Hp->Prop,(∃m,W 0 m σ H)/\∀i m σ H,W i m σ H ->
  ((Itr lo n).stop i H/\D.nx σ H)\/((Itr lo n).go i H/\∃N:St->Hp->Prop,(∀ σ' H',N σ' H'->∃m',m'<m/\W (i+1) m' σ' H')/\∀x H',(Itr lo n).yld i H x H'->g x σ H' fun σ2 H2=>tb { D with nx:=N,ct:=N,bk:=D.nx } σ2 H2):=by
 refine⟨fun i m σ H=>m=n-i/\i<=n/\Pv i σ H,⟨n,by simp,zi _,h0⟩,?_⟩
 rintro i m σ H ⟨rfl,hi,p⟩
 by_cases hlt:i<n
 . refine .inr ⟨hlt,Pv (i+1),fun σ' H' p'=>⟨n-(i+1),by omega,rfl,hlt,p'⟩,fun x H' y=>?_⟩
   obtain⟨e,y⟩:=y
   subst e y
   exact hs i σ _ hlt p
 . have e:i=n:=by omega
   subst e
   exact .inl ⟨zH _,hd σ H p⟩
noncomputable abbrev R2:=V->V->Hp->VK->Prop
noncomputable def OpR (X:Cx)(f:Value->Value->Sem Value)(r:R2):Prop:=
 ∀(pins:lPO)(s:Shared)(σ:St)(H:Hp)(x y:V)(v u:Value)(Q:VK),Inv X pins σ H s->zBk x v->zBk y u->r x y H Q ->
  wpAny (model X.prog X.w) X.A (f v u) (EP X pins σ Q) X.xe s
noncomputable def UnR (X:Cx)(f:Value->Sem Value)(r:V->Hp->VK->Prop):Prop:=
 ∀(pins:lPO)(s:Shared)(σ:St)(H:Hp)(x:V)(v:Value)(Q:VK),Inv X pins σ H s->zBk x v->r x H Q ->
  wpAny (model X.prog X.w) X.A (f v) (EP X pins σ Q) X.xe s
noncomputable def zCS (X:Cx)(f:Value)(r:List V->Hp->VK->Prop):Prop:=
 ∀(pins:lPO)(s:Shared)(σ:St)(H:Hp)(xs:List V)(us:List Value)(Q:VK),Inv X pins σ H s->zBO xs us->r xs H Q ->
  wpAny (model X.prog X.w) X.A (call f us) (EP X pins σ Q) X.xe s
noncomputable def TruR (X:Cx)(r:V->Hp->(Bool->Hp->Prop)->Prop):Prop:=
 ∀(pins:lPO)(s:Shared)(σ:St)(H:Hp)(x:V)(v:Value)(Q:Bool->Hp->Prop),Inv X pins σ H s->zBk x v->r x H Q ->
  wpAny (model X.prog X.w) X.A (truthy v) (TP X pins σ Q) X.xe s
noncomputable def tOp (r:R2)(ta tb:TE):TE:=fun σ H Q=>ta σ H fun x H1=>tb σ H1 fun y H2=>r x y H2 Q
noncomputable def tUn (r:V->Hp->VK->Prop)(ta:TE):TE:=fun σ H Q=>ta σ H fun x H1=>r x H1 Q
noncomputable def rI (C:Int->Int->Prop)(g:Int->Int->V):R2:=fun x y H Q=>∃i j,x = .int i/\y = .int j/\C i j/\Q (g i j) H
noncomputable def rI0 (g:Int->Int->V):R2:=fun x y H Q=>∃i j,x = .int i/\y = .int j/\Q (g i j) H
noncomputable def rU (g:Int->V):V->Hp->VK->Prop:=fun x H Q=>∃i,x = .int i/\Q (g i) H
variable {f:Value->Value->Sem Value}
section
variable {X:Cx}{a b c:Expr}{ta tb tc:TE}{pos:Pos}
theorem binT (ha:PE X a ta)(hb:PE X b tb){pins:lPO}{R:V->V->Hp->Prop}(I:Inv X pins σ H s)
 (h:ta σ H fun x H1=>tb σ H1 fun y H2=>R x y H2){Q:vSP}
 (hf:∀v u s2 x y H2,Inv X pins σ H2 s2->zBk x v->zBk y u->R x y H2->wpAny (model X.prog X.w) X.A (f v u) Q X.xe s2) :
 wpAny (model X.prog X.w) X.A (eval a X.env) (fun v s₁=>wpAny (model X.prog X.w) X.A (eval b X.env) (fun u s₂=>wpAny (model X.prog X.w) X.A (f v u) Q X.xe s₂) X.xe s₁) X.xe s:=by
 refine thn (ha pins s σ H _ I h) fun v s1 ⟨x,H1,I1,r1,q1⟩=>?_
 refine thn (hb pins s1 σ H1 _ I1 q1) fun u s2 ⟨y,H2,I2,r2,q2⟩=>?_
 exact hf v u s2 x y H2 I2 r1 r2 q2
theorem zAS {op:Operator}{r:R2}(ho:OpR X (binaryOp op) r)(ha:PE X a ta)(hb:PE X b tb):PE X (.BinOp a op b pos) (tOp r ta tb):=by
 intro pins s σ H Q I h
 exact wpAny_BinOp (binT ha hb I h fun v u s2 x y H2 I2 rx ry q=>ho pins s2 σ H2 x y v u Q I2 rx ry q)
theorem zDp {op:UnaryOp}{r:V->Hp->VK->Prop}(ho:UnR X (unaryOp op) r)(ha:PE X a ta):PE X (.UnaryOp op a pos) (tUn r ta):=by
 intro pins s σ H Q I h
 exact UnaryOp_ (thn (ha pins s σ H _ I h) fun v s1 ⟨x,H1,I1,r1,q1⟩=>ho pins s1 σ H1 x v Q I1 r1 q1)
theorem opI {C:Int->Int->Prop}{g:Int->Int->Int}
 (rule:∀(i j:Int)(t u:Tok)(s:Shared)(Q:vSP)(E:vSP),C i j->Q (.int (g i j) s.toks) { s with toks:=s.toks+1 }->wpAny (model X.prog X.w) X.A (f (.int i t) (.int j u)) Q E s) :
 OpR X f (rI C fun i j=>.int (g i j)):=by
 intro pins s σ H x y v u Q I rx ry h
 obtain⟨i,j,rfl,rfl,hc,q⟩:=h
 obtain⟨t,rfl⟩:=rx
 obtain⟨t',rfl⟩:=ry
 exact rule i j t t' s _ _ hc ⟨.int (g i j),H,I.tok _,⟨_,rfl⟩,q⟩
theorem opI0 {g:Int->Int->Int}
 (rule:∀(i j:Int)(t u:Tok)(s:Shared)(Q:vSP)(E:vSP),Q (.int (g i j) s.toks) { s with toks:=s.toks+1 }->wpAny (model X.prog X.w) X.A (f (.int i t) (.int j u)) Q E s) :
 OpR X f (rI0 fun i j=>.int (g i j)):=by
 intro pins s σ H x y v u Q I rx ry h
 obtain⟨i,j,rfl,rfl,q⟩:=h
 obtain⟨t,rfl⟩:=rx
 obtain⟨t',rfl⟩:=ry
 exact rule i j t t' s _ _ ⟨.int (g i j),H,I.tok _,⟨_,rfl⟩,q⟩
theorem opB0 {g:Int->Int->Bool}
 (rule:∀(i j:Int)(t u:Tok)(s:Shared)(Q:vSP)(E:vSP),Q (.bool (g i j)) s->wpAny (model X.prog X.w) X.A (f (.int i t) (.int j u)) Q E s) :
 OpR X f (rI0 fun i j=>.bl (g i j)):=by
 intro pins s σ H x y v u Q I rx ry h
 obtain⟨i,j,rfl,rfl,q⟩:=h
 obtain⟨t,rfl⟩:=rx
 obtain⟨t',rfl⟩:=ry
 exact rule i j t t' s _ _ ⟨.bl (g i j),H,I,rfl,q⟩
noncomputable def CDiv (i j:Int):Prop:=0<j/\j<1073741824
noncomputable def CPow (i j:Int):Prop:=0<=j/\j<=1000000/\i.natAbs<2 ^ 64
noncomputable def CMul (i j:Int):Prop:=(-(2 ^ 64)<i/\i<2 ^ 64)\/(-(2 ^ 64)<j/\j<2 ^ 64)
theorem CMul.ok {i j:Int}(h:CMul i j):IntMulOk i j:=by
 rcases h with ⟨h1,h2⟩ | ⟨h1,h2⟩
 . exact .of_left (intBits_le_64 h1 h2)
 . exact .of_right (intBits_le_64 h1 h2)
theorem zHk (k:Nat):(0:Int)<=2 ^ k:=by
 rw[two_pow_cast]
 exact Int.natCast_nonneg _
theorem zBd:OpR X (binaryOp .Add) (rI0 fun i j=>.int (i+j)):=opI0 fun _ _ _ _ _ _ _ q=>add_int q
theorem zI1:OpR X (binaryOp .Sub) (rI0 fun i j=>.int (i-j)):=opI0 fun _ _ _ _ _ _ _ q=>sub_int q
theorem zF1:OpR X (binaryOp .Mult) (rI CMul fun i j=>.int (i*j)):=opI fun _ _ _ _ _ _ _ hc q=>mul_int q hc.ok
theorem zFL:OpR X (binaryOp .FloorDiv) (rI CDiv fun i j=>.int (i/j)):=opI fun i j _ _ _ _ _ hc q=>by
 have h1:(0:Int)<j:=hc.1
 have h2:j<1073741824:=hc.2
 exact floordiv_int (by omega) (by rw[Int.fdiv_eq_ediv_of_nonneg i (by omega)];exact q) (.inl (PyProof.noPylong_small (by omega)))
theorem zEA:OpR X (binaryOp .Mod) (rI (fun _ j=>0<j) fun i j=>.int (i%j)):=opI fun i j _ _ _ _ _ hc q=>by
 have h1:(0:Int)<j:=hc
 exact mod_int' (by omega) (by rw[Int.fmod_eq_emod_of_nonneg i (by omega)];exact q)
theorem op_pow:OpR X (binaryOp .Pow) (rI CPow fun i j=>.int (i ^ j.toNat)):=opI fun _ _ _ _ _ _ _ hc q=>pow_int_small hc.1 hc.2.1 hc.2.2 q
theorem zCc:OpR X (binaryOp .LShift) (rI CPow fun i j=>.int (i*2 ^ j.toNat)):=opI fun _ _ _ _ _ _ _ hc q=>lshift_int_small hc.1 hc.2.1 hc.2.2 q
theorem zI2:OpR X (binaryOp .RShift) (rI (fun _ j=>0<=j) fun i j=>.int (i/2 ^ j.toNat)):=opI fun i j _ _ _ _ _ hc q=>
 rshift_int hc (by rw[Int.fdiv_eq_ediv_of_nonneg i (zHk _)];exact q)
theorem zEt:OpR X (binaryOp .BitAnd) (rI0 fun i j=>.int (Builtin.bitAnd i j)):=opI0 fun _ _ _ _ _ _ _ q=>and_int q
theorem op_or:OpR X (binaryOp .BitOr) (rI0 fun i j=>.int (Builtin.bitOr i j)):=opI0 fun _ _ _ _ _ _ _ q=>or_int q
theorem unI {f:Value->Sem Value}{g:Int->Int}
 (rule:∀(i:Int)(t:Tok)(s:Shared)(Q:vSP)(E:vSP),Q (.int (g i) s.toks) { s with toks:=s.toks+1 }->wpAny (model X.prog X.w) X.A (f (.int i t)) Q E s) :
 UnR X f (rU fun i=>.int (g i)):=by
 intro pins s σ H x v Q I rx h
 obtain⟨i,rfl,q⟩:=h
 obtain⟨t,rfl⟩:=rx
 exact rule i t s _ _ ⟨.int (g i),H,I.tok _,⟨_,rfl⟩,q⟩
theorem zCm:UnR X (unaryOp .USub) (rU fun i=>.int (-i)):=unI fun _ _ _ _ _ q=>neg_int q
end
noncomputable def scal:V->V->Bool
 | .non,.non=>true | .non,.int _=>true | .int _,.non=>true | .non,.bl _=>true | .bl _,.non=>true | .non,.str _=>true | .str _,.non=>true
 | .int _,.int _=>true | .bl _,.bl _=>true | .str _,.str _=>true | .byt _,.byt _=>true
 | .int _,.str _=>true | .str _,.int _=>true | .bl _,.str _=>true | .str _,.bl _=>true
 | _,_=>false
noncomputable def rEq:R2:=fun x y H Q=>scal x y=true/\Q (.bl (decide (x=y))) H
noncomputable def rNe:R2:=fun x y H Q=>scal x y=true/\Q (.bl (!decide (x=y))) H
theorem zJr {i j:Int}:decide (V.int i=V.int j)=(i==j):=by
 rw[Bool.eq_iff_iff]
 simp
theorem zLv {i j:Bool}:decide (V.bl i=V.bl j)=(i==j):=by
 rw[Bool.eq_iff_iff]
 simp
theorem zJq {i j:Str}:decide (V.str i=V.str j)=(i==j):=by
 rw[Bool.eq_iff_iff]
 simp
theorem zJs {i j:Array UInt8}:decide (V.byt i=V.byt j)=(i.toList==j.toList):=by
 rw[Bool.eq_iff_iff]
 cases i
 cases j
 simp
variable {op:CmpOp}
section
variable {X:Cx}{a b c:Expr}{ta tb tc:TE}{pos:Pos}
theorem zBD {pins:lPO}{Q:VK}{k k':Bool}(I:Inv X pins σ H s)(q:Q (.bl k) H)(e:k=k'):EP X pins σ Q (.bool k') s:=by
 subst e
 exact⟨.bl k,H,I,rfl,q⟩
theorem zCI:OpR X (compareOp .Eq) rEq:=by
 intro pins s σ H x y v u Q I rx ry h
 obtain⟨hs,q⟩:=h
 cases x with
 | non=>
  cases rx
  cases y with
  | non=>cases ry;exact PySem.EqNone.eq_none_none (zBD I q (by simp))
  | bl j=>cases ry;exact PySem.EqNone.eq_none_bool (zBD I q (by simp))
  | int j=>obtain⟨t',rfl⟩:=ry;exact PySem.EqNone.eq_none_int (zBD I q (by simp))
  | str j=>obtain⟨t',rfl⟩:=ry;exact PySem.EqNone.eq_none_str (zBD I q (by simp))
  | _=>exact absurd (show false=true from hs) zo
 | bl i=>
  cases rx
  cases y with
  | non=>cases ry;exact PySem.EqNone.eq_bool_none (zBD I q (by simp))
  | bl j=>cases ry;exact eq_bool (zBD I q zLv)
  | str j=>obtain⟨t',rfl⟩:=ry;exact PySem.EqMixed.eq_bool_str (zBD I q (by simp))
  | _=>exact absurd (show false=true from hs) zo
 | int i=>
  obtain⟨t,rfl⟩:=rx
  cases y with
  | non=>cases ry;exact PySem.EqNone.eq_int_none (zBD I q (by simp))
  | int j=>obtain⟨t',rfl⟩:=ry;exact eq_int (zBD I q zJr)
  | str j=>obtain⟨t',rfl⟩:=ry;exact PySem.EqMixed.eq_int_str (zBD I q (by simp))
  | _=>exact absurd (show false=true from hs) zo
 | str i=>
  obtain⟨t,rfl⟩:=rx
  cases y with
  | non=>cases ry;exact PySem.EqNone.eq_str_none (zBD I q (by simp))
  | bl j=>cases ry;exact PySem.EqMixed.eq_str_bool (zBD I q (by simp))
  | int j=>obtain⟨t',rfl⟩:=ry;exact PySem.EqMixed.eq_str_int (zBD I q (by simp))
  | str j=>obtain⟨t',rfl⟩:=ry;exact eq_str (zBD I q zJq)
  | _=>exact absurd (show false=true from hs) zo
 | byt i=>
  obtain⟨t,rfl⟩:=rx
  cases y with
  | byt j=>obtain⟨t',rfl⟩:=ry;exact PySem.W.eq_bytes (zBD I q zJs)
  | _=>exact absurd (show false=true from hs) zo
 | _=>cases y <;> exact absurd (show false=true from hs) zo
theorem zHx:OpR X (compareOp .NotEq) rNe:=by
 intro pins s σ H x y v u Q I rx ry h
 obtain⟨hs,q⟩:=h
 cases x with
 | non=>
  cases rx
  cases y with
  | non=>cases ry;exact PySem.EqNone.ne_none_none (zBD I q (by simp))
  | bl j=>cases ry;exact PySem.EqNone.ne_none_bool (zBD I q (by simp))
  | int j=>obtain⟨t',rfl⟩:=ry;exact PySem.EqNone.ne_none_int (zBD I q (by simp))
  | str j=>obtain⟨t',rfl⟩:=ry;exact PySem.EqNone.ne_none_str (zBD I q (by simp))
  | _=>exact absurd (show false=true from hs) zo
 | bl i=>
  cases rx
  cases y with
  | non=>cases ry;exact PySem.EqNone.ne_bool_none (zBD I q (by simp))
  | bl j=>cases ry;exact ne_bool (zBD I q (congrArg not zLv))
  | str j=>obtain⟨t',rfl⟩:=ry;exact PySem.EqMixed.ne_bool_str (zBD I q (by simp))
  | _=>exact absurd (show false=true from hs) zo
 | int i=>
  obtain⟨t,rfl⟩:=rx
  cases y with
  | non=>cases ry;exact PySem.EqNone.ne_int_none (zBD I q (by simp))
  | int j=>obtain⟨t',rfl⟩:=ry;exact ne_int (zBD I q (congrArg not zJr))
  | str j=>obtain⟨t',rfl⟩:=ry;exact PySem.EqMixed.ne_int_str (zBD I q (by simp))
  | _=>exact absurd (show false=true from hs) zo
 | str i=>
  obtain⟨t,rfl⟩:=rx
  cases y with
  | non=>cases ry;exact PySem.EqNone.ne_str_none (zBD I q (by simp))
  | bl j=>cases ry;exact PySem.EqMixed.ne_str_bool (zBD I q (by simp))
  | int j=>obtain⟨t',rfl⟩:=ry;exact PySem.EqMixed.ne_str_int (zBD I q (by simp))
  | str j=>obtain⟨t',rfl⟩:=ry;exact ne_str (zBD I q (congrArg not zJq))
  | _=>exact absurd (show false=true from hs) zo
 | byt i=>
  obtain⟨t,rfl⟩:=rx
  cases y with
  | byt j=>obtain⟨t',rfl⟩:=ry;exact PySem.W.ne_bytes (zBD I q (congrArg not zJs))
  | _=>exact absurd (show false=true from hs) zo
 | _=>cases y <;> exact absurd (show false=true from hs) zo
theorem zI3:OpR X (compareOp .Lt) (rI0 fun i j=>.bl (decide (i<j))):=opB0 fun _ _ _ _ _ _ _ q=>lt_int q
theorem zMe:OpR X (compareOp .LtE) (rI0 fun i j=>.bl (decide (i<=j))):=opB0 fun _ _ _ _ _ _ _ q=>le_int q
theorem zFK:OpR X (compareOp .Gt) (rI0 fun i j=>.bl (decide (j<i))):=opB0 fun _ _ _ _ _ _ _ q=>gt_int q
theorem op_ge:OpR X (compareOp .GtE) (rI0 fun i j=>.bl (decide (j<=i))):=opB0 fun _ _ _ _ _ _ _ q=>ge_int q
theorem zDP:OpR X (compareOp .Is) (fun x y H Q=>y = .non/\Q (.bl (decide (x = .non))) H):=by
 intro pins s σ H x y v u Q I rx ry h
 obtain⟨rfl,q⟩:=h
 cases ry
 refine is_none_gen (zBD I q ?_)
 cases x <;> first
  | (cases rx;rfl)
  | (obtain⟨t,rfl⟩:=rx;rfl)
theorem zFJ:OpR X (compareOp .IsNot) (fun x y H Q=>y = .non/\Q (.bl (!decide (x = .non))) H):=by
 intro pins s σ H x y v u Q I rx ry h
 obtain⟨rfl,q⟩:=h
 cases ry
 refine isnot_none_gen (zBD I q ?_)
 cases x <;> first
  | (cases rx;rfl)
  | (obtain⟨t,rfl⟩:=rx;rfl)
theorem zAI (b:Expr)(h:op ≠ .In:=by decide)(h2:op ≠ .NotIn:=by decide):behindInMarks op b=false:=by
 have e1:(op==CmpOp.In)=false:=by cases op <;> first | rfl | exact absurd rfl h
 have e2:(op==CmpOp.NotIn)=false:=by cases op <;> first | rfl | exact absurd rfl h2
 cases b <;> simp[behindInMarks,e1,e2]
theorem zCO {r:R2}(ho:OpR X (compareOp op) r)(ha:PE X a ta)(hb:PE X b tb)(hm:behindInMarks op b=false):PE X (.Compare a [op] [b] pos) (tOp r ta tb):=by
 intro pins s σ H Q I h
 exact wpAny_Compare1 (binT ha hb I h fun v u s2 x y H2 I2 rx ry q=>ho pins s2 σ H2 x y v u Q I2 rx ry q) hm
noncomputable def tTest (t:TE):TT:=fun σ H Q=>t σ H fun x H'=>∃k,x = .bl k/\Q k H'
theorem zAC {r:R2}(ho:OpR X (compareOp op) r)(ha:PE X a ta)(hb:PE X b tb)(hm:behindInMarks op b=false):PT X (.Compare a [op] [b] pos) (tTest (tOp r ta tb)):=by
 intro pins s σ H Q I h
 refine wpAny_isTrue_Compare1 (thn (ha pins s σ H _ I h) fun v s1 ⟨x,H1,I1,r1,q1⟩=>thn (hb pins s1 σ H1 _ I1 q1) fun u s2 ⟨y,H2,I2,r2,q2⟩=>
  thn (ho pins s2 σ H2 x y v u _ I2 r1 r2 q2) fun c s3 ⟨z,H3,I3,r3,k,e,q3⟩=>?_) hm
 subst e
 cases r3
 exact zBp ⟨H3,I3,q3⟩
noncomputable def TruV (K:PySem.W.Frag)(x:V)(H:Hp)(k:Bool):Prop:=
 match x with
 | .non=>k=false
 | .bl b=>k=b
 | .int i=>k=(i != 0)
 | .str y=>y.length<=sizeLine/\k=((y.length:Int) != 0)
 | .byt y=>y.size<=sizeLine/\k=((y.size:Int) != 0)
 | .ref p=>(∃xs,SqL K H p xs/\k = !xs.isEmpty)\/(∃xs,SqT K H p xs/\k = !xs.isEmpty)\/∃kvs,H p=some (.dK kvs)/\k = !kvs.isEmpty
 | _=>False
theorem zH9 {κ:Type}{kvs:List (κ×V)}{vs:List (κ×Value)}(r:KV kvs vs):(!vs.isEmpty) = !kvs.isEmpty:=by
 cases r <;> rfl
theorem zEz {xs:List V}{its:List Value}(r:zBO xs its):(!its.toArray.isEmpty) = !xs.isEmpty:=by
 cases r <;> simp
theorem zF4:(sizeLine:Nat)<2 ^ 63:=by rw[sizeLine_eq];decide
theorem tru_ok:TruR X (fun x H Q=>∃k,TruV X.K x H k/\Q k H):=by
 intro pins s σ H x v Q I rx h
 obtain⟨k,e,q⟩:=h
 have hl:=zF4
 have hs:sizeLine=16777216:=sizeLine_eq
 cases x with
 | non=>
  cases rx
  have e':k=false:=e
  subst e'
  exact truthy_none ⟨H,I,q⟩
 | bl b=>
  cases rx
  have e':k=b:=e
  subst e'
  exact zBp ⟨H,I,q⟩
 | int i=>
  obtain⟨t,rfl⟩:=rx
  have e':k=(i != 0):=e
  subst e'
  exact PySem.P.truthy_int ⟨H,I,q⟩
 | str y=>
  obtain⟨t,rfl⟩:=rx
  obtain⟨hy,e'⟩:y.length<=sizeLine/\k=((y.length:Int) != 0):=e
  subst e'
  exact PySem.P.truthy_str (by omega) ⟨H,I.tok _,q⟩
 | byt y=>
  obtain⟨t,rfl⟩:=rx
  obtain⟨hy,e'⟩:y.size<=sizeLine/\k=((y.size:Int) != 0):=e
  subst e'
  exact PySem.W.truthy_bytes (by omega) ⟨H,I.tok _,q⟩
 | ref p=>
  cases rx
  have e':(∃xs,SqL X.K H p xs/\k = !xs.isEmpty)\/(∃xs,SqT X.K H p xs/\k = !xs.isEmpty)\/∃kvs,H p=some (.dK kvs)/\k = !kvs.isEmpty:=e
  rcases e' with ⟨xs,hx,e'⟩ | ⟨xs,hx,e'⟩ | ⟨kvs,hx,e'⟩
  . subst e'
    obtain⟨its,r,pl,hz⟩:=I.list hx
    have hlen:=r.length
    exact wpAny_truthy_list pl.isList (by simp only[zQ];omega) ⟨H,I.tok _,by rw[zEz r];exact q⟩
  . subst e'
    obtain⟨its,r,pl,hz⟩:=I.tuple hx
    have hlen:=r.length
    exact truthy_tuple pl (by simp only[zQ];omega) ⟨H,I.tok _,by rw[zEz r];exact q⟩
  . subst e'
    obtain⟨hz,hS,vs,r,m⟩:kvs.length<=sizeLine/\(p==sysModules)=false/\∃vs,KV kvs vs/\s.heap.DictOf (zA9 X.prog X.w) p vs:=I.hok p _ hx
    have hlen:kvs.length=vs.length:=Paired.length r
    exact wpAny_truthy_dict hS m (by omega) ⟨H,I.tok _,by rw[zH9 r];exact q⟩
 | _=>exact (show False from e).elim
theorem zKg (ha:PE X a ta)(he:∀whole,isTrue a X.env whole=(do let v <-whole;standAt a.pos;holding [v] (truthy v))) :
 PT X a (fun σ H Q=>ta σ H fun x H'=>∃k,TruV X.K x H' k/\Q k H'):=by
 intro pins s σ H Q I h
 exact isTrue_plain (thn (ha pins s σ H _ I h) fun v s1 ⟨x,H1,I1,r1,q1⟩=>tru_ok pins s1 σ H1 x v Q I1 r1 q1) (he _)
theorem zCq {x:V}(r:zBO [x] us):∃u,us=[u]/\zBk x u:=by
 cases r with
 | cons r1 r2=>cases r2;exact⟨_,rfl,r1⟩
theorem zIO {x:V}(r:zBO [x,y] us):∃u w',us=[u,w']/\zBk x u/\zBk y w':=by
 cases r with
 | cons r1 r2=>
  cases r2 with
  | cons r3 r4=>cases r4;exact⟨_,_,rfl,r1,r3⟩
theorem zGR (hc:X.calm=true):zCS X (.builtin "min") (fun xs H Q=>∃i j,xs=[.int i,.int j]/\Q (.int (if j<i then j else i)) H):=by
 intro pins s σ H xs us Q I r h
 obtain⟨i,j,rfl,q⟩:=h
 obtain⟨u,w',rfl,⟨t,rfl⟩,⟨t',rfl⟩⟩:=zIO r
 refine min_two_ints (I.ok.hd hc) fun h' tk k=>⟨_,H,I.kept k,?_,q⟩
 by_cases hj:j<i
 . rw[if_pos hj,if_pos hj];exact⟨_,rfl⟩
 . rw[if_neg hj,if_neg hj];exact⟨_,rfl⟩
end
structure ObjM (h:Heap)(x dx C:Addr)(mA:sOV):Prop where
 obj:h.get? x=some (PySem.W.instObj C dx)
 ns:h.Ns1 dx mA
 ne:dx≠x
theorem zJG {dx:Addr}{mA:sOV}(n:h.Ns1 dx mA):∃od,h.get? dx=some od/\∀name,PySem.W.lookIn name od=some (mA name):=by
 obtain⟨o,es,ep,ho,hd,hk,_,hm⟩:=n
 refine⟨o,ho,fun name=>?_⟩
 have e:=hm name
 unfold nsFind findBy at e
 rw[<-Array.find?_toList] at e
 unfold PySem.W.lookIn
 rw[hd]
 dsimp only
 split
 . rename_i y q
   rw[q] at e
   exact congrArg some e
 . rename_i q
   rw[q] at e
   have a:es.toList.any (·.refKey)=false:=by
    rw[List.any_eq_false]
    intro y hy
    obtain⟨z,t,hkey⟩:=hk y (Array.mem_toList_iff.mp hy)
    simp[DictEntry.refKey,hkey]
   have a':¬ es.toList.any (·.refKey)=true:=by rw[a];exact zo
   rw[if_neg a']
   exact congrArg some e
variable {C:Addr}
theorem ObjM.look {x dx:Addr}{mA:sOV}(I:ObjM h x dx C mA):∃od,PySem.W.InstAt h x (PySem.W.instObj C dx) C (some od)/\∀name,PySem.W.lookIn name od=some (mA name):=
 let ⟨od,ho,hl⟩:=zJG I.ns
 ⟨od,⟨I.obj,rfl,rfl,ho⟩,hl⟩
noncomputable def zIK (f:Str)(v:V):List (Str×V)->List (Str×V)
 | []=>[(f,v)]
 | (g,x)::r=>if g=f then (g,v)::r else (g,x)::zIK f v r
theorem zED (f g:Str)(v:V):∀fs:List (Str×V),(zIK f v fs).lookup g=if g=f then some v else fs.lookup g
 | []=>by
  show List.lookup g [(f,v)]=_
  by_cases h:g=f
  . have hb:(g==f)=true:=beq_iff_eq.mpr h
    simp only[List.lookup,hb,if_pos h]
  . have hb:(g==f)=false:=beq_eq_false_iff_ne.mpr h
    simp only[List.lookup,hb,if_neg h]
 | (k,x)::r=>by
  have ih:=zED f g v r
  rw[show zIK f v ((k,x)::r)=(if k=f then (k,v)::r else (k,x)::zIK f v r) from rfl]
  by_cases hk:k=f
  . rw[if_pos hk]
    by_cases h:g=k
    . have hb:(g==k)=true:=beq_iff_eq.mpr h
      simp only[List.lookup,hb,if_pos (h.trans hk)]
    . have hb:(g==k)=false:=beq_eq_false_iff_ne.mpr h
      simp only[List.lookup,hb,if_neg (fun e:g=f=>h (e.trans hk.symm))]
  . rw[if_neg hk]
    by_cases h:g=k
    . have hb:(g==k)=true:=beq_iff_eq.mpr h
      simp only[List.lookup,hb,if_neg (fun e:g=f=>hk (h.symm.trans e))]
    . have hb:(g==k)=false:=beq_eq_false_iff_ne.mpr h
      simp only[List.lookup,hb]
      exact ih
theorem zEI (f:Str)(v:V):∀fs:List (Str×V),f∈(zIK f v fs).map (·.1)/\∀g,g∈fs.map (·.1)->g∈(zIK f v fs).map (·.1)
 | []=>⟨by simp[zIK],fun g h=>by simp at h⟩
 | (k,x)::r=>by
  obtain⟨i1,i2⟩:=zEI f v r
  rw[show zIK f v ((k,x)::r)=(if k=f then (k,v)::r else (k,x)::zIK f v r) from rfl]
  by_cases hk:k=f
  . rw[if_pos hk]
    subst hk
    exact⟨by simp,fun g h=>by simpa using h⟩
  . rw[if_neg hk]
    refine⟨?_,fun g h=>?_⟩
    . rw[zAA]
      exact zX _ i1
    . rw[zAA] at h ⊢
      rcases zY.mp h with e | e
      . exact zY.mpr (.inl e)
      . exact zX _ (i2 g e)
theorem zE5.some_of {o:Option Value}(r:zE5 (some v) o):∃u,o=some u/\zBk v u:=by
 cases o with
 | none=>exact (show False from r).elim
 | some u=>exact⟨u,rfl,r⟩
theorem zJY (r:zBk v u):PySem.W.handedIn u=true:=by
 cases v with
 | non=>cases (show u=Value.none from r);rfl
 | bl b=>cases (show u=Value.bool b from r);rfl
 | int i=>obtain⟨t,e⟩:=(show ∃t,u=Value.int i t from r);cases e;rfl
 | str x=>obtain⟨t,e⟩:=(show ∃t,u=Value.str x t from r);cases e;rfl
 | byt b=>obtain⟨t,e⟩:=(show ∃t,u=Value.bytes b t from r);cases e;rfl
 | flt b=>obtain⟨t,e⟩:=(show ∃t,u=Value.float b t from r);cases e;rfl
 | ref a=>cases (show u=Value.ref a from r);rfl
 | ty n=>cases (show u=Value.type n from r);rfl
section
variable {P:Program}{w:World}{H H':Hp}{h h':Heap}{a C dx:Addr}{fs fs':List (Str×V)}
theorem zNA (hok:HOk P w H h)(e:H a=some (.ins C dx fs)):∃mA,ObjM h a dx C mA/\(∀f,zE5 (fs.lookup f) (mA f))/\PySem.Within mA (fs.map (·.1))/\fs.length<=1000/\H dx=some (.own a):=by
 obtain⟨d,z,ne,ob,mA,n,r,q⟩:=(show zBP P w H h a (.ins C dx fs) from hok a _ e)
 exact⟨mA,⟨ob,n,ne⟩,r,q,z,d⟩
end
structure Cls (K:PySem.W.Frag)(C:Addr):Prop where
 pg:PySem.W.plainGet K C Str.empty=true
 hd:PySem.W.hasDictIn K C=true
 po:PySem.W.plainOver K C=true
 sa:PySem.W.findIn K (.ref C) "__setattr__" = some (some (.builtin "object.__setattr__"))
theorem Cls.get (c:Cls K C)(f:Str):PySem.W.plainGet K C f=true:=c.pg
section
variable {X:Cx}{pins:lPO}{σ:St}{H:Hp}{s:Shared}{a C dx:Addr}{fs:List (Str×V)}{f:Str}{v:V}{A:Around}{E:vSP}
theorem zNP {prog:Program}{env:Env}{f:Str}{Q:vSP}(hb:attributeBase e f env (eval e env)=eval e env)
 (h:wpAny (model prog w) A (eval e env) (fun o s₁=>wpAny (model prog w) A (getAttr o f true) Q E s₁) E s):wpAny (model prog w) A (eval (.Attribute e f pos) env) Q E s:=
 Attribute_any_ h (by rw[arm_eval_Attribute,hb])
end
section
variable {X:Cx}{pins:lPO}{σ:St}{H:Hp}{s:Shared}{A:Around}{E:vSP}{Q:vSP}{c:Value}{b:Bool}
inductive zGg (K:PySem.W.Frag)(H:Hp):V->Value->Prop where
 | non:zGg K H .non (.type "NoneType")
 | bl (x:Bool):zGg K H (.bl x) (.type "bool")
 | int (i:Int):zGg K H (.int i) (.type "int")
 | str (x:Str):zGg K H (.str x) (.type "str")
 | flt (x:UInt64):zGg K H (.flt x) (.type "float")
 | lst {a:Addr}{xs:List V}(e:H a=some (.lst xs)):zGg K H (.ref a) (.type "list")
 | frz {a:Addr}{o:Obj}{xs:List V}(e:H a=some (.frz o (.lst xs))):zGg K H (.ref a) (.type "list")
 | tup {a:Addr}{xs:List V}(e:H a=some (.tup xs)):zGg K H (.ref a) (.type "tuple")
 | dK {a:Addr}{kvs:List (Key×V)}(e:H a=some (.dK kvs)):zGg K H (.ref a) (.type "dict")
 | dT {a:Addr}{kvs:List (List Key×V)}(e:H a=some (.dT kvs)):zGg K H (.ref a) (.type "dict")
 | ins {a C dx:Addr}{fs:List (Str×V)}(e:H a=some (.ins C dx fs))(cl:Cls K C)(ha:PySem.W.findIn K (.ref C) "__class__" = some (some (.builtin "object.__class__")))
  (hn:PySem.W.specialIn K (.builtin "object.__class__") "__get__" = some (some (.builtin "getset_descriptor.__get__"))) (htk:PySem.W.takesIn K (.builtin "object.__class__")=some true)
  (hm:PySem.W.mroIn K C (.type "object")=some true):zGg K H (.ref a) (.ref C)
theorem zJQ {x:V}{t:Value}(I:Inv X pins σ H s)(rx:zBk x u)(ty:zGg X.K H x t)(e:PySem.W.kitOne X.K t c=some b)(h:∀tk,Q (.bool b) { s with toks:=tk }) :
 wpAny (model X.prog X.w) A (call (.builtin "isinstance") [u,c]) Q E s:=by
 cases ty with
 | non=>cases (show u=Value.none from rx);exact PySem.W.kia_one PySem.W.kitx_none I.kIn True.intro e (fun z=>nomatch z) h
 | bl y=>cases (show u=Value.bool y from rx);exact PySem.W.kia_one PySem.W.kitx_bool I.kIn True.intro e (fun z=>nomatch z) h
 | int i=>obtain⟨t,q⟩:=(show ∃t,u=Value.int i t from rx);cases q;exact PySem.W.kia_one PySem.W.kitx_int I.kIn True.intro e (fun z=>nomatch z) h
 | str y=>obtain⟨t,q⟩:=(show ∃t,u=Value.str y t from rx);cases q;exact PySem.W.kia_one PySem.W.kitx_str I.kIn True.intro e (fun z=>nomatch z) h
 | flt y=>obtain⟨t,q⟩:=(show ∃t,u=Value.float y t from rx);cases q;exact PySem.W.kia_one PySem.W.kitx_float I.kIn True.intro e (fun z=>nomatch z) h
 | @lst a xs ea=>
  cases (show u=Value.ref a from rx)
  obtain⟨_,_,n,_,h1⟩:=(show zBP X.prog X.w H s.heap a (.lst xs) from I.hok a _ ea)
  exact PySem.W.kia_one PySem.W.kitx_list I.kIn ⟨_,h1,rfl⟩ e (fun z=>nomatch z) h
 | @frz a ob xs ea=>
  cases (show u=Value.ref a from rx)
  obtain⟨_,_,_,n,_,h1⟩:=(show zBP X.prog X.w H s.heap a (.frz ob (.lst xs)) from I.hok a _ ea)
  exact PySem.W.kia_one PySem.W.kitx_list I.kIn ⟨_,h1,rfl⟩ e (fun z=>nomatch z) h
 | @tup a xs ea=>
  cases (show u=Value.ref a from rx)
  obtain⟨_,_,_,p⟩:=(show zBP X.prog X.w H s.heap a (.tup xs) from I.hok a _ ea)
  obtain⟨o,h1,h2,_⟩:=p
  exact PySem.W.kia_one PySem.W.kitx_tuple I.kIn ⟨o,h1,h2⟩ e (fun z=>nomatch z) h
 | @dK a kvs ea=>
  cases (show u=Value.ref a from rx)
  obtain⟨_,_,vs,_,p⟩:=(show zBP X.prog X.w H s.heap a (.dK kvs) from I.hok a _ ea)
  obtain⟨o,es,ep,h1,h2,_⟩:=p
  exact PySem.W.kia_one PySem.W.kitx_dict I.kIn ⟨o,h1,h2.1⟩ e (fun z=>nomatch z) h
 | @dT a kvs ea=>
  cases (show u=Value.ref a from rx)
  obtain⟨_,_,xs,_,o,es,ep,h1,h2,_⟩:=(show zBP X.prog X.w H s.heap a (.dT kvs) from I.hok a _ ea)
  exact PySem.W.kia_one PySem.W.kitx_dict I.kIn ⟨o,h1,h2.1⟩ e (fun z=>nomatch z) h
 | @ins a C dx fs ea cl ha hn htk hm=>
  cases (show u=Value.ref a from rx)
  obtain⟨mA,O,_⟩:=zNA I.hok ea
  obtain⟨od,J,_⟩:=O.look
  exact PySem.W.kia_one (PySem.W.kitx_own (cl.get _) cl.hd ha hn htk hm) I.kIn J e (fun z=>nomatch z) h
end
structure zC2 (k:Nat)(A:Around):Prop where
 hd:A.handled=none
 dp:A.depth+3*k+5<recursionLimit
 un:A.units+16*k+200<cLine
 gd:A.guards=some []
theorem zC2.mono {j k:Nat}(r:zC2 k A)(h:j<=k):zC2 j A:=⟨r.hd,by have:=r.dp;omega,by have:=r.un;omega,r.gd⟩
theorem zC2.deeper {k:Nat}(r:zC2 (k+1) A)(env:Env):zC2 k (A.deeper env):=
 ⟨r.hd,by have:=r.dp;show A.depth+1+3*k+5<_;omega,by have:=r.un;show A.units+3+16*k+200<_;omega,r.gd⟩
theorem zC2.in1 {k:Nat}(r:zC2 (k+1) A):zC2 k A.in1:=
 ⟨r.hd,by have:=r.dp;show A.depth+3*k+5<_;omega,by have:=r.un;show A.units+1+16*k+200<_;omega,r.gd⟩
theorem zH4 {kw:List (Str×Value)}:(A.under (.builtin "type.__call__" ⟨.ref C::us,kw⟩)).depth=A.depth+1:=by
 first | rfl | simp[Around.under,Code.weight,Code.isCreation,Code.isGuard,Code.isCaller,Code.frames,Code.isFrame,guardIds]
theorem zH3 {kw:List (Str×Value)}:(A.under (.builtin "type.__call__" ⟨.ref C::us,kw⟩)).units=A.units+1:=by
 first | rfl | simp[Around.under,Code.cUnits,Code.frames,Code.isFrame]
theorem zC2.make {k:Nat}(r:zC2 (k+1) A)(C:Addr)(us:List Value)(kw:List (Str×Value)):zC2 k (A.under (.builtin "type.__call__" ⟨.ref C::us,kw⟩)):=
 ⟨r.hd,by have:=r.dp;rw[zH4];omega,by have:=r.un;rw[zH3];omega,by first | exact r.gd | (simp[Around.under,Code.guards,Code.isGuard,guardIds,pushGuards];exact r.gd)⟩
theorem zC2.depth {k:Nat}(r:zC2 k A):A.depth<recursionLimit:=by have:=r.dp;omega
theorem zC2.units {k:Nat}(r:zC2 k A):A.units+64<cLine:=by have:=r.un;omega
theorem zC2.units0 {k:Nat}(r:zC2 k A):A.units<cLine:=by have:=r.un;omega
noncomputable def tNil:TA:=fun _ H Q=>Q [] H
noncomputable def zL7 (ta:TE)(tr:TA):TA:=fun σ H Q=>ta σ H fun x H1=>tr σ H1 fun xs H2=>Q (x::xs) H2
section
variable {X:Cx}{e:Expr}{es:List Expr}{te:TE}{t:TA}{pos:Pos}
theorem zM:PA X [] tNil:=fun _ _ _ _ H Q I h=>Calls.spliced_nil ⟨[],H,I,.nil,h⟩
theorem zE (ha:PE X e te)(hr:PA X es t)(hs:starEach (e::es) X.env=(false,eval e X.env)::starEach es X.env:=by rfl):PA X (e::es) (zL7 te t):=by
 intro pos pins s σ H Q I h
 rw[hs]
 show wpAny _ _ (spliced ((false,eval e X.env)::backTo pos (starEach es X.env))) _ _ s
 refine Calls.spliced_cons (thn (ha pins s σ H _ I h) fun u s1 ⟨x,H1,I1,r1,q1⟩=>?_)
 exact thn (hr pos pins s1 σ H1 _ I1 q1) fun us s2 ⟨xs,H2,I2,r2,q2⟩=>⟨x::xs,H2,I2,.cons r1 r2,q2⟩
noncomputable def tTup (t:TA):TE:=fun σ H Q=>t σ H fun xs H1=>xs.length<=sizeLine/\∀p,H1 p=none->Q (.ref p) (upd H1 p (.tup xs))
noncomputable def tLst (t:TA):TE:=fun σ H Q=>t σ H fun xs H1=>xs.length<=sizeLine/\∀p,H1 p=none->Q (.ref p) (upd H1 p (.lst xs))
theorem zAf {x1} (h:PA X es t):PE X (.Tuple es x1 pos) (tTup t):=by
 intro pins s σ H Q I hq
 refine wpAny_Tuple_spliced (thn (h pos pins s σ H _ I hq) fun us s1 ⟨xs,H1,I1,r,z,q⟩=>⟨by rw[<-r.length];exact z,?_⟩)
 have hf:H1 s1.heap.objs.size=none:=I1.hok.fresh (zH _)
 refine⟨.ref s1.heap.objs.size,upd H1 s1.heap.objs.size (.tup xs),I1.laid (t':=s1.toks) (fun b u e=>zI _ e) (zH _) ?_,rfl,q _ hf⟩
 exact⟨⟨z,_,zW _ rfl,rfl⟩,us,r,⟨_,zW _ rfl,rfl,_,rfl⟩⟩
theorem zBy (h:PA X es t):PE X (.List es pos) (tLst t):=by
 intro pins s σ H Q I hq
 refine wpAny_List_spliced (thn (h pos pins s σ H _ I hq) fun us s1 ⟨xs,H1,I1,r,z,q⟩=>⟨by rw[<-r.length];exact z,?_⟩)
 have hf:H1 s1.heap.objs.size=none:=I1.hok.fresh (zH _)
 refine⟨.ref s1.heap.objs.size,upd H1 s1.heap.objs.size (.lst xs),I1.laid (t':=s1.toks) (fun b u e=>zI _ e) (zH _) ?_,rfl,q _ hf⟩
 exact⟨z,us,0,r,zW _ rfl⟩
end
noncomputable abbrev Sp:=List V->Hp->VK->XK->Prop
noncomputable abbrev CXT:=List Env->Hp->Shared->XK->Value->Shared->Prop
structure zNS (P:Program)(w:World)(K:PySem.W.Frag)(mg:sOV)(base:Heap)(A:Around)(outer:List Env)(s:Shared)(H:Hp):Prop where
 frames:A.frames=some outer
 mod:Mod K mg base
 bs:∀b o,base.get? b=some o->s.heap.get? b=some o/\H b=none
 bsz:base.objs.size<=s.heap.objs.size
 funs:s.heap.FunFrames base outer
 frf:∀b∈frs outer,H b=none
 hok:HOk P w H s.heap
 bare:AllBare s.gens
noncomputable def CE (outer:List Env)(P:Program)(w:World)(H:Hp)(s:Shared)(Q:VK)(u:Value)(s':Shared):Prop:=
 ∃v H',s'.os=s.os/\AllBare s'.gens/\Un (frs outer) [] H H' s.heap s'.heap/\HOk P w H' s'.heap/\zBk v u/\Q v H'
noncomputable def CR (CX:CXT)(outer:List Env)(P:Program)(w:World)(H:Hp)(s:Shared)(Q:VK)(E:XK)(r:Result)(s':Shared):Prop:=
 match r with
 | .ok (.ret u)=>CE outer P w H s Q u s'
 | .ok _=>False
 | .error e=>CX outer H s E e s'
structure zAe (P:Program)(w:World)(K:PySem.W.Frag)(mg:sOV)(base:Heap)(CX:CXT)(k:Nat)(f:Addr)(fd:FuncData)(ps:List Str)(sp:Sp):Prop where
 len:∀vs H Q E,sp vs H Q E->vs.length=ps.length
 run:∀(A:Around)(outer:List Env)(s:Shared)(H:Hp)(args:Args)(us:List Value)(vs:List V)(Q:VK)(E:XK),zC2 k A->zNS P w K mg base A outer s H->BindsTo s fd args (ps.zip us)->zBO vs us->sp vs H Q E ->
  codeAny (model P w) A (.call (.ref f) args) (CR CX outer P w H s Q E) s
theorem zAe.mono {P:Program}{w:World}{K:PySem.W.Frag}{mg:sOV}{base:Heap}{CX:CXT}{j k:Nat}{f:Addr}{fd:FuncData}{ps:List Str}{sp:Sp}(F:zAe P w K mg base CX j f fd ps sp)(h:j<=k) :
 zAe P w K mg base CX k f fd ps sp:=⟨F.len,fun A outer s H args us vs Q E hr=>F.run A outer s H args us vs Q E (hr.mono h)⟩
variable {base:Heap}{CX:CXT}{ps:List Str}
theorem zAe.imp {mg:sOV}{k:Nat}{f:Addr}{fd:FuncData}{sp sp':Sp}(F:zAe P w K mg base CX k f fd ps sp)
 (h:∀vs H Q E,sp' vs H Q E->sp vs H Q E):zAe P w K mg base CX k f fd ps sp':=
 ⟨fun vs H Q E q=>F.len vs H Q E (h _ _ _ _ q),fun A outer s H args us vs Q E hr he hb hv hs=>F.run A outer s H args us vs Q E hr he hb hv (h _ _ _ _ hs)⟩
theorem zNS.make {mg:sOV}{outer:List Env}(e:zNS P w K mg base A outer s H)(C:Addr)(us:List Value)(kw:List (Str×Value)) :
 zNS P w K mg base (A.under (.builtin "type.__call__" ⟨.ref C::us,kw⟩)) outer s H:=⟨by first | exact e.frames | (simpa [Around.under,Code.envs,Code.isFrame,pushEnvs] using e.frames),e.mod,e.bs,e.bsz,e.funs,e.frf,e.hok,e.bare⟩
section
variable {X:Cx}{pins:lPO}{σ:St}{H:Hp}{s s':Shared}
theorem Inv.env0 (I:Inv X pins σ H s):zNS X.prog X.w X.K X.mg X.base X.A X.stack s H:=
 ⟨I.ok.frames,I.ok.mod,I.bs,zx I.ok.bsz I.sz,I.stack,I.stkFree,I.hok,I.bare⟩
theorem Inv.after {Q:VK}(I:Inv X pins σ H s)(h:CE X.stack X.prog X.w H s Q u s'):EP X pins σ Q u s':=by
 obtain⟨v,H',os,bare,un,hok,r,q⟩:=h
 obtain⟨hh,g,d,t,os'⟩:=s'
 obtain rfl:os'=s.os:=os
 exact⟨v,H',I.call (h':=hh) (g':=g) (d':=d) (t':=t) (ch:=[]) un hok bare (fun b z=>absurd z (by simp)),r,q⟩
end
noncomputable def tCall (sp:Sp)(dvs:List V)(E:XK)(t:TA):TE:=fun σ H Q=>t σ H fun vs H1=>sp (vs++dvs) H1 Q E
noncomputable def zDh (K:PySem.W.Frag)(fd:FuncData)(ps:List Str)(ds:List Value):Prop:=
 ∀(s:Shared)(us:List Value),K.In s.heap->(us++ds).length=ps.length->BindsTo s fd ⟨us,[]⟩ (ps.zip (us++ds))
theorem zDh.all {fd:FuncData}(h:∀us:List Value,us.length=ps.length->bindArgs fd ⟨us,[]⟩=pure (ps.zip us)):zDh K fd ps []:=fun s us _ hl=>by
 rw[zp] at hl ⊢
 exact .of_eq (h us hl)
noncomputable def zHg (CX:CXT)(X:Cx)(E:XK):Prop:=∀(pins:lPO)(σ:St)(H:Hp)(s:Shared)(e:Value)(s':Shared),Inv X pins σ H s->CX X.stack H s E e s'->X.xe e s'
section
variable {X:Cx}{CX:CXT}{k:Nat}{f C:Addr}{fd:FuncData}{ps:List Str}{sp:Sp}{dvs:List V}{ds:List Value}{E:XK}{x m:Str}{p pos apos:Pos}{e o:Expr}{es:List Expr}{ta:TE}{t:TA}
theorem run_fn {pins:lPO}{Q:VK}{vs:List V}(F:zAe X.prog X.w X.K X.mg X.base CX k f fd ps sp)(hr:zC2 k X.A)(hb:zDh X.K fd ps ds)(hd:zBO dvs ds)(hx:zHg CX X E)
 (I:Inv X pins σ H s)(r:zBO vs us)(h:sp (vs++dvs) H Q E):wpAny (model X.prog X.w) X.A (call (.ref f) us) (EP X pins σ Q) X.xe s:=by
 have r2:zBO (vs++dvs) (us++ds):=r.append hd
 have hl:(us++ds).length=ps.length:=by rw[<-r2.length];exact F.len _ _ _ _ h
 refine wpAny_call (codeAny_mono (F.run X.A X.stack s H ⟨us,[]⟩ (us++ds) (vs++dvs) Q E hr I.env0 (hb s us I.kIn hl) r2 h) fun r s' hq=>?_)
 cases r with
 | error e=>exact hx pins σ H s e s' I hq
 | ok fl=>
  cases fl with
  | ret u=>exact I.after hq
  | next=>exact False.elim hq
  | brk=>exact False.elim hq
  | cont=>exact False.elim hq
theorem zGm (F:zAe X.prog X.w X.K X.mg X.base CX k f fd ps sp)(hr:zC2 k X.A)(hg:Gl X x)(hm:X.mg x=some (.ref f))(hk:PySem.W.keepIn X.K (.ref f)=true)(hb:zDh X.K fd ps ds)(hd:zBO dvs ds)(hx:zHg CX X E)
 (ha:PA X (e::es) t)(hdb:(x==("__debug__" : Str))=false:=by decide) (he:starEach (e::es) X.env=(false,eval e X.env)::starEach es X.env:=by rfl)(hpl:(backTo pos (starEach es X.env)).any (·.1)=false:=by rfl) :
 PE X (.Call (.Name x p) (e::es) [] pos) (tCall sp dvs E t):=by
 intro pins s σ H Q I h
 refine zBL (zDa I hg hm ?_ hdb)
 refine PySem.W.callWith_K (h₀:=X.base) I.ok.mod.kin hk (thn (ha pos pins s σ H _ I h) fun us s1 ⟨vs,H1,I1,r,q⟩=>⟨I1.kIn,?_⟩) he hpl
 exact run_fn F hr hb hd hx I1 r q
end
structure zAD (N P:List Str)(sc:Scope):Prop where
 kind:sc.kind = .function
 co:sc.isCoroutine=false
 gen:sc.isGenerator=false
 nd:N.Nodup
 pre:N.take P.length=P
 par:∀x∈P,sc.names.lookup x=some .local\/sc.names.lookup x=some .cell
 nofree:∀y∈sc.names,y.2 ≠ .free
theorem fS0 {P:List Str}{sc:Scope}(a:sc.kind = .function:=by rfl)(b:sc.isCoroutine=false:=by rfl)(c:sc.isGenerator=false:=by rfl)(d:N.Nodup:=by decide +kernel)(e:N.take P.length=P:=by rfl)(f:∀x∈P,sc.names.lookup x=some .local\/sc.names.lookup x=some .cell:=by decide +kernel)(g:∀y∈sc.names,y.2 ≠ .free:=by decide +kernel):zAD N P sc:=⟨a,b,c,d,e,f,g⟩
theorem zGT {kindOf:Str->Option NameKind}{x:Str}:∀{binds:List (Str×Value)}{m:sOV},(∀v,(x,v)∉binds)->bindL kindOf binds m x=m x
 | [],_,_=>rfl
 | (n,v)::r,m,h=>by
  unfold bindL
  rw[zGT fun w hw=>h w (zX _ hw)]
  split
  . have:x≠n:=by rintro rfl;exact h v zh
    simp[this]
  . rfl
theorem zGV {kindOf:Str->Option NameKind}{x:Str}:∀{binds:List (Str×Value)}{m:sOV},(∀v,(x,v)∉binds)->bindC kindOf binds m x=m x
 | [],_,_=>rfl
 | (n,v)::r,m,h=>by
  unfold bindC
  rw[zGV fun w hw=>h w (zX _ hw)]
  split
  . rfl
  . have:x≠n:=by rintro rfl;exact h v zh
    simp[this]
theorem zGU {kindOf:Str->Option NameKind}{x:Str}{v:Value}:∀{P:List Str}{vs:List Value}{i:Nat}{m:sOV},P.Nodup->P[i]? = some x->vs[i]? = some v->kindOf x=some .local ->
 bindL kindOf (P.zip vs) m x=some v
 | [],_,_,_,_,h,_,_=>by simp at h
 | _::_,[],_,_,_,_,h,_=>by simp at h
 | p::P,w::vs,0,m,nd,h1,h2,hk=>by
  simp at h1 h2;subst h1;subst h2
  show bindL kindOf ((p,w)::P.zip vs) m p=_
  unfold bindL
  rw[zGT fun v hv=>(zAO.mp nd).1 (List.of_mem_zip hv).1,if_pos hk]
  simp
 | p::P,w::vs,i+1,m,nd,h1,h2,hk=>by
  show bindL kindOf ((p,w)::P.zip vs) m x=_
  unfold bindL
  exact zGU (i:=i) (zAO.mp nd).2 (by simpa using h1) (by simpa using h2) hk
theorem zGW {kindOf:Str->Option NameKind}{x:Str}{v:Value}:∀{P:List Str}{vs:List Value}{i:Nat}{m:sOV},P.Nodup->P[i]? = some x->vs[i]? = some v->kindOf x≠some .local ->
 bindC kindOf (P.zip vs) m x=some v
 | [],_,_,_,_,h,_,_=>by simp at h
 | _::_,[],_,_,_,_,h,_=>by simp at h
 | p::P,w::vs,0,m,nd,h1,h2,hk=>by
  simp at h1 h2;subst h1;subst h2
  show bindC kindOf ((p,w)::P.zip vs) m p=_
  unfold bindC
  rw[zGV fun v hv=>(zAO.mp nd).1 (List.of_mem_zip hv).1,if_neg hk]
  simp
 | p::P,w::vs,i+1,m,nd,h1,h2,hk=>by
  show bindC kindOf ((p,w)::P.zip vs) m x=_
  unfold bindC
  exact zGW (i:=i) (zAO.mp nd).2 (by simpa using h1) (by simpa using h2) hk
noncomputable def start (N:List Str)(vs:List V):St:=vs.map some++List.replicate (N.length-vs.length) none
noncomputable def zGf (CX:CXT)(P:Program)(w:World)(K:PySem.W.Frag)(mg:sOV)(base:Heap)(N:List Str)(qual:Str)(scope:Scope)(f:Addr)(cd:Value)(A:Around)(outer:List Env)(s:Shared)(H:Hp)(E:XK):Cx where
 prog:=P
 w:=w
 K:=K
 mg:=mg
 base:=base
 A:=A.deeper (envOfC qual scope s.heap.objs.size f cd)
 N:=N
 s₀:=s
 H₀:=H
 env:=envOfC qual scope s.heap.objs.size f cd
 outer:=outer
 stack:=envOfC qual scope s.heap.objs.size f cd::outer
 ex:=[]
 calm:=true
 fn:=fun _=>true
 pn:=[]
 xe:=fun e s'=>wpAny (model P w) (A.deeper (envOfC qual scope s.heap.objs.size f cd)) (leaving (envOfC qual scope s.heap.objs.size f cd) e) (fun _ s''=>CX outer H s E e s'') (fun e' s''=>CX outer H s E e' s'') s'
theorem zHc {sc:Scope}(h:sc.names.lookup x=some .cell):∃c,(cellsFrom n sc.names []).lookup x=some c:=by
 have q:=PySem.W.cellsFrom_some sc.names n [] (.inl h)
 exact zBM.mp q
theorem zJR {mg:sOV}{qual:Str}{scope:Scope}{f:Addr}{cd:Value}{outer:List Env}{s1:Shared}{E:XK}{vs:List V}
 (S:zAD N ps scope)(hd:A.handled=none)(e0:zNS P w K mg base A outer s H)(hl:vs.length=ps.length)(r:zBO vs us)
 (x:InCallC s s.heap.objs.size (bindL (envOfC qual scope s.heap.objs.size f cd).kindOf (ps.zip us) fun _=>none) (cellsFrom (s.heap.objs.size+1) scope.names []) (bindC (envOfC qual scope s.heap.objs.size f cd).kindOf (ps.zip us) fun _=>none) s1) :
 Inv (zGf CX P w K mg base N qual scope f cd A outer s H E) [] (start N vs) H s1:=by
 have hpl:ps.length<=N.length:=by have:=congrArg List.length S.pre;rw[zl] at this;omega
 obtain⟨h1,tk,rfl,hk⟩:=x.done
 have noA:∀b:Addr,b∉(zGf CX P w K mg base N qual scope f cd A outer s H E).ex:=fun b z=>absurd (show b∈([]:List Addr) from z) (by simp)
 refine⟨⟨e0.mod,S.kind,rfl,rfl,zH _,fun y z c h1 h2=>?_,fun y hy=>?_,fun y c _ h=>?_,fun _=>hd,Around.frames_deeper e0.frames,.inr ⟨rfl,rfl⟩,fun b z=>absurd z (noA b),e0.bs,e0.bsz,fun b _ _=>noA b,fun b z=>absurd z (noA b),e0.funs,e0.frf⟩,
  rfl,e0.bare,Un.kept hk,⟨_,x.toInCall.ns,fun i y v h1 h2 h3=>?_⟩,fun y c h=>⟨_,x.cell y c h⟩,e0.hok.fresh (zH _),fun y c h=>?_,fun p hp=>absurd (show p∈([]:lPO) from hp) (by simp),e0.hok.kept hk,?_⟩
 . exact name_of_addr x.apart (PySem.mem_of_lookup h1) (PySem.mem_of_lookup h2)
 . have hy:scope.names.lookup y=some .cell\/scope.names.lookup y=some .free:=hy
   rcases hy with hy | hy
   . exact zHc hy
   . exact absurd rfl (S.nofree _ (PySem.mem_of_lookup hy))
 . exact zBw (x.above y c (PySem.mem_of_lookup h))
 . have hi:i<vs.length:=by
    unfold start at h2
    by_cases hi:i<vs.length
    . exact hi
    . rw[zV (by simpa using hi)] at h2
      rw[zA8] at h2
      split at h2 <;> cases h2
   have ha:vs[i]? = some v:=by
    unfold start at h2
    rw[zd (by simpa using hi),zN] at h2
    cases e:vs[i]? with
    | none=>rw[e] at h2;cases h2
    | some a=>rw[e] at h2;cases h2;rfl
   obtain⟨u,hu,rv⟩:=r.get ha
   have hp:ps[i]? = some y:=by
    rw[<-S.pre,List.getElem?_take_of_lt (by omega)];exact h1
   have ndP:ps.Nodup:=by rw[<-S.pre];exact S.nd.sublist (List.take_sublist _ _)
   refine⟨u,rv,?_⟩
   rcases S.par y (za hp) with k | k
   . exact .inl ⟨k,zGU ndP hp hu k⟩
   . obtain⟨c,e⟩:=zHc (n:=s.heap.objs.size+1) k
     refine .inr ⟨.inl k,c,e,?_⟩
     have q:=x.cell y c e
     rw[zGW ndP hp hu (by show scope.names.lookup y≠_;rw[k];decide)] at q
     exact q
 . exact e0.hok.fresh (zBw (x.above y c (PySem.mem_of_lookup h)))
 . unfold start
   show _=N.length
   rw[zL,zD,zAT]
   omega
theorem zNG {mg:sOV}{k:Nat}{f:Addr}{name qual:Str}{params:Arguments}{scope:Scope}{dV kV doc pm cdv ct oc:Value}{an od:Option Addr}
 {osl:Array (Option Value)}{sp:Sp}(lk:K.lookup f=some ⟨oc,od,.func (PySem.W.fnOf name qual params body scope dV kV doc pm an cdv ct),osl⟩)(hcd:PySem.W.codeIn K cdv qual=true)(S:zAD N ps scope)
 (len:∀vs H Q E,sp vs H Q E->vs.length=ps.length)
 (hbody:∀(A:Around)(outer:List Env)(s:Shared)(H:Hp)(vs:List V)(Q:VK)(E:XK),zC2 k (A.deeper (envOfC qual scope s.heap.objs.size f cdv))->sp vs H Q E ->
  ∃t,PSs (zGf CX P w K mg base N qual scope f cdv A outer s H E) body t/\t { nx:=fun _ H'=>Q .non H',rt:=Q } (start N vs) H) :
 zAe P w K mg base CX (k+1) f (PySem.W.fnOf name qual params body scope dV kV doc pm an cdv ct) ps sp:=by
 refine⟨len,fun A outer s H args us vs Q E hr e0 hb r hsp=>?_⟩
 have hl:=len _ _ _ _ hsp
 have KX:K.In s.heap:=e0.mod.kin.keeps fun b o e=>(e0.bs b o e).1
 have lim:s.heap.NoLimit:=e0.mod.nolimit.keeps fun b o e=>(e0.bs b o e).1
 have hkind:∀y∈ps.zip us,scope.names.lookup y.1=some .local\/(scope.names.lookup y.1=some .cell/\((cellsFrom (s.heap.objs.size+1) scope.names []).lookup y.1).isSome=true):=fun ⟨n,v⟩ hy=>by
  rcases S.par n (List.of_mem_zip hy).1 with q | q
  . exact .inl q
  . exact .inr ⟨q,PySem.W.cellsFrom_some _ _ _ (.inl q)⟩
 refine codeAny_call_function hr.depth (KX _ _ lk) rfl S.co S.gen rfl (PySem.W.codeRec_of KX hcd) (hb _ _ _ _ ?_)
 refine wpAny_newFunctionEnv_cells S.kind hkind fun env he s1 x=>?_
 subst he
 refine⟨lim.keeps x.toInCall.keep,codeAny_func ?_⟩
 obtain⟨t,ht,hq⟩:=hbody A outer s H vs Q E (hr.deeper _) hsp
 have I:Inv (zGf CX P w K mg base N qual scope f cdv A outer s H E) [] (start N vs) H s1:=zJR S hr.hd e0 hl r x
 refine zAP (ht [] s1 (start N vs) H _ I hq) (fun fl s' hs=>?_) fun e s' hs=>hs
 have fin:∀{σ':St}{H':Hp}{v:V}{u:Value},Inv (zGf CX P w K mg base N qual scope f cdv A outer s H E) [] σ' H' s'->zBk v u->Q v H'->CE outer P w H s Q u s':=
  fun {σ' H' v u} J rv q=>⟨v,H',J.os,J.bare,J.base,J.hok,rv,q⟩
 cases fl with
 | ret u=>
  obtain⟨v,σ',H',J,rv,q⟩:=hs
  exact fin J rv q
 | next=>
  obtain⟨σ',H',J,q⟩:=hs
  exact fin (v:=V.non) (u:=Value.none) J rfl q
 | brk=>
  obtain⟨_,_,_,q⟩:=hs
  exact False.elim q
 | cont=>
  obtain⟨_,_,_,q⟩:=hs
  exact False.elim q
section
variable {X:Cx}{x:Str}{p pos:Pos}{e:Expr}{es:List Expr}{t:TA}{id T:String}{r:List V->Hp->VK->Prop}
noncomputable def tCB (r:List V->Hp->VK->Prop)(t:TA):TE:=fun σ H Q=>t σ H fun vs H1=>r vs H1 Q
theorem zt (hc:zCS X (.builtin id) r)(hm:X.mg x=none)(ha:PA X (e::es) t)(hg:Gl X x:=by rfl)(hv:bootBuiltins x=some (.builtin id):=by decide +kernel)(hn:x ≠ "__name__" := by decide) (hdb:(x==("__debug__" : Str))=false:=by decide)
 (he:starEach (e::es) X.env=(false,eval e X.env)::starEach es X.env:=by rfl)(hpl:(backTo pos (starEach es X.env)).any (·.1)=false:=by rfl):PE X (.Call (.Name x p) (e::es) [] pos) (tCB r t):=by
 intro pins s σ H Q I h
 refine zBL (zCw I hg hm hv ?_ hn hdb)
 exact PyProof.Rows.callWith_builtin1 (thn (ha pos pins s σ H _ I h) fun us s1 ⟨vs,H1,I1,r1,q1⟩=>hc pins s1 σ H1 vs us Q I1 r1 q1) he hpl
theorem zBK (hc:zCS X (.type T) r)(hm:X.mg x=none)(ha:PA X (e::es) t)(hg:Gl X x:=by rfl)(hv:bootBuiltins x=some (.type T):=by decide +kernel)(hn:x ≠ "__name__" := by decide) (hdb:(x==("__debug__" : Str))=false:=by decide)
 (he:starEach (e::es) X.env=(false,eval e X.env)::starEach es X.env:=by rfl)(hpl:(backTo pos (starEach es X.env)).any (·.1)=false:=by rfl):PE X (.Call (.Name x p) (e::es) [] pos) (tCB r t):=by
 intro pins s σ H Q I h
 refine zBL (zCw I hg hm hv ?_ hn hdb)
 exact PyProof.Rows.callWith_type1 (thn (ha pos pins s σ H _ I h) fun us s1 ⟨vs,H1,I1,r1,q1⟩=>hc pins s1 σ H1 vs us Q I1 r1 q1) he hpl
end
section
variable {κ:Type} [DecidableEq κ]
noncomputable def zCd (kvs:List (κ×V))(k:κ):Option V:=(kvs.find? fun kv=>decide (kv.1=k)).map (·.2)
noncomputable def zDL (kvs:List (κ×V))(k:κ)(v:V):List (κ×V):=
 if (kvs.any fun kv=>decide (kv.1=k))=true then kvs.map (fun kv=>if kv.1=k then (kv.1,v) else kv) else kvs++[(k,v)]
noncomputable def zCQ (kvs:List (κ×V))(k:κ):List (κ×V):=kvs.filter fun kv=>decide (kv.1≠k)
theorem zKO {k:κ}:zCd ([]:List (κ×V)) k=none:=rfl
theorem zBa {p:κ×V}{r:List (κ×V)}{k:κ}(e:p.1=k):zCd (p::r) k=some p.2:=by simp[zCd,List.find?_cons,e]
theorem zBU {p:κ×V}{r:List (κ×V)}{k:κ}(e:¬ p.1=k):zCd (p::r) k=zCd r k:=by simp[zCd,List.find?_cons,e]
theorem zCB (k:κ):∀kvs:List (κ×V),(kvs.any fun kv=>decide (kv.1=k))=(zCd kvs k).isSome
 | []=>rfl
 | p::r=>by
  rw[List.any_cons]
  by_cases e:p.1=k
  . simp only[zBa e,zP e,Bool.true_or,Option.isSome_some]
  . rw[zBU e,zb e,Bool.false_or];exact zCB k r
theorem zG8 (k j:κ)(y:V):∀kvs:List (κ×V),zCd (kvs.map fun kv=>if kv.1=k then (kv.1,y) else kv) j=(zCd kvs j).map fun x=>if j=k then y else x
 | []=>rfl
 | p::r=>by
  have ih:=zG8 k j y r
  rw[zAA]
  by_cases h:p.1=k
  . rw[if_pos h]
    by_cases e:p.1=j
    . rw[zBa (p:=(p.1,y)) e,zBa e,zAp,if_pos (e.symm.trans h)]
    . rw[zBU (p:=(p.1,y)) e,zBU e,ih]
  . rw[if_neg h]
    by_cases e:p.1=j
    . rw[zBa (p:=p) e,zBa e,zAp,if_neg (fun z=>h (e.trans z))]
    . rw[zBU (p:=p) e,zBU e,ih]
theorem zFk (k j:κ)(y:V):∀kvs:List (κ×V),zCd kvs k=none->zCd (kvs++[(k,y)]) j=if j=k then some y else zCd kvs j
 | [],_=>by
  by_cases e:k=j
  . rw[if_pos e.symm];exact zBa (p:=(k,y)) e
  . rw[if_neg (fun z=>e z.symm)];exact zBU (p:=(k,y)) e
 | p::r,hn=>by
  rw[List.cons_append]
  have hk:¬ p.1=k:=fun z=>by rw[zBa z] at hn;cases hn
  rw[zBU hk] at hn
  have ih:=zFk k j y r hn
  by_cases e:p.1=j
  . rw[zBa e,zBa e,if_neg (fun z=>hk (e.trans z))]
  . rw[zBU e,zBU e,ih]
theorem zKN (kvs:List (κ×V))(k j:κ)(y:V):zCd (zDL kvs k y) j=if j=k then some y else zCd kvs j:=by
 unfold zDL
 by_cases a:(kvs.any fun kv=>decide (kv.1=k))=true
 . rw[if_pos a,zG8]
   rw[zCB] at a
   by_cases e:j=k
   . obtain⟨x,hx⟩:=zBM.mp a
     rw[if_pos e,e,hx,zAp,if_pos rfl]
   . rw[if_neg e]
     cases zCd kvs j with
     | none=>rfl
     | some x=>rw[zAp,if_neg e]
 . rw[if_neg a]
   refine zFk k j y kvs ?_
   rw[zCB] at a
   cases q:zCd kvs k with
   | none=>rfl
   | some x=>rw[q] at a;exact (a rfl).elim
theorem zCh (kvs:List (κ×V))(k:κ)(v:V):(zDL kvs k v).length<=kvs.length+1:=by
 unfold zDL
 split
 . rw[zD];omega
 . rw[zL,zT,List.length_nil];omega
theorem zHO {kvs:List (κ×V)}{k:κ}(v:V)(h:zCd kvs k=none):zDL kvs k v=kvs++[(k,v)]:=by
 unfold zDL
 rw[zCB,h]
 exact if_neg (by decide)
theorem zE5.isSome_eq {o:Option V}{u:Option Value}(r:zE5 o u):o.isSome=u.isSome:=by
 cases o with
 | none=>cases u with
  | none=>rfl
  | some _=>exact (show False from r).elim
 | some _=>cases u with
  | none=>exact (show False from r).elim
  | some _=>rfl
theorem zE5.getD {o:Option V}{u:Option Value}{d:V}{d':Value}(r:zE5 o u)(rd:zBk d d'):zBk (o.getD d) (u.getD d'):=by
 cases o with
 | none=>cases u with
  | none=>exact rd
  | some _=>exact (show False from r).elim
 | some _=>cases u with
  | none=>exact (show False from r).elim
  | some _=>exact r
theorem KV.val {kvs:List (κ×V)}{vs:List (κ×Value)}(r:KV kvs vs)(k:κ):zE5 (zCd kvs k) (valueAt vs k):=by
 unfold KV at r
 induction r with
 | nil=>exact True.intro
 | @cons p q ps qs h t ih=>
  obtain⟨h1,h2⟩:=h
  by_cases e:p.1=k
  . have e':q.1=k:=h1.symm.trans e
    have b:valueAt (q::qs) k=some q.2:=by simp[valueAt,List.find?_cons,e']
    rw[zBa e,b];exact h2
  . have e':¬ q.1=k:=fun z=>e (h1.trans z)
    have b:valueAt (q::qs) k=valueAt qs k:=by simp[valueAt,List.find?_cons,e']
    rw[zBU e,b];exact ih
theorem KV.any {kvs:List (κ×V)}{vs:List (κ×Value)}(r:KV kvs vs)(k:κ):(kvs.any fun kv=>decide (kv.1=k))=vs.any fun kv=>decide (kv.1=k):=by
 unfold KV at r
 induction r with
 | nil=>rfl
 | cons h t ih=>rw[List.any_cons,List.any_cons,ih,h.1]
theorem KV.repl {kvs:List (κ×V)}{vs:List (κ×Value)}(r:KV kvs vs)(k:κ)(ry:zBk y u) :
 KV (kvs.map fun kv=>if kv.1=k then (kv.1,y) else kv) (vs.map fun kv=>if kv.1=k then (kv.1,u) else kv):=by
 unfold KV at r ⊢
 induction r with
 | nil=>exact .nil
 | @cons p q ps qs h t ih=>
  rw[zAA,zAA]
  refine .cons ?_ ih
  obtain⟨h1,h2⟩:=h
  by_cases e:p.1=k
  . rw[if_pos e,if_pos (h1.symm.trans e)];exact⟨h1,ry⟩
  . rw[if_neg e,if_neg (fun z=>e (h1.trans z))];exact⟨h1,h2⟩
theorem KV.put {kvs:List (κ×V)}{vs:List (κ×Value)}(r:KV kvs vs)(k:κ)(ry:zBk y u):KV (zDL kvs k y) (stored vs k u):=by
 unfold zDL stored
 rw[r.any k]
 by_cases e:(vs.any fun kv=>decide (kv.1=k))=true
 . rw[if_pos e,if_pos e];exact r.repl k ry
 . rw[if_neg e,if_neg e];exact Paired.snoc r ⟨rfl,ry⟩
theorem KV.drop {kvs:List (κ×V)}{vs:List (κ×Value)}(r:KV kvs vs)(k:κ):KV (zCQ kvs k) (without vs k):=by
 unfold KV at r ⊢
 unfold zCQ without
 induction r with
 | nil=>exact .nil
 | @cons p q ps qs h t ih=>
  obtain⟨h1,h2⟩:=h
  rw[zBB,zBB]
  by_cases e:p.1=k
  . have a:¬ decide (p.1≠k)=true:=by simp[e]
    have b:¬ decide (q.1≠k)=true:=by simp[h1.symm.trans e]
    rw[if_neg a,if_neg b];exact ih
  . have e':¬ q.1=k:=fun z=>e (h1.trans z)
    have a:decide (p.1≠k)=true:=by simp[e]
    have b:decide (q.1≠k)=true:=by simp[e']
    rw[if_pos a,if_pos b];exact .cons ⟨h1,h2⟩ ih
theorem KV.length {kvs:List (κ×V)}{vs:List (κ×Value)}(r:KV kvs vs):kvs.length=vs.length:=Paired.length r
theorem zLI (kvs:List (κ×V))(k:κ):(zCQ kvs k).length<=kvs.length:=zu _ _
end
theorem zGu {k:Key}(r:zBk (kV k) u):(zA9 P w).is k u=true:=by
 cases k with
 | inl i=>obtain⟨t,e⟩:=(show ∃t,u=Value.int i t from r);subst e;exact zGp P w i t
 | inr x=>obtain⟨t,e⟩:=(show ∃t,u=Value.str x t from r);subst e;exact zGo P w x t
theorem zF9 {P:Program}{w:World}:∀{ks:List Key}{us:List Value},zBO (ks.map kV) us->ItemsAre (zA9 P w) ks us
 | [],_,r=>by rw[List.map_nil] at r;cases r;exact .nil
 | k::ks,_,r=>by
  rw[zAA] at r
  cases r with
  | cons h t=>exact .cons (zGu h) (zF9 t)
noncomputable abbrev KT (H:Hp):List (List Key×V)->List (List Key×Addr×Value)->Prop:=Paired fun p q=>p.1=q.1/\H q.2.1=some (.tup (p.1.map kV))/\zBk p.2 q.2.2
variable {xs:List (List Key×Addr×Value)}{kvs:List (List Key×V)}
theorem KT.val (r:KT H kvs xs)(k:List Key):zE5 (zCd kvs k) ((atKey xs k).map (·.2)):=by
 induction r with
 | nil=>exact True.intro
 | @cons p q ps qs h t ih=>
  obtain⟨h1,_,h2⟩:=h
  by_cases e:p.1=k
  . have e':q.1=k:=h1.symm.trans e
    have b:atKey (q::qs) k=some q.2:=by simp[atKey,List.find?_cons,e']
    rw[zBa e,b];exact h2
  . have e':¬ q.1=k:=fun z=>e (h1.trans z)
    have b:atKey (q::qs) k=atKey qs k:=by simp[atKey,List.find?_cons,e']
    rw[zBU e,b];exact ih
theorem KT.repl (r:KT H kvs xs)(k:List Key)(ry:zBk y u) :
 KT H (kvs.map fun kv=>if kv.1=k then (kv.1,y) else kv) (xs.map (putAt k u)):=by
 induction r with
 | nil=>exact .nil
 | @cons p q ps qs h t ih=>
  rw[zAA,zAA]
  refine .cons ?_ ih
  obtain⟨h1,h2,h3⟩:=h
  unfold putAt
  by_cases e:p.1=k
  . rw[if_pos e,if_pos (h1.symm.trans e)];exact⟨h1,h2,ry⟩
  . rw[if_neg e,if_neg (fun z=>e (h1.trans z))];exact⟨h1,h2,h3⟩
theorem KT.put (r:KT H kvs xs)(k:List Key)(hb:H b=some (.tup (k.map kV)))(ry:zBk y u) :
 KT H (zDL kvs k y) (storedH xs k b u):=by
 have e:(kvs.any fun kv=>decide (kv.1=k))=(atKey xs k).isSome:=by
  rw[zCB,(r.val k).isSome_eq,Option.isSome_map]
 unfold zDL storedH
 rw[e]
 by_cases q:(atKey xs k).isSome=true
 . rw[if_pos q,if_pos q];exact r.repl k ry
 . rw[if_neg q,if_neg q];exact Paired.snoc r ⟨rfl,hb,ry⟩
theorem KT.keeps (r:KT H kvs xs)(ht:∀b ys,H b=some (.tup ys)->H' b=some (.tup ys)):KT H' kvs xs:=
 Paired.mapP r fun _ _ z=>⟨z.1,ht _ _ z.2.1,z.2.2⟩
section
variable {P:Program}{w:World}{H:Hp}{h:Heap}{a:Addr}
theorem rd_of {u:HO}(ok:HOk P w H h)(e:Rd H a u):zBP P w H h a u:=e.ok ok
theorem zJn {kvs:List (Key×V)}(ok:HOk P w H h)(e:Rd H a (.dK kvs)):kvs.length<=sizeLine/\(a==sysModules)=false/\∃vs,KV kvs vs/\h.DictOf (zA9 P w) a vs:=
 show zBP P w H h a (.dK kvs) from rd_of ok e
theorem zJo {kvs:List (Key×V)}(ok:HOk P w H h)(e:H a=some (.dK kvs)):kvs.length<=sizeLine/\(a==sysModules)=false/\∃vs,KV kvs vs/\h.DictOf (zA9 P w) a vs:=zJn ok (.inl e)
theorem zHT {ks:List Key}(ok:HOk P w H h)(e:H a=some (.tup (ks.map kV))):(tupleKind (zA9 P w)).is h ks a:=by
 obtain⟨_,its,r,o,h1,h2,n,h3⟩:=(show zBP P w H h a (.tup (ks.map kV)) from ok a _ e)
 exact⟨o,its.toArray,n,h1,h2,h3,by simpa using zF9 r⟩
theorem zJl (ok:HOk P w H h)(e:Rd H a (.dT kvs)):kvs.length<=sizeLine/\(a==sysModules)=false /\
 ∃xs,KT H kvs xs/\h.DictOfH (tupleKind (zA9 P w)) a xs:=by
 obtain⟨z,y,xs,r,o,es,ep,h1,h2,h3,h4,h5⟩:=(show zBP P w H h a (.dT kvs) from rd_of ok e)
 refine⟨z,y,xs,r,o,es,ep,h1,h2,h3,h4,fun x hx=>?_,h5⟩
 have all:∀{l:List (List Key×V)}{m:List (List Key×Addr×Value)},KT H l m->∀x∈m,(tupleKind (zA9 P w)).is h x.1 x.2.1:=by
  intro l m q
  induction q with
  | nil=>intro x hx;exact nomatch hx
  | @cons p q ps qs hq t ih=>
   intro x hx
   rcases zY.mp hx with e | hx
   . subst e
     exact zHT ok (by rw[<-hq.1];exact hq.2.1)
   . exact ih x hx
 exact all r x hx
theorem dt_of (ok:HOk P w H h)(e:H a=some (.dT kvs)):kvs.length<=sizeLine/\(a==sysModules)=false /\
 ∃xs,KT H kvs xs/\h.DictOfH (tupleKind (zA9 P w)) a xs:=zJl ok (.inl e)
end
noncomputable def zKF (H:Hp)(a:Addr)(y:V)(r:Option V):Prop:=
 (∃kvs k,Rd H a (.dK kvs)/\y=kV k/\r=zCd kvs k)\/∃kvs k b,Rd H a (.dT kvs)/\y = .ref b/\H b=some (.tup (k.map kV))/\r=zCd kvs k
noncomputable def zLU (H:Hp)(a:Addr)(y v:V)(H':Hp):Prop:=
 (∃kvs k,H a=some (.dK kvs)/\y=kV k/\kvs.length<sizeLine/\H'=upd H a (.dK (zDL kvs k v))) \/
 ∃kvs k b,H a=some (.dT kvs)/\y = .ref b/\H b=some (.tup (k.map kV))/\kvs.length<sizeLine/\H'=upd H a (.dT (zDL kvs k v))
theorem zKF.k {kvs:List (Key×V)}{k:Key}(e:H a=some (.dK kvs)):zKF H a (kV k) (zCd kvs k):=.inl ⟨kvs,k,.inl e,rfl,rfl⟩
theorem zKF.t {k:List Key}(e:H a=some (.dT kvs))(eb:H b=some (.tup (k.map kV))):zKF H a (.ref b) (zCd kvs k):=.inr ⟨kvs,k,b,.inl e,rfl,eb,rfl⟩
theorem zLU.k {kvs:List (Key×V)}{k:Key}(e:H a=some (.dK kvs))(hl:kvs.length<sizeLine):zLU H a (kV k) v (upd H a (.dK (zDL kvs k v))):=.inl ⟨kvs,k,e,rfl,hl,rfl⟩
theorem zLU.t {k:List Key}(e:H a=some (.dT kvs))(eb:H b=some (.tup (k.map kV)))(hl:kvs.length<sizeLine) :
 zLU H a (.ref b) v (upd H a (.dT (zDL kvs k v))):=.inr ⟨kvs,k,b,e,rfl,eb,hl,rfl⟩
section
variable {X:Cx}{pins:lPO}{σ:St}{H:Hp}{s:Shared}{a:Addr}{y v:V}{u r:Value}{o:Option V}{A:Around}{E:vSP}
theorem Inv.big (I:Inv X pins σ H s):sysModules<s.heap.objs.size:=by
 have h:mainGlobals<s.heap.objs.size:=(I.mod.glob.keeps I.bk).lt
 exact Nat.lt_trans (by decide) h
theorem zJu {Q:vSP}(hu:A.units+1<cLine)(I:Inv X pins σ H s)(g:zKF H a y (some v))(ry:zBk y u)(h:∀w' s',Inv X pins σ H s'->zBk v w'->Q w' s') :
 wpAny (model X.prog X.w) A (getItem (.ref a) u) Q E s:=by
 rcases g with ⟨kvs,k,e,ey,l⟩ | ⟨kvs,k,b,e,ey,eb,l⟩
 . subst ey
   obtain⟨z,hd,vs,rel,dd⟩:=zJn I.hok e
   obtain⟨w',hw,rw'⟩:=zE5.some_of (v:=v) (o:=valueAt vs k) (by rw[l];exact rel.val k)
   exact wpAny_getItem_of (zGu ry) dd.mapOf hw (h w' _ (I.tok _) rw')
 . subst ey
   cases (show u=Value.ref b from ry)
   obtain⟨z,hd,xs,rel,dd⟩:=zJl I.hok e
   obtain⟨w',hw,rw'⟩:=zE5.some_of (v:=v) (o:=(atKey xs k).map (·.2)) (by rw[l];exact rel.val k)
   obtain⟨p,hp,hp2⟩:=Option.map_eq_some_iff.mp hw
   refine wpAny_getItem_heap (tupleKind_room_in1 hu) (zHT I.hok eb) dd hp ?_
   rw[hp2]
   exact h w' _ (I.tok _) rw'
theorem zFX {h':Heap}{ob:HO}(I:Inv X pins σ H s)(mu:Mut (H a))(hs:Heap.SameBut a s.heap h')(he:∃q,h'.get? a=some q)(new:zBP X.prog X.w (upd H a ob) h' a ob) :
 Inv X pins σ (upd H a ob) { s with heap:=h',toks:=t' }:=
 I.write (x:=a) (e:=a) mu (.inl rfl) (fun b q hb z=>(hs.2 b hb).trans z) he new
theorem zJp {h':Heap}{kvs:List (Key×V)}{vs:List (Key×Value)}(z:kvs.length<=sizeLine)(hd:(a==sysModules)=false)(rel:KV kvs vs)(dd:h'.DictOf (zA9 P w) a vs) :
 zBP P w H' h' a (.dK kvs):=⟨z,hd,vs,rel,dd⟩
theorem zJt (hu:A.units+1<cLine)(I:Inv X pins σ H s)(g:zLU H a y v H')(ry:zBk y u)(rv:zBk v r)(h:∀s',Inv X pins σ H' s'->Q () s') :
 wpAny (model X.prog X.w) A (setItem (.ref a) u r) Q E s:=by
 rcases g with ⟨kvs,k,e,ey,l,eH⟩ | ⟨kvs,k,b,e,ey,eb,l,eH⟩
 . subst ey eH
   obtain⟨z,hd,vs,rel,dd⟩:=zJo I.hok e
   have hz:vs.length<=sizeLine:=by rw[<-rel.length];exact z
   have hl:(zDL kvs k v).length<=sizeLine:=by have:=zCh kvs k v;omega
   refine wpAny_setItem_pairs (hsz:=hz) (zGu ry) dd fun h' dd' hs=>h _ ?_
   have he:∃q,h'.get? a=some q:=let ⟨q,_,_,hq,_⟩:=dd';⟨q,hq⟩
   exact zFX I (by rw[e];exact True.intro) hs he (zJp hl hd (rel.put k rv) dd')
 . subst ey eH
   cases (show u=Value.ref b from ry)
   obtain⟨z,hd,xs,rel,dd⟩:=dt_of I.hok e
   have hz:xs.length<=sizeLine:=by rw[<-Paired.length rel];exact z
   have hl:(zDL kvs k v).length<=sizeLine:=by have:=zCh kvs k v;omega
   refine wpAny_setItem_heap (hsz:=hz) (tupleKind_room_in1 hu) (zHT I.hok eb) dd fun h' dd' hs=>h _ ?_
   obtain⟨q,es,ep,hq,h2,h3,h4,_,h5⟩:=dd'
   refine zFX I (by rw[e];exact True.intro) hs ⟨q,hq⟩ ⟨hl,hd,_,(rel.put k eb rv).keeps fun c ys ec=>?_,q,es,ep,hq,h2,h3,h4,h5⟩
   rw[zf (zBv ec e (fun z=>nomatch z))]
   exact ec
end
section
variable {X:Cx}{pins:lPO}{σ:St}{H:Hp}{s:Shared}{a:Addr}{kvs:List (Key×V)}{k:Key}{u:Value}{A:Around}{E:vSP}
theorem d_pop {more:List Value}{Q:vSP}(I:Inv X pins σ H s)(e:H a=some (.dK kvs))(ry:zBk (kV k) u)(l:zCd kvs k=some v)(hm:more=[]\/∃x,more=[x])
 (h:∀w' s',Inv X pins σ (upd H a (.dK (zCQ kvs k))) s'->zBk v w'->Q w' s'):wpAny (model X.prog X.w) A (call (.builtin "dict.pop") (.ref a::u::more)) Q E s:=by
 obtain⟨z,hd,vs,rel,dd⟩:=zJo I.hok e
 obtain⟨w',hw,rw'⟩:=zE5.some_of (v:=v) (o:=valueAt vs k) (by rw[<-l];exact rel.val k)
 have hp:(keyPart u).isSome=true:=by
  cases k with
  | inl i=>obtain⟨t,q⟩:=(show ∃t,u=Value.int i t from ry);subst q;rfl
  | inr x=>obtain⟨t,q⟩:=(show ∃t,u=Value.str x t from ry);subst q;rfl
 have ha:argsOk "dict.pop" ⟨.ref a::u::more,[]⟩:=by
  rcases hm with q | ⟨x,q⟩
  . subst q;exact PySem.F.args_dict_pop_2 _ _
  . subst q;exact PySem.F.args_dict_pop_3 _ _ _
 refine call_meetsIn PySem.F.slot_dict_pop dd.typeIs PySem.F.entry_dict_pop ha (meets_dict_pop_there (zA9 X.prog X.w) a (zGu ry) more hm hp)
  ⟨vs,w',dd,by rw[<-rel.length];exact z,hw,fun h' dd' hs=>h w' _ ?_ rw'⟩
 have he:∃q,h'.get? a=some q:=let ⟨q,_,_,hq,_⟩:=dd';⟨q,hq⟩
 exact zFX I (by rw[e];exact True.intro) hs he (zJp (zx (zLI kvs k) z) hd (rel.drop k) dd')
end
noncomputable def NoSl (i:Expr):Prop:=∀ov iv,subscripted i false ov iv=operate [ov,iv] (getItem ov iv)
theorem zIW {prog:Program}{E:vSP}{env:Env}{value slice:Expr}{T id:String}{Q:vSP}
 (hl:typeLookup (.type T) "__getitem__" = pure (some (.builtin id))) (hs:NoSl slice)
 (h:wpAny (model prog w) A (eval value env) (fun o s₁=>wpAny (model prog w) A (eval slice env) (fun i s₂=>s₂.TypeIs o T/\wpAny (model prog w) A (getItem o i) Q E s₂) E s₁) E s) :
 wpAny (model prog w) A (eval (.Subscript value slice pos) env) Q E s:=by
 refine Subscript_ (zAP h (fun o s₁ h₁=>zAP h₁ (fun i s₂ h₂=>?_) fun _ _ x=>x) fun _ _ x=>x)
 obtain⟨hT,h₂⟩:=h₂
 unfold subscriptTail
 refine zB ?_
 rw[getitemInPython_of_ne hT.not_modules]
 refine zB (wpAny_specialOf hT hl ?_)
 have fin:wpAny (model prog w) A (subscripted slice false o i) (fun r s₃=>wpAny (model prog w) A (letTemporaryGo value o r >>= fun _=>pure r) Q E s₃) E s₂:=by
  rw[hs o i]
  exact wpAny_operating (zAP h₂ (fun r s₃ h₃=>zB (wpAny_letTemporaryGo (zJ h₃))) fun _ _ x=>x)
 first
  | exact zJ (zB fin)
  | exact zB (zJ (zB fin))
  | exact zB fin
theorem zGy {pins:lPO}{o:Option V}(I:Inv X pins σ H s)(g:zKF H a y o):s.TypeIs (.ref a) "dict" := by
 rcases g with ⟨kvs,k,e,_,_⟩ | ⟨kvs,k,b,e,_,_,_⟩
 . obtain⟨_,_,vs,_,dd⟩:=zJn I.hok e
   exact dd.typeIs
 . obtain⟨_,_,xs,_,dd⟩:=zJl I.hok e
   exact dd.typeIs
noncomputable def tDGet (td ty:TE):TE:=fun σ H Q=>td σ H fun x H1=>ty σ H1 fun y H2=>∃a v,x = .ref a/\zKF H2 a y (some v)/\Q v H2
noncomputable def sDPut (td ty tv:TE):TS:=fun D σ H=>tv σ H fun v H1=>td σ H1 fun x H2=>ty σ H2 fun y H3=>∃a H4,x = .ref a/\zLU H3 a y v H4/\D.nx σ H4
section
variable {X:Cx}{o i e value:Expr}{pos pos' tpos:Pos}{td ty tv:TE}
theorem zMa (hu:X.A.units+1<cLine)(ho:PE X o td)(hi:PE X i ty)(hs:NoSl i):PE X (.Subscript o i pos) (tDGet td ty):=by
 intro pins s σ H Q I h
 refine zIW PySem.F.slot_dict_getitem.lookup hs (thn (ho pins s σ H _ I h) fun u s1 ⟨x,H1,I1,rx,q1⟩=>thn (hi pins s1 σ H1 _ I1 q1) fun iv s2 ⟨y,H2,I2,ry,a,v,ex,g,q2⟩=>?_)
 subst ex
 obtain rfl:u=Value.ref a:=rx
 exact⟨zGy I2 g,zJu hu I2 g ry fun w' s3 I3 rw'=>⟨v,H2,I3,rw',q2⟩⟩
theorem zGl (hu:X.A.units+1<cLine)(ho:PE X o td)(hi:PE X i ty)(hv:PE X value tv)(hs:swapsWith value (some (.Subscript o i pos')) pos.line X.env=pure false) :
 PS X (.Assign [.Subscript o i pos'] value pos) (sDPut td ty tv):=by
 intro pins s σ H D I h
 refine wpAny_Assign_Subscript (thn (hv pins s σ H _ I h) fun r s1 ⟨v,H1,I1,rv,q1⟩=>thn (ho pins s1 σ H1 _ I1 q1) fun u s2 ⟨x,H2,I2,rx,q2⟩=>thn (hi pins s2 σ H2 _ I2 q2) fun iv s3 ⟨y,H3,I3,ry,a,H4,ex,g,q3⟩=>?_) hs
 subst ex
 obtain rfl:u=Value.ref a:=rx
 exact zJt hu I3 g ry rv fun s4 I4=>⟨σ,H4,I4,q3⟩
end
theorem zLJ (h:Heap)(hb:sysModules<h.objs.size):zBP P w H (h.push { cls:=.type "dict",data:=.dict #[] }) h.objs.size (.dK []):=
 ⟨zi _,beq_eq_false_iff_ne.mpr (Ne.symm (zc hb)),[],.nil,Heap.DictOf.new h⟩
theorem zLH (h:Heap)(hb:sysModules<h.objs.size):zBP P w H (h.push { cls:=.type "dict",data:=.dict #[] }) h.objs.size (.dT []):=
 ⟨zi _,beq_eq_false_iff_ne.mpr (Ne.symm (zc hb)),[],.nil,_,#[],0,zW _ rfl,⟨rfl,rfl,rfl⟩,rfl,rfl,List.nodup_nil⟩
noncomputable def tDNewT:TE:=fun _ H Q=>∀p,H p=none->Q (.ref p) (upd H p (.dT []))
section
variable {X:Cx}{pos:Pos}
theorem zKo:PE X (.Dict [] [] pos) tDNewT:=fun pins s σ H Q I h=>
 wpAny_Dict_empty ⟨.ref s.heap.objs.size,_,I.laid (a:=s.heap.objs.size) (o:=.dT []) (t':=s.toks) (fun _ _ q=>zI _ q) (zH _) (zLH s.heap I.big),rfl,h _ (I.hok.fresh (zH _))⟩
end
noncomputable def zIT:List (TE×TE)->St->Hp->(List (V×V)->Hp->Prop)->Prop
 | [],_,H,Q=>Q [] H
 | (tk,tv)::r,σ,H,Q=>tk σ H fun x H1=>tv σ H1 fun y H2=>zIT r σ H2 fun ps H3=>Q ((x,y)::ps) H3
noncomputable abbrev VV:List (V×V)->List (Value×Value)->Prop:=Paired fun p q=>zBk p.1 q.1/\zBk p.2 q.2
noncomputable def PPs (X:Cx)(pos:Pos)(keys:List (Option Expr))(values:List Expr)(trs:List (TE×TE)):Prop:=
 ∀(pins:lPO)(s:Shared)(σ:St)(H:Hp)(Q:List (V×V)->Hp->Prop),Inv X pins σ H s->zIT trs σ H Q ->
  wpAny (model X.prog X.w) X.A (evalPairs (pairTrees keys values X.env pos)) (fun vs s'=>∃ps H',Inv X pins σ H' s'/\VV ps vs/\Q ps H') X.xe s
theorem zMX:PPs X pos [] [] []:=fun pins s σ H Q I h=>pairTrees_nil_walk ⟨[],H,I,.nil,h⟩
theorem zKk {k v:Expr}{ks:List (Option Expr)}{vs:List Expr}{tk tv:TE}{trs:List (TE×TE)}(hk:PE X k tk)(hv:PE X v tv)(hr:PPs X pos ks vs trs) :
 PPs X pos (some k::ks) (v::vs) ((tk,tv)::trs):=fun pins s σ H Q I h=>
 pairTrees_cons_walk (thn (hk pins s σ H _ I h) fun u s1 ⟨x,H1,I1,rx,q1⟩=>thn (hv pins s1 σ H1 _ I1 q1) fun w2 s2 ⟨y,H2,I2,ry,q2⟩=>
  thn (hr pins s2 σ H2 _ I2 q2) fun ws s3 ⟨ps,H3,I3,rel,q3⟩=>⟨(x,y)::ps,H3,I3,.cons ⟨rx,ry⟩ rel,q3⟩)
noncomputable def zEv (kvs more:List (Key×V)):List (Key×V):=more.foldl (fun acc kv=>zDL acc kv.1 kv.2) kvs
theorem KV.merge:∀{more:List (Key×V)}{rs:List (Key×Value)}{kvs:List (Key×V)}{vs:List (Key×Value)},KV more rs->KV kvs vs->KV (zEv kvs more) (merged vs rs):=by
 intro more rs kvs vs r
 unfold KV at r
 induction r generalizing kvs vs with
 | nil=>intro q;exact q
 | @cons p q ps qs h t ih=>
  intro r0
  have e:KV (zDL kvs p.1 p.2) (stored vs q.1 q.2):=by
   have:=r0.put p.1 h.2
   rw[<-h.1];exact this
  exact ih e
theorem zDQ:∀(more kvs:List (Key×V)),(zEv kvs more).length<=kvs.length+more.length
 | [],kvs=>by show kvs.length<=kvs.length+0;omega
 | p::r,kvs=>by
  have h1:=zDQ r (zDL kvs p.1 p.2)
  have h2:=zCh kvs p.1 p.2
  show (zEv (zDL kvs p.1 p.2) r).length<=_
  rw[zT];omega
theorem zE3 {P:Program}{w:World}:∀{kvs:List (Key×V)}{ws:List (Value×Value)},VV (kvs.map fun kv=>(kV kv.1,kv.2)) ws->∃rs,Carries (zA9 P w) ws rs/\KV kvs rs
 | [],_,r=>by rw[List.map_nil] at r;cases r;exact⟨[],True.intro,.nil⟩
 | p::kvs,_,r=>by
  rw[zAA] at r
  cases r with
  | @cons a b as bs h t=>
   obtain⟨rs,c,q⟩:=zE3 (P:=P) (w:=w) t
   obtain⟨b1,b2⟩:=b
   exact⟨(p.1,b2)::rs,⟨zGu h.1,rfl,c⟩,.cons ⟨rfl,h.2⟩ q⟩
noncomputable def tDisp (trs:List (TE×TE)):TE:=fun σ H Q=>∀p,H p=none->zIT trs σ (upd H p (.dK [])) fun ps H2=>H2 p=some (.dK [])/\∃kvs:List (Key×V),ps=kvs.map (fun kv=>(kV kv.1,kv.2))/\kvs.length<=15/\Q (.ref p) (upd H2 p (.dK (zEv [] kvs)))
theorem zMZ {keys:List (Option Expr)}{values:List Expr}{trs:List (TE×TE)}(h:PPs X pos keys values trs)(hall:keys.all (·.isSome)=true)(hl:keys.length=values.length)(h0:keys≠[])
 (h15:keys.length<=15):PE X (.Dict keys values pos) (tDisp trs):=by
 intro pins s σ H Q I q
 have hn:=I.hok.fresh (zH s.heap.objs.size)
 have I1:=I.laid (a:=s.heap.objs.size) (o:=.dK []) (h':=s.heap.push { cls:=.type "dict",data:=.dict #[] }) (t':=s.toks) (fun _ _ q=>zI _ q) (zH _) (zLJ s.heap I.big)
 refine wpAny_Dict_walk (knd:=zA9 X.prog X.w) hall hl h0 h15 (thn (h pins _ σ _ _ I1 (q _ hn)) fun ws s2 ⟨ps,H2,I2,rel,e,kvs,ep,lk,q2⟩=>?_)
 subst ep
 obtain⟨rs,c,rk⟩:=zE3 (P:=X.prog) (w:=X.w) rel
 obtain⟨z,hd,vs0,r0,dd⟩:=zJo I2.hok e
 cases r0
 refine⟨rs,c,dd,fun h' dd' hs=>⟨.ref s.heap.objs.size,_,?_,rfl,q2⟩⟩
 have hz:(zEv [] kvs).length<=sizeLine:=by
  have h1:=zDQ kvs []
  rw[List.length_nil] at h1
  rw[sizeLine_eq];omega
 have he:∃q,h'.get? s.heap.objs.size=some q:=let ⟨q,_,_,hq,_⟩:=dd';⟨q,hq⟩
 exact zFX I2 (by rw[e];exact True.intro) hs he (zJp hz hd (rk.merge .nil) dd')
structure M1 (X:Cx)(o:Expr)(m:Str)(apos:Pos)(e:Expr)(cpos:Pos):Prop where
 base:attributeBase o m X.env (eval o X.env)=eval o X.env
 few:((backTo cpos (starEach [e] X.env)).all (fun x=>!x.1) && (backToKw cpos (keywordEach [] X.env)).all (fun x=>x.1.isSome)
  && decide (([e]:List Expr).length+([]:List Keyword).length+(if ([]:List Keyword).isEmpty then 0 else 1)<30))=true
 line:(apos.endLine==cpos.line)=true
 trees:backTo cpos (starEach [e] X.env)=[(false,eval e X.env)]
structure M2 (X:Cx)(o:Expr)(m:Str)(apos:Pos)(e f:Expr)(cpos:Pos):Prop where
 base:attributeBase o m X.env (eval o X.env)=eval o X.env
 few:((backTo cpos (starEach [e,f] X.env)).all (fun x=>!x.1) && (backToKw cpos (keywordEach [] X.env)).all (fun x=>x.1.isSome)
  && decide (([e,f]:List Expr).length+([]:List Keyword).length+(if ([]:List Keyword).isEmpty then 0 else 1)<30))=true
 line:(apos.endLine==cpos.line)=true
 trees:backTo cpos (starEach [e,f] X.env)=[(false,eval e X.env),(false,eval f X.env)]
noncomputable def IsD (H:Hp)(a:Addr):Prop:=(∃kvs,Rd H a (.dK kvs))\/∃kvs,Rd H a (.dT kvs)
theorem zLs {pins:lPO}(I:Inv X pins σ H s)(d:IsD H a) :
 s.TypeIs (.ref a) "dict" /\ (∀b,Value.ref a = .ref b->∃ob,s.heap.get? b=some ob/\ob.dict=none)/\(a==sysModules)=false:=by
 rcases d with ⟨kvs,e⟩ | ⟨kvs,e⟩
 . obtain⟨_,hd,vs,_,dd⟩:=zJn I.hok e
   refine⟨dd.typeIs,fun b q=>?_,hd⟩
   cases q
   obtain⟨ob,_,_,h1,h2,_⟩:=dd
   exact⟨ob,h1,h2.2.1⟩
 . obtain⟨_,hd,xs,_,dd⟩:=zJl I.hok e
   refine⟨dd.typeIs,fun b q=>?_,hd⟩
   cases q
   obtain⟨ob,_,_,h1,h2,_⟩:=dd
   exact⟨ob,h1,h2.2.1⟩
section
variable {X:Cx}{pins:lPO}{σ:St}{H:Hp}{s:Shared}{a:Addr}{y d:V}{u r:Value}{o:Option V}{A:Around}{E:vSP}
theorem d_get2 {Q:vSP}(hu:A.units+1<cLine)(I:Inv X pins σ H s)(g:zKF H a y o)(ry:zBk y u)(rd:zBk d r)(h:∀w' s',Inv X pins σ H s'->zBk (o.getD d) w'->Q w' s') :
 wpAny (model X.prog X.w) A (call (.builtin "dict.get") [.ref a,u,r]) Q E s:=by
 rcases g with ⟨kvs,k,e,ey,l⟩ | ⟨kvs,k,b,e,ey,eb,l⟩
 . subst ey
   obtain⟨z,hd,vs,rel,dd⟩:=zJn I.hok e
   refine call_meetsIn PySem.F.slot_dict_get dd.typeIs PySem.F.entry_dict_get (PySem.F.args_dict_get_3 _ _ _) (meets_dict_get_default (zA9 X.prog X.w) a (zGu ry) hd r) ⟨_,dd.mapOf,h _ _ (I.tok _) ?_⟩
   rw[l]
   exact (rel.val k).getD rd
 . subst ey
   cases (show u=Value.ref b from ry)
   obtain⟨z,hd,xs,rel,dd⟩:=zJl I.hok e
   refine call_meetsIn PySem.F.slot_dict_get dd.typeIs PySem.F.entry_dict_get (PySem.F.args_dict_get_3 _ _ _) (meetsH_dict_get_default (tupleKind (zA9 X.prog X.w)) a b hd r) ⟨tupleKind_room_in1 hu,k,xs,zHT I.hok eb,dd,h _ _ (I.tok _) ?_⟩
   rw[l]
   exact (rel.val k).getD rd
end
noncomputable def tDGet2 (td ty tx:TE):TE:=fun σ H Q=>td σ H fun x H1=>∃a,x = .ref a/\IsD H1 a/\ty σ H1 fun y H2=>tx σ H2 fun z H3=>∃o,zKF H3 a y o/\Q (o.getD z) H3
noncomputable def tDPop1 (td ty:TE):TE:=fun σ H Q=>td σ H fun x H1=>∃a,x = .ref a/\IsD H1 a/\ty σ H1 fun y H2=>∃kvs k v,H2 a=some (.dK kvs)/\y=kV k/\zCd kvs k=some v/\Q v (upd H2 a (.dK (zCQ kvs k)))
section
variable {X:Cx}{o e f:Expr}{apos cpos:Pos}{td ty tx:TE}
theorem zKp (hu:X.A.units+1<cLine)(ho:PE X o td)(he:PE X e ty)(hf:PE X f tx)(m:M2 X o "get" apos e f cpos):PE X (.Call (.Attribute o "get" apos) [e,f] [] cpos) (tDGet2 td ty tx):=by
 intro pins s σ H Q I h
 refine wpAny_Call_method m.base m.few m.line PySem.F.plainAttrs_dict PySem.F.slot_dict_get PySem.F.type_dict_get (thn (ho pins s σ H _ I h) fun u s1 ⟨x,H1,I1,rx,a,ex,d,q1⟩=>?_)
 subst ex
 obtain rfl:u=Value.ref a:=rx
 obtain⟨t1,t2,_⟩:=zLs I1 d
 refine⟨t1,t2,?_⟩
 rw[m.trees]
 refine Calls.callWith_builtin rfl (Calls.evalArgs_plain (Calls.spliced_cons (thn (he pins s1 σ H1 _ I1 q1) fun iv s2 ⟨y,H2,I2,ry,q2⟩=>
  Calls.spliced_cons (thn (hf pins s2 σ H2 _ I2 q2) fun fv s3 ⟨z,H3,I3,rz,ov,g,q3⟩=>Calls.spliced_nil ?_))))
 exact d_get2 hu I3 g ry rz fun w' s4 I4 rw'=>⟨_,H3,I4,rw',q3⟩
theorem zKn (ho:PE X o td)(he:PE X e ty)(m:M1 X o "pop" apos e cpos):PE X (.Call (.Attribute o "pop" apos) [e] [] cpos) (tDPop1 td ty):=by
 intro pins s σ H Q I h
 refine wpAny_Call_method m.base m.few m.line PySem.F.plainAttrs_dict PySem.F.slot_dict_pop PySem.F.type_dict_pop (thn (ho pins s σ H _ I h) fun u s1 ⟨x,H1,I1,rx,a,ex,d,q1⟩=>?_)
 subst ex
 obtain rfl:u=Value.ref a:=rx
 obtain⟨t1,t2,_⟩:=zLs I1 d
 refine⟨t1,t2,?_⟩
 rw[m.trees]
 refine Calls.callWith_builtin rfl (Calls.evalArgs_plain (Calls.spliced_cons (thn (he pins s1 σ H1 _ I1 q1) fun iv s2 ⟨y,H2,I2,ry,kvs,k,v,ea,ey,l,q2⟩=>Calls.spliced_nil ?_)))
 subst ey
 exact d_pop I2 ea ry l (.inl rfl) fun w' s3 I3 rw'=>⟨v,_,I3,rw',q2⟩
end
end L2
namespace HT
open PySem PyProof.Rows
noncomputable def lexLt:List Int->List Int->Bool
 | [],[]=>false
 | [],_::_=>true
 | _::_,[]=>false
 | x::xs,y::ys=>if x=y then lexLt xs ys else decide (x<y)
theorem lexLt_cons (x y:Int)(xs ys:List Int):lexLt (x::xs) (y::ys)=if x=y then lexLt xs ys else decide (x<y):=rfl
theorem zFT:lexLt [] []=false:=rfl
theorem zEe (y:Int)(ys:List Int):lexLt [] (y::ys)=true:=rfl
theorem zEf (x:Int)(xs:List Int):lexLt (x::xs) []=false:=rfl
theorem zLG (A:Around)(s:Shared)(a:Int)(t:Tok)(c:Int)(u:Tok):∃e,SeqAt.EqAt A s (.int a t) (.int c u) e/\(e=true↔a=c):=
 ⟨(a==c),SeqAt.EqAt.int_int a t c u,by simp⟩
theorem zKf (A:Around)(s:Shared)(a:Int)(t:Tok)(c:Int)(u:Tok)(prog:Program)(w:World)(E:vSP)(Q:vSP)(h:Q (.bool (decide (a<c))) s) :
 wpAny (model prog w) A (richCompare .Lt (.int a t) (.int c u)) Q E s:=
 (PyProof.Rows.lt_int h:wpAny (model prog w) A (compareOp .Lt (.int a t) (.int c u)) Q E s)
section
open PySem.SeqAt
open PySem.AutoSeq1 (wpAny_loadPart')
open PySem.MeetsSeq PySem.MeetsSeq2 PySem.MeetsSeq3
theorem zE7 (l b:Addr)(items items2:Array Value)(n n2:Nat)(dd dd2:Option Addr)(sl sl2:Array (Option Value))(ns ms:List Int)(hi:IntsAre items.toList ns)(hj:IntsAre items2.toList ms) :
 Meets (Builtin.«tuple.__lt__» ⟨[.ref l,.ref b],[]⟩)
  (fun _ R s=>s.heap.get? l=some { cls:=.type "tuple",dict:=dd,data:=.seq items n,slots:=sl }/\s.heap.get? b=some { cls:=.type "tuple",dict:=dd2,data:=.seq items2 n2,slots:=sl2 } /\
   R (.ok (.ret (.bool (lexLt ns ms)))) s):=
 .of_wp fun prog w A R s h=>by
  obtain⟨hp,g,d,tk,os⟩:=s;obtain⟨hl,hb,h⟩:=h
  have f2:=AutoSeq1.sub_tuple_tuple
  have z1:items.size=ns.length:=by rw[<-hi.length];simp
  have z2:items2.size=ms.length:=by rw[<-hj.length];simp
  wp_walk using wpAny_loadPart' hl,wpAny_loadPart' hb,wpAny_forIn_list _ (fun rest b s'=>b.1=none/\s'=⟨hp,g,d,tk,os⟩/\∃(vs ws:List Value)(ns' ms':List Int),rest=vs.zip ws /\
   IntsAre vs ns'/\IntsAre ws ms'/\ns'.length+items2.size=ms'.length+items.size/\R (.ok (.ret (.bool (lexLt ns' ms')))) ⟨hp,g,d,tk,os⟩) _
  case turn=>
   rintro ⟨y,x⟩ rest b s' ⟨hb',rfl,vs,ws,ns',ms',hz,hvi,hwi,hlen,hR⟩
   cases hvi with
   | nil=>rw[List.zip_nil_left] at hz;cases hz
   | cons a t hvi'=>
    cases hwi with
    | nil=>rw[List.zip_nil_right] at hz;cases hz
    | cons c u hwi'=>
     rw[List.zip_cons_cons] at hz
     injection hz with hyx hrest
     injection hyx with hy hx
     subst hy hx
     rw[lexLt_cons] at hR
     simp only[zT] at hlen
     obtain⟨e,he,hiff⟩:=zLG A.in1 ⟨hp,g,d,tk,os⟩ a t c u
     refine zB (he prog w _ _ ?_)
     cases e with
     | true=>
      rw[if_pos (hiff.mp rfl)] at hR
      wp_walk
      exact⟨rfl,rfl,_,_,_,_,hrest,hvi',hwi',by omega,hR⟩
     | false=>
      rw[if_neg (fun q=>absurd (hiff.mpr q) zo)] at hR
      have hri:=zKf A.in1 ⟨hp,g,d,tk,os⟩ a t c u prog w
      wp_walk using hri
      exact⟨_,rfl,by simpa using hR⟩
  case fin=>
   rintro ⟨b1,b2⟩ s' ⟨hb',rfl,vs,ws,ns',ms',hz,hvi,hwi,hlen,hR⟩
   simp only at hb'
   subst hb'
   have hv:lexLt ns' ms'=decide (items.size<items2.size):=by
    cases hvi with
    | nil=>
     cases hwi with
     | nil=>
      simp only[List.length_nil] at hlen
      rw[zFT]
      exact (zb (by omega)).symm
     | cons c u hw=>
      simp only[List.length_nil,zT] at hlen
      rw[zEe]
      exact (zP (by omega)).symm
    | cons a t hv=>
     cases hwi with
     | nil=>
      simp only[List.length_nil,zT] at hlen
      rw[zEf]
      exact (zb (by omega)).symm
     | cons c u hw=>
      rw[List.zip_cons_cons] at hz
      cases hz
   rw[hv] at hR
   wp_walk
   exact⟨_,rfl,by simpa [Builtin.Tuple.tupleCompareSizes] using hR⟩
  case h=>
   exact⟨rfl,rfl,items.toList,items2.toList,ns,ms,rfl,hi,hj,by omega,h⟩
end
section
variable {prog:Program}{w:World}{A:Around}{E:vSP}{s:Shared}
theorem lt_tupInts {l b:Addr}{items items2:Array Value}{ns ms:List Int}{Q:vSP}(hl:IsTup s.heap l items)(hb:IsTup s.heap b items2)(hi:IntsAre items.toList ns)(hj:IntsAre items2.toList ms)
 (hu:A.units<cLine)(h:Q (.bool (lexLt ns ms)) s):wpAny (model prog w) A (compareOp .Lt (.ref l) (.ref b)) Q E s:=by
 obtain⟨⟨cls,dd,data,sl⟩,ho,hc,n,hd⟩:=id hl
 obtain⟨⟨cls2,dd2,data2,sl2⟩,ho2,hc2,n2,hd2⟩:=id hb
 simp only at hc hd hc2 hd2
 subst hc hd hc2 hd2
 exact richCompare_meets_room (op:=.Lt) ⟨_,ho,rfl⟩ ⟨_,ho2,rfl⟩ PySem.F.slot_tuple_lt PySem.F.entry_tuple_lt (PySem.F.args_tuple_lt_2 _ _) (zE7 l b items items2 n n2 dd dd2 sl sl2 ns ms hi hj)
  ⟨ho,ho2,show Value.bool (lexLt ns ms)≠Value.notImplemented/\Q (.bool (lexLt ns ms)) s from ⟨(fun x=>nomatch x),h⟩⟩ hu
theorem cat_tup {t b:Addr}{vs ws:List Value}{Q:vSP}(ht:IsTup s.heap t vs.toArray)(hb:IsTup s.heap b ws.toArray)(hv:vs≠[])
 (h1:ws=[]->Q (.ref t) s)(h2:ws≠[]->Q (.ref s.heap.objs.size) { s with heap:=s.heap.push { cls:=.type "tuple",data:=.seq (vs++ws).toArray } })
 (hsz:vs.length+ws.length<=sizeLine):wpAny (model prog w) A (binaryOp .Add (.ref t) (.ref b)) Q E s:=by
 obtain⟨⟨cls,dd,data,sl⟩,ho,hc,n,hd⟩:=id ht
 obtain⟨⟨cls2,dd2,data2,sl2⟩,ho2,hc2,n2,hd2⟩:=id hb
 simp only at hc hd hc2 hd2
 subst hc hd hc2 hd2
 have e:vs.toArray++ws.toArray=(vs++ws).toArray:=by simp
 by_cases hw:ws=[]
 . exact concat_meets ⟨_,ho,rfl⟩ ⟨_,ho2,rfl⟩ noFill_tuple_add seq_tuple_add PySem.F.slot_tuple_add PySem.F.entry_tuple_add (PySem.F.args_tuple_add_2 _ _)
    (tuple_addW1 t b vs.toArray ws.toArray n n2 dd dd2 sl sl2 (by simpa using hv) (by simp[hw])) ⟨ho,ho2,h1 hw⟩
 . refine concat_meets ⟨_,ho,rfl⟩ ⟨_,ho2,rfl⟩ noFill_tuple_add seq_tuple_add PySem.F.slot_tuple_add PySem.F.entry_tuple_add (PySem.F.args_tuple_add_2 _ _)
    (tuple_addW2 t b vs.toArray ws.toArray n n2 dd dd2 sl sl2 (by simpa using hv) (by simpa using hw) (by rw[zQ,zQ];exact hsz)) ⟨ho,ho2,?_⟩
   rw[e]
   exact h2 hw
noncomputable def sIx (n d:Nat):Option Int->Nat
 | none=>d
 | some v=>if v<0 then (v+(n:Int)).toNat else min v.toNat n
theorem sIx_none (n d:Nat):sIx n d none=d:=rfl
theorem sIx_nat (n d k:Nat):sIx n d (some (k:Int))=min k n:=by
 show (if (k:Int)<0 then ((k:Int)+(n:Int)).toNat else min (k:Int).toNat n)=min k n
 rw[if_neg (by omega),zAR]
theorem sIx_le (n d:Nat)(hd:d<=n)(o:Option Int):sIx n d o<=n:=by
 cases o with
 | none=>exact hd
 | some v=>
  show (if v<0 then (v+(n:Int)).toNat else min v.toNat n)<=n
  by_cases hv:v<0
  . rw[if_pos hv];omega
  . rw[if_neg hv];exact Nat.min_le_right _ _
theorem zJz (v:Int)(n d:Nat):(if v<0 then max (v+(n:Int)) 0 else min v (n:Int))=((sIx n d (some v):Nat):Int):=by
 show (if v<0 then max (v+(n:Int)) 0 else min v (n:Int))=(((if v<0 then (v+(n:Int)).toNat else min v.toNat n):Nat):Int)
 by_cases hv:v<0
 . simp only[if_pos hv];omega
 . simp only[if_neg hv];omega
theorem zIG (lo hi:Option Int) (n:Nat):Builtin.Slice.sliceAdjust lo hi 1 (n:Int)=(((sIx n 0 lo:Nat):Int),((sIx n n hi:Nat):Int)):=by
 have h1:¬ ((1:Int)<0):=by omega
 unfold Builtin.Slice.sliceAdjust
 simp only[h1,if_false]
 refine Prod.ext ?_ ?_
 . cases lo with
   | none=>rfl
   | some v=>exact zJz v n 0
 . cases hi with
   | none=>rfl
   | some v=>exact zJz v n n
theorem zHu (i j:Nat):Builtin.Slice.slicePlaces (i:Int) (j:Int) 1=j-i:=by
 unfold Builtin.Slice.slicePlaces
 have h1:(1:Int) > 0:=by omega
 simp only[h1,if_true,Int.ediv_one]
 split <;> omega
theorem zEl {v:Value} {o:Option Int} {Q:Option Int->Shared->Prop} (p:IsPart v o) (h:Q o s):wpAny (model prog w) A (Builtin.Slice.slicePartIndex v) Q E s:=by
 cases p with
 | none=>exact slicePart_none h
 | int i t=>exact slicePart_int h
theorem zCn {sl:Addr}{vl vu:Value}{lo hi:Option Int}{n:Nat}{Q:Int×Int×Nat->Shared->Prop}(hs:s.heap.IsSliceOf sl vl vu .none)(pl:IsPart vl lo)(pu:IsPart vu hi)
 (h:Q (((sIx n 0 lo:Nat):Int),1,sIx n n hi-sIx n 0 lo) s):wpAny (model prog w) A (Builtin.Slice.sliceApplied (.ref sl) (pure (n:Int))) Q E s:=by
 obtain⟨os,hos,hcs,hds⟩:=id hs
 unfold Builtin.Slice.sliceApplied Builtin.Slice.sliceFields
 refine zB (zB (wpAny_field hos hds (x:=vl) rfl (zB (wpAny_field hos hds (x:=vu) rfl (zB (wpAny_field hos hds (x:=.none) rfl (zJ ?_)))))))
 refine zB (slicePart_none ?_)
 show wpAny _ _ (if ((1:Int)==0)=true then _ else _) _ _ s
 rw[if_neg (by decide)]
 refine zB (zEl pl (zB (zEl pu (zB (zJ ?_)))))
 show wpAny _ _ (match Builtin.Slice.sliceAdjust lo hi 1 (n:Int) with | (lo,hi)=>pure (lo,(1:Int),Builtin.Slice.slicePlaces lo hi 1)) _ _ s
 rw[zIG lo hi n]
 show wpAny _ _ (pure (((sIx n 0 lo:Nat):Int),(1:Int),Builtin.Slice.slicePlaces ((sIx n 0 lo:Nat):Int) ((sIx n n hi:Nat):Int) 1)) _ _ s
 rw[zHu]
 exact zJ h
theorem zKl (xs:Array Value)(i k:Nat):((List.range k).filterMap fun (m:Nat)=>xs[((i:Int)+(m:Int)*1).toNat]?).toArray=((xs.toList.drop i).take k).toArray:=by
 have e:(fun (m:Nat)=>xs[((i:Int)+(m:Int)*1).toNat]?)=fun m=>xs[i+m]?:=by
  funext m
  have:((i:Int)+(m:Int)*1).toNat=i+m:=by omega
  rw[this]
 rw[e]
 have:=pick_run xs i k
 rw[List.filterMap_map] at this
 have e2:((fun x=>xs[x]?)∘fun x=>i+x)=fun m=>xs[i+m]?:=rfl
 rw[e2] at this
 rw[this]
theorem getItem_tuple_cut {t sl:Addr}{items:Array Value}{vl vu:Value}{lo hi:Option Int}{Q:vSP}(ht:IsTup s.heap t items)(hs:s.heap.IsSliceOf sl vl vu .none)(pl:IsPart vl lo)(pu:IsPart vu hi)
 (hw:¬ (sIx items.size 0 lo=0/\sIx items.size items.size hi=items.size))
 (h:Q (.ref s.heap.objs.size) { s with heap:=s.heap.push { cls:=.type "tuple",data:=.seq ((items.toList.drop (sIx items.size 0 lo)).take (sIx items.size items.size hi-sIx items.size 0 lo)).toArray } })
 (hsz:items.size<=sizeLine):wpAny (model prog w) A (getItem (.ref t) (.ref sl)) Q E s:=by
 have htake:sizeOk (.seq ((items.toList.drop (sIx items.size 0 lo)).take (sIx items.size items.size hi-sIx items.size 0 lo)).toArray):=by
  show ((items.toList.drop (sIx items.size 0 lo)).take (sIx items.size items.size hi-sIx items.size 0 lo)).toArray.size<=sizeLine
  rw[zQ,zl,List.length_drop,Array.length_toList]
  omega
 have hj:sIx items.size items.size hi<=items.size:=sIx_le _ _ (zH _) hi
 obtain⟨os,hos,hcs,hds⟩:=id hs
 have hTs:s.TypeIs (.ref sl) "slice" := ⟨os,hos,hcs⟩
 unfold getItem
 try with_reducible refine zAg ?_
 first | refine zB (zJ ?_) | skip
 refine zB (wpAny_sequenceKey ht.typeIs (by decide) ?_)
 refine zB (zA4 (name:=Str.ofString "__getitem__") ht.typeIs PyProof.Rows.slot_tuple_getitem
  (zAw PyProof.Rows.slot_tuple_getitem ht.typeIs entry_tuple_getitem ?_ (args_tuple_getitem _ _)))
 show wpAny _ _ (Builtin.Tuple.tupleItemsOf (.ref t) >>= _) _ _ s
 refine zB (tupleItemsOf_ ht ?_)
 refine zB (wpAny_typeOf hTs ?_)
 rw[if_pos (by decide)]
 refine zB (zCn hs pl pu ?_)
 have hno:¬ ((((sIx items.size 0 lo:Nat):Int)==0 && (1:Int)==1 && (sIx items.size items.size hi-sIx items.size 0 lo)==items.size)=true):=by
  intro q
  rw[zBC,zBC] at q
  have q1:((sIx items.size 0 lo:Nat):Int)=0:=eq_of_beq q.1.1
  have q2:sIx items.size items.size hi-sIx items.size 0 lo=items.size:=eq_of_beq q.2
  exact hw ⟨by omega,by omega⟩
 show wpAny _ _ (if (((sIx items.size 0 lo:Nat):Int)==0 && (1:Int)==1 && (sIx items.size items.size hi-sIx items.size 0 lo)==items.size)=true then _ else _) _ _ s
 rw[if_neg hno,zKl]
 first
  | exact zB (m:=Builtin.Tuple.tupleExact _) (zAr (zJ ⟨_,rfl,zJ h⟩) htake)
  | exact zB (m:=Builtin.Tuple.tupleExact _) (zAr (zB (zJ (zJ ⟨_,rfl,zJ h⟩))) htake)
  | exact zB (zB (m:=Builtin.Tuple.tupleExact _) (zAr (zJ (zJ ⟨_,rfl,zJ h⟩)) htake))
  | exact zB (zB (m:=Builtin.Tuple.tupleExact _) (zAr (zJ ⟨_,rfl,zJ h⟩) htake))
end
end HT
namespace L2
open PySem PySem.Spec PyProof.Rows
noncomputable abbrev TO:=St->Hp->(Option Int->Hp->Prop)->Prop
noncomputable def PO (X:Cx)(e:Option Expr)(t:TO):Prop:=
 ∀(pins:lPO)(s:Shared)(σ:St)(H:Hp)(Q:Option Int->Hp->Prop),Inv X pins σ H s->t σ H Q ->
  wpAny (model X.prog X.w) X.A (evalPart e X.env) (fun u s'=>∃o H',Inv X pins σ H' s'/\IsPart u o/\Q o H') X.xe s
noncomputable def zL5:TO:=fun _ H Q=>Q none H
noncomputable def tPart (t:TE):TO:=fun σ H Q=>t σ H fun x H1=>∃i,x = .int i/\Q (some i) H1
theorem zBS {ns:List Int}:∀{us:List Value},zBO (ns.map V.int) us->IntsAre us ns:=by
 induction ns with
 | nil=>intro us r;rw[List.map_nil] at r;cases r;exact .nil
 | cons n ns ih=>
  intro us r
  rw[zAA] at r
  cases r with
  | cons r1 r2=>
   obtain⟨t,e⟩:=r1
   subst e
   exact .cons n t (ih r2)
variable {xs:List V}
section
variable {X:Cx}{e:Expr}{te:TE}{lo hi:Option Expr}{tl th:TO}{pos p2:Pos}
theorem zB7:PO X none zL5:=by
 intro pins s σ H Q I h
 rw[evalPart_none]
 exact zJ ⟨none,H,I,.none,h⟩
theorem zB6 (h:PE X e te):PO X (some e) (tPart te):=by
 intro pins s σ H Q I hw
 rw[evalPart_some]
 refine thn (h pins s σ H _ I hw) fun u s1 ⟨x,H1,I1,r1,q1⟩=>?_
 obtain⟨i,rfl,q⟩:=q1
 obtain⟨t,rfl⟩:=r1
 exact⟨some i,H1,I1,.int i t,q⟩
noncomputable def SlR (X:Cx)(r:V->Option Int->Option Int->Hp->VK->Prop):Prop:=
 ∀(pins:lPO)(s:Shared)(σ:St)(H:Hp)(x:V)(v vl vu:Value)(lo hi:Option Int)(sl:Addr)(Q:VK),Inv X pins σ H s->zBk x v->s.heap.IsSliceOf sl vl vu .none->IsPart vl lo->IsPart vu hi->r x lo hi H Q ->
  ∃T id,typeLookup (.type T) "__getitem__" = pure (some (.builtin id))/\s.TypeIs v T/\wpAny (model X.prog X.w) X.A (getItem v (.ref sl)) (EP X pins σ Q) X.xe s
noncomputable def tSl (r:V->Option Int->Option Int->Hp->VK->Prop)(te:TE)(tl th:TO):TE:=fun σ H Q=>te σ H fun x H1=>tl σ H1 fun l H2=>th σ H2 fun u H3=>r x l u H3 Q
theorem zBc {r:V->Option Int->Option Int->Hp->VK->Prop}(hr:SlR X r)(he:PE X e te)(hl:PO X lo tl)(hu:PO X hi th):PE X (.Subscript e (.Slice lo hi none p2) pos) (tSl r te tl th):=by
 intro pins s σ H Q I h
 refine Subscript_ (thn (he pins s σ H _ I h) fun v s1 ⟨x,H1,I1,r1,q1⟩=>?_)
 refine wpAny_Slice (thn (hl pins s1 σ H1 _ I1 q1) fun vl s2 ⟨l,H2,I2,pl,q2⟩=>thn (hu pins s2 σ H2 _ I2 q2) fun vu s3 ⟨u,H3,I3,pu,q3⟩=>?_)
 rw[evalPart_none]
 refine zJ ?_
 have I4:Inv X pins σ H3 { s3 with heap:=s3.heap.push { cls:=.type "slice",data:=.fields #[vl,vu,.none] } }:=I3.kept (t':=s3.toks) fun b ob q=>zI _ q
 obtain⟨T,id,hT,ht,hg⟩:=hr pins { s3 with heap:=s3.heap.push { cls:=.type "slice",data:=.fields #[vl,vu,.none] } } σ H3 x v vl vu l u s3.heap.objs.size Q I4 r1 (Heap.IsSliceOf.new ..) pl pu q3
 show wpAny (model X.prog X.w) X.A (subscriptTail e (.Slice lo hi none p2) v (.ref s3.heap.objs.size)) (EP X pins σ Q) X.xe { s3 with heap:=s3.heap.push { cls:=.type "slice",data:=.fields #[vl,vu,.none] } }
 exact tail_any (ops:=[.ref s3.heap.objs.size,v]) ht hT hg (by with_unfolding_all rfl)
noncomputable def zC0 (xs:List V)(lo hi:Option Int):List V:=(xs.drop (HT.sIx xs.length 0 lo)).take (HT.sIx xs.length xs.length hi-HT.sIx xs.length 0 lo)
theorem zAc (xs:List V)(lo hi:Option Int):(zC0 xs lo hi).length<=xs.length:=by
 unfold zC0
 rw[zl,List.length_drop]
 omega
noncomputable def rSlT (K:PySem.W.Frag):V->Option Int->Option Int->Hp->VK->Prop:=fun x lo hi H Q=>∃a xs,x = .ref a/\SqT K H a xs /\
 ¬ (HT.sIx xs.length 0 lo=0/\HT.sIx xs.length xs.length hi=xs.length)/\∀p,H p=none->Q (.ref p) (upd H p (.tup (zC0 xs lo hi)))
theorem sl_tup:SlR X (rSlT X.K):=by
 intro pins s σ H x v vl vu lo hi sl Q I rx hs pl pu h
 obtain⟨a,xs,rfl,hx,hw,q⟩:=h
 cases rx
 obtain⟨its,r,ht,hz⟩:=I.tuple hx
 have hlen:its.toArray.size=xs.length:=by rw[zQ];exact r.length.symm
 refine⟨"tuple",_,PyProof.Rows.slot_tuple_getitem.lookup,ht.typeIs,?_⟩
 refine HT.getItem_tuple_cut ht hs pl pu (by rw[hlen];exact hw) ?_ (by rw[hlen];exact hz)
 rw[hlen]
 refine⟨.ref s.heap.objs.size,_,I.laid (t':=s.toks) (o:=.tup (zC0 xs lo hi)) (fun b ob q=>zI _ q) (zH _) ?_,rfl,q _ (I.hok.fresh (zH _))⟩
 exact⟨⟨zx (zAc xs lo hi) hz,_,zW _ rfl,rfl⟩,_,(r.drop (HT.sIx xs.length 0 lo)).take (HT.sIx xs.length xs.length hi-HT.sIx xs.length 0 lo),IsTup.new _ _⟩
noncomputable def rCatT (K:PySem.W.Frag):R2:=fun x y H Q=>∃a b xs ys,x = .ref a/\y = .ref b/\SqT K H a xs/\SqT K H b ys/\xs≠[]/\xs.length+ys.length<=sizeLine /\
 (ys=[]->Q (.ref a) H)/\(ys≠[]->∀p,H p=none->Q (.ref p) (upd H p (.tup (xs++ys))))
theorem zBO.nil_iff {us:List Value}(r:zBO xs us):us=[]↔xs=[]:=by
 cases r with
 | nil=>simp
 | cons _ _=>simp
theorem zMg:OpR X (binaryOp .Add) (rCatT X.K):=by
 intro pins s σ H x y v u Q I rx ry h
 obtain⟨a,b,xs,ys,rfl,rfl,ha,hb,hx,hz,q1,q2⟩:=h
 cases rx
 cases ry
 obtain⟨its,r1,p1,_⟩:=I.tuple ha
 obtain⟨its2,r2,p2,_⟩:=I.tuple hb
 refine HT.cat_tup p1 p2 (fun z=>hx (r1.nil_iff.mp z)) (fun z=>⟨.ref a,H,I,rfl,q1 (r2.nil_iff.mp z)⟩) (fun z=>?_) (by rw[<-r1.length,<-r2.length];exact hz)
 refine⟨.ref s.heap.objs.size,_,I.laid (t':=s.toks) (o:=.tup (xs++ys)) (fun b ob q=>zI _ q) (zH _) ?_,rfl,q2 (fun w=>z (r2.nil_iff.mpr w)) _ (I.hok.fresh (zH _))⟩
 exact⟨⟨by rw[zL];exact hz,_,zW _ rfl,rfl⟩,_,r1.append r2,IsTup.new _ _⟩
end
noncomputable def ixN (n:Nat)(i:Int):Option Nat:=if 0<=i then (if i<n then some i.toNat else none) else if -(n:Int)<=i then some (i+n).toNat else none
noncomputable def atI {α:Type}(xs:List α)(i:Int):Option α:=(ixN xs.length i).bind fun j=>xs[j]?
variable {n:Nat}
theorem zJP {i:Int}{j:Nat}(h:ixN n i=some j):seqIndex? i n=some j/\j<n /\ -(n:Int)<=i/\i<n:=by
 unfold ixN at h
 by_cases h0:0<=i
 . rw[if_pos h0] at h
   by_cases h1:i<n
   . rw[if_pos h1] at h
     have e:i.toNat=j:=zU h
     exact⟨by rw[seqIndex_of h0 h1,e],by omega,by omega,h1⟩
   . rw[if_neg h1] at h;cases h
 . rw[if_neg h0] at h
   by_cases h1 : -(n:Int)<=i
   . rw[if_pos h1] at h
     have e:(i+n).toNat=j:=zU h
     exact⟨by rw[seqIndex_neg (by omega) h1,e],by omega,h1,by omega⟩
   . rw[if_neg h1] at h;cases h
theorem zJ6 {α:Type}{xs:List α}{i:Int}{v:α}(h:atI xs i=some v):∃j,seqIndex? i xs.length=some j/\xs[j]? = some v/\j<xs.length /\ -(xs.length:Int)<=i/\i<xs.length:=by
 unfold atI at h
 cases e:ixN xs.length i with
 | none=>rw[e] at h;cases h
 | some j=>
  rw[e] at h
  obtain⟨h1,h2,h3,h4⟩:=zJP e
  exact⟨j,h1,h,h2,h3,h4⟩
theorem zBh {α:Type}{xs:List α}{j:Nat}{v:α}(h:xs[j]? = some v):atI xs (j:Int)=some v:=by
 have hj:j<xs.length:=(zK.mp h).1
 have e:ixN xs.length (j:Int)=some j:=by
  unfold ixN
  rw[if_pos (by omega),if_pos (by omega)];simp
 unfold atI;rw[e];exact h
theorem zHe {α:Type}(xs:List α)(v:α):atI (xs++[v]) (-1)=some v:=by
 have hl:(xs++[v]).length=xs.length+1:=by simp
 have e:ixN (xs++[v]).length (-1)=some xs.length:=by
  unfold ixN
  rw[hl,if_neg (by decide),if_pos (by omega)]
  congr 1
  omega
 unfold atI
 rw[e]
 show (xs++[v])[xs.length]? = some v
 simp
noncomputable def zKA (b:Expr):Prop:=∀o i,subscripted b false o i=operate [o,i] (getItem o i)
noncomputable def IxR (X:Cx)(r:R2):Prop:=
 ∀(value slice:Expr)(pins:lPO)(s:Shared)(σ:St)(H:Hp)(x y:V)(v u:Value)(Q:VK),Inv X pins σ H s->zBk x v->zBk y u->r x y H Q ->
  subscripted slice false v u=operate [v,u] (getItem v u)->wpAny (model X.prog X.w) X.A (subscriptTail value slice v u) (EP X pins σ Q) X.xe s
noncomputable def MtR (X:Cx)(id:String)(r:V->List V->Hp->VK->Prop):Prop:=
 ∀(pins:lPO)(s:Shared)(σ:St)(H:Hp)(x:V)(xs:List V)(v:Value)(us:List Value)(Q:VK),Inv X pins σ H s->zBk x v->zBO xs us->r x xs H Q ->
  wpAny (model X.prog X.w) X.A (call (.builtin id) (v::us)) (EP X pins σ Q) X.xe s
variable {σ:St}{H:Hp}{s:Shared}{its:List Value}
section
variable {X:Cx}{a b:Expr}{ta tb:TE}{pos:Pos}
theorem pe_ix {r:R2}(hr:IxR X r)(ha:PE X a ta)(hb:PE X b tb)(hs:zKA b):PE X (.Subscript a b pos) (tOp r ta tb):=by
 intro pins s σ H Q I h
 exact Subscript_ (binT ha hb I h fun v u s2 x y H2 I2 rx ry q=>hr a b pins s2 σ H2 x y v u Q I2 rx ry q (hs _ _))
noncomputable def rIxL (K:PySem.W.Frag):R2:=fun x y H Q=>∃p xs i v,x = .ref p/\y = .int i/\SqL K H p xs/\atI xs i=some v/\Q v H
noncomputable def rIxT (K:PySem.W.Frag):R2:=fun x y H Q=>∃p xs i v,x = .ref p/\y = .int i/\SqT K H p xs/\atI xs i=some v/\Q v H
theorem zAb:IxR X (rIxL X.K):=by
 intro value slice pins s σ H x y v u Q I rx ry h hs
 obtain⟨p,xs,i,z,rfl,rfl,hq,he,q⟩:=h
 cases rx
 obtain⟨t,rfl⟩:=ry
 obtain⟨its,r,pl,hz⟩:=I.list hq
 obtain⟨j,h1,h2,h3,h4,h5⟩:=zJ6 he
 obtain⟨w,ew,rw'⟩:=r.get h2
 have hl:=r.length
 have hn:=zF4
 have fin:EP X pins σ Q w s:=⟨z,H,I,rw',q⟩
 by_cases h0:0<=i
 . have hj:i.toNat=j:=by
    rw[seqIndex_of h0 h5] at h1
    exact zU h1
   exact item_listR pl.isList h0 (by omega) (by rw[hj];simpa using ew) fin hs
 . have hj:(i+(its.toArray.size:Int)).toNat=j:=by
    rw[seqIndex_neg (by omega) h4] at h1
    rw[zQ,<-hl]
    exact zU h1
   exact subscriptTail_builtinR (x:=w) pl.isList.typeIs slot_list_getitem.lookup
    (wpAny_getItem_list_neg (Q:=fun r s'=>r=w/\EP X pins σ Q r s') pl.isList (by omega) (by rw[zQ] <;> omega) (by omega) (by rw[hj];simpa using ew) ⟨rfl,fin⟩) hs
theorem zAY:IxR X (rIxT X.K):=by
 intro value slice pins s σ H x y v u Q I rx ry h hs
 obtain⟨p,xs,i,z,rfl,rfl,hq,he,q⟩:=h
 cases rx
 obtain⟨t,rfl⟩:=ry
 obtain⟨its,r,pl,hz⟩:=I.tuple hq
 obtain⟨j,h1,h2,h3,h4,h5⟩:=zJ6 he
 obtain⟨w,ew,rw'⟩:=r.get h2
 have hl:=r.length
 have hn:=zF4
 have fin:EP X pins σ Q w s:=⟨z,H,I,rw',q⟩
 exact subscriptTail_builtinR (x:=w) pl.typeIs slot_tuple_getitem.lookup
  (getItem_tuple (j:=j) (Q:=fun r s'=>r=w/\EP X pins σ Q r s') pl (by omega) (by omega) (by rw[zQ,<-hl];exact h1) (by simpa using ew) ⟨rfl,fin⟩) hs
theorem zH2 (its:List Value)(n j:Nat)(u:Value):Obj.mapSeq (·.setIfInBounds j u) { cls:=.type "list",data:=.seq its.toArray n }={ cls:=.type "list",data:=.seq (its.set j u).toArray n }:=by
 simp[Obj.mapSeq]
theorem Inv.lst {pins:lPO}{p:Addr}(I:Inv X pins σ H s)(h:H p=some (.lst xs)) :
 ∃(its:List Value)(n:Nat),zBO xs its/\s.heap.get? p=some { cls:=.type "list",data:=.seq its.toArray n }/\xs.length<=sizeLine:=by
 obtain⟨z,its,n,r,e⟩:=I.hok p _ h
 exact⟨its,n,r,e,z⟩
theorem Inv.lstUpd {pins:lPO}{p:Addr}{ys:List V}{its':List Value}{n':Nat}{f:Obj->Obj}(I:Inv X pins σ H s)(h:H p=some (.lst xs))
 (ho:s.heap.get? p=some { cls:=.type "list",data:=.seq its.toArray n }) (hf:f { cls:=.type "list",data:=.seq its.toArray n }={ cls:=.type "list",data:=.seq its'.toArray n' }) (r:zBO ys its')(hz:ys.length<=sizeLine)(t:Nat) :
 Inv X pins σ (upd H p (.lst ys)) { s with heap:=s.heap.update p f,toks:=t }:=by
 have e:(s.heap.update p f).get? p=some { cls:=.type "list",data:=.seq its'.toArray n' }:=by
  rw[zBJ f ho (by rw[hf] <;> rfl),hf]
 refine I.write (x:=p) (e:=p) (by rw[h];trivial) (.inl rfl) (fun b u hb q=>(Heap.get?_update_other _ _ (Ne.symm hb)).trans q) ⟨_,e⟩ ?_
 exact⟨hz,its',n',r,e⟩
noncomputable def rSetL:V->V->V->Hp->(Hp->Prop)->Prop:=fun o i v H Q=>∃p xs k j,o = .ref p/\i = .int k/\H p=some (.lst xs)/\ixN xs.length k=some j/\Q (upd H p (.lst (xs.set j v)))
theorem zCT:PSet X rSetL:=by
 intro pins s σ H o i v ov iv u Q I ro ri rv h
 obtain⟨p,xs,k,j,rfl,rfl,hp,hj,q⟩:=h
 cases ro
 obtain⟨t,rfl⟩:=ri
 obtain⟨its,n,r,ho,hz⟩:=I.lst hp
 obtain⟨h1,h2,h3,h4⟩:=zJP hj
 have hl:=r.length
 have hn:=zF4
 have I':Inv X pins σ (upd H p (.lst (xs.set j v))) { s with heap:=s.heap.update p (Obj.mapSeq (·.setIfInBounds j u)) }:=
  I.lstUpd hp ho (zH2 its n j u) (r.set rv j) (by rw[List.length_set];exact hz) s.toks
 by_cases h0:0<=k
 . have hk:k.toNat=j:=by
    rw[seqIndex_of h0 h4] at h1
    exact zU h1
   exact PySem.W.ki_setAt ho h0 (by omega) (by rw[zQ,<-hl];exact h4) (by rw[hk];exact⟨_,I',q⟩)
 . have hk:(k+(its.toArray.size:Int)).toNat=j:=by
    rw[seqIndex_neg (by omega) h3] at h1
    rw[zQ,<-hl]
    exact zU h1
   exact PySem.W.ki_setBack ho (by omega) (by rw[zQ,<-hl];exact h3) (by omega) (by rw[hk];exact⟨_,I',q⟩)
theorem zFq (lo hi:Option Int)(n:Nat):(sliceBounds lo hi none n).1=((HT.sIx n 0 lo:Nat):Int)/\(sliceBounds lo hi none n).2.1=((HT.sIx n n hi:Nat):Int)/\(sliceBounds lo hi none n).2.2=1:=by
 refine⟨?_,?_,rfl⟩
 . cases lo with
   | none=>simp[sliceBounds,HT.sIx]
   | some i=>
    simp only[sliceBounds,HT.sIx,Option.getD_none,show (1:Int) > 0 by decide,if_true]
    by_cases h:i<0
    . simp only[h,if_true] <;> omega
    . simp only[h,if_false] <;> omega
 . cases hi with
   | none=>simp[sliceBounds,HT.sIx]
   | some i=>
    simp only[sliceBounds,HT.sIx,Option.getD_none,show (1:Int) > 0 by decide,if_true]
    by_cases h:i<0
    . simp only[h,if_true] <;> omega
    . simp only[h,if_false] <;> omega
theorem zFC (its:List Value)(lo hi:Option Int):slicePick its.toArray lo hi none=((its.drop (HT.sIx its.length 0 lo)).take (HT.sIx its.length its.length hi-HT.sIx its.length 0 lo)).toArray:=by
 obtain⟨h1,h2,h3⟩:=zFq lo hi its.toArray.size
 unfold slicePick
 rw[h1,h2,h3]
 simp only[sliceRange_one,pick_run,zQ] <;> rfl
noncomputable def rSlL (K:PySem.W.Frag):V->Option Int->Option Int->Hp->VK->Prop:=fun x lo hi H Q=>∃a xs,x = .ref a/\SqL K H a xs/\∀p,H p=none->Q (.ref p) (upd H p (.lst (zC0 xs lo hi)))
theorem zFD:SlR X (rSlL X.K):=by
 intro pins s σ H x v vl vu lo hi sl Q I rx hs pl pu h
 obtain⟨a,xs,rfl,hx,q⟩:=h
 cases rx
 obtain⟨its,r,ht,hz⟩:=I.list hx
 have hlen:=r.length
 refine⟨"list",_,slot_list_getitem.lookup,ht.isList.typeIs,?_⟩
 refine wpAny_getItem_list_slice ht.isList hs pl pu .none (by simp) ?_ (by rw[zQ] <;> omega)
 rw[zFC,<-hlen]
 refine⟨.ref s.heap.objs.size,_,I.laid (t':=s.toks) (o:=.lst (zC0 xs lo hi)) (fun b ob q=>zI _ q) (zH _) ?_,rfl,q _ (I.hok.fresh (zH _))⟩
 exact⟨zx (zAc xs lo hi) hz,_,0,(r.drop (HT.sIx xs.length 0 lo)).take (HT.sIx xs.length xs.length hi-HT.sIx xs.length 0 lo),zW _ rfl⟩
theorem zAE:zCS X (.builtin "len") (fun xs H Q=>∃p ys,xs=[.ref p]/\(SqL X.K H p ys\/SqT X.K H p ys)/\Q (.int ys.length) H):=by
 intro pins s σ H xs us Q I r h
 obtain⟨p,ys,rfl,hq,q⟩:=h
 obtain⟨u,rfl,rx⟩:=zCq r
 cases rx
 have hn:=zF4
 rcases hq with hq | hq
 . obtain⟨its,r',pl,hz⟩:=I.list hq
   have hlen:=r'.length
   exact Calls.call_len_list pl.isList (by simp only[zQ] <;> omega) ⟨.int ys.length,H,I.tok _,⟨s.toks+1,by rw[zQ,hlen]⟩,q⟩
 . obtain⟨its,r',pl,hz⟩:=I.tuple hq
   have hlen:=r'.length
   exact len_tuple pl (by simp only[zQ] <;> omega) ⟨.int ys.length,H,I.tok _,⟨s.toks+1,by rw[zQ,hlen]⟩,q⟩
theorem zDn:zCS X (.type "list") (fun xs H Q=>∃p ys,xs=[.ref p]/\(SqL X.K H p ys\/SqT X.K H p ys)/\∀l,H l=none->Q (.ref l) (upd H l (.lst ys))):=by
 intro pins s σ H xs us Q I r h
 obtain⟨p,ys,rfl,hq,q⟩:=h
 obtain⟨u,rfl,rx⟩:=zCq r
 cases rx
 have fin:∀(its:List Value),zBO ys its->ys.length<=sizeLine->∀(h':Heap)(c':Nat),(∀b o',s.heap.get? b=some o'->h'.get? b=some o') ->
  h'.get? s.heap.objs.size=some { cls:=.type "list",dict:=none,data:=.seq its.toArray c',slots:=#[] }->EP X pins σ Q (.ref s.heap.objs.size) { s with heap:=h' }:=fun its r' hz h' c' kp e=>
  ⟨.ref s.heap.objs.size,_,I.laid (t':=s.toks) kp (zH _) (show zBP X.prog X.w _ h' _ (.lst ys) from ⟨hz,its,c',r',e⟩),rfl,q _ (I.hok.fresh (zH _))⟩
 rcases hq with hq | hq
 . obtain⟨its,r',pl,hz⟩:=I.list hq
   have hlen:=r'.length
   obtain⟨o,ho,hc,n,hd⟩:=pl.isList
   exact call_list_seq p (.inl rfl) ho hc hd (fun h' c' kp e=>fin its r' hz h' c' kp e) (by simp only[zQ] <;> omega)
 . obtain⟨its,r',pl,hz⟩:=I.tuple hq
   have hlen:=r'.length
   obtain⟨o,ho,hc,n,hd⟩:=pl
   exact call_list_seq p (.inr rfl) ho hc hd (fun h' c' kp e=>fin its r' hz h' c' kp e) (by simp only[zQ] <;> omega)
theorem zAt:zCS X (.type "tuple") (fun xs H Q=>∃p ys,xs=[.ref p]/\((SqL X.K H p ys/\∀l,H l=none->Q (.ref l) (upd H l (.tup ys)))\/(SqT X.K H p ys/\Q (.ref p) H))):=by
 intro pins s σ H xs us Q I r h
 obtain⟨p,ys,rfl,h⟩:=h
 obtain⟨u,rfl,rx⟩:=zCq r
 cases rx
 rcases h with ⟨hq,q⟩ | ⟨hq,q⟩
 . obtain⟨its,r',pl,hz⟩:=I.list hq
   have hlen:=r'.length
   refine call_tuple_list pl.isList (fun h' kp=>?_) (by simp only[zQ] <;> omega)
   have I1:Inv X pins σ H { s with heap:=h' }:=I.kept (t':=s.toks) kp
   have I2:Inv X pins σ (upd H h'.objs.size (.tup ys)) { s with heap:=h'.push { cls:=.type "tuple",data:=.seq its.toArray } }:=
    I1.laid (t':=s.toks) (fun b o e=>zI _ e) (zH _) (show zBP X.prog X.w _ _ _ (.tup ys) from ⟨⟨hz,_,zW _ rfl,rfl⟩,its,r',IsTup.new _ _⟩)
   exact⟨.ref h'.objs.size,_,I2,rfl,q _ (I1.hok.fresh (zH _))⟩
 . obtain⟨its,r',pl,hz⟩:=I.tuple hq
   exact call_tuple_same pl ⟨.ref p,H,I,rfl,q⟩
noncomputable def tyV (K:PySem.W.Frag)(T:String)(x:V)(H:Hp):Prop:=match x with
 | .str _=>T = "str"
 | .int _=>T = "int"
 | .ref p=>(T = "list" /\ ∃xs,SqL K H p xs)\/(T = "tuple" /\ ∃o,K.lookup p=some o/\o.cls = .type "tuple" /\ o.dict=none) \/
  (T = "dict" /\ ((∃kvs,H p=some (.dK kvs))\/∃kvs,H p=some (.dT kvs)))\/(T = "set" /\ ∃S n,H p=some (.set S n))
 | _=>False
theorem tyV_is {pins:lPO}{T:String}{x:V}{v:Value}(I:Inv X pins σ H s)(r:zBk x v)(ty:tyV X.K T x H) :
 s.TypeIs v T/\∀a,v = .ref a->∃ob,s.heap.get? a=some ob/\ob.dict=none:=by
 cases x with
 | str z=>
  obtain⟨t,rfl⟩:=r
  cases (show T = "str" from ty)
  exact⟨typeIs_str s z t,fun _ e=>nomatch e⟩
 | int i=>
  obtain⟨t,rfl⟩:=r
  cases (show T = "int" from ty)
  exact⟨typeIs_int s i t,fun _ e=>nomatch e⟩
 | ref p=>
  cases r
  rcases ty with ⟨rfl,xs,hq⟩ | ⟨rfl,o,hk,hc,hd⟩ | ⟨rfl,hk⟩ | ⟨rfl,S,n,hk⟩
  . obtain⟨its,_,pl,_⟩:=I.list hq
    refine⟨pl.isList.typeIs,fun a e=>?_⟩
    cases e
    obtain⟨o,n,e,c,hd,_⟩:=pl
    exact⟨o,e,hd⟩
  . refine⟨⟨o,I.kIn p o hk,hc⟩,fun a e=>?_⟩
    cases e
    exact⟨o,I.kIn _ o hk,hd⟩
  . have z:∃o,s.heap.get? p=some o/\o.ExactDict:=by
     rcases hk with ⟨kvs,hk⟩ | ⟨kvs,hk⟩
     . obtain⟨_,_,_,_,o,_,_,e,ex,_⟩:=I.hok p _ hk
       exact⟨o,e,ex⟩
     . obtain⟨_,_,_,_,o,_,_,e,ex,_⟩:=I.hok p _ hk
       exact⟨o,e,ex⟩
    obtain⟨o,e,ex⟩:=z
    refine⟨⟨o,e,ex.1⟩,fun a e2=>?_⟩
    cases e2
    exact⟨o,e,ex.2.1⟩
  . obtain⟨o,_,_,_,e,ex,_⟩:=I.hok p _ hk
    refine⟨⟨o,e,ex.1⟩,fun a e2=>?_⟩
    cases e2
    exact⟨o,e,ex.2.1⟩
 | _=>exact False.elim ty
noncomputable def tBM (K:PySem.W.Frag)(T:String)(r:V->List V->Hp->VK->Prop)(to:TE)(t:TA):TE:=fun σ H Q=>to σ H fun x H1=>tyV K T x H1/\t σ H1 fun xs H2=>r x xs H2 Q
variable {o e:Expr}{es:List Expr}{to:TE}{t:TA}{name:Str}{apos cpos:Pos}{T id:String}{r:V->List V->Hp->VK->Prop}
theorem zFI (pa:PlainAttrs T)(slot:Slot T name id)(hty:typeOf (.builtin id)=pure (.type "method_descriptor")) (hm:MtR X id r)(ho:PE X o to)(ha:PA X (e::es) t)
 (hbase:attributeBase o name X.env (eval o X.env)=eval o X.env:=by rfl)
 (hfew:((backTo cpos (starEach (e::es) X.env)).all (fun x=>!x.1) && (backToKw cpos (keywordEach [] X.env)).all (fun x=>x.1.isSome)
  && decide ((e::es).length+([]:List Keyword).length+(if ([]:List Keyword).isEmpty then 0 else 1)<30))=true:=by rfl)
 (hline:(apos.endLine==cpos.line)=true:=by rfl)(hs:starEach (e::es) X.env=(false,eval e X.env)::starEach es X.env:=by rfl)(hplain:(backTo cpos (starEach es X.env)).any (·.1)=false:=by rfl) :
 PE X (.Call (.Attribute o name apos) (e::es) [] cpos) (tBM X.K T r to t):=by
 intro pins s σ H Q I h
 refine wpAny_Call_method_late hbase hfew hline rfl (thn (ho pins s σ H _ I h) fun v s1 ⟨x,H1,I1,r1,ty,q1⟩=>?_)
 obtain⟨h1,h2⟩:=tyV_is I1 r1 ty
 refine⟨T,id,pa,slot,hty,h1,h2,?_⟩
 have hA:=ha cpos pins s1 σ H1 _ I1 q1
 rw[hs] at hA ⊢
 refine Calls.callWith_builtin (by show (false || (backTo cpos (starEach es X.env)).any (·.1))=false;rw[hplain] <;> rfl) (Calls.evalArgs_plain ?_)
 exact thn hA fun us s2 ⟨vs,H2,I2,r2,q2⟩=>hm pins s2 σ H2 x vs v us Q I2 r1 r2 q2
end
noncomputable def MtM (X:Cx)(id:String)(r:V->List V->Hp->VK->Prop):Prop:=
 ∀(pins:lPO)(s:Shared)(σ:St)(H:Hp)(x:V)(xs:List V)(v:Value)(us:List Value)(Q:VK),Inv X pins σ H s->zBk x v->zBO xs us->r x xs H Q ->
  wpAny (model X.prog X.w) X.A (call (.builtin id) (v::us)) (EP X pins σ Q) X.xe s
theorem zBO.one:∀{x:V}{us:List Value},zBO [x] us->∃u,us=[u]/\zBk x u
 | _,_,.cons r .nil=>⟨_,rfl,r⟩
theorem zBO.eraseIdx:∀{xs:List V}{us:List Value}(i:Nat),zBO xs us->zBO (xs.eraseIdx i) (us.eraseIdx i)
 | _,_,_,.nil=>.nil
 | _,_,0,.cons _ t=>t
 | _,_,i+1,.cons r t=>.cons r (zBO.eraseIdx i t)
theorem zBO.rep {xs:List V}{us:List Value}(h:zBO xs us):∀k:Nat,zBO (List.replicate k xs).flatten (List.replicate k us).flatten
 | 0=>.nil
 | k+1=>by
  rw[zAz,zAz,List.flatten_cons,List.flatten_cons]
  exact zBO.append h (zBO.rep h k)
theorem zF5 {α:Type}:∀(l:List α)(i:Nat),(l.eraseIdx i).length<=l.length
 | [],_=>zH _
 | _::_,0=>zA6 _
 | _::r,i+1=>Nat.succ_le_succ (zF5 r i)
theorem zGC (its:List Value):∀(k:Nat)(acc:List Value),
 List.foldl (fun x1 x2=>x1++x2) acc.toArray (List.replicate k its.toArray)=(acc++(List.replicate k its).flatten).toArray
 | 0,acc=>by simp
 | k+1,acc=>by
  have e:acc.toArray++its.toArray=(acc++its).toArray:=by simp
  have e2:(acc++its)++(List.replicate k its).flatten=acc++(List.replicate (k+1) its).flatten:=by
   rw[zAz,List.flatten_cons,List.append_assoc]
  rw[<-e2,<-zGC its k (acc++its),<-e,zAz,List.foldl_cons]
section
variable {X:Cx}{pins:lPO}{σ:St}{H:Hp}{s:Shared}{l b:Addr}{xs ys zs:List V}
theorem Inv.lset {its':List Value}{f:Array Value->Array Value}{t':Nat}(I:Inv X pins σ H s)(hH:H l=some (.lst xs))
 (e:s.heap.get? l=some { cls:=.type "list",data:=.seq its.toArray n }) (hf:f its.toArray=its'.toArray)(hv:zBO ys its')(hz:ys.length<=sizeLine) :
 Inv X pins σ (upd H l (.lst ys)) { s with heap:=s.heap.update l (Obj.mapSeq f),toks:=t' }:=by
 have q:=PySem.IsL.update e f
 rw[hf] at q
 refine I.write (x:=l) (e:=l) (by rw[hH];exact trivial) (.inl rfl) (fun b' u hb hu=>(Heap.get?_update_other s.heap (Obj.mapSeq f) (Ne.symm hb)).trans hu) ⟨_,q⟩ ?_
 exact⟨hz,its',_,hv,q⟩
theorem Inv.lnew {t':Nat}(I:Inv X pins σ H s)(hv:zBO ys its)(hz:ys.length<=sizeLine) :
 Inv X pins σ (upd H s.heap.objs.size (.lst ys)) { s with heap:=s.heap.push { cls:=.type "list",data:=.seq its.toArray },toks:=t' }:=
 I.laid (fun _ _ q=>zI _ q) (zH _) ⟨hz,its,0,hv,zW _ rfl⟩
theorem Inv.fresh (I:Inv X pins σ H s):H s.heap.objs.size=none:=I.hok.fresh (zH _)
theorem Inv.lstM (I:Inv X pins σ H s)(hH:H l=some (.lst xs)):xs.length<=sizeLine/\∃(its:List Value)(n:Nat),zBO xs its/\xs.length=its.length/\s.heap.get? l=some { cls:=.type "list",data:=.seq its.toArray n }:=by
 obtain⟨z,its,n,r,e⟩:=I.hok l _ hH
 exact⟨z,its,n,r,r.length,e⟩
theorem zKs (h:n<=sizeLine):Builtin.List.listTooLong n=false:=by
 unfold Builtin.List.listTooLong
 exact zb (by omega)
end
section
variable {X:Cx}
noncomputable def zMU:V->List V->Hp->VK->Prop:=fun x vs H Q=>∃l xs y,x = .ref l/\vs=[y]/\H l=some (.lst xs)/\xs.length<sizeLine/\Q .non (upd H l (.lst (xs++[y])))
theorem zBr:MtM X "list.append" zMU:=by
 intro pins s σ H x vs v us Q I rx rv h
 obtain⟨l,xs,y,rfl,rfl,hH,hz,q⟩:=h
 cases rx
 obtain⟨u,rfl,ru⟩:=rv.one
 obtain⟨z,its,n,r,hl,e⟩:=I.lstM hH
 refine call_meets F.slot_list_append ⟨_,e,rfl⟩ F.entry_list_append (F.args_list_append_2 _ _) (PySem.list_append l its.toArray n u (by rw[zQ];omega)) ⟨e,?_⟩
 refine⟨.non,_,I.lset (its':=its++[u]) hH e (by simp) (r.append (.cons ru .nil)) ?_,rfl,q⟩
 rw[zL,zA2]
 omega
noncomputable def rPopAt:V->List V->Hp->VK->Prop:=fun x vs H Q=>∃l xs i k y,x = .ref l/\vs=[.int i]/\H l=some (.lst xs) /\ -(2 ^ 63)<=i/\i<2 ^ 63/\seqIndex? i xs.length=some k/\xs[k]? = some y/\Q y (upd H l (.lst (xs.eraseIdx k)))
theorem zKv:MtM X "list.pop" rPopAt:=by
 intro pins s σ H x vs v us Q I rx rv h
 obtain⟨l,xs,i,k,y,rfl,rfl,hH,h1,h2,hk,hy,q⟩:=h
 cases rx
 obtain⟨u,rfl,ru⟩:=rv.one
 obtain⟨t,rfl⟩:=ru
 obtain⟨z,its,n,r,hl,e⟩:=I.lstM hH
 obtain⟨w,hw,rw'⟩:=r.get hy
 refine call_meets F.slot_list_pop ⟨_,e,rfl⟩ F.entry_list_pop (F.args_list_pop_2 _ _)
  (MeetsSeq.list_pop_at l its.toArray n i t k w (fitsIndex_both h1 h2) (by rw[zQ,<-hl];exact hk) (by rw[<-Array.getElem?_toList];exact hw) (by rw[zQ];omega)) ⟨e,?_⟩
 refine⟨y,_,I.lset (its':=its.eraseIdx k) hH e ?_ (r.eraseIdx k) ?_,rw',q⟩
 . show its.toArray.eraseIdxIfInBounds k=(its.eraseIdx k).toArray
   rw[List.eraseIdxIfInBounds_toArray]
 . have:=zF5 xs k
   omega
noncomputable def rCat:R2:=fun x y H Q=>∃l b xs zs,x = .ref l/\y = .ref b/\H l=some (.lst xs)/\H b=some (.lst zs)/\xs.length+zs.length<=sizeLine/\∀p,H p=none->Q (.ref p) (upd H p (.lst (xs++zs)))
theorem zHP:OpR X (binaryOp .Add) rCat:=by
 intro pins s σ H x y v u Q I rx ry h
 obtain⟨l,b,xs,zs,rfl,rfl,hH,hB,hz,q⟩:=h
 cases rx
 cases ry
 obtain⟨z,its,n,r,hl,e⟩:=I.lstM hH
 obtain⟨z2,its2,n2,r2,hl2,e2⟩:=I.lstM hB
 refine PySem.P.add_list e e2 ?_ (by rw[zQ,zQ];omega)
 have ea:its.toArray++its2.toArray=(its++its2).toArray:=by simp
 rw[ea]
 exact⟨.ref _,_,I.lnew (t':=s.toks) (r.append r2) (by rw[zL];omega),rfl,q _ I.fresh⟩
noncomputable def rRep:R2:=fun x y H Q=>∃l k xs,x = .ref l/\y = .int k/\H l=some (.lst xs) /\ -(2 ^ 63)<=k/\k<2 ^ 63/\xs.length*k.toNat<=sizeLine /\
 ∀p,H p=none->Q (.ref p) (upd H p (.lst (List.replicate k.toNat xs).flatten))
theorem zM6 {α:Type}(xs:List α)(k:Nat):(List.replicate k xs).flatten.length=k*xs.length:=by
 induction k with
 | zero=>simp
 | succ k ih=>rw[zAz,List.flatten_cons,zL,ih,Nat.succ_mul,Nat.add_comm]
theorem zLk:OpR X (binaryOp .Mult) rRep:=by
 intro pins s σ H x y v u Q I rx ry h
 obtain⟨l,k,xs,rfl,rfl,hH,h1,h2,hz,q⟩:=h
 cases rx
 obtain⟨t,rfl⟩:=ry
 obtain⟨z,its,n,r,hl,e⟩:=I.lstM hH
 have hlen:its.toArray.size*k.toNat<=sizeLine:=by rw[zQ,<-hl];exact hz
 have hcap:¬ its.toArray.size*k.toNat > (2 ^ 63-1)/8:=by
  have:(sizeLine:Nat)<=(2 ^ 63-1)/8:=by decide
  omega
 have hfit:¬ (!Builtin.List.listFitsIndex k)=true:=by
  rw[fitsIndex_both h1 h2]
  exact zo
 have hlong:¬ Builtin.List.listTooLong (its.toArray.size*k.toNat)=true:=by
  rw[zKs hlen]
  exact zo
 have hnew:List.foldl (fun x1 x2=>x1++x2) #[] (List.replicate (if its.toArray.isEmpty=true then 0 else k.toNat) its.toArray)=(List.replicate k.toNat its).flatten.toArray:=by
  have f0:∀m:Nat,List.foldl (fun x1 x2=>x1++x2) #[] (List.replicate m its.toArray)=(List.replicate m its).flatten.toArray:=fun m=>by
   have:=zGC its m []
   rw[List.nil_append] at this
   exact this
  rw[f0]
  cases its with
  | nil=>simp
  | cons a r'=>rw[if_neg (by simp)]
 refine wpAny_binaryOp_repeat_ref (T := "list") (U := "int") (by decide) ⟨_,e,rfl⟩ (fun s'=>typeIs_int s' k t) noFill_list_mul F.fills_int_mul F.slot_int_rmul repeat_list F.slot_int_index.lookup
  (call_meets F.slot_int_rmul (typeIs_int s k t) F.entry_int_rmul (F.args_int_rmul_2 _ _) (int___rmul___int_list k t l its.toArray n)
   ⟨e,rfl,⟨_,e,rfl⟩,call_meets F.slot_list_mul ⟨_,e,rfl⟩ F.entry_list_mul (F.args_list_mul_2 _ _) (AutoListH.list___mul___list_int_3 l its.toArray n k t hfit hcap hlong) ⟨e,?_⟩⟩)
 rw[hnew]
 exact⟨.ref _,_,I.lnew (t':=s.toks) (r.rep k.toNat) (by rw[zM6,Nat.mul_comm];exact hz),rfl,q _ I.fresh⟩
end
section
variable {prog:Program}{w:World}{A:Around}{E:vSP}{s:Shared}
set_option maxRecDepth 100000 in
end
end L2
namespace Att
open PySem PySem.W PySem.Calls PyProof.Rows
theorem zEL {P:Params}{h:Heap}:∀(ns:List Int)(vs:List Value),WellAll P h vs (ns.map WData.int)->IntsAre vs ns:=by
 intro ns
 induction ns with
 | nil=>
  intro vs w
  rw[List.map_nil] at w
  cases w
  exact .nil
 | cons n ns ih=>
  intro vs w
  rw[zAA] at w
  cases w with
  | cons a b=>
   cases a
   exact .cons _ _ (ih _ b)
theorem zIi {l:OpenLaw}{n:Nat}(hn:l.most=some n){P:Params}{h:Heap}{args:List WData}{vals:List Value}
 (hpre:l.row.toRowW.claim.pre args=true)(hwl:WellAll P h vals args) :
 ∃a vs ns,vals=[Value.ref a]/\args=[WData.list (ns.map WData.int)]/\h.get? a=some { cls:=.type "list",data:=.seq vs.toArray }/\IntsAre vs ns/\ns.length<=n:=by
 have hsh:WShape.hasAll [] args [.list .int]=true:=(pre_splitW hpre).1
 have hc:l.pre.holds [] { args:=args }=true:=(pre_splitW hpre).2
 obtain⟨d,r,rfl,h1,h2⟩:=hasAllW_cons hsh
 obtain rfl:=hasAllW_nil h2
 obtain⟨xs,rfl,h3⟩:=hasW_list h1
 obtain⟨ns,rfl⟩:=items_int h3
 have hlen:ns.length<=n:=by
  unfold OpenLaw.pre at hc
  have h4:(WTm.not (.lt (.lit (.int (n:Int))) (.len (.arg 0)))).holds [] { args:=[.list (ns.map .int)] }=true:=by
   have h4:=(holds_andW hc).1
   rw[hn] at h4
   exact h4
  have h5:=condW_of h4 (w_not (w_lt w_lit (w_len_list (w_arg rfl))))
  rw[zD] at h5
  refine Nat.le_of_not_lt fun q=>?_
  have q':(n:Int)<((ns.length:Nat):Int):=by omega
  first
   | (rw[zP q'] at h5;exact absurd h5 (by decide))
   | (simp at h5;omega)
 cases hwl with
 | cons w1 w2=>
  cases w2
  cases w1 with
  | list ho hall=>exact⟨_,_,ns,rfl,rfl,ho,zEL ns _ hall,hlen⟩
theorem zIv (l:OpenLaw)(args:List WData):l.row.toRowW.claim.post args (.bool true) args=true:=
 postW_of (r:=l.row.toRowW) (X:=(true==true))
  (show WShape.has [] (.bool true) .bool=true by first | rfl | decide | simp[WShape.has,WShape.arms,WShape.armsAll])
  (show (WTm.eq .res (.lit (.bool true))).value [] { args:=args,res:=some (.bool true),after:=args }=some (.bool (true==true)) from w_eq_bool (w_res rfl) w_lit) rfl
theorem attach_call {l:OpenLaw}{n:Nat}{q:Program}{loose:List Str}{XP:(Str->Option Value)->Heap->Prop}{YP:World->Heap->Prop}{d:DefRec}
 (hn:l.most=some n)(hdf:d.params.defaults=[])
 (call:∀(w:World)(s₀ s₁:Shared)(mg mb:sOV)(fa:Addr)(o:Obj)(pm cd doc:Value)(a:Addr)(vs:List Value)(ns:List Int),
  Ground q loose [] XP w s₀ mg mb s₁.heap->YP w s₁.heap ->
  s₁.heap.get? fa=some o->o.data = .func (docDef d.name d.params d.body d.scope pm cd doc)->s₁.heap.CodeRec cd d.name->mg d.name=some (.ref fa) ->
  s₁.heap.get? a=some { cls:=.type "list",data:=.seq vs.toArray }->IntsAre vs ns->ns.length<=n->s₁.gens = #[] ->
  codeAny (model l.prog w) callerA (.call (.ref fa) ⟨[.ref a],[]⟩) (fun r s'=>r = .ok (.ret (.bool true))/\OldK s₁.heap s'.heap/\s'.os=s₁.os/\AllBare s'.gens) s₁) :
 WalkO q loose XP YP l.row.toRowW d [] (fun f vs=>PySem.call f vs):=by
 intro w s₀ s₁ mg mb G Y fa o pm cd doc dV kV ho hd hcd hD hmg hg args vals as hpre hlay hrd hwl hlo
 obtain rfl:dV = .none:=Dflts.none hD hdf
 obtain rfl:kV = .none:=Dflts.noKw hD
 obtain⟨a,vs,ns,rfl,rfl,hobj,hints,hlen⟩:=zIi hn hpre hwl
 refine enter_call (codeAny_mono (call w s₀ s₁ mg mb fa o pm cd doc a vs ns G Y ho (fd_plain hd) hcd hmg hobj hints hlen hg) fun r s' hq=>?_)
 obtain⟨rfl,h2,h3,h4⟩:=hq
 exact⟨.inl ⟨.bool true,.bool true,[],rfl,fun _=>rfl,.bool true,zIv l _,fun _=>⟨List.Pairwise.nil,fun _ hm=>(nomatch hm)⟩⟩,h2,h3,h4⟩
end Att
namespace L2
open PySem PySem.Spec PyProof.Rows
theorem zFj:∀{vs:List Value}{ns:List Int},IntsAre vs ns->zBO (ns.map V.int) vs
 | _,_,.nil=>.nil
 | _,_,.cons n t h=>.cons ⟨t,rfl⟩ (zFj h)
noncomputable abbrev CX0:CXT:=fun _ _ _ _ _ _=>False
noncomputable abbrev E0:XK:=fun _ _ _=>False
theorem pass0 {X:Cx}:zHg CX0 X E0:=fun _ _ _ _ _ _ _ h=>h.elim
structure Fun (K:PySem.W.Frag)(x qual:Str)(st:Stmt)(f:Addr)(fd:FuncData):Prop where
 ex:∃(oc:Value)(od:Option Addr)(kV doc pm:Value)(an:Option Addr)(cdv ct:Value)(osl:Array (Option Value)),
  fd=PySem.W.fnOf x qual (defArgs st) (defBody st) (defScope st) .none kV doc pm an cdv ct/\K.lookup f=some ⟨oc,od,.func fd,osl⟩/\PySem.W.codeIn K cdv qual=true
 kp:PySem.W.keepIn K (.ref f)=true
variable {x qual:Str}{st:Stmt}{f:Addr}
section
variable {P:Program}{w:World}{K:PySem.W.Frag}{mg:sOV}{base:Heap}
theorem Fun.ok {fd:FuncData}{N ps:List Str}{k:Nat}{sp:Sp}(F:Fun K x qual st f fd)(S:zAD N ps (defScope st))(len:∀vs H Q E,sp vs H Q E->vs.length=ps.length)
 (hbody:∀(cdv:Value)(A:Around)(outer:List Env)(s:Shared)(H:Hp)(vs:List V)(Q:VK)(E:XK),zC2 k (A.deeper (envOfC qual (defScope st) s.heap.objs.size f cdv))->sp vs H Q E ->
  ∃t,PSs (zGf CX0 P w K mg base N qual (defScope st) f cdv A outer s H E).nox (defBody st) t/\t { nx:=fun _ H'=>Q .non H',rt:=Q } (start N vs) H):zAe P w K mg base CX0 (k+1) f fd ps sp:=by
 obtain⟨oc,od,kV,doc,pm,an,cdv,ct,osl,rfl,lk,hcd⟩:=F.ex
 refine zNG lk hcd S len fun A outer s H vs Q E hr hsp=>?_
 obtain⟨t,h,q⟩:=hbody cdv A outer s H vs Q E hr hsp
 exact⟨t,h.nox,q⟩
theorem Fun.binds {fd:FuncData}{ps:List Str}(F:Fun K x qual st f fd)
 (h:∀(kV doc pm:Value)(an:Option Addr)(cdv ct:Value)(us:List Value),us.length=ps.length->bindArgs (PySem.W.fnOf x qual (defArgs st) (defBody st) (defScope st) .none kV doc pm an cdv ct) ⟨us,[]⟩=pure (ps.zip us)):zDh K fd ps []:=by
 obtain⟨oc,od,kV,doc,pm,an,cdv,ct,osl,rfl,lk,hcd⟩:=F.ex
 exact .all (h kV doc pm an cdv ct)
theorem zLu {oc:Value}{od an:Option Addr}{osl:Array (Option Value)}{kV doc pm cdv ct:Value}(l:K.lookup f=some ⟨oc,od,.func (PySem.W.fnOf x qual (defArgs st) (defBody st) (defScope st) .none kV doc pm an cdv ct),osl⟩)
 (c:PySem.W.codeIn K cdv qual=true)(k:PySem.W.keepIn K (.ref f)=true):Fun K x qual st f (PySem.W.fnOf x qual (defArgs st) (defBody st) (defScope st) .none kV doc pm an cdv ct):=⟨⟨oc,od,kV,doc,pm,an,cdv,ct,osl,rfl,l,c⟩,k⟩
end
theorem zK3 {A:Around}{k:Nat}(hr:zC2 k A):A.units+1<cLine:=zAK (Nat.add_le_add_left (by decide:1<=64) _) hr.units
section
variable {X:Cx}
theorem pv (i:Nat){x:Str}{pos:Pos}(hN:X.N[i]? = some x:=by rfl)(hv:Vis X.env.scope x:=by first | exact Or.inl rfl | exact Or.inr (Or.inl rfl) | exact Or.inr (Or.inr rfl))(hd:(x==("__debug__" : Str))=false:=by decide)
 (hcd:(x==("__classdict__" : Str))=false:=by decide):PE X (.Name x pos) (tVar i):=pe_var hN hv hd hcd
end
variable {A B:Prop}
theorem zCe (h:B):if false=true then A else B:=by
 rw[if_neg zo]
 exact h
theorem zCZ (h:A):if true=true then A else B:=by
 rw[if_pos rfl]
 exact h
theorem zDq {c:Prop} [Decidable c] (h1:c->A)(h2:¬ c->B):if c then A else B:=by
 by_cases h:c
 . rw[if_pos h]
   exact h1 h
 . rw[if_neg h]
   exact h2 h
noncomputable def zAo (H H':Hp):Prop:=∀b o,H b=some o->H' b=some o
theorem zAo.refl (H:Hp):zAo H H:=fun _ _ h=>h
theorem zAo.trans {H H1 H2:Hp}(a:zAo H H1)(b:zAo H1 H2):zAo H H2:=fun c o h=>b c o (a c o h)
section
variable {κ:Type} [DecidableEq κ]
theorem zG7 {kvs:List (κ×V)}{k:κ}(h:zCd kvs k=none):¬ k∈kvs.map (·.1):=by
 intro m
 obtain⟨p,hp,e⟩:=zv.mp m
 have q:(kvs.any fun kv=>decide (kv.1=k))=true:=List.any_eq_true.mpr ⟨p,hp,zP e⟩
 rw[zCB,h] at q
 exact absurd q (by simp)
theorem zLx {kvs:List (κ×V)}{k:κ}{v:V}(h:zCd kvs k=some v):k∈kvs.map (·.1):=by
 have q:(kvs.any fun kv=>decide (kv.1=k))=true:=by
  rw[zCB,h]
  all_goals rfl
 obtain⟨p,hp,e⟩:=List.any_eq_true.mp q
 exact zv.mpr ⟨p,hp,of_decide_eq_true e⟩
theorem zI8:∀{l:List κ}{k:κ},l.Nodup->¬ k∈l->(l++[k]).Nodup
 | [],k,_,_=>by simp
 | a::r,k,h,hk=>by
  obtain⟨h1,h2⟩:=zAO.mp h
  show (a::(r++[k])).Nodup
  refine zAO.mpr ⟨fun m=>?_,zI8 h2 fun m=>hk (zY.mpr (Or.inr m))⟩
  rcases zn.mp m with q | q
  . exact h1 q
  . exact hk (zY.mpr (Or.inl (zj.mp q).symm))
theorem zI9 {kvs:List (κ×V)}{k:κ}(v:V)(hn:(kvs.map (·.1)).Nodup)(h:zCd kvs k=none):((zDL kvs k v).map (·.1)).Nodup:=by
 rw[zHO v h,zS]
 exact zI8 hn (zG7 h)
theorem zGI {p:κ×V}{r:List (κ×V)}{k:κ}(e:p.1=k):zCQ (p::r) k=zCQ r k:=by
 unfold zCQ
 rw[zBB,if_neg (by simp[e])]
theorem zGJ {p:κ×V}{r:List (κ×V)}{k:κ}(e:¬ p.1=k):zCQ (p::r) k=p::zCQ r k:=by
 unfold zCQ
 rw[zBB,if_pos (by simp[e])]
theorem zGK {kvs:List (κ×V)}{k:κ}{p:κ×V}(h:p∈zCQ kvs k):p∈kvs:=(zAu.mp h).1
theorem zFR:∀{kvs:List (κ×V)}{k:κ},(kvs.map (·.1)).Nodup->((zCQ kvs k).map (·.1)).Nodup
 | [],_,_=>List.nodup_nil
 | p::r,k,h=>by
  have h:(p.1::r.map (·.1)).Nodup:=h
  obtain⟨h1,h2⟩:=zAO.mp h
  by_cases e:p.1=k
  . rw[zGI e]
    exact zFR h2
  . rw[zGJ e]
    show (p.1::(zCQ r k).map (·.1)).Nodup
    refine zAO.mpr ⟨fun m=>h1 ?_,zFR h2⟩
    obtain⟨q,hq,eq⟩:=zv.mp m
    exact zv.mpr ⟨q,zGK hq,eq⟩
end
end L2
set_option Elab.async false
set_option linter.all false
set_option maxRecDepth 100000
set_option maxHeartbeats 4000000
namespace L2
open PySem PySem.Spec PyProof.Rows
theorem zDm {prog:Program}{w:World}{A:Around}{R:Result->Shared->Prop}{s:Shared}{elt target iter:Expr}{ifs:List Expr}{scope:Scope}{pos:Pos}{it acc:Value}{env:Env}(I:Nat->Shared->Prop)
 (turn:∀n s,I n s->wpAny (model prog w) A (pyNext it) (fun r s₁=>match r with
  | none=>R (.ok .next) s₁
  | some v=>wpAny (model prog w) A (letOwnedTupleGo target it v) (fun _ s₁'=>wpAny (model prog w) A (assign target env v) (fun _ s₂=>
   wpAny (model prog w) A (forIn ifs true fun c r=>if r=true then do let ok <-isTrue c env (eval c env);pure (ForInStep.yield ok) else pure (ForInStep.yield r)) (fun ok s₃=>
    if ok=true then wpAny (model prog w) A (eval elt env) (fun x s₄=>
     wpAny (model prog w) A (call (.builtin "list.append") [acc,x]) (fun _ s₅=>∃m,m<n/\I m s₅) (fun _ _=>False) s₄) (fun _ _=>False) s₃
    else ∃m,m<n/\I m s₃) (fun _ _=>False) s₂) (fun _ _=>False) s₁') (fun _ _=>False) s₁) (fun _ _=>False) s)
 (n:Nat)(h:I n s):codeAny (model prog w) A (.compLoop (.ListComp elt [⟨target,iter,ifs,0⟩] scope pos) 0 it acc env) R s:=by
 refine codeAny_loop rfl I (fun n s hI=>?_) n h
 show wpAny _ A ((compTurn (.ListComp elt [⟨target,iter,ifs,0⟩] scope pos) 0 it acc env).onRaise (fun x=>do noteFrame x env;theTreesLotGoes x)) _ _ s
 refine wpAny_noted ?_
 rw[compTurn_list]
 refine zB (wpAny_standAt (zB (zAP (turn n s hI) (fun r s₁ h₁=>?_) fun _ _ h'=>h'.elim)))
 cases r with
 | none=>exact zJ h₁
 | some v=>
  refine zB (zAP h₁ (fun _ s₁' h₁'=>?_) fun _ _ h'=>h'.elim)
  refine zB (zAP h₁' (fun _ s₂ h₂=>zB (zAP h₂ (fun ok s₃ h₃=>?_) fun _ _ h'=>h'.elim)) fun _ _ h'=>h'.elim)
  cases ok with
  | false=>exact zJ ⟨rfl,h₃⟩
  | true=>
   exact zB (zB (zAP h₃ (fun x s₄ h₄=>zB (zAP h₄ (fun _ s₅ h₅=>zJ (zJ ⟨rfl,h₅⟩)) fun _ _ h'=>h'.elim)) fun _ _ h'=>h'.elim))
noncomputable def PTs (X:Cx)(ifs:List Expr)(t:TT):Prop:=
 ∀(pins:lPO)(s:Shared)(σ:St)(H:Hp)(Q:Bool->Hp->Prop),Inv X pins σ H s->t σ H Q ->
  wpAny (model X.prog X.w) X.A (forIn ifs true fun c r=>if r=true then do let ok <-isTrue c X.env (eval c X.env);pure (ForInStep.yield ok) else pure (ForInStep.yield r)) (TP X pins σ Q) X.xe s
noncomputable def tYes:TT:=fun _ H Q=>Q true H
theorem zGe {σ:St}{H:Hp}{A B:Hp->Prop}(h:A H):tYes σ H (fun b H3=>if b=true then A H3 else B H3):=by
 show (if true=true then A H else B H)
 exact zCZ h
variable {X:Cx}
theorem zBn:PTs X [] tYes:=fun _ _ _ H _ I h=>wpAny_tests_nil ⟨H,I,h⟩
theorem zCA {c:Expr}{t:TT}(h:PT X c t):PTs X [c] t:=fun pins s σ H Q I q=>wpAny_tests_one (h pins s σ H Q I q)
noncomputable def zDB (cells:List (Str×Addr)):List (Str×NameKind)->List (Str×Addr)->List (Str×Addr)
 | [],acc=>acc
 | (n,k)::r,acc=>if (k == .free)=true then (match cells.lookup n with | some c=>zDB cells r ((n,c)::acc) | none=>zDB cells r acc) else zDB cells r acc
theorem zDW {cells:List (Str×Addr)}{x:Str}{c:Addr}:∀(names:List (Str×NameKind))(acc:List (Str×Addr)),(zDB cells names acc).lookup x=some c->acc.lookup x=some c\/cells.lookup x=some c
 | [],acc,h=>.inl h
 | (n,k)::r,acc,h=>by
  unfold zDB at h
  split at h
  . cases hc:cells.lookup n with
    | none=>rw[hc] at h;exact zDW r acc h
    | some c'=>
     rw[hc] at h
     rcases zDW r _ h with q | q
     . rw[zAx] at q
       cases hx:x==n with
       | true=>
        rw[hx] at q
        have e:x=n:=by simpa using hx
        have e2:c'=c:=by simpa using q
        rw[e,hc,e2]
        exact .inr rfl
       | false=>rw[hx] at q;exact .inl q
     . exact .inr q
  . exact zDW r acc h
theorem zDv {cells:List (Str×Addr)}{x:Str}:∀(names:List (Str×NameKind))(acc:List (Str×Addr)),(∃c,acc.lookup x=some c)->∃c,(zDB cells names acc).lookup x=some c
 | [],acc,h=>h
 | (n,k)::r,acc,h=>by
  unfold zDB
  split
  . cases hc:cells.lookup n with
    | none=>exact zDv r acc h
    | some c'=>
     refine zDv r _ ?_
     rw[zAx]
     cases hx:x==n with
     | true=>exact⟨c',rfl⟩
     | false=>exact h
  . exact zDv r acc h
theorem zC6 {cells:List (Str×Addr)}{x:Str}(hx:∃c,cells.lookup x=some c):∀(names:List (Str×NameKind))(acc:List (Str×Addr)),(x,NameKind.free)∈names->∃c,(zDB cells names acc).lookup x=some c
 | [],acc,h=>by simp at h
 | (n,k)::r,acc,h=>by
  rcases zY.mp h with e | h
  . cases e
    obtain⟨c,hc⟩:=hx
    unfold zDB
    rw[if_pos (by rfl),hc]
    exact zDv r _ ⟨c,by rw[zAx];simp⟩
  . unfold zDB
    split
    . cases hc:cells.lookup n with
      | none=>exact zC6 hx r acc h
      | some c'=>exact zC6 hx r _ h
    . exact zC6 hx r acc h
theorem zDd {env:Env}:∀(names:List (Str×NameKind))(acc:List (Str×Addr)),(∀y∈names,y.2 = .free->∃c,env.cells.lookup y.1=some c) ->
 (forIn names acc fun (x:Str×NameKind)(cs:List (Str×Addr))=>(if (x.2 == .free)=true then (do let a <-cellOf env x.1;pure (ForInStep.yield ((x.1,a)::cs))) else pure (ForInStep.yield cs):Sem (ForInStep (List (Str×Addr)))))=pure (zDB env.cells names acc)
 | [],acc,_=>rfl
 | (n,k)::r,acc,h=>by
  rw[List.forIn_cons]
  have hr:∀y∈r,y.2 = .free->∃c,env.cells.lookup y.1=some c:=fun y hy=>h y (zX _ hy)
  unfold zDB
  cases hk:(k==NameKind.free) with
  | true=>
   obtain⟨c,hc⟩:=h (n,k) zh (by simpa using hk)
   simp only[hk,if_true,cellOf,hc,pure_bind]
   exact zDd r _ hr
  | false=>
   simp only[hk,zBf,if_false,pure_bind]
   exact zDd r _ hr
theorem zCl {scope:Scope}{env:Env}(h:∀y∈scope.names,y.2 = .free->∃c,env.cells.lookup y.1=some c):closureFor scope env=pure (zDB env.cells scope.names []):=by
 have e:=zDd scope.names [] h
 simp only[closureFor]
 simp only[bind_pure]
 exact e
theorem zBs {env:Env}{x:Str}:∀(names:List (Str×NameKind)),
 (names.map fun (n,k)=>if (k==NameKind.free && env.scope.kind == .function && env.kindOf n==some .cell) then (n,NameKind.cell) else (n,k)).lookup x =
  (names.lookup x).map fun k=>if (k==NameKind.free && env.scope.kind == .function && env.kindOf x==some .cell)=true then NameKind.cell else k
 | []=>rfl
 | (n,k)::r=>by
  have ih:=zBs (env:=env) (x:=x) r
  rw[zAA]
  show List.lookup x ((if (k==NameKind.free && env.scope.kind == .function && env.kindOf n==some .cell)=true then (n,NameKind.cell) else (n,k))::_)=_
  by_cases c:(k==NameKind.free && env.scope.kind == .function && env.kindOf n==some .cell)=true
  . rw[if_pos c,zAx,zAx]
    cases hx:x==n with
    | true=>
     have e:x=n:=by simpa using hx
     subst e
     show some NameKind.cell=Option.map _ (some k)
     rw[zAp,if_pos c]
    | false=>exact ih
  . rw[if_neg c,zAx,zAx]
    cases hx:x==n with
    | true=>
     have e:x=n:=by simpa using hx
     subst e
     show some k=Option.map _ (some k)
     rw[zAp,if_neg c]
    | false=>exact ih
noncomputable def zBm (X:Cx)(pl:lPO)(N':List Str)(scope:Scope)(fp:List Addr)(s3:Shared)(H3:Hp):Cx where
 prog:=X.prog
 w:=X.w
 K:=X.K
 mg:=X.mg
 base:=X.base
 A:=X.A
 N:=N'
 s₀:=s3
 H₀:=H3
 env:=compEnvC scope (zDB X.env.cells scope.names []) s3.heap.objs.size X.env
 outer:=X.stack
 stack:=X.stack
 ex:=fp
 fn:=fun _=>false
 calm:=X.calm
 pn:=pl
 xe:=fun _ _=>False
noncomputable def zEZ (X:Cx)(scope:Scope):List Str->List Nat->Prop
 | [],[]=>True
 | x::cn,j::ci=>X.N[j]? = some x/\X.env.kindOf x=some .cell/\scope.names.lookup x=some .free/\zEZ X scope cn ci
 | _,_=>False
theorem zEZ.get {X:Cx}{scope:Scope}:∀{cn:List Str}{ci:List Nat}{k:Nat}{x:Str},zEZ X scope cn ci->cn[k]? = some x->∃j,ci[k]? = some j/\X.N[j]? = some x/\X.env.kindOf x=some .cell/\scope.names.lookup x=some .free
 | [],_,_,_,_,h=>by simp at h
 | _::_,[],_,_,c,_=>c.elim
 | y::cn,j::ci,0,x,c,h=>by
  obtain⟨a,b,b',_⟩:=c
  have e:y=x:=by simpa using h
  subst e
  exact⟨j,rfl,a,b,b'⟩
 | y::cn,j::ci,k+1,x,c,h=>by
  obtain⟨j',h1,h2⟩:=zEZ.get (k:=k) c.2.2.2 (by simpa using h)
  exact⟨j',by simpa using h1,h2⟩
structure zEY (X:Cx)(scope:Scope):Prop where
 kind:scope.kind = .function
 nocell:∀y∈scope.names,y.2 ≠ .cell
 names:∀y∈scope.names,y.2 = .local->scope.names.lookup y.1=some .local
 free:∀y∈scope.names,y.2 = .free->X.env.kindOf y.1=some .cell
variable {g:TG}{ti:TT}{te:TE}{Q:VK}
section
variable {X:Cx}{pins:lPO}{σ:St}{H3:Hp}{s3:Shared}{scope:Scope}{fp:List Addr}{N' own cn:List Str}{ci:List Nat}{cv:List V}
theorem zHb (ok:X.Ok)(S:zEY X scope){x:Str}(h:(relabel scope X.env).names.lookup x=some .cell\/(relabel scope X.env).names.lookup x=some .free) :
 ∃c,(zDB X.env.cells scope.names []).lookup x=some c:=by
 have e:(relabel scope X.env).names.lookup x=(scope.names.lookup x).map fun k=>if (k==NameKind.free && X.env.scope.kind == .function && X.env.kindOf x==some .cell)=true then NameKind.cell else k:=zBs scope.names
 have hf:scope.names.lookup x=some .free:=by
  cases q:scope.names.lookup x with
  | none=>rw[e,q] at h;simp at h
  | some k=>
   by_cases hk:k = .free
   . rw[hk]
   . have hb:(k==NameKind.free)=false:=by simpa using hk
     rw[e,q] at h
     simp only[zAp,hb,Bool.false_and,zBf,if_false,Option.some.injEq] at h
     rcases h with h | h
     . exact absurd h (S.nocell _ (PySem.mem_of_lookup q))
     . exact absurd h hk
 exact zC6 (ok.has x (.inl (S.free _ (PySem.mem_of_lookup hf) rfl))) scope.names [] (PySem.mem_of_lookup hf)
theorem zC1 {x:Str}{c:Addr}(h:(zDB X.env.cells scope.names []).lookup x=some c):X.env.cells.lookup x=some c:=by
 rcases zDW _ _ h with q | q
 . simp at q
 . exact q
theorem zNI (I:Inv X pins σ H3 s3)(S:zEY X scope)(f:∀b∈fp,zG6 X pins H3 b)(fz:∀b∈fp,b<s3.heap.objs.size):(zBm X (X.pn++pins) N' scope fp s3 H3).Ok where
 mod:=I.ok.mod
 kind:=S.kind
 glob:=I.ok.glob
 blt:=I.ok.blt
 above:=zH _
 inj:=fun x y c h1 h2=>I.ok.inj x y c (zC1 h1) (zC1 h2)
 has:=fun x h=>zHb I.ok S h
 cab:=fun x c h=>by cases h
 hd:=I.ok.hd
 frames:=I.ok.frames
 stk:=.inl rfl
 exf:=fun b hb=>⟨zc (fz b hb),fun x c h=>(f b hb).2.2.2.2.1 x c (zC1 h)⟩
 bs:=I.bs
 bsz:=zx I.ok.bsz I.sz
 noex:=fun b o e hb=>by
  rcases (f b hb).2.2.2.1 with z | z
  . exact I.ok.noex b o e z
  . exact absurd (zm (zR e) (zx I.ok.bsz z)) (zBz _)
 exfs:=fun b hb z=>by
  rcases zY.mp (I.stkSub b z) with q | q
  . exact (f b hb).2.1 q
  . exact (f b hb).2.2.1 q
 funs:=I.stack
 frf:=I.stkFree
theorem zLM {h1:Heap}{t:Nat}(I:Inv X pins σ H3 s3)(S:zEY X scope)(f:∀b∈fp,zG6 X pins H3 b)(fz:∀b∈fp,b<s3.heap.objs.size)
 (hN:N'=own++cn)(hc:zEZ X scope cn ci)(hv:ci.map (fun j=>σ[j]?)=cv.map fun v=>some (some v))(hl:cn.length=ci.length)
 (hns:h1.Ns s3.heap.objs.size (fun _=>none))(hk:∀b o,s3.heap.get? b=some o->h1.get? b=some o) :
 Inv (zBm X (X.pn++pins) N' scope fp s3 H3) [] (List.replicate own.length none++cv.map some) H3 { s3 with heap:=h1,toks:=t }:=by
 have lenv:cv.length=ci.length:=by
  have:=congrArg List.length hv
  simpa using this.symm
 refine⟨zNI I S f fz,rfl,I.bare,Un.kept hk,⟨_,hns,fun i x v e1 e2 e3=>?_⟩,fun x c e=>?_,I.hok.fresh (zH _),fun x c e=>I.freeC x c (zC1 e),fun p hp=>?_,I.hok.kept hk,?_⟩
 . -- a captured name
   have hi:own.length<=i:=by
    by_cases hi:own.length<=i
    . exact hi
    . rw[zd (by simpa using hi),zA8] at e2
      split at e2 <;> cases e2
   rw[zV (by simpa using hi),zAT,zN] at e2
   have e1':(own++cn)[i]? = some x:=by rw[<-hN];exact e1
   rw[zV hi] at e1'
   obtain⟨j,hj,hNj,hkx,hfr⟩:=hc.get e1'
   have hcv:cv[i-own.length]? = some v:=by
    cases q:cv[i-own.length]? with
    | none=>rw[q] at e2;cases e2
    | some v'=>rw[q] at e2;cases e2;rfl
   have hσ:σ[j]? = some (some v):=by
    have:=congrArg (fun l:List (Option (Option V))=>l[i-own.length]?) hv
    simp only[zN,hj,hcv,zAp,Option.some.injEq] at this
    exact this
   obtain⟨m,_,hl'⟩:=I.loc
   obtain⟨u,r,q⟩:=hl' j x v hNj hσ (.inr (.inl hkx))
   have hkd:(relabel scope X.env).names.lookup x=some .cell\/(relabel scope X.env).names.lookup x=some .free:=by
    have e:(relabel scope X.env).names.lookup x=(scope.names.lookup x).map fun k=>if (k==NameKind.free && X.env.scope.kind == .function && X.env.kindOf x==some .cell)=true then NameKind.cell else k:=zBs scope.names
    rw[e,hfr,zAp]
    by_cases cc:(NameKind.free==NameKind.free && X.env.scope.kind == .function && X.env.kindOf x==some .cell)=true
    . rw[if_pos cc];exact .inl rfl
    . rw[if_neg cc];exact .inr rfl
   obtain⟨c',hc'⟩:=zHb I.ok S hkd
   refine⟨u,r,.inr ⟨hkd,c',hc',?_⟩⟩
   rcases q with ⟨z,_⟩ | ⟨_,c,hcc,o,ho,hd⟩
   . rw[hkx] at z;cases z
   . have e:c=c':=zU (hcc.symm.trans (zC1 hc'))
     subst e
     exact⟨o,hk c o ho,hd⟩
 . obtain⟨v,o,ho,hd⟩:=I.cell x c (zC1 e)
   exact⟨v,o,hk c o ho,hd⟩
 . have hp':p∈X.pn++pins:=by rw[zp] at hp;exact hp
   obtain⟨e,n,ne,nf,d⟩:=I.pin p hp'
   refine⟨hk _ _ e,n,zc (zR e),fun z=>?_,d⟩
   rcases zY.mp (I.stkSub p.1 z) with q | q
   . exact ne q
   . exact nf q
 . show (List.replicate own.length none++cv.map some).length=N'.length
   rw[hN,zL,zL,zAT,zD,lenv,hl]
noncomputable def zHi (J:It)(own:Nat)(cv:List V)(g:TG)(ti:TT)(te:TE)(D:Addr)(H1:Hp)(Q:VK):Prop:=∃W:Nat->Nat->List V->Hp->Prop,(∃m,W 0 m [] (upd H1 D (.lst [])))/\∀i m ys H,W i m ys H ->
 (J.stop i H/\Q (.ref D) H)\/(J.go i H/\ys.length<sizeLine/\∃N:List V->Hp->Prop,(∀ys' H',N ys' H'->∃m',m'<m/\W (i+1) m' ys' H') /\
  ∀x H',J.yld i H x H'->g x (List.replicate own none++cv.map some) H' fun σ2 H2=>(σ2.length=own+cv.length/\σ2.drop own=cv.map some) /\
   ti σ2 H2 fun b H3=>if b=true then te σ2 H3 fun y H4=>H4 D=some (.lst ys)/\N (ys++[y]) (upd H4 D (.lst (ys++[y]))) else N ys H3)
noncomputable def zIU (own:Nat)(ci:List Nat)(wi:TI)(g:TG)(ti:TT)(te:TE):TE:=fun σ H Q=>wi σ H fun J H1=>∃cv:List V,ci.map (fun j=>σ[j]?)=cv.map (fun v=>some (some v)) /\
 ∀D,H1 D=none->zHi J own cv g ti te D H1 Q
theorem zGM {elt target iter:Expr}{ifs:List Expr}{pos cpos:Pos}{wi:TI}{use:Option (Value->Sem Unit)}{Q0:vSP}{s:Shared}{H:Hp}(hcalm:X.calm=true)(S:zEY X scope)(hc:zEZ X scope cn ci)(hl:cn.length=ci.length)
 (hi:PI X target iter wi)(hg:∀pl fp s3 H3,PG (zBm X pl (own++cn) scope fp s3 H3) target g)(ht:∀pl fp s3 H3,PTs (zBm X pl (own++cn) scope fp s3 H3) ifs ti)
 (he:∀pl fp s3 H3,PE (zBm X pl (own++cn) scope fp s3 H3) elt te)(hs:∀x,foldedSetIterable iter X.env x=pure x)(I:Inv X pins σ H s)(h:zIU own.length ci wi g ti te σ H Q)
 (fin:∀(D C:Addr)(H5:Hp)(s6:Shared)(m6:sOV),Inv X pins σ H5 s6->s6.heap.Ns C m6->H5 C=none->C≠X.env.locals->X.s₀.heap.objs.size<=C->(∀x c,X.env.cells.lookup x=some c->c≠C) ->
  (∀p∈X.pn++pins,p.1≠C)->Q (.ref D) H5->compPost (model X.prog X.w) X.A X.xe use Q0 (.ref D) C (.ok .next) s6) :
 wpAny (model X.prog X.w) X.A (comprehension (.ListComp elt [⟨target,iter,ifs,0⟩] scope pos) scope X.env cpos (newList []) false (eval iter X.env) use) Q0 X.xe s:=by
 have hcl:closureFor scope X.env=pure (zDB X.env.cells scope.names []):=zCl fun y hy hf=>I.ok.has y.1 (.inl (S.free y hy hf))
 refine wpAny_comprehension_free (use:=use) rfl hs hcl S.kind S.names ?_
 refine thn (hi pins s σ H _ I h) fun v s1 h1=>thn h1 fun itv s2 h2=>?_
 obtain⟨it,fp,tn,J,H2,e,I2,T,st2,f2,cv,hv,hD⟩:=h2
 subst e
 have lenv:cv.length=ci.length:=by
  have:=congrArg List.length hv
  simpa using this.symm
 have I3:=I2.lnew (ys:=[]) (its:=[]) (t':=s2.toks) .nil (zi _)
 obtain⟨W,⟨m0,w0⟩,turn⟩:=hD s2.heap.objs.size I2.fresh
 have fz:∀b∈fp,b<s2.heap.objs.size:=fun b hb=>by
  obtain⟨o,ho,_⟩:=T.obj _ _ st2 b hb
  exact zR ho
 refine zAr ?_
 refine wpAny_newFunctionEnv S.nocell (by intro y hy;simp at hy) (fun h4 hns4 hsb4=>?_) S.kind
 generalize hs3:({ s2 with heap:=s2.heap.push { cls:=.type "list",dict:=none,data:=.seq ([]:List Value).toArray } }:Shared)=s3 at hns4 hsb4 ⊢
 have I3':Inv X pins σ (upd H2 s2.heap.objs.size (.lst [])) s3:=by rw[<-hs3];exact I3
 have hsz3:s3.heap.objs.size=s2.heap.objs.size+1:=by rw[<-hs3];exact zAi ..
 have k23:∀b o,s2.heap.get? b=some o->s3.heap.get? b=some o:=fun b o e=>by rw[<-hs3];exact zI _ e
 have k34:∀b o,s3.heap.get? b=some o->h4.get? b=some o:=fun b o e=>hsb4.extBut b o (zc (zR e)) (zI _ e)
 have nD:∀b∈fp,b≠s2.heap.objs.size:=fun b hb=>zc (fz b hb)
 have f3:∀b∈fp,zG6 X pins (upd H2 s2.heap.objs.size (.lst [])) b:=fun b hb=>⟨by rw[zf (nD b hb)];exact (f2 b hb).1,(f2 b hb).2⟩
 have fz3:∀b∈fp,b<s3.heap.objs.size:=fun b hb=>by rw[hsz3];exact zAh (fz b hb)
 have I4:Inv (zBm X (X.pn++pins) (own++cn) scope fp s3 (upd H2 s2.heap.objs.size (.lst []))) [] (List.replicate own.length none++cv.map some) (upd H2 s2.heap.objs.size (.lst [])) { s3 with heap:=h4,toks:=s3.toks+([]:List (Str×Value)).length }:=
  zLM I3' S f3 fz3 rfl hc hv hl hns4 k34
 have st4:tn 0 h4:=T.keep _ _ _ st2 fun b hb o e=>k34 b o (k23 b o e)
 generalize hX:zBm X (X.pn++pins) (own++cn) scope fp s3 (upd H2 s2.heap.objs.size (.lst []))=X' at I4
 have hg':PG X' target g:=by rw[<-hX];exact hg _ _ _ _
 have ht':PTs X' ifs ti:=by rw[<-hX];exact ht _ _ _ _
 have he':PE X' elt te:=by rw[<-hX];exact he _ _ _ _
 have ePr:X'.prog=X.prog:=by rw[<-hX];rfl
 have eW:X'.w=X.w:=by rw[<-hX];rfl
 have eK:X'.K=X.K:=by rw[<-hX];rfl
 have eA:X'.A=X.A:=by rw[<-hX];rfl
 have eE:X'.env=compEnvC scope (zDB X.env.cells scope.names []) s3.heap.objs.size X.env:=by rw[<-hX];rfl
 have eXe:X'.xe=fun _ _=>False:=by rw[<-hX];rfl
 have eC:X'.calm=true:=by rw[<-hX];exact hcalm
 have eex:X'.ex=fp:=by rw[<-hX];rfl
 have epn:X'.pn=X.pn++pins:=by rw[<-hX];rfl
 have es0:X'.s₀=s3:=by rw[<-hX];rfl
 have eH0:X'.H₀=upd H2 s2.heap.objs.size (.lst []):=by rw[<-hX];rfl
 have efs:X'.fs=frs X.stack:=by rw[<-hX];rfl
 have ok':=I4.ok
 have stat:∀{H':Hp},(∀b∈fp,H' b=none)->∀b∈fp,zG6 X' [] H' b:=fun hn b hb=>by
  have hb':b∈X'.ex:=by rw[eex];exact hb
  refine⟨hn b hb,(ok'.exf b hb').1,ok'.exfs b hb',.inl hb',(ok'.exf b hb').2,fun p hp=>?_⟩
  rw[epn,zp] at hp
  exact (f2 b hb).2.2.2.2.2 p hp
 have wk:∀(σ2:St),(σ2.length=own.length+cv.length/\σ2.drop own.length=cv.map some)->∀{pl:lPO}{H':Hp}{s':Shared},Inv X' pl σ2 H' s'->Inv X' pl (List.replicate own.length none++cv.map some) H' s':=fun σ2 hq pl H' s' I'=>by
  refine I'.weak (by rw[hq.1,zL,zAT,zD]) fun i v hi=>?_
  by_cases hlt:i<own.length
  . rw[zd (by simpa using hlt),zA8] at hi
    split at hi <;> cases hi
  . rw[zV (by simpa using hlt),zAT,<-hq.2,List.getElem?_drop] at hi
    rw[show own.length+(i-own.length)=i by omega] at hi
    exact hi
 have loop:codeAny (model X.prog X.w) X.A (.compLoop (.ListComp elt [⟨target,iter,ifs,0⟩] scope pos) 0 (.ref it) (.ref s2.heap.objs.size) (compEnvC scope (zDB X.env.cells scope.names []) s3.heap.objs.size X.env))
  (compPost (model X.prog X.w) X.A X.xe use Q0 (.ref s2.heap.objs.size) s3.heap.objs.size) { s3 with heap:=h4,toks:=s3.toks+([]:List (Str×Value)).length }:=by
  refine zDm (fun n s'=>∃i ys H',Inv X' [] (List.replicate own.length none++cv.map some) H' s'/\tn i s'.heap/\(∀b∈fp,H' b=none)/\W i n ys H') ?_ m0
   ⟨0,[],_,I4,st4,fun b hb=>(f3 b hb).1,w0⟩
  rintro n s5 ⟨i,ys,H5,I5,st5,fr5,w5⟩
  rcases turn i n ys H5 w5 with ⟨stop,qn⟩ | ⟨go,hsz,N,hN,step⟩
  . have d:=T.done X' ePr eW eK eC i [] s5 _ H5 (fun _ _=>False) I5 (stat fr5) st5 stop
    rw[eA] at d
    refine thn d fun r s6 ⟨hr,I6⟩=>?_
    subst hr
    obtain⟨m6,hn6,_⟩:=I6.loc
    rw[eE] at hn6
    have hn6':s6.heap.Ns s3.heap.objs.size m6:=hn6
    have un6:Un (frs X.stack) fp (upd H2 s2.heap.objs.size (.lst [])) H5 s3.heap s6.heap:=by
     have b6:=I6.base
     rw[efs,eex,eH0,es0] at b6
     exact b6
    have os6:s6.os=s3.os:=by have o6:=I6.os;rw[es0] at o6;exact o6
    have hok6:HOk X.prog X.w H5 s6.heap:=by have o6:=I6.hok;rw[ePr,eW] at o6;exact o6
    have I7:Inv X pins σ H5 s6:=I3'.call' (ch:=fp) os6 un6 hok6 I6.bare fun b hb=>⟨(f2 b hb).2.2.2.1,(f2 b hb).2.1,(f2 b hb).2.2.2.2.1,(f2 b hb).2.2.2.2.2⟩
    have fr6:H5 s3.heap.objs.size=none:=by
     have q:=I6.free
     rw[eE] at q
     exact q
    refine fin s2.heap.objs.size s3.heap.objs.size H5 s6 m6 I7 hn6' fr6 (Nat.ne_of_gt I3'.lt) I3'.sz (fun x c e=>?_) (fun p hp=>?_) qn
    . obtain⟨_,o,ho,_⟩:=I3'.cell x c e
      exact zc (zR ho)
    . exact zc (zR (I3'.pin p hp).1)
  . have d:=T.item X' ePr eW eK eC i [] s5 _ H5 (fun _ _=>False) I5 (stat fr5) st5 go
    rw[eA] at d
    refine thn d fun r s6 ⟨u,hr,h6⟩=>?_
    subst hr
    refine thn h6 fun _ s7 ⟨x,H7,I7,r7,y7,st7,fr7⟩=>?_
    have I7':=I7.pinned (stat fr7) (T.obj _ _ st7)
    have g7:=hg' _ s7 _ H7 x u _ I7' r7 (step x H7 y7)
    rw[ePr,eW,eA,eE,eXe] at g7
    refine thn g7 fun _ s8 ⟨σ8,H8,I8,q8,ti8⟩=>?_
    have t8:=ht' _ s8 σ8 H8 _ I8 ti8
    rw[ePr,eW,eA,eE,eXe] at t8
    refine thn t8 fun ok s9 ⟨H9,I9,q9⟩=>?_
    have again:∀{ys':List V}{H':Hp}{s':Shared},Inv X' ([]++zEp fp s7.heap) σ8 H' s'->N ys' H' ->
     ∃m,m<n/\∃i ys H',Inv X' [] (List.replicate own.length none++cv.map some) H' s'/\tn i s'.heap/\(∀b∈fp,H' b=none)/\W i m ys H':=fun {ys' H' s'} I' n'=>by
     obtain⟨m',hm,w'⟩:=hN ys' H' n'
     refine⟨m',hm,i+1,ys',H',(wk σ8 q8 I').unpinned,T.keep _ _ _ st7 fun b hb o e=>(I'.pin (b,o) (zk _ (zk _ (zCM hb e)))).1,fun b hb=>?_,w'⟩
     obtain⟨o,e,_⟩:=T.obj _ _ st7 b hb
     exact (I'.pin (b,o) (zk _ (zk _ (zCM hb e)))).2.1
    cases ok with
    | false=>exact again I9 q9
    | true=>
     have e9:=he' _ s9 σ8 H9 _ I9 q9
     rw[ePr,eW,eA,eE,eXe] at e9
     refine thn e9 fun u10 s10 ⟨y,H10,I10,r10,hD10,n10⟩=>?_
     have a10:=zBr (X:=X') _ s10 σ8 H10 (.ref s2.heap.objs.size) [y] (.ref s2.heap.objs.size) [u10] (fun _ H'=>N (ys++[y]) H') I10 rfl (.cons r10 .nil) ⟨_,_,_,rfl,rfl,hD10,hsz,n10⟩
     rw[ePr,eW,eA,eXe] at a10
     exact thn a10 fun _ s11 ⟨_,H11,I11,_,n11⟩=>again I11 n11
 exact codeAny_compStart_list loop (T.self X.A 0 _ _ _ st4 loop)
theorem zBG {elt target iter:Expr}{ifs:List Expr}{pos:Pos}{wi:TI}(hcalm:X.calm=true)(S:zEY X scope)(hc:zEZ X scope cn ci)(hl:cn.length=ci.length)
 (hi:PI X target iter wi)(hg:∀pl fp s3 H3,PG (zBm X pl (own++cn) scope fp s3 H3) target g)(ht:∀pl fp s3 H3,PTs (zBm X pl (own++cn) scope fp s3 H3) ifs ti)
 (he:∀pl fp s3 H3,PE (zBm X pl (own++cn) scope fp s3 H3) elt te)(hs:∀x,foldedSetIterable iter X.env x=pure x:=by intro _;rfl) :
 PE X (.ListComp elt [⟨target,iter,ifs,0⟩] scope pos) (zIU own.length ci wi g ti te):=by
 intro pins s σ H Q I h
 rw[eval_ListComp]
 exact zGM hcalm S hc hl hi hg ht he hs I h fun D C H5 s6 m6 I7 hn fr nL ge nC nP q=>⟨m6,hn,fun h' hs'=>⟨.ref D,H5,I7.turned (t':=s6.toks) (it:=C) (fun b o hb e=>hs'.extBut b o hb e) fr nL (.inr ge) nC nP,rfl,q⟩⟩
theorem zD7 {elt target iter:Expr}{ifs:List Expr}{pos pos' cpos:Pos}{wi:TI}{g:TG}{ti:TT}{te:TE}{i:Nat}{x:Str}(hN:X.N.Nodup)(hix:X.N[i]? = some x)(hx:Loc X.env.scope x)(hcalm:X.calm=true)(S:zEY X scope)(hc:zEZ X scope cn ci)(hl:cn.length=ci.length)
 (hi:PI X target iter wi)(hg:∀pl fp s3 H3,PG (zBm X pl (own++cn) scope fp s3 H3) target g)(ht:∀pl fp s3 H3,PTs (zBm X pl (own++cn) scope fp s3 H3) ifs ti)
 (he:∀pl fp s3 H3,PE (zBm X pl (own++cn) scope fp s3 H3) elt te)(hs:∀x,foldedSetIterable iter X.env x=pure x:=by intro _;rfl)
 (hsw:swapsWith (.ListComp elt [⟨target,iter,ifs,0⟩] scope cpos) (some (.Name x pos')) pos.line X.env=pure true:=by rfl)
 (hf:X.fn x=true\/X.env.scope.names.lookup x=some .local:=by first | exact .inl rfl | exact .inr rfl | assumption) :
 PS X (.Assign [.Name x pos'] (.ListComp elt [⟨target,iter,ifs,0⟩] scope cpos) pos) (tAsg (zIU own.length ci wi g ti te) (zIC i)):=by
 intro pins s σ H D I h
 rw[exec_Assign_Name_used _ _ _ _ hsw]
 refine zB (wpAny_standAt (zB ?_))
 show wpAny _ X.A (do let _ <-comprehension (.ListComp elt [⟨target,iter,ifs,0⟩] scope cpos) scope X.env _ (newList []) false (eval iter X.env) (some (assign (.Name x pos') X.env))) _ _ s
 refine zB (zAP (zGM (use:=some (assign (.Name x pos') X.env)) (Q0:=fun _ s'=>SP X pins D .next s') hcalm S hc hl hi hg ht he hs I h (fun D' C H5 s6 m6 I7 hn fr nL ge nC nP q=>?_)) (fun _ s' hq=>zJ (zJ hq)) fun _ _ e=>e)
 obtain⟨oC,es,ep,hoC,hd,r1⟩:=hn
 have nf:C∉X.fs:=fun hb=>by
  obtain⟨_,o,ho,_⟩:=I7.ok.funs.mem hb
  exact absurd (zm (zR ho) ge) (zBz _)
 have I7':Inv X (pins++[(C,oC)]) σ H5 s6:=I7.pins_of fun p hp=>by
  rcases zn.mp hp with z | z
  . exact I7.pin p (zk _ z)
  . rw[zj.mp z]
    exact⟨hoC,fr,nL,nf,fun v e=>by rw[hd] at e;cases e⟩
 show wpAny _ X.A (assign (.Name x pos') X.env (.ref D')) _ _ s6
 refine wpAny_assign_Name (zCf I7' hN hix hx (show zBk (.ref D') (.ref D') from rfl) (fun s' I'=>?_) hf)
 have hC':=(I'.pin (C,oC) (zk _ (zk _ (zj.mpr rfl)))).1
 refine⟨m6,⟨oC,es,ep,hC',hd,r1⟩,fun h' hs'=>⟨_,H5,?_,q⟩⟩
 have I2:Inv X pins (σ.set i (some (.ref D'))) H5 s':=I'.pins_of fun p hp=>I'.pin p (zk _ (zAk _ hp))
 exact I2.turned (t':=s'.toks) (it:=C) (fun b o hb e=>hs'.extBut b o hb e) fr nL (.inr ge) nC nP
end
noncomputable def cscOk (outer inner:Scope):Bool:=inner.names.all fun y=>(y.2 != .cell) && (y.2 != .local || inner.names.lookup y.1==some .local) && (y.2 != .free || outer.names.lookup y.1==some .cell)
theorem csc {scope:Scope}(hk:scope.kind = .function)(h:cscOk X.env.scope scope=true):zEY X scope:=by
 have a:=zB5.mp h
 refine⟨hk,fun y hy e=>?_,fun y hy e=>?_,fun y hy e=>?_⟩
 . have:=a y hy
   rw[e] at this
   simp at this
 . have:=a y hy
   rw[e] at this
   simpa using this
 . have:=a y hy
   rw[e] at this
   have h2:X.env.scope.names.lookup y.1=some .cell:=by simpa using this
   exact h2
theorem zM3 {l:List Str}(h:decide l.Nodup=true):l.Nodup:=of_decide_eq_true h
section
variable {X:Cx}{pl:lPO}{N':List Str}{sc:Scope}{fp:List Addr}{s3:Shared}{H3:Hp}
theorem zCY:IxR (zBm X pl N' sc fp s3 H3) (rIxT X.K):=zAY
theorem zDT:IxR (zBm X pl N' sc fp s3 H3) (rIxL X.K):=zAb
theorem zMY {es:List Expr}{k:Nat}{t:TGs}{n:Nat}{pos:Pos}(hc:X.calm=true)(h:PGs (zBm X pl N' sc fp s3 H3) es t)
 (hn:(assignEach es (zBm X pl N' sc fp s3 H3).env).length=n:=by rfl)(hst:(assignEach es (zBm X pl N' sc fp s3 H3).env).findIdx? (·.1)=none:=by rfl):PG (zBm X pl N' sc fp s3 H3) (.Tuple es k pos) (gTup X.K n t):=zEq hc h hn hst
end
variable {own:Nat}{cv:List V}{D:Addr}{H1:Hp}
theorem zCF {K:PySem.W.Frag}{a:Addr}{xs:List V}(Pv:Nat->List V->Hp->Prop)(h0:Pv 0 [] (upd H1 D (.lst [])))(hl:∀i ys H,Pv i ys H->SqL K H a xs)(hz:∀i ys H,Pv i ys H->ys.length<sizeLine)
 (hs:∀i x ys H,xs[i]? = some x->Pv i ys H->g x (List.replicate own none++cv.map some) H fun σ2 H2=>(σ2.length=own+cv.length/\σ2.drop own=cv.map some) /\
  ti σ2 H2 fun b H3=>if b=true then te σ2 H3 fun y H4=>H4 D=some (.lst ys)/\Pv (i+1) (ys++[y]) (upd H4 D (.lst (ys++[y]))) else Pv (i+1) ys H3)
 (hd:∀ys H,Pv xs.length ys H->Q (.ref D) H) :
 zHi (Itl K a) own cv g ti te D H1 Q:=by
 refine⟨fun i m ys H=>m=xs.length-i/\i<=xs.length/\Pv i ys H,⟨xs.length,rfl,zi _,h0⟩,?_⟩
 rintro i m ys H ⟨rfl,hi,p⟩
 have q:=hl i ys H p
 by_cases hlt:i<xs.length
 . refine .inr ⟨⟨xs,xs[i],q,by simp[hlt]⟩,hz i ys H p,Pv (i+1),fun ys' H' p'=>⟨xs.length-(i+1),by omega,rfl,hlt,p'⟩,fun x H' y=>?_⟩
   obtain⟨e,y⟩:=y
   subst e
   exact hs i x ys _ (y xs q) p
 . have e:i=xs.length:=by omega
   subst e
   exact .inl ⟨⟨xs,q,zH _⟩,hd ys H p⟩
theorem zCU {K:PySem.W.Frag}{a:Addr}{xs:List V}(Pv:Nat->List V->Hp->Prop)(h0:Pv 0 [] (upd H1 D (.lst [])))(hl:∀i ys H,Pv i ys H->SqT K H a xs)(hz:∀i ys H,Pv i ys H->ys.length<sizeLine)
 (hs:∀i x ys H,xs[i]? = some x->Pv i ys H->g x (List.replicate own none++cv.map some) H fun σ2 H2=>(σ2.length=own+cv.length/\σ2.drop own=cv.map some) /\
  ti σ2 H2 fun b H3=>if b=true then te σ2 H3 fun y H4=>H4 D=some (.lst ys)/\Pv (i+1) (ys++[y]) (upd H4 D (.lst (ys++[y]))) else Pv (i+1) ys H3)
 (hd:∀ys H,Pv xs.length ys H->Q (.ref D) H) :
 zHi (Itt K a) own cv g ti te D H1 Q:=by
 refine⟨fun i m ys H=>m=xs.length-i/\i<=xs.length/\Pv i ys H,⟨xs.length,rfl,zi _,h0⟩,?_⟩
 rintro i m ys H ⟨rfl,hi,p⟩
 have q:=hl i ys H p
 by_cases hlt:i<xs.length
 . refine .inr ⟨⟨xs,xs[i],q,by simp[hlt]⟩,hz i ys H p,Pv (i+1),fun ys' H' p'=>⟨xs.length-(i+1),by omega,rfl,hlt,p'⟩,fun x H' y=>?_⟩
   obtain⟨e,y⟩:=y
   subst e
   exact hs i x ys _ (y xs q) p
 . have e:i=xs.length:=by omega
   subst e
   exact .inl ⟨⟨xs,q,zH _⟩,hd ys H p⟩
theorem zBE {lo:Int}{n:Nat}(Pv:Nat->List V->Hp->Prop)(h0:Pv 0 [] (upd H1 D (.lst [])))(hz:∀i ys H,Pv i ys H->ys.length<sizeLine)
 (hs:∀i ys H,i<n->Pv i ys H->g (.int (lo+i)) (List.replicate own none++cv.map some) H fun σ2 H2=>(σ2.length=own+cv.length/\σ2.drop own=cv.map some) /\
  ti σ2 H2 fun b H3=>if b=true then te σ2 H3 fun y H4=>H4 D=some (.lst ys)/\Pv (i+1) (ys++[y]) (upd H4 D (.lst (ys++[y]))) else Pv (i+1) ys H3)
 (hd:∀ys H,Pv n ys H->Q (.ref D) H) :
 zHi (Itr lo n) own cv g ti te D H1 Q:=by
 refine⟨fun i m ys H=>m=n-i/\i<=n/\Pv i ys H,⟨n,rfl,zi _,h0⟩,?_⟩
 rintro i m ys H ⟨rfl,hi,p⟩
 by_cases hlt:i<n
 . refine .inr ⟨hlt,hz i ys H p,Pv (i+1),fun ys' H' p'=>⟨n-(i+1),by omega,rfl,hlt,p'⟩,fun x H' y=>?_⟩
   obtain⟨e,y⟩:=y
   subst e
   subst y
   exact hs i ys _ hlt p
 . have e:i=n:=by omega
   subst e
   exact .inl ⟨zH _,hd ys H p⟩
end L2
namespace SortT
open PySem.W PyProof.Rows
noncomputable def ev {α:Type}(lt:Nat->Nat->Bool):KasT α->α
 | .ret a=>a
 | .ask i j k=>ev lt (k (lt i j))
theorem zDc {α β:Type}(lt:Nat->Nat->Bool)(f:α->KasT β):∀t:KasT α,ev lt (t.bind f)=ev lt (f (ev lt t))
 | .ret _=>rfl
 | .ask i j k=>zDc lt f (k (lt i j))
variable {p:Array Nat}{i j n nrem:Nat}
section
variable {O:KeyOrd}{key:Nat->O.α}
noncomputable def kk (key:Nat->O.α)(p:Array Nat)(i:Nat):O.α:=key (p.getD i 0)
noncomputable def Sr (key:Nat->O.α)(p:Array Nat)(n:Nat):Prop:=∀i j,i<=j->j<n->O.kle (kk key p i) (kk key p j)
noncomputable def Fl (key:Nat->O.α)(p:Array Nat)(n:Nat):Prop:=∀i j,i<=j->j<n->O.kle (kk key p j) (kk key p i)
theorem zDR {q:Array Nat}(h:p[i]? = q[j]?):kk key p i=kk key q j:=by
 unfold kk;rw[Array.getD_eq_getD_getElem?,Array.getD_eq_getD_getElem?,h]
theorem zJK (hj:j<=p.size)(k:Nat):kk key (kas_rev p i j) k=if i<=k/\k<j then kk key p (i+j-1-k) else kk key p k:=by
 have e:=getElem?_mirror_all (i:=i) hj k
 unfold kas_rev
 by_cases h1:i<=k/\k<j
 . rw[if_pos h1] at e ⊢;exact zDR e
 . rw[if_neg h1] at e ⊢;exact zDR e
theorem zEH (hj:j<=p.size)(he:∀k,i<=k->k<j->kk key p k=kk key p (j-1))(k:Nat):kk key (kas_rev p i j) k=kk key p k:=by
 rw[zJK hj]
 split
 . rw[he _ (by omega) (by omega),he k (by omega) (by omega)]
 . rfl
theorem zF6 {src d:Nat}(hs:src<p.size)(hd:d<=src)(k:Nat) :
 kk key (bubble p src d) k=if k=src-d then kk key p src else if src-d<k/\k<=src then kk key p (k-1) else kk key p k:=by
 have e:=getElem?_bubble hs d hd k
 by_cases h1:k=src-d
 . rw[if_pos h1] at e ⊢;exact zDR e
 . rw[if_neg h1] at e ⊢
   by_cases h2:src-d<k/\k<=src
   . rw[if_pos h2] at e ⊢;exact zDR e
   . rw[if_neg h2] at e ⊢;exact zDR e
noncomputable def lt_ (key:Nat->O.α)(i j:Nat):Bool:=O.blt (key i) (key j)
theorem zCC (p:Array Nat)(i j:Nat):(kas_rev p i j).Perm p:=mirror_perm _ _ _ _
theorem zFF (p:Array Nat)(i j:Nat):(kas_rev p i j).size=p.size:=(zCC p i j).size_eq
theorem zJ7 {p:Array Nat}:∀(f n:Nat),1<=n->Sr key p n->∃m,ev (lt_ key) (kas_asc p f n)=m/\n<=m/\m<=n+f/\Sr key p m/\(m=n+f\/O.klt (kk key p m) (kk key p (m-1)))
 | 0,n,_,hs=>⟨n,rfl,zH _,zH _,hs,.inl rfl⟩
 | f+1,n,h1,hs=>by
  show ∃m,ev (lt_ key) (if lt_ key (p.getD n 0) (p.getD (n-1) 0)=true then KasT.ret n else kas_asc p f (n+1))=m/\_
  cases hl:lt_ key (p.getD n 0) (p.getD (n-1) 0) with
  | true=>exact⟨n,by simp[ev],zH _,by omega,hs,.inr hl⟩
  | false=>
   have hs':Sr key p (n+1):=fun i j hij hj=>by
    by_cases hjn:j<n
    . exact hs i j hij hjn
    . have hj':j=n:=by omega
      subst hj'
      by_cases hi':i=j
      . subst hi';exact KeyOrd.kle_refl _
      . exact KeyOrd.kle_trans (hs i (j-1) (by omega) (by omega)) hl
   obtain⟨m,e,a,b,c,d⟩:=zJ7 f (n+1) (by omega) hs'
   refine⟨m,by simpa using e,by omega,by omega,c,?_⟩
   rcases d with d | d
   . exact .inl (by omega)
   . exact .inr d
theorem zG9 (h1:1<=n)(hn:n<=nrem)(hz:nrem<=p.size)(hs:Fl key p n) :
 ∃m q,ev (lt_ key) (kas_tail3 n nrem p)=(m,q)/\q.Perm p/\1<=m/\m<=nrem/\Sr key q m:=by
 unfold kas_tail3
 have hs':Sr key (kas_rev p 0 n) n:=fun i j hij hj=>by
  rw[zJK (by omega),zJK (by omega),if_pos (by omega),if_pos (by omega)]
  exact hs _ _ (by omega) (by omega)
 obtain⟨m,e,a,b,c,_⟩:=zJ7 (nrem-n) n h1 hs'
 exact⟨m,kas_rev p 0 n,by rw[zDc,e];rfl,zCC _ _ _,by omega,by omega,c⟩
theorem zFW:∀(f n q:Nat)(p:Array Nat),1<=n->n+f<=p.size->Fl key p n->q+1<=n->(∀i,n-(q+1)<=i->i<n->kk key p i=kk key p (n-1)) ->
 ∃p' n' q',ev (lt_ key) (kas_desc f p n q)=(p',n',q')/\p'.Perm p/\n<=n'/\n'<=n+f/\Fl key p' n'/\q'+1<=n'/\(∀i,n'-(q'+1)<=i->i<n'->kk key p' i=kk key p' (n'-1))
 | 0,n,q,p,_,_,hs,hq,he=>⟨p,n,q,rfl,.refl _,zH _,zH _,hs,hq,he⟩
 | f+1,n,q,p,h1,hz,hs,hq,he=>by
  show ∃p' n' q',ev (lt_ key) (if lt_ key (p.getD n 0) (p.getD (n-1) 0)=true then _ else KasT.ask _ _ _)=(p',n',q')/\_
  cases hl:lt_ key (p.getD n 0) (p.getD (n-1) 0) with
  | true=>
   have step:∀xs:Array Nat,(∀k,kk key xs k=kk key p k)->Fl key xs (n+1):=fun xs hk i j hij hj=>by
    rw[hk,hk]
    by_cases hjn:j<n
    . exact hs i j hij hjn
    . have hj':j=n:=by omega
      subst hj'
      by_cases hi':i=j
      . subst hi';exact KeyOrd.kle_refl _
      . exact KeyOrd.kle_trans (KeyOrd.kle_of_klt hl) (hs i (j-1) (by omega) (by omega))
   by_cases hq0:q > 0
   . have hk:=zEH (key:=key) (p:=p) (i:=n-(q+1)) (j:=n) (by omega) he
     obtain⟨p',n',q',e,a,b,c,d⟩:=zFW f (n+1) 0 (kas_rev p (n-(q+1)) n) (by omega) (by rw[zFF];omega) (step _ hk) (by omega) (fun i h1 h2=>by congr 1;omega)
     exact⟨p',n',q',by simpa [hq0] using e,a.trans (zCC _ _ _),by omega,by omega,d⟩
   . obtain⟨p',n',q',e,a,b,c,d⟩:=zFW f (n+1) 0 p (by omega) (by omega) (step _ fun _=>rfl) (by omega) (fun i h1 h2=>by congr 1;omega)
     exact⟨p',n',q',by simpa [hq0] using e,a,by omega,by omega,d⟩
  | false=>
   show ∃p' n' q',ev (lt_ key) (if lt_ key (p.getD (n-1) 0) (p.getD n 0)=true then KasT.ret (p,n,q) else kas_desc f p (n+1) (q+1))=(p',n',q')/\_
   cases hr:lt_ key (p.getD (n-1) 0) (p.getD n 0) with
   | true=>exact⟨p,n,q,by simp[ev],.refl _,zH _,by omega,hs,hq,he⟩
   | false=>
    have heq:kk key p n=kk key p (n-1):=KeyOrd.kle_antisymm hr hl
    have hs':Fl key p (n+1):=fun i j hij hj=>by
     by_cases hjn:j<n
     . exact hs i j hij hjn
     . have hj':j=n:=by omega
       subst hj'
       by_cases hi':i=j
       . subst hi';exact KeyOrd.kle_refl _
       . rw[heq];exact hs i (j-1) (by omega) (by omega)
    obtain⟨p',n',q',e,a,b,c,d⟩:=zFW f (n+1) (q+1) p (by omega) (by omega) hs' (by omega) (fun i h1 h2=>by
     rw[show n+1-1=n by omega]
     by_cases hix:i=n
     . subst hix;rfl
     . rw[heq];exact he i (by omega) (by omega))
    exact⟨p',n',q',by simpa using e,a,by omega,by omega,d⟩
theorem zET (hn:n+1<=nrem)(hz:nrem<=p.size)(hs:Fl key p (n+1)) :
 ∃m q,ev (lt_ key) (kas_descPart n nrem p)=(m,q)/\q.Perm p/\1<=m/\m<=nrem/\Sr key q m:=by
 unfold kas_descPart
 rw[zDc]
 obtain⟨p',n',q',e,a,b,c,d,hq,he⟩:=zFW (nrem-(n+1)) (n+1) 0 p (by omega) (by omega) hs (by omega) (fun i h1 h2=>by congr 1;omega)
 rw[e]
 dsimp only
 have hz':p'.size=p.size:=a.size_eq
 by_cases hq0:q' > 0
 . rw[if_pos hq0]
   have hk:=zEH (key:=key) (p:=p') (i:=n'-(q'+1)) (j:=n') (by omega) he
   obtain⟨m,r,e2,a2,b2,c2,d2⟩:=zG9 (key:=key) (p:=kas_rev p' (n'-(q'+1)) n') (n:=n') (nrem:=nrem) (by omega) (by omega) (by rw[zFF];omega) (fun i j hij hj=>by rw[hk,hk];exact d i j hij hj)
   exact⟨m,r,e2,a2.trans ((zCC _ _ _).trans a),b2,c2,d2⟩
 . rw[if_neg hq0]
   obtain⟨m,r,e2,a2,b2,c2,d2⟩:=zG9 (key:=key) (p:=p') (n:=n') (nrem:=nrem) (by omega) (by omega) (by omega) d
   exact⟨m,r,e2,a2.trans a,b2,c2,d2⟩
theorem zLL (h1:1<=nrem)(hz:nrem<=p.size):∃m q,ev (lt_ key) (kas_count nrem p)=(m,q)/\q.Perm p/\1<=m/\m<=nrem/\Sr key q m:=by
 unfold kas_count
 rw[zDc]
 obtain⟨n,e,a,b,hsn,hor⟩:=zJ7 (key:=key) (p:=p) (nrem-1) 1 (zH _) (fun i j hij hj=>by have:i=j:=(by omega);subst this;exact KeyOrd.kle_refl _)
 rw[e]
 by_cases hnn:n=nrem
 . rw[if_pos (by simpa using hnn)]
   exact⟨n,p,rfl,.refl _,a,by omega,hsn⟩
 . rw[if_neg (by simpa using hnn)]
   have hlt:O.klt (kk key p n) (kk key p (n-1)):=hor.resolve_left (by omega)
   by_cases hgt:n > 1
   . rw[if_pos hgt]
     show ∃m q,ev (lt_ key) (if lt_ key (p.getD 0 0) (p.getD (n-1) 0)=true then KasT.ret (n,p) else kas_descPart n nrem (kas_rev p 0 n))=(m,q)/\_
     cases hr:lt_ key (p.getD 0 0) (p.getD (n-1) 0) with
     | true=>exact⟨n,p,by simp[ev],.refl _,a,by omega,hsn⟩
     | false=>
      have hall:∀k,0<=k->k<n->kk key p k=kk key p (n-1):=fun k _ hk=>
       KeyOrd.kle_antisymm (hsn k (n-1) (by omega) (by omega)) (KeyOrd.kle_trans hr (hsn 0 k (by omega) hk))
      have hk:=zEH (key:=key) (p:=p) (i:=0) (j:=n) (by omega) hall
      obtain⟨m,q,e2,a2,b2,c2,d2⟩:=zET (key:=key) (p:=kas_rev p 0 n) (n:=n) (nrem:=nrem) (by omega) (by rw[zFF];omega) (fun i j hij hj=>by
       rw[hk,hk]
       by_cases hjn:j<n
       . rw[hall i (by omega) (by omega),hall j (by omega) hjn];exact KeyOrd.kle_refl _
       . have hj':j=n:=by omega
         subst hj'
         by_cases hi':i=j
         . subst hi';exact KeyOrd.kle_refl _
         . rw[hall i (by omega) (by omega)];exact KeyOrd.kle_of_klt hlt)
      exact⟨m,q,by simpa using e2,a2.trans (zCC _ _ _),b2,c2,d2⟩
   . rw[if_neg hgt]
     have hn1:n=1:=by omega
     subst hn1
     refine zET (by omega) hz fun i j hij hj=>?_
     by_cases hi':i=j
     . subst hi';exact KeyOrd.kle_refl _
     . have hi0:i=0:=by omega
       have hj1:j=1:=by omega
       subst hi0;subst hj1
       exact KeyOrd.kle_of_klt hlt
theorem zFG {p:Array Nat}{k:Nat}(hs:Sr key p k):∀(f l r:Nat),l<=r->r<=k->r-l<=f->(∀i,i<l->O.kle (kk key p i) (kk key p k))->(∀i,r<=i->i<k->O.klt (kk key p k) (kk key p i)) ->
 ∃m,ev (lt_ key) (kas_place p k f l r)=m/\m<=k/\(∀i,i<m->O.kle (kk key p i) (kk key p k))/\(∀i,m<=i->i<k->O.klt (kk key p k) (kk key p i))
 | 0,l,r,hlr,hrk,hf,hlo,hhi=>⟨l,rfl,by omega,hlo,fun i h1 h2=>hhi i (by omega) h2⟩
 | f+1,l,r,hlr,hrk,hf,hlo,hhi=>by
  unfold kas_place
  by_cases hge:l ≥ r
  . rw[if_pos hge]
    exact⟨l,rfl,by omega,hlo,fun i h1 h2=>hhi i (by omega) h2⟩
  . rw[if_neg hge]
    show ∃m,ev (lt_ key) (if lt_ key (p.getD k 0) (p.getD ((l+r)/2) 0)=true then kas_place p k f l ((l+r)/2) else kas_place p k f ((l+r)/2+1) r)=m/\_
    cases hl:lt_ key (p.getD k 0) (p.getD ((l+r)/2) 0) with
    | true=>
     obtain⟨m,e,x⟩:=zFG hs f l ((l+r)/2) (by omega) (by omega) (by omega) hlo (fun i h1 h2=>KeyOrd.klt_of_klt_of_kle hl (hs _ _ h1 h2))
     exact⟨m,by simpa using e,x⟩
    | false=>
     obtain⟨m,e,x⟩:=zFG hs f ((l+r)/2+1) r (by omega) (by omega) (by omega) (fun i h1=>KeyOrd.kle_trans (hs i ((l+r)/2) (by omega) (by omega)) (show O.kle _ _ from hl)) hhi
     exact⟨m,by simpa using e,x⟩
theorem zLw:∀(f:Nat)(p:Array Nat)(k:Nat),k+f=p.size->Sr key p k->∃q,ev (lt_ key) (kas_bin f p k)=q/\q.Perm p/\Sr key q (k+f)
 | 0,p,k,_,hs=>⟨p,rfl,.refl _,hs⟩
 | f+1,p,k,hz,hs=>by
  unfold kas_bin
  rw[zDc]
  obtain⟨l,e,hlk,hlo,hhi⟩:=zFG (key:=key) hs k 0 k (by omega) (by omega) (by omega) (fun i h=>by omega) (fun i h1 h2=>by omega)
  rw[e]
  have hs':Sr key (bubble p k (k-l)) (k+1):=fun i j hij hj=>by
   rw[zF6 (by omega) (by omega),zF6 (by omega) (by omega),show k-(k-l)=l by omega]
   repeat' split
   all_goals first
    | (exfalso;omega)
    | exact KeyOrd.kle_refl _
    | exact hlo _ (by omega)
    | exact KeyOrd.kle_of_klt (hhi _ (by omega) (by omega))
    | exact hs _ _ (by omega) (by omega)
  obtain⟨q,e2,a,b⟩:=zLw f (bubble p k (k-l)) (k+1) (by rw[(bubble_perm p k (k-l)).size_eq];omega) hs'
  exact⟨q,e2,a.trans (bubble_perm _ _ _),by rw[show k+(f+1)=k+1+f by omega];exact b⟩
theorem zMF (n:Nat)(h1:1<=n):∃q,ev (lt_ key) (kas_sort n)=q/\q.Perm (List.range n).toArray/\Sr key q n:=by
 unfold kas_sort
 rw[zDc]
 have hz:(List.range n).toArray.size=n:=by simp
 obtain⟨m,q,e,a,b,c,d⟩:=zLL (key:=key) (p:=(List.range n).toArray) h1 (by omega)
 rw[e]
 dsimp only
 have hq:q.size=n:=by rw[a.size_eq,hz]
 by_cases hm:m<n
 . rw[if_pos hm]
   obtain⟨r,e2,a2,b2⟩:=zLw (key:=key) (n-max m 1) q (max m 1) (by omega) (by rw[show max m 1=m by omega];exact d)
   exact⟨r,e2,a2.trans a,by rw[show max m 1+(n-max m 1)=n by omega] at b2;exact b2⟩
 . rw[if_neg hm]
   have:m=n:=by omega
   subst this
   exact⟨q,rfl,a,d⟩
end
noncomputable def zEj {α:Type}(n:Nat)(R:α->Prop):KasT α->Prop
 | .ret a=>R a
 | .ask i j k=>i<n/\j<n/\∀b,zEj n R (k b)
theorem zEj.bind {α β:Type}{n:Nat}{R:α->Prop}{R':β->Prop}{f:α->KasT β}(hf:∀a,R a->zEj n R' (f a)):∀(t:KasT α),zEj n R t->zEj n R' (t.bind f)
 | .ret a,h=>hf a h
 | .ask _ _ k,h=>⟨h.1,h.2.1,fun b=>zEj.bind hf (k b) (h.2.2 b)⟩
noncomputable def Bd (n:Nat)(p:Array Nat):Prop:=∀i,p.getD i 0<n
theorem Bd.perm {q:Array Nat}(h:Bd n q)(hp:p.Perm q):Bd n p:=fun i=>by
 have h0:0<n:=zAK (zi _) (h 0)
 by_cases hi:i<p.size
 . have e:p.getD i 0=p[i]:=by simp[Array.getD,hi]
   rw[e]
   have hm:p[i]∈q.toList:=(Array.perm_iff_toList_perm.mp hp).mem_iff.mp (by simp)
   obtain⟨j,hj,ej⟩:=zy hm
   have hj':j<q.size:=by simpa using hj
   have:=h j
   rw[show q.getD j 0=q[j] by simp[Array.getD,hj']] at this
   rw[<-ej]
   simpa using this
 . have e:p.getD i 0=0:=by simp[Array.getD,hi]
   rw[e];exact h0
theorem zG3 {n:Nat}{p:Array Nat}(hp:Bd n p):∀f m,zEj n (fun _=>True) (kas_asc p f m)
 | 0,_=>trivial
 | f+1,m=>⟨hp _,hp _,fun b=>by
  cases b with
  | true=>exact trivial
  | false=>exact zG3 hp f (m+1)⟩
theorem zDu {n:Nat}:∀(f:Nat)(p:Array Nat)(m q:Nat),Bd n p->zEj n (fun r=>Bd n r.1) (kas_desc f p m q)
 | 0,_,_,_,hp=>hp
 | f+1,p,m,q,hp=>⟨hp _,hp _,fun b=>by
  cases b with
  | true=>
   show zEj n _ (if q > 0 then kas_desc f (kas_rev p (m-(q+1)) m) (m+1) 0 else kas_desc f p (m+1) 0)
   split
   . exact zDu f _ _ _ (hp.perm (zCC _ _ _))
   . exact zDu f _ _ _ hp
  | false=>
   refine⟨hp _,hp _,fun d=>?_⟩
   cases d with
   | true=>exact hp
   | false=>exact zDu f _ _ _ hp⟩
theorem zFo {m:Nat}(hp:Bd n p):zEj n (fun r=>Bd n r.2) (kas_tail3 m nrem p):=by
 unfold kas_tail3
 exact zEj.bind (R:=fun _=>True) (R':=fun r=>Bd n r.2) (f:=fun k=>KasT.ret (k,kas_rev p 0 m)) (fun a _=>hp.perm (zCC p 0 m)) _ (zG3 (hp.perm (zCC p 0 m)) _ _)
theorem zDl {m:Nat}(hp:Bd n p):zEj n (fun r=>Bd n r.2) (kas_descPart m nrem p):=
 zEj.bind (fun r hr=>by
  split
  . exact zFo (hr.perm (zCC _ _ _))
  . exact zFo hr) _ (zDu _ _ _ _ hp)
theorem zJw (hp:Bd n p):zEj n (fun r=>Bd n r.2) (kas_count nrem p):=
 zEj.bind (fun r _=>by
  split
  . exact hp
  . split
    . refine⟨hp _,hp _,fun b=>?_⟩
      cases b with
      | true=>exact hp
      | false=>exact zDl (hp.perm (zCC _ _ _))
    . exact zDl hp) _ (zG3 hp _ _)
theorem zD8 {n k:Nat}{p:Array Nat}(hp:Bd n p):∀f l r,zEj n (fun _=>True) (kas_place p k f l r)
 | 0,_,_=>trivial
 | f+1,l,r=>by
  unfold kas_place
  split
  . exact trivial
  . refine⟨hp _,hp _,fun b=>?_⟩
    cases b with
    | true=>exact zD8 hp f _ _
    | false=>exact zD8 hp f _ _
theorem zJ5 {n:Nat}:∀(f:Nat)(p:Array Nat)(k:Nat),Bd n p->zEj n (fun _=>True) (kas_bin f p k)
 | 0,_,_,_=>trivial
 | f+1,p,k,hp=>zEj.bind (fun l _=>zJ5 f _ _ (hp.perm (bubble_perm _ _ _))) _ (zD8 hp _ _ _)
theorem zKT (h:0<n):zEj n (fun _=>True) (kas_sort n):=
 zEj.bind (fun r hr=>by
  split
  . exact zJ5 _ _ _ hr
  . exact trivial) _ (zJw fun i=>by
    by_cases hi:i<n
    . simp[Array.getD,hi]
    . simp[Array.getD,hi];exact h)
end SortT
namespace SortT
open PySem PySem.W PySem.Calls PyProof.Rows
theorem wp_ev {α:Type}{cmp:Nat->Nat->(Bool->Shared->Prop)->Shared->Prop}{lt:Nat->Nat->Bool}{n:Nat}{s:Shared}(hc:∀i j C,i<n->j<n->C (lt i j) s->cmp i j C s){R:α->Prop}{Q:α->Shared->Prop} :
 ∀t:KasT α,zEj n R t->Q (ev lt t) s->t.kasWp cmp Q s
 | .ret _,_,h=>h
 | .ask i j k,w,h=>hc i j _ w.1 w.2.1 (wp_ev hc (k (lt i j)) (w.2.2 _) h)
variable {O:KeyOrd}
section
variable {prog:Program}{w:World}{A:Around}{E:vSP}{s:Shared}
structure Put {O:KeyOrd}(key:Nat->O.α)(n:Nat)(out:List Nat):Prop where
 perm:out.Perm (List.range n)
 rise:∀(i j a b:Nat),i<=j->out[i]? = some a->out[j]? = some b->O.kle (key a) (key b)
theorem put_of {key:Nat->O.α}{n:Nat}{q:Array Nat}(hp:q.Perm (List.range n).toArray)(hs:Sr key q n):Put key n q.toList:=by
 have hl:q.toList.Perm (List.range n):=Array.perm_iff_toList_perm.mp hp
 refine⟨hl,fun i j a b hij ha hb=>?_⟩
 have hz:q.size=n:=by have:=hp.size_eq;simpa using this
 have hj:j<q.toList.length:=(zK.mp hb).1
 have hj':j<n:=by rw[<-hz];simpa using hj
 have h:=hs i j hij hj'
 have ga:q.getD i 0=a:=by
  rw[Array.getD_eq_getD_getElem?,<-Array.getElem?_toList,ha];rfl
 have gb:q.getD j 0=b:=by
  rw[Array.getD_eq_getD_getElem?,<-Array.getElem?_toList,hb];rfl
 unfold kk at h
 rw[ga,gb] at h
 exact h
structure Asks (prog:Program)(w:World)(A:Around)(s:Shared)(a:Addr)(vs:List Value){O:KeyOrd}(key:Nat->O.α)(κ:SortKind):Prop where
 kind:∀(h':Heap)(Q:SortKind->Shared->Prop)(E:vSP),(∀b o,b≠a->s.heap.get? b=some o->h'.get? b=some o)->Q κ { s with heap:=h' }->wpAny (model prog w) A (keyKind' vs.toArray) Q E { s with heap:=h' }
 less:∀(h':Heap)(i j:Nat)(Q:Bool->Shared->Prop)(E:vSP),(∀b o,b≠a->s.heap.get? b=some o->h'.get? b=some o)->i<vs.length->j<vs.length->Q (O.blt (key i) (key j)) { s with heap:=h' } ->
  wpAny (model prog w) A (keyLt' κ (vs.getD i Value.none) (vs.getD j Value.none)) Q E { s with heap:=h' }
theorem zEE {a:Addr}{vs:List Value}{n:Nat}{P:PySem.Fin->Shared->Prop}{key:Nat->O.α}{κ:SortKind}(ho:s.heap.get? a=some (seqObj "list" vs.toArray n)) (h64:vs.length<64)
 (ask:2<=vs.length->Asks prog w A s a vs key κ)
 (h:∀out:List Nat,Put key vs.length out->P (.done (.ret .none)) { s with heap:=sortedHeap s.heap a vs (out.map fun i=>vs.getD i Value.none).toArray }) :
 wpAny (model prog w) A (Builtin.«list.sort» ⟨[.ref a],[]⟩) P E s:=by
 rw[list_sort_plain]
 have ha:a<s.heap.objs.size:=zR ho
 refine zB (listItems_at ho rfl ?_)
 refine zB (listUpdate_at ho rfl ?_ (by rw[zQ,sizeLine_eq];omega) (zi _))
 obtain⟨e1,ho1⟩:∃e1,(s.heap.update a (Obj.mapSeq fun _=>#[])).get? a=some (seqObj "list" #[] e1):=⟨_,get?_update_seq ho (fun _=>#[])⟩
 refine zB (seqEpoch_at ho1 rfl ?_)
 refine zB (wpAny_newTuple ?_ (by show vs.length<=_;rw[sizeLine_eq];omega))
 refine zB (wpAny_newList ?_ (zi _))
 refine zAg ?_
 have ho6:(((s.heap.update a (Obj.mapSeq fun _=>#[])).push (seqObj "tuple" vs.toArray 0)).push (seqObj "list" #[] 0)).get? a=some (seqObj "list" #[] e1):=by
  rw[Heap.get?_push_ne _ _ _ (by rw[size_push',Heap.size_update];exact zc (zAh ha)),Heap.get?_push_ne _ _ _ (by rw[Heap.size_update];exact zc ha)]
  exact ho1
 have keep:∀b o,b≠a->s.heap.get? b=some o->(((s.heap.update a (Obj.mapSeq fun _=>#[])).push (seqObj "tuple" vs.toArray 0)).push (seqObj "list" #[] 0)).get? b=some o:=fun b o hb e=>by
  refine zI _ (zI _ ?_)
  rw[zB2 _ _ _ _ hb]
  exact e
 show wpAny (model prog w) A _ P E { s with heap:=((s.heap.update a (Obj.mapSeq fun _=>#[])).push (seqObj "tuple" vs.toArray 0)).push (seqObj "list" #[] 0) }
 dsimp only
 by_cases h2:vs.toArray.size<2
 . rw[if_pos h2,if_pos h2]
   refine zB (zJ ?_)
   rw[StateT.run_pure]
   refine zB (zJ ?_)
   dsimp only
   refine zB (seqEpoch_at ho6 rfl ?_)
   refine zB (listUpdate_at ho6 rfl ?_ (zi _) (by rw[Array.size_map];show (pairsOf vs).size<=_;rw[pairsOf_size,sizeLine_eq];omega))
   simp only[bne_self_eq_false,zBf,if_false]
   refine zJ ?_
   have hlen:vs.length<2:=by simpa using h2
   have hout:(arrOf (SortSt.mk' general' (vs.toArray.zip vs.toArray) #[] 7 none)).map (·.2)=((List.range vs.length).map fun i=>vs.getD i Value.none).toArray:=by
    show (vs.toArray.zip vs.toArray).map (·.2)=_
    match vs,hlen with
    | [],_=>simp
    | [v],_=>simp
    | _::_::_,h=>exfalso;simp only[zT] at h;omega
   have fin:=h (List.range vs.length) ⟨.refl _,fun i j x y hij hx hy=>by
    have hj:j<(List.range vs.length).length:=(zK.mp hy).1
    rw[zAB] at hj
    have e:i=j:=by omega
    subst e
    rw[hx] at hy
    cases hy
    exact KeyOrd.kle_refl _⟩
   rw[<-hout] at fin
   exact fin
 . rw[if_neg h2,if_neg h2]
   have h2':2<=vs.length:=by
    have:¬ vs.length<2:=by simpa using h2
    omega
   have K:=ask h2'
   refine zB (K.kind _ _ _ keep ?_)
   obtain⟨q,eq,hp,hs⟩:=zMF (key:=key) vs.length (by omega)
   have run:(kas_sort vs.length).kasWp (kas_ask prog w A κ vs) (fun p s'=>p=q/\s'={ s with heap:=((s.heap.update a (Obj.mapSeq fun _=>#[])).push (seqObj "tuple" vs.toArray 0)).push (seqObj "list" #[] 0) })
    { s with heap:=((s.heap.update a (Obj.mapSeq fun _=>#[])).push (seqObj "tuple" vs.toArray 0)).push (seqObj "list" #[] 0) }:=
    wp_ev (lt:=lt_ key) (n:=vs.length) (fun i j C hi hj hC=>K.less _ i j C _ keep hi hj hC) _ (zKT (by omega)) ⟨eq,rfl⟩
   refine zB (zAP (kat_run (ks:=vs) (vs:=vs) (Q:=fun st' s'=>∃p:Array Nat,p.size=vs.length/\arrOf st'=p.map (kas_item (vs.toArray.zip vs.toArray))/\failedOf st'=none/\p=q/\s'={ s with heap:=((s.heap.update a (Obj.mapSeq fun _=>#[])).push (seqObj "tuple" vs.toArray 0)).push (seqObj "list" #[] 0) })
    rfl h2' h64 (fun p' st' s' a1 a2 a3 a4=>⟨p',a1,a2,a3,a4⟩) run) ?_ fun _ _ e=>e)
   rintro ⟨⟨⟩,st'⟩ s' ⟨p,hsz,har,hf,rfl,rfl⟩
   dsimp only
   refine zB (seqEpoch_at ho6 rfl ?_)
   refine zB (listUpdate_at ho6 rfl ?_ (zi _) (by rw[Array.size_map,har,Array.size_map,hsz,sizeLine_eq];omega))
   rw[hf]
   simp only[bne_self_eq_false,zBf,if_false]
   refine zJ ?_
   have hout:=kat_snds (ks:=vs) (vs:=vs) rfl har
   have fin:=h p.toList (put_of hp hs)
   rw[<-hout] at fin
   exact fin
theorem sorted_list {l:Addr}{vs:List Value}{Q:vSP}{key:Nat->O.α}{κ:SortKind}(hl:s.heap.IsList l vs.toArray)(h64:vs.length<64)
 (ask:2<=vs.length->∀(s':Shared)(a:Addr),(∀b o,s.heap.get? b=some o->b≠a)->(∀b o,s.heap.get? b=some o->s'.heap.get? b=some o)->Asks prog w A.in1.in1 s' a vs key κ)
 (h:∀(D:Addr)(h':Heap)(out:List Nat)(c:Nat),Put key vs.length out->s.heap.objs.size<=D->(∀b o,s.heap.get? b=some o->h'.get? b=some o) ->
  h'.get? D=some (seqObj "list" (out.map fun i=>vs.getD i Value.none).toArray c)->Q (.ref D) { s with heap:=h' }) :
 wpAny (model prog w) A (call (.builtin "sorted") [.ref l]) Q E s:=by
 refine Calls.call_function_entry kind_sorted plain_sorted entry_sorted (args_sorted1 _) ?_
 unfold Builtin.«sorted»
 refine zB (m:=checkCount "sorted" 1 1 _) (zJ ?_)
 refine zB (collect_list hl ?_ (by rw[sizeLine_eq];omega))
 refine zB (wpAny_newList ?_ (by rw[sizeLine_eq];omega))
 have hsz:((s.heap.push (seqObj "list" #[] 0)).update s.heap.objs.size (Obj.mapSeq (· ++ vs.toArray))).objs.size=s.heap.objs.size+1:=by
  rw[Heap.size_update,size_push']
 have hoL:(((s.heap.push (seqObj "list" #[] 0)).update s.heap.objs.size (Obj.mapSeq (· ++ vs.toArray))).push (seqObj "list" vs.toArray 0)).get? (s.heap.objs.size+1)=some (seqObj "list" vs.toArray 0):=by
  rw[<-hsz];exact zW _ rfl
 have keep:∀b o,s.heap.get? b=some o->(((s.heap.push (seqObj "list" #[] 0)).update s.heap.objs.size (Obj.mapSeq (· ++ vs.toArray))).push (seqObj "list" vs.toArray 0)).get? b=some o:=fun b o q=>by
  have hlt:b<s.heap.objs.size:=zR q
  rw[Heap.get?_push_ne _ _ _ (by rw[hsz];exact zc (zAh hlt)),zB2 _ _ _ _ (zc hlt),Heap.get?_push_ne _ _ _ (zc hlt)]
  exact q
 show wpAny _ _ _ _ _ { s with heap:=((s.heap.push (seqObj "list" #[] 0)).update s.heap.objs.size (Obj.mapSeq (· ++ vs.toArray))).push (seqObj "list" vs.toArray 0) }
 rw[hsz]
 refine zB (zAg (zAw slot_list_sort ⟨_,hoL,rfl⟩ entry_list_sort (zEE (O:=O) (key:=key) (κ:=κ) hoL h64 (fun h2=>ask h2 _ _ (fun b o e=>zc (zAh (zR e))) keep) fun out hp=>⟨_,rfl,?_⟩) (args_list_sort _)))
 refine zJ ⟨_,rfl,?_⟩
 obtain⟨c,hc⟩:=sortedAll_at s.heap vs (out.map fun i=>vs.getD i Value.none).toArray
 exact h _ _ out c hp (zA6 _) (fun b o e=>sortedAll_old e) hc
end
end SortT
namespace DRaw
open PySem PySem.W PySem.Calls PyProof.Rows
noncomputable def At (h:Heap)(d:Addr)(es:Array DictEntry)(ep:Nat):Prop:=∃o,h.get? d=some o/\o.ExactDict/\o.data = .dict es ep
variable {d:Addr}{es:Array DictEntry}{ep:Nat}
theorem At.keep {h h':Heap}(x:At h d es ep)(k:∀o,h.get? d=some o->h'.get? d=some o):At h' d es ep:=
 let ⟨o,ho,r⟩:=x;⟨o,k o ho,r⟩
theorem At.lt {h:Heap}(x:At h d es ep):d<h.objs.size:=let ⟨_,ho,_⟩:=x;zR ho
theorem At.typeIs {s:Shared}(x:At s.heap d es ep):s.TypeIs (.ref d) "dict" := let ⟨o,ho,hc,_⟩:=x;⟨o,ho,hc.1⟩
variable {Q:Option Value->Shared->Prop}
section
variable {prog:Program}{w:World}{A:Around}{E:vSP}{s:Shared}{it d:Addr}{es:Array DictEntry}{i ep:Nat}
theorem iter {Q:vSP}(hd:(d==sysModules)=false)(hm:At s.heap d es ep)
 (hQ:Q (.ref s.heap.objs.size) { s with heap:=s.heap.push { cls:=.type "dict_keyiterator",data:=.fields #[.ref d,.int 0 0,.int es.size 0,.int ep 0] } }) :
 wpAny (model prog w) A (pyIter (.ref d)) Q E s:=by
 obtain⟨o,ho,hc,hdat⟩:=id hm
 have hT:=hm.typeIs
 refine wpAny_pyIter_slot hT F.slot_dict_iter (zAw F.slot_dict_iter hT F.entry_dict_iter ?_ (F.args_dict_iter_1 _))
 unfold Builtin.«dict.__iter__»
 refine zB ?_
 unfold Builtin.Dict.dictSlotNone
 refine zB (wpAny_notOrdered_dict hT ?_)
 show wpAny _ _ (pure (Value.ref d)) _ _ s
 refine zJ ?_
 show wpAny _ _ (Builtin.Dict.showsAll d >>= _) _ _ s
 unfold Builtin.Dict.showsAll
 rw[if_neg (by rw[hd];exact zo)]
 refine zB (zJ ?_)
 refine zB (wpAny_dictEntries ho hdat ?_)
 refine zB (wpAny_dictEpoch ho hdat ?_)
 refine zB (zAr (zJ ⟨_,rfl, "dict_keyiterator",_,⟨_,zW _ rfl,rfl⟩,F.slot_dict_keyiterator_next.lookup,?_⟩))
 simpa [rawInt] using hQ
theorem next (hit:s.heap.IsKeyIter it d i es.size ep)(hm:At s.heap d es ep)(hlt':i<es.size)
 (hQ:∀h',h'.IsKeyIter it d (i+1) es.size ep->Heap.SameBut it s.heap h'->Q (some es[i].key) { s with heap:=h' }):wpAny (model prog w) A (pyNext (.ref it)) Q E s:=by
 obtain⟨o,ho,hc,hd⟩:=id hit
 obtain⟨od,hod,hcd,hdd⟩:=id hm
 unfold pyNext
 refine zB (wpAny_attempt (zA4 (name:=Str.ofString "__next__") hit.typeIs F.slot_dict_keyiterator_next
  (zAw F.slot_dict_keyiterator_next hit.typeIs F.entry_dict_keyiterator_next ?_ (F.args_dict_keyiterator_next_1 _))))
 refine zB (zJ ?_)
 refine zB ?_
 refine zB ?_
 first | refine zB (zB3 hit.typeIs (zJ ?_)) | refine zB (wpAny_typeNameOf_keyiter hit.typeIs (zJ ?_))
 refine zB (wpAny_fieldsOf ho hd ?_)
 have hown:Builtin.Dict_items.ownsTuple "dict_keyiterator" = false:=by decide
 simp only[hown,zBf,if_false]
 show wpAny _ _ (if (Value.ref d==Value.none)=true then _ else _) _ _ s
 rw[if_neg (show ¬ ((Value.ref d==Value.none)=true) from zo)]
 refine zB (zJ ?_)
 refine zB (wpAny_dictEntries hod hdd ?_)
 rw[if_neg (by simp)]
 refine zB (zJ ?_)
 refine zB (wpAny_dictEpoch hod hdd ?_)
 rw[if_neg (by simp)]
 refine zJ ?_
 simp only[show ¬ ((i:Int)<0) from by omega,if_false,zAR,Array.getElem?_eq_getElem hlt']
 refine zB ?_
 first | refine zB (zB3 hit.typeIs (zJ ?_)) | refine zB (wpAny_typeNameOf_keyiter hit.typeIs (zJ ?_))
 refine zB (wpAny_isOneOf_keyiter hit.typeIs ?_)
 show wpAny _ _ (setField (.ref it) 1 (rawInt ((i:Int)+1)) >>= _) _ _ s
 refine zB (wpAny_setField ho hd (by simp) ?_)
 have hit':(s.heap.update it (Obj.mapFields (·.setIfInBounds 1 (rawInt ((i:Int)+1))))).IsKeyIter it d (i+1) es.size ep:=
  ⟨_,zBJ _ ho (Obj.isFreed_of_fields (Obj.data_mapFields hd _)),(Obj.cls_mapFields ..).trans hc,by rw[Obj.data_mapFields hd];simp[rawInt]⟩
 refine zB (zAg ?_)
 refine zB (wpAny_isOneOf_keyiter (s:={ s with heap:=s.heap.update it (Obj.mapFields (·.setIfInBounds 1 (rawInt ((i:Int)+1)))) }) hit'.typeIs ?_)
 show wpAny _ _ (pure es[i].key) _ _ _
 exact zJ (zJ ⟨_,rfl,zJ (hQ _ hit' (Heap.SameBut.update ..))⟩)
theorem stop (hh:A.handled=none)(hit:s.heap.IsKeyIter it d i es.size ep)(hm:At s.heap d es ep)(hge:es.size<=i)
 (hQ:∀h',Heap.ExtBut it s.heap h'->Q none { s with heap:=h' }):wpAny (model prog w) A (pyNext (.ref it)) Q E s:=by
 obtain⟨o,ho,hc,hd⟩:=id hit
 obtain⟨od,hod,hcd,hdd⟩:=id hm
 unfold pyNext
 refine zB (wpAny_attempt (zA4 (name:=Str.ofString "__next__") hit.typeIs F.slot_dict_keyiterator_next
  (zAw F.slot_dict_keyiterator_next hit.typeIs F.entry_dict_keyiterator_next ?_ (F.args_dict_keyiterator_next_1 _))))
 refine zB (zJ ?_)
 refine zB ?_
 refine zB ?_
 first | refine zB (zB3 hit.typeIs (zJ ?_)) | refine zB (wpAny_typeNameOf_keyiter hit.typeIs (zJ ?_))
 refine zB (wpAny_fieldsOf ho hd ?_)
 have hown:Builtin.Dict_items.ownsTuple "dict_keyiterator" = false:=by decide
 simp only[hown,zBf,if_false]
 show wpAny _ _ (if (Value.ref d==Value.none)=true then _ else _) _ _ s
 rw[if_neg (show ¬ ((Value.ref d==Value.none)=true) from zo)]
 refine zB (zJ ?_)
 refine zB (wpAny_dictEntries hod hdd ?_)
 rw[if_neg (by simp)]
 refine zB (zJ ?_)
 refine zB (wpAny_dictEpoch hod hdd ?_)
 rw[if_neg (by simp)]
 refine zJ ?_
 simp only[show ¬ ((i:Int)<0) from by omega,if_false,zAR,Array.getElem?_eq_none hge]
 refine zB ?_
 first | refine zB (zB3 hit.typeIs (zJ ?_)) | refine zB (wpAny_typeNameOf_keyiter hit.typeIs (zJ ?_))
 show wpAny _ _ (setField (.ref it) 0 .none >>= _) _ _ s
 refine zB (wpAny_setField ho hd (by simp) ?_)
 show wpAny _ _ (newExc (.type "StopIteration") [] >>= _) _ _ _
 refine zB ?_
 simp only[newExc,newTuple]
 refine zB (zAr ?_ (by size_fits))
 refine zB (m:=firstArgMember _ _) (wpAny_of_eq (a:=Value.none) (by first | rfl | (simp only[firstArgMember];rfl)) ?_)
 refine zAr ?_ (by size_fits)
 simp only[raiseNew]
 refine zB (wpAny_handled ?_)
 rw[show A.in1.handled=none from hh]
 refine zB (zJ (wpAny_throw ?_))
 refine zB (wpAny_isInstance (T := "StopIteration") (b:=true) ⟨_,zW _ rfl,rfl⟩ isSubtype_stop ?_)
 exact zJ (hQ _ (((Heap.SameBut.update ..).extBut.push _).push _))
end
section
variable {prog:Program}{w:World}{A:Around}{d:Addr}{es:Array DictEntry}{ep:Nat}
theorem walks (hh:A.handled=none)(I:Addr)(hne:d≠I):Walks prog w A I [I,d] [I] es.size (fun i v=>∃e,es[i]? = some e/\v=e.key) (fun i h=>h.IsKeyIter I d i es.size ep/\At h d es ep) where
 sub:=fun b hb=>by simp at hb;simp[hb]
 frame:=fun _ _ _ st hk=>⟨st.1.at fun o e=>hk I (by simp) o e,st.2.keep fun o e=>hk d (by simp) o e⟩
 item:=fun i s Q E hi st hQ=>next st.1 st.2 hi fun h' hit' hs'=>
  hQ _ h' s.toks ⟨es[i],by simp[hi],rfl⟩ ⟨hit',st.2.keep fun o e=>hs'.extBut d o hne e⟩ fun b o hb e=>hs'.extBut b o (fun h=>hb (by simp[h])) e
 done:=fun s Q E st hQ=>stop hh st.1 st.2 (zH _) fun h' he'=>hQ h' s.toks fun b o hb e=>he' b o (fun h=>hb (by simp[h])) e
 self:=fun _ _ _ _ st hQ=>wpAny_pyIter_keyiter st.1 hQ
theorem src (lo:(d==sysModules)=false):KdlSrc prog w "dict" d d es.size (fun i v=>∃e,es[i]? = some e/\v=e.key) (fun h=>At h d es ep) where
 type:=fun _ hm=>hm.typeIs
 there:=fun _ hm=>⟨hm.lt,hm.lt⟩
 keep:=fun _ _ hm hk=>hm.keep fun o e=>hk d (.inl rfl) o e
 notList:=by decide
 notTuple:=by decide
 hint:=fun _ _ _ _ hm hq=>kdl_hint_dict hm.typeIs hq
 iter:=fun _ _ hh hm=>⟨_,_,(fun _ _ hq=>iter lo hm hq),walks hh _ (zc hm.lt),⟨⟨_,zW _ rfl,rfl,rfl⟩,hm.keep fun o e=>zI _ e⟩⟩
end
end DRaw
namespace SortT
open PySem PySem.W PySem.Calls PyProof.Rows
theorem sorted_dict {prog:Program}{w:World}{A:Around}{E:vSP}{s:Shared}{d:Addr}{es:Array DictEntry}{ep:Nat}{vs:List Value}{Q:vSP}{O:KeyOrd}{key:Nat->O.α}{κ:SortKind}
 (hh:A.handled=none)(lo:(d==sysModules)=false)(hm:DRaw.At s.heap d es ep)(hvs:vs=es.toList.map (·.key))(h64:vs.length<64)
 (ask:2<=vs.length->∀(s':Shared)(a:Addr),(∀b o,s.heap.get? b=some o->b≠a)->(∀b o,s.heap.get? b=some o->s'.heap.get? b=some o)->Asks prog w A.in1.in1 s' a vs key κ)
 (h:∀(h1:Heap)(D:Addr)(h':Heap)(t':Nat)(out:List Nat)(c:Nat),Put key vs.length out->(∀b o,s.heap.get? b=some o->h1.get? b=some o)->h1.objs.size<=D->(∀b o,h1.get? b=some o->h'.get? b=some o) ->
  h'.get? D=some (seqObj "list" (out.map fun i=>vs.getD i Value.none).toArray c)->Q (.ref D) { s with heap:=h',toks:=t' }) :
 wpAny (model prog w) A (call (.builtin "sorted") [.ref d]) Q E s:=by
 have hlen:vs.length=es.size:=by rw[hvs];simp
 refine call_function_entry kind_sorted plain_sorted entry_sorted (args_sorted1 _) ?_
 unfold Builtin.«sorted»
 refine zB (m:=checkCount "sorted" 1 1 _) (zJ ?_)
 refine zB (kdu_collect (A:=A.in1) (DRaw.src (es:=es) (ep:=ep) lo) hh hm (by rw[sizeLine_eq];omega) fun h1 tk acc hk hacc=>?_)
 have el:acc.toList=vs:=by
  apply List.ext_getElem?
  intro j
  by_cases hj:j<es.size
  . have hz:j<acc.size:=by rw[hacc.1];exact hj
    obtain⟨e,he,hv⟩:=hacc.2 j acc[j] (by simp[hz])
    rw[Array.getElem?_toList,Array.getElem?_eq_getElem hz,hv,hvs,zN,Array.getElem?_toList,he]
    rfl
  . rw[zA3 (by rw[Array.length_toList,hacc.1];omega),zA3 (by omega)]
 rw[el]
 refine zB (wpAny_newList ?_ (by rw[sizeLine_eq];omega))
 have hoL:(h1.push (seqObj "list" vs.toArray 0)).get? h1.objs.size=some (seqObj "list" vs.toArray 0):=zW _ rfl
 have keep1:∀b o,h1.get? b=some o->(h1.push (seqObj "list" vs.toArray 0)).get? b=some o:=fun b o q=>zI _ q
 refine zB (zAg (zAw slot_list_sort ⟨_,hoL,rfl⟩ entry_list_sort (zEE (O:=O) (key:=key) (κ:=κ) hoL h64
  (fun h2=>ask h2 _ _ (fun b o e=>zc (zR (hk b o e))) fun b o e=>keep1 b o (hk b o e)) fun out hp=>⟨_,rfl,?_⟩) (args_list_sort _)))
 refine zJ ⟨_,rfl,?_⟩
 obtain⟨c,hc⟩:=sortedHeap_at (vs:=vs) (out:=(out.map fun i=>vs.getD i Value.none).toArray) hoL
 refine h h1 _ _ _ out c hp hk (zH _) (fun b o e=>?_) hc
 have hb:b<h1.objs.size:=zR e
 rw[sortedHeap_old (zc hb) (by rw[zAi];exact zAh hb)]
 exact keep1 b o e
end SortT
namespace L2
open PySem PySem.Spec PyProof.Rows
theorem zEx:∀a:List Int,HT.lexLt a a=false
 | []=>rfl
 | x::r=>by rw[HT.lexLt_cons,if_pos rfl];exact zEx r
theorem zEF:∀a b c:List Int,HT.lexLt a b=true->HT.lexLt b c=true->HT.lexLt a c=true
 | [],[],_,h,_=>by cases h
 | [],_::_,[],_,h=>by cases h
 | [],_::_,_::_,_,_=>rfl
 | _::_,[],_,h,_=>by cases h
 | _::_,_::_,[],_,h=>by cases h
 | x::a,y::b,z::c,h1,h2=>by
  rw[HT.lexLt_cons] at h1 h2 ⊢
  by_cases e1:x=y
  . subst e1
    rw[if_pos rfl] at h1
    by_cases e2:x=z
    . subst e2
      rw[if_pos rfl] at h2 ⊢
      exact zEF a b c h1 h2
    . rw[if_neg e2] at h2 ⊢;exact h2
  . rw[if_neg e1] at h1
    have l1:x<y:=of_decide_eq_true h1
    by_cases e2:y=z
    . subst e2;rw[if_neg e1];exact h1
    . rw[if_neg e2] at h2
      have l2:y<z:=of_decide_eq_true h2
      rw[if_neg (by omega)]
      exact zP (by omega)
theorem zEG:∀a b:List Int,HT.lexLt a b=false->HT.lexLt b a=false->a=b
 | [],[],_,_=>rfl
 | [],_::_,h,_=>by cases h
 | _::_,[],_,h=>by cases h
 | x::a,y::b,h1,h2=>by
  rw[HT.lexLt_cons] at h1 h2
  by_cases e:x=y
  . subst e
    rw[if_pos rfl] at h1 h2
    rw[zEG a b h1 h2]
  . rw[if_neg e] at h1
    rw[if_neg (Ne.symm e)] at h2
    have l1:=of_decide_eq_false h1
    have l2:=of_decide_eq_false h2
    omega
theorem zM5 (a b c:List Int)(h:HT.lexLt a c=true):HT.lexLt a b=true\/HT.lexLt b c=true:=by
 cases h1:HT.lexLt a b with
 | true=>exact .inl rfl
 | false=>
  cases h2:HT.lexLt b a with
  | true=>exact .inr (zEF b a c h2 h)
  | false=>rw[<-zEG a b h1 h2];exact .inr h
noncomputable def zKz:KeyOrd:=⟨List Int,HT.lexLt,zEx,zEF,zM5,zEG⟩
noncomputable def zJ9 (ms:List (List Int)):Prop:=ms.Pairwise fun a b=>HT.lexLt b a=false
noncomputable def zAZ (H:Hp):List V->List (List Int)->Prop
 | [],[]=>True
 | x::xs,k::ks=>(∃a,x = .ref a/\H a=some (.tup (k.map V.int))/\k≠[])/\zAZ H xs ks
 | _,_=>False
theorem zAZ.length {H:Hp}:∀{xs:List V}{ks:List (List Int)},zAZ H xs ks->xs.length=ks.length
 | [],[],_=>rfl
 | [],_::_,h=>h.elim
 | _::_,[],h=>h.elim
 | _::_,_::_,h=>by rw[zT,zT,zAZ.length h.2]
theorem zAZ.get {H:Hp}:∀{xs:List V}{ks:List (List Int)}{i:Nat}{x:V},zAZ H xs ks->xs[i]? = some x->∃a k,x = .ref a/\ks[i]? = some k/\H a=some (.tup (k.map V.int))/\k≠[]
 | [],_,_,_,_,h=>by simp at h
 | _::_,[],_,_,h,_=>h.elim
 | y::_,k::_,0,x,h,e=>by
  obtain⟨⟨a,h1,h2,h3⟩,_⟩:=h
  have e':y=x:=by simpa using e
  subst e'
  exact⟨a,k,h1,rfl,h2,h3⟩
 | _::_,_::_,i+1,x,h,e=>by
  obtain⟨a,k,h1,h2,h3⟩:=zAZ.get (i:=i) h.2 (by simpa using e)
  exact⟨a,k,h1,by simpa using h2,h3⟩
theorem zAZ.mk {H:Hp}:∀{xs:List V}{ks:List (List Int)},xs.length=ks.length->(∀(i:Nat)(x:V)(k:List Int),xs[i]? = some x->ks[i]? = some k->∃a,x=V.ref a/\H a=some (.tup (k.map V.int))/\k≠[])->zAZ H xs ks
 | [],[],_,_=>trivial
 | [],_::_,e,_=>by simp at e
 | _::_,[],e,_=>by simp at e
 | x::xs,k::ks,e,h=>⟨h 0 x k rfl rfl,zAZ.mk (by simpa using e) fun i x' k' h1 h2=>h (i+1) x' k' (by simpa using h1) (by simpa using h2)⟩
variable {H:Hp}{ks:List (List Int)}
theorem zAZ.keep {H':Hp}{xs:List V}(h:zAZ H xs ks)(k:∀b ys,H b=some (.tup ys)->H' b=some (.tup ys)):zAZ H' xs ks:=
 zAZ.mk h.length fun i x c h1 h2=>by
  obtain⟨a,c',e1,e2,e3,e4⟩:=h.get h1
  rw[h2] at e2
  cases e2
  exact⟨a,e1,k a _ e3,e4⟩
theorem zAZ.snoc {H:Hp}:∀{xs:List V}{ks:List (List Int)}{x:V}{k:List Int},zAZ H xs ks->(∃a,x = .ref a/\H a=some (.tup (k.map V.int))/\k≠[])->zAZ H (xs++[x]) (ks++[k])
 | [],[],_,_,_,h=>⟨h,trivial⟩
 | [],_::_,_,_,t,_=>t.elim
 | _::_,[],_,_,t,_=>t.elim
 | _::_,_::_,_,_,t,h=>⟨t.1,zAZ.snoc t.2 h⟩
section
variable {prog:Program}{w:World}{A:Around}{s:Shared}
theorem zEJ {fin:Bool}{Q:Bool->Shared->Prop}:∀(ns ms:List Int)(us ws:List Value)(i:Nat),IntsAre us ns->IntsAre ws ms->fin=decide (ns.length<ms.length)->Q (HT.lexLt ns ms) s ->
 PySem.W.KatLex prog w A true fin Q (us.zip ws) i s
 | [],[],_,_,_,.nil,.nil,e,q=>by subst e;exact q
 | [],_::_,_,_,_,.nil,.cons _ _ _,e,q=>by subst e;exact q
 | _::_,[],_,_,_,.cons _ _ _,.nil,e,q=>by subst e;exact q
 | n::ns,m::ms,_,_,i,.cons _ t hu,.cons _ u hw,e,q=>by
  rw[HT.lexLt_cons] at q
  refine PySem.W.kat_cons (wpAny_eqBool_int ?_)
  by_cases h:n=m
  . rw[if_pos h] at q
    rw[show (n==m)=true by simpa using h]
    exact PySem.W.kat_yes (zEJ ns ms _ _ (i+1) hu hw (by rw[e];simp) q)
  . rw[if_neg h] at q
    rw[show (n==m)=false by simpa using h]
    refine PySem.W.kat_no ?_
    cases i with
    | zero=>exact oneLt_int q
    | succ j=>exact PySem.W.kat_one _ _ (PyProof.Rows.lt_int q)
theorem zGX {X:Cx}{pins:lPO}{σ:St}{s s':Shared}{a:Addr}{ys:List V}{vs:List Value}{A:Around}(I:Inv X pins σ H s)(T:zAZ H ys ks)(r:zBO ys vs)(hne:0<vs.length)
 (fa:∀b o,s.heap.get? b=some o->b≠a)(kp:∀b o,s.heap.get? b=some o->s'.heap.get? b=some o):SortT.Asks X.prog X.w A s' a vs (O:=zKz) (fun i=>ks.getD i []) (tuples' true):=by
 have hl:=T.length
 have hv:=r.length
 have at_:∀(h':Heap),(∀b o,b≠a->s'.heap.get? b=some o->h'.get? b=some o)->∀i,i<vs.length->∃(p:Addr)(k:List Int)(us:List Value)(o:Obj)(n:Nat),vs[i]? = some (Value.ref p)/\ks[i]? = some k/\k≠[]/\IntsAre us k/\h'.get? p=some o/\o.cls = .type "tuple" /\ o.data = .seq us.toArray n:=fun h' kh i hi=>by
  have hy:i<ys.length:=by omega
  obtain⟨p,k,e1,e2,e3,e4⟩:=T.get (i:=i) (x:=ys[i]) (by simp[hy])
  obtain⟨u,hu,ru⟩:=r.get (i:=i) (x:=ys[i]) (by simp[hy])
  rw[e1] at ru
  cases (show u=Value.ref p from ru)
  obtain⟨_,its,rv,o,ho,hc,n,hd⟩:=I.hok p _ e3
  exact⟨p,k,its,o,n,hu,e2,e4,zBS rv,kh p o (fa p o ho) (kp p o ho),hc,hd⟩
 refine⟨fun h' Q E kh q=>?_,fun h' i j Q E kh hi hj q=>?_⟩
 . -- all keys are tuples whose first items are ints
   have tups:∀(m:Nat),m<=vs.length->∃fs:List Value,PySem.W.KatTups h' (vs.drop (vs.length-m)) fs/\fs.length=m/\∀f∈fs,∃x t,f=Value.int x t:=by
    intro m
    induction m with
    | zero=>intro _;exact⟨[],by rw[Nat.sub_zero,List.drop_length];exact trivial,rfl,fun f hf=>by simp at hf⟩
    | succ m ih=>
     intro hm
     obtain⟨fs,t,e,hf⟩:=ih (by omega)
     obtain⟨p,k,us,o,n,hu,hk,hk0,hI,ho,hc,hd⟩:=at_ h' kh (vs.length-(m+1)) (by omega)
     have ed:vs.drop (vs.length-(m+1))=Value.ref p::vs.drop (vs.length-m):=by
      have hlt:vs.length-(m+1)<vs.length:=by omega
      rw[List.drop_eq_getElem_cons hlt,show vs.length-(m+1)+1=vs.length-m by omega]
      have:vs[vs.length-(m+1)]=Value.ref p:=by
       rw[zA hlt] at hu
       exact zU hu
      rw[this]
     cases hI with
     | nil=>exact absurd rfl hk0
     | cons x tx hI'=>
      refine⟨Value.int x tx::fs,by rw[ed];exact PySem.W.KatTups.cons ho hc hd rfl t,by rw[zT,e],fun f hf'=>?_⟩
      rcases zY.mp hf' with rfl | hf'
      . exact⟨x,tx,rfl⟩
      . exact hf f hf'
   obtain⟨fs,t,e,hf⟩:=tups vs.length (zH _)
   rw[Nat.sub_self,List.drop_zero] at t
   refine PySem.W.kat_kind (T:=Value.type "int") t (by omega) (fun v hv=>?_) (by rfl) q
   obtain⟨x,tx,rfl⟩:=hf v hv
   exact PySem.W.Looks.of_pure rfl
 . obtain⟨p,k,us,o,n,hu,hk,_,hI,ho,hc,hd⟩:=at_ h' kh i hi
   obtain⟨p2,k2,us2,o2,n2,hu2,hk2,_,hI2,ho2,hc2,hd2⟩:=at_ h' kh j hj
   have e1:vs.getD i Value.none = .ref p:=by rw[zC,hu];rfl
   have e2:vs.getD j Value.none = .ref p2:=by rw[zC,hu2];rfl
   have g1:ks.getD i []=k:=by rw[zC,hk];rfl
   have g2:ks.getD j []=k2:=by rw[zC,hk2];rfl
   rw[e1,e2]
   refine PySem.W.kat_lt (s:={ s' with heap:=h' }) ho hd ho2 hd2 ?_
   have q':Q (HT.lexLt k k2) { s' with heap:=h' }:=by
    have:zKz.blt (ks.getD i []) (ks.getD j [])=HT.lexLt k k2:=by rw[g1,g2];rfl
    rw[<-this];exact q
   have l1:=hI.length
   have l2:=hI2.length
   exact zEJ k k2 us us2 0 hI hI2 (by simp only[zQ];rw[l1,l2]) q'
theorem zHM {ys:List V}{vs:List Value}{out:List Nat}(T:zAZ H ys ks)(r:zBO ys vs)(p:SortT.Put (O:=zKz) (fun i=>ks.getD i []) vs.length out) :
 ∃zs ms,zAZ H zs ms/\ms.Perm ks/\zJ9 ms/\zBO zs (out.map fun i=>vs.getD i Value.none)/\zs.length=ys.length:=by
 have hl:=T.length
 have hv:=r.length
 have hb:∀i∈out,i<vs.length:=fun i hi=>zAW.mp (p.perm.mem_iff.mp hi)
 refine⟨out.map fun i=>ys.getD i .non,out.map fun i=>ks.getD i [],zAZ.mk (by rw[zD,zD]) fun j x k hx hk=>?_,?_,?_,?_,?_⟩
 . rw[zN] at hx hk
   cases e:out[j]? with
   | none=>rw[e] at hx;cases hx
   | some i=>
    rw[e] at hx hk
    have hi:=hb i (za e)
    have hy:i<ys.length:=by omega
    obtain⟨a,c,e1,e2,e3,e4⟩:=T.get (i:=i) (x:=ys[i]) (by simp[hy])
    have ex:ys.getD i .non=x:=zU hx
    have ek:ks.getD i []=k:=zU hk
    rw[zC,zA hy] at ex
    rw[zC,e2] at ek
    have ex':ys[i]=x:=ex
    have ek':c=k:=ek
    subst ek'
    exact⟨a,by rw[<-ex'];exact e1,e3,e4⟩
 . have h1:=p.perm.map fun i=>ks.getD i []
   have h2:(List.range vs.length).map (fun i=>ks.getD i [])=ks:=by
    rw[show vs.length=ks.length by omega]
    apply List.ext_getElem?
    intro j
    rw[zN]
    by_cases hj:j<ks.length
    . rw[zB1 hj,zA hj];simp[hj]
    . rw[zA3 (by rw[zAB];omega),zA3 (by omega)];rfl
   rw[h2] at h1
   exact h1
 . refine zAV.mpr fun i j hi hj hij=>?_
   rw[zD] at hi hj
   have:=p.rise i j out[i] out[j] (zBw hij) (by simp) (by simp)
   have h3:HT.lexLt (ks.getD out[j] []) (ks.getD out[i] [])=false:=this
   simpa using h3
 . have:∀l:List Nat,(∀i∈l,i<vs.length)->zBO (l.map fun i=>ys.getD i .non) (l.map fun i=>vs.getD i Value.none):=by
    intro l
    induction l with
    | nil=>intro _;exact .nil
    | cons i l ih=>
     intro h
     have hi:=h i zh
     have hy:i<ys.length:=by omega
     obtain⟨u,hu,ru⟩:=r.get (i:=i) (x:=ys[i]) (by simp[hy])
     refine .cons ?_ (ih fun j hj=>h j (zX _ hj))
     show zBk (ys.getD i V.non) (vs.getD i Value.none)
     rw[zC,zA hy,zC,hu]
     exact ru
   exact this out hb
 . rw[zD,p.perm.length_eq,zAB];omega
theorem zC4 {X:Cx}{pins:lPO}{σ:St}{s:Shared}{h':Heap}{D:Addr}{c t':Nat}{zs:List V}{us:List Value}(I:Inv X pins σ H s)(hD:s.heap.objs.size<=D)(kp:∀b o,s.heap.get? b=some o->h'.get? b=some o)
 (ho:h'.get? D=some (seqObj "list" us.toArray c)) (r:zBO zs us)(hz:zs.length<=sizeLine):Inv X pins σ (upd H D (.lst zs)) { s with heap:=h',toks:=t' }:=
 I.laid kp hD (show zBP X.prog X.w _ _ _ (.lst zs) from ⟨hz,us,c,r,ho⟩)
end
section
variable {X:Cx}
theorem zG1:zCS X (.builtin "sorted") (fun xs H Q=>∃p ys ks,xs=[.ref p]/\SqL X.K H p ys/\zAZ H ys ks/\ks.length<64 /\
 ∀l zs ms,H l=none->zAZ H zs ms->ms.Perm ks->zJ9 ms->Q (.ref l) (upd H l (.lst zs))):=by
 intro pins s σ H xs us Q I r h
 obtain⟨p,ys,ks,rfl,hq,T,h64,q⟩:=h
 obtain⟨u,rfl,rx⟩:=zCq r
 cases rx
 obtain⟨its,r',pl,hz⟩:=I.list hq
 have hl:=T.length
 have hv:=r'.length
 refine SortT.sorted_list (O:=zKz) (key:=fun i=>ks.getD i []) (κ:=tuples' true) pl.isList (by omega) (fun h2 s' a fa kp=>zGX I T r' (by omega) fa kp) fun D h' out c pt hD kp ho=>?_
 obtain⟨zs,ms,T2,hp,hr,rz,hlz⟩:=zHM T r' pt
 exact⟨.ref D,_,zC4 (t':=s.toks) I hD kp ho rz (by omega),rfl,q D zs ms (I.hok.fresh hD) T2 hp hr⟩
theorem zGP (hc:X.calm=true):zCS X (.builtin "sorted") (fun xs H Q=>∃p kvs ks,xs=[.ref p]/\H p=some (.dT kvs)/\kvs.map (·.1)=ks.map (List.map Sum.inl)/\(∀k∈ks,k≠[])/\ks.length<64 /\
 ∀l zs ms,H l=none->zAZ H zs ms->ms.Perm ks->zJ9 ms->Q (.ref l) (upd H l (.lst zs))):=by
 intro pins s σ H xs us Q I r h
 obtain⟨p,kvs,ks,rfl,hd,hks,hk0,h64,q⟩:=h
 obtain⟨u,rfl,rx⟩:=zCq r
 cases rx
 obtain⟨hz,lo,xs,rel,o,es,ep,ho,hx,hdat,hes,hnd⟩:=I.hok p _ hd
 have key:∀(kvs:List (List Key×V))(xs:List (List Key×Addr×Value))(ks:List (List Int)),KT H kvs xs->kvs.map (·.1)=ks.map (List.map Sum.inl)->(∀k∈ks,k≠[]) ->
  zAZ H (xs.map fun q=>V.ref q.2.1) ks/\zBO (xs.map fun q=>V.ref q.2.1) ((xs.map (entryOfKey (tupleKind (zA9 X.prog X.w)))).map (·.key)):=by
  intro kvs xs ks rel
  induction rel generalizing ks with
  | nil=>
   intro e _
   cases ks with
   | nil=>exact⟨trivial,.nil⟩
   | cons k ks=>simp at e
  | cons hpq _ ih=>
   intro e h0
   cases ks with
   | nil=>simp at e
   | cons k ks=>
    simp only[zAA,List.cons.injEq] at e
    obtain⟨T,V⟩:=ih ks e.2 fun c hc=>h0 c (zX _ hc)
    obtain⟨e1,e2,_⟩:=hpq
    refine⟨⟨⟨_,rfl,?_,h0 k zh⟩,T⟩,.cons rfl V⟩
    rw[e2,e.1,List.map_map]
    rfl
 obtain⟨T,rv⟩:=key kvs xs ks rel hks hk0
 have hl:=T.length
 have hv:=rv.length
 have evs:(xs.map (entryOfKey (tupleKind (zA9 X.prog X.w)))).map (·.key)=es.toList.map (·.key):=by rw[hes]
 refine SortT.sorted_dict (O:=zKz) (key:=fun i=>ks.getD i []) (κ:=tuples' true) (vs:=(xs.map (entryOfKey (tupleKind (zA9 X.prog X.w)))).map (·.key)) (I.ok.hd hc) lo ⟨o,ho,hx,hdat⟩ evs (by omega) (fun h2 s' a fa kp=>zGX I T rv (by omega) fa kp) fun h1 D h' t' out c pt k1 hD k2 ho=>?_
 obtain⟨zs,ms,T2,hp,hr,rz,hlz⟩:=zHM T rv pt
 have I1:Inv X pins σ H { s with heap:=h1,toks:=s.toks }:=I.kept k1
 refine⟨.ref D,_,zC4 (s:={ s with heap:=h1,toks:=s.toks }) (t':=t') I1 hD k2 ho rz ?_,rfl,q D zs ms (I1.hok.fresh hD) T2 hp hr⟩
 have:sizeLine=16777216:=rfl
 omega
end
mutual
inductive zBA (H:Hp):V->PyData->Prop
 | non:zBA H .non .none
 | bl (b:Bool):zBA H (.bl b) (.bool b)
 | int (i:Int):zBA H (.int i) (.int i)
 | str (x:Str):zBA H (.str x) (.str x)
 | tup {a:Addr}{xs:List V}{ds:List PyData}:H a=some (.tup xs)->zA1 H xs ds->zBA H (.ref a) (.tuple ds)
 | lst {a:Addr}{xs:List V}{ds:List PyData}:H a=some (.lst xs)->zA1 H xs ds->zBA H (.ref a) (.list ds)
inductive zA1 (H:Hp):List V->List PyData->Prop
 | nil:zA1 H [] []
 | cons {x:V}{xs:List V}{d:PyData}{ds:List PyData}:zBA H x d->zA1 H xs ds->zA1 H (x::xs) (d::ds)
end
section
variable {P:Program}{w:World}{H:Hp}{h:Heap}
mutual
theorem zBA.reads (ok:HOk P w H h):∀{x:V}{d:PyData},zBA H x d->∀{u:Value},zBk x u->∃as,Reads h u d as
 | _,_,.non,u,r=>by cases (show u=Value.none from r);exact⟨_,.none⟩
 | _,_,.bl b,u,r=>by cases (show u=Value.bool b from r);exact⟨_,.bool b⟩
 | _,_,.int i,u,r=>by obtain⟨t,rfl⟩:=r;exact⟨_,.int i t⟩
 | _,_,.str x,u,r=>by obtain⟨t,rfl⟩:=r;exact⟨_,.str x t⟩
 | _,_,.tup (a:=a) e s,u,r=>by
  cases (show u=Value.ref a from r)
  obtain⟨_,its,rv,o,ho,hc,n,hd⟩:=ok a _ e
  obtain⟨as,ra⟩:=zA1.reads ok s rv
  exact⟨_,.tuple ho hc hd (by simpa using ra)⟩
 | _,_,.lst (a:=a) e s,u,r=>by
  cases (show u=Value.ref a from r)
  obtain⟨_,its,n,rv,ho⟩:=ok a _ e
  obtain⟨as,ra⟩:=zA1.reads ok s rv
  exact⟨_,.list ho rfl rfl (by simpa using ra)⟩
theorem zA1.reads (ok:HOk P w H h):∀{xs:List V}{ds:List PyData},zA1 H xs ds->∀{us:List Value},zBO xs us->∃as,ReadsAll h us ds as
 | _,_,.nil,us,r=>by cases r;exact⟨_,.nil⟩
 | _,_,.cons s t,us,r=>by
  cases r with
  | cons r1 r2=>
   obtain⟨a1,h1⟩:=zBA.reads ok s r1
   obtain⟨a2,h2⟩:=zA1.reads ok t r2
   exact⟨_,.cons h1 h2⟩
end
end
structure Fn (n p:Nat)(d:PyData):Prop where
 wt:d.weight<=n
 dp:d.depth<=p
 cl:d.canLay0=true
 sh:d.intsShort 13=true
 sw:d.showable=true
theorem Fn.mono {n p n' p':Nat}{d:PyData}(h:Fn n p d)(hn:n<=n')(hp:p<=p'):Fn n' p' d:=⟨zx h.wt hn,zx h.dp hp,h.cl,h.sh,h.sw⟩
theorem zER:Fn 0 0 .none:=⟨zH _,zH _,rfl,rfl,rfl⟩
theorem zGw (b:Bool):Fn 0 0 (.bool b):=⟨zH _,zH _,rfl,rfl,rfl⟩
theorem zH5 {i:Int}(h:i.natAbs<1000000000):i.natAbs.log2<30:=by
 by_cases h0:i.natAbs=0
 . rw[h0];decide
 . exact (Nat.log2_lt h0).mpr (by omega)
theorem zE1 {i:Int}(h:i.natAbs<1000000000):Fn 30 0 (.int i):=by
 have hl:=zH5 h
 refine⟨?_,zH _,rfl,?_,?_⟩
 . simp only[PyData.weight]
   split <;> omega
 . simp only[PyData.intsShort,PyData.shown]
   refine zP ?_
   have e:=int_text_length_le10 (a:=i) (k:=9) (by decide) (by simpa using h)
   have e2:(Str.ofString (toString i)).length=(toString i).length:=by
    rw[Str.ofString_eq_toList]
    show ((toString i).toList.map Char.toNat).toArray.size=_
    rw[zQ,zD,String.length_toList]
   show (Str.ofString (toString i)).length<=13
   omega
 . simp only[PyData.showable]
   exact zP (by omega)
theorem zJi {n p:Nat}:∀{ds:List PyData},(∀d∈ds,Fn n p d)->PyData.weightAll ds<=ds.length*(n+1)/\PyData.depthAll ds<=p/\PyData.canLayAll0 ds=true/\PyData.intsShortAll 13 ds=true/\PyData.showableAll ds=true
 | [],_=>⟨by simp[PyData.weightAll],by simp[PyData.depthAll],by simp[PyData.canLayAll0],by simp[PyData.intsShortAll],by simp[PyData.showableAll]⟩
 | d::ds,h=>by
  obtain⟨a,b,c,e,f⟩:=zJi (ds:=ds) fun x hx=>h x (zX _ hx)
  have g:=h d zh
  refine⟨?_,?_,?_,?_,?_⟩
  . simp only[PyData.weightAll,zT]
    have:=g.wt
    rw[Nat.add_mul]
    omega
  . simp only[PyData.depthAll]
    have:=g.dp
    omega
  . simp only[PyData.canLayAll0,g.cl,c,Bool.and_self]
  . simp only[PyData.intsShortAll,g.sh,e,Bool.and_self]
  . simp only[PyData.showableAll,g.sw,f,Bool.and_self]
theorem zEQ {n p L:Nat}{ds:List PyData}(h:∀d∈ds,Fn n p d)(hl:ds.length<=L):Fn (L*(n+1)) (p+1) (.tuple ds):=by
 obtain⟨a,b,c,e,f⟩:=zJi h
 refine⟨?_,?_,?_,?_,?_⟩
 . simp only[PyData.weight]
   exact zx a (Nat.mul_le_mul_right _ hl)
 . simp only[PyData.depth];omega
 . simp only[PyData.canLay0];exact c
 . simp only[PyData.intsShort];exact e
 . simp only[PyData.showable];exact f
theorem Fn.len {n p:Nat}{d:PyData}(h:Fn n p d)(hn:n<=1048576)(hp:p<=60):d.shown.length<=sizeLine/\d.hasDict=false:=by
 have hl:PyData.layable0 d=true:=by
  show (PyData.canLay0 d && decide (PyData.depth d<=64) && decide (PyData.weight d<=2 ^ 20))=true
  rw[h.cl,zP (show PyData.depth d<=64 by have:=h.dp;omega),zP (show PyData.weight d<=2 ^ 20 by have:=h.wt;omega)]
  rfl
 have e:=shown_le13 hl h.sh
 have:sizeLine=16777216:=rfl
 exact⟨by omega,PyData.hasDict_of_layable hl⟩
section
variable {X:Cx}
theorem zDX {k:Nat}(hr:zC2 k X.A):zCS X (.builtin "repr") (fun xs H Q=>∃x d,xs=[x]/\zBA H x d/\Fn 1048576 50 d/\Q (.str d.shown) H):=by
 intro pins s σ H xs us Q I r h
 obtain⟨x,d,rfl,sh,f,q⟩:=h
 obtain⟨u,rfl,rx⟩:=zCq r
 obtain⟨hz,hnd⟩:=f.len (zH _) (by decide)
 have hu:=hr.units
 cases sh with
 | non=>
  cases (show u=Value.none from rx)
  exact PySem.P.repr_of_none ⟨.str _,H,I.tok _,⟨_,rfl⟩,by simpa only [PyData.shown] using q⟩
 | bl b=>
  cases (show u=Value.bool b from rx)
  exact PySem.P.repr_of_bool ⟨.str _,H,I.tok _,⟨_,rfl⟩,by simpa only [PyData.shown] using q⟩
 | int i=>
  obtain⟨t,rfl⟩:=rx
  exact PySem.P.repr_of_int (by have:=f.sw;simpa only [PyData.showable,decide_eq_true_eq] using this) ⟨.str _,H,I.tok _,⟨_,rfl⟩,by simpa only [PyData.shown] using q⟩
 | str z=>
  obtain⟨t,rfl⟩:=rx
  exact PySem.P.repr_of_str ⟨.str _,H,I.tok _,⟨_,rfl⟩,by simpa only [PyData.shown] using q⟩ (by simpa only [PyData.shown] using hz)
 | tup e al=>
  cases (show u=Value.ref _ from rx)
  obtain⟨as,rd⟩:=zBA.reads I.hok (.tup e al) (u:=.ref _) rfl
  exact repr_of_reads' rd f.sw (PyData.noDict_hsm hnd) hr.gd (by have:=f.dp;omega) (fun _ _ e=>e) (fun h' u tk hk=>⟨.str _,H,I.kept hk,⟨u,rfl⟩,q⟩) hz
 | lst e al=>
  cases (show u=Value.ref _ from rx)
  obtain⟨as,rd⟩:=zBA.reads I.hok (.lst e al) (u:=.ref _) rfl
  exact repr_of_reads' rd f.sw (PyData.noDict_hsm hnd) hr.gd (by have:=f.dp;omega) (fun _ _ e=>e) (fun h' u tk hk=>⟨.str _,H,I.kept hk,⟨u,rfl⟩,q⟩) hz
end
end L2
namespace L2
open PySem PySem.Spec PyProof.Rows
section
variable {X:Cx}{es xs:List Expr}{t t1:TA}
theorem zC9 {i j pos} (hr:PA X es t):PA X (.Constant (.int i) j pos::es) (zL7 (tC (.int i)) t):=zE ze hr (by rfl)
theorem pa_lst {pos} (h:PA X xs t1)(hr:PA X es t):PA X (.List xs pos::es) (zL7 (tLst t1) t):=zE (zBy h) hr (by rfl)
end
inductive zDe:List Expr->List Int->Prop where
 | nil:zDe [] []
 | cons {i:Int}{j:Nat}{pos:Pos}{es:List Expr}{ns:List Int}:zDe es ns->zDe (.Constant (.int i) j pos::es) (i::ns)
theorem zI0 {X:Cx}{es:List Expr}{ns:List Int}(h:zDe es ns):PA X es (fun _ H Q=>Q (ns.map V.int) H):=by
 induction h with
 | nil=>exact zM
 | cons _ ih=>
  intro pos pins s σ H Q I q
  exact (zC9 ih) pos pins s σ H Q I q
inductive zDY:List Expr->List (List Int)->Prop where
 | nil:zDY [] []
 | cons {xs:List Expr}{ns:List Int}{pos:Pos}{es:List Expr}{nss:List (List Int)}:zDe xs ns->ns.length<=sizeLine->zDY es nss->zDY (.List xs pos::es) (ns::nss)
noncomputable def zLV:List (List Int)->TA
 | []=>tNil
 | ns::r=>fun σ H Q=>∀p,H p=none->zLV r σ (upd H p (.lst (ns.map V.int))) fun xs H2=>Q (.ref p::xs) H2
theorem zKq {X:Cx}{es:List Expr}{nss:List (List Int)}(h:zDY es nss):PA X es (zLV nss):=by
 induction h with
 | nil=>exact zM
 | cons hx hl _ ih=>
  intro pos pins s σ H Q I q
  exact (pa_lst (zI0 hx) ih) pos pins s σ H Q I ⟨by rw[zD];exact hl,fun p hp=>q p hp⟩
end L2
namespace WM
theorem zHR {α:Type} [DecidableEq α]:∀{l₁ l₂:List α},l₁.Nodup->(∀x∈l₁,x∈l₂)->l₁.length<=l₂.length
 | [],_,_,_=>zi _
 | x::r,l₂,h,s=>by
  obtain⟨h1,h2⟩:=zAO.mp h
  have hx:x∈l₂:=s x zh
  have ih:=zHR (l₁:=r) (l₂:=l₂.erase x) h2 fun y hy=>by
   have hne:y≠x:=fun e=>h1 (e ▸ hy)
   exact (List.mem_erase_of_ne hne).mpr (s y (zX _ hy))
  rw[List.length_erase_of_mem hx] at ih
  have:0<l₂.length:=List.length_pos_of_mem hx
  rw[zT]
  omega
noncomputable def lowTo (n:Nat):List Int:=(List.range n).map fun (i:Nat)=>(i:Int)
variable {x:Int}
theorem zCK {n:Nat}:x∈lowTo n↔0<=x/\x<n:=by
 unfold lowTo
 rw[zv]
 constructor
 . rintro ⟨i,hi,rfl⟩
   have:=zAW.mp hi
   omega
 . rintro ⟨h0,h1⟩
   exact⟨x.toNat,zAW.mpr (by omega),by omega⟩
theorem nd_len {n:Nat}{l:List Int}(h:l.Nodup)(hb:∀x∈l,0<=x/\x<n):l.length<=n:=by
 have:=zHR h (l₂:=lowTo n) fun x hx=>zCK.mpr (hb x hx)
 simpa [lowTo] using this
theorem zFy:∀{l₁ l₂:List Int},l₁.Pairwise (· < ·)->l₂.Pairwise (· < ·)->(∀x,x∈l₁↔x∈l₂)->l₁=l₂
 | [],[],_,_,_=>rfl
 | [],y::_,_,_,h=>by have:=(h y).mpr zh;simp at this
 | x::_,[],_,_,h=>by have:=(h x).mp zh;simp at this
 | x::r,y::q,h1,h2,h=>by
  obtain⟨a1,b1⟩:=List.pairwise_cons.mp h1
  obtain⟨a2,b2⟩:=List.pairwise_cons.mp h2
  have e:x=y:=by
   rcases zY.mp ((h x).mp zh) with e | e
   . exact e
   . rcases zY.mp ((h y).mpr zh) with e' | e'
     . exact e'.symm
     . have:=a2 x e;have:=a1 y e';omega
  subst e
  refine congrArg (x :: ·) (zFy b1 b2 fun z=>?_)
  constructor
  . intro hz
    rcases zY.mp ((h z).mp (zX _ hz)) with e | e
    . subst e;have:=a1 z hz;omega
    . exact e
  . intro hz
    rcases zY.mp ((h z).mpr (zX _ hz)) with e | e
    . subst e;have:=a2 z hz;omega
    . exact e
theorem zDU (n:Nat):(lowTo n).Pairwise (· < ·):=by
 unfold lowTo
 rw[zAs]
 exact List.pairwise_lt_range.imp fun h=>by omega
noncomputable abbrev T3:=Int×Int×Int
noncomputable def tl (t:T3):List Int:=[t.1,t.2.1,t.2.2]
structure GW (n:Int)(ts:List T3):Prop where
 n1:1<=n
 n24:n<=24
 len:ts.length<64
 rng:∀t∈ts,0<=t.1/\t.1<t.2.1/\t.2.1<n/\1<=t.2.2/\t.2.2<=99
 dis:ts.Pairwise fun s t=>¬ (s.1=t.1/\s.2.1=t.2.1)
noncomputable def Adj (ts:List T3)(x y l:Int):Prop:=(x,y,l)∈ts\/(y,x,l)∈ts
variable {l y:Int}{ts:List T3}
theorem Adj.symm (h:Adj ts x y l):Adj ts y x l:=h.elim .inr .inl
variable {n:Int}
theorem GW.uniq (g:GW n ts){l':Int}(h:Adj ts x y l)(h':Adj ts x y l'):l=l':=by
 have key:∀{ts:List T3},ts.Pairwise (fun s t=>¬ (s.1=t.1/\s.2.1=t.2.1))->∀{a b l l':Int},(a,b,l)∈ts->(a,b,l')∈ts->l=l':=by
  intro ts
  induction ts with
  | nil=>intro _ a b l l' h;simp at h
  | cons t r ih=>
   intro hp a b l l' h h'
   obtain⟨q,hr⟩:=List.pairwise_cons.mp hp
   rcases zY.mp h with e | e
   . rcases zY.mp h' with e' | e'
     . rw[<-e] at e';injection e' with _ e2;injection e2 with _ e3;exact e3.symm
     . exact absurd (by rw[<-e];exact⟨rfl,rfl⟩) (q _ e')
   . rcases zY.mp h' with e' | e'
     . exact absurd (by rw[<-e'];exact⟨rfl,rfl⟩) (q _ e)
     . exact ih hr e e'
 rcases h with h | h <;> rcases h' with h' | h'
 . exact key g.dis h h'
 . have:=g.rng _ h;have:=g.rng _ h';simp only at *;omega
 . have:=g.rng _ h;have:=g.rng _ h';simp only at *;omega
 . exact key g.dis h h'
theorem GW.adj (g:GW n ts)(h:Adj ts x y l):0<=x/\x<n/\0<=y/\y<n/\x≠y/\1<=l/\l<=99:=by
 rcases h with h | h <;> (have:=g.rng _ h;simp only at *;omega)
noncomputable def fd (p:Int):List T3->List (List Int)
 | []=>[]
 | t::r=>(if t.1=p then [[t.2.1,t.2.2]] else [])++(if t.2.1=p then [[t.1,t.2.2]] else [])++fd p r
theorem zGD (p:Int):∀a b:List T3,fd p (a++b)=fd p a++fd p b
 | [],b=>rfl
 | t::r,b=>by show _++_++fd p (r++b)=_;rw[zGD p r b];simp[fd,List.append_assoc]
theorem zEw {p:Int}{k:List Int}:∀{ts:List T3},k∈fd p ts↔∃y l,k=[y,l]/\Adj ts p y l
 | []=>by simp[fd,Adj]
 | (a,b,c)::r=>by
  have ih:=zEw (p:=p) (k:=k) (ts:=r)
  show k∈_++_++fd p r↔_
  rw[zn,zn,ih]
  simp only
  constructor
  . rintro ((h | h) | ⟨y,l,e,h⟩)
    . split at h
      . rename_i e;simp at h;subst e;exact⟨b,c,h,.inl zh⟩
      . simp at h
    . split at h
      . rename_i e;simp at h;subst e;exact⟨a,c,h,.inr zh⟩
      . simp at h
    . exact⟨y,l,e,h.elim (fun z=>.inl (zX _ z)) fun z=>.inr (zX _ z)⟩
  . rintro ⟨y,l,e,h⟩
    rcases h with h | h
    . rcases zY.mp h with q | q
      . injection q with q1 q2;injection q2 with q2 q3;subst q1 q2 q3
        exact .inl (.inl (by simp[e]))
      . exact .inr ⟨y,l,e,.inl q⟩
    . rcases zY.mp h with q | q
      . injection q with q1 q2;injection q2 with q2 q3;subst q1 q2 q3
        exact .inl (.inr (by simp[e]))
      . exact .inr ⟨y,l,e,.inr q⟩
theorem zHa {n:Int}(p:Int):∀{ts:List T3},(∀t∈ts,t.1<t.2.1)->(fd p ts).length<=ts.length
 | [],_=>zH _
 | t::r,h=>by
  have ih:=zHa (n:=n) p (ts:=r) fun t ht=>h t (zX _ ht)
  have h0:=h t zh
  show (_++_++fd p r).length<=_
  rw[zL,zL,zT]
  have:(if t.1=p then [[t.2.1,t.2.2]] else ([]:List (List Int))).length+(if t.2.1=p then [[t.1,t.2.2]] else ([]:List (List Int))).length<=1:=by
   split <;> split <;> simp <;> omega
  omega
noncomputable def hd (k:List Int):Int:=k.getD 0 0
theorem zLB (g:GW n ts)(p:Int):((fd p ts).map hd).Nodup:=by
 have key:∀(ts:List T3),(∀t∈ts,t.1<t.2.1)->ts.Pairwise (fun s t=>¬ (s.1=t.1/\s.2.1=t.2.1))->((fd p ts).map hd).Nodup:=by
  intro ts
  induction ts with
  | nil=>intro _ _;exact List.nodup_nil
  | cons t r ih=>
   intro hlt hp
   obtain⟨q,hr⟩:=List.pairwise_cons.mp hp
   have h0:=hlt t zh
   have hr':∀t∈r,t.1<t.2.1:=fun t ht=>hlt t (zX _ ht)
   have ih':=ih hr' hr
   have no:∀y c,(∀l,Adj r p y l->False)->([y,c]:List Int)=[y,c]->¬ y∈(fd p r).map hd:=by
    intro y c hn _ hm
    obtain⟨k,hk,e⟩:=zv.mp hm
    obtain⟨y',l,ek,ha⟩:=zEw.mp hk
    subst ek
    have:y'=y:=e
    subst this
    exact hn l ha
   show ((_++_++fd p r).map hd).Nodup
   by_cases h1:t.1=p
   . have h2:¬ t.2.1=p:=by omega
     rw[if_pos h1,if_neg h2]
     show (t.2.1::(fd p r).map hd).Nodup
     refine zAO.mpr ⟨no _ t.2.2 (fun l ha=>?_) rfl,ih'⟩
     rcases ha with ha | ha
     . exact q _ ha ⟨h1,rfl⟩
     . have:=hr' _ ha;simp only at this;omega
   . by_cases h2:t.2.1=p
     . rw[if_neg h1,if_pos h2]
       show (t.1::(fd p r).map hd).Nodup
       refine zAO.mpr ⟨no _ t.2.2 (fun l ha=>?_) rfl,ih'⟩
       rcases ha with ha | ha
       . have:=hr' _ ha;simp only at this;omega
       . exact q _ ha ⟨rfl,h2⟩
     . rw[if_neg h1,if_neg h2]
       exact ih'
 exact key ts (fun t ht=>(g.rng t ht).2.1) g.dis
end WM
namespace WM
inductive Way (ts:List T3):Int->Int->Int->Prop where
 | nil (x:Int):Way ts x x 0
 | cons {x z y l d:Int}:Adj ts x z l->Way ts z y d->Way ts x y (l+d)
variable {n x y d:Int}{ts:List T3}
theorem Way.nn (g:GW n ts)(h:Way ts x y d):0<=d:=by
 induction h with
 | nil=>exact Int.le_refl _
 | cons ha _ ih=>have:=g.adj ha;omega
variable {l:Int}
theorem Way.one (h:Adj ts x y l):Way ts x y l:=by
 have:=Way.cons h (.nil y)
 rwa [Int.add_zero] at this
theorem Way.trans {z e:Int}(h:Way ts x y d)(h':Way ts y z e):Way ts x z (d+e):=by
 induction h with
 | nil=>rw[zAJ];exact h'
 | cons ha _ ih=>rw[Int.add_assoc];exact .cons ha (ih h')
theorem Way.symm {ts:List T3}{x y d:Int}(h:Way ts x y d):Way ts y x d:=by
 induction h with
 | nil=>exact .nil _
 | cons ha _ ih=>have:=ih.trans (.one ha.symm);rwa [Int.add_comm] at this
theorem Way.snoc {z:Int}(h:Way ts x y d)(ha:Adj ts y z l):Way ts x z (d+l):=h.trans (.one ha)
noncomputable def IsD (ts:List T3)(x y d:Int):Prop:=Way ts x y d/\∀e,Way ts x y e->d<=e
noncomputable def Len (ts:List T3)(x y:Int):Option Int->Prop
 | some d=>IsD ts x y d
 | none=>∀d,¬ Way ts x y d
theorem IsD.uniq {e:Int}(h:IsD ts x y d)(h':IsD ts x y e):d=e:=Int.le_antisymm (h.2 _ h'.1) (h'.2 _ h.1)
theorem Len.uniq {ts:List T3}{x y:Int}{o o':Option Int}(h:Len ts x y o)(h':Len ts x y o'):o=o':=by
 cases o with
 | none=>
  cases o' with
  | none=>rfl
  | some e=>exact absurd h'.1 (h e)
 | some d=>
  cases o' with
  | none=>exact absurd h.1 (h' d)
  | some e=>exact congrArg some (IsD.uniq h h')
theorem IsD.symm (h:IsD ts x y d):IsD ts y x d:=⟨h.1.symm,fun e he=>h.2 e he.symm⟩
theorem Len.symm {ts:List T3}{x y:Int}{o:Option Int}(h:Len ts x y o):Len ts y x o:=by
 cases o with
 | none=>exact fun d hd=>h d hd.symm
 | some d=>exact IsD.symm h
theorem zHV (g:GW n ts)(x:Int):IsD ts x x 0:=⟨.nil x,fun _ h=>h.nn g⟩
structure Dj (ts:List T3)(s:Int)(kn wt:Int->Option Int):Prop where
 kd:∀p d,kn p=some d->IsD ts s p d
 wk:∀p d,wt p=some d->kn p=none/\Way ts s p d
 ord:∀p d q e,kn p=some d->wt q=some e->d<=e
 nb:∀p d q l,kn p=some d->Adj ts p q l->(∃e,kn q=some e)\/∃e,wt q=some e/\e<=d+l
 st:(∃d,kn s=some d)\/wt s=some 0
variable {s:Int}{kn wt:Int->Option Int}
theorem Dj.front (g:GW n ts)(h:Dj ts s kn wt)(w:Way ts s y d):(∃e,kn y=some e)\/∃q e,wt q=some e/\e<=d:=by
 have key:∀{x y d:Int},Way ts x y d->∀dx,kn x=some dx->(∃e,kn y=some e)\/∃q e,wt q=some e/\e<=dx+d:=by
  intro x y d w
  induction w with
  | nil=>intro dx hx;exact .inl ⟨dx,hx⟩
  | cons ha w' ih=>
   intro dx hx
   rename_i x z y l d
   have hl:=g.adj ha
   have hw:=w'.nn g
   rcases h.nb x dx z l hx ha with ⟨e,he⟩ | ⟨e,he,hle⟩
   . have hez:e<=dx+l:=(h.kd z e he).2 _ ((h.kd x dx hx).1.snoc ha)
     rcases ih e he with q | ⟨q,e',hq,hle⟩
     . exact .inl q
     . exact .inr ⟨q,e',hq,by omega⟩
   . exact .inr ⟨z,e,he,by omega⟩
 rcases h.st with ⟨ds,hs⟩ | hs
 . have:ds=0:=IsD.uniq (h.kd s ds hs) (zHV g s)
   subst this
   rcases key w 0 hs with q | ⟨q,e,a,b⟩
   . exact .inl q
   . exact .inr ⟨q,e,a,by omega⟩
 . exact .inr ⟨s,0,hs,w.nn g⟩
variable {p:Int}
theorem Dj.pick (g:GW n ts)(h:Dj ts s kn wt)(hp:wt p=some d)(hm:∀q e,wt q=some e->d<=e):IsD ts s p d:=by
 obtain⟨hk,hw⟩:=h.wk p d hp
 refine⟨hw,fun e he=>?_⟩
 rcases h.front g he with ⟨e',q⟩ | ⟨q,e',hq,hle⟩
 . rw[hk] at q;cases q
 . exact Int.le_trans (hm q e' hq) hle
theorem Dj.done (g:GW n ts)(h:Dj ts s kn wt)(hw:∀q,wt q=none)(y:Int):Len ts s y (kn y):=by
 cases e:kn y with
 | some d=>exact h.kd y d e
 | none=>
  intro d w
  rcases h.front g w with ⟨e',q⟩ | ⟨q,e',hq,_⟩
  . rw[e] at q;cases q
  . rw[hw] at hq;cases hq
structure Dm (ts:List T3)(s p d:Int)(kn wt:Int->Option Int)(seen:Int->Prop):Prop where
 kd:∀q e,kn q=some e->IsD ts s q e
 wk:∀q e,wt q=some e->kn q=none/\Way ts s q e
 ord:∀q e r f,kn q=some e->wt r=some f->e<=f
 nb:∀q e r l,kn q=some e->Adj ts q r l->(q=p/\¬ seen r)\/(∃f,kn r=some f)\/∃f,wt r=some f/\f<=e+l
 st:∃e,kn s=some e
 pd:kn p=some d
 mx:∀q e,kn q=some e->e<=d
theorem Dj.enter (g:GW n ts)(h:Dj ts s kn wt)(hp:wt p=some d)(hm:∀q e,wt q=some e->d<=e) :
 Dm ts s p d (fun q=>if q=p then some d else kn q) (fun q=>if q=p then none else wt q) (fun _=>False):=by
 have hd:=h.pick g hp hm
 have hk:=(h.wk p d hp).1
 refine⟨fun q e hq=>?_,fun q e hq=>?_,fun q e r f hq hr=>?_,fun q e r l hq ha=>?_,?_,if_pos rfl,fun q e hq=>?_⟩
 . by_cases hqp:q=p
   . rw[if_pos hqp] at hq;cases hq;rw[hqp];exact hd
   . rw[if_neg hqp] at hq;exact h.kd q e hq
 . by_cases hqp:q=p
   . rw[if_pos hqp] at hq;cases hq
   . rw[if_neg hqp] at hq ⊢;exact h.wk q e hq
 . by_cases hrp:r=p
   . rw[if_pos hrp] at hr;cases hr
   . rw[if_neg hrp] at hr
     by_cases hqp:q=p
     . rw[if_pos hqp] at hq;cases hq;exact hm r f hr
     . rw[if_neg hqp] at hq;exact h.ord q e r f hq hr
 . by_cases hqp:q=p
   . exact .inl ⟨hqp,fun z=>z⟩
   . rw[if_neg hqp] at hq
     by_cases hrp:r=p
     . exact .inr (.inl ⟨d,if_pos hrp⟩)
     . rcases h.nb q e r l hq ha with ⟨f,hf⟩ | ⟨f,hf,hle⟩
       . exact .inr (.inl ⟨f,by rw[if_neg hrp];exact hf⟩)
       . exact .inr (.inr ⟨f,by rw[if_neg hrp];exact hf,hle⟩)
 . by_cases hsp:s=p
   . exact⟨d,if_pos hsp⟩
   . rcases h.st with ⟨e,he⟩ | he
     . exact⟨e,by rw[if_neg hsp];exact he⟩
     . -- s waits with 0: then d is 0 too,and p is come to by a way of 0
       have h0:=hm s 0 he
       have:=hd.1.nn g
       have hd0:d=0:=by omega
       subst hd0
       exfalso
       have:∀{x y d:Int},Way ts x y d->d=0->x=y:=by
        intro x y d w
        cases w with
        | nil=>intro _;rfl
        | cons ha w'=>intro e;have:=g.adj ha;have:=w'.nn g;omega
       exact hsp (this hd.1 rfl)
 . by_cases hqp:q=p
   . rw[if_pos hqp] at hq;cases hq;exact Int.le_refl _
   . rw[if_neg hqp] at hq;exact h.ord q e p d hq hp
variable {seen:Int->Prop}
theorem Dm.skip (h:Dm ts s p d kn wt seen){r:Int}(hr:∃f,kn r=some f):Dm ts s p d kn wt (fun x=>seen x\/x=r):=
 ⟨h.kd,h.wk,h.ord,fun q e x l hq ha=>by
  rcases h.nb q e x l hq ha with ⟨a,b⟩ | c
  . by_cases hx:x=r
    . subst hx;exact .inr (.inl hr)
    . exact .inl ⟨a,fun z=>z.elim b hx⟩
  . exact .inr c,h.st,h.pd,h.mx⟩
theorem Dm.wait (g:GW n ts)(h:Dm ts s p d kn wt seen){r:Int}(ha:Adj ts p r l)(hr:kn r=none){f:Int}
 (hf:(wt r=none/\f=d+l)\/∃e,wt r=some e/\f=min (d+l) e):Dm ts s p d kn (fun x=>if x=r then some f else wt x) (fun x=>seen x\/x=r):=by
 have hl:=g.adj ha
 have hway:Way ts s r (d+l):=(h.kd p d h.pd).1.snoc ha
 have hf1:f<=d+l:=by
  rcases hf with ⟨_,e⟩ | ⟨e,_,e'⟩
  . omega
  . omega
 have hf2:Way ts s r f:=by
  rcases hf with ⟨_,rfl⟩ | ⟨e,he,rfl⟩
  . exact hway
  . by_cases hle:d+l<=e
    . rw[Int.min_eq_left hle];exact hway
    . rw[Int.min_eq_right (by omega)];exact (h.wk r e he).2
 have hf3:d<=f:=by
  rcases hf with ⟨_,rfl⟩ | ⟨e,he,rfl⟩
  . omega
  . have:=h.ord p d r e h.pd he;omega
 refine⟨h.kd,fun q e hq=>?_,fun q e x y hq hx=>?_,fun q e x k hq hax=>?_,h.st,h.pd,h.mx⟩
 . by_cases hqr:q=r
   . rw[if_pos hqr] at hq;cases hq;rw[hqr];exact⟨hr,hf2⟩
   . rw[if_neg hqr] at hq;exact h.wk q e hq
 . by_cases hxr:x=r
   . rw[if_pos hxr] at hx;cases hx;have:=h.mx q e hq;omega
   . rw[if_neg hxr] at hx;exact h.ord q e x y hq hx
 . by_cases hxr:x=r
   . subst hxr
     refine .inr (.inr ⟨f,if_pos rfl,?_⟩)
     rcases h.nb q e x k hq hax with ⟨a,_⟩ | ⟨y,hy⟩ | ⟨y,hy,hle⟩
     . subst a
       rw[h.pd] at hq;cases hq
       rw[g.uniq hax ha];exact hf1
     . rw[hr] at hy;cases hy
     . rcases hf with ⟨e1,_⟩ | ⟨e1,he1,e2⟩
       . rw[e1] at hy;cases hy
       . rw[he1] at hy;cases hy;omega
   . rcases h.nb q e x k hq hax with ⟨a,b⟩ | c | ⟨y,hy,hle⟩
     . exact .inl ⟨a,fun z=>z.elim b hxr⟩
     . exact .inr (.inl c)
     . exact .inr (.inr ⟨y,by rw[if_neg hxr];exact hy,hle⟩)
theorem Dm.leave (h:Dm ts s p d kn wt seen)(hs:∀r l,Adj ts p r l->seen r):Dj ts s kn wt:=
 ⟨h.kd,h.wk,h.ord,fun q e r l hq ha=>by
  rcases h.nb q e r l hq ha with ⟨a,b⟩ | c
  . subst a;exact absurd (hs r l ha) b
  . exact c,.inl h.st⟩
inductive zE4 (ts:List T3)(k:Int):Int->Int->Int->Prop where
 | nil (x:Int):zE4 ts k x x 0
 | tie {x y l:Int}:Adj ts x y l->zE4 ts k x y l
 | cons {x z y l d:Int}:Adj ts x z l->z<k->zE4 ts k z y d->zE4 ts k x y (l+d)
theorem zE4.way {k:Int}(h:zE4 ts k x y d):Way ts x y d:=by
 induction h with
 | nil=>exact .nil _
 | tie ha=>exact .one ha
 | cons ha _ _ ih=>exact .cons ha ih
theorem Way.toK (g:GW n ts)(h:Way ts x y d):zE4 ts n x y d:=by
 induction h with
 | nil=>exact .nil _
 | cons ha _ ih=>exact .cons ha (g.adj ha).2.2.2.1 ih
theorem zE4.split (g:GW n ts){k:Int}(h:zE4 ts (k+1) x y d):zE4 ts k x y d\/∃d1 d2,zE4 ts k x k d1/\zE4 ts k k y d2/\d1+d2<=d:=by
 induction h with
 | nil=>exact .inl (.nil _)
 | tie ha=>exact .inl (.tie ha)
 | cons ha hz w ih=>
  rename_i x z y l d
  by_cases hk:z<k
  . rcases ih with q | ⟨d1,d2,a,b,c⟩
    . exact .inl (.cons ha hk q)
    . exact .inr ⟨l+d1,d2,.cons ha hk a,b,by omega⟩
  . have e:z=k:=by omega
    subst e
    rcases ih with q | ⟨d1,d2,a,b,c⟩
    . exact .inr ⟨l,d,.tie ha,q,Int.le_refl _⟩
    . have:=a.way.nn g
      exact .inr ⟨l,d2,.tie ha,b,by omega⟩
theorem zE4.zero (g:GW n ts)(h:zE4 ts 0 x y d):(x=y/\d=0)\/Adj ts x y d:=by
 cases h with
 | nil=>exact .inl ⟨rfl,rfl⟩
 | tie ha=>exact .inr ha
 | cons ha hz _=>have:=g.adj ha;omega
structure Fw (ts:List T3)(n:Int)(F:Int->Int->Option Int):Prop where
 snd:∀x y d,0<=x->x<n->0<=y->y<n->F x y=some d->Way ts x y d
noncomputable def Cov (ts:List T3)(n k:Int)(F:Int->Int->Option Int):Prop:=∀x y d,0<=x->x<n->0<=y->y<n->zE4 ts k x y d->∃e,F x y=some e/\e<=d
theorem Fw.len (g:GW n ts){F:Int->Int->Option Int}(h:Fw ts n F)(c:Cov ts n n F)(hx:0<=x)(hx':x<n)(hy:0<=y)(hy':y<n):Len ts x y (F x y):=by
 cases e:F x y with
 | some d=>
  refine⟨h.snd x y d hx hx' hy hy' e,fun e' he=>?_⟩
  obtain⟨f,hf,hle⟩:=c x y e' hx hx' hy hy' (he.toK g)
  rw[e] at hf;cases hf;exact hle
 | none=>
  intro d hd
  obtain⟨f,hf,_⟩:=c x y d hx hx' hy hy' (hd.toK g)
  rw[e] at hf;cases hf
end WM
namespace WM
noncomputable def fnl (kn:List (Option Int))(p:Int):Option Int:=if 0<=p then kn.getD p.toNat none else none
noncomputable def cnt (kn:List (Option Int)):Nat:=(kn.filter Option.isSome).length
theorem zJy (kn:List (Option Int)):cnt kn<=kn.length:=zu _ _
theorem zJg {kn:List (Option Int)}{p:Int}{o:Option Int}(h0:0<=p)(h1:p.toNat<kn.length)(q:Int):fnl (kn.set p.toNat o) q=if q=p then o else fnl kn q:=by
 unfold fnl
 by_cases hq:0<=q
 . rw[if_pos hq,if_pos hq,zC,zC,List.getElem?_set]
   by_cases e:q=p
   . subst e;simp[h1]
   . have:¬ p.toNat=q.toNat:=by omega
     rw[if_neg this,if_neg e]
 . rw[if_neg hq,if_neg (by omega),if_neg hq]
theorem zG0:∀{kn:List (Option Int)}{j:Nat}{d:Int},kn[j]? = some none->cnt (kn.set j (some d))=cnt kn+1
 | [],_,_,h=>by simp at h
 | o::r,0,d,h=>by
  have:o=none:=by simpa using h
  subst this
  simp[cnt,List.set]
 | o::r,j+1,d,h=>by
  have ih:=zG0 (kn:=r) (j:=j) (d:=d) (by simpa using h)
  unfold cnt at ih ⊢
  rw[List.set_cons_succ]
  cases o with
  | none=>rw[zAH (by simp),zAH (by simp)];exact ih
  | some x=>rw[zAU (by simp),zAU (by simp),zT,zT,ih]
theorem zNJ (n:Nat):cnt (List.replicate n none)=0:=by
 unfold cnt
 rw[List.filter_replicate]
 simp
theorem zEP (n:Nat)(q:Int):fnl (List.replicate n none) q=none:=by
 unfold fnl
 split
 . rw[zC,zA8]
   split <;> rfl
 . rfl
structure Dl (ts:List T3)(n s:Int)(kn:List (Option Int))(wt:Int->Option Int):Prop where
 dj:Dj ts s (fnl kn) wt
 ln:kn.length=n.toNat
 bk:∀p d,fnl kn p=some d->d<=99*cnt kn
 bw:∀p e,wt p=some e->e<=99*cnt kn/\0<=p/\p<n
structure Dn (ts:List T3)(n s p d:Int)(kn:List (Option Int))(wt:Int->Option Int)(seen:Int->Prop):Prop where
 dm:Dm ts s p d (fnl kn) wt seen
 ln:kn.length=n.toNat
 bk:∀q e,fnl kn q=some e->e<=99*cnt kn
 bd:d+99<=99*cnt kn
 bw:∀q e,wt q=some e->e<=99*cnt kn/\0<=q/\q<n
theorem Dl.start {n:Int}{ts:List T3}(g:GW n ts){s:Int}(h0:0<=s)(h1:s<n):Dl ts n s (List.replicate n.toNat none) (fun q=>if q=s then some 0 else none):=by
 refine⟨⟨fun p d h=>?_,fun p d h=>?_,fun p d q e h=>?_,fun p d q l h=>?_,.inr (if_pos rfl)⟩,zAT,fun p d h=>?_,fun p e h=>?_⟩
 . rw[zEP] at h;cases h
 . by_cases e:p=s
   . rw[if_pos e] at h;cases h;rw[e];exact⟨zEP _ _,.nil s⟩
   . rw[if_neg e] at h;cases h
 . rw[zEP] at h;cases h
 . rw[zEP] at h;cases h
 . rw[zEP] at h;cases h
 . by_cases e:p=s
   . rw[if_pos e] at h;cases h;rw[e,zNJ];exact⟨by simp,h0,h1⟩
   . rw[if_neg e] at h;cases h
theorem Dl.enter {n:Int}{ts:List T3}(g:GW n ts){s:Int}{kn:List (Option Int)}{wt:Int->Option Int}(h:Dl ts n s kn wt){p d:Int}(hp:wt p=some d)(hm:∀q e,wt q=some e->d<=e) :
 kn[p.toNat]? = some none/\0<=p/\p<n/\cnt (kn.set p.toNat (some d))=cnt kn+1/\Dn ts n s p d (kn.set p.toNat (some d)) (fun q=>if q=p then none else wt q) (fun _=>False):=by
 obtain⟨hb,h0,h1⟩:=h.bw p d hp
 have hl:=h.ln
 have hlt:p.toNat<kn.length:=by omega
 have hk:=(h.dj.wk p d hp).1
 have hn:kn[p.toNat]? = some none:=by
  unfold fnl at hk
  rw[if_pos h0,zC,zA hlt] at hk
  rw[zA hlt]
  exact congrArg some hk
 have hc:=zG0 (d:=d) hn
 have ef:fnl (kn.set p.toNat (some d))=fun q=>if q=p then some d else fnl kn q:=funext fun q=>zJg h0 hlt q
 refine⟨hn,h0,h1,hc,⟨?_,by rw[List.length_set];exact hl,fun q e hq=>?_,by rw[hc];omega,fun q e hq=>?_⟩⟩
 . rw[ef];exact h.dj.enter g hp hm
 . rw[ef] at hq
   simp only at hq
   rw[hc]
   by_cases e':q=p
   . rw[if_pos e'] at hq;cases hq;omega
   . rw[if_neg e'] at hq;have:=h.bk q e hq;omega
 . by_cases e':q=p
   . rw[if_pos e'] at hq;cases hq
   . rw[if_neg e'] at hq;have:=h.bw q e hq;rw[hc];exact⟨by omega,this.2⟩
theorem Dn.skip {n:Int}{ts:List T3}{s p d:Int}{kn:List (Option Int)}{wt:Int->Option Int}{seen:Int->Prop}(h:Dn ts n s p d kn wt seen){r f:Int}(hr:fnl kn r=some f):Dn ts n s p d kn wt (fun x=>seen x\/x=r):=
 ⟨h.dm.skip ⟨f,hr⟩,h.ln,h.bk,h.bd,h.bw⟩
theorem Dn.wait {n:Int}{ts:List T3}(g:GW n ts){s p d:Int}{kn:List (Option Int)}{wt:Int->Option Int}{seen:Int->Prop}(h:Dn ts n s p d kn wt seen){r l:Int}(ha:Adj ts p r l)(hr:fnl kn r=none) :
 Dn ts n s p d kn (fun x=>if x=r then some (if (wt r).getD (d+l)<d+l then (wt r).getD (d+l) else d+l) else wt x) (fun x=>seen x\/x=r):=by
 have hl:=g.adj ha
 have hf:(wt r=none/\(if (wt r).getD (d+l)<d+l then (wt r).getD (d+l) else d+l)=d+l)\/∃e,wt r=some e/\(if (wt r).getD (d+l)<d+l then (wt r).getD (d+l) else d+l)=min (d+l) e:=by
  cases e:wt r with
  | none=>exact .inl ⟨rfl,by simp⟩
  | some x=>
   refine .inr ⟨x,rfl,?_⟩
   simp only[zB4]
   split <;> omega
 refine⟨h.dm.wait g ha hr hf,h.ln,h.bk,h.bd,fun q e hq=>?_⟩
 by_cases e':q=r
 . rw[if_pos e'] at hq
   have hd:=h.bd
   have e2:=zU hq
   refine⟨?_,by omega,by omega⟩
   split at e2 <;> omega
 . rw[if_neg e'] at hq;exact h.bw q e hq
theorem Dn.leave {n:Int}{ts:List T3}{s p d:Int}{kn:List (Option Int)}{wt:Int->Option Int}{seen:Int->Prop}(h:Dn ts n s p d kn wt seen)(hs:∀r l,Adj ts p r l->seen r):Dl ts n s kn wt:=
 ⟨h.dm.leave hs,h.ln,h.bk,h.bw⟩
structure zKL (ts:List T3)(n s:Int)(kn:List (Option Int)):Prop where
 ln:kn.length=n.toNat
 len:∀y,0<=y->y<n->Len ts s y (fnl kn y)
 bd:∀o∈kn,∀d,o=some d->0<=d/\d<=2376
theorem Dl.done {n:Int}{ts:List T3}(g:GW n ts){s:Int}{kn:List (Option Int)}{wt:Int->Option Int}(h:Dl ts n s kn wt)(hw:∀q,wt q=none):zKL ts n s kn:=by
 refine⟨h.ln,fun y _ _=>h.dj.done g hw y,fun o ho d e=>?_⟩
 obtain⟨j,hj,ej⟩:=zy ho
 have hf:fnl kn (j:Int)=some d:=by
  unfold fnl
  rw[if_pos (by omega),zC,zAR,zA hj,ej,e];rfl
 have h1:=h.bk _ _ hf
 have h2:=(h.dj.kd _ _ hf).1.nn g
 have h3:=zJy kn
 have:=h.ln
 have:=g.n24
 omega
end WM
namespace WM
noncomputable def oadd:Option Int->Option Int->Option Int
 | some a,some b=>some (a+b)
 | _,_=>none
noncomputable def oles:Option Int->Option Int->Option Int
 | none,o=>o
 | some a,none=>some a
 | some a,some b=>some (if b<a then b else a)
variable {ts:List T3}{d:Int}
theorem zE4.mono {k k' x y:Int}(h:zE4 ts k x y d)(hk:k<=k'):zE4 ts k' x y d:=by
 induction h with
 | nil=>exact .nil _
 | tie ha=>exact .tie ha
 | cons ha hz _ ih=>exact .cons ha (by omega) ih
structure Fm (ts:List T3)(n k:Int)(F:Int->Int->Option Int)(done:Int->Int->Prop):Prop where
 fw:Fw ts n F
 cv:Cov ts n k F
 dn:∀x y d,0<=x->x<n->0<=y->y<n->done x y->zE4 ts (k+1) x y d->∃e,F x y=some e/\e<=d
variable {o p:Option Int}
theorem zMk (h:(∃e,o=some e/\e<=d)\/∃e,p=some e/\e<=d):∃e,oles o p=some e/\e<=d:=by
 rcases h with ⟨e,rfl,h⟩ | ⟨e,rfl,h⟩
 . cases p with
   | none=>exact⟨e,rfl,h⟩
   | some b=>exact⟨_,rfl,by split <;> omega⟩
 . cases o with
   | none=>exact⟨e,rfl,h⟩
   | some a=>exact⟨_,rfl,by split <;> omega⟩
theorem zMj (h:oles o p=some d):o=some d\/p=some d:=by
 cases o with
 | none=>exact .inr h
 | some a=>
  cases p with
  | none=>exact .inl h
  | some b=>
   have e:(if b<a then b else a)=d:=zU h
   split at e
   . exact .inr (by rw[e])
   . exact .inl (by rw[e])
theorem zF2 (h:oadd o p=some d):∃a b,o=some a/\p=some b/\a+b=d:=by
 cases o with
 | none=>cases h
 | some a=>
  cases p with
  | none=>cases h
  | some b=>exact⟨a,b,rfl,rfl,zU h⟩
variable {n a b:Int}{F:Int->Int->Option Int}
theorem Fm.step (g:GW n ts){k:Int}{done:Int->Int->Prop}(h:Fm ts n k F done)(ha:0<=a)(ha':a<n)(hb:0<=b)(hb':b<n)(hk:0<=k)(hk':k<n) :
 Fm ts n k (fun x y=>if x=a/\y=b then oles (F a b) (oadd (F a k) (F k b)) else F x y) (fun x y=>done x y\/(x=a/\y=b)):=by
 have snd:∀d,oles (F a b) (oadd (F a k) (F k b))=some d->Way ts a b d:=fun d hd=>by
  rcases zMj hd with e | e
  . exact h.fw.snd a b d ha ha' hb hb' e
  . obtain⟨d1,d2,e1,e2,rfl⟩:=zF2 e
    exact (h.fw.snd a k d1 ha ha' hk hk' e1).trans (h.fw.snd k b d2 hk hk' hb hb' e2)
 have cov1:∀d,zE4 ts (k+1) a b d->∃e,oles (F a b) (oadd (F a k) (F k b))=some e/\e<=d:=fun d w=>by
  refine zMk ?_
  rcases w.split g with q | ⟨d1,d2,q1,q2,hle⟩
  . exact .inl (h.cv a b d ha ha' hb hb' q)
  . obtain⟨e1,f1,l1⟩:=h.cv a k d1 ha ha' hk hk' q1
    obtain⟨e2,f2,l2⟩:=h.cv k b d2 hk hk' hb hb' q2
    exact .inr ⟨e1+e2,by rw[f1,f2];rfl,by omega⟩
 refine⟨⟨fun x y d hx hx' hy hy' e=>?_⟩,fun x y d hx hx' hy hy' w=>?_,fun x y d hx hx' hy hy' hd w=>?_⟩
 . by_cases c:x=a/\y=b
   . rw[if_pos c] at e;rw[c.1,c.2];exact snd d e
   . rw[if_neg c] at e;exact h.fw.snd x y d hx hx' hy hy' e
 . by_cases c:x=a/\y=b
   . rw[if_pos c];rw[c.1,c.2] at w;exact cov1 d (w.mono (by omega))
   . rw[if_neg c];exact h.cv x y d hx hx' hy hy' w
 . by_cases c:x=a/\y=b
   . rw[if_pos c];rw[c.1,c.2] at w;exact cov1 d w
   . rw[if_neg c];exact h.dn x y d hx hx' hy hy' (hd.resolve_right c) w
theorem Fm.enter {k:Int}(h:Fw ts n F)(c:Cov ts n k F):Fm ts n k F (fun _ _=>False):=⟨h,c,fun _ _ _ _ _ _ _ z=>z.elim⟩
theorem Fm.leave {k:Int}{done:Int->Int->Prop}(h:Fm ts n k F done)(hd:∀x y,0<=x->x<n->0<=y->y<n->done x y):Fw ts n F/\Cov ts n (k+1) F:=
 ⟨h.fw,fun x y d hx hx' hy hy' w=>h.dn x y d hx hx' hy hy' (hd x y hx hx' hy hy') w⟩
noncomputable def Ft (ts:List T3)(n:Int)(F:Int->Int->Option Int):Prop:=∀x y d,0<=x->x<n->0<=y->y<n->(F x y=some d↔(x=y/\d=0)\/Adj ts x y d)
theorem Ft.fw (g:GW n ts)(h:Ft ts n F):Fw ts n F/\Cov ts n 0 F:=by
 refine⟨⟨fun x y d hx hx' hy hy' e=>?_⟩,fun x y d hx hx' hy hy' w=>?_⟩
 . rcases (h x y d hx hx' hy hy').mp e with ⟨rfl,rfl⟩ | ha
   . exact .nil x
   . exact .one ha
 . refine⟨d,(h x y d hx hx' hy hy').mpr ?_,Int.le_refl _⟩
   rcases w.zero g with q | q
   . exact .inl q
   . exact .inr q
theorem Ft.nil (n:Int)(h:∀x y,0<=x->x<n->0<=y->y<n->F x y=if x=y then some 0 else none):Ft [] n F:=fun x y d hx hx' hy hy'=>by
 rw[h x y hx hx' hy hy']
 constructor
 . intro e
   split at e
   . rename_i c;exact .inl ⟨c,(zU e).symm⟩
   . cases e
 . rintro (⟨rfl,rfl⟩ | ha)
   . rw[if_pos rfl]
   . rcases ha with z | z <;> simp at z
theorem Ft.put {pre post:List T3}{l:Int}(g:GW n (pre++(a,b,l)::post))(h:Ft pre n F) :
 Ft (pre++[(a,b,l)]) n (fun x y=>if x=b/\y=a then some l else if x=a/\y=b then some l else F x y):=fun x y d hx hx' hy hy'=>by
 have hr:=g.rng (a,b,l) (by simp)
 simp only at hr
 have sub:∀{x y d:Int},Adj pre x y d->Adj (pre++(a,b,l)::post) x y d:=fun z=>z.elim (fun z=>.inl (zAk _ z)) fun z=>.inr (zAk _ z)
 have own:Adj (pre++(a,b,l)::post) a b l:=.inl (by simp)
 have hadj:Adj (pre++[(a,b,l)]) x y d↔Adj pre x y d\/(x=a/\y=b/\d=l)\/(x=b/\y=a/\d=l):=by
  unfold Adj
  simp only[zn,zj,Prod.mk.injEq]
  constructor
  . rintro ((z | z) | (z | z))
    . exact .inl (.inl z)
    . exact .inr (.inl z)
    . exact .inl (.inr z)
    . exact .inr (.inr ⟨z.2.1,z.1,z.2.2⟩)
  . rintro ((z | z) | z | z)
    . exact .inl (.inl z)
    . exact .inr (.inl z)
    . exact .inl (.inr z)
    . exact .inr (.inr ⟨z.2.1,z.1,z.2.2⟩)
 rw[hadj]
 show (if x=b/\y=a then some l else if x=a/\y=b then some l else F x y)=some d↔_
 by_cases c1:x=b/\y=a
 . rw[if_pos c1]
   constructor
   . intro e;exact .inr (.inr (.inr ⟨c1.1,c1.2,(zU e).symm⟩))
   . rintro (⟨e,_⟩ | z | ⟨e1,e2,e3⟩ | ⟨_,_,e3⟩)
     . omega
     . have z':=sub z;rw[c1.1,c1.2] at z';rw[g.uniq z' own.symm]
     . rw[e3]
     . rw[e3]
 . rw[if_neg c1]
   by_cases c2:x=a/\y=b
   . rw[if_pos c2]
     constructor
     . intro e;exact .inr (.inr (.inl ⟨c2.1,c2.2,(zU e).symm⟩))
     . rintro (⟨e,_⟩ | z | ⟨e1,e2,e3⟩ | ⟨_,_,e3⟩)
       . omega
       . have z':=sub z;rw[c2.1,c2.2] at z';rw[g.uniq z' own]
       . rw[e3]
       . rw[e3]
   . rw[if_neg c2,h x y d hx hx' hy hy']
     constructor
     . rintro (z | z)
       . exact .inl z
       . exact .inr (.inl z)
     . rintro (z | z | z | z)
       . exact .inl z
       . exact .inr z
       . exact absurd ⟨z.1,z.2.1⟩ c2
       . exact absurd ⟨z.1,z.2.1⟩ c1
noncomputable def mat (M:lLO)(x y:Int):Option Int:=if 0<=x then fnl (M.getD x.toNat []) y else none
noncomputable def zIJ (M:lLO)(a b:Int)(v:Option Int):List (List (Option Int)):=M.set a.toNat ((M.getD a.toNat []).set b.toNat v)
structure Sqm (n:Int)(M:lLO):Prop where
 ln:M.length=n.toNat
 rw_:∀r∈M,r.length=n.toNat
theorem Sqm.row {M:lLO}(h:Sqm n M)(ha:0<=a)(ha':a<n):∃r,M[a.toNat]? = some r/\M.getD a.toNat []=r/\r.length=n.toNat:=by
 have hl:=h.ln
 have hlt:a.toNat<M.length:=by omega
 exact⟨M[a.toNat],zA hlt,by rw[zC,zA hlt];rfl,h.rw_ _ (zAq hlt)⟩
theorem Sqm.set {M:lLO}(h:Sqm n M){v:Option Int}(ha:0<=a)(ha':a<n):Sqm n (zIJ M a b v):=by
 obtain⟨r,h1,h2,h3⟩:=h.row ha ha'
 refine⟨by unfold zIJ;rw[List.length_set];exact h.ln,fun q hq=>?_⟩
 unfold zIJ at hq
 rcases List.mem_or_eq_of_mem_set hq with z | z
 . exact h.rw_ q z
 . rw[z,List.length_set,h2,h3]
theorem zGs {M:lLO}(h:Sqm n M){v:Option Int}(ha:0<=a)(ha':a<n)(hb:0<=b)(hb':b<n){x y:Int}(hx:0<=x)(hx':x<n) :
 mat (zIJ M a b v) x y=if x=a/\y=b then v else mat M x y:=by
 obtain⟨r,h1,h2,h3⟩:=h.row ha ha'
 have hl:=h.ln
 unfold mat zIJ
 rw[if_pos hx,if_pos hx,zC,List.getElem?_set]
 by_cases e:x=a
 . subst e
   rw[if_pos rfl,if_pos (by omega),zB4,h2,zJg hb (by omega)]
   by_cases e2:y=b
   . rw[if_pos e2,if_pos ⟨rfl,e2⟩]
   . rw[if_neg e2,if_neg fun z=>e2 z.2]
 . rw[if_neg (by omega),if_neg fun z=>e z.1,<-zC]
theorem Fm.congr {k:Int}{G:Int->Int->Option Int}{done done':Int->Int->Prop}(h:Fm ts n k F done)(e:∀x y,0<=x->x<n->0<=y->y<n->G x y=F x y)(hd:∀x y,0<=x->x<n->0<=y->y<n->done' x y->done x y):Fm ts n k G done':=
 ⟨⟨fun x y d a b c d' z=>h.fw.snd x y d a b c d' (by rw[<-e x y a b c d'];exact z)⟩,fun x y d a b c d' w=>by rw[e x y a b c d'];exact h.cv x y d a b c d' w,fun x y d a b c d' z w=>by rw[e x y a b c d'];exact h.dn x y d a b c d' (hd x y a b c d' z) w⟩
theorem Ft.congr {G:Int->Int->Option Int}(h:Ft ts n F)(e:∀x y,0<=x->x<n->0<=y->y<n->G x y=F x y):Ft ts n G:=fun x y d a b c d'=>by rw[e x y a b c d'];exact h x y d a b c d'
noncomputable def Rows (ts:List T3)(n:Int)(M:lLO):Prop:=M.length=n.toNat/\∀x,0<=x->x<n->zKL ts n x (M.getD x.toNat [])
theorem zIN (g:GW n ts)(x y:Int)(hx:0<=x)(hx':x<n)(d:Int)(h:IsD ts x y d):0<=d/\d<=2376:=by
 have ex:∀(m:Nat)(kn:List (Option Int))(wt:Int->Option Int),Dl ts n x kn wt->n.toNat-cnt kn<=m->(∃L:List Int,∀q e,wt q=some e->q∈L)->∃kn',zKL ts n x kn':=by
  intro m
  induction m with
  | zero=>
   intro kn wt D hm _
   refine⟨kn,D.done g fun q=>?_⟩
   cases e:wt q with
   | none=>rfl
   | some d=>
    have hk:=(D.dj.wk q d e).1
    obtain⟨_,h0,h1⟩:=D.bw q d e
    have hl:=D.ln
    have hlt:q.toNat<kn.length:=by omega
    have hn:kn[q.toNat]? = some none:=by
     unfold fnl at hk
     rw[if_pos h0,zC,zA hlt] at hk
     rw[zA hlt]
     exact congrArg some hk
    have h1:=zG0 (d:=0) hn
    have h2:=zJy (kn.set q.toNat (some 0))
    rw[List.length_set] at h2
    omega
  | succ m ih=>
   intro kn wt D hm hL
   by_cases hw:∀q,wt q=none
   . exact⟨kn,D.done g hw⟩
   . -- pick the nearest
     obtain⟨L,hL⟩:=hL
     have pick:∀L:List Int,(∃q∈L,(wt q).isSome)->∃p d,wt p=some d/\∀q∈L,∀e,wt q=some e->d<=e:=by
      intro L
      induction L with
      | nil=>rintro ⟨q,hq,_⟩;simp at hq
      | cons z L ihL=>
       rintro ⟨q,hq,hs⟩
       by_cases hr:∃q∈L,(wt q).isSome
       . obtain⟨p,d,hp,hmin⟩:=ihL hr
         cases ez:wt z with
         | none=>
          refine⟨p,d,hp,fun q' hq' e he=>?_⟩
          rcases zY.mp hq' with rfl | hq'
          . rw[ez] at he;cases he
          . exact hmin q' hq' e he
         | some dz=>
          by_cases hz:dz<d
          . refine⟨z,dz,ez,fun q' hq' e he=>?_⟩
            rcases zY.mp hq' with rfl | hq'
            . rw[ez] at he;cases he;exact Int.le_refl _
            . have:=hmin q' hq' e he;omega
          . refine⟨p,d,hp,fun q' hq' e he=>?_⟩
            rcases zY.mp hq' with rfl | hq'
            . rw[ez] at he;cases he;omega
            . exact hmin q' hq' e he
       . rcases zY.mp hq with rfl | hq
         . obtain⟨d,hd⟩:=zBM.mp hs
           refine⟨q,d,hd,fun q' hq' e he=>?_⟩
           rcases zY.mp hq' with rfl | hq'
           . rw[hd] at he;cases he;exact Int.le_refl _
           . exact absurd ⟨q',hq',by rw[he];rfl⟩ hr
         . exact absurd ⟨q,hq,hs⟩ hr
     obtain⟨p,d,hp,hmin⟩:=pick L (by
      apply zAv
      intro hno
      refine hw fun q=>?_
      cases e:wt q with
      | none=>rfl
      | some d=>exact absurd ⟨q,hL q d e,by rw[e];rfl⟩ hno)
     obtain⟨hn,h0,h1,hc,N⟩:=D.enter g hp (fun q e he=>hmin q (hL q e he) e he)
     have all:∀(ns:List (Int×Int))(wt':Int->Option Int)(seen:Int->Prop),Dn ts n x p d (kn.set p.toNat (some d)) wt' seen->(∃L:List Int,∀q e,wt' q=some e->q∈L)->(∀r l,(r,l)∈ns->Adj ts p r l) ->
      ∃(wt'':Int->Option Int)(seen':Int->Prop),Dn ts n x p d (kn.set p.toNat (some d)) wt'' seen'/\(∃L:List Int,∀q e,wt'' q=some e->q∈L)/\(∀r,seen r->seen' r)/\∀r l,(r,l)∈ns->seen' r:=by
      intro ns
      induction ns with
      | nil=>intro wt' seen N hL _;exact⟨wt',seen,N,hL,fun _ z=>z,fun r l z=>by simp at z⟩
      | cons t ns ih'=>
       intro wt' seen N hL' ha
       obtain⟨r,l⟩:=t
       have har:=ha r l zh
       have ha':∀r l,(r,l)∈ns->Adj ts p r l:=fun r l z=>ha r l (zX _ z)
       cases ek:fnl (kn.set p.toNat (some d)) r with
       | some f=>
        obtain⟨w2,s2,N2,L2,m2,a2⟩:=ih' wt' _ (N.skip ek) hL' ha'
        refine⟨w2,s2,N2,L2,fun q z=>m2 q (.inl z),fun q l' z=>?_⟩
        rcases zY.mp z with e | z
        . cases e;exact m2 _ (.inr rfl)
        . exact a2 q l' z
       | none=>
        obtain⟨L',hL'⟩:=hL'
        obtain⟨w2,s2,N2,L2,m2,a2⟩:=ih' _ _ (N.wait g har ek) ⟨r::L',fun q e he=>by
         by_cases e':q=r
         . rw[e'];exact zh
         . rw[if_neg e'] at he;exact zX _ (hL' q e he)⟩ ha'
        refine⟨w2,s2,N2,L2,fun q z=>m2 q (.inl z),fun q l' z=>?_⟩
        rcases zY.mp z with e | z
        . cases e;exact m2 _ (.inr rfl)
        . exact a2 q l' z
     have nbr:∃ns:List (Int×Int),(∀r l,(r,l)∈ns->Adj ts p r l)/\∀r l,Adj ts p r l->(r,l)∈ns:=by
      refine⟨(ts.filterMap fun t=>if t.1=p then some (t.2.1,t.2.2) else none)++(ts.filterMap fun t=>if t.2.1=p then some (t.1,t.2.2) else none),fun r l z=>?_,fun r l z=>?_⟩
      . rcases zn.mp z with z | z
        . obtain⟨⟨a,b,c⟩,ht,e⟩:=zA7.mp z
          split at e
          . rename_i c1
            have c1':a=p:=c1
            have e':=zU e
            simp only[Prod.mk.injEq] at e'
            obtain⟨rfl,rfl⟩:=e'
            subst c1'
            exact .inl ht
          . cases e
        . obtain⟨⟨a,b,c⟩,ht,e⟩:=zA7.mp z
          split at e
          . rename_i c1
            have c1':b=p:=c1
            have e':=zU e
            simp only[Prod.mk.injEq] at e'
            obtain⟨rfl,rfl⟩:=e'
            subst c1'
            exact .inr ht
          . cases e
      . rcases z with z | z
        . exact zAk _ (zA7.mpr ⟨_,z,by simp⟩)
        . exact zk _ (zA7.mpr ⟨_,z,by simp⟩)
     obtain⟨ns,hns1,hns2⟩:=nbr
     obtain⟨w2,s2,N2,L2,_,a2⟩:=all ns _ _ N ⟨L,fun q e he=>by
      by_cases e':q=p
      . rw[if_pos e'] at he;cases he
      . rw[if_neg e'] at he;exact hL q e he⟩ hns1
     exact ih _ _ (N2.leave fun r l ha=>a2 r l (hns2 r l ha)) (by omega) L2
 obtain⟨kn,K⟩:=ex n.toNat _ _ (Dl.start g hx hx') (by omega) ⟨[x],fun q e he=>by
  by_cases e':q=x
  . simp[e']
  . rw[if_neg e'] at he;cases he⟩
 have hy:(0<=y/\y<n)\/y=x:=by
  have:∀{x y d:Int},Way ts x y d->x=y\/(0<=y/\y<n):=by
   intro x y d w
   induction w with
   | nil=>exact .inl rfl
   | cons ha _ ih=>
    rcases ih with rfl | q
    . have:=g.adj ha;exact .inr ⟨this.2.2.1,this.2.2.2.1⟩
    . exact .inr q
  rcases this h.1 with e | q
  . exact .inr e.symm
  . exact .inl q
 have hy':0<=y/\y<n:=hy.elim id fun e=>by omega
 have hl:=K.len y hy'.1 hy'.2
 have hlen:=K.ln
 have hlt:y.toNat<kn.length:=by omega
 have e1:fnl kn y=kn[y.toNat]:=by
  unfold fnl
  rw[if_pos hy'.1,zC,zA hlt];rfl
 have e2:=Len.uniq hl (show Len ts x y (some d) from h)
 exact K.bd _ (zAq hlt) d (by rw[<-e1];exact e2)
theorem zMR (g:GW n ts){M:lLO}(h:Sqm n M)(f:Fw ts n (mat M))(c:Cov ts n n (mat M)):Rows ts n M:=by
 refine⟨h.ln,fun x hx hx'=>?_⟩
 obtain⟨r,h1,h2,h3⟩:=h.row hx hx'
 have e:∀y,mat M x y=fnl r y:=fun y=>by unfold mat;rw[if_pos hx,h2]
 rw[h2]
 refine⟨h3,fun y hy hy'=>by rw[<-e];exact f.len g c hx hx' hy hy',fun o ho d ed=>?_⟩
 obtain⟨j,hj,ej⟩:=zy ho
 have hf:fnl r (j:Int)=some d:=by
  unfold fnl
  rw[if_pos (by omega),zC,zAR,zA hj,ej,ed];rfl
 have hl:=f.len g c hx hx' (y:=(j:Int)) (by omega) (by omega)
 rw[e,hf] at hl
 exact zIN g x j hx hx' d hl
end WM
namespace WM
noncomputable def Btw (ts:List T3)(x y p:Int):Prop:=∃a b,IsD ts x p a/\IsD ts p y b/\IsD ts x y (a+b)
noncomputable def Nxt (ts:List T3)(x y p:Int):Prop:=∃l b,Adj ts x p l/\IsD ts p y b/\IsD ts x y (l+b)
variable {ts:List T3}{x y d:Int}
theorem Way.in_ {n:Int}(g:GW n ts)(w:Way ts x y d)(hx:0<=x)(hx':x<n):0<=y/\y<n:=by
 induction w with
 | nil=>exact⟨hx,hx'⟩
 | cons ha _ ih=>have:=g.adj ha;exact ih this.2.2.1 this.2.2.2.1
theorem Btw.self {n:Int}(g:GW n ts)(h:IsD ts x y d):Btw ts x y x:=⟨0,d,zHV g x,h,by rw[zAJ];exact h⟩
theorem Len.via {p a:Int}{o:Option Int}(h1:IsD ts x p a)(h2:IsD ts x y d)(h3:Len ts p y o):∃b,o=some b/\d<=a+b:=by
 cases o with
 | none=>exact absurd (h1.1.symm.trans h2.1) (h3 _)
 | some b=>exact⟨b,rfl,h2.2 _ (h1.1.trans h3.1)⟩
end WM
namespace WM
end WM
namespace L2
open PySem PySem.Spec PyProof.Rows
noncomputable def intO:KeyOrd:=⟨Int,fun a b=>decide (a<b),fun a=>zb (by omega),fun a b c h1 h2=>zP (by have:=of_decide_eq_true h1;have:=of_decide_eq_true h2;omega),
 fun a b c h=>by
  have h':a<c:=of_decide_eq_true h
  by_cases hab:a<b
  . exact .inl (zP hab)
  . exact .inr (zP (by omega)),
 fun a b h1 h2=>by have:=of_decide_eq_false h1;have:=of_decide_eq_false h2;omega⟩
variable {s:Shared}
theorem zGY {prog:Program}{w:World}{A:Around}{a:Addr}{vs:List Value}{ns:List Int}(hI:IntsAre vs ns)(h2:2<=vs.length) :
 SortT.Asks prog w A s a vs (O:=intO) (fun i=>ns.getD i 0) oneType':=by
 have hl:=hI.length
 have at_:∀i,i<vs.length->∃t,vs.getD i Value.none = .int (ns.getD i 0) t:=fun i hi=>by
  obtain⟨n,hn⟩:∃n,ns[i]? = some n:=⟨_,zA (by omega)⟩
  obtain⟨t,ht⟩:=hI.get i n hn
  exact⟨t,by rw[zC,zC,ht,hn];rfl⟩
 refine⟨fun h' Q E kh q=>?_,fun h' i j Q E kh hi hj q=>?_⟩
 . rw[ksk_kind (keys:=vs.toArray) (kz:=ns) (by simpa using hI) (by simpa using h2)]
   exact zJ q
 . obtain⟨t,e1⟩:=at_ i hi
   obtain⟨u,e2⟩:=at_ j hj
   rw[e1,e2]
   exact PySem.W.kat_lt_int q
theorem zHN {vs:List Value}{ns:List Int}{out:List Nat}(hI:IntsAre vs ns)(p:SortT.Put (O:=intO) (fun i=>ns.getD i 0) vs.length out) :
 ∃ms:List Int,ms.Perm ns/\ms.Pairwise (· <= ·)/\zBO (ms.map V.int) (out.map fun i=>vs.getD i Value.none)/\ms.length=ns.length:=by
 have hl:=hI.length
 have hb:∀i∈out,i<vs.length:=fun i hi=>zAW.mp (p.perm.mem_iff.mp hi)
 refine⟨out.map fun i=>ns.getD i 0,?_,?_,?_,?_⟩
 . have h1:=p.perm.map fun i=>ns.getD i 0
   have h2:(List.range vs.length).map (fun i=>ns.getD i 0)=ns:=by
    rw[show vs.length=ns.length by omega]
    apply List.ext_getElem?
    intro j
    rw[zN]
    by_cases hj:j<ns.length
    . rw[zB1 hj,zA hj];simp[hj]
    . rw[zA3 (by rw[zAB];omega),zA3 (by omega)];rfl
   rw[h2] at h1
   exact h1
 . refine zAV.mpr fun i j hi hj hij=>?_
   rw[zD] at hi hj
   have:=p.rise i j out[i] out[j] (zBw hij) (by simp) (by simp)
   have h3:decide (ns.getD out[j] 0<ns.getD out[i] 0)=false:=this
   have h4:=of_decide_eq_false h3
   rw[List.getElem_map,List.getElem_map]
   omega
 . have:∀l:List Nat,(∀i∈l,i<vs.length)->zBO ((l.map fun i=>ns.getD i 0).map V.int) (l.map fun i=>vs.getD i Value.none):=by
    intro l
    induction l with
    | nil=>intro _;exact .nil
    | cons i l ih=>
     intro h
     have hi:=h i zh
     obtain⟨n,hn⟩:∃n,ns[i]? = some n:=⟨_,zA (by omega)⟩
     obtain⟨t,ht⟩:=hI.get i n hn
     refine .cons ?_ (ih fun j hj=>h j (zX _ hj))
     show zBk (V.int (ns.getD i 0)) (vs.getD i Value.none)
     rw[zC,zC,ht,hn]
     exact⟨t,rfl⟩
   exact this out hb
 . rw[zD,p.perm.length_eq,zAB];omega
section
variable {X:Cx}
theorem zGO (hc:X.calm=true):zCS X (.builtin "sorted") (fun xs H Q=>∃p kvs ns,xs=[.ref p]/\H p=some (.dK kvs)/\kvs.map (·.1)=ns.map Sum.inl/\ns.length<64 /\
 ∀(l:Addr)(ms:List Int),H l=none->ms.Perm ns->ms.Pairwise (· <= ·)->Q (.ref l) (upd H l (.lst (ms.map V.int)))):=by
 intro pins s σ H xs us Q I r h
 obtain⟨p,kvs,ns,rfl,hd,hks,h64,q⟩:=h
 obtain⟨u,rfl,rx⟩:=zCq r
 cases rx
 obtain⟨hz,lo,vs,rel,o,es,ep,ho,hx,hdat,_,hpr,hnd⟩:=zJo I.hok hd
 have key:∀(es:List DictEntry)(kvs:List (Key×V))(vs:List (Key×Value))(ns:List Int),KV kvs vs->Pairs (zA9 X.prog X.w) es vs->kvs.map (·.1)=ns.map Sum.inl->IntsAre (es.map (·.key)) ns:=by
  intro es
  induction es with
  | nil=>
   intro kvs vs ns rel pr e
   cases pr
   cases rel
   cases ns with
   | nil=>exact .nil
   | cons n ns=>simp at e
  | cons d es ih=>
   intro kvs vs ns rel pr e
   cases pr with
   | cons k1 k2 k3=>
    cases rel with
    | cons hpq t=>
     cases ns with
     | nil=>simp at e
     | cons n ns=>
      simp only[zAA,List.cons.injEq] at e
      rw[<-hpq.1,e.1] at k1
      obtain⟨t0,e0⟩:=Value.isInt_shape (k:=n) (v:=d.key) k1
      rw[zAA,e0]
      exact .cons n t0 (ih _ _ _ t k3 e.2)
 have hI:IntsAre (es.toList.map (·.key)) ns:=key _ _ _ _ rel hpr hks
 have hl:=hI.length
 refine SortT.sorted_dict (O:=intO) (key:=fun i=>ns.getD i 0) (κ:=oneType') (vs:=es.toList.map (·.key)) (I.ok.hd hc) lo ⟨o,ho,hx,hdat⟩ rfl (by omega) (fun h2 s' a fa kp=>zGY hI h2) fun h1 D h' t' out c pt k1 hD k2 ho=>?_
 obtain⟨ms,hp,hr,rz,hlz⟩:=zHN hI pt
 have I1:Inv X pins σ H { s with heap:=h1,toks:=s.toks }:=I.kept k1
 refine⟨.ref D,_,zC4 (s:={ s with heap:=h1,toks:=s.toks }) (t':=t') I1 hD k2 ho rz ?_,rfl,q D ms (I1.hok.fresh hD) hp hr⟩
 have:sizeLine=16777216:=rfl
 rw[zD]
 omega
end
noncomputable def zKG (c:Addr)(q:Str):Heap->Prop:=fun h=>∃o vs t,h.get? c=some o/\o.data = .fields vs/\vs[1]? = some (.str q t)
noncomputable def zC7 (H:Hp)(P:Addr)(pos:Pos)(q:Str):Prop:=∃ps,H P=some (.tbl ps)/\TriplesOk ps.toList/\(codeAmong pos ps.toList=none\/∃c,codeAmong pos ps.toList=some (.ref c)/\H c=some (.ext (zKG c q)))
variable {H:Hp}{P:Addr}{pos:Pos}{q:Str}
theorem zC7.keep {H':Hp}(h:zC7 H P pos q)(k:∀o,H P=some o->H' P=some o)(k2:∀c φ,H c=some (.ext φ)->H' c=some (.ext φ)):zC7 H' P pos q:=by
 obtain⟨ps,a,b,c⟩:=h
 exact⟨ps,k _ a,b,c.imp id fun ⟨c,e,f⟩=>⟨c,e,k2 _ _ f⟩⟩
theorem zC7.same {H':Hp}(h:zC7 H P pos q)(k:zAo H H'):zC7 H' P pos q:=h.keep (fun _=>k _ _) fun _ _=>k _ _
noncomputable def zKH (mg:sOV)(h:Heap):Prop:=∃bm ob,mg "__builtins__" = some (.ref bm)/\bm≠builtinsNs/\h.get? bm=some ob/\ob.cls = .type "module" /\ ob.dict=some builtinsNs/\ob.data = .plain
theorem zLp {h:Heap}{a:Addr}{m m':sOV}(x:h.Ns a m)(y:h.Ns a m'):m=m':=by
 obtain⟨o,es,ep,e,d,_,f⟩:=x
 obtain⟨o',es',ep',e',d',_,f'⟩:=y
 rw[e] at e';cases e'
 rw[d] at d';cases d'
 funext n
 rw[<-f n,<-f' n]
section
variable {X:Cx}{pins:lPO}{σ:St}{H:Hp}{s:Shared}
theorem Inv.growL {Pt c':Addr}{ps more:Array Value}{o:HO}{t':Nat}{h':Heap}(I:Inv X pins σ H s)(hP:H Pt=some (.tbl ps))(hp:s.heap.objs.size<=c')(k:∀b u,b≠Pt->s.heap.get? b=some u->h'.get? b=some u)
 (newP:h'.get? Pt=some (PySem.W.tabObj (ps++more)))(new:zBP X.prog X.w (upd (upd H Pt (.tbl (ps++more))) c' o) h' c' o) :
 Inv X pins σ (upd (upd H Pt (.tbl (ps++more))) c' o) { s with heap:=h',toks:=t' }:=by
 have hc:H c'=none:=I.hok.fresh hp
 have nP:∀b,H b=none->b≠Pt:=fun b n z=>by rw[z,hP] at n;cases n
 have nc:∀b u,s.heap.get? b=some u->b≠c':=fun b u e=>zc (zm (zR e) hp)
 have up:∀b u,H b=some u->b≠Pt->(upd (upd H Pt (.tbl (ps++more))) c' o) b=some u:=fun b u e hb=>by rw[zf (zq e hc),zf hb];exact e
 refine I.un ⟨fun b u e n _ _=>k b u (nP b n) e,fun b u e n _ _=>⟨u.slots,k b u (nP b n) e⟩,fun b u e n _=>by rw[zf (nc b u e),zf (nP b n)];exact n,fun b u e _=>?_,fun b xs e=>up b _ e (zBv e hP (by intro z;cases z)),fun b ob u e=>up b _ e (zBv e hP (by intro z;cases z)),fun b qs e=>?_⟩ ?_
 . by_cases hb:b=Pt
   . rw[hb];exact⟨_,newP⟩
   . exact⟨u,k b u hb e⟩
 . by_cases hb:b=Pt
   . subst hb
     rw[hP] at e;cases e
     exact⟨more,by rw[zf (zq hP hc),zG]⟩
   . exact⟨#[],by rw[up b _ e hb];simp⟩
 . intro b u e
   by_cases hbc:b=c'
   . subst hbc;rw[zG] at e;cases e;exact new
   . rw[zf hbc] at e
     by_cases hb:b=Pt
     . subst hb;rw[zG] at e;cases e;exact newP
     . rw[zf hb] at e
       refine (I.hok b u e).stay (fun d v hd q=>k d v ?_ q) (fun d q=>up d _ q (zBv q hP (by intro z;cases z))) fun d xs q=>up d _ q (zBv q hP (by intro z;cases z))
       rcases hd with z | z
       . rw[z];exact hb
       . exact zBv z hP (by intro z';cases z')
end
theorem zNE {X:Cx}{sc:Scope}(h:(sc.names.all fun y=>y.2 != .free || X.env.kindOf y.1==some .cell)=true):∀y∈sc.names,y.2 = .free->X.env.kindOf y.1=some .cell:=fun y hy e=>by
 have a:=zB5.mp h y hy
 rw[e] at a
 simpa using a
theorem zJH {P:Program}{w:World}{K:PySem.W.Frag}{mg mb:sOV}{CX:CXT}{k:Nat}{fa a PT:Addr}{fd:FuncData}{x:Str}{sp:Sp}{s₁:Shared}{vs:List Value}{ns:List Int}
 (KX:K.In s₁.heap)(hns:s₁.heap.Ns mainGlobals mg)(hb:s₁.heap.Ns builtinsNs mb)(hbb:∀x:Str,x ≠ "__name__" -> mb x=bootBuiltins x) (hlim:s₁.heap.NoLimit)(hg:s₁.gens = #[])
 (ha:s₁.heap.get? a=some { cls:=.type "list",data:=.seq vs.toArray }) (hi:IntsAre vs ns)(hl:ns.length<=sizeLine)(hr:zC2 k callerA)
 (hT:s₁.heap.get? PT=some (PySem.W.tabObj #[]))(hC:isCodeTable s₁.heap PT)(hK:PySem.W.noTabs K=true)(hbm:zKH mg s₁.heap)
 (F:∀base:Heap,K.In base->base.Ns mainGlobals mg->zKH mg base->zAe P w K mg base CX k fa fd [x] sp)(hbind:∀(s:Shared)(u:Value),BindsTo s fd ⟨[u],[]⟩ [(x,u)])
 (hsp:∀H:Hp,H PT=some (.tbl #[])->SqL K H a (ns.map V.int)->sp [.ref a] H (fun v _=>v = .bl true) fun _ _ _=>False)
 (hCX:∀H e s',CX [] H s₁ (fun _ _ _=>False) e s'->False) :
 codeAny (model P w) callerA (.call (.ref fa) ⟨[.ref a],[]⟩) (fun r s'=>r = .ok (.ret (.bool true))/\OldK s₁.heap s'.heap/\s'.os=s₁.os/\AllBare s'.gens) s₁:=by
 have rv:=zFj hi
 have lenV:=hi.length
 have npa:PT≠a:=fun e=>by rw[e,ha] at hT;cases hT
 have kPT:K.lookup PT=none:=by
  cases q:K.lookup PT with
  | none=>rfl
  | some o=>
   have e:=KX PT o q
   rw[hT] at e
   cases e
   have h2:=zB5.mp hK (PT,_) (PySem.W.mem_of_lookupK q)
   exact absurd (show false=true from h2) zo
 have core:∀H:Hp,(∀b u,H b=some u->(b=PT/\u = .tbl #[])\/(b=a/\K.lookup a=none/\∃o xs,u = .frz o (.lst xs)))->H PT=some (.tbl #[])->SqL K H a (ns.map V.int)->HOk P w H s₁.heap ->
  codeAny (model P w) callerA (.call (.ref fa) ⟨[.ref a],[]⟩) (fun r s'=>r = .ok (.ret (.bool true))/\OldK s₁.heap s'.heap/\s'.os=s₁.os/\AllBare s'.gens) s₁:=by
  intro H hA hP hS hok
  have base_of:∀{b:Addr}{o:Obj},s₁.heap.get? b=some o->H b=none->(zKJ s₁.heap H).get? b=some o:=fun e n=>zK4 e n
  have noA:∀{b:Addr}{o:Obj},s₁.heap.get? b=some o->(∀ps,o.data ≠ .fields ps)->(∀ps n,o.data ≠ .seq ps n)->H b=none:=fun {b o} e d1 d2=>by
   cases q:H b with
   | none=>rfl
   | some u=>
    rcases hA b u q with ⟨rfl,_⟩ | ⟨rfl,_⟩
    . rw[hT] at e;cases e;exact absurd rfl (d1 #[])
    . rw[ha] at e;cases e;exact absurd rfl (d2 _ _)
  have nsK:∀{b:Addr}{m:sOV},s₁.heap.Ns b m->(zKJ s₁.heap H).Ns b m:=fun {b m} ⟨o,es,ep,e,d,r⟩=>⟨o,es,ep,base_of e (noA e (fun ps z=>by rw[d] at z;cases z) (fun ps n z=>by rw[d] at z;cases z)),d,r⟩
  have hKb:K.In (zKJ s₁.heap H):=fun b o e=>base_of (KX b o e) (by
   cases q:H b with
   | none=>rfl
   | some u=>
    rcases hA b u q with ⟨rfl,_⟩ | ⟨rfl,z,_⟩
    . rw[kPT] at e;cases e
    . rw[z] at e;cases e)
  have hBm:zKH mg (zKJ s₁.heap H):=by
   obtain⟨bm,ob,b1,b2,b3,b4,b5,b6⟩:=hbm
   exact⟨bm,ob,b1,b2,base_of b3 (noA b3 (fun ps z=>by rw[b6] at z;cases z) (fun ps n z=>by rw[b6] at z;cases z)),b4,b5,b6⟩
  have hM:Mod K mg (zKJ s₁.heap H):=⟨hKb,nsK hns,⟨mb,nsK hb,hbb⟩,let ⟨mc,h1,h2⟩:=hlim;⟨mc,nsK h1,h2⟩⟩
  have e0:zNS P w K mg (zKJ s₁.heap H) callerA [] s₁ H:=⟨rfl,hM,fun b o e=>zM1 e,Nat.le_of_eq (zJW _ _),trivial,fun b hb=>absurd (show b∈([]:List Addr) from hb) (by simp),hok,.of_eq hg⟩
  refine codeAny_mono ((F _ hKb (nsK hns) hBm).run callerA [] s₁ H ⟨[.ref a],[]⟩ [.ref a] [.ref a] _ _ hr e0 (hbind s₁ (.ref a)) (.cons rfl .nil) (hsp H hP hS)) fun r s' h=>?_
  cases r with
  | error e=>exact (hCX H e s' h).elim
  | ok fl=>
   cases fl with
   | next=>exact False.elim h
   | brk=>exact False.elim h
   | cont=>exact False.elim h
   | ret u=>
    obtain⟨v,H',os,bare,un,hok',r',q⟩:=h
    have q':v = .bl true:=q
    subst q'
    obtain rfl:u=Value.bool true:=r'
    obtain⟨more,hPn⟩:=un.tbls PT _ hP
    have objP:s'.heap.get? PT=some { cls:=.none,data:=.fields (#[]++more) }:=hok' PT _ hPn
    have keep:∀b o,b≠PT->s₁.heap.get? b=some o->s'.heap.get? b=some o:=fun b o hb e=>by
     cases q:H b with
     | none=>exact un.keep b o e q (by intro z;exact absurd (show b∈([]:List Addr) from z) (by simp)) (by simp)
     | some u=>
      rcases hA b u q with ⟨z,_⟩ | ⟨_,_,ob,xs,z⟩
      . exact absurd z hb
      . subst z
        have z2:=un.frzs b ob _ q
        obtain⟨e1,_⟩:=hok b _ q
        obtain⟨e2,_⟩:=hok' b _ z2
        rw[e] at e1;cases e1
        exact e2
    refine⟨rfl,⟨fun b o e=>?_,fun b o e=>?_⟩,os,bare⟩
    . by_cases hb:b=PT
      . subst hb
        rw[hT] at e;cases e
        exact .inr (.inl ⟨hC,rfl,#[],more,rfl,objP⟩)
      . exact .inl (keep b o hb e)
    . by_cases hb:b=PT
      . rw[hb];exact⟨_,objP⟩
      . exact⟨o,keep b o hb e⟩
 have okP:∀H:Hp,zBP P w H s₁.heap PT (.tbl #[]):=fun H=>hT
 cases hk:K.lookup a with
 | some o=>
  have e:=KX a o hk
  rw[ha] at e
  cases e
  refine core (fun b=>if b=PT then some (.tbl #[]) else none) (fun b u z=>?_) (if_pos rfl) (.inr ⟨_,vs.toArray,_,hk,rfl,rfl,rfl,by rw[zQ,lenV];exact hl,by simpa using rv⟩) (fun b u z=>?_)
  all_goals
   have z':(if b=PT then some (HO.tbl #[]) else none)=some u:=z
   by_cases hb:b=PT
   . rw[if_pos hb] at z';cases z'
     first
      | exact .inl ⟨hb,rfl⟩
      | (subst hb;exact okP _)
   . rw[if_neg hb] at z';cases z'
 | none=>
  refine core (fun b=>if b=PT then some (.tbl #[]) else if b=a then some (.frz { cls:=.type "list",data:=.seq vs.toArray } (.lst (ns.map V.int))) else none) (fun b u z=>?_) (if_pos rfl)
   (.inl (.inr ⟨{ cls:=.type "list",data:=.seq vs.toArray },by show (if a=PT then _ else if a=a then _ else _)=_;rw[if_neg npa.symm,if_pos rfl]⟩)) (fun b u z=>?_)
  all_goals
   have z':(if b=PT then some (HO.tbl #[]) else if b=a then some (.frz { cls:=.type "list",data:=.seq vs.toArray } (.lst (ns.map V.int))) else none)=some u:=z
   by_cases hb:b=PT
   . rw[if_pos hb] at z';cases z'
     first
      | exact .inl ⟨hb,rfl⟩
      | (subst hb;exact okP _)
   . rw[if_neg hb] at z'
     by_cases hba:b=a
     . rw[if_pos hba] at z';cases z'
       first
        | exact .inr ⟨hba,hk,_,_,rfl⟩
        | (subst hba;exact⟨ha,by rw[zD];exact hl,vs,_,rv,ha⟩)
     . rw[if_neg hba] at z';cases z'
variable {x:Str}
theorem walk_T {l:PySem.W.OpenLaw}{n k:Nat}{q:Program}{loose:List Str}{XP:(Str->Option Value)->Heap->Prop}{YP:World->Heap->Prop}{d:DefRec}{K:Params->PySem.W.Frag}{CX:CXT}{sp:PySem.W.Frag->Addr->Sp}{tn:Str}
 (hn:l.most=some n)(hn2:n<=sizeLine)(hdf:d.params.defaults=[])(hr:zC2 k callerA)(hrec:∃dn,(recsOf q).find? (fun e=>e.name==tn)=some dn)
 (hY:∀(w:World)(h:Heap),YP w h->(K w.params).In h)
 (F:∀(w:World)(mg:sOV)(fa:Addr)(h:Heap),(K w.params).In h->h.Ns mainGlobals mg->mg d.name=some (.ref fa) ->
  ∃(fd:FuncData)(c PT:Addr),PySem.W.tabIn (K w.params) tn=some (c,PT)/\PySem.W.noTabs (K w.params)=true/\(∀(s:Shared)(u:Value),BindsTo s fd ⟨[u],[]⟩ [(x,u)]) /\
   ∀base:Heap,(K w.params).In base->base.Ns mainGlobals mg->zKH mg base->zAe l.prog w (K w.params) mg base CX k fa fd [x] (sp (K w.params) PT))
 (hsp:∀(K:PySem.W.Frag)(PT:Addr)(H:Hp)(a:Addr)(ns:List Int),ns.length<=n->H PT=some (.tbl #[])->SqL K H a (ns.map V.int)->sp K PT [.ref a] H (fun v _=>v = .bl true) fun _ _ _=>False)
 (hCX:∀(H:Hp)(s:Shared)(e:Value)(s':Shared),CX [] H s (fun _ _ _=>False) e s'->False) :
 PySem.W.WalkO q loose XP YP l.row.toRowW d [] (fun f vs=>PySem.call f vs):=by
 refine Att.attach_call hn hdf fun w s₀ s₁ mg mb fa o pm cd doc a vs ns G Y ho hd hcd hmg hobj hints hlen hg=>?_
 have KX:=hY w _ Y
 obtain⟨fd,c,PT,htab,hnt,hb,hF⟩:=F w mg fa _ KX G.T.g hmg
 obtain⟨dn,hdn⟩:=hrec
 obtain⟨C,hPT⟩:=PySem.W.tab_of G.T KX hdn htab
 exact zJH KX G.T.g G.T.b G.T.builtins G.T.nolimit hg hobj hints (zx hlen hn2) hr hPT (C.tab hPT).isCodeTable hnt G.T.bmain hF hb (fun H hP hS=>hsp _ PT H a ns hlen hP hS) fun H e s'=>hCX H s₁ e s'
structure zLT (K:PySem.W.Frag)(x qual:Str)(st:Stmt)(f:Addr)(fd:FuncData)(c:Addr):Prop where
 ex:∃(oc:Value)(od:Option Addr)(kV doc pm:Value)(an:Option Addr)(ct:Value)(osl:Array (Option Value)),
  fd=PySem.W.fnOf x qual (defArgs st) (defBody st) (defScope st) .none kV doc pm an (.ref c) ct/\K.lookup f=some ⟨oc,od,.func fd,osl⟩/\PySem.W.codeIn K (.ref c) qual=true
 kp:PySem.W.keepIn K (.ref f)=true
variable {K:PySem.W.Frag}{qual:Str}{st:Stmt}{f c:Addr}
theorem zLT.fn {fd:FuncData}(F:zLT K x qual st f fd c):Fun K x qual st f fd:=by
 obtain⟨oc,od,kV,doc,pm,an,ct,osl,h⟩:=F.ex
 exact⟨⟨oc,od,kV,doc,pm,an,.ref c,ct,osl,h⟩,F.kp⟩
theorem zLT.ok {P:Program}{w:World}{mg:sOV}{base:Heap}{fd:FuncData}{N ps:List Str}{k:Nat}{sp:Sp}(F:zLT K x qual st f fd c)(S:zAD N ps (defScope st))(len:∀vs H Q E,sp vs H Q E->vs.length=ps.length)
 (hbody:∀(A:Around)(outer:List Env)(s:Shared)(H:Hp)(vs:List V)(Q:VK)(E:XK),zC2 k (A.deeper (envOfC qual (defScope st) s.heap.objs.size f (.ref c)))->sp vs H Q E ->
  ∃t,PSs (zGf CX0 P w K mg base N qual (defScope st) f (.ref c) A outer s H E).nox (defBody st) t/\t { nx:=fun _ H'=>Q .non H',rt:=Q } (start N vs) H):zAe P w K mg base CX0 (k+1) f fd ps sp:=by
 obtain⟨oc,od,kV,doc,pm,an,ct,osl,rfl,lk,hcd⟩:=F.ex
 refine zNG lk hcd S len fun A outer s H vs Q E hr hsp=>?_
 obtain⟨t,h,q⟩:=hbody A outer s H vs Q E hr hsp
 exact⟨t,h.nox,q⟩
theorem zND {oc:Value}{od an:Option Addr}{osl:Array (Option Value)}{kV doc pm ct:Value}(l:K.lookup f=some ⟨oc,od,.func (PySem.W.fnOf x qual (defArgs st) (defBody st) (defScope st) .none kV doc pm an (.ref c) ct),osl⟩)
 (hc:PySem.W.codeIn K (.ref c) qual=true)(k:PySem.W.keepIn K (.ref f)=true):zLT K x qual st f (PySem.W.fnOf x qual (defArgs st) (defBody st) (defScope st) .none kV doc pm an (.ref c) ct) c:=⟨⟨oc,od,kV,doc,pm,an,ct,osl,rfl,l,hc⟩,k⟩
section
variable {κ:Type} [DecidableEq κ]
theorem zKx {kvs:List (κ×V)}{k:κ}{v:V}{kv:κ×V}(h:kv∈zDL kvs k v):kv∈kvs\/kv=(k,v):=by
 unfold zDL at h
 split at h
 . obtain⟨q,hq,e⟩:=zv.mp h
   by_cases hk:q.1=k
   . rw[if_pos hk] at e;rw[<-e,hk];exact .inr rfl
   . rw[if_neg hk] at e;rw[<-e];exact .inl hq
 . rcases zn.mp h with q | q
   . exact .inl q
   . exact .inr (zj.mp q)
theorem nd_put {kvs:List (κ×V)}{k:κ}{v:V}(h:(kvs.map (·.1)).Nodup):((zDL kvs k v).map (·.1)).Nodup:=by
 cases e:zCd kvs k with
 | none=>exact zI9 v h e
 | some x=>
  have ha:(kvs.any fun kv=>decide (kv.1=k))=true:=by rw[zCB,e];rfl
  unfold zDL
  rw[if_pos ha]
  have e3:(kvs.map fun kv=>if kv.1=k then (kv.1,v) else kv).map (·.1)=kvs.map (·.1):=by
   rw[List.map_map]
   refine zBW fun kv _=>?_
   show (if kv.1=k then (kv.1,v) else kv).1=kv.1
   split <;> rfl
  rw[e3];exact h
theorem zFl (k j:κ):∀kvs:List (κ×V),zCd (zCQ kvs k) j=if j=k then none else zCd kvs j
 | []=>by show (none:Option V)=_;split <;> rfl
 | p::r=>by
  have ih:=zFl k j r
  by_cases e:p.1=k
  . rw[zGI e,ih]
    by_cases hj:j=k
    . rw[if_pos hj,if_pos hj]
    . rw[if_neg hj,if_neg hj,zBU fun z=>hj (z.symm.trans e)]
  . rw[zGJ e]
    by_cases hj:p.1=j
    . rw[zBa hj,zBa hj,if_neg fun z=>e (hj.trans z)]
    . rw[zBU hj,zBU hj,ih]
end
noncomputable def unkW:Key->Int
 | .inl i=>i
 | .inr _=>0
structure WD (n:Int)(kvs:List (Key×V))(wt:Int->Option Int):Prop where
 sh:∀kv∈kvs,∃p d,kv=(Sum.inl p,V.int d)/\0<=p/\p<n
 nd:(kvs.map (·.1)).Nodup
 at_:∀p:Int,zCd kvs (Sum.inl p)=(wt p).map V.int
noncomputable def zEg (kvs:List (Key×V)):List Int:=kvs.map fun kv=>unkW kv.1
variable {n:Int}{kvs:List (Key×V)}{wt:Int->Option Int}
theorem WD.keys (h:WD n kvs wt):kvs.map (·.1)=(zEg kvs).map Sum.inl:=by
 unfold zEg
 rw[List.map_map]
 refine zBW fun kv hkv=>?_
 obtain⟨p,d,e,_⟩:=h.sh kv hkv
 rw[e];rfl
theorem WD.nds (h:WD n kvs wt):(zEg kvs).Nodup:=by
 have e:=h.nd
 rw[h.keys,List.Nodup,zAs] at e
 exact e.imp fun h e'=>h (by rw[e'])
theorem WD.len (h:WD n kvs wt)(h0:0<=n):(kvs.length:Int)<=n:=by
 have:=WM.nd_len (n:=n.toNat) h.nds fun x hx=>by
  obtain⟨kv,hkv,e⟩:=zv.mp hx
  obtain⟨p,d,e2,h1,h2⟩:=h.sh kv hkv
  have:x=p:=by rw[<-e,e2];rfl
  omega
 unfold zEg at this
 rw[zD] at this
 omega
variable {p:Int}
theorem WD.mem (h:WD n kvs wt):p∈zEg kvs↔∃e,wt p=some e:=by
 have e:p∈zEg kvs↔(Sum.inl p:Key)∈kvs.map (·.1):=by
  rw[h.keys]
  constructor
  . intro m;exact zv.mpr ⟨p,m,rfl⟩
  . intro m
    obtain⟨q,hq,e⟩:=zv.mp m
    cases e;exact hq
 rw[e]
 have ha:=h.at_ p
 constructor
 . intro m
   cases hw:wt p with
   | some d=>exact⟨d,rfl⟩
   | none=>rw[hw] at ha;exact absurd m (zG7 ha)
 . rintro ⟨d,hw⟩
   rw[hw] at ha
   exact zLx ha
theorem WD.one {s:Int}(h0:0<=s)(h1:s<n):WD n [(Sum.inl s,V.int 0)] (fun q=>if q=s then some 0 else none):=by
 refine⟨fun kv hkv=>?_,by simp,fun p=>?_⟩
 . rw[zj.mp hkv];exact⟨s,0,rfl,h0,h1⟩
 . by_cases e:p=s
   . rw[if_pos e,e];exact zBa rfl
   . rw[if_neg e];exact (zBU fun z=>e (Sum.inl.inj z).symm).trans zKO
theorem WD.put (h:WD n kvs wt){d:Int}(h0:0<=p)(h1:p<n):WD n (zDL kvs (Sum.inl p) (.int d)) (fun q=>if q=p then some d else wt q):=by
 refine⟨fun kv hkv=>?_,nd_put h.nd,fun q=>?_⟩
 . rcases zKx hkv with z | z
   . exact h.sh kv z
   . exact⟨p,d,z,h0,h1⟩
 . rw[zKN]
   by_cases e:q=p
   . rw[if_pos e,if_pos (by rw[e])];rfl
   . rw[if_neg e,if_neg fun z=>e (Sum.inl.inj z)];exact h.at_ q
theorem WD.drop (h:WD n kvs wt):WD n (zCQ kvs (Sum.inl p)) (fun q=>if q=p then none else wt q):=by
 refine⟨fun kv hkv=>h.sh kv (zGK hkv),zFR h.nd,fun q=>?_⟩
 rw[zFl]
 by_cases e:q=p
 . rw[if_pos e,if_pos (by rw[e])];rfl
 . rw[if_neg e,if_neg fun z=>e (Sum.inl.inj z)];exact h.at_ q
noncomputable def oV:Option Int->V
 | none=>.non
 | some d=>.int d
theorem zF8 {n:Nat}{i:Int}(h0:0<=i)(h1:i<n):ixN n i=some i.toNat:=by
 unfold ixN
 rw[if_pos h0,if_pos h1]
theorem zBH {α:Type}{xs:List α}{i:Int}{v:α}(h0:0<=i)(h:xs[i.toNat]? = some v):atI xs i=some v:=by
 have:=zBh h
 rwa [Int.toNat_of_nonneg h0] at this
theorem zC7.chg {l:Addr}{o:HO}{xs:List V}(T:zC7 H P pos q)(h:H l=some (.lst xs)):zC7 (upd H l o) P pos q:=by
 obtain⟨ps,hps,_⟩:=id T
 refine T.keep (fun u hu=>?_) fun c φ hc=>?_
 . rw[zf (zBv hps h (by intro z;cases z))];exact hu
 . rw[zf (zBv hc h (by intro z;cases z))];exact hc
theorem zK2 {xs ys:List Int}:((List.range (min xs.length ys.length)).all (fun j=>xs.getD j 0==ys.getD j 0) && xs.length==ys.length)=decide (xs=ys):=by
 by_cases h:xs=ys
 . subst h;simp
 . rw[zb h]
   by_cases hl:xs.length=ys.length
   . have:∃j,j<xs.length/\xs.getD j 0≠ys.getD j 0:=by
      apply zAv
      intro hn
      refine h (List.ext_getElem hl fun j h1 h2=>?_)
      apply zAv
      intro hne
      exact hn ⟨j,h1,by simpa [zC,h1,h2] using hne⟩
     obtain⟨j,hj,hne⟩:=this
     rw[Bool.and_eq_false_iff]
     left
     rw[List.all_eq_false]
     exact⟨j,by rw[zAW];omega,by simpa using hne⟩
   . simp[hl]
section
variable {X:Cx}
theorem eqAts {A:Around}{us ws:List Value}{xs ys:List Int}(h1:IntsAre us xs)(h2:IntsAre ws ys)(j:Nat)(a:j<us.toArray.size)(b:j<ws.toArray.size):SeqAt.EqAt A s us.toArray[j] ws.toArray[j] (xs.getD j 0==ys.getD j 0):=by
 have l1:=h1.length
 have l2:=h2.length
 rw[zQ] at a b
 obtain⟨n,hn⟩:∃n,xs[j]? = some n:=⟨_,zA (by omega)⟩
 obtain⟨m,hm⟩:∃m,ys[j]? = some m:=⟨_,zA (by omega)⟩
 obtain⟨t,ht⟩:=h1.get j n hn
 obtain⟨u,hu⟩:=h2.get j m hm
 have e1:us.toArray[j] = .int n t:=by
  rw[zA a] at ht
  simpa using zU ht
 have e2:ws.toArray[j] = .int m u:=by
  rw[zA b] at hu
  simpa using zU hu
 rw[e1,e2,zC,zC,hn,hm]
 exact SeqAt.EqAt.int_int n t m u
end
section
variable {X:Cx}
theorem zEU (hc:X.calm=true):zCS X (.builtin "sum") (fun xs H Q=>∃(p:Addr)(ns:List Int),xs=[.ref p]/\SqL X.K H p (ns.map V.int)/\Q (.int ns.sum) H):=by
 intro pins s σ H xs us Q I r h
 obtain⟨p,ns,rfl,hq,q⟩:=h
 obtain⟨u,rfl,rx⟩:=zCq r
 cases rx
 obtain⟨its,r',pl,hz⟩:=I.list hq
 have hi:=zBS r'
 have hl:=pl.isList
 obtain⟨zs,ez⟩:=hi.allInts.items
 have en:=hi.numsOf
 rw[ez] at hl
 have es:preSum (numAt zs) zs.size=ns.sum:=by
  rw[preSum_eq,zZ (by simp),<-en,show its=its.toArray.toList from rfl,ez,nums_intItems]
 refine sum_intListG (I.ok.hd hc) hl fun h' tk t' hk=>⟨.int ns.sum,H,I.kept hk,⟨t',?_⟩,q⟩
 rw[es]
end
noncomputable def zFZ (scope:Scope)(yc:Str)(cl:List (Str×Addr))(C:Addr)(env:Env):Env:=
 { scope:=relabel scope env,locals:=C,globals:=env.globals,cells:=(yc,C+1)::cl,qual:=env.qual,func:=none,code:=env.code,frame:=env.frame,builtins:=env.builtins }
variable {cl:List (Str×Addr)}
theorem zKt {M:Model}{A:Around}{E:vSP}{scope:Scope}{globals:Addr}{yc:Str}{env:Env}{Q:Env->Shared->Prop}(hcf:∀n acc,cellsFrom n scope.names acc=(yc,n)::acc)
 (hQ:∀h':Heap,h'.Ns s.heap.objs.size (fun _=>none)->(∀b o,s.heap.get? b=some o->h'.get? b=some o)->h'.IsCell (s.heap.objs.size+1) none ->
  Q (newEnv scope s.heap.objs.size globals ((yc,s.heap.objs.size+1)::cl) qual none .none (some env) builtinsNs) { s with heap:=h',toks:=s.toks }) :
 wpAny M A (newFunctionEnv scope globals cl [] qual none .none (some env)) Q E s:=by
 simp only[newFunctionEnv,Option.isSome_some,if_true]
 refine zB (wpAny_alloc ?_)
 refine zB (wpAny_layCells _ (fun name kind cells=>by cases hkc:kind==NameKind.cell <;> simp[hkc]) _ _ _ _ ?_)
 have ok:=cellsFrom_ok scope.names (s.heap.push { cls:=.type "dict",data:=.dict #[] }) (s.heap.objs.size+1) [] ⟨fun _ _ hm=>(nomatch hm),List.Pairwise.nil⟩ (by rw[zAi];exact zH _)
 rw[zAi] at ok
 rw[show ({ s with heap:=s.heap.push { cls:=.type "dict",data:=.dict #[] } }:Shared).heap.objs.size=s.heap.objs.size+1 from zAi ..]
 rw[hcf] at ok ⊢
 refine zB ?_
 rw[List.forIn_nil]
 refine zJ (zJ ?_)
 exact hQ _ ((Heap.Ns.new s.heap (.type "dict")).keeps (pushCells_keeps _ _)) (fun b o e=>pushCells_keeps _ _ b o (zI _ e)) (ok.empty _ _ zh).1
noncomputable def zCa (X:Cx)(pl:lPO)(N':List Str)(scope:Scope)(yc:Str)(fp:List Addr)(s3:Shared)(H3:Hp):Cx where
 prog:=X.prog
 w:=X.w
 K:=X.K
 mg:=X.mg
 base:=X.base
 A:=X.A
 N:=N'
 s₀:=s3
 H₀:=H3
 env:=zFZ scope yc (zDB X.env.cells scope.names []) s3.heap.objs.size X.env
 outer:=X.stack
 stack:=X.stack
 ex:=fp
 fn:=fun x=>x==yc
 calm:=X.calm
 pn:=pl
 xe:=fun _ _=>False
structure zDg (X:Cx)(scope:Scope)(yc:Str):Prop where
 kind:scope.kind = .function
 cf:∀n acc,cellsFrom n scope.names acc=(yc,n)::acc
 own:scope.names.lookup yc=some .cell
 one:∀y∈scope.names,y.2 = .cell->y.1=yc
 names:∀y∈scope.names,y.2 = .local->scope.names.lookup y.1=some .local
 free:∀y∈scope.names,y.2 = .free->X.env.kindOf y.1=some .cell
section
variable {X:Cx}{pins:lPO}{σ:St}{H3:Hp}{s3:Shared}{scope:Scope}{fp:List Addr}{N' own cn:List Str}{ci:List Nat}{cv:List V}{yc:Str}
theorem look1 {n:Addr}(h:((yc,n)::cl).lookup x=some c):(x=yc/\c=n)\/(x≠yc/\cl.lookup x=some c):=by
 rw[zAx] at h
 cases hx:x==yc with
 | true=>rw[hx] at h;cases h;exact .inl ⟨by simpa using hx,rfl⟩
 | false=>rw[hx] at h;exact .inr ⟨by simpa using hx,h⟩
theorem zHS {n:Addr}(h:x≠yc):((yc,n)::cl).lookup x=cl.lookup x:=by
 rw[zAx,show (x==yc)=false by simpa using h]
theorem zGN (ok:X.Ok)(S:zDg X scope yc){n:Addr}(h:(relabel scope X.env).names.lookup x=some .cell\/(relabel scope X.env).names.lookup x=some .free) :
 ∃c,((yc,n)::zDB X.env.cells scope.names []).lookup x=some c:=by
 by_cases hxy:x=yc
 . subst hxy
   exact⟨n,by rw[zAx,beq_self_eq_true]⟩
 rw[zHS hxy]
 have e:(relabel scope X.env).names.lookup x=(scope.names.lookup x).map fun k=>if (k==NameKind.free && X.env.scope.kind == .function && X.env.kindOf x==some .cell)=true then NameKind.cell else k:=zBs scope.names
 have hf:scope.names.lookup x=some .free:=by
  cases q:scope.names.lookup x with
  | none=>rw[e,q] at h;simp at h
  | some k=>
   by_cases hk:k = .free
   . rw[hk]
   . have hb:(k==NameKind.free)=false:=by simpa using hk
     rw[e,q] at h
     simp only[zAp,hb,Bool.false_and,zBf,if_false,Option.some.injEq] at h
     rcases h with h | h
     . exact absurd (S.one _ (PySem.mem_of_lookup q) h) hxy
     . exact absurd h hk
 exact zC6 (ok.has x (.inl (S.free _ (PySem.mem_of_lookup hf) rfl))) scope.names [] (PySem.mem_of_lookup hf)
theorem zC5 (I:Inv X pins σ H3 s3){n:Addr}(h:((yc,n)::zDB X.env.cells scope.names []).lookup x=some c):(x=yc/\c=n)\/(x≠yc/\X.env.cells.lookup x=some c/\c<s3.heap.objs.size):=by
 rcases look1 h with z | ⟨z,e⟩
 . exact .inl z
 . have e':=zC1 e
   obtain⟨v,o,ho,_⟩:=I.cell x c e'
   exact .inr ⟨z,e',zR ho⟩
theorem zLN (I:Inv X pins σ H3 s3)(S:zDg X scope yc)(f:∀b∈fp,zG6 X pins H3 b)(fz:∀b∈fp,b<s3.heap.objs.size):(zCa X (X.pn++pins) N' scope yc fp s3 H3).Ok where
 mod:=I.ok.mod
 kind:=S.kind
 glob:=I.ok.glob
 blt:=I.ok.blt
 above:=zH _
 inj:=fun x y c h1 h2=>by
  rcases zC5 I h1 with ⟨a,b⟩ | ⟨a,b,d⟩ <;> rcases zC5 I h2 with ⟨a',b'⟩ | ⟨a',b',d'⟩
  . rw[a,a']
  . rw[b] at d';exact absurd d' (Nat.not_lt.mpr (zA6 _))
  . rw[b'] at d;exact absurd d (Nat.not_lt.mpr (zA6 _))
  . exact I.ok.inj x y c b b'
 has:=fun x h=>zGN I.ok S h
 cab:=fun x c h e=>by
  have hx:x=yc:=by simpa using (show (x==yc)=true from h)
  rcases zC5 I e with ⟨_,b⟩ | ⟨a,_⟩
  . rw[b];exact zA6 _
  . exact absurd hx a
 hd:=I.ok.hd
 frames:=I.ok.frames
 stk:=.inl rfl
 exf:=fun b hb=>⟨zc (fz b hb),fun x c h=>by
  have:=fz b hb
  rcases zC5 I h with ⟨_,d⟩ | ⟨_,d,_⟩
  . intro z
    rw[<-z,d] at this;exact absurd this (Nat.not_lt.mpr (zA6 _))
  . exact (f b hb).2.2.2.2.1 x c d⟩
 bs:=I.bs
 bsz:=zx I.ok.bsz I.sz
 noex:=fun b o e hb=>by
  rcases (f b hb).2.2.2.1 with z | z
  . exact I.ok.noex b o e z
  . exact absurd (zm (zR e) (zx I.ok.bsz z)) (zBz _)
 exfs:=fun b hb z=>by
  rcases zY.mp (I.stkSub b z) with q | q
  . exact (f b hb).2.1 q
  . exact (f b hb).2.2.1 q
 funs:=I.stack
 frf:=I.stkFree
theorem zJx {h1:Heap}{t:Nat}(I:Inv X pins σ H3 s3)(S:zDg X scope yc)(f:∀b∈fp,zG6 X pins H3 b)(fz:∀b∈fp,b<s3.heap.objs.size)
 (hN:N'=own++cn)(hc:zEZ X scope cn ci)(hv:ci.map (fun j=>σ[j]?)=cv.map fun v=>some (some v))(hl:cn.length=ci.length)
 (hns:h1.Ns s3.heap.objs.size (fun _=>none))(hk:∀b o,s3.heap.get? b=some o->h1.get? b=some o)(hcl:h1.IsCell (s3.heap.objs.size+1) none) :
 Inv (zCa X (X.pn++pins) N' scope yc fp s3 H3) [] (List.replicate own.length none++cv.map some) H3 { s3 with heap:=h1,toks:=t }:=by
 have lenv:cv.length=ci.length:=by
  have:=congrArg List.length hv
  simpa using this.symm
 refine⟨zLN I S f fz,rfl,I.bare,Un.kept hk,⟨_,hns,fun i x v e1 e2 e3=>?_⟩,fun x c e=>?_,I.hok.fresh (zH _),fun x c e=>?_,fun p hp=>?_,I.hok.kept hk,?_⟩
 . -- a captured name
   have hi:own.length<=i:=by
    by_cases hi:own.length<=i
    . exact hi
    . rw[zd (by simpa using hi),zA8] at e2
      split at e2 <;> cases e2
   rw[zV (by simpa using hi),zAT,zN] at e2
   have e1':(own++cn)[i]? = some x:=by rw[<-hN];exact e1
   rw[zV hi] at e1'
   obtain⟨j,hj,hNj,hkx,hfr⟩:=hc.get e1'
   have hcv:cv[i-own.length]? = some v:=by
    cases q:cv[i-own.length]? with
    | none=>rw[q] at e2;cases e2
    | some v'=>rw[q] at e2;cases e2;rfl
   have hσ:σ[j]? = some (some v):=by
    have:=congrArg (fun l:List (Option (Option V))=>l[i-own.length]?) hv
    simp only[zN,hj,hcv,zAp,Option.some.injEq] at this
    exact this
   obtain⟨m,_,hl'⟩:=I.loc
   obtain⟨u,r,q⟩:=hl' j x v hNj hσ (.inr (.inl hkx))
   have hkd:(relabel scope X.env).names.lookup x=some .cell\/(relabel scope X.env).names.lookup x=some .free:=by
    have e:(relabel scope X.env).names.lookup x=(scope.names.lookup x).map fun k=>if (k==NameKind.free && X.env.scope.kind == .function && X.env.kindOf x==some .cell)=true then NameKind.cell else k:=zBs scope.names
    rw[e,hfr,zAp]
    by_cases cc:(NameKind.free==NameKind.free && X.env.scope.kind == .function && X.env.kindOf x==some .cell)=true
    . rw[if_pos cc];exact .inl rfl
    . rw[if_neg cc];exact .inr rfl
   obtain⟨c',hc'⟩:=zGN (n:=s3.heap.objs.size+1) I.ok S hkd
   have hxy:x≠yc:=fun z=>by rw[z,S.own] at hfr;cases hfr
   refine⟨u,r,.inr ⟨hkd,c',hc',?_⟩⟩
   rcases q with ⟨z,_⟩ | ⟨_,c,hcc,o,ho,hd⟩
   . rw[hkx] at z;cases z
   . have e:c=c':=zU (hcc.symm.trans (zC1 ((zHS hxy).symm.trans hc')))
     subst e
     exact⟨o,hk c o ho,hd⟩
 . rcases zC5 I e with ⟨_,d⟩ | ⟨_,d,_⟩
   . rw[d];exact⟨_,hcl⟩
   . obtain⟨v,o,ho,hd⟩:=I.cell x c d
     exact⟨v,o,hk c o ho,hd⟩
 . rcases zC5 I e with ⟨_,d⟩ | ⟨_,d,_⟩
   . rw[d];exact I.hok.fresh (zA6 _)
   . exact I.freeC x c d
 . have hp':p∈X.pn++pins:=by rw[zp] at hp;exact hp
   obtain⟨e,n,ne,nf,d⟩:=I.pin p hp'
   refine⟨hk _ _ e,n,zc (zR e),fun z=>?_,d⟩
   rcases zY.mp (I.stkSub p.1 z) with q | q
   . exact ne q
   . exact nf q
 . show (List.replicate own.length none++cv.map some).length=N'.length
   rw[hN,zL,zL,zAT,zD,lenv,hl]
theorem zID {elt target iter:Expr}{ifs:List Expr}{cpos:Pos}{wi:TI}{g:TG}{ti:TT}{te:TE}{use:Option (Value->Sem Unit)}{Q0:vSP}{Q:VK}(hcalm:X.calm=true)(S:zDg X scope yc)(hc:zEZ X scope cn ci)(hl:cn.length=ci.length)
 (hi:PI X target iter wi)(hg:∀pl fp s3 H3,PG (zCa X pl (own++cn) scope yc fp s3 H3) target g)(ht:∀pl fp s3 H3,PTs (zCa X pl (own++cn) scope yc fp s3 H3) ifs ti)
 (he:∀pl fp s3 H3,PE (zCa X pl (own++cn) scope yc fp s3 H3) elt te)(hs:∀x,foldedSetIterable iter X.env x=pure x)(I:Inv X pins σ H s)(h:zIU own.length ci wi g ti te σ H Q)
 (fin:∀(D C:Addr)(H5:Hp)(s6:Shared)(m6:sOV),Inv X pins σ H5 s6->s6.heap.Ns C m6->H5 C=none->C≠X.env.locals->X.s₀.heap.objs.size<=C->(∀x c,X.env.cells.lookup x=some c->c≠C) ->
  (∀p∈X.pn++pins,p.1≠C)->Q (.ref D) H5->compPost (model X.prog X.w) X.A X.xe use Q0 (.ref D) C (.ok .next) s6) :
 wpAny (model X.prog X.w) X.A (comprehension (.ListComp elt [⟨target,iter,ifs,0⟩] scope pos) scope X.env cpos (newList []) false (eval iter X.env) use) Q0 X.xe s:=by
 have hcl:closureFor scope X.env=pure (zDB X.env.cells scope.names []):=zCl fun y hy hf=>I.ok.has y.1 (.inl (S.free y hy hf))
 refine wpAny_comprehension_free (use:=use) rfl hs hcl S.kind S.names ?_
 refine thn (hi pins s σ H _ I h) fun v s1 h1=>thn h1 fun itv s2 h2=>?_
 obtain⟨it,fp,tn,J,H2,e,I2,T,st2,f2,cv,hv,hD⟩:=h2
 subst e
 have lenv:cv.length=ci.length:=by
  have:=congrArg List.length hv
  simpa using this.symm
 have I3:=I2.lnew (ys:=[]) (its:=[]) (t':=s2.toks) .nil (zi _)
 obtain⟨W,⟨m0,w0⟩,turn⟩:=hD s2.heap.objs.size I2.fresh
 have fz:∀b∈fp,b<s2.heap.objs.size:=fun b hb=>by
  obtain⟨o,ho,_⟩:=T.obj _ _ st2 b hb
  exact zR ho
 refine zAr ?_
 refine zKt S.cf (fun h4 hns4 hk4 hc4=>?_)
 generalize hs3:({ s2 with heap:=s2.heap.push { cls:=.type "list",dict:=none,data:=.seq ([]:List Value).toArray } }:Shared)=s3 at hns4 hk4 hc4 ⊢
 have I3':Inv X pins σ (upd H2 s2.heap.objs.size (.lst [])) s3:=by rw[<-hs3];exact I3
 have hsz3:s3.heap.objs.size=s2.heap.objs.size+1:=by rw[<-hs3];exact zAi ..
 have k23:∀b o,s2.heap.get? b=some o->s3.heap.get? b=some o:=fun b o e=>by rw[<-hs3];exact zI _ e
 have k34:∀b o,s3.heap.get? b=some o->h4.get? b=some o:=hk4
 have nD:∀b∈fp,b≠s2.heap.objs.size:=fun b hb=>zc (fz b hb)
 have f3:∀b∈fp,zG6 X pins (upd H2 s2.heap.objs.size (.lst [])) b:=fun b hb=>⟨by rw[zf (nD b hb)];exact (f2 b hb).1,(f2 b hb).2⟩
 have fz3:∀b∈fp,b<s3.heap.objs.size:=fun b hb=>by rw[hsz3];exact zAh (fz b hb)
 have I4:Inv (zCa X (X.pn++pins) (own++cn) scope yc fp s3 (upd H2 s2.heap.objs.size (.lst []))) [] (List.replicate own.length none++cv.map some) (upd H2 s2.heap.objs.size (.lst [])) { s3 with heap:=h4,toks:=s3.toks }:=
  zJx I3' S f3 fz3 rfl hc hv hl hns4 k34 hc4
 have st4:tn 0 h4:=T.keep _ _ _ st2 fun b hb o e=>k34 b o (k23 b o e)
 generalize hX:zCa X (X.pn++pins) (own++cn) scope yc fp s3 (upd H2 s2.heap.objs.size (.lst []))=X' at I4
 have hg':PG X' target g:=by rw[<-hX];exact hg _ _ _ _
 have ht':PTs X' ifs ti:=by rw[<-hX];exact ht _ _ _ _
 have he':PE X' elt te:=by rw[<-hX];exact he _ _ _ _
 have ePr:X'.prog=X.prog:=by rw[<-hX];rfl
 have eW:X'.w=X.w:=by rw[<-hX];rfl
 have eK:X'.K=X.K:=by rw[<-hX];rfl
 have eA:X'.A=X.A:=by rw[<-hX];rfl
 have eE:X'.env=zFZ scope yc (zDB X.env.cells scope.names []) s3.heap.objs.size X.env:=by rw[<-hX];rfl
 have eXe:X'.xe=fun _ _=>False:=by rw[<-hX];rfl
 have eC:X'.calm=true:=by rw[<-hX];exact hcalm
 have eex:X'.ex=fp:=by rw[<-hX];rfl
 have epn:X'.pn=X.pn++pins:=by rw[<-hX];rfl
 have es0:X'.s₀=s3:=by rw[<-hX];rfl
 have eH0:X'.H₀=upd H2 s2.heap.objs.size (.lst []):=by rw[<-hX];rfl
 have efs:X'.fs=frs X.stack:=by rw[<-hX];rfl
 have ok':=I4.ok
 have stat:∀{H':Hp},(∀b∈fp,H' b=none)->∀b∈fp,zG6 X' [] H' b:=fun hn b hb=>by
  have hb':b∈X'.ex:=by rw[eex];exact hb
  refine⟨hn b hb,(ok'.exf b hb').1,ok'.exfs b hb',.inl hb',(ok'.exf b hb').2,fun p hp=>?_⟩
  rw[epn,zp] at hp
  exact (f2 b hb).2.2.2.2.2 p hp
 have wk:∀(σ2:St),(σ2.length=own.length+cv.length/\σ2.drop own.length=cv.map some)->∀{pl:lPO}{H':Hp}{s':Shared},Inv X' pl σ2 H' s'->Inv X' pl (List.replicate own.length none++cv.map some) H' s':=fun σ2 hq pl H' s' I'=>by
  refine I'.weak (by rw[hq.1,zL,zAT,zD]) fun i v hi=>?_
  by_cases hlt:i<own.length
  . rw[zd (by simpa using hlt),zA8] at hi
    split at hi <;> cases hi
  . rw[zV (by simpa using hlt),zAT,<-hq.2,List.getElem?_drop] at hi
    rw[show own.length+(i-own.length)=i by omega] at hi
    exact hi
 have loop:codeAny (model X.prog X.w) X.A (.compLoop (.ListComp elt [⟨target,iter,ifs,0⟩] scope pos) 0 (.ref it) (.ref s2.heap.objs.size) (zFZ scope yc (zDB X.env.cells scope.names []) s3.heap.objs.size X.env))
  (compPost (model X.prog X.w) X.A X.xe use Q0 (.ref s2.heap.objs.size) s3.heap.objs.size) { s3 with heap:=h4,toks:=s3.toks }:=by
  refine zDm (fun n s'=>∃i ys H',Inv X' [] (List.replicate own.length none++cv.map some) H' s'/\tn i s'.heap/\(∀b∈fp,H' b=none)/\W i n ys H') ?_ m0
   ⟨0,[],_,I4,st4,fun b hb=>(f3 b hb).1,w0⟩
  rintro n s5 ⟨i,ys,H5,I5,st5,fr5,w5⟩
  rcases turn i n ys H5 w5 with ⟨stop,qn⟩ | ⟨go,hsz,N,hN,step⟩
  . have d:=T.done X' ePr eW eK eC i [] s5 _ H5 (fun _ _=>False) I5 (stat fr5) st5 stop
    rw[eA] at d
    refine thn d fun r s6 ⟨hr,I6⟩=>?_
    subst hr
    obtain⟨m6,hn6,_⟩:=I6.loc
    rw[eE] at hn6
    have hn6':s6.heap.Ns s3.heap.objs.size m6:=hn6
    have un6:Un (frs X.stack) fp (upd H2 s2.heap.objs.size (.lst [])) H5 s3.heap s6.heap:=by
     have b6:=I6.base
     rw[efs,eex,eH0,es0] at b6
     exact b6
    have os6:s6.os=s3.os:=by have o6:=I6.os;rw[es0] at o6;exact o6
    have hok6:HOk X.prog X.w H5 s6.heap:=by have o6:=I6.hok;rw[ePr,eW] at o6;exact o6
    have I7:Inv X pins σ H5 s6:=I3'.call' (ch:=fp) os6 un6 hok6 I6.bare fun b hb=>⟨(f2 b hb).2.2.2.1,(f2 b hb).2.1,(f2 b hb).2.2.2.2.1,(f2 b hb).2.2.2.2.2⟩
    have fr6:H5 s3.heap.objs.size=none:=by
     have q:=I6.free
     rw[eE] at q
     exact q
    refine fin s2.heap.objs.size s3.heap.objs.size H5 s6 m6 I7 hn6' fr6 (Nat.ne_of_gt I3'.lt) I3'.sz (fun x c e=>?_) (fun p hp=>?_) qn
    . obtain⟨_,o,ho,_⟩:=I3'.cell x c e
      exact zc (zR ho)
    . exact zc (zR (I3'.pin p hp).1)
  . have d:=T.item X' ePr eW eK eC i [] s5 _ H5 (fun _ _=>False) I5 (stat fr5) st5 go
    rw[eA] at d
    refine thn d fun r s6 ⟨u,hr,h6⟩=>?_
    subst hr
    refine thn h6 fun _ s7 ⟨x,H7,I7,r7,y7,st7,fr7⟩=>?_
    have I7':=I7.pinned (stat fr7) (T.obj _ _ st7)
    have g7:=hg' _ s7 _ H7 x u _ I7' r7 (step x H7 y7)
    rw[ePr,eW,eA,eE,eXe] at g7
    refine thn g7 fun _ s8 ⟨σ8,H8,I8,q8,ti8⟩=>?_
    have t8:=ht' _ s8 σ8 H8 _ I8 ti8
    rw[ePr,eW,eA,eE,eXe] at t8
    refine thn t8 fun ok s9 ⟨H9,I9,q9⟩=>?_
    have again:∀{ys':List V}{H':Hp}{s':Shared},Inv X' ([]++zEp fp s7.heap) σ8 H' s'->N ys' H' ->
     ∃m,m<n/\∃i ys H',Inv X' [] (List.replicate own.length none++cv.map some) H' s'/\tn i s'.heap/\(∀b∈fp,H' b=none)/\W i m ys H':=fun {ys' H' s'} I' n'=>by
     obtain⟨m',hm,w'⟩:=hN ys' H' n'
     refine⟨m',hm,i+1,ys',H',(wk σ8 q8 I').unpinned,T.keep _ _ _ st7 fun b hb o e=>(I'.pin (b,o) (zk _ (zk _ (zCM hb e)))).1,fun b hb=>?_,w'⟩
     obtain⟨o,e,_⟩:=T.obj _ _ st7 b hb
     exact (I'.pin (b,o) (zk _ (zk _ (zCM hb e)))).2.1
    cases ok with
    | false=>exact again I9 q9
    | true=>
     have e9:=he' _ s9 σ8 H9 _ I9 q9
     rw[ePr,eW,eA,eE,eXe] at e9
     refine thn e9 fun u10 s10 ⟨y,H10,I10,r10,hD10,n10⟩=>?_
     have a10:=zBr (X:=X') _ s10 σ8 H10 (.ref s2.heap.objs.size) [y] (.ref s2.heap.objs.size) [u10] (fun _ H'=>N (ys++[y]) H') I10 rfl (.cons r10 .nil) ⟨_,_,_,rfl,rfl,hD10,hsz,n10⟩
     rw[ePr,eW,eA,eXe] at a10
     exact thn a10 fun _ s11 ⟨_,H11,I11,_,n11⟩=>again I11 n11
 exact codeAny_compStart_list loop (T.self X.A 0 _ _ _ st4 loop)
theorem zKi {elt target iter:Expr}{ifs:List Expr}{pos pos' cpos:Pos}{wi:TI}{g:TG}{ti:TT}{te:TE}{i:Nat}{x:Str}(hN:X.N.Nodup)(hix:X.N[i]? = some x)(hx:Loc X.env.scope x)(hcalm:X.calm=true)(S:zDg X scope yc)(hc:zEZ X scope cn ci)(hl:cn.length=ci.length)
 (hi:PI X target iter wi)(hg:∀pl fp s3 H3,PG (zCa X pl (own++cn) scope yc fp s3 H3) target g)(ht:∀pl fp s3 H3,PTs (zCa X pl (own++cn) scope yc fp s3 H3) ifs ti)
 (he:∀pl fp s3 H3,PE (zCa X pl (own++cn) scope yc fp s3 H3) elt te)(hs:∀x,foldedSetIterable iter X.env x=pure x:=by intro _;rfl)
 (hsw:swapsWith (.ListComp elt [⟨target,iter,ifs,0⟩] scope cpos) (some (.Name x pos')) pos.line X.env=pure true:=by rfl)
 (hf:X.fn x=true\/X.env.scope.names.lookup x=some .local:=by first | exact .inl rfl | exact .inr rfl | assumption) :
 PS X (.Assign [.Name x pos'] (.ListComp elt [⟨target,iter,ifs,0⟩] scope cpos) pos) (tAsg (zIU own.length ci wi g ti te) (zIC i)):=by
 intro pins s σ H D I h
 rw[exec_Assign_Name_used _ _ _ _ hsw]
 refine zB (wpAny_standAt (zB ?_))
 show wpAny _ X.A (do let _ <-comprehension (.ListComp elt [⟨target,iter,ifs,0⟩] scope cpos) scope X.env _ (newList []) false (eval iter X.env) (some (assign (.Name x pos') X.env))) _ _ s
 refine zB (zAP (zID (use:=some (assign (.Name x pos') X.env)) (Q0:=fun _ s'=>SP X pins D .next s') hcalm S hc hl hi hg ht he hs I h (fun D' C H5 s6 m6 I7 hn fr nL ge nC nP q=>?_)) (fun _ s' hq=>zJ (zJ hq)) fun _ _ e=>e)
 obtain⟨oC,es,ep,hoC,hd,r1⟩:=hn
 have nf:C∉X.fs:=fun hb=>by
  obtain⟨_,o,ho,_⟩:=I7.ok.funs.mem hb
  exact absurd (zm (zR ho) ge) (zBz _)
 have I7':Inv X (pins++[(C,oC)]) σ H5 s6:=I7.pins_of fun p hp=>by
  rcases zn.mp hp with z | z
  . exact I7.pin p (zk _ z)
  . rw[zj.mp z]
    exact⟨hoC,fr,nL,nf,fun v e=>by rw[hd] at e;cases e⟩
 show wpAny _ X.A (assign (.Name x pos') X.env (.ref D')) _ _ s6
 refine wpAny_assign_Name (zCf I7' hN hix hx (show zBk (.ref D') (.ref D') from rfl) (fun s' I'=>?_) hf)
 have hC':=(I'.pin (C,oC) (zk _ (zk _ (zj.mpr rfl)))).1
 refine⟨m6,⟨oC,es,ep,hC',hd,r1⟩,fun h' hs'=>⟨_,H5,?_,q⟩⟩
 have I2:Inv X pins (σ.set i (some (.ref D'))) H5 s':=I'.pins_of fun p hp=>I'.pin p (zk _ (zAk _ hp))
 exact I2.turned (t':=s'.toks) (it:=C) (fun b o hb e=>hs'.extBut b o hb e) fr nL (.inr ge) nC nP
end
noncomputable def cscOk1 (outer inner:Scope)(yc:Str):Bool:=inner.names.all fun y=>(y.2 != .cell || y.1==yc) && (y.2 != .local || inner.names.lookup y.1==some .local) && (y.2 != .free || outer.names.lookup y.1==some .cell)
theorem csc1 {X:Cx}{scope:Scope}{yc:Str}(hk:scope.kind = .function)(hcf:∀n acc,cellsFrom n scope.names acc=(yc,n)::acc)(ho:scope.names.lookup yc=some .cell)(h:cscOk1 X.env.scope scope yc=true):zDg X scope yc:=by
 have a:=zB5.mp h
 refine⟨hk,hcf,ho,fun y hy e=>?_,fun y hy e=>?_,fun y hy e=>?_⟩
 . have:=a y hy
   rw[e] at this
   simpa using this
 . have:=a y hy
   rw[e] at this
   simpa using this
 . have:=a y hy
   rw[e] at this
   have h2:X.env.scope.names.lookup y.1=some .cell:=by simpa using this
   exact h2
noncomputable def zL6 (ta:TA):TE:=fun σ H Q=>ta σ H fun vs H1=>∃j:Int,vs=[.int j]/\0<=j/\j<=1000/\∀l,H1 l=none->Q (.ref l) (upd H1 l (.lst ((WM.lowTo j.toNat).map V.int)))
theorem zKM:∀(vs:List Value)(n:Nat),vs.length=n->(∀(j:Nat)(v:Value),vs[j]? = some v->∃t,v = .int (0+(j:Int)*1) t)->zBO ((WM.lowTo n).map V.int) vs:=by
 have key:∀(vs:List Value)(a:Nat),(∀(j:Nat)(v:Value),vs[j]? = some v->∃t,v = .int ((a+j:Nat):Int) t)->zBO ((List.range' a vs.length).map fun (i:Nat)=>V.int (i:Int)) vs:=by
  intro vs
  induction vs with
  | nil=>intro _ _;exact .nil
  | cons v r ih=>
   intro a h
   obtain⟨t,ht⟩:=h 0 v rfl
   rw[zT,List.range'_succ,zAA]
   refine .cons ⟨t,by rw[ht];rfl⟩ (ih (a+1) fun j u hj=>?_)
   obtain⟨t',ht'⟩:=h (j+1) u hj
   exact⟨t',by rw[ht'];congr 1;omega⟩
 intro vs n e h
 subst e
 have:=key vs 0 fun j v hj=>by
  obtain⟨t,ht⟩:=h j v hj
  exact⟨t,by rw[ht];congr 1;omega⟩
 unfold WM.lowTo
 rw[List.map_map,List.range_eq_range']
 exact this
section
variable {X:Cx}
theorem zFz {a:Expr}{ta:TA}{p1 p2 pos1 pos2:Pos}(hc:X.calm=true)(hgL:Gl X "list") (hmL:X.mg "list" = none) (hgR:Gl X "range") (hmR:X.mg "range" = none) (ha:PA X [a] ta)(hs:starEach [a] X.env=[(false,eval a X.env)]:=by rfl)
 (he:starEach [.Call (.Name "range" p2) [a] [] pos2] X.env=[(false,eval (.Call (.Name "range" p2) [a] [] pos2) X.env)]:=by rfl):PE X (.Call (.Name "list" p1) [.Call (.Name "range" p2) [a] [] pos2] [] pos1) (zL6 ta):=by
 intro pins s σ H Q I h
 refine zBL (zCw I hgL hmL (by decide +kernel:bootBuiltins "list" = some (.type "list")) ?_ (by decide) (by decide))
 refine PyProof.Rows.callWith_type1 ?_ he rfl
 rw[he]
 refine Calls.spliced_cons ?_
 refine Call_ (zCw I hgR hmR boot_range (PyProof.Rows.callWith_type1 (thn (ha pos2 pins s σ H _ I h) fun us s1 ⟨vs,H1,I1,r1,q1⟩=>?_) hs rfl))
 obtain⟨j,e,h0,h1,q⟩:=q1
 subst e
 cases r1 with
 | cons r rr=>
  cases rr
  obtain⟨t,rfl⟩:=r
  refine call_range_1 ?_
  refine Calls.spliced_nil ?_
  have hz:Builtin.Range.rangeSize 0 j 1=(j.toNat:Int):=by rw[rangeSize_one];split <;> omega
  refine call_list_range (I.ok.hd hc) (IsRange.new ..) (small_one (by omega) (by omega) (by omega) (by omega)) hz (by omega) fun h' tk acc c' kp hD hI=>?_
  have kp1:∀b o,s1.heap.get? b=some o->h'.get? b=some o:=fun b o e=>kp b o (zI _ e)
  have rv:zBO ((WM.lowTo j.toNat).map V.int) acc.toList:=zKM acc.toList _ (by rw[Array.length_toList];exact hI.1) fun i v hi=>hI.2 i v (by rw[<-hi,Array.getElem?_toList])
  have hsz:s1.heap.objs.size<=(s1.heap.push { cls:=.type "range",data:=.fields #[.int 0 s1.toks,.int j t,.int 1 (s1.toks+1)] }).objs.size:=by rw[zAi];exact zA6 _
  refine⟨.ref _,_,I1.laid (t':=tk) kp1 hsz (show zBP X.prog X.w _ h' _ (.lst ((WM.lowTo j.toNat).map V.int)) from ⟨?_,acc.toList,c',rv,by rw[Array.toArray_toList];exact hD⟩),rfl,q _ (I1.hok.fresh hsz)⟩
  rw[zD,WM.lowTo,zD,zAB]
  have:sizeLine=16777216:=rfl
  omega
end
section
variable {X:Cx}{pl:lPO}{N':List Str}{sc:Scope}{fp:List Addr}{s3:Shared}{H3:Hp}
theorem zFb:zCS (zBm X pl N' sc fp s3 H3) (.builtin "len") (fun xs H Q=>∃p ys,xs=[.ref p]/\(SqL X.K H p ys\/SqT X.K H p ys)/\Q (.int ys.length) H):=zAE
end
section
variable {X:Cx}
noncomputable def rNeE (K:PySem.W.Frag):R2:=fun x y H Q=>∃(a b:Addr)(xs:List V),x = .ref a/\y = .ref b/\SqL K H a xs/\SqL K H b []/\Q (.bl (!xs.isEmpty)) H
theorem zLl (hu:X.A.units<cLine):OpR X (compareOp .NotEq) (rNeE X.K):=by
 intro pins s σ H x y v u Q I rx ry h
 obtain⟨a,b,xs,rfl,rfl,ha,hb,q⟩:=h
 cases rx
 cases ry
 obtain⟨its,r,pl,hz⟩:=I.list ha
 obtain⟨its2,r2,pl2,hz2⟩:=I.list hb
 have l1:=r.length
 have l2:=r2.length
 cases xs with
 | nil=>
  refine PySem.EqBoolInt.of_rcne (SeqAt.RcNeAt.lists (e:=fun _=>true) pl.isList pl2.isList (by rw[zQ,zQ,<-l1,<-l2]) hu (fun j a b=>absurd a (by rw[zQ,<-l1];exact zBq _))) ⟨.bl _,H,I,rfl,?_⟩
  rw[zQ,<-l1]
  exact q
 | cons x xs=>
  refine PySem.EqBoolInt.of_rcne (SeqAt.RcNeAt.lists_lengths pl.isList pl2.isList (by rw[zQ,zQ,<-l1,<-l2];rfl) hu) ⟨.bl _,H,I,rfl,?_⟩
  exact q
end
end L2
namespace L2
open PySem PyProof.Rows
noncomputable def Kp (s0:Shared)(h:Heap):Prop:=∀b o,s0.heap.get? b=some o->h.get? b=some o
structure MinIt (prog:Program)(w:World)(A:Around)(s0:Shared)(I:Addr)(its:List Value)(itAt:Nat->Heap->Prop):Prop where
 stay:∀j h h',itAt j h->h'.get? I=h.get? I->itAt j h'
 next:∀(j:Nat)(h:Heap)(tk:Nat)(v:Value)(Q:Option Value->Shared->Prop)(E:vSP),Kp s0 h->itAt j h->its[j]? = some v ->
  (∀h',itAt (j+1) h'->(∀b,b≠I->h'.get? b=h.get? b)->Q (some v) { s0 with heap:=h',toks:=tk })->wpAny (model prog w) A (pyNext (.ref I)) Q E { s0 with heap:=h,toks:=tk }
 fin:∀(j:Nat)(h:Heap)(tk:Nat)(Q:Option Value->Shared->Prop)(E:vSP),Kp s0 h->itAt j h->its[j]? = none ->
  (∀h',(∀b o,b≠I->h.get? b=some o->h'.get? b=some o)->Q none { s0 with heap:=h',toks:=tk })->wpAny (model prog w) A (pyNext (.ref I)) Q E { s0 with heap:=h,toks:=tk }
section
variable {prog:Program}{w:World}{A:Around}{s0:Shared}{I S:Addr}{its:List Value}{itAt:Nat->Heap->Prop}
theorem Kp.upd {h:Heap}{f:Obj->Obj}(K:Kp s0 h)(hS:s0.heap.objs.size<=S):Kp s0 (h.update S f):=fun b o e=>by
 rw[zB2 _ _ _ _ (zc (zm (zR e) hS))];exact K b o e
theorem Kp.but {h h':Heap}(K:Kp s0 h)(hI:s0.heap.objs.size<=I)(k:∀b o,b≠I->h.get? b=some o->h'.get? b=some o):Kp s0 h':=fun b o e=>
 k b o (zc (zm (zR e) hI)) (K b o e)
theorem zJC {R:Result->Shared->Prop}{kw:List (Str×Value)}(M:MinIt prog w A.in1 s0 I its itAt)(bt:Nat->Nat->Bool)(hS:s0.heap.objs.size<=S)(hI:s0.heap.objs.size<=I)(hSI:S≠I)
 (cmp:∀(i j:Nat)(vi vj:Value)(h:Heap)(tk:Nat)(Q E:vSP),Kp s0 h->its[i]? = some vi->its[j]? = some vj->Q (.bool (bt i j)) { s0 with heap:=h,toks:=tk }->wpAny (model prog w) A.in1 (richCompare .Lt vi vj) Q E { s0 with heap:=h,toks:=tk })
 (hR:∀(v:Value)(h:Heap)(tk:Nat),its[argBest bt (its.length-1)]? = some v->Kp s0 h->R (.ok (.ret v)) { s0 with heap:=h,toks:=tk })
 : ∀(r j:Nat)(h:Heap)(tk:Nat)(vb:Value)(c:Nat),its.length-(j+1)=r->j+1<=its.length->Kp s0 h->itAt (j+1) h->its[argBest bt j]? = some vb ->
  h.get? S=some { cls:=.type "list",data:=.seq #[vb,vb] c }->codeAny (model prog w) A (.builtin "min.loop" { pos:=[.ref I,.none,.ref S],kw:=kw }) R { s0 with heap:=h,toks:=tk }:=by
 intro r
 induction r with
 | zero=>
  intro j h tk vb c hr hj K hit hv hSo
  refine codeAny_builtin PySem.F.entry_min_loop ?_
  unfold Builtin.«min.loop»
  refine zB (wpAny_seqItems hSo rfl ?_)
  dsimp only
  refine zB (wpAny_tryCatch (M.fin (j+1) h tk _ _ K hit (zA3 (by omega)) fun h' k=>?_))
  have hS':=k S _ hSI hSo
  refine zB (wpAny_updateSeq hS' rfl (zB (wpAny_letGo (zJ ?_))) (by show 2<=sizeLine;decide) (by show 0<=sizeLine+1;decide))
  refine hR vb _ tk ?_ ((K.but hI k).upd hS)
  rw[show its.length-1=j by omega];exact hv
 | succ r ih=>
  intro j h tk vb c hr hj K hit hv hSo
  obtain⟨x,hx⟩:∃x,its[j+1]? = some x:=⟨_,zA (by omega)⟩
  refine codeAny_builtin PySem.F.entry_min_loop ?_
  unfold Builtin.«min.loop»
  refine zB (wpAny_seqItems hSo rfl ?_)
  dsimp only
  refine zB (wpAny_tryCatch (M.next (j+1) h tk x _ _ K hit hx fun h' hit' k=>?_))
  have K':Kp s0 h':=K.but hI fun b o hb e=>by rw[k b hb];exact e
  have hS':h'.get? S=some { cls:=.type "list",data:=.seq #[vb,vb] c }:=by rw[k S hSI];exact hSo
  refine zB (zJ ?_)
  refine zB (wpAny_tryCatch (zAg (zB (cmp (j+1) (argBest bt j) x vb h' tk _ _ K' hx hv ?_))))
  refine zB (zAg (zBp (zB (wpAny_letGo (zJ ?_)))))
  have eb:argBest bt (j+1)=if bt (j+1) (argBest bt j)=true then j+1 else argBest bt j:=argBest.eq_2 bt j
  cases e:bt (j+1) (argBest bt j) with
  | true=>
   rw[if_pos e] at eb
   refine zB (wpAny_updateSeq hS' rfl (zB (wpAny_letGo (zJ ⟨rfl,?_⟩))) (by show 2<=sizeLine;decide) (by show 2<=sizeLine+1;decide))
   exact ih (j+1) _ tk x c (by omega) (by omega) (K'.upd hS) (M.stay _ _ _ hit' (zB2 _ _ _ _ (Ne.symm hSI))) (by rw[eb];exact hx) (zBJ _ hS' rfl)
  | false=>
   rw[e,if_neg (by decide)] at eb
   refine zB (wpAny_letGo (zJ ⟨rfl,?_⟩))
   exact ih (j+1) h' tk vb c (by omega) (by omega) K' hit' (by rw[eb];exact hv) hS'
theorem zEu {R:Result->Shared->Prop}{d:Value}(M:MinIt prog w A.in1 s0 I its itAt)(bt:Nat->Nat->Bool)(hS:s0.heap.objs.size<=S)(hI:s0.heap.objs.size<=I)(hSI:S≠I)
 (cmp:∀(i j:Nat)(vi vj:Value)(h:Heap)(tk:Nat)(Q E:vSP),Kp s0 h->its[i]? = some vi->its[j]? = some vj->Q (.bool (bt i j)) { s0 with heap:=h,toks:=tk }->wpAny (model prog w) A.in1 (richCompare .Lt vi vj) Q E { s0 with heap:=h,toks:=tk })
 (hR:∀(v:Value)(h:Heap)(tk:Nat),its[argBest bt (its.length-1)]? = some v->Kp s0 h->R (.ok (.ret v)) { s0 with heap:=h,toks:=tk })
 (h0:its=[]->∀(h:Heap)(tk:Nat),Kp s0 h->R (.ok (.ret d)) { s0 with heap:=h,toks:=tk })
 (h:Heap)(tk:Nat)(c:Nat)(K:Kp s0 h)(hit:itAt 0 h)(hSo:h.get? S=some { cls:=.type "list",data:=.seq #[] c }) :
 codeAny (model prog w) A (.builtin "min.loop" { pos:=[.ref I,.none,.ref S],kw:=[(Str.ofString "default",d)] }) R { s0 with heap:=h,toks:=tk }:=by
 refine codeAny_builtin PySem.F.entry_min_loop ?_
 unfold Builtin.«min.loop»
 refine zB (wpAny_seqItems hSo rfl ?_)
 dsimp only
 cases e:its with
 | nil=>
  subst e
  refine zB (wpAny_tryCatch (M.fin 0 h tk _ _ K hit rfl fun h' k=>?_))
  exact zB (wpAny_rule (zJ (h0 rfl h' tk (K.but hI k))))
 | cons x xs=>
  have hx:its[0]? = some x:=by rw[e];rfl
  refine zB (wpAny_tryCatch (M.next 0 h tk x _ _ K hit hx fun h' hit' k=>?_))
  have K':Kp s0 h':=K.but hI fun b o hb e=>by rw[k b hb];exact e
  have hS':h'.get? S=some { cls:=.type "list",data:=.seq #[] c }:=by rw[k S hSI];exact hSo
  refine zB (zJ ?_)
  refine zB (wpAny_updateSeq hS' rfl (zJ ⟨rfl,?_⟩) (by show 0<=sizeLine;decide) (by show 2<=sizeLine+1;decide))
  refine zJC M bt hS hI hSI cmp hR (its.length-1) 0 _ tk x (c+1) rfl (by rw[e];simp) (K'.upd hS) (M.stay _ _ _ hit' (zB2 _ _ _ _ (Ne.symm hSI))) hx (zBJ _ hS' rfl)
end
theorem wpAny_of_eq {α:Type}{M:Model}{A:Around}{E:vSP}{s:Shared}{m m':Sem α}{Q:α->Shared->Prop}(e:m=m')(h:wpAny M A m' Q E s):wpAny M A m Q E s:=by subst e;exact h
theorem zEV {O:KeyOrd}(ky:Nat->O.α):∀k,argBest (fun i j=>O.blt (ky i) (ky j)) k<=k/\∀j,j<=k->O.blt (ky j) (ky (argBest (fun i j=>O.blt (ky i) (ky j)) k))=false
 | 0=>⟨zH _,fun j hj=>by obtain rfl:j=0:=(by omega);exact O.irrefl _⟩
 | k+1=>by
  obtain⟨h1,h2⟩:=zEV ky k
  rw[argBest.eq_2]
  cases e:O.blt (ky (k+1)) (ky (argBest (fun i j=>O.blt (ky i) (ky j)) k)) with
  | true=>
   rw[if_pos rfl]
   refine⟨zH _,fun j hj=>?_⟩
   by_cases c:j=k+1
   . subst c;exact O.irrefl _
   . cases e2:O.blt (ky j) (ky (k+1)) with
     | false=>rfl
     | true=>rw[<-h2 j (by omega)];exact (O.trans _ _ _ e2 e).symm
  | false=>
   rw[if_neg (by decide)]
   refine⟨by omega,fun j hj=>?_⟩
   by_cases c:j=k+1
   . subst c;exact e
   . exact h2 j (by omega)
theorem zGQ {prog:Program}{w:World}{A:Around}{s:Shared}{p:Addr}{its:List Value}{d:Value}{Q E:vSP}(hA:A.handled=none)(bt:Nat->Nat->Bool)(hp:s.heap.IsList p its.toArray\/s.heap.IsTuple p its.toArray)
 (cmp:∀(i j:Nat)(vi vj:Value)(h:Heap)(tk:Nat)(Q E:vSP),Kp s h->its[i]? = some vi->its[j]? = some vj->Q (.bool (bt i j)) { s with heap:=h,toks:=tk }->wpAny (model prog w) A.in1 (richCompare .Lt vi vj) Q E { s with heap:=h,toks:=tk })
 (hR:∀(v:Value)(h:Heap)(tk:Nat),its[argBest bt (its.length-1)]? = some v->Kp s h->Q v { s with heap:=h,toks:=tk })
 (h0:its=[]->∀(h:Heap)(tk:Nat),Kp s h->Q d { s with heap:=h,toks:=tk }) :
 wpAny (model prog w) A (call (.builtin "min") [.ref p] [(Str.ofString "default",d)]) Q E s:=by
 refine wpAny_call (codeAny_call_builtin PySem.F.plain_min PySem.F.entry_min (wpAny_of_eq (show checkBuiltinCall "min" { pos:=[.ref p],kw:=[(Str.ofString "default",d)] }=pure () from rfl) (zJ ?_)))
 unfold Builtin.min
 refine zB (wpAny_of_eq (show Builtin.Builtins.bindParams "min" ["key", "default"] 0 { kw:=[(Str.ofString "default",d)] }=pure [none,some d] from rfl) (zJ ?_))
 dsimp only
 refine zB (zJ ?_)
 have kp0:∀(o1 o2:Obj),Kp s ((s.heap.push o1).push o2):=fun o1 o2 b o e=>zI _ (zI _ e)
 rcases hp with hp | hp
 . refine zB (wpAny_pyIter_list hp (zB (wpAny_newList (zJ ⟨rfl,?_⟩) (by show 0<=sizeLine;decide))))
   have hSe:(s.heap.push { cls:=.type "list_iterator",data:=.fields #[.ref p,.int 0 0] }).objs.size=s.heap.objs.size+1:=zAi ..
   rw[hSe]
   refine zEu (s0:=s) (I:=s.heap.objs.size) (S:=s.heap.objs.size+1) (itAt:=fun j h=>h.IsListIter s.heap.objs.size p j) ⟨fun j h h' a e=>?_,fun j h tk v Q E K hit hv q=>?_,fun j h tk Q E K hit hv q=>?_⟩ bt (zA6 _) (zH _) (Nat.succ_ne_self _) cmp hR h0 _ s.toks 0 (kp0 _ _) ?_ ?_
   . obtain⟨o,ho,hc⟩:=a
     exact⟨o,by rw[e];exact ho,hc⟩
   . obtain⟨o,ho,hc⟩:=hp
     exact wpAny_pyNext_list_item hit ⟨o,K _ _ ho,hc⟩ (by rw[zBI];exact hv) fun h' a b=>q h' a fun c hc=>b.2 c hc
   . obtain⟨o,ho,hc⟩:=hp
     exact wpAny_pyNext_list_end hA hit ⟨o,K _ _ ho,hc⟩ (by rw[zBI];exact hv) fun h' b=>q h' b
   . exact⟨_,zI _ (zW _ rfl),rfl,rfl⟩
   . rw[<-hSe];exact zW _ rfl
 . refine zB (wpAny_pyIter_tuple hp (zB (wpAny_newList (zJ ⟨rfl,?_⟩) (by show 0<=sizeLine;decide))))
   have hSe:(s.heap.push { cls:=.type "tuple_iterator",data:=.fields #[.ref p,.int 0 0] }).objs.size=s.heap.objs.size+1:=zAi ..
   rw[hSe]
   refine zEu (s0:=s) (I:=s.heap.objs.size) (S:=s.heap.objs.size+1) (itAt:=fun j h=>h.IsTupleIter s.heap.objs.size p j) ⟨fun j h h' a e=>?_,fun j h tk v Q E K hit hv q=>?_,fun j h tk Q E K hit hv q=>?_⟩ bt (zA6 _) (zH _) (Nat.succ_ne_self _) cmp hR h0 _ s.toks 0 (kp0 _ _) ?_ ?_
   . obtain⟨o,ho,hc⟩:=a
     exact⟨o,by rw[e];exact ho,hc⟩
   . obtain⟨o,ho,hc⟩:=hp
     exact wpAny_pyNext_tuple_item hit ⟨o,K _ _ ho,hc⟩ (by rw[zBI];exact hv) fun h' a b=>q h' a fun c hc=>b.2 c hc
   . obtain⟨o,ho,hc⟩:=hp
     exact wpAny_pyNext_tuple_end hA hit ⟨o,K _ _ ho,hc⟩ (by rw[zBI];exact hv) fun h' b=>q h' b
   . exact⟨_,zI _ (zW _ rfl),rfl,rfl⟩
   . rw[<-hSe];exact zW _ rfl
section
variable {X:Cx}
noncomputable def rMinD (K:PySem.W.Frag)(x dv:V)(H:Hp)(Q:VK):Prop:=∃(p:Addr)(ys:List V),x = .ref p/\(SqL K H p ys\/SqT K H p ys)/\(ys=[]->Q dv H) /\
 ((∃ks,zAZ H ys ks/\∀(i:Nat)(y:V)(k:List Int),ys[i]? = some y->ks[i]? = some k->(∀k'∈ks,HT.lexLt k' k=false)->Q y H)\/(∃ns:List Int,ys=ns.map V.int/\∀n∈ns,(∀m∈ns,n<=m)->Q (.int n) H))
noncomputable def tMinD (K:PySem.W.Frag)(t:TA)(td:TE):TE:=fun σ H Q=>t σ H fun vs H1=>∃x,vs=[x]/\td σ H1 fun dv H2=>rMinD K x dv H2 Q
theorem zIy {e de:Expr}{t:TA}{td:TE}{pos np kpos:Pos}(hc:X.calm=true)(hu:X.A.units+1<cLine)(hg:Gl X "min") (hm:X.mg "min" = none) (he:PA X [e] t)(hd:PE X de td)
 (hs1:backTo pos (starEach [e] X.env)=(false,eval e X.env)::backTo pos (starEach [] X.env):=by rfl)(hs2:(backTo pos (starEach [e] X.env)).any (·.1)=false:=by rfl) :
 PE X (.Call (.Name "min" np) [e] [⟨some "default",de,kpos⟩] pos) (tMinD X.K t td):=by
 intro pins s σ H Q I h
 refine zBL (zCw I hg hm (by decide +kernel:bootBuiltins "min" = some (.builtin "min")) ?_)
 refine PyProof.Rows.callWith_kw (thn (he pos pins s σ H _ I h) fun us s1 ⟨vs,H1,I1,r,q1⟩=>?_) hs1 hs2
 obtain⟨x,rfl,q1⟩:=q1
 obtain⟨u,rfl,rx⟩:=zCq r
 show wpAny _ _ (evalAll ((do let v <-eval de X.env;standAt pos;pure v)::[])) _ _ s1
 refine wpAny_evalAll_cons (zB (thn (hd pins s1 σ H1 _ I1 q1) fun ud s2 ⟨dv,H2,I2,rd,q2⟩=>zB (wpAny_standAt (zJ (wpAny_evalAll_nil ?_)))))
 show wpAny _ _ (call (.builtin "min") [u] [(Str.ofString "default",ud)]) _ _ s2
 obtain⟨p,ys,rfl,hp,q0,hk⟩:=q2
 cases rx
 obtain⟨its,rv,hpp⟩:∃its:List Value,zBO ys its/\(s2.heap.IsList p its.toArray\/s2.heap.IsTuple p its.toArray):=by
  rcases hp with hp | hp
  . obtain⟨its,r',pl,_⟩:=I2.list hp
    exact⟨its,r',.inl pl.isList⟩
  . obtain⟨its,r',pl,_⟩:=I2.tuple hp
    exact⟨its,r',.inr pl⟩
 have hlen:=rv.length
 have e0:its=[]->ys=[]:=fun z=>List.length_eq_zero_iff.mp (by rw[hlen,z];rfl)
 rcases hk with ⟨ks,T,q⟩ | ⟨ns,rfl,q⟩
 . have hl:=T.length
   refine zGQ (I2.ok.hd hc) (fun i j=>zKz.blt (ks.getD i []) (ks.getD j [])) hpp (fun i j vi vj h tk Q E K hi hj q=>?_) (fun v h tk hv K=>?_) (fun z h tk K=>⟨dv,H2,I2.kept K,rd,q0 (e0 z)⟩)
   . have look:∀(i:Nat)(v:Value),its[i]? = some v->∃(p:Addr)(k:List Int)(us:List Value),v = .ref p/\ks[i]? = some k/\IntsAre us k/\IsTup h p us.toArray:=fun i v hv=>by
      have hi:i<ys.length:=by have:=(zK.mp hv).1;omega
      obtain⟨p,k,e1,e2,e3,_⟩:=T.get (i:=i) (x:=ys[i]) (by simp[hi])
      obtain⟨u,hu,ru⟩:=rv.get (i:=i) (x:=ys[i]) (by simp[hi])
      rw[hv] at hu;cases hu
      rw[e1] at ru
      cases (show v=Value.ref p from ru)
      obtain⟨_,us,rv',o,ho,hc⟩:=I2.hok p _ e3
      exact⟨p,k,us,rfl,e2,zBS rv',o,K _ _ ho,hc⟩
     obtain⟨p1,k1,us1,rfl,g1,i1,t1⟩:=look i vi hi
     obtain⟨p2,k2,us2,rfl,g2,i2,t2⟩:=look j vj hj
     refine HT.lt_tupInts (ns:=k1) (ms:=k2) t1 t2 i1 i2 hu ?_
     have:zKz.blt (ks.getD i []) (ks.getD j [])=HT.lexLt k1 k2:=by rw[zC,zC,g1,g2];rfl
     rw[<-this];exact q
   . obtain⟨b1,b2⟩:=zEV (O:=zKz) (fun i=>ks.getD i []) (its.length-1)
     have hlt:=(zK.mp hv).1
     generalize eb:argBest (fun i j=>zKz.blt (ks.getD i []) (ks.getD j [])) (its.length-1)=bi at hv hlt b1 b2
     have hy:bi<ys.length:=by omega
     obtain⟨u,hu,ru⟩:=rv.get (i:=bi) (x:=ys[bi]) (by simp[hy])
     rw[hv] at hu;cases hu
     obtain⟨pa,k,e1,e2,e3,_⟩:=T.get (i:=bi) (x:=ys[bi]) (by simp[hy])
     refine⟨ys[bi],H2,I2.kept K,ru,q bi ys[bi] k (by simp[hy]) e2 fun k' hk'=>?_⟩
     obtain⟨j,hj,ej⟩:=zy hk'
     have:=b2 j (by omega)
     have g1:ks.getD j []=k':=by rw[zC,zA hj,ej];rfl
     have g2:ks.getD bi []=k:=by rw[zC,e2];rfl
     rw[g1,g2] at this
     exact this
 . have hI:IntsAre its ns:=zBS rv
   have hl:=hI.length
   have look:∀(i:Nat)(v:Value),its[i]? = some v->∃t,v = .int (ns.getD i 0) t:=fun i v hv=>by
    have hi:i<ns.length:=by have:=(zK.mp hv).1;omega
    obtain⟨u,hu,ru⟩:=rv.get (i:=i) (x:=.int ns[i]) (by simp[hi])
    rw[hv] at hu;cases hu
    obtain⟨t,rfl⟩:=(show ∃t,v=Value.int ns[i] t from ru)
    exact⟨t,by rw[zC,zA hi];rfl⟩
   refine zGQ (I2.ok.hd hc) (fun i j=>decide (ns.getD i 0<ns.getD j 0)) hpp (fun i j vi vj h tk Q E K hi hj q=>?_) (fun v h tk hv K=>?_) (fun z h tk K=>⟨dv,H2,I2.kept K,rd,q0 (e0 z)⟩)
   . obtain⟨t1,rfl⟩:=look i vi hi
     obtain⟨t2,rfl⟩:=look j vj hj
     exact PyProof.Rows.lt_int q
   . obtain⟨b1,b2⟩:=argBest_lt (fun i=>ns.getD i 0) (its.length-1)
     have hlt:=(zK.mp hv).1
     generalize eb:argBest (fun i j=>decide (ns.getD i 0<ns.getD j 0)) (its.length-1)=bi at hv hlt b1 b2
     obtain⟨t,rfl⟩:=look bi v hv
     have hy:bi<ns.length:=by omega
     refine⟨.int (ns.getD bi 0),H2,I2.kept K,⟨t,rfl⟩,q _ ?_ fun m hm=>?_⟩
     . rw[zC,zA hy];exact zAq hy
     . obtain⟨j,hj,ej⟩:=zy hm
       have:=b2 j (by omega)
       have g1:ns.getD j 0=m:=by rw[zC,zA hj,ej];rfl
       rw[g1] at this
       exact this
end
end L2
namespace L2
open PySem PySem.Spec PyProof.Rows
section
variable {X:Cx}
theorem zCo {x:Str}{T:String}{pos:Pos}(hm:X.mg x=none)(hg:Gl X x:=by rfl)(hv:bootBuiltins x=some (.type T):=by decide +kernel)(hn:x ≠ "__name__" := by decide) (hdb:(x==("__debug__" : Str))=false:=by decide):PE X (.Name x pos) (tC (.ty T)):=
 fun pins s σ H Q I h=>zCw I hg hm hv ⟨.ty T,H,I,rfl,h⟩ hn hdb
theorem zBg:zCS X (.builtin "isinstance") (fun xs H Q=>∃x T t b,xs=[x,.ty T]/\zGg X.K H x t/\PySem.W.kitOne X.K t (.type T)=some b/\Q (.bl b) H):=by
 intro pins s σ H xs us Q I r h
 obtain⟨x,T,t,b,rfl,ty,e,q⟩:=h
 obtain⟨u,w',rfl,rx,rT⟩:=zIO r
 cases (show w'=Value.type T from rT)
 exact zJQ I rx ty e fun tk=>⟨.bl b,H,I.tok tk,rfl,q⟩
theorem ps_no {st:Stmt}:PS X st (fun _ _ _=>False):=fun _ _ _ _ _ _ h=>h.elim
end
section
variable {prog:Program}{w:World}{A:Around}{s0:Shared}{I l:Addr}{bs:List Bool}
theorem zLQ {R:Result->Shared->Prop}(hA:A.handled=none)(hI:s0.heap.objs.size<=I)(hl:s0.heap.IsList l (bs.map Value.bool).toArray)
 (hR:∀(h:Heap)(tk:Nat),Kp s0 h->R (.ok (.ret (.bool (bs.all id)))) { s0 with heap:=h,toks:=tk }) :
 ∀(r j:Nat)(h:Heap)(tk:Nat),bs.length-j=r->j<=bs.length->Kp s0 h->h.IsListIter I l j->(bs.take j).all id=true ->
  codeAny (model prog w) A (.builtin "all.loop" { pos:=[.ref I] }) R { s0 with heap:=h,toks:=tk }:=by
 have hl':∀h,Kp s0 h->h.IsList l (bs.map Value.bool).toArray:=fun h K=>by
  obtain⟨o,ho,hc⟩:=hl
  exact⟨o,K _ _ ho,hc⟩
 intro r
 induction r with
 | zero=>
  intro j h tk hr hj K hit ha
  refine codeAny_builtin PySem.F.entry_all_loop ?_
  unfold Builtin.«all.loop»
  refine zB (wpAny_pyNext_list_end hA hit (hl' h K) (by rw[zBI];exact zA3 (by rw[zD];omega)) fun h' b=>?_)
  refine zB (wpAny_rule (zJ ?_))
  rw[zZ (by omega)] at ha
  have:=hR h' tk (K.but hI b)
  rw[ha] at this
  exact this
 | succ r ih=>
  intro j h tk hr hj K hit ha
  obtain⟨x,hx⟩:∃x,bs[j]? = some x:=⟨_,zA (by omega)⟩
  refine codeAny_builtin PySem.F.entry_all_loop ?_
  unfold Builtin.«all.loop»
  refine zB (wpAny_pyNext_list_item hit (hl' h K) (x:=.bool x) (by rw[zBI,zN,hx];rfl) fun h' hit' b=>?_)
  have K':Kp s0 h':=K.but hI fun c o hc e=>by rw[b.2 c hc];exact e
  refine zB (zAg (zBp (zB (wpAny_letGo ?_))))
  cases x with
  | true=>
   refine zJ ⟨rfl,?_⟩
   exact ih (j+1) h' tk (by omega) (by omega) K' hit' (by rw[zw,hx,List.all_append,ha];rfl)
  | false=>
   refine zB (wpAny_rule (zJ ?_))
   have e:bs.all id=false:=by
    cases z:bs.all id with
    | false=>rfl
    | true=>have:=zB5.mp z false (za hx);simp at this
   have:=hR h' tk K'
   rw[e] at this
   exact this
end
section
variable {X:Cx}
theorem zHd:∀{bs:List Bool}{its:List Value},zBO (bs.map V.bl) its->its=bs.map Value.bool
 | [],[],_=>rfl
 | b::bs,u::its,h=>by
  cases h with
  | cons h1 h2=>rw[zAA,<-zHd h2,show u=Value.bool b from h1]
 | [],_::_,h=>by cases h
 | _::_,[],h=>by cases h
theorem zFe (hc:X.calm=true):zCS X (.builtin "all") (fun xs H Q=>∃(p:Addr)(bs:List Bool),xs=[.ref p]/\SqL X.K H p (bs.map V.bl)/\Q (.bl (bs.all id)) H):=by
 intro pins s σ H xs us Q I r h
 obtain⟨p,bs,rfl,hq,q⟩:=h
 obtain⟨u,rfl,rx⟩:=zCq r
 cases rx
 obtain⟨its,r',pl,hz⟩:=I.list hq
 rw[zHd r'] at pl
 refine wpAny_call (codeAny_call_builtin PySem.F.plain_all PySem.F.entry_all (wpAny_of_eq (m':=pure ()) rfl (zJ ?_)))
 unfold Builtin.all
 refine zB (wpAny_of_eq (m':=pure (Value.ref p)) rfl (zJ (zB (wpAny_pyIter_list pl.isList (zJ ⟨rfl,?_⟩)))))
 refine zLQ (s0:=s) (l:=p) (bs:=bs) (I.ok.hd hc) (zH _) pl.isList ?_ bs.length 0 _ s.toks rfl (zi _) (fun b o e=>zI _ e) ?_ rfl
 . exact fun h tk K=>⟨.bl _,H,I.kept K,rfl,q⟩
 . exact⟨_,zW _ rfl,rfl,rfl⟩
end
theorem zML {prog:Program}{w:World}{h:Heap}(led:Bool):(h.push { cls:=.type "set",data:=.set #[] 0 (SetTable.fresh 0 0 led) }).SetOf (intKind prog w) h.objs.size (fun _=>false) 0:=by
 refine⟨_,#[],0,_,zW _ rfl,⟨rfl,rfl,rfl⟩,rfl,?_,fun k=>⟨fun z=>by simp at z,fun ⟨e,he,_⟩=>by simp at he⟩,by decide,?_,rfl⟩
 . first | exact ElemsOf.nil | trivial | (intro e he;simp at he)
 . cases led <;> first | rfl | decide +kernel
theorem zG2 {prog:Program}{w:World}{A:Around}{s:Shared}{l:Addr}{its:List Value}{ns:List Int}{Q E:vSP}(hA:A.handled=none)(hl:s.heap.IsTuple l its.toArray)(hi:IntsAre its ns)(hz:its.length+1<scanBound)
 (q:∀(h:Heap)(tk:Nat),Kp s h->h.SetOf (intKind prog w) s.heap.objs.size (fun k'=>(firstMet (fun i=>ns.getD i 0) its.length).any fun x=>x==k') (firstMet (fun i=>ns.getD i 0) its.length).length->Q (.ref s.heap.objs.size) { s with heap:=h,toks:=tk }) :
 wpAny (model prog w) A (call (.type "set") [.ref l]) Q E s:=by
 refine wpAny_call (codeAny_of_tree (zJ ⟨Code.quiet_builtin _ (by decide +kernel),codeAny_builtin PySem.F.entry_type_call ?_⟩))
 unfold Builtin.«type.__call__»
 dsimp only
 rw[if_neg (by rw[PySem.F.called_set.notType];decide)]
 rw[if_neg (by rw[PySem.F.called_set.canCreate];decide)]
 obtain⟨c,tl,hm⟩:=PySem.F.called_set.mro
 refine zB (wpAny_of_eq (PySem.F.typeCall_set_1 _) (zJ (zB (wpAny_of_eq hm (zJ ?_)))))
 refine zB (wpAny_of_eq PySem.F.called_set.made (zJ (zB (zJ ?_))))
 refine zB (zAg (wpAny_call (codeAny_mono (code_set_new_1 (E:=E) (.ref l) (Q₁:=fun obj s₁=>obj = .ref s.heap.objs.size/\∃led,s₁={ s with heap:=s.heap.push { cls:=.type "set",data:=.set #[] 0 (SetTable.fresh 0 0 led) } }) fun led=>⟨rfl,led,rfl⟩) fun r s₁ e=>?_)))
 match r,e with
 | .ok (.ret obj),e=>
  obtain⟨rfl,led,rfl⟩:=e
  have h0:Kp s (s.heap.push { cls:=.type "set",data:=.set #[] 0 (SetTable.fresh 0 0 led) }):=fun b o e=>zI _ e
  have ht:∀h,Kp s h->h.IsTuple l its.toArray:=fun h K=>by
   obtain⟨o,ho,hr⟩:=hl
   exact⟨o,K _ _ ho,hr⟩
  have hlt:l<s.heap.objs.size:=by
   obtain⟨o,ho,_⟩:=hl
   exact zR ho
  have tyS:Shared.TypeIs { s with heap:=s.heap.push { cls:=.type "set",data:=.set #[] 0 (SetTable.fresh 0 0 led) } } (.ref s.heap.objs.size) "set" := ⟨_,zW _ rfl,rfl⟩
  show wpAny _ _ _ _ _ _
  refine zB (wpAny_isInstance tyS PySem.F.called_set.sub ?_)
  refine zB (zAg ?_)
  unfold callSpecial?
  refine zB (wpAny_specialOf tyS PySem.F.called_set.init.lookup (zAg (zB (wpAny_of_eq (PySem.F.called_set.init.bind _) (zJ (zB (wpAny_call (codeAny_call_builtin PySem.F.called_set.init.plain PySem.F.entry_set_init (check_set_init_1 tyS ?_)))))))))
  unfold Builtin.«set.__init__»
  refine zB (wpAny_of_eq (m':=pure ()) rfl (zJ ?_))
  dsimp only
  refine zB (zB (zB (wpAny_typeOf tyS (wpAny_of_eq (m':=pure (Value.type "set")) rfl (zJ (wpAny_of_eq (m':=pure "set") rfl (zJ ?_)))))))
  refine zB (wpAny_of_eq (m':=pure ()) rfl (zJ (zB (zJ ?_))))
  refine zB (zB (zB (wpAny_load (zW _ rfl) ?_)))
  refine wpAny_of_eq (m':=pure (#[],0,SetTable.fresh 0 0 led)) (by cases led <;> rfl) (zJ (wpAny_of_eq (m':=pure false) (by cases led <;> rfl) (zJ ?_)))
  have tyT:∀h tk,Kp s h->Shared.TypeIs { s with heap:=h,toks:=tk } (.ref l) "tuple" := fun h tk K=>by
   obtain⟨o,ho,hr⟩:=ht h K
   exact⟨o,ho,hr.1⟩
  show wpAny _ _ (Builtin.Frozenset.updateFrom "set.__init__" s.heap.objs.size (.ref l) >>= _) _ _ _
  unfold Builtin.Frozenset.updateFrom
  refine zB (zB (zB (wpAny_isInstance (tyT _ _ h0) PySem.F.sub_tuple_set (wpAny_isInstance (tyT _ _ h0) (b:=false) rfl ?_))))
  refine zB (wpAny_typeOf (tyT _ _ h0) ?_)
  refine zB (wpAny_pyIter_tuple (ht _ h0) (zB (wpAny_runValue ?_)))
  have hsz:(s.heap.push { cls:=.type "set",data:=.set #[] 0 (SetTable.fresh 0 0 led) }).objs.size=s.heap.objs.size+1:=zAi ..
  refine codeAny_set_update_loopS (Walks.toS (Walks.tuple (A:=(A.under (Code.builtin "type.__call__" { pos:=[.type "set",.ref l] })).in1.in1) hA (s.heap.push { cls:=.type "set",data:=.set #[] 0 (SetTable.fresh 0 0 led) }).objs.size l (zc (by rw[hsz];exact zAh hlt)) its.toArray)) s.heap.objs.size ?_ (fun i=>ns.getD i 0) ?_ (by simpa using hz) its.toArray.size 0 _ rfl (zi _) ?_ ?_ ?_
  . rw[hsz]
    intro z
    rcases zY.mp z with z | z
    . exact absurd z (zc (Nat.lt_succ_self _))
    . exact absurd (zj.mp z) (Nat.ne_of_gt hlt)
  . intro i v hv
    rw[zBI] at hv
    exact hi.int_at i v hv
  . exact⟨⟨_,zW _ rfl,rfl,rfl⟩,ht _ fun b o e=>zI _ (h0 b o e)⟩
  . have:=zML (prog:=prog) (w:=w) (h:=s.heap) led
    obtain⟨o,es,ep,t,ho,hr⟩:=this
    exact⟨o,es,ep,t,zI _ ho,hr⟩
  . intro s' mv so
    refine zJ (zJ (zJ (zJ ?_)))
    obtain⟨h',g',d',t',o'⟩:=s'
    obtain rfl:g'=s.gens:=mv.gens
    obtain rfl:d'=s.drawn:=mv.drawn
    obtain rfl:o'=s.os:=mv.os
    refine q h' t' (fun b o e=>mv.heap b o ?_ (zI _ (h0 b o e))) (by simpa using so)
    have hb:b<s.heap.objs.size:=zR e
    intro z
    rw[hsz] at z
    rcases zY.mp z with z | z
    . exact absurd z (zc hb)
    . exact absurd (zj.mp z) (zc (zAh hb))
 | .ok .next,e=>exact e.elim
 | .ok .brk,e=>exact e.elim
 | .ok .cont,e=>exact e.elim
 | .error v,e=>exact e
theorem zES {ns:List Int}(h:ns.Nodup):∀k,k<=ns.length->firstMet (fun i=>ns.getD i 0) k=ns.take k
 | 0,_=>rfl
 | k+1,hk=>by
  rw[firstMet_succ,zES h k (by omega)]
  have hx:ns[k]? = some (ns.getD k 0):=by rw[zC,zA (by omega)];rfl
  unfold step_dedup
  rw[if_neg,zw,hx]
  . rfl
  . intro z
    obtain⟨y,hy,e⟩:=List.any_eq_true.mp z
    have e':y=ns.getD k 0:=by simpa using e
    obtain⟨j,hj,ej⟩:=zy hy
    rw[zl] at hj
    rw[List.getElem_take] at ej
    obtain⟨hk',ek⟩:=zK.mp hx
    have:=(zAL.mp h)
    have:=zAV.mp this j k (by omega) (by omega) (by omega)
    exact this (by rw[ej,ek,e'])
section
variable {X:Cx}
theorem zJ0 (hc:X.calm=true):zCS X (.type "set") (fun xs H Q=>∃(p:Addr)(ns:List Int),xs=[.ref p]/\SqT X.K H p (ns.map V.int)/\ns.length<=1000 /\
 ∀d S,H d=none->Q (.ref d) (upd H d (.set S (firstMet (fun i=>ns.getD i 0) ns.length).length))):=by
 intro pins s σ H xs us Q I r h
 obtain⟨p,ns,rfl,hq,hl,q⟩:=h
 obtain⟨u,rfl,rx⟩:=zCq r
 cases rx
 obtain⟨its,rv,pl,hz⟩:=I.tuple hq
 have hi:=zBS rv
 have hil:=hi.length
 refine zG2 (I.ok.hd hc) pl hi (by have:scanBound=4096:=rfl;omega) fun h tk K so=>?_
 rw[hil] at so
 exact⟨.ref s.heap.objs.size,_,I.laid (a:=s.heap.objs.size) (t':=tk) K (zH _) (show zBP X.prog X.w _ _ _ (.set _ _) from so),rfl,q _ _ I.fresh⟩
theorem zJ2:zCS X (.builtin "len") (fun xs H Q=>∃(a:Addr)(S:Int->Bool)(n:Nat),xs=[.ref a]/\H a=some (.set S n)/\Q (.int n) H):=by
 intro pins s σ H xs us Q I r h
 obtain⟨a,S,n,rfl,ha,q⟩:=h
 obtain⟨u,rfl,rx⟩:=zCq r
 cases rx
 obtain⟨o,es,ep,t,ho,ex,hd,_,_,hb,hf,hn⟩:=(show zBP X.prog X.w H s.heap a (.set S n) from I.hok a _ ha)
 refine call_len_set ho ex hd hf (by have:scanBound=4096:=rfl;omega) ⟨.int n,H,I.tok _,⟨_,by rw[hn]⟩,q⟩
noncomputable def tBMT (r:V->List V->Hp->VK->Prop)(to:TE)(t:TA):TE:=fun σ H Q=>to σ H fun x H1=>(∃p ys,x = .ref p/\H1 p=some (.tup ys))/\t σ H1 fun xs H2=>r x xs H2 Q
variable {o e:Expr}{es:List Expr}{to:TE}{t:TA}{name:Str}{apos cpos:Pos}{id:String}{r:V->List V->Hp->VK->Prop}
theorem pe_bmT (slot:Slot "tuple" name id) (hty:typeOf (.builtin id)=pure (.type "method_descriptor")) (hm:MtR X id r)(ho:PE X o to)(ha:PA X (e::es) t)
 (hbase:attributeBase o name X.env (eval o X.env)=eval o X.env:=by rfl)
 (hfew:((backTo cpos (starEach (e::es) X.env)).all (fun x=>!x.1) && (backToKw cpos (keywordEach [] X.env)).all (fun x=>x.1.isSome)
  && decide ((e::es).length+([]:List Keyword).length+(if ([]:List Keyword).isEmpty then 0 else 1)<30))=true:=by rfl)
 (hline:(apos.endLine==cpos.line)=true:=by rfl)(hs:starEach (e::es) X.env=(false,eval e X.env)::starEach es X.env:=by rfl)(hplain:(backTo cpos (starEach es X.env)).any (·.1)=false:=by rfl) :
 PE X (.Call (.Attribute o name apos) (e::es) [] cpos) (tBMT r to t):=by
 intro pins s σ H Q I h
 refine wpAny_Call_method_late hbase hfew hline rfl (thn (ho pins s σ H _ I h) fun v s1 ⟨x,H1,I1,r1,⟨p,ys,ex,hp⟩,q1⟩=>?_)
 subst ex
 cases (show v=Value.ref p from r1)
 obtain⟨⟨_,o2,ho2,hd2⟩,its,rv,ob,hob,hcl,_⟩:=(show zBP X.prog X.w H1 s1.heap p (.tup ys) from I1.hok p _ hp)
 refine⟨"tuple",id,PySem.F.plainAttrs_tuple,slot,hty,⟨ob,hob,hcl⟩,fun a ea=>?_,?_⟩
 . cases ea
   exact⟨o2,ho2,hd2⟩
 have hA:=ha cpos pins s1 σ H1 _ I1 q1
 rw[hs] at hA ⊢
 refine Calls.callWith_builtin (by show (false || (backTo cpos (starEach es X.env)).any (·.1))=false;rw[hplain] <;> rfl) (Calls.evalArgs_plain ?_)
 exact thn hA fun us s2 ⟨vs,H2,I2,r2,q2⟩=>hm pins s2 σ H2 (.ref p) vs (.ref p) us Q I2 rfl r2 q2
end
section
variable {prog:Program}{w:World}{A:Around}{E:vSP}
theorem zJT {its:Array Value}{ns:List Int}{v:Int}{tv:Tok}{i:Nat}{R:Option PySem.Fin×Unit->Shared->Prop}(hi:IntsAre its.toList ns)(hv:ns[i]? = some v)(hno:∀j,j<i->ns[j]?≠some v)
 (f:Nat->Option PySem.Fin×Unit->Sem (ForInStep (Option PySem.Fin×Unit)))
 (hf:∀(j:Nat)(x:Option PySem.Fin×Unit),f j x=(match its[j]? with
  | some y=>do
   let b <-eqBool y (.int v tv)
   if b=true then do
    let r <-retInt j
    pure (.done (some r,()))
   else pure (.yield (none,()))
  | _=>pure (.yield (none,()))))
 (s:Shared)(hR:∀tk,R (some (.done (.ret (.int i s.toks))),()) { s with toks:=tk }) :
 ∀(r j:Nat)(b:Option PySem.Fin×Unit),i-j=r->j<=i->wpAny (model prog w) A (forIn (List.range' j (its.size-j) 1) b f) R E s:=by
 have hsz:its.size=ns.length:=by have:=hi.length;simpa using this
 have hil:i<ns.length:=(zK.mp hv).1
 have look:∀j,j<ns.length->∃t,its[j]? = some (.int (ns.getD j 0) t):=fun j hj=>by
  have hj':j<its.size:=by omega
  obtain⟨t,ht⟩:=hi.int_at j (its[j]'hj') (by rw[Array.getElem?_toList,Array.getElem?_eq_getElem hj'])
  exact⟨t,by rw[Array.getElem?_eq_getElem hj',ht]⟩
 intro r
 induction r with
 | zero=>
  intro j b hr hj
  obtain rfl:j=i:=by omega
  rw[show its.size-j=(its.size-j-1)+1 by omega,List.range'_succ,List.forIn_cons,hf]
  obtain⟨t,ht⟩:=look j hil
  rw[ht]
  refine zB (zB (wpAny_eqBool_int ?_))
  have e:ns.getD j 0=v:=by rw[zC,hv];rfl
  rw[e,show (v==v)=true by simp]
  refine zB (zB (wpAny_mkInt (zJ (zJ (zJ ?_)))))
  exact hR _
 | succ r ih=>
  intro j b hr hj
  rw[show its.size-j=(its.size-(j+1))+1 by omega,List.range'_succ,List.forIn_cons,hf]
  obtain⟨t,ht⟩:=look j (by omega)
  rw[ht]
  refine zB (zB (wpAny_eqBool_int ?_))
  have hj':ns[j]? = some (ns.getD j 0):=by rw[zC,zA (by omega)];rfl
  have e:¬ ns.getD j 0=v:=fun z=>hno j (by omega) (by rw[hj',z])
  rw[show (ns.getD j 0==v)=false by simpa using e]
  refine zJ ?_
  exact ih (j+1) _ (by omega) (by omega)
end
section
variable {X:Cx}
theorem zKw:MtR X "tuple.index" (fun x xs H Q=>∃(p:Addr)(ns:List Int)(i:Nat)(v:Int),x = .ref p/\xs=[.int v]/\SqT X.K H p (ns.map V.int)/\ns[i]? = some v/\(∀j,j<i->ns[j]?≠some v)/\Q (.int i) H):=by
 intro pins s σ H x xs v us Q I rx r h
 obtain⟨p,ns,i,k,rfl,rfl,hq,hi,hno,q⟩:=h
 cases (show v=Value.ref p from rx)
 obtain⟨u,rfl,t,rfl⟩:=zCq r
 obtain⟨its,rv,⟨ob,hob,hcl,n,hdat⟩,hz⟩:=I.tuple hq
 have hI:=zBS rv
 refine wpAny_call (codeAny_call_builtin PySem.F.slot_tuple_index.plain PySem.F.entry_tuple_index (PySem.F.slot_tuple_index.check _ _ _ _ _ _ _ _ ⟨ob,hob,hcl⟩ (PySem.F.args_tuple_index_2 _ _) ?_))
 unfold Builtin.«tuple.index»
 refine zB (wpAny_of_eq (m':=pure (Value.ref p,[Value.int k t])) rfl (zJ ?_))
 refine zB (zB (wpAny_seqItems hob hdat (zJ ?_)))
 refine zB (zJ (zB (zJ (zB ?_))))
 rw[Std.Legacy.Range.forIn_eq_forIn_range']
 have hsz:(Std.Legacy.Range.mk 0 (min its.toArray.size its.toArray.size) 1 (by decide)).size=its.toArray.size-0:=by
  show (min its.toArray.size its.toArray.size-0+1-1)/1=_
  rw[Nat.min_self];omega
 rw[hsz]
 refine zJT (its:=its.toArray) (ns:=ns) (v:=k) (tv:=t) (i:=i) hI hi hno _ (fun j x=>by rfl) s (fun tk=>?_) i 0 _ (by omega) (zi _)
 exact zJ ⟨.int i,H,I.tok _,⟨_,rfl⟩,q⟩
end
section
variable {X:Cx}{pl:lPO}{N':List Str}{sc:Scope}{fp:List Addr}{s3:Shared}{H3:Hp}
theorem zJA:MtR (zBm X pl N' sc fp s3 H3) "tuple.index" (fun x xs H Q=>∃(p:Addr)(ns:List Int)(i:Nat)(v:Int),x = .ref p/\xs=[.int v]/\SqT X.K H p (ns.map V.int)/\ns[i]? = some v/\(∀j,j<i->ns[j]?≠some v)/\Q (.int i) H):=zKw
end
end L2
namespace WM
open L2
structure En where
 h:Int
 l:Int
 u:Option Int
 d:Option Int
noncomputable def Hub (es:List En):Prop:=es.Pairwise fun a b=>a.h<b.h
end WM
namespace L2
open PySem PyProof.Rows
end L2
namespace WM
end WM
namespace L2
open PySem PySem.Spec PyProof.Rows
end L2
namespace WM
theorem zIS:∀(i x j:Nat),x.testBit i=false->(2 ^ i+x).testBit j=(decide (j=i) || x.testBit j)
 | 0,x,0,h=>by
  have hx:x%2=0:=by
   rw[Nat.testBit_zero] at h
   have:=of_decide_eq_false h
   omega
  rw[Nat.testBit_zero]
  have:(2 ^ 0+x)%2=1:=by rw[Nat.pow_zero];omega
  rw[this];rfl
 | 0,x,j+1,h=>by
  have hx:x%2=0:=by
   rw[Nat.testBit_zero] at h
   have:=of_decide_eq_false h
   omega
  rw[Nat.testBit_succ,Nat.testBit_succ]
  have:(2 ^ 0+x)/2=x/2:=by rw[Nat.pow_zero];omega
  rw[this,zb (by omega),Bool.false_or]
 | i+1,x,0,h=>by
  rw[Nat.testBit_zero,Nat.testBit_zero]
  have:(2 ^ (i+1)+x)%2=x%2:=by rw[Nat.pow_succ];omega
  rw[this,zb (p:=0=i+1) (by omega),Bool.false_or]
 | i+1,x,j+1,h=>by
  rw[Nat.testBit_succ,Nat.testBit_succ]
  rw[Nat.testBit_succ] at h
  have:(2 ^ (i+1)+x)/2=2 ^ i+x/2:=by rw[Nat.pow_succ];omega
  rw[this,zIS i (x/2) j h]
  congr 1
  exact decide_eq_decide.mpr (by omega)
noncomputable def snN (l:List Nat):Nat:=(l.map (2 ^ ·)).sum
theorem zCs:∀{l:List Nat},l.Nodup->∀j,(snN l).testBit j=decide (j∈l)
 | [],_,j=>by simp[snN]
 | a::l,h,j=>by
  obtain⟨h1,h2⟩:=zAO.mp h
  have ih:=zCs h2
  have e:snN (a::l)=2 ^ a+snN l:=by simp[snN]
  rw[e,zIS a (snN l) j (by rw[ih a];exact zb h1),ih j]
  by_cases c:j=a
  . subst c;simp
  . simp[c]
theorem zKW {l:List Nat}:snN l=0↔l=[]:=by
 cases l with
 | nil=>simp[snN]
 | cons a l=>
  have:0<2 ^ a:=Nat.pow_pos (by decide)
  have e:snN (a::l)=2 ^ a+snN l:=by simp[snN]
  rw[e]
  simp
theorem zMH {l k:List Nat}(h1:l.Nodup)(h2:k.Nodup):snN l &&& snN k=0↔∀x∈l,x∉k:=by
 constructor
 . intro e x hx hk
   have:=congrArg (Nat.testBit · x) e
   simp only[Nat.testBit_and,zCs h1,zCs h2,Nat.zero_testBit,zP hx,zP hk] at this
   cases this
 . intro h
   apply Nat.eq_of_testBit_eq
   intro j
   rw[Nat.testBit_and,zCs h1,zCs h2,Nat.zero_testBit]
   by_cases c:j∈l
   . rw[zb (h j c),Bool.and_false]
   . rw[zb c,Bool.false_and]
noncomputable def sn (ps:List Int):Int:=(ps.map fun p=>(1:Int)*2 ^ p.toNat).sum
theorem zEk:∀(ps:List Int),sn ps=((snN (ps.map Int.toNat):Nat):Int)
 | []=>rfl
 | p::ps=>by
  have ih:=zEk ps
  have e1:sn (p::ps)=1*2 ^ p.toNat+sn ps:=by simp[sn]
  have e2:snN ((p::ps).map Int.toNat)=2 ^ p.toNat+snN (ps.map Int.toNat):=by simp[snN]
  rw[e1,e2,ih,Int.one_mul,Int.natCast_add]
  congr 1
theorem zE9:∀{ps:List Int},ps.Nodup->(∀p∈ps,0<=p)->(ps.map Int.toNat).Nodup
 | [],_,_=>List.nodup_nil
 | p::ps,h,h0=>by
  obtain⟨h1,h2⟩:=zAO.mp h
  rw[zAA,zAO]
  refine⟨fun z=>?_,zE9 h2 fun q hq=>h0 q (zX _ hq)⟩
  obtain⟨q,hq,e⟩:=zv.mp z
  have:=h0 p zh
  have:=h0 q (zX _ hq)
  have:q=p:=by omega
  exact h1 (this ▸ hq)
theorem zMG {ps:List Int}:sn ps=0↔ps=[]:=by
 rw[zEk]
 constructor
 . intro h
   have:snN (ps.map Int.toNat)=0:=by omega
   simpa using zKW.mp this
 . rintro rfl;rfl
theorem sn_and {ps qs:List Int}(h1:ps.Nodup)(h2:qs.Nodup)(p0:∀p∈ps,0<=p)(q0:∀q∈qs,0<=q):((snN (ps.map Int.toNat) &&& snN (qs.map Int.toNat):Nat):Int)=0↔∀p∈ps,p∉qs:=by
 have key:=zMH (zE9 h1 p0) (zE9 h2 q0)
 constructor
 . intro h p hp hq
   exact key.mp (by omega) p.toNat (zv.mpr ⟨p,hp,rfl⟩) (zv.mpr ⟨p,hq,rfl⟩)
 . intro h
   have:snN (ps.map Int.toNat) &&& snN (qs.map Int.toNat)=0:=key.mpr fun x hx hy=>by
    obtain⟨p,hp,rfl⟩:=zv.mp hx
    obtain⟨q,hq,e⟩:=zv.mp hy
    have:=p0 p hp
    have:=q0 q hq
    have:q=p:=by omega
    exact h p hp (this ▸ hq)
   rw[this];rfl
theorem zJj {α:Type}(f:α->Bool):∀l:List α,(l.filter f).length=(l.map fun a=>if f a=true then 1 else 0).sum
 | []=>rfl
 | a::l=>by
  rw[zBB,zAA,zB0,<-zJj f l]
  by_cases h:f a=true
  . rw[if_pos h,if_pos h,zT];omega
  . rw[if_neg h,if_neg h];omega
theorem zIV {α:Type}(f g:α->Nat):∀l:List α,(l.map fun a=>f a+g a).sum=(l.map f).sum+(l.map g).sum
 | []=>rfl
 | a::l=>by simp only[zAA,zB0,zIV f g l];omega
theorem zHA {α:Type}:∀l:List α,(l.map fun _=>0).sum=0
 | []=>rfl
 | a::l=>by rw[zAA,zB0,zHA l]
theorem dbl {α β:Type}(f:α->β->Bool)(k:List β):∀l:List α,(l.map fun a=>(k.filter (f a)).length).sum=(k.map fun b=>(l.filter fun a=>f a b).length).sum
 | []=>by simp[zHA]
 | a::l=>by
  rw[zAA,zB0,dbl f k l,zJj,<-zIV]
  congr 1
  apply zBW
  intro b _
  rw[zBB]
  by_cases h:f a b=true
  . rw[if_pos h,if_pos h,zT];omega
  . rw[if_neg h,if_neg h];omega
end WM
namespace SortT
open PySem PySem.W PySem.Calls PyProof.Rows
section
variable {prog:Program}{w:World}{A:Around}{E:vSP}{s:Shared}
theorem zIB {t:Addr}{us:List Value}{Q:List Value->Shared->Prop}(ht:IsTup s.heap t us.toArray)(hz:us.length<=sizeLine)
 (q:Q us { s with heap:=(s.heap.push (seqObj "list" #[] 0)).update s.heap.objs.size (Obj.mapSeq (· ++ us.toArray)) }):wpAny (model prog w) A (collect (.ref t)) Q E s:=by
 obtain⟨ob,hob,cob,m,dob⟩:=ht
 have hob':(s.heap.push (seqObj "list" #[] 0)).get? t=some ob:=zI _ hob
 have new:(s.heap.push (seqObj "list" #[] 0)).get? s.heap.objs.size=some (seqObj "list" #[] 0):=zW _ rfl
 unfold collect
 refine zB (wpAny_runValue (codeAny_builtin entry_proto_collect' (zB (wpAny_newList (zJ ⟨Code.quiet_builtin _ (by decide +kernel),codeAny_builtin entry_list_iadd' ?_⟩)))))
 show wpAny _ _ (Builtin.List.listExtendWith _ (.ref t) _) _ _ _
 unfold Builtin.List.listExtendWith
 refine zB (wpAny_typeOf (T := "tuple") ⟨ob,hob',cob⟩ ?_)
 have yes:(Value.type "tuple" == Value.type "tuple")=true:=rfl
 rw[if_pos (by rw[yes];simp)]
 refine zB (listItems_at hob' dob (zB (listItems_at (xs:=#[]) (n:=0) new rfl ?_)))
 rw[if_neg (by simp)]
 refine zB (listUpdate_at (xs:=#[]) (n:=0) new rfl (zJ ?_) (zi _) (by simp;omega))
 refine zB (wpAny_load (get?_update_seq new _) ?_)
 have e:((#[]:Array Value)++us.toArray).toList=us:=by simp
 show wpAny _ _ (pure ((#[]:Array Value)++us.toArray).toList) Q E _
 rw[e]
 exact zJ q
theorem sorted_tup {t:Addr}{us:List Value}{Q:vSP}{O:KeyOrd}{key:Nat->O.α}{κ:SortKind}(ht:IsTup s.heap t us.toArray)(h64:us.length<64)
 (ask:2<=us.length->∀(s':Shared)(a:Addr),(∀b o,s.heap.get? b=some o->b≠a)->(∀b o,s.heap.get? b=some o->s'.heap.get? b=some o)->Asks prog w A.in1.in1 s' a us key κ)
 (h:∀(D:Addr)(h':Heap)(out:List Nat)(c:Nat),Put key us.length out->s.heap.objs.size<=D->(∀b o,s.heap.get? b=some o->h'.get? b=some o) ->
  h'.get? D=some (seqObj "list" (out.map fun i=>us.getD i Value.none).toArray c)->Q (.ref D) { s with heap:=h' }) :
 wpAny (model prog w) A (call (.builtin "sorted") [.ref t]) Q E s:=by
 refine Calls.call_function_entry kind_sorted plain_sorted entry_sorted (args_sorted1 _) ?_
 unfold Builtin.«sorted»
 refine zB (m:=checkCount "sorted" 1 1 _) (zJ (zB (zIB ht (by rw[sizeLine_eq];omega) (zB (wpAny_newList ?_ (by rw[sizeLine_eq];omega))))))
 generalize hh1:(s.heap.push (seqObj "list" #[] 0)).update s.heap.objs.size (Obj.mapSeq (· ++ us.toArray))=h1
 have hsz:h1.objs.size=s.heap.objs.size+1:=by rw[<-hh1,Heap.size_update,size_push']
 have hk:∀b o,s.heap.get? b=some o->h1.get? b=some o:=fun b o z=>by
  rw[<-hh1,zB2 _ _ _ _ (zc (zR z)),Heap.get?_push_ne _ _ _ (zc (zR z))]
  exact z
 have hoL:(h1.push (seqObj "list" us.toArray 0)).get? h1.objs.size=some (seqObj "list" us.toArray 0):=zW _ rfl
 have keep1:∀b o,h1.get? b=some o->(h1.push (seqObj "list" us.toArray 0)).get? b=some o:=fun b o q=>zI _ q
 refine zB (zAg (zAw slot_list_sort ⟨_,hoL,rfl⟩ entry_list_sort (zEE (O:=O) (key:=key) (κ:=κ) hoL h64
  (fun h2=>ask h2 _ _ (fun b o e=>zc (zR (hk b o e))) fun b o e=>keep1 b o (hk b o e)) fun out hp=>⟨_,rfl,?_⟩) (args_list_sort _)))
 refine zJ ⟨_,rfl,?_⟩
 obtain⟨c,hc⟩:=sortedHeap_at (vs:=us) (out:=(out.map fun i=>us.getD i Value.none).toArray) hoL
 refine h _ _ out c hp (by rw[hsz];exact zA6 _) (fun b o e=>?_) hc
 have hb:b<h1.objs.size:=zR (hk b o e)
 rw[sortedHeap_old (zc hb) (by rw[zAi];exact zAh hb)]
 exact keep1 b o (hk b o e)
end
end SortT
namespace L2
open PySem PySem.Spec PyProof.Rows
section
variable {X:Cx}
theorem zFa:zCS X (.builtin "sorted") (fun xs H Q=>∃(p:Addr)(ns:List Int),xs=[.ref p]/\SqT X.K H p (ns.map V.int)/\ns.length<64 /\
 ∀(l:Addr)(ms:List Int),H l=none->ms.Perm ns->ms.Pairwise (· <= ·)->Q (.ref l) (upd H l (.lst (ms.map V.int)))):=by
 intro pins s σ H xs us Q I r h
 obtain⟨p,ns,rfl,hq,h64,q⟩:=h
 obtain⟨u,rfl,rx⟩:=zCq r
 cases rx
 obtain⟨its,r',pl,hz⟩:=I.tuple hq
 have hI:IntsAre its ns:=zBS r'
 have hl:=hI.length
 refine SortT.sorted_tup (O:=intO) (key:=fun i=>ns.getD i 0) (κ:=oneType') pl (by omega) (fun h2 s' a fa kp=>zGY hI h2) fun D h' out c pt hD kp ho=>?_
 obtain⟨ms,hp,hr,rz,hlz⟩:=zHN hI pt
 refine⟨.ref D,_,zC4 (t':=s.toks) I hD kp ho rz ?_,rfl,q D ms (I.hok.fresh hD) hp hr⟩
 have:sizeLine=16777216:=rfl
 rw[zD]
 omega
end
section
variable {X:Cx}
noncomputable def rCatA (K:PySem.W.Frag):R2:=fun x y H Q=>∃a b xs ys,x = .ref a/\y = .ref b/\SqT K H a xs/\SqT K H b ys/\xs.length+ys.length<=sizeLine /\
 (xs=[]->Q (.ref b) H)/\(xs≠[]->ys=[]->Q (.ref a) H)/\(xs≠[]->ys≠[]->∀p,H p=none->Q (.ref p) (upd H p (.tup (xs++ys))))
theorem zNL {prog:Program}{w:World}{A:Around}{E:vSP}{s:Shared}{t b:Addr}{ws:List Value}{Q:vSP}(ht:IsTup s.heap t #[])(hb:IsTup s.heap b ws.toArray)
 (h:Q (.ref b) s):wpAny (model prog w) A (binaryOp .Add (.ref t) (.ref b)) Q E s:=by
 obtain⟨⟨cls,dd,data,sl⟩,ho,hc,n,hd⟩:=id ht
 obtain⟨⟨cls2,dd2,data2,sl2⟩,ho2,hc2,n2,hd2⟩:=id hb
 simp only at hc hd hc2 hd2
 subst hc hd hc2 hd2
 exact concat_meets ⟨_,ho,rfl⟩ ⟨_,ho2,rfl⟩ noFill_tuple_add seq_tuple_add PySem.F.slot_tuple_add PySem.F.entry_tuple_add (PySem.F.args_tuple_add_2 _ _)
  (tuple_addW0 t b #[] ws.toArray n n2 dd dd2 sl sl2 rfl) ⟨ho,ho2,h⟩
theorem zMh:OpR X (binaryOp .Add) (rCatA X.K):=by
 intro pins s σ H x y v u Q I rx ry h
 obtain⟨a,b,xs,ys,rfl,rfl,ha,hb,hz,q0,q1,q2⟩:=h
 by_cases hx:xs=[]
 . subst hx
   cases rx
   cases ry
   obtain⟨its,r1,p1,_⟩:=I.tuple ha
   obtain⟨its2,r2,p2,_⟩:=I.tuple hb
   cases r1
   exact zNL p1 p2 ⟨.ref b,H,I,rfl,q0 rfl⟩
 . exact zMg pins s σ H _ _ v u Q I rx ry ⟨a,b,xs,ys,rfl,rfl,ha,hb,hx,hz,q1 hx,q2 hx⟩
end
end L2
namespace HT
open PySem PySem.Spec PyProof.Rows
end HT
namespace L2
open PySem PySem.Spec PyProof.Rows
end L2
namespace HT
open PySem PySem.Spec PyProof.Rows
section
variable {prog:Program}{w:World}{A:Around}{E:vSP}{s:Shared}
theorem getItem_tuple_all {t sl:Addr}{items:Array Value}{vl vu:Value}{lo hi:Option Int}{Q:vSP}(ht:IsTup s.heap t items)(hs:s.heap.IsSliceOf sl vl vu .none)(pl:IsPart vl lo)(pu:IsPart vu hi)
 (hw:sIx items.size 0 lo=0/\sIx items.size items.size hi=items.size)(h:Q (.ref t) s):wpAny (model prog w) A (getItem (.ref t) (.ref sl)) Q E s:=by
 obtain⟨os,hos,hcs,hds⟩:=id hs
 have hTs:s.TypeIs (.ref sl) "slice" := ⟨os,hos,hcs⟩
 unfold getItem
 try with_reducible refine zAg ?_
 first | refine zB (zJ ?_) | skip
 refine zB (wpAny_sequenceKey ht.typeIs (by decide) ?_)
 refine zB (zA4 (name:=Str.ofString "__getitem__") ht.typeIs PyProof.Rows.slot_tuple_getitem
  (zAw PyProof.Rows.slot_tuple_getitem ht.typeIs entry_tuple_getitem ?_ (args_tuple_getitem _ _)))
 show wpAny _ _ (Builtin.Tuple.tupleItemsOf (.ref t) >>= _) _ _ s
 refine zB (tupleItemsOf_ ht ?_)
 refine zB (wpAny_typeOf hTs ?_)
 rw[if_pos (by decide)]
 refine zB (zCn hs pl pu ?_)
 have hyes:(((sIx items.size 0 lo:Nat):Int)==0 && (1:Int)==1 && (sIx items.size items.size hi-sIx items.size 0 lo)==items.size)=true:=by
  rw[hw.1,hw.2];simp
 show wpAny _ _ (if (((sIx items.size 0 lo:Nat):Int)==0 && (1:Int)==1 && (sIx items.size items.size hi-sIx items.size 0 lo)==items.size)=true then _ else _) _ _ s
 rw[if_pos hyes]
 unfold Builtin.Tuple.tupleIsExact
 refine zB (zB (wpAny_typeOf ht.typeIs (zJ ?_)))
 rw[if_pos (by decide)]
 first
  | exact zB (wpAny_rule (zJ ⟨_,rfl,zJ h⟩))
  | exact zB (wpAny_rule (zJ (zJ ⟨_,rfl,zJ h⟩)))
  | exact zB (wpAny_rule (zB (zJ (zJ ⟨_,rfl,zJ h⟩))))
  | exact wpAny_rule (zJ ⟨_,rfl,zJ h⟩)
end
end HT
namespace L2
open PySem PySem.Spec PyProof.Rows
section
variable {X:Cx}{e:Expr}{te:TE}{pos p2 p3 p4:Pos}
noncomputable def rSlA (K:PySem.W.Frag):V->Option Int->Option Int->Hp->VK->Prop:=fun x lo hi H Q=>∃a xs,x = .ref a/\SqT K H a xs /\
 ((HT.sIx xs.length 0 lo=0/\HT.sIx xs.length xs.length hi=xs.length)->Q (.ref a) H)/\(¬ (HT.sIx xs.length 0 lo=0/\HT.sIx xs.length xs.length hi=xs.length)->∀p,H p=none->Q (.ref p) (upd H p (.tup (zC0 xs lo hi))))
theorem zMJ:SlR X (rSlA X.K):=by
 intro pins s σ H x v vl vu lo hi sl Q I rx hs pl pu h
 obtain⟨a,xs,rfl,hx,q1,q2⟩:=h
 by_cases c:HT.sIx xs.length 0 lo=0/\HT.sIx xs.length xs.length hi=xs.length
 . cases rx
   obtain⟨its,r,ht,hz⟩:=I.tuple hx
   have hlen:its.toArray.size=xs.length:=by rw[zQ];exact r.length.symm
   refine⟨"tuple",_,PyProof.Rows.slot_tuple_getitem.lookup,ht.typeIs,?_⟩
   exact HT.getItem_tuple_all ht hs pl pu (by rw[hlen];exact c) ⟨.ref a,H,I,rfl,q1 c⟩
 . exact sl_tup pins s σ H _ v vl vu lo hi sl Q I rx hs pl pu ⟨a,xs,rfl,hx,c,q2 c⟩
end
section
variable {X:Cx}{pins:lPO}{σ:St}{H:Hp}{s:Shared}{h':Heap}
theorem Inv.turnedLaid {t':Nat}{fp:List Addr}{a:Addr}{o:HO}(I:Inv X pins σ H s)(hf:∀b∈fp,zG6 X pins H b)(k:∀b u,b∉fp->s.heap.get? b=some u->h'.get? b=some u)(hp:s.heap.objs.size<=a)
 (new:zBP X.prog X.w (upd H a o) h' a o):Inv X pins σ (upd H a o) { s with heap:=h',toks:=t' }:=by
 have fr:H a=none:=I.hok.fresh hp
 have nfp:∀b u,H b=some u->b∉fp:=fun b u e z=>by rw[(hf b z).1] at e;cases e
 have na:∀b u,H b=some u->b≠a:=fun b u e z=>by rw[z,fr] at e;cases e
 refine I.step (g':=s.gens) (d':=s.drawn) (ch:=fp) (fun b hb=>?_) (fun b u _ _ hc e _=>k b u hc e) (fun b u _ _ hc e _=>⟨u.slots,k b u hc e⟩) (fun b u hc e n=>?_) (fun b u hc e=>⟨u,k b u hc e⟩)
  (fun b xs e=>by rw[zf (na b _ e)];exact e) (fun b u w e=>by rw[zf (na b _ e)];exact e) (fun b ps e=>⟨#[],by rw[zf (na b _ e),e];simp⟩) (fun m hm=>?_) (fun b u e=>?_) I.bare
 . obtain⟨f0,f1,f2,f3,f4,f5⟩:=hf b hb
   exact⟨f3,f1,f4,f5⟩
 . rw[zf (zc (zm (zR e) hp))]
   exact n
 . obtain⟨u,es,ep,ho,r⟩:=hm
   exact⟨u,es,ep,k _ u (fun z=>(hf _ z).2.1 rfl) ho,r⟩
 . by_cases z:b=a
   . subst z
     rw[zG] at e
     cases e
     exact new
   . rw[zf z] at e
     refine (I.hok b u e).stay (fun c v hc q=>k c v ?_ q) (fun c q=>by rw[zf (na c _ q)];exact q) fun c xs q=>by rw[zf (na c _ q)];exact q
     rcases hc with z | z
     . rw[z];exact nfp b u e
     . exact nfp c _ z
end
end L2
namespace L2
open PySem PySem.Spec PyProof.Rows
open PySem.AutoSeq1 (wpAny_loadPart')
variable {i:Nat}{items:Array Value}
section
variable {prog:Program}{w:World}{A:Around}{E:vSP}{s:Shared}
theorem zHz {it t:Addr}{x:Value}{Q:vSP}(hi:s.heap.IsTupleIter it t i)(ht:s.heap.IsTuple t items)(hx:items[i]? = some x)
 (hQ:∀h',h'.IsTupleIter it t (i+1)->Heap.SameBut it s.heap h'->Q x { s with heap:=h' }):wpAny (model prog w) A (Builtin.SmallTypes.nextOf (.ref it)) Q E s:=by
 obtain⟨oi,hoi,ci,di⟩:=id hi
 obtain⟨ot,hot,_,nt,dt⟩:=ht
 unfold Builtin.SmallTypes.nextOf
 refine zB (zA4 (name:=Str.ofString "__next__") hi.typeIs PySem.F.slot_tuple_iterator_next (zAw PySem.F.slot_tuple_iterator_next hi.typeIs PySem.F.entry_tuple_iterator_next ?_ (PySem.F.args_tuple_iterator_next_1 _)))
 show wpAny (model prog w) _ (field (.ref it) 0 >>= _) _ _ s;refine zB (wpAny_field hoi di (x:=.ref t) rfl ?_)
 show wpAny (model prog w) _ (if (Value.ref t==Value.none)=true then _ else _) _ _ s;rw[if_neg (show ¬ ((Value.ref t==Value.none)=true) from zo)]
 show wpAny (model prog w) _ (field (.ref it) 1 >>= _) _ _ s;refine zB (wpAny_field hoi di (x:=.int i 0) rfl ?_)
 show wpAny (model prog w) _ (seqItems? (.ref t) >>= _) _ _ s;refine zB (wpAny_seqItems hot dt ?_)
 simp only[hx,zAR]
 refine zB (wpAny_setField hoi di (by simp) (zJ ⟨x,rfl,zJ (hQ _ ?_ (Heap.SameBut.update ..))⟩))
 refine⟨_,zBJ _ hoi (Obj.isFreed_of_fields (Obj.data_mapFields di _)),(Obj.cls_mapFields ..).trans ci,?_⟩
 rw[Obj.data_mapFields di];simp[rawInt]
theorem zGH {it t:Addr}{Q:vSP}(hA:A.handled=none)(hi:s.heap.IsTupleIter it t i)(ht:s.heap.IsTuple t items)(hx:items[i]? = none)
 (hE:∀h' e,Heap.ExtBut it s.heap h'->(∃o,h'.get? e=some o/\o.cls = .type "StopIteration")->E (.ref e) { s with heap:=h' }):wpAny (model prog w) A (Builtin.SmallTypes.nextOf (.ref it)) Q E s:=by
 obtain⟨oi,hoi,ci,di⟩:=id hi
 obtain⟨ot,hot,_,nt,dt⟩:=ht
 unfold Builtin.SmallTypes.nextOf
 refine zB (zA4 (name:=Str.ofString "__next__") hi.typeIs PySem.F.slot_tuple_iterator_next (zAw PySem.F.slot_tuple_iterator_next hi.typeIs PySem.F.entry_tuple_iterator_next ?_ (PySem.F.args_tuple_iterator_next_1 _)))
 show wpAny (model prog w) _ (field (.ref it) 0 >>= _) _ _ s;refine zB (wpAny_field hoi di (x:=.ref t) rfl ?_)
 show wpAny (model prog w) _ (if (Value.ref t==Value.none)=true then _ else _) _ _ s;rw[if_neg (show ¬ ((Value.ref t==Value.none)=true) from zo)]
 show wpAny (model prog w) _ (field (.ref it) 1 >>= _) _ _ s;refine zB (wpAny_field hoi di (x:=.int i 0) rfl ?_)
 show wpAny (model prog w) _ (seqItems? (.ref t) >>= _) _ _ s;refine zB (wpAny_seqItems hot dt ?_)
 simp only[hx,zAR]
 refine zB (wpAny_rule (zB (wpAny_setField hoi di (by simp) ?_)))
 show wpAny (model prog w) _ (newExc (.type "StopIteration") [] >>= _) _ _ _;refine zB ?_
 simp only[newTuple,newExc]
 refine zB (zAr ?_ (by size_fits));refine zB (m:=firstArgMember _ _) (PySem.wpAny_of_eq (a:=Value.none) (by first | rfl | (simp only[firstArgMember];rfl)) ?_)
 refine zAr ?_ (by size_fits);simp only[raiseNew];refine zB (wpAny_handled ?_)
 first
  | rw[show A.in1.handled=none from hA]
  | rw[hA]
 exact zB (zJ (wpAny_throw (hE _ _ (((Heap.SameBut.update ..).extBut.push _).push _) ⟨_,zW _ rfl,rfl⟩)))
end
variable {w:World}{A:Around}
theorem zJm {prog:Program}(hA:A.handled=none)(it t:Addr)(hne:t≠it)(items:Array Value) :
 Draws prog w A it [it,t] items.size (fun i v=>items[i]? = some v) (fun i h=>h.IsTupleIter it t i/\h.IsTuple t items) where
 live:=fun _ _ st=>by
  obtain⟨⟨o,ho,_⟩,_⟩:=st
  exact⟨o,ho⟩
 frame:=fun _ h h' st hk=>by
  obtain⟨⟨o,ho,r⟩,o2,ho2,r2⟩:=st
  exact⟨⟨o,hk it (by simp) o ho,r⟩,o2,hk t (by simp) o2 ho2,r2⟩
 item:=fun i s Q E hi st hQ=>zHz st.1 st.2 (x:=items[i]) (by simp[hi]) fun h' a b=>hQ _ h' s.toks (by simp[hi]) ⟨a,st.2.extBut b.extBut hne⟩ b
 done:=fun s Q E st hE=>zGH hA st.1 st.2 (by simp) hE
theorem zGr (t:Addr)(items:Array Value)(n:Nat)(dct:Option Addr)(sl:Array (Option Value)) :
 Meets (Builtin.«enumerate.__new__» ⟨[.type "enumerate",.ref t],[]⟩) (fun _ R s=>s.heap.get? t=some { cls:=.type "tuple",dict:=dct,data:=.seq items n,slots:=sl } /\
  R (.ok (.ret (.ref (s.heap.push { cls:=.type "tuple_iterator",data:=.fields #[.ref t,.int 0 0] }).objs.size))) { s with heap:=(s.heap.push { cls:=.type "tuple_iterator",data:=.fields #[.ref t,.int 0 0] }).push { cls:=.type "enumerate",data:=.fields #[.none,.bool false,.ref s.heap.objs.size,rawInt 0,.none,.none] } }):=by
 refine .of_wp fun prog w A R s hs=>?_
 obtain⟨hp,g,d,tk,os⟩:=s
 obtain⟨ho,hR⟩:=hs
 have su:=sub_enumerate
 have tT:Heap.IsTuple (Shared.heap ⟨hp,g,d,tk,os⟩) t items:=⟨_,ho,rfl,n,rfl⟩
 wp_walk using wpAny_loadPart' ho
 refine wpAny_stack_any fun stk=>zJ ?_
 split
 . rename_i c _ _ _ _ _
   cases (c==Value.type "enumerate") <;> (wp_walk using wpAny_loadPart' ho,wpAny_pyIter_tuple tT;exact⟨_,rfl,hR⟩)
 . wp_walk using wpAny_loadPart' ho,wpAny_pyIter_tuple tT
   exact⟨_,rfl,hR⟩
theorem zIE {prog:Program}{w:World}{A:Around}{E:vSP}{s:Shared}{t:Addr}{Q:vSP}(hT:s.heap.IsTuple t items)
 (h:∀h',IsEnum h' (s.heap.objs.size+1) s.heap.objs.size 0 .none->h'.IsTupleIter s.heap.objs.size t 0->(∀b o,s.heap.get? b=some o->h'.get? b=some o)->Q (.ref (s.heap.objs.size+1)) { s with heap:=h' }) :
 wpAny (model prog w) A (call (.type "enumerate") [.ref t]) Q E s:=by
 obtain⟨⟨c,dct,dt,sl⟩,ho,hc,n,hd⟩:=hT
 obtain rfl:c = .type "tuple" := hc
 obtain rfl:dt = .seq items n:=hd
 refine callType_new PySem.F.called_enumerate (by decide) (PySem.F.typeCall_enumerate_1 _) (PySem.F.newCall_enumerate_1 _) (fun obj=>PySem.F.args_object_init_2 obj _) PySem.F.entry_enumerate_new (zGr t items n dct sl) ⟨ho,?_⟩
 have hz:(s.heap.push { cls:=.type "tuple_iterator",data:=.fields #[.ref t,.int 0 0] }).objs.size=s.heap.objs.size+1:=zAi ..
 show _/\_
 rw[hz]
 have he:IsEnum ((s.heap.push { cls:=.type "tuple_iterator",data:=.fields #[.ref t,.int 0 0] }).push { cls:=.type "enumerate",data:=.fields #[.none,.bool false,.ref s.heap.objs.size,rawInt 0,.none,.none] }) (s.heap.objs.size+1) s.heap.objs.size 0 .none:=by
  have g:=zW (s.heap.push { cls:=.type "tuple_iterator",data:=.fields #[.ref t,.int 0 0] }) (o:={ cls:=.type "enumerate",data:=.fields #[.none,.bool false,.ref s.heap.objs.size,rawInt 0,.none,.none] }) rfl
  rwa [hz] at g
 exact⟨⟨_,he,rfl⟩,h _ he ⟨_,zI _ (zW _ rfl),rfl,rfl⟩ fun b o x=>zI _ (zI _ x)⟩
noncomputable def ItnT (K:PySem.W.Frag)(a:Addr):It:=
 ⟨fun i H=>∃xs x,SqT K H a xs/\xs[i]? = some x,fun i H x H'=>∃T v,x = .ref T/\H T=none/\H'=upd H T (.tup [.int i,v])/\∀xs,SqT K H a xs->xs[i]? = some v,fun i H=>∃xs,SqT K H a xs/\xs.length<=i⟩
variable {K:PySem.W.Frag}
theorem zHn {P:Program}{elts:List Expr} {x1} {tp:Pos}(a e it:Addr):Turn P w K (.Tuple elts x1 tp) (ItnT K a) [e,it] e (fun i h=>(∃old,IsEnum h e it (i:Nat) old)/\h.IsTupleIter it a i/\e≠it/\a≠it/\a≠e) where
 mem:=by simp
 obj:=fun i h st b hb=>by
  obtain⟨⟨old,he⟩,⟨o,e1,c,d⟩,_⟩:=st
  rcases zY.mp hb with rfl | hb
  . exact⟨_,he,fun v z=>by cases z⟩
  . have e2:b=it:=by simpa using hb
    subst e2
    exact⟨o,e1,fun v z=>by rw[d] at z;cases z⟩
 keep:=fun i h h' st k=>by
  obtain⟨⟨old,he⟩,⟨o,e1,r⟩,ne⟩:=st
  exact⟨⟨old,k e (by simp) _ he⟩,⟨o,k it (by simp) o e1,r⟩,ne⟩
 item:=by
  intro X hP hw hK hc i pins s σ H E I hf st hg
  subst hP hw hK
  obtain⟨⟨old,he⟩,hit,ne,nai,nae⟩:=st
  obtain⟨xs,x,hq,hx⟩:=hg
  obtain⟨its,rv,p,hz⟩:=I.tuple hq
  obtain⟨u,hu,ru⟩:=rv.get hx
  have elt:e<s.heap.objs.size:=zR he
  have ilt:it<s.heap.objs.size:=by obtain⟨_,q,_⟩:=id hit;exact zR q
  have hlt:i<its.toArray.size:=by
   have:=(zK.mp hu).1
   simpa using this
  refine wpAny_pyNext_enum_itemD (zJm (A:=X.A.in1) (I.ok.hd hc) it a nai its.toArray) he ⟨hit,p⟩ hlt ne (by simp;exact⟨ne,fun z=>nae z.symm⟩) fun y h' tk hy heo hst' hT hsz hk=>?_
  have hyu:y=u:=by
   have h1:its[i]? = some y:=by simpa using hy
   rw[hu] at h1
   exact (zU h1).symm
  subst hyu
  refine⟨_,rfl,wpAny_letOwnedTupleGo_enum heo fun h2 he2 hs2=>?_⟩
  have hT2:h2.get? s.heap.objs.size=some { cls:=.type "tuple",data:=.seq #[.int i tk,y] }:=(hs2.2 _ (Nat.ne_of_gt elt)).trans hT
  refine⟨.ref s.heap.objs.size,upd H s.heap.objs.size (.tup [.int i,x]),I.turnedLaid (t':=tk+1) (fp:=[e,it]) hf (fun b o hb q=>?_) (zH _) ?_,rfl,⟨_,x,rfl,I.hok.fresh (zH _),rfl,fun zs hzs=>by rw[I.tuple_inj hzs hq];exact hx⟩,⟨⟨y,?_⟩,?_,ne,nai,nae⟩,fun b hb=>?_⟩
  . exact (hs2.2 b fun z=>hb (by simp[z])).trans (hk b o (fun z=>hb (by simp[z])) (fun z=>hb (by simp[z])) q)
  . exact⟨⟨by show 2<=sizeLine;decide,_,hT2,rfl⟩,[.int i tk,y],.cons ⟨_,rfl⟩ (.cons ru .nil),⟨_,hT2,rfl,_,rfl⟩⟩
  . have:=he2
    rwa [show ((i:Nat):Int)+1=((i+1:Nat):Int) by omega] at this
  . obtain⟨⟨o,ho,r⟩,_⟩:=hst'
    exact⟨o,(hs2.2 it (Ne.symm ne)).trans ho,r⟩
  . rcases zY.mp hb with rfl | hb
    . rw[zf (zc elt)];exact (hf _ (by simp)).1
    . have e2:b=it:=by simpa using hb
      subst e2
      rw[zf (zc ilt)];exact (hf _ (by simp)).1
 done:=by
  intro X hP hw hK hc i pins s σ H E I hf st hg
  subst hP hw hK
  obtain⟨⟨old,he⟩,hit,ne,nai,nae⟩:=st
  obtain⟨xs,hq,hx⟩:=hg
  obtain⟨its,rv,p,hz⟩:=I.tuple hq
  obtain⟨f0,f1,f2,f3,f4,f5⟩:=hf it (by simp)
  have hl:=rv.length
  unfold pyNext
  have hT:s.TypeIs (.ref e) "enumerate" := ⟨_,he,rfl⟩
  refine zB (wpAny_attempt (zA4 (name:=Str.ofString "__next__") hT PySem.F.slot_enumerate_next (zAw PySem.F.slot_enumerate_next hT PySem.F.entry_enumerate_next ?_ (PySem.F.args_enumerate_next_1 _))))
  show wpAny (model X.prog X.w) _ (field (.ref e) 2 >>= _) _ _ s;refine zB (wpAny_field he rfl (x:=.ref it) rfl ?_)
  refine zB (zGH (A:=X.A.in1) (I.ok.hd hc) hit p (by simp;omega) fun h' z eb hz'=>?_)
  obtain⟨o,ho,hcl⟩:=hz'
  refine zB (wpAny_isInstance (T := "StopIteration") (b:=true) ⟨o,ho,hcl⟩ isSubtype_stop (zJ ?_))
  exact⟨rfl,I.turned (t':=s.toks) (fun b o hb e=>eb b o hb e) f0 f1 f3 f4 f5⟩
 self:=fun _ _ _ _ _ st h=>by
  obtain⟨⟨old,he⟩,_⟩:=st
  exact wpAny_pyIter_enum he h
section
variable {X:Cx}
noncomputable def iEnumT (K:PySem.W.Frag)(ta:TA):TI:=fun σ H R=>ta σ H fun vs H1=>∃a,vs=[.ref a]/\(∃xs,SqT K H1 a xs)/\R (ItnT K a) H1
theorem zKm {elts:List Expr} {x1} {tp:Pos}{a:Expr}{ta:TA}{p pos:Pos}(hg:Gl X "enumerate") (hm:X.mg "enumerate" = none) (ha:PA X [a] ta)(hs:starEach [a] X.env=[(false,eval a X.env)]:=by rfl):PI X (.Tuple elts x1 tp) (.Call (.Name "enumerate" p) [a] [] pos) (iEnumT X.K ta):=by
 intro pins s σ H R I h
 refine Call_ (zCw I hg hm boot_enumerate (PyProof.Rows.callWith_type1 (thn (ha pos pins s σ H _ I h) fun us s1 ⟨vs,H1,I1,r1,q1⟩=>?_) hs rfl))
 obtain⟨l,e,⟨xs,hq⟩,q⟩:=q1
 subst e
 obtain⟨u,rfl,rx⟩:=zCq r1
 cases rx
 obtain⟨its,rv,pl,hz⟩:=I1.tuple hq
 have hll:l<s1.heap.objs.size:=by obtain⟨o,ho,_⟩:=id pl;exact zR ho
 refine zIE pl fun h' he hit hk=>?_
 refine wpAny_pyIter_enum he ?_
 refine⟨s1.heap.objs.size+1,[s1.heap.objs.size+1,s1.heap.objs.size],_,_,H1,rfl,I1.kept (t':=s1.toks) hk,zHn l _ _,⟨⟨_,he⟩,hit,Nat.succ_ne_self _,zc hll,zc (zAh hll)⟩,fun b hb=>?_,q⟩
 rcases zY.mp hb with rfl | hb
 . exact I1.fpOk (zA6 _) (I1.hok.fresh (zA6 _))
 . have e2:b=s1.heap.objs.size:=by simpa using hb
   subst e2
   exact I1.fpOk (zH _) (I1.hok.fresh (zH _))
end
variable {H:Hp}
theorem zJf {a:Addr}{xs:List V}{g:TG}{tb:TS}{D:zIL}{σ:St}(Pv:Nat->St->Hp->Prop)(h0:Pv 0 σ H)(hl:∀i σ H,i<=xs.length->Pv i σ H->SqT K H a xs)
 (hs:∀i x σ H T,xs[i]? = some x->Pv i σ H->H T=none->g (.ref T) σ (upd H T (.tup [.int i,x])) fun σ2 H2=>tb { D with nx:=Pv (i+1),ct:=Pv (i+1),bk:=D.nx } σ2 H2)(hd:∀ σ H,Pv xs.length σ H->D.nx σ H) :
 ∃W:Nat->Nat->St->Hp->Prop,(∃m,W 0 m σ H)/\∀i m σ H,W i m σ H ->
  ((ItnT K a).stop i H/\D.nx σ H)\/((ItnT K a).go i H/\∃N:St->Hp->Prop,(∀ σ' H',N σ' H'->∃m',m'<m/\W (i+1) m' σ' H')/\∀x H',(ItnT K a).yld i H x H'->g x σ H' fun σ2 H2=>tb { D with nx:=N,ct:=N,bk:=D.nx } σ2 H2):=by
 refine⟨fun i m σ H=>i<=xs.length/\m=xs.length-i/\Pv i σ H,⟨_,zi _,rfl,h0⟩,fun i m σ H h=>?_⟩
 obtain⟨hi,rfl,hp⟩:=h
 by_cases c:i<xs.length
 . refine .inr ⟨⟨xs,xs[i],hl i σ H hi hp,zA c⟩,Pv (i+1),fun σ' H' hp'=>⟨xs.length-(i+1),by omega,c,rfl,hp'⟩,fun x H' y=>?_⟩
   obtain⟨T,v,rfl,hT,rfl,hv⟩:=y
   exact hs i v σ H T (hv xs (hl i σ H hi hp)) hp hT
 . have e:i=xs.length:=by omega
   subst e
   exact .inl ⟨⟨xs,hl _ σ H hi hp,zH _⟩,hd σ H hp⟩
noncomputable def SmP (P:Addr)(H H':Hp):Prop:=∀b o,H b=some o->(b=P/\∃ps,o = .tbl ps)\/H' b=some o
variable {P:Addr}
theorem SmP.refl (H:Hp):SmP P H H:=fun _ _ e=>.inr e
variable {H':Hp}
theorem SmP.of (h:zAo H H'):SmP P H H':=fun b o e=>.inr (h b o e)
theorem SmP.trans {H1 H2:Hp}(a:SmP P H H1)(b:SmP P H1 H2):SmP P H H2:=fun c o e=>by
 rcases a c o e with z | z
 . exact .inl z
 . exact b c o z
variable {o:HO}
theorem SmP.get (k:SmP P H H'){b:Addr}(e:H b=some o)(h:∀ps,o ≠ .tbl ps):H' b=some o:=by
 rcases k b o e with ⟨_,ps,z⟩ | z
 . exact absurd z (h ps)
 . exact z
theorem SmP.chg {l:Addr}(k:SmP P H H')(h:H l=none):SmP P H (upd H' l o):=fun b u e=>by
 rcases k b u e with z | z
 . exact .inl z
 . exact .inr (by rw[zf (zq e h)];exact z)
section
variable {X:Cx}{pins:lPO}{σ:St}{H:Hp}{s:Shared}
theorem zM7 {P c:Addr}{params:Arguments}{body:Expr}{lscope:Scope}{lpos:Pos}{Q:vSP}{E:vSP}(I:Inv X pins σ H s)(T:zC7 H P lpos (X.env.qual ++ "<lambda>"))
 (hcode:X.env.code = .ref c)(C:PySem.W.CodeHd X.base c P)(hbm:zKH X.mg X.base)(hfree:∀y∈lscope.names,y.2 = .free->X.env.kindOf y.1=some .cell)(hdef:defaultsOf params X.env=([],[]))
 (h:∀(f:Addr)(pm cv ctv:Value)(s':Shared)(H':Hp),Inv X pins σ H' s'->SmP P H H'->zC7 H' P lpos (X.env.qual ++ "<lambda>")->s.heap.objs.size<=f ->
  s'.heap.get? f=some { cls:=.type "function",data:=.func (PySem.W.kla_fn "<lambda>" (X.env.qual ++ "<lambda>") params body lscope (zDB X.env.cells lscope.names []) pm cv ctv) } ->
  s'.heap.CodeRec cv (X.env.qual ++ "<lambda>")->Q (.ref f) s') :
 wpAny (model X.prog X.w) X.A (eval (.Lambda params body lscope lpos) X.env) Q E s:=by
 obtain⟨ps,hP,ht,hcase⟩:=T
 have oP:s.heap.get? P=some (PySem.W.tabObj ps):=I.hok P _ hP
 have hg:=I.mod.glob.keeps I.bk
 have C':PySem.W.CodeHd s.heap c P:=C.keeps I.bk
 have hcl:closureFor lscope X.env=pure (zDB X.env.cells lscope.names []):=zCl fun y hy hf=>I.ok.has y.1 (.inl (hfree y hy hf))
 have nP:∀b o,X.base.get? b=some o->b≠P:=fun b o e z=>by
  have:=(I.bs b o e).2
  rw[z,hP] at this;cases this
 have hgP:mainGlobals≠P:=by
  obtain⟨o,es,ep,e,_⟩:=I.mod.glob
  exact nP _ _ e
 have hb:s.heap.BuiltinsAt X.mg P:=by
  obtain⟨bm,ob,b1,b2,b3,b4,b5,b6⟩:=hbm
  refine⟨bm,ob,b1,b2,fun z=>?_,nP _ _ b3,I.bk _ _ b3,b4,b5,b6⟩
  obtain⟨o,es,ep,e,hd,_⟩:=I.mod.glob
  rw[z,e] at b3;cases b3;rw[hd] at b6;cases b6
 refine PySem.W.kla_eval hdef ?_
 rcases hcase with hn | ⟨c1,hc1,hH⟩
 . refine PySem.W.kla_makeFunction (mg:=X.mg) hcl I.ok.glob hg hcode C' oP ht hn hgP hb fun c' ctv h' tk hx hge hlt hrec htb=>?_
   obtain⟨c2,oc,vs,t,e2,hoc,hd,hv⟩:=id hrec
   cases e2
   have kp:∀b u,b≠P->s.heap.get? b=some u->(h'.push (PySem.W.kla_obj "<lambda>" (X.env.qual ++ "<lambda>") params body lscope (zDB X.env.cells lscope.names []) ((X.mg "__name__").getD .none) c' ctv)).get? b=some u:=fun b u hb' e=>zI _ (hx b u hb' e)
   have hcn:H c'=none:=I.hok.fresh hge
   have nPc:P≠c':=zq hP hcn
   refine h h'.objs.size ((X.mg "__name__").getD .none) (.ref c') ctv _ _ (I.growL (c':=c') (o:=.ext (zKG c' (X.env.qual ++ "<lambda>"))) (t':=tk) hP hge kp (zI _ htb) ⟨⟨oc,vs,t,zI _ hoc,hd,hv⟩,⟨oc,zI _ hoc⟩,fun h1 h2 ⟨o1,v1,t1,a1,a2,a3⟩ k12=>⟨o1,v1,t1,k12 _ a1,a2,a3⟩⟩) ?_ ?_ ?_ ?_ ?_
   . intro b o e
     by_cases hbP:b=P
     . left
       rw[hbP,hP] at e
       exact⟨hbP,ps,(zU e).symm⟩
     . right
       rw[zf (zq e hcn),zf hbP];exact e
   . refine⟨ps ++ #[rawInt lpos.line,rawInt lpos.col,.ref c'],by rw[zf nPc,zG],?_,.inr ⟨c',?_,zG⟩⟩
     . rw[Array.toList_append];exact TriplesOk_snoc _ _ _ _ ht
     . rw[Array.toList_append];exact codeAmong_snoc _ ht hn
   . have:=zBw (zAK hge hlt)
     exact this
   . exact zW _ rfl
   . exact hrec.keeps fun b o e=>zI _ e
 . obtain⟨⟨oc,vs,t,hoc,hd,hv⟩,_⟩:=I.hok c1 _ hH
   refine PySem.W.kla_makeFunctionHit (mg:=X.mg) hcl I.ok.glob hg hcode C' oP ht hc1 hb fun ctv h' tk hk hsz=>?_
   refine h h'.objs.size ((X.mg "__name__").getD .none) (.ref c1) ctv _ _ (I.kept (t':=tk) fun b u e=>zI _ (hk b u e)) (SmP.refl _) ⟨ps,hP,ht,.inr ⟨c1,hc1,hH⟩⟩ hsz (zW _ rfl) ⟨c1,oc,vs,t,rfl,zI _ (hk _ _ hoc),hd,hv⟩
end
section
variable {X:Cx}
noncomputable def zKQ (j:Nat)(P:Addr)(lpos:Pos)(q:Str)(t:TA):TE:=fun σ H Q=>t σ H fun vs H1=>∃(l d:Addr)(ns:List Int)(kvs:List (Key×V))(val:Int->Int),vs=[.ref l]/\H1 l=some (.lst (ns.map V.int))/\ns≠[]/\σ[j]? = some (some (.ref d))/\H1 d=some (.dK kvs) /\
 (∀n∈ns,zCd kvs (Sum.inl n)=some (.int (val n)))/\zC7 H1 P lpos q/\∀(M:Int)(H2:Hp),M∈ns->(∀n∈ns,val M<=val n)->SmP P H1 H2->zC7 H2 P lpos q->Q (.int M) H2
theorem zHv {k j:Nat}{P c:Addr}{dn pn:Str}{e:Expr}{t:TA}{params:Arguments}{lscope:Scope}{lpos pos np p1 p2 p3 kpos:Pos}
 (hc:X.calm=true)(hr:zC2 (k+1) X.A)(hg:Gl X "min") (hm:X.mg "min" = none) (he:PA X [e] t)(hcode:X.env.code = .ref c)(C:PySem.W.CodeHd X.base c P)(hbm:zKH X.mg X.base)
 (hN:X.N[j]? = some dn)(hkd:X.env.kindOf dn=some .cell)(hS:lscope.kind = .function)(hco:lscope.isCoroutine=false)(hgen:lscope.isGenerator=false)(hcell:∀x∈lscope.names,x.2 ≠ .cell)
 (hfree:∀y∈lscope.names,y.2 = .free->X.env.kindOf y.1=some .cell)(hdn:lscope.names.lookup dn=some .free)(hpn:lscope.names.lookup pn=some .local)(hdef:defaultsOf params X.env=([],[]))
 (hbind:∀(q:Str)(body:Expr)(cl:List (Str×Addr))(pm cdv ct v:Value),bindArgs (PySem.W.kla_fn "<lambda>" q params body lscope cl pm cdv ct) ⟨[v],[]⟩=pure [(pn,v)])
 (hd1:(dn==("__debug__" : Str))=false:=by decide) (hd2:(dn==("__classdict__" : Str))=false:=by decide) (hd3:(pn==("__debug__" : Str))=false:=by decide)
 (hs1:backTo pos (starEach [e] X.env)=(false,eval e X.env)::backTo pos (starEach [] X.env):=by rfl)(hs2:(backTo pos (starEach [e] X.env)).any (·.1)=false:=by rfl) :
 PE X (.Call (.Name "min" np) [e] [⟨some "key",.Lambda params (.Subscript (.Name dn p1) (.Name pn p2) p3) lscope lpos,kpos⟩] pos) (zKQ j P lpos (X.env.qual ++ "<lambda>") t):=by
 intro pins s σ H Q I h
 refine zBL (zCw I hg hm (by decide +kernel:bootBuiltins "min" = some (.builtin "min")) ?_)
 refine PyProof.Rows.callWith_kw (thn (he pos pins s σ H _ I h) fun us s1 ⟨vs,H1,I1,r,q1⟩=>?_) hs1 hs2
 obtain⟨l,d,ns,kvs,val,rfl,hl,hne,hσ,hdd,hval,T,q⟩:=q1
 obtain⟨u,rfl,rx⟩:=zCq r
 cases rx
 show wpAny _ _ (evalAll ((do let v <-eval (.Lambda params (.Subscript (.Name dn p1) (.Name pn p2) p3) lscope lpos) X.env;standAt pos;pure v)::[])) _ _ s1
 refine wpAny_evalAll_cons (zB (zM7 I1 T hcode C hbm hfree hdef fun f pm cv ctv s2 H2 I2 sm T2 hfge hf hrec=>zB (wpAny_standAt (zJ (wpAny_evalAll_nil ?_)))))
 show wpAny _ _ (call (.builtin "min") [.ref l] [(Str.ofString "key",.ref f)]) _ _ s2
 have keep2:∀b o,H1 b=some o->(∀ps,o ≠ .tbl ps)->H2 b=some o:=fun b o e ho=>by
  rcases sm b o e with ⟨_,ps,z⟩ | z
  . exact absurd z (ho ps)
  . exact z
 have hl2:H2 l=some (.lst (ns.map V.int)):=keep2 _ _ hl (by intro ps z;cases z)
 have hd2':H2 d=some (.dK kvs):=keep2 _ _ hdd (by intro ps z;cases z)
 obtain⟨_,its,nn,rv,ho⟩:=I2.hok l _ hl2
 obtain⟨hz,lo,vs,rel,od,es,ep,hod,hdr⟩:=zJo I2.hok hd2'
 have hI:IntsAre its ns:=zBS rv
 obtain⟨m,F0⟩:=I2.fr
 have notL:∀b o,H2 b=some o->b≠X.env.locals:=fun b o e z=>by rw[z,I2.free] at e;cases e
 have kp:∀(h':Heap)(own:lPO),Fr X.base X.env.locals h' m->News X.base X.env.locals h' (zEW X.base s2.heap X.env.locals++own)->∀b o,b≠X.env.locals->s2.heap.get? b=some o->h'.get? b=some o:=fun h' own F' N' b o hb e'=>by
  cases qb:X.base.get? b with
  | some u=>
   have z:=I2.bk b u qb
   rw[e'] at z;cases z
   exact F'.keep b _ qb
  | none=>exact (N' (b,o) (zAk _ (zGq hb qb e'))).1
 obtain⟨m',hn',hloc⟩:=I2.loc
 have em:m'=m:=zLp hn' F0.ns
 subst em
 obtain⟨ud,rd,lk⟩:=hloc j dn (.ref d) hN hσ (.inr (.inl hkd))
 cases (show ud=Value.ref d from rd)
 obtain⟨cc,hcc,oc,hoc,hdc⟩:∃cc,X.env.cells.lookup dn=some cc/\s2.heap.IsCell cc (some (.ref d)):=by
  rcases lk with ⟨z,_⟩ | ⟨_,cc,a,b⟩
  . rw[hkd] at z;cases z
  . exact⟨cc,a,b⟩
 have hcl:(zDB X.env.cells lscope.names []).lookup dn=some cc:=by
  obtain⟨c',hc'⟩:=zC6 ⟨cc,hcc⟩ lscope.names [] (PySem.mem_of_lookup hdn)
  rcases zDW _ _ hc' with z | z
  . simp at z
  . rw[hcc] at z;cases z;exact hc'
 have hsz0:X.env.locals<s1.heap.objs.size:=I1.lt
 have hfL:f≠X.env.locals:=Nat.ne_of_gt (zm hsz0 hfge)
 refine PyProof.Rows.kmk_min_letter (h₀:=X.base) (L:=X.env.locals) (m:=m') (news:=zEW X.base s2.heap X.env.locals) (ns:=ns) val (I2.ok.hd hc) F0 zKu (fun h' F' N'=>?_) hI (List.length_pos_iff.mpr hne) (fun n tn h' tk own hn F' N'=>?_) (fun M tM h' tk F' N' hM hbest=>?_)
 . exact⟨_,kp h' [] F' (by rw[zp];exact N') l _ (notL _ _ hl2) ho,rfl,nn,rfl⟩
 . have kk:=kp h' own F' N'
   obtain⟨c1,o1,v1,t1,e1,ho1,hd1',hv1⟩:=id hrec
   subst e1
   have hc1L:c1≠X.env.locals\/True:=.inr trivial
   have rec':h'.CodeRec (.ref c1) (X.env.qual ++ "<lambda>"):=by
    refine⟨c1,o1,v1,t1,rfl,kk c1 o1 (fun z=>?_) ho1,hd1',hv1⟩
    obtain⟨oL,esL,epL,hoL,hdL,_⟩:=F0.ns
    rw[z,hoL] at ho1;cases ho1;rw[hdL] at hd1';cases hd1'
   refine wpAny_call (PySem.W.kla_callFunE hr.in1.depth (kk f _ hfL hf) rfl hco hgen rfl rec' ?_)
   rw[hbind]
   refine zJ (wpAny_newFunctionEnv hcell (fun y hy=>?_) (fun h₁ hns hsb=>?_) hS)
   . obtain rfl:y=(pn,Value.int n tn):=zj.mp hy
     exact hpn
   . have hk₁:∀b o,h'.get? b=some o->h₁.get? b=some o:=fun b o e'=>hsb.extBut b o (zc (zR e')) (zI _ e')
     refine⟨I2.mod.nolimit.keeps fun b o e'=>hk₁ b o (F'.keep b o e'),?_⟩
     show codeAny _ _ (.expr (.Subscript (.Name dn p1) (.Name pn p2) p3) (PySem.W.envX (X.env.qual ++ "<lambda>") lscope h'.objs.size f (.ref c1) (zDB X.env.cells lscope.names []))) _ _
     refine PySem.W.kla_codeExpr (zIW PySem.F.slot_dict_getitem.lookup (fun _ _=>rfl) ?_)
     refine wpAny_Name (wpAny_loadName_free hS (show (PySem.W.envX (X.env.qual ++ "<lambda>") lscope h'.objs.size f (.ref c1) (zDB X.env.cells lscope.names [])).kindOf dn=some .free from hdn) hcl ⟨oc,hk₁ _ _ (kk cc oc (I2.cne dn cc hcc) hoc),hdc⟩ ?_ hd2) hd1
     refine wpAny_Name (wpAny_loadName_local hS (show (PySem.W.envX (X.env.qual ++ "<lambda>") lscope h'.objs.size f (.ref c1) (zDB X.env.cells lscope.names [])).kindOf pn=some .local from hpn) hns (v:=.int n tn) (by simp) ?_) hd3
     have dd:h₁.DictOf (zA9 X.prog X.w) d vs:=⟨od,es,ep,hk₁ _ _ (kk d od (notL _ _ hd2') hod),hdr⟩
     refine⟨dd.typeIs,?_⟩
     obtain⟨w',hw,rw'⟩:=zE5.some_of (v:=.int (val n)) (o:=valueAt vs (Sum.inl n)) (by rw[<-hval n hn];exact rel.val (Sum.inl n))
     obtain⟨t',rfl⟩:=rw'
     refine wpAny_getItem_of (zGu (k:=Sum.inl n) ⟨tn,rfl⟩) dd.mapOf hw ?_
     exact⟨h₁,_,t',rfl,rfl,⟨F'.ns.keeps hk₁,fun b o e'=>hk₁ b o (F'.keep b o e'),F'.above⟩,fun p hp=>⟨hk₁ _ _ (N' p hp).1,(N' p hp).2⟩⟩
 . have kk:=kp h' [] F' (by rw[zp];exact N')
   have I3:Inv X pins σ H2 { s2 with heap:=h',toks:=tk }:=by
    refine I2.step (g':=s2.gens) (d':=s2.drawn) (ch:=[]) (fun _ z=>nomatch z) (fun b o hb _ _ e' _=>kk b o hb e') (fun b o hb _ _ e' _=>⟨o.slots,kk b o hb e'⟩) (fun _ _ _ _ n=>n) (fun b o _ e'=>?_) (fun _ _ e'=>e') (fun _ _ _ e'=>e') (fun b ps e'=>⟨#[],by rw[e'];simp⟩) (fun mm hmm=>?_) ?_ I2.bare
    . by_cases hb:b=X.env.locals
      . obtain⟨oL,esL,epL,hoL,_⟩:=F'.ns
        exact⟨oL,by rw[hb];exact hoL⟩
      . exact⟨o,kk b o hb e'⟩
    . have:=zLp hmm F0.ns
      subst this
      exact F'.ns
    . intro b u e'
      refine (I2.hok b u e').stay (fun x v hx z=>kk x v ?_ z) (fun _ z=>z) fun _ _ z=>z
      rcases hx with z1 | z1
      . rw[z1];exact notL _ _ e'
      . exact notL _ _ z1
   exact⟨.int M,H2,I3,⟨tM,rfl⟩,q M H2 hM hbest sm T2⟩
end
variable {h:Heap}
theorem zBP.there {P:Program}{a:Addr}(x:zBP P w H h a o):∃ob,h.get? a=some ob:=by
 cases o with
 | lst xs=>obtain⟨_,_,_,_,e⟩:=x;exact⟨_,e⟩
 | tup xs=>obtain⟨⟨_,o2,e2,_⟩,_⟩:=x;exact⟨_,e2⟩
 | dK kvs=>obtain⟨_,_,_,_,o,_,_,e,_⟩:=x;exact⟨_,e⟩
 | dT kvs=>obtain⟨_,_,_,_,o,_,_,e,_⟩:=x;exact⟨_,e⟩
 | set S n=>obtain⟨o,_,_,_,e,_⟩:=x;exact⟨_,e⟩
 | ins C dx fs=>obtain⟨_,_,_,e,_⟩:=x;exact⟨_,e⟩
 | own y=>obtain⟨_,e⟩:=x;exact⟨_,e⟩
 | xd fs=>obtain⟨_,⟨_,_,_,e,_⟩,_⟩:=x;exact⟨_,e⟩
 | rng lo hi=>obtain⟨_,_,_,e⟩:=x;exact⟨_,e⟩
 | frz ob u=>obtain⟨e,_⟩:=x;exact⟨_,e⟩
 | tbl ps=>exact⟨_,show h.get? a=some _ from x⟩
 | met f y=>exact⟨_,show h.get? a=some _ from x⟩
 | ext φ=>obtain⟨_,⟨_,e⟩,_⟩:=x;exact⟨_,e⟩
theorem HOk.stays {P:Program}{h' B:Heap}(x:HOk P w H h)(k:B.StaysIn h)(k':B.StaysIn h')(tr:∀b u,H b=some u->∃o,B.get? b=some o):HOk P w H h':=fun a o e=>
 (x a o e).stay (fun b u hb q=>by
  have:∃v,H b=some v:=by
   rcases hb with rfl | hb
   . exact⟨_,e⟩
   . exact⟨_,hb⟩
  obtain⟨v,hv⟩:=this
  obtain⟨o',ho'⟩:=tr b v hv
  have e2:o'=u:=zU ((k b o' ho').symm.trans q)
  exact e2 ▸ k' b o' ho') (fun _ q=>q) fun _ _ q=>q
noncomputable abbrev bmV:List Value:=[.type "ValueError",.type "Exception",.type "BaseException",.type "object"]
variable {C:Addr}{newId:String}
theorem zGx {bmB:List Value}(X:K.In h)(q:PySem.W.excIn K C bmB newId=true) :
 ∃bm N nm qn bs hdct sn sub ab col dd k0 k1 k2 k3 k5 mN,h.get? C=some (excClassObj nm qn C N bs bm hdct sn sub ab col dd k0 k1 k2 k3 k5 newId)/\h.Ns N mN/\mN "__init__" = none/\OwnTail h bmB bm:=by
 unfold PySem.W.excIn at q
 split at q
 . next dd cd sl look=>
   split at q
   . next D bm k0 k1 k2 k3 n k5 em es=>
     simp only[zBC,beq_iff_eq,Bool.not_eq_true'] at q
     obtain⟨⟨⟨⟨⟨q1,q2⟩,q3⟩,q4⟩,q5⟩,q6⟩:=q
     subst q1 q2
     cases cd
     simp only at em q3 q5 q6
     subst em q3
     cases sl
     simp only at es
     subst es
     exact⟨_,_,_,_,_,_,_,_,_,_,_,_,_,_,_,_,_,X _ _ look,.of_isNs (PySem.W.isNs_of_in X q5),PySem.W.nsMap_none_of_in X q5 q6,PySem.W.tail_of_in X q4⟩
   . cases q
 . cases q
noncomputable def tRaise (C:Addr)(t:TA)(E:XK):TS:=fun _ σ H=>t σ H fun _ H1=>E (.ref C) none H1
theorem zKj {X:Cx}{x:Str}{C:Addr}{e:Expr}{t:TA}{E:XK}{np cpos pos:Pos}(hg:Gl X x)(hm:X.mg x=some (.ref C))(q:PySem.W.excIn X.K C bmV "ValueError.__new__" = true) (hc:X.calm=true)(ha:PA X [e] t)
 (hxe:∀(pins:lPO)(σ:St)(H:Hp)(s:Shared)(h':Heap)(ea:Addr)(vs:List Value),Inv X pins σ H s->Heap.MadeExcOf s.heap h' ea (.ref C) vs->E (.ref C) none H->X.xe (.ref ea) { s with heap:=h' })
 (hs:starEach [e] X.env=[(false,eval e X.env)]:=by rfl)(hd:(x==("__debug__" : Str))=false:=by decide) (hl:∀ σ H Q,t σ H Q->t σ H fun vs H1=>vs.length<=1/\Q vs H1) :
 PS X (.Raise (some (.Call (.Name x np) [e] [] cpos)) none pos) (tRaise C t E):=by
 intro pins s σ H D I h
 obtain⟨bm,Nn,nm,qn,bs,hdct,sn,sub,ab,col,dd,k0,k1,k2,k3,k5,mN,hC,hN,hni,T⟩:=zGx I.mod.kin q
 refine wpAny_Raise_call_subT (C:=C) (nm:=nm) (q:=qn) (N:=Nn) (bs:=bs) (bm:=bm) (hdct:=hdct) (sn:=sn) (sub:=sub) (ab:=ab) (col:=col) (dd:=dd) (k0:=k0) (k1:=k1) (k2:=k2) (k3:=k3) (k5:=k5)
  PySem.F.excBase_ValueError (mN:=mN) (T.hasType (by rfl)) (I.ok.hd hc) (by rw[hs];rfl) hni (zDa I hg hm ⟨rfl,?_⟩ hd)
 have ha':=ha cpos pins s σ H _ I (hl σ H _ h)
 rw[hs] at ha' ⊢
 refine Calls.evalArgs_plain (thn ha' fun us s2 ⟨vs,H2,I2,r2,z2,q2⟩=>?_)
 exact⟨rfl,by rw[<-r2.length];have:sizeLine=16777216:=rfl;show vs.length<=_;omega,I2.bk _ _ hC,hN.keeps I2.bk,T.keeps I2.bk,fun h' ea mx=>hxe pins σ H2 s2 h' ea us I2 mx q2⟩
section
variable {X:Cx}{pins:lPO}{σ:St}{H:Hp}{s:Shared}
theorem zIP {M:Model}{E:vSP}{x:Str}{v:V}{Q:Unit->Shared->Prop}(I:Inv X pins σ H s)(hN:X.N.Nodup)(hi:X.N[i]? = some x)(hk:X.env.kindOf x=some .local)(hv:σ[i]? = some (some v))
 (h:∀s',Inv X pins (σ.set i none) H s'->Q () s'):wpAny M A (unbindName X.env x) Q E s:=by
 obtain⟨m,hn,hl⟩:=id I.loc
 have hcls:(X.env.scope.kind == .class || (X.env.scope.kind == .module && X.env.locals != X.env.globals))=false:=by rw[I.ok.kind];rfl
 have hk':X.env.scope.names.lookup x=some .local:=hk
 obtain⟨u,_,lk⟩:=hl i x v hi hv (.inl hk')
 have hm:m x=some u:=by
  rcases lk with ⟨_,e⟩ | ⟨q,_⟩
  . exact e
  . rcases q with q | q <;> (rw[hk] at q;cases q)
 obtain⟨oL,_,_,hoL,_⟩:=id hn
 have neL:∀b o,X.s₀.heap.get? b=some o->b≠X.env.locals:=fun b o e=>zc (zm (zR e) I.ok.above)
 refine wpAny_unbindName_local hk hn hm hcls fun h' uu hn' hs=>h _ ⟨I.ok,I.os,I.bare,⟨fun b o e n hb hx=>(hs.2 b (neL b o e)).trans (I.base.keep b o e n hb hx),fun b o e n hb hx=>?_,I.base.free,fun b o e hx=>?_,I.base.tups,I.base.frzs,I.base.tbls⟩,⟨_,hn',fun j y v' e1 e2 e3=>?_⟩,fun y c e=>?_,I.free,I.freeC,fun p hp=>?_,fun b ob e=>?_,by simpa using I.len⟩
 . obtain⟨sl,e1⟩:=I.base.slot b o e n hb hx
   exact⟨sl,(hs.2 b (neL b o e)).trans e1⟩
 . obtain⟨o',e1⟩:=I.base.there b o e hx
   exact⟨o',(hs.2 b (neL b o e)).trans e1⟩
 . have hj:j≠i:=fun z=>by
    subst z
    have:j<σ.length:=(zK.mp hv).1
    rw[zBY this] at e2
    cases e2
   rw[List.getElem?_set_ne (Ne.symm hj)] at e2
   obtain⟨u',r',q⟩:=hl j y v' e1 e2 e3
   refine⟨u',r',?_⟩
   rcases q with ⟨k,e⟩ | ⟨k,c,e,z⟩
   . have ny:y≠x:=fun e=>hj (zFQ hN e1 (e ▸ hi))
     exact .inl ⟨k,by simp[ny,e]⟩
   . exact .inr ⟨k,c,e,z.sameBut hs (I.cne y c e)⟩
 . obtain⟨w',z⟩:=I.cell y c e
   exact⟨w',z.sameBut hs (I.cne y c e)⟩
 . obtain⟨e,n,ne,nf,d⟩:=I.pin p hp
   exact⟨(hs.2 p.1 ne).trans e,n,ne,nf,d⟩
 . refine (I.hok b ob e).stay (fun c w' hc q=>(hs.2 c ?_).trans q) (fun _ q=>q) fun _ _ q=>q
   rintro rfl
   rcases hc with rfl | hc
   . rw[I.free] at e;cases e
   . rw[I.free] at hc;cases hc
end
theorem zH0 {M:Model}{E:vSP}{s:Shared}{nm qn nm' qn':Str}{W Nn Nn':Addr}{bs bm bs' bm':List Value}{hdct hdct':Bool}{sn sn':List Str}{sub sub':List Value}{ab ab':Bool}{col col':Option Bool}{dd dd':Option Addr}
 {k0 k1 k2 k3 k5 k0' k1' k2' k3' k5':Option Value}{newId':String}{e:Addr}{oe:Obj}{Q:Bool->Shared->Prop}
 (hC:s.heap.get? C=some (excClassObj nm qn C Nn bs bm hdct sn sub ab col dd k0 k1 k2 k3 k5 newId))(hW:s.heap.get? W=some (excClassObj nm' qn' W Nn' bs' bm' hdct' sn' sub' ab' col' dd' k0' k1' k2' k3' k5' newId'))
 (he:s.heap.get? e=some oe)(hcls:oe.cls = .ref C)(hb:bm'.contains (.type "BaseException")=true) (hs:(Value.ref C::bm).contains (.ref W)=true)(hq:Q true s):wpAny M A (excMatches (.ref e) (.ref W)) Q E s:=by
 obtain⟨h,g,d,t,os⟩:=s
 have hWB:(Value.ref W::bm').contains (.type "BaseException")=true:=by rw[List.contains_cons,hb,Bool.or_true]
 have f:=tc_notTuple
 unfold excMatches
 repeat (first | (with_reducible refine zAd he ?_;rw[hcls]) | with_reducible refine zAd hW ?_ | (with_reducible refine wpAny_isSubtype_exc hW ?_;rw[hWB]) | (with_reducible refine wpAny_isSubtype_exc hC ?_;rw[hs]) | wp_step)
 exact hq
noncomputable def subIn (K:PySem.W.Frag)(C W:Addr):Bool:=match K.lookup C with
 | some ⟨_,_,.cls cd,_⟩=>cd.mro.contains (.ref W)
 | _=>false
theorem sub_of {W:Addr}{nm qn:Str}{Nn:Addr}{bs bm:List Value}{hdct:Bool}{sn:List Str}{sub:List Value}{ab:Bool}{col:Option Bool}{dd:Option Addr}{k0 k1 k2 k3 k5:Option Value}
 (X:K.In h)(q:subIn K C W=true)(hC:h.get? C=some (excClassObj nm qn C Nn bs bm hdct sn sub ab col dd k0 k1 k2 k3 k5 newId)):(Value.ref C::bm).contains (.ref W)=true:=by
 unfold subIn at q
 split at q
 . next look=>
   have e:=(X _ _ look).symm.trans hC
   unfold excClassObj at e
   cases e
   exact q
 . cases q
noncomputable def Cx.held (X:Cx)(ea:Addr)(oe:Obj):Cx:={ X with A:=X.A.mark (some (.ref ea)),calm:=false,pn:=(ea,oe)::X.pn,xe:=fun _ _=>False }
section
variable {X:Cx}{pins:lPO}{σ:St}{H:Hp}{s:Shared}{ea:Addr}{oe:Obj}
theorem Inv.hold (I:Inv X pins σ H s)(h1:s.heap.get? ea=some oe)(h2:H ea=none)(h3:ea≠X.env.locals)(h4:ea∉X.fs)(h5:∀v,oe.data ≠ .cell v):Inv (X.held ea oe) pins σ H s:=
 ⟨⟨I.ok.mod,I.ok.kind,I.ok.glob,I.ok.blt,I.ok.above,I.ok.inj,I.ok.has,I.ok.cab,(fun z=>by cases z),I.ok.frames,I.ok.stk,I.ok.exf,I.ok.bs,I.ok.bsz,I.ok.noex,I.ok.exfs,I.ok.funs,I.ok.frf⟩,I.os,I.bare,I.base,I.loc,I.cell,I.free,I.freeC,
  fun p hp=>by
   rcases zY.mp (show p∈(ea,oe)::(X.pn++pins) from hp) with rfl | hp
   . exact⟨h1,h2,h3,h4,h5⟩
   . exact I.pin p hp,I.hok,I.len⟩
theorem Inv.letgo (ok:X.Ok)(I:Inv (X.held ea oe) pins σ H s):Inv X pins σ H s:=
 ⟨ok,I.os,I.bare,I.base,I.loc,I.cell,I.free,I.freeC,fun p hp=>I.pin p (zX _ hp),I.hok,I.len⟩
end
theorem zJJ {st:List Env}{H1:Hp}{s1 s':Shared}{ea:Addr}{C a0:Value}{B h5:Heap}(un:Un (frs st) [] H1 H' s1.heap s'.heap)(fl:Heap.FlyingW B st ea C a0 s'.heap)
 (old:∀b o,s1.heap.get? b=some o->H1 b=none->b∉frs st->B.get? b=some o)(al:∀b o,s1.heap.get? b=some o->b∉frs st->∃o',B.get? b=some o')(st5:B.StaysIn h5)(up:s'.heap.UpToSlots h5):Un (frs st) [] H1 H' s1.heap h5:=by
 refine⟨fun b o e n hb _=>st5 b o (old b o e n hb),fun b o e n hb _=>?_,un.free,fun b o e _=>?_,un.tups,un.frzs,un.tbls⟩
 . obtain⟨sl2,e2⟩:=un.slot b o e n hb (by intro z;cases z)
   obtain⟨_,o3,e3,nd⟩:=fl.2.2.1.mem hb
   obtain⟨sl4,e4⟩:=up b _ e3 nd
   have e5:=zU (e3.symm.trans e2)
   rw[e5] at e4
   exact⟨sl4,e4⟩
 . by_cases hb:b∈frs st
   . obtain⟨_,o3,e3,nd⟩:=fl.2.2.1.mem hb
     obtain⟨sl4,e4⟩:=up b _ e3 nd
     exact⟨_,e4⟩
   . obtain⟨o3,e3⟩:=al b o e hb
     exact⟨_,st5 b o3 e3⟩
noncomputable def endsH (i:Nat)(D:zIL):zIL:={ D with nx:=fun σ H=>D.nx (σ.set i none) H,bk:=fun σ H=>D.bk (σ.set i none) H,ct:=fun σ H=>D.ct (σ.set i none) H }
end L2
namespace L2
open PySem PySem.Spec PySem.W PyProof.Rows Builtin Builtin.ObjectAttr Builtin.Getset_descriptor
variable {C:Addr}{tk:Tok}
section
variable {prog:Program}{w:World}{A:Around}{E:vSP}{s:Shared}{K:Frag}{x C:Addr}{ox:Obj}
structure zDF (K:Frag)(C:Addr):Prop where
 ga:findIn K (.ref C) "__getattribute__" = some (some (.builtin "BaseException.__getattribute__"))
 gn:findIn K (.ref C) "__getattr__" = some none
 cl:findIn K (.ref C) "__class__" = some (some (.builtin "object.__class__"))
 mo:mroIn K C (.type "object")=some true
 mb:mroIn K C (.type "BaseException")=some true
 ci:(clsIn K C).isSome=true
noncomputable def zDf (h:Heap)(x C:Addr):Prop:=∃o,h.get? x=some o/\o.cls = .ref C
theorem zDf.type {M:Model}{h:Heap}{x:Addr}(I:zDf h x C):Looks M h (typeOf (.ref x)) (.ref C):=by
 obtain⟨o,e,c⟩:=I
 rw[<-c]
 exact (Looks.ld e).andThen .now
theorem zLC {tp:Value}{R:Result->Shared->Prop}(X:K.In s.heap)(I:zDf s.heap x C)(hm:mroIn K C (.type "object")=some true) (h:R (.ok (.ret (.ref C))) s) :
 codeAny (model prog w) A (.call (.builtin "getset_descriptor.__get__") ⟨[.builtin "object.__class__",.ref x,tp],[]⟩) R s:=by
 obtain⟨h0,g0,d0,t0,o0⟩:=s
 have T0:=I.type (M:=model prog w)
 have T1:=looks_mroIn (M:=model prog w) X hm
 refine codeAny_call_builtin KF.slot_gs.plain KF.entry_gs (KF.slot_gs.check _ _ _ _ _ _ _ _ KF.type_class (KF.args_gs _ _ _) ?_)
 unfold Builtin.«getset_descriptor.__get__» descrGet;rw[dga_obj]
 apply zB;apply zJ
 unfold descrGetter descrCheckInstance descrNameAndClass isInstance;simp only[KF.owner_class]
 repeat lk
 refine⟨Code.quiet_builtin _ (by decide +kernel),codeAny_builtin KF.entry_class (?_:wpAny _ _ _ _ _ _)⟩
 unfold Builtin.«object.__class__»;unfold shownTypeOf
 repeat lk
 exact h
theorem zJk {Q:PySem.Fin->Shared->Prop}(X:K.In s.heap)(I:zDf s.heap x C)(F':zDF K C)(hq:Q (.done (.ret (.ref C))) s) :
 wpAny (model prog w) A (Builtin.«object.__getattribute__» ⟨[.ref x,.str "__class__" tk],[]⟩) Q E s:=by
 obtain⟨h,g,d,t,os⟩:=s
 have L0:=I.type (M:=model prog w)
 have L1:=looks_findIn (M:=model prog w) X F'.cl
 have hT5:(⟨h,g,d,t,os⟩:Shared).TypeIs (.builtin "object.__class__") "getset_descriptor" := F.typeOf_object_class
 have f5:=F.typeOf_object_class
 have f6:=F.slot_gs_get.lookup
 have f7:=F.slot_gs_set.lookup
 repeat (any_goals (first | assumption | with_reducible refine L0.at ?_ | with_reducible refine L1.at ?_ | wp_step))
 refine zLC (s:=⟨h,g,d,t,os⟩) X I F'.mo ?_
 repeat (any_goals (first | assumption | wp_step))
theorem zGE {M:Model}{nameV:Value}{Q:Unit->Shared->Prop}(X:K.In s.heap)(I:zDf s.heap x C)(F':zDF K C)(hq:Q () s):wpAny M A (checkBuiltinCall "BaseException.__getattribute__" ⟨[.ref x,nameV],[]⟩) Q E s:=by
 obtain⟨h,g,d,t,os⟩:=s
 have L0:=I.type (M:=M)
 have L1:=looks_mroIn (M:=M) X F'.mb
 have e1:builtinKind "BaseException.__getattribute__" = some .slot:=by decide +kernel
 have e2:splitId "BaseException.__getattribute__" = some ("BaseException", "__getattribute__"):=by decide +kernel
 have ha:=F.args_bexc_ga (.ref x) nameV
 simp only[checkBuiltinCall,e1,e2]
 refine zB ?_
 unfold isInstance
 repeat (any_goals (first | assumption | with_reducible refine L0.at ?_ | with_reducible refine L1.at ?_ | wp_step))
theorem zLD {R:Result->Shared->Prop}(X:K.In s.heap)(I:zDf s.heap x C)(F':zDF K C)(hq:R (.ok (.ret (.ref C))) s) :
 codeAny (model prog w) A (.call (.builtin "BaseException.__getattribute__") ⟨[.ref x,.str "__class__" tk],[]⟩) R s:=
 codeAny_call_builtin F.attrBase_ValueError.ga.plain F.entry_bexc_ga (zGE X I F' (zJk X I F' hq))
theorem exc_by {fill:Bool}{Q:vSP}(X:K.In s.heap)(I:zDf s.heap x C)(F':zDF K C)(hq:Q (.ref C) s):wpAny (model prog w) A (getAttrBy (.ref x) (.str "__class__" tk) fill) Q E s:=by
 obtain⟨h,g,d,t,os⟩:=s
 have L0:=I.type (M:=model prog w)
 have L1:=looks_findIn (M:=model prog w) X F'.ga
 have L2:=looks_findIn (M:=model prog w) X F'.gn
 have f3:=F.attrBase_ValueError.ga.bind (.ref x)
 have hx2:(Value.builtin "BaseException.__getattribute__" == Value.builtin "object.__getattribute__")=false:=by decide +kernel
 have hx1:(onTheHeap (Value.ref C) && Value.builtin "BaseException.__getattribute__" == Value.builtin "object.__getattribute__")=false:=by rw[hx2];rfl
 repeat (any_goals (first | assumption | with_reducible refine L0.at ?_ | with_reducible refine L1.at ?_ | with_reducible refine L2.at ?_ | wp_step))
 refine zLD (s:=⟨h,g,d,t,os⟩) X I F' ?_
 repeat (any_goals (first | assumption | wp_step))
theorem zLE {Q:Option Value->Shared->Prop}(X:K.In s.heap)(I:zDf s.heap x C)(F':zDF K C)(hq:Q (some (.ref C)) { s with toks:=s.toks+1 }):wpAny (model prog w) A (getAttr? (.ref x) "__class__") Q E s:=by
 obtain⟨h,g,d,t,os⟩:=s
 unfold getAttr? getAttrBy?
 repeat (any_goals (first | assumption | with_reducible apply exc_by (s:=⟨h,g,d,t+1,os⟩) X I F' | wp_step))
theorem zFU (F':zDF K C):KitX K (.ref x) (.ref C) (fun h=>zDf h x C) where
 ty:=fun _ _ _ I=>I.type
 it:=fun _ _ X _=>by
  obtain⟨cdD,hcD⟩:=zBM.mp F'.ci
  unfold clsIn at hcD
  split at hcD
  . next ho=>
    intro A' Q' E' s' k q
    unfold isType loadHead
    exact zB (wpAny_loadPart (k _ _ (X _ _ ho)) (zJ q))
  . cases hcD
 ne:=fun h tp dd its n sl X htp=>by
  obtain⟨cdD,hcD⟩:=zBM.mp F'.ci
  refine Bool.eq_false_iff.mpr fun q=>?_
  have e:C=tp:=Value.ref.inj (beq_iff_eq.mp q)
  subst e
  unfold clsIn at hcD
  split at hcD
  . next ho=>
    have z:=(X _ _ ho).symm.trans htp
    cases z
  . cases hcD
 ca:=fun X I k=>zLE X I F' k
end
structure zGb (X:Cx)(ea C:Addr):Prop where
 pin:∃oe,(ea,oe)∈X.pn/\oe.cls = .ref C
variable {ea:Addr}
section
variable {X:Cx}
theorem zEN {pins:lPO}{σ:St}{H:Hp}{s:Shared}(h:zGb X ea C)(I:Inv X pins σ H s):zDf s.heap ea C:=by
 obtain⟨oe,hp,hc⟩:=h.pin
 obtain⟨e,_⟩:=I.pin (ea,oe) (zAk _ hp)
 exact⟨oe,e,hc⟩
theorem zCV (hh:zGb X ea C):zCS X (.builtin "isinstance") (fun xs H Q=>∃W b,zDF X.K C/\xs=[.ref ea,.ref W]/\PySem.W.kitOne X.K (.ref C) (.ref W)=some b/\Q (.bl b) H):=by
 intro pins s σ H xs us Q I r h
 obtain⟨W,b,F',rfl,e,q⟩:=h
 obtain⟨u,w',rfl,rx,rT⟩:=zIO r
 cases (show u=Value.ref ea from rx)
 cases (show w'=Value.ref W from rT)
 have J:=zEN hh I
 exact PySem.W.kia_one (zFU F') I.kIn J e (fun z=>nomatch z) fun tk=>⟨.bl b,H,I.tok tk,rfl,q⟩
theorem zFd (hh:zGb X ea C):zCS X (.builtin "isinstance") (fun xs H Q=>∃T b,zDF X.K C/\xs=[.ref ea,.ty T]/\PySem.W.kitOne X.K (.ref C) (.type T)=some b/\Q (.bl b) H):=by
 intro pins s σ H xs us Q I r h
 obtain⟨T,b,F',rfl,e,q⟩:=h
 obtain⟨u,w',rfl,rx,rT⟩:=zIO r
 cases (show u=Value.ref ea from rx)
 cases (show w'=Value.type T from rT)
 have J:=zEN hh I
 exact PySem.W.kia_one (zFU F') I.kIn J e (fun z=>nomatch z) fun tk=>⟨.bl b,H,I.tok tk,rfl,q⟩
theorem zFc (hh:zGb X ea C):zCS X (.builtin "isinstance") (fun xs H Q=>∃(tp:Addr)(Ws:List Addr)(b:Bool),zDF X.K C/\xs=[.ref ea,.ref tp]/\H tp=some (.tup (Ws.map V.ref))/\PySem.W.kitAny X.K (.ref C) (Ws.map Value.ref)=some b/\Q (.bl b) H):=by
 intro pins s σ H xs us Q I r h
 obtain⟨tp,Ws,b,F',rfl,ht,e,q⟩:=h
 obtain⟨u,w',rfl,rx,rT⟩:=zIO r
 cases (show u=Value.ref ea from rx)
 cases (show w'=Value.ref tp from rT)
 have J:=zEN hh I
 obtain⟨⟨z,o2,e2,d2⟩,its,rv,ob,e3,c3,n3,s3⟩:=(show zBP X.prog X.w H s.heap tp (.tup (Ws.map V.ref)) from I.hok tp _ ht)
 have hits:its=Ws.map Value.ref:=by
  have:∀(Ws:List Addr)(its:List Value),zBO (Ws.map V.ref) its->its=Ws.map Value.ref:=by
   intro Ws
   induction Ws with
   | nil=>intro its h;cases h;rfl
   | cons a r ih=>
    intro its h
    cases h with
    | cons h1 h2=>rw[ih _ h2,show _=Value.ref a from h1];rfl
  exact this Ws its rv
 obtain⟨c',d',da',sl'⟩:=ob
 simp only at c3 s3
 subst c3 s3 hits
 exact PySem.W.kia_tup (zFU F') I.kIn J e3 e (fun z=>nomatch z) fun tk=>⟨.bl b,H,I.tok tk,rfl,q⟩
theorem zDb {X:Cx}{oe:Obj}(h:oe.cls = .ref C):zGb (X.held ea oe) ea C:=⟨⟨oe,zh,h⟩⟩
variable {k:Nat}{f:Addr}{fd:FuncData}{ps:List Str}{sp:Sp}{x:Str}{p pos epos:Pos}{e:Expr}{es:List Expr}{t:TA}
end
end L2
namespace L2
open PySem PySem.Spec PyProof.Rows
noncomputable def DK (h h':Heap):Prop:=∀b o,h.get? b=some o->∃o',h'.get? b=some o'/\o'.dict=o.dict
theorem DK.refl (h:Heap):DK h h:=fun _ o e=>⟨o,e,rfl⟩
theorem DK.trans {h1 h2 h3:Heap}(a:DK h1 h2)(b:DK h2 h3):DK h1 h3:=fun x o e=>by
 obtain⟨o1,e1,d1⟩:=a x o e
 obtain⟨o2,e2,d2⟩:=b x o1 e1
 exact⟨o2,e2,d2.trans d1⟩
noncomputable def KD {α:Type}:Sem α->Prop
 | .pure _=>True
 | .raise _=>True
 | .unsupported _=>True
 | .finish _=>True
 | .rule _ k=>KD (k ())
 | .at _ k=>KD (k ())
 | .load _ _ k=>∀o,KD (k o)
 | .update _ _ f k=>(∀o,(f o).dict=o.dict/\(o.isFreed=false->(f o).isFreed=false))/\KD (k ())
 | .alloc _ k=>∀a,KD (k a)
 | .loadIfAlive _ k=>∀o,KD (k o)
 | .point _ k=>KD (k ())
 | .fresh k=>∀t,KD (k t)
 | .ask k=>∀x,KD (k x)
 | .stack k=>∀l,KD (k l)
 | .handled _ k=>∀v,KD (k v)
 | _=>False
theorem KD.bind {α β:Type}{t:Sem α}{k:α->Sem β}(h:KD t)(hk:∀a,KD (k a)):KD (t >>= k):=by
 show KD (Sem.bind t k)
 induction t with
 | pure a=>exact hk a
 | raise e=>trivial
 | unsupported w=>trivial
 | finish e=>trivial
 | rule t f ih=>exact ih () h
 | «at» p f ih=>exact ih () h
 | load a p f ih=>exact fun o=>ih o (h o)
 | update a p f g ih=>exact⟨h.1,ih () h.2⟩
 | alloc o f ih=>exact fun a=>ih a (h a)
 | loadIfAlive a f ih=>exact fun o=>ih o (h o)
 | point l f ih=>exact ih () h
 | fresh f ih=>exact fun t=>ih t (h t)
 | ask f ih=>exact fun x=>ih x (h x)
 | stack f ih=>exact fun l=>ih l (h l)
 | handled o f ih=>exact fun v=>ih v (h v)
 | register=>exact h.elim
 | choose=>exact h.elim
 | os=>exact h.elim
 | call=>exact h.elim
 | newGen=>exact h.elim
 | genState=>exact h.elim
 | resume=>exact h.elim
 | yield=>exact h.elim
 | fork=>exact h.elim
 | thread=>exact h.elim
 | await=>exact h.elim
variable {M:Model}
theorem KD.wp {α:Type}{Γ : PySem.Ctx}{t:Sem α}(h:KD t){h0:Heap}{Q:α->Pos->Shared->Prop}{E:Value->Pos->Shared->Prop}:∀{p:Pos}{s:Shared},DK h0 s.heap->Sem.wp M Γ t Q E p s->Sem.wp M Γ t (fun a p' s'=>Q a p' s'/\DK h0 s'.heap) E p s:=by
 induction t with
 | pure a=>exact fun d w=>⟨w,d⟩
 | raise e=>exact fun d w=>w
 | unsupported w=>exact fun d w=>w
 | finish e=>exact fun d w=>w
 | rule t f ih=>exact fun d w=>ih () h d w
 | «at» p f ih=>exact fun d w=>ih () h d w
 | load a p f ih=>
  intro p s d w
  obtain⟨o,e,w⟩:=w
  exact⟨o,e,ih o (h o) d w⟩
 | update a p f g ih=>
  intro p s d w
  obtain⟨e,w⟩:=w
  refine⟨e,ih () h.2 (d.trans fun b o q=>?_) w⟩
  by_cases c:b=a
  . subst c
    have fr:=(Heap.get?_some_iff.mp q).2
    exact⟨f o,zBJ f q ((h.1 o).2 fr),(h.1 o).1⟩
  . exact⟨o,(Heap.get?_update_other _ _ (Ne.symm c)).trans q,rfl⟩
 | alloc o f ih=>
  intro p s d w
  exact ih _ (h _) (d.trans fun b o q=>⟨o,zI _ q,rfl⟩) w
 | loadIfAlive a f ih=>exact fun d w=>ih _ (h _) d w
 | point l f ih=>exact fun d w=>ih () h d w
 | fresh f ih=>exact fun d w=>ih _ (h _) d w
 | ask f ih=>exact fun d w=>ih _ (h _) d w
 | stack f ih=>exact fun d w=>ih _ (h _) d w
 | handled o f ih=>exact fun d w=>ih _ (h _) d w
 | register=>exact h.elim
 | choose=>exact h.elim
 | os=>exact h.elim
 | call=>exact h.elim
 | newGen=>exact h.elim
 | genState=>exact h.elim
 | resume=>exact h.elim
 | yield=>exact h.elim
 | fork=>exact h.elim
 | thread=>exact h.elim
 | await=>exact h.elim
variable {A:Around}{s:Shared}
theorem zDG {α:Type}{t:Sem α}{Q:α->Shared->Prop}{E:vSP}(k:KD t)(h:wpAny M A t Q E s):wpAny M A t (fun a s'=>Q a s'/\DK s.heap s'.heap) E s:=
 fun Γ p hΓ => k.wp (DK.refl _) (h Γ p hΓ)
theorem zDS {α:Type}{c:Prop} [Decidable c] {a b:Sem α}(h1:KD a)(h2:KD b):KD (if c then a else b):=by split <;> assumption
theorem zGt (v:Value):KD (fieldsOf v):=by
 unfold fieldsOf
 split
 . refine KD.bind (fun o=>trivial) fun o=>?_
   split <;> trivial
 . trivial
theorem zDs (v:Value)(i:Nat):KD (field v i):=by
 unfold field
 refine KD.bind (zGt v) fun vs=>?_
 split <;> trivial
theorem zJa (g:Array Value->Array Value)(o:Obj):(Obj.mapFields g o).dict=o.dict/\(o.isFreed=false->(Obj.mapFields g o).isFreed=false):=by
 obtain⟨c,d,dt,sl⟩:=o
 cases dt <;> exact⟨rfl,fun h=>h⟩
theorem zDD (v:Value)(i:Nat)(x:Value):KD (setField v i x):=by
 unfold setField
 split
 . unfold updateField
   refine KD.bind (fun o=>trivial) fun o=>?_
   split
   . exact zDS ⟨fun o=>zJa _ o,trivial⟩ trivial
   . trivial
 . trivial
theorem zCx (e:Value)(f:Option Addr):KD (setFlight e f):=by
 unfold setFlight
 refine KD.bind (zDs e 1) fun tb=>zDS (zDD _ _ _) trivial
theorem zF7:KD frameEnvs:=by
 unfold frameEnvs
 exact KD.bind (fun l=>trivial) fun l=>trivial
theorem zJO (env:Env)(l:List Env):KD (behindIsImport env l):=by
 unfold behindIsImport
 exact zDS trivial (zDS trivial (KD.bind (zDs _ _) fun _=>trivial))
theorem zM9 (env:Env)(b:Bool)(l:List Env):KD (keptBack env b l):=by
 unfold keptBack
 split
 . refine zDS trivial ?_
   refine KD.bind ?_ fun _=>trivial
   unfold underTheClaimsCaller
   exact KD.bind (fun l=>trivial) fun l=>trivial
 . trivial
theorem zHU:∀l:List Env,KD (readyFrames l)
 | []=>trivial
 | env::outer=>by
  unfold readyFrames
  split
  . refine KD.bind (fun o=>trivial) fun o=>?_
    refine zDS trivial ?_
    refine KD.bind (zJO _ _) fun b=>?_
    refine KD.bind (zM9 _ _ _) fun b=>?_
    refine KD.bind ⟨fun o=>⟨rfl,fun h=>(by obtain⟨c,d,dt,sl⟩:=o;cases dt <;> exact h)⟩,trivial⟩ fun _=>zHU outer
  . trivial
theorem zH8 (env:Env):KD (PySem.frameOf env):=by
 unfold PySem.frameOf
 refine KD.bind zF7 fun l=>?_
 refine KD.bind ?_ fun r=>?_
 . unfold frameObject
   split
   . trivial
   . exact KD.bind (zHU _) fun _=>trivial
 . split <;> trivial
theorem zK0 (f:Addr)(b:Bool):KD (entryPlaceOf f b):=by
 unfold entryPlaceOf
 refine KD.bind (fun l=>trivial) fun l=>?_
 split <;> trivial
theorem zK1 (a b c d e:Value)(l:List Value):KD (EntryCells.newEntry a b c d e l):=by
 unfold EntryCells.newEntry newFields newObj
 have fin:∀d:Data,KD (newObjAsIs (.type "traceback") d):=fun d=>by
  unfold newObjAsIs
  exact KD.bind (fun a=>trivial) fun a=>trivial
 simp only[]
 exact zDS (KD.bind trivial fun _=>fin _) (fin _)
theorem zJN (e:Value)(env:Env):KD (noteFrame e env):=by
 unfold noteFrame
 split
 . refine KD.bind (zDs _ _) fun hd=>?_
   have fin:∀f:Addr,KD (do setField e 1 (<-EntryCells.newEntry hd (<-PySem.frameOf env) .none (rawInt f) .none (<-entryPlaceOf f (hd != .none)))):=fun f=>
    KD.bind (zH8 env) fun a=>KD.bind (zK0 _ _) fun pl=>KD.bind (zK1 _ _ _ _ _ _) fun b=>zDD _ _ _
   refine zDS ?_ (fin _)
   refine KD.bind (zDs _ _) fun x=>zDS trivial ?_
   exact KD.bind (zDD _ _ _) fun _=>fin _
 . trivial
theorem zEy (env:Env)(e:Value):KD (leaving env e):=KD.bind (zJN e env) fun _=>zCx e none
noncomputable def zKK (K:PySem.W.Frag)(C:Addr):Bool:=match K.lookup C with
 | some ⟨.type "type",_,.cls u,z⟩=>
  match u.mro,z.toList with
  | .ref D::b,[_,_,_,_,some (.builtin m),_]=>D==C && m == "ValueError.__new__" && !u.hasDel && PySem.W.tailIn K bmV b && PySem.W.nsOkIn K u.ns && u.hasDict
  | _,_=>false
 | _=>false
variable {K:PySem.W.Frag}{h:Heap}{C:Addr}
theorem zCk (X:K.In h)(q:zKK K C=true) :
 ∃bm N nm qn bs sn sub ab col dd k0 k1 k2 k3 k5 mN,h.get? C=some (excClassObj nm qn C N bs bm true sn sub ab col dd k0 k1 k2 k3 k5 "ValueError.__new__")/\h.Ns N mN/\OwnTail h bmV bm:=by
 unfold zKK at q
 split at q
 . next dd cd sl look=>
   split at q
   . next D bm k0 k1 k2 k3 n k5 em es=>
     simp only[zBC,beq_iff_eq,Bool.not_eq_true'] at q
     obtain⟨⟨⟨⟨⟨q1,q2⟩,q3⟩,q4⟩,q5⟩,q6⟩:=q
     subst q1 q2
     cases cd
     simp only at em q3 q5 q6
     subst em q3 q6
     cases sl
     simp only at es
     subst es
     exact⟨_,_,_,_,_,_,_,_,_,_,_,_,_,_,_,_,X _ _ look,.of_isNs (PySem.W.isNs_of_in X q5),PySem.W.tail_of_in X q4⟩
   . cases q
 . cases q
structure zHh (K:PySem.W.Frag)(C fI:Addr):Prop where
 cl:zKK K C=true
 ini:PySem.W.findIn K (.ref C) "__init__" = some (some (.ref fI))
 fn:PySem.W.isFn K (.ref fI)=true
 sa:PySem.W.findIn K (.ref C) "__setattr__" = some (some (.builtin "object.__setattr__"))
 kp:PySem.W.keepIn K (.ref C)=true
noncomputable def zE6 (C t:Addr)(od:Option Addr):Obj:={ cls:=.ref C,dict:=od,data:=.fields #[.ref t,.none,.none,.none,.bool false,.none] }
noncomputable def xTup (us:List Value):Obj:={ cls:=.type "tuple",data:=.seq us.toArray }
variable {Q:PySem.Fin->Shared->Prop}
section
variable {prog:Program}{w:World}{A:Around}{E:vSP}{h:Heap}{g:Array GenState}{d:Drawn}{t:Nat}{os:OsState}{K:PySem.W.Frag}{C fI:Addr}{us:List Value}
noncomputable def zK5 (h:Heap)(C:Addr)(us:List Value):Heap:=(h.push (xTup us)).push (zE6 C h.objs.size none)
theorem zGA (h:Heap)(C:Addr)(us:List Value):∀b o,h.get? b=some o->(zK5 h C us).get? b=some o:=fun _ _ e=>zI _ (zI _ e)
theorem zLt (h:Heap)(C:Addr)(us:List Value):(zK5 h C us).get? (h.objs.size+1)=some (zE6 C h.objs.size none):=Heap.get?_push_at (by rw[zAi]) rfl
theorem zJE (X:K.In h)(I:zHh K C fI)(hz:us.length<=sizeLine)
 (hq:wpAny (model prog w) A (call (.ref fI) (.ref (h.objs.size+1)::us)) (fun r s'=>r = .none/\Q (.done (.ret (.ref (h.objs.size+1)))) s') E ⟨zK5 h C us,g,d,t,os⟩) :
 wpAny (model prog w) A (Builtin.«type.__call__» ⟨.ref C::us,[]⟩) Q E ⟨h,g,d,t,os⟩:=by
 obtain⟨bm,N,nm,qn,bs,sn,sub,ab,col,dd,k0,k1,k2,k3,k5,mN,hC,hN,T⟩:=zCk X I.cl
 have F:=PySem.F.excBase_ValueError
 repeat (first | with_reducible refine zAd hC ?_ | with_reducible refine wpAny_madeBy_exc hC ?_ | wp_step)
 refine codeAny_call_builtin_code (Code.quiet_builtin _ F.quiet) (wpAny_check_new_subT F T hC (codeAny_exc_new_subT F T hC ?_ hz))
 show wpAny _ _ _ _ _ ⟨zK5 h C us,g,d,t,os⟩
 have hC1:=zGA h C us _ _ hC
 have he1:(zK5 h C us).get? (h.objs.size+1)=some { cls:=.ref C,data:=.fields #[.ref h.objs.size,.none,.none,.none,.bool false,.none] }:=zLt h C us
 have X1:K.In (zK5 h C us):=X.keeps (zGA h C us)
 have own:(Value.ref C::bm).contains (.ref C)=true:=by simp
 unfold isInstance
 repeat (first | with_reducible refine zAd he1 ?_ | (with_reducible refine wpAny_isSubtype_exc hC1 ?_;rw[own]) | wp_step)
 have L:=PySem.W.looks_findIn (M:=model prog w) X1 I.ini
 refine L.at ?_
 refine zAg (zB ?_)
 refine (PySem.W.bind_fn (M:=model prog w) X1 (.ref (h.objs.size+1)) (beq_iff_eq.mp I.fn)).at ?_
 refine zB (zAP hq (fun r s' hr=>?_) fun _ _ z=>z)
 obtain⟨rfl,hQ⟩:=hr
 wp_walk
 exact hQ
theorem zJ3 {Q:vSP}(X:K.In h)(I:zHh K C fI)(hz:us.length<=sizeLine)
 (hq:wpAny (model prog w) (A.under (.builtin "type.__call__" ⟨.ref C::us,[]⟩)) (call (.ref fI) (.ref (h.objs.size+1)::us)) (fun r s'=>r = .none/\Q (.ref (h.objs.size+1)) s') E ⟨zK5 h C us,g,d,t,os⟩) :
 wpAny (model prog w) A (call (.ref C) us) Q E ⟨h,g,d,t,os⟩:=by
 obtain⟨bm,N,nm,qn,bs,sn,sub,ab,col,dd,k0,k1,k2,k3,k5,mN,hC,hN,T⟩:=zCk X I.cl
 have f1:=tc_lookup
 have f2:=tc_bind (.ref C)
 have hT:(⟨h,g,d,t,os⟩:Shared).TypeIs (.ref C) "type" := ⟨_,hC,rfl⟩
 refine wpAny_call (codeAny_of_tree ?_)
 show wpAny _ _ (callAny (.ref C) _) _ _ _
 repeat (any_goals (first | assumption | with_reducible refine zAd hC ?_ | wp_step))
 refine⟨rfl,?_⟩
 exact codeAny_call_builtin_at (Code.quiet_builtin _ (by decide +kernel)) entry_typeCall (wpAny_check_type_call_sub hC (zJE X I hz hq))
end
theorem zD4 {bm:List Value}(T:OwnTail h bmV bm)(self:Value):refuseLoop self "__setattr__" bm=pure ():=by
 induction T with
 | base=>exact PySem.F.store_ValueError.passes self
 | own _ _ _ _ ih=>rw[refuseLoop_ref];exact ih
variable {tk:Tok}{dx:Addr}
section
variable {prog:Program}{w:World}{A:Around}{E:vSP}{h:Heap}{g:Array GenState}{d:Drawn}{t:Nat}{os:OsState}{K:PySem.W.Frag}{C fI x tt:Addr}{name:Str}{v:Value}
theorem zIh {od:Option Addr}{nameV:Value}{Q:Unit->Shared->Prop}(X:K.In h)(mo:PySem.W.mroIn K C (.type "object")=some true) (hx:h.get? x=some (zE6 C tt od))(hq:Q () ⟨h,g,d,t,os⟩) :
 wpAny M A (checkBuiltinCall "object.__setattr__" ⟨[.ref x,nameV,v],[]⟩) Q E ⟨h,g,d,t,os⟩:=by
 have L0:=(show zDf h x C from ⟨_,hx,rfl⟩).type (M:=M)
 have L1:=PySem.W.looks_mroIn (M:=M) X mo
 have ha:=PySem.F.store_ValueError.args (.ref x) nameV v
 have e1:=PySem.F.store_ValueError.kind
 have e2:=PySem.F.store_ValueError.split
 simp only[checkBuiltinCall,e1,e2]
 refine zB ?_
 unfold isInstance
 repeat (any_goals (first | assumption | with_reducible refine L0.at ?_ | with_reducible refine L1.at ?_ | wp_step))
theorem zLi {mA:sOV}{ns:List Str}(hns:h.Ns1 dx mA)(hw:PySem.Within mA ns)(hz:ns.length<1000)
 (hq:∀h' tk',h'.Ns1 dx (fun y=>if y=name then some v else mA y)->(∀b,b≠dx->h'.get? b=h.get? b)->Q (.done (.ret .none)) ⟨h',g,d,tk',os⟩) :
 wpAny M A (Builtin.ObjectAttr.storeInDict dx (.str name tk) name v) Q E ⟨h,g,d,t,os⟩:=by
 unfold Builtin.ObjectAttr.storeInDict Builtin.ObjectAttr.newKeyGuard
 refine zB (zJ (zB (wpAny_nsSet1 hns fun h' hn' hs=>?_)))
 obtain⟨oD,esD,epD,hoD,hdD,hcD⟩:=hn'.count (Within.cons name v hw)
 refine zB (wpAny_lookBehind hoD (by rw[hdD];exact pastItsLine_dict (zx hcD (by rw[zT,sizeLine_eq];omega))) ?_)
 wp_walk
 exact hq h' _ hn' fun b hb=>hs.2 b hb
theorem zHr (X:K.In h)(I:zHh K C fI)(nm:PySem.W.findIn K (.ref C) name=some none)(hx:h.get? x=some (zE6 C tt none))
 (hq:∀h' tk',h'.get? x=some (zE6 C tt (some h.objs.size))->h'.Ns1 h.objs.size (fun y=>if y=name then some v else none)->(∀b o,b≠x->h.get? b=some o->h'.get? b=some o)->Q (.done (.ret .none)) ⟨h',g,d,tk',os⟩) :
 wpAny (model prog w) A (Builtin.«object.__setattr__» ⟨[.ref x,.str name tk,v],[]⟩) Q E ⟨h,g,d,t,os⟩:=by
 obtain⟨bm,N,nmm,qn,bs,sn,sub,ab,col,dd,k0,k1,k2,k3,k5,mN,hC,hN,T⟩:=zCk X I.cl
 have pass:=zD4 T (.ref x)
 obtain⟨o,ho⟩:∃o,o=zE6 C tt none:=⟨_,rfl⟩
 rw[<-ho] at hx
 have hc:o.cls = .ref C:=by rw[ho];rfl
 have hdn:o.dict=none:=by rw[ho];rfl
 have L:=PySem.W.looks_findIn (M:=model prog w) X nm
 unfold Builtin.«object.__setattr__»
 repeat (first | rw[refuse_eq] | (rw[refuseLoop_ref,pass]) | (with_reducible refine zAd hx ?_;rw[hc]) | with_reducible refine wpAny_mroOf_exc hC ?_ | with_reducible refine L.at ?_ | wp_step)
 have hdt:o.data = .fields #[.ref tt,.none,.none,.none,.bool false,.none]:=by rw[ho];rfl
 have hx1:=zI { cls:=.type "dict",data:=.dict #[] } hx
 have xs:x≠h.objs.size:=zc (zR hx)
 rw[hdn,hdt]
 refine zB (wpAny_alloc' (zB (wpAny_update' hx1 (zJ ?_))))
 have fr:(zE6 C tt (some h.objs.size)).isFreed=false:=rfl
 have up:((h.push { cls:=.type "dict",data:=.dict #[] }).update x fun o=>{ cls:=o.cls,dict:=some h.objs.size,data:=o.data,slots:=o.slots }).get? x=some (zE6 C tt (some h.objs.size)):=by
  have:=zBJ (fun o:Obj=>{ cls:=o.cls,dict:=some h.objs.size,data:=o.data,slots:=o.slots }) hx1 (by rw[ho];rfl)
  rw[this,ho];rfl
 have nd:((h.push { cls:=.type "dict",data:=.dict #[] }).update x fun o=>{ cls:=o.cls,dict:=some h.objs.size,data:=o.data,slots:=o.slots }).get? h.objs.size=some { cls:=.type "dict",data:=.dict #[] }:=
  (Heap.get?_update_other _ _ xs).trans (Heap.get?_push_at rfl rfl)
 refine zLi (Heap.Ns1.of_empty ⟨_,#[],_,nd,rfl,fun e he=>absurd he (by simp),fun _=>rfl⟩) Within.nil (by decide) fun h' tk' n' same=>?_
 refine hq h' tk' ((same x xs).trans up) n' fun b ob hb e=>?_
 rw[same b (zc (zR e)),Heap.get?_update_other _ _ (Ne.symm hb)]
 exact zI _ e
theorem zHq {mA:sOV}{ns:List Str}(X:K.In h)(I:zHh K C fI)(nm:PySem.W.findIn K (.ref C) name=some none)(hx:h.get? x=some (zE6 C tt (some dx)))
 (hns:h.Ns1 dx mA)(hw:PySem.Within mA ns)(hz:ns.length<1000)
 (hq:∀h' tk',h'.Ns1 dx (fun y=>if y=name then some v else mA y)->(∀b,b≠dx->h'.get? b=h.get? b)->Q (.done (.ret .none)) ⟨h',g,d,tk',os⟩) :
 wpAny (model prog w) A (Builtin.«object.__setattr__» ⟨[.ref x,.str name tk,v],[]⟩) Q E ⟨h,g,d,t,os⟩:=by
 obtain⟨bm,N,nmm,qn,bs,sn,sub,ab,col,dd,k0,k1,k2,k3,k5,mN,hC,hN,T⟩:=zCk X I.cl
 have pass:=zD4 T (.ref x)
 obtain⟨o,ho⟩:∃o,o=zE6 C tt (some dx):=⟨_,rfl⟩
 rw[<-ho] at hx
 have hc:o.cls = .ref C:=by rw[ho];rfl
 have hdn:o.dict=some dx:=by rw[ho];rfl
 have L:=PySem.W.looks_findIn (M:=model prog w) X nm
 unfold Builtin.«object.__setattr__»
 repeat (first | rw[refuse_eq] | (rw[refuseLoop_ref,pass]) | (with_reducible refine zAd hx ?_;rw[hc]) | with_reducible refine wpAny_mroOf_exc hC ?_ | with_reducible refine L.at ?_ | wp_step)
 rw[hdn]
 exact zJ (zLi hns hw hz hq)
theorem zHE {od:Option Addr}{Pr:Heap->Prop}{Q:Unit->Shared->Prop}(X:K.In h)(I:zHh K C fI)(mo:PySem.W.mroIn K C (.type "object")=some true) (hx:h.get? x=some (zE6 C tt od))
 (ent:∀(A':Around)(E':vSP)(tk:Tok)(t':Nat)(Q':PySem.Fin->Shared->Prop),(∀h' tk',Pr h'->Q' (.done (.ret .none)) ⟨h',g,d,tk',os⟩)->wpAny (model prog w) A' (Builtin.«object.__setattr__» ⟨[.ref x,.str name tk,v],[]⟩) Q' E' ⟨h,g,d,t',os⟩)
 (hq:∀h' tk',Pr h'->Q () ⟨h',g,d,tk',os⟩):wpAny (model prog w) A (setAttr (.ref x) name v) Q E ⟨h,g,d,t,os⟩:=by
 have SF:=PySem.F.store_ValueError
 have f3:=SF.slot.bind (.ref x)
 have L0:=(show zDf h x C from ⟨_,hx,rfl⟩).type (M:=model prog w)
 have L1:=PySem.W.looks_findIn (M:=model prog w) X I.sa
 unfold setAttr callSpecial? specialOf
 repeat (any_goals (first | assumption | with_reducible refine L0.at ?_ | with_reducible refine L1.at ?_ | wp_step))
 refine codeAny_call_builtin SF.slot.plain SF.entry (zIh X mo hx (ent _ _ _ _ _ fun h' tk' p=>?_))
 repeat (any_goals (first | assumption | wp_step))
 exact hq h' tk' p
end
noncomputable def xO (e C t:Addr)(od:Option Addr):HO:=.ext fun h=>h.get? e=some (zE6 C t od)
noncomputable def dO (dx:Addr)(fs:List (Str×V)):HO:=.ext fun h=>∃mA,h.Ns1 dx mA/\(∀f,zE5 (fs.lookup f) (mA f))/\PySem.Within mA (fs.map (·.1))
section
variable {P:Program}{w:World}{H:Hp}{h:Heap}{e C t dx:Addr}{od:Option Addr}{fs:List (Str×V)}
theorem xO_ok (hx:h.get? e=some (zE6 C t od)):zBP P w H h e (xO e C t od):=⟨hx,⟨_,hx⟩,fun _ _ p k=>k _ p⟩
theorem dO_ok {mA:sOV}(hn:h.Ns1 dx mA)(r:∀f,zE5 (fs.lookup f) (mA f))(wi:PySem.Within mA (fs.map (·.1))):zBP P w H h dx (dO dx fs):=
 ⟨⟨mA,hn,r,wi⟩,let ⟨o,_,_,q,_⟩:=hn;⟨o,q⟩,fun _ _ ⟨m,⟨o,es,ep,q,z⟩,r,wi⟩ k=>⟨m,⟨o,es,ep,k _ q,z⟩,r,wi⟩⟩
theorem HOk.add {a:Addr}{o:HO}(x:HOk P w H h)(hn:H a=none)(new:zBP P w (upd H a o) h a o):HOk P w (upd H a o) h:=fun b u e=>by
 by_cases hb:b=a
 . subst hb;rw[zG] at e;cases e;exact new
 . rw[zf hb] at e
   exact (x b u e).stay (fun c v _ q=>q) (fun c q=>by rw[zf (zq q hn)];exact q) fun c xs q=>by rw[zf (zq q hn)];exact q
theorem zKP {a b:Addr}{o u:HO}(n:a≠b):upd (upd H a o) b u=upd (upd H b u) a o:=by
 funext c
 by_cases h1:c=a
 . subst h1;rw[zG,zf n,zG]
 . by_cases h2:c=b
   . subst h2;rw[zG,zf h1,zG]
   . rw[zf h2,zf h1,zf h1,zf h2]
end
section
variable {X:Cx}{pins:lPO}{σ:St}{H:Hp}{s:Shared}{A:Around}{E:vSP}{e C t fI:Addr}{f:Str}{y:V}{u:Value}{Q:Unit->Shared->Prop}
theorem zKZ (I:Inv X pins σ H s)(EI:zHh X.K C fI)(mo:PySem.W.mroIn X.K C (.type "object")=some true) (nm:PySem.W.findIn X.K (.ref C) f=some none)(he:H e=some (xO e C t none))(ry:zBk y u)
 (h:∀dx s',H dx=none->Inv X pins σ (upd (upd H dx (dO dx [(f,y)])) e (xO e C t (some dx))) s'->Q () s'):wpAny (model X.prog X.w) A (setAttr (.ref e) f u) Q E s:=by
 obtain⟨hp,g,d,tk,os⟩:=s
 have hx:hp.get? e=some (zE6 C t none):=(I.hok e _ he).1
 refine zHE (Pr:=fun h'=>h'.get? e=some (zE6 C t (some hp.objs.size))/\h'.Ns1 hp.objs.size (fun y=>if y=f then some u else none)/\(∀b o,b≠e->hp.get? b=some o->h'.get? b=some o)) I.kIn EI mo hx
  (fun A' E' tk' t' Q' k=>zHr I.kIn EI nm hx fun h' tk2 a b c=>k h' tk2 ⟨a,b,c⟩) fun h' tk' ⟨a,b,c⟩=>?_
 have hn:H hp.objs.size=none:=I.hok.fresh (zH _)
 have ne:e≠hp.objs.size:=zc (zR hx)
 refine h hp.objs.size _ hn ?_
 have mu:Mut ((upd H hp.objs.size (dO hp.objs.size [(f,y)])) e):=by rw[zf ne,he];exact True.intro
 have mu':Mut (H e):=by rw[he];exact True.intro
 refine I.un (h':=h') (t':=tk') ((Un.laid (h':=hp) (fun _ _ q=>q) (zH _) hn).trans (Un.write mu (.inl rfl) c ⟨_,a⟩)) ?_
 rw[zKP (Ne.symm ne)]
 refine HOk.add (I.hok.write mu' (.inl rfl) c ⟨_,a⟩ (xO_ok a)) (by rw[zf (Ne.symm ne)];exact hn) (dO_ok b (fun g=>?_) (fun g hg=>?_))
 . show zE5 (List.lookup g [(f,y)]) (if g=f then some u else none)
   by_cases q:g=f
   . subst q;rw[if_pos rfl,List.lookup_cons_self];exact ry
   . rw[if_neg q,zAx,show (g==f)=false from by simpa using q];trivial
 . by_cases q:g=f
   . subst q;exact zh
   . exact absurd (by show (if g=f then some u else none)=none;rw[if_neg q]) hg
theorem zKY {fs:List (Str×V)}(I:Inv X pins σ H s)(EI:zHh X.K C fI)(mo:PySem.W.mroIn X.K C (.type "object")=some true) (nm:PySem.W.findIn X.K (.ref C) f=some none)(he:H e=some (xO e C t (some dx)))(hd:H dx=some (dO dx fs))(hl:fs.length<900)(ry:zBk y u)
 (h:∀s',Inv X pins σ (upd H dx (dO dx (zIK f y fs))) s'->Q () s'):wpAny (model X.prog X.w) A (setAttr (.ref e) f u) Q E s:=by
 obtain⟨hp,g,d,tk,os⟩:=s
 have hx:hp.get? e=some (zE6 C t (some dx)):=(I.hok e _ he).1
 obtain⟨mA,hns,r,wi⟩:=(I.hok dx _ hd).1
 refine zHE (Pr:=fun h'=>h'.Ns1 dx (fun y=>if y=f then some u else mA y)/\(∀b,b≠dx->h'.get? b=hp.get? b)) I.kIn EI mo hx
  (fun A' E' tk' t' Q' k=>zHq I.kIn EI nm hx hns wi (by rw[zD];omega) fun h' tk2 a b=>k h' tk2 ⟨a,b⟩) fun h' tk' ⟨a,b⟩=>?_
 refine h _ ?_
 have mu:Mut (H dx):=by rw[hd];exact True.intro
 refine I.write (x:=dx) (e:=dx) (t':=tk') mu (.inl rfl) (fun b_ u' hb q=>(b b_ hb).trans q) (let ⟨o,_,_,q,_⟩:=a;⟨o,q⟩) (dO_ok a (fun g=>?_) (fun g hg=>?_))
 . show zE5 ((zIK f y fs).lookup g) (if g=f then some u else mA g)
   rw[zED]
   by_cases q:g=f
   . rw[if_pos q,if_pos q];exact ry
   . rw[if_neg q,if_neg q];exact r g
 . by_cases q:g=f
   . rw[q];exact (zEI f y fs).1
   . refine (zEI f y fs).2 g (wi g fun z=>hg ?_)
     show (if g=f then some u else mA g)=none
     rw[if_neg q];exact z
end
noncomputable def sFldX (C:Addr)(f:Str)(ta tv:TE):TS:=fun D σ H=>tv σ H fun y H1=>ta σ H1 fun x H2=>∃e t,x = .ref e /\
 ((H2 e=some (xO e C t none)/\∀dx,H2 dx=none->D.nx σ (upd (upd H2 dx (dO dx [(f,y)])) e (xO e C t (some dx)))) \/
  ∃dx fs,H2 e=some (xO e C t (some dx))/\H2 dx=some (dO dx fs)/\fs.length<900/\D.nx σ (upd H2 dx (dO dx (zIK f y fs))))
section
variable {X:Cx}{o value:Expr}{ta tv:TE}{f:Str}{C fI:Addr}{pos pos':Pos}
theorem zIt (EI:zHh X.K C fI)(mo:PySem.W.mroIn X.K C (.type "object")=some true) (nm:PySem.W.findIn X.K (.ref C) f=some none)(ha:PE X o ta)(hv:PE X value tv)(hs:swapsWith value (some (.Attribute o f pos')) pos.line X.env=pure false:=by rfl) :
 PS X (.Assign [.Attribute o f pos'] value pos) (sFldX C f ta tv):=by
 intro pins s σ H D I h
 refine plainObj_wpAny_Assign_Attribute (thn (hv pins s σ H _ I h) fun u s1 ⟨y,H1,I1,ry,q⟩=>thn (ha pins s1 σ H1 _ I1 q) fun ov s2 ⟨x,H2,I2,rx,e,t,ex,q2⟩=>?_) hs
 subst ex
 obtain rfl:ov=Value.ref e:=rx
 rcases q2 with ⟨he,q⟩ | ⟨dx,fs,he,hd,hl,q⟩
 . exact zKZ I2 EI mo nm he ry fun dx s3 n I3=>⟨σ,_,I3,q dx n⟩
 . exact zKY I2 EI mo nm he hd hl ry fun s3 I3=>⟨σ,_,I3,q⟩
end
noncomputable def spXI (C:Addr)(f1 f2:Str):Sp:=fun vs H Q _=>∃(e t:Addr)(v1 v2:V),vs=[.ref e,v1,v2]/\H e=some (xO e C t none)/\∀dx,H dx=none->dx≠e->Q .non (upd (upd H dx (dO dx [(f1,v1),(f2,v2)])) e (xO e C t (some dx)))
noncomputable def FlyD (B:Heap)(l:List Env)(e:Addr)(C a0:Value)(od:Option Addr)(h:Heap):Prop:=Heap.FlyingW B l e C a0 h/\∃o,h.get? e=some o/\o.dict=od
variable {h':Heap}{e:Addr}
theorem FlyD.step {B:Heap}{l l':List Env}{C a0:Value}{od:Option Addr}(x:FlyD B l e C a0 od h)(f:Heap.FlyingW B l' e C a0 h')(k:DK h h'):FlyD B l' e C a0 od h':=by
 obtain⟨_,o,q,r⟩:=x
 obtain⟨o',q',r'⟩:=k e o q
 exact⟨f,o',q',r'.trans r⟩
noncomputable def CXI (P:Program)(w:World):CXT:=fun outer H s E e s'=>
 ∃(ea t:Addr)(C:Value)(od:Option Addr)(H':Hp)(B:Heap),e = .ref ea/\s'.os=s.os/\AllBare s'.gens/\Un (frs outer) [] H H' s.heap s'.heap/\HOk P w H' s'.heap /\
  FlyD B outer ea C (.ref t) od s'.heap/\(∀b u,H' b=some u->∃o,B.get? b=some o)/\(∀b o,s.heap.get? b=some o->H b=none->b∉frs outer->B.get? b=some o)/\(∀b o,s.heap.get? b=some o->b∉frs outer->∃o',B.get? b=some o')/\E C od H'
variable {vs:Array Value}
section
variable {P:Program}{w:World}{K:PySem.W.Frag}{mg:sOV}{base:Heap}{N:List Str}{qual:Str}{scope:Scope}{f:Addr}{cd:Value}{A:Around}{outer:List Env}{s0 s:Shared}{H0 H:Hp}{E:XK}{pins:lPO}{σ:St}
theorem zD5 {ea t:Addr}{oe:Obj}{C:Value}(I:Inv (zGf (CXI P w) P w K mg base N qual scope f cd A outer s0 H0 E) pins σ H s)(he:s.heap.get? ea=some oe)(hc:oe.cls=C)(hd:oe.data = .fields vs)(h1:vs[1]? = some .none)(h0:vs[0]? = some (.ref t))(hn:H ea=none)(h00:s0.heap.get? ea=none)(hE:E C oe.dict H) :
 (zGf (CXI P w) P w K mg base N qual scope f cd A outer s0 H0 E).xe (.ref ea) s:=by
 subst hc
 let fr:List Addr:=(envOfC qual scope s0.heap.objs.size f cd::outer).filterMap (·.frame)
 have hin:∀env∈(envOfC qual scope s0.heap.objs.size f cd::outer),∀a,env.frame=some a->a∈ea::fr:=fun env he b hb=>zX _ (zA7.mpr ⟨env,he,hb⟩)
 have ff:=PySem.W.funFrames_hide I.stack hin
 have off:ea∉fr:=fun z=>by
  obtain⟨_,o,ho,nd⟩:=I.stack.mem z
  rw[he] at ho
  cases ho
  exact nd vs hd
 refine zAP (zDG (zEy _ _) (wpAny_leaving_firstW (Q:=fun _ s'=>∃h',s'={ s with heap:=h' }/\Heap.LeftW (PySem.W.hideAll s.heap (ea::fr)) (envOfC qual scope s0.heap.objs.size f cd::outer) ea oe.cls (.ref t) s.heap h') (base:=PySem.W.hideAll s.heap (ea::fr)) I.ok.frames ff rfl he (fun b o q=>PySem.W.of_hideAll _ q) (PySem.W.hideAll_none _ zh) hd h1 h0 fun h' L=>⟨h',rfl,L⟩)) (fun _ s' hq=>?_) fun _ _ z=>z
 obtain⟨⟨h'',rfl,L1,⟨_,_,L2'⟩,L3,up⟩,dk⟩:=hq
 have st:(PySem.W.hideAll s.heap (ea::fr)).StaysIn h'':=L1
 have stk:∀b,b∈fr->b=s0.heap.objs.size\/b∈frs outer:=fun b z=>zY.mp (I.stkSub b z)
 have hid:∀b o,s.heap.get? b=some o->b≠ea->b∉fr->(PySem.W.hideAll s.heap (ea::fr)).get? b=some o:=fun b o q n z=>PySem.W.hideAll_get _ q fun y=>by
  rcases zY.mp y with y | y
  . exact n y
  . exact z y
 have nea:∀b o,s0.heap.get? b=some o->b≠ea:=fun b o q z=>by rw[z,h00] at q;cases q
 have nfr:∀b o,s0.heap.get? b=some o->b∉frs outer->b∉fr:=fun b o q hb z=>by
  rcases stk b z with y | y
  . exact absurd (zR q) (by rw[y];exact Nat.not_lt_of_le (zH _))
  . exact hb y
 have old:∀b o,s0.heap.get? b=some o->H0 b=none->b∉frs outer->(PySem.W.hideAll s.heap (ea::fr)).get? b=some o:=fun b o e n hb=>
  hid b o (I.base.keep b o e n hb (by intro z;cases z)) (nea b o e) (nfr b o e hb)
 have al:∀b o,s0.heap.get? b=some o->b∉frs outer->∃o',(PySem.W.hideAll s.heap (ea::fr)).get? b=some o':=fun b o e hb=>by
  obtain⟨o1,e1⟩:=I.base.there b o e (by intro z;cases z)
  exact⟨o1,hid b o1 e1 (nea b o e) (nfr b o e hb)⟩
 have tr:∀b u,H b=some u->∃o,(PySem.W.hideAll s.heap (ea::fr)).get? b=some o:=fun b u e=>by
  obtain⟨o,ho⟩:=(I.hok b u e).there
  refine⟨o,hid b o ho (fun z=>by rw[z,hn] at e;cases e) fun z=>?_⟩
  have:=I.stkFree b z
  rw[e] at this
  cases this
 obtain⟨o',q',r'⟩:=dk ea oe he
 refine⟨ea,t,oe.cls,oe.dict,H,_,rfl,I.os,I.bare,⟨fun b o e n hb hx'=>st b o (old b o e n hb),fun b o e n hb hx'=>?_,I.base.free,fun b o e hx'=>?_,I.base.tups,I.base.frzs,I.base.tbls⟩,I.hok.stays (fun b o q=>PySem.W.of_hideAll _ q) st tr,⟨⟨L1,PySem.W.hideAll_none _ zh,L2',L3⟩,o',q',r'⟩,tr,old,al,hE⟩
 . obtain⟨sl,e1⟩:=I.base.slot b o e n hb (by intro z;cases z)
   obtain⟨_,o2,e2,nd⟩:=I.stack.mem (show b∈fr from zX _ hb)
   have e3:o2={ o with slots:=sl }:=zU (e2.symm.trans e1)
   obtain⟨sl2,e4⟩:=up b _ e1 (fun vs=>by rw[<-e3];exact nd vs)
   exact⟨sl2,e4⟩
 . obtain⟨o1,e1⟩:=I.base.there b o e (by intro z;cases z)
   by_cases hb:b∈fr
   . obtain⟨_,o2,e2,nd⟩:=I.stack.mem hb
     obtain⟨sl2,e4⟩:=up b _ e2 nd
     exact⟨_,e4⟩
   . exact⟨_,st b _ (hid b o1 e1 (nea b o e) hb)⟩
theorem zMS {ea:Addr}{C:Value}{vs:List Value}(I:Inv (zGf (CXI P w) P w K mg base N qual scope f cd A outer s0 H0 E) pins σ H s)(hx:Heap.MadeExcOf s.heap h' ea C vs)(hE:E C none H) :
 (zGf (CXI P w) P w K mg base N qual scope f cd A outer s0 H0 E).xe (.ref ea) { s with heap:=h' }:=by
 obtain⟨t,ht,_,_⟩:=hx.there
 refine zD5 (t:=t) (I.kept (t':=s.toks) hx.keeps) ht rfl rfl rfl rfl ?_ ?_ hE
 . cases z:H ea with
   | none=>rfl
   | some u=>
    obtain⟨o,ho⟩:=(I.hok ea u z).there
    rw[hx.new] at ho;cases ho
 . cases z:s0.heap.get? ea with
   | none=>rfl
   | some u=>
    obtain⟨o,ho⟩:=I.base.there ea u z (by intro z;cases z)
    rw[hx.new] at ho;cases ho
end
section
variable {P:Program}{w:World}{K:PySem.W.Frag}{mg:sOV}{base:Heap}{N:List Str}{qual:Str}{scope:Scope}{f:Addr}{cd:Value}{A:Around}{outer:List Env}{s0 s:Shared}{H0 H:Hp}{E:XK}{pins:lPO}{σ:St}
theorem zMb {E1:XK}{e:Value}{s':Shared}(I:Inv (zGf (CXI P w) P w K mg base N qual scope f cd A outer s0 H0 E) pins σ H s)(h:CXI P w (envOfC qual scope s0.heap.objs.size f cd::outer) H s E1 e s')
 (imp:∀C d H',E1 C d H'->E C d H'):(zGf (CXI P w) P w K mg base N qual scope f cd A outer s0 H0 E).xe e s':=by
 obtain⟨ea,t,C,od,H',B,rfl,os,bare,un,hok,fl,tr,old,al,hE⟩:=h
 refine zAP (zDG (zEy _ _) (wpAny_leaves_onW (Q:=fun _ s2=>∃h',s2={ s' with heap:=h' }/\Heap.FlyingW B outer ea C (.ref t) h'/\s'.heap.UpToSlots h') I.ok.frames rfl fl.1 fun h' f2 u=>⟨h',rfl,f2,u⟩)) (fun _ s2 hq=>?_) fun _ _ z=>z
 obtain⟨⟨h'',rfl,fl2,up⟩,dk⟩:=hq
 have st:B.StaysIn h'':=fl2.1
 have nl:∀b o,s0.heap.get? b=some o->H0 b=none->b∉frs outer->B.get? b=some o:=fun b o e n hb=>by
  refine old b o (I.base.keep b o e n hb (by intro z;cases z)) (I.base.free b o e n (by intro z;cases z)) fun z=>?_
  rcases zY.mp (I.stkSub b z) with q | q
  . exact absurd (zR e) (by rw[q];exact Nat.not_lt_of_le (zH _))
  . exact hb q
 have na:∀b o,s0.heap.get? b=some o->b∉frs outer->∃o',B.get? b=some o':=fun b o e hb=>by
  obtain⟨o1,e1⟩:=I.base.there b o e (by intro z;cases z)
  refine al b o1 e1 fun z=>?_
  rcases zY.mp (I.stkSub b z) with q | q
  . exact absurd (zR e) (by rw[q];exact Nat.not_lt_of_le (zH _))
  . exact hb q
 refine⟨ea,t,C,od,H',B,rfl,os.trans I.os,bare,⟨fun b o e n hb _=>st b o (nl b o e n hb),fun b o e n hb _=>?_,fun b o e n _=>?_,fun b o e _=>?_,fun b xs e=>un.tups _ _ (I.base.tups _ _ e),fun b o u e=>un.frzs _ _ _ (I.base.frzs _ _ _ e),fun b ps e=>?_⟩,hok.stays fl.1.1 st tr,fl.step fl2 dk,tr,nl,na,imp _ _ _ hE⟩
 . obtain⟨sl,e1⟩:=I.base.slot b o e n hb (by intro z;cases z)
   have n1:=I.base.free b o e n (by intro z;cases z)
   obtain⟨sl2,e2⟩:=un.slot b _ e1 n1 (zX _ hb) (by intro z;cases z)
   obtain⟨_,o3,e3,nd⟩:=fl.1.2.2.1.mem (show b∈(envOfC qual scope s0.heap.objs.size f cd::outer).filterMap (·.frame) from zX _ hb)
   obtain⟨sl4,e4⟩:=up b _ e3 nd
   have e5:=zU (e3.symm.trans e2)
   rw[e5] at e4
   exact⟨sl4,e4⟩
 . exact un.free b _ (I.base.there b o e (by intro z;cases z)).choose_spec (I.base.free b o e n (by intro z;cases z)) (by intro z;cases z)
 . obtain⟨o1,e1⟩:=I.base.there b o e (by intro z;cases z)
   by_cases hb:b∈(envOfC qual scope s0.heap.objs.size f cd::outer).filterMap (·.frame)
   . obtain⟨_,o3,e3,nd⟩:=fl.1.2.2.1.mem hb
     obtain⟨sl4,e4⟩:=up b _ e3 nd
     exact⟨_,e4⟩
   . obtain⟨o3,e3⟩:=al b o1 e1 hb
     exact⟨_,st b o3 e3⟩
 . obtain⟨m1,e1⟩:=I.base.tbls _ _ e
   obtain⟨m2,e2⟩:=un.tbls _ _ e1
   exact⟨m1++m2,by rw[e2,Array.append_assoc]⟩
end
variable {P:Program}{w:World}
theorem passI {mg:sOV}{base:Heap}{N:List Str}{qual:Str}{scope:Scope}{f:Addr}{cd:Value}{outer:List Env}{s0:Shared}{H0:Hp}{E:XK}:zHg (CXI P w) (zGf (CXI P w) P w K mg base N qual scope f cd A outer s0 H0 E) E:=fun _ _ _ _ _ _ I h=>zMb I h fun _ _ _ z=>z
variable {x:Str}
theorem Fun.okI {mg:sOV}{base:Heap}{qual:Str}{st:Stmt}{f:Addr}{fd:FuncData}{N ps:List Str}{k:Nat}{sp:Sp}(F:Fun K x qual st f fd)(S:zAD N ps (defScope st))(len:∀vs H Q E,sp vs H Q E->vs.length=ps.length)
 (hbody:∀(cdv:Value)(A:Around)(outer:List Env)(s:Shared)(H:Hp)(vs:List V)(Q:VK)(E:XK),zC2 k (A.deeper (envOfC qual (defScope st) s.heap.objs.size f cdv))->sp vs H Q E ->
  ∃t,PSs (zGf (CXI P w) P w K mg base N qual (defScope st) f cdv A outer s H E) (defBody st) t/\t { nx:=fun _ H'=>Q .non H',rt:=Q } (start N vs) H):zAe P w K mg base (CXI P w) (k+1) f fd ps sp:=by
 obtain⟨oc,od,kV,doc,pm,an,cdv,ct,osl,rfl,lk,hcd⟩:=F.ex
 exact zNG lk hcd S len fun A outer s H vs Q E hr hsp=>hbody cdv A outer s H vs Q E hr hsp
noncomputable def zNC (e:Addr)(H:Hp):Hp:=fun b=>if b=e then none else H b
variable {H:Hp}
theorem zCP {b:Addr}(n:b≠e):zNC e H b=H b:=by unfold zNC;rw[if_neg n]
theorem zDE:zNC e H e=none:=by unfold zNC;rw[if_pos rfl]
section
variable {X:Cx}{pins:lPO}{σ:St}{H:Hp}{s:Shared}{e:Addr}{φ:Heap->Prop}
theorem Inv.drop (I:Inv X pins σ H s)(he:H e=some (.ext φ)):Inv X pins σ (zNC e H) s:=by
 have nt:∀b xs,H b=some (.tup xs)->b≠e:=fun b xs q z=>by rw[z,he] at q;cases q
 have no:∀b y,H b=some (.own y)->b≠e:=fun b y q z=>by rw[z,he] at q;cases q
 refine⟨I.ok,I.os,I.bare,⟨I.base.keep,I.base.slot,fun b o q n hx=>?_,I.base.there,fun b xs q=>by rw[zCP (nt b xs (I.base.tups b xs q))];exact I.base.tups b xs q,fun b o u q=>?_,fun b ps q=>?_⟩,I.loc,I.cell,?_,fun x c q=>?_,fun p hp=>?_,fun b o q=>?_,I.len⟩
 . by_cases z:b=e
   . subst z;exact zDE
   . rw[zCP z];exact I.base.free b o q n hx
 . have r:=I.base.frzs b o u q
   rw[zCP (fun z=>by rw[z,he] at r;cases r)];exact r
 . obtain⟨m,r⟩:=I.base.tbls b ps q
   exact⟨m,by rw[zCP (fun z=>by rw[z,he] at r;cases r)];exact r⟩
 . by_cases z:X.env.locals=e
   . rw[z];exact zDE
   . rw[zCP z];exact I.free
 . by_cases z:c=e
   . subst z;exact zDE
   . rw[zCP z];exact I.freeC x c q
 . obtain⟨a,b,r⟩:=I.pin p hp
   refine⟨a,?_,r⟩
   by_cases z:p.1=e
   . rw[z];exact zDE
   . rw[zCP z];exact b
 . have z:b≠e:=fun z=>by rw[z,zDE] at q;cases q
   rw[zCP z] at q
   exact (I.hok b o q).stay (fun _ _ _ r=>r) (fun c r=>by rw[zCP (no c _ r)];exact r) fun c xs r=>by rw[zCP (nt c xs r)];exact r
theorem zMT {E:vSP}{env:Env}{tt:Addr}{od:Option Addr}{y:Sem Value}{Q:Flow->Shared->Prop}(q:zKK K C=true)(hh:A.handled=none)
 (h:wpAny M A y (fun v s1=>∃e,v = .ref e/\K.In s1.heap/\(∃tt od,s1.heap.get? e=some (zE6 C tt od))/\E (.ref e) s1) E s):wpAny M A (raiseStmt env (some y) none) Q E s:=by
 unfold raiseStmt
 refine zB (zAP h (fun v s1 hv=>?_) fun _ _ z=>z)
 obtain⟨e,rfl,X1,⟨tt,od,he⟩,hE⟩:=hv
 obtain⟨bm,N,nm,qn,bs,sn,sub,ab,col,dd,k0,k1,k2,k3,k5,mN,hC,hN,T⟩:=zCk X1 q
 have hcB:(Value.ref C::bm).contains (.type "BaseException")=true:=by rw[List.contains_cons,T.hasType (X := "BaseException") (b:=true) (by rfl),Bool.or_true]
 obtain⟨hp,g,d,tk,os⟩:=s1
 have he':hp.get? e=some { cls:=.ref C,dict:=od,data:=.fields #[.ref tt,.none,.none,.none,.bool false,.none] }:=he
 repeat (first | with_reducible refine zAd he' ?_ | with_reducible refine zAd hC ?_ | (with_reducible refine wpAny_isSubtype_exc hC ?_;rw[hcB]) | wp_step)
 exact wpAny_raiseNew_none hh hE
theorem Inv.madeX {us:List Value}{vs:List V}(I:Inv X pins σ H s)(r:zBO vs us)(hz:vs.length<=sizeLine) :
 Inv X pins σ (upd (upd H s.heap.objs.size (.tup vs)) (s.heap.objs.size+1) (xO (s.heap.objs.size+1) C s.heap.objs.size none)) { s with heap:=zK5 s.heap C us }:=by
 have e1:(s.heap.push (xTup us)).get? s.heap.objs.size=some (xTup us):=Heap.get?_push_at rfl rfl
 have I1:=I.laid (a:=s.heap.objs.size) (o:=.tup vs) (h':=s.heap.push (xTup us)) (t':=s.toks) (fun b u q=>zI _ q) (zH _) ⟨⟨hz,_,e1,rfl⟩,us,r,⟨_,e1,rfl,_,rfl⟩⟩
 exact I1.laid (a:=s.heap.objs.size+1) (t':=s.toks) (h':=zK5 s.heap C us) (fun b u q=>zI _ q) (Nat.le_of_eq (zAi _ _)) (xO_ok (zLt s.heap C us))
noncomputable def zL4 (C:Addr)(f1 f2:Str)(t:TA)(E:XK):TS:=fun _ σ H=>t σ H fun vs H1=>∃v1 v2,vs=[v1,v2]/\∀tt dx,H1 tt=none->H1 dx=none->tt≠dx->E (.ref C) (some dx) (upd (upd H1 tt (.tup [v1,v2])) dx (dO dx [(f1,v1),(f2,v2)]))
theorem zDM {f1 f2:Str}{ps:List Str}{fI:Addr}{fd:FuncData}{k:Nat}{e1 e2:Expr}{t:TA}{E:XK}{np cpos pos:Pos}(hg:Gl X x)(hm:X.mg x=some (.ref C))(EI:zHh X.K C fI)(hc:X.calm=true)(F:zAe X.prog X.w X.K X.mg X.base CX0 k fI fd ps (spXI C f1 f2))(hr:zC2 (k+1) X.A)(hb:zDh X.K fd ps [])(ha:PA X [e1,e2] t)
 (hxe:∀(pins:lPO)(σ:St)(H:Hp)(s:Shared)(ea tt dx:Addr),Inv X pins σ H s->s.heap.get? ea=some (zE6 C tt (some dx))->H ea=none->X.s₀.heap.get? ea=none->E (.ref C) (some dx) H->X.xe (.ref ea) s)
 (hd:(x==("__debug__" : Str))=false:=by decide) (hs:starEach [e1,e2] X.env=(false,eval e1 X.env)::starEach [e2] X.env:=by rfl)(hpl:(backTo cpos (starEach [e2] X.env)).any (·.1)=false:=by rfl) :
 PS X (.Raise (some (.Call (.Name x np) [e1,e2] [] cpos)) none pos) (zL4 C f1 f2 t E):=by
 intro pins s σ H D I h
 rw[arm_exec_Raise]
 refine zB (wpAny_standAt ?_)
 show wpAny _ _ (raiseStmt X.env (some (do let v <-eval (.Call (.Name x np) [e1,e2] [] cpos) X.env;standAt pos;pure v)) none) _ _ _
 refine zMT (tt:=0) (od:=none) EI.cl (I.ok.hd hc) (zB (zAP (Q:=fun v s1=>∃e,v = .ref e/\X.K.In s1.heap/\(∃tt od,s1.heap.get? e=some (zE6 C tt od))/\X.xe (.ref e) s1) (E:=X.xe) ?main (fun v s3 h3=>zB (wpAny_standAt (zJ h3))) fun _ _ z=>z))
 case main=>
  refine zBL (zDa I hg hm ?_ hd)
  refine PySem.W.callWith_K (h₀:=X.base) I.ok.mod.kin EI.kp (zAP (ha cpos pins s σ H _ I h) (fun us s1 ⟨vs,H1,I1,r,q⟩=>⟨I1.kIn,?_⟩) fun _ _ z=>z) hs hpl
  obtain⟨v1,v2,rfl,q⟩:=q
  have hz:us.length<=sizeLine:=by rw[<-r.length];show 2<=sizeLine;decide
  have I2:=Inv.madeX (C:=C) I1 r (show 2<=sizeLine by decide)
  have r2:zBO (V.ref (s1.heap.objs.size+1)::[v1,v2]) (Value.ref (s1.heap.objs.size+1)::us):=.cons rfl r
  have n1:H1 s1.heap.objs.size=none:=I1.hok.fresh (zH _)
  have n2:H1 (s1.heap.objs.size+1)=none:=I1.hok.fresh (zA6 _)
  have s00:X.s₀.heap.get? (s1.heap.objs.size+1)=none:=Heap.get?_none_of_le (zx I1.sz (zA6 _))
  refine zJ3 (h:=s1.heap) I1.kIn EI hz ?_
  have ne:s1.heap.objs.size≠s1.heap.objs.size+1:=zc (Nat.lt_succ_self _)
  have hsp:spXI C f1 f2 (V.ref (s1.heap.objs.size+1)::[v1,v2]) (upd (upd H1 s1.heap.objs.size (.tup [v1,v2])) (s1.heap.objs.size+1) (xO (s1.heap.objs.size+1) C s1.heap.objs.size none))
   (fun v H2=>v = .non/\∃dx,H2 (s1.heap.objs.size+1)=some (xO (s1.heap.objs.size+1) C s1.heap.objs.size (some dx))/\E (.ref C) (some dx) (zNC (s1.heap.objs.size+1) H2)) (fun _ _ _=>False):=by
   refine⟨_,_,v1,v2,rfl,zG,fun dx hdx nd=>⟨rfl,dx,zG,?_⟩⟩
   rw[zf nd] at hdx
   have nt:s1.heap.objs.size≠dx:=fun z=>by rw[<-z,zG] at hdx;cases hdx
   have hdx1:H1 dx=none:=by rw[zf (Ne.symm nt)] at hdx;exact hdx
   have eq:zNC (s1.heap.objs.size+1) (upd (upd (upd (upd H1 s1.heap.objs.size (.tup [v1,v2])) (s1.heap.objs.size+1) (xO (s1.heap.objs.size+1) C s1.heap.objs.size none)) dx (dO dx [(f1,v1),(f2,v2)])) (s1.heap.objs.size+1) (xO (s1.heap.objs.size+1) C s1.heap.objs.size (some dx)))
    = upd (upd H1 s1.heap.objs.size (.tup [v1,v2])) dx (dO dx [(f1,v1),(f2,v2)]):=by
    funext b
    by_cases hb:b=s1.heap.objs.size+1
    . subst hb
      rw[zDE,zf (Ne.symm nd),zf (Ne.symm ne)];exact n2.symm
    . rw[zCP hb,zf hb]
      by_cases hb2:b=dx
      . subst hb2;rw[zG,zG]
      . rw[zf hb2,zf hb,zf hb2]
   rw[eq]
   exact q _ dx n1 hdx1 nt
  have hl:(Value.ref (s1.heap.objs.size+1)::us).length=ps.length:=by rw[<-r2.length];exact F.len _ _ _ _ hsp
  refine wpAny_call (codeAny_mono (F.run _ X.stack _ _ ⟨Value.ref (s1.heap.objs.size+1)::us,[]⟩ (Value.ref (s1.heap.objs.size+1)::us) _ _ (fun _ _ _=>False) (hr.make C us []) (I2.env0.make C us [])
   (by have:=hb _ (Value.ref (s1.heap.objs.size+1)::us) I2.kIn (by rw[zp];exact hl);rw[zp] at this;exact this) r2 hsp) fun r s' hq'=>?_)
  cases r with
  | error e=>exact False.elim hq'
  | ok fl=>
   cases fl with
   | ret u=>
    obtain⟨v,H',I3,rv,ev,dx,hx,hE⟩:=I2.after hq'
    subst ev
    refine⟨rv,_,rfl,I3.kIn,⟨_,_,(I3.hok _ _ hx).1⟩,?_⟩
    exact hxe pins σ _ s' _ _ dx (I3.drop hx) (I3.hok _ _ hx).1 zDE s00 hE
   | next=>exact False.elim hq'
   | brk=>exact False.elim hq'
   | cont=>exact False.elim hq'
end
section
variable {prog:Program}{w:World}{A:Around}{E:vSP}{h:Heap}{g:Array GenState}{d:Drawn}{t:Nat}{os:OsState}{K:PySem.W.Frag}{C x dx:Addr}{o:Obj}{name:Str}{v:Value}{mA:sOV}
theorem zJZ (X:K.In h)(q:zKK K C=true)(hx:h.get? x=some o)(hc:o.cls = .ref C)(hd:o.data = .fields vs)(hdn:o.dict=some dx)(hns:h.Ns1 dx mA)(nm:PySem.W.findIn K (.ref C) name=some none)(hv:mA name=some v)(hq:Q (.done (.ret v)) ⟨h,g,d,t,os⟩) :
 wpAny (model prog w) A (Builtin.«object.__getattribute__» ⟨[.ref x,.str name tk],[]⟩) Q E ⟨h,g,d,t,os⟩:=by
 obtain⟨bm,N,nmm,qn,bs,sn,sub,ab,col,dd,k0,k1,k2,k3,k5,mN,hC,hN,T⟩:=zCk X q
 have L:=PySem.W.looks_findIn (M:=model prog w) X nm
 unfold Builtin.«object.__getattribute__»
 repeat (first | (with_reducible refine zAd hx ?_;rw[hc]) | with_reducible refine zAd hC ?_ | with_reducible refine L.at ?_ | wp_step)
 rw[hd]
 have ns:h.Ns dx mA:=hns.ns
 show wpAny _ _ (instanceDict x false) _ _ _
 unfold instanceDict
 repeat (first | (with_reducible refine zAd hx ?_;rw[hc]) | with_reducible refine zAd hC ?_ | wp_step)
 rw[hdn]
 refine zJ ?_
 unfold Builtin.ObjectAttr.inDict
 refine wpAny_nsGet ns ?_
 rw[hv]
 repeat (any_goals (first | assumption | wp_step))
theorem zK7 {R:Result->Shared->Prop}(X:K.In h)(q:zKK K C=true)(F':zDF K C)(hx:h.get? x=some o)(hc:o.cls = .ref C)(hd:o.data = .fields vs)(hdn:o.dict=some dx)(hns:h.Ns1 dx mA)(nm:PySem.W.findIn K (.ref C) name=some none)(hv:mA name=some v)(hq:R (.ok (.ret v)) ⟨h,g,d,t,os⟩) :
 codeAny (model prog w) A (.call (.builtin "BaseException.__getattribute__") ⟨[.ref x,.str name tk],[]⟩) R ⟨h,g,d,t,os⟩:=
 codeAny_call_builtin PySem.F.attrBase_ValueError.ga.plain PySem.F.entry_bexc_ga (zGE X ⟨o,hx,hc⟩ F' (zJZ X q hx hc hd hdn hns nm hv hq))
theorem get_by {fill b:Bool}{Q:vSP}(X:K.In h)(q:zKK K C=true)(F':zDF K C)(hx:h.get? x=some o)(hc:o.cls = .ref C)(hd:o.data = .fields vs)(hdn:o.dict=some dx)(hns:h.Ns1 dx mA)(nm:PySem.W.findIn K (.ref C) name=some none)(hv:mA name=some v)(hh:PySem.W.handedIn v=true)(hq:Q v ⟨h,g,d,t,os⟩) :
 wpAny (model prog w) A (getAttrBy (.ref x) (.str name tk) fill b) Q E ⟨h,g,d,t,os⟩:=by
 have L0:=(show zDf h x C from ⟨o,hx,hc⟩).type (M:=model prog w)
 have L1:=PySem.W.looks_findIn (M:=model prog w) X F'.ga
 have L2:=PySem.W.looks_findIn (M:=model prog w) X F'.gn
 have f3:=PySem.F.attrBase_ValueError.ga.bind (.ref x)
 have hx2:(Value.builtin "BaseException.__getattribute__" == Value.builtin "object.__getattribute__")=false:=by decide +kernel
 have hx0:(b && onTheHeap (Value.builtin "BaseException.__getattribute__"))=false:=by cases b <;> rfl
 have hx1:(onTheHeap (Value.ref C) && Value.builtin "BaseException.__getattribute__" == Value.builtin "object.__getattribute__")=false:=by rw[hx2];rfl
 repeat (any_goals (first | assumption | with_reducible refine L0.at ?_ | with_reducible refine L1.at ?_ | with_reducible refine L2.at ?_ | wp_step))
 refine zK7 X q F' hx hc hd hdn hns nm hv ?_
 show wpAny _ _ (handedOut v) _ _ _
 exact PySem.W.handed_on hh hq
theorem get_x {b:Bool}{Q:vSP}(X:K.In h)(q:zKK K C=true)(F':zDF K C)(hx:h.get? x=some o)(hc:o.cls = .ref C)(hd:o.data = .fields vs)(hdn:o.dict=some dx)(hns:h.Ns1 dx mA)(nm:PySem.W.findIn K (.ref C) name=some none)(hv:mA name=some v)(hh:PySem.W.handedIn v=true)(hq:∀tk,Q v ⟨h,g,d,tk,os⟩) :
 wpAny (model prog w) A (getAttr (.ref x) name b) Q E ⟨h,g,d,t,os⟩:=by
 unfold getAttr
 repeat (any_goals (first | assumption | exact hq _ | with_reducible refine get_by X q F' hx hc hd hdn hns nm hv hh ?_ | wp_step))
end
structure HeldD (X:Cx)(ea C dx:Addr):Prop where
 pin:∃oe vs,(ea,oe)∈X.pn/\oe.cls = .ref C/\oe.dict=some dx/\oe.data = .fields vs
noncomputable def tFldE (X:Cx)(ta:TE)(f:Str):TE:=fun σ H Q=>ta σ H fun x H1=>∃ea C dx fs v,x = .ref ea/\HeldD X ea C dx/\zKK X.K C=true/\zDF X.K C/\PySem.W.findIn X.K (.ref C) f=some none/\H1 dx=some (dO dx fs)/\fs.lookup f=some v/\Q v H1
theorem zIz {X:Cx}{e:Expr}{f:Str}{ta:TE}{pos:Pos}(he:PE X e ta)(hb:attributeBase e f X.env (eval e X.env)=eval e X.env:=by rfl):PE X (.Attribute e f pos) (tFldE X ta f):=by
 intro pins s σ H Q I h
 refine zNP hb (thn (he pins s σ H _ I h) fun u s1 ⟨x,H1,I1,rx,ea,C,dx,fs,v,ex,⟨⟨oe,vs,hp,hc,hdn,hd⟩⟩,q,F',nm,hdx,hl,hq⟩=>?_)
 subst ex
 obtain rfl:u=Value.ref ea:=rx
 obtain⟨e1,_⟩:=I1.pin (ea,oe) (zAk _ hp)
 obtain⟨mA,hns,r,wi⟩:=(I1.hok dx _ hdx).1
 obtain⟨u,hu,ru⟩:=zE5.some_of (v:=v) (o:=mA f) (by rw[<-hl];exact r f)
 obtain⟨hp',g,d,tk,os⟩:=s1
 exact get_x I1.kIn q F' e1 hc hd hdn hns nm hu (zJY ru) fun tk'=>⟨v,H1,I1.tok tk',ru,hq⟩
noncomputable def zDC (e:Addr)(od:Option Addr)(h:Heap):Prop:=∃o,h.get? e=some o/\o.dict=od
theorem zDC.step {od:Option Addr}(x:zDC e od h)(k:DK h h'):zDC e od h':=by
 obtain⟨o,q,r⟩:=x
 obtain⟨o',q',r'⟩:=k e o q
 exact⟨o',q',r'.trans r⟩
section
variable {M:Model}{A:Around}{E:vSP}{s:Shared}{base:Heap}{env:Env}{outer l:List Env}{L e:Addr}{cls a0:Value}{od:Option Addr}{Q:Unit->Shared->Prop}
theorem zJF (hfr:A.frames=some (env::outer))(hf:env.frame=some L)(hfl:Heap.FlyingW base (env::outer) e cls a0 s.heap)(hd:zDC e od s.heap)
 (hQ:∀h',Heap.HeldW base (env::outer) e cls a0 L h'->s.heap.UpToSlots h'->zDC e od h'->Q () { s with heap:=h' }):wpAny M A (noteFrame (.ref e) env) Q E s:=by
 refine zAP (zDG (zJN _ _) (wpAny_looks_onW (Q:=fun _ s2=>∃h',s2={ s with heap:=h' }/\Heap.HeldW base (env::outer) e cls a0 L h'/\s.heap.UpToSlots h') hfr hf hfl fun h' a b=>⟨h',rfl,a,b⟩)) (fun _ s2 hq=>?_) fun _ _ z=>z
 obtain⟨⟨h',rfl,a,b⟩,k⟩:=hq
 exact hQ h' a b (hd.step k)
theorem landsD (hh:Heap.HeldW base l e cls a0 L s.heap)(hd:zDC e od s.heap)
 (hQ:∀h',Heap.FlyingW base l e cls a0 h'->s.heap.UpToSlots h'->zDC e od h'->Q () { s with heap:=h' }):wpAny M A (setFlight (.ref e) none) Q E s:=by
 refine zAP (zDG (zCx _ _) (wpAny_landsW (Q:=fun _ s2=>∃h',s2={ s with heap:=h' }/\Heap.FlyingW base l e cls a0 h'/\s.heap.UpToSlots h') hh fun h' a b=>⟨h',rfl,a,b⟩)) (fun _ s2 hq=>?_) fun _ _ z=>z
 obtain⟨⟨h',rfl,a,b⟩,k⟩:=hq
 exact hQ h' a b (hd.step k)
theorem againD (hh:Heap.FlyingW base l e cls a0 s.heap)(hd:zDC e od s.heap)
 (hQ:∀h',Heap.FlyingW base l e cls a0 h'->s.heap.UpToSlots h'->zDC e od h'->Q () { s with heap:=h' }):wpAny M A (setFlight (.ref e) none) Q E s:=by
 refine zAP (zDG (zCx _ _) (lands_againW (Q:=fun _ s2=>∃h',s2={ s with heap:=h' }/\Heap.FlyingW base l e cls a0 h'/\s.heap.UpToSlots h') hh fun h' a b=>⟨h',rfl,a,b⟩)) (fun _ s2 hq=>?_) fun _ _ z=>z
 obtain⟨⟨h',rfl,a,b⟩,k⟩:=hq
 exact hQ h' a b (hd.step k)
end
noncomputable def zNH (K:PySem.W.Frag)(C:Addr):Bool:=zKK K C || PySem.W.excIn K C bmV "ValueError.__new__"
theorem zLF (X:K.In h)(q:zNH K C=true) :
 ∃bm N nm qn bs hdct sn sub ab col dd k0 k1 k2 k3 k5,h.get? C=some (excClassObj nm qn C N bs bm hdct sn sub ab col dd k0 k1 k2 k3 k5 "ValueError.__new__"):=by
 unfold zNH at q
 rcases Bool.or_eq_true _ _ ▸ q with q | q
 . obtain⟨bm,N,nm,qn,bs,sn,sub,ab,col,dd,k0,k1,k2,k3,k5,mN,hC,_⟩:=zCk X q
   exact⟨_,_,_,_,_,_,_,_,_,_,_,_,_,_,_,_,hC⟩
 . obtain⟨bm,N,nm,qn,bs,hdct,sn,sub,ab,col,dd,k0,k1,k2,k3,k5,mN,hC,_⟩:=zGx X q
   exact⟨_,_,_,_,_,_,_,_,_,_,_,_,_,_,_,_,hC⟩
noncomputable def EHI (K:PySem.W.Frag)(W:Addr)(ts:Addr->Obj->Addr->TS)(i:Nat)(D:zIL)(σ:St):XK:=fun C od H'=>∃Ca,C = .ref Ca/\zNH K Ca=true/\subIn K Ca W=true/\∀ea oe vs,oe.cls = .ref Ca->oe.dict=od->oe.data = .fields vs->H' ea=none->ts ea oe Ca (endsH i D) (σ.set i (some (.ref ea))) H'
noncomputable def tTryI (K:PySem.W.Frag)(W:Addr)(tb:XK->TS)(ts:Addr->Obj->Addr->TS)(i:Nat):TS:=fun D σ H=>tb (EHI K W ts i D σ) D σ H
noncomputable def PXI (X:Cx)(body:List Stmt)(tb:XK->TS):Prop:=∀(pins:lPO)(s:Shared)(σ:St)(H:Hp)(D:zIL)(E1:XK),Inv X pins σ H s->tb E1 D σ H ->
 wpAny (model X.prog X.w) X.A (execs body X.env) (SP X pins D) (fun e s'=>∃H1 s1,Inv X pins σ H1 s1/\CXI X.prog X.w X.stack H1 s1 E1 e s') s
theorem zMW {X:Cx}{body:List Stmt}{n:Str}{i:Nat}{b0:Stmt}{suite:List Stmt}{pos hpos np:Pos}{W:Addr}{tb:XK->TS}{ts:Addr->Obj->Addr->TS}(hN:X.N.Nodup)(hi:X.N[i]? = some n)(hk:X.env.kindOf n=some .local)
 (hst:X.stack=X.env::X.outer)(hfl:X.env.frame=some X.env.locals)(hg:Gl X x)(hm:X.mg x=some (.ref W))(qW:PySem.W.excIn X.K W bmV "ValueError.__new__" = true)
 (hb:PXI X body tb)(hs:∀(ea:Addr)(oe:Obj)(C:Addr),oe.cls = .ref C->PSs (X.held ea oe) (b0::suite) (ts ea oe C))(hd:(x==("__debug__" : Str))=false:=by decide) :
 PS X (.Try body [.ExceptHandler (some (.Name x np)) (some n) (b0::suite) hpos] [] [] pos) (tTryI X.K W tb ts i):=by
 intro pins s σ H D I h
 refine wpAny_Try_except (zAP (hb pins s σ H D _ I h) (fun fl s' hq=>?_) fun e s' hq=>?_)
 . cases fl with
   | next=>exact wpAny_execs_nil hq
   | brk=>exact hq
   | cont=>exact hq
   | ret u=>exact hq
 . obtain⟨H1,s1,I1,ea,t,C,od,H',B,rfl,os,bare,un,hok,⟨fl,fd⟩,tr,old,al,Ca,rfl,qC,sub,hts⟩:=hq
   have hfr:X.A.frames=some (X.env::X.outer):=by rw[<-hst];exact I.ok.frames
   have fl':=fl
   rw[hst] at fl'
   have hHe:H' ea=none:=by
    cases z:H' ea with
    | none=>rfl
    | some u=>
     obtain⟨o,ho⟩:=tr ea u z
     rw[fl.2.1] at ho;cases ho
   refine zJF hfr hfl fl' fd fun h4 held up4 d4=>?_
   refine landsD held d4 fun h5 fl5 up5 d5=>?_
   have key:∀(h6:Heap),Heap.FlyingW B (X.env::X.outer) ea (.ref Ca) (.ref t) h6->s'.heap.UpToSlots h6->zDC ea od h6->∃oe vs,h6.get? ea=some oe/\oe.cls = .ref Ca/\oe.dict=od/\oe.data = .fields vs/\Inv (X.held ea oe) pins σ H' { s' with heap:=h6 }:=fun h6 fl6 up6 d6=>by
    obtain⟨oe,ws,hoe,hc,hdt,_⟩:=fl6.first
    have hdi:oe.dict=od:=by
     obtain⟨o2,q2,r2⟩:=d6
     rw[hoe] at q2;cases q2;exact r2
    have un6:Un (frs X.stack) [] H1 H' s1.heap h6:=zJJ un fl old al fl6.1 up6
    have I6:Inv X pins σ H' { s' with heap:=h6 }:=I1.call' (s':={ s' with heap:=h6 }) os un6 (hok.stays fl.1 fl6.1 tr) bare (fun b z=>absurd z (by simp))
    have nfr:ea∉frs X.stack:=fun z=>by
     rw[hst] at z
     obtain⟨_,o,ho,nd⟩:=fl6.2.2.1.mem z
     rw[hoe] at ho
     cases ho
     exact nd ws hdt
    have hfs:frs X.stack=X.env.locals::X.fs:=by
     rw[hst]
     unfold frs
     rw[List.filterMap_cons,hfl]
     rfl
    rw[hfs] at nfr
    exact⟨oe,ws,hoe,hc,hdi,hdt,I6.hold hoe hHe (fun z=>nfr (z ▸ zh)) (fun z=>nfr (zX _ z)) (fun v z=>by rw[hdt] at z;cases z)⟩
   obtain⟨oe5,ws5,hoe5,hc5,_,_,I5⟩:=key h5 fl5 (up4.trans up5) d5
   refine wpAny_handleBy_cons (codeAny_handlers_test (zDa (X:=X.held ea oe5) I5 hg hm ?_ hd)) (by intro q;cases q)
   obtain⟨bm,Nn,nm,qn,bs,hdct,sn,sb,ab,col,dd,k0,k1,k2,k3,k5,hC⟩:=zLF I5.kIn qC
   obtain⟨bm',Nn',nm',qn',bs',hdct',sn',sb',ab',col',dd',k0',k1',k2',k3',k5',mN',hW,_,_,TW⟩:=zGx I5.kIn qW
   refine zH0 hC hW hoe5 hc5 (TW.hasType (by rfl)) (sub_of I5.kIn sub hC) ?_
   refine codeAny_handlers_suite_as (againD fl5 d5 fun h6 fl6 up6 d6=>?_)
   obtain⟨oe6,ws6,hoe6,hc6,hd6,hf6,I6⟩:=key h6 fl6 ((up4.trans up5).trans up6) d6
   refine zCf (X:=X.held ea oe6) I6 hN hi (.inl hk) (v:=.ref ea) rfl (fun s7 I7=>?_) (.inr hk)
   refine zAP (hs ea oe6 Ca hc6 pins s7 _ H' (endsH i D) I7 (hts ea oe6 ws6 hc6 hd6 hf6 hHe)) (fun f s8 hq=>?_) fun _ _ z=>z.elim
   have fin:∀{σ':St}{H2:Hp}{Q:Unit->Shared->Prop},Inv (X.held ea oe6) pins σ' H2 s8->(∀s9,Inv X pins (σ'.set i none) H2 s9->Q () s9)->wpAny (model X.prog X.w) X.A (do bindName X.env n .none;unbindBehindTheSuite X.env n hpos) Q X.xe s8:=fun {σ' H2 Q} J hQ=>by
    have J1:=Inv.letgo I.ok J
    have hiσ:i<σ'.length:=by rw[J1.len];exact (zK.mp hi).1
    refine zB (wpAny_bindName (zCf J1 hN hi (.inl hk) (v:=.non) rfl (fun s9 J2=>?_) (.inr hk)))
    unfold unbindBehindTheSuite
    refine wpAny_onRaise (zIP J2 hN hi hk (v:=.non) (zBY hiσ) fun s10 J3=>?_)
    rw[List.set_set] at J3
    exact hQ s10 J3
   cases f with
   | next=>
    obtain⟨σ',H2,J,q⟩:=hq
    exact fin J fun s9 J9=>⟨_,H2,J9,q⟩
   | brk=>
    obtain⟨σ',H2,J,q⟩:=hq
    exact fin J fun s9 J9=>⟨_,H2,J9,q⟩
   | cont=>
    obtain⟨σ',H2,J,q⟩:=hq
    exact fin J fun s9 J9=>⟨_,H2,J9,q⟩
   | ret u=>
    obtain⟨v,σ',H2,J,r,q⟩:=hq
    exact fin J fun s9 J9=>⟨v,_,H2,J9,r,q⟩
variable {σ:St}
section
variable {X:Cx}{k:Nat}{f:Addr}{fd:FuncData}{ps:List Str}{sp:Sp}{x:Str}{p pos epos:Pos}{e:Expr}{es:List Expr}{t:TA}
theorem zNM {pins:lPO}{Q:VK}{E1:XK}(F:zAe X.prog X.w X.K X.mg X.base (CXI X.prog X.w) k f fd ps sp)(hr:zC2 k X.A)(hg:Gl X x)(hm:X.mg x=some (.ref f))(hk:PySem.W.keepIn X.K (.ref f)=true)(hb:zDh X.K fd ps [])
 (ha:PA X.nox (e::es) t)(I:Inv X pins σ H s)(h:t σ H fun vs H1=>sp vs H1 Q E1)(hdb:(x==("__debug__" : Str))=false:=by decide) (he:starEach (e::es) X.env=(false,eval e X.env)::starEach es X.env:=by rfl)(hpl:(backTo pos (starEach es X.env)).any (·.1)=false:=by rfl) :
 wpAny (model X.prog X.w) X.A (eval (.Call (.Name x p) (e::es) [] pos) X.env) (EP X pins σ Q) (fun e s'=>∃H1 s1,Inv X pins σ H1 s1/\CXI X.prog X.w X.stack H1 s1 E1 e s') s:=by
 refine zBL (zDa I hg hm ?_ hdb)
 refine PySem.W.callWith_K (h₀:=X.base) I.ok.mod.kin hk (zAP (ha pos pins s σ H _ (I.wish _) h) (fun us s1 ⟨vs,H1,I1,r,q⟩=>⟨I1.unwish.kIn,?_⟩) fun _ _ z=>False.elim z) he hpl
 have I2:=I1.unwish
 have hl:us.length=ps.length:=by rw[<-r.length];exact F.len _ _ _ _ q
 refine wpAny_call (codeAny_mono (F.run X.A X.stack s1 H1 ⟨us,[]⟩ us vs Q E1 hr I2.env0 (by have:=hb s1 us I2.kIn (by rw[zp];exact hl);rw[zp] at this;exact this) r q) fun r s' hq=>?_)
 cases r with
 | error e=>exact⟨H1,s1,I2,hq⟩
 | ok fl=>
  cases fl with
  | ret u=>exact I2.after hq
  | next=>exact False.elim hq
  | brk=>exact False.elim hq
  | cont=>exact False.elim hq
end
section
variable {X:Cx}{k:Nat}{f:Addr}{fd:FuncData}{ps:List Str}{sp:Addr->Addr->Sp}{x:Str}{p pos:Pos}{e:Expr}{es:List Expr}{t:TA}{ea:Addr}{oe:Obj}
theorem zJX (h:oe.cls = .ref C)(h1:oe.dict=some dx)(h2:oe.data = .fields vs):HeldD (X.held ea oe) ea C dx:=⟨⟨oe,vs,zh,h,h1,h2⟩⟩
end
section
variable {X:Cx}{k:Nat}{f:Addr}{fd:FuncData}{ps:List Str}{sp:Sp}{x y:Str}{p pos epos pos':Pos}{e:Expr}{es:List Expr}{t:TA}{i:Nat}
theorem zMV (hN:X.N.Nodup)(hi:X.N[i]? = some y)(hx:Loc X.env.scope y)(F:zAe X.prog X.w X.K X.mg X.base (CXI X.prog X.w) k f fd ps sp)(hr:zC2 k X.A)(hg:Gl X x)(hm:X.mg x=some (.ref f))(hk:PySem.W.keepIn X.K (.ref f)=true)(hb:zDh X.K fd ps [])
 (ha:PA X.nox (e::es) t)(hs:swapsWith (.Call (.Name x p) (e::es) [] pos) (some (.Name y pos')) epos.line X.env=pure false:=by rfl)(hf:X.fn y=true\/X.env.scope.names.lookup y=some .local:=by first | exact .inl rfl | exact .inr rfl | assumption)(hdb:(x==("__debug__" : Str))=false:=by decide) (he:starEach (e::es) X.env=(false,eval e X.env)::starEach es X.env:=by rfl)(hpl:(backTo pos (starEach es X.env)).any (·.1)=false:=by rfl) :
 PXI X [.Assign [.Name y pos'] (.Call (.Name x p) (e::es) [] pos) epos] (fun E1 D σ H=>t σ H fun vs H1=>sp vs H1 (fun v H2=>D.nx (σ.set i (some v)) H2) E1):=by
 intro pins s σ H D E1 I h
 refine wpAny_execs_cons (wpAny_Assign_Name (zAP (zNM F hr hg hm hk hb ha I h hdb he hpl) (fun v s1 ⟨z,H1,I1,r1,q1⟩=>?_) fun _ _ z=>z) hs)
 exact zCf I1 hN hi hx r1 (fun s2 I2=>wpAny_execs_nil ⟨_,H1,I2,q1⟩) hf
end
noncomputable def Itd (lo:Int)(n:Nat):It:=⟨fun i _=>i<n,fun i H x H'=>H'=H/\x = .int (lo-i),fun i _=>n<=i⟩
theorem zIR {tg:Expr}(it:Addr)(lo:Int)(n:Nat):Turn P w K tg (Itd lo n) [it] it (fun i h=>IsRangeIter h it (lo+(i:Nat)*(-1)) ((n:Int)-(i:Nat)) (-1)) where
 mem:=by simp
 obj:=fun i h st b hb=>by
  have e:b=it:=by simpa using hb
  subst e
  exact⟨_,st,fun v z=>by
   have z':Data.fields _=Data.cell v:=z
   cases z'⟩
 keep:=fun i h h' st k=>k it (by simp) _ st
 item:=by
  intro X hP hw hK hc i pins s σ H E I hf st hg
  subst hP hw hK
  obtain⟨f0,f1,f2,f3,f4,f5⟩:=hf it (by simp)
  have W:=Walks.range (prog:=X.prog) (w:=X.w) (I.ok.hd hc) it lo (-1) n
  refine W.item i s _ _ hg st fun v h' tk hv st' kk=>?_
  obtain⟨t,rfl⟩:=hv
  have I1:Inv X pins σ H { s with heap:=h',toks:=tk }:=I.turned (fun b o hb e=>kk b o (by simpa using hb) e) f0 f1 f3 f4 f5
  refine⟨_,rfl,zK6 (s:={ s with heap:=h',toks:=tk }) (n := "range_iterator") st' rfl rfl (by decide) ⟨.int (lo-i),H,I1,⟨t,?_⟩,⟨rfl,rfl⟩,st',fun b hb=>(hf b hb).1⟩⟩
  rw[show lo+(i:Int)*(-1)=lo-i by omega]
 done:=by
  intro X hP hw hK hc i pins s σ H E I hf st hg
  subst hP hw hK
  obtain⟨f0,f1,f2,f3,f4,f5⟩:=hf it (by simp)
  exact wpAny_pyNext_range_end (I.ok.hd hc) st (by have:n<=i:=hg;omega) fun h' eb=>⟨rfl,I.turned (t':=s.toks) (fun b o hb e=>eb b o hb e) f0 f1 f3 f4 f5⟩
 self:=fun _ _ _ _ _ st h=>wpAny_pyIter_rangeiter st h
section
variable {X:Cx}{tg:Expr}
theorem zHt {pins:lPO}{R:It->Hp->Prop}{E:vSP}{lo hi:Int}{t u v:Tok}{tk:Nat}(I:Inv X pins σ H s)(h1 : -(2 ^ 62)<=lo)(h2:lo<2 ^ 62)(h3 : -(2 ^ 62)<=hi)(h4:hi<2 ^ 62)
 (q:R (Itd lo (lo-hi).toNat) H):wpAny (model X.prog X.w) X.A (pyIter (.ref s.heap.objs.size)) (PIE X pins σ tg R) E { s with heap:=s.heap.push { cls:=.type "range",data:=.fields #[.int lo t,.int hi u,.int (-1) v] },toks:=tk }:=by
 refine wpAny_pyIter_range (IsRange.new ..) (PySem.W.small_down h1 h2 h3 h4) ?_
 have I1:Inv X pins σ H { s with heap:=s.heap.push { cls:=.type "range",data:=.fields #[.int lo t,.int hi u,.int (-1) v] },toks:=tk }:=I.kept fun b o e=>zI _ e
 refine⟨(s.heap.push { cls:=.type "range",data:=.fields #[.int lo t,.int hi u,.int (-1) v] }).objs.size,[(s.heap.push { cls:=.type "range",data:=.fields #[.int lo t,.int hi u,.int (-1) v] }).objs.size],_,_,H,rfl,
  I1.kept (t':=tk) fun b o e=>zI _ e,zIR _ lo (lo-hi).toNat,?_,fun b hb=>?_,q⟩
 . have e1:lo+((0:Nat):Int)*(-1)=lo:=by simp
   have e2:(((lo-hi).toNat:Nat):Int)-((0:Nat):Int)=Builtin.Range.rangeSize lo hi (-1):=by rw[PySem.W.rangeSize_downNat];omega
   show IsRangeIter _ _ (lo+((0:Nat):Int)*(-1)) ((((lo-hi).toNat:Nat):Int)-((0:Nat):Int)) (-1)
   rw[e1,e2]
   exact zW _ rfl
 . have e:b=(s.heap.push { cls:=.type "range",data:=.fields #[.int lo t,.int hi u,.int (-1) v] }).objs.size:=by simpa using hb
   subst e
   exact I1.fpOk (zH _) (I1.hok.fresh (zH _))
noncomputable def iRngD (ta:TA):TI:=fun σ H R=>ta σ H fun vs H1=>∃i j:Int,vs=[.int i,.int j,.int (-1)]/\(-(2 ^ 40)<=i/\i<2 ^ 40 /\ -(2 ^ 40)<=j/\j<2 ^ 40)/\R (Itd i (i-j).toNat) H1
theorem zIw {a b c:Expr}{ta:TA}{p pos:Pos}(hg:Gl X "range") (hm:X.mg "range" = none) (ha:PA X [a,b,c] ta)(hs:starEach [a,b,c] X.env=(false,eval a X.env)::starEach [b,c] X.env:=by rfl)(hs2:(backTo pos (starEach [b,c] X.env)).any (·.1)=false:=by rfl) :
 PI X tg (.Call (.Name "range" p) [a,b,c] [] pos) (iRngD ta):=by
 intro pins s σ H R I h
 refine Call_ (zCw I hg hm boot_range (PyProof.Rows.callWith_type1 (thn (ha pos pins s σ H _ I h) fun us s1 ⟨vs,H1,I1,r1,q1⟩=>?_) hs hs2))
 obtain⟨i,j,e,⟨q1,q2,q3,q4⟩,q⟩:=q1
 subst e
 cases r1 with
 | cons r rr=>
  cases rr with
  | cons r' rr=>
   cases rr with
   | cons r'' rr=>
    cases rr
    obtain⟨t,rfl⟩:=r
    obtain⟨t',rfl⟩:=r'
    obtain⟨t'',rfl⟩:=r''
    exact call_range_3 (by decide) (zHt I1 (by omega) (by omega) (by omega) (by omega) q) (Or.inl (PyProof.noPylong_small (by omega)))
end
theorem zK9 {lo:Int}{n:Nat}{g:TG}{tb:TS}{D:zIL}(Pv:Nat->St->Hp->Prop)(h0:Pv 0 σ H)
 (hs:∀i σ H,i<n->Pv i σ H->g (.int (lo-i)) σ H fun σ2 H2=>tb { D with nx:=Pv (i+1),ct:=Pv (i+1),bk:=D.nx } σ2 H2)(hd:∀ σ H,Pv n σ H->D.nx σ H) :
 ∃W:Nat->Nat->St->Hp->Prop,(∃m,W 0 m σ H)/\∀i m σ H,W i m σ H ->
  ((Itd lo n).stop i H/\D.nx σ H)\/((Itd lo n).go i H/\∃N:St->Hp->Prop,(∀ σ' H',N σ' H'->∃m',m'<m/\W (i+1) m' σ' H')/\∀x H',(Itd lo n).yld i H x H'->g x σ H' fun σ2 H2=>tb { D with nx:=N,ct:=N,bk:=D.nx } σ2 H2):=by
 refine⟨fun i m σ H=>m=n-i/\i<=n/\Pv i σ H,⟨n,by simp,zi _,h0⟩,?_⟩
 rintro i m σ H ⟨rfl,hi,p⟩
 by_cases hlt:i<n
 . refine .inr ⟨hlt,Pv (i+1),fun σ' H' p'=>⟨n-(i+1),by omega,rfl,hlt,p'⟩,fun x H' y=>?_⟩
   obtain⟨e,y⟩:=y
   subst e y
   exact hs i σ _ hlt p
 . have e:i=n:=by omega
   subst e
   exact .inl ⟨zH _,hd σ H p⟩
end L2
namespace L2
open PySem PyProof.Rows
section
variable {X:Cx}
theorem zJ1 (hc:X.calm=true):zCS X (.builtin "min") (fun xs H Q=>∃(p:Addr)(ns:List Int),xs=[.ref p]/\SqL X.K H p (ns.map V.int)/\ns≠[]/\∀M,M∈ns->(∀a∈ns,M<=a)->Q (.int M) H):=by
 intro pins s σ H xs us Q I r h
 obtain⟨p,ns,rfl,hq,hne,q⟩:=h
 obtain⟨u,rfl,rx⟩:=zCq r
 cases rx
 obtain⟨its,rv,pl,hz⟩:=I.list hq
 have hi:=zBS rv
 have hil:=hi.length
 have hlp:p<s.heap.objs.size:=by
  obtain⟨o,_,ho,_⟩:=pl
  exact zR ho
 have hpos:0<ns.length:=List.length_pos_iff.mpr hne
 refine call_min_walk (wpAny_pyIter_list pl.isList ⟨s.heap.objs.size,[s.heap.objs.size,p],[s.heap.objs.size],its.toArray.size,_,_,fun i j=>decide (ns.getD i 0<ns.getD j 0),rfl,Walks.list (A:=X.A.in1) (I.ok.hd hc) s.heap.objs.size p (zc hlp) its.toArray,⟨?_,?_⟩,?_,by simpa [hil] using hpos,?_,fun v h' tk hv kp=>?_⟩)
 . exact⟨_,zW _ rfl,rfl,rfl⟩
 . obtain⟨o,ho,hr⟩:=pl.isList
   exact⟨o,zI _ ho,hr⟩
 . intro b hb
   rw[zAi]
   rcases zY.mp hb with rfl | hb
   . exact Nat.lt_succ_self _
   . rw[zj.mp hb];exact zAh hlp
 . intro i j vi vj s' Q' E' hvi hvj q'
   have hvi':its[i]? = some vi:=by simpa using hvi
   have hvj':its[j]? = some vj:=by simpa using hvj
   obtain⟨t1,rfl⟩:=hi.int_at i vi hvi'
   obtain⟨t2,rfl⟩:=hi.int_at j vj hvj'
   exact PyProof.Rows.lt_int q'
 . obtain⟨b1,b2⟩:=argBest_lt (fun i=>ns.getD i 0) (its.toArray.size-1)
   have hv':its[argBest (fun i j=>decide (ns.getD i 0<ns.getD j 0)) (its.toArray.size-1)]? = some v:=by simpa using hv
   generalize eb:argBest (fun i j=>decide (ns.getD i 0<ns.getD j 0)) (its.toArray.size-1)=bi at hv' b1 b2
   obtain⟨t,rfl⟩:=hi.int_at bi v hv'
   have hlt:bi<ns.length:=by have:=(zK.mp hv').1;omega
   have hK:Kp s h':=fun b o e=>kp b o (fun z=>absurd (zj.mp z) (zc (zR e))) (zI _ e)
   refine⟨.int (ns.getD bi 0),H,I.kept hK,⟨t,rfl⟩,q _ ?_ fun m hm=>?_⟩
   . rw[zC,zA hlt];exact zAq hlt
   . obtain⟨j,hj,ej⟩:=zy hm
     have:=b2 j (by rw[zQ];omega)
     have g1:ns.getD j 0=m:=by rw[zC,zA hj,ej];rfl
     rw[g1] at this
     exact this
end
end L2
namespace L2
open PySem PySem.Spec PyProof.Rows
section
variable {X:Cx}
noncomputable def rEqTE (K:PySem.W.Frag):R2:=fun x y H Q=>∃(a b:Addr)(xs:List V),x = .ref a/\y = .ref b/\SqT K H a xs/\SqT K H b []/\Q (.bl xs.isEmpty) H
theorem zMf (hu:X.A.units<cLine):OpR X (compareOp .Eq) (rEqTE X.K):=by
 intro pins s σ H x y v u Q I rx ry h
 obtain⟨a,b,xs,rfl,rfl,ha,hb,q⟩:=h
 cases rx
 cases ry
 obtain⟨its,r,pl,hz⟩:=I.tuple ha
 obtain⟨its2,r2,pl2,hz2⟩:=I.tuple hb
 have l1:=r.length
 have e2:its2=[]:=by cases r2;rfl
 subst e2
 refine SeqAt.eq_tupleAt (e:=fun _=>true) pl pl2 hu (fun j _ h2=>absurd h2 (by simp)) ⟨.bl _,H,I,rfl,?_⟩
 have e:((List.range (min its.toArray.size ([]:List Value).toArray.size)).all (fun _=>true) && its.toArray.size==([]:List Value).toArray.size)=xs.isEmpty:=by
  cases xs with
  | nil=>cases r;rfl
  | cons x xs=>cases r;simp
 rw[e]
 exact q
end
end L2
namespace L2
open PySem PySem.Spec PyProof.Rows
structure FuB (K:PySem.W.Frag)(mg:sOV)(x:Str)(st:Stmt)(f:Addr)(fd:FuncData)(ps:List Str):Prop where
 F:Fun K x x st f fd
 b:zDh K fd ps []
 m:mg x=some (.ref f)
variable {X:Cx}{x:Str}{pos:Pos}
theorem zAa {st:Stmt}{f:Addr}{fd:FuncData}{ps:List Str}{sp:Sp}{k:Nat}{e:Expr}{es:List Expr}{t:TA}{p:Pos}(G:zAe X.prog X.w X.K X.mg X.base CX0 k f fd ps sp)(hr:zC2 k X.A)(B:FuB X.K X.mg x st f fd ps)(ha:PA X (e::es) t)(hg:Gl X x:=by rfl)(hdb:(x==("__debug__" : Str))=false:=by decide)(he:starEach (e::es) X.env=(false,eval e X.env)::starEach es X.env:=by rfl)(hpl:(backTo pos (starEach es X.env)).any (·.1)=false:=by rfl):PE X (.Call (.Name x p) (e::es) [] pos) (tCall sp [] E0 t):=zGm G hr hg B.m B.F.kp B.b .nil pass0 ha hdb he hpl
theorem Fun.okD {P:Program}{w:World}{K:PySem.W.Frag}{mg:sOV}{base:Heap}{qual:Str}{st:Stmt}{f:Addr}{fd:FuncData}{N ps:List Str}{k:Nat}{sp:Sp}(F:Fun K x qual st f fd)(S:zAD N ps (defScope st))
 (hbody:∀(cdv:Value)(A:Around)(outer:List Env)(s:Shared)(H:Hp)(vs:List V)(Q:VK)(E:XK),zC2 k (A.deeper (PyProof.Rows.envOfC qual (defScope st) s.heap.objs.size f cdv))->sp vs H Q E ->
  ∃t,PSs (zGf CX0 P w K mg base N qual (defScope st) f cdv A outer s H E).nox (defBody st) t/\t { nx:=fun _ H'=>Q .non H',rt:=Q } (start N vs) H)(len:∀vs H Q E,sp vs H Q E->vs.length=ps.length:=by intro _ _ _ _ h;repeat (first|(obtain⟨rfl,_⟩:=h;rfl)|obtain⟨_,h⟩:=h)):zAe P w K mg base CX0 (k+1) f fd ps sp:=F.ok S len hbody
theorem zAn {i:Nat}{e:Expr}{te:TE}{pos':Pos}(hN:X.N.Nodup)(he:PE X e te)(hi:X.N[i]? = some x:=by rfl)(hx:Loc X.env.scope x:=by exact Or.inl rfl)(hs:swapsWith e (some (.Name x pos')) pos.line X.env=pure false:=by rfl)(hf:X.fn x=true\/X.env.scope.names.lookup x=some .local:=by first | exact .inl rfl | exact .inr rfl | assumption):PS X (.Assign [.Name x pos'] e pos) (tAsg te (zIC i)):=zC8 hN hi hx he hs hf
theorem zAG {a b:Expr}{ta tb:TE}{r:R2}(hr:IxR X r)(ha:PE X a ta)(hb:PE X b tb)(hs:zKA b:=by exact fun _ _=>rfl):PE X (.Subscript a b pos) (tOp r ta tb):=pe_ix hr ha hb hs
theorem zB8 (hN:X.N.Nodup:=by exact zM3 rfl)(hi:X.N[0]? = some x:=by rfl)(hx:Loc X.env.scope x:=by exact Or.inl rfl)(hf:X.fn x=true\/X.env.scope.names.lookup x=some .local:=by first | exact .inl rfl | exact .inr rfl | assumption):PG X (.Name x pos) (zIC 0):=zAj hN hi hx hf
end L2
namespace K35
open PySem L2 WM
variable {P:Program}{w:World}{K:PySem.W.Frag}{mg:sOV}{base:Heap}{PT:Addr}{X:Cx}
noncomputable abbrev zKa:Stmt:=top 47
noncomputable abbrev zEa:Stmt:=top 48
noncomputable abbrev zFw:Stmt:=top 49
noncomputable abbrev sWeb:Stmt:=top 50
noncomputable abbrev zGk:Stmt:=top 20
noncomputable abbrev zIl:Stmt:=top 24
noncomputable abbrev zIq:Stmt:=top 23
noncomputable abbrev zHs:Stmt:=top 22
noncomputable abbrev sBwr:Stmt:=top 25
noncomputable abbrev sNbr:Stmt:=top 26
noncomputable abbrev zMP:Stmt:=top 15
noncomputable abbrev sWi:Stmt:=top 16
noncomputable abbrev sPl:Stmt:=top 18
noncomputable abbrev sTof:Stmt:=top 17
noncomputable abbrev sOrd:Stmt:=top 28
noncomputable abbrev sByo:Stmt:=top 29
noncomputable abbrev sLbr:Stmt:=top 30
noncomputable abbrev sIsh:Stmt:=top 31
noncomputable abbrev sEbr:Stmt:=top 32
noncomputable abbrev sTot:Stmt:=top 33
noncomputable abbrev sCf:Stmt:=top 36
noncomputable abbrev sSf:Stmt:=top 37
noncomputable abbrev sSn:Stmt:=top 38
noncomputable abbrev zIn:Stmt:=top 39
noncomputable abbrev sRtm:Stmt:=top 40
noncomputable abbrev zIo:Stmt:=top 41
noncomputable abbrev zIk:Stmt:=top 42
noncomputable abbrev zIr:Stmt:=top 43
noncomputable abbrev sLpl:Stmt:=top 44
noncomputable abbrev sBwo:Stmt:=top 45
noncomputable abbrev sAdd:Stmt:=top 51
noncomputable abbrev sLes:Stmt:=top 52
noncomputable abbrev sFar:Stmt:=top 53
noncomputable abbrev sOn:Stmt:=top 54
noncomputable abbrev zHI:Stmt:=top 55
noncomputable abbrev sIso:Stmt:=top 56
noncomputable abbrev zKb:Stmt:=top 57
noncomputable abbrev zLh:Stmt:=top 58
noncomputable abbrev zIp:Stmt:=top 59
noncomputable abbrev zKc:Stmt:=top 60
noncomputable abbrev sLeo:Stmt:=top 61
noncomputable abbrev zIj:Stmt:=top 62
noncomputable abbrev zIm:Stmt:=top 63
noncomputable abbrev sFou:Stmt:=top 64
noncomputable abbrev zKd:Stmt:=top 65
noncomputable abbrev zHH:Stmt:=top 66
noncomputable abbrev sI1:Stmt:=mth 3 0
noncomputable abbrev sLaw:Stmt:=top 67
noncomputable def zFg (H:Hp)(t p:Addr)(N:Nat):Prop:=∃(ns:List Int)(spot rest:Int),H t=some (.lst [.ref p,.int spot,.int rest])/\H p=some (.lst (ns.map V.int))/\p≠t/\0<=spot/\spot<=N/\0<=rest/\ns.length<=63
noncomputable def zAN (H:Hp)(t:Addr)(N:Nat):Prop:=∃p:Addr,zFg H t p N
variable {H:Hp}{N:Nat}
theorem zAN.mono {t:Addr}{M:Nat}(h:zAN H t N)(l:N<=M):zAN H t M:=by
 obtain⟨p,ns,spot,rest,a,b,c,d,e,f⟩:=h
 exact⟨p,ns,spot,rest,a,b,c,d,by omega,f⟩
noncomputable def Sm (t:Addr)(H H':Hp):Prop:=∀b o,b≠t->H b=some o->H' b=some o
theorem Sm.refl (t:Addr)(H:Hp):Sm t H H:=fun _ _ _ e=>e
variable {H2:Hp}
theorem Sm.trans {t:Addr}{H1:Hp}(a:Sm t H H1)(b:Sm t H1 H2):Sm t H H2:=fun c o n e=>b c o n (a c o n e)
variable {H':Hp}
theorem Sm.of {t:Addr}(h:zAo H H'):Sm t H H':=fun b o _ e=>h b o e
variable {l:Addr}{o:HO}
theorem Sm.laid {t:Addr}(h:H l=none):Sm t H (upd H l o):=fun b u _ e=>by rw[zf (zq e h)];exact e
theorem Sm.chg {t:Addr}(s:Sm t H H')(h:H l=none):Sm t H (upd H' l o):=fun b u n e=>by rw[zf (zq e h)];exact s b u n e
theorem zF (h:H l=none):zAo H (upd H l o):=fun b u e=>by rw[zf (zq e h)];exact e
theorem zA0 (s:zAo H H')(h:H l=none):zAo H (upd H' l o):=fun b u e=>by rw[zf (zq e h)];exact s b u e
theorem zAN.keep {t:Addr}(h:zAN H t N)(k:zAo H H'):zAN H' t N:=by
 obtain⟨p,ns,spot,rest,a,b,c⟩:=h
 exact⟨p,ns,spot,rest,k _ _ a,k _ _ b,c⟩
theorem zAN.laid {t:Addr}(h:zAN H t N)(hl:H l=none):zAN (upd H l o) t N:=h.keep (zF hl)
theorem zAN.ne {t b:Addr}(h:zAN H t N)(hb:H b=none):b≠t:=by
 obtain⟨p,ns,spot,rest,a,_⟩:=h
 exact (zq a hb).symm
theorem zAN.chg {t:Addr}{u:HO}(h:zAN H t N)(hl:H l=some u)(hu:∀xs,u ≠ .lst xs):zAN (upd H l o) t N:=by
 obtain⟨p,ns,spot,rest,a,b,c⟩:=h
 exact⟨p,ns,spot,rest,by rw[zf (zBv a hl fun z=>hu _ z.symm)];exact a,by rw[zf (zBv b hl fun z=>hu _ z.symm)];exact b,c⟩
variable {p:Addr}
theorem zFg.keepF {t:Addr}{M:Nat}(h:zFg H t p N)(k1:∀o,H t=some o->H' t=some o)(k2:∀o,H p=some o->H' p=some o)(l:N<=M):zFg H' t p M:=by
 obtain⟨ns,spot,rest,a,b,c,d,e,f⟩:=h
 exact⟨ns,spot,rest,k1 _ a,k2 _ b,c,d,by omega,f⟩
noncomputable def zGh:Sp:=fun vs H Q _=>∃(t p:Addr)(N:Nat)(many:Int),vs=[.ref t,.int many]/\zFg H t p N/\N<1000000/\0<many/\many<1000000 /\
 ∀(r:Int)(H':Hp),0<=r->r<many->zFg H' t p (N+1)->(∀b,b≠t->H' b=H b)->Q (.int r) H'
noncomputable def zFp:Sp:=fun vs H Q _=>∃(t:Addr)(N:Nat)(many:Int),vs=[.ref t,.int many]/\zAN H t N/\N<1000000/\0<many/\many<1000000 /\
 ∀(r:Int)(H':Hp),0<=r->r<many->zAN H' t (N+1)->(∀b,b≠t->H' b=H b)->Q (.int r) H'
noncomputable def zLW (K:PySem.W.Frag):Sp:=fun vs H Q _=>∃(a:Addr)(ns:List Int),vs=[.ref a]/\SqL K H a (ns.map V.int)/\ns.length<=63/\∀(t:Addr)(H':Hp),H t=none->zAN H' t 0->zAo H H'->Q (.ref t) H'
theorem scTape:zAD ["_law_script"] ["_law_script"] (defScope zKa):=fS0
variable {f:Addr}
theorem zMl {fd:FuncData}(F:Fun K "_law_tape" "_law_tape" zKa f fd):zAe P w K mg base CX0 1 f fd ["_law_script"] (zLW K):=by
 refine F.okD scTape fun _ A _ _ H vs Q E hr h=>?_
 obtain⟨a,ns,rfl,hS,hl,k⟩:=h
 refine⟨_,zg (zAF (zBy (zE (zBc zFD (pv 0) zB7 (zB6 ze)) (zC9 (zC9 zM))))),?_⟩
 refine⟨_,rfl,_,rfl,a,_,rfl,hS,fun p hp=>⟨by show 3<=sizeLine;decide,fun t ht=>?_⟩⟩
 have npt:p≠t:=fun e=>by rw[e,zG] at ht;cases ht
 have e1:zC0 (ns.map V.int) none (some 63)=(ns.take 63).map V.int:=by
  unfold zC0
  rw[HT.sIx_none,List.drop_zero,Nat.sub_zero,zD,show (63:Int)=((63:Nat):Int) from rfl,HT.sIx_nat,List.map_take]
  rw[show min 63 ns.length=ns.length by omega,zZ (by rw[zD];exact zH _),zZ (by rw[zD];exact hl)]
 have ht0:H t=none:=by rw[zf npt.symm] at ht;exact ht
 refine k t _ ht0 ⟨p,ns.take 63,0,0,zG,?_,npt,Int.le_refl _,Int.le_refl _,Int.le_refl _,by rw[zl];omega⟩ ?_
 . rw[zf npt,zG,e1]
 . exact zA0 (zF hp) ht0
theorem zFv:zAD ["_law_tape_here", "_law_many", "_law_found", "_law_spot", "_law_cell", "_law_mixed"] ["_law_tape_here", "_law_many"] (defScope zEa):=fS0
theorem zEB {a m:Int}(h:0<m):0<=a%m/\a%m<m:=⟨Int.emod_nonneg _ (by omega),Int.emod_lt_of_pos _ h⟩
theorem zFM {fd:FuncData}(F:Fun K "_law_draw" "_law_draw" zEa f fd) (mLen:mg "len" = none):zAe P w K mg base CX0 1 f fd ["_law_tape_here", "_law_many"] zGh:=by
 refine F.okD zFv fun _ A _ _ H vs Q E hr h=>?_
 obtain⟨t,p,N,many,rfl,T,hN,hm0,hm1,k⟩:=h
 obtain⟨ns,spot,rest,ht,hp,hne,hs0,hs1,hr0,hl⟩:=T
 refine⟨_,zO (zBN (zAC zFK (zAG zAb (pv 0) ze) ze (zAI _))
  (zO (zAn (i:=2) zFv.nd (zAS zEA (zAG zAb (pv 0) ze) (pv 1)))
  (zO (zDN (zAS zFL (zAG zAb (pv 0) ze) (pv 1)) (zDj (pv 0) ze zCT))
  (zg (zAF (pv 2))))) zAQ)
  (zO (zAn (i:=3) zFv.nd (zAG zAb (pv 0) ze))
  (zO (zDN (zAS zBd (pv 3) ze) (zDj (pv 0) ze zCT))
  (zO (zAn (i:=4) zFv.nd (zCJ (zAC zFK (zt zAE mLen (zE (zAG zAb (pv 0) ze) zM)) ze (zAI _))
   (zAG zAb (zAG zAb (pv 0) ze) (zAS zEA (pv 3) (zt zAE mLen (zE (zAG zAb (pv 0) ze) zM)))) ze))
  (zO (zBN (zDi (zAC op_ge (pv 4) (zAS op_pow ze ze) (zAI _)) (zD6 (zAC zI3 (pv 3) (zt zAE mLen (zE (zAG zAb (pv 0) ze) zM)) (zAI _)))).pt
   (zO (zDN (zAS zFL (pv 4) (pv 1)) (zDj (pv 0) ze zCT)) (zg (zAF (zAS zEA (pv 4) (pv 1))))) zAQ)
  (zO (zAn (i:=5) zFv.nd (zAS zEA (zAS zF1 (zAS zBd (zAS zEA (pv 4) ze) ze) (zAS zBd ze (zAS zF1 ze (pv 3)))) ze))
  (zg (zAF (zAS zEA (zAS zFL (zAS zEA (zAS zF1 (zAS zBd (pv 5) (zAS zF1 (zAS zF1 ze (pv 3)) (pv 3))) ze) ze) ze) (pv 1))))))))),?_⟩
 have cd:CDiv 0 many:=⟨hm0,by omega⟩
 refine⟨_,rfl,t,_,_,_,rfl,rfl,SqL.of ht,rfl,_,_,rfl,rfl,_,rfl,?_⟩
 refine zDq (fun hc=>?_) (fun hc=>?_)
 . have hpos:0<rest:=of_decide_eq_true hc
   refine⟨_,rfl,t,_,_,_,rfl,rfl,SqL.of ht,rfl,_,rfl,_,_,rfl,rfl,hm0,?_⟩
   refine⟨_,rfl,t,_,_,_,rfl,rfl,SqL.of ht,rfl,_,rfl,_,_,rfl,rfl,cd,?_⟩
   refine⟨_,rfl,t,_,_,2,rfl,rfl,ht,rfl,?_⟩
   refine⟨_,rfl,?_⟩
   refine k _ _ (zEB hm0).1 (zEB hm0).2 ⟨ns,spot,rest/many,zG,by rw[zf hne];exact hp,hne,hs0,by omega,Int.ediv_nonneg hr0 (by omega),hl⟩ fun b hb=>zf hb
 . -- spot=tape[1];tape[1]=spot+1
   refine⟨_,rfl,t,_,_,_,rfl,rfl,SqL.of ht,rfl,?_⟩
   refine⟨_,rfl,_,_,rfl,rfl,_,rfl,t,_,_,1,rfl,rfl,ht,rfl,?_⟩
   have ht1:(upd H t (.lst [.ref p,.int (spot+1),.int rest])) t=some (.lst [.ref p,.int (spot+1),.int rest]):=zG
   have hp1:(upd H t (.lst [.ref p,.int (spot+1),.int rest])) p=some (.lst (ns.map V.int)):=by rw[zf hne];exact hp
   have ex:0<((ns.map V.int).length:Int)->∃c,atI (ns.map V.int) (spot%((ns.map V.int).length:Int))=some (.int c):=fun h=>by
    have hb:=zEB (a:=spot) h
    obtain⟨j,hj⟩:=Int.eq_ofNat_of_zero_le hb.1
    have hlt:j<ns.length:=by
     have h2:=hb.2
     rw[hj,zD] at h2
     omega
    refine⟨ns[j],?_⟩
    rw[hj]
    exact zBh (by simp[hlt])
   refine⟨_,rfl,t,_,_,_,rfl,rfl,SqL.of ht1,rfl,p,_,rfl,.inl (SqL.of hp1),_,_,rfl,rfl,_,rfl,?_⟩
   refine zDq (fun h2=>?a) (fun h2=>?b)
   case' a=>
    obtain⟨c,hc⟩:=ex (of_decide_eq_true h2)
    refine⟨_,rfl,t,_,_,_,rfl,rfl,SqL.of ht1,rfl,_,rfl,_,rfl,t,_,_,_,rfl,rfl,SqL.of ht1,rfl,p,_,rfl,.inl (SqL.of hp1),_,_,rfl,rfl,of_decide_eq_true h2,p,_,_,_,rfl,rfl,SqL.of hp1,hc,?_⟩
   all_goals
    refine⟨_,rfl,_,_,rfl,rfl,⟨by decide,by decide,by decide⟩,_,_,rfl,rfl,_,rfl,?_⟩
    refine zDq (fun h3=>?_) (fun h3=>?_)
   all_goals first
    | (refine⟨_,rfl,_,rfl,t,_,_,_,rfl,rfl,SqL.of ht1,rfl,p,_,rfl,.inl (SqL.of hp1),_,_,rfl,rfl,_,rfl,?_⟩;refine zDq (fun h4=>?_) (fun h4=>?_))
    | refine zCe ?_
   all_goals first
    | (refine⟨_,rfl,_,rfl,_,_,rfl,rfl,⟨hm0,by omega⟩,_,rfl,t,_,_,2,rfl,rfl,ht1,rfl,?_⟩
       refine⟨_,rfl,_,rfl,_,_,rfl,rfl,hm0,?_⟩
       refine k _ _ (zEB hm0).1 (zEB hm0).2 ⟨ns,spot+1,_,zG,by rw[zf hne];exact hp1,hne,by omega,by omega,Int.ediv_nonneg (Int.le_trans (show (0:Int)<=10 ^ (18:Int).toNat by decide) (of_decide_eq_true h3)) (by omega),hl⟩ fun b hb=>by rw[zf hb,zf hb])
    | (refine⟨_,rfl,_,_,rfl,rfl,(by dsimp only;decide),_,_,rfl,rfl,_,rfl,_,_,rfl,rfl,.inl ⟨by decide,by decide⟩,_,_,rfl,rfl,_,_,rfl,rfl,.inl ⟨by omega,by omega⟩,_,_,rfl,rfl,(by dsimp only;decide),?_⟩
       refine⟨_,rfl,_,rfl,_,_,rfl,rfl,.inl ⟨by decide,by decide⟩,_,rfl,_,_,rfl,rfl,.inr ⟨by omega,by omega⟩,_,_,rfl,rfl,_,_,rfl,rfl,.inr ⟨by decide,by decide⟩,_,_,rfl,rfl,(by dsimp only;decide),_,_,rfl,rfl,⟨by decide,by decide⟩,_,rfl,_,_,rfl,rfl,hm0,?_⟩
       refine k _ _ (zEB hm0).1 (zEB hm0).2 ⟨ns,spot+1,rest,ht1,hp1,hne,by omega,by omega,hr0,hl⟩ fun b hb=>zf hb)
theorem zFN {fd:FuncData}(F:Fun K "_law_draw" "_law_draw" zEa f fd) (mLen:mg "len" = none):zAe P w K mg base CX0 1 f fd ["_law_tape_here", "_law_many"] zFp:=
 (zFM F mLen).imp fun vs H Q E ⟨t,N,many,e,⟨p,T⟩,a,b,c,k⟩=>⟨t,p,N,many,e,T,a,b,c,fun r H' h0 h1 T' he=>k r H' h0 h1 ⟨p,T'⟩ he⟩
theorem zJD {L:List Int}{r:Int}(h0:0<=r)(h1:r<L.length):∃n,n∈L/\atI (L.map V.int) r=some (.int n):=by
 obtain⟨j,rfl⟩:=Int.eq_ofNat_of_zero_le h0
 have hj:j<L.length:=by omega
 exact⟨L[j],zAq hj,zBh (by simp[hj])⟩
noncomputable def spN:Sp:=fun vs H Q _=>∃(t:Addr)(N:Nat),vs=[.ref t]/\zAN H t N/\N<900000/\∀(n:Int)(H':Hp),1<=n->n<=8->zAN H' t (N+1)->Sm t H H'->Q (.int n) H'
noncomputable def zBj (H:Hp)(wa:Addr)(n:Int)(ts:List T3):Prop:=∃(ta:Addr)(tys:List V),H wa=some (.tup [.int n,.ref ta])/\H ta=some (.tup tys)/\zAZ H tys (ts.map tl)/\GW n ts
variable {wa:Addr}{n:Int}{ts:List T3}
theorem zBj.keepT (h:zBj H wa n ts)(k:∀b ys,H b=some (.tup ys)->H' b=some (.tup ys)):zBj H' wa n ts:=by
 obtain⟨ta,tys,a,b,c,d⟩:=h
 exact⟨ta,tys,k _ _ a,k _ _ b,c.keep k,d⟩
theorem zBj.keep (h:zBj H wa n ts)(k:zAo H H'):zBj H' wa n ts:=h.keepT fun b _ e=>k b _ e
theorem zBj.sm {t:Addr}(h:zBj H wa n ts)(T:zAN H t N)(k:Sm t H H'):zBj H' wa n ts:=h.keepT fun b _ e=>by
 obtain⟨p,ns,spot,rest,a,_⟩:=T
 exact k b _ (zBv e a (by intro z;cases z)) e
noncomputable def spWeb:Sp:=fun vs H Q _=>∃(t:Addr)(N:Nat)(n:Int),vs=[.ref t,.int n]/\zAN H t N/\N<900000/\1<=n/\n<=24 /\
 ∀(wa:Addr)(ts:List T3)(H':Hp),H wa=none->zBj H' wa n ts->zAN H' t (N+200)->Sm t H H'->Q (.ref wa) H'
noncomputable def JD (n:Int)(kvs:List (List Key×V)):Prop:=(∀kv∈kvs,∃a b l:Int,kv=([Sum.inl a,Sum.inl b],V.int l)/\0<=a/\a<b/\b<n/\1<=l/\l<=99)/\(kvs.map (·.1)).Nodup
theorem JD.nil (n:Int):JD n []:=⟨fun _ h=>by simp at h,List.nodup_nil⟩
variable {kvs:List (List Key×V)}
theorem JD.put (h:JD n kvs){a b l:Int}(h0:0<=a)(h1:a<b)(h2:b<n)(h3:1<=l)(h4:l<=99):JD n (zDL kvs [Sum.inl a,Sum.inl b] (.int l)):=by
 cases e:zCd kvs [Sum.inl a,Sum.inl b] with
 | none=>
  refine⟨fun kv hkv=>?_,zI9 _ h.2 e⟩
  rw[zHO _ e] at hkv
  rcases zn.mp hkv with q | q
  . exact h.1 kv q
  . rw[zj.mp q];exact⟨a,b,l,rfl,h0,h1,h2,h3,h4⟩
 | some v=>
  have ha:(kvs.any fun kv=>decide (kv.1=[Sum.inl a,Sum.inl b]))=true:=by rw[zCB,e];rfl
  unfold zDL
  rw[if_pos ha]
  refine⟨fun kv hkv=>?_,?_⟩
  . obtain⟨q,hq,e2⟩:=zv.mp hkv
    by_cases hk:q.1=[Sum.inl a,Sum.inl b]
    . rw[if_pos hk,hk] at e2;rw[<-e2];exact⟨a,b,l,rfl,h0,h1,h2,h3,h4⟩
    . rw[if_neg hk] at e2;rw[<-e2];exact h.1 q hq
  . have e3:(kvs.map fun kv=>if kv.1=[Sum.inl a,Sum.inl b] then (kv.1,V.int l) else kv).map (·.1)=kvs.map (·.1):=by
     rw[List.map_map]
     refine zBW fun kv _=>?_
     show (if kv.1=[Sum.inl a,Sum.inl b] then (kv.1,V.int l) else kv).1=kv.1
     split <;> rfl
    rw[e3];exact h.2
noncomputable def unk:Key->Int
 | .inl i=>i
 | .inr _=>0
noncomputable def zEh (kvs:List (List Key×V)):List (List Int):=kvs.map fun kv=>kv.1.map unk
theorem JD.keys (h:JD n kvs):kvs.map (·.1)=(zEh kvs).map (List.map Sum.inl):=by
 unfold zEh
 rw[List.map_map]
 refine zBW fun kv hkv=>?_
 obtain⟨a,b,l,e,_⟩:=h.1 kv hkv
 rw[e];rfl
theorem JD.ne (h:JD n kvs):∀k∈zEh kvs,k≠[]:=fun k hk=>by
 obtain⟨kv,hkv,e⟩:=zv.mp hk
 obtain⟨a,b,l,e2,_⟩:=h.1 kv hkv
 rw[<-e,e2];simp[List.map]
theorem JD.nd (h:JD n kvs):(zEh kvs).Nodup:=by
 have e:=h.2
 rw[h.keys] at e
 rw[List.Nodup,zAs] at e
 exact e.imp fun h e'=>h (by rw[e'])
theorem JD.val (h:JD n kvs){k:List Int}(hk:k∈zEh kvs):∃a b l,k=[a,b]/\zCd kvs [Sum.inl a,Sum.inl b]=some (.int l)/\0<=a/\a<b/\b<n/\1<=l/\l<=99:=by
 obtain⟨kv,hkv,e⟩:=zv.mp hk
 obtain⟨a,b,l,e2,h0,h1,h2,h3,h4⟩:=h.1 kv hkv
 have ek:k=[a,b]:=by rw[<-e,e2];rfl
 have hm:(kvs.any fun kv=>decide (kv.1=[Sum.inl a,Sum.inl b]))=true:=List.any_eq_true.mpr ⟨kv,hkv,zP (by rw[e2])⟩
 rw[zCB] at hm
 cases hv:zCd kvs [Sum.inl a,Sum.inl b] with
 | none=>rw[hv] at hm;cases hm
 | some v=>
  have hv0:=hv
  unfold zCd at hv
  cases hf:kvs.find? fun kv=>decide (kv.1=[Sum.inl a,Sum.inl b]) with
  | none=>rw[hf] at hv;cases hv
  | some q=>
   rw[hf] at hv
   obtain⟨a',b',l',e3,_,_,_,g3,g4⟩:=h.1 q (List.mem_of_find?_eq_some hf)
   have ev:v = .int l':=by rw[e3] at hv;exact (zU hv).symm
   exact⟨a,b,l',ek,by rw[hv0,ev],h0,h1,h2,g3,g4⟩
theorem scN:zAD ["_law_tape_here"] ["_law_tape_here"] (defScope zFw):=fS0
variable {fdD:FuncData}
theorem ok_n {fD:Addr}{fd:FuncData}(F:Fun K "_law_small" "_law_small" zFw f fd) (FD:FuB K mg "_law_draw" zEa fD fdD ["_law_tape_here","_law_many"]) (mLen:mg "len" = none) :
 zAe P w K mg base CX0 2 f fd ["_law_tape_here"] spN:=by
 have GD:zAe P w K mg base CX0 1 fD fdD ["_law_tape_here", "_law_many"] zFp:=zFN FD.F mLen
 refine F.okD scN fun _ A _ _ H vs Q E hr h=>?_
 obtain⟨t,N,rfl,T,hN,k⟩:=h
 obtain⟨es,q1,q2,j3,q3,q4,p1,p2,p3,hb,hes⟩:∃es q1 q2 j3 q3 q4 p1 p2 p3,defBody zFw=[.Return (some (.Subscript (.List es p1) (.Call (.Name "_law_draw" q1) [.Name "_law_tape_here" q2,.Constant (.int 12) j3 q3] [] q4) p2)) p3] /\
  zDe es [1,2,3,4,5,6,4,3,5,6,7,8]:=⟨_,_,_,_,_,_,_,_,_,rfl,by repeat constructor⟩
 rw[hb]
 refine⟨_,zg (zAF (zAG zAb (zBy (zI0 hes))
  (zAa GD hr FD (zE (pv 0) (zE ze zM))))),?_⟩
 refine⟨by show 12<=sizeLine;decide,fun l hl=>?_⟩
 refine⟨_,rfl,t,N,12,rfl,T.laid hl,by omega,by decide,by decide,fun r H' h0 h1 T' he=>?_⟩
 have nlt:l≠t:=T.ne hl
 obtain⟨n,hn,ha⟩:=zJD (L:=[1,2,3,4,5,6,4,3,5,6,7,8]) h0 h1
 have hb:1<=n/\n<=8:=by
  have:∀m∈([1,2,3,4,5,6,4,3,5,6,7,8]:List Int),1<=m/\m<=8:=by decide
  exact this n hn
 refine⟨l,_,_,_,rfl,rfl,SqL.of (by rw[he l nlt];exact zG),ha,?_⟩
 refine k n H' hb.1 hb.2 T' fun b o hb e=>?_
 rw[he b hb,zf (zq e hl)]
 exact e
structure WI (H:Hp)(t d la:Addr)(n:Int)(N m:Nat)(H2:Hp):Prop where
 sm:Sm t H H2
 tp:zAN H2 t N
 dc:∃kvs,H2 d=some (.dT kvs)/\JD n kvs/\kvs.length<=m
 lg:∃l0 l1 l2:Int,H2 la=some (.lst [.int l0,.int l1,.int l2])/\(∀l∈[l0,l1,l2],1<=l/\l<=99)
variable {m:Nat}
theorem WI.draw {H3:Hp}{t d la:Addr}(h:WI H t d la n N m H2)(hd:d≠t)(hl:la≠t)(T:zAN H3 t (N+1))(he:∀b,b≠t->H3 b=H2 b):WI H t d la n (N+1) m H3:=by
 refine⟨fun b o nb e=>by rw[he b nb];exact h.sm b o nb e,T,?_,?_⟩
 . rw[he d hd];exact h.dc
 . rw[he la hl];exact h.lg
theorem WI.laid {H H2:Hp}{t d la l:Addr}{n:Int}{N m:Nat}{o:HO}(h:WI H t d la n N m H2)(hl:H2 l=none):WI H t d la n N m (upd H2 l o):=by
 obtain⟨kvs,a,b⟩:=h.dc
 obtain⟨l0,l1,l2,c,e⟩:=h.lg
 exact⟨h.sm.trans (Sm.laid hl),h.tp.laid hl,⟨kvs,by rw[zf (zq a hl)];exact a,b⟩,⟨l0,l1,l2,by rw[zf (zq c hl)];exact c,e⟩⟩
theorem WI.put {H H2:Hp}{t d la:Addr}{n:Int}{N m:Nat}{kvs:List (List Key×V)}(h:WI H t d la n N m H2)(hd0:H d=none)(hd:H2 d=some (.dT kvs)){a b l:Int}(h0:0<=a)(h1:a<b)(h2:b<n)(h3:1<=l)(h4:l<=99) :
 WI H t d la n N (m+1) (upd H2 d (.dT (zDL kvs [Sum.inl a,Sum.inl b] (.int l)))):=by
 obtain⟨kvs',e,j,hm⟩:=h.dc
 rw[hd] at e
 cases e
 obtain⟨l0,l1,l2,c,e⟩:=h.lg
 refine⟨h.sm.chg hd0,h.tp.chg hd (by intro xs z;cases z),⟨_,zG,j.put h0 h1 h2 h3 h4,?_⟩,⟨l0,l1,l2,by rw[zf (zBv c hd (by intro z;cases z))];exact c,e⟩⟩
 have:=zCh kvs [Sum.inl a,Sum.inl b] (V.int l)
 omega
theorem WI.up {t d la:Addr}{N' m':Nat}(h:WI H t d la n N m H2)(hN:N<=N')(hm:m<=m'):WI H t d la n N' m' H2:=by
 obtain⟨kvs,a,b,c⟩:=h.dc
 exact⟨h.sm,h.tp.mono hN,⟨kvs,a,b,by omega⟩,h.lg⟩
theorem at3 {l0 l1 l2 r:Int}(h:∀l∈[l0,l1,l2],1<=l/\l<=99)(h0:0<=r)(h1:r<3):∃l,atI [V.int l0,V.int l1,V.int l2] r=some (.int l)/\1<=l/\l<=99:=by
 obtain⟨l,hl,ha⟩:=zJD (L:=[l0,l1,l2]) h0 h1
 exact⟨l,ha,h l hl⟩
theorem zr {n:Nat}(h:n<=100000):n<sizeLine:=zAK h (by decide)
theorem zL1 {ms:List (List Int)}(h:JD n kvs)(hp:ms.Perm (zEh kvs))(hl:kvs.length<64)(hn:1<=n)(hn2:n<=24)(e:ts.map (fun t=>[t.1,t.2.1])=ms)(hr:∀t∈ts,0<=t.1/\t.1<t.2.1/\t.2.1<n/\1<=t.2.2/\t.2.2<=99):GW n ts:=by
 have hlen:ts.length=kvs.length:=by
  have:=hp.length_eq
  rw[<-e] at this
  simpa [zEh] using this
 refine⟨hn,hn2,by omega,hr,?_⟩
 have nd:(ts.map fun t:T3=>[t.1,t.2.1]).Nodup:=by rw[e];exact hp.nodup_iff.mpr h.nd
 rw[List.Nodup,zAs] at nd
 exact nd.imp fun hne hc=>hne (by rw[hc.1,hc.2])
theorem zGi:zAD ["_law_tape_here", "_law_n", "_law_longs", "_law_joined", "_law_b", "_law_k", "_law_a"] ["_law_tape_here", "_law_n"] (defScope sWeb):=fS0
theorem ok_web {fD:Addr}{fd:FuncData}(F:Fun K "_law_web" "_law_web" sWeb f fd) (FD:FuB K mg "_law_draw" zEa fD fdD ["_law_tape_here","_law_many"]) (mLen:mg "len" = none)
 (mRange:mg "range" = none) (mTuple:mg "tuple" = none) (mSorted:mg "sorted" = none):zAe P w K mg base CX0 2 f fd ["_law_tape_here", "_law_n"] spWeb:=by
 have GD:zAe P w K mg base CX0 1 fD fdD ["_law_tape_here", "_law_many"] zFp:=zFN FD.F mLen
 refine F.okD zGi fun _ A _ _ H vs Q E hr h=>?_
 obtain⟨t,N,n,rfl,T,hN,hn1,hn2,k⟩:=h
 have hu:=zK3 hr
 obtain⟨es,q0,q1,q2,j3,q3,q4,p1,p2,p3,hbd,hes⟩:∃es q0 q1 q2 j3 q3 q4 p1 p2 p3,defBody sWeb = .Assign [.Name "_law_longs" q0] (.Subscript (.List es p1) (.Call (.Name "_law_draw" q1) [.Name "_law_tape_here" q2,.Constant (.int 4) j3 q3] [] q4) p2) p3::(defBody sWeb).drop 1 /\
  zDY es [[1,1,1],[1,2,1],[1,2,3],[5,99,7]]:=⟨_,_,_,_,_,_,_,_,_,_,rfl,.cons (.cons (.cons (.cons .nil))) (by show 3<=sizeLine;decide) (.cons (.cons (.cons (.cons .nil))) (by show 3<=sizeLine;decide) (.cons (.cons (.cons (.cons .nil))) (by show 3<=sizeLine;decide) (.cons (.cons (.cons (.cons .nil))) (by show 3<=sizeLine;decide) (.nil))))⟩
 rw[hbd]
 refine⟨_,zO (zAn (i:=2) zGi.nd (zAG zAb (zBy (zKq hes))
  (zAa GD hr FD (zE (pv 0) (zC9 zM)))))
  (zO (zC8 (i:=3) zGi.nd rfl (Or.inr rfl) zKo)
  (zO (zBN (zAC zFK (zAa GD hr FD (zE (pv 0) (zC9 zM))) ze (zAI _))
   (zg (zBl PassesOwn.never rfl (zIx rfl mRange (zC9 (zE (pv 1) zM))) (zAj (i:=4) zGi.nd rfl (Or.inl rfl))
    (zg (zGl hu (pv 3) (zAf (zE (zAa GD hr FD (zE (pv 0) (zE (pv 4) zM))) (zE (pv 4) zM)))
     (zAG zAb (pv 2) (zAa GD hr FD (zE (pv 0) (zC9 zM)))) rfl)))) zAQ)
  (zO (zBl PassesOwn.never rfl (zAX rfl mRange (zE (zAa GD hr FD (zE (pv 0) (zE (zAS zBd (zAS zBd ze (pv 1)) (zAS zFL (pv 1) ze)) zM))) zM)) (zAj (i:=5) zGi.nd rfl (Or.inl rfl))
   (zO (zAn (i:=6) zGi.nd (zAa GD hr FD (zE (pv 0) (zE (pv 1) zM))))
   (zO (zAn (i:=4) zGi.nd (zAa GD hr FD (zE (pv 0) (zE (pv 1) zM))))
   (zg (zBN (zAC zI3 (pv 6) (pv 4) (zAI _)) (zg (zGl hu (pv 3) (zAf (zE (pv 6) (zE (pv 4) zM)))
    (zAG zAb (pv 2) (zAa GD hr FD (zE (pv 0) (zC9 zM)))) rfl)) zAQ)))))
  (zg (zAF (zAf (zE (pv 1) (zE (zBK zAt mTuple (zE
   (zBG (own:=["_law_pair"]) (cn:=["_law_joined"]) (ci:=[3]) rfl (csc rfl rfl) ⟨rfl,rfl,rfl,trivial⟩ rfl
    (zCH (zt (zGP rfl) mSorted (zE (pv 3) zM))) (fun _ _ _ _=>zB8) (fun _ _ _ _=>zBn)
    (fun _ _ _ _=>zAf (zE (zAG zCY (pv 0) ze) (zE (zAG zCY (pv 0) ze) (zE (zMa hu (pv 1) (pv 0) (fun _ _=>rfl)) zM))))) zM)) zM)))))))),?_⟩
 intro a1 e1 a2 e2 a3 e3 a4 e4
 refine⟨by show 4<=sizeLine;decide,fun al el=>?_⟩
 have T5:=((((T.laid (o:=.lst [.int 1,.int 1,.int 1]) e1).laid (o:=.lst [.int 1,.int 2,.int 1]) e2).laid (o:=.lst [.int 1,.int 2,.int 3]) e3).laid (o:=.lst [.int 5,.int 99,.int 7]) e4).laid (o:=.lst [.ref a1,.ref a2,.ref a3,.ref a4]) el
 refine⟨_,rfl,t,N,4,rfl,T5,by omega,by decide,by decide,fun r H1 h0 h1 T1 he1=>?_⟩
 have nel:al≠t:=((((T.laid (o:=.lst [.int 1,.int 1,.int 1]) e1).laid (o:=.lst [.int 1,.int 2,.int 1]) e2).laid (o:=.lst [.int 1,.int 2,.int 3]) e3).laid (o:=.lst [.int 5,.int 99,.int 7]) e4).ne el
 obtain⟨la,l0,l1,l2,hat,hla,hb,nla⟩:∃(la:Addr)(l0 l1 l2:Int),atI [V.ref a1,V.ref a2,V.ref a3,V.ref a4] r=some (.ref la)/\H1 la=some (.lst [.int l0,.int l1,.int l2])/\(∀l∈[l0,l1,l2],1<=l/\l<=99)/\la≠t:=by
  have n1:a1≠t:=T.ne e1
  have n2:a2≠t:=(T.laid (o:=.lst [.int 1,.int 1,.int 1]) e1).ne e2
  have n3:a3≠t:=((T.laid (o:=.lst [.int 1,.int 1,.int 1]) e1).laid (o:=.lst [.int 1,.int 2,.int 1]) e2).ne e3
  have n4:a4≠t:=(((T.laid (o:=.lst [.int 1,.int 1,.int 1]) e1).laid (o:=.lst [.int 1,.int 2,.int 1]) e2).laid (o:=.lst [.int 1,.int 2,.int 3]) e3).ne e4
  have g1:H1 a1=some (.lst [.int 1,.int 1,.int 1]):=by rw[he1 a1 n1];exact zF el _ _ (zF e4 _ _ (zF e3 _ _ (zF e2 _ _ zG)))
  have g2:H1 a2=some (.lst [.int 1,.int 2,.int 1]):=by rw[he1 a2 n2];exact zF el _ _ (zF e4 _ _ (zF e3 _ _ zG))
  have g3:H1 a3=some (.lst [.int 1,.int 2,.int 3]):=by rw[he1 a3 n3];exact zF el _ _ (zF e4 _ _ zG)
  have g4:H1 a4=some (.lst [.int 5,.int 99,.int 7]):=by rw[he1 a4 n4];exact zF el _ _ zG
  have hr4:r=0\/r=1\/r=2\/r=3:=by omega
  rcases hr4 with rfl | rfl | rfl | rfl
  . exact⟨a1,1,1,1,rfl,g1,by decide,n1⟩
  . exact⟨a2,1,2,1,rfl,g2,by decide,n2⟩
  . exact⟨a3,1,2,3,rfl,g3,by decide,n3⟩
  . exact⟨a4,5,99,7,rfl,g4,by decide,n4⟩
 refine⟨al,_,_,_,rfl,rfl,SqL.of (by rw[he1 al nel];exact zG),hat,?_⟩
 have sm1:Sm t H H1:=fun b o nb e=>by
  rw[he1 b nb]
  exact zF el _ _ (zF e4 _ _ (zF e3 _ _ (zF e2 _ _ (zF e1 _ _ e))))
 intro d hd
 have nd:d≠t:=T1.ne hd
 have hd0:H d=none:=by
  cases q:H d with
  | none=>rfl
  | some o=>have:=sm1 d o nd q;rw[hd] at this;cases this
 have W0:WI H t d la n (N+1) 0 (upd H1 d (.dT [])):=⟨sm1.chg hd0,T1.laid hd,⟨[],zG,JD.nil n,zH _⟩,⟨l0,l1,l2,by rw[zf (zq hla hd)];exact hla,hb⟩⟩
 refine⟨_,rfl,t,N+1,3,rfl,W0.tp,by omega,by decide,by decide,fun r1 H2 _ _ T2 he2=>?_⟩
 have W2:=W0.draw nd nla T2 he2
 refine⟨_,_,rfl,rfl,_,rfl,?_⟩
 refine zDq (fun _=>?a) (fun _=>?b)
 case' a=>
  refine⟨_,rfl,1,n,rfl,⟨by decide,by decide,by omega,by omega⟩,zBT (lo:=1) (n:=(n-1).toNat) (fun i σ H3=>∃vb:Option V,σ=[some (.ref t),some (.int n),some (.ref la),some (.ref d),vb,none,none]/\WI H t d la n (N+2+2*i) i H3) ⟨none,rfl,W2⟩ ?turn ?after⟩
  case turn=>
   rintro i σ H3 hi ⟨vb,rfl,W⟩
   obtain⟨m0,m1,m2,hm,hmb⟩:=W.lg
   refine⟨_,rfl,_,rfl,t,N+2+2*i,3,rfl,W.tp,by omega,by decide,by decide,fun r3 H4 g0 g1 T4 he4=>?_⟩
   have W4:=W.draw nd nla T4 he4
   obtain⟨lg,hlg,hg1,hg2⟩:=at3 hmb g0 g1
   refine⟨la,_,_,_,rfl,rfl,SqL.of (by rw[he4 la nla];exact hm),hlg,?_⟩
   refine⟨_,rfl,_,rfl,_,rfl,t,N+2+2*i+1,1+i,rfl,W4.tp,by omega,by omega,by omega,fun r5 H5 q0 q1 T5 he5=>?_⟩
   have W5:=W4.draw nd nla T5 he5
   refine⟨_,rfl,by show 2<=sizeLine;decide,fun p hp=>?_⟩
   have W6:=W5.laid (o:=.tup [.int r5,.int (1+i)]) hp
   obtain⟨kvs,hk,J,hkl⟩:=W6.dc
   refine⟨d,_,rfl,zLU.t (k:=[Sum.inl r5,Sum.inl (1+(i:Int))]) hk zG (zr (by omega)),?_⟩
   exact⟨_,rfl,(W6.put hd0 hk q0 q1 (by omega) hg1 hg2).up (by omega) (by omega)⟩
  case' after=>
   rintro σ H3 ⟨vb,rfl,W⟩
   have W3:WI H t d la n (N+50) 23 H3:=W.up (by omega) (by omega)
 case' b=>
  have W3:WI H t d la n (N+50) 23 H2:=W2.up (by omega) (by omega)
 all_goals
  refine⟨_,rfl,_,rfl,_,_,rfl,rfl,_,rfl,_,_,rfl,rfl,⟨by decide,by decide⟩,_,_,rfl,rfl,t,N+50,_,rfl,W3.tp,by omega,by omega,by omega,fun r4 H4 p0 p1 T4 he4=>?_⟩
  have W4:=W3.draw nd nla T4 he4
  refine⟨r4,rfl,by omega,by omega,zBT (lo:=0) (n:=r4.toNat) (fun i σ H5=>∃vb vk va:Option V,σ=[some (.ref t),some (.int n),some (.ref la),some (.ref d),vb,vk,va]/\WI H t d la n (N+51+3*i) (23+i) H5) ⟨_,_,_,rfl,W4⟩ ?turn2 ?after2⟩
  case turn2=>
   rintro i σ H5 hi ⟨vb,vk,va,rfl,W⟩
   refine⟨_,rfl,_,rfl,t,N+51+3*i,n,rfl,W.tp,by omega,by omega,by omega,fun a H6 a0 a1 T6 he6=>?_⟩
   have W6:=W.draw nd nla T6 he6
   refine⟨_,rfl,_,rfl,t,N+51+3*i+1,n,rfl,W6.tp,by omega,by omega,by omega,fun b H7 b0 b1 T7 he7=>?_⟩
   have W7:=W6.draw nd nla T7 he7
   refine⟨_,rfl,_,rfl,_,_,rfl,rfl,_,rfl,?_⟩
   refine zDq (fun hc=>?_) (fun hc=>?_)
   . have hab:a<b:=of_decide_eq_true hc
     obtain⟨m0,m1,m2,hm,hmb⟩:=W7.lg
     refine⟨_,rfl,_,rfl,t,N+51+3*i+1+1,3,rfl,W7.tp,by omega,by decide,by decide,fun r3 H8 g0 g1 T8 he8=>?_⟩
     have W8:=W7.draw nd nla T8 he8
     obtain⟨lg,hlg,hg1,hg2⟩:=at3 hmb g0 g1
     refine⟨la,_,_,_,rfl,rfl,SqL.of (by rw[he8 la nla];exact hm),hlg,?_⟩
     refine⟨_,rfl,_,rfl,_,rfl,by show 2<=sizeLine;decide,fun p hp=>?_⟩
     have W9:=W8.laid (o:=.tup [.int a,.int b]) hp
     obtain⟨kvs,hk,J,hkl⟩:=W9.dc
     refine⟨d,_,rfl,zLU.t (k:=[Sum.inl a,Sum.inl b]) hk zG (zr (by omega)),?_⟩
     exact⟨_,_,_,rfl,(W9.put hd0 hk a0 hab b1 hg1 hg2).up (by omega) (by omega)⟩
   . exact⟨_,_,_,rfl,W7.up (by omega) (by omega)⟩
  case after2=>
   rintro σ H5 ⟨vb,vk,va,rfl,W⟩
   obtain⟨kvs,hk,J,hkl⟩:=W.dc
   have hk64:kvs.length<64:=by omega
   refine⟨_,rfl,_,rfl,d,kvs,zEh kvs,rfl,hk,J.keys,J.ne,by rw[zEh,zD];exact hk64,fun l zs ms hl TA hp _=>?_⟩
   refine⟨l,rfl,⟨_,SqL.of zG⟩,[.ref d],rfl,fun D hD=>?_⟩
   have hlz:=TA.length
   have hlm:ms.length=kvs.length:=by rw[hp.length_eq,zEh,zD]
   have nlD:l≠D:=fun e=>by rw[<-e,zG] at hD;cases hD
   have hk1:(upd H5 l (.lst zs)) d=some (.dT kvs):=zF hl _ _ hk
   have hD5:H5 D=none:=by rw[zf nlD.symm] at hD;exact hD
   refine zCF (a:=l) (xs:=zs) (fun i ys H6=>∃ts:List T3,ts.length=i/\ts.map (fun t:T3=>[t.1,t.2.1])=ms.take i/\(∀t∈ts,0<=t.1/\t.1<t.2.1/\t.2.1<n/\1<=t.2.2/\t.2.2<=99)/\H6 D=some (.lst ys)/\zAZ H6 ys (ts.map tl)/\zAo (upd H5 l (.lst zs)) H6)
    ⟨[],rfl,rfl,fun _ h=>by simp at h,zG,trivial,zF hD⟩ (fun i ys H6 h=>?_) (fun i ys H6 h=>?_) (fun i x ys H6 hx h=>?_) (fun ys H6 h=>?_)
   . obtain⟨_,_,_,_,_,_,s6⟩:=h
     exact SqL.of (s6 _ _ zG)
   . obtain⟨ts,e1,e2,_,_,T6,_⟩:=h
     have e3:=T6.length
     rw[zD] at e3
     have e4:=congrArg List.length e2
     rw[zD,zl] at e4
     exact zr (by omega)
   . obtain⟨ts,e1,e2,hts,hD6,T6,s6⟩:=h
     obtain⟨pa,kx,ex,hkx,hpa,_⟩:=TA.get hx
     subst ex
     have hpa6:H6 pa=some (.tup (kx.map V.int)):=s6 _ _ (zF hl _ _ hpa)
     obtain⟨a,b,lg,ek,hv,a0,ab,bn,lg1,lg2⟩:=J.val (hp.mem_iff.mp (za hkx))
     subst ek
     refine⟨⟨rfl,rfl⟩,?_⟩
     refine zGe ?_
     refine⟨_,rfl,pa,_,_,_,rfl,rfl,SqT.of hpa6,rfl,_,rfl,pa,_,_,_,rfl,rfl,SqT.of hpa6,rfl,_,rfl,_,rfl,d,_,rfl,hv ▸ zKF.t (k:=[Sum.inl a,Sum.inl b]) (s6 _ _ hk1) hpa6,by show 3<=sizeLine;decide,fun p hp6=>?_⟩
     have nDp:D≠p:=zq hD6 hp6
     refine⟨by rw[zf nDp];exact hD6,ts++[(a,b,lg)],by rw[zL,e1];rfl,?_,?_,zG,?_,?_⟩
     . rw[zS,e2,zw,hkx];rfl
     . intro t ht
       rcases zn.mp ht with q | q
       . exact hts t q
       . rw[zj.mp q];exact⟨a0,ab,bn,lg1,lg2⟩
     . rw[zS]
       refine (T6.keep fun c xs e=>?_).snoc ⟨p,rfl,by rw[zf nDp.symm,zG];rfl,by simp[tl]⟩
       rw[zf (zBv e hD6 (by intro z;cases z)),zf (zq e hp6)]
       exact e
     . exact zA0 (s6.trans (zF hp6)) hD
   . obtain⟨ts,e1,e2,hts,hD6,T6,s6⟩:=h
     refine⟨D,ys,rfl,.inl ⟨SqL.of hD6,fun ta hta=>?_⟩⟩
     refine⟨by show 2<=sizeLine;decide,fun wa hwa=>?_⟩
     rw[hlz,zZ (zH _)] at e2
     have G:GW n ts:=zL1 J hp hk64 hn1 hn2 e2 hts
     have nwt:wa≠ta:=fun e=>by rw[e,zG] at hwa;cases hwa
     have h6wa:H6 wa=none:=by rw[zf nwt] at hwa;exact hwa
     have s7:zAo H6 (upd (upd H6 ta (.tup ys)) wa (.tup [.int n,.ref ta])):=zA0 (zF hta) h6wa
     have T7:zAN (upd (upd H6 ta (.tup ys)) wa (.tup [.int n,.ref ta])) t (N+200):=((W.tp.mono (by omega)).keep ((zF hl).trans (s6.trans s7)))
     have nwa:wa≠t:=((W.tp.keep ((zF hl).trans s6)).ne h6wa)
     have sm7:Sm t H (upd (upd H6 ta (.tup ys)) wa (.tup [.int n,.ref ta])):=W.sm.trans (Sm.of ((zF hl).trans (s6.trans s7)))
     refine k wa ts _ ?_ ⟨ta,ys,zG,by rw[zf nwt.symm,zG],T6.keep fun c xs e=>s7 _ _ e,G⟩ T7 sm7
     cases q:H wa with
     | none=>rfl
     | some o=>
      have:=(W.sm.trans (Sm.of ((zF hl).trans s6))) wa o nwa q
      rw[h6wa] at this;cases this
theorem ifT {c:Bool}{p q:Prop}(h:c=true)(hp:p):(if c=true then p else q):=by rw[if_pos h];exact hp
theorem ifF {c:Bool}{p q:Prop}(h:c=false)(hq:q):(if c=true then p else q):=by rw[if_neg (by simp[h])];exact hq
noncomputable def zIY:Sp:=fun vs H Q _=>∃(wa:Addr)(n:Int)(ts:List T3)(p:Int),vs=[.ref wa,.int p]/\zBj H wa n ts /\
 ∀(l:Addr)(zs:List V)(ms:List (List Int))(H':Hp),zAo H H'->H l=none->H' l=some (.lst zs)->zAZ H' zs ms->ms.Perm (fd p ts)->zJ9 ms->Q (.ref l) H'
theorem zFr:zAD ["web", "place", "found", "a", "b", "long"] ["web", "place"] (defScope zGk):=fS0
variable {fd':FuncData}
theorem zI5 (F:Fun K "ties_at" "ties_at" zGk f fd') (mSorted:mg "sorted" = none):zAe P w K mg base CX0 1 f fd' ["web", "place"] zIY:=by
 refine F.okD zFr fun _ A _ _ H vs Q E hr h=>?_
 obtain⟨wa,n,ts,p,rfl,⟨ta,tys,hwa,hta,TA,G⟩,k⟩:=h
 refine⟨_,zO (zAn (i:=2) zFr.nd (zBy zM))
  (zO (zBl PassesOwn.never rfl (zCu (zAG zAY (pv 0) ze)) (zEq rfl (zBb (zAj (i:=3) zFr.nd rfl (Or.inl rfl)) (zBb (zAj (i:=4) zFr.nd rfl (Or.inl rfl)) (zBb (zAj (i:=5) zFr.nd rfl (Or.inl rfl)) zDZ))))
   (zO (zBN (zAC zCI (pv 3) (pv 1) (zAI _)) (zg (zCg (zFI PySem.F.plainAttrs_list PySem.F.slot_list_append PySem.F.type_list_append zBr (pv 2) (zE (zAf (zE (pv 4) (zE (pv 5) zM))) zM)))) zAQ)
   (zg (zBN (zAC zCI (pv 4) (pv 1) (zAI _)) (zg (zCg (zFI PySem.F.plainAttrs_list PySem.F.slot_list_append PySem.F.type_list_append zBr (pv 2) (zE (zAf (zE (pv 3) (zE (pv 5) zM))) zM)))) zAQ))))
  (zg (zAF (zt zG1 mSorted (zE (pv 2) zM))))),?_⟩
 refine⟨zi _,fun l hl=>?_⟩
 have hwl:wa≠l:=zq hwa hl
 have htl:ta≠l:=zq hta hl
 have hlt:tys.length=ts.length:=by rw[TA.length,zD]
 refine⟨_,rfl,wa,_,_,_,rfl,rfl,SqT.of (by rw[zf hwl];exact hwa),rfl,ta,rfl,⟨_,SqT.of (by rw[zf htl];exact hta)⟩,zGv (K:=K) (a:=ta) (xs:=tys)
  (fun i σ H2=>∃(va vb vl:Option V)(xs:List V),σ=[some (.ref wa),some (.int p),some (.ref l),va,vb,vl]/\zAo H H2/\H2 l=some (.lst xs)/\zAZ H2 xs (fd p (ts.take i)))
  ⟨none,none,none,[],rfl,zF hl,zG,trivial⟩ (fun i σ H2 _ ⟨_,_,_,_,_,s2,_⟩=>SqT.of (s2 _ _ hta)) ?turn ?after⟩
 case turn=>
  rintro i y σ H2 hi ⟨va,vb,vl,xs,rfl,s2,hl2,T2⟩
  obtain⟨ya,ky,rfl,hky,hya,_⟩:=TA.get hi
  rw[zN] at hky
  obtain⟨⟨a,b,c⟩,hti,rfl⟩:∃t:T3,ts[i]? = some t/\tl t=ky:=by
   cases e:ts[i]? with
   | none=>rw[e] at hky;cases hky
   | some t=>rw[e] at hky;exact⟨t,rfl,zU hky⟩
  have hil:i<ts.length:=(zK.mp hti).1
  have hlen:∀{xs':List V}{H3:Hp},zAZ H3 xs' (fd p (ts.take i))->xs'.length<sizeLine:=fun T=>by
   have e1:=T.length
   have e2:=zHa (n:=n) p (ts:=ts.take i) fun t ht=>(G.rng t (zBQ ht)).2.1
   rw[zl] at e2
   exact zr (by have:=G.len;omega)
  have hfd:fd p (ts.take (i+1))=fd p (ts.take i)++((if a=p then [[b,c]] else [])++(if b=p then [[a,c]] else [])):=by
   rw[zw,hti,zGD]
   show _++((if a=p then [[b,c]] else [])++(if b=p then [[a,c]] else [])++[])=_
   rw[zp]
  have hab:a<b:=(G.rng _ (za hti)).2.1
  refine⟨ya,_,rfl,SqT.of (s2 _ _ hya),rfl,_,_,rfl,_,_,rfl,_,_,rfl,rfl,?_⟩
  have app:∀{x:Int},∀q,H2 q=none->∃xs',(upd (upd H2 q (.tup [.int x,.int c])) l (.lst (xs++[.ref q]))) l=some (.lst xs')/\zAo H (upd (upd H2 q (.tup [.int x,.int c])) l (.lst (xs++[.ref q])))/\zAZ (upd (upd H2 q (.tup [.int x,.int c])) l (.lst (xs++[.ref q]))) xs' (fd p (ts.take i)++[[x,c]]):=by
   intro x q hq
   have nlq:l≠q:=zq hl2 hq
   refine⟨_,zG,zA0 (s2.trans (zF hq)) hl,(T2.keep fun e ys he=>?_).snoc ⟨q,rfl,by rw[zf nlq.symm,zG];rfl,by simp⟩⟩
   rw[zf (zBv he hl2 (by intro z;cases z)),zf (zq he hq)]
   exact he
  refine⟨_,rfl,_,rfl,rfl,_,rfl,?_⟩
  refine zDq (fun h1=>?_) (fun h1=>?_)
  . have e1:a=p:=by have:=of_decide_eq_true h1;injection this
    have n2:¬ b=p:=by omega
    refine⟨_,rfl,.inl ⟨rfl,_,SqL.of hl2⟩,_,rfl,_,rfl,by show 2<=sizeLine;decide,fun q hq=>?_⟩
    have nlq:l≠q:=zq hl2 hq
    refine⟨l,_,_,rfl,rfl,by rw[zf nlq];exact hl2,hlen T2,?_⟩
    refine⟨_,rfl,_,rfl,rfl,_,rfl,?_⟩
    rw[show decide (V.int b=V.int p)=false from zb fun e=>n2 (by injection e)]
    refine zCe ?_
    obtain⟨xs',g1,g2,g3⟩:=app (x:=b) q hq
    refine⟨_,_,_,xs',rfl,g2,g1,?_⟩
    rw[hfd,if_pos e1,if_neg n2]
    exact g3
  . have n1:¬ a=p:=fun e=>by
     have:=h1
     rw[e] at this
     exact this (zP rfl)
    refine⟨_,rfl,_,rfl,rfl,_,rfl,?_⟩
    refine zDq (fun h2=>?_) (fun h2=>?_)
    . have e2:b=p:=by have:=of_decide_eq_true h2;injection this
      refine⟨_,rfl,.inl ⟨rfl,_,SqL.of hl2⟩,_,rfl,_,rfl,by show 2<=sizeLine;decide,fun q hq=>?_⟩
      have nlq:l≠q:=zq hl2 hq
      refine⟨l,_,_,rfl,rfl,by rw[zf nlq];exact hl2,hlen T2,?_⟩
      obtain⟨xs',g1,g2,g3⟩:=app (x:=a) q hq
      refine⟨_,_,_,xs',rfl,g2,g1,?_⟩
      rw[hfd,if_neg n1,if_pos e2]
      exact g3
    . have n2:¬ b=p:=fun e=>by
       have:=h2
       rw[e] at this
       exact this (zP rfl)
      refine⟨_,_,_,xs,rfl,s2,hl2,?_⟩
      rw[hfd,if_neg n1,if_neg n2,zp,zp]
      exact T2
 case after=>
  rintro σ H2 ⟨va,vb,vl,xs,rfl,s2,hl2,T2⟩
  rw[hlt,zZ (zH _)] at T2
  have e2:=zHa (n:=n) p (ts:=ts) fun t ht=>(G.rng t ht).2.1
  refine⟨_,rfl,l,xs,fd p ts,rfl,SqL.of hl2,T2,by have:=G.len;omega,fun l' zs ms hl' T3 hp hrs=>?_⟩
  have nll:l'≠l:=fun e=>by rw[e,hl2] at hl';cases hl'
  have hl0:H l'=none:=by
   cases q:H l' with
   | none=>rfl
   | some o=>have:=s2 l' o q;rw[hl'] at this;cases this
  exact k l' zs ms _ (s2.trans (zF hl')) hl0 zG (T3.keep fun e ys he=>zF hl' _ _ he) hp hrs
theorem zIA {ms:List (List Int)}(h:zJ9 ms)(hk:∀k∈ms,∃y l,k=[y,l])(hn:(ms.map hd).Nodup):(ms.map hd).Pairwise (· < ·):=by
 rw[zAs]
 rw[List.Nodup,zAs] at hn
 have both:ms.Pairwise fun a b=>HT.lexLt b a=false/\hd a≠hd b:=by
  rw[zAV]
  intro i j hi hj hij
  exact⟨zAV.mp h i j hi hj hij,zAV.mp hn i j hi hj hij⟩
 refine both.imp_of_mem fun {a b} ha hb hab=>?_
 obtain⟨y,l,rfl⟩:=hk a ha
 obtain⟨z,m,rfl⟩:=hk b hb
 obtain⟨h1,h2⟩:=hab
 have h2':y≠z:=h2
 rw[HT.lexLt_cons,if_neg (Ne.symm h2')] at h1
 have:=of_decide_eq_false h1
 show y<z
 omega
theorem zBt {i j:Int}:decide (V.int i=V.int j)=decide (i=j):=by
 by_cases h:i=j
 . subst h;simp
 . rw[zb h,zb fun e=>h (by injection e)]
noncomputable def lamP:Pos:=⟨73,36,73,64⟩
noncomputable abbrev lamQ:Str:=(("nearest" : Str) ++ ".<locals>.") ++ "<lambda>"
noncomputable abbrev Tb (H:Hp)(PT:Addr):Prop:=zC7 H PT lamP lamQ
noncomputable def zLZ (PT:Addr):Sp:=fun vs H Q _=>∃(d:Addr)(n:Int)(kvs:List (Key×V))(wt:Int->Option Int),vs=[.ref d]/\H d=some (.dK kvs)/\WD n kvs wt/\0<=n/\n<=24/\kvs≠[]/\Tb H PT /\
 ∀(M e:Int)(H':Hp),wt M=some e->(∀q f,wt q=some f->e<=f)->SmP PT H H'->Tb H' PT->Q (.int M) H'
noncomputable def zId (PT:Addr):Sp:=fun vs H Q _=>∃(wa:Addr)(n:Int)(ts:List T3)(s:Int),vs=[.ref wa,.int s]/\zBj H wa n ts/\0<=s/\s<n/\Tb H PT /\
 ∀(l:Addr)(kn:List (Option Int))(H':Hp),SmP PT H H'->Tb H' PT->H' l=some (.tup (kn.map oV))->zKL ts n s kn->Q (.ref l) H'
theorem zBj.smT {PT:Addr}(h:zBj H wa n ts)(k:SmP PT H H'):zBj H' wa n ts:=h.keepT fun b ys e=>by
 rcases k b _ e with ⟨_,ps,z⟩ | z
 . cases z
 . exact z
theorem scNear:zAD ["waiting"] ["waiting"] (defScope zIl):=fS0
variable {c:Addr}
theorem zMp (F:zLT K "nearest" "nearest" zIl f fd' c) (C:PySem.W.CodeHd base c PT)(hbm:zKH mg base)(mMin:mg "min" = none) (mSorted:mg "sorted" = none):zAe P w K mg base CX0 2 f fd' ["waiting"] (zLZ PT):=by
 refine F.ok scNear (fun vs H Q E h=>?_) (fun A outer s H vs Q E hr h=>?_)
 . obtain⟨d,n,kvs,wt,rfl,_⟩:=h
   rfl
 . obtain⟨d,n,kvs,wt,rfl,hd,W,hn0,hn,hne,T,k⟩:=h
   refine⟨_,zg (zAF (zHv (k:=0) (j:=0) (P:=PT) (c:=c) (dn := "waiting") (pn := "place") rfl hr rfl mMin (zE (zt (zGO rfl) mSorted (zE (pv 0) zM)) zM) rfl C hbm rfl rfl rfl rfl rfl (by decide +kernel) (zNE rfl) rfl rfl rfl (fun _ _ _ _ _ _ _=>rfl))),?_⟩
   have hl:=W.len hn0
   refine⟨_,rfl,d,kvs,zEg kvs,rfl,hd,W.keys,by unfold zEg;rw[zD];omega,fun l ms hl' hp _=>?_⟩
   have mem:∀x,x∈ms->∃e,wt x=some e:=fun x hx=>W.mem.mp (hp.mem_iff.mp hx)
   refine⟨l,d,ms,kvs,fun x=>(wt x).getD 0,rfl,zG,fun e=>?_,rfl,by rw[zf (zq hd hl')];exact hd,fun x hx=>?_,T.same (zF hl'),fun M H2 hM hb sm T2=>?_⟩
   . subst e
     have:=hp.length_eq
     unfold zEg at this
     rw[zD] at this
     exact hne (List.eq_nil_of_length_eq_zero this.symm)
   . obtain⟨e,he⟩:=mem x hx
     show zCd kvs (Sum.inl x)=some (.int ((wt x).getD 0))
     rw[W.at_ x,he];rfl
   . obtain⟨e,he⟩:=mem M hM
     refine k M e H2 he (fun q f hq=>?_) ((SmP.of (P:=PT) (zF hl')).trans sm) T2
     have hq':q∈ms:=hp.mem_iff.mpr (W.mem.mpr ⟨f,hq⟩)
     have:=hb q hq'
     simp only[he,hq,zB4] at this
     exact this
theorem zD2:zAD ["web", "start", "known", "waiting", "place", "other", "long", "far"] ["web", "start"] (defScope zIq):=fS0
variable {j:Nat}
theorem zH1 {kn:List (Option Int)}{o:Option Int}:(kn.map oV).set j (oV o)=(kn.set j o).map oV:=by rw[List.map_set]
theorem zF3 {o:Option Int}:decide (oV o=V.non)=o.isNone:=by
 cases o with
 | none=>rfl
 | some d=>exact zb (by intro e;cases e)
variable {fN:Addr}{fdN fdT:FuncData}
theorem zMx {fT:Addr}(F:Fun K "lengths_from" "lengths_from" zIq f fd') (FN:zLT K "nearest" "nearest" zIl fN fdN c) (bN:zDh K fdN ["waiting"] []) (mN:mg "nearest" = some (.ref fN)) (FT:FuB K mg "ties_at" zGk fT fdT ["web","place"])
 (C:PySem.W.CodeHd base c PT)(hbm:zKH mg base)(mMin:mg "min" = none) (mSorted:mg "sorted" = none) (mTuple:mg "tuple" = none):zAe P w K mg base CX0 3 f fd' ["web", "start"] (zId PT):=by
 have GN:zAe P w K mg base CX0 2 fN fdN ["waiting"] (zLZ PT):=zMp FN C hbm mMin mSorted
 have GT:zAe P w K mg base CX0 2 fT fdT ["web", "place"] zIY:=(zI5 FT.F mSorted).mono (by decide)
 refine F.okD zD2 fun _ A _ _ H vs Q E hr h=>?_
 obtain⟨wa,n,ts,st,rfl,W,hs0,hs1,T,k⟩:=h
 obtain⟨ta,tys,hwa,_,_,G⟩:=id W
 have hu:=zK3 hr
 have hn1:=G.n1
 have hn24:=G.n24
 refine⟨_,zO (zAn (i:=2) zD2.nd (zAS zLk (zBy (zE zBF zM)) (zAG zAY (pv 0) ze)))
  (zO (zAn (i:=3) zD2.nd (zMZ (zKk (pv 1) ze zMX) rfl rfl (by decide) (by decide)))
  (zO (zKh PassesOwn.never (zKg (pv 3) (fun _=>rfl))
   (zO (zAn (i:=4) zD2.nd (zGm GN hr rfl mN FN.kp bN .nil pass0 (zE (pv 3) zM)))
   (zO (zDN (zKn (pv 3) (pv 4) ⟨rfl,rfl,rfl,rfl⟩) (zDj (pv 2) (pv 4) zCT))
   (zg (zBl PassesOwn.never rfl (zCH (zAa GT hr FT (zE (pv 0) (zE (pv 4) zM)))) (zEq rfl (zBb (zAj (i:=5) zD2.nd rfl (Or.inl rfl)) (zBb (zAj (i:=6) zD2.nd rfl (Or.inl rfl)) zDZ)))
    (zg (zBN (zAC zDP (zAG zAb (pv 2) (pv 5)) zBF (zAI _))
     (zO (zAn (i:=7) zD2.nd (zAS zBd (zAG zAb (pv 2) (pv 4)) (pv 6)))
     (zg (zGl hu (pv 3) (pv 5) (zt (zGR rfl) mMin (zE (pv 7) (zE (zKp hu (pv 3) (pv 5) (pv 7) ⟨rfl,rfl,rfl,rfl⟩) zM))) rfl))) zAQ)))))))
  (zg (zAF (zBK zAt mTuple (zE (pv 2) zM)))))),?_⟩
 refine⟨by show 1<=sizeLine;decide,fun l0 hl0=>?_⟩
 refine⟨_,rfl,wa,_,_,_,rfl,rfl,SqT.of (zF hl0 _ _ hwa),rfl,l0,n,_,rfl,rfl,zG,by omega,by omega,?_,fun kl hkl=>?_⟩
 . have:sizeLine=16777216:=rfl
   show 1*n.toNat<=sizeLine
   omega
 have s1:zAo H (upd (upd H l0 (.lst [.non])) kl (.lst (List.replicate n.toNat [V.non]).flatten)):=(zF hl0).trans (zF hkl)
 have erep:(List.replicate n.toNat [V.non]).flatten=(List.replicate n.toNat (none:Option Int)).map oV:=by
  generalize n.toNat=m
  induction m with
  | zero=>rfl
  | succ m ih=>rw[zAz,List.flatten_cons,ih,zAz];rfl
 rw[erep] at s1 ⊢
 have hk1:(upd (upd H l0 (.lst [.non])) kl (.lst ((List.replicate n.toNat (none:Option Int)).map oV))) kl=some (.lst ((List.replicate n.toNat (none:Option Int)).map oV)):=zG
 generalize hH1:upd (upd H l0 (.lst [.non])) kl (.lst ((List.replicate n.toNat (none:Option Int)).map oV))=H1 at s1 hk1 ⊢
 intro wd hwd
 refine⟨_,rfl,zG,[(Sum.inl st,.int 0)],rfl,by show 1<=15;decide,?_⟩
 have s2:zAo H (upd (upd H1 wd (.dK [])) wd (.dK [(Sum.inl st,.int 0)])):=by rw[zBZ];exact s1.trans (zF hwd)
 have nkw:kl≠wd:=zq hk1 hwd
 rw[show zEv [] [((Sum.inl st:Key),V.int 0)]=[((Sum.inl st:Key),V.int 0)] from rfl,zBZ]
 rw[zBZ] at s2
 refine⟨fun m σ H2=>∃(kn:List (Option Int))(kvs:List (Key×V))(wt:Int->Option Int)(v4 v5 v6 v7:Option V),σ=[some (.ref wa),some (.int st),some (.ref kl),some (.ref wd),v4,v5,v6,v7]/\m=n.toNat-cnt kn/\SmP PT H H2/\Tb H2 PT/\H2 kl=some (.lst (kn.map oV))/\H2 wd=some (.dK kvs)/\WD n kvs wt/\Dl ts n st kn wt,
  ⟨_,_,_,_,_,_,_,_,rfl,rfl,SmP.of (P:=PT) s2,T.same s2,by rw[zf nkw];exact hk1,zG,WD.one hs0 hs1,Dl.start G hs0 hs1⟩,?_⟩
 rintro m σ H2 ⟨kn,kvs,wt,v4,v5,v6,v7,rfl,rfl,sm,T2,hk2,hw2,WW,D⟩
 cases hkb:kvs.isEmpty with
 | true=>
  refine⟨_,rfl,false,.inr (.inr ⟨kvs,hw2,by rw[hkb];rfl⟩),?_⟩
  refine zCe ?_
  have hkv:kvs=[]:=List.isEmpty_iff.mp hkb
  have hnone:∀q,wt q=none:=fun q=>by
   cases e:wt q with
   | none=>rfl
   | some d=>
    have:=WW.mem.mpr ⟨d,e⟩
    rw[hkv] at this
    simp[zEg] at this
  refine⟨_,rfl,kl,_,rfl,.inl ⟨SqL.of hk2,fun q hq=>?_⟩⟩
  exact k q kn _ (sm.trans (SmP.of (P:=PT) (zF hq))) (T2.same (zF hq)) zG (D.done G hnone)
 | false=>
  refine⟨_,rfl,true,.inr (.inr ⟨kvs,hw2,by rw[hkb];rfl⟩),?_⟩
  refine zCZ ?_
  have hne:kvs≠[]:=by intro e;rw[e] at hkb;cases hkb
  refine⟨fun σ' H'=>∃(kn':List (Option Int))(kvs':List (Key×V))(wt':Int->Option Int)(v4 v5 v6 v7:Option V),σ'=[some (.ref wa),some (.int st),some (.ref kl),some (.ref wd),v4,v5,v6,v7]/\cnt kn'=cnt kn+1/\SmP PT H H'/\Tb H' PT/\H' kl=some (.lst (kn'.map oV))/\H' wd=some (.dK kvs')/\WD n kvs' wt'/\Dl ts n st kn' wt',?_,?_⟩
  . rintro σ' H' ⟨kn',kvs',wt',v4',v5',v6',v7',rfl,hc,sm',T',hk',hw',WW',D'⟩
    have h1:=zJy kn'
    have h2:=D'.ln
    exact⟨n.toNat-cnt kn',by omega,kn',kvs',wt',v4',v5',v6',v7',rfl,rfl,sm',T',hk',hw',WW',D'⟩
  refine⟨_,rfl,wd,n,kvs,wt,rfl,hw2,WW,by omega,hn24,hne,T2,fun M e H3 hM hmin sm3 T3=>?_⟩
  have hk3:H3 kl=some (.lst (kn.map oV)):=sm3.get hk2 (by intro ps z;cases z)
  have hw3:H3 wd=some (.dK kvs):=sm3.get hw2 (by intro ps z;cases z)
  obtain⟨hknM,hM0,hM1,hcnt,N0⟩:=D.enter G hM hmin
  have hval:zCd kvs (Sum.inl M)=some (.int e):=by rw[WW.at_ M,hM];rfl
  refine⟨_,rfl,wd,rfl,.inl ⟨kvs,.inl hw3⟩,_,rfl,kvs,Sum.inl M,_,hw3,rfl,hval,?_⟩
  have hlk:(kn.map oV).length=n.toNat:=by rw[zD];exact D.ln
  have hk3':(upd H3 wd (.dK (zCQ kvs (Sum.inl M)))) kl=some (.lst (kn.map oV)):=by rw[zf nkw];exact hk3
  refine⟨_,rfl,_,rfl,kl,_,M,M.toNat,rfl,rfl,hk3',zF8 hM0 (by rw[hlk];omega),?_⟩
  rw[show V.int e=oV (some e) from rfl,zH1]
  have sm4:SmP PT H (upd (upd H3 wd (.dK (zCQ kvs (Sum.inl M)))) kl (.lst ((kn.set M.toNat (some e)).map oV))):=by
   intro b o hb
   rcases (sm.trans sm3) b o hb with z | z
   . exact .inl z
   . right
     have n1:b≠wd:=fun q=>by
      have hbn:H b=none:=by
       rw[q]
       cases e':H wd with
       | none=>rfl
       | some o'=>have:=s1 wd o' e';rw[hwd] at this;cases this
      rw[hbn] at hb;cases hb
     have n2:b≠kl:=fun q=>by
      have hbn:H b=none:=by
       rw[q]
       cases e':H kl with
       | none=>rfl
       | some o'=>have:=zF (o:=.lst [.non]) hl0 kl o' e';rw[hkl] at this;cases this
      rw[hbn] at hb;cases hb
     rw[zf n2,zf n1];exact z
  have T4:Tb (upd (upd H3 wd (.dK (zCQ kvs (Sum.inl M)))) kl (.lst ((kn.set M.toNat (some e)).map oV))) PT:=by
   refine T3.keep (fun o ho=>?_) fun c φ hc=>?_
   . obtain⟨ps,hps,_⟩:=T3
     have e1:=ho
     rw[hps] at e1;cases e1
     rw[zf (zBv ho hk3 (by intro z;cases z)),zf (zBv ho hw3 (by intro z;cases z))];exact ho
   . rw[zf (zBv hc hk3 (by intro z;cases z)),zf (zBv hc hw3 (by intro z;cases z))];exact hc
  have hk4:(upd (upd H3 wd (.dK (zCQ kvs (Sum.inl M)))) kl (.lst ((kn.set M.toNat (some e)).map oV))) kl=some (.lst ((kn.set M.toNat (some e)).map oV)):=zG
  have hw4:(upd (upd H3 wd (.dK (zCQ kvs (Sum.inl M)))) kl (.lst ((kn.set M.toNat (some e)).map oV))) wd=some (.dK (zCQ kvs (Sum.inl M))):=by rw[zf nkw.symm,zG]
  generalize upd (upd H3 wd (.dK (zCQ kvs (Sum.inl M)))) kl (.lst ((kn.set M.toNat (some e)).map oV))=H4 at sm4 T4 hk4 hw4 ⊢
  refine⟨_,rfl,_,rfl,wa,n,ts,M,rfl,W.smT sm4,fun l zs ms H5 s5 hl5 hl5' T5 hp _=>?_⟩
  have hlz:=T5.length
  refine⟨l,rfl,⟨_,SqL.of hl5'⟩,zDt (K:=K) (a:=l) (xs:=zs) (fun i σ H6=>∃(kvs':List (Key×V))(wt':Int->Option Int)(v5 v6 v7:Option V),σ=[some (.ref wa),some (.int st),some (.ref kl),some (.ref wd),some (.int M),v5,v6,v7]/\(∀b o,b≠wd->H5 b=some o->H6 b=some o)/\H6 wd=some (.dK kvs')/\WD n kvs' wt'/\Dn ts n st M e (kn.set M.toNat (some e)) wt' (fun r=>∃j k,j<i/\ms[j]? = some k/\hd k=r))
   ⟨_,_,_,_,_,rfl,fun _ _ _ z=>z,s5 _ _ hw4,WW.drop,⟨⟨N0.dm.kd,N0.dm.wk,N0.dm.ord,fun q e' r l' hq ha=>(N0.dm.nb q e' r l' hq ha).imp (fun z=>⟨z.1,fun ⟨j,_,hj,_⟩=>absurd hj (zBq _)⟩) id,N0.dm.st,N0.dm.pd,N0.dm.mx⟩,N0.ln,N0.bk,N0.bd,N0.bw⟩⟩
   (fun i σ H6 _ ⟨_,_,_,_,_,_,s6,_⟩=>SqL.of (s6 l _ (zBv hl5' (s5 _ _ hw4) (by intro z;cases z)) hl5')) ?turn ?after⟩
  case after=>
   rintro σ H6 ⟨kvs',wt',v5,v6,v7,rfl,s6,hw6,WW6,N6⟩
   have hk5:H5 kl=some (.lst ((kn.set M.toNat (some e)).map oV)):=s5 _ _ hk4
   refine⟨_,kvs',wt',_,_,_,_,rfl,hcnt,?_,?_,s6 kl _ nkw hk5,hw6,WW6,N6.leave fun r c ha=>?_⟩
   . intro b o hb
     rcases (sm4.trans (SmP.of (P:=PT) s5)) b o hb with z | z
     . exact .inl z
     . right
       refine s6 b o (fun q=>?_) z
       have hbn:H b=none:=by
        rw[q]
        cases e':H wd with
        | none=>rfl
        | some o'=>have:=s1 wd o' e';rw[hwd] at this;cases this
       rw[hbn] at hb;cases hb
   . refine (T4.same s5).keep (fun o ho=>?_) fun c φ hc=>?_
     . obtain⟨ps,hps,_⟩:=T4.same s5
       refine s6 PT o (fun q=>?_) ho
       rw[q,s5 _ _ hw4] at hps;cases hps
     . refine s6 c _ (fun q=>?_) hc
       rw[q,s5 _ _ hw4] at hc;cases hc
   . have hm:[r,c]∈ms:=hp.mem_iff.mpr (zEw.mpr ⟨r,c,rfl,ha⟩)
     obtain⟨j,hj,ej⟩:=zy hm
     exact⟨j,[r,c],by omega,by rw[zA hj,ej],rfl⟩
  case turn=>
   rintro i y σ H6 hi ⟨kvs',wt',v5,v6,v7,rfl,s6,hw6,WW6,N6⟩
   obtain⟨ya,ky,rfl,hky,hya,_⟩:=T5.get hi
   obtain⟨r,c,rfl,ha⟩:=zEw.mp (hp.mem_iff.mp (za hky))
   have hadj:=G.adj ha
   have hk6:H6 kl=some (.lst ((kn.set M.toNat (some e)).map oV)):=s6 kl _ nkw (s5 _ _ hk4)
   have hln:(kn.set M.toNat (some e)).length=n.toNat:=N6.ln
   have seen_of:∀{x:Int},(x=r\/∃j k,j<i/\ms[j]? = some k/\hd k=x)->∃j k,j<i+1/\ms[j]? = some k/\hd k=x:=fun {x} z=>by
    rcases z with rfl | ⟨j,k',hj,hk',e'⟩
    . exact⟨i,[x,c],Nat.lt_succ_self _,hky,rfl⟩
    . exact⟨j,k',zAh hj,hk',e'⟩
   have sub:∀{x:Int},(∃j k,j<i+1/\ms[j]? = some k/\hd k=x)->(∃j k,j<i/\ms[j]? = some k/\hd k=x)\/x=r:=fun {x} ⟨j,k',hj,hk',e'⟩=>by
    by_cases hji:j<i
    . exact .inl ⟨j,k',hji,hk',e'⟩
    . have:j=i:=by omega
      subst this
      rw[hky] at hk';cases hk'
      exact .inr e'.symm
   have conv:∀{wt2:Int->Option Int},Dn ts n st M e (kn.set M.toNat (some e)) wt2 (fun x=>(∃j k,j<i/\ms[j]? = some k/\hd k=x)\/x=r)->Dn ts n st M e (kn.set M.toNat (some e)) wt2 (fun x=>∃j k,j<i+1/\ms[j]? = some k/\hd k=x):=fun {wt2} N=>
    ⟨⟨N.dm.kd,N.dm.wk,N.dm.ord,fun q e' r' l' hq ha'=>(N.dm.nb q e' r' l' hq ha').imp (fun z=>⟨z.1,fun y=>z.2 (sub y)⟩) id,N.dm.st,N.dm.pd,N.dm.mx⟩,N.ln,N.bk,N.bd,N.bw⟩
   refine⟨ya,_,rfl,SqT.of (s6 _ _ (zBv hya (s5 _ _ hw4) (by intro z;cases z)) hya),rfl,_,_,rfl,_,_,rfl,rfl,?_⟩
   obtain⟨o,ho⟩:∃o,(kn.set M.toNat (some e))[r.toNat]? = some o:=⟨_,zA (by omega)⟩
   have hfnl:fnl (kn.set M.toNat (some e)) r=o:=by
    unfold fnl
    rw[if_pos hadj.2.2.1,zC,ho];rfl
   refine⟨_,rfl,_,rfl,kl,_,_,oV o,rfl,rfl,SqL.of hk6,zBH hadj.2.2.1 (by rw[zN,ho];rfl),rfl,_,rfl,?_⟩
   rw[zF3]
   cases o with
   | some f0=>
    refine zCe ?_
    exact⟨kvs',wt',_,_,_,rfl,s6,hw6,WW6,conv (N6.skip hfnl)⟩
   | none=>
    refine zCZ ?_
    have hkM:(kn.set M.toNat (some e))[M.toNat]? = some (some e):=by
     rw[zBY (by have:=D.ln;omega)]
    refine⟨_,rfl,_,rfl,kl,_,_,oV (some e),rfl,rfl,SqL.of hk6,zBH hM0 (by rw[zN,hkM];rfl),_,rfl,_,_,rfl,rfl,?_⟩
    refine⟨_,rfl,_,rfl,wd,rfl,.inl ⟨kvs',.inl hw6⟩,_,rfl,_,rfl,_,zKF.k (k:=Sum.inl r) hw6,?_⟩
    have hg:((zCd kvs' (Sum.inl r)).getD (V.int (e+c)))=V.int ((wt' r).getD (e+c)):=by
     rw[WW6.at_ r]
     cases wt' r <;> rfl
    rw[hg]
    refine⟨_,_,rfl,?_⟩
    have hwl:=WW6.len (by omega)
    refine⟨_,rfl,_,rfl,wd,_,rfl,zLU.k (k:=Sum.inl r) hw6 (zr (by omega)),?_⟩
    exact⟨_,_,_,_,_,rfl,fun b o' hb z=>by rw[zf hb];exact s6 b o' hb z,zG,WW6.put hadj.2.2.1 hadj.2.2.2.1,conv (N6.wait G ha hfnl)⟩
noncomputable def zMD:Sp:=fun vs H Q _=>∃(lh lt:Addr)(n:Int)(ts:List T3)(x y:Int)(kn1 kn2:List (Option Int)),vs=[.ref lh,.ref lt,.int y]/\GW n ts/\0<=x/\x<n/\0<=y/\y<n/\H lh=some (.tup (kn1.map oV))/\H lt=some (.tup (kn2.map oV))/\zKL ts n x kn1/\zKL ts n y kn2 /\
 ∀(l:Addr)(xs:List Int)(H':Hp),zAo H H'->H' l=some (.tup (xs.map V.int))->xs.Pairwise (· < ·)->(∀p,p∈xs↔Btw ts x y p)->Q (.ref l) H'
noncomputable def spNbr:Sp:=fun vs H Q _=>∃(wa lt:Addr)(n:Int)(ts:List T3)(x y:Int)(kn:List (Option Int)),vs=[.ref wa,.int x,.ref lt]/\zBj H wa n ts/\0<=x/\x<n/\0<=y/\y<n/\H lt=some (.tup (kn.map oV))/\zKL ts n y kn /\
 ∀(l:Addr)(xs:List Int)(H':Hp),zAo H H'->H' l=some (.tup (xs.map V.int))->xs.Pairwise (· < ·)->(∀p,p∈xs↔Nxt ts x y p)->Q (.ref l) H'
variable {y:Int}
theorem zCD {s:Int}{kn:List (Option Int)}(h:zKL ts n s kn)(h0:0<=y)(h1:y<n):(kn.map oV)[y.toNat]? = some (oV (fnl kn y)):=by
 have hl:=h.ln
 have hlt:y.toNat<kn.length:=by omega
 rw[zN,zA hlt]
 unfold fnl
 rw[if_pos h0,zC,zA hlt]
 rfl
theorem zEK (q:Nat):lowTo (q+1)=lowTo q++[(q:Int)]:=by unfold lowTo;rw[List.range_succ,zS];rfl
theorem zCi (q:Nat):(lowTo q).length=q:=by unfold lowTo;rw[zD,zAB]
theorem scBwr:zAD ["here", "there", "other", "reached"] ["here", "there", "other"] (defScope sBwr):=fS0
theorem zLn (F:Fun K "between_rows" "between_rows" sBwr f fd') (mRange:mg "range" = none) (mTuple:mg "tuple" = none) (mLen:mg "len" = none):zAe P w K mg base CX0 1 f fd' ["here", "there", "other"] zMD:=by
 refine F.ok scBwr (fun vs H Q E h=>?_) (fun cdv A outer s H2 vs Q E hr h=>?_)
 . obtain⟨lh,lt,n,ts,x,y,kn1,kn2,rfl,_⟩:=h
   rfl
 . obtain⟨lh,lt,n,ts,x,y,kn1,kn2,rfl,G,hx0,hx1,hy0,hy1,hh2,hl2,L1,L2,k⟩:=h
   have hn24:=G.n24
   have hln:=L1.ln
   refine⟨_,zO (zBN (zAC zDP (zAG zAY (pv 0) (pv 2)) zBF (zAI _)) (zg (zAF (zAf zM))) zAQ)
    (zO (zD7 (i:=3) (own:=["place"]) (cn:=["here"]) (ci:=[0]) scBwr.nd rfl (Or.inl rfl) rfl (csc rfl rfl) ⟨rfl,rfl,rfl,trivial⟩ rfl
     (zAX rfl mRange (zE (zt zAE mLen (zE (pv 0) zM)) zM)) (fun _ _ _ _=>zB8)
     (fun _ _ _ _=>zCA (zAC zFJ (zAG zCY (pv 1) (pv 0)) zBF (zAI _))) (fun _ _ _ _=>pv 0))
    (zg (zAF (zBK zAt mTuple (zE
     (zBG (own:=["place"]) (cn:=["here", "there", "other"]) (ci:=[0,1,2]) rfl (csc rfl rfl) ⟨rfl,rfl,rfl,rfl,rfl,rfl,rfl,rfl,rfl,trivial⟩ rfl
      (zCH (pv 3)) (fun _ _ _ _=>zB8)
      (fun _ _ _ _=>zCA (zAC zCI (zAS zBd (zAG zCY (pv 1) (pv 0)) (zAG zCY (pv 2) (pv 0))) (zAG zCY (pv 1) (pv 3)) (zAI _)))
      (fun _ _ _ _=>pv 0)) zM))))),?_⟩
   have hy:=L1.len y hy0 hy1
   refine⟨_,rfl,_,rfl,lh,_,_,oV (fnl kn1 y),rfl,rfl,SqT.of hh2,zBH hy0 (zCD L1 hy0 hy1),rfl,_,rfl,?_⟩
   rw[zF3]
   cases hd:fnl kn1 y with
   | none=>
    refine zCZ ?_
    rw[hd] at hy
    refine⟨zi _,fun l hl=>k l [] _ (zF hl) zG List.Pairwise.nil fun p=>⟨fun z=>by simp at z,fun ⟨a,b,_,_,z⟩=>absurd z.1 (hy _)⟩⟩
   | some d=>
    refine zCe ?_
    rw[hd] at hy
    have hyD:WM.IsD ts x y d:=hy
    refine⟨_,rfl,lh,_,rfl,.inr (SqT.of hh2),n,by rw[zD,hln];exact congrArg (fun z=>[V.int z]) (Int.toNat_of_nonneg (by omega)),by omega,by omega,[.ref lh],rfl,fun D hD=>?_⟩
    refine zBE (lo:=0) (n:=n.toNat) (fun q ys H3=>q<=n.toNat/\ys=((lowTo q).filter fun o=>(fnl kn1 o).isSome).map V.int/\zAo H2 H3/\H3 D=some (.lst ys)) ⟨zi _,rfl,zF hD,zG⟩ (fun q ys H3 h=>?_) (fun q ys H3 hq h=>?_) (fun ys H3 h=>?_)
    . obtain⟨hq,rfl,_⟩:=h
      rw[zD]
      refine zAK (zu _ _) (zr ?_)
      rw[zCi];omega
    . obtain⟨_,rfl,s3,hD3⟩:=h
      rw[zAJ]
      refine⟨⟨rfl,rfl⟩,?_⟩
      refine⟨_,rfl,_,rfl,lh,_,_,oV (fnl kn1 q),rfl,rfl,SqT.of (s3 _ _ hh2),zBH (by omega) (zCD L1 (by omega) (by omega)),rfl,_,rfl,?_⟩
      rw[zF3]
      cases e:fnl kn1 q with
      | none=>
       refine zCe ?_
       refine⟨hq,?_,s3,hD3⟩
       rw[zEK,zAl,zAH (by rw[e];decide),zAM,zp]
      | some a=>
       refine zCZ ?_
       refine⟨_,rfl,hD3,hq,?_,zA0 s3 hD,zG⟩
       rw[zEK,zAl,zAU (by rw[e];rfl),zAM,zS]
       rfl
    . obtain⟨_,rfl,s3,hD3⟩:=h
      generalize hR:((lowTo n.toNat).filter fun o=>(fnl kn1 o).isSome)=R at hD3 ⊢
      have hRm:∀p,p∈R↔(0<=p/\p<n)/\∃a,fnl kn1 p=some a:=fun p=>by
       rw[<-hR,zAu,zCK,zBM]
       constructor
       . rintro ⟨z1,z2⟩;exact⟨by omega,z2⟩
       . rintro ⟨z1,z2⟩;exact⟨by omega,z2⟩
      have hRr:R.Pairwise (· < ·):=by rw[<-hR];exact (zDU _).sublist List.filter_sublist
      have hRl:R.length<=24:=by
       rw[<-hR]
       exact zx (zu _ _) (by rw[zCi];omega)
      have both:∀p,p∈R->∃a b,fnl kn1 p=some a/\fnl kn2 p=some b/\WM.IsD ts x p a/\WM.IsD ts p y b:=fun p hp=>by
       obtain⟨⟨h0,h1⟩,a,ha⟩:=(hRm p).mp hp
       have l1:=L1.len p h0 h1
       rw[ha] at l1
       obtain⟨b,hb,_⟩:=Len.via (show WM.IsD ts x p a from l1) hyD (Len.symm (L2.len p h0 h1))
       have l2:=L2.len p h0 h1
       rw[hb] at l2
       exact⟨a,b,ha,hb,l1,WM.IsD.symm l2⟩
      refine⟨_,rfl,D,rfl,⟨_,SqL.of hD3⟩,[.ref lh,.ref lt,.int y],rfl,fun D2 hD2=>?_⟩
      have nDD:D≠D2:=zq hD3 hD2
      refine zCF (a:=D) (xs:=R.map V.int) (fun i ys H4=>ys=((R.take i).filter fun p=>decide ((fnl kn1 p).getD 0+(fnl kn2 p).getD 0=d)).map V.int/\zAo H3 H4/\H4 D2=some (.lst ys)) ⟨rfl,zF hD2,zG⟩ (fun i ys H4 h=>?_) (fun i ys H4 h=>?_) (fun i v ys H4 hv h=>?_) (fun ys H4 h=>?_)
      . obtain⟨_,s4,_⟩:=h
        exact SqL.of (s4 _ _ hD3)
      . obtain⟨rfl,_⟩:=h
        rw[zD]
        refine zAK (zu _ _) (zr ?_)
        rw[zl];omega
      . obtain⟨rfl,s4,hD4⟩:=h
        obtain⟨p,hp,rfl⟩:∃p,R[i]? = some p/\V.int p=v:=by
         rw[zN] at hv
         cases e:R[i]? with
         | none=>rw[e] at hv;cases hv
         | some p=>rw[e] at hv;exact⟨p,rfl,zU hv⟩
        have hpR:=za hp
        obtain⟨⟨h0,h1⟩,_⟩:=(hRm p).mp hpR
        obtain⟨a,b,ha,hb,_,_⟩:=both p hpR
        have hlh4:H4 lh=some (.tup (kn1.map oV)):=s4 _ _ (s3 _ _ hh2)
        have hlt4:H4 lt=some (.tup (kn2.map oV)):=s4 _ _ (s3 _ _ hl2)
        refine⟨⟨rfl,rfl⟩,?_⟩
        refine⟨_,rfl,_,rfl,lh,_,_,.int a,rfl,rfl,SqT.of hlh4,zBH h0 (by rw[zCD L1 h0 h1,ha];rfl),?_⟩
        refine⟨_,rfl,_,rfl,lt,_,_,.int b,rfl,rfl,SqT.of hlt4,zBH h0 (by rw[zCD L2 h0 h1,hb];rfl),_,_,rfl,rfl,?_⟩
        refine⟨_,rfl,_,rfl,lh,_,_,.int d,rfl,rfl,SqT.of hlh4,zBH hy0 (by rw[zCD L1 hy0 hy1,hd];rfl),rfl,_,rfl,?_⟩
        rw[zBt]
        have etk:(R.take (i+1)).filter (fun p=>decide ((fnl kn1 p).getD 0+(fnl kn2 p).getD 0=d))=(R.take i).filter (fun p=>decide ((fnl kn1 p).getD 0+(fnl kn2 p).getD 0=d))++(if a+b=d then [p] else []):=by
         rw[zw,hp,zAl]
         show _++List.filter _ [p]=_
         rw[zBB,ha,hb]
         by_cases c:a+b=d
         . rw[if_pos (by simpa using c),if_pos c];rfl
         . rw[if_neg (by simpa using c),if_neg c];rfl
        refine zDq (fun c=>?_) (fun c=>?_)
        . have c':=of_decide_eq_true c
          refine⟨_,rfl,hD4,?_,zA0 s4 hD2,zG⟩
          rw[etk,if_pos c',zS];rfl
        . have c':¬ a+b=d:=fun z=>c (zP z)
          refine⟨?_,s4,hD4⟩
          rw[etk,if_neg c',zp]
      . obtain⟨rfl,s4,hD4⟩:=h
        rw[zD,zZ (zH _)] at hD4
        refine⟨D2,_,rfl,.inl ⟨SqL.of hD4,fun q hq=>?_⟩⟩
        refine k q _ _ ((s3.trans s4).trans (zF hq)) zG (hRr.sublist List.filter_sublist) fun p=>?_
        rw[zAu]
        constructor
        . rintro ⟨hp,c⟩
          obtain⟨a,b,ha,hb,ia,ib⟩:=both p hp
          have c':=of_decide_eq_true c
          rw[ha,hb] at c'
          exact⟨a,b,ia,ib,by rw[show a+b=d from c'];exact hyD⟩
        . rintro ⟨a,b,ia,ib,iab⟩
          have hp:=ia.1.in_ G hx0 hx1
          have l1:=Len.uniq (L1.len p hp.1 hp.2) (show Len ts x p (some a) from ia)
          have l2:=Len.uniq (L2.len p hp.1 hp.2) (show Len ts y p (some b) from WM.IsD.symm ib)
          refine⟨(hRm p).mpr ⟨hp,a,l1⟩,zP ?_⟩
          rw[l1,l2]
          exact WM.IsD.uniq iab hyD
theorem scNbr:zAD ["web", "one", "there"] ["web", "one", "there"] (defScope sNbr):=fS0
noncomputable def sl1 (k:List Int):Int:=k.getD 1 0
theorem ok_nbr {fT:Addr}(F:Fun K "next_by_row" "next_by_row" sNbr f fd')
 (FT:FuB K mg "ties_at" zGk fT fdT ["web","place"]) (mSorted:mg "sorted" = none) (mTuple:mg "tuple" = none):zAe P w K mg base CX0 3 f fd' ["web", "one", "there"] spNbr:=by
 have GT:zAe P w K mg base CX0 2 fT fdT ["web", "place"] zIY:=(zI5 FT.F mSorted).mono (by decide)
 refine F.ok scNbr (fun vs H Q E h=>?_) (fun cdv A outer s H1 vs Q E hr h=>?_)
 . obtain⟨wa,lt,n,ts,x,y,kn,rfl,_⟩:=h
   rfl
 . obtain⟨wa,lt,n,ts,x,y,kn,rfl,W,hx0,hx1,hy0,hy1,hl1,L,k⟩:=h
   obtain⟨ta,tys,hwa,_,_,G⟩:=id W
   refine⟨_,zO (zBN (zAC zDP (zAG zAY (pv 2) (pv 1)) zBF (zAI _)) (zg (zAF (zAf zM))) zAQ)
    (zg (zAF (zBK zAt mTuple (zE
     (zBG (own:=["place", "long"]) (cn:=["there", "one"]) (ci:=[2,1]) rfl (csc rfl rfl) ⟨rfl,rfl,rfl,rfl,rfl,rfl,trivial⟩ rfl
      (zCH (zAa GT hr FT (zE (pv 0) (zE (pv 1) zM))))
      (fun _ _ _ _=>zMY (n:=2) rfl (zBb (zB8) (zBb (zAj (i:=1) (zM3 rfl) rfl (Or.inl rfl)) zDZ)))
      (fun _ _ _ _=>zCA (zAC zCI (zAS zBd (pv 1) (zAG zCY (pv 2) (pv 0))) (zAG zCY (pv 2) (pv 3)) (zAI _)))
      (fun _ _ _ _=>pv 0)) zM)))),?_⟩
   have hx:=L.len x hx0 hx1
   refine⟨_,rfl,_,rfl,lt,_,_,oV (fnl kn x),rfl,rfl,SqT.of hl1,zBH hx0 (zCD L hx0 hx1),rfl,_,rfl,?_⟩
   rw[zF3]
   cases hd:fnl kn x with
   | none=>
    refine zCZ ?_
    rw[hd] at hx
    refine⟨zi _,fun l hl=>k l [] _ (zF hl) zG List.Pairwise.nil fun p=>⟨fun z=>by simp at z,fun ⟨a,b,_,_,z⟩=>absurd z.1.symm (hx _)⟩⟩
   | some d=>
    refine zCe ?_
    rw[hd] at hx
    have hxD:WM.IsD ts x y d:=WM.IsD.symm hx
    refine⟨_,rfl,_,rfl,wa,n,ts,x,rfl,W,fun l zs ms H2 s2 hl0 hl2 TT hp hrs=>?_⟩
    have hlz:=TT.length
    have hlt2:H2 lt=some (.tup (kn.map oV)):=s2 _ _ hl1
    have hlm:ms.length<64:=by
     have e2:=zHa (n:=n) x (ts:=ts) fun t ht=>(G.rng t ht).2.1
     have:=G.len
     rw[hp.length_eq];omega
    have near:∀k,k∈ms->∃z c b,k=[z,c]/\Adj ts x z c/\fnl kn z=some b/\WM.IsD ts z y b:=fun k hk=>by
     obtain⟨z,c,e,ha⟩:=zEw.mp (hp.mem_iff.mp hk)
     have hadj:=G.adj ha
     have lz:=L.len z hadj.2.2.1 hadj.2.2.2.1
     cases hz:fnl kn z with
     | none=>rw[hz] at lz;exact absurd (hx.1.snoc ha) (lz _)
     | some b=>rw[hz] at lz;exact⟨z,c,b,e,ha,hz,WM.IsD.symm lz⟩
    refine⟨l,rfl,⟨_,SqL.of hl2⟩,[.ref lt,.int x],rfl,fun D hD=>?_⟩
    have nlD:l≠D:=zq hl2 hD
    refine zCF (a:=l) (xs:=zs) (fun i ys H3=>ys=(((ms.take i).filter fun k=>decide (sl1 k+(fnl kn (WM.hd k)).getD 0=d)).map WM.hd).map V.int/\H3=upd H2 D (.lst ys)) ⟨rfl,rfl⟩ (fun i ys H3 h=>?_) (fun i ys H3 h=>?_) (fun i v ys H3 hv h=>?_) (fun ys H3 h=>?_)
    . obtain⟨_,rfl⟩:=h
      exact SqL.of (by rw[zf nlD];exact hl2)
    . obtain⟨rfl,_⟩:=h
      rw[zD,zD]
      refine zAK (zu _ _) (zr ?_)
      rw[zl];omega
    . obtain⟨rfl,rfl⟩:=h
      obtain⟨ya,ky,rfl,hky,hya,_⟩:=TT.get hv
      obtain⟨z,c,b,rfl,ha,hb,ib⟩:=near ky (za hky)
      have hadj:=G.adj ha
      refine⟨ya,_,rfl,SqT.of (by rw[zf (zq hya hD)];exact hya),rfl,_,_,rfl,_,_,rfl,rfl,⟨rfl,rfl⟩,?_⟩
      have hltD:(upd H2 D (.lst ((((ms.take i).filter fun k=>decide (sl1 k+(fnl kn (WM.hd k)).getD 0=d)).map WM.hd).map V.int))) lt=some (.tup (kn.map oV)):=by rw[zf (zq hlt2 hD)];exact hlt2
      refine⟨_,rfl,_,rfl,_,rfl,lt,_,_,.int b,rfl,rfl,SqT.of hltD,zBH hadj.2.2.1 (by rw[zCD L hadj.2.2.1 hadj.2.2.2.1,hb];rfl),_,_,rfl,rfl,?_⟩
      refine⟨_,rfl,_,rfl,lt,_,_,.int d,rfl,rfl,SqT.of hltD,zBH hx0 (by rw[zCD L hx0 hx1,hd];rfl),rfl,_,rfl,?_⟩
      rw[zBt]
      have etk:(ms.take (i+1)).filter (fun k=>decide (sl1 k+(fnl kn (WM.hd k)).getD 0=d))=(ms.take i).filter (fun k=>decide (sl1 k+(fnl kn (WM.hd k)).getD 0=d))++(if c+b=d then [[z,c]] else []):=by
       rw[zw,hky,zAl]
       show _++List.filter _ [[z,c]]=_
       rw[zBB]
       have e1:decide (sl1 [z,c]+(fnl kn (WM.hd [z,c])).getD 0=d)=decide (c+b=d):=by
        show decide (c+(fnl kn z).getD 0=d)=_
        rw[hb];rfl
       rw[e1]
       by_cases cc:c+b=d
       . rw[if_pos (by simpa using cc),if_pos cc];rfl
       . rw[if_neg (by simpa using cc),if_neg cc];rfl
      refine zDq (fun cc=>?_) (fun cc=>?_)
      . have c':=of_decide_eq_true cc
        refine⟨_,rfl,zG,?_,zBZ⟩
        rw[etk,if_pos c',zS,zS];rfl
      . have c':¬ c+b=d:=fun q=>cc (zP q)
        refine⟨?_,rfl⟩
        rw[etk,if_neg c',zp]
    . obtain⟨rfl,rfl⟩:=h
      refine⟨D,_,rfl,.inl ⟨SqL.of zG,fun q hq=>?_⟩⟩
      rw[hlz,zZ (zH _)] at hq ⊢
      have s4:=(zF (o:=.lst ((((ms.filter fun k=>decide (sl1 k+(fnl kn (WM.hd k)).getD 0=d)).map WM.hd).map V.int))) hD).trans (zF (o:=.tup ((((ms.filter fun k=>decide (sl1 k+(fnl kn (WM.hd k)).getD 0=d)).map WM.hd).map V.int))) hq)
      have hk:∀k∈ms,∃y l,k=[y,l]:=fun k hk=>by
       obtain⟨z,c,b,e,_⟩:=near k hk
       exact⟨z,c,e⟩
      have hrise:=zIA hrs hk ((hp.map WM.hd).nodup_iff.mpr (zLB G x))
      refine k q _ _ (s2.trans s4) zG (hrise.sublist (List.filter_sublist.map _)) fun p=>?_
      rw[zv]
      constructor
      . rintro ⟨k0,hk0,rfl⟩
        obtain⟨hm,c⟩:=zAu.mp hk0
        obtain⟨z,c0,b,rfl,ha,hb,ib⟩:=near k0 hm
        have c':=of_decide_eq_true c
        have c2:c0+b=d:=by
         have:c0+(fnl kn z).getD 0=d:=c'
         rw[hb] at this;exact this
        exact⟨c0,b,ha,ib,by rw[c2];exact hxD⟩
      . rintro ⟨c0,b,ha,ib,iab⟩
        have hm:[p,c0]∈ms:=hp.mem_iff.mpr (zEw.mpr ⟨p,c0,rfl,ha⟩)
        refine⟨[p,c0],zAu.mpr ⟨hm,zP ?_⟩,rfl⟩
        have hadj:=G.adj ha
        have lp:=Len.uniq (L.len p hadj.2.2.1 hadj.2.2.2.1) (show Len ts y p (some b) from WM.IsD.symm ib)
        show c0+(fnl kn p).getD 0=d
        rw[lp]
        exact WM.IsD.uniq iab hxD
noncomputable def zCp (H:Hp)(rs:List Addr)(M:lLO):Prop:=rs.length=M.length/\∀(i:Nat)(r:Addr)(row:List (Option Int)),rs[i]? = some r->M[i]? = some row->H r=some (.tup (row.map oV))
variable {rs:List Addr}
theorem zCp.smT {PT:Addr}{M:lLO}(h:zCp H rs M)(k:SmP PT H H'):zCp H' rs M:=⟨h.1,fun i r row a b=>k.get (h.2 i r row a b) (by intro ps z;cases z)⟩
noncomputable def zHC (PT:Addr):Sp:=fun vs H Q _=>∃(wa:Addr)(n:Int)(ts:List T3),vs=[.ref wa]/\zBj H wa n ts/\Tb H PT /\
 ∀(l:Addr)(rs:List Addr)(M:lLO)(H':Hp),SmP PT H H'->Tb H' PT->H' l=some (.tup (rs.map V.ref))->zCp H' rs M->Rows ts n M->Q (.ref l) H'
theorem scLens:zAD ["web"] ["web"] (defScope zHs):=fS0
variable {fF:Addr}{fdF:FuncData}
theorem zMu (F:Fun K "lengths" "lengths" zHs f fd') (FF:FuB K mg "lengths_from" zIq fF fdF ["web","start"]) (GF:zAe P w K mg base CX0 3 fF fdF ["web", "start"] (zId PT))
 (mRange:mg "range" = none) (mTuple:mg "tuple" = none):zAe P w K mg base CX0 4 f fd' ["web"] (zHC PT):=by
 refine F.okD scLens fun _ A _ _ H vs Q E hr h=>?_
 obtain⟨wa,n,ts,rfl,W,T,k⟩:=h
 obtain⟨ta,tys,hwa,_,_,G⟩:=id W
 have hn24:=G.n24
 have hn1:=G.n1
 refine⟨_,zg (zAF (zBK zAt mTuple (zE
  (zBG (own:=["place"]) (cn:=["web"]) (ci:=[0]) rfl (csc rfl rfl) ⟨rfl,rfl,rfl,trivial⟩ rfl
   (zAX rfl mRange (zE (zAG zAY (pv 0) ze) zM)) (fun _ _ _ _=>zB8) (fun _ _ _ _=>zBn)
   (fun _ _ _ _=>zAa GF hr FF (zE (pv 1) (zE (pv 0) zM)))) zM))),?_⟩
 refine⟨_,rfl,wa,_,_,_,rfl,rfl,SqT.of hwa,rfl,n,rfl,by omega,by omega,[.ref wa],rfl,fun D hD=>?_⟩
 refine zBE (lo:=0) (n:=n.toNat) (fun q ys H1=>q<=n.toNat/\∃(rs:List Addr)(M:lLO),ys=rs.map V.ref/\rs.length=q/\zCp H1 rs M/\(∀x:Nat,x<q->zKL ts n x (M.getD x []))/\SmP PT H H1/\Tb H1 PT/\H1 D=some (.lst ys))
  ⟨zi _,[],[],rfl,rfl,⟨rfl,fun i r row h=>by simp at h⟩,fun x hx=>absurd hx (zBq _),SmP.of (P:=PT) (zF hD),T.same (zF hD),zG⟩ (fun q ys H1 h=>?_) (fun q ys H1 hq h=>?_) (fun ys H1 h=>?_)
 . obtain⟨hq,rs,M,rfl,hl,_⟩:=h
   rw[zD,hl]
   exact zr (by omega)
 . obtain⟨_,rs,M,rfl,hl,R,L,sm,T1,hD1⟩:=h
   rw[zAJ]
   refine⟨⟨rfl,rfl⟩,?_⟩
   refine zGe ?_
   refine⟨_,rfl,_,rfl,wa,n,ts,q,rfl,W.smT sm,by omega,by omega,T1,fun l kn H2 sm2 T2 hl2 L2=>?_⟩
   have hD2:H2 D=some (.lst (rs.map V.ref)):=sm2.get hD1 (by intro ps z;cases z)
   refine⟨hD2,hq,rs++[l],M++[kn],by rw[zS];rfl,by rw[zL,hl];rfl,⟨by rw[zL,zL,R.1];rfl,fun i r row h1 h2=>?_⟩,fun x hx=>?_,(sm.trans sm2).chg hD,T2.chg hD2,zG⟩
   . have key:H2 r=some (.tup (row.map oV)):=by
      by_cases hi:i<rs.length
      . rw[zd hi] at h1
        rw[zd (by rw[<-R.1];exact hi)] at h2
        exact sm2.get (R.2 i r row h1 h2) (by intro ps z;cases z)
      . rw[zV (by omega)] at h1
        rw[zV (by rw[<-R.1];omega),<-R.1] at h2
        cases hz:i-rs.length with
        | zero=>
         rw[hz] at h1 h2
         have e1:l=r:=by simpa using h1
         have e2:kn=row:=by simpa using h2
         subst e1 e2
         exact hl2
        | succ k=>rw[hz] at h1;simp at h1
     rw[zf (zBv key hD2 (by intro z;cases z))]
     exact key
   . by_cases hx':x<q
     . rw[zC,zd (by rw[<-R.1,hl];exact hx'),<-zC]
       exact L x hx'
     . have e:x=q:=by omega
       subst e
       rw[zC,zV (by rw[<-R.1,hl];exact zH _),<-R.1,hl]
       simpa using L2
 . obtain⟨_,rs,M,rfl,hl,R,L,sm,T1,hD1⟩:=h
   refine⟨D,_,rfl,.inl ⟨SqL.of hD1,fun q hq=>?_⟩⟩
   refine k q rs M _ (sm.trans (SmP.of (P:=PT) (zF hq))) (T1.same (zF hq)) zG (R.smT (SmP.of (P:=PT) (zF hq))) ⟨by rw[<-R.1,hl],fun x hx hx'=>?_⟩
   have:=L x.toNat (by omega)
   rw[show ((x.toNat:Nat):Int)=x by omega] at this
   exact this
noncomputable def zDA:PyData->Bool
 | .int _=>true
 | _=>false
noncomputable def zB9 (d:PyData)(a b:Int):Bool:=match d with
 | .int i=>decide (a<=i) && decide (i<=b)
 | _=>false
noncomputable def tupD (d:PyData):Bool:=match d with
 | .tuple _=>true
 | _=>false
noncomputable def zKI (d:PyData)(n:Int):Bool:=match d with
 | .tuple ds=>decide ((ds.length:Int)=n)
 | _=>false
variable {xs:List V}{ds:List PyData}
theorem zCb (h:zA1 H xs ds):xs.length=ds.length:=by
 induction xs generalizing ds with
 | nil=>cases h;rfl
 | cons x xs ih=>
  cases h with
  | cons a b=>rw[zT,zT,ih b]
variable {d:PyData}{i:Nat}
theorem zDJ (h:zA1 H xs ds)(e:ds[i]? = some d):∃x,xs[i]? = some x/\zBA H x d:=by
 induction xs generalizing ds i with
 | nil=>cases h;simp at e
 | cons x xs ih=>
  cases h with
  | cons a b=>
   cases i with
   | zero=>
    simp at e
    subst e
    exact⟨x,rfl,a⟩
   | succ i=>exact ih b (by simpa using e)
variable {v:V}
theorem zAy (k:zAo H H')(s:zBA H v d):zBA H' v d:=
 zBA.rec (motive_1:=fun v d _=>zBA H' v d) (motive_2:=fun xs ds _=>zA1 H' xs ds) .non (fun b=>.bl b) (fun i=>.int i) (fun x=>.str x) (fun e _ ih=>.tup (k _ _ e) ih) (fun e _ ih=>.lst (k _ _ e) ih) .nil (fun _ _ i1 i2=>.cons i1 i2) s
variable {K:PySem.W.Frag}
theorem zDk (s:zBA H v d):∃t bi bb bt:_,zGg K H v t/\PySem.W.kitOne K t (.type "int")=some bi/\PySem.W.kitOne K t (.type "bool")=some bb/\PySem.W.kitOne K t (.type "tuple")=some bt/\(bi && !bb)=zDA d/\bt=tupD d/\(zDA d=true->∃i,v = .int i/\d = .int i)/\(tupD d=true->∃a xs ds,v = .ref a/\H a=some (.tup xs)/\d = .tuple ds/\zA1 H xs ds):=by
 cases s with
 | non=>exact⟨_,_,_,_,.non,rfl,rfl,rfl,rfl,rfl,(fun z=>by cases z),(fun z=>by cases z)⟩
 | bl b=>exact⟨_,_,_,_,.bl b,rfl,rfl,rfl,rfl,rfl,(fun z=>by cases z),(fun z=>by cases z)⟩
 | int i=>exact⟨_,_,_,_,.int i,rfl,rfl,rfl,rfl,rfl,(fun z=>⟨i,rfl,rfl⟩),(fun z=>by cases z)⟩
 | str x=>exact⟨_,_,_,_,.str x,rfl,rfl,rfl,rfl,rfl,(fun z=>by cases z),(fun z=>by cases z)⟩
 | tup e al=>exact⟨_,_,_,_,.tup e,rfl,rfl,rfl,rfl,rfl,(fun z=>by cases z),(fun z=>⟨_,_,_,rfl,e,rfl,al⟩)⟩
 | lst e al=>exact⟨_,_,_,_,.lst e,rfl,rfl,rfl,rfl,rfl,(fun z=>by cases z),(fun z=>by cases z)⟩
noncomputable def zL8:Sp:=fun vs H Q _=>∃(v:V)(d:PyData),vs=[v]/\zBA H v d/\Q (.bl (zDA d)) H
noncomputable def spWi:Sp:=fun vs H Q _=>∃(v:V)(d:PyData)(a b:Int),vs=[v,.int a,.int b]/\zBA H v d/\Q (.bl (zB9 d a b)) H
noncomputable def zKR:Sp:=fun vs H Q _=>∃(v:V)(d:PyData)(n:Int),vs=[v,.int n]/\zBA H v d/\Q (.bl (zKI d n)) H
theorem scNum:zAD ["thing"] ["thing"] (defScope zMP):=fS0
theorem zLm (F:Fun K "is_number" "is_number" zMP f fd') (mIsi:mg "isinstance" = none) (mInt:mg "int" = none) (mBool:mg "bool" = none):zAe P w K mg base CX0 1 f fd' ["thing"] zL8:=by
 refine F.okD scNum fun _ A _ _ H vs Q E hr h=>?_
 obtain⟨v,d,rfl,S,k⟩:=h
 obtain⟨t,bi,bb,bt,ty,e1,e2,_,e4,_⟩:=zDk (K:=K) S
 refine⟨_,zg (zAF (zD9 (zt zBg mIsi (zE (pv 0) (zE (zCo (T := "int") mInt) zM)))
  (zEr (pe_not (zt zBg mIsi (zE (pv 0) (zE (zCo (T := "bool") mBool) zM))))))),?_⟩
 refine⟨_,rfl,_,_,t,bi,rfl,ty,e1,bi,rfl,?_⟩
 rw[<-e4] at k
 cases bi with
 | false=>exact zCe k
 | true=>exact zCZ ⟨_,rfl,_,_,t,bb,rfl,ty,e2,bb,rfl,k⟩
theorem scWi:zAD ["thing", "least", "most"] ["thing", "least", "most"] (defScope sWi):=fS0
theorem ok_wi (F:Fun K "is_within" "is_within" sWi f fd') (FN:FuB K mg "is_number" zMP fN fdN ["thing"]) (mIsi:mg "isinstance" = none) (mInt:mg "int" = none) (mBool:mg "bool" = none) :
 zAe P w K mg base CX0 2 f fd' ["thing", "least", "most"] spWi:=by
 have GN:zAe P w K mg base CX0 1 fN fdN ["thing"] zL8:=zLm FN.F mIsi mInt mBool
 refine F.okD scWi fun _ A _ _ H vs Q E hr h=>?_
 obtain⟨v,d,a,b,rfl,S,k⟩:=h
 refine⟨_,zg (zAF (zD9 (zAa GN hr FN (zE (pv 0) zM)) (zD9 (zCO zMe (pv 1) (pv 0) (zAI _)) (zEr (zCO zMe (pv 0) (pv 2) (zAI _)))))),?_⟩
 refine⟨_,rfl,v,d,rfl,S,zDA d,rfl,?_⟩
 obtain⟨_,_,_,_,_,_,_,_,_,_,hi,_⟩:=zDk (K:=K) S
 cases hn:zDA d with
 | false=>
  refine zCe ?_
  have:zB9 d a b=false:=by
   cases d <;> first | rfl | cases hn
  rw[this] at k
  exact k
 | true=>
  refine zCZ ?_
  obtain⟨i,rfl,rfl⟩:=hi hn
  have k':Q (.bl (decide (a<=i) && decide (i<=b))) H:=k
  refine⟨_,rfl,_,rfl,_,_,rfl,rfl,_,rfl,?_⟩
  by_cases c:a<=i
  . rw[zP c,Bool.true_and] at k'
    exact ifT (zP c) ⟨_,rfl,_,rfl,_,_,rfl,rfl,k'⟩
  . rw[zb c,Bool.false_and] at k'
    exact ifF (zb c) k'
theorem scTof:zAD ["thing", "count"] ["thing", "count"] (defScope sTof):=fS0
theorem ok_tof (F:Fun K "is_tuple_of" "is_tuple_of" sTof f fd') (mIsi:mg "isinstance" = none) (mTuple:mg "tuple" = none) (mLen:mg "len" = none):zAe P w K mg base CX0 1 f fd' ["thing", "count"] zKR:=by
 refine F.okD scTof fun _ A _ _ H vs Q E hr h=>?_
 obtain⟨v,d,n,rfl,S,k⟩:=h
 obtain⟨t,bi,bb,bt,ty,_,_,e3,_,e5,_,ht⟩:=zDk (K:=K) S
 refine⟨_,zg (zAF (zD9 (zt zBg mIsi (zE (pv 0) (zE (zCo (T := "tuple") mTuple) zM)))
  (zEr (zCO zCI (zt zAE mLen (zE (pv 0) zM)) (pv 1) (zAI _))))),?_⟩
 refine⟨_,rfl,_,_,t,bt,rfl,ty,e3,bt,rfl,?_⟩
 rw[e5]
 cases hn:tupD d with
 | false=>
  refine zCe ?_
  have:zKI d n=false:=by
   cases d <;> first | rfl | cases hn
  rw[this] at k
  exact k
 | true=>
  refine zCZ ?_
  obtain⟨a,xs,ds,rfl,ha,rfl,al⟩:=ht hn
  refine⟨_,rfl,a,xs,rfl,.inr (SqT.of ha),_,rfl,rfl,?_⟩
  rw[zBt,zCb al]
  exact k
structure zG5 (n:Int)(os:List Int):Prop where
 ln:os.length=n.toNat
 nd:os.Nodup
 rng:∀p∈os,0<=p/\p<n
noncomputable def IsOrd (n:Int)(d:PyData):Prop:=∃os:List Int,d = .tuple (os.map PyData.int)/\zG5 n os
noncomputable def spOrd:Sp:=fun vs H Q _=>∃(wa p:Addr)(n:Int)(ts:List T3)(os:List Int),vs=[.ref wa,.ref p]/\zBj H wa n ts/\H p=some (.tup (os.map V.int))/\zG5 n os/\∀H',zAo H H'->Q (.bl true) H'
noncomputable def zHB:Sp:=fun vs H Q _=>∃(wa:Addr)(v:V)(d:PyData)(n:Int)(ts:List T3),vs=[.ref wa,v]/\zBj H wa n ts/\zBA H v d/\∀(b:Bool) H',(b=true↔IsOrd n d)->zAo H H'->Q (.bl b) H'
noncomputable def spPl:Sp:=fun vs H Q _=>∃(n:Int)(v:V)(d:PyData),vs=[.int n,v]/\zBA H v d/\Q (.bl (zB9 d 0 (n-1))) H
theorem zHj {a b:Int}(h:zB9 d a b=true):∃i,d = .int i/\a<=i/\i<=b:=by
 cases d with
 | int i=>
  have h':(decide (a<=i) && decide (i<=b))=true:=h
  rw[zBC,zA5,zA5] at h'
  exact⟨i,rfl,h'.1,h'.2⟩
 | _=>cases h
theorem zJS {n:Int}:∀{ds:List PyData},(ds.all fun d=>zB9 d 0 (n-1))=true->∃os:List Int,ds=os.map PyData.int/\∀p∈os,0<=p/\p<n
 | [],_=>⟨[],rfl,fun p h=>by cases h⟩
 | d::ds,h=>by
  rw[List.all_cons,zBC] at h
  obtain⟨i,rfl,h0,h1⟩:=zHj h.1
  obtain⟨os,rfl,hr⟩:=zJS h.2
  refine⟨i::os,rfl,fun p hp=>?_⟩
  rcases zY.mp hp with rfl | hp
  . exact⟨h0,by omega⟩
  . exact hr p hp
theorem zHf {n:Int}:∀{os:List Int},(∀p∈os,0<=p/\p<n)->((os.map PyData.int).all fun d=>zB9 d 0 (n-1))=true
 | [],_=>rfl
 | i::os,h=>by
  rw[zAA,List.all_cons,zBC]
  have:=h i zh
  refine⟨?_,zHf fun p hp=>h p (zX _ hp)⟩
  show (decide (0<=i) && decide (i<=n-1))=true
  rw[zBC,zA5,zA5]
  omega
theorem zEM:∀{a b:List Int},a.map PyData.int=b.map PyData.int->a=b
 | [],[],_=>rfl
 | [],_::_,h=>by cases h
 | _::_,[],h=>by cases h
 | x::a,y::b,h=>by
  rw[zAA,zAA] at h
  injection h with h1 h2
  injection h1 with h1
  rw[h1,zEM h2]
theorem zD1 {H:Hp}:∀{xs:List V}{os:List Int},zA1 H xs (os.map PyData.int)->xs=os.map V.int
 | [],[],_=>rfl
 | [],_::_,h=>by cases h
 | _::_,[],h=>by cases h
 | x::xs,o::os,h=>by
  cases h with
  | cons a b=>
   cases a
   rw[zD1 b]
   rfl
theorem zDV {val:Nat->Int}:∀{k:Nat},(PyProof.Rows.firstMet val k).length=k->((List.range k).map val).Nodup/\PyProof.Rows.firstMet val k=(List.range k).map val
 | 0,_=>⟨by simp,rfl⟩
 | k+1,h=>by
  rw[PyProof.Rows.firstMet_succ] at h ⊢
  have hl:=PyProof.Rows.firstMet_length_le val k
  unfold PyProof.Rows.step_dedup at h ⊢
  by_cases c:((PyProof.Rows.firstMet val k).any fun x=>x==val k)=true
  . rw[if_pos c] at h
    omega
  . rw[if_neg c] at h ⊢
    rw[zL] at h
    obtain⟨h1,h2⟩:=zDV (val:=val) (k:=k) (by simpa using h)
    rw[List.range_succ,zS]
    refine⟨?_,by rw[h2];rfl⟩
    rw[h2] at c
    refine List.nodup_append.mpr ⟨h1,by simp,fun a ha b hb=>?_⟩
    have eb:b=val k:=by simpa using hb
    rw[eb]
    rintro rfl
    exact c (by simpa using ha)
theorem zKy (os:List Int):(List.range os.length).map (fun i=>os.getD i 0)=os:=by
 apply List.ext_getElem
 . simp
 . intro i h1 h2
   simp[zC,h2]
theorem scPl:zAD ["n", "thing"] ["n", "thing"] (defScope sPl):=fS0
theorem ok_pl {fW:Addr}{fdW:FuncData}(F:Fun K "is_place" "is_place" sPl f fd') (FW:FuB K mg "is_within" sWi fW fdW ["thing","least","most"]) (FN:FuB K mg "is_number" zMP fN fdN ["thing"]) (mIsi:mg "isinstance" = none) (mInt:mg "int" = none) (mBool:mg "bool" = none) :
 zAe P w K mg base CX0 3 f fd' ["n", "thing"] spPl:=by
 have GW':zAe P w K mg base CX0 2 fW fdW ["thing", "least", "most"] spWi:=ok_wi FW.F FN mIsi mInt mBool
 refine F.okD scPl fun _ A _ _ H vs Q E hr h=>?_
 obtain⟨n,v,d,rfl,S,k⟩:=h
 refine⟨_,zg (zAF (zAa GW' hr FW (zE (pv 1) (zE ze (zE (zAS zI1 (pv 0) ze) zM))))),?_⟩
 exact⟨_,rfl,_,rfl,_,_,rfl,rfl,v,d,0,n-1,rfl,S,k⟩
theorem scOrd:zAD ["web", "thing", "n"] ["web", "thing"] (defScope sOrd):=fS0
theorem zMo {fT fP:Addr}{fdP:FuncData}(F:Fun K "is_order" "is_order" sOrd f fd') (FT:FuB K mg "is_tuple_of" sTof fT fdT ["thing","count"]) (GT:zAe P w K mg base CX0 3 fT fdT ["thing", "count"] zKR)
 (FP:FuB K mg "is_place" sPl fP fdP ["n","thing"]) (GP:zAe P w K mg base CX0 3 fP fdP ["n", "thing"] spPl)
 (mLen:mg "len" = none) (mAll:mg "all" = none) (mSet:mg "set" = none):zAe P w K mg base CX0 4 f fd' ["web", "thing"] zHB:=by
 refine F.okD scOrd fun _ A _ _ H vs Q E hr h=>?_
 obtain⟨wa,v,d,n,ts,rfl,W,S,k⟩:=h
 obtain⟨ta,tys,hwa,_,_,G⟩:=id W
 have hn1:=G.n1
 have hn24:=G.n24
 refine⟨_,zO (zC8 (i:=2) scOrd.nd rfl (Or.inr rfl) (zAG zAY (pv 0) ze))
  (zO (zBN (PW.pt (zEb (zBx (zBR (zAa GT hr FT (zE (pv 1) (zE (pv 2) zM)))))
   (zDK (zBx (zBR (zt (zFe rfl) mAll (zE (zBG (own:=["place"]) (cn:=["n"]) (ci:=[2]) rfl (csc rfl rfl) ⟨rfl,rfl,rfl,trivial⟩ rfl (zCu (pv 1)) (fun _ _ _ _=>zB8)
    (fun _ _ _ _=>zBn) (fun _ _ _ _=>zAa GP hr FP (zE (pv 1) (zE (pv 0) zM)))) zM))))))) (zg (zAF zEc)) zAQ)
  (zg (zAF (zCO zCI (zt zJ2 mLen (zE (zBK (zJ0 rfl) mSet (zE (pv 1) zM)) zM)) (pv 2) (zAI _))))),?_⟩
 refine⟨_,rfl,wa,_,_,_,rfl,rfl,SqT.of hwa,rfl,?_⟩
 refine⟨_,rfl,_,rfl,v,d,n,rfl,S,zKI d n,rfl,?_⟩
 cases hn:zKI d n with
 | false=>
  refine zCZ (zCZ ?_)
  refine k false H ⟨(fun z=>by cases z),?_⟩ (zAo.refl _)
  rintro ⟨os,rfl,O⟩
  have hn':decide (((os.map PyData.int).length:Int)=n)=false:=hn
  rw[zD,O.ln] at hn'
  exact absurd (of_decide_eq_false hn') (by omega)
 | true=>
  refine zCe ?_
  obtain⟨ds,rfl,hl⟩:∃ds,d = .tuple ds/\(ds.length:Int)=n:=by
   cases d with
   | tuple ds=>
    have hn':decide ((ds.length:Int)=n)=true:=hn
    exact⟨ds,rfl,of_decide_eq_true hn'⟩
   | _=>cases hn
  cases S with
  | @tup a xs _ ha al=>
   have hxl:=zCb al
   refine⟨_,rfl,a,rfl,⟨_,SqT.of ha⟩,[.int n],rfl,fun D hD=>?_⟩
   refine zCU (a:=a) (xs:=xs) (fun i ys H4=>ys=((ds.take i).map fun x=>zB9 x 0 (n-1)).map V.bl/\H4=upd H D (.lst ys)) ⟨rfl,rfl⟩ (fun i ys H4 z=>?_) (fun i ys H4 z=>?_) (fun i x ys H4 hx z=>?_) (fun ys H4 z=>?_)
   . obtain⟨_,rfl⟩:=z
     exact SqT.of (zF hD _ _ ha)
   . obtain⟨rfl,_⟩:=z
     rw[zD,zD,zl]
     exact zr (by omega)
   . obtain⟨rfl,rfl⟩:=z
     have hi:i<ds.length:=by have:=(zK.mp hx).1;omega
     obtain⟨x',hx',Sx⟩:=zDJ al (zA hi)
     rw[hx] at hx'
     cases hx'
     refine⟨⟨rfl,rfl⟩,?_⟩
     refine zGe ?_
     refine⟨_,rfl,_,rfl,n,x,ds[i],rfl,zAy (zF hD) Sx,zG,?_,zBZ⟩
     rw[zw,zA hi,zS,zS];rfl
   . obtain⟨rfl,rfl⟩:=z
     rw[hxl,zZ (zH _)]
     refine⟨D,_,rfl,SqL.of zG,(ds.map fun x=>zB9 x 0 (n-1)).all id,rfl,?_⟩
     have ea:(ds.map fun x=>zB9 x 0 (n-1)).all id=ds.all fun x=>zB9 x 0 (n-1):=by rw[List.all_map];rfl
     rw[ea]
     have sD:=zF (o:=.lst ((ds.map fun x=>zB9 x 0 (n-1)).map V.bl)) hD
     generalize upd H D (.lst ((ds.map fun x=>zB9 x 0 (n-1)).map V.bl))=H4 at sD ⊢
     cases hall:(ds.all fun x=>zB9 x 0 (n-1)) with
     | false=>
      refine zCZ (k false _ ⟨(fun z=>by cases z),?_⟩ sD)
      rintro ⟨os,e,O⟩
      cases e
      rw[zHf O.rng] at hall
      cases hall
     | true=>
      refine zCe ?_
      obtain⟨os,rfl,hr'⟩:=zJS hall
      have hxs:=zD1 al
      subst hxs
      rw[zD] at hl
      refine⟨_,rfl,a,os,rfl,SqT.of (sD _ _ ha),by omega,fun dd SS hdd=>?_⟩
      refine⟨dd,SS,_,rfl,zG,_,rfl,rfl,?_⟩
      refine k _ _ ?_ (sD.trans (zF hdd))
      rw[zBt,zA5]
      constructor
      . intro z
        obtain⟨nd,_⟩:=zDV (val:=fun i=>os.getD i 0) (k:=os.length) (by omega)
        rw[zKy] at nd
        exact⟨os,rfl,by omega,nd,hr'⟩
      . rintro ⟨os',e,O⟩
        have e':=zEM (PyData.tuple.inj e)
        subst e'
        rw[zES O.nd os.length (zH _),zZ (zH _)]
        exact hl
theorem zI6 {k:Nat}(F:zAe P w K mg base CX0 k f fd' ["web", "thing"] zHB):zAe P w K mg base CX0 k f fd' ["web", "thing"] spOrd:=F.imp fun vs H Q E h=>by
 obtain⟨wa,p,n,ts,os,rfl,W,hp,O,k⟩:=h
 have al:∀os:List Int,zA1 H (os.map V.int) (os.map PyData.int):=fun os=>by
  induction os with
  | nil=>exact .nil
  | cons a r ih=>exact .cons (.int a) ih
 refine⟨wa,.ref p,.tuple (os.map PyData.int),n,ts,rfl,W,.tup hp (al os),fun b H' hb s=>?_⟩
 rw[hb.mpr ⟨os,rfl,O⟩]
 exact k H' s
noncomputable def eV (e:En):List V:=[.int e.h,.int e.l,oV e.u,oV e.d]
noncomputable def zGd (H:Hp)(as:List Addr)(es:List En):Prop:=as.length=es.length/\∀(i:Nat)(a:Addr),as[i]? = some a->∃e,es[i]? = some e/\H a=some (.tup (eV e))
noncomputable def zFh (H:Hp)(p:Addr)(es:List En):Prop:=∃as:List Addr,H p=some (.tup (as.map V.ref))/\zGd H as es/\es.length<=1000
variable {es:List En}
theorem zGd.keep {as:List Addr}(h:zGd H as es)(k:∀b ys,H b=some (.tup ys)->H' b=some (.tup ys)):zGd H' as es:=
 ⟨h.1,fun i a ha=>let ⟨e,h1,h2⟩:=h.2 i a ha;⟨e,h1,k _ _ h2⟩⟩
variable {a:Addr}
theorem zGd.snoc {as:List Addr}{e:En}(h:zGd H as es)(ha:H a=some (.tup (eV e))):zGd H (as++[a]) (es++[e]):=by
 refine⟨by rw[zL,zL,h.1];rfl,fun i b hb=>?_⟩
 by_cases c:i<as.length
 . rw[zd c] at hb
   obtain⟨e',h1,h2⟩:=h.2 i b hb
   exact⟨e',by rw[zd (by rw[<-h.1];exact c)];exact h1,h2⟩
 . rw[zV (by omega)] at hb
   have hi:i-as.length=0:=by
    cases z:i-as.length with
    | zero=>rfl
    | succ m=>rw[z] at hb;simp at hb
   rw[hi] at hb
   have:a=b:=by simpa using hb
   subst this
   exact⟨e,by rw[zV (by rw[<-h.1];omega),<-h.1,hi];rfl,ha⟩
theorem zFh.keep {H H':Hp}{p:Addr}{es:List En}(h:zFh H p es)(k:∀b ys,H b=some (.tup ys)->H' b=some (.tup ys)):zFh H' p es:=
 let ⟨as,h1,h2,h3⟩:=h;⟨as,k _ _ h1,h2.keep k,h3⟩
theorem zFh.same (h:zFh H p es)(k:zAo H H'):zFh H' p es:=h.keep fun b ys e=>k _ _ e
noncomputable def rkf (rks:List Int)(p:Int):Int:=rks.getD p.toNat 0
noncomputable def zGa (ts:List T3)(rk:Int->Int)(h v:Int):Prop:=(∃d,WM.IsD ts h v d)/\∀p,Btw ts h v p->rk h<=rk p
noncomputable def MinO (P:Int->Prop):Option Int->Prop
 | none=>∀p,¬ P p
 | some m=>P m/\∀p,P p->m<=p
theorem MinO.congr {P P':Int->Prop}(e:∀p,P p↔P' p):∀{o:Option Int},MinO P o->MinO P' o
 | none,h=>fun p z=>h p ((e p).mpr z)
 | some _,h=>⟨(e _).mp h.1,fun p z=>h.2 p ((e p).mpr z)⟩
structure zNT (ts:List T3)(n:Int)(rk:Int->Int)(v:Int)(e:En):Prop where
 rng:0<=e.h/\e.h<n
 hub:zGa ts rk e.h v
 len:WM.IsD ts v e.h e.l
 up:MinO (Nxt ts v e.h) e.u
 dn:MinO (Nxt ts e.h v) e.d
structure zLR (ts:List T3)(n:Int)(rk:Int->Int)(v:Int)(es:List En):Prop where
 hub:Hub es
 ent:∀e∈es,zNT ts n rk v e
 all:∀h,0<=h->h<n->zGa ts rk h v->∃e∈es,e.h=h
 len:es.length<=24
noncomputable def zKE (H:Hp)(l:Addr)(ess:List (List En)):Prop:=∃as:List Addr,H l=some (.tup (as.map V.ref))/\as.length=ess.length/\∀(i:Nat)(a:Addr),as[i]? = some a->∃es,ess[i]? = some es/\zFh H a es
variable {x:Int}
theorem zCp.at {M:lLO}(RA:zCp H rs M)(RR:Rows ts n M)(h0:0<=x)(h1:x<n) :
 ∃r,(rs.map V.ref)[x.toNat]? = some (.ref r)/\H r=some (.tup ((M.getD x.toNat []).map oV))/\zKL ts n x (M.getD x.toNat []):=by
 have hM:x.toNat<M.length:=by rw[RR.1];omega
 have hr:x.toNat<rs.length:=by rw[RA.1];exact hM
 have e:M[x.toNat]? = some (M.getD x.toNat []):=by rw[zC,zA hM];rfl
 exact⟨rs[x.toNat],by rw[zN,zA hr];rfl,RA.2 _ _ _ (zA hr) e,RR.2 x h0 h1⟩
theorem zCp.same {M:lLO}(h:zCp H rs M)(k:zAo H H'):zCp H' rs M:=⟨h.1,fun i r row a b=>k _ _ (h.2 i r row a b)⟩
theorem zJB {xs:List Int}{Q:VK}(hp:SqT K H p (xs.map V.int))(h:∀u,MinO (· ∈ xs) u->Q (oV u) H):rMinD K (.ref p) .non H Q:=by
 refine⟨p,_,rfl,.inr hp,fun e=>?_,.inr ⟨xs,rfl,fun n hn hm=>h (some n) ⟨hn,hm⟩⟩⟩
 have:xs=[]:=by simpa using e
 exact h none fun q hq=>by rw[this] at hq;simp at hq
structure zKC (H:Hp)(rl ra:Addr)(rs:List Addr)(M:lLO)(rks:List Int)(n:Int)(ts:List T3):Prop where
 tab:H rl=some (.tup (rs.map V.ref))
 rows:zCp H rs M
 right:Rows ts n M
 rk:H ra=some (.lst (rks.map V.int))
 rln:rks.length=n.toNat
 web:GW n ts
theorem zKC.same {rl ra:Addr}{M:lLO}{rks:List Int}(L:zKC H rl ra rs M rks n ts)(k:zAo H H'):zKC H' rl ra rs M rks n ts:=⟨k _ _ L.tab,L.rows.same k,L.right,k _ _ L.rk,L.rln,L.web⟩
theorem zKC.rank {rl ra:Addr}{M:lLO}{rks:List Int}(L:zKC H rl ra rs M rks n ts)(h0:0<=x)(h1:x<n):(rks.map V.int)[x.toNat]? = some (.int (rkf rks x)):=by
 have:x.toNat<rks.length:=by rw[L.rln];omega
 rw[zN,zA this]
 unfold rkf
 rw[zC,zA this]
 rfl
noncomputable def spIsh:Sp:=fun vs H Q _=>∃(rl ra:Addr)(rs:List Addr)(M:lLO)(rks:List Int)(n:Int)(ts:List T3)(h v:Int),vs=[.ref rl,.ref ra,.int h,.int v]/\zKC H rl ra rs M rks n ts/\0<=h/\h<n/\0<=v/\v<n /\
 ∀(b:Bool)(H':Hp),zAo H H'->(b=true↔zGa ts (rkf rks) h v)->Q (.bl b) H'
noncomputable def spEbr:Sp:=fun vs H Q _=>∃(wa rl ra:Addr)(rs:List Addr)(M:lLO)(rks:List Int)(n:Int)(ts:List T3)(v h:Int),vs=[.ref wa,.ref rl,.int v,.int h]/\zBj H wa n ts/\zKC H rl ra rs M rks n ts/\0<=h/\h<n/\0<=v/\v<n/\zGa ts (rkf rks) h v /\
 ∀(a:Addr)(e:En)(H':Hp),zAo H H'->H' a=some (.tup (eV e))->e.h=h->zNT ts n (rkf rks) v e->Q (.ref a) H'
noncomputable def zMA:Sp:=fun vs H Q _=>∃(wa rl ra:Addr)(rs:List Addr)(M:lLO)(rks:List Int)(n:Int)(ts:List T3)(v:Int),vs=[.ref wa,.ref rl,.ref ra,.int v]/\zBj H wa n ts/\zKC H rl ra rs M rks n ts/\0<=v/\v<n /\
 ∀(a:Addr)(es:List En)(H':Hp),zAo H H'->zFh H' a es->zLR ts n (rkf rks) v es->Q (.ref a) H'
theorem scIsh:zAD ["rows", "ranks", "hub", "place"] ["rows", "ranks", "hub", "place"] (defScope sIsh):=fS0
variable {fB:Addr}{fdB:FuncData}
theorem ok_ish (F:Fun K "is_hub" "is_hub" sIsh f fd') (FB:FuB K mg "between_rows" sBwr fB fdB ["here","there","other"]) (mRange:mg "range" = none) (mTuple:mg "tuple" = none) (mLen:mg "len" = none) (mAll:mg "all" = none) :
 zAe P w K mg base CX0 2 f fd' ["rows", "ranks", "hub", "place"] spIsh:=by
 have GB:zAe P w K mg base CX0 1 fB fdB ["here", "there", "other"] zMD:=zLn FB.F mRange mTuple mLen
 refine F.okD scIsh fun _ A _ _ H vs Q E hr h=>?_
 obtain⟨rl,ra,rs,M,rks,n,ts,h,v,rfl,L,h0,h1,v0,v1,k⟩:=h
 have G:=L.web
 have hn24:=G.n24
 refine⟨_,zO (zBN (zAC zDP (zAG zAY (zAG zAY (pv 0) (pv 2)) (pv 3)) zBF (zAI _)) (zg (zAF zEc)) zAQ)
  (zg (zAF (zt (zFe rfl) mAll (zE (zBG (own:=["other"]) (cn:=["ranks", "hub"]) (ci:=[1,2]) rfl (csc rfl rfl) ⟨rfl,rfl,rfl,rfl,rfl,rfl,trivial⟩ rfl
   (zCu (zAa GB hr FB (zE (zAG zAY (pv 0) (pv 2)) (zE (zAG zAY (pv 0) (pv 3)) (zE (pv 3) zM))))) (fun _ _ _ _=>zB8)
   (fun _ _ _ _=>zBn) (fun _ _ _ _=>zCO zMe (zAG zDT (pv 1) (pv 2)) (zAG zDT (pv 1) (pv 0)) (zAI _))) zM)))),?_⟩
 obtain⟨rh,gh,hh,Lh⟩:=L.rows.at L.right h0 h1
 obtain⟨rv,gv,hv,Lv⟩:=L.rows.at L.right v0 v1
 have lhv:=Lh.len v v0 v1
 refine⟨_,rfl,_,rfl,rl,_,_,.ref rh,rfl,rfl,SqT.of L.tab,zBH h0 gh,_,rfl,rh,_,_,oV (fnl (M.getD h.toNat []) v),rfl,rfl,SqT.of hh,zBH v0 (zCD Lh v0 v1),rfl,_,rfl,?_⟩
 rw[zF3]
 cases ed:fnl (M.getD h.toNat []) v with
 | none=>
  rw[ed] at lhv
  refine zCZ ?_
  exact k false H (zAo.refl _) ⟨(fun z=>by cases z),(fun z=>by obtain⟨d,hd⟩:=z.1;exact absurd hd.1 (lhv d))⟩
 | some d=>
  rw[ed] at lhv
  refine zCe ?_
  refine⟨_,rfl,_,rfl,rl,_,_,.ref rh,rfl,rfl,SqT.of L.tab,zBH h0 gh,_,rfl,_,rfl,rl,_,_,.ref rv,rfl,rfl,SqT.of L.tab,zBH v0 gv,_,rfl,rh,rv,n,ts,h,v,_,_,rfl,G,h0,h1,v0,v1,hh,hv,Lh,Lv,fun l xs H1 s1 hl hrise hmem=>?_⟩
  have hxr:∀p∈xs,0<=p/\p<n:=fun p hp=>by
   obtain⟨a,b,ia,_⟩:=(hmem p).mp hp
   exact ia.1.in_ G h0 h1
  have hxl:xs.length<=24:=by
   have:=nd_len (n:=n.toNat) (l:=xs) (hrise.imp fun z=>by omega) fun x hx=>by have:=hxr x hx;omega
   omega
  refine⟨l,rfl,⟨_,SqT.of hl⟩,[.ref ra,.int h],rfl,fun D hD=>?_⟩
  have hra:=s1 _ _ L.rk
  refine zCU (a:=l) (xs:=xs.map V.int) (fun i ys H4=>ys=((xs.take i).map fun p=>decide (rkf rks h<=rkf rks p)).map V.bl/\H4=upd H1 D (.lst ys)) ⟨rfl,rfl⟩ (fun i ys H4 z=>?_) (fun i ys H4 z=>?_) (fun i x ys H4 hx z=>?_) (fun ys H4 z=>?_)
  . obtain⟨_,rfl⟩:=z
    exact SqT.of (by rw[zf (zq hl hD)];exact hl)
  . obtain⟨rfl,_⟩:=z
    rw[zD,zD,zl]
    exact zr (by omega)
  . obtain⟨rfl,rfl⟩:=z
    obtain⟨p,hp,rfl⟩:∃p,xs[i]? = some p/\V.int p=x:=by
     rw[zN] at hx
     cases e:xs[i]? with
     | none=>rw[e] at hx;cases hx
     | some p=>rw[e] at hx;exact⟨p,rfl,zU hx⟩
    have hpr:=hxr p (za hp)
    have hra4:=zF (o:=.lst (((xs.take i).map fun p=>decide (rkf rks h<=rkf rks p)).map V.bl)) hD _ _ hra
    refine⟨⟨rfl,rfl⟩,?_⟩
    refine zGe ?_
    refine⟨_,rfl,_,rfl,ra,_,_,.int (rkf rks h),rfl,rfl,SqL.of hra4,zBH h0 (L.rank h0 h1),_,rfl,_,rfl,ra,_,_,.int (rkf rks p),rfl,rfl,SqL.of hra4,zBH hpr.1 (L.rank hpr.1 hpr.2),_,_,rfl,rfl,zG,?_,zBZ⟩
    rw[zw,hp,zS,zS];rfl
  . obtain⟨rfl,rfl⟩:=z
    rw[zD,zZ (zH _)]
    refine⟨D,_,rfl,SqL.of zG,?_⟩
    refine k _ _ (s1.trans (zF hD)) ⟨fun z=>⟨⟨d,lhv⟩,fun p hp=>?_⟩,fun z=>zB5.mpr fun b hb=>?_⟩
    . have:=zB5.mp z _ (zv.mpr ⟨p,(hmem p).mpr hp,rfl⟩)
      exact of_decide_eq_true this
    . obtain⟨p,hp,rfl⟩:=zv.mp hb
      exact zP (z.2 p ((hmem p).mp hp))
theorem zMN:zAD ["web", "rows", "place", "hub", "up", "down"] ["web", "rows", "place", "hub"] (defScope sEbr):=fS0
theorem ok_ebr {fT:Addr}(F:Fun K "entry_by_rows" "entry_by_rows" sEbr f fd') (FN:FuB K mg "next_by_row" sNbr fN fdN ["web","one","there"])
 (FT:FuB K mg "ties_at" zGk fT fdT ["web","place"]) (mSorted:mg "sorted" = none) (mTuple:mg "tuple" = none) (mMin:mg "min" = none):zAe P w K mg base CX0 4 f fd' ["web", "rows", "place", "hub"] spEbr:=by
 have GN:zAe P w K mg base CX0 3 fN fdN ["web", "one", "there"] spNbr:=ok_nbr FN.F FT mSorted mTuple
 refine F.okD zMN fun _ A _ _ H vs Q E hr h=>?_
 obtain⟨wa,rl,ra,rs,M,rks,n,ts,v,h,rfl,W,L,h0,h1,v0,v1,hh,k⟩:=h
 have hu:=zK3 hr
 refine⟨_,zO (zAn (i:=4) zMN.nd (zIy rfl hu (by rfl) mMin (zE (zAa GN hr FN (zE (pv 0) (zE (pv 2) (zE (zAG zAY (pv 1) (pv 3)) zM)))) zM) zBF))
  (zO (zAn (i:=5) zMN.nd (zIy rfl hu (by rfl) mMin (zE (zAa GN hr FN (zE (pv 0) (zE (pv 3) (zE (zAG zAY (pv 1) (pv 2)) zM)))) zM) zBF))
  (zg (zAF (zAf (zE (pv 3) (zE (zAG zAY (zAG zAY (pv 1) (pv 2)) (pv 3)) (zE (pv 4) (zE (pv 5) zM)))))))),?_⟩
 obtain⟨rh,gh,ha,Lh⟩:=L.rows.at L.right h0 h1
 obtain⟨rv,gv,hv,Lv⟩:=L.rows.at L.right v0 v1
 refine⟨_,rfl,_,rfl,_,rfl,_,rfl,rl,_,_,.ref rh,rfl,rfl,SqT.of L.tab,zBH h0 gh,wa,rh,n,ts,v,h,_,rfl,W,v0,v1,h0,h1,ha,Lh,fun l1 xs H1 s1 hl1 _ hm1=>?_⟩
 refine⟨_,rfl,?_⟩
 unfold tC
 refine zJB (SqT.of hl1) fun u hu1=>?_
 have L1:=L.same s1
 refine⟨_,rfl,_,rfl,_,rfl,_,rfl,rl,_,_,.ref rv,rfl,rfl,SqT.of L1.tab,zBH v0 gv,wa,rv,n,ts,h,v,_,rfl,W.keep s1,h0,h1,v0,v1,s1 _ _ hv,Lv,fun l2 ys H2 s2 hl2 _ hm2=>?_⟩
 refine⟨_,rfl,?_⟩
 dsimp only
 refine zJB (SqT.of hl2) fun d hd1=>?_
 have s12:=s1.trans s2
 have L2':=L.same s12
 obtain⟨dd,hdd⟩:=hh.1
 have lv:=Len.uniq (Lv.len h h0 h1) (show Len ts v h (some dd) from WM.IsD.symm hdd)
 refine⟨_,rfl,_,rfl,_,rfl,rl,_,_,.ref rv,rfl,rfl,SqT.of L2'.tab,zBH v0 gv,_,rfl,rv,_,_,.int dd,rfl,rfl,SqT.of (s12 _ _ hv),zBH h0 (by rw[zCD Lv h0 h1,lv];rfl),_,rfl,_,rfl,by show 4<=sizeLine;decide,fun a ha'=>?_⟩
 exact k a ⟨h,dd,u,d⟩ _ (s12.trans (zF ha')) zG rfl ⟨⟨h0,h1⟩,hh,WM.IsD.symm hdd,hu1.congr hm1,hd1.congr hm2⟩
noncomputable def zNQ (n:Int)(os:List Int)(rk:Int->Int):Prop:=∀p,0<=p->p<n->0<=rk p/\os[(rk p).toNat]? = some p
noncomputable def zKD (ts:List T3)(n:Int)(rk:Int->Int)(ess:List (List En)):Prop:=ess.length=n.toNat/\∀(i:Nat)(es:List En),ess[i]? = some es->zLR ts n rk i es
noncomputable def zMC (PT:Addr):Sp:=fun vs H Q _=>∃(wa p:Addr)(n:Int)(ts:List T3)(os:List Int),vs=[.ref wa,.ref p]/\zBj H wa n ts/\H p=some (.tup (os.map V.int))/\zG5 n os/\Tb H PT /\
 ∀(l:Addr)(ess:List (List En))(rk:Int->Int)(H':Hp),SmP PT H H'->Tb H' PT->zKE H' l ess->zNQ n os rk->zKD ts n rk ess->Q (.ref l) H'
variable {os:List Int}
theorem zG5.mem (O:zG5 n os){p:Int}(h0:0<=p)(h1:p<n):p∈os:=by
 apply zAv
 intro hn
 have:=nd_len (n:=n.toNat) (l:=p::os) (zAO.mpr ⟨hn,O.nd⟩) fun x hx=>by
  rcases zY.mp hx with rfl | hx
  . omega
  . have:=O.rng x hx;omega
 rw[zT,O.ln] at this
 omega
theorem scLbr:zAD ["web", "rows", "ranks", "place", "hubs"] ["web", "rows", "ranks", "place"] (defScope sLbr):=fS0
variable {fI:Addr}{fdI:FuncData}
theorem ok_lbr {fE:Addr}{fdE:FuncData}(F:Fun K "label_by_ranks" "label_by_ranks" sLbr f fd') (FI:FuB K mg "is_hub" sIsh fI fdI ["rows","ranks","hub","place"]) (GI:zAe P w K mg base CX0 4 fI fdI ["rows", "ranks", "hub", "place"] spIsh)
 (FE:FuB K mg "entry_by_rows" sEbr fE fdE ["web","rows","place","hub"]) (GE:zAe P w K mg base CX0 4 fE fdE ["web", "rows", "place", "hub"] spEbr) (mRange:mg "range" = none) (mTuple:mg "tuple" = none) :
 zAe P w K mg base CX0 5 f fd' ["web", "rows", "ranks", "place"] zMA:=by
 refine F.okD scLbr fun _ A _ _ H vs Q E hr h=>?_
 obtain⟨wa,rl,ra,rs,M,rks,n,ts,v,rfl,W,L,v0,v1,k⟩:=h
 obtain⟨ta,tys,hwa,_,_,G⟩:=id W
 have hn1:=G.n1
 have hn24:=G.n24
 refine⟨_,zO (zD7 (i:=4) (own:=["hub"]) (cn:=["rows", "ranks", "place"]) (ci:=[1,2,3]) scLbr.nd rfl (Or.inl rfl) rfl (csc rfl rfl) ⟨rfl,rfl,rfl,rfl,rfl,rfl,rfl,rfl,rfl,trivial⟩ rfl
  (zAX rfl mRange (zE (zAG zAY (pv 0) ze) zM)) (fun _ _ _ _=>zB8)
  (fun _ _ _ _=>zCA (zBR (zAa GI hr FI (zE (pv 1) (zE (pv 2) (zE (pv 0) (zE (pv 3) zM))))))) (fun _ _ _ _=>pv 0))
  (zg (zAF (zBK zAt mTuple (zE (zBG (own:=["hub"]) (cn:=["web", "rows", "place"]) (ci:=[0,1,3]) rfl (csc rfl rfl) ⟨rfl,rfl,rfl,rfl,rfl,rfl,rfl,rfl,rfl,trivial⟩ rfl
   (zCH (pv 4)) (fun _ _ _ _=>zB8) (fun _ _ _ _=>zBn)
   (fun _ _ _ _=>zAa GE hr FE (zE (pv 1) (zE (pv 2) (zE (pv 3) (zE (pv 0) zM)))))) zM)))),?_⟩
 refine⟨_,rfl,wa,_,_,_,rfl,rfl,SqT.of hwa,rfl,n,rfl,by omega,by omega,[.ref rl,.ref ra,.int v],rfl,fun D hD=>?_⟩
 refine zBE (lo:=0) (n:=n.toNat) (fun q ys H3=>q<=n.toNat/\(∃hs:List Int,ys=hs.map V.int/\hs.Pairwise (· < ·)/\∀p,p∈hs↔(0<=p/\p<(q:Int))/\zGa ts (rkf rks) p v)/\zAo H H3/\H3 D=some (.lst ys)) ⟨zi _,⟨[],rfl,List.Pairwise.nil,fun p=>⟨fun z=>by simp at z,fun z=>absurd z.1 (by omega)⟩⟩,zF hD,zG⟩ (fun q ys H3 z=>?_) (fun q ys H3 hq z=>?_) (fun ys H3 z=>?_)
 . obtain⟨hq,⟨hs,rfl,hp,hm⟩,_⟩:=z
   rw[zD]
   have:=nd_len (n:=q) (l:=hs) (hp.imp fun z=>by omega) fun x hx=>by have:=((hm x).mp hx).1;omega
   exact zr (by omega)
 . obtain⟨_,⟨hs,rfl,hp,hm⟩,s3,hD3⟩:=z
   rw[zAJ]
   refine⟨⟨rfl,rfl⟩,?_⟩
   refine⟨_,rfl,_,rfl,_,rfl,_,rfl,rl,ra,rs,M,rks,n,ts,q,v,rfl,L.same s3,by omega,by omega,v0,v1,fun b H4 s4 hb=>?_⟩
   refine⟨_,rfl,?_⟩
   refine zDq (fun c=>?_) (fun c=>?_)
   . refine⟨_,rfl,s4 _ _ hD3,hq,⟨hs++[(q:Int)],by rw[zS];rfl,List.pairwise_append.mpr ⟨hp,List.pairwise_singleton _ _,fun a ha b hb'=>?_⟩,fun p=>?_⟩,zA0 (s3.trans s4) hD,zG⟩
     . have:b=(q:Int):=by simpa using hb'
       have:=((hm a).mp ha).1
       omega
     . rw[zn,hm]
       constructor
       . rintro (⟨a,b⟩ | a)
         . exact⟨by omega,b⟩
         . have:p=(q:Int):=by simpa using a
           subst this
           exact⟨by omega,hb.mp c⟩
       . rintro ⟨a,b⟩
         by_cases e:p=(q:Int)
         . exact .inr (by simpa using e)
         . exact .inl ⟨by omega,b⟩
   . refine⟨hq,⟨hs,rfl,hp,fun p=>?_⟩,s3.trans s4,s4 _ _ hD3⟩
     rw[hm]
     constructor
     . rintro ⟨a,b⟩;exact⟨by omega,b⟩
     . rintro ⟨a,b⟩
       refine⟨?_,b⟩
       have:p≠(q:Int):=fun z=>by subst z;exact c (hb.mpr b)
       omega
 . obtain⟨_,⟨hs,rfl,hp,hm⟩,s3,hD3⟩:=z
   have hsl:hs.length<=24:=by
    have:=nd_len (n:=n.toNat) (l:=hs) (hp.imp fun z=>by omega) fun x hx=>by have:=((hm x).mp hx).1;omega
    omega
   refine⟨_,rfl,D,rfl,⟨_,SqL.of hD3⟩,[.ref wa,.ref rl,.int v],rfl,fun D2 hD2=>?_⟩
   refine zCF (a:=D) (xs:=hs.map V.int) (fun i ys H5=>i<=hs.length/\(∃(as:List Addr)(es:List En),ys=as.map V.ref/\zGd H5 as es/\es.map (·.h)=hs.take i/\∀e∈es,zNT ts n (rkf rks) v e)/\zAo H3 H5/\H5 D2=some (.lst ys)) ⟨zi _,⟨[],[],rfl,⟨rfl,fun i a z=>by simp at z⟩,rfl,by simp⟩,zF hD2,zG⟩ (fun i ys H5 z=>?_) (fun i ys H5 z=>?_) (fun i x ys H5 hx z=>?_) (fun ys H5 z=>?_)
   . exact SqL.of (z.2.2.1 _ _ hD3)
   . obtain⟨_,⟨as,es,rfl,EA,em,_⟩,_⟩:=z
     have:=congrArg List.length em
     rw[zD,zl] at this
     rw[zD,EA.1]
     exact zr (by omega)
   . obtain⟨_,⟨as,es,rfl,EA,em,he⟩,s5,hD5⟩:=z
     obtain⟨p,hpi,rfl⟩:∃p,hs[i]? = some p/\V.int p=x:=by
      rw[zN] at hx
      cases e:hs[i]? with
      | none=>rw[e] at hx;cases hx
      | some p=>rw[e] at hx;exact⟨p,rfl,zU hx⟩
     have hpm:=(hm p).mp (za hpi)
     have s35:=s3.trans s5
     refine⟨⟨rfl,rfl⟩,?_⟩
     refine zGe ?_
     refine⟨_,rfl,_,rfl,_,rfl,_,rfl,wa,rl,ra,rs,M,rks,n,ts,v,p,rfl,W.keep s35,L.same s35,by omega,by omega,v0,v1,hpm.2,fun a e H6 s6 ha ep he'=>?_⟩
     refine⟨s6 _ _ hD5,(zK.mp hpi).1,⟨as++[a],es++[e],by rw[zS];rfl,(EA.keep fun b zs z=>?_).snoc ?_,?_,fun x hx'=>?_⟩,zA0 (s5.trans s6) hD2,zG⟩
     . rw[zf (zBv z hD5 (by intro y;cases y))];exact s6 _ _ z
     . rw[zf (zBv ha (s6 _ _ hD5) (by intro y;cases y))];exact ha
     . rw[zS,em,zw,hpi,<-ep];rfl
     . rcases zn.mp hx' with z | z
       . exact he x z
       . have:x=e:=by simpa using z
         subst this;exact he'
   . obtain⟨_,⟨as,es,rfl,EA,em,he⟩,s5,hD5⟩:=z
     rw[zD,zZ (zH _)] at em
     have hel:es.length<=24:=by have:=congrArg List.length em;rw[zD] at this;omega
     refine⟨D2,_,rfl,.inl ⟨SqL.of hD5,fun l hl=>?_⟩⟩
     refine k l es _ ((s3.trans s5).trans (zF hl)) ⟨as,zG,EA.keep fun b zs z=>zF hl _ _ z,by omega⟩ ⟨?_,he,fun h h0 h1 z=>?_,hel⟩
     . have:=hp
       rw[<-em,zAs] at this
       exact this
     . have:h∈es.map (·.h):=by rw[em];exact (hm h).mpr ⟨by omega,z⟩
       obtain⟨e,e1,e2⟩:=zv.mp this
       exact⟨e,e1,e2⟩
theorem zMO:zAD ["web", "order", "rows", "ranks"] ["web", "order"] (defScope sByo):=fS0
variable {fO fL:Addr}{fdO fdL:FuncData}
theorem ok_byo (F:Fun K "by_order" "by_order" sByo f fd') (FO:FuB K mg "is_order" sOrd fO fdO ["web","thing"]) (GO:zAe P w K mg base CX0 5 fO fdO ["web", "thing"] spOrd)
 (FL:FuB K mg "lengths" zHs fL fdL ["web"]) (GL:zAe P w K mg base CX0 5 fL fdL ["web"] (zHC PT))
 (FB:FuB K mg "label_by_ranks" sLbr fB fdB ["web","rows","ranks","place"]) (GB:zAe P w K mg base CX0 5 fB fdB ["web", "rows", "ranks", "place"] zMA) (mRange:mg "range" = none) (mTuple:mg "tuple" = none) :
 zAe P w K mg base CX0 6 f fd' ["web", "order"] (zMC PT):=by
 refine F.okD zMO fun _ A _ _ H vs Q E hr h=>?_
 obtain⟨wa,p,n,ts,os,rfl,W,hp,O,T,k⟩:=h
 obtain⟨ta,tys,hwa,_,_,G⟩:=id W
 have hn1:=G.n1
 have hn24:=G.n24
 refine⟨_,zO (zBN (zBx (zBR (zAa GO hr FO (zE (pv 0) (zE (pv 1) zM))))) (zg ps_no) zAQ)
  (zO (zC8 (i:=2) zMO.nd rfl (Or.inr rfl) (zAa GL hr FL (zE (pv 0) zM)))
  (zO (zC8 (i:=3) zMO.nd rfl (Or.inr rfl) (zBG (own:=["place"]) (cn:=["order"]) (ci:=[1]) rfl (csc rfl rfl) ⟨rfl,rfl,rfl,trivial⟩ rfl
   (zAX rfl mRange (zE (zAG zAY (pv 0) ze) zM)) (fun _ _ _ _=>zB8) (fun _ _ _ _=>zBn)
   (fun _ _ _ _=>pe_bmT PySem.F.slot_tuple_index PySem.F.type_tuple_index zJA (pv 1) (zE (pv 0) zM))))
  (zg (zAF (zBK zAt mTuple (zE (zBG (own:=["place"]) (cn:=["web", "rows", "ranks"]) (ci:=[0,2,3]) rfl (csc rfl rfl) ⟨rfl,rfl,rfl,rfl,rfl,rfl,rfl,rfl,rfl,trivial⟩ rfl
   (zAX rfl mRange (zE (zAG zAY (pv 0) ze) zM)) (fun _ _ _ _=>zB8) (fun _ _ _ _=>zBn)
   (fun _ _ _ _=>zAa GB hr FB (zE (pv 1) (zE (pv 2) (zE (pv 3) (zE (pv 0) zM)))))) zM)))))),?_⟩
 refine⟨_,rfl,_,rfl,wa,p,n,ts,os,rfl,W,hp,O,fun H0 s0=>?_⟩
 refine⟨_,rfl,zCe ?_⟩
 refine⟨_,rfl,wa,n,ts,rfl,W.keep s0,T.same s0,fun rl rs M H1 sm1 T1 hrl RA RR=>?_⟩
 have sm01:SmP PT H H1:=(SmP.of (P:=PT) s0).trans sm1
 have hwa1:H1 wa=some (.tup [.int n,.ref ta]):=sm01.get hwa (by intro ps z;cases z)
 have hp1:H1 p=some (.tup (os.map V.int)):=sm01.get hp (by intro ps z;cases z)
 have W1:zBj H1 wa n ts:=W.smT sm01
 refine⟨_,rfl,wa,_,_,_,rfl,rfl,SqT.of hwa1,rfl,n,rfl,by omega,by omega,[.ref p],rfl,fun D hD=>?_⟩
 refine zBE (lo:=0) (n:=n.toNat) (fun q ys H3=>q<=n.toNat/\(∃rk:List Int,ys=rk.map V.int/\rk.length=q/\∀(j:Nat)(x:Int),rk[j]? = some x->0<=x/\os[x.toNat]? = some (j:Int))/\H3=upd H1 D (.lst ys)) ⟨zi _,⟨[],rfl,rfl,fun j x z=>by simp at z⟩,rfl⟩ (fun q ys H3 z=>?_) (fun q ys H3 hq z=>?_) (fun ys H3 z=>?_)
 . obtain⟨_,⟨rk,rfl,hl,_⟩,_⟩:=z
   rw[zD]
   exact zr (by omega)
 . obtain⟨_,⟨rk,rfl,hl,hrk⟩,rfl⟩:=z
   rw[zAJ]
   obtain⟨i,hi,ei⟩:=zy (O.mem (p:=(q:Int)) (by omega) (by omega))
   have hoi:os[i]? = some (q:Int):=by rw[zA hi,ei]
   have hp3:=zF (o:=.lst (rk.map V.int)) hD _ _ hp1
   refine⟨⟨rfl,rfl⟩,?_⟩
   refine zGe ?_
   refine⟨_,rfl,⟨p,_,rfl,hp3⟩,_,rfl,p,os,i,q,rfl,rfl,SqT.of hp3,hoi,fun j hj e=>?_,zG,hq,⟨rk++[(i:Int)],by rw[zS];rfl,by rw[zL,hl];rfl,fun j x hx=>?_⟩,zBZ⟩
   . obtain⟨hj',ej⟩:=zK.mp e
     exact zAV.mp (zAL.mp O.nd) j i hj' hi hj (by rw[ej,ei])
   . by_cases c:j<rk.length
     . rw[zd c] at hx
       exact hrk j x hx
     . have hj:j=q:=by
        have:=(zK.mp hx).1
        rw[zL] at this
        simp at this;omega
       subst hj
       rw[zV (by omega),hl,Nat.sub_self] at hx
       have:(i:Int)=x:=by simpa using hx
       subst this
       exact⟨by omega,hoi⟩
 . obtain⟨_,⟨rk,rfl,hl,hrk⟩,rfl⟩:=z
   have sD:zAo H1 (upd H1 D (.lst (rk.map V.int))):=zF hD
   have hDr:(upd H1 D (.lst (rk.map V.int))) D=some (.lst (rk.map V.int)):=zG
   generalize upd H1 D (.lst (rk.map V.int))=H4 at sD hDr ⊢
   have L:zKC H4 rl D rs M rk n ts:=⟨sD _ _ hrl,RA.same sD,RR,hDr,hl,G⟩
   have W4:=W1.keep sD
   refine⟨_,rfl,wa,_,_,_,rfl,rfl,SqT.of (sD _ _ hwa1),rfl,n,rfl,by omega,by omega,[.ref wa,.ref rl,.ref D],rfl,fun D2 hD2=>?_⟩
   refine zBE (lo:=0) (n:=n.toNat) (fun q ys H5=>q<=n.toNat/\(∃(as:List Addr)(ess:List (List En)),ys=as.map V.ref/\as.length=q/\ess.length=q/\(∀(i:Nat)(a:Addr),as[i]? = some a->∃es,ess[i]? = some es/\zFh H5 a es)/\∀(i:Nat)(es:List En),ess[i]? = some es->zLR ts n (rkf rk) i es)/\zAo H4 H5/\H5 D2=some (.lst ys)) ⟨zi _,⟨[],[],rfl,rfl,rfl,fun i a z=>by simp at z,fun i a z=>by simp at z⟩,zF hD2,zG⟩ (fun q ys H5 z=>?_) (fun q ys H5 hq z=>?_) (fun ys H5 z=>?_)
   . obtain⟨_,⟨as,ess,rfl,h1,_⟩,_⟩:=z
     rw[zD]
     exact zr (by omega)
   . obtain⟨_,⟨as,ess,rfl,h1,h2,h3,h4⟩,s5,hD5⟩:=z
     rw[zAJ]
     refine⟨⟨rfl,rfl⟩,?_⟩
     refine zGe ?_
     refine⟨_,rfl,_,rfl,_,rfl,_,rfl,wa,rl,D,rs,M,rk,n,ts,q,rfl,W4.keep s5,L.same s5,by omega,by omega,fun a es H6 s6 la lo=>?_⟩
     refine⟨s6 _ _ hD5,hq,⟨as++[a],ess++[es],by rw[zS];rfl,by rw[zL,h1];rfl,by rw[zL,h2];rfl,fun i b hb=>?_,fun i es' he=>?_⟩,zA0 (s5.trans s6) hD2,zG⟩
     . have keep:∀c zs,H6 c=some (.tup zs)->(upd H6 D2 (.lst (as.map V.ref++[.ref a]))) c=some (.tup zs):=fun c zs z=>by rw[zf (zBv z (s6 _ _ hD5) (by intro y;cases y))];exact z
       by_cases c:i<as.length
       . rw[zd c] at hb
         obtain⟨es',e1,e2⟩:=h3 i b hb
         exact⟨es',by rw[zd (by omega)];exact e1,(e2.same s6).keep keep⟩
       . have hi:i=q:=by
          have:=(zK.mp hb).1
          rw[zL] at this
          simp at this;omega
         subst hi
         rw[zV (by omega),h1,Nat.sub_self] at hb
         have:a=b:=by simpa using hb
         subst this
         exact⟨es,by rw[zV (by omega),h2,Nat.sub_self];rfl,la.keep keep⟩
     . by_cases c:i<ess.length
       . rw[zd c] at he
         exact h4 i es' he
       . have hi:i=q:=by
          have:=(zK.mp he).1
          rw[zL] at this
          simp at this;omega
         subst hi
         rw[zV (by omega),h2,Nat.sub_self] at he
         have:es=es':=by simpa using he
         subst this
         exact lo
   . obtain⟨_,⟨as,ess,rfl,h1,h2,h3,h4⟩,s5,hD5⟩:=z
     refine⟨D2,_,rfl,.inl ⟨SqL.of hD5,fun l hl'=>?_⟩⟩
     have s6:zAo H1 (upd H5 l (.tup (as.map V.ref))):=(sD.trans s5).trans (zF hl')
     refine k l ess (rkf rk) _ (sm01.trans (SmP.of (P:=PT) s6)) (T1.same s6) ⟨as,zG,by omega,fun i a ha=>?_⟩ (fun p h0 h1'=>?_) ⟨h2,h4⟩
     . obtain⟨es,e1,e2⟩:=h3 i a ha
       exact⟨es,e1,e2.same (zF hl')⟩
     . have hlt:p.toNat<rk.length:=by omega
       have e:rk[p.toNat]? = some (rkf rk p):=by
        unfold rkf
        rw[zC,zA hlt];rfl
       obtain⟨a,b⟩:=hrk _ _ e
       exact⟨a,by rw[b,Int.toNat_of_nonneg h0]⟩
theorem zGG:∀(l:List Int)(k:Nat),(l.map V.int).eraseIdx k=(l.eraseIdx k).map V.int
 | [],_=>rfl
 | _::_,0=>rfl
 | x::r,k+1=>by
  show V.int x::(r.map V.int).eraseIdx k=V.int x::(r.eraseIdx k).map V.int
  rw[zGG r k]
theorem zE2:∀{l:List Int}{k:Nat}(h:k<l.length),(l[k]::l.eraseIdx k).Perm l
 | [],_,h=>absurd h (zBq _)
 | _::_,0,_=>List.Perm.refl _
 | x::r,k+1,h=>by
  have hk:k<r.length:=by simpa using h
  show (r[k]::x::r.eraseIdx k).Perm (x::r)
  exact (List.Perm.swap x r[k] _).trans ((zE2 hk).cons x)
noncomputable def zIZ:Sp:=fun vs H Q _=>∃(t:Addr)(N:Nat)(n:Int),vs=[.ref t,.int n]/\zAN H t N/\N<900000/\1<=n/\n<=24 /\
 ∀(l:Addr)(os:List Int)(H':Hp),H' l=some (.tup (os.map V.int))->zG5 n os->zAN H' t (N+24)->Sm t H H'->Q (.ref l) H'
noncomputable def TLen (H:Hp)(l:Addr)(ks:List Nat):Prop:=∃as:List Addr,H l=some (.tup (as.map V.ref))/\as.length=ks.length/\∀(i:Nat)(a:Addr),as[i]? = some a->∃ys:List V,H a=some (.tup ys)/\ks[i]? = some ys.length
variable {ess:List (List En)}
theorem zKE.tlen (h:zKE H l ess):TLen H l (ess.map List.length):=by
 obtain⟨as,h1,h2,h3⟩:=h
 refine⟨as,h1,by rw[zD];exact h2,fun i a ha=>?_⟩
 obtain⟨es,e1,bs,e2,EA,_⟩:=h3 i a ha
 exact⟨_,e2,by rw[zN,e1,zD,EA.1];rfl⟩
noncomputable def spTot:Sp:=fun vs H Q _=>∃(l:Addr)(ks:List Nat),vs=[.ref l]/\TLen H l ks/\ks.length<=24/\∀H',zAo H H'->Q (.int (ks.map fun k:Nat=>(k:Int)).sum) H'
theorem zFE:zAD ["_law_tape_here", "_law_n", "_law_left", "_law_found", "_law_k"] ["_law_tape_here", "_law_n"] (defScope zHI):=fS0
theorem zKr {fD:Addr}(F:Fun K "_law_order" "_law_order" zHI f fd') (FD:FuB K mg "_law_draw" zEa fD fdD ["_law_tape_here","_law_many"])
 (mLen:mg "len" = none) (mRange:mg "range" = none) (mTuple:mg "tuple" = none) (mList:mg "list" = none):zAe P w K mg base CX0 2 f fd' ["_law_tape_here", "_law_n"] zIZ:=by
 have GD:zAe P w K mg base CX0 1 fD fdD ["_law_tape_here", "_law_many"] zGh:=zFM FD.F mLen
 refine F.okD zFE fun _ A _ _ H vs Q E hr h=>?_
 obtain⟨t,N,n,rfl,TT,hN,hn1,hn24,k⟩:=h
 obtain⟨tp,TP⟩:=TT
 refine⟨_,zO (zAn (i:=2) zFE.nd (zFz rfl rfl mList rfl mRange (zE (pv 1) zM)))
  (zO (zAn (i:=3) zFE.nd (zBy zM))
  (zO (zBl PassesOwn.never rfl (zAX rfl mRange (zE (pv 1) zM)) (zAj (i:=4) zFE.nd rfl (Or.inl rfl))
   (zg (zCg (zFI PySem.F.plainAttrs_list PySem.F.slot_list_append PySem.F.type_list_append zBr (pv 3)
    (zE (zFI PySem.F.plainAttrs_list PySem.F.slot_list_pop PySem.F.type_list_pop zKv (pv 2)
     (zE (zAa GD hr FD (zE (pv 0) (zE (zt zAE mLen (zE (pv 2) zM)) zM))) zM)) zM)))))
  (zg (zAF (zBK zAt mTuple (zE (pv 3) zM)))))),?_⟩
 refine⟨_,rfl,n,rfl,by omega,by omega,fun lf hlf=>?_⟩
 obtain⟨ns0,sp0,re0,ht0,hp0,_⟩:=id TP
 have nlt:lf≠t:=(zq ht0 hlf).symm
 have nlp:lf≠tp:=(zq hp0 hlf).symm
 refine⟨zi _,fun D hD=>?_⟩
 have nDl:D≠lf:=fun z=>by rw[z,zG] at hD;cases hD
 have hD0:H D=none:=by rw[zf nDl] at hD;exact hD
 have nDt:D≠t:=(zq ht0 hD0).symm
 have nDp:D≠tp:=(zq hp0 hD0).symm
 refine⟨_,rfl,n,rfl,by omega,by omega,zBT (lo:=0) (n:=n.toNat) (fun q σ H2=>∃(v4:Option V)(row left:List Int),σ=[some (.ref t),some (.int n),some (.ref lf),some (.ref D),v4]/\row.length=q/\(row++left).Perm (lowTo n.toNat)/\H2 lf=some (.lst (left.map V.int))/\H2 D=some (.lst (row.map V.int))/\zFg H2 t tp (N+q)/\Sm t H H2)
  ⟨none,[],lowTo n.toNat,rfl,rfl,List.Perm.refl _,by rw[zf nDl.symm,zG],zG,TP.keepF (fun o e=>by rw[zf nDt.symm,zf nlt.symm];exact e) (fun o e=>by rw[zf nDp.symm,zf nlp.symm];exact e) (by omega),(Sm.laid hlf).chg hD0⟩ ?turn ?after⟩
 case after=>
  rintro σ H2 ⟨v4,row,left,rfl,hl,hp,hlf2,hD2,TP2,s2⟩
  have hleft:left=[]:=by
   have:=hp.length_eq
   rw[zL,zCi,hl] at this
   exact List.length_eq_zero_iff.mp (by omega)
  subst hleft
  rw[zp] at hp
  have nd:row.Nodup:=hp.nodup_iff.mpr ((zDU _).imp fun h=>by omega)
  refine⟨_,rfl,D,_,rfl,.inl ⟨SqL.of hD2,fun l hl'=>?_⟩⟩
  refine k l row _ zG ⟨hl,nd,fun p hp'=>?_⟩ (zAN.mono (zAN.laid ⟨tp,TP2⟩ hl') (by omega)) (s2.trans (Sm.laid hl'))
  have:=zCK.mp (hp.mem_iff.mp hp')
  omega
 case turn=>
  rintro q σ H2 hq ⟨v4,row,left,rfl,hl,hp,hlf2,hD2,TP2,s2⟩
  have hll:row.length+left.length=n.toNat:=by
   have:=hp.length_eq
   rw[zL,zCi] at this
   exact this
  refine⟨_,rfl,.inl ⟨rfl,_,SqL.of hD2⟩,_,rfl,.inl ⟨rfl,_,SqL.of hlf2⟩,?_⟩
  refine⟨_,rfl,_,rfl,lf,_,rfl,.inl (SqL.of hlf2),t,tp,N+q,_,rfl,TP2,by omega,by rw[zD];omega,by rw[zD];omega,fun rr H3 h0 h1 TP3 e3=>?_⟩
  rw[zD] at h1
  have hlt:rr.toNat<left.length:=by omega
  refine⟨lf,left.map V.int,rr,rr.toNat,.int left[rr.toNat],rfl,rfl,by rw[e3 lf nlt];exact hlf2,by omega,by omega,PySem.StrLaws.seqIndex_nonneg h0 (by rw[zD];omega),by rw[zN,zA hlt];rfl,?_⟩
  rw[zGG left rr.toNat]
  have s3:Sm t H H3:=fun b o nb e=>by rw[e3 b nb];exact s2 b o nb e
  have hlf0:H lf=none:=hlf
  refine⟨D,_,_,rfl,rfl,by rw[zf nDl,e3 D nDt];exact hD2,by rw[zD];exact zr (by omega),?_⟩
  refine⟨_,row++[left[rr.toNat]],left.eraseIdx rr.toNat,rfl,by rw[zL,hl];rfl,?_,by rw[zf nDl.symm,zG],by rw[zS];exact zG,TP3.keepF (fun o e=>by rw[zf nDt.symm,zf nlt.symm];exact e) (fun o e=>by rw[zf nDp.symm,zf nlp.symm];exact e) (by omega),(s3.chg hlf0).chg hD0⟩
  refine List.Perm.trans ?_ hp
  rw[List.append_assoc]
  exact (zE2 hlt).append_left row
theorem scTot:zAD ["labels"] ["labels"] (defScope sTot):=fS0
theorem ok_tot (F:Fun K "total" "total" sTot f fd') (mLen:mg "len" = none) (mSum:mg "sum" = none):zAe P w K mg base CX0 1 f fd' ["labels"] spTot:=by
 refine F.okD scTot fun _ A _ _ H vs Q E hr h=>?_
 obtain⟨l,ks,rfl,⟨as,hl,hal,hk⟩,hkl,k⟩:=h
 refine⟨_,zg (zAF (zt (zEU rfl) mSum (zE (zBG (own:=["label"]) (cn:=[]) (ci:=[]) rfl (csc rfl rfl) trivial rfl (zCu (pv 0)) (fun _ _ _ _=>zB8) (fun _ _ _ _=>zBn)
  (fun _ _ _ _=>zt zFb mLen (zE (pv 0) zM))) zM))),?_⟩
 refine⟨_,rfl,l,rfl,⟨_,SqT.of hl⟩,[],rfl,fun D hD=>?_⟩
 refine zCU (a:=l) (xs:=as.map V.ref) (fun i ys H4=>ys=((ks.take i).map fun k:Nat=>(k:Int)).map V.int/\H4=upd H D (.lst ys)) ⟨rfl,rfl⟩ (fun i ys H4 z=>?_) (fun i ys H4 z=>?_) (fun i x ys H4 hx z=>?_) (fun ys H4 z=>?_)
 . obtain⟨_,rfl⟩:=z
   exact SqT.of (by rw[zf (zq hl hD)];exact hl)
 . obtain⟨rfl,_⟩:=z
   rw[zD,zD,zl]
   exact zr (by omega)
 . obtain⟨rfl,rfl⟩:=z
   obtain⟨a,ha,rfl⟩:∃a,as[i]? = some a/\V.ref a=x:=by
    rw[zN] at hx
    cases e:as[i]? with
    | none=>rw[e] at hx;cases hx
    | some a=>rw[e] at hx;exact⟨a,rfl,zU hx⟩
   obtain⟨zs,e1,e2⟩:=hk i a ha
   refine⟨⟨rfl,rfl⟩,?_⟩
   refine zGe ?_
   refine⟨_,rfl,a,zs,rfl,.inr (SqT.of (zF hD _ _ e1)),zG,?_,zBZ⟩
   rw[zw,e2,zS,zS];rfl
 . obtain⟨rfl,rfl⟩:=z
   rw[zD,hal,zZ (zH _)]
   exact⟨D,_,rfl,SqL.of zG,k _ (zF hD)⟩
noncomputable def Free (ts:List T3)(ps:List Int)(h v:Int):Prop:=(∃d,WM.IsD ts h v d)/\∀q∈ps,¬ Btw ts h v q
noncomputable def zJe (ts:List T3)(ps:List Int)(h v:Int):Bool:=@decide (Free ts ps h v) (Classical.propDecidable _)
variable {ps:List Int}
theorem zGB {h v:Int}:zJe ts ps h v=true↔Free ts ps h v:=by
 unfold zJe
 exact @zA5 _ (Classical.propDecidable _)
noncomputable def cntF (ts:List T3)(n:Int)(ps:List Int)(h:Int):Nat:=((lowTo n.toNat).filter (zJe ts ps h)).length
theorem zLO {p:Int}(h:Btw ts x y p):∃d,WM.IsD ts x y d:=by
 obtain⟨a,b,_,_,e⟩:=h
 exact⟨_,e⟩
theorem zJd {xs:List Int}{h v:Int}(G:GW n ts)(hb:∀p,p∈xs↔Btw ts h v p):Free ts ps h v↔xs≠[]/\∀p∈xs,p∉ps:=by
 constructor
 . rintro ⟨⟨d,hd⟩,z⟩
   refine⟨fun e=>?_,fun p hp hq=>z p hq ((hb p).mp hp)⟩
   have:=(hb h).mpr (Btw.self G hd)
   rw[e] at this
   cases this
 . rintro ⟨ne,z⟩
   obtain⟨p,hp⟩:=List.exists_mem_of_ne_nil xs ne
   exact⟨zLO ((hb p).mp hp),fun q hq hB=>z q ((hb q).mpr hB) hq⟩
theorem zH6 {l k:List Int}(h1:l.Nodup)(h2:k.Nodup)(e:∀x,x∈l↔x∈k):l.length=k.length:=
 Nat.le_antisymm (zHR h1 fun x hx=>(e x).mp hx) (zHR h2 fun x hx=>(e x).mpr hx)
theorem zLr (m:Nat):(lowTo m).Nodup:=(zDU m).imp fun h=>by omega
theorem zD0 (f:Nat->Nat):∀l:List Nat,((l.map fun k=>((f k:Nat):Int)).sum)=(((l.map f).sum:Nat):Int)
 | []=>rfl
 | a::l=>by rw[zAA,zB0,zD0 f l,zAA,zB0,Int.natCast_add]
noncomputable def zNB (ts:List T3)(rk:Int->Int)(h v:Int):Bool:=@decide (zGa ts rk h v) (Classical.propDecidable _)
variable {rk:Int->Int}
theorem zHX {h v:Int}:zNB ts rk h v=true↔zGa ts rk h v:=by
 unfold zNB
 exact @zA5 _ (Classical.propDecidable _)
theorem rk_at (O:zG5 n os)(R:zNQ n os rk){k:Nat}{h:Int}(hk:os[k]? = some h):rk h=k:=by
 have hr:=O.rng h (za hk)
 obtain⟨a,b⟩:=R h hr.1 hr.2
 obtain⟨h1,e1⟩:=zK.mp hk
 obtain⟨h2,e2⟩:=zK.mp b
 apply zAv
 intro hne
 have hp:=zAV.mp (zAL.mp O.nd)
 by_cases c:k<(rk h).toNat
 . exact hp k (rk h).toNat h1 h2 c (by rw[e1,e2])
 . exact hp (rk h).toNat k h2 h1 (by omega) (by rw[e1,e2])
theorem zEC (O:zG5 n os)(R:zNQ n os rk){k:Nat}{q:Int}(h0:0<=q)(h1:q<n):q∈os.take k↔rk q<k:=by
 obtain⟨a,b⟩:=R q h0 h1
 constructor
 . intro h
   obtain⟨i,hi,e⟩:=zy h
   rw[zl] at hi
   rw[List.getElem_take] at e
   have:os[i]? = some q:=by rw[zA (by omega),e]
   have:=rk_at O R this
   omega
 . intro h
   obtain⟨h2,e2⟩:=zK.mp b
   have hl:(rk q).toNat<(os.take k).length:=by rw[zl];omega
   have:(os.take k)[(rk q).toNat]=q:=by rw[List.getElem_take];exact e2
   exact this ▸ zAq hl
theorem zK8 (G:GW n ts)(O:zG5 n os)(R:zNQ n os rk){k:Nat}{h v:Int}(hk:os[k]? = some h):Free ts (os.take k) h v↔zGa ts rk h v:=by
 have hr:=O.rng h (za hk)
 have er:=rk_at O R hk
 constructor
 . rintro ⟨d,z⟩
   refine⟨d,fun p hp=>?_⟩
   obtain⟨a,b,ia,_⟩:=id hp
   have hpr:=ia.1.in_ G hr.1 hr.2
   apply zAv
   intro hlt
   exact z p ((zEC O R hpr.1 hpr.2).mpr (by omega)) hp
 . rintro ⟨d,z⟩
   refine⟨d,fun q hq hB=>?_⟩
   have hqr:=O.rng q (zBQ hq)
   have:=(zEC O R hqr.1 hqr.2).mp hq
   have:=z q hB
   omega
theorem zIF (G:GW n ts)(O:zG5 n os)(R:zNQ n os rk){k:Nat}{h:Int}(hk:os[k]? = some h):cntF ts n (os.take k) h=((lowTo n.toNat).filter (zNB ts rk h)).length:=by
 unfold cntF
 rw[List.filter_congr fun v _=>Bool.eq_iff_iff.mpr (zGB.trans ((zK8 G O R hk).trans zHX.symm))]
theorem zM8 {v:Int}(L:zLR ts n rk v es):es.length=((lowTo n.toNat).filter fun h=>zNB ts rk h v).length:=by
 rw[<-zD (f:=fun e:En=>e.h)]
 refine zH6 ?_ ((zLr _).filter _) fun x=>?_
 . rw[zAL,zAs]
   exact L.hub.imp fun h=>by omega
 . rw[zAu,zHX]
   constructor
   . intro hx
     obtain⟨e,he,rfl⟩:=zv.mp hx
     have:=(L.ent e he).rng
     exact⟨zCK.mpr (by omega),(L.ent e he).hub⟩
   . rintro ⟨a,b⟩
     have:=zCK.mp a
     obtain⟨e,he,rfl⟩:=L.all x this.1 (by omega) b
     exact zv.mpr ⟨e,he,rfl⟩
theorem zFS {l k:List Nat}(h:l.Perm k):l.sum=k.sum:=by
 induction h with
 | nil=>rfl
 | cons x _ ih=>rw[zB0,zB0,ih]
 | swap x y l=>simp only[zB0];omega
 | trans _ _ a b=>exact a.trans b
theorem zM2 {l k:List Int}(h1:l.Nodup)(h2:k.Nodup)(e:∀x,x∈l↔x∈k):l.Perm k:=(List.perm_ext_iff_of_nodup h1 h2).mpr e
theorem zNN (G:GW n ts)(O:zG5 n os)(R:zNQ n os rk)(L:zKD ts n rk ess){bs:List Nat}(hl:bs.length=n.toNat)
 (hb:∀(k:Nat)(h:Int),os[k]? = some h->bs[k]? = some (cntF ts n (os.take k) h)):bs.sum=(ess.map List.length).sum:=by
 have e1:bs=os.map fun h=>((lowTo n.toNat).filter (zNB ts rk h)).length:=by
  apply List.ext_getElem?
  intro k
  rw[zN]
  cases e:os[k]? with
  | none=>
   have:=List.getElem?_eq_none_iff.mp e
   exact List.getElem?_eq_none_iff.mpr (by have:=O.ln;omega)
  | some h=>rw[hb k h e,zIF G O R e];rfl
 have e2:ess.map List.length=(lowTo n.toNat).map fun v=>((lowTo n.toNat).filter fun h=>zNB ts rk h v).length:=by
  apply List.ext_getElem?
  intro k
  rw[zN,zN]
  cases e:ess[k]? with
  | none=>
   have:=List.getElem?_eq_none_iff.mp e
   have hk:(lowTo n.toNat)[k]? = none:=List.getElem?_eq_none_iff.mpr (by rw[lowTo,zD,zAB];have:=L.1;omega)
   rw[hk];rfl
  | some es=>
   have hk:=(zK.mp e).1
   have hlk:(lowTo n.toNat)[k]? = some (k:Int):=by rw[lowTo,zN,zB1 (by have:=L.1;omega)];rfl
   rw[hlk]
   show some es.length=some _
   rw[zM8 (L.2 k es e)]
 have hp:os.Perm (lowTo n.toNat):=zM2 O.nd (zLr _) fun x=>⟨fun hx=>zCK.mpr (by have:=O.rng x hx;omega),fun hx=>O.mem (zCK.mp hx).1 (by have:=zCK.mp hx;omega)⟩
 rw[e1,e2,<-dbl (zNB ts rk)]
 exact zFS (hp.map _)
noncomputable def spSn:Sp:=fun vs H Q _=>∃(p:Addr)(ps:List Int),vs=[.ref p]/\H p=some (.tup (ps.map V.int))/\(∀x∈ps,0<=x/\x<24)/\ps.length<=24/\∀(H':Hp),zAo H H'->Q (.int (sn ps)) H'
noncomputable def spSf:Sp:=fun vs H Q _=>∃(rl:Addr)(rs:List Addr)(M:lLO)(n:Int)(ts:List T3)(h:Int),vs=[.ref rl,.int h]/\GW n ts/\H rl=some (.tup (rs.map V.ref))/\zCp H rs M/\Rows ts n M/\0<=h/\h<n /\
 ∀(l:Addr)(bs:List (List Int))(H':Hp),zAo H H'->H' l=some (.lst ((bs.map sn).map V.int))->bs.length=n.toNat->(∀(i:Nat)(xs:List Int),bs[i]? = some xs->xs.Pairwise (· < ·)/\∀p,p∈xs↔Btw ts h i p)->Q (.ref l) H'
noncomputable def cfB (k m:Int):Bool:=!decide (m=0) && decide (PySem.Builtin.bitAnd m k=0)
noncomputable def spCf:Sp:=fun vs H Q _=>∃(l:Addr)(ns:List Int)(k:Int),vs=[.ref l,.int k]/\H l=some (.lst (ns.map V.int))/\ns.length<=24/\∀(H':Hp),zAo H H'->Q (.int ((ns.filter (cfB k)).length:Nat)) H'
theorem zKU {α β:Type}{f:α->β}{l:List α}{a:α}(h:l[i]? = some a):(l.take (i+1)).map f=(l.take i).map f++[f a]:=by
 rw[zw,h,zS];rfl
theorem int_at {l:List Int}{x:V}(h:(l.map V.int)[i]? = some x):∃y,l[i]? = some y/\V.int y=x:=by
 rw[zN] at h
 cases e:l[i]? with
 | none=>rw[e] at h;cases h
 | some y=>rw[e] at h;exact⟨y,rfl,zU h⟩
theorem zJ4 {xs:List Int}:PySem.Builtin.bitAnd (sn xs) (sn ps)=((snN (xs.map Int.toNat) &&& snN (ps.map Int.toNat):Nat):Int):=by
 rw[zEk,zEk]
 unfold PySem.Builtin.bitAnd
 rw[zP (Int.natCast_nonneg _),zP (Int.natCast_nonneg _)]
 rfl
theorem zNK {xs:List Int}{h v:Int}(G:GW n ts)(h0:0<=h)(h1:h<n)(nd:ps.Nodup)(rng:∀x∈ps,0<=x/\x<n)(hr:xs.Pairwise (· < ·))(hb:∀p,p∈xs↔Btw ts h v p):cfB (sn ps) (sn xs)=zJe ts ps h v:=by
 have x0:∀p∈xs,0<=p:=fun p hp=>by
  obtain⟨a,b,ia,_⟩:=(hb p).mp hp
  exact (ia.1.in_ G h0 h1).1
 apply Bool.eq_iff_iff.mpr
 rw[zGB,zJd G hb]
 unfold cfB
 rw[zBC,Bool.not_eq_true',decide_eq_false_iff_not,zA5,zMG,zJ4,sn_and (hr.imp fun z=>by omega) nd x0 fun q hq=>(rng q hq).1]
theorem zEi {α:Type}{l:List α}{f:α->Int}{k:List Int}{p q:Int->Bool}(hl:l.length=k.length)(h:∀(i:Nat)(a:α)(b:Int),l[i]? = some a->k[i]? = some b->p (f a)=q b):((l.map f).filter p).length=(k.filter q).length:=by
 induction l generalizing k with
 | nil=>cases k with
  | nil=>rfl
  | cons _ _=>simp at hl
 | cons a l ih=>cases k with
  | nil=>simp at hl
  | cons b k=>
   have e:=h 0 a b rfl rfl
   have r:=ih (k:=k) (by simpa using hl) fun i a' b' h1 h2=>h (i+1) a' b' h1 h2
   rw[zAA,zBB,zBB,e]
   by_cases c:q b=true
   . rw[if_pos c,if_pos c,zT,zT,r]
   . rw[if_neg c,if_neg c,r]
theorem scSn:zAD ["places"] ["places"] (defScope sSn):=fS0
theorem ok_sn (F:Fun K "set_number" "set_number" sSn f fd') (mSum:mg "sum" = none):zAe P w K mg base CX0 1 f fd' ["places"] spSn:=by
 refine F.okD scSn fun _ A _ _ H vs Q E hr h=>?_
 obtain⟨p,ps,rfl,hp,rng,hl,k⟩:=h
 refine⟨_,zg (zAF (zt (zEU rfl) mSum (zE (zBG (own:=["place"]) (cn:=[]) (ci:=[]) rfl (csc rfl rfl) trivial rfl (zCu (pv 0)) (fun _ _ _ _=>zB8) (fun _ _ _ _=>zBn)
  (fun _ _ _ _=>zAS zCc ze (pv 0))) zM))),?_⟩
 refine⟨_,rfl,p,rfl,⟨_,SqT.of hp⟩,[],rfl,fun D hD=>?_⟩
 refine zCU (a:=p) (xs:=ps.map V.int) (fun i ys H4=>ys=((ps.take i).map fun x=>(1:Int)*2 ^ x.toNat).map V.int/\H4=upd H D (.lst ys)) ⟨rfl,rfl⟩ (fun i ys H4 z=>?_) (fun i ys H4 z=>?_) (fun i x ys H4 hx z=>?_) (fun ys H4 z=>?_)
 . obtain⟨_,rfl⟩:=z
   exact SqT.of (by rw[zf (zq hp hD)];exact hp)
 . obtain⟨rfl,_⟩:=z
   rw[zD,zD,zl]
   exact zr (by omega)
 . obtain⟨rfl,rfl⟩:=z
   obtain⟨y,hy,rfl⟩:=int_at hx
   have yr:=rng y (za hy)
   refine⟨⟨rfl,rfl⟩,?_⟩
   refine zGe ?_
   refine⟨_,rfl,1,y,rfl,rfl,⟨yr.1,by omega,by decide⟩,zG,?_,zBZ⟩
   rw[zKU hy,zS];rfl
 . obtain⟨rfl,rfl⟩:=z
   rw[zD,zZ (zH _)]
   exact⟨D,_,rfl,SqL.of zG,k _ (zF hD)⟩
theorem scSf:zAD ["rows", "hub"] ["rows", "hub"] (defScope sSf):=fS0
variable {fS:Addr}{fdS:FuncData}
theorem ok_sf (F:Fun K "sets_from" "sets_from" sSf f fd') (FS:FuB K mg "set_number" sSn fS fdS ["places"]) (FB:FuB K mg "between_rows" sBwr fB fdB ["here","there","other"])
 (mRange:mg "range" = none) (mTuple:mg "tuple" = none) (mLen:mg "len" = none) (mSum:mg "sum" = none):zAe P w K mg base CX0 2 f fd' ["rows", "hub"] spSf:=by
 have GB:zAe P w K mg base CX0 1 fB fdB ["here", "there", "other"] zMD:=zLn FB.F mRange mTuple mLen
 have GS:zAe P w K mg base CX0 1 fS fdS ["places"] spSn:=ok_sn FS.F mSum
 refine F.okD scSf fun _ A _ _ H vs Q E hr h=>?_
 obtain⟨rl,rs,M,n,ts,h,rfl,G,hrl,RA,RR,h0,h1,k⟩:=h
 have hn24:=G.n24
 have hn1:=G.n1
 have hrs:rs.length=n.toNat:=RA.1.trans RR.1
 refine⟨_,zg (zAF (zBG (own:=["place"]) (cn:=["rows", "hub"]) (ci:=[0,1]) rfl (csc rfl rfl) ⟨rfl,rfl,rfl,rfl,rfl,rfl,trivial⟩ rfl
  (zAX rfl mRange (zE (zt zAE mLen (zE (pv 0) zM)) zM)) (fun _ _ _ _=>zB8) (fun _ _ _ _=>zBn)
  (fun _ _ _ _=>zAa GS hr FS (zE (zAa GB hr FB (zE (zAG zCY (pv 1) (pv 2)) (zE (zAG zCY (pv 1) (pv 0)) (zE (pv 0) zM)))) zM)))),?_⟩
 refine⟨_,rfl,rl,_,rfl,.inr (SqT.of hrl),n,by rw[zD,hrs];exact congrArg (fun z=>[V.int z]) (Int.toNat_of_nonneg (by omega)),by omega,by omega,[.ref rl,.int h],rfl,fun D hD=>?_⟩
 refine zBE (lo:=0) (n:=n.toNat) (fun q ys H1=>q<=n.toNat/\zAo H H1/\H1 D=some (.lst ys)/\∃bs:List (List Int),ys=(bs.map sn).map V.int/\bs.length=q/\∀(i:Nat)(xs:List Int),bs[i]? = some xs->xs.Pairwise (· < ·)/\∀p,p∈xs↔Btw ts h i p)
  ⟨zi _,zF hD,zG,[],rfl,rfl,fun i xs z=>by simp at z⟩ (fun q ys H1 z=>?_) (fun q ys H1 hq z=>?_) (fun ys H1 z=>?_)
 . obtain⟨hq,_,_,bs,rfl,hl,_⟩:=z
   rw[zD,zD,hl]
   exact zr (by omega)
 . obtain⟨_,s1,hD1,bs,rfl,hl,hbs⟩:=z
   rw[zAJ]
   obtain⟨rh,gh,hh,Lh⟩:=(RA.same s1).at RR h0 h1
   obtain⟨rv,gv,hv,Lv⟩:=(RA.same s1).at RR (x:=(q:Int)) (by omega) (by omega)
   have hrl1:=s1 _ _ hrl
   refine⟨⟨rfl,rfl⟩,?_⟩
   refine zGe ?_
   refine⟨_,rfl,_,rfl,rl,_,_,.ref rh,rfl,rfl,SqT.of hrl1,zBH h0 gh,_,rfl,_,rfl,rl,_,_,.ref rv,rfl,rfl,SqT.of hrl1,zBH (by omega) gv,_,rfl,rh,rv,n,ts,h,q,_,_,rfl,G,h0,h1,by omega,by omega,hh,hv,Lh,Lv,fun l xs H2 s2 hl2 hrise hmem=>?_⟩
   have hxr:∀p∈xs,0<=p/\p<n:=fun p hp=>by
    obtain⟨a,b,ia,_⟩:=(hmem p).mp hp
    exact ia.1.in_ G h0 h1
   have hxl:xs.length<=24:=by
    have:=nd_len (n:=n.toNat) (l:=xs) (hrise.imp fun z=>by omega) fun x hx=>by have:=hxr x hx;omega
    omega
   refine⟨l,xs,rfl,hl2,fun x hx=>by have:=hxr x hx;omega,hxl,fun H3 s3=>?_⟩
   have s13:=s2.trans s3
   refine⟨s13 _ _ hD1,hq,zA0 (s1.trans s13) hD,zG,bs++[xs],by rw[zS,zS];rfl,by rw[zL,hl];rfl,fun i ys hi=>?_⟩
   by_cases c:i<bs.length
   . rw[zd c] at hi
     exact hbs i ys hi
   . have hi':i=q:=by
      have:=(zK.mp hi).1
      rw[zL] at this
      simp at this;omega
     subst hi'
     rw[zV (by omega),hl,Nat.sub_self] at hi
     have:xs=ys:=by simpa using hi
     subst this
     exact⟨hrise,hmem⟩
 . obtain⟨_,s1,hD1,bs,rfl,hl,hbs⟩:=z
   exact k D bs H1 s1 hD1 hl hbs
theorem scCf:zAD ["sets", "taken"] ["sets", "taken"] (defScope sCf):=fS0
theorem ok_cf (F:Fun K "count_free" "count_free" sCf f fd') (mLen:mg "len" = none):zAe P w K mg base CX0 1 f fd' ["sets", "taken"] spCf:=by
 refine F.okD scCf fun _ A _ _ H vs Q E hr h=>?_
 obtain⟨l,ns,t,rfl,hl,hn,k⟩:=h
 refine⟨_,zg (zAF (zt zAE mLen (zE (zBG (own:=["members"]) (cn:=["taken"]) (ci:=[1]) rfl (csc rfl rfl) ⟨rfl,rfl,rfl,trivial⟩ rfl (zCH (pv 0)) (fun _ _ _ _=>zB8)
  (fun _ _ _ _=>zCA (PW.pt (zDi (zAC zHx (pv 0) ze (zAI _)) (zD6 (zAC zCI (zAS zEt (pv 0) (pv 1)) ze (zAI _)))))) (fun _ _ _ _=>pv 0)) zM))),?_⟩
 refine⟨_,rfl,l,rfl,⟨_,SqL.of hl⟩,[.int t],rfl,fun D hD=>?_⟩
 have nlD:l≠D:=zq hl hD
 refine zCF (a:=l) (xs:=ns.map V.int) (fun i ys H4=>ys=((ns.take i).filter (cfB t)).map V.int/\H4=upd H D (.lst ys)) ⟨rfl,rfl⟩ (fun i ys H4 z=>?_) (fun i ys H4 z=>?_) (fun i x ys H4 hx z=>?_) (fun ys H4 z=>?_)
 . obtain⟨_,rfl⟩:=z
   exact SqL.of (by rw[zf nlD];exact hl)
 . obtain⟨rfl,_⟩:=z
   rw[zD]
   refine zAK (zu _ _) ?_
   rw[zl]
   exact zr (by omega)
 . obtain⟨rfl,rfl⟩:=z
   obtain⟨m,hm,rfl⟩:=int_at hx
   have st:(ns.take (i+1)).filter (cfB t)=(ns.take i).filter (cfB t)++[m].filter (cfB t):=by rw[zw,hm,zAl];rfl
   refine⟨⟨rfl,rfl⟩,?_⟩
   refine⟨_,rfl,rfl,_,rfl,?_⟩
   rw[zBt]
   by_cases c:m=0
   . refine ifF (by rw[zP c];rfl) ?_
     refine zCe ⟨?_,rfl⟩
     rw[st,zAH (by unfold cfB;rw[zP c];simp),zAM,zp]
   . refine ifT (by rw[zb c];rfl) ?_
     refine⟨_,rfl,_,rfl,_,_,rfl,rfl,rfl,_,rfl,?_⟩
     rw[zBt]
     by_cases c2:PySem.Builtin.bitAnd m t=0
     . refine ifT (zP c2) ?_
       refine⟨_,rfl,zG,?_,zBZ⟩
       rw[st,zAU (by unfold cfB;rw[zb c,zP c2];rfl),zAM,zS];rfl
     . refine ifF (zb c2) ⟨?_,rfl⟩
       rw[st,zAH (by unfold cfB;rw[zb c2,Bool.and_false];simp),zAM,zp]
 . obtain⟨rfl,rfl⟩:=z
   rw[zD,zZ (zH _)]
   refine⟨D,_,rfl,.inl (SqL.of zG),?_⟩
   rw[zD]
   exact k _ (zF hD)
theorem zCG (p:Nat):(1:Int)*2 ^ ((p:Int)).toNat=((2 ^ p:Nat):Int):=by
 rw[zAR,Int.one_mul,Int.natCast_pow];rfl
theorem zDw (a b:Nat):PySem.Builtin.bitAnd ↑a ↑b=((a &&& b:Nat):Int):=by
 unfold PySem.Builtin.bitAnd
 rw[zP (Int.natCast_nonneg _),zP (Int.natCast_nonneg _)]
 rfl
theorem zG4 {t p:Nat}:(t &&& 2 ^ p=0)↔t.testBit p=false:=by
 constructor
 . intro e
   have:=congrArg (Nat.testBit · p) e
   simp only[Nat.testBit_and,Nat.testBit_two_pow_self,Nat.zero_testBit,Bool.and_true] at this
   exact this
 . intro h
   apply Nat.eq_of_testBit_eq
   intro j
   rw[Nat.testBit_and,Nat.testBit_two_pow,Nat.zero_testBit]
   by_cases c:p=j
   . subst c;rw[h,Bool.false_and]
   . rw[zb c,Bool.and_false]
theorem zLP {t p:Nat}(h:t.testBit p=false):PySem.Builtin.bitOr (t:Int) ((2 ^ p:Nat):Int)=((t+2 ^ p:Nat):Int):=by
 rw[PyProof.Rows.bitOr_and,zDw,zG4.mpr h]
 omega
noncomputable def zAm (t n:Nat):List Nat:=(List.range n).filter fun p=>!t.testBit p
theorem zBX {t n p:Nat}:p∈zAm t n↔p<n/\t.testBit p=false:=by
 unfold zAm
 rw[zAu,zAW,Bool.not_eq_true']
noncomputable def brg (R:List (List Int))(t h:Nat):Nat:=((R.getD h []).filter (cfB (t:Int))).length
noncomputable def zIH (H:Hp)(rs:List Addr)(R:List (List Int)):Prop:=rs.length=R.length/\∀(i:Nat)(r:Addr)(row:List Int),rs[i]? = some r->R[i]? = some row->H r=some (.lst (row.map V.int))
variable {R:List (List Int)}
theorem zIH.same (h:zIH H rs R)(k:zAo H H'):zIH H' rs R:=⟨h.1,fun i r row a b=>k _ _ (h.2 i r row a b)⟩
noncomputable def zBi (H:Hp)(sl:Addr)(R:List (List Int)):Prop:=∃rs:List Addr,H sl=some (.lst (rs.map V.ref))/\zIH H rs R
theorem zBi.same {H H':Hp}{sl:Addr}{R:List (List Int)}(h:zBi H sl R)(k:zAo H H'):zBi H' sl R:=by
 obtain⟨rs,a,b⟩:=h
 exact⟨rs,k _ _ a,b.same k⟩
noncomputable def zL9:Sp:=fun vs H Q _=>∃(wa ta:Addr)(n t:Nat),vs=[.ref wa,.int t]/\H wa=some (.tup [.int n,.ref ta])/\n<=24/\∀(l:Addr)(H':Hp),H l=none->zAo H H'->H' l=some (.lst ((zAm t n).map fun (p:Nat)=>V.int p))->Q (.ref l) H'
theorem scLpl:zAD ["web", "taken"] ["web", "taken"] (defScope sLpl):=fS0
theorem ok_lpl (F:Fun K "left_places" "left_places" sLpl f fd') (mRange:mg "range" = none):zAe P w K mg base CX0 1 f fd' ["web", "taken"] zL9:=by
 refine F.okD scLpl fun _ A _ _ H vs Q E hr h=>?_
 obtain⟨wa,ta,n,t,rfl,hwa,hn,k⟩:=h
 refine⟨_,zg (zAF (zBG (own:=["place"]) (cn:=["taken"]) (ci:=[1]) rfl (csc rfl rfl) ⟨rfl,rfl,rfl,trivial⟩ rfl (zAX rfl mRange (zE (zAG zAY (pv 0) ze) zM)) (fun _ _ _ _=>zB8)
  (fun _ _ _ _=>zCA (zAC zCI (zAS zEt (pv 1) (zAS zCc ze (pv 0))) ze (zAI _))) (fun _ _ _ _=>pv 0))),?_⟩
 refine⟨_,rfl,wa,_,_,_,rfl,rfl,SqT.of hwa,rfl,(n:Int),rfl,by omega,by omega,[.int t],rfl,fun D hD=>?_⟩
 refine zBE (lo:=0) (n:=((n:Int)).toNat) (fun q ys H4=>q<=n/\ys=(zAm t q).map (fun (p:Nat)=>V.int p)/\H4=upd H D (.lst ys)) ⟨zi _,rfl,rfl⟩ (fun q ys H4 z=>?_) (fun q ys H4 hq z=>?_) (fun ys H4 z=>?_)
 . obtain⟨hq,rfl,_⟩:=z
   rw[zD]
   refine zAK (zu _ _) ?_
   rw[zAB]
   exact zr (by omega)
 . obtain⟨_,rfl,rfl⟩:=z
   rw[zAJ]
   have st:zAm t (q+1)=zAm t q++[q].filter fun p=>!t.testBit p:=by unfold zAm;rw[List.range_succ,zAl]
   refine⟨⟨rfl,rfl⟩,?_⟩
   refine⟨_,rfl,_,rfl,1,(q:Int),rfl,rfl,⟨by omega,by omega,by decide⟩,_,_,rfl,rfl,rfl,_,rfl,?_⟩
   rw[zCG]
   dsimp only
   rw[zBt]
   by_cases c:t.testBit q=false
   . refine ifT (zP (by rw[zDw,zG4.mpr c];rfl)) ?_
     refine⟨_,rfl,zG,by omega,?_,zBZ⟩
     rw[st,zAU (by rw[c];rfl),zAM,zS];rfl
   . refine ifF (zb fun z=>c (zG4.mp (by rw[zDw] at z;omega))) ⟨by omega,?_,rfl⟩
     rw[st,zAH (by simpa using c),zAM,zp]
 . obtain⟨_,rfl,rfl⟩:=z
   rw[zAR]
   exact k D _ hD (zF hD) zG
theorem scBwo:zAD ["sets", "numbers", "taken", "hub"] ["sets", "numbers", "taken", "hub"] (defScope sBwo):=fS0
noncomputable def zIe:Sp:=fun vs H Q _=>∃(sl nl:Addr)(R:List (List Int))(nu:List Int)(t h:Nat),vs=[.ref sl,.ref nl,.int t,.int h]/\zBi H sl R/\H nl=some (.tup (nu.map V.int))/\h<R.length/\t.testBit h=false/\t+2 ^ h<nu.length/\(∀row∈R,row.length<=24)/\h<24 /\
 ∀H',zAo H H'->Q (.int ((brg R t h:Nat)+nu.getD (t+2 ^ h) 0)) H'
theorem zMy {fC:Addr}{fdC:FuncData}(F:Fun K "by_way_of" "by_way_of" sBwo f fd') (FC:FuB K mg "count_free" sCf fC fdC ["sets","taken"]) (mLen:mg "len" = none):zAe P w K mg base CX0 2 f fd' ["sets", "numbers", "taken", "hub"] zIe:=by
 have GC:zAe P w K mg base CX0 1 fC fdC ["sets", "taken"] spCf:=ok_cf FC.F mLen
 refine F.okD scBwo fun _ A _ _ H vs Q E hr h=>?_
 obtain⟨sl,nl,R,nu,t,h,rfl,⟨rs,hsl,RI⟩,hnl,hh,hb,hlt,h24,hh24,k⟩:=h
 refine⟨_,zg (zAF (zAS zBd (zAa GC hr FC (zE (zAG zAb (pv 0) (pv 3)) (zE (pv 2) zM))) (zAG zAY (pv 1) (zAS op_or (pv 2) (zAS zCc ze (pv 3)))))),?_⟩
 have hr':h<rs.length:=by rw[RI.1];exact hh
 have er:rs[h]? = some rs[h]:=zA hr'
 have eR:R[h]? = some R[h]:=zA hh
 have hrow:=RI.2 h _ _ er eR
 have egd:R.getD h []=R[h]:=by rw[zC,eR];rfl
 refine⟨_,rfl,_,rfl,sl,_,_,.ref rs[h],rfl,rfl,SqL.of hsl,zBh (by rw[zN,er];rfl),_,rfl,rs[h],R[h],(t:Int),rfl,hrow,h24 _ (zAq hh),fun H1 s1=>?_⟩
 refine⟨_,rfl,_,rfl,_,rfl,1,(h:Int),rfl,rfl,⟨by omega,by omega,by decide⟩,_,_,rfl,rfl,?_⟩
 rw[zCG]
 dsimp only
 rw[zLP hb]
 refine⟨nl,_,_,.int (nu.getD (t+2 ^ h) 0),rfl,rfl,SqT.of (s1 _ _ hnl),zBh (by rw[zN,zC,zA hlt];rfl),?_⟩
 refine⟨_,_,rfl,rfl,?_⟩
 have:((R[h].filter (cfB (t:Int))).length:Nat)=brg R t h:=by unfold brg;rw[egd]
 rw[this]
 exact k H1 s1
theorem zBe {e:Expr}{te te':TE}(h:PE X e te)(m:∀ σ H Q,te' σ H Q->te σ H Q):PE X e te':=fun pins s σ H Q I q=>h pins s σ H Q I (m σ H Q q)
theorem zAo.none {H H':Hp}{r:Addr}(s:zAo H H')(h:H' r=none):H r=none:=by
 cases z:H r with
 | none=>rfl
 | some u=>have y:=(s _ _ z).symm.trans h;cases y
noncomputable def cst (R:List (List Int))(nu:List Int)(t h:Nat):Int:=(brg R t h:Nat)+nu.getD (t+2 ^ h) 0
variable {h:Nat}
theorem zGS {t n:Nat}(ht:t<2 ^ n)(hh:h<n)(hb:t.testBit h=false):t+2 ^ h<2 ^ n:=by
 refine Nat.lt_pow_two_of_testBit _ fun j hj=>?_
 rw[Nat.add_comm,zIS h t j hb,zb (by omega),Nat.testBit_lt_two_pow (zm ht (zBo (by decide) hj))];rfl
structure zIM (R:List (List Int))(n:Nat)(nu:List Int)(lo:Nat):Prop where
 ln:nu.length=2 ^ n
 last:nu.getD (2 ^ n-1) 0=0
 le:∀t,lo<=t->t<2 ^ n->∀h∈zAm t n,nu.getD t 0<=cst R nu t h
 ex:∀t,lo<=t->t<2 ^ n->zAm t n≠[]->∃h∈zAm t n,nu.getD t 0=cst R nu t h
theorem zE0 (n:Nat):zAm (2 ^ n-1) n=[]:=by
 apply List.eq_nil_iff_forall_not_mem.mpr
 intro p hp
 obtain⟨a,b⟩:=zBX.mp hp
 rw[Nat.testBit_two_pow_sub_one,zP a] at b
 cases b
theorem zHY {t n:Nat}(h:t<2 ^ n-1):zAm t n≠[]:=by
 intro e
 have:t=2 ^ n-1:=by
  apply Nat.eq_of_testBit_eq
  intro j
  rw[Nat.testBit_two_pow_sub_one]
  by_cases c:j<n
  . rw[zP c]
    cases b:t.testBit j with
    | true=>rfl
    | false=>
     have:j∈zAm t n:=zBX.mpr ⟨c,b⟩
     rw[e] at this;cases this
  . rw[zb c]
    exact Nat.testBit_lt_two_pow (zm (by omega:t<2 ^ n) (zBo (by decide) (by omega)))
 omega
variable {nu:List Int}
theorem zCj (h:i≠j):(nu.set i x).getD j 0=nu.getD j 0:=by
 rw[zC,zC,List.getElem?_set_ne h]
theorem zEO (h:i<nu.length):(nu.set i x).getD i 0=x:=by
 rw[zC,zBY h];rfl
theorem zDz (h:Nat):0<2 ^ h:=Nat.pow_pos (by decide)
theorem zGz {t t0:Nat}(ht:t0<=t):cst R (nu.set t0 x) t h=cst R nu t h:=by
 unfold cst
 rw[zCj (by have:=zDz h;omega)]
theorem zIM.start (R:List (List Int))(n:Nat):zIM R n (List.replicate (2 ^ n) 0) (2 ^ n-1):=by
 have p:=zDz n
 refine⟨zAT,by rw[zC,zA8];split <;> rfl,fun t h1 h2 h hh=>?_,fun t h1 h2 hne=>?_⟩
 . obtain rfl:t=2 ^ n-1:=by omega
   rw[zE0] at hh;cases hh
 . obtain rfl:t=2 ^ n-1:=by omega
   exact absurd (zE0 n) hne
theorem zIM.step {n:Nat}{t:Nat}(d:zIM R n nu (t+1))(ht:t<2 ^ n-1)(hh:h∈zAm t n)(hb:∀g∈zAm t n,cst R nu t h<=cst R nu t g):zIM R n (nu.set t (cst R nu t h)) t:=by
 have hl:t<nu.length:=by rw[d.ln];omega
 refine⟨by rw[List.length_set];exact d.ln,by rw[zCj (by omega)];exact d.last,fun u h1 h2 g hg=>?_,fun u h1 h2 hne=>?_⟩
 . rw[zGz h1]
   by_cases c:u=t
   . subst c
     rw[zEO hl]
     exact hb g hg
   . rw[zCj (by omega)]
     exact d.le u (by omega) h2 g hg
 . by_cases c:u=t
   . subst c
     exact⟨h,hh,by rw[zGz h1,zEO hl]⟩
   . obtain⟨g,hg,e⟩:=d.ex u (by omega) h2 hne
     exact⟨g,hg,by rw[zGz h1,zCj (by omega),e]⟩
theorem zLA (m:Nat):(List.replicate m [V.int 0]).flatten=(List.replicate m (0:Int)).map V.int:=by
 induction m with
 | zero=>rfl
 | succ m ih=>rw[zAz,List.flatten_cons,ih,zAz];rfl
theorem zCt {n:Nat}(h:n<=8):2 ^ n<=256:=zx (zBo (by decide) h) (by decide)
structure zDr (ts:List T3)(n:Int)(R:List (List Int)):Prop where
 rl:R.length=n.toNat
 ro:∀(h:Nat)(row:List Int),R[h]? = some row->row.length=n.toNat/\∀i,i<n.toNat->∃xs:List Int,row[i]? = some (sn xs)/\xs.Pairwise (· < ·)/\∀p,p∈xs↔Btw ts h i p
noncomputable def zIg (PT:Addr):Sp:=fun vs H Q _=>∃(wa:Addr)(n:Int)(ts:List T3),vs=[.ref wa]/\zBj H wa n ts/\Tb H PT/\∀(sl:Addr)(R:List (List Int))(H':Hp),SmP PT H H'->Tb H' PT->zBi H' sl R->zDr ts n R->Q (.ref sl) H'
theorem zLg:zAD ["web", "rows"] ["web"] (defScope zIr):=fS0
theorem zM0 (F:Fun K "all_sets" "all_sets" zIr f fd') (FL:FuB K mg "lengths" zHs fL fdL ["web"]) (GL:zAe P w K mg base CX0 5 fL fdL ["web"] (zHC PT))
 (FS:FuB K mg "sets_from" sSf fS fdS ["rows","hub"]) (GS:zAe P w K mg base CX0 5 fS fdS ["rows", "hub"] spSf) (mRange:mg "range" = none):zAe P w K mg base CX0 6 f fd' ["web"] (zIg PT):=by
 refine F.okD zLg fun _ A _ _ H vs Q E hr h=>?_
 obtain⟨wa,n,ts,rfl,W,T,k⟩:=h
 obtain⟨ta,tys,hwa,_,_,G⟩:=id W
 have hn1:=G.n1
 have hn24:=G.n24
 refine⟨_,zO (zC8 (i:=1) zLg.nd rfl (Or.inr rfl) (zAa GL hr FL (zE (pv 0) zM)))
  (zg (zAF (zBG (own:=["hub"]) (cn:=["rows"]) (ci:=[1]) rfl (csc rfl rfl) ⟨rfl,rfl,rfl,trivial⟩ rfl (zAX rfl mRange (zE (zAG zAY (pv 0) ze) zM)) (fun _ _ _ _=>zB8) (fun _ _ _ _=>zBn)
   (fun _ _ _ _=>zAa GS hr FS (zE (pv 1) (zE (pv 0) zM)))))),?_⟩
 refine⟨_,rfl,wa,n,ts,rfl,W,T,fun rl rs M H1 sm1 T1 hrl RA RR=>?_⟩
 have hwa1:H1 wa=some (.tup [.int n,.ref ta]):=sm1.get hwa (by intro ps z;cases z)
 refine⟨_,rfl,wa,_,_,_,rfl,rfl,SqT.of hwa1,rfl,n,rfl,by omega,by omega,[.ref rl],rfl,fun D hD=>?_⟩
 refine zBE (lo:=0) (n:=n.toNat) (fun q ys H2=>q<=n.toNat/\∃(ls:List Addr)(R:List (List Int)),ys=ls.map V.ref/\ls.length=q/\zIH H2 ls R/\(∀l∈ls,l≠D)/\(∀(h:Nat)(row:List Int),R[h]? = some row->row.length=n.toNat/\∀i,i<n.toNat->∃xs:List Int,row[i]? = some (sn xs)/\xs.Pairwise (· < ·)/\∀p,p∈xs↔Btw ts h i p)/\zAo H1 H2/\H2 D=some (.lst ys))
  ⟨zi _,[],[],rfl,rfl,⟨rfl,fun i r row e=>by simp at e⟩,fun l hl=>by simp at hl,fun h row e=>by simp at e,zF hD,zG⟩ (fun q ys H2 z=>?_) (fun q ys H2 hq z=>?_) (fun ys H2 z=>?_)
 . obtain⟨hq,ls,R,rfl,hl,_⟩:=z
   rw[zD,hl]
   exact zr (by omega)
 . obtain⟨_,ls,R,rfl,hl,RI,fr,ro,s2,hD2⟩:=z
   rw[zAJ]
   refine⟨⟨rfl,rfl⟩,?_⟩
   refine zGe ?_
   refine⟨_,rfl,_,rfl,rl,rs,M,n,ts,(q:Int),rfl,G,s2 _ _ hrl,RA.same s2,RR,by omega,by omega,fun l bs H3 s3 h3 hbl hbs=>?_⟩
   have hD3:=s3 _ _ hD2
   have nlD:l≠D:=fun z=>by
    rw[z,hD3] at h3
    injection h3 with h3
    injection h3 with h3
    have e1:=congrArg List.length h3
    rw[zD,zD,zD,hl,hbl] at e1
    omega
   have hRl:R.length=q:=by rw[<-RI.1,hl]
   refine⟨hD3,hq,ls++[l],R++[bs.map sn],by rw[zS];rfl,by rw[zL,hl];rfl,⟨by rw[zL,zL,RI.1];rfl,fun i r row e1 e2=>?_⟩,fun y hy=>?_,fun h row e=>?_,zA0 (s2.trans s3) hD,zG⟩
   . by_cases c:i<q
     . rw[zd (by omega)] at e1 e2
       rw[zf (fr r (za e1))]
       exact s3 _ _ (RI.2 i r row e1 e2)
     . rw[zV (by omega)] at e1 e2
       have hi:i-ls.length=0:=by
        have:=(zK.mp e1).1
        rw[zA2] at this
        omega
       rw[hi] at e1
       rw[show i-R.length=0 by omega] at e2
       cases e1
       cases e2
       rw[zf nlD];exact h3
   . rcases zn.mp hy with hy | hy
     . exact fr y hy
     . rw[zj.mp hy];exact nlD
   . by_cases c:h<q
     . rw[zd (by omega)] at e
       exact ro h row e
     . rw[zV (by omega)] at e
       have hi:h=q:=by
        have:=(zK.mp e).1
        rw[zA2] at this
        omega
       subst hi
       rw[show h-R.length=0 by omega] at e
       cases e
       refine⟨by rw[zD,hbl],fun i hi=>?_⟩
       obtain⟨xs,hx⟩:∃xs,bs[i]? = some xs:=⟨_,zA (by omega)⟩
       exact⟨xs,by rw[zN,hx];rfl,hbs i xs hx⟩
 . obtain⟨_,ls,R,rfl,hl,RI,fr,ro,s2,hD2⟩:=z
   exact k D R H2 (sm1.trans (SmP.of s2)) (T1.same s2) ⟨ls,hD2,RI⟩ ⟨by rw[<-RI.1,hl],ro⟩
theorem zFP:∀{l l':List Nat},l.Nodup->(∀x∈l,x∈l')->l.length<=l'.length
 | [],_,_,_=>zi _
 | x::l,l',nd,h=>by
  obtain⟨h1,h2⟩:=zAO.mp nd
  have hx:=h x zh
  have:=zFP (l:=l) (l':=l'.erase x) h2 fun y hy=>(List.mem_erase_of_ne (fun z=>h1 (by rw[<-z];exact hy))).mpr (h y (zX _ hy))
  rw[List.length_erase_of_mem hx] at this
  have:=List.length_pos_of_mem hx
  rw[zT]
  omega
noncomputable def inA (R:List (List Int)):Nat->List Nat->Nat
 | _,[]=>0
 | t,h::os=>brg R t h+inA R (t+2 ^ h) os
theorem zKX (h:Nat)(os:List Nat):snN (h::os)=2 ^ h+snN os:=by simp[snN]
theorem zFB (h:Nat)(os:List Nat):snN (os++[h])=snN os+2 ^ h:=by simp[snN]
theorem zFV {R:List (List Int)}{h:Nat}:∀{os:List Nat}{t:Nat},inA R t (os++[h])=inA R t os+brg R (t+snN os) h
 | [],t=>by simp[inA,snN]
 | g::os,t=>by
  show brg R t g+inA R (t+2 ^ g) (os++[h])=brg R t g+inA R (t+2 ^ g) os+brg R (t+snN (g::os)) h
  rw[zFV,zKX,Nat.add_assoc t]
  omega
theorem zKV (os:List Nat):sn (os.map fun (p:Nat)=>(p:Int))=((snN os:Nat):Int):=by
 rw[zEk,List.map_map]
 have:(os.map (Int.toNat∘fun (p:Nat)=>(p:Int)))=os:=by
  conv=>rhs;rw[<-List.map_id os]
  exact zBW fun x _=>by simp
 rw[this]
theorem zLe {os:List Nat}{n:Nat}(nd:os.Nodup)(h:∀p∈os,p<n):snN os<2 ^ n:=by
 refine Nat.lt_pow_two_of_testBit _ fun j hj=>?_
 rw[zCs nd]
 exact zb fun z=>by have:=h j z;omega
theorem zJc {os:List Nat}{n:Nat}(nd:os.Nodup):h∈zAm (snN os) n↔h<n/\h∉os:=by
 rw[zBX,zCs nd,decide_eq_false_iff_not]
theorem zNF {os:List Nat}{n:Nat}(nd:os.Nodup)(hl:os.length<n):zAm (snN os) n≠[]:=by
 intro e
 have:(List.range n).length<=os.length:=zFP List.nodup_range fun x hx=>by
  by_cases c:x∈os
  . exact c
  . have:=(zJc (n:=n) nd).mpr ⟨zAW.mp hx,c⟩
    rw[e] at this;cases this
 rw[zAB] at this
 omega
structure zKB (R:List (List Int))(n:Nat)(nu:List Int)(os:List Nat):Prop where
 nd:os.Nodup
 lt:∀p∈os,p<n
 eq:nu.getD 0 0=(inA R 0 os:Nat)+nu.getD (snN os) 0
theorem zKB.nil {n:Nat}:zKB R n nu []:=⟨List.nodup_nil,(fun p h=>by cases h),by simp[inA,snN]⟩
theorem zKB.step {n:Nat}{os:List Nat}(o:zKB R n nu os)(d:zIM R n nu 0)(hh:h∈zAm (snN os) n)(hb:∀g∈zAm (snN os) n,cst R nu (snN os) h<=cst R nu (snN os) g):zKB R n nu (os++[h]):=by
 obtain⟨h1,h2⟩:=(zJc o.nd).mp hh
 have hlt:=zLe o.nd o.lt
 refine⟨?_,fun p hp=>?_,?_⟩
 . rw[List.nodup_append]
   exact⟨o.nd,by simp,fun a ha b hb'=>by rw[zj.mp hb'];exact fun z=>h2 (z ▸ ha)⟩
 . rcases zn.mp hp with hp | hp
   . exact o.lt p hp
   . rw[zj.mp hp];exact h1
 . obtain⟨g,hg,e⟩:=d.ex (snN os) (zi _) hlt (fun z=>by rw[z] at hh;cases hh)
   have e1:=d.le (snN os) (zi _) hlt h hh
   have e2:=hb g hg
   have e3:nu.getD (snN os) 0=cst R nu (snN os) h:=by omega
   rw[o.eq,e3,zFV,zFB,Nat.zero_add]
   unfold cst
   omega
variable {X:Cx}
theorem zLj {st:List Stmt}:PSs X st (fun _ _ _=>False):=fun _ _ _ _ _ _ h=>h.elim
structure NN (R:List (List Int)):Prop where
 nn:∀row∈R,∀m∈row,0<=m
 r24:∀row∈R,row.length<=24
 n8:R.length<=8
noncomputable def zIf:Sp:=fun vs H Q _=>∃(sl:Addr)(R:List (List Int))(t h:Nat),vs=[.ref sl,.int t,.int h]/\zBi H sl R/\NN R/\h<R.length/\∀H',zAo H H'->Q (.int (brg R t h:Nat)) H'
noncomputable def zLc:Sp:=fun vs H Q _=>∃(sl oa:Addr)(R:List (List Int))(os:List Nat),vs=[.ref sl,.ref oa]/\zBi H sl R/\NN R/\H oa=some (.tup ((os.map fun (p:Nat)=>(p:Int)).map V.int))/\(∀p∈os,p<R.length)/\os.length<=24/\∀H',zAo H H'->Q (.int (inA R 0 os:Nat)) H'
theorem zHW {os:List Nat}(e:os[i]? = some h):inA R 0 (os.take (i+1))=inA R 0 (os.take i)+brg R (snN (os.take i)) h/\snN (os.take (i+1))=snN (os.take i)+2 ^ h:=by
 rw[zw,e]
 show inA R 0 (os.take i++[h])=_/\snN (os.take i++[h])=_
 rw[zFV,zFB,Nat.zero_add]
 exact⟨rfl,rfl⟩
theorem scBrt:zAD ["_law_masks_here", "_law_some", "_law_hub"] ["_law_masks_here", "_law_some", "_law_hub"] (defScope zLh):=fS0
theorem zHQ (F:Fun K "_law_brought" "_law_brought" zLh f fd') (mLen:mg "len" = none):zAe P w K mg base CX0 1 f fd' ["_law_masks_here", "_law_some", "_law_hub"] zIf:=by
 refine F.okD scBrt fun _ A _ _ H vs Q E hr h=>?_
 obtain⟨sl,R,t,h,rfl,⟨rs,hsl,RI⟩,N,hh,k⟩:=h
 refine⟨_,zg (zAF (zt zAE mLen (zE (zBG (own:=["_law_mask"]) (cn:=["_law_some"]) (ci:=[1]) rfl (csc rfl rfl) ⟨rfl,rfl,rfl,trivial⟩ rfl (zCH (zAG zAb (pv 0) (pv 2))) (fun _ _ _ _=>zB8)
  (fun _ _ _ _=>zCA (PW.pt (zDi (zAC zFK (pv 0) ze (zAI _)) (zD6 (zAC zCI (zAS zEt (pv 0) (pv 1)) ze (zAI _)))))) (fun _ _ _ _=>pv 0)) zM))),?_⟩
 have hr':h<rs.length:=by rw[RI.1];exact hh
 have er:rs[h]? = some rs[h]:=zA hr'
 have eR:R[h]? = some R[h]:=zA hh
 have hrow:=RI.2 h _ _ er eR
 have egd:R.getD h []=R[h]:=by rw[zC,eR];rfl
 have hm:R[h]∈R:=zAq hh
 generalize hl:rs[h]=l at er hrow
 generalize hn:R[h]=ns at eR hrow egd hm
 refine⟨_,rfl,_,rfl,sl,_,_,.ref l,rfl,rfl,SqL.of hsl,zBh (by rw[zN,er];rfl),l,rfl,⟨_,SqL.of hrow⟩,[.int t],rfl,fun D hD=>?_⟩
 have nlD:l≠D:=zq hrow hD
 refine zCF (a:=l) (xs:=ns.map V.int) (fun i ys H4=>ys=((ns.take i).filter (cfB t)).map V.int/\H4=upd H D (.lst ys)) ⟨rfl,rfl⟩ (fun i ys H4 z=>?_) (fun i ys H4 z=>?_) (fun i x ys H4 hx z=>?_) (fun ys H4 z=>?_)
 . obtain⟨_,rfl⟩:=z
   exact SqL.of (by rw[zf nlD];exact hrow)
 . obtain⟨rfl,_⟩:=z
   rw[zD]
   refine zAK (zu _ _) ?_
   rw[zl]
   have:=N.r24 ns hm
   exact zr (by omega)
 . obtain⟨rfl,rfl⟩:=z
   obtain⟨m,hm',rfl⟩:=int_at hx
   have m0:=N.nn ns hm m (za hm')
   have st:(ns.take (i+1)).filter (cfB t)=(ns.take i).filter (cfB t)++[m].filter (cfB t):=by rw[zw,hm',zAl];rfl
   refine⟨⟨rfl,rfl⟩,?_⟩
   refine⟨_,rfl,_,_,rfl,rfl,_,rfl,?_⟩
   by_cases c:m=0
   . refine ifF (zb (by omega)) ?_
     refine zCe ⟨?_,rfl⟩
     rw[st,zAH (by unfold cfB;rw[zP c];simp),zAM,zp]
   . refine ifT (zP (by omega)) ?_
     refine⟨_,rfl,_,rfl,_,_,rfl,rfl,rfl,_,rfl,?_⟩
     rw[zBt]
     by_cases c2:PySem.Builtin.bitAnd m t=0
     . refine ifT (zP c2) ?_
       refine⟨_,rfl,zG,?_,zBZ⟩
       rw[st,zAU (by unfold cfB;rw[zb c,zP c2];rfl),zAM,zS];rfl
     . refine ifF (zb c2) ⟨?_,rfl⟩
       rw[st,zAH (by unfold cfB;rw[zb c2,Bool.and_false];simp),zAM,zp]
 . obtain⟨rfl,rfl⟩:=z
   rw[zD,zZ (zH _)]
   refine⟨D,_,rfl,.inl (SqL.of zG),?_⟩
   rw[zD]
   have:(ns.filter (cfB (t:Int))).length=brg R t h:=by unfold brg;rw[egd]
   rw[this]
   exact k _ (zF hD)
theorem zEn:zAD ["_law_masks_here", "_law_order_here", "_law_some", "_law_found", "_law_hub"] ["_law_masks_here", "_law_order_here"] (defScope zIp):=fS0
theorem zMw (F:Fun K "_law_in_all" "_law_in_all" zIp f fd') (FB:FuB K mg "_law_brought" zLh fB fdB ["_law_masks_here","_law_some","_law_hub"]) (mLen:mg "len" = none):zAe P w K mg base CX0 2 f fd' ["_law_masks_here", "_law_order_here"] zLc:=by
 have GB:zAe P w K mg base CX0 1 fB fdB ["_law_masks_here", "_law_some", "_law_hub"] zIf:=zHQ FB.F mLen
 refine F.okD zEn fun _ A _ _ H vs Q E hr h=>?_
 obtain⟨sl,oa,R,os,rfl,ST,N,hoa,hos,hl,k⟩:=h
 refine⟨_,zO (zAn (i:=2) zEn.nd ze) (zO (zAn (i:=3) zEn.nd ze)
  (zO (zBl PassesOwn.never rfl (zCu (pv 1)) (zAj (i:=4) zEn.nd rfl (Or.inl rfl))
   (zO (zAn (i:=3) zEn.nd (zAS zBd (pv 3) (zAa GB hr FB (zE (pv 0) (zE (pv 2) (zE (pv 4) zM))))))
   (zg (zAn (i:=2) zEn.nd (zAS zBd (pv 2) (zAS zCc ze (pv 4)))))))
  (zg (zAF (pv 3))))),?_⟩
 refine⟨_,rfl,oa,rfl,⟨_,SqT.of hoa⟩,zGv (K:=K) (a:=oa) (xs:=(os.map fun (p:Nat)=>(p:Int)).map V.int) (fun i σ H2=>∃v4:Option V,σ=[some (.ref sl),some (.ref oa),some (.int (snN (os.take i):Nat)),some (.int (inA R 0 (os.take i):Nat)),v4]/\zAo H H2) ⟨_,rfl,zAo.refl _⟩ (fun i σ H2 _ z=>?_) (fun i y σ H2 hy z=>?_) (fun σ H2 z=>?_)⟩
 . obtain⟨_,_,s2⟩:=z
   exact SqT.of (s2 _ _ hoa)
 . obtain⟨v4,rfl,s2⟩:=z
   obtain⟨y',hy',rfl⟩:=int_at hy
   rw[zN] at hy'
   obtain⟨h,hh,rfl⟩:∃h:Nat,os[i]? = some h/\(h:Int)=y':=by
    cases e:os[i]? with
    | none=>rw[e] at hy';cases hy'
    | some h=>rw[e] at hy';exact⟨h,rfl,zU hy'⟩
   have hlt:=hos h (za hh)
   have h8:=N.n8
   obtain⟨e1,e2⟩:=zHW (R:=R) hh
   refine⟨_,rfl,_,rfl,_,rfl,_,rfl,sl,R,snN (os.take i),h,rfl,ST.same s2,N,hlt,fun H3 s3=>?_⟩
   refine⟨_,_,rfl,rfl,?_⟩
   refine⟨_,rfl,_,rfl,1,(h:Int),rfl,rfl,⟨by omega,by omega,by decide⟩,_,_,rfl,rfl,?_⟩
   refine⟨some (.int h),?_,s2.trans s3⟩
   rw[zCG,e1,e2]
   rfl
 . obtain⟨v4,rfl,s2⟩:=z
   rw[zD,zD,zZ (zH _)]
   exact⟨_,rfl,k H2 s2⟩
theorem zMK (t h:Nat):(t:Int)/2 ^ ((h:Int)).toNat=((t >>> h:Nat):Int):=by
 rw[zAR,Nat.shiftRight_eq_div_pow,Int.natCast_ediv,Int.natCast_pow];rfl
theorem zJ8 {t:Nat}:(t >>> h) &&& 1=0↔t.testBit h=false:=by
 have e:=Nat.testBit_shiftRight (i:=h) (j:=0) t
 rw[Nat.add_zero] at e
 rw[<-e,Nat.testBit_zero,Nat.and_one_is_mod,decide_eq_false_iff_not]
 omega
theorem zFf (t h:Nat):decide (PySem.Builtin.bitAnd ((t:Int)/2 ^ ((h:Int)).toNat) 1=0) = !t.testBit h:=by
 rw[zMK,show (1:Int)=((1:Nat):Int) from rfl,zDw]
 by_cases e:t.testBit h=false
 . rw[e]
   exact zP (by rw[zJ8.mpr e];rfl)
 . rw[Bool.not_eq_false] at e
   rw[e]
   refine zb fun z=>?_
   have z':(t >>> h) &&& 1=0:=by omega
   rw[zJ8.mp z'] at e
   cases e
noncomputable def zLb:Sp:=fun vs H Q _=>∃(sl:Addr)(R:List (List Int)),vs=[.ref sl]/\zBi H sl R/\NN R/\1<=R.length/\∀(nl:Addr)(nu:List Int)(H':Hp),zAo H H'->H' nl=some (.lst (nu.map V.int))->zIM R R.length nu 0->Q (.ref nl) H'
variable {sl:Addr}
theorem zBi.len (h:zBi H sl R):∃rs:List Addr,H sl=some (.lst (rs.map V.ref))/\(rs.map V.ref).length=R.length:=by
 obtain⟨rs,a,b,_⟩:=h
 exact⟨rs,a,by rw[zD,b]⟩
theorem zFt:zAD ["_law_masks_here", "_law_n", "_law_least_here", "_law_some", "_law_rest"] ["_law_masks_here"] (defScope zKc):=fS0
theorem zMr (F:Fun K "_law_least" "_law_least" zKc f fd') (FB:FuB K mg "_law_brought" zLh fB fdB ["_law_masks_here","_law_some","_law_hub"]) (mLen:mg "len" = none) (mRange:mg "range" = none) (mMin:mg "min" = none):zAe P w K mg base CX0 2 f fd' ["_law_masks_here"] zLb:=by
 have GB:zAe P w K mg base CX0 1 fB fdB ["_law_masks_here", "_law_some", "_law_hub"] zIf:=zHQ FB.F mLen
 refine F.okD zFt fun _ A _ _ H vs Q E hr h=>?_
 obtain⟨sl,R,rfl,ST,N,n1,k⟩:=h
 obtain⟨rs,hsl,hrl⟩:=ST.len
 obtain⟨n,en⟩:∃n,n=R.length:=⟨_,rfl⟩
 rw[<-en] at n1 k hrl
 have n8:n<=8:=by rw[en];exact N.n8
 have p8:=zCt n8
 have p1:2<=2 ^ n:=zx (by decide:2<=2 ^ 1) (zBo (by decide) n1)
 refine⟨_,zO (zAn (i:=1) zFt.nd (zt zAE mLen (zE (pv 0) zM)))
  (zO (zC8 (i:=2) zFt.nd rfl (Or.inr rfl) (zAS zLk (zBy (zE ze zM)) (zAS zCc ze (pv 1))))
  (zO (zBl PassesOwn.never rfl (zIw rfl mRange (zE (zAS zI1 (zAS zCc ze (pv 1)) ze) (zE (zBe (zDp zCm ze) (fun σ H Q q=>⟨1,rfl,q⟩)) (zE (zBe (zDp zCm ze) (fun σ H Q q=>⟨1,rfl,q⟩)) zM)))) (zAj (i:=3) zFt.nd rfl (Or.inr rfl))
   (zO (zD7 (i:=4) (own:=["_law_hub"]) (cn:=["_law_some"]) (ci:=[3]) zFt.nd rfl (Or.inl rfl) rfl (csc rfl rfl) ⟨rfl,rfl,rfl,trivial⟩ rfl (zAX rfl mRange (zE (pv 1) zM)) (fun _ _ _ _=>zB8)
    (fun _ _ _ _=>zCA (zAC zCI (zAS zEt (zAS zI2 (pv 1) (pv 0)) ze) ze (zAI _))) (fun _ _ _ _=>pv 0))
   (zg (zDN (zt (zJ1 rfl) mMin (zE (zBG (own:=["_law_hub"]) (cn:=["_law_masks_here", "_law_some", "_law_least_here"]) (ci:=[0,3,2]) rfl (csc rfl rfl) ⟨rfl,rfl,rfl,rfl,rfl,rfl,rfl,rfl,rfl,trivial⟩ rfl (zCH (pv 4)) (fun _ _ _ _=>zB8) (fun _ _ _ _=>zBn)
    (fun _ _ _ _=>zAS zBd (zAa GB hr FB (zE (pv 1) (zE (pv 2) (zE (pv 0) zM)))) (zAG zDT (pv 3) (zAS zBd (pv 2) (zAS zCc ze (pv 0)))))) zM)) (zDj (pv 2) (pv 3) zCT)))))
  (zg (zAF (pv 2))))),?_⟩
 refine⟨_,rfl,sl,_,rfl,.inl (SqL.of hsl),?_⟩
 rw[hrl]
 refine⟨by show 1<=sizeLine;decide,fun l0 hl0=>?_⟩
 refine⟨_,rfl,1,(n:Int),rfl,rfl,⟨by omega,by omega,by decide⟩,?_⟩
 refine⟨l0,((2 ^ n:Nat):Int),_,rfl,by rw[<-zCG],zG,by omega,by omega,?_,fun nl hnl=>?_⟩
 . have:sizeLine=16777216:=rfl
   show 1*((2 ^ n:Nat):Int).toNat<=sizeLine
   omega
 rw[zAR,zLA]
 have hnl0:H nl=none:=zAo.none (zF hl0) hnl
 have s1:zAo H (upd (upd H l0 (.lst [.int 0])) nl (.lst ((List.replicate (2 ^ n) (0:Int)).map V.int))):=(zF hl0).trans (zF hnl)
 have h1:(upd (upd H l0 (.lst [.int 0])) nl (.lst ((List.replicate (2 ^ n) (0:Int)).map V.int))) nl=some (.lst ((List.replicate (2 ^ n) (0:Int)).map V.int)):=zG
 generalize (upd (upd H l0 (.lst [.int 0])) nl (.lst ((List.replicate (2 ^ n) (0:Int)).map V.int)))=H1 at s1 h1 ⊢
 refine⟨_,rfl,1,(n:Int),rfl,rfl,⟨by omega,by omega,by decide⟩,_,_,rfl,rfl,?_⟩
 refine⟨((2 ^ n:Nat):Int)-2,-1,by rw[<-zCG],⟨by omega,by omega,by omega,by omega⟩,zK9 (lo:=((2 ^ n:Nat):Int)-2) (n:=(((2 ^ n:Nat):Int)-2 - -1).toNat) (fun i σ H2=>∃(v3 v4:Option V)(nu:List Int),σ=[some (.ref sl),some (.int n),some (.ref nl),v3,v4]/\zAo H H2/\H2 nl=some (.lst (nu.map V.int))/\zIM R n nu (2 ^ n-1-i))
  ⟨_,_,_,rfl,s1,h1,zIM.start R n⟩ (fun i σ H2 hi z=>?_) (fun σ H2 z=>?_)⟩
 . obtain⟨v3,v4,nu,rfl,s2,h2,dp⟩:=z
   obtain⟨t,et⟩:∃t:Nat,t=2 ^ n-2-i:=⟨_,rfl⟩
   have eI:((2 ^ n:Nat):Int)-2-(i:Int)=(t:Int):=by omega
   rw[eI]
   rw[show 2 ^ n-1-i=t+1 by omega] at dp
   have tlt:t<2 ^ n-1:=by omega
   refine⟨_,rfl,(n:Int),rfl,by omega,by omega,[.int t],rfl,fun D hD=>?_⟩
   refine zBE (lo:=0) (n:=((n:Int)).toNat) (fun q ys H4=>q<=n/\ys=(zAm t q).map (fun (p:Nat)=>V.int p)/\H4=upd H2 D (.lst ys)) ⟨zi _,rfl,rfl⟩ (fun q ys H4 z=>?_) (fun q ys H4 hq z=>?_) (fun ys H4 z=>?_)
   . obtain⟨hq,rfl,_⟩:=z
     rw[zD]
     refine zAK (zu _ _) ?_
     rw[zAB]
     exact zr (by omega)
   . obtain⟨_,rfl,rfl⟩:=z
     rw[zAJ]
     have st:zAm t (q+1)=zAm t q++[q].filter fun p=>!t.testBit p:=by unfold zAm;rw[List.range_succ,zAl]
     refine⟨⟨rfl,rfl⟩,?_⟩
     refine⟨_,rfl,_,rfl,(t:Int),(q:Int),rfl,rfl,by omega,_,_,rfl,rfl,rfl,_,rfl,?_⟩
     dsimp only
     rw[zBt,zFf]
     cases c:t.testBit q with
     | false=>
      refine zCZ ?_
      refine⟨_,rfl,zG,by omega,?_,zBZ⟩
      rw[st,zAU (by rw[c];rfl),zAM,zS];rfl
     | true=>
      refine zCe ⟨by omega,?_,rfl⟩
      rw[st,zAH (by rw[c];decide),zAM,zp]
   . obtain⟨_,rfl,rfl⟩:=z
     rw[zAR]
     have s3:=zF (o:=.lst ((zAm t n).map fun (p:Nat)=>V.int p)) hD
     have h3:(upd H2 D (.lst ((zAm t n).map fun (p:Nat)=>V.int p))) D=some (.lst ((zAm t n).map fun (p:Nat)=>V.int p)):=zG
     generalize upd H2 D (.lst ((zAm t n).map fun (p:Nat)=>V.int p))=H3 at s3 h3 ⊢
     have h3n:=s3 _ _ h2
     refine⟨_,rfl,D,rfl,⟨_,SqL.of h3⟩,[.ref sl,.int t,.ref nl],rfl,fun D2 hD2=>?_⟩
     refine zCF (a:=D) (xs:=(zAm t n).map fun (p:Nat)=>V.int p) (fun j ys H5=>ys=(((zAm t n).take j).map fun h=>cst R nu t h).map V.int/\zAo H3 H5/\H5 D2=some (.lst ys)) ⟨rfl,zF hD2,zG⟩ (fun j ys H5 z=>?_) (fun j ys H5 z=>?_) (fun j x ys H5 hx z=>?_) (fun ys H5 z=>?_)
     . obtain⟨_,s5,_⟩:=z
       exact SqL.of (s5 _ _ h3)
     . obtain⟨rfl,_⟩:=z
       rw[zD,zD,zl]
       have:(zAm t n).length<=n:=by unfold zAm;exact zx (zu _ _) (by rw[zAB];exact zH _)
       exact zr (by omega)
     . obtain⟨rfl,s5,h5⟩:=z
       obtain⟨h,hh,rfl⟩:∃h:Nat,(zAm t n)[j]? = some h/\V.int h=x:=by
        rw[zN] at hx
        cases e:(zAm t n)[j]? with
        | none=>rw[e] at hx;cases hx
        | some h=>rw[e] at hx;exact⟨h,rfl,zU hx⟩
       obtain⟨q1,q2⟩:=zBX.mp (za hh)
       have hlt:=zGS (t:=t) (n:=n) (by omega) q1 q2
       refine⟨⟨rfl,rfl⟩,?_⟩
       refine zGe ?_
       refine⟨_,rfl,_,rfl,_,rfl,sl,R,t,h,rfl,((ST.same s2).same s3).same s5,N,by omega,fun H6 s6=>?_⟩
       refine⟨_,rfl,_,rfl,_,rfl,1,(h:Int),rfl,rfl,⟨by omega,by omega,by decide⟩,_,_,rfl,rfl,?_⟩
       refine⟨nl,_,((t+2 ^ h:Nat):Int),.int (nu.getD (t+2 ^ h) 0),rfl,by rw[Int.natCast_add,<-zCG],SqL.of (s6 _ _ (s5 _ _ h3n)),zBh (by rw[zN,zC,zA (by rw[dp.ln];exact hlt)];rfl),?_⟩
       refine⟨_,_,rfl,rfl,s6 _ _ h5,?_,zA0 (s5.trans s6) hD2,zG⟩
       rw[zw,hh,zS,zS];rfl
     . obtain⟨rfl,s5,h5⟩:=z
       rw[zD,zZ (zH _)] at h5
       refine⟨D2,_,rfl,SqL.of h5,by simpa using zHY tlt,fun M hM hb=>?_⟩
       obtain⟨h,hh,rfl⟩:=zv.mp hM
       refine⟨_,rfl,_,rfl,nl,_,(t:Int),t,rfl,rfl,s5 _ _ h3n,zF8 (by omega) (by rw[zD,dp.ln];omega),?_⟩
       have est:(nu.map V.int).set t (V.int (cst R nu t h))=(nu.set t (cst R nu t h)).map V.int:=by rw[List.map_set]
       rw[est]
       refine⟨_,_,nu.set t (cst R nu t h),rfl,zA0 ((s2.trans s3).trans s5) hnl0,zG,?_⟩
       rw[show 2 ^ n-1-(i+1)=t by omega]
       exact dp.step tlt hh fun g hg=>hb _ (zv.mpr ⟨g,hg,rfl⟩)
 . obtain⟨v3,v4,nu,rfl,s2,h2,dp⟩:=z
   rw[show 2 ^ n-1-(((2 ^ n:Nat):Int)-2 - -1).toNat=0 by omega] at dp
   exact⟨_,rfl,k nl nu H2 s2 h2 (en ▸ dp)⟩
noncomputable def LeOk (R:List (List Int))(n:Nat)(nu:List Int):Prop:=∀t,t<2 ^ n->∀h∈zAm t n,nu.getD t 0<=cst R nu t h
theorem zMI {n:Nat}{os:List Nat}(nd:os.Nodup)(h:∀p,p∈os↔p<n):snN os=2 ^ n-1:=by
 apply Nat.eq_of_testBit_eq
 intro j
 rw[zCs nd,Nat.testBit_two_pow_sub_one]
 exact decide_eq_decide.mpr (h j)
theorem zCL (a:Int):decide (oV (some a)=V.non)=false:=zb (by intro z;cases z)
noncomputable def zME:Sp:=fun vs H Q _=>∃a b:Option Int,vs=[oV a,oV b]/\Q (oV (oadd a b)) H
noncomputable def spLes:Sp:=fun vs H Q _=>∃a b:Option Int,vs=[oV a,oV b]/\Q (oV (oles a b)) H
noncomputable def zC3 (H:Hp)(rs:List Addr)(M:lLO):Prop:=rs.length=M.length/\rs.Nodup/\∀(i:Nat)(r:Addr)(row:List (Option Int)),rs[i]? = some r->M[i]? = some row->H r=some (.lst (row.map oV))
theorem zC3.keep {M:lLO}(h:zC3 H rs M)(k:∀b ys,H b=some (.lst ys)->b∈rs->H' b=some (.lst ys)):zC3 H' rs M:=⟨h.1,h.2.1,fun i r row a b=>k r _ (h.2.2 i r row a b) (za a)⟩
theorem zC3.get {M:lLO}{a:Int}(h:zC3 H rs M)(S:Sqm n M)(ha:0<=a)(ha':a<n):∃r row,rs[a.toNat]? = some r/\M[a.toNat]? = some row/\M.getD a.toNat []=row/\row.length=n.toNat/\H r=some (.lst (row.map oV))/\∀y,fnl row y=mat M a y:=by
 obtain⟨row,h1,h2,h3⟩:=S.row ha ha'
 have hl:a.toNat<rs.length:=by rw[h.1,S.ln];omega
 exact⟨rs[a.toNat],row,zA hl,h1,h2,h3,h.2.2 _ _ _ (zA hl) h1,fun y=>by unfold mat;rw[if_pos ha,h2]⟩
theorem zC3.set {H:Hp}{rs:List Addr}{M:lLO}{n a b:Int}{v:Option Int}{r:Addr}{row:List (Option Int)}(h:zC3 H rs M)(S:Sqm n M)(ha:0<=a)(ha':a<n)(h1:rs[a.toNat]? = some r)(h2:M[a.toNat]? = some row) :
 zC3 (upd H r (.lst ((row.map oV).set b.toNat (oV v)))) rs (zIJ M a b v):=by
 refine⟨by unfold zIJ;rw[List.length_set];exact h.1,h.2.1,fun i r' row' a1 a2=>?_⟩
 unfold zIJ at a2
 rw[List.getElem?_set] at a2
 have hlt:a.toNat<M.length:=(zK.mp h2).1
 by_cases e:a.toNat=i
 . subst e
   rw[if_pos rfl,if_pos hlt] at a2
   rw[h1] at a1
   cases a1
   cases a2
   rw[zG,zC,h2,zB4,List.map_set]
 . rw[if_neg e] at a2
   have hne:r'≠r:=fun z=>by
    subst z
    exact e ((List.getElem?_inj ((zK.mp h1).1) h.2.1).mp (h1.trans a1.symm))
   rw[zf hne]
   exact h.2.2 i r' row' a1 a2
theorem zHJ {row:List (Option Int)}(hl:row.length=n.toNat)(h0:0<=y)(h1:y<n):atI (row.map oV) y=some (oV (fnl row y)):=by
 have hlt:y.toNat<row.length:=by omega
 refine zBH h0 ?_
 rw[zN,zA hlt]
 unfold fnl
 rw[if_pos h0,zC,zA hlt];rfl
noncomputable def zIs (a:Int)(j:Nat):List (Option Int):=(List.range j).map fun (b:Nat)=>if a=(b:Int) then some 0 else none
theorem zFx (a:Int)(j:Nat):zIs a (j+1)=zIs a j++[if a=(j:Int) then some 0 else none]:=by unfold zIs;rw[List.range_succ,zS];rfl
theorem zHK (a:Int)(j:Nat):(zIs a j).length=j:=by unfold zIs;rw[zD,zAB]
theorem zKe {a:Int}(h0:0<=y)(h1:y<j):fnl (zIs a j) y=if a=y then some 0 else none:=by
 unfold fnl zIs
 rw[if_pos h0,zC,zN,zB1 (by omega)]
 show (if a=((y.toNat:Nat):Int) then some 0 else none)=_
 rw[show ((y.toNat:Nat):Int)=y by omega]
noncomputable def spFar:Sp:=fun vs H Q _=>∃(wa:Addr)(n:Int)(ts:List T3),vs=[.ref wa]/\zBj H wa n ts /\
 ∀(fl:Addr)(rs:List Addr)(M:lLO)(H':Hp),zAo H H'->H' fl=some (.lst (rs.map V.ref))->zC3 H' rs M->Rows ts n M->Q (.ref fl) H'
theorem scAdd:zAD ["_law_one", "_law_other"] ["_law_one", "_law_other"] (defScope sAdd):=fS0
theorem zLo (F:Fun K "_law_added" "_law_added" sAdd f fd'):zAe P w K mg base CX0 1 f fd' ["_law_one", "_law_other"] zME:=by
 refine F.okD scAdd fun _ A _ _ H vs Q E hr h=>?_
 obtain⟨a,b,rfl,k⟩:=h
 refine⟨_,zg (zAF (zCJ (PW.pt (zEb (zAC zDP (pv 0) zBF (zAI _)) (zDK (zAC zDP (pv 1) zBF (zAI _))))) zBF (zAS zBd (pv 0) (pv 1)))),?_⟩
 cases a with
 | none=>exact⟨_,rfl,rfl,_,rfl,ifT (zP rfl) (ifT rfl k)⟩
 | some a=>
  refine⟨_,rfl,rfl,_,rfl,ifF (zCL a) ?_⟩
  cases b with
  | none=>exact⟨_,rfl,rfl,_,rfl,ifT (zP rfl) k⟩
  | some b=>exact⟨_,rfl,rfl,_,rfl,ifF (zCL b) ⟨_,rfl,_,rfl,a,b,rfl,rfl,k⟩⟩
theorem scLes:zAD ["_law_one", "_law_other"] ["_law_one", "_law_other"] (defScope sLes):=fS0
theorem ok_les (F:Fun K "_law_lesser" "_law_lesser" sLes f fd') (mMin:mg "min" = none):zAe P w K mg base CX0 1 f fd' ["_law_one", "_law_other"] spLes:=by
 refine F.okD scLes fun _ A _ _ H vs Q E hr h=>?_
 obtain⟨a,b,rfl,k⟩:=h
 refine⟨_,zO (zBN (PW.pt (zEb (zAC zDP (pv 0) zBF (zAI _)) (zDK (zAC zDP (pv 1) zBF (zAI _))))) (zg (zAF (zCJ (zAC zDP (pv 0) zBF (zAI _)) (pv 1) (pv 0)))) zAQ)
  (zg (zAF (zt (zGR rfl) mMin (zE (pv 0) (zE (pv 1) zM))))),?_⟩
 cases a with
 | none=>exact⟨_,rfl,rfl,_,rfl,ifT (zP rfl) (ifT rfl ⟨_,rfl,rfl,_,rfl,ifT (zP rfl) ⟨_,rfl,k⟩⟩)⟩
 | some a=>
  refine⟨_,rfl,rfl,_,rfl,ifF (zCL a) ?_⟩
  cases b with
  | none=>exact⟨_,rfl,rfl,_,rfl,ifT (zP rfl) ⟨_,rfl,rfl,_,rfl,ifF (zCL a) ⟨_,rfl,k⟩⟩⟩
  | some b=>exact⟨_,rfl,rfl,_,rfl,ifF (zCL b) ⟨_,rfl,_,rfl,a,b,rfl,k⟩⟩
theorem zD3:zAD ["_law_web_here", "_law_n", "_law_ties", "_law_far_here", "_law_a", "_law_b", "_law_long", "_law_k", "_law_way"] ["_law_web_here"] (defScope sFar):=fS0
variable {fA:Addr}{fdA:FuncData}
theorem ok_far (F:Fun K "_law_far" "_law_far" sFar f fd') (FA:FuB K mg "_law_added" sAdd fA fdA ["_law_one","_law_other"])
 (FL:FuB K mg "_law_lesser" sLes fL fdL ["_law_one","_law_other"]) (mRange:mg "range" = none) (mMin:mg "min" = none):zAe P w K mg base CX0 2 f fd' ["_law_web_here"] spFar:=by
 have GA:zAe P w K mg base CX0 1 fA fdA ["_law_one", "_law_other"] zME:=zLo FA.F
 have GL:zAe P w K mg base CX0 1 fL fdL ["_law_one", "_law_other"] spLes:=ok_les FL.F mMin
 refine F.okD zD3 fun _ A _ _ H vs Q E hr h=>?_
 obtain⟨wa,n,ts,rfl,W,k⟩:=h
 obtain⟨ta,tys,hwa,hta,TA,G⟩:=id W
 have hn1:=G.n1
 have hn24:=G.n24
 refine⟨_,zO (zDN (pv 0) (zEq rfl (zBb (zAj (i:=1) zD3.nd rfl (Or.inr rfl)) (zBb (zAj (i:=2) zD3.nd rfl (Or.inl rfl)) zDZ))))
  (zO (zKi (yc := "_law_a") (i:=3) (own:=["_law_a"]) (cn:=["_law_n"]) (ci:=[1]) zD3.nd rfl (Or.inl rfl) rfl (csc1 rfl (fun _ _=>rfl) rfl rfl) ⟨rfl,rfl,rfl,trivial⟩ rfl
   (zAX rfl mRange (zE (pv 1) zM)) (fun _ _ _ _=>zAj (i:=0) (zM3 rfl) rfl (Or.inr rfl)) (fun _ _ _ _=>zBn)
   (fun _ _ _ _=>zBG (own:=["_law_b"]) (cn:=["_law_a"]) (ci:=[0]) rfl (csc rfl rfl) ⟨rfl,rfl,rfl,trivial⟩ rfl
    (zAX rfl mRange (zE (pv 1) zM)) (fun _ _ _ _=>zB8) (fun _ _ _ _=>zBn)
    (fun _ _ _ _=>zCJ (zAC zCI (pv 1) (pv 0) (zAI _)) ze zBF)))
  (zO (zBl PassesOwn.never rfl (zCu (pv 2)) (zEq rfl (zBb (zAj (i:=4) zD3.nd rfl (Or.inl rfl)) (zBb (zAj (i:=5) zD3.nd rfl (Or.inl rfl)) (zBb (zAj (i:=6) zD3.nd rfl (Or.inl rfl)) zDZ))))
   (zO (zDN (pv 6) (zDj (zAG zAb (pv 3) (pv 4)) (pv 5) zCT))
   (zg (zDN (pv 6) (zDj (zAG zAb (pv 3) (pv 5)) (pv 4) zCT)))))
  (zO (zBl PassesOwn.never rfl (zAX rfl mRange (zE (pv 1) zM)) (zAj (i:=7) zD3.nd rfl (Or.inl rfl))
   (zg (zBl PassesOwn.never rfl (zAX rfl mRange (zE (pv 1) zM)) (zAj (i:=4) zD3.nd rfl (Or.inl rfl))
    (zg (zBl PassesOwn.never rfl (zAX rfl mRange (zE (pv 1) zM)) (zAj (i:=5) zD3.nd rfl (Or.inl rfl))
     (zO (zAn (i:=8) zD3.nd (zAa GA hr FA (zE (zAG zAb (zAG zAb (pv 3) (pv 4)) (pv 7)) (zE (zAG zAb (zAG zAb (pv 3) (pv 7)) (pv 5)) zM))))
     (zg (zDN (zAa GL hr FL (zE (zAG zAb (zAG zAb (pv 3) (pv 4)) (pv 5)) (zE (pv 8) zM))) (zDj (zAG zAb (pv 3) (pv 4)) (pv 5) zCT)))))))))
  (zg (zAF (pv 3)))))),?_⟩
 refine⟨_,rfl,wa,_,rfl,SqT.of hwa,rfl,_,_,rfl,_,_,rfl,rfl,?_⟩
 refine⟨_,rfl,n,rfl,by omega,by omega,[.int n],rfl,fun D hD=>?_⟩
 refine zBE (lo:=0) (n:=n.toNat) (fun q ys H1=>q<=n.toNat/\∃(rs:List Addr)(M:lLO),ys=rs.map V.ref/\rs.length=q/\zC3 H1 rs M/\(∀x:Nat,x<q->M[x]? = some (zIs x n.toNat))/\(∀r∈rs,H r=none/\r≠D)/\zAo H H1/\H1 D=some (.lst ys))
  ⟨zi _,[],[],rfl,rfl,⟨rfl,List.nodup_nil,fun i r row h=>by simp at h⟩,fun x hx=>absurd hx (zBq _),fun r h=>by simp at h,zF hD,zG⟩ (fun q ys H1 h=>?_) (fun q ys H1 hq h=>?_) (fun ys H1 h=>?_)
 . obtain⟨hq,rs,M,rfl,hl,_⟩:=h
   rw[zD,hl]
   exact zr (by omega)
 . obtain⟨_,rs,M,rfl,hl,R,L,fr,sm,hD1⟩:=h
   rw[zAJ]
   refine⟨⟨rfl,rfl⟩,?_⟩
   refine zGe ?_
   refine⟨_,rfl,n,rfl,by omega,by omega,[.int q],rfl,fun D2 hD2=>?_⟩
   have nD2:D2≠D:=fun z=>by rw[z,hD1] at hD2;cases hD2
   refine zBE (lo:=0) (n:=n.toNat) (fun j ys H2=>j<=n.toNat/\ys=(zIs q j).map oV/\zAo H1 H2/\H2 D2=some (.lst ys))
    ⟨zi _,rfl,zF hD2,zG⟩ (fun j ys H2 h=>?_) (fun j ys H2 hj h=>?_) (fun ys H2 h=>?_)
   . obtain⟨hj,rfl,_⟩:=h
     rw[zD,zHK]
     exact zr (by omega)
   . obtain⟨_,rfl,s2,h2⟩:=h
     rw[zAJ]
     refine⟨⟨rfl,rfl⟩,?_⟩
     refine zGe ?_
     refine⟨_,rfl,_,rfl,rfl,_,rfl,?_⟩
     by_cases e:(q:Int)=(j:Int)
     . refine ifT (zP (congrArg V.int e)) ?_
       refine⟨h2,hj,?_,zA0 s2 hD2,zG⟩
       rw[zFx,if_pos e,zS];rfl
     . refine ifF (zb fun z=>e (V.int.inj z)) ?_
       refine⟨h2,hj,?_,zA0 s2 hD2,zG⟩
       rw[zFx,if_neg e,zS];rfl
   . obtain⟨_,rfl,s2,h2⟩:=h
     have hD22:H2 D=some (.lst (rs.map V.ref)):=s2 _ _ hD1
     have frD2:H D2=none:=by
      cases z:H D2 with
      | none=>rfl
      | some o=>rw[sm _ _ z] at hD2;cases hD2
     have nin:D2∉rs:=fun z=>by
      obtain⟨i,hi,e⟩:=zy z
      have hM:i<M.length:=by rw[<-R.1];exact hi
      have:=R.2.2 i D2 M[i] (by rw[zA hi,e]) (zA hM)
      rw[hD2] at this;cases this
     refine⟨hD22,hq,rs++[D2],M++[zIs q n.toNat],by rw[zS];rfl,by rw[zL,hl];rfl,⟨by rw[zL,zL,R.1];rfl,?_,fun i r row h1 h3=>?_⟩,fun x hx=>?_,fun r hr'=>?_,zA0 (sm.trans s2) hD,zG⟩
     . exact List.nodup_append.mpr ⟨R.2.1,by simp,fun a ha b hb=>by
        have e:b=D2:=by simpa using hb
        rw[e];exact fun z=>nin (z ▸ ha)⟩
     . have key:H2 r=some (.lst (row.map oV))/\r≠D:=by
        by_cases hi:i<rs.length
        . rw[zd hi] at h1
          rw[zd (by rw[<-R.1];exact hi)] at h3
          exact⟨s2 _ _ (R.2.2 i r row h1 h3),(fr r (za h1)).2⟩
        . rw[zV (by omega)] at h1
          rw[zV (by rw[<-R.1];omega),<-R.1] at h3
          cases hz:i-rs.length with
          | zero=>
           rw[hz] at h1 h3
           have e1:D2=r:=by simpa using h1
           have e2:zIs q n.toNat=row:=by simpa using h3
           subst e1 e2
           exact⟨h2,nD2⟩
          | succ k=>rw[hz] at h1;simp at h1
       rw[zf key.2]
       exact key.1
     . by_cases hx':x<q
       . rw[zd (by rw[<-R.1,hl];exact hx')]
         exact L x hx'
       . have e:x=q:=by omega
         subst e
         rw[zV (by rw[<-R.1,hl];exact zH _),<-R.1,hl]
         simp
     . rcases zn.mp hr' with z | z
       . exact fr r z
       . have e:r=D2:=by simpa using z
         rw[e];exact⟨frD2,nD2⟩
 . obtain⟨_,rs,M,rfl,hl,R,L,fr,sm,hD1⟩:=h
   have hML:M.length=n.toNat:=by rw[<-R.1,hl]
   have S0:Sqm n M:=⟨hML,fun r hr'=>by
    obtain⟨i,hi,e⟩:=zy hr'
    have:=L i (by omega)
    rw[zA hi,e] at this
    rw[zU this,zHK]⟩
   have M0:∀x y,0<=x->x<n->0<=y->y<n->mat M x y=if x=y then some 0 else none:=fun x y hx hx' hy hy'=>by
    unfold mat
    rw[if_pos hx,zC,L x.toNat (by omega),zB4,zKe hy (by omega),show ((x.toNat:Nat):Int)=x by omega]
   have wr:∀{H2:Hp}{r:Addr}{o:HO},r∈rs->zAo H H2->zAo H (upd H2 r o):=fun {H2 r o} hr' s2=>zA0 s2 (fr r hr').1
   have wD:∀{H2:Hp}{r:Addr}{o:HO},r∈rs->H2 D=some (.lst (rs.map V.ref))->(upd H2 r o) D=some (.lst (rs.map V.ref)):=fun {H2 r o} hr' e=>by rw[zf (fr r hr').2.symm];exact e
   refine⟨_,rfl,ta,rfl,⟨_,SqT.of (sm _ _ hta)⟩,zGv (K:=K) (a:=ta) (xs:=tys)
    (fun i σ H2=>∃(v4 v5 v6 v7 v8:Option V)(M:lLO),σ=[some (.ref wa),some (.int n),some (.ref ta),some (.ref D),v4,v5,v6,v7,v8]/\zAo H H2/\H2 D=some (.lst (rs.map V.ref))/\zC3 H2 rs M/\Sqm n M/\Ft (ts.take i) n (mat M))
    ⟨_,_,_,_,_,M,rfl,sm,hD1,R,S0,by rw[List.take_zero];exact Ft.nil n M0⟩ (fun i σ H2 _ ⟨_,_,_,_,_,_,_,s,_⟩=>SqT.of (s _ _ hta)) ?turn1 ?after1⟩
   case turn1=>
    rintro i y σ H2 hi ⟨v4,v5,v6,v7,v8,M2,rfl,s2,hD2,R2,S2,T2⟩
    obtain⟨ya,ky,rfl,hky,hya,_⟩:=TA.get hi
    rw[zN] at hky
    obtain⟨⟨a,b,c⟩,hti,rfl⟩:∃t:T3,ts[i]? = some t/\tl t=ky:=by
     cases e:ts[i]? with
     | none=>rw[e] at hky;cases hky
     | some t=>rw[e] at hky;exact⟨t,rfl,zU hky⟩
    have hm:=za hti
    have hr3:=G.rng _ hm
    simp only at hr3
    obtain⟨ra,rowa,a1,a2,a3,a4,a5,_⟩:=R2.get S2 (a:=a) (by omega) (by omega)
    have ma:=za a1
    refine⟨ya,_,rfl,SqT.of (s2 _ _ hya),rfl,_,_,rfl,_,_,rfl,_,_,rfl,rfl,?_⟩
    refine⟨_,rfl,_,rfl,_,rfl,D,_,_,.ref ra,rfl,rfl,SqL.of hD2,zBH (by omega) (by rw[zN,a1];rfl),_,rfl,ra,_,b,b.toNat,rfl,rfl,a5,zF8 (by omega) (by rw[zD,a4];omega),?_⟩
    have R3:zC3 (upd H2 ra (.lst ((rowa.map oV).set b.toNat (.int c)))) rs (zIJ M2 a b (some c)):=R2.set S2 (v:=some c) (by omega) (by omega) a1 a2
    have S3:Sqm n (zIJ M2 a b (some c)):=S2.set (by omega) (by omega)
    have s3:=wr (o:=.lst ((rowa.map oV).set b.toNat (.int c))) ma s2
    have hD3:=wD (o:=.lst ((rowa.map oV).set b.toNat (.int c))) ma hD2
    generalize upd H2 ra (.lst ((rowa.map oV).set b.toNat (.int c)))=H3 at R3 s3 hD3 ⊢
    obtain⟨rb,rowb,b1,b2,b3,b4,b5,_⟩:=R3.get S3 (a:=b) (by omega) (by omega)
    have mb:=za b1
    refine⟨_,rfl,_,rfl,_,rfl,D,_,_,.ref rb,rfl,rfl,SqL.of hD3,zBH (show 0<=b by omega) (by rw[zN,b1];rfl),_,rfl,rb,_,a,a.toNat,rfl,rfl,b5,zF8 (by omega) (by rw[zD,b4];omega),?_⟩
    have R4:zC3 (upd H3 rb (.lst ((rowb.map oV).set a.toNat (.int c)))) rs (zIJ (zIJ M2 a b (some c)) b a (some c)):=R3.set S3 (v:=some c) (by omega) (by omega) b1 b2
    refine⟨_,_,_,_,_,_,rfl,wr mb s3,wD mb hD3,R4,S3.set (by omega) (by omega),?_⟩
    have hsp:ts=ts.take i++(a,b,c)::ts.drop (i+1):=by
     have hil:=(zK.mp hti)
     conv=>lhs;rw[<-List.take_append_drop i ts,List.drop_eq_getElem_cons hil.1,hil.2]
    have htk:ts.take (i+1)=ts.take i++[(a,b,c)]:=by rw[zw,hti];rfl
    rw[htk]
    refine (Ft.put (post:=ts.drop (i+1)) (by rw[<-hsp];exact G) T2).congr fun x y hx hx' hy hy'=>?_
    rw[zGs S3 (by omega) (by omega) (by omega) (by omega) hx hx',zGs S2 (by omega) (by omega) (by omega) (by omega) hx hx']
   case after1=>
    rintro σ H2 ⟨v4,v5,v6,v7,v8,M2,rfl,s2,hD2,R2,S2,T2⟩
    have hlt:tys.length=ts.length:=by rw[TA.length,zD]
    rw[hlt,List.take_length] at T2
    have FC:=T2.fw G
    refine⟨_,rfl,n,rfl,by omega,by omega,zBT (lo:=0) (n:=n.toNat)
     (fun kk σ H3=>∃(v4 v5 v6 v7 v8:Option V)(M:lLO),σ=[some (.ref wa),some (.int n),some (.ref ta),some (.ref D),v4,v5,v6,v7,v8]/\zAo H H3/\H3 D=some (.lst (rs.map V.ref))/\zC3 H3 rs M/\Sqm n M/\Fw ts n (mat M)/\Cov ts n (kk:Int) (mat M))
     ⟨_,_,_,_,_,M2,rfl,s2,hD2,R2,S2,FC.1,FC.2⟩ ?turn2 ?after2⟩
    case after2=>
     rintro σ H3 ⟨v4,v5,v6,v7,v8,M3,rfl,s3,hD3,R3,S3,f3,c3⟩
     rw[show ((n.toNat:Nat):Int)=n by omega] at c3
     exact⟨_,rfl,k D rs M3 H3 s3 hD3 R3 (zMR G S3 f3 c3)⟩
    case turn2=>
     rintro kk σ H3 hkk ⟨v4,v5,v6,v7,v8,M3,rfl,s3,hD3,R3,S3,f3,c3⟩
     rw[zAJ]
     refine⟨_,rfl,n,rfl,by omega,by omega,zBT (lo:=0) (n:=n.toNat)
      (fun aa σ H4=>∃(v4 v5 v6 v8:Option V)(M:lLO),σ=[some (.ref wa),some (.int n),some (.ref ta),some (.ref D),v4,v5,v6,some (.int (kk:Int)),v8]/\zAo H H4/\H4 D=some (.lst (rs.map V.ref))/\zC3 H4 rs M/\Sqm n M/\Fm ts n (kk:Int) (mat M) (fun x _=>x<(aa:Int)))
      ⟨_,_,_,_,M3,rfl,s3,hD3,R3,S3,(Fm.enter f3 c3).congr (fun _ _ _ _ _ _=>rfl) fun x y hx _ _ _ z=>by omega⟩ ?turn3 ?after3⟩
     case after3=>
      rintro σ H4 ⟨v4,v5,v6,v8,M4,rfl,s4,hD4,R4,S4,F4⟩
      have fc:=F4.leave fun x y _ hx' _ _=>by omega
      exact⟨_,_,_,_,_,M4,rfl,s4,hD4,R4,S4,fc.1,fc.2⟩
     case turn3=>
      rintro aa σ H4 haa ⟨v4,v5,v6,v8,M4,rfl,s4,hD4,R4,S4,F4⟩
      rw[zAJ]
      refine⟨_,rfl,n,rfl,by omega,by omega,zBT (lo:=0) (n:=n.toNat)
       (fun bb σ H5=>∃(v5 v6 v8:Option V)(M:lLO),σ=[some (.ref wa),some (.int n),some (.ref ta),some (.ref D),some (.int (aa:Int)),v5,v6,some (.int (kk:Int)),v8]/\zAo H H5/\H5 D=some (.lst (rs.map V.ref))/\zC3 H5 rs M/\Sqm n M/\Fm ts n (kk:Int) (mat M) (fun x y=>x<(aa:Int)\/(x=(aa:Int)/\y<(bb:Int))))
       ⟨_,_,_,M4,rfl,s4,hD4,R4,S4,F4.congr (fun _ _ _ _ _ _=>rfl) fun x y _ _ hy _ z=>by omega⟩ ?turn4 ?after4⟩
      case after4=>
       rintro σ H5 ⟨v5,v6,v8,M5,rfl,s5,hD5,R5,S5,F5⟩
       exact⟨_,_,_,_,M5,rfl,s5,hD5,R5,S5,F5.congr (fun _ _ _ _ _ _=>rfl) fun x y _ _ _ hy' z=>by omega⟩
      case turn4=>
       rintro bb σ H5 hbb ⟨v5,v6,v8,M5,rfl,s5,hD5,R5,S5,F5⟩
       rw[zAJ]
       obtain⟨ra,rowa,a1,a2,a3,a4,a5,a6⟩:=R5.get S5 (a:=(aa:Int)) (by omega) (by omega)
       obtain⟨rk,rowk,k1,k2,k3,k4,k5,k6⟩:=R5.get S5 (a:=(kk:Int)) (by omega) (by omega)
       have ma:=za a1
       refine⟨_,rfl,_,rfl,D,_,_,.ref ra,rfl,rfl,SqL.of hD5,zBH (by omega) (by rw[zN,a1];rfl),_,rfl,ra,_,_,_,rfl,rfl,SqL.of a5,zHJ a4 (by omega) (by omega),?_⟩
       refine⟨_,rfl,_,rfl,D,_,_,.ref rk,rfl,rfl,SqL.of hD5,zBH (by omega) (by rw[zN,k1];rfl),_,rfl,rk,_,_,_,rfl,rfl,SqL.of k5,zHJ k4 (by omega) (by omega),?_⟩
       refine⟨_,_,rfl,?_⟩
       refine⟨_,rfl,_,rfl,D,_,_,.ref ra,rfl,rfl,SqL.of hD5,zBH (by omega) (by rw[zN,a1];rfl),_,rfl,ra,_,_,_,rfl,rfl,SqL.of a5,zHJ a4 (by omega) (by omega),?_⟩
       refine⟨_,rfl,_,_,rfl,?_⟩
       refine⟨_,rfl,_,rfl,D,_,_,.ref ra,rfl,rfl,SqL.of hD5,zBH (by omega) (by rw[zN,a1];rfl),_,rfl,ra,_,_,(bb:Int).toNat,rfl,rfl,a5,zF8 (by omega) (by rw[zD,a4];omega),?_⟩
       refine⟨_,_,_,_,rfl,wr ma s5,wD ma hD5,R5.set S5 (by omega) (by omega) a1 a2,S5.set (by omega) (by omega),?_⟩
       refine (Fm.step G F5 (a:=(aa:Int)) (b:=(bb:Int)) (by omega) (by omega) (by omega) (by omega) (by omega) (by omega)).congr (fun x y hx hx' hy hy'=>?_) fun x y _ _ _ _ z=>by omega
       rw[zGs S5 (by omega) (by omega) (by omega) (by omega) hx hx',a6,a6,k6]
theorem zMM (a b:Option Int):scal (oV a) (oV b)=true:=by cases a <;> cases b <;> rfl
theorem zHy:decide (oV none=V.non)=true:=zP rfl
theorem dec_oV (a b:Option Int):decide (oV a=oV b)=decide (a=b):=decide_eq_decide.mpr ⟨fun h=>by
 cases a with
 | none=>
  cases b with
  | none=>rfl
  | some b=>cases h
 | some a=>
  cases b with
  | none=>cases h
  | some b=>rw[V.int.inj h],fun h=>by rw[h]⟩
noncomputable def zGc (H:Hp)(fl:Addr)(n:Int)(ts:List T3)(M:lLO):Prop:=∃rs:List Addr,H fl=some (.lst (rs.map V.ref))/\zC3 H rs M/\Rows ts n M
theorem zMQ {M:lLO}(R:Rows ts n M):Sqm n M:=⟨R.1,fun r hr=>by
 obtain⟨i,hi,e⟩:=zy hr
 have h1:=R.1
 have:=(R.2 (i:Int) (by omega) (by omega)).ln
 rw[zAR,zC,zA hi,zB4,e] at this
 exact this⟩
theorem zGc.keep {H H':Hp}{fl:Addr}{n:Int}{ts:List T3}{M:lLO}(h:zGc H fl n ts M)(k:∀b ys,H b=some (.lst ys)->H' b=some (.lst ys)):zGc H' fl n ts M:=by
 obtain⟨rs,a,b,c⟩:=h
 exact⟨rs,k _ _ a,b.keep fun b ys e _=>k b ys e,c⟩
theorem zGc.get {H:Hp}{fl:Addr}{n:Int}{ts:List T3}{M:lLO}(h:zGc H fl n ts M){x y:Int}(hx:0<=x)(hx':x<n)(hy:0<=y)(hy':y<n) :
 ∃(rs:List V)(r:Addr)(row:List V),H fl=some (.lst rs)/\atI rs x=some (.ref r)/\H r=some (.lst row)/\atI row y=some (oV (mat M x y))/\Len ts x y (mat M x y):=by
 obtain⟨rs,a,b,c⟩:=h
 obtain⟨r,row,e1,e2,e3,e4,e5,e6⟩:=b.get (zMQ c) hx hx'
 have L:=c.2 x hx hx'
 rw[e3] at L
 refine⟨_,r,_,a,zBH hx (by rw[zN,e1];rfl),e5,?_,?_⟩
 . rw[<-e6];exact zHJ e4 hy hy'
 . rw[<-e6];exact L.len y hy hy'
noncomputable def onB (M:lLO)(p x y:Int):Bool:=match mat M x y with
 | none=>false
 | some d=>decide (oadd (mat M x p) (mat M p y)=some d)
theorem zI4 {fl:Addr}{M:lLO}(h:zGc H fl n ts M){p:Int}(hp:0<=p)(hp':p<n)(hx:0<=x)(hx':x<n)(hy:0<=y)(hy':y<n):onB M p x y=true↔Btw ts x y p:=by
 obtain⟨_,_,_,_,_,_,_,l1⟩:=h.get hx hx' hy hy'
 obtain⟨_,_,_,_,_,_,_,l2⟩:=h.get hx hx' hp hp'
 obtain⟨_,_,_,_,_,_,_,l3⟩:=h.get hp hp' hy hy'
 unfold onB
 constructor
 . intro z
   cases e:mat M x y with
   | none=>rw[e] at z;cases z
   | some d=>
    rw[e] at z l1
    obtain⟨a,b,e1,e2,e3⟩:=zF2 (of_decide_eq_true z)
    rw[e1] at l2
    rw[e2] at l3
    exact⟨a,b,l2,l3,by rw[e3];exact l1⟩
 . rintro ⟨a,b,h1,h2,h3⟩
   have e1:=Len.uniq l1 (show Len ts x y (some (a+b)) from h3)
   have e2:=Len.uniq l2 (show Len ts x p (some a) from h1)
   have e3:=Len.uniq l3 (show Len ts p y (some b) from h2)
   rw[e1,e2,e3]
   exact zP rfl
noncomputable def spOn:Sp:=fun vs H Q _=>∃(fl:Addr)(n:Int)(ts:List T3)(M:lLO)(p x y:Int),vs=[.ref fl,.int p,.int x,.int y]/\zGc H fl n ts M/\0<=p/\p<n/\0<=x/\x<n/\0<=y/\y<n/\Q (.bl (onB M p x y)) H
theorem scOn:zAD ["_law_far_here", "_law_place", "_law_one", "_law_other", "_law_due"] ["_law_far_here", "_law_place", "_law_one", "_law_other"] (defScope sOn):=fS0
theorem ok_on (F:Fun K "_law_on" "_law_on" sOn f fd') (FA:FuB K mg "_law_added" sAdd fA fdA ["_law_one","_law_other"]):zAe P w K mg base CX0 2 f fd' ["_law_far_here", "_law_place", "_law_one", "_law_other"] spOn:=by
 have GA:zAe P w K mg base CX0 1 fA fdA ["_law_one", "_law_other"] zME:=zLo FA.F
 refine F.okD scOn fun _ A _ _ H vs Q E hr h=>?_
 obtain⟨fl,n,ts,M,p,x,y,rfl,FR,hp,hp',hx,hx',hy,hy',k⟩:=h
 refine⟨_,zO (zAn (i:=4) scOn.nd (zAG zAb (zAG zAb (pv 0) (pv 2)) (pv 3)))
  (zg (zAF (zD9 (zCO zFJ (pv 4) zBF (zAI _)) (zEr (zCO zCI (zAa GA hr FA (zE (zAG zAb (zAG zAb (pv 0) (pv 2)) (pv 1)) (zE (zAG zAb (zAG zAb (pv 0) (pv 1)) (pv 3)) zM))) (pv 4) (zAI _)))))),?_⟩
 obtain⟨r1,a1,w1,f1,g1,i1,j1,_⟩:=FR.get hx hx' hy hy'
 obtain⟨r2,a2,w2,f2,g2,i2,j2,_⟩:=FR.get hx hx' hp hp'
 obtain⟨r3,a3,w3,f3,g3,i3,j3,_⟩:=FR.get hp hp' hy hy'
 refine⟨_,rfl,_,rfl,fl,_,_,.ref a1,rfl,rfl,SqL.of f1,g1,_,rfl,a1,_,_,_,rfl,rfl,SqL.of i1,j1,?_⟩
 refine⟨_,rfl,rfl,_,rfl,?_⟩
 unfold onB at k
 cases e:mat M x y with
 | none=>
  rw[e] at k
  exact ifF (by rw[zHy];rfl) k
 | some d=>
  rw[e] at k
  refine ifT (by rw[zCL];rfl) ?_
  refine⟨_,rfl,_,rfl,fl,_,_,.ref a2,rfl,rfl,SqL.of f2,g2,_,rfl,a2,_,_,_,rfl,rfl,SqL.of i2,j2,?_⟩
  refine⟨_,rfl,_,rfl,fl,_,_,.ref a3,rfl,rfl,SqL.of f3,g3,_,rfl,a3,_,_,_,rfl,rfl,SqL.of i3,j3,?_⟩
  refine⟨_,_,rfl,_,rfl,zMM _ (some d),?_⟩
  rw[dec_oV]
  exact k
noncomputable def zLa:Sp:=fun vs H Q _=>∃(wa:Addr)(n:Int)(ts:List T3),vs=[.ref wa]/\zBj H wa n ts/\n<=24/\∀(sl:Addr)(R:List (List Int))(H':Hp),zAo H H'->zBi H' sl R->zDr ts n R->Q (.ref sl) H'
theorem sn_nn (xs:List Int):0<=sn xs:=by rw[zEk];exact Int.natCast_nonneg _
theorem zDr.nn (h:zDr ts n R)(n8:n<=8):NN R:=by
 refine⟨fun row hr m hm=>?_,fun row hr=>?_,by rw[h.rl];omega⟩
 . obtain⟨i,hi,e⟩:=zy hr
   obtain⟨l,r⟩:=h.ro i row (by rw[zA hi,e])
   obtain⟨j,hj,e2⟩:=zy hm
   obtain⟨xs,e3,_⟩:=r j (by omega)
   rw[zA hj,e2] at e3
   cases e3
   exact sn_nn xs
 . obtain⟨i,hi,e⟩:=zy hr
   have:=(h.ro i row (by rw[zA hi,e])).1
   omega
theorem zDr.uniq {R':List (List Int)}(a:zDr ts n R)(b:zDr ts n R'):R=R':=by
 refine List.ext_getElem (by rw[a.rl,b.rl]) fun i h1 h2=>?_
 obtain⟨l1,r1⟩:=a.ro i R[i] (zA h1)
 obtain⟨l2,r2⟩:=b.ro i R'[i] (zA h2)
 refine List.ext_getElem (by rw[l1,l2]) fun j g1 g2=>?_
 obtain⟨xs,e1,p1,m1⟩:=r1 j (by omega)
 obtain⟨ys,e2,p2,m2⟩:=r2 j (by omega)
 rw[zA g1] at e1
 rw[zA g2] at e2
 rw[zU e1,zU e2,zFy p1 p2 fun x=>(m1 x).trans (m2 x).symm]
theorem zEm:zAD ["_law_web_here", "_law_far_here", "_law_found", "_law_one", "_law_row", "_law_other"] ["_law_web_here"] (defScope zKb):=fS0
theorem zMq (F:Fun K "_law_masks" "_law_masks" zKb f fd') (FF:FuB K mg "_law_far" sFar fF fdF ["_law_web_here"]) (GF:zAe P w K mg base CX0 3 fF fdF ["_law_web_here"] spFar)
 (FO:FuB K mg "_law_on" sOn fO fdO ["_law_far_here","_law_place","_law_one","_law_other"]) (GO:zAe P w K mg base CX0 3 fO fdO ["_law_far_here", "_law_place", "_law_one", "_law_other"] spOn) (mRange:mg "range" = none) (mSum:mg "sum" = none):zAe P w K mg base CX0 4 f fd' ["_law_web_here"] zLa:=by
 refine F.okD zEm fun _ A _ _ H vs Q E hr h=>?_
 obtain⟨wa,n,ts,rfl,W,n8,k⟩:=h
 obtain⟨ta,tys,hwa,_,_,G⟩:=id W
 have hn1:=G.n1
 refine⟨_,zO (zC8 (i:=1) zEm.nd rfl (Or.inr rfl) (zAa GF hr FF (zE (pv 0) zM)))
  (zO (zAn (i:=2) zEm.nd (zBy zM))
  (zO (zBl PassesOwn.never rfl (zAX rfl mRange (zE (zAG zAY (pv 0) ze) zM)) (zAj (i:=3) zEm.nd rfl (Or.inr rfl))
   (zO (zAn (i:=4) zEm.nd (zBy zM))
   (zO (zBl PassesOwn.never rfl (zAX rfl mRange (zE (zAG zAY (pv 0) ze) zM)) (zAj (i:=5) zEm.nd rfl (Or.inr rfl))
    (zg (zCg (zFI PySem.F.plainAttrs_list PySem.F.slot_list_append PySem.F.type_list_append zBr (pv 4) (zE (zt (zEU rfl) mSum (zE (zBG (own:=["_law_place"]) (cn:=["_law_far_here", "_law_one", "_law_other"]) (ci:=[1,3,5]) rfl (csc rfl rfl) ⟨rfl,rfl,rfl,rfl,rfl,rfl,rfl,rfl,rfl,trivial⟩ rfl (zAX rfl mRange (zE (zAG zAY (pv 0) ze) zM)) (fun _ _ _ _=>zB8)
     (fun _ _ _ _=>zCA (zBR (zAa GO hr FO (zE (pv 1) (zE (pv 0) (zE (pv 2) (zE (pv 3) zM))))))) (fun _ _ _ _=>zAS zCc ze (pv 0))) zM)) zM)))))
   (zg (zCg (zFI PySem.F.plainAttrs_list PySem.F.slot_list_append PySem.F.type_list_append zBr (pv 2) (zE (pv 4) zM)))))))
  (zg (zAF (pv 2))))),?_⟩
 refine⟨_,rfl,wa,n,ts,rfl,W,fun fl rs M H1 s1 hfl LR RR=>?_⟩
 have FR:zGc H1 fl n ts M:=⟨rs,hfl,LR,RR⟩
 have hwa1:=s1 _ _ hwa
 refine⟨by show 0<=sizeLine;decide,fun fo hfo=>?_⟩
 have s2:=zF (o:=.lst []) hfo
 refine⟨_,rfl,wa,_,_,_,rfl,rfl,SqT.of (s2 _ _ hwa1),rfl,n,rfl,by omega,by omega,zBT (lo:=0) (n:=n.toNat) (fun q σ H2=>∃(v3 v4 v5:Option V)(ls:List Addr)(R:List (List Int)),σ=[some (.ref wa),some (.ref fl),some (.ref fo),v3,v4,v5]/\zAo H1 H2/\H2 fo=some (.lst (ls.map V.ref))/\ls.length=q/\zIH H2 ls R/\(∀l∈ls,l≠fo)/\∀(h:Nat)(row:List Int),R[h]? = some row->row.length=n.toNat/\∀i,i<n.toNat->∃xs:List Int,row[i]? = some (sn xs)/\xs.Pairwise (· < ·)/\∀p,p∈xs↔Btw ts h i p)
  ⟨_,_,_,[],[],rfl,s2,zG,rfl,⟨rfl,fun i r row e=>by simp at e⟩,fun l hl=>by simp at hl,fun h row e=>by simp at e⟩ (fun q σ H2 hq z=>?_) (fun σ H2 z=>?_)⟩
 . obtain⟨v3,v4,v5,ls,R,rfl,s12,h2,hl,RI,fr,ro⟩:=z
   rw[zAJ]
   refine⟨by show 0<=sizeLine;decide,fun ra hra=>?_⟩
   have s23:=zF (o:=.lst []) hra
   refine⟨_,rfl,wa,_,_,_,rfl,rfl,SqT.of (s23 _ _ (s12 _ _ hwa1)),rfl,n,rfl,by omega,by omega,zBT (lo:=0) (n:=n.toNat) (fun j σ H4=>∃(v5:Option V)(bs:List (List Int)),σ=[some (.ref wa),some (.ref fl),some (.ref fo),some (.int q),some (.ref ra),v5]/\zAo H2 H4/\H4 ra=some (.lst ((bs.map sn).map V.int))/\bs.length=j/\∀(i:Nat)(xs:List Int),bs[i]? = some xs->xs.Pairwise (· < ·)/\∀p,p∈xs↔Btw ts q i p)
    ⟨_,[],rfl,s23,zG,rfl,fun i xs e=>by simp at e⟩ (fun j σ H4 hj z=>?_) (fun σ H4 z=>?_)⟩
   . obtain⟨v5',bs,rfl,s24,h4,hbl,hbs⟩:=z
     rw[zAJ]
     have s14:=s12.trans s24
     have hra4:H2 ra=none:=hra
     refine⟨_,rfl,.inl ⟨rfl,_,SqL.of h4⟩,_,rfl,wa,_,_,_,rfl,rfl,SqT.of (s14 _ _ hwa1),rfl,n,rfl,by omega,by omega,[.ref fl,.int q,.int j],rfl,fun D hD=>?_⟩
     refine zBE (lo:=0) (n:=n.toNat) (fun m ys H5=>m<=n.toNat/\ys=(((lowTo m).filter fun p=>onB M p q j).map fun x=>(1:Int)*2 ^ x.toNat).map V.int/\zAo H4 H5/\H5 D=some (.lst ys)) ⟨zi _,rfl,zF hD,zG⟩ (fun m ys H5 z=>?_) (fun m ys H5 hm z=>?_) (fun ys H5 z=>?_)
     . obtain⟨hm,rfl,_⟩:=z
       rw[zD,zD]
       refine zAK (zu _ _) ?_
       rw[zCi]
       exact zr (by omega)
     . obtain⟨_,rfl,s45,h5⟩:=z
       rw[zAJ]
       have st:(lowTo (m+1)).filter (fun p=>onB M p q j)=(lowTo m).filter (fun p=>onB M p q j)++[(m:Int)].filter (fun p=>onB M p q j):=by rw[zEK,zAl]
       refine⟨⟨rfl,rfl⟩,?_⟩
       refine⟨_,rfl,_,rfl,_,rfl,_,rfl,fl,n,ts,M,(m:Int),(q:Int),(j:Int),rfl,FR.keep fun b ys e=>s45 _ _ (s14 _ _ e),by omega,by omega,by omega,by omega,by omega,by omega,_,rfl,?_⟩
       by_cases c:onB M m q j=true
       . refine ifT c ?_
         refine⟨_,rfl,1,(m:Int),rfl,rfl,⟨by omega,by omega,by decide⟩,h5,by omega,?_,zA0 s45 hD,zG⟩
         rw[st,zAU (p:=fun p=>onB M p q j) c,zAM,zS,zS];rfl
       . refine ifF (by simpa using c) ⟨by omega,?_,s45,h5⟩
         rw[st,zAH (p:=fun p=>onB M p q j) c,zAM,zp]
     . obtain⟨_,rfl,s45,h5⟩:=z
       refine⟨D,_,rfl,SqL.of h5,?_⟩
       have h5r:=s45 _ _ h4
       refine⟨ra,_,_,rfl,rfl,h5r,by rw[zD,zD];exact zr (by omega),?_⟩
       refine⟨_,bs++[(lowTo n.toNat).filter fun p=>onB M p q j],rfl,zA0 (s24.trans s45) hra4,by rw[zG,zS,zS];rfl,by rw[zL,hbl];rfl,fun i xs e=>?_⟩
       by_cases c:i<bs.length
       . rw[zd c] at e
         exact hbs i xs e
       . rw[zV (by omega)] at e
         have hi:i=j:=by
          have:=(zK.mp e).1
          rw[zA2] at this
          omega
         subst hi
         rw[show i-bs.length=0 by omega] at e
         cases e
         refine⟨(zDU _).sublist List.filter_sublist,fun p=>?_⟩
         rw[zAu,zCK]
         constructor
         . rintro ⟨⟨p0,p1⟩,c⟩
           exact (zI4 FR p0 (by omega) (by omega) (by omega) (by omega) (by omega)).mp c
         . intro hb
           obtain⟨a,b,ia,_⟩:=id hb
           have hp:=ia.1.in_ G (by omega:(0:Int)<=q) (by omega)
           exact⟨⟨hp.1,by omega⟩,(zI4 FR hp.1 hp.2 (by omega) (by omega) (by omega) (by omega)).mpr hb⟩
   . obtain⟨v5',bs,rfl,s24,h4,hbl,hbs⟩:=z
     have h4f:=s24 _ _ h2
     have nra:ra≠fo:=fun z=>by rw[z,h2] at hra;cases hra
     refine⟨_,rfl,.inl ⟨rfl,_,SqL.of h4f⟩,_,rfl,fo,_,_,rfl,rfl,h4f,by rw[zD];exact zr (by omega),?_⟩
     have hRl:R.length=q:=by rw[<-RI.1,hl]
     have hfo1:H1 fo=none:=hfo
     refine⟨_,_,_,ls++[ra],R++[bs.map sn],rfl,zA0 (s12.trans s24) hfo1,by rw[zG,zS];rfl,by rw[zL,hl];rfl,⟨by rw[zL,zL,RI.1];rfl,fun i r row e1 e2=>?_⟩,fun y hy=>?_,fun h row e=>?_⟩
     . by_cases c:i<q
       . rw[zd (by omega)] at e1 e2
         rw[zf (fr r (za e1))]
         exact s24 _ _ (RI.2 i r row e1 e2)
       . rw[zV (by omega)] at e1 e2
         have hi:i-ls.length=0:=by
          have:=(zK.mp e1).1
          rw[zA2] at this
          omega
         rw[hi] at e1
         rw[show i-R.length=0 by omega] at e2
         cases e1
         cases e2
         rw[zf nra];exact h4
     . rcases zn.mp hy with hy | hy
       . exact fr y hy
       . rw[zj.mp hy];exact nra
     . by_cases c:h<q
       . rw[zd (by omega)] at e
         exact ro h row e
       . rw[zV (by omega)] at e
         have hi:h=q:=by
          have:=(zK.mp e).1
          rw[zA2] at this
          omega
         subst hi
         rw[show h-R.length=0 by omega] at e
         cases e
         refine⟨by rw[zD,hbl],fun i hi=>?_⟩
         obtain⟨xs,hx⟩:∃xs,bs[i]? = some xs:=⟨_,zA (by omega)⟩
         exact⟨xs,by rw[zN,hx];rfl,hbs i xs hx⟩
 . obtain⟨v3,v4,v5,ls,R,rfl,s12,h2,hl,RI,fr,ro⟩:=z
   exact⟨_,rfl,k fo R H2 (s1.trans s12) ⟨ls,h2,RI⟩ ⟨by rw[<-RI.1,hl],ro⟩⟩
noncomputable def rCatV:R2:=fun x y H Q=>∃(a b:Addr)(xs ys:List V),x = .ref a/\y = .ref b/\H a=some (.tup xs)/\H b=some (.tup ys)/\xs.length+ys.length<=sizeLine/\∀(p:Addr)(H':Hp),zAo H H'->H' p=some (.tup (xs++ys))->Q (.ref p) H'
theorem zCv:OpR X (binaryOp .Add) rCatV:=fun pins s σ H x y v u Q I rx ry h=>by
 obtain⟨a,b,xs,ys,rfl,rfl,ha,hb,hz,q⟩:=h
 refine zMh pins s σ H _ _ v u Q I rx ry ⟨a,b,xs,ys,rfl,rfl,SqT.of ha,SqT.of hb,hz,fun e=>?_,fun _ e=>?_,fun _ _ p hp=>q p _ (zF hp) zG⟩
 . subst e;exact q b H (zAo.refl _) hb
 . subst e;exact q a H (zAo.refl _) (by rw[zp];exact ha)
noncomputable def rSlV:V->Option Int->Option Int->Hp->VK->Prop:=fun x lo hi H Q=>∃(a:Addr)(xs:List V),x = .ref a/\H a=some (.tup xs)/\∀(p:Addr)(H':Hp),zAo H H'->H' p=some (.tup (zC0 xs lo hi))->Q (.ref p) H'
theorem zCX:SlR X rSlV:=fun pins s σ H x v vl vu lo hi sl Q I rx hs pl pu h=>by
 obtain⟨a,xs,rfl,ha,q⟩:=h
 refine zMJ pins s σ H _ v vl vu lo hi sl Q I rx hs pl pu ⟨a,xs,rfl,SqT.of ha,fun e=>?_,fun _ p hp=>q p _ (zF hp) zG⟩
 refine q a H (zAo.refl _) ?_
 have:zC0 xs lo hi=xs:=by
  unfold zC0
  rw[e.1,e.2,List.drop_zero,Nat.sub_zero,zZ (zH _)]
 rw[this]
 exact ha
theorem zGL (xs:List V)(m:Nat):zC0 xs none (some (m:Int))=xs.take m:=by
 unfold zC0
 rw[HT.sIx_none,HT.sIx_nat,List.drop_zero,Nat.sub_zero]
 by_cases h:m<=xs.length
 . rw[Nat.min_eq_left h]
 . rw[Nat.min_eq_right (by omega),zZ (zH _),zZ (by omega)]
theorem zJv (xs:List V)(m:Nat):zC0 xs (some (m:Int)) none=xs.drop m:=by
 unfold zC0
 rw[HT.sIx_none,HT.sIx_nat]
 by_cases h:m<=xs.length
 . rw[Nat.min_eq_left h,zZ (by rw[List.length_drop];exact zH _)]
 . rw[Nat.min_eq_right (by omega),Nat.sub_self,List.take_zero,List.drop_of_length_le (by omega)]
noncomputable def rEqL (K:PySem.W.Frag):R2:=fun x y H Q=>∃(a b:Addr)(xs ys:List Int),x = .ref a/\y = .ref b/\SqL K H a (xs.map V.int)/\SqL K H b (ys.map V.int)/\Q (.bl (decide (xs=ys))) H
theorem op_eqL (hu:X.A.units<cLine):OpR X (compareOp .Eq) (rEqL X.K):=by
 intro pins s σ H x y v u Q I rx ry h
 obtain⟨a,b,xs,ys,rfl,rfl,ha,hb,q⟩:=h
 cases rx
 cases ry
 obtain⟨its,r,pl,hz⟩:=I.list ha
 obtain⟨its2,r2,pl2,hz2⟩:=I.list hb
 have h1:=zBS r
 have h2:=zBS r2
 have l1:=h1.length
 have l2:=h2.length
 by_cases hl:its.length=its2.length
 . refine SeqAt.eq_listAt (e:=fun j=>xs.getD j 0==ys.getD j 0) pl.isList pl2.isList (by rw[zQ,zQ];exact hl) hu (fun j a b=>eqAts h1 h2 j a b) ⟨.bl _,H,I,rfl,?_⟩
   rw[zQ]
   have e:=zK2 (xs:=xs) (ys:=ys)
   rw[show min xs.length ys.length=its.length by omega,show (xs.length==ys.length)=true by simpa using (by omega),Bool.and_true] at e
   rw[e]
   exact q
 . refine SeqAt.eq_list_lengthsAt pl.isList pl2.isList (by rw[zQ,zQ];simpa using hl) hu ⟨.bl _,H,I,rfl,?_⟩
   have hne:xs≠ys:=fun e=>hl (by rw[l1,l2,e])
   rw[zb hne] at q
   exact q
section
variable {X:Cx}{pl:lPO}{N':List Str}{sc:Scope}{fp:List Addr}{s3:Shared}{H3:Hp}
theorem zCW:zCS (zBm X pl N' sc fp s3 H3) (.builtin "isinstance") (fun xs H Q=>∃x T t b,xs=[x,.ty T]/\zGg X.K H x t/\PySem.W.kitOne X.K t (.type T)=some b/\Q (.bl b) H):=zBg
end
theorem zFO:∀{ds:List PyData},ds.all zDA=true->∃os:List Int,ds=os.map PyData.int
 | [],_=>⟨[],rfl⟩
 | d::ds,h=>by
  rw[List.all_cons,zBC] at h
  obtain⟨os,rfl⟩:=zFO h.2
  cases d with
  | int i=>exact⟨i::os,rfl⟩
  | _=>cases h.1
theorem zDx:∀os:List Int,(os.map PyData.int).all zDA=true
 | []=>rfl
 | _::os=>zDx os
theorem zHp {ms:List Int}(n0:0<=n)(pm:ms.Perm os)(so:ms.Pairwise (· <= ·)):ms=lowTo n.toNat↔zG5 n os:=by
 have hlen:(lowTo n.toNat).length=n.toNat:=by unfold lowTo;simp
 have hmem:∀p:Int,p∈lowTo n.toNat↔0<=p/\p<n:=fun p=>by
  unfold lowTo
  rw[zv]
  constructor
  . rintro ⟨i,hi,rfl⟩
    have:=zAW.mp hi
    omega
  . intro h
    exact⟨p.toNat,zAW.mpr (by omega),by omega⟩
 have hlow:(lowTo n.toNat).Pairwise (· < ·):=by
  unfold lowTo
  refine List.Pairwise.map _ (fun a b h=>?_) List.pairwise_lt_range
  exact Int.ofNat_lt.mpr h
 constructor
 . intro e
   subst e
   refine⟨by rw[<-pm.length_eq,hlen],pm.nodup_iff.mp (hlow.imp fun h=>by omega),fun p hp=>(hmem p).mp (pm.mem_iff.mpr hp)⟩
 . intro O
   have nd:ms.Nodup:=pm.nodup_iff.mpr O.nd
   have ms_lt:ms.Pairwise (· < ·):=by
    refine (so.and nd).imp fun h=>?_
    have:=h.1
    have:=h.2
    omega
   have pm2:ms.Perm (lowTo n.toNat):=by
    refine (List.perm_ext_iff_of_nodup nd (hlow.imp fun h=>by omega)).mpr fun p=>?_
    rw[hmem,pm.mem_iff]
    exact⟨O.rng p,fun h=>O.mem h.1 h.2⟩
   exact pm2.eq_of_pairwise (fun a b _ _ h1 h2=>by omega) ms_lt hlow
noncomputable def spIso:Sp:=fun vs H Q _=>∃(v:V)(d:PyData)(n:Int),vs=[.int n,v]/\zBA H v d/\1<=n/\n<=24/\(∀ds,d = .tuple ds->ds.length<64)/\∀(b:Bool) H',(b=true↔IsOrd n d)->zAo H H'->Q (.bl b) H'
theorem scIso:zAD ["_law_n", "_law_thing"] ["_law_n", "_law_thing"] (defScope sIso):=fS0
theorem ok_iso (F:Fun K "_law_is_order" "_law_is_order" sIso f fd') (mIsi:mg "isinstance" = none) (mInt:mg "int" = none) (mBool:mg "bool" = none) (mTuple:mg "tuple" = none) (mSorted:mg "sorted" = none) (mList:mg "list" = none) (mRange:mg "range" = none) :
 zAe P w K mg base CX0 1 f fd' ["_law_n", "_law_thing"] spIso:=by
 refine F.okD scIso fun _ A _ _ H vs Q E hr h=>?_
 obtain⟨v,d,n,rfl,S,n1,n24,hsm,k⟩:=h
 have hu0:=hr.units0
 obtain⟨t,bi,bb,bt,ty,_,_,e3,_,e5,_,ht⟩:=zDk (K:=K) S
 refine⟨_,zO (zBN (zBx (zBR (zt zBg mIsi (zE (pv 1) (zE (zCo (T := "tuple") mTuple) zM))))) (zg (zAF zEc)) zAQ)
  (zO (zBN (zAC (zLl hu0) (zBG (own:=["_law_one"]) (cn:=[]) (ci:=[]) rfl (csc rfl rfl) trivial rfl (zCu (pv 1)) (fun _ _ _ _=>zB8)
   (fun _ _ _ _=>zCA (PW.pt (zEb (zBx (zBR (zt zCW mIsi (zE (pv 0) (zE (zCo (T := "int") mInt) zM))))) (zDK (zBR (zt zCW mIsi (zE (pv 0) (zE (zCo (T := "bool") mBool) zM)))))))) (fun _ _ _ _=>pv 0)) (zBy zM) (zAI _)) (zg (zAF zEc)) zAQ)
  (zg (zAF (zCO (op_eqL hu0) (zt zFa mSorted (zE (pv 1) zM)) (zFz rfl rfl mList rfl mRange (zE (pv 0) zM)) (zAI _))))),?_⟩
 refine⟨_,rfl,_,_,t,bt,rfl,ty,e3,bt,rfl,?_⟩
 rw[e5]
 cases hn:tupD d with
 | false=>
  refine zCZ (k false H ⟨(fun z=>by cases z),?_⟩ (zAo.refl _))
  rintro ⟨os,rfl,_⟩
  cases hn
 | true=>
  refine zCe ?_
  obtain⟨a,xs,ds,rfl,ha,rfl,al⟩:=ht hn
  have hxl:=zCb al
  have hl64:=hsm ds rfl
  refine⟨_,rfl,a,rfl,⟨_,SqT.of ha⟩,[],rfl,fun D hD=>?_⟩
  refine zCU (a:=a) (xs:=xs) (fun i ys H4=>(ys=[]↔(ds.take i).all zDA=true)/\ys.length<=(ds.take i).length/\H4=upd H D (.lst ys)) ⟨⟨fun _=>rfl,fun _=>rfl⟩,zi _,rfl⟩ (fun i ys H4 z=>?_) (fun i ys H4 z=>?_) (fun i x ys H4 hx z=>?_) (fun ys H4 z=>?_)
  . obtain⟨_,_,rfl⟩:=z
    exact SqT.of (zF hD _ _ ha)
  . obtain⟨_,hl,_⟩:=z
    rw[zl] at hl
    exact zr (by omega)
  . obtain⟨hy,hl,rfl⟩:=z
    have hi:i<ds.length:=by have:=(zK.mp hx).1;omega
    obtain⟨x',hx',Sx⟩:=zDJ al (zA hi)
    rw[hx] at hx'
    cases hx'
    have Sx1:=zAy (zF (o:=.lst ys) hD) Sx
    obtain⟨tx,xi,xb,xt,tyx,x1,x2,_,x4,_⟩:=zDk (K:=K) Sx1
    have et:(ds.take (i+1)).all zDA=((ds.take i).all zDA && zDA ds[i]):=by
     rw[zw,zA hi,List.all_append]
     show ((ds.take i).all zDA && (zDA ds[i] && true))=_
     rw[Bool.and_true]
    refine⟨⟨rfl,rfl⟩,?_⟩
    refine⟨_,rfl,_,_,tx,xi,rfl,tyx,x1,xi,rfl,?_⟩
    have yes:zDA ds[i]=true->(ys=[]↔(ds.take (i+1)).all zDA=true)/\ys.length<=(ds.take (i+1)).length/\upd H D (.lst ys)=upd H D (.lst ys):=fun e=>⟨by rw[et,e,Bool.and_true];exact hy,by rw[zl] at hl ⊢;omega,rfl⟩
    have no:zDA ds[i]=false->(ys++[x]=[]↔(ds.take (i+1)).all zDA=true)/\(ys++[x]).length<=(ds.take (i+1)).length/\upd (upd H D (.lst ys)) D (.lst (ys++[x]))=upd H D (.lst (ys++[x])):=fun e=>⟨by rw[et,e,Bool.and_false];simp,by rw[zL,zl];rw[zl] at hl;show ys.length+1<=_;omega,zBZ⟩
    cases xi with
    | false=>
     refine zCZ (zCZ ?_)
     exact⟨_,rfl,zG,no (by rw[<-x4];rfl)⟩
    | true=>
     refine zCe ?_
     refine⟨_,rfl,_,_,tx,xb,rfl,tyx,x2,xb,rfl,?_⟩
     cases xb with
     | true=>exact zCZ ⟨_,rfl,zG,no (by rw[<-x4];rfl)⟩
     | false=>exact zCe (yes (by rw[<-x4];rfl))
  . obtain⟨hy,hl,rfl⟩:=z
    rw[hxl,zZ (zH _)] at hy
    refine⟨zi _,fun b hb=>?_⟩
    have sb:=(zF (o:=.lst ys) hD).trans (zF (o:=.lst []) hb)
    have hD2:(upd (upd H D (.lst ys)) b (.lst [])) D=some (.lst ys):=zF hb _ _ zG
    refine⟨D,b,ys,rfl,rfl,SqL.of hD2,SqL.of zG,_,rfl,?_⟩
    generalize upd (upd H D (.lst ys)) b (.lst [])=H5 at sb ⊢
    cases hall:ds.all zDA with
    | false=>
     have hne:ys≠[]:=fun z=>by have:=hy.mp z;rw[hall] at this;cases this
     have e0:(!ys.isEmpty)=true:=by cases ys with
      | nil=>exact absurd rfl hne
      | cons _ _=>rfl
     refine ifT e0 (k false _ ⟨(fun z=>by cases z),?_⟩ sb)
     rintro ⟨os,e,_⟩
     cases e
     rw[zDx] at hall
     cases hall
    | true=>
     have he:ys=[]:=hy.mpr hall
     subst he
     refine ifF rfl ?_
     obtain⟨os,rfl⟩:=zFO hall
     have hxs:=zD1 al
     subst hxs
     rw[zD] at hl64
     refine⟨_,rfl,a,os,rfl,SqT.of (sb _ _ ha),hl64,fun l ms hl2 pm so=>?_⟩
     refine⟨_,rfl,n,rfl,?_⟩
     refine⟨by omega,by omega,fun l2 hl3=>⟨l,l2,ms,lowTo n.toNat,rfl,rfl,SqL.of (zF hl3 _ _ zG),SqL.of zG,?_⟩⟩
     refine k _ _ ?_ (sb.trans ((zF hl2).trans (zF hl3)))
     rw[zA5,zHp (by omega) pm so]
     constructor
     . intro O
       exact⟨os,rfl,O⟩
     . rintro ⟨os',e,O⟩
       have e':=zEM (PyData.tuple.inj e)
       subst e'
       exact O
theorem zAN.smT {PT:Addr}{t:Addr}(h:zAN H t N)(k:SmP PT H H'):zAN H' t N:=by
 obtain⟨p,ns,spot,rest,a,b,c⟩:=h
 exact⟨p,ns,spot,rest,k.get a (by intro ps z;cases z),k.get b (by intro ps z;cases z),c⟩
theorem zBi.smT {PT:Addr}(h:zBi H sl R)(k:SmP PT H H'):zBi H' sl R:=by
 obtain⟨rs,a,b,c⟩:=h
 exact⟨rs,k.get a (by intro ps z;cases z),b,fun i r row x y=>k.get (c i r row x y) (by intro ps z;cases z)⟩
theorem zFA {t PT:Addr}{pos:Pos}{q:Str}(T:zAN H t N)(k:Sm t H H')(h:zC7 H PT pos q):zC7 H' PT pos q:=by
 obtain⟨p,ns,spot,rest,a,_⟩:=T
 obtain⟨ps,hp,_⟩:=id h
 exact h.keep (fun o e=>k _ _ (zBv hp a (by intro z;cases z)) e) fun c φ e=>k _ _ (zBv e a (by intro z;cases z)) e
theorem at0 (h:0<nu.length):atI (nu.map V.int) 0=some (V.int (nu.getD 0 0)):=
 zBh (j:=0) (by rw[zN,zC,zA h];rfl)
theorem zKB.perm {n:Nat}{os:List Nat}(o:zKB R n nu os)(h:os.length=n):os.Perm (List.range n):=by
 refine (List.perm_ext_iff_of_nodup o.nd List.nodup_range).mpr fun x=>?_
 rw[zAW]
 constructor
 . exact o.lt x
 . intro hx
   refine zAv fun c=>?_
   have:=zFP (l:=x::os) (l':=List.range n) (zAO.mpr ⟨c,o.nd⟩) fun y hy=>by
    rcases zY.mp hy with rfl | hy
    . exact zAW.mpr hx
    . exact zAW.mpr (o.lt y hy)
   rw[zT,zAB] at this
   omega
theorem zJI (h:0<nu.length):atI (nu.map V.int) (-1)=some (V.int (nu.getD (nu.length-1) 0)):=by
 have e:nu=nu.dropLast++[nu.getLast (List.ne_nil_of_length_pos h)]:=(List.dropLast_concat_getLast _).symm
 have g:nu.getD (nu.length-1) 0=nu.getLast (List.ne_nil_of_length_pos h):=by
  rw[zC,zA (by omega),List.getLast_eq_getElem];rfl
 rw[g]
 generalize nu.getLast (List.ne_nil_of_length_pos h)=z at e
 rw[e,zS]
 exact zHe _ _
theorem upd_3 {dx e:Addr}{o1 o2 x:HO}(n:dx≠e):upd (upd (upd H dx o1) e x) dx o2=upd (upd H dx o2) e x:=by
 funext b
 by_cases h1:b=dx
 . subst h1;rw[zG,zf n,zG]
 . by_cases h2:b=e
   . subst h2;rw[zf h1,zG,zG]
   . rw[zf h1,zf h2,zf h1,zf h2,zf h1]
theorem scI1:zAD ["self", "word", "at"] ["self", "word", "at"] (defScope sI1):=fS0
theorem ok_I1 {C:Addr}(F:Fun K "__init__" "NoLeast.__init__" sI1 f fd') (EI:zHh K C f)(mo:PySem.W.mroIn K C (.type "object")=some true) (n1:PySem.W.findIn K (.ref C) "word" = some none) (n2:PySem.W.findIn K (.ref C) "at" = some none):zAe P w K mg base CX0 1 f fd' ["self", "word", "at"] (spXI C "word" "at"):=by
 refine F.okD scI1 fun _ A _ _ H vs Q E hr h=>?_
 obtain⟨e,t,v1,v2,rfl,he,k⟩:=h
 refine⟨_,zO (zIt EI mo n1 (pv 0) (pv 1)) (zg (zIt EI mo n2 (pv 0) (pv 2))),?_⟩
 refine⟨_,rfl,_,rfl,e,t,rfl,.inl ⟨he,fun dx hdx=>?_⟩⟩
 have ne:dx≠e:=fun z=>by rw[z,he] at hdx;cases hdx
 refine⟨_,rfl,_,rfl,e,t,rfl,.inr ⟨dx,_,zG,by rw[zf ne,zG],by show 1<900;decide,?_⟩⟩
 show Q _ _
 rw[upd_3 ne]
 exact k dx hdx ne
noncomputable abbrev nI (os:List Nat):List Int:=os.map fun (p:Nat)=>(p:Int)
theorem zFH {n:Nat}{os:List Nat}(pm:os.Perm (List.range n)):os.Nodup/\(∀p∈os,p<n)/\os.length=n/\snN os=2 ^ n-1:=by
 have nd:=pm.nodup_iff.mpr List.nodup_range
 have mm:∀p,p∈os↔p<n:=fun p=>by rw[pm.mem_iff,zAW]
 exact⟨nd,fun p hp=>(mm p).mp hp,by rw[pm.length_eq,zAB],zMI nd mm⟩
theorem zDO {n:Nat}{os:List Nat}(pm:os.Perm (List.range n)):zG5 (n:Int) (nI os):=by
 obtain⟨nd,lt,ln,_⟩:=zFH pm
 refine⟨by rw[zD,ln];omega,?_,fun p hp=>?_⟩
 . rw[zAL,zAs]
   exact (zAL.mp nd).imp fun h=>by omega
 . obtain⟨q,hq,rfl⟩:=zv.mp hp
   have:=lt q hq
   omega
theorem zF0 {n:Nat}(O:zG5 (n:Int) os):∃ps:List Nat,os=nI ps/\ps.Perm (List.range n):=by
 have e:os=nI (os.map Int.toNat):=by
  unfold nI
  rw[List.map_map]
  conv=>lhs;rw[<-List.map_id os]
  refine zBW fun x hx=>?_
  have:=O.rng x hx
  show x=((x.toNat:Nat):Int)
  omega
 refine⟨os.map Int.toNat,e,?_⟩
 have nd:(os.map Int.toNat).Nodup:=by
  rw[zAL,zAs]
  refine (zAL.mp O.nd).imp_of_mem fun ha hb h=>?_
  have:=O.rng _ ha
  have:=O.rng _ hb
  omega
 refine (List.perm_ext_iff_of_nodup nd List.nodup_range).mpr fun x=>?_
 rw[zAW]
 constructor
 . intro hx
   obtain⟨y,hy,rfl⟩:=zv.mp hx
   have:=O.rng y hy
   omega
 . intro hx
   exact zv.mpr ⟨(x:Int),O.mem (by omega) (by omega),by omega⟩
theorem zNO {n:Nat}(G:GW (n:Int) ts)(S:zDr ts n R){os:List Nat}(nd:os.Nodup)(lt:∀p∈os,p<n)(hh:h<n):brg R (snN os) h=cntF ts n (nI os) h:=by
 have hR:h<R.length:=by rw[S.rl];omega
 obtain⟨l,ro⟩:=S.ro h R[h] (zA hR)
 unfold brg cntF
 rw[zC,zA hR]
 show (R[h].filter _).length=_
 have key:=zEi (l:=R[h]) (f:=fun x=>x) (k:=lowTo ((n:Int)).toNat) (p:=cfB ((snN os:Nat):Int)) (q:=zJe ts (nI os) h) (by rw[l,zCi]) (fun i a b h1 h2=>by
  have hi:i<((n:Int)).toNat:=by
   have:=(zK.mp h2).1
   rw[zCi] at this
   exact this
  obtain⟨xs,e1,p1,m1⟩:=ro i hi
  rw[e1] at h1
  cases h1
  have eb:b=(i:Int):=by
   rw[lowTo,zN,zB1 hi] at h2
   exact (zU h2).symm
  subst eb
  rw[<-zKV]
  refine zNK G (by omega) (by omega) ?_ (fun x hx=>?_) p1 m1
  . rw[zAL,zAs]
    exact (zAL.mp nd).imp fun h=>by omega
  . obtain⟨q,hq,rfl⟩:=zv.mp hx
    have:=lt q hq
    omega)
 rw[List.map_id'] at key
 exact key
theorem zJV {R:List (List Int)}{os:List Nat}:∀m,m<=os.length->inA R 0 (os.take m)=((List.range m).map fun k=>brg R (snN (os.take k)) (os.getD k 0)).sum
 | 0,_=>rfl
 | m+1,hm=>by
  have e:os[m]? = some (os.getD m 0):=by rw[zC,zA (by omega)];rfl
  rw[(zHW (R:=R) e).1,zJV m (by omega),List.range_succ,zS,List.sum_append]
  simp
theorem zJU {n:Nat}{os:List Nat}(G:GW (n:Int) ts)(S:zDr ts n R)(pm:os.Perm (List.range n))(Rk:zNQ n (nI os) rk)(L:zKD ts n rk ess):((ess.map List.length).map fun k:Nat=>(k:Int)).sum=((inA R 0 os:Nat):Int):=by
 obtain⟨nd,lt,ln,_⟩:=zFH pm
 have h1:=zJV (R:=R) (os:=os) os.length (zH _)
 rw[zZ (zH _)] at h1
 have h2:=zNN (bs:=(List.range os.length).map fun k=>brg R (snN (os.take k)) (os.getD k 0)) G (zDO pm) Rk L (by rw[zD,zAB,ln];omega) fun k h hk=>by
  rw[zN] at hk
  obtain⟨q,hq,rfl⟩:∃q:Nat,os[k]? = some q/\(q:Int)=h:=by
   cases e:os[k]? with
   | none=>rw[e] at hk;cases hk
   | some q=>rw[e] at hk;exact⟨q,rfl,zU hk⟩
  have hkl:=(zK.mp hq).1
  rw[zN,zB1 hkl]
  show some (brg R (snN (os.take k)) (os.getD k 0))=_
  have eg:os.getD k 0=q:=by rw[zC,hq];rfl
  rw[eg,zNO G S (os:=os.take k) (nd.sublist (List.take_sublist _ _)) (fun p hp=>lt p (zBQ hp)) (lt q (za hq)),<-List.map_take]
 have h3:=zD0 id (ess.map List.length)
 rw[List.map_id] at h3
 rw[h1,h2]
 exact h3
theorem zCr {t:Addr}{ns:List Int}(T:zAN H t N)(h:H a=some (.lst (ns.map V.int))):a≠t:=fun z=>by
 obtain⟨p,ms,sp,re,e,_⟩:=T
 rw[z,e] at h
 cases ns with
 | nil=>cases h
 | cons x l=>cases h
theorem zFn {t:Addr}(T:zAN H t N)(h:H a=some (.lst (rs.map V.ref))):a≠t:=fun z=>by
 obtain⟨p,ms,sp,re,e,_⟩:=T
 rw[z,e] at h
 cases rs with
 | nil=>cases h
 | cons x l=>cases l with
  | nil=>cases h
  | cons y l=>cases h
theorem zBi.sm {t:Addr}(h:zBi H sl R)(T:zAN H t N)(k:Sm t H H'):zBi H' sl R:=by
 obtain⟨rs,a,b,c⟩:=h
 exact⟨rs,k _ _ (zFn T a) a,b,fun i r row x y=>k _ _ (zCr T (c i r row x y)) (c i r row x y)⟩
noncomputable def spLeo:Sp:=fun vs H Q _=>∃(t sl nl:Addr)(N:Nat)(R:List (List Int))(nu:List Int),vs=[.ref t,.ref sl,.ref nl]/\zAN H t N/\N<800000/\zBi H sl R/\NN R/\1<=R.length/\H nl=some (.lst (nu.map V.int))/\zIM R R.length nu 0 /\
 ∀(oa:Addr)(os:List Nat)(H':Hp),Sm t H H'->zAN H' t (N+8)->H' oa=some (.tup ((nI os).map V.int))->zKB R R.length nu os->os.length=R.length->Q (.ref oa) H'
theorem zM4 (os:List Nat)(h:Nat):(nI (os++[h])).map V.int=(nI os).map V.int++[V.int h]:=by unfold nI;rw[zS,zS];rfl
theorem zGj:zAD ["_law_tape_here", "_law_masks_here", "_law_least_here", "_law_some", "_law_found", "_law_turn", "_law_rest", "_law_good"] ["_law_tape_here", "_law_masks_here", "_law_least_here"] (defScope sLeo):=fS0
theorem ok_leo {fD:Addr}(F:Fun K "_law_least_order" "_law_least_order" sLeo f fd') (FB:FuB K mg "_law_brought" zLh fB fdB ["_law_masks_here","_law_some","_law_hub"])
 (FD:FuB K mg "_law_draw" zEa fD fdD ["_law_tape_here","_law_many"]) (mLen:mg "len" = none) (mRange:mg "range" = none) (mTuple:mg "tuple" = none):zAe P w K mg base CX0 2 f fd' ["_law_tape_here", "_law_masks_here", "_law_least_here"] spLeo:=by
 have GB:zAe P w K mg base CX0 1 fB fdB ["_law_masks_here", "_law_some", "_law_hub"] zIf:=zHQ FB.F mLen
 have GD:zAe P w K mg base CX0 1 fD fdD ["_law_tape_here", "_law_many"] zGh:=zFM FD.F mLen
 refine F.okD zGj fun _ A _ _ H vs Q E hr h=>?_
 obtain⟨t,sl,nl,N,R,nu,rfl,TT,hN,ST,NR,n1,hnl,dp,k⟩:=h
 obtain⟨rs,hsl,hrl⟩:=ST.len
 have n8:=NR.n8
 have p8:=zCt n8
 have nslt:=zFn TT hsl
 have nnlt:=zCr TT hnl
 obtain⟨tp,TP⟩:=id TT
 refine⟨_,zO (zC8 (i:=3) zGj.nd rfl (Or.inr rfl) ze) (zO (zAn (i:=4) zGj.nd (zBy zM))
  (zO (zBl PassesOwn.never rfl (zAX rfl mRange (zE (zt zAE mLen (zE (pv 1) zM)) zM)) (zAj (i:=5) zGj.nd rfl (Or.inl rfl))
   (zO (zD7 (i:=6) (own:=["_law_hub"]) (cn:=["_law_some"]) (ci:=[3]) zGj.nd rfl (Or.inl rfl) rfl (csc rfl rfl) ⟨rfl,rfl,rfl,trivial⟩ rfl (zAX rfl mRange (zE (zt zAE mLen (zE (pv 1) zM)) zM)) (fun _ _ _ _=>zB8)
    (fun _ _ _ _=>zCA (zAC zCI (zAS zEt (zAS zI2 (pv 1) (pv 0)) ze) ze (zAI _))) (fun _ _ _ _=>pv 0))
   (zO (zD7 (i:=7) (own:=["_law_hub"]) (cn:=["_law_masks_here", "_law_some", "_law_least_here"]) (ci:=[1,3,2]) zGj.nd rfl (Or.inl rfl) rfl (csc rfl rfl) ⟨rfl,rfl,rfl,rfl,rfl,rfl,rfl,rfl,rfl,trivial⟩ rfl (zCH (pv 6)) (fun _ _ _ _=>zB8)
    (fun _ _ _ _=>zCA (zAC zCI (zAS zBd (zAa GB hr FB (zE (pv 1) (zE (pv 2) (zE (pv 0) zM)))) (zAG zDT (pv 3) (zAS zBd (pv 2) (zAS zCc ze (pv 0))))) (zAG zDT (pv 3) (pv 2)) (zAI _))) (fun _ _ _ _=>pv 0))
   (zO (zCg (zFI PySem.F.plainAttrs_list PySem.F.slot_list_append PySem.F.type_list_append zBr (pv 4) (zE (zAG zAb (pv 7) (zAa GD hr FD (zE (pv 0) (zE (zt zAE mLen (zE (pv 7) zM)) zM)))) zM)))
   (zg (zC8 (i:=3) zGj.nd rfl (Or.inr rfl) (zAS zBd (pv 3) (zAS zCc ze (zAG zAb (pv 4) (zBe (zDp zCm ze) (fun σ H Q q=>⟨1,rfl,q⟩)))))))))))
  (zg (zAF (zBK zAt mTuple (zE (pv 4) zM)))))),?_⟩
 obtain⟨n,en⟩:∃n,n=R.length:=⟨_,rfl⟩
 rw[<-en] at n1 k hrl dp n8 p8
 refine⟨by show 0<=sizeLine;decide,fun fo hfo=>?_⟩
 have nfot:=TT.ne hfo
 have nfop:fo≠tp:=fun z=>by
  obtain⟨_,_,_,_,e,_⟩:=TP
  rw[z,e] at hfo;cases hfo
 have s0:=zF (o:=.lst []) hfo
 refine⟨_,rfl,sl,_,rfl,.inl (SqL.of (s0 _ _ hsl)),?_⟩
 rw[hrl]
 refine⟨(n:Int),rfl,by omega,by omega,zBT (lo:=0) (n:=((n:Int)).toNat) (fun q σ H2=>∃(v5 v6 v7:Option V)(os:List Nat),σ=[some (.ref t),some (.ref sl),some (.ref nl),some (.int (snN os:Nat)),some (.ref fo),v5,v6,v7]/\os.length=q/\zKB R n nu os/\Sm t H H2/\zFg H2 t tp (N+q)/\H2 fo=some (.lst ((nI os).map V.int)))
  ⟨_,_,_,[],rfl,rfl,zKB.nil,Sm.of s0,TP.keepF (fun o e=>s0 _ _ e) (fun o e=>s0 _ _ e) (zH _),zG⟩ (fun q σ H2 hq z=>?_) (fun σ H2 z=>?_)⟩
 . obtain⟨v5,v6,v7,os,rfl,hol,O,s2,T2,h2⟩:=z
   rw[zAJ]
   obtain⟨tt,et⟩:∃tt,tt=snN os:=⟨_,rfl⟩
   rw[<-et]
   have hlt:=zLe O.nd O.lt
   have hsl2:=s2 _ _ nslt hsl
   have hnl2:=s2 _ _ nnlt hnl
   refine⟨_,rfl,sl,_,rfl,.inl (SqL.of hsl2),?_⟩
   rw[hrl]
   refine⟨(n:Int),rfl,by omega,by omega,[.int tt],rfl,fun D hD=>?_⟩
   refine zBE (lo:=0) (n:=((n:Int)).toNat) (fun q ys H4=>q<=n/\ys=(zAm tt q).map (fun (p:Nat)=>V.int p)/\H4=upd H2 D (.lst ys)) ⟨zi _,rfl,rfl⟩ (fun q ys H4 z=>?_) (fun q ys H4 hq z=>?_) (fun ys H4 z=>?_)
   . obtain⟨hq,rfl,_⟩:=z
     rw[zD]
     refine zAK (zu _ _) ?_
     rw[zAB]
     exact zr (by omega)
   . obtain⟨_,rfl,rfl⟩:=z
     rw[zAJ]
     have st:zAm tt (q+1)=zAm tt q++[q].filter fun p=>!tt.testBit p:=by unfold zAm;rw[List.range_succ,zAl]
     refine⟨⟨rfl,rfl⟩,?_⟩
     refine⟨_,rfl,_,rfl,(tt:Int),(q:Int),rfl,rfl,by omega,_,_,rfl,rfl,rfl,_,rfl,?_⟩
     dsimp only
     rw[zBt,zFf]
     cases c:tt.testBit q with
     | false=>
      refine zCZ ?_
      refine⟨_,rfl,zG,by omega,?_,zBZ⟩
      rw[st,zAU (by rw[c];rfl),zAM,zS];rfl
     | true=>
      refine zCe ⟨by omega,?_,rfl⟩
      rw[st,zAH (by rw[c];decide),zAM,zp]
   . obtain⟨_,rfl,rfl⟩:=z
     rw[zAR]
     have s3:=zF (o:=.lst ((zAm tt n).map fun (p:Nat)=>V.int p)) hD
     have h3:(upd H2 D (.lst ((zAm tt n).map fun (p:Nat)=>V.int p))) D=some (.lst ((zAm tt n).map fun (p:Nat)=>V.int p)):=zG
     generalize upd H2 D (.lst ((zAm tt n).map fun (p:Nat)=>V.int p))=H3 at s3 h3 ⊢
     have ST2:=ST.sm TT s2
     refine⟨_,rfl,D,rfl,⟨_,SqL.of h3⟩,[.ref sl,.int tt,.ref nl],rfl,fun D2 hD2=>?_⟩
     refine zCF (a:=D) (xs:=(zAm tt n).map fun (p:Nat)=>V.int p) (fun j ys H5=>ys=(((zAm tt n).take j).filter fun h=>decide (cst R nu tt h=nu.getD tt 0)).map (fun (p:Nat)=>V.int p)/\zAo H3 H5/\H5 D2=some (.lst ys)) ⟨rfl,zF hD2,zG⟩ (fun j ys H5 z=>?_) (fun j ys H5 z=>?_) (fun j x ys H5 hx z=>?_) (fun ys H5 z=>?_)
     . obtain⟨_,s5,_⟩:=z
       exact SqL.of (s5 _ _ h3)
     . obtain⟨rfl,_⟩:=z
       rw[zD]
       have:(zAm tt n).length<=n:=by unfold zAm;exact zx (zu _ _) (by rw[zAB];exact zH _)
       refine zAK (zu _ _) ?_
       rw[zl]
       exact zr (by omega)
     . obtain⟨rfl,s5,h5⟩:=z
       obtain⟨h,hh,rfl⟩:∃h:Nat,(zAm tt n)[j]? = some h/\V.int h=x:=by
        rw[zN] at hx
        cases e:(zAm tt n)[j]? with
        | none=>rw[e] at hx;cases hx
        | some h=>rw[e] at hx;exact⟨h,rfl,zU hx⟩
       obtain⟨q1,q2⟩:=zBX.mp (za hh)
       have hlt':=zGS (t:=tt) (n:=n) (by omega) q1 q2
       have st:((zAm tt n).take (j+1)).filter (fun h=>decide (cst R nu tt h=nu.getD tt 0))=((zAm tt n).take j).filter (fun h=>decide (cst R nu tt h=nu.getD tt 0))++[h].filter (fun h=>decide (cst R nu tt h=nu.getD tt 0)):=by rw[zw,hh,zAl];rfl
       refine⟨⟨rfl,rfl⟩,?_⟩
       refine⟨_,rfl,_,rfl,_,rfl,sl,R,tt,h,rfl,(ST2.same s3).same s5,NR,by omega,fun H6 s6=>?_⟩
       have hn6:=s6 _ _ (s5 _ _ (s3 _ _ hnl2))
       refine⟨_,rfl,_,rfl,_,rfl,1,(h:Int),rfl,rfl,⟨by omega,by omega,by decide⟩,_,_,rfl,rfl,?_⟩
       refine⟨nl,_,((tt+2 ^ h:Nat):Int),.int (nu.getD (tt+2 ^ h) 0),rfl,by rw[Int.natCast_add,<-zCG],SqL.of hn6,zBh (by rw[zN,zC,zA (by rw[dp.ln];exact hlt')];rfl),?_⟩
       refine⟨_,_,rfl,rfl,_,rfl,_,rfl,nl,_,(tt:Int),.int (nu.getD tt 0),rfl,rfl,SqL.of hn6,zBh (by rw[zN,zC,zA (by rw[dp.ln];omega)];rfl),rfl,_,rfl,?_⟩
       dsimp only
       rw[zBt]
       by_cases c:cst R nu tt h=nu.getD tt 0
       . refine ifT (zP c) ?_
         refine⟨_,rfl,s6 _ _ h5,?_,zA0 (s5.trans s6) hD2,zG⟩
         rw[st,zAU (by exact zP c),zAM,zS];rfl
       . refine ifF (zb c) ⟨?_,s5.trans s6,s6 _ _ h5⟩
         rw[st,zAH (by rw[zb c];decide),zAM,zp]
     . obtain⟨rfl,s5,h5⟩:=z
       rw[zD,zZ (zH _)] at h5
       have s25:=s3.trans s5
       obtain⟨gs,eg⟩:∃gs,gs=(zAm tt n).filter fun h=>decide (cst R nu tt h=nu.getD tt 0):=⟨_,rfl⟩
       rw[<-eg] at h5
       have gne:gs≠[]:=by
        obtain⟨g,hg,e⟩:=dp.ex tt (zi _) (by omega) (by rw[et];exact zNF O.nd (by omega))
        intro z
        have:g∈gs:=by rw[eg];exact zAu.mpr ⟨hg,zP e.symm⟩
        rw[z] at this;cases this
       have gl:gs.length<=24:=by
        rw[eg]
        refine zx (zu _ _) ?_
        unfold zAm
        exact zx (zu _ _) (by rw[zAB];omega)
       have gl0:0<gs.length:=List.length_pos_iff.mpr gne
       have T5:zFg H5 t tp (N+q):=T2.keepF (fun o e=>s25 _ _ e) (fun o e=>s25 _ _ e) (zH _)
       refine⟨_,rfl,.inl ⟨rfl,_,SqL.of (s25 _ _ h2)⟩,_,rfl,_,rfl,_,rfl,D2,_,rfl,.inl (SqL.of h5),?_⟩
       refine⟨t,tp,N+q,(gs.length:Int),by rw[zD];rfl,T5,by omega,by omega,by omega,fun r H6 r0 r1 T6 e6=>?_⟩
       have nD2:D2≠t:=zCr (ns:=nI gs) ⟨tp,T5⟩ (by rw[h5];unfold nI;rw[List.map_map];rfl)
       have h6:H6 D2=some (.lst (gs.map fun (p:Nat)=>V.int p)):=by rw[e6 _ nD2];exact h5
       obtain⟨j,rfl⟩:∃j:Nat,r=j:=⟨r.toNat,by omega⟩
       have hj:j<gs.length:=by omega
       have hg:gs[j]∈gs:=zAq hj
       obtain⟨hf,hc⟩:=zAu.mp ((congrArg (fun l=>gs[j]∈l) eg).mp hg)
       have hc:=of_decide_eq_true hc
       refine⟨D2,_,_,.int (gs[j]:Nat),rfl,rfl,SqL.of h6,zBh (by rw[zN,zA hj];rfl),?_⟩
       generalize gs[j]=h at hf hc ⊢
       have hfo6:H6 fo=some (.lst ((nI os).map V.int)):=by rw[e6 _ nfot];exact s25 _ _ h2
       refine⟨fo,_,.int h,rfl,rfl,hfo6,by rw[zD,zD];exact zr (by omega),?_⟩
       have sm6:Sm t H H6:=(s2.trans (Sm.of s25)).trans fun b o nb e=>by rw[e6 b nb];exact e
       have q1:=(zBX.mp hf).1
       refine⟨_,rfl,_,rfl,fo,(nI os).map V.int++[.int h],-1,.int h,rfl,rfl,SqL.of (by rw[zG]),zHe _ _,1,(h:Int),rfl,rfl,⟨by omega,by omega,by decide⟩,_,_,rfl,rfl,?_⟩
       have O':zKB R n nu (os++[h]):=O.step dp (by rw[<-et];exact hf) fun g hg=>by
        rw[<-et] at hg ⊢
        have:=dp.le tt (zi _) (by omega) g hg
        omega
       refine⟨some (.int q),some (.ref D),some (.ref D2),os++[h],?_,by rw[zL,hol];rfl,O',sm6.chg hfo,T6.keepF (fun o e=>by rw[zf nfot.symm];exact e) (fun o e=>by rw[zf nfop.symm];exact e) (by omega),by rw[zG,zM4]⟩
       rw[zCG,zFB,et]
       rfl
 . obtain⟨v5,v6,v7,os,rfl,hol,O,s2,T2,h2⟩:=z
   refine⟨_,rfl,fo,_,rfl,.inl ⟨SqL.of h2,fun oa hoa=>?_⟩⟩
   have s3:=zF (o:=.tup ((nI os).map V.int)) hoa
   exact k oa os _ (s2.trans (Sm.of s3)) ⟨tp,T2.keepF (fun o e=>s3 _ _ e) (fun o e=>s3 _ _ e) (by omega)⟩ zG (en ▸ O) (by omega)
inductive zLS (X:Cx):List Expr->List Addr->Prop
 | nil:zLS X [] []
 | cons {x:Str}{p:Pos}{c:Addr}{es:List Expr}{cs:List Addr}:PE X (.Name x p) (tC (.ref c))->zLS X es cs->zLS X (.Name x p::es) (c::cs)
theorem zMd {es:List Expr}{cs:List Addr}(h:zLS X es cs):PA X es (fun _ H Q=>Q (cs.map V.ref) H):=by
 induction h with
 | nil=>exact zM
 | cons he _ ih=>exact zE he ih
noncomputable def thD (os:List Nat)(nu:List Int):PyData:=.tuple [.tuple ((nI os).map PyData.int),.tuple (nu.map PyData.int)]
structure ShOk (n:Nat)(os:List Nat)(nu:List Int):Prop where
 pm:os.Perm (List.range n)
 ln:nu.length=2 ^ n
theorem zLq:∀{a b:List Nat},nI a=nI b->a=b
 | [],[],_=>rfl
 | [],_::_,h=>by cases h
 | _::_,[],h=>by cases h
 | x::a,y::b,h=>by
  injection h with h1 h2
  rw[Int.ofNat.inj h1,zLq h2]
theorem zL2 {os os':List Nat}{nu':List Int}(h:thD os nu=thD os' nu'):os=os'/\nu=nu':=by
 unfold thD at h
 injection h with h
 injection h with h1 h2
 injection h2 with h2 _
 injection h1 with h1
 injection h2 with h2
 exact⟨zLq (zEM h1),zEM h2⟩
structure zDo (R:List (List Int))(n:Nat)(nu:List Int)(t h:Nat):Prop where
 lt:t<2 ^ n
 fr:h∈zAm t n
 gt:cst R nu t h<nu.getD t 0
 a1:∀t',t'<t->∀g∈zAm t' n,nu.getD t' 0<=cst R nu t' g
 a2:∀g∈zAm t n,g<h->nu.getD t 0<=cst R nu t g
theorem zDo.uniq {n:Nat}{t t' h':Nat}(a:zDo R n nu t h)(b:zDo R n nu t' h'):t=t'/\h=h':=by
 have ga:=a.gt
 have gb:=b.gt
 have ht:t=t':=by
  rcases Nat.lt_trichotomy t t' with c | c | c
  . have:=b.a1 t c h a.fr;omega
  . exact c
  . have:=a.a1 t' c h' b.fr;omega
 subst ht
 refine⟨rfl,?_⟩
 rcases Nat.lt_trichotomy h h' with c | c | c
 . have:=b.a2 h a.fr c;omega
 . exact c
 . have:=a.a2 h' b.fr c;omega
theorem zDo.no {n:Nat}{t:Nat}(a:zDo R n nu t h)(b:LeOk R n nu):False:=by
 have:=a.gt
 have:=b t a.lt h a.fr
 omega
inductive Flt (R:List (List Int))(n:Nat)(os:List Nat)(nu:List Int):Option (Str×PyData)->Prop
 | last:nu.getD (2 ^ n-1) 0≠0->Flt R n os nu (some ("end",.none))
 | step (t h:Nat):nu.getD (2 ^ n-1) 0=0->zDo R n nu t h->Flt R n os nu (some ("step",.tuple [.int t,.int h]))
 | start:nu.getD (2 ^ n-1) 0=0->LeOk R n nu->nu.getD 0 0≠(inA R 0 os:Nat)->Flt R n os nu (some ("start",.none))
 | none:nu.getD (2 ^ n-1) 0=0->LeOk R n nu->nu.getD 0 0=(inA R 0 os:Nat)->Flt R n os nu none
theorem Flt.uniq {R:List (List Int)}{n:Nat}{os:List Nat}{nu:List Int}{o o':Option (Str×PyData)}(a:Flt R n os nu o)(b:Flt R n os nu o'):o=o':=by
 cases a with
 | last x=>cases b with
  | last _=>rfl
  | step _ _ y _=>exact absurd y x
  | start y _ _=>exact absurd y x
  | none y _ _=>exact absurd y x
 | step t h x sa=>cases b with
  | last y=>exact absurd x y
  | step t' h' _ sb=>
   obtain⟨rfl,rfl⟩:=sa.uniq sb
   rfl
  | start _ y _=>exact (sa.no y).elim
  | none _ y _=>exact (sa.no y).elim
 | start x l z=>cases b with
  | last y=>exact absurd x y
  | step t' h' _ sb=>exact (sb.no l).elim
  | start _ y _=>rfl
  | none _ _ y=>exact absurd y z
 | none x l z=>cases b with
  | last y=>exact absurd x y
  | step t' h' _ sb=>exact (sb.no l).elim
  | start _ _ y=>exact absurd z y
  | none _ y _=>rfl
inductive zCR (R:List (List Int))(n:Nat)(d:PyData):Option (Str×PyData)->Prop
 | shape:(∀os nu,d=thD os nu->¬ ShOk n os nu)->zCR R n d (some ("shape",.none))
 | good (os:List Nat)(nu:List Int){o:Option (Str×PyData)}:d=thD os nu->ShOk n os nu->Flt R n os nu o->zCR R n d o
theorem zCR.uniq {R:List (List Int)}{n:Nat}{d:PyData}{o o':Option (Str×PyData)}(a:zCR R n d o)(b:zCR R n d o'):o=o':=by
 cases a with
 | shape no=>cases b with
  | shape _=>rfl
  | good os nu e s _=>exact absurd s (no os nu e)
 | good os nu e s f=>cases b with
  | shape no=>exact absurd s (no os nu e)
  | good os' nu' e' s' f'=>
   obtain⟨rfl,rfl⟩:=zL2 (e.symm.trans e')
   exact f.uniq f'
theorem zJb (t n:Nat):(zAm t n).Pairwise (· < ·):=List.pairwise_lt_range.sublist List.filter_sublist
theorem zL3 {l:List Nat}(hs:l.Pairwise (· < ·)){g:Nat}(hj:l[j]? = some h)(hg:g∈l)(lt:g<h):g∈l.take j:=by
 obtain⟨hj',rfl⟩:=zK.mp hj
 obtain⟨i,hi,rfl⟩:=zy hg
 rw[List.mem_take_iff_getElem]
 by_cases c:i<j
 . exact⟨i,by omega,rfl⟩
 . by_cases e:i=j
   . subst e;omega
   . have:=zAV.mp hs j i hj' hi (by omega)
     omega
noncomputable def zLY (PT:Addr):Sp:=fun vs H Q _=>∃(wa na:Addr)(n:Nat)(ts:List T3)(R:List (List Int))(nu:List Int),vs=[.ref wa,.ref na]/\zBj H wa n ts/\n<=8/\zDr ts n R/\H na=some (.tup (nu.map V.int))/\nu.length=2 ^ n/\Tb H PT /\
 (LeOk R n nu->∀H',SmP PT H H'->Tb H' PT->Q .non H')/\∀(p:Addr)(t h:Nat)(H':Hp),zDo R n nu t h->SmP PT H H'->Tb H' PT->H' p=some (.tup [.int t,.int h])->Q (.ref p) H'
theorem zFs:zAD ["web", "numbers", "sets", "taken", "number", "hub"] ["web", "numbers"] (defScope zIk):=fS0
theorem zMn (F:Fun K "step_fault" "step_fault" zIk f fd')
 (FA:FuB K mg "all_sets" zIr fA fdA ["web"]) (GA:zAe P w K mg base CX0 6 fA fdA ["web"] (zIg PT))
 (FL:FuB K mg "left_places" sLpl fL fdL ["web","taken"]) (GL:zAe P w K mg base CX0 6 fL fdL ["web", "taken"] zL9)
 (FB:FuB K mg "by_way_of" sBwo fB fdB ["sets","numbers","taken","hub"]) (GB:zAe P w K mg base CX0 6 fB fdB ["sets", "numbers", "taken", "hub"] zIe) (mEnum:mg "enumerate" = none) :
 zAe P w K mg base CX0 7 f fd' ["web", "numbers"] (zLY PT):=by
 refine F.okD zFs fun _ A _ _ H vs Q E hr h=>?_
 obtain⟨wa,na,n,ts,R,nu,rfl,W,n8,SR,hna,hnl,T,kY,kN⟩:=h
 obtain⟨ta,tys,hwa,_,_,G⟩:=id W
 have p8:=zCt n8
 have hRl:R.length=n:=by rw[SR.rl];omega
 have h24:∀row∈R,row.length<=24:=(SR.nn (by omega)).r24
 refine⟨_,zO (zAn (i:=2) zFs.nd (zAa GA hr FA (zE (pv 0) zM)))
  (zO (zBl PassesOwn.never rfl (zKm (by rfl) mEnum (zE (pv 1) zM)) (zEq rfl (zBb (zAj (i:=3) zFs.nd rfl (Or.inl rfl)) (zBb (zAj (i:=4) zFs.nd rfl (Or.inl rfl)) zDZ)))
   (zg (zBl PassesOwn.never rfl (zCH (zAa GL hr FL (zE (pv 0) (zE (pv 3) zM)))) (zAj (i:=5) zFs.nd rfl (Or.inl rfl))
    (zg (zBN (zAC zFK (pv 4) (zAa GB hr FB (zE (pv 2) (zE (pv 1) (zE (pv 3) (zE (pv 5) zM))))) (zAI _)) (zg (zAF (zAf (zE (pv 3) (zE (pv 5) zM))))) zAQ)))))
  (zg (zAF zBF))),?_⟩
 refine⟨_,rfl,wa,(n:Int),ts,rfl,W,T,fun sl R' H1 sm1 T1 ST1 SR'=>?_⟩
 obtain rfl:=SR.uniq SR'
 have hna1:H1 na=some (.tup (nu.map V.int)):=sm1.get hna (by intro ps z;cases z)
 have hwa1:H1 wa=some (.tup [.int n,.ref ta]):=sm1.get hwa (by intro ps z;cases z)
 refine⟨_,rfl,na,rfl,⟨_,SqT.of hna1⟩,zJf (K:=K) (a:=na) (xs:=nu.map V.int) (fun i σ H2=>∃(v3 v4 v5:Option V),σ=[some (.ref wa),some (.ref na),some (.ref sl),v3,v4,v5]/\zAo H1 H2/\∀t,t<i->∀h∈zAm t n,nu.getD t 0<=cst R nu t h)
  ⟨_,_,_,rfl,zAo.refl _,fun t ht=>absurd ht (zBq _)⟩ (fun i σ H2 _ ⟨_,_,_,_,s2,_⟩=>SqT.of (s2 _ _ hna1)) ?turn ?after⟩
 case after=>
  rintro σ H2 ⟨v3,v4,v5,rfl,s2,le⟩
  rw[zD,hnl] at le
  exact kY le H2 (sm1.trans (SmP.of s2)) (T1.same s2)
 case turn=>
  rintro i x σ H2 Tp hx ⟨v3,v4,v5,rfl,s2,le⟩ hTp
  obtain⟨y,hy,rfl⟩:=int_at hx
  have hi:i<2 ^ n:=by rw[<-hnl];exact (zK.mp hy).1
  have ey:nu.getD i 0=y:=by rw[zC,hy];rfl
  have s3:=s2.trans (zF (o:=.tup [.int (i:Int),.int y]) hTp)
  refine⟨Tp,_,rfl,SqT.of zG,rfl,_,_,rfl,_,_,rfl,rfl,?_⟩
  generalize upd H2 Tp (.tup [.int (i:Int),.int y])=H3 at s3 ⊢
  refine⟨_,rfl,_,rfl,wa,ta,n,i,rfl,s3 _ _ hwa1,by omega,fun l H4 _ s4 hl=>?_⟩
  have s14:=s3.trans s4
  refine⟨l,rfl,⟨_,SqL.of hl⟩,zDt (K:=K) (a:=l) (xs:=(zAm i n).map fun (p:Nat)=>V.int p) (fun j σ H5=>∃(v5:Option V),σ=[some (.ref wa),some (.ref na),some (.ref sl),some (.int i),some (.int y),v5]/\zAo H4 H5/\∀h∈(zAm i n).take j,nu.getD i 0<=cst R nu i h) ⟨_,rfl,zAo.refl _,fun h hh=>by simp at hh⟩ (fun j σ H5 _ z=>?_) (fun j v σ H5 hv z=>?_) (fun σ H5 z=>?_)⟩
  . obtain⟨_,_,s5,_⟩:=z
    exact SqL.of (s5 _ _ hl)
  . obtain⟨v5',rfl,s5,le'⟩:=z
    obtain⟨h,hh,rfl⟩:∃h:Nat,(zAm i n)[j]? = some h/\V.int h=v:=by
     rw[zN] at hv
     cases e:(zAm i n)[j]? with
     | none=>rw[e] at hv;cases hv
     | some h=>rw[e] at hv;exact⟨h,rfl,zU hv⟩
    have hm:=za hh
    obtain⟨q1,q2⟩:=zBX.mp hm
    have hlt:=zGS hi q1 q2
    have s15:=s14.trans s5
    refine⟨_,rfl,_,rfl,_,rfl,_,rfl,_,rfl,sl,na,R,nu,i,h,rfl,ST1.same s15,s15 _ _ hna1,by rw[hRl];exact q1,q2,by rw[hnl];exact hlt,h24,by omega,fun H6 s6=>?_⟩
    refine⟨_,_,rfl,rfl,_,rfl,zDq (fun c=>?_) (fun c=>?_)⟩
    . have c:=of_decide_eq_true c
      refine⟨_,rfl,_,rfl,by show 2<=sizeLine;decide,fun p hp=>?_⟩
      have s17:=(s15.trans s6).trans (zF (o:=.tup [.int (i:Int),.int (h:Int)]) hp)
      refine kN p i h _ ⟨hi,hm,?_,le,fun g hg lt=>le' g (zL3 (zJb i n) hh hg lt)⟩ (sm1.trans (SmP.of s17)) (T1.same s17) zG
      unfold cst
      omega
    . have c:¬ _:=fun z=>c (zP z)
      refine⟨_,rfl,s5.trans s6,fun g hg=>?_⟩
      rw[zw,hh] at hg
      rcases zn.mp hg with hg | hg
      . exact le' g hg
      . obtain rfl:g=h:=by simpa using hg
        unfold cst
        omega
  . obtain⟨v5',rfl,s5,le'⟩:=z
    rw[zD,zZ (zH _)] at le'
    refine⟨_,_,_,rfl,s14.trans s5,fun t ht h hh=>?_⟩
    by_cases c:t=i
    . subst c;exact le' h hh
    . exact le t (by omega) h hh
noncomputable def IsTh (n:Nat)(d:PyData):Prop:=∃os nu,d=thD os nu/\ShOk n os nu
noncomputable def zIc:Sp:=fun vs H Q _=>∃(wa:Addr)(v:V)(d:PyData)(n:Nat)(ts:List T3),vs=[.ref wa,v]/\zBj H wa n ts/\n<=8/\zBA H v d/\∀(b:Bool) H',(b=true↔IsTh n d)->zAo H H'->Q (.bl b) H'
noncomputable def spRtm (c:Addr):Sp:=fun vs H Q E=>∃(wa ta:Addr)(n:Nat),vs=[.ref wa]/\H wa=some (.tup [.int n,.ref ta])/\(n<=8->Q .non H)/\(8<n->E (.ref c) none H)
noncomputable def FldAt (H:Hp)(dx:Addr)(x:Str)(v:V):Prop:=H dx=some (dO dx [("word",.str x),("at",v)])
structure zNR (PT:Addr)(H:Hp)(wa:Addr)(v:V)(d:PyData)(n:Nat)(ts:List T3)(R:List (List Int)):Prop where
 wb:zBj H wa n ts
 th:zBA H v d
 sr:zDr ts n R
 tb:Tb H PT
noncomputable def zIb (PT C cT:Addr):Sp:=fun vs H Q E=>∃(wa:Addr)(v:V)(d:PyData)(n:Nat)(ts:List T3)(R:List (List Int)),vs=[.ref wa,v]/\zNR PT H wa v d n ts R/\(8<n->E (.ref cT) none H) /\
 (n<=8->zCR R n d none->∀H',SmP PT H H'->Tb H' PT->Q (.bl true) H')/\(n<=8->∀(x:Str)(e:PyData)(u:V)(dx:Addr)(H':Hp),zCR R n d (some (x,e))->SmP PT H H'->Tb H' PT->zBA H' u e->FldAt H' dx x u->E (.ref C) (some dx) H')
noncomputable def ThAt (H:Hp)(th:Addr)(os:List Nat)(nu:List Int):Prop:=∃oa na:Addr,H th=some (.tup [.ref oa,.ref na])/\H oa=some (.tup ((nI os).map V.int))/\H na=some (.tup (nu.map V.int))
theorem sh_th {os:List Nat}(h:zBA H v (thD os nu)):∃th,v = .ref th/\ThAt H th os nu:=by
 cases h with
 | @tup a xs _ ha al=>
  cases al with
  | cons s1 al=>
   cases al with
   | cons s2 al=>
    cases al
    cases s1 with
    | tup h1 a1=>cases s2 with
     | tup h2 a2=>
      rw[zD1 a1] at h1
      rw[zD1 a2] at h2
      exact⟨a,rfl,_,_,ha,h1,h2⟩
theorem zLz (h:zKI d 2=true):∃x y,d = .tuple [x,y]:=by
 cases d with
 | tuple ds=>
  have h':decide ((ds.length:Int)=2)=true:=h
  have:=of_decide_eq_true h'
  match ds,this with
  | [x,y],_=>exact⟨x,y,rfl⟩
  | [],z=>simp at z
  | [_],z=>simp at z
  | _::_::_::_,z=>simp at z;omega
 | _=>cases h
theorem zL0 {m:Int}(h:zKI d m=true):∃ds,d = .tuple ds/\(ds.length:Int)=m:=by
 cases d with
 | tuple ds=>
  have h':decide ((ds.length:Int)=m)=true:=h
  exact⟨ds,rfl,of_decide_eq_true h'⟩
 | _=>cases h
theorem zBj.smP {PT:Addr}(h:zBj H wa n ts)(k:SmP PT H H'):zBj H' wa n ts:=h.keepT fun b ys e=>k.get e (by intro ps z;cases z)
theorem zDI {PT:Addr}(k:SmP PT H H')(s:zBA H v d):zBA H' v d:=
 zBA.rec (motive_1:=fun v d _=>zBA H' v d) (motive_2:=fun xs ds _=>zA1 H' xs ds) .non (fun b=>.bl b) (fun i=>.int i) (fun x=>.str x) (fun e _ ih=>.tup (k.get e (by intro ps z;cases z)) ih) (fun e _ ih=>.lst (k.get e (by intro ps z;cases z)) ih) .nil (fun _ _ i1 i2=>.cons i1 i2) s
theorem scIown:zAD ["web", "thing"] ["web", "thing"] (defScope zIo):=fS0
theorem zMv {fT:Addr}(F:Fun K "is_order_with_numbers" "is_order_with_numbers" zIo f fd') (FT:FuB K mg "is_tuple_of" sTof fT fdT ["thing","count"]) (GT:zAe P w K mg base CX0 4 fT fdT ["thing", "count"] zKR)
 (FO:FuB K mg "is_order" sOrd fO fdO ["web","thing"]) (GO:zAe P w K mg base CX0 4 fO fdO ["web", "thing"] zHB)
 (FN:FuB K mg "is_number" zMP fN fdN ["thing"]) (GN:zAe P w K mg base CX0 4 fN fdN ["thing"] zL8) (mAll:mg "all" = none):zAe P w K mg base CX0 5 f fd' ["web", "thing"] zIc:=by
 refine F.okD scIown fun _ A _ _ H vs Q E hr h=>?_
 obtain⟨wa,v,d,n,ts,rfl,W,n8,S,k⟩:=h
 obtain⟨ta,tys,hwa,_,_,G⟩:=id W
 have p8:=zCt n8
 refine⟨_,zO (zBN (PW.pt (zEb (zBx (zBR (zAa GT hr FT (zE (pv 1) (zE ze zM)))))
  (zDK (zBx (zBR (zAa GO hr FO (zE (pv 0) (zE (zAG zAY (pv 1) ze) zM)))))))) (zg (zAF zEc)) zAQ)
  (zg (zAF (zD9 (zAa GT hr FT (zE (zAG zAY (pv 1) ze) (zE (zAS zCc ze (zAG zAY (pv 0) ze)) zM)))
   (zEr (zt (zFe rfl) mAll (zE (zBG (own:=["number"]) (cn:=[]) (ci:=[]) rfl (csc rfl rfl) trivial rfl (zCu (zAG zAY (pv 1) ze)) (fun _ _ _ _=>zB8)
    (fun _ _ _ _=>zBn) (fun _ _ _ _=>zAa GN hr FN (zE (pv 0) zM))) zM)))))),?_⟩
 refine⟨_,rfl,v,d,2,rfl,S,zKI d 2,rfl,?_⟩
 cases hn:zKI d 2 with
 | false=>
  refine zCZ (zCZ (k false H ⟨(fun z=>by cases z),?_⟩ (zAo.refl _)))
  rintro ⟨os,nu,rfl,_⟩
  exact absurd hn (by simp[thD,zKI])
 | true=>
  refine zCe ?_
  obtain⟨x,y,rfl⟩:=zLz hn
  obtain⟨a,vx,vy,rfl,ha,Sx,Sy⟩:∃a vx vy,v = .ref a/\H a=some (.tup [vx,vy])/\zBA H vx x/\zBA H vy y:=by
   cases S with
   | tup ha al=>cases al with
    | cons Sx al=>cases al with
     | cons Sy al=>cases al;exact⟨_,_,_,rfl,ha,Sx,Sy⟩
  refine⟨_,rfl,_,rfl,a,_,_,vx,rfl,rfl,SqT.of ha,rfl,wa,vx,x,n,ts,rfl,W,Sx,fun b1 H1 hb1 s1=>?_⟩
  refine⟨b1,rfl,?_⟩
  cases b1 with
  | false=>
   refine zCZ (k false H1 ⟨(fun z=>by cases z),?_⟩ s1)
   rintro ⟨os,nu,e,sh⟩
   unfold thD at e
   injection e with e
   injection e with e1 _
   exact hb1.mpr ⟨nI os,e1,zDO sh.pm⟩
  | true=>
   refine zCe ?_
   obtain⟨os',rfl,O⟩:=hb1.mp rfl
   obtain⟨os,rfl,pm⟩:=zF0 O
   refine⟨_,rfl,a,_,_,vy,rfl,rfl,SqT.of (s1 _ _ ha),rfl,_,rfl,wa,_,_,_,rfl,rfl,SqT.of (s1 _ _ hwa),rfl,1,(n:Int),rfl,rfl,⟨by omega,by omega,by decide⟩,vy,y,_,rfl,zAy s1 Sy,_,rfl,?_⟩
   rw[zCG]
   cases hn2:zKI y ((2 ^ n:Nat):Int) with
   | false=>
    refine zCe (k false H1 ⟨(fun z=>by cases z),?_⟩ s1)
    rintro ⟨os,nu,e,sh⟩
    unfold thD at e
    injection e with e
    injection e with _ e
    injection e with e _
    rw[e] at hn2
    have hn3:decide ((((nu.map PyData.int).length:Nat):Int)=((2 ^ n:Nat):Int))=false:=hn2
    rw[zD,sh.ln] at hn3
    exact absurd rfl (of_decide_eq_false hn3)
   | true=>
    refine zCZ ?_
    obtain⟨ds,rfl,hl⟩:=zL0 hn2
    cases Sy with
    | @tup c xs _ hc al=>
     have hxl:=zCb al
     have hc1:=s1 _ _ hc
     refine⟨_,rfl,a,_,_,.ref c,rfl,rfl,SqT.of (s1 _ _ ha),rfl,c,rfl,⟨_,SqT.of hc1⟩,[],rfl,fun D hD=>?_⟩
     refine zCU (a:=c) (xs:=xs) (fun i ys H4=>ys=((ds.take i).map zDA).map V.bl/\H4=upd H1 D (.lst ys)) ⟨rfl,rfl⟩ (fun i ys H4 z=>?_) (fun i ys H4 z=>?_) (fun i x ys H4 hx z=>?_) (fun ys H4 z=>?_)
     . obtain⟨_,rfl⟩:=z
       exact SqT.of (zF hD _ _ hc1)
     . obtain⟨rfl,_⟩:=z
       rw[zD,zD,zl]
       exact zr (by omega)
     . obtain⟨rfl,rfl⟩:=z
       have hi:i<ds.length:=by have:=(zK.mp hx).1;omega
       obtain⟨x',hx',Sx⟩:=zDJ al (zA hi)
       rw[hx] at hx'
       cases hx'
       refine⟨⟨rfl,rfl⟩,?_⟩
       refine zGe ?_
       refine⟨_,rfl,x,ds[i],rfl,zAy (s1.trans (zF hD)) Sx,zG,?_,zBZ⟩
       rw[zw,zA hi,zS,zS];rfl
     . obtain⟨rfl,rfl⟩:=z
       rw[hxl,zZ (zH _)]
       refine⟨D,_,rfl,SqL.of zG,?_⟩
       have ea:(ds.map zDA).all id=ds.all zDA:=by rw[List.all_map];rfl
       rw[ea]
       refine k _ _ ⟨fun z=>?_,?_⟩ (s1.trans (zF hD))
       . obtain⟨nu,rfl⟩:=zFO z
         rw[zD] at hl
         exact⟨os,nu,rfl,pm,by omega⟩
       . rintro ⟨os,nu,e,sh⟩
         unfold thD at e
         injection e with e
         injection e with _ e
         injection e with e _
         injection e with e
         rw[e]
         exact zDx nu
theorem scRtm:zAD ["web"] ["web"] (defScope sRtm):=fS0
theorem ok_rtm {tk:Tok}(F:Fun K "refuse_too_many" "refuse_too_many" sRtm f fd') (mMT:mg "MOST_PLACES_OF_LEASTS" = some (.int 8 tk)) (mC:mg "TooMany" = some (.ref c)) (qC:PySem.W.excIn K c bmV "ValueError.__new__" = true):zAe P w K mg base (CXI P w) 1 f fd' ["web"] (spRtm c):=by
 refine F.okI scRtm (fun vs H Q E h=>?_) (fun cdv A outer s H vs Q E hr h=>?_)
 . obtain⟨wa,ta,n,rfl,_⟩:=h
   rfl
 . obtain⟨wa,ta,n,rfl,hwa,kY,kN⟩:=h
   refine⟨_,zg (zBN (zAC zFK (zAG zAY (pv 0) ze) (zBu (v:=.int 8) rfl mMT ⟨tk,rfl⟩) (zAI _)) (zg (zKj (E:=E) rfl mC qC rfl (zE zCE zM) (fun pins σ H s h' ea vs I mx hE=>zMS I mx hE) (hl:=fun σ H Q h=>⟨zH 1,h⟩))) zAQ),?_⟩
   refine⟨_,rfl,wa,_,_,_,rfl,rfl,SqT.of hwa,rfl,_,_,rfl,rfl,_,rfl,zDq (fun c=>?_) (fun c=>?_)⟩
   . have c:=of_decide_eq_true c
     exact kN (by omega)
   . have c:¬ _:=fun z=>c (zP z)
     exact kY (by omega)
theorem zLf:zAD ["web", "thing", "at"] ["web", "thing"] (defScope zIn):=fS0
variable {cT:Addr}
theorem zMt {C fR fT:Addr}{fdR:FuncData}(F:Fun K "lets_least" "lets_least" zIn f fd') (mC:mg "NoLeast" = some (.ref C)) (EI:zHh K C fI)(bI:zDh K fdI ["self", "word", "at"] []) (GI:zAe P w K mg base CX0 6 fI fdI ["self", "word", "at"] (spXI C "word" "at"))
 (FR:FuB K mg "refuse_too_many" sRtm fR fdR ["web"]) (GR:zAe P w K mg base (CXI P w) 7 fR fdR ["web"] (spRtm cT))
 (FO:FuB K mg "is_order_with_numbers" zIo fO fdO ["web","thing"]) (GO:zAe P w K mg base CX0 7 fO fdO ["web", "thing"] zIc)
 (FS:FuB K mg "step_fault" zIk fS fdS ["web","numbers"]) (GS:zAe P w K mg base CX0 7 fS fdS ["web", "numbers"] (zLY PT))
 (FB:FuB K mg "by_order" sByo fB fdB ["web","order"]) (GB:zAe P w K mg base CX0 7 fB fdB ["web", "order"] (zMC PT))
 (FT:FuB K mg "total" sTot fT fdT ["labels"]) (GT:zAe P w K mg base CX0 7 fT fdT ["labels"] spTot):zAe P w K mg base (CXI P w) 8 f fd' ["web", "thing"] (zIb PT C cT):=by
 refine F.okI zLf (fun vs H Q E h=>?_) (fun cdv A outer s H vs Q E hr h=>?_)
 . obtain⟨wa,v,d,n,ts,R,rfl,_⟩:=h
   rfl
 . obtain⟨wa,v,d,n,ts,R,rfl,L,kT,kY,kN⟩:=h
   obtain⟨ta,tys,hwa,_,_,G⟩:=id L.wb
   refine⟨_,zO (zCg (zGm GR hr rfl FR.m FR.F.kp FR.b .nil passI (zE (pv 0) zM)))
    (zO (zBN (zBx (zBR (zAa GO hr FO (zE (pv 0) (zE (pv 1) zM))))) (zg (zDM (E:=E) rfl mC EI rfl GI hr bI (zE zCE (zE zBF zM)) (fun pins σ H s ea tt dx I he hn h0 hE=>zD5 I he rfl rfl rfl rfl hn h0 hE))) zAQ)
    (zO (zBN (zAC zHx (zAG zAY (zAG zAY (pv 1) ze) (zBe (zDp zCm ze) (fun σ H Q q=>⟨1,rfl,q⟩))) ze (zAI _)) (zg (zDM (E:=E) rfl mC EI rfl GI hr bI (zE zCE (zE zBF zM)) (fun pins σ H s ea tt dx I he hn h0 hE=>zD5 I he rfl rfl rfl rfl hn h0 hE))) zAQ)
    (zO (zAn (i:=2) zLf.nd (zAa GS hr FS (zE (pv 0) (zE (zAG zAY (pv 1) ze) zM))))
    (zO (zBN (zAC zFJ (pv 2) zBF (zAI _)) (zg (zDM (E:=E) rfl mC EI rfl GI hr bI (zE zCE (zE (pv 2) zM)) (fun pins σ H s ea tt dx I he hn h0 hE=>zD5 I he rfl rfl rfl rfl hn h0 hE))) zAQ)
    (zO (zBN (zAC zHx (zAG zAY (zAG zAY (pv 1) ze) ze) (zAa GT hr FT (zE (zAa GB hr FB (zE (pv 0) (zE (zAG zAY (pv 1) ze) zM))) zM)) (zAI _)) (zg (zDM (E:=E) rfl mC EI rfl GI hr bI (zE zCE (zE zBF zM)) (fun pins σ H s ea tt dx I he hn h0 hE=>zD5 I he rfl rfl rfl rfl hn h0 hE))) zAQ)
    (zg (zAF zEc))))))),?_⟩
   refine⟨_,rfl,wa,ta,n,rfl,hwa,fun n8=>?_,kT⟩
   have fail:∀(x:Str)(u:V)(e:PyData)(H1:Hp),zCR R n d (some (x,e))->SmP PT H H1->Tb H1 PT->zBA H1 u e->∀tt dx,H1 tt=none->H1 dx=none->tt≠dx->E (.ref C) (some dx) (upd (upd H1 tt (.tup [.str x,u])) dx (dO dx [("word",.str x),("at",u)])):=fun x u e H1 fo s1 T1 Su tt dx ht hd ne=>by
    have s2:=(zF (o:=.tup [.str x,u]) ht).trans (zF (o:=dO dx [("word",.str x),("at",u)]) (by rw[zf (Ne.symm ne)];exact hd))
    exact kN n8 _ _ _ _ _ fo (s1.trans (SmP.of s2)) (T1.same s2) (zAy s2 Su) zG
   refine⟨_,rfl,_,rfl,wa,v,d,n,ts,rfl,L.wb,n8,L.th,fun b H1 hb s1=>?_⟩
   refine⟨_,rfl,?_⟩
   cases b with
   | false=>exact zCZ ⟨_,_,rfl,fail _ _ _ _ (.shape fun os nu e sh=>by cases hb.mpr ⟨os,nu,e,sh⟩) (SmP.of s1) (L.tb.same s1) .non⟩
   | true=>
    refine zCe ?_
    obtain⟨os,nu,rfl,sh⟩:=hb.mp rfl
    obtain⟨th,rfl,oa,na,hth,hoa,hna⟩:=sh_th L.th
    have hnl:0<nu.length:=by rw[sh.ln];exact zDz _
    refine⟨_,rfl,th,_,_,.ref na,rfl,rfl,SqT.of (s1 _ _ hth),rfl,na,_,-1,.int (nu.getD (nu.length-1) 0),rfl,rfl,SqT.of (s1 _ _ hna),zJI hnl,rfl,_,rfl,?_⟩
    by_cases hz:nu.getD (2 ^ n-1) 0=0
    . refine ifF (by rw[sh.ln,hz];rfl) ?_
      refine⟨_,rfl,_,rfl,th,_,_,.ref na,rfl,rfl,SqT.of (s1 _ _ hth),rfl,wa,na,n,ts,R,nu,rfl,L.wb.keep s1,n8,L.sr,s1 _ _ hna,sh.ln,L.tb.same s1,fun le H2 sm2 T2=>?_,fun p t h H2 st sm2 T2 h2=>?_⟩
      . refine⟨_,rfl,rfl,_,rfl,ifF (by rfl) ?_⟩
        have sm:SmP PT H H2:=(SmP.of s1).trans sm2
        have hth2:H2 th=some (.tup [.ref oa,.ref na]):=sm.get hth (by intro ps z;cases z)
        have hna2:H2 na=some (.tup (nu.map V.int)):=sm.get hna (by intro ps z;cases z)
        have hoa2:H2 oa=some (.tup ((nI os).map V.int)):=sm.get hoa (by intro ps z;cases z)
        refine⟨_,rfl,th,_,_,.ref na,rfl,rfl,SqT.of hth2,rfl,na,_,_,.int (nu.getD 0 0),rfl,rfl,SqT.of hna2,at0 hnl,?_⟩
        refine⟨_,rfl,_,rfl,th,_,_,.ref oa,rfl,rfl,SqT.of hth2,rfl,wa,oa,n,ts,nI os,rfl,L.wb.smP sm,hoa2,zDO sh.pm,T2,fun l ess rk H3 sm3 T3 LA RK LO=>?_⟩
        refine⟨l,_,rfl,LA.tlen,by rw[zD,LO.1];omega,fun H4 s4=>?_⟩
        have sm4:=(sm.trans sm3).trans (SmP.of s4)
        refine⟨rfl,_,rfl,?_⟩
        rw[zJU G L.sr sh.pm RK LO]
        by_cases he:nu.getD 0 0=(inA R 0 os:Nat)
        . refine ifF (by rw[he];simp) ?_
          exact kY n8 (.good os nu rfl sh (.none hz le he)) H4 sm4 (T3.same s4)
        . refine ifT (by have he:=he;rw[zC] at he;simp[he]) ?_
          exact⟨_,_,rfl,fail _ _ _ _ (.good os nu rfl sh (.start hz le he)) sm4 (T3.same s4) .non⟩
      . refine⟨_,rfl,rfl,_,rfl,ifT (by rfl) ?_⟩
        exact⟨_,rfl,_,_,rfl,fail _ _ _ _ (.good os nu rfl sh (.step t h hz st)) ((SmP.of s1).trans sm2) T2 (.tup h2 (.cons (.int _) (.cons (.int _) .nil)))⟩
    . refine ifT (by have hz:=hz;rw[zC] at hz;rw[sh.ln];simp[hz]) ?_
      exact⟨_,_,rfl,fail _ _ _ _ (.good os nu rfl sh (.last hz)) (SmP.of s1) (L.tb.same s1) .non⟩
noncomputable def zLX:Sp:=fun vs H Q _=>∃(sl na:Addr)(R:List (List Int))(nu:List Int),vs=[.ref sl,.ref na]/\zBi H sl R/\NN R/\H na=some (.tup (nu.map V.int))/\nu.length=2 ^ R.length/\(LeOk R R.length nu->∀H',zAo H H'->Q .non H') /\
 ∀(p:Addr)(t h:Nat)(H':Hp),zDo R R.length nu t h->zAo H H'->H' p=some (.tup [.int t,.int h])->Q (.ref p) H'
noncomputable def S64 (d:PyData):Prop:=∀x r ds,d = .tuple (x::r)->x = .tuple ds->ds.length<64
noncomputable def fD:Option (Str×PyData)->PyData
 | none=>.tuple []
 | some (x,e)=>.tuple [.str x,e]
noncomputable def zIa:Sp:=fun vs H Q _=>∃(sl:Addr)(v:V)(d:PyData)(R:List (List Int)),vs=[.ref sl,v]/\zBi H sl R/\NN R/\1<=R.length/\zBA H v d/\S64 d/\∀(f:Option (Str×PyData))(q:Addr)(H':Hp),zCR R R.length d f->zAo H H'->zBA H' (.ref q) (fD f)->Q (.ref q) H'
theorem zHF:zAD ["_law_masks_here", "_law_numbers", "_law_some", "_law_hub", "_law_most"] ["_law_masks_here", "_law_numbers"] (defScope zIj):=fS0
theorem zMm (F:Fun K "_law_step_fault" "_law_step_fault" zIj f fd') (FB:FuB K mg "_law_brought" zLh fB fdB ["_law_masks_here","_law_some","_law_hub"]) (mLen:mg "len" = none) (mRange:mg "range" = none):zAe P w K mg base CX0 2 f fd' ["_law_masks_here", "_law_numbers"] zLX:=by
 have GB:zAe P w K mg base CX0 1 fB fdB ["_law_masks_here", "_law_some", "_law_hub"] zIf:=zHQ FB.F mLen
 refine F.okD zHF fun _ A _ _ H vs Q E hr h=>?_
 obtain⟨sl,na,R,nu,rfl,ST,N,hna,dl,kY,kN⟩:=h
 obtain⟨rs,hsl,hrl⟩:=ST.len
 obtain⟨n,en⟩:∃n,n=R.length:=⟨_,rfl⟩
 rw[<-en] at dl hrl kY kN
 have n8:n<=8:=by rw[en];exact N.n8
 have p8:=zCt n8
 refine⟨_,zO (zBl PassesOwn.never rfl (zAX rfl mRange (zE (zt zAE mLen (zE (pv 1) zM)) zM)) (zAj (i:=2) zHF.nd rfl (Or.inl rfl))
  (zg (zBl PassesOwn.never rfl (zAX rfl mRange (zE (zt zAE mLen (zE (pv 0) zM)) zM)) (zAj (i:=3) zHF.nd rfl (Or.inl rfl))
   (zg (zBN (zAC zCI (zAS zEt (zAS zI2 (pv 2) (pv 3)) ze) ze (zAI _))
    (zO (zAn (i:=4) zHF.nd (zAS zBd (zAa GB hr FB (zE (pv 0) (zE (pv 2) (zE (pv 3) zM)))) (zAG zAY (pv 1) (zAS zBd (pv 2) (zAS zCc ze (pv 3))))))
    (zg (zBN (zAC zFK (zAG zAY (pv 1) (pv 2)) (pv 4) (zAI _)) (zg (zAF (zAf (zE (pv 2) (zE (pv 3) zM))))) zAQ))) zAQ)))))
  (zg (zAF zBF)),?_⟩
 have hnl:(nu.map V.int).length=2 ^ n:=by rw[zD,dl]
 refine⟨_,rfl,na,_,rfl,.inr (SqT.of hna),?_⟩
 rw[hnl]
 refine⟨((2 ^ n:Nat):Int),rfl,by omega,by omega,zBT (lo:=0) (n:=(((2 ^ n:Nat):Int)).toNat) (fun i σ H2=>∃v2 v3 v4:Option V,σ=[some (.ref sl),some (.ref na),v2,v3,v4]/\zAo H H2/\∀t,t<i->∀g∈zAm t n,nu.getD t 0<=cst R nu t g) ⟨_,_,_,rfl,zAo.refl _,fun t ht=>absurd ht (zBq _)⟩ (fun t σ H2 ht z=>?_) (fun σ H2 z=>?_)⟩
 . obtain⟨v2,v3,v4,rfl,s2,a1⟩:=z
   rw[zAJ]
   have ht':t<2 ^ n:=by omega
   refine⟨_,rfl,sl,_,rfl,.inl (SqL.of (s2 _ _ hsl)),?_⟩
   rw[hrl]
   refine⟨(n:Int),rfl,by omega,by omega,zBT (lo:=0) (n:=((n:Int)).toNat) (fun i σ H3=>∃v3 v4:Option V,σ=[some (.ref sl),some (.ref na),some (.int t),v3,v4]/\zAo H H3/\∀g∈zAm t n,g<i->nu.getD t 0<=cst R nu t g) ⟨_,_,rfl,s2,fun g _ hg=>absurd hg (zBq _)⟩ (fun h σ H3 hh z=>?_) (fun σ H3 z=>?_)⟩
   . obtain⟨v3',v4',rfl,s3,a2⟩:=z
     rw[zAJ]
     have hh':h<n:=by omega
     refine⟨_,rfl,_,rfl,(t:Int),(h:Int),rfl,rfl,by omega,_,_,rfl,rfl,rfl,_,rfl,?_⟩
     dsimp only
     rw[zBt,zFf]
     have up:(h∈zAm t n->nu.getD t 0<=cst R nu t h)->∀g∈zAm t n,g<h+1->nu.getD t 0<=cst R nu t g:=fun hl g hg lt=>by
      by_cases c:g=h
      . subst c;exact hl hg
      . exact a2 g hg (by omega)
     cases c:t.testBit h with
     | true=>exact zCe ⟨_,_,rfl,s3,up fun z=>by rw[(zBX.mp z).2] at c;cases c⟩
     | false=>
      refine zCZ ?_
      have hlt:=zGS ht' hh' c
      refine⟨_,rfl,_,rfl,_,rfl,sl,R,t,h,rfl,ST.same s3,N,by omega,fun H4 s4=>?_⟩
      refine⟨_,rfl,_,rfl,_,rfl,1,(h:Int),rfl,rfl,⟨by omega,by omega,by decide⟩,_,_,rfl,rfl,?_⟩
      have s34:=s3.trans s4
      refine⟨na,_,((t+2 ^ h:Nat):Int),.int (nu.getD (t+2 ^ h) 0),rfl,by rw[Int.natCast_add,<-zCG],SqT.of (s34 _ _ hna),zBh (by rw[zN,zC,zA (by rw[dl];exact hlt)];rfl),?_⟩
      refine⟨_,_,rfl,rfl,?_⟩
      refine⟨_,rfl,_,rfl,na,_,(t:Int),.int (nu.getD t 0),rfl,rfl,SqT.of (s34 _ _ hna),zBh (by rw[zN,zC,zA (by rw[dl];exact ht')];rfl),_,rfl,_,_,rfl,rfl,_,rfl,zDq (fun c2=>?_) (fun c2=>?_)⟩
      . have c2:=of_decide_eq_true c2
        refine⟨_,rfl,_,rfl,by show 2<=sizeLine;decide,fun p hp=>?_⟩
        exact kN p t h _ ⟨ht',zBX.mpr ⟨hh',c⟩,by unfold cst;omega,a1,a2⟩ (s34.trans (zF hp)) zG
      . have c2:¬ _:=fun z=>c2 (zP z)
        exact⟨_,_,rfl,s34,up fun _=>by unfold cst;omega⟩
   . obtain⟨v3',v4',rfl,s3,a2⟩:=z
     refine⟨_,_,_,rfl,s3,fun t' ht2 g hg=>?_⟩
     by_cases c:t'=t
     . subst c
       have:=(zBX.mp hg).1
       exact a2 g hg (by omega)
     . exact a1 t' (by omega) g hg
 . obtain⟨v2,v3,v4,rfl,s2,a1⟩:=z
   exact kY (fun t ht=>a1 t (by omega)) H2 s2
theorem zHG:zAD ["_law_masks_here", "_law_thing", "_law_n", "_law_numbers", "_law_fault"] ["_law_masks_here", "_law_thing"] (defScope zIm):=fS0
theorem zMs (F:Fun K "_law_least_fault" "_law_least_fault" zIm f fd')
 (FO:FuB K mg "_law_is_order" sIso fO fdO ["_law_n","_law_thing"]) (GO:zAe P w K mg base CX0 3 fO fdO ["_law_n", "_law_thing"] spIso)
 (FS:FuB K mg "_law_step_fault" zIj fS fdS ["_law_masks_here","_law_numbers"]) (GS:zAe P w K mg base CX0 3 fS fdS ["_law_masks_here", "_law_numbers"] zLX)
 (FI:FuB K mg "_law_in_all" zIp fI fdI ["_law_masks_here","_law_order_here"]) (GI:zAe P w K mg base CX0 3 fI fdI ["_law_masks_here", "_law_order_here"] zLc)
 (mIsi:mg "isinstance" = none) (mInt:mg "int" = none) (mBool:mg "bool" = none) (mTuple:mg "tuple" = none) (mLen:mg "len" = none):zAe P w K mg base CX0 4 f fd' ["_law_masks_here", "_law_thing"] zIa:=by
 refine F.okD zHG fun _ A _ _ H vs Q E hr h=>?_
 obtain⟨sl,v,d,R,rfl,ST,N,n1,S,s64,k⟩:=h
 have hu0:=hr.units0
 obtain⟨rs,hsl,hrl⟩:=ST.len
 have n8:=N.n8
 have p8:=zCt n8
 refine⟨_,zO (zAn (i:=2) zHG.nd (zt zAE mLen (zE (pv 0) zM)))
  (zO (zBN (PW.pt (zEb (zBx (zBR (zt zBg mIsi (zE (pv 1) (zE (zCo (T := "tuple") mTuple) zM))))) (zEb (zAC zHx (zt zAE mLen (zE (pv 1) zM)) ze (zAI _))
   (zDK (zBx (zBR (zAa GO hr FO (zE (pv 2) (zE (zAG zAY (pv 1) ze) zM)))))))) ) (zg (zAF (zAf (zE zCE (zE zBF zM))))) zAQ)
  (zO (zAn (i:=3) zHG.nd (zAG zAY (pv 1) ze))
  (zO (zBN (PW.pt (zEb (zBx (zBR (zt zBg mIsi (zE (pv 3) (zE (zCo (T := "tuple") mTuple) zM))))) (zDK (zAC zHx (zt zAE mLen (zE (pv 3) zM)) (zAS zCc ze (pv 2)) (zAI _))))) (zg (zAF (zAf (zE zCE (zE zBF zM))))) zAQ)
  (zO (zBN (zAC (zLl hu0) (zBG (own:=["_law_one"]) (cn:=[]) (ci:=[]) rfl (csc rfl rfl) trivial rfl (zCu (pv 3)) (fun _ _ _ _=>zB8)
   (fun _ _ _ _=>zCA (PW.pt (zEb (zBx (zBR (zt zCW mIsi (zE (pv 0) (zE (zCo (T := "int") mInt) zM))))) (zDK (zBR (zt zCW mIsi (zE (pv 0) (zE (zCo (T := "bool") mBool) zM)))))))) (fun _ _ _ _=>pv 0)) (zBy zM) (zAI _)) (zg (zAF (zAf (zE zCE (zE zBF zM))))) zAQ)
  (zO (zBN (zAC zHx (zAG zAY (pv 3) (zBe (zDp zCm ze) (fun σ H Q q=>⟨1,rfl,q⟩))) ze (zAI _)) (zg (zAF (zAf (zE zCE (zE zBF zM))))) zAQ)
  (zO (zAn (i:=4) zHG.nd (zAa GS hr FS (zE (pv 0) (zE (pv 3) zM))))
  (zO (zBN (zAC zFJ (pv 4) zBF (zAI _)) (zg (zAF (zAf (zE zCE (zE (pv 4) zM))))) zAQ)
  (zg (zAF (zCJ (zAC zCI (zAG zAY (pv 3) ze) (zAa GI hr FI (zE (pv 0) (zE (zAG zAY (pv 1) ze) zM))) (zAI _)) (zAf zM) (zAf (zE zCE (zE zBF zM))))))))))))),?_⟩
 have out:∀(x:Str)(u:V)(e:PyData)(H1:Hp),zCR R R.length d (some (x,e))->zAo H H1->zBA H1 u e->2<=sizeLine/\∀p,H1 p=none->Q (.ref p) (upd H1 p (.tup [.str x,u])):=fun x u e H1 fo s1 Su=>⟨by decide,fun p hp=>k _ p _ fo (s1.trans (zF hp)) (.tup zG (.cons (.str _) (.cons (zAy (zF hp) Su) .nil)))⟩
 have bad:∀(H1:Hp),zAo H H1->(∀os nu,d=thD os nu->¬ ShOk R.length os nu)->2<=sizeLine/\∀p,H1 p=none->Q (.ref p) (upd H1 p (.tup [.str "shape",.non])):=fun H1 s1 no=>out _ _ _ H1 (.shape no) s1 .non
 refine⟨_,rfl,sl,_,rfl,.inl (SqL.of hsl),?_⟩
 rw[hrl]
 obtain⟨t,bi,bb,bt,ty,_,_,e3,_,e5,_,ht⟩:=zDk (K:=K) S
 refine⟨_,rfl,_,_,t,bt,rfl,ty,e3,bt,rfl,?_⟩
 rw[e5]
 cases hn:tupD d with
 | false=>exact zCZ (zCZ (bad H (zAo.refl _) fun os nu e=>by subst e;cases hn))
 | true=>
  refine zCe ?_
  obtain⟨a,xs,ds,rfl,ha,rfl,al⟩:=ht hn
  have hxl:=zCb al
  refine⟨_,rfl,a,_,rfl,.inr (SqT.of ha),rfl,_,rfl,?_⟩
  by_cases c2:ds.length=2
  case neg=>
   refine ifT (by rw[hxl];simp;omega) (zCZ (bad H (zAo.refl _) fun os nu e=>?_))
   injection e with e
   rw[e] at c2
   exact absurd rfl c2
  obtain⟨x,y,rfl⟩:∃x y,ds=[x,y]:=by
   match ds,c2 with
   | [x,y],_=>exact⟨x,y,rfl⟩
  obtain⟨vx,vy,rfl,Sx,Sy⟩:∃vx vy,xs=[vx,vy]/\zBA H vx x/\zBA H vy y:=by
   cases al with
   | cons Sx al=>cases al with
    | cons Sy al=>cases al;exact⟨_,_,rfl,Sx,Sy⟩
  refine ifF (by rfl) ?_
  refine⟨_,rfl,_,rfl,a,_,_,vx,rfl,rfl,SqT.of ha,rfl,vx,x,R.length,rfl,Sx,by omega,by omega,fun ds e=>s64 x [y] ds rfl e,fun b1 H1 hb1 s1=>?_⟩
  refine⟨b1,rfl,?_⟩
  cases b1 with
  | false=>
   refine zCZ (bad H1 s1 fun os nu e sh=>?_)
   unfold thD at e
   injection e with e
   injection e with e1 _
   cases hb1.mpr ⟨nI os,e1,zDO sh.pm⟩
  | true=>
   refine zCe ?_
   obtain⟨os',rfl,O⟩:=hb1.mp rfl
   obtain⟨os,rfl,pm⟩:=zF0 O
   refine⟨_,rfl,a,_,_,vy,rfl,rfl,SqT.of (s1 _ _ ha),rfl,?_⟩
   have Sy1:=zAy s1 Sy
   have noN:(∀nu:List Int,y ≠ .tuple (nu.map PyData.int)\/nu.length≠2 ^ R.length)->∀os' nu,PyData.tuple [.tuple ((nI os).map PyData.int),y]=thD os' nu->¬ ShOk R.length os' nu:=fun h os' nu e sh=>by
    unfold thD at e
    injection e with e
    injection e with _ e
    injection e with e _
    rcases h nu with z | z
    . exact z e
    . exact z sh.ln
   obtain⟨t',_,_,bt',ty',_,_,e3',_,e5',_,ht'⟩:=zDk (K:=K) Sy1
   refine⟨_,rfl,_,_,t',bt',rfl,ty',e3',bt',rfl,?_⟩
   rw[e5']
   cases hn2:tupD y with
   | false=>exact zCZ (zCZ (bad H1 s1 (noN fun nu=>.inl fun z=>by rw[z] at hn2;cases hn2)))
   | true=>
    refine zCe ?_
    obtain⟨na,ns,ms,rfl,hna1,rfl,al2⟩:=ht' hn2
    have hml:=zCb al2
    refine⟨_,rfl,na,_,rfl,.inr (SqT.of hna1),_,rfl,1,(R.length:Int),rfl,rfl,⟨by omega,by omega,by decide⟩,rfl,_,rfl,?_⟩
    by_cases c3:ms.length=2 ^ R.length
    case neg=>
     have zz:¬ (V.int (ns.length:Nat)=V.int (1*2 ^ ((R.length:Int)).toNat)):=fun z=>c3 (by have:=V.int.inj z;rw[zCG,hml] at this;omega)
     refine ifT (by show (!decide _)=true;rw[zb zz];rfl) (bad H1 s1 (noN fun nu=>?_))
     by_cases z:ms=nu.map PyData.int
     . right
       intro z2
       rw[z,zD] at c3
       exact c3 z2
     . exact .inl fun z2=>z (PyData.tuple.inj z2)
    refine ifF (by rw[hml,c3,<-zCG];show (!decide _)=false;rw[zP rfl];rfl) ?_
    refine⟨_,rfl,na,rfl,⟨_,SqT.of hna1⟩,[],rfl,fun D hD=>?_⟩
    refine zCU (a:=na) (xs:=ns) (fun i ys H4=>(ys=[]↔(ms.take i).all zDA=true)/\ys.length<=(ms.take i).length/\H4=upd H1 D (.lst ys)) ⟨⟨fun _=>rfl,fun _=>rfl⟩,zi _,rfl⟩ (fun i ys H4 z=>?_) (fun i ys H4 z=>?_) (fun i x ys H4 hx z=>?_) (fun ys H4 z=>?_)
    . obtain⟨_,_,rfl⟩:=z
      exact SqT.of (zF hD _ _ hna1)
    . obtain⟨_,hl,_⟩:=z
      rw[zl] at hl
      exact zr (by omega)
    . obtain⟨hy,hl,rfl⟩:=z
      have hi:i<ms.length:=by have:=(zK.mp hx).1;omega
      obtain⟨x',hx',Sx⟩:=zDJ al2 (zA hi)
      rw[hx] at hx'
      cases hx'
      have Sx1:=zAy (zF (o:=.lst ys) hD) Sx
      obtain⟨tx,xi,xb,xt,tyx,x1,x2,_,x4,_⟩:=zDk (K:=K) Sx1
      have et:(ms.take (i+1)).all zDA=((ms.take i).all zDA && zDA ms[i]):=by
       rw[zw,zA hi,List.all_append]
       show ((ms.take i).all zDA && (zDA ms[i] && true))=_
       rw[Bool.and_true]
      refine⟨⟨rfl,rfl⟩,?_⟩
      refine⟨_,rfl,_,_,tx,xi,rfl,tyx,x1,xi,rfl,?_⟩
      have yes:zDA ms[i]=true->(ys=[]↔(ms.take (i+1)).all zDA=true)/\ys.length<=(ms.take (i+1)).length/\upd H1 D (.lst ys)=upd H1 D (.lst ys):=fun e=>⟨by rw[et,e,Bool.and_true];exact hy,by rw[zl] at hl ⊢;omega,rfl⟩
      have no:zDA ms[i]=false->(ys++[x]=[]↔(ms.take (i+1)).all zDA=true)/\(ys++[x]).length<=(ms.take (i+1)).length/\upd (upd H1 D (.lst ys)) D (.lst (ys++[x]))=upd H1 D (.lst (ys++[x])):=fun e=>⟨by rw[et,e,Bool.and_false];simp,by rw[zL,zl];rw[zl] at hl;show ys.length+1<=_;omega,zBZ⟩
      cases xi with
      | false=>
       refine zCZ (zCZ ?_)
       exact⟨_,rfl,zG,no (by rw[<-x4];rfl)⟩
      | true=>
       refine zCe ?_
       refine⟨_,rfl,_,_,tx,xb,rfl,tyx,x2,xb,rfl,?_⟩
       cases xb with
       | true=>exact zCZ ⟨_,rfl,zG,no (by rw[<-x4];rfl)⟩
       | false=>exact zCe (yes (by rw[<-x4];rfl))
    . obtain⟨hy,hl,rfl⟩:=z
      rw[hml,zZ (zH _)] at hy
      refine⟨zi _,fun b hb=>?_⟩
      have sb:=(zF (o:=.lst ys) hD).trans (zF (o:=.lst []) hb)
      have hD2:(upd (upd H1 D (.lst ys)) b (.lst [])) D=some (.lst ys):=zF hb _ _ zG
      refine⟨D,b,ys,rfl,rfl,SqL.of hD2,SqL.of zG,_,rfl,?_⟩
      generalize upd (upd H1 D (.lst ys)) b (.lst [])=H5 at sb ⊢
      have s5:=s1.trans sb
      cases hall:ms.all zDA with
      | false=>
       have hne:ys≠[]:=fun z=>by rw[hy.mp z] at hall;cases hall
       refine ifT (by cases ys with | nil=>exact absurd rfl hne | cons _ _=>rfl) (bad H5 s5 (noN fun nu=>.inl fun z=>?_))
       rw[PyData.tuple.inj z,zDx] at hall
       cases hall
      | true=>
       obtain rfl:=hy.mpr hall
       refine ifF (by rfl) ?_
       obtain⟨nu,rfl⟩:=zFO hall
       have ens:=zD1 al2
       subst ens
       rw[zD] at c3
       have sh:ShOk R.length os nu:=⟨pm,c3⟩
       have hna5:=sb _ _ hna1
       have hnl:0<nu.length:=by rw[c3];exact zDz _
       refine⟨_,rfl,na,_,-1,.int (nu.getD (nu.length-1) 0),rfl,rfl,SqT.of hna5,zJI hnl,rfl,_,rfl,?_⟩
       by_cases hz:nu.getD (2 ^ R.length-1) 0=0
       case neg=>exact ifT (by have hz:=hz;rw[zC] at hz;rw[c3];simp[hz]) (out _ _ _ H5 (.good os nu rfl sh (.last hz)) s5 .non)
       refine ifF (by rw[c3,hz];rfl) ?_
       refine⟨_,rfl,_,rfl,sl,na,R,nu,rfl,ST.same s5,N,hna5,c3,fun le H6 s6=>?_,fun p t h H6 st s6 h6=>?_⟩
       . have s56:=s5.trans s6
         refine⟨_,rfl,rfl,_,rfl,ifF (by rfl) ?_⟩
         refine⟨_,rfl,na,_,_,.int (nu.getD 0 0),rfl,rfl,SqT.of (s6 _ _ hna5),at0 hnl,?_⟩
         obtain⟨oa,rfl,hoa⟩:∃oa,vx = .ref oa/\H oa=some (.tup ((nI os).map V.int)):=by
          cases Sx with
          | tup h1 a1=>rw[zD1 a1] at h1;exact⟨_,rfl,h1⟩
         obtain⟨nd,lt,ln,_⟩:=zFH pm
         refine⟨_,rfl,_,rfl,a,_,_,.ref oa,rfl,rfl,SqT.of (s56 _ _ ha),rfl,sl,oa,R,os,rfl,ST.same s56,N,s56 _ _ hoa,lt,by omega,fun H7 s7=>?_⟩
         refine⟨rfl,_,rfl,?_⟩
         by_cases he:nu.getD 0 0=(inA R 0 os:Nat)
         . refine ifT (zP (by rw[he])) ⟨by show 0<=sizeLine;decide,fun p hp=>?_⟩
           exact k none p _ (.good os nu rfl sh (.none hz le he)) ((s56.trans s7).trans (zF hp)) (.tup zG .nil)
         . exact ifF (zb fun z=>he (V.int.inj z)) (out _ _ _ H7 (.good os nu rfl sh (.start hz le he)) (s56.trans s7) .non)
       . refine⟨_,rfl,rfl,_,rfl,ifT (by rfl) ?_⟩
         exact⟨_,rfl,out _ _ _ H6 (.good os nu rfl sh (.step t h hz st)) (s5.trans s6) (.tup h6 (.cons (.int _) (.cons (.int _) .nil)))⟩
theorem zHZ {x:Str}(h:x.length<=12)(ok:PyData.strOk x=true):Fn 100 0 (.str x):=by
 refine⟨?_,zH _,?_,rfl,rfl⟩
 . simp only[PyData.weight]
   have:x.cps.size=x.length:=rfl
   omega
 . simp only[PyData.canLay0];exact ok
theorem zIu {st:Stmt}{u u':TS}(h:PS X st u)(m:∀D σ H,u' D σ H->u D σ H):PS X st u':=fun pins s σ H D I q=>h pins s σ H D I (m D σ H q)
structure E35 (K:PySem.W.Frag)(mg:sOV)(cW cL cT:Addr)(cs:List Addr):Prop where
 mW:mg "WayError" = some (.ref cW)
 qW:PySem.W.excIn K cW bmV "ValueError.__new__" = true
 mL:mg "NoLeast" = some (.ref cL)
 mT:mg "TooMany" = some (.ref cT)
 qT:PySem.W.excIn K cT bmV "ValueError.__new__" = true
 sL:L2.subIn K cL cW=true
 sT:L2.subIn K cT cW=true
 xL:zDF K cL
 xT:zDF K cT
 ms:[mg "NoLabels",mg "NoOrder",mg "NoPart",mg "NoPlan",mg "NoPosts",mg "NoRing",mg "NoRow",mg "NoText",mg "NoTie",mg "NoTree"]=cs.map fun c=>some (.ref c)
 kL:PySem.W.kitAny K (.ref cL) (cs.map Value.ref)=some false
 kT:PySem.W.kitAny K (.ref cT) (cs.map Value.ref)=some false
 kLL:PySem.W.kitOne K (.ref cL) (.ref cL)=some true
 kLT:PySem.W.kitOne K (.ref cL) (.ref cT)=some false
 kTT:PySem.W.kitOne K (.ref cT) (.ref cT)=some true
 kTL:PySem.W.kitOne K (.ref cT) (.ref cL)=some false
 kV:PySem.W.kitOne K (.ref cL) (.type "ValueError")=some true
 n1:PySem.W.findIn K (.ref cL) "word" = some none
 n2:PySem.W.findIn K (.ref cL) "at" = some none
inductive zFi (R:List (List Int))(n:Nat)(d:PyData):PyData->Prop
 | many:8<n->zFi R n d (.tuple [.str "many"])
 | flt (f:Option (Str×PyData)):n<=8->zCR R n d f->zFi R n d (fD f)
theorem zFi.uniq {R:List (List Int)}{n:Nat}{d a b:PyData}(x:zFi R n d a)(y:zFi R n d b):a=b:=by
 cases x with
 | many h=>cases y with
  | many _=>rfl
  | flt _ h' _=>omega
 | flt f h g=>cases y with
  | many _=>omega
  | flt _ _ g'=>rw[g.uniq g']
noncomputable def resD:PyData->PyData
 | .tuple []=>.bool true
 | d=>d
theorem fn2 {a b:PyData}{n p:Nat}(ha:Fn n p a)(hb:Fn n p b):Fn (2*(n+1)) (p+1) (.tuple [a,b]):=zEQ (fun d hd=>by
 simp only[zY,List.not_mem_nil,or_false] at hd
 rcases hd with rfl | rfl
 . exact ha
 . exact hb) (zH 2)
theorem zFi.tup {n:Nat}{a:PyData}(x:zFi R n d a):Fn 1048576 50 a/\∃ds,a = .tuple ds:=by
 have key:∀(y:Str)(e:PyData),y.length<=12->PyData.strOk y=true->Fn 100 1 e->Fn 1048576 50 (.tuple [.str y,e]):=fun y e h1 h2 h3=>(fn2 ((zHZ h1 h2).mono (zH _) (zi _)) h3).mono (by decide) (by decide)
 cases x with
 | many _=>exact⟨(zEQ (n:=100) (p:=0) (L:=1) (ds:=[.str "many"]) (fun d hd=>by rw[zj.mp hd];exact zHZ (by decide) (by decide +kernel)) (zH 1)).mono (by decide) (by decide),_,rfl⟩
 | flt f n8 g=>
  have p8:=zCt n8
  cases g with
  | shape _=>exact⟨key _ _ (by decide) (by decide +kernel) (zER.mono (by decide) (by decide)),_,rfl⟩
  | good os nu e s fl=>cases fl with
   | last _=>exact⟨key _ _ (by decide) (by decide +kernel) (zER.mono (by decide) (by decide)),_,rfl⟩
   | step t h _ st=>
    have:=st.lt
    have:=(zBX.mp st.fr).1
    exact⟨key _ _ (by decide) (by decide +kernel) ((fn2 (n:=30) (p:=0) (zE1 (by omega)) (zE1 (by omega))).mono (by decide) (by decide)),_,rfl⟩
   | start _ _ _=>exact⟨key _ _ (by decide) (by decide +kernel) (zER.mono (by decide) (by decide)),_,rfl⟩
   | none _ _ _=>exact⟨(zEQ (n:=0) (p:=0) (L:=0) (ds:=[]) (fun d hd=>by cases hd) (zH 0)).mono (by decide) (by decide),_,rfl⟩
noncomputable def zMB (PT:Addr):Sp:=fun vs H Q _=>∃(wa:Addr)(v:V)(d:PyData)(n:Nat)(ts:List T3)(R:List (List Int)),vs=[.ref wa,v]/\zNR PT H wa v d n ts R/\∀(dd:PyData)(u:V)(H':Hp),zFi R n d dd->SmP PT H H'->Tb H' PT->zBA H' u (resD dd)->Q u H'
noncomputable def spRi (PT:Addr):Sp:=fun vs H Q _=>∃(wa sl:Addr)(v:V)(d:PyData)(n:Nat)(ts:List T3)(R:List (List Int)),vs=[.ref wa,.ref sl,v]/\zNR PT H wa v d n ts R/\zBi H sl R/\Fn 1048576 50 d/\(n<=8->S64 d)/\∀H',SmP PT H H'->Tb H' PT->Q (.bl true) H'
noncomputable def tDue:TS:=fun D σ H=>∃(wa ta sl:Addr)(v q0:V)(d:PyData)(n:Nat)(R:List (List Int)),σ=[some (.ref wa),some (.ref sl),some v,some q0,none]/\H wa=some (.tup [.int n,.ref ta])/\zBA H q0 (.tuple [.str "many"])/\zBi H sl R/\(n<=8->NN R)/\R.length=n/\1<=n/\zBA H v d/\(n<=8->S64 d) /\
 ∀(q:V)(dd:PyData)(H':Hp),zFi R n d dd->zAo H H'->zBA H' q dd->D.nx [some (.ref wa),some (.ref sl),some v,some q,none] H'
theorem zFu:zAD ["_law_web_here", "_law_thing", "_law_found", "e", "_law_others"] ["_law_web_here", "_law_thing"] (defScope sFou):=fS0
theorem ok_fou {cW cL c1 c2 c3 c4 c5 c6 c7 c8 c9 c10:Addr}(F:Fun K "_law_least_found" "_law_least_found" sFou f fd') (Er:E35 K mg cW cL cT [c1,c2,c3,c4,c5,c6,c7,c8,c9,c10])(EI:zHh K cL fI)
 (FL:FuB K mg "lets_least" zIn fL fdL ["web","thing"]) (GL:zAe P w K mg base (CXI P w) m fL fdL ["web", "thing"] (zIb PT cL cT)) (mIsi:mg "isinstance" = none) (mVal:mg "ValueError" = none):zAe P w K mg base CX0 (m+1) f fd' ["_law_web_here", "_law_thing"] (zMB PT):=by
 obtain⟨h1,h2,h3,h4,h5,h6,h7,h8,h9,h10⟩:mg "NoLabels" = some (.ref c1)/\mg "NoOrder" = some (.ref c2)/\mg "NoPart" = some (.ref c3)/\mg "NoPlan" = some (.ref c4)/\mg "NoPosts" = some (.ref c5)/\mg "NoRing" = some (.ref c6)/\mg "NoRow" = some (.ref c7)/\mg "NoText" = some (.ref c8)/\mg "NoTie" = some (.ref c9)/\mg "NoTree" = some (.ref c10):=by
  have:=Er.ms
  simpa using this
 have qL:zNH K cL=true:=by unfold zNH;rw[EI.cl];rfl
 have qT:zNH K cT=true:=by unfold zNH;rw[Er.qT,Bool.or_true]
 refine F.okD zFu fun _ A _ _ H vs Q E hr h=>?_
 obtain⟨wa,v,d,n,ts,R,rfl,L,k⟩:=h
 refine⟨_,zO (zAn (i:=2) zFu.nd zCE)
  (zO (zMW (i:=3) zFu.nd rfl rfl rfl rfl rfl Er.mW Er.qW (zMV (i:=2) zFu.nd rfl (Or.inl rfl) GL hr rfl FL.m FL.F.kp FL.b (zE (pv 0) (zE (pv 1) zM)))
   (fun ea oe c hc=>zO (zAn (i:=4) zFu.nd (zt (zFc (zDb hc)) mIsi (zE (pv 3) (zE (zAf (zMd (.cons (zBu (v:=.ref c1) rfl h1 rfl) (.cons (zBu (v:=.ref c2) rfl h2 rfl) (.cons (zBu (v:=.ref c3) rfl h3 rfl) (.cons (zBu (v:=.ref c4) rfl h4 rfl) (.cons (zBu (v:=.ref c5) rfl h5 rfl) (.cons (zBu (v:=.ref c6) rfl h6 rfl)
    (.cons (zBu (v:=.ref c7) rfl h7 rfl) (.cons (zBu (v:=.ref c8) rfl h8 rfl) (.cons (zBu (v:=.ref c9) rfl h9 rfl) (.cons (zBu (v:=.ref c10) rfl h10 rfl) .nil)))))))))))) zM))))
    (zO (zAn (i:=2) zFu.nd (zAf (zE zCE zM)))
    (zO (zBN (PW.pt (zDi (zBR (zt (zCV (zDb hc)) mIsi (zE (pv 3) (zE (zBu (v:=.ref cT) rfl Er.mT rfl) zM)))) (zDi (zBx (zBR (zt (zCV (zDb hc)) mIsi (zE (pv 3) (zE (zBu (v:=.ref cL) rfl Er.mL rfl) zM))))) (zD6 (zBx (zBR (pv 4)))))))
     (zg (zAn (i:=2) zFu.nd (zAf (zE zCE zM)))) zAQ)
    (zg (zBN (PW.pt (zDi (zBR (zt (zCV (zDb hc)) mIsi (zE (pv 3) (zE (zBu (v:=.ref cL) rfl Er.mL rfl) zM)))) (zDi (zBR (zt (zFd (zDb hc)) mIsi (zE (pv 3) (zE (zCo (T := "ValueError") mVal) zM)))) (zDi (zBx (zBR (zt (zCV (zDb hc)) mIsi (zE (pv 3) (zE (zBu (v:=.ref cT) rfl Er.mT rfl) zM))))) (zD6 (zBx (zBR (pv 4))))))))
     (zg (zAn (i:=2) zFu.nd (zAf (zE (zIz (pv 3)) (zE (zIz (pv 3)) zM))))) zAQ))))))
  (zg (zAF (pv 2)))),?_⟩
 refine⟨_,rfl,_,rfl,wa,v,d,n,ts,R,rfl,L,fun n8=>?_,fun n8 fo H' s' T'=>⟨_,rfl,k _ _ H' (.flt none n8 fo) s' T' (.bl true)⟩,fun n8 x e u dx H' fo s' T' Su hdx=>?_⟩
 . refine⟨cT,rfl,qT,Er.sT,fun ea oe ws hc hd hf hea=>?_⟩
   refine⟨_,rfl,(by show 10<=sizeLine;decide),fun p hp=>?_⟩
   refine⟨p,[c1,c2,c3,c4,c5,c6,c7,c8,c9,c10],false,Er.xT,rfl,zG,Er.kT,?_⟩
   have s1:=zF (o:=.tup ([c1,c2,c3,c4,c5,c6,c7,c8,c9,c10].map V.ref)) hp
   refine⟨by show 1<=sizeLine;decide,fun p3 hp3=>?_⟩
   have s3:=s1.trans (zF (o:=.tup [.str "class"]) hp3)
   refine⟨_,rfl,cT,true,Er.xT,rfl,Er.kTT,true,rfl,zCZ ?_⟩
   refine⟨_,rfl,cL,false,Er.xT,rfl,Er.kTL,false,rfl,zCZ ?_⟩
   refine⟨_,rfl,false,rfl,zCZ ?_⟩
   refine⟨by show 1<=sizeLine;decide,fun p4 hp4=>?_⟩
   have s4:=s3.trans (zF (o:=.tup [.str "many"]) hp4)
   refine⟨_,rfl,cL,false,Er.xT,rfl,Er.kTL,false,rfl,zCe (zCe ?_)⟩
   exact⟨_,rfl,k _ _ _ (.many n8) (SmP.of s4) (L.tb.same s4) (.tup zG (.cons (.str _) .nil))⟩
 . refine⟨cL,rfl,qL,Er.sL,fun ea oe ws hc hd hf hea=>?_⟩
   refine⟨_,rfl,(by show 10<=sizeLine;decide),fun p hp=>?_⟩
   refine⟨p,[c1,c2,c3,c4,c5,c6,c7,c8,c9,c10],false,Er.xL,rfl,zG,Er.kL,?_⟩
   have s1:=zF (o:=.tup ([c1,c2,c3,c4,c5,c6,c7,c8,c9,c10].map V.ref)) hp
   refine⟨by show 1<=sizeLine;decide,fun p3 hp3=>?_⟩
   have s3:=s1.trans (zF (o:=.tup [.str "class"]) hp3)
   refine⟨_,rfl,cT,false,Er.xL,rfl,Er.kLT,false,rfl,zCe (zCe ?_)⟩
   refine⟨_,rfl,cL,true,Er.xL,rfl,Er.kLL,true,rfl,zCZ ?_⟩
   refine⟨_,rfl, "ValueError",true,Er.xL,rfl,Er.kV,true,rfl,zCZ ?_⟩
   refine⟨_,rfl,cT,false,Er.xL,rfl,Er.kLT,false,rfl,zCZ ?_⟩
   refine⟨_,rfl,false,rfl,zCZ ?_⟩
   refine⟨_,rfl,ea,cL,dx,_,.str x,rfl,zJX hc hd hf,EI.cl,Er.xL,Er.n1,s3 _ _ hdx,rfl,_,rfl,ea,cL,dx,_,u,rfl,zJX hc hd hf,EI.cl,Er.xL,Er.n2,s3 _ _ hdx,rfl,by show 2<=sizeLine;decide,fun p4 hp4=>?_⟩
   have s4:=s3.trans (zF (o:=.tup [.str x,u]) hp4)
   exact⟨_,rfl,k _ _ _ (.flt _ n8 fo) (s'.trans (SmP.of s4)) (T'.same s4) (.tup zG (.cons (.str _) (.cons (zAy s4 Su) .nil)))⟩
theorem scRi:zAD ["_law_web_here", "_law_masks_here", "_law_thing", "_law_due", "_law_kept"] ["_law_web_here", "_law_masks_here", "_law_thing"] (defScope zHH):=fS0
theorem ok_ri {fX:Addr}{fdX:FuncData}(F:Fun K "_law_right" "_law_right" zHH f fd') (FX:FuB K mg "_law_least_fault" zIm fX fdX ["_law_masks_here","_law_thing"]) (GX:zAe P w K mg base CX0 m fX fdX ["_law_masks_here", "_law_thing"] zIa)
 (FF:FuB K mg "_law_least_found" sFou fF fdF ["_law_web_here","_law_thing"]) (GF:zAe P w K mg base CX0 m fF fdF ["_law_web_here", "_law_thing"] (zMB PT)) (mRepr:mg "repr" = none):zAe P w K mg base CX0 (m+1) f fd' ["_law_web_here", "_law_masks_here", "_law_thing"] (spRi PT):=by
 refine F.okD scRi fun _ A _ _ H vs Q E hr h=>?_
 obtain⟨wa,sl,v,d,n,ts,R,rfl,L,ST,fn,s64,k⟩:=h
 have hu:=zK3 hr
 obtain⟨ta,tys,hwa,_,_,G⟩:=id L.wb
 have hn1:=G.n1
 refine⟨_,zO (zAn (i:=3) scRi.nd (zAf (zE zCE zM)))
  (zO (zIu (u':=tDue) (zBN (zAC zI3 (zAG zAY (pv 0) ze) ze (zAI _)) (zg (zAn (i:=3) scRi.nd (zAa GX hr FX (zE (pv 1) (zE (pv 2) zM))))) zAQ) ?due)
  (zO (zAn (i:=4) scRi.nd (zt (zDX hr) mRepr (zE (pv 2) zM)))
  (zg (zAF (zD9 (zCO zCI (zt (zDX hr) mRepr (zE (zAa GF hr FF (zE (pv 0) (zE (pv 2) zM))) zM)) (zt (zDX hr) mRepr (zE (zCJ (zAC (zMf (Nat.lt_of_succ_lt hu)) (pv 3) (zAf zM) (zAI _)) zEc (pv 3)) zM)) (zAI _))
   (zEr (zCO zCI (zt (zDX hr) mRepr (zE (pv 2) zM)) (pv 4) (zAI _)))))))),?_⟩
 case due=>
  rintro D σ H1 ⟨wa,ta,sl,v,q0,d,n,R,rfl,hwa,S0,ST,NR,hRl,hn,Sd,s64,kk⟩
  refine⟨_,rfl,wa,_,_,_,rfl,rfl,SqT.of hwa,rfl,_,_,rfl,rfl,_,rfl,zDq (fun c=>?_) (fun c=>?_)⟩
  . have c:=of_decide_eq_true c
    have n8:n<=8:=by omega
    subst hRl
    refine⟨_,rfl,_,rfl,sl,v,d,R,rfl,ST,NR n8,hn,Sd,s64 n8,fun fo q H2 hfo s2 S2=>?_⟩
    exact kk _ _ H2 (.flt fo n8 hfo) s2 S2
  . have c:¬ _:=fun z=>c (zP z)
    exact kk _ _ H1 (.many (by omega)) (zAo.refl _) S0
 refine⟨by show 1<=sizeLine;decide,fun p hp=>?_⟩
 have s1:=zF (o:=.tup [.str "many"]) hp
 refine⟨wa,ta,sl,v,.ref p,d,n,R,rfl,s1 _ _ hwa,.tup zG (.cons (.str _) .nil),ST.same s1,fun n8=>L.sr.nn (by omega),by rw[L.sr.rl];omega,by omega,zAy s1 L.th,s64,fun q dd H2 hdd s2 S2=>?_⟩
 generalize upd H p (.tup [.str "many"])=H1 at s1 s2
 have s02:=s1.trans s2
 refine⟨_,rfl,_,_,rfl,zAy s02 L.th,fn,?_⟩
 refine⟨_,rfl,_,rfl,wa,v,d,n,ts,R,rfl,⟨L.wb.keep s02,zAy s02 L.th,L.sr,L.tb.same s02⟩,fun d2 u H3 hd2 sm3 T3 S3=>?_⟩
 obtain rfl:=hdd.uniq hd2
 obtain⟨fd,ds,rfl⟩:=hdd.tup
 have sm:=(SmP.of (P:=PT) s02).trans sm3
 obtain⟨qa,xs,rfl,hq,al⟩:∃qa xs,q = .ref qa/\H2 qa=some (.tup xs)/\zA1 H2 xs ds:=by
  cases S2 with
  | tup e al=>exact⟨_,_,rfl,e,al⟩
 have hq3:H3 qa=some (.tup xs):=sm3.get hq (by intro ps z;cases z)
 have S3':=zDI sm3 S2
 cases ds with
 | nil=>
  cases al
  refine⟨_,_,rfl,S3,(zGw _).mono (by decide) (by decide),?_⟩
  refine⟨_,rfl,by show 0<=sizeLine;decide,fun p4 hp4=>?_⟩
  have s4:=zF (o:=.tup []) hp4
  refine⟨qa,p4,[],rfl,rfl,SqT.of (s4 _ _ hq3),SqT.of zG,?_⟩
  refine⟨_,rfl,zCZ ?_⟩
  refine⟨_,_,rfl,.bl _,(zGw _).mono (by decide) (by decide),?_⟩
  refine⟨rfl,_,rfl,ifT (by simp[resD]) ?_⟩
  refine⟨_,rfl,_,_,rfl,zAy s4 (zDI sm L.th),fn,_,rfl,rfl,?_⟩
  rw[zP rfl]
  exact k _ (sm.trans (SmP.of s4)) (T3.same s4)
 | cons x ds=>
  have er:resD (.tuple (x::ds)) = .tuple (x::ds):=rfl
  rw[er] at S3
  cases al with
  | @cons v0 xs' _ _ a0 al=>
  refine⟨_,_,rfl,S3,fd,?_⟩
  refine⟨_,rfl,by show 0<=sizeLine;decide,fun p4 hp4=>?_⟩
  have s4:=zF (o:=.tup []) hp4
  refine⟨qa,p4,v0::xs',rfl,rfl,SqT.of (s4 _ _ hq3),SqT.of zG,?_⟩
  refine⟨_,rfl,zCe ?_⟩
  refine⟨_,rfl,_,_,rfl,zAy s4 S3',fd,?_⟩
  refine⟨rfl,_,rfl,ifT (zP rfl) ?_⟩
  refine⟨_,rfl,_,_,rfl,zAy s4 (zDI sm L.th),fn,_,rfl,rfl,?_⟩
  rw[zP rfl]
  exact k _ (sm.trans (SmP.of s4)) (T3.same s4)
section
variable {X:Cx}{ι : Type}{Pp : ι -> St->Hp->Prop}{Rr : ι -> Hp->V->Prop}
noncomputable def tEl {ι : Type}(Pp : ι -> St->Hp->Prop)(Rr : ι -> Hp->V->Prop):TE:=fun σ H Q=>∃i,Pp i σ H/\∀v H',zAo H H'->Rr i H' v->Q v H'
inductive ElL {ι : Type}(X:Cx)(Pp : ι -> St->Hp->Prop)(Rr : ι -> Hp->V->Prop):List Expr->Prop
 | nil:ElL X Pp Rr []
 | cons {e:Expr}{es:List Expr}(he:PE X e (tEl Pp Rr))(h:ElL X Pp Rr es)(hs:starEach (e::es) X.env=(false,eval e X.env)::starEach es X.env:=by rfl):ElL X Pp Rr (e::es)
noncomputable def tEls {ι : Type}(Pp : ι -> St->Hp->Prop)(Rr : ι -> Hp->V->Prop)(m:Nat):TA:=fun σ H Q=>∃i,Pp i σ H/\∀(vs:List V) H',zAo H H'->vs.length=m->(∀v∈vs,Rr i H' v)->Q vs H'
theorem zHw {es:List Expr}(kp:∀i σ H H',zAo H H'->Pp i σ H->Pp i σ H')(kr:∀i H H' v,zAo H H'->Rr i H v->Rr i H' v)(h:ElL X Pp Rr es):PA X es (tEls Pp Rr es.length):=by
 induction h with
 | nil=>exact fun pos pins s σ H Q I ⟨i,_,q⟩=>zM pos pins s σ H Q I (q [] H (zAo.refl _) rfl (fun v hv=>by cases hv))
 | @cons e es he _ hs ih=>
  intro pos pins s σ H Q I q
  obtain⟨i,a,q⟩:=q
  refine (zE he ih hs) pos pins s σ H Q I ?_
  refine⟨i,a,fun v H1 s1 o1=>⟨i,kp _ _ _ _ s1 a,fun vs H2 s2 hl al=>?_⟩⟩
  refine q (v::vs) H2 (s1.trans s2) (by rw[zT,hl];rfl) fun x hx=>?_
  rcases zY.mp hx with rfl | hx
  . exact kr _ _ _ _ s2 o1
  . exact al x hx
theorem zMi:OpR X (binaryOp .Add) (fun x y H Q=>∃j z:Int,y = .int j/\((∃i,x = .int i/\z=i+j)\/∃k,x = .bl k/\z=(if k=true then (1:Int) else 0)+j)/\Q (.int z) H):=by
 intro pins s σ H x y v u Q I rx ry h
 obtain⟨j,z,rfl,h,q⟩:=h
 rcases h with ⟨i,rfl,rfl⟩ | ⟨k,rfl,rfl⟩
 . exact zBd pins s σ H _ _ v u Q I rx ry ⟨i,j,rfl,rfl,q⟩
 . cases rx
   obtain⟨t,rfl⟩:=ry
   exact PySem.IntBool.add_bool_int ⟨.int _,H,I.tok _,⟨_,rfl⟩,q⟩
end
inductive Ev (H:Hp)(b:Nat):V->Prop
 | non:Ev H b .non
 | bl (c:Bool):Ev H b (.bl c)
 | str:Ev H b (.str "0")
 | tup (a:Addr):H a=some (.tup [.int 0])->Ev H b (.ref a)
 | int (i:Int):i.natAbs<=b->Ev H b (.int i)
variable {b:Nat}
theorem Ev.keep {c:Nat}{x:V}(h:Ev H b x)(hb:b<=c)(k:∀a ys,H a=some (.tup ys)->H' a=some (.tup ys)):Ev H' c x:=by
 cases h with
 | non=>exact .non
 | bl c=>exact .bl c
 | str=>exact .str
 | tup a e=>exact .tup a (k _ _ e)
 | int i hi=>exact .int i (by omega)
theorem Ev.isInt {x:V}(h:Ev H b x):∃t c,zGg K H x t/\PySem.W.kitOne K t (.type "int")=some c/\(c=true->(∃i,x = .int i/\i.natAbs<=b)\/∃q,x = .bl q):=by
 cases h with
 | non=>exact⟨_,_,.non,rfl,fun z=>by cases z⟩
 | bl c=>exact⟨_,_,.bl c,rfl,fun _=>.inr ⟨c,rfl⟩⟩
 | str=>exact⟨_,_,.str _,rfl,fun z=>by cases z⟩
 | tup a e=>exact⟨_,_,.tup e,rfl,fun z=>by cases z⟩
 | int i hi=>exact⟨_,_,.int i,rfl,fun _=>.inl ⟨i,rfl,hi⟩⟩
theorem zCz {lo hi:Option Int}{x:V}(h:x∈zC0 xs lo hi):x∈xs:=List.mem_of_mem_drop (zBQ h)
theorem zFY {y:V}:((zC0 xs none (some (m:Int))++[y])++zC0 xs (some ((m:Int)+1)) none).length<=xs.length+1/\∀x∈(zC0 xs none (some (m:Int))++[y])++zC0 xs (some ((m:Int)+1)) none,x=y\/x∈xs:=by
 refine⟨?_,fun x hx=>?_⟩
 . rw[zGL,show (m:Int)+1=((m+1:Nat):Int) by omega,zJv,zL,zL,zl,List.length_drop,zA2]
   omega
 . rcases zn.mp hx with hx | hx
   . rcases zn.mp hx with hx | hx
     . exact .inr (zCz hx)
     . exact .inl (zj.mp hx)
   . exact .inr (zCz hx)
noncomputable def zLd:Sp:=fun vs H Q _=>∃(t a:Addr)(N b:Nat)(xs:List V),vs=[.ref t,.ref a]/\zAN H t N/\N<800000/\H a=some (.tup xs)/\1<=xs.length/\xs.length<=1000/\(∀x∈xs,Ev H b x)/\1<=b /\
 ∀(a':Addr)(ys:List V)(H':Hp),Sm t H H'->zAN H' t (N+3)->H' a'=some (.tup ys)->ys.length<=xs.length+1->(∀y∈ys,Ev H' (b+1000) y)->Q (.ref a') H'
noncomputable def tAt:TS:=fun D σ H=>∃(t a:Addr)(m:Nat)(wv:Int)(xs:List V),σ=[some (.ref t),some (.ref a),some (.int m),some (.int wv),none]/\H a=some (.tup xs)/\m<xs.length/\∀m':Nat,m'<xs.length->D.nx [some (.ref t),some (.ref a),some (.int m'),some (.int wv),none] H
variable {ys:List V}
theorem zAN.neT {t b:Addr}(h:zAN H t N)(hb:H b=some (.tup ys)):b≠t:=by
 obtain⟨p,ns,spot,rest,a,_⟩:=h
 exact zBv hb a (by intro z;cases z)
theorem zEo:zAD ["_law_tape_here", "_law_numbers", "_law_at", "_law_way", "_law_change"] ["_law_tape_here", "_law_numbers"] (defScope zKd):=fS0
theorem zMz {fD:Addr}(F:Fun K "_law_numbers_bent" "_law_numbers_bent" zKd f fd') (FD:FuB K mg "_law_draw" zEa fD fdD ["_law_tape_here","_law_many"]) (mLen:mg "len" = none) (mIsi:mg "isinstance" = none) (mInt:mg "int" = none) :
 zAe P w K mg base CX0 2 f fd' ["_law_tape_here", "_law_numbers"] zLd:=by
 have GD:zAe P w K mg base CX0 1 fD fdD ["_law_tape_here", "_law_many"] zFp:=zFN FD.F mLen
 refine F.okD zEo fun _ A _ _ H vs Q E hr h=>?_
 obtain⟨t,a,N,b,xs,rfl,T0,hN,ha,h1,h1000,ev,b1,k⟩:=h
 refine⟨_,zO (zAn (i:=2) zEo.nd (zAa GD hr FD (zE (pv 0) (zE (zt zAE mLen (zE (pv 1) zM)) zM))))
  (zO (zAn (i:=3) zEo.nd (zAa GD hr FD (zE (pv 0) (zE ze zM))))
  (zO (zBN (zAC zCI (pv 3) ze (zAI _)) (zg (zAF (zAS zCv (pv 1) (zAf (zE ze zM))))) zAQ)
  (zO (zBN (zAC zCI (pv 3) ze (zAI _)) (zg (zAF (zBc zCX (pv 1) zB7 (zB6 (zBe (zDp zCm ze) (fun σ H Q q=>⟨1,rfl,q⟩)))))) zAQ)
  (zO (zBN (zAC zCI (pv 3) ze (zAI _)) (zg (zAF (zAS zCv (zAS zCv (zBc zCX (pv 1) zB7 (zB6 (pv 2))) (zAf (zE (zAG zAb (zBy (zHw (Pp:=fun (_:Unit) _ _=>True) (Rr:=fun _ H v=>Ev H 0 v) (fun _ _ _ _ _ _=>trivial) (fun _ H H' v s e=>e.keep (zH _) fun a ys z=>s _ _ z)
   (.cons (zBe zBF (fun σ H Q ⟨_,_,q⟩=>q _ _ (zAo.refl _) .non)) (.cons (zBe zEc (fun σ H Q ⟨_,_,q⟩=>q _ _ (zAo.refl _) (.bl _))) (.cons (zBe zEc (fun σ H Q ⟨_,_,q⟩=>q _ _ (zAo.refl _) (.bl _))) (.cons (zBe zCE (fun σ H Q ⟨_,_,q⟩=>q _ _ (zAo.refl _) .str)) (.cons (zBe (zAf (zE ze zM)) (fun σ H Q ⟨_,_,q⟩=>⟨by show 1<=sizeLine;decide,fun p hp=>q _ _ (zF hp) (.tup p zG)⟩)) .nil)))))))
   (zAa GD hr FD (zE (pv 0) (zE ze zM)))) zM))) (zBc zCX (pv 1) (zB6 (zAS zBd (pv 2) ze)) zB7)))) zAQ)
  (zO (zIu (u':=tAt) (zBN (zAC zCI (pv 3) ze (zAI _)) (zg (zAn (i:=2) zEo.nd (zAS zI1 (zt zAE mLen (zE (pv 1) zM)) ze))) zAQ) ?a3)
  (zO (zIu (u':=tAt) (zBN (zAC zCI (pv 3) ze (zAI _)) (zg (zAn (i:=2) zEo.nd ze)) zAQ) ?a4)
  (zO (zBN (zBx (zBR (zt zBg mIsi (zE (zAG zAY (pv 1) (pv 2)) (zE (zCo (T := "int") mInt) zM))))) (zg (zAF (pv 1))) zAQ)
  (zO (zAn (i:=4) zEo.nd (zAG zAb (zBy (zHw (Pp:=fun (_:Unit) _ _=>True) (Rr:=fun _ _ v=>∃i:Int,v = .int i/\i.natAbs<=1000) (fun _ _ _ _ _ _=>trivial) (fun _ _ _ _ _ e=>e)
   (.cons (zBe ze (fun σ H Q ⟨_,_,q⟩=>q _ _ (zAo.refl _) ⟨1,rfl,by decide⟩)) (.cons (zBe (zDp zCm ze) (fun σ H Q ⟨_,_,q⟩=>⟨1,rfl,q _ _ (zAo.refl _) ⟨-1,rfl,by decide⟩⟩)) (.cons (zBe ze (fun σ H Q ⟨_,_,q⟩=>q _ _ (zAo.refl _) ⟨2,rfl,by decide⟩)) (.cons (zBe (zDp zCm ze) (fun σ H Q ⟨_,_,q⟩=>⟨2,rfl,q _ _ (zAo.refl _) ⟨-2,rfl,by decide⟩⟩))
    (.cons (zBe (zDp zCm ze) (fun σ H Q ⟨_,_,q⟩=>⟨1000,rfl,q _ _ (zAo.refl _) ⟨-1000,rfl,by decide⟩⟩)) (.cons (zBe ze (fun σ H Q ⟨_,_,q⟩=>q _ _ (zAo.refl _) ⟨1000,rfl,by decide⟩)) .nil))))))))
   (zAa GD hr FD (zE (pv 0) (zE ze zM)))))
  (zg (zAF (zAS zCv (zAS zCv (zBc zCX (pv 1) zB7 (zB6 (pv 2))) (zAf (zE (zAS zMi (zAG zAY (pv 1) (pv 2)) (pv 4)) zM))) (zBc zCX (pv 1) (zB6 (zAS zBd (pv 2) ze)) zB7)))))))))))),?_⟩
 case a3=>
  rintro D σ H1 ⟨t,a,m,wv,xs,rfl,ha,hm,kk⟩
  refine⟨_,rfl,rfl,_,rfl,zDq (fun c=>?_) (fun c=>kk m hm)⟩
  refine⟨_,rfl,a,_,rfl,.inr (SqT.of ha),_,_,rfl,rfl,?_⟩
  have:=kk (xs.length-1) (by omega)
  rw[show ((xs.length-1:Nat):Int)=(xs.length:Int)-1 by omega] at this
  exact this
 case a4=>
  rintro D σ H1 ⟨t,a,m,wv,xs,rfl,ha,hm,kk⟩
  refine⟨_,rfl,rfl,_,rfl,zDq (fun c=>kk 0 (by omega)) (fun c=>kk m hm)⟩
 refine⟨_,rfl,_,rfl,a,_,rfl,.inr (SqT.of ha),t,N,_,rfl,T0,by omega,by omega,by omega,fun r H1 r0 r1 T1 e1=>?_⟩
 obtain⟨m,rfl⟩:∃m:Nat,r=m:=⟨r.toNat,by omega⟩
 have hm:m<xs.length:=by omega
 refine⟨_,rfl,t,N+1,12,rfl,T1,by omega,by decide,by decide,fun wv H2 w0 w12 T2 e2=>?_⟩
 have sm2:Sm t H H2:=fun b o n e=>by rw[e2 b n,e1 b n];exact e
 have nat:a≠t:=T0.neT ha
 have ha2:=sm2 _ _ nat ha
 have ev1:∀x∈xs,Ev H2 b x:=fun x hx=>(ev x hx).keep (zH _) fun c ys z=>sm2 _ _ (T0.neT z) z
 have ev2:∀x∈xs,Ev H2 (b+1000) x:=fun x hx=>(ev1 x hx).keep (by omega) fun c ys z=>z
 have hs:∀j:Nat,j<=3000->j<=sizeLine:=fun j hj=>zx hj (by decide)
 refine⟨_,rfl,rfl,_,rfl,zDq (fun c=>?_) (fun c=>?_)⟩
 . refine⟨_,rfl,by show 1<=sizeLine;decide,fun p hp=>?_⟩
   refine⟨a,p,_,_,rfl,rfl,zF hp _ _ ha2,zG,hs _ (by simp;omega),fun q H3 s3 hq=>?_⟩
   have s23:=(zF (o:=.tup [.int 0]) hp).trans s3
   refine k q _ H3 (sm2.trans (Sm.of s23)) ((T2.keep s23).mono (by omega)) hq (by simp) fun y hy=>?_
   rcases zn.mp hy with hy | hy
   . exact (ev2 y hy).keep (zH _) fun c ys z=>s23 _ _ z
   . rw[zj.mp hy];exact .int 0 (by simp)
 clear c
 refine⟨_,rfl,rfl,_,rfl,zDq (fun c=>?_) (fun c=>?_)⟩
 . refine⟨_,rfl,_,rfl,a,_,rfl,ha2,fun q H3 s3 hq=>?_⟩
   exact k q _ H3 (sm2.trans (Sm.of s3)) ((T2.keep s3).mono (by omega)) hq (Nat.le_succ_of_le (zAc _ _ _)) fun y hy=>(ev2 y (zCz hy)).keep (zH _) fun c ys z=>s3 _ _ z
 clear c
 refine⟨_,rfl,rfl,_,rfl,zDq (fun c=>?_) (fun c=>?_)⟩
 . refine⟨_,rfl,_,rfl,_,rfl,a,_,rfl,ha2,fun p1 H3 s3 hp1=>?_⟩
   refine⟨(),trivial,fun vs H4 s4 hl al=>⟨hs _ (by rw[hl];decide),fun l hl'=>?_⟩⟩
   have s24:=(s3.trans s4).trans (zF (o:=.lst vs) hl')
   have T4:=T2.keep s24
   have al4:∀v∈vs,Ev (upd H4 l (.lst vs)) 0 v:=fun v hv=>(al v hv).keep (zH _) fun c ys z=>zF hl' _ _ z
   have hl4:(upd H4 l (.lst vs)) l=some (.lst vs):=zG
   have nlt:l≠t:=((T2.keep s3).keep s4).ne hl'
   have hp4:=zF (o:=.lst vs) hl' _ _ (s4 _ _ hp1)
   generalize upd H4 l (.lst vs)=H5 at s24 T4 al4 hl4 hp4 ⊢
   refine⟨_,rfl,t,N+2,5,rfl,T4,by omega,by decide,by decide,fun r H6 r0 r5 T6 e6=>?_⟩
   have sm6:Sm t H5 H6:=fun b o n e=>by rw[e6 b n];exact e
   have hr:r.toNat<vs.length:=by rw[hl];show r.toNat<5;omega
   refine⟨l,vs,r,vs[r.toNat],rfl,rfl,SqL.of (sm6 _ _ nlt hl4),by have z:=zBh (zA hr);rwa [show ((r.toNat:Nat):Int)=r by omega] at z,by show 1<=sizeLine;decide,fun p2 hp2=>?_⟩
   have sm26:=(sm2.trans (Sm.of s24)).trans sm6
   have s67:=zF (o:=.tup [vs[r.toNat]]) hp2
   refine⟨p1,p2,_,_,rfl,rfl,s67 _ _ (sm6 _ _ (T4.neT hp4) hp4),zG,hs _ (by have:=zAc xs none (some (m:Int));simp;omega),fun p3 H8 s8 hp3=>?_⟩
   have s68:=s67.trans s8
   have ha8:H8 a=some (.tup xs):=s68 _ _ (sm26 _ _ nat ha)
   refine⟨_,rfl,_,rfl,_,_,rfl,rfl,_,rfl,a,_,rfl,ha8,fun p4 H9 s9 hp4'=>?_⟩
   refine⟨p3,p4,_,_,rfl,rfl,s9 _ _ hp3,hp4',hs _ (by have:=zAc xs none (some (m:Int));have:=zAc xs (some ((m:Int)+1)) none;simp;omega),fun p5 H10 s10 hp5=>?_⟩
   have s6A:=(s68.trans s9).trans s10
   refine k p5 _ H10 (sm26.trans (Sm.of s6A)) ((T6.keep s6A).mono (by omega)) hp5 zFY.1 fun y hy=>?_
   rcases zFY.2 y hy with rfl | hy
   . exact (al4 _ (zAq hr)).keep (zi _) fun c ys z=>s6A _ _ (sm6 _ _ (T4.neT z) z)
   . exact (ev y hy).keep (by omega) fun c ys z=>s6A _ _ (sm26 _ _ (T0.neT z) z)
 clear c
 refine⟨t,a,m,wv,xs,rfl,ha2,hm,fun m hm=>?_⟩
 refine⟨t,a,m,wv,xs,rfl,ha2,hm,fun m hm=>?_⟩
 have hx:=zA hm
 have evx:=ev1 xs[m] (zAq hm)
 obtain⟨ty,ci,hty,hki,hci⟩:=evx.isInt (K:=K)
 refine⟨_,rfl,_,rfl,a,_,_,xs[m],rfl,rfl,SqT.of ha2,zBh hx,_,_,ty,ci,rfl,hty,hki,ci,rfl,?_⟩
 cases ci with
 | false=>exact zCZ ⟨_,rfl,k a xs H2 sm2 (T2.mono (by omega)) ha2 (by omega) ev2⟩
 | true=>
  refine zCe ?_
  refine⟨(),trivial,fun vs H4 s4 hl al=>⟨hs _ (by rw[hl];decide),fun l hl'=>?_⟩⟩
  have s24:=s4.trans (zF (o:=.lst vs) hl')
  have T4:=T2.keep s24
  have nlt:l≠t:=(T2.keep s4).ne hl'
  have hl4:(upd H4 l (.lst vs)) l=some (.lst vs):=zG
  generalize upd H4 l (.lst vs)=H5 at s24 T4 hl4 ⊢
  refine⟨_,rfl,t,N+2,6,rfl,T4,by omega,by decide,by decide,fun r H6 r0 r6 T6 e6=>?_⟩
  have sm6:Sm t H5 H6:=fun b o n e=>by rw[e6 b n];exact e
  have hr:r.toNat<vs.length:=by rw[hl];show r.toNat<6;omega
  obtain⟨ch,ech,hch⟩:=al vs[r.toNat] (zAq hr)
  refine⟨l,vs,r,.int ch,rfl,rfl,SqL.of (sm6 _ _ nlt hl4),by rw[show r=((r.toNat:Nat):Int) by omega,<-ech];exact zBh (zA hr),?_⟩
  have sm26:=(sm2.trans (Sm.of s24)).trans sm6
  have ha6:=sm26 _ _ nat ha
  refine⟨_,rfl,_,rfl,_,rfl,a,_,rfl,ha6,fun p1 H7 s7 hp1=>?_⟩
  obtain⟨z,hz,hor⟩:∃z:Int,z.natAbs<=b+1000/\((∃i,xs[m] = .int i/\z=i+ch)\/∃k,xs[m] = .bl k/\z=(if k=true then (1:Int) else 0)+ch):=by
   rcases hci rfl with ⟨i,ei,hi⟩ | ⟨q,eq⟩
   . exact⟨i+ch,by omega,.inl ⟨i,ei,rfl⟩⟩
   . exact⟨(if q=true then (1:Int) else 0)+ch,by cases q <;> simp <;> omega,.inr ⟨q,eq,rfl⟩⟩
  refine⟨_,rfl,_,rfl,a,_,_,xs[m],rfl,rfl,SqT.of (s7 _ _ ha6),zBh hx,_,rfl,ch,z,rfl,hor,by show 1<=sizeLine;decide,fun p2 hp2=>?_⟩
  have s78:=zF (o:=.tup [.int z]) hp2
  refine⟨p1,p2,_,_,rfl,rfl,s78 _ _ hp1,zG,hs _ (by have:=zAc xs none (some (m:Int));simp;omega),fun p3 H8 s8 hp3=>?_⟩
  have s68:=(s7.trans s78).trans s8
  refine⟨_,rfl,_,rfl,_,_,rfl,rfl,_,rfl,a,_,rfl,s68 _ _ ha6,fun p4 H9 s9 hp4'=>?_⟩
  refine⟨p3,p4,_,_,rfl,rfl,s9 _ _ hp3,hp4',hs _ (by have:=zAc xs none (some (m:Int));have:=zAc xs (some ((m:Int)+1)) none;simp;omega),fun p5 H10 s10 hp5=>?_⟩
  have s6A:=(s68.trans s9).trans s10
  refine k p5 _ H10 (sm26.trans (Sm.of s6A)) ((T6.keep s6A).mono (by omega)) hp5 zFY.1 fun y hy=>?_
  rcases zFY.2 y hy with rfl | hy
  . exact .int z hz
  . exact (ev y hy).keep (by omega) fun c ys z=>s6A _ _ (sm26 _ _ (T0.neT z) z)
theorem zHD {H:Hp}:∀l:List Int,zA1 H (l.map V.int) (l.map PyData.int)
 | []=>.nil
 | _::r=>.cons (.int _) (zHD r)
variable {L:Nat}
theorem zJh {n p:Nat}(h:∀d∈ds,Fn n p d)(hl:ds.length<=L):Fn (L*(n+1)) (p+1) (.list ds):=by
 obtain⟨a,b,c,e,f⟩:=zJi h
 refine⟨?_,?_,?_,?_,?_⟩
 . simp only[PyData.weight]
   exact zx a (Nat.mul_le_mul_right _ hl)
 . simp only[PyData.depth];omega
 . simp only[PyData.canLay0];exact c
 . simp only[PyData.intsShort];exact e
 . simp only[PyData.showable];exact f
theorem zDH {H:Hp}:∀{tys:List V}{ks:List (List Int)}(a:Nat),zAZ H tys ks->zAZ H (tys.take a) (ks.take a)/\zAZ H (tys.drop a) (ks.drop a)
 | tys,ks,0,h=>⟨trivial,h⟩
 | [],[],a+1,_=>⟨trivial,trivial⟩
 | [],_::_,_+1,h=>h.elim
 | _::_,[],_+1,h=>h.elim
 | _::_,_::_,a+1,h=>⟨⟨h.1,(zDH a h.2).1⟩,(zDH a h.2).2⟩
theorem GW.cut (g:GW n ts)(i j:Nat):GW n ((ts.drop i).take j):=
 ⟨g.n1,g.n24,zAK (by rw[zl,List.length_drop];omega) g.len,fun t ht=>g.rng t (List.mem_of_mem_drop (zBQ ht)),g.dis.sublist ((List.take_sublist _ _).trans (List.drop_sublist _ _))⟩
theorem zHo {tys:List V}(h:zAZ H tys (ts.map tl))(g:GW n ts)(lo hi:Option Int):∃ts':List T3,zAZ H (zC0 tys lo hi) (ts'.map tl)/\GW n ts'/\∀t∈ts',t∈ts:=by
 unfold zC0
 refine⟨(ts.drop (HT.sIx tys.length 0 lo)).take (HT.sIx tys.length tys.length hi-HT.sIx tys.length 0 lo),?_,GW.cut g _ _,fun t ht=>List.mem_of_mem_drop (zBQ ht)⟩
 rw[List.map_take,List.map_drop]
 exact (zDH _ (zDH _ h).2).1
noncomputable def Ln (n:Nat):Nat:=if n<=5 then 60 else 300
theorem zGZ (n:Nat):60<=Ln n:=by unfold Ln;split <;> omega
structure zEX (H H':Hp):Prop where
 tp:∀(a:Addr)(ys:List V),H a=some (.tup ys)->H' a=some (.tup ys)
 li:∀(a:Addr)(is:List Int),H a=some (.lst (is.map V.int))->H' a=some (.lst (is.map V.int))
 lr:∀(a u v:Addr),H a=some (.lst [.ref u,.ref v])->H' a=some (.lst [.ref u,.ref v])
theorem zEX.same (s:zAo H H'):zEX H H':=⟨fun _ _ e=>s _ _ e,fun _ _ e=>s _ _ e,fun _ _ _ e=>s _ _ e⟩
theorem zEX.sm {t:Addr}(T:zAN H t N)(k:Sm t H H'):zEX H H':=⟨fun _ _ e=>k _ _ (T.neT e) e,fun _ _ e=>k _ _ (zCr T e) e,fun a u v e=>k _ _ (fun z=>by
 obtain⟨p,ms,sp,re,e',_⟩:=T
 rw[z,e'] at e
 cases e) e⟩
inductive Par (H:Hp)(L:Nat):V->Prop
 | tup (a:Addr)(xs:List V):H a=some (.tup xs)->xs.length<=L->(∀x∈xs,Ev H 100000 x)->Par H L (.ref a)
 | lst (a:Addr)(is:List Int):H a=some (.lst (is.map V.int))->is.length<=300->(∀i∈is,i.natAbs<=100000)->Par H L (.ref a)
 | int (i:Int):i.natAbs<=100000->Par H L (.int i)
theorem Par.keep {H H':Hp}{L:Nat}{v:V}(h:Par H L v)(k:zEX H H'):Par H' L v:=by
 cases h with
 | tup a xs e l ev=>exact .tup a xs (k.tp _ _ e) l fun x hx=>(ev x hx).keep (zH _) k.tp
 | lst a is e l b=>exact .lst a is (k.li _ _ e) l b
 | int i hi=>exact .int i hi
inductive Thn (H:Hp)(L:Nat):V->Prop
 | tup (a:Addr)(v:V)(vs:List V):H a=some (.tup (v::vs))->Par H L v->vs.length<=2->(∀x∈vs,Par H 300 x)->Thn H L (.ref a)
 | lst (a u v:Addr):H a=some (.lst [.ref u,.ref v])->Par H 300 (.ref u)->Par H 300 (.ref v)->Thn H L (.ref a)
 | non:Thn H L .non
 | str:Thn H L (.str "least")
 | emp (a:Addr):H a=some (.tup [])->Thn H L (.ref a)
theorem Par.mono {M:Nat}(h:Par H L v)(l:L<=M):Par H M v:=by
 cases h with
 | tup a xs e l' ev=>exact .tup a xs e (by omega) ev
 | lst a is e l b=>exact .lst a is e l b
 | int i hi=>exact .int i hi
theorem Thn.keep {H H':Hp}{L:Nat}{v:V}(h:Thn H L v)(k:zEX H H'):Thn H' L v:=by
 cases h with
 | tup a v vs e p l al=>exact .tup a v vs (k.tp _ _ e) (p.keep k) l fun x hx=>(al x hx).keep k
 | lst a u v e p q=>exact .lst a u v (k.lr _ _ _ e) (p.keep k) (q.keep k)
 | non=>exact .non
 | str=>exact .str
 | emp a e=>exact .emp a (k.tp _ _ e)
theorem Ev.shows {x:V}(h:Ev H 100000 x):∃d,zBA H x d/\Fn 100 1 d:=by
 cases h with
 | non=>exact⟨_,.non,zER.mono (by decide) (by decide)⟩
 | bl c=>exact⟨_,.bl c,(zGw c).mono (by decide) (by decide)⟩
 | str=>exact⟨_,.str _,(zHZ (by decide) (by decide +kernel)).mono (by decide) (by decide)⟩
 | tup a e=>exact⟨.tuple [.int 0],.tup e (.cons (.int 0) .nil),(zEQ (n:=30) (p:=0) (L:=1) (fun d hd=>by rw[zj.mp hd];exact zE1 (by decide)) (zH _)).mono (by decide) (by decide)⟩
 | int i hi=>exact⟨_,.int i,(zE1 (by omega)).mono (by decide) (by decide)⟩
theorem zGF {H:Hp}:∀{xs:List V},(∀x∈xs,Ev H 100000 x)->∃ds,zA1 H xs ds/\ds.length=xs.length/\∀d∈ds,Fn 100 1 d
 | [],_=>⟨[],.nil,rfl,fun d hd=>by cases hd⟩
 | x::xs,h=>by
  obtain⟨d,s,f⟩:=(h x zh).shows
  obtain⟨ds,s',l,f'⟩:=zGF fun y hy=>h y (zX _ hy)
  refine⟨d::ds,.cons s s',by rw[zT,zT,l],fun e he=>?_⟩
  rcases zY.mp he with rfl | he
  . exact f
  . exact f' e he
theorem Par.shows (h:Par H L v)(hL:L<=300):∃d,zBA H v d/\Fn 31000 3 d/\∀ds,d = .tuple ds->ds.length<=L:=by
 cases h with
 | tup a xs e l ev=>
  obtain⟨ds,s,hl,f⟩:=zGF ev
  exact⟨.tuple ds,.tup e s,(zEQ (L:=300) f (by omega)).mono (by decide) (by decide),fun ds' z=>by cases z;omega⟩
 | lst a is e l b=>exact⟨.list (is.map PyData.int),.lst e (zHD is),(zJh (n:=30) (p:=0) (L:=300) (fun d hd=>by
  obtain⟨i,hi,rfl⟩:=zv.mp hd
  have:=b i hi
  exact zE1 (by omega)) (by rw[zD];exact l)).mono (by decide) (by decide),fun ds z=>by cases z⟩
 | int i hi=>exact⟨_,.int i,(zE1 (by omega)).mono (by decide) (by decide),fun ds z=>by cases z⟩
theorem zEs {H:Hp}:∀{xs:List V},(∀x∈xs,Par H 300 x)->∃ds,zA1 H xs ds/\ds.length=xs.length/\∀d∈ds,Fn 31000 3 d
 | [],_=>⟨[],.nil,rfl,fun d hd=>by cases hd⟩
 | x::xs,h=>by
  obtain⟨d,s,f,_⟩:=(h x zh).shows (zH _)
  obtain⟨ds,s',l,f'⟩:=zEs fun y hy=>h y (zX _ hy)
  refine⟨d::ds,.cons s s',by rw[zT,zT,l],fun e he=>?_⟩
  rcases zY.mp he with rfl | he
  . exact f
  . exact f' e he
theorem Thn.shows {H:Hp}{v:V}(h:Thn H 60 v):∃d,zBA H v d/\Fn 1048576 50 d/\S64 d:=by
 cases h with
 | tup a v vs e p l al=>
  obtain⟨d,s,f,b⟩:=p.shows (by decide)
  obtain⟨ds,s',l',f'⟩:=zEs al
  refine⟨.tuple (d::ds),.tup e (.cons s s'),(zEQ (n:=31000) (p:=3) (L:=3) (fun x hx=>?_) (by rw[zT];omega)).mono (by decide) (by decide),fun x r es z1 z2=>?_⟩
  . rcases zY.mp hx with rfl | hx
    . exact f
    . exact f' x hx
  . injection z1 with z1
    injection z1 with z1 _
    have:=b es (z1.trans z2)
    omega
 | lst a u v e p q=>
  obtain⟨d,s,f,_⟩:=p.shows (zH _)
  obtain⟨d',s',f',_⟩:=q.shows (zH _)
  refine⟨.list [d,d'],.lst e (.cons s (.cons s' .nil)),(zJh (n:=31000) (p:=3) (L:=2) (ds:=[d,d']) (fun x hx=>?_) (zH 2)).mono (by decide) (by decide),fun x r es z1 z2=>by cases z1⟩
  simp only[zY,List.not_mem_nil,or_false] at hx
  rcases hx with rfl | rfl
  . exact f
  . exact f'
 | non=>exact⟨_,.non,zER.mono (by decide) (by decide),fun x r es z1 z2=>by cases z1⟩
 | str=>exact⟨_,.str _,(zHZ (by decide) (by decide +kernel)).mono (by decide) (by decide),fun x r es z1 z2=>by cases z1⟩
 | emp a e=>exact⟨.tuple [],.tup e .nil,(zEQ (n:=0) (p:=0) (L:=0) (ds:=[]) (fun d hd=>by cases hd) (zH 0)).mono (by decide) (by decide),fun x r es z1 z2=>by cases z1⟩
structure ON (n:Nat)(os nu:List Int):Prop where
 ol:os.length<=24
 ob:∀p∈os,p.natAbs<=100
 nl:nu.length<=256
 n2:2<=nu.length
 n5:n<=5->nu.length<=32
 nb:∀x∈nu,x.natAbs<=7000
theorem zCy {l:List Int}(h:∀x∈l,x.natAbs<=b):∀v∈l.map V.int,Ev H b v:=fun v hv=>by
 obtain⟨x,hx,rfl⟩:=zv.mp hv
 exact .int x (h x hx)
theorem ON.po {n:Nat}(o:ON n os nu)(h:H a=some (.tup (os.map V.int))):Par H 60 (.ref a):=.tup a _ h (by have:=o.ol;rw[zD];omega) (zCy fun x hx=>by have:=o.ob x hx;omega)
theorem ON.pn {n:Nat}(o:ON n os nu)(h:H a=some (.tup (nu.map V.int))):Par H 300 (.ref a):=.tup a _ h (by have:=o.nl;rw[zD];omega) (zCy fun x hx=>by have:=o.nb x hx;omega)
theorem ON.pl {n:Nat}(o:ON n os nu)(h:H a=some (.tup (nu.map V.int))):Par H (Ln n) (.ref a):=.tup a _ h (by
 have:=o.nl
 have:=o.n5
 rw[zD]
 unfold Ln
 split <;> omega) (zCy fun x hx=>by have:=o.nb x hx;omega)
theorem brg_le (h24:∀row∈R,row.length<=24)(t h:Nat):brg R t h<=24:=by
 unfold brg
 refine zx (zu _ _) ?_
 rw[zC]
 cases e:R[h]? with
 | none=>exact zi _
 | some row=>exact h24 row (za e)
theorem zIM.bound {R:List (List Int)}{n:Nat}{nu:List Int}(d:zIM R n nu 0)(h24:∀row∈R,row.length<=24):∀k t:Nat,2 ^ n-t<=k->t<2 ^ n->0<=nu.getD t 0/\nu.getD t 0<=24*(k:Int)
 | 0,t,h1,h2=>by omega
 | k+1,t,h1,h2=>by
  by_cases c:t=2 ^ n-1
  . subst c
    rw[d.last]
    omega
  . obtain⟨h,hh,e⟩:=d.ex t (zi _) h2 (zHY (by omega))
    obtain⟨q1,q2⟩:=zBX.mp hh
    have lt:=zGS h2 q1 q2
    have:=zDz h
    have ih:=d.bound h24 k (t+2 ^ h) (by omega) lt
    have:=brg_le h24 t h
    rw[e]
    unfold cst
    omega
theorem zLK {tl:List V}{x:V}(h:4<=tl.length)(hx:x∈zC0 (xs++tl) (some (-4)) none):x∈tl:=by
 unfold zC0 at hx
 have hx:=zBQ hx
 have e:HT.sIx (xs++tl).length 0 (some (-4))=xs.length+(tl.length-4):=by
  unfold HT.sIx
  rw[zL]
  show (if (-4:Int)<0 then _ else _)=_
  rw[if_pos (by decide)]
  omega
 rw[e,List.drop_append,List.drop_of_length_le (by omega),List.nil_append] at hx
 exact List.mem_of_mem_drop hx
theorem zAN.chgR {t so:Addr}(T:zAN H t N)(h:H so=some (.lst (.ref a::ys)))(ne:so≠t):zAN (upd H so o) t N:=by
 obtain⟨p,ns,spot,rest,e1,e2,r⟩:=T
 have np:p≠so:=fun z=>by
  rw[z,h] at e2
  cases ns <;> cases e2
 exact⟨p,ns,spot,rest,by rw[zf ne.symm];exact e1,by rw[zf np];exact e2,r⟩
noncomputable def zKS (K:PySem.W.Frag)(PT:Addr):Sp:=fun vs H Q _=>∃(a:Addr)(ns:List Int),vs=[.ref a]/\SqL K H a (ns.map V.int)/\ns.length<=63/\H PT=some (.tbl #[])/\∀H',Q (.bl true) H'
noncomputable def tPick:TE:=fun σ H Q=>∃(t:Addr)(N:Nat),σ[1]? = some (some (.ref t))/\zAN H t N/\N<800000/\∀(n:Int)(H':Hp),1<=n->n<=12->zAN H' t (N+2)->Sm t H H'->Q (.int n) H'
structure WSt (PT t wa sl:Addr)(n:Nat)(ts:List T3)(R:List (List Int))(H:Hp):Prop where
 wb:zBj H wa n ts
 st:zBi H sl R
 sr:zDr ts n R
 tb:Tb H PT
 n12:n<=12
theorem WSt.same {PT t:Addr}{n:Nat}(h:WSt PT t wa sl n ts R H)(s:zAo H H'):WSt PT t wa sl n ts R H':=⟨h.wb.keep s,h.st.same s,h.sr,h.tb.same s,h.n12⟩
theorem WSt.sm {PT t:Addr}{n:Nat}(h:WSt PT t wa sl n ts R H)(T:zAN H t N)(s:Sm t H H'):WSt PT t wa sl n ts R H':=⟨h.wb.sm T s,h.st.sm T s,h.sr,zFA T s h.tb,h.n12⟩
theorem WSt.smP {PT t:Addr}{n:Nat}(h:WSt PT t wa sl n ts R H)(s:SmP PT H H')(tb:Tb H' PT):WSt PT t wa sl n ts R H':=⟨h.wb.smP s,h.st.smT s,h.sr,tb,h.n12⟩
structure OI (oa na:Addr)(n:Nat)(os nu:List Int)(H:Hp):Prop where
 ho:H oa=some (.tup (os.map V.int))
 hn:H na=some (.tup (nu.map V.int))
 on:ON n os nu
theorem OI.keep {oa na:Addr}{n:Nat}(h:OI oa na n os nu H)(k:zEX H H'):OI oa na n os nu H':=⟨k.tp _ _ h.ho,k.tp _ _ h.hn,h.on⟩
noncomputable def tNum (PT:Addr):TS:=fun D σ H=>∃(a t wa sl oa na:Addr)(v2 v7 v8 v9 v10 v11 v12 v13 v14:Option V)(n N:Nat)(ts:List T3)(R:List (List Int))(os:List Int),σ=[some (.ref a),some (.ref t),v2,some (.ref wa),some (.ref sl),some (.ref oa),some (.ref na),v7,v8,v9,v10,v11,v12,v13,v14]/\zAN H t N/\N<800000/\WSt PT t wa sl n ts R H/\H oa=some (.tup (os.map V.int))/\H na=some (.tup [.int 0,.int 0])/\zG5 n os /\
 ∀(oa na:Addr)(os nu:List Int)(v7:Option V)(H':Hp),zAN H' t (N+8)->Sm t H H'->OI oa na n os nu H'->D.nx [some (.ref a),some (.ref t),v2,some (.ref wa),some (.ref sl),some (.ref oa),some (.ref na),v7,v8,v9,v10,v11,v12,v13,v14] H'
structure Ix where
 oa:Addr
 na:Addr
 n:Nat
 os:List Int
 nu:List Int
noncomputable def pL (i:Ix)(σ:St)(H:Hp):Prop:=σ[5]? = some (some (.ref i.oa))/\σ[6]? = some (some (.ref i.na))/\OI i.oa i.na i.n i.os i.nu H
noncomputable def pL9 (i:Ix)(σ:St)(H:Hp):Prop:=pL i σ H/\∃(ta:Addr)(xs:List V),σ[9]? = some (some (.ref ta))/\H ta=some (.tup xs)/\xs.length<=60/\∀x∈xs,Ev H 100000 x
noncomputable def rL (i:Ix)(H:Hp)(v:V):Prop:=Thn H (Ln i.n) v
theorem pL.keep (i:Ix)(σ:St)(H H':Hp)(s:zAo H H')(h:pL i σ H):pL i σ H':=⟨h.1,h.2.1,h.2.2.keep (.same s)⟩
theorem pL9.keep (i:Ix)(σ:St)(H H':Hp)(s:zAo H H')(h:pL9 i σ H):pL9 i σ H':=by
 obtain⟨a,ta,xs,e,h,l,ev⟩:=h
 exact⟨a.keep _ _ _ _ s,ta,xs,e,s _ _ h,l,fun x hx=>(ev x hx).keep (zH _) fun _ _ z=>s _ _ z⟩
theorem rL.keep (i:Ix)(H H':Hp)(v:V)(s:zAo H H')(h:rL i H v):rL i H' v:=Thn.keep h (.same s)
theorem th2 {u:V}(h:H p=some (.tup [u,v]))(a:Par H L u)(b:Par H 300 v):Thn H L (.ref p):=.tup p u [v] h a (zA6 1) fun x hx=>by rw[zj.mp hx];exact b
theorem zMc {lo hi:Option Int}(h:H p=some (.tup (zC0 xs lo hi)))(l:xs.length<=L)(ev:∀x∈xs,Ev H 100000 x):Par H L (.ref p):=.tup p _ h (zx (zAc _ _ _) l) fun x hx=>ev x (zCz hx)
theorem zGn (h:H p=some (.tup (xs++ys)))(l:xs.length+ys.length<=L)(e1:∀x∈xs,Ev H 100000 x)(e2:∀x∈ys,Ev H 100000 x):Par H L (.ref p):=.tup p _ h (by rw[zL];exact l) fun x hx=>(zn.mp hx).elim (e1 x) (e2 x)
theorem ON.ev {n:Nat}(o:ON n os nu):∀v∈os.map V.int,Ev H 100000 v:=zCy fun x hx=>by have:=o.ob x hx;omega
theorem ON.len {n:Nat}(o:ON n os nu):(os.map V.int).length<=24:=by rw[zD];exact o.ol
structure LI (H:Hp)(so p1 p2:Addr)(m:Nat)(ms:List V):Prop where
 h:H so=some (.lst (.ref p1 :: .ref p2::ms))
 g0:Thn H 60 (.ref p1)
 g1:Thn H 60 (.ref p2)
 al:∀x∈ms,Thn H (Ln m) x
theorem LI.cat {so p1 p2:Addr}{ms vs:List V}(l:LI H so p1 p2 m ms)(s:zAo H H')(hp:H' p=none)(al:∀x∈vs,Thn H' (Ln m) x):LI (upd H' p (.lst ((.ref p1 :: .ref p2::ms)++vs))) p p1 p2 m (ms++vs):=by
 have s2:=s.trans (zF (o:=.lst ((.ref p1 :: .ref p2::ms)++vs)) hp)
 refine⟨zG,l.g0.keep (.same s2),l.g1.keep (.same s2),fun x hx=>?_⟩
 rcases zn.mp hx with hx | hx
 . exact (l.al x hx).keep (.same s2)
 . exact (al x hx).keep (.same (zF hp))
noncomputable def TB (oa:Addr)(H:Hp)(v:V):Prop:=∃(p b:Addr)(xs:List V),v = .ref p/\H p=some (.tup [.ref oa,.ref b])/\H b=some (.tup xs)/\xs.length<=300/\∀x∈xs,Ev H 100000 x
theorem TB.keep {oa:Addr}{H H':Hp}{v:V}(h:TB oa H v)(k:∀a ys,H a=some (.tup ys)->H' a=some (.tup ys)):TB oa H' v:=by
 obtain⟨p,b,xs,e,h1,h2,l,ev⟩:=h
 exact⟨p,b,xs,e,k _ _ h1,k _ _ h2,l,fun x hx=>(ev x hx).keep (zH _) k⟩
theorem TB.thn {oa na:Addr}{n:Nat}(h:TB oa H v)(o:OI oa na n os nu H):Thn H 60 v:=by
 obtain⟨p,b,xs,rfl,h1,h2,l,ev⟩:=h
 exact th2 h1 (o.on.po o.ho) (.tup b xs h2 l ev)
noncomputable def tBe:TE:=fun σ H Q=>∃(t na ba:Addr)(N b L:Nat)(nu:List Int)(bs:List V),σ[1]? = some (some (.ref t))/\σ[6]? = some (some (.ref na))/\σ[10]? = some (some (.ref ba))/\zAN H t N/\N<800000/\H na=some (.tup (nu.map V.int))/\nu.length<=L/\(∀x∈nu,x.natAbs<=b)/\H ba=some (.tup bs)/\bs.length<=L/\L<=900/\(∀x∈bs,Ev H b x)/\1<=b /\
 ∀(b':Addr)(ys:List V)(H':Hp),Sm t H H'->zAN H' t (N+3)->H' b'=some (.tup ys)->ys.length<=L+1->(∀y∈ys,Ev H' (b+1000) y)->Q (.ref b') H'
noncomputable def tCut:TS:=fun D σ H=>∃(a t wa ta sl so:Addr)(v2 v5 v6 v7 v9 v10 v11 v12 v13 v14:Option V)(n:Nat)(x0 x1:V)(ms tl:List V),σ=[some (.ref a),some (.ref t),v2,some (.ref wa),some (.ref sl),v5,v6,v7,some (.ref so),v9,v10,v11,v12,v13,v14]/\H wa=some (.tup [.int n,.ref ta])/\H so=some (.lst (x0::x1::ms++tl))/\ms.length<=100/\tl.length=6/\Thn H 60 x0/\Thn H 60 x1/\(∀x∈ms,Thn H (Ln n) x)/\(∀x∈tl,Thn H 60 x) /\
 ∀(so:Addr)(zs:List V)(H':Hp),zAo H H'->H' so=some (.lst zs)->(∀z∈zs,Thn H' 60 z)->D.nx [some (.ref a),some (.ref t),v2,some (.ref wa),some (.ref sl),v5,v6,v7,some (.ref so),v9,v10,v11,v12,v13,v14] H'
theorem zCN:zAD ["_law_script", "_law_tape_here", "_law_k", "_law_web_here", "_law_masks_here", "_law_order_here", "_law_numbers", "_law_least_here", "_law_some", "_law_truths", "_law_bent", "_law_bends", "_law_thing", "_law_twin", "_law_twins"] ["_law_script"] (defScope sLaw):=fS0
theorem ok_law {PT cW cL c1 c2 c3 c4 c5 c6 c7 c8 c9 c10 fTa fD fSm fW fT fNe fLe fBw fNb fNu fWi fPl fTo fIo fBy fLb fIh fEb fTt fCf fSf fSn fLt fRt fOw fSx fAs fLp fBo fLs fFr fOr fIq fMa fBr fIn fLl fLz fSt fLf fFo fBe fR:Addr}{tk:Tok}{fdTa fdSm fdW fdNe fdLe fdBw fdNb fdNu fdWi fdPl fdTo fdIo fdBy fdLb fdIh fdEb fdTt fdCf fdSf fdSn fdLt fdRt fdOw fdSx fdAs fdLp fdBo fdLs fdFr fdOr fdIq fdMa fdBr fdIn fdLl fdLz fdSt fdLf fdFo fdBe fdR:FuncData}(F:Fun K "law" "law" sLaw f fd') (CH:PySem.W.CodeHd base c PT)(hbm:zKH mg base)
 (Er:E35 K mg cW cL cT [c1,c2,c3,c4,c5,c6,c7,c8,c9,c10])(EI:zHh K cL fI)(FI:Fun K "__init__" "NoLeast.__init__" sI1 fI fdI) (bI:zDh K fdI ["self", "word", "at"] []) (mo:PySem.W.mroIn K cL (.type "object")=some true) (mMT:mg "MOST_PLACES_OF_LEASTS" = some (.int 8 tk))
 (FTa:FuB K mg "_law_tape" zKa fTa fdTa ["_law_script"])
 (FD:FuB K mg "_law_draw" zEa fD fdD ["_law_tape_here","_law_many"])
 (FSm:FuB K mg "_law_small" zFw fSm fdSm ["_law_tape_here"])
 (FW:FuB K mg "_law_web" sWeb fW fdW ["_law_tape_here","_law_n"])
 (FT:FuB K mg "ties_at" zGk fT fdT ["web","place"])
 (FNe:zLT K "nearest" "nearest" zIl fNe fdNe c) (bNe:zDh K fdNe ["waiting"] []) (mNe:mg "nearest" = some (.ref fNe))
 (FF:FuB K mg "lengths_from" zIq fF fdF ["web","start"])
 (FLe:FuB K mg "lengths" zHs fLe fdLe ["web"])
 (FBw:FuB K mg "between_rows" sBwr fBw fdBw ["here","there","other"])
 (FNb:FuB K mg "next_by_row" sNbr fNb fdNb ["web","one","there"])
 (FNu:FuB K mg "is_number" zMP fNu fdNu ["thing"])
 (FWi:FuB K mg "is_within" sWi fWi fdWi ["thing","least","most"])
 (FPl:FuB K mg "is_place" sPl fPl fdPl ["n","thing"])
 (FTo:FuB K mg "is_tuple_of" sTof fTo fdTo ["thing","count"])
 (FIo:FuB K mg "is_order" sOrd fIo fdIo ["web","thing"])
 (FBy:FuB K mg "by_order" sByo fBy fdBy ["web","order"])
 (FLb:FuB K mg "label_by_ranks" sLbr fLb fdLb ["web","rows","ranks","place"])
 (FIh:FuB K mg "is_hub" sIsh fIh fdIh ["rows","ranks","hub","place"])
 (FEb:FuB K mg "entry_by_rows" sEbr fEb fdEb ["web","rows","place","hub"])
 (FTt:FuB K mg "total" sTot fTt fdTt ["labels"])
 (FCf:FuB K mg "count_free" sCf fCf fdCf ["sets","taken"])
 (FSf:FuB K mg "sets_from" sSf fSf fdSf ["rows","hub"])
 (FSn:FuB K mg "set_number" sSn fSn fdSn ["places"])
 (FLt:FuB K mg "lets_least" zIn fLt fdLt ["web","thing"])
 (FRt:FuB K mg "refuse_too_many" sRtm fRt fdRt ["web"])
 (FOw:FuB K mg "is_order_with_numbers" zIo fOw fdOw ["web","thing"])
 (FSx:FuB K mg "step_fault" zIk fSx fdSx ["web","numbers"])
 (FAs:FuB K mg "all_sets" zIr fAs fdAs ["web"])
 (FLp:FuB K mg "left_places" sLpl fLp fdLp ["web","taken"])
 (FBo:FuB K mg "by_way_of" sBwo fBo fdBo ["sets","numbers","taken","hub"])
 (FA:FuB K mg "_law_added" sAdd fA fdA ["_law_one","_law_other"])
 (FLs:FuB K mg "_law_lesser" sLes fLs fdLs ["_law_one","_law_other"])
 (FFr:FuB K mg "_law_far" sFar fFr fdFr ["_law_web_here"])
 (FO:FuB K mg "_law_on" sOn fO fdO ["_law_far_here","_law_place","_law_one","_law_other"])
 (FOr:FuB K mg "_law_order" zHI fOr fdOr ["_law_tape_here","_law_n"])
 (FIq:FuB K mg "_law_is_order" sIso fIq fdIq ["_law_n","_law_thing"])
 (FMa:FuB K mg "_law_masks" zKb fMa fdMa ["_law_web_here"])
 (FBr:FuB K mg "_law_brought" zLh fBr fdBr ["_law_masks_here","_law_some","_law_hub"])
 (FIn:FuB K mg "_law_in_all" zIp fIn fdIn ["_law_masks_here","_law_order_here"])
 (FLl:FuB K mg "_law_least" zKc fLl fdLl ["_law_masks_here"])
 (FLz:FuB K mg "_law_least_order" sLeo fLz fdLz ["_law_tape_here","_law_masks_here","_law_least_here"])
 (FSt:FuB K mg "_law_step_fault" zIj fSt fdSt ["_law_masks_here","_law_numbers"])
 (FLf:FuB K mg "_law_least_fault" zIm fLf fdLf ["_law_masks_here","_law_thing"])
 (FFo:FuB K mg "_law_least_found" sFou fFo fdFo ["_law_web_here","_law_thing"])
 (FBe:FuB K mg "_law_numbers_bent" zKd fBe fdBe ["_law_tape_here","_law_numbers"])
 (FR:FuB K mg "_law_right" zHH fR fdR ["_law_web_here","_law_masks_here","_law_thing"])
 (mLen:mg "len" = none) (mRange:mg "range" = none) (mTuple:mg "tuple" = none) (mSorted:mg "sorted" = none) (mMin:mg "min" = none) (mList:mg "list" = none) (mIsi:mg "isinstance" = none) (mInt:mg "int" = none) (mBool:mg "bool" = none) (mAll:mg "all" = none) (mSet:mg "set" = none) (mSum:mg "sum" = none) (mEnum:mg "enumerate" = none) (mRepr:mg "repr" = none) (mVal:mg "ValueError" = none):zAe P w K mg base CX0 11 f fd' ["_law_script"] (zKS K PT):=by
 have GTa:zAe P w K mg base CX0 10 fTa fdTa ["_law_script"] (zLW K):=(zMl FTa.F).mono (by decide)
 have GD:zAe P w K mg base CX0 10 fD fdD ["_law_tape_here", "_law_many"] zFp:=(zFN FD.F mLen).mono (by decide)
 have GSm:zAe P w K mg base CX0 10 fSm fdSm ["_law_tape_here"] spN:=(ok_n FSm.F FD mLen).mono (by decide)
 have GW':zAe P w K mg base CX0 10 fW fdW ["_law_tape_here", "_law_n"] spWeb:=(ok_web FW.F FD mLen mRange mTuple mSorted).mono (by decide)
 have GF:zAe P w K mg base CX0 3 fF fdF ["web", "start"] (zId PT):=zMx FF.F FNe bNe mNe FT CH hbm mMin mSorted mTuple
 have GLe:zAe P w K mg base CX0 5 fLe fdLe ["web"] (zHC PT):=(zMu FLe.F FF GF mRange mTuple).mono (by decide)
 have GSf:zAe P w K mg base CX0 5 fSf fdSf ["rows", "hub"] spSf:=(ok_sf FSf.F FSn FBw mRange mTuple mLen mSum).mono (by decide)
 have GAs:zAe P w K mg base CX0 6 fAs fdAs ["web"] (zIg PT):=zM0 FAs.F FLe GLe FSf GSf mRange
 have GBT:zAe P w K mg base CX0 6 fBo fdBo ["sets", "numbers", "taken", "hub"] zIe:=(zMy FBo.F FCf mLen).mono (by decide)
 have GLp:zAe P w K mg base CX0 6 fLp fdLp ["web", "taken"] zL9:=(ok_lpl FLp.F mRange).mono (by decide)
 have GMa:zAe P w K mg base CX0 10 fMa fdMa ["_law_web_here"] zLa:=(zMq FMa.F FFr ((ok_far FFr.F FA FLs mRange mMin).mono (by decide)) FO ((ok_on FO.F FA).mono (by decide)) mRange mSum).mono (by decide)
 have GLl:zAe P w K mg base CX0 10 fLl fdLl ["_law_masks_here"] zLb:=(zMr FLl.F FBr mLen mRange mMin).mono (by decide)
 have GLz:zAe P w K mg base CX0 10 fLz fdLz ["_law_tape_here", "_law_masks_here", "_law_least_here"] spLeo:=(ok_leo FLz.F FBr FD mLen mRange mTuple).mono (by decide)
 have GOr:zAe P w K mg base CX0 10 fOr fdOr ["_law_tape_here", "_law_n"] zIZ:=(zKr FOr.F FD mLen mRange mTuple mList).mono (by decide)
 have GTo:zAe P w K mg base CX0 3 fTo fdTo ["thing", "count"] zKR:=(ok_tof FTo.F mIsi mTuple mLen).mono (by decide)
 have GPl:zAe P w K mg base CX0 3 fPl fdPl ["n", "thing"] spPl:=ok_pl FPl.F FWi FNu mIsi mInt mBool
 have GIo:zAe P w K mg base CX0 4 fIo fdIo ["web", "thing"] zHB:=zMo FIo.F FTo GTo FPl GPl mLen mAll mSet
 have GLb:zAe P w K mg base CX0 5 fLb fdLb ["web", "rows", "ranks", "place"] zMA:=ok_lbr FLb.F FIh ((ok_ish FIh.F FBw mRange mTuple mLen mAll).mono (by decide)) FEb (ok_ebr FEb.F FNb FT mSorted mTuple mMin) mRange mTuple
 have GBy:zAe P w K mg base CX0 6 fBy fdBy ["web", "order"] (zMC PT):=ok_byo FBy.F FIo ((zI6 GIo).mono (by decide)) FLe GLe FLb GLb mRange mTuple
 have GOw:zAe P w K mg base CX0 7 fOw fdOw ["web", "thing"] zIc:=(zMv FOw.F FTo (GTo.mono (by decide)) FIo GIo FNu ((zLm FNu.F mIsi mInt mBool).mono (by decide)) mAll).mono (by decide)
 have GLt:zAe P w K mg base (CXI P w) 8 fLt fdLt ["web", "thing"] (zIb PT cL cT):=zMt FLt.F Er.mL EI bI ((ok_I1 FI EI mo Er.n1 Er.n2).mono (by decide)) FRt ((ok_rtm FRt.F mMT Er.mT Er.qT).mono (by decide)) FOw GOw FSx (zMn FSx.F FAs GAs FLp GLp FBo GBT mEnum) FBy (GBy.mono (by decide)) FTt ((ok_tot FTt.F mLen mSum).mono (by decide))
 have GFo:zAe P w K mg base CX0 9 fFo fdFo ["_law_web_here", "_law_thing"] (zMB PT):=ok_fou FFo.F Er EI FLt GLt mIsi mVal
 have GLf:zAe P w K mg base CX0 9 fLf fdLf ["_law_masks_here", "_law_thing"] zIa:=(zMs FLf.F FIq ((ok_iso FIq.F mIsi mInt mBool mTuple mSorted mList mRange).mono (by decide)) FSt ((zMm FSt.F FBr mLen mRange).mono (by decide)) FIn ((zMw FIn.F FBr mLen).mono (by decide)) mIsi mInt mBool mTuple mLen).mono (by decide)
 have GR:zAe P w K mg base CX0 10 fR fdR ["_law_web_here", "_law_masks_here", "_law_thing"] (spRi PT):=ok_ri FR.F FLf GLf FFo GFo mRepr
 have GBe:zAe P w K mg base CX0 10 fBe fdBe ["_law_tape_here", "_law_numbers"] zLd:=(zMz FBe.F FD mLen mIsi mInt).mono (by decide)
 refine F.okD zCN fun _ A _ _ H vs Q E hr h=>?_
 obtain⟨a,ns,rfl,hS,hlen,hPT,k⟩:=h
 refine⟨_,zO (zAn (i:=1) zCN.nd (zAa GTa hr FTa (zE (pv 0) zM)))
  (zO (zBl PassesOwn.never rfl (zAX rfl mRange (zC9 zM)) (zAj (i:=2) zCN.nd rfl (Or.inl rfl))
   (zO (zAn (i:=3) zCN.nd (zAa GW' hr FW (zE (pv 1) (zE (zBe (te':=tPick) (zCJ (zAC zCI (zAa GD hr FD (zE (pv 1) (zE ze zM))) ze (zAI _)) (zAS zBd ze (zAa GD hr FD (zE (pv 1) (zE ze zM)))) (zAa GSm hr FSm (zE (pv 1) zM))) ?pick) zM))))
   (zO (zAn (i:=4) zCN.nd (zAa GMa hr FMa (zE (pv 3) zM)))
   (zO (zAn (i:=5) zCN.nd (zAa GOr hr FOr (zE (pv 1) (zE (zAG zAY (pv 3) ze) zM))))
   (zO (zAn (i:=6) zCN.nd (zAf (zE ze (zE ze zM))))
   (zO (zIu (u':=tNum PT) (zBN (zAC zI3 (zAG zAY (pv 3) ze) ze (zAI _))
    (zO (zAn (i:=7) zCN.nd (zAa GLl hr FLl (zE (pv 4) zM)))
    (zO (zAn (i:=5) zCN.nd (zAa GLz hr FLz (zE (pv 1) (zE (pv 4) (zE (pv 7) zM)))))
    (zg (zAn (i:=6) zCN.nd (zBK zAt mTuple (zE (pv 7) zM)))))) zAQ) ?num)
   (zO (zAn (i:=8) zCN.nd (zBy (zE (zAf (zE (pv 5) (zE (pv 6) zM))) (zE (zAf (zE (zAa GOr hr FOr (zE (pv 1) (zE (zAG zAY (pv 3) ze) zM))) (zE (pv 6) zM))) (zHw (Pp:=pL) (Rr:=rL) pL.keep rL.keep
    (.cons (zBe (zAf (zE (zBK zDn mList (zE (pv 5) zM)) (zE (pv 6) zM))) (fun σ H Q ⟨i,⟨h5,h6,o⟩,q⟩=>⟨_,h5,i.oa,_,rfl,.inr (SqT.of o.ho),fun l hl=>⟨_,h6,by show 2<=sizeLine;decide,fun p hp=>q _ _ ((zF hl).trans (zF hp)) (th2 zG (.lst l _ (zF hp _ _ zG) (by have:=o.on.ol;omega) fun x hx=>by have:=o.on.ob x hx;omega) ((o.on.pn o.hn).keep (.same ((zF hl).trans (zF hp)))))⟩⟩))
    (.cons (zBe (zAf (zE (pv 5) (zE (zBK zDn mList (zE (pv 6) zM)) zM))) (fun σ H Q ⟨i,⟨h5,h6,o⟩,q⟩=>⟨_,h5,_,h6,i.na,_,rfl,.inr (SqT.of o.hn),fun l hl=>⟨by show 2<=sizeLine;decide,fun p hp=>q _ _ ((zF hl).trans (zF hp)) (th2 zG (((o.on.po o.ho).mono (zGZ _)).keep (.same ((zF hl).trans (zF hp)))) (.lst l _ (zF hp _ _ zG) (by have:=o.on.nl;omega) fun x hx=>by have:=o.on.nb x hx;omega))⟩⟩))
    .nil)))))))
   (zO (zAn (i:=8) zCN.nd (zAS zHP (pv 8) (zBy (zHw (Pp:=pL) (Rr:=rL) pL.keep rL.keep
    (.cons (zBe (zAf (zE (zBc zCX (pv 5) (zB6 ze) zB7) (zE (pv 6) zM))) (fun σ H Q ⟨i,⟨h5,h6,o⟩,q⟩=>⟨_,h5,_,rfl,i.oa,_,rfl,o.ho,fun p1 H1 s1 hp1=>⟨_,h6,by show 2<=sizeLine;decide,fun p hp=>q _ _ (s1.trans (zF hp)) (th2 zG ((zMc hp1 (zx o.on.len (by decide)) o.on.ev).mono (zGZ _) |>.keep (.same (zF hp))) ((o.on.pn o.hn).keep (.same (s1.trans (zF hp)))))⟩⟩))
    (.cons (zBe (zAf (zE (zAS zCv (pv 5) (zAf (zE ze zM))) (zE (pv 6) zM))) (fun σ H Q ⟨i,⟨h5,h6,o⟩,q⟩=>⟨_,h5,by show 1<=sizeLine;decide,fun p1 hp1=>⟨i.oa,p1,_,_,rfl,rfl,zF hp1 _ _ o.ho,zG,zBw (zr (by have:=o.on.len;simp at this ⊢;omega)),fun p2 H2 s2 hp2=>⟨_,h6,by show 2<=sizeLine;decide,fun p hp=>q _ _ (((zF hp1).trans s2).trans (zF hp)) (th2 zG (((zGn hp2 (L:=60) (by have:=o.on.len;simp at this ⊢;omega) o.on.ev fun x hx=>by rw[zj.mp hx];exact .int 0 (by decide)).mono (zGZ _)).keep (.same (zF hp))) ((o.on.pn o.hn).keep (.same (((zF hp1).trans s2).trans (zF hp)))))⟩⟩⟩))
    (.cons (zBe (zAf (zE (pv 6) (zE (pv 5) zM))) (fun σ H Q ⟨i,⟨h5,h6,o⟩,q⟩=>⟨_,h6,_,h5,by show 2<=sizeLine;decide,fun p hp=>q _ _ (zF hp) (th2 zG ((o.on.pl o.hn).keep (.same (zF hp))) (((o.on.po o.ho).mono (by decide)).keep (.same (zF hp))))⟩))
    (.cons (zBe (zAf (zE (pv 5) (zE (pv 6) (zE ze zM)))) (fun σ H Q ⟨i,⟨h5,h6,o⟩,q⟩=>⟨_,h5,_,h6,by show 3<=sizeLine;decide,fun p hp=>q _ _ (zF hp) (.tup p _ [_,_] zG (((o.on.po o.ho).mono (zGZ _)).keep (.same (zF hp))) (zH 2) fun x hx=>by simp only[zY,List.not_mem_nil,or_false] at hx;rcases hx with rfl | rfl;exact (o.on.pn o.hn).keep (.same (zF hp));exact .int 0 (by decide))⟩))
    .nil))))))))
   (zO (zAn (i:=8) zCN.nd (zAS zHP (pv 8) (zBy (zHw (Pp:=pL) (Rr:=rL) pL.keep rL.keep
    (.cons (zBe (zBy (zE (pv 5) (zE (pv 6) zM))) (fun σ H Q ⟨i,⟨h5,h6,o⟩,q⟩=>⟨_,h5,_,h6,by show 2<=sizeLine;decide,fun p hp=>q _ _ (zF hp) (.lst p _ _ zG (((o.on.po o.ho).mono (by decide)).keep (.same (zF hp))) ((o.on.pn o.hn).keep (.same (zF hp))))⟩))
    (.cons (zBe zBF (fun σ H Q ⟨_,_,q⟩=>q _ _ (zAo.refl _) .non))
    (.cons (zBe (zAf zM) (fun σ H Q ⟨_,_,q⟩=>⟨zi _,fun p hp=>q _ _ (zF hp) (.emp p zG)⟩))
    (.cons (zBe (zAf (zE (pv 5) zM)) (fun σ H Q ⟨i,⟨h5,h6,o⟩,q⟩=>⟨_,h5,by show 1<=sizeLine;decide,fun p hp=>q _ _ (zF hp) (.tup p _ [] zG (((o.on.po o.ho).mono (zGZ _)).keep (.same (zF hp))) (zi _) fun x hx=>by cases hx)⟩))
    (.cons (zBe zCE (fun σ H Q ⟨_,_,q⟩=>q _ _ (zAo.refl _) .str))
    .nil)))))))))
   (zO (zAn (i:=9) zCN.nd (zBK zAt mTuple (zE (zBG (own:=["_law_one"]) (cn:=[]) (ci:=[]) rfl (csc rfl rfl) trivial rfl (zCu (pv 5)) (fun _ _ _ _=>zB8) (fun _ _ _ _=>zBn) (fun _ _ _ _=>zCJ (zAC zI3 (pv 0) ze (zAI _)) (zCO zCI (pv 0) ze (zAI _)) (pv 0))) zM)))
   (zO (zAn (i:=8) zCN.nd (zAS zHP (pv 8) (zBy (zHw (Pp:=pL9) (Rr:=rL) pL9.keep rL.keep
    (.cons (zBe (zAf (zE (zAS zCv (zBc zCX (pv 5) zB7 (zB6 (zBe (zDp zCm ze) (fun σ H Q q=>⟨1,rfl,q⟩)))) (zBc zCX (pv 5) zB7 (zB6 ze))) (zE (pv 6) zM))) (fun σ H Q ⟨i,⟨⟨h5,h6,o⟩,ta,xs,h9,ht,hl,ev⟩,q⟩=>⟨_,h5,_,rfl,i.oa,_,rfl,o.ho,fun p1 H1 s1 hp1=>⟨_,h5,_,rfl,i.oa,_,rfl,s1 _ _ o.ho,fun p2 H2 s2 hp2=>⟨p1,p2,_,_,rfl,rfl,s2 _ _ hp1,hp2,zBw (zr (by have:=o.on.len;have:=zAc (i.os.map V.int) none (some (-1));have:=zAc (i.os.map V.int) none (some 1);omega)),fun p3 H3 s3 hp3=>⟨_,h6,by show 2<=sizeLine;decide,fun p hp=>q _ _ ((s1.trans (s2.trans s3)).trans (zF hp)) (th2 zG (((zGn hp3 (L:=60) (by have:=o.on.len;have:=zAc (i.os.map V.int) none (some (-1));have:=zAc (i.os.map V.int) none (some 1);omega) (fun x hx=>o.on.ev x (zCz hx)) fun x hx=>o.on.ev x (zCz hx)).mono (zGZ _)).keep (.same (zF hp))) ((o.on.pn o.hn).keep (.same ((s1.trans (s2.trans s3)).trans (zF hp)))))⟩⟩⟩⟩))
    (.cons (zBe (zAf (zE (pv 9) (zE (pv 6) zM))) (fun σ H Q ⟨i,⟨⟨h5,h6,o⟩,ta,xs,h9,ht,hl,ev⟩,q⟩=>⟨_,h9,_,h6,by show 2<=sizeLine;decide,fun p hp=>q _ _ (zF hp) (th2 zG (((Par.tup ta xs ht hl ev).mono (zGZ _)).keep (.same (zF hp))) ((o.on.pn o.hn).keep (.same (zF hp))))⟩))
    (.cons (zBe (zAf (zE (zAS zCv (zBc zCX (pv 5) zB7 (zB6 (zBe (zDp zCm ze) (fun σ H Q q=>⟨1,rfl,q⟩)))) (zAf (zE zBF zM))) (zE (pv 6) zM))) (fun σ H Q ⟨i,⟨⟨h5,h6,o⟩,ta,xs,h9,ht,hl,ev⟩,q⟩=>⟨_,h5,_,rfl,i.oa,_,rfl,o.ho,fun p1 H1 s1 hp1=>⟨by show 1<=sizeLine;decide,fun p2 hp2=>⟨p1,p2,_,_,rfl,rfl,zF hp2 _ _ hp1,zG,zBw (zr (by have:=o.on.len;have:=zAc (i.os.map V.int) none (some (-1));show _+1<=_;omega)),fun p3 H3 s3 hp3=>⟨_,h6,by show 2<=sizeLine;decide,fun p hp=>q _ _ ((s1.trans ((zF hp2).trans s3)).trans (zF hp)) (th2 zG (((zGn hp3 (L:=60) (by have:=o.on.len;have:=zAc (i.os.map V.int) none (some (-1));rw[zA2];omega) (fun x hx=>o.on.ev x (zCz hx)) fun x hx=>by rw[zj.mp hx];exact .non).mono (zGZ _)).keep (.same (zF hp))) ((o.on.pn o.hn).keep (.same ((s1.trans ((zF hp2).trans s3)).trans (zF hp)))))⟩⟩⟩⟩))
    .nil)))))))
   (zO (zAn (i:=10) zCN.nd (pv 6))
   (zO (zBl PassesOwn.never rfl (zAX rfl mRange (zC9 zM)) (zAj (i:=11) zCN.nd rfl (Or.inl rfl))
    (zO (zCg (zFI PySem.F.plainAttrs_list PySem.F.slot_list_append PySem.F.type_list_append zBr (pv 8) (zE (zAf (zE (pv 5) (zE (zAa GBe hr FBe (zE (pv 1) (zE (pv 6) zM))) zM))) zM)))
    (zO (zAn (i:=10) zCN.nd (zBe (te':=tBe) (zCJ (zAC zFK (zt zAE mLen (zE (pv 10) zM)) ze (zAI _)) (zAa GBe hr FBe (zE (pv 1) (zE (pv 10) zM))) (pv 6)) ?be))
    (zg (zCg (zFI PySem.F.plainAttrs_list PySem.F.slot_list_append PySem.F.type_list_append zBr (pv 8) (zE (zAf (zE (pv 5) (zE (pv 10) zM))) zM)))))))
   (zO (zIu (u':=tCut) (zBN (zAC zFK (zAG zAY (pv 3) ze) ze (zAI _)) (zg (zAn (i:=8) zCN.nd (zAS zHP (zBc zFD (pv 8) zB7 (zB6 ze)) (zBc zFD (pv 8) (zB6 (zBe (zDp zCm ze) (fun σ H Q q=>⟨4,rfl,q⟩))) zB7)))) zAQ) ?cut)
   (zO (zBl PassesOwn.never rfl (zCH (pv 8)) (zAj (i:=12) zCN.nd rfl (Or.inl rfl)) (zg (zBN (zBx (zBR (zAa GR hr FR (zE (pv 3) (zE (pv 4) (zE (pv 12) zM)))))) zLj zAQ)))
   (zO (zAn (i:=13) zCN.nd (zAf (zE (zAG zAY (pv 3) ze) (zE (zBc zCX (zAG zAY (pv 3) ze) (zB6 ze) zB7) zM))))
   (zO (zAn (i:=14) zCN.nd (zAa GMa hr FMa (zE (pv 13) zM)))
   (zg (zBl PassesOwn.never rfl (zCH (zBc zFD (pv 8) zB7 (zB6 ze))) (zAj (i:=12) zCN.nd rfl (Or.inl rfl)) (zg (zBN (PW.pt (zEb (zBx (zBR (zAa GR hr FR (zE (pv 13) (zE (pv 14) (zE (pv 12) zM)))))) (zDK (zBx (zBR (zAa GR hr FR (zE (pv 3) (zE (pv 4) (zE (pv 12) zM))))))))) zLj zAQ)))))))))))))))))))))
  (zg (zAF zEc))),?_⟩
 case pick=>
  rintro σ H2 Q2 ⟨t,N,e1,T,hN,kk⟩
  refine⟨_,e1,t,N,9,rfl,T,by omega,by decide,by decide,fun r H3 r0 r9 T3 e3=>?_⟩
  have s3:Sm t H2 H3:=fun b o n e=>by rw[e3 b n];exact e
  refine⟨rfl,_,rfl,zDq (fun c=>?_) (fun c=>?_)⟩
  . refine⟨_,e1,t,N+1,4,rfl,T3,by omega,by decide,by decide,fun r' H4 q0 q4 T4 e4=>?_⟩
    exact⟨_,_,rfl,rfl,kk _ H4 (by omega) (by omega) T4 (s3.trans fun b o n e=>by rw[e4 b n];exact e)⟩
  . exact⟨_,e1,t,N+1,rfl,T3,by omega,fun n H4 a b T4 s4=>kk n H4 a (by omega) T4 (s3.trans s4)⟩
 case num=>
  rintro D σ H1 ⟨a,t,wa,sl,oa,na,v2,v7,v8,v9,v10,v11,v12,v13,v14,n,N,ts,R,os,rfl,T,hN,I,ho,hn,O,kk⟩
  obtain⟨ta,tys,hwa,_,_,G⟩:=id I.wb
  have hn1:=G.n1
  have n12:=I.n12
  refine⟨_,rfl,wa,_,_,_,rfl,rfl,SqT.of hwa,rfl,_,_,rfl,rfl,_,rfl,zDq (fun c=>?_) (fun c=>?_)⟩
  . have c:=of_decide_eq_true c
    have n8:n<=8:=by omega
    have NR:=I.sr.nn (by omega)
    have hRl:R.length=n:=by rw[I.sr.rl];omega
    refine⟨_,rfl,sl,R,rfl,I.st,NR,by omega,fun nl nu H2 s2 hnl dp=>?_⟩
    refine⟨_,rfl,_,rfl,_,rfl,t,sl,nl,N,R,nu,rfl,T.keep s2,by omega,I.st.same s2,NR,by omega,hnl,dp,fun oa os H3 sm3 T3 hoa ow ol=>?_⟩
    have hnl3:=sm3 _ _ (zCr (T.keep s2) hnl) hnl
    refine⟨_,rfl,nl,_,rfl,.inl ⟨SqL.of hnl3,fun na hna=>?_⟩⟩
    have s4:=zF (o:=.tup (nu.map V.int)) hna
    have pm:=ow.perm ol
    rw[hRl] at pm dp
    have p8:=zCt n8
    have hln:=dp.ln
    have bd:=dp.bound NR.r24 (2 ^ n)
    have p2:2 ^ 1<=2 ^ n:=zBo (by decide) (by omega)
    refine kk oa na (nI os) nu _ _ (T3.keep s4) (((Sm.of s2).trans sm3).trans (Sm.of s4)) ⟨s4 _ _ hoa,zG,?_,fun p hp=>?_,by omega,by omega,fun n5=>?_,fun x hx=>?_⟩
    . rw[zD,pm.length_eq,zAB];omega
    . obtain⟨q,hq,rfl⟩:=zv.mp hp
      have:=zAW.mp (pm.mem_iff.mp hq)
      omega
    . have:2 ^ n<=2 ^ 5:=zBo (by decide) n5
      omega
    . obtain⟨i,hi,rfl⟩:=zy hx
      have:=bd i (by omega) (by omega)
      rw[zC,zA hi] at this
      simp only[zB4] at this
      omega
  . refine kk oa na os [0,0] _ H1 (T.mono (by omega)) (Sm.refl _ _) ⟨ho,hn,by rw[O.ln];omega,fun p hp=>?_,by decide,by decide,fun _=>by decide,fun x hx=>?_⟩
    . have:=O.rng p hp
      omega
    . simp at hx
      subst hx
      decide
 case be=>
  rintro σ H1 Q1 ⟨t,na,ba,N,b,L,nu,bs,e1,e6,e10,T,hN,hn,hnL,hnb,hb,hbL,hL,ev,b1,kk⟩
  refine⟨_,e10,ba,_,rfl,.inr (SqT.of hb),_,_,rfl,rfl,_,rfl,zDq (fun c=>?_) (fun c=>?_)⟩
  . have c:=of_decide_eq_true c
    exact⟨_,e1,_,e10,t,ba,N,b,bs,rfl,T,by omega,hb,by omega,by omega,ev,b1,fun a' ys H2 s2 T2 h2 l2 e2=>kk a' ys H2 s2 T2 h2 (by omega) e2⟩
  . exact⟨_,e6,kk na _ H1 (Sm.refl _ _) (T.mono (by omega)) hn (by rw[zD];omega) (zCy fun x hx=>by have:=hnb x hx;omega)⟩
 case cut=>
  rintro D σ H1 ⟨a,t,wa,ta,sl,so,v2,v5,v6,v7,v9,v10,v11,v12,v13,v14,n,x0,x1,ms,tl,rfl,hwa,hso,hms,htl,g0,g1,al,gl,kk⟩
  refine⟨_,rfl,wa,_,_,_,rfl,rfl,SqT.of hwa,rfl,_,_,rfl,rfl,_,rfl,zDq (fun c=>?_) (fun c=>?_)⟩
  . refine⟨_,rfl,_,rfl,so,_,rfl,SqL.of hso,fun l1 hl1=>?_⟩
    have s1:=zF (o:=.lst (zC0 (x0::x1::ms++tl) none (some 2))) hl1
    refine⟨_,rfl,_,rfl,so,_,rfl,SqL.of (s1 _ _ hso),fun l2 hl2=>?_⟩
    have s2:=zF (o:=.lst (zC0 (x0::x1::ms++tl) (some (-4)) none)) hl2
    have hc1:=zAc (x0::x1::ms++tl) none (some 2)
    have hc2:=zAc (x0::x1::ms++tl) (some (-4)) none
    have hcl:(x0::x1::ms++tl).length<=200:=by rw[zL,zT,zT];omega
    refine⟨l1,l2,_,_,rfl,rfl,s2 _ _ zG,zG,zBw (zr (by omega)),fun p hp=>?_⟩
    have s3:=(s1.trans s2).trans (zF (o:=.lst (zC0 (x0::x1::ms++tl) none (some 2)++zC0 (x0::x1::ms++tl) (some (-4)) none)) hp)
    refine kk p _ _ s3 zG fun z hz=>?_
    rcases zn.mp hz with hz | hz
    . rw[show (some 2:Option Int)=some ((2:Nat):Int) from rfl,zGL] at hz
      have hz':z∈[x0,x1]:=hz
      simp only[zY,List.not_mem_nil,or_false] at hz'
      rcases hz' with rfl | rfl
      . exact g0.keep (.same s3)
      . exact g1.keep (.same s3)
    . exact (gl z (zLK (by omega) hz)).keep (.same s3)
  . have c:¬ _:=fun z=>c (zP z)
    have n5:n<=5:=by omega
    have hLn:Ln n=60:=by unfold Ln;rw[if_pos n5]
    refine kk so _ H1 (zAo.refl _) hso fun z hz=>?_
    rcases zn.mp hz with hz | hz
    . rcases zY.mp hz with rfl | hz
      . exact g0
      . rcases zY.mp hz with rfl | hz
        . exact g1
        . have:=al z hz
          rwa [hLn] at this
    . exact gl z hz
 refine⟨_,rfl,a,ns,rfl,hS,hlen,fun t H1 ht T1 s1=>?_⟩
 have B1:Tb H1 PT:=⟨#[],s1 _ _ hPT,trivial,.inl rfl⟩
 refine⟨3,rfl,by decide,by decide,zBT (lo:=0) (n:=3) (fun q σ H2=>∃v2 v3 v4 v5 v6 v7 v8 v9 v10 v11 v12 v13 v14:Option V,σ=[some (.ref a),some (.ref t),v2,v3,v4,v5,v6,v7,v8,v9,v10,v11,v12,v13,v14]/\zAN H2 t (1000*q)/\Tb H2 PT) ⟨_,_,_,_,_,_,_,_,_,_,_,_,_,rfl,T1,B1⟩ (fun q σ H2 hq z=>?_) (fun σ H2 z=>?_)⟩
 case refine_2=>
  obtain⟨_,_,_,_,_,_,_,_,_,_,_,_,_,rfl,_⟩:=z
  exact k H2
 obtain⟨v2,v3,v4,v5,v6,v7,v8,v9,v10,v11,v12,v13,v14,rfl,T2,B2⟩:=z
 rw[zAJ]
 refine⟨_,rfl,t,1000*q,rfl,T2,by omega,fun n H3 n1 n12 T3 s3=>?_⟩
 refine⟨t,1000*q+2,n,rfl,T3,by omega,n1,by omega,fun wa ts H4 _ W4 T4 s4=>?_⟩
 obtain⟨m,rfl⟩:∃m:Nat,n=m:=⟨n.toNat,by omega⟩
 have B4:Tb H4 PT:=zFA T3 s4 (zFA T2 s3 B2)
 clear T2 B2 T3 s3 s4
 refine⟨_,rfl,wa,_,ts,rfl,W4,by omega,fun sl R H5 s5 ST5 SR=>?_⟩
 have I5:WSt PT t wa sl m ts R H5:=⟨W4.keep s5,ST5,SR,B4.same s5,by omega⟩
 have T5:=T4.keep s5
 clear T4 B4 W4 s5
 obtain⟨ta5,tys5,hwa5,_⟩:=id I5.wb
 refine⟨_,rfl,_,rfl,wa,_,_,_,rfl,rfl,SqT.of hwa5,rfl,t,_,m,rfl,T5,by omega,n1,by omega,fun o1 os1 H6 h6 O1 T6 s6=>?_⟩
 have I6:=I5.sm T5 s6
 refine⟨by show 2<=sizeLine;decide,fun n0 hn0=>?_⟩
 have s7:=zF (o:=.tup [.int 0,.int 0]) hn0
 refine⟨a,t,wa,sl,o1,n0,_,_,_,_,_,_,_,_,_,m,_,ts,R,os1,rfl,T6.keep s7,by omega,I6.same s7,s7 _ _ h6,zG,O1,fun oa na os nu w7 H8 T8 s8 O8=>?_⟩
 have I8:=(I6.same s7).sm (T6.keep s7) s8
 clear I6 T6 s7 s8 h6 hn0 I5 T5 s6
 have hon:=O8.on
 obtain⟨ta8,tys8,hwa8,_⟩:=id I8.wb
 refine⟨_,rfl,_,rfl,by show 2<=sizeLine;decide,fun p1 hp1=>?_⟩
 have s9:=zF (o:=.tup [.ref oa,.ref na]) hp1
 refine⟨_,rfl,_,rfl,wa,_,_,_,rfl,rfl,SqT.of (s9 _ _ hwa8),rfl,t,_,m,rfl,T8.keep s9,by omega,n1,by omega,fun o2 os2 H10 h10 O2 T10 s10=>?_⟩
 have g9:Thn (upd H8 p1 (.tup [.ref oa,.ref na])) 60 (.ref p1):=th2 zG ((hon.po O8.ho).keep (.same s9)) ((hon.pn O8.hn).keep (.same s9))
 have k10:=zEX.sm (T8.keep s9) s10
 have O10:=(O8.keep (.same s9)).keep k10
 have I10:=(I8.same s9).sm (T8.keep s9) s10
 have g10:=g9.keep k10
 clear I8 O8 g9 k10 s10 s9 hp1
 refine⟨_,rfl,by show 2<=sizeLine;decide,fun p2 hp2=>?_⟩
 have s11:=zF (o:=.tup [.ref o2,.ref na]) hp2
 have q11:Thn (upd H10 p2 (.tup [.ref o2,.ref na])) 60 (.ref p2):=th2 zG (.tup o2 _ (s11 _ _ h10) (by rw[zD,O2.ln];omega) (zCy fun x hx=>by have:=O2.rng x hx;omega)) ((hon.pn O10.hn).keep (.same s11))
 have g11:=g10.keep (.same s11)
 have O11:=O10.keep (.same s11)
 have I11:=I10.same s11
 have T11:=T10.keep s11
 generalize upd H10 p2 (.tup [.ref o2,.ref na])=H11 at q11 g11 O11 I11 T11
 clear I10 O10 T10 g10 s11 hp2 h10 T8
 refine⟨⟨oa,na,m,os,nu⟩,⟨rfl,rfl,O11⟩,fun vs H12 s12 hl12 al12=>?_⟩
 have hs:∀j:Nat,j<=3000->j<=sizeLine:=fun j hj=>zx hj (by decide)
 refine⟨hs _ (by rw[zT,zT,hl12];decide),fun l1 hl1=>?_⟩
 have s13:=s12.trans (zF (o:=.lst (.ref p1 :: .ref p2::vs)) hl1)
 have L13:LI (upd H12 l1 (.lst (.ref p1 :: .ref p2::vs))) l1 p1 p2 m vs:=⟨zG,g11.keep (.same s13),q11.keep (.same s13),fun x hx=>Thn.keep (al12 x hx) (.same (zF hl1))⟩
 have hv:vs.length=2:=hl12
 have O13:=O11.keep (.same s13)
 have I13:=I11.same s13
 have T13:=T11.keep s13
 generalize upd H12 l1 (.lst (.ref p1 :: .ref p2::vs))=H13 at L13 O13 I13 T13
 clear I11 O11 T11 g11 q11 s13 s12 hl1 al12 hl12
 refine⟨_,rfl,⟨oa,na,m,os,nu⟩,⟨rfl,rfl,O13⟩,fun vs2 H14 s14 hl14 al14=>⟨hs _ (by rw[hl14];decide),fun b2 hb2=>?_⟩⟩
 have s14':=s14.trans (zF (o:=.lst vs2) hb2)
 refine⟨l1,b2,_,_,rfl,rfl,s14' _ _ L13.h,zG,hs _ (by rw[zT,zT,hv,hl14];decide),fun l2 hl2=>?_⟩
 have L15:=L13.cat s14' hl2 (fun x hx=>Thn.keep (al14 x hx) (.same (zF hb2)))
 have s15:=s14'.trans (zF (o:=.lst ((.ref p1 :: .ref p2::vs)++vs2)) hl2)
 have hv2:(vs++vs2).length=6:=by rw[zL,hv,hl14];rfl
 have O15:=O13.keep (.same s15)
 have I15:=I13.same s15
 have T15:=T13.keep s15
 generalize upd (upd H14 b2 (.lst vs2)) l2 (.lst ((.ref p1 :: .ref p2::vs)++vs2))=H15 at L15 O15 I15 T15
 generalize vs++vs2=ms2 at L15 hv2
 clear I13 O13 T13 L13 s15 s14' s14 hl2 hb2 al14 hl14 hv
 refine⟨_,rfl,⟨oa,na,m,os,nu⟩,⟨rfl,rfl,O15⟩,fun vs3 H16 s16 hl16 al16=>⟨hs _ (by rw[hl16];decide),fun b3 hb3=>?_⟩⟩
 have s16':=s16.trans (zF (o:=.lst vs3) hb3)
 refine⟨l2,b3,_,_,rfl,rfl,s16' _ _ L15.h,zG,hs _ (by rw[zT,zT,hv2,hl16];decide),fun l3 hl3=>?_⟩
 have L17:=L15.cat s16' hl3 (fun x hx=>Thn.keep (al16 x hx) (.same (zF hb3)))
 have s17:=s16'.trans (zF (o:=.lst ((.ref p1 :: .ref p2::ms2)++vs3)) hl3)
 have hv3:(ms2++vs3).length=11:=by rw[zL,hv2,hl16];rfl
 have O17:=O15.keep (.same s17)
 have I17:=I15.same s17
 have T17:=T15.keep s17
 generalize upd (upd H16 b3 (.lst vs3)) l3 (.lst ((.ref p1 :: .ref p2::ms2)++vs3))=H17 at L17 O17 I17 T17
 generalize ms2++vs3=ms3 at L17 hv3
 clear I15 O15 T15 L15 s17 s16' s16 hl3 hb3 al16 hl16 hv2
 refine⟨_,rfl,oa,rfl,⟨_,SqT.of O17.ho⟩,[],rfl,fun D hD=>?_⟩
 refine zCU (a:=oa) (xs:=os.map V.int) (fun i ys H4=>i<=os.length/\ys.length=i/\(∀y∈ys,(∃b,y = .bl b)\/∃p∈os,y = .int p)/\H4=upd H17 D (.lst ys)) ⟨zi _,rfl,(fun y hy=>by cases hy),rfl⟩ (fun i ys H4 z=>?_) (fun i ys H4 z=>?_) (fun i v ys H4 hv z=>?_) (fun ys H4 z=>?_)
 . obtain⟨_,_,_,rfl⟩:=z
   exact SqT.of (zF hD _ _ O17.ho)
 . obtain⟨hi,hl,_,_⟩:=z
   have:=hon.ol
   exact zr (by omega)
 . obtain⟨_,hl,hy,rfl⟩:=z
   obtain⟨x,hx,rfl⟩:=int_at hv
   refine⟨⟨rfl,rfl⟩,?_⟩
   refine zGe ?_
   have more:∀u:V,((∃b,u = .bl b)\/∃p∈os,u = .int p)->i+1<=os.length/\(ys++[u]).length=i+1/\(∀y∈ys++[u],(∃b,y = .bl b)\/∃p∈os,y = .int p)/\upd (upd H17 D (.lst ys)) D (.lst (ys++[u]))=upd H17 D (.lst (ys++[u])):=fun u hu=>⟨(zK.mp hx).1,by rw[zL,hl];rfl,fun y h=>by
    rcases zn.mp h with h | h
    . exact hy y h
    . rw[zj.mp h];exact hu,zBZ⟩
   refine⟨_,rfl,_,_,rfl,rfl,_,rfl,zDq (fun c=>?_) (fun c=>?_)⟩
   . exact⟨_,rfl,rfl,zG,more _ (.inl ⟨_,rfl⟩)⟩
   . exact⟨_,rfl,zG,more _ (.inr ⟨x,za hx,rfl⟩)⟩
 obtain⟨_,hyl,hy,rfl⟩:=z
 refine⟨D,_,rfl,.inl ⟨SqL.of zG,fun tr htr=>?_⟩⟩
 have s18:=(zF (o:=.lst ys) hD).trans (zF (o:=.tup ys) htr)
 have htr':(upd (upd H17 D (.lst ys)) tr (.tup ys)) tr=some (.tup ys):=zG
 have L18:LI (upd (upd H17 D (.lst ys)) tr (.tup ys)) l3 p1 p2 m ms3:=⟨s18 _ _ L17.h,L17.g0.keep (.same s18),L17.g1.keep (.same s18),fun x hx=>(L17.al x hx).keep (.same s18)⟩
 have O18:=O17.keep (.same s18)
 have I18:=I17.same s18
 have T18:=T17.keep s18
 generalize upd (upd H17 D (.lst ys)) tr (.tup ys)=H18 at L18 O18 I18 T18 htr'
 clear I17 O17 T17 L17 s18 htr hD
 have hyl':ys.length<=60:=by rw[hyl,zD];have:=hon.ol;omega
 have hye:∀y∈ys,Ev H18 100000 y:=fun y h=>by
  rcases hy y h with ⟨b,rfl⟩ | ⟨p,hp,rfl⟩
  . exact .bl b
  . have:=hon.ob p hp
    exact .int p (by omega)
 refine⟨_,rfl,⟨oa,na,m,os,nu⟩,⟨⟨rfl,rfl,O18⟩,tr,ys,rfl,htr',hyl',hye⟩,fun vs4 H19 s19 hl19 al19=>⟨hs _ (by rw[hl19];decide),fun b4 hb4=>?_⟩⟩
 have s19':=s19.trans (zF (o:=.lst vs4) hb4)
 refine⟨l3,b4,_,_,rfl,rfl,s19' _ _ L18.h,zG,hs _ (by rw[zT,zT,hv3,hl19];decide),fun so hso=>?_⟩
 have Lb:(∀x∈ms3++vs4,Thn (upd H19 b4 (.lst vs4)) (Ln m) x)/\Thn (upd H19 b4 (.lst vs4)) 60 (.ref p1)/\Thn (upd H19 b4 (.lst vs4)) 60 (.ref p2):=⟨fun x hx=>by
  rcases zn.mp hx with hx | hx
  . exact (L18.al x hx).keep (.same s19')
  . exact Thn.keep (al19 x hx) (.same (zF hb4)),L18.g0.keep (.same s19'),L18.g1.keep (.same s19')⟩
 have hv4:(ms3++vs4).length=14:=by rw[zL,hv3,hl19];rfl
 have Ob:=O18.keep (.same s19')
 have Ib:=I18.same s19'
 have Tb':=T18.keep s19'
 rw[show ((V.ref p1 :: .ref p2::ms3)++vs4) = .ref p1 :: .ref p2::(ms3++vs4) from rfl]
 generalize upd H19 b4 (.lst vs4)=Hb at Lb Ob Ib Tb' hso
 generalize ms3++vs4=ms at Lb hv4
 clear I18 O18 T18 L18 s19' s19 hb4 al19 hl19 hv3 hye htr' hy hyl hyl'
 obtain⟨alb,gb0,gb1⟩:=Lb
 have nst:=Tb'.ne hso
 obtain⟨N,eN⟩:∃N,N=1000*q+2+200+24+8+24:=⟨_,rfl⟩
 have Tb2:zAN Hb t N:=Tb'.mono (by omega)
 clear Tb'
 refine⟨_,rfl,?_⟩
 refine⟨3,rfl,by decide,by decide,zBT (lo:=0) (n:=3) (fun i σ H2=>∃(v11:Option V)(ba:Addr)(bs tl:List V),σ=[some (.ref a),some (.ref t),some (.int q),some (.ref wa),some (.ref sl),some (.ref oa),some (.ref na),w7,some (.ref so),some (.ref tr),some (.ref ba),v11,v12,v13,v14]/\Sm t Hb H2/\zAN H2 t (N+6*i)/\H2 so=some (.lst (.ref p1 :: .ref p2::ms++tl))/\tl.length=2*i/\(∀x∈tl,TB oa H2 x)/\H2 ba=some (.tup bs)/\bs.length<=256+i/\∀x∈bs,Ev H2 (7000+1000*i) x)
  ⟨_,na,nu.map V.int,[],rfl,Sm.laid hso,Tb2.laid hso,by rw[zG,zp],rfl,(fun x hx=>by cases hx),zF hso _ _ Ob.hn,by rw[zD];exact hon.nl,zCy hon.nb⟩ (fun i σ H2 hi z=>?_) (fun σ H2 z=>?_)⟩
 . obtain⟨w11,ba,bs,tl,rfl,s2,T2,h2,htl,al2,hba,hbl,hbe⟩:=z
   rw[zAJ]
   have O2:=Ob.keep (zEX.sm Tb2 s2)
   refine⟨_,rfl,.inl ⟨rfl,_,SqL.of h2⟩,?_⟩
   refine⟨_,rfl,_,rfl,_,rfl,t,na,N+6*i,7000,nu.map V.int,rfl,T2,by omega,O2.hn,by rw[zD];have:=hon.n2;omega,by rw[zD];have:=hon.nl;omega,zCy hon.nb,by decide,fun a1 ys1 H3 s3 T3 h3 l3' e3=>?_⟩
   refine⟨by show 2<=sizeLine;decide,fun q1 hq1=>?_⟩
   have s4:=zF (o:=.tup [.ref oa,.ref a1]) hq1
   have h4:=s4 _ _ (s3 _ _ nst h2)
   have hlen2:(V.ref p1 :: .ref p2::ms++tl).length<=100:=by rw[zL,zT,zT];omega
   refine⟨so,_,.ref q1,rfl,rfl,h4,zr (by omega),?_⟩
   have k24:∀(b:Addr)(zs:List V),H2 b=some (.tup zs)->(upd (upd H3 q1 (.tup [.ref oa,.ref a1])) so (.lst ((.ref p1 :: .ref p2::ms++tl)++[.ref q1]))) b=some (.tup zs):=fun b zs e=>by
    rw[zf (zBv e h2 (by intro z;cases z))]
    exact s4 _ _ (s3 _ _ (T2.neT e) e)
   have k34:∀(b:Addr)(zs:List V),(upd H3 q1 (.tup [.ref oa,.ref a1])) b=some (.tup zs)->(upd (upd H3 q1 (.tup [.ref oa,.ref a1])) so (.lst ((.ref p1 :: .ref p2::ms++tl)++[.ref q1]))) b=some (.tup zs):=fun b zs e=>by
    rw[zf (zBv e h4 (by intro z;cases z))];exact e
   have T4:=zAN.chgR (o:=.lst ((.ref p1 :: .ref p2::ms++tl)++[.ref q1])) (T3.keep s4) h4 nst
   have sb4:Sm t Hb (upd (upd H3 q1 (.tup [.ref oa,.ref a1])) so (.lst ((.ref p1 :: .ref p2::ms++tl)++[.ref q1]))):=((s2.trans s3).trans (Sm.of s4)).chg hso
   have h4s:(upd (upd H3 q1 (.tup [.ref oa,.ref a1])) so (.lst ((.ref p1 :: .ref p2::ms++tl)++[.ref q1]))) so=some (.lst (.ref p1 :: .ref p2::ms++(tl++[.ref q1]))):=by rw[zG,List.append_assoc]
   have al4:∀x∈tl++[V.ref q1],TB oa (upd (upd H3 q1 (.tup [.ref oa,.ref a1])) so (.lst ((.ref p1 :: .ref p2::ms++tl)++[.ref q1]))) x:=fun x hx=>by
    rcases zn.mp hx with hx | hx
    . exact (al2 x hx).keep k24
    . rw[zj.mp hx]
      exact⟨q1,a1,ys1,rfl,k34 _ _ zG,k34 _ _ (s4 _ _ h3),by rw[zD] at l3';have:=hon.nl;omega,fun y hy=>((e3 y hy).keep (by omega) fun c zs z=>k34 _ _ (s4 _ _ z))⟩
   have hba4:=k24 _ _ hba
   have hbe4:∀x∈bs,Ev (upd (upd H3 q1 (.tup [.ref oa,.ref a1])) so (.lst ((.ref p1 :: .ref p2::ms++tl)++[.ref q1]))) (7000+1000*i) x:=fun x hx=>(hbe x hx).keep (zH _) k24
   have O4:=Ob.keep (zEX.sm Tb2 sb4)
   have htl4:(tl++[V.ref q1]).length=2*i+1:=by rw[zL,htl];rfl
   generalize upd (upd H3 q1 (.tup [.ref oa,.ref a1])) so (.lst ((.ref p1 :: .ref p2::ms++tl)++[.ref q1]))=H5 at T4 sb4 h4s al4 hba4 hbe4 O4 ⊢
   generalize tl++[V.ref q1]=tl1 at h4s al4 htl4
   clear k24 k34 h4 s4 hq1 s3 T3 h3 l3' e3 s2 T2 h2 htl al2 hba hbe O2 hlen2
   refine⟨t,na,ba,_,7000+1000*i,256+i,nu,bs,rfl,rfl,rfl,T4,by omega,O4.hn,by have:=hon.nl;omega,fun x hx=>by have:=hon.nb x hx;omega,hba4,hbl,by omega,hbe4,by omega,fun b5 ys5 H6 s6 T6 h6 l6 e6=>?_⟩
   have h6s:=s6 _ _ nst h4s
   refine⟨_,rfl,.inl ⟨rfl,_,SqL.of h6s⟩,?_⟩
   refine⟨_,rfl,_,rfl,by show 2<=sizeLine;decide,fun q2 hq2=>?_⟩
   have s7:=zF (o:=.tup [.ref oa,.ref b5]) hq2
   have h7:=s7 _ _ h6s
   refine⟨so,_,.ref q2,rfl,rfl,h7,zr (by rw[zL,zT,zT];omega),?_⟩
   have k57:∀(b:Addr)(zs:List V),H5 b=some (.tup zs)->(upd (upd H6 q2 (.tup [.ref oa,.ref b5])) so (.lst ((.ref p1 :: .ref p2::ms++tl1)++[.ref q2]))) b=some (.tup zs):=fun b zs e=>by
    rw[zf (zBv e h4s (by intro z;cases z))]
    exact s7 _ _ (s6 _ _ (T4.neT e) e)
   have k67:∀(b:Addr)(zs:List V),(upd H6 q2 (.tup [.ref oa,.ref b5])) b=some (.tup zs)->(upd (upd H6 q2 (.tup [.ref oa,.ref b5])) so (.lst ((.ref p1 :: .ref p2::ms++tl1)++[.ref q2]))) b=some (.tup zs):=fun b zs e=>by
    rw[zf (zBv e h7 (by intro z;cases z))];exact e
   have k6':∀(b:Addr)(zs:List V),H6 b=some (.tup zs)->(upd (upd H6 q2 (.tup [.ref oa,.ref b5])) so (.lst ((.ref p1 :: .ref p2::ms++tl1)++[.ref q2]))) b=some (.tup zs):=fun b zs e=>k67 _ _ (s7 _ _ e)
   refine⟨_,b5,ys5,tl1++[.ref q2],rfl,((sb4.trans s6).trans (Sm.of s7)).chg hso,(zAN.chgR (T6.keep s7) h7 nst).mono (by omega),by rw[zG,List.append_assoc],by rw[zL,htl4];show 2*i+1+1=_;omega,fun x hx=>?_,k6' _ _ h6,by omega,fun x hx=>((e6 x hx).keep (by omega) k6')⟩
   rcases zn.mp hx with hx | hx
   . exact (al4 x hx).keep k57
   . rw[zj.mp hx]
     exact⟨q2,b5,ys5,rfl,k67 _ _ zG,k6' _ _ h6,by omega,fun y hy=>((e6 y hy).keep (by omega) k6')⟩
 . obtain⟨w11,ba,bs,tl,rfl,s2,T2,h2,htl,al2,hba,hbl,hbe⟩:=z
   have kb:=zEX.sm Tb2 s2
   have Oc:=Ob.keep kb
   have Ic:=Ib.sm Tb2 s2
   obtain⟨tac,tysc,hwac,htac,TUc,Gc⟩:=id Ic.wb
   refine⟨a,t,wa,tac,sl,so,_,_,_,_,_,_,_,_,_,_,m,.ref p1,.ref p2,ms,tl,rfl,hwac,h2,by omega,htl,gb0.keep kb,gb1.keep kb,fun x hx=>(alb x hx).keep kb,fun x hx=>(al2 x hx).thn Oc,fun so zs H3 s3 h3 al3=>?_⟩
   have I3:=Ic.same s3
   have T3:zAN H3 t (1000*(q+1)):=(T2.keep s3).mono (by omega)
   clear Ic Ib Ob Oc kb T2 s2 h2 al2 hba hbe Tb2 hso nst alb gb0 gb1
   have asks:∀{H4:Hp}{x:V},SmP PT H3 H4->x∈zs->∃d,zBA H4 x d/\Fn 1048576 50 d/\S64 d:=fun sm hx=>let ⟨d,S,fn,s64⟩:=(al3 _ hx).shows;⟨d,zDI sm S,fn,s64⟩
   refine⟨_,rfl,so,rfl,⟨_,SqL.of h3⟩,zDt (K:=K) (a:=so) (xs:=zs) (fun j σ H4=>∃v12:Option V,σ=[some (.ref a),some (.ref t),some (.int q),some (.ref wa),some (.ref sl),some (.ref oa),some (.ref na),w7,some (.ref so),some (.ref tr),some (.ref ba),w11,v12,v13,v14]/\SmP PT H3 H4/\Tb H4 PT) ⟨_,rfl,SmP.refl _,I3.tb⟩ (fun j σ H4 _ z=>?_) (fun j x σ H4 hx z=>?_) (fun σ H4 z=>?_)⟩
   . obtain⟨_,_,sm,_⟩:=z
     exact SqL.of (sm.get h3 (by intro ps z;cases z))
   . obtain⟨w12,rfl,sm,B4⟩:=z
     obtain⟨d,S,fn,s64⟩:=asks sm (za hx)
     refine⟨_,rfl,_,rfl,_,rfl,wa,sl,x,d,m,ts,R,rfl,⟨I3.wb.smP sm,S,I3.sr,B4⟩,I3.st.smT sm,fn,fun _=>s64,fun H5 sm5 B5=>?_⟩
     exact⟨true,rfl,zCe ⟨_,rfl,sm.trans sm5,B5⟩⟩
   . obtain⟨w12,rfl,sm4,B4⟩:=z
     have I4:=I3.smP sm4 B4
     obtain⟨ta4,tys4,hwa4,hta4,TU4,G4⟩:=id I4.wb
     refine⟨_,rfl,wa,_,_,_,rfl,rfl,SqT.of hwa4,rfl,_,rfl,wa,_,_,.ref ta4,rfl,rfl,SqT.of hwa4,rfl,_,rfl,ta4,_,rfl,hta4,fun p H5 s5 hp=>?_⟩
     refine⟨by show 2<=sizeLine;decide,fun tw htw=>?_⟩
     have s6:=zF (o:=.tup [.int m,.ref p]) htw
     obtain⟨ts',TU',G',_⟩:=zHo TU4 G4 (some 1) none
     have W6:zBj (upd H5 tw (.tup [.int m,.ref p])) tw m ts':=⟨p,_,zG,s6 _ _ hp,TU'.keep fun b ys e=>s6 _ _ (s5 _ _ e),G'⟩
     have s56:=s5.trans s6
     generalize upd H5 tw (.tup [.int m,.ref p])=H6 at W6 s56
     refine⟨_,rfl,tw,_,ts',rfl,W6,by omega,fun sl2 R2 H7 s7 ST7 SR7=>?_⟩
     have s47:=s56.trans s7
     have sm7:=sm4.trans (SmP.of s47)
     have B7:=B4.same s47
     have W7:=W6.keep s7
     have h7:H7 so=some (.lst zs):=sm7.get h3 (by intro ps z;cases z)
     refine⟨_,rfl,_,rfl,so,_,rfl,SqL.of h7,fun l8 hl8=>?_⟩
     have s8:=zF (o:=.lst (zC0 zs none (some 2))) hl8
     have W8:=W7.keep s8
     have ST8:=ST7.same s8
     have sm8:=sm7.trans (SmP.of s8)
     have B8:=B7.same s8
     have h8:(upd H7 l8 (.lst (zC0 zs none (some 2)))) l8=some (.lst (zC0 zs none (some 2))):=zG
     generalize upd H7 l8 (.lst (zC0 zs none (some 2)))=H8 at W8 ST8 sm8 B8 h8
     refine⟨l8,rfl,⟨_,SqL.of h8⟩,zDt (K:=K) (a:=l8) (xs:=zC0 zs none (some 2)) (fun j σ H9=>∃v12:Option V,σ=[some (.ref a),some (.ref t),some (.int q),some (.ref wa),some (.ref sl),some (.ref oa),some (.ref na),w7,some (.ref so),some (.ref tr),some (.ref ba),w11,v12,some (.ref tw),some (.ref sl2)]/\SmP PT H8 H9/\Tb H9 PT) ⟨_,rfl,SmP.refl _,B8⟩ (fun j σ H9 _ z=>?_) (fun j x σ H9 hx z=>?_) (fun σ H9 z=>?_)⟩
     . obtain⟨_,_,sm,_⟩:=z
       exact SqL.of (sm.get h8 (by intro ps z;cases z))
     . obtain⟨w12',rfl,sm9,B9⟩:=z
       obtain⟨d,S,fn,s64⟩:=asks (sm8.trans sm9) (zCz (za hx))
       refine⟨_,rfl,_,rfl,_,rfl,tw,sl2,x,d,m,ts',R2,rfl,⟨W8.smP sm9,S,SR7,B9⟩,ST8.smT sm9,fn,fun _=>s64,fun H10 sm10 B10=>?_⟩
       refine⟨true,rfl,zCe ?_⟩
       have smA:=sm9.trans sm10
       refine⟨_,rfl,_,rfl,_,rfl,wa,sl,x,d,m,ts,R,rfl,⟨I3.wb.smP (sm8.trans smA),zDI sm10 S,I3.sr,B10⟩,I3.st.smT (sm8.trans smA),fn,fun _=>s64,fun H11 sm11 B11=>?_⟩
       exact⟨true,rfl,zCe ⟨_,rfl,smA.trans sm11,B11⟩⟩
     . obtain⟨w12',rfl,sm9,B9⟩:=z
       exact⟨_,_,_,_,_,_,_,_,_,_,_,_,_,rfl,T3.smT (sm8.trans sm9),B9⟩
end K35
namespace K35
open PySem L2 WM
variable {P:Program}{w:World}{K:PySem.W.Frag}{mg:sOV}{base:Heap}{PT:Addr}{X:Cx}
variable {K:PySem.W.Frag}
theorem fkM (x q:Str)(st:Stmt)(f:Addr)(pm cd:Value)(l:K.lookup f=some ⟨.type "function",.none,.func (PySem.W.fnOf x q (defArgs st) (defBody st) (defScope st) .none .none .none pm .none cd .none),#[]⟩:=by kernel_rfl) (c:PySem.W.codeIn K cd q=true:=by kernel_rfl)(k:PySem.W.keepIn K (.ref f)=true:=by kernel_rfl):Fun K x q st f (PySem.W.fnOf x q (defArgs st) (defBody st) (defScope st) .none .none .none pm .none cd .none):=zLu l c k
theorem zII:∀{us:List Value},us.length=1->∃u0,us=[u0]
 | [u0],_=>⟨u0,rfl⟩
theorem zDy:∀{us:List Value},us.length=2->∃u0 u1,us=[u0,u1]
 | [u0,u1],_=>⟨u0,u1,rfl⟩
theorem zLy:∀{us:List Value},us.length=3->∃u0 u1 u2,us=[u0,u1,u2]
 | [u0,u1,u2],_=>⟨u0,u1,u2,rfl⟩
theorem usl4:∀{us:List Value},us.length=4->∃u0 u1 u2 u3,us=[u0,u1,u2,u3]
 | [u0,u1,u2,u3],_=>⟨u0,u1,u2,u3,rfl⟩
theorem walk {l:PySem.W.OpenLaw}{q:Program}{loose:List Str}{XP:(Str->Option Value)->Heap->Prop}{YP:World->Heap->Prop}{d:DefRec}{K:Params->PySem.W.Frag}(hn:l.most=some 63)(hdf:d.params.defaults=[])(hrec:∃dn,(PyProof.Rows.recsOf q).find? (fun e=>e.name==("nearest" : Str))=some dn)
 (hY:∀(w:World)(h:Heap),YP w h->(K w.params).In h)
 (F:∀(w:World)(mg:sOV)(fa:Addr)(h:Heap),(K w.params).In h->h.Ns mainGlobals mg->mg d.name=some (.ref fa) ->
  ∃(fd:FuncData)(c P:Addr),PySem.W.tabIn (K w.params) "nearest" = some (c,P)/\PySem.W.noTabs (K w.params)=true/\(∀(s:Shared)(u:Value),BindsTo s fd ⟨[u],[]⟩ [("_law_script",u)])/\∀base:Heap,(K w.params).In base->base.Ns mainGlobals mg->zKH mg base->zAe l.prog w (K w.params) mg base CX0 11 fa fd ["_law_script"] (zKS (K w.params) P)) :
 PySem.W.WalkO q loose XP YP l.row.toRowW d [] (fun f vs=>PySem.call f vs):=
 L2.walk_T (n:=63) (k:=11) (x := "_law_script") (tn := "nearest") (CX:=CX0) (sp:=zKS) hn (by decide) hdf ⟨rfl,by decide,by decide,rfl⟩ hrec hY F (fun _ _ _ a ns hl hP hS=>⟨a,ns,rfl,hS,hl,hP,fun _=>rfl⟩) fun _ _ _ _ z=>z
theorem fk (x:Str)(st:Stmt)(f:Addr)(pm cd:Value)(l:K.lookup f=some ⟨.type "function",.none,.func (PySem.W.fnOf x x (defArgs st) (defBody st) (defScope st) .none .none .none pm .none cd .none),#[]⟩:=by kernel_rfl) (c:PySem.W.codeIn K cd x=true:=by kernel_rfl)(k:PySem.W.keepIn K (.ref f)=true:=by kernel_rfl):Fun K x x st f (PySem.W.fnOf x x (defArgs st) (defBody st) (defScope st) .none .none .none pm .none cd .none):=zLu l c k
theorem fkC (x:Str)(st:Stmt)(f:Addr)(pm:Value)(cc:Addr)(l:K.lookup f=some ⟨.type "function",.none,.func (PySem.W.fnOf x x (defArgs st) (defBody st) (defScope st) .none .none .none pm .none (.ref cc) .none),#[]⟩:=by kernel_rfl) (c:PySem.W.codeIn K (.ref cc) x=true:=by kernel_rfl)(k:PySem.W.keepIn K (.ref f)=true:=by kernel_rfl):zLT K x x st f (PySem.W.fnOf x x (defArgs st) (defBody st) (defScope st) .none .none .none pm .none (.ref cc) .none) cc:=zND l c k
noncomputable def dL:DefRec:={ name := "law",params:=defArgs sLaw,body:=defBody sLaw,scope:=defScope sLaw,pos:=⟨304,0,335,15⟩ }
theorem facts (w:World)(mg:sOV)(fa:Addr)(h:Heap)(KX:(Kf w.params).In h)(G:h.Ns mainGlobals mg)(hmg:mg "law" = some (.ref fa)):∃(fd:FuncData)(c P:Addr),PySem.W.tabIn (Kf w.params) "nearest" = some (c,P)/\PySem.W.noTabs (Kf w.params)=true/\(∀(s:Shared)(u:Value),BindsTo s fd ⟨[u],[]⟩ [("_law_script",u)])/\∀base:Heap,(Kf w.params).In base->base.Ns mainGlobals mg->zKH mg base->zAe (PySem.Challenge.rw_labelways_k35_least_orders_judged).prog w (Kf w.params) mg base CX0 11 fa fd ["_law_script"] (zKS (Kf w.params) P):=by
 have mk:∀(x:Str)(f:Addr),PySem.W.nsIn (Kf w.params) mainGlobals x=some (some (.ref f))->mg x=some (.ref f):=fun x f e=>PySem.W.mg_of KX G e
 have mn:∀x:Str,PySem.W.nsIn (Kf w.params) mainGlobals x=some none->mg x=none:=fun x e=>PySem.W.mg_none_of KX G e
 have FTa:=fk (K:=Kf w.params) "_law_tape" zKa 360 qL (vR 359)
 have bTa:=FTa.binds (ps:=["_law_script"]) fun _ _ _ _ _ _ us hl=>by obtain⟨u0,rfl⟩:=zII hl;rfl
 have mTa:=mk "_law_tape" 360 (by kernel_rfl)
 have FD:=fk (K:=Kf w.params) "_law_draw" zEa 367 qL (vR 366)
 have bD:=FD.binds (ps:=["_law_tape_here", "_law_many"]) fun _ _ _ _ _ _ us hl=>by obtain⟨u0,u1,rfl⟩:=zDy hl;rfl
 have mD:=mk "_law_draw" 367 (by kernel_rfl)
 have FSm:=fk (K:=Kf w.params) "_law_small" zFw 374 qL (vR 373)
 have bSm:=FSm.binds (ps:=["_law_tape_here"]) fun _ _ _ _ _ _ us hl=>by obtain⟨u0,rfl⟩:=zII hl;rfl
 have mSm:=mk "_law_small" 374 (by kernel_rfl)
 have FW:=fk (K:=Kf w.params) "_law_web" sWeb 379 qL (vR 378)
 have bW:=FW.binds (ps:=["_law_tape_here", "_law_n"]) fun _ _ _ _ _ _ us hl=>by obtain⟨u0,u1,rfl⟩:=zDy hl;rfl
 have mW:=mk "_law_web" 379 (by kernel_rfl)
 have FT:=fk (K:=Kf w.params) "ties_at" zGk 234 (qS "labelways.webs" 477) (vR 233)
 have bT:=FT.binds (ps:=["web", "place"]) fun _ _ _ _ _ _ us hl=>by obtain⟨u0,u1,rfl⟩:=zDy hl;rfl
 have mT:=mk "ties_at" 234 (by kernel_rfl)
 have FNe:=fkC (K:=Kf w.params) "nearest" zIl 253 (qS "labelways.lengths" 491) 252
 have bNe:=FNe.fn.binds (ps:=["waiting"]) fun _ _ _ _ _ _ us hl=>by obtain⟨u0,rfl⟩:=zII hl;rfl
 have mNe:=mk "nearest" 253 (by kernel_rfl)
 have FF:=fk (K:=Kf w.params) "lengths_from" zIq 246 (qS "labelways.lengths" 491) (vR 245)
 have bF:=FF.binds (ps:=["web", "start"]) fun _ _ _ _ _ _ us hl=>by obtain⟨u0,u1,rfl⟩:=zDy hl;rfl
 have mF:=mk "lengths_from" 246 (by kernel_rfl)
 have FLe:=fk (K:=Kf w.params) "lengths" zHs 239 (qS "labelways.lengths" 491) (vR 238)
 have bLe:=FLe.binds (ps:=["web"]) fun _ _ _ _ _ _ us hl=>by obtain⟨u0,rfl⟩:=zII hl;rfl
 have mLe:=mk "lengths" 239 (by kernel_rfl)
 have FBw:=fk (K:=Kf w.params) "between_rows" sBwr 258 (qS "labelways.lengths" 491) (vR 257)
 have bBw:=FBw.binds (ps:=["here", "there", "other"]) fun _ _ _ _ _ _ us hl=>by obtain⟨u0,u1,u2,rfl⟩:=zLy hl;rfl
 have mBw:=mk "between_rows" 258 (by kernel_rfl)
 have FNb:=fk (K:=Kf w.params) "next_by_row" sNbr 263 (qS "labelways.lengths" 491) (vR 262)
 have bNb:=FNb.binds (ps:=["web", "one", "there"]) fun _ _ _ _ _ _ us hl=>by obtain⟨u0,u1,u2,rfl⟩:=zLy hl;rfl
 have mNb:=mk "next_by_row" 263 (by kernel_rfl)
 have FNu:=fk (K:=Kf w.params) "is_number" zMP 206 (qS "labelways.kinds" 443) (vR 205)
 have bNu:=FNu.binds (ps:=["thing"]) fun _ _ _ _ _ _ us hl=>by obtain⟨u0,rfl⟩:=zII hl;rfl
 have mNu:=mk "is_number" 206 (by kernel_rfl)
 have FWi:=fk (K:=Kf w.params) "is_within" sWi 213 (qS "labelways.kinds" 443) (vR 212)
 have bWi:=FWi.binds (ps:=["thing", "least", "most"]) fun _ _ _ _ _ _ us hl=>by obtain⟨u0,u1,u2,rfl⟩:=zLy hl;rfl
 have mWi:=mk "is_within" 213 (by kernel_rfl)
 have FPl:=fk (K:=Kf w.params) "is_place" sPl 227 (qS "labelways.kinds" 443) (vR 226)
 have bPl:=FPl.binds (ps:=["n", "thing"]) fun _ _ _ _ _ _ us hl=>by obtain⟨u0,u1,rfl⟩:=zDy hl;rfl
 have mPl:=mk "is_place" 227 (by kernel_rfl)
 have FTo:=fk (K:=Kf w.params) "is_tuple_of" sTof 220 (qS "labelways.kinds" 443) (vR 219)
 have bTo:=FTo.binds (ps:=["thing", "count"]) fun _ _ _ _ _ _ us hl=>by obtain⟨u0,u1,rfl⟩:=zDy hl;rfl
 have mTo:=mk "is_tuple_of" 220 (by kernel_rfl)
 have FIo:=fk (K:=Kf w.params) "is_order" sOrd 268 (qS "labelways.orders" 533) (vR 267)
 have bIo:=FIo.binds (ps:=["web", "thing"]) fun _ _ _ _ _ _ us hl=>by obtain⟨u0,u1,rfl⟩:=zDy hl;rfl
 have mIo:=mk "is_order" 268 (by kernel_rfl)
 have FBy:=fk (K:=Kf w.params) "by_order" sByo 273 (qS "labelways.orders" 533) (vR 272)
 have bBy:=FBy.binds (ps:=["web", "order"]) fun _ _ _ _ _ _ us hl=>by obtain⟨u0,u1,rfl⟩:=zDy hl;rfl
 have mBy:=mk "by_order" 273 (by kernel_rfl)
 have FLb:=fk (K:=Kf w.params) "label_by_ranks" sLbr 278 (qS "labelways.orders" 533) (vR 277)
 have bLb:=FLb.binds (ps:=["web", "rows", "ranks", "place"]) fun _ _ _ _ _ _ us hl=>by obtain⟨u0,u1,u2,u3,rfl⟩:=usl4 hl;rfl
 have mLb:=mk "label_by_ranks" 278 (by kernel_rfl)
 have FIh:=fk (K:=Kf w.params) "is_hub" sIsh 283 (qS "labelways.orders" 533) (vR 282)
 have bIh:=FIh.binds (ps:=["rows", "ranks", "hub", "place"]) fun _ _ _ _ _ _ us hl=>by obtain⟨u0,u1,u2,u3,rfl⟩:=usl4 hl;rfl
 have mIh:=mk "is_hub" 283 (by kernel_rfl)
 have FEb:=fk (K:=Kf w.params) "entry_by_rows" sEbr 290 (qS "labelways.orders" 533) (vR 289)
 have bEb:=FEb.binds (ps:=["web", "rows", "place", "hub"]) fun _ _ _ _ _ _ us hl=>by obtain⟨u0,u1,u2,u3,rfl⟩:=usl4 hl;rfl
 have mEb:=mk "entry_by_rows" 290 (by kernel_rfl)
 have FTt:=fk (K:=Kf w.params) "total" sTot 295 (qS "labelways.orders" 533) (vR 294)
 have bTt:=FTt.binds (ps:=["labels"]) fun _ _ _ _ _ _ us hl=>by obtain⟨u0,rfl⟩:=zII hl;rfl
 have mTt:=mk "total" 295 (by kernel_rfl)
 have FCf:=fk (K:=Kf w.params) "count_free" sCf 300 (qS "labelways.leasts" 577) (vR 299)
 have bCf:=FCf.binds (ps:=["sets", "taken"]) fun _ _ _ _ _ _ us hl=>by obtain⟨u0,u1,rfl⟩:=zDy hl;rfl
 have mCf:=mk "count_free" 300 (by kernel_rfl)
 have FSf:=fk (K:=Kf w.params) "sets_from" sSf 305 (qS "labelways.leasts" 577) (vR 304)
 have bSf:=FSf.binds (ps:=["rows", "hub"]) fun _ _ _ _ _ _ us hl=>by obtain⟨u0,u1,rfl⟩:=zDy hl;rfl
 have mSf:=mk "sets_from" 305 (by kernel_rfl)
 have FSn:=fk (K:=Kf w.params) "set_number" sSn 310 (qS "labelways.leasts" 577) (vR 309)
 have bSn:=FSn.binds (ps:=["places"]) fun _ _ _ _ _ _ us hl=>by obtain⟨u0,rfl⟩:=zII hl;rfl
 have mSn:=mk "set_number" 310 (by kernel_rfl)
 have FLt:=fk (K:=Kf w.params) "lets_least" zIn 317 (qS "labelways.leasts" 577) (vR 316)
 have bLt:=FLt.binds (ps:=["web", "thing"]) fun _ _ _ _ _ _ us hl=>by obtain⟨u0,u1,rfl⟩:=zDy hl;rfl
 have mLt:=mk "lets_least" 317 (by kernel_rfl)
 have FRt:=fk (K:=Kf w.params) "refuse_too_many" sRtm 324 (qS "labelways.leasts" 577) (vR 323)
 have bRt:=FRt.binds (ps:=["web"]) fun _ _ _ _ _ _ us hl=>by obtain⟨u0,rfl⟩:=zII hl;rfl
 have mRt:=mk "refuse_too_many" 324 (by kernel_rfl)
 have FOw:=fk (K:=Kf w.params) "is_order_with_numbers" zIo 329 (qS "labelways.leasts" 577) (vR 328)
 have bOw:=FOw.binds (ps:=["web", "thing"]) fun _ _ _ _ _ _ us hl=>by obtain⟨u0,u1,rfl⟩:=zDy hl;rfl
 have mOw:=mk "is_order_with_numbers" 329 (by kernel_rfl)
 have FSx:=fk (K:=Kf w.params) "step_fault" zIk 336 (qS "labelways.leasts" 577) (vR 335)
 have bSx:=FSx.binds (ps:=["web", "numbers"]) fun _ _ _ _ _ _ us hl=>by obtain⟨u0,u1,rfl⟩:=zDy hl;rfl
 have mSx:=mk "step_fault" 336 (by kernel_rfl)
 have FAs:=fk (K:=Kf w.params) "all_sets" zIr 341 (qS "labelways.leasts" 577) (vR 340)
 have bAs:=FAs.binds (ps:=["web"]) fun _ _ _ _ _ _ us hl=>by obtain⟨u0,rfl⟩:=zII hl;rfl
 have mAs:=mk "all_sets" 341 (by kernel_rfl)
 have FLp:=fk (K:=Kf w.params) "left_places" sLpl 346 (qS "labelways.leasts" 577) (vR 345)
 have bLp:=FLp.binds (ps:=["web", "taken"]) fun _ _ _ _ _ _ us hl=>by obtain⟨u0,u1,rfl⟩:=zDy hl;rfl
 have mLp:=mk "left_places" 346 (by kernel_rfl)
 have FBo:=fk (K:=Kf w.params) "by_way_of" sBwo 353 (qS "labelways.leasts" 577) (vR 352)
 have bBo:=FBo.binds (ps:=["sets", "numbers", "taken", "hub"]) fun _ _ _ _ _ _ us hl=>by obtain⟨u0,u1,u2,u3,rfl⟩:=usl4 hl;rfl
 have mBo:=mk "by_way_of" 353 (by kernel_rfl)
 have FA:=fk (K:=Kf w.params) "_law_added" sAdd 386 qL (vR 385)
 have bA:=FA.binds (ps:=["_law_one", "_law_other"]) fun _ _ _ _ _ _ us hl=>by obtain⟨u0,u1,rfl⟩:=zDy hl;rfl
 have mA:=mk "_law_added" 386 (by kernel_rfl)
 have FLs:=fk (K:=Kf w.params) "_law_lesser" sLes 393 qL (vR 392)
 have bLs:=FLs.binds (ps:=["_law_one", "_law_other"]) fun _ _ _ _ _ _ us hl=>by obtain⟨u0,u1,rfl⟩:=zDy hl;rfl
 have mLs:=mk "_law_lesser" 393 (by kernel_rfl)
 have FFr:=fk (K:=Kf w.params) "_law_far" sFar 398 qL (vR 397)
 have bFr:=FFr.binds (ps:=["_law_web_here"]) fun _ _ _ _ _ _ us hl=>by obtain⟨u0,rfl⟩:=zII hl;rfl
 have mFr:=mk "_law_far" 398 (by kernel_rfl)
 have FO:=fk (K:=Kf w.params) "_law_on" sOn 405 qL (vR 404)
 have bO:=FO.binds (ps:=["_law_far_here", "_law_place", "_law_one", "_law_other"]) fun _ _ _ _ _ _ us hl=>by obtain⟨u0,u1,u2,u3,rfl⟩:=usl4 hl;rfl
 have mO:=mk "_law_on" 405 (by kernel_rfl)
 have FOr:=fk (K:=Kf w.params) "_law_order" zHI 412 qL (vR 411)
 have bOr:=FOr.binds (ps:=["_law_tape_here", "_law_n"]) fun _ _ _ _ _ _ us hl=>by obtain⟨u0,u1,rfl⟩:=zDy hl;rfl
 have mOr:=mk "_law_order" 412 (by kernel_rfl)
 have FIq:=fk (K:=Kf w.params) "_law_is_order" sIso 417 qL (vR 416)
 have bIq:=FIq.binds (ps:=["_law_n", "_law_thing"]) fun _ _ _ _ _ _ us hl=>by obtain⟨u0,u1,rfl⟩:=zDy hl;rfl
 have mIq:=mk "_law_is_order" 417 (by kernel_rfl)
 have FMa:=fk (K:=Kf w.params) "_law_masks" zKb 422 qL (vR 421)
 have bMa:=FMa.binds (ps:=["_law_web_here"]) fun _ _ _ _ _ _ us hl=>by obtain⟨u0,rfl⟩:=zII hl;rfl
 have mMa:=mk "_law_masks" 422 (by kernel_rfl)
 have FBr:=fk (K:=Kf w.params) "_law_brought" zLh 427 qL (vR 426)
 have bBr:=FBr.binds (ps:=["_law_masks_here", "_law_some", "_law_hub"]) fun _ _ _ _ _ _ us hl=>by obtain⟨u0,u1,u2,rfl⟩:=zLy hl;rfl
 have mBr:=mk "_law_brought" 427 (by kernel_rfl)
 have FIn:=fk (K:=Kf w.params) "_law_in_all" zIp 434 qL (vR 433)
 have bIn:=FIn.binds (ps:=["_law_masks_here", "_law_order_here"]) fun _ _ _ _ _ _ us hl=>by obtain⟨u0,u1,rfl⟩:=zDy hl;rfl
 have mIn:=mk "_law_in_all" 434 (by kernel_rfl)
 have FLl:=fk (K:=Kf w.params) "_law_least" zKc 439 qL (vR 438)
 have bLl:=FLl.binds (ps:=["_law_masks_here"]) fun _ _ _ _ _ _ us hl=>by obtain⟨u0,rfl⟩:=zII hl;rfl
 have mLl:=mk "_law_least" 439 (by kernel_rfl)
 have FLz:=fk (K:=Kf w.params) "_law_least_order" sLeo 444 qL (vR 443)
 have bLz:=FLz.binds (ps:=["_law_tape_here", "_law_masks_here", "_law_least_here"]) fun _ _ _ _ _ _ us hl=>by obtain⟨u0,u1,u2,rfl⟩:=zLy hl;rfl
 have mLz:=mk "_law_least_order" 444 (by kernel_rfl)
 have FSt:=fk (K:=Kf w.params) "_law_step_fault" zIj 451 qL (vR 450)
 have bSt:=FSt.binds (ps:=["_law_masks_here", "_law_numbers"]) fun _ _ _ _ _ _ us hl=>by obtain⟨u0,u1,rfl⟩:=zDy hl;rfl
 have mSt:=mk "_law_step_fault" 451 (by kernel_rfl)
 have FLf:=fk (K:=Kf w.params) "_law_least_fault" zIm 456 qL (vR 455)
 have bLf:=FLf.binds (ps:=["_law_masks_here", "_law_thing"]) fun _ _ _ _ _ _ us hl=>by obtain⟨u0,u1,rfl⟩:=zDy hl;rfl
 have mLf:=mk "_law_least_fault" 456 (by kernel_rfl)
 have FFo:=fk (K:=Kf w.params) "_law_least_found" sFou 463 qL (vR 462)
 have bFo:=FFo.binds (ps:=["_law_web_here", "_law_thing"]) fun _ _ _ _ _ _ us hl=>by obtain⟨u0,u1,rfl⟩:=zDy hl;rfl
 have mFo:=mk "_law_least_found" 463 (by kernel_rfl)
 have FBe:=fk (K:=Kf w.params) "_law_numbers_bent" zKd 470 qL (vR 469)
 have bBe:=FBe.binds (ps:=["_law_tape_here", "_law_numbers"]) fun _ _ _ _ _ _ us hl=>by obtain⟨u0,u1,rfl⟩:=zDy hl;rfl
 have mBe:=mk "_law_numbers_bent" 470 (by kernel_rfl)
 have FR:=fk (K:=Kf w.params) "_law_right" zHH 477 qL (vR 476)
 have bR:=FR.binds (ps:=["_law_web_here", "_law_masks_here", "_law_thing"]) fun _ _ _ _ _ _ us hl=>by obtain⟨u0,u1,u2,rfl⟩:=zLy hl;rfl
 have mR:=mk "_law_right" 477 (by kernel_rfl)
 have FZ:=fk (K:=Kf w.params) "law" sLaw 482 qL (vR 481)
 have mb0:=mn "len" (by kernel_rfl)
 have mb1:=mn "range" (by kernel_rfl)
 have mb2:=mn "tuple" (by kernel_rfl)
 have mb3:=mn "sorted" (by kernel_rfl)
 have mb4:=mn "min" (by kernel_rfl)
 have mb5:=mn "list" (by kernel_rfl)
 have mb6:=mn "isinstance" (by kernel_rfl)
 have mb7:=mn "int" (by kernel_rfl)
 have mb8:=mn "bool" (by kernel_rfl)
 have mb9:=mn "all" (by kernel_rfl)
 have mb10:=mn "set" (by kernel_rfl)
 have mb11:=mn "sum" (by kernel_rfl)
 have mb12:=mn "enumerate" (by kernel_rfl)
 have mb13:=mn "repr" (by kernel_rfl)
 have mb14:=mn "ValueError" (by kernel_rfl)
 have e:=hmg.symm.trans (mk "law" 482 (by kernel_rfl))
 cases e
 have FI:=fkM (K:=Kf w.params) "__init__" "NoLeast.__init__" sI1 60 (qS "labelways.errors" 187) (vR 59)
 have bI:=FI.binds (ps:=["self", "word", "at"]) fun _ _ _ _ _ _ us hl=>by obtain⟨u0,u1,u2,rfl⟩:=zLy hl;rfl
 have Er:E35 (Kf w.params) mg 24 63 197 [44,113,173,82,149,137,185,101,161,125]:=⟨mk "WayError" 24 (by kernel_rfl),by kernel_rfl,mk "NoLeast" 63 (by kernel_rfl),mk "TooMany" 197 (by kernel_rfl),by kernel_rfl,by kernel_rfl,by kernel_rfl,⟨by kernel_rfl,by kernel_rfl,by kernel_rfl,by kernel_rfl,by kernel_rfl,by kernel_rfl⟩,⟨by kernel_rfl,by kernel_rfl,by kernel_rfl,by kernel_rfl,by kernel_rfl,by kernel_rfl⟩,(by show [mg "NoLabels",mg "NoOrder",mg "NoPart",mg "NoPlan",mg "NoPosts",mg "NoRing",mg "NoRow",mg "NoText",mg "NoTie",mg "NoTree"]=_;rw[mk "NoLabels" 44 (by kernel_rfl),mk "NoOrder" 113 (by kernel_rfl),mk "NoPart" 173 (by kernel_rfl),mk "NoPlan" 82 (by kernel_rfl),mk "NoPosts" 149 (by kernel_rfl),mk "NoRing" 137 (by kernel_rfl),mk "NoRow" 185 (by kernel_rfl),mk "NoText" 101 (by kernel_rfl),mk "NoTie" 161 (by kernel_rfl),mk "NoTree" 125 (by kernel_rfl)];rfl),by kernel_rfl,by kernel_rfl,by kernel_rfl,by kernel_rfl,by kernel_rfl,by kernel_rfl,by kernel_rfl,by kernel_rfl,by kernel_rfl⟩
 have EI:zHh (Kf w.params) 63 60:=⟨by kernel_rfl,by kernel_rfl,by kernel_rfl,by kernel_rfl,by kernel_rfl⟩
 have mo:PySem.W.mroIn (Kf w.params) 63 (.type "object")=some true:=by kernel_rfl
 have mMT:mg "MOST_PLACES_OF_LEASTS" = some (.int 8 579):=PySem.W.mg_of KX G (by kernel_rfl)
 exact⟨_,252,248,by kernel_rfl,by kernel_rfl,fun s v=>.of_eq rfl,fun base hb _ hbm=>ok_law FZ (PySem.W.codeHd_of_K hb (show PySem.W.codeHdIn (Kf w.params) 252 248=true by kernel_rfl)) hbm Er EI FI bI mo mMT ⟨FTa,bTa,mTa⟩ ⟨FD,bD,mD⟩ ⟨FSm,bSm,mSm⟩ ⟨FW,bW,mW⟩ ⟨FT,bT,mT⟩ FNe bNe mNe ⟨FF,bF,mF⟩ ⟨FLe,bLe,mLe⟩ ⟨FBw,bBw,mBw⟩ ⟨FNb,bNb,mNb⟩ ⟨FNu,bNu,mNu⟩ ⟨FWi,bWi,mWi⟩ ⟨FPl,bPl,mPl⟩ ⟨FTo,bTo,mTo⟩ ⟨FIo,bIo,mIo⟩ ⟨FBy,bBy,mBy⟩ ⟨FLb,bLb,mLb⟩ ⟨FIh,bIh,mIh⟩ ⟨FEb,bEb,mEb⟩ ⟨FTt,bTt,mTt⟩ ⟨FCf,bCf,mCf⟩ ⟨FSf,bSf,mSf⟩ ⟨FSn,bSn,mSn⟩ ⟨FLt,bLt,mLt⟩ ⟨FRt,bRt,mRt⟩ ⟨FOw,bOw,mOw⟩ ⟨FSx,bSx,mSx⟩ ⟨FAs,bAs,mAs⟩ ⟨FLp,bLp,mLp⟩ ⟨FBo,bBo,mBo⟩ ⟨FA,bA,mA⟩ ⟨FLs,bLs,mLs⟩ ⟨FFr,bFr,mFr⟩ ⟨FO,bO,mO⟩ ⟨FOr,bOr,mOr⟩ ⟨FIq,bIq,mIq⟩ ⟨FMa,bMa,mMa⟩ ⟨FBr,bBr,mBr⟩ ⟨FIn,bIn,mIn⟩ ⟨FLl,bLl,mLl⟩ ⟨FLz,bLz,mLz⟩ ⟨FSt,bSt,mSt⟩ ⟨FLf,bLf,mLf⟩ ⟨FFo,bFo,mFo⟩ ⟨FBe,bBe,mBe⟩ ⟨FR,bR,mR⟩ mb0 mb1 mb2 mb3 mb4 mb5 mb6 mb7 mb8 mb9 mb10 mb11 mb12 mb13 mb14⟩
end K35
open PySem PySem.W PyProof.Rows
set_option maxRecDepth 100000 in
set_option maxHeartbeats 0 in
theorem PySem.Challenge.cw_labelways_k35_least_orders_judged_holds : PySem.Challenge.rw_labelways_k35_least_orders_judged.Holds := by
 refine holds_law (by decide +kernel) fun said=>?_
 refine holds_open (q:=K35.Vp) (loose:=[]) (Xt:=fun s=>xlAt K35.Vp [] s && recOk (RowW.records K35.RR) s) (XP:=XL K35.Vp []) (Yf:=Hook.obs K35.HK) (Ya:=Hook.val K35.HK) (YP:=Hook.says K35.HK) (d:=K35.dL) (kwd:=[]) (N:=8748) K35.left (Hook.of K35.HK) (Hook.keeps K35.HK) (fun s e=>xl_of s (Bool.and_eq_true_iff.mp e).1) XL.keeps (by kernel_rfl) (by kernel_rfl) (by kernel_rfl) (fun s e=>recFacts_of (Bool.and_eq_true_iff.mp e).2) (by kernel_rfl) said (by decide +kernel) ⟨rfl,rfl,rfl,rfl,rfl,by decide +kernel⟩ ?hw ?hc
 case hw=>w_witness2
 case hc=>
  exact K35.walk (l:=PySem.Challenge.rw_labelways_k35_least_orders_judged) (K:=K35.Kf) rfl rfl ⟨((PyProof.Rows.recsOf K35.Vp).find? (fun e=>e.name==("nearest" : Str))).get (by decide +kernel),by simp⟩ (fun w h Y=>PySem.W.kIn_of Y) K35.facts
