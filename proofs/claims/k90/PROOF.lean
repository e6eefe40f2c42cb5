import PyProof.Rows.All
import Wide.All
import OpenK.AllK
import Wide.FinOn
import Lean
import PyProof.EqAt
import PyProof.EqKinds
import PyProof.TupleCall
import PyProof.ListRange
import PyProof.Rows.StrKeys3
import PyProof.ZipIter
import PySem.Challenge.RW_labelways_k90_whole_what_is_let_by_tells
set_option Elab.async false
set_option linter.all false
set_option maxRecDepth 100000
section
open PySem PySem.Spec PyProof.Rows
abbrev zA:=@wpAny_bind
abbrev zB:=@List.getElem?_eq_getElem
abbrev zC:=@List.length_map
abbrev zE:=@List.getD_eq_getElem?_getD
abbrev zF:=@wpAny_pure
abbrev zG:=@Heap.get?_push_of_some
abbrev zH:=@List.getElem?_eq_some_iff
abbrev zK:=@Nat.le_refl
abbrev zL:=@List.length_append
abbrev zM:=@List.getElem?_map
abbrev zO:=@List.mem_of_getElem?
abbrev zQ:=@List.getElem?_append_right
abbrev zR:=@Heap.get?_push_size
abbrev zS:=@List.map_append
abbrev zT:=@List.size_toArray
abbrev zU:=@decide_eq_true
abbrev zV:=@List.mem_cons_self
abbrev zW:=@List.getElem?_append_left
abbrev zX:=@Heap.lt_size
abbrev zY:=@Option.some.inj
abbrev zb:=@List.take_of_length_le
abbrev zc:=@List.mem_cons_of_mem
abbrev zd:=@Nat.ne_of_lt
abbrev ze:=@Nat.zero_le
abbrev zf:=@List.mem_singleton
abbrev zg:=@List.mem_append_right
abbrev zh:=@Bool.false_ne_true
abbrev zi:=@List.mem_cons
abbrev zk:=@List.length_take
abbrev zl:=@decide_eq_false
abbrev zm:=@List.mem_append
abbrev zo:=@Nat.lt_of_lt_of_le
abbrev zp:=@List.length_cons
abbrev zq:=@List.take_add_one
abbrev zr:=@List.append_nil
abbrev zx:=@List.getElem_of_mem
abbrev zy:=@List.pairwise_iff_getElem
abbrev zAB:=@List.length_replicate
abbrev zAE:=@List.mem_append_left
abbrev zAG:=@List.mem_filter
abbrev zAH:=@Nat.le_trans
abbrev zAI:=@List.mem_map
abbrev zAJ:=@List.length_filter_le
abbrev zAK:=@List.getElem?_eq_none
abbrev zAM:=@wpAny_mono
abbrev zAN:=@wpAny_holding
abbrev zAQ:=@List.length_range
abbrev zAU:=@Nat.lt_of_le_of_lt
abbrev zAV:=@List.map_cons
abbrev zAW:=@List.getElem?_toArray
abbrev zAX:=@Heap.get?_update_ne
abbrev zAb:=@Int.zero_add
abbrev zAc:=@Heap.get?_update_self
abbrev zAh:=@List.pairwise_map
abbrev zAk:=@Option.map_some
abbrev zAl:=@List.nodup_cons
abbrev zAn:=@wpAny_newObj_type
abbrev zAo:=@Nat.lt_succ_of_lt
abbrev zAq:=@Nat.le_succ
abbrev zAr:=@List.mem_filterMap
abbrev zAs:=@List.length_set
abbrev zAt:=@Heap.size_push
abbrev zAu:=@List.lookup_cons
abbrev zAv:=@List.all_eq_true
abbrev zAw:=@Nat.le_of_lt
abbrev zAx:=@Int.toNat_natCast
abbrev zAz:=@wpAny_callSpecial?_slot
abbrev zA0:=@wpAny_Call_Name_kw
abbrev zA1:=@List.filter_append
abbrev zA2:=@Bool.false_eq_true
abbrev zA3:=@wpAny_call_entry
abbrev zA7:=@wpAny_truthy_bool
abbrev zA8:=@wpAny_loadPart_at
abbrev zBB:=@Nat.not_lt_zero
abbrev zBG:=@List.length_drop
abbrev zBJ:=@List.getElem?_replicate
abbrev zBK:=@wpAny_typeOf
abbrev zBR:=@List.replicate_succ
abbrev zBS:=@Int.le_refl
abbrev zBY:=@wpAny_isInstance
abbrev zBZ:=@wpAny_call
abbrev zBc:=@List.pairwise_cons
abbrev zBf:=@wpAny_seqItems
abbrev zBg:=@List.mem_range
abbrev zBh:=@Option.isSome_iff_exists
abbrev zBi:=@List.length_nil
abbrev zBj:=@List.find?_cons
abbrev zBk:=@List.Pairwise.nil
abbrev zBn:=@wpAny_standAt
abbrev zBo:=@Nat.lt_irrefl
abbrev zBp:=@List.filter_cons_of_pos
abbrev zBq:=@List.filter_cons_of_neg
abbrev zBt:=@wpAny_typeNameOfWhole_keyiter
abbrev zBu:=@List.filter_cons
end
namespace L2
open PySem PySem.Spec PyProof.Rows
noncomputable def defArgs (s:Stmt):Arguments:=match s with
 | .FunctionDef _ a _ _ _ _ _ _ _ _=>a
 | _=>{ posonlyargs:=[],args:=[],vararg:=none,kwonlyargs:=[],kw_defaults:=[],kwarg:=none,defaults:=[] }
noncomputable def defBody (s:Stmt):List Stmt:=match s with
 | .FunctionDef _ _ b _ _ _ _ _ _ _=>b
 | _=>[]
noncomputable def defScope (s:Stmt):Scope:=match s with
 | .FunctionDef _ _ _ _ _ _ sc _ _ _=>sc
 | _=>{ kind:=.function,names:=[],isGenerator:=false,isCoroutine:=false }
end L2
namespace L2
section
open PySem PySem.W PyProof.Rows
noncomputable def zEh (p:Program)(w:World)(n₀:Nat)(ann:Option Value):Nat->SharedT->Thread->Option SharedT
 | 0,_,_=>none
 | n+1,s,t=>match through t with
  | true=>some s
  | false=>match Fast.tw6613529449190102663 n₀ ann t with
   | false=>none
   | true=>match Fast.tw10156331382660048174 (Fast.tw11892475500146522536 Fast.tw14364793385576792824) p w s t with
    | some (s',t')=>zEh p w n₀ ann n s' t'
    | none=>none
theorem zE7 {p:Program}{w:World}{n₀:Nat}{ann:Option Value}:∀{n:Nat}{s s':SharedT}{t:Thread},zEh p w n₀ ann n s t=some s'->topRun treeTable p w n₀ ann n s.abs t=some s'.abs
 | 0,_,_,_,h=>by cases h
 | n+1,s,s',t,h=>by
  unfold zEh at h
  rw[<-Fast.te6613529449190102663,<-Fast.te10156331382660048174,<-Fast.te11892475500146522536,<-Fast.te14364793385576792824] at h
  unfold topRun
  cases he:through t with
  | true=>rw[he] at h;cases h;rfl
  | false=>
   rw[he] at h
   cases hk:stepOk n₀ ann t with
   | false=>rw[hk] at h;cases h
   | true=>
    rw[hk] at h
    cases hs:stepT (denote treeTable) p w s t with
    | none=>rw[hs] at h;cases h
    | some r=>obtain⟨s₂,t₂⟩:=r;rw[hs] at h;rw[stepT_spec hs];exact zE7 h
noncomputable def bt:List Obj->Nat->BT->BT
 | [],_,t=>t
 | o::l,i,t=>bt l (i+1) (t.ins i o)
noncomputable def bT (P:Params):BT:=bt (boot_heap P).objs.toList 0 .nil
noncomputable def bS (w:World)(os:OsState):SharedT:=⟨bT w.params,(boot_heap w.params).objs.size,(boot_heap w.params).life,Array.mk [],boot_drawn,boot_toks,os⟩
theorem bA (w:World)(os:OsState):(bS w os).abs=⟨boot_heap w.params,Array.mk [],boot_drawn,boot_toks,os⟩:=by kernel_rfl
noncomputable abbrev runT (p:Program)(N:Nat)(w:World)(os:OsState):Option SharedT:=zEh p w (boot_heap w.params).objs.size ((boot_heap w.params).nsMap mainGlobals "__annotations__") N (bS w os) (topStub p)
noncomputable abbrev chkT (p:Program)(h h':Heap)(s:Shared):Bool:=staticsOk (importedModules p.main.body) h h' && namesBound p h' && gensDone s && laidKept h h'
theorem left_of {p q:Program}{loose:List Str}{Xt:Shared->Bool}{α:Type}{Yf:Shared->α}{Ya:World->α}{N:Nat}(e:opening p=plainProg p.main.scope.names)(hN:Nat.ble 600 N=true)(f:∀s,fenceModules? p s=some s)
 (h:∀(w:World)(os:OsState),(runT p N w os).map (fun s=>(chkT p (boot_heap w.params) s.abs.heap s.abs,Fast.tw4187177175401517315 q loose (importedModules p.main.body) Xt true s.abs,Yf s.abs))=some (true,openGood q loose,Ya w)):LeftO p q loose Xt Yf Ya N:=by
 intro w
 obtain⟨⟨h0,gs,d,k,os⟩,e1,e2⟩:=Option.map_eq_some_iff.mp (boot_open e hN f w)
 obtain⟨rfl,rfl,rfl,rfl⟩:h0=boot_heap w.params/\gs=Array.mk []/\d=boot_drawn/\k=boot_toks:=by simpa using e2
 obtain⟨s,r,a⟩:=Option.map_eq_some_iff.mp (h w os)
 obtain⟨b,a⟩:=Prod.mk.inj a
 rw[<-Fast.te4187177175401517315] at a
 have y:=zE7 r
 rw[bA] at y
 unfold openEnds
 rw[e1]
 show (topFrom treeTable p w N _).map _=_
 unfold topFrom
 have z:((boot_heap w.params).isNs mainGlobals && (Array.mk []:Array GenState).size==0)=true:=by kernel_rfl
 dsimp only
 rw[z]
 dsimp only
 rw[y]
 show Option.map _ (match chkT p (boot_heap w.params) s.abs.heap s.abs with | true=>some s.abs | false=>none)=_
 rw[b]
 exact congrArg some a
end
end L2
namespace K90
open PySem L2
noncomputable def top (i:Nat):Stmt:=PySem.Challenge.pw_labelways_k90_whole_what_is_let_by_tells.main.body.getD i (.Pass ⟨0,0,0,0⟩)
noncomputable def mth (k i:Nat):Stmt:=match top k with
 | .ClassDef _ _ _ body ..=>body.getD i (.Pass ⟨0,0,0,0⟩)
 | _=>.Pass ⟨0,0,0,0⟩
noncomputable abbrev sT:String->Str:=Str.ofString
noncomputable abbrev kH:=PyData.keyHash
noncomputable abbrev dE:=DictEntry.mk
noncomputable abbrev vS:=Value.str
noncomputable abbrev vI:=Value.int
noncomputable abbrev vR:=Value.ref
noncomputable abbrev vB:=Value.bool
noncomputable abbrev vN:Value:=Value.none
noncomputable abbrev vT:=Value.type
noncomputable abbrev oM:=Obj.mk
noncomputable abbrev cQ (x:Array Value):Obj:=oM (vT "code") .none (.fields x) #[]
noncomputable abbrev fQ (x:FuncData):Obj:=oM (vT "function") .none (.func x) #[]
noncomputable abbrev fT (x:String)(i:Nat)(m:Value)(c:Nat):Obj:=fQ (.mk (sT x) (sT x) (L2.defArgs (top i)) (FuncBody.stmts (L2.defBody (top i))) (L2.defScope (top i)) 3 [] vN vN vN m .none (vR c) vN 0)
noncomputable abbrev qS (x:String)(n:Nat):Value:=vS (sT x) n
noncomputable abbrev qC (n:Nat):Value:=qS "/claim/cut.py" n
noncomputable abbrev qL:=qS "law_labelways_k90_whole_what_is_let_by_tells" 554
noncomputable abbrev kE (P:Params)(x:String)(n:Nat):Value->DictEntry:=dE (kH P (sT x)) (qS x n)
noncomputable def Kf:Params->PySem.W.Frag:=fun P=>[
(2,oM vN .none (Data.dict #[]) #[]),
(3,oM (vT "dict") .none (Data.dict #[kE P "__name__" 165 qL,kE P "__doc__" 166 vN,kE P "__package__" 167 vN,kE P "__loader__" 168 (Value.builtin "__main__.__loader__#opaque"),kE P "__spec__" 169 vN,kE P "__annotations__" 170 (vR 6),kE P "__builtins__" 171 (vR 4),kE P "__file__" 173 (qC 172),kE P "__cached__" 174 vN,kE P "WayError" 206 (vR 24),kE P "NoLabels" 233 (vR 44),kE P "NoOrder" 249 (vR 56),kE P "is_number" 258 (vR 65),kE P "is_within" 267 (vR 72),kE P "is_tuple_of" 275 (vR 79),kE P "is_rising" 281 (vR 84),kE P "is_place" 289 (vR 91),kE P "is_label" 297 (vR 96),kE P "is_entry" 305 (vR 103),kE P "are_labels" 311 (vR 108),kE P "own_place" 317 (vR 113),kE P "told" 325 (vR 120),kE P "told_hub" 333 (vR 127),kE P "least_sum" 339 (vR 132),kE P "entry_of" 348 (vR 139),kE P "far_entries" 354 (vR 144),kE P "next_step" 363 (vR 151),kE P "ties_at" 377 (vR 158),kE P "long_of" 388 (vR 165),kE P "lets_labels" 398 (vR 172),kE P "refuse_at" 406 (vR 179),kE P "own_fault" 415 (vR 186),kE P "up_fault" 425 (vR 193),kE P "is_up_right" 437 (vR 200),kE P "tie_fault" 443 (vR 205),kE P "grows_too_much" 452 (vR 212),kE P "down_fault" 462 (vR 219),kE P "is_down_right" 473 (vR 226),kE P "lengths" 481 (vR 231),kE P "lengths_from" 495 (vR 238),kE P "nearest" 503 (vR 245),kE P "between_rows" 509 (vR 250),kE P "next_by_row" 515 (vR 255),kE P "is_order" 523 (vR 260),kE P "by_order" 529 (vR 265),kE P "label_by_ranks" 535 (vR 270),kE P "is_hub" 541 (vR 275),kE P "entry_by_rows" 553 (vR 282),kE P "_law_tape" 562 (vR 289),kE P "_law_draw" 574 (vR 296),kE P "_law_web" 580 (vR 301),kE P "_law_added" 588 (vR 308),kE P "_law_lesser" 596 (vR 315),kE P "_law_far" 602 (vR 320),kE P "_law_joined" 613 (vR 327),kE P "_law_nexts" 619 (vR 332),kE P "_law_order" 630 (vR 339),kE P "_law_all_hubs" 646 (vR 346),kE P "_law_bent_entry" 660 (vR 353),kE P "_law_exchanged" 670 (vR 360),kE P "_law_longer" 684 (vR 367),kE P "_law_bent_labels" 690 (vR 372),kE P "_law_hub" 697 (vR 379),kE P "_law_is_let" 706 (vR 386),kE P "_law_led" 720 (vR 393),kE P "_law_right" 732 (vR 400),kE P "law" 738 (vR 405)] 67) #[]),
(23,oM (vT "dict") .none (Data.dict #[kE P "__module__" 196 (qS "labelways.errors" 187),kE P "__firstlineno__" 200 (vI 2 199),kE P "__static_attributes__" 201 (vR 22),kE P "__weakref__" 203 (vR 25),kE P "__doc__" 204 vN] 3) #[]),
(24,oM (vT "type") .none (Data.cls (ClassData.mk (sT "WayError") [vT "ValueError"] [vR 24,vT "ValueError",vT "Exception",vT "BaseException",vT "object"] 23 (sT "WayError") true [] [vR 44,vR 56] false .none false)) #[.some (vR 15),.none,.some (qS "WayError" 189),.some (qS "WayError" 197),.some (Value.builtin "ValueError.__new__"),.some (vB true)]),
(25,oM (vT "getset_descriptor") .none (Data.fields #[qS "__weakref__" 202,vR 24,Value.builtin "ExceptionGroup.__weakref__",vN]) #[]),
(40,cQ #[qS "__init__" 219,qS "NoLabels.__init__" 220,qC 221,vI 6 0,vI 3 0,vI 0 0,vI 0 0,vI 3 0,vR 35,vB true,vI 181 0,vR 36,vN,vR 37,vR 38,vR 39,vI 225 0,vI 6 0,qC 226]),
(41,fQ (.mk (sT "__init__") (sT "NoLabels.__init__") (L2.defArgs (mth 2 0)) (FuncBody.stmts (L2.defBody (mth 2 0))) (L2.defScope (mth 2 0)) 3 [] vN vN vN (qS "labelways.errors" 187) .none (vR 40) vN 0)),
(43,oM (vT "dict") .none (Data.dict #[kE P "__module__" 214 (qS "labelways.errors" 187),kE P "__firstlineno__" 218 (vI 4 217),kE P "__init__" 227 (vR 41),kE P "__static_attributes__" 230 (vR 42),kE P "__doc__" 231 vN] 2) #[]),
(44,oM (vT "type") .none (Data.cls (ClassData.mk (sT "NoLabels") [vR 24] [vR 44,vR 24,vT "ValueError",vT "Exception",vT "BaseException",vT "object"] 43 (sT "NoLabels") true [] [] false .none false)) #[.some (vR 28),.none,.some (qS "NoLabels" 207),.some (qS "NoLabels" 215),.some (Value.builtin "ValueError.__new__"),.some (vB true)]),
(55,oM (vT "dict") .none (Data.dict #[kE P "__module__" 241 (qS "labelways.errors" 187),kE P "__firstlineno__" 245 (vI 9 244),kE P "__static_attributes__" 246 (vR 54),kE P "__doc__" 247 vN] 2) #[]),
(56,oM (vT "type") .none (Data.cls (ClassData.mk (sT "NoOrder") [vR 24] [vR 56,vR 24,vT "ValueError",vT "Exception",vT "BaseException",vT "object"] 55 (sT "NoOrder") true [] [] false .none false)) #[.some (vR 47),.none,.some (qS "NoOrder" 234),.some (qS "NoOrder" 242),.some (Value.builtin "ValueError.__new__"),.some (vB true)]),
(64,cQ #[qS "is_number" 252,qS "is_number" 253,qC 254,vI 12 0,vI 1 0,vI 0 0,vI 0 0,vI 3 0,vR 59,vB true,vI 181 0,vR 60,vN,vR 61,vR 62,vR 63,vI 256 0,vI 12 0,qC 257]),
(65,fQ (.mk (sT "is_number") (sT "is_number") (L2.defArgs (top 5)) (FuncBody.stmts (L2.defBody (top 5))) (L2.defScope (top 5)) 3 [] vN vN vN (qS "labelways.kinds" 250) .none (vR 64) vN 0)),
(71,cQ #[qS "is_within" 259,qS "is_within" 260,qC 261,vI 14 0,vI 3 0,vI 0 0,vI 0 0,vI 3 0,vR 66,vB true,vI 181 0,vR 67,vN,vR 68,vR 69,vR 70,vI 265 0,vI 14 0,qC 266]),
(72,fQ (.mk (sT "is_within") (sT "is_within") (L2.defArgs (top 6)) (FuncBody.stmts (L2.defBody (top 6))) (L2.defScope (top 6)) 3 [] vN vN vN (qS "labelways.kinds" 250) .none (vR 71) vN 0)),
(78,cQ #[qS "is_tuple_of" 268,qS "is_tuple_of" 269,qC 270,vI 16 0,vI 2 0,vI 0 0,vI 0 0,vI 3 0,vR 73,vB true,vI 181 0,vR 74,vN,vR 75,vR 76,vR 77,vI 273 0,vI 16 0,qC 274]),
(79,fQ (.mk (sT "is_tuple_of") (sT "is_tuple_of") (L2.defArgs (top 7)) (FuncBody.stmts (L2.defBody (top 7))) (L2.defScope (top 7)) 3 [] vN vN vN (qS "labelways.kinds" 250) .none (vR 78) vN 0)),
(83,cQ #[qS "is_rising" 276,qS "is_rising" 277,qC 278,vI 18 0,vI 1 0,vI 0 0,vI 0 0,vI 3 0,vR 80,vB true,vI 181 0,vR 81,vN,vN,vN,vR 82,vI 279 0,vI 18 0,qC 280]),
(84,fQ (.mk (sT "is_rising") (sT "is_rising") (L2.defArgs (top 8)) (FuncBody.stmts (L2.defBody (top 8))) (L2.defScope (top 8)) 3 [] vN vN vN (qS "labelways.kinds" 250) .none (vR 83) vN 0)),
(90,cQ #[qS "is_place" 282,qS "is_place" 283,qC 284,vI 20 0,vI 2 0,vI 0 0,vI 0 0,vI 3 0,vR 85,vB true,vI 181 0,vR 86,vN,vR 87,vR 88,vR 89,vI 287 0,vI 20 0,qC 288]),
(91,fQ (.mk (sT "is_place") (sT "is_place") (L2.defArgs (top 9)) (FuncBody.stmts (L2.defBody (top 9))) (L2.defScope (top 9)) 3 [] vN vN vN (qS "labelways.kinds" 250) .none (vR 90) vN 0)),
(95,cQ #[qS "is_label" 292,qS "is_label" 293,qC 294,vI 23 0,vI 2 0,vI 0 0,vI 0 0,vI 3 0,vR 92,vB true,vI 181 0,vR 93,vN,vN,vN,vR 94,vI 295 0,vI 23 0,qC 296]),
(96,fQ (.mk (sT "is_label") (sT "is_label") (L2.defArgs (top 11)) (FuncBody.stmts (L2.defBody (top 11))) (L2.defScope (top 11)) 3 [] vN vN vN (qS "labelways.labels" 290) .none (vR 95) vN 0)),
(102,cQ #[qS "is_entry" 298,qS "is_entry" 299,qC 300,vI 30 0,vI 2 0,vI 0 0,vI 0 0,vI 3 0,vR 97,vB true,vI 181 0,vR 98,vN,vR 99,vR 100,vR 101,vI 303 0,vI 30 0,qC 304]),
(103,fQ (.mk (sT "is_entry") (sT "is_entry") (L2.defArgs (top 12)) (FuncBody.stmts (L2.defBody (top 12))) (L2.defScope (top 12)) 3 [] vN vN vN (qS "labelways.labels" 290) .none (vR 102) vN 0)),
(107,cQ #[qS "are_labels" 306,qS "are_labels" 307,qC 308,vI 38 0,vI 2 0,vI 0 0,vI 0 0,vI 3 0,vR 104,vB true,vI 181 0,vR 105,vN,vN,vN,vR 106,vI 309 0,vI 38 0,qC 310]),
(108,fQ (.mk (sT "are_labels") (sT "are_labels") (L2.defArgs (top 13)) (FuncBody.stmts (L2.defBody (top 13))) (L2.defScope (top 13)) 3 [] vN vN vN (qS "labelways.labels" 290) .none (vR 107) vN 0)),
(112,cQ #[qS "own_place" 312,qS "own_place" 313,qC 314,vI 40 0,vI 1 0,vI 0 0,vI 0 0,vI 3 0,vR 109,vB true,vI 181 0,vR 110,vN,vN,vN,vR 111,vI 315 0,vI 40 0,qC 316]),
(113,fQ (.mk (sT "own_place") (sT "own_place") (L2.defArgs (top 14)) (FuncBody.stmts (L2.defBody (top 14))) (L2.defScope (top 14)) 3 [] vN vN vN (qS "labelways.labels" 290) .none (vR 112) vN 0)),
(119,cQ #[qS "told" 318,qS "told" 319,qC 320,vI 42 0,vI 2 0,vI 0 0,vI 0 0,vI 3 0,vR 114,vB true,vI 181 0,vR 115,vN,vR 116,vR 117,vR 118,vI 323 0,vI 42 0,qC 324]),
(120,fQ (.mk (sT "told") (sT "told") (L2.defArgs (top 15)) (FuncBody.stmts (L2.defBody (top 15))) (L2.defScope (top 15)) 3 [] vN vN vN (qS "labelways.labels" 290) .none (vR 119) vN 0)),
(126,cQ #[qS "told_hub" 326,qS "told_hub" 327,qC 328,vI 44 0,vI 2 0,vI 0 0,vI 0 0,vI 3 0,vR 121,vB true,vI 181 0,vR 122,vN,vR 123,vR 124,vR 125,vI 331 0,vI 44 0,qC 332]),
(127,fQ (.mk (sT "told_hub") (sT "told_hub") (L2.defArgs (top 16)) (FuncBody.stmts (L2.defBody (top 16))) (L2.defScope (top 16)) 3 [] vN vN vN (qS "labelways.labels" 290) .none (vR 126) vN 0)),
(131,cQ #[qS "least_sum" 334,qS "least_sum" 335,qC 336,vI 46 0,vI 2 0,vI 0 0,vI 0 0,vI 3 0,vR 128,vB true,vI 181 0,vR 129,vN,vN,vN,vR 130,vI 337 0,vI 46 0,qC 338]),
(132,fQ (.mk (sT "least_sum") (sT "least_sum") (L2.defArgs (top 17)) (FuncBody.stmts (L2.defBody (top 17))) (L2.defScope (top 17)) 3 [] vN vN vN (qS "labelways.labels" 290) .none (vR 131) vN 0)),
(138,cQ #[qS "entry_of" 340,qS "entry_of" 341,qC 342,vI 50 0,vI 2 0,vI 0 0,vI 0 0,vI 3 0,vR 133,vB true,vI 181 0,vR 134,vN,vR 135,vR 136,vR 137,vI 346 0,vI 50 0,qC 347]),
(139,fQ (.mk (sT "entry_of") (sT "entry_of") (L2.defArgs (top 18)) (FuncBody.stmts (L2.defBody (top 18))) (L2.defScope (top 18)) 3 [] vN vN vN (qS "labelways.labels" 290) .none (vR 138) vN 0)),
(143,cQ #[qS "far_entries" 349,qS "far_entries" 350,qC 351,vI 55 0,vI 1 0,vI 0 0,vI 0 0,vI 3 0,vR 140,vB true,vI 181 0,vR 141,vN,vN,vN,vR 142,vI 352 0,vI 55 0,qC 353]),
(144,fQ (.mk (sT "far_entries") (sT "far_entries") (L2.defArgs (top 19)) (FuncBody.stmts (L2.defBody (top 19))) (L2.defScope (top 19)) 3 [] vN vN vN (qS "labelways.labels" 290) .none (vR 143) vN 0)),
(150,cQ #[qS "next_step" 355,qS "next_step" 356,qC 357,vI 60 0,vI 2 0,vI 0 0,vI 0 0,vI 3 0,vR 145,vB true,vI 181 0,vR 146,vN,vR 147,vR 148,vR 149,vI 361 0,vI 60 0,qC 362]),
(151,fQ (.mk (sT "next_step") (sT "next_step") (L2.defArgs (top 20)) (FuncBody.stmts (L2.defBody (top 20))) (L2.defScope (top 20)) 3 [] vN vN vN (qS "labelways.labels" 290) .none (vR 150) vN 0)),
(157,cQ #[qS "ties_at" 366,qS "ties_at" 367,qC 368,vI 68 0,vI 2 0,vI 0 0,vI 0 0,vI 3 0,vR 152,vB true,vI 181 0,vR 153,vN,vR 154,vR 155,vR 156,vI 375 0,vI 68 0,qC 376]),
(158,fQ (.mk (sT "ties_at") (sT "ties_at") (L2.defArgs (top 22)) (FuncBody.stmts (L2.defBody (top 22))) (L2.defScope (top 22)) 3 [] vN vN vN (qS "labelways.webs" 364) .none (vR 157) vN 0)),
(164,cQ #[qS "long_of" 378,qS "long_of" 379,qC 380,vI 76 0,vI 3 0,vI 0 0,vI 0 0,vI 3 0,vR 159,vB true,vI 181 0,vR 160,vN,vR 161,vR 162,vR 163,vI 386 0,vI 76 0,qC 387]),
(165,fQ (.mk (sT "long_of") (sT "long_of") (L2.defArgs (top 23)) (FuncBody.stmts (L2.defBody (top 23))) (L2.defScope (top 23)) 3 [] vN vN vN (qS "labelways.webs" 364) .none (vR 164) vN 0)),
(171,cQ #[qS "lets_labels" 391,qS "lets_labels" 392,qC 393,vI 82 0,vI 2 0,vI 0 0,vI 0 0,vI 3 0,vR 166,vB true,vI 181 0,vR 167,vN,vR 168,vR 169,vR 170,vI 396 0,vI 82 0,qC 397]),
(172,fQ (.mk (sT "lets_labels") (sT "lets_labels") (L2.defArgs (top 25)) (FuncBody.stmts (L2.defBody (top 25))) (L2.defScope (top 25)) 3 [] vN vN vN (qS "labelways.checker" 389) .none (vR 171) vN 0)),
(178,cQ #[qS "refuse_at" 399,qS "refuse_at" 400,qC 401,vI 90 0,vI 2 0,vI 0 0,vI 0 0,vI 3 0,vR 173,vB true,vI 181 0,vR 174,vN,vR 175,vR 176,vR 177,vI 404 0,vI 90 0,qC 405]),
(179,fQ (.mk (sT "refuse_at") (sT "refuse_at") (L2.defArgs (top 26)) (FuncBody.stmts (L2.defBody (top 26))) (L2.defScope (top 26)) 3 [] vN vN vN (qS "labelways.checker" 389) .none (vR 178) vN 0)),
(185,cQ #[qS "own_fault" 407,qS "own_fault" 408,qC 409,vI 93 0,vI 1 0,vI 0 0,vI 0 0,vI 3 0,vR 180,vB true,vI 181 0,vR 181,vN,vR 182,vR 183,vR 184,vI 413 0,vI 93 0,qC 414]),
(186,fQ (.mk (sT "own_fault") (sT "own_fault") (L2.defArgs (top 27)) (FuncBody.stmts (L2.defBody (top 27))) (L2.defScope (top 27)) 3 [] vN vN vN (qS "labelways.checker" 389) .none (vR 185) vN 0)),
(192,cQ #[qS "up_fault" 416,qS "up_fault" 417,qC 418,vI 98 0,vI 2 0,vI 0 0,vI 0 0,vI 3 0,vR 187,vB true,vI 181 0,vR 188,vN,vR 189,vR 190,vR 191,vI 423 0,vI 98 0,qC 424]),
(193,fQ (.mk (sT "up_fault") (sT "up_fault") (L2.defArgs (top 28)) (FuncBody.stmts (L2.defBody (top 28))) (L2.defScope (top 28)) 3 [] vN vN vN (qS "labelways.checker" 389) .none (vR 192) vN 0)),
(199,cQ #[qS "is_up_right" 426,qS "is_up_right" 427,qC 428,vI 103 0,vI 4 0,vI 0 0,vI 0 0,vI 3 0,vR 194,vB true,vI 181 0,vR 195,vN,vR 196,vR 197,vR 198,vI 435 0,vI 103 0,qC 436]),
(200,fQ (.mk (sT "is_up_right") (sT "is_up_right") (L2.defArgs (top 29)) (FuncBody.stmts (L2.defBody (top 29))) (L2.defScope (top 29)) 3 [] vN vN vN (qS "labelways.checker" 389) .none (vR 199) vN 0)),
(204,cQ #[qS "tie_fault" 438,qS "tie_fault" 439,qC 440,vI 107 0,vI 2 0,vI 0 0,vI 0 0,vI 3 0,vR 201,vB true,vI 181 0,vR 202,vN,vN,vN,vR 203,vI 441 0,vI 107 0,qC 442]),
(205,fQ (.mk (sT "tie_fault") (sT "tie_fault") (L2.defArgs (top 30)) (FuncBody.stmts (L2.defBody (top 30))) (L2.defScope (top 30)) 3 [] vN vN vN (qS "labelways.checker" 389) .none (vR 204) vN 0)),
(211,cQ #[qS "grows_too_much" 444,qS "grows_too_much" 445,qC 446,vI 115 0,vI 3 0,vI 0 0,vI 0 0,vI 3 0,vR 206,vB true,vI 181 0,vR 207,vN,vR 208,vR 209,vR 210,vI 450 0,vI 115 0,qC 451]),
(212,fQ (.mk (sT "grows_too_much") (sT "grows_too_much") (L2.defArgs (top 31)) (FuncBody.stmts (L2.defBody (top 31))) (L2.defScope (top 31)) 3 [] vN vN vN (qS "labelways.checker" 389) .none (vR 211) vN 0)),
(218,cQ #[qS "down_fault" 453,qS "down_fault" 454,qC 455,vI 119 0,vI 2 0,vI 0 0,vI 0 0,vI 3 0,vR 213,vB true,vI 181 0,vR 214,vN,vR 215,vR 216,vR 217,vI 460 0,vI 119 0,qC 461]),
(219,fQ (.mk (sT "down_fault") (sT "down_fault") (L2.defArgs (top 32)) (FuncBody.stmts (L2.defBody (top 32))) (L2.defScope (top 32)) 3 [] vN vN vN (qS "labelways.checker" 389) .none (vR 218) vN 0)),
(225,cQ #[qS "is_down_right" 463,qS "is_down_right" 464,qC 465,vI 124 0,vI 4 0,vI 0 0,vI 0 0,vI 3 0,vR 220,vB true,vI 181 0,vR 221,vN,vR 222,vR 223,vR 224,vI 471 0,vI 124 0,qC 472]),
(226,fQ (.mk (sT "is_down_right") (sT "is_down_right") (L2.defArgs (top 33)) (FuncBody.stmts (L2.defBody (top 33))) (L2.defScope (top 33)) 3 [] vN vN vN (qS "labelways.checker" 389) .none (vR 225) vN 0)),
(230,cQ #[qS "lengths" 476,qS "lengths" 477,qC 478,vI 128 0,vI 1 0,vI 0 0,vI 0 0,vI 3 0,vR 227,vB true,vI 181 0,vR 228,vN,vN,vN,vR 229,vI 479 0,vI 128 0,qC 480]),
(231,fQ (.mk (sT "lengths") (sT "lengths") (L2.defArgs (top 35)) (FuncBody.stmts (L2.defBody (top 35))) (L2.defScope (top 35)) 3 [] vN vN vN (qS "labelways.lengths" 474) .none (vR 230) vN 0)),
(237,cQ #[qS "lengths_from" 482,qS "lengths_from" 483,qC 484,vI 130 0,vI 2 0,vI 0 0,vI 0 0,vI 3 0,vR 232,vB true,vI 181 0,vR 233,vN,vR 234,vR 235,vR 236,vI 493 0,vI 130 0,qC 494]),
(238,fQ (.mk (sT "lengths_from") (sT "lengths_from") (L2.defArgs (top 36)) (FuncBody.stmts (L2.defBody (top 36))) (L2.defScope (top 36)) 3 [] vN vN vN (qS "labelways.lengths" 474) .none (vR 237) vN 0)),
(244,cQ #[qS "nearest" 496,qS "nearest" 497,qC 498,vI 141 0,vI 1 0,vI 0 0,vI 0 0,vI 3 0,vR 239,vB true,vI 181 0,vR 240,vN,vR 241,vR 242,vR 243,vI 501 0,vI 141 0,qC 502]),
(245,fQ (.mk (sT "nearest") (sT "nearest") (L2.defArgs (top 37)) (FuncBody.stmts (L2.defBody (top 37))) (L2.defScope (top 37)) 3 [] vN vN vN (qS "labelways.lengths" 474) .none (vR 244) vN 0)),
(249,cQ #[qS "between_rows" 504,qS "between_rows" 505,qC 506,vI 143 0,vI 3 0,vI 0 0,vI 0 0,vI 3 0,vR 246,vB true,vI 181 0,vR 247,vN,vN,vN,vR 248,vI 507 0,vI 143 0,qC 508]),
(250,fQ (.mk (sT "between_rows") (sT "between_rows") (L2.defArgs (top 38)) (FuncBody.stmts (L2.defBody (top 38))) (L2.defScope (top 38)) 3 [] vN vN vN (qS "labelways.lengths" 474) .none (vR 249) vN 0)),
(254,cQ #[qS "next_by_row" 510,qS "next_by_row" 511,qC 512,vI 148 0,vI 3 0,vI 0 0,vI 0 0,vI 3 0,vR 251,vB true,vI 181 0,vR 252,vN,vN,vN,vR 253,vI 513 0,vI 148 0,qC 514]),
(255,fQ (.mk (sT "next_by_row") (sT "next_by_row") (L2.defArgs (top 39)) (FuncBody.stmts (L2.defBody (top 39))) (L2.defScope (top 39)) 3 [] vN vN vN (qS "labelways.lengths" 474) .none (vR 254) vN 0)),
(259,cQ #[qS "is_order" 518,qS "is_order" 519,qC 520,vI 153 0,vI 2 0,vI 0 0,vI 0 0,vI 3 0,vR 256,vB true,vI 181 0,vR 257,vN,vN,vN,vR 258,vI 521 0,vI 153 0,qC 522]),
(260,fQ (.mk (sT "is_order") (sT "is_order") (L2.defArgs (top 41)) (FuncBody.stmts (L2.defBody (top 41))) (L2.defScope (top 41)) 3 [] vN vN vN (qS "labelways.orders" 516) .none (vR 259) vN 0)),
(264,cQ #[qS "by_order" 524,qS "by_order" 525,qC 526,vI 158 0,vI 2 0,vI 0 0,vI 0 0,vI 3 0,vR 261,vB true,vI 181 0,vR 262,vN,vN,vN,vR 263,vI 527 0,vI 158 0,qC 528]),
(265,fQ (.mk (sT "by_order") (sT "by_order") (L2.defArgs (top 42)) (FuncBody.stmts (L2.defBody (top 42))) (L2.defScope (top 42)) 3 [] vN vN vN (qS "labelways.orders" 516) .none (vR 264) vN 0)),
(269,cQ #[qS "label_by_ranks" 530,qS "label_by_ranks" 531,qC 532,vI 164 0,vI 4 0,vI 0 0,vI 0 0,vI 3 0,vR 266,vB true,vI 181 0,vR 267,vN,vN,vN,vR 268,vI 533 0,vI 164 0,qC 534]),
(270,fQ (.mk (sT "label_by_ranks") (sT "label_by_ranks") (L2.defArgs (top 43)) (FuncBody.stmts (L2.defBody (top 43))) (L2.defScope (top 43)) 3 [] vN vN vN (qS "labelways.orders" 516) .none (vR 269) vN 0)),
(274,cQ #[qS "is_hub" 536,qS "is_hub" 537,qC 538,vI 167 0,vI 4 0,vI 0 0,vI 0 0,vI 3 0,vR 271,vB true,vI 181 0,vR 272,vN,vN,vN,vR 273,vI 539 0,vI 167 0,qC 540]),
(275,fQ (.mk (sT "is_hub") (sT "is_hub") (L2.defArgs (top 44)) (FuncBody.stmts (L2.defBody (top 44))) (L2.defScope (top 44)) 3 [] vN vN vN (qS "labelways.orders" 516) .none (vR 274) vN 0)),
(281,cQ #[qS "entry_by_rows" 542,qS "entry_by_rows" 543,qC 544,vI 171 0,vI 4 0,vI 0 0,vI 0 0,vI 3 0,vR 276,vB true,vI 181 0,vR 277,vN,vR 278,vR 279,vR 280,vI 551 0,vI 171 0,qC 552]),
(282,fQ (.mk (sT "entry_by_rows") (sT "entry_by_rows") (L2.defArgs (top 45)) (FuncBody.stmts (L2.defBody (top 45))) (L2.defScope (top 45)) 3 [] vN vN vN (qS "labelways.orders" 516) .none (vR 281) vN 0)),
(288,cQ #[qS "_law_tape" 556,qS "_law_tape" 557,qC 558,vI 176 0,vI 1 0,vI 0 0,vI 0 0,vI 3 0,vR 283,vB true,vI 181 0,vR 284,vN,vR 285,vR 286,vR 287,vI 560 0,vI 176 0,qC 561]),
(289,fT "_law_tape" 47 qL 288),
(295,cQ #[qS "_law_draw" 563,qS "_law_draw" 564,qC 565,vI 178 0,vI 2 0,vI 0 0,vI 0 0,vI 3 0,vR 290,vB true,vI 181 0,vR 291,vN,vR 292,vR 293,vR 294,vI 572 0,vI 178 0,qC 573]),
(296,fT "_law_draw" 48 qL 295),
(300,cQ #[qS "_law_web" 575,qS "_law_web" 576,qC 577,vI 191 0,vI 2 0,vI 0 0,vI 0 0,vI 3 0,vR 297,vB true,vI 181 0,vR 298,vN,vN,vN,vR 299,vI 578 0,vI 191 0,qC 579]),
(301,fT "_law_web" 49 qL 300),
(307,cQ #[qS "_law_added" 581,qS "_law_added" 582,qC 583,vI 203 0,vI 2 0,vI 0 0,vI 0 0,vI 3 0,vR 302,vB true,vI 181 0,vR 303,vN,vR 304,vR 305,vR 306,vI 586 0,vI 203 0,qC 587]),
(308,fT "_law_added" 50 qL 307),
(314,cQ #[qS "_law_lesser" 589,qS "_law_lesser" 590,qC 591,vI 205 0,vI 2 0,vI 0 0,vI 0 0,vI 3 0,vR 309,vB true,vI 181 0,vR 310,vN,vR 311,vR 312,vR 313,vI 594 0,vI 205 0,qC 595]),
(315,fT "_law_lesser" 51 qL 314),
(319,cQ #[qS "_law_far" 597,qS "_law_far" 598,qC 599,vI 209 0,vI 1 0,vI 0 0,vI 0 0,vI 3 0,vR 316,vB true,vI 181 0,vR 317,vN,vN,vN,vR 318,vI 600 0,vI 209 0,qC 601]),
(320,fT "_law_far" 52 qL 319),
(326,cQ #[qS "_law_joined" 603,qS "_law_joined" 604,qC 605,vI 221 0,vI 1 0,vI 0 0,vI 0 0,vI 3 0,vR 321,vB true,vI 181 0,vR 322,vN,vR 323,vR 324,vR 325,vI 611 0,vI 221 0,qC 612]),
(327,fT "_law_joined" 53 qL 326),
(331,cQ #[qS "_law_nexts" 614,qS "_law_nexts" 615,qC 616,vI 227 0,vI 4 0,vI 0 0,vI 0 0,vI 3 0,vR 328,vB true,vI 181 0,vR 329,vN,vN,vN,vR 330,vI 617 0,vI 227 0,qC 618]),
(332,fT "_law_nexts" 54 qL 331),
(338,cQ #[qS "_law_order" 620,qS "_law_order" 621,qC 622,vI 234 0,vI 2 0,vI 0 0,vI 0 0,vI 3 0,vR 333,vB true,vI 181 0,vR 334,vN,vR 335,vR 336,vR 337,vI 628 0,vI 234 0,qC 629]),
(339,fT "_law_order" 55 qL 338),
(345,cQ #[qS "_law_all_hubs" 631,qS "_law_all_hubs" 632,qC 633,vI 240 0,vI 3 0,vI 0 0,vI 0 0,vI 3 0,vR 340,vB true,vI 181 0,vR 341,vN,vR 342,vR 343,vR 344,vI 644 0,vI 240 0,qC 645]),
(346,fT "_law_all_hubs" 56 qL 345),
(352,cQ #[qS "_law_bent_entry" 647,qS "_law_bent_entry" 648,qC 649,vI 254 0,vI 3 0,vI 0 0,vI 0 0,vI 3 0,vR 347,vB true,vI 181 0,vR 348,vN,vR 349,vR 350,vR 351,vI 658 0,vI 254 0,qC 659]),
(353,fT "_law_bent_entry" 57 qL 352),
(359,cQ #[qS "_law_exchanged" 661,qS "_law_exchanged" 662,qC 663,vI 264 0,vI 3 0,vI 0 0,vI 0 0,vI 3 0,vR 354,vB true,vI 181 0,vR 355,vN,vR 356,vR 357,vR 358,vI 668 0,vI 264 0,qC 669]),
(360,fT "_law_exchanged" 58 qL 359),
(366,cQ #[qS "_law_longer" 671,qS "_law_longer" 672,qC 673,vI 268 0,vI 2 0,vI 0 0,vI 0 0,vI 3 0,vR 361,vB true,vI 181 0,vR 362,vN,vR 363,vR 364,vR 365,vI 682 0,vI 268 0,qC 683]),
(367,fT "_law_longer" 59 qL 366),
(371,cQ #[qS "_law_bent_labels" 685,qS "_law_bent_labels" 686,qC 687,vI 274 0,vI 3 0,vI 0 0,vI 0 0,vI 3 0,vR 368,vB true,vI 181 0,vR 369,vN,vN,vN,vR 370,vI 688 0,vI 274 0,qC 689]),
(372,fT "_law_bent_labels" 60 qL 371),
(378,cQ #[qS "_law_hub" 691,qS "_law_hub" 692,qC 693,vI 292 0,vI 1 0,vI 0 0,vI 0 0,vI 3 0,vR 373,vB true,vI 181 0,vR 374,vN,vR 375,vR 376,vR 377,vI 695 0,vI 292 0,qC 696]),
(379,fT "_law_hub" 61 qL 378),
(385,cQ #[qS "_law_is_let" 698,qS "_law_is_let" 699,qC 700,vI 294 0,vI 2 0,vI 0 0,vI 0 0,vI 3 0,vR 380,vB true,vI 181 0,vR 381,vN,vR 382,vR 383,vR 384,vI 704 0,vI 294 0,qC 705]),
(386,fT "_law_is_let" 62 qL 385),
(392,cQ #[qS "_law_led" 707,qS "_law_led" 708,qC 709,vI 301 0,vI 5 0,vI 0 0,vI 0 0,vI 3 0,vR 387,vB true,vI 181 0,vR 388,vN,vR 389,vR 390,vR 391,vI 718 0,vI 301 0,qC 719]),
(393,fT "_law_led" 63 qL 392),
(399,cQ #[qS "_law_right" 721,qS "_law_right" 722,qC 723,vI 310 0,vI 3 0,vI 0 0,vI 0 0,vI 3 0,vR 394,vB true,vI 181 0,vR 395,vN,vR 396,vR 397,vR 398,vI 730 0,vI 310 0,qC 731]),
(400,fT "_law_right" 64 qL 399),
(404,cQ #[qS "law" 733,qS "law" 734,qC 735,vI 321 0,vI 1 0,vI 0 0,vI 0 0,vI 3 0,vR 401,vB true,vI 181 0,vR 402,vN,vN,vN,vR 403,vI 736 0,vI 321 0,qC 737]),
(405,fT "law" 65 qL 404)]
noncomputable def Ka:List Addr:=[2,3,23,24,25,40,41,43,44,55,56,64,65,71,72,78,79,83,84,90,91,95,96,102,103,107,108,112,113,119,120,126,127,131,132,138,139,143,144,150,151,157,158,164,165,171,172,178,179,185,186,192,193,199,200,204,205,211,212,218,219,225,226,230,231,237,238,244,245,249,250,254,255,259,260,264,265,269,270,274,275,281,282,288,289,295,296,300,301,307,308,314,315,319,320,326,327,331,332,338,339,345,346,352,353,359,360,366,367,371,372,378,379,385,386,392,393,399,400,404,405]
noncomputable abbrev pw:Program:=PySem.Challenge.pw_labelways_k90_whole_what_is_let_by_tells
noncomputable def Vp:Program:={ pw with main:={ pw.main with body:=[top 1,top 2,top 3,top 5,top 6,top 7,top 8,top 9,top 11,top 12,top 13,top 14,top 15,top 16,top 17,top 18,top 19,top 20,top 22,top 23,top 25,top 26,top 27,top 28,top 29,top 30,top 31,top 32,top 33,top 35,top 36,top 37,top 38,top 39,top 41,top 42,top 43,top 44,top 45,top 47,top 48,top 49,top 50,top 51,top 52,top 53,top 54,top 55,top 56,top 57,top 58,top 59,top 60,top 61,top 62,top 63,top 64,top 65] } }
noncomputable abbrev RR:PySem.W.RowW:=PySem.W.OpenRow.toRowW (PySem.Challenge.rw_labelways_k90_whole_what_is_let_by_tells).row
theorem Ke:∀P,Ka=(Kf P).map (·.1):=fun P=>by kernel_rfl
noncomputable abbrev HK:PySem.W.Hook:=PySem.W.kHook Kf Ka Ke
theorem left:PySem.W.LeftO pw Vp [] (fun s=>PySem.W.xlAt Vp [] s && PySem.W.recOk (PySem.W.RowW.records RR) s) (PySem.W.Hook.obs HK) (PySem.W.Hook.val HK) 4856:=L2.left_of (by kernel_rfl) (by decide) (fun _=>rfl) fun w os=>by kernel_rfl
end K90
noncomputable abbrev vSP:=PySem.Value->PySem.Shared->Prop
noncomputable abbrev lPO:=List (PySem.Addr×PySem.Obj)
noncomputable abbrev lLO:=List (List (Option Int))
noncomputable abbrev sOV:=PySem.Str->Option PySem.Value
namespace L2
open PySem PySem.Spec PyProof.Rows
noncomputable abbrev Key:=Sum Int Str
noncomputable def zHE:Key->Value->Bool
 | .inl k,v=>Value.isInt k v
 | .inr x,v=>Value.isStrOf x v
noncomputable def keyH (w:World):Key->Int
 | .inl k=>hashInt k
 | .inr x=>hashStr w x
theorem zBP:∀{k:Key}{v:Value},zHE k v=true->(∃i t,k=Sum.inl i/\v=Value.int i t)\/(∃x t,k=Sum.inr x/\v=Value.str x t)
 | .inl i,v,h=>by
  obtain⟨t,e⟩:=Value.isInt_shape (k:=i) (v:=v) h
  exact .inl ⟨i,t,rfl,e⟩
 | .inr x,v,h=>by
  obtain⟨t,e⟩:=Value.isStrOf_shape (x:=x) (v:=v) h
  exact .inr ⟨x,t,rfl,e⟩
theorem zIY (i:Int)(t:Tok):zHE (.inl i) (.int i t)=true:=by simp[zHE,Value.isInt]
theorem zIX (x:Str)(t:Tok):zHE (.inr x) (.str x t)=true:=by simp[zHE,Value.isStrOf]
theorem key_ll (a b:Int):decide ((Sum.inl a:Key)=Sum.inl b)=(a==b):=by
 by_cases e:a=b
 . subst e;simp
 . have h:¬ (Sum.inl a:Key)=Sum.inl b:=fun q=>e (Sum.inl.inj q)
   rw[zl h]
   exact (beq_eq_false_iff_ne.mpr e).symm
theorem key_rr (a b:Str):decide ((Sum.inr a:Key)=Sum.inr b)=decide (a=b):=by
 by_cases e:a=b
 . subst e;simp
 . have h:¬ (Sum.inr a:Key)=Sum.inr b:=fun q=>e (Sum.inr.inj q)
   rw[zl h,zl e]
theorem key_lr (a:Int)(b:Str):decide ((Sum.inl a:Key)=Sum.inr b)=false:=zl (fun q=>nomatch q)
theorem key_rl (a:Str)(b:Int):decide ((Sum.inr a:Key)=Sum.inl b)=false:=zl (fun q=>nomatch q)
noncomputable def zAf (prog:Program)(w:World):PySem.KeyKind prog w Key where
 is:=zHE
 hash:=keyH w
 inj:=fun v a b ha hb=>by
  rcases zBP ha with ⟨i,t,rfl,rfl⟩ | ⟨x,t,rfl,rfl⟩
  . rcases zBP hb with ⟨j,u,rfl,e⟩ | ⟨y,u,rfl,e⟩
    . injection e with e1 _;rw[e1]
    . exact nomatch e
  . rcases zBP hb with ⟨j,u,rfl,e⟩ | ⟨y,u,rfl,e⟩
    . exact nomatch e
    . injection e with e1 _;rw[e1]
 byValue:=fun k v h=>by
  rcases zBP h with ⟨i,t,rfl,rfl⟩ | ⟨x,t,rfl,rfl⟩ <;> rfl
 pyHash:=fun hv h=>by
  rcases zBP hv with ⟨i,t,rfl,rfl⟩ | ⟨x,t,rfl,rfl⟩
  . exact wpAny_pyHash_int h
  . exact wpAny_pyHash_str h
 eqBool:=fun hu hv h=>by
  rcases zBP hu with ⟨i,t,rfl,rfl⟩ | ⟨x,t,rfl,rfl⟩
  . rcases zBP hv with ⟨j,u,rfl,rfl⟩ | ⟨y,u,rfl,rfl⟩
    . rw[key_ll] at h;exact wpAny_eqBool_int h
    . rw[key_lr] at h;exact SeqAt.EqAt.int_str i t y u _ _ _ _ h
  . rcases zBP hv with ⟨j,u,rfl,rfl⟩ | ⟨y,u,rfl,rfl⟩
    . rw[key_rl] at h;exact SeqAt.EqAt.str_int x t j u _ _ _ _ h
    . rw[key_rr] at h;exact wpAny_eqBool_str h
 «strs» := fun k x t v h=>by
  rcases zBP h with ⟨i,u,rfl,e⟩ | ⟨y,u,rfl,e⟩
  . exact nomatch e
  . injection e with e1 _
    subst e1
    cases v <;> rfl
theorem zF6 (prog:Program)(w:World)(i:Int)(t:Tok):(zAf prog w).is (.inl i) (.int i t)=true:=zIY i t
theorem zF5 (prog:Program)(w:World)(x:Str)(t:Tok):(zAf prog w).is (.inr x) (.str x t)=true:=zIX x t
inductive V where
 | non | bl (b:Bool) | int (i:Int) | str (x:Str) | byt (b:Array UInt8) | flt (b:UInt64) | ref (a:Addr) | ty (n:String)
 deriving DecidableEq
noncomputable def zBQ:V->Value->Prop
 | .non,u=>u=Value.none
 | .bl b,u=>u=Value.bool b
 | .int i,u=>∃t,u=Value.int i t
 | .str x,u=>∃t,u=Value.str x t
 | .byt b,u=>∃t,u=Value.bytes b t
 | .flt b,u=>∃t,u=Value.float b t
 | .ref a,u=>u=Value.ref a
 | .ty n,u=>u=Value.type n
noncomputable abbrev zBE:List V->List Value->Prop:=Paired zBQ
variable {us:List Value}
theorem zBE.length {xs:List V}(r:zBE xs us):xs.length=us.length:=Paired.length r
theorem zBE.get:∀{xs:List V}{us:List Value}{i:Nat}{x:V},zBE xs us->xs[i]? = some x->∃u,us[i]? = some u/\zBQ x u
 | _,_,_,_,.nil,e=>by simp at e
 | _,_,0,_,.cons r _,e=>by simp at e;subst e;exact⟨_,rfl,r⟩
 | _,_,i+1,x,.cons _ t,e=>by
  obtain⟨u,h1,h2⟩:=zBE.get (i:=i) (x:=x) t (by simpa using e)
  exact⟨u,by simpa using h1,h2⟩
theorem zBE.set {x:V}{u:Value}(r:zBQ x u):∀{xs:List V}{us:List Value}(i:Nat),zBE xs us->zBE (xs.set i x) (us.set i u)
 | _,_,_,.nil=>.nil
 | _,_,0,.cons _ t=>.cons r t
 | _,_,i+1,.cons q t=>.cons q (zBE.set r i t)
theorem zBE.append:∀{xs ys:List V}{us ws:List Value},zBE xs us->zBE ys ws->zBE (xs++ys) (us++ws)
 | _,_,_,_,.nil,s=>s
 | _,_,_,_,.cons r t,s=>.cons r (zBE.append t s)
theorem zBE.take:∀{xs:List V}{us:List Value}(n:Nat),zBE xs us->zBE (xs.take n) (us.take n)
 | _,_,0,_=>.nil
 | _,_,_+1,.nil=>.nil
 | _,_,n+1,.cons r t=>.cons r (zBE.take n t)
theorem zBE.drop:∀{xs:List V}{us:List Value}(n:Nat),zBE xs us->zBE (xs.drop n) (us.drop n)
 | _,_,0,r=>r
 | _,_,_+1,.nil=>.nil
 | _,_,n+1,.cons _ t=>zBE.drop n t
noncomputable def zE3:Option V->Option Value->Prop
 | some v,some u=>zBQ v u
 | none,none=>True
 | _,_=>False
noncomputable def KV {κ:Type}:List (κ×V)->List (κ×Value)->Prop:=Paired fun (p:κ×V)(q:κ×Value)=>p.1=q.1/\zBQ p.2 q.2
noncomputable def kV:Key->V
 | .inl i=>.int i
 | .inr x=>.str x
inductive HO where
 /-- a list -/
 | lst (xs:List V)
 /-- a tuple (never changes) -/
 | tup (xs:List V)
 /-- a dict whose keys are ints and texts;one whose keys are tuples of ints and texts (the empty one is both) -/
 | dK (kvs:List (Key×V)) | dT (kvs:List (List Key×V))
 /-- a set of ints: its members,its size -/
 | set (S:Int->Bool)(n:Nat)
 /-- an instance of the class at C,its dict at dx,its attributes -/
 | ins (C dx:Addr)(fs:List (Str×V))
 /-- the dict of the instance at x -/
 | own (x:Addr)
 /-- the dict of an exception -/
 | xd (fs:List (Str×V))
 /-- a bound method,f of x -/
 | met (f x:Addr)
 /-- a range object lo,lo+1,.. below hi -/
 | rng (lo hi:Int)
 /-- a thing that is known to the object (the script;a dict while a loop walks it): read,never written while it is so -/
 | frz (o:Obj)(u:HO)
 /-- a code object's table -/
 | tbl (ps:Array Value)
 /-- any other thing,by what is true of its one object (a def of one's own: SetO a S n:=HO.ext fun h=>..) -/
 | ext (φ:Heap->Prop)
noncomputable abbrev Hp:=Addr->Option HO
noncomputable def upd (H:Hp)(a:Addr)(o:HO):Hp:=fun b=>if b=a then some o else H b
variable {H:Hp}{a:Addr}
theorem zJ {o:HO}:upd H a o a=some o:=by unfold upd;rw[if_pos rfl]
variable {b:Addr}
theorem za {o:HO}(h:b≠a):upd H a o b=H b:=by unfold upd;rw[if_neg h]
theorem zB1 {o u:HO}:upd (upd H a o) a u=upd H a u:=by
 funext b;unfold upd;split <;> rfl
theorem zBT {o u:HO}(h:H a=some o)(h':H b=some u)(d:o≠u):a≠b:=by
 intro e;subst e;rw[h] at h';exact d (zY h')
theorem zn {o:HO}(h:H a=some o)(h':H b=none):a≠b:=by
 intro e;subst e;rw[h] at h';cases h'
section
variable (P:Program)(w:World)
noncomputable def zBI (H:Hp)(h:Heap)(a:Addr):HO->Prop
 | .lst xs=>xs.length<=sizeLine/\∃(its:List Value)(n:Nat),zBE xs its/\h.get? a=some { cls:=.type "list",data:=.seq its.toArray n }
 | .tup xs=>(xs.length<=sizeLine/\∃o,h.get? a=some o/\o.dict=none)/\∃its:List Value,zBE xs its/\IsTup h a its.toArray
 | .dK kvs=>kvs.length<=sizeLine/\(a==sysModules)=false/\∃vs,KV kvs vs/\h.DictOf (zAf P w) a vs
 | .dT kvs=>kvs.length<=sizeLine/\(a==sysModules)=false/\∃xs:List (List Key×Addr×Value),
  Paired (fun (p:List Key×V)(q:List Key×Addr×Value)=>p.1=q.1/\H q.2.1=some (.tup (p.1.map kV))/\zBQ p.2 q.2.2) kvs xs /\
  ∃o es ep,h.get? a=some o/\o.ExactDict/\o.data = .dict es ep/\es.toList=xs.map (entryOfKey (tupleKind (zAf P w)))/\(xs.map (·.1)).Nodup
 | .set S n=>h.SetOf (intKind P w) a S n
 | .ins C dx fs=>H dx=some (.own a)/\fs.length<=1000/\dx≠a/\h.get? a=some (PySem.W.instObj C dx) /\
  ∃mA,h.Ns1 dx mA/\(∀f,zE3 (fs.lookup f) (mA f))/\PySem.Within mA (fs.map (·.1))
 | .own _=>∃o,h.get? a=some o
 | .xd fs=>∃mA,h.Ns1 a mA/\∀f,zE3 (fs.lookup f) (mA f)
 | .rng lo hi=>∃t u v,h.get? a=some { cls:=.type "range",data:=.fields #[.int lo t,.int hi u,.int 1 v] }
 | .frz o u=>h.get? a=some o/\zBI H h a u
 | .tbl ps=>h.get? a=some { cls:=.none,data:=.fields ps }
 | .met f x=>h.get? a=some (PySem.W.methodObj (.ref f) (.ref x))
 | .ext φ=>φ h/\(∃o,h.get? a=some o)/\∀h1 h2:Heap,φ h1->(∀o,h1.get? a=some o->h2.get? a=some o)->φ h2
noncomputable def HOk (H:Hp)(h:Heap):Prop:=∀a o,H a=some o->zBI P w H h a o
end
section
variable {P:Program}{w:World}{H H':Hp}{h h':Heap}{a:Addr}{o:HO}
theorem zBI.lt (x:zBI P w H h a o):a<h.objs.size:=by
 cases o with
 | lst xs=>obtain⟨_,_,_,_,e⟩:=x;exact zX e
 | tup xs=>obtain⟨_,_,_,p⟩:=x;exact p.lt
 | dK kvs=>obtain⟨_,_,_,_,o,_,_,e,_⟩:=x;exact zX e
 | dT kvs=>obtain⟨_,_,_,_,o,_,_,e,_⟩:=x;exact zX e
 | set S n=>obtain⟨o,_,_,_,e,_⟩:=x;exact zX e
 | ins C dx fs=>obtain⟨_,_,_,e,_⟩:=x;exact zX e
 | own y=>obtain⟨_,e⟩:=x;exact zX e
 | xd fs=>obtain⟨_,⟨_,_,_,e,_⟩,_⟩:=x;exact zX e
 | rng lo hi=>obtain⟨_,_,_,e⟩:=x;exact zX e
 | frz ob u=>obtain⟨e,_⟩:=x;exact zX e
 | tbl ps=>exact zX (show h.get? a=some _ from x)
 | met f y=>exact zX (show h.get? a=some _ from x)
 | ext φ=>obtain⟨_,⟨_,e⟩,_⟩:=x;exact zX e
theorem Paired.mapP {α β:Type}{F G:α->β->Prop}:∀{l₁:List α}{l₂:List β},Paired F l₁ l₂->(∀a b,F a b->G a b)->Paired G l₁ l₂
 | _,_,.nil,_=>.nil
 | _,_,.cons r t,f=>.cons (f _ _ r) (Paired.mapP t f)
theorem zBI.stay (x:zBI P w H h a o)(k:∀b u,(b=a\/H b=some (.own a))->h.get? b=some u->h'.get? b=some u)
 (ho:∀b,H b=some (.own a)->H' b=some (.own a))(ht:∀b xs,H b=some (.tup xs)->H' b=some (.tup xs)):zBI P w H' h' a o:=by
 induction o with
 | lst xs=>obtain⟨z,its,n,r,e⟩:=x;exact⟨z,its,n,r,k _ _ (.inl rfl) e⟩
 | tup xs=>obtain⟨⟨z,o2,e2,d2⟩,its,r,ob,e,c⟩:=x;exact⟨⟨z,o2,k _ _ (.inl rfl) e2,d2⟩,its,r,ob,k _ _ (.inl rfl) e,c⟩
 | dK kvs=>obtain⟨z,y,vs,r,ob,es,ep,e,c⟩:=x;exact⟨z,y,vs,r,ob,es,ep,k _ _ (.inl rfl) e,c⟩
 | dT kvs=>
  obtain⟨z,y,xs,r,ob,es,ep,e,c⟩:=x
  exact⟨z,y,xs,Paired.mapP r fun p q z=>⟨z.1,ht _ _ z.2.1,z.2.2⟩,ob,es,ep,k _ _ (.inl rfl) e,c⟩
 | set S n=>obtain⟨ob,es,ep,t,e,c⟩:=x;exact⟨ob,es,ep,t,k _ _ (.inl rfl) e,c⟩
 | ins C dx fs=>
  obtain⟨d,z,ne,e,mA,⟨od,es,ep,e2,c⟩,r⟩:=x
  exact⟨ho _ d,z,ne,k _ _ (.inl rfl) e,mA,⟨od,es,ep,k _ _ (.inr d) e2,c⟩,r⟩
 | own y=>obtain⟨ob,e⟩:=x;exact⟨ob,k _ _ (.inl rfl) e⟩
 | xd fs=>obtain⟨mA,⟨od,es,ep,e,c⟩,r⟩:=x;exact⟨mA,⟨od,es,ep,k _ _ (.inl rfl) e,c⟩,r⟩
 | rng lo hi=>obtain⟨t,u,v,e⟩:=x;exact⟨t,u,v,k _ _ (.inl rfl) e⟩
 | frz ob u ih=>obtain⟨e,q⟩:=x;exact⟨k _ _ (.inl rfl) e,ih q⟩
 | tbl ps=>
  have e:h.get? a=some { cls:=.none,data:=.fields ps }:=x
  show h'.get? a=some { cls:=.none,data:=.fields ps }
  exact k a _ (.inl rfl) e
 | met f y=>
  have e:h.get? a=some (PySem.W.methodObj (.ref f) (.ref y)):=x
  show h'.get? a=some (PySem.W.methodObj (.ref f) (.ref y))
  exact k a _ (.inl rfl) e
 | ext φ=>obtain⟨p,⟨o,e⟩,st⟩:=x;exact⟨st _ _ p fun o q=>k _ _ (.inl rfl) q,⟨o,k _ _ (.inl rfl) e⟩,st⟩
theorem HOk.lt (x:HOk P w H h)(e:H a=some o):a<h.objs.size:=(x a o e).lt
theorem HOk.fresh (x:HOk P w H h)(e:h.objs.size<=a):H a=none:=by
 cases q:H a with
 | none=>rfl
 | some u=>exact absurd (zo (x.lt q) e) (zBo _)
theorem HOk.kept (x:HOk P w H h)(k:∀b u,h.get? b=some u->h'.get? b=some u):HOk P w H h':=fun a o e=>
 (x a o e).stay (fun b u _ q=>k b u q) (fun _ q=>q) fun _ _ q=>q
theorem HOk.laid (x:HOk P w H h)(k:∀b u,h.get? b=some u->h'.get? b=some u)(hp:h.objs.size<=a)(new:zBI P w (upd H a o) h' a o):HOk P w (upd H a o) h':=fun b u e=>by
 have hn:=x.fresh hp
 by_cases hb:b=a
 . subst hb;rw[zJ] at e;cases e;exact new
 . rw[za hb] at e
   exact (x b u e).stay (fun c v _ q=>k c v q) (fun c q=>by rw[za (zn q hn)];exact q) fun c xs q=>by rw[za (zn q hn)];exact q
end
noncomputable def Rd (H:Hp)(a:Addr)(u:HO):Prop:=H a=some u\/∃o,H a=some (.frz o u)
variable {w:World}{h:Heap}
theorem Rd.ok {P:Program}{u:HO}(r:Rd H a u)(x:HOk P w H h):zBI P w H h a u:=by
 rcases r with r | ⟨o,r⟩
 . exact x a u r
 . obtain⟨_,q⟩:=x a _ r
   exact q
noncomputable def Mut:Option HO->Prop
 | some (.lst _)=>True
 | some (.dK _)=>True
 | some (.dT _)=>True
 | some (.set _ _)=>True
 | some (.ins _ _ _)=>True
 | some (.ext _)=>True
 | _=>False
section
variable {P:Program}{w:World}{H:Hp}{h h':Heap}{x e:Addr}{o':HO}
theorem HOk.write (ok:HOk P w H h)(mu:Mut (H x))(he:e=x\/H e=some (.own x))(k:∀b u,b≠e->h.get? b=some u->h'.get? b=some u)(heo:∃u,h'.get? e=some u)
 (new:zBI P w (upd H x o') h' x o'):HOk P w (upd H x o') h':=fun b u q=>by
 have nown:∀c y,H c=some (.own y)->c≠x:=fun c y r z=>by subst z;rw[r] at mu;exact mu
 have ntup:∀c xs,H c=some (.tup xs)->c≠x:=fun c xs r z=>by subst z;rw[r] at mu;exact mu
 by_cases hb:b=x
 . subst hb;rw[zJ] at q;cases q;exact new
 . rw[za hb] at q
   by_cases hbe:b=e
   . have q':H b=some (.own x):=by
      rcases he with z | z
      . exact absurd (hbe.trans z) hb
      . rw[hbe];exact z
     rw[q] at q';cases q'
     obtain⟨v,hv⟩:=heo
     exact⟨v,by rw[hbe];exact hv⟩
   . refine (ok b u q).stay (fun c v hc r=>k c v ?_ r) (fun c r=>by rw[za (nown c b r)];exact r) fun c xs r=>by rw[za (ntup c xs r)];exact r
     rcases hc with rfl | hc
     . exact hbe
     . rintro rfl
       rcases he with z | z
       . exact nown c b hc z
       . rw[hc] at z;cases z;exact hb rfl
end
structure Un (fs ex:List Addr)(H H':Hp)(h h':Heap):Prop where
 keep:∀b o,h.get? b=some o->H b=none->b∉fs->b∉ex->h'.get? b=some o
 slot:∀b o,h.get? b=some o->H b=none->b∈fs->b∉ex->∃sl,h'.get? b=some { o with slots:=sl }
 free:∀b o,h.get? b=some o->H b=none->b∉ex->H' b=none
 there:∀b o,h.get? b=some o->b∉ex->∃o',h'.get? b=some o'
 tups:∀b xs,H b=some (.tup xs)->H' b=some (.tup xs)
 frzs:∀b o u,H b=some (.frz o u)->H' b=some (.frz o u)
 tbls:∀b ps,H b=some (.tbl ps)->∃more,H' b=some (.tbl (ps++more))
section
variable {fs fs' ex ex':List Addr}{H H1 H2:Hp}{h h1 h2 h':Heap}{a x e:Addr}{o:HO}
theorem Un.any (u:Un fs ex H H1 h h1){ob:Obj}(q:h.get? b=some ob)(n:H b=none)(hx:b∉ex):∃sl,h1.get? b=some { ob with slots:=sl }:=by
 by_cases hb:b∈fs
 . exact u.slot b ob q n hb hx
 . exact⟨ob.slots,u.keep b ob q n hb hx⟩
theorem Un.trans (a:Un fs ex H H1 h h1)(b:Un fs ex H1 H2 h1 h2):Un fs ex H H2 h h2 where
 keep:=fun c ob q n hc hx=>b.keep c ob (a.keep c ob q n hc hx) (a.free c ob q n hx) hc hx
 slot:=fun c ob q n hc hx=>by
  obtain⟨sl,e1⟩:=a.slot c ob q n hc hx
  obtain⟨sl',e2⟩:=b.slot c _ e1 (a.free c ob q n hx) hc hx
  exact⟨sl',e2⟩
 free:=fun c ob q n hx=>by
  obtain⟨o',e1⟩:=a.there c ob q hx
  exact b.free c o' e1 (a.free c ob q n hx) hx
 there:=fun c ob q hx=>by
  obtain⟨o',e1⟩:=a.there c ob q hx
  exact b.there c o' e1 hx
 tups:=fun c xs q=>b.tups c xs (a.tups c xs q)
 frzs:=fun c ob xs q=>b.frzs c ob xs (a.frzs c ob xs q)
 tbls:=fun c ps q=>by
  obtain⟨m1,e1⟩:=a.tbls c ps q
  obtain⟨m2,e2⟩:=b.tbls c _ e1
  exact⟨m1++m2,by rw[e2,Array.append_assoc]⟩
theorem Un.kept (k:∀b u,h.get? b=some u->h'.get? b=some u):Un fs ex H H h h':=
 ⟨fun b ob q _ _ _=>k b ob q,fun b ob q _ _ _=>⟨ob.slots,k b ob q⟩,fun _ _ _ n _=>n,fun b ob q _=>⟨ob,k b ob q⟩,fun _ _ q=>q,fun _ _ _ q=>q,fun _ ps q=>⟨#[],by rw[q];simp⟩⟩
theorem Un.refl:Un fs ex H H h h:=Un.kept fun _ _ q=>q
theorem Un.laid (k:∀b u,h.get? b=some u->h'.get? b=some u)(hp:h.objs.size<=a)(hn:H a=none):Un fs ex H (upd H a o) h h' where
 keep:=fun b u q _ _ _=>k b u q
 slot:=fun b u q _ _ _=>⟨u.slots,k b u q⟩
 free:=fun b u q n _=>by rw[za (zd (zo (zX q) hp))];exact n
 there:=fun b u q _=>⟨u,k b u q⟩
 tups:=fun b xs q=>by rw[za (zn q hn)];exact q
 frzs:=fun b u xs q=>by rw[za (zn q hn)];exact q
 tbls:=fun b ps q=>⟨#[],by rw[za (zn q hn),q];simp⟩
theorem Un.write (mu:Mut (H x))(he:e=x\/H e=some (.own x))(k:∀b u,b≠e->h.get? b=some u->h'.get? b=some u)(heo:∃u,h'.get? e=some u):Un fs ex H (upd H x o) h h':=by
 have hx:∀b,H b=none->b≠x:=fun b n z=>by subst z;rw[n] at mu;exact mu
 have hb:∀b,H b=none->b≠e:=fun b n z=>by
  subst z
  rcases he with r | r
  . exact hx b n r
  . rw[n] at r;cases r
 have hm:∀b u,H b=some u->¬ Mut (some u)->b≠x:=fun b u q nm z=>by subst z;rw[q] at mu;exact nm mu
 refine⟨fun b u q n _ _=>k b u (hb b n) q,fun b u q n _ _=>⟨u.slots,k b u (hb b n) q⟩,fun b u q n _=>by rw[za (hx b n)];exact n,fun b u q _=>?_,
  fun b xs q=>by rw[za (hm b _ q fun z=>z)];exact q,fun b u xs q=>by rw[za (hm b _ q fun z=>z)];exact q,fun b ps q=>⟨#[],by rw[za (hm b _ q fun z=>z),q];simp⟩⟩
 by_cases hbe:b=e
 . subst hbe;exact heo
 . exact⟨u,k b u hbe q⟩
end
noncomputable def trk (h:Heap)(H:Hp):List Addr:=(List.range h.objs.size).filter fun a=>(H a).isSome
noncomputable def zJD (h:Heap)(H:Hp):Heap:=PySem.W.hideAll h (trk h H)
theorem zIf (h:Heap)(H:Hp):(zJD h H).objs.size=h.objs.size:=PySem.W.hideAll_size _ _
variable {o:Obj}
theorem zJv (e:h.get? b=some o)(n:H b=none):(zJD h H).get? b=some o:=
 PySem.W.hideAll_get _ e fun hm=>by
  have q:(H b).isSome=true:=(zAG.mp hm).2
  rw[n] at q;simp at q
theorem zLQ (e:(zJD h H).get? b=some o):h.get? b=some o/\H b=none:=by
 have e':h.get? b=some o:=PySem.W.of_hideAll (trk h H) e
 refine⟨e',?_⟩
 cases q:H b with
 | none=>rfl
 | some x=>
  have hm:b∈trk h H:=zAG.mpr ⟨zBg.mpr (zX e'),by simp[q]⟩
  have z:(zJD h H).get? b=none:=PySem.W.hideAll_none (trk h H) hm
  rw[z] at e;cases e
noncomputable def zEA (g h:Heap)(L:Addr):List (Addr×Obj):=(List.range h.objs.size).filterMap fun a=>if a=L\/(g.get? a).isSome=true then none else (h.get? a).map fun o=>(a,o)
variable {L:Addr}
theorem zF7 {g:Heap}(h1:a≠L)(h2:g.get? a=none)(h3:h.get? a=some o):(a,o)∈zEA g h L:=
 zAr.mpr ⟨a,zBg.mpr (zX h3),by simp[h1,h2,h3]⟩
theorem zEH {g:Heap}{p:Addr×Obj}(hp:p∈zEA g h L):p.1≠L/\g.get? p.1=none/\h.get? p.1=some p.2:=by
 obtain⟨b,_,e⟩:=zAr.mp hp
 split at e
 . cases e
 . rename_i hn
   cases q:h.get? b with
   | none=>rw[q] at e;simp at e
   | some u=>
    rw[q] at e
    simp only[zAk,Option.some.injEq] at e
    subst e
    refine⟨fun z=>hn (.inl z),?_,q⟩
    show g.get? b=none
    cases r:g.get? b with
    | none=>rfl
    | some v=>exact (hn (.inr (by simp[r]))).elim
theorem zJm {g:Heap}:News g L h (zEA g h L):=fun p hp=>let ⟨a,b,c⟩:=zEH hp;⟨c,a,b⟩
structure Mod (K:PySem.W.Frag)(mg:sOV)(base:Heap):Prop where
 kin:K.In base
 glob:base.Ns mainGlobals mg
 blt:∃mb,base.Ns builtinsNs mb/\∀x:Str,x ≠ "__name__" -> mb x=bootBuiltins x
 nolimit:base.NoLimit
structure Cx where
 prog:Program
 w:World
 K:PySem.W.Frag
 mg:Str->Option Value
 base:Heap
 A:Around
 N:List Str
 s₀:Shared
 H₀:Hp
 env:Env
 outer:List Env
 stack:List Env
 ex:List Addr
 fn:Str->Bool
 calm:Bool
 pn:List (Addr×Obj)
 xe:Value->Shared->Prop
noncomputable def frs (l:List Env):List Addr:=l.filterMap (·.frame)
noncomputable abbrev Cx.fs (X:Cx):List Addr:=frs X.outer
noncomputable def Vis (sc:Scope)(x:Str):Prop:=sc.names.lookup x=some .local\/sc.names.lookup x=some .cell\/sc.names.lookup x=some .free
noncomputable def Loc (sc:Scope)(x:Str):Prop:=sc.names.lookup x=some .local\/sc.names.lookup x=some .cell
noncomputable def zI6 (env:Env)(h:Heap)(m:sOV)(x:Str)(u:Value):Prop:=
 (env.kindOf x=some .local/\m x=some u)\/((env.kindOf x=some .cell\/env.kindOf x=some .free)/\∃c,env.cells.lookup x=some c/\h.IsCell c (some u))
structure Cx.Ok (X:Cx):Prop where
 mod:Mod X.K X.mg X.base
 kind:X.env.scope.kind = .function
 glob:X.env.globals=mainGlobals
 blt:X.env.builtins=builtinsNs
 above:X.s₀.heap.objs.size<=X.env.locals
 inj:∀x y c,X.env.cells.lookup x=some c->X.env.cells.lookup y=some c->x=y
 has:∀x,(X.env.kindOf x=some .cell\/X.env.kindOf x=some .free)->∃c,X.env.cells.lookup x=some c
 cab:∀x c,X.fn x=true->X.env.cells.lookup x=some c->X.s₀.heap.objs.size<=c
 hd:X.calm=true->X.A.handled=none
 frames:X.A.frames=some X.stack
 stk:X.stack=X.outer\/(X.stack=X.env::X.outer/\X.env.frame=some X.env.locals)
 exf:∀b∈X.ex,b≠X.env.locals/\∀x c,X.env.cells.lookup x=some c->c≠b
 bs:∀b o,X.base.get? b=some o->X.s₀.heap.get? b=some o/\X.H₀ b=none
 bsz:X.base.objs.size<=X.s₀.heap.objs.size
 noex:∀b o,X.base.get? b=some o->b∉X.ex
 exfs:∀b∈X.ex,b∉X.fs
 funs:X.s₀.heap.FunFrames X.base X.outer
 frf:∀b∈X.fs,X.H₀ b=none
structure Inv (X:Cx)(pins:lPO)(σ:List (Option V))(H:Hp)(s:Shared):Prop where
 ok:X.Ok
 os:s.os=X.s₀.os
 bare:AllBare s.gens
 base:Un X.fs X.ex X.H₀ H X.s₀.heap s.heap
 loc:∃m,s.heap.Ns X.env.locals m/\∀(i:Nat)(x:Str)(v:V),X.N[i]? = some x->σ[i]? = some (some v)->Vis X.env.scope x->∃u,zBQ v u/\zI6 X.env s.heap m x u
 cell:∀x c,X.env.cells.lookup x=some c->∃v,s.heap.IsCell c v
 free:H X.env.locals=none
 freeC:∀x c,X.env.cells.lookup x=some c->H c=none
 pin:∀p∈X.pn++pins,s.heap.get? p.1=some p.2/\H p.1=none/\p.1≠X.env.locals/\p.1∉X.fs/\∀v,p.2.data ≠ .cell v
 hok:HOk X.prog X.w H s.heap
 len:σ.length=X.N.length
variable {u:Value}{t' i:Nat}{N:List Str}{x:Str}{M:Model}{A:Around}{v:V}{Q:Unit->Shared->Prop}
section
variable {X:Cx}{pins:lPO}{σ:List (Option V)}{H H':Hp}{s:Shared}{h':Heap}
theorem Cx.Ok.nofr (ok:X.Ok)(e:X.base.get? b=some o):b∉X.fs:=fun hb=>by
 have:=(ok.funs.mem hb).1
 rw[e] at this;cases this
theorem Inv.bs (I:Inv X pins σ H s):∀b o,X.base.get? b=some o->s.heap.get? b=some o/\H b=none:=fun b o e=>
 ⟨I.base.keep b o (I.ok.bs b o e).1 (I.ok.bs b o e).2 (I.ok.nofr e) (I.ok.noex b o e),I.base.free b o (I.ok.bs b o e).1 (I.ok.bs b o e).2 (I.ok.noex b o e)⟩
theorem Inv.bk (I:Inv X pins σ H s):∀b o,X.base.get? b=some o->s.heap.get? b=some o:=fun b o e=>(I.bs b o e).1
theorem Inv.mod (I:Inv X pins σ H s):Mod X.K X.mg X.base:=I.ok.mod
theorem Inv.kIn (I:Inv X pins σ H s):X.K.In s.heap:=I.ok.mod.kin.keeps I.bk
theorem Inv.fr (I:Inv X pins σ H s):∃m,Fr X.base X.env.locals s.heap m:=
 let ⟨m,hn,_⟩:=I.loc
 ⟨m,hn,I.bk,zAH I.ok.bsz I.ok.above⟩
theorem Inv.lt (I:Inv X pins σ H s):X.env.locals<s.heap.objs.size:=let ⟨_,hn,_⟩:=I.loc;hn.lt
theorem Inv.sz (I:Inv X pins σ H s):X.s₀.heap.objs.size<=s.heap.objs.size:=zAH I.ok.above (zAw I.lt)
theorem Inv.nofs (I:Inv X pins σ H s)(h:s.heap.objs.size<=a):a∉X.fs:=fun hb=>by
 obtain⟨_,o,ho,_⟩:=I.ok.funs.mem hb
 exact absurd (zo (zX ho) (zAH I.sz h)) (zBo _)
theorem Inv.cne (I:Inv X pins σ H s):∀x c,X.env.cells.lookup x=some c->c≠X.env.locals:=fun x c e z=>by
 obtain⟨v,o,ho,hd⟩:=I.cell x c e
 obtain⟨m,⟨o',es,ep,ho',hd',_⟩,_⟩:=I.loc
 rw[z,ho'] at ho;cases ho;rw[hd'] at hd;cases hd
theorem Inv.funs (I:Inv X pins σ H s):s.heap.FunFrames X.base X.outer:=by
 have all:∀(l:List Env),(∀b∈frs l,b∈X.fs)->X.s₀.heap.FunFrames X.base l->s.heap.FunFrames X.base l:=by
  intro l
  induction l with
  | nil=>intro _ _;trivial
  | cons env r ih=>
   intro hs hl
   obtain⟨hk,⟨L,o,hf,hn,ho,hd⟩,hr⟩:=hl
   have hL:L∈X.fs:=hs L (by unfold frs;rw[List.filterMap_cons,hf];exact zV)
   obtain⟨sl,e⟩:=I.base.slot L o ho (I.ok.frf L hL) hL fun z=>I.ok.exfs L z hL
   exact⟨hk,⟨L,_,hf,hn,e,hd⟩,ih (fun b hb=>hs b (by unfold frs;rw[List.filterMap_cons,hf];exact zc _ hb)) hr⟩
 exact all X.outer (fun _ hb=>hb) I.ok.funs
theorem Inv.stack (I:Inv X pins σ H s):s.heap.FunFrames X.base X.stack:=by
 rcases I.ok.stk with e | ⟨e,hf⟩
 . rw[e];exact I.funs
 . rw[e]
   obtain⟨m,hn,_⟩:=I.loc
   refine .cons (by rw[I.ok.kind];decide) hf hn ?_ I.funs
   exact Heap.get?_none_of_le (zAH I.ok.bsz I.ok.above)
theorem Inv.stkSub (I:Inv X pins σ H s):∀b∈frs X.stack,b∈X.env.locals::X.fs:=fun b hb=>by
 rcases I.ok.stk with e | ⟨e,hf⟩
 . rw[e] at hb;exact zc _ hb
 . rw[e] at hb
   unfold frs at hb
   rw[List.filterMap_cons,hf] at hb
   exact hb
theorem Inv.stkFree (I:Inv X pins σ H s):∀b∈frs X.stack,H b=none:=fun b hb=>by
 rcases zi.mp (I.stkSub b hb) with e | hb
 . rw[e];exact I.free
 . obtain⟨_,o,ho,_⟩:=I.ok.funs.mem hb
   exact I.base.free b o ho (I.ok.frf b hb) fun z=>I.ok.exfs b z hb
theorem Inv.step {g':Array GenState}{t':Nat}{d':Drawn}{ch:List Addr}(I:Inv X pins σ H s)
 (hch:∀b∈ch,(b∈X.ex\/X.s₀.heap.objs.size<=b)/\b≠X.env.locals/\(∀x c,X.env.cells.lookup x=some c->c≠b)/\∀p∈X.pn++pins,p.1≠b)
 (keep:∀b o,b≠X.env.locals->b∉X.fs->b∉ch->s.heap.get? b=some o->H b=none->h'.get? b=some o)
 (slot:∀b o,b≠X.env.locals->b∈X.fs->b∉ch->s.heap.get? b=some o->H b=none->∃sl,h'.get? b=some { o with slots:=sl })(free:∀b o,b∉ch->s.heap.get? b=some o->H b=none->H' b=none)
 (there:∀b o,b∉ch->s.heap.get? b=some o->∃o',h'.get? b=some o')
 (tups:∀b xs,H b=some (.tup xs)->H' b=some (.tup xs))(frzs:∀b o u,H b=some (.frz o u)->H' b=some (.frz o u))(tbls:∀b ps,H b=some (.tbl ps)->∃more,H' b=some (.tbl (ps++more)))
 (ns:∀m,s.heap.Ns X.env.locals m->h'.Ns X.env.locals m)(hok:HOk X.prog X.w H' h')(hg:AllBare g') :
 Inv X pins σ H' { s with heap:=h',gens:=g',drawn:=d',toks:=t' }:=by
 have neL:∀b o,X.s₀.heap.get? b=some o->b≠X.env.locals:=fun b o e=>zd (zo (zX e) I.ok.above)
 have neC:∀b o,X.s₀.heap.get? b=some o->b∉X.ex->b∉ch:=fun b o e hx hb=>by
  rcases (hch b hb).1 with z | z
  . exact hx z
  . exact absurd (zo (zX e) z) (zBo _)
 have cellK:∀x c,X.env.cells.lookup x=some c->∀v,s.heap.IsCell c v->h'.IsCell c v:=fun x c e v ⟨o,ho,hd⟩=>by
  have nch:c∉ch:=fun z=>(hch c z).2.2.1 x c e rfl
  by_cases hc:c∈X.fs
  . obtain⟨sl,q⟩:=slot c o (I.cne x c e) hc nch ho (I.freeC x c e)
    exact⟨_,q,hd⟩
  . exact⟨o,keep c o (I.cne x c e) hc nch ho (I.freeC x c e),hd⟩
 refine⟨I.ok,I.os,hg,⟨fun b o e n hb hx=>?_,fun b o e n hb hx=>?_,fun b o e n hx=>?_,fun b o e hx=>?_,fun b xs e=>tups b xs (I.base.tups b xs e),fun b o xs e=>frzs b o xs (I.base.frzs b o xs e),fun b ps e=>?_⟩,?_,fun x c e=>?_,?_,fun x c e=>?_,fun p hp=>?_,hok,I.len⟩
 . exact keep b o (neL b o e) hb (neC b o e hx) (I.base.keep b o e n hb hx) (I.base.free b o e n hx)
 . obtain⟨sl,e1⟩:=I.base.slot b o e n hb hx
   obtain⟨sl',e2⟩:=slot b _ (neL b o e) hb (neC b o e hx) e1 (I.base.free b o e n hx)
   exact⟨sl',e2⟩
 . obtain⟨o',e1⟩:=I.base.there b o e hx
   exact free b o' (neC b o e hx) e1 (I.base.free b o e n hx)
 . obtain⟨o',e1⟩:=I.base.there b o e hx
   exact there b o' (neC b o e hx) e1
 . obtain⟨m1,e1⟩:=I.base.tbls b ps e
   obtain⟨m2,e2⟩:=tbls b _ e1
   exact⟨m1++m2,by rw[e2,Array.append_assoc]⟩
 . obtain⟨m,hn,hl⟩:=I.loc
   refine⟨m,ns m hn,fun i x v e1 e2 e3=>?_⟩
   obtain⟨u,r,l⟩:=hl i x v e1 e2 e3
   refine⟨u,r,?_⟩
   rcases l with l | ⟨k,c,e,z⟩
   . exact .inl l
   . exact .inr ⟨k,c,e,cellK x c e _ z⟩
 . obtain⟨v,z⟩:=I.cell x c e
   exact⟨v,cellK x c e v z⟩
 . obtain⟨m,⟨o,_,_,ho,_⟩,_⟩:=I.loc
   exact free _ o (fun z=>(hch _ z).2.1 rfl) ho I.free
 . obtain⟨v,o,ho,hd⟩:=I.cell x c e
   exact free c o (fun z=>(hch c z).2.2.1 x c e rfl) ho (I.freeC x c e)
 . obtain⟨e,n,ne,nf,d⟩:=I.pin p hp
   have nch:p.1∉ch:=fun z=>(hch p.1 z).2.2.2 p hp rfl
   exact⟨keep p.1 p.2 ne nf nch e n,free p.1 p.2 nch e n,ne,nf,d⟩
theorem Inv.un (I:Inv X pins σ H s)(u:Un X.fs [] H H' s.heap h')(hok:HOk X.prog X.w H' h'):Inv X pins σ H' { s with heap:=h',toks:=t' }:=by
 obtain⟨m,⟨o,es,ep,ho,r⟩,_⟩:=id I.loc
 obtain⟨sl,hL⟩:=u.any ho I.free (by simp)
 exact I.step (g':=s.gens) (d':=s.drawn) (ch:=[]) (fun _ z=>nomatch z) (fun b o _ hb _ e n=>u.keep b o e n hb (by simp)) (fun b o _ hb _ e n=>u.slot b o e n hb (by simp)) (fun b o _ e n=>u.free b o e n (by simp)) (fun b o _ e=>u.there b o e (by simp)) u.tups u.frzs u.tbls (fun m' hm=>by
  obtain⟨o',es',ep',ho',r'⟩:=hm
  rw[ho] at ho';cases ho'
  exact⟨_,es',ep',hL,r'⟩) hok I.bare
theorem Inv.call {g':Array GenState}{d':Drawn}{ch:List Addr}(I:Inv X pins σ H s)(u:Un (frs X.stack) ch H H' s.heap h')(hok:HOk X.prog X.w H' h')(hg:AllBare g')
 (hch:∀b∈ch,(b∈X.ex\/X.s₀.heap.objs.size<=b)/\b≠X.env.locals/\(∀x c,X.env.cells.lookup x=some c->c≠b)/\∀p∈X.pn++pins,p.1≠b) :
 Inv X pins σ H' { s with heap:=h',gens:=g',drawn:=d',toks:=t' }:=by
 obtain⟨m,⟨o,es,ep,ho,r⟩,_⟩:=id I.loc
 obtain⟨sl,hL⟩:=u.any ho I.free fun z=>(hch _ z).2.1 rfl
 exact I.step (ch:=ch) hch (fun b o hL hb hc e n=>u.keep b o e n (fun z=>(zi.mp (I.stkSub b z)).elim hL hb) hc) (fun b o _ _ hc e n=>u.any e n hc) (fun b o hc e n=>u.free b o e n hc) (fun b o hc e=>u.there b o e hc) u.tups u.frzs u.tbls (fun m' hm=>by
  obtain⟨o',es',ep',ho',r'⟩:=hm
  rw[ho] at ho';cases ho'
  exact⟨_,es',ep',hL,r'⟩) hok hg
theorem Inv.turned {it:Addr}(I:Inv X pins σ H s)(k:∀b o,b≠it->s.heap.get? b=some o->h'.get? b=some o)(hn:H it=none)(hL:it≠X.env.locals)
 (h1:it∈X.ex\/X.s₀.heap.objs.size<=it)(h2:∀x c,X.env.cells.lookup x=some c->c≠it)(h3:∀p∈X.pn++pins,p.1≠it):Inv X pins σ H { s with heap:=h',toks:=t' }:=by
 have nit:∀b u,H b=some u->b≠it:=fun b u e z=>by rw[z,hn] at e;cases e
 refine I.step (g':=s.gens) (d':=s.drawn) (ch:=[it]) (fun b hb=>?_) (fun b o _ _ hc e _=>k b o (fun z=>hc (by simp[z])) e) (fun b o _ _ hc e _=>⟨o.slots,k b o (fun z=>hc (by simp[z])) e⟩) (fun _ _ _ _ n=>n)
  (fun b o hc e=>⟨o,k b o (fun z=>hc (by simp[z])) e⟩) (fun _ _ e=>e) (fun _ _ _ e=>e) (fun b ps e=>⟨#[],by rw[e];simp⟩) (fun m hm=>?_) (fun b u e=>?_) I.bare
 . have e:b=it:=by simpa using hb
   subst e
   exact⟨h1,hL,h2,h3⟩
 . obtain⟨o,es,ep,ho,r⟩:=hm
   exact⟨o,es,ep,k _ o (Ne.symm hL) ho,r⟩
 . refine (I.hok b u e).stay (fun c v hc q=>k c v ?_ q) (fun _ q=>q) fun _ _ q=>q
   rcases hc with z | z
   . rw[z];exact nit b u e
   . exact nit c _ z
theorem Inv.tok (I:Inv X pins σ H s)(t:Nat):Inv X pins σ H { s with toks:=t }:=I.un (h':=s.heap) (t':=t) Un.refl I.hok
theorem Inv.kept (I:Inv X pins σ H s)(k:∀b u,s.heap.get? b=some u->h'.get? b=some u):Inv X pins σ H { s with heap:=h',toks:=t' }:=I.un (Un.kept k) (I.hok.kept k)
theorem Inv.laid {a:Addr}{o:HO}{t':Nat}(I:Inv X pins σ H s)(k:∀b u,s.heap.get? b=some u->h'.get? b=some u)(hp:s.heap.objs.size<=a)(new:zBI X.prog X.w (upd H a o) h' a o) :
 Inv X pins σ (upd H a o) { s with heap:=h',toks:=t' }:=I.un (Un.laid k hp (I.hok.fresh hp)) (I.hok.laid k hp new)
theorem Inv.write {x e:Addr}{o:HO}{t':Nat}(I:Inv X pins σ H s)(mu:Mut (H x))(he:e=x\/H e=some (.own x))(k:∀b u,b≠e->s.heap.get? b=some u->h'.get? b=some u)(heo:∃u,h'.get? e=some u)
 (new:zBI X.prog X.w (upd H x o) h' x o):Inv X pins σ (upd H x o) { s with heap:=h',toks:=t' }:=I.un (Un.write mu he k heo) (I.hok.write mu he k heo new)
theorem Inv.weak {σ':List (Option V)}(I:Inv X pins σ H s)(hl:σ'.length=σ.length)(w:∀(i:Nat) v,σ'[i]? = some (some v)->σ[i]? = some (some v)):Inv X pins σ' H s:=
 ⟨I.ok,I.os,I.bare,I.base,let ⟨m,hn,hl'⟩:=I.loc;⟨m,hn,fun i x v e1 e2 e3=>hl' i x v e1 (w i v e2) e3⟩,I.cell,I.free,I.freeC,I.pin,I.hok,hl.trans I.len⟩
theorem Inv.pins_of {pins':lPO}(I:Inv X pins σ H s)(h:∀p∈pins',s.heap.get? p.1=some p.2/\H p.1=none/\p.1≠X.env.locals/\p.1∉X.fs/\∀v,p.2.data ≠ .cell v):Inv X pins' σ H s:=
 ⟨I.ok,I.os,I.bare,I.base,I.loc,I.cell,I.free,I.freeC,fun p hp=>(zm.mp hp).elim (fun z=>I.pin p (zAE _ z)) (h p),I.hok,I.len⟩
theorem zGc (hN:N.Nodup){j:Nat}(a:N[i]? = some x)(b:N[j]? = some x):i=j:=by
 obtain⟨h1,e1⟩:=zH.mp a
 obtain⟨h2,e2⟩:=zH.mp b
 exact (List.getElem_inj hN).mp (e1.trans e2.symm)
theorem zHf {E:vSP}(I:Inv X pins σ H s)(hN:X.N.Nodup)(hi:X.N[i]? = some x)(hx:Loc X.env.scope x)(r:zBQ v u)
 (h:∀s',Inv X pins (σ.set i (some v)) H s'->(∃a,Heap.SameBut a s.heap s'.heap/\(a=X.env.locals\/X.env.cells.lookup x=some a))->Q () s')(hf:X.fn x=true\/X.env.scope.names.lookup x=some .local:=by first | exact .inl rfl | exact .inr rfl | assumption):wpAny M A (storeName X.env x u) Q E s:=by
 obtain⟨m,hn,hl⟩:=id I.loc
 have hcls:(X.env.scope.kind == .class || (X.env.scope.kind == .module && X.env.locals != X.env.globals))=false:=by rw[I.ok.kind];rfl
 have hiσ:i<σ.length:=by rw[I.len];exact (zH.mp hi).1
 have cne:=I.cne
 have tracked:∀{a:Addr}{h':Heap},(∃o,s.heap.get? a=some o/\H a=none)->Heap.SameBut a s.heap h'->HOk X.prog X.w H h':=fun {a h'} ha hs b ob e=>by
  obtain⟨_,_,hfree⟩:=ha
  refine (I.hok b ob e).stay (fun c w' hc q=>(hs.2 c ?_).trans q) (fun _ q=>q) fun _ _ q=>q
  rintro rfl
  rcases hc with rfl | hc
  . rw[hfree] at e;cases e
  . rw[hfree] at hc;cases hc
 rcases hx with hk | hk
 . refine wpAny_storeName_local hk hn (fun h' hn' hs=>?_) hcls
   obtain⟨oL,_,_,hoL,_⟩:=id hn
   refine h _ ⟨I.ok,I.os,I.bare,⟨fun b o e n hb hx=>?_,fun b o e n hb hx=>?_,I.base.free,fun b o e hx=>?_,I.base.tups,I.base.frzs,I.base.tbls⟩,⟨_,hn',fun j y v' e1 e2 e3=>?_⟩,fun y c e=>?_,I.free,I.freeC,fun p hp=>?_,tracked ⟨oL,hoL,I.free⟩ hs,by simpa using I.len⟩ ⟨_,hs,.inl rfl⟩
   . exact (hs.2 b (zd (zo (zX e) I.ok.above))).trans (I.base.keep b o e n hb hx)
   . obtain⟨sl,e1⟩:=I.base.slot b o e n hb hx
     exact⟨sl,(hs.2 b (zd (zo (zX e) I.ok.above))).trans e1⟩
   . obtain⟨o',e1⟩:=I.base.there b o e hx
     exact⟨o',(hs.2 b (zd (zo (zX e) I.ok.above))).trans e1⟩
   . by_cases hj:j=i
     . subst hj
       rw[hi] at e1;cases e1
       rw[List.getElem?_set_self hiσ] at e2
       cases e2
       exact⟨u,r,.inl ⟨hk,by simp⟩⟩
     . rw[List.getElem?_set_ne (Ne.symm hj)] at e2
       obtain⟨u',r',q⟩:=hl j y v' e1 e2 e3
       refine⟨u',r',?_⟩
       rcases q with ⟨k,e⟩ | ⟨k,c,e,z⟩
       . refine .inl ⟨k,?_⟩
         have:y≠x:=fun e=>hj (zGc hN e1 (e ▸ hi))
         simp[this,e]
       . exact .inr ⟨k,c,e,z.sameBut hs (cne y c e)⟩
   . obtain⟨w',z⟩:=I.cell y c e
     exact⟨w',z.sameBut hs (cne y c e)⟩
   . obtain⟨e,n,ne,nf,d⟩:=I.pin p hp
     exact⟨(hs.2 p.1 ne).trans e,n,ne,nf,d⟩
 . have hfn:X.fn x=true:=by
    rcases hf with z | z
    . exact z
    . rw[z] at hk;cases hk
   obtain⟨c,hc⟩:=I.ok.has x (.inl hk)
   obtain⟨w',z⟩:=I.cell x c hc
   refine wpAny_storeName_cell I.ok.kind hk hc z (fun h' hc' hs=>?_)
   obtain⟨oc,hoc,hocd⟩:=id z
   refine h { s with heap:=h' } ⟨I.ok,I.os,I.bare,⟨fun b o e n hb hx=>?_,fun b o e n hb hx=>?_,I.base.free,fun b o e hx=>?_,I.base.tups,I.base.frzs,I.base.tbls⟩,⟨m,hn.sameBut hs (Ne.symm (cne x c hc)),fun j y v' e1 e2 e3=>?_⟩,fun y c' e=>?_,I.free,I.freeC,fun p hp=>?_,tracked ⟨oc,hoc,I.freeC x c hc⟩ hs,by simpa using I.len⟩ ⟨c,hs,.inr hc⟩
   . exact (hs.2 b (zd (zo (zX e) (I.ok.cab x c hfn hc)))).trans (I.base.keep b o e n hb hx)
   . obtain⟨sl,e1⟩:=I.base.slot b o e n hb hx
     exact⟨sl,(hs.2 b (zd (zo (zX e) (I.ok.cab x c hfn hc)))).trans e1⟩
   . obtain⟨o',e1⟩:=I.base.there b o e hx
     exact⟨o',(hs.2 b (zd (zo (zX e) (I.ok.cab x c hfn hc)))).trans e1⟩
   . by_cases hj:j=i
     . subst hj
       rw[hi] at e1;cases e1
       rw[List.getElem?_set_self hiσ] at e2
       cases e2
       exact⟨u,r,.inr ⟨.inl hk,c,hc,hc'⟩⟩
     . rw[List.getElem?_set_ne (Ne.symm hj)] at e2
       obtain⟨u',r',q⟩:=hl j y v' e1 e2 e3
       refine⟨u',r',?_⟩
       rcases q with q | ⟨k,c',e,z'⟩
       . exact .inl q
       . refine .inr ⟨k,c',e,z'.sameBut hs ?_⟩
         rintro rfl
         exact hj (zGc hN e1 (I.ok.inj _ _ _ e hc ▸ hi))
   . by_cases hcc:c'=c
     . subst hcc;exact⟨_,hc'⟩
     . obtain⟨w2,z2⟩:=I.cell y c' e
       exact⟨w2,z2.sameBut hs hcc⟩
   . obtain⟨e,n,ne,nf,d⟩:=I.pin p hp
     refine⟨(hs.2 p.1 ?_).trans e,n,ne,nf,d⟩
     intro q
     rw[q,hoc] at e
     have q':oc=p.2:=zY e
     exact d w' (by rw[<-q'];exact hocd)
theorem zCz {E:vSP}(I:Inv X pins σ H s)(hN:X.N.Nodup)(hi:X.N[i]? = some x)(hx:Loc X.env.scope x)(r:zBQ v u)
 (h:∀s',Inv X pins (σ.set i (some v)) H s'->Q () s')(hf:X.fn x=true\/X.env.scope.names.lookup x=some .local:=by first | exact .inl rfl | exact .inr rfl | assumption):wpAny M A (storeName X.env x u) Q E s:=
 zHf I hN hi hx r (fun s' I' _=>h s' I') hf
theorem Inv.call' {s':Shared}{ch:List Addr}(I:Inv X pins σ H s)(ho:s'.os=s.os)(u:Un (frs X.stack) ch H H' s.heap s'.heap)(hok:HOk X.prog X.w H' s'.heap)(hg:AllBare s'.gens)
 (hch:∀b∈ch,(b∈X.ex\/X.s₀.heap.objs.size<=b)/\b≠X.env.locals/\(∀x c,X.env.cells.lookup x=some c->c≠b)/\∀p∈X.pn++pins,p.1≠b):Inv X pins σ H' s':=by
 obtain⟨h',g',d',t',o'⟩:=s'
 have e:o'=s.os:=ho
 subst e
 exact I.call (g':=g') (t':=t') (d':=d') u hok hg hch
end
noncomputable abbrev XK:=Value->Option Addr->Hp->Prop
noncomputable abbrev St:=List (Option V)
noncomputable abbrev VK:=V->Hp->Prop
noncomputable abbrev TE:=St->Hp->VK->Prop
noncomputable abbrev TT:=St->Hp->(Bool->Hp->Prop)->Prop
noncomputable abbrev TA:=St->Hp->(List V->Hp->Prop)->Prop
structure zJF where
 nx:St->Hp->Prop
 rt:VK
 bk:St->Hp->Prop:=fun _ _=>False
 ct:St->Hp->Prop:=fun _ _=>False
noncomputable abbrev TS:=zJF->St->Hp->Prop
noncomputable def EP (X:Cx)(pins:lPO)(σ:St)(Q:VK)(u:Value)(s':Shared):Prop:=∃v H',Inv X pins σ H' s'/\zBQ v u/\Q v H'
noncomputable def TP (X:Cx)(pins:lPO)(σ:St)(Q:Bool->Hp->Prop)(b:Bool)(s':Shared):Prop:=∃H',Inv X pins σ H' s'/\Q b H'
noncomputable def AP (X:Cx)(pins:lPO)(σ:St)(Q:List V->Hp->Prop)(us:List Value)(s':Shared):Prop:=∃vs H',Inv X pins σ H' s'/\zBE vs us/\Q vs H'
noncomputable def SP (X:Cx)(pins:lPO)(D:zJF)(f:Flow)(s':Shared):Prop:=
 match f with
 | .next=>∃ σ' H',Inv X pins σ' H' s'/\D.nx σ' H'
 | .brk=>∃ σ' H',Inv X pins σ' H' s'/\D.bk σ' H'
 | .cont=>∃ σ' H',Inv X pins σ' H' s'/\D.ct σ' H'
 | .ret u=>∃v σ' H',Inv X pins σ' H' s'/\zBQ v u/\D.rt v H'
noncomputable def PE (X:Cx)(e:Expr)(t:TE):Prop:=
 ∀(pins:lPO)(s:Shared)(σ:St)(H:Hp)(Q:VK),Inv X pins σ H s->t σ H Q->wpAny (model X.prog X.w) X.A (eval e X.env) (EP X pins σ Q) X.xe s
noncomputable def PT (X:Cx)(e:Expr)(t:TT):Prop:=
 ∀(pins:lPO)(s:Shared)(σ:St)(H:Hp)(Q:Bool->Hp->Prop),Inv X pins σ H s->t σ H Q->wpAny (model X.prog X.w) X.A (isTrue e X.env (eval e X.env)) (TP X pins σ Q) X.xe s
noncomputable def PW (X:Cx)(e:Expr)(t:TT):Prop:=
 ∀(whole:Sem Value)(pins:lPO)(s:Shared)(σ:St)(H:Hp)(Q:Bool->Hp->Prop),Inv X pins σ H s->t σ H Q->wpAny (model X.prog X.w) X.A (isTrue e X.env whole) (TP X pins σ Q) X.xe s
variable {X:Cx}{e:Expr}
theorem PW.pt {t:TT}(h:PW X e t):PT X e t:=h _
noncomputable def PA (X:Cx)(es:List Expr)(t:TA):Prop:=
 ∀(pos:Pos)(pins:lPO)(s:Shared)(σ:St)(H:Hp)(Q:List V->Hp->Prop),Inv X pins σ H s->t σ H Q->wpAny (model X.prog X.w) X.A (spliced (backTo pos (starEach es X.env))) (AP X pins σ Q) X.xe s
noncomputable def PS (X:Cx)(st:Stmt)(t:TS):Prop:=
 ∀(pins:lPO)(s:Shared)(σ:St)(H:Hp)(D:zJF),Inv X pins σ H s->t D σ H->wpAny (model X.prog X.w) X.A (exec st X.env) (SP X pins D) X.xe s
noncomputable def PSs (X:Cx)(st:List Stmt)(t:TS):Prop:=
 ∀(pins:lPO)(s:Shared)(σ:St)(H:Hp)(D:zJF),Inv X pins σ H s->t D σ H->wpAny (model X.prog X.w) X.A (execs st X.env) (SP X pins D) X.xe s
variable {s:Shared}
theorem thn {α:Type}{t:Sem α}{Q Q':α->Shared->Prop}{E:vSP}(h:wpAny M A t Q E s)(hQ:∀a s,Q a s->Q' a s):wpAny M A t Q' E s:=zAM h hQ fun _ _ x=>x
variable {pos:Pos}{σ:St}{op:CmpOp}{c:Expr}
section
variable {X:Cx}
noncomputable def tVar (i:Nat):TE:=fun σ H Q=>∃v,σ[i]? = some (some v)/\Q v H
noncomputable def tC (v:V):TE:=fun _ H Q=>Q v H
theorem pe_var (hN:X.N[i]? = some x)(hv:Vis X.env.scope x)(hd:(x==("__debug__" : Str))=false:=by decide) (hcd:(x==("__classdict__" : Str))=false:=by decide):PE X (.Name x pos) (tVar i):=by
 intro pins s σ H Q I h
 obtain⟨v,e,h⟩:=h
 obtain⟨m,hn,hl⟩:=I.loc
 obtain⟨u,r,l⟩:=hl i x v hN e hv
 have fin:EP X pins σ Q u s:=⟨v,H,I,r,h⟩
 rcases l with ⟨hk,hm⟩ | ⟨hk,c,hc,hcell⟩
 . exact wpAny_Name (wpAny_loadName_local I.ok.kind hk hn hm fin) hd
 . rcases hk with hk | hk
   . exact wpAny_Name (wpAny_loadName_cell I.ok.kind hk hc hcell fin) hd
   . exact wpAny_Name (wpAny_loadName_free I.ok.kind hk hc hcell fin hcd) hd
theorem zj {i j pos}:PE X (.Constant (.int i) j pos) (tC (.int i)):=fun _ _ _ H _ I h=>wpAny_Constant_int ⟨.int i,H,I.tok _,⟨_,rfl⟩,h⟩
theorem zC3 {b j pos}:PE X (.Constant (.bool b) j pos) (tC (.bl b)):=fun _ _ _ H _ I h=>Constant_bool ⟨.bl b,H,I,rfl,h⟩
theorem zAp {j pos}:PE X (.Constant .none j pos) (tC .non):=fun _ _ _ H _ I h=>Constant_none ⟨.non,H,I,rfl,h⟩
theorem zGY {x j pos}:PE X (.Constant (.str x) j pos) (tC (.str x)):=fun _ _ _ H _ I h=>Calls.Constant_str ⟨.str x,H,I.tok _,⟨_,rfl⟩,h⟩
noncomputable def Gl (X:Cx)(x:Str):Prop:=X.env.kindOf x=some .globalImplicit
theorem zDv {E:vSP}{pins:lPO}{Q:vSP}(I:Inv X pins σ H s)(hg:Gl X x)(hm:X.mg x=some u)(h:Q u s)
 (hd:(x==("__debug__" : Str))=false:=by decide):wpAny (model X.prog X.w) X.A (eval (.Name x pos) X.env) Q E s:=
 Calls.Name_function_global I.ok.kind hg (Calls.loadGlobal_global (by rw[I.ok.glob];exact I.mod.glob.keeps I.bk) hm h) hd
theorem zCe {E:vSP}{pins:lPO}{Q:vSP}(I:Inv X pins σ H s)(hg:Gl X x)(hm:X.mg x=none)(hv:bootBuiltins x=some u)(h:Q u s)
 (hn:x ≠ "__name__" := by decide) (hd:(x==("__debug__" : Str))=false:=by decide):wpAny (model X.prog X.w) X.A (eval (.Name x pos) X.env) Q E s:=by
 obtain⟨mb,h1,h2⟩:=I.mod.blt
 exact Calls.Name_function_global I.ok.kind hg (Calls.loadGlobal_builtin (by rw[I.ok.glob];exact I.mod.glob.keeps I.bk) hm (by rw[I.ok.blt];exact h1.keeps I.bk) ((h2 x hn).trans hv) h) hd
variable {a b:Expr}{ta tb:TE}{pos:Pos}
noncomputable def PC (X:Cx)(op:CmpOp)(a b:Expr)(t:TE):Prop:=
 ∀(pins:lPO)(s:Shared)(σ:St)(H:Hp)(Q:VK),Inv X pins σ H s->t σ H Q ->
  wpAny (model X.prog X.w) X.A (eval a X.env) (fun v s₁=>wpAny (model X.prog X.w) X.A (eval b X.env) (fun u s₂=>wpAny (model X.prog X.w) X.A (compareOp op v u) (EP X pins σ Q) X.xe s₂) X.xe s₁) X.xe s
noncomputable def tB (t:TE):TT:=fun σ H Q=>t σ H fun x H1=>∃c,x = .bl c/\Q c H1
theorem zKI {t:TE}(h:PC X op a b t)(h1:behindInMarks op b=false:=by first | exact nobehind _ (by decide) (by decide) | rfl):PT X (.Compare a [op] [b] pos) (tB t):=by
 intro pins s σ H Q I hw
 refine wpAny_isTrue_Compare1 (thn (h pins s σ H _ I hw) fun v s1 h1=>thn h1 fun u s2 h2=>thn h2 fun c s3 ⟨x,H1,I1,r1,q1⟩=>?_) h1
 obtain⟨d,rfl,q⟩:=q1
 cases r1
 exact zA7 ⟨H1,I1,q⟩
theorem zCC {t:TE}(h:PE X e t)(he:∀whole,isTrue e X.env whole=(do let v <-whole;standAt e.pos;holding [v] (truthy v)):=by intro _;rfl):PT X e (tB t):=by
 intro pins s σ H Q I hw
 refine isTrue_plain (thn (h pins s σ H _ I hw) fun v s1 ⟨x,H1,I1,r1,q1⟩=>?_) (he _)
 obtain⟨d,rfl,q⟩:=q1
 cases r1
 exact zA7 ⟨H1,I1,q⟩
variable {tA tB':TT}{rest:List Expr}
noncomputable def tAnd (t u:TT):TT:=fun σ H Q=>t σ H fun c H1=>if c=true then u σ H1 Q else Q false H1
noncomputable def tOr (t u:TT):TT:=fun σ H Q=>t σ H fun c H1=>if c=true then Q true H1 else u σ H1 Q
noncomputable def tNot (t:TT):TT:=fun σ H Q=>t σ H fun c H1=>Q (!c) H1
theorem zDl (ha:PT X a tA):PW X (.BoolOp .And [a] pos) tA:=by
 intro wh pins s σ H Q I h
 refine isTrue_and (thn (ha pins s σ H Q I h) fun c s1 e=>?_)
 cases c with
 | true=>exact isTrue_and_nil e
 | false=>exact e
theorem zDS (ha:PT X a tA):PW X (.BoolOp .Or [a] pos) tA:=by
 intro wh pins s σ H Q I h
 refine isTrue_or (thn (ha pins s σ H Q I h) fun c s1 e=>?_)
 cases c with
 | false=>exact isTrue_or_nil e
 | true=>exact e
theorem zFJ (ha:PT X a tA)(hb:PW X (.BoolOp .And (b::rest) pos) tB'):PW X (.BoolOp .And (a::b::rest) pos) (tAnd tA tB'):=by
 intro wh pins s σ H Q I h
 refine isTrue_and (thn (ha pins s σ H _ I h) fun c s1 ⟨H1,I1,q1⟩=>?_)
 cases c with
 | true=>exact hb wh pins s1 σ H1 Q I1 q1
 | false=>exact⟨H1,I1,q1⟩
theorem zFI (ha:PT X a tA)(hb:PW X (.BoolOp .Or (b::rest) pos) tB'):PW X (.BoolOp .Or (a::b::rest) pos) (tOr tA tB'):=by
 intro wh pins s σ H Q I h
 refine isTrue_or (thn (ha pins s σ H _ I h) fun c s1 ⟨H1,I1,q1⟩=>?_)
 cases c with
 | true=>exact⟨H1,I1,q1⟩
 | false=>exact hb wh pins s1 σ H1 Q I1 q1
theorem zCR (ha:PT X a tA):PT X (.UnaryOp .Not a pos) (tNot tA):=by
 intro pins s σ H Q I h
 exact isTrue_not (ha pins s σ H (fun c H1=>Q (!c) H1) I h)
noncomputable def tAndV (ta tb:TE):TE:=fun σ H Q=>ta σ H fun x H1=>∃c,x = .bl c/\if c=true then tb σ H1 Q else Q (.bl false) H1
noncomputable def tOrV (ta tb:TE):TE:=fun σ H Q=>ta σ H fun x H1=>∃c,x = .bl c/\if c=true then Q (.bl true) H1 else tb σ H1 Q
noncomputable def tNotV (ta:TE):TE:=fun σ H Q=>ta σ H fun x H1=>∃c,x = .bl c/\Q (.bl (!c)) H1
theorem zCd {op} {t:TE}(h:PE X a t):PE X (.BoolOp op [a] pos) t:=fun pins s σ H Q I hw=>BoolOp_one (h pins s σ H Q I hw)
theorem zCZ (ha:PE X a ta)(hb:PE X (.BoolOp .And (b::rest) pos) tb):PE X (.BoolOp .And (a::b::rest) pos) (tAndV ta tb):=by
 intro pins s σ H Q I h
 refine BoolOp_and (thn (ha pins s σ H _ I h) fun v s1 ⟨x,H1,I1,r1,q1⟩=>?_)
 obtain⟨c,rfl,q1⟩:=q1
 cases r1
 refine zA7 ?_
 cases c with
 | true=>exact hb pins s1 σ H1 Q I1 q1
 | false=>exact⟨.bl false,H1,I1,rfl,q1⟩
theorem pe_or (ha:PE X a ta)(hb:PE X (.BoolOp .Or (b::rest) pos) tb):PE X (.BoolOp .Or (a::b::rest) pos) (tOrV ta tb):=by
 intro pins s σ H Q I h
 refine BoolOp_or (thn (ha pins s σ H _ I h) fun v s1 ⟨x,H1,I1,r1,q1⟩=>?_)
 obtain⟨c,rfl,q1⟩:=q1
 cases r1
 refine zA7 ?_
 cases c with
 | false=>exact hb pins s1 σ H1 Q I1 q1
 | true=>exact⟨.bl true,H1,I1,rfl,q1⟩
theorem pe_not (ha:PE X a ta):PE X (.UnaryOp .Not a pos) (tNotV ta):=by
 intro pins s σ H Q I h
 refine UnaryOp_ (thn (ha pins s σ H _ I h) fun v s1 ⟨x,H1,I1,r1,q1⟩=>?_)
 obtain⟨c,rfl,q1⟩:=q1
 cases r1
 exact not_of (zA7 ⟨.bl (!c),H1,I1,rfl,q1⟩)
noncomputable def tIf (t:TT)(ta tb:TE):TE:=fun σ H Q=>t σ H fun c H1=>if c=true then ta σ H1 Q else tb σ H1 Q
theorem zC2 (hc:PT X c tA)(ha:PE X a ta)(hb:PE X b tb):PE X (.IfExp c a b pos) (tIf tA ta tb):=by
 intro pins s σ H Q I h
 refine wpAny_IfExp (thn (hc pins s σ H _ I h) fun d s1 ⟨H1,I1,q1⟩=>?_)
 cases d with
 | true=>exact ha pins s1 σ H1 Q I1 q1
 | false=>exact hb pins s1 σ H1 Q I1 q1
end
noncomputable def SqL (K:PySem.W.Frag)(H:Hp)(a:Addr)(xs:List V):Prop:=
 Rd H a (.lst xs) \/
  ∃(o:Obj)(its:Array Value)(n:Nat),K.lookup a=some o/\o.cls = .type "list" /\ o.dict=none/\o.data = .seq its n/\its.size<=sizeLine/\zBE xs its.toList
noncomputable def SqT (K:PySem.W.Frag)(H:Hp)(a:Addr)(xs:List V):Prop:=
 Rd H a (.tup xs) \/
  ∃(o:Obj)(its:Array Value)(n:Nat),K.lookup a=some o/\o.cls = .type "tuple" /\ o.data = .seq its n/\its.size<=sizeLine/\zBE xs its.toList
noncomputable def absV:Value->Option V
 | .none=>some .non
 | .bool b=>some (.bl b)
 | .int i _=>some (.int i)
 | .str x _=>some (.str x)
 | .bytes b _=>some (.byt b)
 | .float b _=>some (.flt b)
 | .ref a=>some (.ref a)
 | .type n=>some (.ty n)
 | _=>none
theorem zBQ.abs {x:V}(r:zBQ x u):absV u=some x:=by
 cases x with
 | non=>cases r;rfl
 | bl _=>cases r;rfl
 | int _=>obtain⟨t,rfl⟩:=r;rfl
 | str _=>obtain⟨t,rfl⟩:=r;rfl
 | byt _=>obtain⟨t,rfl⟩:=r;rfl
 | flt _=>obtain⟨t,rfl⟩:=r;rfl
 | ref _=>cases r;rfl
 | ty _=>cases r;rfl
variable {y:V}
theorem zBQ.inj {x:V}(r:zBQ x u)(q:zBQ y u):x=y:=zY (r.abs.symm.trans q.abs)
theorem zBE.inj:∀{xs ys:List V}{us:List Value},zBE xs us->zBE ys us->xs=ys
 | _,_,_,.nil,.nil=>rfl
 | _,_,_,.cons r t,.cons r' t'=>by rw[r.inj r',zBE.inj t t']
variable {K:PySem.W.Frag}
section
variable {X:Cx}{pins:lPO}{σ:St}{H:Hp}{s:Shared}{a:Addr}{xs ys:List V}
theorem SqL.of (h:H a=some (.lst xs)):SqL K H a xs:=.inl (.inl h)
theorem SqT.of (h:H a=some (.tup xs)):SqT K H a xs:=.inl (.inl h)
theorem Inv.list (I:Inv X pins σ H s)(h:SqL X.K H a xs):∃its:List Value,zBE xs its/\PlainL s.heap a its.toArray/\xs.length<=sizeLine:=by
 rcases h with h | ⟨o,its,n,hk,hc,hd,hs,hz,r⟩
 . obtain⟨z,its,n,r,e⟩:=h.ok I.hok
   exact⟨its,r,⟨_,n,e,rfl,rfl,rfl⟩,z⟩
 . refine⟨its.toList,r,⟨o,n,I.kIn a o hk,hc,hd,by simpa using hs⟩,?_⟩
   have e:=r.length
   simp only[Array.length_toList] at e
   omega
theorem Inv.tuple (I:Inv X pins σ H s)(h:SqT X.K H a xs):∃its:List Value,zBE xs its/\IsTup s.heap a its.toArray/\xs.length<=sizeLine:=by
 rcases h with h | ⟨o,its,n,hk,hc,hs,hz,r⟩
 . obtain⟨⟨z,_⟩,its,r,p⟩:=h.ok I.hok
   exact⟨its,r,p,z⟩
 . refine⟨its.toList,r,⟨o,I.kIn a o hk,hc,n,by simpa using hs⟩,?_⟩
   have e:=r.length
   simp only[Array.length_toList] at e
   omega
theorem Inv.list_inj (I:Inv X pins σ H s)(h:SqL X.K H a xs)(h':SqL X.K H a ys):xs=ys:=by
 obtain⟨its,r,⟨o,n,e,_,_,d⟩,_⟩:=I.list h
 obtain⟨its',r',⟨o',n',e',_,_,d'⟩,_⟩:=I.list h'
 rw[e] at e';cases e'
 rw[d] at d'
 injection d' with d1 _
 have:its=its':=by simpa using congrArg Array.toList d1
 subst this
 exact r.inj r'
theorem Inv.tuple_inj (I:Inv X pins σ H s)(h:SqT X.K H a xs)(h':SqT X.K H a ys):xs=ys:=by
 obtain⟨its,r,⟨o,e,_,n,d⟩,_⟩:=I.tuple h
 obtain⟨its',r',⟨o',e',_,n',d'⟩,_⟩:=I.tuple h'
 rw[e] at e';cases e'
 rw[d] at d'
 injection d' with d1 _
 have:its=its':=by simpa using congrArg Array.toList d1
 subst this
 exact r.inj r'
end
noncomputable abbrev Cx.wish (X:Cx)(E:vSP):Cx:={ X with xe:=E }
noncomputable abbrev Cx.nox (X:Cx):Cx:=X.wish fun _ _=>False
theorem Cx.Ok.wish (ok:X.Ok)(E:vSP):(X.wish E).Ok:=
 ⟨ok.mod,ok.kind,ok.glob,ok.blt,ok.above,ok.inj,ok.has,ok.cab,ok.hd,ok.frames,ok.stk,ok.exf,ok.bs,ok.bsz,ok.noex,ok.exfs,ok.funs,ok.frf⟩
theorem Cx.Ok.unwish {E:vSP}(ok:(X.wish E).Ok):X.Ok:=
 ⟨ok.mod,ok.kind,ok.glob,ok.blt,ok.above,ok.inj,ok.has,ok.cab,ok.hd,ok.frames,ok.stk,ok.exf,ok.bs,ok.bsz,ok.noex,ok.exfs,ok.funs,ok.frf⟩
section
variable {X:Cx}{pins:lPO}{σ:St}{H:Hp}{s:Shared}{E:vSP}
theorem Inv.wish (I:Inv X pins σ H s)(E:vSP):Inv (X.wish E) pins σ H s:=⟨I.ok.wish E,I.os,I.bare,I.base,I.loc,I.cell,I.free,I.freeC,I.pin,I.hok,I.len⟩
theorem Inv.unwish (I:Inv (X.wish E) pins σ H s):Inv X pins σ H s:=⟨I.ok.unwish,I.os,I.bare,I.base,I.loc,I.cell,I.free,I.freeC,I.pin,I.hok,I.len⟩
theorem SP.unwish {D:zJF}{f:Flow}{s':Shared}(h:SP (X.wish E) pins D f s'):SP X pins D f s':=by
 cases f with
 | next=>obtain⟨σ',H',I,q⟩:=h;exact⟨σ',H',I.unwish,q⟩
 | brk=>obtain⟨σ',H',I,q⟩:=h;exact⟨σ',H',I.unwish,q⟩
 | cont=>obtain⟨σ',H',I,q⟩:=h;exact⟨σ',H',I.unwish,q⟩
 | ret u=>obtain⟨v,σ',H',I,r,q⟩:=h;exact⟨v,σ',H',I.unwish,r,q⟩
theorem PSs.nox {st:List Stmt}{t:TS}(h:PSs X.nox st t):PSs X st t:=fun pins s σ H D I hw=>
 zAM (h pins s σ H D (I.wish _) hw) (fun _ _ q=>q.unwish) fun _ _ z=>False.elim z
end
section
variable {X:Cx}{st:Stmt}{rest:List Stmt}{t u:TS}{e:Expr}{te:TE}{pos:Pos}
noncomputable def tNext:TS:=fun D σ H=>D.nx σ H
noncomputable def tSeq (t u:TS):TS:=fun D σ H=>t { D with nx:=u D } σ H
theorem zAR:PSs X [] tNext:=fun _ _ σ H _ I h=>wpAny_execs_nil ⟨σ,H,I,h⟩
theorem zP (h1:PS X st t)(h2:PSs X rest u):PSs X (st::rest) (tSeq t u):=by
 intro pins s σ H D I h
 refine wpAny_execs_cons (thn (h1 pins s σ H { D with nx:=u D } I h) fun f s1 q=>?_)
 cases f with
 | next=>
  obtain⟨σ',H',I',q⟩:=q
  exact h2 pins s1 σ' H' D I' q
 | ret v=>exact q
 | brk=>exact q
 | cont=>exact q
theorem zZ (h1:PS X st t):PSs X [st] t:=by
 intro pins s σ H D I h
 refine wpAny_execs_cons (thn (h1 pins s σ H D I h) fun f s1 q=>?_)
 cases f with
 | next=>exact wpAny_execs_nil q
 | ret v=>exact q
 | brk=>exact q
 | cont=>exact q
theorem Inv.quiet {pins:lPO}(I:Inv X pins σ H s):interactive X.env=false:=by simp[interactive,I.ok.kind]
noncomputable def tDrop (te:TE):TS:=fun D σ H=>te σ H fun _ H1=>D.nx σ H1
theorem zCB (he:PE X e te)(hs:swapsWith e none pos.line X.env=pure false:=by rfl):PS X (.Expr e pos) (tDrop te):=by
 intro pins s σ H D I h
 exact wpAny_Expr_any (thn (he pins s σ H _ I h) fun v s1 ⟨x,H1,I1,r1,q1⟩=>⟨σ,H1,I1,q1⟩) I.quiet hs
noncomputable def tRet (te:TE):TS:=fun D σ H=>te σ H D.rt
theorem zAA (he:PE X e te):PS X (.Return (some e) pos) (tRet te):=by
 intro pins s σ H D I h
 exact wpAny_Return_some (thn (he pins s σ H _ I h) fun v s1 ⟨x,H1,I1,r1,q1⟩=>⟨x,σ,H1,I1,r1,q1⟩)
noncomputable def tIfS (c:TT)(t u:TS):TS:=fun D σ H=>c σ H fun b H1=>if b=true then t D σ H1 else u D σ H1
theorem zA9 {a b:List Stmt}{tc:TT}(hc:PT X c tc)(ha:PSs X a t)(hb:PSs X b u):PS X (.If c a b pos) (tIfS tc t u):=by
 intro pins s σ H D I h
 refine wpAny_If (thn (hc pins s σ H _ I h) fun d s1 ⟨H1,I1,q1⟩=>?_)
 cases d with
 | true=>exact ha pins s1 σ H1 D I1 q1
 | false=>exact hb pins s1 σ H1 D I1 q1
end
noncomputable abbrev TG:=V->St->Hp->(St->Hp->Prop)->Prop
noncomputable abbrev TGs:=List V->St->Hp->(St->Hp->Prop)->Prop
noncomputable def PG (X:Cx)(target:Expr)(t:TG):Prop:=
 ∀(pins:lPO)(s:Shared)(σ:St)(H:Hp)(v:V)(u:Value)(Q:St->Hp->Prop),Inv X pins σ H s->zBQ v u->t v σ H Q ->
  wpAny (model X.prog X.w) X.A (assign target X.env u) (fun _ s'=>∃ σ' H',Inv X pins σ' H' s'/\Q σ' H') X.xe s
noncomputable def PGs (X:Cx)(ts:List Expr)(t:TGs):Prop:=
 ∀(pins:lPO)(s:Shared)(σ:St)(H:Hp)(vs:List V)(us:List Value)(Q:St->Hp->Prop),Inv X pins σ H s->zBE vs us->t vs σ H Q ->
  wpAny (model X.prog X.w) X.A (assignInOrder ((assignEach ts X.env).map (·.2)) us) (fun _ s'=>∃ σ' H',Inv X pins σ' H' s'/\Q σ' H') X.xe s
noncomputable abbrev TSet:=V->V->V->Hp->(Hp->Prop)->Prop
noncomputable def PSet (X:Cx)(t:TSet):Prop:=
 ∀(pins:lPO)(s:Shared)(σ:St)(H:Hp)(o i v:V)(ov iv u:Value)(Q:Hp->Prop),Inv X pins σ H s->zBQ o ov->zBQ i iv->zBQ v u->t o i v H Q ->
  wpAny (model X.prog X.w) X.A (setItem ov iv u) (fun _ s'=>∃H',Inv X pins σ H' s'/\Q H') X.xe s
variable {n:Nat}{body:List Stmt}{tb:TS}
section
variable {X:Cx}{pos:Pos}
noncomputable def zHJ (i:Nat):TG:=fun v σ H Q=>Q (σ.set i (some v)) H
theorem zv (hN:X.N.Nodup)(hi:X.N[i]? = some x)(hx:Loc X.env.scope x)(hf:X.fn x=true\/X.env.scope.names.lookup x=some .local:=by first | exact .inl rfl | exact .inr rfl | assumption):PG X (.Name x pos) (zHJ i):=by
 intro pins s σ H v u Q I r h
 exact wpAny_assign_Name (zCz I hN hi hx r (fun s' I'=>⟨_,H,I',h⟩) hf)
noncomputable def gNil:TGs:=fun vs σ H Q=>vs=[]/\Q σ H
noncomputable def gCons (t:TG)(u:TGs):TGs:=fun vs σ H Q=>∃v r,vs=v::r/\t v σ H fun σ' H'=>u r σ' H' Q
theorem zBN:PGs X [] gNil:=by
 intro pins s σ H vs us Q I r h
 obtain⟨e,h⟩:=h
 subst e
 cases r
 exact assignInOrder_nil ⟨σ,H,I,h⟩
theorem zu {es:List Expr}{t:TG}{u:TGs}(h1:PG X e t)(h2:PGs X es u)
 (hs:(assignEach (e::es) X.env).map (·.2)=assign e X.env::(assignEach es X.env).map (·.2):=by rfl):PGs X (e::es) (gCons t u):=by
 intro pins s σ H vs us Q I r h
 obtain⟨v,vr,e1,h⟩:=h
 subst e1
 cases r with
 | cons r rr=>
  rw[hs]
  refine assignInOrder_cons (thn (h1 pins s σ H _ _ _ I r h) fun _ s1 ⟨σ1,H1,I1,q1⟩=>?_)
  exact h2 pins s1 σ1 H1 _ _ Q I1 rr q1
noncomputable def gTup (K:PySem.W.Frag)(n:Nat)(t:TGs):TG:=fun v σ H Q=>∃a xs,v = .ref a/\SqT K H a xs/\xs.length=n/\t xs σ H Q
theorem zCD {es:List Expr}{k:Nat}{t:TGs}(hc:X.calm=true)(h:PGs X es t)
 (hn:(assignEach es X.env).length=n:=by rfl)(hst:(assignEach es X.env).findIdx? (·.1)=none:=by rfl):PG X (.Tuple es k pos) (gTup X.K n t):=by
 intro pins s σ H v u Q I r hw
 obtain⟨a,xs,e1,hq,hl,hw⟩:=hw
 subst e1
 cases r
 obtain⟨its,rv,ht,hz⟩:=I.tuple hq
 refine assign_Tuple_tuple (I.ok.hd hc) ht (by simp[hn,<-hl,rv.length]) hst fun h' hx=>?_
 have I1:Inv X pins σ H { s with heap:=h' }:=I.kept (t':=s.toks) fun b o e=>hx b o (zd (zX e)) e
 exact h pins _ σ H xs _ Q I1 (by simpa using rv) hw
noncomputable def gSub (to ti:TE)(t:TSet):TG:=fun v σ H Q=>to σ H fun o H1=>ti σ H1 fun i H2=>t o i v H2 fun H3=>Q σ H3
theorem zC1 {o i:Expr}{to ti:TE}{t:TSet}(ho:PE X o to)(hi:PE X i ti)(hs:PSet X t)
 (ha:∀v,assign (.Subscript o i pos) X.env v=(do
  let ov <-holding [v] (eval o X.env)
  let iv <-holding [v,ov] (eval i X.env)
  standAt pos
  holding [v,ov,iv] (setItem ov iv v)
  release [v,ov,iv] []):=by intro _;rfl):PG X (.Subscript o i pos) (gSub to ti t):=by
 intro pins s σ H v u Q I r h
 rw[ha]
 refine zA (zAN (thn (ho pins s σ H _ I h) fun ov s1 ⟨x,H1,I1,r1,q1⟩=>?_))
 refine zA (zAN (thn (hi pins s1 σ H1 _ I1 q1) fun iv s2 ⟨y,H2,I2,r2,q2⟩=>?_))
 refine zA (zBn (zA (zAN (thn (hs pins s2 σ H2 x y v ov iv u _ I2 r1 r2 r q2) fun _ s3 ⟨H3,I3,q3⟩=>?_))))
 exact wpAny_release ⟨σ,H3,I3,q3⟩
noncomputable def tAsg (te:TE)(g:TG):TS:=fun D σ H=>te σ H fun x H1=>g x σ H1 D.nx
theorem zCp {tg e:Expr}{te:TE}{g:TG}(he:PE X e te)(hg:PG X tg g)(hs:swapsWithSole [tg] e pos.line X.env=pure false:=by rfl)(hw:swappedStores [tg] e X.env=pure none:=by rfl)
 (h1:(assignEach [tg] X.env).map (·.2)=[assign tg X.env]:=by rfl):PS X (.Assign [tg] e pos) (tAsg te g):=by
 intro pins s σ H D I h
 refine wpAny_Assign_stores (thn (he pins s σ H _ I h) fun v s1 ⟨x,H1,I1,r1,q1⟩=>?_) hs hw
 rw[h1]
 exact thn (hg pins s1 σ H1 x v _ I1 r1 q1) fun _ s2 q=>q
theorem zB9 {te:TE}{pos':Pos}(hN:X.N.Nodup)(hi:X.N[i]? = some x)(hx:Loc X.env.scope x)(he:PE X e te)(hs:swapsWith e (some (.Name x pos')) pos.line X.env=pure false:=by rfl)(hf:X.fn x=true\/X.env.scope.names.lookup x=some .local:=by first | exact .inl rfl | exact .inr rfl | assumption) :
 PS X (.Assign [.Name x pos'] e pos) (tAsg te (zHJ i)):=by
 intro pins s σ H D I h
 refine wpAny_Assign_Name (thn (he pins s σ H _ I h) fun v s1 ⟨y,H1,I1,r1,q1⟩=>?_) hs
 exact zCz I1 hN hi hx r1 (fun s2 I2=>⟨_,H1,I2,q1⟩) hf
noncomputable def tWhile (c:TT)(tb:TS):TS:=fun D σ H=>∃W:Nat->St->Hp->Prop,(∃m,W m σ H)/\∀m σ H,W m σ H ->
 c σ H fun b H1=>if b=true then ∃N:St->Hp->Prop,(∀ σ' H',N σ' H'->∃m',m'<m/\W m' σ' H')/\tb { D with nx:=N,ct:=N,bk:=D.nx } σ H1 else D.nx σ H1
theorem zJY {tc:TT}(hp:PassesOwn (model X.prog X.w) X.A X.env X.xe)(hc:PT X c tc)(hb:PSs X body tb):PS X (.While c body [] pos) (tWhile tc tb):=by
 intro pins s σ H D I h
 obtain⟨W,⟨m0,w0⟩,turn⟩:=h
 refine wpAny_While (codeAny_whileLoop (fun n s'=>∃ σ' H',Inv X pins σ' H' s'/\W n σ' H') ?_ m0 ⟨σ,H,I,w0⟩)
 rintro n s1 ⟨σ1,H1,I1,w1⟩
 refine wpAny_passesOwn hp (thn (hc pins s1 σ1 H1 _ I1 (turn n σ1 H1 w1)) fun b s2 ⟨H2,I2,q2⟩=>?_)
 cases b with
 | true=>
  obtain⟨N,hN,q2⟩:=q2
  rw[if_pos rfl]
  refine wpAny_passesOwn hp (thn (hb pins s2 σ1 H2 _ I2 q2) fun f s3 q3=>?_)
  cases f with
  | next=>
   obtain⟨σ3,H3,I3,n3⟩:=q3
   obtain⟨m',hm,w3⟩:=hN σ3 H3 n3
   exact⟨m',hm,σ3,H3,I3,w3⟩
  | cont=>
   obtain⟨σ3,H3,I3,n3⟩:=q3
   obtain⟨m',hm,w3⟩:=hN σ3 H3 n3
   exact⟨m',hm,σ3,H3,I3,w3⟩
  | brk=>exact q3
  | ret v=>exact q3
 | false=>
  rw[if_neg zh]
  exact wpAny_execs_nil ⟨σ1,H2,I2,q2⟩
end
structure It where
 go:Nat->Hp->Prop
 yld:Nat->Hp->V->Hp->Prop
 stop:Nat->Hp->Prop
noncomputable def zDF (X:Cx)(pins:lPO)(H:Hp)(b:Addr):Prop:=
 H b=none/\b≠X.env.locals/\b∉X.fs/\(b∈X.ex\/X.s₀.heap.objs.size<=b)/\(∀x c,X.env.cells.lookup x=some c->c≠b)/\∀p∈X.pn++pins,p.1≠b
variable {H':Hp}
theorem Inv.fpOk {pins:lPO}(I:Inv X pins σ H s)(hb:s.heap.objs.size<=b)(hn:H' b=none):zDF X pins H' b:=by
 refine⟨hn,Nat.ne_of_gt (zo I.lt hb),I.nofs hb,.inr (zAH I.sz hb),fun x c e z=>?_,fun p hp z=>?_⟩
 . obtain⟨v,q⟩:=I.cell x c e
   exact absurd (zo q.lt (by rw[z];exact hb)) (zBo _)
 . exact absurd (zo (zX (I.pin p hp).1) (by rw[z];exact hb)) (zBo _)
structure Turn (P:Program)(w:World)(K:PySem.W.Frag)(tg:Expr)(J:It)(fp:List Addr)(it:Addr)(tn:Nat->Heap->Prop):Prop where
 mem:it∈fp
 obj:∀i h,tn i h->∀b∈fp,∃o,h.get? b=some o/\∀v,o.data ≠ .cell v
 keep:∀i h h',tn i h->(∀b∈fp,∀o,h.get? b=some o->h'.get? b=some o)->tn i h'
 item:∀(X:Cx),X.prog=P->X.w=w->X.K=K->X.calm=true->∀(i:Nat)(pins:lPO)(s:Shared)(σ:St)(H:Hp)(E:vSP),Inv X pins σ H s->(∀b∈fp,zDF X pins H b)->tn i s.heap->J.go i H ->
  wpAny (model P w) X.A (pyNext (.ref it)) (fun r s1=>∃u,r=some u /\
   wpAny (model P w) X.A (letOwnedTupleGo tg (.ref it) u) (fun _ s2=>∃x H',Inv X pins σ H' s2/\zBQ x u/\J.yld i H x H'/\tn (i+1) s2.heap/\∀b∈fp,H' b=none) E s1) E s
 done:∀(X:Cx),X.prog=P->X.w=w->X.K=K->X.calm=true->∀(i:Nat)(pins:lPO)(s:Shared)(σ:St)(H:Hp)(E:vSP),Inv X pins σ H s->(∀b∈fp,zDF X pins H b)->tn i s.heap->J.stop i H ->
  wpAny (model P w) X.A (pyNext (.ref it)) (fun r s1=>r=none/\Inv X pins σ H s1) E s
 self:∀(A:Around)(i:Nat)(s:Shared)(Q:vSP)(E:vSP),tn i s.heap->Q (.ref it) s->wpAny (model P w) A (pyIter (.ref it)) Q E s
noncomputable abbrev TI:=St->Hp->(It->Hp->Prop)->Prop
noncomputable def PIE (X:Cx)(pins:lPO)(σ:St)(tg:Expr)(R:It->Hp->Prop)(itv:Value)(s2:Shared):Prop:=
 ∃(it:Addr)(fp:List Addr)(tn:Nat->Heap->Prop)(J:It)(H':Hp),itv = .ref it/\Inv X pins σ H' s2/\Turn X.prog X.w X.K tg J fp it tn/\tn 0 s2.heap/\(∀b∈fp,zDF X pins H' b)/\R J H'
noncomputable def PI (X:Cx)(tg iter:Expr)(wi:TI):Prop:=
 ∀(pins:lPO)(s:Shared)(σ:St)(H:Hp)(R:It->Hp->Prop),Inv X pins σ H s->wi σ H R ->
  wpAny (model X.prog X.w) X.A (eval iter X.env) (fun v s1=>wpAny (model X.prog X.w) X.A (pyIter v) (PIE X pins σ tg R) X.xe s1) X.xe s
variable {tg:Expr}
theorem zLZ {E:vSP}{it:Addr}{n:String}{vs:Array Value}(ho:s.heap.get? it=some o)(hc:o.cls = .type n)(hd:o.data = .fields vs)
 (hn:["enumerate", "zip", "dict_itemiterator", "dict_reverseitemiterator", "odict_iterator", "itertools.zip_longest", "itertools.pairwise"].contains n=false) (hQ:Q () s):wpAny M A (letOwnedTupleGo tg (.ref it) u) Q E s:=by
 unfold letOwnedTupleGo
 cases tg <;> first
  | exact zF hQ
  | (cases u <;> first
   | exact zF hQ
   | (refine zA (wpAny_load ho ?_)
      rw[hc,hd]
      show wpAny M A (if (["enumerate", "zip", "dict_itemiterator", "dict_reverseitemiterator", "odict_iterator", "itertools.zip_longest", "itertools.pairwise"].contains n && vs[0]? == some (rawInt _))=true then _ else _) Q E s
      rw[if_neg (by intro h;rw[hn,Bool.false_and] at h;cases h)]
      exact zF hQ))
noncomputable def Itl (K:PySem.W.Frag)(a:Addr):It:=
 ⟨fun i H=>∃xs x,SqL K H a xs/\xs[i]? = some x,fun i H x H'=>H'=H/\∀xs,SqL K H a xs->xs[i]? = some x,fun i H=>∃xs,SqL K H a xs/\xs.length<=i⟩
noncomputable def Itt (K:PySem.W.Frag)(a:Addr):It:=
 ⟨fun i H=>∃xs x,SqT K H a xs/\xs[i]? = some x,fun i H x H'=>H'=H/\∀xs,SqT K H a xs->xs[i]? = some x,fun i H=>∃xs,SqT K H a xs/\xs.length<=i⟩
noncomputable def Itr (lo:Int)(n:Nat):It:=⟨fun i _=>i<n,fun i H x H'=>H'=H/\x = .int (lo+i),fun i _=>n<=i⟩
theorem zHa {P:Program}(a it:Addr):Turn P w K tg (Itl K a) [it] it (fun i h=>h.IsListIter it a i) where
 mem:=by simp
 obj:=fun i h st b hb=>by
  have e:b=it:=by simpa using hb
  subst e
  obtain⟨o,e,c,d⟩:=st
  exact⟨o,e,fun v z=>by rw[d] at z;cases z⟩
 keep:=fun i h h' st k=>st.at fun o e=>k it (by simp) o e
 item:=by
  intro X hP hw hK hc i pins s σ H E I hf st hg
  subst hP hw hK
  obtain⟨xs,x,hq,hx⟩:=hg
  obtain⟨its,rv,p,hz⟩:=I.list hq
  obtain⟨u,hu,ru⟩:=rv.get hx
  obtain⟨f0,f1,f2,f3,f4,f5⟩:=hf it (by simp)
  refine wpAny_pyNext_list_item st p.isList (x:=u) (by simpa using hu) fun h' st' sb=>?_
  have I1:Inv X pins σ H { s with heap:=h' }:=I.turned (t':=s.toks) (fun b o hb e=>(sb.2 b hb).trans e) f0 f1 f3 f4 f5
  obtain⟨o,e,c,d⟩:=id st'
  exact⟨u,rfl,zLZ (s:={ s with heap:=h' }) e c d (by decide) ⟨x,H,I1,ru,⟨rfl,fun ys hy=>by rw[I.list_inj hy hq];exact hx⟩,st',fun b hb=>(hf b hb).1⟩⟩
 done:=by
  intro X hP hw hK hc i pins s σ H E I hf st hg
  subst hP hw hK
  obtain⟨xs,hq,hx⟩:=hg
  obtain⟨its,rv,p,hz⟩:=I.list hq
  obtain⟨f0,f1,f2,f3,f4,f5⟩:=hf it (by simp)
  have hl:=rv.length
  exact wpAny_pyNext_list_end (I.ok.hd hc) st p.isList (by simp;omega) fun h' eb=>⟨rfl,I.turned (t':=s.toks) (fun b o hb e=>eb b o hb e) f0 f1 f3 f4 f5⟩
 self:=fun _ _ _ _ _ st h=>wpAny_pyIter_listiter st h
theorem zGs {P:Program}(a it:Addr):Turn P w K tg (Itt K a) [it] it (fun i h=>h.IsTupleIter it a i) where
 mem:=by simp
 obj:=fun i h st b hb=>by
  have e:b=it:=by simpa using hb
  subst e
  obtain⟨o,e,c,d⟩:=st
  exact⟨o,e,fun v z=>by rw[d] at z;cases z⟩
 keep:=fun i h h' st k=>st.at fun o e=>k it (by simp) o e
 item:=by
  intro X hP hw hK hc i pins s σ H E I hf st hg
  subst hP hw hK
  obtain⟨xs,x,hq,hx⟩:=hg
  obtain⟨its,rv,p,hz⟩:=I.tuple hq
  obtain⟨u,hu,ru⟩:=rv.get hx
  obtain⟨f0,f1,f2,f3,f4,f5⟩:=hf it (by simp)
  refine wpAny_pyNext_tuple_item st (show s.heap.IsTuple a its.toArray from p) (x:=u) (by simpa using hu) fun h' st' sb=>?_
  have I1:Inv X pins σ H { s with heap:=h' }:=I.turned (t':=s.toks) (fun b o hb e=>(sb.2 b hb).trans e) f0 f1 f3 f4 f5
  obtain⟨o,e,c,d⟩:=id st'
  exact⟨u,rfl,zLZ (s:={ s with heap:=h' }) e c d (by decide) ⟨x,H,I1,ru,⟨rfl,fun ys hy=>by rw[I.tuple_inj hy hq];exact hx⟩,st',fun b hb=>(hf b hb).1⟩⟩
 done:=by
  intro X hP hw hK hc i pins s σ H E I hf st hg
  subst hP hw hK
  obtain⟨xs,hq,hx⟩:=hg
  obtain⟨its,rv,p,hz⟩:=I.tuple hq
  obtain⟨f0,f1,f2,f3,f4,f5⟩:=hf it (by simp)
  have hl:=rv.length
  exact wpAny_pyNext_tuple_end (I.ok.hd hc) st (show s.heap.IsTuple a its.toArray from p) (by simp;omega) fun h' eb=>⟨rfl,I.turned (t':=s.toks) (fun b o hb e=>eb b o hb e) f0 f1 f3 f4 f5⟩
 self:=fun _ _ _ _ _ st h=>wpAny_pyIter_tupleiter st h
theorem zGt {P:Program}(it:Addr)(lo:Int)(n:Nat):Turn P w K tg (Itr lo n) [it] it (fun i h=>IsRangeIter h it (lo+(i:Nat)*1) ((n:Int)-(i:Nat)) 1) where
 mem:=by simp
 obj:=fun i h st b hb=>by
  have e:b=it:=by simpa using hb
  subst e
  exact⟨_,st,fun v z=>by
   have z':Data.fields _=Data.cell v:=z
   cases z'⟩
 keep:=fun i h h' st k=>k it (by simp) _ st
 item:=by
  intro X hP hw hK hc i pins s σ H E I hf st hg
  subst hP hw hK
  obtain⟨f0,f1,f2,f3,f4,f5⟩:=hf it (by simp)
  have W:=Walks.range (prog:=X.prog) (w:=X.w) (I.ok.hd hc) it lo 1 n
  refine W.item i s _ _ hg st fun v h' tk hv st' kk=>?_
  obtain⟨t,rfl⟩:=hv
  have I1:Inv X pins σ H { s with heap:=h',toks:=tk }:=I.turned (fun b o hb e=>kk b o (by simpa using hb) e) f0 f1 f3 f4 f5
  refine⟨_,rfl,zLZ (s:={ s with heap:=h',toks:=tk }) (n := "range_iterator") st' rfl rfl (by decide) ⟨.int (lo+i),H,I1,⟨t,?_⟩,⟨rfl,rfl⟩,st',fun b hb=>(hf b hb).1⟩⟩
  rw[Int.mul_one]
 done:=by
  intro X hP hw hK hc i pins s σ H E I hf st hg
  subst hP hw hK
  obtain⟨f0,f1,f2,f3,f4,f5⟩:=hf it (by simp)
  exact wpAny_pyNext_range_end (I.ok.hd hc) st (by have:n<=i:=hg;omega) fun h' eb=>⟨rfl,I.turned (t':=s.toks) (fun b o hb e=>eb b o hb e) f0 f1 f3 f4 f5⟩
 self:=fun _ _ _ _ _ st h=>wpAny_pyIter_rangeiter st h
variable {fp:List Addr}
section
variable {X:Cx}{tg:Expr}
noncomputable def iList (K:PySem.W.Frag)(tl:TE):TI:=fun σ H R=>tl σ H fun x H1=>∃a,x = .ref a/\(∃xs,SqL K H1 a xs)/\R (Itl K a) H1
noncomputable def iTup (K:PySem.W.Frag)(tl:TE):TI:=fun σ H R=>tl σ H fun x H1=>∃a,x = .ref a/\(∃xs,SqT K H1 a xs)/\R (Itt K a) H1
theorem zB2 {l:Expr}{tl:TE}(hl:PE X l tl):PI X tg l (iList X.K tl):=by
 intro pins s σ H R I h
 refine thn (hl pins s σ H _ I h) fun v s1 ⟨x,H1,I1,r1,q1⟩=>?_
 obtain⟨a,e,⟨xs,hq⟩,q⟩:=q1
 subst e
 cases r1
 obtain⟨its,rv,p,hz⟩:=I1.list hq
 refine wpAny_pyIter_list p.isList ?_
 refine⟨s1.heap.objs.size,[s1.heap.objs.size],_,_,H1,rfl,I1.kept (t':=s1.toks) fun b o e=>zG _ e,zHa a _,⟨_,zR _ rfl,rfl,rfl⟩,fun b hb=>?_,q⟩
 have e:b=s1.heap.objs.size:=by simpa using hb
 subst e
 exact I1.fpOk (zK _) (I1.hok.fresh (zK _))
theorem zBv {l:Expr}{tl:TE}(hl:PE X l tl):PI X tg l (iTup X.K tl):=by
 intro pins s σ H R I h
 refine thn (hl pins s σ H _ I h) fun v s1 ⟨x,H1,I1,r1,q1⟩=>?_
 obtain⟨a,e,⟨xs,hq⟩,q⟩:=q1
 subst e
 cases r1
 obtain⟨its,rv,p,hz⟩:=I1.tuple hq
 refine wpAny_pyIter_tuple (show s1.heap.IsTuple a its.toArray from p) ?_
 refine⟨s1.heap.objs.size,[s1.heap.objs.size],_,_,H1,rfl,I1.kept (t':=s1.toks) fun b o e=>zG _ e,zGs a _,⟨_,zR _ rfl,rfl,rfl⟩,fun b hb=>?_,q⟩
 have e:b=s1.heap.objs.size:=by simpa using hb
 subst e
 exact I1.fpOk (zK _) (I1.hok.fresh (zK _))
theorem zGU {pins:lPO}{R:It->Hp->Prop}{E:vSP}{lo hi:Int}{t u v:Tok}{tk:Nat}(I:Inv X pins σ H s)(h1 : -(2 ^ 62)<=lo)(h2:lo<2 ^ 62)(h3 : -(2 ^ 62)<=hi)(h4:hi<2 ^ 62)
 (q:R (Itr lo (hi-lo).toNat) H):wpAny (model X.prog X.w) X.A (pyIter (.ref s.heap.objs.size)) (PIE X pins σ tg R) E { s with heap:=s.heap.push { cls:=.type "range",data:=.fields #[.int lo t,.int hi u,.int 1 v] },toks:=tk }:=by
 refine wpAny_pyIter_range (IsRange.new ..) (small_one h1 h2 h3 h4) ?_
 have I1:Inv X pins σ H { s with heap:=s.heap.push { cls:=.type "range",data:=.fields #[.int lo t,.int hi u,.int 1 v] },toks:=tk }:=I.kept fun b o e=>zG _ e
 refine⟨(s.heap.push { cls:=.type "range",data:=.fields #[.int lo t,.int hi u,.int 1 v] }).objs.size,[(s.heap.push { cls:=.type "range",data:=.fields #[.int lo t,.int hi u,.int 1 v] }).objs.size],_,_,H,rfl,
  I1.kept (t':=tk) fun b o e=>zG _ e,zGt _ lo (hi-lo).toNat,?_,fun b hb=>?_,q⟩
 . have e1:lo+((0:Nat):Int)*1=lo:=by simp
   have e2:(((hi-lo).toNat:Nat):Int)-((0:Nat):Int)=Builtin.Range.rangeSize lo hi 1:=by rw[rangeSize_one];split <;> omega
   show IsRangeIter _ _ (lo+((0:Nat):Int)*1) ((((hi-lo).toNat:Nat):Int)-((0:Nat):Int)) 1
   rw[e1,e2]
   exact zR _ rfl
 . have e:b=(s.heap.push { cls:=.type "range",data:=.fields #[.int lo t,.int hi u,.int 1 v] }).objs.size:=by simpa using hb
   subst e
   exact I1.fpOk (zK _) (I1.hok.fresh (zK _))
noncomputable def iRng1 (ta:TA):TI:=fun σ H R=>ta σ H fun vs H1=>∃j:Int,vs=[.int j] /\ -(2 ^ 62)<=j/\j<2 ^ 62/\R (Itr 0 j.toNat) H1
noncomputable def iRng2 (ta:TA):TI:=fun σ H R=>ta σ H fun vs H1=>∃i j:Int,vs=[.int i,.int j]/\(-(2 ^ 62)<=i/\i<2 ^ 62 /\ -(2 ^ 62)<=j/\j<2 ^ 62)/\R (Itr i (j-i).toNat) H1
theorem zAg {a:Expr}{ta:TA}{p:Pos}(hg:Gl X "range") (hm:X.mg "range" = none) (ha:PA X [a] ta)(hs:starEach [a] X.env=[(false,eval a X.env)]:=by rfl):PI X tg (.Call (.Name "range" p) [a] [] pos) (iRng1 ta):=by
 intro pins s σ H R I h
 refine Call_ (zCe I hg hm boot_range (PyProof.Rows.callWith_type1 (thn (ha pos pins s σ H _ I h) fun us s1 ⟨vs,H1,I1,r1,q1⟩=>?_) hs rfl))
 obtain⟨j,e,q1,q2,q⟩:=q1
 subst e
 cases r1 with
 | cons r rr=>
  cases rr
  obtain⟨t,rfl⟩:=r
  exact call_range_1 (zGU I1 (by omega) (by omega) q1 q2 (by simpa using q))
theorem zFL {a b:Expr}{ta:TA}{p pos:Pos}(hg:Gl X "range") (hm:X.mg "range" = none) (ha:PA X [a,b] ta)(hs:starEach [a,b] X.env=[(false,eval a X.env),(false,eval b X.env)]:=by rfl)(hs2:starEach [b] X.env=[(false,eval b X.env)]:=by rfl) :
 PI X tg (.Call (.Name "range" p) [a,b] [] pos) (iRng2 ta):=by
 intro pins s σ H R I h
 refine Call_ (zCe I hg hm boot_range (PyProof.Rows.callWith_type1 (thn (ha pos pins s σ H _ I h) fun us s1 ⟨vs,H1,I1,r1,q1⟩=>?_) (by rw[hs,hs2]) (by rw[hs2];rfl)))
 obtain⟨i,j,e,⟨q1,q2,q3,q4⟩,q⟩:=q1
 subst e
 cases r1 with
 | cons r rr=>
  cases rr with
  | cons r' rr=>
   cases rr
   obtain⟨t,rfl⟩:=r
   obtain⟨t',rfl⟩:=r'
   exact call_range_2 (zGU I1 q1 q2 q3 q4 q)
noncomputable def tFor (wi:TI)(g:TG)(tb:TS):TS:=fun D σ H=>wi σ H fun J H1=>∃W:Nat->Nat->St->Hp->Prop,(∃m,W 0 m σ H1)/\∀i m σ H,W i m σ H ->
 (J.stop i H/\D.nx σ H)\/(J.go i H/\∃N:St->Hp->Prop,(∀ σ' H',N σ' H'->∃m',m'<m/\W (i+1) m' σ' H')/\∀x H',J.yld i H x H'->g x σ H' fun σ2 H2=>tb { D with nx:=N,ct:=N,bk:=D.nx } σ2 H2)
noncomputable def zES (fp:List Addr)(h:Heap):List (Addr×Obj):=fp.filterMap fun b=>(h.get? b).map fun o=>(b,o)
theorem zCJ (hb:b∈fp)(e:h.get? b=some o):(b,o)∈zES fp h:=zAr.mpr ⟨b,hb,by rw[e];rfl⟩
theorem zIH {p:Addr×Obj}(hp:p∈zES fp h):p.1∈fp/\h.get? p.1=some p.2:=by
 obtain⟨b,hb,e⟩:=zAr.mp hp
 cases q:h.get? b with
 | none=>rw[q] at e;cases e
 | some o=>
  rw[q] at e
  have e':(b,o)=p:=zY e
  subst e'
  exact⟨hb,q⟩
theorem Inv.pinned {pins:lPO}(I:Inv X pins σ H s)(hf:∀b∈fp,zDF X pins H b)(ho:∀b∈fp,∃o,s.heap.get? b=some o/\∀v,o.data ≠ .cell v):Inv X (pins++zES fp s.heap) σ H s:=
 I.pins_of fun p hp=>(zm.mp hp).elim (fun z=>I.pin p (zg _ z)) fun z=>by
  obtain⟨hb,e⟩:=zIH z
  obtain⟨f0,f1,f2,_⟩:=hf p.1 hb
  obtain⟨o,e',d⟩:=ho p.1 hb
  rw[e] at e';cases e'
  exact⟨e,f0,f1,f2,d⟩
theorem Inv.unpinned {pins pl:lPO}(I:Inv X (pins++pl) σ H s):Inv X pins σ H s:=I.pins_of fun p hp=>I.pin p (zg _ (zAE _ hp))
theorem zBF {iter:Expr}{wi:TI}{g:TG}(hp:PassesOwn (model X.prog X.w) X.A X.env X.xe)(hc:X.calm=true)(hi:PI X tg iter wi)(hg:PG X tg g)(hb:PSs X body tb)
 (hs:∀x,foldedSetIterable iter X.env x=pure x:=by intro _;rfl):PS X (.For tg iter body [] pos) (tFor wi g tb):=by
 intro pins s σ H D I h
 refine wpAny_For (thn (hi pins s σ H _ I h) fun v s1 h1=>thn h1 fun itv s2 h2=>?_) hs
 obtain⟨it,fp,tn,J,H2,e,I2,T,st2,f2,W,⟨m0,w0⟩,turn⟩:=h2
 subst e
 have stat:∀{H':Hp},(∀b∈fp,H' b=none)->∀b∈fp,zDF X pins H' b:=fun hn b hb=>⟨hn b hb,(f2 b hb).2⟩
 refine codeAny_forLoop_any (fun n s'=>∃i σ' H',Inv X pins σ' H' s'/\tn i s'.heap/\(∀b∈fp,H' b=none)/\W i n σ' H') ?_ m0 ⟨0,σ,H2,I2,st2,fun b hb=>(f2 b hb).1,w0⟩
 rintro n s3 ⟨i,σ3,H3,I3,st3,fr3,w3⟩
 rcases turn i n σ3 H3 w3 with ⟨stop,qn⟩ | ⟨go,N,hN,step⟩
 . refine wpAny_passesOwn hp (thn (T.done X rfl rfl rfl hc i pins s3 σ3 H3 X.xe I3 (stat fr3) st3 stop) fun r s4 ⟨hr,I4⟩=>?_)
   subst hr
   exact wpAny_execs_nil ⟨σ3,H3,I4,qn⟩
 . refine wpAny_passesOwn hp (thn (T.item X rfl rfl rfl hc i pins s3 σ3 H3 X.xe I3 (stat fr3) st3 go) fun r s4 ⟨u,hr,h4⟩=>?_)
   subst hr
   refine wpAny_passesOwn hp (thn h4 fun _ s5 ⟨x,H5,I5,r5,y5,st5,fr5⟩=>?_)
   have I5':=I5.pinned (stat fr5) (T.obj _ _ st5)
   refine wpAny_passesOwn hp (thn (hg _ s5 σ3 H5 x u _ I5' r5 (step x H5 y5)) fun _ s6 ⟨σ6,H6,I6,q6⟩=>?_)
   refine wpAny_passesOwn hp (thn (hb _ s6 σ6 H6 _ I6 q6) fun f s7 q7=>?_)
   have again:∀{σ7:St}{H7:Hp},Inv X (pins++zES fp s5.heap) σ7 H7 s7->N σ7 H7->∃m,m<n/\∃i σ' H',Inv X pins σ' H' s7/\tn i s7.heap/\(∀b∈fp,H' b=none)/\W i m σ' H':=fun {σ7 H7} I7 n7=>by
    obtain⟨m',hm,w7⟩:=hN σ7 H7 n7
    refine⟨m',hm,i+1,σ7,H7,I7.unpinned,T.keep _ _ _ st5 fun b hb o e=>(I7.pin (b,o) (zg _ (zg _ (zCJ hb e)))).1,fun b hb=>?_,w7⟩
    obtain⟨o,e,d⟩:=T.obj _ _ st5 b hb
    exact (I7.pin (b,o) (zg _ (zg _ (zCJ hb e)))).2.1
   cases f with
   | next=>obtain⟨σ7,H7,I7,n7⟩:=q7;exact again I7 n7
   | cont=>obtain⟨σ7,H7,I7,n7⟩:=q7;exact again I7 n7
   | brk=>obtain⟨σ7,H7,I7,q7⟩:=q7;exact⟨σ7,H7,I7.unpinned,q7⟩
   | ret v=>obtain⟨x7,σ7,H7,I7,r7,q7⟩:=q7;exact⟨x7,σ7,H7,I7.unpinned,r7,q7⟩
end
variable {D:zJF}
theorem zCm {xs:List V}{g:TG}(Pv:Nat->St->Hp->Prop)(h0:Pv 0 σ H)(hl:∀i σ H,i<=xs.length->Pv i σ H->SqL K H a xs)
 (hs:∀i x σ H,xs[i]? = some x->Pv i σ H->g x σ H fun σ2 H2=>tb { D with nx:=Pv (i+1),ct:=Pv (i+1),bk:=D.nx } σ2 H2)(hd:∀ σ H,Pv xs.length σ H->D.nx σ H) :
 ∃W:Nat->Nat->St->Hp->Prop,(∃m,W 0 m σ H)/\∀i m σ H,W i m σ H ->
  ((Itl K a).stop i H/\D.nx σ H)\/((Itl K a).go i H/\∃N:St->Hp->Prop,(∀ σ' H',N σ' H'->∃m',m'<m/\W (i+1) m' σ' H')/\∀x H',(Itl K a).yld i H x H'->g x σ H' fun σ2 H2=>tb { D with nx:=N,ct:=N,bk:=D.nx } σ2 H2):=by
 refine⟨fun i m σ H=>m=xs.length-i/\i<=xs.length/\Pv i σ H,⟨xs.length,by simp,ze _,h0⟩,?_⟩
 rintro i m σ H ⟨rfl,hi,p⟩
 have q:=hl i σ H hi p
 by_cases hlt:i<xs.length
 . refine .inr ⟨⟨xs,xs[i],q,by simp[hlt]⟩,Pv (i+1),fun σ' H' p'=>⟨xs.length-(i+1),by omega,rfl,hlt,p'⟩,fun x H' y=>?_⟩
   obtain⟨e,y⟩:=y
   subst e
   exact hs i x σ _ (y xs q) p
 . have e:i=xs.length:=by omega
   subst e
   exact .inl ⟨⟨xs,q,zK _⟩,hd σ H p⟩
theorem zD1 {xs:List V}{g:TG}(Pv:Nat->St->Hp->Prop)(h0:Pv 0 σ H)(hl:∀i σ H,i<=xs.length->Pv i σ H->SqT K H a xs)
 (hs:∀i x σ H,xs[i]? = some x->Pv i σ H->g x σ H fun σ2 H2=>tb { D with nx:=Pv (i+1),ct:=Pv (i+1),bk:=D.nx } σ2 H2)(hd:∀ σ H,Pv xs.length σ H->D.nx σ H) :
 ∃W:Nat->Nat->St->Hp->Prop,(∃m,W 0 m σ H)/\∀i m σ H,W i m σ H ->
  ((Itt K a).stop i H/\D.nx σ H)\/((Itt K a).go i H/\∃N:St->Hp->Prop,(∀ σ' H',N σ' H'->∃m',m'<m/\W (i+1) m' σ' H')/\∀x H',(Itt K a).yld i H x H'->g x σ H' fun σ2 H2=>tb { D with nx:=N,ct:=N,bk:=D.nx } σ2 H2):=by
 refine⟨fun i m σ H=>m=xs.length-i/\i<=xs.length/\Pv i σ H,⟨xs.length,by simp,ze _,h0⟩,?_⟩
 rintro i m σ H ⟨rfl,hi,p⟩
 have q:=hl i σ H hi p
 by_cases hlt:i<xs.length
 . refine .inr ⟨⟨xs,xs[i],q,by simp[hlt]⟩,Pv (i+1),fun σ' H' p'=>⟨xs.length-(i+1),by omega,rfl,hlt,p'⟩,fun x H' y=>?_⟩
   obtain⟨e,y⟩:=y
   subst e
   exact hs i x σ _ (y xs q) p
 . have e:i=xs.length:=by omega
   subst e
   exact .inl ⟨⟨xs,q,zK _⟩,hd σ H p⟩
theorem zBD {lo:Int}{g:TG}(Pv:Nat->St->Hp->Prop)(h0:Pv 0 σ H)
 (hs:∀i σ H,i<n->Pv i σ H->g (.int (lo+i)) σ H fun σ2 H2=>tb { D with nx:=Pv (i+1),ct:=Pv (i+1),bk:=D.nx } σ2 H2)(hd:∀ σ H,Pv n σ H->D.nx σ H) :
 ∃W:Nat->Nat->St->Hp->Prop,(∃m,W 0 m σ H)/\∀i m σ H,W i m σ H ->
  ((Itr lo n).stop i H/\D.nx σ H)\/((Itr lo n).go i H/\∃N:St->Hp->Prop,(∀ σ' H',N σ' H'->∃m',m'<m/\W (i+1) m' σ' H')/\∀x H',(Itr lo n).yld i H x H'->g x σ H' fun σ2 H2=>tb { D with nx:=N,ct:=N,bk:=D.nx } σ2 H2):=by
 refine⟨fun i m σ H=>m=n-i/\i<=n/\Pv i σ H,⟨n,by simp,ze _,h0⟩,?_⟩
 rintro i m σ H ⟨rfl,hi,p⟩
 by_cases hlt:i<n
 . refine .inr ⟨hlt,Pv (i+1),fun σ' H' p'=>⟨n-(i+1),by omega,rfl,hlt,p'⟩,fun x H' y=>?_⟩
   obtain⟨e,y⟩:=y
   subst e y
   exact hs i σ _ hlt p
 . have e:i=n:=by omega
   subst e
   exact .inl ⟨zK _,hd σ H p⟩
noncomputable abbrev R2:=V->V->Hp->VK->Prop
noncomputable def OpR (X:Cx)(f:Value->Value->Sem Value)(r:R2):Prop:=
 ∀(pins:lPO)(s:Shared)(σ:St)(H:Hp)(x y:V)(v u:Value)(Q:VK),Inv X pins σ H s->zBQ x v->zBQ y u->r x y H Q ->
  wpAny (model X.prog X.w) X.A (f v u) (EP X pins σ Q) X.xe s
noncomputable def UnR (X:Cx)(f:Value->Sem Value)(r:V->Hp->VK->Prop):Prop:=
 ∀(pins:lPO)(s:Shared)(σ:St)(H:Hp)(x:V)(v:Value)(Q:VK),Inv X pins σ H s->zBQ x v->r x H Q ->
  wpAny (model X.prog X.w) X.A (f v) (EP X pins σ Q) X.xe s
noncomputable def zCl (X:Cx)(f:Value)(r:List V->Hp->VK->Prop):Prop:=
 ∀(pins:lPO)(s:Shared)(σ:St)(H:Hp)(xs:List V)(us:List Value)(Q:VK),Inv X pins σ H s->zBE xs us->r xs H Q ->
  wpAny (model X.prog X.w) X.A (call f us) (EP X pins σ Q) X.xe s
noncomputable def TruR (X:Cx)(r:V->Hp->(Bool->Hp->Prop)->Prop):Prop:=
 ∀(pins:lPO)(s:Shared)(σ:St)(H:Hp)(x:V)(v:Value)(Q:Bool->Hp->Prop),Inv X pins σ H s->zBQ x v->r x H Q ->
  wpAny (model X.prog X.w) X.A (truthy v) (TP X pins σ Q) X.xe s
noncomputable def tOp (r:R2)(ta tb:TE):TE:=fun σ H Q=>ta σ H fun x H1=>tb σ H1 fun y H2=>r x y H2 Q
noncomputable def tUn (r:V->Hp->VK->Prop)(ta:TE):TE:=fun σ H Q=>ta σ H fun x H1=>r x H1 Q
noncomputable def rI (C:Int->Int->Prop)(g:Int->Int->V):R2:=fun x y H Q=>∃i j,x = .int i/\y = .int j/\C i j/\Q (g i j) H
noncomputable def rI0 (g:Int->Int->V):R2:=fun x y H Q=>∃i j,x = .int i/\y = .int j/\Q (g i j) H
noncomputable def rU (g:Int->V):V->Hp->VK->Prop:=fun x H Q=>∃i,x = .int i/\Q (g i) H
variable {f:Value->Value->Sem Value}
section
variable {X:Cx}{a b c:Expr}{ta tb tc:TE}{pos:Pos}
theorem binT (ha:PE X a ta)(hb:PE X b tb){pins:lPO}{R:V->V->Hp->Prop}(I:Inv X pins σ H s)
 (h:ta σ H fun x H1=>tb σ H1 fun y H2=>R x y H2){Q:vSP}
 (hf:∀v u s2 x y H2,Inv X pins σ H2 s2->zBQ x v->zBQ y u->R x y H2->wpAny (model X.prog X.w) X.A (f v u) Q X.xe s2) :
 wpAny (model X.prog X.w) X.A (eval a X.env) (fun v s₁=>wpAny (model X.prog X.w) X.A (eval b X.env) (fun u s₂=>wpAny (model X.prog X.w) X.A (f v u) Q X.xe s₂) X.xe s₁) X.xe s:=by
 refine thn (ha pins s σ H _ I h) fun v s1 ⟨x,H1,I1,r1,q1⟩=>?_
 refine thn (hb pins s1 σ H1 _ I1 q1) fun u s2 ⟨y,H2,I2,r2,q2⟩=>?_
 exact hf v u s2 x y H2 I2 r1 r2 q2
theorem zA5 {op:Operator}{r:R2}(ho:OpR X (binaryOp op) r)(ha:PE X a ta)(hb:PE X b tb):PE X (.BinOp a op b pos) (tOp r ta tb):=by
 intro pins s σ H Q I h
 exact wpAny_BinOp (binT ha hb I h fun v u s2 x y H2 I2 rx ry q=>ho pins s2 σ H2 x y v u Q I2 rx ry q)
theorem pe_un {op:UnaryOp}{r:V->Hp->VK->Prop}(ho:UnR X (unaryOp op) r)(ha:PE X a ta):PE X (.UnaryOp op a pos) (tUn r ta):=by
 intro pins s σ H Q I h
 exact UnaryOp_ (thn (ha pins s σ H _ I h) fun v s1 ⟨x,H1,I1,r1,q1⟩=>ho pins s1 σ H1 x v Q I1 r1 q1)
theorem opI {C:Int->Int->Prop}{g:Int->Int->Int}
 (rule:∀(i j:Int)(t u:Tok)(s:Shared)(Q:vSP)(E:vSP),C i j->Q (.int (g i j) s.toks) { s with toks:=s.toks+1 }->wpAny (model X.prog X.w) X.A (f (.int i t) (.int j u)) Q E s) :
 OpR X f (rI C fun i j=>.int (g i j)):=by
 intro pins s σ H x y v u Q I rx ry h
 obtain⟨i,j,rfl,rfl,hc,q⟩:=h
 obtain⟨t,rfl⟩:=rx
 obtain⟨t',rfl⟩:=ry
 exact rule i j t t' s _ _ hc ⟨.int (g i j),H,I.tok _,⟨_,rfl⟩,q⟩
theorem opI0 {g:Int->Int->Int}
 (rule:∀(i j:Int)(t u:Tok)(s:Shared)(Q:vSP)(E:vSP),Q (.int (g i j) s.toks) { s with toks:=s.toks+1 }->wpAny (model X.prog X.w) X.A (f (.int i t) (.int j u)) Q E s) :
 OpR X f (rI0 fun i j=>.int (g i j)):=by
 intro pins s σ H x y v u Q I rx ry h
 obtain⟨i,j,rfl,rfl,q⟩:=h
 obtain⟨t,rfl⟩:=rx
 obtain⟨t',rfl⟩:=ry
 exact rule i j t t' s _ _ ⟨.int (g i j),H,I.tok _,⟨_,rfl⟩,q⟩
theorem opB0 {g:Int->Int->Bool}
 (rule:∀(i j:Int)(t u:Tok)(s:Shared)(Q:vSP)(E:vSP),Q (.bool (g i j)) s->wpAny (model X.prog X.w) X.A (f (.int i t) (.int j u)) Q E s) :
 OpR X f (rI0 fun i j=>.bl (g i j)):=by
 intro pins s σ H x y v u Q I rx ry h
 obtain⟨i,j,rfl,rfl,q⟩:=h
 obtain⟨t,rfl⟩:=rx
 obtain⟨t',rfl⟩:=ry
 exact rule i j t t' s _ _ ⟨.bl (g i j),H,I,rfl,q⟩
noncomputable def CDiv (i j:Int):Prop:=0<j/\j<1073741824
noncomputable def CPow (i j:Int):Prop:=0<=j/\j<=1000000/\i.natAbs<2 ^ 64
noncomputable def CMul (i j:Int):Prop:=(-(2 ^ 64)<i/\i<2 ^ 64)\/(-(2 ^ 64)<j/\j<2 ^ 64)
theorem CMul.ok {i j:Int}(h:CMul i j):IntMulOk i j:=by
 rcases h with ⟨h1,h2⟩ | ⟨h1,h2⟩
 . exact .of_left (intBits_le_64 h1 h2)
 . exact .of_right (intBits_le_64 h1 h2)
theorem zB0:OpR X (binaryOp .Add) (rI0 fun i j=>.int (i+j)):=opI0 fun _ _ _ _ _ _ _ q=>add_int q
theorem zGa:OpR X (binaryOp .Sub) (rI0 fun i j=>.int (i-j)):=opI0 fun _ _ _ _ _ _ _ q=>sub_int q
theorem zET:OpR X (binaryOp .Mult) (rI CMul fun i j=>.int (i*j)):=opI fun _ _ _ _ _ _ _ hc q=>mul_int q hc.ok
theorem zEq:OpR X (binaryOp .FloorDiv) (rI CDiv fun i j=>.int (i/j)):=opI fun i j _ _ _ _ _ hc q=>by
 have h1:(0:Int)<j:=hc.1
 have h2:j<1073741824:=hc.2
 exact floordiv_int (by omega) (by rw[Int.fdiv_eq_ediv_of_nonneg i (by omega)];exact q) (.inl (PyProof.noPylong_small (by omega)))
theorem zDp:OpR X (binaryOp .Mod) (rI (fun _ j=>0<j) fun i j=>.int (i%j)):=opI fun i j _ _ _ _ _ hc q=>by
 have h1:(0:Int)<j:=hc
 exact mod_int' (by omega) (by rw[Int.fmod_eq_emod_of_nonneg i (by omega)];exact q)
theorem op_pow:OpR X (binaryOp .Pow) (rI CPow fun i j=>.int (i ^ j.toNat)):=opI fun _ _ _ _ _ _ _ hc q=>pow_int_small hc.1 hc.2.1 hc.2.2 q
theorem unI {f:Value->Sem Value}{g:Int->Int}
 (rule:∀(i:Int)(t:Tok)(s:Shared)(Q:vSP)(E:vSP),Q (.int (g i) s.toks) { s with toks:=s.toks+1 }->wpAny (model X.prog X.w) X.A (f (.int i t)) Q E s) :
 UnR X f (rU fun i=>.int (g i)):=by
 intro pins s σ H x v Q I rx h
 obtain⟨i,rfl,q⟩:=h
 obtain⟨t,rfl⟩:=rx
 exact rule i t s _ _ ⟨.int (g i),H,I.tok _,⟨_,rfl⟩,q⟩
theorem un_neg:UnR X (unaryOp .USub) (rU fun i=>.int (-i)):=unI fun _ _ _ _ _ q=>neg_int q
end
noncomputable def scal:V->V->Bool
 | .non,.non=>true | .non,.int _=>true | .int _,.non=>true | .non,.bl _=>true | .bl _,.non=>true | .non,.str _=>true | .str _,.non=>true
 | .int _,.int _=>true | .bl _,.bl _=>true | .str _,.str _=>true | .byt _,.byt _=>true
 | .int _,.str _=>true | .str _,.int _=>true | .bl _,.str _=>true | .str _,.bl _=>true
 | _,_=>false
noncomputable def rEq:R2:=fun x y H Q=>scal x y=true/\Q (.bl (decide (x=y))) H
noncomputable def rNe:R2:=fun x y H Q=>scal x y=true/\Q (.bl (!decide (x=y))) H
theorem zIo {i j:Int}:decide (V.int i=V.int j)=(i==j):=by
 rw[Bool.eq_iff_iff]
 simp
theorem zKW {i j:Bool}:decide (V.bl i=V.bl j)=(i==j):=by
 rw[Bool.eq_iff_iff]
 simp
theorem zIn {i j:Str}:decide (V.str i=V.str j)=(i==j):=by
 rw[Bool.eq_iff_iff]
 simp
theorem zIp {i j:Array UInt8}:decide (V.byt i=V.byt j)=(i.toList==j.toList):=by
 rw[Bool.eq_iff_iff]
 cases i
 cases j
 simp
section
variable {X:Cx}{a b c:Expr}{ta tb tc:TE}{pos:Pos}
theorem zA4 {pins:lPO}{Q:VK}{k k':Bool}(I:Inv X pins σ H s)(q:Q (.bl k) H)(e:k=k'):EP X pins σ Q (.bool k') s:=by
 subst e
 exact⟨.bl k,H,I,rfl,q⟩
theorem zBw:OpR X (compareOp .Eq) rEq:=by
 intro pins s σ H x y v u Q I rx ry h
 obtain⟨hs,q⟩:=h
 cases x with
 | non=>
  cases rx
  cases y with
  | non=>cases ry;exact PySem.EqNone.eq_none_none (zA4 I q (by simp))
  | bl j=>cases ry;exact PySem.EqNone.eq_none_bool (zA4 I q (by simp))
  | int j=>obtain⟨t',rfl⟩:=ry;exact PySem.EqNone.eq_none_int (zA4 I q (by simp))
  | str j=>obtain⟨t',rfl⟩:=ry;exact PySem.EqNone.eq_none_str (zA4 I q (by simp))
  | _=>exact absurd (show false=true from hs) zh
 | bl i=>
  cases rx
  cases y with
  | non=>cases ry;exact PySem.EqNone.eq_bool_none (zA4 I q (by simp))
  | bl j=>cases ry;exact eq_bool (zA4 I q zKW)
  | str j=>obtain⟨t',rfl⟩:=ry;exact PySem.EqMixed.eq_bool_str (zA4 I q (by simp))
  | _=>exact absurd (show false=true from hs) zh
 | int i=>
  obtain⟨t,rfl⟩:=rx
  cases y with
  | non=>cases ry;exact PySem.EqNone.eq_int_none (zA4 I q (by simp))
  | int j=>obtain⟨t',rfl⟩:=ry;exact eq_int (zA4 I q zIo)
  | str j=>obtain⟨t',rfl⟩:=ry;exact PySem.EqMixed.eq_int_str (zA4 I q (by simp))
  | _=>exact absurd (show false=true from hs) zh
 | str i=>
  obtain⟨t,rfl⟩:=rx
  cases y with
  | non=>cases ry;exact PySem.EqNone.eq_str_none (zA4 I q (by simp))
  | bl j=>cases ry;exact PySem.EqMixed.eq_str_bool (zA4 I q (by simp))
  | int j=>obtain⟨t',rfl⟩:=ry;exact PySem.EqMixed.eq_str_int (zA4 I q (by simp))
  | str j=>obtain⟨t',rfl⟩:=ry;exact eq_str (zA4 I q zIn)
  | _=>exact absurd (show false=true from hs) zh
 | byt i=>
  obtain⟨t,rfl⟩:=rx
  cases y with
  | byt j=>obtain⟨t',rfl⟩:=ry;exact PySem.W.eq_bytes (zA4 I q zIp)
  | _=>exact absurd (show false=true from hs) zh
 | _=>cases y <;> exact absurd (show false=true from hs) zh
theorem zJh:OpR X (compareOp .NotEq) rNe:=by
 intro pins s σ H x y v u Q I rx ry h
 obtain⟨hs,q⟩:=h
 cases x with
 | non=>
  cases rx
  cases y with
  | non=>cases ry;exact PySem.EqNone.ne_none_none (zA4 I q (by simp))
  | bl j=>cases ry;exact PySem.EqNone.ne_none_bool (zA4 I q (by simp))
  | int j=>obtain⟨t',rfl⟩:=ry;exact PySem.EqNone.ne_none_int (zA4 I q (by simp))
  | str j=>obtain⟨t',rfl⟩:=ry;exact PySem.EqNone.ne_none_str (zA4 I q (by simp))
  | _=>exact absurd (show false=true from hs) zh
 | bl i=>
  cases rx
  cases y with
  | non=>cases ry;exact PySem.EqNone.ne_bool_none (zA4 I q (by simp))
  | bl j=>cases ry;exact ne_bool (zA4 I q (congrArg not zKW))
  | str j=>obtain⟨t',rfl⟩:=ry;exact PySem.EqMixed.ne_bool_str (zA4 I q (by simp))
  | _=>exact absurd (show false=true from hs) zh
 | int i=>
  obtain⟨t,rfl⟩:=rx
  cases y with
  | non=>cases ry;exact PySem.EqNone.ne_int_none (zA4 I q (by simp))
  | int j=>obtain⟨t',rfl⟩:=ry;exact ne_int (zA4 I q (congrArg not zIo))
  | str j=>obtain⟨t',rfl⟩:=ry;exact PySem.EqMixed.ne_int_str (zA4 I q (by simp))
  | _=>exact absurd (show false=true from hs) zh
 | str i=>
  obtain⟨t,rfl⟩:=rx
  cases y with
  | non=>cases ry;exact PySem.EqNone.ne_str_none (zA4 I q (by simp))
  | bl j=>cases ry;exact PySem.EqMixed.ne_str_bool (zA4 I q (by simp))
  | int j=>obtain⟨t',rfl⟩:=ry;exact PySem.EqMixed.ne_str_int (zA4 I q (by simp))
  | str j=>obtain⟨t',rfl⟩:=ry;exact ne_str (zA4 I q (congrArg not zIn))
  | _=>exact absurd (show false=true from hs) zh
 | byt i=>
  obtain⟨t,rfl⟩:=rx
  cases y with
  | byt j=>obtain⟨t',rfl⟩:=ry;exact PySem.W.ne_bytes (zA4 I q (congrArg not zIp))
  | _=>exact absurd (show false=true from hs) zh
 | _=>cases y <;> exact absurd (show false=true from hs) zh
theorem zJi:OpR X (compareOp .Lt) (rI0 fun i j=>.bl (decide (i<j))):=opB0 fun _ _ _ _ _ _ _ q=>lt_int q
theorem zK9:OpR X (compareOp .LtE) (rI0 fun i j=>.bl (decide (i<=j))):=opB0 fun _ _ _ _ _ _ _ q=>le_int q
theorem zFM:OpR X (compareOp .Gt) (rI0 fun i j=>.bl (decide (j<i))):=opB0 fun _ _ _ _ _ _ _ q=>gt_int q
theorem op_ge:OpR X (compareOp .GtE) (rI0 fun i j=>.bl (decide (j<=i))):=opB0 fun _ _ _ _ _ _ _ q=>ge_int q
theorem zCF:OpR X (compareOp .Is) (fun x y H Q=>y = .non/\Q (.bl (decide (x = .non))) H):=by
 intro pins s σ H x y v u Q I rx ry h
 obtain⟨rfl,q⟩:=h
 cases ry
 refine is_none_gen (zA4 I q ?_)
 cases x <;> first
  | (cases rx;rfl)
  | (obtain⟨t,rfl⟩:=rx;rfl)
theorem zCu:OpR X (compareOp .IsNot) (fun x y H Q=>y = .non/\Q (.bl (!decide (x = .non))) H):=by
 intro pins s σ H x y v u Q I rx ry h
 obtain⟨rfl,q⟩:=h
 cases ry
 refine isnot_none_gen (zA4 I q ?_)
 cases x <;> first
  | (cases rx;rfl)
  | (obtain⟨t,rfl⟩:=rx;rfl)
theorem zAD (b:Expr)(h:op ≠ .In:=by decide)(h2:op ≠ .NotIn:=by decide):behindInMarks op b=false:=by
 have e1:(op==CmpOp.In)=false:=by cases op <;> first | rfl | exact absurd rfl h
 have e2:(op==CmpOp.NotIn)=false:=by cases op <;> first | rfl | exact absurd rfl h2
 cases b <;> simp[behindInMarks,e1,e2]
theorem zBO {r:R2}(ho:OpR X (compareOp op) r)(ha:PE X a ta)(hb:PE X b tb)(hm:behindInMarks op b=false):PE X (.Compare a [op] [b] pos) (tOp r ta tb):=by
 intro pins s σ H Q I h
 exact wpAny_Compare1 (binT ha hb I h fun v u s2 x y H2 I2 rx ry q=>ho pins s2 σ H2 x y v u Q I2 rx ry q) hm
noncomputable def tTest (t:TE):TT:=fun σ H Q=>t σ H fun x H'=>∃k,x = .bl k/\Q k H'
theorem zAC {r:R2}(ho:OpR X (compareOp op) r)(ha:PE X a ta)(hb:PE X b tb)(hm:behindInMarks op b=false):PT X (.Compare a [op] [b] pos) (tTest (tOp r ta tb)):=by
 intro pins s σ H Q I h
 refine wpAny_isTrue_Compare1 (thn (ha pins s σ H _ I h) fun v s1 ⟨x,H1,I1,r1,q1⟩=>thn (hb pins s1 σ H1 _ I1 q1) fun u s2 ⟨y,H2,I2,r2,q2⟩=>
  thn (ho pins s2 σ H2 x y v u _ I2 r1 r2 q2) fun c s3 ⟨z,H3,I3,r3,k,e,q3⟩=>?_) hm
 subst e
 cases r3
 exact zA7 ⟨H3,I3,q3⟩
noncomputable def TruV (K:PySem.W.Frag)(x:V)(H:Hp)(k:Bool):Prop:=
 match x with
 | .non=>k=false
 | .bl b=>k=b
 | .int i=>k=(i != 0)
 | .str y=>y.length<=sizeLine/\k=((y.length:Int) != 0)
 | .byt y=>y.size<=sizeLine/\k=((y.size:Int) != 0)
 | .ref p=>(∃xs,SqL K H p xs/\k = !xs.isEmpty)\/(∃xs,SqT K H p xs/\k = !xs.isEmpty)\/∃kvs,H p=some (.dK kvs)/\k = !kvs.isEmpty
 | _=>False
theorem zHG {κ:Type}{kvs:List (κ×V)}{vs:List (κ×Value)}(r:KV kvs vs):(!vs.isEmpty) = !kvs.isEmpty:=by
 cases r <;> rfl
theorem zEZ {xs:List V}{its:List Value}(r:zBE xs its):(!its.toArray.isEmpty) = !xs.isEmpty:=by
 cases r <;> simp
theorem zFQ:(sizeLine:Nat)<2 ^ 63:=by rw[sizeLine_eq];decide
theorem tru_ok:TruR X (fun x H Q=>∃k,TruV X.K x H k/\Q k H):=by
 intro pins s σ H x v Q I rx h
 obtain⟨k,e,q⟩:=h
 have hl:=zFQ
 have hs:sizeLine=16777216:=sizeLine_eq
 cases x with
 | non=>
  cases rx
  have e':k=false:=e
  subst e'
  exact truthy_none ⟨H,I,q⟩
 | bl b=>
  cases rx
  have e':k=b:=e
  subst e'
  exact zA7 ⟨H,I,q⟩
 | int i=>
  obtain⟨t,rfl⟩:=rx
  have e':k=(i != 0):=e
  subst e'
  exact PySem.P.truthy_int ⟨H,I,q⟩
 | str y=>
  obtain⟨t,rfl⟩:=rx
  obtain⟨hy,e'⟩:y.length<=sizeLine/\k=((y.length:Int) != 0):=e
  subst e'
  exact PySem.P.truthy_str (by omega) ⟨H,I.tok _,q⟩
 | byt y=>
  obtain⟨t,rfl⟩:=rx
  obtain⟨hy,e'⟩:y.size<=sizeLine/\k=((y.size:Int) != 0):=e
  subst e'
  exact PySem.W.truthy_bytes (by omega) ⟨H,I.tok _,q⟩
 | ref p=>
  cases rx
  have e':(∃xs,SqL X.K H p xs/\k = !xs.isEmpty)\/(∃xs,SqT X.K H p xs/\k = !xs.isEmpty)\/∃kvs,H p=some (.dK kvs)/\k = !kvs.isEmpty:=e
  rcases e' with ⟨xs,hx,e'⟩ | ⟨xs,hx,e'⟩ | ⟨kvs,hx,e'⟩
  . subst e'
    obtain⟨its,r,pl,hz⟩:=I.list hx
    have hlen:=r.length
    exact wpAny_truthy_list pl.isList (by simp only[zT];omega) ⟨H,I.tok _,by rw[zEZ r];exact q⟩
  . subst e'
    obtain⟨its,r,pl,hz⟩:=I.tuple hx
    have hlen:=r.length
    exact truthy_tuple pl (by simp only[zT];omega) ⟨H,I.tok _,by rw[zEZ r];exact q⟩
  . subst e'
    obtain⟨hz,hS,vs,r,m⟩:kvs.length<=sizeLine/\(p==sysModules)=false/\∃vs,KV kvs vs/\s.heap.DictOf (zAf X.prog X.w) p vs:=I.hok p _ hx
    have hlen:kvs.length=vs.length:=Paired.length r
    exact wpAny_truthy_dict hS m (by omega) ⟨H,I.tok _,by rw[zHG r];exact q⟩
 | _=>exact (show False from e).elim
theorem zJX (ha:PE X a ta)(he:∀whole,isTrue a X.env whole=(do let v <-whole;standAt a.pos;holding [v] (truthy v))) :
 PT X a (fun σ H Q=>ta σ H fun x H'=>∃k,TruV X.K x H' k/\Q k H'):=by
 intro pins s σ H Q I h
 exact isTrue_plain (thn (ha pins s σ H _ I h) fun v s1 ⟨x,H1,I1,r1,q1⟩=>tru_ok pins s1 σ H1 x v Q I1 r1 q1) (he _)
theorem zCS {x:V}(r:zBE [x] us):∃u,us=[u]/\zBQ x u:=by
 cases r with
 | cons r1 r2=>cases r2;exact⟨_,rfl,r1⟩
theorem zJH {x:V}(r:zBE [x,y] us):∃u w',us=[u,w']/\zBQ x u/\zBQ y w':=by
 cases r with
 | cons r1 r2=>
  cases r2 with
  | cons r3 r4=>cases r4;exact⟨_,_,rfl,r1,r3⟩
theorem zIx (hc:X.calm=true):zCl X (.builtin "max") (fun xs H Q=>∃i j,xs=[.int i,.int j]/\Q (.int (if j > i then j else i)) H):=by
 intro pins s σ H xs us Q I r h
 obtain⟨i,j,rfl,q⟩:=h
 obtain⟨u,w',rfl,⟨t,rfl⟩,⟨t',rfl⟩⟩:=zJH r
 refine max_two_ints (I.ok.hd hc) fun h' tk k=>⟨_,H,I.kept k,?_,q⟩
 by_cases hj:j > i
 . rw[if_pos hj,if_pos hj];exact⟨_,rfl⟩
 . rw[if_neg hj,if_neg hj];exact⟨_,rfl⟩
theorem zFo (hc:X.calm=true):zCl X (.builtin "min") (fun xs H Q=>∃i j,xs=[.int i,.int j]/\Q (.int (if j<i then j else i)) H):=by
 intro pins s σ H xs us Q I r h
 obtain⟨i,j,rfl,q⟩:=h
 obtain⟨u,w',rfl,⟨t,rfl⟩,⟨t',rfl⟩⟩:=zJH r
 refine min_two_ints (I.ok.hd hc) fun h' tk k=>⟨_,H,I.kept k,?_,q⟩
 by_cases hj:j<i
 . rw[if_pos hj,if_pos hj];exact⟨_,rfl⟩
 . rw[if_neg hj,if_neg hj];exact⟨_,rfl⟩
theorem zIz:zCl X (.type "int") (fun xs H Q=>(∃i,xs=[.int i]/\Q (.int i) H)\/∃k,xs=[.bl k]/\Q (.int (if k then 1 else 0)) H):=by
 intro pins s σ H xs us Q I r h
 rcases h with ⟨i,rfl,q⟩ | ⟨k,rfl,q⟩
 . obtain⟨u,rfl,t,rfl⟩:=zCS r
   exact call_int_int ⟨.int i,H,I,⟨_,rfl⟩,q⟩
 . obtain⟨u,rfl,r1⟩:=zCS r
   cases r1
   exact call_int_bool ⟨.int (if k then 1 else 0),H,I.tok _,⟨_,rfl⟩,q⟩
end
structure ObjM (h:Heap)(x dx C:Addr)(mA:sOV):Prop where
 obj:h.get? x=some (PySem.W.instObj C dx)
 ns:h.Ns1 dx mA
 ne:dx≠x
theorem zIS {dx:Addr}{mA:sOV}(n:h.Ns1 dx mA):∃od,h.get? dx=some od/\∀name,PySem.W.lookIn name od=some (mA name):=by
 obtain⟨o,es,ep,ho,hd,hk,_,hm⟩:=n
 refine⟨o,ho,fun name=>?_⟩
 have e:=hm name
 unfold nsFind findBy at e
 rw[<-Array.find?_toList] at e
 unfold PySem.W.lookIn
 rw[hd]
 dsimp only
 split
 . rename_i y q
   rw[q] at e
   exact congrArg some e
 . rename_i q
   rw[q] at e
   have a:es.toList.any (·.refKey)=false:=by
    rw[List.any_eq_false]
    intro y hy
    obtain⟨z,t,hkey⟩:=hk y (Array.mem_toList_iff.mp hy)
    simp[DictEntry.refKey,hkey]
   have a':¬ es.toList.any (·.refKey)=true:=by rw[a];exact zh
   rw[if_neg a']
   exact congrArg some e
variable {C:Addr}
theorem ObjM.look {x dx:Addr}{mA:sOV}(I:ObjM h x dx C mA):∃od,PySem.W.InstAt h x (PySem.W.instObj C dx) C (some od)/\∀name,PySem.W.lookIn name od=some (mA name):=
 let ⟨od,ho,hl⟩:=zIS I.ns
 ⟨od,⟨I.obj,rfl,rfl,ho⟩,hl⟩
noncomputable def zHW (f:Str)(v:V):List (Str×V)->List (Str×V)
 | []=>[(f,v)]
 | (g,x)::r=>if g=f then (g,v)::r else (g,x)::zHW f v r
theorem zDs (f g:Str)(v:V):∀fs:List (Str×V),(zHW f v fs).lookup g=if g=f then some v else fs.lookup g
 | []=>by
  show List.lookup g [(f,v)]=_
  by_cases h:g=f
  . have hb:(g==f)=true:=beq_iff_eq.mpr h
    simp only[List.lookup,hb,if_pos h]
  . have hb:(g==f)=false:=beq_eq_false_iff_ne.mpr h
    simp only[List.lookup,hb,if_neg h]
 | (k,x)::r=>by
  have ih:=zDs f g v r
  rw[show zHW f v ((k,x)::r)=(if k=f then (k,v)::r else (k,x)::zHW f v r) from rfl]
  by_cases hk:k=f
  . rw[if_pos hk]
    by_cases h:g=k
    . have hb:(g==k)=true:=beq_iff_eq.mpr h
      simp only[List.lookup,hb,if_pos (h.trans hk)]
    . have hb:(g==k)=false:=beq_eq_false_iff_ne.mpr h
      simp only[List.lookup,hb,if_neg (fun e:g=f=>h (e.trans hk.symm))]
  . rw[if_neg hk]
    by_cases h:g=k
    . have hb:(g==k)=true:=beq_iff_eq.mpr h
      simp only[List.lookup,hb,if_neg (fun e:g=f=>hk (h.symm.trans e))]
    . have hb:(g==k)=false:=beq_eq_false_iff_ne.mpr h
      simp only[List.lookup,hb]
      exact ih
theorem zDx (f:Str)(v:V):∀fs:List (Str×V),f∈(zHW f v fs).map (·.1)/\∀g,g∈fs.map (·.1)->g∈(zHW f v fs).map (·.1)
 | []=>⟨by simp[zHW],fun g h=>by simp at h⟩
 | (k,x)::r=>by
  obtain⟨i1,i2⟩:=zDx f v r
  rw[show zHW f v ((k,x)::r)=(if k=f then (k,v)::r else (k,x)::zHW f v r) from rfl]
  by_cases hk:k=f
  . rw[if_pos hk]
    subst hk
    exact⟨by simp,fun g h=>by simpa using h⟩
  . rw[if_neg hk]
    refine⟨?_,fun g h=>?_⟩
    . rw[zAV]
      exact zc _ i1
    . rw[zAV] at h ⊢
      rcases zi.mp h with e | e
      . exact zi.mpr (.inl e)
      . exact zc _ (i2 g e)
theorem zE3.some_of {o:Option Value}(r:zE3 (some v) o):∃u,o=some u/\zBQ v u:=by
 cases o with
 | none=>exact (show False from r).elim
 | some u=>exact⟨u,rfl,r⟩
section
variable {P:Program}{w:World}{H H':Hp}{h h':Heap}{a C dx:Addr}{fs fs':List (Str×V)}
theorem zLW (hok:HOk P w H h)(e:H a=some (.ins C dx fs)):∃mA,ObjM h a dx C mA/\(∀f,zE3 (fs.lookup f) (mA f))/\PySem.Within mA (fs.map (·.1))/\fs.length<=1000/\H dx=some (.own a):=by
 obtain⟨d,z,ne,ob,mA,n,r,q⟩:=(show zBI P w H h a (.ins C dx fs) from hok a _ e)
 exact⟨mA,⟨ob,n,ne⟩,r,q,z,d⟩
end
structure Cls (K:PySem.W.Frag)(C:Addr):Prop where
 pg:PySem.W.plainGet K C Str.empty=true
 hd:PySem.W.hasDictIn K C=true
 po:PySem.W.plainOver K C=true
 sa:PySem.W.findIn K (.ref C) "__setattr__" = some (some (.builtin "object.__setattr__"))
theorem Cls.get (c:Cls K C)(f:Str):PySem.W.plainGet K C f=true:=c.pg
section
variable {X:Cx}{pins:lPO}{σ:St}{H:Hp}{s:Shared}{A:Around}{E:vSP}{Q:vSP}{c:Value}{b:Bool}
inductive zHT (K:PySem.W.Frag)(H:Hp):V->Value->Prop where
 | non:zHT K H .non (.type "NoneType")
 | bl (x:Bool):zHT K H (.bl x) (.type "bool")
 | int (i:Int):zHT K H (.int i) (.type "int")
 | str (x:Str):zHT K H (.str x) (.type "str")
 | flt (x:UInt64):zHT K H (.flt x) (.type "float")
 | lst {a:Addr}{xs:List V}(e:H a=some (.lst xs)):zHT K H (.ref a) (.type "list")
 | frz {a:Addr}{o:Obj}{xs:List V}(e:H a=some (.frz o (.lst xs))):zHT K H (.ref a) (.type "list")
 | tup {a:Addr}{xs:List V}(e:H a=some (.tup xs)):zHT K H (.ref a) (.type "tuple")
 | dK {a:Addr}{kvs:List (Key×V)}(e:H a=some (.dK kvs)):zHT K H (.ref a) (.type "dict")
 | dT {a:Addr}{kvs:List (List Key×V)}(e:H a=some (.dT kvs)):zHT K H (.ref a) (.type "dict")
 | ins {a C dx:Addr}{fs:List (Str×V)}(e:H a=some (.ins C dx fs))(cl:Cls K C)(ha:PySem.W.findIn K (.ref C) "__class__" = some (some (.builtin "object.__class__")))
  (hn:PySem.W.specialIn K (.builtin "object.__class__") "__get__" = some (some (.builtin "getset_descriptor.__get__"))) (htk:PySem.W.takesIn K (.builtin "object.__class__")=some true)
  (hm:PySem.W.mroIn K C (.type "object")=some true):zHT K H (.ref a) (.ref C)
theorem zIc {x:V}{t:Value}(I:Inv X pins σ H s)(rx:zBQ x u)(ty:zHT X.K H x t)(e:PySem.W.kitOne X.K t c=some b)(h:∀tk,Q (.bool b) { s with toks:=tk }) :
 wpAny (model X.prog X.w) A (call (.builtin "isinstance") [u,c]) Q E s:=by
 cases ty with
 | non=>cases (show u=Value.none from rx);exact PySem.W.kia_one PySem.W.kitx_none I.kIn True.intro e (fun z=>nomatch z) h
 | bl y=>cases (show u=Value.bool y from rx);exact PySem.W.kia_one PySem.W.kitx_bool I.kIn True.intro e (fun z=>nomatch z) h
 | int i=>obtain⟨t,q⟩:=(show ∃t,u=Value.int i t from rx);cases q;exact PySem.W.kia_one PySem.W.kitx_int I.kIn True.intro e (fun z=>nomatch z) h
 | str y=>obtain⟨t,q⟩:=(show ∃t,u=Value.str y t from rx);cases q;exact PySem.W.kia_one PySem.W.kitx_str I.kIn True.intro e (fun z=>nomatch z) h
 | flt y=>obtain⟨t,q⟩:=(show ∃t,u=Value.float y t from rx);cases q;exact PySem.W.kia_one PySem.W.kitx_float I.kIn True.intro e (fun z=>nomatch z) h
 | @lst a xs ea=>
  cases (show u=Value.ref a from rx)
  obtain⟨_,_,n,_,h1⟩:=(show zBI X.prog X.w H s.heap a (.lst xs) from I.hok a _ ea)
  exact PySem.W.kia_one PySem.W.kitx_list I.kIn ⟨_,h1,rfl⟩ e (fun z=>nomatch z) h
 | @frz a ob xs ea=>
  cases (show u=Value.ref a from rx)
  obtain⟨_,_,_,n,_,h1⟩:=(show zBI X.prog X.w H s.heap a (.frz ob (.lst xs)) from I.hok a _ ea)
  exact PySem.W.kia_one PySem.W.kitx_list I.kIn ⟨_,h1,rfl⟩ e (fun z=>nomatch z) h
 | @tup a xs ea=>
  cases (show u=Value.ref a from rx)
  obtain⟨_,_,_,p⟩:=(show zBI X.prog X.w H s.heap a (.tup xs) from I.hok a _ ea)
  obtain⟨o,h1,h2,_⟩:=p
  exact PySem.W.kia_one PySem.W.kitx_tuple I.kIn ⟨o,h1,h2⟩ e (fun z=>nomatch z) h
 | @dK a kvs ea=>
  cases (show u=Value.ref a from rx)
  obtain⟨_,_,vs,_,p⟩:=(show zBI X.prog X.w H s.heap a (.dK kvs) from I.hok a _ ea)
  obtain⟨o,es,ep,h1,h2,_⟩:=p
  exact PySem.W.kia_one PySem.W.kitx_dict I.kIn ⟨o,h1,h2.1⟩ e (fun z=>nomatch z) h
 | @dT a kvs ea=>
  cases (show u=Value.ref a from rx)
  obtain⟨_,_,xs,_,o,es,ep,h1,h2,_⟩:=(show zBI X.prog X.w H s.heap a (.dT kvs) from I.hok a _ ea)
  exact PySem.W.kia_one PySem.W.kitx_dict I.kIn ⟨o,h1,h2.1⟩ e (fun z=>nomatch z) h
 | @ins a C dx fs ea cl ha hn htk hm=>
  cases (show u=Value.ref a from rx)
  obtain⟨mA,O,_⟩:=zLW I.hok ea
  obtain⟨od,J,_⟩:=O.look
  exact PySem.W.kia_one (PySem.W.kitx_own (cl.get _) cl.hd ha hn htk hm) I.kIn J e (fun z=>nomatch z) h
end
structure zCa (k:Nat)(A:Around):Prop where
 hd:A.handled=none
 dp:A.depth+3*k+5<recursionLimit
 un:A.units+16*k+200<cLine
 gd:A.guards=some []
theorem zCa.mono {j k:Nat}(r:zCa k A)(h:j<=k):zCa j A:=⟨r.hd,by have:=r.dp;omega,by have:=r.un;omega,r.gd⟩
theorem zCa.deeper {k:Nat}(r:zCa (k+1) A)(env:Env):zCa k (A.deeper env):=
 ⟨r.hd,by have:=r.dp;show A.depth+1+3*k+5<_;omega,by have:=r.un;show A.units+3+16*k+200<_;omega,r.gd⟩
theorem zCa.in1 {k:Nat}(r:zCa (k+1) A):zCa k A.in1:=
 ⟨r.hd,by have:=r.dp;show A.depth+3*k+5<_;omega,by have:=r.un;show A.units+1+16*k+200<_;omega,r.gd⟩
theorem zHC {kw:List (Str×Value)}:(A.under (.builtin "type.__call__" ⟨.ref C::us,kw⟩)).depth=A.depth+1:=by
 first | rfl | simp[Around.under,Code.weight,Code.isCreation,Code.isGuard,Code.isCaller,Code.frames,Code.isFrame,guardIds]
theorem zHB {kw:List (Str×Value)}:(A.under (.builtin "type.__call__" ⟨.ref C::us,kw⟩)).units=A.units+1:=by
 first | rfl | simp[Around.under,Code.cUnits,Code.frames,Code.isFrame]
theorem zCa.make {k:Nat}(r:zCa (k+1) A)(C:Addr)(us:List Value)(kw:List (Str×Value)):zCa k (A.under (.builtin "type.__call__" ⟨.ref C::us,kw⟩)):=
 ⟨r.hd,by have:=r.dp;rw[zHC];omega,by have:=r.un;rw[zHB];omega,by first | exact r.gd | (simp[Around.under,Code.guards,Code.isGuard,guardIds,pushGuards];exact r.gd)⟩
theorem zCa.depth {k:Nat}(r:zCa k A):A.depth<recursionLimit:=by have:=r.dp;omega
theorem zCa.units {k:Nat}(r:zCa k A):A.units+64<cLine:=by have:=r.un;omega
theorem zCa.units0 {k:Nat}(r:zCa k A):A.units<cLine:=by have:=r.un;omega
noncomputable def tNil:TA:=fun _ H Q=>Q [] H
noncomputable def zJJ (ta:TE)(tr:TA):TA:=fun σ H Q=>ta σ H fun x H1=>tr σ H1 fun xs H2=>Q (x::xs) H2
section
variable {X:Cx}{e:Expr}{es:List Expr}{te:TE}{t:TA}{pos:Pos}
theorem zN:PA X [] tNil:=fun _ _ _ _ H Q I h=>Calls.spliced_nil ⟨[],H,I,.nil,h⟩
theorem zD (ha:PE X e te)(hr:PA X es t)(hs:starEach (e::es) X.env=(false,eval e X.env)::starEach es X.env:=by rfl):PA X (e::es) (zJJ te t):=by
 intro pos pins s σ H Q I h
 rw[hs]
 show wpAny _ _ (spliced ((false,eval e X.env)::backTo pos (starEach es X.env))) _ _ s
 refine Calls.spliced_cons (thn (ha pins s σ H _ I h) fun u s1 ⟨x,H1,I1,r1,q1⟩=>?_)
 exact thn (hr pos pins s1 σ H1 _ I1 q1) fun us s2 ⟨xs,H2,I2,r2,q2⟩=>⟨x::xs,H2,I2,.cons r1 r2,q2⟩
noncomputable def tTup (t:TA):TE:=fun σ H Q=>t σ H fun xs H1=>xs.length<=sizeLine/\∀p,H1 p=none->Q (.ref p) (upd H1 p (.tup xs))
noncomputable def tLst (t:TA):TE:=fun σ H Q=>t σ H fun xs H1=>xs.length<=sizeLine/\∀p,H1 p=none->Q (.ref p) (upd H1 p (.lst xs))
theorem zBC {x1} (h:PA X es t):PE X (.Tuple es x1 pos) (tTup t):=by
 intro pins s σ H Q I hq
 refine wpAny_Tuple_spliced (thn (h pos pins s σ H _ I hq) fun us s1 ⟨xs,H1,I1,r,z,q⟩=>⟨by rw[<-r.length];exact z,?_⟩)
 have hf:H1 s1.heap.objs.size=none:=I1.hok.fresh (zK _)
 refine⟨.ref s1.heap.objs.size,upd H1 s1.heap.objs.size (.tup xs),I1.laid (t':=s1.toks) (fun b u e=>zG _ e) (zK _) ?_,rfl,q _ hf⟩
 exact⟨⟨z,_,zR _ rfl,rfl⟩,us,r,⟨_,zR _ rfl,rfl,_,rfl⟩⟩
theorem zCE (h:PA X es t):PE X (.List es pos) (tLst t):=by
 intro pins s σ H Q I hq
 refine wpAny_List_spliced (thn (h pos pins s σ H _ I hq) fun us s1 ⟨xs,H1,I1,r,z,q⟩=>⟨by rw[<-r.length];exact z,?_⟩)
 have hf:H1 s1.heap.objs.size=none:=I1.hok.fresh (zK _)
 refine⟨.ref s1.heap.objs.size,upd H1 s1.heap.objs.size (.lst xs),I1.laid (t':=s1.toks) (fun b u e=>zG _ e) (zK _) ?_,rfl,q _ hf⟩
 exact⟨z,us,0,r,zR _ rfl⟩
end
noncomputable abbrev Sp:=List V->Hp->VK->XK->Prop
noncomputable abbrev CXT:=List Env->Hp->Shared->XK->Value->Shared->Prop
structure zLm (P:Program)(w:World)(K:PySem.W.Frag)(mg:sOV)(base:Heap)(A:Around)(outer:List Env)(s:Shared)(H:Hp):Prop where
 frames:A.frames=some outer
 mod:Mod K mg base
 bs:∀b o,base.get? b=some o->s.heap.get? b=some o/\H b=none
 bsz:base.objs.size<=s.heap.objs.size
 funs:s.heap.FunFrames base outer
 frf:∀b∈frs outer,H b=none
 hok:HOk P w H s.heap
 bare:AllBare s.gens
noncomputable def CE (outer:List Env)(P:Program)(w:World)(H:Hp)(s:Shared)(Q:VK)(u:Value)(s':Shared):Prop:=
 ∃v H',s'.os=s.os/\AllBare s'.gens/\Un (frs outer) [] H H' s.heap s'.heap/\HOk P w H' s'.heap/\zBQ v u/\Q v H'
noncomputable def CR (CX:CXT)(outer:List Env)(P:Program)(w:World)(H:Hp)(s:Shared)(Q:VK)(E:XK)(r:Result)(s':Shared):Prop:=
 match r with
 | .ok (.ret u)=>CE outer P w H s Q u s'
 | .ok _=>False
 | .error e=>CX outer H s E e s'
structure zAP (P:Program)(w:World)(K:PySem.W.Frag)(mg:sOV)(base:Heap)(CX:CXT)(k:Nat)(f:Addr)(fd:FuncData)(ps:List Str)(sp:Sp):Prop where
 len:∀vs H Q E,sp vs H Q E->vs.length=ps.length
 run:∀(A:Around)(outer:List Env)(s:Shared)(H:Hp)(args:Args)(us:List Value)(vs:List V)(Q:VK)(E:XK),zCa k A->zLm P w K mg base A outer s H->BindsTo s fd args (ps.zip us)->zBE vs us->sp vs H Q E ->
  codeAny (model P w) A (.call (.ref f) args) (CR CX outer P w H s Q E) s
theorem zAP.mono {P:Program}{w:World}{K:PySem.W.Frag}{mg:sOV}{base:Heap}{CX:CXT}{j k:Nat}{f:Addr}{fd:FuncData}{ps:List Str}{sp:Sp}(F:zAP P w K mg base CX j f fd ps sp)(h:j<=k) :
 zAP P w K mg base CX k f fd ps sp:=⟨F.len,fun A outer s H args us vs Q E hr=>F.run A outer s H args us vs Q E (hr.mono h)⟩
variable {base:Heap}{CX:CXT}{ps:List Str}
theorem zAP.imp {P:Program}{mg:sOV}{k:Nat}{f:Addr}{fd:FuncData}{sp sp':Sp}(F:zAP P w K mg base CX k f fd ps sp)
 (h:∀vs H Q E,sp' vs H Q E->sp vs H Q E):zAP P w K mg base CX k f fd ps sp':=
 ⟨fun vs H Q E q=>F.len vs H Q E (h _ _ _ _ q),fun A outer s H args us vs Q E hr he hb hv hs=>F.run A outer s H args us vs Q E hr he hb hv (h _ _ _ _ hs)⟩
theorem zLm.make {P:Program}{mg:sOV}{outer:List Env}(e:zLm P w K mg base A outer s H)(C:Addr)(us:List Value)(kw:List (Str×Value)) :
 zLm P w K mg base (A.under (.builtin "type.__call__" ⟨.ref C::us,kw⟩)) outer s H:=⟨by first | exact e.frames | (simpa [Around.under,Code.envs,Code.isFrame,pushEnvs] using e.frames),e.mod,e.bs,e.bsz,e.funs,e.frf,e.hok,e.bare⟩
section
variable {X:Cx}{pins:lPO}{σ:St}{H:Hp}{s s':Shared}
theorem Inv.env0 (I:Inv X pins σ H s):zLm X.prog X.w X.K X.mg X.base X.A X.stack s H:=
 ⟨I.ok.frames,I.ok.mod,I.bs,zAH I.ok.bsz I.sz,I.stack,I.stkFree,I.hok,I.bare⟩
theorem Inv.after {Q:VK}(I:Inv X pins σ H s)(h:CE X.stack X.prog X.w H s Q u s'):EP X pins σ Q u s':=by
 obtain⟨v,H',os,bare,un,hok,r,q⟩:=h
 obtain⟨hh,g,d,t,os'⟩:=s'
 obtain rfl:os'=s.os:=os
 exact⟨v,H',I.call (h':=hh) (g':=g) (d':=d) (t':=t) (ch:=[]) un hok bare (fun b z=>absurd z (by simp)),r,q⟩
end
noncomputable def tCall (sp:Sp)(dvs:List V)(E:XK)(t:TA):TE:=fun σ H Q=>t σ H fun vs H1=>sp (vs++dvs) H1 Q E
noncomputable def zCx (K:PySem.W.Frag)(fd:FuncData)(ps:List Str)(ds:List Value):Prop:=
 ∀(s:Shared)(us:List Value),K.In s.heap->(us++ds).length=ps.length->BindsTo s fd ⟨us,[]⟩ (ps.zip (us++ds))
theorem zCx.all {fd:FuncData}(h:∀us:List Value,us.length=ps.length->bindArgs fd ⟨us,[]⟩=pure (ps.zip us)):zCx K fd ps []:=fun s us _ hl=>by
 rw[zr] at hl ⊢
 exact .of_eq (h us hl)
noncomputable def zGq (CX:CXT)(X:Cx)(E:XK):Prop:=∀(pins:lPO)(σ:St)(H:Hp)(s:Shared)(e:Value)(s':Shared),Inv X pins σ H s->CX X.stack H s E e s'->X.xe e s'
section
variable {X:Cx}{CX:CXT}{k:Nat}{f C:Addr}{fd:FuncData}{ps:List Str}{sp:Sp}{dvs:List V}{ds:List Value}{E:XK}{x m:Str}{p pos apos:Pos}{e o:Expr}{es:List Expr}{ta:TE}{t:TA}
theorem run_fn {pins:lPO}{Q:VK}{vs:List V}(F:zAP X.prog X.w X.K X.mg X.base CX k f fd ps sp)(hr:zCa k X.A)(hb:zCx X.K fd ps ds)(hd:zBE dvs ds)(hx:zGq CX X E)
 (I:Inv X pins σ H s)(r:zBE vs us)(h:sp (vs++dvs) H Q E):wpAny (model X.prog X.w) X.A (call (.ref f) us) (EP X pins σ Q) X.xe s:=by
 have r2:zBE (vs++dvs) (us++ds):=r.append hd
 have hl:(us++ds).length=ps.length:=by rw[<-r2.length];exact F.len _ _ _ _ h
 refine zBZ (codeAny_mono (F.run X.A X.stack s H ⟨us,[]⟩ (us++ds) (vs++dvs) Q E hr I.env0 (hb s us I.kIn hl) r2 h) fun r s' hq=>?_)
 cases r with
 | error e=>exact hx pins σ H s e s' I hq
 | ok fl=>
  cases fl with
  | ret u=>exact I.after hq
  | next=>exact False.elim hq
  | brk=>exact False.elim hq
  | cont=>exact False.elim hq
theorem zCt (F:zAP X.prog X.w X.K X.mg X.base CX k f fd ps sp)(hr:zCa k X.A)(hg:Gl X x)(hm:X.mg x=some (.ref f))(hk:PySem.W.keepIn X.K (.ref f)=true)(hb:zCx X.K fd ps ds)(hd:zBE dvs ds)(hx:zGq CX X E)
 (ha:PA X (e::es) t)(hdb:(x==("__debug__" : Str))=false:=by decide) (he:starEach (e::es) X.env=(false,eval e X.env)::starEach es X.env:=by rfl)(hpl:(backTo pos (starEach es X.env)).any (·.1)=false:=by rfl) :
 PE X (.Call (.Name x p) (e::es) [] pos) (tCall sp dvs E t):=by
 intro pins s σ H Q I h
 refine zA0 (zDv I hg hm ?_ hdb)
 refine PySem.W.callWith_K (h₀:=X.base) I.ok.mod.kin hk (thn (ha pos pins s σ H _ I h) fun us s1 ⟨vs,H1,I1,r,q⟩=>⟨I1.kIn,?_⟩) he hpl
 exact run_fn F hr hb hd hx I1 r q
end
structure zw (N P:List Str)(sc:Scope):Prop where
 kind:sc.kind = .function
 co:sc.isCoroutine=false
 gen:sc.isGenerator=false
 nd:N.Nodup
 pre:N.take P.length=P
 par:∀x∈P,sc.names.lookup x=some .local\/sc.names.lookup x=some .cell
 nofree:∀y∈sc.names,y.2 ≠ .free
theorem fS0 {P:List Str}{sc:Scope}(a:sc.kind = .function:=by rfl)(b:sc.isCoroutine=false:=by rfl)(c:sc.isGenerator=false:=by rfl)(d:N.Nodup:=by decide +kernel)(e:N.take P.length=P:=by rfl)(f:∀x∈P,sc.names.lookup x=some .local\/sc.names.lookup x=some .cell:=by decide +kernel)(g:∀y∈sc.names,y.2 ≠ .free:=by decide +kernel):zw N P sc:=⟨a,b,c,d,e,f,g⟩
theorem zFq {kindOf:Str->Option NameKind}{x:Str}:∀{binds:List (Str×Value)}{m:sOV},(∀v,(x,v)∉binds)->bindL kindOf binds m x=m x
 | [],_,_=>rfl
 | (n,v)::r,m,h=>by
  unfold bindL
  rw[zFq fun w hw=>h w (zc _ hw)]
  split
  . have:x≠n:=by rintro rfl;exact h v zV
    simp[this]
  . rfl
theorem zFs {kindOf:Str->Option NameKind}{x:Str}:∀{binds:List (Str×Value)}{m:sOV},(∀v,(x,v)∉binds)->bindC kindOf binds m x=m x
 | [],_,_=>rfl
 | (n,v)::r,m,h=>by
  unfold bindC
  rw[zFs fun w hw=>h w (zc _ hw)]
  split
  . rfl
  . have:x≠n:=by rintro rfl;exact h v zV
    simp[this]
theorem zFr {kindOf:Str->Option NameKind}{x:Str}{v:Value}:∀{P:List Str}{vs:List Value}{i:Nat}{m:sOV},P.Nodup->P[i]? = some x->vs[i]? = some v->kindOf x=some .local ->
 bindL kindOf (P.zip vs) m x=some v
 | [],_,_,_,_,h,_,_=>by simp at h
 | _::_,[],_,_,_,_,h,_=>by simp at h
 | p::P,w::vs,0,m,nd,h1,h2,hk=>by
  simp at h1 h2;subst h1;subst h2
  show bindL kindOf ((p,w)::P.zip vs) m p=_
  unfold bindL
  rw[zFq fun v hv=>(zAl.mp nd).1 (List.of_mem_zip hv).1,if_pos hk]
  simp
 | p::P,w::vs,i+1,m,nd,h1,h2,hk=>by
  show bindL kindOf ((p,w)::P.zip vs) m x=_
  unfold bindL
  exact zFr (i:=i) (zAl.mp nd).2 (by simpa using h1) (by simpa using h2) hk
theorem zFt {kindOf:Str->Option NameKind}{x:Str}{v:Value}:∀{P:List Str}{vs:List Value}{i:Nat}{m:sOV},P.Nodup->P[i]? = some x->vs[i]? = some v->kindOf x≠some .local ->
 bindC kindOf (P.zip vs) m x=some v
 | [],_,_,_,_,h,_,_=>by simp at h
 | _::_,[],_,_,_,_,h,_=>by simp at h
 | p::P,w::vs,0,m,nd,h1,h2,hk=>by
  simp at h1 h2;subst h1;subst h2
  show bindC kindOf ((p,w)::P.zip vs) m p=_
  unfold bindC
  rw[zFs fun v hv=>(zAl.mp nd).1 (List.of_mem_zip hv).1,if_neg hk]
  simp
 | p::P,w::vs,i+1,m,nd,h1,h2,hk=>by
  show bindC kindOf ((p,w)::P.zip vs) m x=_
  unfold bindC
  exact zFt (i:=i) (zAl.mp nd).2 (by simpa using h1) (by simpa using h2) hk
noncomputable def start (N:List Str)(vs:List V):St:=vs.map some++List.replicate (N.length-vs.length) none
noncomputable def zGm (CX:CXT)(P:Program)(w:World)(K:PySem.W.Frag)(mg:sOV)(base:Heap)(N:List Str)(qual:Str)(scope:Scope)(f:Addr)(cd:Value)(A:Around)(outer:List Env)(s:Shared)(H:Hp)(E:XK):Cx where
 prog:=P
 w:=w
 K:=K
 mg:=mg
 base:=base
 A:=A.deeper (envOfC qual scope s.heap.objs.size f cd)
 N:=N
 s₀:=s
 H₀:=H
 env:=envOfC qual scope s.heap.objs.size f cd
 outer:=outer
 stack:=envOfC qual scope s.heap.objs.size f cd::outer
 ex:=[]
 calm:=true
 fn:=fun _=>true
 pn:=[]
 xe:=fun e s'=>wpAny (model P w) (A.deeper (envOfC qual scope s.heap.objs.size f cd)) (leaving (envOfC qual scope s.heap.objs.size f cd) e) (fun _ s''=>CX outer H s E e s'') (fun e' s''=>CX outer H s E e' s'') s'
theorem zGo {sc:Scope}(h:sc.names.lookup x=some .cell):∃c,(cellsFrom n sc.names []).lookup x=some c:=by
 have q:=PySem.W.cellsFrom_some sc.names n [] (.inl h)
 exact zBh.mp q
theorem zId {P:Program}{mg:sOV}{qual:Str}{scope:Scope}{f:Addr}{cd:Value}{outer:List Env}{s1:Shared}{E:XK}{vs:List V}
 (S:zw N ps scope)(hd:A.handled=none)(e0:zLm P w K mg base A outer s H)(hl:vs.length=ps.length)(r:zBE vs us)
 (x:InCallC s s.heap.objs.size (bindL (envOfC qual scope s.heap.objs.size f cd).kindOf (ps.zip us) fun _=>none) (cellsFrom (s.heap.objs.size+1) scope.names []) (bindC (envOfC qual scope s.heap.objs.size f cd).kindOf (ps.zip us) fun _=>none) s1) :
 Inv (zGm CX P w K mg base N qual scope f cd A outer s H E) [] (start N vs) H s1:=by
 have hpl:ps.length<=N.length:=by have:=congrArg List.length S.pre;rw[zk] at this;omega
 obtain⟨h1,tk,rfl,hk⟩:=x.done
 have noA:∀b:Addr,b∉(zGm CX P w K mg base N qual scope f cd A outer s H E).ex:=fun b z=>absurd (show b∈([]:List Addr) from z) (by simp)
 refine⟨⟨e0.mod,S.kind,rfl,rfl,zK _,fun y z c h1 h2=>?_,fun y hy=>?_,fun y c _ h=>?_,fun _=>hd,Around.frames_deeper e0.frames,.inr ⟨rfl,rfl⟩,fun b z=>absurd z (noA b),e0.bs,e0.bsz,fun b _ _=>noA b,fun b z=>absurd z (noA b),e0.funs,e0.frf⟩,
  rfl,e0.bare,Un.kept hk,⟨_,x.toInCall.ns,fun i y v h1 h2 h3=>?_⟩,fun y c h=>⟨_,x.cell y c h⟩,e0.hok.fresh (zK _),fun y c h=>?_,fun p hp=>absurd (show p∈([]:lPO) from hp) (by simp),e0.hok.kept hk,?_⟩
 . exact name_of_addr x.apart (PySem.mem_of_lookup h1) (PySem.mem_of_lookup h2)
 . have hy:scope.names.lookup y=some .cell\/scope.names.lookup y=some .free:=hy
   rcases hy with hy | hy
   . exact zGo hy
   . exact absurd rfl (S.nofree _ (PySem.mem_of_lookup hy))
 . exact zAw (x.above y c (PySem.mem_of_lookup h))
 . have hi:i<vs.length:=by
    unfold start at h2
    by_cases hi:i<vs.length
    . exact hi
    . rw[zQ (by simpa using hi)] at h2
      rw[zBJ] at h2
      split at h2 <;> cases h2
   have ha:vs[i]? = some v:=by
    unfold start at h2
    rw[zW (by simpa using hi),zM] at h2
    cases e:vs[i]? with
    | none=>rw[e] at h2;cases h2
    | some a=>rw[e] at h2;cases h2;rfl
   obtain⟨u,hu,rv⟩:=r.get ha
   have hp:ps[i]? = some y:=by
    rw[<-S.pre,List.getElem?_take_of_lt (by omega)];exact h1
   have ndP:ps.Nodup:=by rw[<-S.pre];exact S.nd.sublist (List.take_sublist _ _)
   refine⟨u,rv,?_⟩
   rcases S.par y (zO hp) with k | k
   . exact .inl ⟨k,zFr ndP hp hu k⟩
   . obtain⟨c,e⟩:=zGo (n:=s.heap.objs.size+1) k
     refine .inr ⟨.inl k,c,e,?_⟩
     have q:=x.cell y c e
     rw[zFt ndP hp hu (by show scope.names.lookup y≠_;rw[k];decide)] at q
     exact q
 . exact e0.hok.fresh (zAw (x.above y c (PySem.mem_of_lookup h)))
 . unfold start
   show _=N.length
   rw[zL,zC,zAB]
   omega
theorem zLc {P:Program}{mg:sOV}{k:Nat}{f:Addr}{name qual:Str}{params:Arguments}{scope:Scope}{dV kV doc pm cdv ct oc:Value}{an od:Option Addr}
 {osl:Array (Option Value)}{sp:Sp}(lk:K.lookup f=some ⟨oc,od,.func (PySem.W.fnOf name qual params body scope dV kV doc pm an cdv ct),osl⟩)(hcd:PySem.W.codeIn K cdv qual=true)(S:zw N ps scope)
 (len:∀vs H Q E,sp vs H Q E->vs.length=ps.length)
 (hbody:∀(A:Around)(outer:List Env)(s:Shared)(H:Hp)(vs:List V)(Q:VK)(E:XK),zCa k (A.deeper (envOfC qual scope s.heap.objs.size f cdv))->sp vs H Q E ->
  ∃t,PSs (zGm CX P w K mg base N qual scope f cdv A outer s H E) body t/\t { nx:=fun _ H'=>Q .non H',rt:=Q } (start N vs) H) :
 zAP P w K mg base CX (k+1) f (PySem.W.fnOf name qual params body scope dV kV doc pm an cdv ct) ps sp:=by
 refine⟨len,fun A outer s H args us vs Q E hr e0 hb r hsp=>?_⟩
 have hl:=len _ _ _ _ hsp
 have KX:K.In s.heap:=e0.mod.kin.keeps fun b o e=>(e0.bs b o e).1
 have lim:s.heap.NoLimit:=e0.mod.nolimit.keeps fun b o e=>(e0.bs b o e).1
 have hkind:∀y∈ps.zip us,scope.names.lookup y.1=some .local\/(scope.names.lookup y.1=some .cell/\((cellsFrom (s.heap.objs.size+1) scope.names []).lookup y.1).isSome=true):=fun ⟨n,v⟩ hy=>by
  rcases S.par n (List.of_mem_zip hy).1 with q | q
  . exact .inl q
  . exact .inr ⟨q,PySem.W.cellsFrom_some _ _ _ (.inl q)⟩
 refine codeAny_call_function hr.depth (KX _ _ lk) rfl S.co S.gen rfl (PySem.W.codeRec_of KX hcd) (hb _ _ _ _ ?_)
 refine wpAny_newFunctionEnv_cells S.kind hkind fun env he s1 x=>?_
 subst he
 refine⟨lim.keeps x.toInCall.keep,codeAny_func ?_⟩
 obtain⟨t,ht,hq⟩:=hbody A outer s H vs Q E (hr.deeper _) hsp
 have I:Inv (zGm CX P w K mg base N qual scope f cdv A outer s H E) [] (start N vs) H s1:=zId S hr.hd e0 hl r x
 refine zAM (ht [] s1 (start N vs) H _ I hq) (fun fl s' hs=>?_) fun e s' hs=>hs
 have fin:∀{σ':St}{H':Hp}{v:V}{u:Value},Inv (zGm CX P w K mg base N qual scope f cdv A outer s H E) [] σ' H' s'->zBQ v u->Q v H'->CE outer P w H s Q u s':=
  fun {σ' H' v u} J rv q=>⟨v,H',J.os,J.bare,J.base,J.hok,rv,q⟩
 cases fl with
 | ret u=>
  obtain⟨v,σ',H',J,rv,q⟩:=hs
  exact fin J rv q
 | next=>
  obtain⟨σ',H',J,q⟩:=hs
  exact fin (v:=V.non) (u:=Value.none) J rfl q
 | brk=>
  obtain⟨_,_,_,q⟩:=hs
  exact False.elim q
 | cont=>
  obtain⟨_,_,_,q⟩:=hs
  exact False.elim q
section
variable {X:Cx}{x:Str}{p pos:Pos}{e:Expr}{es:List Expr}{t:TA}{id T:String}{r:List V->Hp->VK->Prop}
noncomputable def tCB (r:List V->Hp->VK->Prop)(t:TA):TE:=fun σ H Q=>t σ H fun vs H1=>r vs H1 Q
theorem zAa (hc:zCl X (.builtin id) r)(hm:X.mg x=none)(ha:PA X (e::es) t)(hg:Gl X x:=by rfl)(hv:bootBuiltins x=some (.builtin id):=by decide +kernel)(hn:x ≠ "__name__" := by decide) (hdb:(x==("__debug__" : Str))=false:=by decide)
 (he:starEach (e::es) X.env=(false,eval e X.env)::starEach es X.env:=by rfl)(hpl:(backTo pos (starEach es X.env)).any (·.1)=false:=by rfl):PE X (.Call (.Name x p) (e::es) [] pos) (tCB r t):=by
 intro pins s σ H Q I h
 refine zA0 (zCe I hg hm hv ?_ hn hdb)
 exact PyProof.Rows.callWith_builtin1 (thn (ha pos pins s σ H _ I h) fun us s1 ⟨vs,H1,I1,r1,q1⟩=>hc pins s1 σ H1 vs us Q I1 r1 q1) he hpl
theorem zAm (hc:zCl X (.type T) r)(hm:X.mg x=none)(ha:PA X (e::es) t)(hg:Gl X x:=by rfl)(hv:bootBuiltins x=some (.type T):=by decide +kernel)(hn:x ≠ "__name__" := by decide) (hdb:(x==("__debug__" : Str))=false:=by decide)
 (he:starEach (e::es) X.env=(false,eval e X.env)::starEach es X.env:=by rfl)(hpl:(backTo pos (starEach es X.env)).any (·.1)=false:=by rfl):PE X (.Call (.Name x p) (e::es) [] pos) (tCB r t):=by
 intro pins s σ H Q I h
 refine zA0 (zCe I hg hm hv ?_ hn hdb)
 exact PyProof.Rows.callWith_type1 (thn (ha pos pins s σ H _ I h) fun us s1 ⟨vs,H1,I1,r1,q1⟩=>hc pins s1 σ H1 vs us Q I1 r1 q1) he hpl
end
section
variable {κ:Type} [DecidableEq κ]
noncomputable def zCA (kvs:List (κ×V))(k:κ):Option V:=(kvs.find? fun kv=>decide (kv.1=k)).map (·.2)
noncomputable def zCT (kvs:List (κ×V))(k:κ)(v:V):List (κ×V):=
 if (kvs.any fun kv=>decide (kv.1=k))=true then kvs.map (fun kv=>if kv.1=k then (kv.1,v) else kv) else kvs++[(k,v)]
noncomputable def zCM (kvs:List (κ×V))(k:κ):List (κ×V):=kvs.filter fun kv=>decide (kv.1≠k)
theorem zEf {k:κ}:zCA ([]:List (κ×V)) k=none:=rfl
theorem zBW {p:κ×V}{r:List (κ×V)}{k:κ}(e:p.1=k):zCA (p::r) k=some p.2:=by simp[zCA,zBj,e]
theorem zBM {p:κ×V}{r:List (κ×V)}{k:κ}(e:¬ p.1=k):zCA (p::r) k=zCA r k:=by simp[zCA,zBj,e]
theorem zB5 (k:κ):∀kvs:List (κ×V),(kvs.any fun kv=>decide (kv.1=k))=(zCA kvs k).isSome
 | []=>rfl
 | p::r=>by
  rw[List.any_cons]
  by_cases e:p.1=k
  . simp only[zBW e,zU e,Bool.true_or,Option.isSome_some]
  . rw[zBM e,zl e,Bool.false_or];exact zB5 k r
theorem zGK (k j:κ)(y:V):∀kvs:List (κ×V),zCA (kvs.map fun kv=>if kv.1=k then (kv.1,y) else kv) j=(zCA kvs j).map fun x=>if j=k then y else x
 | []=>rfl
 | p::r=>by
  have ih:=zGK k j y r
  rw[zAV]
  by_cases h:p.1=k
  . rw[if_pos h]
    by_cases e:p.1=j
    . rw[zBW (p:=(p.1,y)) e,zBW e,zAk,if_pos (e.symm.trans h)]
    . rw[zBM (p:=(p.1,y)) e,zBM e,ih]
  . rw[if_neg h]
    by_cases e:p.1=j
    . rw[zBW (p:=p) e,zBW e,zAk,if_neg (fun z=>h (e.trans z))]
    . rw[zBM (p:=p) e,zBM e,ih]
theorem zE5 (k j:κ)(y:V):∀kvs:List (κ×V),zCA kvs k=none->zCA (kvs++[(k,y)]) j=if j=k then some y else zCA kvs j
 | [],_=>by
  by_cases e:k=j
  . rw[if_pos e.symm];exact zBW (p:=(k,y)) e
  . rw[if_neg (fun z=>e z.symm)];exact zBM (p:=(k,y)) e
 | p::r,hn=>by
  rw[List.cons_append]
  have hk:¬ p.1=k:=fun z=>by rw[zBW z] at hn;cases hn
  rw[zBM hk] at hn
  have ih:=zE5 k j y r hn
  by_cases e:p.1=j
  . rw[zBW e,zBW e,if_neg (fun z=>hk (e.trans z))]
  . rw[zBM e,zBM e,ih]
theorem zEe (kvs:List (κ×V))(k j:κ)(y:V):zCA (zCT kvs k y) j=if j=k then some y else zCA kvs j:=by
 unfold zCT
 by_cases a:(kvs.any fun kv=>decide (kv.1=k))=true
 . rw[if_pos a,zGK]
   rw[zB5] at a
   by_cases e:j=k
   . obtain⟨x,hx⟩:=zBh.mp a
     rw[if_pos e,e,hx,zAk,if_pos rfl]
   . rw[if_neg e]
     cases zCA kvs j with
     | none=>rfl
     | some x=>rw[zAk,if_neg e]
 . rw[if_neg a]
   refine zE5 k j y kvs ?_
   rw[zB5] at a
   cases q:zCA kvs k with
   | none=>rfl
   | some x=>rw[q] at a;exact (a rfl).elim
theorem zBd (kvs:List (κ×V))(k:κ)(v:V):(zCT kvs k v).length<=kvs.length+1:=by
 unfold zCT
 split
 . rw[zC];omega
 . rw[zL,zp,zBi];omega
theorem zGW {kvs:List (κ×V)}{k:κ}(v:V)(h:zCA kvs k=none):zCT kvs k v=kvs++[(k,v)]:=by
 unfold zCT
 rw[zB5,h]
 exact if_neg (by decide)
theorem zE3.isSome_eq {o:Option V}{u:Option Value}(r:zE3 o u):o.isSome=u.isSome:=by
 cases o with
 | none=>cases u with
  | none=>rfl
  | some _=>exact (show False from r).elim
 | some _=>cases u with
  | none=>exact (show False from r).elim
  | some _=>rfl
theorem zE3.getD {o:Option V}{u:Option Value}{d:V}{d':Value}(r:zE3 o u)(rd:zBQ d d'):zBQ (o.getD d) (u.getD d'):=by
 cases o with
 | none=>cases u with
  | none=>exact rd
  | some _=>exact (show False from r).elim
 | some _=>cases u with
  | none=>exact (show False from r).elim
  | some _=>exact r
theorem KV.val {kvs:List (κ×V)}{vs:List (κ×Value)}(r:KV kvs vs)(k:κ):zE3 (zCA kvs k) (valueAt vs k):=by
 unfold KV at r
 induction r with
 | nil=>exact True.intro
 | @cons p q ps qs h t ih=>
  obtain⟨h1,h2⟩:=h
  by_cases e:p.1=k
  . have e':q.1=k:=h1.symm.trans e
    have b:valueAt (q::qs) k=some q.2:=by simp[valueAt,zBj,e']
    rw[zBW e,b];exact h2
  . have e':¬ q.1=k:=fun z=>e (h1.trans z)
    have b:valueAt (q::qs) k=valueAt qs k:=by simp[valueAt,zBj,e']
    rw[zBM e,b];exact ih
theorem KV.any {kvs:List (κ×V)}{vs:List (κ×Value)}(r:KV kvs vs)(k:κ):(kvs.any fun kv=>decide (kv.1=k))=vs.any fun kv=>decide (kv.1=k):=by
 unfold KV at r
 induction r with
 | nil=>rfl
 | cons h t ih=>rw[List.any_cons,List.any_cons,ih,h.1]
theorem KV.repl {kvs:List (κ×V)}{vs:List (κ×Value)}(r:KV kvs vs)(k:κ)(ry:zBQ y u) :
 KV (kvs.map fun kv=>if kv.1=k then (kv.1,y) else kv) (vs.map fun kv=>if kv.1=k then (kv.1,u) else kv):=by
 unfold KV at r ⊢
 induction r with
 | nil=>exact .nil
 | @cons p q ps qs h t ih=>
  rw[zAV,zAV]
  refine .cons ?_ ih
  obtain⟨h1,h2⟩:=h
  by_cases e:p.1=k
  . rw[if_pos e,if_pos (h1.symm.trans e)];exact⟨h1,ry⟩
  . rw[if_neg e,if_neg (fun z=>e (h1.trans z))];exact⟨h1,h2⟩
theorem KV.put {kvs:List (κ×V)}{vs:List (κ×Value)}(r:KV kvs vs)(k:κ)(ry:zBQ y u):KV (zCT kvs k y) (stored vs k u):=by
 unfold zCT stored
 rw[r.any k]
 by_cases e:(vs.any fun kv=>decide (kv.1=k))=true
 . rw[if_pos e,if_pos e];exact r.repl k ry
 . rw[if_neg e,if_neg e];exact Paired.snoc r ⟨rfl,ry⟩
theorem KV.drop {kvs:List (κ×V)}{vs:List (κ×Value)}(r:KV kvs vs)(k:κ):KV (zCM kvs k) (without vs k):=by
 unfold KV at r ⊢
 unfold zCM without
 induction r with
 | nil=>exact .nil
 | @cons p q ps qs h t ih=>
  obtain⟨h1,h2⟩:=h
  rw[zBu,zBu]
  by_cases e:p.1=k
  . have a:¬ decide (p.1≠k)=true:=by simp[e]
    have b:¬ decide (q.1≠k)=true:=by simp[h1.symm.trans e]
    rw[if_neg a,if_neg b];exact ih
  . have e':¬ q.1=k:=fun z=>e (h1.trans z)
    have a:decide (p.1≠k)=true:=by simp[e]
    have b:decide (q.1≠k)=true:=by simp[e']
    rw[if_pos a,if_pos b];exact .cons ⟨h1,h2⟩ ih
theorem KV.length {kvs:List (κ×V)}{vs:List (κ×Value)}(r:KV kvs vs):kvs.length=vs.length:=Paired.length r
theorem zJ1 (kvs:List (κ×V))(k:κ):(zCM kvs k).length<=kvs.length:=zAJ _ _
end
theorem zEu {P:Program}{k:Key}(r:zBQ (kV k) u):(zAf P w).is k u=true:=by
 cases k with
 | inl i=>obtain⟨t,e⟩:=(show ∃t,u=Value.int i t from r);subst e;exact zF6 P w i t
 | inr x=>obtain⟨t,e⟩:=(show ∃t,u=Value.str x t from r);subst e;exact zF5 P w x t
theorem zFV {P:Program}{w:World}:∀{ks:List Key}{us:List Value},zBE (ks.map kV) us->ItemsAre (zAf P w) ks us
 | [],_,r=>by rw[List.map_nil] at r;cases r;exact .nil
 | k::ks,_,r=>by
  rw[zAV] at r
  cases r with
  | cons h t=>exact .cons (zEu h) (zFV t)
noncomputable abbrev KT (H:Hp):List (List Key×V)->List (List Key×Addr×Value)->Prop:=Paired fun p q=>p.1=q.1/\H q.2.1=some (.tup (p.1.map kV))/\zBQ p.2 q.2.2
variable {xs:List (List Key×Addr×Value)}{kvs:List (List Key×V)}
theorem KT.val (r:KT H kvs xs)(k:List Key):zE3 (zCA kvs k) ((atKey xs k).map (·.2)):=by
 induction r with
 | nil=>exact True.intro
 | @cons p q ps qs h t ih=>
  obtain⟨h1,_,h2⟩:=h
  by_cases e:p.1=k
  . have e':q.1=k:=h1.symm.trans e
    have b:atKey (q::qs) k=some q.2:=by simp[atKey,zBj,e']
    rw[zBW e,b];exact h2
  . have e':¬ q.1=k:=fun z=>e (h1.trans z)
    have b:atKey (q::qs) k=atKey qs k:=by simp[atKey,zBj,e']
    rw[zBM e,b];exact ih
theorem KT.repl (r:KT H kvs xs)(k:List Key)(ry:zBQ y u) :
 KT H (kvs.map fun kv=>if kv.1=k then (kv.1,y) else kv) (xs.map (putAt k u)):=by
 induction r with
 | nil=>exact .nil
 | @cons p q ps qs h t ih=>
  rw[zAV,zAV]
  refine .cons ?_ ih
  obtain⟨h1,h2,h3⟩:=h
  unfold putAt
  by_cases e:p.1=k
  . rw[if_pos e,if_pos (h1.symm.trans e)];exact⟨h1,h2,ry⟩
  . rw[if_neg e,if_neg (fun z=>e (h1.trans z))];exact⟨h1,h2,h3⟩
theorem KT.put (r:KT H kvs xs)(k:List Key)(hb:H b=some (.tup (k.map kV)))(ry:zBQ y u) :
 KT H (zCT kvs k y) (storedH xs k b u):=by
 have e:(kvs.any fun kv=>decide (kv.1=k))=(atKey xs k).isSome:=by
  rw[zB5,(r.val k).isSome_eq,Option.isSome_map]
 unfold zCT storedH
 rw[e]
 by_cases q:(atKey xs k).isSome=true
 . rw[if_pos q,if_pos q];exact r.repl k ry
 . rw[if_neg q,if_neg q];exact Paired.snoc r ⟨rfl,hb,ry⟩
theorem KT.keeps (r:KT H kvs xs)(ht:∀b ys,H b=some (.tup ys)->H' b=some (.tup ys)):KT H' kvs xs:=
 Paired.mapP r fun _ _ z=>⟨z.1,ht _ _ z.2.1,z.2.2⟩
section
variable {P:Program}{w:World}{H:Hp}{h:Heap}{a:Addr}
theorem rd_of {u:HO}(ok:HOk P w H h)(e:Rd H a u):zBI P w H h a u:=e.ok ok
theorem zHL {kvs:List (Key×V)}(ok:HOk P w H h)(e:Rd H a (.dK kvs)):kvs.length<=sizeLine/\(a==sysModules)=false/\∃vs,KV kvs vs/\h.DictOf (zAf P w) a vs:=
 show zBI P w H h a (.dK kvs) from rd_of ok e
theorem zIl {kvs:List (Key×V)}(ok:HOk P w H h)(e:H a=some (.dK kvs)):kvs.length<=sizeLine/\(a==sysModules)=false/\∃vs,KV kvs vs/\h.DictOf (zAf P w) a vs:=zHL ok (.inl e)
theorem zFT {ks:List Key}(ok:HOk P w H h)(e:H a=some (.tup (ks.map kV))):(tupleKind (zAf P w)).is h ks a:=by
 obtain⟨_,its,r,o,h1,h2,n,h3⟩:=(show zBI P w H h a (.tup (ks.map kV)) from ok a _ e)
 exact⟨o,its.toArray,n,h1,h2,h3,by simpa using zFV r⟩
theorem zHK (ok:HOk P w H h)(e:Rd H a (.dT kvs)):kvs.length<=sizeLine/\(a==sysModules)=false /\
 ∃xs,KT H kvs xs/\h.DictOfH (tupleKind (zAf P w)) a xs:=by
 obtain⟨z,y,xs,r,o,es,ep,h1,h2,h3,h4,h5⟩:=(show zBI P w H h a (.dT kvs) from rd_of ok e)
 refine⟨z,y,xs,r,o,es,ep,h1,h2,h3,h4,fun x hx=>?_,h5⟩
 have all:∀{l:List (List Key×V)}{m:List (List Key×Addr×Value)},KT H l m->∀x∈m,(tupleKind (zAf P w)).is h x.1 x.2.1:=by
  intro l m q
  induction q with
  | nil=>intro x hx;exact nomatch hx
  | @cons p q ps qs hq t ih=>
   intro x hx
   rcases zi.mp hx with e | hx
   . subst e
     exact zFT ok (by rw[<-hq.1];exact hq.2.1)
   . exact ih x hx
 exact all r x hx
theorem dt_of (ok:HOk P w H h)(e:H a=some (.dT kvs)):kvs.length<=sizeLine/\(a==sysModules)=false /\
 ∃xs,KT H kvs xs/\h.DictOfH (tupleKind (zAf P w)) a xs:=zHK ok (.inl e)
end
noncomputable def zFw (H:Hp)(a:Addr)(y:V)(r:Option V):Prop:=
 (∃kvs k,Rd H a (.dK kvs)/\y=kV k/\r=zCA kvs k)\/∃kvs k b,Rd H a (.dT kvs)/\y = .ref b/\H b=some (.tup (k.map kV))/\r=zCA kvs k
noncomputable def zI8 (H:Hp)(a:Addr)(y v:V)(H':Hp):Prop:=
 (∃kvs k,H a=some (.dK kvs)/\y=kV k/\kvs.length<sizeLine/\H'=upd H a (.dK (zCT kvs k v))) \/
 ∃kvs k b,H a=some (.dT kvs)/\y = .ref b/\H b=some (.tup (k.map kV))/\kvs.length<sizeLine/\H'=upd H a (.dT (zCT kvs k v))
theorem zFw.k {kvs:List (Key×V)}{k:Key}(e:H a=some (.dK kvs)):zFw H a (kV k) (zCA kvs k):=.inl ⟨kvs,k,.inl e,rfl,rfl⟩
theorem zFw.t {k:List Key}(e:H a=some (.dT kvs))(eb:H b=some (.tup (k.map kV))):zFw H a (.ref b) (zCA kvs k):=.inr ⟨kvs,k,b,.inl e,rfl,eb,rfl⟩
theorem zI8.k {kvs:List (Key×V)}{k:Key}(e:H a=some (.dK kvs))(hl:kvs.length<sizeLine):zI8 H a (kV k) v (upd H a (.dK (zCT kvs k v))):=.inl ⟨kvs,k,e,rfl,hl,rfl⟩
theorem zI8.t {k:List Key}(e:H a=some (.dT kvs))(eb:H b=some (.tup (k.map kV)))(hl:kvs.length<sizeLine) :
 zI8 H a (.ref b) v (upd H a (.dT (zCT kvs k v))):=.inr ⟨kvs,k,b,e,rfl,eb,hl,rfl⟩
section
variable {X:Cx}{pins:lPO}{σ:St}{H:Hp}{s:Shared}{a:Addr}{y v:V}{u r:Value}{o:Option V}{A:Around}{E:vSP}
theorem Inv.big (I:Inv X pins σ H s):sysModules<s.heap.objs.size:=by
 have h:mainGlobals<s.heap.objs.size:=(I.mod.glob.keeps I.bk).lt
 exact Nat.lt_trans (by decide) h
theorem zIr {Q:vSP}(hu:A.units+1<cLine)(I:Inv X pins σ H s)(g:zFw H a y (some v))(ry:zBQ y u)(h:∀w' s',Inv X pins σ H s'->zBQ v w'->Q w' s') :
 wpAny (model X.prog X.w) A (getItem (.ref a) u) Q E s:=by
 rcases g with ⟨kvs,k,e,ey,l⟩ | ⟨kvs,k,b,e,ey,eb,l⟩
 . subst ey
   obtain⟨z,hd,vs,rel,dd⟩:=zHL I.hok e
   obtain⟨w',hw,rw'⟩:=zE3.some_of (v:=v) (o:=valueAt vs k) (by rw[l];exact rel.val k)
   exact wpAny_getItem_of (zEu ry) dd.mapOf hw (h w' _ (I.tok _) rw')
 . subst ey
   cases (show u=Value.ref b from ry)
   obtain⟨z,hd,xs,rel,dd⟩:=zHK I.hok e
   obtain⟨w',hw,rw'⟩:=zE3.some_of (v:=v) (o:=(atKey xs k).map (·.2)) (by rw[l];exact rel.val k)
   obtain⟨p,hp,hp2⟩:=Option.map_eq_some_iff.mp hw
   refine wpAny_getItem_heap (tupleKind_room_in1 hu) (zFT I.hok eb) dd hp ?_
   rw[hp2]
   exact h w' _ (I.tok _) rw'
theorem d_in {Q:vSP}(hu:A.units+1<cLine)(I:Inv X pins σ H s)(g:zFw H a y o)(ry:zBQ y u)(h:∀s',Inv X pins σ H s'->Q (.bool o.isSome) s') :
 wpAny (model X.prog X.w) A (compareOp .In u (.ref a)) Q E s:=by
 rcases g with ⟨kvs,k,e,ey,l⟩ | ⟨kvs,k,b,e,ey,eb,l⟩
 . subst ey
   obtain⟨z,hd,vs,rel,dd⟩:=zHL I.hok e
   refine wpAny_in_of (zEu ry) hd dd.mapOf ?_
   rw[<-(rel.val k).isSome_eq,<-l]
   exact h _ (I.tok _)
 . subst ey
   cases (show u=Value.ref b from ry)
   obtain⟨z,hd,xs,rel,dd⟩:=zHK I.hok e
   refine wpAny_in_heap (tupleKind_room_in1 hu) (zFT I.hok eb) hd dd ?_
   have q:=(rel.val k).isSome_eq
   rw[Option.isSome_map] at q
   rw[<-q,<-l]
   exact h _ (I.tok _)
theorem zE0 {h':Heap}{ob:HO}(I:Inv X pins σ H s)(mu:Mut (H a))(hs:Heap.SameBut a s.heap h')(he:∃q,h'.get? a=some q)(new:zBI X.prog X.w (upd H a ob) h' a ob) :
 Inv X pins σ (upd H a ob) { s with heap:=h',toks:=t' }:=
 I.write (x:=a) (e:=a) mu (.inl rfl) (fun b q hb z=>(hs.2 b hb).trans z) he new
theorem zGk {P:Program}{h':Heap}{kvs:List (Key×V)}{vs:List (Key×Value)}(z:kvs.length<=sizeLine)(hd:(a==sysModules)=false)(rel:KV kvs vs)(dd:h'.DictOf (zAf P w) a vs) :
 zBI P w H' h' a (.dK kvs):=⟨z,hd,vs,rel,dd⟩
theorem zIq (hu:A.units+1<cLine)(I:Inv X pins σ H s)(g:zI8 H a y v H')(ry:zBQ y u)(rv:zBQ v r)(h:∀s',Inv X pins σ H' s'->Q () s') :
 wpAny (model X.prog X.w) A (setItem (.ref a) u r) Q E s:=by
 rcases g with ⟨kvs,k,e,ey,l,eH⟩ | ⟨kvs,k,b,e,ey,eb,l,eH⟩
 . subst ey eH
   obtain⟨z,hd,vs,rel,dd⟩:=zIl I.hok e
   have hz:vs.length<=sizeLine:=by rw[<-rel.length];exact z
   have hl:(zCT kvs k v).length<=sizeLine:=by have:=zBd kvs k v;omega
   refine wpAny_setItem_pairs (hsz:=hz) (zEu ry) dd fun h' dd' hs=>h _ ?_
   have he:∃q,h'.get? a=some q:=let ⟨q,_,_,hq,_⟩:=dd';⟨q,hq⟩
   exact zE0 I (by rw[e];exact True.intro) hs he (zGk hl hd (rel.put k rv) dd')
 . subst ey eH
   cases (show u=Value.ref b from ry)
   obtain⟨z,hd,xs,rel,dd⟩:=dt_of I.hok e
   have hz:xs.length<=sizeLine:=by rw[<-Paired.length rel];exact z
   have hl:(zCT kvs k v).length<=sizeLine:=by have:=zBd kvs k v;omega
   refine wpAny_setItem_heap (hsz:=hz) (tupleKind_room_in1 hu) (zFT I.hok eb) dd fun h' dd' hs=>h _ ?_
   obtain⟨q,es,ep,hq,h2,h3,h4,_,h5⟩:=dd'
   refine zE0 I (by rw[e];exact True.intro) hs ⟨q,hq⟩ ⟨hl,hd,_,(rel.put k eb rv).keeps fun c ys ec=>?_,q,es,ep,hq,h2,h3,h4,h5⟩
   rw[za (zBT ec e (fun z=>nomatch z))]
   exact ec
end
section
variable {X:Cx}{pins:lPO}{σ:St}{H:Hp}{s:Shared}{a:Addr}{kvs:List (Key×V)}{k:Key}{u:Value}{A:Around}{E:vSP}
theorem d_pop {more:List Value}{Q:vSP}(I:Inv X pins σ H s)(e:H a=some (.dK kvs))(ry:zBQ (kV k) u)(l:zCA kvs k=some v)(hm:more=[]\/∃x,more=[x])
 (h:∀w' s',Inv X pins σ (upd H a (.dK (zCM kvs k))) s'->zBQ v w'->Q w' s'):wpAny (model X.prog X.w) A (call (.builtin "dict.pop") (.ref a::u::more)) Q E s:=by
 obtain⟨z,hd,vs,rel,dd⟩:=zIl I.hok e
 obtain⟨w',hw,rw'⟩:=zE3.some_of (v:=v) (o:=valueAt vs k) (by rw[<-l];exact rel.val k)
 have hp:(keyPart u).isSome=true:=by
  cases k with
  | inl i=>obtain⟨t,q⟩:=(show ∃t,u=Value.int i t from ry);subst q;rfl
  | inr x=>obtain⟨t,q⟩:=(show ∃t,u=Value.str x t from ry);subst q;rfl
 have ha:argsOk "dict.pop" ⟨.ref a::u::more,[]⟩:=by
  rcases hm with q | ⟨x,q⟩
  . subst q;exact PySem.F.args_dict_pop_2 _ _
  . subst q;exact PySem.F.args_dict_pop_3 _ _ _
 refine call_meetsIn PySem.F.slot_dict_pop dd.typeIs PySem.F.entry_dict_pop ha (meets_dict_pop_there (zAf X.prog X.w) a (zEu ry) more hm hp)
  ⟨vs,w',dd,by rw[<-rel.length];exact z,hw,fun h' dd' hs=>h w' _ ?_ rw'⟩
 have he:∃q,h'.get? a=some q:=let ⟨q,_,_,hq,_⟩:=dd';⟨q,hq⟩
 exact zE0 I (by rw[e];exact True.intro) hs he (zGk (zAH (zJ1 kvs k) z) hd (rel.drop k) dd')
end
noncomputable def NoSl (i:Expr):Prop:=∀ov iv,subscripted i false ov iv=operate [ov,iv] (getItem ov iv)
theorem zHe {prog:Program}{E:vSP}{env:Env}{value slice:Expr}{T id:String}{Q:vSP}
 (hl:typeLookup (.type T) "__getitem__" = pure (some (.builtin id))) (hs:NoSl slice)
 (h:wpAny (model prog w) A (eval value env) (fun o s₁=>wpAny (model prog w) A (eval slice env) (fun i s₂=>s₂.TypeIs o T/\wpAny (model prog w) A (getItem o i) Q E s₂) E s₁) E s) :
 wpAny (model prog w) A (eval (.Subscript value slice pos) env) Q E s:=by
 refine Subscript_ (zAM h (fun o s₁ h₁=>zAM h₁ (fun i s₂ h₂=>?_) fun _ _ x=>x) fun _ _ x=>x)
 obtain⟨hT,h₂⟩:=h₂
 unfold subscriptTail
 refine zA ?_
 rw[getitemInPython_of_ne hT.not_modules]
 refine zA (wpAny_specialOf hT hl ?_)
 have fin:wpAny (model prog w) A (subscripted slice false o i) (fun r s₃=>wpAny (model prog w) A (letTemporaryGo value o r >>= fun _=>pure r) Q E s₃) E s₂:=by
  rw[hs o i]
  exact wpAny_operating (zAM h₂ (fun r s₃ h₃=>zA (wpAny_letTemporaryGo (zF h₃))) fun _ _ x=>x)
 first
  | exact zF (zA fin)
  | exact zA (zF (zA fin))
  | exact zA fin
theorem zGB {pins:lPO}{o:Option V}(I:Inv X pins σ H s)(g:zFw H a y o):s.TypeIs (.ref a) "dict" := by
 rcases g with ⟨kvs,k,e,_,_⟩ | ⟨kvs,k,b,e,_,_,_⟩
 . obtain⟨_,_,vs,_,dd⟩:=zHL I.hok e
   exact dd.typeIs
 . obtain⟨_,_,xs,_,dd⟩:=zHK I.hok e
   exact dd.typeIs
noncomputable def tDGet (td ty:TE):TE:=fun σ H Q=>td σ H fun x H1=>ty σ H1 fun y H2=>∃a v,x = .ref a/\zFw H2 a y (some v)/\Q v H2
noncomputable def tDIn (ty td:TE):TE:=fun σ H Q=>ty σ H fun y H1=>td σ H1 fun x H2=>∃a o,x = .ref a/\zFw H2 a y o/\Q (.bl o.isSome) H2
noncomputable def sDPut (td ty tv:TE):TS:=fun D σ H=>tv σ H fun v H1=>td σ H1 fun x H2=>ty σ H2 fun y H3=>∃a H4,x = .ref a/\zI8 H3 a y v H4/\D.nx σ H4
section
variable {X:Cx}{o i e value:Expr}{pos pos' tpos:Pos}{td ty tv:TE}
theorem zF4 (hu:X.A.units+1<cLine)(ho:PE X o td)(hi:PE X i ty)(hs:NoSl i):PE X (.Subscript o i pos) (tDGet td ty):=by
 intro pins s σ H Q I h
 refine zHe PySem.F.slot_dict_getitem.lookup hs (thn (ho pins s σ H _ I h) fun u s1 ⟨x,H1,I1,rx,q1⟩=>thn (hi pins s1 σ H1 _ I1 q1) fun iv s2 ⟨y,H2,I2,ry,a,v,ex,g,q2⟩=>?_)
 subst ex
 obtain rfl:u=Value.ref a:=rx
 exact⟨zGB I2 g,zIr hu I2 g ry fun w' s3 I3 rw'=>⟨v,H2,I3,rw',q2⟩⟩
theorem zKJ (hu:X.A.units+1<cLine)(hi:PE X i ty)(ho:PE X o td):PC X .In i o (tDIn ty td):=by
 intro pins s σ H Q I h
 refine thn (hi pins s σ H _ I h) fun iv s1 ⟨y,H1,I1,ry,q1⟩=>thn (ho pins s1 σ H1 _ I1 q1) fun u s2 ⟨x,H2,I2,rx,a,ov,ex,g,q2⟩=>?_
 subst ex
 obtain rfl:u=Value.ref a:=rx
 exact d_in hu I2 g ry fun s3 I3=>⟨.bl ov.isSome,H2,I3,rfl,q2⟩
theorem zDn (hu:X.A.units+1<cLine)(ho:PE X o td)(hi:PE X i ty)(hv:PE X value tv)(hs:swapsWith value (some (.Subscript o i pos')) pos.line X.env=pure false) :
 PS X (.Assign [.Subscript o i pos'] value pos) (sDPut td ty tv):=by
 intro pins s σ H D I h
 refine wpAny_Assign_Subscript (thn (hv pins s σ H _ I h) fun r s1 ⟨v,H1,I1,rv,q1⟩=>thn (ho pins s1 σ H1 _ I1 q1) fun u s2 ⟨x,H2,I2,rx,q2⟩=>thn (hi pins s2 σ H2 _ I2 q2) fun iv s3 ⟨y,H3,I3,ry,a,H4,ex,g,q3⟩=>?_) hs
 subst ex
 obtain rfl:u=Value.ref a:=rx
 exact zIq hu I3 g ry rv fun s4 I4=>⟨σ,H4,I4,q3⟩
end
theorem zJ2 {P:Program}(h:Heap)(hb:sysModules<h.objs.size):zBI P w H (h.push { cls:=.type "dict",data:=.dict #[] }) h.objs.size (.dK []):=
 ⟨ze _,beq_eq_false_iff_ne.mpr (Ne.symm (zd hb)),[],.nil,Heap.DictOf.new h⟩
theorem zJ0 {P:Program}(h:Heap)(hb:sysModules<h.objs.size):zBI P w H (h.push { cls:=.type "dict",data:=.dict #[] }) h.objs.size (.dT []):=
 ⟨ze _,beq_eq_false_iff_ne.mpr (Ne.symm (zd hb)),[],.nil,_,#[],0,zR _ rfl,⟨rfl,rfl,rfl⟩,rfl,rfl,List.nodup_nil⟩
noncomputable def tDNewT:TE:=fun _ H Q=>∀p,H p=none->Q (.ref p) (upd H p (.dT []))
section
variable {X:Cx}{pos:Pos}
theorem zGZ:PE X (.Dict [] [] pos) tDNewT:=fun pins s σ H Q I h=>
 wpAny_Dict_empty ⟨.ref s.heap.objs.size,_,I.laid (a:=s.heap.objs.size) (o:=.dT []) (t':=s.toks) (fun _ _ q=>zG _ q) (zK _) (zJ0 s.heap I.big),rfl,h _ (I.hok.fresh (zK _))⟩
end
noncomputable def zHc:List (TE×TE)->St->Hp->(List (V×V)->Hp->Prop)->Prop
 | [],_,H,Q=>Q [] H
 | (tk,tv)::r,σ,H,Q=>tk σ H fun x H1=>tv σ H1 fun y H2=>zHc r σ H2 fun ps H3=>Q ((x,y)::ps) H3
noncomputable abbrev VV:List (V×V)->List (Value×Value)->Prop:=Paired fun p q=>zBQ p.1 q.1/\zBQ p.2 q.2
noncomputable def PPs (X:Cx)(pos:Pos)(keys:List (Option Expr))(values:List Expr)(trs:List (TE×TE)):Prop:=
 ∀(pins:lPO)(s:Shared)(σ:St)(H:Hp)(Q:List (V×V)->Hp->Prop),Inv X pins σ H s->zHc trs σ H Q ->
  wpAny (model X.prog X.w) X.A (evalPairs (pairTrees keys values X.env pos)) (fun vs s'=>∃ps H',Inv X pins σ H' s'/\VV ps vs/\Q ps H') X.xe s
theorem zK4:PPs X pos [] [] []:=fun pins s σ H Q I h=>pairTrees_nil_walk ⟨[],H,I,.nil,h⟩
theorem zJa {k v:Expr}{ks:List (Option Expr)}{vs:List Expr}{tk tv:TE}{trs:List (TE×TE)}(hk:PE X k tk)(hv:PE X v tv)(hr:PPs X pos ks vs trs) :
 PPs X pos (some k::ks) (v::vs) ((tk,tv)::trs):=fun pins s σ H Q I h=>
 pairTrees_cons_walk (thn (hk pins s σ H _ I h) fun u s1 ⟨x,H1,I1,rx,q1⟩=>thn (hv pins s1 σ H1 _ I1 q1) fun w2 s2 ⟨y,H2,I2,ry,q2⟩=>
  thn (hr pins s2 σ H2 _ I2 q2) fun ws s3 ⟨ps,H3,I3,rel,q3⟩=>⟨(x,y)::ps,H3,I3,.cons ⟨rx,ry⟩ rel,q3⟩)
noncomputable def zEV (kvs more:List (Key×V)):List (Key×V):=more.foldl (fun acc kv=>zCT acc kv.1 kv.2) kvs
theorem KV.merge:∀{more:List (Key×V)}{rs:List (Key×Value)}{kvs:List (Key×V)}{vs:List (Key×Value)},KV more rs->KV kvs vs->KV (zEV kvs more) (merged vs rs):=by
 intro more rs kvs vs r
 unfold KV at r
 induction r generalizing kvs vs with
 | nil=>intro q;exact q
 | @cons p q ps qs h t ih=>
  intro r0
  have e:KV (zCT kvs p.1 p.2) (stored vs q.1 q.2):=by
   have:=r0.put p.1 h.2
   rw[<-h.1];exact this
  exact ih e
theorem zC5:∀(more kvs:List (Key×V)),(zEV kvs more).length<=kvs.length+more.length
 | [],kvs=>by show kvs.length<=kvs.length+0;omega
 | p::r,kvs=>by
  have h1:=zC5 r (zCT kvs p.1 p.2)
  have h2:=zBd kvs p.1 p.2
  show (zEV (zCT kvs p.1 p.2) r).length<=_
  rw[zp];omega
theorem zEb {P:Program}{w:World}:∀{kvs:List (Key×V)}{ws:List (Value×Value)},VV (kvs.map fun kv=>(kV kv.1,kv.2)) ws->∃rs,Carries (zAf P w) ws rs/\KV kvs rs
 | [],_,r=>by rw[List.map_nil] at r;cases r;exact⟨[],True.intro,.nil⟩
 | p::kvs,_,r=>by
  rw[zAV] at r
  cases r with
  | @cons a b as bs h t=>
   obtain⟨rs,c,q⟩:=zEb (P:=P) (w:=w) t
   obtain⟨b1,b2⟩:=b
   exact⟨(p.1,b2)::rs,⟨zEu h.1,rfl,c⟩,.cons ⟨rfl,h.2⟩ q⟩
noncomputable def tDisp (trs:List (TE×TE)):TE:=fun σ H Q=>∀p,H p=none->zHc trs σ (upd H p (.dK [])) fun ps H2=>H2 p=some (.dK [])/\∃kvs:List (Key×V),ps=kvs.map (fun kv=>(kV kv.1,kv.2))/\kvs.length<=15/\Q (.ref p) (upd H2 p (.dK (zEV [] kvs)))
theorem zK6 {keys:List (Option Expr)}{values:List Expr}{trs:List (TE×TE)}(h:PPs X pos keys values trs)(hall:keys.all (·.isSome)=true)(hl:keys.length=values.length)(h0:keys≠[])
 (h15:keys.length<=15):PE X (.Dict keys values pos) (tDisp trs):=by
 intro pins s σ H Q I q
 have hn:=I.hok.fresh (zK s.heap.objs.size)
 have I1:=I.laid (a:=s.heap.objs.size) (o:=.dK []) (h':=s.heap.push { cls:=.type "dict",data:=.dict #[] }) (t':=s.toks) (fun _ _ q=>zG _ q) (zK _) (zJ2 s.heap I.big)
 refine wpAny_Dict_walk (knd:=zAf X.prog X.w) hall hl h0 h15 (thn (h pins _ σ _ _ I1 (q _ hn)) fun ws s2 ⟨ps,H2,I2,rel,e,kvs,ep,lk,q2⟩=>?_)
 subst ep
 obtain⟨rs,c,rk⟩:=zEb (P:=X.prog) (w:=X.w) rel
 obtain⟨z,hd,vs0,r0,dd⟩:=zIl I2.hok e
 cases r0
 refine⟨rs,c,dd,fun h' dd' hs=>⟨.ref s.heap.objs.size,_,?_,rfl,q2⟩⟩
 have hz:(zEV [] kvs).length<=sizeLine:=by
  have h1:=zC5 kvs []
  rw[zBi] at h1
  rw[sizeLine_eq];omega
 have he:∃q,h'.get? s.heap.objs.size=some q:=let ⟨q,_,_,hq,_⟩:=dd';⟨q,hq⟩
 exact zE0 I2 (by rw[e];exact True.intro) hs he (zGk hz hd (rk.merge .nil) dd')
structure M1 (X:Cx)(o:Expr)(m:Str)(apos:Pos)(e:Expr)(cpos:Pos):Prop where
 base:attributeBase o m X.env (eval o X.env)=eval o X.env
 few:((backTo cpos (starEach [e] X.env)).all (fun x=>!x.1) && (backToKw cpos (keywordEach [] X.env)).all (fun x=>x.1.isSome)
  && decide (([e]:List Expr).length+([]:List Keyword).length+(if ([]:List Keyword).isEmpty then 0 else 1)<30))=true
 line:(apos.endLine==cpos.line)=true
 trees:backTo cpos (starEach [e] X.env)=[(false,eval e X.env)]
structure M2 (X:Cx)(o:Expr)(m:Str)(apos:Pos)(e f:Expr)(cpos:Pos):Prop where
 base:attributeBase o m X.env (eval o X.env)=eval o X.env
 few:((backTo cpos (starEach [e,f] X.env)).all (fun x=>!x.1) && (backToKw cpos (keywordEach [] X.env)).all (fun x=>x.1.isSome)
  && decide (([e,f]:List Expr).length+([]:List Keyword).length+(if ([]:List Keyword).isEmpty then 0 else 1)<30))=true
 line:(apos.endLine==cpos.line)=true
 trees:backTo cpos (starEach [e,f] X.env)=[(false,eval e X.env),(false,eval f X.env)]
noncomputable def IsD (H:Hp)(a:Addr):Prop:=(∃kvs,Rd H a (.dK kvs))\/∃kvs,Rd H a (.dT kvs)
theorem zKQ {pins:lPO}(I:Inv X pins σ H s)(d:IsD H a) :
 s.TypeIs (.ref a) "dict" /\ (∀b,Value.ref a = .ref b->∃ob,s.heap.get? b=some ob/\ob.dict=none)/\(a==sysModules)=false:=by
 rcases d with ⟨kvs,e⟩ | ⟨kvs,e⟩
 . obtain⟨_,hd,vs,_,dd⟩:=zHL I.hok e
   refine⟨dd.typeIs,fun b q=>?_,hd⟩
   cases q
   obtain⟨ob,_,_,h1,h2,_⟩:=dd
   exact⟨ob,h1,h2.2.1⟩
 . obtain⟨_,hd,xs,_,dd⟩:=zHK I.hok e
   refine⟨dd.typeIs,fun b q=>?_,hd⟩
   cases q
   obtain⟨ob,_,_,h1,h2,_⟩:=dd
   exact⟨ob,h1,h2.2.1⟩
section
variable {X:Cx}{pins:lPO}{σ:St}{H:Hp}{s:Shared}{a:Addr}{y d:V}{u r:Value}{o:Option V}{A:Around}{E:vSP}
theorem d_get2 {Q:vSP}(hu:A.units+1<cLine)(I:Inv X pins σ H s)(g:zFw H a y o)(ry:zBQ y u)(rd:zBQ d r)(h:∀w' s',Inv X pins σ H s'->zBQ (o.getD d) w'->Q w' s') :
 wpAny (model X.prog X.w) A (call (.builtin "dict.get") [.ref a,u,r]) Q E s:=by
 rcases g with ⟨kvs,k,e,ey,l⟩ | ⟨kvs,k,b,e,ey,eb,l⟩
 . subst ey
   obtain⟨z,hd,vs,rel,dd⟩:=zHL I.hok e
   refine call_meetsIn PySem.F.slot_dict_get dd.typeIs PySem.F.entry_dict_get (PySem.F.args_dict_get_3 _ _ _) (meets_dict_get_default (zAf X.prog X.w) a (zEu ry) hd r) ⟨_,dd.mapOf,h _ _ (I.tok _) ?_⟩
   rw[l]
   exact (rel.val k).getD rd
 . subst ey
   cases (show u=Value.ref b from ry)
   obtain⟨z,hd,xs,rel,dd⟩:=zHK I.hok e
   refine call_meetsIn PySem.F.slot_dict_get dd.typeIs PySem.F.entry_dict_get (PySem.F.args_dict_get_3 _ _ _) (meetsH_dict_get_default (tupleKind (zAf X.prog X.w)) a b hd r) ⟨tupleKind_room_in1 hu,k,xs,zFT I.hok eb,dd,h _ _ (I.tok _) ?_⟩
   rw[l]
   exact (rel.val k).getD rd
end
noncomputable def tDGet2 (td ty tx:TE):TE:=fun σ H Q=>td σ H fun x H1=>∃a,x = .ref a/\IsD H1 a/\ty σ H1 fun y H2=>tx σ H2 fun z H3=>∃o,zFw H3 a y o/\Q (o.getD z) H3
noncomputable def tDPop1 (td ty:TE):TE:=fun σ H Q=>td σ H fun x H1=>∃a,x = .ref a/\IsD H1 a/\ty σ H1 fun y H2=>∃kvs k v,H2 a=some (.dK kvs)/\y=kV k/\zCA kvs k=some v/\Q v (upd H2 a (.dK (zCM kvs k)))
section
variable {X:Cx}{o e f:Expr}{apos cpos:Pos}{td ty tx:TE}
theorem zJe (hu:X.A.units+1<cLine)(ho:PE X o td)(he:PE X e ty)(hf:PE X f tx)(m:M2 X o "get" apos e f cpos):PE X (.Call (.Attribute o "get" apos) [e,f] [] cpos) (tDGet2 td ty tx):=by
 intro pins s σ H Q I h
 refine wpAny_Call_method m.base m.few m.line PySem.F.plainAttrs_dict PySem.F.slot_dict_get PySem.F.type_dict_get (thn (ho pins s σ H _ I h) fun u s1 ⟨x,H1,I1,rx,a,ex,d,q1⟩=>?_)
 subst ex
 obtain rfl:u=Value.ref a:=rx
 obtain⟨t1,t2,_⟩:=zKQ I1 d
 refine⟨t1,t2,?_⟩
 rw[m.trees]
 refine Calls.callWith_builtin rfl (Calls.evalArgs_plain (Calls.spliced_cons (thn (he pins s1 σ H1 _ I1 q1) fun iv s2 ⟨y,H2,I2,ry,q2⟩=>
  Calls.spliced_cons (thn (hf pins s2 σ H2 _ I2 q2) fun fv s3 ⟨z,H3,I3,rz,ov,g,q3⟩=>Calls.spliced_nil ?_))))
 exact d_get2 hu I3 g ry rz fun w' s4 I4 rw'=>⟨_,H3,I4,rw',q3⟩
theorem zJd (ho:PE X o td)(he:PE X e ty)(m:M1 X o "pop" apos e cpos):PE X (.Call (.Attribute o "pop" apos) [e] [] cpos) (tDPop1 td ty):=by
 intro pins s σ H Q I h
 refine wpAny_Call_method m.base m.few m.line PySem.F.plainAttrs_dict PySem.F.slot_dict_pop PySem.F.type_dict_pop (thn (ho pins s σ H _ I h) fun u s1 ⟨x,H1,I1,rx,a,ex,d,q1⟩=>?_)
 subst ex
 obtain rfl:u=Value.ref a:=rx
 obtain⟨t1,t2,_⟩:=zKQ I1 d
 refine⟨t1,t2,?_⟩
 rw[m.trees]
 refine Calls.callWith_builtin rfl (Calls.evalArgs_plain (Calls.spliced_cons (thn (he pins s1 σ H1 _ I1 q1) fun iv s2 ⟨y,H2,I2,ry,kvs,k,v,ea,ey,l,q2⟩=>Calls.spliced_nil ?_)))
 subst ey
 exact d_pop I2 ea ry l (.inl rfl) fun w' s3 I3 rw'=>⟨v,_,I3,rw',q2⟩
end
end L2
namespace HT
open PySem PyProof.Rows
noncomputable def lexLt:List Int->List Int->Bool
 | [],[]=>false
 | [],_::_=>true
 | _::_,[]=>false
 | x::xs,y::ys=>if x=y then lexLt xs ys else decide (x<y)
theorem lexLt_cons (x y:Int)(xs ys:List Int):lexLt (x::xs) (y::ys)=if x=y then lexLt xs ys else decide (x<y):=rfl
theorem zEt:lexLt [] []=false:=rfl
theorem zEI (y:Int)(ys:List Int):lexLt [] (y::ys)=true:=rfl
theorem zEJ (x:Int)(xs:List Int):lexLt (x::xs) []=false:=rfl
theorem zJz (A:Around)(s:Shared)(a:Int)(t:Tok)(c:Int)(u:Tok):∃e,SeqAt.EqAt A s (.int a t) (.int c u) e/\(e=true↔a=c):=
 ⟨(a==c),SeqAt.EqAt.int_int a t c u,by simp⟩
theorem zJU (A:Around)(s:Shared)(a:Int)(t:Tok)(c:Int)(u:Tok)(prog:Program)(w:World)(E:vSP)(Q:vSP)(h:Q (.bool (decide (a<c))) s) :
 wpAny (model prog w) A (richCompare .Lt (.int a t) (.int c u)) Q E s:=
 (PyProof.Rows.lt_int h:wpAny (model prog w) A (compareOp .Lt (.int a t) (.int c u)) Q E s)
section
open PySem.SeqAt
open PySem.AutoSeq1 (wpAny_loadPart')
open PySem.MeetsSeq PySem.MeetsSeq2 PySem.MeetsSeq3
theorem zEg (l b:Addr)(items items2:Array Value)(n n2:Nat)(dd dd2:Option Addr)(sl sl2:Array (Option Value))(ns ms:List Int)(hi:IntsAre items.toList ns)(hj:IntsAre items2.toList ms) :
 Meets (Builtin.«tuple.__lt__» ⟨[.ref l,.ref b],[]⟩)
  (fun _ R s=>s.heap.get? l=some { cls:=.type "tuple",dict:=dd,data:=.seq items n,slots:=sl }/\s.heap.get? b=some { cls:=.type "tuple",dict:=dd2,data:=.seq items2 n2,slots:=sl2 } /\
   R (.ok (.ret (.bool (lexLt ns ms)))) s):=
 .of_wp fun prog w A R s h=>by
  obtain⟨hp,g,d,tk,os⟩:=s;obtain⟨hl,hb,h⟩:=h
  have f2:=AutoSeq1.sub_tuple_tuple
  have z1:items.size=ns.length:=by rw[<-hi.length];simp
  have z2:items2.size=ms.length:=by rw[<-hj.length];simp
  wp_walk using wpAny_loadPart' hl,wpAny_loadPart' hb,wpAny_forIn_list _ (fun rest b s'=>b.1=none/\s'=⟨hp,g,d,tk,os⟩/\∃(vs ws:List Value)(ns' ms':List Int),rest=vs.zip ws /\
   IntsAre vs ns'/\IntsAre ws ms'/\ns'.length+items2.size=ms'.length+items.size/\R (.ok (.ret (.bool (lexLt ns' ms')))) ⟨hp,g,d,tk,os⟩) _
  case turn=>
   rintro ⟨y,x⟩ rest b s' ⟨hb',rfl,vs,ws,ns',ms',hz,hvi,hwi,hlen,hR⟩
   cases hvi with
   | nil=>rw[List.zip_nil_left] at hz;cases hz
   | cons a t hvi'=>
    cases hwi with
    | nil=>rw[List.zip_nil_right] at hz;cases hz
    | cons c u hwi'=>
     rw[List.zip_cons_cons] at hz
     injection hz with hyx hrest
     injection hyx with hy hx
     subst hy hx
     rw[lexLt_cons] at hR
     simp only[zp] at hlen
     obtain⟨e,he,hiff⟩:=zJz A.in1 ⟨hp,g,d,tk,os⟩ a t c u
     refine zA (he prog w _ _ ?_)
     cases e with
     | true=>
      rw[if_pos (hiff.mp rfl)] at hR
      wp_walk
      exact⟨rfl,rfl,_,_,_,_,hrest,hvi',hwi',by omega,hR⟩
     | false=>
      rw[if_neg (fun q=>absurd (hiff.mpr q) zh)] at hR
      have hri:=zJU A.in1 ⟨hp,g,d,tk,os⟩ a t c u prog w
      wp_walk using hri
      exact⟨_,rfl,by simpa using hR⟩
  case fin=>
   rintro ⟨b1,b2⟩ s' ⟨hb',rfl,vs,ws,ns',ms',hz,hvi,hwi,hlen,hR⟩
   simp only at hb'
   subst hb'
   have hv:lexLt ns' ms'=decide (items.size<items2.size):=by
    cases hvi with
    | nil=>
     cases hwi with
     | nil=>
      simp only[zBi] at hlen
      rw[zEt]
      exact (zl (by omega)).symm
     | cons c u hw=>
      simp only[zBi,zp] at hlen
      rw[zEI]
      exact (zU (by omega)).symm
    | cons a t hv=>
     cases hwi with
     | nil=>
      simp only[zBi,zp] at hlen
      rw[zEJ]
      exact (zl (by omega)).symm
     | cons c u hw=>
      rw[List.zip_cons_cons] at hz
      cases hz
   rw[hv] at hR
   wp_walk
   exact⟨_,rfl,by simpa [Builtin.Tuple.tupleCompareSizes] using hR⟩
  case h=>
   exact⟨rfl,rfl,items.toList,items2.toList,ns,ms,rfl,hi,hj,by omega,h⟩
end
section
variable {prog:Program}{w:World}{A:Around}{E:vSP}{s:Shared}
theorem lt_tupInts {l b:Addr}{items items2:Array Value}{ns ms:List Int}{Q:vSP}(hl:IsTup s.heap l items)(hb:IsTup s.heap b items2)(hi:IntsAre items.toList ns)(hj:IntsAre items2.toList ms)
 (hu:A.units<cLine)(h:Q (.bool (lexLt ns ms)) s):wpAny (model prog w) A (compareOp .Lt (.ref l) (.ref b)) Q E s:=by
 obtain⟨⟨cls,dd,data,sl⟩,ho,hc,n,hd⟩:=id hl
 obtain⟨⟨cls2,dd2,data2,sl2⟩,ho2,hc2,n2,hd2⟩:=id hb
 simp only at hc hd hc2 hd2
 subst hc hd hc2 hd2
 exact richCompare_meets_room (op:=.Lt) ⟨_,ho,rfl⟩ ⟨_,ho2,rfl⟩ PySem.F.slot_tuple_lt PySem.F.entry_tuple_lt (PySem.F.args_tuple_lt_2 _ _) (zEg l b items items2 n n2 dd dd2 sl sl2 ns ms hi hj)
  ⟨ho,ho2,show Value.bool (lexLt ns ms)≠Value.notImplemented/\Q (.bool (lexLt ns ms)) s from ⟨(fun x=>nomatch x),h⟩⟩ hu
theorem cat_tup {t b:Addr}{vs ws:List Value}{Q:vSP}(ht:IsTup s.heap t vs.toArray)(hb:IsTup s.heap b ws.toArray)(hv:vs≠[])
 (h1:ws=[]->Q (.ref t) s)(h2:ws≠[]->Q (.ref s.heap.objs.size) { s with heap:=s.heap.push { cls:=.type "tuple",data:=.seq (vs++ws).toArray } })
 (hsz:vs.length+ws.length<=sizeLine):wpAny (model prog w) A (binaryOp .Add (.ref t) (.ref b)) Q E s:=by
 obtain⟨⟨cls,dd,data,sl⟩,ho,hc,n,hd⟩:=id ht
 obtain⟨⟨cls2,dd2,data2,sl2⟩,ho2,hc2,n2,hd2⟩:=id hb
 simp only at hc hd hc2 hd2
 subst hc hd hc2 hd2
 have e:vs.toArray++ws.toArray=(vs++ws).toArray:=by simp
 by_cases hw:ws=[]
 . exact concat_meets ⟨_,ho,rfl⟩ ⟨_,ho2,rfl⟩ noFill_tuple_add seq_tuple_add PySem.F.slot_tuple_add PySem.F.entry_tuple_add (PySem.F.args_tuple_add_2 _ _)
    (tuple_addW1 t b vs.toArray ws.toArray n n2 dd dd2 sl sl2 (by simpa using hv) (by simp[hw])) ⟨ho,ho2,h1 hw⟩
 . refine concat_meets ⟨_,ho,rfl⟩ ⟨_,ho2,rfl⟩ noFill_tuple_add seq_tuple_add PySem.F.slot_tuple_add PySem.F.entry_tuple_add (PySem.F.args_tuple_add_2 _ _)
    (tuple_addW2 t b vs.toArray ws.toArray n n2 dd dd2 sl sl2 (by simpa using hv) (by simpa using hw) (by rw[zT,zT];exact hsz)) ⟨ho,ho2,?_⟩
   rw[e]
   exact h2 hw
noncomputable def sIx (n d:Nat):Option Int->Nat
 | none=>d
 | some v=>if v<0 then (v+(n:Int)).toNat else min v.toNat n
theorem sIx_none (n d:Nat):sIx n d none=d:=rfl
theorem sIx_nat (n d k:Nat):sIx n d (some (k:Int))=min k n:=by
 show (if (k:Int)<0 then ((k:Int)+(n:Int)).toNat else min (k:Int).toNat n)=min k n
 rw[if_neg (by omega),zAx]
theorem sIx_le (n d:Nat)(hd:d<=n)(o:Option Int):sIx n d o<=n:=by
 cases o with
 | none=>exact hd
 | some v=>
  show (if v<0 then (v+(n:Int)).toNat else min v.toNat n)<=n
  by_cases hv:v<0
  . rw[if_pos hv];omega
  . rw[if_neg hv];exact Nat.min_le_right _ _
theorem zIv (v:Int)(n d:Nat):(if v<0 then max (v+(n:Int)) 0 else min v (n:Int))=((sIx n d (some v):Nat):Int):=by
 show (if v<0 then max (v+(n:Int)) 0 else min v (n:Int))=(((if v<0 then (v+(n:Int)).toNat else min v.toNat n):Nat):Int)
 by_cases hv:v<0
 . simp only[if_pos hv];omega
 . simp only[if_neg hv];omega
theorem zHS (lo hi:Option Int) (n:Nat):Builtin.Slice.sliceAdjust lo hi 1 (n:Int)=(((sIx n 0 lo:Nat):Int),((sIx n n hi:Nat):Int)):=by
 have h1:¬ ((1:Int)<0):=by omega
 unfold Builtin.Slice.sliceAdjust
 simp only[h1,if_false]
 refine Prod.ext ?_ ?_
 . cases lo with
   | none=>rfl
   | some v=>exact zIv v n 0
 . cases hi with
   | none=>rfl
   | some v=>exact zIv v n n
theorem zG5 (i j:Nat):Builtin.Slice.slicePlaces (i:Int) (j:Int) 1=j-i:=by
 unfold Builtin.Slice.slicePlaces
 have h1:(1:Int) > 0:=by omega
 simp only[h1,if_true,Int.ediv_one]
 split <;> omega
theorem zEQ {v:Value} {o:Option Int} {Q:Option Int->Shared->Prop} (p:IsPart v o) (h:Q o s):wpAny (model prog w) A (Builtin.Slice.slicePartIndex v) Q E s:=by
 cases p with
 | none=>exact slicePart_none h
 | int i t=>exact slicePart_int h
theorem zCY {sl:Addr}{vl vu:Value}{lo hi:Option Int}{n:Nat}{Q:Int×Int×Nat->Shared->Prop}(hs:s.heap.IsSliceOf sl vl vu .none)(pl:IsPart vl lo)(pu:IsPart vu hi)
 (h:Q (((sIx n 0 lo:Nat):Int),1,sIx n n hi-sIx n 0 lo) s):wpAny (model prog w) A (Builtin.Slice.sliceApplied (.ref sl) (pure (n:Int))) Q E s:=by
 obtain⟨os,hos,hcs,hds⟩:=id hs
 unfold Builtin.Slice.sliceApplied Builtin.Slice.sliceFields
 refine zA (zA (wpAny_field hos hds (x:=vl) rfl (zA (wpAny_field hos hds (x:=vu) rfl (zA (wpAny_field hos hds (x:=.none) rfl (zF ?_)))))))
 refine zA (slicePart_none ?_)
 show wpAny _ _ (if ((1:Int)==0)=true then _ else _) _ _ s
 rw[if_neg (by decide)]
 refine zA (zEQ pl (zA (zEQ pu (zA (zF ?_)))))
 show wpAny _ _ (match Builtin.Slice.sliceAdjust lo hi 1 (n:Int) with | (lo,hi)=>pure (lo,(1:Int),Builtin.Slice.slicePlaces lo hi 1)) _ _ s
 rw[zHS lo hi n]
 show wpAny _ _ (pure (((sIx n 0 lo:Nat):Int),(1:Int),Builtin.Slice.slicePlaces ((sIx n 0 lo:Nat):Int) ((sIx n n hi:Nat):Int) 1)) _ _ s
 rw[zG5]
 exact zF h
theorem zJb (xs:Array Value)(i k:Nat):((List.range k).filterMap fun (m:Nat)=>xs[((i:Int)+(m:Int)*1).toNat]?).toArray=((xs.toList.drop i).take k).toArray:=by
 have e:(fun (m:Nat)=>xs[((i:Int)+(m:Int)*1).toNat]?)=fun m=>xs[i+m]?:=by
  funext m
  have:((i:Int)+(m:Int)*1).toNat=i+m:=by omega
  rw[this]
 rw[e]
 have:=pick_run xs i k
 rw[List.filterMap_map] at this
 have e2:((fun x=>xs[x]?)∘fun x=>i+x)=fun m=>xs[i+m]?:=rfl
 rw[e2] at this
 rw[this]
theorem getItem_tuple_cut {t sl:Addr}{items:Array Value}{vl vu:Value}{lo hi:Option Int}{Q:vSP}(ht:IsTup s.heap t items)(hs:s.heap.IsSliceOf sl vl vu .none)(pl:IsPart vl lo)(pu:IsPart vu hi)
 (hw:¬ (sIx items.size 0 lo=0/\sIx items.size items.size hi=items.size))
 (h:Q (.ref s.heap.objs.size) { s with heap:=s.heap.push { cls:=.type "tuple",data:=.seq ((items.toList.drop (sIx items.size 0 lo)).take (sIx items.size items.size hi-sIx items.size 0 lo)).toArray } })
 (hsz:items.size<=sizeLine):wpAny (model prog w) A (getItem (.ref t) (.ref sl)) Q E s:=by
 have htake:sizeOk (.seq ((items.toList.drop (sIx items.size 0 lo)).take (sIx items.size items.size hi-sIx items.size 0 lo)).toArray):=by
  show ((items.toList.drop (sIx items.size 0 lo)).take (sIx items.size items.size hi-sIx items.size 0 lo)).toArray.size<=sizeLine
  rw[zT,zk,zBG,Array.length_toList]
  omega
 have hj:sIx items.size items.size hi<=items.size:=sIx_le _ _ (zK _) hi
 obtain⟨os,hos,hcs,hds⟩:=id hs
 have hTs:s.TypeIs (.ref sl) "slice" := ⟨os,hos,hcs⟩
 unfold getItem
 try with_reducible refine zAN ?_
 first | refine zA (zF ?_) | skip
 refine zA (wpAny_sequenceKey ht.typeIs (by decide) ?_)
 refine zA (zAz (name:=Str.ofString "__getitem__") ht.typeIs PyProof.Rows.slot_tuple_getitem
  (zA3 PyProof.Rows.slot_tuple_getitem ht.typeIs entry_tuple_getitem ?_ (args_tuple_getitem _ _)))
 show wpAny _ _ (Builtin.Tuple.tupleItemsOf (.ref t) >>= _) _ _ s
 refine zA (tupleItemsOf_ ht ?_)
 refine zA (zBK hTs ?_)
 rw[if_pos (by decide)]
 refine zA (zCY hs pl pu ?_)
 have hno:¬ ((((sIx items.size 0 lo:Nat):Int)==0 && (1:Int)==1 && (sIx items.size items.size hi-sIx items.size 0 lo)==items.size)=true):=by
  intro q
  rw[Bool.and_eq_true,Bool.and_eq_true] at q
  have q1:((sIx items.size 0 lo:Nat):Int)=0:=eq_of_beq q.1.1
  have q2:sIx items.size items.size hi-sIx items.size 0 lo=items.size:=eq_of_beq q.2
  exact hw ⟨by omega,by omega⟩
 show wpAny _ _ (if (((sIx items.size 0 lo:Nat):Int)==0 && (1:Int)==1 && (sIx items.size items.size hi-sIx items.size 0 lo)==items.size)=true then _ else _) _ _ s
 rw[if_neg hno,zJb]
 first
  | exact zA (m:=Builtin.Tuple.tupleExact _) (zAn (zF ⟨_,rfl,zF h⟩) htake)
  | exact zA (m:=Builtin.Tuple.tupleExact _) (zAn (zA (zF (zF ⟨_,rfl,zF h⟩))) htake)
  | exact zA (zA (m:=Builtin.Tuple.tupleExact _) (zAn (zF (zF ⟨_,rfl,zF h⟩)) htake))
  | exact zA (zA (m:=Builtin.Tuple.tupleExact _) (zAn (zF ⟨_,rfl,zF h⟩) htake))
end
end HT
namespace L2
open PySem PySem.Spec PyProof.Rows
noncomputable abbrev TO:=St->Hp->(Option Int->Hp->Prop)->Prop
noncomputable def PO (X:Cx)(e:Option Expr)(t:TO):Prop:=
 ∀(pins:lPO)(s:Shared)(σ:St)(H:Hp)(Q:Option Int->Hp->Prop),Inv X pins σ H s->t σ H Q ->
  wpAny (model X.prog X.w) X.A (evalPart e X.env) (fun u s'=>∃o H',Inv X pins σ H' s'/\IsPart u o/\Q o H') X.xe s
noncomputable def zKd:TO:=fun _ H Q=>Q none H
noncomputable def tPart (t:TE):TO:=fun σ H Q=>t σ H fun x H1=>∃i,x = .int i/\Q (some i) H1
theorem zB3 {ns:List Int}:∀{us:List Value},zBE (ns.map V.int) us->IntsAre us ns:=by
 induction ns with
 | nil=>intro us r;rw[List.map_nil] at r;cases r;exact .nil
 | cons n ns ih=>
  intro us r
  rw[zAV] at r
  cases r with
  | cons r1 r2=>
   obtain⟨t,e⟩:=r1
   subst e
   exact .cons n t (ih r2)
variable {xs:List V}
section
variable {X:Cx}{e:Expr}{te:TE}{lo hi:Option Expr}{tl th:TO}{pos p2:Pos}
theorem zCc:PO X none zKd:=by
 intro pins s σ H Q I h
 rw[evalPart_none]
 exact zF ⟨none,H,I,.none,h⟩
theorem zCb (h:PE X e te):PO X (some e) (tPart te):=by
 intro pins s σ H Q I hw
 rw[evalPart_some]
 refine thn (h pins s σ H _ I hw) fun u s1 ⟨x,H1,I1,r1,q1⟩=>?_
 obtain⟨i,rfl,q⟩:=q1
 obtain⟨t,rfl⟩:=r1
 exact⟨some i,H1,I1,.int i t,q⟩
noncomputable def SlR (X:Cx)(r:V->Option Int->Option Int->Hp->VK->Prop):Prop:=
 ∀(pins:lPO)(s:Shared)(σ:St)(H:Hp)(x:V)(v vl vu:Value)(lo hi:Option Int)(sl:Addr)(Q:VK),Inv X pins σ H s->zBQ x v->s.heap.IsSliceOf sl vl vu .none->IsPart vl lo->IsPart vu hi->r x lo hi H Q ->
  ∃T id,typeLookup (.type T) "__getitem__" = pure (some (.builtin id))/\s.TypeIs v T/\wpAny (model X.prog X.w) X.A (getItem v (.ref sl)) (EP X pins σ Q) X.xe s
noncomputable def tSl (r:V->Option Int->Option Int->Hp->VK->Prop)(te:TE)(tl th:TO):TE:=fun σ H Q=>te σ H fun x H1=>tl σ H1 fun l H2=>th σ H2 fun u H3=>r x l u H3 Q
theorem zCP {r:V->Option Int->Option Int->Hp->VK->Prop}(hr:SlR X r)(he:PE X e te)(hl:PO X lo tl)(hu:PO X hi th):PE X (.Subscript e (.Slice lo hi none p2) pos) (tSl r te tl th):=by
 intro pins s σ H Q I h
 refine Subscript_ (thn (he pins s σ H _ I h) fun v s1 ⟨x,H1,I1,r1,q1⟩=>?_)
 refine wpAny_Slice (thn (hl pins s1 σ H1 _ I1 q1) fun vl s2 ⟨l,H2,I2,pl,q2⟩=>thn (hu pins s2 σ H2 _ I2 q2) fun vu s3 ⟨u,H3,I3,pu,q3⟩=>?_)
 rw[evalPart_none]
 refine zF ?_
 have I4:Inv X pins σ H3 { s3 with heap:=s3.heap.push { cls:=.type "slice",data:=.fields #[vl,vu,.none] } }:=I3.kept (t':=s3.toks) fun b ob q=>zG _ q
 obtain⟨T,id,hT,ht,hg⟩:=hr pins { s3 with heap:=s3.heap.push { cls:=.type "slice",data:=.fields #[vl,vu,.none] } } σ H3 x v vl vu l u s3.heap.objs.size Q I4 r1 (Heap.IsSliceOf.new ..) pl pu q3
 show wpAny (model X.prog X.w) X.A (subscriptTail e (.Slice lo hi none p2) v (.ref s3.heap.objs.size)) (EP X pins σ Q) X.xe { s3 with heap:=s3.heap.push { cls:=.type "slice",data:=.fields #[vl,vu,.none] } }
 exact tail_any (ops:=[.ref s3.heap.objs.size,v]) ht hT hg (by with_unfolding_all rfl)
noncomputable def zFx (xs:List V)(lo hi:Option Int):List V:=(xs.drop (HT.sIx xs.length 0 lo)).take (HT.sIx xs.length xs.length hi-HT.sIx xs.length 0 lo)
theorem zD6 (xs:List V)(lo hi:Option Int):(zFx xs lo hi).length<=xs.length:=by
 unfold zFx
 rw[zk,zBG]
 omega
noncomputable def rSlT (K:PySem.W.Frag):V->Option Int->Option Int->Hp->VK->Prop:=fun x lo hi H Q=>∃a xs,x = .ref a/\SqT K H a xs /\
 ¬ (HT.sIx xs.length 0 lo=0/\HT.sIx xs.length xs.length hi=xs.length)/\∀p,H p=none->Q (.ref p) (upd H p (.tup (zFx xs lo hi)))
theorem sl_tup:SlR X (rSlT X.K):=by
 intro pins s σ H x v vl vu lo hi sl Q I rx hs pl pu h
 obtain⟨a,xs,rfl,hx,hw,q⟩:=h
 cases rx
 obtain⟨its,r,ht,hz⟩:=I.tuple hx
 have hlen:its.toArray.size=xs.length:=by rw[zT];exact r.length.symm
 refine⟨"tuple",_,PyProof.Rows.slot_tuple_getitem.lookup,ht.typeIs,?_⟩
 refine HT.getItem_tuple_cut ht hs pl pu (by rw[hlen];exact hw) ?_ (by rw[hlen];exact hz)
 rw[hlen]
 refine⟨.ref s.heap.objs.size,_,I.laid (t':=s.toks) (o:=.tup (zFx xs lo hi)) (fun b ob q=>zG _ q) (zK _) ?_,rfl,q _ (I.hok.fresh (zK _))⟩
 exact⟨⟨zAH (zD6 xs lo hi) hz,_,zR _ rfl,rfl⟩,_,(r.drop (HT.sIx xs.length 0 lo)).take (HT.sIx xs.length xs.length hi-HT.sIx xs.length 0 lo),IsTup.new _ _⟩
noncomputable def rCatT (K:PySem.W.Frag):R2:=fun x y H Q=>∃a b xs ys,x = .ref a/\y = .ref b/\SqT K H a xs/\SqT K H b ys/\xs≠[]/\xs.length+ys.length<=sizeLine /\
 (ys=[]->Q (.ref a) H)/\(ys≠[]->∀p,H p=none->Q (.ref p) (upd H p (.tup (xs++ys))))
theorem zBE.nil_iff {us:List Value}(r:zBE xs us):us=[]↔xs=[]:=by
 cases r with
 | nil=>simp
 | cons _ _=>simp
theorem zLA:OpR X (binaryOp .Add) (rCatT X.K):=by
 intro pins s σ H x y v u Q I rx ry h
 obtain⟨a,b,xs,ys,rfl,rfl,ha,hb,hx,hz,q1,q2⟩:=h
 cases rx
 cases ry
 obtain⟨its,r1,p1,_⟩:=I.tuple ha
 obtain⟨its2,r2,p2,_⟩:=I.tuple hb
 refine HT.cat_tup p1 p2 (fun z=>hx (r1.nil_iff.mp z)) (fun z=>⟨.ref a,H,I,rfl,q1 (r2.nil_iff.mp z)⟩) (fun z=>?_) (by rw[<-r1.length,<-r2.length];exact hz)
 refine⟨.ref s.heap.objs.size,_,I.laid (t':=s.toks) (o:=.tup (xs++ys)) (fun b ob q=>zG _ q) (zK _) ?_,rfl,q2 (fun w=>z (r2.nil_iff.mpr w)) _ (I.hok.fresh (zK _))⟩
 exact⟨⟨by rw[zL];exact hz,_,zR _ rfl,rfl⟩,_,r1.append r2,IsTup.new _ _⟩
end
noncomputable def ixN (n:Nat)(i:Int):Option Nat:=if 0<=i then (if i<n then some i.toNat else none) else if -(n:Int)<=i then some (i+n).toNat else none
noncomputable def atI {α:Type}(xs:List α)(i:Int):Option α:=(ixN xs.length i).bind fun j=>xs[j]?
variable {n:Nat}
theorem zIb {i:Int}{j:Nat}(h:ixN n i=some j):seqIndex? i n=some j/\j<n /\ -(n:Int)<=i/\i<n:=by
 unfold ixN at h
 by_cases h0:0<=i
 . rw[if_pos h0] at h
   by_cases h1:i<n
   . rw[if_pos h1] at h
     have e:i.toNat=j:=zY h
     exact⟨by rw[seqIndex_of h0 h1,e],by omega,by omega,h1⟩
   . rw[if_neg h1] at h;cases h
 . rw[if_neg h0] at h
   by_cases h1 : -(n:Int)<=i
   . rw[if_pos h1] at h
     have e:(i+n).toNat=j:=zY h
     exact⟨by rw[seqIndex_neg (by omega) h1,e],by omega,h1,by omega⟩
   . rw[if_neg h1] at h;cases h
theorem zI3 {α:Type}{xs:List α}{i:Int}{v:α}(h:atI xs i=some v):∃j,seqIndex? i xs.length=some j/\xs[j]? = some v/\j<xs.length /\ -(xs.length:Int)<=i/\i<xs.length:=by
 unfold atI at h
 cases e:ixN xs.length i with
 | none=>rw[e] at h;cases h
 | some j=>
  rw[e] at h
  obtain⟨h1,h2,h3,h4⟩:=zIb e
  exact⟨j,h1,h,h2,h3,h4⟩
theorem zCh {α:Type}{xs:List α}{j:Nat}{v:α}(h:xs[j]? = some v):atI xs (j:Int)=some v:=by
 have hj:j<xs.length:=(zH.mp h).1
 have e:ixN xs.length (j:Int)=some j:=by
  unfold ixN
  rw[if_pos (by omega),if_pos (by omega)];simp
 unfold atI;rw[e];exact h
noncomputable def zGG (b:Expr):Prop:=∀o i,subscripted b false o i=operate [o,i] (getItem o i)
noncomputable def IxR (X:Cx)(r:R2):Prop:=
 ∀(value slice:Expr)(pins:lPO)(s:Shared)(σ:St)(H:Hp)(x y:V)(v u:Value)(Q:VK),Inv X pins σ H s->zBQ x v->zBQ y u->r x y H Q ->
  subscripted slice false v u=operate [v,u] (getItem v u)->wpAny (model X.prog X.w) X.A (subscriptTail value slice v u) (EP X pins σ Q) X.xe s
noncomputable def MtR (X:Cx)(id:String)(r:V->List V->Hp->VK->Prop):Prop:=
 ∀(pins:lPO)(s:Shared)(σ:St)(H:Hp)(x:V)(xs:List V)(v:Value)(us:List Value)(Q:VK),Inv X pins σ H s->zBQ x v->zBE xs us->r x xs H Q ->
  wpAny (model X.prog X.w) X.A (call (.builtin id) (v::us)) (EP X pins σ Q) X.xe s
variable {σ:St}{H:Hp}{s:Shared}{its:List Value}{x:V}
section
variable {X:Cx}{a b:Expr}{ta tb:TE}{pos:Pos}
theorem pe_ix {r:R2}(hr:IxR X r)(ha:PE X a ta)(hb:PE X b tb)(hs:zGG b):PE X (.Subscript a b pos) (tOp r ta tb):=by
 intro pins s σ H Q I h
 exact Subscript_ (binT ha hb I h fun v u s2 x y H2 I2 rx ry q=>hr a b pins s2 σ H2 x y v u Q I2 rx ry q (hs _ _))
noncomputable def rIxL (K:PySem.W.Frag):R2:=fun x y H Q=>∃p xs i v,x = .ref p/\y = .int i/\SqL K H p xs/\atI xs i=some v/\Q v H
noncomputable def rIxT (K:PySem.W.Frag):R2:=fun x y H Q=>∃p xs i v,x = .ref p/\y = .int i/\SqT K H p xs/\atI xs i=some v/\Q v H
theorem zAZ:IxR X (rIxL X.K):=by
 intro value slice pins s σ H x y v u Q I rx ry h hs
 obtain⟨p,xs,i,z,rfl,rfl,hq,he,q⟩:=h
 cases rx
 obtain⟨t,rfl⟩:=ry
 obtain⟨its,r,pl,hz⟩:=I.list hq
 obtain⟨j,h1,h2,h3,h4,h5⟩:=zI3 he
 obtain⟨w,ew,rw'⟩:=r.get h2
 have hl:=r.length
 have hn:=zFQ
 have fin:EP X pins σ Q w s:=⟨z,H,I,rw',q⟩
 by_cases h0:0<=i
 . have hj:i.toNat=j:=by
    rw[seqIndex_of h0 h5] at h1
    exact zY h1
   exact item_listR pl.isList h0 (by omega) (by rw[hj];simpa using ew) fin hs
 . have hj:(i+(its.toArray.size:Int)).toNat=j:=by
    rw[seqIndex_neg (by omega) h4] at h1
    rw[zT,<-hl]
    exact zY h1
   exact subscriptTail_builtinR (x:=w) pl.isList.typeIs slot_list_getitem.lookup
    (wpAny_getItem_list_neg (Q:=fun r s'=>r=w/\EP X pins σ Q r s') pl.isList (by omega) (by rw[zT] <;> omega) (by omega) (by rw[hj];simpa using ew) ⟨rfl,fin⟩) hs
theorem zAF:IxR X (rIxT X.K):=by
 intro value slice pins s σ H x y v u Q I rx ry h hs
 obtain⟨p,xs,i,z,rfl,rfl,hq,he,q⟩:=h
 cases rx
 obtain⟨t,rfl⟩:=ry
 obtain⟨its,r,pl,hz⟩:=I.tuple hq
 obtain⟨j,h1,h2,h3,h4,h5⟩:=zI3 he
 obtain⟨w,ew,rw'⟩:=r.get h2
 have hl:=r.length
 have hn:=zFQ
 have fin:EP X pins σ Q w s:=⟨z,H,I,rw',q⟩
 exact subscriptTail_builtinR (x:=w) pl.typeIs slot_tuple_getitem.lookup
  (getItem_tuple (j:=j) (Q:=fun r s'=>r=w/\EP X pins σ Q r s') pl (by omega) (by omega) (by rw[zT,<-hl];exact h1) (by simpa using ew) ⟨rfl,fin⟩) hs
theorem zHA (its:List Value)(n j:Nat)(u:Value):Obj.mapSeq (·.setIfInBounds j u) { cls:=.type "list",data:=.seq its.toArray n }={ cls:=.type "list",data:=.seq (its.set j u).toArray n }:=by
 simp[Obj.mapSeq]
theorem Inv.lst {pins:lPO}{p:Addr}(I:Inv X pins σ H s)(h:H p=some (.lst xs)) :
 ∃(its:List Value)(n:Nat),zBE xs its/\s.heap.get? p=some { cls:=.type "list",data:=.seq its.toArray n }/\xs.length<=sizeLine:=by
 obtain⟨z,its,n,r,e⟩:=I.hok p _ h
 exact⟨its,n,r,e,z⟩
theorem Inv.lstUpd {pins:lPO}{p:Addr}{ys:List V}{its':List Value}{n':Nat}{f:Obj->Obj}(I:Inv X pins σ H s)(h:H p=some (.lst xs))
 (ho:s.heap.get? p=some { cls:=.type "list",data:=.seq its.toArray n }) (hf:f { cls:=.type "list",data:=.seq its.toArray n }={ cls:=.type "list",data:=.seq its'.toArray n' }) (r:zBE ys its')(hz:ys.length<=sizeLine)(t:Nat) :
 Inv X pins σ (upd H p (.lst ys)) { s with heap:=s.heap.update p f,toks:=t }:=by
 have e:(s.heap.update p f).get? p=some { cls:=.type "list",data:=.seq its'.toArray n' }:=by
  rw[zAc f ho (by rw[hf] <;> rfl),hf]
 refine I.write (x:=p) (e:=p) (by rw[h];trivial) (.inl rfl) (fun b u hb q=>(Heap.get?_update_other _ _ (Ne.symm hb)).trans q) ⟨_,e⟩ ?_
 exact⟨hz,its',n',r,e⟩
noncomputable def rSetL:V->V->V->Hp->(Hp->Prop)->Prop:=fun o i v H Q=>∃p xs k j,o = .ref p/\i = .int k/\H p=some (.lst xs)/\ixN xs.length k=some j/\Q (upd H p (.lst (xs.set j v)))
theorem zCG:PSet X rSetL:=by
 intro pins s σ H o i v ov iv u Q I ro ri rv h
 obtain⟨p,xs,k,j,rfl,rfl,hp,hj,q⟩:=h
 cases ro
 obtain⟨t,rfl⟩:=ri
 obtain⟨its,n,r,ho,hz⟩:=I.lst hp
 obtain⟨h1,h2,h3,h4⟩:=zIb hj
 have hl:=r.length
 have hn:=zFQ
 have I':Inv X pins σ (upd H p (.lst (xs.set j v))) { s with heap:=s.heap.update p (Obj.mapSeq (·.setIfInBounds j u)) }:=
  I.lstUpd hp ho (zHA its n j u) (r.set rv j) (by rw[zAs];exact hz) s.toks
 by_cases h0:0<=k
 . have hk:k.toNat=j:=by
    rw[seqIndex_of h0 h4] at h1
    exact zY h1
   exact PySem.W.ki_setAt ho h0 (by omega) (by rw[zT,<-hl];exact h4) (by rw[hk];exact⟨_,I',q⟩)
 . have hk:(k+(its.toArray.size:Int)).toNat=j:=by
    rw[seqIndex_neg (by omega) h3] at h1
    rw[zT,<-hl]
    exact zY h1
   exact PySem.W.ki_setBack ho (by omega) (by rw[zT,<-hl];exact h3) (by omega) (by rw[hk];exact⟨_,I',q⟩)
theorem zFB (lo hi:Option Int)(n:Nat):(sliceBounds lo hi none n).1=((HT.sIx n 0 lo:Nat):Int)/\(sliceBounds lo hi none n).2.1=((HT.sIx n n hi:Nat):Int)/\(sliceBounds lo hi none n).2.2=1:=by
 refine⟨?_,?_,rfl⟩
 . cases lo with
   | none=>simp[sliceBounds,HT.sIx]
   | some i=>
    simp only[sliceBounds,HT.sIx,Option.getD_none,show (1:Int) > 0 by decide,if_true]
    by_cases h:i<0
    . simp only[h,if_true] <;> omega
    . simp only[h,if_false] <;> omega
 . cases hi with
   | none=>simp[sliceBounds,HT.sIx]
   | some i=>
    simp only[sliceBounds,HT.sIx,Option.getD_none,show (1:Int) > 0 by decide,if_true]
    by_cases h:i<0
    . simp only[h,if_true] <;> omega
    . simp only[h,if_false] <;> omega
theorem zEj (its:List Value)(lo hi:Option Int):slicePick its.toArray lo hi none=((its.drop (HT.sIx its.length 0 lo)).take (HT.sIx its.length its.length hi-HT.sIx its.length 0 lo)).toArray:=by
 obtain⟨h1,h2,h3⟩:=zFB lo hi its.toArray.size
 unfold slicePick
 rw[h1,h2,h3]
 simp only[sliceRange_one,pick_run,zT] <;> rfl
noncomputable def rSlL (K:PySem.W.Frag):V->Option Int->Option Int->Hp->VK->Prop:=fun x lo hi H Q=>∃a xs,x = .ref a/\SqL K H a xs/\∀p,H p=none->Q (.ref p) (upd H p (.lst (zFx xs lo hi)))
theorem zHq:SlR X (rSlL X.K):=by
 intro pins s σ H x v vl vu lo hi sl Q I rx hs pl pu h
 obtain⟨a,xs,rfl,hx,q⟩:=h
 cases rx
 obtain⟨its,r,ht,hz⟩:=I.list hx
 have hlen:=r.length
 refine⟨"list",_,slot_list_getitem.lookup,ht.isList.typeIs,?_⟩
 refine wpAny_getItem_list_slice ht.isList hs pl pu .none (by simp) ?_ (by rw[zT] <;> omega)
 rw[zEj,<-hlen]
 refine⟨.ref s.heap.objs.size,_,I.laid (t':=s.toks) (o:=.lst (zFx xs lo hi)) (fun b ob q=>zG _ q) (zK _) ?_,rfl,q _ (I.hok.fresh (zK _))⟩
 exact⟨zAH (zD6 xs lo hi) hz,_,0,(r.drop (HT.sIx xs.length 0 lo)).take (HT.sIx xs.length xs.length hi-HT.sIx xs.length 0 lo),zR _ rfl⟩
noncomputable def zEw:V->Bool
 | .non=>true
 | .bl _=>true
 | .int _=>true
 | .str _=>true
 | _=>false
noncomputable def eqV:V->V->Bool
 | .non,.non=>true
 | .bl a,.bl b=>a==b
 | .bl a,.int b=>(if a then 1 else 0)==b
 | .int a,.bl b=>a==(if b then 1 else 0)
 | .int a,.int b=>a==b
 | .str a,.str b=>a==b
 | _,_=>false
theorem eqAt_V {A:Around}{y:V}{u v:Value}(ry:zBQ y u)(rx:zBQ x v)(fy:zEw y=true)(fx:zEw x=true):SeqAt.EqAt A s u v (eqV y x):=by
 cases y with
 | non=>
  cases ry
  cases x with
  | non=>cases rx;exact SeqAt.EqAt.same _
  | bl b=>cases rx;exact SeqAt.EqAt.none_bool b
  | int b=>obtain⟨t,rfl⟩:=rx;exact SeqAt.EqAt.none_int b t
  | str b=>obtain⟨t,rfl⟩:=rx;exact SeqAt.EqAt.none_str b t
  | _=>exact absurd (show false=true from fx) zh
 | bl a=>
  cases ry
  cases x with
  | non=>cases rx;exact SeqAt.EqAt.bool_none a
  | bl b=>cases rx;exact SeqAt.EqAt.bool_bool a b
  | int b=>obtain⟨t,rfl⟩:=rx;exact SeqAt.EqAt.bool_int a b t
  | str b=>obtain⟨t,rfl⟩:=rx;exact SeqAt.EqAt.bool_str a b t
  | _=>exact absurd (show false=true from fx) zh
 | int a=>
  obtain⟨t',rfl⟩:=ry
  cases x with
  | non=>cases rx;exact SeqAt.EqAt.int_none a t'
  | bl b=>cases rx;exact SeqAt.EqAt.int_bool a t' b
  | int b=>obtain⟨t,rfl⟩:=rx;exact SeqAt.EqAt.int_int a t' b t
  | str b=>obtain⟨t,rfl⟩:=rx;exact SeqAt.EqAt.int_str a t' b t
  | _=>exact absurd (show false=true from fx) zh
 | str a=>
  obtain⟨t',rfl⟩:=ry
  cases x with
  | non=>cases rx;exact SeqAt.EqAt.str_none a t'
  | bl b=>cases rx;exact SeqAt.EqAt.str_bool a t' b
  | int b=>obtain⟨t,rfl⟩:=rx;exact SeqAt.EqAt.str_int a t' b t
  | str b=>obtain⟨t,rfl⟩:=rx;exact SeqAt.EqAt.str_str a t' b t
  | _=>exact absurd (show false=true from fx) zh
 | _=>exact absurd (show false=true from fy) zh
noncomputable def eqU (x:V)(u:Value):Bool:=match u with
 | .none=>eqV .non x
 | .bool b=>eqV (.bl b) x
 | .int i _=>eqV (.int i) x
 | .str z _=>eqV (.str z) x
 | _=>false
theorem zKV {y:V}{u:Value}(r:zBQ y u)(f:zEw y=true):eqU x u=eqV y x:=by
 cases y with
 | non=>cases r;rfl
 | bl b=>cases r;rfl
 | int i=>obtain⟨t,rfl⟩:=r;rfl
 | str z=>obtain⟨t,rfl⟩:=r;rfl
 | _=>exact absurd (show false=true from f) zh
theorem zD9 {x:V}:∀{xs:List V}{us:List Value},zBE xs us->xs.all zEw=true->us.any (eqU x)=xs.any fun y=>eqV y x
 | _,_,.nil,_=>rfl
 | y::xs,u::us,.cons r t,f=>by
  rw[List.all_cons,Bool.and_eq_true] at f
  rw[List.any_cons,List.any_cons,zKV r f.1,zD9 t f.2]
theorem zC4 {A:Around}{s:Shared}{x:V}{v:Value}(rx:zBQ x v)(fx:zEw x=true):∀{xs:List V}{us:List Value},zBE xs us->xs.all zEw=true->∀u∈us,SeqAt.EqAt A s u v (eqU x u)
 | _,_,.nil,_=>fun u hu=>by cases hu
 | y::xs,u::us,.cons r t,f=>fun u' hu=>by
  rw[List.all_cons,Bool.and_eq_true] at f
  rcases zi.mp hu with rfl | hu
  . rw[zKV r f.1];exact eqAt_V r rx f.1 fx
  . exact zC4 rx fx t f.2 u' hu
noncomputable def inV (x:V)(xs:List V):Bool:=xs.any fun y=>eqV y x
noncomputable def rIn (K:PySem.W.Frag)(neg:Bool):R2:=fun x y H Q=>∃p xs,y = .ref p/\(SqL K H p xs\/SqT K H p xs)/\zEw x=true/\xs.all zEw=true/\Q (.bl (if neg then !inV x xs else inV x xs)) H
theorem zIE:OpR X (compareOp .In) (rIn X.K false):=by
 intro pins s σ H x y v u Q I rx ry h
 obtain⟨p,xs,rfl,hq,fx,fs,q⟩:=h
 cases ry
 rcases hq with hq | hq
 . obtain⟨its,r,pl,hz⟩:=I.list hq
   refine SeqAt.in_listAt (eqU x) pl.isList (fun w hw=>zC4 rx fx r fs w (by simpa using hw)) ⟨.bl _,H,I,rfl,?_⟩
   rw[show its.toArray.any (eqU x)=its.any (eqU x) by simp,zD9 r fs]
   exact q
 . obtain⟨its,r,pl,hz⟩:=I.tuple hq
   refine SeqAt.in_tupleAt (eqU x) pl (fun w hw=>zC4 rx fx r fs w (by simpa using hw)) ⟨.bl _,H,I,rfl,?_⟩
   rw[show its.toArray.any (eqU x)=its.any (eqU x) by simp,zD9 r fs]
   exact q
theorem zDU:OpR X (compareOp .NotIn) (rIn X.K true):=by
 intro pins s σ H x y v u Q I rx ry h
 obtain⟨p,xs,rfl,hq,fx,fs,q⟩:=h
 cases ry
 rcases hq with hq | hq
 . obtain⟨its,r,pl,hz⟩:=I.list hq
   refine SeqAt.notIn_listAt (eqU x) pl.isList (fun w hw=>zC4 rx fx r fs w (by simpa using hw)) ⟨.bl _,H,I,rfl,?_⟩
   rw[show its.toArray.any (eqU x)=its.any (eqU x) by simp,zD9 r fs]
   exact q
 . obtain⟨its,r,pl,hz⟩:=I.tuple hq
   refine SeqAt.notIn_tupleAt (eqU x) pl (fun w hw=>zC4 rx fx r fs w (by simpa using hw)) ⟨.bl _,H,I,rfl,?_⟩
   rw[show its.toArray.any (eqU x)=its.any (eqU x) by simp,zD9 r fs]
   exact q
theorem zAy:zCl X (.builtin "len") (fun xs H Q=>∃p ys,xs=[.ref p]/\(SqL X.K H p ys\/SqT X.K H p ys)/\Q (.int ys.length) H):=by
 intro pins s σ H xs us Q I r h
 obtain⟨p,ys,rfl,hq,q⟩:=h
 obtain⟨u,rfl,rx⟩:=zCS r
 cases rx
 have hn:=zFQ
 rcases hq with hq | hq
 . obtain⟨its,r',pl,hz⟩:=I.list hq
   have hlen:=r'.length
   exact Calls.call_len_list pl.isList (by simp only[zT] <;> omega) ⟨.int ys.length,H,I.tok _,⟨s.toks+1,by rw[zT,hlen]⟩,q⟩
 . obtain⟨its,r',pl,hz⟩:=I.tuple hq
   have hlen:=r'.length
   exact len_tuple pl (by simp only[zT] <;> omega) ⟨.int ys.length,H,I.tok _,⟨s.toks+1,by rw[zT,hlen]⟩,q⟩
theorem zFp:zCl X (.type "list") (fun xs H Q=>∃p ys,xs=[.ref p]/\(SqL X.K H p ys\/SqT X.K H p ys)/\∀l,H l=none->Q (.ref l) (upd H l (.lst ys))):=by
 intro pins s σ H xs us Q I r h
 obtain⟨p,ys,rfl,hq,q⟩:=h
 obtain⟨u,rfl,rx⟩:=zCS r
 cases rx
 have fin:∀(its:List Value),zBE ys its->ys.length<=sizeLine->∀(h':Heap)(c':Nat),(∀b o',s.heap.get? b=some o'->h'.get? b=some o') ->
  h'.get? s.heap.objs.size=some { cls:=.type "list",dict:=none,data:=.seq its.toArray c',slots:=#[] }->EP X pins σ Q (.ref s.heap.objs.size) { s with heap:=h' }:=fun its r' hz h' c' kp e=>
  ⟨.ref s.heap.objs.size,_,I.laid (t':=s.toks) kp (zK _) (show zBI X.prog X.w _ h' _ (.lst ys) from ⟨hz,its,c',r',e⟩),rfl,q _ (I.hok.fresh (zK _))⟩
 rcases hq with hq | hq
 . obtain⟨its,r',pl,hz⟩:=I.list hq
   have hlen:=r'.length
   obtain⟨o,ho,hc,n,hd⟩:=pl.isList
   exact call_list_seq p (.inl rfl) ho hc hd (fun h' c' kp e=>fin its r' hz h' c' kp e) (by simp only[zT] <;> omega)
 . obtain⟨its,r',pl,hz⟩:=I.tuple hq
   have hlen:=r'.length
   obtain⟨o,ho,hc,n,hd⟩:=pl
   exact call_list_seq p (.inr rfl) ho hc hd (fun h' c' kp e=>fin its r' hz h' c' kp e) (by simp only[zT] <;> omega)
theorem zAS:zCl X (.type "tuple") (fun xs H Q=>∃p ys,xs=[.ref p]/\((SqL X.K H p ys/\∀l,H l=none->Q (.ref l) (upd H l (.tup ys)))\/(SqT X.K H p ys/\Q (.ref p) H))):=by
 intro pins s σ H xs us Q I r h
 obtain⟨p,ys,rfl,h⟩:=h
 obtain⟨u,rfl,rx⟩:=zCS r
 cases rx
 rcases h with ⟨hq,q⟩ | ⟨hq,q⟩
 . obtain⟨its,r',pl,hz⟩:=I.list hq
   have hlen:=r'.length
   refine call_tuple_list pl.isList (fun h' kp=>?_) (by simp only[zT] <;> omega)
   have I1:Inv X pins σ H { s with heap:=h' }:=I.kept (t':=s.toks) kp
   have I2:Inv X pins σ (upd H h'.objs.size (.tup ys)) { s with heap:=h'.push { cls:=.type "tuple",data:=.seq its.toArray } }:=
    I1.laid (t':=s.toks) (fun b o e=>zG _ e) (zK _) (show zBI X.prog X.w _ _ _ (.tup ys) from ⟨⟨hz,_,zR _ rfl,rfl⟩,its,r',IsTup.new _ _⟩)
   exact⟨.ref h'.objs.size,_,I2,rfl,q _ (I1.hok.fresh (zK _))⟩
 . obtain⟨its,r',pl,hz⟩:=I.tuple hq
   exact call_tuple_same pl ⟨.ref p,H,I,rfl,q⟩
noncomputable def tyV (K:PySem.W.Frag)(T:String)(x:V)(H:Hp):Prop:=match x with
 | .str _=>T = "str"
 | .int _=>T = "int"
 | .ref p=>(T = "list" /\ ∃xs,SqL K H p xs)\/(T = "tuple" /\ ∃o,K.lookup p=some o/\o.cls = .type "tuple" /\ o.dict=none) \/
  (T = "dict" /\ ((∃kvs,H p=some (.dK kvs))\/∃kvs,H p=some (.dT kvs)))\/(T = "set" /\ ∃S n,H p=some (.set S n))
 | _=>False
theorem tyV_is {pins:lPO}{T:String}{v:Value}(I:Inv X pins σ H s)(r:zBQ x v)(ty:tyV X.K T x H) :
 s.TypeIs v T/\∀a,v = .ref a->∃ob,s.heap.get? a=some ob/\ob.dict=none:=by
 cases x with
 | str z=>
  obtain⟨t,rfl⟩:=r
  cases (show T = "str" from ty)
  exact⟨typeIs_str s z t,fun _ e=>nomatch e⟩
 | int i=>
  obtain⟨t,rfl⟩:=r
  cases (show T = "int" from ty)
  exact⟨typeIs_int s i t,fun _ e=>nomatch e⟩
 | ref p=>
  cases r
  rcases ty with ⟨rfl,xs,hq⟩ | ⟨rfl,o,hk,hc,hd⟩ | ⟨rfl,hk⟩ | ⟨rfl,S,n,hk⟩
  . obtain⟨its,_,pl,_⟩:=I.list hq
    refine⟨pl.isList.typeIs,fun a e=>?_⟩
    cases e
    obtain⟨o,n,e,c,hd,_⟩:=pl
    exact⟨o,e,hd⟩
  . refine⟨⟨o,I.kIn p o hk,hc⟩,fun a e=>?_⟩
    cases e
    exact⟨o,I.kIn _ o hk,hd⟩
  . have z:∃o,s.heap.get? p=some o/\o.ExactDict:=by
     rcases hk with ⟨kvs,hk⟩ | ⟨kvs,hk⟩
     . obtain⟨_,_,_,_,o,_,_,e,ex,_⟩:=I.hok p _ hk
       exact⟨o,e,ex⟩
     . obtain⟨_,_,_,_,o,_,_,e,ex,_⟩:=I.hok p _ hk
       exact⟨o,e,ex⟩
    obtain⟨o,e,ex⟩:=z
    refine⟨⟨o,e,ex.1⟩,fun a e2=>?_⟩
    cases e2
    exact⟨o,e,ex.2.1⟩
  . obtain⟨o,_,_,_,e,ex,_⟩:=I.hok p _ hk
    refine⟨⟨o,e,ex.1⟩,fun a e2=>?_⟩
    cases e2
    exact⟨o,e,ex.2.1⟩
 | _=>exact False.elim ty
noncomputable def tBM (K:PySem.W.Frag)(T:String)(r:V->List V->Hp->VK->Prop)(to:TE)(t:TA):TE:=fun σ H Q=>to σ H fun x H1=>tyV K T x H1/\t σ H1 fun xs H2=>r x xs H2 Q
variable {o e:Expr}{es:List Expr}{to:TE}{t:TA}{name:Str}{apos cpos:Pos}{T id:String}{r:V->List V->Hp->VK->Prop}
theorem zEG (pa:PlainAttrs T)(slot:Slot T name id)(hty:typeOf (.builtin id)=pure (.type "method_descriptor")) (hm:MtR X id r)(ho:PE X o to)(ha:PA X (e::es) t)
 (hbase:attributeBase o name X.env (eval o X.env)=eval o X.env:=by rfl)
 (hfew:((backTo cpos (starEach (e::es) X.env)).all (fun x=>!x.1) && (backToKw cpos (keywordEach [] X.env)).all (fun x=>x.1.isSome)
  && decide ((e::es).length+([]:List Keyword).length+(if ([]:List Keyword).isEmpty then 0 else 1)<30))=true:=by rfl)
 (hline:(apos.endLine==cpos.line)=true:=by rfl)(hs:starEach (e::es) X.env=(false,eval e X.env)::starEach es X.env:=by rfl)(hplain:(backTo cpos (starEach es X.env)).any (·.1)=false:=by rfl) :
 PE X (.Call (.Attribute o name apos) (e::es) [] cpos) (tBM X.K T r to t):=by
 intro pins s σ H Q I h
 refine wpAny_Call_method_late hbase hfew hline rfl (thn (ho pins s σ H _ I h) fun v s1 ⟨x,H1,I1,r1,ty,q1⟩=>?_)
 obtain⟨h1,h2⟩:=tyV_is I1 r1 ty
 refine⟨T,id,pa,slot,hty,h1,h2,?_⟩
 have hA:=ha cpos pins s1 σ H1 _ I1 q1
 rw[hs] at hA ⊢
 refine Calls.callWith_builtin (by show (false || (backTo cpos (starEach es X.env)).any (·.1))=false;rw[hplain] <;> rfl) (Calls.evalArgs_plain ?_)
 exact thn hA fun us s2 ⟨vs,H2,I2,r2,q2⟩=>hm pins s2 σ H2 x vs v us Q I2 r1 r2 q2
end
noncomputable def MtM (X:Cx)(id:String)(r:V->List V->Hp->VK->Prop):Prop:=
 ∀(pins:lPO)(s:Shared)(σ:St)(H:Hp)(x:V)(xs:List V)(v:Value)(us:List Value)(Q:VK),Inv X pins σ H s->zBQ x v->zBE xs us->r x xs H Q ->
  wpAny (model X.prog X.w) X.A (call (.builtin id) (v::us)) (EP X pins σ Q) X.xe s
theorem zBE.one:∀{x:V}{us:List Value},zBE [x] us->∃u,us=[u]/\zBQ x u
 | _,_,.cons r .nil=>⟨_,rfl,r⟩
theorem zBE.eraseIdx:∀{xs:List V}{us:List Value}(i:Nat),zBE xs us->zBE (xs.eraseIdx i) (us.eraseIdx i)
 | _,_,_,.nil=>.nil
 | _,_,0,.cons _ t=>t
 | _,_,i+1,.cons r t=>.cons r (zBE.eraseIdx i t)
theorem zBE.rep {xs:List V}{us:List Value}(h:zBE xs us):∀k:Nat,zBE (List.replicate k xs).flatten (List.replicate k us).flatten
 | 0=>.nil
 | k+1=>by
  rw[zBR,zBR,List.flatten_cons,List.flatten_cons]
  exact zBE.append h (zBE.rep h k)
theorem zFR {α:Type}:∀(l:List α)(i:Nat),(l.eraseIdx i).length<=l.length
 | [],_=>zK _
 | _::_,0=>zAq _
 | _::r,i+1=>Nat.succ_le_succ (zFR r i)
theorem zFY (its:List Value):∀(k:Nat)(acc:List Value),
 List.foldl (fun x1 x2=>x1++x2) acc.toArray (List.replicate k its.toArray)=(acc++(List.replicate k its).flatten).toArray
 | 0,acc=>by simp
 | k+1,acc=>by
  have e:acc.toArray++its.toArray=(acc++its).toArray:=by simp
  have e2:(acc++its)++(List.replicate k its).flatten=acc++(List.replicate (k+1) its).flatten:=by
   rw[zBR,List.flatten_cons,List.append_assoc]
  rw[<-e2,<-zFY its k (acc++its),<-e,zBR,List.foldl_cons]
section
variable {X:Cx}{pins:lPO}{σ:St}{H:Hp}{s:Shared}{l b:Addr}{xs ys zs:List V}
theorem Inv.lset {its':List Value}{f:Array Value->Array Value}{t':Nat}(I:Inv X pins σ H s)(hH:H l=some (.lst xs))
 (e:s.heap.get? l=some { cls:=.type "list",data:=.seq its.toArray n }) (hf:f its.toArray=its'.toArray)(hv:zBE ys its')(hz:ys.length<=sizeLine) :
 Inv X pins σ (upd H l (.lst ys)) { s with heap:=s.heap.update l (Obj.mapSeq f),toks:=t' }:=by
 have q:=PySem.IsL.update e f
 rw[hf] at q
 refine I.write (x:=l) (e:=l) (by rw[hH];exact trivial) (.inl rfl) (fun b' u hb hu=>(Heap.get?_update_other s.heap (Obj.mapSeq f) (Ne.symm hb)).trans hu) ⟨_,q⟩ ?_
 exact⟨hz,its',_,hv,q⟩
theorem Inv.lnew {t':Nat}(I:Inv X pins σ H s)(hv:zBE ys its)(hz:ys.length<=sizeLine) :
 Inv X pins σ (upd H s.heap.objs.size (.lst ys)) { s with heap:=s.heap.push { cls:=.type "list",data:=.seq its.toArray },toks:=t' }:=
 I.laid (fun _ _ q=>zG _ q) (zK _) ⟨hz,its,0,hv,zR _ rfl⟩
theorem Inv.fresh (I:Inv X pins σ H s):H s.heap.objs.size=none:=I.hok.fresh (zK _)
theorem Inv.lstM (I:Inv X pins σ H s)(hH:H l=some (.lst xs)):xs.length<=sizeLine/\∃(its:List Value)(n:Nat),zBE xs its/\xs.length=its.length/\s.heap.get? l=some { cls:=.type "list",data:=.seq its.toArray n }:=by
 obtain⟨z,its,n,r,e⟩:=I.hok l _ hH
 exact⟨z,its,n,r,r.length,e⟩
theorem zGb (h:n<=sizeLine):Builtin.List.listTooLong n=false:=by
 unfold Builtin.List.listTooLong
 exact zl (by omega)
end
section
variable {X:Cx}
noncomputable def zK2:V->List V->Hp->VK->Prop:=fun x vs H Q=>∃l xs y,x = .ref l/\vs=[y]/\H l=some (.lst xs)/\xs.length<sizeLine/\Q .non (upd H l (.lst (xs++[y])))
theorem zBx:MtM X "list.append" zK2:=by
 intro pins s σ H x vs v us Q I rx rv h
 obtain⟨l,xs,y,rfl,rfl,hH,hz,q⟩:=h
 cases rx
 obtain⟨u,rfl,ru⟩:=rv.one
 obtain⟨z,its,n,r,hl,e⟩:=I.lstM hH
 refine call_meets F.slot_list_append ⟨_,e,rfl⟩ F.entry_list_append (F.args_list_append_2 _ _) (PySem.list_append l its.toArray n u (by rw[zT];omega)) ⟨e,?_⟩
 refine⟨.non,_,I.lset (its':=its++[u]) hH e (by simp) (r.append (.cons ru .nil)) ?_,rfl,q⟩
 rw[zL,List.length_singleton]
 omega
noncomputable def zK1:V->List V->Hp->VK->Prop:=fun x vs H Q=>∃l b xs zs,x = .ref l/\vs=[.ref b]/\H l=some (.lst xs)/\H b=some (.lst zs)/\xs.length+zs.length<=sizeLine/\Q .non (upd H l (.lst (xs++zs)))
theorem zIN:MtM X "list.extend" zK1:=by
 intro pins s σ H x vs v us Q I rx rv h
 obtain⟨l,b,xs,zs,rfl,rfl,hH,hB,hz,q⟩:=h
 cases rx
 obtain⟨u,rfl,ru⟩:=rv.one
 cases ru
 obtain⟨z,its,n,r,hl,e⟩:=I.lstM hH
 obtain⟨z2,its2,n2,r2,hl2,e2⟩:=I.lstM hB
 have hsz:its.toArray.size+its2.toArray.size<=sizeLine:=by rw[zT,zT];omega
 have hlong:¬ (!its.toArray.isEmpty && Builtin.List.listTooLong (its.toArray.size+its2.toArray.size))=true:=by
  rw[zGb hsz,Bool.and_false]
  exact zh
 refine call_meets F.slot_list_extend ⟨_,e,rfl⟩ F.entry_list_extend (F.args_list_extend_2 _ _)
  (AutoSeq1.list_extend_list_list_0 l its.toArray n b its2.toArray n2 hlong (by rw[zT];omega) (by omega)) ⟨e,e2,?_⟩
 refine⟨.non,_,I.lset (its':=its++its2) hH e (by simp) (r.append r2) ?_,rfl,q⟩
 rw[zL]
 omega
noncomputable def rPopAt:V->List V->Hp->VK->Prop:=fun x vs H Q=>∃l xs i k y,x = .ref l/\vs=[.int i]/\H l=some (.lst xs) /\ -(2 ^ 63)<=i/\i<2 ^ 63/\seqIndex? i xs.length=some k/\xs[k]? = some y/\Q y (upd H l (.lst (xs.eraseIdx k)))
theorem zJn:MtM X "list.pop" rPopAt:=by
 intro pins s σ H x vs v us Q I rx rv h
 obtain⟨l,xs,i,k,y,rfl,rfl,hH,h1,h2,hk,hy,q⟩:=h
 cases rx
 obtain⟨u,rfl,ru⟩:=rv.one
 obtain⟨t,rfl⟩:=ru
 obtain⟨z,its,n,r,hl,e⟩:=I.lstM hH
 obtain⟨w,hw,rw'⟩:=r.get hy
 refine call_meets F.slot_list_pop ⟨_,e,rfl⟩ F.entry_list_pop (F.args_list_pop_2 _ _)
  (MeetsSeq.list_pop_at l its.toArray n i t k w (fitsIndex_both h1 h2) (by rw[zT,<-hl];exact hk) (by rw[<-Array.getElem?_toList];exact hw) (by rw[zT];omega)) ⟨e,?_⟩
 refine⟨y,_,I.lset (its':=its.eraseIdx k) hH e ?_ (r.eraseIdx k) ?_,rw',q⟩
 . show its.toArray.eraseIdxIfInBounds k=(its.eraseIdx k).toArray
   rw[List.eraseIdxIfInBounds_toArray]
 . have:=zFR xs k
   omega
noncomputable def rCat:R2:=fun x y H Q=>∃l b xs zs,x = .ref l/\y = .ref b/\H l=some (.lst xs)/\H b=some (.lst zs)/\xs.length+zs.length<=sizeLine/\∀p,H p=none->Q (.ref p) (upd H p (.lst (xs++zs)))
theorem op_cat:OpR X (binaryOp .Add) rCat:=by
 intro pins s σ H x y v u Q I rx ry h
 obtain⟨l,b,xs,zs,rfl,rfl,hH,hB,hz,q⟩:=h
 cases rx
 cases ry
 obtain⟨z,its,n,r,hl,e⟩:=I.lstM hH
 obtain⟨z2,its2,n2,r2,hl2,e2⟩:=I.lstM hB
 refine PySem.P.add_list e e2 ?_ (by rw[zT,zT];omega)
 have ea:its.toArray++its2.toArray=(its++its2).toArray:=by simp
 rw[ea]
 exact⟨.ref _,_,I.lnew (t':=s.toks) (r.append r2) (by rw[zL];omega),rfl,q _ I.fresh⟩
noncomputable def rRep:R2:=fun x y H Q=>∃l k xs,x = .ref l/\y = .int k/\H l=some (.lst xs) /\ -(2 ^ 63)<=k/\k<2 ^ 63/\xs.length*k.toNat<=sizeLine /\
 ∀p,H p=none->Q (.ref p) (upd H p (.lst (List.replicate k.toNat xs).flatten))
theorem zLT {α:Type}(xs:List α)(k:Nat):(List.replicate k xs).flatten.length=k*xs.length:=by
 induction k with
 | zero=>simp
 | succ k ih=>rw[zBR,List.flatten_cons,zL,ih,Nat.succ_mul,Nat.add_comm]
theorem op_rep:OpR X (binaryOp .Mult) rRep:=by
 intro pins s σ H x y v u Q I rx ry h
 obtain⟨l,k,xs,rfl,rfl,hH,h1,h2,hz,q⟩:=h
 cases rx
 obtain⟨t,rfl⟩:=ry
 obtain⟨z,its,n,r,hl,e⟩:=I.lstM hH
 have hlen:its.toArray.size*k.toNat<=sizeLine:=by rw[zT,<-hl];exact hz
 have hcap:¬ its.toArray.size*k.toNat > (2 ^ 63-1)/8:=by
  have:(sizeLine:Nat)<=(2 ^ 63-1)/8:=by decide
  omega
 have hfit:¬ (!Builtin.List.listFitsIndex k)=true:=by
  rw[fitsIndex_both h1 h2]
  exact zh
 have hlong:¬ Builtin.List.listTooLong (its.toArray.size*k.toNat)=true:=by
  rw[zGb hlen]
  exact zh
 have hnew:List.foldl (fun x1 x2=>x1++x2) #[] (List.replicate (if its.toArray.isEmpty=true then 0 else k.toNat) its.toArray)=(List.replicate k.toNat its).flatten.toArray:=by
  have f0:∀m:Nat,List.foldl (fun x1 x2=>x1++x2) #[] (List.replicate m its.toArray)=(List.replicate m its).flatten.toArray:=fun m=>by
   have:=zFY its m []
   rw[List.nil_append] at this
   exact this
  rw[f0]
  cases its with
  | nil=>simp
  | cons a r'=>rw[if_neg (by simp)]
 refine wpAny_binaryOp_repeat_ref (T := "list") (U := "int") (by decide) ⟨_,e,rfl⟩ (fun s'=>typeIs_int s' k t) noFill_list_mul F.fills_int_mul F.slot_int_rmul repeat_list F.slot_int_index.lookup
  (call_meets F.slot_int_rmul (typeIs_int s k t) F.entry_int_rmul (F.args_int_rmul_2 _ _) (int___rmul___int_list k t l its.toArray n)
   ⟨e,rfl,⟨_,e,rfl⟩,call_meets F.slot_list_mul ⟨_,e,rfl⟩ F.entry_list_mul (F.args_list_mul_2 _ _) (AutoListH.list___mul___list_int_3 l its.toArray n k t hfit hcap hlong) ⟨e,?_⟩⟩)
 rw[hnew]
 exact⟨.ref _,_,I.lnew (t':=s.toks) (r.rep k.toNat) (by rw[zLT,Nat.mul_comm];exact hz),rfl,q _ I.fresh⟩
end
section
variable {prog:Program}{w:World}{A:Around}{E:vSP}{s:Shared}
set_option maxRecDepth 100000 in
end
end L2
namespace Att
open PySem PySem.W PySem.Calls PyProof.Rows
theorem zD0 {P:Params}{h:Heap}:∀(ns:List Int)(vs:List Value),WellAll P h vs (ns.map WData.int)->IntsAre vs ns:=by
 intro ns
 induction ns with
 | nil=>
  intro vs w
  rw[List.map_nil] at w
  cases w
  exact .nil
 | cons n ns ih=>
  intro vs w
  rw[zAV] at w
  cases w with
  | cons a b=>
   cases a
   exact .cons _ _ (ih _ b)
theorem zHs {l:OpenLaw}{n:Nat}(hn:l.most=some n){P:Params}{h:Heap}{args:List WData}{vals:List Value}
 (hpre:l.row.toRowW.claim.pre args=true)(hwl:WellAll P h vals args) :
 ∃a vs ns,vals=[Value.ref a]/\args=[WData.list (ns.map WData.int)]/\h.get? a=some { cls:=.type "list",data:=.seq vs.toArray }/\IntsAre vs ns/\ns.length<=n:=by
 have hsh:WShape.hasAll [] args [.list .int]=true:=(pre_splitW hpre).1
 have hc:l.pre.holds [] { args:=args }=true:=(pre_splitW hpre).2
 obtain⟨d,r,rfl,h1,h2⟩:=hasAllW_cons hsh
 obtain rfl:=hasAllW_nil h2
 obtain⟨xs,rfl,h3⟩:=hasW_list h1
 obtain⟨ns,rfl⟩:=items_int h3
 have hlen:ns.length<=n:=by
  unfold OpenLaw.pre at hc
  have h4:(WTm.not (.lt (.lit (.int (n:Int))) (.len (.arg 0)))).holds [] { args:=[.list (ns.map .int)] }=true:=by
   have h4:=(holds_andW hc).1
   rw[hn] at h4
   exact h4
  have h5:=condW_of h4 (w_not (w_lt w_lit (w_len_list (w_arg rfl))))
  rw[zC] at h5
  refine Nat.le_of_not_lt fun q=>?_
  have q':(n:Int)<((ns.length:Nat):Int):=by omega
  first
   | (rw[zU q'] at h5;exact absurd h5 (by decide))
   | (simp at h5;omega)
 cases hwl with
 | cons w1 w2=>
  cases w2
  cases w1 with
  | list ho hall=>exact⟨_,_,ns,rfl,rfl,ho,zD0 ns _ hall,hlen⟩
theorem zH8 (l:OpenLaw)(args:List WData):l.row.toRowW.claim.post args (.bool true) args=true:=
 postW_of (r:=l.row.toRowW) (X:=(true==true))
  (show WShape.has [] (.bool true) .bool=true by first | rfl | decide | simp[WShape.has,WShape.arms,WShape.armsAll])
  (show (WTm.eq .res (.lit (.bool true))).value [] { args:=args,res:=some (.bool true),after:=args }=some (.bool (true==true)) from w_eq_bool (w_res rfl) w_lit) rfl
theorem attach_call {l:OpenLaw}{n:Nat}{q:Program}{loose:List Str}{XP:(Str->Option Value)->Heap->Prop}{YP:World->Heap->Prop}{d:DefRec}
 (hn:l.most=some n)(hdf:d.params.defaults=[])
 (call:∀(w:World)(s₀ s₁:Shared)(mg mb:sOV)(fa:Addr)(o:Obj)(pm cd doc:Value)(a:Addr)(vs:List Value)(ns:List Int),
  Ground q loose [] XP w s₀ mg mb s₁.heap->YP w s₁.heap ->
  s₁.heap.get? fa=some o->o.data = .func (docDef d.name d.params d.body d.scope pm cd doc)->s₁.heap.CodeRec cd d.name->mg d.name=some (.ref fa) ->
  s₁.heap.get? a=some { cls:=.type "list",data:=.seq vs.toArray }->IntsAre vs ns->ns.length<=n->s₁.gens = #[] ->
  codeAny (model l.prog w) callerA (.call (.ref fa) ⟨[.ref a],[]⟩) (fun r s'=>r = .ok (.ret (.bool true))/\OldK s₁.heap s'.heap/\s'.os=s₁.os/\AllBare s'.gens) s₁) :
 WalkO q loose XP YP l.row.toRowW d [] (fun f vs=>PySem.call f vs):=by
 intro w s₀ s₁ mg mb G Y fa o pm cd doc dV kV ho hd hcd hD hmg hg args vals as hpre hlay hrd hwl hlo
 obtain rfl:dV = .none:=Dflts.none hD hdf
 obtain rfl:kV = .none:=Dflts.noKw hD
 obtain⟨a,vs,ns,rfl,rfl,hobj,hints,hlen⟩:=zHs hn hpre hwl
 refine enter_call (codeAny_mono (call w s₀ s₁ mg mb fa o pm cd doc a vs ns G Y ho (fd_plain hd) hcd hmg hobj hints hlen hg) fun r s' hq=>?_)
 obtain⟨rfl,h2,h3,h4⟩:=hq
 exact⟨.inl ⟨.bool true,.bool true,[],rfl,fun _=>rfl,.bool true,zH8 l _,fun _=>⟨zBk,fun _ hm=>(nomatch hm)⟩⟩,h2,h3,h4⟩
end Att
namespace L2
open PySem PySem.Spec PyProof.Rows
theorem zE4:∀{vs:List Value}{ns:List Int},IntsAre vs ns->zBE (ns.map V.int) vs
 | _,_,.nil=>.nil
 | _,_,.cons n t h=>.cons ⟨t,rfl⟩ (zE4 h)
noncomputable abbrev CX0:CXT:=fun _ _ _ _ _ _=>False
noncomputable abbrev E0:XK:=fun _ _ _=>False
theorem zK8 {X:Cx}:zGq CX0 X E0:=fun _ _ _ _ _ _ _ h=>h.elim
structure Fun (K:PySem.W.Frag)(x qual:Str)(st:Stmt)(f:Addr)(fd:FuncData):Prop where
 ex:∃(oc:Value)(od:Option Addr)(kV doc pm:Value)(an:Option Addr)(cdv ct:Value)(osl:Array (Option Value)),
  fd=PySem.W.fnOf x qual (defArgs st) (defBody st) (defScope st) .none kV doc pm an cdv ct/\K.lookup f=some ⟨oc,od,.func fd,osl⟩/\PySem.W.codeIn K cdv qual=true
 kp:PySem.W.keepIn K (.ref f)=true
variable {x qual:Str}{st:Stmt}{f:Addr}
section
variable {P:Program}{w:World}{K:PySem.W.Frag}{mg:sOV}{base:Heap}
theorem Fun.ok {fd:FuncData}{N ps:List Str}{k:Nat}{sp:Sp}(F:Fun K x qual st f fd)(S:zw N ps (defScope st))(len:∀vs H Q E,sp vs H Q E->vs.length=ps.length)
 (hbody:∀(cdv:Value)(A:Around)(outer:List Env)(s:Shared)(H:Hp)(vs:List V)(Q:VK)(E:XK),zCa k (A.deeper (envOfC qual (defScope st) s.heap.objs.size f cdv))->sp vs H Q E ->
  ∃t,PSs (zGm CX0 P w K mg base N qual (defScope st) f cdv A outer s H E).nox (defBody st) t/\t { nx:=fun _ H'=>Q .non H',rt:=Q } (start N vs) H):zAP P w K mg base CX0 (k+1) f fd ps sp:=by
 obtain⟨oc,od,kV,doc,pm,an,cdv,ct,osl,rfl,lk,hcd⟩:=F.ex
 refine zLc lk hcd S len fun A outer s H vs Q E hr hsp=>?_
 obtain⟨t,h,q⟩:=hbody cdv A outer s H vs Q E hr hsp
 exact⟨t,h.nox,q⟩
theorem Fun.binds {fd:FuncData}{ps:List Str}(F:Fun K x qual st f fd)
 (h:∀(kV doc pm:Value)(an:Option Addr)(cdv ct:Value)(us:List Value),us.length=ps.length->bindArgs (PySem.W.fnOf x qual (defArgs st) (defBody st) (defScope st) .none kV doc pm an cdv ct) ⟨us,[]⟩=pure (ps.zip us)):zCx K fd ps []:=by
 obtain⟨oc,od,kV,doc,pm,an,cdv,ct,osl,rfl,lk,hcd⟩:=F.ex
 exact .all (h kV doc pm an cdv ct)
theorem zKS {oc:Value}{od an:Option Addr}{osl:Array (Option Value)}{kV doc pm cdv ct:Value}(l:K.lookup f=some ⟨oc,od,.func (PySem.W.fnOf x qual (defArgs st) (defBody st) (defScope st) .none kV doc pm an cdv ct),osl⟩)
 (c:PySem.W.codeIn K cdv qual=true)(k:PySem.W.keepIn K (.ref f)=true):Fun K x qual st f (PySem.W.fnOf x qual (defArgs st) (defBody st) (defScope st) .none kV doc pm an cdv ct):=⟨⟨oc,od,kV,doc,pm,an,cdv,ct,osl,rfl,l,c⟩,k⟩
end
theorem zHH {A:Around}{k:Nat}(hr:zCa k A):A.units+1<cLine:=zAU (Nat.add_le_add_left (by decide:1<=64) _) hr.units
section
variable {X:Cx}
theorem pv (i:Nat){x:Str}{pos:Pos}(hN:X.N[i]? = some x:=by rfl)(hv:Vis X.env.scope x:=by first | exact Or.inl rfl | exact Or.inr (Or.inl rfl) | exact Or.inr (Or.inr rfl))(hd:(x==("__debug__" : Str))=false:=by decide)
 (hcd:(x==("__classdict__" : Str))=false:=by decide):PE X (.Name x pos) (tVar i):=pe_var hN hv hd hcd
end
variable {A B:Prop}
theorem zDH (h:B):if false=true then A else B:=by
 rw[if_neg zh]
 exact h
theorem zEv (h:A):if true=true then A else B:=by
 rw[if_pos rfl]
 exact h
theorem zFW {c:Prop} [Decidable c] (h1:c->A)(h2:¬ c->B):if c then A else B:=by
 by_cases h:c
 . rw[if_pos h]
   exact h1 h
 . rw[if_neg h]
   exact h2 h
noncomputable def zAi (H H':Hp):Prop:=∀b o,H b=some o->H' b=some o
theorem zAi.refl (H:Hp):zAi H H:=fun _ _ h=>h
theorem zAi.trans {H H1 H2:Hp}(a:zAi H H1)(b:zAi H1 H2):zAi H H2:=fun c o h=>b c o (a c o h)
section
variable {κ:Type} [DecidableEq κ]
theorem zGJ {kvs:List (κ×V)}{k:κ}(h:zCA kvs k=none):¬ k∈kvs.map (·.1):=by
 intro m
 obtain⟨p,hp,e⟩:=zAI.mp m
 have q:(kvs.any fun kv=>decide (kv.1=k))=true:=List.any_eq_true.mpr ⟨p,hp,zU e⟩
 rw[zB5,h] at q
 exact absurd q (by simp)
theorem zKZ {kvs:List (κ×V)}{k:κ}{v:V}(h:zCA kvs k=some v):k∈kvs.map (·.1):=by
 have q:(kvs.any fun kv=>decide (kv.1=k))=true:=by
  rw[zB5,h]
  all_goals rfl
 obtain⟨p,hp,e⟩:=List.any_eq_true.mp q
 exact zAI.mpr ⟨p,hp,of_decide_eq_true e⟩
theorem zIK:∀{l:List κ}{k:κ},l.Nodup->¬ k∈l->(l++[k]).Nodup
 | [],k,_,_=>by simp
 | a::r,k,h,hk=>by
  obtain⟨h1,h2⟩:=zAl.mp h
  show (a::(r++[k])).Nodup
  refine zAl.mpr ⟨fun m=>?_,zIK h2 fun m=>hk (zi.mpr (Or.inr m))⟩
  rcases zm.mp m with q | q
  . exact h1 q
  . exact hk (zi.mpr (Or.inl (zf.mp q).symm))
theorem zIL {kvs:List (κ×V)}{k:κ}(v:V)(hn:(kvs.map (·.1)).Nodup)(h:zCA kvs k=none):((zCT kvs k v).map (·.1)).Nodup:=by
 rw[zGW v h,zS]
 exact zIK hn (zGJ h)
theorem zFf {p:κ×V}{r:List (κ×V)}{k:κ}(e:p.1=k):zCM (p::r) k=zCM r k:=by
 unfold zCM
 rw[zBu,if_neg (by simp[e])]
theorem zFg {p:κ×V}{r:List (κ×V)}{k:κ}(e:¬ p.1=k):zCM (p::r) k=p::zCM r k:=by
 unfold zCM
 rw[zBu,if_pos (by simp[e])]
theorem zFh {kvs:List (κ×V)}{k:κ}{p:κ×V}(h:p∈zCM kvs k):p∈kvs:=(zAG.mp h).1
theorem zEs:∀{kvs:List (κ×V)}{k:κ},(kvs.map (·.1)).Nodup->((zCM kvs k).map (·.1)).Nodup
 | [],_,_=>List.nodup_nil
 | p::r,k,h=>by
  have h:(p.1::r.map (·.1)).Nodup:=h
  obtain⟨h1,h2⟩:=zAl.mp h
  by_cases e:p.1=k
  . rw[zFf e]
    exact zEs h2
  . rw[zFg e]
    show (p.1::(zCM r k).map (·.1)).Nodup
    refine zAl.mpr ⟨fun m=>h1 ?_,zEs h2⟩
    obtain⟨q,hq,eq⟩:=zAI.mp m
    exact zAI.mpr ⟨q,zFh hq,eq⟩
end
end L2
set_option Elab.async false
set_option linter.all false
set_option maxRecDepth 100000
set_option maxHeartbeats 4000000
namespace L2
open PySem PySem.Spec PyProof.Rows
theorem zDW {prog:Program}{w:World}{A:Around}{R:Result->Shared->Prop}{s:Shared}{elt target iter:Expr}{ifs:List Expr}{scope:Scope}{pos:Pos}{it acc:Value}{env:Env}(I:Nat->Shared->Prop)
 (turn:∀n s,I n s->wpAny (model prog w) A (pyNext it) (fun r s₁=>match r with
  | none=>R (.ok .next) s₁
  | some v=>wpAny (model prog w) A (letOwnedTupleGo target it v) (fun _ s₁'=>wpAny (model prog w) A (assign target env v) (fun _ s₂=>
   wpAny (model prog w) A (forIn ifs true fun c r=>if r=true then do let ok <-isTrue c env (eval c env);pure (ForInStep.yield ok) else pure (ForInStep.yield r)) (fun ok s₃=>
    if ok=true then wpAny (model prog w) A (eval elt env) (fun x s₄=>
     wpAny (model prog w) A (call (.builtin "list.append") [acc,x]) (fun _ s₅=>∃m,m<n/\I m s₅) (fun _ _=>False) s₄) (fun _ _=>False) s₃
    else ∃m,m<n/\I m s₃) (fun _ _=>False) s₂) (fun _ _=>False) s₁') (fun _ _=>False) s₁) (fun _ _=>False) s)
 (n:Nat)(h:I n s):codeAny (model prog w) A (.compLoop (.ListComp elt [⟨target,iter,ifs,0⟩] scope pos) 0 it acc env) R s:=by
 refine codeAny_loop rfl I (fun n s hI=>?_) n h
 show wpAny _ A ((compTurn (.ListComp elt [⟨target,iter,ifs,0⟩] scope pos) 0 it acc env).onRaise (fun x=>do noteFrame x env;theTreesLotGoes x)) _ _ s
 refine wpAny_noted ?_
 rw[compTurn_list]
 refine zA (zBn (zA (zAM (turn n s hI) (fun r s₁ h₁=>?_) fun _ _ h'=>h'.elim)))
 cases r with
 | none=>exact zF h₁
 | some v=>
  refine zA (zAM h₁ (fun _ s₁' h₁'=>?_) fun _ _ h'=>h'.elim)
  refine zA (zAM h₁' (fun _ s₂ h₂=>zA (zAM h₂ (fun ok s₃ h₃=>?_) fun _ _ h'=>h'.elim)) fun _ _ h'=>h'.elim)
  cases ok with
  | false=>exact zF ⟨rfl,h₃⟩
  | true=>
   exact zA (zA (zAM h₃ (fun x s₄ h₄=>zA (zAM h₄ (fun _ s₅ h₅=>zF (zF ⟨rfl,h₅⟩)) fun _ _ h'=>h'.elim)) fun _ _ h'=>h'.elim))
noncomputable def PTs (X:Cx)(ifs:List Expr)(t:TT):Prop:=
 ∀(pins:lPO)(s:Shared)(σ:St)(H:Hp)(Q:Bool->Hp->Prop),Inv X pins σ H s->t σ H Q ->
  wpAny (model X.prog X.w) X.A (forIn ifs true fun c r=>if r=true then do let ok <-isTrue c X.env (eval c X.env);pure (ForInStep.yield ok) else pure (ForInStep.yield r)) (TP X pins σ Q) X.xe s
noncomputable def tYes:TT:=fun _ H Q=>Q true H
theorem zEO {σ:St}{H:Hp}{A B:Hp->Prop}(h:A H):tYes σ H (fun b H3=>if b=true then A H3 else B H3):=by
 show (if true=true then A H else B H)
 exact zEv h
variable {X:Cx}
theorem zBH:PTs X [] tYes:=fun _ _ _ H _ I h=>wpAny_tests_nil ⟨H,I,h⟩
theorem zCK {c:Expr}{t:TT}(h:PT X c t):PTs X [c] t:=fun pins s σ H Q I q=>wpAny_tests_one (h pins s σ H Q I q)
noncomputable def zCr (cells:List (Str×Addr)):List (Str×NameKind)->List (Str×Addr)->List (Str×Addr)
 | [],acc=>acc
 | (n,k)::r,acc=>if (k == .free)=true then (match cells.lookup n with | some c=>zCr cells r ((n,c)::acc) | none=>zCr cells r acc) else zCr cells r acc
theorem zDA {cells:List (Str×Addr)}{x:Str}{c:Addr}:∀(names:List (Str×NameKind))(acc:List (Str×Addr)),(zCr cells names acc).lookup x=some c->acc.lookup x=some c\/cells.lookup x=some c
 | [],acc,h=>.inl h
 | (n,k)::r,acc,h=>by
  unfold zCr at h
  split at h
  . cases hc:cells.lookup n with
    | none=>rw[hc] at h;exact zDA r acc h
    | some c'=>
     rw[hc] at h
     rcases zDA r _ h with q | q
     . rw[zAu] at q
       cases hx:x==n with
       | true=>
        rw[hx] at q
        have e:x=n:=by simpa using hx
        have e2:c'=c:=by simpa using q
        rw[e,hc,e2]
        exact .inr rfl
       | false=>rw[hx] at q;exact .inl q
     . exact .inr q
  . exact zDA r acc h
theorem zDh {cells:List (Str×Addr)}{x:Str}:∀(names:List (Str×NameKind))(acc:List (Str×Addr)),(∃c,acc.lookup x=some c)->∃c,(zCr cells names acc).lookup x=some c
 | [],acc,h=>h
 | (n,k)::r,acc,h=>by
  unfold zCr
  split
  . cases hc:cells.lookup n with
    | none=>exact zDh r acc h
    | some c'=>
     refine zDh r _ ?_
     rw[zAu]
     cases hx:x==n with
     | true=>exact⟨c',rfl⟩
     | false=>exact h
  . exact zDh r acc h
theorem zCo {cells:List (Str×Addr)}{x:Str}(hx:∃c,cells.lookup x=some c):∀(names:List (Str×NameKind))(acc:List (Str×Addr)),(x,NameKind.free)∈names->∃c,(zCr cells names acc).lookup x=some c
 | [],acc,h=>by simp at h
 | (n,k)::r,acc,h=>by
  rcases zi.mp h with e | h
  . cases e
    obtain⟨c,hc⟩:=hx
    unfold zCr
    rw[if_pos (by rfl),hc]
    exact zDh r _ ⟨c,by rw[zAu];simp⟩
  . unfold zCr
    split
    . cases hc:cells.lookup n with
      | none=>exact zCo hx r acc h
      | some c'=>exact zCo hx r _ h
    . exact zCo hx r acc h
theorem zDN {env:Env}:∀(names:List (Str×NameKind))(acc:List (Str×Addr)),(∀y∈names,y.2 = .free->∃c,env.cells.lookup y.1=some c) ->
 (forIn names acc fun (x:Str×NameKind)(cs:List (Str×Addr))=>(if (x.2 == .free)=true then (do let a <-cellOf env x.1;pure (ForInStep.yield ((x.1,a)::cs))) else pure (ForInStep.yield cs):Sem (ForInStep (List (Str×Addr)))))=pure (zCr env.cells names acc)
 | [],acc,_=>rfl
 | (n,k)::r,acc,h=>by
  rw[List.forIn_cons]
  have hr:∀y∈r,y.2 = .free->∃c,env.cells.lookup y.1=some c:=fun y hy=>h y (zc _ hy)
  unfold zCr
  cases hk:(k==NameKind.free) with
  | true=>
   obtain⟨c,hc⟩:=h (n,k) zV (by simpa using hk)
   simp only[hk,if_true,cellOf,hc,pure_bind]
   exact zDN r _ hr
  | false=>
   simp only[hk,zA2,if_false,pure_bind]
   exact zDN r _ hr
theorem zCW {scope:Scope}{env:Env}(h:∀y∈scope.names,y.2 = .free->∃c,env.cells.lookup y.1=some c):closureFor scope env=pure (zCr env.cells scope.names []):=by
 have e:=zDN scope.names [] h
 simp only[closureFor]
 simp only[bind_pure]
 exact e
theorem zBl {env:Env}{x:Str}:∀(names:List (Str×NameKind)),
 (names.map fun (n,k)=>if (k==NameKind.free && env.scope.kind == .function && env.kindOf n==some .cell) then (n,NameKind.cell) else (n,k)).lookup x =
  (names.lookup x).map fun k=>if (k==NameKind.free && env.scope.kind == .function && env.kindOf x==some .cell)=true then NameKind.cell else k
 | []=>rfl
 | (n,k)::r=>by
  have ih:=zBl (env:=env) (x:=x) r
  rw[zAV]
  show List.lookup x ((if (k==NameKind.free && env.scope.kind == .function && env.kindOf n==some .cell)=true then (n,NameKind.cell) else (n,k))::_)=_
  by_cases c:(k==NameKind.free && env.scope.kind == .function && env.kindOf n==some .cell)=true
  . rw[if_pos c,zAu,zAu]
    cases hx:x==n with
    | true=>
     have e:x=n:=by simpa using hx
     subst e
     show some NameKind.cell=Option.map _ (some k)
     rw[zAk,if_pos c]
    | false=>exact ih
  . rw[if_neg c,zAu,zAu]
    cases hx:x==n with
    | true=>
     have e:x=n:=by simpa using hx
     subst e
     show some k=Option.map _ (some k)
     rw[zAk,if_neg c]
    | false=>exact ih
noncomputable def zBm (X:Cx)(pl:lPO)(N':List Str)(scope:Scope)(fp:List Addr)(s3:Shared)(H3:Hp):Cx where
 prog:=X.prog
 w:=X.w
 K:=X.K
 mg:=X.mg
 base:=X.base
 A:=X.A
 N:=N'
 s₀:=s3
 H₀:=H3
 env:=compEnvC scope (zCr X.env.cells scope.names []) s3.heap.objs.size X.env
 outer:=X.stack
 stack:=X.stack
 ex:=fp
 fn:=fun _=>false
 calm:=X.calm
 pn:=pl
 xe:=fun _ _=>False
noncomputable def zEC (X:Cx)(scope:Scope):List Str->List Nat->Prop
 | [],[]=>True
 | x::cn,j::ci=>X.N[j]? = some x/\X.env.kindOf x=some .cell/\scope.names.lookup x=some .free/\zEC X scope cn ci
 | _,_=>False
theorem zEC.get {X:Cx}{scope:Scope}:∀{cn:List Str}{ci:List Nat}{k:Nat}{x:Str},zEC X scope cn ci->cn[k]? = some x->∃j,ci[k]? = some j/\X.N[j]? = some x/\X.env.kindOf x=some .cell/\scope.names.lookup x=some .free
 | [],_,_,_,_,h=>by simp at h
 | _::_,[],_,_,c,_=>c.elim
 | y::cn,j::ci,0,x,c,h=>by
  obtain⟨a,b,b',_⟩:=c
  have e:y=x:=by simpa using h
  subst e
  exact⟨j,rfl,a,b,b'⟩
 | y::cn,j::ci,k+1,x,c,h=>by
  obtain⟨j',h1,h2⟩:=zEC.get (k:=k) c.2.2.2 (by simpa using h)
  exact⟨j',by simpa using h1,h2⟩
structure zEB (X:Cx)(scope:Scope):Prop where
 kind:scope.kind = .function
 nocell:∀y∈scope.names,y.2 ≠ .cell
 names:∀y∈scope.names,y.2 = .local->scope.names.lookup y.1=some .local
 free:∀y∈scope.names,y.2 = .free->X.env.kindOf y.1=some .cell
variable {g:TG}{ti:TT}{te:TE}{Q:VK}
section
variable {X:Cx}{pins:lPO}{σ:St}{H3:Hp}{s3:Shared}{scope:Scope}{fp:List Addr}{N' own cn:List Str}{ci:List Nat}{cv:List V}
theorem zGn (ok:X.Ok)(S:zEB X scope){x:Str}(h:(relabel scope X.env).names.lookup x=some .cell\/(relabel scope X.env).names.lookup x=some .free) :
 ∃c,(zCr X.env.cells scope.names []).lookup x=some c:=by
 have e:(relabel scope X.env).names.lookup x=(scope.names.lookup x).map fun k=>if (k==NameKind.free && X.env.scope.kind == .function && X.env.kindOf x==some .cell)=true then NameKind.cell else k:=zBl scope.names
 have hf:scope.names.lookup x=some .free:=by
  cases q:scope.names.lookup x with
  | none=>rw[e,q] at h;simp at h
  | some k=>
   by_cases hk:k = .free
   . rw[hk]
   . have hb:(k==NameKind.free)=false:=by simpa using hk
     rw[e,q] at h
     simp only[zAk,hb,Bool.false_and,zA2,if_false,Option.some.injEq] at h
     rcases h with h | h
     . exact absurd h (S.nocell _ (PySem.mem_of_lookup q))
     . exact absurd h hk
 exact zCo (ok.has x (.inl (S.free _ (PySem.mem_of_lookup hf) rfl))) scope.names [] (PySem.mem_of_lookup hf)
theorem zCg {x:Str}{c:Addr}(h:(zCr X.env.cells scope.names []).lookup x=some c):X.env.cells.lookup x=some c:=by
 rcases zDA _ _ h with q | q
 . simp at q
 . exact q
theorem zLh (I:Inv X pins σ H3 s3)(S:zEB X scope)(f:∀b∈fp,zDF X pins H3 b)(fz:∀b∈fp,b<s3.heap.objs.size):(zBm X (X.pn++pins) N' scope fp s3 H3).Ok where
 mod:=I.ok.mod
 kind:=S.kind
 glob:=I.ok.glob
 blt:=I.ok.blt
 above:=zK _
 inj:=fun x y c h1 h2=>I.ok.inj x y c (zCg h1) (zCg h2)
 has:=fun x h=>zGn I.ok S h
 cab:=fun x c h=>by cases h
 hd:=I.ok.hd
 frames:=I.ok.frames
 stk:=.inl rfl
 exf:=fun b hb=>⟨zd (fz b hb),fun x c h=>(f b hb).2.2.2.2.1 x c (zCg h)⟩
 bs:=I.bs
 bsz:=zAH I.ok.bsz I.sz
 noex:=fun b o e hb=>by
  rcases (f b hb).2.2.2.1 with z | z
  . exact I.ok.noex b o e z
  . exact absurd (zo (zX e) (zAH I.ok.bsz z)) (zBo _)
 exfs:=fun b hb z=>by
  rcases zi.mp (I.stkSub b z) with q | q
  . exact (f b hb).2.1 q
  . exact (f b hb).2.2.1 q
 funs:=I.stack
 frf:=I.stkFree
theorem zJ4 {h1:Heap}{t:Nat}(I:Inv X pins σ H3 s3)(S:zEB X scope)(f:∀b∈fp,zDF X pins H3 b)(fz:∀b∈fp,b<s3.heap.objs.size)
 (hN:N'=own++cn)(hc:zEC X scope cn ci)(hv:ci.map (fun j=>σ[j]?)=cv.map fun v=>some (some v))(hl:cn.length=ci.length)
 (hns:h1.Ns s3.heap.objs.size (fun _=>none))(hk:∀b o,s3.heap.get? b=some o->h1.get? b=some o) :
 Inv (zBm X (X.pn++pins) N' scope fp s3 H3) [] (List.replicate own.length none++cv.map some) H3 { s3 with heap:=h1,toks:=t }:=by
 have lenv:cv.length=ci.length:=by
  have:=congrArg List.length hv
  simpa using this.symm
 refine⟨zLh I S f fz,rfl,I.bare,Un.kept hk,⟨_,hns,fun i x v e1 e2 e3=>?_⟩,fun x c e=>?_,I.hok.fresh (zK _),fun x c e=>I.freeC x c (zCg e),fun p hp=>?_,I.hok.kept hk,?_⟩
 . -- a captured name
   have hi:own.length<=i:=by
    by_cases hi:own.length<=i
    . exact hi
    . rw[zW (by simpa using hi),zBJ] at e2
      split at e2 <;> cases e2
   rw[zQ (by simpa using hi),zAB,zM] at e2
   have e1':(own++cn)[i]? = some x:=by rw[<-hN];exact e1
   rw[zQ hi] at e1'
   obtain⟨j,hj,hNj,hkx,hfr⟩:=hc.get e1'
   have hcv:cv[i-own.length]? = some v:=by
    cases q:cv[i-own.length]? with
    | none=>rw[q] at e2;cases e2
    | some v'=>rw[q] at e2;cases e2;rfl
   have hσ:σ[j]? = some (some v):=by
    have:=congrArg (fun l:List (Option (Option V))=>l[i-own.length]?) hv
    simp only[zM,hj,hcv,zAk,Option.some.injEq] at this
    exact this
   obtain⟨m,_,hl'⟩:=I.loc
   obtain⟨u,r,q⟩:=hl' j x v hNj hσ (.inr (.inl hkx))
   have hkd:(relabel scope X.env).names.lookup x=some .cell\/(relabel scope X.env).names.lookup x=some .free:=by
    have e:(relabel scope X.env).names.lookup x=(scope.names.lookup x).map fun k=>if (k==NameKind.free && X.env.scope.kind == .function && X.env.kindOf x==some .cell)=true then NameKind.cell else k:=zBl scope.names
    rw[e,hfr,zAk]
    by_cases cc:(NameKind.free==NameKind.free && X.env.scope.kind == .function && X.env.kindOf x==some .cell)=true
    . rw[if_pos cc];exact .inl rfl
    . rw[if_neg cc];exact .inr rfl
   obtain⟨c',hc'⟩:=zGn I.ok S hkd
   refine⟨u,r,.inr ⟨hkd,c',hc',?_⟩⟩
   rcases q with ⟨z,_⟩ | ⟨_,c,hcc,o,ho,hd⟩
   . rw[hkx] at z;cases z
   . have e:c=c':=zY (hcc.symm.trans (zCg hc'))
     subst e
     exact⟨o,hk c o ho,hd⟩
 . obtain⟨v,o,ho,hd⟩:=I.cell x c (zCg e)
   exact⟨v,o,hk c o ho,hd⟩
 . have hp':p∈X.pn++pins:=by rw[zr] at hp;exact hp
   obtain⟨e,n,ne,nf,d⟩:=I.pin p hp'
   refine⟨hk _ _ e,n,zd (zX e),fun z=>?_,d⟩
   rcases zi.mp (I.stkSub p.1 z) with q | q
   . exact ne q
   . exact nf q
 . show (List.replicate own.length none++cv.map some).length=N'.length
   rw[hN,zL,zL,zAB,zC,lenv,hl]
noncomputable def zGr (J:It)(own:Nat)(cv:List V)(g:TG)(ti:TT)(te:TE)(D:Addr)(H1:Hp)(Q:VK):Prop:=∃W:Nat->Nat->List V->Hp->Prop,(∃m,W 0 m [] (upd H1 D (.lst [])))/\∀i m ys H,W i m ys H ->
 (J.stop i H/\Q (.ref D) H)\/(J.go i H/\ys.length<sizeLine/\∃N:List V->Hp->Prop,(∀ys' H',N ys' H'->∃m',m'<m/\W (i+1) m' ys' H') /\
  ∀x H',J.yld i H x H'->g x (List.replicate own none++cv.map some) H' fun σ2 H2=>(σ2.length=own+cv.length/\σ2.drop own=cv.map some) /\
   ti σ2 H2 fun b H3=>if b=true then te σ2 H3 fun y H4=>H4 D=some (.lst ys)/\N (ys++[y]) (upd H4 D (.lst (ys++[y]))) else N ys H3)
noncomputable def zHd (own:Nat)(ci:List Nat)(wi:TI)(g:TG)(ti:TT)(te:TE):TE:=fun σ H Q=>wi σ H fun J H1=>∃cv:List V,ci.map (fun j=>σ[j]?)=cv.map (fun v=>some (some v)) /\
 ∀D,H1 D=none->zGr J own cv g ti te D H1 Q
theorem zFi {elt target iter:Expr}{ifs:List Expr}{pos cpos:Pos}{wi:TI}{use:Option (Value->Sem Unit)}{Q0:vSP}{s:Shared}{H:Hp}(hcalm:X.calm=true)(S:zEB X scope)(hc:zEC X scope cn ci)(hl:cn.length=ci.length)
 (hi:PI X target iter wi)(hg:∀pl fp s3 H3,PG (zBm X pl (own++cn) scope fp s3 H3) target g)(ht:∀pl fp s3 H3,PTs (zBm X pl (own++cn) scope fp s3 H3) ifs ti)
 (he:∀pl fp s3 H3,PE (zBm X pl (own++cn) scope fp s3 H3) elt te)(hs:∀x,foldedSetIterable iter X.env x=pure x)(I:Inv X pins σ H s)(h:zHd own.length ci wi g ti te σ H Q)
 (fin:∀(D C:Addr)(H5:Hp)(s6:Shared)(m6:sOV),Inv X pins σ H5 s6->s6.heap.Ns C m6->H5 C=none->C≠X.env.locals->X.s₀.heap.objs.size<=C->(∀x c,X.env.cells.lookup x=some c->c≠C) ->
  (∀p∈X.pn++pins,p.1≠C)->Q (.ref D) H5->compPost (model X.prog X.w) X.A X.xe use Q0 (.ref D) C (.ok .next) s6) :
 wpAny (model X.prog X.w) X.A (comprehension (.ListComp elt [⟨target,iter,ifs,0⟩] scope pos) scope X.env cpos (newList []) false (eval iter X.env) use) Q0 X.xe s:=by
 have hcl:closureFor scope X.env=pure (zCr X.env.cells scope.names []):=zCW fun y hy hf=>I.ok.has y.1 (.inl (S.free y hy hf))
 refine wpAny_comprehension_free (use:=use) rfl hs hcl S.kind S.names ?_
 refine thn (hi pins s σ H _ I h) fun v s1 h1=>thn h1 fun itv s2 h2=>?_
 obtain⟨it,fp,tn,J,H2,e,I2,T,st2,f2,cv,hv,hD⟩:=h2
 subst e
 have lenv:cv.length=ci.length:=by
  have:=congrArg List.length hv
  simpa using this.symm
 have I3:=I2.lnew (ys:=[]) (its:=[]) (t':=s2.toks) .nil (ze _)
 obtain⟨W,⟨m0,w0⟩,turn⟩:=hD s2.heap.objs.size I2.fresh
 have fz:∀b∈fp,b<s2.heap.objs.size:=fun b hb=>by
  obtain⟨o,ho,_⟩:=T.obj _ _ st2 b hb
  exact zX ho
 refine zAn ?_
 refine wpAny_newFunctionEnv S.nocell (by intro y hy;simp at hy) (fun h4 hns4 hsb4=>?_) S.kind
 generalize hs3:({ s2 with heap:=s2.heap.push { cls:=.type "list",dict:=none,data:=.seq ([]:List Value).toArray } }:Shared)=s3 at hns4 hsb4 ⊢
 have I3':Inv X pins σ (upd H2 s2.heap.objs.size (.lst [])) s3:=by rw[<-hs3];exact I3
 have hsz3:s3.heap.objs.size=s2.heap.objs.size+1:=by rw[<-hs3];exact zAt ..
 have k23:∀b o,s2.heap.get? b=some o->s3.heap.get? b=some o:=fun b o e=>by rw[<-hs3];exact zG _ e
 have k34:∀b o,s3.heap.get? b=some o->h4.get? b=some o:=fun b o e=>hsb4.extBut b o (zd (zX e)) (zG _ e)
 have nD:∀b∈fp,b≠s2.heap.objs.size:=fun b hb=>zd (fz b hb)
 have f3:∀b∈fp,zDF X pins (upd H2 s2.heap.objs.size (.lst [])) b:=fun b hb=>⟨by rw[za (nD b hb)];exact (f2 b hb).1,(f2 b hb).2⟩
 have fz3:∀b∈fp,b<s3.heap.objs.size:=fun b hb=>by rw[hsz3];exact zAo (fz b hb)
 have I4:Inv (zBm X (X.pn++pins) (own++cn) scope fp s3 (upd H2 s2.heap.objs.size (.lst []))) [] (List.replicate own.length none++cv.map some) (upd H2 s2.heap.objs.size (.lst [])) { s3 with heap:=h4,toks:=s3.toks+([]:List (Str×Value)).length }:=
  zJ4 I3' S f3 fz3 rfl hc hv hl hns4 k34
 have st4:tn 0 h4:=T.keep _ _ _ st2 fun b hb o e=>k34 b o (k23 b o e)
 generalize hX:zBm X (X.pn++pins) (own++cn) scope fp s3 (upd H2 s2.heap.objs.size (.lst []))=X' at I4
 have hg':PG X' target g:=by rw[<-hX];exact hg _ _ _ _
 have ht':PTs X' ifs ti:=by rw[<-hX];exact ht _ _ _ _
 have he':PE X' elt te:=by rw[<-hX];exact he _ _ _ _
 have ePr:X'.prog=X.prog:=by rw[<-hX];rfl
 have eW:X'.w=X.w:=by rw[<-hX];rfl
 have eK:X'.K=X.K:=by rw[<-hX];rfl
 have eA:X'.A=X.A:=by rw[<-hX];rfl
 have eE:X'.env=compEnvC scope (zCr X.env.cells scope.names []) s3.heap.objs.size X.env:=by rw[<-hX];rfl
 have eXe:X'.xe=fun _ _=>False:=by rw[<-hX];rfl
 have eC:X'.calm=true:=by rw[<-hX];exact hcalm
 have eex:X'.ex=fp:=by rw[<-hX];rfl
 have epn:X'.pn=X.pn++pins:=by rw[<-hX];rfl
 have es0:X'.s₀=s3:=by rw[<-hX];rfl
 have eH0:X'.H₀=upd H2 s2.heap.objs.size (.lst []):=by rw[<-hX];rfl
 have efs:X'.fs=frs X.stack:=by rw[<-hX];rfl
 have ok':=I4.ok
 have stat:∀{H':Hp},(∀b∈fp,H' b=none)->∀b∈fp,zDF X' [] H' b:=fun hn b hb=>by
  have hb':b∈X'.ex:=by rw[eex];exact hb
  refine⟨hn b hb,(ok'.exf b hb').1,ok'.exfs b hb',.inl hb',(ok'.exf b hb').2,fun p hp=>?_⟩
  rw[epn,zr] at hp
  exact (f2 b hb).2.2.2.2.2 p hp
 have wk:∀(σ2:St),(σ2.length=own.length+cv.length/\σ2.drop own.length=cv.map some)->∀{pl:lPO}{H':Hp}{s':Shared},Inv X' pl σ2 H' s'->Inv X' pl (List.replicate own.length none++cv.map some) H' s':=fun σ2 hq pl H' s' I'=>by
  refine I'.weak (by rw[hq.1,zL,zAB,zC]) fun i v hi=>?_
  by_cases hlt:i<own.length
  . rw[zW (by simpa using hlt),zBJ] at hi
    split at hi <;> cases hi
  . rw[zQ (by simpa using hlt),zAB,<-hq.2,List.getElem?_drop] at hi
    rw[show own.length+(i-own.length)=i by omega] at hi
    exact hi
 have loop:codeAny (model X.prog X.w) X.A (.compLoop (.ListComp elt [⟨target,iter,ifs,0⟩] scope pos) 0 (.ref it) (.ref s2.heap.objs.size) (compEnvC scope (zCr X.env.cells scope.names []) s3.heap.objs.size X.env))
  (compPost (model X.prog X.w) X.A X.xe use Q0 (.ref s2.heap.objs.size) s3.heap.objs.size) { s3 with heap:=h4,toks:=s3.toks+([]:List (Str×Value)).length }:=by
  refine zDW (fun n s'=>∃i ys H',Inv X' [] (List.replicate own.length none++cv.map some) H' s'/\tn i s'.heap/\(∀b∈fp,H' b=none)/\W i n ys H') ?_ m0
   ⟨0,[],_,I4,st4,fun b hb=>(f3 b hb).1,w0⟩
  rintro n s5 ⟨i,ys,H5,I5,st5,fr5,w5⟩
  rcases turn i n ys H5 w5 with ⟨stop,qn⟩ | ⟨go,hsz,N,hN,step⟩
  . have d:=T.done X' ePr eW eK eC i [] s5 _ H5 (fun _ _=>False) I5 (stat fr5) st5 stop
    rw[eA] at d
    refine thn d fun r s6 ⟨hr,I6⟩=>?_
    subst hr
    obtain⟨m6,hn6,_⟩:=I6.loc
    rw[eE] at hn6
    have hn6':s6.heap.Ns s3.heap.objs.size m6:=hn6
    have un6:Un (frs X.stack) fp (upd H2 s2.heap.objs.size (.lst [])) H5 s3.heap s6.heap:=by
     have b6:=I6.base
     rw[efs,eex,eH0,es0] at b6
     exact b6
    have os6:s6.os=s3.os:=by have o6:=I6.os;rw[es0] at o6;exact o6
    have hok6:HOk X.prog X.w H5 s6.heap:=by have o6:=I6.hok;rw[ePr,eW] at o6;exact o6
    have I7:Inv X pins σ H5 s6:=I3'.call' (ch:=fp) os6 un6 hok6 I6.bare fun b hb=>⟨(f2 b hb).2.2.2.1,(f2 b hb).2.1,(f2 b hb).2.2.2.2.1,(f2 b hb).2.2.2.2.2⟩
    have fr6:H5 s3.heap.objs.size=none:=by
     have q:=I6.free
     rw[eE] at q
     exact q
    refine fin s2.heap.objs.size s3.heap.objs.size H5 s6 m6 I7 hn6' fr6 (Nat.ne_of_gt I3'.lt) I3'.sz (fun x c e=>?_) (fun p hp=>?_) qn
    . obtain⟨_,o,ho,_⟩:=I3'.cell x c e
      exact zd (zX ho)
    . exact zd (zX (I3'.pin p hp).1)
  . have d:=T.item X' ePr eW eK eC i [] s5 _ H5 (fun _ _=>False) I5 (stat fr5) st5 go
    rw[eA] at d
    refine thn d fun r s6 ⟨u,hr,h6⟩=>?_
    subst hr
    refine thn h6 fun _ s7 ⟨x,H7,I7,r7,y7,st7,fr7⟩=>?_
    have I7':=I7.pinned (stat fr7) (T.obj _ _ st7)
    have g7:=hg' _ s7 _ H7 x u _ I7' r7 (step x H7 y7)
    rw[ePr,eW,eA,eE,eXe] at g7
    refine thn g7 fun _ s8 ⟨σ8,H8,I8,q8,ti8⟩=>?_
    have t8:=ht' _ s8 σ8 H8 _ I8 ti8
    rw[ePr,eW,eA,eE,eXe] at t8
    refine thn t8 fun ok s9 ⟨H9,I9,q9⟩=>?_
    have again:∀{ys':List V}{H':Hp}{s':Shared},Inv X' ([]++zES fp s7.heap) σ8 H' s'->N ys' H' ->
     ∃m,m<n/\∃i ys H',Inv X' [] (List.replicate own.length none++cv.map some) H' s'/\tn i s'.heap/\(∀b∈fp,H' b=none)/\W i m ys H':=fun {ys' H' s'} I' n'=>by
     obtain⟨m',hm,w'⟩:=hN ys' H' n'
     refine⟨m',hm,i+1,ys',H',(wk σ8 q8 I').unpinned,T.keep _ _ _ st7 fun b hb o e=>(I'.pin (b,o) (zg _ (zg _ (zCJ hb e)))).1,fun b hb=>?_,w'⟩
     obtain⟨o,e,_⟩:=T.obj _ _ st7 b hb
     exact (I'.pin (b,o) (zg _ (zg _ (zCJ hb e)))).2.1
    cases ok with
    | false=>exact again I9 q9
    | true=>
     have e9:=he' _ s9 σ8 H9 _ I9 q9
     rw[ePr,eW,eA,eE,eXe] at e9
     refine thn e9 fun u10 s10 ⟨y,H10,I10,r10,hD10,n10⟩=>?_
     have a10:=zBx (X:=X') _ s10 σ8 H10 (.ref s2.heap.objs.size) [y] (.ref s2.heap.objs.size) [u10] (fun _ H'=>N (ys++[y]) H') I10 rfl (.cons r10 .nil) ⟨_,_,_,rfl,rfl,hD10,hsz,n10⟩
     rw[ePr,eW,eA,eXe] at a10
     exact thn a10 fun _ s11 ⟨_,H11,I11,_,n11⟩=>again I11 n11
 exact codeAny_compStart_list loop (T.self X.A 0 _ _ _ st4 loop)
theorem zA6 {elt target iter:Expr}{ifs:List Expr}{pos:Pos}{wi:TI}(hcalm:X.calm=true)(S:zEB X scope)(hc:zEC X scope cn ci)(hl:cn.length=ci.length)
 (hi:PI X target iter wi)(hg:∀pl fp s3 H3,PG (zBm X pl (own++cn) scope fp s3 H3) target g)(ht:∀pl fp s3 H3,PTs (zBm X pl (own++cn) scope fp s3 H3) ifs ti)
 (he:∀pl fp s3 H3,PE (zBm X pl (own++cn) scope fp s3 H3) elt te)(hs:∀x,foldedSetIterable iter X.env x=pure x:=by intro _;rfl) :
 PE X (.ListComp elt [⟨target,iter,ifs,0⟩] scope pos) (zHd own.length ci wi g ti te):=by
 intro pins s σ H Q I h
 rw[eval_ListComp]
 exact zFi hcalm S hc hl hi hg ht he hs I h fun D C H5 s6 m6 I7 hn fr nL ge nC nP q=>⟨m6,hn,fun h' hs'=>⟨.ref D,H5,I7.turned (t':=s6.toks) (it:=C) (fun b o hb e=>hs'.extBut b o hb e) fr nL (.inr ge) nC nP,rfl,q⟩⟩
theorem zCs {elt target iter:Expr}{ifs:List Expr}{pos pos' cpos:Pos}{wi:TI}{g:TG}{ti:TT}{te:TE}{i:Nat}{x:Str}(hN:X.N.Nodup)(hix:X.N[i]? = some x)(hx:Loc X.env.scope x)(hcalm:X.calm=true)(S:zEB X scope)(hc:zEC X scope cn ci)(hl:cn.length=ci.length)
 (hi:PI X target iter wi)(hg:∀pl fp s3 H3,PG (zBm X pl (own++cn) scope fp s3 H3) target g)(ht:∀pl fp s3 H3,PTs (zBm X pl (own++cn) scope fp s3 H3) ifs ti)
 (he:∀pl fp s3 H3,PE (zBm X pl (own++cn) scope fp s3 H3) elt te)(hs:∀x,foldedSetIterable iter X.env x=pure x:=by intro _;rfl)
 (hsw:swapsWith (.ListComp elt [⟨target,iter,ifs,0⟩] scope cpos) (some (.Name x pos')) pos.line X.env=pure true:=by rfl)
 (hf:X.fn x=true\/X.env.scope.names.lookup x=some .local:=by first | exact .inl rfl | exact .inr rfl | assumption) :
 PS X (.Assign [.Name x pos'] (.ListComp elt [⟨target,iter,ifs,0⟩] scope cpos) pos) (tAsg (zHd own.length ci wi g ti te) (zHJ i)):=by
 intro pins s σ H D I h
 rw[exec_Assign_Name_used _ _ _ _ hsw]
 refine zA (zBn (zA ?_))
 show wpAny _ X.A (do let _ <-comprehension (.ListComp elt [⟨target,iter,ifs,0⟩] scope cpos) scope X.env _ (newList []) false (eval iter X.env) (some (assign (.Name x pos') X.env))) _ _ s
 refine zA (zAM (zFi (use:=some (assign (.Name x pos') X.env)) (Q0:=fun _ s'=>SP X pins D .next s') hcalm S hc hl hi hg ht he hs I h (fun D' C H5 s6 m6 I7 hn fr nL ge nC nP q=>?_)) (fun _ s' hq=>zF (zF hq)) fun _ _ e=>e)
 obtain⟨oC,es,ep,hoC,hd,r1⟩:=hn
 have nf:C∉X.fs:=fun hb=>by
  obtain⟨_,o,ho,_⟩:=I7.ok.funs.mem hb
  exact absurd (zo (zX ho) ge) (zBo _)
 have I7':Inv X (pins++[(C,oC)]) σ H5 s6:=I7.pins_of fun p hp=>by
  rcases zm.mp hp with z | z
  . exact I7.pin p (zg _ z)
  . rw[zf.mp z]
    exact⟨hoC,fr,nL,nf,fun v e=>by rw[hd] at e;cases e⟩
 show wpAny _ X.A (assign (.Name x pos') X.env (.ref D')) _ _ s6
 refine wpAny_assign_Name (zCz I7' hN hix hx (show zBQ (.ref D') (.ref D') from rfl) (fun s' I'=>?_) hf)
 have hC':=(I'.pin (C,oC) (zg _ (zg _ (zf.mpr rfl)))).1
 refine⟨m6,⟨oC,es,ep,hC',hd,r1⟩,fun h' hs'=>⟨_,H5,?_,q⟩⟩
 have I2:Inv X pins (σ.set i (some (.ref D'))) H5 s':=I'.pins_of fun p hp=>I'.pin p (zg _ (zAE _ hp))
 exact I2.turned (t':=s'.toks) (it:=C) (fun b o hb e=>hs'.extBut b o hb e) fr nL (.inr ge) nC nP
end
noncomputable def cscOk (outer inner:Scope):Bool:=inner.names.all fun y=>(y.2 != .cell) && (y.2 != .local || inner.names.lookup y.1==some .local) && (y.2 != .free || outer.names.lookup y.1==some .cell)
theorem csc {scope:Scope}(hk:scope.kind = .function)(h:cscOk X.env.scope scope=true):zEB X scope:=by
 have a:=zAv.mp h
 refine⟨hk,fun y hy e=>?_,fun y hy e=>?_,fun y hy e=>?_⟩
 . have:=a y hy
   rw[e] at this
   simp at this
 . have:=a y hy
   rw[e] at this
   simpa using this
 . have:=a y hy
   rw[e] at this
   have h2:X.env.scope.names.lookup y.1=some .cell:=by simpa using this
   exact h2
theorem zDZ {l:List Str}(h:decide l.Nodup=true):l.Nodup:=of_decide_eq_true h
section
variable {X:Cx}{pl:lPO}{N':List Str}{sc:Scope}{fp:List Addr}{s3:Shared}{H3:Hp}
theorem zBe:IxR (zBm X pl N' sc fp s3 H3) (rIxT X.K):=zAF
theorem zCU:IxR (zBm X pl N' sc fp s3 H3) (rIxL X.K):=zAZ
theorem zEp {es:List Expr}{k:Nat}{t:TGs}{n:Nat}{pos:Pos}(hc:X.calm=true)(h:PGs (zBm X pl N' sc fp s3 H3) es t)
 (hn:(assignEach es (zBm X pl N' sc fp s3 H3).env).length=n:=by rfl)(hst:(assignEach es (zBm X pl N' sc fp s3 H3).env).findIdx? (·.1)=none:=by rfl):PG (zBm X pl N' sc fp s3 H3) (.Tuple es k pos) (gTup X.K n t):=zCD hc h hn hst
theorem zID:OpR (zBm X pl N' sc fp s3 H3) (compareOp .NotIn) (rIn X.K true):=zDU
end
variable {own:Nat}{cv:List V}{D:Addr}{H1:Hp}
theorem zCN {K:PySem.W.Frag}{a:Addr}{xs:List V}(Pv:Nat->List V->Hp->Prop)(h0:Pv 0 [] (upd H1 D (.lst [])))(hl:∀i ys H,Pv i ys H->SqL K H a xs)(hz:∀i ys H,Pv i ys H->ys.length<sizeLine)
 (hs:∀i x ys H,xs[i]? = some x->Pv i ys H->g x (List.replicate own none++cv.map some) H fun σ2 H2=>(σ2.length=own+cv.length/\σ2.drop own=cv.map some) /\
  ti σ2 H2 fun b H3=>if b=true then te σ2 H3 fun y H4=>H4 D=some (.lst ys)/\Pv (i+1) (ys++[y]) (upd H4 D (.lst (ys++[y]))) else Pv (i+1) ys H3)
 (hd:∀ys H,Pv xs.length ys H->Q (.ref D) H) :
 zGr (Itl K a) own cv g ti te D H1 Q:=by
 refine⟨fun i m ys H=>m=xs.length-i/\i<=xs.length/\Pv i ys H,⟨xs.length,rfl,ze _,h0⟩,?_⟩
 rintro i m ys H ⟨rfl,hi,p⟩
 have q:=hl i ys H p
 by_cases hlt:i<xs.length
 . refine .inr ⟨⟨xs,xs[i],q,by simp[hlt]⟩,hz i ys H p,Pv (i+1),fun ys' H' p'=>⟨xs.length-(i+1),by omega,rfl,hlt,p'⟩,fun x H' y=>?_⟩
   obtain⟨e,y⟩:=y
   subst e
   exact hs i x ys _ (y xs q) p
 . have e:i=xs.length:=by omega
   subst e
   exact .inl ⟨⟨xs,q,zK _⟩,hd ys H p⟩
theorem zBX {K:PySem.W.Frag}{a:Addr}{xs:List V}(Pv:Nat->List V->Hp->Prop)(h0:Pv 0 [] (upd H1 D (.lst [])))(hl:∀i ys H,Pv i ys H->SqT K H a xs)(hz:∀i ys H,Pv i ys H->ys.length<sizeLine)
 (hs:∀i x ys H,xs[i]? = some x->Pv i ys H->g x (List.replicate own none++cv.map some) H fun σ2 H2=>(σ2.length=own+cv.length/\σ2.drop own=cv.map some) /\
  ti σ2 H2 fun b H3=>if b=true then te σ2 H3 fun y H4=>H4 D=some (.lst ys)/\Pv (i+1) (ys++[y]) (upd H4 D (.lst (ys++[y]))) else Pv (i+1) ys H3)
 (hd:∀ys H,Pv xs.length ys H->Q (.ref D) H) :
 zGr (Itt K a) own cv g ti te D H1 Q:=by
 refine⟨fun i m ys H=>m=xs.length-i/\i<=xs.length/\Pv i ys H,⟨xs.length,rfl,ze _,h0⟩,?_⟩
 rintro i m ys H ⟨rfl,hi,p⟩
 have q:=hl i ys H p
 by_cases hlt:i<xs.length
 . refine .inr ⟨⟨xs,xs[i],q,by simp[hlt]⟩,hz i ys H p,Pv (i+1),fun ys' H' p'=>⟨xs.length-(i+1),by omega,rfl,hlt,p'⟩,fun x H' y=>?_⟩
   obtain⟨e,y⟩:=y
   subst e
   exact hs i x ys _ (y xs q) p
 . have e:i=xs.length:=by omega
   subst e
   exact .inl ⟨⟨xs,q,zK _⟩,hd ys H p⟩
theorem zBU {lo:Int}{n:Nat}(Pv:Nat->List V->Hp->Prop)(h0:Pv 0 [] (upd H1 D (.lst [])))(hz:∀i ys H,Pv i ys H->ys.length<sizeLine)
 (hs:∀i ys H,i<n->Pv i ys H->g (.int (lo+i)) (List.replicate own none++cv.map some) H fun σ2 H2=>(σ2.length=own+cv.length/\σ2.drop own=cv.map some) /\
  ti σ2 H2 fun b H3=>if b=true then te σ2 H3 fun y H4=>H4 D=some (.lst ys)/\Pv (i+1) (ys++[y]) (upd H4 D (.lst (ys++[y]))) else Pv (i+1) ys H3)
 (hd:∀ys H,Pv n ys H->Q (.ref D) H) :
 zGr (Itr lo n) own cv g ti te D H1 Q:=by
 refine⟨fun i m ys H=>m=n-i/\i<=n/\Pv i ys H,⟨n,rfl,ze _,h0⟩,?_⟩
 rintro i m ys H ⟨rfl,hi,p⟩
 by_cases hlt:i<n
 . refine .inr ⟨hlt,hz i ys H p,Pv (i+1),fun ys' H' p'=>⟨n-(i+1),by omega,rfl,hlt,p'⟩,fun x H' y=>?_⟩
   obtain⟨e,y⟩:=y
   subst e
   subst y
   exact hs i ys _ hlt p
 . have e:i=n:=by omega
   subst e
   exact .inl ⟨zK _,hd ys H p⟩
end L2
namespace SortT
open PySem.W PyProof.Rows
noncomputable def ev {α:Type}(lt:Nat->Nat->Bool):KasT α->α
 | .ret a=>a
 | .ask i j k=>ev lt (k (lt i j))
theorem zDM {α β:Type}(lt:Nat->Nat->Bool)(f:α->KasT β):∀t:KasT α,ev lt (t.bind f)=ev lt (f (ev lt t))
 | .ret _=>rfl
 | .ask i j k=>zDM lt f (k (lt i j))
variable {p:Array Nat}{i j n nrem:Nat}
section
variable {O:KeyOrd}{key:Nat->O.α}
noncomputable def kk (key:Nat->O.α)(p:Array Nat)(i:Nat):O.α:=key (p.getD i 0)
noncomputable def Sr (key:Nat->O.α)(p:Array Nat)(n:Nat):Prop:=∀i j,i<=j->j<n->O.kle (kk key p i) (kk key p j)
noncomputable def Fl (key:Nat->O.α)(p:Array Nat)(n:Nat):Prop:=∀i j,i<=j->j<n->O.kle (kk key p j) (kk key p i)
theorem zC6 {q:Array Nat}(h:p[i]? = q[j]?):kk key p i=kk key q j:=by
 unfold kk;rw[Array.getD_eq_getD_getElem?,Array.getD_eq_getD_getElem?,h]
theorem zIW (hj:j<=p.size)(k:Nat):kk key (kas_rev p i j) k=if i<=k/\k<j then kk key p (i+j-1-k) else kk key p k:=by
 have e:=getElem?_mirror_all (i:=i) hj k
 unfold kas_rev
 by_cases h1:i<=k/\k<j
 . rw[if_pos h1] at e ⊢;exact zC6 e
 . rw[if_neg h1] at e ⊢;exact zC6 e
theorem zDw (hj:j<=p.size)(he:∀k,i<=k->k<j->kk key p k=kk key p (j-1))(k:Nat):kk key (kas_rev p i j) k=kk key p k:=by
 rw[zIW hj]
 split
 . rw[he _ (by omega) (by omega),he k (by omega) (by omega)]
 . rfl
theorem zFS {src d:Nat}(hs:src<p.size)(hd:d<=src)(k:Nat) :
 kk key (bubble p src d) k=if k=src-d then kk key p src else if src-d<k/\k<=src then kk key p (k-1) else kk key p k:=by
 have e:=getElem?_bubble hs d hd k
 by_cases h1:k=src-d
 . rw[if_pos h1] at e ⊢;exact zC6 e
 . rw[if_neg h1] at e ⊢
   by_cases h2:src-d<k/\k<=src
   . rw[if_pos h2] at e ⊢;exact zC6 e
   . rw[if_neg h2] at e ⊢;exact zC6 e
noncomputable def lt_ (key:Nat->O.α)(i j:Nat):Bool:=O.blt (key i) (key j)
theorem zB6 (p:Array Nat)(i j:Nat):(kas_rev p i j).Perm p:=mirror_perm _ _ _ _
theorem zEm (p:Array Nat)(i j:Nat):(kas_rev p i j).size=p.size:=(zB6 p i j).size_eq
theorem zI4 {p:Array Nat}:∀(f n:Nat),1<=n->Sr key p n->∃m,ev (lt_ key) (kas_asc p f n)=m/\n<=m/\m<=n+f/\Sr key p m/\(m=n+f\/O.klt (kk key p m) (kk key p (m-1)))
 | 0,n,_,hs=>⟨n,rfl,zK _,zK _,hs,.inl rfl⟩
 | f+1,n,h1,hs=>by
  show ∃m,ev (lt_ key) (if lt_ key (p.getD n 0) (p.getD (n-1) 0)=true then KasT.ret n else kas_asc p f (n+1))=m/\_
  cases hl:lt_ key (p.getD n 0) (p.getD (n-1) 0) with
  | true=>exact⟨n,by simp[ev],zK _,by omega,hs,.inr hl⟩
  | false=>
   have hs':Sr key p (n+1):=fun i j hij hj=>by
    by_cases hjn:j<n
    . exact hs i j hij hjn
    . have hj':j=n:=by omega
      subst hj'
      by_cases hi':i=j
      . subst hi';exact KeyOrd.kle_refl _
      . exact KeyOrd.kle_trans (hs i (j-1) (by omega) (by omega)) hl
   obtain⟨m,e,a,b,c,d⟩:=zI4 f (n+1) (by omega) hs'
   refine⟨m,by simpa using e,by omega,by omega,c,?_⟩
   rcases d with d | d
   . exact .inl (by omega)
   . exact .inr d
theorem zGL (h1:1<=n)(hn:n<=nrem)(hz:nrem<=p.size)(hs:Fl key p n) :
 ∃m q,ev (lt_ key) (kas_tail3 n nrem p)=(m,q)/\q.Perm p/\1<=m/\m<=nrem/\Sr key q m:=by
 unfold kas_tail3
 have hs':Sr key (kas_rev p 0 n) n:=fun i j hij hj=>by
  rw[zIW (by omega),zIW (by omega),if_pos (by omega),if_pos (by omega)]
  exact hs _ _ (by omega) (by omega)
 obtain⟨m,e,a,b,c,_⟩:=zI4 (nrem-n) n h1 hs'
 exact⟨m,kas_rev p 0 n,by rw[zDM,e];rfl,zB6 _ _ _,by omega,by omega,c⟩
theorem zEz:∀(f n q:Nat)(p:Array Nat),1<=n->n+f<=p.size->Fl key p n->q+1<=n->(∀i,n-(q+1)<=i->i<n->kk key p i=kk key p (n-1)) ->
 ∃p' n' q',ev (lt_ key) (kas_desc f p n q)=(p',n',q')/\p'.Perm p/\n<=n'/\n'<=n+f/\Fl key p' n'/\q'+1<=n'/\(∀i,n'-(q'+1)<=i->i<n'->kk key p' i=kk key p' (n'-1))
 | 0,n,q,p,_,_,hs,hq,he=>⟨p,n,q,rfl,.refl _,zK _,zK _,hs,hq,he⟩
 | f+1,n,q,p,h1,hz,hs,hq,he=>by
  show ∃p' n' q',ev (lt_ key) (if lt_ key (p.getD n 0) (p.getD (n-1) 0)=true then _ else KasT.ask _ _ _)=(p',n',q')/\_
  cases hl:lt_ key (p.getD n 0) (p.getD (n-1) 0) with
  | true=>
   have step:∀xs:Array Nat,(∀k,kk key xs k=kk key p k)->Fl key xs (n+1):=fun xs hk i j hij hj=>by
    rw[hk,hk]
    by_cases hjn:j<n
    . exact hs i j hij hjn
    . have hj':j=n:=by omega
      subst hj'
      by_cases hi':i=j
      . subst hi';exact KeyOrd.kle_refl _
      . exact KeyOrd.kle_trans (KeyOrd.kle_of_klt hl) (hs i (j-1) (by omega) (by omega))
   by_cases hq0:q > 0
   . have hk:=zDw (key:=key) (p:=p) (i:=n-(q+1)) (j:=n) (by omega) he
     obtain⟨p',n',q',e,a,b,c,d⟩:=zEz f (n+1) 0 (kas_rev p (n-(q+1)) n) (by omega) (by rw[zEm];omega) (step _ hk) (by omega) (fun i h1 h2=>by congr 1;omega)
     exact⟨p',n',q',by simpa [hq0] using e,a.trans (zB6 _ _ _),by omega,by omega,d⟩
   . obtain⟨p',n',q',e,a,b,c,d⟩:=zEz f (n+1) 0 p (by omega) (by omega) (step _ fun _=>rfl) (by omega) (fun i h1 h2=>by congr 1;omega)
     exact⟨p',n',q',by simpa [hq0] using e,a,by omega,by omega,d⟩
  | false=>
   show ∃p' n' q',ev (lt_ key) (if lt_ key (p.getD (n-1) 0) (p.getD n 0)=true then KasT.ret (p,n,q) else kas_desc f p (n+1) (q+1))=(p',n',q')/\_
   cases hr:lt_ key (p.getD (n-1) 0) (p.getD n 0) with
   | true=>exact⟨p,n,q,by simp[ev],.refl _,zK _,by omega,hs,hq,he⟩
   | false=>
    have heq:kk key p n=kk key p (n-1):=KeyOrd.kle_antisymm hr hl
    have hs':Fl key p (n+1):=fun i j hij hj=>by
     by_cases hjn:j<n
     . exact hs i j hij hjn
     . have hj':j=n:=by omega
       subst hj'
       by_cases hi':i=j
       . subst hi';exact KeyOrd.kle_refl _
       . rw[heq];exact hs i (j-1) (by omega) (by omega)
    obtain⟨p',n',q',e,a,b,c,d⟩:=zEz f (n+1) (q+1) p (by omega) (by omega) hs' (by omega) (fun i h1 h2=>by
     rw[show n+1-1=n by omega]
     by_cases hix:i=n
     . subst hix;rfl
     . rw[heq];exact he i (by omega) (by omega))
    exact⟨p',n',q',by simpa using e,a,by omega,by omega,d⟩
theorem zD5 (hn:n+1<=nrem)(hz:nrem<=p.size)(hs:Fl key p (n+1)) :
 ∃m q,ev (lt_ key) (kas_descPart n nrem p)=(m,q)/\q.Perm p/\1<=m/\m<=nrem/\Sr key q m:=by
 unfold kas_descPart
 rw[zDM]
 obtain⟨p',n',q',e,a,b,c,d,hq,he⟩:=zEz (nrem-(n+1)) (n+1) 0 p (by omega) (by omega) hs (by omega) (fun i h1 h2=>by congr 1;omega)
 rw[e]
 dsimp only
 have hz':p'.size=p.size:=a.size_eq
 by_cases hq0:q' > 0
 . rw[if_pos hq0]
   have hk:=zDw (key:=key) (p:=p') (i:=n'-(q'+1)) (j:=n') (by omega) he
   obtain⟨m,r,e2,a2,b2,c2,d2⟩:=zGL (key:=key) (p:=kas_rev p' (n'-(q'+1)) n') (n:=n') (nrem:=nrem) (by omega) (by omega) (by rw[zEm];omega) (fun i j hij hj=>by rw[hk,hk];exact d i j hij hj)
   exact⟨m,r,e2,a2.trans ((zB6 _ _ _).trans a),b2,c2,d2⟩
 . rw[if_neg hq0]
   obtain⟨m,r,e2,a2,b2,c2,d2⟩:=zGL (key:=key) (p:=p') (n:=n') (nrem:=nrem) (by omega) (by omega) (by omega) d
   exact⟨m,r,e2,a2.trans a,b2,c2,d2⟩
theorem zJ3 (h1:1<=nrem)(hz:nrem<=p.size):∃m q,ev (lt_ key) (kas_count nrem p)=(m,q)/\q.Perm p/\1<=m/\m<=nrem/\Sr key q m:=by
 unfold kas_count
 rw[zDM]
 obtain⟨n,e,a,b,hsn,hor⟩:=zI4 (key:=key) (p:=p) (nrem-1) 1 (zK _) (fun i j hij hj=>by have:i=j:=(by omega);subst this;exact KeyOrd.kle_refl _)
 rw[e]
 by_cases hnn:n=nrem
 . rw[if_pos (by simpa using hnn)]
   exact⟨n,p,rfl,.refl _,a,by omega,hsn⟩
 . rw[if_neg (by simpa using hnn)]
   have hlt:O.klt (kk key p n) (kk key p (n-1)):=hor.resolve_left (by omega)
   by_cases hgt:n > 1
   . rw[if_pos hgt]
     show ∃m q,ev (lt_ key) (if lt_ key (p.getD 0 0) (p.getD (n-1) 0)=true then KasT.ret (n,p) else kas_descPart n nrem (kas_rev p 0 n))=(m,q)/\_
     cases hr:lt_ key (p.getD 0 0) (p.getD (n-1) 0) with
     | true=>exact⟨n,p,by simp[ev],.refl _,a,by omega,hsn⟩
     | false=>
      have hall:∀k,0<=k->k<n->kk key p k=kk key p (n-1):=fun k _ hk=>
       KeyOrd.kle_antisymm (hsn k (n-1) (by omega) (by omega)) (KeyOrd.kle_trans hr (hsn 0 k (by omega) hk))
      have hk:=zDw (key:=key) (p:=p) (i:=0) (j:=n) (by omega) hall
      obtain⟨m,q,e2,a2,b2,c2,d2⟩:=zD5 (key:=key) (p:=kas_rev p 0 n) (n:=n) (nrem:=nrem) (by omega) (by rw[zEm];omega) (fun i j hij hj=>by
       rw[hk,hk]
       by_cases hjn:j<n
       . rw[hall i (by omega) (by omega),hall j (by omega) hjn];exact KeyOrd.kle_refl _
       . have hj':j=n:=by omega
         subst hj'
         by_cases hi':i=j
         . subst hi';exact KeyOrd.kle_refl _
         . rw[hall i (by omega) (by omega)];exact KeyOrd.kle_of_klt hlt)
      exact⟨m,q,by simpa using e2,a2.trans (zB6 _ _ _),b2,c2,d2⟩
   . rw[if_neg hgt]
     have hn1:n=1:=by omega
     subst hn1
     refine zD5 (by omega) hz fun i j hij hj=>?_
     by_cases hi':i=j
     . subst hi';exact KeyOrd.kle_refl _
     . have hi0:i=0:=by omega
       have hj1:j=1:=by omega
       subst hi0;subst hj1
       exact KeyOrd.kle_of_klt hlt
theorem zEn {p:Array Nat}{k:Nat}(hs:Sr key p k):∀(f l r:Nat),l<=r->r<=k->r-l<=f->(∀i,i<l->O.kle (kk key p i) (kk key p k))->(∀i,r<=i->i<k->O.klt (kk key p k) (kk key p i)) ->
 ∃m,ev (lt_ key) (kas_place p k f l r)=m/\m<=k/\(∀i,i<m->O.kle (kk key p i) (kk key p k))/\(∀i,m<=i->i<k->O.klt (kk key p k) (kk key p i))
 | 0,l,r,hlr,hrk,hf,hlo,hhi=>⟨l,rfl,by omega,hlo,fun i h1 h2=>hhi i (by omega) h2⟩
 | f+1,l,r,hlr,hrk,hf,hlo,hhi=>by
  unfold kas_place
  by_cases hge:l ≥ r
  . rw[if_pos hge]
    exact⟨l,rfl,by omega,hlo,fun i h1 h2=>hhi i (by omega) h2⟩
  . rw[if_neg hge]
    show ∃m,ev (lt_ key) (if lt_ key (p.getD k 0) (p.getD ((l+r)/2) 0)=true then kas_place p k f l ((l+r)/2) else kas_place p k f ((l+r)/2+1) r)=m/\_
    cases hl:lt_ key (p.getD k 0) (p.getD ((l+r)/2) 0) with
    | true=>
     obtain⟨m,e,x⟩:=zEn hs f l ((l+r)/2) (by omega) (by omega) (by omega) hlo (fun i h1 h2=>KeyOrd.klt_of_klt_of_kle hl (hs _ _ h1 h2))
     exact⟨m,by simpa using e,x⟩
    | false=>
     obtain⟨m,e,x⟩:=zEn hs f ((l+r)/2+1) r (by omega) (by omega) (by omega) (fun i h1=>KeyOrd.kle_trans (hs i ((l+r)/2) (by omega) (by omega)) (show O.kle _ _ from hl)) hhi
     exact⟨m,by simpa using e,x⟩
theorem zKX:∀(f:Nat)(p:Array Nat)(k:Nat),k+f=p.size->Sr key p k->∃q,ev (lt_ key) (kas_bin f p k)=q/\q.Perm p/\Sr key q (k+f)
 | 0,p,k,_,hs=>⟨p,rfl,.refl _,hs⟩
 | f+1,p,k,hz,hs=>by
  unfold kas_bin
  rw[zDM]
  obtain⟨l,e,hlk,hlo,hhi⟩:=zEn (key:=key) hs k 0 k (by omega) (by omega) (by omega) (fun i h=>by omega) (fun i h1 h2=>by omega)
  rw[e]
  have hs':Sr key (bubble p k (k-l)) (k+1):=fun i j hij hj=>by
   rw[zFS (by omega) (by omega),zFS (by omega) (by omega),show k-(k-l)=l by omega]
   repeat' split
   all_goals first
    | (exfalso;omega)
    | exact KeyOrd.kle_refl _
    | exact hlo _ (by omega)
    | exact KeyOrd.kle_of_klt (hhi _ (by omega) (by omega))
    | exact hs _ _ (by omega) (by omega)
  obtain⟨q,e2,a,b⟩:=zKX f (bubble p k (k-l)) (k+1) (by rw[(bubble_perm p k (k-l)).size_eq];omega) hs'
  exact⟨q,e2,a.trans (bubble_perm _ _ _),by rw[show k+(f+1)=k+1+f by omega];exact b⟩
theorem sort_ok (n:Nat)(h1:1<=n):∃q,ev (lt_ key) (kas_sort n)=q/\q.Perm (List.range n).toArray/\Sr key q n:=by
 unfold kas_sort
 rw[zDM]
 have hz:(List.range n).toArray.size=n:=by simp
 obtain⟨m,q,e,a,b,c,d⟩:=zJ3 (key:=key) (p:=(List.range n).toArray) h1 (by omega)
 rw[e]
 dsimp only
 have hq:q.size=n:=by rw[a.size_eq,hz]
 by_cases hm:m<n
 . rw[if_pos hm]
   obtain⟨r,e2,a2,b2⟩:=zKX (key:=key) (n-max m 1) q (max m 1) (by omega) (by rw[show max m 1=m by omega];exact d)
   exact⟨r,e2,a2.trans a,by rw[show max m 1+(n-max m 1)=n by omega] at b2;exact b2⟩
 . rw[if_neg hm]
   have:m=n:=by omega
   subst this
   exact⟨q,rfl,a,d⟩
end
noncomputable def zEN {α:Type}(n:Nat)(R:α->Prop):KasT α->Prop
 | .ret a=>R a
 | .ask i j k=>i<n/\j<n/\∀b,zEN n R (k b)
theorem zEN.bind {α β:Type}{n:Nat}{R:α->Prop}{R':β->Prop}{f:α->KasT β}(hf:∀a,R a->zEN n R' (f a)):∀(t:KasT α),zEN n R t->zEN n R' (t.bind f)
 | .ret a,h=>hf a h
 | .ask _ _ k,h=>⟨h.1,h.2.1,fun b=>zEN.bind hf (k b) (h.2.2 b)⟩
noncomputable def Bd (n:Nat)(p:Array Nat):Prop:=∀i,p.getD i 0<n
theorem Bd.perm {q:Array Nat}(h:Bd n q)(hp:p.Perm q):Bd n p:=fun i=>by
 have h0:0<n:=zAU (ze _) (h 0)
 by_cases hi:i<p.size
 . have e:p.getD i 0=p[i]:=by simp[Array.getD,hi]
   rw[e]
   have hm:p[i]∈q.toList:=(Array.perm_iff_toList_perm.mp hp).mem_iff.mp (by simp)
   obtain⟨j,hj,ej⟩:=zx hm
   have hj':j<q.size:=by simpa using hj
   have:=h j
   rw[show q.getD j 0=q[j] by simp[Array.getD,hj']] at this
   rw[<-ej]
   simpa using this
 . have e:p.getD i 0=0:=by simp[Array.getD,hi]
   rw[e];exact h0
theorem zGF {n:Nat}{p:Array Nat}(hp:Bd n p):∀f m,zEN n (fun _=>True) (kas_asc p f m)
 | 0,_=>trivial
 | f+1,m=>⟨hp _,hp _,fun b=>by
  cases b with
  | true=>exact trivial
  | false=>exact zGF hp f (m+1)⟩
theorem zDg {n:Nat}:∀(f:Nat)(p:Array Nat)(m q:Nat),Bd n p->zEN n (fun r=>Bd n r.1) (kas_desc f p m q)
 | 0,_,_,_,hp=>hp
 | f+1,p,m,q,hp=>⟨hp _,hp _,fun b=>by
  cases b with
  | true=>
   show zEN n _ (if q > 0 then kas_desc f (kas_rev p (m-(q+1)) m) (m+1) 0 else kas_desc f p (m+1) 0)
   split
   . exact zDg f _ _ _ (hp.perm (zB6 _ _ _))
   . exact zDg f _ _ _ hp
  | false=>
   refine⟨hp _,hp _,fun d=>?_⟩
   cases d with
   | true=>exact hp
   | false=>exact zDg f _ _ _ hp⟩
theorem zE8 {m:Nat}(hp:Bd n p):zEN n (fun r=>Bd n r.2) (kas_tail3 m nrem p):=by
 unfold kas_tail3
 exact zEN.bind (R:=fun _=>True) (R':=fun r=>Bd n r.2) (f:=fun k=>KasT.ret (k,kas_rev p 0 m)) (fun a _=>hp.perm (zB6 p 0 m)) _ (zGF (hp.perm (zB6 p 0 m)) _ _)
theorem zDV {m:Nat}(hp:Bd n p):zEN n (fun r=>Bd n r.2) (kas_descPart m nrem p):=
 zEN.bind (fun r hr=>by
  split
  . exact zE8 (hr.perm (zB6 _ _ _))
  . exact zE8 hr) _ (zDg _ _ _ _ hp)
theorem zIs (hp:Bd n p):zEN n (fun r=>Bd n r.2) (kas_count nrem p):=
 zEN.bind (fun r _=>by
  split
  . exact hp
  . split
    . refine⟨hp _,hp _,fun b=>?_⟩
      cases b with
      | true=>exact hp
      | false=>exact zDV (hp.perm (zB6 _ _ _))
    . exact zDV hp) _ (zGF hp _ _)
theorem zDo {n k:Nat}{p:Array Nat}(hp:Bd n p):∀f l r,zEN n (fun _=>True) (kas_place p k f l r)
 | 0,_,_=>trivial
 | f+1,l,r=>by
  unfold kas_place
  split
  . exact trivial
  . refine⟨hp _,hp _,fun b=>?_⟩
    cases b with
    | true=>exact zDo hp f _ _
    | false=>exact zDo hp f _ _
theorem zI2 {n:Nat}:∀(f:Nat)(p:Array Nat)(k:Nat),Bd n p->zEN n (fun _=>True) (kas_bin f p k)
 | 0,_,_,_=>trivial
 | f+1,p,k,hp=>zEN.bind (fun l _=>zI2 f _ _ (hp.perm (bubble_perm _ _ _))) _ (zDo hp _ _ _)
theorem sort_win (h:0<n):zEN n (fun _=>True) (kas_sort n):=
 zEN.bind (fun r hr=>by
  split
  . exact zI2 _ _ _ hr
  . exact trivial) _ (zIs fun i=>by
    by_cases hi:i<n
    . simp[Array.getD,hi]
    . simp[Array.getD,hi];exact h)
end SortT
namespace SortT
open PySem PySem.W PySem.Calls PyProof.Rows
theorem wp_ev {α:Type}{cmp:Nat->Nat->(Bool->Shared->Prop)->Shared->Prop}{lt:Nat->Nat->Bool}{n:Nat}{s:Shared}(hc:∀i j C,i<n->j<n->C (lt i j) s->cmp i j C s){R:α->Prop}{Q:α->Shared->Prop} :
 ∀t:KasT α,zEN n R t->Q (ev lt t) s->t.kasWp cmp Q s
 | .ret _,_,h=>h
 | .ask i j k,w,h=>hc i j _ w.1 w.2.1 (wp_ev hc (k (lt i j)) (w.2.2 _) h)
variable {O:KeyOrd}
section
variable {prog:Program}{w:World}{A:Around}{E:vSP}{s:Shared}
structure Put {O:KeyOrd}(key:Nat->O.α)(n:Nat)(out:List Nat):Prop where
 perm:out.Perm (List.range n)
 rise:∀(i j a b:Nat),i<=j->out[i]? = some a->out[j]? = some b->O.kle (key a) (key b)
theorem put_of {key:Nat->O.α}{n:Nat}{q:Array Nat}(hp:q.Perm (List.range n).toArray)(hs:Sr key q n):Put key n q.toList:=by
 have hl:q.toList.Perm (List.range n):=Array.perm_iff_toList_perm.mp hp
 refine⟨hl,fun i j a b hij ha hb=>?_⟩
 have hz:q.size=n:=by have:=hp.size_eq;simpa using this
 have hj:j<q.toList.length:=(zH.mp hb).1
 have hj':j<n:=by rw[<-hz];simpa using hj
 have h:=hs i j hij hj'
 have ga:q.getD i 0=a:=by
  rw[Array.getD_eq_getD_getElem?,<-Array.getElem?_toList,ha];rfl
 have gb:q.getD j 0=b:=by
  rw[Array.getD_eq_getD_getElem?,<-Array.getElem?_toList,hb];rfl
 unfold kk at h
 rw[ga,gb] at h
 exact h
structure Asks (prog:Program)(w:World)(A:Around)(s:Shared)(a:Addr)(vs:List Value){O:KeyOrd}(key:Nat->O.α)(κ:SortKind):Prop where
 kind:∀(h':Heap)(Q:SortKind->Shared->Prop)(E:vSP),(∀b o,b≠a->s.heap.get? b=some o->h'.get? b=some o)->Q κ { s with heap:=h' }->wpAny (model prog w) A (keyKind' vs.toArray) Q E { s with heap:=h' }
 less:∀(h':Heap)(i j:Nat)(Q:Bool->Shared->Prop)(E:vSP),(∀b o,b≠a->s.heap.get? b=some o->h'.get? b=some o)->i<vs.length->j<vs.length->Q (O.blt (key i) (key j)) { s with heap:=h' } ->
  wpAny (model prog w) A (keyLt' κ (vs.getD i Value.none) (vs.getD j Value.none)) Q E { s with heap:=h' }
theorem zFP {a:Addr}{vs:List Value}{n:Nat}{P:PySem.Fin->Shared->Prop}{key:Nat->O.α}{κ:SortKind}(ho:s.heap.get? a=some (seqObj "list" vs.toArray n)) (h64:vs.length<64)
 (ask:2<=vs.length->Asks prog w A s a vs key κ)
 (h:∀out:List Nat,Put key vs.length out->P (.done (.ret .none)) { s with heap:=sortedHeap s.heap a vs (out.map fun i=>vs.getD i Value.none).toArray }) :
 wpAny (model prog w) A (Builtin.«list.sort» ⟨[.ref a],[]⟩) P E s:=by
 rw[list_sort_plain]
 have ha:a<s.heap.objs.size:=zX ho
 refine zA (listItems_at ho rfl ?_)
 refine zA (listUpdate_at ho rfl ?_ (by rw[zT,sizeLine_eq];omega) (ze _))
 obtain⟨e1,ho1⟩:∃e1,(s.heap.update a (Obj.mapSeq fun _=>#[])).get? a=some (seqObj "list" #[] e1):=⟨_,get?_update_seq ho (fun _=>#[])⟩
 refine zA (seqEpoch_at ho1 rfl ?_)
 refine zA (wpAny_newTuple ?_ (by show vs.length<=_;rw[sizeLine_eq];omega))
 refine zA (wpAny_newList ?_ (ze _))
 refine zAN ?_
 have ho6:(((s.heap.update a (Obj.mapSeq fun _=>#[])).push (seqObj "tuple" vs.toArray 0)).push (seqObj "list" #[] 0)).get? a=some (seqObj "list" #[] e1):=by
  rw[Heap.get?_push_ne _ _ _ (by rw[size_push',Heap.size_update];exact zd (zAo ha)),Heap.get?_push_ne _ _ _ (by rw[Heap.size_update];exact zd ha)]
  exact ho1
 have keep:∀b o,b≠a->s.heap.get? b=some o->(((s.heap.update a (Obj.mapSeq fun _=>#[])).push (seqObj "tuple" vs.toArray 0)).push (seqObj "list" #[] 0)).get? b=some o:=fun b o hb e=>by
  refine zG _ (zG _ ?_)
  rw[zAX _ _ _ _ hb]
  exact e
 show wpAny (model prog w) A _ P E { s with heap:=((s.heap.update a (Obj.mapSeq fun _=>#[])).push (seqObj "tuple" vs.toArray 0)).push (seqObj "list" #[] 0) }
 dsimp only
 by_cases h2:vs.toArray.size<2
 . rw[if_pos h2,if_pos h2]
   refine zA (zF ?_)
   rw[StateT.run_pure]
   refine zA (zF ?_)
   dsimp only
   refine zA (seqEpoch_at ho6 rfl ?_)
   refine zA (listUpdate_at ho6 rfl ?_ (ze _) (by rw[Array.size_map];show (pairsOf vs).size<=_;rw[pairsOf_size,sizeLine_eq];omega))
   simp only[bne_self_eq_false,zA2,if_false]
   refine zF ?_
   have hlen:vs.length<2:=by simpa using h2
   have hout:(arrOf (SortSt.mk' general' (vs.toArray.zip vs.toArray) #[] 7 none)).map (·.2)=((List.range vs.length).map fun i=>vs.getD i Value.none).toArray:=by
    show (vs.toArray.zip vs.toArray).map (·.2)=_
    match vs,hlen with
    | [],_=>simp
    | [v],_=>simp
    | _::_::_,h=>exfalso;simp only[zp] at h;omega
   have fin:=h (List.range vs.length) ⟨.refl _,fun i j x y hij hx hy=>by
    have hj:j<(List.range vs.length).length:=(zH.mp hy).1
    rw[zAQ] at hj
    have e:i=j:=by omega
    subst e
    rw[hx] at hy
    cases hy
    exact KeyOrd.kle_refl _⟩
   rw[<-hout] at fin
   exact fin
 . rw[if_neg h2,if_neg h2]
   have h2':2<=vs.length:=by
    have:¬ vs.length<2:=by simpa using h2
    omega
   have K:=ask h2'
   refine zA (K.kind _ _ _ keep ?_)
   obtain⟨q,eq,hp,hs⟩:=sort_ok (key:=key) vs.length (by omega)
   have run:(kas_sort vs.length).kasWp (kas_ask prog w A κ vs) (fun p s'=>p=q/\s'={ s with heap:=((s.heap.update a (Obj.mapSeq fun _=>#[])).push (seqObj "tuple" vs.toArray 0)).push (seqObj "list" #[] 0) })
    { s with heap:=((s.heap.update a (Obj.mapSeq fun _=>#[])).push (seqObj "tuple" vs.toArray 0)).push (seqObj "list" #[] 0) }:=
    wp_ev (lt:=lt_ key) (n:=vs.length) (fun i j C hi hj hC=>K.less _ i j C _ keep hi hj hC) _ (sort_win (by omega)) ⟨eq,rfl⟩
   refine zA (zAM (kat_run (ks:=vs) (vs:=vs) (Q:=fun st' s'=>∃p:Array Nat,p.size=vs.length/\arrOf st'=p.map (kas_item (vs.toArray.zip vs.toArray))/\failedOf st'=none/\p=q/\s'={ s with heap:=((s.heap.update a (Obj.mapSeq fun _=>#[])).push (seqObj "tuple" vs.toArray 0)).push (seqObj "list" #[] 0) })
    rfl h2' h64 (fun p' st' s' a1 a2 a3 a4=>⟨p',a1,a2,a3,a4⟩) run) ?_ fun _ _ e=>e)
   rintro ⟨⟨⟩,st'⟩ s' ⟨p,hsz,har,hf,rfl,rfl⟩
   dsimp only
   refine zA (seqEpoch_at ho6 rfl ?_)
   refine zA (listUpdate_at ho6 rfl ?_ (ze _) (by rw[Array.size_map,har,Array.size_map,hsz,sizeLine_eq];omega))
   rw[hf]
   simp only[bne_self_eq_false,zA2,if_false]
   refine zF ?_
   have hout:=kat_snds (ks:=vs) (vs:=vs) rfl har
   have fin:=h p.toList (put_of hp hs)
   rw[<-hout] at fin
   exact fin
theorem sorted_list {l:Addr}{vs:List Value}{Q:vSP}{key:Nat->O.α}{κ:SortKind}(hl:s.heap.IsList l vs.toArray)(h64:vs.length<64)
 (ask:2<=vs.length->∀(s':Shared)(a:Addr),(∀b o,s.heap.get? b=some o->b≠a)->(∀b o,s.heap.get? b=some o->s'.heap.get? b=some o)->Asks prog w A.in1.in1 s' a vs key κ)
 (h:∀(D:Addr)(h':Heap)(out:List Nat)(c:Nat),Put key vs.length out->s.heap.objs.size<=D->(∀b o,s.heap.get? b=some o->h'.get? b=some o) ->
  h'.get? D=some (seqObj "list" (out.map fun i=>vs.getD i Value.none).toArray c)->Q (.ref D) { s with heap:=h' }) :
 wpAny (model prog w) A (call (.builtin "sorted") [.ref l]) Q E s:=by
 refine Calls.call_function_entry kind_sorted plain_sorted entry_sorted (args_sorted1 _) ?_
 unfold Builtin.«sorted»
 refine zA (m:=checkCount "sorted" 1 1 _) (zF ?_)
 refine zA (collect_list hl ?_ (by rw[sizeLine_eq];omega))
 refine zA (wpAny_newList ?_ (by rw[sizeLine_eq];omega))
 have hsz:((s.heap.push (seqObj "list" #[] 0)).update s.heap.objs.size (Obj.mapSeq (· ++ vs.toArray))).objs.size=s.heap.objs.size+1:=by
  rw[Heap.size_update,size_push']
 have hoL:(((s.heap.push (seqObj "list" #[] 0)).update s.heap.objs.size (Obj.mapSeq (· ++ vs.toArray))).push (seqObj "list" vs.toArray 0)).get? (s.heap.objs.size+1)=some (seqObj "list" vs.toArray 0):=by
  rw[<-hsz];exact zR _ rfl
 have keep:∀b o,s.heap.get? b=some o->(((s.heap.push (seqObj "list" #[] 0)).update s.heap.objs.size (Obj.mapSeq (· ++ vs.toArray))).push (seqObj "list" vs.toArray 0)).get? b=some o:=fun b o q=>by
  have hlt:b<s.heap.objs.size:=zX q
  rw[Heap.get?_push_ne _ _ _ (by rw[hsz];exact zd (zAo hlt)),zAX _ _ _ _ (zd hlt),Heap.get?_push_ne _ _ _ (zd hlt)]
  exact q
 show wpAny _ _ _ _ _ { s with heap:=((s.heap.push (seqObj "list" #[] 0)).update s.heap.objs.size (Obj.mapSeq (· ++ vs.toArray))).push (seqObj "list" vs.toArray 0) }
 rw[hsz]
 refine zA (zAN (zA3 slot_list_sort ⟨_,hoL,rfl⟩ entry_list_sort (zFP (O:=O) (key:=key) (κ:=κ) hoL h64 (fun h2=>ask h2 _ _ (fun b o e=>zd (zAo (zX e))) keep) fun out hp=>⟨_,rfl,?_⟩) (args_list_sort _)))
 refine zF ⟨_,rfl,?_⟩
 obtain⟨c,hc⟩:=sortedAll_at s.heap vs (out.map fun i=>vs.getD i Value.none).toArray
 exact h _ _ out c hp (zAq _) (fun b o e=>sortedAll_old e) hc
end
end SortT
namespace DRaw
open PySem PySem.W PySem.Calls PyProof.Rows
noncomputable def At (h:Heap)(d:Addr)(es:Array DictEntry)(ep:Nat):Prop:=∃o,h.get? d=some o/\o.ExactDict/\o.data = .dict es ep
variable {d:Addr}{es:Array DictEntry}{ep:Nat}
theorem At.keep {h h':Heap}(x:At h d es ep)(k:∀o,h.get? d=some o->h'.get? d=some o):At h' d es ep:=
 let ⟨o,ho,r⟩:=x;⟨o,k o ho,r⟩
theorem At.lt {h:Heap}(x:At h d es ep):d<h.objs.size:=let ⟨_,ho,_⟩:=x;zX ho
theorem At.typeIs {s:Shared}(x:At s.heap d es ep):s.TypeIs (.ref d) "dict" := let ⟨o,ho,hc,_⟩:=x;⟨o,ho,hc.1⟩
variable {Q:Option Value->Shared->Prop}
section
variable {prog:Program}{w:World}{A:Around}{E:vSP}{s:Shared}{it d:Addr}{es:Array DictEntry}{i ep:Nat}
theorem iter {Q:vSP}(hd:(d==sysModules)=false)(hm:At s.heap d es ep)
 (hQ:Q (.ref s.heap.objs.size) { s with heap:=s.heap.push { cls:=.type "dict_keyiterator",data:=.fields #[.ref d,.int 0 0,.int es.size 0,.int ep 0] } }) :
 wpAny (model prog w) A (pyIter (.ref d)) Q E s:=by
 obtain⟨o,ho,hc,hdat⟩:=id hm
 have hT:=hm.typeIs
 refine wpAny_pyIter_slot hT F.slot_dict_iter (zA3 F.slot_dict_iter hT F.entry_dict_iter ?_ (F.args_dict_iter_1 _))
 unfold Builtin.«dict.__iter__»
 refine zA ?_
 unfold Builtin.Dict.dictSlotNone
 refine zA (wpAny_notOrdered_dict hT ?_)
 show wpAny _ _ (pure (Value.ref d)) _ _ s
 refine zF ?_
 show wpAny _ _ (Builtin.Dict.showsAll d >>= _) _ _ s
 unfold Builtin.Dict.showsAll
 rw[if_neg (by rw[hd];exact zh)]
 refine zA (zF ?_)
 refine zA (wpAny_dictEntries ho hdat ?_)
 refine zA (wpAny_dictEpoch ho hdat ?_)
 refine zA (zAn (zF ⟨_,rfl, "dict_keyiterator",_,⟨_,zR _ rfl,rfl⟩,F.slot_dict_keyiterator_next.lookup,?_⟩))
 simpa [rawInt] using hQ
theorem next (hit:s.heap.IsKeyIter it d i es.size ep)(hm:At s.heap d es ep)(hlt':i<es.size)
 (hQ:∀h',h'.IsKeyIter it d (i+1) es.size ep->Heap.SameBut it s.heap h'->Q (some es[i].key) { s with heap:=h' }):wpAny (model prog w) A (pyNext (.ref it)) Q E s:=by
 obtain⟨o,ho,hc,hd⟩:=id hit
 obtain⟨od,hod,hcd,hdd⟩:=id hm
 unfold pyNext
 refine zA (wpAny_attempt (zAz (name:=Str.ofString "__next__") hit.typeIs F.slot_dict_keyiterator_next
  (zA3 F.slot_dict_keyiterator_next hit.typeIs F.entry_dict_keyiterator_next ?_ (F.args_dict_keyiterator_next_1 _))))
 refine zA (zF ?_)
 refine zA ?_
 refine zA ?_
 first | refine zA (zBt hit.typeIs (zF ?_)) | refine zA (wpAny_typeNameOf_keyiter hit.typeIs (zF ?_))
 refine zA (wpAny_fieldsOf ho hd ?_)
 have hown:Builtin.Dict_items.ownsTuple "dict_keyiterator" = false:=by decide
 simp only[hown,zA2,if_false]
 show wpAny _ _ (if (Value.ref d==Value.none)=true then _ else _) _ _ s
 rw[if_neg (show ¬ ((Value.ref d==Value.none)=true) from zh)]
 refine zA (zF ?_)
 refine zA (wpAny_dictEntries hod hdd ?_)
 rw[if_neg (by simp)]
 refine zA (zF ?_)
 refine zA (wpAny_dictEpoch hod hdd ?_)
 rw[if_neg (by simp)]
 refine zF ?_
 simp only[show ¬ ((i:Int)<0) from by omega,if_false,zAx,Array.getElem?_eq_getElem hlt']
 refine zA ?_
 first | refine zA (zBt hit.typeIs (zF ?_)) | refine zA (wpAny_typeNameOf_keyiter hit.typeIs (zF ?_))
 refine zA (wpAny_isOneOf_keyiter hit.typeIs ?_)
 show wpAny _ _ (setField (.ref it) 1 (rawInt ((i:Int)+1)) >>= _) _ _ s
 refine zA (wpAny_setField ho hd (by simp) ?_)
 have hit':(s.heap.update it (Obj.mapFields (·.setIfInBounds 1 (rawInt ((i:Int)+1))))).IsKeyIter it d (i+1) es.size ep:=
  ⟨_,zAc _ ho (Obj.isFreed_of_fields (Obj.data_mapFields hd _)),(Obj.cls_mapFields ..).trans hc,by rw[Obj.data_mapFields hd];simp[rawInt]⟩
 refine zA (zAN ?_)
 refine zA (wpAny_isOneOf_keyiter (s:={ s with heap:=s.heap.update it (Obj.mapFields (·.setIfInBounds 1 (rawInt ((i:Int)+1)))) }) hit'.typeIs ?_)
 show wpAny _ _ (pure es[i].key) _ _ _
 exact zF (zF ⟨_,rfl,zF (hQ _ hit' (Heap.SameBut.update ..))⟩)
theorem stop (hh:A.handled=none)(hit:s.heap.IsKeyIter it d i es.size ep)(hm:At s.heap d es ep)(hge:es.size<=i)
 (hQ:∀h',Heap.ExtBut it s.heap h'->Q none { s with heap:=h' }):wpAny (model prog w) A (pyNext (.ref it)) Q E s:=by
 obtain⟨o,ho,hc,hd⟩:=id hit
 obtain⟨od,hod,hcd,hdd⟩:=id hm
 unfold pyNext
 refine zA (wpAny_attempt (zAz (name:=Str.ofString "__next__") hit.typeIs F.slot_dict_keyiterator_next
  (zA3 F.slot_dict_keyiterator_next hit.typeIs F.entry_dict_keyiterator_next ?_ (F.args_dict_keyiterator_next_1 _))))
 refine zA (zF ?_)
 refine zA ?_
 refine zA ?_
 first | refine zA (zBt hit.typeIs (zF ?_)) | refine zA (wpAny_typeNameOf_keyiter hit.typeIs (zF ?_))
 refine zA (wpAny_fieldsOf ho hd ?_)
 have hown:Builtin.Dict_items.ownsTuple "dict_keyiterator" = false:=by decide
 simp only[hown,zA2,if_false]
 show wpAny _ _ (if (Value.ref d==Value.none)=true then _ else _) _ _ s
 rw[if_neg (show ¬ ((Value.ref d==Value.none)=true) from zh)]
 refine zA (zF ?_)
 refine zA (wpAny_dictEntries hod hdd ?_)
 rw[if_neg (by simp)]
 refine zA (zF ?_)
 refine zA (wpAny_dictEpoch hod hdd ?_)
 rw[if_neg (by simp)]
 refine zF ?_
 simp only[show ¬ ((i:Int)<0) from by omega,if_false,zAx,Array.getElem?_eq_none hge]
 refine zA ?_
 first | refine zA (zBt hit.typeIs (zF ?_)) | refine zA (wpAny_typeNameOf_keyiter hit.typeIs (zF ?_))
 show wpAny _ _ (setField (.ref it) 0 .none >>= _) _ _ s
 refine zA (wpAny_setField ho hd (by simp) ?_)
 show wpAny _ _ (newExc (.type "StopIteration") [] >>= _) _ _ _
 refine zA ?_
 simp only[newExc,newTuple]
 refine zA (zAn ?_ (by size_fits))
 refine zA (m:=firstArgMember _ _) (wpAny_of_eq (a:=Value.none) (by first | rfl | (simp only[firstArgMember];rfl)) ?_)
 refine zAn ?_ (by size_fits)
 simp only[raiseNew]
 refine zA (wpAny_handled ?_)
 rw[show A.in1.handled=none from hh]
 refine zA (zF (wpAny_throw ?_))
 refine zA (zBY (T := "StopIteration") (b:=true) ⟨_,zR _ rfl,rfl⟩ isSubtype_stop ?_)
 exact zF (hQ _ (((Heap.SameBut.update ..).extBut.push _).push _))
end
section
variable {prog:Program}{w:World}{A:Around}{d:Addr}{es:Array DictEntry}{ep:Nat}
theorem walks (hh:A.handled=none)(I:Addr)(hne:d≠I):Walks prog w A I [I,d] [I] es.size (fun i v=>∃e,es[i]? = some e/\v=e.key) (fun i h=>h.IsKeyIter I d i es.size ep/\At h d es ep) where
 sub:=fun b hb=>by simp at hb;simp[hb]
 frame:=fun _ _ _ st hk=>⟨st.1.at fun o e=>hk I (by simp) o e,st.2.keep fun o e=>hk d (by simp) o e⟩
 item:=fun i s Q E hi st hQ=>next st.1 st.2 hi fun h' hit' hs'=>
  hQ _ h' s.toks ⟨es[i],by simp[hi],rfl⟩ ⟨hit',st.2.keep fun o e=>hs'.extBut d o hne e⟩ fun b o hb e=>hs'.extBut b o (fun h=>hb (by simp[h])) e
 done:=fun s Q E st hQ=>stop hh st.1 st.2 (zK _) fun h' he'=>hQ h' s.toks fun b o hb e=>he' b o (fun h=>hb (by simp[h])) e
 self:=fun _ _ _ _ st hQ=>wpAny_pyIter_keyiter st.1 hQ
theorem src (lo:(d==sysModules)=false):KdlSrc prog w "dict" d d es.size (fun i v=>∃e,es[i]? = some e/\v=e.key) (fun h=>At h d es ep) where
 type:=fun _ hm=>hm.typeIs
 there:=fun _ hm=>⟨hm.lt,hm.lt⟩
 keep:=fun _ _ hm hk=>hm.keep fun o e=>hk d (.inl rfl) o e
 notList:=by decide
 notTuple:=by decide
 hint:=fun _ _ _ _ hm hq=>kdl_hint_dict hm.typeIs hq
 iter:=fun _ _ hh hm=>⟨_,_,(fun _ _ hq=>iter lo hm hq),walks hh _ (zd hm.lt),⟨⟨_,zR _ rfl,rfl,rfl⟩,hm.keep fun o e=>zG _ e⟩⟩
end
end DRaw
namespace SortT
open PySem PySem.W PySem.Calls PyProof.Rows
theorem sorted_dict {prog:Program}{w:World}{A:Around}{E:vSP}{s:Shared}{d:Addr}{es:Array DictEntry}{ep:Nat}{vs:List Value}{Q:vSP}{O:KeyOrd}{key:Nat->O.α}{κ:SortKind}
 (hh:A.handled=none)(lo:(d==sysModules)=false)(hm:DRaw.At s.heap d es ep)(hvs:vs=es.toList.map (·.key))(h64:vs.length<64)
 (ask:2<=vs.length->∀(s':Shared)(a:Addr),(∀b o,s.heap.get? b=some o->b≠a)->(∀b o,s.heap.get? b=some o->s'.heap.get? b=some o)->Asks prog w A.in1.in1 s' a vs key κ)
 (h:∀(h1:Heap)(D:Addr)(h':Heap)(t':Nat)(out:List Nat)(c:Nat),Put key vs.length out->(∀b o,s.heap.get? b=some o->h1.get? b=some o)->h1.objs.size<=D->(∀b o,h1.get? b=some o->h'.get? b=some o) ->
  h'.get? D=some (seqObj "list" (out.map fun i=>vs.getD i Value.none).toArray c)->Q (.ref D) { s with heap:=h',toks:=t' }) :
 wpAny (model prog w) A (call (.builtin "sorted") [.ref d]) Q E s:=by
 have hlen:vs.length=es.size:=by rw[hvs];simp
 refine call_function_entry kind_sorted plain_sorted entry_sorted (args_sorted1 _) ?_
 unfold Builtin.«sorted»
 refine zA (m:=checkCount "sorted" 1 1 _) (zF ?_)
 refine zA (kdu_collect (A:=A.in1) (DRaw.src (es:=es) (ep:=ep) lo) hh hm (by rw[sizeLine_eq];omega) fun h1 tk acc hk hacc=>?_)
 have el:acc.toList=vs:=by
  apply List.ext_getElem?
  intro j
  by_cases hj:j<es.size
  . have hz:j<acc.size:=by rw[hacc.1];exact hj
    obtain⟨e,he,hv⟩:=hacc.2 j acc[j] (by simp[hz])
    rw[Array.getElem?_toList,Array.getElem?_eq_getElem hz,hv,hvs,zM,Array.getElem?_toList,he]
    rfl
  . rw[zAK (by rw[Array.length_toList,hacc.1];omega),zAK (by omega)]
 rw[el]
 refine zA (wpAny_newList ?_ (by rw[sizeLine_eq];omega))
 have hoL:(h1.push (seqObj "list" vs.toArray 0)).get? h1.objs.size=some (seqObj "list" vs.toArray 0):=zR _ rfl
 have keep1:∀b o,h1.get? b=some o->(h1.push (seqObj "list" vs.toArray 0)).get? b=some o:=fun b o q=>zG _ q
 refine zA (zAN (zA3 slot_list_sort ⟨_,hoL,rfl⟩ entry_list_sort (zFP (O:=O) (key:=key) (κ:=κ) hoL h64
  (fun h2=>ask h2 _ _ (fun b o e=>zd (zX (hk b o e))) fun b o e=>keep1 b o (hk b o e)) fun out hp=>⟨_,rfl,?_⟩) (args_list_sort _)))
 refine zF ⟨_,rfl,?_⟩
 obtain⟨c,hc⟩:=sortedHeap_at (vs:=vs) (out:=(out.map fun i=>vs.getD i Value.none).toArray) hoL
 refine h h1 _ _ _ out c hp hk (zK _) (fun b o e=>?_) hc
 have hb:b<h1.objs.size:=zX e
 rw[sortedHeap_old (zd hb) (by rw[zAt];exact zAo hb)]
 exact keep1 b o e
end SortT
namespace L2
open PySem PySem.Spec PyProof.Rows
theorem zEW:∀a:List Int,HT.lexLt a a=false
 | []=>rfl
 | x::r=>by rw[HT.lexLt_cons,if_pos rfl];exact zEW r
theorem zDt:∀a b c:List Int,HT.lexLt a b=true->HT.lexLt b c=true->HT.lexLt a c=true
 | [],[],_,h,_=>by cases h
 | [],_::_,[],_,h=>by cases h
 | [],_::_,_::_,_,_=>rfl
 | _::_,[],_,h,_=>by cases h
 | _::_,_::_,[],_,h=>by cases h
 | x::a,y::b,z::c,h1,h2=>by
  rw[HT.lexLt_cons] at h1 h2 ⊢
  by_cases e1:x=y
  . subst e1
    rw[if_pos rfl] at h1
    by_cases e2:x=z
    . subst e2
      rw[if_pos rfl] at h2 ⊢
      exact zDt a b c h1 h2
    . rw[if_neg e2] at h2 ⊢;exact h2
  . rw[if_neg e1] at h1
    have l1:x<y:=of_decide_eq_true h1
    by_cases e2:y=z
    . subst e2;rw[if_neg e1];exact h1
    . rw[if_neg e2] at h2
      have l2:y<z:=of_decide_eq_true h2
      rw[if_neg (by omega)]
      exact zU (by omega)
theorem zDu:∀a b:List Int,HT.lexLt a b=false->HT.lexLt b a=false->a=b
 | [],[],_,_=>rfl
 | [],_::_,h,_=>by cases h
 | _::_,[],_,h=>by cases h
 | x::a,y::b,h1,h2=>by
  rw[HT.lexLt_cons] at h1 h2
  by_cases e:x=y
  . subst e
    rw[if_pos rfl] at h1 h2
    rw[zDu a b h1 h2]
  . rw[if_neg e] at h1
    rw[if_neg (Ne.symm e)] at h2
    have l1:=of_decide_eq_false h1
    have l2:=of_decide_eq_false h2
    omega
theorem zLS (a b c:List Int)(h:HT.lexLt a c=true):HT.lexLt a b=true\/HT.lexLt b c=true:=by
 cases h1:HT.lexLt a b with
 | true=>exact .inl rfl
 | false=>
  cases h2:HT.lexLt b a with
  | true=>exact .inr (zDt b a c h2 h)
  | false=>rw[<-zDu a b h1 h2];exact .inr h
noncomputable def zJs:KeyOrd:=⟨List Int,HT.lexLt,zEW,zDt,zLS,zDu⟩
noncomputable def zE2 (ms:List (List Int)):Prop:=ms.Pairwise fun a b=>HT.lexLt b a=false
noncomputable def zAd (H:Hp):List V->List (List Int)->Prop
 | [],[]=>True
 | x::xs,k::ks=>(∃a,x = .ref a/\H a=some (.tup (k.map V.int))/\k≠[])/\zAd H xs ks
 | _,_=>False
theorem zAd.length {H:Hp}:∀{xs:List V}{ks:List (List Int)},zAd H xs ks->xs.length=ks.length
 | [],[],_=>rfl
 | [],_::_,h=>h.elim
 | _::_,[],h=>h.elim
 | _::_,_::_,h=>by rw[zp,zp,zAd.length h.2]
theorem zAd.get {H:Hp}:∀{xs:List V}{ks:List (List Int)}{i:Nat}{x:V},zAd H xs ks->xs[i]? = some x->∃a k,x = .ref a/\ks[i]? = some k/\H a=some (.tup (k.map V.int))/\k≠[]
 | [],_,_,_,_,h=>by simp at h
 | _::_,[],_,_,h,_=>h.elim
 | y::_,k::_,0,x,h,e=>by
  obtain⟨⟨a,h1,h2,h3⟩,_⟩:=h
  have e':y=x:=by simpa using e
  subst e'
  exact⟨a,k,h1,rfl,h2,h3⟩
 | _::_,_::_,i+1,x,h,e=>by
  obtain⟨a,k,h1,h2,h3⟩:=zAd.get (i:=i) h.2 (by simpa using e)
  exact⟨a,k,h1,by simpa using h2,h3⟩
theorem zAd.mk {H:Hp}:∀{xs:List V}{ks:List (List Int)},xs.length=ks.length->(∀(i:Nat)(x:V)(k:List Int),xs[i]? = some x->ks[i]? = some k->∃a,x=V.ref a/\H a=some (.tup (k.map V.int))/\k≠[])->zAd H xs ks
 | [],[],_,_=>trivial
 | [],_::_,e,_=>by simp at e
 | _::_,[],e,_=>by simp at e
 | x::xs,k::ks,e,h=>⟨h 0 x k rfl rfl,zAd.mk (by simpa using e) fun i x' k' h1 h2=>h (i+1) x' k' (by simpa using h1) (by simpa using h2)⟩
variable {H:Hp}{ks:List (List Int)}
theorem zAd.keep {H':Hp}{xs:List V}(h:zAd H xs ks)(k:∀b ys,H b=some (.tup ys)->H' b=some (.tup ys)):zAd H' xs ks:=
 zAd.mk h.length fun i x c h1 h2=>by
  obtain⟨a,c',e1,e2,e3,e4⟩:=h.get h1
  rw[h2] at e2
  cases e2
  exact⟨a,e1,k a _ e3,e4⟩
theorem zAd.snoc {H:Hp}:∀{xs:List V}{ks:List (List Int)}{x:V}{k:List Int},zAd H xs ks->(∃a,x = .ref a/\H a=some (.tup (k.map V.int))/\k≠[])->zAd H (xs++[x]) (ks++[k])
 | [],[],_,_,_,h=>⟨h,trivial⟩
 | [],_::_,_,_,t,_=>t.elim
 | _::_,[],_,_,t,_=>t.elim
 | _::_,_::_,_,_,t,h=>⟨t.1,zAd.snoc t.2 h⟩
section
variable {prog:Program}{w:World}{A:Around}{s:Shared}
theorem zDy {fin:Bool}{Q:Bool->Shared->Prop}:∀(ns ms:List Int)(us ws:List Value)(i:Nat),IntsAre us ns->IntsAre ws ms->fin=decide (ns.length<ms.length)->Q (HT.lexLt ns ms) s ->
 PySem.W.KatLex prog w A true fin Q (us.zip ws) i s
 | [],[],_,_,_,.nil,.nil,e,q=>by subst e;exact q
 | [],_::_,_,_,_,.nil,.cons _ _ _,e,q=>by subst e;exact q
 | _::_,[],_,_,_,.cons _ _ _,.nil,e,q=>by subst e;exact q
 | n::ns,m::ms,_,_,i,.cons _ t hu,.cons _ u hw,e,q=>by
  rw[HT.lexLt_cons] at q
  refine PySem.W.kat_cons (wpAny_eqBool_int ?_)
  by_cases h:n=m
  . rw[if_pos h] at q
    rw[show (n==m)=true by simpa using h]
    exact PySem.W.kat_yes (zDy ns ms _ _ (i+1) hu hw (by rw[e];simp) q)
  . rw[if_neg h] at q
    rw[show (n==m)=false by simpa using h]
    refine PySem.W.kat_no ?_
    cases i with
    | zero=>exact oneLt_int q
    | succ j=>exact PySem.W.kat_one _ _ (PyProof.Rows.lt_int q)
theorem zFu {X:Cx}{pins:lPO}{σ:St}{s s':Shared}{a:Addr}{ys:List V}{vs:List Value}{A:Around}(I:Inv X pins σ H s)(T:zAd H ys ks)(r:zBE ys vs)(hne:0<vs.length)
 (fa:∀b o,s.heap.get? b=some o->b≠a)(kp:∀b o,s.heap.get? b=some o->s'.heap.get? b=some o):SortT.Asks X.prog X.w A s' a vs (O:=zJs) (fun i=>ks.getD i []) (tuples' true):=by
 have hl:=T.length
 have hv:=r.length
 have at_:∀(h':Heap),(∀b o,b≠a->s'.heap.get? b=some o->h'.get? b=some o)->∀i,i<vs.length->∃(p:Addr)(k:List Int)(us:List Value)(o:Obj)(n:Nat),vs[i]? = some (Value.ref p)/\ks[i]? = some k/\k≠[]/\IntsAre us k/\h'.get? p=some o/\o.cls = .type "tuple" /\ o.data = .seq us.toArray n:=fun h' kh i hi=>by
  have hy:i<ys.length:=by omega
  obtain⟨p,k,e1,e2,e3,e4⟩:=T.get (i:=i) (x:=ys[i]) (by simp[hy])
  obtain⟨u,hu,ru⟩:=r.get (i:=i) (x:=ys[i]) (by simp[hy])
  rw[e1] at ru
  cases (show u=Value.ref p from ru)
  obtain⟨_,its,rv,o,ho,hc,n,hd⟩:=I.hok p _ e3
  exact⟨p,k,its,o,n,hu,e2,e4,zB3 rv,kh p o (fa p o ho) (kp p o ho),hc,hd⟩
 refine⟨fun h' Q E kh q=>?_,fun h' i j Q E kh hi hj q=>?_⟩
 . -- all keys are tuples whose first items are ints
   have tups:∀(m:Nat),m<=vs.length->∃fs:List Value,PySem.W.KatTups h' (vs.drop (vs.length-m)) fs/\fs.length=m/\∀f∈fs,∃x t,f=Value.int x t:=by
    intro m
    induction m with
    | zero=>intro _;exact⟨[],by rw[Nat.sub_zero,List.drop_length];exact trivial,rfl,fun f hf=>by simp at hf⟩
    | succ m ih=>
     intro hm
     obtain⟨fs,t,e,hf⟩:=ih (by omega)
     obtain⟨p,k,us,o,n,hu,hk,hk0,hI,ho,hc,hd⟩:=at_ h' kh (vs.length-(m+1)) (by omega)
     have ed:vs.drop (vs.length-(m+1))=Value.ref p::vs.drop (vs.length-m):=by
      have hlt:vs.length-(m+1)<vs.length:=by omega
      rw[List.drop_eq_getElem_cons hlt,show vs.length-(m+1)+1=vs.length-m by omega]
      have:vs[vs.length-(m+1)]=Value.ref p:=by
       rw[zB hlt] at hu
       exact zY hu
      rw[this]
     cases hI with
     | nil=>exact absurd rfl hk0
     | cons x tx hI'=>
      refine⟨Value.int x tx::fs,by rw[ed];exact PySem.W.KatTups.cons ho hc hd rfl t,by rw[zp,e],fun f hf'=>?_⟩
      rcases zi.mp hf' with rfl | hf'
      . exact⟨x,tx,rfl⟩
      . exact hf f hf'
   obtain⟨fs,t,e,hf⟩:=tups vs.length (zK _)
   rw[Nat.sub_self,List.drop_zero] at t
   refine PySem.W.kat_kind (T:=Value.type "int") t (by omega) (fun v hv=>?_) (by rfl) q
   obtain⟨x,tx,rfl⟩:=hf v hv
   exact PySem.W.Looks.of_pure rfl
 . obtain⟨p,k,us,o,n,hu,hk,_,hI,ho,hc,hd⟩:=at_ h' kh i hi
   obtain⟨p2,k2,us2,o2,n2,hu2,hk2,_,hI2,ho2,hc2,hd2⟩:=at_ h' kh j hj
   have e1:vs.getD i Value.none = .ref p:=by rw[zE,hu];rfl
   have e2:vs.getD j Value.none = .ref p2:=by rw[zE,hu2];rfl
   have g1:ks.getD i []=k:=by rw[zE,hk];rfl
   have g2:ks.getD j []=k2:=by rw[zE,hk2];rfl
   rw[e1,e2]
   refine PySem.W.kat_lt (s:={ s' with heap:=h' }) ho hd ho2 hd2 ?_
   have q':Q (HT.lexLt k k2) { s' with heap:=h' }:=by
    have:zJs.blt (ks.getD i []) (ks.getD j [])=HT.lexLt k k2:=by rw[g1,g2];rfl
    rw[<-this];exact q
   have l1:=hI.length
   have l2:=hI2.length
   exact zDy k k2 us us2 0 hI hI2 (by simp only[zT];rw[l1,l2]) q'
theorem zGV {ys:List V}{vs:List Value}{out:List Nat}(T:zAd H ys ks)(r:zBE ys vs)(p:SortT.Put (O:=zJs) (fun i=>ks.getD i []) vs.length out) :
 ∃zs ms,zAd H zs ms/\ms.Perm ks/\zE2 ms/\zBE zs (out.map fun i=>vs.getD i Value.none)/\zs.length=ys.length:=by
 have hl:=T.length
 have hv:=r.length
 have hb:∀i∈out,i<vs.length:=fun i hi=>zBg.mp (p.perm.mem_iff.mp hi)
 refine⟨out.map fun i=>ys.getD i .non,out.map fun i=>ks.getD i [],zAd.mk (by rw[zC,zC]) fun j x k hx hk=>?_,?_,?_,?_,?_⟩
 . rw[zM] at hx hk
   cases e:out[j]? with
   | none=>rw[e] at hx;cases hx
   | some i=>
    rw[e] at hx hk
    have hi:=hb i (zO e)
    have hy:i<ys.length:=by omega
    obtain⟨a,c,e1,e2,e3,e4⟩:=T.get (i:=i) (x:=ys[i]) (by simp[hy])
    have ex:ys.getD i .non=x:=zY hx
    have ek:ks.getD i []=k:=zY hk
    rw[zE,zB hy] at ex
    rw[zE,e2] at ek
    have ex':ys[i]=x:=ex
    have ek':c=k:=ek
    subst ek'
    exact⟨a,by rw[<-ex'];exact e1,e3,e4⟩
 . have h1:=p.perm.map fun i=>ks.getD i []
   have h2:(List.range vs.length).map (fun i=>ks.getD i [])=ks:=by
    rw[show vs.length=ks.length by omega]
    apply List.ext_getElem?
    intro j
    rw[zM]
    by_cases hj:j<ks.length
    . rw[List.getElem?_range hj,zB hj];simp[hj]
    . rw[zAK (by rw[zAQ];omega),zAK (by omega)];rfl
   rw[h2] at h1
   exact h1
 . refine zy.mpr fun i j hi hj hij=>?_
   rw[zC] at hi hj
   have:=p.rise i j out[i] out[j] (zAw hij) (by simp) (by simp)
   have h3:HT.lexLt (ks.getD out[j] []) (ks.getD out[i] [])=false:=this
   simpa using h3
 . have:∀l:List Nat,(∀i∈l,i<vs.length)->zBE (l.map fun i=>ys.getD i .non) (l.map fun i=>vs.getD i Value.none):=by
    intro l
    induction l with
    | nil=>intro _;exact .nil
    | cons i l ih=>
     intro h
     have hi:=h i zV
     have hy:i<ys.length:=by omega
     obtain⟨u,hu,ru⟩:=r.get (i:=i) (x:=ys[i]) (by simp[hy])
     refine .cons ?_ (ih fun j hj=>h j (zc _ hj))
     show zBQ (ys.getD i V.non) (vs.getD i Value.none)
     rw[zE,zB hy,zE,hu]
     exact ru
   exact this out hb
 . rw[zC,p.perm.length_eq,zAQ];omega
theorem zDI {X:Cx}{pins:lPO}{σ:St}{s:Shared}{h':Heap}{D:Addr}{c t':Nat}{zs:List V}{us:List Value}(I:Inv X pins σ H s)(hD:s.heap.objs.size<=D)(kp:∀b o,s.heap.get? b=some o->h'.get? b=some o)
 (ho:h'.get? D=some (seqObj "list" us.toArray c)) (r:zBE zs us)(hz:zs.length<=sizeLine):Inv X pins σ (upd H D (.lst zs)) { s with heap:=h',toks:=t' }:=
 I.laid kp hD (show zBI X.prog X.w _ _ _ (.lst zs) from ⟨hz,us,c,r,ho⟩)
end
section
variable {X:Cx}
theorem zGD:zCl X (.builtin "sorted") (fun xs H Q=>∃p ys ks,xs=[.ref p]/\SqL X.K H p ys/\zAd H ys ks/\ks.length<64 /\
 ∀l zs ms,H l=none->zAd H zs ms->ms.Perm ks->zE2 ms->Q (.ref l) (upd H l (.lst zs))):=by
 intro pins s σ H xs us Q I r h
 obtain⟨p,ys,ks,rfl,hq,T,h64,q⟩:=h
 obtain⟨u,rfl,rx⟩:=zCS r
 cases rx
 obtain⟨its,r',pl,hz⟩:=I.list hq
 have hl:=T.length
 have hv:=r'.length
 refine SortT.sorted_list (O:=zJs) (key:=fun i=>ks.getD i []) (κ:=tuples' true) pl.isList (by omega) (fun h2 s' a fa kp=>zFu I T r' (by omega) fa kp) fun D h' out c pt hD kp ho=>?_
 obtain⟨zs,ms,T2,hp,hr,rz,hlz⟩:=zGV T r' pt
 exact⟨.ref D,_,zDI (t':=s.toks) I hD kp ho rz (by omega),rfl,q D zs ms (I.hok.fresh hD) T2 hp hr⟩
theorem zFl (hc:X.calm=true):zCl X (.builtin "sorted") (fun xs H Q=>∃p kvs ks,xs=[.ref p]/\H p=some (.dT kvs)/\kvs.map (·.1)=ks.map (List.map Sum.inl)/\(∀k∈ks,k≠[])/\ks.length<64 /\
 ∀l zs ms,H l=none->zAd H zs ms->ms.Perm ks->zE2 ms->Q (.ref l) (upd H l (.lst zs))):=by
 intro pins s σ H xs us Q I r h
 obtain⟨p,kvs,ks,rfl,hd,hks,hk0,h64,q⟩:=h
 obtain⟨u,rfl,rx⟩:=zCS r
 cases rx
 obtain⟨hz,lo,xs,rel,o,es,ep,ho,hx,hdat,hes,hnd⟩:=I.hok p _ hd
 have key:∀(kvs:List (List Key×V))(xs:List (List Key×Addr×Value))(ks:List (List Int)),KT H kvs xs->kvs.map (·.1)=ks.map (List.map Sum.inl)->(∀k∈ks,k≠[]) ->
  zAd H (xs.map fun q=>V.ref q.2.1) ks/\zBE (xs.map fun q=>V.ref q.2.1) ((xs.map (entryOfKey (tupleKind (zAf X.prog X.w)))).map (·.key)):=by
  intro kvs xs ks rel
  induction rel generalizing ks with
  | nil=>
   intro e _
   cases ks with
   | nil=>exact⟨trivial,.nil⟩
   | cons k ks=>simp at e
  | cons hpq _ ih=>
   intro e h0
   cases ks with
   | nil=>simp at e
   | cons k ks=>
    simp only[zAV,List.cons.injEq] at e
    obtain⟨T,V⟩:=ih ks e.2 fun c hc=>h0 c (zc _ hc)
    obtain⟨e1,e2,_⟩:=hpq
    refine⟨⟨⟨_,rfl,?_,h0 k zV⟩,T⟩,.cons rfl V⟩
    rw[e2,e.1,List.map_map]
    rfl
 obtain⟨T,rv⟩:=key kvs xs ks rel hks hk0
 have hl:=T.length
 have hv:=rv.length
 have evs:(xs.map (entryOfKey (tupleKind (zAf X.prog X.w)))).map (·.key)=es.toList.map (·.key):=by rw[hes]
 refine SortT.sorted_dict (O:=zJs) (key:=fun i=>ks.getD i []) (κ:=tuples' true) (vs:=(xs.map (entryOfKey (tupleKind (zAf X.prog X.w)))).map (·.key)) (I.ok.hd hc) lo ⟨o,ho,hx,hdat⟩ evs (by omega) (fun h2 s' a fa kp=>zFu I T rv (by omega) fa kp) fun h1 D h' t' out c pt k1 hD k2 ho=>?_
 obtain⟨zs,ms,T2,hp,hr,rz,hlz⟩:=zGV T rv pt
 have I1:Inv X pins σ H { s with heap:=h1,toks:=s.toks }:=I.kept k1
 refine⟨.ref D,_,zDI (s:={ s with heap:=h1,toks:=s.toks }) (t':=t') I1 hD k2 ho rz ?_,rfl,q D zs ms (I1.hok.fresh hD) T2 hp hr⟩
 have:sizeLine=16777216:=rfl
 omega
end
mutual
inductive zDD (H:Hp):V->PyData->Prop
 | non:zDD H .non .none
 | bl (b:Bool):zDD H (.bl b) (.bool b)
 | int (i:Int):zDD H (.int i) (.int i)
 | str (x:Str):zDD H (.str x) (.str x)
 | tup {a:Addr}{xs:List V}{ds:List PyData}:H a=some (.tup xs)->zB7 H xs ds->zDD H (.ref a) (.tuple ds)
 | lst {a:Addr}{xs:List V}{ds:List PyData}:H a=some (.lst xs)->zB7 H xs ds->zDD H (.ref a) (.list ds)
inductive zB7 (H:Hp):List V->List PyData->Prop
 | nil:zB7 H [] []
 | cons {x:V}{xs:List V}{d:PyData}{ds:List PyData}:zDD H x d->zB7 H xs ds->zB7 H (x::xs) (d::ds)
end
section
variable {P:Program}{w:World}{H:Hp}{h:Heap}
mutual
theorem zDD.reads (ok:HOk P w H h):∀{x:V}{d:PyData},zDD H x d->∀{u:Value},zBQ x u->∃as,Reads h u d as
 | _,_,.non,u,r=>by cases (show u=Value.none from r);exact⟨_,.none⟩
 | _,_,.bl b,u,r=>by cases (show u=Value.bool b from r);exact⟨_,.bool b⟩
 | _,_,.int i,u,r=>by obtain⟨t,rfl⟩:=r;exact⟨_,.int i t⟩
 | _,_,.str x,u,r=>by obtain⟨t,rfl⟩:=r;exact⟨_,.str x t⟩
 | _,_,.tup (a:=a) e s,u,r=>by
  cases (show u=Value.ref a from r)
  obtain⟨_,its,rv,o,ho,hc,n,hd⟩:=ok a _ e
  obtain⟨as,ra⟩:=zB7.reads ok s rv
  exact⟨_,.tuple ho hc hd (by simpa using ra)⟩
 | _,_,.lst (a:=a) e s,u,r=>by
  cases (show u=Value.ref a from r)
  obtain⟨_,its,n,rv,ho⟩:=ok a _ e
  obtain⟨as,ra⟩:=zB7.reads ok s rv
  exact⟨_,.list ho rfl rfl (by simpa using ra)⟩
theorem zB7.reads (ok:HOk P w H h):∀{xs:List V}{ds:List PyData},zB7 H xs ds->∀{us:List Value},zBE xs us->∃as,ReadsAll h us ds as
 | _,_,.nil,us,r=>by cases r;exact⟨_,.nil⟩
 | _,_,.cons s t,us,r=>by
  cases r with
  | cons r1 r2=>
   obtain⟨a1,h1⟩:=zDD.reads ok s r1
   obtain⟨a2,h2⟩:=zB7.reads ok t r2
   exact⟨_,.cons h1 h2⟩
end
end
structure Fn (n p:Nat)(d:PyData):Prop where
 wt:d.weight<=n
 dp:d.depth<=p
 cl:d.canLay0=true
 sh:d.intsShort 13=true
 sw:d.showable=true
theorem Fn.mono {n p n' p':Nat}{d:PyData}(h:Fn n p d)(hn:n<=n')(hp:p<=p'):Fn n' p' d:=⟨zAH h.wt hn,zAH h.dp hp,h.cl,h.sh,h.sw⟩
theorem zLd:Fn 0 0 .none:=⟨zK _,zK _,rfl,rfl,rfl⟩
theorem zHD {i:Int}(h:i.natAbs<1000000000):i.natAbs.log2<30:=by
 by_cases h0:i.natAbs=0
 . rw[h0];decide
 . exact (Nat.log2_lt h0).mpr (by omega)
theorem fn_int {i:Int}(h:i.natAbs<1000000000):Fn 30 0 (.int i):=by
 have hl:=zHD h
 refine⟨?_,zK _,rfl,?_,?_⟩
 . simp only[PyData.weight]
   split <;> omega
 . simp only[PyData.intsShort,PyData.shown]
   refine zU ?_
   have e:=int_text_length_le10 (a:=i) (k:=9) (by decide) (by simpa using h)
   have e2:(Str.ofString (toString i)).length=(toString i).length:=by
    rw[Str.ofString_eq_toList]
    show ((toString i).toList.map Char.toNat).toArray.size=_
    rw[zT,zC,String.length_toList]
   show (Str.ofString (toString i)).length<=13
   omega
 . simp only[PyData.showable]
   exact zU (by omega)
theorem Fn.len {n p:Nat}{d:PyData}(h:Fn n p d)(hn:n<=1048576)(hp:p<=60):d.shown.length<=sizeLine/\d.hasDict=false:=by
 have hl:PyData.layable0 d=true:=by
  show (PyData.canLay0 d && decide (PyData.depth d<=64) && decide (PyData.weight d<=2 ^ 20))=true
  rw[h.cl,zU (show PyData.depth d<=64 by have:=h.dp;omega),zU (show PyData.weight d<=2 ^ 20 by have:=h.wt;omega)]
  rfl
 have e:=shown_le13 hl h.sh
 have:sizeLine=16777216:=rfl
 exact⟨by omega,PyData.hasDict_of_layable hl⟩
section
variable {X:Cx}
theorem zFm {k:Nat}(hr:zCa k X.A):zCl X (.builtin "repr") (fun xs H Q=>∃x d,xs=[x]/\zDD H x d/\Fn 1048576 50 d/\Q (.str d.shown) H):=by
 intro pins s σ H xs us Q I r h
 obtain⟨x,d,rfl,sh,f,q⟩:=h
 obtain⟨u,rfl,rx⟩:=zCS r
 obtain⟨hz,hnd⟩:=f.len (zK _) (by decide)
 have hu:=hr.units
 cases sh with
 | non=>
  cases (show u=Value.none from rx)
  exact PySem.P.repr_of_none ⟨.str _,H,I.tok _,⟨_,rfl⟩,by simpa only [PyData.shown] using q⟩
 | bl b=>
  cases (show u=Value.bool b from rx)
  exact PySem.P.repr_of_bool ⟨.str _,H,I.tok _,⟨_,rfl⟩,by simpa only [PyData.shown] using q⟩
 | int i=>
  obtain⟨t,rfl⟩:=rx
  exact PySem.P.repr_of_int (by have:=f.sw;simpa only [PyData.showable,decide_eq_true_eq] using this) ⟨.str _,H,I.tok _,⟨_,rfl⟩,by simpa only [PyData.shown] using q⟩
 | str z=>
  obtain⟨t,rfl⟩:=rx
  exact PySem.P.repr_of_str ⟨.str _,H,I.tok _,⟨_,rfl⟩,by simpa only [PyData.shown] using q⟩ (by simpa only [PyData.shown] using hz)
 | tup e al=>
  cases (show u=Value.ref _ from rx)
  obtain⟨as,rd⟩:=zDD.reads I.hok (.tup e al) (u:=.ref _) rfl
  exact repr_of_reads' rd f.sw (PyData.noDict_hsm hnd) hr.gd (by have:=f.dp;omega) (fun _ _ e=>e) (fun h' u tk hk=>⟨.str _,H,I.kept hk,⟨u,rfl⟩,q⟩) hz
 | lst e al=>
  cases (show u=Value.ref _ from rx)
  obtain⟨as,rd⟩:=zDD.reads I.hok (.lst e al) (u:=.ref _) rfl
  exact repr_of_reads' rd f.sw (PyData.noDict_hsm hnd) hr.gd (by have:=f.dp;omega) (fun _ _ e=>e) (fun h' u tk hk=>⟨.str _,H,I.kept hk,⟨u,rfl⟩,q⟩) hz
end
end L2
namespace L2
open PySem PySem.Spec PyProof.Rows
section
variable {X:Cx}{es xs:List Expr}{t t1:TA}
theorem zDT {i j pos} (hr:PA X es t):PA X (.Constant (.int i) j pos::es) (zJJ (tC (.int i)) t):=zD zj hr (by rfl)
theorem pa_lst {pos} (h:PA X xs t1)(hr:PA X es t):PA X (.List xs pos::es) (zJJ (tLst t1) t):=zD (zCE h) hr (by rfl)
end
inductive zDO:List Expr->List Int->Prop where
 | nil:zDO [] []
 | cons {i:Int}{j:Nat}{pos:Pos}{es:List Expr}{ns:List Int}:zDO es ns->zDO (.Constant (.int i) j pos::es) (i::ns)
theorem zIC {X:Cx}{es:List Expr}{ns:List Int}(h:zDO es ns):PA X es (fun _ H Q=>Q (ns.map V.int) H):=by
 induction h with
 | nil=>exact zN
 | cons _ ih=>
  intro pos pins s σ H Q I q
  exact (zDT ih) pos pins s σ H Q I q
inductive zDE:List Expr->List (List Int)->Prop where
 | nil:zDE [] []
 | cons {xs:List Expr}{ns:List Int}{pos:Pos}{es:List Expr}{nss:List (List Int)}:zDO xs ns->ns.length<=sizeLine->zDE es nss->zDE (.List xs pos::es) (ns::nss)
noncomputable def zKA:List (List Int)->TA
 | []=>tNil
 | ns::r=>fun σ H Q=>∀p,H p=none->zKA r σ (upd H p (.lst (ns.map V.int))) fun xs H2=>Q (.ref p::xs) H2
theorem zJg {X:Cx}{es:List Expr}{nss:List (List Int)}(h:zDE es nss):PA X es (zKA nss):=by
 induction h with
 | nil=>exact zN
 | cons hx hl _ ih=>
  intro pos pins s σ H Q I q
  exact (pa_lst (zIC hx) ih) pos pins s σ H Q I ⟨by rw[zC];exact hl,fun p hp=>q p hp⟩
end L2
namespace WM
theorem zIJ {α:Type} [DecidableEq α]:∀{l₁ l₂:List α},l₁.Nodup->(∀x∈l₁,x∈l₂)->l₁.length<=l₂.length
 | [],_,_,_=>ze _
 | x::r,l₂,h,s=>by
  obtain⟨h1,h2⟩:=zAl.mp h
  have hx:x∈l₂:=s x zV
  have ih:=zIJ (l₁:=r) (l₂:=l₂.erase x) h2 fun y hy=>by
   have hne:y≠x:=fun e=>h1 (e ▸ hy)
   exact (List.mem_erase_of_ne hne).mpr (s y (zc _ hy))
  rw[List.length_erase_of_mem hx] at ih
  have:0<l₂.length:=List.length_pos_of_mem hx
  rw[zp]
  omega
noncomputable def lowTo (n:Nat):List Int:=(List.range n).map fun (i:Nat)=>(i:Int)
variable {x:Int}
theorem zDd {n:Nat}:x∈lowTo n↔0<=x/\x<n:=by
 unfold lowTo
 rw[zAI]
 constructor
 . rintro ⟨i,hi,rfl⟩
   have:=zBg.mp hi
   omega
 . rintro ⟨h0,h1⟩
   exact⟨x.toNat,zBg.mpr (by omega),by omega⟩
theorem nd_len {n:Nat}{l:List Int}(h:l.Nodup)(hb:∀x∈l,0<=x/\x<n):l.length<=n:=by
 have:=zIJ h (l₂:=lowTo n) fun x hx=>zDd.mpr (hb x hx)
 simpa [lowTo] using this
theorem zDz (n:Nat):(lowTo n).Pairwise (· < ·):=by
 unfold lowTo
 rw[zAh]
 exact List.pairwise_lt_range.imp fun h=>by omega
noncomputable abbrev T3:=Int×Int×Int
noncomputable def tl (t:T3):List Int:=[t.1,t.2.1,t.2.2]
structure GW (n:Int)(ts:List T3):Prop where
 n1:1<=n
 n24:n<=24
 len:ts.length<64
 rng:∀t∈ts,0<=t.1/\t.1<t.2.1/\t.2.1<n/\1<=t.2.2/\t.2.2<=99
 dis:ts.Pairwise fun s t=>¬ (s.1=t.1/\s.2.1=t.2.1)
noncomputable def Adj (ts:List T3)(x y l:Int):Prop:=(x,y,l)∈ts\/(y,x,l)∈ts
variable {l y:Int}{ts:List T3}
theorem Adj.symm (h:Adj ts x y l):Adj ts y x l:=h.elim .inr .inl
variable {n:Int}
theorem GW.uniq (g:GW n ts){l':Int}(h:Adj ts x y l)(h':Adj ts x y l'):l=l':=by
 have key:∀{ts:List T3},ts.Pairwise (fun s t=>¬ (s.1=t.1/\s.2.1=t.2.1))->∀{a b l l':Int},(a,b,l)∈ts->(a,b,l')∈ts->l=l':=by
  intro ts
  induction ts with
  | nil=>intro _ a b l l' h;simp at h
  | cons t r ih=>
   intro hp a b l l' h h'
   obtain⟨q,hr⟩:=zBc.mp hp
   rcases zi.mp h with e | e
   . rcases zi.mp h' with e' | e'
     . rw[<-e] at e';injection e' with _ e2;injection e2 with _ e3;exact e3.symm
     . exact absurd (by rw[<-e];exact⟨rfl,rfl⟩) (q _ e')
   . rcases zi.mp h' with e' | e'
     . exact absurd (by rw[<-e'];exact⟨rfl,rfl⟩) (q _ e)
     . exact ih hr e e'
 rcases h with h | h <;> rcases h' with h' | h'
 . exact key g.dis h h'
 . have:=g.rng _ h;have:=g.rng _ h';simp only at *;omega
 . have:=g.rng _ h;have:=g.rng _ h';simp only at *;omega
 . exact key g.dis h h'
theorem GW.adj (g:GW n ts)(h:Adj ts x y l):0<=x/\x<n/\0<=y/\y<n/\x≠y/\1<=l/\l<=99:=by
 rcases h with h | h <;> (have:=g.rng _ h;simp only at *;omega)
noncomputable def fd (p:Int):List T3->List (List Int)
 | []=>[]
 | t::r=>(if t.1=p then [[t.2.1,t.2.2]] else [])++(if t.2.1=p then [[t.1,t.2.2]] else [])++fd p r
theorem zFa (p:Int):∀a b:List T3,fd p (a++b)=fd p a++fd p b
 | [],b=>rfl
 | t::r,b=>by show _++_++fd p (r++b)=_;rw[zFa p r b];simp[fd,List.append_assoc]
theorem zCq {p:Int}{k:List Int}:∀{ts:List T3},k∈fd p ts↔∃y l,k=[y,l]/\Adj ts p y l
 | []=>by simp[fd,Adj]
 | (a,b,c)::r=>by
  have ih:=zCq (p:=p) (k:=k) (ts:=r)
  show k∈_++_++fd p r↔_
  rw[zm,zm,ih]
  simp only
  constructor
  . rintro ((h | h) | ⟨y,l,e,h⟩)
    . split at h
      . rename_i e;simp at h;subst e;exact⟨b,c,h,.inl zV⟩
      . simp at h
    . split at h
      . rename_i e;simp at h;subst e;exact⟨a,c,h,.inr zV⟩
      . simp at h
    . exact⟨y,l,e,h.elim (fun z=>.inl (zc _ z)) fun z=>.inr (zc _ z)⟩
  . rintro ⟨y,l,e,h⟩
    rcases h with h | h
    . rcases zi.mp h with q | q
      . injection q with q1 q2;injection q2 with q2 q3;subst q1 q2 q3
        exact .inl (.inl (by simp[e]))
      . exact .inr ⟨y,l,e,.inl q⟩
    . rcases zi.mp h with q | q
      . injection q with q1 q2;injection q2 with q2 q3;subst q1 q2 q3
        exact .inl (.inr (by simp[e]))
      . exact .inr ⟨y,l,e,.inr q⟩
theorem zGh {n:Int}(p:Int):∀{ts:List T3},(∀t∈ts,t.1<t.2.1)->(fd p ts).length<=ts.length
 | [],_=>zK _
 | t::r,h=>by
  have ih:=zGh (n:=n) p (ts:=r) fun t ht=>h t (zc _ ht)
  have h0:=h t zV
  show (_++_++fd p r).length<=_
  rw[zL,zL,zp]
  have:(if t.1=p then [[t.2.1,t.2.2]] else ([]:List (List Int))).length+(if t.2.1=p then [[t.1,t.2.2]] else ([]:List (List Int))).length<=1:=by
   split <;> split <;> simp <;> omega
  omega
noncomputable def hd (k:List Int):Int:=k.getD 0 0
theorem zJx (g:GW n ts)(p:Int):((fd p ts).map hd).Nodup:=by
 have key:∀(ts:List T3),(∀t∈ts,t.1<t.2.1)->ts.Pairwise (fun s t=>¬ (s.1=t.1/\s.2.1=t.2.1))->((fd p ts).map hd).Nodup:=by
  intro ts
  induction ts with
  | nil=>intro _ _;exact List.nodup_nil
  | cons t r ih=>
   intro hlt hp
   obtain⟨q,hr⟩:=zBc.mp hp
   have h0:=hlt t zV
   have hr':∀t∈r,t.1<t.2.1:=fun t ht=>hlt t (zc _ ht)
   have ih':=ih hr' hr
   have no:∀y c,(∀l,Adj r p y l->False)->([y,c]:List Int)=[y,c]->¬ y∈(fd p r).map hd:=by
    intro y c hn _ hm
    obtain⟨k,hk,e⟩:=zAI.mp hm
    obtain⟨y',l,ek,ha⟩:=zCq.mp hk
    subst ek
    have:y'=y:=e
    subst this
    exact hn l ha
   show ((_++_++fd p r).map hd).Nodup
   by_cases h1:t.1=p
   . have h2:¬ t.2.1=p:=by omega
     rw[if_pos h1,if_neg h2]
     show (t.2.1::(fd p r).map hd).Nodup
     refine zAl.mpr ⟨no _ t.2.2 (fun l ha=>?_) rfl,ih'⟩
     rcases ha with ha | ha
     . exact q _ ha ⟨h1,rfl⟩
     . have:=hr' _ ha;simp only at this;omega
   . by_cases h2:t.2.1=p
     . rw[if_neg h1,if_pos h2]
       show (t.1::(fd p r).map hd).Nodup
       refine zAl.mpr ⟨no _ t.2.2 (fun l ha=>?_) rfl,ih'⟩
       rcases ha with ha | ha
       . have:=hr' _ ha;simp only at this;omega
       . exact q _ ha ⟨rfl,h2⟩
     . rw[if_neg h1,if_neg h2]
       exact ih'
 exact key ts (fun t ht=>(g.rng t ht).2.1) g.dis
end WM
namespace WM
inductive Way (ts:List T3):Int->Int->Int->Prop where
 | nil (x:Int):Way ts x x 0
 | cons {x z y l d:Int}:Adj ts x z l->Way ts z y d->Way ts x y (l+d)
variable {n x y d:Int}{ts:List T3}
theorem Way.nn (g:GW n ts)(h:Way ts x y d):0<=d:=by
 induction h with
 | nil=>exact zBS _
 | cons ha _ ih=>have:=g.adj ha;omega
variable {l:Int}
theorem Way.one (h:Adj ts x y l):Way ts x y l:=by
 have:=Way.cons h (.nil y)
 rwa [Int.add_zero] at this
theorem Way.trans {z e:Int}(h:Way ts x y d)(h':Way ts y z e):Way ts x z (d+e):=by
 induction h with
 | nil=>rw[zAb];exact h'
 | cons ha _ ih=>rw[Int.add_assoc];exact .cons ha (ih h')
theorem Way.symm {ts:List T3}{x y d:Int}(h:Way ts x y d):Way ts y x d:=by
 induction h with
 | nil=>exact .nil _
 | cons ha _ ih=>have:=ih.trans (.one ha.symm);rwa [Int.add_comm] at this
theorem Way.snoc {z:Int}(h:Way ts x y d)(ha:Adj ts y z l):Way ts x z (d+l):=h.trans (.one ha)
noncomputable def IsD (ts:List T3)(x y d:Int):Prop:=Way ts x y d/\∀e,Way ts x y e->d<=e
noncomputable def Len (ts:List T3)(x y:Int):Option Int->Prop
 | some d=>IsD ts x y d
 | none=>∀d,¬ Way ts x y d
theorem IsD.uniq {e:Int}(h:IsD ts x y d)(h':IsD ts x y e):d=e:=Int.le_antisymm (h.2 _ h'.1) (h'.2 _ h.1)
theorem Len.uniq {ts:List T3}{x y:Int}{o o':Option Int}(h:Len ts x y o)(h':Len ts x y o'):o=o':=by
 cases o with
 | none=>
  cases o' with
  | none=>rfl
  | some e=>exact absurd h'.1 (h e)
 | some d=>
  cases o' with
  | none=>exact absurd h.1 (h' d)
  | some e=>exact congrArg some (IsD.uniq h h')
theorem IsD.symm (h:IsD ts x y d):IsD ts y x d:=⟨h.1.symm,fun e he=>h.2 e he.symm⟩
theorem Len.symm {ts:List T3}{x y:Int}{o:Option Int}(h:Len ts x y o):Len ts y x o:=by
 cases o with
 | none=>exact fun d hd=>h d hd.symm
 | some d=>exact IsD.symm h
theorem zCH (g:GW n ts)(x:Int):IsD ts x x 0:=⟨.nil x,fun _ h=>h.nn g⟩
structure Dj (ts:List T3)(s:Int)(kn wt:Int->Option Int):Prop where
 kd:∀p d,kn p=some d->IsD ts s p d
 wk:∀p d,wt p=some d->kn p=none/\Way ts s p d
 ord:∀p d q e,kn p=some d->wt q=some e->d<=e
 nb:∀p d q l,kn p=some d->Adj ts p q l->(∃e,kn q=some e)\/∃e,wt q=some e/\e<=d+l
 st:(∃d,kn s=some d)\/wt s=some 0
variable {s:Int}{kn wt:Int->Option Int}
theorem Dj.front (g:GW n ts)(h:Dj ts s kn wt)(w:Way ts s y d):(∃e,kn y=some e)\/∃q e,wt q=some e/\e<=d:=by
 have key:∀{x y d:Int},Way ts x y d->∀dx,kn x=some dx->(∃e,kn y=some e)\/∃q e,wt q=some e/\e<=dx+d:=by
  intro x y d w
  induction w with
  | nil=>intro dx hx;exact .inl ⟨dx,hx⟩
  | cons ha w' ih=>
   intro dx hx
   rename_i x z y l d
   have hl:=g.adj ha
   have hw:=w'.nn g
   rcases h.nb x dx z l hx ha with ⟨e,he⟩ | ⟨e,he,hle⟩
   . have hez:e<=dx+l:=(h.kd z e he).2 _ ((h.kd x dx hx).1.snoc ha)
     rcases ih e he with q | ⟨q,e',hq,hle⟩
     . exact .inl q
     . exact .inr ⟨q,e',hq,by omega⟩
   . exact .inr ⟨z,e,he,by omega⟩
 rcases h.st with ⟨ds,hs⟩ | hs
 . have:ds=0:=IsD.uniq (h.kd s ds hs) (zCH g s)
   subst this
   rcases key w 0 hs with q | ⟨q,e,a,b⟩
   . exact .inl q
   . exact .inr ⟨q,e,a,by omega⟩
 . exact .inr ⟨s,0,hs,w.nn g⟩
variable {p:Int}
theorem Dj.pick (g:GW n ts)(h:Dj ts s kn wt)(hp:wt p=some d)(hm:∀q e,wt q=some e->d<=e):IsD ts s p d:=by
 obtain⟨hk,hw⟩:=h.wk p d hp
 refine⟨hw,fun e he=>?_⟩
 rcases h.front g he with ⟨e',q⟩ | ⟨q,e',hq,hle⟩
 . rw[hk] at q;cases q
 . exact Int.le_trans (hm q e' hq) hle
theorem Dj.done (g:GW n ts)(h:Dj ts s kn wt)(hw:∀q,wt q=none)(y:Int):Len ts s y (kn y):=by
 cases e:kn y with
 | some d=>exact h.kd y d e
 | none=>
  intro d w
  rcases h.front g w with ⟨e',q⟩ | ⟨q,e',hq,_⟩
  . rw[e] at q;cases q
  . rw[hw] at hq;cases hq
structure Dm (ts:List T3)(s p d:Int)(kn wt:Int->Option Int)(seen:Int->Prop):Prop where
 kd:∀q e,kn q=some e->IsD ts s q e
 wk:∀q e,wt q=some e->kn q=none/\Way ts s q e
 ord:∀q e r f,kn q=some e->wt r=some f->e<=f
 nb:∀q e r l,kn q=some e->Adj ts q r l->(q=p/\¬ seen r)\/(∃f,kn r=some f)\/∃f,wt r=some f/\f<=e+l
 st:∃e,kn s=some e
 pd:kn p=some d
 mx:∀q e,kn q=some e->e<=d
theorem Dj.enter (g:GW n ts)(h:Dj ts s kn wt)(hp:wt p=some d)(hm:∀q e,wt q=some e->d<=e) :
 Dm ts s p d (fun q=>if q=p then some d else kn q) (fun q=>if q=p then none else wt q) (fun _=>False):=by
 have hd:=h.pick g hp hm
 have hk:=(h.wk p d hp).1
 refine⟨fun q e hq=>?_,fun q e hq=>?_,fun q e r f hq hr=>?_,fun q e r l hq ha=>?_,?_,if_pos rfl,fun q e hq=>?_⟩
 . by_cases hqp:q=p
   . rw[if_pos hqp] at hq;cases hq;rw[hqp];exact hd
   . rw[if_neg hqp] at hq;exact h.kd q e hq
 . by_cases hqp:q=p
   . rw[if_pos hqp] at hq;cases hq
   . rw[if_neg hqp] at hq ⊢;exact h.wk q e hq
 . by_cases hrp:r=p
   . rw[if_pos hrp] at hr;cases hr
   . rw[if_neg hrp] at hr
     by_cases hqp:q=p
     . rw[if_pos hqp] at hq;cases hq;exact hm r f hr
     . rw[if_neg hqp] at hq;exact h.ord q e r f hq hr
 . by_cases hqp:q=p
   . exact .inl ⟨hqp,fun z=>z⟩
   . rw[if_neg hqp] at hq
     by_cases hrp:r=p
     . exact .inr (.inl ⟨d,if_pos hrp⟩)
     . rcases h.nb q e r l hq ha with ⟨f,hf⟩ | ⟨f,hf,hle⟩
       . exact .inr (.inl ⟨f,by rw[if_neg hrp];exact hf⟩)
       . exact .inr (.inr ⟨f,by rw[if_neg hrp];exact hf,hle⟩)
 . by_cases hsp:s=p
   . exact⟨d,if_pos hsp⟩
   . rcases h.st with ⟨e,he⟩ | he
     . exact⟨e,by rw[if_neg hsp];exact he⟩
     . -- s waits with 0: then d is 0 too,and p is come to by a way of 0
       have h0:=hm s 0 he
       have:=hd.1.nn g
       have hd0:d=0:=by omega
       subst hd0
       exfalso
       have:∀{x y d:Int},Way ts x y d->d=0->x=y:=by
        intro x y d w
        cases w with
        | nil=>intro _;rfl
        | cons ha w'=>intro e;have:=g.adj ha;have:=w'.nn g;omega
       exact hsp (this hd.1 rfl)
 . by_cases hqp:q=p
   . rw[if_pos hqp] at hq;cases hq;exact zBS _
   . rw[if_neg hqp] at hq;exact h.ord q e p d hq hp
variable {seen:Int->Prop}
theorem Dm.skip (h:Dm ts s p d kn wt seen){r:Int}(hr:∃f,kn r=some f):Dm ts s p d kn wt (fun x=>seen x\/x=r):=
 ⟨h.kd,h.wk,h.ord,fun q e x l hq ha=>by
  rcases h.nb q e x l hq ha with ⟨a,b⟩ | c
  . by_cases hx:x=r
    . subst hx;exact .inr (.inl hr)
    . exact .inl ⟨a,fun z=>z.elim b hx⟩
  . exact .inr c,h.st,h.pd,h.mx⟩
theorem Dm.wait (g:GW n ts)(h:Dm ts s p d kn wt seen){r:Int}(ha:Adj ts p r l)(hr:kn r=none){f:Int}
 (hf:(wt r=none/\f=d+l)\/∃e,wt r=some e/\f=min (d+l) e):Dm ts s p d kn (fun x=>if x=r then some f else wt x) (fun x=>seen x\/x=r):=by
 have hl:=g.adj ha
 have hway:Way ts s r (d+l):=(h.kd p d h.pd).1.snoc ha
 have hf1:f<=d+l:=by
  rcases hf with ⟨_,e⟩ | ⟨e,_,e'⟩
  . omega
  . omega
 have hf2:Way ts s r f:=by
  rcases hf with ⟨_,rfl⟩ | ⟨e,he,rfl⟩
  . exact hway
  . by_cases hle:d+l<=e
    . rw[Int.min_eq_left hle];exact hway
    . rw[Int.min_eq_right (by omega)];exact (h.wk r e he).2
 have hf3:d<=f:=by
  rcases hf with ⟨_,rfl⟩ | ⟨e,he,rfl⟩
  . omega
  . have:=h.ord p d r e h.pd he;omega
 refine⟨h.kd,fun q e hq=>?_,fun q e x y hq hx=>?_,fun q e x k hq hax=>?_,h.st,h.pd,h.mx⟩
 . by_cases hqr:q=r
   . rw[if_pos hqr] at hq;cases hq;rw[hqr];exact⟨hr,hf2⟩
   . rw[if_neg hqr] at hq;exact h.wk q e hq
 . by_cases hxr:x=r
   . rw[if_pos hxr] at hx;cases hx;have:=h.mx q e hq;omega
   . rw[if_neg hxr] at hx;exact h.ord q e x y hq hx
 . by_cases hxr:x=r
   . subst hxr
     refine .inr (.inr ⟨f,if_pos rfl,?_⟩)
     rcases h.nb q e x k hq hax with ⟨a,_⟩ | ⟨y,hy⟩ | ⟨y,hy,hle⟩
     . subst a
       rw[h.pd] at hq;cases hq
       rw[g.uniq hax ha];exact hf1
     . rw[hr] at hy;cases hy
     . rcases hf with ⟨e1,_⟩ | ⟨e1,he1,e2⟩
       . rw[e1] at hy;cases hy
       . rw[he1] at hy;cases hy;omega
   . rcases h.nb q e x k hq hax with ⟨a,b⟩ | c | ⟨y,hy,hle⟩
     . exact .inl ⟨a,fun z=>z.elim b hxr⟩
     . exact .inr (.inl c)
     . exact .inr (.inr ⟨y,by rw[if_neg hxr];exact hy,hle⟩)
theorem Dm.leave (h:Dm ts s p d kn wt seen)(hs:∀r l,Adj ts p r l->seen r):Dj ts s kn wt:=
 ⟨h.kd,h.wk,h.ord,fun q e r l hq ha=>by
  rcases h.nb q e r l hq ha with ⟨a,b⟩ | c
  . subst a;exact absurd (hs r l ha) b
  . exact c,.inl h.st⟩
inductive zEc (ts:List T3)(k:Int):Int->Int->Int->Prop where
 | nil (x:Int):zEc ts k x x 0
 | tie {x y l:Int}:Adj ts x y l->zEc ts k x y l
 | cons {x z y l d:Int}:Adj ts x z l->z<k->zEc ts k z y d->zEc ts k x y (l+d)
theorem zEc.way {k:Int}(h:zEc ts k x y d):Way ts x y d:=by
 induction h with
 | nil=>exact .nil _
 | tie ha=>exact .one ha
 | cons ha _ _ ih=>exact .cons ha ih
theorem Way.toK (g:GW n ts)(h:Way ts x y d):zEc ts n x y d:=by
 induction h with
 | nil=>exact .nil _
 | cons ha _ ih=>exact .cons ha (g.adj ha).2.2.2.1 ih
theorem zEc.split (g:GW n ts){k:Int}(h:zEc ts (k+1) x y d):zEc ts k x y d\/∃d1 d2,zEc ts k x k d1/\zEc ts k k y d2/\d1+d2<=d:=by
 induction h with
 | nil=>exact .inl (.nil _)
 | tie ha=>exact .inl (.tie ha)
 | cons ha hz w ih=>
  rename_i x z y l d
  by_cases hk:z<k
  . rcases ih with q | ⟨d1,d2,a,b,c⟩
    . exact .inl (.cons ha hk q)
    . exact .inr ⟨l+d1,d2,.cons ha hk a,b,by omega⟩
  . have e:z=k:=by omega
    subst e
    rcases ih with q | ⟨d1,d2,a,b,c⟩
    . exact .inr ⟨l,d,.tie ha,q,zBS _⟩
    . have:=a.way.nn g
      exact .inr ⟨l,d2,.tie ha,b,by omega⟩
theorem zEc.zero (g:GW n ts)(h:zEc ts 0 x y d):(x=y/\d=0)\/Adj ts x y d:=by
 cases h with
 | nil=>exact .inl ⟨rfl,rfl⟩
 | tie ha=>exact .inr ha
 | cons ha hz _=>have:=g.adj ha;omega
structure Fw (ts:List T3)(n:Int)(F:Int->Int->Option Int):Prop where
 snd:∀x y d,0<=x->x<n->0<=y->y<n->F x y=some d->Way ts x y d
noncomputable def Cov (ts:List T3)(n k:Int)(F:Int->Int->Option Int):Prop:=∀x y d,0<=x->x<n->0<=y->y<n->zEc ts k x y d->∃e,F x y=some e/\e<=d
theorem Fw.len (g:GW n ts){F:Int->Int->Option Int}(h:Fw ts n F)(c:Cov ts n n F)(hx:0<=x)(hx':x<n)(hy:0<=y)(hy':y<n):Len ts x y (F x y):=by
 cases e:F x y with
 | some d=>
  refine⟨h.snd x y d hx hx' hy hy' e,fun e' he=>?_⟩
  obtain⟨f,hf,hle⟩:=c x y e' hx hx' hy hy' (he.toK g)
  rw[e] at hf;cases hf;exact hle
 | none=>
  intro d hd
  obtain⟨f,hf,_⟩:=c x y d hx hx' hy hy' (hd.toK g)
  rw[e] at hf;cases hf
end WM
namespace WM
noncomputable def fnl (kn:List (Option Int))(p:Int):Option Int:=if 0<=p then kn.getD p.toNat none else none
noncomputable def cnt (kn:List (Option Int)):Nat:=(kn.filter Option.isSome).length
theorem zIu (kn:List (Option Int)):cnt kn<=kn.length:=zAJ _ _
theorem zIh {kn:List (Option Int)}{p:Int}{o:Option Int}(h0:0<=p)(h1:p.toNat<kn.length)(q:Int):fnl (kn.set p.toNat o) q=if q=p then o else fnl kn q:=by
 unfold fnl
 by_cases hq:0<=q
 . rw[if_pos hq,if_pos hq,zE,zE,List.getElem?_set]
   by_cases e:q=p
   . subst e;simp[h1]
   . have:¬ p.toNat=q.toNat:=by omega
     rw[if_neg this,if_neg e]
 . rw[if_neg hq,if_neg (by omega),if_neg hq]
theorem zGC:∀{kn:List (Option Int)}{j:Nat}{d:Int},kn[j]? = some none->cnt (kn.set j (some d))=cnt kn+1
 | [],_,_,h=>by simp at h
 | o::r,0,d,h=>by
  have:o=none:=by simpa using h
  subst this
  simp[cnt,List.set]
 | o::r,j+1,d,h=>by
  have ih:=zGC (kn:=r) (j:=j) (d:=d) (by simpa using h)
  unfold cnt at ih ⊢
  rw[List.set_cons_succ]
  cases o with
  | none=>rw[zBq (by simp),zBq (by simp)];exact ih
  | some x=>rw[zBp (by simp),zBp (by simp),zp,zp,ih]
theorem zLi (n:Nat):cnt (List.replicate n none)=0:=by
 unfold cnt
 rw[List.filter_replicate]
 simp
theorem zD3 (n:Nat)(q:Int):fnl (List.replicate n none) q=none:=by
 unfold fnl
 split
 . rw[zE,zBJ]
   split <;> rfl
 . rfl
structure Dl (ts:List T3)(n s:Int)(kn:List (Option Int))(wt:Int->Option Int):Prop where
 dj:Dj ts s (fnl kn) wt
 ln:kn.length=n.toNat
 bk:∀p d,fnl kn p=some d->d<=99*cnt kn
 bw:∀p e,wt p=some e->e<=99*cnt kn/\0<=p/\p<n
structure Dn (ts:List T3)(n s p d:Int)(kn:List (Option Int))(wt:Int->Option Int)(seen:Int->Prop):Prop where
 dm:Dm ts s p d (fnl kn) wt seen
 ln:kn.length=n.toNat
 bk:∀q e,fnl kn q=some e->e<=99*cnt kn
 bd:d+99<=99*cnt kn
 bw:∀q e,wt q=some e->e<=99*cnt kn/\0<=q/\q<n
theorem Dl.start {n:Int}{ts:List T3}(g:GW n ts){s:Int}(h0:0<=s)(h1:s<n):Dl ts n s (List.replicate n.toNat none) (fun q=>if q=s then some 0 else none):=by
 refine⟨⟨fun p d h=>?_,fun p d h=>?_,fun p d q e h=>?_,fun p d q l h=>?_,.inr (if_pos rfl)⟩,zAB,fun p d h=>?_,fun p e h=>?_⟩
 . rw[zD3] at h;cases h
 . by_cases e:p=s
   . rw[if_pos e] at h;cases h;rw[e];exact⟨zD3 _ _,.nil s⟩
   . rw[if_neg e] at h;cases h
 . rw[zD3] at h;cases h
 . rw[zD3] at h;cases h
 . rw[zD3] at h;cases h
 . by_cases e:p=s
   . rw[if_pos e] at h;cases h;rw[e,zLi];exact⟨by simp,h0,h1⟩
   . rw[if_neg e] at h;cases h
theorem Dl.enter {n:Int}{ts:List T3}(g:GW n ts){s:Int}{kn:List (Option Int)}{wt:Int->Option Int}(h:Dl ts n s kn wt){p d:Int}(hp:wt p=some d)(hm:∀q e,wt q=some e->d<=e) :
 kn[p.toNat]? = some none/\0<=p/\p<n/\cnt (kn.set p.toNat (some d))=cnt kn+1/\Dn ts n s p d (kn.set p.toNat (some d)) (fun q=>if q=p then none else wt q) (fun _=>False):=by
 obtain⟨hb,h0,h1⟩:=h.bw p d hp
 have hl:=h.ln
 have hlt:p.toNat<kn.length:=by omega
 have hk:=(h.dj.wk p d hp).1
 have hn:kn[p.toNat]? = some none:=by
  unfold fnl at hk
  rw[if_pos h0,zE,zB hlt] at hk
  rw[zB hlt]
  exact congrArg some hk
 have hc:=zGC (d:=d) hn
 have ef:fnl (kn.set p.toNat (some d))=fun q=>if q=p then some d else fnl kn q:=funext fun q=>zIh h0 hlt q
 refine⟨hn,h0,h1,hc,⟨?_,by rw[zAs];exact hl,fun q e hq=>?_,by rw[hc];omega,fun q e hq=>?_⟩⟩
 . rw[ef];exact h.dj.enter g hp hm
 . rw[ef] at hq
   simp only at hq
   rw[hc]
   by_cases e':q=p
   . rw[if_pos e'] at hq;cases hq;omega
   . rw[if_neg e'] at hq;have:=h.bk q e hq;omega
 . by_cases e':q=p
   . rw[if_pos e'] at hq;cases hq
   . rw[if_neg e'] at hq;have:=h.bw q e hq;rw[hc];exact⟨by omega,this.2⟩
theorem Dn.skip {n:Int}{ts:List T3}{s p d:Int}{kn:List (Option Int)}{wt:Int->Option Int}{seen:Int->Prop}(h:Dn ts n s p d kn wt seen){r f:Int}(hr:fnl kn r=some f):Dn ts n s p d kn wt (fun x=>seen x\/x=r):=
 ⟨h.dm.skip ⟨f,hr⟩,h.ln,h.bk,h.bd,h.bw⟩
theorem Dn.wait {n:Int}{ts:List T3}(g:GW n ts){s p d:Int}{kn:List (Option Int)}{wt:Int->Option Int}{seen:Int->Prop}(h:Dn ts n s p d kn wt seen){r l:Int}(ha:Adj ts p r l)(hr:fnl kn r=none) :
 Dn ts n s p d kn (fun x=>if x=r then some (if (wt r).getD (d+l)<d+l then (wt r).getD (d+l) else d+l) else wt x) (fun x=>seen x\/x=r):=by
 have hl:=g.adj ha
 have hf:(wt r=none/\(if (wt r).getD (d+l)<d+l then (wt r).getD (d+l) else d+l)=d+l)\/∃e,wt r=some e/\(if (wt r).getD (d+l)<d+l then (wt r).getD (d+l) else d+l)=min (d+l) e:=by
  cases e:wt r with
  | none=>exact .inl ⟨rfl,by simp⟩
  | some x=>
   refine .inr ⟨x,rfl,?_⟩
   simp only[Option.getD_some]
   split <;> omega
 refine⟨h.dm.wait g ha hr hf,h.ln,h.bk,h.bd,fun q e hq=>?_⟩
 by_cases e':q=r
 . rw[if_pos e'] at hq
   have hd:=h.bd
   have e2:=zY hq
   refine⟨?_,by omega,by omega⟩
   split at e2 <;> omega
 . rw[if_neg e'] at hq;exact h.bw q e hq
theorem Dn.leave {n:Int}{ts:List T3}{s p d:Int}{kn:List (Option Int)}{wt:Int->Option Int}{seen:Int->Prop}(h:Dn ts n s p d kn wt seen)(hs:∀r l,Adj ts p r l->seen r):Dl ts n s kn wt:=
 ⟨h.dm.leave hs,h.ln,h.bk,h.bw⟩
structure zJE (ts:List T3)(n s:Int)(kn:List (Option Int)):Prop where
 ln:kn.length=n.toNat
 len:∀y,0<=y->y<n->Len ts s y (fnl kn y)
 bd:∀o∈kn,∀d,o=some d->0<=d/\d<=2376
theorem Dl.done {n:Int}{ts:List T3}(g:GW n ts){s:Int}{kn:List (Option Int)}{wt:Int->Option Int}(h:Dl ts n s kn wt)(hw:∀q,wt q=none):zJE ts n s kn:=by
 refine⟨h.ln,fun y _ _=>h.dj.done g hw y,fun o ho d e=>?_⟩
 obtain⟨j,hj,ej⟩:=zx ho
 have hf:fnl kn (j:Int)=some d:=by
  unfold fnl
  rw[if_pos (by omega),zE,zAx,zB hj,ej,e];rfl
 have h1:=h.bk _ _ hf
 have h2:=(h.dj.kd _ _ hf).1.nn g
 have h3:=zIu kn
 have:=h.ln
 have:=g.n24
 omega
end WM
namespace WM
noncomputable def oadd:Option Int->Option Int->Option Int
 | some a,some b=>some (a+b)
 | _,_=>none
noncomputable def oles:Option Int->Option Int->Option Int
 | none,o=>o
 | some a,none=>some a
 | some a,some b=>some (if b<a then b else a)
variable {ts:List T3}{d:Int}
theorem zEc.mono {k k' x y:Int}(h:zEc ts k x y d)(hk:k<=k'):zEc ts k' x y d:=by
 induction h with
 | nil=>exact .nil _
 | tie ha=>exact .tie ha
 | cons ha hz _ ih=>exact .cons ha (by omega) ih
structure Fm (ts:List T3)(n k:Int)(F:Int->Int->Option Int)(done:Int->Int->Prop):Prop where
 fw:Fw ts n F
 cv:Cov ts n k F
 dn:∀x y d,0<=x->x<n->0<=y->y<n->done x y->zEc ts (k+1) x y d->∃e,F x y=some e/\e<=d
variable {o p:Option Int}
theorem zLD (h:(∃e,o=some e/\e<=d)\/∃e,p=some e/\e<=d):∃e,oles o p=some e/\e<=d:=by
 rcases h with ⟨e,rfl,h⟩ | ⟨e,rfl,h⟩
 . cases p with
   | none=>exact⟨e,rfl,h⟩
   | some b=>exact⟨_,rfl,by split <;> omega⟩
 . cases o with
   | none=>exact⟨e,rfl,h⟩
   | some a=>exact⟨_,rfl,by split <;> omega⟩
theorem zLC (h:oles o p=some d):o=some d\/p=some d:=by
 cases o with
 | none=>exact .inr h
 | some a=>
  cases p with
  | none=>exact .inl h
  | some b=>
   have e:(if b<a then b else a)=d:=zY h
   split at e
   . exact .inr (by rw[e])
   . exact .inl (by rw[e])
theorem zII (h:oadd o p=some d):∃a b,o=some a/\p=some b/\a+b=d:=by
 cases o with
 | none=>cases h
 | some a=>
  cases p with
  | none=>cases h
  | some b=>exact⟨a,b,rfl,rfl,zY h⟩
variable {n a b:Int}{F:Int->Int->Option Int}
theorem Fm.step (g:GW n ts){k:Int}{done:Int->Int->Prop}(h:Fm ts n k F done)(ha:0<=a)(ha':a<n)(hb:0<=b)(hb':b<n)(hk:0<=k)(hk':k<n) :
 Fm ts n k (fun x y=>if x=a/\y=b then oles (F a b) (oadd (F a k) (F k b)) else F x y) (fun x y=>done x y\/(x=a/\y=b)):=by
 have snd:∀d,oles (F a b) (oadd (F a k) (F k b))=some d->Way ts a b d:=fun d hd=>by
  rcases zLC hd with e | e
  . exact h.fw.snd a b d ha ha' hb hb' e
  . obtain⟨d1,d2,e1,e2,rfl⟩:=zII e
    exact (h.fw.snd a k d1 ha ha' hk hk' e1).trans (h.fw.snd k b d2 hk hk' hb hb' e2)
 have cov1:∀d,zEc ts (k+1) a b d->∃e,oles (F a b) (oadd (F a k) (F k b))=some e/\e<=d:=fun d w=>by
  refine zLD ?_
  rcases w.split g with q | ⟨d1,d2,q1,q2,hle⟩
  . exact .inl (h.cv a b d ha ha' hb hb' q)
  . obtain⟨e1,f1,l1⟩:=h.cv a k d1 ha ha' hk hk' q1
    obtain⟨e2,f2,l2⟩:=h.cv k b d2 hk hk' hb hb' q2
    exact .inr ⟨e1+e2,by rw[f1,f2];rfl,by omega⟩
 refine⟨⟨fun x y d hx hx' hy hy' e=>?_⟩,fun x y d hx hx' hy hy' w=>?_,fun x y d hx hx' hy hy' hd w=>?_⟩
 . by_cases c:x=a/\y=b
   . rw[if_pos c] at e;rw[c.1,c.2];exact snd d e
   . rw[if_neg c] at e;exact h.fw.snd x y d hx hx' hy hy' e
 . by_cases c:x=a/\y=b
   . rw[if_pos c];rw[c.1,c.2] at w;exact cov1 d (w.mono (by omega))
   . rw[if_neg c];exact h.cv x y d hx hx' hy hy' w
 . by_cases c:x=a/\y=b
   . rw[if_pos c];rw[c.1,c.2] at w;exact cov1 d w
   . rw[if_neg c];exact h.dn x y d hx hx' hy hy' (hd.resolve_right c) w
theorem Fm.enter {k:Int}(h:Fw ts n F)(c:Cov ts n k F):Fm ts n k F (fun _ _=>False):=⟨h,c,fun _ _ _ _ _ _ _ z=>z.elim⟩
theorem Fm.leave {k:Int}{done:Int->Int->Prop}(h:Fm ts n k F done)(hd:∀x y,0<=x->x<n->0<=y->y<n->done x y):Fw ts n F/\Cov ts n (k+1) F:=
 ⟨h.fw,fun x y d hx hx' hy hy' w=>h.dn x y d hx hx' hy hy' (hd x y hx hx' hy hy') w⟩
noncomputable def Ft (ts:List T3)(n:Int)(F:Int->Int->Option Int):Prop:=∀x y d,0<=x->x<n->0<=y->y<n->(F x y=some d↔(x=y/\d=0)\/Adj ts x y d)
theorem Ft.fw (g:GW n ts)(h:Ft ts n F):Fw ts n F/\Cov ts n 0 F:=by
 refine⟨⟨fun x y d hx hx' hy hy' e=>?_⟩,fun x y d hx hx' hy hy' w=>?_⟩
 . rcases (h x y d hx hx' hy hy').mp e with ⟨rfl,rfl⟩ | ha
   . exact .nil x
   . exact .one ha
 . refine⟨d,(h x y d hx hx' hy hy').mpr ?_,zBS _⟩
   rcases w.zero g with q | q
   . exact .inl q
   . exact .inr q
theorem Ft.nil (n:Int)(h:∀x y,0<=x->x<n->0<=y->y<n->F x y=if x=y then some 0 else none):Ft [] n F:=fun x y d hx hx' hy hy'=>by
 rw[h x y hx hx' hy hy']
 constructor
 . intro e
   split at e
   . rename_i c;exact .inl ⟨c,(zY e).symm⟩
   . cases e
 . rintro (⟨rfl,rfl⟩ | ha)
   . rw[if_pos rfl]
   . rcases ha with z | z <;> simp at z
theorem Ft.put {pre post:List T3}{l:Int}(g:GW n (pre++(a,b,l)::post))(h:Ft pre n F) :
 Ft (pre++[(a,b,l)]) n (fun x y=>if x=b/\y=a then some l else if x=a/\y=b then some l else F x y):=fun x y d hx hx' hy hy'=>by
 have hr:=g.rng (a,b,l) (by simp)
 simp only at hr
 have sub:∀{x y d:Int},Adj pre x y d->Adj (pre++(a,b,l)::post) x y d:=fun z=>z.elim (fun z=>.inl (zAE _ z)) fun z=>.inr (zAE _ z)
 have own:Adj (pre++(a,b,l)::post) a b l:=.inl (by simp)
 have hadj:Adj (pre++[(a,b,l)]) x y d↔Adj pre x y d\/(x=a/\y=b/\d=l)\/(x=b/\y=a/\d=l):=by
  unfold Adj
  simp only[zm,zf,Prod.mk.injEq]
  constructor
  . rintro ((z | z) | (z | z))
    . exact .inl (.inl z)
    . exact .inr (.inl z)
    . exact .inl (.inr z)
    . exact .inr (.inr ⟨z.2.1,z.1,z.2.2⟩)
  . rintro ((z | z) | z | z)
    . exact .inl (.inl z)
    . exact .inr (.inl z)
    . exact .inl (.inr z)
    . exact .inr (.inr ⟨z.2.1,z.1,z.2.2⟩)
 rw[hadj]
 show (if x=b/\y=a then some l else if x=a/\y=b then some l else F x y)=some d↔_
 by_cases c1:x=b/\y=a
 . rw[if_pos c1]
   constructor
   . intro e;exact .inr (.inr (.inr ⟨c1.1,c1.2,(zY e).symm⟩))
   . rintro (⟨e,_⟩ | z | ⟨e1,e2,e3⟩ | ⟨_,_,e3⟩)
     . omega
     . have z':=sub z;rw[c1.1,c1.2] at z';rw[g.uniq z' own.symm]
     . rw[e3]
     . rw[e3]
 . rw[if_neg c1]
   by_cases c2:x=a/\y=b
   . rw[if_pos c2]
     constructor
     . intro e;exact .inr (.inr (.inl ⟨c2.1,c2.2,(zY e).symm⟩))
     . rintro (⟨e,_⟩ | z | ⟨e1,e2,e3⟩ | ⟨_,_,e3⟩)
       . omega
       . have z':=sub z;rw[c2.1,c2.2] at z';rw[g.uniq z' own]
       . rw[e3]
       . rw[e3]
   . rw[if_neg c2,h x y d hx hx' hy hy']
     constructor
     . rintro (z | z)
       . exact .inl z
       . exact .inr (.inl z)
     . rintro (z | z | z | z)
       . exact .inl z
       . exact .inr z
       . exact absurd ⟨z.1,z.2.1⟩ c2
       . exact absurd ⟨z.1,z.2.1⟩ c1
noncomputable def mat (M:lLO)(x y:Int):Option Int:=if 0<=x then fnl (M.getD x.toNat []) y else none
noncomputable def zHV (M:lLO)(a b:Int)(v:Option Int):List (List (Option Int)):=M.set a.toNat ((M.getD a.toNat []).set b.toNat v)
structure Sqm (n:Int)(M:lLO):Prop where
 ln:M.length=n.toNat
 rw_:∀r∈M,r.length=n.toNat
theorem Sqm.row {M:lLO}(h:Sqm n M)(ha:0<=a)(ha':a<n):∃r,M[a.toNat]? = some r/\M.getD a.toNat []=r/\r.length=n.toNat:=by
 have hl:=h.ln
 have hlt:a.toNat<M.length:=by omega
 exact⟨M[a.toNat],zB hlt,by rw[zE,zB hlt];rfl,h.rw_ _ (List.getElem_mem hlt)⟩
theorem Sqm.set {M:lLO}(h:Sqm n M){v:Option Int}(ha:0<=a)(ha':a<n):Sqm n (zHV M a b v):=by
 obtain⟨r,h1,h2,h3⟩:=h.row ha ha'
 refine⟨by unfold zHV;rw[zAs];exact h.ln,fun q hq=>?_⟩
 unfold zHV at hq
 rcases List.mem_or_eq_of_mem_set hq with z | z
 . exact h.rw_ q z
 . rw[z,zAs,h2,h3]
theorem zF9 {M:lLO}(h:Sqm n M){v:Option Int}(ha:0<=a)(ha':a<n)(hb:0<=b)(hb':b<n){x y:Int}(hx:0<=x)(hx':x<n) :
 mat (zHV M a b v) x y=if x=a/\y=b then v else mat M x y:=by
 obtain⟨r,h1,h2,h3⟩:=h.row ha ha'
 have hl:=h.ln
 unfold mat zHV
 rw[if_pos hx,if_pos hx,zE,List.getElem?_set]
 by_cases e:x=a
 . subst e
   rw[if_pos rfl,if_pos (by omega),Option.getD_some,h2,zIh hb (by omega)]
   by_cases e2:y=b
   . rw[if_pos e2,if_pos ⟨rfl,e2⟩]
   . rw[if_neg e2,if_neg fun z=>e2 z.2]
 . rw[if_neg (by omega),if_neg fun z=>e z.1,<-zE]
theorem Fm.congr {k:Int}{G:Int->Int->Option Int}{done done':Int->Int->Prop}(h:Fm ts n k F done)(e:∀x y,0<=x->x<n->0<=y->y<n->G x y=F x y)(hd:∀x y,0<=x->x<n->0<=y->y<n->done' x y->done x y):Fm ts n k G done':=
 ⟨⟨fun x y d a b c d' z=>h.fw.snd x y d a b c d' (by rw[<-e x y a b c d'];exact z)⟩,fun x y d a b c d' w=>by rw[e x y a b c d'];exact h.cv x y d a b c d' w,fun x y d a b c d' z w=>by rw[e x y a b c d'];exact h.dn x y d a b c d' (hd x y a b c d' z) w⟩
theorem Ft.congr {G:Int->Int->Option Int}(h:Ft ts n F)(e:∀x y,0<=x->x<n->0<=y->y<n->G x y=F x y):Ft ts n G:=fun x y d a b c d'=>by rw[e x y a b c d'];exact h x y d a b c d'
noncomputable def Rows (ts:List T3)(n:Int)(M:lLO):Prop:=M.length=n.toNat/\∀x,0<=x->x<n->zJE ts n x (M.getD x.toNat [])
theorem zHX (g:GW n ts)(x y:Int)(hx:0<=x)(hx':x<n)(d:Int)(h:IsD ts x y d):0<=d/\d<=2376:=by
 have ex:∀(m:Nat)(kn:List (Option Int))(wt:Int->Option Int),Dl ts n x kn wt->n.toNat-cnt kn<=m->(∃L:List Int,∀q e,wt q=some e->q∈L)->∃kn',zJE ts n x kn':=by
  intro m
  induction m with
  | zero=>
   intro kn wt D hm _
   refine⟨kn,D.done g fun q=>?_⟩
   cases e:wt q with
   | none=>rfl
   | some d=>
    have hk:=(D.dj.wk q d e).1
    obtain⟨_,h0,h1⟩:=D.bw q d e
    have hl:=D.ln
    have hlt:q.toNat<kn.length:=by omega
    have hn:kn[q.toNat]? = some none:=by
     unfold fnl at hk
     rw[if_pos h0,zE,zB hlt] at hk
     rw[zB hlt]
     exact congrArg some hk
    have h1:=zGC (d:=0) hn
    have h2:=zIu (kn.set q.toNat (some 0))
    rw[zAs] at h2
    omega
  | succ m ih=>
   intro kn wt D hm hL
   by_cases hw:∀q,wt q=none
   . exact⟨kn,D.done g hw⟩
   . -- pick the nearest
     obtain⟨L,hL⟩:=hL
     have pick:∀L:List Int,(∃q∈L,(wt q).isSome)->∃p d,wt p=some d/\∀q∈L,∀e,wt q=some e->d<=e:=by
      intro L
      induction L with
      | nil=>rintro ⟨q,hq,_⟩;simp at hq
      | cons z L ihL=>
       rintro ⟨q,hq,hs⟩
       by_cases hr:∃q∈L,(wt q).isSome
       . obtain⟨p,d,hp,hmin⟩:=ihL hr
         cases ez:wt z with
         | none=>
          refine⟨p,d,hp,fun q' hq' e he=>?_⟩
          rcases zi.mp hq' with rfl | hq'
          . rw[ez] at he;cases he
          . exact hmin q' hq' e he
         | some dz=>
          by_cases hz:dz<d
          . refine⟨z,dz,ez,fun q' hq' e he=>?_⟩
            rcases zi.mp hq' with rfl | hq'
            . rw[ez] at he;cases he;exact zBS _
            . have:=hmin q' hq' e he;omega
          . refine⟨p,d,hp,fun q' hq' e he=>?_⟩
            rcases zi.mp hq' with rfl | hq'
            . rw[ez] at he;cases he;omega
            . exact hmin q' hq' e he
       . rcases zi.mp hq with rfl | hq
         . obtain⟨d,hd⟩:=zBh.mp hs
           refine⟨q,d,hd,fun q' hq' e he=>?_⟩
           rcases zi.mp hq' with rfl | hq'
           . rw[hd] at he;cases he;exact zBS _
           . exact absurd ⟨q',hq',by rw[he];rfl⟩ hr
         . exact absurd ⟨q,hq,hs⟩ hr
     obtain⟨p,d,hp,hmin⟩:=pick L (by
      apply Classical.byContradiction
      intro hno
      refine hw fun q=>?_
      cases e:wt q with
      | none=>rfl
      | some d=>exact absurd ⟨q,hL q d e,by rw[e];rfl⟩ hno)
     obtain⟨hn,h0,h1,hc,N⟩:=D.enter g hp (fun q e he=>hmin q (hL q e he) e he)
     have all:∀(ns:List (Int×Int))(wt':Int->Option Int)(seen:Int->Prop),Dn ts n x p d (kn.set p.toNat (some d)) wt' seen->(∃L:List Int,∀q e,wt' q=some e->q∈L)->(∀r l,(r,l)∈ns->Adj ts p r l) ->
      ∃(wt'':Int->Option Int)(seen':Int->Prop),Dn ts n x p d (kn.set p.toNat (some d)) wt'' seen'/\(∃L:List Int,∀q e,wt'' q=some e->q∈L)/\(∀r,seen r->seen' r)/\∀r l,(r,l)∈ns->seen' r:=by
      intro ns
      induction ns with
      | nil=>intro wt' seen N hL _;exact⟨wt',seen,N,hL,fun _ z=>z,fun r l z=>by simp at z⟩
      | cons t ns ih'=>
       intro wt' seen N hL' ha
       obtain⟨r,l⟩:=t
       have har:=ha r l zV
       have ha':∀r l,(r,l)∈ns->Adj ts p r l:=fun r l z=>ha r l (zc _ z)
       cases ek:fnl (kn.set p.toNat (some d)) r with
       | some f=>
        obtain⟨w2,s2,N2,L2,m2,a2⟩:=ih' wt' _ (N.skip ek) hL' ha'
        refine⟨w2,s2,N2,L2,fun q z=>m2 q (.inl z),fun q l' z=>?_⟩
        rcases zi.mp z with e | z
        . cases e;exact m2 _ (.inr rfl)
        . exact a2 q l' z
       | none=>
        obtain⟨L',hL'⟩:=hL'
        obtain⟨w2,s2,N2,L2,m2,a2⟩:=ih' _ _ (N.wait g har ek) ⟨r::L',fun q e he=>by
         by_cases e':q=r
         . rw[e'];exact zV
         . rw[if_neg e'] at he;exact zc _ (hL' q e he)⟩ ha'
        refine⟨w2,s2,N2,L2,fun q z=>m2 q (.inl z),fun q l' z=>?_⟩
        rcases zi.mp z with e | z
        . cases e;exact m2 _ (.inr rfl)
        . exact a2 q l' z
     have nbr:∃ns:List (Int×Int),(∀r l,(r,l)∈ns->Adj ts p r l)/\∀r l,Adj ts p r l->(r,l)∈ns:=by
      refine⟨(ts.filterMap fun t=>if t.1=p then some (t.2.1,t.2.2) else none)++(ts.filterMap fun t=>if t.2.1=p then some (t.1,t.2.2) else none),fun r l z=>?_,fun r l z=>?_⟩
      . rcases zm.mp z with z | z
        . obtain⟨⟨a,b,c⟩,ht,e⟩:=zAr.mp z
          split at e
          . rename_i c1
            have c1':a=p:=c1
            have e':=zY e
            simp only[Prod.mk.injEq] at e'
            obtain⟨rfl,rfl⟩:=e'
            subst c1'
            exact .inl ht
          . cases e
        . obtain⟨⟨a,b,c⟩,ht,e⟩:=zAr.mp z
          split at e
          . rename_i c1
            have c1':b=p:=c1
            have e':=zY e
            simp only[Prod.mk.injEq] at e'
            obtain⟨rfl,rfl⟩:=e'
            subst c1'
            exact .inr ht
          . cases e
      . rcases z with z | z
        . exact zAE _ (zAr.mpr ⟨_,z,by simp⟩)
        . exact zg _ (zAr.mpr ⟨_,z,by simp⟩)
     obtain⟨ns,hns1,hns2⟩:=nbr
     obtain⟨w2,s2,N2,L2,_,a2⟩:=all ns _ _ N ⟨L,fun q e he=>by
      by_cases e':q=p
      . rw[if_pos e'] at he;cases he
      . rw[if_neg e'] at he;exact hL q e he⟩ hns1
     exact ih _ _ (N2.leave fun r l ha=>a2 r l (hns2 r l ha)) (by omega) L2
 obtain⟨kn,K⟩:=ex n.toNat _ _ (Dl.start g hx hx') (by omega) ⟨[x],fun q e he=>by
  by_cases e':q=x
  . simp[e']
  . rw[if_neg e'] at he;cases he⟩
 have hy:(0<=y/\y<n)\/y=x:=by
  have:∀{x y d:Int},Way ts x y d->x=y\/(0<=y/\y<n):=by
   intro x y d w
   induction w with
   | nil=>exact .inl rfl
   | cons ha _ ih=>
    rcases ih with rfl | q
    . have:=g.adj ha;exact .inr ⟨this.2.2.1,this.2.2.2.1⟩
    . exact .inr q
  rcases this h.1 with e | q
  . exact .inr e.symm
  . exact .inl q
 have hy':0<=y/\y<n:=hy.elim id fun e=>by omega
 have hl:=K.len y hy'.1 hy'.2
 have hlen:=K.ln
 have hlt:y.toNat<kn.length:=by omega
 have e1:fnl kn y=kn[y.toNat]:=by
  unfold fnl
  rw[if_pos hy'.1,zE,zB hlt];rfl
 have e2:=Len.uniq hl (show Len ts x y (some d) from h)
 exact K.bd _ (List.getElem_mem hlt) d (by rw[<-e1];exact e2)
theorem zKy (g:GW n ts){M:lLO}(h:Sqm n M)(f:Fw ts n (mat M))(c:Cov ts n n (mat M)):Rows ts n M:=by
 refine⟨h.ln,fun x hx hx'=>?_⟩
 obtain⟨r,h1,h2,h3⟩:=h.row hx hx'
 have e:∀y,mat M x y=fnl r y:=fun y=>by unfold mat;rw[if_pos hx,h2]
 rw[h2]
 refine⟨h3,fun y hy hy'=>by rw[<-e];exact f.len g c hx hx' hy hy',fun o ho d ed=>?_⟩
 obtain⟨j,hj,ej⟩:=zx ho
 have hf:fnl r (j:Int)=some d:=by
  unfold fnl
  rw[if_pos (by omega),zE,zAx,zB hj,ej,ed];rfl
 have hl:=f.len g c hx hx' (y:=(j:Int)) (by omega) (by omega)
 rw[e,hf] at hl
 exact zHX g x j hx hx' d hl
end WM
namespace WM
noncomputable def Btw (ts:List T3)(x y p:Int):Prop:=∃a b,IsD ts x p a/\IsD ts p y b/\IsD ts x y (a+b)
noncomputable def Nxt (ts:List T3)(x y p:Int):Prop:=∃l b,Adj ts x p l/\IsD ts p y b/\IsD ts x y (l+b)
theorem Btw.symm {ts:List T3}{x y p:Int}(h:Btw ts x y p):Btw ts y x p:=by
 obtain⟨a,b,h1,h2,h3⟩:=h
 exact⟨b,a,h2.symm,h1.symm,by rw[Int.add_comm];exact h3.symm⟩
variable {n x y:Int}{ts:List T3}
theorem Way.zero (g:GW n ts)(h:Way ts x y 0):x=y:=by
 have:∀{x y d:Int},Way ts x y d->d=0->x=y:=by
  intro x y d w
  cases w with
  | nil=>intro _;rfl
  | cons ha w'=>intro e;have:=g.adj ha;have:=w'.nn g;omega
 exact this h rfl
variable {d:Int}
theorem Way.in_ (g:GW n ts)(w:Way ts x y d)(hx:0<=x)(hx':x<n):0<=y/\y<n:=by
 induction w with
 | nil=>exact⟨hx,hx'⟩
 | cons ha _ ih=>have:=g.adj ha;exact ih this.2.2.1 this.2.2.2.1
theorem Btw.self (g:GW n ts)(h:IsD ts x y d):Btw ts x y x:=⟨0,d,zCH g x,h,by rw[zAb];exact h⟩
theorem zBy (g:GW n ts)(h:IsD ts x y d):d=0↔x=y:=by
 constructor
 . intro e;subst e;exact h.1.zero g
 . intro e;subst e;exact IsD.uniq h (zCH g x)
theorem Btw.trans {ts:List T3}{x y p q:Int}(h:Btw ts x y p)(h':Btw ts x p q):Btw ts x y q:=by
 obtain⟨a,b,h1,h2,h3⟩:=h
 obtain⟨c,e,k1,k2,k3⟩:=h'
 have e1:a=c+e:=IsD.uniq h1 k3
 refine⟨c,e+b,k1,⟨k2.1.trans h2.1,fun f hf=>?_⟩,?_⟩
 . have:=h3.2 _ (k1.1.trans hf)
   omega
 . rw[e1,Int.add_assoc] at h3;exact h3
theorem Way.least (g:GW n ts)(h:Way ts x y d):∃e,IsD ts x y e:=by
 have:∀(m:Nat)(d:Int),Way ts x y d->d.toNat<=m->∃e,IsD ts x y e:=by
  intro m
  induction m with
  | zero=>
   intro d hd hm
   have:=hd.nn g
   have e:d=0:=by omega
   subst e
   exact⟨0,hd,fun f hf=>hf.nn g⟩
  | succ m ih=>
   intro d hd hm
   by_cases hl:∃f,Way ts x y f/\f<d
   . obtain⟨f,hf,hlt⟩:=hl
     have:=hf.nn g
     exact ih f hf (by omega)
   . refine⟨d,hd,fun f hf=>?_⟩
     apply Classical.byContradiction
     intro hn
     exact hl ⟨f,hf,by omega⟩
 exact this _ d h (zK _)
theorem Nxt.exists (g:GW n ts)(h:IsD ts x y d)(hne:x≠y):∃p,Nxt ts x y p:=by
 obtain⟨hw,hmin⟩:=h
 cases hw with
 | nil=>exact absurd rfl hne
 | cons ha w=>
  rename_i z l e
  obtain⟨f,hf⟩:=w.least g
  have h1:=hf.2 _ w
  have h2:=hmin _ (.cons ha hf.1)
  have:f=e:=by omega
  subst this
  exact⟨z,l,f,ha,hf,.cons ha hf.1,hmin⟩
theorem Nxt.ne (g:GW n ts){p:Int}(h:Nxt ts x y p):x≠y:=by
 obtain⟨l,b,ha,hb,hd⟩:=h
 intro e
 subst e
 have:=IsD.uniq hd (zCH g x)
 have:=g.adj ha
 have:=hb.1.nn g
 omega
theorem Len.via {p a:Int}{o:Option Int}(h1:IsD ts x p a)(h2:IsD ts x y d)(h3:Len ts p y o):∃b,o=some b/\d<=a+b:=by
 cases o with
 | none=>exact absurd (h1.1.symm.trans h2.1) (h3 _)
 | some b=>exact⟨b,rfl,h2.2 _ (h1.1.trans h3.1)⟩
end WM
namespace WM
end WM
namespace L2
open PySem PySem.Spec PyProof.Rows
noncomputable def zJC:KeyOrd:=⟨Int,fun a b=>decide (a<b),fun a=>zl (by omega),fun a b c h1 h2=>zU (by have:=of_decide_eq_true h1;have:=of_decide_eq_true h2;omega),
 fun a b c h=>by
  have h':a<c:=of_decide_eq_true h
  by_cases hab:a<b
  . exact .inl (zU hab)
  . exact .inr (zU (by omega)),
 fun a b h1 h2=>by have:=of_decide_eq_false h1;have:=of_decide_eq_false h2;omega⟩
variable {s:Shared}
theorem zFv {prog:Program}{w:World}{A:Around}{a:Addr}{vs:List Value}{ns:List Int}(hI:IntsAre vs ns)(h2:2<=vs.length) :
 SortT.Asks prog w A s a vs (O:=zJC) (fun i=>ns.getD i 0) oneType':=by
 have hl:=hI.length
 have at_:∀i,i<vs.length->∃t,vs.getD i Value.none = .int (ns.getD i 0) t:=fun i hi=>by
  obtain⟨n,hn⟩:∃n,ns[i]? = some n:=⟨_,zB (by omega)⟩
  obtain⟨t,ht⟩:=hI.get i n hn
  exact⟨t,by rw[zE,zE,ht,hn];rfl⟩
 refine⟨fun h' Q E kh q=>?_,fun h' i j Q E kh hi hj q=>?_⟩
 . rw[ksk_kind (keys:=vs.toArray) (kz:=ns) (by simpa using hI) (by simpa using h2)]
   exact zF q
 . obtain⟨t,e1⟩:=at_ i hi
   obtain⟨u,e2⟩:=at_ j hj
   rw[e1,e2]
   exact PySem.W.kat_lt_int q
theorem zJW {vs:List Value}{ns:List Int}{out:List Nat}(hI:IntsAre vs ns)(p:SortT.Put (O:=zJC) (fun i=>ns.getD i 0) vs.length out) :
 ∃ms:List Int,ms.Perm ns/\ms.Pairwise (· <= ·)/\zBE (ms.map V.int) (out.map fun i=>vs.getD i Value.none)/\ms.length=ns.length:=by
 have hl:=hI.length
 have hb:∀i∈out,i<vs.length:=fun i hi=>zBg.mp (p.perm.mem_iff.mp hi)
 refine⟨out.map fun i=>ns.getD i 0,?_,?_,?_,?_⟩
 . have h1:=p.perm.map fun i=>ns.getD i 0
   have h2:(List.range vs.length).map (fun i=>ns.getD i 0)=ns:=by
    rw[show vs.length=ns.length by omega]
    apply List.ext_getElem?
    intro j
    rw[zM]
    by_cases hj:j<ns.length
    . rw[List.getElem?_range hj,zB hj];simp[hj]
    . rw[zAK (by rw[zAQ];omega),zAK (by omega)];rfl
   rw[h2] at h1
   exact h1
 . refine zy.mpr fun i j hi hj hij=>?_
   rw[zC] at hi hj
   have:=p.rise i j out[i] out[j] (zAw hij) (by simp) (by simp)
   have h3:decide (ns.getD out[j] 0<ns.getD out[i] 0)=false:=this
   have h4:=of_decide_eq_false h3
   rw[List.getElem_map,List.getElem_map]
   omega
 . have:∀l:List Nat,(∀i∈l,i<vs.length)->zBE ((l.map fun i=>ns.getD i 0).map V.int) (l.map fun i=>vs.getD i Value.none):=by
    intro l
    induction l with
    | nil=>intro _;exact .nil
    | cons i l ih=>
     intro h
     have hi:=h i zV
     obtain⟨n,hn⟩:∃n,ns[i]? = some n:=⟨_,zB (by omega)⟩
     obtain⟨t,ht⟩:=hI.get i n hn
     refine .cons ?_ (ih fun j hj=>h j (zc _ hj))
     show zBQ (V.int (ns.getD i 0)) (vs.getD i Value.none)
     rw[zE,zE,ht,hn]
     exact⟨t,rfl⟩
   exact this out hb
 . rw[zC,p.perm.length_eq,zAQ];omega
section
variable {X:Cx}
theorem zFk (hc:X.calm=true):zCl X (.builtin "sorted") (fun xs H Q=>∃p kvs ns,xs=[.ref p]/\H p=some (.dK kvs)/\kvs.map (·.1)=ns.map Sum.inl/\ns.length<64 /\
 ∀(l:Addr)(ms:List Int),H l=none->ms.Perm ns->ms.Pairwise (· <= ·)->Q (.ref l) (upd H l (.lst (ms.map V.int)))):=by
 intro pins s σ H xs us Q I r h
 obtain⟨p,kvs,ns,rfl,hd,hks,h64,q⟩:=h
 obtain⟨u,rfl,rx⟩:=zCS r
 cases rx
 obtain⟨hz,lo,vs,rel,o,es,ep,ho,hx,hdat,_,hpr,hnd⟩:=zIl I.hok hd
 have key:∀(es:List DictEntry)(kvs:List (Key×V))(vs:List (Key×Value))(ns:List Int),KV kvs vs->Pairs (zAf X.prog X.w) es vs->kvs.map (·.1)=ns.map Sum.inl->IntsAre (es.map (·.key)) ns:=by
  intro es
  induction es with
  | nil=>
   intro kvs vs ns rel pr e
   cases pr
   cases rel
   cases ns with
   | nil=>exact .nil
   | cons n ns=>simp at e
  | cons d es ih=>
   intro kvs vs ns rel pr e
   cases pr with
   | cons k1 k2 k3=>
    cases rel with
    | cons hpq t=>
     cases ns with
     | nil=>simp at e
     | cons n ns=>
      simp only[zAV,List.cons.injEq] at e
      rw[<-hpq.1,e.1] at k1
      obtain⟨t0,e0⟩:=Value.isInt_shape (k:=n) (v:=d.key) k1
      rw[zAV,e0]
      exact .cons n t0 (ih _ _ _ t k3 e.2)
 have hI:IntsAre (es.toList.map (·.key)) ns:=key _ _ _ _ rel hpr hks
 have hl:=hI.length
 refine SortT.sorted_dict (O:=zJC) (key:=fun i=>ns.getD i 0) (κ:=oneType') (vs:=es.toList.map (·.key)) (I.ok.hd hc) lo ⟨o,ho,hx,hdat⟩ rfl (by omega) (fun h2 s' a fa kp=>zFv hI h2) fun h1 D h' t' out c pt k1 hD k2 ho=>?_
 obtain⟨ms,hp,hr,rz,hlz⟩:=zJW hI pt
 have I1:Inv X pins σ H { s with heap:=h1,toks:=s.toks }:=I.kept k1
 refine⟨.ref D,_,zDI (s:={ s with heap:=h1,toks:=s.toks }) (t':=t') I1 hD k2 ho rz ?_,rfl,q D ms (I1.hok.fresh hD) hp hr⟩
 have:sizeLine=16777216:=rfl
 rw[zC]
 omega
end
noncomputable def zI9 (c:Addr)(q:Str):Heap->Prop:=fun h=>∃o vs t,h.get? c=some o/\o.data = .fields vs/\vs[1]? = some (.str q t)
noncomputable def zDC (H:Hp)(P:Addr)(pos:Pos)(q:Str):Prop:=∃ps,H P=some (.tbl ps)/\TriplesOk ps.toList/\(codeAmong pos ps.toList=none\/∃c,codeAmong pos ps.toList=some (.ref c)/\H c=some (.ext (zI9 c q)))
noncomputable def SmT (H H':Hp):Prop:=∀b o,H b=some o->(∃ps,o = .tbl ps)\/H' b=some o
theorem SmT.refl (H:Hp):SmT H H:=fun _ _ e=>.inr e
variable {H H':Hp}
theorem SmT.of (h:zAi H H'):SmT H H':=fun b o e=>.inr (h b o e)
theorem SmT.trans {H1 H2:Hp}(a:SmT H H1)(b:SmT H1 H2):SmT H H2:=fun c o e=>by
 rcases a c o e with z | z
 . exact .inl z
 . exact b c o z
variable {pos:Pos}{q:Str}
theorem zDC.keep {P:Addr}(h:zDC H P pos q)(k:∀o,H P=some o->H' P=some o)(k2:∀c φ,H c=some (.ext φ)->H' c=some (.ext φ)):zDC H' P pos q:=by
 obtain⟨ps,a,b,c⟩:=h
 exact⟨ps,k _ a,b,c.imp id fun ⟨c,e,f⟩=>⟨c,e,k2 _ _ f⟩⟩
theorem zDC.same {P:Addr}(h:zDC H P pos q)(k:zAi H H'):zDC H' P pos q:=h.keep (fun _=>k _ _) fun _ _=>k _ _
noncomputable def zJA (mg:sOV)(h:Heap):Prop:=∃bm ob,mg "__builtins__" = some (.ref bm)/\bm≠builtinsNs/\h.get? bm=some ob/\ob.cls = .type "module" /\ ob.dict=some builtinsNs/\ob.data = .plain
theorem zKO {h:Heap}{a:Addr}{m m':sOV}(x:h.Ns a m)(y:h.Ns a m'):m=m':=by
 obtain⟨o,es,ep,e,d,_,f⟩:=x
 obtain⟨o',es',ep',e',d',_,f'⟩:=y
 rw[e] at e';cases e'
 rw[d] at d';cases d'
 funext n
 rw[<-f n,<-f' n]
variable {o:HO}
section
variable {X:Cx}{pins:lPO}{σ:St}{H:Hp}{s:Shared}
theorem Inv.growL {Pt c':Addr}{ps more:Array Value}{t':Nat}{h':Heap}(I:Inv X pins σ H s)(hP:H Pt=some (.tbl ps))(hp:s.heap.objs.size<=c')(k:∀b u,b≠Pt->s.heap.get? b=some u->h'.get? b=some u)
 (newP:h'.get? Pt=some (PySem.W.tabObj (ps++more)))(new:zBI X.prog X.w (upd (upd H Pt (.tbl (ps++more))) c' o) h' c' o) :
 Inv X pins σ (upd (upd H Pt (.tbl (ps++more))) c' o) { s with heap:=h',toks:=t' }:=by
 have hc:H c'=none:=I.hok.fresh hp
 have nP:∀b,H b=none->b≠Pt:=fun b n z=>by rw[z,hP] at n;cases n
 have nc:∀b u,s.heap.get? b=some u->b≠c':=fun b u e=>zd (zo (zX e) hp)
 have up:∀b u,H b=some u->b≠Pt->(upd (upd H Pt (.tbl (ps++more))) c' o) b=some u:=fun b u e hb=>by rw[za (zn e hc),za hb];exact e
 refine I.un ⟨fun b u e n _ _=>k b u (nP b n) e,fun b u e n _ _=>⟨u.slots,k b u (nP b n) e⟩,fun b u e n _=>by rw[za (nc b u e),za (nP b n)];exact n,fun b u e _=>?_,fun b xs e=>up b _ e (zBT e hP (by intro z;cases z)),fun b ob u e=>up b _ e (zBT e hP (by intro z;cases z)),fun b qs e=>?_⟩ ?_
 . by_cases hb:b=Pt
   . rw[hb];exact⟨_,newP⟩
   . exact⟨u,k b u hb e⟩
 . by_cases hb:b=Pt
   . subst hb
     rw[hP] at e;cases e
     exact⟨more,by rw[za (zn hP hc),zJ]⟩
   . exact⟨#[],by rw[up b _ e hb];simp⟩
 . intro b u e
   by_cases hbc:b=c'
   . subst hbc;rw[zJ] at e;cases e;exact new
   . rw[za hbc] at e
     by_cases hb:b=Pt
     . subst hb;rw[zJ] at e;cases e;exact newP
     . rw[za hb] at e
       refine (I.hok b u e).stay (fun d v hd q=>k d v ?_ q) (fun d q=>up d _ q (zBT q hP (by intro z;cases z))) fun d xs q=>up d _ q (zBT q hP (by intro z;cases z))
       rcases hd with z | z
       . rw[z];exact hb
       . exact zBT z hP (by intro z';cases z')
theorem lam_ev {P c:Addr}{params:Arguments}{body:Expr}{lscope:Scope}{lpos:Pos}{Q:vSP}{E:vSP}(I:Inv X pins σ H s)(T:zDC H P lpos (X.env.qual ++ "<lambda>"))
 (hcode:X.env.code = .ref c)(C:PySem.W.CodeHd X.base c P)(hbm:zJA X.mg X.base)(hfree:∀y∈lscope.names,y.2 = .free->X.env.kindOf y.1=some .cell)(hdef:defaultsOf params X.env=([],[]))
 (h:∀(f:Addr)(pm cv ctv:Value)(s':Shared)(H':Hp),Inv X pins σ H' s'->SmT H H'->zDC H' P lpos (X.env.qual ++ "<lambda>")->s.heap.objs.size<=f ->
  s'.heap.get? f=some { cls:=.type "function",data:=.func (PySem.W.kla_fn "<lambda>" (X.env.qual ++ "<lambda>") params body lscope (zCr X.env.cells lscope.names []) pm cv ctv) } ->
  s'.heap.CodeRec cv (X.env.qual ++ "<lambda>")->Q (.ref f) s') :
 wpAny (model X.prog X.w) X.A (eval (.Lambda params body lscope lpos) X.env) Q E s:=by
 obtain⟨ps,hP,ht,hcase⟩:=T
 have oP:s.heap.get? P=some (PySem.W.tabObj ps):=I.hok P _ hP
 have hg:=I.mod.glob.keeps I.bk
 have C':PySem.W.CodeHd s.heap c P:=C.keeps I.bk
 have hcl:closureFor lscope X.env=pure (zCr X.env.cells lscope.names []):=zCW fun y hy hf=>I.ok.has y.1 (.inl (hfree y hy hf))
 have nP:∀b o,X.base.get? b=some o->b≠P:=fun b o e z=>by
  have:=(I.bs b o e).2
  rw[z,hP] at this;cases this
 have hgP:mainGlobals≠P:=by
  obtain⟨o,es,ep,e,_⟩:=I.mod.glob
  exact nP _ _ e
 have hb:s.heap.BuiltinsAt X.mg P:=by
  obtain⟨bm,ob,b1,b2,b3,b4,b5,b6⟩:=hbm
  refine⟨bm,ob,b1,b2,fun z=>?_,nP _ _ b3,I.bk _ _ b3,b4,b5,b6⟩
  obtain⟨o,es,ep,e,hd,_⟩:=I.mod.glob
  rw[z,e] at b3;cases b3;rw[hd] at b6;cases b6
 refine PySem.W.kla_eval hdef ?_
 rcases hcase with hn | ⟨c1,hc1,hH⟩
 . refine PySem.W.kla_makeFunction (mg:=X.mg) hcl I.ok.glob hg hcode C' oP ht hn hgP hb fun c' ctv h' tk hx hge hlt hrec htb=>?_
   obtain⟨c2,oc,vs,t,e2,hoc,hd,hv⟩:=id hrec
   cases e2
   have kp:∀b u,b≠P->s.heap.get? b=some u->(h'.push (PySem.W.kla_obj "<lambda>" (X.env.qual ++ "<lambda>") params body lscope (zCr X.env.cells lscope.names []) ((X.mg "__name__").getD .none) c' ctv)).get? b=some u:=fun b u hb' e=>zG _ (hx b u hb' e)
   have hcn:H c'=none:=I.hok.fresh hge
   have nPc:P≠c':=zn hP hcn
   refine h h'.objs.size ((X.mg "__name__").getD .none) (.ref c') ctv _ _ (I.growL (c':=c') (o:=.ext (zI9 c' (X.env.qual ++ "<lambda>"))) (t':=tk) hP hge kp (zG _ htb) ⟨⟨oc,vs,t,zG _ hoc,hd,hv⟩,⟨oc,zG _ hoc⟩,fun h1 h2 ⟨o1,v1,t1,a1,a2,a3⟩ k12=>⟨o1,v1,t1,k12 _ a1,a2,a3⟩⟩) ?_ ?_ ?_ ?_ ?_
   . intro b o e
     by_cases hbP:b=P
     . left
       rw[hbP,hP] at e
       exact⟨ps,(zY e).symm⟩
     . right
       rw[za (zn e hcn),za hbP];exact e
   . refine⟨ps ++ #[rawInt lpos.line,rawInt lpos.col,.ref c'],by rw[za nPc,zJ],?_,.inr ⟨c',?_,zJ⟩⟩
     . rw[Array.toList_append];exact TriplesOk_snoc _ _ _ _ ht
     . rw[Array.toList_append];exact codeAmong_snoc _ ht hn
   . have:=zAw (zAU hge hlt)
     exact this
   . exact zR _ rfl
   . exact hrec.keeps fun b o e=>zG _ e
 . obtain⟨⟨oc,vs,t,hoc,hd,hv⟩,_⟩:=I.hok c1 _ hH
   refine PySem.W.kla_makeFunctionHit (mg:=X.mg) hcl I.ok.glob hg hcode C' oP ht hc1 hb fun ctv h' tk hk hsz=>?_
   refine h h'.objs.size ((X.mg "__name__").getD .none) (.ref c1) ctv _ _ (I.kept (t':=tk) fun b u e=>zG _ (hk b u e)) (SmT.refl _) ⟨ps,hP,ht,.inr ⟨c1,hc1,hH⟩⟩ hsz (zR _ rfl) ⟨c1,oc,vs,t,rfl,zG _ (hk _ _ hoc),hd,hv⟩
end
theorem zLb {X:Cx}{sc:Scope}(h:(sc.names.all fun y=>y.2 != .free || X.env.kindOf y.1==some .cell)=true):∀y∈sc.names,y.2 = .free->X.env.kindOf y.1=some .cell:=fun y hy e=>by
 have a:=zAv.mp h y hy
 rw[e] at a
 simpa using a
section
variable {X:Cx}
noncomputable def zKe (j:Nat)(P:Addr)(lpos:Pos)(q:Str)(t:TA):TE:=fun σ H Q=>t σ H fun vs H1=>∃(l d:Addr)(ns:List Int)(kvs:List (Key×V))(val:Int->Int),vs=[.ref l]/\H1 l=some (.lst (ns.map V.int))/\ns≠[]/\σ[j]? = some (some (.ref d))/\H1 d=some (.dK kvs) /\
 (∀n∈ns,zCA kvs (Sum.inl n)=some (.int (val n)))/\zDC H1 P lpos q/\∀(M:Int)(H2:Hp),M∈ns->(∀n∈ns,val M<=val n)->SmT H1 H2->zDC H2 P lpos q->Q (.int M) H2
theorem zH9 {k j:Nat}{P c:Addr}{dn pn:Str}{e:Expr}{t:TA}{params:Arguments}{lscope:Scope}{lpos pos np p1 p2 p3 kpos:Pos}
 (hc:X.calm=true)(hr:zCa (k+1) X.A)(hg:Gl X "min") (hm:X.mg "min" = none) (he:PA X [e] t)(hcode:X.env.code = .ref c)(C:PySem.W.CodeHd X.base c P)(hbm:zJA X.mg X.base)
 (hN:X.N[j]? = some dn)(hkd:X.env.kindOf dn=some .cell)(hS:lscope.kind = .function)(hco:lscope.isCoroutine=false)(hgen:lscope.isGenerator=false)(hcell:∀x∈lscope.names,x.2 ≠ .cell)
 (hfree:∀y∈lscope.names,y.2 = .free->X.env.kindOf y.1=some .cell)(hdn:lscope.names.lookup dn=some .free)(hpn:lscope.names.lookup pn=some .local)(hdef:defaultsOf params X.env=([],[]))
 (hbind:∀(q:Str)(body:Expr)(cl:List (Str×Addr))(pm cdv ct v:Value),bindArgs (PySem.W.kla_fn "<lambda>" q params body lscope cl pm cdv ct) ⟨[v],[]⟩=pure [(pn,v)])
 (hd1:(dn==("__debug__" : Str))=false:=by decide) (hd2:(dn==("__classdict__" : Str))=false:=by decide) (hd3:(pn==("__debug__" : Str))=false:=by decide)
 (hs1:backTo pos (starEach [e] X.env)=(false,eval e X.env)::backTo pos (starEach [] X.env):=by rfl)(hs2:(backTo pos (starEach [e] X.env)).any (·.1)=false:=by rfl) :
 PE X (.Call (.Name "min" np) [e] [⟨some "key",.Lambda params (.Subscript (.Name dn p1) (.Name pn p2) p3) lscope lpos,kpos⟩] pos) (zKe j P lpos (X.env.qual ++ "<lambda>") t):=by
 intro pins s σ H Q I h
 refine zA0 (zCe I hg hm (by decide +kernel:bootBuiltins "min" = some (.builtin "min")) ?_)
 refine PyProof.Rows.callWith_kw (thn (he pos pins s σ H _ I h) fun us s1 ⟨vs,H1,I1,r,q1⟩=>?_) hs1 hs2
 obtain⟨l,d,ns,kvs,val,rfl,hl,hne,hσ,hdd,hval,T,q⟩:=q1
 obtain⟨u,rfl,rx⟩:=zCS r
 cases rx
 show wpAny _ _ (evalAll ((do let v <-eval (.Lambda params (.Subscript (.Name dn p1) (.Name pn p2) p3) lscope lpos) X.env;standAt pos;pure v)::[])) _ _ s1
 refine wpAny_evalAll_cons (zA (lam_ev I1 T hcode C hbm hfree hdef fun f pm cv ctv s2 H2 I2 sm T2 hfge hf hrec=>zA (zBn (zF (wpAny_evalAll_nil ?_)))))
 show wpAny _ _ (call (.builtin "min") [.ref l] [(Str.ofString "key",.ref f)]) _ _ s2
 have keep2:∀b o,H1 b=some o->(∀ps,o ≠ .tbl ps)->H2 b=some o:=fun b o e ho=>by
  rcases sm b o e with ⟨ps,z⟩ | z
  . exact absurd z (ho ps)
  . exact z
 have hl2:H2 l=some (.lst (ns.map V.int)):=keep2 _ _ hl (by intro ps z;cases z)
 have hd2':H2 d=some (.dK kvs):=keep2 _ _ hdd (by intro ps z;cases z)
 obtain⟨_,its,nn,rv,ho⟩:=I2.hok l _ hl2
 obtain⟨hz,lo,vs,rel,od,es,ep,hod,hdr⟩:=zIl I2.hok hd2'
 have hI:IntsAre its ns:=zB3 rv
 obtain⟨m,F0⟩:=I2.fr
 have notL:∀b o,H2 b=some o->b≠X.env.locals:=fun b o e z=>by rw[z,I2.free] at e;cases e
 have kp:∀(h':Heap)(own:lPO),Fr X.base X.env.locals h' m->News X.base X.env.locals h' (zEA X.base s2.heap X.env.locals++own)->∀b o,b≠X.env.locals->s2.heap.get? b=some o->h'.get? b=some o:=fun h' own F' N' b o hb e'=>by
  cases qb:X.base.get? b with
  | some u=>
   have z:=I2.bk b u qb
   rw[e'] at z;cases z
   exact F'.keep b _ qb
  | none=>exact (N' (b,o) (zAE _ (zF7 hb qb e'))).1
 obtain⟨m',hn',hloc⟩:=I2.loc
 have em:m'=m:=zKO hn' F0.ns
 subst em
 obtain⟨ud,rd,lk⟩:=hloc j dn (.ref d) hN hσ (.inr (.inl hkd))
 cases (show ud=Value.ref d from rd)
 obtain⟨cc,hcc,oc,hoc,hdc⟩:∃cc,X.env.cells.lookup dn=some cc/\s2.heap.IsCell cc (some (.ref d)):=by
  rcases lk with ⟨z,_⟩ | ⟨_,cc,a,b⟩
  . rw[hkd] at z;cases z
  . exact⟨cc,a,b⟩
 have hcl:(zCr X.env.cells lscope.names []).lookup dn=some cc:=by
  obtain⟨c',hc'⟩:=zCo ⟨cc,hcc⟩ lscope.names [] (PySem.mem_of_lookup hdn)
  rcases zDA _ _ hc' with z | z
  . simp at z
  . rw[hcc] at z;cases z;exact hc'
 have hsz0:X.env.locals<s1.heap.objs.size:=I1.lt
 have hfL:f≠X.env.locals:=Nat.ne_of_gt (zo hsz0 hfge)
 refine PyProof.Rows.kmk_min_letter (h₀:=X.base) (L:=X.env.locals) (m:=m') (news:=zEA X.base s2.heap X.env.locals) (ns:=ns) val (I2.ok.hd hc) F0 zJm (fun h' F' N'=>?_) hI (List.length_pos_iff.mpr hne) (fun n tn h' tk own hn F' N'=>?_) (fun M tM h' tk F' N' hM hbest=>?_)
 . exact⟨_,kp h' [] F' (by rw[zr];exact N') l _ (notL _ _ hl2) ho,rfl,nn,rfl⟩
 . have kk:=kp h' own F' N'
   obtain⟨c1,o1,v1,t1,e1,ho1,hd1',hv1⟩:=id hrec
   subst e1
   have hc1L:c1≠X.env.locals\/True:=.inr trivial
   have rec':h'.CodeRec (.ref c1) (X.env.qual ++ "<lambda>"):=by
    refine⟨c1,o1,v1,t1,rfl,kk c1 o1 (fun z=>?_) ho1,hd1',hv1⟩
    obtain⟨oL,esL,epL,hoL,hdL,_⟩:=F0.ns
    rw[z,hoL] at ho1;cases ho1;rw[hdL] at hd1';cases hd1'
   refine zBZ (PySem.W.kla_callFunE hr.in1.depth (kk f _ hfL hf) rfl hco hgen rfl rec' ?_)
   rw[hbind]
   refine zF (wpAny_newFunctionEnv hcell (fun y hy=>?_) (fun h₁ hns hsb=>?_) hS)
   . obtain rfl:y=(pn,Value.int n tn):=zf.mp hy
     exact hpn
   . have hk₁:∀b o,h'.get? b=some o->h₁.get? b=some o:=fun b o e'=>hsb.extBut b o (zd (zX e')) (zG _ e')
     refine⟨I2.mod.nolimit.keeps fun b o e'=>hk₁ b o (F'.keep b o e'),?_⟩
     show codeAny _ _ (.expr (.Subscript (.Name dn p1) (.Name pn p2) p3) (PySem.W.envX (X.env.qual ++ "<lambda>") lscope h'.objs.size f (.ref c1) (zCr X.env.cells lscope.names []))) _ _
     refine PySem.W.kla_codeExpr (zHe PySem.F.slot_dict_getitem.lookup (fun _ _=>rfl) ?_)
     refine wpAny_Name (wpAny_loadName_free hS (show (PySem.W.envX (X.env.qual ++ "<lambda>") lscope h'.objs.size f (.ref c1) (zCr X.env.cells lscope.names [])).kindOf dn=some .free from hdn) hcl ⟨oc,hk₁ _ _ (kk cc oc (I2.cne dn cc hcc) hoc),hdc⟩ ?_ hd2) hd1
     refine wpAny_Name (wpAny_loadName_local hS (show (PySem.W.envX (X.env.qual ++ "<lambda>") lscope h'.objs.size f (.ref c1) (zCr X.env.cells lscope.names [])).kindOf pn=some .local from hpn) hns (v:=.int n tn) (by simp) ?_) hd3
     have dd:h₁.DictOf (zAf X.prog X.w) d vs:=⟨od,es,ep,hk₁ _ _ (kk d od (notL _ _ hd2') hod),hdr⟩
     refine⟨dd.typeIs,?_⟩
     obtain⟨w',hw,rw'⟩:=zE3.some_of (v:=.int (val n)) (o:=valueAt vs (Sum.inl n)) (by rw[<-hval n hn];exact rel.val (Sum.inl n))
     obtain⟨t',rfl⟩:=rw'
     refine wpAny_getItem_of (zEu (k:=Sum.inl n) ⟨tn,rfl⟩) dd.mapOf hw ?_
     exact⟨h₁,_,t',rfl,rfl,⟨F'.ns.keeps hk₁,fun b o e'=>hk₁ b o (F'.keep b o e'),F'.above⟩,fun p hp=>⟨hk₁ _ _ (N' p hp).1,(N' p hp).2⟩⟩
 . have kk:=kp h' [] F' (by rw[zr];exact N')
   have I3:Inv X pins σ H2 { s2 with heap:=h',toks:=tk }:=by
    refine I2.step (g':=s2.gens) (d':=s2.drawn) (ch:=[]) (fun _ z=>nomatch z) (fun b o hb _ _ e' _=>kk b o hb e') (fun b o hb _ _ e' _=>⟨o.slots,kk b o hb e'⟩) (fun _ _ _ _ n=>n) (fun b o _ e'=>?_) (fun _ _ e'=>e') (fun _ _ _ e'=>e') (fun b ps e'=>⟨#[],by rw[e'];simp⟩) (fun mm hmm=>?_) ?_ I2.bare
    . by_cases hb:b=X.env.locals
      . obtain⟨oL,esL,epL,hoL,_⟩:=F'.ns
        exact⟨oL,by rw[hb];exact hoL⟩
      . exact⟨o,kk b o hb e'⟩
    . have:=zKO hmm F0.ns
      subst this
      exact F'.ns
    . intro b u e'
      refine (I2.hok b u e').stay (fun x v hx z=>kk x v ?_ z) (fun _ z=>z) fun _ _ z=>z
      rcases hx with z1 | z1
      . rw[z1];exact notL _ _ e'
      . exact notL _ _ z1
   exact⟨.int M,H2,I3,⟨tM,rfl⟩,q M H2 hM hbest sm T2⟩
end
theorem zIU {P:Program}{w:World}{K:PySem.W.Frag}{mg mb:sOV}{CX:CXT}{k:Nat}{fa a PT:Addr}{fd:FuncData}{x:Str}{sp:Sp}{s₁:Shared}{vs:List Value}{ns:List Int}
 (KX:K.In s₁.heap)(hns:s₁.heap.Ns mainGlobals mg)(hb:s₁.heap.Ns builtinsNs mb)(hbb:∀x:Str,x ≠ "__name__" -> mb x=bootBuiltins x) (hlim:s₁.heap.NoLimit)(hg:s₁.gens = #[])
 (ha:s₁.heap.get? a=some { cls:=.type "list",data:=.seq vs.toArray }) (hi:IntsAre vs ns)(hl:ns.length<=sizeLine)(hr:zCa k callerA)
 (hT:s₁.heap.get? PT=some (PySem.W.tabObj #[]))(hC:isCodeTable s₁.heap PT)(hK:PySem.W.noTabs K=true)(hbm:zJA mg s₁.heap)
 (F:∀base:Heap,K.In base->base.Ns mainGlobals mg->zJA mg base->zAP P w K mg base CX k fa fd [x] sp)(hbind:∀(s:Shared)(u:Value),BindsTo s fd ⟨[u],[]⟩ [(x,u)])
 (hsp:∀H:Hp,H PT=some (.tbl #[])->SqL K H a (ns.map V.int)->sp [.ref a] H (fun v _=>v = .bl true) fun _ _ _=>False)
 (hCX:∀H e s',CX [] H s₁ (fun _ _ _=>False) e s'->False) :
 codeAny (model P w) callerA (.call (.ref fa) ⟨[.ref a],[]⟩) (fun r s'=>r = .ok (.ret (.bool true))/\OldK s₁.heap s'.heap/\s'.os=s₁.os/\AllBare s'.gens) s₁:=by
 have rv:=zE4 hi
 have lenV:=hi.length
 have npa:PT≠a:=fun e=>by rw[e,ha] at hT;cases hT
 have kPT:K.lookup PT=none:=by
  cases q:K.lookup PT with
  | none=>rfl
  | some o=>
   have e:=KX PT o q
   rw[hT] at e
   cases e
   have h2:=zAv.mp hK (PT,_) (PySem.W.mem_of_lookupK q)
   exact absurd (show false=true from h2) zh
 have core:∀H:Hp,(∀b u,H b=some u->(b=PT/\u = .tbl #[])\/(b=a/\K.lookup a=none/\∃o xs,u = .frz o (.lst xs)))->H PT=some (.tbl #[])->SqL K H a (ns.map V.int)->HOk P w H s₁.heap ->
  codeAny (model P w) callerA (.call (.ref fa) ⟨[.ref a],[]⟩) (fun r s'=>r = .ok (.ret (.bool true))/\OldK s₁.heap s'.heap/\s'.os=s₁.os/\AllBare s'.gens) s₁:=by
  intro H hA hP hS hok
  have base_of:∀{b:Addr}{o:Obj},s₁.heap.get? b=some o->H b=none->(zJD s₁.heap H).get? b=some o:=fun e n=>zJv e n
  have noA:∀{b:Addr}{o:Obj},s₁.heap.get? b=some o->(∀ps,o.data ≠ .fields ps)->(∀ps n,o.data ≠ .seq ps n)->H b=none:=fun {b o} e d1 d2=>by
   cases q:H b with
   | none=>rfl
   | some u=>
    rcases hA b u q with ⟨rfl,_⟩ | ⟨rfl,_⟩
    . rw[hT] at e;cases e;exact absurd rfl (d1 #[])
    . rw[ha] at e;cases e;exact absurd rfl (d2 _ _)
  have nsK:∀{b:Addr}{m:sOV},s₁.heap.Ns b m->(zJD s₁.heap H).Ns b m:=fun {b m} ⟨o,es,ep,e,d,r⟩=>⟨o,es,ep,base_of e (noA e (fun ps z=>by rw[d] at z;cases z) (fun ps n z=>by rw[d] at z;cases z)),d,r⟩
  have hKb:K.In (zJD s₁.heap H):=fun b o e=>base_of (KX b o e) (by
   cases q:H b with
   | none=>rfl
   | some u=>
    rcases hA b u q with ⟨rfl,_⟩ | ⟨rfl,z,_⟩
    . rw[kPT] at e;cases e
    . rw[z] at e;cases e)
  have hBm:zJA mg (zJD s₁.heap H):=by
   obtain⟨bm,ob,b1,b2,b3,b4,b5,b6⟩:=hbm
   exact⟨bm,ob,b1,b2,base_of b3 (noA b3 (fun ps z=>by rw[b6] at z;cases z) (fun ps n z=>by rw[b6] at z;cases z)),b4,b5,b6⟩
  have hM:Mod K mg (zJD s₁.heap H):=⟨hKb,nsK hns,⟨mb,nsK hb,hbb⟩,let ⟨mc,h1,h2⟩:=hlim;⟨mc,nsK h1,h2⟩⟩
  have e0:zLm P w K mg (zJD s₁.heap H) callerA [] s₁ H:=⟨rfl,hM,fun b o e=>zLQ e,Nat.le_of_eq (zIf _ _),trivial,fun b hb=>absurd (show b∈([]:List Addr) from hb) (by simp),hok,.of_eq hg⟩
  refine codeAny_mono ((F _ hKb (nsK hns) hBm).run callerA [] s₁ H ⟨[.ref a],[]⟩ [.ref a] [.ref a] _ _ hr e0 (hbind s₁ (.ref a)) (.cons rfl .nil) (hsp H hP hS)) fun r s' h=>?_
  cases r with
  | error e=>exact (hCX H e s' h).elim
  | ok fl=>
   cases fl with
   | next=>exact False.elim h
   | brk=>exact False.elim h
   | cont=>exact False.elim h
   | ret u=>
    obtain⟨v,H',os,bare,un,hok',r',q⟩:=h
    have q':v = .bl true:=q
    subst q'
    obtain rfl:u=Value.bool true:=r'
    obtain⟨more,hPn⟩:=un.tbls PT _ hP
    have objP:s'.heap.get? PT=some { cls:=.none,data:=.fields (#[]++more) }:=hok' PT _ hPn
    have keep:∀b o,b≠PT->s₁.heap.get? b=some o->s'.heap.get? b=some o:=fun b o hb e=>by
     cases q:H b with
     | none=>exact un.keep b o e q (by intro z;exact absurd (show b∈([]:List Addr) from z) (by simp)) (by simp)
     | some u=>
      rcases hA b u q with ⟨z,_⟩ | ⟨_,_,ob,xs,z⟩
      . exact absurd z hb
      . subst z
        have z2:=un.frzs b ob _ q
        obtain⟨e1,_⟩:=hok b _ q
        obtain⟨e2,_⟩:=hok' b _ z2
        rw[e] at e1;cases e1
        exact e2
    refine⟨rfl,⟨fun b o e=>?_,fun b o e=>?_⟩,os,bare⟩
    . by_cases hb:b=PT
      . subst hb
        rw[hT] at e;cases e
        exact .inr (.inl ⟨hC,rfl,#[],more,rfl,objP⟩)
      . exact .inl (keep b o hb e)
    . by_cases hb:b=PT
      . rw[hb];exact⟨_,objP⟩
      . exact⟨o,keep b o hb e⟩
 have okP:∀H:Hp,zBI P w H s₁.heap PT (.tbl #[]):=fun H=>hT
 cases hk:K.lookup a with
 | some o=>
  have e:=KX a o hk
  rw[ha] at e
  cases e
  refine core (fun b=>if b=PT then some (.tbl #[]) else none) (fun b u z=>?_) (if_pos rfl) (.inr ⟨_,vs.toArray,_,hk,rfl,rfl,rfl,by rw[zT,lenV];exact hl,by simpa using rv⟩) (fun b u z=>?_)
  all_goals
   have z':(if b=PT then some (HO.tbl #[]) else none)=some u:=z
   by_cases hb:b=PT
   . rw[if_pos hb] at z';cases z'
     first
      | exact .inl ⟨hb,rfl⟩
      | (subst hb;exact okP _)
   . rw[if_neg hb] at z';cases z'
 | none=>
  refine core (fun b=>if b=PT then some (.tbl #[]) else if b=a then some (.frz { cls:=.type "list",data:=.seq vs.toArray } (.lst (ns.map V.int))) else none) (fun b u z=>?_) (if_pos rfl)
   (.inl (.inr ⟨{ cls:=.type "list",data:=.seq vs.toArray },by show (if a=PT then _ else if a=a then _ else _)=_;rw[if_neg npa.symm,if_pos rfl]⟩)) (fun b u z=>?_)
  all_goals
   have z':(if b=PT then some (HO.tbl #[]) else if b=a then some (.frz { cls:=.type "list",data:=.seq vs.toArray } (.lst (ns.map V.int))) else none)=some u:=z
   by_cases hb:b=PT
   . rw[if_pos hb] at z';cases z'
     first
      | exact .inl ⟨hb,rfl⟩
      | (subst hb;exact okP _)
   . rw[if_neg hb] at z'
     by_cases hba:b=a
     . rw[if_pos hba] at z';cases z'
       first
        | exact .inr ⟨hba,hk,_,_,rfl⟩
        | (subst hba;exact⟨ha,by rw[zC];exact hl,vs,_,rv,ha⟩)
     . rw[if_neg hba] at z';cases z'
variable {x:Str}
theorem walk_T {l:PySem.W.OpenLaw}{n k:Nat}{q:Program}{loose:List Str}{XP:(Str->Option Value)->Heap->Prop}{YP:World->Heap->Prop}{d:DefRec}{K:Params->PySem.W.Frag}{CX:CXT}{sp:PySem.W.Frag->Addr->Sp}{tn:Str}
 (hn:l.most=some n)(hn2:n<=sizeLine)(hdf:d.params.defaults=[])(hr:zCa k callerA)(hrec:∃dn,(recsOf q).find? (fun e=>e.name==tn)=some dn)
 (hY:∀(w:World)(h:Heap),YP w h->(K w.params).In h)
 (F:∀(w:World)(mg:sOV)(fa:Addr)(h:Heap),(K w.params).In h->h.Ns mainGlobals mg->mg d.name=some (.ref fa) ->
  ∃(fd:FuncData)(c PT:Addr),PySem.W.tabIn (K w.params) tn=some (c,PT)/\PySem.W.noTabs (K w.params)=true/\(∀(s:Shared)(u:Value),BindsTo s fd ⟨[u],[]⟩ [(x,u)]) /\
   ∀base:Heap,(K w.params).In base->base.Ns mainGlobals mg->zJA mg base->zAP l.prog w (K w.params) mg base CX k fa fd [x] (sp (K w.params) PT))
 (hsp:∀(K:PySem.W.Frag)(PT:Addr)(H:Hp)(a:Addr)(ns:List Int),ns.length<=n->H PT=some (.tbl #[])->SqL K H a (ns.map V.int)->sp K PT [.ref a] H (fun v _=>v = .bl true) fun _ _ _=>False)
 (hCX:∀(H:Hp)(s:Shared)(e:Value)(s':Shared),CX [] H s (fun _ _ _=>False) e s'->False) :
 PySem.W.WalkO q loose XP YP l.row.toRowW d [] (fun f vs=>PySem.call f vs):=by
 refine Att.attach_call hn hdf fun w s₀ s₁ mg mb fa o pm cd doc a vs ns G Y ho hd hcd hmg hobj hints hlen hg=>?_
 have KX:=hY w _ Y
 obtain⟨fd,c,PT,htab,hnt,hb,hF⟩:=F w mg fa _ KX G.T.g hmg
 obtain⟨dn,hdn⟩:=hrec
 obtain⟨C,hPT⟩:=PySem.W.tab_of G.T KX hdn htab
 exact zIU KX G.T.g G.T.b G.T.builtins G.T.nolimit hg hobj hints (zAH hlen hn2) hr hPT (C.tab hPT).isCodeTable hnt G.T.bmain hF hb (fun H hP hS=>hsp _ PT H a ns hlen hP hS) fun H e s'=>hCX H s₁ e s'
structure zJ9 (K:PySem.W.Frag)(x qual:Str)(st:Stmt)(f:Addr)(fd:FuncData)(c:Addr):Prop where
 ex:∃(oc:Value)(od:Option Addr)(kV doc pm:Value)(an:Option Addr)(ct:Value)(osl:Array (Option Value)),
  fd=PySem.W.fnOf x qual (defArgs st) (defBody st) (defScope st) .none kV doc pm an (.ref c) ct/\K.lookup f=some ⟨oc,od,.func fd,osl⟩/\PySem.W.codeIn K (.ref c) qual=true
 kp:PySem.W.keepIn K (.ref f)=true
variable {K:PySem.W.Frag}{qual:Str}{st:Stmt}{f c:Addr}
theorem zJ9.fn {fd:FuncData}(F:zJ9 K x qual st f fd c):Fun K x qual st f fd:=by
 obtain⟨oc,od,kV,doc,pm,an,ct,osl,h⟩:=F.ex
 exact⟨⟨oc,od,kV,doc,pm,an,.ref c,ct,osl,h⟩,F.kp⟩
theorem zJ9.ok {P:Program}{w:World}{mg:sOV}{base:Heap}{fd:FuncData}{N ps:List Str}{k:Nat}{sp:Sp}(F:zJ9 K x qual st f fd c)(S:zw N ps (defScope st))(len:∀vs H Q E,sp vs H Q E->vs.length=ps.length)
 (hbody:∀(A:Around)(outer:List Env)(s:Shared)(H:Hp)(vs:List V)(Q:VK)(E:XK),zCa k (A.deeper (envOfC qual (defScope st) s.heap.objs.size f (.ref c)))->sp vs H Q E ->
  ∃t,PSs (zGm CX0 P w K mg base N qual (defScope st) f (.ref c) A outer s H E).nox (defBody st) t/\t { nx:=fun _ H'=>Q .non H',rt:=Q } (start N vs) H):zAP P w K mg base CX0 (k+1) f fd ps sp:=by
 obtain⟨oc,od,kV,doc,pm,an,ct,osl,rfl,lk,hcd⟩:=F.ex
 refine zLc lk hcd S len fun A outer s H vs Q E hr hsp=>?_
 obtain⟨t,h,q⟩:=hbody A outer s H vs Q E hr hsp
 exact⟨t,h.nox,q⟩
theorem zLa {oc:Value}{od an:Option Addr}{osl:Array (Option Value)}{kV doc pm ct:Value}(l:K.lookup f=some ⟨oc,od,.func (PySem.W.fnOf x qual (defArgs st) (defBody st) (defScope st) .none kV doc pm an (.ref c) ct),osl⟩)
 (hc:PySem.W.codeIn K (.ref c) qual=true)(k:PySem.W.keepIn K (.ref f)=true):zJ9 K x qual st f (PySem.W.fnOf x qual (defArgs st) (defBody st) (defScope st) .none kV doc pm an (.ref c) ct) c:=⟨⟨oc,od,kV,doc,pm,an,ct,osl,rfl,l,hc⟩,k⟩
section
variable {κ:Type} [DecidableEq κ]
theorem zJq {kvs:List (κ×V)}{k:κ}{v:V}{kv:κ×V}(h:kv∈zCT kvs k v):kv∈kvs\/kv=(k,v):=by
 unfold zCT at h
 split at h
 . obtain⟨q,hq,e⟩:=zAI.mp h
   by_cases hk:q.1=k
   . rw[if_pos hk] at e;rw[<-e,hk];exact .inr rfl
   . rw[if_neg hk] at e;rw[<-e];exact .inl hq
 . rcases zm.mp h with q | q
   . exact .inl q
   . exact .inr (zf.mp q)
theorem nd_put {kvs:List (κ×V)}{k:κ}{v:V}(h:(kvs.map (·.1)).Nodup):((zCT kvs k v).map (·.1)).Nodup:=by
 cases e:zCA kvs k with
 | none=>exact zIL v h e
 | some x=>
  have ha:(kvs.any fun kv=>decide (kv.1=k))=true:=by rw[zB5,e];rfl
  unfold zCT
  rw[if_pos ha]
  have e3:(kvs.map fun kv=>if kv.1=k then (kv.1,v) else kv).map (·.1)=kvs.map (·.1):=by
   rw[List.map_map]
   refine List.map_congr_left fun kv _=>?_
   show (if kv.1=k then (kv.1,v) else kv).1=kv.1
   split <;> rfl
  rw[e3];exact h
theorem zE6 (k j:κ):∀kvs:List (κ×V),zCA (zCM kvs k) j=if j=k then none else zCA kvs j
 | []=>by show (none:Option V)=_;split <;> rfl
 | p::r=>by
  have ih:=zE6 k j r
  by_cases e:p.1=k
  . rw[zFf e,ih]
    by_cases hj:j=k
    . rw[if_pos hj,if_pos hj]
    . rw[if_neg hj,if_neg hj,zBM fun z=>hj (z.symm.trans e)]
  . rw[zFg e]
    by_cases hj:p.1=j
    . rw[zBW hj,zBW hj,if_neg fun z=>e (hj.trans z)]
    . rw[zBM hj,zBM hj,ih]
end
noncomputable def unkW:Key->Int
 | .inl i=>i
 | .inr _=>0
structure WD (n:Int)(kvs:List (Key×V))(wt:Int->Option Int):Prop where
 sh:∀kv∈kvs,∃p d,kv=(Sum.inl p,V.int d)/\0<=p/\p<n
 nd:(kvs.map (·.1)).Nodup
 at_:∀p:Int,zCA kvs (Sum.inl p)=(wt p).map V.int
noncomputable def zEK (kvs:List (Key×V)):List Int:=kvs.map fun kv=>unkW kv.1
variable {n:Int}{kvs:List (Key×V)}{wt:Int->Option Int}
theorem WD.keys (h:WD n kvs wt):kvs.map (·.1)=(zEK kvs).map Sum.inl:=by
 unfold zEK
 rw[List.map_map]
 refine List.map_congr_left fun kv hkv=>?_
 obtain⟨p,d,e,_⟩:=h.sh kv hkv
 rw[e];rfl
theorem WD.nds (h:WD n kvs wt):(zEK kvs).Nodup:=by
 have e:=h.nd
 rw[h.keys,List.Nodup,zAh] at e
 exact e.imp fun h e'=>h (by rw[e'])
theorem WD.len (h:WD n kvs wt)(h0:0<=n):(kvs.length:Int)<=n:=by
 have:=WM.nd_len (n:=n.toNat) h.nds fun x hx=>by
  obtain⟨kv,hkv,e⟩:=zAI.mp hx
  obtain⟨p,d,e2,h1,h2⟩:=h.sh kv hkv
  have:x=p:=by rw[<-e,e2];rfl
  omega
 unfold zEK at this
 rw[zC] at this
 omega
variable {p:Int}
theorem WD.mem (h:WD n kvs wt):p∈zEK kvs↔∃e,wt p=some e:=by
 have e:p∈zEK kvs↔(Sum.inl p:Key)∈kvs.map (·.1):=by
  rw[h.keys]
  constructor
  . intro m;exact zAI.mpr ⟨p,m,rfl⟩
  . intro m
    obtain⟨q,hq,e⟩:=zAI.mp m
    cases e;exact hq
 rw[e]
 have ha:=h.at_ p
 constructor
 . intro m
   cases hw:wt p with
   | some d=>exact⟨d,rfl⟩
   | none=>rw[hw] at ha;exact absurd m (zGJ ha)
 . rintro ⟨d,hw⟩
   rw[hw] at ha
   exact zKZ ha
theorem WD.one {s:Int}(h0:0<=s)(h1:s<n):WD n [(Sum.inl s,V.int 0)] (fun q=>if q=s then some 0 else none):=by
 refine⟨fun kv hkv=>?_,by simp,fun p=>?_⟩
 . rw[zf.mp hkv];exact⟨s,0,rfl,h0,h1⟩
 . by_cases e:p=s
   . rw[if_pos e,e];exact zBW rfl
   . rw[if_neg e];exact (zBM fun z=>e (Sum.inl.inj z).symm).trans zEf
theorem WD.put (h:WD n kvs wt){d:Int}(h0:0<=p)(h1:p<n):WD n (zCT kvs (Sum.inl p) (.int d)) (fun q=>if q=p then some d else wt q):=by
 refine⟨fun kv hkv=>?_,nd_put h.nd,fun q=>?_⟩
 . rcases zJq hkv with z | z
   . exact h.sh kv z
   . exact⟨p,d,z,h0,h1⟩
 . rw[zEe]
   by_cases e:q=p
   . rw[if_pos e,if_pos (by rw[e])];rfl
   . rw[if_neg e,if_neg fun z=>e (Sum.inl.inj z)];exact h.at_ q
theorem WD.drop (h:WD n kvs wt):WD n (zCM kvs (Sum.inl p)) (fun q=>if q=p then none else wt q):=by
 refine⟨fun kv hkv=>h.sh kv (zFh hkv),zEs h.nd,fun q=>?_⟩
 rw[zE6]
 by_cases e:q=p
 . rw[if_pos e,if_pos (by rw[e])];rfl
 . rw[if_neg e,if_neg fun z=>e (Sum.inl.inj z)];exact h.at_ q
noncomputable def oV:Option Int->V
 | none=>.non
 | some d=>.int d
theorem zEY {n:Nat}{i:Int}(h0:0<=i)(h1:i<n):ixN n i=some i.toNat:=by
 unfold ixN
 rw[if_pos h0,if_pos h1]
theorem zAe {α:Type}{xs:List α}{i:Int}{v:α}(h0:0<=i)(h:xs[i.toNat]? = some v):atI xs i=some v:=by
 have:=zCh h
 rwa [Int.toNat_of_nonneg h0] at this
theorem SmT.get (k:SmT H H'){b:Addr}(e:H b=some o)(h:∀ps,o ≠ .tbl ps):H' b=some o:=by
 rcases k b o e with ⟨ps,z⟩ | z
 . exact absurd z (h ps)
 . exact z
theorem SmT.chg {l:Addr}(k:SmT H H')(h:H l=none):SmT H (upd H' l o):=fun b u e=>by
 rcases k b u e with z | z
 . exact .inl z
 . right
   rw[za (zn e h)];exact z
theorem zDC.chg {P l:Addr}{xs:List V}(T:zDC H P pos q)(h:H l=some (.lst xs)):zDC (upd H l o) P pos q:=by
 obtain⟨ps,hps,_⟩:=id T
 refine T.keep (fun u hu=>?_) fun c φ hc=>?_
 . rw[za (zBT hps h (by intro z;cases z))];exact hu
 . rw[za (zBT hc h (by intro z;cases z))];exact hc
noncomputable def zE1 (scope:Scope)(yc:Str)(cl:List (Str×Addr))(C:Addr)(env:Env):Env:=
 { scope:=relabel scope env,locals:=C,globals:=env.globals,cells:=(yc,C+1)::cl,qual:=env.qual,func:=none,code:=env.code,frame:=env.frame,builtins:=env.builtins }
variable {cl:List (Str×Addr)}
theorem zJl {M:Model}{A:Around}{E:vSP}{scope:Scope}{globals:Addr}{yc:Str}{env:Env}{Q:Env->Shared->Prop}(hcf:∀n acc,cellsFrom n scope.names acc=(yc,n)::acc)
 (hQ:∀h':Heap,h'.Ns s.heap.objs.size (fun _=>none)->(∀b o,s.heap.get? b=some o->h'.get? b=some o)->h'.IsCell (s.heap.objs.size+1) none ->
  Q (newEnv scope s.heap.objs.size globals ((yc,s.heap.objs.size+1)::cl) qual none .none (some env) builtinsNs) { s with heap:=h',toks:=s.toks }) :
 wpAny M A (newFunctionEnv scope globals cl [] qual none .none (some env)) Q E s:=by
 simp only[newFunctionEnv,Option.isSome_some,if_true]
 refine zA (wpAny_alloc ?_)
 refine zA (wpAny_layCells _ (fun name kind cells=>by cases hkc:kind==NameKind.cell <;> simp[hkc]) _ _ _ _ ?_)
 have ok:=cellsFrom_ok scope.names (s.heap.push { cls:=.type "dict",data:=.dict #[] }) (s.heap.objs.size+1) [] ⟨fun _ _ hm=>(nomatch hm),zBk⟩ (by rw[zAt];exact zK _)
 rw[zAt] at ok
 rw[show ({ s with heap:=s.heap.push { cls:=.type "dict",data:=.dict #[] } }:Shared).heap.objs.size=s.heap.objs.size+1 from zAt ..]
 rw[hcf] at ok ⊢
 refine zA ?_
 rw[List.forIn_nil]
 refine zF (zF ?_)
 exact hQ _ ((Heap.Ns.new s.heap (.type "dict")).keeps (pushCells_keeps _ _)) (fun b o e=>pushCells_keeps _ _ b o (zG _ e)) (ok.empty _ _ zV).1
noncomputable def zCQ (X:Cx)(pl:lPO)(N':List Str)(scope:Scope)(yc:Str)(fp:List Addr)(s3:Shared)(H3:Hp):Cx where
 prog:=X.prog
 w:=X.w
 K:=X.K
 mg:=X.mg
 base:=X.base
 A:=X.A
 N:=N'
 s₀:=s3
 H₀:=H3
 env:=zE1 scope yc (zCr X.env.cells scope.names []) s3.heap.objs.size X.env
 outer:=X.stack
 stack:=X.stack
 ex:=fp
 fn:=fun x=>x==yc
 calm:=X.calm
 pn:=pl
 xe:=fun _ _=>False
structure zDQ (X:Cx)(scope:Scope)(yc:Str):Prop where
 kind:scope.kind = .function
 cf:∀n acc,cellsFrom n scope.names acc=(yc,n)::acc
 own:scope.names.lookup yc=some .cell
 one:∀y∈scope.names,y.2 = .cell->y.1=yc
 names:∀y∈scope.names,y.2 = .local->scope.names.lookup y.1=some .local
 free:∀y∈scope.names,y.2 = .free->X.env.kindOf y.1=some .cell
section
variable {X:Cx}{pins:lPO}{σ:St}{H3:Hp}{s3:Shared}{scope:Scope}{fp:List Addr}{N' own cn:List Str}{ci:List Nat}{cv:List V}{yc:Str}
theorem look1 {n:Addr}(h:((yc,n)::cl).lookup x=some c):(x=yc/\c=n)\/(x≠yc/\cl.lookup x=some c):=by
 rw[zAu] at h
 cases hx:x==yc with
 | true=>rw[hx] at h;cases h;exact .inl ⟨by simpa using hx,rfl⟩
 | false=>rw[hx] at h;exact .inr ⟨by simpa using hx,h⟩
theorem zGd {n:Addr}(h:x≠yc):((yc,n)::cl).lookup x=cl.lookup x:=by
 rw[zAu,show (x==yc)=false by simpa using h]
theorem zFj (ok:X.Ok)(S:zDQ X scope yc){n:Addr}(h:(relabel scope X.env).names.lookup x=some .cell\/(relabel scope X.env).names.lookup x=some .free) :
 ∃c,((yc,n)::zCr X.env.cells scope.names []).lookup x=some c:=by
 by_cases hxy:x=yc
 . subst hxy
   exact⟨n,by rw[zAu,beq_self_eq_true]⟩
 rw[zGd hxy]
 have e:(relabel scope X.env).names.lookup x=(scope.names.lookup x).map fun k=>if (k==NameKind.free && X.env.scope.kind == .function && X.env.kindOf x==some .cell)=true then NameKind.cell else k:=zBl scope.names
 have hf:scope.names.lookup x=some .free:=by
  cases q:scope.names.lookup x with
  | none=>rw[e,q] at h;simp at h
  | some k=>
   by_cases hk:k = .free
   . rw[hk]
   . have hb:(k==NameKind.free)=false:=by simpa using hk
     rw[e,q] at h
     simp only[zAk,hb,Bool.false_and,zA2,if_false,Option.some.injEq] at h
     rcases h with h | h
     . exact absurd (S.one _ (PySem.mem_of_lookup q) h) hxy
     . exact absurd h hk
 exact zCo (ok.has x (.inl (S.free _ (PySem.mem_of_lookup hf) rfl))) scope.names [] (PySem.mem_of_lookup hf)
theorem zCn (I:Inv X pins σ H3 s3){n:Addr}(h:((yc,n)::zCr X.env.cells scope.names []).lookup x=some c):(x=yc/\c=n)\/(x≠yc/\X.env.cells.lookup x=some c/\c<s3.heap.objs.size):=by
 rcases look1 h with z | ⟨z,e⟩
 . exact .inl z
 . have e':=zCg e
   obtain⟨v,o,ho,_⟩:=I.cell x c e'
   exact .inr ⟨z,e',zX ho⟩
theorem zJ5 (I:Inv X pins σ H3 s3)(S:zDQ X scope yc)(f:∀b∈fp,zDF X pins H3 b)(fz:∀b∈fp,b<s3.heap.objs.size):(zCQ X (X.pn++pins) N' scope yc fp s3 H3).Ok where
 mod:=I.ok.mod
 kind:=S.kind
 glob:=I.ok.glob
 blt:=I.ok.blt
 above:=zK _
 inj:=fun x y c h1 h2=>by
  rcases zCn I h1 with ⟨a,b⟩ | ⟨a,b,d⟩ <;> rcases zCn I h2 with ⟨a',b'⟩ | ⟨a',b',d'⟩
  . rw[a,a']
  . rw[b] at d';exact absurd d' (Nat.not_lt.mpr (zAq _))
  . rw[b'] at d;exact absurd d (Nat.not_lt.mpr (zAq _))
  . exact I.ok.inj x y c b b'
 has:=fun x h=>zFj I.ok S h
 cab:=fun x c h e=>by
  have hx:x=yc:=by simpa using (show (x==yc)=true from h)
  rcases zCn I e with ⟨_,b⟩ | ⟨a,_⟩
  . rw[b];exact zAq _
  . exact absurd hx a
 hd:=I.ok.hd
 frames:=I.ok.frames
 stk:=.inl rfl
 exf:=fun b hb=>⟨zd (fz b hb),fun x c h=>by
  have:=fz b hb
  rcases zCn I h with ⟨_,d⟩ | ⟨_,d,_⟩
  . intro z
    rw[<-z,d] at this;exact absurd this (Nat.not_lt.mpr (zAq _))
  . exact (f b hb).2.2.2.2.1 x c d⟩
 bs:=I.bs
 bsz:=zAH I.ok.bsz I.sz
 noex:=fun b o e hb=>by
  rcases (f b hb).2.2.2.1 with z | z
  . exact I.ok.noex b o e z
  . exact absurd (zo (zX e) (zAH I.ok.bsz z)) (zBo _)
 exfs:=fun b hb z=>by
  rcases zi.mp (I.stkSub b z) with q | q
  . exact (f b hb).2.1 q
  . exact (f b hb).2.2.1 q
 funs:=I.stack
 frf:=I.stkFree
theorem zIt {h1:Heap}{t:Nat}(I:Inv X pins σ H3 s3)(S:zDQ X scope yc)(f:∀b∈fp,zDF X pins H3 b)(fz:∀b∈fp,b<s3.heap.objs.size)
 (hN:N'=own++cn)(hc:zEC X scope cn ci)(hv:ci.map (fun j=>σ[j]?)=cv.map fun v=>some (some v))(hl:cn.length=ci.length)
 (hns:h1.Ns s3.heap.objs.size (fun _=>none))(hk:∀b o,s3.heap.get? b=some o->h1.get? b=some o)(hcl:h1.IsCell (s3.heap.objs.size+1) none) :
 Inv (zCQ X (X.pn++pins) N' scope yc fp s3 H3) [] (List.replicate own.length none++cv.map some) H3 { s3 with heap:=h1,toks:=t }:=by
 have lenv:cv.length=ci.length:=by
  have:=congrArg List.length hv
  simpa using this.symm
 refine⟨zJ5 I S f fz,rfl,I.bare,Un.kept hk,⟨_,hns,fun i x v e1 e2 e3=>?_⟩,fun x c e=>?_,I.hok.fresh (zK _),fun x c e=>?_,fun p hp=>?_,I.hok.kept hk,?_⟩
 . -- a captured name
   have hi:own.length<=i:=by
    by_cases hi:own.length<=i
    . exact hi
    . rw[zW (by simpa using hi),zBJ] at e2
      split at e2 <;> cases e2
   rw[zQ (by simpa using hi),zAB,zM] at e2
   have e1':(own++cn)[i]? = some x:=by rw[<-hN];exact e1
   rw[zQ hi] at e1'
   obtain⟨j,hj,hNj,hkx,hfr⟩:=hc.get e1'
   have hcv:cv[i-own.length]? = some v:=by
    cases q:cv[i-own.length]? with
    | none=>rw[q] at e2;cases e2
    | some v'=>rw[q] at e2;cases e2;rfl
   have hσ:σ[j]? = some (some v):=by
    have:=congrArg (fun l:List (Option (Option V))=>l[i-own.length]?) hv
    simp only[zM,hj,hcv,zAk,Option.some.injEq] at this
    exact this
   obtain⟨m,_,hl'⟩:=I.loc
   obtain⟨u,r,q⟩:=hl' j x v hNj hσ (.inr (.inl hkx))
   have hkd:(relabel scope X.env).names.lookup x=some .cell\/(relabel scope X.env).names.lookup x=some .free:=by
    have e:(relabel scope X.env).names.lookup x=(scope.names.lookup x).map fun k=>if (k==NameKind.free && X.env.scope.kind == .function && X.env.kindOf x==some .cell)=true then NameKind.cell else k:=zBl scope.names
    rw[e,hfr,zAk]
    by_cases cc:(NameKind.free==NameKind.free && X.env.scope.kind == .function && X.env.kindOf x==some .cell)=true
    . rw[if_pos cc];exact .inl rfl
    . rw[if_neg cc];exact .inr rfl
   obtain⟨c',hc'⟩:=zFj (n:=s3.heap.objs.size+1) I.ok S hkd
   have hxy:x≠yc:=fun z=>by rw[z,S.own] at hfr;cases hfr
   refine⟨u,r,.inr ⟨hkd,c',hc',?_⟩⟩
   rcases q with ⟨z,_⟩ | ⟨_,c,hcc,o,ho,hd⟩
   . rw[hkx] at z;cases z
   . have e:c=c':=zY (hcc.symm.trans (zCg ((zGd hxy).symm.trans hc')))
     subst e
     exact⟨o,hk c o ho,hd⟩
 . rcases zCn I e with ⟨_,d⟩ | ⟨_,d,_⟩
   . rw[d];exact⟨_,hcl⟩
   . obtain⟨v,o,ho,hd⟩:=I.cell x c d
     exact⟨v,o,hk c o ho,hd⟩
 . rcases zCn I e with ⟨_,d⟩ | ⟨_,d,_⟩
   . rw[d];exact I.hok.fresh (zAq _)
   . exact I.freeC x c d
 . have hp':p∈X.pn++pins:=by rw[zr] at hp;exact hp
   obtain⟨e,n,ne,nf,d⟩:=I.pin p hp'
   refine⟨hk _ _ e,n,zd (zX e),fun z=>?_,d⟩
   rcases zi.mp (I.stkSub p.1 z) with q | q
   . exact ne q
   . exact nf q
 . show (List.replicate own.length none++cv.map some).length=N'.length
   rw[hN,zL,zL,zAB,zC,lenv,hl]
theorem zHP {elt target iter:Expr}{ifs:List Expr}{cpos:Pos}{wi:TI}{g:TG}{ti:TT}{te:TE}{use:Option (Value->Sem Unit)}{Q0:vSP}{Q:VK}(hcalm:X.calm=true)(S:zDQ X scope yc)(hc:zEC X scope cn ci)(hl:cn.length=ci.length)
 (hi:PI X target iter wi)(hg:∀pl fp s3 H3,PG (zCQ X pl (own++cn) scope yc fp s3 H3) target g)(ht:∀pl fp s3 H3,PTs (zCQ X pl (own++cn) scope yc fp s3 H3) ifs ti)
 (he:∀pl fp s3 H3,PE (zCQ X pl (own++cn) scope yc fp s3 H3) elt te)(hs:∀x,foldedSetIterable iter X.env x=pure x)(I:Inv X pins σ H s)(h:zHd own.length ci wi g ti te σ H Q)
 (fin:∀(D C:Addr)(H5:Hp)(s6:Shared)(m6:sOV),Inv X pins σ H5 s6->s6.heap.Ns C m6->H5 C=none->C≠X.env.locals->X.s₀.heap.objs.size<=C->(∀x c,X.env.cells.lookup x=some c->c≠C) ->
  (∀p∈X.pn++pins,p.1≠C)->Q (.ref D) H5->compPost (model X.prog X.w) X.A X.xe use Q0 (.ref D) C (.ok .next) s6) :
 wpAny (model X.prog X.w) X.A (comprehension (.ListComp elt [⟨target,iter,ifs,0⟩] scope pos) scope X.env cpos (newList []) false (eval iter X.env) use) Q0 X.xe s:=by
 have hcl:closureFor scope X.env=pure (zCr X.env.cells scope.names []):=zCW fun y hy hf=>I.ok.has y.1 (.inl (S.free y hy hf))
 refine wpAny_comprehension_free (use:=use) rfl hs hcl S.kind S.names ?_
 refine thn (hi pins s σ H _ I h) fun v s1 h1=>thn h1 fun itv s2 h2=>?_
 obtain⟨it,fp,tn,J,H2,e,I2,T,st2,f2,cv,hv,hD⟩:=h2
 subst e
 have lenv:cv.length=ci.length:=by
  have:=congrArg List.length hv
  simpa using this.symm
 have I3:=I2.lnew (ys:=[]) (its:=[]) (t':=s2.toks) .nil (ze _)
 obtain⟨W,⟨m0,w0⟩,turn⟩:=hD s2.heap.objs.size I2.fresh
 have fz:∀b∈fp,b<s2.heap.objs.size:=fun b hb=>by
  obtain⟨o,ho,_⟩:=T.obj _ _ st2 b hb
  exact zX ho
 refine zAn ?_
 refine zJl S.cf (fun h4 hns4 hk4 hc4=>?_)
 generalize hs3:({ s2 with heap:=s2.heap.push { cls:=.type "list",dict:=none,data:=.seq ([]:List Value).toArray } }:Shared)=s3 at hns4 hk4 hc4 ⊢
 have I3':Inv X pins σ (upd H2 s2.heap.objs.size (.lst [])) s3:=by rw[<-hs3];exact I3
 have hsz3:s3.heap.objs.size=s2.heap.objs.size+1:=by rw[<-hs3];exact zAt ..
 have k23:∀b o,s2.heap.get? b=some o->s3.heap.get? b=some o:=fun b o e=>by rw[<-hs3];exact zG _ e
 have k34:∀b o,s3.heap.get? b=some o->h4.get? b=some o:=hk4
 have nD:∀b∈fp,b≠s2.heap.objs.size:=fun b hb=>zd (fz b hb)
 have f3:∀b∈fp,zDF X pins (upd H2 s2.heap.objs.size (.lst [])) b:=fun b hb=>⟨by rw[za (nD b hb)];exact (f2 b hb).1,(f2 b hb).2⟩
 have fz3:∀b∈fp,b<s3.heap.objs.size:=fun b hb=>by rw[hsz3];exact zAo (fz b hb)
 have I4:Inv (zCQ X (X.pn++pins) (own++cn) scope yc fp s3 (upd H2 s2.heap.objs.size (.lst []))) [] (List.replicate own.length none++cv.map some) (upd H2 s2.heap.objs.size (.lst [])) { s3 with heap:=h4,toks:=s3.toks }:=
  zIt I3' S f3 fz3 rfl hc hv hl hns4 k34 hc4
 have st4:tn 0 h4:=T.keep _ _ _ st2 fun b hb o e=>k34 b o (k23 b o e)
 generalize hX:zCQ X (X.pn++pins) (own++cn) scope yc fp s3 (upd H2 s2.heap.objs.size (.lst []))=X' at I4
 have hg':PG X' target g:=by rw[<-hX];exact hg _ _ _ _
 have ht':PTs X' ifs ti:=by rw[<-hX];exact ht _ _ _ _
 have he':PE X' elt te:=by rw[<-hX];exact he _ _ _ _
 have ePr:X'.prog=X.prog:=by rw[<-hX];rfl
 have eW:X'.w=X.w:=by rw[<-hX];rfl
 have eK:X'.K=X.K:=by rw[<-hX];rfl
 have eA:X'.A=X.A:=by rw[<-hX];rfl
 have eE:X'.env=zE1 scope yc (zCr X.env.cells scope.names []) s3.heap.objs.size X.env:=by rw[<-hX];rfl
 have eXe:X'.xe=fun _ _=>False:=by rw[<-hX];rfl
 have eC:X'.calm=true:=by rw[<-hX];exact hcalm
 have eex:X'.ex=fp:=by rw[<-hX];rfl
 have epn:X'.pn=X.pn++pins:=by rw[<-hX];rfl
 have es0:X'.s₀=s3:=by rw[<-hX];rfl
 have eH0:X'.H₀=upd H2 s2.heap.objs.size (.lst []):=by rw[<-hX];rfl
 have efs:X'.fs=frs X.stack:=by rw[<-hX];rfl
 have ok':=I4.ok
 have stat:∀{H':Hp},(∀b∈fp,H' b=none)->∀b∈fp,zDF X' [] H' b:=fun hn b hb=>by
  have hb':b∈X'.ex:=by rw[eex];exact hb
  refine⟨hn b hb,(ok'.exf b hb').1,ok'.exfs b hb',.inl hb',(ok'.exf b hb').2,fun p hp=>?_⟩
  rw[epn,zr] at hp
  exact (f2 b hb).2.2.2.2.2 p hp
 have wk:∀(σ2:St),(σ2.length=own.length+cv.length/\σ2.drop own.length=cv.map some)->∀{pl:lPO}{H':Hp}{s':Shared},Inv X' pl σ2 H' s'->Inv X' pl (List.replicate own.length none++cv.map some) H' s':=fun σ2 hq pl H' s' I'=>by
  refine I'.weak (by rw[hq.1,zL,zAB,zC]) fun i v hi=>?_
  by_cases hlt:i<own.length
  . rw[zW (by simpa using hlt),zBJ] at hi
    split at hi <;> cases hi
  . rw[zQ (by simpa using hlt),zAB,<-hq.2,List.getElem?_drop] at hi
    rw[show own.length+(i-own.length)=i by omega] at hi
    exact hi
 have loop:codeAny (model X.prog X.w) X.A (.compLoop (.ListComp elt [⟨target,iter,ifs,0⟩] scope pos) 0 (.ref it) (.ref s2.heap.objs.size) (zE1 scope yc (zCr X.env.cells scope.names []) s3.heap.objs.size X.env))
  (compPost (model X.prog X.w) X.A X.xe use Q0 (.ref s2.heap.objs.size) s3.heap.objs.size) { s3 with heap:=h4,toks:=s3.toks }:=by
  refine zDW (fun n s'=>∃i ys H',Inv X' [] (List.replicate own.length none++cv.map some) H' s'/\tn i s'.heap/\(∀b∈fp,H' b=none)/\W i n ys H') ?_ m0
   ⟨0,[],_,I4,st4,fun b hb=>(f3 b hb).1,w0⟩
  rintro n s5 ⟨i,ys,H5,I5,st5,fr5,w5⟩
  rcases turn i n ys H5 w5 with ⟨stop,qn⟩ | ⟨go,hsz,N,hN,step⟩
  . have d:=T.done X' ePr eW eK eC i [] s5 _ H5 (fun _ _=>False) I5 (stat fr5) st5 stop
    rw[eA] at d
    refine thn d fun r s6 ⟨hr,I6⟩=>?_
    subst hr
    obtain⟨m6,hn6,_⟩:=I6.loc
    rw[eE] at hn6
    have hn6':s6.heap.Ns s3.heap.objs.size m6:=hn6
    have un6:Un (frs X.stack) fp (upd H2 s2.heap.objs.size (.lst [])) H5 s3.heap s6.heap:=by
     have b6:=I6.base
     rw[efs,eex,eH0,es0] at b6
     exact b6
    have os6:s6.os=s3.os:=by have o6:=I6.os;rw[es0] at o6;exact o6
    have hok6:HOk X.prog X.w H5 s6.heap:=by have o6:=I6.hok;rw[ePr,eW] at o6;exact o6
    have I7:Inv X pins σ H5 s6:=I3'.call' (ch:=fp) os6 un6 hok6 I6.bare fun b hb=>⟨(f2 b hb).2.2.2.1,(f2 b hb).2.1,(f2 b hb).2.2.2.2.1,(f2 b hb).2.2.2.2.2⟩
    have fr6:H5 s3.heap.objs.size=none:=by
     have q:=I6.free
     rw[eE] at q
     exact q
    refine fin s2.heap.objs.size s3.heap.objs.size H5 s6 m6 I7 hn6' fr6 (Nat.ne_of_gt I3'.lt) I3'.sz (fun x c e=>?_) (fun p hp=>?_) qn
    . obtain⟨_,o,ho,_⟩:=I3'.cell x c e
      exact zd (zX ho)
    . exact zd (zX (I3'.pin p hp).1)
  . have d:=T.item X' ePr eW eK eC i [] s5 _ H5 (fun _ _=>False) I5 (stat fr5) st5 go
    rw[eA] at d
    refine thn d fun r s6 ⟨u,hr,h6⟩=>?_
    subst hr
    refine thn h6 fun _ s7 ⟨x,H7,I7,r7,y7,st7,fr7⟩=>?_
    have I7':=I7.pinned (stat fr7) (T.obj _ _ st7)
    have g7:=hg' _ s7 _ H7 x u _ I7' r7 (step x H7 y7)
    rw[ePr,eW,eA,eE,eXe] at g7
    refine thn g7 fun _ s8 ⟨σ8,H8,I8,q8,ti8⟩=>?_
    have t8:=ht' _ s8 σ8 H8 _ I8 ti8
    rw[ePr,eW,eA,eE,eXe] at t8
    refine thn t8 fun ok s9 ⟨H9,I9,q9⟩=>?_
    have again:∀{ys':List V}{H':Hp}{s':Shared},Inv X' ([]++zES fp s7.heap) σ8 H' s'->N ys' H' ->
     ∃m,m<n/\∃i ys H',Inv X' [] (List.replicate own.length none++cv.map some) H' s'/\tn i s'.heap/\(∀b∈fp,H' b=none)/\W i m ys H':=fun {ys' H' s'} I' n'=>by
     obtain⟨m',hm,w'⟩:=hN ys' H' n'
     refine⟨m',hm,i+1,ys',H',(wk σ8 q8 I').unpinned,T.keep _ _ _ st7 fun b hb o e=>(I'.pin (b,o) (zg _ (zg _ (zCJ hb e)))).1,fun b hb=>?_,w'⟩
     obtain⟨o,e,_⟩:=T.obj _ _ st7 b hb
     exact (I'.pin (b,o) (zg _ (zg _ (zCJ hb e)))).2.1
    cases ok with
    | false=>exact again I9 q9
    | true=>
     have e9:=he' _ s9 σ8 H9 _ I9 q9
     rw[ePr,eW,eA,eE,eXe] at e9
     refine thn e9 fun u10 s10 ⟨y,H10,I10,r10,hD10,n10⟩=>?_
     have a10:=zBx (X:=X') _ s10 σ8 H10 (.ref s2.heap.objs.size) [y] (.ref s2.heap.objs.size) [u10] (fun _ H'=>N (ys++[y]) H') I10 rfl (.cons r10 .nil) ⟨_,_,_,rfl,rfl,hD10,hsz,n10⟩
     rw[ePr,eW,eA,eXe] at a10
     exact thn a10 fun _ s11 ⟨_,H11,I11,_,n11⟩=>again I11 n11
 exact codeAny_compStart_list loop (T.self X.A 0 _ _ _ st4 loop)
theorem zJZ {elt target iter:Expr}{ifs:List Expr}{pos pos' cpos:Pos}{wi:TI}{g:TG}{ti:TT}{te:TE}{i:Nat}{x:Str}(hN:X.N.Nodup)(hix:X.N[i]? = some x)(hx:Loc X.env.scope x)(hcalm:X.calm=true)(S:zDQ X scope yc)(hc:zEC X scope cn ci)(hl:cn.length=ci.length)
 (hi:PI X target iter wi)(hg:∀pl fp s3 H3,PG (zCQ X pl (own++cn) scope yc fp s3 H3) target g)(ht:∀pl fp s3 H3,PTs (zCQ X pl (own++cn) scope yc fp s3 H3) ifs ti)
 (he:∀pl fp s3 H3,PE (zCQ X pl (own++cn) scope yc fp s3 H3) elt te)(hs:∀x,foldedSetIterable iter X.env x=pure x:=by intro _;rfl)
 (hsw:swapsWith (.ListComp elt [⟨target,iter,ifs,0⟩] scope cpos) (some (.Name x pos')) pos.line X.env=pure true:=by rfl)
 (hf:X.fn x=true\/X.env.scope.names.lookup x=some .local:=by first | exact .inl rfl | exact .inr rfl | assumption) :
 PS X (.Assign [.Name x pos'] (.ListComp elt [⟨target,iter,ifs,0⟩] scope cpos) pos) (tAsg (zHd own.length ci wi g ti te) (zHJ i)):=by
 intro pins s σ H D I h
 rw[exec_Assign_Name_used _ _ _ _ hsw]
 refine zA (zBn (zA ?_))
 show wpAny _ X.A (do let _ <-comprehension (.ListComp elt [⟨target,iter,ifs,0⟩] scope cpos) scope X.env _ (newList []) false (eval iter X.env) (some (assign (.Name x pos') X.env))) _ _ s
 refine zA (zAM (zHP (use:=some (assign (.Name x pos') X.env)) (Q0:=fun _ s'=>SP X pins D .next s') hcalm S hc hl hi hg ht he hs I h (fun D' C H5 s6 m6 I7 hn fr nL ge nC nP q=>?_)) (fun _ s' hq=>zF (zF hq)) fun _ _ e=>e)
 obtain⟨oC,es,ep,hoC,hd,r1⟩:=hn
 have nf:C∉X.fs:=fun hb=>by
  obtain⟨_,o,ho,_⟩:=I7.ok.funs.mem hb
  exact absurd (zo (zX ho) ge) (zBo _)
 have I7':Inv X (pins++[(C,oC)]) σ H5 s6:=I7.pins_of fun p hp=>by
  rcases zm.mp hp with z | z
  . exact I7.pin p (zg _ z)
  . rw[zf.mp z]
    exact⟨hoC,fr,nL,nf,fun v e=>by rw[hd] at e;cases e⟩
 show wpAny _ X.A (assign (.Name x pos') X.env (.ref D')) _ _ s6
 refine wpAny_assign_Name (zCz I7' hN hix hx (show zBQ (.ref D') (.ref D') from rfl) (fun s' I'=>?_) hf)
 have hC':=(I'.pin (C,oC) (zg _ (zg _ (zf.mpr rfl)))).1
 refine⟨m6,⟨oC,es,ep,hC',hd,r1⟩,fun h' hs'=>⟨_,H5,?_,q⟩⟩
 have I2:Inv X pins (σ.set i (some (.ref D'))) H5 s':=I'.pins_of fun p hp=>I'.pin p (zg _ (zAE _ hp))
 exact I2.turned (t':=s'.toks) (it:=C) (fun b o hb e=>hs'.extBut b o hb e) fr nL (.inr ge) nC nP
end
noncomputable def cscOk1 (outer inner:Scope)(yc:Str):Bool:=inner.names.all fun y=>(y.2 != .cell || y.1==yc) && (y.2 != .local || inner.names.lookup y.1==some .local) && (y.2 != .free || outer.names.lookup y.1==some .cell)
theorem csc1 {X:Cx}{scope:Scope}{yc:Str}(hk:scope.kind = .function)(hcf:∀n acc,cellsFrom n scope.names acc=(yc,n)::acc)(ho:scope.names.lookup yc=some .cell)(h:cscOk1 X.env.scope scope yc=true):zDQ X scope yc:=by
 have a:=zAv.mp h
 refine⟨hk,hcf,ho,fun y hy e=>?_,fun y hy e=>?_,fun y hy e=>?_⟩
 . have:=a y hy
   rw[e] at this
   simpa using this
 . have:=a y hy
   rw[e] at this
   simpa using this
 . have:=a y hy
   rw[e] at this
   have h2:X.env.scope.names.lookup y.1=some .cell:=by simpa using this
   exact h2
noncomputable def zKf (ta:TA):TE:=fun σ H Q=>ta σ H fun vs H1=>∃j:Int,vs=[.int j]/\0<=j/\j<=1000/\∀l,H1 l=none->Q (.ref l) (upd H1 l (.lst ((WM.lowTo j.toNat).map V.int)))
theorem zJG:∀(vs:List Value)(n:Nat),vs.length=n->(∀(j:Nat)(v:Value),vs[j]? = some v->∃t,v = .int (0+(j:Int)*1) t)->zBE ((WM.lowTo n).map V.int) vs:=by
 have key:∀(vs:List Value)(a:Nat),(∀(j:Nat)(v:Value),vs[j]? = some v->∃t,v = .int ((a+j:Nat):Int) t)->zBE ((List.range' a vs.length).map fun (i:Nat)=>V.int (i:Int)) vs:=by
  intro vs
  induction vs with
  | nil=>intro _ _;exact .nil
  | cons v r ih=>
   intro a h
   obtain⟨t,ht⟩:=h 0 v rfl
   rw[zp,List.range'_succ,zAV]
   refine .cons ⟨t,by rw[ht];rfl⟩ (ih (a+1) fun j u hj=>?_)
   obtain⟨t',ht'⟩:=h (j+1) u hj
   exact⟨t',by rw[ht'];congr 1;omega⟩
 intro vs n e h
 subst e
 have:=key vs 0 fun j v hj=>by
  obtain⟨t,ht⟩:=h j v hj
  exact⟨t,by rw[ht];congr 1;omega⟩
 unfold WM.lowTo
 rw[List.map_map,List.range_eq_range']
 exact this
section
variable {X:Cx}
theorem zIA {a:Expr}{ta:TA}{p1 p2 pos1 pos2:Pos}(hc:X.calm=true)(hgL:Gl X "list") (hmL:X.mg "list" = none) (hgR:Gl X "range") (hmR:X.mg "range" = none) (ha:PA X [a] ta)(hs:starEach [a] X.env=[(false,eval a X.env)]:=by rfl)
 (he:starEach [.Call (.Name "range" p2) [a] [] pos2] X.env=[(false,eval (.Call (.Name "range" p2) [a] [] pos2) X.env)]:=by rfl):PE X (.Call (.Name "list" p1) [.Call (.Name "range" p2) [a] [] pos2] [] pos1) (zKf ta):=by
 intro pins s σ H Q I h
 refine zA0 (zCe I hgL hmL (by decide +kernel:bootBuiltins "list" = some (.type "list")) ?_ (by decide) (by decide))
 refine PyProof.Rows.callWith_type1 ?_ he rfl
 rw[he]
 refine Calls.spliced_cons ?_
 refine Call_ (zCe I hgR hmR boot_range (PyProof.Rows.callWith_type1 (thn (ha pos2 pins s σ H _ I h) fun us s1 ⟨vs,H1,I1,r1,q1⟩=>?_) hs rfl))
 obtain⟨j,e,h0,h1,q⟩:=q1
 subst e
 cases r1 with
 | cons r rr=>
  cases rr
  obtain⟨t,rfl⟩:=r
  refine call_range_1 ?_
  refine Calls.spliced_nil ?_
  have hz:Builtin.Range.rangeSize 0 j 1=(j.toNat:Int):=by rw[rangeSize_one];split <;> omega
  refine call_list_range (I.ok.hd hc) (IsRange.new ..) (small_one (by omega) (by omega) (by omega) (by omega)) hz (by omega) fun h' tk acc c' kp hD hI=>?_
  have kp1:∀b o,s1.heap.get? b=some o->h'.get? b=some o:=fun b o e=>kp b o (zG _ e)
  have rv:zBE ((WM.lowTo j.toNat).map V.int) acc.toList:=zJG acc.toList _ (by rw[Array.length_toList];exact hI.1) fun i v hi=>hI.2 i v (by rw[<-hi,Array.getElem?_toList])
  have hsz:s1.heap.objs.size<=(s1.heap.push { cls:=.type "range",data:=.fields #[.int 0 s1.toks,.int j t,.int 1 (s1.toks+1)] }).objs.size:=by rw[zAt];exact zAq _
  refine⟨.ref _,_,I1.laid (t':=tk) kp1 hsz (show zBI X.prog X.w _ h' _ (.lst ((WM.lowTo j.toNat).map V.int)) from ⟨?_,acc.toList,c',rv,by rw[Array.toArray_toList];exact hD⟩),rfl,q _ (I1.hok.fresh hsz)⟩
  rw[zC,WM.lowTo,zC,zAQ]
  have:sizeLine=16777216:=rfl
  omega
end
section
variable {X:Cx}
noncomputable def rNeE (K:PySem.W.Frag):R2:=fun x y H Q=>∃(a b:Addr)(xs:List V),x = .ref a/\y = .ref b/\SqL K H a xs/\SqL K H b []/\Q (.bl (!xs.isEmpty)) H
theorem op_neE (hu:X.A.units<cLine):OpR X (compareOp .NotEq) (rNeE X.K):=by
 intro pins s σ H x y v u Q I rx ry h
 obtain⟨a,b,xs,rfl,rfl,ha,hb,q⟩:=h
 cases rx
 cases ry
 obtain⟨its,r,pl,hz⟩:=I.list ha
 obtain⟨its2,r2,pl2,hz2⟩:=I.list hb
 have l1:=r.length
 have l2:=r2.length
 cases xs with
 | nil=>
  refine PySem.EqBoolInt.of_rcne (SeqAt.RcNeAt.lists (e:=fun _=>true) pl.isList pl2.isList (by rw[zT,zT,<-l1,<-l2]) hu (fun j a b=>absurd a (by rw[zT,<-l1];exact zBB _))) ⟨.bl _,H,I,rfl,?_⟩
  rw[zT,<-l1]
  exact q
 | cons x xs=>
  refine PySem.EqBoolInt.of_rcne (SeqAt.RcNeAt.lists_lengths pl.isList pl2.isList (by rw[zT,zT,<-l1,<-l2];rfl) hu) ⟨.bl _,H,I,rfl,?_⟩
  exact q
end
end L2
namespace L2
open PySem PyProof.Rows
noncomputable def Kp (s0:Shared)(h:Heap):Prop:=∀b o,s0.heap.get? b=some o->h.get? b=some o
structure MinIt (prog:Program)(w:World)(A:Around)(s0:Shared)(I:Addr)(its:List Value)(itAt:Nat->Heap->Prop):Prop where
 stay:∀j h h',itAt j h->h'.get? I=h.get? I->itAt j h'
 next:∀(j:Nat)(h:Heap)(tk:Nat)(v:Value)(Q:Option Value->Shared->Prop)(E:vSP),Kp s0 h->itAt j h->its[j]? = some v ->
  (∀h',itAt (j+1) h'->(∀b,b≠I->h'.get? b=h.get? b)->Q (some v) { s0 with heap:=h',toks:=tk })->wpAny (model prog w) A (pyNext (.ref I)) Q E { s0 with heap:=h,toks:=tk }
 fin:∀(j:Nat)(h:Heap)(tk:Nat)(Q:Option Value->Shared->Prop)(E:vSP),Kp s0 h->itAt j h->its[j]? = none ->
  (∀h',(∀b o,b≠I->h.get? b=some o->h'.get? b=some o)->Q none { s0 with heap:=h',toks:=tk })->wpAny (model prog w) A (pyNext (.ref I)) Q E { s0 with heap:=h,toks:=tk }
section
variable {prog:Program}{w:World}{A:Around}{s0:Shared}{I S:Addr}{its:List Value}{itAt:Nat->Heap->Prop}
theorem Kp.upd {h:Heap}{f:Obj->Obj}(K:Kp s0 h)(hS:s0.heap.objs.size<=S):Kp s0 (h.update S f):=fun b o e=>by
 rw[zAX _ _ _ _ (zd (zo (zX e) hS))];exact K b o e
theorem Kp.but {h h':Heap}(K:Kp s0 h)(hI:s0.heap.objs.size<=I)(k:∀b o,b≠I->h.get? b=some o->h'.get? b=some o):Kp s0 h':=fun b o e=>
 k b o (zd (zo (zX e) hI)) (K b o e)
theorem zIP {R:Result->Shared->Prop}{kw:List (Str×Value)}(M:MinIt prog w A.in1 s0 I its itAt)(bt:Nat->Nat->Bool)(hS:s0.heap.objs.size<=S)(hI:s0.heap.objs.size<=I)(hSI:S≠I)
 (cmp:∀(i j:Nat)(vi vj:Value)(h:Heap)(tk:Nat)(Q E:vSP),Kp s0 h->its[i]? = some vi->its[j]? = some vj->Q (.bool (bt i j)) { s0 with heap:=h,toks:=tk }->wpAny (model prog w) A.in1 (richCompare .Lt vi vj) Q E { s0 with heap:=h,toks:=tk })
 (hR:∀(v:Value)(h:Heap)(tk:Nat),its[argBest bt (its.length-1)]? = some v->Kp s0 h->R (.ok (.ret v)) { s0 with heap:=h,toks:=tk })
 : ∀(r j:Nat)(h:Heap)(tk:Nat)(vb:Value)(c:Nat),its.length-(j+1)=r->j+1<=its.length->Kp s0 h->itAt (j+1) h->its[argBest bt j]? = some vb ->
  h.get? S=some { cls:=.type "list",data:=.seq #[vb,vb] c }->codeAny (model prog w) A (.builtin "min.loop" { pos:=[.ref I,.none,.ref S],kw:=kw }) R { s0 with heap:=h,toks:=tk }:=by
 intro r
 induction r with
 | zero=>
  intro j h tk vb c hr hj K hit hv hSo
  refine codeAny_builtin PySem.F.entry_min_loop ?_
  unfold Builtin.«min.loop»
  refine zA (zBf hSo rfl ?_)
  dsimp only
  refine zA (wpAny_tryCatch (M.fin (j+1) h tk _ _ K hit (zAK (by omega)) fun h' k=>?_))
  have hS':=k S _ hSI hSo
  refine zA (wpAny_updateSeq hS' rfl (zA (wpAny_letGo (zF ?_))) (by show 2<=sizeLine;decide) (by show 0<=sizeLine+1;decide))
  refine hR vb _ tk ?_ ((K.but hI k).upd hS)
  rw[show its.length-1=j by omega];exact hv
 | succ r ih=>
  intro j h tk vb c hr hj K hit hv hSo
  obtain⟨x,hx⟩:∃x,its[j+1]? = some x:=⟨_,zB (by omega)⟩
  refine codeAny_builtin PySem.F.entry_min_loop ?_
  unfold Builtin.«min.loop»
  refine zA (zBf hSo rfl ?_)
  dsimp only
  refine zA (wpAny_tryCatch (M.next (j+1) h tk x _ _ K hit hx fun h' hit' k=>?_))
  have K':Kp s0 h':=K.but hI fun b o hb e=>by rw[k b hb];exact e
  have hS':h'.get? S=some { cls:=.type "list",data:=.seq #[vb,vb] c }:=by rw[k S hSI];exact hSo
  refine zA (zF ?_)
  refine zA (wpAny_tryCatch (zAN (zA (cmp (j+1) (argBest bt j) x vb h' tk _ _ K' hx hv ?_))))
  refine zA (zAN (zA7 (zA (wpAny_letGo (zF ?_)))))
  have eb:argBest bt (j+1)=if bt (j+1) (argBest bt j)=true then j+1 else argBest bt j:=argBest.eq_2 bt j
  cases e:bt (j+1) (argBest bt j) with
  | true=>
   rw[if_pos e] at eb
   refine zA (wpAny_updateSeq hS' rfl (zA (wpAny_letGo (zF ⟨rfl,?_⟩))) (by show 2<=sizeLine;decide) (by show 2<=sizeLine+1;decide))
   exact ih (j+1) _ tk x c (by omega) (by omega) (K'.upd hS) (M.stay _ _ _ hit' (zAX _ _ _ _ (Ne.symm hSI))) (by rw[eb];exact hx) (zAc _ hS' rfl)
  | false=>
   rw[e,if_neg (by decide)] at eb
   refine zA (wpAny_letGo (zF ⟨rfl,?_⟩))
   exact ih (j+1) h' tk vb c (by omega) (by omega) K' hit' (by rw[eb];exact hv) hS'
theorem zEU {R:Result->Shared->Prop}{d:Value}(M:MinIt prog w A.in1 s0 I its itAt)(bt:Nat->Nat->Bool)(hS:s0.heap.objs.size<=S)(hI:s0.heap.objs.size<=I)(hSI:S≠I)
 (cmp:∀(i j:Nat)(vi vj:Value)(h:Heap)(tk:Nat)(Q E:vSP),Kp s0 h->its[i]? = some vi->its[j]? = some vj->Q (.bool (bt i j)) { s0 with heap:=h,toks:=tk }->wpAny (model prog w) A.in1 (richCompare .Lt vi vj) Q E { s0 with heap:=h,toks:=tk })
 (hR:∀(v:Value)(h:Heap)(tk:Nat),its[argBest bt (its.length-1)]? = some v->Kp s0 h->R (.ok (.ret v)) { s0 with heap:=h,toks:=tk })
 (h0:its=[]->∀(h:Heap)(tk:Nat),Kp s0 h->R (.ok (.ret d)) { s0 with heap:=h,toks:=tk })
 (h:Heap)(tk:Nat)(c:Nat)(K:Kp s0 h)(hit:itAt 0 h)(hSo:h.get? S=some { cls:=.type "list",data:=.seq #[] c }) :
 codeAny (model prog w) A (.builtin "min.loop" { pos:=[.ref I,.none,.ref S],kw:=[(Str.ofString "default",d)] }) R { s0 with heap:=h,toks:=tk }:=by
 refine codeAny_builtin PySem.F.entry_min_loop ?_
 unfold Builtin.«min.loop»
 refine zA (zBf hSo rfl ?_)
 dsimp only
 cases e:its with
 | nil=>
  subst e
  refine zA (wpAny_tryCatch (M.fin 0 h tk _ _ K hit rfl fun h' k=>?_))
  exact zA (wpAny_rule (zF (h0 rfl h' tk (K.but hI k))))
 | cons x xs=>
  have hx:its[0]? = some x:=by rw[e];rfl
  refine zA (wpAny_tryCatch (M.next 0 h tk x _ _ K hit hx fun h' hit' k=>?_))
  have K':Kp s0 h':=K.but hI fun b o hb e=>by rw[k b hb];exact e
  have hS':h'.get? S=some { cls:=.type "list",data:=.seq #[] c }:=by rw[k S hSI];exact hSo
  refine zA (zF ?_)
  refine zA (wpAny_updateSeq hS' rfl (zF ⟨rfl,?_⟩) (by show 0<=sizeLine;decide) (by show 2<=sizeLine+1;decide))
  refine zIP M bt hS hI hSI cmp hR (its.length-1) 0 _ tk x (c+1) rfl (by rw[e];simp) (K'.upd hS) (M.stay _ _ _ hit' (zAX _ _ _ _ (Ne.symm hSI))) hx (zAc _ hS' rfl)
end
variable {A:Around}{s:Shared}
theorem wpAny_of_eq {α:Type}{M:Model}{E:vSP}{m m':Sem α}{Q:α->Shared->Prop}(e:m=m')(h:wpAny M A m' Q E s):wpAny M A m Q E s:=by subst e;exact h
theorem zD8 {O:KeyOrd}(ky:Nat->O.α):∀k,argBest (fun i j=>O.blt (ky i) (ky j)) k<=k/\∀j,j<=k->O.blt (ky j) (ky (argBest (fun i j=>O.blt (ky i) (ky j)) k))=false
 | 0=>⟨zK _,fun j hj=>by obtain rfl:j=0:=(by omega);exact O.irrefl _⟩
 | k+1=>by
  obtain⟨h1,h2⟩:=zD8 ky k
  rw[argBest.eq_2]
  cases e:O.blt (ky (k+1)) (ky (argBest (fun i j=>O.blt (ky i) (ky j)) k)) with
  | true=>
   rw[if_pos rfl]
   refine⟨zK _,fun j hj=>?_⟩
   by_cases c:j=k+1
   . subst c;exact O.irrefl _
   . cases e2:O.blt (ky j) (ky (k+1)) with
     | false=>rfl
     | true=>rw[<-h2 j (by omega)];exact (O.trans _ _ _ e2 e).symm
  | false=>
   rw[if_neg (by decide)]
   refine⟨by omega,fun j hj=>?_⟩
   by_cases c:j=k+1
   . subst c;exact e
   . exact h2 j (by omega)
theorem zFn {prog:Program}{w:World}{A:Around}{s:Shared}{p:Addr}{its:List Value}{d:Value}{Q E:vSP}(hA:A.handled=none)(bt:Nat->Nat->Bool)(hp:s.heap.IsList p its.toArray\/s.heap.IsTuple p its.toArray)
 (cmp:∀(i j:Nat)(vi vj:Value)(h:Heap)(tk:Nat)(Q E:vSP),Kp s h->its[i]? = some vi->its[j]? = some vj->Q (.bool (bt i j)) { s with heap:=h,toks:=tk }->wpAny (model prog w) A.in1 (richCompare .Lt vi vj) Q E { s with heap:=h,toks:=tk })
 (hR:∀(v:Value)(h:Heap)(tk:Nat),its[argBest bt (its.length-1)]? = some v->Kp s h->Q v { s with heap:=h,toks:=tk })
 (h0:its=[]->∀(h:Heap)(tk:Nat),Kp s h->Q d { s with heap:=h,toks:=tk }) :
 wpAny (model prog w) A (call (.builtin "min") [.ref p] [(Str.ofString "default",d)]) Q E s:=by
 refine zBZ (codeAny_call_builtin PySem.F.plain_min PySem.F.entry_min (wpAny_of_eq (show checkBuiltinCall "min" { pos:=[.ref p],kw:=[(Str.ofString "default",d)] }=pure () from rfl) (zF ?_)))
 unfold Builtin.min
 refine zA (wpAny_of_eq (show Builtin.Builtins.bindParams "min" ["key", "default"] 0 { kw:=[(Str.ofString "default",d)] }=pure [none,some d] from rfl) (zF ?_))
 dsimp only
 refine zA (zF ?_)
 have kp0:∀(o1 o2:Obj),Kp s ((s.heap.push o1).push o2):=fun o1 o2 b o e=>zG _ (zG _ e)
 rcases hp with hp | hp
 . refine zA (wpAny_pyIter_list hp (zA (wpAny_newList (zF ⟨rfl,?_⟩) (by show 0<=sizeLine;decide))))
   have hSe:(s.heap.push { cls:=.type "list_iterator",data:=.fields #[.ref p,.int 0 0] }).objs.size=s.heap.objs.size+1:=zAt ..
   rw[hSe]
   refine zEU (s0:=s) (I:=s.heap.objs.size) (S:=s.heap.objs.size+1) (itAt:=fun j h=>h.IsListIter s.heap.objs.size p j) ⟨fun j h h' a e=>?_,fun j h tk v Q E K hit hv q=>?_,fun j h tk Q E K hit hv q=>?_⟩ bt (zAq _) (zK _) (Nat.succ_ne_self _) cmp hR h0 _ s.toks 0 (kp0 _ _) ?_ ?_
   . obtain⟨o,ho,hc⟩:=a
     exact⟨o,by rw[e];exact ho,hc⟩
   . obtain⟨o,ho,hc⟩:=hp
     exact wpAny_pyNext_list_item hit ⟨o,K _ _ ho,hc⟩ (by rw[zAW];exact hv) fun h' a b=>q h' a fun c hc=>b.2 c hc
   . obtain⟨o,ho,hc⟩:=hp
     exact wpAny_pyNext_list_end hA hit ⟨o,K _ _ ho,hc⟩ (by rw[zAW];exact hv) fun h' b=>q h' b
   . exact⟨_,zG _ (zR _ rfl),rfl,rfl⟩
   . rw[<-hSe];exact zR _ rfl
 . refine zA (wpAny_pyIter_tuple hp (zA (wpAny_newList (zF ⟨rfl,?_⟩) (by show 0<=sizeLine;decide))))
   have hSe:(s.heap.push { cls:=.type "tuple_iterator",data:=.fields #[.ref p,.int 0 0] }).objs.size=s.heap.objs.size+1:=zAt ..
   rw[hSe]
   refine zEU (s0:=s) (I:=s.heap.objs.size) (S:=s.heap.objs.size+1) (itAt:=fun j h=>h.IsTupleIter s.heap.objs.size p j) ⟨fun j h h' a e=>?_,fun j h tk v Q E K hit hv q=>?_,fun j h tk Q E K hit hv q=>?_⟩ bt (zAq _) (zK _) (Nat.succ_ne_self _) cmp hR h0 _ s.toks 0 (kp0 _ _) ?_ ?_
   . obtain⟨o,ho,hc⟩:=a
     exact⟨o,by rw[e];exact ho,hc⟩
   . obtain⟨o,ho,hc⟩:=hp
     exact wpAny_pyNext_tuple_item hit ⟨o,K _ _ ho,hc⟩ (by rw[zAW];exact hv) fun h' a b=>q h' a fun c hc=>b.2 c hc
   . obtain⟨o,ho,hc⟩:=hp
     exact wpAny_pyNext_tuple_end hA hit ⟨o,K _ _ ho,hc⟩ (by rw[zAW];exact hv) fun h' b=>q h' b
   . exact⟨_,zG _ (zR _ rfl),rfl,rfl⟩
   . rw[<-hSe];exact zR _ rfl
section
variable {X:Cx}
noncomputable def rMinD (K:PySem.W.Frag)(x dv:V)(H:Hp)(Q:VK):Prop:=∃(p:Addr)(ys:List V),x = .ref p/\(SqL K H p ys\/SqT K H p ys)/\(ys=[]->Q dv H) /\
 ((∃ks,zAd H ys ks/\∀(i:Nat)(y:V)(k:List Int),ys[i]? = some y->ks[i]? = some k->(∀k'∈ks,HT.lexLt k' k=false)->Q y H)\/(∃ns:List Int,ys=ns.map V.int/\∀n∈ns,(∀m∈ns,n<=m)->Q (.int n) H))
noncomputable def tMinD (K:PySem.W.Frag)(t:TA)(td:TE):TE:=fun σ H Q=>t σ H fun vs H1=>∃x,vs=[x]/\td σ H1 fun dv H2=>rMinD K x dv H2 Q
theorem zF3 {e de:Expr}{t:TA}{td:TE}{pos np kpos:Pos}(hc:X.calm=true)(hu:X.A.units+1<cLine)(hg:Gl X "min") (hm:X.mg "min" = none) (he:PA X [e] t)(hd:PE X de td)
 (hs1:backTo pos (starEach [e] X.env)=(false,eval e X.env)::backTo pos (starEach [] X.env):=by rfl)(hs2:(backTo pos (starEach [e] X.env)).any (·.1)=false:=by rfl) :
 PE X (.Call (.Name "min" np) [e] [⟨some "default",de,kpos⟩] pos) (tMinD X.K t td):=by
 intro pins s σ H Q I h
 refine zA0 (zCe I hg hm (by decide +kernel:bootBuiltins "min" = some (.builtin "min")) ?_)
 refine PyProof.Rows.callWith_kw (thn (he pos pins s σ H _ I h) fun us s1 ⟨vs,H1,I1,r,q1⟩=>?_) hs1 hs2
 obtain⟨x,rfl,q1⟩:=q1
 obtain⟨u,rfl,rx⟩:=zCS r
 show wpAny _ _ (evalAll ((do let v <-eval de X.env;standAt pos;pure v)::[])) _ _ s1
 refine wpAny_evalAll_cons (zA (thn (hd pins s1 σ H1 _ I1 q1) fun ud s2 ⟨dv,H2,I2,rd,q2⟩=>zA (zBn (zF (wpAny_evalAll_nil ?_)))))
 show wpAny _ _ (call (.builtin "min") [u] [(Str.ofString "default",ud)]) _ _ s2
 obtain⟨p,ys,rfl,hp,q0,hk⟩:=q2
 cases rx
 obtain⟨its,rv,hpp⟩:∃its:List Value,zBE ys its/\(s2.heap.IsList p its.toArray\/s2.heap.IsTuple p its.toArray):=by
  rcases hp with hp | hp
  . obtain⟨its,r',pl,_⟩:=I2.list hp
    exact⟨its,r',.inl pl.isList⟩
  . obtain⟨its,r',pl,_⟩:=I2.tuple hp
    exact⟨its,r',.inr pl⟩
 have hlen:=rv.length
 have e0:its=[]->ys=[]:=fun z=>List.length_eq_zero_iff.mp (by rw[hlen,z];rfl)
 rcases hk with ⟨ks,T,q⟩ | ⟨ns,rfl,q⟩
 . have hl:=T.length
   refine zFn (I2.ok.hd hc) (fun i j=>zJs.blt (ks.getD i []) (ks.getD j [])) hpp (fun i j vi vj h tk Q E K hi hj q=>?_) (fun v h tk hv K=>?_) (fun z h tk K=>⟨dv,H2,I2.kept K,rd,q0 (e0 z)⟩)
   . have look:∀(i:Nat)(v:Value),its[i]? = some v->∃(p:Addr)(k:List Int)(us:List Value),v = .ref p/\ks[i]? = some k/\IntsAre us k/\IsTup h p us.toArray:=fun i v hv=>by
      have hi:i<ys.length:=by have:=(zH.mp hv).1;omega
      obtain⟨p,k,e1,e2,e3,_⟩:=T.get (i:=i) (x:=ys[i]) (by simp[hi])
      obtain⟨u,hu,ru⟩:=rv.get (i:=i) (x:=ys[i]) (by simp[hi])
      rw[hv] at hu;cases hu
      rw[e1] at ru
      cases (show v=Value.ref p from ru)
      obtain⟨_,us,rv',o,ho,hc⟩:=I2.hok p _ e3
      exact⟨p,k,us,rfl,e2,zB3 rv',o,K _ _ ho,hc⟩
     obtain⟨p1,k1,us1,rfl,g1,i1,t1⟩:=look i vi hi
     obtain⟨p2,k2,us2,rfl,g2,i2,t2⟩:=look j vj hj
     refine HT.lt_tupInts (ns:=k1) (ms:=k2) t1 t2 i1 i2 hu ?_
     have:zJs.blt (ks.getD i []) (ks.getD j [])=HT.lexLt k1 k2:=by rw[zE,zE,g1,g2];rfl
     rw[<-this];exact q
   . obtain⟨b1,b2⟩:=zD8 (O:=zJs) (fun i=>ks.getD i []) (its.length-1)
     have hlt:=(zH.mp hv).1
     generalize eb:argBest (fun i j=>zJs.blt (ks.getD i []) (ks.getD j [])) (its.length-1)=bi at hv hlt b1 b2
     have hy:bi<ys.length:=by omega
     obtain⟨u,hu,ru⟩:=rv.get (i:=bi) (x:=ys[bi]) (by simp[hy])
     rw[hv] at hu;cases hu
     obtain⟨pa,k,e1,e2,e3,_⟩:=T.get (i:=bi) (x:=ys[bi]) (by simp[hy])
     refine⟨ys[bi],H2,I2.kept K,ru,q bi ys[bi] k (by simp[hy]) e2 fun k' hk'=>?_⟩
     obtain⟨j,hj,ej⟩:=zx hk'
     have:=b2 j (by omega)
     have g1:ks.getD j []=k':=by rw[zE,zB hj,ej];rfl
     have g2:ks.getD bi []=k:=by rw[zE,e2];rfl
     rw[g1,g2] at this
     exact this
 . have hI:IntsAre its ns:=zB3 rv
   have hl:=hI.length
   have look:∀(i:Nat)(v:Value),its[i]? = some v->∃t,v = .int (ns.getD i 0) t:=fun i v hv=>by
    have hi:i<ns.length:=by have:=(zH.mp hv).1;omega
    obtain⟨u,hu,ru⟩:=rv.get (i:=i) (x:=.int ns[i]) (by simp[hi])
    rw[hv] at hu;cases hu
    obtain⟨t,rfl⟩:=(show ∃t,v=Value.int ns[i] t from ru)
    exact⟨t,by rw[zE,zB hi];rfl⟩
   refine zFn (I2.ok.hd hc) (fun i j=>decide (ns.getD i 0<ns.getD j 0)) hpp (fun i j vi vj h tk Q E K hi hj q=>?_) (fun v h tk hv K=>?_) (fun z h tk K=>⟨dv,H2,I2.kept K,rd,q0 (e0 z)⟩)
   . obtain⟨t1,rfl⟩:=look i vi hi
     obtain⟨t2,rfl⟩:=look j vj hj
     exact PyProof.Rows.lt_int q
   . obtain⟨b1,b2⟩:=argBest_lt (fun i=>ns.getD i 0) (its.length-1)
     have hlt:=(zH.mp hv).1
     generalize eb:argBest (fun i j=>decide (ns.getD i 0<ns.getD j 0)) (its.length-1)=bi at hv hlt b1 b2
     obtain⟨t,rfl⟩:=look bi v hv
     have hy:bi<ns.length:=by omega
     refine⟨.int (ns.getD bi 0),H2,I2.kept K,⟨t,rfl⟩,q _ ?_ fun m hm=>?_⟩
     . rw[zE,zB hy];exact List.getElem_mem hy
     . obtain⟨j,hj,ej⟩:=zx hm
       have:=b2 j (by omega)
       have g1:ns.getD j 0=m:=by rw[zE,zB hj,ej];rfl
       rw[g1] at this
       exact this
end
variable {prog:Program}{w:World}
theorem zLR {l:Addr}{its:Array Value}{Q:Option Value->Shared->Prop}{E:vSP}(hA:A.handled=none)(hl:PlainL s.heap l its)
 (q:∀h' tk,Kp s h'->Q none { s with heap:=h',toks:=tk }):wpAny (model prog w) A (getAttr? (.ref l) (Str.ofString "keys")) Q E s:=by
 have ty:∀tk,Shared.TypeIs { s with toks:=tk } (.ref l) "list" := fun tk=>by
  obtain⟨o,ho,hc,_⟩:=hl.isList
  exact⟨o,ho,hc⟩
 unfold getAttr?
 refine zA (zA (wpAny_fresh (zF ?_)))
 unfold getAttrBy?
 refine zA (wpAny_attempt ?_)
 unfold getAttrBy
 refine zAN (zA (zBK (ty _) (zA (wpAny_of_eq (show typeLookup (.type "list") (Str.ofString "__getattribute__")=pure (some (.builtin "list.__getattribute__")) from rfl) (zF ?_)))))
 show wpAny _ _ (getAttrByItsOwn _ _ _ _ _ _) _ _ _
 unfold getAttrByItsOwn
 refine zA (wpAny_of_eq (show hookBefore (.type "list")=pure none from rfl) (zF (zA (wpAny_attempt (zAN ?_)))))
 show wpAny _ _ (boundAndCalled _ _ _) _ _ _
 unfold boundAndCalled
 refine zA (wpAny_of_eq (show bindSpecial (.builtin "list.__getattribute__") (.ref l)=pure (.builtin "list.__getattribute__",[.ref l]) from rfl) (zF ?_))
 refine zBZ (codeAny_call_builtin (by decide +kernel) PySem.am_entry_list_getattribute ?_)
 refine zA (zBY (ty _) (b:=true) rfl ?_)
 refine wpAny_of_eq (m':=pure ()) rfl (zF ?_)
 unfold Builtin.«object.__getattribute__»
 refine zA (wpAny_of_eq (m':=pure (Value.ref l,[Value.str (Str.ofString "keys") s.toks])) rfl (zF ?_))
 refine zA (zF (zA (zBK (ty _) (zA ?_))))
 unfold Builtin.ObjectAttr.find
 refine zA (wpAny_of_eq (m':=pure none) rfl (zF (zA (zF (zA (zF ?_))))))
 obtain⟨o,n,ho,hc,hd,hdat⟩:=id hl
 obtain⟨cls,dict,data,slots⟩:=o
 obtain rfl:cls=_:=hc
 obtain rfl:dict=_:=hd
 obtain rfl:data=_:=hdat
 refine zA (zA (zA (wpAny_loadPart ho (zA (wpAny_loadPart ho (zF (zF ?_)))))))
 refine zA (wpAny_of_eq (m':=pure ()) rfl (zF (zA (wpAny_rule (zF ?_)))))
 show wpAny _ _ (Builtin.ObjectAttr.noSuchAttribute (Value.ref l) (Str.ofString "keys")) _ _ _
 unfold Builtin.ObjectAttr.noSuchAttribute
 refine zA (zA (zA (zBK (ty _) (wpAny_of_eq (m':=pure (Value.type "list")) rfl (zF (wpAny_of_eq (m':=pure "list") rfl (zF ?_)))))))
 refine wpAny_raiseAttrError hA (fun h' tk e ne=>?_) (by decide +kernel)
 obtain⟨t,u,he⟩:=ne.there
 have tye:∀tk,Shared.TypeIs { s with heap:=h',toks:=tk } (.ref e) "AttributeError" := fun tk=>⟨_,he,rfl⟩
 show wpAny _ _ (getattributeRaised _ _ _ _ _ _ _) _ _ _
 unfold getattributeRaised
 refine zA (zBY (tye _) (b:=true) rfl ?_)
 refine zA (wpAny_of_eq (m':=pure none) rfl (zF ?_))
 refine zA (wpAny_throw ?_)
 refine zA (zBY (tye _) (b:=true) rfl (zF ?_))
 exact q h' tk ne.keeps
theorem zFH (a:Args):(Code.builtin "dict.update.loop" a).quiet=true:=plainId_quiet (id := "dict.update.loop") (by decide +kernel) a
theorem zGw {κ:Type} [DecidableEq κ] (kvs:List (κ×Value))(k:κ)(v:Value):(stored kvs k v).length<=kvs.length+1:=by
 unfold stored
 split
 . rw[zC];omega
 . rw[zL];exact zK _
noncomputable def zEE (qs:List (Key×Value)):List (Key×Value):=qs.foldl (fun a q=>stored a q.1 q.2) []
theorem zGx (qs:List (Key×Value))(q:Key×Value):zEE (qs++[q])=stored (zEE qs) q.1 q.2:=by unfold zEE;rw[List.foldl_append];rfl
theorem zHi (qs:List (Key×Value)):(zEE qs).length<=qs.length:=by
 have:∀(qs:List (Key×Value))(a:List (Key×Value)),(qs.foldl (fun a q=>stored a q.1 q.2) a).length<=a.length+qs.length:=by
  intro qs
  induction qs with
  | nil=>intro a;exact zK _
  | cons q qs ih=>
   intro a
   have h1:=ih (stored a q.1 q.2)
   have h2:=zGw a q.1 q.2
   rw[List.foldl_cons,zp];omega
 have:=this qs []
 simpa [zEE] using this
section
variable {prog:Program}{w:World}{A:Around}{s0:Shared}{D I l:Addr}{its:List Value}{qs:List (Key×Value)}
theorem zIm {R:Result->Shared->Prop}(hA:A.handled=none)(hD:s0.heap.objs.size<=D)(hI:s0.heap.objs.size<=I)(hDI:D≠I)(hl:s0.heap.IsList l its.toArray)(hz:its.length<=sizeLine)(hqs:qs.length=its.length)
 (look:∀(i:Nat)(v:Value),its[i]? = some v->∃(p:Addr)(kv u:Value)(k:Key),v = .ref p/\IsTup s0.heap p #[kv,u]/\(zAf prog w).is k kv=true/\qs[i]? = some (k,u))
 (hR:∀(h:Heap)(tk:Nat),Kp s0 h->h.DictOf (zAf prog w) D (zEE qs)->R (.ok (.ret .none)) { s0 with heap:=h,toks:=tk }) :
 ∀(r j:Nat)(h:Heap)(tk:Nat),its.length-j=r->j<=its.length->Kp s0 h->h.IsListIter I l j->h.DictOf (zAf prog w) D (zEE (qs.take j)) ->
  codeAny (model prog w) A (.builtin "dict.update.loop" { pos:=[.ref D,.ref I,rawInt j,.none] }) R { s0 with heap:=h,toks:=tk }:=by
 have hl':∀h,Kp s0 h->h.IsList l its.toArray:=fun h K=>by
  obtain⟨o,ho,hc⟩:=hl
  exact⟨o,K _ _ ho,hc⟩
 intro r
 induction r with
 | zero=>
  intro j h tk hr hj K hit hd
  refine codeAny_builtin (b:=Builtin.«dict.update.loop») (by rfl) ?_
  unfold Builtin.«dict.update.loop»
  refine zA (wpAny_pyNext_list_end hA hit (hl' h K) (by rw[zAW];exact zAK (by omega)) fun h' b=>?_)
  refine zA (wpAny_of_eq (m':=pure ()) rfl (zF (zF ?_)))
  refine hR h' tk (K.but hI b) ?_
  obtain⟨o,es,ep,ho,hrest⟩:=hd
  rw[zb (by omega)] at hrest
  exact⟨o,es,ep,b D o hDI ho,hrest⟩
 | succ r ih=>
  intro j h tk hr hj K hit hd
  obtain⟨x,hx⟩:∃x,its[j]? = some x:=⟨_,zB (by omega)⟩
  obtain⟨p,kv,u,k,rfl,tp,hk,hq⟩:=look j x hx
  refine codeAny_builtin (b:=Builtin.«dict.update.loop») (by rfl) ?_
  unfold Builtin.«dict.update.loop»
  refine zA (wpAny_pyNext_list_item hit (hl' h K) (by rw[zAW];exact hx) fun h' hit' b=>?_)
  have K':Kp s0 h':=K.but hI fun c o hc e=>by rw[b.2 c hc];exact e
  obtain⟨o,ho,hc,n,hdat⟩:=tp
  refine zA (zAN (zA (wpAny_tryCatch ?_)))
  unfold Builtin.Dict.pairItems
  refine zA (zBK (T := "tuple") ⟨o,K' _ _ ho,hc⟩ ?_)
  refine zA (zBf (K' _ _ ho) hdat (zF ?_))
  have hd':h'.DictOf (zAf prog w) D (zEE (qs.take j)):=by
   obtain⟨o,es,ep,ho,hrest⟩:=hd
   exact⟨o,es,ep,by rw[b.2 D hDI];exact ho,hrest⟩
  refine zAN (wpAny_dictSet_pairs hk hd' (fun h2 hd2 b2=>?_) (zAH (zHi _) (by rw[zk];omega)))
  refine zF ⟨zFH _,?_⟩
  refine ih (j+1) h2 (tk+1) (by omega) (by omega) (fun c o e=>?_) ?_ ?_
  . rw[b2.2 c (zd (zo (zX e) hD))];exact K' c o e
  . obtain⟨o,ho,hc⟩:=hit'
    exact⟨o,by rw[b2.2 I (Ne.symm hDI)];exact ho,hc⟩
  . rw[zq,hq]
    show h2.DictOf _ D (zEE (qs.take j++[(k,u)]))
    rw[zGx]
    exact hd2
end
theorem zHM (h:Heap):(h.push { cls:=.type "dict",data:=.dict #[] }).DictOf (zAf prog w) h.objs.size []:=
 ⟨_,#[],0,zR _ rfl,⟨rfl,rfl,rfl⟩,rfl,by
  first | exact KeysOf.nil | (intro x hx;simp at hx) | trivial | decide,by
  first | exact .nil | trivial,List.nodup_nil⟩
theorem zEM {l:Addr}{its:List Value}{qs:List (Key×Value)}{Q E:vSP}(hA:A.handled=none)(hl:PlainL s.heap l its.toArray)(hz:its.length<=sizeLine)(hqs:qs.length=its.length)
 (look:∀(i:Nat)(v:Value),its[i]? = some v->∃(p:Addr)(kv u:Value)(k:Key),v = .ref p/\IsTup s.heap p #[kv,u]/\(zAf prog w).is k kv=true/\qs[i]? = some (k,u))
 (q:∀(D:Addr)(h:Heap)(tk:Nat),s.heap.objs.size<=D->Kp s h->h.DictOf (zAf prog w) D (zEE qs)->Q (.ref D) { s with heap:=h,toks:=tk }) :
 wpAny (model prog w) A (call (.type "dict") [.ref l]) Q E s:=by
 refine callType_codes (Q₁:=fun obj s₁=>obj = .ref s.heap.objs.size/\s₁={ s with heap:=s.heap.push { cls:=.type "dict",data:=.dict #[] } }) PySem.F.kt_called_dict (PySem.F.kt_typeCall_dict_1 _) PySem.F.entry_dict_init ?_ (fun obj s₁ e=>?_)
 . refine codeAny_call_builtin (by decide +kernel) PySem.F.kt_entry_dict_new (wpAny_of_eq (PySem.F.kt_newCall_dict_1 _) (zF ?_))
   unfold Builtin.«dict.__new__»
   refine zA (wpAny_of_eq (m':=pure true) rfl (zF (zA (wpAny_of_eq (m':=pure true) rfl (zF (zA (wpAny_of_eq (m':=pure [Value.type "dict",Value.type "object"]) rfl (zF ?_))))))))
   exact zA (wpAny_newObjAsIs_type (zF ⟨rfl,rfl⟩))
 . obtain⟨rfl,rfl⟩:=e
   refine⟨⟨_,zR _ rfl,rfl⟩,PySem.F.args_dict_init_2 _ _,?_⟩
   unfold Builtin.«dict.__init__»
   have h0:Kp s (s.heap.push { cls:=.type "dict",data:=.dict #[] }):=fun b o e=>zG _ e
   have hl1:∀h,Kp s h->PlainL h l its.toArray:=fun h K=>by
    obtain⟨o,n,ho,hr⟩:=hl
    exact⟨o,n,K _ _ ho,hr⟩
   refine zA (zA (zA (zBK (T := "dict") ⟨_,zR _ rfl,rfl⟩ (zF (zA (zF (zF ?_)))))))
   show wpAny _ _ (Builtin.Dict.updateFrom "dict.__init__" s.heap.objs.size (.ref l) [] .none) _ _ _
   unfold Builtin.Dict.updateFrom
   refine zA (zBK (T := "list") (let ⟨o,ho,hc,_⟩:=(hl1 _ h0).isList;⟨o,ho,hc⟩) ?_)
   refine zA (zLR hA (hl1 _ h0) fun h1 tk1 K1=>?_)
   have K1':Kp s h1:=fun b o e=>K1 b o (h0 b o e)
   refine zA (wpAny_rule (zA (wpAny_pyIter_list (hl1 _ K1').isList (zF ⟨zFH _,?_⟩))))
   have hsz:s.heap.objs.size<h1.objs.size:=zX (K1 _ _ (zR _ rfl))
   refine zIm (A:=A.in1) (s0:=s) (l:=l) (its:=its) (qs:=qs) hA (zK _) (zAw hsz) (zd hsz) hl.isList hz hqs look ?_ its.length 0 _ tk1 rfl (ze _) (fun b o e=>zG _ (K1' b o e)) ?_ ?_
   . exact fun h tk K hd=>⟨rfl,q _ h tk (zK _) K hd⟩
   . exact⟨_,zR _ rfl,rfl,rfl⟩
   obtain⟨o,es,ep,ho,hr⟩:=zHM (prog:=prog) (w:=w) s.heap
   exact⟨o,es,ep,zG _ (K1 _ _ ho),hr⟩
section
variable {X:Cx}
noncomputable def zJ7 (H:Hp)(ys:List V)(ps:List (Key×V)):Prop:=ps.length=ys.length/\∀(i:Nat)(y:V),ys[i]? = some y->∃(p:Addr)(k:Key)(v:V),y = .ref p/\H p=some (.tup [kV k,v])/\ps[i]? = some (k,v)
noncomputable def zER (ps:List (Key×V)):List (Key×V):=ps.foldl (fun a p=>zCT a p.1 p.2) []
theorem zFK:∀(ps:List (Key×V))(qs:List (Key×Value))(a:List (Key×V))(b:List (Key×Value)),KV ps qs->KV a b->KV (ps.foldl (fun a p=>zCT a p.1 p.2) a) (qs.foldl (fun a q=>stored a q.1 q.2) b)
 | [],[],_,_,_,h=>h
 | p::ps,q::qs,a,b,h,h'=>by
  cases h with
  | cons h1 h2=>
   rw[List.foldl_cons,List.foldl_cons]
   refine zFK ps qs _ _ h2 ?_
   rw[<-h1.1]
   exact KV.put h' p.1 h1.2
 | [],_::_,_,_,h,_=>by cases h
 | _::_,[],_,_,h,_=>by cases h
theorem zG4 (ps:List (Key×V)):(zER ps).length<=ps.length:=by
 have:∀(ps:List (Key×V))(a:List (Key×V)),(ps.foldl (fun a p=>zCT a p.1 p.2) a).length<=a.length+ps.length:=by
  intro ps
  induction ps with
  | nil=>intro a;exact zK _
  | cons q qs ih=>
   intro a
   have h1:=ih (zCT a q.1 q.2)
   have h2:=zBd a q.1 q.2
   rw[List.foldl_cons,zp];omega
 have:=this ps []
 simpa [zER] using this
theorem zHR (hc:X.calm=true):zCl X (.type "dict") (fun xs H Q=>∃l ys ps,xs=[.ref l]/\SqL X.K H l ys/\zJ7 H ys ps/\∀d,H d=none->Q (.ref d) (upd H d (.dK (zER ps)))):=by
 intro pins s σ H xs us Q I r h
 obtain⟨l,ys,ps,rfl,hq,⟨hpl,hps⟩,q⟩:=h
 obtain⟨u,rfl,rx⟩:=zCS r
 cases rx
 obtain⟨its,rv,pl,hz⟩:=I.list hq
 have hlen:=rv.length
 have both:∀(i:Nat),i<its.length->∃(p:Addr)(kv u:Value)(k:Key)(v:V),its[i]? = some (.ref p)/\IsTup s.heap p #[kv,u]/\(zAf X.prog X.w).is k kv=true/\zBQ v u/\ps[i]? = some (k,v):=fun i hi=>by
  have hy:i<ys.length:=by omega
  obtain⟨p,k,v,e1,e2,e3⟩:=hps i ys[i] (by simp[hy])
  obtain⟨u,hu,ru⟩:=rv.get (i:=i) (x:=ys[i]) (by simp[hy])
  rw[e1] at ru
  cases (show u=Value.ref p from ru)
  obtain⟨_,us,rv',tp⟩:=I.hok p _ e2
  obtain⟨a,b,rfl,ra,rb⟩:=zJH rv'
  exact⟨p,a,b,k,v,hu,tp,zEu ra,rb,e3⟩
 obtain⟨qs,hql,hqk⟩:∃qs:List (Key×Value),qs.length=its.length/\∀(i:Nat),i<its.length->∃(p:Addr)(kv u:Value)(k:Key)(v:V),its[i]? = some (.ref p)/\IsTup s.heap p #[kv,u]/\(zAf X.prog X.w).is k kv=true/\zBQ v u/\ps[i]? = some (k,v)/\qs[i]? = some (k,u):=by
  have:∀m,m<=its.length->∃qs:List (Key×Value),qs.length=m/\∀(i:Nat),i<m->∃(p:Addr)(kv u:Value)(k:Key)(v:V),its[i]? = some (.ref p)/\IsTup s.heap p #[kv,u]/\(zAf X.prog X.w).is k kv=true/\zBQ v u/\ps[i]? = some (k,v)/\qs[i]? = some (k,u):=by
   intro m
   induction m with
   | zero=>intro _;exact⟨[],rfl,fun i hi=>absurd hi (zBB _)⟩
   | succ m ih=>
    intro hm
    obtain⟨qs,h1,h2⟩:=ih (by omega)
    obtain⟨p,kv,u,k,v,g1,g2,g3,g4,g5⟩:=both m (by omega)
    refine⟨qs++[(k,u)],by rw[zL,h1];rfl,fun i hi=>?_⟩
    by_cases c:i=m
    . subst c
      exact⟨p,kv,u,k,v,g1,g2,g3,g4,g5,by rw[zQ (by omega),h1,Nat.sub_self];rfl⟩
    . obtain⟨p,kv,u,k,v,f1,f2,f3,f4,f5,f6⟩:=h2 i (by omega)
      exact⟨p,kv,u,k,v,f1,f2,f3,f4,f5,by rw[zW (by omega)];exact f6⟩
  exact this its.length (zK _)
 have kv:KV ps qs:=by
  have:∀(ps:List (Key×V))(qs:List (Key×Value)),ps.length=qs.length->(∀i,i<ps.length->∃k v u,ps[i]? = some (k,v)/\qs[i]? = some (k,u)/\zBQ v u)->KV ps qs:=by
   intro ps
   induction ps with
   | nil=>intro qs e _;cases qs with
    | nil=>exact .nil
    | cons _ _=>simp at e
   | cons p ps ih=>
    intro qs e h
    cases qs with
    | nil=>simp at e
    | cons q qs=>
     obtain⟨k,v,u,h1,h2,h3⟩:=h 0 (by simp)
     simp at h1 h2
     subst h1 h2
     refine .cons ⟨rfl,h3⟩ (ih qs (by simpa using e) fun i hi=>?_)
     obtain⟨k,v,u,h1,h2,h3⟩:=h (i+1) (by simp;omega)
     exact⟨k,v,u,by simpa using h1,by simpa using h2,h3⟩
  refine this ps qs (by omega) fun i hi=>?_
  obtain⟨p,kv,u,k,v,_,_,_,f4,f5,f6⟩:=hqk i (by omega)
  exact⟨k,v,u,f5,f6,f4⟩
 refine zEM (its:=its) (qs:=qs) (I.ok.hd hc) pl (by omega) hql (fun i v hv=>?_) (fun D h tk hD K dd=>?_)
 . obtain⟨p,kv,u,k,v',f1,f2,f3,f4,f5,f6⟩:=hqk i (zH.mp hv).1
   rw[hv] at f1;cases f1
   exact⟨p,kv,u,k,rfl,f2,f3,f6⟩
 . have hfr:H D=none:=I.hok.fresh hD
   have zz:(zER ps).length<=sizeLine:=zAH (zG4 ps) (by omega)
   refine⟨.ref D,_,I.laid (a:=D) (o:=.dK (zER ps)) (t':=tk) K hD (zGk zz (beq_eq_false_iff_ne.mpr (Ne.symm (zd (zo I.big hD)))) (zFK ps qs [] [] kv .nil) dd),rfl,q D hfr⟩
end
end L2
namespace L2
open PySem PySem.Spec PyProof.Rows
section
variable {X:Cx}
theorem zGX {x:Str}{T:String}{pos:Pos}(hm:X.mg x=none)(hg:Gl X x:=by rfl)(hv:bootBuiltins x=some (.type T):=by decide +kernel)(hn:x ≠ "__name__" := by decide) (hdb:(x==("__debug__" : Str))=false:=by decide):PE X (.Name x pos) (tC (.ty T)):=
 fun pins s σ H Q I h=>zCe I hg hm hv ⟨.ty T,H,I,rfl,h⟩ hn hdb
theorem zCX:zCl X (.builtin "isinstance") (fun xs H Q=>∃x T t b,xs=[x,.ty T]/\zHT X.K H x t/\PySem.W.kitOne X.K t (.type T)=some b/\Q (.bl b) H):=by
 intro pins s σ H xs us Q I r h
 obtain⟨x,T,t,b,rfl,ty,e,q⟩:=h
 obtain⟨u,w',rfl,rx,rT⟩:=zJH r
 cases (show w'=Value.type T from rT)
 exact zIc I rx ty e fun tk=>⟨.bl b,H,I.tok tk,rfl,q⟩
theorem ps_no {st:Stmt}:PS X st (fun _ _ _=>False):=fun _ _ _ _ _ _ h=>h.elim
end
section
variable {prog:Program}{w:World}{A:Around}{s0:Shared}{I l:Addr}{bs:List Bool}
theorem zJ6 {R:Result->Shared->Prop}(hA:A.handled=none)(hI:s0.heap.objs.size<=I)(hl:s0.heap.IsList l (bs.map Value.bool).toArray)
 (hR:∀(h:Heap)(tk:Nat),Kp s0 h->R (.ok (.ret (.bool (bs.all id)))) { s0 with heap:=h,toks:=tk }) :
 ∀(r j:Nat)(h:Heap)(tk:Nat),bs.length-j=r->j<=bs.length->Kp s0 h->h.IsListIter I l j->(bs.take j).all id=true ->
  codeAny (model prog w) A (.builtin "all.loop" { pos:=[.ref I] }) R { s0 with heap:=h,toks:=tk }:=by
 have hl':∀h,Kp s0 h->h.IsList l (bs.map Value.bool).toArray:=fun h K=>by
  obtain⟨o,ho,hc⟩:=hl
  exact⟨o,K _ _ ho,hc⟩
 intro r
 induction r with
 | zero=>
  intro j h tk hr hj K hit ha
  refine codeAny_builtin PySem.F.entry_all_loop ?_
  unfold Builtin.«all.loop»
  refine zA (wpAny_pyNext_list_end hA hit (hl' h K) (by rw[zAW];exact zAK (by rw[zC];omega)) fun h' b=>?_)
  refine zA (wpAny_rule (zF ?_))
  rw[zb (by omega)] at ha
  have:=hR h' tk (K.but hI b)
  rw[ha] at this
  exact this
 | succ r ih=>
  intro j h tk hr hj K hit ha
  obtain⟨x,hx⟩:∃x,bs[j]? = some x:=⟨_,zB (by omega)⟩
  refine codeAny_builtin PySem.F.entry_all_loop ?_
  unfold Builtin.«all.loop»
  refine zA (wpAny_pyNext_list_item hit (hl' h K) (x:=.bool x) (by rw[zAW,zM,hx];rfl) fun h' hit' b=>?_)
  have K':Kp s0 h':=K.but hI fun c o hc e=>by rw[b.2 c hc];exact e
  refine zA (zAN (zA7 (zA (wpAny_letGo ?_))))
  cases x with
  | true=>
   refine zF ⟨rfl,?_⟩
   exact ih (j+1) h' tk (by omega) (by omega) K' hit' (by rw[zq,hx,List.all_append,ha];rfl)
  | false=>
   refine zA (wpAny_rule (zF ?_))
   have e:bs.all id=false:=by
    cases z:bs.all id with
    | false=>rfl
    | true=>have:=zAv.mp z false (zO hx);simp at this
   have:=hR h' tk K'
   rw[e] at this
   exact this
end
section
variable {X:Cx}
theorem zGp:∀{bs:List Bool}{its:List Value},zBE (bs.map V.bl) its->its=bs.map Value.bool
 | [],[],_=>rfl
 | b::bs,u::its,h=>by
  cases h with
  | cons h1 h2=>rw[zAV,<-zGp h2,show u=Value.bool b from h1]
 | [],_::_,h=>by cases h
 | _::_,[],h=>by cases h
theorem zDB (hc:X.calm=true):zCl X (.builtin "all") (fun xs H Q=>∃(p:Addr)(bs:List Bool),xs=[.ref p]/\SqL X.K H p (bs.map V.bl)/\Q (.bl (bs.all id)) H):=by
 intro pins s σ H xs us Q I r h
 obtain⟨p,bs,rfl,hq,q⟩:=h
 obtain⟨u,rfl,rx⟩:=zCS r
 cases rx
 obtain⟨its,r',pl,hz⟩:=I.list hq
 rw[zGp r'] at pl
 refine zBZ (codeAny_call_builtin PySem.F.plain_all PySem.F.entry_all (wpAny_of_eq (m':=pure ()) rfl (zF ?_)))
 unfold Builtin.all
 refine zA (wpAny_of_eq (m':=pure (Value.ref p)) rfl (zF (zA (wpAny_pyIter_list pl.isList (zF ⟨rfl,?_⟩)))))
 refine zJ6 (s0:=s) (l:=p) (bs:=bs) (I.ok.hd hc) (zK _) pl.isList ?_ bs.length 0 _ s.toks rfl (ze _) (fun b o e=>zG _ e) ?_ rfl
 . exact fun h tk K=>⟨.bl _,H,I.kept K,rfl,q⟩
 . exact⟨_,zR _ rfl,rfl,rfl⟩
end
theorem zKp {prog:Program}{w:World}{h:Heap}(led:Bool):(h.push { cls:=.type "set",data:=.set #[] 0 (SetTable.fresh 0 0 led) }).SetOf (intKind prog w) h.objs.size (fun _=>false) 0:=by
 refine⟨_,#[],0,_,zR _ rfl,⟨rfl,rfl,rfl⟩,rfl,?_,fun k=>⟨fun z=>by simp at z,fun ⟨e,he,_⟩=>by simp at he⟩,by decide,?_,rfl⟩
 . first | exact ElemsOf.nil | trivial | (intro e he;simp at he)
 . cases led <;> first | rfl | decide +kernel
theorem zGE {prog:Program}{w:World}{A:Around}{s:Shared}{l:Addr}{its:List Value}{ns:List Int}{Q E:vSP}(hA:A.handled=none)(hl:s.heap.IsTuple l its.toArray)(hi:IntsAre its ns)(hz:its.length+1<scanBound)
 (q:∀(h:Heap)(tk:Nat),Kp s h->h.SetOf (intKind prog w) s.heap.objs.size (fun k'=>(firstMet (fun i=>ns.getD i 0) its.length).any fun x=>x==k') (firstMet (fun i=>ns.getD i 0) its.length).length->Q (.ref s.heap.objs.size) { s with heap:=h,toks:=tk }) :
 wpAny (model prog w) A (call (.type "set") [.ref l]) Q E s:=by
 refine zBZ (codeAny_of_tree (zF ⟨Code.quiet_builtin _ (by decide +kernel),codeAny_builtin PySem.F.entry_type_call ?_⟩))
 unfold Builtin.«type.__call__»
 dsimp only
 rw[if_neg (by rw[PySem.F.called_set.notType];decide)]
 rw[if_neg (by rw[PySem.F.called_set.canCreate];decide)]
 obtain⟨c,tl,hm⟩:=PySem.F.called_set.mro
 refine zA (wpAny_of_eq (PySem.F.typeCall_set_1 _) (zF (zA (wpAny_of_eq hm (zF ?_)))))
 refine zA (wpAny_of_eq PySem.F.called_set.made (zF (zA (zF ?_))))
 refine zA (zAN (zBZ (codeAny_mono (code_set_new_1 (E:=E) (.ref l) (Q₁:=fun obj s₁=>obj = .ref s.heap.objs.size/\∃led,s₁={ s with heap:=s.heap.push { cls:=.type "set",data:=.set #[] 0 (SetTable.fresh 0 0 led) } }) fun led=>⟨rfl,led,rfl⟩) fun r s₁ e=>?_)))
 match r,e with
 | .ok (.ret obj),e=>
  obtain⟨rfl,led,rfl⟩:=e
  have h0:Kp s (s.heap.push { cls:=.type "set",data:=.set #[] 0 (SetTable.fresh 0 0 led) }):=fun b o e=>zG _ e
  have ht:∀h,Kp s h->h.IsTuple l its.toArray:=fun h K=>by
   obtain⟨o,ho,hr⟩:=hl
   exact⟨o,K _ _ ho,hr⟩
  have hlt:l<s.heap.objs.size:=by
   obtain⟨o,ho,_⟩:=hl
   exact zX ho
  have tyS:Shared.TypeIs { s with heap:=s.heap.push { cls:=.type "set",data:=.set #[] 0 (SetTable.fresh 0 0 led) } } (.ref s.heap.objs.size) "set" := ⟨_,zR _ rfl,rfl⟩
  show wpAny _ _ _ _ _ _
  refine zA (zBY tyS PySem.F.called_set.sub ?_)
  refine zA (zAN ?_)
  unfold callSpecial?
  refine zA (wpAny_specialOf tyS PySem.F.called_set.init.lookup (zAN (zA (wpAny_of_eq (PySem.F.called_set.init.bind _) (zF (zA (zBZ (codeAny_call_builtin PySem.F.called_set.init.plain PySem.F.entry_set_init (check_set_init_1 tyS ?_)))))))))
  unfold Builtin.«set.__init__»
  refine zA (wpAny_of_eq (m':=pure ()) rfl (zF ?_))
  dsimp only
  refine zA (zA (zA (zBK tyS (wpAny_of_eq (m':=pure (Value.type "set")) rfl (zF (wpAny_of_eq (m':=pure "set") rfl (zF ?_)))))))
  refine zA (wpAny_of_eq (m':=pure ()) rfl (zF (zA (zF ?_))))
  refine zA (zA (zA (wpAny_load (zR _ rfl) ?_)))
  refine wpAny_of_eq (m':=pure (#[],0,SetTable.fresh 0 0 led)) (by cases led <;> rfl) (zF (wpAny_of_eq (m':=pure false) (by cases led <;> rfl) (zF ?_)))
  have tyT:∀h tk,Kp s h->Shared.TypeIs { s with heap:=h,toks:=tk } (.ref l) "tuple" := fun h tk K=>by
   obtain⟨o,ho,hr⟩:=ht h K
   exact⟨o,ho,hr.1⟩
  show wpAny _ _ (Builtin.Frozenset.updateFrom "set.__init__" s.heap.objs.size (.ref l) >>= _) _ _ _
  unfold Builtin.Frozenset.updateFrom
  refine zA (zA (zA (zBY (tyT _ _ h0) PySem.F.sub_tuple_set (zBY (tyT _ _ h0) (b:=false) rfl ?_))))
  refine zA (zBK (tyT _ _ h0) ?_)
  refine zA (wpAny_pyIter_tuple (ht _ h0) (zA (wpAny_runValue ?_)))
  have hsz:(s.heap.push { cls:=.type "set",data:=.set #[] 0 (SetTable.fresh 0 0 led) }).objs.size=s.heap.objs.size+1:=zAt ..
  refine codeAny_set_update_loopS (Walks.toS (Walks.tuple (A:=(A.under (Code.builtin "type.__call__" { pos:=[.type "set",.ref l] })).in1.in1) hA (s.heap.push { cls:=.type "set",data:=.set #[] 0 (SetTable.fresh 0 0 led) }).objs.size l (zd (by rw[hsz];exact zAo hlt)) its.toArray)) s.heap.objs.size ?_ (fun i=>ns.getD i 0) ?_ (by simpa using hz) its.toArray.size 0 _ rfl (ze _) ?_ ?_ ?_
  . rw[hsz]
    intro z
    rcases zi.mp z with z | z
    . exact absurd z (zd (Nat.lt_succ_self _))
    . exact absurd (zf.mp z) (Nat.ne_of_gt hlt)
  . intro i v hv
    rw[zAW] at hv
    exact hi.int_at i v hv
  . exact⟨⟨_,zR _ rfl,rfl,rfl⟩,ht _ fun b o e=>zG _ (h0 b o e)⟩
  . have:=zKp (prog:=prog) (w:=w) (h:=s.heap) led
    obtain⟨o,es,ep,t,ho,hr⟩:=this
    exact⟨o,es,ep,t,zG _ ho,hr⟩
  . intro s' mv so
    refine zF (zF (zF (zF ?_)))
    obtain⟨h',g',d',t',o'⟩:=s'
    obtain rfl:g'=s.gens:=mv.gens
    obtain rfl:d'=s.drawn:=mv.drawn
    obtain rfl:o'=s.os:=mv.os
    refine q h' t' (fun b o e=>mv.heap b o ?_ (zG _ (h0 b o e))) (by simpa using so)
    have hb:b<s.heap.objs.size:=zX e
    intro z
    rw[hsz] at z
    rcases zi.mp z with z | z
    . exact absurd z (zd hb)
    . exact absurd (zf.mp z) (zd (zAo hb))
 | .ok .next,e=>exact e.elim
 | .ok .brk,e=>exact e.elim
 | .ok .cont,e=>exact e.elim
 | .error v,e=>exact e
theorem zD4 {ns:List Int}(h:ns.Nodup):∀k,k<=ns.length->firstMet (fun i=>ns.getD i 0) k=ns.take k
 | 0,_=>rfl
 | k+1,hk=>by
  rw[firstMet_succ,zD4 h k (by omega)]
  have hx:ns[k]? = some (ns.getD k 0):=by rw[zE,zB (by omega)];rfl
  unfold step_dedup
  rw[if_neg,zq,hx]
  . rfl
  . intro z
    obtain⟨y,hy,e⟩:=List.any_eq_true.mp z
    have e':y=ns.getD k 0:=by simpa using e
    obtain⟨j,hj,ej⟩:=zx hy
    rw[zk] at hj
    rw[List.getElem_take] at ej
    obtain⟨hk',ek⟩:=zH.mp hx
    have:=(List.nodup_iff_pairwise_ne.mp h)
    have:=zy.mp this j k (by omega) (by omega) (by omega)
    exact this (by rw[ej,ek,e'])
section
variable {X:Cx}
theorem zIw (hc:X.calm=true):zCl X (.type "set") (fun xs H Q=>∃(p:Addr)(ns:List Int),xs=[.ref p]/\SqT X.K H p (ns.map V.int)/\ns.length<=1000 /\
 ∀d S,H d=none->Q (.ref d) (upd H d (.set S (firstMet (fun i=>ns.getD i 0) ns.length).length))):=by
 intro pins s σ H xs us Q I r h
 obtain⟨p,ns,rfl,hq,hl,q⟩:=h
 obtain⟨u,rfl,rx⟩:=zCS r
 cases rx
 obtain⟨its,rv,pl,hz⟩:=I.tuple hq
 have hi:=zB3 rv
 have hil:=hi.length
 refine zGE (I.ok.hd hc) pl hi (by have:scanBound=4096:=rfl;omega) fun h tk K so=>?_
 rw[hil] at so
 exact⟨.ref s.heap.objs.size,_,I.laid (a:=s.heap.objs.size) (t':=tk) K (zK _) (show zBI X.prog X.w _ _ _ (.set _ _) from so),rfl,q _ _ I.fresh⟩
theorem zIy:zCl X (.builtin "len") (fun xs H Q=>∃(a:Addr)(S:Int->Bool)(n:Nat),xs=[.ref a]/\H a=some (.set S n)/\Q (.int n) H):=by
 intro pins s σ H xs us Q I r h
 obtain⟨a,S,n,rfl,ha,q⟩:=h
 obtain⟨u,rfl,rx⟩:=zCS r
 cases rx
 obtain⟨o,es,ep,t,ho,ex,hd,_,_,hb,hf,hn⟩:=(show zBI X.prog X.w H s.heap a (.set S n) from I.hok a _ ha)
 refine call_len_set ho ex hd hf (by have:scanBound=4096:=rfl;omega) ⟨.int n,H,I.tok _,⟨_,by rw[hn]⟩,q⟩
noncomputable def tBMT (r:V->List V->Hp->VK->Prop)(to:TE)(t:TA):TE:=fun σ H Q=>to σ H fun x H1=>(∃p ys,x = .ref p/\H1 p=some (.tup ys))/\t σ H1 fun xs H2=>r x xs H2 Q
variable {o e:Expr}{es:List Expr}{to:TE}{t:TA}{name:Str}{apos cpos:Pos}{id:String}{r:V->List V->Hp->VK->Prop}
theorem pe_bmT (slot:Slot "tuple" name id) (hty:typeOf (.builtin id)=pure (.type "method_descriptor")) (hm:MtR X id r)(ho:PE X o to)(ha:PA X (e::es) t)
 (hbase:attributeBase o name X.env (eval o X.env)=eval o X.env:=by rfl)
 (hfew:((backTo cpos (starEach (e::es) X.env)).all (fun x=>!x.1) && (backToKw cpos (keywordEach [] X.env)).all (fun x=>x.1.isSome)
  && decide ((e::es).length+([]:List Keyword).length+(if ([]:List Keyword).isEmpty then 0 else 1)<30))=true:=by rfl)
 (hline:(apos.endLine==cpos.line)=true:=by rfl)(hs:starEach (e::es) X.env=(false,eval e X.env)::starEach es X.env:=by rfl)(hplain:(backTo cpos (starEach es X.env)).any (·.1)=false:=by rfl) :
 PE X (.Call (.Attribute o name apos) (e::es) [] cpos) (tBMT r to t):=by
 intro pins s σ H Q I h
 refine wpAny_Call_method_late hbase hfew hline rfl (thn (ho pins s σ H _ I h) fun v s1 ⟨x,H1,I1,r1,⟨p,ys,ex,hp⟩,q1⟩=>?_)
 subst ex
 cases (show v=Value.ref p from r1)
 obtain⟨⟨_,o2,ho2,hd2⟩,its,rv,ob,hob,hcl,_⟩:=(show zBI X.prog X.w H1 s1.heap p (.tup ys) from I1.hok p _ hp)
 refine⟨"tuple",id,PySem.F.plainAttrs_tuple,slot,hty,⟨ob,hob,hcl⟩,fun a ea=>?_,?_⟩
 . cases ea
   exact⟨o2,ho2,hd2⟩
 have hA:=ha cpos pins s1 σ H1 _ I1 q1
 rw[hs] at hA ⊢
 refine Calls.callWith_builtin (by show (false || (backTo cpos (starEach es X.env)).any (·.1))=false;rw[hplain] <;> rfl) (Calls.evalArgs_plain ?_)
 exact thn hA fun us s2 ⟨vs,H2,I2,r2,q2⟩=>hm pins s2 σ H2 (.ref p) vs (.ref p) us Q I2 rfl r2 q2
end
section
variable {prog:Program}{w:World}{A:Around}{E:vSP}
theorem zIe {its:Array Value}{ns:List Int}{v:Int}{tv:Tok}{i:Nat}{R:Option PySem.Fin×Unit->Shared->Prop}(hi:IntsAre its.toList ns)(hv:ns[i]? = some v)(hno:∀j,j<i->ns[j]?≠some v)
 (f:Nat->Option PySem.Fin×Unit->Sem (ForInStep (Option PySem.Fin×Unit)))
 (hf:∀(j:Nat)(x:Option PySem.Fin×Unit),f j x=(match its[j]? with
  | some y=>do
   let b <-eqBool y (.int v tv)
   if b=true then do
    let r <-retInt j
    pure (.done (some r,()))
   else pure (.yield (none,()))
  | _=>pure (.yield (none,()))))
 (s:Shared)(hR:∀tk,R (some (.done (.ret (.int i s.toks))),()) { s with toks:=tk }) :
 ∀(r j:Nat)(b:Option PySem.Fin×Unit),i-j=r->j<=i->wpAny (model prog w) A (forIn (List.range' j (its.size-j) 1) b f) R E s:=by
 have hsz:its.size=ns.length:=by have:=hi.length;simpa using this
 have hil:i<ns.length:=(zH.mp hv).1
 have look:∀j,j<ns.length->∃t,its[j]? = some (.int (ns.getD j 0) t):=fun j hj=>by
  have hj':j<its.size:=by omega
  obtain⟨t,ht⟩:=hi.int_at j (its[j]'hj') (by rw[Array.getElem?_toList,Array.getElem?_eq_getElem hj'])
  exact⟨t,by rw[Array.getElem?_eq_getElem hj',ht]⟩
 intro r
 induction r with
 | zero=>
  intro j b hr hj
  obtain rfl:j=i:=by omega
  rw[show its.size-j=(its.size-j-1)+1 by omega,List.range'_succ,List.forIn_cons,hf]
  obtain⟨t,ht⟩:=look j hil
  rw[ht]
  refine zA (zA (wpAny_eqBool_int ?_))
  have e:ns.getD j 0=v:=by rw[zE,hv];rfl
  rw[e,show (v==v)=true by simp]
  refine zA (zA (wpAny_mkInt (zF (zF (zF ?_)))))
  exact hR _
 | succ r ih=>
  intro j b hr hj
  rw[show its.size-j=(its.size-(j+1))+1 by omega,List.range'_succ,List.forIn_cons,hf]
  obtain⟨t,ht⟩:=look j (by omega)
  rw[ht]
  refine zA (zA (wpAny_eqBool_int ?_))
  have hj':ns[j]? = some (ns.getD j 0):=by rw[zE,zB (by omega)];rfl
  have e:¬ ns.getD j 0=v:=fun z=>hno j (by omega) (by rw[hj',z])
  rw[show (ns.getD j 0==v)=false by simpa using e]
  refine zF ?_
  exact ih (j+1) _ (by omega) (by omega)
end
section
variable {X:Cx}
theorem zJo:MtR X "tuple.index" (fun x xs H Q=>∃(p:Addr)(ns:List Int)(i:Nat)(v:Int),x = .ref p/\xs=[.int v]/\SqT X.K H p (ns.map V.int)/\ns[i]? = some v/\(∀j,j<i->ns[j]?≠some v)/\Q (.int i) H):=by
 intro pins s σ H x xs v us Q I rx r h
 obtain⟨p,ns,i,k,rfl,rfl,hq,hi,hno,q⟩:=h
 cases (show v=Value.ref p from rx)
 obtain⟨u,rfl,t,rfl⟩:=zCS r
 obtain⟨its,rv,⟨ob,hob,hcl,n,hdat⟩,hz⟩:=I.tuple hq
 have hI:=zB3 rv
 refine zBZ (codeAny_call_builtin PySem.F.slot_tuple_index.plain PySem.F.entry_tuple_index (PySem.F.slot_tuple_index.check _ _ _ _ _ _ _ _ ⟨ob,hob,hcl⟩ (PySem.F.args_tuple_index_2 _ _) ?_))
 unfold Builtin.«tuple.index»
 refine zA (wpAny_of_eq (m':=pure (Value.ref p,[Value.int k t])) rfl (zF ?_))
 refine zA (zA (zBf hob hdat (zF ?_)))
 refine zA (zF (zA (zF (zA ?_))))
 rw[Std.Legacy.Range.forIn_eq_forIn_range']
 have hsz:(Std.Legacy.Range.mk 0 (min its.toArray.size its.toArray.size) 1 (by decide)).size=its.toArray.size-0:=by
  show (min its.toArray.size its.toArray.size-0+1-1)/1=_
  rw[Nat.min_self];omega
 rw[hsz]
 refine zIe (its:=its.toArray) (ns:=ns) (v:=k) (tv:=t) (i:=i) hI hi hno _ (fun j x=>by rfl) s (fun tk=>?_) i 0 _ (by omega) (ze _)
 exact zF ⟨.int i,H,I.tok _,⟨_,rfl⟩,q⟩
end
section
variable {X:Cx}{pl:lPO}{N':List Str}{sc:Scope}{fp:List Addr}{s3:Shared}{H3:Hp}
theorem zIM:MtR (zBm X pl N' sc fp s3 H3) "tuple.index" (fun x xs H Q=>∃(p:Addr)(ns:List Int)(i:Nat)(v:Int),x = .ref p/\xs=[.int v]/\SqT X.K H p (ns.map V.int)/\ns[i]? = some v/\(∀j,j<i->ns[j]?≠some v)/\Q (.int i) H):=zJo
end
section
variable {prog:Program}{w:World}{A:Around}{s:Shared}{l:Addr}{its:List Value}{ns:List Int}{v:Int}{tv:Tok}
theorem zFG (a:Args):(Code.builtin "list.count.loop" a).quiet=true:=Code.quiet_builtin a (by decide +kernel)
theorem zHO {R:Result->Shared->Prop}(hl:s.heap.IsList l its.toArray)(hi:IntsAre its ns)(hR:∀(t:Tok)(tk:Nat),R (.ok (.ret (.int (ns.countP fun x=>x==v:Nat) t))) { s with toks:=tk }) :
 ∀(r j:Nat),its.length-j=r->j<=its.length->codeAny (model prog w) A (.builtin "list.count.loop" { pos:=[.ref l,.int v tv,rawInt j,rawInt ((ns.take j).countP fun x=>x==v:Nat)] }) R s:=by
 have hil:=hi.length
 intro r
 induction r with
 | zero=>
  intro j hr hj
  refine codeAny_builtin (b:=Builtin.«list.count.loop») (by rfl) ?_
  unfold Builtin.«list.count.loop»
  obtain⟨o,ho,hc,n,hd⟩:=id hl
  refine zA (zA (zBf ho hd (zF ?_)))
  have e:its.toArray[(j:Int).toNat]? = none:=by rw[zAW,zAx];exact zAK (by omega)
  rw[e]
  rw[zb (by omega)]
  exact zA (wpAny_mkInt (zF (hR _ _)))
 | succ r ih=>
  intro j hr hj
  refine codeAny_builtin (b:=Builtin.«list.count.loop») (by rfl) ?_
  unfold Builtin.«list.count.loop»
  obtain⟨o,ho,hc,n,hd⟩:=id hl
  refine zA (zA (zBf ho hd (zF ?_)))
  obtain⟨x,hx⟩:∃x,its[j]? = some x:=⟨_,zB (by omega)⟩
  obtain⟨t,rfl⟩:=hi.int_at j x hx
  have e:its.toArray[(j:Int).toNat]? = some (.int (ns.getD j 0) t):=by rw[zAW,zAx];exact hx
  rw[e]
  refine zA (wpAny_eqBool_int ?_)
  refine zF ⟨zFG _,?_⟩
  have hj':ns[j]? = some (ns.getD j 0):=by rw[zE,zB (by omega)];rfl
  have st:(ns.take (j+1)).countP (fun x=>x==v)=(ns.take j).countP (fun x=>x==v)+(if (ns.getD j 0==v)=true then 1 else 0):=by
   rw[zq,hj',List.countP_append]
   show _+List.countP _ [ns.getD j 0]=_
   rw[List.countP_cons,List.countP_nil,Nat.zero_add]
  have:=ih (j+1) (by omega) (by omega)
  rw[st] at this
  cases c:(ns.getD j 0==v) with
  | true=>rw[c] at this;exact this
  | false=>rw[c] at this;exact this
end
section
variable {X:Cx}
theorem zJp:MtR X "list.count" (fun x xs H Q=>∃(p:Addr)(ns:List Int)(v:Int),x = .ref p/\xs=[.int v]/\SqL X.K H p (ns.map V.int)/\Q (.int (ns.countP fun x=>x==v:Nat)) H):=by
 intro pins s σ H x xs u us Q I rx r h
 obtain⟨p,ns,v,rfl,rfl,hq,q⟩:=h
 cases (show u=Value.ref p from rx)
 obtain⟨w',rfl,t,rfl⟩:=zCS r
 obtain⟨its,rv,pl,hz⟩:=I.list hq
 have hi:=zB3 rv
 refine zBZ (codeAny_call_builtin PySem.F.slot_list_count.plain PySem.F.entry_list_count (PySem.F.slot_list_count.check _ _ _ _ _ _ _ _ pl.isList.typeIs (PySem.F.args_list_count_2 _ _) ?_))
 unfold Builtin.«list.count»
 refine zA (wpAny_of_eq (m':=pure (Value.ref p,Value.int v t)) rfl (zF (zF ⟨zFG _,?_⟩)))
 refine zHO (s:=s) (ns:=ns) pl.isList hi ?_ its.length 0 (by omega) (ze _)
 exact fun t' tk=>⟨.int _,H,I.tok _,⟨t',rfl⟩,q⟩
end
end L2
namespace WM
open L2
structure En where
 h:Int
 l:Int
 u:Option Int
 d:Option Int
noncomputable def Cd (es fs:List En)(c:Int×Int):Prop:=∃e∈es,∃f∈fs,f.h=e.h/\c=(e.l+f.l,e.h)
noncomputable def zDa (P:Int×Int->Prop):Option (Int×Int)->Prop
 | none=>∀c,¬ P c
 | some c=>P c/\∀c',P c'->c.1<c'.1\/(c.1=c'.1/\c.2<=c'.2)
theorem zDa.uniq {P:Int×Int->Prop}:∀{a b:Option (Int×Int)},zDa P a->zDa P b->a=b
 | none,none,_,_=>rfl
 | none,some c,h,g=>absurd g.1 (h c)
 | some c,none,h,g=>absurd h.1 (g c)
 | some a,some b,h,g=>by
  have h1:=h.2 b g.1
  have h2:=g.2 a h.1
  have e1:a.1=b.1:=by omega
  have e2:a.2=b.2:=by omega
  rw[show a=b from Prod.ext e1 e2]
theorem zDa.congr {P P':Int×Int->Prop}(e:∀c,P c↔P' c):∀{a:Option (Int×Int)},zDa P a->zDa P' a
 | none,h=>fun c z=>h c ((e c).mpr z)
 | some _,h=>⟨(e _).mp h.1,fun c' z=>h.2 c' ((e c').mpr z)⟩
noncomputable def Hub (es:List En):Prop:=es.Pairwise fun a b=>a.h<b.h
noncomputable def zED (es:List En)(h:Int):Option En:=es.find? fun e=>decide (e.h=h)
variable {es:List En}
theorem zBz (hs:Hub es){h:Int}{e:En}:zED es h=some e↔e∈es/\e.h=h:=by
 unfold zED
 constructor
 . intro z
   exact⟨List.mem_of_find?_eq_some z,of_decide_eq_true (List.find?_some (p:=fun e:En=>decide (e.h=h)) z)⟩
 . rintro ⟨hm,rfl⟩
   induction es with
   | nil=>simp at hm
   | cons a es ih=>
    rw[zBj]
    rcases zi.mp hm with rfl | hm'
    . simp
    . have hp:=zBc.mp hs
      have:=hp.1 e hm'
      rw[zl (show ¬ a.h=e.h by omega)]
      exact ih hp.2 hm'
theorem zFd {h:Int}:zED es h=none↔∀e∈es,e.h≠h:=by
 unfold zED
 rw[List.find?_eq_none]
 exact⟨fun z e he=>fun q=>z e he (zU q),fun z e he=>fun q=>z e he (of_decide_eq_true q)⟩
noncomputable def zHg (es fs:List En)(o p:Int):Option (Int×Int)->Option Int
 | none=>none
 | some c=>if o=p then none else if c.2=o then (zED fs c.2).bind (·.d) else (zED es c.2).bind (·.u)
noncomputable def cOf (fs:List En)(e:En):Option (Int×Int):=(zED fs e.h).map fun f=>(e.l+f.l,e.h)
theorem zI1 {fs:List En}(hf:Hub fs)(c:Int×Int):c∈es.filterMap (cOf fs)↔Cd es fs c:=by
 rw[zAr]
 constructor
 . rintro ⟨e,he,z⟩
   unfold cOf at z
   cases q:zED fs e.h with
   | none=>rw[q] at z;cases z
   | some f=>
    rw[q] at z
    obtain⟨h1,h2⟩:=(zBz hf).mp q
    exact⟨e,he,f,h1,h2,(zY z).symm⟩
 . rintro ⟨e,he,f,hfm,h1,rfl⟩
   refine⟨e,he,?_⟩
   unfold cOf
   rw[(zBz hf).mpr ⟨hfm,h1⟩]
   rfl
variable {i:Nat}
theorem zFZ {α:Type}{l:List α}{x:α}(p:α->Bool)(h:l[i]? = some x):(l.take (i+1)).filter p=(l.take i).filter p++(if p x=true then [x] else []):=by
 rw[zq,h,zA1]
 show _++List.filter p [x]=_
 rw[zBu]
 rfl
theorem zLe {α β:Type}{l:List α}{x:α}(f:α->Option β)(h:l[i]? = some x):(l.take (i+1)).filterMap f=(l.take i).filterMap f++(f x).toList:=by
 rw[zq,h,List.filterMap_append]
 show _++List.filterMap f [x]=_
 cases e:f x with
 | none=>rw[List.filterMap_cons_none e];rfl
 | some y=>rw[List.filterMap_cons_some e];rfl
theorem Hub.lt (h:Hub es){j:Nat}{a b:En}(hij:i<j)(ha:es[i]? = some a)(hb:es[j]? = some b):a.h<b.h:=by
 obtain⟨h1,e1⟩:=zH.mp ha
 obtain⟨h2,e2⟩:=zH.mp hb
 rw[<-e1,<-e2]
 exact zy.mp h i j h1 h2 hij
end WM
namespace L2
open PySem PyProof.Rows
theorem zH5 {ps:List (Key×V)}(h:(ps.map (·.1)).Nodup):zER ps=ps:=by
 have:∀(ps a:List (Key×V)),((a++ps).map (·.1)).Nodup->ps.foldl (fun a p=>zCT a p.1 p.2) a=a++ps:=by
  intro ps
  induction ps with
  | nil=>intro a _;rw[zr];rfl
  | cons p ps ih=>
   intro a hn
   have e:zCT a p.1 p.2=a++[p]:=by
    unfold zCT
    rw[if_neg]
    intro z
    obtain⟨q,hq,e⟩:=List.any_eq_true.mp z
    have e':=of_decide_eq_true e
    rw[zS,zAV] at hn
    have:=(List.nodup_append.mp hn).2.2 q.1 (List.mem_map_of_mem hq) p.1 zV
    exact this e'
   rw[List.foldl_cons,e,ih (a++[p]) (by rw[List.append_assoc];exact hn),List.append_assoc]
   rfl
 exact this ps [] h
end L2
namespace WM
structure EG (ts:List T3)(n v:Int)(e:En):Prop where
 rng:0<=e.h/\e.h<n
 len:IsD ts v e.h e.l
 up:e.h≠v->∃p,e.u=some p/\Nxt ts v e.h p
 dn:e.h≠v->∃p,e.d=some p/\Nxt ts e.h v p
structure LG (ts:List T3)(n v:Int)(es:List En):Prop where
 hub:Hub es
 ent:∀e∈es,EG ts n v e
 own:∃e∈es,e.h=v
noncomputable def CovP (ts:List T3)(v w:Int)(es fs:List En):Prop:=∀d,IsD ts v w d->∃h,Btw ts v w h/\(∃e∈es,e.h=h)/\∃f∈fs,f.h=h
theorem LG.zero {n:Int}{ts:List T3}(g:GW n ts){v:Int}{es:List En}(L:LG ts n v es):∃e r,es.filter (fun e=>decide (e.l=0))=e::r/\e.h=v:=by
 obtain⟨o,ho,hov⟩:=L.own
 have hl:o.l=0:=by
  have:=(L.ent o ho).len
  rw[hov] at this
  exact this.uniq (zCH g v)
 have hm:o∈es.filter (fun e=>decide (e.l=0)):=zAG.mpr ⟨ho,zU hl⟩
 cases e:es.filter (fun e=>decide (e.l=0)) with
 | nil=>rw[e] at hm;simp at hm
 | cons a r=>
  have ha:a∈es.filter (fun e=>decide (e.l=0)):=by rw[e];exact zV
  obtain⟨h1,h2⟩:=zAG.mp ha
  have:=(zBy g (L.ent a h1).len).mp (of_decide_eq_true h2)
  exact⟨a,r,rfl,this.symm⟩
theorem zGv {n:Int}{ts:List T3}(g:GW n ts){v w:Int}{es fs:List En}(L1:LG ts n v es)(L2:LG ts n w fs)(C:CovP ts v w es fs){lm:Option (Int×Int)}(h:zDa (Cd es fs) lm) :
 Len ts v w (lm.map (·.1))/\∀c,lm=some c->Btw ts v w c.2:=by
 cases lm with
 | none=>
  refine⟨fun d hd=>?_,fun c z=>by cases z⟩
  obtain⟨d',hd'⟩:=Way.least g hd
  obtain⟨x,_,⟨e,he,e1⟩,⟨f,hf,f1⟩⟩:=C d' hd'
  exact h _ ⟨e,he,f,hf,by rw[f1,e1],rfl⟩
 | some c=>
  obtain⟨⟨e,he,f,hf,hfe,rfl⟩,hmin⟩:=h
  have ie:=(L1.ent e he).len
  have if':=(L2.ent f hf).len
  rw[hfe] at if'
  have wy:Way ts v w (e.l+f.l):=ie.1.trans if'.1.symm
  obtain⟨d,hd⟩:=Way.least g wy
  obtain⟨x,⟨a,b,ia,ib,iab⟩,⟨e',he',e1⟩,⟨f',hf',f1⟩⟩:=C d hd
  have ed:a+b=d:=iab.uniq hd
  have ea:e'.l=a:=by have:=(L1.ent e' he').len;rw[e1] at this;exact this.uniq ia
  have eb:f'.l=b:=by have:=(L2.ent f' hf').len;rw[f1] at this;exact this.uniq ib.symm
  have hm:=hmin (e'.l+f'.l,e'.h) ⟨e',he',f',hf',by rw[f1,e1],rfl⟩
  have h1:=hd.2 _ wy
  have es:e.l+f.l=d:=by
   rcases hm with z | z
   . have:e.l+f.l<e'.l+f'.l:=z
     omega
   . have:e.l+f.l=e'.l+f'.l:=z.1
     omega
  have id':IsD ts v w (e.l+f.l):=by rw[es];exact hd
  refine⟨id',fun c z=>?_⟩
  cases z
  exact⟨e.l,f.l,ie,if'.symm,id'⟩
theorem zKP {P:Int->Prop}(rk:Int->Int):∀(m:Nat)(p:Int),P p->(rk p).toNat<=m->∃q,P q/\∀r,P r->(rk q).toNat<=(rk r).toNat
 | 0,p,hp,h=>⟨p,hp,fun r _=>by omega⟩
 | m+1,p,hp,h=>by
  by_cases c:∃r,P r/\(rk r).toNat<(rk p).toNat
  . obtain⟨r,hr,hlt⟩:=c
    exact zKP rk m r hr (by omega)
  . exact⟨p,hp,fun r hr=>Nat.le_of_not_lt fun z=>c ⟨r,hr,z⟩⟩
end WM
namespace L2
open PySem PySem.Spec PyProof.Rows
end L2
namespace SortT
open PySem PySem.W PySem.Calls PyProof.Rows
section
variable {prog:Program}{w:World}{A:Around}{E:vSP}{s:Shared}
theorem gather_tup {t:Addr}{us:List Value}{Q:List Value->Shared->Prop}(ht:IsTup s.heap t us.toArray)(hz:us.length<=sizeLine)
 (q:Q us { s with heap:=(s.heap.push (seqObj "list" #[] 0)).update s.heap.objs.size (Obj.mapSeq (· ++ us.toArray)) }):wpAny (model prog w) A (collect (.ref t)) Q E s:=by
 obtain⟨ob,hob,cob,m,dob⟩:=ht
 have hob':(s.heap.push (seqObj "list" #[] 0)).get? t=some ob:=zG _ hob
 have new:(s.heap.push (seqObj "list" #[] 0)).get? s.heap.objs.size=some (seqObj "list" #[] 0):=zR _ rfl
 unfold collect
 refine zA (wpAny_runValue (codeAny_builtin entry_proto_collect' (zA (wpAny_newList (zF ⟨Code.quiet_builtin _ (by decide +kernel),codeAny_builtin entry_list_iadd' ?_⟩)))))
 show wpAny _ _ (Builtin.List.listExtendWith _ (.ref t) _) _ _ _
 unfold Builtin.List.listExtendWith
 refine zA (zBK (T := "tuple") ⟨ob,hob',cob⟩ ?_)
 have yes:(Value.type "tuple" == Value.type "tuple")=true:=rfl
 rw[if_pos (by rw[yes];simp)]
 refine zA (listItems_at hob' dob (zA (listItems_at (xs:=#[]) (n:=0) new rfl ?_)))
 rw[if_neg (by simp)]
 refine zA (listUpdate_at (xs:=#[]) (n:=0) new rfl (zF ?_) (ze _) (by simp;omega))
 refine zA (wpAny_load (get?_update_seq new _) ?_)
 have e:((#[]:Array Value)++us.toArray).toList=us:=by simp
 show wpAny _ _ (pure ((#[]:Array Value)++us.toArray).toList) Q E _
 rw[e]
 exact zF q
end
end SortT
namespace L2
open PySem PySem.Spec PyProof.Rows
section
variable {X:Cx}
noncomputable def rCatA (K:PySem.W.Frag):R2:=fun x y H Q=>∃a b xs ys,x = .ref a/\y = .ref b/\SqT K H a xs/\SqT K H b ys/\xs.length+ys.length<=sizeLine /\
 (xs=[]->Q (.ref b) H)/\(xs≠[]->ys=[]->Q (.ref a) H)/\(xs≠[]->ys≠[]->∀p,H p=none->Q (.ref p) (upd H p (.tup (xs++ys))))
theorem zLk {prog:Program}{w:World}{A:Around}{E:vSP}{s:Shared}{t b:Addr}{ws:List Value}{Q:vSP}(ht:IsTup s.heap t #[])(hb:IsTup s.heap b ws.toArray)
 (h:Q (.ref b) s):wpAny (model prog w) A (binaryOp .Add (.ref t) (.ref b)) Q E s:=by
 obtain⟨⟨cls,dd,data,sl⟩,ho,hc,n,hd⟩:=id ht
 obtain⟨⟨cls2,dd2,data2,sl2⟩,ho2,hc2,n2,hd2⟩:=id hb
 simp only at hc hd hc2 hd2
 subst hc hd hc2 hd2
 exact concat_meets ⟨_,ho,rfl⟩ ⟨_,ho2,rfl⟩ noFill_tuple_add seq_tuple_add PySem.F.slot_tuple_add PySem.F.entry_tuple_add (PySem.F.args_tuple_add_2 _ _)
  (tuple_addW0 t b #[] ws.toArray n n2 dd dd2 sl sl2 rfl) ⟨ho,ho2,h⟩
theorem zLB:OpR X (binaryOp .Add) (rCatA X.K):=by
 intro pins s σ H x y v u Q I rx ry h
 obtain⟨a,b,xs,ys,rfl,rfl,ha,hb,hz,q0,q1,q2⟩:=h
 by_cases hx:xs=[]
 . subst hx
   cases rx
   cases ry
   obtain⟨its,r1,p1,_⟩:=I.tuple ha
   obtain⟨its2,r2,p2,_⟩:=I.tuple hb
   cases r1
   exact zLk p1 p2 ⟨.ref b,H,I,rfl,q0 rfl⟩
 . exact zLA pins s σ H _ _ v u Q I rx ry ⟨a,b,xs,ys,rfl,rfl,ha,hb,hx,hz,q1 hx,q2 hx⟩
end
end L2
namespace HT
open PySem PySem.Spec PyProof.Rows
end HT
namespace L2
open PySem PySem.Spec PyProof.Rows
end L2
namespace HT
open PySem PySem.Spec PyProof.Rows
section
variable {prog:Program}{w:World}{A:Around}{E:vSP}{s:Shared}
theorem getItem_tuple_all {t sl:Addr}{items:Array Value}{vl vu:Value}{lo hi:Option Int}{Q:vSP}(ht:IsTup s.heap t items)(hs:s.heap.IsSliceOf sl vl vu .none)(pl:IsPart vl lo)(pu:IsPart vu hi)
 (hw:sIx items.size 0 lo=0/\sIx items.size items.size hi=items.size)(h:Q (.ref t) s):wpAny (model prog w) A (getItem (.ref t) (.ref sl)) Q E s:=by
 obtain⟨os,hos,hcs,hds⟩:=id hs
 have hTs:s.TypeIs (.ref sl) "slice" := ⟨os,hos,hcs⟩
 unfold getItem
 try with_reducible refine zAN ?_
 first | refine zA (zF ?_) | skip
 refine zA (wpAny_sequenceKey ht.typeIs (by decide) ?_)
 refine zA (zAz (name:=Str.ofString "__getitem__") ht.typeIs PyProof.Rows.slot_tuple_getitem
  (zA3 PyProof.Rows.slot_tuple_getitem ht.typeIs entry_tuple_getitem ?_ (args_tuple_getitem _ _)))
 show wpAny _ _ (Builtin.Tuple.tupleItemsOf (.ref t) >>= _) _ _ s
 refine zA (tupleItemsOf_ ht ?_)
 refine zA (zBK hTs ?_)
 rw[if_pos (by decide)]
 refine zA (zCY hs pl pu ?_)
 have hyes:(((sIx items.size 0 lo:Nat):Int)==0 && (1:Int)==1 && (sIx items.size items.size hi-sIx items.size 0 lo)==items.size)=true:=by
  rw[hw.1,hw.2];simp
 show wpAny _ _ (if (((sIx items.size 0 lo:Nat):Int)==0 && (1:Int)==1 && (sIx items.size items.size hi-sIx items.size 0 lo)==items.size)=true then _ else _) _ _ s
 rw[if_pos hyes]
 unfold Builtin.Tuple.tupleIsExact
 refine zA (zA (zBK ht.typeIs (zF ?_)))
 rw[if_pos (by decide)]
 first
  | exact zA (wpAny_rule (zF ⟨_,rfl,zF h⟩))
  | exact zA (wpAny_rule (zF (zF ⟨_,rfl,zF h⟩)))
  | exact zA (wpAny_rule (zA (zF (zF ⟨_,rfl,zF h⟩))))
  | exact wpAny_rule (zF ⟨_,rfl,zF h⟩)
end
end HT
namespace L2
open PySem PySem.Spec PyProof.Rows
section
variable {X:Cx}{e:Expr}{te:TE}{pos p2 p3 p4:Pos}
noncomputable def rSlA (K:PySem.W.Frag):V->Option Int->Option Int->Hp->VK->Prop:=fun x lo hi H Q=>∃a xs,x = .ref a/\SqT K H a xs /\
 ((HT.sIx xs.length 0 lo=0/\HT.sIx xs.length xs.length hi=xs.length)->Q (.ref a) H)/\(¬ (HT.sIx xs.length 0 lo=0/\HT.sIx xs.length xs.length hi=xs.length)->∀p,H p=none->Q (.ref p) (upd H p (.tup (zFx xs lo hi))))
theorem zKo:SlR X (rSlA X.K):=by
 intro pins s σ H x v vl vu lo hi sl Q I rx hs pl pu h
 obtain⟨a,xs,rfl,hx,q1,q2⟩:=h
 by_cases c:HT.sIx xs.length 0 lo=0/\HT.sIx xs.length xs.length hi=xs.length
 . cases rx
   obtain⟨its,r,ht,hz⟩:=I.tuple hx
   have hlen:its.toArray.size=xs.length:=by rw[zT];exact r.length.symm
   refine⟨"tuple",_,PyProof.Rows.slot_tuple_getitem.lookup,ht.typeIs,?_⟩
   exact HT.getItem_tuple_all ht hs pl pu (by rw[hlen];exact c) ⟨.ref a,H,I,rfl,q1 c⟩
 . exact sl_tup pins s σ H _ v vl vu lo hi sl Q I rx hs pl pu ⟨a,xs,rfl,hx,c,q2 c⟩
end
section
variable {X:Cx}{pins:lPO}{σ:St}{H:Hp}{s:Shared}{h':Heap}
theorem Inv.turnedLaid {t':Nat}{fp:List Addr}{a:Addr}{o:HO}(I:Inv X pins σ H s)(hf:∀b∈fp,zDF X pins H b)(k:∀b u,b∉fp->s.heap.get? b=some u->h'.get? b=some u)(hp:s.heap.objs.size<=a)
 (new:zBI X.prog X.w (upd H a o) h' a o):Inv X pins σ (upd H a o) { s with heap:=h',toks:=t' }:=by
 have fr:H a=none:=I.hok.fresh hp
 have nfp:∀b u,H b=some u->b∉fp:=fun b u e z=>by rw[(hf b z).1] at e;cases e
 have na:∀b u,H b=some u->b≠a:=fun b u e z=>by rw[z,fr] at e;cases e
 refine I.step (g':=s.gens) (d':=s.drawn) (ch:=fp) (fun b hb=>?_) (fun b u _ _ hc e _=>k b u hc e) (fun b u _ _ hc e _=>⟨u.slots,k b u hc e⟩) (fun b u hc e n=>?_) (fun b u hc e=>⟨u,k b u hc e⟩)
  (fun b xs e=>by rw[za (na b _ e)];exact e) (fun b u w e=>by rw[za (na b _ e)];exact e) (fun b ps e=>⟨#[],by rw[za (na b _ e),e];simp⟩) (fun m hm=>?_) (fun b u e=>?_) I.bare
 . obtain⟨f0,f1,f2,f3,f4,f5⟩:=hf b hb
   exact⟨f3,f1,f4,f5⟩
 . rw[za (zd (zo (zX e) hp))]
   exact n
 . obtain⟨u,es,ep,ho,r⟩:=hm
   exact⟨u,es,ep,k _ u (fun z=>(hf _ z).2.1 rfl) ho,r⟩
 . by_cases z:b=a
   . subst z
     rw[zJ] at e
     cases e
     exact new
   . rw[za z] at e
     refine (I.hok b u e).stay (fun c v hc q=>k c v ?_ q) (fun c q=>by rw[za (na c _ q)];exact q) fun c xs q=>by rw[za (na c _ q)];exact q
     rcases hc with z | z
     . rw[z];exact nfp b u e
     . exact nfp c _ z
end
end L2
namespace L2
open PySem PySem.Spec PyProof.Rows
open PySem.AutoSeq1 (wpAny_loadPart')
variable {items:Array Value}
section
variable {prog:Program}{w:World}{A:Around}{E:vSP}{s:Shared}
theorem zG7 {it t:Addr}{i:Nat}{x:Value}{Q:vSP}(hi:s.heap.IsTupleIter it t i)(ht:s.heap.IsTuple t items)(hx:items[i]? = some x)
 (hQ:∀h',h'.IsTupleIter it t (i+1)->Heap.SameBut it s.heap h'->Q x { s with heap:=h' }):wpAny (model prog w) A (Builtin.SmallTypes.nextOf (.ref it)) Q E s:=by
 obtain⟨oi,hoi,ci,di⟩:=id hi
 obtain⟨ot,hot,_,nt,dt⟩:=ht
 unfold Builtin.SmallTypes.nextOf
 refine zA (zAz (name:=Str.ofString "__next__") hi.typeIs PySem.F.slot_tuple_iterator_next (zA3 PySem.F.slot_tuple_iterator_next hi.typeIs PySem.F.entry_tuple_iterator_next ?_ (PySem.F.args_tuple_iterator_next_1 _)))
 show wpAny (model prog w) _ (field (.ref it) 0 >>= _) _ _ s;refine zA (wpAny_field hoi di (x:=.ref t) rfl ?_)
 show wpAny (model prog w) _ (if (Value.ref t==Value.none)=true then _ else _) _ _ s;rw[if_neg (show ¬ ((Value.ref t==Value.none)=true) from zh)]
 show wpAny (model prog w) _ (field (.ref it) 1 >>= _) _ _ s;refine zA (wpAny_field hoi di (x:=.int i 0) rfl ?_)
 show wpAny (model prog w) _ (seqItems? (.ref t) >>= _) _ _ s;refine zA (zBf hot dt ?_)
 simp only[hx,zAx]
 refine zA (wpAny_setField hoi di (by simp) (zF ⟨x,rfl,zF (hQ _ ?_ (Heap.SameBut.update ..))⟩))
 refine⟨_,zAc _ hoi (Obj.isFreed_of_fields (Obj.data_mapFields di _)),(Obj.cls_mapFields ..).trans ci,?_⟩
 rw[Obj.data_mapFields di];simp[rawInt]
theorem zFe {it t:Addr}{i:Nat}{Q:vSP}(hA:A.handled=none)(hi:s.heap.IsTupleIter it t i)(ht:s.heap.IsTuple t items)(hx:items[i]? = none)
 (hE:∀h' e,Heap.ExtBut it s.heap h'->(∃o,h'.get? e=some o/\o.cls = .type "StopIteration")->E (.ref e) { s with heap:=h' }):wpAny (model prog w) A (Builtin.SmallTypes.nextOf (.ref it)) Q E s:=by
 obtain⟨oi,hoi,ci,di⟩:=id hi
 obtain⟨ot,hot,_,nt,dt⟩:=ht
 unfold Builtin.SmallTypes.nextOf
 refine zA (zAz (name:=Str.ofString "__next__") hi.typeIs PySem.F.slot_tuple_iterator_next (zA3 PySem.F.slot_tuple_iterator_next hi.typeIs PySem.F.entry_tuple_iterator_next ?_ (PySem.F.args_tuple_iterator_next_1 _)))
 show wpAny (model prog w) _ (field (.ref it) 0 >>= _) _ _ s;refine zA (wpAny_field hoi di (x:=.ref t) rfl ?_)
 show wpAny (model prog w) _ (if (Value.ref t==Value.none)=true then _ else _) _ _ s;rw[if_neg (show ¬ ((Value.ref t==Value.none)=true) from zh)]
 show wpAny (model prog w) _ (field (.ref it) 1 >>= _) _ _ s;refine zA (wpAny_field hoi di (x:=.int i 0) rfl ?_)
 show wpAny (model prog w) _ (seqItems? (.ref t) >>= _) _ _ s;refine zA (zBf hot dt ?_)
 simp only[hx,zAx]
 refine zA (wpAny_rule (zA (wpAny_setField hoi di (by simp) ?_)))
 show wpAny (model prog w) _ (newExc (.type "StopIteration") [] >>= _) _ _ _;refine zA ?_
 simp only[newTuple,newExc]
 refine zA (zAn ?_ (by size_fits));refine zA (m:=firstArgMember _ _) (PySem.wpAny_of_eq (a:=Value.none) (by first | rfl | (simp only[firstArgMember];rfl)) ?_)
 refine zAn ?_ (by size_fits);simp only[raiseNew];refine zA (wpAny_handled ?_)
 first
  | rw[show A.in1.handled=none from hA]
  | rw[hA]
 exact zA (zF (wpAny_throw (hE _ _ (((Heap.SameBut.update ..).extBut.push _).push _) ⟨_,zR _ rfl,rfl⟩)))
end
theorem zIk {prog:Program}{w:World}{A:Around}(hA:A.handled=none)(it t:Addr)(hne:t≠it)(items:Array Value) :
 Draws prog w A it [it,t] items.size (fun i v=>items[i]? = some v) (fun i h=>h.IsTupleIter it t i/\h.IsTuple t items) where
 live:=fun _ _ st=>by
  obtain⟨⟨o,ho,_⟩,_⟩:=st
  exact⟨o,ho⟩
 frame:=fun _ h h' st hk=>by
  obtain⟨⟨o,ho,r⟩,o2,ho2,r2⟩:=st
  exact⟨⟨o,hk it (by simp) o ho,r⟩,o2,hk t (by simp) o2 ho2,r2⟩
 item:=fun i s Q E hi st hQ=>zG7 st.1 st.2 (x:=items[i]) (by simp[hi]) fun h' a b=>hQ _ h' s.toks (by simp[hi]) ⟨a,st.2.extBut b.extBut hne⟩ b
 done:=fun s Q E st hE=>zFe hA st.1 st.2 (by simp) hE
theorem zF8 (t:Addr)(items:Array Value)(n:Nat)(dct:Option Addr)(sl:Array (Option Value)) :
 Meets (Builtin.«enumerate.__new__» ⟨[.type "enumerate",.ref t],[]⟩) (fun _ R s=>s.heap.get? t=some { cls:=.type "tuple",dict:=dct,data:=.seq items n,slots:=sl } /\
  R (.ok (.ret (.ref (s.heap.push { cls:=.type "tuple_iterator",data:=.fields #[.ref t,.int 0 0] }).objs.size))) { s with heap:=(s.heap.push { cls:=.type "tuple_iterator",data:=.fields #[.ref t,.int 0 0] }).push { cls:=.type "enumerate",data:=.fields #[.none,.bool false,.ref s.heap.objs.size,rawInt 0,.none,.none] } }):=by
 refine .of_wp fun prog w A R s hs=>?_
 obtain⟨hp,g,d,tk,os⟩:=s
 obtain⟨ho,hR⟩:=hs
 have su:=sub_enumerate
 have tT:Heap.IsTuple (Shared.heap ⟨hp,g,d,tk,os⟩) t items:=⟨_,ho,rfl,n,rfl⟩
 wp_walk using wpAny_loadPart' ho
 refine wpAny_stack_any fun stk=>zF ?_
 split
 . rename_i c _ _ _ _ _
   cases (c==Value.type "enumerate") <;> (wp_walk using wpAny_loadPart' ho,wpAny_pyIter_tuple tT;exact⟨_,rfl,hR⟩)
 . wp_walk using wpAny_loadPart' ho,wpAny_pyIter_tuple tT
   exact⟨_,rfl,hR⟩
theorem zHQ {prog:Program}{w:World}{A:Around}{E:vSP}{s:Shared}{t:Addr}{Q:vSP}(hT:s.heap.IsTuple t items)
 (h:∀h',IsEnum h' (s.heap.objs.size+1) s.heap.objs.size 0 .none->h'.IsTupleIter s.heap.objs.size t 0->(∀b o,s.heap.get? b=some o->h'.get? b=some o)->Q (.ref (s.heap.objs.size+1)) { s with heap:=h' }) :
 wpAny (model prog w) A (call (.type "enumerate") [.ref t]) Q E s:=by
 obtain⟨⟨c,dct,dt,sl⟩,ho,hc,n,hd⟩:=hT
 obtain rfl:c = .type "tuple" := hc
 obtain rfl:dt = .seq items n:=hd
 refine callType_new PySem.F.called_enumerate (by decide) (PySem.F.typeCall_enumerate_1 _) (PySem.F.newCall_enumerate_1 _) (fun obj=>PySem.F.args_object_init_2 obj _) PySem.F.entry_enumerate_new (zF8 t items n dct sl) ⟨ho,?_⟩
 have hz:(s.heap.push { cls:=.type "tuple_iterator",data:=.fields #[.ref t,.int 0 0] }).objs.size=s.heap.objs.size+1:=zAt ..
 show _/\_
 rw[hz]
 have he:IsEnum ((s.heap.push { cls:=.type "tuple_iterator",data:=.fields #[.ref t,.int 0 0] }).push { cls:=.type "enumerate",data:=.fields #[.none,.bool false,.ref s.heap.objs.size,rawInt 0,.none,.none] }) (s.heap.objs.size+1) s.heap.objs.size 0 .none:=by
  have g:=zR (s.heap.push { cls:=.type "tuple_iterator",data:=.fields #[.ref t,.int 0 0] }) (o:={ cls:=.type "enumerate",data:=.fields #[.none,.bool false,.ref s.heap.objs.size,rawInt 0,.none,.none] }) rfl
  rwa [hz] at g
 exact⟨⟨_,he,rfl⟩,h _ he ⟨_,zG _ (zR _ rfl),rfl,rfl⟩ fun b o x=>zG _ (zG _ x)⟩
noncomputable def ItnT (K:PySem.W.Frag)(a:Addr):It:=
 ⟨fun i H=>∃xs x,SqT K H a xs/\xs[i]? = some x,fun i H x H'=>∃T v,x = .ref T/\H T=none/\H'=upd H T (.tup [.int i,v])/\∀xs,SqT K H a xs->xs[i]? = some v,fun i H=>∃xs,SqT K H a xs/\xs.length<=i⟩
theorem zGu {P:Program}{w:World}{K:PySem.W.Frag}{elts:List Expr} {x1} {tp:Pos}(a e it:Addr):Turn P w K (.Tuple elts x1 tp) (ItnT K a) [e,it] e (fun i h=>(∃old,IsEnum h e it (i:Nat) old)/\h.IsTupleIter it a i/\e≠it/\a≠it/\a≠e) where
 mem:=by simp
 obj:=fun i h st b hb=>by
  obtain⟨⟨old,he⟩,⟨o,e1,c,d⟩,_⟩:=st
  rcases zi.mp hb with rfl | hb
  . exact⟨_,he,fun v z=>by cases z⟩
  . have e2:b=it:=by simpa using hb
    subst e2
    exact⟨o,e1,fun v z=>by rw[d] at z;cases z⟩
 keep:=fun i h h' st k=>by
  obtain⟨⟨old,he⟩,⟨o,e1,r⟩,ne⟩:=st
  exact⟨⟨old,k e (by simp) _ he⟩,⟨o,k it (by simp) o e1,r⟩,ne⟩
 item:=by
  intro X hP hw hK hc i pins s σ H E I hf st hg
  subst hP hw hK
  obtain⟨⟨old,he⟩,hit,ne,nai,nae⟩:=st
  obtain⟨xs,x,hq,hx⟩:=hg
  obtain⟨its,rv,p,hz⟩:=I.tuple hq
  obtain⟨u,hu,ru⟩:=rv.get hx
  have elt:e<s.heap.objs.size:=zX he
  have ilt:it<s.heap.objs.size:=by obtain⟨_,q,_⟩:=id hit;exact zX q
  have hlt:i<its.toArray.size:=by
   have:=(zH.mp hu).1
   simpa using this
  refine wpAny_pyNext_enum_itemD (zIk (A:=X.A.in1) (I.ok.hd hc) it a nai its.toArray) he ⟨hit,p⟩ hlt ne (by simp;exact⟨ne,fun z=>nae z.symm⟩) fun y h' tk hy heo hst' hT hsz hk=>?_
  have hyu:y=u:=by
   have h1:its[i]? = some y:=by simpa using hy
   rw[hu] at h1
   exact (zY h1).symm
  subst hyu
  refine⟨_,rfl,wpAny_letOwnedTupleGo_enum heo fun h2 he2 hs2=>?_⟩
  have hT2:h2.get? s.heap.objs.size=some { cls:=.type "tuple",data:=.seq #[.int i tk,y] }:=(hs2.2 _ (Nat.ne_of_gt elt)).trans hT
  refine⟨.ref s.heap.objs.size,upd H s.heap.objs.size (.tup [.int i,x]),I.turnedLaid (t':=tk+1) (fp:=[e,it]) hf (fun b o hb q=>?_) (zK _) ?_,rfl,⟨_,x,rfl,I.hok.fresh (zK _),rfl,fun zs hzs=>by rw[I.tuple_inj hzs hq];exact hx⟩,⟨⟨y,?_⟩,?_,ne,nai,nae⟩,fun b hb=>?_⟩
  . exact (hs2.2 b fun z=>hb (by simp[z])).trans (hk b o (fun z=>hb (by simp[z])) (fun z=>hb (by simp[z])) q)
  . exact⟨⟨by show 2<=sizeLine;decide,_,hT2,rfl⟩,[.int i tk,y],.cons ⟨_,rfl⟩ (.cons ru .nil),⟨_,hT2,rfl,_,rfl⟩⟩
  . have:=he2
    rwa [show ((i:Nat):Int)+1=((i+1:Nat):Int) by omega] at this
  . obtain⟨⟨o,ho,r⟩,_⟩:=hst'
    exact⟨o,(hs2.2 it (Ne.symm ne)).trans ho,r⟩
  . rcases zi.mp hb with rfl | hb
    . rw[za (zd elt)];exact (hf _ (by simp)).1
    . have e2:b=it:=by simpa using hb
      subst e2
      rw[za (zd ilt)];exact (hf _ (by simp)).1
 done:=by
  intro X hP hw hK hc i pins s σ H E I hf st hg
  subst hP hw hK
  obtain⟨⟨old,he⟩,hit,ne,nai,nae⟩:=st
  obtain⟨xs,hq,hx⟩:=hg
  obtain⟨its,rv,p,hz⟩:=I.tuple hq
  obtain⟨f0,f1,f2,f3,f4,f5⟩:=hf it (by simp)
  have hl:=rv.length
  unfold pyNext
  have hT:s.TypeIs (.ref e) "enumerate" := ⟨_,he,rfl⟩
  refine zA (wpAny_attempt (zAz (name:=Str.ofString "__next__") hT PySem.F.slot_enumerate_next (zA3 PySem.F.slot_enumerate_next hT PySem.F.entry_enumerate_next ?_ (PySem.F.args_enumerate_next_1 _))))
  show wpAny (model X.prog X.w) _ (field (.ref e) 2 >>= _) _ _ s;refine zA (wpAny_field he rfl (x:=.ref it) rfl ?_)
  refine zA (zFe (A:=X.A.in1) (I.ok.hd hc) hit p (by simp;omega) fun h' z eb hz'=>?_)
  obtain⟨o,ho,hcl⟩:=hz'
  refine zA (zBY (T := "StopIteration") (b:=true) ⟨o,ho,hcl⟩ isSubtype_stop (zF ?_))
  exact⟨rfl,I.turned (t':=s.toks) (fun b o hb e=>eb b o hb e) f0 f1 f3 f4 f5⟩
 self:=fun _ _ _ _ _ st h=>by
  obtain⟨⟨old,he⟩,_⟩:=st
  exact wpAny_pyIter_enum he h
section
variable {X:Cx}
noncomputable def iEnumT (K:PySem.W.Frag)(ta:TA):TI:=fun σ H R=>ta σ H fun vs H1=>∃a,vs=[.ref a]/\(∃xs,SqT K H1 a xs)/\R (ItnT K a) H1
theorem zEo {elts:List Expr} {x1} {tp:Pos}{a:Expr}{ta:TA}{p pos:Pos}(hg:Gl X "enumerate") (hm:X.mg "enumerate" = none) (ha:PA X [a] ta)(hs:starEach [a] X.env=[(false,eval a X.env)]:=by rfl):PI X (.Tuple elts x1 tp) (.Call (.Name "enumerate" p) [a] [] pos) (iEnumT X.K ta):=by
 intro pins s σ H R I h
 refine Call_ (zCe I hg hm boot_enumerate (PyProof.Rows.callWith_type1 (thn (ha pos pins s σ H _ I h) fun us s1 ⟨vs,H1,I1,r1,q1⟩=>?_) hs rfl))
 obtain⟨l,e,⟨xs,hq⟩,q⟩:=q1
 subst e
 obtain⟨u,rfl,rx⟩:=zCS r1
 cases rx
 obtain⟨its,rv,pl,hz⟩:=I1.tuple hq
 have hll:l<s1.heap.objs.size:=by obtain⟨o,ho,_⟩:=id pl;exact zX ho
 refine zHQ pl fun h' he hit hk=>?_
 refine wpAny_pyIter_enum he ?_
 refine⟨s1.heap.objs.size+1,[s1.heap.objs.size+1,s1.heap.objs.size],_,_,H1,rfl,I1.kept (t':=s1.toks) hk,zGu l _ _,⟨⟨_,he⟩,hit,Nat.succ_ne_self _,zd hll,zd (zAo hll)⟩,fun b hb=>?_,q⟩
 rcases zi.mp hb with rfl | hb
 . exact I1.fpOk (zAq _) (I1.hok.fresh (zAq _))
 . have e2:b=s1.heap.objs.size:=by simpa using hb
   subst e2
   exact I1.fpOk (zK _) (I1.hok.fresh (zK _))
end
theorem zD2 {K:PySem.W.Frag}{a:Addr}{xs:List V}{g:TG}{tb:TS}{D:zJF}{σ:St}{H:Hp}(Pv:Nat->St->Hp->Prop)(h0:Pv 0 σ H)(hl:∀i σ H,i<=xs.length->Pv i σ H->SqT K H a xs)
 (hs:∀i x σ H T,xs[i]? = some x->Pv i σ H->H T=none->g (.ref T) σ (upd H T (.tup [.int i,x])) fun σ2 H2=>tb { D with nx:=Pv (i+1),ct:=Pv (i+1),bk:=D.nx } σ2 H2)(hd:∀ σ H,Pv xs.length σ H->D.nx σ H) :
 ∃W:Nat->Nat->St->Hp->Prop,(∃m,W 0 m σ H)/\∀i m σ H,W i m σ H ->
  ((ItnT K a).stop i H/\D.nx σ H)\/((ItnT K a).go i H/\∃N:St->Hp->Prop,(∀ σ' H',N σ' H'->∃m',m'<m/\W (i+1) m' σ' H')/\∀x H',(ItnT K a).yld i H x H'->g x σ H' fun σ2 H2=>tb { D with nx:=N,ct:=N,bk:=D.nx } σ2 H2):=by
 refine⟨fun i m σ H=>i<=xs.length/\m=xs.length-i/\Pv i σ H,⟨_,ze _,rfl,h0⟩,fun i m σ H h=>?_⟩
 obtain⟨hi,rfl,hp⟩:=h
 by_cases c:i<xs.length
 . refine .inr ⟨⟨xs,xs[i],hl i σ H hi hp,zB c⟩,Pv (i+1),fun σ' H' hp'=>⟨xs.length-(i+1),by omega,c,rfl,hp'⟩,fun x H' y=>?_⟩
   obtain⟨T,v,rfl,hT,rfl,hv⟩:=y
   exact hs i v σ H T (hv xs (hl i σ H hi hp)) hp hT
 . have e:i=xs.length:=by omega
   subst e
   exact .inl ⟨⟨xs,hl _ σ H hi hp,zK _⟩,hd σ H hp⟩
end L2
namespace L2
open PySem PySem.Spec PyProof.Rows
open PySem.AutoSeq1 (wpAny_loadPart')
variable {h:Heap}
theorem zBI.there {P:Program}{w:World}{H:Hp}{a:Addr}{o:HO}(x:zBI P w H h a o):∃ob,h.get? a=some ob:=by
 cases o with
 | lst xs=>obtain⟨_,_,_,_,e⟩:=x;exact⟨_,e⟩
 | tup xs=>obtain⟨⟨_,o2,e2,_⟩,_⟩:=x;exact⟨_,e2⟩
 | dK kvs=>obtain⟨_,_,_,_,o,_,_,e,_⟩:=x;exact⟨_,e⟩
 | dT kvs=>obtain⟨_,_,_,_,o,_,_,e,_⟩:=x;exact⟨_,e⟩
 | set S n=>obtain⟨o,_,_,_,e,_⟩:=x;exact⟨_,e⟩
 | ins C dx fs=>obtain⟨_,_,_,e,_⟩:=x;exact⟨_,e⟩
 | own y=>obtain⟨_,e⟩:=x;exact⟨_,e⟩
 | xd fs=>obtain⟨_,⟨_,_,_,e,_⟩,_⟩:=x;exact⟨_,e⟩
 | rng lo hi=>obtain⟨_,_,_,e⟩:=x;exact⟨_,e⟩
 | frz ob u=>obtain⟨e,_⟩:=x;exact⟨_,e⟩
 | tbl ps=>exact⟨_,show h.get? a=some _ from x⟩
 | met f y=>exact⟨_,show h.get? a=some _ from x⟩
 | ext φ=>obtain⟨_,⟨_,e⟩,_⟩:=x;exact⟨_,e⟩
theorem HOk.stays {P:Program}{w:World}{H:Hp}{h' B:Heap}(x:HOk P w H h)(k:B.StaysIn h)(k':B.StaysIn h')(tr:∀b u,H b=some u->∃o,B.get? b=some o):HOk P w H h':=fun a o e=>
 (x a o e).stay (fun b u hb q=>by
  have:∃v,H b=some v:=by
   rcases hb with rfl | hb
   . exact⟨_,e⟩
   . exact⟨_,hb⟩
  obtain⟨v,hv⟩:=this
  obtain⟨o',ho'⟩:=tr b v hv
  have e2:o'=u:=zY ((k b o' ho').symm.trans q)
  exact e2 ▸ k' b o' ho') (fun _ q=>q) fun _ _ q=>q
noncomputable abbrev bmV:List Value:=[.type "ValueError",.type "Exception",.type "BaseException",.type "object"]
variable {C:Addr}{newId:String}
theorem zIi {K:PySem.W.Frag}{bmB:List Value}(X:K.In h)(q:PySem.W.excIn K C bmB newId=true) :
 ∃bm N nm qn bs hdct sn sub ab col dd k0 k1 k2 k3 k5 mN,h.get? C=some (excClassObj nm qn C N bs bm hdct sn sub ab col dd k0 k1 k2 k3 k5 newId)/\h.Ns N mN/\mN "__init__" = none/\OwnTail h bmB bm:=by
 unfold PySem.W.excIn at q
 split at q
 . next dd cd sl look=>
   split at q
   . next D bm k0 k1 k2 k3 n k5 em es=>
     simp only[Bool.and_eq_true,beq_iff_eq,Bool.not_eq_true'] at q
     obtain⟨⟨⟨⟨⟨q1,q2⟩,q3⟩,q4⟩,q5⟩,q6⟩:=q
     subst q1 q2
     cases cd
     simp only at em q3 q5 q6
     subst em q3
     cases sl
     simp only at es
     subst es
     exact⟨_,_,_,_,_,_,_,_,_,_,_,_,_,_,_,_,_,X _ _ look,.of_isNs (PySem.W.isNs_of_in X q5),PySem.W.nsMap_none_of_in X q5 q6,PySem.W.tail_of_in X q4⟩
   . cases q
 . cases q
theorem zG8 {M:Model}{A:Around}{E:vSP}{s:Shared}{nm qn nm' qn':Str}{W Nn Nn':Addr}{bs bm bs' bm':List Value}{hdct hdct':Bool}{sn sn':List Str}{sub sub':List Value}{ab ab':Bool}{col col':Option Bool}{dd dd':Option Addr}
 {k0 k1 k2 k3 k5 k0' k1' k2' k3' k5':Option Value}{newId':String}{e:Addr}{oe:Obj}{Q:Bool->Shared->Prop}
 (hC:s.heap.get? C=some (excClassObj nm qn C Nn bs bm hdct sn sub ab col dd k0 k1 k2 k3 k5 newId))(hW:s.heap.get? W=some (excClassObj nm' qn' W Nn' bs' bm' hdct' sn' sub' ab' col' dd' k0' k1' k2' k3' k5' newId'))
 (he:s.heap.get? e=some oe)(hcls:oe.cls = .ref C)(hb:bm'.contains (.type "BaseException")=true) (hs:(Value.ref C::bm).contains (.ref W)=true)(hq:Q true s):wpAny M A (excMatches (.ref e) (.ref W)) Q E s:=by
 obtain⟨h,g,d,t,os⟩:=s
 have hWB:(Value.ref W::bm').contains (.type "BaseException")=true:=by rw[List.contains_cons,hb,Bool.or_true]
 have f:=tc_notTuple
 unfold excMatches
 repeat (first | (with_reducible refine zA8 he ?_;rw[hcls]) | with_reducible refine zA8 hW ?_ | (with_reducible refine wpAny_isSubtype_exc hW ?_;rw[hWB]) | (with_reducible refine wpAny_isSubtype_exc hC ?_;rw[hs]) | wp_step)
 exact hq
noncomputable def subIn (K:PySem.W.Frag)(C W:Addr):Bool:=match K.lookup C with
 | some ⟨_,_,.cls cd,_⟩=>cd.mro.contains (.ref W)
 | _=>false
theorem sub_of {K:PySem.W.Frag}{W:Addr}{nm qn:Str}{Nn:Addr}{bs bm:List Value}{hdct:Bool}{sn:List Str}{sub:List Value}{ab:Bool}{col:Option Bool}{dd:Option Addr}{k0 k1 k2 k3 k5:Option Value}
 (X:K.In h)(q:subIn K C W=true)(hC:h.get? C=some (excClassObj nm qn C Nn bs bm hdct sn sub ab col dd k0 k1 k2 k3 k5 newId)):(Value.ref C::bm).contains (.ref W)=true:=by
 unfold subIn at q
 split at q
 . next look=>
   have e:=(X _ _ look).symm.trans hC
   unfold excClassObj at e
   cases e
   exact q
 . cases q
noncomputable def Cx.held (X:Cx)(ea:Addr)(oe:Obj):Cx:={ X with A:=X.A.mark (some (.ref ea)),calm:=false,pn:=(ea,oe)::X.pn,xe:=fun _ _=>False }
section
variable {X:Cx}{pins:lPO}{σ:St}{H:Hp}{s:Shared}{ea:Addr}{oe:Obj}
theorem Inv.hold (I:Inv X pins σ H s)(h1:s.heap.get? ea=some oe)(h2:H ea=none)(h3:ea≠X.env.locals)(h4:ea∉X.fs)(h5:∀v,oe.data ≠ .cell v):Inv (X.held ea oe) pins σ H s:=
 ⟨⟨I.ok.mod,I.ok.kind,I.ok.glob,I.ok.blt,I.ok.above,I.ok.inj,I.ok.has,I.ok.cab,(fun z=>by cases z),I.ok.frames,I.ok.stk,I.ok.exf,I.ok.bs,I.ok.bsz,I.ok.noex,I.ok.exfs,I.ok.funs,I.ok.frf⟩,I.os,I.bare,I.base,I.loc,I.cell,I.free,I.freeC,
  fun p hp=>by
   rcases zi.mp (show p∈(ea,oe)::(X.pn++pins) from hp) with rfl | hp
   . exact⟨h1,h2,h3,h4,h5⟩
   . exact I.pin p hp,I.hok,I.len⟩
theorem Inv.letgo (ok:X.Ok)(I:Inv (X.held ea oe) pins σ H s):Inv X pins σ H s:=
 ⟨ok,I.os,I.bare,I.base,I.loc,I.cell,I.free,I.freeC,fun p hp=>I.pin p (zc _ hp),I.hok,I.len⟩
end
theorem zIV {st:List Env}{H1 H':Hp}{s1 s':Shared}{ea:Addr}{C a0:Value}{B h5:Heap}(un:Un (frs st) [] H1 H' s1.heap s'.heap)(fl:Heap.FlyingW B st ea C a0 s'.heap)
 (old:∀b o,s1.heap.get? b=some o->H1 b=none->b∉frs st->B.get? b=some o)(al:∀b o,s1.heap.get? b=some o->b∉frs st->∃o',B.get? b=some o')(st5:B.StaysIn h5)(up:s'.heap.UpToSlots h5):Un (frs st) [] H1 H' s1.heap h5:=by
 refine⟨fun b o e n hb _=>st5 b o (old b o e n hb),fun b o e n hb _=>?_,un.free,fun b o e _=>?_,un.tups,un.frzs,un.tbls⟩
 . obtain⟨sl2,e2⟩:=un.slot b o e n hb (by intro z;cases z)
   obtain⟨_,o3,e3,nd⟩:=fl.2.2.1.mem hb
   obtain⟨sl4,e4⟩:=up b _ e3 nd
   have e5:=zY (e3.symm.trans e2)
   rw[e5] at e4
   exact⟨sl4,e4⟩
 . by_cases hb:b∈frs st
   . obtain⟨_,o3,e3,nd⟩:=fl.2.2.1.mem hb
     obtain⟨sl4,e4⟩:=up b _ e3 nd
     exact⟨_,e4⟩
   . obtain⟨o3,e3⟩:=al b o e hb
     exact⟨_,st5 b o3 e3⟩
end L2
namespace L2
open PySem PySem.Spec PySem.W PyProof.Rows Builtin Builtin.ObjectAttr Builtin.Getset_descriptor
section
variable {prog:Program}{w:World}{A:Around}{E:vSP}{s:Shared}{K:Frag}{x C:Addr}{ox:Obj}
noncomputable def zJ8 (h:Heap)(x C:Addr):Prop:=∃o,h.get? x=some o/\o.cls = .ref C
theorem zJ8.type {M:Model}{h:Heap}{x C:Addr}(I:zJ8 h x C):Looks M h (typeOf (.ref x)) (.ref C):=by
 obtain⟨o,e,c⟩:=I
 rw[<-c]
 exact (Looks.ld e).andThen .now
end
end L2
namespace L2
open PySem PySem.Spec PyProof.Rows
noncomputable def DK (h h':Heap):Prop:=∀b o,h.get? b=some o->∃o',h'.get? b=some o'/\o'.dict=o.dict
theorem DK.refl (h:Heap):DK h h:=fun _ o e=>⟨o,e,rfl⟩
theorem DK.trans {h1 h2 h3:Heap}(a:DK h1 h2)(b:DK h2 h3):DK h1 h3:=fun x o e=>by
 obtain⟨o1,e1,d1⟩:=a x o e
 obtain⟨o2,e2,d2⟩:=b x o1 e1
 exact⟨o2,e2,d2.trans d1⟩
noncomputable def KD {α:Type}:Sem α->Prop
 | .pure _=>True
 | .raise _=>True
 | .unsupported _=>True
 | .finish _=>True
 | .rule _ k=>KD (k ())
 | .at _ k=>KD (k ())
 | .load _ _ k=>∀o,KD (k o)
 | .update _ _ f k=>(∀o,(f o).dict=o.dict/\(o.isFreed=false->(f o).isFreed=false))/\KD (k ())
 | .alloc _ k=>∀a,KD (k a)
 | .loadIfAlive _ k=>∀o,KD (k o)
 | .point _ k=>KD (k ())
 | .fresh k=>∀t,KD (k t)
 | .ask k=>∀x,KD (k x)
 | .stack k=>∀l,KD (k l)
 | .handled _ k=>∀v,KD (k v)
 | _=>False
theorem KD.bind {α β:Type}{t:Sem α}{k:α->Sem β}(h:KD t)(hk:∀a,KD (k a)):KD (t >>= k):=by
 show KD (Sem.bind t k)
 induction t with
 | pure a=>exact hk a
 | raise e=>trivial
 | unsupported w=>trivial
 | finish e=>trivial
 | rule t f ih=>exact ih () h
 | «at» p f ih=>exact ih () h
 | load a p f ih=>exact fun o=>ih o (h o)
 | update a p f g ih=>exact⟨h.1,ih () h.2⟩
 | alloc o f ih=>exact fun a=>ih a (h a)
 | loadIfAlive a f ih=>exact fun o=>ih o (h o)
 | point l f ih=>exact ih () h
 | fresh f ih=>exact fun t=>ih t (h t)
 | ask f ih=>exact fun x=>ih x (h x)
 | stack f ih=>exact fun l=>ih l (h l)
 | handled o f ih=>exact fun v=>ih v (h v)
 | register=>exact h.elim
 | choose=>exact h.elim
 | os=>exact h.elim
 | call=>exact h.elim
 | newGen=>exact h.elim
 | genState=>exact h.elim
 | resume=>exact h.elim
 | yield=>exact h.elim
 | fork=>exact h.elim
 | thread=>exact h.elim
 | await=>exact h.elim
variable {M:Model}
theorem KD.wp {α:Type}{Γ : PySem.Ctx}{t:Sem α}(h:KD t){h0:Heap}{Q:α->Pos->Shared->Prop}{E:Value->Pos->Shared->Prop}:∀{p:Pos}{s:Shared},DK h0 s.heap->Sem.wp M Γ t Q E p s->Sem.wp M Γ t (fun a p' s'=>Q a p' s'/\DK h0 s'.heap) E p s:=by
 induction t with
 | pure a=>exact fun d w=>⟨w,d⟩
 | raise e=>exact fun d w=>w
 | unsupported w=>exact fun d w=>w
 | finish e=>exact fun d w=>w
 | rule t f ih=>exact fun d w=>ih () h d w
 | «at» p f ih=>exact fun d w=>ih () h d w
 | load a p f ih=>
  intro p s d w
  obtain⟨o,e,w⟩:=w
  exact⟨o,e,ih o (h o) d w⟩
 | update a p f g ih=>
  intro p s d w
  obtain⟨e,w⟩:=w
  refine⟨e,ih () h.2 (d.trans fun b o q=>?_) w⟩
  by_cases c:b=a
  . subst c
    have fr:=(Heap.get?_some_iff.mp q).2
    exact⟨f o,zAc f q ((h.1 o).2 fr),(h.1 o).1⟩
  . exact⟨o,(Heap.get?_update_other _ _ (Ne.symm c)).trans q,rfl⟩
 | alloc o f ih=>
  intro p s d w
  exact ih _ (h _) (d.trans fun b o q=>⟨o,zG _ q,rfl⟩) w
 | loadIfAlive a f ih=>exact fun d w=>ih _ (h _) d w
 | point l f ih=>exact fun d w=>ih () h d w
 | fresh f ih=>exact fun d w=>ih _ (h _) d w
 | ask f ih=>exact fun d w=>ih _ (h _) d w
 | stack f ih=>exact fun d w=>ih _ (h _) d w
 | handled o f ih=>exact fun d w=>ih _ (h _) d w
 | register=>exact h.elim
 | choose=>exact h.elim
 | os=>exact h.elim
 | call=>exact h.elim
 | newGen=>exact h.elim
 | genState=>exact h.elim
 | resume=>exact h.elim
 | yield=>exact h.elim
 | fork=>exact h.elim
 | thread=>exact h.elim
 | await=>exact h.elim
variable {A:Around}
theorem zCy {α:Type}{t:Sem α}{Q:α->Shared->Prop}{E:vSP}{s:Shared}(k:KD t)(h:wpAny M A t Q E s):wpAny M A t (fun a s'=>Q a s'/\DK s.heap s'.heap) E s:=
 fun Γ p hΓ => k.wp (DK.refl _) (h Γ p hΓ)
theorem zC7 {α:Type}{c:Prop} [Decidable c] {a b:Sem α}(h1:KD a)(h2:KD b):KD (if c then a else b):=by split <;> assumption
theorem zGA (v:Value):KD (fieldsOf v):=by
 unfold fieldsOf
 split
 . refine KD.bind (fun o=>trivial) fun o=>?_
   split <;> trivial
 . trivial
theorem zDe (v:Value)(i:Nat):KD (field v i):=by
 unfold field
 refine KD.bind (zGA v) fun vs=>?_
 split <;> trivial
theorem zIg (g:Array Value->Array Value)(o:Obj):(Obj.mapFields g o).dict=o.dict/\(o.isFreed=false->(Obj.mapFields g o).isFreed=false):=by
 obtain⟨c,d,dt,sl⟩:=o
 cases dt <;> exact⟨rfl,fun h=>h⟩
theorem zCv (v:Value)(i:Nat)(x:Value):KD (setField v i x):=by
 unfold setField
 split
 . unfold updateField
   refine KD.bind (fun o=>trivial) fun o=>?_
   split
   . exact zC7 ⟨fun o=>zIg _ o,trivial⟩ trivial
   . trivial
 . trivial
theorem zCf (e:Value)(f:Option Addr):KD (setFlight e f):=by
 unfold setFlight
 refine KD.bind (zDe e 1) fun tb=>zC7 (zCv _ _ _) trivial
theorem zFU:KD frameEnvs:=by
 unfold frameEnvs
 exact KD.bind (fun l=>trivial) fun l=>trivial
theorem zIa (env:Env)(l:List Env):KD (behindIsImport env l):=by
 unfold behindIsImport
 exact zC7 trivial (zC7 trivial (KD.bind (zDe _ _) fun _=>trivial))
theorem zLV (env:Env)(b:Bool)(l:List Env):KD (keptBack env b l):=by
 unfold keptBack
 split
 . refine zC7 trivial ?_
   refine KD.bind ?_ fun _=>trivial
   unfold underTheClaimsCaller
   exact KD.bind (fun l=>trivial) fun l=>trivial
 . trivial
theorem zGf:∀l:List Env,KD (readyFrames l)
 | []=>trivial
 | env::outer=>by
  unfold readyFrames
  split
  . refine KD.bind (fun o=>trivial) fun o=>?_
    refine zC7 trivial ?_
    refine KD.bind (zIa _ _) fun b=>?_
    refine KD.bind (zLV _ _ _) fun b=>?_
    refine KD.bind ⟨fun o=>⟨rfl,fun h=>(by obtain⟨c,d,dt,sl⟩:=o;cases dt <;> exact h)⟩,trivial⟩ fun _=>zGf outer
  . trivial
theorem zHF (env:Env):KD (PySem.frameOf env):=by
 unfold PySem.frameOf
 refine KD.bind zFU fun l=>?_
 refine KD.bind ?_ fun r=>?_
 . unfold frameObject
   split
   . trivial
   . exact KD.bind (zGf _) fun _=>trivial
 . split <;> trivial
theorem zJt (f:Addr)(b:Bool):KD (entryPlaceOf f b):=by
 unfold entryPlaceOf
 refine KD.bind (fun l=>trivial) fun l=>?_
 split <;> trivial
theorem zJu (a b c d e:Value)(l:List Value):KD (EntryCells.newEntry a b c d e l):=by
 unfold EntryCells.newEntry newFields newObj
 have fin:∀d:Data,KD (newObjAsIs (.type "traceback") d):=fun d=>by
  unfold newObjAsIs
  exact KD.bind (fun a=>trivial) fun a=>trivial
 simp only[]
 exact zC7 (KD.bind trivial fun _=>fin _) (fin _)
theorem zIZ (e:Value)(env:Env):KD (noteFrame e env):=by
 unfold noteFrame
 split
 . refine KD.bind (zDe _ _) fun hd=>?_
   have fin:∀f:Addr,KD (do setField e 1 (<-EntryCells.newEntry hd (<-PySem.frameOf env) .none (rawInt f) .none (<-entryPlaceOf f (hd != .none)))):=fun f=>
    KD.bind (zHF env) fun a=>KD.bind (zJt _ _) fun pl=>KD.bind (zJu _ _ _ _ _ _) fun b=>zCv _ _ _
   refine zC7 ?_ (fin _)
   refine KD.bind (zDe _ _) fun x=>zC7 trivial ?_
   exact KD.bind (zCv _ _ _) fun _=>fin _
 . trivial
theorem zEX (env:Env)(e:Value):KD (leaving env e):=KD.bind (zIZ e env) fun _=>zCf e none
noncomputable def excI (K:PySem.W.Frag)(C:Addr):Bool:=match K.lookup C with
 | some ⟨.type "type",_,.cls u,z⟩=>
  match u.mro,z.toList with
  | .ref D::b,[_,_,_,_,some (.builtin m),_]=>D==C && m == "ValueError.__new__" && !u.hasDel && PySem.W.tailIn K bmV b && PySem.W.nsOkIn K u.ns && u.hasDict
  | _,_=>false
 | _=>false
variable {K:PySem.W.Frag}{h:Heap}{C:Addr}
theorem zCV (X:K.In h)(q:excI K C=true) :
 ∃bm N nm qn bs sn sub ab col dd k0 k1 k2 k3 k5 mN,h.get? C=some (excClassObj nm qn C N bs bm true sn sub ab col dd k0 k1 k2 k3 k5 "ValueError.__new__")/\h.Ns N mN/\OwnTail h bmV bm:=by
 unfold excI at q
 split at q
 . next dd cd sl look=>
   split at q
   . next D bm k0 k1 k2 k3 n k5 em es=>
     simp only[Bool.and_eq_true,beq_iff_eq,Bool.not_eq_true'] at q
     obtain⟨⟨⟨⟨⟨q1,q2⟩,q3⟩,q4⟩,q5⟩,q6⟩:=q
     subst q1 q2
     cases cd
     simp only at em q3 q5 q6
     subst em q3 q6
     cases sl
     simp only at es
     subst es
     exact⟨_,_,_,_,_,_,_,_,_,_,_,_,_,_,_,_,X _ _ look,.of_isNs (PySem.W.isNs_of_in X q5),PySem.W.tail_of_in X q4⟩
   . cases q
 . cases q
structure zGI (K:PySem.W.Frag)(C fI:Addr):Prop where
 cl:excI K C=true
 ini:PySem.W.findIn K (.ref C) "__init__" = some (some (.ref fI))
 fn:PySem.W.isFn K (.ref fI)=true
 sa:PySem.W.findIn K (.ref C) "__setattr__" = some (some (.builtin "object.__setattr__"))
 kp:PySem.W.keepIn K (.ref C)=true
noncomputable def zEd (C t:Addr)(od:Option Addr):Obj:={ cls:=.ref C,dict:=od,data:=.fields #[.ref t,.none,.none,.none,.bool false,.none] }
noncomputable def xTup (us:List Value):Obj:={ cls:=.type "tuple",data:=.seq us.toArray }
variable {Q:PySem.Fin->Shared->Prop}
section
variable {prog:Program}{w:World}{A:Around}{E:vSP}{h:Heap}{g:Array GenState}{d:Drawn}{t:Nat}{os:OsState}{K:PySem.W.Frag}{C fI:Addr}{us:List Value}
noncomputable def zJw (h:Heap)(C:Addr)(us:List Value):Heap:=(h.push (xTup us)).push (zEd C h.objs.size none)
theorem zFX (h:Heap)(C:Addr)(us:List Value):∀b o,h.get? b=some o->(zJw h C us).get? b=some o:=fun _ _ e=>zG _ (zG _ e)
theorem zKR (h:Heap)(C:Addr)(us:List Value):(zJw h C us).get? (h.objs.size+1)=some (zEd C h.objs.size none):=Heap.get?_push_at (by rw[zAt]) rfl
theorem zIQ (X:K.In h)(I:zGI K C fI)(hz:us.length<=sizeLine)
 (hq:wpAny (model prog w) A (call (.ref fI) (.ref (h.objs.size+1)::us)) (fun r s'=>r = .none/\Q (.done (.ret (.ref (h.objs.size+1)))) s') E ⟨zJw h C us,g,d,t,os⟩) :
 wpAny (model prog w) A (Builtin.«type.__call__» ⟨.ref C::us,[]⟩) Q E ⟨h,g,d,t,os⟩:=by
 obtain⟨bm,N,nm,qn,bs,sn,sub,ab,col,dd,k0,k1,k2,k3,k5,mN,hC,hN,T⟩:=zCV X I.cl
 have F:=PySem.F.excBase_ValueError
 repeat (first | with_reducible refine zA8 hC ?_ | with_reducible refine wpAny_madeBy_exc hC ?_ | wp_step)
 refine codeAny_call_builtin_code (Code.quiet_builtin _ F.quiet) (wpAny_check_new_subT F T hC (codeAny_exc_new_subT F T hC ?_ hz))
 show wpAny _ _ _ _ _ ⟨zJw h C us,g,d,t,os⟩
 have hC1:=zFX h C us _ _ hC
 have he1:(zJw h C us).get? (h.objs.size+1)=some { cls:=.ref C,data:=.fields #[.ref h.objs.size,.none,.none,.none,.bool false,.none] }:=zKR h C us
 have X1:K.In (zJw h C us):=X.keeps (zFX h C us)
 have own:(Value.ref C::bm).contains (.ref C)=true:=by simp
 unfold isInstance
 repeat (first | with_reducible refine zA8 he1 ?_ | (with_reducible refine wpAny_isSubtype_exc hC1 ?_;rw[own]) | wp_step)
 have L:=PySem.W.looks_findIn (M:=model prog w) X1 I.ini
 refine L.at ?_
 refine zAN (zA ?_)
 refine (PySem.W.bind_fn (M:=model prog w) X1 (.ref (h.objs.size+1)) (beq_iff_eq.mp I.fn)).at ?_
 refine zA (zAM hq (fun r s' hr=>?_) fun _ _ z=>z)
 obtain⟨rfl,hQ⟩:=hr
 wp_walk
 exact hQ
theorem zI0 {Q:vSP}(X:K.In h)(I:zGI K C fI)(hz:us.length<=sizeLine)
 (hq:wpAny (model prog w) (A.under (.builtin "type.__call__" ⟨.ref C::us,[]⟩)) (call (.ref fI) (.ref (h.objs.size+1)::us)) (fun r s'=>r = .none/\Q (.ref (h.objs.size+1)) s') E ⟨zJw h C us,g,d,t,os⟩) :
 wpAny (model prog w) A (call (.ref C) us) Q E ⟨h,g,d,t,os⟩:=by
 obtain⟨bm,N,nm,qn,bs,sn,sub,ab,col,dd,k0,k1,k2,k3,k5,mN,hC,hN,T⟩:=zCV X I.cl
 have f1:=tc_lookup
 have f2:=tc_bind (.ref C)
 have hT:(⟨h,g,d,t,os⟩:Shared).TypeIs (.ref C) "type" := ⟨_,hC,rfl⟩
 refine zBZ (codeAny_of_tree ?_)
 show wpAny _ _ (callAny (.ref C) _) _ _ _
 repeat (any_goals (first | assumption | with_reducible refine zA8 hC ?_ | wp_step))
 refine⟨rfl,?_⟩
 exact codeAny_call_builtin_at (Code.quiet_builtin _ (by decide +kernel)) entry_typeCall (wpAny_check_type_call_sub hC (zIQ X I hz hq))
end
theorem zDk {bm:List Value}(T:OwnTail h bmV bm)(self:Value):refuseLoop self "__setattr__" bm=pure ():=by
 induction T with
 | base=>exact PySem.F.store_ValueError.passes self
 | own _ _ _ _ ih=>rw[refuseLoop_ref];exact ih
variable {tk:Tok}{dx:Addr}
section
variable {prog:Program}{w:World}{A:Around}{E:vSP}{h:Heap}{g:Array GenState}{d:Drawn}{t:Nat}{os:OsState}{K:PySem.W.Frag}{C fI x tt:Addr}{name:Str}{v:Value}
theorem zHr {od:Option Addr}{nameV:Value}{Q:Unit->Shared->Prop}(X:K.In h)(mo:PySem.W.mroIn K C (.type "object")=some true) (hx:h.get? x=some (zEd C tt od))(hq:Q () ⟨h,g,d,t,os⟩) :
 wpAny M A (checkBuiltinCall "object.__setattr__" ⟨[.ref x,nameV,v],[]⟩) Q E ⟨h,g,d,t,os⟩:=by
 have L0:=(show zJ8 h x C from ⟨_,hx,rfl⟩).type (M:=M)
 have L1:=PySem.W.looks_mroIn (M:=M) X mo
 have ha:=PySem.F.store_ValueError.args (.ref x) nameV v
 have e1:=PySem.F.store_ValueError.kind
 have e2:=PySem.F.store_ValueError.split
 simp only[checkBuiltinCall,e1,e2]
 refine zA ?_
 unfold isInstance
 repeat (any_goals (first | assumption | with_reducible refine L0.at ?_ | with_reducible refine L1.at ?_ | wp_step))
theorem zKH {mA:sOV}{ns:List Str}(hns:h.Ns1 dx mA)(hw:PySem.Within mA ns)(hz:ns.length<1000)
 (hq:∀h' tk',h'.Ns1 dx (fun y=>if y=name then some v else mA y)->(∀b,b≠dx->h'.get? b=h.get? b)->Q (.done (.ret .none)) ⟨h',g,d,tk',os⟩) :
 wpAny M A (Builtin.ObjectAttr.storeInDict dx (.str name tk) name v) Q E ⟨h,g,d,t,os⟩:=by
 unfold Builtin.ObjectAttr.storeInDict Builtin.ObjectAttr.newKeyGuard
 refine zA (zF (zA (wpAny_nsSet1 hns fun h' hn' hs=>?_)))
 obtain⟨oD,esD,epD,hoD,hdD,hcD⟩:=hn'.count (Within.cons name v hw)
 refine zA (wpAny_lookBehind hoD (by rw[hdD];exact pastItsLine_dict (zAH hcD (by rw[zp,sizeLine_eq];omega))) ?_)
 wp_walk
 exact hq h' _ hn' fun b hb=>hs.2 b hb
theorem zG0 (X:K.In h)(I:zGI K C fI)(nm:PySem.W.findIn K (.ref C) name=some none)(hx:h.get? x=some (zEd C tt none))
 (hq:∀h' tk',h'.get? x=some (zEd C tt (some h.objs.size))->h'.Ns1 h.objs.size (fun y=>if y=name then some v else none)->(∀b o,b≠x->h.get? b=some o->h'.get? b=some o)->Q (.done (.ret .none)) ⟨h',g,d,tk',os⟩) :
 wpAny (model prog w) A (Builtin.«object.__setattr__» ⟨[.ref x,.str name tk,v],[]⟩) Q E ⟨h,g,d,t,os⟩:=by
 obtain⟨bm,N,nmm,qn,bs,sn,sub,ab,col,dd,k0,k1,k2,k3,k5,mN,hC,hN,T⟩:=zCV X I.cl
 have pass:=zDk T (.ref x)
 obtain⟨o,ho⟩:∃o,o=zEd C tt none:=⟨_,rfl⟩
 rw[<-ho] at hx
 have hc:o.cls = .ref C:=by rw[ho];rfl
 have hdn:o.dict=none:=by rw[ho];rfl
 have L:=PySem.W.looks_findIn (M:=model prog w) X nm
 unfold Builtin.«object.__setattr__»
 repeat (first | rw[refuse_eq] | (rw[refuseLoop_ref,pass]) | (with_reducible refine zA8 hx ?_;rw[hc]) | with_reducible refine wpAny_mroOf_exc hC ?_ | with_reducible refine L.at ?_ | wp_step)
 have hdt:o.data = .fields #[.ref tt,.none,.none,.none,.bool false,.none]:=by rw[ho];rfl
 have hx1:=zG { cls:=.type "dict",data:=.dict #[] } hx
 have xs:x≠h.objs.size:=zd (zX hx)
 rw[hdn,hdt]
 refine zA (wpAny_alloc' (zA (wpAny_update' hx1 (zF ?_))))
 have fr:(zEd C tt (some h.objs.size)).isFreed=false:=rfl
 have up:((h.push { cls:=.type "dict",data:=.dict #[] }).update x fun o=>{ cls:=o.cls,dict:=some h.objs.size,data:=o.data,slots:=o.slots }).get? x=some (zEd C tt (some h.objs.size)):=by
  have:=zAc (fun o:Obj=>{ cls:=o.cls,dict:=some h.objs.size,data:=o.data,slots:=o.slots }) hx1 (by rw[ho];rfl)
  rw[this,ho];rfl
 have nd:((h.push { cls:=.type "dict",data:=.dict #[] }).update x fun o=>{ cls:=o.cls,dict:=some h.objs.size,data:=o.data,slots:=o.slots }).get? h.objs.size=some { cls:=.type "dict",data:=.dict #[] }:=
  (Heap.get?_update_other _ _ xs).trans (Heap.get?_push_at rfl rfl)
 refine zKH (Heap.Ns1.of_empty ⟨_,#[],_,nd,rfl,fun e he=>absurd he (by simp),fun _=>rfl⟩) Within.nil (by decide) fun h' tk' n' same=>?_
 refine hq h' tk' ((same x xs).trans up) n' fun b ob hb e=>?_
 rw[same b (zd (zX e)),Heap.get?_update_other _ _ (Ne.symm hb)]
 exact zG _ e
theorem zGz {mA:sOV}{ns:List Str}(X:K.In h)(I:zGI K C fI)(nm:PySem.W.findIn K (.ref C) name=some none)(hx:h.get? x=some (zEd C tt (some dx)))
 (hns:h.Ns1 dx mA)(hw:PySem.Within mA ns)(hz:ns.length<1000)
 (hq:∀h' tk',h'.Ns1 dx (fun y=>if y=name then some v else mA y)->(∀b,b≠dx->h'.get? b=h.get? b)->Q (.done (.ret .none)) ⟨h',g,d,tk',os⟩) :
 wpAny (model prog w) A (Builtin.«object.__setattr__» ⟨[.ref x,.str name tk,v],[]⟩) Q E ⟨h,g,d,t,os⟩:=by
 obtain⟨bm,N,nmm,qn,bs,sn,sub,ab,col,dd,k0,k1,k2,k3,k5,mN,hC,hN,T⟩:=zCV X I.cl
 have pass:=zDk T (.ref x)
 obtain⟨o,ho⟩:∃o,o=zEd C tt (some dx):=⟨_,rfl⟩
 rw[<-ho] at hx
 have hc:o.cls = .ref C:=by rw[ho];rfl
 have hdn:o.dict=some dx:=by rw[ho];rfl
 have L:=PySem.W.looks_findIn (M:=model prog w) X nm
 unfold Builtin.«object.__setattr__»
 repeat (first | rw[refuse_eq] | (rw[refuseLoop_ref,pass]) | (with_reducible refine zA8 hx ?_;rw[hc]) | with_reducible refine wpAny_mroOf_exc hC ?_ | with_reducible refine L.at ?_ | wp_step)
 rw[hdn]
 exact zF (zKH hns hw hz hq)
theorem zGP {od:Option Addr}{Pr:Heap->Prop}{Q:Unit->Shared->Prop}(X:K.In h)(I:zGI K C fI)(mo:PySem.W.mroIn K C (.type "object")=some true) (hx:h.get? x=some (zEd C tt od))
 (ent:∀(A':Around)(E':vSP)(tk:Tok)(t':Nat)(Q':PySem.Fin->Shared->Prop),(∀h' tk',Pr h'->Q' (.done (.ret .none)) ⟨h',g,d,tk',os⟩)->wpAny (model prog w) A' (Builtin.«object.__setattr__» ⟨[.ref x,.str name tk,v],[]⟩) Q' E' ⟨h,g,d,t',os⟩)
 (hq:∀h' tk',Pr h'->Q () ⟨h',g,d,tk',os⟩):wpAny (model prog w) A (setAttr (.ref x) name v) Q E ⟨h,g,d,t,os⟩:=by
 have SF:=PySem.F.store_ValueError
 have f3:=SF.slot.bind (.ref x)
 have L0:=(show zJ8 h x C from ⟨_,hx,rfl⟩).type (M:=model prog w)
 have L1:=PySem.W.looks_findIn (M:=model prog w) X I.sa
 unfold setAttr callSpecial? specialOf
 repeat (any_goals (first | assumption | with_reducible refine L0.at ?_ | with_reducible refine L1.at ?_ | wp_step))
 refine codeAny_call_builtin SF.slot.plain SF.entry (zHr X mo hx (ent _ _ _ _ _ fun h' tk' p=>?_))
 repeat (any_goals (first | assumption | wp_step))
 exact hq h' tk' p
end
noncomputable def xO (e C t:Addr)(od:Option Addr):HO:=.ext fun h=>h.get? e=some (zEd C t od)
noncomputable def dO (dx:Addr)(fs:List (Str×V)):HO:=.ext fun h=>∃mA,h.Ns1 dx mA/\(∀f,zE3 (fs.lookup f) (mA f))/\PySem.Within mA (fs.map (·.1))
variable {a b:Addr}
section
variable {P:Program}{w:World}{H:Hp}{h:Heap}{e C t dx:Addr}{od:Option Addr}{fs:List (Str×V)}
theorem xO_ok (hx:h.get? e=some (zEd C t od)):zBI P w H h e (xO e C t od):=⟨hx,⟨_,hx⟩,fun _ _ p k=>k _ p⟩
theorem dO_ok {mA:sOV}(hn:h.Ns1 dx mA)(r:∀f,zE3 (fs.lookup f) (mA f))(wi:PySem.Within mA (fs.map (·.1))):zBI P w H h dx (dO dx fs):=
 ⟨⟨mA,hn,r,wi⟩,let ⟨o,_,_,q,_⟩:=hn;⟨o,q⟩,fun _ _ ⟨m,⟨o,es,ep,q,z⟩,r,wi⟩ k=>⟨m,⟨o,es,ep,k _ q,z⟩,r,wi⟩⟩
theorem HOk.add {o:HO}(x:HOk P w H h)(hn:H a=none)(new:zBI P w (upd H a o) h a o):HOk P w (upd H a o) h:=fun b u e=>by
 by_cases hb:b=a
 . subst hb;rw[zJ] at e;cases e;exact new
 . rw[za hb] at e
   exact (x b u e).stay (fun c v _ q=>q) (fun c q=>by rw[za (zn q hn)];exact q) fun c xs q=>by rw[za (zn q hn)];exact q
theorem zJI {o u:HO}(n:a≠b):upd (upd H a o) b u=upd (upd H b u) a o:=by
 funext c
 by_cases h1:c=a
 . subst h1;rw[zJ,za n,zJ]
 . by_cases h2:c=b
   . subst h2;rw[zJ,za h1,zJ]
   . rw[za h2,za h1,za h1,za h2]
end
section
variable {X:Cx}{pins:lPO}{σ:St}{H:Hp}{s:Shared}{A:Around}{E:vSP}{e C t fI:Addr}{f:Str}{y:V}{u:Value}{Q:Unit->Shared->Prop}
theorem zJP (I:Inv X pins σ H s)(EI:zGI X.K C fI)(mo:PySem.W.mroIn X.K C (.type "object")=some true) (nm:PySem.W.findIn X.K (.ref C) f=some none)(he:H e=some (xO e C t none))(ry:zBQ y u)
 (h:∀dx s',H dx=none->Inv X pins σ (upd (upd H dx (dO dx [(f,y)])) e (xO e C t (some dx))) s'->Q () s'):wpAny (model X.prog X.w) A (setAttr (.ref e) f u) Q E s:=by
 obtain⟨hp,g,d,tk,os⟩:=s
 have hx:hp.get? e=some (zEd C t none):=(I.hok e _ he).1
 refine zGP (Pr:=fun h'=>h'.get? e=some (zEd C t (some hp.objs.size))/\h'.Ns1 hp.objs.size (fun y=>if y=f then some u else none)/\(∀b o,b≠e->hp.get? b=some o->h'.get? b=some o)) I.kIn EI mo hx
  (fun A' E' tk' t' Q' k=>zG0 I.kIn EI nm hx fun h' tk2 a b c=>k h' tk2 ⟨a,b,c⟩) fun h' tk' ⟨a,b,c⟩=>?_
 have hn:H hp.objs.size=none:=I.hok.fresh (zK _)
 have ne:e≠hp.objs.size:=zd (zX hx)
 refine h hp.objs.size _ hn ?_
 have mu:Mut ((upd H hp.objs.size (dO hp.objs.size [(f,y)])) e):=by rw[za ne,he];exact True.intro
 have mu':Mut (H e):=by rw[he];exact True.intro
 refine I.un (h':=h') (t':=tk') ((Un.laid (h':=hp) (fun _ _ q=>q) (zK _) hn).trans (Un.write mu (.inl rfl) c ⟨_,a⟩)) ?_
 rw[zJI (Ne.symm ne)]
 refine HOk.add (I.hok.write mu' (.inl rfl) c ⟨_,a⟩ (xO_ok a)) (by rw[za (Ne.symm ne)];exact hn) (dO_ok b (fun g=>?_) (fun g hg=>?_))
 . show zE3 (List.lookup g [(f,y)]) (if g=f then some u else none)
   by_cases q:g=f
   . subst q;rw[if_pos rfl,List.lookup_cons_self];exact ry
   . rw[if_neg q,zAu,show (g==f)=false from by simpa using q];trivial
 . by_cases q:g=f
   . subst q;exact zV
   . exact absurd (by show (if g=f then some u else none)=none;rw[if_neg q]) hg
theorem zJO {fs:List (Str×V)}(I:Inv X pins σ H s)(EI:zGI X.K C fI)(mo:PySem.W.mroIn X.K C (.type "object")=some true) (nm:PySem.W.findIn X.K (.ref C) f=some none)(he:H e=some (xO e C t (some dx)))(hd:H dx=some (dO dx fs))(hl:fs.length<900)(ry:zBQ y u)
 (h:∀s',Inv X pins σ (upd H dx (dO dx (zHW f y fs))) s'->Q () s'):wpAny (model X.prog X.w) A (setAttr (.ref e) f u) Q E s:=by
 obtain⟨hp,g,d,tk,os⟩:=s
 have hx:hp.get? e=some (zEd C t (some dx)):=(I.hok e _ he).1
 obtain⟨mA,hns,r,wi⟩:=(I.hok dx _ hd).1
 refine zGP (Pr:=fun h'=>h'.Ns1 dx (fun y=>if y=f then some u else mA y)/\(∀b,b≠dx->h'.get? b=hp.get? b)) I.kIn EI mo hx
  (fun A' E' tk' t' Q' k=>zGz I.kIn EI nm hx hns wi (by rw[zC];omega) fun h' tk2 a b=>k h' tk2 ⟨a,b⟩) fun h' tk' ⟨a,b⟩=>?_
 refine h _ ?_
 have mu:Mut (H dx):=by rw[hd];exact True.intro
 refine I.write (x:=dx) (e:=dx) (t':=tk') mu (.inl rfl) (fun b_ u' hb q=>(b b_ hb).trans q) (let ⟨o,_,_,q,_⟩:=a;⟨o,q⟩) (dO_ok a (fun g=>?_) (fun g hg=>?_))
 . show zE3 ((zHW f y fs).lookup g) (if g=f then some u else mA g)
   rw[zDs]
   by_cases q:g=f
   . rw[if_pos q,if_pos q];exact ry
   . rw[if_neg q,if_neg q];exact r g
 . by_cases q:g=f
   . rw[q];exact (zDx f y fs).1
   . refine (zDx f y fs).2 g (wi g fun z=>hg ?_)
     show (if g=f then some u else mA g)=none
     rw[if_neg q];exact z
end
noncomputable def sFldX (C:Addr)(f:Str)(ta tv:TE):TS:=fun D σ H=>tv σ H fun y H1=>ta σ H1 fun x H2=>∃e t,x = .ref e /\
 ((H2 e=some (xO e C t none)/\∀dx,H2 dx=none->D.nx σ (upd (upd H2 dx (dO dx [(f,y)])) e (xO e C t (some dx)))) \/
  ∃dx fs,H2 e=some (xO e C t (some dx))/\H2 dx=some (dO dx fs)/\fs.length<900/\D.nx σ (upd H2 dx (dO dx (zHW f y fs))))
section
variable {X:Cx}{o value:Expr}{ta tv:TE}{f:Str}{C fI:Addr}{pos pos':Pos}
theorem zH7 (EI:zGI X.K C fI)(mo:PySem.W.mroIn X.K C (.type "object")=some true) (nm:PySem.W.findIn X.K (.ref C) f=some none)(ha:PE X o ta)(hv:PE X value tv)(hs:swapsWith value (some (.Attribute o f pos')) pos.line X.env=pure false:=by rfl) :
 PS X (.Assign [.Attribute o f pos'] value pos) (sFldX C f ta tv):=by
 intro pins s σ H D I h
 refine plainObj_wpAny_Assign_Attribute (thn (hv pins s σ H _ I h) fun u s1 ⟨y,H1,I1,ry,q⟩=>thn (ha pins s1 σ H1 _ I1 q) fun ov s2 ⟨x,H2,I2,rx,e,t,ex,q2⟩=>?_) hs
 subst ex
 obtain rfl:ov=Value.ref e:=rx
 rcases q2 with ⟨he,q⟩ | ⟨dx,fs,he,hd,hl,q⟩
 . exact zJP I2 EI mo nm he ry fun dx s3 n I3=>⟨σ,_,I3,q dx n⟩
 . exact zJO I2 EI mo nm he hd hl ry fun s3 I3=>⟨σ,_,I3,q⟩
end
noncomputable def spXI (C:Addr)(f1 f2:Str):Sp:=fun vs H Q _=>∃(e t:Addr)(v1 v2:V),vs=[.ref e,v1,v2]/\H e=some (xO e C t none)/\∀dx,H dx=none->dx≠e->Q .non (upd (upd H dx (dO dx [(f1,v1),(f2,v2)])) e (xO e C t (some dx)))
noncomputable def FlyD (B:Heap)(l:List Env)(e:Addr)(C a0:Value)(od:Option Addr)(h:Heap):Prop:=Heap.FlyingW B l e C a0 h/\∃o,h.get? e=some o/\o.dict=od
variable {h':Heap}{e:Addr}
theorem FlyD.step {B:Heap}{l l':List Env}{C a0:Value}{od:Option Addr}(x:FlyD B l e C a0 od h)(f:Heap.FlyingW B l' e C a0 h')(k:DK h h'):FlyD B l' e C a0 od h':=by
 obtain⟨_,o,q,r⟩:=x
 obtain⟨o',q',r'⟩:=k e o q
 exact⟨f,o',q',r'.trans r⟩
noncomputable def CXI (P:Program)(w:World):CXT:=fun outer H s E e s'=>
 ∃(ea t:Addr)(C:Value)(od:Option Addr)(H':Hp)(B:Heap),e = .ref ea/\s'.os=s.os/\AllBare s'.gens/\Un (frs outer) [] H H' s.heap s'.heap/\HOk P w H' s'.heap /\
  FlyD B outer ea C (.ref t) od s'.heap/\(∀b u,H' b=some u->∃o,B.get? b=some o)/\(∀b o,s.heap.get? b=some o->H b=none->b∉frs outer->B.get? b=some o)/\(∀b o,s.heap.get? b=some o->b∉frs outer->∃o',B.get? b=some o')/\E C od H'
section
variable {P:Program}{w:World}{K:PySem.W.Frag}{mg:sOV}{base:Heap}{N:List Str}{qual:Str}{scope:Scope}{f:Addr}{cd:Value}{A:Around}{outer:List Env}{s0 s:Shared}{H0 H:Hp}{E:XK}{pins:lPO}{σ:St}
theorem zKz {ea t:Addr}{oe:Obj}{C:Value}{vs:Array Value}(I:Inv (zGm (CXI P w) P w K mg base N qual scope f cd A outer s0 H0 E) pins σ H s)(he:s.heap.get? ea=some oe)(hc:oe.cls=C)(hd:oe.data = .fields vs)(h1:vs[1]? = some .none)(h0:vs[0]? = some (.ref t))(hn:H ea=none)(h00:s0.heap.get? ea=none)(hE:E C oe.dict H) :
 (zGm (CXI P w) P w K mg base N qual scope f cd A outer s0 H0 E).xe (.ref ea) s:=by
 subst hc
 let fr:List Addr:=(envOfC qual scope s0.heap.objs.size f cd::outer).filterMap (·.frame)
 have hin:∀env∈(envOfC qual scope s0.heap.objs.size f cd::outer),∀a,env.frame=some a->a∈ea::fr:=fun env he b hb=>zc _ (zAr.mpr ⟨env,he,hb⟩)
 have ff:=PySem.W.funFrames_hide I.stack hin
 have off:ea∉fr:=fun z=>by
  obtain⟨_,o,ho,nd⟩:=I.stack.mem z
  rw[he] at ho
  cases ho
  exact nd vs hd
 refine zAM (zCy (zEX _ _) (wpAny_leaving_firstW (Q:=fun _ s'=>∃h',s'={ s with heap:=h' }/\Heap.LeftW (PySem.W.hideAll s.heap (ea::fr)) (envOfC qual scope s0.heap.objs.size f cd::outer) ea oe.cls (.ref t) s.heap h') (base:=PySem.W.hideAll s.heap (ea::fr)) I.ok.frames ff rfl he (fun b o q=>PySem.W.of_hideAll _ q) (PySem.W.hideAll_none _ zV) hd h1 h0 fun h' L=>⟨h',rfl,L⟩)) (fun _ s' hq=>?_) fun _ _ z=>z
 obtain⟨⟨h'',rfl,L1,⟨_,_,L2'⟩,L3,up⟩,dk⟩:=hq
 have st:(PySem.W.hideAll s.heap (ea::fr)).StaysIn h'':=L1
 have stk:∀b,b∈fr->b=s0.heap.objs.size\/b∈frs outer:=fun b z=>zi.mp (I.stkSub b z)
 have hid:∀b o,s.heap.get? b=some o->b≠ea->b∉fr->(PySem.W.hideAll s.heap (ea::fr)).get? b=some o:=fun b o q n z=>PySem.W.hideAll_get _ q fun y=>by
  rcases zi.mp y with y | y
  . exact n y
  . exact z y
 have nea:∀b o,s0.heap.get? b=some o->b≠ea:=fun b o q z=>by rw[z,h00] at q;cases q
 have nfr:∀b o,s0.heap.get? b=some o->b∉frs outer->b∉fr:=fun b o q hb z=>by
  rcases stk b z with y | y
  . exact absurd (zX q) (by rw[y];exact Nat.not_lt_of_le (zK _))
  . exact hb y
 have old:∀b o,s0.heap.get? b=some o->H0 b=none->b∉frs outer->(PySem.W.hideAll s.heap (ea::fr)).get? b=some o:=fun b o e n hb=>
  hid b o (I.base.keep b o e n hb (by intro z;cases z)) (nea b o e) (nfr b o e hb)
 have al:∀b o,s0.heap.get? b=some o->b∉frs outer->∃o',(PySem.W.hideAll s.heap (ea::fr)).get? b=some o':=fun b o e hb=>by
  obtain⟨o1,e1⟩:=I.base.there b o e (by intro z;cases z)
  exact⟨o1,hid b o1 e1 (nea b o e) (nfr b o e hb)⟩
 have tr:∀b u,H b=some u->∃o,(PySem.W.hideAll s.heap (ea::fr)).get? b=some o:=fun b u e=>by
  obtain⟨o,ho⟩:=(I.hok b u e).there
  refine⟨o,hid b o ho (fun z=>by rw[z,hn] at e;cases e) fun z=>?_⟩
  have:=I.stkFree b z
  rw[e] at this
  cases this
 obtain⟨o',q',r'⟩:=dk ea oe he
 refine⟨ea,t,oe.cls,oe.dict,H,_,rfl,I.os,I.bare,⟨fun b o e n hb hx'=>st b o (old b o e n hb),fun b o e n hb hx'=>?_,I.base.free,fun b o e hx'=>?_,I.base.tups,I.base.frzs,I.base.tbls⟩,I.hok.stays (fun b o q=>PySem.W.of_hideAll _ q) st tr,⟨⟨L1,PySem.W.hideAll_none _ zV,L2',L3⟩,o',q',r'⟩,tr,old,al,hE⟩
 . obtain⟨sl,e1⟩:=I.base.slot b o e n hb (by intro z;cases z)
   obtain⟨_,o2,e2,nd⟩:=I.stack.mem (show b∈fr from zc _ hb)
   have e3:o2={ o with slots:=sl }:=zY (e2.symm.trans e1)
   obtain⟨sl2,e4⟩:=up b _ e1 (fun vs=>by rw[<-e3];exact nd vs)
   exact⟨sl2,e4⟩
 . obtain⟨o1,e1⟩:=I.base.there b o e (by intro z;cases z)
   by_cases hb:b∈fr
   . obtain⟨_,o2,e2,nd⟩:=I.stack.mem hb
     obtain⟨sl2,e4⟩:=up b _ e2 nd
     exact⟨_,e4⟩
   . exact⟨_,st b _ (hid b o1 e1 (nea b o e) hb)⟩
end
section
variable {P:Program}{w:World}{K:PySem.W.Frag}{mg:sOV}{base:Heap}{N:List Str}{qual:Str}{scope:Scope}{f:Addr}{cd:Value}{A:Around}{outer:List Env}{s0 s:Shared}{H0 H:Hp}{E:XK}{pins:lPO}{σ:St}
theorem zK7 {E1:XK}{e:Value}{s':Shared}(I:Inv (zGm (CXI P w) P w K mg base N qual scope f cd A outer s0 H0 E) pins σ H s)(h:CXI P w (envOfC qual scope s0.heap.objs.size f cd::outer) H s E1 e s')
 (imp:∀C d H',E1 C d H'->E C d H'):(zGm (CXI P w) P w K mg base N qual scope f cd A outer s0 H0 E).xe e s':=by
 obtain⟨ea,t,C,od,H',B,rfl,os,bare,un,hok,fl,tr,old,al,hE⟩:=h
 refine zAM (zCy (zEX _ _) (wpAny_leaves_onW (Q:=fun _ s2=>∃h',s2={ s' with heap:=h' }/\Heap.FlyingW B outer ea C (.ref t) h'/\s'.heap.UpToSlots h') I.ok.frames rfl fl.1 fun h' f2 u=>⟨h',rfl,f2,u⟩)) (fun _ s2 hq=>?_) fun _ _ z=>z
 obtain⟨⟨h'',rfl,fl2,up⟩,dk⟩:=hq
 have st:B.StaysIn h'':=fl2.1
 have nl:∀b o,s0.heap.get? b=some o->H0 b=none->b∉frs outer->B.get? b=some o:=fun b o e n hb=>by
  refine old b o (I.base.keep b o e n hb (by intro z;cases z)) (I.base.free b o e n (by intro z;cases z)) fun z=>?_
  rcases zi.mp (I.stkSub b z) with q | q
  . exact absurd (zX e) (by rw[q];exact Nat.not_lt_of_le (zK _))
  . exact hb q
 have na:∀b o,s0.heap.get? b=some o->b∉frs outer->∃o',B.get? b=some o':=fun b o e hb=>by
  obtain⟨o1,e1⟩:=I.base.there b o e (by intro z;cases z)
  refine al b o1 e1 fun z=>?_
  rcases zi.mp (I.stkSub b z) with q | q
  . exact absurd (zX e) (by rw[q];exact Nat.not_lt_of_le (zK _))
  . exact hb q
 refine⟨ea,t,C,od,H',B,rfl,os.trans I.os,bare,⟨fun b o e n hb _=>st b o (nl b o e n hb),fun b o e n hb _=>?_,fun b o e n _=>?_,fun b o e _=>?_,fun b xs e=>un.tups _ _ (I.base.tups _ _ e),fun b o u e=>un.frzs _ _ _ (I.base.frzs _ _ _ e),fun b ps e=>?_⟩,hok.stays fl.1.1 st tr,fl.step fl2 dk,tr,nl,na,imp _ _ _ hE⟩
 . obtain⟨sl,e1⟩:=I.base.slot b o e n hb (by intro z;cases z)
   have n1:=I.base.free b o e n (by intro z;cases z)
   obtain⟨sl2,e2⟩:=un.slot b _ e1 n1 (zc _ hb) (by intro z;cases z)
   obtain⟨_,o3,e3,nd⟩:=fl.1.2.2.1.mem (show b∈(envOfC qual scope s0.heap.objs.size f cd::outer).filterMap (·.frame) from zc _ hb)
   obtain⟨sl4,e4⟩:=up b _ e3 nd
   have e5:=zY (e3.symm.trans e2)
   rw[e5] at e4
   exact⟨sl4,e4⟩
 . exact un.free b _ (I.base.there b o e (by intro z;cases z)).choose_spec (I.base.free b o e n (by intro z;cases z)) (by intro z;cases z)
 . obtain⟨o1,e1⟩:=I.base.there b o e (by intro z;cases z)
   by_cases hb:b∈(envOfC qual scope s0.heap.objs.size f cd::outer).filterMap (·.frame)
   . obtain⟨_,o3,e3,nd⟩:=fl.1.2.2.1.mem hb
     obtain⟨sl4,e4⟩:=up b _ e3 nd
     exact⟨_,e4⟩
   . obtain⟨o3,e3⟩:=al b o1 e1 hb
     exact⟨_,st b o3 e3⟩
 . obtain⟨m1,e1⟩:=I.base.tbls _ _ e
   obtain⟨m2,e2⟩:=un.tbls _ _ e1
   exact⟨m1++m2,by rw[e2,Array.append_assoc]⟩
end
theorem zJf {P:Program}{w:World}{mg:sOV}{base:Heap}{N:List Str}{qual:Str}{scope:Scope}{f:Addr}{cd:Value}{outer:List Env}{s0:Shared}{H0:Hp}{E:XK}:zGq (CXI P w) (zGm (CXI P w) P w K mg base N qual scope f cd A outer s0 H0 E) E:=fun _ _ _ _ _ _ I h=>zK7 I h fun _ _ _ z=>z
variable {x:Str}
theorem Fun.okI {P:Program}{w:World}{mg:sOV}{base:Heap}{qual:Str}{st:Stmt}{f:Addr}{fd:FuncData}{N ps:List Str}{k:Nat}{sp:Sp}(F:Fun K x qual st f fd)(S:zw N ps (defScope st))(len:∀vs H Q E,sp vs H Q E->vs.length=ps.length)
 (hbody:∀(cdv:Value)(A:Around)(outer:List Env)(s:Shared)(H:Hp)(vs:List V)(Q:VK)(E:XK),zCa k (A.deeper (envOfC qual (defScope st) s.heap.objs.size f cdv))->sp vs H Q E ->
  ∃t,PSs (zGm (CXI P w) P w K mg base N qual (defScope st) f cdv A outer s H E) (defBody st) t/\t { nx:=fun _ H'=>Q .non H',rt:=Q } (start N vs) H):zAP P w K mg base (CXI P w) (k+1) f fd ps sp:=by
 obtain⟨oc,od,kV,doc,pm,an,cdv,ct,osl,rfl,lk,hcd⟩:=F.ex
 exact zLc lk hcd S len fun A outer s H vs Q E hr hsp=>hbody cdv A outer s H vs Q E hr hsp
noncomputable def zLY (e:Addr)(H:Hp):Hp:=fun b=>if b=e then none else H b
variable {H:Hp}
theorem zCL (n:b≠e):zLY e H b=H b:=by unfold zLY;rw[if_neg n]
theorem zCw:zLY e H e=none:=by unfold zLY;rw[if_pos rfl]
section
variable {X:Cx}{pins:lPO}{σ:St}{H:Hp}{s:Shared}{e:Addr}{φ:Heap->Prop}
theorem Inv.drop (I:Inv X pins σ H s)(he:H e=some (.ext φ)):Inv X pins σ (zLY e H) s:=by
 have nt:∀b xs,H b=some (.tup xs)->b≠e:=fun b xs q z=>by rw[z,he] at q;cases q
 have no:∀b y,H b=some (.own y)->b≠e:=fun b y q z=>by rw[z,he] at q;cases q
 refine⟨I.ok,I.os,I.bare,⟨I.base.keep,I.base.slot,fun b o q n hx=>?_,I.base.there,fun b xs q=>by rw[zCL (nt b xs (I.base.tups b xs q))];exact I.base.tups b xs q,fun b o u q=>?_,fun b ps q=>?_⟩,I.loc,I.cell,?_,fun x c q=>?_,fun p hp=>?_,fun b o q=>?_,I.len⟩
 . by_cases z:b=e
   . subst z;exact zCw
   . rw[zCL z];exact I.base.free b o q n hx
 . have r:=I.base.frzs b o u q
   rw[zCL (fun z=>by rw[z,he] at r;cases r)];exact r
 . obtain⟨m,r⟩:=I.base.tbls b ps q
   exact⟨m,by rw[zCL (fun z=>by rw[z,he] at r;cases r)];exact r⟩
 . by_cases z:X.env.locals=e
   . rw[z];exact zCw
   . rw[zCL z];exact I.free
 . by_cases z:c=e
   . subst z;exact zCw
   . rw[zCL z];exact I.freeC x c q
 . obtain⟨a,b,r⟩:=I.pin p hp
   refine⟨a,?_,r⟩
   by_cases z:p.1=e
   . rw[z];exact zCw
   . rw[zCL z];exact b
 . have z:b≠e:=fun z=>by rw[z,zCw] at q;cases q
   rw[zCL z] at q
   exact (I.hok b o q).stay (fun _ _ _ r=>r) (fun c r=>by rw[zCL (no c _ r)];exact r) fun c xs r=>by rw[zCL (nt c xs r)];exact r
theorem zK0 {E:vSP}{env:Env}{tt:Addr}{od:Option Addr}{y:Sem Value}{Q:Flow->Shared->Prop}(q:excI K C=true)(hh:A.handled=none)
 (h:wpAny M A y (fun v s1=>∃e,v = .ref e/\K.In s1.heap/\(∃tt od,s1.heap.get? e=some (zEd C tt od))/\E (.ref e) s1) E s):wpAny M A (raiseStmt env (some y) none) Q E s:=by
 unfold raiseStmt
 refine zA (zAM h (fun v s1 hv=>?_) fun _ _ z=>z)
 obtain⟨e,rfl,X1,⟨tt,od,he⟩,hE⟩:=hv
 obtain⟨bm,N,nm,qn,bs,sn,sub,ab,col,dd,k0,k1,k2,k3,k5,mN,hC,hN,T⟩:=zCV X1 q
 have hcB:(Value.ref C::bm).contains (.type "BaseException")=true:=by rw[List.contains_cons,T.hasType (X := "BaseException") (b:=true) (by rfl),Bool.or_true]
 obtain⟨hp,g,d,tk,os⟩:=s1
 have he':hp.get? e=some { cls:=.ref C,dict:=od,data:=.fields #[.ref tt,.none,.none,.none,.bool false,.none] }:=he
 repeat (first | with_reducible refine zA8 he' ?_ | with_reducible refine zA8 hC ?_ | (with_reducible refine wpAny_isSubtype_exc hC ?_;rw[hcB]) | wp_step)
 exact wpAny_raiseNew_none hh hE
theorem Inv.madeX {us:List Value}{vs:List V}(I:Inv X pins σ H s)(r:zBE vs us)(hz:vs.length<=sizeLine) :
 Inv X pins σ (upd (upd H s.heap.objs.size (.tup vs)) (s.heap.objs.size+1) (xO (s.heap.objs.size+1) C s.heap.objs.size none)) { s with heap:=zJw s.heap C us }:=by
 have e1:(s.heap.push (xTup us)).get? s.heap.objs.size=some (xTup us):=Heap.get?_push_at rfl rfl
 have I1:=I.laid (a:=s.heap.objs.size) (o:=.tup vs) (h':=s.heap.push (xTup us)) (t':=s.toks) (fun b u q=>zG _ q) (zK _) ⟨⟨hz,_,e1,rfl⟩,us,r,⟨_,e1,rfl,_,rfl⟩⟩
 exact I1.laid (a:=s.heap.objs.size+1) (t':=s.toks) (h':=zJw s.heap C us) (fun b u q=>zG _ q) (Nat.le_of_eq (zAt _ _)) (xO_ok (zKR s.heap C us))
noncomputable def zKc (C:Addr)(f1 f2:Str)(t:TA)(E:XK):TS:=fun _ σ H=>t σ H fun vs H1=>∃v1 v2,vs=[v1,v2]/\∀tt dx,H1 tt=none->H1 dx=none->tt≠dx->E (.ref C) (some dx) (upd (upd H1 tt (.tup [v1,v2])) dx (dO dx [(f1,v1),(f2,v2)]))
theorem zH6 {f1 f2:Str}{ps:List Str}{fI:Addr}{fd:FuncData}{k:Nat}{e1 e2:Expr}{t:TA}{E:XK}{np cpos pos:Pos}(hg:Gl X x)(hm:X.mg x=some (.ref C))(EI:zGI X.K C fI)(hc:X.calm=true)(F:zAP X.prog X.w X.K X.mg X.base CX0 k fI fd ps (spXI C f1 f2))(hr:zCa (k+1) X.A)(hb:zCx X.K fd ps [])(ha:PA X [e1,e2] t)
 (hxe:∀(pins:lPO)(σ:St)(H:Hp)(s:Shared)(ea tt dx:Addr),Inv X pins σ H s->s.heap.get? ea=some (zEd C tt (some dx))->H ea=none->X.s₀.heap.get? ea=none->E (.ref C) (some dx) H->X.xe (.ref ea) s)
 (hd:(x==("__debug__" : Str))=false:=by decide) (hs:starEach [e1,e2] X.env=(false,eval e1 X.env)::starEach [e2] X.env:=by rfl)(hpl:(backTo cpos (starEach [e2] X.env)).any (·.1)=false:=by rfl) :
 PS X (.Raise (some (.Call (.Name x np) [e1,e2] [] cpos)) none pos) (zKc C f1 f2 t E):=by
 intro pins s σ H D I h
 rw[arm_exec_Raise]
 refine zA (zBn ?_)
 show wpAny _ _ (raiseStmt X.env (some (do let v <-eval (.Call (.Name x np) [e1,e2] [] cpos) X.env;standAt pos;pure v)) none) _ _ _
 refine zK0 (tt:=0) (od:=none) EI.cl (I.ok.hd hc) (zA (zAM (Q:=fun v s1=>∃e,v = .ref e/\X.K.In s1.heap/\(∃tt od,s1.heap.get? e=some (zEd C tt od))/\X.xe (.ref e) s1) (E:=X.xe) ?main (fun v s3 h3=>zA (zBn (zF h3))) fun _ _ z=>z))
 case main=>
  refine zA0 (zDv I hg hm ?_ hd)
  refine PySem.W.callWith_K (h₀:=X.base) I.ok.mod.kin EI.kp (zAM (ha cpos pins s σ H _ I h) (fun us s1 ⟨vs,H1,I1,r,q⟩=>⟨I1.kIn,?_⟩) fun _ _ z=>z) hs hpl
  obtain⟨v1,v2,rfl,q⟩:=q
  have hz:us.length<=sizeLine:=by rw[<-r.length];show 2<=sizeLine;decide
  have I2:=Inv.madeX (C:=C) I1 r (show 2<=sizeLine by decide)
  have r2:zBE (V.ref (s1.heap.objs.size+1)::[v1,v2]) (Value.ref (s1.heap.objs.size+1)::us):=.cons rfl r
  have n1:H1 s1.heap.objs.size=none:=I1.hok.fresh (zK _)
  have n2:H1 (s1.heap.objs.size+1)=none:=I1.hok.fresh (zAq _)
  have s00:X.s₀.heap.get? (s1.heap.objs.size+1)=none:=Heap.get?_none_of_le (zAH I1.sz (zAq _))
  refine zI0 (h:=s1.heap) I1.kIn EI hz ?_
  have ne:s1.heap.objs.size≠s1.heap.objs.size+1:=zd (Nat.lt_succ_self _)
  have hsp:spXI C f1 f2 (V.ref (s1.heap.objs.size+1)::[v1,v2]) (upd (upd H1 s1.heap.objs.size (.tup [v1,v2])) (s1.heap.objs.size+1) (xO (s1.heap.objs.size+1) C s1.heap.objs.size none))
   (fun v H2=>v = .non/\∃dx,H2 (s1.heap.objs.size+1)=some (xO (s1.heap.objs.size+1) C s1.heap.objs.size (some dx))/\E (.ref C) (some dx) (zLY (s1.heap.objs.size+1) H2)) (fun _ _ _=>False):=by
   refine⟨_,_,v1,v2,rfl,zJ,fun dx hdx nd=>⟨rfl,dx,zJ,?_⟩⟩
   rw[za nd] at hdx
   have nt:s1.heap.objs.size≠dx:=fun z=>by rw[<-z,zJ] at hdx;cases hdx
   have hdx1:H1 dx=none:=by rw[za (Ne.symm nt)] at hdx;exact hdx
   have eq:zLY (s1.heap.objs.size+1) (upd (upd (upd (upd H1 s1.heap.objs.size (.tup [v1,v2])) (s1.heap.objs.size+1) (xO (s1.heap.objs.size+1) C s1.heap.objs.size none)) dx (dO dx [(f1,v1),(f2,v2)])) (s1.heap.objs.size+1) (xO (s1.heap.objs.size+1) C s1.heap.objs.size (some dx)))
    = upd (upd H1 s1.heap.objs.size (.tup [v1,v2])) dx (dO dx [(f1,v1),(f2,v2)]):=by
    funext b
    by_cases hb:b=s1.heap.objs.size+1
    . subst hb
      rw[zCw,za (Ne.symm nd),za (Ne.symm ne)];exact n2.symm
    . rw[zCL hb,za hb]
      by_cases hb2:b=dx
      . subst hb2;rw[zJ,zJ]
      . rw[za hb2,za hb,za hb2]
   rw[eq]
   exact q _ dx n1 hdx1 nt
  have hl:(Value.ref (s1.heap.objs.size+1)::us).length=ps.length:=by rw[<-r2.length];exact F.len _ _ _ _ hsp
  refine zBZ (codeAny_mono (F.run _ X.stack _ _ ⟨Value.ref (s1.heap.objs.size+1)::us,[]⟩ (Value.ref (s1.heap.objs.size+1)::us) _ _ (fun _ _ _=>False) (hr.make C us []) (I2.env0.make C us [])
   (by have:=hb _ (Value.ref (s1.heap.objs.size+1)::us) I2.kIn (by rw[zr];exact hl);rw[zr] at this;exact this) r2 hsp) fun r s' hq'=>?_)
  cases r with
  | error e=>exact False.elim hq'
  | ok fl=>
   cases fl with
   | ret u=>
    obtain⟨v,H',I3,rv,ev,dx,hx,hE⟩:=I2.after hq'
    subst ev
    refine⟨rv,_,rfl,I3.kIn,⟨_,_,(I3.hok _ _ hx).1⟩,?_⟩
    exact hxe pins σ _ s' _ _ dx (I3.drop hx) (I3.hok _ _ hx).1 zCw s00 hE
   | next=>exact False.elim hq'
   | brk=>exact False.elim hq'
   | cont=>exact False.elim hq'
end
noncomputable def zDG (e:Addr)(od:Option Addr)(h:Heap):Prop:=∃o,h.get? e=some o/\o.dict=od
theorem zDG.step {od:Option Addr}(x:zDG e od h)(k:DK h h'):zDG e od h':=by
 obtain⟨o,q,r⟩:=x
 obtain⟨o',q',r'⟩:=k e o q
 exact⟨o',q',r'.trans r⟩
section
variable {M:Model}{A:Around}{E:vSP}{s:Shared}{base:Heap}{env:Env}{outer l:List Env}{L e:Addr}{cls a0:Value}{od:Option Addr}{Q:Unit->Shared->Prop}
theorem zIR (hfr:A.frames=some (env::outer))(hf:env.frame=some L)(hfl:Heap.FlyingW base (env::outer) e cls a0 s.heap)(hd:zDG e od s.heap)
 (hQ:∀h',Heap.HeldW base (env::outer) e cls a0 L h'->s.heap.UpToSlots h'->zDG e od h'->Q () { s with heap:=h' }):wpAny M A (noteFrame (.ref e) env) Q E s:=by
 refine zAM (zCy (zIZ _ _) (wpAny_looks_onW (Q:=fun _ s2=>∃h',s2={ s with heap:=h' }/\Heap.HeldW base (env::outer) e cls a0 L h'/\s.heap.UpToSlots h') hfr hf hfl fun h' a b=>⟨h',rfl,a,b⟩)) (fun _ s2 hq=>?_) fun _ _ z=>z
 obtain⟨⟨h',rfl,a,b⟩,k⟩:=hq
 exact hQ h' a b (hd.step k)
theorem landsD (hh:Heap.HeldW base l e cls a0 L s.heap)(hd:zDG e od s.heap)
 (hQ:∀h',Heap.FlyingW base l e cls a0 h'->s.heap.UpToSlots h'->zDG e od h'->Q () { s with heap:=h' }):wpAny M A (setFlight (.ref e) none) Q E s:=by
 refine zAM (zCy (zCf _ _) (wpAny_landsW (Q:=fun _ s2=>∃h',s2={ s with heap:=h' }/\Heap.FlyingW base l e cls a0 h'/\s.heap.UpToSlots h') hh fun h' a b=>⟨h',rfl,a,b⟩)) (fun _ s2 hq=>?_) fun _ _ z=>z
 obtain⟨⟨h',rfl,a,b⟩,k⟩:=hq
 exact hQ h' a b (hd.step k)
theorem againD (hh:Heap.FlyingW base l e cls a0 s.heap)(hd:zDG e od s.heap)
 (hQ:∀h',Heap.FlyingW base l e cls a0 h'->s.heap.UpToSlots h'->zDG e od h'->Q () { s with heap:=h' }):wpAny M A (setFlight (.ref e) none) Q E s:=by
 refine zAM (zCy (zCf _ _) (lands_againW (Q:=fun _ s2=>∃h',s2={ s with heap:=h' }/\Heap.FlyingW base l e cls a0 h'/\s.heap.UpToSlots h') hh fun h' a b=>⟨h',rfl,a,b⟩)) (fun _ s2 hq=>?_) fun _ _ z=>z
 obtain⟨⟨h',rfl,a,b⟩,k⟩:=hq
 exact hQ h' a b (hd.step k)
end
noncomputable def zKU (K:PySem.W.Frag)(C:Addr):Bool:=excI K C || PySem.W.excIn K C bmV "ValueError.__new__"
theorem zJy (X:K.In h)(q:zKU K C=true) :
 ∃bm N nm qn bs hdct sn sub ab col dd k0 k1 k2 k3 k5,h.get? C=some (excClassObj nm qn C N bs bm hdct sn sub ab col dd k0 k1 k2 k3 k5 "ValueError.__new__"):=by
 unfold zKU at q
 rcases Bool.or_eq_true _ _ ▸ q with q | q
 . obtain⟨bm,N,nm,qn,bs,sn,sub,ab,col,dd,k0,k1,k2,k3,k5,mN,hC,_⟩:=zCV X q
   exact⟨_,_,_,_,_,_,_,_,_,_,_,_,_,_,_,_,hC⟩
 . obtain⟨bm,N,nm,qn,bs,hdct,sn,sub,ab,col,dd,k0,k1,k2,k3,k5,mN,hC,_⟩:=zIi X q
   exact⟨_,_,_,_,_,_,_,_,_,_,_,_,_,_,_,_,hC⟩
noncomputable def PXI (X:Cx)(body:List Stmt)(tb:XK->TS):Prop:=∀(pins:lPO)(s:Shared)(σ:St)(H:Hp)(D:zJF)(E1:XK),Inv X pins σ H s->tb E1 D σ H ->
 wpAny (model X.prog X.w) X.A (execs body X.env) (SP X pins D) (fun e s'=>∃H1 s1,Inv X pins σ H1 s1/\CXI X.prog X.w X.stack H1 s1 E1 e s') s
section
variable {X:Cx}{k:Nat}{f:Addr}{fd:FuncData}{ps:List Str}{sp:Sp}{x:Str}{p pos epos:Pos}{e:Expr}{es:List Expr}{t:TA}
theorem zLl {pins:lPO}{s:Shared}{σ:St}{Q:VK}{E1:XK}(F:zAP X.prog X.w X.K X.mg X.base (CXI X.prog X.w) k f fd ps sp)(hr:zCa k X.A)(hg:Gl X x)(hm:X.mg x=some (.ref f))(hk:PySem.W.keepIn X.K (.ref f)=true)(hb:zCx X.K fd ps [])
 (ha:PA X.nox (e::es) t)(I:Inv X pins σ H s)(h:t σ H fun vs H1=>sp vs H1 Q E1)(hdb:(x==("__debug__" : Str))=false:=by decide) (he:starEach (e::es) X.env=(false,eval e X.env)::starEach es X.env:=by rfl)(hpl:(backTo pos (starEach es X.env)).any (·.1)=false:=by rfl) :
 wpAny (model X.prog X.w) X.A (eval (.Call (.Name x p) (e::es) [] pos) X.env) (EP X pins σ Q) (fun e s'=>∃H1 s1,Inv X pins σ H1 s1/\CXI X.prog X.w X.stack H1 s1 E1 e s') s:=by
 refine zA0 (zDv I hg hm ?_ hdb)
 refine PySem.W.callWith_K (h₀:=X.base) I.ok.mod.kin hk (zAM (ha pos pins s σ H _ (I.wish _) h) (fun us s1 ⟨vs,H1,I1,r,q⟩=>⟨I1.unwish.kIn,?_⟩) fun _ _ z=>False.elim z) he hpl
 have I2:=I1.unwish
 have hl:us.length=ps.length:=by rw[<-r.length];exact F.len _ _ _ _ q
 refine zBZ (codeAny_mono (F.run X.A X.stack s1 H1 ⟨us,[]⟩ us vs Q E1 hr I2.env0 (by have:=hb s1 us I2.kIn (by rw[zr];exact hl);rw[zr] at this;exact this) r q) fun r s' hq=>?_)
 cases r with
 | error e=>exact⟨H1,s1,I2,hq⟩
 | ok fl=>
  cases fl with
  | ret u=>exact I2.after hq
  | next=>exact False.elim hq
  | brk=>exact False.elim hq
  | cont=>exact False.elim hq
end
theorem zIj (X:K.In h)(q:zKU K C=true) :
 ∃bm N nm qn bs hdct sn sub ab col dd k0 k1 k2 k3 k5,h.get? C=some (excClassObj nm qn C N bs bm hdct sn sub ab col dd k0 k1 k2 k3 k5 "ValueError.__new__")/\OwnTail h bmV bm:=by
 unfold zKU at q
 rcases Bool.or_eq_true _ _ ▸ q with q | q
 . obtain⟨bm,N,nm,qn,bs,sn,sub,ab,col,dd,k0,k1,k2,k3,k5,mN,hC,_,T⟩:=zCV X q
   exact⟨_,_,_,_,_,_,_,_,_,_,_,_,_,_,_,_,hC,T⟩
 . obtain⟨bm,N,nm,qn,bs,hdct,sn,sub,ab,col,dd,k0,k1,k2,k3,k5,mN,hC,_,_,T⟩:=zIi X q
   exact⟨_,_,_,_,_,_,_,_,_,_,_,_,_,_,_,_,hC,T⟩
noncomputable def EHN (K:PySem.W.Frag)(W:Addr)(ts:TS)(D:zJF)(σ:St):XK:=fun C _ H'=>∃Ca,C = .ref Ca/\zKU K Ca=true/\subIn K Ca W=true/\ts D σ H'
noncomputable def tTryN (K:PySem.W.Frag)(W:Addr)(tb:XK->TS)(ts:TS):TS:=fun D σ H=>tb (EHN K W ts D σ) D σ H
theorem zK3 {X:Cx}{body:List Stmt}{b0:Stmt}{suite:List Stmt}{pos hpos np:Pos}{W:Addr}{tb:XK->TS}{ts:TS}
 (hst:X.stack=X.env::X.outer)(hfl:X.env.frame=some X.env.locals)(hg:Gl X x)(hm:X.mg x=some (.ref W))(qW:zKU X.K W=true)
 (hb:PXI X body tb)(hs:∀(ea:Addr)(oe:Obj),PSs (X.held ea oe) (b0::suite) ts)(hd:(x==("__debug__" : Str))=false:=by decide) :
 PS X (.Try body [.ExceptHandler (some (.Name x np)) none (b0::suite) hpos] [] [] pos) (tTryN X.K W tb ts):=by
 intro pins s σ H D I h
 refine wpAny_Try_except (zAM (hb pins s σ H D _ I h) (fun fl s' hq=>?_) fun e s' hq=>?_)
 . cases fl with
   | next=>exact wpAny_execs_nil hq
   | brk=>exact hq
   | cont=>exact hq
   | ret u=>exact hq
 . obtain⟨H1,s1,I1,ea,t,C,od,H',B,rfl,os,bare,un,hok,⟨fl,fd⟩,tr,old,al,Ca,rfl,qC,sub,hts⟩:=hq
   have hfr:X.A.frames=some (X.env::X.outer):=by rw[<-hst];exact I.ok.frames
   have fl':=fl
   rw[hst] at fl'
   have hHe:H' ea=none:=by
    cases z:H' ea with
    | none=>rfl
    | some u=>
     obtain⟨o,ho⟩:=tr ea u z
     rw[fl.2.1] at ho;cases ho
   refine zIR hfr hfl fl' fd fun h4 held up4 d4=>?_
   refine landsD held d4 fun h5 fl5 up5 d5=>?_
   have key:∀(h6:Heap),Heap.FlyingW B (X.env::X.outer) ea (.ref Ca) (.ref t) h6->s'.heap.UpToSlots h6->∃oe,h6.get? ea=some oe/\oe.cls = .ref Ca/\Inv (X.held ea oe) pins σ H' { s' with heap:=h6 }:=fun h6 fl6 up6=>by
    obtain⟨oe,ws,hoe,hc,hdt,_⟩:=fl6.first
    have un6:Un (frs X.stack) [] H1 H' s1.heap h6:=zIV un fl old al fl6.1 up6
    have I6:Inv X pins σ H' { s' with heap:=h6 }:=I1.call' (s':={ s' with heap:=h6 }) os un6 (hok.stays fl.1 fl6.1 tr) bare (fun b z=>absurd z (by simp))
    have nfr:ea∉frs X.stack:=fun z=>by
     rw[hst] at z
     obtain⟨_,o,ho,nd⟩:=fl6.2.2.1.mem z
     rw[hoe] at ho
     cases ho
     exact nd ws hdt
    have hfs:frs X.stack=X.env.locals::X.fs:=by
     rw[hst]
     unfold frs
     rw[List.filterMap_cons,hfl]
     rfl
    rw[hfs] at nfr
    exact⟨oe,hoe,hc,I6.hold hoe hHe (fun z=>nfr (z ▸ zV)) (fun z=>nfr (zc _ z)) (fun v z=>by rw[hdt] at z;cases z)⟩
   obtain⟨oe5,hoe5,hc5,I5⟩:=key h5 fl5 (up4.trans up5)
   refine wpAny_handleBy_cons (codeAny_handlers_test (zDv (X:=X.held ea oe5) I5 hg hm ?_ hd)) (by intro q;cases q)
   obtain⟨bm,Nn,nm,qn,bs,hdct,sn,sb,ab,col,dd,k0,k1,k2,k3,k5,hC⟩:=zJy I5.kIn qC
   obtain⟨bm',Nn',nm',qn',bs',hdct',sn',sb',ab',col',dd',k0',k1',k2',k3',k5',hW,TW⟩:=zIj I5.kIn qW
   refine zG8 hC hW hoe5 hc5 (TW.hasType (by rfl)) (sub_of I5.kIn sub hC) ?_
   refine codeAny_handlers_suite (againD fl5 d5 fun h6 fl6 up6 d6=>?_)
   obtain⟨oe6,hoe6,hc6,I6⟩:=key h6 fl6 ((up4.trans up5).trans up6)
   refine zAM (hs ea oe6 pins _ _ H' D I6 hts) (fun f s8 hq=>?_) fun _ _ z=>z.elim
   cases f with
   | next=>
    obtain⟨σ',H2,J,q⟩:=hq
    exact⟨_,H2,Inv.letgo I.ok J,q⟩
   | brk=>
    obtain⟨σ',H2,J,q⟩:=hq
    exact⟨_,H2,Inv.letgo I.ok J,q⟩
   | cont=>
    obtain⟨σ',H2,J,q⟩:=hq
    exact⟨_,H2,Inv.letgo I.ok J,q⟩
   | ret u=>
    obtain⟨v,σ',H2,J,r,q⟩:=hq
    exact⟨v,_,H2,Inv.letgo I.ok J,r,q⟩
section
variable {X:Cx}{k:Nat}{f:Addr}{fd:FuncData}{ps:List Str}{sp:Sp}{x y:Str}{p pos epos pos' cpos:Pos}{e b:Expr}{es:List Expr}{t:TA}{i:Nat}
theorem zJV {tb:TE}(hN:X.N.Nodup)(hi:X.N[i]? = some y)(hx:Loc X.env.scope y)(F:zAP X.prog X.w X.K X.mg X.base (CXI X.prog X.w) k f fd ps sp)(hr:zCa k X.A)(hg:Gl X x)(hm:X.mg x=some (.ref f))(hk:PySem.W.keepIn X.K (.ref f)=true)(hb:zCx X.K fd ps [])
 (ha:PA X.nox (e::es) t)(hv:PE X.nox b tb)(hs:swapsWith (.Compare (.Call (.Name x p) (e::es) [] pos) [.Is] [b] cpos) (some (.Name y pos')) epos.line X.env=pure false:=by rfl)(hf:X.fn y=true\/X.env.scope.names.lookup y=some .local:=by first | exact .inl rfl | exact .inr rfl | assumption)(hdb:(x==("__debug__" : Str))=false:=by decide) (he:starEach (e::es) X.env=(false,eval e X.env)::starEach es X.env:=by rfl)(hpl:(backTo pos (starEach es X.env)).any (·.1)=false:=by rfl) :
 PXI X [.Assign [.Name y pos'] (.Compare (.Call (.Name x p) (e::es) [] pos) [.Is] [b] cpos) epos] (fun E1 D σ H=>t σ H fun vs H1=>sp vs H1 (fun v H2=>tb σ H2 fun u H3=>∃c d,v = .bl c/\u = .bl d/\D.nx (σ.set i (some (.bl (c==d)))) H3) E1):=by
 intro pins s σ H D E1 I h
 refine wpAny_execs_cons (wpAny_Assign_Name (wpAny_Compare1 (zAM (zLl F hr hg hm hk hb ha I h hdb he hpl) (fun v s1 ⟨z,H1,I1,r1,q1⟩=>?_) fun _ _ z=>z) (zAD _)) hs)
 refine zAM (hv pins s1 σ H1 _ (I1.wish _) q1) (fun u s2 ⟨z2,H2,I2,r2,c,d,e1,e2,q2⟩=>?_) fun _ _ z=>False.elim z
 subst e1 e2
 cases r1;cases r2
 refine PyProof.Rows.is_bool ?_
 exact zCz I2.unwish hN hi hx (v:=.bl (c==d)) rfl (fun s3 I3=>wpAny_execs_nil ⟨_,H2,I3,q2⟩) hf
end
variable {t':Nat}
section
variable {X:Cx}{pins:lPO}{σ:St}{H:Hp}{s:Shared}
theorem Inv.off (I:Inv X pins σ H s)(f:zDF X pins H a)(k:∀b o,b≠a->s.heap.get? b=some o->h'.get? b=some o):Inv X pins σ H { s with heap:=h',toks:=t' }:=by
 obtain⟨f1,f2,f3,f4,f5,f6⟩:=f
 refine I.step (g':=s.gens) (d':=s.drawn) (ch:=[a]) (fun b hb=>?_) (fun b o _ _ hb e _=>k b o (fun z=>hb (by rw[z];exact zV)) e) (fun b o _ _ hb e _=>⟨o.slots,k b o (fun z=>hb (by rw[z];exact zV)) e⟩) (fun _ _ _ _ n=>n) (fun b o hb e=>⟨o,k b o (fun z=>hb (by rw[z];exact zV)) e⟩) (fun _ _ e=>e) (fun _ _ _ e=>e) (fun b ps e=>⟨#[],by rw[e];simp⟩) (fun m hm=>?_) (fun b u e=>?_) I.bare
 . obtain rfl:b=a:=zf.mp hb
   exact⟨f4,f2,f5,f6⟩
 . obtain⟨o,es,ep,e,z⟩:=hm
   exact⟨o,es,ep,k _ _ (Ne.symm f2) e,z⟩
 . have nb:∀c u,H c=some u->c≠a:=fun c u q z=>by rw[z,f1] at q;cases q
   refine (I.hok b u e).stay (fun x v hx z=>k x v ?_ z) (fun _ z=>z) fun _ _ z=>z
   rcases hx with z1 | z1
   . rw[z1];exact nb _ _ e
   . exact nb _ _ z1
variable {A:Around}{q pn:Str}{scope:Scope}{f:Addr}{cd:Value}{cn:List Str}{ci:List Nat}{cv:List V}{v:V}{u:Value}
end
section
variable {X:Cx}{pins:lPO}{σ:St}{H:Hp}{s:Shared}
structure LpI (X:Cx)(pins:lPO)(σ:St)(H2:Hp)(f:Addr)(of:Obj)(Ia Sa:Addr)(H:Hp)(s:Shared):Prop where
 inv:Inv X pins σ H s
 sm:zAi H2 H
 fo:s.heap.get? f=some of
 fn:zDF X pins H f
 fi:zDF X pins H Ia
 fs:zDF X pins H Sa
 d1:f≠Ia
 d2:f≠Sa
 d3:Sa≠Ia
 io:∃o,s.heap.get? Ia=some o
 so:∃o,s.heap.get? Sa=some o
theorem zDF.to {H':Hp}(f:zDF X pins H b)(h:H' b=none):zDF X pins H' b:=⟨h,f.2⟩
theorem zDF.nst (I:Inv X pins σ H s)(f:zDF X pins H b):b∉frs X.stack:=fun z=>by
 rcases zi.mp (I.stkSub b z) with q | q
 . exact f.2.1 q
 . exact f.2.2.1 q
variable {H2:Hp}{f Ia Sa l:Addr}{of:Obj}
theorem LpI.offI (L:LpI X pins σ H2 f of Ia Sa H s)(k:∀b o,b≠Ia->s.heap.get? b=some o->h'.get? b=some o)(ho:∃o,h'.get? Ia=some o):LpI X pins σ H2 f of Ia Sa H { s with heap:=h',toks:=t' }:=
 ⟨L.inv.off L.fi k,L.sm,k _ _ L.d1 L.fo,L.fn,L.fi,L.fs,L.d1,L.d2,L.d3,ho,let ⟨o,e⟩:=L.so;⟨o,k _ _ L.d3 e⟩⟩
theorem LpI.offS (L:LpI X pins σ H2 f of Ia Sa H s)(k:∀b o,b≠Sa->s.heap.get? b=some o->h'.get? b=some o)(ho:∃o,h'.get? Sa=some o):LpI X pins σ H2 f of Ia Sa H { s with heap:=h',toks:=t' }:=
 ⟨L.inv.off L.fs k,L.sm,k _ _ L.d2 L.fo,L.fn,L.fi,L.fs,L.d1,L.d2,L.d3,let ⟨o,e⟩:=L.io;⟨o,k _ _ (Ne.symm L.d3) e⟩,ho⟩
theorem LpI.call {r:Value}{s':Shared}{x:V}(L:LpI X pins σ H2 f of Ia Sa H s)(h:CE X.stack X.prog X.w H s (fun v H'=>v=x/\zAi H H') r s') :
 ∃H',LpI X pins σ H2 f of Ia Sa H' s'/\zBQ x r/\(∀o,s.heap.get? Ia=some o->s'.heap.get? Ia=some o)/\(∀o,s.heap.get? Sa=some o->s'.heap.get? Sa=some o):=by
 obtain⟨v,H',os,bare,un,hok,rv,rfl,sm⟩:=h
 have kp:∀b,zDF X pins H b->∀o,s.heap.get? b=some o->s'.heap.get? b=some o:=fun b fb o e=>un.keep b o e fb.1 (fb.nst L.inv) (by intro z;cases z)
 have fr:∀b,zDF X pins H b->(∃o,s.heap.get? b=some o)->zDF X pins H' b:=fun b fb ⟨o,e⟩=>fb.to (un.free b o e fb.1 (by intro z;cases z))
 refine⟨H',⟨L.inv.call' os un hok bare (fun b z=>absurd z (by simp)),L.sm.trans sm,kp f L.fn _ L.fo,fr f L.fn ⟨_,L.fo⟩,fr Ia L.fi L.io,fr Sa L.fs L.so,L.d1,L.d2,L.d3,?_,?_⟩,rv,kp Ia L.fi,kp Sa L.fs⟩
 . obtain⟨o,e⟩:=L.io;exact⟨o,kp Ia L.fi o e⟩
 . obtain⟨o,e⟩:=L.so;exact⟨o,kp Sa L.fs o e⟩
variable {ns:List Int}{val:Int->Int}
end
end L2
namespace L2
open PySem PySem.Spec PySem.Calls PyProof.Rows
section
variable {X:Cx}{pins:lPO}{σ:St}{H2:Hp}{s:Shared}
theorem zLU {A:Around}{a:Addr}{vs:List Value}{kz:List Int}{n:Nat}{g:Value}{P:PySem.Fin->Shared->Prop}{E:vSP}
 (ky:∀(kS hd:Addr)(of:Obj)(H:Hp)(s:Shared)(i:Nat)(v:Value)(k:Int)(E:vSP),LpI X pins σ H2 hd of a kS H s->vs[i]? = some v->kz[i]? = some k->wpAny (model X.prog X.w) A (call g [v]) (fun r s'=>CE X.stack X.prog X.w H s (fun v H'=>v = .int k/\zAi H H') r s') E s)
 (I:Inv X pins σ H2 s)(ha:s.heap.get? a=some (seqObj "list" vs.toArray n)) (fa:zDF X pins H2 a)(hl:kz.length=vs.length)(h64:vs.length<64)
 (h:∀(kS hd:Addr)(of:Obj)(H:Hp)(s':Shared)(out:List Nat)(c:Nat),LpI X pins σ H2 hd of a kS H s'->SortT.Put (O:=zJC) (fun i=>kz.getD i 0) vs.length out->s'.heap.get? a=some (seqObj "list" (out.map fun i=>vs.getD i Value.none).toArray c)->P (.done (.ret .none)) s') :
 wpAny (model X.prog X.w) A (ksk_tree a g false) P E s:=by
 unfold ksk_tree
 have hal:a<s.heap.objs.size:=zX ha
 refine zA (listItems_at ha rfl ?_)
 refine zA (listUpdate_at ha rfl ?_ (by rw[zT,sizeLine_eq];omega) (ze _))
 obtain⟨e1,ho1⟩:∃e1,(s.heap.update a (Obj.mapSeq fun _=>#[])).get? a=some (seqObj "list" #[] e1):=⟨_,get?_update_seq ha (fun _=>#[])⟩
 refine zA (seqEpoch_at ho1 rfl ?_)
 refine zA (wpAny_newTuple ?_ (by show vs.length<=_;rw[sizeLine_eq];omega))
 refine zA (wpAny_newList ?_ (ze _))
 refine zAN ?_
 generalize hh0:s.heap.update a (Obj.mapSeq fun _=>#[])=h0 at *
 have z0:h0.objs.size=s.heap.objs.size:=by rw[<-hh0,Heap.size_update]
 have z1:(h0.push (seqObj "tuple" vs.toArray 0)).objs.size=s.heap.objs.size+1:=by rw[size_push',z0]
 have L0:LpI X pins σ H2 s.heap.objs.size (seqObj "tuple" vs.toArray 0) a (s.heap.objs.size+1) H2 { s with heap:=(h0.push (seqObj "tuple" vs.toArray 0)).push (seqObj "list" #[] 0) }:=by
  refine⟨I.off fa fun b o hb e=>zG _ (zG _ ?_),zAi.refl _,?_,I.fpOk (zK _) (I.hok.fresh (zK _)),fa,I.fpOk (zAq _) (I.hok.fresh (zAq _)),Nat.ne_of_gt hal,zd (Nat.lt_succ_self _),Nat.ne_of_gt (zAo hal),⟨_,zG _ (zG _ ho1)⟩,⟨seqObj "list" #[] 0,?_⟩⟩
  . rw[<-hh0,zAX _ _ _ _ hb];exact e
  . refine zG _ ?_
    rw[<-z0]
    exact zR _ rfl
  . rw[<-z1];exact zR _ rfl
 have a0:((h0.push (seqObj "tuple" vs.toArray 0)).push (seqObj "list" #[] 0)).get? a=some (seqObj "list" #[] e1):=zG _ (zG _ ho1)
 have k0:((h0.push (seqObj "tuple" vs.toArray 0)).push (seqObj "list" #[] 0)).get? (s.heap.objs.size+1)=some (seqObj "list" #[] 0):=by
  rw[<-z1];exact zR _ rfl
 rw[z1]
 generalize (h0.push (seqObj "tuple" vs.toArray 0)).push (seqObj "list" #[] 0)=h1 at *
 generalize s.heap.objs.size+1=kS at *
 generalize s.heap.objs.size=hd at *
 generalize seqObj "tuple" vs.toArray 0=of at *
 unfold ksk_rest
 refine zA (wpAny_rule ?_)
 rw[List.forIn_toArray]
 refine zA (ksk_fold (fun i s'=>∃(H:Hp)(ks:List Value)(c:Nat),LpI X pins σ H2 hd of a kS H s'/\IntsAre ks (kz.take i)/\s'.heap.get? a=some (seqObj "list" #[] e1)/\s'.heap.get? kS=some (seqObj "list" ks.toArray c)) vs 0 _ ⟨H2,[],0,L0,?_,a0,k0⟩ (fun j x s' hx z=>?_) (fun s' z=>?_))
 . rw[List.take_zero];exact .nil
 . obtain⟨H,ks,c,L,hI,ha1,hk1⟩:=z
   rw[Nat.zero_add] at hI
   have hj:j<kz.length:=by have:=(zH.mp hx).1;omega
   refine zA (wpAny_attempt (zAM (ky kS hd of H s' j x kz[j] (fun _ _=>False) L hx (zB hj)) (fun r s2 hce=>?_) fun _ _ z=>z.elim))
   obtain⟨H',L2,rv,kI,kK⟩:=L.call hce
   obtain⟨t2,rfl⟩:=rv
   have hk2:=kK _ hk1
   have hlk:ks.length=j:=by rw[hI.length,zk];omega
   refine zA (listUpdate_at hk2 rfl (zF ⟨rfl,?_⟩) (by rw[zT,sizeLine_eq];omega) (by rw[Array.size_push,zT,sizeLine_eq];omega))
   refine⟨H',ks++[.int kz[j] t2],c+1,L2.offS (t':=s2.toks) (fun b o hb e=>(zAX _ _ _ _ hb).trans e) ⟨_,zAc _ hk2 rfl⟩,?_,(zAX _ _ _ _ (Ne.symm L.d3)).trans (kI _ ha1),?_⟩
   . rw[Nat.zero_add,zq,zB hj]
     exact hI.append (.cons _ _ .nil)
   . show (s2.heap.update kS _).get? kS=_
     rw[get?_update_seq hk2 (fun x=>x.push _)]
     simp
 . obtain⟨H,ks,c,L,hI,ha1,hk1⟩:=z
   rw[Nat.zero_add,<-hl,List.take_length] at hI
   have hlk:ks.length=vs.length:=by rw[hI.length,hl]
   refine zA (listItems_at hk1 rfl ?_)
   have fin:∀(q:List Nat)(st:SortSt),SortT.Put (O:=zJC) (fun i=>kz.getD i 0) vs.length q->(arrOf st).map (·.2)=(q.map fun i=>vs.getD i Value.none).toArray->q.length=vs.length->failedOf st=none->wpAny (model X.prog X.w) A (ksk_tail a false e1 (.ref kS) st) P E s':=fun q st pt hs hql hf=>by
    unfold ksk_tail
    refine zA (listUpdate_at hk1 rfl (zA (wpAny_letGo ?_)) (by rw[zT,sizeLine_eq];omega) (ze _))
    have ha2:(s'.heap.update kS (Obj.mapSeq fun _=>#[])).get? a=some (seqObj "list" #[] e1):=(zAX _ _ _ _ (Ne.symm L.d3)).trans ha1
    refine zA (seqEpoch_at ha2 rfl ?_)
    refine zA (listUpdate_at ha2 rfl ?_ (ze _) (by simp only[zA2,if_false];rw[hs,zT,zC,hql,sizeLine_eq];omega))
    rw[hf]
    simp only[bne_self_eq_false,zA2,if_false]
    refine zF ?_
    obtain⟨c2,hc2⟩:∃c2,((s'.heap.update kS (Obj.mapSeq fun _=>#[])).update a (Obj.mapSeq fun _=>(arrOf st).map (·.2))).get? a=some (seqObj "list" (q.map fun i=>vs.getD i Value.none).toArray c2):=⟨_,by rw[get?_update_seq ha2 (fun _=>(arrOf st).map (·.2)),hs]⟩
    refine h kS hd of H _ q c2 ((L.offS (t':=s'.toks) (fun b o hb e=>(zAX _ _ _ _ hb).trans e) ⟨_,zAc _ hk1 rfl⟩).offI (t':=s'.toks) (fun b o hb e=>(zAX _ _ _ _ hb).trans e) ⟨_,zAc _ ha2 rfl⟩) pt hc2
   unfold ksk_end
   dsimp only
   rw[if_neg (by decide)]
   by_cases h2:vs.toArray.size<2
   . rw[if_pos h2,if_pos h2]
     refine zA (zF ?_)
     rw[StateT.run_pure]
     refine zA (zF ?_)
     have hlen:vs.length<2:=by simpa using h2
     refine fin (List.range vs.length) _ ⟨.refl _,fun i j x y hij hx hy=>?_⟩ ?_ (zAQ) rfl
     . have hj:j<(List.range vs.length).length:=(zH.mp hy).1
       rw[zAQ] at hj
       have e:i=j:=by omega
       subst e
       rw[hx] at hy
       cases hy
       exact KeyOrd.kle_refl _
     . show (ks.toArray.zip vs.toArray).map (·.2)=_
       match ks,vs,hlk,hlen with
       | [],[],_,_=>simp
       | [k],[v],_,_=>simp
       | _::_::_,_::_::_,_,h=>exfalso;simp only[zp] at h;omega
   . rw[if_neg h2,if_neg h2]
     have h2':2<=vs.length:=by
      have:¬ vs.length<2:=by simpa using h2
      omega
     have K:=zFv (prog:=X.prog) (w:=X.w) (A:=A) (s:=s') (a:=a) hI (by omega)
     refine zA (K.kind s'.heap _ _ (fun _ _ _ e=>e) ?_)
     obtain⟨q,eq,hp,hs⟩:=SortT.sort_ok (O:=zJC) (key:=fun i=>kz.getD i 0) vs.length (by omega)
     have run:(PySem.W.kas_sort vs.length).kasWp (PySem.W.kas_ask X.prog X.w A oneType' ks) (fun p s2=>p=q/\s2=s') s':=
      SortT.wp_ev (lt:=SortT.lt_ (O:=zJC) (fun i=>kz.getD i 0)) (n:=vs.length) (fun i j C hi hj hC=>K.less s'.heap i j C _ (fun _ _ _ e=>e) (by omega) (by omega) hC) _ (SortT.sort_win (by omega)) ⟨eq,rfl⟩
     refine zA (zAM (PySem.W.kat_run (ks:=ks) (vs:=vs) (Q:=fun st' s2=>∃p:Array Nat,p.size=vs.length/\arrOf st'=p.map (PySem.W.kas_item (ks.toArray.zip vs.toArray))/\failedOf st'=none/\p=q/\s2=s')
      hlk h2' h64 (fun p' st' s2 a1 a2 a3 a4=>⟨p',a1,a2,a3,a4⟩) run) ?_ fun _ _ e=>e)
     rintro ⟨⟨⟩,st'⟩ s2 ⟨p,hsz,har,hf,rfl,rfl⟩
     exact fin p.toList st' (SortT.put_of hp hs) (PySem.W.kat_snds (ks:=ks) (vs:=vs) hlk har) (by simpa using hsz) hf
theorem LpI.take {hd D kS:Addr}{of:Obj}{H:Hp}{s':Shared}{zs:List V}{us:List Value}{c:Nat}(L:LpI X pins σ H2 hd of D kS H s')(ho:s'.heap.get? D=some (seqObj "list" us.toArray c)) (r:zBE zs us)(hz:zs.length<=sizeLine):Inv X pins σ (upd H D (.lst zs)) s':=by
 have I:=L.inv
 obtain⟨f1,f2,f3,f4,f5,f6⟩:=L.fi
 have nb:∀c u,H c=some u->(upd H D (.lst zs)) c=some u:=fun c u q=>by
  rw[za (fun z=>by rw[z,f1] at q;cases q)];exact q
 refine I.step (g':=s'.gens) (d':=s'.drawn) (h':=s'.heap) (t':=s'.toks) (ch:=[D]) (fun b hb=>?_) (fun b o _ _ _ e _=>e) (fun b o _ _ _ e _=>⟨o.slots,e⟩) (fun b o hb _ n=>?_) (fun b o _ e=>⟨o,e⟩) (fun b xs e=>nb _ _ e) (fun b o u e=>nb _ _ e) (fun b ps e=>⟨#[],by rw[nb _ _ e];simp⟩) (fun m hm=>hm) (fun b u e=>?_) I.bare
 . obtain rfl:b=D:=zf.mp hb
   exact⟨f4,f2,f5,f6⟩
 . rw[za (fun z=>hb (by rw[z];exact zV))];exact n
 . by_cases hb:b=D
   . subst hb
     rw[zJ] at e
     cases e
     exact⟨hz,us,c,r,ho⟩
   . rw[za hb] at e
     exact (I.hok b u e).stay (fun x v _ z=>z) (fun x z=>nb _ _ z) fun x ys z=>nb _ _ z
theorem zF0 {t f:Addr}{us:List Value}{xs:List V}{kz:List Int}{Q E:vSP}
 (ky:∀(a kS hd:Addr)(of:Obj)(H:Hp)(s:Shared)(i:Nat)(v:Value)(k:Int)(E:vSP),LpI X pins σ H2 hd of a kS H s->us[i]? = some v->kz[i]? = some k->wpAny (model X.prog X.w) X.A.in1.in1 (call (.ref f) [v]) (fun r s'=>CE X.stack X.prog X.w H s (fun v H'=>v = .int k/\zAi H H') r s') E s)
 (I:Inv X pins σ H2 s)(ht:IsTup s.heap t us.toArray)(rv:zBE xs us)(hl:kz.length=us.length)(h64:us.length<64)
 (h:∀(D:Addr)(H:Hp)(s':Shared)(out:List Nat),H2 D=none->zAi H2 H->H D=none->SortT.Put (O:=zJC) (fun i=>kz.getD i 0) us.length out->Inv X pins σ (upd H D (.lst (out.map fun i=>xs.getD i .non))) s'->Q (.ref D) s') :
 wpAny (model X.prog X.w) X.A (call (.builtin "sorted") [.ref t] [(Str.ofString "key",.ref f)]) Q E s:=by
 refine PyProof.Rows.call_function_entry_kw kind_sorted plain_sorted entry_sorted (ksk_s1 _ _) ?_
 unfold Builtin.«sorted»
 refine zA (m:=checkCount "sorted" 1 1 _) (zF (zA (SortT.gather_tup ht (by rw[sizeLine_eq];omega) (zA (wpAny_newList ?_ (by rw[sizeLine_eq];omega))))))
 generalize hh1:(s.heap.push (seqObj "list" #[] 0)).update s.heap.objs.size (Obj.mapSeq (· ++ us.toArray))=h1
 have hsz:h1.objs.size=s.heap.objs.size+1:=by rw[<-hh1,Heap.size_update,size_push']
 have hk:∀b o,s.heap.get? b=some o->h1.get? b=some o:=fun b o z=>by
  rw[<-hh1,zAX _ _ _ _ (zd (zX z)),Heap.get?_push_ne _ _ _ (zd (zX z))]
  exact z
 have hoL:(h1.push (seqObj "list" us.toArray 0)).get? h1.objs.size=some (seqObj "list" us.toArray 0):=zR _ rfl
 have I1:Inv X pins σ H2 { s with heap:=h1.push (seqObj "list" us.toArray 0) }:=I.kept (t':=s.toks) fun b o e=>zG _ (hk b o e)
 have fD:zDF X pins H2 h1.objs.size:=I.fpOk (by rw[hsz];exact zAq _) (I.hok.fresh (by rw[hsz];exact zAq _))
 refine zA (zAN (PyProof.Rows.wpAny_call_entry_kw slot_list_sort ⟨_,hoL,rfl⟩ entry_list_sort (wpAny_of_eq (ksk_t1 f _) (zLU (fun kS hd of H s i v k E=>ky _ kS hd of H s i v k E) I1 hoL fD hl h64 fun kS hd of H s' out c L pt ho=>⟨_,rfl,?_⟩)) (ksk_l1 _ _)))
 refine zF ⟨_,rfl,?_⟩
 refine h _ H s' out fD.1 L.sm L.fi.1 pt (L.take ho ?_ ?_)
 . have hx:=rv.length
   have pm:=pt.perm
   have hb:∀i∈out,i<us.length:=fun i hi=>zBg.mp (pm.mem_iff.mp hi)
   clear pt ho pm
   induction out with
   | nil=>exact .nil
   | cons i out ih=>
    obtain⟨u,hu,ru⟩:=rv.get (i:=i) (x:=xs[i]'(by rw[hx];exact hb i zV)) (zB _)
    refine .cons ?_ (ih fun j hj=>hb j (zc _ hj))
    show zBQ (xs.getD i .non) (us.getD i .none)
    rw[zE,zE,hu,zB (by rw[hx];exact hb i zV)]
    exact ru
 . rw[zC,pt.perm.length_eq,zAQ];rw[sizeLine_eq];omega
end
noncomputable def tSortK (sp:Sp)(E:XK)(t:TA):TE:=fun σ H Q=>t σ H fun vs H1=>∃(p:Addr)(xs:List V)(kz:List Int),vs=[.ref p]/\H1 p=some (.tup xs)/\kz.length=xs.length/\xs.length<64 /\
 (∀(i:Nat)(x:V)(k:Int),xs[i]? = some x->kz[i]? = some k->∀H2,zAi H1 H2->sp [x] H2 (fun v H3=>v = .int k/\zAi H2 H3) E) /\
 ∀(D:Addr)(out:List Nat)(H2:Hp),SortT.Put (O:=zJC) (fun i=>kz.getD i 0) xs.length out->H1 D=none->zAi H1 H2->H2 D=none->Q (.ref D) (upd H2 D (.lst (out.map fun i=>xs.getD i .non)))
section
variable {X:Cx}
theorem zJc {k:Nat}{f:Addr}{fd:FuncData}{x:Str}{ps:List Str}{sp:Sp}{e:Expr}{t:TA}{pos np kp kpos:Pos}(F:zAP X.prog X.w X.K X.mg X.base CX0 k f fd ps sp)(hr:zCa (k+2) X.A)(hg:Gl X "sorted") (hm:X.mg "sorted" = none) (hgf:Gl X x)(hmf:X.mg x=some (.ref f))(hb:zCx X.K fd ps [])
 (he:PA X [e] t)(hdb:(x==("__debug__" : Str))=false:=by decide)
 (hs1:backTo pos (starEach [e] X.env)=(false,eval e X.env)::backTo pos (starEach [] X.env):=by rfl)(hs2:(backTo pos (starEach [e] X.env)).any (·.1)=false:=by rfl) :
 PE X (.Call (.Name "sorted" np) [e] [⟨some "key",.Name x kp,kpos⟩] pos) (tSortK sp E0 t):=by
 intro pins s σ H Q I h
 refine zA0 (zCe I hg hm (by decide +kernel:bootBuiltins "sorted" = some (.builtin "sorted")) ?_)
 refine PyProof.Rows.callWith_kw (thn (he pos pins s σ H _ I h) fun us s1 ⟨vs,H1,I1,r,q1⟩=>?_) hs1 hs2
 obtain⟨p,xs,kz,rfl,hp,hl,h64,q1,q⟩:=q1
 obtain⟨u,rfl,rx⟩:=zCS r
 cases rx
 show wpAny _ _ (evalAll ((do let v <-eval (.Name x kp) X.env;standAt pos;pure v)::[])) _ _ s1
 refine wpAny_evalAll_cons (zA (zDv I1 hgf hmf ?_ hdb))
 refine zA (zBn (zF (wpAny_evalAll_nil ?_)))
 show wpAny _ _ (call (.builtin "sorted") [.ref p] [(Str.ofString "key",.ref f)]) _ _ s1
 obtain⟨its,r',pl,hz⟩:=I1.tuple (SqT.of hp)
 have hx:=r'.length
 refine zF0 (xs:=xs) (kz:=kz) (fun a kS hd of H2 s2 i v kk E' L hv hk=>?_) I1 pl r' (by omega) (by omega) fun D H2 s2 out d1 sm d2 pt I2=>⟨.ref D,_,I2,rfl,q D out H2 (by rw[hx];exact pt) d1 sm d2⟩
 have hi:i<xs.length:=by have:=(zH.mp hv).1;omega
 obtain⟨u,hu,ru⟩:=r'.get (i:=i) (x:=xs[i]) (zB hi)
 rw[hv] at hu
 cases hu
 have e0:=L.inv.env0
 have hl1:=F.len _ _ _ _ (q1 i _ kk (zB hi) hk H2 L.sm)
 refine zBZ (codeAny_mono (F.run X.A.in1.in1 X.stack s2 H2 ⟨[v],[]⟩ [v] [xs[i]] _ E0 hr.in1.in1 ⟨e0.frames,e0.mod,e0.bs,e0.bsz,e0.funs,e0.frf,e0.hok,e0.bare⟩ (by have:=hb s2 [v] L.inv.kIn hl1;rwa [zr] at this) (.cons ru .nil) (q1 i _ kk (zB hi) hk H2 L.sm)) fun r s' hq=>?_)
 cases r with
 | error e=>exact False.elim hq
 | ok fl=>
  cases fl with
  | ret u=>exact hq
  | next=>exact False.elim hq
  | brk=>exact False.elim hq
  | cont=>exact False.elim hq
end
end L2
namespace L2
open PySem PySem.Spec PyProof.Rows
structure FuB (K:PySem.W.Frag)(mg:sOV)(x:Str)(st:Stmt)(f:Addr)(fd:FuncData)(ps:List Str):Prop where
 F:Fun K x x st f fd
 b:zCx K fd ps []
 m:mg x=some (.ref f)
variable {X:Cx}{x:Str}{pos:Pos}
theorem zAL {st:Stmt}{f:Addr}{fd:FuncData}{ps:List Str}{sp:Sp}{k:Nat}{e:Expr}{es:List Expr}{t:TA}{p:Pos}(G:zAP X.prog X.w X.K X.mg X.base CX0 k f fd ps sp)(hr:zCa k X.A)(B:FuB X.K X.mg x st f fd ps)(ha:PA X (e::es) t)(hg:Gl X x:=by rfl)(hdb:(x==("__debug__" : Str))=false:=by decide)(he:starEach (e::es) X.env=(false,eval e X.env)::starEach es X.env:=by rfl)(hpl:(backTo pos (starEach es X.env)).any (·.1)=false:=by rfl):PE X (.Call (.Name x p) (e::es) [] pos) (tCall sp [] E0 t):=zCt G hr hg B.m B.F.kp B.b .nil zK8 ha hdb he hpl
theorem Fun.okD {P:Program}{w:World}{K:PySem.W.Frag}{mg:sOV}{base:Heap}{qual:Str}{st:Stmt}{f:Addr}{fd:FuncData}{N ps:List Str}{k:Nat}{sp:Sp}(F:Fun K x qual st f fd)(S:zw N ps (defScope st))
 (hbody:∀(cdv:Value)(A:Around)(outer:List Env)(s:Shared)(H:Hp)(vs:List V)(Q:VK)(E:XK),zCa k (A.deeper (PyProof.Rows.envOfC qual (defScope st) s.heap.objs.size f cdv))->sp vs H Q E ->
  ∃t,PSs (zGm CX0 P w K mg base N qual (defScope st) f cdv A outer s H E).nox (defBody st) t/\t { nx:=fun _ H'=>Q .non H',rt:=Q } (start N vs) H)(len:∀vs H Q E,sp vs H Q E->vs.length=ps.length:=by intro _ _ _ _ h;repeat (first|(obtain⟨rfl,_⟩:=h;rfl)|obtain⟨_,h⟩:=h)):zAP P w K mg base CX0 (k+1) f fd ps sp:=F.ok S len hbody
theorem zBA {i:Nat}{e:Expr}{te:TE}{pos':Pos}(hN:X.N.Nodup)(he:PE X e te)(hi:X.N[i]? = some x:=by rfl)(hx:Loc X.env.scope x:=by exact Or.inl rfl)(hs:swapsWith e (some (.Name x pos')) pos.line X.env=pure false:=by rfl)(hf:X.fn x=true\/X.env.scope.names.lookup x=some .local:=by first | exact .inl rfl | exact .inr rfl | assumption):PS X (.Assign [.Name x pos'] e pos) (tAsg te (zHJ i)):=zB9 hN hi hx he hs hf
theorem zt {a b:Expr}{ta tb:TE}{r:R2}(hr:IxR X r)(ha:PE X a ta)(hb:PE X b tb)(hs:zGG b:=by exact fun _ _=>rfl):PE X (.Subscript a b pos) (tOp r ta tb):=pe_ix hr ha hb hs
theorem zBr (hN:X.N.Nodup:=by exact zDZ rfl)(hi:X.N[0]? = some x:=by rfl)(hx:Loc X.env.scope x:=by exact Or.inl rfl)(hf:X.fn x=true\/X.env.scope.names.lookup x=some .local:=by first | exact .inl rfl | exact .inr rfl | assumption):PG X (.Name x pos) (zHJ 0):=zv hN hi hx hf
end L2
namespace K90
open PySem L2 WM
variable {P:Program}{w:World}{K:PySem.W.Frag}{mg:sOV}{base:Heap}{PT:Addr}{X:Cx}
noncomputable abbrev zJR:Stmt:=top 47
noncomputable abbrev zEF:Stmt:=top 48
noncomputable abbrev sWeb:Stmt:=top 49
noncomputable abbrev zKG:Stmt:=top 5
noncomputable abbrev sWi:Stmt:=top 6
noncomputable abbrev zKw:Stmt:=top 7
noncomputable abbrev sRis:Stmt:=top 8
noncomputable abbrev sPl:Stmt:=top 9
noncomputable abbrev zHz:Stmt:=top 11
noncomputable abbrev zH1:Stmt:=top 12
noncomputable abbrev zFE:Stmt:=top 13
noncomputable abbrev zG3:Stmt:=top 19
noncomputable abbrev zEl:Stmt:=top 22
noncomputable abbrev zG2:Stmt:=top 23
noncomputable abbrev zHw:Stmt:=top 37
noncomputable abbrev zH0:Stmt:=top 36
noncomputable abbrev zHy:Stmt:=top 35
noncomputable abbrev sBwr:Stmt:=top 38
noncomputable abbrev sNbr:Stmt:=top 39
noncomputable abbrev sOrd:Stmt:=top 41
noncomputable abbrev sByo:Stmt:=top 42
noncomputable abbrev sLbr:Stmt:=top 43
noncomputable abbrev sIsh:Stmt:=top 44
noncomputable abbrev sEbr:Stmt:=top 45
noncomputable abbrev sOwn:Stmt:=top 14
noncomputable abbrev sSum:Stmt:=top 17
noncomputable abbrev zF2:Stmt:=top 15
noncomputable abbrev sHub:Stmt:=top 16
noncomputable abbrev sEnt:Stmt:=top 18
noncomputable abbrev zG1:Stmt:=top 20
noncomputable abbrev zHx:Stmt:=top 25
noncomputable abbrev zHv:Stmt:=top 26
noncomputable abbrev sOf:Stmt:=top 27
noncomputable abbrev sUf:Stmt:=top 28
noncomputable abbrev sUr:Stmt:=top 29
noncomputable abbrev sTf:Stmt:=top 30
noncomputable abbrev sGm:Stmt:=top 31
noncomputable abbrev sDf:Stmt:=top 32
noncomputable abbrev sDr:Stmt:=top 33
noncomputable abbrev sAdd:Stmt:=top 50
noncomputable abbrev sLes:Stmt:=top 51
noncomputable abbrev sFar:Stmt:=top 52
noncomputable abbrev sJoi:Stmt:=top 53
noncomputable abbrev sNxs:Stmt:=top 54
noncomputable abbrev zGR:Stmt:=top 55
noncomputable abbrev sAh:Stmt:=top 56
noncomputable abbrev sBe:Stmt:=top 57
noncomputable abbrev sXc:Stmt:=top 58
noncomputable abbrev sLn:Stmt:=top 59
noncomputable abbrev sBl:Stmt:=top 60
noncomputable abbrev sHb:Stmt:=top 61
noncomputable abbrev sIl:Stmt:=top 62
noncomputable abbrev sLd:Stmt:=top 63
noncomputable abbrev sRt:Stmt:=top 64
noncomputable abbrev sI1:Stmt:=mth 2 0
noncomputable abbrev sLaw:Stmt:=top 65
noncomputable def zB4 (H:Hp)(t p:Addr)(N:Nat):Prop:=∃(ns:List Int)(spot rest:Int),H t=some (.lst [.ref p,.int spot,.int rest])/\H p=some (.lst (ns.map V.int))/\p≠t/\0<=spot/\spot<=N/\0<=rest/\ns.length<=63
noncomputable def zAO (H:Hp)(t:Addr)(N:Nat):Prop:=∃p:Addr,zB4 H t p N
variable {H:Hp}{N:Nat}
theorem zAO.mono {t:Addr}{M:Nat}(h:zAO H t N)(l:N<=M):zAO H t M:=by
 obtain⟨p,ns,spot,rest,a,b,c,d,e,f⟩:=h
 exact⟨p,ns,spot,rest,a,b,c,d,by omega,f⟩
noncomputable def Sm (t:Addr)(H H':Hp):Prop:=∀b o,b≠t->H b=some o->H' b=some o
theorem Sm.refl (t:Addr)(H:Hp):Sm t H H:=fun _ _ _ e=>e
variable {H2:Hp}
theorem Sm.trans {t:Addr}{H1:Hp}(a:Sm t H H1)(b:Sm t H1 H2):Sm t H H2:=fun c o n e=>b c o n (a c o n e)
variable {H':Hp}
theorem Sm.of {t:Addr}(h:zAi H H'):Sm t H H':=fun b o _ e=>h b o e
variable {l:Addr}
theorem Sm.laid {t:Addr}{o:HO}(h:H l=none):Sm t H (upd H l o):=fun b u _ e=>by rw[za (zn e h)];exact e
theorem Sm.chg {t:Addr}{o:HO}(s:Sm t H H')(h:H l=none):Sm t H (upd H' l o):=fun b u n e=>by rw[za (zn e h)];exact s b u n e
theorem zI {o:HO}(h:H l=none):zAi H (upd H l o):=fun b u e=>by rw[za (zn e h)];exact e
theorem zAY {o:HO}(s:zAi H H')(h:H l=none):zAi H (upd H' l o):=fun b u e=>by rw[za (zn e h)];exact s b u e
theorem zAO.keep {t:Addr}(h:zAO H t N)(k:zAi H H'):zAO H' t N:=by
 obtain⟨p,ns,spot,rest,a,b,c⟩:=h
 exact⟨p,ns,spot,rest,k _ _ a,k _ _ b,c⟩
theorem zAO.laid {t:Addr}{o:HO}(h:zAO H t N)(hl:H l=none):zAO (upd H l o) t N:=h.keep (zI hl)
variable {b:Addr}
theorem zAO.ne {t:Addr}(h:zAO H t N)(hb:H b=none):b≠t:=by
 obtain⟨p,ns,spot,rest,a,_⟩:=h
 exact (zn a hb).symm
theorem zAO.chg {t:Addr}{o u:HO}(h:zAO H t N)(hl:H l=some u)(hu:∀xs,u ≠ .lst xs):zAO (upd H l o) t N:=by
 obtain⟨p,ns,spot,rest,a,b,c⟩:=h
 exact⟨p,ns,spot,rest,by rw[za (zBT a hl fun z=>hu _ z.symm)];exact a,by rw[za (zBT b hl fun z=>hu _ z.symm)];exact b,c⟩
variable {p:Addr}
theorem zB4.keepF {t:Addr}{M:Nat}(h:zB4 H t p N)(k1:∀o,H t=some o->H' t=some o)(k2:∀o,H p=some o->H' p=some o)(l:N<=M):zB4 H' t p M:=by
 obtain⟨ns,spot,rest,a,b,c,d,e,f⟩:=h
 exact⟨ns,spot,rest,k1 _ a,k2 _ b,c,d,by omega,f⟩
noncomputable def zEi:Sp:=fun vs H Q _=>∃(t p:Addr)(N:Nat)(many:Int),vs=[.ref t,.int many]/\zB4 H t p N/\N<1000000/\0<many/\many<1000000 /\
 ∀(r:Int)(H':Hp),0<=r->r<many->zB4 H' t p (N+1)->(∀b,b≠t->H' b=H b)->Q (.int r) H'
noncomputable def zEP:Sp:=fun vs H Q _=>∃(t:Addr)(N:Nat)(many:Int),vs=[.ref t,.int many]/\zAO H t N/\N<1000000/\0<many/\many<1000000 /\
 ∀(r:Int)(H':Hp),0<=r->r<many->zAO H' t (N+1)->(∀b,b≠t->H' b=H b)->Q (.int r) H'
noncomputable def zKB (K:PySem.W.Frag):Sp:=fun vs H Q _=>∃(a:Addr)(ns:List Int),vs=[.ref a]/\SqL K H a (ns.map V.int)/\ns.length<=63/\∀(t:Addr)(H':Hp),H t=none->zAO H' t 0->zAi H H'->Q (.ref t) H'
theorem scTape:zw ["_law_script"] ["_law_script"] (defScope zJR):=fS0
variable {f:Addr}
theorem zLF {fd:FuncData}(F:Fun K "_law_tape" "_law_tape" zJR f fd):zAP P w K mg base CX0 1 f fd ["_law_script"] (zKB K):=by
 refine F.okD scTape fun _ A _ _ H vs Q E hr h=>?_
 obtain⟨a,ns,rfl,hS,hl,k⟩:=h
 refine⟨_,zZ (zAA (zCE (zD (zCP zHq (pv 0) zCc (zCb zj)) (zDT (zDT zN))))),?_⟩
 refine⟨_,rfl,_,rfl,a,_,rfl,hS,fun p hp=>⟨by show 3<=sizeLine;decide,fun t ht=>?_⟩⟩
 have npt:p≠t:=fun e=>by rw[e,zJ] at ht;cases ht
 have e1:zFx (ns.map V.int) none (some 63)=(ns.take 63).map V.int:=by
  unfold zFx
  rw[HT.sIx_none,List.drop_zero,Nat.sub_zero,zC,show (63:Int)=((63:Nat):Int) from rfl,HT.sIx_nat,List.map_take]
  rw[show min 63 ns.length=ns.length by omega,zb (by rw[zC];exact zK _),zb (by rw[zC];exact hl)]
 have ht0:H t=none:=by rw[za npt.symm] at ht;exact ht
 refine k t _ ht0 ⟨p,ns.take 63,0,0,zJ,?_,npt,zBS _,zBS _,zBS _,by rw[zk];omega⟩ ?_
 . rw[za npt,zJ,e1]
 . exact zAY (zI hp) ht0
theorem zFD:zw ["_law_tape_here", "_law_many", "_law_found", "_law_spot", "_law_cell", "_law_mixed"] ["_law_tape_here", "_law_many"] (defScope zEF):=fS0
variable {a:Int}
theorem zDq {m:Int}(h:0<m):0<=a%m/\a%m<m:=⟨Int.emod_nonneg _ (by omega),Int.emod_lt_of_pos _ h⟩
theorem zDc {fd:FuncData}(F:Fun K "_law_draw" "_law_draw" zEF f fd) (mLen:mg "len" = none):zAP P w K mg base CX0 1 f fd ["_law_tape_here", "_law_many"] zEi:=by
 refine F.okD zFD fun _ A _ _ H vs Q E hr h=>?_
 obtain⟨t,p,N,many,rfl,T,hN,hm0,hm1,k⟩:=h
 obtain⟨ns,spot,rest,ht,hp,hne,hs0,hs1,hr0,hl⟩:=T
 refine⟨_,zP (zA9 (zAC zFM (zt zAZ (pv 0) zj) zj (zAD _))
  (zP (zBA (i:=2) zFD.nd (zA5 zDp (zt zAZ (pv 0) zj) (pv 1)))
  (zP (zCp (zA5 zEq (zt zAZ (pv 0) zj) (pv 1)) (zC1 (pv 0) zj zCG))
  (zZ (zAA (pv 2))))) zAR)
  (zP (zBA (i:=3) zFD.nd (zt zAZ (pv 0) zj))
  (zP (zCp (zA5 zB0 (pv 3) zj) (zC1 (pv 0) zj zCG))
  (zP (zBA (i:=4) zFD.nd (zC2 (zAC zFM (zAa zAy mLen (zD (zt zAZ (pv 0) zj) zN)) zj (zAD _))
   (zt zAZ (zt zAZ (pv 0) zj) (zA5 zDp (pv 3) (zAa zAy mLen (zD (zt zAZ (pv 0) zj) zN)))) zj))
  (zP (zA9 (zFJ (zAC op_ge (pv 4) (zA5 op_pow zj zj) (zAD _)) (zDl (zAC zJi (pv 3) (zAa zAy mLen (zD (zt zAZ (pv 0) zj) zN)) (zAD _)))).pt
   (zP (zCp (zA5 zEq (pv 4) (pv 1)) (zC1 (pv 0) zj zCG)) (zZ (zAA (zA5 zDp (pv 4) (pv 1))))) zAR)
  (zP (zBA (i:=5) zFD.nd (zA5 zDp (zA5 zET (zA5 zB0 (zA5 zDp (pv 4) zj) zj) (zA5 zB0 zj (zA5 zET zj (pv 3)))) zj))
  (zZ (zAA (zA5 zDp (zA5 zEq (zA5 zDp (zA5 zET (zA5 zB0 (pv 5) (zA5 zET (zA5 zET zj (pv 3)) (pv 3))) zj) zj) zj) (pv 1))))))))),?_⟩
 have cd:CDiv 0 many:=⟨hm0,by omega⟩
 refine⟨_,rfl,t,_,_,_,rfl,rfl,SqL.of ht,rfl,_,_,rfl,rfl,_,rfl,?_⟩
 refine zFW (fun hc=>?_) (fun hc=>?_)
 . have hpos:0<rest:=of_decide_eq_true hc
   refine⟨_,rfl,t,_,_,_,rfl,rfl,SqL.of ht,rfl,_,rfl,_,_,rfl,rfl,hm0,?_⟩
   refine⟨_,rfl,t,_,_,_,rfl,rfl,SqL.of ht,rfl,_,rfl,_,_,rfl,rfl,cd,?_⟩
   refine⟨_,rfl,t,_,_,2,rfl,rfl,ht,rfl,?_⟩
   refine⟨_,rfl,?_⟩
   refine k _ _ (zDq hm0).1 (zDq hm0).2 ⟨ns,spot,rest/many,zJ,by rw[za hne];exact hp,hne,hs0,by omega,Int.ediv_nonneg hr0 (by omega),hl⟩ fun b hb=>za hb
 . -- spot=tape[1];tape[1]=spot+1
   refine⟨_,rfl,t,_,_,_,rfl,rfl,SqL.of ht,rfl,?_⟩
   refine⟨_,rfl,_,_,rfl,rfl,_,rfl,t,_,_,1,rfl,rfl,ht,rfl,?_⟩
   have ht1:(upd H t (.lst [.ref p,.int (spot+1),.int rest])) t=some (.lst [.ref p,.int (spot+1),.int rest]):=zJ
   have hp1:(upd H t (.lst [.ref p,.int (spot+1),.int rest])) p=some (.lst (ns.map V.int)):=by rw[za hne];exact hp
   have ex:0<((ns.map V.int).length:Int)->∃c,atI (ns.map V.int) (spot%((ns.map V.int).length:Int))=some (.int c):=fun h=>by
    have hb:=zDq (a:=spot) h
    obtain⟨j,hj⟩:=Int.eq_ofNat_of_zero_le hb.1
    have hlt:j<ns.length:=by
     have h2:=hb.2
     rw[hj,zC] at h2
     omega
    refine⟨ns[j],?_⟩
    rw[hj]
    exact zCh (by simp[hlt])
   refine⟨_,rfl,t,_,_,_,rfl,rfl,SqL.of ht1,rfl,p,_,rfl,.inl (SqL.of hp1),_,_,rfl,rfl,_,rfl,?_⟩
   refine zFW (fun h2=>?a) (fun h2=>?b)
   case' a=>
    obtain⟨c,hc⟩:=ex (of_decide_eq_true h2)
    refine⟨_,rfl,t,_,_,_,rfl,rfl,SqL.of ht1,rfl,_,rfl,_,rfl,t,_,_,_,rfl,rfl,SqL.of ht1,rfl,p,_,rfl,.inl (SqL.of hp1),_,_,rfl,rfl,of_decide_eq_true h2,p,_,_,_,rfl,rfl,SqL.of hp1,hc,?_⟩
   all_goals
    refine⟨_,rfl,_,_,rfl,rfl,⟨by decide,by decide,by decide⟩,_,_,rfl,rfl,_,rfl,?_⟩
    refine zFW (fun h3=>?_) (fun h3=>?_)
   all_goals first
    | (refine⟨_,rfl,_,rfl,t,_,_,_,rfl,rfl,SqL.of ht1,rfl,p,_,rfl,.inl (SqL.of hp1),_,_,rfl,rfl,_,rfl,?_⟩;refine zFW (fun h4=>?_) (fun h4=>?_))
    | refine zDH ?_
   all_goals first
    | (refine⟨_,rfl,_,rfl,_,_,rfl,rfl,⟨hm0,by omega⟩,_,rfl,t,_,_,2,rfl,rfl,ht1,rfl,?_⟩
       refine⟨_,rfl,_,rfl,_,_,rfl,rfl,hm0,?_⟩
       refine k _ _ (zDq hm0).1 (zDq hm0).2 ⟨ns,spot+1,_,zJ,by rw[za hne];exact hp1,hne,by omega,by omega,Int.ediv_nonneg (Int.le_trans (show (0:Int)<=10 ^ (18:Int).toNat by decide) (of_decide_eq_true h3)) (by omega),hl⟩ fun b hb=>by rw[za hb,za hb])
    | (refine⟨_,rfl,_,_,rfl,rfl,(by dsimp only;decide),_,_,rfl,rfl,_,rfl,_,_,rfl,rfl,.inl ⟨by decide,by decide⟩,_,_,rfl,rfl,_,_,rfl,rfl,.inl ⟨by omega,by omega⟩,_,_,rfl,rfl,(by dsimp only;decide),?_⟩
       refine⟨_,rfl,_,rfl,_,_,rfl,rfl,.inl ⟨by decide,by decide⟩,_,rfl,_,_,rfl,rfl,.inr ⟨by omega,by omega⟩,_,_,rfl,rfl,_,_,rfl,rfl,.inr ⟨by decide,by decide⟩,_,_,rfl,rfl,(by dsimp only;decide),_,_,rfl,rfl,⟨by decide,by decide⟩,_,rfl,_,_,rfl,rfl,hm0,?_⟩
       refine k _ _ (zDq hm0).1 (zDq hm0).2 ⟨ns,spot+1,rest,ht1,hp1,hne,by omega,by omega,hr0,hl⟩ fun b hb=>za hb)
theorem zIG {fd:FuncData}(F:Fun K "_law_draw" "_law_draw" zEF f fd) (mLen:mg "len" = none):zAP P w K mg base CX0 1 f fd ["_law_tape_here", "_law_many"] zEP:=
 (zDc F mLen).imp fun vs H Q E ⟨t,N,many,e,⟨p,T⟩,a,b,c,k⟩=>⟨t,p,N,many,e,T,a,b,c,fun r H' h0 h1 T' he=>k r H' h0 h1 ⟨p,T'⟩ he⟩
theorem zDr {L:List Int}{r:Int}(h0:0<=r)(h1:r<L.length):∃n,n∈L/\atI (L.map V.int) r=some (.int n):=by
 obtain⟨j,rfl⟩:=Int.eq_ofNat_of_zero_le h0
 have hj:j<L.length:=by omega
 exact⟨L[j],List.getElem_mem hj,zCh (by simp[hj])⟩
noncomputable def zBs (H:Hp)(wa:Addr)(n:Int)(ts:List T3):Prop:=∃(ta:Addr)(tys:List V),H wa=some (.tup [.int n,.ref ta])/\H ta=some (.tup tys)/\zAd H tys (ts.map tl)/\GW n ts
variable {wa:Addr}{n:Int}{ts:List T3}
theorem zBs.keepT (h:zBs H wa n ts)(k:∀b ys,H b=some (.tup ys)->H' b=some (.tup ys)):zBs H' wa n ts:=by
 obtain⟨ta,tys,a,b,c,d⟩:=h
 exact⟨ta,tys,k _ _ a,k _ _ b,c.keep k,d⟩
theorem zBs.keep (h:zBs H wa n ts)(k:zAi H H'):zBs H' wa n ts:=h.keepT fun b _ e=>k b _ e
theorem zBs.sm {t:Addr}(h:zBs H wa n ts)(T:zAO H t N)(k:Sm t H H'):zBs H' wa n ts:=h.keepT fun b _ e=>by
 obtain⟨p,ns,spot,rest,a,_⟩:=T
 exact k b _ (zBT e a (by intro z;cases z)) e
noncomputable def spWeb:Sp:=fun vs H Q _=>∃(t:Addr)(N:Nat)(n:Int),vs=[.ref t,.int n]/\zAO H t N/\N<900000/\1<=n/\n<=24 /\
 ∀(wa:Addr)(ts:List T3)(H':Hp),H wa=none->zBs H' wa n ts->zE2 (ts.map tl)->zAO H' t (N+200)->Sm t H H'->Q (.ref wa) H'
noncomputable def JD (n:Int)(kvs:List (List Key×V)):Prop:=(∀kv∈kvs,∃a b l:Int,kv=([Sum.inl a,Sum.inl b],V.int l)/\0<=a/\a<b/\b<n/\1<=l/\l<=99)/\(kvs.map (·.1)).Nodup
theorem JD.nil (n:Int):JD n []:=⟨fun _ h=>by simp at h,List.nodup_nil⟩
variable {kvs:List (List Key×V)}
theorem JD.put (h:JD n kvs){b l:Int}(h0:0<=a)(h1:a<b)(h2:b<n)(h3:1<=l)(h4:l<=99):JD n (zCT kvs [Sum.inl a,Sum.inl b] (.int l)):=by
 cases e:zCA kvs [Sum.inl a,Sum.inl b] with
 | none=>
  refine⟨fun kv hkv=>?_,zIL _ h.2 e⟩
  rw[zGW _ e] at hkv
  rcases zm.mp hkv with q | q
  . exact h.1 kv q
  . rw[zf.mp q];exact⟨a,b,l,rfl,h0,h1,h2,h3,h4⟩
 | some v=>
  have ha:(kvs.any fun kv=>decide (kv.1=[Sum.inl a,Sum.inl b]))=true:=by rw[zB5,e];rfl
  unfold zCT
  rw[if_pos ha]
  refine⟨fun kv hkv=>?_,?_⟩
  . obtain⟨q,hq,e2⟩:=zAI.mp hkv
    by_cases hk:q.1=[Sum.inl a,Sum.inl b]
    . rw[if_pos hk,hk] at e2;rw[<-e2];exact⟨a,b,l,rfl,h0,h1,h2,h3,h4⟩
    . rw[if_neg hk] at e2;rw[<-e2];exact h.1 q hq
  . have e3:(kvs.map fun kv=>if kv.1=[Sum.inl a,Sum.inl b] then (kv.1,V.int l) else kv).map (·.1)=kvs.map (·.1):=by
     rw[List.map_map]
     refine List.map_congr_left fun kv _=>?_
     show (if kv.1=[Sum.inl a,Sum.inl b] then (kv.1,V.int l) else kv).1=kv.1
     split <;> rfl
    rw[e3];exact h.2
noncomputable def unk:Key->Int
 | .inl i=>i
 | .inr _=>0
noncomputable def zEL (kvs:List (List Key×V)):List (List Int):=kvs.map fun kv=>kv.1.map unk
theorem JD.keys (h:JD n kvs):kvs.map (·.1)=(zEL kvs).map (List.map Sum.inl):=by
 unfold zEL
 rw[List.map_map]
 refine List.map_congr_left fun kv hkv=>?_
 obtain⟨a,b,l,e,_⟩:=h.1 kv hkv
 rw[e];rfl
theorem JD.ne (h:JD n kvs):∀k∈zEL kvs,k≠[]:=fun k hk=>by
 obtain⟨kv,hkv,e⟩:=zAI.mp hk
 obtain⟨a,b,l,e2,_⟩:=h.1 kv hkv
 rw[<-e,e2];simp[List.map]
theorem JD.nd (h:JD n kvs):(zEL kvs).Nodup:=by
 have e:=h.2
 rw[h.keys] at e
 rw[List.Nodup,zAh] at e
 exact e.imp fun h e'=>h (by rw[e'])
theorem JD.val (h:JD n kvs){k:List Int}(hk:k∈zEL kvs):∃a b l,k=[a,b]/\zCA kvs [Sum.inl a,Sum.inl b]=some (.int l)/\0<=a/\a<b/\b<n/\1<=l/\l<=99:=by
 obtain⟨kv,hkv,e⟩:=zAI.mp hk
 obtain⟨a,b,l,e2,h0,h1,h2,h3,h4⟩:=h.1 kv hkv
 have ek:k=[a,b]:=by rw[<-e,e2];rfl
 have hm:(kvs.any fun kv=>decide (kv.1=[Sum.inl a,Sum.inl b]))=true:=List.any_eq_true.mpr ⟨kv,hkv,zU (by rw[e2])⟩
 rw[zB5] at hm
 cases hv:zCA kvs [Sum.inl a,Sum.inl b] with
 | none=>rw[hv] at hm;cases hm
 | some v=>
  have hv0:=hv
  unfold zCA at hv
  cases hf:kvs.find? fun kv=>decide (kv.1=[Sum.inl a,Sum.inl b]) with
  | none=>rw[hf] at hv;cases hv
  | some q=>
   rw[hf] at hv
   obtain⟨a',b',l',e3,_,_,_,g3,g4⟩:=h.1 q (List.mem_of_find?_eq_some hf)
   have ev:v = .int l':=by rw[e3] at hv;exact (zY hv).symm
   exact⟨a,b,l',ek,by rw[hv0,ev],h0,h1,h2,g3,g4⟩
theorem zJr {b c a' b' c':Int}(h:HT.lexLt [a',b'] [a,b]=false)(ne:¬ (a=a'/\b=b')):HT.lexLt [a',b',c'] [a,b,c]=false:=by
 rw[HT.lexLt_cons] at h ⊢
 by_cases e1:a'=a
 . subst e1
   simp only[HT.lexLt_cons] at h ⊢
   by_cases e2:b'=b
   . exact absurd ⟨rfl,e2.symm⟩ ne
   . simp_all
 . simp_all
theorem zJT (h:zE2 (ts.map fun t=>[t.1,t.2.1]))(d:ts.Pairwise fun s t=>¬ (s.1=t.1/\s.2.1=t.2.1)):zE2 (ts.map tl):=by
 unfold zE2 at *
 rw[zAh] at *
 exact (h.and d).imp fun ⟨x,y⟩=>zJr x y
structure WI (H:Hp)(t d la:Addr)(n:Int)(N m:Nat)(H2:Hp):Prop where
 sm:Sm t H H2
 tp:zAO H2 t N
 dc:∃kvs,H2 d=some (.dT kvs)/\JD n kvs/\kvs.length<=m
 lg:∃l0 l1 l2:Int,H2 la=some (.lst [.int l0,.int l1,.int l2])/\(∀l∈[l0,l1,l2],1<=l/\l<=99)
variable {la:Addr}
theorem WI.draw {H3:Hp}{t d:Addr}{m:Nat}(h:WI H t d la n N m H2)(hd:d≠t)(hl:la≠t)(T:zAO H3 t (N+1))(he:∀b,b≠t->H3 b=H2 b):WI H t d la n (N+1) m H3:=by
 refine⟨fun b o nb e=>by rw[he b nb];exact h.sm b o nb e,T,?_,?_⟩
 . rw[he d hd];exact h.dc
 . rw[he la hl];exact h.lg
theorem WI.laid {H H2:Hp}{t d la l:Addr}{n:Int}{N m:Nat}{o:HO}(h:WI H t d la n N m H2)(hl:H2 l=none):WI H t d la n N m (upd H2 l o):=by
 obtain⟨kvs,a,b⟩:=h.dc
 obtain⟨l0,l1,l2,c,e⟩:=h.lg
 exact⟨h.sm.trans (Sm.laid hl),h.tp.laid hl,⟨kvs,by rw[za (zn a hl)];exact a,b⟩,⟨l0,l1,l2,by rw[za (zn c hl)];exact c,e⟩⟩
theorem WI.put {H H2:Hp}{t d la:Addr}{n:Int}{N m:Nat}{kvs:List (List Key×V)}(h:WI H t d la n N m H2)(hd0:H d=none)(hd:H2 d=some (.dT kvs)){a b l:Int}(h0:0<=a)(h1:a<b)(h2:b<n)(h3:1<=l)(h4:l<=99) :
 WI H t d la n N (m+1) (upd H2 d (.dT (zCT kvs [Sum.inl a,Sum.inl b] (.int l)))):=by
 obtain⟨kvs',e,j,hm⟩:=h.dc
 rw[hd] at e
 cases e
 obtain⟨l0,l1,l2,c,e⟩:=h.lg
 refine⟨h.sm.chg hd0,h.tp.chg hd (by intro xs z;cases z),⟨_,zJ,j.put h0 h1 h2 h3 h4,?_⟩,⟨l0,l1,l2,by rw[za (zBT c hd (by intro z;cases z))];exact c,e⟩⟩
 have:=zBd kvs [Sum.inl a,Sum.inl b] (V.int l)
 omega
theorem WI.up {t d:Addr}{m N' m':Nat}(h:WI H t d la n N m H2)(hN:N<=N')(hm:m<=m'):WI H t d la n N' m' H2:=by
 obtain⟨kvs,a,b,c⟩:=h.dc
 exact⟨h.sm,h.tp.mono hN,⟨kvs,a,b,by omega⟩,h.lg⟩
theorem at3 {l0 l1 l2 r:Int}(h:∀l∈[l0,l1,l2],1<=l/\l<=99)(h0:0<=r)(h1:r<3):∃l,atI [V.int l0,V.int l1,V.int l2] r=some (.int l)/\1<=l/\l<=99:=by
 obtain⟨l,hl,ha⟩:=zDr (L:=[l0,l1,l2]) h0 h1
 exact⟨l,ha,h l hl⟩
theorem zAT {n:Nat}(h:n<=100000):n<sizeLine:=zAU h (by decide)
theorem zKa {ms:List (List Int)}(h:JD n kvs)(hp:ms.Perm (zEL kvs))(hl:kvs.length<64)(hn:1<=n)(hn2:n<=24)(e:ts.map (fun t=>[t.1,t.2.1])=ms)(hr:∀t∈ts,0<=t.1/\t.1<t.2.1/\t.2.1<n/\1<=t.2.2/\t.2.2<=99):GW n ts:=by
 have hlen:ts.length=kvs.length:=by
  have:=hp.length_eq
  rw[<-e] at this
  simpa [zEL] using this
 refine⟨hn,hn2,by omega,hr,?_⟩
 have nd:(ts.map fun t:T3=>[t.1,t.2.1]).Nodup:=by rw[e];exact hp.nodup_iff.mpr h.nd
 rw[List.Nodup,zAh] at nd
 exact nd.imp fun hne hc=>hne (by rw[hc.1,hc.2])
theorem zF1:zw ["_law_tape_here", "_law_n", "_law_longs", "_law_joined_here", "_law_b", "_law_k", "_law_a"] ["_law_tape_here", "_law_n"] (defScope sWeb):=fS0
variable {fD:Addr}{fdD:FuncData}
theorem ok_web {fd:FuncData}(F:Fun K "_law_web" "_law_web" sWeb f fd) (FD:FuB K mg "_law_draw" zEF fD fdD ["_law_tape_here","_law_many"]) (mLen:mg "len" = none)
 (mRange:mg "range" = none) (mTuple:mg "tuple" = none) (mSorted:mg "sorted" = none):zAP P w K mg base CX0 2 f fd ["_law_tape_here", "_law_n"] spWeb:=by
 have GD:zAP P w K mg base CX0 1 fD fdD ["_law_tape_here", "_law_many"] zEP:=zIG FD.F mLen
 refine F.okD zF1 fun _ A _ _ H vs Q E hr h=>?_
 obtain⟨t,N,n,rfl,T,hN,hn1,hn2,k⟩:=h
 have hu:=zHH hr
 obtain⟨es,q0,q1,q2,j3,q3,q4,p1,p2,p3,hbd,hes⟩:∃es q0 q1 q2 j3 q3 q4 p1 p2 p3,defBody sWeb = .Assign [.Name "_law_longs" q0] (.Subscript (.List es p1) (.Call (.Name "_law_draw" q1) [.Name "_law_tape_here" q2,.Constant (.int 4) j3 q3] [] q4) p2) p3::(defBody sWeb).drop 1 /\
  zDE es [[1,1,1],[1,2,1],[1,2,3],[5,99,7]]:=⟨_,_,_,_,_,_,_,_,_,_,rfl,.cons (.cons (.cons (.cons .nil))) (by show 3<=sizeLine;decide) (.cons (.cons (.cons (.cons .nil))) (by show 3<=sizeLine;decide) (.cons (.cons (.cons (.cons .nil))) (by show 3<=sizeLine;decide) (.cons (.cons (.cons (.cons .nil))) (by show 3<=sizeLine;decide) (.nil))))⟩
 rw[hbd]
 refine⟨_,zP (zBA (i:=2) zF1.nd (zt zAZ (zCE (zJg hes))
  (zAL GD hr FD (zD (pv 0) (zDT zN)))))
  (zP (zB9 (i:=3) zF1.nd rfl (Or.inr rfl) zGZ)
  (zP (zA9 (zAC zFM (zAL GD hr FD (zD (pv 0) (zDT zN))) zj (zAD _))
   (zZ (zBF PassesOwn.never rfl (zFL rfl mRange (zDT (zD (pv 1) zN))) (zv (i:=4) zF1.nd rfl (Or.inl rfl))
    (zZ (zDn hu (pv 3) (zBC (zD (zAL GD hr FD (zD (pv 0) (zD (pv 4) zN))) (zD (pv 4) zN)))
     (zt zAZ (pv 2) (zAL GD hr FD (zD (pv 0) (zDT zN)))) rfl)))) zAR)
  (zP (zBF PassesOwn.never rfl (zAg rfl mRange (zD (zAL GD hr FD (zD (pv 0) (zD (zA5 zB0 (zA5 zB0 zj (pv 1)) (zA5 zEq (pv 1) zj)) zN))) zN)) (zv (i:=5) zF1.nd rfl (Or.inl rfl))
   (zP (zBA (i:=6) zF1.nd (zAL GD hr FD (zD (pv 0) (zD (pv 1) zN))))
   (zP (zBA (i:=4) zF1.nd (zAL GD hr FD (zD (pv 0) (zD (pv 1) zN))))
   (zZ (zA9 (zAC zJi (pv 6) (pv 4) (zAD _)) (zZ (zDn hu (pv 3) (zBC (zD (pv 6) (zD (pv 4) zN)))
    (zt zAZ (pv 2) (zAL GD hr FD (zD (pv 0) (zDT zN)))) rfl)) zAR)))))
  (zZ (zAA (zBC (zD (pv 1) (zD (zAm zAS mTuple (zD
   (zA6 (own:=["_law_pair"]) (cn:=["_law_joined_here"]) (ci:=[3]) rfl (csc rfl rfl) ⟨rfl,rfl,rfl,trivial⟩ rfl
    (zB2 (zAa (zFl rfl) mSorted (zD (pv 3) zN))) (fun _ _ _ _=>zBr) (fun _ _ _ _=>zBH)
    (fun _ _ _ _=>zBC (zD (zt zBe (pv 0) zj) (zD (zt zBe (pv 0) zj) (zD (zF4 hu (pv 1) (pv 0) (fun _ _=>rfl)) zN))))) zN)) zN)))))))),?_⟩
 intro a1 e1 a2 e2 a3 e3 a4 e4
 refine⟨by show 4<=sizeLine;decide,fun al el=>?_⟩
 have T5:=((((T.laid (o:=.lst [.int 1,.int 1,.int 1]) e1).laid (o:=.lst [.int 1,.int 2,.int 1]) e2).laid (o:=.lst [.int 1,.int 2,.int 3]) e3).laid (o:=.lst [.int 5,.int 99,.int 7]) e4).laid (o:=.lst [.ref a1,.ref a2,.ref a3,.ref a4]) el
 refine⟨_,rfl,t,N,4,rfl,T5,by omega,by decide,by decide,fun r H1 h0 h1 T1 he1=>?_⟩
 have nel:al≠t:=((((T.laid (o:=.lst [.int 1,.int 1,.int 1]) e1).laid (o:=.lst [.int 1,.int 2,.int 1]) e2).laid (o:=.lst [.int 1,.int 2,.int 3]) e3).laid (o:=.lst [.int 5,.int 99,.int 7]) e4).ne el
 obtain⟨la,l0,l1,l2,hat,hla,hb,nla⟩:∃(la:Addr)(l0 l1 l2:Int),atI [V.ref a1,V.ref a2,V.ref a3,V.ref a4] r=some (.ref la)/\H1 la=some (.lst [.int l0,.int l1,.int l2])/\(∀l∈[l0,l1,l2],1<=l/\l<=99)/\la≠t:=by
  have n1:a1≠t:=T.ne e1
  have n2:a2≠t:=(T.laid (o:=.lst [.int 1,.int 1,.int 1]) e1).ne e2
  have n3:a3≠t:=((T.laid (o:=.lst [.int 1,.int 1,.int 1]) e1).laid (o:=.lst [.int 1,.int 2,.int 1]) e2).ne e3
  have n4:a4≠t:=(((T.laid (o:=.lst [.int 1,.int 1,.int 1]) e1).laid (o:=.lst [.int 1,.int 2,.int 1]) e2).laid (o:=.lst [.int 1,.int 2,.int 3]) e3).ne e4
  have g1:H1 a1=some (.lst [.int 1,.int 1,.int 1]):=by rw[he1 a1 n1];exact zI el _ _ (zI e4 _ _ (zI e3 _ _ (zI e2 _ _ zJ)))
  have g2:H1 a2=some (.lst [.int 1,.int 2,.int 1]):=by rw[he1 a2 n2];exact zI el _ _ (zI e4 _ _ (zI e3 _ _ zJ))
  have g3:H1 a3=some (.lst [.int 1,.int 2,.int 3]):=by rw[he1 a3 n3];exact zI el _ _ (zI e4 _ _ zJ)
  have g4:H1 a4=some (.lst [.int 5,.int 99,.int 7]):=by rw[he1 a4 n4];exact zI el _ _ zJ
  have hr4:r=0\/r=1\/r=2\/r=3:=by omega
  rcases hr4 with rfl | rfl | rfl | rfl
  . exact⟨a1,1,1,1,rfl,g1,by decide,n1⟩
  . exact⟨a2,1,2,1,rfl,g2,by decide,n2⟩
  . exact⟨a3,1,2,3,rfl,g3,by decide,n3⟩
  . exact⟨a4,5,99,7,rfl,g4,by decide,n4⟩
 refine⟨al,_,_,_,rfl,rfl,SqL.of (by rw[he1 al nel];exact zJ),hat,?_⟩
 have sm1:Sm t H H1:=fun b o nb e=>by
  rw[he1 b nb]
  exact zI el _ _ (zI e4 _ _ (zI e3 _ _ (zI e2 _ _ (zI e1 _ _ e))))
 intro d hd
 have nd:d≠t:=T1.ne hd
 have hd0:H d=none:=by
  cases q:H d with
  | none=>rfl
  | some o=>have:=sm1 d o nd q;rw[hd] at this;cases this
 have W0:WI H t d la n (N+1) 0 (upd H1 d (.dT [])):=⟨sm1.chg hd0,T1.laid hd,⟨[],zJ,JD.nil n,zK _⟩,⟨l0,l1,l2,by rw[za (zn hla hd)];exact hla,hb⟩⟩
 refine⟨_,rfl,t,N+1,3,rfl,W0.tp,by omega,by decide,by decide,fun r1 H2 _ _ T2 he2=>?_⟩
 have W2:=W0.draw nd nla T2 he2
 refine⟨_,_,rfl,rfl,_,rfl,?_⟩
 refine zFW (fun _=>?a) (fun _=>?b)
 case' a=>
  refine⟨_,rfl,1,n,rfl,⟨by decide,by decide,by omega,by omega⟩,zBD (lo:=1) (n:=(n-1).toNat) (fun i σ H3=>∃vb:Option V,σ=[some (.ref t),some (.int n),some (.ref la),some (.ref d),vb,none,none]/\WI H t d la n (N+2+2*i) i H3) ⟨none,rfl,W2⟩ ?turn ?after⟩
  case turn=>
   rintro i σ H3 hi ⟨vb,rfl,W⟩
   obtain⟨m0,m1,m2,hm,hmb⟩:=W.lg
   refine⟨_,rfl,_,rfl,t,N+2+2*i,3,rfl,W.tp,by omega,by decide,by decide,fun r3 H4 g0 g1 T4 he4=>?_⟩
   have W4:=W.draw nd nla T4 he4
   obtain⟨lg,hlg,hg1,hg2⟩:=at3 hmb g0 g1
   refine⟨la,_,_,_,rfl,rfl,SqL.of (by rw[he4 la nla];exact hm),hlg,?_⟩
   refine⟨_,rfl,_,rfl,_,rfl,t,N+2+2*i+1,1+i,rfl,W4.tp,by omega,by omega,by omega,fun r5 H5 q0 q1 T5 he5=>?_⟩
   have W5:=W4.draw nd nla T5 he5
   refine⟨_,rfl,by show 2<=sizeLine;decide,fun p hp=>?_⟩
   have W6:=W5.laid (o:=.tup [.int r5,.int (1+i)]) hp
   obtain⟨kvs,hk,J,hkl⟩:=W6.dc
   refine⟨d,_,rfl,zI8.t (k:=[Sum.inl r5,Sum.inl (1+(i:Int))]) hk zJ (zAT (by omega)),?_⟩
   exact⟨_,rfl,(W6.put hd0 hk q0 q1 (by omega) hg1 hg2).up (by omega) (by omega)⟩
  case' after=>
   rintro σ H3 ⟨vb,rfl,W⟩
   have W3:WI H t d la n (N+50) 23 H3:=W.up (by omega) (by omega)
 case' b=>
  have W3:WI H t d la n (N+50) 23 H2:=W2.up (by omega) (by omega)
 all_goals
  refine⟨_,rfl,_,rfl,_,_,rfl,rfl,_,rfl,_,_,rfl,rfl,⟨by decide,by decide⟩,_,_,rfl,rfl,t,N+50,_,rfl,W3.tp,by omega,by omega,by omega,fun r4 H4 p0 p1 T4 he4=>?_⟩
  have W4:=W3.draw nd nla T4 he4
  refine⟨r4,rfl,by omega,by omega,zBD (lo:=0) (n:=r4.toNat) (fun i σ H5=>∃vb vk va:Option V,σ=[some (.ref t),some (.int n),some (.ref la),some (.ref d),vb,vk,va]/\WI H t d la n (N+51+3*i) (23+i) H5) ⟨_,_,_,rfl,W4⟩ ?turn2 ?after2⟩
  case turn2=>
   rintro i σ H5 hi ⟨vb,vk,va,rfl,W⟩
   refine⟨_,rfl,_,rfl,t,N+51+3*i,n,rfl,W.tp,by omega,by omega,by omega,fun a H6 a0 a1 T6 he6=>?_⟩
   have W6:=W.draw nd nla T6 he6
   refine⟨_,rfl,_,rfl,t,N+51+3*i+1,n,rfl,W6.tp,by omega,by omega,by omega,fun b H7 b0 b1 T7 he7=>?_⟩
   have W7:=W6.draw nd nla T7 he7
   refine⟨_,rfl,_,rfl,_,_,rfl,rfl,_,rfl,?_⟩
   refine zFW (fun hc=>?_) (fun hc=>?_)
   . have hab:a<b:=of_decide_eq_true hc
     obtain⟨m0,m1,m2,hm,hmb⟩:=W7.lg
     refine⟨_,rfl,_,rfl,t,N+51+3*i+1+1,3,rfl,W7.tp,by omega,by decide,by decide,fun r3 H8 g0 g1 T8 he8=>?_⟩
     have W8:=W7.draw nd nla T8 he8
     obtain⟨lg,hlg,hg1,hg2⟩:=at3 hmb g0 g1
     refine⟨la,_,_,_,rfl,rfl,SqL.of (by rw[he8 la nla];exact hm),hlg,?_⟩
     refine⟨_,rfl,_,rfl,_,rfl,by show 2<=sizeLine;decide,fun p hp=>?_⟩
     have W9:=W8.laid (o:=.tup [.int a,.int b]) hp
     obtain⟨kvs,hk,J,hkl⟩:=W9.dc
     refine⟨d,_,rfl,zI8.t (k:=[Sum.inl a,Sum.inl b]) hk zJ (zAT (by omega)),?_⟩
     exact⟨_,_,_,rfl,(W9.put hd0 hk a0 hab b1 hg1 hg2).up (by omega) (by omega)⟩
   . exact⟨_,_,_,rfl,W7.up (by omega) (by omega)⟩
  case after2=>
   rintro σ H5 ⟨vb,vk,va,rfl,W⟩
   obtain⟨kvs,hk,J,hkl⟩:=W.dc
   have hk64:kvs.length<64:=by omega
   refine⟨_,rfl,_,rfl,d,kvs,zEL kvs,rfl,hk,J.keys,J.ne,by rw[zEL,zC];exact hk64,fun l zs ms hl TA hp hris=>?_⟩
   refine⟨l,rfl,⟨_,SqL.of zJ⟩,[.ref d],rfl,fun D hD=>?_⟩
   have hlz:=TA.length
   have hlm:ms.length=kvs.length:=by rw[hp.length_eq,zEL,zC]
   have nlD:l≠D:=fun e=>by rw[<-e,zJ] at hD;cases hD
   have hk1:(upd H5 l (.lst zs)) d=some (.dT kvs):=zI hl _ _ hk
   have hD5:H5 D=none:=by rw[za nlD.symm] at hD;exact hD
   refine zCN (a:=l) (xs:=zs) (fun i ys H6=>∃ts:List T3,ts.length=i/\ts.map (fun t:T3=>[t.1,t.2.1])=ms.take i/\(∀t∈ts,0<=t.1/\t.1<t.2.1/\t.2.1<n/\1<=t.2.2/\t.2.2<=99)/\H6 D=some (.lst ys)/\zAd H6 ys (ts.map tl)/\zAi (upd H5 l (.lst zs)) H6)
    ⟨[],rfl,rfl,fun _ h=>by simp at h,zJ,trivial,zI hD⟩ (fun i ys H6 h=>?_) (fun i ys H6 h=>?_) (fun i x ys H6 hx h=>?_) (fun ys H6 h=>?_)
   . obtain⟨_,_,_,_,_,_,s6⟩:=h
     exact SqL.of (s6 _ _ zJ)
   . obtain⟨ts,e1,e2,_,_,T6,_⟩:=h
     have e3:=T6.length
     rw[zC] at e3
     have e4:=congrArg List.length e2
     rw[zC,zk] at e4
     exact zAT (by omega)
   . obtain⟨ts,e1,e2,hts,hD6,T6,s6⟩:=h
     obtain⟨pa,kx,ex,hkx,hpa,_⟩:=TA.get hx
     subst ex
     have hpa6:H6 pa=some (.tup (kx.map V.int)):=s6 _ _ (zI hl _ _ hpa)
     obtain⟨a,b,lg,ek,hv,a0,ab,bn,lg1,lg2⟩:=J.val (hp.mem_iff.mp (zO hkx))
     subst ek
     refine⟨⟨rfl,rfl⟩,?_⟩
     refine zEO ?_
     refine⟨_,rfl,pa,_,_,_,rfl,rfl,SqT.of hpa6,rfl,_,rfl,pa,_,_,_,rfl,rfl,SqT.of hpa6,rfl,_,rfl,_,rfl,d,_,rfl,hv ▸ zFw.t (k:=[Sum.inl a,Sum.inl b]) (s6 _ _ hk1) hpa6,by show 3<=sizeLine;decide,fun p hp6=>?_⟩
     have nDp:D≠p:=zn hD6 hp6
     refine⟨by rw[za nDp];exact hD6,ts++[(a,b,lg)],by rw[zL,e1];rfl,?_,?_,zJ,?_,?_⟩
     . rw[zS,e2,zq,hkx];rfl
     . intro t ht
       rcases zm.mp ht with q | q
       . exact hts t q
       . rw[zf.mp q];exact⟨a0,ab,bn,lg1,lg2⟩
     . rw[zS]
       refine (T6.keep fun c xs e=>?_).snoc ⟨p,rfl,by rw[za nDp.symm,zJ];rfl,by simp[tl]⟩
       rw[za (zBT e hD6 (by intro z;cases z)),za (zn e hp6)]
       exact e
     . exact zAY (s6.trans (zI hp6)) hD
   . obtain⟨ts,e1,e2,hts,hD6,T6,s6⟩:=h
     refine⟨D,ys,rfl,.inl ⟨SqL.of hD6,fun ta hta=>?_⟩⟩
     refine⟨by show 2<=sizeLine;decide,fun wa hwa=>?_⟩
     rw[hlz,zb (zK _)] at e2
     have G:GW n ts:=zKa J hp hk64 hn1 hn2 e2 hts
     have nwt:wa≠ta:=fun e=>by rw[e,zJ] at hwa;cases hwa
     have h6wa:H6 wa=none:=by rw[za nwt] at hwa;exact hwa
     have s7:zAi H6 (upd (upd H6 ta (.tup ys)) wa (.tup [.int n,.ref ta])):=zAY (zI hta) h6wa
     have T7:zAO (upd (upd H6 ta (.tup ys)) wa (.tup [.int n,.ref ta])) t (N+200):=((W.tp.mono (by omega)).keep ((zI hl).trans (s6.trans s7)))
     have nwa:wa≠t:=((W.tp.keep ((zI hl).trans s6)).ne h6wa)
     have sm7:Sm t H (upd (upd H6 ta (.tup ys)) wa (.tup [.int n,.ref ta])):=W.sm.trans (Sm.of ((zI hl).trans (s6.trans s7)))
     refine k wa ts _ ?_ ⟨ta,ys,zJ,by rw[za nwt.symm,zJ],T6.keep fun c xs e=>s7 _ _ e,G⟩ (zJT (by rw[e2];exact hris) G.dis) T7 sm7
     cases q:H wa with
     | none=>rfl
     | some o=>
      have:=(W.sm.trans (Sm.of ((zI hl).trans s6))) wa o nwa q
      rw[h6wa] at this;cases this
theorem ifT {c:Bool}{p q:Prop}(h:c=true)(hp:p):(if c=true then p else q):=by rw[if_pos h];exact hp
theorem ifF {c:Bool}{p q:Prop}(h:c=false)(hq:q):(if c=true then p else q):=by rw[if_neg (by simp[h])];exact hq
noncomputable def zFA:Sp:=fun vs H Q _=>∃(wa:Addr)(n:Int)(ts:List T3)(p:Int),vs=[.ref wa,.int p]/\zBs H wa n ts /\
 ∀(l:Addr)(zs:List V)(ms:List (List Int))(H':Hp),zAi H H'->H l=none->H' l=some (.lst zs)->zAd H' zs ms->ms.Perm (fd p ts)->zE2 ms->Q (.ref l) H'
theorem zFC:zw ["web", "place", "found", "a", "b", "long"] ["web", "place"] (defScope zEl):=fS0
variable {fd':FuncData}
theorem zEr (F:Fun K "ties_at" "ties_at" zEl f fd') (mSorted:mg "sorted" = none):zAP P w K mg base CX0 1 f fd' ["web", "place"] zFA:=by
 refine F.okD zFC fun _ A _ _ H vs Q E hr h=>?_
 obtain⟨wa,n,ts,p,rfl,⟨ta,tys,hwa,hta,TA,G⟩,k⟩:=h
 refine⟨_,zP (zBA (i:=2) zFC.nd (zCE zN))
  (zP (zBF PassesOwn.never rfl (zBv (zt zAF (pv 0) zj)) (zCD rfl (zu (zv (i:=3) zFC.nd rfl (Or.inl rfl)) (zu (zv (i:=4) zFC.nd rfl (Or.inl rfl)) (zu (zv (i:=5) zFC.nd rfl (Or.inl rfl)) zBN))))
   (zP (zA9 (zAC zBw (pv 3) (pv 1) (zAD _)) (zZ (zCB (zEG PySem.F.plainAttrs_list PySem.F.slot_list_append PySem.F.type_list_append zBx (pv 2) (zD (zBC (zD (pv 4) (zD (pv 5) zN))) zN)))) zAR)
   (zZ (zA9 (zAC zBw (pv 4) (pv 1) (zAD _)) (zZ (zCB (zEG PySem.F.plainAttrs_list PySem.F.slot_list_append PySem.F.type_list_append zBx (pv 2) (zD (zBC (zD (pv 3) (zD (pv 5) zN))) zN)))) zAR))))
  (zZ (zAA (zAa zGD mSorted (zD (pv 2) zN))))),?_⟩
 refine⟨ze _,fun l hl=>?_⟩
 have hwl:wa≠l:=zn hwa hl
 have htl:ta≠l:=zn hta hl
 have hlt:tys.length=ts.length:=by rw[TA.length,zC]
 refine⟨_,rfl,wa,_,_,_,rfl,rfl,SqT.of (by rw[za hwl];exact hwa),rfl,ta,rfl,⟨_,SqT.of (by rw[za htl];exact hta)⟩,zD1 (K:=K) (a:=ta) (xs:=tys)
  (fun i σ H2=>∃(va vb vl:Option V)(xs:List V),σ=[some (.ref wa),some (.int p),some (.ref l),va,vb,vl]/\zAi H H2/\H2 l=some (.lst xs)/\zAd H2 xs (fd p (ts.take i)))
  ⟨none,none,none,[],rfl,zI hl,zJ,trivial⟩ (fun i σ H2 _ ⟨_,_,_,_,_,s2,_⟩=>SqT.of (s2 _ _ hta)) ?turn ?after⟩
 case turn=>
  rintro i y σ H2 hi ⟨va,vb,vl,xs,rfl,s2,hl2,T2⟩
  obtain⟨ya,ky,rfl,hky,hya,_⟩:=TA.get hi
  rw[zM] at hky
  obtain⟨⟨a,b,c⟩,hti,rfl⟩:∃t:T3,ts[i]? = some t/\tl t=ky:=by
   cases e:ts[i]? with
   | none=>rw[e] at hky;cases hky
   | some t=>rw[e] at hky;exact⟨t,rfl,zY hky⟩
  have hil:i<ts.length:=(zH.mp hti).1
  have hlen:∀{xs':List V}{H3:Hp},zAd H3 xs' (fd p (ts.take i))->xs'.length<sizeLine:=fun T=>by
   have e1:=T.length
   have e2:=zGh (n:=n) p (ts:=ts.take i) fun t ht=>(G.rng t (List.mem_of_mem_take ht)).2.1
   rw[zk] at e2
   exact zAT (by have:=G.len;omega)
  have hfd:fd p (ts.take (i+1))=fd p (ts.take i)++((if a=p then [[b,c]] else [])++(if b=p then [[a,c]] else [])):=by
   rw[zq,hti,zFa]
   show _++((if a=p then [[b,c]] else [])++(if b=p then [[a,c]] else [])++[])=_
   rw[zr]
  have hab:a<b:=(G.rng _ (zO hti)).2.1
  refine⟨ya,_,rfl,SqT.of (s2 _ _ hya),rfl,_,_,rfl,_,_,rfl,_,_,rfl,rfl,?_⟩
  have app:∀{x:Int},∀q,H2 q=none->∃xs',(upd (upd H2 q (.tup [.int x,.int c])) l (.lst (xs++[.ref q]))) l=some (.lst xs')/\zAi H (upd (upd H2 q (.tup [.int x,.int c])) l (.lst (xs++[.ref q])))/\zAd (upd (upd H2 q (.tup [.int x,.int c])) l (.lst (xs++[.ref q]))) xs' (fd p (ts.take i)++[[x,c]]):=by
   intro x q hq
   have nlq:l≠q:=zn hl2 hq
   refine⟨_,zJ,zAY (s2.trans (zI hq)) hl,(T2.keep fun e ys he=>?_).snoc ⟨q,rfl,by rw[za nlq.symm,zJ];rfl,by simp⟩⟩
   rw[za (zBT he hl2 (by intro z;cases z)),za (zn he hq)]
   exact he
  refine⟨_,rfl,_,rfl,rfl,_,rfl,?_⟩
  refine zFW (fun h1=>?_) (fun h1=>?_)
  . have e1:a=p:=by have:=of_decide_eq_true h1;injection this
    have n2:¬ b=p:=by omega
    refine⟨_,rfl,.inl ⟨rfl,_,SqL.of hl2⟩,_,rfl,_,rfl,by show 2<=sizeLine;decide,fun q hq=>?_⟩
    have nlq:l≠q:=zn hl2 hq
    refine⟨l,_,_,rfl,rfl,by rw[za nlq];exact hl2,hlen T2,?_⟩
    refine⟨_,rfl,_,rfl,rfl,_,rfl,?_⟩
    rw[show decide (V.int b=V.int p)=false from zl fun e=>n2 (by injection e)]
    refine zDH ?_
    obtain⟨xs',g1,g2,g3⟩:=app (x:=b) q hq
    refine⟨_,_,_,xs',rfl,g2,g1,?_⟩
    rw[hfd,if_pos e1,if_neg n2]
    exact g3
  . have n1:¬ a=p:=fun e=>by
     have:=h1
     rw[e] at this
     exact this (zU rfl)
    refine⟨_,rfl,_,rfl,rfl,_,rfl,?_⟩
    refine zFW (fun h2=>?_) (fun h2=>?_)
    . have e2:b=p:=by have:=of_decide_eq_true h2;injection this
      refine⟨_,rfl,.inl ⟨rfl,_,SqL.of hl2⟩,_,rfl,_,rfl,by show 2<=sizeLine;decide,fun q hq=>?_⟩
      have nlq:l≠q:=zn hl2 hq
      refine⟨l,_,_,rfl,rfl,by rw[za nlq];exact hl2,hlen T2,?_⟩
      obtain⟨xs',g1,g2,g3⟩:=app (x:=a) q hq
      refine⟨_,_,_,xs',rfl,g2,g1,?_⟩
      rw[hfd,if_neg n1,if_pos e2]
      exact g3
    . have n2:¬ b=p:=fun e=>by
       have:=h2
       rw[e] at this
       exact this (zU rfl)
      refine⟨_,_,_,xs,rfl,s2,hl2,?_⟩
      rw[hfd,if_neg n1,if_neg n2,zr,zr]
      exact T2
 case after=>
  rintro σ H2 ⟨va,vb,vl,xs,rfl,s2,hl2,T2⟩
  rw[hlt,zb (zK _)] at T2
  have e2:=zGh (n:=n) p (ts:=ts) fun t ht=>(G.rng t ht).2.1
  refine⟨_,rfl,l,xs,fd p ts,rfl,SqL.of hl2,T2,by have:=G.len;omega,fun l' zs ms hl' T3 hp hrs=>?_⟩
  have nll:l'≠l:=fun e=>by rw[e,hl2] at hl';cases hl'
  have hl0:H l'=none:=by
   cases q:H l' with
   | none=>rfl
   | some o=>have:=s2 l' o q;rw[hl'] at this;cases this
  exact k l' zs ms _ (s2.trans (zI hl')) hl0 zJ (T3.keep fun e ys he=>zI hl' _ _ he) hp hrs
noncomputable def zGN:Sp:=fun vs H Q _=>∃(wa:Addr)(n:Int)(ts:List T3)(one other:Int),vs=[.ref wa,.int one,.int other]/\zBs H wa n ts /\
 ∀(r:V)(H':Hp),zAi H H'->((∃l,Adj ts one other l/\r = .int l)\/((∀l,¬ Adj ts one other l)/\r = .non))->Q r H'
theorem zHI {ms:List (List Int)}(h:zE2 ms)(hk:∀k∈ms,∃y l,k=[y,l])(hn:(ms.map hd).Nodup):(ms.map hd).Pairwise (· < ·):=by
 rw[zAh]
 rw[List.Nodup,zAh] at hn
 have both:ms.Pairwise fun a b=>HT.lexLt b a=false/\hd a≠hd b:=by
  rw[zy]
  intro i j hi hj hij
  exact⟨zy.mp h i j hi hj hij,zy.mp hn i j hi hj hij⟩
 refine both.imp_of_mem fun {a b} ha hb hab=>?_
 obtain⟨y,l,rfl⟩:=hk a ha
 obtain⟨z,m,rfl⟩:=hk b hb
 obtain⟨h1,h2⟩:=hab
 have h2':y≠z:=h2
 rw[HT.lexLt_cons,if_neg (Ne.symm h2')] at h1
 have:=of_decide_eq_false h1
 show y<z
 omega
theorem zHt:zw ["web", "one", "other", "place", "long"] ["web", "one", "other"] (defScope zG2):=fS0
variable {fdT:FuncData}
theorem zLJ {fT:Addr}(F:Fun K "long_of" "long_of" zG2 f fd') (FT:FuB K mg "ties_at" zEl fT fdT ["web","place"]) (mSorted:mg "sorted" = none) :
 zAP P w K mg base CX0 2 f fd' ["web", "one", "other"] zGN:=by
 have GT:zAP P w K mg base CX0 1 fT fdT ["web", "place"] zFA:=zEr FT.F mSorted
 refine F.okD zHt fun _ A _ _ H vs Q E hr h=>?_
 obtain⟨wa,n,ts,one,other,rfl,W,k⟩:=h
 refine⟨_,zP (zBF PassesOwn.never rfl (zB2 (zAL GT hr FT (zD (pv 0) (zD (pv 1) zN)))) (zCD rfl (zu (zv (i:=3) zHt.nd rfl (Or.inl rfl)) (zu (zv (i:=4) zHt.nd rfl (Or.inl rfl)) zBN)))
  (zZ (zA9 (zAC zBw (pv 3) (pv 2) (zAD _)) (zZ (zAA (pv 4))) zAR)))
  (zZ (zAA zAp)),?_⟩
 refine⟨_,rfl,_,rfl,wa,n,ts,one,rfl,W,fun l zs ms H1 s1 hl0 hl1 T1 hp _=>?_⟩
 refine⟨l,rfl,⟨_,SqL.of hl1⟩,zCm (K:=K) (a:=l) (xs:=zs) (fun i σ H2=>∃va vb:Option V,σ=[some (.ref wa),some (.int one),some (.int other),va,vb]/\H2=H1/\∀j k,j<i->ms[j]? = some k->hd k≠other)
  ⟨none,none,rfl,rfl,fun j _ h=>by omega⟩ (fun i σ H2 _ ⟨_,_,_,e,_⟩=>e ▸ SqL.of hl1) ?turn ?after⟩
 case turn=>
  rintro i y σ H2 hi ⟨va,vb,rfl,rfl,hno⟩
  obtain⟨ya,ky,rfl,hky,hya,_⟩:=T1.get hi
  have hm:ky∈fd one ts:=hp.mem_iff.mp (zO hky)
  obtain⟨z,c,rfl,ha⟩:=zCq.mp hm
  refine⟨ya,_,rfl,SqT.of hya,rfl,_,_,rfl,_,_,rfl,rfl,?_⟩
  refine⟨_,rfl,_,rfl,rfl,_,rfl,?_⟩
  refine zFW (fun h1=>?_) (fun h1=>?_)
  . have e1:z=other:=by have:=of_decide_eq_true h1;injection this
    subst e1
    exact⟨_,rfl,k _ _ s1 (.inl ⟨c,ha,rfl⟩)⟩
  . have n1:z≠other:=fun e=>by
     have:=h1
     rw[e] at this
     exact this (zU rfl)
    refine⟨_,_,rfl,rfl,fun j kj hj hkj=>?_⟩
    by_cases hji:j<i
    . exact hno j kj hji hkj
    . have e:j=i:=by omega
      subst e
      rw[hky] at hkj
      cases hkj
      exact n1
 case after=>
  rintro σ H2 ⟨va,vb,rfl,rfl,hno⟩
  refine k _ _ s1 (.inr ⟨fun c ha=>?_,rfl⟩)
  have hm:[other,c]∈ms:=hp.mem_iff.mpr (zCq.mpr ⟨other,c,rfl,ha⟩)
  obtain⟨j,hj,e⟩:=zx hm
  exact hno j _ (by have:=T1.length;omega) (by rw[zB hj,e]) rfl
theorem zLf (a b:Int):eqV (.int a) (.int b)=(a==b):=rfl
theorem zGg {z:Int}:∀{l:List Int},inV (.int z) (l.map V.int)=decide (z∈l)
 | []=>rfl
 | x::r=>by
  show (eqV (.int x) (.int z) || inV (.int z) (r.map V.int))=_
  rw[zGg (l:=r),zLf]
  by_cases h:x=z
  . subst h;simp
  . have h':(x==z)=false:=by simpa using h
    rw[h',Bool.false_or]
    simp[Ne.symm h]
theorem zGl {i j:Int}:decide (V.int i=V.int j)=decide (i=j):=by
 by_cases h:i=j
 . subst h;simp
 . rw[zl h,zl fun e=>h (by injection e)]
noncomputable def lamP:Pos:=⟨142,36,142,64⟩
noncomputable abbrev lamQ:Str:=(("nearest" : Str) ++ ".<locals>.") ++ "<lambda>"
noncomputable abbrev Tb (H:Hp)(PT:Addr):Prop:=zDC H PT lamP lamQ
noncomputable def zKC (PT:Addr):Sp:=fun vs H Q _=>∃(d:Addr)(n:Int)(kvs:List (Key×V))(wt:Int->Option Int),vs=[.ref d]/\H d=some (.dK kvs)/\WD n kvs wt/\0<=n/\n<=24/\kvs≠[]/\Tb H PT /\
 ∀(M e:Int)(H':Hp),wt M=some e->(∀q f,wt q=some f->e<=f)->SmT H H'->Tb H' PT->Q (.int M) H'
noncomputable def zHo (PT:Addr):Sp:=fun vs H Q _=>∃(wa:Addr)(n:Int)(ts:List T3)(s:Int),vs=[.ref wa,.int s]/\zBs H wa n ts/\0<=s/\s<n/\Tb H PT /\
 ∀(l:Addr)(kn:List (Option Int))(H':Hp),SmT H H'->Tb H' PT->H' l=some (.tup (kn.map oV))->zJE ts n s kn->Q (.ref l) H'
theorem zBs.smT (h:zBs H wa n ts)(k:SmT H H'):zBs H' wa n ts:=h.keepT fun b ys e=>by
 rcases k b _ e with ⟨ps,z⟩ | z
 . cases z
 . exact z
theorem scNear:zw ["waiting"] ["waiting"] (defScope zHw):=fS0
variable {c:Addr}
theorem zLI (F:zJ9 K "nearest" "nearest" zHw f fd' c) (C:PySem.W.CodeHd base c PT)(hbm:zJA mg base)(mMin:mg "min" = none) (mSorted:mg "sorted" = none):zAP P w K mg base CX0 2 f fd' ["waiting"] (zKC PT):=by
 refine F.ok scNear (fun vs H Q E h=>?_) (fun A outer s H vs Q E hr h=>?_)
 . obtain⟨d,n,kvs,wt,rfl,_⟩:=h
   rfl
 . obtain⟨d,n,kvs,wt,rfl,hd,W,hn0,hn,hne,T,k⟩:=h
   refine⟨_,zZ (zAA (zH9 (k:=0) (j:=0) (P:=PT) (c:=c) (dn := "waiting") (pn := "place") rfl hr rfl mMin (zD (zAa (zFk rfl) mSorted (zD (pv 0) zN)) zN) rfl C hbm rfl rfl rfl rfl rfl (by decide +kernel) (zLb rfl) rfl rfl rfl (fun _ _ _ _ _ _ _=>rfl))),?_⟩
   have hl:=W.len hn0
   refine⟨_,rfl,d,kvs,zEK kvs,rfl,hd,W.keys,by unfold zEK;rw[zC];omega,fun l ms hl' hp _=>?_⟩
   have mem:∀x,x∈ms->∃e,wt x=some e:=fun x hx=>W.mem.mp (hp.mem_iff.mp hx)
   refine⟨l,d,ms,kvs,fun x=>(wt x).getD 0,rfl,zJ,fun e=>?_,rfl,by rw[za (zn hd hl')];exact hd,fun x hx=>?_,T.same (zI hl'),fun M H2 hM hb sm T2=>?_⟩
   . subst e
     have:=hp.length_eq
     unfold zEK at this
     rw[zC] at this
     exact hne (List.eq_nil_of_length_eq_zero this.symm)
   . obtain⟨e,he⟩:=mem x hx
     show zCA kvs (Sum.inl x)=some (.int ((wt x).getD 0))
     rw[W.at_ x,he];rfl
   . obtain⟨e,he⟩:=mem M hM
     refine k M e H2 he (fun q f hq=>?_) ((SmT.of (zI hl')).trans sm) T2
     have hq':q∈ms:=hp.mem_iff.mpr (W.mem.mpr ⟨f,hq⟩)
     have:=hb q hq'
     simp only[he,hq,Option.getD_some] at this
     exact this
theorem zDi:zw ["web", "start", "known", "waiting", "place", "other", "long", "far"] ["web", "start"] (defScope zH0):=fS0
variable {o:Option Int}{j:Nat}
theorem zG9 {kn:List (Option Int)}:(kn.map oV).set j (oV o)=(kn.set j o).map oV:=by rw[List.map_set]
theorem zFN:decide (oV o=V.non)=o.isNone:=by
 cases o with
 | none=>rfl
 | some d=>exact zl (by intro e;cases e)
variable {fN:Addr}{fdN:FuncData}
theorem zLN {fT:Addr}(F:Fun K "lengths_from" "lengths_from" zH0 f fd') (FN:zJ9 K "nearest" "nearest" zHw fN fdN c) (bN:zCx K fdN ["waiting"] []) (mN:mg "nearest" = some (.ref fN)) (FT:FuB K mg "ties_at" zEl fT fdT ["web","place"])
 (C:PySem.W.CodeHd base c PT)(hbm:zJA mg base)(mMin:mg "min" = none) (mSorted:mg "sorted" = none) (mTuple:mg "tuple" = none):zAP P w K mg base CX0 3 f fd' ["web", "start"] (zHo PT):=by
 have GN:zAP P w K mg base CX0 2 fN fdN ["waiting"] (zKC PT):=zLI FN C hbm mMin mSorted
 have GT:zAP P w K mg base CX0 2 fT fdT ["web", "place"] zFA:=(zEr FT.F mSorted).mono (by decide)
 refine F.okD zDi fun _ A _ _ H vs Q E hr h=>?_
 obtain⟨wa,n,ts,st,rfl,W,hs0,hs1,T,k⟩:=h
 obtain⟨ta,tys,hwa,_,_,G⟩:=id W
 have hu:=zHH hr
 have hn1:=G.n1
 have hn24:=G.n24
 refine⟨_,zP (zBA (i:=2) zDi.nd (zA5 op_rep (zCE (zD zAp zN)) (zt zAF (pv 0) zj)))
  (zP (zBA (i:=3) zDi.nd (zK6 (zJa (pv 1) zj zK4) rfl rfl (by decide) (by decide)))
  (zP (zJY PassesOwn.never (zJX (pv 3) (fun _=>rfl))
   (zP (zBA (i:=4) zDi.nd (zCt GN hr rfl mN FN.kp bN .nil zK8 (zD (pv 3) zN)))
   (zP (zCp (zJd (pv 3) (pv 4) ⟨rfl,rfl,rfl,rfl⟩) (zC1 (pv 2) (pv 4) zCG))
   (zZ (zBF PassesOwn.never rfl (zB2 (zAL GT hr FT (zD (pv 0) (zD (pv 4) zN)))) (zCD rfl (zu (zv (i:=5) zDi.nd rfl (Or.inl rfl)) (zu (zv (i:=6) zDi.nd rfl (Or.inl rfl)) zBN)))
    (zZ (zA9 (zAC zCF (zt zAZ (pv 2) (pv 5)) zAp (zAD _))
     (zP (zBA (i:=7) zDi.nd (zA5 zB0 (zt zAZ (pv 2) (pv 4)) (pv 6)))
     (zZ (zDn hu (pv 3) (pv 5) (zAa (zFo rfl) mMin (zD (pv 7) (zD (zJe hu (pv 3) (pv 5) (pv 7) ⟨rfl,rfl,rfl,rfl⟩) zN))) rfl))) zAR)))))))
  (zZ (zAA (zAm zAS mTuple (zD (pv 2) zN)))))),?_⟩
 refine⟨by show 1<=sizeLine;decide,fun l0 hl0=>?_⟩
 refine⟨_,rfl,wa,_,_,_,rfl,rfl,SqT.of (zI hl0 _ _ hwa),rfl,l0,n,_,rfl,rfl,zJ,by omega,by omega,?_,fun kl hkl=>?_⟩
 . have:sizeLine=16777216:=rfl
   show 1*n.toNat<=sizeLine
   omega
 have s1:zAi H (upd (upd H l0 (.lst [.non])) kl (.lst (List.replicate n.toNat [V.non]).flatten)):=(zI hl0).trans (zI hkl)
 have erep:(List.replicate n.toNat [V.non]).flatten=(List.replicate n.toNat (none:Option Int)).map oV:=by
  generalize n.toNat=m
  induction m with
  | zero=>rfl
  | succ m ih=>rw[zBR,List.flatten_cons,ih,zBR];rfl
 rw[erep] at s1 ⊢
 have hk1:(upd (upd H l0 (.lst [.non])) kl (.lst ((List.replicate n.toNat (none:Option Int)).map oV))) kl=some (.lst ((List.replicate n.toNat (none:Option Int)).map oV)):=zJ
 generalize hH1:upd (upd H l0 (.lst [.non])) kl (.lst ((List.replicate n.toNat (none:Option Int)).map oV))=H1 at s1 hk1 ⊢
 intro wd hwd
 refine⟨_,rfl,zJ,[(Sum.inl st,.int 0)],rfl,by show 1<=15;decide,?_⟩
 have s2:zAi H (upd (upd H1 wd (.dK [])) wd (.dK [(Sum.inl st,.int 0)])):=by rw[zB1];exact s1.trans (zI hwd)
 have nkw:kl≠wd:=zn hk1 hwd
 rw[show zEV [] [((Sum.inl st:Key),V.int 0)]=[((Sum.inl st:Key),V.int 0)] from rfl,zB1]
 rw[zB1] at s2
 refine⟨fun m σ H2=>∃(kn:List (Option Int))(kvs:List (Key×V))(wt:Int->Option Int)(v4 v5 v6 v7:Option V),σ=[some (.ref wa),some (.int st),some (.ref kl),some (.ref wd),v4,v5,v6,v7]/\m=n.toNat-cnt kn/\SmT H H2/\Tb H2 PT/\H2 kl=some (.lst (kn.map oV))/\H2 wd=some (.dK kvs)/\WD n kvs wt/\Dl ts n st kn wt,
  ⟨_,_,_,_,_,_,_,_,rfl,rfl,SmT.of s2,T.same s2,by rw[za nkw];exact hk1,zJ,WD.one hs0 hs1,Dl.start G hs0 hs1⟩,?_⟩
 rintro m σ H2 ⟨kn,kvs,wt,v4,v5,v6,v7,rfl,rfl,sm,T2,hk2,hw2,WW,D⟩
 cases hkb:kvs.isEmpty with
 | true=>
  refine⟨_,rfl,false,.inr (.inr ⟨kvs,hw2,by rw[hkb];rfl⟩),?_⟩
  refine zDH ?_
  have hkv:kvs=[]:=List.isEmpty_iff.mp hkb
  have hnone:∀q,wt q=none:=fun q=>by
   cases e:wt q with
   | none=>rfl
   | some d=>
    have:=WW.mem.mpr ⟨d,e⟩
    rw[hkv] at this
    simp[zEK] at this
  refine⟨_,rfl,kl,_,rfl,.inl ⟨SqL.of hk2,fun q hq=>?_⟩⟩
  exact k q kn _ (sm.trans (SmT.of (zI hq))) (T2.same (zI hq)) zJ (D.done G hnone)
 | false=>
  refine⟨_,rfl,true,.inr (.inr ⟨kvs,hw2,by rw[hkb];rfl⟩),?_⟩
  refine zEv ?_
  have hne:kvs≠[]:=by intro e;rw[e] at hkb;cases hkb
  refine⟨fun σ' H'=>∃(kn':List (Option Int))(kvs':List (Key×V))(wt':Int->Option Int)(v4 v5 v6 v7:Option V),σ'=[some (.ref wa),some (.int st),some (.ref kl),some (.ref wd),v4,v5,v6,v7]/\cnt kn'=cnt kn+1/\SmT H H'/\Tb H' PT/\H' kl=some (.lst (kn'.map oV))/\H' wd=some (.dK kvs')/\WD n kvs' wt'/\Dl ts n st kn' wt',?_,?_⟩
  . rintro σ' H' ⟨kn',kvs',wt',v4',v5',v6',v7',rfl,hc,sm',T',hk',hw',WW',D'⟩
    have h1:=zIu kn'
    have h2:=D'.ln
    exact⟨n.toNat-cnt kn',by omega,kn',kvs',wt',v4',v5',v6',v7',rfl,rfl,sm',T',hk',hw',WW',D'⟩
  refine⟨_,rfl,wd,n,kvs,wt,rfl,hw2,WW,by omega,hn24,hne,T2,fun M e H3 hM hmin sm3 T3=>?_⟩
  have hk3:H3 kl=some (.lst (kn.map oV)):=sm3.get hk2 (by intro ps z;cases z)
  have hw3:H3 wd=some (.dK kvs):=sm3.get hw2 (by intro ps z;cases z)
  obtain⟨hknM,hM0,hM1,hcnt,N0⟩:=D.enter G hM hmin
  have hval:zCA kvs (Sum.inl M)=some (.int e):=by rw[WW.at_ M,hM];rfl
  refine⟨_,rfl,wd,rfl,.inl ⟨kvs,.inl hw3⟩,_,rfl,kvs,Sum.inl M,_,hw3,rfl,hval,?_⟩
  have hlk:(kn.map oV).length=n.toNat:=by rw[zC];exact D.ln
  have hk3':(upd H3 wd (.dK (zCM kvs (Sum.inl M)))) kl=some (.lst (kn.map oV)):=by rw[za nkw];exact hk3
  refine⟨_,rfl,_,rfl,kl,_,M,M.toNat,rfl,rfl,hk3',zEY hM0 (by rw[hlk];omega),?_⟩
  rw[show V.int e=oV (some e) from rfl,zG9]
  have sm4:SmT H (upd (upd H3 wd (.dK (zCM kvs (Sum.inl M)))) kl (.lst ((kn.set M.toNat (some e)).map oV))):=by
   intro b o hb
   rcases (sm.trans sm3) b o hb with z | z
   . exact .inl z
   . right
     have n1:b≠wd:=fun q=>by
      have hbn:H b=none:=by
       rw[q]
       cases e':H wd with
       | none=>rfl
       | some o'=>have:=s1 wd o' e';rw[hwd] at this;cases this
      rw[hbn] at hb;cases hb
     have n2:b≠kl:=fun q=>by
      have hbn:H b=none:=by
       rw[q]
       cases e':H kl with
       | none=>rfl
       | some o'=>have:=zI (o:=.lst [.non]) hl0 kl o' e';rw[hkl] at this;cases this
      rw[hbn] at hb;cases hb
     rw[za n2,za n1];exact z
  have T4:Tb (upd (upd H3 wd (.dK (zCM kvs (Sum.inl M)))) kl (.lst ((kn.set M.toNat (some e)).map oV))) PT:=by
   refine T3.keep (fun o ho=>?_) fun c φ hc=>?_
   . obtain⟨ps,hps,_⟩:=T3
     have e1:=ho
     rw[hps] at e1;cases e1
     rw[za (zBT ho hk3 (by intro z;cases z)),za (zBT ho hw3 (by intro z;cases z))];exact ho
   . rw[za (zBT hc hk3 (by intro z;cases z)),za (zBT hc hw3 (by intro z;cases z))];exact hc
  have hk4:(upd (upd H3 wd (.dK (zCM kvs (Sum.inl M)))) kl (.lst ((kn.set M.toNat (some e)).map oV))) kl=some (.lst ((kn.set M.toNat (some e)).map oV)):=zJ
  have hw4:(upd (upd H3 wd (.dK (zCM kvs (Sum.inl M)))) kl (.lst ((kn.set M.toNat (some e)).map oV))) wd=some (.dK (zCM kvs (Sum.inl M))):=by rw[za nkw.symm,zJ]
  generalize upd (upd H3 wd (.dK (zCM kvs (Sum.inl M)))) kl (.lst ((kn.set M.toNat (some e)).map oV))=H4 at sm4 T4 hk4 hw4 ⊢
  refine⟨_,rfl,_,rfl,wa,n,ts,M,rfl,W.smT sm4,fun l zs ms H5 s5 hl5 hl5' T5 hp _=>?_⟩
  have hlz:=T5.length
  refine⟨l,rfl,⟨_,SqL.of hl5'⟩,zCm (K:=K) (a:=l) (xs:=zs) (fun i σ H6=>∃(kvs':List (Key×V))(wt':Int->Option Int)(v5 v6 v7:Option V),σ=[some (.ref wa),some (.int st),some (.ref kl),some (.ref wd),some (.int M),v5,v6,v7]/\(∀b o,b≠wd->H5 b=some o->H6 b=some o)/\H6 wd=some (.dK kvs')/\WD n kvs' wt'/\Dn ts n st M e (kn.set M.toNat (some e)) wt' (fun r=>∃j k,j<i/\ms[j]? = some k/\hd k=r))
   ⟨_,_,_,_,_,rfl,fun _ _ _ z=>z,s5 _ _ hw4,WW.drop,⟨⟨N0.dm.kd,N0.dm.wk,N0.dm.ord,fun q e' r l' hq ha=>(N0.dm.nb q e' r l' hq ha).imp (fun z=>⟨z.1,fun ⟨j,_,hj,_⟩=>absurd hj (zBB _)⟩) id,N0.dm.st,N0.dm.pd,N0.dm.mx⟩,N0.ln,N0.bk,N0.bd,N0.bw⟩⟩
   (fun i σ H6 _ ⟨_,_,_,_,_,_,s6,_⟩=>SqL.of (s6 l _ (zBT hl5' (s5 _ _ hw4) (by intro z;cases z)) hl5')) ?turn ?after⟩
  case after=>
   rintro σ H6 ⟨kvs',wt',v5,v6,v7,rfl,s6,hw6,WW6,N6⟩
   have hk5:H5 kl=some (.lst ((kn.set M.toNat (some e)).map oV)):=s5 _ _ hk4
   refine⟨_,kvs',wt',_,_,_,_,rfl,hcnt,?_,?_,s6 kl _ nkw hk5,hw6,WW6,N6.leave fun r c ha=>?_⟩
   . intro b o hb
     rcases (sm4.trans (SmT.of s5)) b o hb with z | z
     . exact .inl z
     . right
       refine s6 b o (fun q=>?_) z
       have hbn:H b=none:=by
        rw[q]
        cases e':H wd with
        | none=>rfl
        | some o'=>have:=s1 wd o' e';rw[hwd] at this;cases this
       rw[hbn] at hb;cases hb
   . refine (T4.same s5).keep (fun o ho=>?_) fun c φ hc=>?_
     . obtain⟨ps,hps,_⟩:=T4.same s5
       refine s6 PT o (fun q=>?_) ho
       rw[q,s5 _ _ hw4] at hps;cases hps
     . refine s6 c _ (fun q=>?_) hc
       rw[q,s5 _ _ hw4] at hc;cases hc
   . have hm:[r,c]∈ms:=hp.mem_iff.mpr (zCq.mpr ⟨r,c,rfl,ha⟩)
     obtain⟨j,hj,ej⟩:=zx hm
     exact⟨j,[r,c],by omega,by rw[zB hj,ej],rfl⟩
  case turn=>
   rintro i y σ H6 hi ⟨kvs',wt',v5,v6,v7,rfl,s6,hw6,WW6,N6⟩
   obtain⟨ya,ky,rfl,hky,hya,_⟩:=T5.get hi
   obtain⟨r,c,rfl,ha⟩:=zCq.mp (hp.mem_iff.mp (zO hky))
   have hadj:=G.adj ha
   have hk6:H6 kl=some (.lst ((kn.set M.toNat (some e)).map oV)):=s6 kl _ nkw (s5 _ _ hk4)
   have hln:(kn.set M.toNat (some e)).length=n.toNat:=N6.ln
   have seen_of:∀{x:Int},(x=r\/∃j k,j<i/\ms[j]? = some k/\hd k=x)->∃j k,j<i+1/\ms[j]? = some k/\hd k=x:=fun {x} z=>by
    rcases z with rfl | ⟨j,k',hj,hk',e'⟩
    . exact⟨i,[x,c],Nat.lt_succ_self _,hky,rfl⟩
    . exact⟨j,k',zAo hj,hk',e'⟩
   have sub:∀{x:Int},(∃j k,j<i+1/\ms[j]? = some k/\hd k=x)->(∃j k,j<i/\ms[j]? = some k/\hd k=x)\/x=r:=fun {x} ⟨j,k',hj,hk',e'⟩=>by
    by_cases hji:j<i
    . exact .inl ⟨j,k',hji,hk',e'⟩
    . have:j=i:=by omega
      subst this
      rw[hky] at hk';cases hk'
      exact .inr e'.symm
   have conv:∀{wt2:Int->Option Int},Dn ts n st M e (kn.set M.toNat (some e)) wt2 (fun x=>(∃j k,j<i/\ms[j]? = some k/\hd k=x)\/x=r)->Dn ts n st M e (kn.set M.toNat (some e)) wt2 (fun x=>∃j k,j<i+1/\ms[j]? = some k/\hd k=x):=fun {wt2} N=>
    ⟨⟨N.dm.kd,N.dm.wk,N.dm.ord,fun q e' r' l' hq ha'=>(N.dm.nb q e' r' l' hq ha').imp (fun z=>⟨z.1,fun y=>z.2 (sub y)⟩) id,N.dm.st,N.dm.pd,N.dm.mx⟩,N.ln,N.bk,N.bd,N.bw⟩
   refine⟨ya,_,rfl,SqT.of (s6 _ _ (zBT hya (s5 _ _ hw4) (by intro z;cases z)) hya),rfl,_,_,rfl,_,_,rfl,rfl,?_⟩
   obtain⟨o,ho⟩:∃o,(kn.set M.toNat (some e))[r.toNat]? = some o:=⟨_,zB (by omega)⟩
   have hfnl:fnl (kn.set M.toNat (some e)) r=o:=by
    unfold fnl
    rw[if_pos hadj.2.2.1,zE,ho];rfl
   refine⟨_,rfl,_,rfl,kl,_,_,oV o,rfl,rfl,SqL.of hk6,zAe hadj.2.2.1 (by rw[zM,ho];rfl),rfl,_,rfl,?_⟩
   rw[zFN]
   cases o with
   | some f0=>
    refine zDH ?_
    exact⟨kvs',wt',_,_,_,rfl,s6,hw6,WW6,conv (N6.skip hfnl)⟩
   | none=>
    refine zEv ?_
    have hkM:(kn.set M.toNat (some e))[M.toNat]? = some (some e):=by
     rw[List.getElem?_set_self (by have:=D.ln;omega)]
    refine⟨_,rfl,_,rfl,kl,_,_,oV (some e),rfl,rfl,SqL.of hk6,zAe hM0 (by rw[zM,hkM];rfl),_,rfl,_,_,rfl,rfl,?_⟩
    refine⟨_,rfl,_,rfl,wd,rfl,.inl ⟨kvs',.inl hw6⟩,_,rfl,_,rfl,_,zFw.k (k:=Sum.inl r) hw6,?_⟩
    have hg:((zCA kvs' (Sum.inl r)).getD (V.int (e+c)))=V.int ((wt' r).getD (e+c)):=by
     rw[WW6.at_ r]
     cases wt' r <;> rfl
    rw[hg]
    refine⟨_,_,rfl,?_⟩
    have hwl:=WW6.len (by omega)
    refine⟨_,rfl,_,rfl,wd,_,rfl,zI8.k (k:=Sum.inl r) hw6 (zAT (by omega)),?_⟩
    exact⟨_,_,_,_,_,rfl,fun b o' hb z=>by rw[za hb];exact s6 b o' hb z,zJ,WW6.put hadj.2.2.1 hadj.2.2.2.1,conv (N6.wait G ha hfnl)⟩
noncomputable def spBwr:Sp:=fun vs H Q _=>∃(lh lt:Addr)(n:Int)(ts:List T3)(x y:Int)(kn1 kn2:List (Option Int)),vs=[.ref lh,.ref lt,.int y]/\GW n ts/\0<=x/\x<n/\0<=y/\y<n/\H lh=some (.tup (kn1.map oV))/\H lt=some (.tup (kn2.map oV))/\zJE ts n x kn1/\zJE ts n y kn2 /\
 ∀(l:Addr)(xs:List Int)(H':Hp),zAi H H'->H' l=some (.tup (xs.map V.int))->xs.Pairwise (· < ·)->(∀p,p∈xs↔Btw ts x y p)->Q (.ref l) H'
noncomputable def spNbr:Sp:=fun vs H Q _=>∃(wa lt:Addr)(n:Int)(ts:List T3)(x y:Int)(kn:List (Option Int)),vs=[.ref wa,.int x,.ref lt]/\zBs H wa n ts/\0<=x/\x<n/\0<=y/\y<n/\H lt=some (.tup (kn.map oV))/\zJE ts n y kn /\
 ∀(l:Addr)(xs:List Int)(H':Hp),zAi H H'->H' l=some (.tup (xs.map V.int))->xs.Pairwise (· < ·)->(∀p,p∈xs↔Nxt ts x y p)->Q (.ref l) H'
variable {y:Int}
theorem zB8 {s:Int}{kn:List (Option Int)}(h:zJE ts n s kn)(h0:0<=y)(h1:y<n):(kn.map oV)[y.toNat]? = some (oV (fnl kn y)):=by
 have hl:=h.ln
 have hlt:y.toNat<kn.length:=by omega
 rw[zM,zB hlt]
 unfold fnl
 rw[if_pos h0,zE,zB hlt]
 rfl
theorem zC8 (q:Nat):lowTo (q+1)=lowTo q++[(q:Int)]:=by unfold lowTo;rw[List.range_succ,zS];rfl
theorem zDf (q:Nat):(lowTo q).length=q:=by unfold lowTo;rw[zC,zAQ]
theorem scBwr:zw ["here", "there", "other", "reached"] ["here", "there", "other"] (defScope sBwr):=fS0
theorem ok_bwr (F:Fun K "between_rows" "between_rows" sBwr f fd') (mRange:mg "range" = none) (mTuple:mg "tuple" = none) (mLen:mg "len" = none):zAP P w K mg base CX0 1 f fd' ["here", "there", "other"] spBwr:=by
 refine F.ok scBwr (fun vs H Q E h=>?_) (fun cdv A outer s H2 vs Q E hr h=>?_)
 . obtain⟨lh,lt,n,ts,x,y,kn1,kn2,rfl,_⟩:=h
   rfl
 . obtain⟨lh,lt,n,ts,x,y,kn1,kn2,rfl,G,hx0,hx1,hy0,hy1,hh2,hl2,L1,L2,k⟩:=h
   have hn24:=G.n24
   have hln:=L1.ln
   refine⟨_,zP (zA9 (zAC zCF (zt zAF (pv 0) (pv 2)) zAp (zAD _)) (zZ (zAA (zBC zN))) zAR)
    (zP (zCs (i:=3) (own:=["place"]) (cn:=["here"]) (ci:=[0]) scBwr.nd rfl (Or.inl rfl) rfl (csc rfl rfl) ⟨rfl,rfl,rfl,trivial⟩ rfl
     (zAg rfl mRange (zD (zAa zAy mLen (zD (pv 0) zN)) zN)) (fun _ _ _ _=>zBr)
     (fun _ _ _ _=>zCK (zAC zCu (zt zBe (pv 1) (pv 0)) zAp (zAD _))) (fun _ _ _ _=>pv 0))
    (zZ (zAA (zAm zAS mTuple (zD
     (zA6 (own:=["place"]) (cn:=["here", "there", "other"]) (ci:=[0,1,2]) rfl (csc rfl rfl) ⟨rfl,rfl,rfl,rfl,rfl,rfl,rfl,rfl,rfl,trivial⟩ rfl
      (zB2 (pv 3)) (fun _ _ _ _=>zBr)
      (fun _ _ _ _=>zCK (zAC zBw (zA5 zB0 (zt zBe (pv 1) (pv 0)) (zt zBe (pv 2) (pv 0))) (zt zBe (pv 1) (pv 3)) (zAD _)))
      (fun _ _ _ _=>pv 0)) zN))))),?_⟩
   have hy:=L1.len y hy0 hy1
   refine⟨_,rfl,_,rfl,lh,_,_,oV (fnl kn1 y),rfl,rfl,SqT.of hh2,zAe hy0 (zB8 L1 hy0 hy1),rfl,_,rfl,?_⟩
   rw[zFN]
   cases hd:fnl kn1 y with
   | none=>
    refine zEv ?_
    rw[hd] at hy
    refine⟨ze _,fun l hl=>k l [] _ (zI hl) zJ zBk fun p=>⟨fun z=>by simp at z,fun ⟨a,b,_,_,z⟩=>absurd z.1 (hy _)⟩⟩
   | some d=>
    refine zDH ?_
    rw[hd] at hy
    have hyD:WM.IsD ts x y d:=hy
    refine⟨_,rfl,lh,_,rfl,.inr (SqT.of hh2),n,by rw[zC,hln];exact congrArg (fun z=>[V.int z]) (Int.toNat_of_nonneg (by omega)),by omega,by omega,[.ref lh],rfl,fun D hD=>?_⟩
    refine zBU (lo:=0) (n:=n.toNat) (fun q ys H3=>q<=n.toNat/\ys=((lowTo q).filter fun o=>(fnl kn1 o).isSome).map V.int/\zAi H2 H3/\H3 D=some (.lst ys)) ⟨ze _,rfl,zI hD,zJ⟩ (fun q ys H3 h=>?_) (fun q ys H3 hq h=>?_) (fun ys H3 h=>?_)
    . obtain⟨hq,rfl,_⟩:=h
      rw[zC]
      refine zAU (zAJ _ _) (zAT ?_)
      rw[zDf];omega
    . obtain⟨_,rfl,s3,hD3⟩:=h
      rw[zAb]
      refine⟨⟨rfl,rfl⟩,?_⟩
      refine⟨_,rfl,_,rfl,lh,_,_,oV (fnl kn1 q),rfl,rfl,SqT.of (s3 _ _ hh2),zAe (by omega) (zB8 L1 (by omega) (by omega)),rfl,_,rfl,?_⟩
      rw[zFN]
      cases e:fnl kn1 q with
      | none=>
       refine zDH ?_
       refine⟨hq,?_,s3,hD3⟩
       rw[zC8,zA1,zBq (by rw[e];decide),List.filter_nil,zr]
      | some a=>
       refine zEv ?_
       refine⟨_,rfl,hD3,hq,?_,zAY s3 hD,zJ⟩
       rw[zC8,zA1,zBp (by rw[e];rfl),List.filter_nil,zS]
       rfl
    . obtain⟨_,rfl,s3,hD3⟩:=h
      generalize hR:((lowTo n.toNat).filter fun o=>(fnl kn1 o).isSome)=R at hD3 ⊢
      have hRm:∀p,p∈R↔(0<=p/\p<n)/\∃a,fnl kn1 p=some a:=fun p=>by
       rw[<-hR,zAG,zDd,zBh]
       constructor
       . rintro ⟨z1,z2⟩;exact⟨by omega,z2⟩
       . rintro ⟨z1,z2⟩;exact⟨by omega,z2⟩
      have hRr:R.Pairwise (· < ·):=by rw[<-hR];exact (zDz _).sublist List.filter_sublist
      have hRl:R.length<=24:=by
       rw[<-hR]
       exact zAH (zAJ _ _) (by rw[zDf];omega)
      have both:∀p,p∈R->∃a b,fnl kn1 p=some a/\fnl kn2 p=some b/\WM.IsD ts x p a/\WM.IsD ts p y b:=fun p hp=>by
       obtain⟨⟨h0,h1⟩,a,ha⟩:=(hRm p).mp hp
       have l1:=L1.len p h0 h1
       rw[ha] at l1
       obtain⟨b,hb,_⟩:=Len.via (show WM.IsD ts x p a from l1) hyD (Len.symm (L2.len p h0 h1))
       have l2:=L2.len p h0 h1
       rw[hb] at l2
       exact⟨a,b,ha,hb,l1,WM.IsD.symm l2⟩
      refine⟨_,rfl,D,rfl,⟨_,SqL.of hD3⟩,[.ref lh,.ref lt,.int y],rfl,fun D2 hD2=>?_⟩
      have nDD:D≠D2:=zn hD3 hD2
      refine zCN (a:=D) (xs:=R.map V.int) (fun i ys H4=>ys=((R.take i).filter fun p=>decide ((fnl kn1 p).getD 0+(fnl kn2 p).getD 0=d)).map V.int/\zAi H3 H4/\H4 D2=some (.lst ys)) ⟨rfl,zI hD2,zJ⟩ (fun i ys H4 h=>?_) (fun i ys H4 h=>?_) (fun i v ys H4 hv h=>?_) (fun ys H4 h=>?_)
      . obtain⟨_,s4,_⟩:=h
        exact SqL.of (s4 _ _ hD3)
      . obtain⟨rfl,_⟩:=h
        rw[zC]
        refine zAU (zAJ _ _) (zAT ?_)
        rw[zk];omega
      . obtain⟨rfl,s4,hD4⟩:=h
        obtain⟨p,hp,rfl⟩:∃p,R[i]? = some p/\V.int p=v:=by
         rw[zM] at hv
         cases e:R[i]? with
         | none=>rw[e] at hv;cases hv
         | some p=>rw[e] at hv;exact⟨p,rfl,zY hv⟩
        have hpR:=zO hp
        obtain⟨⟨h0,h1⟩,_⟩:=(hRm p).mp hpR
        obtain⟨a,b,ha,hb,_,_⟩:=both p hpR
        have hlh4:H4 lh=some (.tup (kn1.map oV)):=s4 _ _ (s3 _ _ hh2)
        have hlt4:H4 lt=some (.tup (kn2.map oV)):=s4 _ _ (s3 _ _ hl2)
        refine⟨⟨rfl,rfl⟩,?_⟩
        refine⟨_,rfl,_,rfl,lh,_,_,.int a,rfl,rfl,SqT.of hlh4,zAe h0 (by rw[zB8 L1 h0 h1,ha];rfl),?_⟩
        refine⟨_,rfl,_,rfl,lt,_,_,.int b,rfl,rfl,SqT.of hlt4,zAe h0 (by rw[zB8 L2 h0 h1,hb];rfl),_,_,rfl,rfl,?_⟩
        refine⟨_,rfl,_,rfl,lh,_,_,.int d,rfl,rfl,SqT.of hlh4,zAe hy0 (by rw[zB8 L1 hy0 hy1,hd];rfl),rfl,_,rfl,?_⟩
        rw[zGl]
        have etk:(R.take (i+1)).filter (fun p=>decide ((fnl kn1 p).getD 0+(fnl kn2 p).getD 0=d))=(R.take i).filter (fun p=>decide ((fnl kn1 p).getD 0+(fnl kn2 p).getD 0=d))++(if a+b=d then [p] else []):=by
         rw[zq,hp,zA1]
         show _++List.filter _ [p]=_
         rw[zBu,ha,hb]
         by_cases c:a+b=d
         . rw[if_pos (by simpa using c),if_pos c];rfl
         . rw[if_neg (by simpa using c),if_neg c];rfl
        refine zFW (fun c=>?_) (fun c=>?_)
        . have c':=of_decide_eq_true c
          refine⟨_,rfl,hD4,?_,zAY s4 hD2,zJ⟩
          rw[etk,if_pos c',zS];rfl
        . have c':¬ a+b=d:=fun z=>c (zU z)
          refine⟨?_,s4,hD4⟩
          rw[etk,if_neg c',zr]
      . obtain⟨rfl,s4,hD4⟩:=h
        rw[zC,zb (zK _)] at hD4
        refine⟨D2,_,rfl,.inl ⟨SqL.of hD4,fun q hq=>?_⟩⟩
        refine k q _ _ ((s3.trans s4).trans (zI hq)) zJ (hRr.sublist List.filter_sublist) fun p=>?_
        rw[zAG]
        constructor
        . rintro ⟨hp,c⟩
          obtain⟨a,b,ha,hb,ia,ib⟩:=both p hp
          have c':=of_decide_eq_true c
          rw[ha,hb] at c'
          exact⟨a,b,ia,ib,by rw[show a+b=d from c'];exact hyD⟩
        . rintro ⟨a,b,ia,ib,iab⟩
          have hp:=ia.1.in_ G hx0 hx1
          have l1:=Len.uniq (L1.len p hp.1 hp.2) (show Len ts x p (some a) from ia)
          have l2:=Len.uniq (L2.len p hp.1 hp.2) (show Len ts y p (some b) from WM.IsD.symm ib)
          refine⟨(hRm p).mpr ⟨hp,a,l1⟩,zU ?_⟩
          rw[l1,l2]
          exact WM.IsD.uniq iab hyD
theorem scNbr:zw ["web", "one", "there"] ["web", "one", "there"] (defScope sNbr):=fS0
noncomputable def sl1 (k:List Int):Int:=k.getD 1 0
theorem ok_nbr {fT:Addr}(F:Fun K "next_by_row" "next_by_row" sNbr f fd')
 (FT:FuB K mg "ties_at" zEl fT fdT ["web","place"]) (mSorted:mg "sorted" = none) (mTuple:mg "tuple" = none):zAP P w K mg base CX0 3 f fd' ["web", "one", "there"] spNbr:=by
 have GT:zAP P w K mg base CX0 2 fT fdT ["web", "place"] zFA:=(zEr FT.F mSorted).mono (by decide)
 refine F.ok scNbr (fun vs H Q E h=>?_) (fun cdv A outer s H1 vs Q E hr h=>?_)
 . obtain⟨wa,lt,n,ts,x,y,kn,rfl,_⟩:=h
   rfl
 . obtain⟨wa,lt,n,ts,x,y,kn,rfl,W,hx0,hx1,hy0,hy1,hl1,L,k⟩:=h
   obtain⟨ta,tys,hwa,_,_,G⟩:=id W
   refine⟨_,zP (zA9 (zAC zCF (zt zAF (pv 2) (pv 1)) zAp (zAD _)) (zZ (zAA (zBC zN))) zAR)
    (zZ (zAA (zAm zAS mTuple (zD
     (zA6 (own:=["place", "long"]) (cn:=["there", "one"]) (ci:=[2,1]) rfl (csc rfl rfl) ⟨rfl,rfl,rfl,rfl,rfl,rfl,trivial⟩ rfl
      (zB2 (zAL GT hr FT (zD (pv 0) (zD (pv 1) zN))))
      (fun _ _ _ _=>zEp (n:=2) rfl (zu (zBr) (zu (zv (i:=1) (zDZ rfl) rfl (Or.inl rfl)) zBN)))
      (fun _ _ _ _=>zCK (zAC zBw (zA5 zB0 (pv 1) (zt zBe (pv 2) (pv 0))) (zt zBe (pv 2) (pv 3)) (zAD _)))
      (fun _ _ _ _=>pv 0)) zN)))),?_⟩
   have hx:=L.len x hx0 hx1
   refine⟨_,rfl,_,rfl,lt,_,_,oV (fnl kn x),rfl,rfl,SqT.of hl1,zAe hx0 (zB8 L hx0 hx1),rfl,_,rfl,?_⟩
   rw[zFN]
   cases hd:fnl kn x with
   | none=>
    refine zEv ?_
    rw[hd] at hx
    refine⟨ze _,fun l hl=>k l [] _ (zI hl) zJ zBk fun p=>⟨fun z=>by simp at z,fun ⟨a,b,_,_,z⟩=>absurd z.1.symm (hx _)⟩⟩
   | some d=>
    refine zDH ?_
    rw[hd] at hx
    have hxD:WM.IsD ts x y d:=WM.IsD.symm hx
    refine⟨_,rfl,_,rfl,wa,n,ts,x,rfl,W,fun l zs ms H2 s2 hl0 hl2 TT hp hrs=>?_⟩
    have hlz:=TT.length
    have hlt2:H2 lt=some (.tup (kn.map oV)):=s2 _ _ hl1
    have hlm:ms.length<64:=by
     have e2:=zGh (n:=n) x (ts:=ts) fun t ht=>(G.rng t ht).2.1
     have:=G.len
     rw[hp.length_eq];omega
    have near:∀k,k∈ms->∃z c b,k=[z,c]/\Adj ts x z c/\fnl kn z=some b/\WM.IsD ts z y b:=fun k hk=>by
     obtain⟨z,c,e,ha⟩:=zCq.mp (hp.mem_iff.mp hk)
     have hadj:=G.adj ha
     have lz:=L.len z hadj.2.2.1 hadj.2.2.2.1
     cases hz:fnl kn z with
     | none=>rw[hz] at lz;exact absurd (hx.1.snoc ha) (lz _)
     | some b=>rw[hz] at lz;exact⟨z,c,b,e,ha,hz,WM.IsD.symm lz⟩
    refine⟨l,rfl,⟨_,SqL.of hl2⟩,[.ref lt,.int x],rfl,fun D hD=>?_⟩
    have nlD:l≠D:=zn hl2 hD
    refine zCN (a:=l) (xs:=zs) (fun i ys H3=>ys=(((ms.take i).filter fun k=>decide (sl1 k+(fnl kn (WM.hd k)).getD 0=d)).map WM.hd).map V.int/\H3=upd H2 D (.lst ys)) ⟨rfl,rfl⟩ (fun i ys H3 h=>?_) (fun i ys H3 h=>?_) (fun i v ys H3 hv h=>?_) (fun ys H3 h=>?_)
    . obtain⟨_,rfl⟩:=h
      exact SqL.of (by rw[za nlD];exact hl2)
    . obtain⟨rfl,_⟩:=h
      rw[zC,zC]
      refine zAU (zAJ _ _) (zAT ?_)
      rw[zk];omega
    . obtain⟨rfl,rfl⟩:=h
      obtain⟨ya,ky,rfl,hky,hya,_⟩:=TT.get hv
      obtain⟨z,c,b,rfl,ha,hb,ib⟩:=near ky (zO hky)
      have hadj:=G.adj ha
      refine⟨ya,_,rfl,SqT.of (by rw[za (zn hya hD)];exact hya),rfl,_,_,rfl,_,_,rfl,rfl,⟨rfl,rfl⟩,?_⟩
      have hltD:(upd H2 D (.lst ((((ms.take i).filter fun k=>decide (sl1 k+(fnl kn (WM.hd k)).getD 0=d)).map WM.hd).map V.int))) lt=some (.tup (kn.map oV)):=by rw[za (zn hlt2 hD)];exact hlt2
      refine⟨_,rfl,_,rfl,_,rfl,lt,_,_,.int b,rfl,rfl,SqT.of hltD,zAe hadj.2.2.1 (by rw[zB8 L hadj.2.2.1 hadj.2.2.2.1,hb];rfl),_,_,rfl,rfl,?_⟩
      refine⟨_,rfl,_,rfl,lt,_,_,.int d,rfl,rfl,SqT.of hltD,zAe hx0 (by rw[zB8 L hx0 hx1,hd];rfl),rfl,_,rfl,?_⟩
      rw[zGl]
      have etk:(ms.take (i+1)).filter (fun k=>decide (sl1 k+(fnl kn (WM.hd k)).getD 0=d))=(ms.take i).filter (fun k=>decide (sl1 k+(fnl kn (WM.hd k)).getD 0=d))++(if c+b=d then [[z,c]] else []):=by
       rw[zq,hky,zA1]
       show _++List.filter _ [[z,c]]=_
       rw[zBu]
       have e1:decide (sl1 [z,c]+(fnl kn (WM.hd [z,c])).getD 0=d)=decide (c+b=d):=by
        show decide (c+(fnl kn z).getD 0=d)=_
        rw[hb];rfl
       rw[e1]
       by_cases cc:c+b=d
       . rw[if_pos (by simpa using cc),if_pos cc];rfl
       . rw[if_neg (by simpa using cc),if_neg cc];rfl
      refine zFW (fun cc=>?_) (fun cc=>?_)
      . have c':=of_decide_eq_true cc
        refine⟨_,rfl,zJ,?_,zB1⟩
        rw[etk,if_pos c',zS,zS];rfl
      . have c':¬ c+b=d:=fun q=>cc (zU q)
        refine⟨?_,rfl⟩
        rw[etk,if_neg c',zr]
    . obtain⟨rfl,rfl⟩:=h
      refine⟨D,_,rfl,.inl ⟨SqL.of zJ,fun q hq=>?_⟩⟩
      rw[hlz,zb (zK _)] at hq ⊢
      have s4:=(zI (o:=.lst ((((ms.filter fun k=>decide (sl1 k+(fnl kn (WM.hd k)).getD 0=d)).map WM.hd).map V.int))) hD).trans (zI (o:=.tup ((((ms.filter fun k=>decide (sl1 k+(fnl kn (WM.hd k)).getD 0=d)).map WM.hd).map V.int))) hq)
      have hk:∀k∈ms,∃y l,k=[y,l]:=fun k hk=>by
       obtain⟨z,c,b,e,_⟩:=near k hk
       exact⟨z,c,e⟩
      have hrise:=zHI hrs hk ((hp.map WM.hd).nodup_iff.mpr (zJx G x))
      refine k q _ _ (s2.trans s4) zJ (hrise.sublist (List.filter_sublist.map _)) fun p=>?_
      rw[zAI]
      constructor
      . rintro ⟨k0,hk0,rfl⟩
        obtain⟨hm,c⟩:=zAG.mp hk0
        obtain⟨z,c0,b,rfl,ha,hb,ib⟩:=near k0 hm
        have c':=of_decide_eq_true c
        have c2:c0+b=d:=by
         have:c0+(fnl kn z).getD 0=d:=c'
         rw[hb] at this;exact this
        exact⟨c0,b,ha,ib,by rw[c2];exact hxD⟩
      . rintro ⟨c0,b,ha,ib,iab⟩
        have hm:[p,c0]∈ms:=hp.mem_iff.mpr (zCq.mpr ⟨p,c0,rfl,ha⟩)
        refine⟨[p,c0],zAG.mpr ⟨hm,zU ?_⟩,rfl⟩
        have hadj:=G.adj ha
        have lp:=Len.uniq (L.len p hadj.2.2.1 hadj.2.2.2.1) (show Len ts y p (some b) from WM.IsD.symm ib)
        show c0+(fnl kn p).getD 0=d
        rw[lp]
        exact WM.IsD.uniq iab hxD
noncomputable def zCi (H:Hp)(rs:List Addr)(M:lLO):Prop:=rs.length=M.length/\∀(i:Nat)(r:Addr)(row:List (Option Int)),rs[i]? = some r->M[i]? = some row->H r=some (.tup (row.map oV))
variable {rs:List Addr}
theorem zCi.smT {M:lLO}(h:zCi H rs M)(k:SmT H H'):zCi H' rs M:=⟨h.1,fun i r row a b=>k.get (h.2 i r row a b) (by intro ps z;cases z)⟩
noncomputable def zHm (PT:Addr):Sp:=fun vs H Q _=>∃(wa:Addr)(n:Int)(ts:List T3),vs=[.ref wa]/\zBs H wa n ts/\Tb H PT /\
 ∀(l:Addr)(rs:List Addr)(M:lLO)(H':Hp),SmT H H'->Tb H' PT->H' l=some (.tup (rs.map V.ref))->zCi H' rs M->Rows ts n M->Q (.ref l) H'
theorem scLens:zw ["web"] ["web"] (defScope zHy):=fS0
variable {fF:Addr}{fdF:FuncData}
theorem zLL (F:Fun K "lengths" "lengths" zHy f fd') (FF:FuB K mg "lengths_from" zH0 fF fdF ["web","start"]) (GF:zAP P w K mg base CX0 3 fF fdF ["web", "start"] (zHo PT))
 (mRange:mg "range" = none) (mTuple:mg "tuple" = none):zAP P w K mg base CX0 4 f fd' ["web"] (zHm PT):=by
 refine F.okD scLens fun _ A _ _ H vs Q E hr h=>?_
 obtain⟨wa,n,ts,rfl,W,T,k⟩:=h
 obtain⟨ta,tys,hwa,_,_,G⟩:=id W
 have hn24:=G.n24
 have hn1:=G.n1
 refine⟨_,zZ (zAA (zAm zAS mTuple (zD
  (zA6 (own:=["place"]) (cn:=["web"]) (ci:=[0]) rfl (csc rfl rfl) ⟨rfl,rfl,rfl,trivial⟩ rfl
   (zAg rfl mRange (zD (zt zAF (pv 0) zj) zN)) (fun _ _ _ _=>zBr) (fun _ _ _ _=>zBH)
   (fun _ _ _ _=>zAL GF hr FF (zD (pv 1) (zD (pv 0) zN)))) zN))),?_⟩
 refine⟨_,rfl,wa,_,_,_,rfl,rfl,SqT.of hwa,rfl,n,rfl,by omega,by omega,[.ref wa],rfl,fun D hD=>?_⟩
 refine zBU (lo:=0) (n:=n.toNat) (fun q ys H1=>q<=n.toNat/\∃(rs:List Addr)(M:lLO),ys=rs.map V.ref/\rs.length=q/\zCi H1 rs M/\(∀x:Nat,x<q->zJE ts n x (M.getD x []))/\SmT H H1/\Tb H1 PT/\H1 D=some (.lst ys))
  ⟨ze _,[],[],rfl,rfl,⟨rfl,fun i r row h=>by simp at h⟩,fun x hx=>absurd hx (zBB _),SmT.of (zI hD),T.same (zI hD),zJ⟩ (fun q ys H1 h=>?_) (fun q ys H1 hq h=>?_) (fun ys H1 h=>?_)
 . obtain⟨hq,rs,M,rfl,hl,_⟩:=h
   rw[zC,hl]
   exact zAT (by omega)
 . obtain⟨_,rs,M,rfl,hl,R,L,sm,T1,hD1⟩:=h
   rw[zAb]
   refine⟨⟨rfl,rfl⟩,?_⟩
   refine zEO ?_
   refine⟨_,rfl,_,rfl,wa,n,ts,q,rfl,W.smT sm,by omega,by omega,T1,fun l kn H2 sm2 T2 hl2 L2=>?_⟩
   have hD2:H2 D=some (.lst (rs.map V.ref)):=sm2.get hD1 (by intro ps z;cases z)
   refine⟨hD2,hq,rs++[l],M++[kn],by rw[zS];rfl,by rw[zL,hl];rfl,⟨by rw[zL,zL,R.1];rfl,fun i r row h1 h2=>?_⟩,fun x hx=>?_,(sm.trans sm2).chg hD,T2.chg hD2,zJ⟩
   . have key:H2 r=some (.tup (row.map oV)):=by
      by_cases hi:i<rs.length
      . rw[zW hi] at h1
        rw[zW (by rw[<-R.1];exact hi)] at h2
        exact sm2.get (R.2 i r row h1 h2) (by intro ps z;cases z)
      . rw[zQ (by omega)] at h1
        rw[zQ (by rw[<-R.1];omega),<-R.1] at h2
        cases hz:i-rs.length with
        | zero=>
         rw[hz] at h1 h2
         have e1:l=r:=by simpa using h1
         have e2:kn=row:=by simpa using h2
         subst e1 e2
         exact hl2
        | succ k=>rw[hz] at h1;simp at h1
     rw[za (zBT key hD2 (by intro z;cases z))]
     exact key
   . by_cases hx':x<q
     . rw[zE,zW (by rw[<-R.1,hl];exact hx'),<-zE]
       exact L x hx'
     . have e:x=q:=by omega
       subst e
       rw[zE,zQ (by rw[<-R.1,hl];exact zK _),<-R.1,hl]
       simpa using L2
 . obtain⟨_,rs,M,rfl,hl,R,L,sm,T1,hD1⟩:=h
   refine⟨D,_,rfl,.inl ⟨SqL.of hD1,fun q hq=>?_⟩⟩
   refine k q rs M _ (sm.trans (SmT.of (zI hq))) (T1.same (zI hq)) zJ (R.smT (SmT.of (zI hq))) ⟨by rw[<-R.1,hl],fun x hx hx'=>?_⟩
   have:=L x.toNat (by omega)
   rw[show ((x.toNat:Nat):Int)=x by omega] at this
   exact this
noncomputable def zKj:Sp:=fun vs H Q _=>∃i:Int,vs=[.int i]/\Q (.bl true) H
noncomputable def spWi:Sp:=fun vs H Q _=>∃i a b:Int,vs=[.int i,.int a,.int b]/\a<=i/\i<=b/\Q (.bl true) H
noncomputable def spPl:Sp:=fun vs H Q _=>∃n i:Int,vs=[.int n,.int i]/\0<=i/\i<=n-1/\Q (.bl true) H
noncomputable def zJL:Sp:=fun vs H Q _=>∃(p:Addr)(ys:List V),vs=[.ref p,.int ys.length]/\H p=some (.tup ys)/\Q (.bl true) H
structure Ordr (n:Int)(os:List Int):Prop where
 ln:os.length=n.toNat
 nd:os.Nodup
 rng:∀p∈os,0<=p/\p<n
noncomputable def zKi:Sp:=fun vs H Q _=>∃(wa p:Addr)(n:Int)(ts:List T3)(os:List Int),vs=[.ref wa,.ref p]/\zBs H wa n ts/\H p=some (.tup (os.map V.int))/\Ordr n os/\∀H',zAi H H'->Q (.bl true) H'
theorem scNum:zw ["thing"] ["thing"] (defScope zKG):=fS0
theorem zKM (F:Fun K "is_number" "is_number" zKG f fd') (mIsi:mg "isinstance" = none) (mInt:mg "int" = none) (mBool:mg "bool" = none):zAP P w K mg base CX0 1 f fd' ["thing"] zKj:=by
 refine F.okD scNum fun _ A _ _ H vs Q E hr h=>?_
 obtain⟨i,rfl,k⟩:=h
 refine⟨_,zZ (zAA (zCZ (zAa zCX mIsi (zD (pv 0) (zD (zGX (T := "int") mInt) zN)))
  (zCd (pe_not (zAa zCX mIsi (zD (pv 0) (zD (zGX (T := "bool") mBool) zN))))))),?_⟩
 refine⟨_,rfl,_,_,_,true,rfl,.int i,rfl,true,rfl,zEv ?_⟩
 exact⟨_,rfl,_,_,_,false,rfl,.int i,rfl,false,rfl,k⟩
theorem scWi:zw ["thing", "least", "most"] ["thing", "least", "most"] (defScope sWi):=fS0
theorem ok_wi (F:Fun K "is_within" "is_within" sWi f fd') (FN:FuB K mg "is_number" zKG fN fdN ["thing"]) (mIsi:mg "isinstance" = none) (mInt:mg "int" = none) (mBool:mg "bool" = none) :
 zAP P w K mg base CX0 2 f fd' ["thing", "least", "most"] spWi:=by
 have GN:zAP P w K mg base CX0 1 fN fdN ["thing"] zKj:=zKM FN.F mIsi mInt mBool
 refine F.okD scWi fun _ A _ _ H vs Q E hr h=>?_
 obtain⟨i,a,b,rfl,h1,h2,k⟩:=h
 refine⟨_,zZ (zAA (zCZ (zAL GN hr FN (zD (pv 0) zN)) (zCZ (zBO zK9 (pv 1) (pv 0) (zAD _)) (zCd (zBO zK9 (pv 0) (pv 2) (zAD _)))))),?_⟩
 refine⟨_,rfl,i,rfl,true,rfl,zEv ?_⟩
 refine⟨_,rfl,_,rfl,_,_,rfl,rfl,_,rfl,?_⟩
 refine ifT (zU h1) ?_
 refine⟨_,rfl,_,rfl,_,_,rfl,rfl,?_⟩
 show Q (.bl (decide (i<=b))) H
 rw[zU h2]
 exact k
theorem scPl:zw ["n", "thing"] ["n", "thing"] (defScope sPl):=fS0
variable {fW:Addr}{fdW:FuncData}
theorem ok_pl (F:Fun K "is_place" "is_place" sPl f fd') (FW:FuB K mg "is_within" sWi fW fdW ["thing","least","most"]) (FN:FuB K mg "is_number" zKG fN fdN ["thing"]) (mIsi:mg "isinstance" = none) (mInt:mg "int" = none) (mBool:mg "bool" = none) :
 zAP P w K mg base CX0 3 f fd' ["n", "thing"] spPl:=by
 have GW':zAP P w K mg base CX0 2 fW fdW ["thing", "least", "most"] spWi:=ok_wi FW.F FN mIsi mInt mBool
 refine F.okD scPl fun _ A _ _ H vs Q E hr h=>?_
 obtain⟨n,i,rfl,h1,h2,k⟩:=h
 refine⟨_,zZ (zAA (zAL GW' hr FW (zD (pv 1) (zD zj (zD (zA5 zGa (pv 0) zj) zN))))),?_⟩
 exact⟨_,rfl,_,rfl,_,_,rfl,rfl,i,0,n-1,rfl,h1,h2,k⟩
theorem scTof:zw ["thing", "count"] ["thing", "count"] (defScope zKw):=fS0
theorem zIF (F:Fun K "is_tuple_of" "is_tuple_of" zKw f fd') (mIsi:mg "isinstance" = none) (mTuple:mg "tuple" = none) (mLen:mg "len" = none):zAP P w K mg base CX0 1 f fd' ["thing", "count"] zJL:=by
 refine F.okD scTof fun _ A _ _ H vs Q E hr h=>?_
 obtain⟨p,ys,rfl,hp,k⟩:=h
 refine⟨_,zZ (zAA (zCZ (zAa zCX mIsi (zD (pv 0) (zD (zGX (T := "tuple") mTuple) zN)))
  (zCd (zBO zBw (zAa zAy mLen (zD (pv 0) zN)) (pv 1) (zAD _))))),?_⟩
 refine⟨_,rfl,_,_,_,true,rfl,.tup hp,rfl,true,rfl,zEv ?_⟩
 refine⟨_,rfl,p,_,rfl,.inr (SqT.of hp),_,rfl,rfl,?_⟩
 rw[zU rfl]
 exact k
theorem scOrd:zw ["web", "thing", "n"] ["web", "thing"] (defScope sOrd):=fS0
theorem ok_ord {fT fP:Addr}{fdP:FuncData}(F:Fun K "is_order" "is_order" sOrd f fd') (FT:FuB K mg "is_tuple_of" zKw fT fdT ["thing","count"])
 (FW:FuB K mg "is_within" sWi fW fdW ["thing","least","most"]) (FP:FuB K mg "is_place" sPl fP fdP ["n","thing"]) (FN:FuB K mg "is_number" zKG fN fdN ["thing"])
 (mIsi:mg "isinstance" = none) (mInt:mg "int" = none) (mBool:mg "bool" = none) (mTuple:mg "tuple" = none) (mLen:mg "len" = none) (mAll:mg "all" = none) (mSet:mg "set" = none):zAP P w K mg base CX0 4 f fd' ["web", "thing"] zKi:=by
 have GT:zAP P w K mg base CX0 3 fT fdT ["thing", "count"] zJL:=(zIF FT.F mIsi mTuple mLen).mono (by decide)
 have GP:zAP P w K mg base CX0 3 fP fdP ["n", "thing"] spPl:=ok_pl FP.F FW FN mIsi mInt mBool
 refine F.okD scOrd fun _ A _ _ H vs Q E hr h=>?_
 obtain⟨wa,p,n,ts,os,rfl,W,hp,O,k⟩:=h
 obtain⟨ta,tys,hwa,_,_,G⟩:=id W
 have hn1:=G.n1
 have hn24:=G.n24
 have hol:os.length<=24:=by rw[O.ln];omega
 refine⟨_,zP (zB9 (i:=2) scOrd.nd rfl (Or.inr rfl) (zt zAF (pv 0) zj))
  (zP (zA9 (PW.pt (zFI (zCR (zCC (zAL GT hr FT (zD (pv 1) (zD (pv 2) zN)))))
   (zDS (zCR (zCC (zAa (zDB rfl) mAll (zD (zA6 (own:=["place"]) (cn:=["n"]) (ci:=[2]) rfl (csc rfl rfl) ⟨rfl,rfl,rfl,trivial⟩ rfl (zBv (pv 1)) (fun _ _ _ _=>zBr)
    (fun _ _ _ _=>zBH) (fun _ _ _ _=>zAL GP hr FP (zD (pv 1) (zD (pv 0) zN)))) zN))))))) (zZ (zAA zC3)) zAR)
  (zZ (zAA (zBO zBw (zAa zIy mLen (zD (zAm (zIw rfl) mSet (zD (pv 1) zN)) zN)) (pv 2) (zAD _))))),?_⟩
 refine⟨_,rfl,wa,_,_,_,rfl,rfl,SqT.of hwa,rfl,?_⟩
 have hpl:(os.map V.int).length=n:=by rw[zC,O.ln];omega
 refine⟨_,rfl,_,rfl,p,os.map V.int,by rw[hpl];rfl,hp,_,rfl,zDH ?_⟩
 refine⟨_,rfl,p,rfl,⟨_,SqT.of hp⟩,[.int n],rfl,fun D hD=>?_⟩
 refine zBX (a:=p) (xs:=os.map V.int) (fun i ys H4=>i<=os.length/\ys=(List.replicate i true).map V.bl/\H4=upd H D (.lst ys)) ⟨ze _,rfl,rfl⟩ (fun i ys H4 h=>?_) (fun i ys H4 h=>?_) (fun i v ys H4 hv h=>?_) (fun ys H4 h=>?_)
 . obtain⟨_,_,rfl⟩:=h
   exact SqT.of (by rw[za (zn hp hD)];exact hp)
 . obtain⟨hi,rfl,_⟩:=h
   rw[zC,zAB]
   exact zAT (by omega)
 . obtain⟨_,rfl,rfl⟩:=h
   obtain⟨x,hx,rfl⟩:∃x,os[i]? = some x/\V.int x=v:=by
    rw[zM] at hv
    cases e:os[i]? with
    | none=>rw[e] at hv;cases hv
    | some x=>rw[e] at hv;exact⟨x,rfl,zY hv⟩
   have hr':=O.rng x (zO hx)
   refine⟨⟨rfl,rfl⟩,?_⟩
   refine zEO ?_
   refine⟨_,rfl,_,rfl,n,x,rfl,hr'.1,by omega,?_⟩
   refine⟨zJ,(zH.mp hx).1,?_,zB1⟩
   rw[List.replicate_succ',zS];rfl
 . obtain⟨_,rfl,rfl⟩:=h
   refine⟨D,List.replicate (os.map V.int).length true,rfl,SqL.of zJ,_,rfl,?_⟩
   have hall:(List.replicate (os.map V.int).length true).all id=true:=zAv.mpr fun b hb=>(List.mem_replicate.mp hb).2
   rw[hall]
   refine zDH ?_
   have hp5:=zI (o:=.lst ((List.replicate (os.map V.int).length true).map V.bl)) hD _ _ hp
   refine⟨_,rfl,p,os,rfl,SqT.of hp5,by omega,fun d S hd=>?_⟩
   refine⟨d,S,_,rfl,zJ,_,rfl,rfl,?_⟩
   rw[zD4 O.nd os.length (zK _),zb (zK _),zU (by rw[<-hpl,zC])]
   exact k _ ((zI hD).trans (zI hd))
noncomputable def eV (e:En):List V:=[.int e.h,.int e.l,oV e.u,oV e.d]
noncomputable def zBb (H:Hp)(as:List Addr)(es:List En):Prop:=as.length=es.length/\∀(i:Nat)(a:Addr),as[i]? = some a->∃e,es[i]? = some e/\H a=some (.tup (eV e))
noncomputable def zBV (H:Hp)(p:Addr)(es:List En):Prop:=∃as:List Addr,H p=some (.tup (as.map V.ref))/\zBb H as es/\es.length<=1000
variable {as:List Addr}{es:List En}
theorem zBb.keep (h:zBb H as es)(k:∀b ys,H b=some (.tup ys)->H' b=some (.tup ys)):zBb H' as es:=
 ⟨h.1,fun i a ha=>let ⟨e,h1,h2⟩:=h.2 i a ha;⟨e,h1,k _ _ h2⟩⟩
variable {e:En}
theorem zBb.snoc {a:Addr}(h:zBb H as es)(ha:H a=some (.tup (eV e))):zBb H (as++[a]) (es++[e]):=by
 refine⟨by rw[zL,zL,h.1];rfl,fun i b hb=>?_⟩
 by_cases c:i<as.length
 . rw[zW c] at hb
   obtain⟨e',h1,h2⟩:=h.2 i b hb
   exact⟨e',by rw[zW (by rw[<-h.1];exact c)];exact h1,h2⟩
 . rw[zQ (by omega)] at hb
   have hi:i-as.length=0:=by
    cases z:i-as.length with
    | zero=>rfl
    | succ m=>rw[z] at hb;simp at hb
   rw[hi] at hb
   have:a=b:=by simpa using hb
   subst this
   exact⟨e,by rw[zQ (by rw[<-h.1];omega),<-h.1,hi];rfl,ha⟩
theorem zBV.keep {H H':Hp}{p:Addr}{es:List En}(h:zBV H p es)(k:∀b ys,H b=some (.tup ys)->H' b=some (.tup ys)):zBV H' p es:=
 let ⟨as,h1,h2,h3⟩:=h;⟨as,k _ _ h1,h2.keep k,h3⟩
theorem zBV.same (h:zBV H p es)(k:zAi H H'):zBV H' p es:=h.keep fun b ys e=>k _ _ e
theorem zBb.at {H:Hp}{as:List Addr}{es:List En}(h:zBb H as es){i:Nat}{v:V}(hv:(as.map V.ref)[i]? = some v):∃a e,v = .ref a/\es[i]? = some e/\H a=some (.tup (eV e)):=by
 rw[zM] at hv
 cases z:as[i]? with
 | none=>rw[z] at hv;cases hv
 | some a=>
  rw[z] at hv
  obtain⟨e,h1,h2⟩:=h.2 i a z
  exact⟨a,e,(zY hv).symm,h1,h2⟩
noncomputable def zKh:Sp:=fun vs H Q _=>∃(p:Addr)(es:List En)(e:En)(r:List En),vs=[.ref p]/\zBV H p es/\es.filter (fun e=>decide (e.l=0))=e::r/\∀H',zAi H H'->Q (.int e.h) H'
noncomputable def zKg:Sp:=fun vs H Q _=>∃(p q:Addr)(es fs:List En),vs=[.ref p,.ref q]/\zBV H p es/\zBV H q fs/\Hub fs /\
 ∀(r:Addr)(lm:Option (Int×Int))(H':Hp),zAi H H'->zDa (Cd es fs) lm->H' r=some (.tup [oV (lm.map (·.1)),oV (lm.map (·.2))])->Q (.ref r) H'
noncomputable def zE9:Sp:=fun vs H Q _=>∃(p q:Addr)(es fs:List En),vs=[.ref p,.ref q]/\zBV H p es/\zBV H q fs/\Hub fs /\
 ∀(lm:Option (Int×Int))(H':Hp),zAi H H'->zDa (Cd es fs) lm->Q (oV (lm.map (·.1))) H'
noncomputable def spHub:Sp:=fun vs H Q _=>∃(p q:Addr)(es fs:List En),vs=[.ref p,.ref q]/\zBV H p es/\zBV H q fs/\Hub fs /\
 ∀(lm:Option (Int×Int))(H':Hp),zAi H H'->zDa (Cd es fs) lm->Q (oV (lm.map (·.2))) H'
noncomputable def zKm:Sp:=fun vs H Q _=>∃(p:Addr)(es:List En)(x:Int),vs=[.ref p,.int x]/\zBV H p es /\
 (zED es x=none->Q .non H)/\(∀e a,zED es x=some e->H a=some (.tup (eV e))->Q (.ref a) H)
noncomputable def zGM:Sp:=fun vs H Q _=>∃(p q:Addr)(es fs:List En)(e f:En)(r r':List En),vs=[.ref p,.ref q]/\zBV H p es/\zBV H q fs/\Hub es/\Hub fs /\
 es.filter (fun e=>decide (e.l=0))=e::r/\fs.filter (fun e=>decide (e.l=0))=f::r' /\
 ∀(lm:Option (Int×Int))(H':Hp),zAi H H'->zDa (Cd es fs) lm->Q (oV (zHg es fs e.h f.h lm)) H'
theorem zAj {n:Nat}(h:n<=1000):n<sizeLine:=zAU h (by decide)
theorem zHN {b:Int}:decide (V.int a=V.int b)=decide (a=b):=by
 by_cases h:a=b
 . rw[zU h,zU (congrArg V.int h)]
 . rw[zl h,zl fun z=>h (V.int.inj z)]
theorem scOwn:zw ["label"] ["label"] (defScope sOwn):=fS0
theorem zKL (F:Fun K "own_place" "own_place" sOwn f fd'):zAP P w K mg base CX0 1 f fd' ["label"] zKh:=by
 refine F.okD scOwn fun _ A _ _ H vs Q E hr h=>?_
 obtain⟨p,es,e,r,rfl,L,hf,k⟩:=h
 obtain⟨as,hp,EA,hl⟩:=id L
 refine⟨_,zZ (zAA (zt zAZ (zA6 (own:=["hub", "long", "up", "down"]) (cn:=[]) (ci:=[]) rfl (csc rfl rfl) trivial rfl (zBv (pv 0))
  (fun _ _ _ _=>zEp (n:=4) rfl (zu (zBr) (zu (zv (i:=1) (zDZ rfl) rfl (Or.inl rfl)) (zu (zv (i:=2) (zDZ rfl) rfl (Or.inl rfl)) (zu (zv (i:=3) (zDZ rfl) rfl (Or.inl rfl)) zBN)))))
  (fun _ _ _ _=>zCK (zAC zBw (pv 1) zj (zAD _))) (fun _ _ _ _=>pv 0)) zj)),?_⟩
 refine⟨_,rfl,p,rfl,⟨_,SqT.of hp⟩,[],rfl,fun D hD=>?_⟩
 refine zBX (a:=p) (xs:=as.map V.ref) (fun i ys H4=>ys=((es.take i).filter fun e=>decide (e.l=0)).map (fun e=>V.int e.h)/\H4=upd H D (.lst ys)) ⟨rfl,rfl⟩ (fun i ys H4 h=>?_) (fun i ys H4 h=>?_) (fun i v ys H4 hv h=>?_) (fun ys H4 h=>?_)
 . obtain⟨_,rfl⟩:=h
   exact SqT.of (by rw[za (zn hp hD)];exact hp)
 . obtain⟨rfl,_⟩:=h
   rw[zC]
   exact zAU (zAJ _ _) (zAj (by rw[zk];omega))
 . obtain⟨rfl,rfl⟩:=h
   obtain⟨a,x,rfl,hx,ha⟩:=EA.at hv
   refine⟨a,_,rfl,SqT.of (by rw[za (zn ha hD)];exact ha),rfl,_,_,rfl,_,_,rfl,_,_,rfl,_,_,rfl,rfl,⟨rfl,rfl⟩,?_⟩
   refine⟨_,rfl,rfl,_,rfl,?_⟩
   rw[zHN]
   have st:=zFZ (fun e:En=>decide (e.l=0)) hx
   refine zFW (fun c=>?_) (fun c=>?_)
   . refine⟨_,rfl,zJ,?_,zB1⟩
     rw[st,if_pos c,zS];rfl
   . refine⟨?_,rfl⟩
     rw[st,if_neg c,zr]
 . obtain⟨rfl,rfl⟩:=h
   rw[zC,EA.1,zb (zK _),hf]
   exact⟨D,_,_,.int e.h,rfl,rfl,SqL.of zJ,zAe (by decide) rfl,k _ (zI hD)⟩
theorem scEnt:zw ["label", "hub", "entry"] ["label", "hub"] (defScope sEnt):=fS0
theorem zKN (F:Fun K "entry_of" "entry_of" sEnt f fd'):zAP P w K mg base CX0 1 f fd' ["label", "hub"] zKm:=by
 refine F.okD scEnt fun _ A _ _ H vs Q E hr h=>?_
 obtain⟨p,es,x,rfl,L,kn,ks⟩:=h
 obtain⟨as,hp,EA,hl⟩:=id L
 refine⟨_,zP (zBF PassesOwn.never rfl (zBv (pv 0)) (zv (i:=2) scEnt.nd rfl (Or.inl rfl))
  (zZ (zA9 (zAC zBw (zt zAF (pv 2) zj) (pv 1) (zAD _)) (zZ (zAA (pv 2))) zAR)))
  (zZ (zAA zAp)),?_⟩
 refine⟨_,rfl,p,rfl,⟨_,SqT.of hp⟩,zD1 (K:=K) (a:=p) (xs:=as.map V.ref) (fun i σ H2=>∃va:Option V,σ=[some (.ref p),some (.int x),va]/\H2=H/\∀e∈es.take i,e.h≠x)
  ⟨none,rfl,rfl,fun e he=>by simp at he⟩ (fun i σ H2 _ ⟨_,_,e,_⟩=>e ▸ SqT.of hp) ?turn ?after⟩
 case turn=>
  rintro i y σ H2 hi ⟨va,rfl,rfl,hno⟩
  obtain⟨a,e,rfl,he,ha⟩:=EA.at hi
  refine⟨_,rfl,a,_,_,.int e.h,rfl,rfl,SqT.of ha,rfl,_,rfl,rfl,_,rfl,?_⟩
  rw[zHN]
  refine zFW (fun c=>?_) (fun c=>?_)
  . have c':e.h=x:=of_decide_eq_true c
    refine⟨_,rfl,ks e a ?_ ha⟩
    unfold zED
    have hlt:=(zH.mp he).1
    rw[<-List.take_append_drop i es,List.find?_append,List.find?_eq_none.mpr (fun f hf=>by simpa using hno f hf)]
    rw[List.drop_eq_getElem_cons hlt,(zH.mp he).2,zBj,zU c']
    rfl
  . refine⟨_,rfl,rfl,fun f hf=>?_⟩
    rw[zq,he] at hf
    rcases zm.mp hf with z | z
    . exact hno f z
    . have:f=e:=by simpa using z
      subst this
      exact fun q=>c (zU q)
 case after=>
  rintro σ H2 ⟨va,rfl,rfl,hno⟩
  refine kn (zFd.mpr fun e he=>hno e ?_)
  rw[zC,EA.1,zb (zK _)]
  exact he
theorem zKr:zw ["one", "other", "longs", "sums"] ["one", "other"] (defScope sSum):=fS0
theorem zKK (F:Fun K "least_sum" "least_sum" sSum f fd') (mDict:mg "dict" = none) (mMin:mg "min" = none):zAP P w K mg base CX0 1 f fd' ["one", "other"] zKg:=by
 refine F.okD zKr fun _ A _ _ H vs Q E hr h=>?_
 obtain⟨p,q,es,fs,rfl,L1,L2',hF,k⟩:=h
 obtain⟨as,hp,EA,hl⟩:=id L1
 obtain⟨bs,hq,EB,hl2⟩:=id L2'
 have hu:=zHH hr
 refine⟨_,zP (zB9 (i:=2) zKr.nd rfl (Or.inr rfl) (zAm (zHR rfl) mDict (zD
  (zA6 (own:=["hub", "long", "up", "down"]) (cn:=[]) (ci:=[]) rfl (csc rfl rfl) trivial rfl (zBv (pv 1))
   (fun _ _ _ _=>zEp (n:=4) rfl (zu (zBr) (zu (zv (i:=1) (zDZ rfl) rfl (Or.inl rfl)) (zu (zv (i:=2) (zDZ rfl) rfl (Or.inl rfl)) (zu (zv (i:=3) (zDZ rfl) rfl (Or.inl rfl)) zBN)))))
   (fun _ _ _ _=>zBH) (fun _ _ _ _=>zBC (zD (pv 0) (zD (pv 1) zN)))) zN)))
  (zP (zCs (i:=3) (own:=["hub", "long", "up", "down"]) (cn:=["longs"]) (ci:=[2]) zKr.nd rfl (Or.inl rfl) rfl (csc rfl rfl) ⟨rfl,rfl,rfl,trivial⟩ rfl (zBv (pv 0))
   (fun _ _ _ _=>zEp (n:=4) rfl (zu (zBr) (zu (zv (i:=1) (zDZ rfl) rfl (Or.inl rfl)) (zu (zv (i:=2) (zDZ rfl) rfl (Or.inl rfl)) (zu (zv (i:=3) (zDZ rfl) rfl (Or.inl rfl)) zBN)))))
   (fun _ _ _ _=>zCK (zKI (zKJ hu (pv 0) (pv 4)))) (fun _ _ _ _=>zBC (zD (zA5 zB0 (pv 1) (zF4 hu (pv 4) (pv 0) (fun _ _=>rfl))) (zD (pv 0) zN))))
  (zZ (zAA (zF3 rfl hu (by rfl) mMin (zD (pv 3) zN) (zBC (zD zAp (zD zAp zN))))))),?_⟩
 refine⟨_,rfl,q,rfl,⟨_,SqT.of hq⟩,[],rfl,fun D hD=>?_⟩
 refine zBX (a:=q) (xs:=bs.map V.ref) (fun i ys H4=>i<=fs.length/\ys.length=i/\(∀(j:Nat)(y:V),ys[j]? = some y->∃c e,y = .ref c/\fs[j]? = some e/\H4 c=some (.tup [.int e.h,.int e.l]))/\zAi H H4/\H4 D=some (.lst ys)) ⟨ze _,rfl,fun j y z=>by simp at z,zI hD,zJ⟩ (fun i ys H4 h=>?_) (fun i ys H4 h=>?_) (fun i v ys H4 hv h=>?_) (fun ys H4 h=>?_)
 . exact SqT.of (h.2.2.2.1 _ _ hq)
 . exact zAj (by have:=h.1;have:=h.2.1;omega)
 . obtain⟨hi,hyl,hys,s4,hD4⟩:=h
   obtain⟨a,x,rfl,hx,ha⟩:=EB.at hv
   refine⟨a,_,rfl,SqT.of (s4 _ _ ha),rfl,_,_,rfl,_,_,rfl,_,_,rfl,_,_,rfl,rfl,⟨rfl,rfl⟩,?_⟩
   refine zEO ?_
   refine⟨_,rfl,_,rfl,by show 2<=sizeLine;decide,fun c hc=>?_⟩
   have nDc:D≠c:=zn hD4 hc
   refine⟨zI hc _ _ hD4,(zH.mp hx).1,by rw[zL,hyl];rfl,fun j y hy=>?_,zAY (s4.trans (zI hc)) hD,zJ⟩
   by_cases cj:j<i
   . rw[zW (by omega)] at hy
     obtain⟨c',e,h1,h2,h3⟩:=hys j y hy
     refine⟨c',e,h1,h2,?_⟩
     rw[za (zBT h3 hD4 (by intro z;cases z))]
     exact zI hc _ _ h3
   . have ej:j=i:=by
      have:=(zH.mp hy).1
      rw[zL,hyl] at this
      simp at this;omega
     subst ej
     rw[zQ (by omega),hyl,Nat.sub_self] at hy
     have ey:V.ref c=y:=by simpa using hy
     subst ey
     exact⟨c,x,rfl,hx,by rw[za (Ne.symm nDc)];exact zJ⟩
 . obtain⟨_,hyl,hys,s4,hD4⟩:=h
   rw[zC,EB.1] at hyl
   refine⟨D,ys,fs.map fun e=>(Sum.inl e.h,V.int e.l),rfl,SqL.of hD4,⟨by rw[zC,hyl],fun j y hy=>?_⟩,fun dd hdd=>?_⟩
   . obtain⟨c,e,h1,h2,h3⟩:=hys j y hy
     exact⟨c,Sum.inl e.h,.int e.l,h1,h3,by rw[zM,h2];rfl⟩
   have hnd:((fs.map fun e=>((Sum.inl e.h:Key),V.int e.l)).map (·.1)).Nodup:=by
    rw[List.map_map,List.Nodup,zAh]
    exact hF.imp fun h z=>by injection z with z;omega
   rw[zH5 hnd]
   have hval:∀x:Int,zCA (fs.map fun e=>((Sum.inl e.h:Key),V.int e.l)) (Sum.inl x)=(zED fs x).map fun e=>V.int e.l:=fun x=>by
    unfold zCA zED
    rw[List.find?_map,Option.map_map]
    have:((fun kv:Key×V=>decide (kv.1=Sum.inl x))∘fun e:En=>((Sum.inl e.h:Key),V.int e.l))=fun e:En=>decide (e.h=x):=by
     funext e
     show decide ((Sum.inl e.h:Key)=Sum.inl x)=_
     by_cases c:e.h=x
     . rw[zU c,zU (by rw[c])]
     . rw[zl c,zl (by intro z;injection z with z;exact c z)]
    rw[this]
    rfl
   have s5:zAi H (upd H4 dd (.dK (fs.map fun e=>(Sum.inl e.h,V.int e.l)))):=s4.trans (zI hdd)
   have hd5:(upd H4 dd (.dK (fs.map fun e=>((Sum.inl e.h:Key),V.int e.l)))) dd=some (.dK (fs.map fun e=>(Sum.inl e.h,V.int e.l))):=zJ
   generalize upd H4 dd (.dK (fs.map fun e=>((Sum.inl e.h:Key),V.int e.l)))=H5 at s5 hd5 ⊢
   generalize (fs.map fun e=>((Sum.inl e.h:Key),V.int e.l))=kvs at hval hd5
   refine⟨_,rfl,p,rfl,⟨_,SqT.of (s5 _ _ hp)⟩,[.ref dd],rfl,fun D2 hD2=>?_⟩
   refine zBX (a:=p) (xs:=as.map V.ref) (fun i ys H6=>zAd H6 ys (((es.take i).filterMap (cOf fs)).map fun c=>[c.1,c.2])/\zAi H5 H6/\H6 D2=some (.lst ys)) ⟨trivial,zI hD2,zJ⟩ (fun i ys H6 h=>?_) (fun i ys H6 h=>?_) (fun i v ys H6 hv h=>?_) (fun ys H6 h=>?_)
   . exact SqT.of (h.2.1 _ _ (s5 _ _ hp))
   . have:=h.1.length
     rw[this,zC]
     exact zAU (List.length_filterMap_le _ _) (zAj (by rw[zk];omega))
   . obtain⟨T6,s6,hD6⟩:=h
     obtain⟨a,x,rfl,hx,ha⟩:=EA.at hv
     refine⟨a,_,rfl,SqT.of (s6 _ _ (s5 _ _ ha)),rfl,_,_,rfl,_,_,rfl,_,_,rfl,_,_,rfl,rfl,⟨rfl,rfl⟩,?_⟩
     refine⟨_,rfl,_,rfl,dd,_,rfl,zFw.k (k:=Sum.inl x.h) (s6 _ _ hd5),_,rfl,?_⟩
     have st:=zLe (cOf fs) hx
     have hv2:=hval x.h
     cases e:zED fs x.h with
     | none=>
      rw[e] at hv2
      rw[hv2]
      refine zDH ?_
      have ec:cOf fs x=none:=by unfold cOf;rw[e];rfl
      refine⟨?_,s6,hD6⟩
      rw[st,ec]
      simpa using T6
     | some g=>
      rw[e] at hv2
      have hv3:zCA kvs (Sum.inl x.h)=some (.int g.l):=hv2
      rw[hv3]
      refine zEv ?_
      have ec:cOf fs x=some (x.l+g.l,x.h):=by unfold cOf;rw[e];rfl
      refine⟨_,rfl,_,rfl,_,rfl,dd,.int g.l,rfl,hv3 ▸ zFw.k (k:=Sum.inl x.h) (s6 _ _ hd5),_,_,rfl,rfl,_,rfl,by show 2<=sizeLine;decide,fun c hc=>?_⟩
      refine⟨zI hc _ _ hD6,?_,zAY (s6.trans (zI hc)) hD2,zJ⟩
      rw[st,ec,zS]
      refine zAd.snoc (T6.keep fun b zs e=>?_) ⟨c,rfl,?_,by intro z;cases z⟩
      . rw[za (zBT e hD6 (by intro z;cases z))]
        exact zI hc _ _ e
      . rw[za (Ne.symm (zn hD6 hc))]
        exact zJ
   . obtain⟨T6,s6,hD6⟩:=h
     rw[zC,EA.1,zb (zK _)] at T6
     have hmem:=fun c=>zI1 (es:=es) hF c
     generalize es.filterMap (cOf fs)=cs at T6 hmem
     refine⟨_,rfl,_,rfl,by show 2<=sizeLine;decide,fun n hn=>?_⟩
     have s7:zAi H (upd H6 n (.tup [.non,.non])):=(s5.trans s6).trans (zI hn)
     refine⟨D2,ys,rfl,.inl (SqL.of (zI hn _ _ hD6)),fun e0=>?_,.inl ⟨_,T6.keep fun b zs e=>zI hn _ _ e,fun i y kk hy hk hmin=>?_⟩⟩
     . refine k n none _ s7 (fun c z=>?_) zJ
       have:cs=[]:=by
        have:=T6.length
        rw[e0,zC] at this
        exact List.length_eq_zero_iff.mp this.symm
       rw[<-hmem,this] at z
       simp at z
     . obtain⟨a,k',e1,e2,e3,_⟩:=T6.get hy
       rw[hk] at e2
       cases e2
       rw[zM] at hk
       cases ec:cs[i]? with
       | none=>rw[ec] at hk;cases hk
       | some c=>
        rw[ec] at hk
        have ek:[c.1,c.2]=kk:=zY hk
        subst ek e1
        refine k a (some c) _ s7 ⟨(hmem c).mp (zO ec),fun c' hc'=>?_⟩ (zI hn _ _ e3)
        have:=hmin [c'.1,c'.2] (zAI.mpr ⟨c',(hmem c').mpr hc',rfl⟩)
        rw[HT.lexLt_cons] at this
        by_cases q:c'.1=c.1
        . rw[if_pos q,HT.lexLt_cons] at this
          by_cases q2:c'.2=c.2
          . exact .inr ⟨q.symm,by omega⟩
          . rw[if_neg q2] at this
            have:=of_decide_eq_false this
            exact .inr ⟨q.symm,by omega⟩
        . rw[if_neg q] at this
          have:=of_decide_eq_false this
          exact .inl (by omega)
theorem scTold:zw ["one", "other"] ["one", "other"] (defScope zF2):=fS0
variable {fS:Addr}{fdS:FuncData}
theorem zLE (F:Fun K "told" "told" zF2 f fd') (FS:FuB K mg "least_sum" sSum fS fdS ["one","other"]) (mDict:mg "dict" = none) (mMin:mg "min" = none):zAP P w K mg base CX0 2 f fd' ["one", "other"] zE9:=by
 have GS:zAP P w K mg base CX0 1 fS fdS ["one", "other"] zKg:=zKK FS.F mDict mMin
 refine F.okD scTold fun _ A _ _ H vs Q E hr h=>?_
 obtain⟨p,q,es,fs,rfl,L1,L2',hF,k⟩:=h
 refine⟨_,zZ (zAA (zt zAF (zAL GS hr FS (zD (pv 0) (zD (pv 1) zN))) zj)),?_⟩
 refine⟨_,rfl,_,rfl,p,q,es,fs,rfl,L1,L2',hF,fun r lm H' s1 hm hr'=>?_⟩
 exact⟨r,_,_,_,rfl,rfl,SqT.of hr',rfl,k lm H' s1 hm⟩
theorem scHub:zw ["one", "other"] ["one", "other"] (defScope sHub):=fS0
theorem ok_hub (F:Fun K "told_hub" "told_hub" sHub f fd') (FS:FuB K mg "least_sum" sSum fS fdS ["one","other"]) (mDict:mg "dict" = none) (mMin:mg "min" = none):zAP P w K mg base CX0 2 f fd' ["one", "other"] spHub:=by
 have GS:zAP P w K mg base CX0 1 fS fdS ["one", "other"] zKg:=zKK FS.F mDict mMin
 refine F.okD scHub fun _ A _ _ H vs Q E hr h=>?_
 obtain⟨p,q,es,fs,rfl,L1,L2',hF,k⟩:=h
 refine⟨_,zZ (zAA (zt zAF (zAL GS hr FS (zD (pv 0) (zD (pv 1) zN))) zj)),?_⟩
 refine⟨_,rfl,_,rfl,p,q,es,fs,rfl,L1,L2',hF,fun r lm H' s1 hm hr'=>?_⟩
 exact⟨r,_,_,_,rfl,rfl,SqT.of hr',rfl,k lm H' s1 hm⟩
theorem oV_isN:decide (oV o=V.non)=o.isNone:=by
 cases o with
 | none=>exact zU rfl
 | some a=>exact zl (by intro z;cases z)
variable {x:Int}
theorem zBV.ent (L:zBV H p es)(hs:Hub es)(h:zED es x=some e):∃a,H a=some (.tup (eV e)):=by
 obtain⟨as,_,EA,_⟩:=L
 obtain⟨hm,_⟩:=(zBz hs).mp h
 obtain⟨i,hi,ee⟩:=zx hm
 have hi':i<as.length:=by rw[EA.1];exact hi
 obtain⟨e',h1,h2⟩:=EA.2 i as[i] (zB hi')
 rw[zB hi,ee] at h1
 cases h1
 exact⟨_,h2⟩
theorem zKD:zw ["one", "other", "hub"] ["one", "other"] (defScope zG1):=fS0
variable {fO fE:Addr}{fdO fdE:FuncData}
theorem zLG {fH:Addr}{fdH:FuncData}(F:Fun K "next_step" "next_step" zG1 f fd') (FH:FuB K mg "told_hub" sHub fH fdH ["one","other"]) (GH:zAP P w K mg base CX0 2 fH fdH ["one", "other"] spHub)
 (FO:FuB K mg "own_place" sOwn fO fdO ["label"]) (FE:FuB K mg "entry_of" sEnt fE fdE ["label","hub"]):zAP P w K mg base CX0 3 f fd' ["one", "other"] zGM:=by
 have GO:zAP P w K mg base CX0 2 fO fdO ["label"] zKh:=(zKL FO.F).mono (by decide)
 have GE:zAP P w K mg base CX0 2 fE fdE ["label", "hub"] zKm:=(zKN FE.F).mono (by decide)
 refine F.okD zKD fun _ A _ _ H vs Q E hr h=>?_
 obtain⟨p,q,es,fs,e,f,r,r',rfl,L1,L2',hE,hF,fe,ff,k⟩:=h
 refine⟨_,zP (zBA (i:=2) zKD.nd (zAL GH hr FH (zD (pv 0) (zD (pv 1) zN))))
  (zP (zA9 (PW.pt (zFI (zAC zCF (pv 2) zAp (zAD _)) (zDS (zAC zBw (zAL GO hr FO (zD (pv 0) zN)) (zAL GO hr FO (zD (pv 1) zN)) (zAD _))))) (zZ (zAA zAp)) zAR)
  (zP (zA9 (zAC zBw (pv 2) (zAL GO hr FO (zD (pv 0) zN)) (zAD _)) (zZ (zAA (zt zAF (zAL GE hr FE (zD (pv 1) (zD (pv 2) zN))) zj))) zAR)
  (zZ (zAA (zt zAF (zAL GE hr FE (zD (pv 0) (zD (pv 2) zN))) zj))))),?_⟩
 refine⟨_,rfl,_,rfl,p,q,es,fs,rfl,L1,L2',hF,fun lm H1 s1 hm=>?_⟩
 refine⟨_,rfl,rfl,_,rfl,?_⟩
 rw[oV_isN]
 cases lm with
 | none=>exact ifT rfl (ifT rfl (k none H1 s1 hm))
 | some c=>
  refine ifF rfl ?_
  refine⟨_,rfl,p,es,e,r,rfl,L1.same s1,fe,fun H2 s2=>?_⟩
  refine⟨_,rfl,q,fs,f,r',rfl,L2'.same (s1.trans s2),ff,fun H3 s3=>?_⟩
  have s13:zAi H H3:=(s1.trans s2).trans s3
  refine⟨rfl,_,rfl,?_⟩
  rw[zHN]
  refine zFW (fun z=>?_) (fun z=>?_)
  . have z':e.h=f.h:=of_decide_eq_true z
    have:=k (some c) H3 s13 hm
    rw[show zHg es fs e.h f.h (some c)=none by show (if e.h=f.h then _ else _)=_;rw[if_pos z']] at this
    exact this
  . have z':¬ e.h=f.h:=fun y=>z (zU y)
    refine⟨_,rfl,_,rfl,p,es,e,r,rfl,L1.same s13,fe,fun H4 s4=>?_⟩
    have s14:zAi H H4:=s13.trans s4
    have kk:=k (some c) H4 s14 hm
    have e0:zHg es fs e.h f.h (some c)=if c.2=e.h then (zED fs c.2).bind (·.d) else (zED es c.2).bind (·.u):=by show (if e.h=f.h then _ else _)=_;rw[if_neg z']
    rw[e0] at kk
    obtain⟨x,hx,y,hy,hyx,rfl⟩:=hm.1
    refine⟨rfl,_,rfl,?_⟩
    rw[show decide ((oV (Option.map (fun x=>x.2) (some (x.l+y.l,x.h))))=V.int e.h)=decide (x.h=e.h) from zHN]
    have h1:zED es x.h=some x:=(zBz hE).mpr ⟨hx,rfl⟩
    have h2:zED fs x.h=some y:=(zBz hF).mpr ⟨hy,hyx⟩
    refine zFW (fun c1=>?_) (fun c1=>?_)
    . have c1':x.h=e.h:=of_decide_eq_true c1
      obtain⟨a,ha⟩:=(L2'.same s14).ent hF h2
      refine⟨_,rfl,_,rfl,q,fs,x.h,rfl,L2'.same s14,fun n=>?_,fun g b hg hb=>?_⟩
      . rw[h2] at n;cases n
      . rw[h2] at hg;cases hg
        rw[if_pos c1',h2] at kk
        exact⟨b,_,_,oV y.d,rfl,rfl,SqT.of hb,rfl,kk⟩
    . have c1':¬ x.h=e.h:=fun y=>c1 (zU y)
      refine⟨_,rfl,_,rfl,p,es,x.h,rfl,L1.same s14,fun n=>?_,fun g b hg hb=>?_⟩
      . rw[h1] at n;cases n
      . rw[h1] at hg;cases hg
        rw[if_neg c1',h1] at kk
        exact⟨b,_,_,oV x.u,rfl,rfl,SqT.of hb,rfl,kk⟩
noncomputable def rkf (rks:List Int)(p:Int):Int:=rks.getD p.toNat 0
noncomputable def zI7 (ts:List T3)(rk:Int->Int)(h v:Int):Prop:=(∃d,WM.IsD ts h v d)/\∀p,Btw ts h v p->rk h<=rk p
noncomputable def zKY (P:Int->Prop):Option Int->Prop
 | none=>∀p,¬ P p
 | some m=>P m/\∀p,P p->m<=p
theorem zKY.congr {P P':Int->Prop}(e:∀p,P p↔P' p):∀{o:Option Int},zKY P o->zKY P' o
 | none,h=>fun p z=>h p ((e p).mpr z)
 | some _,h=>⟨(e _).mp h.1,fun p z=>h.2 p ((e p).mpr z)⟩
structure zLn (ts:List T3)(n:Int)(rk:Int->Int)(v:Int)(e:En):Prop where
 rng:0<=e.h/\e.h<n
 hub:zI7 ts rk e.h v
 len:WM.IsD ts v e.h e.l
 up:zKY (Nxt ts v e.h) e.u
 dn:zKY (Nxt ts e.h v) e.d
structure zGH (ts:List T3)(n:Int)(rk:Int->Int)(v:Int)(es:List En):Prop where
 hub:Hub es
 ent:∀e∈es,zLn ts n rk v e
 all:∀h,0<=h->h<n->zI7 ts rk h v->∃e∈es,e.h=h
 len:es.length<=24
noncomputable def zBL (H:Hp)(l:Addr)(ess:List (List En)):Prop:=∃as:List Addr,H l=some (.tup (as.map V.ref))/\as.length=ess.length/\∀(i:Nat)(a:Addr),as[i]? = some a->∃es,ess[i]? = some es/\zBV H a es
theorem zBL.keep {H H':Hp}{l:Addr}{ess:List (List En)}(h:zBL H l ess)(k:∀b ys,H b=some (.tup ys)->H' b=some (.tup ys)):zBL H' l ess:=
 let ⟨as,h1,h2,h3⟩:=h;⟨as,k _ _ h1,h2,fun i a ha=>let ⟨es,e1,e2⟩:=h3 i a ha;⟨es,e1,e2.keep k⟩⟩
theorem zCi.at {M:lLO}(RA:zCi H rs M)(RR:Rows ts n M)(h0:0<=x)(h1:x<n) :
 ∃r,(rs.map V.ref)[x.toNat]? = some (.ref r)/\H r=some (.tup ((M.getD x.toNat []).map oV))/\zJE ts n x (M.getD x.toNat []):=by
 have hM:x.toNat<M.length:=by rw[RR.1];omega
 have hr:x.toNat<rs.length:=by rw[RA.1];exact hM
 have e:M[x.toNat]? = some (M.getD x.toNat []):=by rw[zE,zB hM];rfl
 exact⟨rs[x.toNat],by rw[zM,zB hr];rfl,RA.2 _ _ _ (zB hr) e,RR.2 x h0 h1⟩
theorem zCi.same {M:lLO}(h:zCi H rs M)(k:zAi H H'):zCi H' rs M:=⟨h.1,fun i r row a b=>k _ _ (h.2 i r row a b)⟩
variable {xs:List Int}
theorem zIO {K:PySem.W.Frag}{Q:VK}(hp:SqT K H p (xs.map V.int))(h:∀u,zKY (· ∈ xs) u->Q (oV u) H):rMinD K (.ref p) .non H Q:=by
 refine⟨p,_,rfl,.inr hp,fun e=>?_,.inr ⟨xs,rfl,fun n hn hm=>h (some n) ⟨hn,hm⟩⟩⟩
 have:xs=[]:=by simpa using e
 exact h none fun q hq=>by rw[this] at hq;simp at hq
structure zI6 (H:Hp)(rl ra:Addr)(rs:List Addr)(M:lLO)(rks:List Int)(n:Int)(ts:List T3):Prop where
 tab:H rl=some (.tup (rs.map V.ref))
 rows:zCi H rs M
 right:Rows ts n M
 rk:H ra=some (.lst (rks.map V.int))
 rln:rks.length=n.toNat
 web:GW n ts
theorem zI6.same {rl ra:Addr}{M:lLO}{rks:List Int}(L:zI6 H rl ra rs M rks n ts)(k:zAi H H'):zI6 H' rl ra rs M rks n ts:=⟨k _ _ L.tab,L.rows.same k,L.right,k _ _ L.rk,L.rln,L.web⟩
theorem zI6.rank {rl ra:Addr}{M:lLO}{rks:List Int}(L:zI6 H rl ra rs M rks n ts)(h0:0<=x)(h1:x<n):(rks.map V.int)[x.toNat]? = some (.int (rkf rks x)):=by
 have:x.toNat<rks.length:=by rw[L.rln];omega
 rw[zM,zB this]
 unfold rkf
 rw[zE,zB this]
 rfl
noncomputable def zKl:Sp:=fun vs H Q _=>∃(rl ra:Addr)(rs:List Addr)(M:lLO)(rks:List Int)(n:Int)(ts:List T3)(h v:Int),vs=[.ref rl,.ref ra,.int h,.int v]/\zI6 H rl ra rs M rks n ts/\0<=h/\h<n/\0<=v/\v<n /\
 ∀(b:Bool)(H':Hp),zAi H H'->(b=true↔zI7 ts (rkf rks) h v)->Q (.bl b) H'
noncomputable def zKn:Sp:=fun vs H Q _=>∃(wa rl ra:Addr)(rs:List Addr)(M:lLO)(rks:List Int)(n:Int)(ts:List T3)(v h:Int),vs=[.ref wa,.ref rl,.int v,.int h]/\zBs H wa n ts/\zI6 H rl ra rs M rks n ts/\0<=h/\h<n/\0<=v/\v<n/\zI7 ts (rkf rks) h v /\
 ∀(a:Addr)(e:En)(H':Hp),zAi H H'->H' a=some (.tup (eV e))->e.h=h->zLn ts n (rkf rks) v e->Q (.ref a) H'
noncomputable def zKk:Sp:=fun vs H Q _=>∃(wa rl ra:Addr)(rs:List Addr)(M:lLO)(rks:List Int)(n:Int)(ts:List T3)(v:Int),vs=[.ref wa,.ref rl,.ref ra,.int v]/\zBs H wa n ts/\zI6 H rl ra rs M rks n ts/\0<=v/\v<n /\
 ∀(a:Addr)(es:List En)(H':Hp),zAi H H'->zBV H' a es->zGH ts n (rkf rks) v es->Q (.ref a) H'
theorem scIsh:zw ["rows", "ranks", "hub", "place"] ["rows", "ranks", "hub", "place"] (defScope sIsh):=fS0
variable {fB:Addr}{fdB:FuncData}
theorem ok_ish (F:Fun K "is_hub" "is_hub" sIsh f fd') (FB:FuB K mg "between_rows" sBwr fB fdB ["here","there","other"]) (mRange:mg "range" = none) (mTuple:mg "tuple" = none) (mLen:mg "len" = none) (mAll:mg "all" = none) :
 zAP P w K mg base CX0 2 f fd' ["rows", "ranks", "hub", "place"] zKl:=by
 have GB:zAP P w K mg base CX0 1 fB fdB ["here", "there", "other"] spBwr:=ok_bwr FB.F mRange mTuple mLen
 refine F.okD scIsh fun _ A _ _ H vs Q E hr h=>?_
 obtain⟨rl,ra,rs,M,rks,n,ts,h,v,rfl,L,h0,h1,v0,v1,k⟩:=h
 have G:=L.web
 have hn24:=G.n24
 refine⟨_,zP (zA9 (zAC zCF (zt zAF (zt zAF (pv 0) (pv 2)) (pv 3)) zAp (zAD _)) (zZ (zAA zC3)) zAR)
  (zZ (zAA (zAa (zDB rfl) mAll (zD (zA6 (own:=["other"]) (cn:=["ranks", "hub"]) (ci:=[1,2]) rfl (csc rfl rfl) ⟨rfl,rfl,rfl,rfl,rfl,rfl,trivial⟩ rfl
   (zBv (zAL GB hr FB (zD (zt zAF (pv 0) (pv 2)) (zD (zt zAF (pv 0) (pv 3)) (zD (pv 3) zN))))) (fun _ _ _ _=>zBr)
   (fun _ _ _ _=>zBH) (fun _ _ _ _=>zBO zK9 (zt zCU (pv 1) (pv 2)) (zt zCU (pv 1) (pv 0)) (zAD _))) zN)))),?_⟩
 obtain⟨rh,gh,hh,Lh⟩:=L.rows.at L.right h0 h1
 obtain⟨rv,gv,hv,Lv⟩:=L.rows.at L.right v0 v1
 have lhv:=Lh.len v v0 v1
 refine⟨_,rfl,_,rfl,rl,_,_,.ref rh,rfl,rfl,SqT.of L.tab,zAe h0 gh,_,rfl,rh,_,_,oV (fnl (M.getD h.toNat []) v),rfl,rfl,SqT.of hh,zAe v0 (zB8 Lh v0 v1),rfl,_,rfl,?_⟩
 rw[zFN]
 cases ed:fnl (M.getD h.toNat []) v with
 | none=>
  rw[ed] at lhv
  refine zEv ?_
  exact k false H (zAi.refl _) ⟨(fun z=>by cases z),(fun z=>by obtain⟨d,hd⟩:=z.1;exact absurd hd.1 (lhv d))⟩
 | some d=>
  rw[ed] at lhv
  refine zDH ?_
  refine⟨_,rfl,_,rfl,rl,_,_,.ref rh,rfl,rfl,SqT.of L.tab,zAe h0 gh,_,rfl,_,rfl,rl,_,_,.ref rv,rfl,rfl,SqT.of L.tab,zAe v0 gv,_,rfl,rh,rv,n,ts,h,v,_,_,rfl,G,h0,h1,v0,v1,hh,hv,Lh,Lv,fun l xs H1 s1 hl hrise hmem=>?_⟩
  have hxr:∀p∈xs,0<=p/\p<n:=fun p hp=>by
   obtain⟨a,b,ia,_⟩:=(hmem p).mp hp
   exact ia.1.in_ G h0 h1
  have hxl:xs.length<=24:=by
   have:=nd_len (n:=n.toNat) (l:=xs) (hrise.imp fun z=>by omega) fun x hx=>by have:=hxr x hx;omega
   omega
  refine⟨l,rfl,⟨_,SqT.of hl⟩,[.ref ra,.int h],rfl,fun D hD=>?_⟩
  have hra:=s1 _ _ L.rk
  refine zBX (a:=l) (xs:=xs.map V.int) (fun i ys H4=>ys=((xs.take i).map fun p=>decide (rkf rks h<=rkf rks p)).map V.bl/\H4=upd H1 D (.lst ys)) ⟨rfl,rfl⟩ (fun i ys H4 z=>?_) (fun i ys H4 z=>?_) (fun i x ys H4 hx z=>?_) (fun ys H4 z=>?_)
  . obtain⟨_,rfl⟩:=z
    exact SqT.of (by rw[za (zn hl hD)];exact hl)
  . obtain⟨rfl,_⟩:=z
    rw[zC,zC,zk]
    exact zAT (by omega)
  . obtain⟨rfl,rfl⟩:=z
    obtain⟨p,hp,rfl⟩:∃p,xs[i]? = some p/\V.int p=x:=by
     rw[zM] at hx
     cases e:xs[i]? with
     | none=>rw[e] at hx;cases hx
     | some p=>rw[e] at hx;exact⟨p,rfl,zY hx⟩
    have hpr:=hxr p (zO hp)
    have hra4:=zI (o:=.lst (((xs.take i).map fun p=>decide (rkf rks h<=rkf rks p)).map V.bl)) hD _ _ hra
    refine⟨⟨rfl,rfl⟩,?_⟩
    refine zEO ?_
    refine⟨_,rfl,_,rfl,ra,_,_,.int (rkf rks h),rfl,rfl,SqL.of hra4,zAe h0 (L.rank h0 h1),_,rfl,_,rfl,ra,_,_,.int (rkf rks p),rfl,rfl,SqL.of hra4,zAe hpr.1 (L.rank hpr.1 hpr.2),_,_,rfl,rfl,zJ,?_,zB1⟩
    rw[zq,hp,zS,zS];rfl
  . obtain⟨rfl,rfl⟩:=z
    rw[zC,zb (zK _)]
    refine⟨D,_,rfl,SqL.of zJ,?_⟩
    refine k _ _ (s1.trans (zI hD)) ⟨fun z=>⟨⟨d,lhv⟩,fun p hp=>?_⟩,fun z=>zAv.mpr fun b hb=>?_⟩
    . have:=zAv.mp z _ (zAI.mpr ⟨p,(hmem p).mpr hp,rfl⟩)
      exact of_decide_eq_true this
    . obtain⟨p,hp,rfl⟩:=zAI.mp hb
      exact zU (z.2 p ((hmem p).mp hp))
theorem zKu:zw ["web", "rows", "place", "hub", "up", "down"] ["web", "rows", "place", "hub"] (defScope sEbr):=fS0
theorem ok_ebr {fT:Addr}(F:Fun K "entry_by_rows" "entry_by_rows" sEbr f fd') (FN:FuB K mg "next_by_row" sNbr fN fdN ["web","one","there"])
 (FT:FuB K mg "ties_at" zEl fT fdT ["web","place"]) (mSorted:mg "sorted" = none) (mTuple:mg "tuple" = none) (mMin:mg "min" = none):zAP P w K mg base CX0 4 f fd' ["web", "rows", "place", "hub"] zKn:=by
 have GN:zAP P w K mg base CX0 3 fN fdN ["web", "one", "there"] spNbr:=ok_nbr FN.F FT mSorted mTuple
 refine F.okD zKu fun _ A _ _ H vs Q E hr h=>?_
 obtain⟨wa,rl,ra,rs,M,rks,n,ts,v,h,rfl,W,L,h0,h1,v0,v1,hh,k⟩:=h
 have hu:=zHH hr
 refine⟨_,zP (zBA (i:=4) zKu.nd (zF3 rfl hu (by rfl) mMin (zD (zAL GN hr FN (zD (pv 0) (zD (pv 2) (zD (zt zAF (pv 1) (pv 3)) zN)))) zN) zAp))
  (zP (zBA (i:=5) zKu.nd (zF3 rfl hu (by rfl) mMin (zD (zAL GN hr FN (zD (pv 0) (zD (pv 3) (zD (zt zAF (pv 1) (pv 2)) zN)))) zN) zAp))
  (zZ (zAA (zBC (zD (pv 3) (zD (zt zAF (zt zAF (pv 1) (pv 2)) (pv 3)) (zD (pv 4) (zD (pv 5) zN)))))))),?_⟩
 obtain⟨rh,gh,ha,Lh⟩:=L.rows.at L.right h0 h1
 obtain⟨rv,gv,hv,Lv⟩:=L.rows.at L.right v0 v1
 refine⟨_,rfl,_,rfl,_,rfl,_,rfl,rl,_,_,.ref rh,rfl,rfl,SqT.of L.tab,zAe h0 gh,wa,rh,n,ts,v,h,_,rfl,W,v0,v1,h0,h1,ha,Lh,fun l1 xs H1 s1 hl1 _ hm1=>?_⟩
 refine⟨_,rfl,?_⟩
 unfold tC
 refine zIO (SqT.of hl1) fun u hu1=>?_
 have L1:=L.same s1
 refine⟨_,rfl,_,rfl,_,rfl,_,rfl,rl,_,_,.ref rv,rfl,rfl,SqT.of L1.tab,zAe v0 gv,wa,rv,n,ts,h,v,_,rfl,W.keep s1,h0,h1,v0,v1,s1 _ _ hv,Lv,fun l2 ys H2 s2 hl2 _ hm2=>?_⟩
 refine⟨_,rfl,?_⟩
 dsimp only
 refine zIO (SqT.of hl2) fun d hd1=>?_
 have s12:=s1.trans s2
 have L2':=L.same s12
 obtain⟨dd,hdd⟩:=hh.1
 have lv:=Len.uniq (Lv.len h h0 h1) (show Len ts v h (some dd) from WM.IsD.symm hdd)
 refine⟨_,rfl,_,rfl,_,rfl,rl,_,_,.ref rv,rfl,rfl,SqT.of L2'.tab,zAe v0 gv,_,rfl,rv,_,_,.int dd,rfl,rfl,SqT.of (s12 _ _ hv),zAe h0 (by rw[zB8 Lv h0 h1,lv];rfl),_,rfl,_,rfl,by show 4<=sizeLine;decide,fun a ha'=>?_⟩
 exact k a ⟨h,dd,u,d⟩ _ (s12.trans (zI ha')) zJ rfl ⟨⟨h0,h1⟩,hh,WM.IsD.symm hdd,hu1.congr hm1,hd1.congr hm2⟩
variable {d:Int}
theorem zH2 {M:lLO}(R:Rows ts n M)(x0:0<=x)(x1:x<n)(y0:0<=y)(y1:y<n)(h:WM.IsD ts x y d):0<=d/\d<=2376:=by
 have L:=R.2 x x0 x1
 have l:=L.len y y0 y1
 cases e:fnl (M.getD x.toNat []) y with
 | none=>rw[e] at l;exact absurd h.1 (l d)
 | some d'=>
  rw[e] at l
  have ed:d'=d:=WM.IsD.uniq l h
  subst ed
  refine L.bd (some d') ?_ d' rfl
  unfold fnl at e
  rw[if_pos y0,zE] at e
  cases e2:(M.getD x.toNat [])[y.toNat]? with
  | none=>rw[e2] at e;cases e
  | some o=>
   rw[e2] at e
   have eo:o=some d':=e
   rw[<-eo]
   exact zO e2
noncomputable def RkOf (n:Int)(os:List Int)(rk:Int->Int):Prop:=∀p,0<=p->p<n->0<=rk p/\os[(rk p).toNat]? = some p
noncomputable def zDX (ts:List T3)(n:Int)(rk:Int->Int)(ess:List (List En)):Prop:=ess.length=n.toNat/\∀(i:Nat)(es:List En),ess[i]? = some es->zGH ts n rk i es
noncomputable def spByo (PT:Addr):Sp:=fun vs H Q _=>∃(wa p:Addr)(n:Int)(ts:List T3)(os:List Int),vs=[.ref wa,.ref p]/\zBs H wa n ts/\H p=some (.tup (os.map V.int))/\Ordr n os/\Tb H PT /\
 ∀(l:Addr)(ess:List (List En))(rk:Int->Int)(H':Hp),SmT H H'->Tb H' PT->zBL H' l ess->RkOf n os rk->zDX ts n rk ess->(∀es∈ess,∀e∈es,0<=e.l/\e.l<=2376)->Q (.ref l) H'
theorem Ordr.mem {os:List Int}(O:Ordr n os){p:Int}(h0:0<=p)(h1:p<n):p∈os:=by
 apply Classical.byContradiction
 intro hn
 have:=nd_len (n:=n.toNat) (l:=p::os) (zAl.mpr ⟨hn,O.nd⟩) fun x hx=>by
  rcases zi.mp hx with rfl | hx
  . omega
  . have:=O.rng x hx;omega
 rw[zp,O.ln] at this
 omega
theorem scLbr:zw ["web", "rows", "ranks", "place", "hubs"] ["web", "rows", "ranks", "place"] (defScope sLbr):=fS0
variable {fI:Addr}{fdI:FuncData}
theorem ok_lbr (F:Fun K "label_by_ranks" "label_by_ranks" sLbr f fd') (FI:FuB K mg "is_hub" sIsh fI fdI ["rows","ranks","hub","place"]) (GI:zAP P w K mg base CX0 4 fI fdI ["rows", "ranks", "hub", "place"] zKl)
 (FE:FuB K mg "entry_by_rows" sEbr fE fdE ["web","rows","place","hub"]) (GE:zAP P w K mg base CX0 4 fE fdE ["web", "rows", "place", "hub"] zKn) (mRange:mg "range" = none) (mTuple:mg "tuple" = none) :
 zAP P w K mg base CX0 5 f fd' ["web", "rows", "ranks", "place"] zKk:=by
 refine F.okD scLbr fun _ A _ _ H vs Q E hr h=>?_
 obtain⟨wa,rl,ra,rs,M,rks,n,ts,v,rfl,W,L,v0,v1,k⟩:=h
 obtain⟨ta,tys,hwa,_,_,G⟩:=id W
 have hn1:=G.n1
 have hn24:=G.n24
 refine⟨_,zP (zCs (i:=4) (own:=["hub"]) (cn:=["rows", "ranks", "place"]) (ci:=[1,2,3]) scLbr.nd rfl (Or.inl rfl) rfl (csc rfl rfl) ⟨rfl,rfl,rfl,rfl,rfl,rfl,rfl,rfl,rfl,trivial⟩ rfl
  (zAg rfl mRange (zD (zt zAF (pv 0) zj) zN)) (fun _ _ _ _=>zBr)
  (fun _ _ _ _=>zCK (zCC (zAL GI hr FI (zD (pv 1) (zD (pv 2) (zD (pv 0) (zD (pv 3) zN))))))) (fun _ _ _ _=>pv 0))
  (zZ (zAA (zAm zAS mTuple (zD (zA6 (own:=["hub"]) (cn:=["web", "rows", "place"]) (ci:=[0,1,3]) rfl (csc rfl rfl) ⟨rfl,rfl,rfl,rfl,rfl,rfl,rfl,rfl,rfl,trivial⟩ rfl
   (zB2 (pv 4)) (fun _ _ _ _=>zBr) (fun _ _ _ _=>zBH)
   (fun _ _ _ _=>zAL GE hr FE (zD (pv 1) (zD (pv 2) (zD (pv 3) (zD (pv 0) zN)))))) zN)))),?_⟩
 refine⟨_,rfl,wa,_,_,_,rfl,rfl,SqT.of hwa,rfl,n,rfl,by omega,by omega,[.ref rl,.ref ra,.int v],rfl,fun D hD=>?_⟩
 refine zBU (lo:=0) (n:=n.toNat) (fun q ys H3=>q<=n.toNat/\(∃hs:List Int,ys=hs.map V.int/\hs.Pairwise (· < ·)/\∀p,p∈hs↔(0<=p/\p<(q:Int))/\zI7 ts (rkf rks) p v)/\zAi H H3/\H3 D=some (.lst ys)) ⟨ze _,⟨[],rfl,zBk,fun p=>⟨fun z=>by simp at z,fun z=>absurd z.1 (by omega)⟩⟩,zI hD,zJ⟩ (fun q ys H3 z=>?_) (fun q ys H3 hq z=>?_) (fun ys H3 z=>?_)
 . obtain⟨hq,⟨hs,rfl,hp,hm⟩,_⟩:=z
   rw[zC]
   have:=nd_len (n:=q) (l:=hs) (hp.imp fun z=>by omega) fun x hx=>by have:=((hm x).mp hx).1;omega
   exact zAT (by omega)
 . obtain⟨_,⟨hs,rfl,hp,hm⟩,s3,hD3⟩:=z
   rw[zAb]
   refine⟨⟨rfl,rfl⟩,?_⟩
   refine⟨_,rfl,_,rfl,_,rfl,_,rfl,rl,ra,rs,M,rks,n,ts,q,v,rfl,L.same s3,by omega,by omega,v0,v1,fun b H4 s4 hb=>?_⟩
   refine⟨_,rfl,?_⟩
   refine zFW (fun c=>?_) (fun c=>?_)
   . refine⟨_,rfl,s4 _ _ hD3,hq,⟨hs++[(q:Int)],by rw[zS];rfl,List.pairwise_append.mpr ⟨hp,List.pairwise_singleton _ _,fun a ha b hb'=>?_⟩,fun p=>?_⟩,zAY (s3.trans s4) hD,zJ⟩
     . have:b=(q:Int):=by simpa using hb'
       have:=((hm a).mp ha).1
       omega
     . rw[zm,hm]
       constructor
       . rintro (⟨a,b⟩ | a)
         . exact⟨by omega,b⟩
         . have:p=(q:Int):=by simpa using a
           subst this
           exact⟨by omega,hb.mp c⟩
       . rintro ⟨a,b⟩
         by_cases e:p=(q:Int)
         . exact .inr (by simpa using e)
         . exact .inl ⟨by omega,b⟩
   . refine⟨hq,⟨hs,rfl,hp,fun p=>?_⟩,s3.trans s4,s4 _ _ hD3⟩
     rw[hm]
     constructor
     . rintro ⟨a,b⟩;exact⟨by omega,b⟩
     . rintro ⟨a,b⟩
       refine⟨?_,b⟩
       have:p≠(q:Int):=fun z=>by subst z;exact c (hb.mpr b)
       omega
 . obtain⟨_,⟨hs,rfl,hp,hm⟩,s3,hD3⟩:=z
   have hsl:hs.length<=24:=by
    have:=nd_len (n:=n.toNat) (l:=hs) (hp.imp fun z=>by omega) fun x hx=>by have:=((hm x).mp hx).1;omega
    omega
   refine⟨_,rfl,D,rfl,⟨_,SqL.of hD3⟩,[.ref wa,.ref rl,.int v],rfl,fun D2 hD2=>?_⟩
   refine zCN (a:=D) (xs:=hs.map V.int) (fun i ys H5=>i<=hs.length/\(∃(as:List Addr)(es:List En),ys=as.map V.ref/\zBb H5 as es/\es.map (·.h)=hs.take i/\∀e∈es,zLn ts n (rkf rks) v e)/\zAi H3 H5/\H5 D2=some (.lst ys)) ⟨ze _,⟨[],[],rfl,⟨rfl,fun i a z=>by simp at z⟩,rfl,by simp⟩,zI hD2,zJ⟩ (fun i ys H5 z=>?_) (fun i ys H5 z=>?_) (fun i x ys H5 hx z=>?_) (fun ys H5 z=>?_)
   . exact SqL.of (z.2.2.1 _ _ hD3)
   . obtain⟨_,⟨as,es,rfl,EA,em,_⟩,_⟩:=z
     have:=congrArg List.length em
     rw[zC,zk] at this
     rw[zC,EA.1]
     exact zAT (by omega)
   . obtain⟨_,⟨as,es,rfl,EA,em,he⟩,s5,hD5⟩:=z
     obtain⟨p,hpi,rfl⟩:∃p,hs[i]? = some p/\V.int p=x:=by
      rw[zM] at hx
      cases e:hs[i]? with
      | none=>rw[e] at hx;cases hx
      | some p=>rw[e] at hx;exact⟨p,rfl,zY hx⟩
     have hpm:=(hm p).mp (zO hpi)
     have s35:=s3.trans s5
     refine⟨⟨rfl,rfl⟩,?_⟩
     refine zEO ?_
     refine⟨_,rfl,_,rfl,_,rfl,_,rfl,wa,rl,ra,rs,M,rks,n,ts,v,p,rfl,W.keep s35,L.same s35,by omega,by omega,v0,v1,hpm.2,fun a e H6 s6 ha ep he'=>?_⟩
     refine⟨s6 _ _ hD5,(zH.mp hpi).1,⟨as++[a],es++[e],by rw[zS];rfl,(EA.keep fun b zs z=>?_).snoc ?_,?_,fun x hx'=>?_⟩,zAY (s5.trans s6) hD2,zJ⟩
     . rw[za (zBT z hD5 (by intro y;cases y))];exact s6 _ _ z
     . rw[za (zBT ha (s6 _ _ hD5) (by intro y;cases y))];exact ha
     . rw[zS,em,zq,hpi,<-ep];rfl
     . rcases zm.mp hx' with z | z
       . exact he x z
       . have:x=e:=by simpa using z
         subst this;exact he'
   . obtain⟨_,⟨as,es,rfl,EA,em,he⟩,s5,hD5⟩:=z
     rw[zC,zb (zK _)] at em
     have hel:es.length<=24:=by have:=congrArg List.length em;rw[zC] at this;omega
     refine⟨D2,_,rfl,.inl ⟨SqL.of hD5,fun l hl=>?_⟩⟩
     refine k l es _ ((s3.trans s5).trans (zI hl)) ⟨as,zJ,EA.keep fun b zs z=>zI hl _ _ z,by omega⟩ ⟨?_,he,fun h h0 h1 z=>?_,hel⟩
     . have:=hp
       rw[<-em,zAh] at this
       exact this
     . have:h∈es.map (·.h):=by rw[em];exact (hm h).mpr ⟨by omega,z⟩
       obtain⟨e,e1,e2⟩:=zAI.mp this
       exact⟨e,e1,e2⟩
theorem zKv:zw ["web", "order", "rows", "ranks"] ["web", "order"] (defScope sByo):=fS0
variable {fL:Addr}{fdL:FuncData}
theorem ok_byo (F:Fun K "by_order" "by_order" sByo f fd') (FO:FuB K mg "is_order" sOrd fO fdO ["web","thing"]) (GO:zAP P w K mg base CX0 5 fO fdO ["web", "thing"] zKi)
 (FL:FuB K mg "lengths" zHy fL fdL ["web"]) (GL:zAP P w K mg base CX0 5 fL fdL ["web"] (zHm PT))
 (FB:FuB K mg "label_by_ranks" sLbr fB fdB ["web","rows","ranks","place"]) (GB:zAP P w K mg base CX0 5 fB fdB ["web", "rows", "ranks", "place"] zKk) (mRange:mg "range" = none) (mTuple:mg "tuple" = none) :
 zAP P w K mg base CX0 6 f fd' ["web", "order"] (spByo PT):=by
 refine F.okD zKv fun _ A _ _ H vs Q E hr h=>?_
 obtain⟨wa,p,n,ts,os,rfl,W,hp,O,T,k⟩:=h
 obtain⟨ta,tys,hwa,_,_,G⟩:=id W
 have hn1:=G.n1
 have hn24:=G.n24
 refine⟨_,zP (zA9 (zCR (zCC (zAL GO hr FO (zD (pv 0) (zD (pv 1) zN))))) (zZ ps_no) zAR)
  (zP (zB9 (i:=2) zKv.nd rfl (Or.inr rfl) (zAL GL hr FL (zD (pv 0) zN)))
  (zP (zB9 (i:=3) zKv.nd rfl (Or.inr rfl) (zA6 (own:=["place"]) (cn:=["order"]) (ci:=[1]) rfl (csc rfl rfl) ⟨rfl,rfl,rfl,trivial⟩ rfl
   (zAg rfl mRange (zD (zt zAF (pv 0) zj) zN)) (fun _ _ _ _=>zBr) (fun _ _ _ _=>zBH)
   (fun _ _ _ _=>pe_bmT PySem.F.slot_tuple_index PySem.F.type_tuple_index zIM (pv 1) (zD (pv 0) zN))))
  (zZ (zAA (zAm zAS mTuple (zD (zA6 (own:=["place"]) (cn:=["web", "rows", "ranks"]) (ci:=[0,2,3]) rfl (csc rfl rfl) ⟨rfl,rfl,rfl,rfl,rfl,rfl,rfl,rfl,rfl,trivial⟩ rfl
   (zAg rfl mRange (zD (zt zAF (pv 0) zj) zN)) (fun _ _ _ _=>zBr) (fun _ _ _ _=>zBH)
   (fun _ _ _ _=>zAL GB hr FB (zD (pv 1) (zD (pv 2) (zD (pv 3) (zD (pv 0) zN)))))) zN)))))),?_⟩
 refine⟨_,rfl,_,rfl,wa,p,n,ts,os,rfl,W,hp,O,fun H0 s0=>?_⟩
 refine⟨_,rfl,zDH ?_⟩
 refine⟨_,rfl,wa,n,ts,rfl,W.keep s0,T.same s0,fun rl rs M H1 sm1 T1 hrl RA RR=>?_⟩
 have sm01:SmT H H1:=(SmT.of s0).trans sm1
 have hwa1:H1 wa=some (.tup [.int n,.ref ta]):=sm01.get hwa (by intro ps z;cases z)
 have hp1:H1 p=some (.tup (os.map V.int)):=sm01.get hp (by intro ps z;cases z)
 have W1:zBs H1 wa n ts:=W.smT sm01
 refine⟨_,rfl,wa,_,_,_,rfl,rfl,SqT.of hwa1,rfl,n,rfl,by omega,by omega,[.ref p],rfl,fun D hD=>?_⟩
 refine zBU (lo:=0) (n:=n.toNat) (fun q ys H3=>q<=n.toNat/\(∃rk:List Int,ys=rk.map V.int/\rk.length=q/\∀(j:Nat)(x:Int),rk[j]? = some x->0<=x/\os[x.toNat]? = some (j:Int))/\H3=upd H1 D (.lst ys)) ⟨ze _,⟨[],rfl,rfl,fun j x z=>by simp at z⟩,rfl⟩ (fun q ys H3 z=>?_) (fun q ys H3 hq z=>?_) (fun ys H3 z=>?_)
 . obtain⟨_,⟨rk,rfl,hl,_⟩,_⟩:=z
   rw[zC]
   exact zAT (by omega)
 . obtain⟨_,⟨rk,rfl,hl,hrk⟩,rfl⟩:=z
   rw[zAb]
   obtain⟨i,hi,ei⟩:=zx (O.mem (p:=(q:Int)) (by omega) (by omega))
   have hoi:os[i]? = some (q:Int):=by rw[zB hi,ei]
   have hp3:=zI (o:=.lst (rk.map V.int)) hD _ _ hp1
   refine⟨⟨rfl,rfl⟩,?_⟩
   refine zEO ?_
   refine⟨_,rfl,⟨p,_,rfl,hp3⟩,_,rfl,p,os,i,q,rfl,rfl,SqT.of hp3,hoi,fun j hj e=>?_,zJ,hq,⟨rk++[(i:Int)],by rw[zS];rfl,by rw[zL,hl];rfl,fun j x hx=>?_⟩,zB1⟩
   . obtain⟨hj',ej⟩:=zH.mp e
     exact zy.mp (List.nodup_iff_pairwise_ne.mp O.nd) j i hj' hi hj (by rw[ej,ei])
   . by_cases c:j<rk.length
     . rw[zW c] at hx
       exact hrk j x hx
     . have hj:j=q:=by
        have:=(zH.mp hx).1
        rw[zL] at this
        simp at this;omega
       subst hj
       rw[zQ (by omega),hl,Nat.sub_self] at hx
       have:(i:Int)=x:=by simpa using hx
       subst this
       exact⟨by omega,hoi⟩
 . obtain⟨_,⟨rk,rfl,hl,hrk⟩,rfl⟩:=z
   have sD:zAi H1 (upd H1 D (.lst (rk.map V.int))):=zI hD
   have hDr:(upd H1 D (.lst (rk.map V.int))) D=some (.lst (rk.map V.int)):=zJ
   generalize upd H1 D (.lst (rk.map V.int))=H4 at sD hDr ⊢
   have L:zI6 H4 rl D rs M rk n ts:=⟨sD _ _ hrl,RA.same sD,RR,hDr,hl,G⟩
   have W4:=W1.keep sD
   refine⟨_,rfl,wa,_,_,_,rfl,rfl,SqT.of (sD _ _ hwa1),rfl,n,rfl,by omega,by omega,[.ref wa,.ref rl,.ref D],rfl,fun D2 hD2=>?_⟩
   refine zBU (lo:=0) (n:=n.toNat) (fun q ys H5=>q<=n.toNat/\(∃(as:List Addr)(ess:List (List En)),ys=as.map V.ref/\as.length=q/\ess.length=q/\(∀(i:Nat)(a:Addr),as[i]? = some a->∃es,ess[i]? = some es/\zBV H5 a es)/\∀(i:Nat)(es:List En),ess[i]? = some es->zGH ts n (rkf rk) i es)/\zAi H4 H5/\H5 D2=some (.lst ys)) ⟨ze _,⟨[],[],rfl,rfl,rfl,fun i a z=>by simp at z,fun i a z=>by simp at z⟩,zI hD2,zJ⟩ (fun q ys H5 z=>?_) (fun q ys H5 hq z=>?_) (fun ys H5 z=>?_)
   . obtain⟨_,⟨as,ess,rfl,h1,_⟩,_⟩:=z
     rw[zC]
     exact zAT (by omega)
   . obtain⟨_,⟨as,ess,rfl,h1,h2,h3,h4⟩,s5,hD5⟩:=z
     rw[zAb]
     refine⟨⟨rfl,rfl⟩,?_⟩
     refine zEO ?_
     refine⟨_,rfl,_,rfl,_,rfl,_,rfl,wa,rl,D,rs,M,rk,n,ts,q,rfl,W4.keep s5,L.same s5,by omega,by omega,fun a es H6 s6 la lo=>?_⟩
     refine⟨s6 _ _ hD5,hq,⟨as++[a],ess++[es],by rw[zS];rfl,by rw[zL,h1];rfl,by rw[zL,h2];rfl,fun i b hb=>?_,fun i es' he=>?_⟩,zAY (s5.trans s6) hD2,zJ⟩
     . have keep:∀c zs,H6 c=some (.tup zs)->(upd H6 D2 (.lst (as.map V.ref++[.ref a]))) c=some (.tup zs):=fun c zs z=>by rw[za (zBT z (s6 _ _ hD5) (by intro y;cases y))];exact z
       by_cases c:i<as.length
       . rw[zW c] at hb
         obtain⟨es',e1,e2⟩:=h3 i b hb
         exact⟨es',by rw[zW (by omega)];exact e1,(e2.same s6).keep keep⟩
       . have hi:i=q:=by
          have:=(zH.mp hb).1
          rw[zL] at this
          simp at this;omega
         subst hi
         rw[zQ (by omega),h1,Nat.sub_self] at hb
         have:a=b:=by simpa using hb
         subst this
         exact⟨es,by rw[zQ (by omega),h2,Nat.sub_self];rfl,la.keep keep⟩
     . by_cases c:i<ess.length
       . rw[zW c] at he
         exact h4 i es' he
       . have hi:i=q:=by
          have:=(zH.mp he).1
          rw[zL] at this
          simp at this;omega
         subst hi
         rw[zQ (by omega),h2,Nat.sub_self] at he
         have:es=es':=by simpa using he
         subst this
         exact lo
   . obtain⟨_,⟨as,ess,rfl,h1,h2,h3,h4⟩,s5,hD5⟩:=z
     refine⟨D2,_,rfl,.inl ⟨SqL.of hD5,fun l hl'=>?_⟩⟩
     have s6:zAi H1 (upd H5 l (.tup (as.map V.ref))):=(sD.trans s5).trans (zI hl')
     refine k l ess (rkf rk) _ (sm01.trans (SmT.of s6)) (T1.same s6) ⟨as,zJ,by omega,fun i a ha=>?_⟩ (fun p h0 h1'=>?_) ⟨h2,h4⟩ ?bound
     case bound=>
      intro es hes e he
      obtain⟨i,hi,ei⟩:=zx hes
      have EO:=(h4 i es (by rw[zB hi,ei])).ent e he
      exact zH2 RR (by omega) (by omega) EO.rng.1 EO.rng.2 EO.len
     . obtain⟨es,e1,e2⟩:=h3 i a ha
       exact⟨es,e1,e2.same (zI hl')⟩
     . have hlt:p.toNat<rk.length:=by omega
       have e:rk[p.toNat]? = some (rkf rk p):=by
        unfold rkf
        rw[zE,zB hlt];rfl
       obtain⟨a,b⟩:=hrk _ _ e
       exact⟨a,by rw[b,Int.toNat_of_nonneg h0]⟩
structure zHU (ts:List T3)(n:Int)(ess:List (List En)):Prop where
 ln:ess.length=n.toNat
 lg:∀(i:Nat)(es:List En),ess[i]? = some es->LG ts n i es
 cov:∀(i j:Nat)(es fs:List En),ess[i]? = some es->ess[j]? = some fs->CovP ts i j es fs
theorem zKY.some_of {P:Int->Prop}(h:zKY P o){p:Int}(hp:P p):∃m,o=some m/\P m:=by
 cases o with
 | none=>exact absurd hp (h p)
 | some m=>exact⟨m,rfl,h.1⟩
variable {rk:Int->Int}{v:Int}
theorem zGH.lg (G:GW n ts)(L:zGH ts n rk v es)(v0:0<=v)(v1:v<n):LG ts n v es:=by
 refine⟨L.hub,fun e he=>?_,?_⟩
 . have E:=L.ent e he
   refine⟨E.rng,E.len,fun hne=>?_,fun hne=>?_⟩
   . obtain⟨p,hp⟩:=Nxt.exists G E.len (Ne.symm hne)
     exact E.up.some_of hp
   . obtain⟨p,hp⟩:=Nxt.exists G E.len.symm hne
     exact E.dn.some_of hp
 . refine L.all v v0 v1 ⟨⟨0,zCH G v⟩,fun p hp=>?_⟩
   obtain⟨a,b,ia,ib,iab⟩:=hp
   have e0:a+b=0:=iab.uniq (zCH G v)
   have:=ia.1.nn G
   have:=ib.1.nn G
   have:a=0:=by omega
   rw[<-(zBy G ia).mp this]
   exact zBS _
variable {ess:List (List En)}
theorem zDX.good (G:GW n ts){os:List Int}(R:RkOf n os rk)(L:zDX ts n rk ess):zHU ts n ess:=by
 have hln:=L.1
 have inr:∀(i:Nat)(es:List En),ess[i]? = some es->(0:Int)<=i/\(i:Int)<n:=fun i es h=>by
  have:=(zH.mp h).1
  omega
 refine⟨L.1,fun i es h=>(L.2 i es h).lg G (inr i es h).1 (inr i es h).2,fun i j es fs hi hj d hd=>?_⟩
 obtain⟨p,hp,hmin⟩:=zKP (P:=Btw ts i j) rk (rk (i:Int)).toNat i (Btw.self G hd) (zK _)
 have i01:=inr i es hi
 obtain⟨a,b,ia,ib,iab⟩:=id hp
 have prng:=ia.1.in_ G i01.1 i01.2
 have le:∀q,Btw ts i j q->rk p<=rk q:=fun q hq=>by
  obtain⟨a',b',ia',_⟩:=id hq
  have qr:=ia'.1.in_ G i01.1 i01.2
  have h1:=hmin q hq
  have h2:=(R p prng.1 prng.2).1
  have h3:=(R q qr.1 qr.2).1
  omega
 refine⟨p,hp,(L.2 i es hi).all p prng.1 prng.2 ⟨⟨a,ia.symm⟩,fun q hq=>le q (hp.trans hq.symm)⟩,(L.2 j fs hj).all p prng.1 prng.2 ⟨⟨b,ib⟩,fun q hq=>le q (hp.symm.trans hq.symm).symm⟩⟩
theorem zFc:∀(l:List Int)(k:Nat),(l.map V.int).eraseIdx k=(l.eraseIdx k).map V.int
 | [],_=>rfl
 | _::_,0=>rfl
 | x::r,k+1=>by
  show V.int x::(r.map V.int).eraseIdx k=V.int x::(r.eraseIdx k).map V.int
  rw[zFc r k]
theorem zEa:∀{l:List Int}{k:Nat}(h:k<l.length),(l[k]::l.eraseIdx k).Perm l
 | [],_,h=>absurd h (zBB _)
 | _::_,0,_=>List.Perm.refl _
 | x::r,k+1,h=>by
  have hk:k<r.length:=by simpa using h
  show (r[k]::x::r.eraseIdx k).Perm (x::r)
  exact (List.Perm.swap x r[k] _).trans ((zEa hk).cons x)
noncomputable def zHk:Sp:=fun vs H Q _=>∃(t:Addr)(N:Nat)(n:Int),vs=[.ref t,.int n]/\zAO H t N/\N<900000/\1<=n/\n<=24 /\
 ∀(l:Addr)(os:List Int)(H':Hp),H' l=some (.tup (os.map V.int))->Ordr n os->zAO H' t (N+24)->Sm t H H'->Q (.ref l) H'
theorem zEk:zw ["_law_tape_here", "_law_n", "_law_left", "_law_found", "_law_k"] ["_law_tape_here", "_law_n"] (defScope zGR):=fS0
theorem zJj (F:Fun K "_law_order" "_law_order" zGR f fd') (FD:FuB K mg "_law_draw" zEF fD fdD ["_law_tape_here","_law_many"])
 (mLen:mg "len" = none) (mRange:mg "range" = none) (mTuple:mg "tuple" = none) (mList:mg "list" = none):zAP P w K mg base CX0 2 f fd' ["_law_tape_here", "_law_n"] zHk:=by
 have GD:zAP P w K mg base CX0 1 fD fdD ["_law_tape_here", "_law_many"] zEi:=zDc FD.F mLen
 refine F.okD zEk fun _ A _ _ H vs Q E hr h=>?_
 obtain⟨t,N,n,rfl,TT,hN,hn1,hn24,k⟩:=h
 obtain⟨tp,TP⟩:=TT
 refine⟨_,zP (zBA (i:=2) zEk.nd (zIA rfl rfl mList rfl mRange (zD (pv 1) zN)))
  (zP (zBA (i:=3) zEk.nd (zCE zN))
  (zP (zBF PassesOwn.never rfl (zAg rfl mRange (zD (pv 1) zN)) (zv (i:=4) zEk.nd rfl (Or.inl rfl))
   (zZ (zCB (zEG PySem.F.plainAttrs_list PySem.F.slot_list_append PySem.F.type_list_append zBx (pv 3)
    (zD (zEG PySem.F.plainAttrs_list PySem.F.slot_list_pop PySem.F.type_list_pop zJn (pv 2)
     (zD (zAL GD hr FD (zD (pv 0) (zD (zAa zAy mLen (zD (pv 2) zN)) zN))) zN)) zN)))))
  (zZ (zAA (zAm zAS mTuple (zD (pv 3) zN)))))),?_⟩
 refine⟨_,rfl,n,rfl,by omega,by omega,fun lf hlf=>?_⟩
 obtain⟨ns0,sp0,re0,ht0,hp0,_⟩:=id TP
 have nlt:lf≠t:=(zn ht0 hlf).symm
 have nlp:lf≠tp:=(zn hp0 hlf).symm
 refine⟨ze _,fun D hD=>?_⟩
 have nDl:D≠lf:=fun z=>by rw[z,zJ] at hD;cases hD
 have hD0:H D=none:=by rw[za nDl] at hD;exact hD
 have nDt:D≠t:=(zn ht0 hD0).symm
 have nDp:D≠tp:=(zn hp0 hD0).symm
 refine⟨_,rfl,n,rfl,by omega,by omega,zBD (lo:=0) (n:=n.toNat) (fun q σ H2=>∃(v4:Option V)(row left:List Int),σ=[some (.ref t),some (.int n),some (.ref lf),some (.ref D),v4]/\row.length=q/\(row++left).Perm (lowTo n.toNat)/\H2 lf=some (.lst (left.map V.int))/\H2 D=some (.lst (row.map V.int))/\zB4 H2 t tp (N+q)/\Sm t H H2)
  ⟨none,[],lowTo n.toNat,rfl,rfl,List.Perm.refl _,by rw[za nDl.symm,zJ],zJ,TP.keepF (fun o e=>by rw[za nDt.symm,za nlt.symm];exact e) (fun o e=>by rw[za nDp.symm,za nlp.symm];exact e) (by omega),(Sm.laid hlf).chg hD0⟩ ?turn ?after⟩
 case after=>
  rintro σ H2 ⟨v4,row,left,rfl,hl,hp,hlf2,hD2,TP2,s2⟩
  have hleft:left=[]:=by
   have:=hp.length_eq
   rw[zL,zDf,hl] at this
   exact List.length_eq_zero_iff.mp (by omega)
  subst hleft
  rw[zr] at hp
  have nd:row.Nodup:=hp.nodup_iff.mpr ((zDz _).imp fun h=>by omega)
  refine⟨_,rfl,D,_,rfl,.inl ⟨SqL.of hD2,fun l hl'=>?_⟩⟩
  refine k l row _ zJ ⟨hl,nd,fun p hp'=>?_⟩ (zAO.mono (zAO.laid ⟨tp,TP2⟩ hl') (by omega)) (s2.trans (Sm.laid hl'))
  have:=zDd.mp (hp.mem_iff.mp hp')
  omega
 case turn=>
  rintro q σ H2 hq ⟨v4,row,left,rfl,hl,hp,hlf2,hD2,TP2,s2⟩
  have hll:row.length+left.length=n.toNat:=by
   have:=hp.length_eq
   rw[zL,zDf] at this
   exact this
  refine⟨_,rfl,.inl ⟨rfl,_,SqL.of hD2⟩,_,rfl,.inl ⟨rfl,_,SqL.of hlf2⟩,?_⟩
  refine⟨_,rfl,_,rfl,lf,_,rfl,.inl (SqL.of hlf2),t,tp,N+q,_,rfl,TP2,by omega,by rw[zC];omega,by rw[zC];omega,fun rr H3 h0 h1 TP3 e3=>?_⟩
  rw[zC] at h1
  have hlt:rr.toNat<left.length:=by omega
  refine⟨lf,left.map V.int,rr,rr.toNat,.int left[rr.toNat],rfl,rfl,by rw[e3 lf nlt];exact hlf2,by omega,by omega,PySem.StrLaws.seqIndex_nonneg h0 (by rw[zC];omega),by rw[zM,zB hlt];rfl,?_⟩
  rw[zFc left rr.toNat]
  have s3:Sm t H H3:=fun b o nb e=>by rw[e3 b nb];exact s2 b o nb e
  have hlf0:H lf=none:=hlf
  refine⟨D,_,_,rfl,rfl,by rw[za nDl,e3 D nDt];exact hD2,by rw[zC];exact zAT (by omega),?_⟩
  refine⟨_,row++[left[rr.toNat]],left.eraseIdx rr.toNat,rfl,by rw[zL,hl];rfl,?_,by rw[za nDl.symm,zJ],by rw[zS];exact zJ,TP3.keepF (fun o e=>by rw[za nDt.symm,za nlt.symm];exact e) (fun o e=>by rw[za nDp.symm,za nlp.symm];exact e) (by omega),(s3.chg hlf0).chg hD0⟩
  refine List.Perm.trans ?_ hp
  rw[List.append_assoc]
  exact (zEa hlt).append_left row
theorem zCI (a:Int):decide (oV (some a)=V.non)=false:=zl (by intro z;cases z)
noncomputable def spAdd:Sp:=fun vs H Q _=>∃a b:Option Int,vs=[oV a,oV b]/\Q (oV (oadd a b)) H
noncomputable def spLes:Sp:=fun vs H Q _=>∃a b:Option Int,vs=[oV a,oV b]/\Q (oV (oles a b)) H
noncomputable def zCj (H:Hp)(rs:List Addr)(M:lLO):Prop:=rs.length=M.length/\rs.Nodup/\∀(i:Nat)(r:Addr)(row:List (Option Int)),rs[i]? = some r->M[i]? = some row->H r=some (.lst (row.map oV))
theorem zCj.keep {M:lLO}(h:zCj H rs M)(k:∀b ys,H b=some (.lst ys)->b∈rs->H' b=some (.lst ys)):zCj H' rs M:=⟨h.1,h.2.1,fun i r row a b=>k r _ (h.2.2 i r row a b) (zO a)⟩
theorem zCj.get {M:lLO}(h:zCj H rs M)(S:Sqm n M)(ha:0<=a)(ha':a<n):∃r row,rs[a.toNat]? = some r/\M[a.toNat]? = some row/\M.getD a.toNat []=row/\row.length=n.toNat/\H r=some (.lst (row.map oV))/\∀y,fnl row y=mat M a y:=by
 obtain⟨row,h1,h2,h3⟩:=S.row ha ha'
 have hl:a.toNat<rs.length:=by rw[h.1,S.ln];omega
 exact⟨rs[a.toNat],row,zB hl,h1,h2,h3,h.2.2 _ _ _ (zB hl) h1,fun y=>by unfold mat;rw[if_pos ha,h2]⟩
theorem zCj.set {H:Hp}{rs:List Addr}{M:lLO}{n a b:Int}{v:Option Int}{r:Addr}{row:List (Option Int)}(h:zCj H rs M)(S:Sqm n M)(ha:0<=a)(ha':a<n)(h1:rs[a.toNat]? = some r)(h2:M[a.toNat]? = some row) :
 zCj (upd H r (.lst ((row.map oV).set b.toNat (oV v)))) rs (zHV M a b v):=by
 refine⟨by unfold zHV;rw[zAs];exact h.1,h.2.1,fun i r' row' a1 a2=>?_⟩
 unfold zHV at a2
 rw[List.getElem?_set] at a2
 have hlt:a.toNat<M.length:=(zH.mp h2).1
 by_cases e:a.toNat=i
 . subst e
   rw[if_pos rfl,if_pos hlt] at a2
   rw[h1] at a1
   cases a1
   cases a2
   rw[zJ,zE,h2,Option.getD_some,List.map_set]
 . rw[if_neg e] at a2
   have hne:r'≠r:=fun z=>by
    subst z
    exact e ((List.getElem?_inj ((zH.mp h1).1) h.2.1).mp (h1.trans a1.symm))
   rw[za hne]
   exact h.2.2 i r' row' a1 a2
theorem zGS {row:List (Option Int)}(hl:row.length=n.toNat)(h0:0<=y)(h1:y<n):atI (row.map oV) y=some (oV (fnl row y)):=by
 have hlt:y.toNat<row.length:=by omega
 refine zAe h0 ?_
 rw[zM,zB hlt]
 unfold fnl
 rw[if_pos h0,zE,zB hlt];rfl
noncomputable def zH3 (a:Int)(j:Nat):List (Option Int):=(List.range j).map fun (b:Nat)=>if a=(b:Int) then some 0 else none
theorem zFF (a:Int)(j:Nat):zH3 a (j+1)=zH3 a j++[if a=(j:Int) then some 0 else none]:=by unfold zH3;rw[List.range_succ,zS];rfl
theorem zGT (a:Int)(j:Nat):(zH3 a j).length=j:=by unfold zH3;rw[zC,zAQ]
theorem zJS (h0:0<=y)(h1:y<j):fnl (zH3 a j) y=if a=y then some 0 else none:=by
 unfold fnl zH3
 rw[if_pos h0,zE,zM,List.getElem?_range (by omega)]
 show (if a=((y.toNat:Nat):Int) then some 0 else none)=_
 rw[show ((y.toNat:Nat):Int)=y by omega]
noncomputable def spFar:Sp:=fun vs H Q _=>∃(wa:Addr)(n:Int)(ts:List T3),vs=[.ref wa]/\zBs H wa n ts /\
 ∀(fl:Addr)(rs:List Addr)(M:lLO)(H':Hp),zAi H H'->H' fl=some (.lst (rs.map V.ref))->zCj H' rs M->Rows ts n M->Q (.ref fl) H'
theorem scAdd:zw ["_law_one", "_law_other"] ["_law_one", "_law_other"] (defScope sAdd):=fS0
theorem ok_add (F:Fun K "_law_added" "_law_added" sAdd f fd'):zAP P w K mg base CX0 1 f fd' ["_law_one", "_law_other"] spAdd:=by
 refine F.okD scAdd fun _ A _ _ H vs Q E hr h=>?_
 obtain⟨a,b,rfl,k⟩:=h
 refine⟨_,zZ (zAA (zC2 (PW.pt (zFI (zAC zCF (pv 0) zAp (zAD _)) (zDS (zAC zCF (pv 1) zAp (zAD _))))) zAp (zA5 zB0 (pv 0) (pv 1)))),?_⟩
 cases a with
 | none=>exact⟨_,rfl,rfl,_,rfl,ifT (zU rfl) (ifT rfl k)⟩
 | some a=>
  refine⟨_,rfl,rfl,_,rfl,ifF (zCI a) ?_⟩
  cases b with
  | none=>exact⟨_,rfl,rfl,_,rfl,ifT (zU rfl) k⟩
  | some b=>exact⟨_,rfl,rfl,_,rfl,ifF (zCI b) ⟨_,rfl,_,rfl,a,b,rfl,rfl,k⟩⟩
theorem scLes:zw ["_law_one", "_law_other"] ["_law_one", "_law_other"] (defScope sLes):=fS0
theorem ok_les (F:Fun K "_law_lesser" "_law_lesser" sLes f fd') (mMin:mg "min" = none):zAP P w K mg base CX0 1 f fd' ["_law_one", "_law_other"] spLes:=by
 refine F.okD scLes fun _ A _ _ H vs Q E hr h=>?_
 obtain⟨a,b,rfl,k⟩:=h
 refine⟨_,zP (zA9 (PW.pt (zFI (zAC zCF (pv 0) zAp (zAD _)) (zDS (zAC zCF (pv 1) zAp (zAD _))))) (zZ (zAA (zC2 (zAC zCF (pv 0) zAp (zAD _)) (pv 1) (pv 0)))) zAR)
  (zZ (zAA (zAa (zFo rfl) mMin (zD (pv 0) (zD (pv 1) zN))))),?_⟩
 cases a with
 | none=>exact⟨_,rfl,rfl,_,rfl,ifT (zU rfl) (ifT rfl ⟨_,rfl,rfl,_,rfl,ifT (zU rfl) ⟨_,rfl,k⟩⟩)⟩
 | some a=>
  refine⟨_,rfl,rfl,_,rfl,ifF (zCI a) ?_⟩
  cases b with
  | none=>exact⟨_,rfl,rfl,_,rfl,ifT (zU rfl) ⟨_,rfl,rfl,_,rfl,ifF (zCI a) ⟨_,rfl,k⟩⟩⟩
  | some b=>exact⟨_,rfl,rfl,_,rfl,ifF (zCI b) ⟨_,rfl,_,rfl,a,b,rfl,k⟩⟩
theorem zDj:zw ["_law_web_here", "_law_n", "_law_ties", "_law_far_here", "_law_a", "_law_b", "_law_long", "_law_k", "_law_way"] ["_law_web_here"] (defScope sFar):=fS0
variable {fA:Addr}{fdA:FuncData}
theorem ok_far (F:Fun K "_law_far" "_law_far" sFar f fd') (FA:FuB K mg "_law_added" sAdd fA fdA ["_law_one","_law_other"])
 (FL:FuB K mg "_law_lesser" sLes fL fdL ["_law_one","_law_other"]) (mRange:mg "range" = none) (mMin:mg "min" = none):zAP P w K mg base CX0 2 f fd' ["_law_web_here"] spFar:=by
 have GA:zAP P w K mg base CX0 1 fA fdA ["_law_one", "_law_other"] spAdd:=ok_add FA.F
 have GL:zAP P w K mg base CX0 1 fL fdL ["_law_one", "_law_other"] spLes:=ok_les FL.F mMin
 refine F.okD zDj fun _ A _ _ H vs Q E hr h=>?_
 obtain⟨wa,n,ts,rfl,W,k⟩:=h
 obtain⟨ta,tys,hwa,hta,TA,G⟩:=id W
 have hn1:=G.n1
 have hn24:=G.n24
 refine⟨_,zP (zCp (pv 0) (zCD rfl (zu (zv (i:=1) zDj.nd rfl (Or.inr rfl)) (zu (zv (i:=2) zDj.nd rfl (Or.inl rfl)) zBN))))
  (zP (zJZ (yc := "_law_a") (i:=3) (own:=["_law_a"]) (cn:=["_law_n"]) (ci:=[1]) zDj.nd rfl (Or.inl rfl) rfl (csc1 rfl (fun _ _=>rfl) rfl rfl) ⟨rfl,rfl,rfl,trivial⟩ rfl
   (zAg rfl mRange (zD (pv 1) zN)) (fun _ _ _ _=>zv (i:=0) (zDZ rfl) rfl (Or.inr rfl)) (fun _ _ _ _=>zBH)
   (fun _ _ _ _=>zA6 (own:=["_law_b"]) (cn:=["_law_a"]) (ci:=[0]) rfl (csc rfl rfl) ⟨rfl,rfl,rfl,trivial⟩ rfl
    (zAg rfl mRange (zD (pv 1) zN)) (fun _ _ _ _=>zBr) (fun _ _ _ _=>zBH)
    (fun _ _ _ _=>zC2 (zAC zBw (pv 1) (pv 0) (zAD _)) zj zAp)))
  (zP (zBF PassesOwn.never rfl (zBv (pv 2)) (zCD rfl (zu (zv (i:=4) zDj.nd rfl (Or.inl rfl)) (zu (zv (i:=5) zDj.nd rfl (Or.inl rfl)) (zu (zv (i:=6) zDj.nd rfl (Or.inl rfl)) zBN))))
   (zP (zCp (pv 6) (zC1 (zt zAZ (pv 3) (pv 4)) (pv 5) zCG))
   (zZ (zCp (pv 6) (zC1 (zt zAZ (pv 3) (pv 5)) (pv 4) zCG)))))
  (zP (zBF PassesOwn.never rfl (zAg rfl mRange (zD (pv 1) zN)) (zv (i:=7) zDj.nd rfl (Or.inl rfl))
   (zZ (zBF PassesOwn.never rfl (zAg rfl mRange (zD (pv 1) zN)) (zv (i:=4) zDj.nd rfl (Or.inl rfl))
    (zZ (zBF PassesOwn.never rfl (zAg rfl mRange (zD (pv 1) zN)) (zv (i:=5) zDj.nd rfl (Or.inl rfl))
     (zP (zBA (i:=8) zDj.nd (zAL GA hr FA (zD (zt zAZ (zt zAZ (pv 3) (pv 4)) (pv 7)) (zD (zt zAZ (zt zAZ (pv 3) (pv 7)) (pv 5)) zN))))
     (zZ (zCp (zAL GL hr FL (zD (zt zAZ (zt zAZ (pv 3) (pv 4)) (pv 5)) (zD (pv 8) zN))) (zC1 (zt zAZ (pv 3) (pv 4)) (pv 5) zCG)))))))))
  (zZ (zAA (pv 3)))))),?_⟩
 refine⟨_,rfl,wa,_,rfl,SqT.of hwa,rfl,_,_,rfl,_,_,rfl,rfl,?_⟩
 refine⟨_,rfl,n,rfl,by omega,by omega,[.int n],rfl,fun D hD=>?_⟩
 refine zBU (lo:=0) (n:=n.toNat) (fun q ys H1=>q<=n.toNat/\∃(rs:List Addr)(M:lLO),ys=rs.map V.ref/\rs.length=q/\zCj H1 rs M/\(∀x:Nat,x<q->M[x]? = some (zH3 x n.toNat))/\(∀r∈rs,H r=none/\r≠D)/\zAi H H1/\H1 D=some (.lst ys))
  ⟨ze _,[],[],rfl,rfl,⟨rfl,List.nodup_nil,fun i r row h=>by simp at h⟩,fun x hx=>absurd hx (zBB _),fun r h=>by simp at h,zI hD,zJ⟩ (fun q ys H1 h=>?_) (fun q ys H1 hq h=>?_) (fun ys H1 h=>?_)
 . obtain⟨hq,rs,M,rfl,hl,_⟩:=h
   rw[zC,hl]
   exact zAT (by omega)
 . obtain⟨_,rs,M,rfl,hl,R,L,fr,sm,hD1⟩:=h
   rw[zAb]
   refine⟨⟨rfl,rfl⟩,?_⟩
   refine zEO ?_
   refine⟨_,rfl,n,rfl,by omega,by omega,[.int q],rfl,fun D2 hD2=>?_⟩
   have nD2:D2≠D:=fun z=>by rw[z,hD1] at hD2;cases hD2
   refine zBU (lo:=0) (n:=n.toNat) (fun j ys H2=>j<=n.toNat/\ys=(zH3 q j).map oV/\zAi H1 H2/\H2 D2=some (.lst ys))
    ⟨ze _,rfl,zI hD2,zJ⟩ (fun j ys H2 h=>?_) (fun j ys H2 hj h=>?_) (fun ys H2 h=>?_)
   . obtain⟨hj,rfl,_⟩:=h
     rw[zC,zGT]
     exact zAT (by omega)
   . obtain⟨_,rfl,s2,h2⟩:=h
     rw[zAb]
     refine⟨⟨rfl,rfl⟩,?_⟩
     refine zEO ?_
     refine⟨_,rfl,_,rfl,rfl,_,rfl,?_⟩
     by_cases e:(q:Int)=(j:Int)
     . refine ifT (zU (congrArg V.int e)) ?_
       refine⟨h2,hj,?_,zAY s2 hD2,zJ⟩
       rw[zFF,if_pos e,zS];rfl
     . refine ifF (zl fun z=>e (V.int.inj z)) ?_
       refine⟨h2,hj,?_,zAY s2 hD2,zJ⟩
       rw[zFF,if_neg e,zS];rfl
   . obtain⟨_,rfl,s2,h2⟩:=h
     have hD22:H2 D=some (.lst (rs.map V.ref)):=s2 _ _ hD1
     have frD2:H D2=none:=by
      cases z:H D2 with
      | none=>rfl
      | some o=>rw[sm _ _ z] at hD2;cases hD2
     have nin:D2∉rs:=fun z=>by
      obtain⟨i,hi,e⟩:=zx z
      have hM:i<M.length:=by rw[<-R.1];exact hi
      have:=R.2.2 i D2 M[i] (by rw[zB hi,e]) (zB hM)
      rw[hD2] at this;cases this
     refine⟨hD22,hq,rs++[D2],M++[zH3 q n.toNat],by rw[zS];rfl,by rw[zL,hl];rfl,⟨by rw[zL,zL,R.1];rfl,?_,fun i r row h1 h3=>?_⟩,fun x hx=>?_,fun r hr'=>?_,zAY (sm.trans s2) hD,zJ⟩
     . exact List.nodup_append.mpr ⟨R.2.1,by simp,fun a ha b hb=>by
        have e:b=D2:=by simpa using hb
        rw[e];exact fun z=>nin (z ▸ ha)⟩
     . have key:H2 r=some (.lst (row.map oV))/\r≠D:=by
        by_cases hi:i<rs.length
        . rw[zW hi] at h1
          rw[zW (by rw[<-R.1];exact hi)] at h3
          exact⟨s2 _ _ (R.2.2 i r row h1 h3),(fr r (zO h1)).2⟩
        . rw[zQ (by omega)] at h1
          rw[zQ (by rw[<-R.1];omega),<-R.1] at h3
          cases hz:i-rs.length with
          | zero=>
           rw[hz] at h1 h3
           have e1:D2=r:=by simpa using h1
           have e2:zH3 q n.toNat=row:=by simpa using h3
           subst e1 e2
           exact⟨h2,nD2⟩
          | succ k=>rw[hz] at h1;simp at h1
       rw[za key.2]
       exact key.1
     . by_cases hx':x<q
       . rw[zW (by rw[<-R.1,hl];exact hx')]
         exact L x hx'
       . have e:x=q:=by omega
         subst e
         rw[zQ (by rw[<-R.1,hl];exact zK _),<-R.1,hl]
         simp
     . rcases zm.mp hr' with z | z
       . exact fr r z
       . have e:r=D2:=by simpa using z
         rw[e];exact⟨frD2,nD2⟩
 . obtain⟨_,rs,M,rfl,hl,R,L,fr,sm,hD1⟩:=h
   have hML:M.length=n.toNat:=by rw[<-R.1,hl]
   have S0:Sqm n M:=⟨hML,fun r hr'=>by
    obtain⟨i,hi,e⟩:=zx hr'
    have:=L i (by omega)
    rw[zB hi,e] at this
    rw[zY this,zGT]⟩
   have M0:∀x y,0<=x->x<n->0<=y->y<n->mat M x y=if x=y then some 0 else none:=fun x y hx hx' hy hy'=>by
    unfold mat
    rw[if_pos hx,zE,L x.toNat (by omega),Option.getD_some,zJS hy (by omega),show ((x.toNat:Nat):Int)=x by omega]
   have wr:∀{H2:Hp}{r:Addr}{o:HO},r∈rs->zAi H H2->zAi H (upd H2 r o):=fun {H2 r o} hr' s2=>zAY s2 (fr r hr').1
   have wD:∀{H2:Hp}{r:Addr}{o:HO},r∈rs->H2 D=some (.lst (rs.map V.ref))->(upd H2 r o) D=some (.lst (rs.map V.ref)):=fun {H2 r o} hr' e=>by rw[za (fr r hr').2.symm];exact e
   refine⟨_,rfl,ta,rfl,⟨_,SqT.of (sm _ _ hta)⟩,zD1 (K:=K) (a:=ta) (xs:=tys)
    (fun i σ H2=>∃(v4 v5 v6 v7 v8:Option V)(M:lLO),σ=[some (.ref wa),some (.int n),some (.ref ta),some (.ref D),v4,v5,v6,v7,v8]/\zAi H H2/\H2 D=some (.lst (rs.map V.ref))/\zCj H2 rs M/\Sqm n M/\Ft (ts.take i) n (mat M))
    ⟨_,_,_,_,_,M,rfl,sm,hD1,R,S0,by rw[List.take_zero];exact Ft.nil n M0⟩ (fun i σ H2 _ ⟨_,_,_,_,_,_,_,s,_⟩=>SqT.of (s _ _ hta)) ?turn1 ?after1⟩
   case turn1=>
    rintro i y σ H2 hi ⟨v4,v5,v6,v7,v8,M2,rfl,s2,hD2,R2,S2,T2⟩
    obtain⟨ya,ky,rfl,hky,hya,_⟩:=TA.get hi
    rw[zM] at hky
    obtain⟨⟨a,b,c⟩,hti,rfl⟩:∃t:T3,ts[i]? = some t/\tl t=ky:=by
     cases e:ts[i]? with
     | none=>rw[e] at hky;cases hky
     | some t=>rw[e] at hky;exact⟨t,rfl,zY hky⟩
    have hm:=zO hti
    have hr3:=G.rng _ hm
    simp only at hr3
    obtain⟨ra,rowa,a1,a2,a3,a4,a5,_⟩:=R2.get S2 (a:=a) (by omega) (by omega)
    have ma:=zO a1
    refine⟨ya,_,rfl,SqT.of (s2 _ _ hya),rfl,_,_,rfl,_,_,rfl,_,_,rfl,rfl,?_⟩
    refine⟨_,rfl,_,rfl,_,rfl,D,_,_,.ref ra,rfl,rfl,SqL.of hD2,zAe (by omega) (by rw[zM,a1];rfl),_,rfl,ra,_,b,b.toNat,rfl,rfl,a5,zEY (by omega) (by rw[zC,a4];omega),?_⟩
    have R3:zCj (upd H2 ra (.lst ((rowa.map oV).set b.toNat (.int c)))) rs (zHV M2 a b (some c)):=R2.set S2 (v:=some c) (by omega) (by omega) a1 a2
    have S3:Sqm n (zHV M2 a b (some c)):=S2.set (by omega) (by omega)
    have s3:=wr (o:=.lst ((rowa.map oV).set b.toNat (.int c))) ma s2
    have hD3:=wD (o:=.lst ((rowa.map oV).set b.toNat (.int c))) ma hD2
    generalize upd H2 ra (.lst ((rowa.map oV).set b.toNat (.int c)))=H3 at R3 s3 hD3 ⊢
    obtain⟨rb,rowb,b1,b2,b3,b4,b5,_⟩:=R3.get S3 (a:=b) (by omega) (by omega)
    have mb:=zO b1
    refine⟨_,rfl,_,rfl,_,rfl,D,_,_,.ref rb,rfl,rfl,SqL.of hD3,zAe (show 0<=b by omega) (by rw[zM,b1];rfl),_,rfl,rb,_,a,a.toNat,rfl,rfl,b5,zEY (by omega) (by rw[zC,b4];omega),?_⟩
    have R4:zCj (upd H3 rb (.lst ((rowb.map oV).set a.toNat (.int c)))) rs (zHV (zHV M2 a b (some c)) b a (some c)):=R3.set S3 (v:=some c) (by omega) (by omega) b1 b2
    refine⟨_,_,_,_,_,_,rfl,wr mb s3,wD mb hD3,R4,S3.set (by omega) (by omega),?_⟩
    have hsp:ts=ts.take i++(a,b,c)::ts.drop (i+1):=by
     have hil:=(zH.mp hti)
     conv=>lhs;rw[<-List.take_append_drop i ts,List.drop_eq_getElem_cons hil.1,hil.2]
    have htk:ts.take (i+1)=ts.take i++[(a,b,c)]:=by rw[zq,hti];rfl
    rw[htk]
    refine (Ft.put (post:=ts.drop (i+1)) (by rw[<-hsp];exact G) T2).congr fun x y hx hx' hy hy'=>?_
    rw[zF9 S3 (by omega) (by omega) (by omega) (by omega) hx hx',zF9 S2 (by omega) (by omega) (by omega) (by omega) hx hx']
   case after1=>
    rintro σ H2 ⟨v4,v5,v6,v7,v8,M2,rfl,s2,hD2,R2,S2,T2⟩
    have hlt:tys.length=ts.length:=by rw[TA.length,zC]
    rw[hlt,List.take_length] at T2
    have FC:=T2.fw G
    refine⟨_,rfl,n,rfl,by omega,by omega,zBD (lo:=0) (n:=n.toNat)
     (fun kk σ H3=>∃(v4 v5 v6 v7 v8:Option V)(M:lLO),σ=[some (.ref wa),some (.int n),some (.ref ta),some (.ref D),v4,v5,v6,v7,v8]/\zAi H H3/\H3 D=some (.lst (rs.map V.ref))/\zCj H3 rs M/\Sqm n M/\Fw ts n (mat M)/\Cov ts n (kk:Int) (mat M))
     ⟨_,_,_,_,_,M2,rfl,s2,hD2,R2,S2,FC.1,FC.2⟩ ?turn2 ?after2⟩
    case after2=>
     rintro σ H3 ⟨v4,v5,v6,v7,v8,M3,rfl,s3,hD3,R3,S3,f3,c3⟩
     rw[show ((n.toNat:Nat):Int)=n by omega] at c3
     exact⟨_,rfl,k D rs M3 H3 s3 hD3 R3 (zKy G S3 f3 c3)⟩
    case turn2=>
     rintro kk σ H3 hkk ⟨v4,v5,v6,v7,v8,M3,rfl,s3,hD3,R3,S3,f3,c3⟩
     rw[zAb]
     refine⟨_,rfl,n,rfl,by omega,by omega,zBD (lo:=0) (n:=n.toNat)
      (fun aa σ H4=>∃(v4 v5 v6 v8:Option V)(M:lLO),σ=[some (.ref wa),some (.int n),some (.ref ta),some (.ref D),v4,v5,v6,some (.int (kk:Int)),v8]/\zAi H H4/\H4 D=some (.lst (rs.map V.ref))/\zCj H4 rs M/\Sqm n M/\Fm ts n (kk:Int) (mat M) (fun x _=>x<(aa:Int)))
      ⟨_,_,_,_,M3,rfl,s3,hD3,R3,S3,(Fm.enter f3 c3).congr (fun _ _ _ _ _ _=>rfl) fun x y hx _ _ _ z=>by omega⟩ ?turn3 ?after3⟩
     case after3=>
      rintro σ H4 ⟨v4,v5,v6,v8,M4,rfl,s4,hD4,R4,S4,F4⟩
      have fc:=F4.leave fun x y _ hx' _ _=>by omega
      exact⟨_,_,_,_,_,M4,rfl,s4,hD4,R4,S4,fc.1,fc.2⟩
     case turn3=>
      rintro aa σ H4 haa ⟨v4,v5,v6,v8,M4,rfl,s4,hD4,R4,S4,F4⟩
      rw[zAb]
      refine⟨_,rfl,n,rfl,by omega,by omega,zBD (lo:=0) (n:=n.toNat)
       (fun bb σ H5=>∃(v5 v6 v8:Option V)(M:lLO),σ=[some (.ref wa),some (.int n),some (.ref ta),some (.ref D),some (.int (aa:Int)),v5,v6,some (.int (kk:Int)),v8]/\zAi H H5/\H5 D=some (.lst (rs.map V.ref))/\zCj H5 rs M/\Sqm n M/\Fm ts n (kk:Int) (mat M) (fun x y=>x<(aa:Int)\/(x=(aa:Int)/\y<(bb:Int))))
       ⟨_,_,_,M4,rfl,s4,hD4,R4,S4,F4.congr (fun _ _ _ _ _ _=>rfl) fun x y _ _ hy _ z=>by omega⟩ ?turn4 ?after4⟩
      case after4=>
       rintro σ H5 ⟨v5,v6,v8,M5,rfl,s5,hD5,R5,S5,F5⟩
       exact⟨_,_,_,_,M5,rfl,s5,hD5,R5,S5,F5.congr (fun _ _ _ _ _ _=>rfl) fun x y _ _ _ hy' z=>by omega⟩
      case turn4=>
       rintro bb σ H5 hbb ⟨v5,v6,v8,M5,rfl,s5,hD5,R5,S5,F5⟩
       rw[zAb]
       obtain⟨ra,rowa,a1,a2,a3,a4,a5,a6⟩:=R5.get S5 (a:=(aa:Int)) (by omega) (by omega)
       obtain⟨rk,rowk,k1,k2,k3,k4,k5,k6⟩:=R5.get S5 (a:=(kk:Int)) (by omega) (by omega)
       have ma:=zO a1
       refine⟨_,rfl,_,rfl,D,_,_,.ref ra,rfl,rfl,SqL.of hD5,zAe (by omega) (by rw[zM,a1];rfl),_,rfl,ra,_,_,_,rfl,rfl,SqL.of a5,zGS a4 (by omega) (by omega),?_⟩
       refine⟨_,rfl,_,rfl,D,_,_,.ref rk,rfl,rfl,SqL.of hD5,zAe (by omega) (by rw[zM,k1];rfl),_,rfl,rk,_,_,_,rfl,rfl,SqL.of k5,zGS k4 (by omega) (by omega),?_⟩
       refine⟨_,_,rfl,?_⟩
       refine⟨_,rfl,_,rfl,D,_,_,.ref ra,rfl,rfl,SqL.of hD5,zAe (by omega) (by rw[zM,a1];rfl),_,rfl,ra,_,_,_,rfl,rfl,SqL.of a5,zGS a4 (by omega) (by omega),?_⟩
       refine⟨_,rfl,_,_,rfl,?_⟩
       refine⟨_,rfl,_,rfl,D,_,_,.ref ra,rfl,rfl,SqL.of hD5,zAe (by omega) (by rw[zM,a1];rfl),_,rfl,ra,_,_,(bb:Int).toNat,rfl,rfl,a5,zEY (by omega) (by rw[zC,a4];omega),?_⟩
       refine⟨_,_,_,_,rfl,wr ma s5,wD ma hD5,R5.set S5 (by omega) (by omega) a1 a2,S5.set (by omega) (by omega),?_⟩
       refine (Fm.step G F5 (a:=(aa:Int)) (b:=(bb:Int)) (by omega) (by omega) (by omega) (by omega) (by omega) (by omega)).congr (fun x y hx hx' hy hy'=>?_) fun x y _ _ _ _ z=>by omega
       rw[zF9 S5 (by omega) (by omega) (by omega) (by omega) hx hx',a6,a6,k6]
noncomputable def PD (ts:List T3)(kvs:List (List Key×V)):Prop:=∀x y:Int,(∀l,zCA kvs [Sum.inl x,Sum.inl y]=some (.int l)↔Adj ts x y l)/\∀v,zCA kvs [Sum.inl x,Sum.inl y]=some v->∃l,v = .int l
theorem PD.nil:PD [] []:=fun x y=>⟨fun l=>by simp[zEf,Adj],fun v h=>by simp[zEf] at h⟩
theorem zIB {b:Int}:([Sum.inl x,Sum.inl y]:List Key)=[Sum.inl a,Sum.inl b]↔x=a/\y=b:=by simp
theorem PD.put {pre:List T3}{b c:Int}{post:List T3}(g:GW n ts)(e:ts=pre++(a,b,c)::post)(h:PD pre kvs):PD (pre++[(a,b,c)]) (zCT (zCT kvs [Sum.inl a,Sum.inl b] (.int c)) [Sum.inl b,Sum.inl a] (.int c)):=by
 have hin:(a,b,c)∈ts:=by rw[e];simp
 have hab:=(g.rng _ hin).2.1
 simp only at hab
 have sub:∀ {x y l},Adj (pre++[(a,b,c)]) x y l->Adj ts x y l:=fun h=>by
  rw[e]
  rcases h with h | h
  . refine .inl ?_
    rcases zm.mp h with q | q
    . exact zAE _ q
    . rw[zf.mp q];simp
  . refine .inr ?_
    rcases zm.mp h with q | q
    . exact zAE _ q
    . rw[zf.mp q];simp
 have new:Adj (pre++[(a,b,c)]) a b c:=.inl (by simp)
 intro x y
 rw[zEe,zEe]
 by_cases h1:x=b/\y=a
 . obtain⟨rfl,rfl⟩:=h1
   rw[if_pos rfl]
   refine⟨fun l=>⟨fun hl=>?_,fun ha=>?_⟩,fun v hv=>⟨c,(zY hv).symm⟩⟩
   . have:c=l:=by have:=zY hl;injection this
     subst this
     exact new.symm
   . rw[g.uniq (sub ha) (sub new.symm)]
 . rw[if_neg (fun z=>h1 (zIB.mp z))]
   by_cases h2:x=a/\y=b
   . obtain⟨rfl,rfl⟩:=h2
     rw[if_pos rfl]
     refine⟨fun l=>⟨fun hl=>?_,fun ha=>?_⟩,fun v hv=>⟨c,(zY hv).symm⟩⟩
     . have:c=l:=by have:=zY hl;injection this
       subst this
       exact new
     . rw[g.uniq (sub ha) (sub new)]
   . rw[if_neg (fun z=>h2 (zIB.mp z))]
     refine⟨fun l=>?_,(h x y).2⟩
     rw[(h x y).1 l]
     constructor
     . rintro (q | q)
       . exact .inl (zAE _ q)
       . exact .inr (zAE _ q)
     . rintro (q | q)
       . rcases zm.mp q with q | q
         . exact .inl q
         . exfalso
           have:=zf.mp q
           injection this with q1 q2
           injection q2 with q2 q3
           exact h2 ⟨q1,q2⟩
       . rcases zm.mp q with q | q
         . exact .inr q
         . exfalso
           have:=zf.mp q
           injection this with q1 q2
           injection q2 with q2 q3
           exact h1 ⟨q2,q1⟩
theorem PD.some (h:PD ts kvs)(x y:Int):(zCA kvs [Sum.inl x,Sum.inl y]).isSome=true↔∃l,Adj ts x y l:=by
 constructor
 . intro hs
   obtain⟨v,hv⟩:=zBh.mp hs
   obtain⟨l,rfl⟩:=(h x y).2 v hv
   exact⟨l,((h x y).1 l).mp hv⟩
 . rintro ⟨l,ha⟩
   rw[((h x y).1 l).mpr ha]
   rfl
theorem zG6:decide (oV none=V.non)=true:=zU rfl
noncomputable def zDP (H:Hp)(fl:Addr)(n:Int)(ts:List T3)(M:lLO):Prop:=∃rs:List Addr,H fl=some (.lst (rs.map V.ref))/\zCj H rs M/\Rows ts n M
theorem zKx {M:lLO}(R:Rows ts n M):Sqm n M:=⟨R.1,fun r hr=>by
 obtain⟨i,hi,e⟩:=zx hr
 have h1:=R.1
 have:=(R.2 (i:Int) (by omega) (by omega)).ln
 rw[zAx,zE,zB hi,Option.getD_some,e] at this
 exact this⟩
theorem zDP.keep {H H':Hp}{fl:Addr}{n:Int}{ts:List T3}{M:lLO}(h:zDP H fl n ts M)(k:∀b ys,H b=some (.lst ys)->H' b=some (.lst ys)):zDP H' fl n ts M:=by
 obtain⟨rs,a,b,c⟩:=h
 exact⟨rs,k _ _ a,b.keep fun b ys e _=>k b ys e,c⟩
theorem zDP.get {H:Hp}{fl:Addr}{n:Int}{ts:List T3}{M:lLO}(h:zDP H fl n ts M){x y:Int}(hx:0<=x)(hx':x<n)(hy:0<=y)(hy':y<n) :
 ∃(rs:List V)(r:Addr)(row:List V),H fl=some (.lst rs)/\atI rs x=some (.ref r)/\H r=some (.lst row)/\atI row y=some (oV (mat M x y))/\Len ts x y (mat M x y):=by
 obtain⟨rs,a,b,c⟩:=h
 obtain⟨r,row,e1,e2,e3,e4,e5,e6⟩:=b.get (zKx c) hx hx'
 have L:=c.2 x hx hx'
 rw[e3] at L
 refine⟨_,r,_,a,zAe hx (by rw[zM,e1];rfl),e5,?_,?_⟩
 . rw[<-e6];exact zGS e4 hy hy'
 . rw[<-e6];exact L.len y hy hy'
noncomputable def spJoi:Sp:=fun vs H Q _=>∃(wa:Addr)(n:Int)(ts:List T3),vs=[.ref wa]/\zBs H wa n ts/\∀(d:Addr)(kvs:List (List Key×V))(H':Hp),zAi H H'->H' d=some (.dT kvs)->PD ts kvs->Q (.ref d) H'
noncomputable def zJM:Sp:=fun vs H Q _=>∃(wa fl:Addr)(n:Int)(ts:List T3)(M:lLO)(x y:Int),vs=[.ref wa,.ref fl,.int x,.int y]/\zBs H wa n ts/\zDP H fl n ts M/\0<=x/\x<n/\0<=y/\y<n /\
 ∀(l:Addr)(xs:List Int)(H':Hp),zAi H H'->H' l=some (.lst (xs.map V.int))->xs.Pairwise (· < ·)->(∀p,p∈xs↔Nxt ts x y p)->Q (.ref l) H'
theorem zHu:zw ["_law_web_here", "_law_found", "_law_a", "_law_b", "_law_long"] ["_law_web_here"] (defScope sJoi):=fS0
theorem ok_joi (F:Fun K "_law_joined" "_law_joined" sJoi f fd'):zAP P w K mg base CX0 1 f fd' ["_law_web_here"] spJoi:=by
 refine F.okD zHu fun _ A _ _ H vs Q E hr h=>?_
 obtain⟨wa,n,ts,rfl,W,k⟩:=h
 obtain⟨ta,tys,hwa,hta,TA,G⟩:=id W
 have hlt:tys.length=ts.length:=by rw[TA.length,zC]
 have hu:=zHH hr
 refine⟨_,zP (zBA (i:=1) zHu.nd zGZ)
  (zP (zBF PassesOwn.never rfl (zBv (zt zAF (pv 0) zj)) (zCD rfl (zu (zv (i:=2) zHu.nd rfl (Or.inl rfl)) (zu (zv (i:=3) zHu.nd rfl (Or.inl rfl)) (zu (zv (i:=4) zHu.nd rfl (Or.inl rfl)) zBN))))
   (zP (zDn hu (pv 1) (zBC (zD (pv 2) (zD (pv 3) zN))) (pv 4) rfl) (zZ (zDn hu (pv 1) (zBC (zD (pv 3) (zD (pv 2) zN))) (pv 4) rfl))))
  (zZ (zAA (pv 1)))),?_⟩
 intro d hd
 refine⟨_,rfl,wa,_,_,_,rfl,rfl,SqT.of (zI hd _ _ hwa),rfl,ta,rfl,⟨_,SqT.of (zI hd _ _ hta)⟩,zD1 (K:=K) (a:=ta) (xs:=tys)
  (fun j σ H5=>∃(v2 v3 v4:Option V)(kvs:List (List Key×V)),σ=[some (.ref wa),some (.ref d),v2,v3,v4]/\zAi H H5/\H5 d=some (.dT kvs)/\kvs.length<=2*j/\PD (ts.take j) kvs)
  ⟨_,_,_,[],rfl,zI hd,zJ,zK _,PD.nil⟩ (fun j σ H5 _ ⟨_,_,_,_,_,s5,_⟩=>SqT.of (s5 _ _ hta)) ?turn1 ?after1⟩
 case turn1=>
  rintro j y σ H5 hj ⟨v2,v3,v4,kvs,rfl,s5,hd5,hkl,pd⟩
  obtain⟨ya,ky,rfl,hky,hya,_⟩:=TA.get hj
  rw[zM] at hky
  obtain⟨⟨x,z,c⟩,htj,rfl⟩:∃t:T3,ts[j]? = some t/\tl t=ky:=by
   cases e:ts[j]? with
   | none=>rw[e] at hky;cases hky
   | some t=>rw[e] at hky;exact⟨t,rfl,zY hky⟩
  have hjl:j<ts.length:=(zH.mp htj).1
  have h64:=G.len
  refine⟨ya,_,rfl,SqT.of (s5 _ _ hya),rfl,_,_,rfl,_,_,rfl,_,_,rfl,rfl,?_⟩
  refine⟨_,rfl,_,rfl,_,rfl,_,rfl,by show 2<=sizeLine;decide,fun p hp=>?_⟩
  refine⟨d,_,rfl,zI8.t (k:=[Sum.inl x,Sum.inl z]) (zI hp _ _ hd5) zJ (zAT (by omega)),?_⟩
  refine⟨_,rfl,_,rfl,_,rfl,_,rfl,by show 2<=sizeLine;decide,fun p2 hp2=>?_⟩
  refine⟨d,_,rfl,zI8.t (k:=[Sum.inl z,Sum.inl x]) (zI hp2 _ _ zJ) zJ (zAT (zAH (zBd _ _ _) (by omega))),?_⟩
  refine⟨_,_,_,_,rfl,?_,zJ,zAH (zBd _ _ _) (zAH (Nat.succ_le_succ (zBd _ _ _)) (by omega)),?_⟩
  . have a1:zAi H (upd (upd H5 p (.tup [.int x,.int z])) d (.dT (zCT kvs [Sum.inl x,Sum.inl z] (.int c)))):=zAY (s5.trans (zI hp)) hd
    exact zAY (a1.trans (zI hp2)) hd
  . rw[zq,htj]
    refine PD.put G (post:=ts.drop (j+1)) ?_ pd
    have e1:ts.drop j=(x,z,c)::ts.drop (j+1):=by
     rw[List.drop_eq_getElem_cons hjl]
     rw[zB hjl] at htj
     rw[zY htj]
    rw[<-e1,List.take_append_drop]
 case after1=>
  rintro σ H5 ⟨v2,v3,v4,kvs,rfl,s5,hd5,hkl,pd⟩
  rw[hlt,zb (zK _)] at pd
  exact⟨_,rfl,k d kvs H5 s5 hd5 pd⟩
noncomputable def nb (kvs:List (List Key×V))(M:lLO)(x y d p:Int):Bool:=match zCA kvs [Sum.inl x,Sum.inl p],mat M p y with
 | some (.int l),some b=>decide (l+b=d)
 | _,_=>false
theorem zJQ:zw ["_law_web_here", "_law_far_here", "_law_one", "_law_other", "_law_due", "_law_pairs", "_law_some"] ["_law_web_here", "_law_far_here", "_law_one", "_law_other"] (defScope sNxs):=fS0
theorem ok_nxs {fJ:Addr}{fdJ:FuncData}(F:Fun K "_law_nexts" "_law_nexts" sNxs f fd') (FJ:FuB K mg "_law_joined" sJoi fJ fdJ ["_law_web_here"]) (mRange:mg "range" = none):zAP P w K mg base CX0 2 f fd' ["_law_web_here", "_law_far_here", "_law_one", "_law_other"] zJM:=by
 have GJ:zAP P w K mg base CX0 1 fJ fdJ ["_law_web_here"] spJoi:=ok_joi FJ.F
 refine F.okD zJQ fun _ A _ _ H vs Q E hr h=>?_
 obtain⟨wa,fl,n,ts,M,x,y,rfl,W,FR,hx,hx',hy,hy',k⟩:=h
 obtain⟨ta,tys,hwa,hta,TA,G⟩:=id W
 have hu:=zHH hr
 have hn1:=G.n1
 have hn24:=G.n24
 refine⟨_,zP (zB9 (i:=4) zJQ.nd rfl (Or.inr rfl) (zt zAZ (zt zAZ (pv 1) (pv 2)) (pv 3)))
  (zP (zA9 (PW.pt (zFI (zAC zBw (pv 2) (pv 3) (zAD _)) (zDS (zAC zCF (pv 4) zAp (zAD _))))) (zZ (zAA (zCE zN))) zAR)
  (zP (zB9 (i:=5) zJQ.nd rfl (Or.inr rfl) (zAL GJ hr FJ (zD (pv 0) zN)))
  (zP (zCs (i:=6) (own:=["_law_place"]) (cn:=["_law_one", "_law_pairs"]) (ci:=[2,5]) zJQ.nd rfl (Or.inl rfl) rfl (csc rfl rfl) ⟨rfl,rfl,rfl,rfl,rfl,rfl,trivial⟩ rfl
   (zAg rfl mRange (zD (zt zAF (pv 0) zj) zN)) (fun _ _ _ _=>zBr)
   (fun _ _ _ _=>zCK (zKI (zKJ hu (zBC (zD (pv 1) (zD (pv 0) zN))) (pv 2)))) (fun _ _ _ _=>pv 0))
  (zZ (zAA (zA6 (own:=["_law_place"]) (cn:=["_law_pairs", "_law_one", "_law_far_here", "_law_other", "_law_due"]) (ci:=[5,2,1,3,4]) rfl (csc rfl rfl) ⟨rfl,rfl,rfl,rfl,rfl,rfl,rfl,rfl,rfl,rfl,rfl,rfl,rfl,rfl,rfl,trivial⟩ rfl
   (zB2 (pv 6)) (fun _ _ _ _=>zBr)
   (fun _ _ _ _=>zCK (zAC zBw (zA5 zB0 (zF4 hu (pv 1) (zBC (zD (pv 2) (zD (pv 0) zN))) (fun _ _=>rfl)) (zt zCU (zt zCU (pv 3) (pv 0)) (pv 4))) (pv 5) (zAD _)))
   (fun _ _ _ _=>pv 0))))))),?_⟩
 obtain⟨r1,a1,w1,f1,g1,i1,j1,l1⟩:=FR.get hx hx' hy hy'
 refine⟨_,rfl,_,rfl,fl,_,_,.ref a1,rfl,rfl,SqL.of f1,g1,_,rfl,a1,_,_,_,rfl,rfl,SqL.of i1,j1,?_⟩
 refine⟨_,rfl,_,rfl,rfl,_,rfl,?_⟩
 by_cases hxy:x=y
 . refine ifT (zU (congrArg V.int hxy)) (ifT rfl ?_)
   exact⟨ze _,fun l hl=>k l [] _ (zI hl) zJ zBk fun p=>⟨fun z=>by simp at z,fun z=>absurd hxy (Nxt.ne G z)⟩⟩
 refine ifF (zl fun z=>hxy (V.int.inj z)) ?_
 refine⟨_,rfl,rfl,_,rfl,?_⟩
 cases e:mat M x y with
 | none=>
  rw[e] at l1
  refine ifT zG6 ?_
  exact⟨ze _,fun l hl=>k l [] _ (zI hl) zJ zBk fun p=>⟨fun z=>by simp at z,fun ⟨l,b,_,_,z⟩=>absurd z.1 (l1 _)⟩⟩
 | some d=>
  rw[e] at l1
  have hxy':WM.IsD ts x y d:=l1
  refine ifF (zCI d) ?_
  refine⟨_,rfl,wa,n,ts,rfl,W,fun dd kvs H1 s1 hd1 pd=>?_⟩
  refine⟨_,rfl,wa,_,_,_,rfl,rfl,SqT.of (s1 _ _ hwa),rfl,n,rfl,by omega,by omega,[.int x,.ref dd],rfl,fun D hD=>?_⟩
  refine zBU (lo:=0) (n:=n.toNat) (fun q ys H7=>q<=n.toNat/\ys=((lowTo q).filter fun o=>(zCA kvs [Sum.inl x,Sum.inl o]).isSome).map V.int/\zAi H1 H7/\H7 D=some (.lst ys)) ⟨ze _,rfl,zI hD,zJ⟩ (fun q ys H7 h=>?_) (fun q ys H7 hq h=>?_) (fun ys H7 h=>?_)
  . obtain⟨hq,rfl,_⟩:=h
    rw[zC]
    refine zAU (zAJ _ _) (zAT ?_)
    rw[lowTo,zC,zAQ]
    omega
  . obtain⟨_,rfl,s7,hD7⟩:=h
    rw[zAb]
    refine⟨⟨rfl,rfl⟩,?_⟩
    refine⟨_,rfl,_,rfl,by show 2<=sizeLine;decide,fun p hp=>?_⟩
    refine⟨_,rfl,dd,_,rfl,zFw.t (k:=[Sum.inl x,Sum.inl (q:Int)]) (zI hp _ _ (s7 _ _ hd1)) zJ,_,rfl,?_⟩
    refine zFW (fun hc=>?_) (fun hc=>?_)
    . refine⟨_,rfl,zI hp _ _ hD7,hq,?_,zAY (s7.trans (zI hp)) hD,zJ⟩
      rw[zC8,zA1,zBp (p:=fun o=>(zCA kvs [Sum.inl x,Sum.inl o]).isSome) hc,List.filter_nil,zS]
      rfl
    . refine⟨hq,?_,s7.trans (zI hp),zI hp _ _ ?_⟩
      . rw[zC8,zA1,zBq (p:=fun o=>(zCA kvs [Sum.inl x,Sum.inl o]).isSome) hc,List.filter_nil,zr]
      . exact hD7
  . obtain⟨_,rfl,s7,hD7⟩:=h
    generalize hsm:((lowTo n.toNat).filter fun o=>(zCA kvs [Sum.inl x,Sum.inl o]).isSome)=sm at hD7 ⊢
    have sm_rise:sm.Pairwise (· < ·):=by rw[<-hsm];exact (zDz _).sublist List.filter_sublist
    have sm_mem:∀p,p∈sm↔∃l,Adj ts x p l:=fun p=>by
     rw[<-hsm,zAG,pd.some]
     refine⟨fun h=>h.2,fun h=>⟨zDd.mpr ?_,h⟩⟩
     obtain⟨c,ha⟩:=h
     have:=G.adj ha
     omega
    have sm_len:sm.length<=24:=by
     rw[<-hsm]
     refine zAH (zAJ _ _) ?_
     rw[lowTo,zC,zAQ]
     omega
    have nb_iff:∀p,p∈sm.filter (nb kvs M x y d)↔Nxt ts x y p:=fun p=>by
     rw[zAG,sm_mem]
     constructor
     . rintro ⟨⟨l,ha⟩,hb⟩
       have hadj:=G.adj ha
       obtain⟨_,_,_,_,_,_,_,l3⟩:=FR.get (x:=p) (y:=y) (by omega) (by omega) hy hy'
       unfold nb at hb
       rw[((pd x p).1 l).mpr ha] at hb
       cases e2:mat M p y with
       | none=>rw[e2] at hb;cases hb
       | some b=>
        rw[e2] at hb l3
        have hs:l+b=d:=of_decide_eq_true hb
        exact⟨l,b,ha,l3,by rw[hs];exact hxy'⟩
     . rintro ⟨l,b,ha,h2,h3⟩
       have hadj:=G.adj ha
       obtain⟨_,_,_,_,_,_,_,l3⟩:=FR.get (x:=p) (y:=y) (by omega) (by omega) hy hy'
       refine⟨⟨l,ha⟩,?_⟩
       unfold nb
       rw[((pd x p).1 l).mpr ha,Len.uniq l3 (show Len ts p y (some b) from h2)]
       exact zU (WM.IsD.uniq h3 hxy')
    refine⟨_,rfl,D,rfl,⟨_,SqL.of hD7⟩,[.ref dd,.int x,.ref fl,.int y,.int d],rfl,fun D2 hD2=>?_⟩
    have nDD:D≠D2:=zn hD7 hD2
    refine zCN (a:=D) (xs:=sm.map V.int) (fun i ys H8=>ys=((sm.take i).filter (nb kvs M x y d)).map V.int/\zAi H7 H8/\H8 D2=some (.lst ys)) ⟨rfl,zI hD2,zJ⟩ (fun i ys H8 h=>?_) (fun i ys H8 h=>?_) (fun i v ys H8 hv h=>?_) (fun ys H8 h=>?_)
    . exact SqL.of (h.2.1 _ _ hD7)
    . rw[h.1,zC]
      refine zAU (zAJ _ _) (zAT ?_)
      rw[zk];omega
    . obtain⟨rfl,s8,hD8⟩:=h
      obtain⟨p,hp,rfl⟩:∃p,sm[i]? = some p/\V.int p=v:=by
       rw[zM] at hv
       cases e:sm[i]? with
       | none=>rw[e] at hv;cases hv
       | some p=>rw[e] at hv;exact⟨p,rfl,zY hv⟩
      obtain⟨l,ha⟩:=(sm_mem p).mp (zO hp)
      have hadj:=G.adj ha
      have hval:=((pd x p).1 l).mpr ha
      have s18:zAi H H8:=s1.trans (s7.trans s8)
      refine⟨⟨rfl,rfl⟩,?_⟩
      refine⟨_,rfl,_,rfl,_,rfl,by show 2<=sizeLine;decide,fun q hq=>?_⟩
      have sq:zAi H (upd H8 q (.tup [.int x,.int p])):=s18.trans (zI hq)
      obtain⟨r3,a3,w3,f3,g3,i3,j3,l3⟩:=(FR.keep fun b ys e=>sq _ _ e).get (x:=p) (y:=y) (by omega) (by omega) hy hy'
      obtain⟨b,eb⟩:∃b,mat M p y=some b:=by
       cases e2:mat M p y with
       | none=>rw[e2] at l3;exact absurd ((WM.Way.one ha).symm.trans hxy'.1) (l3 _)
       | some b=>exact⟨b,rfl⟩
      rw[eb] at j3
      refine⟨dd,_,rfl,hval ▸ zFw.t (k:=[Sum.inl x,Sum.inl p]) (zI hq _ _ (s8 _ _ (s7 _ _ hd1))) zJ,?_⟩
      refine⟨_,rfl,_,rfl,fl,_,_,.ref a3,rfl,rfl,SqL.of f3,g3,_,rfl,a3,_,_,_,rfl,rfl,SqL.of i3,j3,l,b,rfl,rfl,?_⟩
      refine⟨_,rfl,rfl,_,rfl,?_⟩
      have ek:sm.take (i+1)=sm.take i++[p]:=by rw[zq,hp];rfl
      have enb:nb kvs M x y d p=decide (l+b=d):=by unfold nb;rw[hval,eb]
      by_cases hs:l+b=d
      . refine ifT (zU (congrArg V.int hs)) ?_
        refine⟨_,rfl,zI hq _ _ hD8,?_,zAY (s8.trans (zI hq)) hD2,zJ⟩
        rw[ek,zA1,zBp (by rw[enb];exact zU hs),List.filter_nil,zS]
        rfl
      . refine ifF (zl fun z=>hs (V.int.inj z)) ?_
        refine⟨?_,s8.trans (zI hq),zI hq _ _ hD8⟩
        rw[ek,zA1,zBq (by rw[enb,zl hs];decide),List.filter_nil,zr]
    . obtain⟨rfl,s8,hD8⟩:=h
      rw[zC,List.take_length] at hD8
      exact k D2 _ H8 (s1.trans (s7.trans s8)) hD8 (sm_rise.sublist List.filter_sublist) nb_iff
theorem pe_as {e:Expr}{te te':TE}(h:PE X e te)(m:∀ σ H Q,te' σ H Q->te σ H Q):PE X e te':=fun pins s σ H Q I q=>h pins s σ H Q I (m σ H Q q)
variable {X:Cx}
theorem zDm {st:List Stmt}:PSs X st (fun _ _ _=>False):=fun _ _ _ _ _ _ h=>h.elim
theorem ps_as {st:Stmt}{u u':TS}(h:PS X st u)(m:∀D σ H,u' D σ H->u D σ H):PS X st u':=fun pins s σ H D I q=>h pins s σ H D I (m D σ H q)
theorem upd_3 {dx e:Addr}{o1 o2 x:HO}(n:dx≠e):upd (upd (upd H dx o1) e x) dx o2=upd (upd H dx o2) e x:=by
 funext b
 by_cases h1:b=dx
 . subst h1;rw[zJ,za n,zJ]
 . by_cases h2:b=e
   . subst h2;rw[za h1,zJ,zJ]
   . rw[za h1,za h2,za h1,za h2,za h1]
theorem scI1:zw ["self", "word", "at"] ["self", "word", "at"] (defScope sI1):=fS0
variable {C:Addr}
theorem ok_I1 (F:Fun K "__init__" "NoLabels.__init__" sI1 f fd') (EI:zGI K C f)(mo:PySem.W.mroIn K C (.type "object")=some true) (n1:PySem.W.findIn K (.ref C) "word" = some none) (n2:PySem.W.findIn K (.ref C) "at" = some none):zAP P w K mg base CX0 1 f fd' ["self", "word", "at"] (spXI C "word" "at"):=by
 refine F.okD scI1 fun _ A _ _ H vs Q E hr h=>?_
 obtain⟨e,t,v1,v2,rfl,he,k⟩:=h
 refine⟨_,zP (zH7 EI mo n1 (pv 0) (pv 1)) (zZ (zH7 EI mo n2 (pv 0) (pv 2))),?_⟩
 refine⟨_,rfl,_,rfl,e,t,rfl,.inl ⟨he,fun dx hdx=>?_⟩⟩
 have ne:dx≠e:=fun z=>by rw[z,he] at hdx;cases hdx
 refine⟨_,rfl,_,rfl,e,t,rfl,.inr ⟨dx,_,zJ,by rw[za ne,zJ],by show 1<900;decide,?_⟩⟩
 show Q _ _
 rw[upd_3 ne]
 exact k dx hdx ne
structure EOk (n:Int)(e:En):Prop where
 rng:0<=e.h/\e.h<n
 nn:0<=e.l
 own:e.l=0->e.u=none/\e.d=none
 far:e.l≠0->∃u d,e.u=some u/\e.d=some d/\0<=u/\u<n/\0<=d/\d<n
structure zBa (n:Int)(es:List En):Prop where
 ent:∀e∈es,EOk n e
 hub:Hub es
 len:(es.length:Int)<=n
 one:(es.map (·.l)).countP (fun x=>x==0)=1
noncomputable def spRis:Sp:=fun vs H Q _=>∃(p:Addr)(xs:List Int),vs=[.ref p]/\H p=some (.lst (xs.map V.int))/\xs.Pairwise (· < ·)/\xs.length<=1000/\∀H',zAi H H'->Q (.bl true) H'
noncomputable def zHp:Sp:=fun vs H Q _=>∃(n:Int)(a:Addr)(e:En),vs=[.int n,.ref a]/\H a=some (.tup (eV e))/\EOk n e/\Q (.bl true) H
noncomputable def zHn:Sp:=fun vs H Q _=>∃(n:Int)(p:Addr)(es:List En),vs=[.int n,.ref p]/\zBV H p es/\zBa n es/\∀H',zAi H H'->Q (.bl true) H'
noncomputable def zFz:Sp:=fun vs H Q _=>∃(n:Int)(l:Addr)(ess:List (List En)),vs=[.int n,.ref l]/\zBL H l ess/\(ess.length:Int)=n/\n<=24/\(∀es∈ess,zBa n es)/\∀H',zAi H H'->Q (.bl true) H'
theorem scRis:zw ["things"] ["things"] (defScope sRis):=fS0
theorem ok_ris (F:Fun K "is_rising" "is_rising" sRis f fd') (mLen:mg "len" = none) (mRange:mg "range" = none) (mAll:mg "all" = none):zAP P w K mg base CX0 1 f fd' ["things"] spRis:=by
 refine F.okD scRis fun _ A _ _ H vs Q E hr h=>?_
 obtain⟨p,xs,rfl,hp,hrise,hl,k⟩:=h
 refine⟨_,zZ (zAA (zAa (zDB rfl) mAll (zD (zA6 (own:=["k"]) (cn:=["things"]) (ci:=[0]) rfl (csc rfl rfl) ⟨rfl,rfl,rfl,trivial⟩ rfl
  (zFL rfl mRange (zD zj (zD (zAa zAy mLen (zD (pv 0) zN)) zN))) (fun _ _ _ _=>zBr) (fun _ _ _ _=>zBH)
  (fun _ _ _ _=>zBO zJi (zt zCU (pv 1) (zA5 zGa (pv 0) zj)) (zt zCU (pv 1) (pv 0)) (zAD _))) zN))),?_⟩
 refine⟨_,rfl,p,_,rfl,.inl (SqL.of hp),1,_,rfl,⟨by decide,by decide,by rw[zC];omega,by rw[zC];omega⟩,[.ref p],rfl,fun D hD=>?_⟩
 refine zBU (lo:=1) (n:=(((xs.map V.int).length:Int)-1).toNat) (fun q ys H4=>q<=(((xs.map V.int).length:Int)-1).toNat/\ys=(List.replicate q true).map V.bl/\H4=upd H D (.lst ys)) ⟨ze _,rfl,rfl⟩ (fun q ys H4 z=>?_) (fun q ys H4 hq z=>?_) (fun ys H4 z=>?_)
 . obtain⟨hq,rfl,_⟩:=z
   rw[zC] at hq
   rw[zC,zAB]
   exact zAj (by omega)
 . obtain⟨_,rfl,rfl⟩:=z
   rw[zC] at hq
   have hp4:=zI (o:=.lst ((List.replicate q true).map V.bl)) hD _ _ hp
   have h1:q<xs.length:=by omega
   have h2:q+1<xs.length:=by omega
   refine⟨⟨rfl,rfl⟩,?_⟩
   refine zEO ?_
   refine⟨_,rfl,_,rfl,_,_,rfl,rfl,p,_,_,.int xs[q],rfl,rfl,SqL.of hp4,zAe (by omega) (by rw[show ((1:Int)+q-1).toNat=q by omega,zM,zB h1];rfl),_,rfl,_,rfl,p,_,_,.int xs[q+1],rfl,rfl,SqL.of hp4,zAe (by omega) (by rw[show ((1:Int)+q).toNat=q+1 by omega,zM,zB h2];rfl),_,_,rfl,rfl,zJ,by rw[zC];omega,?_,zB1⟩
   have hlt:=zy.mp hrise q (q+1) h1 h2 (by omega)
   dsimp only
   rw[zU hlt,List.replicate_succ',zS];rfl
 . obtain⟨_,rfl,rfl⟩:=z
   refine⟨D,_,rfl,SqL.of zJ,?_⟩
   have hall:∀m,(List.replicate m true).all id=true:=fun m=>zAv.mpr fun b hb=>(List.mem_replicate.mp hb).2
   rw[hall]
   exact k _ (zI hD)
theorem scEnt9:zw ["n", "thing"] ["n", "thing"] (defScope zH1):=fS0
theorem zLP {fT fP:Addr}{fdP:FuncData}(F:Fun K "is_entry" "is_entry" zH1 f fd') (FT:FuB K mg "is_tuple_of" zKw fT fdT ["thing","count"])
 (FW:FuB K mg "is_within" sWi fW fdW ["thing","least","most"]) (FP:FuB K mg "is_place" sPl fP fdP ["n","thing"]) (FN:FuB K mg "is_number" zKG fN fdN ["thing"])
 (mIsi:mg "isinstance" = none) (mInt:mg "int" = none) (mBool:mg "bool" = none) (mTuple:mg "tuple" = none) (mLen:mg "len" = none):zAP P w K mg base CX0 4 f fd' ["n", "thing"] zHp:=by
 have GT:zAP P w K mg base CX0 3 fT fdT ["thing", "count"] zJL:=(zIF FT.F mIsi mTuple mLen).mono (by decide)
 have GN:zAP P w K mg base CX0 3 fN fdN ["thing"] zKj:=(zKM FN.F mIsi mInt mBool).mono (by decide)
 have GP:zAP P w K mg base CX0 3 fP fdP ["n", "thing"] spPl:=ok_pl FP.F FW FN mIsi mInt mBool
 refine F.okD scEnt9 fun _ A _ _ H vs Q E hr h=>?_
 obtain⟨n,a,e,rfl,ha,O,k⟩:=h
 refine⟨_,zP (zA9 (PW.pt (zFI (zCR (zCC (zAL GT hr FT (zD (pv 1) (zD zj zN))))) (zDS (zCR (zCC (zAL GP hr FP (zD (pv 0) (zD (zt zAF (pv 1) zj) zN)))))))) (zZ (zAA zC3)) zAR)
  (zP (zA9 (PW.pt (zFI (zCR (zCC (zAL GN hr FN (zD (zt zAF (pv 1) zj) zN)))) (zDS (zAC zJi (zt zAF (pv 1) zj) zj (zAD _))))) (zZ (zAA zC3)) zAR)
  (zP (zA9 (zAC zBw (zt zAF (pv 1) zj) zj (zAD _)) (zZ (zAA (zCZ (zBO zCF (zt zAF (pv 1) zj) zAp (zAD _)) (zCd (zBO zCF (zt zAF (pv 1) zj) zAp (zAD _)))))) zAR)
  (zZ (zAA (zCZ (zAL GP hr FP (zD (pv 0) (zD (zt zAF (pv 1) zj) zN))) (zCd (zAL GP hr FP (zD (pv 0) (zD (zt zAF (pv 1) zj) zN))))))))),?_⟩
 have hr':=O.rng
 have ht:=SqT.of (K:=K) ha
 refine⟨_,rfl,a,eV e,rfl,ha,_,rfl,zDH ?_⟩
 refine⟨_,rfl,_,rfl,a,_,_,.int e.h,rfl,rfl,ht,rfl,n,e.h,rfl,hr'.1,by omega,_,rfl,zDH ?_⟩
 refine⟨_,rfl,a,_,_,.int e.l,rfl,rfl,ht,rfl,e.l,rfl,_,rfl,zDH ?_⟩
 have hnn:=O.nn
 refine⟨_,rfl,a,_,_,.int e.l,rfl,rfl,ht,rfl,_,_,rfl,rfl,_,rfl,ifF (zl (by omega)) ?_⟩
 refine⟨_,rfl,a,_,_,.int e.l,rfl,rfl,ht,rfl,rfl,_,rfl,?_⟩
 rw[zHN]
 by_cases c:e.l=0
 . refine ifT (zU c) ?_
   obtain⟨hu,hd⟩:=O.own c
   refine⟨_,rfl,a,_,_,oV e.u,rfl,rfl,ht,rfl,rfl,_,rfl,?_⟩
   refine ifT (by rw[hu];rfl) ?_
   refine⟨_,rfl,a,_,_,oV e.d,rfl,rfl,ht,rfl,rfl,?_⟩
   rw[hd,show decide (oV none=V.non)=true from rfl]
   exact k
 . refine ifF (zl c) ?_
   obtain⟨u,d,hu,hd,u0,u1,d0,d1⟩:=O.far c
   refine⟨_,rfl,_,rfl,a,_,_,oV e.u,rfl,rfl,ht,rfl,n,u,by rw[hu];rfl,u0,by omega,true,rfl,zEv ?_⟩
   exact⟨_,rfl,_,rfl,a,_,_,oV e.d,rfl,rfl,ht,rfl,n,d,by rw[hd];rfl,d0,by omega,k⟩
theorem zI5 (m:Nat):(List.replicate m true).all id=true:=zAv.mpr fun b hb=>(List.mem_replicate.mp hb).2
theorem zKE:zw ["n", "thing", "longs"] ["n", "thing"] (defScope zHz):=fS0
theorem zLM {fR:Addr}{fdR:FuncData}(F:Fun K "is_label" "is_label" zHz f fd') (FE:FuB K mg "is_entry" zH1 fE fdE ["n","thing"]) (GE:zAP P w K mg base CX0 4 fE fdE ["n", "thing"] zHp)
 (FR:FuB K mg "is_rising" sRis fR fdR ["things"]) (GR:zAP P w K mg base CX0 4 fR fdR ["things"] spRis) (mIsi:mg "isinstance" = none) (mTuple:mg "tuple" = none) (mLen:mg "len" = none) (mAll:mg "all" = none) :
 zAP P w K mg base CX0 5 f fd' ["n", "thing"] zHn:=by
 refine F.okD zKE fun _ A _ _ H vs Q E hr h=>?_
 obtain⟨n,p,es,rfl,L,LK,k⟩:=h
 obtain⟨as,hp,EA,hl⟩:=id L
 have hlen:=LK.len
 refine⟨_,zP (zA9 (PW.pt (zFI (zCR (zCC (zAa zCX mIsi (zD (pv 1) (zD (zGX (T := "tuple") mTuple) zN))))) (zDS (zAC zFM (zAa zAy mLen (zD (pv 1) zN)) (pv 0) (zAD _))))) (zZ (zAA zC3)) zAR)
  (zP (zA9 (zCR (zCC (zAa (zDB rfl) mAll (zD (zA6 (own:=["entry"]) (cn:=["n"]) (ci:=[0]) rfl (csc rfl rfl) ⟨rfl,rfl,rfl,trivial⟩ rfl (zBv (pv 1)) (fun _ _ _ _=>zBr) (fun _ _ _ _=>zBH)
   (fun _ _ _ _=>zAL GE hr FE (zD (pv 1) (zD (pv 0) zN)))) zN)))) (zZ (zAA zC3)) zAR)
  (zP (zCs (i:=2) (own:=["entry"]) (cn:=[]) (ci:=[]) zKE.nd rfl (Or.inl rfl) rfl (csc rfl rfl) trivial rfl (zBv (pv 1)) (fun _ _ _ _=>zBr) (fun _ _ _ _=>zBH) (fun _ _ _ _=>zt zBe (pv 0) zj))
  (zZ (zAA (zCZ (zBO zBw (zEG PySem.F.plainAttrs_list PySem.F.slot_list_count PySem.F.type_list_count zJp (pv 2) (zD zj zN)) zj (zAD _)) (zCd (zAL GR hr FR
   (zD (zA6 (own:=["entry"]) (cn:=[]) (ci:=[]) rfl (csc rfl rfl) trivial rfl (zBv (pv 1)) (fun _ _ _ _=>zBr) (fun _ _ _ _=>zBH) (fun _ _ _ _=>zt zBe (pv 0) zj)) zN)))))))),?_⟩
 refine⟨_,rfl,_,_,_,true,rfl,.tup hp,rfl,_,rfl,zDH ?_⟩
 refine⟨_,rfl,p,_,rfl,.inr (SqT.of hp),_,rfl,_,_,rfl,rfl,_,rfl,ifF (zl (by rw[zC,EA.1];omega)) ?_⟩
 refine⟨_,rfl,p,rfl,⟨_,SqT.of hp⟩,[.int n],rfl,fun D hD=>?_⟩
 refine zBX (a:=p) (xs:=as.map V.ref) (fun i ys H4=>i<=es.length/\ys=(List.replicate i true).map V.bl/\H4=upd H D (.lst ys)) ⟨ze _,rfl,rfl⟩ (fun i ys H4 z=>?_) (fun i ys H4 z=>?_) (fun i v ys H4 hv z=>?_) (fun ys H4 z=>?_)
 . obtain⟨_,_,rfl⟩:=z
   exact SqT.of (zI hD _ _ hp)
 . obtain⟨hi,rfl,_⟩:=z
   rw[zC,zAB]
   exact zAj (by omega)
 . obtain⟨_,rfl,rfl⟩:=z
   obtain⟨a,x,rfl,hx,ha⟩:=EA.at hv
   refine⟨⟨rfl,rfl⟩,?_⟩
   refine zEO ?_
   refine⟨_,rfl,_,rfl,n,a,x,rfl,zI hD _ _ ha,LK.ent x (zO hx),zJ,(zH.mp hx).1,?_,zB1⟩
   rw[List.replicate_succ',zS];rfl
 . obtain⟨_,rfl,rfl⟩:=z
   refine⟨D,_,rfl,SqL.of zJ,_,rfl,?_⟩
   rw[zI5]
   refine zDH ?_
   have s1:=zI (o:=.lst ((List.replicate (as.map V.ref).length true).map V.bl)) hD
   generalize upd H D (.lst ((List.replicate (as.map V.ref).length true).map V.bl))=H1 at s1 ⊢
   refine⟨_,rfl,p,rfl,⟨_,SqT.of (s1 _ _ hp)⟩,[],rfl,fun D2 hD2=>?_⟩
   refine zBX (a:=p) (xs:=as.map V.ref) (fun i ys H4=>ys=((es.take i).map (·.l)).map V.int/\H4=upd H1 D2 (.lst ys)) ⟨rfl,rfl⟩ (fun i ys H4 z=>?_) (fun i ys H4 z=>?_) (fun i v ys H4 hv z=>?_) (fun ys H4 z=>?_)
   . obtain⟨_,rfl⟩:=z
     exact SqT.of (zI hD2 _ _ (s1 _ _ hp))
   . obtain⟨rfl,_⟩:=z
     rw[zC,zC,zk]
     exact zAj (by omega)
   . obtain⟨rfl,rfl⟩:=z
     obtain⟨a,x,rfl,hx,ha⟩:=EA.at hv
     refine⟨⟨rfl,rfl⟩,?_⟩
     refine zEO ?_
     refine⟨_,rfl,a,_,_,.int x.l,rfl,rfl,SqT.of (zI hD2 _ _ (s1 _ _ ha)),rfl,zJ,?_,zB1⟩
     rw[zq,hx,zS,zS];rfl
   . obtain⟨rfl,rfl⟩:=z
     rw[zC,EA.1,zb (zK _)]
     have s2:=s1.trans (zI (o:=.lst ((es.map (·.l)).map V.int)) hD2)
     have hD22:(upd H1 D2 (.lst ((es.map (·.l)).map V.int))) D2=some (.lst ((es.map (·.l)).map V.int)):=zJ
     generalize upd H1 D2 (.lst ((es.map (·.l)).map V.int))=H2 at s2 hD22 ⊢
     refine⟨_,rfl,.inl ⟨rfl,_,SqL.of hD22⟩,D2,es.map (·.l),0,rfl,rfl,SqL.of hD22,rfl,_,rfl,?_⟩
     refine ifT (by rw[LK.one];rfl) ?_
     refine⟨_,rfl,p,rfl,⟨_,SqT.of (s2 _ _ hp)⟩,[],rfl,fun D3 hD3=>?_⟩
     refine zBX (a:=p) (xs:=as.map V.ref) (fun i ys H4=>ys=((es.take i).map (·.h)).map V.int/\H4=upd H2 D3 (.lst ys)) ⟨rfl,rfl⟩ (fun i ys H4 z=>?_) (fun i ys H4 z=>?_) (fun i v ys H4 hv z=>?_) (fun ys H4 z=>?_)
     . obtain⟨_,rfl⟩:=z
       exact SqT.of (zI hD3 _ _ (s2 _ _ hp))
     . obtain⟨rfl,_⟩:=z
       rw[zC,zC,zk]
       exact zAj (by omega)
     . obtain⟨rfl,rfl⟩:=z
       obtain⟨a,x,rfl,hx,ha⟩:=EA.at hv
       refine⟨⟨rfl,rfl⟩,?_⟩
       refine zEO ?_
       refine⟨_,rfl,a,_,_,.int x.h,rfl,rfl,SqT.of (zI hD3 _ _ (s2 _ _ ha)),rfl,zJ,?_,zB1⟩
       rw[zq,hx,zS,zS];rfl
     . obtain⟨rfl,rfl⟩:=z
       rw[zC,EA.1,zb (zK _)]
       refine⟨D3,es.map (·.h),rfl,zJ,by rw[zAh];exact LK.hub,by rw[zC];omega,fun H5 s5=>?_⟩
       exact k _ ((s2.trans (zI hD3)).trans s5)
theorem zKt:zw ["n", "thing"] ["n", "thing"] (defScope zFE):=fS0
theorem zJk {fT:Addr}(F:Fun K "are_labels" "are_labels" zFE f fd') (FT:FuB K mg "is_tuple_of" zKw fT fdT ["thing","count"]) (GT:zAP P w K mg base CX0 5 fT fdT ["thing", "count"] zJL)
 (FL:FuB K mg "is_label" zHz fL fdL ["n","thing"]) (GL:zAP P w K mg base CX0 5 fL fdL ["n", "thing"] zHn) (mAll:mg "all" = none):zAP P w K mg base CX0 6 f fd' ["n", "thing"] zFz:=by
 refine F.okD zKt fun _ A _ _ H vs Q E hr h=>?_
 obtain⟨n,l,ess,rfl,⟨as,hl,hal,hla⟩,hn,hn24,hk,k⟩:=h
 refine⟨_,zZ (zAA (zCZ (zAL GT hr FT (zD (pv 1) (zD (pv 0) zN))) (zCd (zAa (zDB rfl) mAll (zD (zA6 (own:=["label"]) (cn:=["n"]) (ci:=[0]) rfl (csc rfl rfl) ⟨rfl,rfl,rfl,trivial⟩ rfl (zBv (pv 1)) (fun _ _ _ _=>zBr) (fun _ _ _ _=>zBH)
  (fun _ _ _ _=>zAL GL hr FL (zD (pv 1) (zD (pv 0) zN)))) zN))))),?_⟩
 have hln:((as.map V.ref).length:Int)=n:=by rw[zC,hal];exact hn
 refine⟨_,rfl,_,rfl,l,as.map V.ref,by rw[hln];rfl,hl,true,rfl,zEv ?_⟩
 refine⟨_,rfl,l,rfl,⟨_,SqT.of hl⟩,[.int n],rfl,fun D hD=>?_⟩
 refine zBX (a:=l) (xs:=as.map V.ref) (fun i ys H4=>i<=as.length/\ys=(List.replicate i true).map V.bl/\zAi H H4/\H4 D=some (.lst ys)) ⟨ze _,rfl,zI hD,zJ⟩ (fun i ys H4 z=>?_) (fun i ys H4 z=>?_) (fun i v ys H4 hv z=>?_) (fun ys H4 z=>?_)
 . exact SqT.of (z.2.2.1 _ _ hl)
 . obtain⟨hi,rfl,_⟩:=z
   rw[zC,zAB]
   exact zAj (by omega)
 . obtain⟨_,rfl,s4,hD4⟩:=z
   obtain⟨a,ha,rfl⟩:∃a,as[i]? = some a/\V.ref a=v:=by
    rw[zM] at hv
    cases e:as[i]? with
    | none=>rw[e] at hv;cases hv
    | some a=>rw[e] at hv;exact⟨a,rfl,zY hv⟩
   obtain⟨es,e1,e2⟩:=hla i a ha
   refine⟨⟨rfl,rfl⟩,?_⟩
   refine zEO ?_
   refine⟨_,rfl,_,rfl,n,a,es,rfl,e2.same s4,hk es (zO e1),fun H5 s5=>?_⟩
   refine⟨s5 _ _ hD4,(zH.mp ha).1,?_,zAY (s4.trans s5) hD,zJ⟩
   rw[List.replicate_succ',zS];rfl
 . obtain⟨_,rfl,s4,hD4⟩:=z
   refine⟨D,_,rfl,SqL.of hD4,?_⟩
   rw[zI5]
   exact k _ s4
theorem zH4:∀{l:List Int}{a b:Int},l.Pairwise (· < ·)->(∀x∈l,a<=x/\x<b)->a<=b->(l.length:Int)<=b-a
 | [],a,b,_,_,h=>by simp;omega
 | x::r,a,b,hp,hb,h=>by
  have hx:=hb x zV
  obtain⟨h1,h2⟩:=zBc.mp hp
  have:=zH4 (l:=r) (a:=x+1) (b:=b) h2 (fun y hy=>⟨by have:=h1 y hy;omega,(hb y (zc _ hy)).2⟩) (by omega)
  rw[zp]
  omega
theorem zGH.kind (G:GW n ts)(L:zGH ts n rk v es)(v0:0<=v)(v1:v<n):zBa n es:=by
 refine⟨fun e he=>?_,L.hub,?_,?_⟩
 . have E:=L.ent e he
   refine⟨E.rng,E.len.1.nn G,fun h0=>?_,fun hne=>?_⟩
   . have ev:=(zBy G E.len).mp h0
     constructor
     . have u:=E.up
       cases hu:e.u with
       | none=>rfl
       | some m=>rw[hu] at u;exact absurd ev (u.1.ne G)
     . have u:=E.dn
       cases hu:e.d with
       | none=>rfl
       | some m=>rw[hu] at u;exact absurd ev.symm (u.1.ne G)
   . have ev:v≠e.h:=fun z=>hne ((zBy G E.len).mpr z)
     obtain⟨p,hp⟩:=Nxt.exists G E.len ev
     obtain⟨q,hq⟩:=Nxt.exists G E.len.symm ev.symm
     obtain⟨u,eu,pu⟩:=E.up.some_of hp
     obtain⟨d,ed,pd⟩:=E.dn.some_of hq
     obtain⟨l1,b1,a1,_⟩:=pu
     obtain⟨l2,b2,a2,_⟩:=pd
     have g1:=G.adj a1
     have g2:=G.adj a2
     exact⟨u,d,eu,ed,by omega,by omega,by omega,by omega⟩
 . have:=zH4 (l:=es.map (·.h)) (a:=0) (b:=n) (by rw[zAh];exact L.hub) (fun x hx=>by
    obtain⟨e,he,rfl⟩:=zAI.mp hx
    exact (L.ent e he).rng) (by omega)
   rw[zC] at this
   omega
 . obtain⟨e,r,hf,_⟩:=(L.lg G v0 v1).zero G
   have hv:∀x∈es.filter (fun e=>decide (e.l=0)),x.h=v:=fun x hx=>by
    obtain⟨h1,h2⟩:=zAG.mp hx
    exact ((zBy G (L.ent x h1).len).mp (of_decide_eq_true h2)).symm
   have hp:(es.filter (fun e=>decide (e.l=0))).Pairwise fun a b=>a.h<b.h:=List.Pairwise.filter _ L.hub
   rw[hf] at hv hp
   have hr:r=[]:=by
    cases r with
    | nil=>rfl
    | cons e' r'=>
     have h1:=hv e zV
     have h2:=hv e' (zc _ zV)
     have:=(zBc.mp hp).1 e' zV
     omega
   rw[List.countP_map,List.countP_eq_length_filter]
   have:(fun x:Int=>x==0)∘(fun e:En=>e.l)=fun e=>decide (e.l=0):=by
    funext e
    show (e.l==0)=decide (e.l=0)
    cases h:decide (e.l=0) with
    | true=>have:=of_decide_eq_true h;rw[this];rfl
    | false=>have:=of_decide_eq_false h;exact beq_false_of_ne this
   rw[this,hf,hr]
   rfl
noncomputable def zFb (ess:List (List En)):Nat->List (Nat×En)
 | 0=>[]
 | i+1=>zFb ess i++((ess.getD i []).filter fun e=>decide (e.l≠0)).map fun e=>(i,e)
noncomputable def zCk (H:Hp)(ys:List V)(fe:List (Nat×En)):Prop:=ys.length=fe.length/\∀(j:Nat)(y:V),ys[j]? = some y->∃(c a:Addr)(i:Nat)(e:En),y = .ref c/\fe[j]? = some (i,e)/\H c=some (.tup [.int i,.ref a])/\H a=some (.tup (eV e))
variable {ys:List V}
theorem zCk.keep {fe:List (Nat×En)}(h:zCk H ys fe)(k:∀b zs,H b=some (.tup zs)->H' b=some (.tup zs)):zCk H' ys fe:=
 ⟨h.1,fun j y e=>let ⟨c,a,i,x,h1,h2,h3,h4⟩:=h.2 j y e;⟨c,a,i,x,h1,h2,k _ _ h3,k _ _ h4⟩⟩
theorem zCk.app {zs:List V}{fe ge:List (Nat×En)}(h:zCk H ys fe)(g:zCk H zs ge):zCk H (ys++zs) (fe++ge):=by
 refine⟨by rw[zL,zL,h.1,g.1],fun j y e=>?_⟩
 by_cases c:j<ys.length
 . rw[zW c] at e
   obtain⟨a,b,i,x,h1,h2,h3⟩:=h.2 j y e
   exact⟨a,b,i,x,h1,by rw[zW (by rw[<-h.1];exact c)];exact h2,h3⟩
 . rw[zQ (by omega)] at e
   obtain⟨a,b,i,x,h1,h2,h3⟩:=g.2 _ y e
   exact⟨a,b,i,x,h1,by rw[zQ (by rw[<-h.1];omega),<-h.1];exact h2,h3⟩
noncomputable def zGO:Sp:=fun vs H Q _=>∃(l:Addr)(ess:List (List En)),vs=[.ref l]/\zBL H l ess/\ess.length<=24/\(∀es∈ess,es.length<=24) /\
 ∀(a:Addr)(ys:List V)(H':Hp),zAi H H'->H a=none->H' a=some (.lst ys)->zCk H' ys (zFb ess ess.length)->Q (.ref a) H'
theorem zEx {ess:List (List En)}:∀{n i:Nat}{e:En},(i,e)∈zFb ess n->i<n/\e∈ess.getD i []
 | 0,_,_,h=>by simp[zFb] at h
 | n+1,i,e,h=>by
  rcases zm.mp (show (i,e)∈zFb ess n++_ from h) with z | z
  . have:=zEx z
    exact⟨by omega,this.2⟩
  . obtain⟨x,hx,ex⟩:=zAI.mp z
    simp only[Prod.mk.injEq] at ex
    obtain⟨rfl,rfl⟩:=ex
    exact⟨by omega,(zAG.mp hx).1⟩
theorem zGi {ess:List (List En)}(h:∀es∈ess,es.length<=24):∀n,(zFb ess n).length<=24*n
 | 0=>zK _
 | n+1=>by
  show (zFb ess n++_).length<=_
  rw[zL,zC]
  have h1:=zGi h n
  have h2:=zAJ (fun e:En=>decide (e.l≠0)) (ess.getD n [])
  have h3:(ess.getD n []).length<=24:=by
   rw[zE]
   cases e:ess[n]? with
   | none=>exact ze _
   | some x=>exact h x (zO e)
  omega
theorem zGQ:zw ["labels", "found", "place", "label"] ["labels"] (defScope zG3):=fS0
theorem zLO (F:Fun K "far_entries" "far_entries" zG3 f fd') (mEnum:mg "enumerate" = none):zAP P w K mg base CX0 1 f fd' ["labels"] zGO:=by
 refine F.okD zGQ fun _ A _ _ H vs Q E hr h=>?_
 obtain⟨l,ess,rfl,LL,hn,hes,k⟩:=h
 obtain⟨as,hl,hal,hA⟩:=id LL
 refine⟨_,zP (zBA (i:=1) zGQ.nd (zCE zN))
  (zP (zBF PassesOwn.never rfl (zEo (by rfl) mEnum (zD (pv 0) zN)) (zCD rfl (zu (zv (i:=2) zGQ.nd rfl (Or.inr rfl)) (zu (zv (i:=3) zGQ.nd rfl (Or.inl rfl)) zBN)))
   (zZ (zCB (zEG PySem.F.plainAttrs_list PySem.F.slot_list_extend PySem.F.type_list_extend zIN (pv 1) (zD
    (zA6 (own:=["entry"]) (cn:=["place"]) (ci:=[2]) rfl (csc rfl rfl) ⟨rfl,rfl,rfl,trivial⟩ rfl (zBv (pv 3)) (fun _ _ _ _=>zBr)
     (fun _ _ _ _=>zCK (zAC zJh (zt zBe (pv 0) zj) zj (zAD _)))
     (fun _ _ _ _=>zBC (zD (pv 1) (zD (pv 0) zN)))) zN)))))
  (zZ (zAA (pv 1)))),?_⟩
 refine⟨by show 0<=sizeLine;decide,fun D hD=>?_⟩
 have s0:=zI (o:=.lst []) hD
 refine⟨_,rfl,l,rfl,⟨_,SqT.of (s0 _ _ hl)⟩,zD2 (K:=K) (a:=l) (xs:=as.map V.ref) (fun i σ H2=>∃(v2 v3:Option V)(ys:List V),σ=[some (.ref l),some (.ref D),v2,v3]/\zAi H H2/\H2 D=some (.lst ys)/\zCk H2 ys (zFb ess i))
  ⟨_,_,[],rfl,s0,zJ,rfl,fun j y e=>by simp at e⟩ (fun i σ H2 _ ⟨_,_,_,_,s2,_⟩=>SqT.of (s2 _ _ hl)) ?turn ?after⟩
 case after=>
  rintro σ H2 ⟨v2,v3,ys,rfl,s2,hD2,FA⟩
  rw[zC,hal] at FA
  exact⟨_,rfl,k D ys H2 s2 hD hD2 FA⟩
 case turn=>
  rintro i x σ H2 Tp hx ⟨v2,v3,ys,rfl,s2,hD2,FA⟩ hTp
  rw[zM] at hx
  cases ha:as[i]? with
  | none=>rw[ha] at hx;cases hx
  | some a=>
  rw[ha] at hx
  cases hx
  have hia:=(zH.mp ha).1
  obtain⟨es,hes1,bs,hb,EA,hl3⟩:=hA i a ha
  have eget:ess.getD i []=es:=by rw[zE,hes1];rfl
  have hel:=hes es (zO hes1)
  have sT:=zI (o:=.tup [.int (i:Int),.ref a]) hTp
  have s3:=s2.trans sT
  refine⟨Tp,_,rfl,SqT.of zJ,rfl,_,_,rfl,_,_,rfl,rfl,?_⟩
  refine⟨_,rfl,.inl ⟨rfl,_,SqL.of (sT _ _ hD2)⟩,_,rfl,a,rfl,⟨_,SqT.of (s3 _ _ hb)⟩,[.int i],rfl,fun D2 hD2'=>?_⟩
  have EA3:zBb (upd H2 Tp (.tup [.int (i:Int),.ref a])) bs es:=EA.keep fun b zs e=>s3 _ _ e
  have hbl:=EA.1
  refine zBX (a:=a) (xs:=bs.map V.ref) (fun j zs H4=>zCk H4 zs (((es.take j).filter fun e=>decide (e.l≠0)).map fun e=>(i,e))/\zAi (upd H2 Tp (.tup [.int (i:Int),.ref a])) H4/\H4 D2=some (.lst zs)) ⟨⟨rfl,fun j y e=>by simp at e⟩,zI hD2',zJ⟩ (fun j zs H4 h=>?_) (fun j zs H4 h=>?_) (fun j v zs H4 hv h=>?_) (fun zs H4 h=>?_)
  . exact SqT.of (h.2.1 _ _ (s3 _ _ hb))
  . rw[h.1.1,zC]
    exact zAU (zAJ _ _) (zAj (by rw[zk];omega))
  . obtain⟨F4,s4,hD4⟩:=h
    obtain⟨c,e,rfl,he,hc⟩:=EA3.at hv
    have hc4:=s4 _ _ hc
    refine⟨⟨rfl,rfl⟩,?_⟩
    refine⟨_,rfl,c,_,_,.int e.l,rfl,rfl,SqT.of hc4,rfl,rfl,_,rfl,?_⟩
    rw[zHN]
    have st:=zFZ (fun e:En=>decide (e.l≠0)) he
    by_cases cc:e.l=0
    . rw[zU cc]
      refine zDH ⟨?_,s4,hD4⟩
      rw[st,if_neg (by simp[cc]),zr]
      exact F4
    . rw[zl cc]
      refine zEv ?_
      refine⟨_,rfl,_,rfl,by show 2<=sizeLine;decide,fun q hq=>?_⟩
      have nDq:=zn hD4 hq
      refine⟨zI hq _ _ hD4,?_,zAY (s4.trans (zI hq)) hD2',zJ⟩
      rw[st,if_pos (by simp[cc]),zS]
      have kp:∀b us,H4 b=some (.tup us)->(upd (upd H4 q (.tup [.int (i:Int),.ref c])) D2 (.lst (zs++[.ref q]))) b=some (.tup us):=fun b us e=>by
       rw[za (zBT e hD4 (by intro z;cases z))]
       exact zI hq _ _ e
      refine (F4.keep kp).app ⟨rfl,fun j' y' e'=>?_⟩
      cases j' with
      | zero=>
       have:V.ref q=y':=by simpa using e'
       subst this
       exact⟨q,c,i,e,rfl,rfl,by rw[za nDq.symm];exact zJ,kp _ _ hc4⟩
      | succ z=>simp at e'
  . obtain⟨F4,s4,hD4⟩:=h
    rw[zC,EA.1,zb (zK _)] at F4
    have hDD:=s4 _ _ (sT _ _ hD2)
    have f1:=zGi hes i
    have f2:=FA.1
    have f3:=F4.1
    have f4:=zAJ (fun e:En=>decide (e.l≠0)) es
    rw[zC] at f3
    refine⟨D,D2,_,_,rfl,rfl,hDD,hD4,zAw (zAj (by omega)),?_⟩
    have s5:=zAY (o:=.lst (ys++zs)) (s3.trans s4) hD
    have kp:∀b us,H4 b=some (.tup us)->(upd H4 D (.lst (ys++zs))) b=some (.tup us):=fun b us e=>by rw[za (zBT e hDD (by intro z;cases z))];exact e
    refine⟨_,_,ys++zs,rfl,s5,zJ,?_⟩
    show zCk _ _ (zFb ess i++_)
    rw[eget]
    exact ((FA.keep fun b us e=>s4 _ _ (sT _ _ e)).keep kp).app (F4.keep kp)
structure LbK (n:Int)(ess:List (List En)):Prop where
 ln:ess.length=n.toNat
 kd:∀es∈ess,zBa n es
structure FrE (ess:List (List En))(i:Nat)(e:En):Prop where
 hi:i<ess.length
 mem:e∈ess.getD i []
 far:e.l≠0
noncomputable def UpR (ts:List T3)(ess:List (List En))(i:Nat)(e:En):Prop:=∃u t f,e.u=some u/\Adj ts i u t/\f∈ess.getD u.toNat []/\f.h=e.h/\f.l=e.l-t
noncomputable def DnR (ts:List T3)(ess:List (List En))(i:Nat)(e:En):Prop:=∃d t c,e.d=some d/\Adj ts e.h d t/\zDa (Cd (ess.getD d.toNat []) (ess.getD i [])) (some c)/\c.1=e.l-t
noncomputable def TieR (ts:List T3)(ess:List (List En))(u v:Nat):Prop:=∀(w t:Int) lv lw,Adj ts v w t->zDa (Cd (ess.getD v []) (ess.getD u [])) lv->zDa (Cd (ess.getD w.toNat []) (ess.getD u [])) lw->∀c,lv=some c->∃c',lw=some c'/\c'.1<=c.1+t
structure zCO (ts:List T3)(n:Int)(ess:List (List En)):Prop where
 own:∀(i:Nat) e r,i<ess.length->(ess.getD i []).filter (fun e=>decide (e.l=0))=e::r->e.h=i
 up:∀i e,FrE ess i e->UpR ts ess i e
 tie:∀u v:Nat,u<ess.length->v<ess.length->TieR ts ess u v
 dn:∀i e,FrE ess i e->DnR ts ess i e
variable {i:Nat}
theorem getD_some {α:Type}{l:List (List α)}(h:i<l.length):l[i]? = some (l.getD i []):=by
 rw[zE,zB h];rfl
theorem LbK.at (K:LbK n ess)(h:i<ess.length):zBa n (ess.getD i []):=K.kd _ (zO (getD_some h))
theorem zFO:∀l:List (Int×Int),∃lm,zDa (fun c=>c∈l) lm
 | []=>⟨none,fun c z=>by cases z⟩
 | a::l=>by
  obtain⟨lm,h⟩:=zFO l
  cases lm with
  | none=>
   refine⟨some a,zV,fun c hc=>?_⟩
   rcases zi.mp hc with rfl | z
   . exact .inr ⟨rfl,zBS _⟩
   . exact absurd z (h c)
  | some b=>
   by_cases q:a.1<b.1\/(a.1=b.1/\a.2<=b.2)
   . refine⟨some a,zV,fun c hc=>?_⟩
     rcases zi.mp hc with rfl | z
     . exact .inr ⟨rfl,zBS _⟩
     . have:=h.2 c z
       omega
   . refine⟨some b,zc _ h.1,fun c hc=>?_⟩
     rcases zi.mp hc with rfl | z
     . omega
     . exact h.2 c z
theorem zIT {fs:List En}(hf:Hub fs):∃lm,zDa (Cd es fs) lm:=by
 obtain⟨lm,h⟩:=zFO (es.filterMap (cOf fs))
 exact⟨lm,h.congr (zI1 hf)⟩
theorem zBa.zero (K:zBa n es):∃e,es.filter (fun e=>decide (e.l=0))=[e]:=by
 have h:=K.one
 rw[List.countP_map,List.countP_eq_length_filter] at h
 have e:(fun e:En=>decide (e.l=0))=((fun x:Int=>x==0)∘fun x:En=>x.l):=by
  funext x
  show decide (x.l=0)=(x.l==0)
  rw[Bool.eq_iff_iff,decide_eq_true_iff,beq_iff_eq]
 rw[<-e] at h
 exact List.length_eq_one_iff.mp h
theorem zCO.zero {ts:List T3}{n:Int}{ess:List (List En)}(K:LbK n ess)(L:zCO ts n ess){i:Nat}(hi:i<ess.length){e:En}(he:e∈ess.getD i []):e.l=0↔e.h=i:=by
 obtain⟨o,ho⟩:=(K.at hi).zero
 have h1:=L.own i o [] hi ho
 have om:o∈(ess.getD i []).filter (fun e=>decide (e.l=0)):=by rw[ho];exact zV
 obtain⟨o1,o2⟩:=zAG.mp om
 constructor
 . intro z
   have:e∈(ess.getD i []).filter (fun e=>decide (e.l=0)):=zAG.mpr ⟨he,zU z⟩
   rw[ho] at this
   rw[zf.mp this,h1]
 . intro z
   have hb:=(K.at hi).hub
   have a:=(zBz hb).mpr ⟨he,z⟩
   have b:=(zBz hb).mpr ⟨o1,h1⟩
   rw[a] at b
   cases b
   exact of_decide_eq_true o2
theorem zCO.own' (K:LbK n ess)(L:zCO ts n ess)(hi:i<ess.length):∃e∈ess.getD i [],e.h=i/\e.l=0:=by
 obtain⟨o,ho⟩:=(K.at hi).zero
 have om:o∈(ess.getD i []).filter (fun e=>decide (e.l=0)):=by rw[ho];exact zV
 obtain⟨o1,o2⟩:=zAG.mp om
 exact⟨o,o1,L.own i o [] hi ho,of_decide_eq_true o2⟩
theorem zCO.way {ts:List T3}{n:Int}{ess:List (List En)}(G:GW n ts)(K:LbK n ess)(L:zCO ts n ess):∀(m:Nat){i:Nat}{e:En},i<ess.length->e∈ess.getD i []->e.l.toNat<=m->Way ts i e.h e.l
 | m,i,e,hi,he,hm=>by
  have hln:=K.ln
  have E:=(K.at hi).ent e he
  by_cases z:e.l=0
  . rw[(L.zero K hi he).mp z,z];exact .nil _
  . obtain⟨u,t,f,_,ha,hf,fh,fl⟩:=L.up i e ⟨hi,he,z⟩
    have r:=G.adj ha
    have hu:u.toNat<ess.length:=by omega
    have F:=(K.at hu).ent f hf
    have:=F.nn
    have:=E.nn
    match m with
    | 0=>omega
    | m+1=>
     have w:=zCO.way G K L m hu hf (by omega)
     rw[fh,fl,show ((u.toNat:Nat):Int)=u by omega] at w
     have:=(Way.one ha).trans w
     rwa [show t+(e.l-t)=e.l by omega] at this
theorem zCO.le (G:GW n ts)(K:LbK n ess)(L:zCO ts n ess){u:Int}(w:Way ts v u d):0<=u->u<n->∀lm,zDa (Cd (ess.getD v.toNat []) (ess.getD u.toNat [])) lm->∃c,lm=some c/\c.1<=d:=by
 have hln:=K.ln
 induction w with
 | nil x=>
  intro x0 x1 lm h
  obtain⟨o,o1,o2,o3⟩:=L.own' K (i:=x.toNat) (by omega)
  have cd:Cd (ess.getD x.toNat []) (ess.getD x.toNat []) (o.l+o.l,o.h):=⟨o,o1,o,o1,rfl,rfl⟩
  cases lm with
  | none=>exact absurd cd (h _)
  | some c=>
   refine⟨c,rfl,?_⟩
   have:=h.2 _ cd
   simp only[o3] at this
   omega
 | @cons x z y l d ha w ih=>
  intro y0 y1 lm h
  have r:=G.adj ha
  obtain⟨lz,hz⟩:=zIT (es:=ess.getD z.toNat []) (K.at (i:=y.toNat) (by omega)).hub
  obtain⟨c,rfl,hc⟩:=ih y0 y1 lz hz
  have T:=L.tie y.toNat z.toNat (by omega) (by omega)
  have ha':Adj ts ((z.toNat:Nat):Int) x l:=by
   rw[show ((z.toNat:Nat):Int)=z by omega]
   exact Or.symm ha
  obtain⟨c',rfl,hc'⟩:=T x l _ _ ha' hz h c rfl
  exact⟨c',rfl,by omega⟩
theorem zCO.told (G:GW n ts)(K:LbK n ess)(L:zCO ts n ess)(hi:i<ess.length)(hj:j<ess.length){lm:Option (Int×Int)}(h:zDa (Cd (ess.getD i []) (ess.getD j [])) lm):Len ts i j (lm.map (·.1)):=by
 have hln:=K.ln
 have le:∀d,Way ts i j d->∃c,lm=some c/\c.1<=d:=fun d w=>L.le G K w (by omega) (by omega) lm h
 cases lm with
 | none=>
  intro d w
  obtain⟨c,z,_⟩:=le d w
  cases z
 | some c=>
  obtain⟨⟨e,he,f,hf,hfe,rfl⟩,_⟩:=h
  have w1:=L.way G K _ hi he (zK _)
  have w2:=L.way G K _ hj hf (zK _)
  rw[hfe] at w2
  refine⟨w1.trans w2.symm,fun d w=>?_⟩
  obtain⟨c,z,hc⟩:=le d w
  cases z
  exact hc
theorem zCO.step (G:GW n ts)(K:LbK n ess)(L:zCO ts n ess)(hi:i<ess.length)(hj:j<ess.length)(ne:i≠j){c:Int×Int}(h:zDa (Cd (ess.getD i []) (ess.getD j [])) (some c)):∃p,zHg (ess.getD i []) (ess.getD j []) i j (some c)=some p/\Nxt ts i j p:=by
 have hln:=K.ln
 have td:WM.IsD ts i j c.1:=L.told G K hi hj h
 obtain⟨⟨e,he,f,hf,hfe,rfl⟩,_⟩:=h
 have w1:=L.way G K _ hi he (zK _)
 have w2:=L.way G K _ hj hf (zK _)
 rw[hfe] at w2
 have nij:¬ (i:Int)=j:=by omega
 show ∃p,(if (i:Int)=j then none else if e.h=i then (zED (ess.getD j []) e.h).bind (·.d) else (zED (ess.getD i []) e.h).bind (·.u))=some p/\_
 rw[if_neg nij]
 have td':WM.IsD ts i j (e.l+f.l):=td
 by_cases q:e.h=i
 . rw[if_pos q,(zBz (K.at hj).hub).mpr ⟨hf,hfe⟩]
   have e0:=(L.zero K hi he).mpr q
   have fl:f.l≠0:=fun z=>nij ((zBy G td').mp (by omega))
   obtain⟨d,t,c,hd,ha,hm,hc⟩:=L.dn j f ⟨hj,hf,fl⟩
   rw[hfe,q] at ha
   have r:=G.adj ha
   have dd:=L.told G K (i:=d.toNat) (by omega) hj hm
   rw[show ((d.toNat:Nat):Int)=d by omega] at dd
   have dd':WM.IsD ts d j c.1:=dd
   refine⟨d,hd,t,c.1,ha,dd',?_⟩
   rw[hc,show t+(f.l-t)=e.l+f.l by omega]
   exact td'
 . rw[if_neg q,(zBz (K.at hi).hub).mpr ⟨he,rfl⟩]
   have el:e.l≠0:=fun z=>q ((L.zero K hi he).mp z)
   obtain⟨u,t,g,hu,ha,hg,gh,gl⟩:=L.up i e ⟨hi,he,el⟩
   have r:=G.adj ha
   have w3:=L.way G K _ (i:=u.toNat) (by omega) hg (zK _)
   rw[gh,gl,show ((u.toNat:Nat):Int)=u by omega] at w3
   refine⟨u,hu,t,e.l-t+f.l,ha,⟨w3.trans w2.symm,fun d w=>?_⟩,?_⟩
   . have:=td'.2 _ ((Way.one ha).trans w)
     omega
   . rw[show t+(e.l-t+f.l)=e.l+f.l by omega]
     exact td'
theorem zHU.let (G:GW n ts)(L:zHU ts n ess)(U:∀i e p,FrE ess i e->e.u=some p->Nxt ts i e.h p->∃f∈ess.getD p.toNat [],f.h=e.h):zCO ts n ess:=by
 have hln:=L.ln
 have lg:∀i,i<ess.length->LG ts n i (ess.getD i []):=fun i hi=>L.lg i _ (getD_some hi)
 have td:∀ {i j lm},i<ess.length->j<ess.length->zDa (Cd (ess.getD i []) (ess.getD j [])) lm->Len ts i j (lm.map (·.1)):=fun {i j lm} hi hj h=>(zGv G (lg i hi) (lg j hj) (L.cov i j _ _ (getD_some hi) (getD_some hj)) h).1
 refine⟨fun i e r hi hf=>?_,fun i e F=>?_,fun u v hu hv w t lv lw ha h1 h2 c hc=>?_,fun i e F=>?_⟩
 . obtain⟨e',r',h1,h2⟩:=(lg i hi).zero G
   rw[hf] at h1
   cases h1
   exact h2
 . have E:=(lg i F.hi).ent e F.mem
   have ne:e.h≠i:=fun z=>F.far ((zBy G E.len).mpr z.symm)
   obtain⟨p,hp,x⟩:=E.up ne
   obtain⟨f,hf,fh⟩:=U i e p F hp x
   obtain⟨l,b,ha,ib,iab⟩:=x
   have r:=G.adj ha
   have Ef:=((lg p.toNat (by omega)).ent f hf).len
   rw[fh,show ((p.toNat:Nat):Int)=p by omega] at Ef
   refine⟨p,l,f,hp,ha,hf,fh,?_⟩
   rw[Ef.uniq ib,E.len.uniq iab]
   omega
 . subst hc
   have r:=G.adj ha
   have a:=td hv hu h1
   have b:=td (i:=w.toNat) (by omega) hu h2
   rw[show ((w.toNat:Nat):Int)=w by omega] at b
   have wy:=(Way.one ha).symm.trans (show WM.IsD ts v u c.1 from a).1
   cases lw with
   | none=>exact absurd wy (b _)
   | some c'=>exact⟨c',rfl,by have:=(show WM.IsD ts w u c'.1 from b).2 _ wy;omega⟩
 . have E:=(lg i F.hi).ent e F.mem
   have ne:e.h≠i:=fun z=>F.far ((zBy G E.len).mpr z.symm)
   obtain⟨p,hp,l,b,ha,ib,iab⟩:=E.dn ne
   have r:=G.adj ha
   obtain⟨lm,hm⟩:=zIT (es:=ess.getD p.toNat []) (lg i F.hi).hub
   have b':=td (i:=p.toNat) (by omega) F.hi hm
   rw[show ((p.toNat:Nat):Int)=p by omega] at b'
   cases lm with
   | none=>exact absurd ib.1 (b' b)
   | some c=>
    refine⟨p,l,c,hp,ha,hm,?_⟩
    have e1:c.1=b:=WM.IsD.uniq (show WM.IsD ts p i c.1 from b') ib
    rw[e1,E.len.symm.uniq iab]
    omega
theorem zDX.let {ts:List T3}{n:Int}{rk:Int->Int}{os:List Int}{ess:List (List En)}(G:GW n ts)(R:RkOf n os rk)(L:zDX ts n rk ess):zCO ts n ess:=by
 refine zHU.let G (L.good G R) fun i e p F _ x=>?_
 have hl:=L.1
 have E:=(L.2 i _ (getD_some F.hi)).ent e F.mem
 obtain⟨l,b,ha,ib,iab⟩:=x
 have r:=G.adj ha
 have hp:p.toNat<ess.length:=by omega
 have Lp:=L.2 p.toNat _ (getD_some hp)
 rw[show ((p.toNat:Nat):Int)=p by omega] at Lp
 refine Lp.all e.h E.rng.1 E.rng.2 ⟨⟨b,ib.symm⟩,fun q hq=>E.hub.2 q ?_⟩
 refine Btw.trans (p:=p) ⟨b,l,ib.symm,?_,?_⟩ hq
 . refine⟨(Way.one ha).symm,fun d hd=>?_⟩
   have:=iab.2 _ (hd.symm.trans ib.1)
   omega
 . rw[Int.add_comm];exact iab.symm
structure LtK (H:Hp)(wa la:Addr)(n:Int)(ts:List T3)(ess:List (List En)):Prop where
 wb:zBs H wa n ts
 lb:zBL H la ess
 kd:LbK n ess
theorem LtK.same (h:LtK H wa la n ts ess)(s:zAi H H'):LtK H' wa la n ts ess:=⟨h.wb.keep s,h.lb.keep fun b ys e=>s _ _ e,h.kd⟩
noncomputable def spUr (R:List T3->List (List En)->Nat->En->Prop):Sp:=fun vs H Q _=>∃(wa la a:Addr)(i:Nat)(n:Int)(ts:List T3)(ess:List (List En))(e:En),vs=[.ref wa,.ref la,.int i,.ref a]/\LtK H wa la n ts ess/\H a=some (.tup (eV e))/\FrE ess i e/\∀(b:Bool) H',(b=true↔R ts ess i e)->zAi H H'->Q (.bl b) H'
noncomputable def zGy (R:List T3->List (List En)->Prop):Sp:=fun vs H Q _=>∃(wa la:Addr)(n:Int)(ts:List T3)(ess:List (List En)),vs=[.ref wa,.ref la]/\LtK H wa la n ts ess/\∀v H',(v = .non↔R ts ess)->zAi H H'->Q v H'
noncomputable def OwnR (ess:List (List En)):Prop:=∀(i:Nat) e r,i<ess.length->(ess.getD i []).filter (fun e=>decide (e.l=0))=e::r->e.h=i
noncomputable def spOf:Sp:=fun vs H Q _=>∃(wa la:Addr)(n:Int)(ts:List T3)(ess:List (List En)),vs=[.ref la]/\LtK H wa la n ts ess/\∀v H',(v = .non↔OwnR ess)->zAi H H'->Q v H'
noncomputable def grB:Option Int->Option Int->Int->Bool
 | none,_,_=>false
 | some _,none,_=>true
 | some d,some c,l=>decide (d+l<c)
noncomputable def spGm:Sp:=fun vs H Q _=>∃(x y:Option Int)(l:Int),vs=[oV x,oV y,.int l]/\Q (.bl (grB x y l)) H
noncomputable def zHj (C:Addr):Sp:=fun vs H Q E=>∃(x:Str)(v:V),vs=[.str x,v]/\(v = .non->Q .non H)/\(v ≠ .non->∀tt dx,H tt=none->H dx=none->tt≠dx->E (.ref C) (some dx) (upd (upd H tt (.tup [.str x,v])) dx (dO dx [("word",.str x),("at",v)])))
noncomputable def zHl (C:Addr):Sp:=fun vs H Q E=>∃(wa la:Addr)(n:Int)(ts:List T3)(ess:List (List En)),vs=[.ref wa,.ref la]/\LtK H wa la n ts ess/\(zCO ts n ess->∀H',zAi H H'->Q (.bl true) H')/\(¬ zCO ts n ess->∀od H',zAi H H'->E (.ref C) od H')
noncomputable def spIl:Sp:=fun vs H Q _=>∃(wa la:Addr)(n:Int)(ts:List T3)(ess:List (List En)),vs=[.ref wa,.ref la]/\LtK H wa la n ts ess/\∀(b:Bool) H',(b=true↔zCO ts n ess)->zAi H H'->Q (.bl b) H'
theorem LtK.at {H:Hp}{wa la:Addr}{n:Int}{ts:List T3}{ess:List (List En)}(h:LtK H wa la n ts ess){p:Int}(p0:0<=p)(p1:p<n):∃(as:List Addr)(c:Addr),H la=some (.tup (as.map V.ref))/\(as.map V.ref)[p.toNat]? = some (.ref c)/\p.toNat<ess.length/\zBV H c (ess.getD p.toNat [])/\zBa n (ess.getD p.toNat []):=by
 obtain⟨as,hl,hal,hA⟩:=h.lb
 have hln:=h.kd.ln
 have hp:p.toNat<as.length:=by omega
 obtain⟨es,he,L⟩:=hA p.toNat as[p.toNat] (zB hp)
 have e:ess.getD p.toNat []=es:=by rw[zE,he];rfl
 refine⟨as,as[p.toNat],hl,by rw[zM,zB hp];rfl,by omega,by rw[e];exact L,h.kd.at (by omega)⟩
theorem zGj (hi:i<ess.length)(he:e∈ess.getD i [])(hl:e.l≠0):(i,e)∈zFb ess ess.length:=by
 have:∀n,i<n->(i,e)∈zFb ess n:=by
  intro n
  induction n with
  | zero=>intro z;exact absurd z (zBB _)
  | succ n ih=>
   intro z
   show (i,e)∈zFb ess n++_
   by_cases q:i=n
   . subst q
     exact zg _ (zAI.mpr ⟨e,zAG.mpr ⟨he,by simpa using hl⟩,rfl⟩)
   . exact zAE _ (ih (by omega))
 exact this _ hi
theorem scUr:zw ["web", "labels", "place", "entry", "tie", "above"] ["web", "labels", "place", "entry"] (defScope sUr):=fS0
theorem ok_ur (F:Fun K "is_up_right" "is_up_right" sUr f fd') (FL:FuB K mg "long_of" zG2 fL fdL ["web","one","other"]) (GL:zAP P w K mg base CX0 3 fL fdL ["web", "one", "other"] zGN)
 (FE:FuB K mg "entry_of" sEnt fE fdE ["label","hub"]) (GE:zAP P w K mg base CX0 3 fE fdE ["label", "hub"] zKm):zAP P w K mg base CX0 4 f fd' ["web", "labels", "place", "entry"] (spUr UpR):=by
 refine F.okD scUr fun _ A _ _ H vs Q E hr h=>?_
 obtain⟨wa,la,a,i,n,ts,ess,e,rfl,I,ha,fe,k⟩:=h
 obtain⟨_,_,_,_,_,G⟩:=id I.wb
 obtain⟨p,d,eu,ed,p0,p1,_⟩:=((I.kd.at fe.hi).ent e fe.mem).far fe.far
 have hev:eV e=[.int e.h,.int e.l,.int p,oV e.d]:=by unfold eV;rw[eu];rfl
 refine⟨_,zP (zBA (i:=4) scUr.nd (zAL GL hr FL (zD (pv 0) (zD (pv 2) (zD (zt zAF (pv 3) zj) zN)))))
  (zP (zBA (i:=5) scUr.nd (zAL GE hr FE (zD (zt zAF (pv 1) (zt zAF (pv 3) zj)) (zD (zt zAF (pv 3) zj) zN))))
  (zZ (zAA (zCZ (zBO zCu (pv 4) zAp (zAD _)) (zCZ (zBO zCu (pv 5) zAp (zAD _)) (zCd (zBO zBw (zt zAF (pv 5) zj) (zA5 zGa (zt zAF (pv 3) zj) (pv 4)) (zAD _)))))))),?_⟩
 rw[hev] at ha
 refine⟨_,rfl,_,rfl,_,rfl,a,_,_,.int p,rfl,rfl,SqT.of ha,rfl,wa,n,ts,i,p,rfl,I.wb,fun r H1 s1 hr1=>?_⟩
 obtain⟨as,c,h1,h2,hp,L3,K3⟩:=(I.same s1).at p0 p1
 have ha1:=s1 _ _ ha
 refine⟨_,rfl,_,rfl,a,_,_,.int p,rfl,rfl,SqT.of ha1,rfl,la,_,_,.ref c,rfl,rfl,SqT.of h1,zAe p0 h2,_,rfl,a,_,_,.int e.h,rfl,rfl,SqT.of ha1,rfl,c,_,e.h,rfl,L3,(fun z=>?_),fun g a' hg ha'=>?_⟩
 . have no:¬ UpR ts ess i e:=fun ⟨u,t,f,hu,_,hf,fh,_⟩=>by
    rw[eu] at hu;cases hu
    exact zFd.mp z f hf fh
   rcases hr1 with ⟨l,hl,rfl⟩ | ⟨nt,rfl⟩
   . refine⟨_,rfl,rfl,_,rfl,ifT (by rfl) ?_⟩
     exact⟨_,rfl,rfl,_,rfl,ifF (by rfl) (k false H1 ⟨(fun z=>by cases z),fun z=>absurd z no⟩ s1)⟩
   . exact⟨_,rfl,rfl,_,rfl,ifF (by rfl) (k false H1 ⟨(fun z=>by cases z),fun z=>absurd z no⟩ s1)⟩
 . obtain⟨gm,gh⟩:=(zBz K3.hub).mp hg
   rcases hr1 with ⟨l,hl,rfl⟩ | ⟨nt,rfl⟩
   . refine⟨_,rfl,rfl,_,rfl,ifT (by rfl) ?_⟩
     refine⟨_,rfl,rfl,_,rfl,ifT (by rfl) ?_⟩
     refine⟨_,rfl,a',_,_,.int g.l,rfl,rfl,SqT.of ha',rfl,_,rfl,a,_,_,.int e.l,rfl,rfl,SqT.of ha1,rfl,_,rfl,_,_,rfl,rfl,rfl,?_⟩
     refine k _ H1 ⟨fun z=>?_,fun ⟨u,t,f,hu,ht,hf,fh,fl⟩=>?_⟩ s1
     . have z':=of_decide_eq_true z
       injection z' with z'
       exact⟨p,l,g,eu,hl,gm,gh,z'⟩
     . rw[eu] at hu;cases hu
       obtain rfl:=G.uniq hl ht
       have:zED (ess.getD p.toNat []) e.h=some f:=(zBz K3.hub).mpr ⟨hf,fh⟩
       rw[hg] at this;cases this
       exact zU (by rw[fl])
   . refine⟨_,rfl,rfl,_,rfl,ifF (by rfl) (k false H1 ⟨(fun z=>by cases z),fun ⟨u,t,f,hu,ht,_⟩=>?_⟩ s1)⟩
     rw[eu] at hu;cases hu
     exact absurd ht (nt t)
theorem scDr:zw ["web", "labels", "place", "entry", "tie"] ["web", "labels", "place", "entry"] (defScope sDr):=fS0
theorem ok_dr {fT:Addr}(F:Fun K "is_down_right" "is_down_right" sDr f fd') (FL:FuB K mg "long_of" zG2 fL fdL ["web","one","other"]) (GL:zAP P w K mg base CX0 3 fL fdL ["web", "one", "other"] zGN)
 (FT:FuB K mg "told" zF2 fT fdT ["one","other"]) (GT:zAP P w K mg base CX0 3 fT fdT ["one", "other"] zE9):zAP P w K mg base CX0 4 f fd' ["web", "labels", "place", "entry"] (spUr DnR):=by
 refine F.okD scDr fun _ A _ _ H vs Q E hr h=>?_
 obtain⟨wa,la,a,i,n,ts,ess,e,rfl,I,ha,fe,k⟩:=h
 obtain⟨_,_,_,_,_,G⟩:=id I.wb
 obtain⟨u,p,eu,ed,_,_,p0,p1⟩:=((I.kd.at fe.hi).ent e fe.mem).far fe.far
 have hln:=I.kd.ln
 have hi:=fe.hi
 have hev:eV e=[.int e.h,.int e.l,oV e.u,.int p]:=by unfold eV;rw[ed];rfl
 refine⟨_,zP (zBA (i:=4) scDr.nd (zAL GL hr FL (zD (pv 0) (zD (zt zAF (pv 3) zj) (zD (zt zAF (pv 3) zj) zN)))))
  (zZ (zAA (zCZ (zBO zCu (pv 4) zAp (zAD _)) (zCd (zBO zBw (zAL GT hr FT (zD (zt zAF (pv 1) (zt zAF (pv 3) zj)) (zD (zt zAF (pv 1) (pv 2)) zN))) (zA5 zGa (zt zAF (pv 3) zj) (pv 4)) (zAD _)))))),?_⟩
 rw[hev] at ha
 refine⟨_,rfl,_,rfl,a,_,_,.int e.h,rfl,rfl,SqT.of ha,rfl,_,rfl,a,_,_,.int p,rfl,rfl,SqT.of ha,rfl,wa,n,ts,e.h,p,rfl,I.wb,fun r H1 s1 hr1=>?_⟩
 have ha1:=s1 _ _ ha
 rcases hr1 with ⟨l,hl,rfl⟩ | ⟨nt,rfl⟩
 . obtain⟨as,ax,h1,gx,hp,lx,Kx⟩:=(I.same s1).at p0 p1
   obtain⟨as2,ay,h12,gy,hi',ly,Ky⟩:=(I.same s1).at (show (0:Int)<=i by omega) (show (i:Int)<n by omega)
   rw[show ((i:Int)).toNat=i by omega] at gy hi' ly Ky
   rw[h1] at h12
   have e12:as.map V.ref=as2.map V.ref:=by injection h12 with z;injection z
   rw[<-e12] at gy
   refine⟨_,rfl,rfl,_,rfl,ifT (by rfl) ?_⟩
   refine⟨_,rfl,_,rfl,a,_,_,.int p,rfl,rfl,SqT.of ha1,rfl,la,_,_,.ref ax,rfl,rfl,SqT.of h1,zAe p0 gx,_,rfl,_,rfl,la,_,_,.ref ay,rfl,rfl,SqT.of h1,zAe (by omega) gy,ax,ay,_,_,rfl,lx,ly,Ky.hub,fun lm H2 s2 hm=>?_⟩
   have s12:=s1.trans s2
   refine⟨_,rfl,a,_,_,.int e.l,rfl,rfl,SqT.of (s12 _ _ ha),rfl,_,rfl,_,_,rfl,rfl,by cases lm <;> rfl,?_⟩
   refine k _ H2 ⟨fun z=>?_,fun ⟨d,t,c,hd,ht,hm',hc⟩=>?_⟩ s12
   . have z':=of_decide_eq_true z
     cases lm with
     | none=>cases z'
     | some c=>
      injection (show V.int c.1=V.int (e.l-l) from z') with z'
      exact⟨p,l,c,ed,hl,hm,z'⟩
   . rw[ed] at hd;cases hd
     obtain rfl:=G.uniq hl ht
     obtain rfl:=hm.uniq hm'
     exact zU (by show V.int c.1=_;rw[hc])
 . refine⟨_,rfl,rfl,_,rfl,ifF (by rfl) (k false H1 ⟨(fun z=>by cases z),fun ⟨d,t,c,hd,ht,_⟩=>?_⟩ s1)⟩
   rw[ed] at hd;cases hd
   exact absurd ht (nt t)
theorem scUf:zw ["web", "labels", "place", "entry"] ["web", "labels"] (defScope sUf):=fS0
theorem zEy {ess:List (List En)}:∀{n i:Nat}{e:En},(i,e)∈zFb ess n->e.l≠0
 | 0,_,_,h=>by simp[zFb] at h
 | n+1,i,e,h=>by
  rcases zm.mp (show (i,e)∈zFb ess n++_ from h) with z | z
  . exact zEy z
  . obtain⟨x,hx,ex⟩:=zAI.mp z
    simp only[Prod.mk.injEq] at ex
    obtain⟨rfl,rfl⟩:=ex
    simpa using (zAG.mp hx).2
variable {fU:Addr}{fdU:FuncData}
theorem ok_uf (F:Fun K "up_fault" "up_fault" sUf f fd') (FF:FuB K mg "far_entries" zG3 fF fdF ["labels"]) (GF:zAP P w K mg base CX0 4 fF fdF ["labels"] zGO)
 (FU:FuB K mg "is_up_right" sUr fU fdU ["web","labels","place","entry"]) (GU:zAP P w K mg base CX0 4 fU fdU ["web", "labels", "place", "entry"] (spUr UpR)):zAP P w K mg base CX0 5 f fd' ["web", "labels"] (zGy fun ts ess=>∀i e,FrE ess i e->UpR ts ess i e):=by
 refine F.okD scUf fun _ A _ _ H vs Q E hr h=>?_
 obtain⟨wa,la,n,ts,ess,rfl,I,k⟩:=h
 obtain⟨_,_,_,_,_,G⟩:=id I.wb
 have hn:=G.n24
 have hl:=I.kd.ln
 refine⟨_,zP (zBF PassesOwn.never rfl (zB2 (zAL GF hr FF (zD (pv 1) zN))) (zCD rfl (zu (zv (i:=2) scUf.nd rfl (Or.inl rfl)) (zu (zv (i:=3) scUf.nd rfl (Or.inl rfl)) zBN)))
  (zZ (zA9 (zCR (zCC (zAL GU hr FU (zD (pv 0) (zD (pv 1) (zD (pv 2) (zD (pv 3) zN))))))) (zZ (zAA (zBC (zD (pv 2) (zD (zt zAF (pv 3) zj) zN))))) zAR)))
  (zZ (zAA zAp)),?_⟩
 refine⟨_,rfl,la,ess,rfl,I.lb,by omega,fun es hes=>?_,fun D ys H1 s1 _ hD FA=>?_⟩
 . have:=(I.kd.kd es hes).len
   omega
 refine⟨D,rfl,⟨_,SqL.of hD⟩,zCm (K:=K) (a:=D) (xs:=ys) (fun j σ H2=>∃v2 v3:Option V,σ=[some (.ref wa),some (.ref la),v2,v3]/\zAi H1 H2/\∀i e,(i,e)∈(zFb ess ess.length).take j->UpR ts ess i e) ⟨_,_,rfl,zAi.refl _,(fun i e z=>by rw[List.take_zero] at z;cases z)⟩ (fun j σ H2 _ z=>?_) (fun j x σ H2 hx z=>?_) (fun σ H2 z=>?_)⟩
 . obtain⟨_,_,_,s2,_⟩:=z
   exact SqL.of (s2 _ _ hD)
 . obtain⟨v2,v3,rfl,s2,all⟩:=z
   obtain⟨c,a,i,e,rfl,hf,hc,ha⟩:=FA.2 j x hx
   have hm:=zO hf
   obtain⟨m1,m2⟩:=zEx hm
   have fe:FrE ess i e:=⟨m1,m2,zEy hm⟩
   refine⟨c,_,rfl,SqT.of (s2 _ _ hc),rfl,_,_,rfl,_,_,rfl,rfl,?_⟩
   refine⟨_,rfl,_,rfl,_,rfl,_,rfl,wa,la,a,i,n,ts,ess,e,rfl,(I.same s1).same s2,s2 _ _ ha,fe,fun b H3 hb s3=>?_⟩
   refine⟨b,rfl,?_⟩
   cases b with
   | true=>
    refine zDH ⟨_,_,rfl,s2.trans s3,fun i' e' z=>?_⟩
    rw[zq,hf] at z
    rcases zm.mp z with z | z
    . exact all i' e' z
    . have:=zf.mp z
      injection this with q1 q2
      subst q1 q2
      exact hb.mp rfl
   | false=>
    refine zEv ?_
    refine⟨_,rfl,_,rfl,a,_,_,.int e.h,rfl,rfl,SqT.of (s3 _ _ (s2 _ _ ha)),rfl,by show 2<=sizeLine;decide,fun q hq=>?_⟩
    refine k _ _ ⟨(fun z=>by cases z),fun z=>?_⟩ (s1.trans (s2.trans (s3.trans (zI hq))))
    have:=hb.mpr (z i e fe)
    cases this
 . obtain⟨v2,v3,rfl,s2,all⟩:=z
   refine k _ _ ⟨fun _ i e fe=>all i e ?_,fun _=>rfl⟩ (s1.trans s2)
   rw[FA.1,zb (zK _)]
   exact zGj fe.hi fe.mem fe.far
theorem scDf:zw ["web", "labels", "place", "entry"] ["web", "labels"] (defScope sDf):=fS0
theorem ok_df (F:Fun K "down_fault" "down_fault" sDf f fd') (FF:FuB K mg "far_entries" zG3 fF fdF ["labels"]) (GF:zAP P w K mg base CX0 4 fF fdF ["labels"] zGO)
 (FU:FuB K mg "is_down_right" sDr fU fdU ["web","labels","place","entry"]) (GU:zAP P w K mg base CX0 4 fU fdU ["web", "labels", "place", "entry"] (spUr DnR)):zAP P w K mg base CX0 5 f fd' ["web", "labels"] (zGy fun ts ess=>∀i e,FrE ess i e->DnR ts ess i e):=by
 refine F.okD scDf fun _ A _ _ H vs Q E hr h=>?_
 obtain⟨wa,la,n,ts,ess,rfl,I,k⟩:=h
 obtain⟨_,_,_,_,_,G⟩:=id I.wb
 have hn:=G.n24
 have hl:=I.kd.ln
 refine⟨_,zP (zBF PassesOwn.never rfl (zB2 (zAL GF hr FF (zD (pv 1) zN))) (zCD rfl (zu (zv (i:=2) scDf.nd rfl (Or.inl rfl)) (zu (zv (i:=3) scDf.nd rfl (Or.inl rfl)) zBN)))
  (zZ (zA9 (zCR (zCC (zAL GU hr FU (zD (pv 0) (zD (pv 1) (zD (pv 2) (zD (pv 3) zN))))))) (zZ (zAA (zBC (zD (pv 2) (zD (zt zAF (pv 3) zj) zN))))) zAR)))
  (zZ (zAA zAp)),?_⟩
 refine⟨_,rfl,la,ess,rfl,I.lb,by omega,fun es hes=>?_,fun D ys H1 s1 _ hD FA=>?_⟩
 . have:=(I.kd.kd es hes).len
   omega
 refine⟨D,rfl,⟨_,SqL.of hD⟩,zCm (K:=K) (a:=D) (xs:=ys) (fun j σ H2=>∃v2 v3:Option V,σ=[some (.ref wa),some (.ref la),v2,v3]/\zAi H1 H2/\∀i e,(i,e)∈(zFb ess ess.length).take j->DnR ts ess i e) ⟨_,_,rfl,zAi.refl _,(fun i e z=>by rw[List.take_zero] at z;cases z)⟩ (fun j σ H2 _ z=>?_) (fun j x σ H2 hx z=>?_) (fun σ H2 z=>?_)⟩
 . obtain⟨_,_,_,s2,_⟩:=z
   exact SqL.of (s2 _ _ hD)
 . obtain⟨v2,v3,rfl,s2,all⟩:=z
   obtain⟨c,a,i,e,rfl,hf,hc,ha⟩:=FA.2 j x hx
   have hm:=zO hf
   obtain⟨m1,m2⟩:=zEx hm
   have fe:FrE ess i e:=⟨m1,m2,zEy hm⟩
   refine⟨c,_,rfl,SqT.of (s2 _ _ hc),rfl,_,_,rfl,_,_,rfl,rfl,?_⟩
   refine⟨_,rfl,_,rfl,_,rfl,_,rfl,wa,la,a,i,n,ts,ess,e,rfl,(I.same s1).same s2,s2 _ _ ha,fe,fun b H3 hb s3=>?_⟩
   refine⟨b,rfl,?_⟩
   cases b with
   | true=>
    refine zDH ⟨_,_,rfl,s2.trans s3,fun i' e' z=>?_⟩
    rw[zq,hf] at z
    rcases zm.mp z with z | z
    . exact all i' e' z
    . have:=zf.mp z
      injection this with q1 q2
      subst q1 q2
      exact hb.mp rfl
   | false=>
    refine zEv ?_
    refine⟨_,rfl,_,rfl,a,_,_,.int e.h,rfl,rfl,SqT.of (s3 _ _ (s2 _ _ ha)),rfl,by show 2<=sizeLine;decide,fun q hq=>?_⟩
    refine k _ _ ⟨(fun z=>by cases z),fun z=>?_⟩ (s1.trans (s2.trans (s3.trans (zI hq))))
    have:=hb.mpr (z i e fe)
    cases this
 . obtain⟨v2,v3,rfl,s2,all⟩:=z
   refine k _ _ ⟨fun _ i e fe=>all i e ?_,fun _=>rfl⟩ (s1.trans s2)
   rw[FA.1,zb (zK _)]
   exact zGj fe.hi fe.mem fe.far
theorem scOf:zw ["labels", "place", "label"] ["labels"] (defScope sOf):=fS0
theorem ok_of (F:Fun K "own_fault" "own_fault" sOf f fd') (FO:FuB K mg "own_place" sOwn fO fdO ["label"]) (GO:zAP P w K mg base CX0 4 fO fdO ["label"] zKh) (mEnum:mg "enumerate" = none):zAP P w K mg base CX0 5 f fd' ["labels"] spOf:=by
 refine F.okD scOf fun _ A _ _ H vs Q E hr h=>?_
 obtain⟨wa,la,n,ts,ess,rfl,I,k⟩:=h
 obtain⟨_,_,_,_,_,G⟩:=id I.wb
 obtain⟨as,hl,hal,hA⟩:=id I.lb
 refine⟨_,zP (zBF PassesOwn.never rfl (zEo (by rfl) mEnum (zD (pv 0) zN)) (zCD rfl (zu (zv (i:=1) scOf.nd rfl (Or.inl rfl)) (zu (zv (i:=2) scOf.nd rfl (Or.inl rfl)) zBN)))
  (zZ (zA9 (zAC zJh (zAL GO hr FO (zD (pv 2) zN)) (pv 1) (zAD _)) (zZ (zAA (pv 1))) zAR)))
  (zZ (zAA zAp)),?_⟩
 have gd:∀ {i es},ess[i]? = some es->ess.getD i []=es:=fun {i es} he=>by rw[zE,he];rfl
 refine⟨_,rfl,la,rfl,⟨_,SqT.of hl⟩,zD2 (K:=K) (a:=la) (xs:=as.map V.ref) (fun i σ H2=>∃v1 v2:Option V,σ=[some (.ref la),v1,v2]/\zAi H H2/\∀(j:Nat) e r,j<i->(ess.getD j []).filter (fun e=>decide (e.l=0))=e::r->e.h=j) ⟨_,_,rfl,zAi.refl _,(fun j e r z=>absurd z (zBB _))⟩ (fun i σ H2 _ ⟨_,_,_,s2,_⟩=>SqT.of (s2 _ _ hl)) (fun i x σ H2 Tp hx z hTp=>?_) (fun σ H2 z=>?_)⟩
 . obtain⟨v1,v2,rfl,s2,all⟩:=z
   rw[zM] at hx
   cases ha:as[i]? with
   | none=>rw[ha] at hx;cases hx
   | some a=>
   rw[ha] at hx
   cases hx
   obtain⟨es,he,L⟩:=hA i a ha
   have hi:i<ess.length:=(zH.mp he).1
   obtain⟨e,hf⟩:=(I.kd.at hi).zero
   rw[gd he] at hf
   have s3:=s2.trans (zI (o:=.tup [.int (i:Int),.ref a]) hTp)
   refine⟨Tp,_,rfl,SqT.of zJ,rfl,_,_,rfl,_,_,rfl,rfl,?_⟩
   generalize upd H2 Tp (.tup [.int (i:Int),.ref a])=H3 at s3 ⊢
   refine⟨_,rfl,a,es,e,[],rfl,L.same s3,hf,fun H4 s4=>?_⟩
   refine⟨_,rfl,rfl,_,rfl,?_⟩
   by_cases c:e.h=i
   . refine ifF (by rw[c];simp) ⟨_,_,rfl,s3.trans s4,fun j e' r' hj hf'=>?_⟩
     by_cases q:j=i
     . subst q
       rw[gd he,hf] at hf'
       cases hf'
       exact c
     . exact all j e' r' (by omega) hf'
   . refine ifT (by simp[c]) ⟨_,rfl,k _ _ ⟨(fun z=>by cases z),fun z=>?_⟩ (s3.trans s4)⟩
     exact absurd (z i e [] hi (by rw[gd he];exact hf)) c
 . obtain⟨v1,v2,rfl,s2,all⟩:=z
   refine k _ _ ⟨fun _ i e r hi hf=>all i e r ?_ hf,fun _=>rfl⟩ s2
   rw[zC,hal]
   exact hi
theorem scGm:zw ["here", "there", "long"] ["here", "there", "long"] (defScope sGm):=fS0
theorem ok_gm (F:Fun K "grows_too_much" "grows_too_much" sGm f fd'):zAP P w K mg base CX0 1 f fd' ["here", "there", "long"] spGm:=by
 refine F.okD scGm fun _ A _ _ H vs Q E hr h=>?_
 obtain⟨x,y,l,rfl,k⟩:=h
 refine⟨_,zP (zA9 (zAC zCF (pv 0) zAp (zAD _)) (zZ (zAA zC3)) zAR)
  (zZ (zAA (pe_or (zBO zCF (pv 1) zAp (zAD _)) (zCd (zBO zFM (pv 1) (zA5 zB0 (pv 0) (pv 2)) (zAD _)))))),?_⟩
 cases x with
 | none=>exact⟨_,rfl,rfl,_,rfl,ifT (by rfl) k⟩
 | some d=>
  refine⟨_,rfl,rfl,_,rfl,ifF (by rfl) ?_⟩
  cases y with
  | none=>exact⟨_,rfl,rfl,_,rfl,ifT (by rfl) k⟩
  | some c=>
   refine⟨_,rfl,rfl,_,rfl,ifF (by rfl) ?_⟩
   exact⟨_,rfl,_,rfl,_,rfl,_,_,rfl,rfl,_,_,rfl,rfl,k⟩
theorem zKq:zw ["web", "labels", "u", "label", "row", "v", "w", "long"] ["web", "labels"] (defScope sTf):=fS0
theorem ok_tf {fT fG:Addr}{fdG:FuncData}(F:Fun K "tie_fault" "tie_fault" sTf f fd') (FT:FuB K mg "told" zF2 fT fdT ["one","other"]) (GT:zAP P w K mg base CX0 4 fT fdT ["one", "other"] zE9)
 (FA:FuB K mg "ties_at" zEl fA fdA ["web","place"]) (GA:zAP P w K mg base CX0 4 fA fdA ["web", "place"] zFA)
 (FG:FuB K mg "grows_too_much" sGm fG fdG ["here","there","long"]) (GG:zAP P w K mg base CX0 4 fG fdG ["here", "there", "long"] spGm) (mEnum:mg "enumerate" = none) (mRange:mg "range" = none):zAP P w K mg base CX0 5 f fd' ["web", "labels"] (zGy fun ts ess=>∀u v:Nat,u<ess.length->v<ess.length->TieR ts ess u v):=by
 refine F.okD zKq fun _ A _ _ H vs Q E hr h=>?_
 obtain⟨wa,la,n,ts,ess,rfl,I,k⟩:=h
 obtain⟨ta,tys,hwa,_,_,G⟩:=id I.wb
 have hn1:=G.n1
 have hn:=G.n24
 have hln:=I.kd.ln
 obtain⟨as,hl,hal,hA⟩:=id I.lb
 refine⟨_,zP (zBF PassesOwn.never rfl (zEo (by rfl) mEnum (zD (pv 1) zN)) (zCD rfl (zu (zv (i:=2) zKq.nd rfl (Or.inl rfl)) (zu (zv (i:=3) zKq.nd rfl (Or.inr rfl)) zBN)))
  (zP (zCs (i:=4) (own:=["other"]) (cn:=["label"]) (ci:=[3]) zKq.nd rfl (Or.inl rfl) rfl (csc rfl rfl) ⟨rfl,rfl,rfl,trivial⟩ rfl (zBv (pv 1)) (fun _ _ _ _=>zBr) (fun _ _ _ _=>zBH)
   (fun _ _ _ _=>zAL GT hr FT (zD (pv 0) (zD (pv 1) zN))))
  (zZ (zBF PassesOwn.never rfl (zAg rfl mRange (zD (zt zAF (pv 0) zj) zN)) (zv (i:=5) zKq.nd rfl (Or.inl rfl))
   (zZ (zBF PassesOwn.never rfl (zB2 (zAL GA hr FA (zD (pv 0) (zD (pv 5) zN)))) (zCD rfl (zu (zv (i:=6) zKq.nd rfl (Or.inl rfl)) (zu (zv (i:=7) zKq.nd rfl (Or.inl rfl)) zBN)))
    (zZ (zA9 (zCC (zAL GG hr FG (zD (zt zAZ (pv 4) (pv 5)) (zD (zt zAZ (pv 4) (pv 6)) (zD (pv 7) zN))))) (zZ (zAA (zBC (zD (pv 2) (zD (pv 5) (zD (pv 6) zN)))))) zAR))))))))
  (zZ (zAA zAp)),?_⟩
 have gd:∀ {i es},ess[i]? = some es->ess.getD i []=es:=fun {i es} he=>by rw[zE,he];rfl
 refine⟨_,rfl,la,rfl,⟨_,SqT.of hl⟩,zD2 (K:=K) (a:=la) (xs:=as.map V.ref) (fun i σ H2=>∃v2 v3 v4 v5 v6 v7:Option V,σ=[some (.ref wa),some (.ref la),v2,v3,v4,v5,v6,v7]/\zAi H H2/\∀u v:Nat,u<i->v<ess.length->TieR ts ess u v) ⟨_,_,_,_,_,_,rfl,zAi.refl _,(fun u v z=>absurd z (zBB _))⟩ (fun i σ H2 _ ⟨_,_,_,_,_,_,_,s2,_⟩=>SqT.of (s2 _ _ hl)) (fun u x σ H2 Tp hx z hTp=>?_) (fun σ H2 z=>?_)⟩
 . obtain⟨v2,v3,v4,v5,v6,v7,rfl,s2,all⟩:=z
   rw[zM] at hx
   cases ha:as[u]? with
   | none=>rw[ha] at hx;cases hx
   | some a=>
   rw[ha] at hx
   cases hx
   obtain⟨fs,hfs,Lu⟩:=hA u a ha
   have hul:u<ess.length:=(zH.mp hfs).1
   have gu:=I.kd.at hul
   rw[gd hfs] at gu
   have s3:=s2.trans (zI (o:=.tup [.int (u:Int),.ref a]) hTp)
   refine⟨Tp,_,rfl,SqT.of zJ,rfl,_,_,rfl,_,_,rfl,rfl,?_⟩
   generalize upd H2 Tp (.tup [.int (u:Int),.ref a])=H3 at s3 ⊢
   refine⟨_,rfl,la,rfl,⟨_,SqT.of (s3 _ _ hl)⟩,[.ref a],rfl,fun D hD=>?_⟩
   refine zBX (a:=la) (xs:=as.map V.ref) (fun i ys H4=>∃os:List (Option Int),ys=os.map oV/\os.length=i/\(∀(j:Nat) o,os[j]? = some o->∃lm,zDa (Cd (ess.getD j []) fs) lm/\o=lm.map (·.1))/\i<=ess.length/\zAi H3 H4/\H4 D=some (.lst ys)) ⟨[],rfl,rfl,(fun j o e=>by simp at e),ze _,zI hD,zJ⟩ (fun i ys H4 z=>?_) (fun i ys H4 z=>?_) (fun i x ys H4 hx z=>?_) (fun ys H4 z=>?_)
   . obtain⟨_,_,_,_,_,s4,_⟩:=z
     exact SqT.of (s4 _ _ (s3 _ _ hl))
   . obtain⟨os,rfl,ho,_,hi,_⟩:=z
     rw[zC]
     exact zAT (by omega)
   . obtain⟨os,rfl,ho,hos,hi,s4,h4⟩:=z
     rw[zM] at hx
     cases hb:as[i]? with
     | none=>rw[hb] at hx;cases hx
     | some b=>
     rw[hb] at hx
     cases hx
     obtain⟨es,hes,Li⟩:=hA i b hb
     have s34:=s3.trans s4
     refine⟨⟨rfl,rfl⟩,?_⟩
     refine zEO ?_
     refine⟨_,rfl,_,rfl,b,a,es,fs,rfl,Li.same s34,Lu.same s34,gu.hub,fun lm H5 s5 hm=>?_⟩
     refine⟨s5 _ _ h4,os++[lm.map (·.1)],by rw[zS];rfl,by rw[zL,ho];rfl,fun j o e=>?_,(zH.mp hes).1,zAY (s4.trans s5) hD,zJ⟩
     by_cases c:j<os.length
     . rw[zW c] at e
       exact hos j o e
     . rw[zQ (by omega)] at e
       have hj:j=i:=by
        have:=(zH.mp e).1
        rw[List.length_singleton] at this
        omega
       subst hj
       rw[show j-os.length=0 by omega] at e
       cases e
       exact⟨lm,by rw[gd hes];exact hm,rfl⟩
   . obtain⟨os,rfl,ho,hos,_,s4,h4⟩:=z
     rw[zC,hal] at ho
     have s34:=s3.trans s4
     have at':∀x:Int,0<=x->x<n->∃lm,atI (os.map oV) x=some (oV (lm.map (·.1)))/\zDa (Cd (ess.getD x.toNat []) (ess.getD u [])) lm:=fun x x0 x1=>by
      have hx:x.toNat<os.length:=by omega
      obtain⟨lm,h1,h2⟩:=hos x.toNat _ (zB hx)
      exact⟨lm,zAe x0 (by rw[zM,zB hx,h2];rfl),by rw[gd hfs];exact h1⟩
     refine⟨_,rfl,wa,_,_,_,rfl,rfl,SqT.of (s34 _ _ hwa),rfl,n,rfl,by omega,by omega,zBD (lo:=0) (n:=n.toNat) (fun i σ H5=>∃v5 v6 v7:Option V,σ=[some (.ref wa),some (.ref la),some (.int u),some (.ref a),some (.ref D),v5,v6,v7]/\zAi H4 H5/\∀v:Nat,v<i->TieR ts ess u v) ⟨_,_,_,rfl,zAi.refl _,(fun v z=>absurd z (zBB _))⟩ (fun v σ H5 hv z=>?_) (fun σ H5 z=>?_)⟩
     . obtain⟨w5,w6,w7,rfl,s5,allv⟩:=z
       rw[zAb]
       have s35:=s34.trans s5
       refine⟨_,rfl,_,rfl,wa,n,ts,v,rfl,I.wb.keep s35,fun l zs ms H6 s6 _ hl6 TA hp _=>?_⟩
       refine⟨l,rfl,⟨_,SqL.of hl6⟩,zCm (K:=K) (a:=l) (xs:=zs) (fun j σ H7=>∃v6 v7:Option V,σ=[some (.ref wa),some (.ref la),some (.int u),some (.ref a),some (.ref D),some (.int v),v6,v7]/\zAi H6 H7/\∀(r t:Int),[r,t]∈ms.take j->∀lv lw,zDa (Cd (ess.getD v []) (ess.getD u [])) lv->zDa (Cd (ess.getD r.toNat []) (ess.getD u [])) lw->∀c,lv=some c->∃c',lw=some c'/\c'.1<=c.1+t) ⟨_,_,rfl,zAi.refl _,(fun r t z=>by rw[List.take_zero] at z;cases z)⟩ (fun j σ H7 _ z=>?_) (fun j x σ H7 hx z=>?_) (fun σ H7 z=>?_)⟩
       . obtain⟨_,_,_,s7,_⟩:=z
         exact SqL.of (s7 _ _ hl6)
       . obtain⟨x6,x7,rfl,s7,allt⟩:=z
         obtain⟨ya,ky,rfl,hky,hya,_⟩:=TA.get hx
         obtain⟨r,c,rfl,hadj⟩:=zCq.mp (hp.mem_iff.mp (zO hky))
         obtain⟨r0,r1⟩:0<=r/\r<n:=(Way.one hadj).in_ G (by omega) (by omega)
         have h47:H7 D=some (.lst (os.map oV)):=s7 _ _ (s6 _ _ (s5 _ _ h4))
         obtain⟨o1,a1,L1⟩:=at' v (by omega) (by omega)
         obtain⟨o2,a2,L2⟩:=at' r r0 r1
         rw[show ((v:Int)).toNat=v by omega] at L1
         refine⟨ya,_,rfl,SqT.of (s7 _ _ hya),rfl,_,_,rfl,_,_,rfl,rfl,?_⟩
         refine⟨_,rfl,_,rfl,D,_,_,_,rfl,rfl,SqL.of h47,a1,_,rfl,_,rfl,D,_,_,_,rfl,rfl,SqL.of h47,a2,_,rfl,o1.map (·.1),o2.map (·.1),c,rfl,?_⟩
         refine⟨_,rfl,?_⟩
         cases hg:grB (o1.map (·.1)) (o2.map (·.1)) c with
         | false=>
          refine zDH ⟨_,_,rfl,s7,fun r' t' z lv lw hlv hlw cc hcc=>?_⟩
          rw[zq,hky] at z
          rcases zm.mp z with z | z
          . exact allt r' t' z lv lw hlv hlw cc hcc
          . have:=zf.mp z
            injection this with q1 q2
            injection q2 with q2 _
            subst q1 q2
            rw[hlv.uniq L1] at hcc
            rw[hlw.uniq L2]
            subst hcc
            cases o2 with
            | none=>cases hg
            | some c'=>
             have:=of_decide_eq_false (show decide (cc.1+t'<c'.1)=false from hg)
             exact⟨c',rfl,by omega⟩
         | true=>
          refine zEv ⟨_,rfl,_,rfl,_,rfl,by show 3<=sizeLine;decide,fun q hq=>?_⟩
          refine k _ _ ⟨(fun z=>by cases z),fun z=>?_⟩ (s35.trans (s6.trans (s7.trans (zI hq))))
          cases o1 with
          | none=>cases hg
          | some c1=>
           obtain⟨c',e',le⟩:=z u v hul (by omega) r c _ _ hadj L1 L2 c1 rfl
           subst e'
           have:=of_decide_eq_true (show decide (c1.1+c<c'.1)=true from hg)
           omega
       . obtain⟨x6,x7,rfl,s7,allt⟩:=z
         refine⟨_,_,_,rfl,s5.trans (s6.trans s7),fun v' hv'=>?_⟩
         by_cases q:v'=v
         . subst q
           intro r t lv lw hadj hlv hlw
           refine allt r t ?_ lv lw hlv hlw
           rw[TA.length,zb (zK _)]
           exact hp.mem_iff.mpr (zCq.mpr ⟨r,t,rfl,hadj⟩)
         . exact allv v' (by omega)
     . obtain⟨w5,w6,w7,rfl,s5,allv⟩:=z
       refine⟨_,_,_,_,_,_,rfl,s34.trans s5,fun u' v' hu' hv'=>?_⟩
       by_cases q:u'=u
       . subst q
         exact allv v' (by omega)
       . exact all u' v' (by omega) hv'
 . obtain⟨v2,v3,v4,v5,v6,v7,rfl,s2,all⟩:=z
   refine k _ _ ⟨fun _ u v hu hv=>all u v ?_ hv,fun _=>rfl⟩ s2
   rw[zC,hal]
   exact hu
theorem scRefa:zw ["word", "at"] ["word", "at"] (defScope zHv):=fS0
theorem zLH (F:Fun K "refuse_at" "refuse_at" zHv f fd') (mC:mg "NoLabels" = some (.ref C)) (EI:zGI K C fI)(bI:zCx K fdI ["self", "word", "at"] []) (GI:zAP P w K mg base CX0 1 fI fdI ["self", "word", "at"] (spXI C "word" "at")):zAP P w K mg base (CXI P w) 3 f fd' ["word", "at"] (zHj C):=by
 refine F.okI scRefa (fun vs H Q E h=>?_) (fun cdv A outer s H vs Q E hr h=>?_)
 . obtain⟨x,v,rfl,_⟩:=h
   rfl
 . obtain⟨x,v,rfl,kY,kN⟩:=h
   refine⟨_,zZ (zA9 (zAC zCu (pv 1) zAp (zAD _)) (zZ (zH6 (E:=E) rfl mC EI rfl GI hr bI (zD (pv 0) (zD (pv 1) zN)) (fun pins σ H s ea tt dx I he hn h0 hE=>zKz I he rfl rfl rfl rfl hn h0 hE))) zAR),?_⟩
   refine⟨_,rfl,rfl,_,rfl,?_⟩
   by_cases c:v = .non
   . exact ifF (by rw[zU c];rfl) (kY c)
   . refine ifT (by rw[zl c];rfl) ?_
     exact⟨_,rfl,_,rfl,_,_,rfl,kN c⟩
theorem scLets:zw ["web", "thing"] ["web", "thing"] (defScope zHx):=fS0
theorem zLK {fR fT:Addr}{fdR:FuncData}(F:Fun K "lets_labels" "lets_labels" zHx f fd') (mC:mg "NoLabels" = some (.ref C)) (EI:zGI K C fI)(bI:zCx K fdI ["self", "word", "at"] []) (GI:zAP P w K mg base CX0 5 fI fdI ["self", "word", "at"] (spXI C "word" "at"))
 (FA:FuB K mg "are_labels" zFE fA fdA ["n","thing"]) (GA:zAP P w K mg base CX0 6 fA fdA ["n", "thing"] zFz)
 (FR:FuB K mg "refuse_at" zHv fR fdR ["word","at"]) (GR:zAP P w K mg base (CXI P w) 6 fR fdR ["word", "at"] (zHj C))
 (FO:FuB K mg "own_fault" sOf fO fdO ["labels"]) (GO:zAP P w K mg base CX0 6 fO fdO ["labels"] spOf)
 (FU:FuB K mg "up_fault" sUf fU fdU ["web","labels"]) (GU:zAP P w K mg base CX0 6 fU fdU ["web", "labels"] (zGy fun ts ess=>∀i e,FrE ess i e->UpR ts ess i e))
 (FT:FuB K mg "tie_fault" sTf fT fdT ["web","labels"]) (GT:zAP P w K mg base CX0 6 fT fdT ["web", "labels"] (zGy fun ts ess=>∀u v:Nat,u<ess.length->v<ess.length->TieR ts ess u v))
 (FD:FuB K mg "down_fault" sDf fD fdD ["web","labels"]) (GD:zAP P w K mg base CX0 6 fD fdD ["web", "labels"] (zGy fun ts ess=>∀i e,FrE ess i e->DnR ts ess i e)):zAP P w K mg base (CXI P w) 7 f fd' ["web", "thing"] (zHl C):=by
 refine F.okI scLets (fun vs H Q E h=>?_) (fun cdv A outer s H vs Q E hr h=>?_)
 . obtain⟨wa,la,n,ts,ess,rfl,_⟩:=h
   rfl
 . obtain⟨wa,la,n,ts,ess,rfl,I,kY,kN⟩:=h
   obtain⟨ta,tys,hwa,_,_,G⟩:=id I.wb
   have hn1:=G.n1
   have hl:=I.kd.ln
   refine⟨_,zP (zA9 (zCR (zCC (zAL GA hr FA (zD (zt zAF (pv 0) zj) (zD (pv 1) zN))))) zDm zAR)
    (zP (zCB (zCt GR hr rfl FR.m FR.F.kp FR.b .nil zJf (zD zGY (zD (zAL GO hr FO (zD (pv 1) zN)) zN))))
    (zP (zCB (zCt GR hr rfl FR.m FR.F.kp FR.b .nil zJf (zD zGY (zD (zAL GU hr FU (zD (pv 0) (zD (pv 1) zN))) zN))))
    (zP (zCB (zCt GR hr rfl FR.m FR.F.kp FR.b .nil zJf (zD zGY (zD (zAL GT hr FT (zD (pv 0) (zD (pv 1) zN))) zN))))
    (zP (zCB (zCt GR hr rfl FR.m FR.F.kp FR.b .nil zJf (zD zGY (zD (zAL GD hr FD (zD (pv 0) (zD (pv 1) zN))) zN))))
    (zZ (zAA zC3)))))),?_⟩
   have fail:∀{x:Str}{u:V}{H1:Hp},¬ zCO ts n ess->zAi H H1->∀tt dx,H1 tt=none->H1 dx=none->tt≠dx->E (.ref C) (some dx) (upd (upd H1 tt (.tup [.str x,u])) dx (dO dx [("word",.str x),("at",u)])):=fun no s1 tt dx ht hd ne=>
    kN no _ _ (s1.trans ((zI ht).trans (zI (by rw[za (Ne.symm ne)];exact hd))))
   refine⟨_,rfl,wa,_,_,_,rfl,rfl,SqT.of hwa,rfl,_,rfl,n,la,ess,rfl,I.lb,by omega,G.n24,I.kd.kd,fun H1 s1=>⟨true,rfl,zDH ?_⟩⟩
   refine⟨_,rfl,wa,la,n,ts,ess,rfl,I.same s1,fun v2 H2 e2 s2=>?_⟩
   have s12:=s1.trans s2
   refine⟨_,_,rfl,fun z2=>?_,fun z2=>fail (fun z=>z2 (e2.mpr z.own)) s12⟩
   have own:=e2.mp z2
   refine⟨_,rfl,_,rfl,wa,la,n,ts,ess,rfl,I.same s12,fun v3 H3 e3 s3=>?_⟩
   have s13:=s12.trans s3
   refine⟨_,_,rfl,fun z3=>?_,fun z3=>fail (fun z=>z3 (e3.mpr z.up)) s13⟩
   have up:=e3.mp z3
   refine⟨_,rfl,_,rfl,wa,la,n,ts,ess,rfl,I.same s13,fun v4 H4 e4 s4=>?_⟩
   have s14:=s13.trans s4
   refine⟨_,_,rfl,fun z4=>?_,fun z4=>fail (fun z=>z4 (e4.mpr z.tie)) s14⟩
   have tie:=e4.mp z4
   refine⟨_,rfl,_,rfl,wa,la,n,ts,ess,rfl,I.same s14,fun v5 H5 e5 s5=>?_⟩
   have s15:=s14.trans s5
   refine⟨_,_,rfl,fun z5=>?_,fun z5=>fail (fun z=>z5 (e5.mpr z.dn)) s15⟩
   exact kY ⟨own,up,tie,e5.mp z5⟩ _ s15
theorem scIl:zw ["_law_web_here", "_law_labels", "_law_found"] ["_law_web_here", "_law_labels"] (defScope sIl):=fS0
theorem ok_il (F:Fun K "_law_is_let" "_law_is_let" sIl f fd') (mC:mg "NoLabels" = some (.ref C)) (EI:zGI K C fI)(sb:L2.subIn K C C=true)
 (FL:FuB K mg "lets_labels" zHx fL fdL ["web","thing"]) (GL:zAP P w K mg base (CXI P w) 7 fL fdL ["web", "thing"] (zHl C)):zAP P w K mg base CX0 8 f fd' ["_law_web_here", "_law_labels"] spIl:=by
 have qC:zKU K C=true:=by unfold zKU;rw[EI.cl];rfl
 refine F.okD scIl fun _ A _ _ H vs Q E hr h=>?_
 obtain⟨wa,la,n,ts,ess,rfl,I,k⟩:=h
 refine⟨_,zP (zBA (i:=2) scIl.nd zC3)
  (zP (zK3 rfl rfl rfl mC qC (zJV (i:=2) scIl.nd rfl (Or.inl rfl) GL hr rfl FL.m FL.F.kp FL.b (zD (pv 0) (zD (pv 1) zN)) zC3)
   (fun ea oe=>zZ (zBA (i:=2) scIl.nd zC3)))
  (zZ (zAA (pv 2)))),?_⟩
 refine⟨_,rfl,_,rfl,wa,la,n,ts,ess,rfl,I,fun y H' s'=>?_,fun no od H' s'=>?_⟩
 . exact⟨_,_,rfl,rfl,_,rfl,k true H' ⟨fun _=>y,fun _=>rfl⟩ s'⟩
 . exact⟨C,rfl,qC,sb,_,rfl,k false H' ⟨fun z=>(Bool.noConfusion z),fun z=>absurd z no⟩ s'⟩
noncomputable def oD:Option Int->PyData
 | none=>.none
 | some i=>.int i
theorem sh_oV (H:Hp)(o:Option Int):zDD H (oV o) (oD o):=by
 cases o with
 | none=>exact .non
 | some d=>exact .int d
theorem fn_oD (h:∀d,o=some d->d.natAbs<1000000000):Fn 30 0 (oD o):=by
 cases o with
 | none=>exact zLd.mono (by decide) (by decide)
 | some d=>exact fn_int (h d rfl)
theorem zKT {M:lLO}(R:Rows ts n M)(x0:0<=x)(x1:x<n)(y0:0<=y)(y1:y<n)(L:Len ts x y o):Fn 1048576 50 (oD o):=
 (fn_oD fun d e=>by
  subst e
  have:=zH2 R x0 x1 y0 y1 L
  omega).mono (by decide) (by decide)
theorem zGe {o':Option Int}(a:Len ts x y o)(b:Len ts x y o'):o=o':=by
 cases o with
 | none=>cases o' with
  | none=>rfl
  | some d=>exact absurd (show WM.IsD ts x y d from b).1 (a d)
 | some d=>cases o' with
  | none=>exact absurd (show WM.IsD ts x y d from a).1 (b d)
  | some d'=>rw[WM.IsD.uniq (show WM.IsD ts x y d from a) b]
theorem zLX (h:x∈xs):inV (.int x) (xs.map V.int)=true:=by
 unfold inV
 rw[List.any_map]
 exact List.any_eq_true.mpr ⟨x,h,by simp[eqV]⟩
theorem flatI (xs:List Int):(xs.map V.int).all zEw=true:=by
 rw[List.all_map]
 exact zAv.mpr fun x _=>rfl
structure LedI (ts:List T3)(n y:Int)(i:Nat)(p:Int)(vs:List Int):Prop where
 nd:(p::vs).Nodup
 rg:∀q∈p::vs,0<=q/\q<n
 ln:vs.length=i
 ds:∃d,WM.IsD ts p y d/\∀q∈vs,∃a,WM.IsD ts q y a/\d<a
theorem LedI.end {p:Int}{vs:List Int}(h:LedI ts n y n.toNat p vs):False:=by
 have:(p::vs).length<=((List.range n.toNat).map fun (k:Nat)=>(k:Int)).length:=zIJ h.nd fun x hx=>by
  have:=h.rg x hx
  exact zAI.mpr ⟨x.toNat,zBg.mpr (by omega),by omega⟩
 rw[zp,zC,zAQ,h.ln] at this
 omega
theorem LedI.next (G:GW n ts){p q:Int}{vs:List Int}(h:LedI ts n y i p vs)(x:Nxt ts p y q):LedI ts n y (i+1) q (p::vs):=by
 obtain⟨l,b,ha,ib,iab⟩:=x
 have r:=G.adj ha
 obtain⟨d,hd,all⟩:=h.ds
 have e:d=l+b:=hd.uniq iab
 have far:∀z∈p::vs,∃a,WM.IsD ts z y a/\b<a:=fun z hz=>by
  rcases zi.mp hz with rfl | hz
  . exact⟨_,iab,by omega⟩
  . obtain⟨a,ia,lt⟩:=all z hz
    exact⟨a,ia,by omega⟩
 refine⟨zAl.mpr ⟨fun z=>?_,h.nd⟩,fun z hz=>?_,by rw[zp,h.ln],b,ib,far⟩
 . obtain⟨a,ia,lt⟩:=far q z
   have:=ia.uniq ib
   omega
 . rcases zi.mp hz with rfl | hz
   . exact⟨r.2.2.1,r.2.2.2.1⟩
   . exact h.rg z hz
structure RtK (H:Hp)(wa fa la:Addr)(n:Int)(ts:List T3)(M:lLO)(ess:List (List En)):Prop where
 lt:LtK H wa la n ts ess
 ok:zCO ts n ess
 fr:zDP H fa n ts M
variable {fa:Addr}
theorem RtK.same {M:lLO}(h:RtK H wa fa la n ts M ess)(s:zAi H H'):RtK H' wa fa la n ts M ess:=⟨h.lt.same s,h.ok,h.fr.keep fun b ys e=>s _ _ e⟩
theorem RtK.two {M:lLO}(h:RtK H wa fa la n ts M ess)(x0:0<=x)(x1:x<n)(y0:0<=y)(y1:y<n):∃(as:List Addr)(a b:Addr)(e f:En),H la=some (.tup (as.map V.ref))/\(as.map V.ref)[x.toNat]? = some (.ref a)/\(as.map V.ref)[y.toNat]? = some (.ref b)/\zBV H a (ess.getD x.toNat [])/\zBV H b (ess.getD y.toNat [])/\Hub (ess.getD x.toNat [])/\Hub (ess.getD y.toNat []) /\
 (ess.getD x.toNat []).filter (fun e=>decide (e.l=0))=[e]/\(ess.getD y.toNat []).filter (fun e=>decide (e.l=0))=[f]/\e.h=x/\f.h=y:=by
 obtain⟨as,a,h1,g1,i1,l1,k1⟩:=h.lt.at x0 x1
 obtain⟨as2,b,h2,g2,i2,l2,k2⟩:=h.lt.at y0 y1
 rw[h1] at h2
 have e12:as.map V.ref=as2.map V.ref:=by injection h2 with z;injection z
 obtain⟨e,he⟩:=k1.zero
 obtain⟨f,hf⟩:=k2.zero
 have oe:=h.ok.own _ e [] i1 he
 have of:=h.ok.own _ f [] i2 hf
 exact⟨as,a,b,e,f,h1,g1,by rw[e12];exact g2,l1,l2,k1.hub,k2.hub,he,hf,by omega,by omega⟩
theorem RtK.told {H:Hp}{wa fa la:Addr}{n:Int}{ts:List T3}{M:lLO}{ess:List (List En)}(h:RtK H wa fa la n ts M ess)(G:GW n ts){x y:Int}(x0:0<=x)(x1:x<n)(y0:0<=y)(y1:y<n){lm:Option (Int×Int)}(m:zDa (Cd (ess.getD x.toNat []) (ess.getD y.toNat [])) lm):Len ts x y (lm.map (·.1))/\∀c,lm=some c->x≠y->∃p,zHg (ess.getD x.toNat []) (ess.getD y.toNat []) x y (some c)=some p/\Nxt ts x y p:=by
 have hln:=h.lt.kd.ln
 have a:=h.ok.told G h.lt.kd (i:=x.toNat) (j:=y.toNat) (by omega) (by omega) m
 rw[show ((x.toNat:Nat):Int)=x by omega,show ((y.toNat:Nat):Int)=y by omega] at a
 refine⟨a,fun c hc ne=>?_⟩
 subst hc
 have b:=h.ok.step G h.lt.kd (i:=x.toNat) (j:=y.toNat) (by omega) (by omega) (by omega) m
 rwa [show ((x.toNat:Nat):Int)=x by omega,show ((y.toNat:Nat):Int)=y by omega] at b
noncomputable def spLd:Sp:=fun vs H Q _=>∃(wa fa la:Addr)(n x y d:Int)(ts:List T3)(M:lLO)(ess:List (List En)),vs=[.ref wa,.ref fa,.ref la,.int x,.int y]/\RtK H wa fa la n ts M ess/\0<=x/\x<n/\0<=y/\y<n/\WM.IsD ts x y d/\∀H',zAi H H'->Q (.bl true) H'
noncomputable def spRt:Sp:=fun vs H Q _=>∃(wa fa la:Addr)(n:Int)(ts:List T3)(M:lLO)(ess:List (List En)),vs=[.ref wa,.ref fa,.ref la]/\RtK H wa fa la n ts M ess/\∀H',zAi H H'->Q (.bl true) H'
theorem scLd:zw ["_law_web_here", "_law_far_here", "_law_labels", "_law_one", "_law_other", "_law_here", "_law_turn", "_law_step"] ["_law_web_here", "_law_far_here", "_law_labels", "_law_one", "_law_other"] (defScope sLd):=fS0
theorem ok_ld (F:Fun K "_law_led" "_law_led" sLd f fd') (FS:FuB K mg "next_step" zG1 fS fdS ["one","other"]) (GS:zAP P w K mg base CX0 4 fS fdS ["one", "other"] zGM)
 (FN:FuB K mg "_law_nexts" sNxs fN fdN ["_law_web_here","_law_far_here","_law_one","_law_other"]) (GN:zAP P w K mg base CX0 4 fN fdN ["_law_web_here", "_law_far_here", "_law_one", "_law_other"] zJM)
 (mRange:mg "range" = none):zAP P w K mg base CX0 5 f fd' ["_law_web_here", "_law_far_here", "_law_labels", "_law_one", "_law_other"] spLd:=by
 refine F.okD scLd fun _ A _ _ H vs Q E hr h=>?_
 obtain⟨wa,fa,la,n,x,y,d,ts,M,ess,rfl,R,x0,x1,y0,y1,hd,k⟩:=h
 obtain⟨ta,tys,hwa,_,_,G⟩:=id R.lt.wb
 have hn1:=G.n1
 have hn24:=G.n24
 refine⟨_,zP (zBA (i:=5) scLd.nd (pv 3))
  (zP (zBF PassesOwn.never rfl (zAg rfl mRange (zD (zt zAF (pv 0) zj) zN)) (zv (i:=6) scLd.nd rfl (Or.inl rfl))
   (zZ (zA9 (zAC zJh (pv 5) (pv 4) (zAD _))
    (zP (zBA (i:=7) scLd.nd (zAL GS hr FS (zD (zt zAF (pv 2) (pv 5)) (zD (zt zAF (pv 2) (pv 4)) zN))))
    (zP (zA9 (zAC zDU (pv 7) (zAL GN hr FN (zD (pv 0) (zD (pv 1) (zD (pv 5) (zD (pv 4) zN))))) (by with_unfolding_all rfl)) zDm zAR)
    (zZ (zBA (i:=5) scLd.nd (pv 7))))) zAR)))
  (zZ (zAA (zBO zBw (pv 5) (pv 4) (zAD _))))),?_⟩
 refine⟨_,rfl,_,rfl,wa,_,_,_,rfl,rfl,SqT.of hwa,rfl,n,rfl,by omega,by omega,zBD (lo:=0) (n:=n.toNat) (fun i σ H1=>∃(v6 v7:Option V)(p:Int),σ=[some (.ref wa),some (.ref fa),some (.ref la),some (.int x),some (.int y),some (.int p),v6,v7]/\zAi H H1/\(p=y\/∃vs,LedI ts n y i p vs)) ⟨_,_,x,rfl,zAi.refl _,.inr ⟨[],⟨by simp,(fun q z=>by rw[zf.mp z];exact⟨x0,x1⟩),rfl,d,hd,(fun q z=>by cases z)⟩⟩⟩ (fun i σ H1 hi z=>?_) (fun σ H1 z=>?_)⟩
 . obtain⟨v6,v7,p,rfl,s1,hp⟩:=z
   refine⟨_,rfl,_,rfl,rfl,_,rfl,?_⟩
   by_cases c:p=y
   . exact ifF (by rw[c];simp) ⟨_,_,p,rfl,s1,.inl c⟩
   . refine ifT (by simp[c]) ?_
     obtain⟨vs,L⟩:=hp.resolve_left c
     obtain⟨p0,p1⟩:=L.rg p zV
     have R1:=R.same s1
     obtain⟨as,a,b,e,f',h1,g1,g2,l1,l2,hb1,hb2,z1,z2,o1,o2⟩:=R1.two p0 p1 y0 y1
     refine⟨_,rfl,_,rfl,la,_,_,.ref a,rfl,rfl,SqT.of h1,zAe p0 g1,_,rfl,_,rfl,la,_,_,.ref b,rfl,rfl,SqT.of h1,zAe y0 g2,a,b,_,_,e,f',[],[],rfl,l1,l2,hb1,hb2,z1,z2,fun lm H2 s2 hm=>?_⟩
     obtain⟨t1,t2⟩:=R1.told G p0 p1 y0 y1 hm
     obtain⟨dp,hdp,_⟩:=L.ds
     obtain⟨c',hc'⟩:∃c,lm=some c:=by
      cases lm with
      | none=>exact absurd hdp.1 (t1 dp)
      | some c=>exact⟨c,rfl⟩
     obtain⟨q,hq,nx⟩:=t2 c' hc' c
     subst hc'
     rw[o1,o2,hq]
     have R2:=R1.same s2
     refine⟨_,rfl,_,rfl,_,rfl,_,rfl,_,rfl,wa,fa,n,ts,M,p,y,rfl,R2.lt.wb,R2.fr,p0,p1,y0,y1,fun l3 xs H3 s3 h3 _ mem=>?_⟩
     refine⟨l3,_,rfl,.inl (SqL.of h3),rfl,flatI xs,_,rfl,ifF (by show (!inV (V.int q) (xs.map V.int))=false;rw[zLX ((mem q).mpr nx)];rfl) ?_⟩
     exact⟨_,rfl,_,_,q,rfl,s1.trans (s2.trans s3),.inr ⟨_,L.next G nx⟩⟩
 . obtain⟨v6,v7,p,rfl,s1,hp⟩:=z
   refine⟨_,rfl,_,rfl,rfl,?_⟩
   rcases hp with rfl | ⟨vs,L⟩
   . rw[zU rfl];exact k _ s1
   . exact L.end.elim
theorem scRt:zw ["_law_web_here", "_law_far_here", "_law_labels", "_law_one", "_law_other", "_law_due"] ["_law_web_here", "_law_far_here", "_law_labels"] (defScope sRt):=fS0
theorem ok_rt {fT:Addr}(F:Fun K "_law_right" "_law_right" sRt f fd') (FT:FuB K mg "told" zF2 fT fdT ["one","other"]) (GT:zAP P w K mg base CX0 5 fT fdT ["one", "other"] zE9)
 (FS:FuB K mg "next_step" zG1 fS fdS ["one","other"]) (GS:zAP P w K mg base CX0 5 fS fdS ["one", "other"] zGM)
 (FL:FuB K mg "_law_led" sLd fL fdL ["_law_web_here","_law_far_here","_law_labels","_law_one","_law_other"]) (GL:zAP P w K mg base CX0 5 fL fdL ["_law_web_here", "_law_far_here", "_law_labels", "_law_one", "_law_other"] spLd)
 (mRange:mg "range" = none) (mRepr:mg "repr" = none):zAP P w K mg base CX0 6 f fd' ["_law_web_here", "_law_far_here", "_law_labels"] spRt:=by
 refine F.okD scRt fun _ A _ _ H vs Q E hr h=>?_
 obtain⟨wa,fa,la,n,ts,M,ess,rfl,R,k⟩:=h
 obtain⟨ta,tys,hwa,_,_,G⟩:=id R.lt.wb
 obtain⟨_,_,_,RR⟩:=id R.fr
 have hn1:=G.n1
 have hn24:=G.n24
 refine⟨_,zP (zBF PassesOwn.never rfl (zAg rfl mRange (zD (zt zAF (pv 0) zj) zN)) (zv (i:=3) scRt.nd rfl (Or.inl rfl))
  (zZ (zBF PassesOwn.never rfl (zAg rfl mRange (zD (zt zAF (pv 0) zj) zN)) (zv (i:=4) scRt.nd rfl (Or.inl rfl))
   (zP (zBA (i:=5) scRt.nd (zt zAZ (zt zAZ (pv 1) (pv 3)) (pv 4)))
   (zP (zA9 (zAC zJh (zAa (zFm hr) mRepr (zD (zAL GT hr FT (zD (zt zAF (pv 2) (pv 3)) (zD (zt zAF (pv 2) (pv 4)) zN))) zN)) (zAa (zFm hr) mRepr (zD (pv 5) zN)) (zAD _)) zDm zAR)
   (zP (zA9 (PW.pt (zFJ (zAC zCu (pv 5) zAp (zAD _)) (zDl (zCR (zCC (zAL GL hr FL (zD (pv 0) (zD (pv 1) (zD (pv 2) (zD (pv 3) (zD (pv 4) zN))))))))))) zDm zAR)
   (zZ (zA9 (PW.pt (zFJ (zAC zCF (pv 5) zAp (zAD _)) (zDl (zAC zCu (zAL GS hr FS (zD (zt zAF (pv 2) (pv 3)) (zD (zt zAF (pv 2) (pv 4)) zN))) zAp (zAD _))))) zDm zAR))))))))
  (zZ (zAA zC3)),?_⟩
 refine⟨_,rfl,wa,_,_,_,rfl,rfl,SqT.of hwa,rfl,n,rfl,by omega,by omega,zBD (lo:=0) (n:=n.toNat) (fun i σ H1=>∃v3 v4 v5:Option V,σ=[some (.ref wa),some (.ref fa),some (.ref la),v3,v4,v5]/\zAi H H1) ⟨_,_,_,rfl,zAi.refl _⟩ (fun x σ H1 hx z=>?_) (fun σ H1 z=>?_)⟩
 . obtain⟨v3,v4,v5,rfl,s1⟩:=z
   rw[zAb]
   refine⟨_,rfl,wa,_,_,_,rfl,rfl,SqT.of (s1 _ _ hwa),rfl,n,rfl,by omega,by omega,zBD (lo:=0) (n:=n.toNat) (fun i σ H2=>∃v4 v5:Option V,σ=[some (.ref wa),some (.ref fa),some (.ref la),some (.int x),v4,v5]/\zAi H H2) ⟨_,_,rfl,s1⟩ (fun y σ H2 hy z=>?_) (fun σ H2 z=>?_)⟩
   . obtain⟨w4,w5,rfl,s2⟩:=z
     rw[zAb]
     have x0:(0:Int)<=x:=by omega
     have x1:(x:Int)<n:=by omega
     have y0:(0:Int)<=y:=by omega
     have y1:(y:Int)<n:=by omega
     have R2:=R.same s2
     obtain⟨rs6,r6,row6,f1,f2,f3,f4,f5⟩:=R2.fr.get x0 x1 y0 y1
     refine⟨_,rfl,_,rfl,fa,_,_,.ref r6,rfl,rfl,SqL.of f1,f2,_,rfl,r6,_,_,_,rfl,rfl,SqL.of f3,f4,?_⟩
     obtain⟨as,a,b,e,f',h1,g1,g2,l1,l2,hb1,hb2,z1,z2,o1,o2⟩:=R2.two x0 x1 y0 y1
     refine⟨_,rfl,_,rfl,la,_,_,.ref a,rfl,rfl,SqT.of h1,zAe x0 g1,_,rfl,_,rfl,la,_,_,.ref b,rfl,rfl,SqT.of h1,zAe y0 g2,a,b,_,_,rfl,l1,l2,hb2,fun lm H3 s3 hm=>?_⟩
     obtain⟨t1,t2⟩:=R2.told G x0 x1 y0 y1 hm
     have em:lm.map (·.1)=mat M x y:=zGe t1 f5
     rw[em]
     have s13:=s2.trans s3
     have R3:=R.same s13
     refine⟨_,_,rfl,sh_oV _ _,zKT RR x0 x1 y0 y1 f5,?_⟩
     refine⟨_,rfl,_,_,rfl,sh_oV _ _,zKT RR x0 x1 y0 y1 f5,rfl,_,rfl,ifF (by simp) ?_⟩
     cases ed:mat M x y with
     | some d=>
      rw[ed] at f5
      refine⟨_,rfl,rfl,_,rfl,ifT (by rfl) ?_⟩
      refine⟨_,rfl,_,rfl,_,rfl,_,rfl,_,rfl,wa,fa,la,n,x,y,d,ts,M,ess,rfl,R3,x0,x1,y0,y1,f5,fun H4 s4=>?_⟩
      refine⟨true,rfl,zDH ?_⟩
      refine⟨_,rfl,rfl,_,rfl,ifF (by rfl) (zDH ?_)⟩
      exact⟨_,_,rfl,s13.trans s4⟩
     | none=>
      refine⟨_,rfl,rfl,_,rfl,ifF (by rfl) (zDH ?_)⟩
      refine⟨_,rfl,rfl,_,rfl,ifT (by rfl) ?_⟩
      obtain⟨as3,a3,b3,e3,f3',h13,g13,g23,l13,l23,hb13,hb23,z13,z23,o13,o23⟩:=R3.two x0 x1 y0 y1
      refine⟨_,rfl,_,rfl,la,_,_,.ref a3,rfl,rfl,SqT.of h13,zAe x0 g13,_,rfl,_,rfl,la,_,_,.ref b3,rfl,rfl,SqT.of h13,zAe y0 g23,a3,b3,_,_,e3,f3',[],[],rfl,l13,l23,hb13,hb23,z13,z23,fun lm' H4 s4 hm'=>?_⟩
      obtain rfl:=hm'.uniq hm
      have:lm'=none:=by
       rw[ed] at em
       cases lm' with
       | none=>rfl
       | some c=>cases em
      subst this
      refine⟨rfl,_,rfl,ifF (by rfl) ?_⟩
      exact⟨_,_,rfl,s13.trans s4⟩
   . obtain⟨w4,w5,rfl,s2⟩:=z
     exact⟨_,_,_,rfl,s2⟩
 . obtain⟨v3,v4,v5,rfl,s1⟩:=z
   exact k _ s1
theorem zAO.neT {t:Addr}(h:zAO H t N)(hb:H b=some (.tup ys)):b≠t:=by
 obtain⟨p,ns,spot,rest,a,_⟩:=h
 exact zBT hb a (by intro z;cases z)
theorem zDJ {t:Addr}(h:∀b,b≠t->H' b=H b):Sm t H H':=fun b o n e=>by rw[h b n];exact e
theorem zDP.sm {fl t:Addr}{M:lLO}(h:zDP H fl n ts M)(T:zAO H t N)(s:Sm t H H'):zDP H' fl n ts M:=by
 obtain⟨rs,h1,h2,h3⟩:=h
 obtain⟨p,ns,spot,rest,ht,_⟩:=T
 have nf:fl≠t:=fun z=>by
  subst z
  rw[h1] at ht
  injection ht with ht;injection ht with ht
  match rs,ht with
  | [],ht=>simp at ht
  | [_],ht=>simp at ht
  | _::_::_,ht=>simp at ht
 refine⟨rs,s _ _ nf h1,h2.keep fun b ys e hb=>s _ _ (fun z=>?_) e,h3⟩
 subst z
 obtain⟨i,hi,ei⟩:=zx hb
 have hM:i<M.length:=by rw[<-h2.1];exact hi
 have:=h2.2.2 i b M[i] (by rw[zB hi,ei]) (zB hM)
 rw[this] at ht
 injection ht with ht;injection ht with ht
 match M[i],ht with
 | [],ht=>simp at ht
 | none::_,ht=>simp[oV] at ht
 | some _::_,ht=>simp[oV] at ht
theorem zB4.at_ {t:Addr}(h:zB4 H t p N):zAO H t N:=⟨p,h⟩
theorem zB4.nn {t:Addr}(h:zB4 H t p N)(hb:H b=none):b≠t/\b≠p:=by
 obtain⟨ns,spot,rest,a,b',_⟩:=h
 exact⟨(zn a hb).symm,(zn b' hb).symm⟩
theorem zB4.kp {t:Addr}(h:zB4 H t p N)(s:zAi H H'):zB4 H' t p N:=h.keepF (fun o e=>s _ _ e) (fun o e=>s _ _ e) (zK _)
theorem zB4.ch {t:Addr}{o:HO}(h:zB4 H t p N)(n1:l≠t)(n2:l≠p):zB4 (upd H l o) t p N:=h.keepF (fun _ e=>by rw[za n1.symm];exact e) (fun _ e=>by rw[za n2.symm];exact e) (zK _)
theorem zB4.up {t:Addr}{M:Nat}(h:zB4 H t p N)(l:N<=M):zB4 H t p M:=h.keepF (fun _ e=>e) (fun _ e=>e) l
theorem zB4.nI {t:Addr}(h:zB4 H t p N)(hb:H b=some (.lst (xs.map V.int))):b≠t:=fun z=>by
 obtain⟨ns,spot,rest,a,_⟩:=h
 rw[z,a] at hb
 injection hb with hb;injection hb with hb
 match xs,hb with
 | [],hb=>simp at hb
 | _::_,hb=>simp at hb
theorem zC0:∀(xs:List Int)(a n:Int),xs.Pairwise (· < ·)->(∀x∈xs,a<=x/\x<n)->xs.length<=(n-a).toNat
 | [],_,_,_,_=>ze _
 | x::r,a,n,h,b=>by
  have hp:=zBc.mp h
  have hx:=b x zV
  have:=zC0 r (x+1) n hp.2 fun e he=>by
   have h1:=hp.1 e he
   have h2:=b e (zc _ he)
   omega
  rw[zp]
  omega
noncomputable def zFy (H:Hp)(bs:List Addr)(ess:List (List En)):Prop:=bs.length=ess.length/\∀(i:Nat)(b:Addr),bs[i]? = some b->∃es,ess[i]? = some es/\zBV H b es
theorem zFy.keep {bs:List Addr}(h:zFy H bs ess)(k:∀b ys,H b=some (.tup ys)->H' b=some (.tup ys)):zFy H' bs ess:=⟨h.1,fun i b e=>let ⟨es,e1,e2⟩:=h.2 i b e;⟨es,e1,e2.keep k⟩⟩
theorem zFy.snoc {bs:List Addr}(h:zFy H bs ess)(L:zBV H b es):zFy H (bs++[b]) (ess++[es]):=by
 refine⟨by rw[zL,zL,h.1];rfl,fun i c hc=>?_⟩
 by_cases hi:i<bs.length
 . rw[zW hi] at hc
   obtain⟨fs,e1,e2⟩:=h.2 i c hc
   exact⟨fs,by rw[zW (by rw[<-h.1];exact hi)];exact e1,e2⟩
 . rw[zQ (by omega)] at hc
   cases hz:i-bs.length with
   | zero=>
    rw[hz] at hc
    have e1:b=c:=by simpa using hc
    subst e1
    exact⟨es,by rw[zQ (by rw[<-h.1];omega),<-h.1,hz];rfl,L⟩
   | succ z=>rw[hz] at hc;simp at hc
structure AhE (ts:List T3)(n v:Int)(j:Nat)(es:List En):Prop where
 ent:∀e∈es,EG ts n v e/\e.h<j
 own:∀e∈es,e.h=v->e.u=none/\e.d=none
 hub:Hub es
 all:∀h:Int,0<=h->h<j->(∃d,WM.IsD ts v h d)->∃e∈es,e.h=h
 len:es.length<=j
theorem AhE.nil (ts:List T3)(n v:Int):AhE ts n v 0 []:=⟨(fun e z=>by cases z),(fun e z=>by cases z),.nil,(fun h h0 h1=>by omega),zK _⟩
theorem AhE.skip (h:AhE ts n v j es)(no:∀d,¬ WM.IsD ts v j d):AhE ts n v (j+1) es:=by
 refine⟨fun e he=>⟨(h.ent e he).1,by have:=(h.ent e he).2;omega⟩,h.own,h.hub,fun x x0 x1 ⟨d,hd⟩=>?_,by have:=h.len;omega⟩
 by_cases c:x=j
 . subst c;exact absurd hd (no d)
 . exact h.all x x0 (by omega) ⟨d,hd⟩
theorem AhE.snoc (h:AhE ts n v j es)(hh:e.h=j)(E:EG ts n v e)(o:e.h=v->e.u=none/\e.d=none):AhE ts n v (j+1) (es++[e]):=by
 refine⟨fun x hx=>?_,fun x hx=>?_,?_,fun x x0 x1 hd=>?_,by rw[zL];have:=h.len;simp;omega⟩
 . rcases zm.mp hx with z | z
   . exact⟨(h.ent x z).1,by have:=(h.ent x z).2;omega⟩
   . rw[zf.mp z];exact⟨E,by omega⟩
 . rcases zm.mp hx with z | z
   . exact h.own x z
   . rw[zf.mp z];exact o
 . refine List.pairwise_append.mpr ⟨h.hub,List.pairwise_singleton _ _,fun a ha b hb=>?_⟩
   rw[zf.mp hb,hh]
   exact (h.ent a ha).2
 . by_cases c:x=j
   . exact⟨e,zg _ zV,by rw[hh,c]⟩
   . obtain⟨y,hy,hyh⟩:=h.all x x0 (by omega) hd
     exact⟨y,zAE _ hy,hyh⟩
theorem AhE.lg (G:GW n ts)(h:AhE ts n v n.toNat es)(v0:0<=v)(v1:v<n):LG ts n v es:=⟨h.hub,fun e he=>(h.ent e he).1,h.all v v0 (by omega) ⟨0,zCH G v⟩⟩
theorem AhE.kind (G:GW n ts)(h:AhE ts n v n.toNat es)(v0:0<=v)(v1:v<n):zBa n es:=by
 refine⟨fun e he=>?_,h.hub,by have:=h.len;omega,?_⟩
 . have E:=(h.ent e he).1
   refine⟨E.rng,E.len.1.nn G,fun h0=>h.own e he ((zBy G E.len).mp h0).symm,fun hne=>?_⟩
   have ev:e.h≠v:=fun z=>hne ((zBy G E.len).mpr z.symm)
   obtain⟨u,eu,l1,b1,a1,_⟩:=E.up ev
   obtain⟨d,ed,l2,b2,a2,_⟩:=E.dn ev
   have g1:=G.adj a1
   have g2:=G.adj a2
   exact⟨u,d,eu,ed,by omega,by omega,by omega,by omega⟩
 . obtain⟨e,r,hf,_⟩:=(h.lg G v0 v1).zero G
   have hv:∀x∈es.filter (fun e=>decide (e.l=0)),x.h=v:=fun x hx=>by
    obtain⟨h1,h2⟩:=zAG.mp hx
    exact ((zBy G (h.ent x h1).1.len).mp (of_decide_eq_true h2)).symm
   have hp:(es.filter (fun e=>decide (e.l=0))).Pairwise fun a b=>a.h<b.h:=List.Pairwise.filter _ h.hub
   rw[hf] at hv hp
   have hr:r=[]:=by
    cases r with
    | nil=>rfl
    | cons e' r'=>
     have h1:=hv e zV
     have h2:=hv e' (zc _ zV)
     have h3:=(zBc.mp hp).1 e' zV
     omega
   have e1:(es.map (·.l)).countP (fun x=>x==0)=(es.filter (fun e=>decide (e.l=0))).length:=by
    rw[List.countP_map,List.countP_eq_length_filter]
    congr 2
   rw[e1,hf,hr]
   rfl
structure AhS (ts:List T3)(n:Int)(ess:List (List En)):Prop where
 ln:ess.length=n.toNat
 at_:∀(i:Nat) es,ess[i]? = some es->AhE ts n i n.toNat es
theorem AhS.labs (G:GW n ts)(h:AhS ts n ess):LbK n ess/\zCO ts n ess:=by
 have hln:=h.ln
 have rg:∀(i:Nat) es,ess[i]? = some es->(0:Int)<=i/\(i:Int)<n:=fun i es e=>by have:=(zH.mp e).1;omega
 have LGs:zHU ts n ess:=⟨h.ln,fun i es e=>(h.at_ i es e).lg G (rg i es e).1 (rg i es e).2,fun i j es fs hi hj d hd=>by
  refine⟨i,Btw.self G hd,((h.at_ i es hi).lg G (rg i es hi).1 (rg i es hi).2).own,(h.at_ j fs hj).all i (rg i es hi).1 (by have:=rg i es hi;omega) ⟨d,hd.symm⟩⟩⟩
 refine⟨⟨h.ln,fun es hes=>?_⟩,zHU.let G LGs fun i e p F _ x=>?_⟩
 . obtain⟨i,hi,rfl⟩:=zx hes
   have e:=zB hi
   exact (h.at_ i _ e).kind G (rg i _ e).1 (rg i _ e).2
 . obtain⟨l,b,ha,ib,_⟩:=x
   have r:=G.adj ha
   have hp:p.toNat<ess.length:=by omega
   have A:=h.at_ _ _ (getD_some hp)
   rw[show ((p.toNat:Nat):Int)=p by omega] at A
   have E:=((h.at_ i _ (getD_some F.hi)).ent e F.mem).1.rng
   exact A.all e.h E.1 (by omega) ⟨b,ib⟩
noncomputable def spAh:Sp:=fun vs H Q _=>∃(t wa fa:Addr)(N:Nat)(n:Int)(ts:List T3)(M:lLO),vs=[.ref t,.ref wa,.ref fa]/\zAO H t N/\N<500000/\zBs H wa n ts/\zDP H fa n ts M /\
 ∀(l:Addr)(ess:List (List En))(H':Hp),zBL H' l ess->LbK n ess->zCO ts n ess->zAO H' t (N+1200)->Sm t H H'->Q (.ref l) H'
theorem zKF:zw ["_law_tape_here", "_law_web_here", "_law_far_here", "_law_labels", "_law_place", "_law_entries", "_law_hub_here", "_law_ups", "_law_downs", "_law_up"] ["_law_tape_here", "_law_web_here", "_law_far_here"] (defScope sAh):=fS0
theorem ok_ah (F:Fun K "_law_all_hubs" "_law_all_hubs" sAh f fd') (FD:FuB K mg "_law_draw" zEF fD fdD ["_law_tape_here","_law_many"]) (GD:zAP P w K mg base CX0 4 fD fdD ["_law_tape_here", "_law_many"] zEi)
 (FN:FuB K mg "_law_nexts" sNxs fN fdN ["_law_web_here","_law_far_here","_law_one","_law_other"]) (GN:zAP P w K mg base CX0 4 fN fdN ["_law_web_here", "_law_far_here", "_law_one", "_law_other"] zJM)
 (mRange:mg "range" = none) (mTuple:mg "tuple" = none) (mLen:mg "len" = none):zAP P w K mg base CX0 5 f fd' ["_law_tape_here", "_law_web_here", "_law_far_here"] spAh:=by
 refine F.okD zKF fun _ A _ _ H vs Q E hr h=>?_
 obtain⟨t,wa,fa,N,n,ts,M,rfl,TT,hN,W,FR,k⟩:=h
 obtain⟨ta,tys,hwa,_,_,G⟩:=id W
 have hn1:=G.n1
 have hn24:=G.n24
 have hu0:=hr.units0
 obtain⟨p,T⟩:=id TT
 refine⟨_,zP (zBA (i:=3) zKF.nd (zCE zN))
  (zP (zBF PassesOwn.never rfl (zAg rfl mRange (zD (zt zAF (pv 1) zj) zN)) (zv (i:=4) zKF.nd rfl (Or.inl rfl))
   (zP (zBA (i:=5) zKF.nd (zCE zN))
   (zP (zBF PassesOwn.never rfl (zAg rfl mRange (zD (zt zAF (pv 1) zj) zN)) (zv (i:=6) zKF.nd rfl (Or.inl rfl))
    (zP (zBA (i:=7) zKF.nd (zAL GN hr FN (zD (pv 1) (zD (pv 2) (zD (pv 4) (zD (pv 6) zN))))))
    (zP (zBA (i:=8) zKF.nd (zAL GN hr FN (zD (pv 1) (zD (pv 2) (zD (pv 6) (zD (pv 4) zN))))))
    (zZ (zA9 (zAC zBw (pv 4) (pv 6) (zAD _))
     (zZ (zCB (zEG PySem.F.plainAttrs_list PySem.F.slot_list_append PySem.F.type_list_append zBx (pv 5) (zD (zBC (zD (pv 6) (zD zj (zD zAp (zD zAp zN))))) zN))))
     (zZ (zA9 (zAC (op_neE hu0) (pv 7) (zCE zN) (zAD _))
      (zP (zBA (i:=9) zKF.nd (zt zAZ (pv 7) (zAL GD hr FD (zD (pv 0) (zD (zAa zAy mLen (zD (pv 7) zN)) zN)))))
      (zZ (zCB (zEG PySem.F.plainAttrs_list PySem.F.slot_list_append PySem.F.type_list_append zBx (pv 5) (zD (zBC (zD (pv 6) (zD (zt zAZ (zt zAZ (pv 2) (pv 4)) (pv 6)) (zD (pv 9) (zD (zt zAZ (pv 8) (zAL GD hr FD (zD (pv 0) (zD (zAa zAy mLen (zD (pv 8) zN)) zN)))) zN))))) zN)))))
      zAR)))))))
   (zZ (zCB (zEG PySem.F.plainAttrs_list PySem.F.slot_list_append PySem.F.type_list_append zBx (pv 3) (zD (zAm zAS mTuple (zD (pv 5) zN)) zN)))))))
  (zZ (zAA (zAm zAS mTuple (zD (pv 3) zN))))),?_⟩
 refine⟨by show 0<=sizeLine;decide,fun D hD=>?_⟩
 have s0:=zI (o:=.lst []) hD
 have nD:=T.nn hD
 refine⟨_,rfl,wa,_,_,_,rfl,rfl,SqT.of (s0 _ _ hwa),rfl,n,rfl,by omega,by omega,zBD (lo:=0) (n:=n.toNat) (fun q σ H1=>∃(v4 v5 v6 v7 v8 v9:Option V)(bs:List Addr)(fss:List (List En)),σ=[some (.ref t),some (.ref wa),some (.ref fa),some (.ref D),v4,v5,v6,v7,v8,v9]/\fss.length=q/\H1 D=some (.lst (bs.map V.ref))/\zFy H1 bs fss/\(∀(i:Nat) es,fss[i]? = some es->AhE ts n i n.toNat es)/\zB4 H1 t p (N+50*q)/\Sm t H H1)
  ⟨_,_,_,_,_,_,[],[],rfl,rfl,zJ,⟨rfl,fun i b z=>by simp at z⟩,(fun i es z=>by simp at z),T.kp s0,Sm.of s0⟩ ?turn ?after⟩
 case after=>
  rintro σ H1 ⟨v4,v5,v6,v7,v8,v9,bs,fss,rfl,hfl',hD1,LB,AH,T1,s1⟩
  refine⟨_,rfl,D,_,rfl,.inl ⟨SqL.of hD1,fun l' hl'=>?_⟩⟩
  have sl:=zI (o:=.tup (bs.map V.ref)) hl'
  obtain⟨kk,ll⟩:=AhS.labs G (ess:=fss) ⟨hfl',AH⟩
  exact k l' fss _ ⟨bs,zJ,LB.1,(LB.keep fun b ys e=>sl _ _ e).2⟩ kk ll ⟨p,(T1.kp sl).up (by omega)⟩ (s1.trans (Sm.of sl))
 case turn=>
  rintro q σ H1 hq ⟨v4,v5,v6,v7,v8,v9,bs,fss,rfl,hfl',hD1,LB,AH,T1,s1⟩
  rw[zAb]
  have tup1:∀b ys,H b=some (.tup ys)->H1 b=some (.tup ys):=fun b ys e=>s1 _ _ (zAO.neT T.at_ e) e
  have q0:(0:Int)<=q:=by omega
  have q1:(q:Int)<n:=by omega
  refine⟨by show 0<=sizeLine;decide,fun DL hDL=>?_⟩
  have nDL:=T1.nn hDL
  have sDL:=zI (o:=.lst []) hDL
  have nDD:D≠DL:=zn hD1 hDL
  have W1:∀ {H2},Sm t H1 H2->zBs H2 wa n ts:=fun s2=>W.keepT fun b ys e=>s2 _ _ (zAO.neT T1.at_ (tup1 _ _ e)) (tup1 _ _ e)
  have F1:∀ {H2},Sm t H1 H2->zDP H2 fa n ts M:=fun s2=>FR.sm T.at_ (s1.trans s2)
  refine⟨_,rfl,wa,_,_,_,rfl,rfl,SqT.of (sDL _ _ (tup1 _ _ hwa)),rfl,n,rfl,by omega,by omega,zBD (lo:=0) (n:=n.toNat)
   (fun j σ H2=>∃(v6 v7 v8 v9:Option V)(cs:List Addr)(fs:List En),σ=[some (.ref t),some (.ref wa),some (.ref fa),some (.ref D),some (.int q),some (.ref DL),v6,v7,v8,v9]/\H2 DL=some (.lst (cs.map V.ref))/\zBb H2 cs fs/\AhE ts n q j fs/\zB4 H2 t p (N+50*q+2*j)/\Sm t H1 H2)
   ⟨_,_,_,_,[],[],rfl,zJ,⟨rfl,fun m c z=>by simp at z⟩,AhE.nil _ _ _,T1.kp sDL,Sm.of sDL⟩ ?turn2 ?after2⟩
  case after2=>
   rintro σ H2 ⟨v6,v7,v8,v9,cs,fs,rfl,hDL2,EF,AE,T2,s2⟩
   have hD2:=s2 _ _ nD.1 hD1
   have hfs:=AE.len
   refine⟨_,rfl,.inl ⟨rfl,_,SqL.of hD2⟩,_,rfl,DL,_,rfl,.inl ⟨SqL.of hDL2,fun c hc=>?_⟩⟩
   have sc:=zI (o:=.tup (cs.map V.ref)) hc
   have hD3:=sc _ _ hD2
   have LC:zBV (upd H2 c (.tup (cs.map V.ref))) c fs:=⟨cs,zJ,EF.keep fun b' us z=>sc _ _ z,by omega⟩
   generalize upd H2 c (.tup (cs.map V.ref))=H3 at sc hD3 LC ⊢
   refine⟨D,_,_,rfl,rfl,hD3,by rw[zC,LB.1];exact zAj (by omega),?_⟩
   have kp:∀x us,H3 x=some (.tup us)->(upd H3 D (.lst (bs.map V.ref++[.ref c]))) x=some (.tup us):=fun x us z=>by rw[za (zBT z hD3 (by intro w;cases w))];exact z
   have s13:Sm t H1 H3:=s2.trans (Sm.of sc)
   refine⟨_,_,_,_,_,_,bs++[c],fss++[fs],rfl,by rw[zL,hfl'];rfl,by rw[zS];exact zJ,((LB.keep fun x us z=>s13 _ _ (zAO.neT T1.at_ z) z).keep kp).snoc (LC.keep kp),fun i es hi=>?_,((T2.kp sc).ch nD.1 nD.2).up (by omega),(s1.trans s13).chg hD⟩
   by_cases c':i<fss.length
   . rw[zW c'] at hi
     exact AH i es hi
   . rw[zQ (by omega)] at hi
     have hi0:i=q:=by
      have:=(zH.mp hi).1
      rw[List.length_singleton] at this
      omega
     rw[show i-fss.length=0 by omega] at hi
     cases hi
     rw[hi0]
     exact AE
  case turn2=>
   rintro j σ H2 hj ⟨v6,v7,v8,v9,cs,fs,rfl,hDL2,EF,AE,T2,s2⟩
   rw[zAb]
   have j0:(0:Int)<=j:=by omega
   have j1:(j:Int)<n:=by omega
   have hfs:=AE.len
   refine⟨_,rfl,_,rfl,_,rfl,_,rfl,wa,fa,n,ts,M,q,j,rfl,W1 s2,F1 s2,q0,q1,j0,j1,fun l1 xs H3 s3 hl1 r1 m1=>?_⟩
   have s23:=s2.trans (Sm.of s3)
   refine⟨_,rfl,_,rfl,_,rfl,_,rfl,wa,fa,n,ts,M,j,q,rfl,W1 s23,F1 s23,j0,j1,q0,q1,fun l2 ys H4 s4 hl2 r2 m2=>?_⟩
   have s34:=s3.trans s4
   have T4:=T2.kp s34
   have hDL4:=s34 _ _ hDL2
   have s24:=s2.trans (Sm.of s34)
   have put:∀{H5:Hp}{x:Addr}{e:En},Sm t H4 H5->zB4 H5 t p (N+50*q+2*j+2)->H5 x=none->e.h=j->EG ts n q e->(e.h=q->e.u=none/\e.d=none)->∀{σ':St}{v6 v7 v8 v9:Option V},σ'=[some (.ref t),some (.ref wa),some (.ref fa),some (.ref D),some (.int q),some (.ref DL),v6,v7,v8,v9] ->
    (upd H5 x (.tup (eV e))) DL=some (.lst (cs.map V.ref))/\(cs.map V.ref).length<sizeLine/\∃(v6 v7 v8 v9:Option V)(cs':List Addr)(fs':List En),σ'=[some (.ref t),some (.ref wa),some (.ref fa),some (.ref D),some (.int q),some (.ref DL),v6,v7,v8,v9]/\(upd (upd H5 x (.tup (eV e))) DL (.lst (cs.map V.ref++[.ref x]))) DL=some (.lst (cs'.map V.ref))/\zBb (upd (upd H5 x (.tup (eV e))) DL (.lst (cs.map V.ref++[.ref x]))) cs' fs'/\AhE ts n q (j+1) fs'/\zB4 (upd (upd H5 x (.tup (eV e))) DL (.lst (cs.map V.ref++[.ref x]))) t p (N+50*q+2*(j+1))/\Sm t H1 (upd (upd H5 x (.tup (eV e))) DL (.lst (cs.map V.ref++[.ref x]))):=fun {H5 x e} s5 T5 hx eh E o {σ' v6 v7 v8 v9} es=>by
    have hDL5:=s5 _ _ nDL.1 hDL4
    have sx:=zI (o:=.tup (eV e)) hx
    have nx:x≠DL:=fun z=>by rw[z,hDL5] at hx;cases hx
    have kp:∀x' us,H5 x'=some (.tup us)->(upd (upd H5 x (.tup (eV e))) DL (.lst (cs.map V.ref++[.ref x]))) x'=some (.tup us):=fun x' us z=>by
     rw[za (zBT z hDL5 (by intro w;cases w))]
     exact sx _ _ z
    refine⟨sx _ _ hDL5,by rw[zC,EF.1];exact zAj (by omega),v6,v7,v8,v9,cs++[x],fs++[e],es,by rw[zS];exact zJ,(((EF.keep fun x' us z=>s34 _ _ z).keep fun x' us z=>s5 _ _ (zAO.neT T4.at_ z) z).keep kp).snoc ?_,AE.snoc eh E o,((T5.kp sx).ch nDL.1 nDL.2).up (by omega),((s24.trans s5).trans (Sm.of sx)).chg hDL⟩
    rw[za nx];exact zJ
   refine⟨_,rfl,_,rfl,rfl,_,rfl,?_⟩
   by_cases c:(q:Int)=j
   . refine ifT (by rw[c];simp) ?_
     refine⟨_,rfl,.inl ⟨rfl,_,SqL.of hDL4⟩,_,rfl,by show 4<=sizeLine;decide,fun x hx=>?_⟩
     obtain⟨a1,a2,a3⟩:=put (H5:=H4) (x:=x) (e:=⟨j,0,none,none⟩) (Sm.refl _ _) (T4.up (by omega)) hx rfl ⟨⟨j0,j1⟩,by show WM.IsD ts q j 0;rw[<-c];exact zCH G _,fun z=>absurd c.symm z,fun z=>absurd c.symm z⟩ (fun _=>⟨rfl,rfl⟩) rfl
     exact⟨DL,_,_,rfl,rfl,a1,a2,a3⟩
   . refine ifF (by simp[c]) ?_
     refine⟨_,rfl,by show 0<=sizeLine;decide,fun b hb=>?_⟩
     have hl14:=s4 _ _ hl1
     have sb:=zI (o:=.lst []) hb
     refine⟨l1,b,_,rfl,rfl,SqL.of (sb _ _ hl14),SqL.of zJ,_,rfl,?_⟩
     have T5:=T4.kp sb
     have hDL5:=sb _ _ hDL4
     have hl15:=sb _ _ hl14
     have hl25:=sb _ _ hl2
     generalize upd H4 b (.lst [])=H5 at sb T5 hDL5 hl15 hl25 ⊢
     by_cases ne:xs=[]
     . subst ne
       refine ifF (by rfl) ⟨_,_,_,_,cs,fs,rfl,hDL5,(EF.keep fun x' us z=>s34 _ _ z).keep fun x' us z=>sb _ _ z,AE.skip fun d hd=>?_,T5.up (by omega),s24.trans (Sm.of sb)⟩
       obtain⟨z,hz⟩:=Nxt.exists G hd c
       cases (m1 z).mpr hz
     . refine ifT (by cases xs with | nil=>exact absurd rfl ne | cons a l=>rfl) ?_
       have rg:∀{x y z:Int},Nxt ts x y z->0<=z/\z<n:=fun h=>by
        obtain⟨_,_,ha,_⟩:=h
        have:=G.adj ha
        exact⟨this.2.2.1,this.2.2.2.1⟩
       obtain⟨z0,hz0⟩:=List.exists_mem_of_ne_nil _ ne
       obtain⟨d,hd⟩:∃d,WM.IsD ts q j d:=by
        obtain⟨l,b',_,_,iab⟩:=(m1 z0).mp hz0
        exact⟨_,iab⟩
       have lx:xs.length<=24:=by have:=zC0 xs 0 n r1 fun x hx=>rg ((m1 x).mp hx);omega
       have ly:ys.length<=24:=by have:=zC0 ys 0 n r2 fun x hx=>rg ((m2 x).mp hx);omega
       have px:0<xs.length:=List.length_pos_of_mem hz0
       have py:0<ys.length:=by
        obtain⟨z,hz'⟩:=Nxt.exists G (WM.IsD.symm hd) (Ne.symm c)
        exact List.length_pos_of_mem ((m2 z).mpr hz')
       refine⟨_,rfl,_,rfl,_,rfl,l1,_,rfl,.inl (SqL.of hl15),t,p,N+50*q+2*j,_,rfl,T5,by omega,by rw[zC];omega,by rw[zC];omega,fun r H6 a6 b6 T6 he6=>?_⟩
       rw[zC] at b6
       obtain⟨u,hum,hu⟩:=zDr a6 b6
       have n1:=T5.nI hl15
       have n2:=T5.nI hl25
       refine⟨l1,_,_,_,rfl,rfl,SqL.of (by rw[he6 _ n1];exact hl15),hu,?_⟩
       have hl26:H6 l2=some (.lst (ys.map V.int)):=by rw[he6 _ n2];exact hl25
       have hDL6:H6 DL=some (.lst (cs.map V.ref)):=by rw[he6 _ nDL.1];exact hDL5
       have s46:Sm t H4 H6:=(Sm.of sb).trans (zDJ he6)
       obtain⟨rs6,r6,row6,f1,f2,f3,f4,f5⟩:=(F1 (s24.trans s46)).get q0 q1 j0 j1
       refine⟨_,rfl,.inl ⟨rfl,_,SqL.of hDL6⟩,_,rfl,_,rfl,_,rfl,fa,_,_,.ref r6,rfl,rfl,SqL.of f1,f2,_,rfl,r6,_,_,_,rfl,rfl,SqL.of f3,f4,_,rfl,?_⟩
       refine⟨_,rfl,_,rfl,_,rfl,l2,_,rfl,.inl (SqL.of hl26),t,p,N+50*q+2*j+1,_,rfl,T6,by omega,by rw[zC];omega,by rw[zC];omega,fun r' H7 a7 b7 T7 he7=>?_⟩
       rw[zC] at b7
       obtain⟨dn,hdm,hdn⟩:=zDr a7 b7
       refine⟨l2,_,_,_,rfl,rfl,SqL.of (by rw[he7 _ n2];exact hl26),hdn,?_⟩
       have ed:mat M q j=some d:=zGe f5 hd
       rw[ed]
       refine⟨by show 4<=sizeLine;decide,fun x hx=>?_⟩
       obtain⟨a1,a2,a3⟩:=put (H5:=H7) (x:=x) (e:=⟨j,d,some u,some dn⟩) (s46.trans (zDJ he7)) T7 hx rfl ⟨⟨j0,j1⟩,hd,fun _=>⟨u,rfl,(m1 u).mp hum⟩,fun _=>⟨dn,rfl,(m2 dn).mp hdm⟩⟩ (fun z=>absurd z.symm c) rfl
       exact⟨DL,_,_,rfl,rfl,a1,a2,a3⟩
theorem EOk.fr (E:EOk n e)(h:e.l≠0):∃u d,eV e=[.int e.h,.int e.l,.int u,.int d]/\e.u=some u/\e.d=some d/\0<=u/\u<n/\0<=d/\d<n:=by
 obtain⟨u,d,eu,ed,h1⟩:=E.far h
 exact⟨u,d,by unfold eV;rw[eu,ed];rfl,eu,ed,h1⟩
theorem EOk.mk4 {h l u:Int}(h0:0<=h/\h<n)(l0:1<=l)(u0:0<=u/\u<n)(d0:0<=d/\d<n):EOk n ⟨h,l,some u,some d⟩:=⟨h0,by show 0<=l;omega,(fun z=>by have:l=0:=z;omega),fun _=>⟨u,d,rfl,rfl,u0.1,u0.2,d0.1,d0.2⟩⟩
noncomputable def zLj (es:List En):Nat:=(es.map (·.l)).countP (fun x=>x==0)
theorem zBa.of {fs:List En}(n0:0<=n)(h1:∀e∈fs,EOk n e)(h2:Hub fs)(h3:zLj fs=1):zBa n fs:=by
 refine⟨h1,h2,?_,h3⟩
 have:=zC0 (fs.map (·.h)) 0 n (by rw[zAh];exact h2) (fun x hx=>by
  obtain⟨e,he,rfl⟩:=zAI.mp hx
  exact (h1 e he).rng)
 rw[zC] at this
 omega
theorem zBa.like {fs:List En}(n0:0<=n)(K:zBa n es)(hl:fs.length=es.length)(k:∀(m:Nat)(f:En),fs[m]? = some f->∃e,es[m]? = some e/\f.h=e.h/\(f.l=0↔e.l=0)/\EOk n f):zBa n fs:=by
 refine zBa.of n0 (fun f hf=>?_) (zy.mpr fun a b ha hb hab=>?_) ?_
 . obtain⟨m,hm,em⟩:=zx hf
   obtain⟨e,_,_,_,E⟩:=k m f (by rw[zB hm,em])
   exact E
 . obtain⟨e,e1,e2,_⟩:=k a _ (zB ha)
   obtain⟨e',e1',e2',_⟩:=k b _ (zB hb)
   rw[e2,e2']
   exact K.hub.lt hab e1 e1'
 . rw[<-K.one]
   have:fs.map (fun f=>f.l==0)=es.map (fun f=>f.l==0):=by
    apply List.ext_getElem?
    intro m
    rw[zM,zM]
    cases z:fs[m]? with
    | none=>
     rw[zAK (by have:=List.getElem?_eq_none_iff.mp z;omega)]
    | some f=>
     obtain⟨e,e1,_,e3,_⟩:=k m f z
     rw[e1]
     show some (f.l==0)=some (e.l==0)
     congr 1
     rw[Bool.eq_iff_iff,beq_iff_eq,beq_iff_eq]
     exact e3
   have c:∀xs:List En,zLj xs=(xs.map (fun f=>f.l==0)).countP id:=fun xs=>by
    unfold zLj
    rw[List.countP_map,List.countP_map]
    rfl
   show zLj fs=zLj es
   rw[c,c,this]
theorem zBa.drop {a b:List En}(n0:0<=n)(K:zBa n (a++e::b))(h:e.l≠0):zBa n (a++b):=by
 refine zBa.of n0 (fun x hx=>K.ent x ?_) (K.hub.sublist (List.Sublist.append (List.Sublist.refl a) (List.sublist_cons_self e b))) ?_
 . rcases zm.mp hx with z | z
   . exact zAE _ z
   . exact zg _ (zc _ z)
 . have:=K.one
   rw[zS,zAV,List.countP_append,List.countP_cons_of_neg (by simpa using h)] at this
   unfold zLj
   rw[zS,List.countP_append]
   exact this
noncomputable def spHb:Sp:=fun vs H Q _=>∃(a:Addr)(h:Int)(r:List V),vs=[.ref a]/\H a=some (.tup (.int h::r))/\Q (.int h) H
noncomputable def spBe:Sp:=fun vs H Q _=>∃(t a:Addr)(N:Nat)(n:Int)(e:En),vs=[.ref t,.int n,.ref a]/\zAO H t N/\N<900000/\1<=n/\n<=24/\H a=some (.tup (eV e))/\EOk n e /\
 ∀(a':Addr)(e':En)(H':Hp),H' a'=some (.tup (eV e'))->EOk n e'->e'.h=e.h->(e'.l=0↔e.l=0)->zAO H' t (N+2)->Sm t H H'->Q (.ref a') H'
noncomputable def spXc:Sp:=fun vs H Q _=>∃(la:Addr)(n i j:Int)(ess:List (List En)),vs=[.ref la,.int i,.int j]/\zBL H la ess/\LbK n ess/\n<=24/\0<=i/\i<n/\0<=j/\j<n/\∀(l:Addr)(ess':List (List En))(H':Hp),zBL H' l ess'->LbK n ess'->zAi H H'->Q (.ref l) H'
noncomputable def spLn:Sp:=fun vs H Q _=>∃(p:Addr)(n h:Int)(es:List En),vs=[.ref p,.int h]/\zBV H p es/\zBa n es/\0<=n/\n<=24/\∀(l:Addr)(es':List En)(H':Hp),zBV H' l es'->zBa n es'->zAi H H'->Q (.ref l) H'
theorem scHb:zw ["_law_entry"] ["_law_entry"] (defScope sHb):=fS0
theorem ok_hb (F:Fun K "_law_hub" "_law_hub" sHb f fd'):zAP P w K mg base CX0 1 f fd' ["_law_entry"] spHb:=by
 refine F.okD scHb fun _ A _ _ H vs Q E hr h=>?_
 obtain⟨a,h,r,rfl,ha,k⟩:=h
 exact⟨_,zZ (zAA (zt zAF (pv 0) zj)),⟨_,rfl,a,_,_,.int h,rfl,rfl,SqT.of ha,zAe (zBS _) rfl,k⟩⟩
theorem scBe:zw ["_law_tape_here", "_law_n", "_law_entry", "_law_hub_here", "_law_long", "_law_up", "_law_down", "_law_way"] ["_law_tape_here", "_law_n", "_law_entry"] (defScope sBe):=fS0
theorem ok_be (F:Fun K "_law_bent_entry" "_law_bent_entry" sBe f fd') (FD:FuB K mg "_law_draw" zEF fD fdD ["_law_tape_here","_law_many"]) (GD:zAP P w K mg base CX0 4 fD fdD ["_law_tape_here", "_law_many"] zEP) (mMax:mg "max" = none):zAP P w K mg base CX0 5 f fd' ["_law_tape_here", "_law_n", "_law_entry"] spBe:=by
 refine F.okD scBe fun _ A _ _ H vs Q E hr h=>?_
 obtain⟨t,a,N,n,e,rfl,T,hN,n1,n24,ha,E0,k⟩:=h
 refine⟨_,zP (zCp (pv 2) (zCD rfl (zu (zv (i:=3) scBe.nd rfl (Or.inl rfl)) (zu (zv (i:=4) scBe.nd rfl (Or.inl rfl)) (zu (zv (i:=5) scBe.nd rfl (Or.inl rfl)) (zu (zv (i:=6) scBe.nd rfl (Or.inl rfl)) zBN))))))
  (zP (zA9 (zAC zBw (pv 4) zj (zAD _)) (zZ (zAA (pv 2))) zAR)
  (zP (zBA (i:=7) scBe.nd (zAL GD hr FD (zD (pv 0) (zD zj zN))))
  (zP (zA9 (zAC zBw (pv 7) zj (zAD _)) (zZ (zAA (zBC (zD (pv 3) (zD (zAa (zIx rfl) mMax (zD zj (zD (zA5 zB0 (pv 4) (zt zAZ (zCE (zD zj (zD (pe_un un_neg zj) (zD zj zN)))) (zAL GD hr FD (zD (pv 0) (zD zj zN))))) zN))) (zD (pv 5) (zD (pv 6) zN))))))) zAR)
  (zP (zA9 (zAC zBw (pv 7) zj (zAD _)) (zZ (zAA (zBC (zD (pv 3) (zD (pv 4) (zD (zAL GD hr FD (zD (pv 0) (zD (pv 1) zN))) (zD (pv 6) zN))))))) zAR)
  (zZ (zAA (zC2 (zAC zBw (pv 7) zj (zAD _)) (zBC (zD (pv 3) (zD (pv 4) (zD (pv 5) (zD (zAL GD hr FD (zD (pv 0) (zD (pv 1) zN))) zN))))) (pv 2)))))))),?_⟩
 refine⟨_,rfl,a,_,rfl,SqT.of ha,rfl,_,_,rfl,_,_,rfl,_,_,rfl,_,_,rfl,rfl,?_⟩
 refine⟨_,rfl,rfl,_,rfl,?_⟩
 by_cases c:e.l=0
 . exact ifT (by simp[c]) ⟨_,rfl,k a e H ha E0 rfl Iff.rfl (T.mono (by omega)) (Sm.refl _ _)⟩
 . refine ifF (by simp[c]) ?_
   obtain⟨u,d,ev,eu,ed,u0,u1,d0,d1⟩:=E0.fr c
   have nn:=E0.nn
   rw[eu,ed]
   refine⟨_,rfl,t,N,4,rfl,T,by omega,by decide,by decide,fun r H1 r0 r4 T1 e1=>?_⟩
   have s1:Sm t H H1:=zDJ e1
   have ha1:=s1 _ _ (zAO.neT T ha) ha
   refine⟨_,rfl,rfl,_,rfl,?_⟩
   by_cases c0:r=0
   . refine ifT (by simp[c0]) ?_
     refine⟨_,rfl,_,rfl,1,rfl,by show 3<=sizeLine;decide,fun L hL=>?_⟩
     have sL:=zI (o:=.lst [.int 1,.int (-1),.int 2]) hL
     have nL:=T1.ne hL
     refine⟨_,rfl,t,N+1,3,rfl,T1.keep sL,by omega,by decide,by decide,fun q H2 q0 q3 T2 e2=>?_⟩
     have hL2:H2 L=some (.lst ([1,-1,2].map V.int)):=by rw[e2 _ nL];exact zJ
     obtain⟨x,hx,hat⟩:=zDr (L:=[1,-1,2]) q0 q3
     refine⟨L,_,_,_,rfl,rfl,SqL.of hL2,hat,_,_,rfl,rfl,_,_,rfl,?_⟩
     refine⟨_,rfl,_,rfl,by show 4<=sizeLine;decide,fun y hy=>?_⟩
     have sy:=zI (o:=.tup [.int e.h,.int (if e.l+x > 1 then e.l+x else 1),.int u,.int d]) hy
     refine k y ⟨e.h,if e.l+x > 1 then e.l+x else 1,some u,some d⟩ _ zJ (EOk.mk4 E0.rng (by split <;> omega) ⟨u0,u1⟩ ⟨d0,d1⟩) rfl ⟨fun z=>?_,fun z=>absurd z c⟩ (T2.keep sy) (s1.trans ((Sm.of sL).trans ((zDJ e2).trans (Sm.of sy))))
     have:(if e.l+x > 1 then e.l+x else 1)=0:=z
     split at this <;> omega
   . refine ifF (by simp[c0]) ?_
     refine⟨_,rfl,rfl,_,rfl,?_⟩
     by_cases c1:r=1
     . refine ifT (by simp[c1]) ?_
       refine⟨_,rfl,_,rfl,_,rfl,_,rfl,t,N+1,n,rfl,T1,by omega,by omega,by omega,fun q H2 q0 q3 T2 e2=>?_⟩
       refine⟨_,rfl,by show 4<=sizeLine;decide,fun y hy=>?_⟩
       have sy:=zI (o:=.tup [.int e.h,.int e.l,.int q,.int d]) hy
       exact k y ⟨e.h,e.l,some q,some d⟩ _ zJ (EOk.mk4 E0.rng (by omega) ⟨q0,q3⟩ ⟨d0,d1⟩) rfl Iff.rfl (T2.keep sy) (s1.trans ((zDJ e2).trans (Sm.of sy)))
     . refine ifF (by simp[c1]) ?_
       refine⟨_,rfl,rfl,_,rfl,?_⟩
       by_cases c2:r=2
       . refine ifT (by simp[c2]) ?_
         refine⟨_,rfl,_,rfl,_,rfl,_,rfl,_,rfl,t,N+1,n,rfl,T1,by omega,by omega,by omega,fun q H2 q0 q3 T2 e2=>?_⟩
         refine⟨by show 4<=sizeLine;decide,fun y hy=>?_⟩
         have sy:=zI (o:=.tup [.int e.h,.int e.l,.int u,.int q]) hy
         exact k y ⟨e.h,e.l,some u,some q⟩ _ zJ (EOk.mk4 E0.rng (by omega) ⟨u0,u1⟩ ⟨q0,q3⟩) rfl Iff.rfl (T2.keep sy) (s1.trans ((zDJ e2).trans (Sm.of sy)))
       . exact ifF (by simp[c2]) ⟨_,rfl,k a e H1 ha1 E0 rfl Iff.rfl (T1.mono (by omega)) s1⟩
theorem zFy.set {bs:List Addr}(h:zFy H bs ess)(L:zBV H b es)(i:Nat):zFy H (bs.set i b) (ess.set i es):=by
 refine⟨by rw[zAs,zAs,h.1],fun j c hc=>?_⟩
 rw[List.getElem?_set] at hc ⊢
 by_cases q:i=j
 . subst q
   rw[if_pos rfl] at hc ⊢
   by_cases l:i<bs.length
   . rw[if_pos l] at hc
     cases hc
     rw[if_pos (by rw[<-h.1];exact l)]
     exact⟨es,rfl,L⟩
   . rw[if_neg l] at hc;cases hc
 . rw[if_neg q] at hc ⊢
   exact h.2 j c hc
theorem zFy.labs {bs:List Addr}(h:zFy H bs ess)(e:H l=some (.tup (bs.map V.ref))):zBL H l ess:=⟨bs,e,h.1,h.2⟩
theorem LbK.set (K:LbK n ess)(k:zBa n es)(i:Nat):LbK n (ess.set i es):=by
 refine⟨by rw[zAs,K.ln],fun x hx=>?_⟩
 rcases List.mem_or_eq_of_mem_set hx with z | rfl
 . exact K.kd x z
 . exact k
theorem scXc:zw ["_law_labels", "_law_place", "_law_other", "_law_some"] ["_law_labels", "_law_place", "_law_other"] (defScope sXc):=fS0
theorem ok_xc (F:Fun K "_law_exchanged" "_law_exchanged" sXc f fd') (mList:mg "list" = none) (mTuple:mg "tuple" = none):zAP P w K mg base CX0 1 f fd' ["_law_labels", "_law_place", "_law_other"] spXc:=by
 refine F.okD scXc fun _ A _ _ H vs Q E hr h=>?_
 obtain⟨la,n,i,j,ess,rfl,LA,LK,n24,i0,i1,j0,j1,k⟩:=h
 obtain⟨as,hl,hal,hA⟩:=id LA
 have hln:=LK.ln
 obtain⟨a,ha⟩:∃a,as[i.toNat]? = some a:=⟨_,zB (by omega)⟩
 obtain⟨b,hb⟩:∃b,as[j.toNat]? = some b:=⟨_,zB (by omega)⟩
 obtain⟨ea,hea,La⟩:=hA _ _ ha
 obtain⟨eb,heb,Lb⟩:=hA _ _ hb
 refine⟨_,zP (zBA (i:=3) scXc.nd (zAm zFp mList (zD (pv 0) zN)))
  (zP (zCp (zBC (zD (zt zAF (pv 0) (pv 2)) (zD (zt zAF (pv 0) (pv 1)) zN))) (zCD rfl (zu (zC1 (pv 3) (pv 1) zCG) (zu (zC1 (pv 3) (pv 2) zCG) zBN))))
  (zZ (zAA (zAm zAS mTuple (zD (pv 3) zN))))),?_⟩
 refine⟨_,rfl,la,_,rfl,.inr (SqT.of hl),fun L hL=>?_⟩
 have sL:=zI (o:=.lst (as.map V.ref)) hL
 refine⟨_,rfl,_,rfl,la,_,_,.ref b,rfl,rfl,SqT.of (sL _ _ hl),zAe j0 (by rw[zM,hb];rfl),_,rfl,_,rfl,la,_,_,.ref a,rfl,rfl,SqT.of (sL _ _ hl),zAe i0 (by rw[zM,ha];rfl),by show 2<=sizeLine;decide,fun T hT=>?_⟩
 have sT:=zI (o:=.tup [.ref b,.ref a]) hT
 refine⟨T,_,rfl,SqT.of zJ,rfl,_,_,rfl,_,rfl,_,rfl,L,_,i,i.toNat,rfl,rfl,sT _ _ zJ,zEY i0 (by rw[zC];omega),?_⟩
 refine⟨_,_,rfl,_,rfl,_,rfl,L,_,j,j.toNat,rfl,rfl,zJ,zEY j0 (by rw[zAs,zC];omega),rfl,?_⟩
 have e1:((as.map V.ref).set i.toNat (.ref b)).set j.toNat (.ref a)=((as.set i.toNat b).set j.toNat a).map V.ref:=by rw[List.map_set,List.map_set]
 rw[e1,zB1]
 have s3:zAi H (upd (upd (upd H L (.lst (as.map V.ref))) T (.tup [.ref b,.ref a])) L (.lst (((as.set i.toNat b).set j.toNat a).map V.ref))):=zAY (sL.trans sT) hL
 refine⟨_,rfl,L,_,rfl,.inl ⟨SqL.of zJ,fun l hl'=>?_⟩⟩
 have s4:=s3.trans (zI (o:=.tup (((as.set i.toNat b).set j.toNat a).map V.ref)) hl')
 have LB:zFy H as ess:=⟨hal,hA⟩
 have LB':=(LB.set Lb i.toNat).set La j.toNat
 exact k l _ _ ((LB'.keep fun x ys z=>s4 _ _ z).labs zJ) ((LK.set (LK.kd _ (zO heb)) _).set (LK.kd _ (zO hea)) _) s4
theorem zKs:zw ["_law_label", "_law_hub_here", "_law_some", "_law_one", "_law_long", "_law_up", "_law_down", "_law_more"] ["_law_label", "_law_hub_here"] (defScope sLn):=fS0
theorem ok_ln (F:Fun K "_law_longer" "_law_longer" sLn f fd') (mInt:mg "int" = none) (mTuple:mg "tuple" = none):zAP P w K mg base CX0 1 f fd' ["_law_label", "_law_hub_here"] spLn:=by
 refine F.okD zKs fun _ A _ _ H vs Q E hr h=>?_
 obtain⟨p,n,h,es,rfl,L,LK,n0,n24,k⟩:=h
 obtain⟨as,hp,EA,hel⟩:=id L
 have hes:=LK.len
 refine⟨_,zP (zBA (i:=2) zKs.nd (zCE zN))
  (zP (zBF PassesOwn.never rfl (zBv (pv 0)) (zCD rfl (zu (zv (i:=3) zKs.nd rfl (Or.inl rfl)) (zu (zv (i:=4) zKs.nd rfl (Or.inl rfl)) (zu (zv (i:=5) zKs.nd rfl (Or.inl rfl)) (zu (zv (i:=6) zKs.nd rfl (Or.inl rfl)) zBN)))))
   (zP (zBA (i:=7) zKs.nd (pe_as (zA5 zET zj (zAm zIz mInt (zD (zCZ (zBO zBw (pv 3) (pv 1) (zAD _)) (zCd (zBO zFM (pv 4) zj (zAD _)))) zN)))
    (fun σ H Q (q:∃x y h:Int,σ[3]? = some (some (.int x))/\σ[4]? = some (some (.int y))/\σ[1]? = some (some (.int h))/\∀m:Int,0<=m->(m≠0->0<y)->Q (.int m) H)=>by
     obtain⟨x,y,h,e3,e4,e1,q⟩:=q
     refine⟨_,e3,_,e1,rfl,_,rfl,?_⟩
     by_cases c:V.int x=V.int h
     . rw[zU c,if_pos rfl]
       refine⟨_,e4,_,_,rfl,rfl,.inr ⟨_,rfl,_,_,rfl,rfl,.inl ⟨by decide,by decide⟩,q _ ?_ fun z=>?_⟩⟩
       . split <;> omega
       . by_cases c2:(0:Int)<y
         . exact c2
         . rw[zl c2] at z;exact absurd rfl z
     . rw[zl c,if_neg (by decide)]
       exact .inr ⟨_,rfl,_,_,rfl,rfl,.inl ⟨by decide,by decide⟩,q _ (by decide) fun z=>absurd rfl z⟩)))
   (zZ (zCB (zEG PySem.F.plainAttrs_list PySem.F.slot_list_append PySem.F.type_list_append zBx (pv 2) (zD (zBC (zD (pv 3) (zD (zA5 zB0 (pv 4) (pv 7)) (zD (pv 5) (zD (pv 6) zN))))) zN))))))
  (zZ (zAA (zAm zAS mTuple (zD (pv 2) zN))))),?_⟩
 refine⟨by show 0<=sizeLine;decide,fun D hD=>?_⟩
 have s0:=zI (o:=.lst []) hD
 refine⟨_,rfl,p,rfl,⟨_,SqT.of (s0 _ _ hp)⟩,zD1 (K:=K) (a:=p) (xs:=as.map V.ref) (fun j σ H1=>∃(v3 v4 v5 v6 v7:Option V)(cs:List Addr)(fs:List En),σ=[some (.ref p),some (.int h),some (.ref D),v3,v4,v5,v6,v7]/\fs.length=j/\H1 D=some (.lst (cs.map V.ref))/\zBb H1 cs fs/\(∀(m:Nat)(f:En),fs[m]? = some f->∃e,es[m]? = some e/\f.h=e.h/\(f.l=0↔e.l=0)/\EOk n f)/\zAi H H1/\j<=es.length)
  ⟨_,_,_,_,_,[],[],rfl,rfl,zJ,⟨rfl,fun m c z=>by simp at z⟩,(fun m f z=>by simp at z),s0,ze _⟩ (fun j σ H1 _ ⟨_,_,_,_,_,_,_,_,_,_,_,_,s1,_⟩=>SqT.of (s1 _ _ hp)) ?turn ?after⟩
 case after=>
  rintro σ H1 ⟨v3,v4,v5,v6,v7,cs,fs,rfl,hfs,hD1,EF,hF,s1,_⟩
  rw[zC,EA.1] at hfs
  refine⟨_,rfl,D,_,rfl,.inl ⟨SqL.of hD1,fun c hc=>?_⟩⟩
  have sc:=zI (o:=.tup (cs.map V.ref)) hc
  exact k c fs _ ⟨cs,zJ,EF.keep fun b' us z=>sc _ _ z,by omega⟩ (zBa.like n0 LK hfs hF) (s1.trans sc)
 case turn=>
  rintro j y σ H1 hj ⟨v3,v4,v5,v6,v7,cs,fs,rfl,hfs,hD1,EF,hF,s1,hjl⟩
  obtain⟨c,e,rfl,he,hc⟩:=EA.at hj
  have hem:=zO he
  have hjl2:=(zH.mp he).1
  have E0:=LK.ent e hem
  have nn:=E0.nn
  refine⟨c,_,rfl,SqT.of (s1 _ _ hc),rfl,_,_,rfl,_,_,rfl,_,_,rfl,_,_,rfl,rfl,?_⟩
  refine⟨e.h,e.l,h,rfl,rfl,rfl,fun m m0 m1=>?_⟩
  refine⟨_,rfl,.inl ⟨rfl,_,SqL.of hD1⟩,_,rfl,_,rfl,_,rfl,_,_,rfl,rfl,_,rfl,_,rfl,by show 4<=sizeLine;decide,fun x hx=>?_⟩
  have sx:=zI (o:=.tup [.int e.h,.int (e.l+m),oV e.u,oV e.d]) hx
  have hD2:=sx _ _ hD1
  refine⟨D,_,_,rfl,rfl,hD2,by rw[zC,EF.1];exact zAj (by omega),?_⟩
  have nx:x≠D:=fun z=>by rw[z,hD1] at hx;cases hx
  have kp:∀x' us,H1 x'=some (.tup us)->(upd (upd H1 x (.tup [.int e.h,.int (e.l+m),oV e.u,oV e.d])) D (.lst (cs.map V.ref++[.ref x]))) x'=some (.tup us):=fun x' us z=>by
   rw[za (zBT z hD1 (by intro w;cases w))]
   exact sx _ _ z
  refine⟨_,_,_,_,_,cs++[x],fs++[⟨e.h,e.l+m,e.u,e.d⟩],rfl,by rw[zL,hfs];rfl,by rw[zS];exact zJ,(EF.keep kp).snoc ?_,fun m' f' hf'=>?_,(zAY (s1.trans sx) hD),hjl2⟩
  . rw[za nx];exact zJ
  . by_cases cm:m'<fs.length
    . rw[zW cm] at hf'
      exact hF m' f' hf'
    . rw[zQ (by omega)] at hf'
      cases hz:m'-fs.length with
      | zero=>
       rw[hz] at hf'
       have e1:(⟨e.h,e.l+m,e.u,e.d⟩:En)=f':=by simpa using hf'
       subst e1
       have iff0:e.l+m=0↔e.l=0:=⟨fun z=>by omega,fun z=>by
        by_cases q:m=0
        . omega
        . have:=m1 q;omega⟩
       refine⟨e,by rw[show m'=j by omega];exact he,rfl,iff0,⟨E0.rng,by show 0<=e.l+m;omega,fun z=>E0.own (iff0.mp z),fun z=>E0.far fun q=>z (iff0.mpr q)⟩⟩
      | succ z=>rw[hz] at hf';simp at hf'
noncomputable def rCatV:R2:=fun x y H Q=>∃(a b:Addr)(xs ys:List V),x = .ref a/\y = .ref b/\H a=some (.tup xs)/\H b=some (.tup ys)/\xs.length+ys.length<=sizeLine/\∀(p:Addr)(H':Hp),zAi H H'->H' p=some (.tup (xs++ys))->Q (.ref p) H'
theorem zDL:OpR X (binaryOp .Add) rCatV:=fun pins s σ H x y v u Q I rx ry h=>by
 obtain⟨a,b,xs,ys,rfl,rfl,ha,hb,hz,q⟩:=h
 refine zLB pins s σ H _ _ v u Q I rx ry ⟨a,b,xs,ys,rfl,rfl,SqT.of ha,SqT.of hb,hz,fun e=>?_,fun _ e=>?_,fun _ _ p hp=>q p _ (zI hp) zJ⟩
 . subst e;exact q b H (zAi.refl _) hb
 . subst e;exact q a H (zAi.refl _) (by rw[zr];exact ha)
noncomputable def rSlV:V->Option Int->Option Int->Hp->VK->Prop:=fun x lo hi H Q=>∃(a:Addr)(xs:List V),x = .ref a/\H a=some (.tup xs)/\∀(p:Addr)(H':Hp),zAi H H'->H' p=some (.tup (zFx xs lo hi))->Q (.ref p) H'
theorem zDK:SlR X rSlV:=fun pins s σ H x v vl vu lo hi sl Q I rx hs pl pu h=>by
 obtain⟨a,xs,rfl,ha,q⟩:=h
 refine zKo pins s σ H _ v vl vu lo hi sl Q I rx hs pl pu ⟨a,xs,rfl,SqT.of ha,fun e=>?_,fun _ p hp=>q p _ (zI hp) zJ⟩
 refine q a H (zAi.refl _) ?_
 have:zFx xs lo hi=xs:=by
  unfold zFx
  rw[e.1,e.2,List.drop_zero,Nat.sub_zero,zb (zK _)]
 rw[this]
 exact ha
theorem zC9 (xs:List V)(m:Nat):zFx xs none (some (m:Int))=xs.take m:=by
 unfold zFx
 rw[HT.sIx_none,HT.sIx_nat,List.drop_zero,Nat.sub_zero]
 by_cases h:m<=xs.length
 . rw[Nat.min_eq_left h]
 . rw[Nat.min_eq_right (by omega),zb (zK _),zb (by omega)]
theorem zD7 (xs:List V)(m:Nat):zFx xs (some (m:Int)) none=xs.drop m:=by
 unfold zFx
 rw[HT.sIx_none,HT.sIx_nat]
 by_cases h:m<=xs.length
 . rw[Nat.min_eq_left h,zb (by rw[zBG];exact zK _)]
 . rw[Nat.min_eq_right (by omega),Nat.sub_self,List.take_zero,List.drop_of_length_le (by omega)]
noncomputable def e0:En:=⟨0,0,none,none⟩
theorem zBa.sort {fs gs:List En}(n0:0<=n)(K:zBa n es)(E:∀f∈fs,EOk n f/\f.l≠0)(p:gs.Perm (es++fs))(hb:Hub gs):zBa n gs:=by
 refine zBa.of n0 (fun x hx=>?_) hb ?_
 . rcases zm.mp (p.mem_iff.mp hx) with z | z
   . exact K.ent x z
   . exact (E x z).1
 . unfold zLj
   have c:(fs.map (·.l)).countP (fun x=>x==0)=0:=by
    rw[List.countP_eq_zero]
    intro x hx
    obtain⟨f,hf,rfl⟩:=zAI.mp hx
    simpa using (E f hf).2
   rw[(p.map _).countP_eq,zS,List.countP_append,K.one,c]
theorem zLg {out:List Nat}(EA:zBb H as es)(nd:es.Pairwise fun a b=>a.h≠b.h)(p:SortT.Put (O:=zJC) (fun i=>(es.map (·.h)).getD i (0:Int)) (as.map V.ref).length out) :
 ∃bs gs,out.map (fun i=>(as.map V.ref).getD i .non)=bs.map V.ref/\zBb H bs gs/\gs.Perm es/\Hub gs:=by
 have hl:=EA.1
 rw[zC,hl] at p
 have hb:∀i∈out,i<es.length:=fun i hi=>zBg.mp (p.perm.mem_iff.mp hi)
 refine⟨out.map fun i=>as.getD i 0,out.map fun i=>es.getD i e0,?_,⟨by rw[zC,zC],fun j b hj=>?_⟩,?_,?_⟩
 . rw[List.map_map]
   refine List.map_congr_left fun i hi=>?_
   have h1:i<as.length:=by rw[hl];exact hb i hi
   show (as.map V.ref).getD i .non=V.ref (as.getD i 0)
   rw[zE,zM,zE,zB h1]
   rfl
 . rw[zM] at hj ⊢
   cases z:out[j]? with
   | none=>rw[z] at hj;cases hj
   | some i=>
    rw[z] at hj
    cases hj
    have hi:=hb i (zO z)
    obtain⟨e,h1,h2⟩:=EA.2 i as[i] (zB (by omega))
    refine⟨e,?_,?_⟩
    . show some (es.getD i e0)=some e
      rw[zE,h1];rfl
    . show H (as.getD i 0)=_
      rw[zE,zB (show i<as.length by omega)]
      exact h2
 . have h1:=p.perm.map fun i=>es.getD i e0
   have h2:(List.range es.length).map (fun i=>es.getD i e0)=es:=by
    apply List.ext_getElem?
    intro j
    rw[zM]
    by_cases hj:j<es.length
    . rw[List.getElem?_range hj,zB hj];simp[hj]
    . rw[zAK (by rw[zAQ];omega),zAK (by omega)];rfl
   rw[h2] at h1
   exact h1
 . have pn:out.Nodup:=p.perm.nodup_iff.mpr List.nodup_range
   refine zy.mpr fun i j hi hj hij=>?_
   rw[zC] at hi hj
   have:=p.rise i j out[i] out[j] (zAw hij) (by simp) (by simp)
   have h3:decide ((es.map (·.h)).getD out[j] 0<(es.map (·.h)).getD out[i] 0)=false:=this
   have h4:=of_decide_eq_false h3
   have bi:=hb out[i] (List.getElem_mem hi)
   have bj:=hb out[j] (List.getElem_mem hj)
   rw[List.getElem_map,List.getElem_map]
   have gd:∀k,k<es.length->(es.map (·.h)).getD k 0=(es.getD k e0).h:=fun k hk=>by
    rw[zE,zM,zE,zB hk];rfl
   rw[gd _ bi,gd _ bj] at h4
   have ne:out[i]≠out[j]:=zy.mp pn i j hi hj hij
   have pw:=zy.mp nd
   have gg:∀k (hk:k<es.length),es.getD k e0=es[k]:=fun k hk=>by rw[zE,zB hk];rfl
   rw[gg _ bi,gg _ bj] at h4 ⊢
   have nh:es[out[i]].h≠es[out[j]].h:=by
    rcases Nat.lt_or_gt_of_ne ne with z | z
    . exact pw _ _ bi bj z
    . exact (pw _ _ bj bi z).symm
   omega
theorem zBb.app {bs:List Addr}{fs:List En}(h:zBb H as es)(g:zBb H bs fs):zBb H (as++bs) (es++fs):=by
 refine⟨by rw[zL,zL,h.1,g.1],fun i b hb=>?_⟩
 by_cases c:i<as.length
 . rw[zW c] at hb
   obtain⟨e,h1,h2⟩:=h.2 i b hb
   exact⟨e,by rw[zW (by rw[<-h.1];exact c)];exact h1,h2⟩
 . rw[zQ (by omega)] at hb
   obtain⟨e,h1,h2⟩:=g.2 _ b hb
   exact⟨e,by rw[zQ (by rw[<-h.1];omega),<-h.1];exact h1,h2⟩
theorem zBb.take (h:zBb H as es)(m:Nat):zBb H (as.take m) (es.take m):=by
 refine⟨by rw[zk,zk,h.1],fun i b hb=>?_⟩
 rw[List.getElem?_take] at hb ⊢
 by_cases c:i<m
 . rw[if_pos c] at hb ⊢
   exact h.2 i b hb
 . rw[if_neg c] at hb;cases hb
theorem zBb.drop (h:zBb H as es)(m:Nat):zBb H (as.drop m) (es.drop m):=by
 refine⟨by rw[zBG,zBG,h.1],fun i b hb=>?_⟩
 rw[List.getElem?_drop] at hb ⊢
 exact h.2 _ b hb
theorem zBb.one {a:Addr}(h:H a=some (.tup (eV e))):zBb H [a] [e]:=⟨rfl,fun i b hb=>by
 cases i with
 | zero=>cases hb;exact⟨e,rfl,h⟩
 | succ i=>simp at hb⟩
theorem zDb {α:Type}{l:List α}{x:α}(h:i<l.length):l.take i++[x]++l.drop (i+1)=l.set i x:=by
 rw[List.set_eq_take_append_cons_drop,if_pos h,List.append_assoc];rfl
theorem zJK {α:Type}{l:List α}{x:α}(h:l[i]? = some x):l=l.take i++x::l.drop (i+1):=by
 obtain⟨h1,h2⟩:=zH.mp h
 rw[<-h2,List.getElem_cons_drop,List.take_append_drop]
noncomputable def spBl:Sp:=fun vs H Q _=>∃(t la:Addr)(N:Nat)(n:Int)(ess:List (List En)),vs=[.ref t,.int n,.ref la]/\zAO H t N/\N<800000/\1<=n/\n<=24/\zBL H la ess/\LbK n ess /\
 ∀(l:Addr)(ess':List (List En))(H':Hp),zBL H' l ess'->LbK n ess'->zAO H' t (N+8)->Sm t H H'->Q (.ref l) H'
theorem zBV.cut (L:zBV H p es):∃as:List Addr,H p=some (.tup (as.map V.ref))/\zBb H as es/\as.length=es.length:=by
 obtain⟨as,h1,h2,_⟩:=L
 exact⟨as,h1,h2,h2.1⟩
theorem zJB:zw ["_law_tape_here", "_law_n", "_law_labels", "_law_place", "_law_label", "_law_at", "_law_way", "_law_some", "_law_hubs"] ["_law_tape_here", "_law_n", "_law_labels"] (defScope sBl):=fS0
theorem ok_bl {fX fH:Addr}{fdX fdH:FuncData}(F:Fun K "_law_bent_labels" "_law_bent_labels" sBl f fd') (FD:FuB K mg "_law_draw" zEF fD fdD ["_law_tape_here","_law_many"]) (GD:zAP P w K mg base CX0 6 fD fdD ["_law_tape_here", "_law_many"] zEP)
 (FX:FuB K mg "_law_exchanged" sXc fX fdX ["_law_labels","_law_place","_law_other"]) (GX:zAP P w K mg base CX0 6 fX fdX ["_law_labels", "_law_place", "_law_other"] spXc)
 (FL:FuB K mg "_law_longer" sLn fL fdL ["_law_label","_law_hub_here"]) (GL:zAP P w K mg base CX0 6 fL fdL ["_law_label", "_law_hub_here"] spLn)
 (FH:FuB K mg "_law_hub" sHb fH fdH ["_law_entry"]) (GH:zAP P w K mg base CX0 4 fH fdH ["_law_entry"] spHb)
 (FB:FuB K mg "_law_bent_entry" sBe fB fdB ["_law_tape_here","_law_n","_law_entry"]) (GB:zAP P w K mg base CX0 6 fB fdB ["_law_tape_here", "_law_n", "_law_entry"] spBe)
 (mLen:mg "len" = none) (mTuple:mg "tuple" = none) (mSorted:mg "sorted" = none):zAP P w K mg base CX0 7 f fd' ["_law_tape_here", "_law_n", "_law_labels"] spBl:=by
 refine F.okD zJB fun _ A _ _ H vs Q E hr h=>?_
 obtain⟨t,la,N,n,ess,rfl,T,hN,n1,n24,LA,LK,k⟩:=h
 have hln:=LK.ln
 refine⟨_,zP (zBA (i:=3) zJB.nd (zAL GD hr FD (zD (pv 0) (zD (pv 1) zN))))
  (zP (zB9 (i:=4) zJB.nd rfl (Or.inr rfl) (zt zAF (pv 2) (pv 3)))
  (zP (zB9 (i:=5) zJB.nd rfl (Or.inr rfl) (zAL GD hr FD (zD (pv 0) (zD (zAa zAy mLen (zD (pv 4) zN)) zN))))
  (zP (zBA (i:=6) zJB.nd (zAL GD hr FD (zD (pv 0) (zD zj zN))))
  (zP (zA9 (zAC zBw (pv 6) zj (zAD _)) (zZ (zAA (zAL GX hr FX (zD (pv 2) (zD (pv 3) (zD (zAL GD hr FD (zD (pv 0) (zD (pv 1) zN))) zN)))))) zAR)
  (zP (zA9 (zAC zBw (pv 6) zj (zAD _)) (zZ (zAA (zAm zAS mTuple (zD (zA6 (own:=["_law_one"]) (cn:=["_law_label", "_law_at"]) (ci:=[4,5]) rfl (csc rfl rfl) ⟨rfl,rfl,rfl,rfl,rfl,rfl,trivial⟩ rfl (zBv (pv 2)) (fun _ _ _ _=>zBr) (fun _ _ _ _=>zBH)
   (fun _ _ _ _=>zAL GL hr FL (zD (pv 0) (zD (zt zBe (zt zBe (pv 1) (pv 2)) zj) zN)))) zN)))) zAR)
  (zP (ps_as (u':=fun (D':zJF) σ H3=>∃(pl:Addr)(i at' wy:Int)(es:List En)(N0:Nat),σ=[some (.ref t),some (.int n),some (.ref la),some (.int i),some (.ref pl),some (.int at'),some (.int wy),none,none]/\zAO H3 t N0/\N0<900000/\zBL H3 la ess/\zBV H3 pl es/\zBa n es/\0<=at'/\at'<es.length /\
   ∀(pl':Addr)(es':List En)(v7 v8:Option V)(H':Hp),zBV H' pl' es'->zBa n es'->zAO H' t (N0+3)->Sm t H3 H'->D'.nx [some (.ref t),some (.int n),some (.ref la),some (.int i),some (.ref pl'),some (.int at'),some (.int wy),v7,v8] H')
   (zA9 (PW.pt (zFJ (zAC zBw (pv 6) zj (zAD _)) (zDl (zAC zFM (zt zAF (zt zAF (pv 4) (pv 5)) zj) zj (zAD _)))))
    (zZ (zB9 (i:=4) zJB.nd rfl (Or.inr rfl) (zA5 zDL (zCP zDK (pv 4) zCc (zCb (pv 5))) (zCP zDK (pv 4) (zCb (zA5 zB0 (pv 5) zj)) zCc))))
    (zZ (zA9 (zAC zBw (pv 6) zj (zAD _))
     (zP (zCs (i:=7) (own:=["_law_entry"]) (cn:=[]) (ci:=[]) zJB.nd rfl (Or.inl rfl) rfl (csc rfl rfl) trivial rfl (zBv (zt zAF (pv 2) (zAL GD hr FD (zD (pv 0) (zD (pv 1) zN))))) (fun _ _ _ _=>zBr)
      (fun _ _ _ _=>zCK (zAC zFM (zt zBe (pv 0) zj) zj (zAD _))) (fun _ _ _ _=>pv 0))
     (zP (zB9 (i:=8) zJB.nd rfl (Or.inr rfl) (zA6 (own:=["_law_entry"]) (cn:=[]) (ci:=[]) rfl (csc rfl rfl) trivial rfl (zBv (pv 4)) (fun _ _ _ _=>zBr)
      (fun _ _ _ _=>zBH) (fun _ _ _ _=>zt zBe (pv 0) zj)))
     (zZ (zB9 (i:=4) zJB.nd rfl (Or.inr rfl) (zAm zAS mTuple (zD (zJc GH hr rfl mSorted rfl FH.m FH.b (zD (zA5 zDL (pv 4) (zAm zAS mTuple (zD (zCP zHq (zA6 (own:=["_law_entry"]) (cn:=["_law_hubs"]) (ci:=[8]) rfl (csc rfl rfl) ⟨rfl,rfl,rfl,trivial⟩ rfl (zB2 (pv 7)) (fun _ _ _ _=>zBr)
      (fun _ _ _ _=>zCK (zAC zID (zt zBe (pv 0) zj) (pv 1) (by with_unfolding_all rfl))) (fun _ _ _ _=>pv 0)) zCc (zCb zj)) zN))) zN)) zN))))))
     (zZ (zB9 (i:=4) zJB.nd rfl (Or.inr rfl) (pe_as (te':=fun σ H3 Q=>∃(pl:Addr)(i wy:Int)(at':Nat)(es:List En)(N0:Nat)(v7 v8:Option V),σ=[some (.ref t),some (.int n),some (.ref la),some (.int i),some (.ref pl),some (.int at'),some (.int wy),v7,v8]/\zAO H3 t N0/\N0<900000/\zBV H3 pl es/\zBa n es/\at'<es.length /\
      ∀(pl':Addr)(es':List En)(H':Hp),zBV H' pl' es'->zBa n es'->zAO H' t (N0+2)->Sm t H3 H'->Q (.ref pl') H')
      (zA5 zDL (zA5 zDL (zCP zDK (pv 4) zCc (zCb (pv 5))) (zBC (zD (zAL GB hr FB (zD (pv 0) (zD (pv 1) (zD (zt zAF (pv 4) (pv 5)) zN)))) zN))) (zCP zDK (pv 4) (zCb (zA5 zB0 (pv 5) zj)) zCc)) (fun σ H3 Q z=>?cC)))))))
   (fun D' σ H3 z=>?bend))
  (zZ (zAA (zA5 zDL (zA5 zDL (zCP zDK (pv 2) zCc (zCb (pv 3))) (zBC (zD (pv 4) zN))) (zCP zDK (pv 2) (zCb (zA5 zB0 (pv 3) zj)) zCc)))))))))),?_⟩
 case cC=>
  obtain⟨pl,i,wy,at',es,N0,v7,v8,rfl,T3,hN0,Le,Ke,a1,z⟩:=z
  obtain⟨as,h1,EA,hal⟩:=Le.cut
  have hel:=Ke.len
  obtain⟨c,hc⟩:∃c,as[at']? = some c:=⟨_,zB (by omega)⟩
  obtain⟨e,he,hce⟩:=EA.2 _ _ hc
  have Ee:=Ke.ent e (zO he)
  refine⟨_,rfl,_,rfl,(at':Int),rfl,pl,_,rfl,h1,fun p1 H4 s4 h4=>?_⟩
  rw[zC9,<-List.map_take] at h4
  refine⟨_,rfl,_,rfl,_,rfl,_,rfl,pl,_,_,.ref c,rfl,rfl,SqT.of (s4 _ _ h1),zCh (by rw[zM,hc];rfl),t,c,N0,n,e,rfl,T3.keep s4,hN0,n1,n24,s4 _ _ hce,Ee,fun c' e' H5 hc' E' eh el T5 s5=>?_⟩
  have s35:Sm t H3 H5:=(Sm.of s4).trans s5
  have h15:=s5 _ _ (zAO.neT (T3.keep s4) (s4 _ _ h1)) (s4 _ _ h1)
  have h45:=s5 _ _ (zAO.neT (T3.keep s4) h4) h4
  have EA5:zBb H5 as es:=EA.keep fun b ys z=>s35 _ _ (zAO.neT T3 z) z
  refine⟨by show 1<=sizeLine;decide,fun p2 hp2=>?_⟩
  have s6:=zI (o:=.tup [.ref c']) hp2
  refine⟨p1,p2,_,_,rfl,rfl,s6 _ _ h45,zJ,by rw[zC,zk];exact zAw (zAj (by simp;omega)),fun p3 H7 s7 h7=>?_⟩
  have s57:=s6.trans s7
  refine⟨_,rfl,_,rfl,_,_,rfl,rfl,_,rfl,pl,_,rfl,s57 _ _ h15,fun p4 H8 s8 h8=>?_⟩
  rw[show ((at':Int)+1)=((at'+1:Nat):Int) by omega,zD7,<-List.map_drop] at h8
  have h78:=s8 _ _ h7
  refine⟨p3,p4,_,_,rfl,rfl,h78,h8,by simp only[zL,zC,zk,zBG,zp,zBi];exact zAw (zAj (by omega)),fun p5 H9 s9 h9=>?_⟩
  have s59:=s57.trans (s8.trans s9)
  have e9:(as.take at').map V.ref++[V.ref c']++(as.drop (at'+1)).map V.ref=(as.set at' c').map V.ref:=by
   rw[<-zDb (x:=c') (show at'<as.length by omega),zS,zS];rfl
  rw[e9] at h9
  have EA9:zBb H9 (as.set at' c') (es.set at' e'):=by
   have:=((EA5.take at').app (zBb.one hc')).app (EA5.drop (at'+1))
   rw[zDb (by omega),zDb (by omega)] at this
   exact this.keep fun b ys z=>s59 _ _ z
  refine z p5 (es.set at' e') H9 ⟨_,h9,EA9,by rw[zAs];omega⟩ (zBa.like (by omega) Ke (by rw[zAs]) fun m f hf=>?_) (T5.keep s59) (s35.trans (Sm.of s59))
  rw[List.getElem?_set] at hf
  by_cases q:at'=m
  . subst q
    rw[if_pos rfl,if_pos a1] at hf
    cases hf
    exact⟨e,he,eh,el,E'⟩
  . rw[if_neg q] at hf
    exact⟨f,hf,rfl,Iff.rfl,Ke.ent f (zO hf)⟩
 case bend=>
  obtain⟨pl,i,at0,wy,es,N0,rfl,T3,hN0,L3,Le,Ke,a0,a1,z⟩:=z
  obtain⟨at',rfl⟩:∃m:Nat,at0=m:=⟨at0.toNat,by omega⟩
  obtain⟨as,h1,EA,hal⟩:=Le.cut
  have hel:=Ke.len
  obtain⟨c,hc⟩:∃c,as[at']? = some c:=⟨_,zB (by omega)⟩
  obtain⟨e,he,hce⟩:=EA.2 _ _ hc
  have Ee:=Ke.ent e (zO he)
  refine⟨_,rfl,rfl,_,rfl,?_⟩
  by_cases c0:wy=0
  . refine ifT (by simp[c0]) ?_
    refine⟨_,rfl,_,rfl,pl,_,_,.ref c,rfl,rfl,SqT.of h1,zCh (by rw[zM,hc];rfl),c,_,_,.int e.l,rfl,rfl,SqT.of hce,rfl,_,_,rfl,rfl,_,rfl,?_⟩
    by_cases c1:0<e.l
    . refine ifT (by simp[c1]) ?_
      refine⟨_,rfl,_,rfl,(at':Int),rfl,pl,_,rfl,h1,fun p1 H4 s4 h4=>?_⟩
      rw[zC9,<-List.map_take] at h4
      refine⟨_,rfl,_,rfl,_,_,rfl,rfl,_,rfl,pl,_,rfl,s4 _ _ h1,fun p4 H8 s8 h8=>?_⟩
      rw[show ((at':Int)+1)=((at'+1:Nat):Int) by omega,zD7,<-List.map_drop] at h8
      refine⟨p1,p4,_,_,rfl,rfl,s8 _ _ h4,h8,by simp only[zC,zk,zBG];exact zAw (zAj (by omega)),fun p5 H9 s9 h9=>?_⟩
      rw[<-zS] at h9
      have s39:=s4.trans (s8.trans s9)
      have EA9:zBb H9 (as.take at'++as.drop (at'+1)) (es.take at'++es.drop (at'+1)):=((EA.take at').app (EA.drop (at'+1))).keep fun b ys z=>s39 _ _ z
      refine z p5 _ _ _ H9 ⟨_,h9,EA9,?_⟩ (zBa.drop (by omega) (e:=e) (by rw[<-zJK he];exact Ke) (by omega)) ((T3.keep s39).mono (by omega)) (Sm.of s39)
      rw[zL,zk,zBG];omega
    . refine ifF (by simp[c1]) ?_
      refine⟨_,rfl,rfl,_,rfl,ifF (by simp[c0]) ?_⟩
      exact⟨pl,i,wy,at',es,N0,_,_,rfl,T3,hN0,Le,Ke,by omega,fun pl' es' H' L' K' T' s'=>z pl' es' _ _ H' L' K' (T'.mono (by omega)) s'⟩
  . refine ifF (by simp[c0]) ?_
    refine⟨_,rfl,rfl,_,rfl,?_⟩
    by_cases c1:wy=1
    . refine ifT (by simp[c1]) ?_
      refine⟨_,rfl,_,rfl,_,rfl,t,N0,n,rfl,T3,by omega,by omega,by omega,fun j H4 j0 j1 T4 e4=>?_⟩
      have s34:Sm t H3 H4:=zDJ e4
      have tu:∀b ys,H3 b=some (.tup ys)->H4 b=some (.tup ys):=fun b ys z=>s34 _ _ (zAO.neT T3 z) z
      obtain⟨ls,hl,hll,hA⟩:=L3.keep tu
      obtain⟨q,hq⟩:∃q,ls[j.toNat]? = some q:=⟨_,zB (by omega)⟩
      obtain⟨fs,hfs,Lf⟩:=hA _ _ hq
      have Kf:=LK.kd _ (zO hfs)
      obtain⟨bs,hqt,EB,hbl⟩:=Lf.cut
      have hfl:=Kf.len
      refine⟨la,_,_,.ref q,rfl,rfl,SqT.of hl,zAe j0 (by rw[zM,hq];rfl),q,rfl,⟨_,SqT.of hqt⟩,[],rfl,fun D7 hD7=>?_⟩
      refine zBX (a:=q) (xs:=bs.map V.ref) (fun m ys H5=>∃cs gs,ys=cs.map V.ref/\zBb H5 cs gs/\cs.length<=m/\m<=bs.length/\(∀g∈gs,EOk n g/\g.l≠0)/\zAi H4 H5/\H5 D7=some (.lst ys)) ⟨[],[],rfl,⟨rfl,fun i b z=>by simp at z⟩,zK _,ze _,(fun g z=>by cases z),zI hD7,zJ⟩ (fun m ys H5 w=>?_) (fun m ys H5 w=>?_) (fun m x ys H5 hx w=>?_) (fun ys H5 w=>?_)
      . obtain⟨_,_,_,_,_,_,_,s5,_⟩:=w
        exact SqT.of (s5 _ _ hqt)
      . obtain⟨cs,gs,rfl,_,h1,h2,_⟩:=w
        rw[zC]
        exact zAj (by omega)
      . obtain⟨cs,gs,rfl,EC,hcm,hmb,hg,s5,h5⟩:=w
        obtain⟨b,g,rfl,hgm,hb⟩:=EB.at hx
        have hm:=(zH.mp hgm).1
        have hb5:=s5 _ _ hb
        refine⟨⟨rfl,rfl⟩,?_⟩
        refine⟨_,rfl,b,_,_,.int g.l,rfl,rfl,SqT.of hb5,rfl,_,_,rfl,rfl,_,rfl,?_⟩
        by_cases cg:0<g.l
        . refine ifT (by simp[cg]) ?_
          have kp:∀x' us,H5 x'=some (.tup us)->(upd H5 D7 (.lst (cs.map V.ref++[.ref b]))) x'=some (.tup us):=fun x' us z=>by rw[za (zBT z h5 (by intro w;cases w))];exact z
          refine⟨_,rfl,h5,cs++[b],gs++[g],by rw[zS];rfl,(EC.keep kp).snoc (kp _ _ hb5),by rw[zL];simp;omega,by omega,fun g' hg'=>?_,zAY s5 hD7,zJ⟩
          rcases zm.mp hg' with z | z
          . exact hg g' z
          . rw[zf.mp z]
            exact⟨Kf.ent g (zO hgm),by omega⟩
        . exact ifF (by simp[cg]) ⟨cs,gs,rfl,EC,by omega,by omega,hg,s5,h5⟩
      . obtain⟨cs,gs,rfl,EC,hcm,_,hg,s5,h5⟩:=w
        rw[zC] at hcm
        have h15:=s5 _ _ (tu _ _ h1)
        have EA5:zBb H5 as es:=EA.keep fun b ys z=>s5 _ _ (tu _ _ z)
        refine⟨_,rfl,pl,rfl,⟨_,SqT.of h15⟩,[],rfl,fun D8 hD8=>?_⟩
        refine zBX (a:=pl) (xs:=as.map V.ref) (fun m ys H6=>ys=((es.take m).map (·.h)).map V.int/\m<=es.length/\zAi H5 H6/\H6 D8=some (.lst ys)) ⟨rfl,ze _,zI hD8,zJ⟩ (fun m ys H6 w=>?_) (fun m ys H6 w=>?_) (fun m x ys H6 hx w=>?_) (fun ys H6 w=>?_)
        . obtain⟨_,_,s6,_⟩:=w
          exact SqT.of (s6 _ _ h15)
        . obtain⟨rfl,_⟩:=w
          rw[zC,zC,zk]
          exact zAj (by omega)
        . obtain⟨rfl,hm,s6,h6⟩:=w
          obtain⟨b,g,rfl,hgm,hb⟩:=EA5.at hx
          have hm':=(zH.mp hgm).1
          refine⟨⟨rfl,rfl⟩,?_⟩
          refine zEO ?_
          refine⟨_,rfl,b,_,_,.int g.h,rfl,rfl,SqT.of (s6 _ _ hb),rfl,h6,?_,by omega,zAY s6 hD8,zJ⟩
          rw[zq,hgm,zS,zS];rfl
        . obtain⟨rfl,_,s6,h6⟩:=w
          rw[zC,hal,zb (zK _)] at h6
          have s46:=s5.trans s6
          have h16:=s6 _ _ h15
          have h56:=s6 _ _ h5
          refine⟨_,rfl,_,rfl,D7,rfl,⟨_,SqL.of h56⟩,[.ref D8],rfl,fun D9 hD9=>?_⟩
          refine zCN (a:=D7) (xs:=cs.map V.ref) (fun m ys H7=>∃xs ks,ys=xs.map V.ref/\zBb H7 xs ks/\xs.length<=m/\m<=cs.length/\(∀g∈ks,(EOk n g/\g.l≠0)/\g.h∉es.map (·.h))/\zAi H6 H7/\H7 D9=some (.lst ys)) ⟨[],[],rfl,⟨rfl,fun i b z=>by simp at z⟩,zK _,ze _,(fun g z=>by cases z),zI hD9,zJ⟩ (fun m ys H7 w=>?_) (fun m ys H7 w=>?_) (fun m x ys H7 hx w=>?_) (fun ys H7 w=>?_)
          . obtain⟨_,_,_,_,_,_,_,s7,_⟩:=w
            exact SqL.of (s7 _ _ h56)
          . obtain⟨xs,ks,rfl,_,h1,h2,_⟩:=w
            rw[zC]
            exact zAj (by omega)
          . obtain⟨xs,ks,rfl,EX,hxm,hmc,hk,s7,h7⟩:=w
            obtain⟨b,g,rfl,hgm,hb⟩:=(EC.keep fun b ys z=>s6 _ _ z).at hx
            have hm:=(zH.mp hgm).1
            have hb7:=s7 _ _ hb
            have hcl:=EC.1
            refine⟨⟨rfl,rfl⟩,?_⟩
            refine⟨_,rfl,b,_,_,.int g.h,rfl,rfl,SqT.of hb7,rfl,_,rfl,D8,_,rfl,.inl (SqL.of (s7 _ _ h6)),rfl,flatI _,_,rfl,?_⟩
            show (if (!inV (V.int g.h) ((es.map (·.h)).map V.int))=true then _ else _)
            rw[zGg]
            by_cases cg:g.h∈es.map (·.h)
            . rw[zU cg]
              exact zDH ⟨xs,ks,rfl,EX,by omega,by omega,hk,s7,h7⟩
            . rw[zl cg]
              refine zEv ?_
              have kp:∀x' us,H7 x'=some (.tup us)->(upd H7 D9 (.lst (xs.map V.ref++[.ref b]))) x'=some (.tup us):=fun x' us z=>by rw[za (zBT z h7 (by intro w;cases w))];exact z
              refine⟨_,rfl,h7,xs++[b],ks++[g],by rw[zS];rfl,(EX.keep kp).snoc (kp _ _ hb7),by rw[zL];simp;omega,by omega,fun g' hg'=>?_,zAY s7 hD9,zJ⟩
              rcases zm.mp hg' with z | z
              . exact hk g' z
              . rw[zf.mp z]
                exact⟨hg g (zO hgm),cg⟩
          . obtain⟨xs,ks,rfl,EX,hxm,_,hk,s7,h7⟩:=w
            rw[zC] at hxm
            refine⟨1,rfl,D9,_,rfl,SqL.of h7,fun p1 hp1=>?_⟩
            rw[show (1:Int)=((1:Nat):Int) from rfl,zC9,<-List.map_take]
            have s8:=zI (o:=.lst ((xs.take 1).map V.ref)) hp1
            refine⟨p1,_,rfl,.inl ⟨SqL.of zJ,fun p2 hp2=>?_⟩⟩
            have s9:=zI (o:=.tup ((xs.take 1).map V.ref)) hp2
            have s69:=s7.trans (s8.trans s9)
            have h19:=s69 _ _ h16
            have EX9:=(EX.take 1).keep fun b ys z=>(s8.trans s9) _ _ z
            have EA9:=EA5.keep fun b ys z=>(s6.trans s69) _ _ z
            refine⟨pl,p2,_,_,rfl,rfl,h19,zJ,by simp only[zC,zk];exact zAw (zAj (by omega)),fun p3 H10 s10 h10=>?_⟩
            rw[<-zS] at h10
            have EE:=(EA9.app EX9).keep fun b ys z=>s10 _ _ z
            have hkl:=EX.1
            refine⟨p3,_,(es++ks.take 1).map (·.h),rfl,h10,by rw[zC,zC,EE.1],by rw[zC,zL,zk];omega,fun m x kk hx hkk H11 s11=>?_,fun D out H11 pt hD s11 hD11=>?_⟩
            . obtain⟨b,g,rfl,hgm,hb⟩:=EE.at hx
              rw[zM,hgm] at hkk
              cases hkk
              exact⟨b,g.h,_,rfl,s11 _ _ hb,rfl,zAi.refl _⟩
            . have nd:(es++ks.take 1).Pairwise fun a b=>a.h≠b.h:=by
               refine List.pairwise_append.mpr ⟨Ke.hub.imp fun z=>by omega,?_,fun a ha b hb=>fun z=>?_⟩
               . match ks with
                 | []=>exact .nil
                 | g::r=>exact List.pairwise_singleton _ _
               . exact (hk b (List.mem_of_mem_take hb)).2 (z ▸ List.mem_map_of_mem ha)
              obtain⟨us,gs',eo,EU,pm,hub⟩:=zLg EE nd pt
              rw[eo]
              have s12:=s11.trans (zI (o:=.lst (us.map V.ref)) hD11)
              refine⟨D,_,rfl,.inl ⟨SqL.of zJ,fun p4 hp4=>?_⟩⟩
              have s13:=s12.trans (zI (o:=.tup (us.map V.ref)) hp4)
              have s4e:=s46.trans (s69.trans (s10.trans s13))
              have hul:=pm.length_eq
              rw[zL,zk] at hul
              exact z p4 gs' _ _ _ ⟨us,zJ,EU.keep fun b ys z=>s13 _ _ z,by omega⟩ (zBa.sort (by omega) Ke (fun f hf=>(hk f (List.mem_of_mem_take hf)).1) pm hub) ((T4.keep s4e).mono (by omega)) (s34.trans (Sm.of s4e))
    . refine ifF (by simp[c1]) ?_
      exact⟨pl,i,wy,at',es,N0,_,_,rfl,T3,hN0,Le,Ke,by omega,fun pl' es' H' L' K' T' s'=>z pl' es' _ _ H' L' K' (T'.mono (by omega)) s'⟩
 refine⟨_,rfl,_,rfl,t,N,n,rfl,T,by omega,by omega,by omega,fun i H1 i0 i1 T1 e1=>?_⟩
 obtain⟨i,rfl⟩:∃m:Nat,i=m:=⟨i.toNat,by omega⟩
 have s1:Sm t H H1:=zDJ e1
 have L1:zBL H1 la ess:=LA.keep fun b ys e=>s1 _ _ (zAO.neT T e) e
 obtain⟨as,hl,hal,hA⟩:=id L1
 obtain⟨pl,hpl⟩:∃a,as[i]? = some a:=⟨_,zB (by omega)⟩
 obtain⟨es,hes,Le⟩:=hA _ _ hpl
 have Ke:=LK.kd _ (zO hes)
 have hel:=Ke.len
 refine⟨_,rfl,_,rfl,la,_,_,.ref pl,rfl,rfl,SqT.of hl,zCh (by rw[zM,hpl];rfl),?_⟩
 obtain⟨cs,hpt,EC,hcl⟩:=Le.cut
 have pos:0<es.length:=by
  obtain⟨e,he⟩:=Ke.zero
  have:e∈es.filter (fun e=>decide (e.l=0)):=by rw[he];exact zV
  exact List.length_pos_of_mem (zAG.mp this).1
 refine⟨_,rfl,_,rfl,pl,_,rfl,.inr (SqT.of hpt),t,N+1,_,rfl,T1,by omega,by rw[zC];omega,by rw[zC];omega,fun a H2 a0 a1 T2 e2=>?_⟩
 rw[zC,hcl] at a1
 refine⟨_,rfl,t,N+2,6,rfl,T2,by omega,by decide,by decide,fun wy H3 w0 w6 T3 e3=>?_⟩
 have s13:Sm t H1 H3:=(zDJ e2).trans (zDJ e3)
 have s03:=s1.trans s13
 have tu:∀b ys,H1 b=some (.tup ys)->H3 b=some (.tup ys):=fun b ys z=>s13 _ _ (zAO.neT T1 z) z
 have L3:zBL H3 la ess:=L1.keep tu
 have hl3:=tu _ _ hl
 have Le3:=Le.keep tu
 have EC3:=EC.keep tu
 have LB3:zFy H3 as ess:=⟨hal,fun i b e=>let ⟨es,e1,e2⟩:=hA i b e;⟨es,e1,e2.keep tu⟩⟩
 refine⟨_,rfl,rfl,_,rfl,?_⟩
 by_cases c4:wy=4
 . refine ifT (by simp[c4]) ?_
   refine⟨_,rfl,_,rfl,_,rfl,_,rfl,t,N+3,n,rfl,T3,by omega,by omega,by omega,fun j H4 j0 j1 T4 e4=>?_⟩
   have s4:Sm t H3 H4:=zDJ e4
   exact⟨la,n,i,j,ess,rfl,L3.keep fun b ys z=>s4 _ _ (zAO.neT T3 z) z,LK,n24,i0,i1,j0,j1,fun l ess' H5 L5 K5 s5=>k l ess' H5 L5 K5 ((T4.keep s5).mono (by omega)) (s03.trans (s4.trans (Sm.of s5)))⟩
 . refine ifF (by simp[c4]) ?_
   refine⟨_,rfl,rfl,_,rfl,?_⟩
   by_cases c5:wy=5
   . refine ifT (by simp[c5]) ?_
     obtain⟨at',rfl⟩:∃m:Nat,a=m:=⟨a.toNat,by omega⟩
     obtain⟨c,hc⟩:∃c,cs[at']? = some c:=⟨_,zB (by omega)⟩
     obtain⟨e,he,hce⟩:=EC3.2 _ _ hc
     have hpt3:=tu _ _ hpt
     refine⟨_,rfl,la,rfl,⟨_,SqT.of hl3⟩,[.ref pl,.int at'],rfl,fun D hD=>?_⟩
     refine zBX (a:=la) (xs:=as.map V.ref) (fun m ys H4=>∃bs fss,ys=bs.map V.ref/\zFy H4 bs fss/\fss.length=m/\m<=as.length/\(∀fs∈fss,zBa n fs)/\zAi H3 H4/\H4 D=some (.lst ys)) ⟨[],[],rfl,⟨rfl,fun i b z=>by simp at z⟩,rfl,ze _,(fun g z=>by cases z),zI hD,zJ⟩ (fun m ys H4 w=>?_) (fun m ys H4 w=>?_) (fun m x ys H4 hx w=>?_) (fun ys H4 w=>?_)
     . obtain⟨_,_,_,_,_,_,_,s4,_⟩:=w
       exact SqT.of (s4 _ _ hl3)
     . obtain⟨bs,fss,rfl,LB,h1,h2,_⟩:=w
       rw[zC,LB.1]
       exact zAj (by omega)
     . obtain⟨bs,fss,rfl,LB,hfm,hmb,hk,s4,h4⟩:=w
       rw[zM] at hx
       cases hb:as[m]? with
       | none=>rw[hb] at hx;cases hx
       | some b=>
       rw[hb] at hx
       cases hx
       obtain⟨fs,hfs,Lb⟩:=LB3.2 m b hb
       have hm:=(zH.mp hb).1
       refine⟨⟨rfl,rfl⟩,?_⟩
       refine zEO ?_
       refine⟨_,rfl,_,rfl,_,rfl,pl,_,_,.ref c,rfl,rfl,SqT.of (s4 _ _ hpt3),zCh (by rw[zM,hc];rfl),c,_,_,.int e.h,rfl,rfl,SqT.of (s4 _ _ hce),rfl,b,n,e.h,fs,rfl,Lb.same s4,LK.kd _ (zO hfs),by omega,n24,fun l es' H5 L5 K5 s5=>?_⟩
       have h5:=s5 _ _ h4
       have kp:∀x' us,H5 x'=some (.tup us)->(upd H5 D (.lst (bs.map V.ref++[.ref l]))) x'=some (.tup us):=fun x' us z=>by rw[za (zBT z h5 (by intro w;cases w))];exact z
       refine⟨h5,bs++[l],fss++[es'],by rw[zS];rfl,((LB.keep fun b ys z=>s5 _ _ z).keep kp).snoc (L5.keep kp),by rw[zL,hfm];rfl,by omega,fun g hg=>?_,zAY (s4.trans s5) hD,zJ⟩
       rcases zm.mp hg with z | z
       . exact hk g z
       . rw[zf.mp z];exact K5
     . obtain⟨bs,fss,rfl,LB,hfm,_,hk,s4,h4⟩:=w
       rw[zC] at hfm
       refine⟨D,_,rfl,.inl ⟨SqL.of h4,fun l hl'=>?_⟩⟩
       have s5:=s4.trans (zI (o:=.tup (bs.map V.ref)) hl')
       exact k l fss _ ((LB.keep fun b ys z=>zI hl' _ _ z).labs zJ) ⟨by omega,hk⟩ ((T3.keep s5).mono (by omega)) (s03.trans (Sm.of s5))
   . refine ifF (by simp[c5]) ?_
     refine⟨pl,i,a,wy,es,N+3,rfl,T3,by omega,L3,Le3,Ke,a0,a1,fun pl' es' v7 v8 H4 L4 K4 T4 s4=>?_⟩
     have tu4:∀b ys,H3 b=some (.tup ys)->H4 b=some (.tup ys):=fun b ys z=>s4 _ _ (zAO.neT T3 z) z
     have hl4:=tu4 _ _ hl3
     refine⟨_,rfl,_,rfl,(i:Int),rfl,la,_,rfl,hl4,fun p1 H5 s5 h5=>?_⟩
     rw[zC9,<-List.map_take] at h5
     refine⟨_,rfl,by show 1<=sizeLine;decide,fun p2 hp2=>?_⟩
     have s6:=zI (o:=.tup [.ref pl']) hp2
     refine⟨p1,p2,_,_,rfl,rfl,s6 _ _ h5,zJ,by rw[zC,zk];exact zAw (zAj (by simp;omega)),fun p3 H7 s7 h7=>?_⟩
     have s47:=s5.trans (s6.trans s7)
     refine⟨_,rfl,_,rfl,_,_,rfl,rfl,_,rfl,la,_,rfl,s47 _ _ hl4,fun p4 H8 s8 h8=>?_⟩
     rw[show ((i:Int)+1)=((i+1:Nat):Int) by omega,zD7,<-List.map_drop] at h8
     refine⟨p3,p4,_,_,rfl,rfl,s8 _ _ h7,h8,by simp only[zL,zC,zk,zBG,zp,zBi];exact zAw (zAj (by omega)),fun p5 H9 s9 h9=>?_⟩
     have s49:=s47.trans (s8.trans s9)
     have e9:(as.take i).map V.ref++[V.ref pl']++(as.drop (i+1)).map V.ref=(as.set i pl').map V.ref:=by
      rw[<-zDb (x:=pl') (show i<as.length by omega),zS,zS];rfl
     rw[e9] at h9
     have LB9:=((LB3.keep tu4).set L4 i).keep fun b ys z=>s49 _ _ z
     exact k p5 _ H9 (LB9.labs h9) (LK.set K4 i) ((T4.keep s49).mono (by omega)) (s03.trans (s4.trans (Sm.of s49)))
noncomputable def zJN (K:PySem.W.Frag)(PT:Addr):Sp:=fun vs H Q _=>∃(a:Addr)(ns:List Int),vs=[.ref a]/\SqL K H a (ns.map V.int)/\ns.length<=63/\H PT=some (.tbl #[])/\∀H',Q (.bl true) H'
theorem zKb {t:Addr}(h:zAO H t N)(s:SmT H H'):zAO H' t N:=by
 obtain⟨p,ns',spot,rest,a1,a2,a3⟩:=h
 exact⟨p,ns',spot,rest,s.get a1 (by intro ps z;cases z),s.get a2 (by intro ps z;cases z),a3⟩
theorem zHb {PT t:Addr}(TA:zAO H t N)(sm:Sm t H H')(TB:Tb H PT):Tb H' PT:=by
 obtain⟨p,ns,spot,rest,a,_⟩:=TA
 obtain⟨ps,hp,_⟩:=id TB
 exact TB.keep (fun o z=>sm _ _ (zBT hp a (by intro z;cases z)) z) fun c φ z=>sm _ _ (zBT z a (by intro z;cases z)) z
structure LwI (PT t wa fa:Addr)(n:Int)(ts:List T3)(M:lLO)(N:Nat)(H:Hp):Prop where
 tp:zAO H t N
 tb:Tb H PT
 wb:zBs H wa n ts
 fr:zDP H fa n ts M
theorem LwI.same {PT t:Addr}{M:lLO}(h:LwI PT t wa fa n ts M N H)(s:zAi H H'):LwI PT t wa fa n ts M N H':=⟨h.tp.keep s,h.tb.same s,h.wb.keep s,h.fr.keep fun b ys e=>s _ _ e⟩
theorem LwI.smT {PT t:Addr}{M:lLO}(h:LwI PT t wa fa n ts M N H)(s:SmT H H')(b:Tb H' PT):LwI PT t wa fa n ts M N H':=⟨zKb h.tp s,b,h.wb.keepT fun b ys e=>s.get e (by intro ps z;cases z),h.fr.keep fun b ys e=>s.get e (by intro ps z;cases z)⟩
theorem LwI.sm {PT t:Addr}{M:lLO}{N':Nat}(h:LwI PT t wa fa n ts M N H)(s:Sm t H H')(T:zAO H' t N'):LwI PT t wa fa n ts M N' H':=⟨T,zHb h.tp s h.tb,h.wb.sm h.tp s,h.fr.sm h.tp s⟩
theorem zBL.sm {t:Addr}(h:zBL H l ess)(T:zAO H t N)(s:Sm t H H'):zBL H' l ess:=h.keep fun b ys e=>s b _ (zAO.neT T e) e
noncomputable def Lbs (H:Hp)(n:Int)(l:Addr):Prop:=∃ess,zBL H l ess/\LbK n ess
theorem zHh {x:Str}{p:Pos}{es:List Expr}{env:Env}:starEach (.Name x p::es) env=(false,eval (.Name x p) env)::starEach es env:=rfl
theorem st_sub {a b:Expr}{p pos:Pos}{env:Env}:(backTo pos (starEach [.Subscript a b p] env)).any (·.1)=false:=rfl
theorem pa_sub {a b:Expr}{pos:Pos}{es:List Expr}{te:TE}{t:TA}(h:PE X (.Subscript a b pos) te)(hr:PA X es t):PA X (.Subscript a b pos::es) (zJJ te t):=zD h hr (by rfl)
theorem zK5 {es:List Expr}{ns:List Int}{d:Expr}{td:TE}{p1 p2:Pos}(hes:zDO es ns)(hd:PE X d td)(hs:zGG d):PE X (.Subscript (.List es p1) d p2) (tOp (rIxL X.K) (tLst (fun _ H Q=>Q (ns.map V.int) H)) td):=pe_ix zAZ (zCE (zIC hes)) hd hs
theorem zDY:zw ["_law_script", "_law_tape_here", "_law_k", "_law_web_here", "_law_far_here", "_law_one", "_law_other", "_law_good", "_law_mixed", "_law_labels", "_law_bends"] ["_law_script"] (defScope sLaw):=fS0
theorem ok_law {PT fTa fNu fWi fTo fRs fPl fLl fEe fAl fFa fT fLo fNe fLe fBw fNb fIo fBy fLb fIh fEb fOw fSu fTd fHu fEn fSt fLt fRa fOf fUf fUr fTf fGm fDf fDr fLs fFr fJ fNs fOr fAh fBe fXc fLn fBl fHb fIl fLd fRt:Addr}{fdTa fdNu fdWi fdTo fdRs fdPl fdLl fdEe fdAl fdFa fdLo fdNe fdLe fdBw fdNb fdIo fdBy fdLb fdIh fdEb fdOw fdSu fdTd fdHu fdEn fdSt fdLt fdRa fdOf fdUf fdUr fdTf fdGm fdDf fdDr fdLs fdFr fdJ fdNs fdOr fdAh fdBe fdXc fdLn fdBl fdHb fdIl fdLd fdRt:FuncData}(F:Fun K "law" "law" sLaw f fd') (CH:PySem.W.CodeHd base c PT)(hbm:zJA mg base)
 (mC:mg "NoLabels" = some (.ref C)) (EI:zGI K C fI)(sb:L2.subIn K C C=true)(FI:Fun K "__init__" "NoLabels.__init__" sI1 fI fdI) (bI:zCx K fdI ["self", "word", "at"] []) (mo:PySem.W.mroIn K C (.type "object")=some true) (i1:PySem.W.findIn K (.ref C) "word" = some none) (i2:PySem.W.findIn K (.ref C) "at" = some none)
 (FTa:FuB K mg "_law_tape" zJR fTa fdTa ["_law_script"])
 (FD:FuB K mg "_law_draw" zEF fD fdD ["_law_tape_here","_law_many"])
 (FW:FuB K mg "_law_web" sWeb fW fdW ["_law_tape_here","_law_n"])
 (FNu:FuB K mg "is_number" zKG fNu fdNu ["thing"])
 (FWi:FuB K mg "is_within" sWi fWi fdWi ["thing","least","most"])
 (FTo:FuB K mg "is_tuple_of" zKw fTo fdTo ["thing","count"])
 (FRs:FuB K mg "is_rising" sRis fRs fdRs ["things"])
 (FPl:FuB K mg "is_place" sPl fPl fdPl ["n","thing"])
 (FLl:FuB K mg "is_label" zHz fLl fdLl ["n","thing"])
 (FEe:FuB K mg "is_entry" zH1 fEe fdEe ["n","thing"])
 (FAl:FuB K mg "are_labels" zFE fAl fdAl ["n","thing"])
 (FFa:FuB K mg "far_entries" zG3 fFa fdFa ["labels"])
 (FT:FuB K mg "ties_at" zEl fT fdT ["web","place"])
 (FLo:FuB K mg "long_of" zG2 fLo fdLo ["web","one","other"])
 (FNe:zJ9 K "nearest" "nearest" zHw fNe fdNe c) (bNe:zCx K fdNe ["waiting"] []) (mNe:mg "nearest" = some (.ref fNe))
 (FF:FuB K mg "lengths_from" zH0 fF fdF ["web","start"])
 (FLe:FuB K mg "lengths" zHy fLe fdLe ["web"])
 (FBw:FuB K mg "between_rows" sBwr fBw fdBw ["here","there","other"])
 (FNb:FuB K mg "next_by_row" sNbr fNb fdNb ["web","one","there"])
 (FIo:FuB K mg "is_order" sOrd fIo fdIo ["web","thing"])
 (FBy:FuB K mg "by_order" sByo fBy fdBy ["web","order"])
 (FLb:FuB K mg "label_by_ranks" sLbr fLb fdLb ["web","rows","ranks","place"])
 (FIh:FuB K mg "is_hub" sIsh fIh fdIh ["rows","ranks","hub","place"])
 (FEb:FuB K mg "entry_by_rows" sEbr fEb fdEb ["web","rows","place","hub"])
 (FOw:FuB K mg "own_place" sOwn fOw fdOw ["label"])
 (FSu:FuB K mg "least_sum" sSum fSu fdSu ["one","other"])
 (FTd:FuB K mg "told" zF2 fTd fdTd ["one","other"])
 (FHu:FuB K mg "told_hub" sHub fHu fdHu ["one","other"])
 (FEn:FuB K mg "entry_of" sEnt fEn fdEn ["label","hub"])
 (FSt:FuB K mg "next_step" zG1 fSt fdSt ["one","other"])
 (FLt:FuB K mg "lets_labels" zHx fLt fdLt ["web","thing"])
 (FRa:FuB K mg "refuse_at" zHv fRa fdRa ["word","at"])
 (FOf:FuB K mg "own_fault" sOf fOf fdOf ["labels"])
 (FUf:FuB K mg "up_fault" sUf fUf fdUf ["web","labels"])
 (FUr:FuB K mg "is_up_right" sUr fUr fdUr ["web","labels","place","entry"])
 (FTf:FuB K mg "tie_fault" sTf fTf fdTf ["web","labels"])
 (FGm:FuB K mg "grows_too_much" sGm fGm fdGm ["here","there","long"])
 (FDf:FuB K mg "down_fault" sDf fDf fdDf ["web","labels"])
 (FDr:FuB K mg "is_down_right" sDr fDr fdDr ["web","labels","place","entry"])
 (FA:FuB K mg "_law_added" sAdd fA fdA ["_law_one","_law_other"])
 (FLs:FuB K mg "_law_lesser" sLes fLs fdLs ["_law_one","_law_other"])
 (FFr:FuB K mg "_law_far" sFar fFr fdFr ["_law_web_here"])
 (FJ:FuB K mg "_law_joined" sJoi fJ fdJ ["_law_web_here"])
 (FNs:FuB K mg "_law_nexts" sNxs fNs fdNs ["_law_web_here","_law_far_here","_law_one","_law_other"])
 (FOr:FuB K mg "_law_order" zGR fOr fdOr ["_law_tape_here","_law_n"])
 (FAh:FuB K mg "_law_all_hubs" sAh fAh fdAh ["_law_tape_here","_law_web_here","_law_far_here"])
 (FBe:FuB K mg "_law_bent_entry" sBe fBe fdBe ["_law_tape_here","_law_n","_law_entry"])
 (FXc:FuB K mg "_law_exchanged" sXc fXc fdXc ["_law_labels","_law_place","_law_other"])
 (FLn:FuB K mg "_law_longer" sLn fLn fdLn ["_law_label","_law_hub_here"])
 (FBl:FuB K mg "_law_bent_labels" sBl fBl fdBl ["_law_tape_here","_law_n","_law_labels"])
 (FHb:FuB K mg "_law_hub" sHb fHb fdHb ["_law_entry"])
 (FIl:FuB K mg "_law_is_let" sIl fIl fdIl ["_law_web_here","_law_labels"])
 (FLd:FuB K mg "_law_led" sLd fLd fdLd ["_law_web_here","_law_far_here","_law_labels","_law_one","_law_other"])
 (FRt:FuB K mg "_law_right" sRt fRt fdRt ["_law_web_here","_law_far_here","_law_labels"])
 (mLen:mg "len" = none) (mRange:mg "range" = none) (mTuple:mg "tuple" = none) (mSorted:mg "sorted" = none) (mMin:mg "min" = none) (mMax:mg "max" = none) (mList:mg "list" = none) (mIsi:mg "isinstance" = none) (mInt:mg "int" = none) (mBool:mg "bool" = none) (mAll:mg "all" = none) (mSet:mg "set" = none) (mZip:mg "zip" = none) (mDict:mg "dict" = none) (mEnum:mg "enumerate" = none) (mRepr:mg "repr" = none):zAP P w K mg base CX0 9 f fd' ["_law_script"] (zJN K PT):=by
 have GTa:zAP P w K mg base CX0 8 fTa fdTa ["_law_script"] (zKB K):=(zLF FTa.F).mono (by decide)
 have GD1:zAP P w K mg base CX0 1 fD fdD ["_law_tape_here", "_law_many"] zEP:=zIG FD.F mLen
 have GD:zAP P w K mg base CX0 8 fD fdD ["_law_tape_here", "_law_many"] zEP:=GD1.mono (by decide)
 have GDP:zAP P w K mg base CX0 8 fD fdD ["_law_tape_here", "_law_many"] zEi:=(zDc FD.F mLen).mono (by decide)
 have GWe:zAP P w K mg base CX0 8 fW fdW ["_law_tape_here", "_law_n"] spWeb:=(ok_web FW.F FD mLen mRange mTuple mSorted).mono (by decide)
 have GOr:zAP P w K mg base CX0 8 fOr fdOr ["_law_tape_here", "_law_n"] zHk:=(zJj FOr.F FD mLen mRange mTuple mList).mono (by decide)
 have GF:zAP P w K mg base CX0 3 fF fdF ["web", "start"] (zHo PT):=zLN FF.F FNe bNe mNe FT CH hbm mMin mSorted mTuple
 have GLe:zAP P w K mg base CX0 5 fLe fdLe ["web"] (zHm PT):=(zLL FLe.F FF GF mRange mTuple).mono (by decide)
 have GIo:zAP P w K mg base CX0 5 fIo fdIo ["web", "thing"] zKi:=(ok_ord FIo.F FTo FWi FPl FNu mIsi mInt mBool mTuple mLen mAll mSet).mono (by decide)
 have GIh:zAP P w K mg base CX0 4 fIh fdIh ["rows", "ranks", "hub", "place"] zKl:=(ok_ish FIh.F FBw mRange mTuple mLen mAll).mono (by decide)
 have GEb:zAP P w K mg base CX0 4 fEb fdEb ["web", "rows", "place", "hub"] zKn:=ok_ebr FEb.F FNb FT mSorted mTuple mMin
 have GLb:zAP P w K mg base CX0 5 fLb fdLb ["web", "rows", "ranks", "place"] zKk:=ok_lbr FLb.F FIh GIh FEb GEb mRange mTuple
 have GBy:zAP P w K mg base CX0 8 fBy fdBy ["web", "order"] (spByo PT):=(ok_byo FBy.F FIo GIo FLe GLe FLb GLb mRange mTuple).mono (by decide)
 have GLo3:zAP P w K mg base CX0 3 fLo fdLo ["web", "one", "other"] zGN:=(zLJ FLo.F FT mSorted).mono (by decide)
 have GTd:zAP P w K mg base CX0 3 fTd fdTd ["one", "other"] zE9:=(zLE FTd.F FSu mDict mMin).mono (by decide)
 have GSt:zAP P w K mg base CX0 3 fSt fdSt ["one", "other"] zGM:=zLG FSt.F FHu (ok_hub FHu.F FSu mDict mMin) FOw FEn
 have GFa:zAP P w K mg base CX0 4 fFa fdFa ["labels"] zGO:=(zLO FFa.F mEnum).mono (by decide)
 have GUr:zAP P w K mg base CX0 4 fUr fdUr ["web", "labels", "place", "entry"] (spUr UpR):=ok_ur FUr.F FLo GLo3 FEn ((zKN FEn.F).mono (by decide))
 have GDr:zAP P w K mg base CX0 4 fDr fdDr ["web", "labels", "place", "entry"] (spUr DnR):=ok_dr FDr.F FLo GLo3 FTd GTd
 have GUf:=(ok_uf FUf.F FFa GFa FUr GUr).mono (show 5<=6 by decide)
 have GDf:=(ok_df FDf.F FFa GFa FDr GDr).mono (show 5<=6 by decide)
 have GTf:=(ok_tf FTf.F FTd (GTd.mono (by decide)) FT ((zEr FT.F mSorted).mono (by decide)) FGm ((ok_gm FGm.F).mono (by decide)) mEnum mRange).mono (show 5<=6 by decide)
 have GOf:zAP P w K mg base CX0 6 fOf fdOf ["labels"] spOf:=(ok_of FOf.F FOw ((zKL FOw.F).mono (by decide)) mEnum).mono (by decide)
 have GE9:zAP P w K mg base CX0 4 fEe fdEe ["n", "thing"] zHp:=zLP FEe.F FTo FWi FPl FNu mIsi mInt mBool mTuple mLen
 have GL9:zAP P w K mg base CX0 5 fLl fdLl ["n", "thing"] zHn:=zLM FLl.F FEe GE9 FRs ((ok_ris FRs.F mLen mRange mAll).mono (by decide)) mIsi mTuple mLen mAll
 have GAl:zAP P w K mg base CX0 6 fAl fdAl ["n", "thing"] zFz:=zJk FAl.F FTo ((zIF FTo.F mIsi mTuple mLen).mono (by decide)) FLl GL9 mAll
 have GI:zAP P w K mg base CX0 1 fI fdI ["self", "word", "at"] (spXI C "word" "at"):=ok_I1 FI EI mo i1 i2
 have GRa:zAP P w K mg base (CXI P w) 6 fRa fdRa ["word", "at"] (zHj C):=(zLH FRa.F mC EI bI GI).mono (by decide)
 have GLt:zAP P w K mg base (CXI P w) 7 fLt fdLt ["web", "thing"] (zHl C):=zLK FLt.F mC EI bI (GI.mono (by decide)) FAl GAl FRa GRa FOf GOf FUf GUf FTf GTf FDf GDf
 have GIl:zAP P w K mg base CX0 8 fIl fdIl ["_law_web_here", "_law_labels"] spIl:=ok_il FIl.F mC EI sb FLt GLt
 have GNs:zAP P w K mg base CX0 4 fNs fdNs ["_law_web_here", "_law_far_here", "_law_one", "_law_other"] zJM:=(ok_nxs FNs.F FJ mRange).mono (by decide)
 have GLd:zAP P w K mg base CX0 5 fLd fdLd ["_law_web_here", "_law_far_here", "_law_labels", "_law_one", "_law_other"] spLd:=ok_ld FLd.F FSt (GSt.mono (by decide)) FNs GNs mRange
 have GRt:zAP P w K mg base CX0 8 fRt fdRt ["_law_web_here", "_law_far_here", "_law_labels"] spRt:=(ok_rt FRt.F FTd (GTd.mono (by decide)) FSt (GSt.mono (by decide)) FLd GLd mRange mRepr).mono (by decide)
 have GAh:zAP P w K mg base CX0 8 fAh fdAh ["_law_tape_here", "_law_web_here", "_law_far_here"] spAh:=(ok_ah FAh.F FD ((zDc FD.F mLen).mono (by decide)) FNs GNs mRange mTuple mLen).mono (by decide)
 have GBl:zAP P w K mg base CX0 8 fBl fdBl ["_law_tape_here", "_law_n", "_law_labels"] spBl:=(ok_bl FBl.F FD (GD1.mono (by decide)) FXc ((ok_xc FXc.F mList mTuple).mono (by decide)) FLn ((ok_ln FLn.F mInt mTuple).mono (by decide)) FHb ((ok_hb FHb.F).mono (by decide)) FBe ((ok_be FBe.F FD (GD1.mono (by decide)) mMax).mono (by decide)) mLen mTuple mSorted).mono (by decide)
 have GFr:zAP P w K mg base CX0 8 fFr fdFr ["_law_web_here"] spFar:=(ok_far FFr.F FA FLs mRange mMin).mono (by decide)
 refine F.okD zDY fun _ A _ _ H vs Q E hr h=>?_
 obtain⟨a,ns,rfl,hS,hlen,hPT,k⟩:=h
 refine⟨_,zP (zB9 (i:=1) zDY.nd rfl (Or.inr rfl) (zAL GTa hr FTa (zD (pv 0) zN)))
  (zP (zBF PassesOwn.never rfl (zAg rfl mRange (zD zj zN)) (zv (i:=2) zDY.nd rfl (Or.inl rfl))
   (zP (zB9 (i:=3) zDY.nd rfl (Or.inr rfl) (zCt (he:=zHh) (hpl:=st_sub) GWe hr rfl FW.m FW.F.kp FW.b .nil zK8 (zD (hs:=zHh) (pv 1) (pa_sub (zK5 (ns:=[1,2,3,4,5,6,7,8,5,4,6,10]) (by repeat constructor) (zAL GD hr FD (zD (pv 1) (zD zj zN))) (fun _ _=>rfl)) zN))))
   (zP (zBA (i:=4) zDY.nd (zAL GFr hr FFr (zD (pv 3) zN)))
   (zP (zBA (i:=5) zDY.nd (zAL GBy hr FBy (zD (pv 3) (zD (zAL GOr hr FOr (zD (pv 1) (zD (zt zAF (pv 3) zj) zN))) zN))))
   (zP (zBA (i:=6) zDY.nd (zAL GBy hr FBy (zD (pv 3) (zD (zAL GOr hr FOr (zD (pv 1) (zD (zt zAF (pv 3) zj) zN))) zN))))
   (zP (zB9 (i:=7) zDY.nd rfl (Or.inr rfl) (zCE (zD (pv 5) (zD (pv 6) (zD (zAL GAh hr FAh (zD (pv 1) (zD (pv 3) (zD (pv 4) zN)))) zN)))))
   (zP (zA9 (zAC zIE zC3 (zA6 (own:=["_law_labels"]) (cn:=["_law_web_here"]) (ci:=[3]) rfl (csc rfl rfl) ⟨rfl,rfl,rfl,trivial⟩ rfl (zB2 (pv 7)) (fun _ _ _ _=>zBr) (fun _ _ _ _=>zBH)
    (fun _ _ _ _=>zAL GIl hr FIl (zD (pv 1) (zD (pv 0) zN)))) (by with_unfolding_all rfl)) zDm zAR)
   (zP (zBA (i:=8) zDY.nd (zAm zAS mTuple (zD (zA6 (own:=["_law_place"]) (cn:=["_law_good", "_law_tape_here"]) (ci:=[7,1]) rfl (csc rfl rfl) ⟨rfl,rfl,rfl,rfl,rfl,rfl,trivial⟩ rfl (zAg rfl mRange (zD (zt zAF (pv 3) zj) zN)) (fun _ _ _ _=>zBr) (fun _ _ _ _=>zBH)
    (fun _ _ _ _=>zt zBe (zt zCU (pv 1) (zAL GDP hr FD (zD (pv 2) (zD zj zN)))) (pv 0))) zN)))
   (zZ (zBF PassesOwn.never rfl (zB2 (zA5 op_cat (pv 7) (zCE (zD (pv 8) zN)))) (zv (i:=9) zDY.nd rfl (Or.inl rfl))
    (zZ (zBF PassesOwn.never rfl (zAg rfl mRange (zD zj zN)) (zv (i:=10) zDY.nd rfl (Or.inl rfl))
     (zP (zA9 (PW.pt (zFJ (zCC (zAL GIl hr FIl (zD (pv 3) (zD (pv 9) zN)))) (zDl (zCR (zCC (zAL GRt hr FRt (zD (pv 3) (zD (pv 4) (zD (pv 9) zN))))))))) zDm zAR)
     (zZ (zBA (i:=9) zDY.nd (zAL GBl hr FBl (zD (pv 1) (zD (zt zAF (pv 3) zj) (zD (pv 9) zN)))))))))))))))))))
  (zZ (zAA zC3))),?_⟩
 refine⟨_,rfl,a,ns,rfl,hS,hlen,fun t H1 ht T1 s1=>?_⟩
 have B1:Tb H1 PT:=⟨#[],s1 _ _ hPT,trivial,.inl rfl⟩
 refine⟨2,rfl,by decide,by decide,zBD (lo:=0) (n:=2) (fun q σ H2=>∃v2 v3 v4 v5 v6 v7 v8 v9 v10:Option V,σ=[some (.ref a),some (.ref t),v2,v3,v4,v5,v6,v7,v8,v9,v10]/\zAO H2 t (3000*q)/\Tb H2 PT) ⟨_,_,_,_,_,_,_,_,_,rfl,T1,B1⟩ (fun q σ H2 hq z=>?_) (fun σ H2 z=>?_)⟩
 . obtain⟨v2,v3,v4,v5,v6,v7,v8,v9,v10,rfl,T2,B2⟩:=z
   refine⟨_,rfl,by show 12<=sizeLine;decide,fun L hL=>?_⟩
   have sL:=zI (o:=.lst ([1,2,3,4,5,6,7,8,5,4,6,10].map V.int)) hL
   have nL:=T2.ne hL
   refine⟨_,rfl,t,3000*q,12,rfl,T2.keep sL,by omega,by decide,by decide,fun r H3 r0 r12 T3 e3=>?_⟩
   have B3:Tb H3 PT:=zHb (T2.keep sL) (zDJ e3) (B2.same sL)
   have hL3:H3 L=some (.lst ([1,2,3,4,5,6,7,8,5,4,6,10].map V.int)):=by rw[e3 _ nL];exact zJ
   obtain⟨n,hn,hat⟩:=zDr (L:=[1,2,3,4,5,6,7,8,5,4,6,10]) r0 r12
   have hn':1<=n/\n<=10:=by
    have:∀m∈([1,2,3,4,5,6,7,8,5,4,6,10]:List Int),1<=m/\m<=10:=by decide
    exact this n hn
   refine⟨L,_,_,_,rfl,rfl,SqL.of hL3,hat,t,3000*q+1,n,rfl,T3,by omega,hn'.1,by omega,fun wa ts H4 _ W4 _ T4 s4=>?_⟩
   have B4:=zHb T3 s4 B3
   refine⟨_,rfl,wa,n,ts,rfl,W4,fun fa rs M H5 s5 hfa LR RR=>?_⟩
   have I5:LwI PT t wa fa n ts M (3000*q+201) H5:=⟨T4.keep s5,B4.same s5,W4.keep s5,rs,hfa,LR,RR⟩
   obtain⟨ta,tys,hwa5,_,_,G⟩:=id I5.wb
   have hn24:=G.n24
   refine⟨_,rfl,_,rfl,_,rfl,wa,_,_,_,rfl,rfl,SqT.of hwa5,rfl,t,_,n,rfl,I5.tp,by omega,by omega,by omega,fun oa os H6 hoa O T6 s6=>?_⟩
   have I6:=I5.sm s6 T6
   refine⟨wa,oa,n,ts,os,rfl,I6.wb,hoa,O,I6.tb,fun l1 ess1 rk1 H7 s7 B7 LA1 RK1 LO1 _=>?_⟩
   have I7:=I6.smT s7 B7
   obtain⟨_,_,hwa7,_⟩:=id I7.wb
   have lbk:∀{rk:Int->Int}{ess:List (List En)},zDX ts n rk ess->LbK n ess:=fun {rk ess} LO=>⟨LO.1,fun es hes=>by
    obtain⟨j,hj,rfl⟩:=zx hes
    have:=LO.1
    exact (LO.2 j _ (zB hj)).kind G (by omega) (by omega)⟩
   refine⟨_,rfl,_,rfl,_,rfl,wa,_,_,_,rfl,rfl,SqT.of hwa7,rfl,t,_,n,rfl,I7.tp,by omega,by omega,by omega,fun ob os2 H8 hob O2 T8 s8=>?_⟩
   have I8:=I7.sm s8 T8
   have L18:zBL H8 l1 ess1:=LA1.sm I7.tp s8
   refine⟨wa,ob,n,ts,os2,rfl,I8.wb,hob,O2,I8.tb,fun l2 ess2 rk2 H9 s9 B9 LA2 RK2 LO2 _=>?_⟩
   have I9:=I8.smT s9 B9
   have L19:zBL H9 l1 ess1:=L18.keep fun b ys e=>s9.get e (by intro ps z;cases z)
   refine⟨_,rfl,_,rfl,_,rfl,_,rfl,_,rfl,t,wa,fa,_,n,ts,M,rfl,I9.tp,by omega,I9.wb,I9.fr,fun l3 ess3 H10 LA3 K3 LT3 T10 s10=>?_⟩
   have I10:=I9.sm s10 T10
   have L110:=L19.sm I9.tp s10
   have L210:=LA2.sm I9.tp s10
   refine⟨by show 3<=sizeLine;decide,fun g hg=>?_⟩
   have sg:=zI (o:=.lst [.ref l1,.ref l2,.ref l3]) hg
   have ng:=I10.tp.ne hg
   have I11:=I10.same sg
   have hg11:(upd H10 g (.lst [.ref l1,.ref l2,.ref l3])) g=some (.lst [.ref l1,.ref l2,.ref l3]):=zJ
   have good:∀(i:Nat)(x:V),([.ref l1,.ref l2,.ref l3]:List V)[i]? = some x->∃l ess,x = .ref l/\zBL (upd H10 g (.lst [.ref l1,.ref l2,.ref l3])) l ess/\LbK n ess/\zCO ts n ess:=fun i x hx=>by
    match i,hx with
    | 0,hx=>cases hx;exact⟨l1,ess1,rfl,L110.keep fun b ys e=>sg _ _ e,lbk LO1,zDX.let G RK1 LO1⟩
    | 1,hx=>cases hx;exact⟨l2,ess2,rfl,L210.keep fun b ys e=>sg _ _ e,lbk LO2,zDX.let G RK2 LO2⟩
    | 2,hx=>cases hx;exact⟨l3,ess3,rfl,LA3.keep fun b ys e=>sg _ _ e,K3,LT3⟩
   generalize upd H10 g (.lst [.ref l1,.ref l2,.ref l3])=H11 at I11 hg11 good ⊢
   clear I10 L110 L210 I9 L19 LA2 I8 L18 I7 LA1 I6 I5 LA3 sg hg s10 T10 s9 B9 s8 T8 s7 B7 s6 T6
   refine⟨_,rfl,g,rfl,⟨_,SqL.of hg11⟩,[.ref wa],rfl,fun D hD=>?_⟩
   refine zCN (a:=g) (xs:=[.ref l1,.ref l2,.ref l3]) (fun i ys H12=>ys=List.replicate i (V.bl true)/\i<=3/\zAi H11 H12/\H12 D=some (.lst ys)) ⟨rfl,ze _,zI hD,zJ⟩ (fun i ys H12 z=>?_) (fun i ys H12 z=>?_) (fun i x ys H12 hx z=>?_) (fun ys H12 z=>?_)
   . obtain⟨_,_,s12,_⟩:=z
     exact SqL.of (s12 _ _ hg11)
   . obtain⟨rfl,hi,_⟩:=z
     rw[zAB]
     exact zAj (by omega)
   . obtain⟨rfl,hi,s12,h12⟩:=z
     have hi':i<3:=(zH.mp hx).1
     obtain⟨l,ess,rfl,LA,KK,LL⟩:=good i x hx
     refine⟨⟨rfl,rfl⟩,?_⟩
     refine zEO ?_
     refine⟨_,rfl,_,rfl,wa,l,n,ts,ess,rfl,⟨I11.wb.keep s12,LA.keep fun b ys e=>s12 _ _ e,KK⟩,fun b H13 hb s13=>?_⟩
     obtain rfl:b=true:=hb.mpr LL
     exact⟨s13 _ _ h12,by rw[List.replicate_succ'],by omega,zAY (s12.trans s13) hD,zJ⟩
   . obtain⟨rfl,_,s12,h12⟩:=z
     refine⟨D,_,rfl,.inl (SqL.of h12),rfl,rfl,_,rfl,ifF (by rfl) ?_⟩
     have I12:=I11.same s12
     have hg12:=s12 _ _ hg11
     obtain⟨_,_,hwa12,_⟩:=id I12.wb
     have good12:∀(i:Nat)(x:V),([.ref l1,.ref l2,.ref l3]:List V)[i]? = some x->∃l ess,x = .ref l/\zBL H12 l ess/\LbK n ess:=fun i x hx=>by
      obtain⟨l,ess,e,LA,KK,_⟩:=good i x hx
      exact⟨l,ess,e,LA.keep fun b ys e=>s12 _ _ e,KK⟩
     refine⟨_,rfl,wa,_,_,_,rfl,rfl,SqT.of hwa12,rfl,n,rfl,by omega,by omega,[.ref g,.ref t],rfl,fun D2 hD2=>?_⟩
     have nD2:=I12.tp.ne hD2
     obtain⟨tp,TP⟩:=I12.tp
     have nD2p:=(TP.nn hD2).2
     refine zBU (lo:=0) (n:=n.toNat) (fun i ys H13=>∃bs fss,ys=bs.map V.ref/\zFy H13 bs fss/\fss.length=i/\i<=24/\(∀fs∈fss,zBa n fs)/\Sm t H12 H13/\zB4 H13 t tp (3000*q+1449+i)/\H13 D2=some (.lst ys)) ⟨[],[],rfl,⟨rfl,fun i b z=>by simp at z⟩,rfl,ze _,(fun g z=>by cases z),Sm.laid hD2,(TP.ch nD2 nD2p).up (by omega),zJ⟩ (fun i ys H13 z=>?_) (fun i ys H13 hi z=>?_) (fun ys H13 z=>?_)
     . obtain⟨bs,fss,rfl,LB,h1,h2,_⟩:=z
       rw[zC,LB.1]
       exact zAj (by omega)
     . obtain⟨bs,fss,rfl,LB,hfi,_,hk,s13,T13,h13⟩:=z
       rw[zAb]
       refine⟨⟨rfl,rfl⟩,?_⟩
       refine zEO ?_
       refine⟨_,rfl,_,rfl,t,tp,3000*q+1449+i,3,rfl,T13,by omega,by decide,by decide,fun r H14 r0 r3 T14 e14=>?_⟩
       have s14:Sm t H13 H14:=zDJ e14
       have s1214:=s13.trans s14
       have hg14:H14 g=some (.lst [.ref l1,.ref l2,.ref l3]):=s1214 _ _ ng hg12
       obtain⟨x,hx⟩:∃x,([.ref l1,.ref l2,.ref l3]:List V)[r.toNat]? = some x:=⟨_,zB (show r.toNat<3 by omega)⟩
       obtain⟨l,ess,rfl,LA,KK⟩:=good12 r.toNat x hx
       refine⟨g,_,_,.ref l,rfl,rfl,SqL.of hg14,zAe r0 hx,?_⟩
       obtain⟨as,hl,hal,hA⟩:=LA.sm ⟨tp,TP⟩ s1214
       have hln:=KK.ln
       obtain⟨b,hb⟩:∃b,as[i]? = some b:=⟨_,zB (by omega)⟩
       obtain⟨es,hes,Lb⟩:=hA i b hb
       refine⟨_,rfl,l,_,_,.ref b,rfl,rfl,SqT.of hl,zCh (by rw[zM,hb];rfl),?_⟩
       have h14:H14 D2=some (.lst (bs.map V.ref)):=s14 _ _ nD2 h13
       have kp:∀x' us,H14 x'=some (.tup us)->(upd H14 D2 (.lst (bs.map V.ref++[.ref b]))) x'=some (.tup us):=fun x' us z=>by rw[za (zBT z h14 (by intro w;cases w))];exact z
       refine⟨h14,bs++[b],fss++[es],by rw[zS];rfl,((LB.keep fun b ys e=>s14 _ _ (zAO.neT ⟨tp,T13⟩ e) e).keep kp).snoc (Lb.keep kp),by rw[zL,hfi];rfl,by omega,fun fs hfs=>?_,s1214.chg hD2,T14.ch nD2 nD2p,zJ⟩
       rcases zm.mp hfs with z | z
       . exact hk fs z
       . rw[zf.mp z];exact KK.kd _ (zO hes)
     . obtain⟨bs,fss,rfl,LB,hfi,_,hk,s13,T13,h13⟩:=z
       refine⟨D2,_,rfl,.inl ⟨SqL.of h13,fun l4 hl4=>?_⟩⟩
       have s4':=zI (o:=.tup (bs.map V.ref)) hl4
       have I13:=(I12.sm s13 ⟨tp,T13⟩).same s4'
       have hg13:=s4' _ _ (s13 _ _ ng hg12)
       have L4:zBL (upd H13 l4 (.tup (bs.map V.ref))) l4 fss:=(LB.keep fun b ys e=>s4' _ _ e).labs zJ
       have K4:LbK n fss:=⟨hfi,hk⟩
       have good13:∀(i:Nat)(x:V),([.ref l1,.ref l2,.ref l3]:List V)[i]? = some x->∃l ess,x = .ref l/\zBL (upd H13 l4 (.tup (bs.map V.ref))) l ess/\LbK n ess:=fun i x hx=>by
        obtain⟨l,ess,e,LA,KK⟩:=good12 i x hx
        exact⟨l,ess,e,(LA.sm ⟨tp,TP⟩ s13).keep fun b ys e=>s4' _ _ e,KK⟩
       generalize upd H13 l4 (.tup (bs.map V.ref))=H14 at I13 hg13 L4 good13 ⊢
       refine⟨_,rfl,_,rfl,by show 1<=sizeLine;decide,fun p1 hp1=>?_⟩
       have sp1:=zI (o:=.lst [.ref l4]) hp1
       refine⟨g,p1,_,_,rfl,rfl,sp1 _ _ hg13,zJ,by show 4<=sizeLine;decide,fun p2 hp2=>?_⟩
       have sp2:=zI (o:=.lst ([.ref l1,.ref l2,.ref l3]++[.ref l4])) hp2
       have I15:=(I13.same sp1).same sp2
       have np2:=(I13.same sp1).tp.ne hp2
       have s1415:=sp1.trans sp2
       have hp15:(upd (upd H14 p1 (.lst [.ref l4])) p2 (.lst ([.ref l1,.ref l2,.ref l3]++[.ref l4]))) p2=some (.lst ([.ref l1,.ref l2,.ref l3]++[.ref l4])):=zJ
       have all15:∀(i:Nat)(x:V),([.ref l1,.ref l2,.ref l3]++[.ref l4]:List V)[i]? = some x->∃l,x = .ref l/\Lbs (upd (upd H14 p1 (.lst [.ref l4])) p2 (.lst ([.ref l1,.ref l2,.ref l3]++[.ref l4]))) n l:=fun i x hx=>by
        match i,hx with
        | 0,hx=>obtain⟨l,ess,e,LA,KK⟩:=good13 0 x hx;exact⟨l,e,ess,LA.keep fun b ys e=>s1415 _ _ e,KK⟩
        | 1,hx=>obtain⟨l,ess,e,LA,KK⟩:=good13 1 x hx;exact⟨l,e,ess,LA.keep fun b ys e=>s1415 _ _ e,KK⟩
        | 2,hx=>obtain⟨l,ess,e,LA,KK⟩:=good13 2 x hx;exact⟨l,e,ess,LA.keep fun b ys e=>s1415 _ _ e,KK⟩
        | 3,hx=>cases hx;exact⟨l4,rfl,fss,L4.keep fun b ys e=>s1415 _ _ e,K4⟩
       generalize upd (upd H14 p1 (.lst [.ref l4])) p2 (.lst ([.ref l1,.ref l2,.ref l3]++[.ref l4]))=H15 at I15 hp15 all15 ⊢
       refine⟨p2,rfl,⟨_,SqL.of hp15⟩,zCm (K:=K) (a:=p2) (xs:=[.ref l1,.ref l2,.ref l3]++[.ref l4]) (fun j σ H16=>∃v9 v10:Option V,σ=[some (.ref a),some (.ref t),some (.int (0+(q:Int))),some (.ref wa),some (.ref fa),some (.ref l1),some (.ref l2),some (.ref g),some (.ref l4),v9,v10]/\j<=4/\Sm t H15 H16/\LwI PT t wa fa n ts M (3000*q+1473+40*j) H16) ⟨_,_,rfl,ze _,Sm.refl _ _,⟨I15.tp.mono (by omega),I15.tb,I15.wb,I15.fr⟩⟩ (fun j σ H16 _ z=>?_) (fun j x σ H16 hx z=>?_) (fun σ H16 z=>?_)⟩
       . obtain⟨_,_,_,_,s16,_⟩:=z
         exact SqL.of (s16 _ _ np2 hp15)
       . obtain⟨v9,v10,rfl,hj,s16,I16⟩:=z
         have hj':j<4:=(zH.mp hx).1
         obtain⟨l,rfl,ess,LA,KK⟩:=all15 j x hx
         have LA16:=LA.sm I15.tp s16
         refine⟨4,rfl,by decide,by decide,zBD (lo:=0) (n:=4) (fun b σ H17=>∃(v10:Option V)(l:Addr),σ=[some (.ref a),some (.ref t),some (.int (0+(q:Int))),some (.ref wa),some (.ref fa),some (.ref l1),some (.ref l2),some (.ref g),some (.ref l4),some (.ref l),v10]/\Lbs H17 n l/\Sm t H15 H17/\LwI PT t wa fa n ts M (3000*q+1473+40*j+8*b) H17) ⟨_,l,rfl,⟨ess,LA16,KK⟩,s16,I16⟩ (fun b σ H17 hb z=>?_) (fun σ H17 z=>?_)⟩
         . obtain⟨w10,l,rfl,⟨ess,LA,KK⟩,s17,I17⟩:=z
           obtain⟨_,_,hwa17,_⟩:=id I17.wb
           refine⟨_,rfl,_,rfl,wa,l,n,ts,ess,rfl,⟨I17.wb,LA,KK⟩,fun bb H18 hbb s18=>?_⟩
           refine⟨bb,rfl,?_⟩
           cases bb with
           | false=>
            refine zDH ?_
            refine⟨_,rfl,_,rfl,wa,_,_,_,rfl,rfl,SqT.of (s18 _ _ hwa17),rfl,_,rfl,t,l,_,n,ess,rfl,(I17.same s18).tp,by omega,by omega,by omega,LA.keep fun b ys e=>s18 _ _ e,KK,fun l' ess' H20 LA' KK' T20 s20=>?_⟩
            exact⟨_,l',rfl,⟨ess',LA',KK'⟩,s17.trans ((Sm.of s18).trans s20),(I17.same s18).sm s20 (T20.mono (by omega))⟩
           | true=>
            refine zEv ?_
            have LA18:=LA.keep fun b ys e=>s18 _ _ e
            refine⟨_,rfl,_,rfl,_,rfl,wa,fa,l,n,ts,M,ess,rfl,⟨⟨(I17.same s18).wb,LA18,KK⟩,hbb.mp rfl,(I17.same s18).fr⟩,fun H19 s19=>⟨true,rfl,zDH ?_⟩⟩
            have s1719:=s18.trans s19
            refine⟨_,rfl,_,rfl,wa,_,_,_,rfl,rfl,SqT.of (s1719 _ _ hwa17),rfl,_,rfl,t,l,_,n,ess,rfl,(I17.same s1719).tp,by omega,by omega,by omega,LA.keep fun b ys e=>s1719 _ _ e,KK,fun l' ess' H20 LA' KK' T20 s20=>?_⟩
            exact⟨_,l',rfl,⟨ess',LA',KK'⟩,s17.trans ((Sm.of s1719).trans s20),(I17.same s1719).sm s20 (T20.mono (by omega))⟩
         . obtain⟨w10,l,rfl,_,s17,I17⟩:=z
           exact⟨_,_,rfl,by omega,s17,⟨I17.tp.mono (by omega),I17.tb,I17.wb,I17.fr⟩⟩
       . obtain⟨v9,v10,rfl,_,s16,I16⟩:=z
         exact⟨_,_,_,_,_,_,_,_,_,rfl,I16.tp.mono (by simp only[zL,zp,zBi];omega),I16.tb⟩
 . obtain⟨v2,v3,v4,v5,v6,v7,v8,v9,v10,rfl,T2,B2⟩:=z
   exact k H2
end K90
namespace K90
open PySem L2 WM
variable {P:Program}{w:World}{K:PySem.W.Frag}{mg:sOV}{base:Heap}{PT:Addr}{X:Cx}
variable {K:PySem.W.Frag}
theorem fkM (x q:Str)(st:Stmt)(f:Addr)(pm cd:Value)(l:K.lookup f=some ⟨.type "function",.none,.func (PySem.W.fnOf x q (defArgs st) (defBody st) (defScope st) .none .none .none pm .none cd .none),#[]⟩:=by kernel_rfl) (c:PySem.W.codeIn K cd q=true:=by kernel_rfl)(k:PySem.W.keepIn K (.ref f)=true:=by kernel_rfl):Fun K x q st f (PySem.W.fnOf x q (defArgs st) (defBody st) (defScope st) .none .none .none pm .none cd .none):=zKS l c k
theorem zHZ:∀{us:List Value},us.length=1->∃u0,us=[u0]
 | [u0],_=>⟨u0,rfl⟩
theorem zDR:∀{us:List Value},us.length=2->∃u0 u1,us=[u0,u1]
 | [u0,u1],_=>⟨u0,u1,rfl⟩
theorem zHY:∀{us:List Value},us.length=3->∃u0 u1 u2,us=[u0,u1,u2]
 | [u0,u1,u2],_=>⟨u0,u1,u2,rfl⟩
theorem usl4:∀{us:List Value},us.length=4->∃u0 u1 u2 u3,us=[u0,u1,u2,u3]
 | [u0,u1,u2,u3],_=>⟨u0,u1,u2,u3,rfl⟩
theorem usl5:∀{us:List Value},us.length=5->∃u0 u1 u2 u3 u4,us=[u0,u1,u2,u3,u4]
 | [u0,u1,u2,u3,u4],_=>⟨u0,u1,u2,u3,u4,rfl⟩
theorem walk {l:PySem.W.OpenLaw}{q:Program}{loose:List Str}{XP:(Str->Option Value)->Heap->Prop}{YP:World->Heap->Prop}{d:DefRec}{K:Params->PySem.W.Frag}(hn:l.most=some 63)(hdf:d.params.defaults=[])(hrec:∃dn,(PyProof.Rows.recsOf q).find? (fun e=>e.name==("nearest" : Str))=some dn)
 (hY:∀(w:World)(h:Heap),YP w h->(K w.params).In h)
 (F:∀(w:World)(mg:sOV)(fa:Addr)(h:Heap),(K w.params).In h->h.Ns mainGlobals mg->mg d.name=some (.ref fa) ->
  ∃(fd:FuncData)(c P:Addr),PySem.W.tabIn (K w.params) "nearest" = some (c,P)/\PySem.W.noTabs (K w.params)=true/\(∀(s:Shared)(u:Value),BindsTo s fd ⟨[u],[]⟩ [("_law_script",u)])/\∀base:Heap,(K w.params).In base->base.Ns mainGlobals mg->zJA mg base->zAP l.prog w (K w.params) mg base CX0 9 fa fd ["_law_script"] (zJN (K w.params) P)) :
 PySem.W.WalkO q loose XP YP l.row.toRowW d [] (fun f vs=>PySem.call f vs):=
 L2.walk_T (n:=63) (k:=9) (x := "_law_script") (tn := "nearest") (CX:=CX0) (sp:=zJN) hn (by decide) hdf ⟨rfl,by decide,by decide,rfl⟩ hrec hY F (fun _ _ _ a ns hl hP hS=>⟨a,ns,rfl,hS,hl,hP,fun _=>rfl⟩) fun _ _ _ _ z=>z
theorem fk (x:Str)(st:Stmt)(f:Addr)(pm cd:Value)(l:K.lookup f=some ⟨.type "function",.none,.func (PySem.W.fnOf x x (defArgs st) (defBody st) (defScope st) .none .none .none pm .none cd .none),#[]⟩:=by kernel_rfl) (c:PySem.W.codeIn K cd x=true:=by kernel_rfl)(k:PySem.W.keepIn K (.ref f)=true:=by kernel_rfl):Fun K x x st f (PySem.W.fnOf x x (defArgs st) (defBody st) (defScope st) .none .none .none pm .none cd .none):=zKS l c k
theorem fkC (x:Str)(st:Stmt)(f:Addr)(pm:Value)(cc:Addr)(l:K.lookup f=some ⟨.type "function",.none,.func (PySem.W.fnOf x x (defArgs st) (defBody st) (defScope st) .none .none .none pm .none (.ref cc) .none),#[]⟩:=by kernel_rfl) (c:PySem.W.codeIn K (.ref cc) x=true:=by kernel_rfl)(k:PySem.W.keepIn K (.ref f)=true:=by kernel_rfl):zJ9 K x x st f (PySem.W.fnOf x x (defArgs st) (defBody st) (defScope st) .none .none .none pm .none (.ref cc) .none) cc:=zLa l c k
noncomputable def dL:DefRec:={ name := "law",params:=defArgs sLaw,body:=defBody sLaw,scope:=defScope sLaw,pos:=⟨321,0,337,15⟩ }
theorem facts (w:World)(mg:sOV)(fa:Addr)(h:Heap)(KX:(Kf w.params).In h)(G:h.Ns mainGlobals mg)(hmg:mg "law" = some (.ref fa)):∃(fd:FuncData)(c P:Addr),PySem.W.tabIn (Kf w.params) "nearest" = some (c,P)/\PySem.W.noTabs (Kf w.params)=true/\(∀(s:Shared)(u:Value),BindsTo s fd ⟨[u],[]⟩ [("_law_script",u)])/\∀base:Heap,(Kf w.params).In base->base.Ns mainGlobals mg->zJA mg base->zAP (PySem.Challenge.rw_labelways_k90_whole_what_is_let_by_tells).prog w (Kf w.params) mg base CX0 9 fa fd ["_law_script"] (zJN (Kf w.params) P):=by
 have mk:∀(x:Str)(f:Addr),PySem.W.nsIn (Kf w.params) mainGlobals x=some (some (.ref f))->mg x=some (.ref f):=fun x f e=>PySem.W.mg_of KX G e
 have mn:∀x:Str,PySem.W.nsIn (Kf w.params) mainGlobals x=some none->mg x=none:=fun x e=>PySem.W.mg_none_of KX G e
 have FTa:=fk (K:=Kf w.params) "_law_tape" zJR 289 qL (vR 288)
 have bTa:=FTa.binds (ps:=["_law_script"]) fun _ _ _ _ _ _ us hl=>by obtain⟨u0,rfl⟩:=zHZ hl;rfl
 have mTa:=mk "_law_tape" 289 (by kernel_rfl)
 have FD:=fk (K:=Kf w.params) "_law_draw" zEF 296 qL (vR 295)
 have bD:=FD.binds (ps:=["_law_tape_here", "_law_many"]) fun _ _ _ _ _ _ us hl=>by obtain⟨u0,u1,rfl⟩:=zDR hl;rfl
 have mD:=mk "_law_draw" 296 (by kernel_rfl)
 have FW:=fk (K:=Kf w.params) "_law_web" sWeb 301 qL (vR 300)
 have bW:=FW.binds (ps:=["_law_tape_here", "_law_n"]) fun _ _ _ _ _ _ us hl=>by obtain⟨u0,u1,rfl⟩:=zDR hl;rfl
 have mW:=mk "_law_web" 301 (by kernel_rfl)
 have FNu:=fk (K:=Kf w.params) "is_number" zKG 65 (qS "labelways.kinds" 250) (vR 64)
 have bNu:=FNu.binds (ps:=["thing"]) fun _ _ _ _ _ _ us hl=>by obtain⟨u0,rfl⟩:=zHZ hl;rfl
 have mNu:=mk "is_number" 65 (by kernel_rfl)
 have FWi:=fk (K:=Kf w.params) "is_within" sWi 72 (qS "labelways.kinds" 250) (vR 71)
 have bWi:=FWi.binds (ps:=["thing", "least", "most"]) fun _ _ _ _ _ _ us hl=>by obtain⟨u0,u1,u2,rfl⟩:=zHY hl;rfl
 have mWi:=mk "is_within" 72 (by kernel_rfl)
 have FTo:=fk (K:=Kf w.params) "is_tuple_of" zKw 79 (qS "labelways.kinds" 250) (vR 78)
 have bTo:=FTo.binds (ps:=["thing", "count"]) fun _ _ _ _ _ _ us hl=>by obtain⟨u0,u1,rfl⟩:=zDR hl;rfl
 have mTo:=mk "is_tuple_of" 79 (by kernel_rfl)
 have FRs:=fk (K:=Kf w.params) "is_rising" sRis 84 (qS "labelways.kinds" 250) (vR 83)
 have bRs:=FRs.binds (ps:=["things"]) fun _ _ _ _ _ _ us hl=>by obtain⟨u0,rfl⟩:=zHZ hl;rfl
 have mRs:=mk "is_rising" 84 (by kernel_rfl)
 have FPl:=fk (K:=Kf w.params) "is_place" sPl 91 (qS "labelways.kinds" 250) (vR 90)
 have bPl:=FPl.binds (ps:=["n", "thing"]) fun _ _ _ _ _ _ us hl=>by obtain⟨u0,u1,rfl⟩:=zDR hl;rfl
 have mPl:=mk "is_place" 91 (by kernel_rfl)
 have FLl:=fk (K:=Kf w.params) "is_label" zHz 96 (qS "labelways.labels" 290) (vR 95)
 have bLl:=FLl.binds (ps:=["n", "thing"]) fun _ _ _ _ _ _ us hl=>by obtain⟨u0,u1,rfl⟩:=zDR hl;rfl
 have mLl:=mk "is_label" 96 (by kernel_rfl)
 have FEe:=fk (K:=Kf w.params) "is_entry" zH1 103 (qS "labelways.labels" 290) (vR 102)
 have bEe:=FEe.binds (ps:=["n", "thing"]) fun _ _ _ _ _ _ us hl=>by obtain⟨u0,u1,rfl⟩:=zDR hl;rfl
 have mEe:=mk "is_entry" 103 (by kernel_rfl)
 have FAl:=fk (K:=Kf w.params) "are_labels" zFE 108 (qS "labelways.labels" 290) (vR 107)
 have bAl:=FAl.binds (ps:=["n", "thing"]) fun _ _ _ _ _ _ us hl=>by obtain⟨u0,u1,rfl⟩:=zDR hl;rfl
 have mAl:=mk "are_labels" 108 (by kernel_rfl)
 have FFa:=fk (K:=Kf w.params) "far_entries" zG3 144 (qS "labelways.labels" 290) (vR 143)
 have bFa:=FFa.binds (ps:=["labels"]) fun _ _ _ _ _ _ us hl=>by obtain⟨u0,rfl⟩:=zHZ hl;rfl
 have mFa:=mk "far_entries" 144 (by kernel_rfl)
 have FT:=fk (K:=Kf w.params) "ties_at" zEl 158 (qS "labelways.webs" 364) (vR 157)
 have bT:=FT.binds (ps:=["web", "place"]) fun _ _ _ _ _ _ us hl=>by obtain⟨u0,u1,rfl⟩:=zDR hl;rfl
 have mT:=mk "ties_at" 158 (by kernel_rfl)
 have FLo:=fk (K:=Kf w.params) "long_of" zG2 165 (qS "labelways.webs" 364) (vR 164)
 have bLo:=FLo.binds (ps:=["web", "one", "other"]) fun _ _ _ _ _ _ us hl=>by obtain⟨u0,u1,u2,rfl⟩:=zHY hl;rfl
 have mLo:=mk "long_of" 165 (by kernel_rfl)
 have FNe:=fkC (K:=Kf w.params) "nearest" zHw 245 (qS "labelways.lengths" 474) 244
 have bNe:=FNe.fn.binds (ps:=["waiting"]) fun _ _ _ _ _ _ us hl=>by obtain⟨u0,rfl⟩:=zHZ hl;rfl
 have mNe:=mk "nearest" 245 (by kernel_rfl)
 have FF:=fk (K:=Kf w.params) "lengths_from" zH0 238 (qS "labelways.lengths" 474) (vR 237)
 have bF:=FF.binds (ps:=["web", "start"]) fun _ _ _ _ _ _ us hl=>by obtain⟨u0,u1,rfl⟩:=zDR hl;rfl
 have mF:=mk "lengths_from" 238 (by kernel_rfl)
 have FLe:=fk (K:=Kf w.params) "lengths" zHy 231 (qS "labelways.lengths" 474) (vR 230)
 have bLe:=FLe.binds (ps:=["web"]) fun _ _ _ _ _ _ us hl=>by obtain⟨u0,rfl⟩:=zHZ hl;rfl
 have mLe:=mk "lengths" 231 (by kernel_rfl)
 have FBw:=fk (K:=Kf w.params) "between_rows" sBwr 250 (qS "labelways.lengths" 474) (vR 249)
 have bBw:=FBw.binds (ps:=["here", "there", "other"]) fun _ _ _ _ _ _ us hl=>by obtain⟨u0,u1,u2,rfl⟩:=zHY hl;rfl
 have mBw:=mk "between_rows" 250 (by kernel_rfl)
 have FNb:=fk (K:=Kf w.params) "next_by_row" sNbr 255 (qS "labelways.lengths" 474) (vR 254)
 have bNb:=FNb.binds (ps:=["web", "one", "there"]) fun _ _ _ _ _ _ us hl=>by obtain⟨u0,u1,u2,rfl⟩:=zHY hl;rfl
 have mNb:=mk "next_by_row" 255 (by kernel_rfl)
 have FIo:=fk (K:=Kf w.params) "is_order" sOrd 260 (qS "labelways.orders" 516) (vR 259)
 have bIo:=FIo.binds (ps:=["web", "thing"]) fun _ _ _ _ _ _ us hl=>by obtain⟨u0,u1,rfl⟩:=zDR hl;rfl
 have mIo:=mk "is_order" 260 (by kernel_rfl)
 have FBy:=fk (K:=Kf w.params) "by_order" sByo 265 (qS "labelways.orders" 516) (vR 264)
 have bBy:=FBy.binds (ps:=["web", "order"]) fun _ _ _ _ _ _ us hl=>by obtain⟨u0,u1,rfl⟩:=zDR hl;rfl
 have mBy:=mk "by_order" 265 (by kernel_rfl)
 have FLb:=fk (K:=Kf w.params) "label_by_ranks" sLbr 270 (qS "labelways.orders" 516) (vR 269)
 have bLb:=FLb.binds (ps:=["web", "rows", "ranks", "place"]) fun _ _ _ _ _ _ us hl=>by obtain⟨u0,u1,u2,u3,rfl⟩:=usl4 hl;rfl
 have mLb:=mk "label_by_ranks" 270 (by kernel_rfl)
 have FIh:=fk (K:=Kf w.params) "is_hub" sIsh 275 (qS "labelways.orders" 516) (vR 274)
 have bIh:=FIh.binds (ps:=["rows", "ranks", "hub", "place"]) fun _ _ _ _ _ _ us hl=>by obtain⟨u0,u1,u2,u3,rfl⟩:=usl4 hl;rfl
 have mIh:=mk "is_hub" 275 (by kernel_rfl)
 have FEb:=fk (K:=Kf w.params) "entry_by_rows" sEbr 282 (qS "labelways.orders" 516) (vR 281)
 have bEb:=FEb.binds (ps:=["web", "rows", "place", "hub"]) fun _ _ _ _ _ _ us hl=>by obtain⟨u0,u1,u2,u3,rfl⟩:=usl4 hl;rfl
 have mEb:=mk "entry_by_rows" 282 (by kernel_rfl)
 have FOw:=fk (K:=Kf w.params) "own_place" sOwn 113 (qS "labelways.labels" 290) (vR 112)
 have bOw:=FOw.binds (ps:=["label"]) fun _ _ _ _ _ _ us hl=>by obtain⟨u0,rfl⟩:=zHZ hl;rfl
 have mOw:=mk "own_place" 113 (by kernel_rfl)
 have FSu:=fk (K:=Kf w.params) "least_sum" sSum 132 (qS "labelways.labels" 290) (vR 131)
 have bSu:=FSu.binds (ps:=["one", "other"]) fun _ _ _ _ _ _ us hl=>by obtain⟨u0,u1,rfl⟩:=zDR hl;rfl
 have mSu:=mk "least_sum" 132 (by kernel_rfl)
 have FTd:=fk (K:=Kf w.params) "told" zF2 120 (qS "labelways.labels" 290) (vR 119)
 have bTd:=FTd.binds (ps:=["one", "other"]) fun _ _ _ _ _ _ us hl=>by obtain⟨u0,u1,rfl⟩:=zDR hl;rfl
 have mTd:=mk "told" 120 (by kernel_rfl)
 have FHu:=fk (K:=Kf w.params) "told_hub" sHub 127 (qS "labelways.labels" 290) (vR 126)
 have bHu:=FHu.binds (ps:=["one", "other"]) fun _ _ _ _ _ _ us hl=>by obtain⟨u0,u1,rfl⟩:=zDR hl;rfl
 have mHu:=mk "told_hub" 127 (by kernel_rfl)
 have FEn:=fk (K:=Kf w.params) "entry_of" sEnt 139 (qS "labelways.labels" 290) (vR 138)
 have bEn:=FEn.binds (ps:=["label", "hub"]) fun _ _ _ _ _ _ us hl=>by obtain⟨u0,u1,rfl⟩:=zDR hl;rfl
 have mEn:=mk "entry_of" 139 (by kernel_rfl)
 have FSt:=fk (K:=Kf w.params) "next_step" zG1 151 (qS "labelways.labels" 290) (vR 150)
 have bSt:=FSt.binds (ps:=["one", "other"]) fun _ _ _ _ _ _ us hl=>by obtain⟨u0,u1,rfl⟩:=zDR hl;rfl
 have mSt:=mk "next_step" 151 (by kernel_rfl)
 have FLt:=fk (K:=Kf w.params) "lets_labels" zHx 172 (qS "labelways.checker" 389) (vR 171)
 have bLt:=FLt.binds (ps:=["web", "thing"]) fun _ _ _ _ _ _ us hl=>by obtain⟨u0,u1,rfl⟩:=zDR hl;rfl
 have mLt:=mk "lets_labels" 172 (by kernel_rfl)
 have FRa:=fk (K:=Kf w.params) "refuse_at" zHv 179 (qS "labelways.checker" 389) (vR 178)
 have bRa:=FRa.binds (ps:=["word", "at"]) fun _ _ _ _ _ _ us hl=>by obtain⟨u0,u1,rfl⟩:=zDR hl;rfl
 have mRa:=mk "refuse_at" 179 (by kernel_rfl)
 have FOf:=fk (K:=Kf w.params) "own_fault" sOf 186 (qS "labelways.checker" 389) (vR 185)
 have bOf:=FOf.binds (ps:=["labels"]) fun _ _ _ _ _ _ us hl=>by obtain⟨u0,rfl⟩:=zHZ hl;rfl
 have mOf:=mk "own_fault" 186 (by kernel_rfl)
 have FUf:=fk (K:=Kf w.params) "up_fault" sUf 193 (qS "labelways.checker" 389) (vR 192)
 have bUf:=FUf.binds (ps:=["web", "labels"]) fun _ _ _ _ _ _ us hl=>by obtain⟨u0,u1,rfl⟩:=zDR hl;rfl
 have mUf:=mk "up_fault" 193 (by kernel_rfl)
 have FUr:=fk (K:=Kf w.params) "is_up_right" sUr 200 (qS "labelways.checker" 389) (vR 199)
 have bUr:=FUr.binds (ps:=["web", "labels", "place", "entry"]) fun _ _ _ _ _ _ us hl=>by obtain⟨u0,u1,u2,u3,rfl⟩:=usl4 hl;rfl
 have mUr:=mk "is_up_right" 200 (by kernel_rfl)
 have FTf:=fk (K:=Kf w.params) "tie_fault" sTf 205 (qS "labelways.checker" 389) (vR 204)
 have bTf:=FTf.binds (ps:=["web", "labels"]) fun _ _ _ _ _ _ us hl=>by obtain⟨u0,u1,rfl⟩:=zDR hl;rfl
 have mTf:=mk "tie_fault" 205 (by kernel_rfl)
 have FGm:=fk (K:=Kf w.params) "grows_too_much" sGm 212 (qS "labelways.checker" 389) (vR 211)
 have bGm:=FGm.binds (ps:=["here", "there", "long"]) fun _ _ _ _ _ _ us hl=>by obtain⟨u0,u1,u2,rfl⟩:=zHY hl;rfl
 have mGm:=mk "grows_too_much" 212 (by kernel_rfl)
 have FDf:=fk (K:=Kf w.params) "down_fault" sDf 219 (qS "labelways.checker" 389) (vR 218)
 have bDf:=FDf.binds (ps:=["web", "labels"]) fun _ _ _ _ _ _ us hl=>by obtain⟨u0,u1,rfl⟩:=zDR hl;rfl
 have mDf:=mk "down_fault" 219 (by kernel_rfl)
 have FDr:=fk (K:=Kf w.params) "is_down_right" sDr 226 (qS "labelways.checker" 389) (vR 225)
 have bDr:=FDr.binds (ps:=["web", "labels", "place", "entry"]) fun _ _ _ _ _ _ us hl=>by obtain⟨u0,u1,u2,u3,rfl⟩:=usl4 hl;rfl
 have mDr:=mk "is_down_right" 226 (by kernel_rfl)
 have FA:=fk (K:=Kf w.params) "_law_added" sAdd 308 qL (vR 307)
 have bA:=FA.binds (ps:=["_law_one", "_law_other"]) fun _ _ _ _ _ _ us hl=>by obtain⟨u0,u1,rfl⟩:=zDR hl;rfl
 have mA:=mk "_law_added" 308 (by kernel_rfl)
 have FLs:=fk (K:=Kf w.params) "_law_lesser" sLes 315 qL (vR 314)
 have bLs:=FLs.binds (ps:=["_law_one", "_law_other"]) fun _ _ _ _ _ _ us hl=>by obtain⟨u0,u1,rfl⟩:=zDR hl;rfl
 have mLs:=mk "_law_lesser" 315 (by kernel_rfl)
 have FFr:=fk (K:=Kf w.params) "_law_far" sFar 320 qL (vR 319)
 have bFr:=FFr.binds (ps:=["_law_web_here"]) fun _ _ _ _ _ _ us hl=>by obtain⟨u0,rfl⟩:=zHZ hl;rfl
 have mFr:=mk "_law_far" 320 (by kernel_rfl)
 have FJ:=fk (K:=Kf w.params) "_law_joined" sJoi 327 qL (vR 326)
 have bJ:=FJ.binds (ps:=["_law_web_here"]) fun _ _ _ _ _ _ us hl=>by obtain⟨u0,rfl⟩:=zHZ hl;rfl
 have mJ:=mk "_law_joined" 327 (by kernel_rfl)
 have FNs:=fk (K:=Kf w.params) "_law_nexts" sNxs 332 qL (vR 331)
 have bNs:=FNs.binds (ps:=["_law_web_here", "_law_far_here", "_law_one", "_law_other"]) fun _ _ _ _ _ _ us hl=>by obtain⟨u0,u1,u2,u3,rfl⟩:=usl4 hl;rfl
 have mNs:=mk "_law_nexts" 332 (by kernel_rfl)
 have FOr:=fk (K:=Kf w.params) "_law_order" zGR 339 qL (vR 338)
 have bOr:=FOr.binds (ps:=["_law_tape_here", "_law_n"]) fun _ _ _ _ _ _ us hl=>by obtain⟨u0,u1,rfl⟩:=zDR hl;rfl
 have mOr:=mk "_law_order" 339 (by kernel_rfl)
 have FAh:=fk (K:=Kf w.params) "_law_all_hubs" sAh 346 qL (vR 345)
 have bAh:=FAh.binds (ps:=["_law_tape_here", "_law_web_here", "_law_far_here"]) fun _ _ _ _ _ _ us hl=>by obtain⟨u0,u1,u2,rfl⟩:=zHY hl;rfl
 have mAh:=mk "_law_all_hubs" 346 (by kernel_rfl)
 have FBe:=fk (K:=Kf w.params) "_law_bent_entry" sBe 353 qL (vR 352)
 have bBe:=FBe.binds (ps:=["_law_tape_here", "_law_n", "_law_entry"]) fun _ _ _ _ _ _ us hl=>by obtain⟨u0,u1,u2,rfl⟩:=zHY hl;rfl
 have mBe:=mk "_law_bent_entry" 353 (by kernel_rfl)
 have FXc:=fk (K:=Kf w.params) "_law_exchanged" sXc 360 qL (vR 359)
 have bXc:=FXc.binds (ps:=["_law_labels", "_law_place", "_law_other"]) fun _ _ _ _ _ _ us hl=>by obtain⟨u0,u1,u2,rfl⟩:=zHY hl;rfl
 have mXc:=mk "_law_exchanged" 360 (by kernel_rfl)
 have FLn:=fk (K:=Kf w.params) "_law_longer" sLn 367 qL (vR 366)
 have bLn:=FLn.binds (ps:=["_law_label", "_law_hub_here"]) fun _ _ _ _ _ _ us hl=>by obtain⟨u0,u1,rfl⟩:=zDR hl;rfl
 have mLn:=mk "_law_longer" 367 (by kernel_rfl)
 have FBl:=fk (K:=Kf w.params) "_law_bent_labels" sBl 372 qL (vR 371)
 have bBl:=FBl.binds (ps:=["_law_tape_here", "_law_n", "_law_labels"]) fun _ _ _ _ _ _ us hl=>by obtain⟨u0,u1,u2,rfl⟩:=zHY hl;rfl
 have mBl:=mk "_law_bent_labels" 372 (by kernel_rfl)
 have FHb:=fk (K:=Kf w.params) "_law_hub" sHb 379 qL (vR 378)
 have bHb:=FHb.binds (ps:=["_law_entry"]) fun _ _ _ _ _ _ us hl=>by obtain⟨u0,rfl⟩:=zHZ hl;rfl
 have mHb:=mk "_law_hub" 379 (by kernel_rfl)
 have FIl:=fk (K:=Kf w.params) "_law_is_let" sIl 386 qL (vR 385)
 have bIl:=FIl.binds (ps:=["_law_web_here", "_law_labels"]) fun _ _ _ _ _ _ us hl=>by obtain⟨u0,u1,rfl⟩:=zDR hl;rfl
 have mIl:=mk "_law_is_let" 386 (by kernel_rfl)
 have FLd:=fk (K:=Kf w.params) "_law_led" sLd 393 qL (vR 392)
 have bLd:=FLd.binds (ps:=["_law_web_here", "_law_far_here", "_law_labels", "_law_one", "_law_other"]) fun _ _ _ _ _ _ us hl=>by obtain⟨u0,u1,u2,u3,u4,rfl⟩:=usl5 hl;rfl
 have mLd:=mk "_law_led" 393 (by kernel_rfl)
 have FRt:=fk (K:=Kf w.params) "_law_right" sRt 400 qL (vR 399)
 have bRt:=FRt.binds (ps:=["_law_web_here", "_law_far_here", "_law_labels"]) fun _ _ _ _ _ _ us hl=>by obtain⟨u0,u1,u2,rfl⟩:=zHY hl;rfl
 have mRt:=mk "_law_right" 400 (by kernel_rfl)
 have FZ:=fk (K:=Kf w.params) "law" sLaw 405 qL (vR 404)
 have mb0:=mn "len" (by kernel_rfl)
 have mb1:=mn "range" (by kernel_rfl)
 have mb2:=mn "tuple" (by kernel_rfl)
 have mb3:=mn "sorted" (by kernel_rfl)
 have mb4:=mn "min" (by kernel_rfl)
 have mb5:=mn "max" (by kernel_rfl)
 have mb6:=mn "list" (by kernel_rfl)
 have mb7:=mn "isinstance" (by kernel_rfl)
 have mb8:=mn "int" (by kernel_rfl)
 have mb9:=mn "bool" (by kernel_rfl)
 have mb10:=mn "all" (by kernel_rfl)
 have mb11:=mn "set" (by kernel_rfl)
 have mb12:=mn "zip" (by kernel_rfl)
 have mb13:=mn "dict" (by kernel_rfl)
 have mb14:=mn "enumerate" (by kernel_rfl)
 have mb15:=mn "repr" (by kernel_rfl)
 have e:=hmg.symm.trans (mk "law" 405 (by kernel_rfl))
 cases e
 have FI:=fkM (K:=Kf w.params) "__init__" "NoLabels.__init__" sI1 41 (qS "labelways.errors" 187) (vR 40)
 have bI:=FI.binds (ps:=["self", "word", "at"]) fun _ _ _ _ _ _ us hl=>by obtain⟨u0,u1,u2,rfl⟩:=zHY hl;rfl
 have mC:mg "NoLabels" = some (.ref 44):=mk "NoLabels" 44 (by kernel_rfl)
 have EI:zGI (Kf w.params) 44 41:=⟨by kernel_rfl,by kernel_rfl,by kernel_rfl,by kernel_rfl,by kernel_rfl⟩
 have sb:L2.subIn (Kf w.params) 44 44=true:=by kernel_rfl
 have mo:PySem.W.mroIn (Kf w.params) 44 (.type "object")=some true:=by kernel_rfl
 have i1:PySem.W.findIn (Kf w.params) (.ref 44) "word" = some none:=by kernel_rfl
 have i2:PySem.W.findIn (Kf w.params) (.ref 44) "at" = some none:=by kernel_rfl
 exact⟨_,244,240,by kernel_rfl,by kernel_rfl,fun s v=>.of_eq rfl,fun base hb _ hbm=>ok_law FZ (PySem.W.codeHd_of_K hb (show PySem.W.codeHdIn (Kf w.params) 244 240=true by kernel_rfl)) hbm mC EI sb FI bI mo i1 i2 ⟨FTa,bTa,mTa⟩ ⟨FD,bD,mD⟩ ⟨FW,bW,mW⟩ ⟨FNu,bNu,mNu⟩ ⟨FWi,bWi,mWi⟩ ⟨FTo,bTo,mTo⟩ ⟨FRs,bRs,mRs⟩ ⟨FPl,bPl,mPl⟩ ⟨FLl,bLl,mLl⟩ ⟨FEe,bEe,mEe⟩ ⟨FAl,bAl,mAl⟩ ⟨FFa,bFa,mFa⟩ ⟨FT,bT,mT⟩ ⟨FLo,bLo,mLo⟩ FNe bNe mNe ⟨FF,bF,mF⟩ ⟨FLe,bLe,mLe⟩ ⟨FBw,bBw,mBw⟩ ⟨FNb,bNb,mNb⟩ ⟨FIo,bIo,mIo⟩ ⟨FBy,bBy,mBy⟩ ⟨FLb,bLb,mLb⟩ ⟨FIh,bIh,mIh⟩ ⟨FEb,bEb,mEb⟩ ⟨FOw,bOw,mOw⟩ ⟨FSu,bSu,mSu⟩ ⟨FTd,bTd,mTd⟩ ⟨FHu,bHu,mHu⟩ ⟨FEn,bEn,mEn⟩ ⟨FSt,bSt,mSt⟩ ⟨FLt,bLt,mLt⟩ ⟨FRa,bRa,mRa⟩ ⟨FOf,bOf,mOf⟩ ⟨FUf,bUf,mUf⟩ ⟨FUr,bUr,mUr⟩ ⟨FTf,bTf,mTf⟩ ⟨FGm,bGm,mGm⟩ ⟨FDf,bDf,mDf⟩ ⟨FDr,bDr,mDr⟩ ⟨FA,bA,mA⟩ ⟨FLs,bLs,mLs⟩ ⟨FFr,bFr,mFr⟩ ⟨FJ,bJ,mJ⟩ ⟨FNs,bNs,mNs⟩ ⟨FOr,bOr,mOr⟩ ⟨FAh,bAh,mAh⟩ ⟨FBe,bBe,mBe⟩ ⟨FXc,bXc,mXc⟩ ⟨FLn,bLn,mLn⟩ ⟨FBl,bBl,mBl⟩ ⟨FHb,bHb,mHb⟩ ⟨FIl,bIl,mIl⟩ ⟨FLd,bLd,mLd⟩ ⟨FRt,bRt,mRt⟩ mb0 mb1 mb2 mb3 mb4 mb5 mb6 mb7 mb8 mb9 mb10 mb11 mb12 mb13 mb14 mb15⟩
end K90
open PySem PySem.W PyProof.Rows
set_option maxRecDepth 100000 in
set_option maxHeartbeats 0 in
theorem PySem.Challenge.cw_labelways_k90_whole_what_is_let_by_tells_holds : PySem.Challenge.rw_labelways_k90_whole_what_is_let_by_tells.Holds := by
 refine holds_law (by decide +kernel) fun said=>?_
 refine holds_open (q:=K90.Vp) (loose:=[]) (Xt:=fun s=>xlAt K90.Vp [] s && recOk (RowW.records K90.RR) s) (XP:=XL K90.Vp []) (Yf:=Hook.obs K90.HK) (Ya:=Hook.val K90.HK) (YP:=Hook.says K90.HK) (d:=K90.dL) (kwd:=[]) (N:=4856) K90.left (Hook.of K90.HK) (Hook.keeps K90.HK) (fun s e=>xl_of s (Bool.and_eq_true_iff.mp e).1) XL.keeps (by kernel_rfl) (by kernel_rfl) (by kernel_rfl) (fun s e=>recFacts_of (Bool.and_eq_true_iff.mp e).2) (by kernel_rfl) said (by decide +kernel) ⟨rfl,rfl,rfl,rfl,rfl,by decide +kernel⟩ ?hw ?hc
 case hw=>w_witness2
 case hc=>
  exact K90.walk (l:=PySem.Challenge.rw_labelways_k90_whole_what_is_let_by_tells) (K:=K90.Kf) rfl rfl ⟨((PyProof.Rows.recsOf K90.Vp).find? (fun e=>e.name==("nearest" : Str))).get (by decide +kernel),by simp⟩ (fun w h Y=>PySem.W.kIn_of Y) K90.facts
