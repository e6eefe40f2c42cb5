import PyProof.Rows.All
import Wide.All
import OpenK.AllK
import Wide.FinOn
import Lean
import PyProof.EqAt
import PyProof.EqKinds
import PyProof.TupleCall
import PyProof.ListRange
import PyProof.Rows.StrKeys3
import PyProof.ZipIter
import PySem.Challenge.RW_labelways_k32_whole_let_by_is_told
set_option Elab.async false
set_option linter.all false
set_option maxRecDepth 100000
section
open PySem PySem.Spec PyProof.Rows
abbrev zA:=@List.getElem?_eq_getElem
abbrev zB:=@List.length_map
abbrev zC:=@wpAny_bind
abbrev zE:=@List.getD_eq_getElem?_getD
abbrev zF:=@List.getElem?_eq_some_iff
abbrev zG:=@wpAny_pure
abbrev zJ:=@List.length_append
abbrev zK:=@Nat.le_refl
abbrev zM:=@List.getElem?_map
abbrev zN:=@Heap.get?_push_of_some
abbrev zO:=@List.getElem?_append_right
abbrev zP:=@List.getElem?_append_left
abbrev zQ:=@List.map_append
abbrev zS:=@decide_eq_true
abbrev zT:=@Option.some.inj
abbrev zU:=@List.size_toArray
abbrev zV:=@List.mem_of_getElem?
abbrev zW:=@Heap.lt_size
abbrev zX:=@Heap.get?_push_size
abbrev zZ:=@List.mem_cons_self
abbrev zb:=@Nat.ne_of_lt
abbrev zc:=@decide_eq_false
abbrev zd:=@List.mem_singleton
abbrev ze:=@List.mem_cons
abbrev zg:=@List.mem_cons_of_mem
abbrev zh:=@List.take_of_length_le
abbrev zi:=@List.mem_append_right
abbrev zj:=@List.getElem_of_mem
abbrev zk:=@Nat.zero_le
abbrev zm:=@List.mem_append
abbrev zn:=@Bool.false_ne_true
abbrev zo:=@List.mem_map
abbrev zq:=@Nat.lt_of_lt_of_le
abbrev zr:=@List.length_take
abbrev zt:=@List.length_cons
abbrev zw:=@List.mem_append_left
abbrev zx:=@List.getElem?_eq_none
abbrev zy:=@List.take_add_one
abbrev zAG:=@List.append_nil
abbrev zAL:=@List.length_set
abbrev zAM:=@Nat.le_trans
abbrev zAO:=@wpAny_mono
abbrev zAP:=@List.length_range
abbrev zAQ:=@List.mem_filter
abbrev zAR:=@Nat.ne_of_gt
abbrev zAU:=@Heap.size_push
abbrev zAW:=@wpAny_holding
abbrev zAX:=@List.length_filter_le
abbrev zAY:=@List.pairwise_iff_getElem
abbrev zAZ:=@Int.zero_add
abbrev zAa:=@List.map_cons
abbrev zAd:=@List.map_map
abbrev zAe:=@List.length_replicate
abbrev zAf:=@List.getElem?_toArray
abbrev zAg:=@wpAny_callSpecial?_slot
abbrev zAj:=@wpAny_call_entry
abbrev zAk:=@Bool.and_eq_true
abbrev zAn:=@Nat.lt_of_le_of_lt
abbrev zAp:=@Nat.lt_trans
abbrev zAq:=@wpAny_seqItems
abbrev zAs:=@wpAny_newObj_type
abbrev zAt:=@List.pairwise_map
abbrev zAu:=@Int.toNat_natCast
abbrev zAy:=@Option.map_some
abbrev zAz:=@List.drop_eq_getElem_cons
abbrev zA1:=@List.lookup_cons
abbrev zA5:=@wpAny_field
abbrev zA9:=@Nat.le_of_lt
abbrev zBA:=@List.getElem_mem
abbrev zBC:=@wpAny_loadPart_at
abbrev zBD:=@Nat.le_succ
abbrev zBE:=@Int.le_refl
abbrev zBG:=@Nat.sub_self
abbrev zBH:=@Nat.not_lt_zero
abbrev zBI:=@List.nodup_cons
abbrev zBJ:=@Heap.get?_update_self
abbrev zBK:=@Option.isSome_iff_exists
abbrev zBL:=@List.pairwise_cons
abbrev zBM:=@List.mem_filterMap
abbrev zBN:=@List.length_drop
abbrev zBT:=@List.getElem?_replicate
abbrev zBU:=@wpAny_truthy_bool
abbrev zBW:=@Nat.lt_succ_of_lt
abbrev zBa:=@List.map_congr_left
abbrev zBd:=@wpAny_Call_Name_kw
abbrev zBe:=@Nat.lt_irrefl
abbrev zBf:=@List.filter_append
abbrev zBg:=@Bool.false_eq_true
abbrev zBj:=@Classical.byContradiction
abbrev zBp:=@wpAny_rule
abbrev zBq:=@List.nodup_append
abbrev zBr:=@List.find?_cons
abbrev zBv:=@wpAny_typeOf
abbrev zB0:=@List.filter_cons_of_pos
abbrev zB1:=@List.filter_cons_of_neg
abbrev zB2:=@Heap.get?_update_ne
abbrev zB4:=@wpAny_typeNameOfWhole_keyiter
abbrev zB5:=@List.getElem_inj
abbrev zCC:=@List.mem_range
end
abbrev qAA:List PySem.Str:=["_law_tape_here","_law_web_here","_law_far_here","_law_labels_here"]
abbrev qAB:List PySem.Str:=["_law_tape_here","_law_many"]
abbrev qAC:List PySem.Str:=["_law_web_here","_law_far_here","_law_place","_law_hub"]
abbrev qAD:List PySem.Str:=["_law_web_here","_law_far_here","_law_one","_law_other"]
abbrev qAE:List PySem.Str:=["web","labels","place","entry"]
abbrev qAF:List PySem.Str:=["one","other"]
abbrev qAG:List PySem.Str:=["_law_one","_law_other"]
abbrev qAH:List PySem.Str:=["_law_far_here","_law_place","_law_one","_law_other"]
abbrev qAI:List PySem.Str:=["_law_pairs","_law_walked","_law_one","_law_other"]
abbrev qAJ:List PySem.Str:=["_law_web_here"]
abbrev qAK:List PySem.Str:=["n","thing"]
abbrev qAL:List PySem.Str:=["_law_tape_here","_law_labels_here","_law_others"]
abbrev qAM:List PySem.Str:=["_law_tape_here","_law_n"]
abbrev qAN:List PySem.Str:=["web","labels"]
abbrev qAO:List PySem.Str:=["_law_tape_here","_law_web_here","_law_labels_here"]
abbrev qAP:List PySem.Str:=["_law_web_here","_law_order_here"]
abbrev qAQ:List PySem.Str:=["_law_labels_here","_law_others"]
abbrev qAR:List PySem.Str:=["_law_web_here","_law_far_here"]
abbrev qAS:List PySem.Str:=["_law_web_here","_law_far_here","_law_thing"]
abbrev qAT:List PySem.Str:=["thing","least","most"]
abbrev qAU:List PySem.Str:=["self","word","at"]
abbrev qAV:List PySem.Str:=["web","one","other"]
abbrev qAW:List PySem.Str:=["here","there","long"]
abbrev qAX:List PySem.Str:=["_law_tape_here"]
abbrev qAY:List PySem.Str:=["_law_tape_here","_law_web_here"]
abbrev qAZ:List PySem.Str:=["labels","one","other"]
abbrev qAa:List PySem.Str:=["thing","count"]
abbrev qAb:List PySem.Str:=["_law_web_here","_law_thing"]
abbrev qAc:List PySem.Str:=["_law_script"]
abbrev qAd:List PySem.Str:=["web","place"]
abbrev qAe:List PySem.Str:=["label","hub"]
abbrev qAf:List PySem.Str:=["web","thing"]
abbrev qAg:List PySem.Str:=["labels"]
abbrev qAh:List PySem.Str:=["word","at"]
abbrev qAi:List PySem.Str:=["hub","long","up","down"]
abbrev qAj:List PySem.Str:=["label"]
abbrev qAk:List PySem.Str:=["thing"]
abbrev qAl:List PySem.Str:=["things"]
namespace L2
open PySem PySem.Spec PyProof.Rows
noncomputable def defArgs (s:Stmt):Arguments:=match s with
 | .FunctionDef _ a _ _ _ _ _ _ _ _=>a
 | _=>{ posonlyargs:=[],args:=[],vararg:=none,kwonlyargs:=[],kw_defaults:=[],kwarg:=none,defaults:=[] }
noncomputable def defBody (s:Stmt):List Stmt:=match s with
 | .FunctionDef _ _ b _ _ _ _ _ _ _=>b
 | _=>[]
noncomputable def defScope (s:Stmt):Scope:=match s with
 | .FunctionDef _ _ _ _ _ _ sc _ _ _=>sc
 | _=>{ kind:=.function,names:=[],isGenerator:=false,isCoroutine:=false }
end L2
namespace L2
section
open PySem PySem.W PyProof.Rows
noncomputable def zEz (p:Program)(w:World)(n₀:Nat)(ann:Option Value):Nat->SharedT->Thread->Option SharedT
 | 0,_,_=>none
 | n+1,s,t=>match through t with
  | true=>some s
  | false=>match Fast.tw6613529449190102663 n₀ ann t with
   | false=>none
   | true=>match Fast.tw10156331382660048174 (Fast.tw11892475500146522536 Fast.tw14364793385576792824) p w s t with
    | some (s',t')=>zEz p w n₀ ann n s' t'
    | none=>none
theorem zFT {p:Program}{w:World}{n₀:Nat}{ann:Option Value}:∀{n:Nat}{s s':SharedT}{t:Thread},zEz p w n₀ ann n s t=some s'->topRun treeTable p w n₀ ann n s.abs t=some s'.abs
 | 0,_,_,_,h=>by cases h
 | n+1,s,s',t,h=>by
  unfold zEz at h;rw[<-Fast.te6613529449190102663,<-Fast.te10156331382660048174,<-Fast.te11892475500146522536,<-Fast.te14364793385576792824] at h;unfold topRun;cases he:through t with
  | true=>rw[he] at h;cases h;rfl
  | false=>
   rw[he] at h;cases hk:stepOk n₀ ann t with
   | false=>rw[hk] at h;cases h
   | true=>
    rw[hk] at h;cases hs:stepT (denote treeTable) p w s t with
    | none=>rw[hs] at h;cases h
    | some r=>obtain⟨s₂,t₂⟩:=r;rw[hs] at h;rw[stepT_spec hs];exact zFT h
noncomputable def bt:List Obj->Nat->BT->BT
 | [],_,t=>t
 | o::l,i,t=>bt l (i+1) (t.ins i o)
noncomputable def bT (P:Params):BT:=bt (boot_heap P).objs.toList 0 .nil
noncomputable def bS (w:World)(os:OsState):SharedT:=⟨bT w.params,(boot_heap w.params).objs.size,(boot_heap w.params).life,Array.mk [],boot_drawn,boot_toks,os⟩
theorem bA (w:World)(os:OsState):(bS w os).abs=⟨boot_heap w.params,Array.mk [],boot_drawn,boot_toks,os⟩:=by kernel_rfl
noncomputable abbrev runT (p:Program)(N:Nat)(w:World)(os:OsState):Option SharedT:=zEz p w (boot_heap w.params).objs.size ((boot_heap w.params).nsMap mainGlobals "__annotations__") N (bS w os) (topStub p)
noncomputable abbrev chkT (p:Program)(h h':Heap)(s:Shared):Bool:=staticsOk (importedModules p.main.body) h h' && namesBound p h' && gensDone s && laidKept h h'
theorem left_of {p q:Program}{loose:List Str}{Xt:Shared->Bool}{α:Type}{Yf:Shared->α}{Ya:World->α}{N:Nat}(e:opening p=plainProg p.main.scope.names)(hN:Nat.ble 600 N=true)(f:∀s,fenceModules? p s=some s)
 (h:∀(w:World)(os:OsState),(runT p N w os).map (fun s=>(chkT p (boot_heap w.params) s.abs.heap s.abs,Fast.tw4187177175401517315 q loose (importedModules p.main.body) Xt true s.abs,Yf s.abs))=some (true,openGood q loose,Ya w)):LeftO p q loose Xt Yf Ya N:=by
 intro w;obtain⟨⟨h0,gs,d,k,os⟩,e1,e2⟩:=Option.map_eq_some_iff.mp (boot_open e hN f w);obtain⟨rfl,rfl,rfl,rfl⟩:h0=boot_heap w.params/\gs=Array.mk []/\d=boot_drawn/\k=boot_toks:=by simpa using e2
 obtain⟨s,r,a⟩:=Option.map_eq_some_iff.mp (h w os);obtain⟨b,a⟩:=Prod.mk.inj a;rw[<-Fast.te4187177175401517315] at a;have y:=zFT r;rw[bA] at y;unfold openEnds;rw[e1];show (topFrom treeTable p w N _).map _=_;unfold topFrom;have z:((boot_heap w.params).isNs mainGlobals && (Array.mk []:Array GenState).size==0)=true:=by kernel_rfl
 dsimp only;rw[z];dsimp only;rw[y];show Option.map _ (match chkT p (boot_heap w.params) s.abs.heap s.abs with | true=>some s.abs | false=>none)=_
 rw[b];exact congrArg some a
end
end L2
namespace K32
open PySem L2
noncomputable def top (i:Nat):Stmt:=PySem.Challenge.pw_labelways_k32_whole_let_by_is_told.main.body.getD i (.Pass ⟨0,0,0,0⟩)
noncomputable def mth (k i:Nat):Stmt:=match top k with
 | .ClassDef _ _ _ body ..=>body.getD i (.Pass ⟨0,0,0,0⟩)
 | _=>.Pass ⟨0,0,0,0⟩
noncomputable abbrev sT:String->Str:=Str.ofString
noncomputable abbrev kH:=PyData.keyHash
noncomputable abbrev dE:=DictEntry.mk
noncomputable abbrev vS:=Value.str
noncomputable abbrev vI:=Value.int
noncomputable abbrev vR:=Value.ref
noncomputable abbrev vB:=Value.bool
noncomputable abbrev vN:Value:=Value.none
noncomputable abbrev vT:=Value.type
noncomputable abbrev oM:=Obj.mk
noncomputable abbrev cQ (x:Array Value):Obj:=oM (vT "code") .none (.fields x) #[]
noncomputable abbrev fQ (x:FuncData):Obj:=oM (vT "function") .none (.func x) #[]
noncomputable abbrev fT (x:String)(i:Nat)(m:Value)(c:Nat):Obj:=fQ (.mk (sT x) (sT x) (L2.defArgs (top i)) (FuncBody.stmts (L2.defBody (top i))) (L2.defScope (top i)) 3 [] vN vN vN m .none (vR c) vN 0)
noncomputable abbrev qS (x:String)(n:Nat):Value:=vS (sT x) n
noncomputable abbrev qC (n:Nat):Value:=qS "/claim/cut.py" n
noncomputable abbrev cA (x:String)(a:Nat)(l q:Int)(p:Nat)(n:Int)(m:Nat):Obj:=cQ #[qS x a,qS x (a+1),qC (a+2),vI l 0,vI q 0,vI 0 0,vI 0 0,vI 3 0,vR p,vB true,vI 181 0,vR (p+1),vN,vR (p+2),vR (p+3),vR (p+4),vI n 0,vI l 0,qC m]
noncomputable abbrev cB (x:String)(a:Nat)(l q:Int)(p:Nat)(n:Int)(m:Nat):Obj:=cQ #[qS x a,qS x (a+1),qC (a+2),vI l 0,vI q 0,vI 0 0,vI 0 0,vI 3 0,vR p,vB true,vI 181 0,vR (p+1),vN,vN,vN,vR (p+2),vI n 0,vI l 0,qC m]
noncomputable abbrev qL:=qS "law_labelways_k32_whole_let_by_is_told" 468
noncomputable abbrev kE (P:Params)(x:String)(n:Nat):Value->DictEntry:=dE (kH P (sT x)) (qS x n)
noncomputable def Kf:Params->PySem.W.Frag:=fun P=>[
(2,oM vN .none (Data.dict #[]) #[]),
(3,oM (vT "dict") .none (Data.dict #[kE P "__name__" 165 qL,kE P "__doc__" 166 vN,kE P "__package__" 167 vN,kE P "__loader__" 168 (Value.builtin "__main__.__loader__#opaque"),kE P "__spec__" 169 vN,kE P "__annotations__" 170 (vR 6),kE P "__builtins__" 171 (vR 4),kE P "__file__" 173 (qC 172),kE P "__cached__" 174 vN,kE P "WayError" 206 (vR 24),kE P "NoLabels" 233 (vR 44),kE P "is_number" 242 (vR 53),kE P "is_within" 251 (vR 60),kE P "is_tuple_of" 259 (vR 67),kE P "is_rising" 265 (vR 72),kE P "is_place" 273 (vR 79),kE P "is_label" 281 (vR 84),kE P "is_entry" 289 (vR 91),kE P "are_labels" 295 (vR 96),kE P "own_place" 301 (vR 101),kE P "told" 309 (vR 108),kE P "told_hub" 317 (vR 115),kE P "least_sum" 323 (vR 120),kE P "entry_of" 332 (vR 127),kE P "far_entries" 338 (vR 132),kE P "next_step" 347 (vR 139),kE P "walk" 357 (vR 146),kE P "ties_at" 371 (vR 153),kE P "long_of" 382 (vR 160),kE P "lets_labels" 392 (vR 167),kE P "refuse_at" 400 (vR 174),kE P "own_fault" 409 (vR 181),kE P "up_fault" 419 (vR 188),kE P "is_up_right" 431 (vR 195),kE P "tie_fault" 437 (vR 200),kE P "grows_too_much" 446 (vR 207),kE P "down_fault" 456 (vR 214),kE P "is_down_right" 467 (vR 221),kE P "_law_tape" 476 (vR 228),kE P "_law_draw" 488 (vR 235),kE P "_law_small" 495 (vR 242),kE P "_law_web" 501 (vR 247),kE P "_law_row_web" 507 (vR 252),kE P "_law_added" 515 (vR 259),kE P "_law_lesser" 523 (vR 266),kE P "_law_far" 529 (vR 271),kE P "_law_on" 540 (vR 278),kE P "_law_joined" 551 (vR 285),kE P "_law_nexts" 557 (vR 290),kE P "_law_order" 568 (vR 297),kE P "_law_entry" 578 (vR 304),kE P "_law_labels" 584 (vR 309),kE P "_law_full" 590 (vR 314),kE P "_law_either" 596 (vR 319),kE P "_law_loose" 615 (vR 326),kE P "_law_longer" 621 (vR 331),kE P "_law_some" 632 (vR 338),kE P "_law_turned" 638 (vR 343),kE P "_law_let" 647 (vR 350),kE P "_law_mixed" 653 (vR 355),kE P "_law_way" 665 (vR 362),kE P "_law_tells" 679 (vR 369),kE P "law" 695 (vR 376)] 63) #[]),
(23,oM (vT "dict") .none (Data.dict #[kE P "__module__" 196 (qS "labelways.errors" 187),kE P "__firstlineno__" 200 (vI 2 199),kE P "__static_attributes__" 201 (vR 22),kE P "__weakref__" 203 (vR 25),kE P "__doc__" 204 vN] 3) #[]),
(24,oM (vT "type") .none (Data.cls (ClassData.mk (sT "WayError") [vT "ValueError"] [vR 24,vT "ValueError",vT "Exception",vT "BaseException",vT "object"] 23 (sT "WayError") true [] [vR 44] false .none false)) #[.some (vR 15),.none,.some (qS "WayError" 189),.some (qS "WayError" 197),.some (Value.builtin "ValueError.__new__"),.some (vB true)]),
(25,oM (vT "getset_descriptor") .none (Data.fields #[qS "__weakref__" 202,vR 24,Value.builtin "ExceptionGroup.__weakref__",vN]) #[]),
(40,cQ #[qS "__init__" 219,qS "NoLabels.__init__" 220,qC 221,vI 6 0,vI 3 0,vI 0 0,vI 0 0,vI 3 0,vR 35,vB true,vI 181 0,vR 36,vN,vR 37,vR 38,vR 39,vI 225 0,vI 6 0,qC 226]),
(41,fQ (.mk (sT "__init__") (sT "NoLabels.__init__") (L2.defArgs (mth 2 0)) (FuncBody.stmts (L2.defBody (mth 2 0))) (L2.defScope (mth 2 0)) 3 [] vN vN vN (qS "labelways.errors" 187) .none (vR 40) vN 0)),
(43,oM (vT "dict") .none (Data.dict #[kE P "__module__" 214 (qS "labelways.errors" 187),kE P "__firstlineno__" 218 (vI 4 217),kE P "__init__" 227 (vR 41),kE P "__static_attributes__" 230 (vR 42),kE P "__doc__" 231 vN] 2) #[]),
(44,oM (vT "type") .none (Data.cls (ClassData.mk (sT "NoLabels") [vR 24] [vR 44,vR 24,vT "ValueError",vT "Exception",vT "BaseException",vT "object"] 43 (sT "NoLabels") true [] [] false .none false)) #[.some (vR 28),.none,.some (qS "NoLabels" 207),.some (qS "NoLabels" 215),.some (Value.builtin "ValueError.__new__"),.some (vB true)]),
(52,cA "is_number" 236 10 1 47 240 241),
(53,fT "is_number" 4 (qS "labelways.kinds" 234) 52),
(59,cA "is_within" 243 12 3 54 249 250),
(60,fT "is_within" 5 (qS "labelways.kinds" 234) 59),
(66,cA "is_tuple_of" 252 14 2 61 257 258),
(67,fT "is_tuple_of" 6 (qS "labelways.kinds" 234) 66),
(71,cB "is_rising" 260 16 1 68 263 264),
(72,fT "is_rising" 7 (qS "labelways.kinds" 234) 71),
(78,cA "is_place" 266 18 2 73 271 272),
(79,fT "is_place" 8 (qS "labelways.kinds" 234) 78),
(83,cB "is_label" 276 21 2 80 279 280),
(84,fT "is_label" 10 (qS "labelways.labels" 274) 83),
(90,cA "is_entry" 282 28 2 85 287 288),
(91,fT "is_entry" 11 (qS "labelways.labels" 274) 90),
(95,cB "are_labels" 290 36 2 92 293 294),
(96,fT "are_labels" 12 (qS "labelways.labels" 274) 95),
(100,cB "own_place" 296 38 1 97 299 300),
(101,fT "own_place" 13 (qS "labelways.labels" 274) 100),
(107,cA "told" 302 40 2 102 307 308),
(108,fT "told" 14 (qS "labelways.labels" 274) 107),
(114,cA "told_hub" 310 42 2 109 315 316),
(115,fT "told_hub" 15 (qS "labelways.labels" 274) 114),
(119,cB "least_sum" 318 44 2 116 321 322),
(120,fT "least_sum" 16 (qS "labelways.labels" 274) 119),
(126,cA "entry_of" 324 48 2 121 330 331),
(127,fT "entry_of" 17 (qS "labelways.labels" 274) 126),
(131,cB "far_entries" 333 53 1 128 336 337),
(132,fT "far_entries" 18 (qS "labelways.labels" 274) 131),
(138,cA "next_step" 339 58 2 133 345 346),
(139,fT "next_step" 19 (qS "labelways.labels" 274) 138),
(145,cA "walk" 348 65 3 140 355 356),
(146,fT "walk" 20 (qS "labelways.labels" 274) 145),
(152,cA "ties_at" 360 73 2 147 369 370),
(153,fT "ties_at" 22 (qS "labelways.webs" 358) 152),
(159,cA "long_of" 372 81 3 154 380 381),
(160,fT "long_of" 23 (qS "labelways.webs" 358) 159),
(166,cA "lets_labels" 385 87 2 161 390 391),
(167,fT "lets_labels" 25 (qS "labelways.checker" 383) 166),
(173,cA "refuse_at" 393 95 2 168 398 399),
(174,fT "refuse_at" 26 (qS "labelways.checker" 383) 173),
(180,cA "own_fault" 401 98 1 175 407 408),
(181,fT "own_fault" 27 (qS "labelways.checker" 383) 180),
(187,cA "up_fault" 410 103 2 182 417 418),
(188,fT "up_fault" 28 (qS "labelways.checker" 383) 187),
(194,cA "is_up_right" 420 108 4 189 429 430),
(195,fT "is_up_right" 29 (qS "labelways.checker" 383) 194),
(199,cB "tie_fault" 432 112 2 196 435 436),
(200,fT "tie_fault" 30 (qS "labelways.checker" 383) 199),
(206,cA "grows_too_much" 438 120 3 201 444 445),
(207,fT "grows_too_much" 31 (qS "labelways.checker" 383) 206),
(213,cA "down_fault" 447 124 2 208 454 455),
(214,fT "down_fault" 32 (qS "labelways.checker" 383) 213),
(220,cA "is_down_right" 457 129 4 215 465 466),
(221,fT "is_down_right" 33 (qS "labelways.checker" 383) 220),
(227,cA "_law_tape" 470 133 1 222 474 475),
(228,fT "_law_tape" 35 qL 227),
(234,cA "_law_draw" 477 135 2 229 486 487),
(235,fT "_law_draw" 36 qL 234),
(241,cA "_law_small" 489 148 1 236 493 494),
(242,fT "_law_small" 37 qL 241),
(246,cB "_law_web" 496 150 2 243 499 500),
(247,fT "_law_web" 38 qL 246),
(251,cB "_law_row_web" 502 162 1 248 505 506),
(252,fT "_law_row_web" 39 qL 251),
(258,cA "_law_added" 508 171 2 253 513 514),
(259,fT "_law_added" 40 qL 258),
(265,cA "_law_lesser" 516 173 2 260 521 522),
(266,fT "_law_lesser" 41 qL 265),
(270,cB "_law_far" 524 177 1 267 527 528),
(271,fT "_law_far" 42 qL 270),
(277,cA "_law_on" 530 189 4 272 538 539),
(278,fT "_law_on" 43 qL 277),
(284,cA "_law_joined" 541 192 1 279 549 550),
(285,fT "_law_joined" 44 qL 284),
(289,cB "_law_nexts" 552 198 4 286 555 556),
(290,fT "_law_nexts" 45 qL 289),
(296,cA "_law_order" 558 205 2 291 566 567),
(297,fT "_law_order" 46 qL 296),
(303,cA "_law_entry" 569 211 4 298 576 577),
(304,fT "_law_entry" 47 qL 303),
(308,cB "_law_labels" 579 215 2 305 582 583),
(309,fT "_law_labels" 48 qL 308),
(313,cB "_law_full" 585 226 2 310 588 589),
(314,fT "_law_full" 49 qL 313),
(318,cB "_law_either" 591 232 2 315 594 595),
(319,fT "_law_either" 50 qL 318),
(325,cA "_law_loose" 597 238 4 320 613 614),
(326,fT "_law_loose" 51 qL 325),
(330,cB "_law_longer" 616 251 4 327 619 620),
(331,fT "_law_longer" 52 qL 330),
(337,cA "_law_some" 622 261 2 332 630 631),
(338,fT "_law_some" 53 qL 337),
(342,cB "_law_turned" 633 274 3 339 636 637),
(343,fT "_law_turned" 54 qL 342),
(349,cA "_law_let" 639 303 2 344 645 646),
(350,fT "_law_let" 55 qL 349),
(354,cB "_law_mixed" 648 310 3 351 651 652),
(355,fT "_law_mixed" 56 qL 354),
(361,cA "_law_way" 654 312 4 356 663 664),
(362,fT "_law_way" 57 qL 361),
(368,cA "_law_tells" 666 321 3 363 677 678),
(369,fT "_law_tells" 58 qL 368),
(375,cA "law" 680 336 1 370 693 694),
(376,fT "law" 59 qL 375)]
noncomputable def Ka:List Addr:=[2,3,23,24,25,40,41,43,44,52,53,59,60,66,67,71,72,78,79,83,84,90,91,95,96,100,101,107,108,114,115,119,120,126,127,131,132,138,139,145,146,152,153,159,160,166,167,173,174,180,181,187,188,194,195,199,200,206,207,213,214,220,221,227,228,234,235,241,242,246,247,251,252,258,259,265,266,270,271,277,278,284,285,289,290,296,297,303,304,308,309,313,314,318,319,325,326,330,331,337,338,342,343,349,350,354,355,361,362,368,369,375,376]
noncomputable abbrev pw:Program:=PySem.Challenge.pw_labelways_k32_whole_let_by_is_told
noncomputable def Vp:Program:={ pw with main:={ pw.main with body:=[top 1,top 2,top 4,top 5,top 6,top 7,top 8,top 10,top 11,top 12,top 13,top 14,top 15,top 16,top 17,top 18,top 19,top 20,top 22,top 23,top 25,top 26,top 27,top 28,top 29,top 30,top 31,top 32,top 33,top 35,top 36,top 37,top 38,top 39,top 40,top 41,top 42,top 43,top 44,top 45,top 46,top 47,top 48,top 49,top 50,top 51,top 52,top 53,top 54,top 55,top 56,top 57,top 58,top 59] } }
noncomputable abbrev RR:PySem.W.RowW:=PySem.W.OpenRow.toRowW (PySem.Challenge.rw_labelways_k32_whole_let_by_is_told).row
theorem Ke:∀P,Ka=(Kf P).map (·.1):=fun P=>by kernel_rfl
noncomputable abbrev HK:PySem.W.Hook:=PySem.W.kHook Kf Ka Ke
theorem left:PySem.W.LeftO pw Vp [] (fun s=>PySem.W.xlAt Vp [] s && PySem.W.recOk (PySem.W.RowW.records RR) s) (PySem.W.Hook.obs HK) (PySem.W.Hook.val HK) 4224:=L2.left_of (by kernel_rfl) (by decide) (fun _=>rfl) fun w os=>by kernel_rfl
theorem wS:PySem.Challenge.rw_labelways_k32_whole_let_by_is_told.wellSaid=true:=by decide +kernel
end K32
noncomputable abbrev vSP:=PySem.Value->PySem.Shared->Prop
noncomputable abbrev lPO:=List (PySem.Addr×PySem.Obj)
noncomputable abbrev lLO:=List (List (Option Int))
noncomputable abbrev sOV:=PySem.Str->Option PySem.Value
namespace L2
open PySem PySem.Spec PyProof.Rows
noncomputable abbrev Key:=Sum Int Str
noncomputable def zIL:Key->Value->Bool
 | .inl k,v=>Value.isInt k v
 | .inr x,v=>Value.isStrOf x v
noncomputable def keyH (w:World):Key->Int
 | .inl k=>hashInt k
 | .inr x=>hashStr w x
theorem zBZ:∀{k:Key}{v:Value},zIL k v=true->(∃i t,k=Sum.inl i/\v=Value.int i t)\/(∃x t,k=Sum.inr x/\v=Value.str x t)
 | .inl i,v,h=>by obtain⟨t,e⟩:=Value.isInt_shape (k:=i) (v:=v) h;exact .inl ⟨i,t,rfl,e⟩
 | .inr x,v,h=>by obtain⟨t,e⟩:=Value.isStrOf_shape (x:=x) (v:=v) h;exact .inr ⟨x,t,rfl,e⟩
theorem zJ4 (i:Int)(t:Tok):zIL (.inl i) (.int i t)=true:=by simp[zIL,Value.isInt]
theorem zJ3 (x:Str)(t:Tok):zIL (.inr x) (.str x t)=true:=by simp[zIL,Value.isStrOf]
theorem key_ll (a b:Int):decide ((Sum.inl a:Key)=Sum.inl b)=(a==b):=by
 by_cases e:a=b
 . subst e;simp
 . have h:¬ (Sum.inl a:Key)=Sum.inl b:=fun q=>e (Sum.inl.inj q);rw[zc h];exact (beq_eq_false_iff_ne.mpr e).symm
theorem key_rr (a b:Str):decide ((Sum.inr a:Key)=Sum.inr b)=decide (a=b):=by
 by_cases e:a=b
 . subst e;simp
 . have h:¬ (Sum.inr a:Key)=Sum.inr b:=fun q=>e (Sum.inr.inj q);rw[zc h,zc e]
theorem key_lr (a:Int)(b:Str):decide ((Sum.inl a:Key)=Sum.inr b)=false:=zc (fun q=>nomatch q)
theorem key_rl (a:Str)(b:Int):decide ((Sum.inr a:Key)=Sum.inl b)=false:=zc (fun q=>nomatch q)
noncomputable def zA2 (prog:Program)(w:World):PySem.KeyKind prog w Key where
 is:=zIL
 hash:=keyH w
 inj:=fun v a b ha hb=>by
  rcases zBZ ha with ⟨i,t,rfl,rfl⟩ | ⟨x,t,rfl,rfl⟩
  . rcases zBZ hb with ⟨j,u,rfl,e⟩ | ⟨y,u,rfl,e⟩
    . injection e with e1 _;rw[e1]
    . exact nomatch e
  . rcases zBZ hb with ⟨j,u,rfl,e⟩ | ⟨y,u,rfl,e⟩
    . exact nomatch e
    . injection e with e1 _;rw[e1]
 byValue:=fun k v h=>by rcases zBZ h with ⟨i,t,rfl,rfl⟩ | ⟨x,t,rfl,rfl⟩ <;> rfl
 pyHash:=fun hv h=>by
  rcases zBZ hv with ⟨i,t,rfl,rfl⟩ | ⟨x,t,rfl,rfl⟩
  . exact wpAny_pyHash_int h
  . exact wpAny_pyHash_str h
 eqBool:=fun hu hv h=>by
  rcases zBZ hu with ⟨i,t,rfl,rfl⟩ | ⟨x,t,rfl,rfl⟩
  . rcases zBZ hv with ⟨j,u,rfl,rfl⟩ | ⟨y,u,rfl,rfl⟩
    . rw[key_ll] at h;exact wpAny_eqBool_int h
    . rw[key_lr] at h;exact SeqAt.EqAt.int_str i t y u _ _ _ _ h
  . rcases zBZ hv with ⟨j,u,rfl,rfl⟩ | ⟨y,u,rfl,rfl⟩
    . rw[key_rl] at h;exact SeqAt.EqAt.str_int x t j u _ _ _ _ h
    . rw[key_rr] at h;exact wpAny_eqBool_str h
 «strs» := fun k x t v h=>by
  rcases zBZ h with ⟨i,u,rfl,e⟩ | ⟨y,u,rfl,e⟩
  . exact nomatch e
  . injection e with e1 _;subst e1;cases v <;> rfl
theorem zGi (prog:Program)(w:World)(i:Int)(t:Tok):(zA2 prog w).is (.inl i) (.int i t)=true:=zJ4 i t
theorem zGh (prog:Program)(w:World)(x:Str)(t:Tok):(zA2 prog w).is (.inr x) (.str x t)=true:=zJ3 x t
inductive V where
 | non | bl (b:Bool) | int (i:Int) | str (x:Str) | byt (b:Array UInt8) | flt (b:UInt64) | ref (a:Addr) | ty (n:String)
 deriving DecidableEq
noncomputable def zBm:V->Value->Prop
 | .non,u=>u=Value.none
 | .bl b,u=>u=Value.bool b
 | .int i,u=>∃t,u=Value.int i t
 | .str x,u=>∃t,u=Value.str x t
 | .byt b,u=>∃t,u=Value.bytes b t
 | .flt b,u=>∃t,u=Value.float b t
 | .ref a,u=>u=Value.ref a
 | .ty n,u=>u=Value.type n
noncomputable abbrev zBS:List V->List Value->Prop:=Paired zBm
variable {us:List Value}
theorem zBS.length {xs:List V}(r:zBS xs us):xs.length=us.length:=Paired.length r
theorem zBS.get:∀{xs:List V}{us:List Value}{i:Nat}{x:V},zBS xs us->xs[i]?=some x->∃u,us[i]?=some u/\zBm x u
 | _,_,_,_,.nil,e=>by simp at e
 | _,_,0,_,.cons r _,e=>by simp at e;subst e;exact⟨_,rfl,r⟩
 | _,_,i+1,x,.cons _ t,e=>by obtain⟨u,h1,h2⟩:=zBS.get (i:=i) (x:=x) t (by simpa using e);exact⟨u,by simpa using h1,h2⟩
theorem zBS.set {x:V}{u:Value}(r:zBm x u):∀{xs:List V}{us:List Value}(i:Nat),zBS xs us->zBS (xs.set i x) (us.set i u)
 | _,_,_,.nil=>.nil
 | _,_,0,.cons _ t=>.cons r t
 | _,_,i+1,.cons q t=>.cons q (zBS.set r i t)
theorem zBS.append:∀{xs ys:List V}{us ws:List Value},zBS xs us->zBS ys ws->zBS (xs++ys) (us++ws)
 | _,_,_,_,.nil,s=>s
 | _,_,_,_,.cons r t,s=>.cons r (zBS.append t s)
theorem zBS.take:∀{xs:List V}{us:List Value}(n:Nat),zBS xs us->zBS (xs.take n) (us.take n)
 | _,_,0,_=>.nil
 | _,_,_+1,.nil=>.nil
 | _,_,n+1,.cons r t=>.cons r (zBS.take n t)
theorem zBS.drop:∀{xs:List V}{us:List Value}(n:Nat),zBS xs us->zBS (xs.drop n) (us.drop n)
 | _,_,0,r=>r
 | _,_,_+1,.nil=>.nil
 | _,_,n+1,.cons _ t=>zBS.drop n t
noncomputable def zGv:Option V->Option Value->Prop
 | some v,some u=>zBm v u
 | none,none=>True
 | _,_=>False
noncomputable def KV {κ:Type}:List (κ×V)->List (κ×Value)->Prop:=Paired fun (p:κ×V)(q:κ×Value)=>p.1=q.1/\zBm p.2 q.2
noncomputable def kV:Key->V
 | .inl i=>.int i
 | .inr x=>.str x
inductive HO where
 | lst (xs:List V)
 | tup (xs:List V)
 | dK (kvs:List (Key×V)) | dT (kvs:List (List Key×V))
 | set (S:Int->Bool)(n:Nat)
 | ins (C dx:Addr)(fs:List (Str×V))
 | own (x:Addr)
 | xd (fs:List (Str×V))
 | met (f x:Addr)
 | rng (lo hi:Int)
 | frz (o:Obj)(u:HO)
 | tbl (ps:Array Value)
 | ext (φ:Heap->Prop)
noncomputable abbrev Hp:=Addr->Option HO
noncomputable def upd (H:Hp)(a:Addr)(o:HO):Hp:=fun b=>if b=a then some o else H b
variable {H:Hp}{a:Addr}
theorem zI {o:HO}:upd H a o a=some o:=by unfold upd;rw[if_pos rfl]
variable {b:Addr}
theorem za {o:HO}(h:b≠a):upd H a o b=H b:=by unfold upd;rw[if_neg h]
theorem zCd {o u:HO}:upd (upd H a o) a u=upd H a u:=by funext b;unfold upd;split <;> rfl
theorem zCD {o u:HO}(h:H a=some o)(h':H b=some u)(d:o≠u):a≠b:=by intro e;subst e;rw[h] at h';exact d (zT h')
theorem zl {o:HO}(h:H a=some o)(h':H b=none):a≠b:=by intro e;subst e;rw[h] at h';cases h'
section
variable (P:Program)(w:World)
noncomputable def zBc (H:Hp)(h:Heap)(a:Addr):HO->Prop
 | .lst xs=>xs.length<=sizeLine/\∃(its:List Value)(n:Nat),zBS xs its/\h.get? a=some { cls:=.type "list",data:=.seq its.toArray n }
 | .tup xs=>(xs.length<=sizeLine/\∃o,h.get? a=some o/\o.dict=none)/\∃its:List Value,zBS xs its/\IsTup h a its.toArray
 | .dK kvs=>kvs.length<=sizeLine/\(a==sysModules)=false/\∃vs,KV kvs vs/\h.DictOf (zA2 P w) a vs
 | .dT kvs=>kvs.length<=sizeLine/\(a==sysModules)=false/\∃xs:List (List Key×Addr×Value),
  Paired (fun (p:List Key×V)(q:List Key×Addr×Value)=>p.1=q.1/\H q.2.1=some (.tup (p.1.map kV))/\zBm p.2 q.2.2) kvs xs /\
  ∃o es ep,h.get? a=some o/\o.ExactDict/\o.data=.dict es ep/\es.toList=xs.map (entryOfKey (tupleKind (zA2 P w)))/\(xs.map (·.1)).Nodup
 | .set S n=>h.SetOf (intKind P w) a S n
 | .ins C dx fs=>H dx=some (.own a)/\fs.length<=1000/\dx≠a/\h.get? a=some (PySem.W.instObj C dx) /\
  ∃mA,h.Ns1 dx mA/\(∀f,zGv (fs.lookup f) (mA f))/\PySem.Within mA (fs.map (·.1))
 | .own _=>∃o,h.get? a=some o
 | .xd fs=>∃mA,h.Ns1 a mA/\∀f,zGv (fs.lookup f) (mA f)
 | .rng lo hi=>∃t u v,h.get? a=some { cls:=.type "range",data:=.fields #[.int lo t,.int hi u,.int 1 v] }
 | .frz o u=>h.get? a=some o/\zBc H h a u
 | .tbl ps=>h.get? a=some { cls:=.none,data:=.fields ps }
 | .met f x=>h.get? a=some (PySem.W.methodObj (.ref f) (.ref x))
 | .ext φ=>φ h/\(∃o,h.get? a=some o)/\∀h1 h2:Heap,φ h1->(∀o,h1.get? a=some o->h2.get? a=some o)->φ h2
noncomputable def HOk (H:Hp)(h:Heap):Prop:=∀a o,H a=some o->zBc P w H h a o
end
section
variable {P:Program}{w:World}{H H':Hp}{h h':Heap}{a:Addr}{o:HO}
theorem zBc.lt (x:zBc P w H h a o):a<h.objs.size:=by
 cases o with
 | lst xs=>obtain⟨_,_,_,_,e⟩:=x;exact zW e
 | tup xs=>obtain⟨_,_,_,p⟩:=x;exact p.lt
 | dK kvs=>obtain⟨_,_,_,_,o,_,_,e,_⟩:=x;exact zW e
 | dT kvs=>obtain⟨_,_,_,_,o,_,_,e,_⟩:=x;exact zW e
 | set S n=>obtain⟨o,_,_,_,e,_⟩:=x;exact zW e
 | ins C dx fs=>obtain⟨_,_,_,e,_⟩:=x;exact zW e
 | own y=>obtain⟨_,e⟩:=x;exact zW e
 | xd fs=>obtain⟨_,⟨_,_,_,e,_⟩,_⟩:=x;exact zW e
 | rng lo hi=>obtain⟨_,_,_,e⟩:=x;exact zW e
 | frz ob u=>obtain⟨e,_⟩:=x;exact zW e
 | tbl ps=>exact zW (show h.get? a=some _ from x)
 | met f y=>exact zW (show h.get? a=some _ from x)
 | ext φ=>obtain⟨_,⟨_,e⟩,_⟩:=x;exact zW e
theorem Paired.mapP {α β:Type}{F G:α->β->Prop}:∀{l₁:List α}{l₂:List β},Paired F l₁ l₂->(∀a b,F a b->G a b)->Paired G l₁ l₂
 | _,_,.nil,_=>.nil
 | _,_,.cons r t,f=>.cons (f _ _ r) (Paired.mapP t f)
theorem zBc.stay (x:zBc P w H h a o)(k:∀b u,(b=a\/H b=some (.own a))->h.get? b=some u->h'.get? b=some u)
 (ho:∀b,H b=some (.own a)->H' b=some (.own a))(ht:∀b xs,H b=some (.tup xs)->H' b=some (.tup xs)):zBc P w H' h' a o:=by
 induction o with
 | lst xs=>obtain⟨z,its,n,r,e⟩:=x;exact⟨z,its,n,r,k _ _ (.inl rfl) e⟩
 | tup xs=>obtain⟨⟨z,o2,e2,d2⟩,its,r,ob,e,c⟩:=x;exact⟨⟨z,o2,k _ _ (.inl rfl) e2,d2⟩,its,r,ob,k _ _ (.inl rfl) e,c⟩
 | dK kvs=>obtain⟨z,y,vs,r,ob,es,ep,e,c⟩:=x;exact⟨z,y,vs,r,ob,es,ep,k _ _ (.inl rfl) e,c⟩
 | dT kvs=>obtain⟨z,y,xs,r,ob,es,ep,e,c⟩:=x;exact⟨z,y,xs,Paired.mapP r fun p q z=>⟨z.1,ht _ _ z.2.1,z.2.2⟩,ob,es,ep,k _ _ (.inl rfl) e,c⟩
 | set S n=>obtain⟨ob,es,ep,t,e,c⟩:=x;exact⟨ob,es,ep,t,k _ _ (.inl rfl) e,c⟩
 | ins C dx fs=>obtain⟨d,z,ne,e,mA,⟨od,es,ep,e2,c⟩,r⟩:=x;exact⟨ho _ d,z,ne,k _ _ (.inl rfl) e,mA,⟨od,es,ep,k _ _ (.inr d) e2,c⟩,r⟩
 | own y=>obtain⟨ob,e⟩:=x;exact⟨ob,k _ _ (.inl rfl) e⟩
 | xd fs=>obtain⟨mA,⟨od,es,ep,e,c⟩,r⟩:=x;exact⟨mA,⟨od,es,ep,k _ _ (.inl rfl) e,c⟩,r⟩
 | rng lo hi=>obtain⟨t,u,v,e⟩:=x;exact⟨t,u,v,k _ _ (.inl rfl) e⟩
 | frz ob u ih=>obtain⟨e,q⟩:=x;exact⟨k _ _ (.inl rfl) e,ih q⟩
 | tbl ps=>have e:h.get? a=some { cls:=.none,data:=.fields ps }:=x;show h'.get? a=some { cls:=.none,data:=.fields ps };exact k a _ (.inl rfl) e
 | met f y=>have e:h.get? a=some (PySem.W.methodObj (.ref f) (.ref y)):=x;show h'.get? a=some (PySem.W.methodObj (.ref f) (.ref y));exact k a _ (.inl rfl) e
 | ext φ=>obtain⟨p,⟨o,e⟩,st⟩:=x;exact⟨st _ _ p fun o q=>k _ _ (.inl rfl) q,⟨o,k _ _ (.inl rfl) e⟩,st⟩
theorem HOk.lt (x:HOk P w H h)(e:H a=some o):a<h.objs.size:=(x a o e).lt
theorem HOk.fresh (x:HOk P w H h)(e:h.objs.size<=a):H a=none:=by
 cases q:H a with
 | none=>rfl
 | some u=>exact absurd (zq (x.lt q) e) (zBe _)
theorem HOk.kept (x:HOk P w H h)(k:∀b u,h.get? b=some u->h'.get? b=some u):HOk P w H h':=fun a o e=>
 (x a o e).stay (fun b u _ q=>k b u q) (fun _ q=>q) fun _ _ q=>q
theorem HOk.laid (x:HOk P w H h)(k:∀b u,h.get? b=some u->h'.get? b=some u)(hp:h.objs.size<=a)(new:zBc P w (upd H a o) h' a o):HOk P w (upd H a o) h':=fun b u e=>by
 have hn:=x.fresh hp;by_cases hb:b=a
 . subst hb;rw[zI] at e;cases e;exact new
 . rw[za hb] at e;exact (x b u e).stay (fun c v _ q=>k c v q) (fun c q=>by rw[za (zl q hn)];exact q) fun c xs q=>by rw[za (zl q hn)];exact q
end
noncomputable def Rd (H:Hp)(a:Addr)(u:HO):Prop:=H a=some u\/∃o,H a=some (.frz o u)
variable {w:World}{h:Heap}
theorem Rd.ok {P:Program}{u:HO}(r:Rd H a u)(x:HOk P w H h):zBc P w H h a u:=by
 rcases r with r | ⟨o,r⟩
 . exact x a u r
 . obtain⟨_,q⟩:=x a _ r;exact q
noncomputable def Mut:Option HO->Prop
 | some (.lst _)=>True
 | some (.dK _)=>True
 | some (.dT _)=>True
 | some (.set _ _)=>True
 | some (.ins _ _ _)=>True
 | some (.ext _)=>True
 | _=>False
section
variable {P:Program}{w:World}{H:Hp}{h h':Heap}{x e:Addr}{o':HO}
theorem HOk.write (ok:HOk P w H h)(mu:Mut (H x))(he:e=x\/H e=some (.own x))(k:∀b u,b≠e->h.get? b=some u->h'.get? b=some u)(heo:∃u,h'.get? e=some u)
 (new:zBc P w (upd H x o') h' x o'):HOk P w (upd H x o') h':=fun b u q=>by
 have nown:∀c y,H c=some (.own y)->c≠x:=fun c y r z=>by subst z;rw[r] at mu;exact mu
 have ntup:∀c xs,H c=some (.tup xs)->c≠x:=fun c xs r z=>by subst z;rw[r] at mu;exact mu
 by_cases hb:b=x
 . subst hb;rw[zI] at q;cases q;exact new
 . rw[za hb] at q;by_cases hbe:b=e
   . have q':H b=some (.own x):=by
      rcases he with z | z
      . exact absurd (hbe.trans z) hb
      . rw[hbe];exact z
     rw[q] at q';cases q';obtain⟨v,hv⟩:=heo;exact⟨v,by rw[hbe];exact hv⟩
   . refine (ok b u q).stay (fun c v hc r=>k c v ?_ r) (fun c r=>by rw[za (nown c b r)];exact r) fun c xs r=>by rw[za (ntup c xs r)];exact r
     rcases hc with rfl | hc
     . exact hbe
     . rintro rfl;rcases he with z | z
       . exact nown c b hc z
       . rw[hc] at z;cases z;exact hb rfl
end
structure Un (fs ex:List Addr)(H H':Hp)(h h':Heap):Prop where
 keep:∀b o,h.get? b=some o->H b=none->b∉fs->b∉ex->h'.get? b=some o
 slot:∀b o,h.get? b=some o->H b=none->b∈fs->b∉ex->∃sl,h'.get? b=some { o with slots:=sl }
 free:∀b o,h.get? b=some o->H b=none->b∉ex->H' b=none
 there:∀b o,h.get? b=some o->b∉ex->∃o',h'.get? b=some o'
 tups:∀b xs,H b=some (.tup xs)->H' b=some (.tup xs)
 frzs:∀b o u,H b=some (.frz o u)->H' b=some (.frz o u)
 tbls:∀b ps,H b=some (.tbl ps)->∃more,H' b=some (.tbl (ps++more))
section
variable {fs fs' ex ex':List Addr}{H H1 H2:Hp}{h h1 h2 h':Heap}{a x e:Addr}{o:HO}
theorem Un.any (u:Un fs ex H H1 h h1){ob:Obj}(q:h.get? b=some ob)(n:H b=none)(hx:b∉ex):∃sl,h1.get? b=some { ob with slots:=sl }:=by
 by_cases hb:b∈fs
 . exact u.slot b ob q n hb hx
 . exact⟨ob.slots,u.keep b ob q n hb hx⟩
theorem Un.trans (a:Un fs ex H H1 h h1)(b:Un fs ex H1 H2 h1 h2):Un fs ex H H2 h h2 where
 keep:=fun c ob q n hc hx=>b.keep c ob (a.keep c ob q n hc hx) (a.free c ob q n hx) hc hx
 slot:=fun c ob q n hc hx=>by obtain⟨sl,e1⟩:=a.slot c ob q n hc hx;obtain⟨sl',e2⟩:=b.slot c _ e1 (a.free c ob q n hx) hc hx;exact⟨sl',e2⟩
 free:=fun c ob q n hx=>by obtain⟨o',e1⟩:=a.there c ob q hx;exact b.free c o' e1 (a.free c ob q n hx) hx
 there:=fun c ob q hx=>by obtain⟨o',e1⟩:=a.there c ob q hx;exact b.there c o' e1 hx
 tups:=fun c xs q=>b.tups c xs (a.tups c xs q)
 frzs:=fun c ob xs q=>b.frzs c ob xs (a.frzs c ob xs q)
 tbls:=fun c ps q=>by obtain⟨m1,e1⟩:=a.tbls c ps q;obtain⟨m2,e2⟩:=b.tbls c _ e1;exact⟨m1++m2,by rw[e2,Array.append_assoc]⟩
theorem Un.kept (k:∀b u,h.get? b=some u->h'.get? b=some u):Un fs ex H H h h':=
 ⟨fun b ob q _ _ _=>k b ob q,fun b ob q _ _ _=>⟨ob.slots,k b ob q⟩,fun _ _ _ n _=>n,fun b ob q _=>⟨ob,k b ob q⟩,fun _ _ q=>q,fun _ _ _ q=>q,fun _ ps q=>⟨#[],by rw[q];simp⟩⟩
theorem Un.refl:Un fs ex H H h h:=Un.kept fun _ _ q=>q
theorem Un.laid (k:∀b u,h.get? b=some u->h'.get? b=some u)(hp:h.objs.size<=a)(hn:H a=none):Un fs ex H (upd H a o) h h' where
 keep:=fun b u q _ _ _=>k b u q
 slot:=fun b u q _ _ _=>⟨u.slots,k b u q⟩
 free:=fun b u q n _=>by rw[za (zb (zq (zW q) hp))];exact n
 there:=fun b u q _=>⟨u,k b u q⟩
 tups:=fun b xs q=>by rw[za (zl q hn)];exact q
 frzs:=fun b u xs q=>by rw[za (zl q hn)];exact q
 tbls:=fun b ps q=>⟨#[],by rw[za (zl q hn),q];simp⟩
theorem Un.write (mu:Mut (H x))(he:e=x\/H e=some (.own x))(k:∀b u,b≠e->h.get? b=some u->h'.get? b=some u)(heo:∃u,h'.get? e=some u):Un fs ex H (upd H x o) h h':=by
 have hx:∀b,H b=none->b≠x:=fun b n z=>by subst z;rw[n] at mu;exact mu
 have hb:∀b,H b=none->b≠e:=fun b n z=>by
  subst z;rcases he with r | r
  . exact hx b n r
  . rw[n] at r;cases r
 have hm:∀b u,H b=some u->¬ Mut (some u)->b≠x:=fun b u q nm z=>by subst z;rw[q] at mu;exact nm mu
 refine⟨fun b u q n _ _=>k b u (hb b n) q,fun b u q n _ _=>⟨u.slots,k b u (hb b n) q⟩,fun b u q n _=>by rw[za (hx b n)];exact n,fun b u q _=>?_,
  fun b xs q=>by rw[za (hm b _ q fun z=>z)];exact q,fun b u xs q=>by rw[za (hm b _ q fun z=>z)];exact q,fun b ps q=>⟨#[],by rw[za (hm b _ q fun z=>z),q];simp⟩⟩
 by_cases hbe:b=e
 . subst hbe;exact heo
 . exact⟨u,k b u hbe q⟩
end
noncomputable def trk (h:Heap)(H:Hp):List Addr:=(List.range h.objs.size).filter fun a=>(H a).isSome
noncomputable def zLY (h:Heap)(H:Hp):Heap:=PySem.W.hideAll h (trk h H)
theorem zKG (h:Heap)(H:Hp):(zLY h H).objs.size=h.objs.size:=PySem.W.hideAll_size _ _
variable {o:Obj}
theorem zLX (e:h.get? b=some o)(n:H b=none):(zLY h H).get? b=some o:=
 PySem.W.hideAll_get _ e fun hm=>by have q:(H b).isSome=true:=(zAQ.mp hm).2;rw[n] at q;simp at q
theorem zNo (e:(zLY h H).get? b=some o):h.get? b=some o/\H b=none:=by
 have e':h.get? b=some o:=PySem.W.of_hideAll (trk h H) e;refine⟨e',?_⟩;cases q:H b with
 | none=>rfl
 | some x=>have hm:b∈trk h H:=zAQ.mpr ⟨zCC.mpr (zW e'),by simp[q]⟩;have z:(zLY h H).get? b=none:=PySem.W.hideAll_none (trk h H) hm;rw[z] at e;cases e
structure Mod (K:PySem.W.Frag)(mg:sOV)(base:Heap):Prop where
 kin:K.In base
 glob:base.Ns mainGlobals mg
 blt:∃mb,base.Ns builtinsNs mb/\∀x:Str,x ≠ "__name__"->mb x=bootBuiltins x
 nolimit:base.NoLimit
structure Cx where
 prog:Program
 w:World
 K:PySem.W.Frag
 mg:Str->Option Value
 base:Heap
 A:Around
 N:List Str
 s₀:Shared
 H₀:Hp
 env:Env
 outer:List Env
 stack:List Env
 ex:List Addr
 fn:Str->Bool
 calm:Bool
 pn:List (Addr×Obj)
 xe:Value->Shared->Prop
noncomputable def frs (l:List Env):List Addr:=l.filterMap (·.frame)
noncomputable abbrev Cx.fs (X:Cx):List Addr:=frs X.outer
noncomputable def Vis (sc:Scope)(x:Str):Prop:=sc.names.lookup x=some .local\/sc.names.lookup x=some .cell\/sc.names.lookup x=some .free
noncomputable def Loc (sc:Scope)(x:Str):Prop:=sc.names.lookup x=some .local\/sc.names.lookup x=some .cell
noncomputable def Look (env:Env)(h:Heap)(m:sOV)(x:Str)(u:Value):Prop:=
 (env.kindOf x=some .local/\m x=some u)\/((env.kindOf x=some .cell\/env.kindOf x=some .free)/\∃c,env.cells.lookup x=some c/\h.IsCell c (some u))
structure Cx.Ok (X:Cx):Prop where
 mod:Mod X.K X.mg X.base
 kind:X.env.scope.kind=.function
 glob:X.env.globals=mainGlobals
 blt:X.env.builtins=builtinsNs
 above:X.s₀.heap.objs.size<=X.env.locals
 inj:∀x y c,X.env.cells.lookup x=some c->X.env.cells.lookup y=some c->x=y
 has:∀x,(X.env.kindOf x=some .cell\/X.env.kindOf x=some .free)->∃c,X.env.cells.lookup x=some c
 cab:∀x c,X.fn x=true->X.env.cells.lookup x=some c->X.s₀.heap.objs.size<=c
 hd:X.calm=true->X.A.handled=none
 frames:X.A.frames=some X.stack
 stk:X.stack=X.outer\/(X.stack=X.env::X.outer/\X.env.frame=some X.env.locals)
 exf:∀b∈X.ex,b≠X.env.locals/\∀x c,X.env.cells.lookup x=some c->c≠b
 bs:∀b o,X.base.get? b=some o->X.s₀.heap.get? b=some o/\X.H₀ b=none
 bsz:X.base.objs.size<=X.s₀.heap.objs.size
 noex:∀b o,X.base.get? b=some o->b∉X.ex
 exfs:∀b∈X.ex,b∉X.fs
 funs:X.s₀.heap.FunFrames X.base X.outer
 frf:∀b∈X.fs,X.H₀ b=none
structure Inv (X:Cx)(pins:lPO)(σ:List (Option V))(H:Hp)(s:Shared):Prop where
 ok:X.Ok
 os:s.os=X.s₀.os
 bare:AllBare s.gens
 base:Un X.fs X.ex X.H₀ H X.s₀.heap s.heap
 loc:∃m,s.heap.Ns X.env.locals m/\∀(i:Nat)(x:Str)(v:V),X.N[i]?=some x->σ[i]?=some (some v)->Vis X.env.scope x->∃u,zBm v u/\Look X.env s.heap m x u
 cell:∀x c,X.env.cells.lookup x=some c->∃v,s.heap.IsCell c v
 free:H X.env.locals=none
 freeC:∀x c,X.env.cells.lookup x=some c->H c=none
 pin:∀p∈X.pn++pins,s.heap.get? p.1=some p.2/\H p.1=none/\p.1≠X.env.locals/\p.1∉X.fs/\∀v,p.2.data ≠ .cell v
 hok:HOk X.prog X.w H s.heap
 len:σ.length=X.N.length
variable {u:Value}{t' i:Nat}{N:List Str}{x:Str}{M:Model}{A:Around}{v:V}{Q:Unit->Shared->Prop}
section
variable {X:Cx}{pins:lPO}{σ:List (Option V)}{H H':Hp}{s:Shared}{h':Heap}
theorem Cx.Ok.nofr (ok:X.Ok)(e:X.base.get? b=some o):b∉X.fs:=fun hb=>by have:=(ok.funs.mem hb).1;rw[e] at this;cases this
theorem Inv.bs (I:Inv X pins σ H s):∀b o,X.base.get? b=some o->s.heap.get? b=some o/\H b=none:=fun b o e=>
 ⟨I.base.keep b o (I.ok.bs b o e).1 (I.ok.bs b o e).2 (I.ok.nofr e) (I.ok.noex b o e),I.base.free b o (I.ok.bs b o e).1 (I.ok.bs b o e).2 (I.ok.noex b o e)⟩
theorem Inv.bk (I:Inv X pins σ H s):∀b o,X.base.get? b=some o->s.heap.get? b=some o:=fun b o e=>(I.bs b o e).1
theorem Inv.mod (I:Inv X pins σ H s):Mod X.K X.mg X.base:=I.ok.mod
theorem Inv.kIn (I:Inv X pins σ H s):X.K.In s.heap:=I.ok.mod.kin.keeps I.bk
theorem Inv.lt (I:Inv X pins σ H s):X.env.locals<s.heap.objs.size:=let ⟨_,hn,_⟩:=I.loc;hn.lt
theorem Inv.sz (I:Inv X pins σ H s):X.s₀.heap.objs.size<=s.heap.objs.size:=zAM I.ok.above (zA9 I.lt)
theorem Inv.nofs (I:Inv X pins σ H s)(h:s.heap.objs.size<=a):a∉X.fs:=fun hb=>by obtain⟨_,o,ho,_⟩:=I.ok.funs.mem hb;exact absurd (zq (zW ho) (zAM I.sz h)) (zBe _)
theorem Inv.cne (I:Inv X pins σ H s):∀x c,X.env.cells.lookup x=some c->c≠X.env.locals:=fun x c e z=>by obtain⟨v,o,ho,hd⟩:=I.cell x c e;obtain⟨m,⟨o',es,ep,ho',hd',_⟩,_⟩:=I.loc;rw[z,ho'] at ho;cases ho;rw[hd'] at hd;cases hd
theorem Inv.funs (I:Inv X pins σ H s):s.heap.FunFrames X.base X.outer:=by
 have all:∀(l:List Env),(∀b∈frs l,b∈X.fs)->X.s₀.heap.FunFrames X.base l->s.heap.FunFrames X.base l:=by
  intro l
  induction l with
  | nil=>intro _ _;trivial
  | cons env r ih=>intro hs hl;obtain⟨hk,⟨L,o,hf,hn,ho,hd⟩,hr⟩:=hl;have hL:L∈X.fs:=hs L (by unfold frs;rw[List.filterMap_cons,hf];exact zZ);obtain⟨sl,e⟩:=I.base.slot L o ho (I.ok.frf L hL) hL fun z=>I.ok.exfs L z hL;exact⟨hk,⟨L,_,hf,hn,e,hd⟩,ih (fun b hb=>hs b (by unfold frs;rw[List.filterMap_cons,hf];exact zg _ hb)) hr⟩
 exact all X.outer (fun _ hb=>hb) I.ok.funs
theorem Inv.stack (I:Inv X pins σ H s):s.heap.FunFrames X.base X.stack:=by
 rcases I.ok.stk with e | ⟨e,hf⟩
 . rw[e];exact I.funs
 . rw[e];obtain⟨m,hn,_⟩:=I.loc;refine .cons (by rw[I.ok.kind];decide) hf hn ?_ I.funs;exact Heap.get?_none_of_le (zAM I.ok.bsz I.ok.above)
theorem Inv.stkSub (I:Inv X pins σ H s):∀b∈frs X.stack,b∈X.env.locals::X.fs:=fun b hb=>by
 rcases I.ok.stk with e | ⟨e,hf⟩
 . rw[e] at hb;exact zg _ hb
 . rw[e] at hb;unfold frs at hb;rw[List.filterMap_cons,hf] at hb;exact hb
theorem Inv.stkFree (I:Inv X pins σ H s):∀b∈frs X.stack,H b=none:=fun b hb=>by
 rcases ze.mp (I.stkSub b hb) with e | hb
 . rw[e];exact I.free
 . obtain⟨_,o,ho,_⟩:=I.ok.funs.mem hb;exact I.base.free b o ho (I.ok.frf b hb) fun z=>I.ok.exfs b z hb
theorem Inv.step {g':Array GenState}{t':Nat}{d':Drawn}{ch:List Addr}(I:Inv X pins σ H s)
 (hch:∀b∈ch,(b∈X.ex\/X.s₀.heap.objs.size<=b)/\b≠X.env.locals/\(∀x c,X.env.cells.lookup x=some c->c≠b)/\∀p∈X.pn++pins,p.1≠b)
 (keep:∀b o,b≠X.env.locals->b∉X.fs->b∉ch->s.heap.get? b=some o->H b=none->h'.get? b=some o)
 (slot:∀b o,b≠X.env.locals->b∈X.fs->b∉ch->s.heap.get? b=some o->H b=none->∃sl,h'.get? b=some { o with slots:=sl })(free:∀b o,b∉ch->s.heap.get? b=some o->H b=none->H' b=none)
 (there:∀b o,b∉ch->s.heap.get? b=some o->∃o',h'.get? b=some o')
 (tups:∀b xs,H b=some (.tup xs)->H' b=some (.tup xs))(frzs:∀b o u,H b=some (.frz o u)->H' b=some (.frz o u))(tbls:∀b ps,H b=some (.tbl ps)->∃more,H' b=some (.tbl (ps++more)))
 (ns:∀m,s.heap.Ns X.env.locals m->h'.Ns X.env.locals m)(hok:HOk X.prog X.w H' h')(hg:AllBare g'):
 Inv X pins σ H' { s with heap:=h',gens:=g',drawn:=d',toks:=t' }:=by
 have neL:∀b o,X.s₀.heap.get? b=some o->b≠X.env.locals:=fun b o e=>zb (zq (zW e) I.ok.above);have neC:∀b o,X.s₀.heap.get? b=some o->b∉X.ex->b∉ch:=fun b o e hx hb=>by
  rcases (hch b hb).1 with z | z
  . exact hx z
  . exact absurd (zq (zW e) z) (zBe _)
 have cellK:∀x c,X.env.cells.lookup x=some c->∀v,s.heap.IsCell c v->h'.IsCell c v:=fun x c e v ⟨o,ho,hd⟩=>by
  have nch:c∉ch:=fun z=>(hch c z).2.2.1 x c e rfl;by_cases hc:c∈X.fs
  . obtain⟨sl,q⟩:=slot c o (I.cne x c e) hc nch ho (I.freeC x c e);exact⟨_,q,hd⟩
  . exact⟨o,keep c o (I.cne x c e) hc nch ho (I.freeC x c e),hd⟩
 refine⟨I.ok,I.os,hg,⟨fun b o e n hb hx=>?_,fun b o e n hb hx=>?_,fun b o e n hx=>?_,fun b o e hx=>?_,fun b xs e=>tups b xs (I.base.tups b xs e),fun b o xs e=>frzs b o xs (I.base.frzs b o xs e),fun b ps e=>?_⟩,?_,fun x c e=>?_,?_,fun x c e=>?_,fun p hp=>?_,hok,I.len⟩
 . exact keep b o (neL b o e) hb (neC b o e hx) (I.base.keep b o e n hb hx) (I.base.free b o e n hx)
 . obtain⟨sl,e1⟩:=I.base.slot b o e n hb hx;obtain⟨sl',e2⟩:=slot b _ (neL b o e) hb (neC b o e hx) e1 (I.base.free b o e n hx);exact⟨sl',e2⟩
 . obtain⟨o',e1⟩:=I.base.there b o e hx;exact free b o' (neC b o e hx) e1 (I.base.free b o e n hx)
 . obtain⟨o',e1⟩:=I.base.there b o e hx;exact there b o' (neC b o e hx) e1
 . obtain⟨m1,e1⟩:=I.base.tbls b ps e;obtain⟨m2,e2⟩:=tbls b _ e1;exact⟨m1++m2,by rw[e2,Array.append_assoc]⟩
 . obtain⟨m,hn,hl⟩:=I.loc;refine⟨m,ns m hn,fun i x v e1 e2 e3=>?_⟩;obtain⟨u,r,l⟩:=hl i x v e1 e2 e3;refine⟨u,r,?_⟩;rcases l with l | ⟨k,c,e,z⟩
   . exact .inl l
   . exact .inr ⟨k,c,e,cellK x c e _ z⟩
 . obtain⟨v,z⟩:=I.cell x c e;exact⟨v,cellK x c e v z⟩
 . obtain⟨m,⟨o,_,_,ho,_⟩,_⟩:=I.loc;exact free _ o (fun z=>(hch _ z).2.1 rfl) ho I.free
 . obtain⟨v,o,ho,hd⟩:=I.cell x c e;exact free c o (fun z=>(hch c z).2.2.1 x c e rfl) ho (I.freeC x c e)
 . obtain⟨e,n,ne,nf,d⟩:=I.pin p hp;have nch:p.1∉ch:=fun z=>(hch p.1 z).2.2.2 p hp rfl;exact⟨keep p.1 p.2 ne nf nch e n,free p.1 p.2 nch e n,ne,nf,d⟩
theorem Inv.un (I:Inv X pins σ H s)(u:Un X.fs [] H H' s.heap h')(hok:HOk X.prog X.w H' h'):Inv X pins σ H' { s with heap:=h',toks:=t' }:=by
 obtain⟨m,⟨o,es,ep,ho,r⟩,_⟩:=id I.loc;obtain⟨sl,hL⟩:=u.any ho I.free (by simp);exact I.step (g':=s.gens) (d':=s.drawn) (ch:=[]) (fun _ z=>nomatch z) (fun b o _ hb _ e n=>u.keep b o e n hb (by simp)) (fun b o _ hb _ e n=>u.slot b o e n hb (by simp)) (fun b o _ e n=>u.free b o e n (by simp)) (fun b o _ e=>u.there b o e (by simp)) u.tups u.frzs u.tbls (fun m' hm=>by obtain⟨o',es',ep',ho',r'⟩:=hm;rw[ho] at ho';cases ho';exact⟨_,es',ep',hL,r'⟩) hok I.bare
theorem Inv.call {g':Array GenState}{d':Drawn}{ch:List Addr}(I:Inv X pins σ H s)(u:Un (frs X.stack) ch H H' s.heap h')(hok:HOk X.prog X.w H' h')(hg:AllBare g')
 (hch:∀b∈ch,(b∈X.ex\/X.s₀.heap.objs.size<=b)/\b≠X.env.locals/\(∀x c,X.env.cells.lookup x=some c->c≠b)/\∀p∈X.pn++pins,p.1≠b):
 Inv X pins σ H' { s with heap:=h',gens:=g',drawn:=d',toks:=t' }:=by
 obtain⟨m,⟨o,es,ep,ho,r⟩,_⟩:=id I.loc;obtain⟨sl,hL⟩:=u.any ho I.free fun z=>(hch _ z).2.1 rfl;exact I.step (ch:=ch) hch (fun b o hL hb hc e n=>u.keep b o e n (fun z=>(ze.mp (I.stkSub b z)).elim hL hb) hc) (fun b o _ _ hc e n=>u.any e n hc) (fun b o hc e n=>u.free b o e n hc) (fun b o hc e=>u.there b o e hc) u.tups u.frzs u.tbls (fun m' hm=>by obtain⟨o',es',ep',ho',r'⟩:=hm;rw[ho] at ho';cases ho';exact⟨_,es',ep',hL,r'⟩) hok hg
theorem Inv.turned {it:Addr}(I:Inv X pins σ H s)(k:∀b o,b≠it->s.heap.get? b=some o->h'.get? b=some o)(hn:H it=none)(hL:it≠X.env.locals)
 (h1:it∈X.ex\/X.s₀.heap.objs.size<=it)(h2:∀x c,X.env.cells.lookup x=some c->c≠it)(h3:∀p∈X.pn++pins,p.1≠it):Inv X pins σ H { s with heap:=h',toks:=t' }:=by
 have nit:∀b u,H b=some u->b≠it:=fun b u e z=>by rw[z,hn] at e;cases e
 refine I.step (g':=s.gens) (d':=s.drawn) (ch:=[it]) (fun b hb=>?_) (fun b o _ _ hc e _=>k b o (fun z=>hc (by simp[z])) e) (fun b o _ _ hc e _=>⟨o.slots,k b o (fun z=>hc (by simp[z])) e⟩) (fun _ _ _ _ n=>n)
  (fun b o hc e=>⟨o,k b o (fun z=>hc (by simp[z])) e⟩) (fun _ _ e=>e) (fun _ _ _ e=>e) (fun b ps e=>⟨#[],by rw[e];simp⟩) (fun m hm=>?_) (fun b u e=>?_) I.bare
 . have e:b=it:=by simpa using hb
   subst e;exact⟨h1,hL,h2,h3⟩
 . obtain⟨o,es,ep,ho,r⟩:=hm;exact⟨o,es,ep,k _ o (Ne.symm hL) ho,r⟩
 . refine (I.hok b u e).stay (fun c v hc q=>k c v ?_ q) (fun _ q=>q) fun _ _ q=>q;rcases hc with z | z
   . rw[z];exact nit b u e
   . exact nit c _ z
theorem Inv.tok (I:Inv X pins σ H s)(t:Nat):Inv X pins σ H { s with toks:=t }:=I.un (h':=s.heap) (t':=t) Un.refl I.hok
theorem Inv.kept (I:Inv X pins σ H s)(k:∀b u,s.heap.get? b=some u->h'.get? b=some u):Inv X pins σ H { s with heap:=h',toks:=t' }:=I.un (Un.kept k) (I.hok.kept k)
theorem Inv.laid {a:Addr}{o:HO}{t':Nat}(I:Inv X pins σ H s)(k:∀b u,s.heap.get? b=some u->h'.get? b=some u)(hp:s.heap.objs.size<=a)(new:zBc X.prog X.w (upd H a o) h' a o):
 Inv X pins σ (upd H a o) { s with heap:=h',toks:=t' }:=I.un (Un.laid k hp (I.hok.fresh hp)) (I.hok.laid k hp new)
theorem Inv.write {x e:Addr}{o:HO}{t':Nat}(I:Inv X pins σ H s)(mu:Mut (H x))(he:e=x\/H e=some (.own x))(k:∀b u,b≠e->s.heap.get? b=some u->h'.get? b=some u)(heo:∃u,h'.get? e=some u)
 (new:zBc X.prog X.w (upd H x o) h' x o):Inv X pins σ (upd H x o) { s with heap:=h',toks:=t' }:=I.un (Un.write mu he k heo) (I.hok.write mu he k heo new)
theorem Inv.weak {σ':List (Option V)}(I:Inv X pins σ H s)(hl:σ'.length=σ.length)(w:∀(i:Nat) v,σ'[i]?=some (some v)->σ[i]?=some (some v)):Inv X pins σ' H s:=
 ⟨I.ok,I.os,I.bare,I.base,let ⟨m,hn,hl'⟩:=I.loc;⟨m,hn,fun i x v e1 e2 e3=>hl' i x v e1 (w i v e2) e3⟩,I.cell,I.free,I.freeC,I.pin,I.hok,hl.trans I.len⟩
theorem Inv.pins_of {pins':lPO}(I:Inv X pins σ H s)(h:∀p∈pins',s.heap.get? p.1=some p.2/\H p.1=none/\p.1≠X.env.locals/\p.1∉X.fs/\∀v,p.2.data ≠ .cell v):Inv X pins' σ H s:=
 ⟨I.ok,I.os,I.bare,I.base,I.loc,I.cell,I.free,I.freeC,fun p hp=>(zm.mp hp).elim (fun z=>I.pin p (zw _ z)) (h p),I.hok,I.len⟩
theorem zHa (hN:N.Nodup){j:Nat}(a:N[i]?=some x)(b:N[j]?=some x):i=j:=by obtain⟨h1,e1⟩:=zF.mp a;obtain⟨h2,e2⟩:=zF.mp b;exact (zB5 hN).mp (e1.trans e2.symm)
theorem zIk {E:vSP}(I:Inv X pins σ H s)(hN:X.N.Nodup)(hi:X.N[i]?=some x)(hx:Loc X.env.scope x)(r:zBm v u)
 (h:∀s',Inv X pins (σ.set i (some v)) H s'->(∃a,Heap.SameBut a s.heap s'.heap/\(a=X.env.locals\/X.env.cells.lookup x=some a))->Q () s')(hf:X.fn x=true\/X.env.scope.names.lookup x=some .local:=by first | exact .inl rfl | exact .inr rfl | assumption):wpAny M A (storeName X.env x u) Q E s:=by
 obtain⟨m,hn,hl⟩:=id I.loc;have hcls:(X.env.scope.kind == .class || (X.env.scope.kind == .module && X.env.locals != X.env.globals))=false:=by rw[I.ok.kind];rfl
 have hiσ:i<σ.length:=by rw[I.len];exact (zF.mp hi).1
 have cne:=I.cne;have tracked:∀{a:Addr}{h':Heap},(∃o,s.heap.get? a=some o/\H a=none)->Heap.SameBut a s.heap h'->HOk X.prog X.w H h':=fun {a h'} ha hs b ob e=>by
  obtain⟨_,_,hfree⟩:=ha;refine (I.hok b ob e).stay (fun c w' hc q=>(hs.2 c ?_).trans q) (fun _ q=>q) fun _ _ q=>q;rintro rfl;rcases hc with rfl | hc
  . rw[hfree] at e;cases e
  . rw[hfree] at hc;cases hc
 rcases hx with hk | hk
 . refine wpAny_storeName_local hk hn (fun h' hn' hs=>?_) hcls;obtain⟨oL,_,_,hoL,_⟩:=id hn;refine h _ ⟨I.ok,I.os,I.bare,⟨fun b o e n hb hx=>?_,fun b o e n hb hx=>?_,I.base.free,fun b o e hx=>?_,I.base.tups,I.base.frzs,I.base.tbls⟩,⟨_,hn',fun j y v' e1 e2 e3=>?_⟩,fun y c e=>?_,I.free,I.freeC,fun p hp=>?_,tracked ⟨oL,hoL,I.free⟩ hs,by simpa using I.len⟩ ⟨_,hs,.inl rfl⟩
   . exact (hs.2 b (zb (zq (zW e) I.ok.above))).trans (I.base.keep b o e n hb hx)
   . obtain⟨sl,e1⟩:=I.base.slot b o e n hb hx;exact⟨sl,(hs.2 b (zb (zq (zW e) I.ok.above))).trans e1⟩
   . obtain⟨o',e1⟩:=I.base.there b o e hx;exact⟨o',(hs.2 b (zb (zq (zW e) I.ok.above))).trans e1⟩
   . by_cases hj:j=i
     . subst hj;rw[hi] at e1;cases e1;rw[List.getElem?_set_self hiσ] at e2;cases e2;exact⟨u,r,.inl ⟨hk,by simp⟩⟩
     . rw[List.getElem?_set_ne (Ne.symm hj)] at e2;obtain⟨u',r',q⟩:=hl j y v' e1 e2 e3;refine⟨u',r',?_⟩;rcases q with ⟨k,e⟩ | ⟨k,c,e,z⟩
       . refine .inl ⟨k,?_⟩;have:y≠x:=fun e=>hj (zHa hN e1 (e ▸ hi));simp[this,e]
       . exact .inr ⟨k,c,e,z.sameBut hs (cne y c e)⟩
   . obtain⟨w',z⟩:=I.cell y c e;exact⟨w',z.sameBut hs (cne y c e)⟩
   . obtain⟨e,n,ne,nf,d⟩:=I.pin p hp;exact⟨(hs.2 p.1 ne).trans e,n,ne,nf,d⟩
 . have hfn:X.fn x=true:=by
    rcases hf with z | z
    . exact z
    . rw[z] at hk;cases hk
   obtain⟨c,hc⟩:=I.ok.has x (.inl hk);obtain⟨w',z⟩:=I.cell x c hc;refine wpAny_storeName_cell I.ok.kind hk hc z (fun h' hc' hs=>?_);obtain⟨oc,hoc,hocd⟩:=id z;refine h { s with heap:=h' } ⟨I.ok,I.os,I.bare,⟨fun b o e n hb hx=>?_,fun b o e n hb hx=>?_,I.base.free,fun b o e hx=>?_,I.base.tups,I.base.frzs,I.base.tbls⟩,⟨m,hn.sameBut hs (Ne.symm (cne x c hc)),fun j y v' e1 e2 e3=>?_⟩,fun y c' e=>?_,I.free,I.freeC,fun p hp=>?_,tracked ⟨oc,hoc,I.freeC x c hc⟩ hs,by simpa using I.len⟩ ⟨c,hs,.inr hc⟩
   . exact (hs.2 b (zb (zq (zW e) (I.ok.cab x c hfn hc)))).trans (I.base.keep b o e n hb hx)
   . obtain⟨sl,e1⟩:=I.base.slot b o e n hb hx;exact⟨sl,(hs.2 b (zb (zq (zW e) (I.ok.cab x c hfn hc)))).trans e1⟩
   . obtain⟨o',e1⟩:=I.base.there b o e hx;exact⟨o',(hs.2 b (zb (zq (zW e) (I.ok.cab x c hfn hc)))).trans e1⟩
   . by_cases hj:j=i
     . subst hj;rw[hi] at e1;cases e1;rw[List.getElem?_set_self hiσ] at e2;cases e2;exact⟨u,r,.inr ⟨.inl hk,c,hc,hc'⟩⟩
     . rw[List.getElem?_set_ne (Ne.symm hj)] at e2;obtain⟨u',r',q⟩:=hl j y v' e1 e2 e3;refine⟨u',r',?_⟩;rcases q with q | ⟨k,c',e,z'⟩
       . exact .inl q
       . refine .inr ⟨k,c',e,z'.sameBut hs ?_⟩;rintro rfl;exact hj (zHa hN e1 (I.ok.inj _ _ _ e hc ▸ hi))
   . by_cases hcc:c'=c
     . subst hcc;exact⟨_,hc'⟩
     . obtain⟨w2,z2⟩:=I.cell y c' e;exact⟨w2,z2.sameBut hs hcc⟩
   . obtain⟨e,n,ne,nf,d⟩:=I.pin p hp;refine⟨(hs.2 p.1 ?_).trans e,n,ne,nf,d⟩;intro q;rw[q,hoc] at e;have q':oc=p.2:=zT e;exact d w' (by rw[<-q'];exact hocd)
theorem zDG {E:vSP}(I:Inv X pins σ H s)(hN:X.N.Nodup)(hi:X.N[i]?=some x)(hx:Loc X.env.scope x)(r:zBm v u)
 (h:∀s',Inv X pins (σ.set i (some v)) H s'->Q () s')(hf:X.fn x=true\/X.env.scope.names.lookup x=some .local:=by first | exact .inl rfl | exact .inr rfl | assumption):wpAny M A (storeName X.env x u) Q E s:=
 zIk I hN hi hx r (fun s' I' _=>h s' I') hf
theorem Inv.call' {s':Shared}{ch:List Addr}(I:Inv X pins σ H s)(ho:s'.os=s.os)(u:Un (frs X.stack) ch H H' s.heap s'.heap)(hok:HOk X.prog X.w H' s'.heap)(hg:AllBare s'.gens)
 (hch:∀b∈ch,(b∈X.ex\/X.s₀.heap.objs.size<=b)/\b≠X.env.locals/\(∀x c,X.env.cells.lookup x=some c->c≠b)/\∀p∈X.pn++pins,p.1≠b):Inv X pins σ H' s':=by
 obtain⟨h',g',d',t',o'⟩:=s';have e:o'=s.os:=ho;subst e;exact I.call (g':=g') (t':=t') (d':=d') u hok hg hch
end
noncomputable abbrev XK:=Value->Option Addr->Hp->Prop
noncomputable abbrev St:=List (Option V)
noncomputable abbrev VK:=V->Hp->Prop
noncomputable abbrev TE:=St->Hp->VK->Prop
noncomputable abbrev TT:=St->Hp->(Bool->Hp->Prop)->Prop
noncomputable abbrev TA:=St->Hp->(List V->Hp->Prop)->Prop
structure zGZ where
 nx:St->Hp->Prop
 rt:VK
 bk:St->Hp->Prop:=fun _ _=>False
 ct:St->Hp->Prop:=fun _ _=>False
noncomputable abbrev TS:=zGZ->St->Hp->Prop
noncomputable def EP (X:Cx)(pins:lPO)(σ:St)(Q:VK)(u:Value)(s':Shared):Prop:=∃v H',Inv X pins σ H' s'/\zBm v u/\Q v H'
noncomputable def TP (X:Cx)(pins:lPO)(σ:St)(Q:Bool->Hp->Prop)(b:Bool)(s':Shared):Prop:=∃H',Inv X pins σ H' s'/\Q b H'
noncomputable def AP (X:Cx)(pins:lPO)(σ:St)(Q:List V->Hp->Prop)(us:List Value)(s':Shared):Prop:=∃vs H',Inv X pins σ H' s'/\zBS vs us/\Q vs H'
noncomputable def SP (X:Cx)(pins:lPO)(D:zGZ)(f:Flow)(s':Shared):Prop:=
 match f with
 | .next=>∃ σ' H',Inv X pins σ' H' s'/\D.nx σ' H'
 | .brk=>∃ σ' H',Inv X pins σ' H' s'/\D.bk σ' H'
 | .cont=>∃ σ' H',Inv X pins σ' H' s'/\D.ct σ' H'
 | .ret u=>∃v σ' H',Inv X pins σ' H' s'/\zBm v u/\D.rt v H'
noncomputable def PE (X:Cx)(e:Expr)(t:TE):Prop:=
 ∀(pins:lPO)(s:Shared)(σ:St)(H:Hp)(Q:VK),Inv X pins σ H s->t σ H Q->wpAny (model X.prog X.w) X.A (eval e X.env) (EP X pins σ Q) X.xe s
noncomputable def PT (X:Cx)(e:Expr)(t:TT):Prop:=
 ∀(pins:lPO)(s:Shared)(σ:St)(H:Hp)(Q:Bool->Hp->Prop),Inv X pins σ H s->t σ H Q->wpAny (model X.prog X.w) X.A (isTrue e X.env (eval e X.env)) (TP X pins σ Q) X.xe s
noncomputable def PW (X:Cx)(e:Expr)(t:TT):Prop:=
 ∀(whole:Sem Value)(pins:lPO)(s:Shared)(σ:St)(H:Hp)(Q:Bool->Hp->Prop),Inv X pins σ H s->t σ H Q->wpAny (model X.prog X.w) X.A (isTrue e X.env whole) (TP X pins σ Q) X.xe s
variable {X:Cx}{e:Expr}
theorem PW.pt {t:TT}(h:PW X e t):PT X e t:=h _
noncomputable def PA (X:Cx)(es:List Expr)(t:TA):Prop:=
 ∀(pos:Pos)(pins:lPO)(s:Shared)(σ:St)(H:Hp)(Q:List V->Hp->Prop),Inv X pins σ H s->t σ H Q->wpAny (model X.prog X.w) X.A (spliced (backTo pos (starEach es X.env))) (AP X pins σ Q) X.xe s
noncomputable def PS (X:Cx)(st:Stmt)(t:TS):Prop:=
 ∀(pins:lPO)(s:Shared)(σ:St)(H:Hp)(D:zGZ),Inv X pins σ H s->t D σ H->wpAny (model X.prog X.w) X.A (exec st X.env) (SP X pins D) X.xe s
noncomputable def PSs (X:Cx)(st:List Stmt)(t:TS):Prop:=
 ∀(pins:lPO)(s:Shared)(σ:St)(H:Hp)(D:zGZ),Inv X pins σ H s->t D σ H->wpAny (model X.prog X.w) X.A (execs st X.env) (SP X pins D) X.xe s
variable {s:Shared}
theorem thn {α:Type}{t:Sem α}{Q Q':α->Shared->Prop}{E:vSP}(h:wpAny M A t Q E s)(hQ:∀a s,Q a s->Q' a s):wpAny M A t Q' E s:=zAO h hQ fun _ _ x=>x
variable {pos:Pos}{σ:St}{op:CmpOp}{c:Expr}
section
variable {X:Cx}
inductive zLu (i:Nat)(σ:St)(H:Hp)(Q:VK):Prop
 | mk:∀v,(σ[i]?=some (some v))->(Q v H)->zLu i σ H Q
noncomputable def zKr (i:Nat):TE:=fun σ H Q=>zLu i σ H Q
noncomputable def tC (v:V):TE:=fun _ H Q=>Q v H
theorem pe_var (hN:X.N[i]?=some x)(hv:Vis X.env.scope x)(hd:(x==("__debug__" : Str))=false:=by decide) (hcd:(x==("__classdict__" : Str))=false:=by decide):PE X (.Name x pos) (zKr i):=by
 intro pins s σ H Q I h;obtain⟨v,e,h⟩:=h;obtain⟨m,hn,hl⟩:=I.loc;obtain⟨u,r,l⟩:=hl i x v hN e hv;have fin:EP X pins σ Q u s:=⟨v,H,I,r,h⟩;rcases l with ⟨hk,hm⟩ | ⟨hk,c,hc,hcell⟩
 . exact wpAny_Name (wpAny_loadName_local I.ok.kind hk hn hm fin) hd
 . rcases hk with hk | hk
   . exact wpAny_Name (wpAny_loadName_cell I.ok.kind hk hc hcell fin) hd
   . exact wpAny_Name (wpAny_loadName_free I.ok.kind hk hc hcell fin hcd) hd
theorem zf {i j pos}:PE X (.Constant (.int i) j pos) (tC (.int i)):=fun _ _ _ H _ I h=>wpAny_Constant_int ⟨.int i,H,I.tok _,⟨_,rfl⟩,h⟩
theorem zD8 {b j pos}:PE X (.Constant (.bool b) j pos) (tC (.bl b)):=fun _ _ _ H _ I h=>Constant_bool ⟨.bl b,H,I,rfl,h⟩
theorem zA0 {j pos}:PE X (.Constant .none j pos) (tC .non):=fun _ _ _ H _ I h=>Constant_none ⟨.non,H,I,rfl,h⟩
theorem zEp {x j pos}:PE X (.Constant (.str x) j pos) (tC (.str x)):=fun _ _ _ H _ I h=>Calls.Constant_str ⟨.str x,H,I.tok _,⟨_,rfl⟩,h⟩
noncomputable def Gl (X:Cx)(x:Str):Prop:=X.env.kindOf x=some .globalImplicit
theorem zFB {E:vSP}{pins:lPO}{Q:vSP}(I:Inv X pins σ H s)(hg:Gl X x)(hm:X.mg x=some u)(h:Q u s)
 (hd:(x==("__debug__" : Str))=false:=by decide):wpAny (model X.prog X.w) X.A (eval (.Name x pos) X.env) Q E s:=
 Calls.Name_function_global I.ok.kind hg (Calls.loadGlobal_global (by rw[I.ok.glob];exact I.mod.glob.keeps I.bk) hm h) hd
theorem zC7 {E:vSP}{pins:lPO}{Q:vSP}(I:Inv X pins σ H s)(hg:Gl X x)(hm:X.mg x=none)(hv:bootBuiltins x=some u)(h:Q u s)
 (hn:x ≠ "__name__" := by decide) (hd:(x==("__debug__" : Str))=false:=by decide):wpAny (model X.prog X.w) X.A (eval (.Name x pos) X.env) Q E s:=by
 obtain⟨mb,h1,h2⟩:=I.mod.blt;exact Calls.Name_function_global I.ok.kind hg (Calls.loadGlobal_builtin (by rw[I.ok.glob];exact I.mod.glob.keeps I.bk) hm (by rw[I.ok.blt];exact h1.keeps I.bk) ((h2 x hn).trans hv) h) hd
variable {a b:Expr}{ta tb:TE}{pos:Pos}
noncomputable def PC (X:Cx)(op:CmpOp)(a b:Expr)(t:TE):Prop:=
 ∀(pins:lPO)(s:Shared)(σ:St)(H:Hp)(Q:VK),Inv X pins σ H s->t σ H Q ->
  wpAny (model X.prog X.w) X.A (eval a X.env) (fun v s₁=>wpAny (model X.prog X.w) X.A (eval b X.env) (fun u s₂=>wpAny (model X.prog X.w) X.A (compareOp op v u) (EP X pins σ Q) X.xe s₂) X.xe s₁) X.xe s
inductive tB_r (Q:Bool->Hp->Prop)(x:V)(H1:Hp):Prop
 | mk:∀c,(x=.bl c)->(Q c H1)->tB_r Q x H1
noncomputable def tB (t:TE):TT:=fun σ H Q=>t σ H fun x H1=>tB_r Q x H1
theorem zFx {t:TE}(h:PC X op a b t)(h1:behindInMarks op b=false:=by first | exact nobehind _ (by decide) (by decide) | rfl):PT X (.Compare a [op] [b] pos) (tB t):=by intro pins s σ H Q I hw;refine wpAny_isTrue_Compare1 (thn (h pins s σ H _ I hw) fun v s1 h1=>thn h1 fun u s2 h2=>thn h2 fun c s3 ⟨x,H1,I1,r1,q1⟩=>?_) h1;obtain⟨d,rfl,q⟩:=q1;cases r1;exact zBU ⟨H1,I1,q⟩
theorem zCI {t:TE}(h:PE X e t)(he:∀whole,isTrue e X.env whole=(do let v <-whole;standAt e.pos;holding [v] (truthy v)):=by intro _;rfl):PT X e (tB t):=by intro pins s σ H Q I hw;refine isTrue_plain (thn (h pins s σ H _ I hw) fun v s1 ⟨x,H1,I1,r1,q1⟩=>?_) (he _);obtain⟨d,rfl,q⟩:=q1;cases r1;exact zBU ⟨H1,I1,q⟩
variable {tA tB':TT}{rest:List Expr}
noncomputable def tAnd (t u:TT):TT:=fun σ H Q=>t σ H fun c H1=>if c=true then u σ H1 Q else Q false H1
noncomputable def tOr (t u:TT):TT:=fun σ H Q=>t σ H fun c H1=>if c=true then Q true H1 else u σ H1 Q
noncomputable def tNot (t:TT):TT:=fun σ H Q=>t σ H fun c H1=>Q (!c) H1
theorem zCR (ha:PT X a tA):PW X (.BoolOp .And [a] pos) tA:=by
 intro wh pins s σ H Q I h;refine isTrue_and (thn (ha pins s σ H Q I h) fun c s1 e=>?_);cases c with
 | true=>exact isTrue_and_nil e
 | false=>exact e
theorem zDJ (ha:PT X a tA):PW X (.BoolOp .Or [a] pos) tA:=by
 intro wh pins s σ H Q I h;refine isTrue_or (thn (ha pins s σ H Q I h) fun c s1 e=>?_);cases c with
 | false=>exact isTrue_or_nil e
 | true=>exact e
theorem zCn (ha:PT X a tA)(hb:PW X (.BoolOp .And (b::rest) pos) tB'):PW X (.BoolOp .And (a::b::rest) pos) (tAnd tA tB'):=by
 intro wh pins s σ H Q I h;refine isTrue_and (thn (ha pins s σ H _ I h) fun c s1 ⟨H1,I1,q1⟩=>?_);cases c with
 | true=>exact hb wh pins s1 σ H1 Q I1 q1
 | false=>exact⟨H1,I1,q1⟩
theorem zEe (ha:PT X a tA)(hb:PW X (.BoolOp .Or (b::rest) pos) tB'):PW X (.BoolOp .Or (a::b::rest) pos) (tOr tA tB'):=by
 intro wh pins s σ H Q I h;refine isTrue_or (thn (ha pins s σ H _ I h) fun c s1 ⟨H1,I1,q1⟩=>?_);cases c with
 | true=>exact⟨H1,I1,q1⟩
 | false=>exact hb wh pins s1 σ H1 Q I1 q1
theorem zCo (ha:PT X a tA):PT X (.UnaryOp .Not a pos) (tNot tA):=by intro pins s σ H Q I h;exact isTrue_not (ha pins s σ H (fun c H1=>Q (!c) H1) I h)
inductive zIj (tb:TE)(σ:St)(Q:VK)(x:V)(H1:Hp):Prop
 | mk:∀c,(x=.bl c)->(if c=true then tb σ H1 Q else Q (.bl false) H1)->zIj tb σ Q x H1
noncomputable def tAndV (ta tb:TE):TE:=fun σ H Q=>ta σ H fun x H1=>zIj tb σ Q x H1
inductive zLw (tb:TE)(σ:St)(Q:VK)(x:V)(H1:Hp):Prop
 | mk:∀c,(x=.bl c)->(if c=true then Q (.bl true) H1 else tb σ H1 Q)->zLw tb σ Q x H1
noncomputable def tOrV (ta tb:TE):TE:=fun σ H Q=>ta σ H fun x H1=>zLw tb σ Q x H1
inductive zIf (Q:VK)(x:V)(H1:Hp):Prop
 | mk:∀c,(x=.bl c)->(Q (.bl (!c)) H1)->zIf Q x H1
noncomputable def tNotV (ta:TE):TE:=fun σ H Q=>ta σ H fun x H1=>zIf Q x H1
theorem zCp {op} {t:TE}(h:PE X a t):PE X (.BoolOp op [a] pos) t:=fun pins s σ H Q I hw=>BoolOp_one (h pins s σ H Q I hw)
theorem zCa (ha:PE X a ta)(hb:PE X (.BoolOp .And (b::rest) pos) tb):PE X (.BoolOp .And (a::b::rest) pos) (tAndV ta tb):=by
 intro pins s σ H Q I h;refine BoolOp_and (thn (ha pins s σ H _ I h) fun v s1 ⟨x,H1,I1,r1,q1⟩=>?_);obtain⟨c,rfl,q1⟩:=q1;cases r1;refine zBU ?_;cases c with
 | true=>exact hb pins s1 σ H1 Q I1 q1
 | false=>exact⟨.bl false,H1,I1,rfl,q1⟩
theorem pe_or (ha:PE X a ta)(hb:PE X (.BoolOp .Or (b::rest) pos) tb):PE X (.BoolOp .Or (a::b::rest) pos) (tOrV ta tb):=by
 intro pins s σ H Q I h;refine BoolOp_or (thn (ha pins s σ H _ I h) fun v s1 ⟨x,H1,I1,r1,q1⟩=>?_);obtain⟨c,rfl,q1⟩:=q1;cases r1;refine zBU ?_;cases c with
 | false=>exact hb pins s1 σ H1 Q I1 q1
 | true=>exact⟨.bl true,H1,I1,rfl,q1⟩
theorem pe_not (ha:PE X a ta):PE X (.UnaryOp .Not a pos) (tNotV ta):=by intro pins s σ H Q I h;refine UnaryOp_ (thn (ha pins s σ H _ I h) fun v s1 ⟨x,H1,I1,r1,q1⟩=>?_);obtain⟨c,rfl,q1⟩:=q1;cases r1;exact not_of (zBU ⟨.bl (!c),H1,I1,rfl,q1⟩)
noncomputable def tIf (t:TT)(ta tb:TE):TE:=fun σ H Q=>t σ H fun c H1=>if c=true then ta σ H1 Q else tb σ H1 Q
theorem zDK (hc:PT X c tA)(ha:PE X a ta)(hb:PE X b tb):PE X (.IfExp c a b pos) (tIf tA ta tb):=by
 intro pins s σ H Q I h;refine wpAny_IfExp (thn (hc pins s σ H _ I h) fun d s1 ⟨H1,I1,q1⟩=>?_);cases d with
 | true=>exact ha pins s1 σ H1 Q I1 q1
 | false=>exact hb pins s1 σ H1 Q I1 q1
end
noncomputable def SqL (K:PySem.W.Frag)(H:Hp)(a:Addr)(xs:List V):Prop:=
 Rd H a (.lst xs) \/
  ∃(o:Obj)(its:Array Value)(n:Nat),K.lookup a=some o/\o.cls=.type "list"/\o.dict=none/\o.data=.seq its n/\its.size<=sizeLine/\zBS xs its.toList
noncomputable def SqT (K:PySem.W.Frag)(H:Hp)(a:Addr)(xs:List V):Prop:=
 Rd H a (.tup xs) \/
  ∃(o:Obj)(its:Array Value)(n:Nat),K.lookup a=some o/\o.cls=.type "tuple"/\o.data=.seq its n/\its.size<=sizeLine/\zBS xs its.toList
noncomputable def absV:Value->Option V
 | .none=>some .non
 | .bool b=>some (.bl b)
 | .int i _=>some (.int i)
 | .str x _=>some (.str x)
 | .bytes b _=>some (.byt b)
 | .float b _=>some (.flt b)
 | .ref a=>some (.ref a)
 | .type n=>some (.ty n)
 | _=>none
theorem zBm.abs {x:V}(r:zBm x u):absV u=some x:=by
 cases x with
 | non=>cases r;rfl
 | bl _=>cases r;rfl
 | int _=>obtain⟨t,rfl⟩:=r;rfl
 | str _=>obtain⟨t,rfl⟩:=r;rfl
 | byt _=>obtain⟨t,rfl⟩:=r;rfl
 | flt _=>obtain⟨t,rfl⟩:=r;rfl
 | ref _=>cases r;rfl
 | ty _=>cases r;rfl
variable {y:V}
theorem zBm.inj {x:V}(r:zBm x u)(q:zBm y u):x=y:=zT (r.abs.symm.trans q.abs)
theorem zBS.inj:∀{xs ys:List V}{us:List Value},zBS xs us->zBS ys us->xs=ys
 | _,_,_,.nil,.nil=>rfl
 | _,_,_,.cons r t,.cons r' t'=>by rw[r.inj r',zBS.inj t t']
variable {K:PySem.W.Frag}
section
variable {X:Cx}{pins:lPO}{σ:St}{H:Hp}{s:Shared}{a:Addr}{xs ys:List V}
theorem SqL.of (h:H a=some (.lst xs)):SqL K H a xs:=.inl (.inl h)
theorem SqT.of (h:H a=some (.tup xs)):SqT K H a xs:=.inl (.inl h)
theorem Inv.list (I:Inv X pins σ H s)(h:SqL X.K H a xs):∃its:List Value,zBS xs its/\PlainL s.heap a its.toArray/\xs.length<=sizeLine:=by
 rcases h with h | ⟨o,its,n,hk,hc,hd,hs,hz,r⟩
 . obtain⟨z,its,n,r,e⟩:=h.ok I.hok;exact⟨its,r,⟨_,n,e,rfl,rfl,rfl⟩,z⟩
 . refine⟨its.toList,r,⟨o,n,I.kIn a o hk,hc,hd,by simpa using hs⟩,?_⟩;have e:=r.length;simp only[Array.length_toList] at e;omega
theorem Inv.tuple (I:Inv X pins σ H s)(h:SqT X.K H a xs):∃its:List Value,zBS xs its/\IsTup s.heap a its.toArray/\xs.length<=sizeLine:=by
 rcases h with h | ⟨o,its,n,hk,hc,hs,hz,r⟩
 . obtain⟨⟨z,_⟩,its,r,p⟩:=h.ok I.hok;exact⟨its,r,p,z⟩
 . refine⟨its.toList,r,⟨o,I.kIn a o hk,hc,n,by simpa using hs⟩,?_⟩;have e:=r.length;simp only[Array.length_toList] at e;omega
theorem Inv.list_inj (I:Inv X pins σ H s)(h:SqL X.K H a xs)(h':SqL X.K H a ys):xs=ys:=by
 obtain⟨its,r,⟨o,n,e,_,_,d⟩,_⟩:=I.list h;obtain⟨its',r',⟨o',n',e',_,_,d'⟩,_⟩:=I.list h';rw[e] at e';cases e';rw[d] at d';injection d' with d1 _;have:its=its':=by simpa using congrArg Array.toList d1
 subst this;exact r.inj r'
theorem Inv.tuple_inj (I:Inv X pins σ H s)(h:SqT X.K H a xs)(h':SqT X.K H a ys):xs=ys:=by
 obtain⟨its,r,⟨o,e,_,n,d⟩,_⟩:=I.tuple h;obtain⟨its',r',⟨o',e',_,n',d'⟩,_⟩:=I.tuple h';rw[e] at e';cases e';rw[d] at d';injection d' with d1 _;have:its=its':=by simpa using congrArg Array.toList d1
 subst this;exact r.inj r'
end
noncomputable abbrev Cx.wish (X:Cx)(E:vSP):Cx:={ X with xe:=E }
noncomputable abbrev Cx.nox (X:Cx):Cx:=X.wish fun _ _=>False
theorem Cx.Ok.wish (ok:X.Ok)(E:vSP):(X.wish E).Ok:=
 ⟨ok.mod,ok.kind,ok.glob,ok.blt,ok.above,ok.inj,ok.has,ok.cab,ok.hd,ok.frames,ok.stk,ok.exf,ok.bs,ok.bsz,ok.noex,ok.exfs,ok.funs,ok.frf⟩
theorem Cx.Ok.unwish {E:vSP}(ok:(X.wish E).Ok):X.Ok:=
 ⟨ok.mod,ok.kind,ok.glob,ok.blt,ok.above,ok.inj,ok.has,ok.cab,ok.hd,ok.frames,ok.stk,ok.exf,ok.bs,ok.bsz,ok.noex,ok.exfs,ok.funs,ok.frf⟩
section
variable {X:Cx}{pins:lPO}{σ:St}{H:Hp}{s:Shared}{E:vSP}
theorem Inv.wish (I:Inv X pins σ H s)(E:vSP):Inv (X.wish E) pins σ H s:=⟨I.ok.wish E,I.os,I.bare,I.base,I.loc,I.cell,I.free,I.freeC,I.pin,I.hok,I.len⟩
theorem Inv.unwish (I:Inv (X.wish E) pins σ H s):Inv X pins σ H s:=⟨I.ok.unwish,I.os,I.bare,I.base,I.loc,I.cell,I.free,I.freeC,I.pin,I.hok,I.len⟩
theorem SP.unwish {D:zGZ}{f:Flow}{s':Shared}(h:SP (X.wish E) pins D f s'):SP X pins D f s':=by
 cases f with
 | next=>obtain⟨σ',H',I,q⟩:=h;exact⟨σ',H',I.unwish,q⟩
 | brk=>obtain⟨σ',H',I,q⟩:=h;exact⟨σ',H',I.unwish,q⟩
 | cont=>obtain⟨σ',H',I,q⟩:=h;exact⟨σ',H',I.unwish,q⟩
 | ret u=>obtain⟨v,σ',H',I,r,q⟩:=h;exact⟨v,σ',H',I.unwish,r,q⟩
theorem PSs.nox {st:List Stmt}{t:TS}(h:PSs X.nox st t):PSs X st t:=fun pins s σ H D I hw=>
 zAO (h pins s σ H D (I.wish _) hw) (fun _ _ q=>q.unwish) fun _ _ z=>False.elim z
end
section
variable {X:Cx}{st:Stmt}{rest:List Stmt}{t u:TS}{e:Expr}{te:TE}{pos:Pos}
noncomputable def tNext:TS:=fun D σ H=>D.nx σ H
noncomputable def tSeq (t u:TS):TS:=fun D σ H=>t { D with nx:=u D } σ H
theorem zAN:PSs X [] tNext:=fun _ _ σ H _ I h=>wpAny_execs_nil ⟨σ,H,I,h⟩
theorem zR (h1:PS X st t)(h2:PSs X rest u):PSs X (st::rest) (tSeq t u):=by
 intro pins s σ H D I h;refine wpAny_execs_cons (thn (h1 pins s σ H { D with nx:=u D } I h) fun f s1 q=>?_);cases f with
 | next=>obtain⟨σ',H',I',q⟩:=q;exact h2 pins s1 σ' H' D I' q
 | ret v=>exact q
 | brk=>exact q
 | cont=>exact q
theorem zY (h1:PS X st t):PSs X [st] t:=by
 intro pins s σ H D I h;refine wpAny_execs_cons (thn (h1 pins s σ H D I h) fun f s1 q=>?_);cases f with
 | next=>exact wpAny_execs_nil q
 | ret v=>exact q
 | brk=>exact q
 | cont=>exact q
theorem Inv.quiet {pins:lPO}(I:Inv X pins σ H s):interactive X.env=false:=by simp[interactive,I.ok.kind]
noncomputable def tDrop (te:TE):TS:=fun D σ H=>te σ H fun _ H1=>D.nx σ H1
theorem zBX (he:PE X e te)(hs:swapsWith e none pos.line X.env=pure false:=by rfl):PS X (.Expr e pos) (tDrop te):=by intro pins s σ H D I h;exact wpAny_Expr_any (thn (he pins s σ H _ I h) fun v s1 ⟨x,H1,I1,r1,q1⟩=>⟨σ,H1,I1,q1⟩) I.quiet hs
noncomputable def tRet (te:TE):TS:=fun D σ H=>te σ H D.rt
theorem zAH (he:PE X e te):PS X (.Return (some e) pos) (tRet te):=by intro pins s σ H D I h;exact wpAny_Return_some (thn (he pins s σ H _ I h) fun v s1 ⟨x,H1,I1,r1,q1⟩=>⟨x,σ,H1,I1,r1,q1⟩)
noncomputable def tIfS (c:TT)(t u:TS):TS:=fun D σ H=>c σ H fun b H1=>if b=true then t D σ H1 else u D σ H1
theorem zA8 {a b:List Stmt}{tc:TT}(hc:PT X c tc)(ha:PSs X a t)(hb:PSs X b u):PS X (.If c a b pos) (tIfS tc t u):=by
 intro pins s σ H D I h;refine wpAny_If (thn (hc pins s σ H _ I h) fun d s1 ⟨H1,I1,q1⟩=>?_);cases d with
 | true=>exact ha pins s1 σ H1 D I1 q1
 | false=>exact hb pins s1 σ H1 D I1 q1
end
noncomputable abbrev TG:=V->St->Hp->(St->Hp->Prop)->Prop
noncomputable abbrev TGs:=List V->St->Hp->(St->Hp->Prop)->Prop
noncomputable def PG (X:Cx)(target:Expr)(t:TG):Prop:=
 ∀(pins:lPO)(s:Shared)(σ:St)(H:Hp)(v:V)(u:Value)(Q:St->Hp->Prop),Inv X pins σ H s->zBm v u->t v σ H Q ->
  wpAny (model X.prog X.w) X.A (assign target X.env u) (fun _ s'=>∃ σ' H',Inv X pins σ' H' s'/\Q σ' H') X.xe s
noncomputable def PGs (X:Cx)(ts:List Expr)(t:TGs):Prop:=
 ∀(pins:lPO)(s:Shared)(σ:St)(H:Hp)(vs:List V)(us:List Value)(Q:St->Hp->Prop),Inv X pins σ H s->zBS vs us->t vs σ H Q ->
  wpAny (model X.prog X.w) X.A (assignInOrder ((assignEach ts X.env).map (·.2)) us) (fun _ s'=>∃ σ' H',Inv X pins σ' H' s'/\Q σ' H') X.xe s
noncomputable abbrev TSet:=V->V->V->Hp->(Hp->Prop)->Prop
noncomputable def PSet (X:Cx)(t:TSet):Prop:=
 ∀(pins:lPO)(s:Shared)(σ:St)(H:Hp)(o i v:V)(ov iv u:Value)(Q:Hp->Prop),Inv X pins σ H s->zBm o ov->zBm i iv->zBm v u->t o i v H Q ->
  wpAny (model X.prog X.w) X.A (setItem ov iv u) (fun _ s'=>∃H',Inv X pins σ H' s'/\Q H') X.xe s
variable {n:Nat}{body:List Stmt}{tb:TS}
section
variable {X:Cx}{pos:Pos}
noncomputable def zGG (i:Nat):TG:=fun v σ H Q=>Q (σ.set i (some v)) H
theorem zv (hN:X.N.Nodup)(hi:X.N[i]?=some x)(hx:Loc X.env.scope x)(hf:X.fn x=true\/X.env.scope.names.lookup x=some .local:=by first | exact .inl rfl | exact .inr rfl | assumption):PG X (.Name x pos) (zGG i):=by intro pins s σ H v u Q I r h;exact wpAny_assign_Name (zDG I hN hi hx r (fun s' I'=>⟨_,H,I',h⟩) hf)
inductive zMi (vs:List V)(σ:St)(H:Hp)(Q:St->Hp->Prop):Prop
 | mk:(vs=[])->(Q σ H)->zMi vs σ H Q
noncomputable def gNil:TGs:=fun vs σ H Q=>zMi vs σ H Q
inductive zKH (t:TG)(u:TGs)(vs:List V)(σ:St)(H:Hp)(Q:St->Hp->Prop):Prop
 | mk:∀v r,(vs=v::r)->(t v σ H fun σ' H'=>u r σ' H' Q)->zKH t u vs σ H Q
noncomputable def gCons (t:TG)(u:TGs):TGs:=fun vs σ H Q=>zKH t u vs σ H Q
theorem zBh:PGs X [] gNil:=by intro pins s σ H vs us Q I r h;obtain⟨e,h⟩:=h;subst e;cases r;exact assignInOrder_nil ⟨σ,H,I,h⟩
theorem zAD {es:List Expr}{t:TG}{u:TGs}(h1:PG X e t)(h2:PGs X es u)
 (hs:(assignEach (e::es) X.env).map (·.2)=assign e X.env::(assignEach es X.env).map (·.2):=by rfl):PGs X (e::es) (gCons t u):=by
 intro pins s σ H vs us Q I r h;obtain⟨v,vr,e1,h⟩:=h;subst e1;cases r with
 | cons r rr=>rw[hs];refine assignInOrder_cons (thn (h1 pins s σ H _ _ _ I r h) fun _ s1 ⟨σ1,H1,I1,q1⟩=>?_);exact h2 pins s1 σ1 H1 _ _ Q I1 rr q1
inductive zMh (K:PySem.W.Frag)(n:Nat)(t:TGs)(v:V)(σ:St)(H:Hp)(Q:St->Hp->Prop):Prop
 | mk:∀a xs,(v=.ref a)->(SqT K H a xs)->(xs.length=n)->(t xs σ H Q)->zMh K n t v σ H Q
noncomputable def gTup (K:PySem.W.Frag)(n:Nat)(t:TGs):TG:=fun v σ H Q=>zMh K n t v σ H Q
theorem zCS {es:List Expr}{k:Nat}{t:TGs}(hc:X.calm=true)(h:PGs X es t)
 (hn:(assignEach es X.env).length=n:=by rfl)(hst:(assignEach es X.env).findIdx? (·.1)=none:=by rfl):PG X (.Tuple es k pos) (gTup X.K n t):=by
 intro pins s σ H v u Q I r hw;obtain⟨a,xs,e1,hq,hl,hw⟩:=hw;subst e1;cases r;obtain⟨its,rv,ht,hz⟩:=I.tuple hq;refine assign_Tuple_tuple (I.ok.hd hc) ht (by simp[hn,<-hl,rv.length]) hst fun h' hx=>?_;have I1:Inv X pins σ H { s with heap:=h' }:=I.kept (t':=s.toks) fun b o e=>hx b o (zb (zW e)) e;exact h pins _ σ H xs _ Q I1 (by simpa using rv) hw
noncomputable def gSub (to ti:TE)(t:TSet):TG:=fun v σ H Q=>to σ H fun o H1=>ti σ H1 fun i H2=>t o i v H2 fun H3=>Q σ H3
theorem zDe {o i:Expr}{to ti:TE}{t:TSet}(ho:PE X o to)(hi:PE X i ti)(hs:PSet X t)
 (ha:∀v,assign (.Subscript o i pos) X.env v=(do
  let ov <-holding [v] (eval o X.env);let iv <-holding [v,ov] (eval i X.env)
  standAt pos
  holding [v,ov,iv] (setItem ov iv v)
  release [v,ov,iv] []):=by intro _;rfl):PG X (.Subscript o i pos) (gSub to ti t):=by
 intro pins s σ H v u Q I r h;rw[ha];refine zC (zAW (thn (ho pins s σ H _ I h) fun ov s1 ⟨x,H1,I1,r1,q1⟩=>?_));refine zC (zAW (thn (hi pins s1 σ H1 _ I1 q1) fun iv s2 ⟨y,H2,I2,r2,q2⟩=>?_));refine zC (wpAny_standAt (zC (zAW (thn (hs pins s2 σ H2 x y v ov iv u _ I2 r1 r2 r q2) fun _ s3 ⟨H3,I3,q3⟩=>?_))));exact wpAny_release ⟨σ,H3,I3,q3⟩
noncomputable def tAsg (te:TE)(g:TG):TS:=fun D σ H=>te σ H fun x H1=>g x σ H1 D.nx
theorem zC5 {tg e:Expr}{te:TE}{g:TG}(he:PE X e te)(hg:PG X tg g)(hs:swapsWithSole [tg] e pos.line X.env=pure false:=by rfl)(hw:swappedStores [tg] e X.env=pure none:=by rfl)
 (h1:(assignEach [tg] X.env).map (·.2)=[assign tg X.env]:=by rfl):PS X (.Assign [tg] e pos) (tAsg te g):=by
 intro pins s σ H D I h;refine wpAny_Assign_stores (thn (he pins s σ H _ I h) fun v s1 ⟨x,H1,I1,r1,q1⟩=>?_) hs hw;rw[h1];exact thn (hg pins s1 σ H1 x v _ I1 r1 q1) fun _ s2 q=>q
theorem zC4 {te:TE}{pos':Pos}(hN:X.N.Nodup)(hi:X.N[i]?=some x)(hx:Loc X.env.scope x)(he:PE X e te)(hs:swapsWith e (some (.Name x pos')) pos.line X.env=pure false:=by rfl)(hf:X.fn x=true\/X.env.scope.names.lookup x=some .local:=by first | exact .inl rfl | exact .inr rfl | assumption):
 PS X (.Assign [.Name x pos'] e pos) (tAsg te (zGG i)):=by
 intro pins s σ H D I h;refine wpAny_Assign_Name (thn (he pins s σ H _ I h) fun v s1 ⟨y,H1,I1,r1,q1⟩=>?_) hs;exact zDG I1 hN hi hx r1 (fun s2 I2=>⟨_,H1,I2,q1⟩) hf
noncomputable def tWhile (c:TT)(tb:TS):TS:=fun D σ H=>∃W:Nat->St->Hp->Prop,(∃m,W m σ H)/\∀m σ H,W m σ H ->
 c σ H fun b H1=>if b=true then ∃N:St->Hp->Prop,(∀ σ' H',N σ' H'->∃m',m'<m/\W m' σ' H')/\tb { D with nx:=N,ct:=N,bk:=D.nx } σ H1 else D.nx σ H1
theorem zLC {tc:TT}(hp:PassesOwn (model X.prog X.w) X.A X.env X.xe)(hc:PT X c tc)(hb:PSs X body tb):PS X (.While c body [] pos) (tWhile tc tb):=by
 intro pins s σ H D I h;obtain⟨W,⟨m0,w0⟩,turn⟩:=h;refine wpAny_While (codeAny_whileLoop (fun n s'=>∃ σ' H',Inv X pins σ' H' s'/\W n σ' H') ?_ m0 ⟨σ,H,I,w0⟩);rintro n s1 ⟨σ1,H1,I1,w1⟩;refine wpAny_passesOwn hp (thn (hc pins s1 σ1 H1 _ I1 (turn n σ1 H1 w1)) fun b s2 ⟨H2,I2,q2⟩=>?_);cases b with
 | true=>
  obtain⟨N,hN,q2⟩:=q2;rw[if_pos rfl];refine wpAny_passesOwn hp (thn (hb pins s2 σ1 H2 _ I2 q2) fun f s3 q3=>?_);cases f with
  | next=>obtain⟨σ3,H3,I3,n3⟩:=q3;obtain⟨m',hm,w3⟩:=hN σ3 H3 n3;exact⟨m',hm,σ3,H3,I3,w3⟩
  | cont=>obtain⟨σ3,H3,I3,n3⟩:=q3;obtain⟨m',hm,w3⟩:=hN σ3 H3 n3;exact⟨m',hm,σ3,H3,I3,w3⟩
  | brk=>exact q3
  | ret v=>exact q3
 | false=>rw[if_neg zn];exact wpAny_execs_nil ⟨σ1,H2,I2,q2⟩
end
structure It where
 go:Nat->Hp->Prop
 yld:Nat->Hp->V->Hp->Prop
 stop:Nat->Hp->Prop
noncomputable def zGY (X:Cx)(pins:lPO)(H:Hp)(b:Addr):Prop:=
 H b=none/\b≠X.env.locals/\b∉X.fs/\(b∈X.ex\/X.s₀.heap.objs.size<=b)/\(∀x c,X.env.cells.lookup x=some c->c≠b)/\∀p∈X.pn++pins,p.1≠b
variable {H':Hp}
theorem Inv.fpOk {pins:lPO}(I:Inv X pins σ H s)(hb:s.heap.objs.size<=b)(hn:H' b=none):zGY X pins H' b:=by
 refine⟨hn,zAR (zq I.lt hb),I.nofs hb,.inr (zAM I.sz hb),fun x c e z=>?_,fun p hp z=>?_⟩
 . obtain⟨v,q⟩:=I.cell x c e;exact absurd (zq q.lt (by rw[z];exact hb)) (zBe _)
 . exact absurd (zq (zW (I.pin p hp).1) (by rw[z];exact hb)) (zBe _)
structure Turn (P:Program)(w:World)(K:PySem.W.Frag)(tg:Expr)(J:It)(fp:List Addr)(it:Addr)(tn:Nat->Heap->Prop):Prop where
 mem:it∈fp
 obj:∀i h,tn i h->∀b∈fp,∃o,h.get? b=some o/\∀v,o.data ≠ .cell v
 keep:∀i h h',tn i h->(∀b∈fp,∀o,h.get? b=some o->h'.get? b=some o)->tn i h'
 item:∀(X:Cx),X.prog=P->X.w=w->X.K=K->X.calm=true->∀(i:Nat)(pins:lPO)(s:Shared)(σ:St)(H:Hp)(E:vSP),Inv X pins σ H s->(∀b∈fp,zGY X pins H b)->tn i s.heap->J.go i H ->
  wpAny (model P w) X.A (pyNext (.ref it)) (fun r s1=>∃u,r=some u /\
   wpAny (model P w) X.A (letOwnedTupleGo tg (.ref it) u) (fun _ s2=>∃x H',Inv X pins σ H' s2/\zBm x u/\J.yld i H x H'/\tn (i+1) s2.heap/\∀b∈fp,H' b=none) E s1) E s
 done:∀(X:Cx),X.prog=P->X.w=w->X.K=K->X.calm=true->∀(i:Nat)(pins:lPO)(s:Shared)(σ:St)(H:Hp)(E:vSP),Inv X pins σ H s->(∀b∈fp,zGY X pins H b)->tn i s.heap->J.stop i H ->
  wpAny (model P w) X.A (pyNext (.ref it)) (fun r s1=>r=none/\Inv X pins σ H s1) E s
 self:∀(A:Around)(i:Nat)(s:Shared)(Q:vSP)(E:vSP),tn i s.heap->Q (.ref it) s->wpAny (model P w) A (pyIter (.ref it)) Q E s
noncomputable abbrev TI:=St->Hp->(It->Hp->Prop)->Prop
noncomputable def PIE (X:Cx)(pins:lPO)(σ:St)(tg:Expr)(R:It->Hp->Prop)(itv:Value)(s2:Shared):Prop:=
 ∃(it:Addr)(fp:List Addr)(tn:Nat->Heap->Prop)(J:It)(H':Hp),itv=.ref it/\Inv X pins σ H' s2/\Turn X.prog X.w X.K tg J fp it tn/\tn 0 s2.heap/\(∀b∈fp,zGY X pins H' b)/\R J H'
noncomputable def PI (X:Cx)(tg iter:Expr)(wi:TI):Prop:=
 ∀(pins:lPO)(s:Shared)(σ:St)(H:Hp)(R:It->Hp->Prop),Inv X pins σ H s->wi σ H R ->
  wpAny (model X.prog X.w) X.A (eval iter X.env) (fun v s1=>wpAny (model X.prog X.w) X.A (pyIter v) (PIE X pins σ tg R) X.xe s1) X.xe s
variable {tg:Expr}
theorem zNx {E:vSP}{it:Addr}{n:String}{vs:Array Value}(ho:s.heap.get? it=some o)(hc:o.cls=.type n)(hd:o.data=.fields vs)
 (hn:["enumerate", "zip", "dict_itemiterator", "dict_reverseitemiterator", "odict_iterator", "itertools.zip_longest", "itertools.pairwise"].contains n=false) (hQ:Q () s):wpAny M A (letOwnedTupleGo tg (.ref it) u) Q E s:=by
 unfold letOwnedTupleGo;cases tg <;> first
  | exact zG hQ
  | (cases u <;> first
   | exact zG hQ
   | (refine zC (wpAny_load ho ?_)
      rw[hc,hd];show wpAny M A (if (["enumerate", "zip", "dict_itemiterator", "dict_reverseitemiterator", "odict_iterator", "itertools.zip_longest", "itertools.pairwise"].contains n && vs[0]? == some (rawInt _))=true then _ else _) Q E s
      rw[if_neg (by intro h;rw[hn,Bool.false_and] at h;cases h)];exact zG hQ))
noncomputable def Itl (K:PySem.W.Frag)(a:Addr):It:=
 ⟨fun i H=>∃xs x,SqL K H a xs/\xs[i]?=some x,fun i H x H'=>H'=H/\∀xs,SqL K H a xs->xs[i]?=some x,fun i H=>∃xs,SqL K H a xs/\xs.length<=i⟩
noncomputable def Itt (K:PySem.W.Frag)(a:Addr):It:=
 ⟨fun i H=>∃xs x,SqT K H a xs/\xs[i]?=some x,fun i H x H'=>H'=H/\∀xs,SqT K H a xs->xs[i]?=some x,fun i H=>∃xs,SqT K H a xs/\xs.length<=i⟩
noncomputable def Itr (lo:Int)(n:Nat):It:=⟨fun i _=>i<n,fun i H x H'=>H'=H/\x=.int (lo+i),fun i _=>n<=i⟩
theorem zIb {P:Program}(a it:Addr):Turn P w K tg (Itl K a) [it] it (fun i h=>h.IsListIter it a i) where
 mem:=by simp
 obj:=fun i h st b hb=>by
  have e:b=it:=by simpa using hb
  subst e;obtain⟨o,e,c,d⟩:=st;exact⟨o,e,fun v z=>by rw[d] at z;cases z⟩
 keep:=fun i h h' st k=>st.at fun o e=>k it (by simp) o e
 item:=by intro X hP hw hK hc i pins s σ H E I hf st hg;subst hP hw hK;obtain⟨xs,x,hq,hx⟩:=hg;obtain⟨its,rv,p,hz⟩:=I.list hq;obtain⟨u,hu,ru⟩:=rv.get hx;obtain⟨f0,f1,f2,f3,f4,f5⟩:=hf it (by simp);refine wpAny_pyNext_list_item st p.isList (x:=u) (by simpa using hu) fun h' st' sb=>?_;have I1:Inv X pins σ H { s with heap:=h' }:=I.turned (t':=s.toks) (fun b o hb e=>(sb.2 b hb).trans e) f0 f1 f3 f4 f5;obtain⟨o,e,c,d⟩:=id st';exact⟨u,rfl,zNx (s:={ s with heap:=h' }) e c d (by decide) ⟨x,H,I1,ru,⟨rfl,fun ys hy=>by rw[I.list_inj hy hq];exact hx⟩,st',fun b hb=>(hf b hb).1⟩⟩
 done:=by intro X hP hw hK hc i pins s σ H E I hf st hg;subst hP hw hK;obtain⟨xs,hq,hx⟩:=hg;obtain⟨its,rv,p,hz⟩:=I.list hq;obtain⟨f0,f1,f2,f3,f4,f5⟩:=hf it (by simp);have hl:=rv.length;exact wpAny_pyNext_list_end (I.ok.hd hc) st p.isList (by simp;omega) fun h' eb=>⟨rfl,I.turned (t':=s.toks) (fun b o hb e=>eb b o hb e) f0 f1 f3 f4 f5⟩
 self:=fun _ _ _ _ _ st h=>wpAny_pyIter_listiter st h
theorem zHu {P:Program}(a it:Addr):Turn P w K tg (Itt K a) [it] it (fun i h=>h.IsTupleIter it a i) where
 mem:=by simp
 obj:=fun i h st b hb=>by
  have e:b=it:=by simpa using hb
  subst e;obtain⟨o,e,c,d⟩:=st;exact⟨o,e,fun v z=>by rw[d] at z;cases z⟩
 keep:=fun i h h' st k=>st.at fun o e=>k it (by simp) o e
 item:=by intro X hP hw hK hc i pins s σ H E I hf st hg;subst hP hw hK;obtain⟨xs,x,hq,hx⟩:=hg;obtain⟨its,rv,p,hz⟩:=I.tuple hq;obtain⟨u,hu,ru⟩:=rv.get hx;obtain⟨f0,f1,f2,f3,f4,f5⟩:=hf it (by simp);refine wpAny_pyNext_tuple_item st (show s.heap.IsTuple a its.toArray from p) (x:=u) (by simpa using hu) fun h' st' sb=>?_;have I1:Inv X pins σ H { s with heap:=h' }:=I.turned (t':=s.toks) (fun b o hb e=>(sb.2 b hb).trans e) f0 f1 f3 f4 f5;obtain⟨o,e,c,d⟩:=id st';exact⟨u,rfl,zNx (s:={ s with heap:=h' }) e c d (by decide) ⟨x,H,I1,ru,⟨rfl,fun ys hy=>by rw[I.tuple_inj hy hq];exact hx⟩,st',fun b hb=>(hf b hb).1⟩⟩
 done:=by intro X hP hw hK hc i pins s σ H E I hf st hg;subst hP hw hK;obtain⟨xs,hq,hx⟩:=hg;obtain⟨its,rv,p,hz⟩:=I.tuple hq;obtain⟨f0,f1,f2,f3,f4,f5⟩:=hf it (by simp);have hl:=rv.length;exact wpAny_pyNext_tuple_end (I.ok.hd hc) st (show s.heap.IsTuple a its.toArray from p) (by simp;omega) fun h' eb=>⟨rfl,I.turned (t':=s.toks) (fun b o hb e=>eb b o hb e) f0 f1 f3 f4 f5⟩
 self:=fun _ _ _ _ _ st h=>wpAny_pyIter_tupleiter st h
theorem zHv {P:Program}(it:Addr)(lo:Int)(n:Nat):Turn P w K tg (Itr lo n) [it] it (fun i h=>IsRangeIter h it (lo+(i:Nat)*1) ((n:Int)-(i:Nat)) 1) where
 mem:=by simp
 obj:=fun i h st b hb=>by
  have e:b=it:=by simpa using hb
  subst e;exact⟨_,st,fun v z=>by have z':Data.fields _=Data.cell v:=z;cases z'⟩
 keep:=fun i h h' st k=>k it (by simp) _ st
 item:=by intro X hP hw hK hc i pins s σ H E I hf st hg;subst hP hw hK;obtain⟨f0,f1,f2,f3,f4,f5⟩:=hf it (by simp);have W:=Walks.range (prog:=X.prog) (w:=X.w) (I.ok.hd hc) it lo 1 n;refine W.item i s _ _ hg st fun v h' tk hv st' kk=>?_;obtain⟨t,rfl⟩:=hv;have I1:Inv X pins σ H { s with heap:=h',toks:=tk }:=I.turned (fun b o hb e=>kk b o (by simpa using hb) e) f0 f1 f3 f4 f5;refine⟨_,rfl,zNx (s:={ s with heap:=h',toks:=tk }) (n := "range_iterator") st' rfl rfl (by decide) ⟨.int (lo+i),H,I1,⟨t,?_⟩,⟨rfl,rfl⟩,st',fun b hb=>(hf b hb).1⟩⟩;rw[Int.mul_one]
 done:=by intro X hP hw hK hc i pins s σ H E I hf st hg;subst hP hw hK;obtain⟨f0,f1,f2,f3,f4,f5⟩:=hf it (by simp);exact wpAny_pyNext_range_end (I.ok.hd hc) st (by have:n<=i:=hg;omega) fun h' eb=>⟨rfl,I.turned (t':=s.toks) (fun b o hb e=>eb b o hb e) f0 f1 f3 f4 f5⟩
 self:=fun _ _ _ _ _ st h=>wpAny_pyIter_rangeiter st h
variable {fp:List Addr}
section
variable {X:Cx}{tg:Expr}
inductive zKF (K:PySem.W.Frag)(R:It->Hp->Prop)(x:V)(H1:Hp):Prop
 | mk:∀a,(x=.ref a)->((∃xs,SqL K H1 a xs))->(R (Itl K a) H1)->zKF K R x H1
noncomputable def iList (K:PySem.W.Frag)(tl:TE):TI:=fun σ H R=>tl σ H fun x H1=>zKF K R x H1
inductive zMf (K:PySem.W.Frag)(R:It->Hp->Prop)(x:V)(H1:Hp):Prop
 | mk:∀a,(x=.ref a)->((∃xs,SqT K H1 a xs))->(R (Itt K a) H1)->zMf K R x H1
noncomputable def iTup (K:PySem.W.Frag)(tl:TE):TI:=fun σ H R=>tl σ H fun x H1=>zMf K R x H1
theorem zCE {l:Expr}{tl:TE}(hl:PE X l tl):PI X tg l (iList X.K tl):=by
 intro pins s σ H R I h;refine thn (hl pins s σ H _ I h) fun v s1 ⟨x,H1,I1,r1,q1⟩=>?_;obtain⟨a,e,⟨xs,hq⟩,q⟩:=q1;subst e;cases r1;obtain⟨its,rv,p,hz⟩:=I1.list hq;refine wpAny_pyIter_list p.isList ?_;refine⟨s1.heap.objs.size,[s1.heap.objs.size],_,_,H1,rfl,I1.kept (t':=s1.toks) fun b o e=>zN _ e,zIb a _,⟨_,zX _ rfl,rfl,rfl⟩,fun b hb=>?_,q⟩;have e:b=s1.heap.objs.size:=by simpa using hb
 subst e;exact I1.fpOk (zK _) (I1.hok.fresh (zK _))
theorem zB9 {l:Expr}{tl:TE}(hl:PE X l tl):PI X tg l (iTup X.K tl):=by
 intro pins s σ H R I h;refine thn (hl pins s σ H _ I h) fun v s1 ⟨x,H1,I1,r1,q1⟩=>?_;obtain⟨a,e,⟨xs,hq⟩,q⟩:=q1;subst e;cases r1;obtain⟨its,rv,p,hz⟩:=I1.tuple hq;refine wpAny_pyIter_tuple (show s1.heap.IsTuple a its.toArray from p) ?_;refine⟨s1.heap.objs.size,[s1.heap.objs.size],_,_,H1,rfl,I1.kept (t':=s1.toks) fun b o e=>zN _ e,zHu a _,⟨_,zX _ rfl,rfl,rfl⟩,fun b hb=>?_,q⟩;have e:b=s1.heap.objs.size:=by simpa using hb
 subst e;exact I1.fpOk (zK _) (I1.hok.fresh (zK _))
theorem zHU {pins:lPO}{R:It->Hp->Prop}{E:vSP}{lo hi:Int}{t u v:Tok}{tk:Nat}(I:Inv X pins σ H s)(h1 : -(2 ^ 62)<=lo)(h2:lo<2 ^ 62)(h3 : -(2 ^ 62)<=hi)(h4:hi<2 ^ 62)
 (q:R (Itr lo (hi-lo).toNat) H):wpAny (model X.prog X.w) X.A (pyIter (.ref s.heap.objs.size)) (PIE X pins σ tg R) E { s with heap:=s.heap.push { cls:=.type "range",data:=.fields #[.int lo t,.int hi u,.int 1 v] },toks:=tk }:=by
 refine wpAny_pyIter_range (IsRange.new ..) (small_one h1 h2 h3 h4) ?_;have I1:Inv X pins σ H { s with heap:=s.heap.push { cls:=.type "range",data:=.fields #[.int lo t,.int hi u,.int 1 v] },toks:=tk }:=I.kept fun b o e=>zN _ e;refine⟨(s.heap.push { cls:=.type "range",data:=.fields #[.int lo t,.int hi u,.int 1 v] }).objs.size,[(s.heap.push { cls:=.type "range",data:=.fields #[.int lo t,.int hi u,.int 1 v] }).objs.size],_,_,H,rfl,
  I1.kept (t':=tk) fun b o e=>zN _ e,zHv _ lo (hi-lo).toNat,?_,fun b hb=>?_,q⟩
 . have e1:lo+((0:Nat):Int)*1=lo:=by simp
   have e2:(((hi-lo).toNat:Nat):Int)-((0:Nat):Int)=Builtin.Range.rangeSize lo hi 1:=by rw[rangeSize_one];split <;> omega
   show IsRangeIter _ _ (lo+((0:Nat):Int)*1) ((((hi-lo).toNat:Nat):Int)-((0:Nat):Int)) 1;rw[e1,e2];exact zX _ rfl
 . have e:b=(s.heap.push { cls:=.type "range",data:=.fields #[.int lo t,.int hi u,.int 1 v] }).objs.size:=by simpa using hb
   subst e;exact I1.fpOk (zK _) (I1.hok.fresh (zK _))
inductive zKE (R:It->Hp->Prop)(vs:List V)(H1:Hp):Prop
 | mk:∀j:Int,(vs=[.int j])->(-(2 ^ 62)<=j)->(j<2 ^ 62)->(R (Itr 0 j.toNat) H1)->zKE R vs H1
noncomputable def iRng1 (ta:TA):TI:=fun σ H R=>ta σ H fun vs H1=>zKE R vs H1
inductive zKD (R:It->Hp->Prop)(vs:List V)(H1:Hp):Prop
 | mk:∀i j:Int,(vs=[.int i,.int j])->((-(2 ^ 62)<=i/\i<2 ^ 62/\-(2 ^ 62)<=j/\j<2 ^ 62))->(R (Itr i (j-i).toNat) H1)->zKD R vs H1
noncomputable def iRng2 (ta:TA):TI:=fun σ H R=>ta σ H fun vs H1=>zKD R vs H1
theorem zAl {a:Expr}{ta:TA}{p:Pos}(hg:Gl X "range") (hm:X.mg "range"=none) (ha:PA X [a] ta)(hs:starEach [a] X.env=[(false,eval a X.env)]:=by rfl):PI X tg (.Call (.Name "range" p) [a] [] pos) (iRng1 ta):=by
 intro pins s σ H R I h;refine Call_ (zC7 I hg hm boot_range (PyProof.Rows.callWith_type1 (thn (ha pos pins s σ H _ I h) fun us s1 ⟨vs,H1,I1,r1,q1⟩=>?_) hs rfl));obtain⟨j,e,q1,q2,q⟩:=q1;subst e;cases r1 with
 | cons r rr=>cases rr;obtain⟨t,rfl⟩:=r;exact call_range_1 (zHU I1 (by omega) (by omega) q1 q2 (by simpa using q))
theorem zD6 {a b:Expr}{ta:TA}{p pos:Pos}(hg:Gl X "range") (hm:X.mg "range"=none) (ha:PA X [a,b] ta)(hs:starEach [a,b] X.env=[(false,eval a X.env),(false,eval b X.env)]:=by rfl)(hs2:starEach [b] X.env=[(false,eval b X.env)]:=by rfl):
 PI X tg (.Call (.Name "range" p) [a,b] [] pos) (iRng2 ta):=by
 intro pins s σ H R I h;refine Call_ (zC7 I hg hm boot_range (PyProof.Rows.callWith_type1 (thn (ha pos pins s σ H _ I h) fun us s1 ⟨vs,H1,I1,r1,q1⟩=>?_) (by rw[hs,hs2]) (by rw[hs2];rfl)));obtain⟨i,j,e,⟨q1,q2,q3,q4⟩,q⟩:=q1;subst e;cases r1 with
 | cons r rr=>
  cases rr with
  | cons r' rr=>cases rr;obtain⟨t,rfl⟩:=r;obtain⟨t',rfl⟩:=r';exact call_range_2 (zHU I1 q1 q2 q3 q4 q)
noncomputable def tFor (wi:TI)(g:TG)(tb:TS):TS:=fun D σ H=>wi σ H fun J H1=>∃W:Nat->Nat->St->Hp->Prop,(∃m,W 0 m σ H1)/\∀i m σ H,W i m σ H ->
 (J.stop i H/\D.nx σ H)\/(J.go i H/\∃N:St->Hp->Prop,(∀ σ' H',N σ' H'->∃m',m'<m/\W (i+1) m' σ' H')/\∀x H',J.yld i H x H'->g x σ H' fun σ2 H2=>tb { D with nx:=N,ct:=N,bk:=D.nx } σ2 H2)
noncomputable def zEn (fp:List Addr)(h:Heap):List (Addr×Obj):=fp.filterMap fun b=>(h.get? b).map fun o=>(b,o)
theorem zCQ (hb:b∈fp)(e:h.get? b=some o):(b,o)∈zEn fp h:=zBM.mpr ⟨b,hb,by rw[e];rfl⟩
theorem zJs {p:Addr×Obj}(hp:p∈zEn fp h):p.1∈fp/\h.get? p.1=some p.2:=by
 obtain⟨b,hb,e⟩:=zBM.mp hp;cases q:h.get? b with
 | none=>rw[q] at e;cases e
 | some o=>rw[q] at e;have e':(b,o)=p:=zT e;subst e';exact⟨hb,q⟩
theorem Inv.pinned {pins:lPO}(I:Inv X pins σ H s)(hf:∀b∈fp,zGY X pins H b)(ho:∀b∈fp,∃o,s.heap.get? b=some o/\∀v,o.data ≠ .cell v):Inv X (pins++zEn fp s.heap) σ H s:=
 I.pins_of fun p hp=>(zm.mp hp).elim (fun z=>I.pin p (zi _ z)) fun z=>by obtain⟨hb,e⟩:=zJs z;obtain⟨f0,f1,f2,_⟩:=hf p.1 hb;obtain⟨o,e',d⟩:=ho p.1 hb;rw[e] at e';cases e';exact⟨e,f0,f1,f2,d⟩
theorem Inv.unpinned {pins pl:lPO}(I:Inv X (pins++pl) σ H s):Inv X pins σ H s:=I.pins_of fun p hp=>I.pin p (zi _ (zw _ hp))
theorem zA6 {iter:Expr}{wi:TI}{g:TG}(hp:PassesOwn (model X.prog X.w) X.A X.env X.xe)(hc:X.calm=true)(hi:PI X tg iter wi)(hg:PG X tg g)(hb:PSs X body tb)
 (hs:∀x,foldedSetIterable iter X.env x=pure x:=by intro _;rfl):PS X (.For tg iter body [] pos) (tFor wi g tb):=by
 intro pins s σ H D I h;refine wpAny_For (thn (hi pins s σ H _ I h) fun v s1 h1=>thn h1 fun itv s2 h2=>?_) hs;obtain⟨it,fp,tn,J,H2,e,I2,T,st2,f2,W,⟨m0,w0⟩,turn⟩:=h2;subst e;have stat:∀{H':Hp},(∀b∈fp,H' b=none)->∀b∈fp,zGY X pins H' b:=fun hn b hb=>⟨hn b hb,(f2 b hb).2⟩;refine codeAny_forLoop_any (fun n s'=>∃i σ' H',Inv X pins σ' H' s'/\tn i s'.heap/\(∀b∈fp,H' b=none)/\W i n σ' H') ?_ m0 ⟨0,σ,H2,I2,st2,fun b hb=>(f2 b hb).1,w0⟩;rintro n s3 ⟨i,σ3,H3,I3,st3,fr3,w3⟩;rcases turn i n σ3 H3 w3 with ⟨stop,qn⟩ | ⟨go,N,hN,step⟩
 . refine wpAny_passesOwn hp (thn (T.done X rfl rfl rfl hc i pins s3 σ3 H3 X.xe I3 (stat fr3) st3 stop) fun r s4 ⟨hr,I4⟩=>?_);subst hr;exact wpAny_execs_nil ⟨σ3,H3,I4,qn⟩
 . refine wpAny_passesOwn hp (thn (T.item X rfl rfl rfl hc i pins s3 σ3 H3 X.xe I3 (stat fr3) st3 go) fun r s4 ⟨u,hr,h4⟩=>?_);subst hr;refine wpAny_passesOwn hp (thn h4 fun _ s5 ⟨x,H5,I5,r5,y5,st5,fr5⟩=>?_);have I5':=I5.pinned (stat fr5) (T.obj _ _ st5);refine wpAny_passesOwn hp (thn (hg _ s5 σ3 H5 x u _ I5' r5 (step x H5 y5)) fun _ s6 ⟨σ6,H6,I6,q6⟩=>?_);refine wpAny_passesOwn hp (thn (hb _ s6 σ6 H6 _ I6 q6) fun f s7 q7=>?_);have again:∀{σ7:St}{H7:Hp},Inv X (pins++zEn fp s5.heap) σ7 H7 s7->N σ7 H7->∃m,m<n/\∃i σ' H',Inv X pins σ' H' s7/\tn i s7.heap/\(∀b∈fp,H' b=none)/\W i m σ' H':=fun {σ7 H7} I7 n7=>by obtain⟨m',hm,w7⟩:=hN σ7 H7 n7;refine⟨m',hm,i+1,σ7,H7,I7.unpinned,T.keep _ _ _ st5 fun b hb o e=>(I7.pin (b,o) (zi _ (zi _ (zCQ hb e)))).1,fun b hb=>?_,w7⟩;obtain⟨o,e,d⟩:=T.obj _ _ st5 b hb;exact (I7.pin (b,o) (zi _ (zi _ (zCQ hb e)))).2.1
   cases f with
   | next=>obtain⟨σ7,H7,I7,n7⟩:=q7;exact again I7 n7
   | cont=>obtain⟨σ7,H7,I7,n7⟩:=q7;exact again I7 n7
   | brk=>obtain⟨σ7,H7,I7,q7⟩:=q7;exact⟨σ7,H7,I7.unpinned,q7⟩
   | ret v=>obtain⟨x7,σ7,H7,I7,r7,q7⟩:=q7;exact⟨x7,σ7,H7,I7.unpinned,r7,q7⟩
end
variable {D:zGZ}
theorem zCi {xs:List V}{g:TG}(Pv:Nat->St->Hp->Prop)(h0:Pv 0 σ H)(hl:∀i σ H,i<=xs.length->Pv i σ H->SqL K H a xs)
 (hs:∀i x σ H,xs[i]?=some x->Pv i σ H->g x σ H fun σ2 H2=>tb { D with nx:=Pv (i+1),ct:=Pv (i+1),bk:=D.nx } σ2 H2)(hd:∀ σ H,Pv xs.length σ H->D.nx σ H):
 ∃W:Nat->Nat->St->Hp->Prop,(∃m,W 0 m σ H)/\∀i m σ H,W i m σ H ->
  ((Itl K a).stop i H/\D.nx σ H)\/((Itl K a).go i H/\∃N:St->Hp->Prop,(∀ σ' H',N σ' H'->∃m',m'<m/\W (i+1) m' σ' H')/\∀x H',(Itl K a).yld i H x H'->g x σ H' fun σ2 H2=>tb { D with nx:=N,ct:=N,bk:=D.nx } σ2 H2):=by
 refine⟨fun i m σ H=>m=xs.length-i/\i<=xs.length/\Pv i σ H,⟨xs.length,by simp,zk _,h0⟩,?_⟩;rintro i m σ H ⟨rfl,hi,p⟩;have q:=hl i σ H hi p;by_cases hlt:i<xs.length
 . refine .inr ⟨⟨xs,xs[i],q,by simp[hlt]⟩,Pv (i+1),fun σ' H' p'=>⟨xs.length-(i+1),by omega,rfl,hlt,p'⟩,fun x H' y=>?_⟩;obtain⟨e,y⟩:=y;subst e;exact hs i x σ _ (y xs q) p
 . have e:i=xs.length:=by omega
   subst e;exact .inl ⟨⟨xs,q,zK _⟩,hd σ H p⟩
theorem zEM {xs:List V}{g:TG}(Pv:Nat->St->Hp->Prop)(h0:Pv 0 σ H)(hl:∀i σ H,i<=xs.length->Pv i σ H->SqT K H a xs)
 (hs:∀i x σ H,xs[i]?=some x->Pv i σ H->g x σ H fun σ2 H2=>tb { D with nx:=Pv (i+1),ct:=Pv (i+1),bk:=D.nx } σ2 H2)(hd:∀ σ H,Pv xs.length σ H->D.nx σ H):
 ∃W:Nat->Nat->St->Hp->Prop,(∃m,W 0 m σ H)/\∀i m σ H,W i m σ H ->
  ((Itt K a).stop i H/\D.nx σ H)\/((Itt K a).go i H/\∃N:St->Hp->Prop,(∀ σ' H',N σ' H'->∃m',m'<m/\W (i+1) m' σ' H')/\∀x H',(Itt K a).yld i H x H'->g x σ H' fun σ2 H2=>tb { D with nx:=N,ct:=N,bk:=D.nx } σ2 H2):=by
 refine⟨fun i m σ H=>m=xs.length-i/\i<=xs.length/\Pv i σ H,⟨xs.length,by simp,zk _,h0⟩,?_⟩;rintro i m σ H ⟨rfl,hi,p⟩;have q:=hl i σ H hi p;by_cases hlt:i<xs.length
 . refine .inr ⟨⟨xs,xs[i],q,by simp[hlt]⟩,Pv (i+1),fun σ' H' p'=>⟨xs.length-(i+1),by omega,rfl,hlt,p'⟩,fun x H' y=>?_⟩;obtain⟨e,y⟩:=y;subst e;exact hs i x σ _ (y xs q) p
 . have e:i=xs.length:=by omega
   subst e;exact .inl ⟨⟨xs,q,zK _⟩,hd σ H p⟩
theorem zA3 {lo:Int}{g:TG}(Pv:Nat->St->Hp->Prop)(h0:Pv 0 σ H)
 (hs:∀i σ H,i<n->Pv i σ H->g (.int (lo+i)) σ H fun σ2 H2=>tb { D with nx:=Pv (i+1),ct:=Pv (i+1),bk:=D.nx } σ2 H2)(hd:∀ σ H,Pv n σ H->D.nx σ H):
 ∃W:Nat->Nat->St->Hp->Prop,(∃m,W 0 m σ H)/\∀i m σ H,W i m σ H ->
  ((Itr lo n).stop i H/\D.nx σ H)\/((Itr lo n).go i H/\∃N:St->Hp->Prop,(∀ σ' H',N σ' H'->∃m',m'<m/\W (i+1) m' σ' H')/\∀x H',(Itr lo n).yld i H x H'->g x σ H' fun σ2 H2=>tb { D with nx:=N,ct:=N,bk:=D.nx } σ2 H2):=by
 refine⟨fun i m σ H=>m=n-i/\i<=n/\Pv i σ H,⟨n,by simp,zk _,h0⟩,?_⟩;rintro i m σ H ⟨rfl,hi,p⟩;by_cases hlt:i<n
 . refine .inr ⟨hlt,Pv (i+1),fun σ' H' p'=>⟨n-(i+1),by omega,rfl,hlt,p'⟩,fun x H' y=>?_⟩;obtain⟨e,y⟩:=y;subst e y;exact hs i σ _ hlt p
 . have e:i=n:=by omega
   subst e;exact .inl ⟨zK _,hd σ H p⟩
noncomputable abbrev R2:=V->V->Hp->VK->Prop
noncomputable def OpR (X:Cx)(f:Value->Value->Sem Value)(r:R2):Prop:=
 ∀(pins:lPO)(s:Shared)(σ:St)(H:Hp)(x y:V)(v u:Value)(Q:VK),Inv X pins σ H s->zBm x v->zBm y u->r x y H Q ->
  wpAny (model X.prog X.w) X.A (f v u) (EP X pins σ Q) X.xe s
noncomputable def UnR (X:Cx)(f:Value->Sem Value)(r:V->Hp->VK->Prop):Prop:=
 ∀(pins:lPO)(s:Shared)(σ:St)(H:Hp)(x:V)(v:Value)(Q:VK),Inv X pins σ H s->zBm x v->r x H Q ->
  wpAny (model X.prog X.w) X.A (f v) (EP X pins σ Q) X.xe s
noncomputable def zCl (X:Cx)(f:Value)(r:List V->Hp->VK->Prop):Prop:=
 ∀(pins:lPO)(s:Shared)(σ:St)(H:Hp)(xs:List V)(us:List Value)(Q:VK),Inv X pins σ H s->zBS xs us->r xs H Q ->
  wpAny (model X.prog X.w) X.A (call f us) (EP X pins σ Q) X.xe s
noncomputable def tOp (r:R2)(ta tb:TE):TE:=fun σ H Q=>ta σ H fun x H1=>tb σ H1 fun y H2=>r x y H2 Q
noncomputable def tUn (r:V->Hp->VK->Prop)(ta:TE):TE:=fun σ H Q=>ta σ H fun x H1=>r x H1 Q
inductive rI_r (C:Int->Int->Prop)(g:Int->Int->V)(x:V)(y:V)(H:Hp)(Q:VK):Prop
 | mk:∀i j,(x=.int i)->(y=.int j)->(C i j)->(Q (g i j) H)->rI_r C g x y H Q
noncomputable def rI (C:Int->Int->Prop)(g:Int->Int->V):R2:=fun x y H Q=>rI_r C g x y H Q
inductive rI0_r (g:Int->Int->V)(x:V)(y:V)(H:Hp)(Q:VK):Prop
 | mk:∀i j,(x=.int i)->(y=.int j)->(Q (g i j) H)->rI0_r g x y H Q
noncomputable def rI0 (g:Int->Int->V):R2:=fun x y H Q=>rI0_r g x y H Q
inductive rU_r (g:Int->V)(x:V)(H:Hp)(Q:VK):Prop
 | mk:∀i,(x=.int i)->(Q (g i) H)->rU_r g x H Q
noncomputable def rU (g:Int->V):V->Hp->VK->Prop:=fun x H Q=>rU_r g x H Q
variable {f:Value->Value->Sem Value}
section
variable {X:Cx}{a b c:Expr}{ta tb tc:TE}{pos:Pos}
theorem binT (ha:PE X a ta)(hb:PE X b tb){pins:lPO}{R:V->V->Hp->Prop}(I:Inv X pins σ H s)
 (h:ta σ H fun x H1=>tb σ H1 fun y H2=>R x y H2){Q:vSP}
 (hf:∀v u s2 x y H2,Inv X pins σ H2 s2->zBm x v->zBm y u->R x y H2->wpAny (model X.prog X.w) X.A (f v u) Q X.xe s2):
 wpAny (model X.prog X.w) X.A (eval a X.env) (fun v s₁=>wpAny (model X.prog X.w) X.A (eval b X.env) (fun u s₂=>wpAny (model X.prog X.w) X.A (f v u) Q X.xe s₂) X.xe s₁) X.xe s:=by
 refine thn (ha pins s σ H _ I h) fun v s1 ⟨x,H1,I1,r1,q1⟩=>?_;refine thn (hb pins s1 σ H1 _ I1 q1) fun u s2 ⟨y,H2,I2,r2,q2⟩=>?_;exact hf v u s2 x y H2 I2 r1 r2 q2
theorem zAw {op:Operator}{r:R2}(ho:OpR X (binaryOp op) r)(ha:PE X a ta)(hb:PE X b tb):PE X (.BinOp a op b pos) (tOp r ta tb):=by intro pins s σ H Q I h;exact wpAny_BinOp (binT ha hb I h fun v u s2 x y H2 I2 rx ry q=>ho pins s2 σ H2 x y v u Q I2 rx ry q)
theorem zJj {op:UnaryOp}{r:V->Hp->VK->Prop}(ho:UnR X (unaryOp op) r)(ha:PE X a ta):PE X (.UnaryOp op a pos) (tUn r ta):=by intro pins s σ H Q I h;exact UnaryOp_ (thn (ha pins s σ H _ I h) fun v s1 ⟨x,H1,I1,r1,q1⟩=>ho pins s1 σ H1 x v Q I1 r1 q1)
theorem opI {C:Int->Int->Prop}{g:Int->Int->Int}
 (rule:∀(i j:Int)(t u:Tok)(s:Shared)(Q:vSP)(E:vSP),C i j->Q (.int (g i j) s.toks) { s with toks:=s.toks+1 }->wpAny (model X.prog X.w) X.A (f (.int i t) (.int j u)) Q E s):
 OpR X f (rI C fun i j=>.int (g i j)):=by
 intro pins s σ H x y v u Q I rx ry h;obtain⟨i,j,rfl,rfl,hc,q⟩:=h;obtain⟨t,rfl⟩:=rx;obtain⟨t',rfl⟩:=ry;exact rule i j t t' s _ _ hc ⟨.int (g i j),H,I.tok _,⟨_,rfl⟩,q⟩
theorem opI0 {g:Int->Int->Int}
 (rule:∀(i j:Int)(t u:Tok)(s:Shared)(Q:vSP)(E:vSP),Q (.int (g i j) s.toks) { s with toks:=s.toks+1 }->wpAny (model X.prog X.w) X.A (f (.int i t) (.int j u)) Q E s):
 OpR X f (rI0 fun i j=>.int (g i j)):=by
 intro pins s σ H x y v u Q I rx ry h;obtain⟨i,j,rfl,rfl,q⟩:=h;obtain⟨t,rfl⟩:=rx;obtain⟨t',rfl⟩:=ry;exact rule i j t t' s _ _ ⟨.int (g i j),H,I.tok _,⟨_,rfl⟩,q⟩
theorem opB0 {g:Int->Int->Bool}
 (rule:∀(i j:Int)(t u:Tok)(s:Shared)(Q:vSP)(E:vSP),Q (.bool (g i j)) s->wpAny (model X.prog X.w) X.A (f (.int i t) (.int j u)) Q E s):
 OpR X f (rI0 fun i j=>.bl (g i j)):=by
 intro pins s σ H x y v u Q I rx ry h;obtain⟨i,j,rfl,rfl,q⟩:=h;obtain⟨t,rfl⟩:=rx;obtain⟨t',rfl⟩:=ry;exact rule i j t t' s _ _ ⟨.bl (g i j),H,I,rfl,q⟩
noncomputable def CDiv (i j:Int):Prop:=0<j/\j<1073741824
noncomputable def CPow (i j:Int):Prop:=0<=j/\j<=1000000/\i.natAbs<2 ^ 64
noncomputable def CMul (i j:Int):Prop:=(-(2 ^ 64)<i/\i<2 ^ 64)\/(-(2 ^ 64)<j/\j<2 ^ 64)
theorem CMul.ok {i j:Int}(h:CMul i j):IntMulOk i j:=by
 rcases h with ⟨h1,h2⟩ | ⟨h1,h2⟩
 . exact .of_left (intBits_le_64 h1 h2)
 . exact .of_right (intBits_le_64 h1 h2)
theorem zBs:OpR X (binaryOp .Add) (rI0 fun i j=>.int (i+j)):=opI0 fun _ _ _ _ _ _ _ q=>add_int q
theorem zC6:OpR X (binaryOp .Sub) (rI0 fun i j=>.int (i-j)):=opI0 fun _ _ _ _ _ _ _ q=>sub_int q
theorem zF3:OpR X (binaryOp .Mult) (rI CMul fun i j=>.int (i*j)):=opI fun _ _ _ _ _ _ _ hc q=>mul_int q hc.ok
theorem zE7:OpR X (binaryOp .FloorDiv) (rI CDiv fun i j=>.int (i/j)):=opI fun i j _ _ _ _ _ hc q=>by have h1:(0:Int)<j:=hc.1;have h2:j<1073741824:=hc.2;exact floordiv_int (by omega) (by rw[Int.fdiv_eq_ediv_of_nonneg i (by omega)];exact q) (.inl (PyProof.noPylong_small (by omega)))
theorem zD9:OpR X (binaryOp .Mod) (rI (fun _ j=>0<j) fun i j=>.int (i%j)):=opI fun i j _ _ _ _ _ hc q=>by have h1:(0:Int)<j:=hc;exact mod_int' (by omega) (by rw[Int.fmod_eq_emod_of_nonneg i (by omega)];exact q)
theorem op_pow:OpR X (binaryOp .Pow) (rI CPow fun i j=>.int (i ^ j.toNat)):=opI fun _ _ _ _ _ _ _ hc q=>pow_int_small hc.1 hc.2.1 hc.2.2 q
theorem unI {f:Value->Sem Value}{g:Int->Int}
 (rule:∀(i:Int)(t:Tok)(s:Shared)(Q:vSP)(E:vSP),Q (.int (g i) s.toks) { s with toks:=s.toks+1 }->wpAny (model X.prog X.w) X.A (f (.int i t)) Q E s):
 UnR X f (rU fun i=>.int (g i)):=by
 intro pins s σ H x v Q I rx h;obtain⟨i,rfl,q⟩:=h;obtain⟨t,rfl⟩:=rx;exact rule i t s _ _ ⟨.int (g i),H,I.tok _,⟨_,rfl⟩,q⟩
theorem zFS:UnR X (unaryOp .USub) (rU fun i=>.int (-i)):=unI fun _ _ _ _ _ q=>neg_int q
end
noncomputable def scal:V->V->Bool
 | .non,.non=>true | .non,.int _=>true | .int _,.non=>true | .non,.bl _=>true | .bl _,.non=>true | .non,.str _=>true | .str _,.non=>true
 | .int _,.int _=>true | .bl _,.bl _=>true | .str _,.str _=>true | .byt _,.byt _=>true
 | .int _,.str _=>true | .str _,.int _=>true | .bl _,.str _=>true | .str _,.bl _=>true
 | _,_=>false
inductive rEq_r (x:V)(y:V)(H:Hp)(Q:VK):Prop
 | mk:(scal x y=true)->(Q (.bl (decide (x=y))) H)->rEq_r x y H Q
noncomputable def rEq:R2:=fun x y H Q=>rEq_r x y H Q
inductive rNe_r (x:V)(y:V)(H:Hp)(Q:VK):Prop
 | mk:(scal x y=true)->(Q (.bl (!decide (x=y))) H)->rNe_r x y H Q
noncomputable def rNe:R2:=fun x y H Q=>rNe_r x y H Q
theorem zKT {i j:Int}:decide (V.int i=V.int j)=(i==j):=by rw[Bool.eq_iff_iff];simp
theorem zMp {i j:Bool}:decide (V.bl i=V.bl j)=(i==j):=by rw[Bool.eq_iff_iff];simp
theorem zKR {i j:Str}:decide (V.str i=V.str j)=(i==j):=by rw[Bool.eq_iff_iff];simp
theorem zKU {i j:Array UInt8}:decide (V.byt i=V.byt j)=(i.toList==j.toList):=by rw[Bool.eq_iff_iff];cases i;cases j;simp
section
variable {X:Cx}{a b c:Expr}{ta tb tc:TE}{pos:Pos}
theorem zBB {pins:lPO}{Q:VK}{k k':Bool}(I:Inv X pins σ H s)(q:Q (.bl k) H)(e:k=k'):EP X pins σ Q (.bool k') s:=by subst e;exact⟨.bl k,H,I,rfl,q⟩
theorem zCK:OpR X (compareOp .Eq) rEq:=by
 intro pins s σ H x y v u Q I rx ry h;obtain⟨hs,q⟩:=h;cases x with
 | non=>
  cases rx;cases y with
  | non=>cases ry;exact PySem.EqNone.eq_none_none (zBB I q (by simp))
  | bl j=>cases ry;exact PySem.EqNone.eq_none_bool (zBB I q (by simp))
  | int j=>obtain⟨t',rfl⟩:=ry;exact PySem.EqNone.eq_none_int (zBB I q (by simp))
  | str j=>obtain⟨t',rfl⟩:=ry;exact PySem.EqNone.eq_none_str (zBB I q (by simp))
  | _=>exact absurd (show false=true from hs) zn
 | bl i=>
  cases rx;cases y with
  | non=>cases ry;exact PySem.EqNone.eq_bool_none (zBB I q (by simp))
  | bl j=>cases ry;exact eq_bool (zBB I q zMp)
  | str j=>obtain⟨t',rfl⟩:=ry;exact PySem.EqMixed.eq_bool_str (zBB I q (by simp))
  | _=>exact absurd (show false=true from hs) zn
 | int i=>
  obtain⟨t,rfl⟩:=rx;cases y with
  | non=>cases ry;exact PySem.EqNone.eq_int_none (zBB I q (by simp))
  | int j=>obtain⟨t',rfl⟩:=ry;exact eq_int (zBB I q zKT)
  | str j=>obtain⟨t',rfl⟩:=ry;exact PySem.EqMixed.eq_int_str (zBB I q (by simp))
  | _=>exact absurd (show false=true from hs) zn
 | str i=>
  obtain⟨t,rfl⟩:=rx;cases y with
  | non=>cases ry;exact PySem.EqNone.eq_str_none (zBB I q (by simp))
  | bl j=>cases ry;exact PySem.EqMixed.eq_str_bool (zBB I q (by simp))
  | int j=>obtain⟨t',rfl⟩:=ry;exact PySem.EqMixed.eq_str_int (zBB I q (by simp))
  | str j=>obtain⟨t',rfl⟩:=ry;exact eq_str (zBB I q zKR)
  | _=>exact absurd (show false=true from hs) zn
 | byt i=>
  obtain⟨t,rfl⟩:=rx;cases y with
  | byt j=>obtain⟨t',rfl⟩:=ry;exact PySem.W.eq_bytes (zBB I q zKU)
  | _=>exact absurd (show false=true from hs) zn
 | _=>cases y <;> exact absurd (show false=true from hs) zn
theorem zGf:OpR X (compareOp .NotEq) rNe:=by
 intro pins s σ H x y v u Q I rx ry h;obtain⟨hs,q⟩:=h;cases x with
 | non=>
  cases rx;cases y with
  | non=>cases ry;exact PySem.EqNone.ne_none_none (zBB I q (by simp))
  | bl j=>cases ry;exact PySem.EqNone.ne_none_bool (zBB I q (by simp))
  | int j=>obtain⟨t',rfl⟩:=ry;exact PySem.EqNone.ne_none_int (zBB I q (by simp))
  | str j=>obtain⟨t',rfl⟩:=ry;exact PySem.EqNone.ne_none_str (zBB I q (by simp))
  | _=>exact absurd (show false=true from hs) zn
 | bl i=>
  cases rx;cases y with
  | non=>cases ry;exact PySem.EqNone.ne_bool_none (zBB I q (by simp))
  | bl j=>cases ry;exact ne_bool (zBB I q (congrArg not zMp))
  | str j=>obtain⟨t',rfl⟩:=ry;exact PySem.EqMixed.ne_bool_str (zBB I q (by simp))
  | _=>exact absurd (show false=true from hs) zn
 | int i=>
  obtain⟨t,rfl⟩:=rx;cases y with
  | non=>cases ry;exact PySem.EqNone.ne_int_none (zBB I q (by simp))
  | int j=>obtain⟨t',rfl⟩:=ry;exact ne_int (zBB I q (congrArg not zKT))
  | str j=>obtain⟨t',rfl⟩:=ry;exact PySem.EqMixed.ne_int_str (zBB I q (by simp))
  | _=>exact absurd (show false=true from hs) zn
 | str i=>
  obtain⟨t,rfl⟩:=rx;cases y with
  | non=>cases ry;exact PySem.EqNone.ne_str_none (zBB I q (by simp))
  | bl j=>cases ry;exact PySem.EqMixed.ne_str_bool (zBB I q (by simp))
  | int j=>obtain⟨t',rfl⟩:=ry;exact PySem.EqMixed.ne_str_int (zBB I q (by simp))
  | str j=>obtain⟨t',rfl⟩:=ry;exact ne_str (zBB I q (congrArg not zKR))
  | _=>exact absurd (show false=true from hs) zn
 | byt i=>
  obtain⟨t,rfl⟩:=rx;cases y with
  | byt j=>obtain⟨t',rfl⟩:=ry;exact PySem.W.ne_bytes (zBB I q (congrArg not zKU))
  | _=>exact absurd (show false=true from hs) zn
 | _=>cases y <;> exact absurd (show false=true from hs) zn
theorem zF4:OpR X (compareOp .Lt) (rI0 fun i j=>.bl (decide (i<j))):=opB0 fun _ _ _ _ _ _ _ q=>lt_int q
theorem op_le:OpR X (compareOp .LtE) (rI0 fun i j=>.bl (decide (i<=j))):=opB0 fun _ _ _ _ _ _ _ q=>le_int q
theorem zEA:OpR X (compareOp .Gt) (rI0 fun i j=>.bl (decide (j<i))):=opB0 fun _ _ _ _ _ _ _ q=>gt_int q
theorem op_ge:OpR X (compareOp .GtE) (rI0 fun i j=>.bl (decide (j<=i))):=opB0 fun _ _ _ _ _ _ _ q=>ge_int q
theorem zCc:OpR X (compareOp .Is) (fun x y H Q=>y=.non/\Q (.bl (decide (x=.non))) H):=by
 intro pins s σ H x y v u Q I rx ry h;obtain⟨rfl,q⟩:=h;cases ry;refine is_none_gen (zBB I q ?_);cases x <;> first
  | (cases rx;rfl)
  | (obtain⟨t,rfl⟩:=rx;rfl)
theorem zCu:OpR X (compareOp .IsNot) (fun x y H Q=>y=.non/\Q (.bl (!decide (x=.non))) H):=by
 intro pins s σ H x y v u Q I rx ry h;obtain⟨rfl,q⟩:=h;cases ry;refine isnot_none_gen (zBB I q ?_);cases x <;> first
  | (cases rx;rfl)
  | (obtain⟨t,rfl⟩:=rx;rfl)
theorem zAB (b:Expr)(h:op ≠ .In:=by decide)(h2:op ≠ .NotIn:=by decide):behindInMarks op b=false:=by
 have e1:(op==CmpOp.In)=false:=by cases op <;> first | rfl | exact absurd rfl h
 have e2:(op==CmpOp.NotIn)=false:=by cases op <;> first | rfl | exact absurd rfl h2
 cases b <;> simp[behindInMarks,e1,e2]
theorem zBb {r:R2}(ho:OpR X (compareOp op) r)(ha:PE X a ta)(hb:PE X b tb)(hm:behindInMarks op b=false):PE X (.Compare a [op] [b] pos) (tOp r ta tb):=by intro pins s σ H Q I h;exact wpAny_Compare1 (binT ha hb I h fun v u s2 x y H2 I2 rx ry q=>ho pins s2 σ H2 x y v u Q I2 rx ry q) hm
inductive zId (Q:Bool->Hp->Prop)(x:V)(H':Hp):Prop
 | mk:∀k,(x=.bl k)->(Q k H')->zId Q x H'
noncomputable def tTest (t:TE):TT:=fun σ H Q=>t σ H fun x H'=>zId Q x H'
theorem zAA {r:R2}(ho:OpR X (compareOp op) r)(ha:PE X a ta)(hb:PE X b tb)(hm:behindInMarks op b=false):PT X (.Compare a [op] [b] pos) (tTest (tOp r ta tb)):=by
 intro pins s σ H Q I h;refine wpAny_isTrue_Compare1 (thn (ha pins s σ H _ I h) fun v s1 ⟨x,H1,I1,r1,q1⟩=>thn (hb pins s1 σ H1 _ I1 q1) fun u s2 ⟨y,H2,I2,r2,q2⟩=>
  thn (ho pins s2 σ H2 x y v u _ I2 r1 r2 q2) fun c s3 ⟨z,H3,I3,r3,k,e,q3⟩=>?_) hm
 subst e;cases r3;exact zBU ⟨H3,I3,q3⟩
theorem zHd:(sizeLine:Nat)<2 ^ 63:=by rw[sizeLine_eq];decide
theorem zC8 {x:V}(r:zBS [x] us):∃u,us=[u]/\zBm x u:=by
 cases r with
 | cons r1 r2=>cases r2;exact⟨_,rfl,r1⟩
theorem zIZ {x:V}(r:zBS [x,y] us):∃u w',us=[u,w']/\zBm x u/\zBm y w':=by
 cases r with
 | cons r1 r2=>
  cases r2 with
  | cons r3 r4=>cases r4;exact⟨_,_,rfl,r1,r3⟩
inductive rc_0 (xs:List V)(H:Hp)(Q:VK):Prop
 | mk:∀i j,(xs=[.int i,.int j])->(Q (.int (if j > i then j else i)) H)->rc_0 xs H Q
theorem zKe (hc:X.calm=true):zCl X (.builtin "max") rc_0:=by
 intro pins s σ H xs us Q I r h;obtain⟨i,j,rfl,q⟩:=h;obtain⟨u,w',rfl,⟨t,rfl⟩,⟨t',rfl⟩⟩:=zIZ r;refine max_two_ints (I.ok.hd hc) fun h' tk k=>⟨_,H,I.kept k,?_,q⟩;by_cases hj:j > i
 . rw[if_pos hj,if_pos hj];exact⟨_,rfl⟩
 . rw[if_neg hj,if_neg hj];exact⟨_,rfl⟩
inductive rc_1 (xs:List V)(H:Hp)(Q:VK):Prop
 | mk:∀i j,(xs=[.int i,.int j])->(Q (.int (if j<i then j else i)) H)->rc_1 xs H Q
theorem zKd (hc:X.calm=true):zCl X (.builtin "min") rc_1:=by
 intro pins s σ H xs us Q I r h;obtain⟨i,j,rfl,q⟩:=h;obtain⟨u,w',rfl,⟨t,rfl⟩,⟨t',rfl⟩⟩:=zIZ r;refine min_two_ints (I.ok.hd hc) fun h' tk k=>⟨_,H,I.kept k,?_,q⟩;by_cases hj:j<i
 . rw[if_pos hj,if_pos hj];exact⟨_,rfl⟩
 . rw[if_neg hj,if_neg hj];exact⟨_,rfl⟩
end
structure ObjM (h:Heap)(x dx C:Addr)(mA:sOV):Prop where
 obj:h.get? x=some (PySem.W.instObj C dx)
 ns:h.Ns1 dx mA
 ne:dx≠x
theorem zJ0 {dx:Addr}{mA:sOV}(n:h.Ns1 dx mA):∃od,h.get? dx=some od/\∀name,PySem.W.lookIn name od=some (mA name):=by
 obtain⟨o,es,ep,ho,hd,hk,_,hm⟩:=n;refine⟨o,ho,fun name=>?_⟩;have e:=hm name;unfold nsFind findBy at e;rw[<-Array.find?_toList] at e;unfold PySem.W.lookIn;rw[hd];dsimp only;split
 . rename_i y q
   rw[q] at e;exact congrArg some e
 . rename_i q
   rw[q] at e;have a:es.toList.any (·.refKey)=false:=by rw[List.any_eq_false];intro y hy;obtain⟨z,t,hkey⟩:=hk y (Array.mem_toList_iff.mp hy);simp[DictEntry.refKey,hkey]
   have a':¬ es.toList.any (·.refKey)=true:=by rw[a];exact zn
   rw[if_neg a'];exact congrArg some e
variable {C:Addr}
theorem ObjM.look {x dx:Addr}{mA:sOV}(I:ObjM h x dx C mA):∃od,PySem.W.InstAt h x (PySem.W.instObj C dx) C (some od)/\∀name,PySem.W.lookIn name od=some (mA name):=
 let ⟨od,ho,hl⟩:=zJ0 I.ns
 ⟨od,⟨I.obj,rfl,rfl,ho⟩,hl⟩
noncomputable def zIX (f:Str)(v:V):List (Str×V)->List (Str×V)
 | []=>[(f,v)]
 | (g,x)::r=>if g=f then (g,v)::r else (g,x)::zIX f v r
theorem zED (f g:Str)(v:V):∀fs:List (Str×V),(zIX f v fs).lookup g=if g=f then some v else fs.lookup g
 | []=>by
  show List.lookup g [(f,v)]=_;by_cases h:g=f
  . have hb:(g==f)=true:=beq_iff_eq.mpr h;simp only[List.lookup,hb,if_pos h]
  . have hb:(g==f)=false:=beq_eq_false_iff_ne.mpr h;simp only[List.lookup,hb,if_neg h]
 | (k,x)::r=>by
  have ih:=zED f g v r;rw[show zIX f v ((k,x)::r)=(if k=f then (k,v)::r else (k,x)::zIX f v r) from rfl]
  by_cases hk:k=f
  . rw[if_pos hk];by_cases h:g=k
    . have hb:(g==k)=true:=beq_iff_eq.mpr h;simp only[List.lookup,hb,if_pos (h.trans hk)]
    . have hb:(g==k)=false:=beq_eq_false_iff_ne.mpr h;simp only[List.lookup,hb,if_neg (fun e:g=f=>h (e.trans hk.symm))]
  . rw[if_neg hk];by_cases h:g=k
    . have hb:(g==k)=true:=beq_iff_eq.mpr h;simp only[List.lookup,hb,if_neg (fun e:g=f=>hk (h.symm.trans e))]
    . have hb:(g==k)=false:=beq_eq_false_iff_ne.mpr h;simp only[List.lookup,hb];exact ih
theorem zEI (f:Str)(v:V):∀fs:List (Str×V),f∈(zIX f v fs).map (·.1)/\∀g,g∈fs.map (·.1)->g∈(zIX f v fs).map (·.1)
 | []=>⟨by simp[zIX],fun g h=>by simp at h⟩
 | (k,x)::r=>by
  obtain⟨i1,i2⟩:=zEI f v r;rw[show zIX f v ((k,x)::r)=(if k=f then (k,v)::r else (k,x)::zIX f v r) from rfl]
  by_cases hk:k=f
  . rw[if_pos hk];subst hk;exact⟨by simp,fun g h=>by simpa using h⟩
  . rw[if_neg hk];refine⟨?_,fun g h=>?_⟩
    . rw[zAa];exact zg _ i1
    . rw[zAa] at h ⊢;rcases ze.mp h with e | e
      . exact ze.mpr (.inl e)
      . exact zg _ (i2 g e)
theorem zGv.some_of {o:Option Value}(r:zGv (some v) o):∃u,o=some u/\zBm v u:=by
 cases o with
 | none=>exact (show False from r).elim
 | some u=>exact⟨u,rfl,r⟩
section
variable {P:Program}{w:World}{H H':Hp}{h h':Heap}{a C dx:Addr}{fs fs':List (Str×V)}
theorem zNu (hok:HOk P w H h)(e:H a=some (.ins C dx fs)):∃mA,ObjM h a dx C mA/\(∀f,zGv (fs.lookup f) (mA f))/\PySem.Within mA (fs.map (·.1))/\fs.length<=1000/\H dx=some (.own a):=by obtain⟨d,z,ne,ob,mA,n,r,q⟩:=(show zBc P w H h a (.ins C dx fs) from hok a _ e);exact⟨mA,⟨ob,n,ne⟩,r,q,z,d⟩
end
structure Cls (K:PySem.W.Frag)(C:Addr):Prop where
 pg:PySem.W.plainGet K C Str.empty=true
 hd:PySem.W.hasDictIn K C=true
 po:PySem.W.plainOver K C=true
 sa:PySem.W.findIn K (.ref C) "__setattr__"=some (some (.builtin "object.__setattr__"))
theorem Cls.get (c:Cls K C)(f:Str):PySem.W.plainGet K C f=true:=c.pg
section
variable {X:Cx}{pins:lPO}{σ:St}{H:Hp}{s:Shared}{A:Around}{E:vSP}{Q:vSP}{c:Value}{b:Bool}
inductive zIV (K:PySem.W.Frag)(H:Hp):V->Value->Prop where
 | non:zIV K H .non (.type "NoneType")
 | bl (x:Bool):zIV K H (.bl x) (.type "bool")
 | int (i:Int):zIV K H (.int i) (.type "int")
 | str (x:Str):zIV K H (.str x) (.type "str")
 | flt (x:UInt64):zIV K H (.flt x) (.type "float")
 | lst {a:Addr}{xs:List V}(e:H a=some (.lst xs)):zIV K H (.ref a) (.type "list")
 | frz {a:Addr}{o:Obj}{xs:List V}(e:H a=some (.frz o (.lst xs))):zIV K H (.ref a) (.type "list")
 | tup {a:Addr}{xs:List V}(e:H a=some (.tup xs)):zIV K H (.ref a) (.type "tuple")
 | dK {a:Addr}{kvs:List (Key×V)}(e:H a=some (.dK kvs)):zIV K H (.ref a) (.type "dict")
 | dT {a:Addr}{kvs:List (List Key×V)}(e:H a=some (.dT kvs)):zIV K H (.ref a) (.type "dict")
 | ins {a C dx:Addr}{fs:List (Str×V)}(e:H a=some (.ins C dx fs))(cl:Cls K C)(ha:PySem.W.findIn K (.ref C) "__class__"=some (some (.builtin "object.__class__")))
  (hn:PySem.W.specialIn K (.builtin "object.__class__") "__get__"=some (some (.builtin "getset_descriptor.__get__"))) (htk:PySem.W.takesIn K (.builtin "object.__class__")=some true)
  (hm:PySem.W.mroIn K C (.type "object")=some true):zIV K H (.ref a) (.ref C)
theorem zJ8 {x:V}{t:Value}(I:Inv X pins σ H s)(rx:zBm x u)(ty:zIV X.K H x t)(e:PySem.W.kitOne X.K t c=some b)(h:∀tk,Q (.bool b) { s with toks:=tk }):
 wpAny (model X.prog X.w) A (call (.builtin "isinstance") [u,c]) Q E s:=by
 cases ty with
 | non=>cases (show u=Value.none from rx);exact PySem.W.kia_one PySem.W.kitx_none I.kIn True.intro e (fun z=>nomatch z) h
 | bl y=>cases (show u=Value.bool y from rx);exact PySem.W.kia_one PySem.W.kitx_bool I.kIn True.intro e (fun z=>nomatch z) h
 | int i=>obtain⟨t,q⟩:=(show ∃t,u=Value.int i t from rx);cases q;exact PySem.W.kia_one PySem.W.kitx_int I.kIn True.intro e (fun z=>nomatch z) h
 | str y=>obtain⟨t,q⟩:=(show ∃t,u=Value.str y t from rx);cases q;exact PySem.W.kia_one PySem.W.kitx_str I.kIn True.intro e (fun z=>nomatch z) h
 | flt y=>obtain⟨t,q⟩:=(show ∃t,u=Value.float y t from rx);cases q;exact PySem.W.kia_one PySem.W.kitx_float I.kIn True.intro e (fun z=>nomatch z) h
 | @lst a xs ea=>cases (show u=Value.ref a from rx);obtain⟨_,_,n,_,h1⟩:=(show zBc X.prog X.w H s.heap a (.lst xs) from I.hok a _ ea);exact PySem.W.kia_one PySem.W.kitx_list I.kIn ⟨_,h1,rfl⟩ e (fun z=>nomatch z) h
 | @frz a ob xs ea=>cases (show u=Value.ref a from rx);obtain⟨_,_,_,n,_,h1⟩:=(show zBc X.prog X.w H s.heap a (.frz ob (.lst xs)) from I.hok a _ ea);exact PySem.W.kia_one PySem.W.kitx_list I.kIn ⟨_,h1,rfl⟩ e (fun z=>nomatch z) h
 | @tup a xs ea=>cases (show u=Value.ref a from rx);obtain⟨_,_,_,p⟩:=(show zBc X.prog X.w H s.heap a (.tup xs) from I.hok a _ ea);obtain⟨o,h1,h2,_⟩:=p;exact PySem.W.kia_one PySem.W.kitx_tuple I.kIn ⟨o,h1,h2⟩ e (fun z=>nomatch z) h
 | @dK a kvs ea=>cases (show u=Value.ref a from rx);obtain⟨_,_,vs,_,p⟩:=(show zBc X.prog X.w H s.heap a (.dK kvs) from I.hok a _ ea);obtain⟨o,es,ep,h1,h2,_⟩:=p;exact PySem.W.kia_one PySem.W.kitx_dict I.kIn ⟨o,h1,h2.1⟩ e (fun z=>nomatch z) h
 | @dT a kvs ea=>cases (show u=Value.ref a from rx);obtain⟨_,_,xs,_,o,es,ep,h1,h2,_⟩:=(show zBc X.prog X.w H s.heap a (.dT kvs) from I.hok a _ ea);exact PySem.W.kia_one PySem.W.kitx_dict I.kIn ⟨o,h1,h2.1⟩ e (fun z=>nomatch z) h
 | @ins a C dx fs ea cl ha hn htk hm=>cases (show u=Value.ref a from rx);obtain⟨mA,O,_⟩:=zNu I.hok ea;obtain⟨od,J,_⟩:=O.look;exact PySem.W.kia_one (PySem.W.kitx_own (cl.get _) cl.hd ha hn htk hm) I.kIn J e (fun z=>nomatch z) h
end
structure zDE (k:Nat)(A:Around):Prop where
 hd:A.handled=none
 dp:A.depth+3*k+5<recursionLimit
 un:A.units+16*k+200<cLine
 gd:A.guards=some []
theorem zDE.mono {j k:Nat}(r:zDE k A)(h:j<=k):zDE j A:=⟨r.hd,by have:=r.dp;omega,by have:=r.un;omega,r.gd⟩
theorem zDE.deeper {k:Nat}(r:zDE (k+1) A)(env:Env):zDE k (A.deeper env):=
 ⟨r.hd,by have:=r.dp;show A.depth+1+3*k+5<_;omega,by have:=r.un;show A.units+3+16*k+200<_;omega,r.gd⟩
theorem zIH {kw:List (Str×Value)}:(A.under (.builtin "type.__call__" ⟨.ref C::us,kw⟩)).depth=A.depth+1:=by
 first | rfl | simp[Around.under,Code.weight,Code.isCreation,Code.isGuard,Code.isCaller,Code.frames,Code.isFrame,guardIds]
theorem zIG {kw:List (Str×Value)}:(A.under (.builtin "type.__call__" ⟨.ref C::us,kw⟩)).units=A.units+1:=by
 first | rfl | simp[Around.under,Code.cUnits,Code.frames,Code.isFrame]
theorem zDE.make {k:Nat}(r:zDE (k+1) A)(C:Addr)(us:List Value)(kw:List (Str×Value)):zDE k (A.under (.builtin "type.__call__" ⟨.ref C::us,kw⟩)):=
 ⟨r.hd,by have:=r.dp;rw[zIH];omega,by have:=r.un;rw[zIG];omega,by first | exact r.gd | (simp[Around.under,Code.guards,Code.isGuard,guardIds,pushGuards];exact r.gd)⟩
theorem zDE.depth {k:Nat}(r:zDE k A):A.depth<recursionLimit:=by have:=r.dp;omega
theorem zDE.units {k:Nat}(r:zDE k A):A.units+64<cLine:=by have:=r.un;omega
theorem zDE.units0 {k:Nat}(r:zDE k A):A.units<cLine:=by have:=r.un;omega
noncomputable def tNil:TA:=fun _ H Q=>Q [] H
noncomputable def zHz (ta:TE)(tr:TA):TA:=fun σ H Q=>ta σ H fun x H1=>tr σ H1 fun xs H2=>Q (x::xs) H2
section
variable {X:Cx}{e:Expr}{es:List Expr}{te:TE}{t:TA}{pos:Pos}
theorem zL:PA X [] tNil:=fun _ _ _ _ H Q I h=>Calls.spliced_nil ⟨[],H,I,.nil,h⟩
theorem zD (ha:PE X e te)(hr:PA X es t)(hs:starEach (e::es) X.env=(false,eval e X.env)::starEach es X.env:=by rfl):PA X (e::es) (zHz te t):=by intro pos pins s σ H Q I h;rw[hs];show wpAny _ _ (spliced ((false,eval e X.env)::backTo pos (starEach es X.env))) _ _ s;refine Calls.spliced_cons (thn (ha pins s σ H _ I h) fun u s1 ⟨x,H1,I1,r1,q1⟩=>?_);exact thn (hr pos pins s1 σ H1 _ I1 q1) fun us s2 ⟨xs,H2,I2,r2,q2⟩=>⟨x::xs,H2,I2,.cons r1 r2,q2⟩
inductive zLv (Q:VK)(xs:List V)(H1:Hp):Prop
 | mk:(xs.length<=sizeLine)->(∀p,H1 p=none->Q (.ref p) (upd H1 p (.tup xs)))->zLv Q xs H1
noncomputable def tTup (t:TA):TE:=fun σ H Q=>t σ H fun xs H1=>zLv Q xs H1
inductive zLx (Q:VK)(xs:List V)(H1:Hp):Prop
 | mk:(xs.length<=sizeLine)->(∀p,H1 p=none->Q (.ref p) (upd H1 p (.lst xs)))->zLx Q xs H1
noncomputable def tLst (t:TA):TE:=fun σ H Q=>t σ H fun xs H1=>zLx Q xs H1
theorem zAv {x1} (h:PA X es t):PE X (.Tuple es x1 pos) (tTup t):=by intro pins s σ H Q I hq;refine wpAny_Tuple_spliced (thn (h pos pins s σ H _ I hq) fun us s1 ⟨xs,H1,I1,r,z,q⟩=>⟨by rw[<-r.length];exact z,?_⟩);have hf:H1 s1.heap.objs.size=none:=I1.hok.fresh (zK _);refine⟨.ref s1.heap.objs.size,upd H1 s1.heap.objs.size (.tup xs),I1.laid (t':=s1.toks) (fun b u e=>zN _ e) (zK _) ?_,rfl,q _ hf⟩;exact⟨⟨z,_,zX _ rfl,rfl⟩,us,r,⟨_,zX _ rfl,rfl,_,rfl⟩⟩
theorem zBV (h:PA X es t):PE X (.List es pos) (tLst t):=by intro pins s σ H Q I hq;refine wpAny_List_spliced (thn (h pos pins s σ H _ I hq) fun us s1 ⟨xs,H1,I1,r,z,q⟩=>⟨by rw[<-r.length];exact z,?_⟩);have hf:H1 s1.heap.objs.size=none:=I1.hok.fresh (zK _);refine⟨.ref s1.heap.objs.size,upd H1 s1.heap.objs.size (.lst xs),I1.laid (t':=s1.toks) (fun b u e=>zN _ e) (zK _) ?_,rfl,q _ hf⟩;exact⟨z,us,0,r,zX _ rfl⟩
end
noncomputable abbrev Sp:=List V->Hp->VK->XK->Prop
noncomputable abbrev CXT:=List Env->Hp->Shared->XK->Value->Shared->Prop
structure zOC (P:Program)(w:World)(K:PySem.W.Frag)(mg:sOV)(base:Heap)(A:Around)(outer:List Env)(s:Shared)(H:Hp):Prop where
 frames:A.frames=some outer
 mod:Mod K mg base
 bs:∀b o,base.get? b=some o->s.heap.get? b=some o/\H b=none
 bsz:base.objs.size<=s.heap.objs.size
 funs:s.heap.FunFrames base outer
 frf:∀b∈frs outer,H b=none
 hok:HOk P w H s.heap
 bare:AllBare s.gens
noncomputable def CE (outer:List Env)(P:Program)(w:World)(H:Hp)(s:Shared)(Q:VK)(u:Value)(s':Shared):Prop:=
 ∃v H',s'.os=s.os/\AllBare s'.gens/\Un (frs outer) [] H H' s.heap s'.heap/\HOk P w H' s'.heap/\zBm v u/\Q v H'
noncomputable def CR (CX:CXT)(outer:List Env)(P:Program)(w:World)(H:Hp)(s:Shared)(Q:VK)(E:XK)(r:Result)(s':Shared):Prop:=
 match r with
 | .ok (.ret u)=>CE outer P w H s Q u s'
 | .ok _=>False
 | .error e=>CX outer H s E e s'
structure zAb (P:Program)(w:World)(K:PySem.W.Frag)(mg:sOV)(base:Heap)(CX:CXT)(k:Nat)(f:Addr)(fd:FuncData)(ps:List Str)(sp:Sp):Prop where
 len:∀vs H Q E,sp vs H Q E->vs.length=ps.length
 run:∀(A:Around)(outer:List Env)(s:Shared)(H:Hp)(args:Args)(us:List Value)(vs:List V)(Q:VK)(E:XK),zDE k A->zOC P w K mg base A outer s H->BindsTo s fd args (ps.zip us)->zBS vs us->sp vs H Q E ->
  codeAny (model P w) A (.call (.ref f) args) (CR CX outer P w H s Q E) s
theorem zAb.mono {P:Program}{w:World}{K:PySem.W.Frag}{mg:sOV}{base:Heap}{CX:CXT}{j k:Nat}{f:Addr}{fd:FuncData}{ps:List Str}{sp:Sp}(F:zAb P w K mg base CX j f fd ps sp)(h:j<=k):
 zAb P w K mg base CX k f fd ps sp:=⟨F.len,fun A outer s H args us vs Q E hr=>F.run A outer s H args us vs Q E (hr.mono h)⟩
variable {base:Heap}{CX:CXT}{ps:List Str}
theorem zAb.imp {P:Program}{mg:sOV}{k:Nat}{f:Addr}{fd:FuncData}{sp sp':Sp}(F:zAb P w K mg base CX k f fd ps sp)
 (h:∀vs H Q E,sp' vs H Q E->sp vs H Q E):zAb P w K mg base CX k f fd ps sp':=
 ⟨fun vs H Q E q=>F.len vs H Q E (h _ _ _ _ q),fun A outer s H args us vs Q E hr he hb hv hs=>F.run A outer s H args us vs Q E hr he hb hv (h _ _ _ _ hs)⟩
theorem zOC.make {P:Program}{mg:sOV}{outer:List Env}(e:zOC P w K mg base A outer s H)(C:Addr)(us:List Value)(kw:List (Str×Value)):
 zOC P w K mg base (A.under (.builtin "type.__call__" ⟨.ref C::us,kw⟩)) outer s H:=⟨by first | exact e.frames | (simpa [Around.under,Code.envs,Code.isFrame,pushEnvs] using e.frames),e.mod,e.bs,e.bsz,e.funs,e.frf,e.hok,e.bare⟩
section
variable {X:Cx}{pins:lPO}{σ:St}{H:Hp}{s s':Shared}
theorem Inv.env0 (I:Inv X pins σ H s):zOC X.prog X.w X.K X.mg X.base X.A X.stack s H:=
 ⟨I.ok.frames,I.ok.mod,I.bs,zAM I.ok.bsz I.sz,I.stack,I.stkFree,I.hok,I.bare⟩
theorem Inv.after {Q:VK}(I:Inv X pins σ H s)(h:CE X.stack X.prog X.w H s Q u s'):EP X pins σ Q u s':=by obtain⟨v,H',os,bare,un,hok,r,q⟩:=h;obtain⟨hh,g,d,t,os'⟩:=s';obtain rfl:os'=s.os:=os;exact⟨v,H',I.call (h':=hh) (g':=g) (d':=d) (t':=t) (ch:=[]) un hok bare (fun b z=>absurd z (by simp)),r,q⟩
end
noncomputable def tCall (sp:Sp)(dvs:List V)(E:XK)(t:TA):TE:=fun σ H Q=>t σ H fun vs H1=>sp (vs++dvs) H1 Q E
noncomputable def zDp (K:PySem.W.Frag)(fd:FuncData)(ps:List Str)(ds:List Value):Prop:=
 ∀(s:Shared)(us:List Value),K.In s.heap->(us++ds).length=ps.length->BindsTo s fd ⟨us,[]⟩ (ps.zip (us++ds))
theorem zDp.all {fd:FuncData}(h:∀us:List Value,us.length=ps.length->bindArgs fd ⟨us,[]⟩=pure (ps.zip us)):zDp K fd ps []:=fun s us _ hl=>by rw[zAG] at hl ⊢;exact .of_eq (h us hl)
noncomputable def zHq (CX:CXT)(X:Cx)(E:XK):Prop:=∀(pins:lPO)(σ:St)(H:Hp)(s:Shared)(e:Value)(s':Shared),Inv X pins σ H s->CX X.stack H s E e s'->X.xe e s'
section
variable {X:Cx}{CX:CXT}{k:Nat}{f C:Addr}{fd:FuncData}{ps:List Str}{sp:Sp}{dvs:List V}{ds:List Value}{E:XK}{x m:Str}{p pos apos:Pos}{e o:Expr}{es:List Expr}{ta:TE}{t:TA}
theorem run_fn {pins:lPO}{Q:VK}{vs:List V}(F:zAb X.prog X.w X.K X.mg X.base CX k f fd ps sp)(hr:zDE k X.A)(hb:zDp X.K fd ps ds)(hd:zBS dvs ds)(hx:zHq CX X E)
 (I:Inv X pins σ H s)(r:zBS vs us)(h:sp (vs++dvs) H Q E):wpAny (model X.prog X.w) X.A (call (.ref f) us) (EP X pins σ Q) X.xe s:=by
 have r2:zBS (vs++dvs) (us++ds):=r.append hd;have hl:(us++ds).length=ps.length:=by rw[<-r2.length];exact F.len _ _ _ _ h
 refine wpAny_call (codeAny_mono (F.run X.A X.stack s H ⟨us,[]⟩ (us++ds) (vs++dvs) Q E hr I.env0 (hb s us I.kIn hl) r2 h) fun r s' hq=>?_);cases r with
 | error e=>exact hx pins σ H s e s' I hq
 | ok fl=>
  cases fl with
  | ret u=>exact I.after hq
  | next=>exact False.elim hq
  | brk=>exact False.elim hq
  | cont=>exact False.elim hq
theorem zD7 (F:zAb X.prog X.w X.K X.mg X.base CX k f fd ps sp)(hr:zDE k X.A)(hg:Gl X x)(hm:X.mg x=some (.ref f))(hk:PySem.W.keepIn X.K (.ref f)=true)(hb:zDp X.K fd ps ds)(hd:zBS dvs ds)(hx:zHq CX X E)
 (ha:PA X (e::es) t)(hdb:(x==("__debug__" : Str))=false:=by decide) (he:starEach (e::es) X.env=(false,eval e X.env)::starEach es X.env:=by rfl)(hpl:(backTo pos (starEach es X.env)).any (·.1)=false:=by rfl):
 PE X (.Call (.Name x p) (e::es) [] pos) (tCall sp dvs E t):=by
 intro pins s σ H Q I h;refine zBd (zFB I hg hm ?_ hdb);refine PySem.W.callWith_K (h₀:=X.base) I.ok.mod.kin hk (thn (ha pos pins s σ H _ I h) fun us s1 ⟨vs,H1,I1,r,q⟩=>⟨I1.kIn,?_⟩) he hpl;exact run_fn F hr hb hd hx I1 r q
end
structure zAE (N P:List Str)(sc:Scope):Prop where
 kind:sc.kind=.function
 co:sc.isCoroutine=false
 gen:sc.isGenerator=false
 nd:N.Nodup
 pre:N.take P.length=P
 par:∀x∈P,sc.names.lookup x=some .local\/sc.names.lookup x=some .cell
 nofree:∀y∈sc.names,y.2 ≠ .free
theorem fS0 {P:List Str}{sc:Scope}(a:sc.kind=.function:=by rfl)(b:sc.isCoroutine=false:=by rfl)(c:sc.isGenerator=false:=by rfl)(d:N.Nodup:=by decide +kernel)(e:N.take P.length=P:=by rfl)(f:∀x∈P,sc.names.lookup x=some .local\/sc.names.lookup x=some .cell:=by decide +kernel)(g:∀y∈sc.names,y.2 ≠ .free:=by decide +kernel):zAE N P sc:=⟨a,b,c,d,e,f,g⟩
theorem zGS {kindOf:Str->Option NameKind}{x:Str}:∀{binds:List (Str×Value)}{m:sOV},(∀v,(x,v)∉binds)->bindL kindOf binds m x=m x
 | [],_,_=>rfl
 | (n,v)::r,m,h=>by
  unfold bindL;rw[zGS fun w hw=>h w (zg _ hw)];split
  . have:x≠n:=by rintro rfl;exact h v zZ
    simp[this]
  . rfl
theorem zGU {kindOf:Str->Option NameKind}{x:Str}:∀{binds:List (Str×Value)}{m:sOV},(∀v,(x,v)∉binds)->bindC kindOf binds m x=m x
 | [],_,_=>rfl
 | (n,v)::r,m,h=>by
  unfold bindC;rw[zGU fun w hw=>h w (zg _ hw)];split
  . rfl
  . have:x≠n:=by rintro rfl;exact h v zZ
    simp[this]
theorem zGT {kindOf:Str->Option NameKind}{x:Str}{v:Value}:∀{P:List Str}{vs:List Value}{i:Nat}{m:sOV},P.Nodup->P[i]?=some x->vs[i]?=some v->kindOf x=some .local ->
 bindL kindOf (P.zip vs) m x=some v
 | [],_,_,_,_,h,_,_=>by simp at h
 | _::_,[],_,_,_,_,h,_=>by simp at h
 | p::P,w::vs,0,m,nd,h1,h2,hk=>by simp at h1 h2;subst h1;subst h2;show bindL kindOf ((p,w)::P.zip vs) m p=_;unfold bindL;rw[zGS fun v hv=>(zBI.mp nd).1 (List.of_mem_zip hv).1,if_pos hk];simp
 | p::P,w::vs,i+1,m,nd,h1,h2,hk=>by show bindL kindOf ((p,w)::P.zip vs) m x=_;unfold bindL;exact zGT (i:=i) (zBI.mp nd).2 (by simpa using h1) (by simpa using h2) hk
theorem zGV {kindOf:Str->Option NameKind}{x:Str}{v:Value}:∀{P:List Str}{vs:List Value}{i:Nat}{m:sOV},P.Nodup->P[i]?=some x->vs[i]?=some v->kindOf x≠some .local ->
 bindC kindOf (P.zip vs) m x=some v
 | [],_,_,_,_,h,_,_=>by simp at h
 | _::_,[],_,_,_,_,h,_=>by simp at h
 | p::P,w::vs,0,m,nd,h1,h2,hk=>by simp at h1 h2;subst h1;subst h2;show bindC kindOf ((p,w)::P.zip vs) m p=_;unfold bindC;rw[zGU fun v hv=>(zBI.mp nd).1 (List.of_mem_zip hv).1,if_neg hk];simp
 | p::P,w::vs,i+1,m,nd,h1,h2,hk=>by show bindC kindOf ((p,w)::P.zip vs) m x=_;unfold bindC;exact zGV (i:=i) (zBI.mp nd).2 (by simpa using h1) (by simpa using h2) hk
noncomputable def start (N:List Str)(vs:List V):St:=vs.map some++List.replicate (N.length-vs.length) none
noncomputable def zIQ (CX:CXT)(P:Program)(w:World)(K:PySem.W.Frag)(mg:sOV)(base:Heap)(N:List Str)(qual:Str)(scope:Scope)(f:Addr)(cd:Value)(A:Around)(outer:List Env)(s:Shared)(H:Hp)(E:XK):Cx where
 prog:=P
 w:=w
 K:=K
 mg:=mg
 base:=base
 A:=A.deeper (envOfC qual scope s.heap.objs.size f cd)
 N:=N
 s₀:=s
 H₀:=H
 env:=envOfC qual scope s.heap.objs.size f cd
 outer:=outer
 stack:=envOfC qual scope s.heap.objs.size f cd::outer
 ex:=[]
 calm:=true
 fn:=fun _=>true
 pn:=[]
 xe:=fun e s'=>wpAny (model P w) (A.deeper (envOfC qual scope s.heap.objs.size f cd)) (leaving (envOfC qual scope s.heap.objs.size f cd) e) (fun _ s''=>CX outer H s E e s'') (fun e' s''=>CX outer H s E e' s'') s'
theorem zHm {sc:Scope}(h:sc.names.lookup x=some .cell):∃c,(cellsFrom n sc.names []).lookup x=some c:=by have q:=PySem.W.cellsFrom_some sc.names n [] (.inl h);exact zBK.mp q
theorem zKA {P:Program}{mg:sOV}{qual:Str}{scope:Scope}{f:Addr}{cd:Value}{outer:List Env}{s1:Shared}{E:XK}{vs:List V}
 (S:zAE N ps scope)(hd:A.handled=none)(e0:zOC P w K mg base A outer s H)(hl:vs.length=ps.length)(r:zBS vs us)
 (x:InCallC s s.heap.objs.size (bindL (envOfC qual scope s.heap.objs.size f cd).kindOf (ps.zip us) fun _=>none) (cellsFrom (s.heap.objs.size+1) scope.names []) (bindC (envOfC qual scope s.heap.objs.size f cd).kindOf (ps.zip us) fun _=>none) s1):
 Inv (zIQ CX P w K mg base N qual scope f cd A outer s H E) [] (start N vs) H s1:=by
 have hpl:ps.length<=N.length:=by have:=congrArg List.length S.pre;rw[zr] at this;omega
 obtain⟨h1,tk,rfl,hk⟩:=x.done;have noA:∀b:Addr,b∉(zIQ CX P w K mg base N qual scope f cd A outer s H E).ex:=fun b z=>absurd (show b∈([]:List Addr) from z) (by simp);refine⟨⟨e0.mod,S.kind,rfl,rfl,zK _,fun y z c h1 h2=>?_,fun y hy=>?_,fun y c _ h=>?_,fun _=>hd,Around.frames_deeper e0.frames,.inr ⟨rfl,rfl⟩,fun b z=>absurd z (noA b),e0.bs,e0.bsz,fun b _ _=>noA b,fun b z=>absurd z (noA b),e0.funs,e0.frf⟩,
  rfl,e0.bare,Un.kept hk,⟨_,x.toInCall.ns,fun i y v h1 h2 h3=>?_⟩,fun y c h=>⟨_,x.cell y c h⟩,e0.hok.fresh (zK _),fun y c h=>?_,fun p hp=>absurd (show p∈([]:lPO) from hp) (by simp),e0.hok.kept hk,?_⟩
 . exact name_of_addr x.apart (PySem.mem_of_lookup h1) (PySem.mem_of_lookup h2)
 . have hy:scope.names.lookup y=some .cell\/scope.names.lookup y=some .free:=hy;rcases hy with hy | hy
   . exact zHm hy
   . exact absurd rfl (S.nofree _ (PySem.mem_of_lookup hy))
 . exact zA9 (x.above y c (PySem.mem_of_lookup h))
 . have hi:i<vs.length:=by
    unfold start at h2;by_cases hi:i<vs.length
    . exact hi
    . rw[zO (by simpa using hi)] at h2;rw[zBT] at h2;split at h2 <;> cases h2
   have ha:vs[i]?=some v:=by
    unfold start at h2;rw[zP (by simpa using hi),zM] at h2;cases e:vs[i]? with
    | none=>rw[e] at h2;cases h2
    | some a=>rw[e] at h2;cases h2;rfl
   obtain⟨u,hu,rv⟩:=r.get ha;have hp:ps[i]?=some y:=by rw[<-S.pre,List.getElem?_take_of_lt (by omega)];exact h1
   have ndP:ps.Nodup:=by rw[<-S.pre];exact S.nd.sublist (List.take_sublist _ _)
   refine⟨u,rv,?_⟩;rcases S.par y (zV hp) with k | k
   . exact .inl ⟨k,zGT ndP hp hu k⟩
   . obtain⟨c,e⟩:=zHm (n:=s.heap.objs.size+1) k;refine .inr ⟨.inl k,c,e,?_⟩;have q:=x.cell y c e;rw[zGV ndP hp hu (by show scope.names.lookup y≠_;rw[k];decide)] at q;exact q
 . exact e0.hok.fresh (zA9 (x.above y c (PySem.mem_of_lookup h)))
 . unfold start;show _=N.length;rw[zJ,zB,zAe];omega
theorem fn_of {P:Program}{mg:sOV}{k:Nat}{f:Addr}{name qual:Str}{params:Arguments}{scope:Scope}{dV kV doc pm cdv ct oc:Value}{an od:Option Addr}
 {osl:Array (Option Value)}{sp:Sp}(lk:K.lookup f=some ⟨oc,od,.func (PySem.W.fnOf name qual params body scope dV kV doc pm an cdv ct),osl⟩)(hcd:PySem.W.codeIn K cdv qual=true)(S:zAE N ps scope)
 (len:∀vs H Q E,sp vs H Q E->vs.length=ps.length)
 (hbody:∀(A:Around)(outer:List Env)(s:Shared)(H:Hp)(vs:List V)(Q:VK)(E:XK),zDE k (A.deeper (envOfC qual scope s.heap.objs.size f cdv))->sp vs H Q E ->
  ∃t,PSs (zIQ CX P w K mg base N qual scope f cdv A outer s H E) body t/\t { nx:=fun _ H'=>Q .non H',rt:=Q } (start N vs) H):
 zAb P w K mg base CX (k+1) f (PySem.W.fnOf name qual params body scope dV kV doc pm an cdv ct) ps sp:=by
 refine⟨len,fun A outer s H args us vs Q E hr e0 hb r hsp=>?_⟩;have hl:=len _ _ _ _ hsp;have KX:K.In s.heap:=e0.mod.kin.keeps fun b o e=>(e0.bs b o e).1;have lim:s.heap.NoLimit:=e0.mod.nolimit.keeps fun b o e=>(e0.bs b o e).1;have hkind:∀y∈ps.zip us,scope.names.lookup y.1=some .local\/(scope.names.lookup y.1=some .cell/\((cellsFrom (s.heap.objs.size+1) scope.names []).lookup y.1).isSome=true):=fun ⟨n,v⟩ hy=>by
  rcases S.par n (List.of_mem_zip hy).1 with q | q
  . exact .inl q
  . exact .inr ⟨q,PySem.W.cellsFrom_some _ _ _ (.inl q)⟩
 refine codeAny_call_function hr.depth (KX _ _ lk) rfl S.co S.gen rfl (PySem.W.codeRec_of KX hcd) (hb _ _ _ _ ?_);refine wpAny_newFunctionEnv_cells S.kind hkind fun env he s1 x=>?_;subst he;refine⟨lim.keeps x.toInCall.keep,codeAny_func ?_⟩;obtain⟨t,ht,hq⟩:=hbody A outer s H vs Q E (hr.deeper _) hsp;have I:Inv (zIQ CX P w K mg base N qual scope f cdv A outer s H E) [] (start N vs) H s1:=zKA S hr.hd e0 hl r x;refine zAO (ht [] s1 (start N vs) H _ I hq) (fun fl s' hs=>?_) fun e s' hs=>hs;have fin:∀{σ':St}{H':Hp}{v:V}{u:Value},Inv (zIQ CX P w K mg base N qual scope f cdv A outer s H E) [] σ' H' s'->zBm v u->Q v H'->CE outer P w H s Q u s':=
  fun {σ' H' v u} J rv q=>⟨v,H',J.os,J.bare,J.base,J.hok,rv,q⟩
 cases fl with
 | ret u=>obtain⟨v,σ',H',J,rv,q⟩:=hs;exact fin J rv q
 | next=>obtain⟨σ',H',J,q⟩:=hs;exact fin (v:=V.non) (u:=Value.none) J rfl q
 | brk=>obtain⟨_,_,_,q⟩:=hs;exact False.elim q
 | cont=>obtain⟨_,_,_,q⟩:=hs;exact False.elim q
section
variable {X:Cx}{x:Str}{p pos:Pos}{e:Expr}{es:List Expr}{t:TA}{id T:String}{r:List V->Hp->VK->Prop}
noncomputable def tCB (r:List V->Hp->VK->Prop)(t:TA):TE:=fun σ H Q=>t σ H fun vs H1=>r vs H1 Q
theorem zAJ (hc:zCl X (.builtin id) r)(hm:X.mg x=none)(ha:PA X (e::es) t)(hg:Gl X x:=by rfl)(hv:bootBuiltins x=some (.builtin id):=by decide +kernel)(hn:x ≠ "__name__" := by decide) (hdb:(x==("__debug__" : Str))=false:=by decide)
 (he:starEach (e::es) X.env=(false,eval e X.env)::starEach es X.env:=by rfl)(hpl:(backTo pos (starEach es X.env)).any (·.1)=false:=by rfl):PE X (.Call (.Name x p) (e::es) [] pos) (tCB r t):=by
 intro pins s σ H Q I h;refine zBd (zC7 I hg hm hv ?_ hn hdb);exact PyProof.Rows.callWith_builtin1 (thn (ha pos pins s σ H _ I h) fun us s1 ⟨vs,H1,I1,r1,q1⟩=>hc pins s1 σ H1 vs us Q I1 r1 q1) he hpl
theorem zAr (hc:zCl X (.type T) r)(hm:X.mg x=none)(ha:PA X (e::es) t)(hg:Gl X x:=by rfl)(hv:bootBuiltins x=some (.type T):=by decide +kernel)(hn:x ≠ "__name__" := by decide) (hdb:(x==("__debug__" : Str))=false:=by decide)
 (he:starEach (e::es) X.env=(false,eval e X.env)::starEach es X.env:=by rfl)(hpl:(backTo pos (starEach es X.env)).any (·.1)=false:=by rfl):PE X (.Call (.Name x p) (e::es) [] pos) (tCB r t):=by
 intro pins s σ H Q I h;refine zBd (zC7 I hg hm hv ?_ hn hdb);exact PyProof.Rows.callWith_type1 (thn (ha pos pins s σ H _ I h) fun us s1 ⟨vs,H1,I1,r1,q1⟩=>hc pins s1 σ H1 vs us Q I1 r1 q1) he hpl
end
section
variable {κ:Type} [DecidableEq κ]
noncomputable def zCL (kvs:List (κ×V))(k:κ):Option V:=(kvs.find? fun kv=>decide (kv.1=k)).map (·.2)
noncomputable def zCs (kvs:List (κ×V))(k:κ)(v:V):List (κ×V):=
 if (kvs.any fun kv=>decide (kv.1=k))=true then kvs.map (fun kv=>if kv.1=k then (kv.1,v) else kv) else kvs++[(k,v)]
theorem zG0 {k:κ}:zCL ([]:List (κ×V)) k=none:=rfl
theorem zB6 {p:κ×V}{r:List (κ×V)}{k:κ}(e:p.1=k):zCL (p::r) k=some p.2:=by simp[zCL,zBr,e]
theorem zB7 {p:κ×V}{r:List (κ×V)}{k:κ}(e:¬ p.1=k):zCL (p::r) k=zCL r k:=by simp[zCL,zBr,e]
theorem zCO (k:κ):∀kvs:List (κ×V),(kvs.any fun kv=>decide (kv.1=k))=(zCL kvs k).isSome
 | []=>rfl
 | p::r=>by
  rw[List.any_cons];by_cases e:p.1=k
  . simp only[zB6 e,zS e,Bool.true_or,Option.isSome_some]
  . rw[zB7 e,zc e,Bool.false_or];exact zCO k r
theorem zG1 (k j:κ)(y:V):∀kvs:List (κ×V),zCL (kvs.map fun kv=>if kv.1=k then (kv.1,y) else kv) j=(zCL kvs j).map fun x=>if j=k then y else x
 | []=>rfl
 | p::r=>by
  have ih:=zG1 k j y r;rw[zAa];by_cases h:p.1=k
  . rw[if_pos h];by_cases e:p.1=j
    . rw[zB6 (p:=(p.1,y)) e,zB6 e,zAy,if_pos (e.symm.trans h)]
    . rw[zB7 (p:=(p.1,y)) e,zB7 e,ih]
  . rw[if_neg h];by_cases e:p.1=j
    . rw[zB6 (p:=p) e,zB6 e,zAy,if_neg (fun z=>h (e.trans z))]
    . rw[zB7 (p:=p) e,zB7 e,ih]
theorem zFR (k j:κ)(y:V):∀kvs:List (κ×V),zCL kvs k=none->zCL (kvs++[(k,y)]) j=if j=k then some y else zCL kvs j
 | [],_=>by
  by_cases e:k=j
  . rw[if_pos e.symm];exact zB6 (p:=(k,y)) e
  . rw[if_neg (fun z=>e z.symm)];exact zB7 (p:=(k,y)) e
 | p::r,hn=>by
  rw[List.cons_append];have hk:¬ p.1=k:=fun z=>by rw[zB6 z] at hn;cases hn
  rw[zB7 hk] at hn;have ih:=zFR k j y r hn;by_cases e:p.1=j
  . rw[zB6 e,zB6 e,if_neg (fun z=>hk (e.trans z))]
  . rw[zB7 e,zB7 e,ih]
theorem zGz (kvs:List (κ×V))(k j:κ)(y:V):zCL (zCs kvs k y) j=if j=k then some y else zCL kvs j:=by
 unfold zCs;by_cases a:(kvs.any fun kv=>decide (kv.1=k))=true
 . rw[if_pos a,zG1];rw[zCO] at a;by_cases e:j=k
   . obtain⟨x,hx⟩:=zBK.mp a;rw[if_pos e,e,hx,zAy,if_pos rfl]
   . rw[if_neg e];cases zCL kvs j with
     | none=>rfl
     | some x=>rw[zAy,if_neg e]
 . rw[if_neg a];refine zFR k j y kvs ?_;rw[zCO] at a;cases q:zCL kvs k with
   | none=>rfl
   | some x=>rw[q] at a;exact (a rfl).elim
theorem zBw (kvs:List (κ×V))(k:κ)(v:V):(zCs kvs k v).length<=kvs.length+1:=by
 unfold zCs;split
 . rw[zB];omega
 . rw[zJ,zt,List.length_nil];omega
theorem zDr {kvs:List (κ×V)}{k:κ}(v:V)(h:zCL kvs k=none):zCs kvs k v=kvs++[(k,v)]:=by unfold zCs;rw[zCO,h];exact if_neg (by decide)
theorem zGv.isSome_eq {o:Option V}{u:Option Value}(r:zGv o u):o.isSome=u.isSome:=by
 cases o with
 | none=>cases u with
  | none=>rfl
  | some _=>exact (show False from r).elim
 | some _=>cases u with
  | none=>exact (show False from r).elim
  | some _=>rfl
theorem KV.val {kvs:List (κ×V)}{vs:List (κ×Value)}(r:KV kvs vs)(k:κ):zGv (zCL kvs k) (valueAt vs k):=by
 unfold KV at r
 induction r with
 | nil=>exact True.intro
 | @cons p q ps qs h t ih=>
  obtain⟨h1,h2⟩:=h;by_cases e:p.1=k
  . have e':q.1=k:=h1.symm.trans e;have b:valueAt (q::qs) k=some q.2:=by simp[valueAt,zBr,e']
    rw[zB6 e,b];exact h2
  . have e':¬ q.1=k:=fun z=>e (h1.trans z);have b:valueAt (q::qs) k=valueAt qs k:=by simp[valueAt,zBr,e']
    rw[zB7 e,b];exact ih
theorem KV.any {kvs:List (κ×V)}{vs:List (κ×Value)}(r:KV kvs vs)(k:κ):(kvs.any fun kv=>decide (kv.1=k))=vs.any fun kv=>decide (kv.1=k):=by
 unfold KV at r
 induction r with
 | nil=>rfl
 | cons h t ih=>rw[List.any_cons,List.any_cons,ih,h.1]
theorem KV.repl {kvs:List (κ×V)}{vs:List (κ×Value)}(r:KV kvs vs)(k:κ)(ry:zBm y u):
 KV (kvs.map fun kv=>if kv.1=k then (kv.1,y) else kv) (vs.map fun kv=>if kv.1=k then (kv.1,u) else kv):=by
 unfold KV at r ⊢
 induction r with
 | nil=>exact .nil
 | @cons p q ps qs h t ih=>
  rw[zAa,zAa];refine .cons ?_ ih;obtain⟨h1,h2⟩:=h;by_cases e:p.1=k
  . rw[if_pos e,if_pos (h1.symm.trans e)];exact⟨h1,ry⟩
  . rw[if_neg e,if_neg (fun z=>e (h1.trans z))];exact⟨h1,h2⟩
theorem KV.put {kvs:List (κ×V)}{vs:List (κ×Value)}(r:KV kvs vs)(k:κ)(ry:zBm y u):KV (zCs kvs k y) (stored vs k u):=by
 unfold zCs stored;rw[r.any k];by_cases e:(vs.any fun kv=>decide (kv.1=k))=true
 . rw[if_pos e,if_pos e];exact r.repl k ry
 . rw[if_neg e,if_neg e];exact Paired.snoc r ⟨rfl,ry⟩
theorem KV.length {kvs:List (κ×V)}{vs:List (κ×Value)}(r:KV kvs vs):kvs.length=vs.length:=Paired.length r
end
theorem zIN {P:Program}{k:Key}(r:zBm (kV k) u):(zA2 P w).is k u=true:=by
 cases k with
 | inl i=>obtain⟨t,e⟩:=(show ∃t,u=Value.int i t from r);subst e;exact zGi P w i t
 | inr x=>obtain⟨t,e⟩:=(show ∃t,u=Value.str x t from r);subst e;exact zGh P w x t
theorem zGD {P:Program}{w:World}:∀{ks:List Key}{us:List Value},zBS (ks.map kV) us->ItemsAre (zA2 P w) ks us
 | [],_,r=>by rw[List.map_nil] at r;cases r;exact .nil
 | k::ks,_,r=>by
  rw[zAa] at r;cases r with
  | cons h t=>exact .cons (zIN h) (zGD t)
noncomputable abbrev KT (H:Hp):List (List Key×V)->List (List Key×Addr×Value)->Prop:=Paired fun p q=>p.1=q.1/\H q.2.1=some (.tup (p.1.map kV))/\zBm p.2 q.2.2
variable {xs:List (List Key×Addr×Value)}{kvs:List (List Key×V)}
theorem KT.val (r:KT H kvs xs)(k:List Key):zGv (zCL kvs k) ((atKey xs k).map (·.2)):=by
 induction r with
 | nil=>exact True.intro
 | @cons p q ps qs h t ih=>
  obtain⟨h1,_,h2⟩:=h;by_cases e:p.1=k
  . have e':q.1=k:=h1.symm.trans e;have b:atKey (q::qs) k=some q.2:=by simp[atKey,zBr,e']
    rw[zB6 e,b];exact h2
  . have e':¬ q.1=k:=fun z=>e (h1.trans z);have b:atKey (q::qs) k=atKey qs k:=by simp[atKey,zBr,e']
    rw[zB7 e,b];exact ih
theorem KT.repl (r:KT H kvs xs)(k:List Key)(ry:zBm y u):
 KT H (kvs.map fun kv=>if kv.1=k then (kv.1,y) else kv) (xs.map (putAt k u)):=by
 induction r with
 | nil=>exact .nil
 | @cons p q ps qs h t ih=>
  rw[zAa,zAa];refine .cons ?_ ih;obtain⟨h1,h2,h3⟩:=h;unfold putAt;by_cases e:p.1=k
  . rw[if_pos e,if_pos (h1.symm.trans e)];exact⟨h1,h2,ry⟩
  . rw[if_neg e,if_neg (fun z=>e (h1.trans z))];exact⟨h1,h2,h3⟩
theorem KT.put (r:KT H kvs xs)(k:List Key)(hb:H b=some (.tup (k.map kV)))(ry:zBm y u):
 KT H (zCs kvs k y) (storedH xs k b u):=by
 have e:(kvs.any fun kv=>decide (kv.1=k))=(atKey xs k).isSome:=by rw[zCO,(r.val k).isSome_eq,Option.isSome_map]
 unfold zCs storedH;rw[e];by_cases q:(atKey xs k).isSome=true
 . rw[if_pos q,if_pos q];exact r.repl k ry
 . rw[if_neg q,if_neg q];exact Paired.snoc r ⟨rfl,hb,ry⟩
theorem KT.keeps (r:KT H kvs xs)(ht:∀b ys,H b=some (.tup ys)->H' b=some (.tup ys)):KT H' kvs xs:=
 Paired.mapP r fun _ _ z=>⟨z.1,ht _ _ z.2.1,z.2.2⟩
section
variable {P:Program}{w:World}{H:Hp}{h:Heap}{a:Addr}
theorem rd_of {u:HO}(ok:HOk P w H h)(e:Rd H a u):zBc P w H h a u:=e.ok ok
theorem zKP {kvs:List (Key×V)}(ok:HOk P w H h)(e:Rd H a (.dK kvs)):kvs.length<=sizeLine/\(a==sysModules)=false/\∃vs,KV kvs vs/\h.DictOf (zA2 P w) a vs:=
 show zBc P w H h a (.dK kvs) from rd_of ok e
theorem dk_of {kvs:List (Key×V)}(ok:HOk P w H h)(e:H a=some (.dK kvs)):kvs.length<=sizeLine/\(a==sysModules)=false/\∃vs,KV kvs vs/\h.DictOf (zA2 P w) a vs:=zKP ok (.inl e)
theorem zGA {ks:List Key}(ok:HOk P w H h)(e:H a=some (.tup (ks.map kV))):(tupleKind (zA2 P w)).is h ks a:=by obtain⟨_,its,r,o,h1,h2,n,h3⟩:=(show zBc P w H h a (.tup (ks.map kV)) from ok a _ e);exact⟨o,its.toArray,n,h1,h2,h3,by simpa using zGD r⟩
theorem zKO (ok:HOk P w H h)(e:Rd H a (.dT kvs)):kvs.length<=sizeLine/\(a==sysModules)=false /\
 ∃xs,KT H kvs xs/\h.DictOfH (tupleKind (zA2 P w)) a xs:=by
 obtain⟨z,y,xs,r,o,es,ep,h1,h2,h3,h4,h5⟩:=(show zBc P w H h a (.dT kvs) from rd_of ok e);refine⟨z,y,xs,r,o,es,ep,h1,h2,h3,h4,fun x hx=>?_,h5⟩;have all:∀{l:List (List Key×V)}{m:List (List Key×Addr×Value)},KT H l m->∀x∈m,(tupleKind (zA2 P w)).is h x.1 x.2.1:=by
  intro l m q
  induction q with
  | nil=>intro x hx;exact nomatch hx
  | @cons p q ps qs hq t ih=>
   intro x hx;rcases ze.mp hx with e | hx
   . subst e;exact zGA ok (by rw[<-hq.1];exact hq.2.1)
   . exact ih x hx
 exact all r x hx
theorem dt_of (ok:HOk P w H h)(e:H a=some (.dT kvs)):kvs.length<=sizeLine/\(a==sysModules)=false /\
 ∃xs,KT H kvs xs/\h.DictOfH (tupleKind (zA2 P w)) a xs:=zKO ok (.inl e)
end
noncomputable def zDj (H:Hp)(a:Addr)(y:V)(r:Option V):Prop:=
 (∃kvs k,Rd H a (.dK kvs)/\y=kV k/\r=zCL kvs k)\/∃kvs k b,Rd H a (.dT kvs)/\y=.ref b/\H b=some (.tup (k.map kV))/\r=zCL kvs k
noncomputable def zKp (H:Hp)(a:Addr)(y v:V)(H':Hp):Prop:=
 (∃kvs k,H a=some (.dK kvs)/\y=kV k/\kvs.length<sizeLine/\H'=upd H a (.dK (zCs kvs k v))) \/
 ∃kvs k b,H a=some (.dT kvs)/\y=.ref b/\H b=some (.tup (k.map kV))/\kvs.length<sizeLine/\H'=upd H a (.dT (zCs kvs k v))
theorem zDj.k {kvs:List (Key×V)}{k:Key}(e:H a=some (.dK kvs)):zDj H a (kV k) (zCL kvs k):=.inl ⟨kvs,k,.inl e,rfl,rfl⟩
theorem zDj.t {k:List Key}(e:H a=some (.dT kvs))(eb:H b=some (.tup (k.map kV))):zDj H a (.ref b) (zCL kvs k):=.inr ⟨kvs,k,b,.inl e,rfl,eb,rfl⟩
theorem zKp.k {kvs:List (Key×V)}{k:Key}(e:H a=some (.dK kvs))(hl:kvs.length<sizeLine):zKp H a (kV k) v (upd H a (.dK (zCs kvs k v))):=.inl ⟨kvs,k,e,rfl,hl,rfl⟩
theorem zKp.t {k:List Key}(e:H a=some (.dT kvs))(eb:H b=some (.tup (k.map kV)))(hl:kvs.length<sizeLine):
 zKp H a (.ref b) v (upd H a (.dT (zCs kvs k v))):=.inr ⟨kvs,k,b,e,rfl,eb,hl,rfl⟩
section
variable {X:Cx}{pins:lPO}{σ:St}{H:Hp}{s:Shared}{a:Addr}{y v:V}{u r:Value}{o:Option V}{A:Around}{E:vSP}
theorem Inv.big (I:Inv X pins σ H s):sysModules<s.heap.objs.size:=by have h:mainGlobals<s.heap.objs.size:=(I.mod.glob.keeps I.bk).lt;exact zAp (by decide) h
theorem zKX {Q:vSP}(hu:A.units+1<cLine)(I:Inv X pins σ H s)(g:zDj H a y (some v))(ry:zBm y u)(h:∀w' s',Inv X pins σ H s'->zBm v w'->Q w' s'):
 wpAny (model X.prog X.w) A (getItem (.ref a) u) Q E s:=by
 rcases g with ⟨kvs,k,e,ey,l⟩ | ⟨kvs,k,b,e,ey,eb,l⟩
 . subst ey;obtain⟨z,hd,vs,rel,dd⟩:=zKP I.hok e;obtain⟨w',hw,rw'⟩:=zGv.some_of (v:=v) (o:=valueAt vs k) (by rw[l];exact rel.val k);exact wpAny_getItem_of (zIN ry) dd.mapOf hw (h w' _ (I.tok _) rw')
 . subst ey;cases (show u=Value.ref b from ry);obtain⟨z,hd,xs,rel,dd⟩:=zKO I.hok e;obtain⟨w',hw,rw'⟩:=zGv.some_of (v:=v) (o:=(atKey xs k).map (·.2)) (by rw[l];exact rel.val k);obtain⟨p,hp,hp2⟩:=Option.map_eq_some_iff.mp hw;refine wpAny_getItem_heap (tupleKind_room_in1 hu) (zGA I.hok eb) dd hp ?_;rw[hp2];exact h w' _ (I.tok _) rw'
theorem d_in {Q:vSP}(hu:A.units+1<cLine)(I:Inv X pins σ H s)(g:zDj H a y o)(ry:zBm y u)(h:∀s',Inv X pins σ H s'->Q (.bool o.isSome) s'):
 wpAny (model X.prog X.w) A (compareOp .In u (.ref a)) Q E s:=by
 rcases g with ⟨kvs,k,e,ey,l⟩ | ⟨kvs,k,b,e,ey,eb,l⟩
 . subst ey;obtain⟨z,hd,vs,rel,dd⟩:=zKP I.hok e;refine wpAny_in_of (zIN ry) hd dd.mapOf ?_;rw[<-(rel.val k).isSome_eq,<-l];exact h _ (I.tok _)
 . subst ey;cases (show u=Value.ref b from ry);obtain⟨z,hd,xs,rel,dd⟩:=zKO I.hok e;refine wpAny_in_heap (tupleKind_room_in1 hu) (zGA I.hok eb) hd dd ?_;have q:=(rel.val k).isSome_eq;rw[Option.isSome_map] at q;rw[<-q,<-l];exact h _ (I.tok _)
theorem zN5 {Q:vSP}(hu:A.units+1<cLine)(I:Inv X pins σ H s)(g:zDj H a y o)(ry:zBm y u)(h:∀s',Inv X pins σ H s'->Q (.bool (!o.isSome)) s'):
 wpAny (model X.prog X.w) A (compareOp .NotIn u (.ref a)) Q E s:=by
 rcases g with ⟨kvs,k,e,ey,l⟩ | ⟨kvs,k,b,e,ey,eb,l⟩
 . subst ey;obtain⟨z,hd,vs,rel,dd⟩:=zKP I.hok e;refine wpAny_notIn_of (zIN ry) hd dd.mapOf ?_;rw[<-(rel.val k).isSome_eq,<-l];exact h _ (I.tok _)
 . subst ey;cases (show u=Value.ref b from ry);obtain⟨z,hd,xs,rel,dd⟩:=zKO I.hok e;refine wpAny_notIn_heap (tupleKind_room_in1 hu) (zGA I.hok eb) hd dd ?_;have q:=(rel.val k).isSome_eq;rw[Option.isSome_map] at q;rw[<-q,<-l];exact h _ (I.tok _)
theorem zKV {h':Heap}{ob:HO}(I:Inv X pins σ H s)(mu:Mut (H a))(hs:Heap.SameBut a s.heap h')(he:∃q,h'.get? a=some q)(new:zBc X.prog X.w (upd H a ob) h' a ob):
 Inv X pins σ (upd H a ob) { s with heap:=h',toks:=t' }:=
 I.write (x:=a) (e:=a) mu (.inl rfl) (fun b q hb z=>(hs.2 b hb).trans z) he new
theorem zMo {P:Program}{h':Heap}{kvs:List (Key×V)}{vs:List (Key×Value)}(z:kvs.length<=sizeLine)(hd:(a==sysModules)=false)(rel:KV kvs vs)(dd:h'.DictOf (zA2 P w) a vs):
 zBc P w H' h' a (.dK kvs):=⟨z,hd,vs,rel,dd⟩
theorem zKW (hu:A.units+1<cLine)(I:Inv X pins σ H s)(g:zKp H a y v H')(ry:zBm y u)(rv:zBm v r)(h:∀s',Inv X pins σ H' s'->Q () s'):
 wpAny (model X.prog X.w) A (setItem (.ref a) u r) Q E s:=by
 rcases g with ⟨kvs,k,e,ey,l,eH⟩ | ⟨kvs,k,b,e,ey,eb,l,eH⟩
 . subst ey eH;obtain⟨z,hd,vs,rel,dd⟩:=dk_of I.hok e;have hz:vs.length<=sizeLine:=by rw[<-rel.length];exact z
   have hl:(zCs kvs k v).length<=sizeLine:=by have:=zBw kvs k v;omega
   refine wpAny_setItem_pairs (hsz:=hz) (zIN ry) dd fun h' dd' hs=>h _ ?_;have he:∃q,h'.get? a=some q:=let ⟨q,_,_,hq,_⟩:=dd';⟨q,hq⟩;exact zKV I (by rw[e];exact True.intro) hs he (zMo hl hd (rel.put k rv) dd')
 . subst ey eH;cases (show u=Value.ref b from ry);obtain⟨z,hd,xs,rel,dd⟩:=dt_of I.hok e;have hz:xs.length<=sizeLine:=by rw[<-Paired.length rel];exact z
   have hl:(zCs kvs k v).length<=sizeLine:=by have:=zBw kvs k v;omega
   refine wpAny_setItem_heap (hsz:=hz) (tupleKind_room_in1 hu) (zGA I.hok eb) dd fun h' dd' hs=>h _ ?_;obtain⟨q,es,ep,hq,h2,h3,h4,_,h5⟩:=dd';refine zKV I (by rw[e];exact True.intro) hs ⟨q,hq⟩ ⟨hl,hd,_,(rel.put k eb rv).keeps fun c ys ec=>?_,q,es,ep,hq,h2,h3,h4,h5⟩;rw[za (zCD ec e (fun z=>nomatch z))];exact ec
end
noncomputable def NoSl (i:Expr):Prop:=∀ov iv,subscripted i false ov iv=operate [ov,iv] (getItem ov iv)
theorem zM2 {prog:Program}{E:vSP}{env:Env}{value slice:Expr}{T id:String}{Q:vSP}
 (hl:typeLookup (.type T) "__getitem__"=pure (some (.builtin id))) (hs:NoSl slice)
 (h:wpAny (model prog w) A (eval value env) (fun o s₁=>wpAny (model prog w) A (eval slice env) (fun i s₂=>s₂.TypeIs o T/\wpAny (model prog w) A (getItem o i) Q E s₂) E s₁) E s):
 wpAny (model prog w) A (eval (.Subscript value slice pos) env) Q E s:=by
 refine Subscript_ (zAO h (fun o s₁ h₁=>zAO h₁ (fun i s₂ h₂=>?_) fun _ _ x=>x) fun _ _ x=>x);obtain⟨hT,h₂⟩:=h₂;unfold subscriptTail;refine zC ?_;rw[getitemInPython_of_ne hT.not_modules];refine zC (wpAny_specialOf hT hl ?_);have fin:wpAny (model prog w) A (subscripted slice false o i) (fun r s₃=>wpAny (model prog w) A (letTemporaryGo value o r >>= fun _=>pure r) Q E s₃) E s₂:=by rw[hs o i];exact wpAny_operating (zAO h₂ (fun r s₃ h₃=>zC (wpAny_letTemporaryGo (zG h₃))) fun _ _ x=>x)
 first
  | exact zG (zC fin)
  | exact zC (zG (zC fin))
  | exact zC fin
theorem zGp {pins:lPO}{o:Option V}(I:Inv X pins σ H s)(g:zDj H a y o):s.TypeIs (.ref a) "dict" := by
 rcases g with ⟨kvs,k,e,_,_⟩ | ⟨kvs,k,b,e,_,_,_⟩
 . obtain⟨_,_,vs,_,dd⟩:=zKP I.hok e;exact dd.typeIs
 . obtain⟨_,_,xs,_,dd⟩:=zKO I.hok e;exact dd.typeIs
inductive zIh (Q:VK)(x:V)(y:V)(H2:Hp):Prop
 | mk:∀a v,(x=.ref a)->(zDj H2 a y (some v))->(Q v H2)->zIh Q x y H2
noncomputable def tDGet (td ty:TE):TE:=fun σ H Q=>td σ H fun x H1=>ty σ H1 fun y H2=>zIh Q x y H2
inductive zLz (Q:VK)(y:V)(x:V)(H2:Hp):Prop
 | mk:∀a o,(x=.ref a)->(zDj H2 a y o)->(Q (.bl o.isSome) H2)->zLz Q y x H2
noncomputable def tDIn (ty td:TE):TE:=fun σ H Q=>ty σ H fun y H1=>td σ H1 fun x H2=>zLz Q y x H2
inductive zFX (Q:VK)(y:V)(x:V)(H2:Hp):Prop
 | mk:∀a o,(x=.ref a)->(zDj H2 a y o)->(Q (.bl (!o.isSome)) H2)->zFX Q y x H2
noncomputable def zM1 (ty td:TE):TE:=fun σ H Q=>ty σ H fun y H1=>td σ H1 fun x H2=>zFX Q y x H2
inductive zJU (D:zGZ)(σ:St)(v:V)(x:V)(y:V)(H3:Hp):Prop
 | mk:∀a H4,(x=.ref a)->(zKp H3 a y v H4)->(D.nx σ H4)->zJU D σ v x y H3
noncomputable def sDPut (td ty tv:TE):TS:=fun D σ H=>tv σ H fun v H1=>td σ H1 fun x H2=>ty σ H2 fun y H3=>zJU D σ v x y H3
section
variable {X:Cx}{o i e value:Expr}{pos pos' tpos:Pos}{td ty tv:TE}
theorem zCg (hu:X.A.units+1<cLine)(ho:PE X o td)(hi:PE X i ty)(hs:NoSl i):PE X (.Subscript o i pos) (tDGet td ty):=by intro pins s σ H Q I h;refine zM2 PySem.F.slot_dict_getitem.lookup hs (thn (ho pins s σ H _ I h) fun u s1 ⟨x,H1,I1,rx,q1⟩=>thn (hi pins s1 σ H1 _ I1 q1) fun iv s2 ⟨y,H2,I2,ry,a,v,ex,g,q2⟩=>?_);subst ex;obtain rfl:u=Value.ref a:=rx;exact⟨zGp I2 g,zKX hu I2 g ry fun w' s3 I3 rw'=>⟨v,H2,I3,rw',q2⟩⟩
theorem zJk (hu:X.A.units+1<cLine)(hi:PE X i ty)(ho:PE X o td):PC X .In i o (tDIn ty td):=by intro pins s σ H Q I h;refine thn (hi pins s σ H _ I h) fun iv s1 ⟨y,H1,I1,ry,q1⟩=>thn (ho pins s1 σ H1 _ I1 q1) fun u s2 ⟨x,H2,I2,rx,a,ov,ex,g,q2⟩=>?_;subst ex;obtain rfl:u=Value.ref a:=rx;exact d_in hu I2 g ry fun s3 I3=>⟨.bl ov.isSome,H2,I3,rfl,q2⟩
theorem zF1 (hu:X.A.units+1<cLine)(hi:PE X i ty)(ho:PE X o td):PC X .NotIn i o (zM1 ty td):=by intro pins s σ H Q I h;refine thn (hi pins s σ H _ I h) fun iv s1 ⟨y,H1,I1,ry,q1⟩=>thn (ho pins s1 σ H1 _ I1 q1) fun u s2 ⟨x,H2,I2,rx,a,ov,ex,g,q2⟩=>?_;subst ex;obtain rfl:u=Value.ref a:=rx;exact zN5 hu I2 g ry fun s3 I3=>⟨.bl (!ov.isSome),H2,I3,rfl,q2⟩
theorem zD4 (hu:X.A.units+1<cLine)(ho:PE X o td)(hi:PE X i ty)(hv:PE X value tv)(hs:swapsWith value (some (.Subscript o i pos')) pos.line X.env=pure false):
 PS X (.Assign [.Subscript o i pos'] value pos) (sDPut td ty tv):=by
 intro pins s σ H D I h;refine wpAny_Assign_Subscript (thn (hv pins s σ H _ I h) fun r s1 ⟨v,H1,I1,rv,q1⟩=>thn (ho pins s1 σ H1 _ I1 q1) fun u s2 ⟨x,H2,I2,rx,q2⟩=>thn (hi pins s2 σ H2 _ I2 q2) fun iv s3 ⟨y,H3,I3,ry,a,H4,ex,g,q3⟩=>?_) hs;subst ex;obtain rfl:u=Value.ref a:=rx;exact zKW hu I3 g ry rv fun s4 I4=>⟨σ,H4,I4,q3⟩
end
theorem zLf {P:Program}(h:Heap)(hb:sysModules<h.objs.size):zBc P w H (h.push { cls:=.type "dict",data:=.dict #[] }) h.objs.size (.dT []):=
 ⟨zk _,beq_eq_false_iff_ne.mpr (Ne.symm (zb hb)),[],.nil,_,#[],0,zX _ rfl,⟨rfl,rfl,rfl⟩,rfl,rfl,List.nodup_nil⟩
noncomputable def tDNewT:TE:=fun _ H Q=>∀p,H p=none->Q (.ref p) (upd H p (.dT []))
section
variable {X:Cx}{pos:Pos}
theorem zHZ:PE X (.Dict [] [] pos) tDNewT:=fun pins s σ H Q I h=>
 wpAny_Dict_empty ⟨.ref s.heap.objs.size,_,I.laid (a:=s.heap.objs.size) (o:=.dT []) (t':=s.toks) (fun _ _ q=>zN _ q) (zK _) (zLf s.heap I.big),rfl,h _ (I.hok.fresh (zK _))⟩
end
end L2
namespace HT
open PySem PyProof.Rows
noncomputable def lexLt:List Int->List Int->Bool
 | [],[]=>false
 | [],_::_=>true
 | _::_,[]=>false
 | x::xs,y::ys=>if x=y then lexLt xs ys else decide (x<y)
theorem lexLt_cons (x y:Int)(xs ys:List Int):lexLt (x::xs) (y::ys)=if x=y then lexLt xs ys else decide (x<y):=rfl
theorem zE9:lexLt [] []=false:=rfl
theorem zEf (y:Int)(ys:List Int):lexLt [] (y::ys)=true:=rfl
theorem zEg (x:Int)(xs:List Int):lexLt (x::xs) []=false:=rfl
theorem zLd (A:Around)(s:Shared)(a:Int)(t:Tok)(c:Int)(u:Tok):∃e,SeqAt.EqAt A s (.int a t) (.int c u) e/\(e=true↔a=c):=
 ⟨(a==c),SeqAt.EqAt.int_int a t c u,by simp⟩
theorem zK9 (A:Around)(s:Shared)(a:Int)(t:Tok)(c:Int)(u:Tok)(prog:Program)(w:World)(E:vSP)(Q:vSP)(h:Q (.bool (decide (a<c))) s):
 wpAny (model prog w) A (richCompare .Lt (.int a t) (.int c u)) Q E s:=
 (PyProof.Rows.lt_int h:wpAny (model prog w) A (compareOp .Lt (.int a t) (.int c u)) Q E s)
section
open PySem.SeqAt
open PySem.AutoSeq1 (wpAny_loadPart')
open PySem.MeetsSeq PySem.MeetsSeq2 PySem.MeetsSeq3
theorem zEy (l b:Addr)(items items2:Array Value)(n n2:Nat)(dd dd2:Option Addr)(sl sl2:Array (Option Value))(ns ms:List Int)(hi:IntsAre items.toList ns)(hj:IntsAre items2.toList ms):
 Meets (Builtin.«tuple.__lt__» ⟨[.ref l,.ref b],[]⟩)
  (fun _ R s=>s.heap.get? l=some { cls:=.type "tuple",dict:=dd,data:=.seq items n,slots:=sl }/\s.heap.get? b=some { cls:=.type "tuple",dict:=dd2,data:=.seq items2 n2,slots:=sl2 } /\
   R (.ok (.ret (.bool (lexLt ns ms)))) s):=
 .of_wp fun prog w A R s h=>by
  obtain⟨hp,g,d,tk,os⟩:=s;obtain⟨hl,hb,h⟩:=h;have f2:=AutoSeq1.sub_tuple_tuple;have z1:items.size=ns.length:=by rw[<-hi.length];simp
  have z2:items2.size=ms.length:=by rw[<-hj.length];simp
  wp_walk using wpAny_loadPart' hl,wpAny_loadPart' hb,wpAny_forIn_list _ (fun rest b s'=>b.1=none/\s'=⟨hp,g,d,tk,os⟩/\∃(vs ws:List Value)(ns' ms':List Int),rest=vs.zip ws /\
   IntsAre vs ns'/\IntsAre ws ms'/\ns'.length+items2.size=ms'.length+items.size/\R (.ok (.ret (.bool (lexLt ns' ms')))) ⟨hp,g,d,tk,os⟩) _
  case turn=>
   rintro ⟨y,x⟩ rest b s' ⟨hb',rfl,vs,ws,ns',ms',hz,hvi,hwi,hlen,hR⟩;cases hvi with
   | nil=>rw[List.zip_nil_left] at hz;cases hz
   | cons a t hvi'=>
    cases hwi with
    | nil=>rw[List.zip_nil_right] at hz;cases hz
    | cons c u hwi'=>
     rw[List.zip_cons_cons] at hz;injection hz with hyx hrest;injection hyx with hy hx;subst hy hx;rw[lexLt_cons] at hR;simp only[zt] at hlen;obtain⟨e,he,hiff⟩:=zLd A.in1 ⟨hp,g,d,tk,os⟩ a t c u;refine zC (he prog w _ _ ?_);cases e with
     | true=>
      rw[if_pos (hiff.mp rfl)] at hR
      wp_walk
      exact⟨rfl,rfl,_,_,_,_,hrest,hvi',hwi',by omega,hR⟩
     | false=>
      rw[if_neg (fun q=>absurd (hiff.mpr q) zn)] at hR;have hri:=zK9 A.in1 ⟨hp,g,d,tk,os⟩ a t c u prog w
      wp_walk using hri
      exact⟨_,rfl,by simpa using hR⟩
  case fin=>
   rintro ⟨b1,b2⟩ s' ⟨hb',rfl,vs,ws,ns',ms',hz,hvi,hwi,hlen,hR⟩;simp only at hb';subst hb';have hv:lexLt ns' ms'=decide (items.size<items2.size):=by
    cases hvi with
    | nil=>
     cases hwi with
     | nil=>simp only[List.length_nil] at hlen;rw[zE9];exact (zc (by omega)).symm
     | cons c u hw=>simp only[List.length_nil,zt] at hlen;rw[zEf];exact (zS (by omega)).symm
    | cons a t hv=>
     cases hwi with
     | nil=>simp only[List.length_nil,zt] at hlen;rw[zEg];exact (zc (by omega)).symm
     | cons c u hw=>rw[List.zip_cons_cons] at hz;cases hz
   rw[hv] at hR
   wp_walk
   exact⟨_,rfl,by simpa [Builtin.Tuple.tupleCompareSizes] using hR⟩
  case h=>
   exact⟨rfl,rfl,items.toList,items2.toList,ns,ms,rfl,hi,hj,by omega,h⟩
end
section
variable {prog:Program}{w:World}{A:Around}{E:vSP}{s:Shared}
theorem lt_tupInts {l b:Addr}{items items2:Array Value}{ns ms:List Int}{Q:vSP}(hl:IsTup s.heap l items)(hb:IsTup s.heap b items2)(hi:IntsAre items.toList ns)(hj:IntsAre items2.toList ms)
 (hu:A.units<cLine)(h:Q (.bool (lexLt ns ms)) s):wpAny (model prog w) A (compareOp .Lt (.ref l) (.ref b)) Q E s:=by
 obtain⟨⟨cls,dd,data,sl⟩,ho,hc,n,hd⟩:=id hl;obtain⟨⟨cls2,dd2,data2,sl2⟩,ho2,hc2,n2,hd2⟩:=id hb;simp only at hc hd hc2 hd2;subst hc hd hc2 hd2;exact richCompare_meets_room (op:=.Lt) ⟨_,ho,rfl⟩ ⟨_,ho2,rfl⟩ PySem.F.slot_tuple_lt PySem.F.entry_tuple_lt (PySem.F.args_tuple_lt_2 _ _) (zEy l b items items2 n n2 dd dd2 sl sl2 ns ms hi hj)
  ⟨ho,ho2,show Value.bool (lexLt ns ms)≠Value.notImplemented/\Q (.bool (lexLt ns ms)) s from ⟨(fun x=>nomatch x),h⟩⟩ hu
theorem cat_tup {t b:Addr}{vs ws:List Value}{Q:vSP}(ht:IsTup s.heap t vs.toArray)(hb:IsTup s.heap b ws.toArray)(hv:vs≠[])
 (h1:ws=[]->Q (.ref t) s)(h2:ws≠[]->Q (.ref s.heap.objs.size) { s with heap:=s.heap.push { cls:=.type "tuple",data:=.seq (vs++ws).toArray } })
 (hsz:vs.length+ws.length<=sizeLine):wpAny (model prog w) A (binaryOp .Add (.ref t) (.ref b)) Q E s:=by
 obtain⟨⟨cls,dd,data,sl⟩,ho,hc,n,hd⟩:=id ht;obtain⟨⟨cls2,dd2,data2,sl2⟩,ho2,hc2,n2,hd2⟩:=id hb;simp only at hc hd hc2 hd2;subst hc hd hc2 hd2;have e:vs.toArray++ws.toArray=(vs++ws).toArray:=by simp
 by_cases hw:ws=[]
 . exact concat_meets ⟨_,ho,rfl⟩ ⟨_,ho2,rfl⟩ noFill_tuple_add seq_tuple_add PySem.F.slot_tuple_add PySem.F.entry_tuple_add (PySem.F.args_tuple_add_2 _ _)
    (tuple_addW1 t b vs.toArray ws.toArray n n2 dd dd2 sl sl2 (by simpa using hv) (by simp[hw])) ⟨ho,ho2,h1 hw⟩
 . refine concat_meets ⟨_,ho,rfl⟩ ⟨_,ho2,rfl⟩ noFill_tuple_add seq_tuple_add PySem.F.slot_tuple_add PySem.F.entry_tuple_add (PySem.F.args_tuple_add_2 _ _)
    (tuple_addW2 t b vs.toArray ws.toArray n n2 dd dd2 sl sl2 (by simpa using hv) (by simpa using hw) (by rw[zU,zU];exact hsz)) ⟨ho,ho2,?_⟩
   rw[e];exact h2 hw
noncomputable def sIx (n d:Nat):Option Int->Nat
 | none=>d
 | some v=>if v<0 then (v+(n:Int)).toNat else min v.toNat n
theorem sIx_none (n d:Nat):sIx n d none=d:=rfl
theorem sIx_nat (n d k:Nat):sIx n d (some (k:Int))=min k n:=by
 show (if (k:Int)<0 then ((k:Int)+(n:Int)).toNat else min (k:Int).toNat n)=min k n
 rw[if_neg (by omega),zAu]
theorem sIx_le (n d:Nat)(hd:d<=n)(o:Option Int):sIx n d o<=n:=by
 cases o with
 | none=>exact hd
 | some v=>
  show (if v<0 then (v+(n:Int)).toNat else min v.toNat n)<=n
  by_cases hv:v<0
  . rw[if_pos hv];omega
  . rw[if_neg hv];exact Nat.min_le_right _ _
theorem zKb (v:Int)(n d:Nat):(if v<0 then max (v+(n:Int)) 0 else min v (n:Int))=((sIx n d (some v):Nat):Int):=by
 show (if v<0 then max (v+(n:Int)) 0 else min v (n:Int))=(((if v<0 then (v+(n:Int)).toNat else min v.toNat n):Nat):Int)
 by_cases hv:v<0
 . simp only[if_pos hv];omega
 . simp only[if_neg hv];omega
theorem zIU (lo hi:Option Int) (n:Nat):Builtin.Slice.sliceAdjust lo hi 1 (n:Int)=(((sIx n 0 lo:Nat):Int),((sIx n n hi:Nat):Int)):=by
 have h1:¬ ((1:Int)<0):=by omega
 unfold Builtin.Slice.sliceAdjust;simp only[h1,if_false];refine Prod.ext ?_ ?_
 . cases lo with
   | none=>rfl
   | some v=>exact zKb v n 0
 . cases hi with
   | none=>rfl
   | some v=>exact zKb v n n
theorem zIB (i j:Nat):Builtin.Slice.slicePlaces (i:Int) (j:Int) 1=j-i:=by
 unfold Builtin.Slice.slicePlaces;have h1:(1:Int) > 0:=by omega
 simp only[h1,if_true,Int.ediv_one];split <;> omega
theorem zEl {v:Value} {o:Option Int} {Q:Option Int->Shared->Prop} (p:IsPart v o) (h:Q o s):wpAny (model prog w) A (Builtin.Slice.slicePartIndex v) Q E s:=by
 cases p with
 | none=>exact slicePart_none h
 | int i t=>exact slicePart_int h
theorem zCm {sl:Addr}{vl vu:Value}{lo hi:Option Int}{n:Nat}{Q:Int×Int×Nat->Shared->Prop}(hs:s.heap.IsSliceOf sl vl vu .none)(pl:IsPart vl lo)(pu:IsPart vu hi)
 (h:Q (((sIx n 0 lo:Nat):Int),1,sIx n n hi-sIx n 0 lo) s):wpAny (model prog w) A (Builtin.Slice.sliceApplied (.ref sl) (pure (n:Int))) Q E s:=by
 obtain⟨os,hos,hcs,hds⟩:=id hs;unfold Builtin.Slice.sliceApplied Builtin.Slice.sliceFields;refine zC (zC (zA5 hos hds (x:=vl) rfl (zC (zA5 hos hds (x:=vu) rfl (zC (zA5 hos hds (x:=.none) rfl (zG ?_)))))));refine zC (slicePart_none ?_);show wpAny _ _ (if ((1:Int)==0)=true then _ else _) _ _ s
 rw[if_neg (by decide)];refine zC (zEl pl (zC (zEl pu (zC (zG ?_)))));show wpAny _ _ (match Builtin.Slice.sliceAdjust lo hi 1 (n:Int) with | (lo,hi)=>pure (lo,(1:Int),Builtin.Slice.slicePlaces lo hi 1)) _ _ s
 rw[zIU lo hi n];show wpAny _ _ (pure (((sIx n 0 lo:Nat):Int),(1:Int),Builtin.Slice.slicePlaces ((sIx n 0 lo:Nat):Int) ((sIx n n hi:Nat):Int) 1)) _ _ s;rw[zIB];exact zG h
theorem zLE (xs:Array Value)(i k:Nat):((List.range k).filterMap fun (m:Nat)=>xs[((i:Int)+(m:Int)*1).toNat]?).toArray=((xs.toList.drop i).take k).toArray:=by
 have e:(fun (m:Nat)=>xs[((i:Int)+(m:Int)*1).toNat]?)=fun m=>xs[i+m]?:=by
  funext m;have:((i:Int)+(m:Int)*1).toNat=i+m:=by omega
  rw[this]
 rw[e];have:=pick_run xs i k;rw[List.filterMap_map] at this;have e2:((fun x=>xs[x]?)∘fun x=>i+x)=fun m=>xs[i+m]?:=rfl;rw[e2] at this;rw[this]
theorem getItem_tuple_cut {t sl:Addr}{items:Array Value}{vl vu:Value}{lo hi:Option Int}{Q:vSP}(ht:IsTup s.heap t items)(hs:s.heap.IsSliceOf sl vl vu .none)(pl:IsPart vl lo)(pu:IsPart vu hi)
 (hw:¬ (sIx items.size 0 lo=0/\sIx items.size items.size hi=items.size))
 (h:Q (.ref s.heap.objs.size) { s with heap:=s.heap.push { cls:=.type "tuple",data:=.seq ((items.toList.drop (sIx items.size 0 lo)).take (sIx items.size items.size hi-sIx items.size 0 lo)).toArray } })
 (hsz:items.size<=sizeLine):wpAny (model prog w) A (getItem (.ref t) (.ref sl)) Q E s:=by
 have htake:sizeOk (.seq ((items.toList.drop (sIx items.size 0 lo)).take (sIx items.size items.size hi-sIx items.size 0 lo)).toArray):=by show ((items.toList.drop (sIx items.size 0 lo)).take (sIx items.size items.size hi-sIx items.size 0 lo)).toArray.size<=sizeLine;rw[zU,zr,zBN,Array.length_toList];omega
 have hj:sIx items.size items.size hi<=items.size:=sIx_le _ _ (zK _) hi;obtain⟨os,hos,hcs,hds⟩:=id hs;have hTs:s.TypeIs (.ref sl) "slice" := ⟨os,hos,hcs⟩;unfold getItem
 try with_reducible refine zAW ?_
 first | refine zC (zG ?_) | skip
 refine zC (wpAny_sequenceKey ht.typeIs (by decide) ?_);refine zC (zAg (name:=Str.ofString "__getitem__") ht.typeIs PyProof.Rows.slot_tuple_getitem
  (zAj PyProof.Rows.slot_tuple_getitem ht.typeIs entry_tuple_getitem ?_ (args_tuple_getitem _ _)))
 show wpAny _ _ (Builtin.Tuple.tupleItemsOf (.ref t) >>= _) _ _ s;refine zC (tupleItemsOf_ ht ?_);refine zC (zBv hTs ?_);rw[if_pos (by decide)];refine zC (zCm hs pl pu ?_);have hno:¬ ((((sIx items.size 0 lo:Nat):Int)==0 && (1:Int)==1 && (sIx items.size items.size hi-sIx items.size 0 lo)==items.size)=true):=by intro q;rw[zAk,zAk] at q;have q1:((sIx items.size 0 lo:Nat):Int)=0:=eq_of_beq q.1.1;have q2:sIx items.size items.size hi-sIx items.size 0 lo=items.size:=eq_of_beq q.2;exact hw ⟨by omega,by omega⟩
 show wpAny _ _ (if (((sIx items.size 0 lo:Nat):Int)==0 && (1:Int)==1 && (sIx items.size items.size hi-sIx items.size 0 lo)==items.size)=true then _ else _) _ _ s
 rw[if_neg hno,zLE]
 first
  | exact zC (m:=Builtin.Tuple.tupleExact _) (zAs (zG ⟨_,rfl,zG h⟩) htake)
  | exact zC (m:=Builtin.Tuple.tupleExact _) (zAs (zC (zG (zG ⟨_,rfl,zG h⟩))) htake)
  | exact zC (zC (m:=Builtin.Tuple.tupleExact _) (zAs (zG (zG ⟨_,rfl,zG h⟩)) htake))
  | exact zC (zC (m:=Builtin.Tuple.tupleExact _) (zAs (zG ⟨_,rfl,zG h⟩) htake))
end
end HT
namespace L2
open PySem PySem.Spec PyProof.Rows
noncomputable abbrev TO:=St->Hp->(Option Int->Hp->Prop)->Prop
noncomputable def PO (X:Cx)(e:Option Expr)(t:TO):Prop:=
 ∀(pins:lPO)(s:Shared)(σ:St)(H:Hp)(Q:Option Int->Hp->Prop),Inv X pins σ H s->t σ H Q ->
  wpAny (model X.prog X.w) X.A (evalPart e X.env) (fun u s'=>∃o H',Inv X pins σ H' s'/\IsPart u o/\Q o H') X.xe s
noncomputable def zGa:TO:=fun _ H Q=>Q none H
inductive zIe (Q:Option Int->Hp->Prop)(x:V)(H1:Hp):Prop
 | mk:∀i,(x=.int i)->(Q (some i) H1)->zIe Q x H1
noncomputable def zMz (t:TE):TO:=fun σ H Q=>t σ H fun x H1=>zIe Q x H1
theorem zBy {ns:List Int}:∀{us:List Value},zBS (ns.map V.int) us->IntsAre us ns:=by
 induction ns with
 | nil=>intro us r;rw[List.map_nil] at r;cases r;exact .nil
 | cons n ns ih=>
  intro us r;rw[zAa] at r;cases r with
  | cons r1 r2=>obtain⟨t,e⟩:=r1;subst e;exact .cons n t (ih r2)
variable {xs:List V}
section
variable {X:Cx}{e:Expr}{te:TE}{lo hi:Option Expr}{tl th:TO}{pos p2:Pos}
theorem zB8:PO X none zGa:=by intro pins s σ H Q I h;rw[evalPart_none];exact zG ⟨none,H,I,.none,h⟩
theorem zBn (h:PE X e te):PO X (some e) (zMz te):=by intro pins s σ H Q I hw;rw[evalPart_some];refine thn (h pins s σ H _ I hw) fun u s1 ⟨x,H1,I1,r1,q1⟩=>?_;obtain⟨i,rfl,q⟩:=q1;obtain⟨t,rfl⟩:=r1;exact⟨some i,H1,I1,.int i t,q⟩
noncomputable def SlR (X:Cx)(r:V->Option Int->Option Int->Hp->VK->Prop):Prop:=
 ∀(pins:lPO)(s:Shared)(σ:St)(H:Hp)(x:V)(v vl vu:Value)(lo hi:Option Int)(sl:Addr)(Q:VK),Inv X pins σ H s->zBm x v->s.heap.IsSliceOf sl vl vu .none->IsPart vl lo->IsPart vu hi->r x lo hi H Q ->
  ∃T id,typeLookup (.type T) "__getitem__"=pure (some (.builtin id))/\s.TypeIs v T/\wpAny (model X.prog X.w) X.A (getItem v (.ref sl)) (EP X pins σ Q) X.xe s
noncomputable def tSl (r:V->Option Int->Option Int->Hp->VK->Prop)(te:TE)(tl th:TO):TE:=fun σ H Q=>te σ H fun x H1=>tl σ H1 fun l H2=>th σ H2 fun u H3=>r x l u H3 Q
theorem zBY {r:V->Option Int->Option Int->Hp->VK->Prop}(hr:SlR X r)(he:PE X e te)(hl:PO X lo tl)(hu:PO X hi th):PE X (.Subscript e (.Slice lo hi none p2) pos) (tSl r te tl th):=by intro pins s σ H Q I h;refine Subscript_ (thn (he pins s σ H _ I h) fun v s1 ⟨x,H1,I1,r1,q1⟩=>?_);refine wpAny_Slice (thn (hl pins s1 σ H1 _ I1 q1) fun vl s2 ⟨l,H2,I2,pl,q2⟩=>thn (hu pins s2 σ H2 _ I2 q2) fun vu s3 ⟨u,H3,I3,pu,q3⟩=>?_);rw[evalPart_none];refine zG ?_;have I4:Inv X pins σ H3 { s3 with heap:=s3.heap.push { cls:=.type "slice",data:=.fields #[vl,vu,.none] } }:=I3.kept (t':=s3.toks) fun b ob q=>zN _ q;obtain⟨T,id,hT,ht,hg⟩:=hr pins { s3 with heap:=s3.heap.push { cls:=.type "slice",data:=.fields #[vl,vu,.none] } } σ H3 x v vl vu l u s3.heap.objs.size Q I4 r1 (Heap.IsSliceOf.new ..) pl pu q3;show wpAny (model X.prog X.w) X.A (subscriptTail e (.Slice lo hi none p2) v (.ref s3.heap.objs.size)) (EP X pins σ Q) X.xe { s3 with heap:=s3.heap.push { cls:=.type "slice",data:=.fields #[vl,vu,.none] } };exact tail_any (ops:=[.ref s3.heap.objs.size,v]) ht hT hg (by with_unfolding_all rfl)
noncomputable def zDw (xs:List V)(lo hi:Option Int):List V:=(xs.drop (HT.sIx xs.length 0 lo)).take (HT.sIx xs.length xs.length hi-HT.sIx xs.length 0 lo)
theorem zEU (xs:List V)(lo hi:Option Int):(zDw xs lo hi).length<=xs.length:=by unfold zDw;rw[zr,zBN];omega
inductive zML (K:PySem.W.Frag)(x:V)(lo:Option Int)(hi:Option Int)(H:Hp)(Q:VK):Prop
 | mk:∀a xs,(x=.ref a)->(SqT K H a xs)->(¬ (HT.sIx xs.length 0 lo=0/\HT.sIx xs.length xs.length hi=xs.length))->(∀p,H p=none->Q (.ref p) (upd H p (.tup (zDw xs lo hi))))->zML K x lo hi H Q
noncomputable def rSlT (K:PySem.W.Frag):V->Option Int->Option Int->Hp->VK->Prop:=fun x lo hi H Q=>zML K x lo hi H Q
theorem sl_tup:SlR X (rSlT X.K):=by
 intro pins s σ H x v vl vu lo hi sl Q I rx hs pl pu h;obtain⟨a,xs,rfl,hx,hw,q⟩:=h;cases rx;obtain⟨its,r,ht,hz⟩:=I.tuple hx;have hlen:its.toArray.size=xs.length:=by rw[zU];exact r.length.symm
 refine⟨"tuple",_,PyProof.Rows.slot_tuple_getitem.lookup,ht.typeIs,?_⟩;refine HT.getItem_tuple_cut ht hs pl pu (by rw[hlen];exact hw) ?_ (by rw[hlen];exact hz);rw[hlen];refine⟨.ref s.heap.objs.size,_,I.laid (t':=s.toks) (o:=.tup (zDw xs lo hi)) (fun b ob q=>zN _ q) (zK _) ?_,rfl,q _ (I.hok.fresh (zK _))⟩;exact⟨⟨zAM (zEU xs lo hi) hz,_,zX _ rfl,rfl⟩,_,(r.drop (HT.sIx xs.length 0 lo)).take (HT.sIx xs.length xs.length hi-HT.sIx xs.length 0 lo),IsTup.new _ _⟩
inductive zJc (K:PySem.W.Frag)(x:V)(y:V)(H:Hp)(Q:VK):Prop
 | mk:∀a b xs ys,(x=.ref a)->(y=.ref b)->(SqT K H a xs)->(SqT K H b ys)->(xs≠[])->(xs.length+ys.length<=sizeLine)->((ys=[]->Q (.ref a) H))->((ys≠[]->∀p,H p=none->Q (.ref p) (upd H p (.tup (xs++ys)))))->zJc K x y H Q
noncomputable def rCatT (K:PySem.W.Frag):R2:=fun x y H Q=>zJc K x y H Q
theorem zBS.nil_iff {us:List Value}(r:zBS xs us):us=[]↔xs=[]:=by
 cases r with
 | nil=>simp
 | cons _ _=>simp
theorem zNV:OpR X (binaryOp .Add) (rCatT X.K):=by intro pins s σ H x y v u Q I rx ry h;obtain⟨a,b,xs,ys,rfl,rfl,ha,hb,hx,hz,q1,q2⟩:=h;cases rx;cases ry;obtain⟨its,r1,p1,_⟩:=I.tuple ha;obtain⟨its2,r2,p2,_⟩:=I.tuple hb;refine HT.cat_tup p1 p2 (fun z=>hx (r1.nil_iff.mp z)) (fun z=>⟨.ref a,H,I,rfl,q1 (r2.nil_iff.mp z)⟩) (fun z=>?_) (by rw[<-r1.length,<-r2.length];exact hz);refine⟨.ref s.heap.objs.size,_,I.laid (t':=s.toks) (o:=.tup (xs++ys)) (fun b ob q=>zN _ q) (zK _) ?_,rfl,q2 (fun w=>z (r2.nil_iff.mpr w)) _ (I.hok.fresh (zK _))⟩;exact⟨⟨by rw[zJ];exact hz,_,zX _ rfl,rfl⟩,_,r1.append r2,IsTup.new _ _⟩
end
noncomputable def ixN (n:Nat)(i:Int):Option Nat:=if 0<=i then (if i<n then some i.toNat else none) else if -(n:Int)<=i then some (i+n).toNat else none
noncomputable def atI {α:Type}(xs:List α)(i:Int):Option α:=(ixN xs.length i).bind fun j=>xs[j]?
variable {n:Nat}
theorem zJ7 {i:Int}{j:Nat}(h:ixN n i=some j):seqIndex? i n=some j/\j<n/\-(n:Int)<=i/\i<n:=by
 unfold ixN at h;by_cases h0:0<=i
 . rw[if_pos h0] at h;by_cases h1:i<n
   . rw[if_pos h1] at h;have e:i.toNat=j:=zT h;exact⟨by rw[seqIndex_of h0 h1,e],by omega,by omega,h1⟩
   . rw[if_neg h1] at h;cases h
 . rw[if_neg h0] at h;by_cases h1 : -(n:Int)<=i
   . rw[if_pos h1] at h;have e:(i+n).toNat=j:=zT h;exact⟨by rw[seqIndex_neg (by omega) h1,e],by omega,h1,by omega⟩
   . rw[if_neg h1] at h;cases h
theorem zKi {α:Type}{xs:List α}{i:Int}{v:α}(h:atI xs i=some v):∃j,seqIndex? i xs.length=some j/\xs[j]?=some v/\j<xs.length/\-(xs.length:Int)<=i/\i<xs.length:=by
 unfold atI at h;cases e:ixN xs.length i with
 | none=>rw[e] at h;cases h
 | some j=>rw[e] at h;obtain⟨h1,h2,h3,h4⟩:=zJ7 e;exact⟨j,h1,h,h2,h3,h4⟩
theorem zCk {α:Type}{xs:List α}{j:Nat}{v:α}(h:xs[j]?=some v):atI xs (j:Int)=some v:=by
 have hj:j<xs.length:=(zF.mp h).1;have e:ixN xs.length (j:Int)=some j:=by unfold ixN;rw[if_pos (by omega),if_pos (by omega)];simp
 unfold atI;rw[e];exact h
theorem zLk {α:Type}(xs:List α)(v:α):atI (xs++[v]) (-1)=some v:=by
 have hl:(xs++[v]).length=xs.length+1:=by simp
 have e:ixN (xs++[v]).length (-1)=some xs.length:=by unfold ixN;rw[hl,if_neg (by decide),if_pos (by omega)];congr 1;omega
 unfold atI;rw[e];show (xs++[v])[xs.length]?=some v;simp
noncomputable def zKl (b:Expr):Prop:=∀o i,subscripted b false o i=operate [o,i] (getItem o i)
noncomputable def IxR (X:Cx)(r:R2):Prop:=
 ∀(value slice:Expr)(pins:lPO)(s:Shared)(σ:St)(H:Hp)(x y:V)(v u:Value)(Q:VK),Inv X pins σ H s->zBm x v->zBm y u->r x y H Q ->
  subscripted slice false v u=operate [v,u] (getItem v u)->wpAny (model X.prog X.w) X.A (subscriptTail value slice v u) (EP X pins σ Q) X.xe s
noncomputable def MtR (X:Cx)(id:String)(r:V->List V->Hp->VK->Prop):Prop:=
 ∀(pins:lPO)(s:Shared)(σ:St)(H:Hp)(x:V)(xs:List V)(v:Value)(us:List Value)(Q:VK),Inv X pins σ H s->zBm x v->zBS xs us->r x xs H Q ->
  wpAny (model X.prog X.w) X.A (call (.builtin id) (v::us)) (EP X pins σ Q) X.xe s
variable {σ:St}{H:Hp}{s:Shared}{its:List Value}{x:V}
section
variable {X:Cx}{a b:Expr}{ta tb:TE}{pos:Pos}
theorem pe_ix {r:R2}(hr:IxR X r)(ha:PE X a ta)(hb:PE X b tb)(hs:zKl b):PE X (.Subscript a b pos) (tOp r ta tb):=by intro pins s σ H Q I h;exact Subscript_ (binT ha hb I h fun v u s2 x y H2 I2 rx ry q=>hr a b pins s2 σ H2 x y v u Q I2 rx ry q (hs _ _))
inductive zMR (K:PySem.W.Frag)(x:V)(y:V)(H:Hp)(Q:VK):Prop
 | mk:∀p xs i v,(x=.ref p)->(y=.int i)->(SqL K H p xs)->(atI xs i=some v)->(Q v H)->zMR K x y H Q
noncomputable def rIxL (K:PySem.W.Frag):R2:=fun x y H Q=>zMR K x y H Q
inductive zMQ (K:PySem.W.Frag)(x:V)(y:V)(H:Hp)(Q:VK):Prop
 | mk:∀p xs i v,(x=.ref p)->(y=.int i)->(SqT K H p xs)->(atI xs i=some v)->(Q v H)->zMQ K x y H Q
noncomputable def rIxT (K:PySem.W.Frag):R2:=fun x y H Q=>zMQ K x y H Q
theorem zAC:IxR X (rIxL X.K):=by
 intro value slice pins s σ H x y v u Q I rx ry h hs;obtain⟨p,xs,i,z,rfl,rfl,hq,he,q⟩:=h;cases rx;obtain⟨t,rfl⟩:=ry;obtain⟨its,r,pl,hz⟩:=I.list hq;obtain⟨j,h1,h2,h3,h4,h5⟩:=zKi he;obtain⟨w,ew,rw'⟩:=r.get h2;have hl:=r.length;have hn:=zHd;have fin:EP X pins σ Q w s:=⟨z,H,I,rw',q⟩;by_cases h0:0<=i
 . have hj:i.toNat=j:=by rw[seqIndex_of h0 h5] at h1;exact zT h1
   exact item_listR pl.isList h0 (by omega) (by rw[hj];simpa using ew) fin hs
 . have hj:(i+(its.toArray.size:Int)).toNat=j:=by rw[seqIndex_neg (by omega) h4] at h1;rw[zU,<-hl];exact zT h1
   exact subscriptTail_builtinR (x:=w) pl.isList.typeIs slot_list_getitem.lookup
    (wpAny_getItem_list_neg (Q:=fun r s'=>r=w/\EP X pins σ Q r s') pl.isList (by omega) (by rw[zU] <;> omega) (by omega) (by rw[hj];simpa using ew) ⟨rfl,fin⟩) hs
theorem zAK:IxR X (rIxT X.K):=by
 intro value slice pins s σ H x y v u Q I rx ry h hs;obtain⟨p,xs,i,z,rfl,rfl,hq,he,q⟩:=h;cases rx;obtain⟨t,rfl⟩:=ry;obtain⟨its,r,pl,hz⟩:=I.tuple hq;obtain⟨j,h1,h2,h3,h4,h5⟩:=zKi he;obtain⟨w,ew,rw'⟩:=r.get h2;have hl:=r.length;have hn:=zHd;have fin:EP X pins σ Q w s:=⟨z,H,I,rw',q⟩;exact subscriptTail_builtinR (x:=w) pl.typeIs slot_tuple_getitem.lookup
  (getItem_tuple (j:=j) (Q:=fun r s'=>r=w/\EP X pins σ Q r s') pl (by omega) (by omega) (by rw[zU,<-hl];exact h1) (by simpa using ew) ⟨rfl,fin⟩) hs
theorem zIF (its:List Value)(n j:Nat)(u:Value):Obj.mapSeq (·.setIfInBounds j u) { cls:=.type "list",data:=.seq its.toArray n }={ cls:=.type "list",data:=.seq (its.set j u).toArray n }:=by simp[Obj.mapSeq]
theorem Inv.lst {pins:lPO}{p:Addr}(I:Inv X pins σ H s)(h:H p=some (.lst xs)):
 ∃(its:List Value)(n:Nat),zBS xs its/\s.heap.get? p=some { cls:=.type "list",data:=.seq its.toArray n }/\xs.length<=sizeLine:=by
 obtain⟨z,its,n,r,e⟩:=I.hok p _ h;exact⟨its,n,r,e,z⟩
theorem Inv.lstUpd {pins:lPO}{p:Addr}{ys:List V}{its':List Value}{n':Nat}{f:Obj->Obj}(I:Inv X pins σ H s)(h:H p=some (.lst xs))
 (ho:s.heap.get? p=some { cls:=.type "list",data:=.seq its.toArray n }) (hf:f { cls:=.type "list",data:=.seq its.toArray n }={ cls:=.type "list",data:=.seq its'.toArray n' }) (r:zBS ys its')(hz:ys.length<=sizeLine)(t:Nat):
 Inv X pins σ (upd H p (.lst ys)) { s with heap:=s.heap.update p f,toks:=t }:=by
 have e:(s.heap.update p f).get? p=some { cls:=.type "list",data:=.seq its'.toArray n' }:=by rw[zBJ f ho (by rw[hf] <;> rfl),hf]
 refine I.write (x:=p) (e:=p) (by rw[h];trivial) (.inl rfl) (fun b u hb q=>(Heap.get?_update_other _ _ (Ne.symm hb)).trans q) ⟨_,e⟩ ?_;exact⟨hz,its',n',r,e⟩
inductive zJZ (o:V)(i:V)(v:V)(H:Hp)(Q:Hp->Prop):Prop
 | mk:∀p xs k j,(o=.ref p)->(i=.int k)->(H p=some (.lst xs))->(ixN xs.length k=some j)->(Q (upd H p (.lst (xs.set j v))))->zJZ o i v H Q
noncomputable def rSetL:V->V->V->Hp->(Hp->Prop)->Prop:=fun o i v H Q=>zJZ o i v H Q
theorem zCW:PSet X rSetL:=by
 intro pins s σ H o i v ov iv u Q I ro ri rv h;obtain⟨p,xs,k,j,rfl,rfl,hp,hj,q⟩:=h;cases ro;obtain⟨t,rfl⟩:=ri;obtain⟨its,n,r,ho,hz⟩:=I.lst hp;obtain⟨h1,h2,h3,h4⟩:=zJ7 hj;have hl:=r.length;have hn:=zHd;have I':Inv X pins σ (upd H p (.lst (xs.set j v))) { s with heap:=s.heap.update p (Obj.mapSeq (·.setIfInBounds j u)) }:=
  I.lstUpd hp ho (zIF its n j u) (r.set rv j) (by rw[zAL];exact hz) s.toks
 by_cases h0:0<=k
 . have hk:k.toNat=j:=by rw[seqIndex_of h0 h4] at h1;exact zT h1
   exact PySem.W.ki_setAt ho h0 (by omega) (by rw[zU,<-hl];exact h4) (by rw[hk];exact⟨_,I',q⟩)
 . have hk:(k+(its.toArray.size:Int)).toNat=j:=by rw[seqIndex_neg (by omega) h3] at h1;rw[zU,<-hl];exact zT h1
   exact PySem.W.ki_setBack ho (by omega) (by rw[zU,<-hl];exact h3) (by omega) (by rw[hk];exact⟨_,I',q⟩)
theorem zFf (lo hi:Option Int)(n:Nat):(sliceBounds lo hi none n).1=((HT.sIx n 0 lo:Nat):Int)/\(sliceBounds lo hi none n).2.1=((HT.sIx n n hi:Nat):Int)/\(sliceBounds lo hi none n).2.2=1:=by
 refine⟨?_,?_,rfl⟩
 . cases lo with
   | none=>simp[sliceBounds,HT.sIx]
   | some i=>
    simp only[sliceBounds,HT.sIx,Option.getD_none,show (1:Int) > 0 by decide,if_true];by_cases h:i<0
    . simp only[h,if_true] <;> omega
    . simp only[h,if_false] <;> omega
 . cases hi with
   | none=>simp[sliceBounds,HT.sIx]
   | some i=>
    simp only[sliceBounds,HT.sIx,Option.getD_none,show (1:Int) > 0 by decide,if_true];by_cases h:i<0
    . simp only[h,if_true] <;> omega
    . simp only[h,if_false] <;> omega
theorem zE0 (its:List Value)(lo hi:Option Int):slicePick its.toArray lo hi none=((its.drop (HT.sIx its.length 0 lo)).take (HT.sIx its.length its.length hi-HT.sIx its.length 0 lo)).toArray:=by obtain⟨h1,h2,h3⟩:=zFf lo hi its.toArray.size;unfold slicePick;rw[h1,h2,h3];simp only[sliceRange_one,pick_run,zU] <;> rfl
inductive zMM (K:PySem.W.Frag)(x:V)(lo:Option Int)(hi:Option Int)(H:Hp)(Q:VK):Prop
 | mk:∀a xs,(x=.ref a)->(SqL K H a xs)->(∀p,H p=none->Q (.ref p) (upd H p (.lst (zDw xs lo hi))))->zMM K x lo hi H Q
noncomputable def rSlL (K:PySem.W.Frag):V->Option Int->Option Int->Hp->VK->Prop:=fun x lo hi H Q=>zMM K x lo hi H Q
theorem zE1:SlR X (rSlL X.K):=by intro pins s σ H x v vl vu lo hi sl Q I rx hs pl pu h;obtain⟨a,xs,rfl,hx,q⟩:=h;cases rx;obtain⟨its,r,ht,hz⟩:=I.list hx;have hlen:=r.length;refine⟨"list",_,slot_list_getitem.lookup,ht.isList.typeIs,?_⟩;refine wpAny_getItem_list_slice ht.isList hs pl pu .none (by simp) ?_ (by rw[zU] <;> omega);rw[zE0,<-hlen];refine⟨.ref s.heap.objs.size,_,I.laid (t':=s.toks) (o:=.lst (zDw xs lo hi)) (fun b ob q=>zN _ q) (zK _) ?_,rfl,q _ (I.hok.fresh (zK _))⟩;exact⟨zAM (zEU xs lo hi) hz,_,0,(r.drop (HT.sIx xs.length 0 lo)).take (HT.sIx xs.length xs.length hi-HT.sIx xs.length 0 lo),zX _ rfl⟩
noncomputable def zFD:V->Bool
 | .non=>true
 | .bl _=>true
 | .int _=>true
 | .str _=>true
 | _=>false
noncomputable def eqV:V->V->Bool
 | .non,.non=>true
 | .bl a,.bl b=>a==b
 | .bl a,.int b=>(if a then 1 else 0)==b
 | .int a,.bl b=>a==(if b then 1 else 0)
 | .int a,.int b=>a==b
 | .str a,.str b=>a==b
 | _,_=>false
theorem eqAt_V {A:Around}{y:V}{u v:Value}(ry:zBm y u)(rx:zBm x v)(fy:zFD y=true)(fx:zFD x=true):SeqAt.EqAt A s u v (eqV y x):=by
 cases y with
 | non=>
  cases ry;cases x with
  | non=>cases rx;exact SeqAt.EqAt.same _
  | bl b=>cases rx;exact SeqAt.EqAt.none_bool b
  | int b=>obtain⟨t,rfl⟩:=rx;exact SeqAt.EqAt.none_int b t
  | str b=>obtain⟨t,rfl⟩:=rx;exact SeqAt.EqAt.none_str b t
  | _=>exact absurd (show false=true from fx) zn
 | bl a=>
  cases ry;cases x with
  | non=>cases rx;exact SeqAt.EqAt.bool_none a
  | bl b=>cases rx;exact SeqAt.EqAt.bool_bool a b
  | int b=>obtain⟨t,rfl⟩:=rx;exact SeqAt.EqAt.bool_int a b t
  | str b=>obtain⟨t,rfl⟩:=rx;exact SeqAt.EqAt.bool_str a b t
  | _=>exact absurd (show false=true from fx) zn
 | int a=>
  obtain⟨t',rfl⟩:=ry;cases x with
  | non=>cases rx;exact SeqAt.EqAt.int_none a t'
  | bl b=>cases rx;exact SeqAt.EqAt.int_bool a t' b
  | int b=>obtain⟨t,rfl⟩:=rx;exact SeqAt.EqAt.int_int a t' b t
  | str b=>obtain⟨t,rfl⟩:=rx;exact SeqAt.EqAt.int_str a t' b t
  | _=>exact absurd (show false=true from fx) zn
 | str a=>
  obtain⟨t',rfl⟩:=ry;cases x with
  | non=>cases rx;exact SeqAt.EqAt.str_none a t'
  | bl b=>cases rx;exact SeqAt.EqAt.str_bool a t' b
  | int b=>obtain⟨t,rfl⟩:=rx;exact SeqAt.EqAt.str_int a t' b t
  | str b=>obtain⟨t,rfl⟩:=rx;exact SeqAt.EqAt.str_str a t' b t
  | _=>exact absurd (show false=true from fx) zn
 | _=>exact absurd (show false=true from fy) zn
noncomputable def eqU (x:V)(u:Value):Bool:=match u with
 | .none=>eqV .non x
 | .bool b=>eqV (.bl b) x
 | .int i _=>eqV (.int i) x
 | .str z _=>eqV (.str z) x
 | _=>false
theorem zMn {y:V}{u:Value}(r:zBm y u)(f:zFD y=true):eqU x u=eqV y x:=by
 cases y with
 | non=>cases r;rfl
 | bl b=>cases r;rfl
 | int i=>obtain⟨t,rfl⟩:=r;rfl
 | str z=>obtain⟨t,rfl⟩:=r;rfl
 | _=>exact absurd (show false=true from f) zn
theorem zGt {x:V}:∀{xs:List V}{us:List Value},zBS xs us->xs.all zFD=true->us.any (eqU x)=xs.any fun y=>eqV y x
 | _,_,.nil,_=>rfl
 | y::xs,u::us,.cons r t,f=>by rw[List.all_cons,zAk] at f;rw[List.any_cons,List.any_cons,zMn r f.1,zGt t f.2]
theorem zE8 {A:Around}{s:Shared}{x:V}{v:Value}(rx:zBm x v)(fx:zFD x=true):∀{xs:List V}{us:List Value},zBS xs us->xs.all zFD=true->∀u∈us,SeqAt.EqAt A s u v (eqU x u)
 | _,_,.nil,_=>fun u hu=>by cases hu
 | y::xs,u::us,.cons r t,f=>fun u' hu=>by
  rw[List.all_cons,zAk] at f;rcases ze.mp hu with rfl | hu
  . rw[zMn r f.1];exact eqAt_V r rx f.1 fx
  . exact zE8 rx fx t f.2 u' hu
noncomputable def inV (x:V)(xs:List V):Bool:=xs.any fun y=>eqV y x
inductive rIn_r (K:PySem.W.Frag)(neg:Bool)(x:V)(y:V)(H:Hp)(Q:VK):Prop
 | mk:∀p xs,(y=.ref p)->((SqL K H p xs\/SqT K H p xs))->(zFD x=true)->(xs.all zFD=true)->(Q (.bl (if neg then !inV x xs else inV x xs)) H)->rIn_r K neg x y H Q
noncomputable def rIn (K:PySem.W.Frag)(neg:Bool):R2:=fun x y H Q=>rIn_r K neg x y H Q
theorem zF2:OpR X (compareOp .NotIn) (rIn X.K true):=by
 intro pins s σ H x y v u Q I rx ry h;obtain⟨p,xs,rfl,hq,fx,fs,q⟩:=h;cases ry;rcases hq with hq | hq
 . obtain⟨its,r,pl,hz⟩:=I.list hq;refine SeqAt.notIn_listAt (eqU x) pl.isList (fun w hw=>zE8 rx fx r fs w (by simpa using hw)) ⟨.bl _,H,I,rfl,?_⟩;rw[show its.toArray.any (eqU x)=its.any (eqU x) by simp,zGt r fs];exact q
 . obtain⟨its,r,pl,hz⟩:=I.tuple hq;refine SeqAt.notIn_tupleAt (eqU x) pl (fun w hw=>zE8 rx fx r fs w (by simpa using hw)) ⟨.bl _,H,I,rfl,?_⟩;rw[show its.toArray.any (eqU x)=its.any (eqU x) by simp,zGt r fs];exact q
inductive rc_2 (K:PySem.W.Frag)(xs:List V)(H:Hp)(Q:VK):Prop
 | mk:∀p ys,(xs=[.ref p])->((SqL K H p ys\/SqT K H p ys))->(Q (.int ys.length) H)->rc_2 K xs H Q
theorem zAm:zCl X (.builtin "len") (rc_2 X.K):=by
 intro pins s σ H xs us Q I r h;obtain⟨p,ys,rfl,hq,q⟩:=h;obtain⟨u,rfl,rx⟩:=zC8 r;cases rx;have hn:=zHd;rcases hq with hq | hq
 . obtain⟨its,r',pl,hz⟩:=I.list hq;have hlen:=r'.length;exact Calls.call_len_list pl.isList (by simp only[zU] <;> omega) ⟨.int ys.length,H,I.tok _,⟨s.toks+1,by rw[zU,hlen]⟩,q⟩
 . obtain⟨its,r',pl,hz⟩:=I.tuple hq;have hlen:=r'.length;exact len_tuple pl (by simp only[zU] <;> omega) ⟨.int ys.length,H,I.tok _,⟨s.toks+1,by rw[zU,hlen]⟩,q⟩
inductive rc_3 (K:PySem.W.Frag)(xs:List V)(H:Hp)(Q:VK):Prop
 | mk:∀p ys,(xs=[.ref p])->((SqL K H p ys\/SqT K H p ys))->(∀l,H l=none->Q (.ref l) (upd H l (.lst ys)))->rc_3 K xs H Q
theorem zGR:zCl X (.type "list") (rc_3 X.K):=by
 intro pins s σ H xs us Q I r h;obtain⟨p,ys,rfl,hq,q⟩:=h;obtain⟨u,rfl,rx⟩:=zC8 r;cases rx;have fin:∀(its:List Value),zBS ys its->ys.length<=sizeLine->∀(h':Heap)(c':Nat),(∀b o',s.heap.get? b=some o'->h'.get? b=some o') ->
  h'.get? s.heap.objs.size=some { cls:=.type "list",dict:=none,data:=.seq its.toArray c',slots:=#[] }->EP X pins σ Q (.ref s.heap.objs.size) { s with heap:=h' }:=fun its r' hz h' c' kp e=>
  ⟨.ref s.heap.objs.size,_,I.laid (t':=s.toks) kp (zK _) (show zBc X.prog X.w _ h' _ (.lst ys) from ⟨hz,its,c',r',e⟩),rfl,q _ (I.hok.fresh (zK _))⟩
 rcases hq with hq | hq
 . obtain⟨its,r',pl,hz⟩:=I.list hq;have hlen:=r'.length;obtain⟨o,ho,hc,n,hd⟩:=pl.isList;exact call_list_seq p (.inl rfl) ho hc hd (fun h' c' kp e=>fin its r' hz h' c' kp e) (by simp only[zU] <;> omega)
 . obtain⟨its,r',pl,hz⟩:=I.tuple hq;have hlen:=r'.length;obtain⟨o,ho,hc,n,hd⟩:=pl;exact call_list_seq p (.inr rfl) ho hc hd (fun h' c' kp e=>fin its r' hz h' c' kp e) (by simp only[zU] <;> omega)
inductive rc_4 (K:PySem.W.Frag)(xs:List V)(H:Hp)(Q:VK):Prop
 | mk:∀p ys,(xs=[.ref p])->(((SqL K H p ys/\∀l,H l=none->Q (.ref l) (upd H l (.tup ys)))\/(SqT K H p ys/\Q (.ref p) H)))->rc_4 K xs H Q
theorem zAT:zCl X (.type "tuple") (rc_4 X.K):=by
 intro pins s σ H xs us Q I r h;obtain⟨p,ys,rfl,h⟩:=h;obtain⟨u,rfl,rx⟩:=zC8 r;cases rx;rcases h with ⟨hq,q⟩ | ⟨hq,q⟩
 . obtain⟨its,r',pl,hz⟩:=I.list hq;have hlen:=r'.length;refine call_tuple_list pl.isList (fun h' kp=>?_) (by simp only[zU] <;> omega);have I1:Inv X pins σ H { s with heap:=h' }:=I.kept (t':=s.toks) kp;have I2:Inv X pins σ (upd H h'.objs.size (.tup ys)) { s with heap:=h'.push { cls:=.type "tuple",data:=.seq its.toArray } }:=
    I1.laid (t':=s.toks) (fun b o e=>zN _ e) (zK _) (show zBc X.prog X.w _ _ _ (.tup ys) from ⟨⟨hz,_,zX _ rfl,rfl⟩,its,r',IsTup.new _ _⟩)
   exact⟨.ref h'.objs.size,_,I2,rfl,q _ (I1.hok.fresh (zK _))⟩
 . obtain⟨its,r',pl,hz⟩:=I.tuple hq;exact call_tuple_same pl ⟨.ref p,H,I,rfl,q⟩
noncomputable def tyV (K:PySem.W.Frag)(T:String)(x:V)(H:Hp):Prop:=match x with
 | .str _=>T="str"
 | .int _=>T="int"
 | .ref p=>(T="list"/\∃xs,SqL K H p xs)\/(T="tuple"/\∃o,K.lookup p=some o/\o.cls=.type "tuple"/\o.dict=none) \/
  (T="dict"/\((∃kvs,H p=some (.dK kvs))\/∃kvs,H p=some (.dT kvs)))\/(T="set"/\∃S n,H p=some (.set S n))
 | _=>False
theorem tyV_is {pins:lPO}{T:String}{v:Value}(I:Inv X pins σ H s)(r:zBm x v)(ty:tyV X.K T x H):
 s.TypeIs v T/\∀a,v=.ref a->∃ob,s.heap.get? a=some ob/\ob.dict=none:=by
 cases x with
 | str z=>obtain⟨t,rfl⟩:=r;cases (show T="str" from ty);exact⟨typeIs_str s z t,fun _ e=>nomatch e⟩
 | int i=>obtain⟨t,rfl⟩:=r;cases (show T="int" from ty);exact⟨typeIs_int s i t,fun _ e=>nomatch e⟩
 | ref p=>
  cases r;rcases ty with ⟨rfl,xs,hq⟩ | ⟨rfl,o,hk,hc,hd⟩ | ⟨rfl,hk⟩ | ⟨rfl,S,n,hk⟩
  . obtain⟨its,_,pl,_⟩:=I.list hq;refine⟨pl.isList.typeIs,fun a e=>?_⟩;cases e;obtain⟨o,n,e,c,hd,_⟩:=pl;exact⟨o,e,hd⟩
  . refine⟨⟨o,I.kIn p o hk,hc⟩,fun a e=>?_⟩;cases e;exact⟨o,I.kIn _ o hk,hd⟩
  . have z:∃o,s.heap.get? p=some o/\o.ExactDict:=by
     rcases hk with ⟨kvs,hk⟩ | ⟨kvs,hk⟩
     . obtain⟨_,_,_,_,o,_,_,e,ex,_⟩:=I.hok p _ hk;exact⟨o,e,ex⟩
     . obtain⟨_,_,_,_,o,_,_,e,ex,_⟩:=I.hok p _ hk;exact⟨o,e,ex⟩
    obtain⟨o,e,ex⟩:=z;refine⟨⟨o,e,ex.1⟩,fun a e2=>?_⟩;cases e2;exact⟨o,e,ex.2.1⟩
  . obtain⟨o,_,_,_,e,ex,_⟩:=I.hok p _ hk;refine⟨⟨o,e,ex.1⟩,fun a e2=>?_⟩;cases e2;exact⟨o,e,ex.2.1⟩
 | _=>exact False.elim ty
inductive tBM_r (K:PySem.W.Frag)(T:String)(r:V->List V->Hp->VK->Prop)(t:TA)(σ:St)(Q:VK)(x:V)(H1:Hp):Prop
 | mk:(tyV K T x H1)->(t σ H1 fun xs H2=>r x xs H2 Q)->tBM_r K T r t σ Q x H1
noncomputable def tBM (K:PySem.W.Frag)(T:String)(r:V->List V->Hp->VK->Prop)(to:TE)(t:TA):TE:=fun σ H Q=>to σ H fun x H1=>tBM_r K T r t σ Q x H1
variable {o e:Expr}{es:List Expr}{to:TE}{t:TA}{name:Str}{apos cpos:Pos}{T id:String}{r:V->List V->Hp->VK->Prop}
theorem zCq (pa:PlainAttrs T)(slot:Slot T name id)(hty:typeOf (.builtin id)=pure (.type "method_descriptor")) (hm:MtR X id r)(ho:PE X o to)(ha:PA X (e::es) t)
 (hbase:attributeBase o name X.env (eval o X.env)=eval o X.env:=by rfl)
 (hfew:((backTo cpos (starEach (e::es) X.env)).all (fun x=>!x.1) && (backToKw cpos (keywordEach [] X.env)).all (fun x=>x.1.isSome)
  && decide ((e::es).length+([]:List Keyword).length+(if ([]:List Keyword).isEmpty then 0 else 1)<30))=true:=by rfl)
 (hline:(apos.endLine==cpos.line)=true:=by rfl)(hs:starEach (e::es) X.env=(false,eval e X.env)::starEach es X.env:=by rfl)(hplain:(backTo cpos (starEach es X.env)).any (·.1)=false:=by rfl):
 PE X (.Call (.Attribute o name apos) (e::es) [] cpos) (tBM X.K T r to t):=by
 intro pins s σ H Q I h;refine wpAny_Call_method_late hbase hfew hline rfl (thn (ho pins s σ H _ I h) fun v s1 ⟨x,H1,I1,r1,ty,q1⟩=>?_);obtain⟨h1,h2⟩:=tyV_is I1 r1 ty;refine⟨T,id,pa,slot,hty,h1,h2,?_⟩;have hA:=ha cpos pins s1 σ H1 _ I1 q1;rw[hs] at hA ⊢;refine Calls.callWith_builtin (by show (false || (backTo cpos (starEach es X.env)).any (·.1))=false;rw[hplain] <;> rfl) (Calls.evalArgs_plain ?_);exact thn hA fun us s2 ⟨vs,H2,I2,r2,q2⟩=>hm pins s2 σ H2 x vs v us Q I2 r1 r2 q2
end
noncomputable def MtM (X:Cx)(id:String)(r:V->List V->Hp->VK->Prop):Prop:=
 ∀(pins:lPO)(s:Shared)(σ:St)(H:Hp)(x:V)(xs:List V)(v:Value)(us:List Value)(Q:VK),Inv X pins σ H s->zBm x v->zBS xs us->r x xs H Q ->
  wpAny (model X.prog X.w) X.A (call (.builtin id) (v::us)) (EP X pins σ Q) X.xe s
theorem zBS.one:∀{x:V}{us:List Value},zBS [x] us->∃u,us=[u]/\zBm x u
 | _,_,.cons r .nil=>⟨_,rfl,r⟩
theorem zBS.eraseIdx:∀{xs:List V}{us:List Value}(i:Nat),zBS xs us->zBS (xs.eraseIdx i) (us.eraseIdx i)
 | _,_,_,.nil=>.nil
 | _,_,0,.cons _ t=>t
 | _,_,i+1,.cons r t=>.cons r (zBS.eraseIdx i t)
theorem zF8 {α:Type}:∀(l:List α)(i:Nat),(l.eraseIdx i).length<=l.length
 | [],_=>zK _
 | _::_,0=>zBD _
 | _::r,i+1=>Nat.succ_le_succ (zF8 r i)
section
variable {X:Cx}{pins:lPO}{σ:St}{H:Hp}{s:Shared}{l b:Addr}{xs ys zs:List V}
theorem Inv.lset {its':List Value}{f:Array Value->Array Value}{t':Nat}(I:Inv X pins σ H s)(hH:H l=some (.lst xs))
 (e:s.heap.get? l=some { cls:=.type "list",data:=.seq its.toArray n }) (hf:f its.toArray=its'.toArray)(hv:zBS ys its')(hz:ys.length<=sizeLine):
 Inv X pins σ (upd H l (.lst ys)) { s with heap:=s.heap.update l (Obj.mapSeq f),toks:=t' }:=by
 have q:=PySem.IsL.update e f;rw[hf] at q;refine I.write (x:=l) (e:=l) (by rw[hH];exact trivial) (.inl rfl) (fun b' u hb hu=>(Heap.get?_update_other s.heap (Obj.mapSeq f) (Ne.symm hb)).trans hu) ⟨_,q⟩ ?_;exact⟨hz,its',_,hv,q⟩
theorem Inv.lnew {t':Nat}(I:Inv X pins σ H s)(hv:zBS ys its)(hz:ys.length<=sizeLine):
 Inv X pins σ (upd H s.heap.objs.size (.lst ys)) { s with heap:=s.heap.push { cls:=.type "list",data:=.seq its.toArray },toks:=t' }:=
 I.laid (fun _ _ q=>zN _ q) (zK _) ⟨hz,its,0,hv,zX _ rfl⟩
theorem Inv.fresh (I:Inv X pins σ H s):H s.heap.objs.size=none:=I.hok.fresh (zK _)
theorem Inv.lstM (I:Inv X pins σ H s)(hH:H l=some (.lst xs)):xs.length<=sizeLine/\∃(its:List Value)(n:Nat),zBS xs its/\xs.length=its.length/\s.heap.get? l=some { cls:=.type "list",data:=.seq its.toArray n }:=by obtain⟨z,its,n,r,e⟩:=I.hok l _ hH;exact⟨z,its,n,r,r.length,e⟩
theorem zLM (h:n<=sizeLine):Builtin.List.listTooLong n=false:=by unfold Builtin.List.listTooLong;exact zc (by omega)
end
section
variable {X:Cx}
inductive zFr (x:V)(vs:List V)(H:Hp)(Q:VK):Prop
 | mk:∀l xs y,(x=.ref l)->(vs=[y])->(H l=some (.lst xs))->(xs.length<sizeLine)->(Q .non (upd H l (.lst (xs++[y]))))->zFr x vs H Q
noncomputable def zNN:V->List V->Hp->VK->Prop:=fun x vs H Q=>zFr x vs H Q
theorem zA7:MtM X "list.append" zNN:=by intro pins s σ H x vs v us Q I rx rv h;obtain⟨l,xs,y,rfl,rfl,hH,hz,q⟩:=h;cases rx;obtain⟨u,rfl,ru⟩:=rv.one;obtain⟨z,its,n,r,hl,e⟩:=I.lstM hH;refine call_meets F.slot_list_append ⟨_,e,rfl⟩ F.entry_list_append (F.args_list_append_2 _ _) (PySem.list_append l its.toArray n u (by rw[zU];omega)) ⟨e,?_⟩;refine⟨.non,_,I.lset (its':=its++[u]) hH e (by simp) (r.append (.cons ru .nil)) ?_,rfl,q⟩;rw[zJ,List.length_singleton];omega
inductive zFq (x:V)(vs:List V)(H:Hp)(Q:VK):Prop
 | mk:∀l b xs zs,(x=.ref l)->(vs=[.ref b])->(H l=some (.lst xs))->(H b=some (.lst zs))->(xs.length+zs.length<=sizeLine)->(Q .non (upd H l (.lst (xs++zs))))->zFq x vs H Q
noncomputable def zNL:V->List V->Hp->VK->Prop:=fun x vs H Q=>zFq x vs H Q
theorem zJv:MtM X "list.extend" zNL:=by
 intro pins s σ H x vs v us Q I rx rv h;obtain⟨l,b,xs,zs,rfl,rfl,hH,hB,hz,q⟩:=h;cases rx;obtain⟨u,rfl,ru⟩:=rv.one;cases ru;obtain⟨z,its,n,r,hl,e⟩:=I.lstM hH;obtain⟨z2,its2,n2,r2,hl2,e2⟩:=I.lstM hB;have hsz:its.toArray.size+its2.toArray.size<=sizeLine:=by rw[zU,zU];omega
 have hlong:¬ (!its.toArray.isEmpty && Builtin.List.listTooLong (its.toArray.size+its2.toArray.size))=true:=by rw[zLM hsz,Bool.and_false];exact zn
 refine call_meets F.slot_list_extend ⟨_,e,rfl⟩ F.entry_list_extend (F.args_list_extend_2 _ _)
  (AutoSeq1.list_extend_list_list_0 l its.toArray n b its2.toArray n2 hlong (by rw[zU];omega) (by omega)) ⟨e,e2,?_⟩
 refine⟨.non,_,I.lset (its':=its++its2) hH e (by simp) (r.append r2) ?_,rfl,q⟩;rw[zJ];omega
inductive zHV (x:V)(vs:List V)(H:Hp)(Q:VK):Prop
 | mk:∀l xs i k y,(x=.ref l)->(vs=[.int i])->(H l=some (.lst xs))->(-(2 ^ 63)<=i)->(i<2 ^ 63)->(seqIndex? i xs.length=some k)->(xs[k]?=some y)->(Q y (upd H l (.lst (xs.eraseIdx k))))->zHV x vs H Q
noncomputable def rPopAt:V->List V->Hp->VK->Prop:=fun x vs H Q=>zHV x vs H Q
theorem zHb:MtM X "list.pop" rPopAt:=by
 intro pins s σ H x vs v us Q I rx rv h;obtain⟨l,xs,i,k,y,rfl,rfl,hH,h1,h2,hk,hy,q⟩:=h;cases rx;obtain⟨u,rfl,ru⟩:=rv.one;obtain⟨t,rfl⟩:=ru;obtain⟨z,its,n,r,hl,e⟩:=I.lstM hH;obtain⟨w,hw,rw'⟩:=r.get hy;refine call_meets F.slot_list_pop ⟨_,e,rfl⟩ F.entry_list_pop (F.args_list_pop_2 _ _)
  (MeetsSeq.list_pop_at l its.toArray n i t k w (fitsIndex_both h1 h2) (by rw[zU,<-hl];exact hk) (by rw[<-Array.getElem?_toList];exact hw) (by rw[zU];omega)) ⟨e,?_⟩
 refine⟨y,_,I.lset (its':=its.eraseIdx k) hH e ?_ (r.eraseIdx k) ?_,rw',q⟩
 . show its.toArray.eraseIdxIfInBounds k=(its.eraseIdx k).toArray;rw[List.eraseIdxIfInBounds_toArray]
 . have:=zF8 xs k;omega
end
section
variable {prog:Program}{w:World}{A:Around}{E:vSP}{s:Shared}
set_option maxRecDepth 100000 in
end
end L2
namespace Att
open PySem PySem.W PySem.Calls PyProof.Rows
theorem zEL {P:Params}{h:Heap}:∀(ns:List Int)(vs:List Value),WellAll P h vs (ns.map WData.int)->IntsAre vs ns:=by
 intro ns
 induction ns with
 | nil=>intro vs w;rw[List.map_nil] at w;cases w;exact .nil
 | cons n ns ih=>
  intro vs w;rw[zAa] at w;cases w with
  | cons a b=>cases a;exact .cons _ _ (ih _ b)
theorem zJI {l:OpenLaw}{n:Nat}(hn:l.most=some n){P:Params}{h:Heap}{args:List WData}{vals:List Value}
 (hpre:l.row.toRowW.claim.pre args=true)(hwl:WellAll P h vals args):
 ∃a vs ns,vals=[Value.ref a]/\args=[WData.list (ns.map WData.int)]/\h.get? a=some { cls:=.type "list",data:=.seq vs.toArray }/\IntsAre vs ns/\ns.length<=n:=by
 have hsh:WShape.hasAll [] args [.list .int]=true:=(pre_splitW hpre).1;have hc:l.pre.holds [] { args:=args }=true:=(pre_splitW hpre).2;obtain⟨d,r,rfl,h1,h2⟩:=hasAllW_cons hsh;obtain rfl:=hasAllW_nil h2;obtain⟨xs,rfl,h3⟩:=hasW_list h1;obtain⟨ns,rfl⟩:=items_int h3;have hlen:ns.length<=n:=by
  unfold OpenLaw.pre at hc;have h4:(WTm.not (.lt (.lit (.int (n:Int))) (.len (.arg 0)))).holds [] { args:=[.list (ns.map .int)] }=true:=by have h4:=(holds_andW hc).1;rw[hn] at h4;exact h4
  have h5:=condW_of h4 (w_not (w_lt w_lit (w_len_list (w_arg rfl))));rw[zB] at h5;refine Nat.le_of_not_lt fun q=>?_;have q':(n:Int)<((ns.length:Nat):Int):=by omega
  first
   | (rw[zS q'] at h5;exact absurd h5 (by decide))
   | (simp at h5;omega)
 cases hwl with
 | cons w1 w2=>
  cases w2;cases w1 with
  | list ho hall=>exact⟨_,_,ns,rfl,rfl,ho,zEL ns _ hall,hlen⟩
theorem zJh (l:OpenLaw)(args:List WData):l.row.toRowW.claim.post args (.bool true) args=true:=
 postW_of (r:=l.row.toRowW) (X:=(true==true))
  (show WShape.has [] (.bool true) .bool=true by first | rfl | decide | simp[WShape.has,WShape.arms,WShape.armsAll])
  (show (WTm.eq .res (.lit (.bool true))).value [] { args:=args,res:=some (.bool true),after:=args }=some (.bool (true==true)) from w_eq_bool (w_res rfl) w_lit) rfl
theorem attach_call {l:OpenLaw}{n:Nat}{q:Program}{loose:List Str}{XP:(Str->Option Value)->Heap->Prop}{YP:World->Heap->Prop}{d:DefRec}
 (hn:l.most=some n)(hdf:d.params.defaults=[])
 (call:∀(w:World)(s₀ s₁:Shared)(mg mb:sOV)(fa:Addr)(o:Obj)(pm cd doc:Value)(a:Addr)(vs:List Value)(ns:List Int),
  Ground q loose [] XP w s₀ mg mb s₁.heap->YP w s₁.heap ->
  s₁.heap.get? fa=some o->o.data=.func (docDef d.name d.params d.body d.scope pm cd doc)->s₁.heap.CodeRec cd d.name->mg d.name=some (.ref fa) ->
  s₁.heap.get? a=some { cls:=.type "list",data:=.seq vs.toArray }->IntsAre vs ns->ns.length<=n->s₁.gens=#[] ->
  codeAny (model l.prog w) callerA (.call (.ref fa) ⟨[.ref a],[]⟩) (fun r s'=>r=.ok (.ret (.bool true))/\OldK s₁.heap s'.heap/\s'.os=s₁.os/\AllBare s'.gens) s₁):
 WalkO q loose XP YP l.row.toRowW d [] (fun f vs=>PySem.call f vs):=by
 intro w s₀ s₁ mg mb G Y fa o pm cd doc dV kV ho hd hcd hD hmg hg args vals as hpre hlay hrd hwl hlo;obtain rfl:dV=.none:=Dflts.none hD hdf;obtain rfl:kV=.none:=Dflts.noKw hD;obtain⟨a,vs,ns,rfl,rfl,hobj,hints,hlen⟩:=zJI hn hpre hwl;refine enter_call (codeAny_mono (call w s₀ s₁ mg mb fa o pm cd doc a vs ns G Y ho (fd_plain hd) hcd hmg hobj hints hlen hg) fun r s' hq=>?_);obtain⟨rfl,h2,h3,h4⟩:=hq;exact⟨.inl ⟨.bool true,.bool true,[],rfl,fun _=>rfl,.bool true,zJh l _,fun _=>⟨List.Pairwise.nil,fun _ hm=>(nomatch hm)⟩⟩,h2,h3,h4⟩
end Att
namespace L2
open PySem PySem.Spec PyProof.Rows
theorem zFP:∀{vs:List Value}{ns:List Int},IntsAre vs ns->zBS (ns.map V.int) vs
 | _,_,.nil=>.nil
 | _,_,.cons n t h=>.cons ⟨t,rfl⟩ (zFP h)
noncomputable def Only (H:Hp):Prop:=∀b,H b=none\/∃o xs,H b=some (.frz o (.lst xs))
theorem zLS {P:Program}{w:World}{K:PySem.W.Frag}{mg mb:sOV}{CX:CXT}{k:Nat}{fa a:Addr}{fd:FuncData}{x:Str}{sp:Sp}{s₁:Shared}{vs:List Value}{ns:List Int}
 (KX:K.In s₁.heap)(hns:s₁.heap.Ns mainGlobals mg)(hb:s₁.heap.Ns builtinsNs mb)(hbb:∀x:Str,x ≠ "__name__"->mb x=bootBuiltins x) (hlim:s₁.heap.NoLimit)(hg:s₁.gens=#[])
 (ha:s₁.heap.get? a=some { cls:=.type "list",data:=.seq vs.toArray }) (hi:IntsAre vs ns)(hl:ns.length<=sizeLine)(hr:zDE k callerA)
 (F:∀base:Heap,K.In base->base.Ns mainGlobals mg->zAb P w K mg base CX k fa fd [x] sp)(hbind:∀(s:Shared)(u:Value),BindsTo s fd ⟨[u],[]⟩ [(x,u)])
 (hsp:∀H:Hp,Only H->SqL K H a (ns.map V.int)->sp [.ref a] H (fun v _=>v=.bl true) fun _ _ _=>False)
 (hCX:∀H e s',CX [] H s₁ (fun _ _ _=>False) e s'->False):
 codeAny (model P w) callerA (.call (.ref fa) ⟨[.ref a],[]⟩) (fun r s'=>r=.ok (.ret (.bool true))/\OldK s₁.heap s'.heap/\s'.os=s₁.os/\AllBare s'.gens) s₁:=by
 have rv:=zFP hi;have lenV:=hi.length;have core:∀H:Hp,Only H->SqL K H a (ns.map V.int)->HOk P w H s₁.heap->(∀b,H b≠none->b=a)->(H a≠none->K.lookup a=none) ->
  codeAny (model P w) callerA (.call (.ref fa) ⟨[.ref a],[]⟩) (fun r s'=>r=.ok (.ret (.bool true))/\OldK s₁.heap s'.heap/\s'.os=s₁.os/\AllBare s'.gens) s₁:=by
  intro H hO hS hok hA hK;have base_of:∀{b:Addr}{o:Obj},s₁.heap.get? b=some o->H b=none->(zLY s₁.heap H).get? b=some o:=fun e n=>zLX e n;have noA:∀{b:Addr}{o:Obj}{es:Array DictEntry}{ep:Nat},s₁.heap.get? b=some o->o.data=.dict es ep->H b=none:=fun {b o es ep} e d=>by
   cases q:H b with
   | none=>rfl
   | some u=>have e':b=a:=hA b (by rw[q];simp);subst e';rw[ha] at e;cases e;have d':Data.seq vs.toArray _=Data.dict es ep:=d;cases d'
  have nsK:∀{b:Addr}{m:sOV},s₁.heap.Ns b m->(zLY s₁.heap H).Ns b m:=fun {b m} ⟨o,es,ep,e,d,r⟩=>⟨o,es,ep,base_of e (noA e d),d,r⟩;have hKb:K.In (zLY s₁.heap H):=fun b o e=>base_of (KX b o e) (by
   cases q:H b with
   | none=>rfl
   | some u=>have e':b=a:=hA b (by rw[q];simp);subst e';rw[hK (by rw[q];simp)] at e;cases e)
  have hM:Mod K mg (zLY s₁.heap H):=⟨hKb,nsK hns,⟨mb,nsK hb,hbb⟩,let ⟨mc,h1,h2⟩:=hlim;⟨mc,nsK h1,h2⟩⟩;have e0:zOC P w K mg (zLY s₁.heap H) callerA [] s₁ H:=⟨rfl,hM,fun b o e=>zNo e,Nat.le_of_eq (zKG _ _),trivial,fun b hb=>absurd (show b∈([]:List Addr) from hb) (by simp),hok,.of_eq hg⟩;refine codeAny_mono ((F _ hKb (nsK hns)).run callerA [] s₁ H ⟨[.ref a],[]⟩ [.ref a] [.ref a] _ _ hr e0 (hbind s₁ (.ref a)) (.cons rfl .nil) (hsp H hO hS)) fun r s' h=>?_;cases r with
  | error e=>exact (hCX H e s' h).elim
  | ok fl=>
   cases fl with
   | next=>exact False.elim h
   | brk=>exact False.elim h
   | cont=>exact False.elim h
   | ret u=>
    obtain⟨v,H',os,bare,un,hok',r',q⟩:=h;have q':v=.bl true:=q;subst q';obtain rfl:u=Value.bool true:=r';refine⟨rfl,OldK.of_keep fun b o e=>?_,os,bare⟩;cases q:H b with
    | none=>exact un.keep b o e q (by intro z;exact absurd (show b∈([]:List Addr) from z) (by simp)) (by simp)
    | some u=>
     rcases hO b with z | ⟨ob,xs,z⟩
     . rw[q] at z;cases z
     . have z2:=un.frzs b ob _ z;obtain⟨e1,_⟩:=hok b _ z;obtain⟨e2,_⟩:=hok' b _ z2;rw[e] at e1;cases e1;exact e2
 cases hk:K.lookup a with
 | some o=>have e:=KX a o hk;rw[ha] at e;cases e;refine core (fun _=>none) (fun _=>.inl rfl) (.inr ⟨_,vs.toArray,_,hk,rfl,rfl,rfl,by rw[zU,lenV];exact hl,by simpa using rv⟩) (fun b u z=>by have z':(none:Option HO)=some u:=z;cases z') (fun b z=>absurd rfl z) fun z=>absurd rfl z
 | none=>
  refine core (fun b=>if b=a then some (.frz { cls:=.type "list",data:=.seq vs.toArray } (.lst (ns.map V.int))) else none) (fun b=>?_) (.inl (.inr ⟨{ cls:=.type "list",data:=.seq vs.toArray },if_pos rfl⟩)) (fun b u z=>?_) (fun b z=>?_) fun _=>hk
  . by_cases hb:b=a
    . exact .inr ⟨_,_,if_pos hb⟩
    . exact .inl (if_neg hb)
  . by_cases hb:b=a
    . have z':=(if_pos hb).symm.trans z;cases z';subst hb;exact⟨ha,by rw[zB];exact hl,vs,_,rv,ha⟩
    . have z':=(if_neg hb).symm.trans z;cases z'
  . by_cases hb:b=a
    . exact hb
    . exact absurd (if_neg hb) z
variable {x:Str}
theorem walk_of {l:PySem.W.OpenLaw}{n k:Nat}{q:Program}{loose:List Str}{XP:(Str->Option Value)->Heap->Prop}{YP:World->Heap->Prop}{d:DefRec}{K:Params->PySem.W.Frag}{CX:World->CXT}{sp:World->Sp}
 (hn:l.most=some n)(hn2:n<=sizeLine)(hdf:d.params.defaults=[])(hr:zDE k callerA)
 (hY:∀(w:World)(h:Heap),YP w h->(K w.params).In h)
 (F:∀(w:World)(mg:sOV)(fa:Addr)(h:Heap),(K w.params).In h->h.Ns mainGlobals mg->mg d.name=some (.ref fa) ->
  ∃fd:FuncData,(∀(s:Shared)(u:Value),BindsTo s fd ⟨[u],[]⟩ [(x,u)]) /\
   ∀base:Heap,(K w.params).In base->base.Ns mainGlobals mg->zAb l.prog w (K w.params) mg base (CX w) k fa fd [x] (sp w))
 (hsp:∀(w:World)(H:Hp)(a:Addr)(ns:List Int),ns.length<=n->Only H->SqL (K w.params) H a (ns.map V.int)->sp w [.ref a] H (fun v _=>v=.bl true) fun _ _ _=>False)
 (hCX:∀(w:World)(H:Hp)(s:Shared)(e:Value)(s':Shared),CX w [] H s (fun _ _ _=>False) e s'->False):
 PySem.W.WalkO q loose XP YP l.row.toRowW d [] (fun f vs=>PySem.call f vs):=by
 refine Att.attach_call hn hdf fun w s₀ s₁ mg mb fa o pm cd doc a vs ns G Y ho hd hcd hmg hobj hints hlen hg=>?_;have KX:=hY w _ Y;obtain⟨fd,hb,hF⟩:=F w mg fa _ KX G.T.g hmg;exact zLS KX G.T.g G.T.b G.T.builtins G.T.nolimit hg hobj hints (zAM hlen hn2) hr hF hb (fun H hO hS=>hsp w H a ns hlen hO hS) fun H e s'=>hCX w H s₁ e s'
noncomputable abbrev CX0:CXT:=fun _ _ _ _ _ _=>False
noncomputable abbrev E0:XK:=fun _ _ _=>False
theorem pass0 {X:Cx}:zHq CX0 X E0:=fun _ _ _ _ _ _ _ h=>h.elim
structure Fun (K:PySem.W.Frag)(x qual:Str)(st:Stmt)(f:Addr)(fd:FuncData):Prop where
 ex:∃(oc:Value)(od:Option Addr)(kV doc pm:Value)(an:Option Addr)(cdv ct:Value)(osl:Array (Option Value)),
  fd=PySem.W.fnOf x qual (defArgs st) (defBody st) (defScope st) .none kV doc pm an cdv ct/\K.lookup f=some ⟨oc,od,.func fd,osl⟩/\PySem.W.codeIn K cdv qual=true
 kp:PySem.W.keepIn K (.ref f)=true
variable {qual:Str}{st:Stmt}{f:Addr}
section
variable {P:Program}{w:World}{K:PySem.W.Frag}{mg:sOV}{base:Heap}
theorem Fun.ok {fd:FuncData}{N ps:List Str}{k:Nat}{sp:Sp}(F:Fun K x qual st f fd)(S:zAE N ps (defScope st))(len:∀vs H Q E,sp vs H Q E->vs.length=ps.length)
 (hbody:∀(cdv:Value)(A:Around)(outer:List Env)(s:Shared)(H:Hp)(vs:List V)(Q:VK)(E:XK),zDE k (A.deeper (envOfC qual (defScope st) s.heap.objs.size f cdv))->sp vs H Q E ->
  ∃t,PSs (zIQ CX0 P w K mg base N qual (defScope st) f cdv A outer s H E).nox (defBody st) t/\t { nx:=fun _ H'=>Q .non H',rt:=Q } (start N vs) H):zAb P w K mg base CX0 (k+1) f fd ps sp:=by
 obtain⟨oc,od,kV,doc,pm,an,cdv,ct,osl,rfl,lk,hcd⟩:=F.ex;refine fn_of lk hcd S len fun A outer s H vs Q E hr hsp=>?_;obtain⟨t,h,q⟩:=hbody cdv A outer s H vs Q E hr hsp;exact⟨t,h.nox,q⟩
theorem Fun.binds {fd:FuncData}{ps:List Str}(F:Fun K x qual st f fd)
 (h:∀(kV doc pm:Value)(an:Option Addr)(cdv ct:Value)(us:List Value),us.length=ps.length->bindArgs (PySem.W.fnOf x qual (defArgs st) (defBody st) (defScope st) .none kV doc pm an cdv ct) ⟨us,[]⟩=pure (ps.zip us)):zDp K fd ps []:=by
 obtain⟨oc,od,kV,doc,pm,an,cdv,ct,osl,rfl,lk,hcd⟩:=F.ex;exact .all (h kV doc pm an cdv ct)
theorem zMj {oc:Value}{od an:Option Addr}{osl:Array (Option Value)}{kV doc pm cdv ct:Value}(l:K.lookup f=some ⟨oc,od,.func (PySem.W.fnOf x qual (defArgs st) (defBody st) (defScope st) .none kV doc pm an cdv ct),osl⟩)
 (c:PySem.W.codeIn K cdv qual=true)(k:PySem.W.keepIn K (.ref f)=true):Fun K x qual st f (PySem.W.fnOf x qual (defArgs st) (defBody st) (defScope st) .none kV doc pm an cdv ct):=⟨⟨oc,od,kV,doc,pm,an,cdv,ct,osl,rfl,l,c⟩,k⟩
end
theorem zGn {A:Around}{k:Nat}(hr:zDE k A):A.units+1<cLine:=zAn (Nat.add_le_add_left (by decide:1<=64) _) hr.units
section
variable {X:Cx}
theorem pv (i:Nat){x:Str}{pos:Pos}(hN:X.N[i]?=some x:=by rfl)(hv:Vis X.env.scope x:=by first | exact Or.inl rfl | exact Or.inr (Or.inl rfl) | exact Or.inr (Or.inr rfl))(hd:(x==("__debug__" : Str))=false:=by decide)
 (hcd:(x==("__classdict__" : Str))=false:=by decide):PE X (.Name x pos) (zKr i):=pe_var hN hv hd hcd
end
variable {A B:Prop}
theorem zCr (h:B):if false=true then A else B:=by rw[if_neg zn];exact h
theorem zFC (h:A):if true=true then A else B:=by rw[if_pos rfl];exact h
theorem zC1 {c:Prop} [Decidable c] (h1:c->A)(h2:¬ c->B):if c then A else B:=by
 by_cases h:c
 . rw[if_pos h];exact h1 h
 . rw[if_neg h];exact h2 h
noncomputable def zAo (H H':Hp):Prop:=∀b o,H b=some o->H' b=some o
theorem zAo.refl (H:Hp):zAo H H:=fun _ _ h=>h
theorem zAo.trans {H H1 H2:Hp}(a:zAo H H1)(b:zAo H1 H2):zAo H H2:=fun c o h=>b c o (a c o h)
section
variable {κ:Type} [DecidableEq κ]
theorem zKw {kvs:List (κ×V)}{k:κ}(h:zCL kvs k=none):¬ k∈kvs.map (·.1):=by intro m;obtain⟨p,hp,e⟩:=zo.mp m;have q:(kvs.any fun kv=>decide (kv.1=k))=true:=List.any_eq_true.mpr ⟨p,hp,zS e⟩;rw[zCO,h] at q;exact absurd q (by simp)
theorem zJu:∀{l:List κ}{k:κ},l.Nodup->¬ k∈l->(l++[k]).Nodup
 | [],k,_,_=>by simp
 | a::r,k,h,hk=>by
  obtain⟨h1,h2⟩:=zBI.mp h;show (a::(r++[k])).Nodup;refine zBI.mpr ⟨fun m=>?_,zJu h2 fun m=>hk (ze.mpr (Or.inr m))⟩;rcases zm.mp m with q | q
  . exact h1 q
  . exact hk (ze.mpr (Or.inl (zd.mp q).symm))
theorem zNq {kvs:List (κ×V)}{k:κ}(v:V)(hn:(kvs.map (·.1)).Nodup)(h:zCL kvs k=none):((zCs kvs k v).map (·.1)).Nodup:=by rw[zDr v h,zQ];exact zJu hn (zKw h)
end
end L2
set_option Elab.async false
set_option linter.all false
set_option maxRecDepth 100000
set_option maxHeartbeats 4000000
namespace L2
open PySem PySem.Spec PyProof.Rows
theorem zDg {prog:Program}{w:World}{A:Around}{R:Result->Shared->Prop}{s:Shared}{elt target iter:Expr}{ifs:List Expr}{scope:Scope}{pos:Pos}{it acc:Value}{env:Env}(I:Nat->Shared->Prop)
 (turn:∀n s,I n s->wpAny (model prog w) A (pyNext it) (fun r s₁=>match r with
  | none=>R (.ok .next) s₁
  | some v=>wpAny (model prog w) A (letOwnedTupleGo target it v) (fun _ s₁'=>wpAny (model prog w) A (assign target env v) (fun _ s₂=>
   wpAny (model prog w) A (forIn ifs true fun c r=>if r=true then do let ok <-isTrue c env (eval c env);pure (ForInStep.yield ok) else pure (ForInStep.yield r)) (fun ok s₃=>
    if ok=true then wpAny (model prog w) A (eval elt env) (fun x s₄=>
     wpAny (model prog w) A (call (.builtin "list.append") [acc,x]) (fun _ s₅=>∃m,m<n/\I m s₅) (fun _ _=>False) s₄) (fun _ _=>False) s₃
    else ∃m,m<n/\I m s₃) (fun _ _=>False) s₂) (fun _ _=>False) s₁') (fun _ _=>False) s₁) (fun _ _=>False) s)
 (n:Nat)(h:I n s):codeAny (model prog w) A (.compLoop (.ListComp elt [⟨target,iter,ifs,0⟩] scope pos) 0 it acc env) R s:=by
 refine codeAny_loop rfl I (fun n s hI=>?_) n h;show wpAny _ A ((compTurn (.ListComp elt [⟨target,iter,ifs,0⟩] scope pos) 0 it acc env).onRaise (fun x=>do noteFrame x env;theTreesLotGoes x)) _ _ s
 refine wpAny_noted ?_;rw[compTurn_list];refine zC (wpAny_standAt (zC (zAO (turn n s hI) (fun r s₁ h₁=>?_) fun _ _ h'=>h'.elim)));cases r with
 | none=>exact zG h₁
 | some v=>
  refine zC (zAO h₁ (fun _ s₁' h₁'=>?_) fun _ _ h'=>h'.elim);refine zC (zAO h₁' (fun _ s₂ h₂=>zC (zAO h₂ (fun ok s₃ h₃=>?_) fun _ _ h'=>h'.elim)) fun _ _ h'=>h'.elim);cases ok with
  | false=>exact zG ⟨rfl,h₃⟩
  | true=>exact zC (zC (zAO h₃ (fun x s₄ h₄=>zC (zAO h₄ (fun _ s₅ h₅=>zG (zG ⟨rfl,h₅⟩)) fun _ _ h'=>h'.elim)) fun _ _ h'=>h'.elim))
noncomputable def PTs (X:Cx)(ifs:List Expr)(t:TT):Prop:=
 ∀(pins:lPO)(s:Shared)(σ:St)(H:Hp)(Q:Bool->Hp->Prop),Inv X pins σ H s->t σ H Q ->
  wpAny (model X.prog X.w) X.A (forIn ifs true fun c r=>if r=true then do let ok <-isTrue c X.env (eval c X.env);pure (ForInStep.yield ok) else pure (ForInStep.yield r)) (TP X pins σ Q) X.xe s
noncomputable def tYes:TT:=fun _ H Q=>Q true H
theorem zFN {σ:St}{H:Hp}{A B:Hp->Prop}(h:A H):tYes σ H (fun b H3=>if b=true then A H3 else B H3):=by
 show (if true=true then A H else B H)
 exact zFC h
variable {X:Cx}
theorem zBP:PTs X [] tYes:=fun _ _ _ H _ I h=>wpAny_tests_nil ⟨H,I,h⟩
theorem zCt {c:Expr}{t:TT}(h:PT X c t):PTs X [c] t:=fun pins s σ H Q I q=>wpAny_tests_one (h pins s σ H Q I q)
noncomputable def zDm (cells:List (Str×Addr)):List (Str×NameKind)->List (Str×Addr)->List (Str×Addr)
 | [],acc=>acc
 | (n,k)::r,acc=>if (k == .free)=true then (match cells.lookup n with | some c=>zDm cells r ((n,c)::acc) | none=>zDm cells r acc) else zDm cells r acc
theorem zDx {cells:List (Str×Addr)}{x:Str}{c:Addr}:∀(names:List (Str×NameKind))(acc:List (Str×Addr)),(zDm cells names acc).lookup x=some c->acc.lookup x=some c\/cells.lookup x=some c
 | [],acc,h=>.inl h
 | (n,k)::r,acc,h=>by
  unfold zDm at h;split at h
  . cases hc:cells.lookup n with
    | none=>rw[hc] at h;exact zDx r acc h
    | some c'=>
     rw[hc] at h;rcases zDx r _ h with q | q
     . rw[zA1] at q;cases hx:x==n with
       | true=>
        rw[hx] at q;have e:x=n:=by simpa using hx
        have e2:c'=c:=by simpa using q
        rw[e,hc,e2];exact .inr rfl
       | false=>rw[hx] at q;exact .inl q
     . exact .inr q
  . exact zDx r acc h
theorem zDy {cells:List (Str×Addr)}{x:Str}:∀(names:List (Str×NameKind))(acc:List (Str×Addr)),(∃c,acc.lookup x=some c)->∃c,(zDm cells names acc).lookup x=some c
 | [],acc,h=>h
 | (n,k)::r,acc,h=>by
  unfold zDm;split
  . cases hc:cells.lookup n with
    | none=>exact zDy r acc h
    | some c'=>
     refine zDy r _ ?_;rw[zA1];cases hx:x==n with
     | true=>exact⟨c',rfl⟩
     | false=>exact h
  . exact zDy r acc h
theorem zDP {cells:List (Str×Addr)}{x:Str}(hx:∃c,cells.lookup x=some c):∀(names:List (Str×NameKind))(acc:List (Str×Addr)),(x,NameKind.free)∈names->∃c,(zDm cells names acc).lookup x=some c
 | [],acc,h=>by simp at h
 | (n,k)::r,acc,h=>by
  rcases ze.mp h with e | h
  . cases e;obtain⟨c,hc⟩:=hx;unfold zDm;rw[if_pos (by rfl),hc];exact zDy r _ ⟨c,by rw[zA1];simp⟩
  . unfold zDm;split
    . cases hc:cells.lookup n with
      | none=>exact zDP hx r acc h
      | some c'=>exact zDP hx r _ h
    . exact zDP hx r acc h
theorem zDY {env:Env}:∀(names:List (Str×NameKind))(acc:List (Str×Addr)),(∀y∈names,y.2=.free->∃c,env.cells.lookup y.1=some c) ->
 (forIn names acc fun (x:Str×NameKind)(cs:List (Str×Addr))=>(if (x.2 == .free)=true then (do let a <-cellOf env x.1;pure (ForInStep.yield ((x.1,a)::cs))) else pure (ForInStep.yield cs):Sem (ForInStep (List (Str×Addr)))))=pure (zDm env.cells names acc)
 | [],acc,_=>rfl
 | (n,k)::r,acc,h=>by
  rw[List.forIn_cons];have hr:∀y∈r,y.2=.free->∃c,env.cells.lookup y.1=some c:=fun y hy=>h y (zg _ hy);unfold zDm;cases hk:(k==NameKind.free) with
  | true=>obtain⟨c,hc⟩:=h (n,k) zZ (by simpa using hk);simp only[hk,if_true,cellOf,hc,pure_bind];exact zDY r _ hr
  | false=>simp only[hk,zBg,if_false,pure_bind];exact zDY r _ hr
theorem zDO {scope:Scope}{env:Env}(h:∀y∈scope.names,y.2=.free->∃c,env.cells.lookup y.1=some c):closureFor scope env=pure (zDm env.cells scope.names []):=by have e:=zDY scope.names [] h;simp only[closureFor];simp only[bind_pure];exact e
theorem zBt {env:Env}{x:Str}:∀(names:List (Str×NameKind)),
 (names.map fun (n,k)=>if (k==NameKind.free && env.scope.kind == .function && env.kindOf n==some .cell) then (n,NameKind.cell) else (n,k)).lookup x =
  (names.lookup x).map fun k=>if (k==NameKind.free && env.scope.kind == .function && env.kindOf x==some .cell)=true then NameKind.cell else k
 | []=>rfl
 | (n,k)::r=>by
  have ih:=zBt (env:=env) (x:=x) r;rw[zAa];show List.lookup x ((if (k==NameKind.free && env.scope.kind == .function && env.kindOf n==some .cell)=true then (n,NameKind.cell) else (n,k))::_)=_
  by_cases c:(k==NameKind.free && env.scope.kind == .function && env.kindOf n==some .cell)=true
  . rw[if_pos c,zA1,zA1];cases hx:x==n with
    | true=>
     have e:x=n:=by simpa using hx
     subst e;show some NameKind.cell=Option.map _ (some k);rw[zAy,if_pos c]
    | false=>exact ih
  . rw[if_neg c,zA1,zA1];cases hx:x==n with
    | true=>
     have e:x=n:=by simpa using hx
     subst e;show some k=Option.map _ (some k);rw[zAy,if_neg c]
    | false=>exact ih
noncomputable def zAx (X:Cx)(pl:lPO)(N':List Str)(scope:Scope)(fp:List Addr)(s3:Shared)(H3:Hp):Cx where
 prog:=X.prog
 w:=X.w
 K:=X.K
 mg:=X.mg
 base:=X.base
 A:=X.A
 N:=N'
 s₀:=s3
 H₀:=H3
 env:=compEnvC scope (zDm X.env.cells scope.names []) s3.heap.objs.size X.env
 outer:=X.stack
 stack:=X.stack
 ex:=fp
 fn:=fun _=>false
 calm:=X.calm
 pn:=pl
 xe:=fun _ _=>False
noncomputable def zDo (X:Cx)(scope:Scope):List Str->List Nat->Prop
 | [],[]=>True
 | x::cn,j::ci=>X.N[j]?=some x/\X.env.kindOf x=some .cell/\scope.names.lookup x=some .free/\zDo X scope cn ci
 | _,_=>False
theorem zDo.get {X:Cx}{scope:Scope}:∀{cn:List Str}{ci:List Nat}{k:Nat}{x:Str},zDo X scope cn ci->cn[k]?=some x->∃j,ci[k]?=some j/\X.N[j]?=some x/\X.env.kindOf x=some .cell/\scope.names.lookup x=some .free
 | [],_,_,_,_,h=>by simp at h
 | _::_,[],_,_,c,_=>c.elim
 | y::cn,j::ci,0,x,c,h=>by
  obtain⟨a,b,b',_⟩:=c;have e:y=x:=by simpa using h
  subst e;exact⟨j,rfl,a,b,b'⟩
 | y::cn,j::ci,k+1,x,c,h=>by obtain⟨j',h1,h2⟩:=zDo.get (k:=k) c.2.2.2 (by simpa using h);exact⟨j',by simpa using h1,h2⟩
structure zEa (X:Cx)(scope:Scope):Prop where
 kind:scope.kind=.function
 nocell:∀y∈scope.names,y.2 ≠ .cell
 names:∀y∈scope.names,y.2=.local->scope.names.lookup y.1=some .local
 free:∀y∈scope.names,y.2=.free->X.env.kindOf y.1=some .cell
variable {g:TG}{ti:TT}{te:TE}{Q:VK}
section
variable {X:Cx}{pins:lPO}{σ:St}{H3:Hp}{s3:Shared}{scope:Scope}{fp:List Addr}{N' own cn:List Str}{ci:List Nat}{cv:List V}
theorem zHl (ok:X.Ok)(S:zEa X scope){x:Str}(h:(relabel scope X.env).names.lookup x=some .cell\/(relabel scope X.env).names.lookup x=some .free):
 ∃c,(zDm X.env.cells scope.names []).lookup x=some c:=by
 have e:(relabel scope X.env).names.lookup x=(scope.names.lookup x).map fun k=>if (k==NameKind.free && X.env.scope.kind == .function && X.env.kindOf x==some .cell)=true then NameKind.cell else k:=zBt scope.names
 have hf:scope.names.lookup x=some .free:=by
  cases q:scope.names.lookup x with
  | none=>rw[e,q] at h;simp at h
  | some k=>
   by_cases hk:k=.free
   . rw[hk]
   . have hb:(k==NameKind.free)=false:=by simpa using hk
     rw[e,q] at h;simp only[zAy,hb,Bool.false_and,zBg,if_false,Option.some.injEq] at h;rcases h with h | h
     . exact absurd h (S.nocell _ (PySem.mem_of_lookup q))
     . exact absurd h hk
 exact zDP (ok.has x (.inl (S.free _ (PySem.mem_of_lookup hf) rfl))) scope.names [] (PySem.mem_of_lookup hf)
theorem zCx {x:Str}{c:Addr}(h:(zDm X.env.cells scope.names []).lookup x=some c):X.env.cells.lookup x=some c:=by
 rcases zDx _ _ h with q | q
 . simp at q
 . exact q
theorem zN7 (I:Inv X pins σ H3 s3)(S:zEa X scope)(f:∀b∈fp,zGY X pins H3 b)(fz:∀b∈fp,b<s3.heap.objs.size):(zAx X (X.pn++pins) N' scope fp s3 H3).Ok where
 mod:=I.ok.mod
 kind:=S.kind
 glob:=I.ok.glob
 blt:=I.ok.blt
 above:=zK _
 inj:=fun x y c h1 h2=>I.ok.inj x y c (zCx h1) (zCx h2)
 has:=fun x h=>zHl I.ok S h
 cab:=fun x c h=>by cases h
 hd:=I.ok.hd
 frames:=I.ok.frames
 stk:=.inl rfl
 exf:=fun b hb=>⟨zb (fz b hb),fun x c h=>(f b hb).2.2.2.2.1 x c (zCx h)⟩
 bs:=I.bs
 bsz:=zAM I.ok.bsz I.sz
 noex:=fun b o e hb=>by
  rcases (f b hb).2.2.2.1 with z | z
  . exact I.ok.noex b o e z
  . exact absurd (zq (zW e) (zAM I.ok.bsz z)) (zBe _)
 exfs:=fun b hb z=>by
  rcases ze.mp (I.stkSub b z) with q | q
  . exact (f b hb).2.1 q
  . exact (f b hb).2.2.1 q
 funs:=I.stack
 frf:=I.stkFree
theorem zLi {h1:Heap}{t:Nat}(I:Inv X pins σ H3 s3)(S:zEa X scope)(f:∀b∈fp,zGY X pins H3 b)(fz:∀b∈fp,b<s3.heap.objs.size)
 (hN:N'=own++cn)(hc:zDo X scope cn ci)(hv:ci.map (fun j=>σ[j]?)=cv.map fun v=>some (some v))(hl:cn.length=ci.length)
 (hns:h1.Ns s3.heap.objs.size (fun _=>none))(hk:∀b o,s3.heap.get? b=some o->h1.get? b=some o):
 Inv (zAx X (X.pn++pins) N' scope fp s3 H3) [] (List.replicate own.length none++cv.map some) H3 { s3 with heap:=h1,toks:=t }:=by
 have lenv:cv.length=ci.length:=by have:=congrArg List.length hv;simpa using this.symm
 refine⟨zN7 I S f fz,rfl,I.bare,Un.kept hk,⟨_,hns,fun i x v e1 e2 e3=>?_⟩,fun x c e=>?_,I.hok.fresh (zK _),fun x c e=>I.freeC x c (zCx e),fun p hp=>?_,I.hok.kept hk,?_⟩
 . -- a captured name
   have hi:own.length<=i:=by
    by_cases hi:own.length<=i
    . exact hi
    . rw[zP (by simpa using hi),zBT] at e2;split at e2 <;> cases e2
   rw[zO (by simpa using hi),zAe,zM] at e2;have e1':(own++cn)[i]?=some x:=by rw[<-hN];exact e1
   rw[zO hi] at e1';obtain⟨j,hj,hNj,hkx,hfr⟩:=hc.get e1';have hcv:cv[i-own.length]?=some v:=by
    cases q:cv[i-own.length]? with
    | none=>rw[q] at e2;cases e2
    | some v'=>rw[q] at e2;cases e2;rfl
   have hσ:σ[j]?=some (some v):=by have:=congrArg (fun l:List (Option (Option V))=>l[i-own.length]?) hv;simp only[zM,hj,hcv,zAy,Option.some.injEq] at this;exact this
   obtain⟨m,_,hl'⟩:=I.loc;obtain⟨u,r,q⟩:=hl' j x v hNj hσ (.inr (.inl hkx));have hkd:(relabel scope X.env).names.lookup x=some .cell\/(relabel scope X.env).names.lookup x=some .free:=by
    have e:(relabel scope X.env).names.lookup x=(scope.names.lookup x).map fun k=>if (k==NameKind.free && X.env.scope.kind == .function && X.env.kindOf x==some .cell)=true then NameKind.cell else k:=zBt scope.names
    rw[e,hfr,zAy];by_cases cc:(NameKind.free==NameKind.free && X.env.scope.kind == .function && X.env.kindOf x==some .cell)=true
    . rw[if_pos cc];exact .inl rfl
    . rw[if_neg cc];exact .inr rfl
   obtain⟨c',hc'⟩:=zHl I.ok S hkd;refine⟨u,r,.inr ⟨hkd,c',hc',?_⟩⟩;rcases q with ⟨z,_⟩ | ⟨_,c,hcc,o,ho,hd⟩
   . rw[hkx] at z;cases z
   . have e:c=c':=zT (hcc.symm.trans (zCx hc'));subst e;exact⟨o,hk c o ho,hd⟩
 . obtain⟨v,o,ho,hd⟩:=I.cell x c (zCx e);exact⟨v,o,hk c o ho,hd⟩
 . have hp':p∈X.pn++pins:=by rw[zAG] at hp;exact hp
   obtain⟨e,n,ne,nf,d⟩:=I.pin p hp';refine⟨hk _ _ e,n,zb (zW e),fun z=>?_,d⟩;rcases ze.mp (I.stkSub p.1 z) with q | q
   . exact ne q
   . exact nf q
 . show (List.replicate own.length none++cv.map some).length=N'.length;rw[hN,zJ,zJ,zAe,zB,lenv,hl]
noncomputable def zEw (J:It)(own:Nat)(cv:List V)(g:TG)(ti:TT)(te:TE)(D:Addr)(H1:Hp)(Q:VK):Prop:=∃W:Nat->Nat->List V->Hp->Prop,(∃m,W 0 m [] (upd H1 D (.lst [])))/\∀i m ys H,W i m ys H ->
 (J.stop i H/\Q (.ref D) H)\/(J.go i H/\ys.length<sizeLine/\∃N:List V->Hp->Prop,(∀ys' H',N ys' H'->∃m',m'<m/\W (i+1) m' ys' H') /\
  ∀x H',J.yld i H x H'->g x (List.replicate own none++cv.map some) H' fun σ2 H2=>(σ2.length=own+cv.length/\σ2.drop own=cv.map some) /\
   ti σ2 H2 fun b H3=>if b=true then te σ2 H3 fun y H4=>H4 D=some (.lst ys)/\N (ys++[y]) (upd H4 D (.lst (ys++[y]))) else N ys H3)
inductive zIi (own:Nat)(ci:List Nat)(g:TG)(ti:TT)(te:TE)(σ:St)(Q:VK)(J:It)(H1:Hp):Prop
 | mk:∀cv:List V,(ci.map (fun j=>σ[j]?)=cv.map (fun v=>some (some v)))->(∀D,H1 D=none->zEw J own cv g ti te D H1 Q)->zIi own ci g ti te σ Q J H1
noncomputable def zH0 (own:Nat)(ci:List Nat)(wi:TI)(g:TG)(ti:TT)(te:TE):TE:=fun σ H Q=>wi σ H fun J H1=>zIi own ci g ti te σ Q J H1
theorem zGN {elt target iter:Expr}{ifs:List Expr}{pos cpos:Pos}{wi:TI}{use:Option (Value->Sem Unit)}{Q0:vSP}{s:Shared}{H:Hp}(hcalm:X.calm=true)(S:zEa X scope)(hc:zDo X scope cn ci)(hl:cn.length=ci.length)
 (hi:PI X target iter wi)(hg:∀pl fp s3 H3,PG (zAx X pl (own++cn) scope fp s3 H3) target g)(ht:∀pl fp s3 H3,PTs (zAx X pl (own++cn) scope fp s3 H3) ifs ti)
 (he:∀pl fp s3 H3,PE (zAx X pl (own++cn) scope fp s3 H3) elt te)(hs:∀x,foldedSetIterable iter X.env x=pure x)(I:Inv X pins σ H s)(h:zH0 own.length ci wi g ti te σ H Q)
 (fin:∀(D C:Addr)(H5:Hp)(s6:Shared)(m6:sOV),Inv X pins σ H5 s6->s6.heap.Ns C m6->H5 C=none->C≠X.env.locals->X.s₀.heap.objs.size<=C->(∀x c,X.env.cells.lookup x=some c->c≠C) ->
  (∀p∈X.pn++pins,p.1≠C)->Q (.ref D) H5->compPost (model X.prog X.w) X.A X.xe use Q0 (.ref D) C (.ok .next) s6):
 wpAny (model X.prog X.w) X.A (comprehension (.ListComp elt [⟨target,iter,ifs,0⟩] scope pos) scope X.env cpos (newList []) false (eval iter X.env) use) Q0 X.xe s:=by
 have hcl:closureFor scope X.env=pure (zDm X.env.cells scope.names []):=zDO fun y hy hf=>I.ok.has y.1 (.inl (S.free y hy hf));refine wpAny_comprehension_free (use:=use) rfl hs hcl S.kind S.names ?_;refine thn (hi pins s σ H _ I h) fun v s1 h1=>thn h1 fun itv s2 h2=>?_;obtain⟨it,fp,tn,J,H2,e,I2,T,st2,f2,cv,hv,hD⟩:=h2;subst e;have lenv:cv.length=ci.length:=by have:=congrArg List.length hv;simpa using this.symm
 have I3:=I2.lnew (ys:=[]) (its:=[]) (t':=s2.toks) .nil (zk _);obtain⟨W,⟨m0,w0⟩,turn⟩:=hD s2.heap.objs.size I2.fresh;have fz:∀b∈fp,b<s2.heap.objs.size:=fun b hb=>by obtain⟨o,ho,_⟩:=T.obj _ _ st2 b hb;exact zW ho
 refine zAs ?_;refine wpAny_newFunctionEnv S.nocell (by intro y hy;simp at hy) (fun h4 hns4 hsb4=>?_) S.kind;generalize hs3:({ s2 with heap:=s2.heap.push { cls:=.type "list",dict:=none,data:=.seq ([]:List Value).toArray } }:Shared)=s3 at hns4 hsb4 ⊢;have I3':Inv X pins σ (upd H2 s2.heap.objs.size (.lst [])) s3:=by rw[<-hs3];exact I3
 have hsz3:s3.heap.objs.size=s2.heap.objs.size+1:=by rw[<-hs3];exact zAU ..
 have k23:∀b o,s2.heap.get? b=some o->s3.heap.get? b=some o:=fun b o e=>by rw[<-hs3];exact zN _ e
 have k34:∀b o,s3.heap.get? b=some o->h4.get? b=some o:=fun b o e=>hsb4.extBut b o (zb (zW e)) (zN _ e);have nD:∀b∈fp,b≠s2.heap.objs.size:=fun b hb=>zb (fz b hb);have f3:∀b∈fp,zGY X pins (upd H2 s2.heap.objs.size (.lst [])) b:=fun b hb=>⟨by rw[za (nD b hb)];exact (f2 b hb).1,(f2 b hb).2⟩;have fz3:∀b∈fp,b<s3.heap.objs.size:=fun b hb=>by rw[hsz3];exact zBW (fz b hb)
 have I4:Inv (zAx X (X.pn++pins) (own++cn) scope fp s3 (upd H2 s2.heap.objs.size (.lst []))) [] (List.replicate own.length none++cv.map some) (upd H2 s2.heap.objs.size (.lst [])) { s3 with heap:=h4,toks:=s3.toks+([]:List (Str×Value)).length }:=
  zLi I3' S f3 fz3 rfl hc hv hl hns4 k34
 have st4:tn 0 h4:=T.keep _ _ _ st2 fun b hb o e=>k34 b o (k23 b o e);generalize hX:zAx X (X.pn++pins) (own++cn) scope fp s3 (upd H2 s2.heap.objs.size (.lst []))=X' at I4;have hg':PG X' target g:=by rw[<-hX];exact hg _ _ _ _
 have ht':PTs X' ifs ti:=by rw[<-hX];exact ht _ _ _ _
 have he':PE X' elt te:=by rw[<-hX];exact he _ _ _ _
 have ePr:X'.prog=X.prog:=by rw[<-hX];rfl
 have eW:X'.w=X.w:=by rw[<-hX];rfl
 have eK:X'.K=X.K:=by rw[<-hX];rfl
 have eA:X'.A=X.A:=by rw[<-hX];rfl
 have eE:X'.env=compEnvC scope (zDm X.env.cells scope.names []) s3.heap.objs.size X.env:=by rw[<-hX];rfl
 have eXe:X'.xe=fun _ _=>False:=by rw[<-hX];rfl
 have eC:X'.calm=true:=by rw[<-hX];exact hcalm
 have eex:X'.ex=fp:=by rw[<-hX];rfl
 have epn:X'.pn=X.pn++pins:=by rw[<-hX];rfl
 have es0:X'.s₀=s3:=by rw[<-hX];rfl
 have eH0:X'.H₀=upd H2 s2.heap.objs.size (.lst []):=by rw[<-hX];rfl
 have efs:X'.fs=frs X.stack:=by rw[<-hX];rfl
 have ok':=I4.ok;have stat:∀{H':Hp},(∀b∈fp,H' b=none)->∀b∈fp,zGY X' [] H' b:=fun hn b hb=>by
  have hb':b∈X'.ex:=by rw[eex];exact hb
  refine⟨hn b hb,(ok'.exf b hb').1,ok'.exfs b hb',.inl hb',(ok'.exf b hb').2,fun p hp=>?_⟩;rw[epn,zAG] at hp;exact (f2 b hb).2.2.2.2.2 p hp
 have wk:∀(σ2:St),(σ2.length=own.length+cv.length/\σ2.drop own.length=cv.map some)->∀{pl:lPO}{H':Hp}{s':Shared},Inv X' pl σ2 H' s'->Inv X' pl (List.replicate own.length none++cv.map some) H' s':=fun σ2 hq pl H' s' I'=>by
  refine I'.weak (by rw[hq.1,zJ,zAe,zB]) fun i v hi=>?_;by_cases hlt:i<own.length
  . rw[zP (by simpa using hlt),zBT] at hi;split at hi <;> cases hi
  . rw[zO (by simpa using hlt),zAe,<-hq.2,List.getElem?_drop] at hi;rw[show own.length+(i-own.length)=i by omega] at hi;exact hi
 have loop:codeAny (model X.prog X.w) X.A (.compLoop (.ListComp elt [⟨target,iter,ifs,0⟩] scope pos) 0 (.ref it) (.ref s2.heap.objs.size) (compEnvC scope (zDm X.env.cells scope.names []) s3.heap.objs.size X.env))
  (compPost (model X.prog X.w) X.A X.xe use Q0 (.ref s2.heap.objs.size) s3.heap.objs.size) { s3 with heap:=h4,toks:=s3.toks+([]:List (Str×Value)).length }:=by
  refine zDg (fun n s'=>∃i ys H',Inv X' [] (List.replicate own.length none++cv.map some) H' s'/\tn i s'.heap/\(∀b∈fp,H' b=none)/\W i n ys H') ?_ m0
   ⟨0,[],_,I4,st4,fun b hb=>(f3 b hb).1,w0⟩
  rintro n s5 ⟨i,ys,H5,I5,st5,fr5,w5⟩;rcases turn i n ys H5 w5 with ⟨stop,qn⟩ | ⟨go,hsz,N,hN,step⟩
  . have d:=T.done X' ePr eW eK eC i [] s5 _ H5 (fun _ _=>False) I5 (stat fr5) st5 stop;rw[eA] at d;refine thn d fun r s6 ⟨hr,I6⟩=>?_;subst hr;obtain⟨m6,hn6,_⟩:=I6.loc;rw[eE] at hn6;have hn6':s6.heap.Ns s3.heap.objs.size m6:=hn6;have un6:Un (frs X.stack) fp (upd H2 s2.heap.objs.size (.lst [])) H5 s3.heap s6.heap:=by have b6:=I6.base;rw[efs,eex,eH0,es0] at b6;exact b6
    have os6:s6.os=s3.os:=by have o6:=I6.os;rw[es0] at o6;exact o6
    have hok6:HOk X.prog X.w H5 s6.heap:=by have o6:=I6.hok;rw[ePr,eW] at o6;exact o6
    have I7:Inv X pins σ H5 s6:=I3'.call' (ch:=fp) os6 un6 hok6 I6.bare fun b hb=>⟨(f2 b hb).2.2.2.1,(f2 b hb).2.1,(f2 b hb).2.2.2.2.1,(f2 b hb).2.2.2.2.2⟩;have fr6:H5 s3.heap.objs.size=none:=by have q:=I6.free;rw[eE] at q;exact q
    refine fin s2.heap.objs.size s3.heap.objs.size H5 s6 m6 I7 hn6' fr6 (zAR I3'.lt) I3'.sz (fun x c e=>?_) (fun p hp=>?_) qn
    . obtain⟨_,o,ho,_⟩:=I3'.cell x c e;exact zb (zW ho)
    . exact zb (zW (I3'.pin p hp).1)
  . have d:=T.item X' ePr eW eK eC i [] s5 _ H5 (fun _ _=>False) I5 (stat fr5) st5 go;rw[eA] at d;refine thn d fun r s6 ⟨u,hr,h6⟩=>?_;subst hr;refine thn h6 fun _ s7 ⟨x,H7,I7,r7,y7,st7,fr7⟩=>?_;have I7':=I7.pinned (stat fr7) (T.obj _ _ st7);have g7:=hg' _ s7 _ H7 x u _ I7' r7 (step x H7 y7);rw[ePr,eW,eA,eE,eXe] at g7;refine thn g7 fun _ s8 ⟨σ8,H8,I8,q8,ti8⟩=>?_;have t8:=ht' _ s8 σ8 H8 _ I8 ti8;rw[ePr,eW,eA,eE,eXe] at t8;refine thn t8 fun ok s9 ⟨H9,I9,q9⟩=>?_;have again:∀{ys':List V}{H':Hp}{s':Shared},Inv X' ([]++zEn fp s7.heap) σ8 H' s'->N ys' H' ->
     ∃m,m<n/\∃i ys H',Inv X' [] (List.replicate own.length none++cv.map some) H' s'/\tn i s'.heap/\(∀b∈fp,H' b=none)/\W i m ys H':=fun {ys' H' s'} I' n'=>by
     obtain⟨m',hm,w'⟩:=hN ys' H' n';refine⟨m',hm,i+1,ys',H',(wk σ8 q8 I').unpinned,T.keep _ _ _ st7 fun b hb o e=>(I'.pin (b,o) (zi _ (zi _ (zCQ hb e)))).1,fun b hb=>?_,w'⟩;obtain⟨o,e,_⟩:=T.obj _ _ st7 b hb;exact (I'.pin (b,o) (zi _ (zi _ (zCQ hb e)))).2.1
    cases ok with
    | false=>exact again I9 q9
    | true=>have e9:=he' _ s9 σ8 H9 _ I9 q9;rw[ePr,eW,eA,eE,eXe] at e9;refine thn e9 fun u10 s10 ⟨y,H10,I10,r10,hD10,n10⟩=>?_;have a10:=zA7 (X:=X') _ s10 σ8 H10 (.ref s2.heap.objs.size) [y] (.ref s2.heap.objs.size) [u10] (fun _ H'=>N (ys++[y]) H') I10 rfl (.cons r10 .nil) ⟨_,_,_,rfl,rfl,hD10,hsz,n10⟩;rw[ePr,eW,eA,eXe] at a10;exact thn a10 fun _ s11 ⟨_,H11,I11,_,n11⟩=>again I11 n11
 exact codeAny_compStart_list loop (T.self X.A 0 _ _ _ st4 loop)
theorem zBi {elt target iter:Expr}{ifs:List Expr}{pos:Pos}{wi:TI}(hcalm:X.calm=true)(S:zEa X scope)(hc:zDo X scope cn ci)(hl:cn.length=ci.length)
 (hi:PI X target iter wi)(hg:∀pl fp s3 H3,PG (zAx X pl (own++cn) scope fp s3 H3) target g)(ht:∀pl fp s3 H3,PTs (zAx X pl (own++cn) scope fp s3 H3) ifs ti)
 (he:∀pl fp s3 H3,PE (zAx X pl (own++cn) scope fp s3 H3) elt te)(hs:∀x,foldedSetIterable iter X.env x=pure x:=by intro _;rfl):
 PE X (.ListComp elt [⟨target,iter,ifs,0⟩] scope pos) (zH0 own.length ci wi g ti te):=by
 intro pins s σ H Q I h;rw[eval_ListComp];exact zGN hcalm S hc hl hi hg ht he hs I h fun D C H5 s6 m6 I7 hn fr nL ge nC nP q=>⟨m6,hn,fun h' hs'=>⟨.ref D,H5,I7.turned (t':=s6.toks) (it:=C) (fun b o hb e=>hs'.extBut b o hb e) fr nL (.inr ge) nC nP,rfl,q⟩⟩
theorem zCf {elt target iter:Expr}{ifs:List Expr}{pos pos' cpos:Pos}{wi:TI}{g:TG}{ti:TT}{te:TE}{i:Nat}{x:Str}(hN:X.N.Nodup)(hix:X.N[i]?=some x)(hx:Loc X.env.scope x)(hcalm:X.calm=true)(S:zEa X scope)(hc:zDo X scope cn ci)(hl:cn.length=ci.length)
 (hi:PI X target iter wi)(hg:∀pl fp s3 H3,PG (zAx X pl (own++cn) scope fp s3 H3) target g)(ht:∀pl fp s3 H3,PTs (zAx X pl (own++cn) scope fp s3 H3) ifs ti)
 (he:∀pl fp s3 H3,PE (zAx X pl (own++cn) scope fp s3 H3) elt te)(hs:∀x,foldedSetIterable iter X.env x=pure x:=by intro _;rfl)
 (hsw:swapsWith (.ListComp elt [⟨target,iter,ifs,0⟩] scope cpos) (some (.Name x pos')) pos.line X.env=pure true:=by rfl)
 (hf:X.fn x=true\/X.env.scope.names.lookup x=some .local:=by first | exact .inl rfl | exact .inr rfl | assumption):
 PS X (.Assign [.Name x pos'] (.ListComp elt [⟨target,iter,ifs,0⟩] scope cpos) pos) (tAsg (zH0 own.length ci wi g ti te) (zGG i)):=by
 intro pins s σ H D I h;rw[exec_Assign_Name_used _ _ _ _ hsw];refine zC (wpAny_standAt (zC ?_));show wpAny _ X.A (do let _ <-comprehension (.ListComp elt [⟨target,iter,ifs,0⟩] scope cpos) scope X.env _ (newList []) false (eval iter X.env) (some (assign (.Name x pos') X.env))) _ _ s
 refine zC (zAO (zGN (use:=some (assign (.Name x pos') X.env)) (Q0:=fun _ s'=>SP X pins D .next s') hcalm S hc hl hi hg ht he hs I h (fun D' C H5 s6 m6 I7 hn fr nL ge nC nP q=>?_)) (fun _ s' hq=>zG (zG hq)) fun _ _ e=>e);obtain⟨oC,es,ep,hoC,hd,r1⟩:=hn;have nf:C∉X.fs:=fun hb=>by obtain⟨_,o,ho,_⟩:=I7.ok.funs.mem hb;exact absurd (zq (zW ho) ge) (zBe _)
 have I7':Inv X (pins++[(C,oC)]) σ H5 s6:=I7.pins_of fun p hp=>by
  rcases zm.mp hp with z | z
  . exact I7.pin p (zi _ z)
  . rw[zd.mp z];exact⟨hoC,fr,nL,nf,fun v e=>by rw[hd] at e;cases e⟩
 show wpAny _ X.A (assign (.Name x pos') X.env (.ref D')) _ _ s6;refine wpAny_assign_Name (zDG I7' hN hix hx (show zBm (.ref D') (.ref D') from rfl) (fun s' I'=>?_) hf);have hC':=(I'.pin (C,oC) (zi _ (zi _ (zd.mpr rfl)))).1;refine⟨m6,⟨oC,es,ep,hC',hd,r1⟩,fun h' hs'=>⟨_,H5,?_,q⟩⟩;have I2:Inv X pins (σ.set i (some (.ref D'))) H5 s':=I'.pins_of fun p hp=>I'.pin p (zi _ (zw _ hp));exact I2.turned (t':=s'.toks) (it:=C) (fun b o hb e=>hs'.extBut b o hb e) fr nL (.inr ge) nC nP
end
noncomputable def cscOk (outer inner:Scope):Bool:=inner.names.all fun y=>(y.2 != .cell) && (y.2 != .local || inner.names.lookup y.1==some .local) && (y.2 != .free || outer.names.lookup y.1==some .cell)
theorem csc {scope:Scope}(hk:scope.kind=.function)(h:cscOk X.env.scope scope=true):zEa X scope:=by
 have a:=List.all_eq_true.mp h;refine⟨hk,fun y hy e=>?_,fun y hy e=>?_,fun y hy e=>?_⟩
 . have:=a y hy;rw[e] at this;simp at this
 . have:=a y hy;rw[e] at this;simpa using this
 . have:=a y hy;rw[e] at this;have h2:X.env.scope.names.lookup y.1=some .cell:=by simpa using this
   exact h2
theorem zDk {l:List Str}(h:decide l.Nodup=true):l.Nodup:=of_decide_eq_true h
section
variable {X:Cx}{pl:lPO}{N':List Str}{sc:Scope}{fp:List Addr}{s3:Shared}{H3:Hp}
theorem zCh:IxR (zAx X pl N' sc fp s3 H3) (rIxT X.K):=zAK
theorem zCP:IxR (zAx X pl N' sc fp s3 H3) (rIxL X.K):=zAC
theorem zGe {es:List Expr}{k:Nat}{t:TGs}{n:Nat}{pos:Pos}(hc:X.calm=true)(h:PGs (zAx X pl N' sc fp s3 H3) es t)
 (hn:(assignEach es (zAx X pl N' sc fp s3 H3).env).length=n:=by rfl)(hst:(assignEach es (zAx X pl N' sc fp s3 H3).env).findIdx? (·.1)=none:=by rfl):PG (zAx X pl N' sc fp s3 H3) (.Tuple es k pos) (gTup X.K n t):=zCS hc h hn hst
end
variable {own:Nat}{cv:List V}{D:Addr}{H1:Hp}
theorem zCw {K:PySem.W.Frag}{a:Addr}{xs:List V}(Pv:Nat->List V->Hp->Prop)(h0:Pv 0 [] (upd H1 D (.lst [])))(hl:∀i ys H,Pv i ys H->SqL K H a xs)(hz:∀i ys H,Pv i ys H->ys.length<sizeLine)
 (hs:∀i x ys H,xs[i]?=some x->Pv i ys H->g x (List.replicate own none++cv.map some) H fun σ2 H2=>(σ2.length=own+cv.length/\σ2.drop own=cv.map some) /\
  ti σ2 H2 fun b H3=>if b=true then te σ2 H3 fun y H4=>H4 D=some (.lst ys)/\Pv (i+1) (ys++[y]) (upd H4 D (.lst (ys++[y]))) else Pv (i+1) ys H3)
 (hd:∀ys H,Pv xs.length ys H->Q (.ref D) H):
 zEw (Itl K a) own cv g ti te D H1 Q:=by
 refine⟨fun i m ys H=>m=xs.length-i/\i<=xs.length/\Pv i ys H,⟨xs.length,rfl,zk _,h0⟩,?_⟩;rintro i m ys H ⟨rfl,hi,p⟩;have q:=hl i ys H p;by_cases hlt:i<xs.length
 . refine .inr ⟨⟨xs,xs[i],q,by simp[hlt]⟩,hz i ys H p,Pv (i+1),fun ys' H' p'=>⟨xs.length-(i+1),by omega,rfl,hlt,p'⟩,fun x H' y=>?_⟩;obtain⟨e,y⟩:=y;subst e;exact hs i x ys _ (y xs q) p
 . have e:i=xs.length:=by omega
   subst e;exact .inl ⟨⟨xs,q,zK _⟩,hd ys H p⟩
theorem zBk {K:PySem.W.Frag}{a:Addr}{xs:List V}(Pv:Nat->List V->Hp->Prop)(h0:Pv 0 [] (upd H1 D (.lst [])))(hl:∀i ys H,Pv i ys H->SqT K H a xs)(hz:∀i ys H,Pv i ys H->ys.length<sizeLine)
 (hs:∀i x ys H,xs[i]?=some x->Pv i ys H->g x (List.replicate own none++cv.map some) H fun σ2 H2=>(σ2.length=own+cv.length/\σ2.drop own=cv.map some) /\
  ti σ2 H2 fun b H3=>if b=true then te σ2 H3 fun y H4=>H4 D=some (.lst ys)/\Pv (i+1) (ys++[y]) (upd H4 D (.lst (ys++[y]))) else Pv (i+1) ys H3)
 (hd:∀ys H,Pv xs.length ys H->Q (.ref D) H):
 zEw (Itt K a) own cv g ti te D H1 Q:=by
 refine⟨fun i m ys H=>m=xs.length-i/\i<=xs.length/\Pv i ys H,⟨xs.length,rfl,zk _,h0⟩,?_⟩;rintro i m ys H ⟨rfl,hi,p⟩;have q:=hl i ys H p;by_cases hlt:i<xs.length
 . refine .inr ⟨⟨xs,xs[i],q,by simp[hlt]⟩,hz i ys H p,Pv (i+1),fun ys' H' p'=>⟨xs.length-(i+1),by omega,rfl,hlt,p'⟩,fun x H' y=>?_⟩;obtain⟨e,y⟩:=y;subst e;exact hs i x ys _ (y xs q) p
 . have e:i=xs.length:=by omega
   subst e;exact .inl ⟨⟨xs,q,zK _⟩,hd ys H p⟩
theorem zBz {lo:Int}{n:Nat}(Pv:Nat->List V->Hp->Prop)(h0:Pv 0 [] (upd H1 D (.lst [])))(hz:∀i ys H,Pv i ys H->ys.length<sizeLine)
 (hs:∀i ys H,i<n->Pv i ys H->g (.int (lo+i)) (List.replicate own none++cv.map some) H fun σ2 H2=>(σ2.length=own+cv.length/\σ2.drop own=cv.map some) /\
  ti σ2 H2 fun b H3=>if b=true then te σ2 H3 fun y H4=>H4 D=some (.lst ys)/\Pv (i+1) (ys++[y]) (upd H4 D (.lst (ys++[y]))) else Pv (i+1) ys H3)
 (hd:∀ys H,Pv n ys H->Q (.ref D) H):
 zEw (Itr lo n) own cv g ti te D H1 Q:=by
 refine⟨fun i m ys H=>m=n-i/\i<=n/\Pv i ys H,⟨n,rfl,zk _,h0⟩,?_⟩;rintro i m ys H ⟨rfl,hi,p⟩;by_cases hlt:i<n
 . refine .inr ⟨hlt,hz i ys H p,Pv (i+1),fun ys' H' p'=>⟨n-(i+1),by omega,rfl,hlt,p'⟩,fun x H' y=>?_⟩;obtain⟨e,y⟩:=y;subst e;subst y;exact hs i ys _ hlt p
 . have e:i=n:=by omega
   subst e;exact .inl ⟨zK _,hd ys H p⟩
end L2
namespace SortT
open PySem.W PyProof.Rows
noncomputable def ev {α:Type}(lt:Nat->Nat->Bool):KasT α->α
 | .ret a=>a
 | .ask i j k=>ev lt (k (lt i j))
theorem zDW {α β:Type}(lt:Nat->Nat->Bool)(f:α->KasT β):∀t:KasT α,ev lt (t.bind f)=ev lt (f (ev lt t))
 | .ret _=>rfl
 | .ask i j k=>zDW lt f (k (lt i j))
variable {p:Array Nat}{i j n nrem:Nat}
section
variable {O:KeyOrd}{key:Nat->O.α}
noncomputable def kk (key:Nat->O.α)(p:Array Nat)(i:Nat):O.α:=key (p.getD i 0)
noncomputable def Sr (key:Nat->O.α)(p:Array Nat)(n:Nat):Prop:=∀i j,i<=j->j<n->O.kle (kk key p i) (kk key p j)
noncomputable def Fl (key:Nat->O.α)(p:Array Nat)(n:Nat):Prop:=∀i j,i<=j->j<n->O.kle (kk key p j) (kk key p i)
theorem zDL {q:Array Nat}(h:p[i]?=q[j]?):kk key p i=kk key q j:=by unfold kk;rw[Array.getD_eq_getD_getElem?,Array.getD_eq_getD_getElem?,h]
theorem zJ2 (hj:j<=p.size)(k:Nat):kk key (kas_rev p i j) k=if i<=k/\k<j then kk key p (i+j-1-k) else kk key p k:=by
 have e:=getElem?_mirror_all (i:=i) hj k;unfold kas_rev;by_cases h1:i<=k/\k<j
 . rw[if_pos h1] at e ⊢;exact zDL e
 . rw[if_neg h1] at e ⊢;exact zDL e
theorem zEH (hj:j<=p.size)(he:∀k,i<=k->k<j->kk key p k=kk key p (j-1))(k:Nat):kk key (kas_rev p i j) k=kk key p k:=by
 rw[zJ2 hj];split
 . rw[he _ (by omega) (by omega),he k (by omega) (by omega)]
 . rfl
theorem zF9 {src d:Nat}(hs:src<p.size)(hd:d<=src)(k:Nat):
 kk key (bubble p src d) k=if k=src-d then kk key p src else if src-d<k/\k<=src then kk key p (k-1) else kk key p k:=by
 have e:=getElem?_bubble hs d hd k;by_cases h1:k=src-d
 . rw[if_pos h1] at e ⊢;exact zDL e
 . rw[if_neg h1] at e ⊢;by_cases h2:src-d<k/\k<=src
   . rw[if_pos h2] at e ⊢;exact zDL e
   . rw[if_neg h2] at e ⊢;exact zDL e
noncomputable def lt_ (key:Nat->O.α)(i j:Nat):Bool:=O.blt (key i) (key j)
theorem zCG (p:Array Nat)(i j:Nat):(kas_rev p i j).Perm p:=mirror_perm _ _ _ _
theorem zE4 (p:Array Nat)(i j:Nat):(kas_rev p i j).size=p.size:=(zCG p i j).size_eq
theorem zKj {p:Array Nat}:∀(f n:Nat),1<=n->Sr key p n->∃m,ev (lt_ key) (kas_asc p f n)=m/\n<=m/\m<=n+f/\Sr key p m/\(m=n+f\/O.klt (kk key p m) (kk key p (m-1)))
 | 0,n,_,hs=>⟨n,rfl,zK _,zK _,hs,.inl rfl⟩
 | f+1,n,h1,hs=>by
  show ∃m,ev (lt_ key) (if lt_ key (p.getD n 0) (p.getD (n-1) 0)=true then KasT.ret n else kas_asc p f (n+1))=m/\_
  cases hl:lt_ key (p.getD n 0) (p.getD (n-1) 0) with
  | true=>exact⟨n,by simp[ev],zK _,by omega,hs,.inr hl⟩
  | false=>
   have hs':Sr key p (n+1):=fun i j hij hj=>by
    by_cases hjn:j<n
    . exact hs i j hij hjn
    . have hj':j=n:=by omega
      subst hj';by_cases hi':i=j
      . subst hi';exact KeyOrd.kle_refl _
      . exact KeyOrd.kle_trans (hs i (j-1) (by omega) (by omega)) hl
   obtain⟨m,e,a,b,c,d⟩:=zKj f (n+1) (by omega) hs';refine⟨m,by simpa using e,by omega,by omega,c,?_⟩;rcases d with d | d
   . exact .inl (by omega)
   . exact .inr d
theorem zG2 (h1:1<=n)(hn:n<=nrem)(hz:nrem<=p.size)(hs:Fl key p n):
 ∃m q,ev (lt_ key) (kas_tail3 n nrem p)=(m,q)/\q.Perm p/\1<=m/\m<=nrem/\Sr key q m:=by
 unfold kas_tail3;have hs':Sr key (kas_rev p 0 n) n:=fun i j hij hj=>by rw[zJ2 (by omega),zJ2 (by omega),if_pos (by omega),if_pos (by omega)];exact hs _ _ (by omega) (by omega)
 obtain⟨m,e,a,b,c,_⟩:=zKj (nrem-n) n h1 hs';exact⟨m,kas_rev p 0 n,by rw[zDW,e];rfl,zCG _ _ _,by omega,by omega,c⟩
theorem zFG:∀(f n q:Nat)(p:Array Nat),1<=n->n+f<=p.size->Fl key p n->q+1<=n->(∀i,n-(q+1)<=i->i<n->kk key p i=kk key p (n-1)) ->
 ∃p' n' q',ev (lt_ key) (kas_desc f p n q)=(p',n',q')/\p'.Perm p/\n<=n'/\n'<=n+f/\Fl key p' n'/\q'+1<=n'/\(∀i,n'-(q'+1)<=i->i<n'->kk key p' i=kk key p' (n'-1))
 | 0,n,q,p,_,_,hs,hq,he=>⟨p,n,q,rfl,.refl _,zK _,zK _,hs,hq,he⟩
 | f+1,n,q,p,h1,hz,hs,hq,he=>by
  show ∃p' n' q',ev (lt_ key) (if lt_ key (p.getD n 0) (p.getD (n-1) 0)=true then _ else KasT.ask _ _ _)=(p',n',q')/\_
  cases hl:lt_ key (p.getD n 0) (p.getD (n-1) 0) with
  | true=>
   have step:∀xs:Array Nat,(∀k,kk key xs k=kk key p k)->Fl key xs (n+1):=fun xs hk i j hij hj=>by
    rw[hk,hk];by_cases hjn:j<n
    . exact hs i j hij hjn
    . have hj':j=n:=by omega
      subst hj';by_cases hi':i=j
      . subst hi';exact KeyOrd.kle_refl _
      . exact KeyOrd.kle_trans (KeyOrd.kle_of_klt hl) (hs i (j-1) (by omega) (by omega))
   by_cases hq0:q > 0
   . have hk:=zEH (key:=key) (p:=p) (i:=n-(q+1)) (j:=n) (by omega) he;obtain⟨p',n',q',e,a,b,c,d⟩:=zFG f (n+1) 0 (kas_rev p (n-(q+1)) n) (by omega) (by rw[zE4];omega) (step _ hk) (by omega) (fun i h1 h2=>by congr 1;omega);exact⟨p',n',q',by simpa [hq0] using e,a.trans (zCG _ _ _),by omega,by omega,d⟩
   . obtain⟨p',n',q',e,a,b,c,d⟩:=zFG f (n+1) 0 p (by omega) (by omega) (step _ fun _=>rfl) (by omega) (fun i h1 h2=>by congr 1;omega);exact⟨p',n',q',by simpa [hq0] using e,a,by omega,by omega,d⟩
  | false=>
   show ∃p' n' q',ev (lt_ key) (if lt_ key (p.getD (n-1) 0) (p.getD n 0)=true then KasT.ret (p,n,q) else kas_desc f p (n+1) (q+1))=(p',n',q')/\_
   cases hr:lt_ key (p.getD (n-1) 0) (p.getD n 0) with
   | true=>exact⟨p,n,q,by simp[ev],.refl _,zK _,by omega,hs,hq,he⟩
   | false=>
    have heq:kk key p n=kk key p (n-1):=KeyOrd.kle_antisymm hr hl;have hs':Fl key p (n+1):=fun i j hij hj=>by
     by_cases hjn:j<n
     . exact hs i j hij hjn
     . have hj':j=n:=by omega
       subst hj';by_cases hi':i=j
       . subst hi';exact KeyOrd.kle_refl _
       . rw[heq];exact hs i (j-1) (by omega) (by omega)
    obtain⟨p',n',q',e,a,b,c,d⟩:=zFG f (n+1) (q+1) p (by omega) (by omega) hs' (by omega) (fun i h1 h2=>by
     rw[show n+1-1=n by omega];by_cases hix:i=n
     . subst hix;rfl
     . rw[heq];exact he i (by omega) (by omega))
    exact⟨p',n',q',by simpa using e,a,by omega,by omega,d⟩
theorem zES (hn:n+1<=nrem)(hz:nrem<=p.size)(hs:Fl key p (n+1)):
 ∃m q,ev (lt_ key) (kas_descPart n nrem p)=(m,q)/\q.Perm p/\1<=m/\m<=nrem/\Sr key q m:=by
 unfold kas_descPart;rw[zDW];obtain⟨p',n',q',e,a,b,c,d,hq,he⟩:=zFG (nrem-(n+1)) (n+1) 0 p (by omega) (by omega) hs (by omega) (fun i h1 h2=>by congr 1;omega);rw[e];dsimp only;have hz':p'.size=p.size:=a.size_eq;by_cases hq0:q' > 0
 . rw[if_pos hq0];have hk:=zEH (key:=key) (p:=p') (i:=n'-(q'+1)) (j:=n') (by omega) he;obtain⟨m,r,e2,a2,b2,c2,d2⟩:=zG2 (key:=key) (p:=kas_rev p' (n'-(q'+1)) n') (n:=n') (nrem:=nrem) (by omega) (by omega) (by rw[zE4];omega) (fun i j hij hj=>by rw[hk,hk];exact d i j hij hj);exact⟨m,r,e2,a2.trans ((zCG _ _ _).trans a),b2,c2,d2⟩
 . rw[if_neg hq0];obtain⟨m,r,e2,a2,b2,c2,d2⟩:=zG2 (key:=key) (p:=p') (n:=n') (nrem:=nrem) (by omega) (by omega) (by omega) d;exact⟨m,r,e2,a2.trans a,b2,c2,d2⟩
theorem zLh (h1:1<=nrem)(hz:nrem<=p.size):∃m q,ev (lt_ key) (kas_count nrem p)=(m,q)/\q.Perm p/\1<=m/\m<=nrem/\Sr key q m:=by
 unfold kas_count;rw[zDW];obtain⟨n,e,a,b,hsn,hor⟩:=zKj (key:=key) (p:=p) (nrem-1) 1 (zK _) (fun i j hij hj=>by have:i=j:=(by omega);subst this;exact KeyOrd.kle_refl _);rw[e];by_cases hnn:n=nrem
 . rw[if_pos (by simpa using hnn)];exact⟨n,p,rfl,.refl _,a,by omega,hsn⟩
 . rw[if_neg (by simpa using hnn)];have hlt:O.klt (kk key p n) (kk key p (n-1)):=hor.resolve_left (by omega);by_cases hgt:n > 1
   . rw[if_pos hgt];show ∃m q,ev (lt_ key) (if lt_ key (p.getD 0 0) (p.getD (n-1) 0)=true then KasT.ret (n,p) else kas_descPart n nrem (kas_rev p 0 n))=(m,q)/\_
     cases hr:lt_ key (p.getD 0 0) (p.getD (n-1) 0) with
     | true=>exact⟨n,p,by simp[ev],.refl _,a,by omega,hsn⟩
     | false=>
      have hall:∀k,0<=k->k<n->kk key p k=kk key p (n-1):=fun k _ hk=>
       KeyOrd.kle_antisymm (hsn k (n-1) (by omega) (by omega)) (KeyOrd.kle_trans hr (hsn 0 k (by omega) hk))
      have hk:=zEH (key:=key) (p:=p) (i:=0) (j:=n) (by omega) hall;obtain⟨m,q,e2,a2,b2,c2,d2⟩:=zES (key:=key) (p:=kas_rev p 0 n) (n:=n) (nrem:=nrem) (by omega) (by rw[zE4];omega) (fun i j hij hj=>by
       rw[hk,hk];by_cases hjn:j<n
       . rw[hall i (by omega) (by omega),hall j (by omega) hjn];exact KeyOrd.kle_refl _
       . have hj':j=n:=by omega
         subst hj';by_cases hi':i=j
         . subst hi';exact KeyOrd.kle_refl _
         . rw[hall i (by omega) (by omega)];exact KeyOrd.kle_of_klt hlt)
      exact⟨m,q,by simpa using e2,a2.trans (zCG _ _ _),b2,c2,d2⟩
   . rw[if_neg hgt];have hn1:n=1:=by omega
     subst hn1;refine zES (by omega) hz fun i j hij hj=>?_;by_cases hi':i=j
     . subst hi';exact KeyOrd.kle_refl _
     . have hi0:i=0:=by omega
       have hj1:j=1:=by omega
       subst hi0;subst hj1;exact KeyOrd.kle_of_klt hlt
theorem zE5 {p:Array Nat}{k:Nat}(hs:Sr key p k):∀(f l r:Nat),l<=r->r<=k->r-l<=f->(∀i,i<l->O.kle (kk key p i) (kk key p k))->(∀i,r<=i->i<k->O.klt (kk key p k) (kk key p i)) ->
 ∃m,ev (lt_ key) (kas_place p k f l r)=m/\m<=k/\(∀i,i<m->O.kle (kk key p i) (kk key p k))/\(∀i,m<=i->i<k->O.klt (kk key p k) (kk key p i))
 | 0,l,r,hlr,hrk,hf,hlo,hhi=>⟨l,rfl,by omega,hlo,fun i h1 h2=>hhi i (by omega) h2⟩
 | f+1,l,r,hlr,hrk,hf,hlo,hhi=>by
  unfold kas_place;by_cases hge:l ≥ r
  . rw[if_pos hge];exact⟨l,rfl,by omega,hlo,fun i h1 h2=>hhi i (by omega) h2⟩
  . rw[if_neg hge];show ∃m,ev (lt_ key) (if lt_ key (p.getD k 0) (p.getD ((l+r)/2) 0)=true then kas_place p k f l ((l+r)/2) else kas_place p k f ((l+r)/2+1) r)=m/\_
    cases hl:lt_ key (p.getD k 0) (p.getD ((l+r)/2) 0) with
    | true=>obtain⟨m,e,x⟩:=zE5 hs f l ((l+r)/2) (by omega) (by omega) (by omega) hlo (fun i h1 h2=>KeyOrd.klt_of_klt_of_kle hl (hs _ _ h1 h2));exact⟨m,by simpa using e,x⟩
    | false=>obtain⟨m,e,x⟩:=zE5 hs f ((l+r)/2+1) r (by omega) (by omega) (by omega) (fun i h1=>KeyOrd.kle_trans (hs i ((l+r)/2) (by omega) (by omega)) (show O.kle _ _ from hl)) hhi;exact⟨m,by simpa using e,x⟩
theorem zMr:∀(f:Nat)(p:Array Nat)(k:Nat),k+f=p.size->Sr key p k->∃q,ev (lt_ key) (kas_bin f p k)=q/\q.Perm p/\Sr key q (k+f)
 | 0,p,k,_,hs=>⟨p,rfl,.refl _,hs⟩
 | f+1,p,k,hz,hs=>by
  unfold kas_bin;rw[zDW];obtain⟨l,e,hlk,hlo,hhi⟩:=zE5 (key:=key) hs k 0 k (by omega) (by omega) (by omega) (fun i h=>by omega) (fun i h1 h2=>by omega);rw[e];have hs':Sr key (bubble p k (k-l)) (k+1):=fun i j hij hj=>by
   rw[zF9 (by omega) (by omega),zF9 (by omega) (by omega),show k-(k-l)=l by omega]
   repeat' split
   all_goals first
    | (exfalso;omega)
    | exact KeyOrd.kle_refl _
    | exact hlo _ (by omega)
    | exact KeyOrd.kle_of_klt (hhi _ (by omega) (by omega))
    | exact hs _ _ (by omega) (by omega)
  obtain⟨q,e2,a,b⟩:=zMr f (bubble p k (k-l)) (k+1) (by rw[(bubble_perm p k (k-l)).size_eq];omega) hs';exact⟨q,e2,a.trans (bubble_perm _ _ _),by rw[show k+(f+1)=k+1+f by omega];exact b⟩
theorem zNB (n:Nat)(h1:1<=n):∃q,ev (lt_ key) (kas_sort n)=q/\q.Perm (List.range n).toArray/\Sr key q n:=by
 unfold kas_sort;rw[zDW];have hz:(List.range n).toArray.size=n:=by simp
 obtain⟨m,q,e,a,b,c,d⟩:=zLh (key:=key) (p:=(List.range n).toArray) h1 (by omega);rw[e];dsimp only;have hq:q.size=n:=by rw[a.size_eq,hz]
 by_cases hm:m<n
 . rw[if_pos hm];obtain⟨r,e2,a2,b2⟩:=zMr (key:=key) (n-max m 1) q (max m 1) (by omega) (by rw[show max m 1=m by omega];exact d);exact⟨r,e2,a2.trans a,by rw[show max m 1+(n-max m 1)=n by omega] at b2;exact b2⟩
 . rw[if_neg hm];have:m=n:=by omega
   subst this;exact⟨q,rfl,a,d⟩
end
noncomputable def zEj {α:Type}(n:Nat)(R:α->Prop):KasT α->Prop
 | .ret a=>R a
 | .ask i j k=>i<n/\j<n/\∀b,zEj n R (k b)
theorem zEj.bind {α β:Type}{n:Nat}{R:α->Prop}{R':β->Prop}{f:α->KasT β}(hf:∀a,R a->zEj n R' (f a)):∀(t:KasT α),zEj n R t->zEj n R' (t.bind f)
 | .ret a,h=>hf a h
 | .ask _ _ k,h=>⟨h.1,h.2.1,fun b=>zEj.bind hf (k b) (h.2.2 b)⟩
noncomputable def Bd (n:Nat)(p:Array Nat):Prop:=∀i,p.getD i 0<n
theorem Bd.perm {q:Array Nat}(h:Bd n q)(hp:p.Perm q):Bd n p:=fun i=>by
 have h0:0<n:=zAn (zk _) (h 0);by_cases hi:i<p.size
 . have e:p.getD i 0=p[i]:=by simp[Array.getD,hi]
   rw[e];have hm:p[i]∈q.toList:=(Array.perm_iff_toList_perm.mp hp).mem_iff.mp (by simp);obtain⟨j,hj,ej⟩:=zj hm;have hj':j<q.size:=by simpa using hj
   have:=h j;rw[show q.getD j 0=q[j] by simp[Array.getD,hj']] at this;rw[<-ej];simpa using this
 . have e:p.getD i 0=0:=by simp[Array.getD,hi]
   rw[e];exact h0
theorem zGs {n:Nat}{p:Array Nat}(hp:Bd n p):∀f m,zEj n (fun _=>True) (kas_asc p f m)
 | 0,_=>trivial
 | f+1,m=>⟨hp _,hp _,fun b=>by
  cases b with
  | true=>exact trivial
  | false=>exact zGs hp f (m+1)⟩
theorem zDv {n:Nat}:∀(f:Nat)(p:Array Nat)(m q:Nat),Bd n p->zEj n (fun r=>Bd n r.1) (kas_desc f p m q)
 | 0,_,_,_,hp=>hp
 | f+1,p,m,q,hp=>⟨hp _,hp _,fun b=>by
  cases b with
  | true=>
   show zEj n _ (if q > 0 then kas_desc f (kas_rev p (m-(q+1)) m) (m+1) 0 else kas_desc f p (m+1) 0)
   split
   . exact zDv f _ _ _ (hp.perm (zCG _ _ _))
   . exact zDv f _ _ _ hp
  | false=>
   refine⟨hp _,hp _,fun d=>?_⟩;cases d with
   | true=>exact hp
   | false=>exact zDv f _ _ _ hp⟩
theorem zFU {m:Nat}(hp:Bd n p):zEj n (fun r=>Bd n r.2) (kas_tail3 m nrem p):=by unfold kas_tail3;exact zEj.bind (R:=fun _=>True) (R':=fun r=>Bd n r.2) (f:=fun k=>KasT.ret (k,kas_rev p 0 m)) (fun a _=>hp.perm (zCG p 0 m)) _ (zGs (hp.perm (zCG p 0 m)) _ _)
theorem zDf {m:Nat}(hp:Bd n p):zEj n (fun r=>Bd n r.2) (kas_descPart m nrem p):=
 zEj.bind (fun r hr=>by
  split
  . exact zFU (hr.perm (zCG _ _ _))
  . exact zFU hr) _ (zDv _ _ _ _ hp)
theorem zKZ (hp:Bd n p):zEj n (fun r=>Bd n r.2) (kas_count nrem p):=
 zEj.bind (fun r _=>by
  split
  . exact hp
  . split
    . refine⟨hp _,hp _,fun b=>?_⟩;cases b with
      | true=>exact hp
      | false=>exact zDf (hp.perm (zCG _ _ _))
    . exact zDf hp) _ (zGs hp _ _)
theorem zD5 {n k:Nat}{p:Array Nat}(hp:Bd n p):∀f l r,zEj n (fun _=>True) (kas_place p k f l r)
 | 0,_,_=>trivial
 | f+1,l,r=>by
  unfold kas_place;split
  . exact trivial
  . refine⟨hp _,hp _,fun b=>?_⟩;cases b with
    | true=>exact zD5 hp f _ _
    | false=>exact zD5 hp f _ _
theorem zKh {n:Nat}:∀(f:Nat)(p:Array Nat)(k:Nat),Bd n p->zEj n (fun _=>True) (kas_bin f p k)
 | 0,_,_,_=>trivial
 | f+1,p,k,hp=>zEj.bind (fun l _=>zKh f _ _ (hp.perm (bubble_perm _ _ _))) _ (zD5 hp _ _ _)
theorem zKz (h:0<n):zEj n (fun _=>True) (kas_sort n):=
 zEj.bind (fun r hr=>by
  split
  . exact zKh _ _ _ hr
  . exact trivial) _ (zKZ fun i=>by
    by_cases hi:i<n
    . simp[Array.getD,hi]
    . simp[Array.getD,hi];exact h)
end SortT
namespace SortT
open PySem PySem.W PySem.Calls PyProof.Rows
theorem wp_ev {α:Type}{cmp:Nat->Nat->(Bool->Shared->Prop)->Shared->Prop}{lt:Nat->Nat->Bool}{n:Nat}{s:Shared}(hc:∀i j C,i<n->j<n->C (lt i j) s->cmp i j C s){R:α->Prop}{Q:α->Shared->Prop} :
 ∀t:KasT α,zEj n R t->Q (ev lt t) s->t.kasWp cmp Q s
 | .ret _,_,h=>h
 | .ask i j k,w,h=>hc i j _ w.1 w.2.1 (wp_ev hc (k (lt i j)) (w.2.2 _) h)
variable {O:KeyOrd}
section
variable {prog:Program}{w:World}{A:Around}{E:vSP}{s:Shared}
structure Put {O:KeyOrd}(key:Nat->O.α)(n:Nat)(out:List Nat):Prop where
 perm:out.Perm (List.range n)
 rise:∀(i j a b:Nat),i<=j->out[i]?=some a->out[j]?=some b->O.kle (key a) (key b)
theorem put_of {key:Nat->O.α}{n:Nat}{q:Array Nat}(hp:q.Perm (List.range n).toArray)(hs:Sr key q n):Put key n q.toList:=by
 have hl:q.toList.Perm (List.range n):=Array.perm_iff_toList_perm.mp hp;refine⟨hl,fun i j a b hij ha hb=>?_⟩;have hz:q.size=n:=by have:=hp.size_eq;simpa using this
 have hj:j<q.toList.length:=(zF.mp hb).1;have hj':j<n:=by rw[<-hz];simpa using hj
 have h:=hs i j hij hj';have ga:q.getD i 0=a:=by rw[Array.getD_eq_getD_getElem?,<-Array.getElem?_toList,ha];rfl
 have gb:q.getD j 0=b:=by rw[Array.getD_eq_getD_getElem?,<-Array.getElem?_toList,hb];rfl
 unfold kk at h;rw[ga,gb] at h;exact h
structure Asks (prog:Program)(w:World)(A:Around)(s:Shared)(a:Addr)(vs:List Value){O:KeyOrd}(key:Nat->O.α)(κ:SortKind):Prop where
 kind:∀(h':Heap)(Q:SortKind->Shared->Prop)(E:vSP),(∀b o,b≠a->s.heap.get? b=some o->h'.get? b=some o)->Q κ { s with heap:=h' }->wpAny (model prog w) A (keyKind' vs.toArray) Q E { s with heap:=h' }
 less:∀(h':Heap)(i j:Nat)(Q:Bool->Shared->Prop)(E:vSP),(∀b o,b≠a->s.heap.get? b=some o->h'.get? b=some o)->i<vs.length->j<vs.length->Q (O.blt (key i) (key j)) { s with heap:=h' } ->
  wpAny (model prog w) A (keyLt' κ (vs.getD i Value.none) (vs.getD j Value.none)) Q E { s with heap:=h' }
theorem zEE {a:Addr}{vs:List Value}{n:Nat}{P:PySem.Fin->Shared->Prop}{key:Nat->O.α}{κ:SortKind}(ho:s.heap.get? a=some (seqObj "list" vs.toArray n)) (h64:vs.length<64)
 (ask:2<=vs.length->Asks prog w A s a vs key κ)
 (h:∀out:List Nat,Put key vs.length out->P (.done (.ret .none)) { s with heap:=sortedHeap s.heap a vs (out.map fun i=>vs.getD i Value.none).toArray }):
 wpAny (model prog w) A (Builtin.«list.sort» ⟨[.ref a],[]⟩) P E s:=by
 rw[list_sort_plain];have ha:a<s.heap.objs.size:=zW ho;refine zC (listItems_at ho rfl ?_);refine zC (listUpdate_at ho rfl ?_ (by rw[zU,sizeLine_eq];omega) (zk _));obtain⟨e1,ho1⟩:∃e1,(s.heap.update a (Obj.mapSeq fun _=>#[])).get? a=some (seqObj "list" #[] e1):=⟨_,get?_update_seq ho (fun _=>#[])⟩;refine zC (seqEpoch_at ho1 rfl ?_);refine zC (wpAny_newTuple ?_ (by show vs.length<=_;rw[sizeLine_eq];omega));refine zC (wpAny_newList ?_ (zk _));refine zAW ?_;have ho6:(((s.heap.update a (Obj.mapSeq fun _=>#[])).push (seqObj "tuple" vs.toArray 0)).push (seqObj "list" #[] 0)).get? a=some (seqObj "list" #[] e1):=by rw[Heap.get?_push_ne _ _ _ (by rw[size_push',Heap.size_update];exact zb (zBW ha)),Heap.get?_push_ne _ _ _ (by rw[Heap.size_update];exact zb ha)];exact ho1
 have keep:∀b o,b≠a->s.heap.get? b=some o->(((s.heap.update a (Obj.mapSeq fun _=>#[])).push (seqObj "tuple" vs.toArray 0)).push (seqObj "list" #[] 0)).get? b=some o:=fun b o hb e=>by refine zN _ (zN _ ?_);rw[zB2 _ _ _ _ hb];exact e
 show wpAny (model prog w) A _ P E { s with heap:=((s.heap.update a (Obj.mapSeq fun _=>#[])).push (seqObj "tuple" vs.toArray 0)).push (seqObj "list" #[] 0) };dsimp only;by_cases h2:vs.toArray.size<2
 . rw[if_pos h2,if_pos h2];refine zC (zG ?_);rw[StateT.run_pure];refine zC (zG ?_);dsimp only;refine zC (seqEpoch_at ho6 rfl ?_);refine zC (listUpdate_at ho6 rfl ?_ (zk _) (by rw[Array.size_map];show (pairsOf vs).size<=_;rw[pairsOf_size,sizeLine_eq];omega));simp only[bne_self_eq_false,zBg,if_false];refine zG ?_;have hlen:vs.length<2:=by simpa using h2
   have hout:(arrOf (SortSt.mk' general' (vs.toArray.zip vs.toArray) #[] 7 none)).map (·.2)=((List.range vs.length).map fun i=>vs.getD i Value.none).toArray:=by
    show (vs.toArray.zip vs.toArray).map (·.2)=_
    match vs,hlen with
    | [],_=>simp
    | [v],_=>simp
    | _::_::_,h=>exfalso;simp only[zt] at h;omega
   have fin:=h (List.range vs.length) ⟨.refl _,fun i j x y hij hx hy=>by
    have hj:j<(List.range vs.length).length:=(zF.mp hy).1;rw[zAP] at hj;have e:i=j:=by omega
    subst e;rw[hx] at hy;cases hy;exact KeyOrd.kle_refl _⟩
   rw[<-hout] at fin;exact fin
 . rw[if_neg h2,if_neg h2];have h2':2<=vs.length:=by
    have:¬ vs.length<2:=by simpa using h2
    omega
   have K:=ask h2';refine zC (K.kind _ _ _ keep ?_);obtain⟨q,eq,hp,hs⟩:=zNB (key:=key) vs.length (by omega);have run:(kas_sort vs.length).kasWp (kas_ask prog w A κ vs) (fun p s'=>p=q/\s'={ s with heap:=((s.heap.update a (Obj.mapSeq fun _=>#[])).push (seqObj "tuple" vs.toArray 0)).push (seqObj "list" #[] 0) })
    { s with heap:=((s.heap.update a (Obj.mapSeq fun _=>#[])).push (seqObj "tuple" vs.toArray 0)).push (seqObj "list" #[] 0) }:=
    wp_ev (lt:=lt_ key) (n:=vs.length) (fun i j C hi hj hC=>K.less _ i j C _ keep hi hj hC) _ (zKz (by omega)) ⟨eq,rfl⟩
   refine zC (zAO (kat_run (ks:=vs) (vs:=vs) (Q:=fun st' s'=>∃p:Array Nat,p.size=vs.length/\arrOf st'=p.map (kas_item (vs.toArray.zip vs.toArray))/\failedOf st'=none/\p=q/\s'={ s with heap:=((s.heap.update a (Obj.mapSeq fun _=>#[])).push (seqObj "tuple" vs.toArray 0)).push (seqObj "list" #[] 0) })
    rfl h2' h64 (fun p' st' s' a1 a2 a3 a4=>⟨p',a1,a2,a3,a4⟩) run) ?_ fun _ _ e=>e)
   rintro ⟨⟨⟩,st'⟩ s' ⟨p,hsz,har,hf,rfl,rfl⟩;dsimp only;refine zC (seqEpoch_at ho6 rfl ?_);refine zC (listUpdate_at ho6 rfl ?_ (zk _) (by rw[Array.size_map,har,Array.size_map,hsz,sizeLine_eq];omega));rw[hf];simp only[bne_self_eq_false,zBg,if_false];refine zG ?_;have hout:=kat_snds (ks:=vs) (vs:=vs) rfl har;have fin:=h p.toList (put_of hp hs);rw[<-hout] at fin;exact fin
theorem sorted_list {l:Addr}{vs:List Value}{Q:vSP}{key:Nat->O.α}{κ:SortKind}(hl:s.heap.IsList l vs.toArray)(h64:vs.length<64)
 (ask:2<=vs.length->∀(s':Shared)(a:Addr),(∀b o,s.heap.get? b=some o->b≠a)->(∀b o,s.heap.get? b=some o->s'.heap.get? b=some o)->Asks prog w A.in1.in1 s' a vs key κ)
 (h:∀(D:Addr)(h':Heap)(out:List Nat)(c:Nat),Put key vs.length out->s.heap.objs.size<=D->(∀b o,s.heap.get? b=some o->h'.get? b=some o) ->
  h'.get? D=some (seqObj "list" (out.map fun i=>vs.getD i Value.none).toArray c)->Q (.ref D) { s with heap:=h' }):
 wpAny (model prog w) A (call (.builtin "sorted") [.ref l]) Q E s:=by
 refine Calls.call_function_entry kind_sorted plain_sorted entry_sorted (args_sorted1 _) ?_;unfold Builtin.«sorted»;refine zC (m:=checkCount "sorted" 1 1 _) (zG ?_);refine zC (collect_list hl ?_ (by rw[sizeLine_eq];omega));refine zC (wpAny_newList ?_ (by rw[sizeLine_eq];omega));have hsz:((s.heap.push (seqObj "list" #[] 0)).update s.heap.objs.size (Obj.mapSeq (· ++ vs.toArray))).objs.size=s.heap.objs.size+1:=by rw[Heap.size_update,size_push']
 have hoL:(((s.heap.push (seqObj "list" #[] 0)).update s.heap.objs.size (Obj.mapSeq (· ++ vs.toArray))).push (seqObj "list" vs.toArray 0)).get? (s.heap.objs.size+1)=some (seqObj "list" vs.toArray 0):=by rw[<-hsz];exact zX _ rfl
 have keep:∀b o,s.heap.get? b=some o->(((s.heap.push (seqObj "list" #[] 0)).update s.heap.objs.size (Obj.mapSeq (· ++ vs.toArray))).push (seqObj "list" vs.toArray 0)).get? b=some o:=fun b o q=>by have hlt:b<s.heap.objs.size:=zW q;rw[Heap.get?_push_ne _ _ _ (by rw[hsz];exact zb (zBW hlt)),zB2 _ _ _ _ (zb hlt),Heap.get?_push_ne _ _ _ (zb hlt)];exact q
 show wpAny _ _ _ _ _ { s with heap:=((s.heap.push (seqObj "list" #[] 0)).update s.heap.objs.size (Obj.mapSeq (· ++ vs.toArray))).push (seqObj "list" vs.toArray 0) };rw[hsz];refine zC (zAW (zAj slot_list_sort ⟨_,hoL,rfl⟩ entry_list_sort (zEE (O:=O) (key:=key) (κ:=κ) hoL h64 (fun h2=>ask h2 _ _ (fun b o e=>zb (zBW (zW e))) keep) fun out hp=>⟨_,rfl,?_⟩) (args_list_sort _)));refine zG ⟨_,rfl,?_⟩;obtain⟨c,hc⟩:=sortedAll_at s.heap vs (out.map fun i=>vs.getD i Value.none).toArray;exact h _ _ out c hp (zBD _) (fun b o e=>sortedAll_old e) hc
end
end SortT
namespace DRaw
open PySem PySem.W PySem.Calls PyProof.Rows
noncomputable def At (h:Heap)(d:Addr)(es:Array DictEntry)(ep:Nat):Prop:=∃o,h.get? d=some o/\o.ExactDict/\o.data=.dict es ep
variable {es:Array DictEntry}{ep:Nat}
theorem At.keep {h h':Heap}{d:Addr}(x:At h d es ep)(k:∀o,h.get? d=some o->h'.get? d=some o):At h' d es ep:=
 let ⟨o,ho,r⟩:=x;⟨o,k o ho,r⟩
theorem At.lt {h:Heap}{d:Addr}(x:At h d es ep):d<h.objs.size:=let ⟨_,ho,_⟩:=x;zW ho
theorem At.typeIs {s:Shared}{d:Addr}(x:At s.heap d es ep):s.TypeIs (.ref d) "dict" := let ⟨o,ho,hc,_⟩:=x;⟨o,ho,hc.1⟩
variable {Q:Option Value->Shared->Prop}
section
variable {prog:Program}{w:World}{A:Around}{E:vSP}{s:Shared}{it d:Addr}{es:Array DictEntry}{i ep:Nat}
theorem iter {Q:vSP}(hd:(d==sysModules)=false)(hm:At s.heap d es ep)
 (hQ:Q (.ref s.heap.objs.size) { s with heap:=s.heap.push { cls:=.type "dict_keyiterator",data:=.fields #[.ref d,.int 0 0,.int es.size 0,.int ep 0] } }):
 wpAny (model prog w) A (pyIter (.ref d)) Q E s:=by
 obtain⟨o,ho,hc,hdat⟩:=id hm;have hT:=hm.typeIs;refine wpAny_pyIter_slot hT F.slot_dict_iter (zAj F.slot_dict_iter hT F.entry_dict_iter ?_ (F.args_dict_iter_1 _));unfold Builtin.«dict.__iter__»;refine zC ?_;unfold Builtin.Dict.dictSlotNone;refine zC (wpAny_notOrdered_dict hT ?_);show wpAny _ _ (pure (Value.ref d)) _ _ s;refine zG ?_;show wpAny _ _ (Builtin.Dict.showsAll d >>= _) _ _ s;unfold Builtin.Dict.showsAll;rw[if_neg (by rw[hd];exact zn)];refine zC (zG ?_);refine zC (wpAny_dictEntries ho hdat ?_);refine zC (wpAny_dictEpoch ho hdat ?_);refine zC (zAs (zG ⟨_,rfl, "dict_keyiterator",_,⟨_,zX _ rfl,rfl⟩,F.slot_dict_keyiterator_next.lookup,?_⟩));simpa [rawInt] using hQ
theorem next (hit:s.heap.IsKeyIter it d i es.size ep)(hm:At s.heap d es ep)(hlt':i<es.size)
 (hQ:∀h',h'.IsKeyIter it d (i+1) es.size ep->Heap.SameBut it s.heap h'->Q (some es[i].key) { s with heap:=h' }):wpAny (model prog w) A (pyNext (.ref it)) Q E s:=by
 obtain⟨o,ho,hc,hd⟩:=id hit;obtain⟨od,hod,hcd,hdd⟩:=id hm;unfold pyNext;refine zC (wpAny_attempt (zAg (name:=Str.ofString "__next__") hit.typeIs F.slot_dict_keyiterator_next
  (zAj F.slot_dict_keyiterator_next hit.typeIs F.entry_dict_keyiterator_next ?_ (F.args_dict_keyiterator_next_1 _))))
 refine zC (zG ?_);refine zC ?_;refine zC ?_
 first | refine zC (zB4 hit.typeIs (zG ?_)) | refine zC (wpAny_typeNameOf_keyiter hit.typeIs (zG ?_))
 refine zC (wpAny_fieldsOf ho hd ?_);have hown:Builtin.Dict_items.ownsTuple "dict_keyiterator"=false:=by decide
 simp only[hown,zBg,if_false];show wpAny _ _ (if (Value.ref d==Value.none)=true then _ else _) _ _ s
 rw[if_neg (show ¬ ((Value.ref d==Value.none)=true) from zn)];refine zC (zG ?_);refine zC (wpAny_dictEntries hod hdd ?_);rw[if_neg (by simp)];refine zC (zG ?_);refine zC (wpAny_dictEpoch hod hdd ?_);rw[if_neg (by simp)];refine zG ?_;simp only[show ¬ ((i:Int)<0) from by omega,if_false,zAu,Array.getElem?_eq_getElem hlt'];refine zC ?_
 first | refine zC (zB4 hit.typeIs (zG ?_)) | refine zC (wpAny_typeNameOf_keyiter hit.typeIs (zG ?_))
 refine zC (wpAny_isOneOf_keyiter hit.typeIs ?_);show wpAny _ _ (setField (.ref it) 1 (rawInt ((i:Int)+1)) >>= _) _ _ s;refine zC (wpAny_setField ho hd (by simp) ?_);have hit':(s.heap.update it (Obj.mapFields (·.setIfInBounds 1 (rawInt ((i:Int)+1))))).IsKeyIter it d (i+1) es.size ep:=
  ⟨_,zBJ _ ho (Obj.isFreed_of_fields (Obj.data_mapFields hd _)),(Obj.cls_mapFields ..).trans hc,by rw[Obj.data_mapFields hd];simp[rawInt]⟩
 refine zC (zAW ?_);refine zC (wpAny_isOneOf_keyiter (s:={ s with heap:=s.heap.update it (Obj.mapFields (·.setIfInBounds 1 (rawInt ((i:Int)+1)))) }) hit'.typeIs ?_);show wpAny _ _ (pure es[i].key) _ _ _;exact zG (zG ⟨_,rfl,zG (hQ _ hit' (Heap.SameBut.update ..))⟩)
theorem stop (hh:A.handled=none)(hit:s.heap.IsKeyIter it d i es.size ep)(hm:At s.heap d es ep)(hge:es.size<=i)
 (hQ:∀h',Heap.ExtBut it s.heap h'->Q none { s with heap:=h' }):wpAny (model prog w) A (pyNext (.ref it)) Q E s:=by
 obtain⟨o,ho,hc,hd⟩:=id hit;obtain⟨od,hod,hcd,hdd⟩:=id hm;unfold pyNext;refine zC (wpAny_attempt (zAg (name:=Str.ofString "__next__") hit.typeIs F.slot_dict_keyiterator_next
  (zAj F.slot_dict_keyiterator_next hit.typeIs F.entry_dict_keyiterator_next ?_ (F.args_dict_keyiterator_next_1 _))))
 refine zC (zG ?_);refine zC ?_;refine zC ?_
 first | refine zC (zB4 hit.typeIs (zG ?_)) | refine zC (wpAny_typeNameOf_keyiter hit.typeIs (zG ?_))
 refine zC (wpAny_fieldsOf ho hd ?_);have hown:Builtin.Dict_items.ownsTuple "dict_keyiterator"=false:=by decide
 simp only[hown,zBg,if_false];show wpAny _ _ (if (Value.ref d==Value.none)=true then _ else _) _ _ s
 rw[if_neg (show ¬ ((Value.ref d==Value.none)=true) from zn)];refine zC (zG ?_);refine zC (wpAny_dictEntries hod hdd ?_);rw[if_neg (by simp)];refine zC (zG ?_);refine zC (wpAny_dictEpoch hod hdd ?_);rw[if_neg (by simp)];refine zG ?_;simp only[show ¬ ((i:Int)<0) from by omega,if_false,zAu,Array.getElem?_eq_none hge];refine zC ?_
 first | refine zC (zB4 hit.typeIs (zG ?_)) | refine zC (wpAny_typeNameOf_keyiter hit.typeIs (zG ?_))
 show wpAny _ _ (setField (.ref it) 0 .none >>= _) _ _ s;refine zC (wpAny_setField ho hd (by simp) ?_);show wpAny _ _ (newExc (.type "StopIteration") [] >>= _) _ _ _;refine zC ?_;simp only[newExc,newTuple];refine zC (zAs ?_ (by size_fits));refine zC (m:=firstArgMember _ _) (wpAny_of_eq (a:=Value.none) (by first | rfl | (simp only[firstArgMember];rfl)) ?_);refine zAs ?_ (by size_fits);simp only[raiseNew];refine zC (wpAny_handled ?_);rw[show A.in1.handled=none from hh];refine zC (zG (wpAny_throw ?_));refine zC (wpAny_isInstance (T := "StopIteration") (b:=true) ⟨_,zX _ rfl,rfl⟩ isSubtype_stop ?_);exact zG (hQ _ (((Heap.SameBut.update ..).extBut.push _).push _))
end
section
variable {prog:Program}{w:World}{A:Around}{d:Addr}{es:Array DictEntry}{ep:Nat}
theorem walks (hh:A.handled=none)(I:Addr)(hne:d≠I):Walks prog w A I [I,d] [I] es.size (fun i v=>∃e,es[i]?=some e/\v=e.key) (fun i h=>h.IsKeyIter I d i es.size ep/\At h d es ep) where
 sub:=fun b hb=>by simp at hb;simp[hb]
 frame:=fun _ _ _ st hk=>⟨st.1.at fun o e=>hk I (by simp) o e,st.2.keep fun o e=>hk d (by simp) o e⟩
 item:=fun i s Q E hi st hQ=>next st.1 st.2 hi fun h' hit' hs'=>
  hQ _ h' s.toks ⟨es[i],by simp[hi],rfl⟩ ⟨hit',st.2.keep fun o e=>hs'.extBut d o hne e⟩ fun b o hb e=>hs'.extBut b o (fun h=>hb (by simp[h])) e
 done:=fun s Q E st hQ=>stop hh st.1 st.2 (zK _) fun h' he'=>hQ h' s.toks fun b o hb e=>he' b o (fun h=>hb (by simp[h])) e
 self:=fun _ _ _ _ st hQ=>wpAny_pyIter_keyiter st.1 hQ
theorem src (lo:(d==sysModules)=false):KdlSrc prog w "dict" d d es.size (fun i v=>∃e,es[i]?=some e/\v=e.key) (fun h=>At h d es ep) where
 type:=fun _ hm=>hm.typeIs
 there:=fun _ hm=>⟨hm.lt,hm.lt⟩
 keep:=fun _ _ hm hk=>hm.keep fun o e=>hk d (.inl rfl) o e
 notList:=by decide
 notTuple:=by decide
 hint:=fun _ _ _ _ hm hq=>kdl_hint_dict hm.typeIs hq
 iter:=fun _ _ hh hm=>⟨_,_,(fun _ _ hq=>iter lo hm hq),walks hh _ (zb hm.lt),⟨⟨_,zX _ rfl,rfl,rfl⟩,hm.keep fun o e=>zN _ e⟩⟩
end
end DRaw
namespace SortT
open PySem PySem.W PySem.Calls PyProof.Rows
theorem sorted_dict {prog:Program}{w:World}{A:Around}{E:vSP}{s:Shared}{d:Addr}{es:Array DictEntry}{ep:Nat}{vs:List Value}{Q:vSP}{O:KeyOrd}{key:Nat->O.α}{κ:SortKind}
 (hh:A.handled=none)(lo:(d==sysModules)=false)(hm:DRaw.At s.heap d es ep)(hvs:vs=es.toList.map (·.key))(h64:vs.length<64)
 (ask:2<=vs.length->∀(s':Shared)(a:Addr),(∀b o,s.heap.get? b=some o->b≠a)->(∀b o,s.heap.get? b=some o->s'.heap.get? b=some o)->Asks prog w A.in1.in1 s' a vs key κ)
 (h:∀(h1:Heap)(D:Addr)(h':Heap)(t':Nat)(out:List Nat)(c:Nat),Put key vs.length out->(∀b o,s.heap.get? b=some o->h1.get? b=some o)->h1.objs.size<=D->(∀b o,h1.get? b=some o->h'.get? b=some o) ->
  h'.get? D=some (seqObj "list" (out.map fun i=>vs.getD i Value.none).toArray c)->Q (.ref D) { s with heap:=h',toks:=t' }):
 wpAny (model prog w) A (call (.builtin "sorted") [.ref d]) Q E s:=by
 have hlen:vs.length=es.size:=by rw[hvs];simp
 refine call_function_entry kind_sorted plain_sorted entry_sorted (args_sorted1 _) ?_;unfold Builtin.«sorted»;refine zC (m:=checkCount "sorted" 1 1 _) (zG ?_);refine zC (kdu_collect (A:=A.in1) (DRaw.src (es:=es) (ep:=ep) lo) hh hm (by rw[sizeLine_eq];omega) fun h1 tk acc hk hacc=>?_);have el:acc.toList=vs:=by
  apply List.ext_getElem?;intro j;by_cases hj:j<es.size
  . have hz:j<acc.size:=by rw[hacc.1];exact hj
    obtain⟨e,he,hv⟩:=hacc.2 j acc[j] (by simp[hz]);rw[Array.getElem?_toList,Array.getElem?_eq_getElem hz,hv,hvs,zM,Array.getElem?_toList,he];rfl
  . rw[zx (by rw[Array.length_toList,hacc.1];omega),zx (by omega)]
 rw[el];refine zC (wpAny_newList ?_ (by rw[sizeLine_eq];omega));have hoL:(h1.push (seqObj "list" vs.toArray 0)).get? h1.objs.size=some (seqObj "list" vs.toArray 0):=zX _ rfl;have keep1:∀b o,h1.get? b=some o->(h1.push (seqObj "list" vs.toArray 0)).get? b=some o:=fun b o q=>zN _ q;refine zC (zAW (zAj slot_list_sort ⟨_,hoL,rfl⟩ entry_list_sort (zEE (O:=O) (key:=key) (κ:=κ) hoL h64
  (fun h2=>ask h2 _ _ (fun b o e=>zb (zW (hk b o e))) fun b o e=>keep1 b o (hk b o e)) fun out hp=>⟨_,rfl,?_⟩) (args_list_sort _)))
 refine zG ⟨_,rfl,?_⟩;obtain⟨c,hc⟩:=sortedHeap_at (vs:=vs) (out:=(out.map fun i=>vs.getD i Value.none).toArray) hoL;refine h h1 _ _ _ out c hp hk (zK _) (fun b o e=>?_) hc;have hb:b<h1.objs.size:=zW e;rw[sortedHeap_old (zb hb) (by rw[zAU];exact zBW hb)];exact keep1 b o e
end SortT
namespace L2
open PySem PySem.Spec PyProof.Rows
theorem zEr:∀a:List Int,HT.lexLt a a=false
 | []=>rfl
 | x::r=>by rw[HT.lexLt_cons,if_pos rfl];exact zEr r
theorem zEF:∀a b c:List Int,HT.lexLt a b=true->HT.lexLt b c=true->HT.lexLt a c=true
 | [],[],_,h,_=>by cases h
 | [],_::_,[],_,h=>by cases h
 | [],_::_,_::_,_,_=>rfl
 | _::_,[],_,h,_=>by cases h
 | _::_,_::_,[],_,h=>by cases h
 | x::a,y::b,z::c,h1,h2=>by
  rw[HT.lexLt_cons] at h1 h2 ⊢;by_cases e1:x=y
  . subst e1;rw[if_pos rfl] at h1;by_cases e2:x=z
    . subst e2;rw[if_pos rfl] at h2 ⊢;exact zEF a b c h1 h2
    . rw[if_neg e2] at h2 ⊢;exact h2
  . rw[if_neg e1] at h1;have l1:x<y:=of_decide_eq_true h1;by_cases e2:y=z
    . subst e2;rw[if_neg e1];exact h1
    . rw[if_neg e2] at h2;have l2:y<z:=of_decide_eq_true h2;rw[if_neg (by omega)];exact zS (by omega)
theorem zEG:∀a b:List Int,HT.lexLt a b=false->HT.lexLt b a=false->a=b
 | [],[],_,_=>rfl
 | [],_::_,h,_=>by cases h
 | _::_,[],_,h=>by cases h
 | x::a,y::b,h1,h2=>by
  rw[HT.lexLt_cons] at h1 h2;by_cases e:x=y
  . subst e;rw[if_pos rfl] at h1 h2;rw[zEG a b h1 h2]
  . rw[if_neg e] at h1;rw[if_neg (Ne.symm e)] at h2;have l1:=of_decide_eq_false h1;have l2:=of_decide_eq_false h2;omega
theorem zNr (a b c:List Int)(h:HT.lexLt a c=true):HT.lexLt a b=true\/HT.lexLt b c=true:=by
 cases h1:HT.lexLt a b with
 | true=>exact .inl rfl
 | false=>
  cases h2:HT.lexLt b a with
  | true=>exact .inr (zEF b a c h2 h)
  | false=>rw[<-zEG a b h1 h2];exact .inr h
noncomputable def zLR:KeyOrd:=⟨List Int,HT.lexLt,zEr,zEF,zNr,zEG⟩
noncomputable def zLm (ms:List (List Int)):Prop:=ms.Pairwise fun a b=>HT.lexLt b a=false
noncomputable def zAc (H:Hp):List V->List (List Int)->Prop
 | [],[]=>True
 | x::xs,k::ks=>(∃a,x=.ref a/\H a=some (.tup (k.map V.int))/\k≠[])/\zAc H xs ks
 | _,_=>False
theorem zAc.length {H:Hp}:∀{xs:List V}{ks:List (List Int)},zAc H xs ks->xs.length=ks.length
 | [],[],_=>rfl
 | [],_::_,h=>h.elim
 | _::_,[],h=>h.elim
 | _::_,_::_,h=>by rw[zt,zt,zAc.length h.2]
theorem zAc.get {H:Hp}:∀{xs:List V}{ks:List (List Int)}{i:Nat}{x:V},zAc H xs ks->xs[i]?=some x->∃a k,x=.ref a/\ks[i]?=some k/\H a=some (.tup (k.map V.int))/\k≠[]
 | [],_,_,_,_,h=>by simp at h
 | _::_,[],_,_,h,_=>h.elim
 | y::_,k::_,0,x,h,e=>by
  obtain⟨⟨a,h1,h2,h3⟩,_⟩:=h;have e':y=x:=by simpa using e
  subst e';exact⟨a,k,h1,rfl,h2,h3⟩
 | _::_,_::_,i+1,x,h,e=>by obtain⟨a,k,h1,h2,h3⟩:=zAc.get (i:=i) h.2 (by simpa using e);exact⟨a,k,h1,by simpa using h2,h3⟩
theorem zAc.mk {H:Hp}:∀{xs:List V}{ks:List (List Int)},xs.length=ks.length->(∀(i:Nat)(x:V)(k:List Int),xs[i]?=some x->ks[i]?=some k->∃a,x=V.ref a/\H a=some (.tup (k.map V.int))/\k≠[])->zAc H xs ks
 | [],[],_,_=>trivial
 | [],_::_,e,_=>by simp at e
 | _::_,[],e,_=>by simp at e
 | x::xs,k::ks,e,h=>⟨h 0 x k rfl rfl,zAc.mk (by simpa using e) fun i x' k' h1 h2=>h (i+1) x' k' (by simpa using h1) (by simpa using h2)⟩
variable {H:Hp}{ks:List (List Int)}
theorem zAc.keep {H':Hp}{xs:List V}(h:zAc H xs ks)(k:∀b ys,H b=some (.tup ys)->H' b=some (.tup ys)):zAc H' xs ks:=
 zAc.mk h.length fun i x c h1 h2=>by obtain⟨a,c',e1,e2,e3,e4⟩:=h.get h1;rw[h2] at e2;cases e2;exact⟨a,e1,k a _ e3,e4⟩
theorem zAc.snoc {H:Hp}:∀{xs:List V}{ks:List (List Int)}{x:V}{k:List Int},zAc H xs ks->(∃a,x=.ref a/\H a=some (.tup (k.map V.int))/\k≠[])->zAc H (xs++[x]) (ks++[k])
 | [],[],_,_,_,h=>⟨h,trivial⟩
 | [],_::_,_,_,t,_=>t.elim
 | _::_,[],_,_,t,_=>t.elim
 | _::_,_::_,_,_,t,h=>⟨t.1,zAc.snoc t.2 h⟩
section
variable {prog:Program}{w:World}{A:Around}{s:Shared}
theorem zEK {fin:Bool}{Q:Bool->Shared->Prop}:∀(ns ms:List Int)(us ws:List Value)(i:Nat),IntsAre us ns->IntsAre ws ms->fin=decide (ns.length<ms.length)->Q (HT.lexLt ns ms) s ->
 PySem.W.KatLex prog w A true fin Q (us.zip ws) i s
 | [],[],_,_,_,.nil,.nil,e,q=>by subst e;exact q
 | [],_::_,_,_,_,.nil,.cons _ _ _,e,q=>by subst e;exact q
 | _::_,[],_,_,_,.cons _ _ _,.nil,e,q=>by subst e;exact q
 | n::ns,m::ms,_,_,i,.cons _ t hu,.cons _ u hw,e,q=>by
  rw[HT.lexLt_cons] at q;refine PySem.W.kat_cons (wpAny_eqBool_int ?_);by_cases h:n=m
  . rw[if_pos h] at q;rw[show (n==m)=true by simpa using h];exact PySem.W.kat_yes (zEK ns ms _ _ (i+1) hu hw (by rw[e];simp) q)
  . rw[if_neg h] at q;rw[show (n==m)=false by simpa using h];refine PySem.W.kat_no ?_;cases i with
    | zero=>exact oneLt_int q
    | succ j=>exact PySem.W.kat_one _ _ (PyProof.Rows.lt_int q)
theorem zGW {X:Cx}{pins:lPO}{σ:St}{s s':Shared}{a:Addr}{ys:List V}{vs:List Value}{A:Around}(I:Inv X pins σ H s)(T:zAc H ys ks)(r:zBS ys vs)(hne:0<vs.length)
 (fa:∀b o,s.heap.get? b=some o->b≠a)(kp:∀b o,s.heap.get? b=some o->s'.heap.get? b=some o):SortT.Asks X.prog X.w A s' a vs (O:=zLR) (fun i=>ks.getD i []) (tuples' true):=by
 have hl:=T.length;have hv:=r.length;have at_:∀(h':Heap),(∀b o,b≠a->s'.heap.get? b=some o->h'.get? b=some o)->∀i,i<vs.length->∃(p:Addr)(k:List Int)(us:List Value)(o:Obj)(n:Nat),vs[i]?=some (Value.ref p)/\ks[i]?=some k/\k≠[]/\IntsAre us k/\h'.get? p=some o/\o.cls=.type "tuple"/\o.data=.seq us.toArray n:=fun h' kh i hi=>by
  have hy:i<ys.length:=by omega
  obtain⟨p,k,e1,e2,e3,e4⟩:=T.get (i:=i) (x:=ys[i]) (by simp[hy]);obtain⟨u,hu,ru⟩:=r.get (i:=i) (x:=ys[i]) (by simp[hy]);rw[e1] at ru;cases (show u=Value.ref p from ru);obtain⟨_,its,rv,o,ho,hc,n,hd⟩:=I.hok p _ e3;exact⟨p,k,its,o,n,hu,e2,e4,zBy rv,kh p o (fa p o ho) (kp p o ho),hc,hd⟩
 refine⟨fun h' Q E kh q=>?_,fun h' i j Q E kh hi hj q=>?_⟩
 . -- all keys are tuples whose first items are ints
   have tups:∀(m:Nat),m<=vs.length->∃fs:List Value,PySem.W.KatTups h' (vs.drop (vs.length-m)) fs/\fs.length=m/\∀f∈fs,∃x t,f=Value.int x t:=by
    intro m
    induction m with
    | zero=>intro _;exact⟨[],by rw[Nat.sub_zero,List.drop_length];exact trivial,rfl,fun f hf=>by simp at hf⟩
    | succ m ih=>
     intro hm;obtain⟨fs,t,e,hf⟩:=ih (by omega);obtain⟨p,k,us,o,n,hu,hk,hk0,hI,ho,hc,hd⟩:=at_ h' kh (vs.length-(m+1)) (by omega);have ed:vs.drop (vs.length-(m+1))=Value.ref p::vs.drop (vs.length-m):=by
      have hlt:vs.length-(m+1)<vs.length:=by omega
      rw[zAz hlt,show vs.length-(m+1)+1=vs.length-m by omega];have:vs[vs.length-(m+1)]=Value.ref p:=by rw[zA hlt] at hu;exact zT hu
      rw[this]
     cases hI with
     | nil=>exact absurd rfl hk0
     | cons x tx hI'=>
      refine⟨Value.int x tx::fs,by rw[ed];exact PySem.W.KatTups.cons ho hc hd rfl t,by rw[zt,e],fun f hf'=>?_⟩;rcases ze.mp hf' with rfl | hf'
      . exact⟨x,tx,rfl⟩
      . exact hf f hf'
   obtain⟨fs,t,e,hf⟩:=tups vs.length (zK _);rw[zBG,List.drop_zero] at t;refine PySem.W.kat_kind (T:=Value.type "int") t (by omega) (fun v hv=>?_) (by rfl) q;obtain⟨x,tx,rfl⟩:=hf v hv;exact PySem.W.Looks.of_pure rfl
 . obtain⟨p,k,us,o,n,hu,hk,_,hI,ho,hc,hd⟩:=at_ h' kh i hi;obtain⟨p2,k2,us2,o2,n2,hu2,hk2,_,hI2,ho2,hc2,hd2⟩:=at_ h' kh j hj;have e1:vs.getD i Value.none=.ref p:=by rw[zE,hu];rfl
   have e2:vs.getD j Value.none=.ref p2:=by rw[zE,hu2];rfl
   have g1:ks.getD i []=k:=by rw[zE,hk];rfl
   have g2:ks.getD j []=k2:=by rw[zE,hk2];rfl
   rw[e1,e2];refine PySem.W.kat_lt (s:={ s' with heap:=h' }) ho hd ho2 hd2 ?_;have q':Q (HT.lexLt k k2) { s' with heap:=h' }:=by
    have:zLR.blt (ks.getD i []) (ks.getD j [])=HT.lexLt k k2:=by rw[g1,g2];rfl
    rw[<-this];exact q
   have l1:=hI.length;have l2:=hI2.length;exact zEK k k2 us us2 0 hI hI2 (by simp only[zU];rw[l1,l2]) q'
theorem zHW {ys:List V}{vs:List Value}{out:List Nat}(T:zAc H ys ks)(r:zBS ys vs)(p:SortT.Put (O:=zLR) (fun i=>ks.getD i []) vs.length out):
 ∃zs ms,zAc H zs ms/\ms.Perm ks/\zLm ms/\zBS zs (out.map fun i=>vs.getD i Value.none)/\zs.length=ys.length:=by
 have hl:=T.length;have hv:=r.length;have hb:∀i∈out,i<vs.length:=fun i hi=>zCC.mp (p.perm.mem_iff.mp hi);refine⟨out.map fun i=>ys.getD i .non,out.map fun i=>ks.getD i [],zAc.mk (by rw[zB,zB]) fun j x k hx hk=>?_,?_,?_,?_,?_⟩
 . rw[zM] at hx hk;cases e:out[j]? with
   | none=>rw[e] at hx;cases hx
   | some i=>
    rw[e] at hx hk;have hi:=hb i (zV e);have hy:i<ys.length:=by omega
    obtain⟨a,c,e1,e2,e3,e4⟩:=T.get (i:=i) (x:=ys[i]) (by simp[hy]);have ex:ys.getD i .non=x:=zT hx;have ek:ks.getD i []=k:=zT hk;rw[zE,zA hy] at ex;rw[zE,e2] at ek;have ex':ys[i]=x:=ex;have ek':c=k:=ek;subst ek';exact⟨a,by rw[<-ex'];exact e1,e3,e4⟩
 . have h1:=p.perm.map fun i=>ks.getD i [];have h2:(List.range vs.length).map (fun i=>ks.getD i [])=ks:=by
    rw[show vs.length=ks.length by omega];apply List.ext_getElem?;intro j;rw[zM];by_cases hj:j<ks.length
    . rw[List.getElem?_range hj,zA hj];simp[hj]
    . rw[zx (by rw[zAP];omega),zx (by omega)];rfl
   rw[h2] at h1;exact h1
 . refine zAY.mpr fun i j hi hj hij=>?_;rw[zB] at hi hj;have:=p.rise i j out[i] out[j] (zA9 hij) (by simp) (by simp);have h3:HT.lexLt (ks.getD out[j] []) (ks.getD out[i] [])=false:=this;simpa using h3
 . have:∀l:List Nat,(∀i∈l,i<vs.length)->zBS (l.map fun i=>ys.getD i .non) (l.map fun i=>vs.getD i Value.none):=by
    intro l
    induction l with
    | nil=>intro _;exact .nil
    | cons i l ih=>
     intro h;have hi:=h i zZ;have hy:i<ys.length:=by omega
     obtain⟨u,hu,ru⟩:=r.get (i:=i) (x:=ys[i]) (by simp[hy]);refine .cons ?_ (ih fun j hj=>h j (zg _ hj));show zBm (ys.getD i V.non) (vs.getD i Value.none);rw[zE,zA hy,zE,hu];exact ru
   exact this out hb
 . rw[zB,p.perm.length_eq,zAP];omega
theorem zCZ {X:Cx}{pins:lPO}{σ:St}{s:Shared}{h':Heap}{D:Addr}{c t':Nat}{zs:List V}{us:List Value}(I:Inv X pins σ H s)(hD:s.heap.objs.size<=D)(kp:∀b o,s.heap.get? b=some o->h'.get? b=some o)
 (ho:h'.get? D=some (seqObj "list" us.toArray c)) (r:zBS zs us)(hz:zs.length<=sizeLine):Inv X pins σ (upd H D (.lst zs)) { s with heap:=h',toks:=t' }:=
 I.laid kp hD (show zBc X.prog X.w _ _ _ (.lst zs) from ⟨hz,us,c,r,ho⟩)
end
section
variable {X:Cx}
inductive rc_5 (K:PySem.W.Frag)(xs:List V)(H:Hp)(Q:VK):Prop
 | mk:∀p ys ks,(xs=[.ref p])->(SqL K H p ys)->(zAc H ys ks)->(ks.length<64)->(∀l zs ms,H l=none->zAc H zs ms->ms.Perm ks->zLm ms->Q (.ref l) (upd H l (.lst zs)))->rc_5 K xs H Q
theorem zEX:zCl X (.builtin "sorted") (rc_5 X.K):=by intro pins s σ H xs us Q I r h;obtain⟨p,ys,ks,rfl,hq,T,h64,q⟩:=h;obtain⟨u,rfl,rx⟩:=zC8 r;cases rx;obtain⟨its,r',pl,hz⟩:=I.list hq;have hl:=T.length;have hv:=r'.length;refine SortT.sorted_list (O:=zLR) (key:=fun i=>ks.getD i []) (κ:=tuples' true) pl.isList (by omega) (fun h2 s' a fa kp=>zGW I T r' (by omega) fa kp) fun D h' out c pt hD kp ho=>?_;obtain⟨zs,ms,T2,hp,hr,rz,hlz⟩:=zHW T r' pt;exact⟨.ref D,_,zCZ (t':=s.toks) I hD kp ho rz (by omega),rfl,q D zs ms (I.hok.fresh hD) T2 hp hr⟩
inductive rc_6 (xs:List V)(H:Hp)(Q:VK):Prop
 | mk:∀p kvs ks,(xs=[.ref p])->(H p=some (.dT kvs))->(kvs.map (·.1)=ks.map (List.map Sum.inl))->((∀k∈ks,k≠[]))->(ks.length<64)->(∀l zs ms,H l=none->zAc H zs ms->ms.Perm ks->zLm ms->Q (.ref l) (upd H l (.lst zs)))->rc_6 xs H Q
theorem zDh (hc:X.calm=true):zCl X (.builtin "sorted") rc_6:=by
 intro pins s σ H xs us Q I r h;obtain⟨p,kvs,ks,rfl,hd,hks,hk0,h64,q⟩:=h;obtain⟨u,rfl,rx⟩:=zC8 r;cases rx;obtain⟨hz,lo,xs,rel,o,es,ep,ho,hx,hdat,hes,hnd⟩:=I.hok p _ hd;have key:∀(kvs:List (List Key×V))(xs:List (List Key×Addr×Value))(ks:List (List Int)),KT H kvs xs->kvs.map (·.1)=ks.map (List.map Sum.inl)->(∀k∈ks,k≠[]) ->
  zAc H (xs.map fun q=>V.ref q.2.1) ks/\zBS (xs.map fun q=>V.ref q.2.1) ((xs.map (entryOfKey (tupleKind (zA2 X.prog X.w)))).map (·.key)):=by
  intro kvs xs ks rel
  induction rel generalizing ks with
  | nil=>
   intro e _;cases ks with
   | nil=>exact⟨trivial,.nil⟩
   | cons k ks=>simp at e
  | cons hpq _ ih=>
   intro e h0;cases ks with
   | nil=>simp at e
   | cons k ks=>simp only[zAa,List.cons.injEq] at e;obtain⟨T,V⟩:=ih ks e.2 fun c hc=>h0 c (zg _ hc);obtain⟨e1,e2,_⟩:=hpq;refine⟨⟨⟨_,rfl,?_,h0 k zZ⟩,T⟩,.cons rfl V⟩;rw[e2,e.1,zAd];rfl
 obtain⟨T,rv⟩:=key kvs xs ks rel hks hk0;have hl:=T.length;have hv:=rv.length;have evs:(xs.map (entryOfKey (tupleKind (zA2 X.prog X.w)))).map (·.key)=es.toList.map (·.key):=by rw[hes]
 refine SortT.sorted_dict (O:=zLR) (key:=fun i=>ks.getD i []) (κ:=tuples' true) (vs:=(xs.map (entryOfKey (tupleKind (zA2 X.prog X.w)))).map (·.key)) (I.ok.hd hc) lo ⟨o,ho,hx,hdat⟩ evs (by omega) (fun h2 s' a fa kp=>zGW I T rv (by omega) fa kp) fun h1 D h' t' out c pt k1 hD k2 ho=>?_;obtain⟨zs,ms,T2,hp,hr,rz,hlz⟩:=zHW T rv pt;have I1:Inv X pins σ H { s with heap:=h1,toks:=s.toks }:=I.kept k1;refine⟨.ref D,_,zCZ (s:={ s with heap:=h1,toks:=s.toks }) (t':=t') I1 hD k2 ho rz ?_,rfl,q D zs ms (I1.hok.fresh hD) T2 hp hr⟩;have:sizeLine=16777216:=rfl;omega
end
mutual
inductive zDC (H:Hp):V->PyData->Prop
 | non:zDC H .non .none
 | bl (b:Bool):zDC H (.bl b) (.bool b)
 | int (i:Int):zDC H (.int i) (.int i)
 | str (x:Str):zDC H (.str x) (.str x)
 | tup {a:Addr}{xs:List V}{ds:List PyData}:H a=some (.tup xs)->zCB H xs ds->zDC H (.ref a) (.tuple ds)
 | lst {a:Addr}{xs:List V}{ds:List PyData}:H a=some (.lst xs)->zCB H xs ds->zDC H (.ref a) (.list ds)
inductive zCB (H:Hp):List V->List PyData->Prop
 | nil:zCB H [] []
 | cons {x:V}{xs:List V}{d:PyData}{ds:List PyData}:zDC H x d->zCB H xs ds->zCB H (x::xs) (d::ds)
end
section
variable {P:Program}{w:World}{H:Hp}{h:Heap}
mutual
theorem zDC.reads (ok:HOk P w H h):∀{x:V}{d:PyData},zDC H x d->∀{u:Value},zBm x u->∃as,Reads h u d as
 | _,_,.non,u,r=>by cases (show u=Value.none from r);exact⟨_,.none⟩
 | _,_,.bl b,u,r=>by cases (show u=Value.bool b from r);exact⟨_,.bool b⟩
 | _,_,.int i,u,r=>by obtain⟨t,rfl⟩:=r;exact⟨_,.int i t⟩
 | _,_,.str x,u,r=>by obtain⟨t,rfl⟩:=r;exact⟨_,.str x t⟩
 | _,_,.tup (a:=a) e s,u,r=>by cases (show u=Value.ref a from r);obtain⟨_,its,rv,o,ho,hc,n,hd⟩:=ok a _ e;obtain⟨as,ra⟩:=zCB.reads ok s rv;exact⟨_,.tuple ho hc hd (by simpa using ra)⟩
 | _,_,.lst (a:=a) e s,u,r=>by cases (show u=Value.ref a from r);obtain⟨_,its,n,rv,ho⟩:=ok a _ e;obtain⟨as,ra⟩:=zCB.reads ok s rv;exact⟨_,.list ho rfl rfl (by simpa using ra)⟩
theorem zCB.reads (ok:HOk P w H h):∀{xs:List V}{ds:List PyData},zCB H xs ds->∀{us:List Value},zBS xs us->∃as,ReadsAll h us ds as
 | _,_,.nil,us,r=>by cases r;exact⟨_,.nil⟩
 | _,_,.cons s t,us,r=>by
  cases r with
  | cons r1 r2=>obtain⟨a1,h1⟩:=zDC.reads ok s r1;obtain⟨a2,h2⟩:=zCB.reads ok t r2;exact⟨_,.cons h1 h2⟩
end
end
structure Fn (n p:Nat)(d:PyData):Prop where
 wt:d.weight<=n
 dp:d.depth<=p
 cl:d.canLay0=true
 sh:d.intsShort 13=true
 sw:d.showable=true
theorem Fn.mono {n p n' p':Nat}{d:PyData}(h:Fn n p d)(hn:n<=n')(hp:p<=p'):Fn n' p' d:=⟨zAM h.wt hn,zAM h.dp hp,h.cl,h.sh,h.sw⟩
theorem zNz:Fn 0 0 .none:=⟨zK _,zK _,rfl,rfl,rfl⟩
theorem zIK {i:Int}(h:i.natAbs<1000000000):i.natAbs.log2<30:=by
 by_cases h0:i.natAbs=0
 . rw[h0];decide
 . exact (Nat.log2_lt h0).mpr (by omega)
theorem zMk {i:Int}(h:i.natAbs<1000000000):Fn 30 0 (.int i):=by
 have hl:=zIK h;refine⟨?_,zK _,rfl,?_,?_⟩
 . simp only[PyData.weight];split <;> omega
 . simp only[PyData.intsShort,PyData.shown];refine zS ?_;have e:=int_text_length_le10 (a:=i) (k:=9) (by decide) (by simpa using h);have e2:(Str.ofString (toString i)).length=(toString i).length:=by rw[Str.ofString_eq_toList];show ((toString i).toList.map Char.toNat).toArray.size=_;rw[zU,zB,String.length_toList]
   show (Str.ofString (toString i)).length<=13;omega
 . simp only[PyData.showable];exact zS (by omega)
theorem zMl {n p:Nat}:∀{ds:List PyData},(∀d∈ds,Fn n p d)->PyData.weightAll ds<=ds.length*(n+1)/\PyData.depthAll ds<=p/\PyData.canLayAll0 ds=true/\PyData.intsShortAll 13 ds=true/\PyData.showableAll ds=true
 | [],_=>⟨by simp[PyData.weightAll],by simp[PyData.depthAll],by simp[PyData.canLayAll0],by simp[PyData.intsShortAll],by simp[PyData.showableAll]⟩
 | d::ds,h=>by
  obtain⟨a,b,c,e,f⟩:=zMl (ds:=ds) fun x hx=>h x (zg _ hx);have g:=h d zZ;refine⟨?_,?_,?_,?_,?_⟩
  . simp only[PyData.weightAll,zt];have:=g.wt;rw[Nat.add_mul];omega
  . simp only[PyData.depthAll];have:=g.dp;omega
  . simp only[PyData.canLayAll0,g.cl,c,Bool.and_self]
  . simp only[PyData.intsShortAll,g.sh,e,Bool.and_self]
  . simp only[PyData.showableAll,g.sw,f,Bool.and_self]
theorem Fn.len {n p:Nat}{d:PyData}(h:Fn n p d)(hn:n<=1048576)(hp:p<=60):d.shown.length<=sizeLine/\d.hasDict=false:=by
 have hl:PyData.layable0 d=true:=by show (PyData.canLay0 d && decide (PyData.depth d<=64) && decide (PyData.weight d<=2 ^ 20))=true;rw[h.cl,zS (show PyData.depth d<=64 by have:=h.dp;omega),zS (show PyData.weight d<=2 ^ 20 by have:=h.wt;omega)];rfl
 have e:=shown_le13 hl h.sh;have:sizeLine=16777216:=rfl;exact⟨by omega,PyData.hasDict_of_layable hl⟩
section
variable {X:Cx}
inductive rc_7 (xs:List V)(H:Hp)(Q:VK):Prop
 | mk:∀x d,(xs=[x])->(zDC H x d)->(Fn 1048576 50 d)->(Q (.str d.shown) H)->rc_7 xs H Q
theorem zCV {k:Nat}(hr:zDE k X.A):zCl X (.builtin "repr") rc_7:=by
 intro pins s σ H xs us Q I r h;obtain⟨x,d,rfl,sh,f,q⟩:=h;obtain⟨u,rfl,rx⟩:=zC8 r;obtain⟨hz,hnd⟩:=f.len (zK _) (by decide);have hu:=hr.units;cases sh with
 | non=>cases (show u=Value.none from rx);exact PySem.P.repr_of_none ⟨.str _,H,I.tok _,⟨_,rfl⟩,by simpa only [PyData.shown] using q⟩
 | bl b=>cases (show u=Value.bool b from rx);exact PySem.P.repr_of_bool ⟨.str _,H,I.tok _,⟨_,rfl⟩,by simpa only [PyData.shown] using q⟩
 | int i=>obtain⟨t,rfl⟩:=rx;exact PySem.P.repr_of_int (by have:=f.sw;simpa only [PyData.showable,decide_eq_true_eq] using this) ⟨.str _,H,I.tok _,⟨_,rfl⟩,by simpa only [PyData.shown] using q⟩
 | str z=>obtain⟨t,rfl⟩:=rx;exact PySem.P.repr_of_str ⟨.str _,H,I.tok _,⟨_,rfl⟩,by simpa only [PyData.shown] using q⟩ (by simpa only [PyData.shown] using hz)
 | tup e al=>cases (show u=Value.ref _ from rx);obtain⟨as,rd⟩:=zDC.reads I.hok (.tup e al) (u:=.ref _) rfl;exact repr_of_reads' rd f.sw (PyData.noDict_hsm hnd) hr.gd (by have:=f.dp;omega) (fun _ _ e=>e) (fun h' u tk hk=>⟨.str _,H,I.kept hk,⟨u,rfl⟩,q⟩) hz
 | lst e al=>cases (show u=Value.ref _ from rx);obtain⟨as,rd⟩:=zDC.reads I.hok (.lst e al) (u:=.ref _) rfl;exact repr_of_reads' rd f.sw (PyData.noDict_hsm hnd) hr.gd (by have:=f.dp;omega) (fun _ _ e=>e) (fun h' u tk hk=>⟨.str _,H,I.kept hk,⟨u,rfl⟩,q⟩) hz
end
end L2
namespace L2
open PySem PySem.Spec PyProof.Rows
section
variable {X:Cx}{es xs:List Expr}{t t1:TA}
theorem zCb {i j pos} (hr:PA X es t):PA X (.Constant (.int i) j pos::es) (zHz (tC (.int i)) t):=zD zf hr (by rfl)
theorem pa_lst {pos} (h:PA X xs t1)(hr:PA X es t):PA X (.List xs pos::es) (zHz (tLst t1) t):=zD (zBV h) hr (by rfl)
end
inductive zDa:List Expr->List Int->Prop where
 | nil:zDa [] []
 | cons {i:Int}{j:Nat}{pos:Pos}{es:List Expr}{ns:List Int}:zDa es ns->zDa (.Constant (.int i) j pos::es) (i::ns)
theorem zJm {X:Cx}{es:List Expr}{ns:List Int}(h:zDa es ns):PA X es (fun _ H Q=>Q (ns.map V.int) H):=by
 induction h with
 | nil=>exact zL
 | cons _ ih=>intro pos pins s σ H Q I q;exact (zCb ih) pos pins s σ H Q I q
inductive zDQ:List Expr->List (List Int)->Prop where
 | nil:zDQ [] []
 | cons {xs:List Expr}{ns:List Int}{pos:Pos}{es:List Expr}{nss:List (List Int)}:zDa xs ns->ns.length<=sizeLine->zDQ es nss->zDQ (.List xs pos::es) (ns::nss)
noncomputable def zLy:List (List Int)->TA
 | []=>tNil
 | ns::r=>fun σ H Q=>∀p,H p=none->zLy r σ (upd H p (.lst (ns.map V.int))) fun xs H2=>Q (.ref p::xs) H2
theorem zLH {X:Cx}{es:List Expr}{nss:List (List Int)}(h:zDQ es nss):PA X es (zLy nss):=by
 induction h with
 | nil=>exact zL
 | cons hx hl _ ih=>intro pos pins s σ H Q I q;exact (pa_lst (zJm hx) ih) pos pins s σ H Q I ⟨by rw[zB];exact hl,fun p hp=>q p hp⟩
end L2
namespace WM
theorem zMc {α:Type} [DecidableEq α]:∀{l₁ l₂:List α},l₁.Nodup->(∀x∈l₁,x∈l₂)->l₁.length<=l₂.length
 | [],_,_,_=>zk _
 | x::r,l₂,h,s=>by
  obtain⟨h1,h2⟩:=zBI.mp h;have hx:x∈l₂:=s x zZ;have ih:=zMc (l₁:=r) (l₂:=l₂.erase x) h2 fun y hy=>by have hne:y≠x:=fun e=>h1 (e ▸ hy);exact (List.mem_erase_of_ne hne).mpr (s y (zg _ hy))
  rw[List.length_erase_of_mem hx] at ih;have:0<l₂.length:=List.length_pos_of_mem hx;rw[zt];omega
noncomputable def lowTo (n:Nat):List Int:=(List.range n).map fun (i:Nat)=>(i:Int)
variable {x:Int}
theorem mem_ints {n:Nat}:x∈lowTo n↔0<=x/\x<n:=by
 unfold lowTo;rw[zo];constructor
 . rintro ⟨i,hi,rfl⟩;have:=zCC.mp hi;omega
 . rintro ⟨h0,h1⟩;exact⟨x.toNat,zCC.mpr (by omega),by omega⟩
theorem zEB {n:Nat}{l:List Int}(h:l.Nodup)(hb:∀x∈l,0<=x/\x<n):l.length<=n:=by have:=zMc h (l₂:=lowTo n) fun x hx=>mem_ints.mpr (hb x hx);simpa [lowTo] using this
theorem zDN (n:Nat):(lowTo n).Pairwise (· < ·):=by unfold lowTo;rw[zAt];exact List.pairwise_lt_range.imp fun h=>by omega
noncomputable abbrev T3:=Int×Int×Int
noncomputable def tl (t:T3):List Int:=[t.1,t.2.1,t.2.2]
structure GW (n:Int)(ts:List T3):Prop where
 n1:1<=n
 n24:n<=24
 len:ts.length<64
 rng:∀t∈ts,0<=t.1/\t.1<t.2.1/\t.2.1<n/\1<=t.2.2/\t.2.2<=99
 dis:ts.Pairwise fun s t=>¬ (s.1=t.1/\s.2.1=t.2.1)
noncomputable def Adj (ts:List T3)(x y l:Int):Prop:=(x,y,l)∈ts\/(y,x,l)∈ts
variable {l y:Int}{ts:List T3}
theorem Adj.symm (h:Adj ts x y l):Adj ts y x l:=h.elim .inr .inl
theorem GW.uniq {n:Int}(g:GW n ts){l':Int}(h:Adj ts x y l)(h':Adj ts x y l'):l=l':=by
 have key:∀{ts:List T3},ts.Pairwise (fun s t=>¬ (s.1=t.1/\s.2.1=t.2.1))->∀{a b l l':Int},(a,b,l)∈ts->(a,b,l')∈ts->l=l':=by
  intro ts
  induction ts with
  | nil=>intro _ a b l l' h;simp at h
  | cons t r ih=>
   intro hp a b l l' h h';obtain⟨q,hr⟩:=zBL.mp hp;rcases ze.mp h with e | e
   . rcases ze.mp h' with e' | e'
     . rw[<-e] at e';injection e' with _ e2;injection e2 with _ e3;exact e3.symm
     . exact absurd (by rw[<-e];exact⟨rfl,rfl⟩) (q _ e')
   . rcases ze.mp h' with e' | e'
     . exact absurd (by rw[<-e'];exact⟨rfl,rfl⟩) (q _ e)
     . exact ih hr e e'
 rcases h with h | h <;> rcases h' with h' | h'
 . exact key g.dis h h'
 . have:=g.rng _ h;have:=g.rng _ h';simp only at *;omega
 . have:=g.rng _ h;have:=g.rng _ h';simp only at *;omega
 . exact key g.dis h h'
theorem GW.adj {n:Int}(g:GW n ts)(h:Adj ts x y l):0<=x/\x<n/\0<=y/\y<n/\x≠y/\1<=l/\l<=99:=by rcases h with h | h <;> (have:=g.rng _ h;simp only at *;omega)
noncomputable def fd (p:Int):List T3->List (List Int)
 | []=>[]
 | t::r=>(if t.1=p then [[t.2.1,t.2.2]] else [])++(if t.2.1=p then [[t.1,t.2.2]] else [])++fd p r
theorem zGK (p:Int):∀a b:List T3,fd p (a++b)=fd p a++fd p b
 | [],b=>rfl
 | t::r,b=>by show _++_++fd p (r++b)=_;rw[zGK p r b];simp[fd,List.append_assoc]
theorem zF6 {p:Int}{k:List Int}:∀{ts:List T3},k∈fd p ts↔∃y l,k=[y,l]/\Adj ts p y l
 | []=>by simp[fd,Adj]
 | (a,b,c)::r=>by
  have ih:=zF6 (p:=p) (k:=k) (ts:=r);show k∈_++_++fd p r↔_;rw[zm,zm,ih];simp only;constructor
  . rintro ((h | h) | ⟨y,l,e,h⟩)
    . split at h
      . rename_i e;simp at h;subst e;exact⟨b,c,h,.inl zZ⟩
      . simp at h
    . split at h
      . rename_i e;simp at h;subst e;exact⟨a,c,h,.inr zZ⟩
      . simp at h
    . exact⟨y,l,e,h.elim (fun z=>.inl (zg _ z)) fun z=>.inr (zg _ z)⟩
  . rintro ⟨y,l,e,h⟩;rcases h with h | h
    . rcases ze.mp h with q | q
      . injection q with q1 q2;injection q2 with q2 q3;subst q1 q2 q3;exact .inl (.inl (by simp[e]))
      . exact .inr ⟨y,l,e,.inl q⟩
    . rcases ze.mp h with q | q
      . injection q with q1 q2;injection q2 with q2 q3;subst q1 q2 q3;exact .inl (.inr (by simp[e]))
      . exact .inr ⟨y,l,e,.inr q⟩
theorem zKK {n:Int}(p:Int):∀{ts:List T3},(∀t∈ts,t.1<t.2.1)->(fd p ts).length<=ts.length
 | [],_=>zK _
 | t::r,h=>by
  have ih:=zKK (n:=n) p (ts:=r) fun t ht=>h t (zg _ ht);have h0:=h t zZ;show (_++_++fd p r).length<=_;rw[zJ,zJ,zt];have:(if t.1=p then [[t.2.1,t.2.2]] else ([]:List (List Int))).length+(if t.2.1=p then [[t.1,t.2.2]] else ([]:List (List Int))).length<=1:=by split <;> split <;> simp <;> omega
  omega
noncomputable def hd (k:List Int):Int:=k.getD 0 0
end WM
namespace WM
inductive Way (ts:List T3):Int->Int->Int->Prop where
 | nil (x:Int):Way ts x x 0
 | cons {x z y l d:Int}:Adj ts x z l->Way ts z y d->Way ts x y (l+d)
variable {n x y:Int}{ts:List T3}
theorem Way.nn (g:GW n ts){d:Int}(h:Way ts x y d):0<=d:=by
 induction h with
 | nil=>exact zBE _
 | cons ha _ ih=>have:=g.adj ha;omega
variable {l:Int}
theorem Way.one (h:Adj ts x y l):Way ts x y l:=by have:=Way.cons h (.nil y);rwa [Int.add_zero] at this
theorem Way.trans {z d e:Int}(h:Way ts x y d)(h':Way ts y z e):Way ts x z (d+e):=by
 induction h with
 | nil=>rw[zAZ];exact h'
 | cons ha _ ih=>rw[Int.add_assoc];exact .cons ha (ih h')
theorem Way.symm {ts:List T3}{x y d:Int}(h:Way ts x y d):Way ts y x d:=by
 induction h with
 | nil=>exact .nil _
 | cons ha _ ih=>have:=ih.trans (.one ha.symm);rwa [Int.add_comm] at this
theorem Way.snoc {z d:Int}(h:Way ts x y d)(ha:Adj ts y z l):Way ts x z (d+l):=h.trans (.one ha)
noncomputable def IsD (ts:List T3)(x y d:Int):Prop:=Way ts x y d/\∀e,Way ts x y e->d<=e
noncomputable def Len (ts:List T3)(x y:Int):Option Int->Prop
 | some d=>IsD ts x y d
 | none=>∀d,¬ Way ts x y d
theorem IsD.uniq {d e:Int}(h:IsD ts x y d)(h':IsD ts x y e):d=e:=Int.le_antisymm (h.2 _ h'.1) (h'.2 _ h.1)
theorem Len.uniq {ts:List T3}{x y:Int}{o o':Option Int}(h:Len ts x y o)(h':Len ts x y o'):o=o':=by
 cases o with
 | none=>
  cases o' with
  | none=>rfl
  | some e=>exact absurd h'.1 (h e)
 | some d=>
  cases o' with
  | none=>exact absurd h.1 (h' d)
  | some e=>exact congrArg some (IsD.uniq h h')
theorem IsD.symm {d:Int}(h:IsD ts x y d):IsD ts y x d:=⟨h.1.symm,fun e he=>h.2 e he.symm⟩
theorem zBu (g:GW n ts)(x:Int):IsD ts x x 0:=⟨.nil x,fun _ h=>h.nn g⟩
structure Dj (ts:List T3)(s:Int)(kn wt:Int->Option Int):Prop where
 kd:∀p d,kn p=some d->IsD ts s p d
 wk:∀p d,wt p=some d->kn p=none/\Way ts s p d
 ord:∀p d q e,kn p=some d->wt q=some e->d<=e
 nb:∀p d q l,kn p=some d->Adj ts p q l->(∃e,kn q=some e)\/∃e,wt q=some e/\e<=d+l
 st:(∃d,kn s=some d)\/wt s=some 0
variable {s:Int}{kn wt:Int->Option Int}
theorem Dj.front (g:GW n ts)(h:Dj ts s kn wt){d:Int}(w:Way ts s y d):(∃e,kn y=some e)\/∃q e,wt q=some e/\e<=d:=by
 have key:∀{x y d:Int},Way ts x y d->∀dx,kn x=some dx->(∃e,kn y=some e)\/∃q e,wt q=some e/\e<=dx+d:=by
  intro x y d w
  induction w with
  | nil=>intro dx hx;exact .inl ⟨dx,hx⟩
  | cons ha w' ih=>
   intro dx hx
   rename_i x z y l d
   have hl:=g.adj ha;have hw:=w'.nn g;rcases h.nb x dx z l hx ha with ⟨e,he⟩ | ⟨e,he,hle⟩
   . have hez:e<=dx+l:=(h.kd z e he).2 _ ((h.kd x dx hx).1.snoc ha);rcases ih e he with q | ⟨q,e',hq,hle⟩
     . exact .inl q
     . exact .inr ⟨q,e',hq,by omega⟩
   . exact .inr ⟨z,e,he,by omega⟩
 rcases h.st with ⟨ds,hs⟩ | hs
 . have:ds=0:=IsD.uniq (h.kd s ds hs) (zBu g s);subst this;rcases key w 0 hs with q | ⟨q,e,a,b⟩
   . exact .inl q
   . exact .inr ⟨q,e,a,by omega⟩
 . exact .inr ⟨s,0,hs,w.nn g⟩
variable {p:Int}
theorem Dj.pick (g:GW n ts)(h:Dj ts s kn wt){d:Int}(hp:wt p=some d)(hm:∀q e,wt q=some e->d<=e):IsD ts s p d:=by
 obtain⟨hk,hw⟩:=h.wk p d hp;refine⟨hw,fun e he=>?_⟩;rcases h.front g he with ⟨e',q⟩ | ⟨q,e',hq,hle⟩
 . rw[hk] at q;cases q
 . exact Int.le_trans (hm q e' hq) hle
theorem Dj.done (g:GW n ts)(h:Dj ts s kn wt)(hw:∀q,wt q=none)(y:Int):Len ts s y (kn y):=by
 cases e:kn y with
 | some d=>exact h.kd y d e
 | none=>
  intro d w;rcases h.front g w with ⟨e',q⟩ | ⟨q,e',hq,_⟩
  . rw[e] at q;cases q
  . rw[hw] at hq;cases hq
structure Dm (ts:List T3)(s p d:Int)(kn wt:Int->Option Int)(seen:Int->Prop):Prop where
 kd:∀q e,kn q=some e->IsD ts s q e
 wk:∀q e,wt q=some e->kn q=none/\Way ts s q e
 ord:∀q e r f,kn q=some e->wt r=some f->e<=f
 nb:∀q e r l,kn q=some e->Adj ts q r l->(q=p/\¬ seen r)\/(∃f,kn r=some f)\/∃f,wt r=some f/\f<=e+l
 st:∃e,kn s=some e
 pd:kn p=some d
 mx:∀q e,kn q=some e->e<=d
theorem Dj.enter (g:GW n ts)(h:Dj ts s kn wt){d:Int}(hp:wt p=some d)(hm:∀q e,wt q=some e->d<=e):
 Dm ts s p d (fun q=>if q=p then some d else kn q) (fun q=>if q=p then none else wt q) (fun _=>False):=by
 have hd:=h.pick g hp hm;have hk:=(h.wk p d hp).1;refine⟨fun q e hq=>?_,fun q e hq=>?_,fun q e r f hq hr=>?_,fun q e r l hq ha=>?_,?_,if_pos rfl,fun q e hq=>?_⟩
 . by_cases hqp:q=p
   . rw[if_pos hqp] at hq;cases hq;rw[hqp];exact hd
   . rw[if_neg hqp] at hq;exact h.kd q e hq
 . by_cases hqp:q=p
   . rw[if_pos hqp] at hq;cases hq
   . rw[if_neg hqp] at hq ⊢;exact h.wk q e hq
 . by_cases hrp:r=p
   . rw[if_pos hrp] at hr;cases hr
   . rw[if_neg hrp] at hr;by_cases hqp:q=p
     . rw[if_pos hqp] at hq;cases hq;exact hm r f hr
     . rw[if_neg hqp] at hq;exact h.ord q e r f hq hr
 . by_cases hqp:q=p
   . exact .inl ⟨hqp,fun z=>z⟩
   . rw[if_neg hqp] at hq;by_cases hrp:r=p
     . exact .inr (.inl ⟨d,if_pos hrp⟩)
     . rcases h.nb q e r l hq ha with ⟨f,hf⟩ | ⟨f,hf,hle⟩
       . exact .inr (.inl ⟨f,by rw[if_neg hrp];exact hf⟩)
       . exact .inr (.inr ⟨f,by rw[if_neg hrp];exact hf,hle⟩)
 . by_cases hsp:s=p
   . exact⟨d,if_pos hsp⟩
   . rcases h.st with ⟨e,he⟩ | he
     . exact⟨e,by rw[if_neg hsp];exact he⟩
     . -- s waits with 0: then d is 0 too,and p is come to by a way of 0
       have h0:=hm s 0 he;have:=hd.1.nn g;have hd0:d=0:=by omega
       subst hd0;exfalso;have:∀{x y d:Int},Way ts x y d->d=0->x=y:=by
        intro x y d w;cases w with
        | nil=>intro _;rfl
        | cons ha w'=>intro e;have:=g.adj ha;have:=w'.nn g;omega
       exact hsp (this hd.1 rfl)
 . by_cases hqp:q=p
   . rw[if_pos hqp] at hq;cases hq;exact zBE _
   . rw[if_neg hqp] at hq;exact h.ord q e p d hq hp
variable {seen:Int->Prop}
theorem Dm.skip {d:Int}(h:Dm ts s p d kn wt seen){r:Int}(hr:∃f,kn r=some f):Dm ts s p d kn wt (fun x=>seen x\/x=r):=
 ⟨h.kd,h.wk,h.ord,fun q e x l hq ha=>by
  rcases h.nb q e x l hq ha with ⟨a,b⟩ | c
  . by_cases hx:x=r
    . subst hx;exact .inr (.inl hr)
    . exact .inl ⟨a,fun z=>z.elim b hx⟩
  . exact .inr c,h.st,h.pd,h.mx⟩
theorem Dm.wait (g:GW n ts){d:Int}(h:Dm ts s p d kn wt seen){r:Int}(ha:Adj ts p r l)(hr:kn r=none){f:Int}
 (hf:(wt r=none/\f=d+l)\/∃e,wt r=some e/\f=min (d+l) e):Dm ts s p d kn (fun x=>if x=r then some f else wt x) (fun x=>seen x\/x=r):=by
 have hl:=g.adj ha;have hway:Way ts s r (d+l):=(h.kd p d h.pd).1.snoc ha;have hf1:f<=d+l:=by
  rcases hf with ⟨_,e⟩ | ⟨e,_,e'⟩
  . omega
  . omega
 have hf2:Way ts s r f:=by
  rcases hf with ⟨_,rfl⟩ | ⟨e,he,rfl⟩
  . exact hway
  . by_cases hle:d+l<=e
    . rw[Int.min_eq_left hle];exact hway
    . rw[Int.min_eq_right (by omega)];exact (h.wk r e he).2
 have hf3:d<=f:=by
  rcases hf with ⟨_,rfl⟩ | ⟨e,he,rfl⟩
  . omega
  . have:=h.ord p d r e h.pd he;omega
 refine⟨h.kd,fun q e hq=>?_,fun q e x y hq hx=>?_,fun q e x k hq hax=>?_,h.st,h.pd,h.mx⟩
 . by_cases hqr:q=r
   . rw[if_pos hqr] at hq;cases hq;rw[hqr];exact⟨hr,hf2⟩
   . rw[if_neg hqr] at hq;exact h.wk q e hq
 . by_cases hxr:x=r
   . rw[if_pos hxr] at hx;cases hx;have:=h.mx q e hq;omega
   . rw[if_neg hxr] at hx;exact h.ord q e x y hq hx
 . by_cases hxr:x=r
   . subst hxr;refine .inr (.inr ⟨f,if_pos rfl,?_⟩);rcases h.nb q e x k hq hax with ⟨a,_⟩ | ⟨y,hy⟩ | ⟨y,hy,hle⟩
     . subst a;rw[h.pd] at hq;cases hq;rw[g.uniq hax ha];exact hf1
     . rw[hr] at hy;cases hy
     . rcases hf with ⟨e1,_⟩ | ⟨e1,he1,e2⟩
       . rw[e1] at hy;cases hy
       . rw[he1] at hy;cases hy;omega
   . rcases h.nb q e x k hq hax with ⟨a,b⟩ | c | ⟨y,hy,hle⟩
     . exact .inl ⟨a,fun z=>z.elim b hxr⟩
     . exact .inr (.inl c)
     . exact .inr (.inr ⟨y,by rw[if_neg hxr];exact hy,hle⟩)
theorem Dm.leave {d:Int}(h:Dm ts s p d kn wt seen)(hs:∀r l,Adj ts p r l->seen r):Dj ts s kn wt:=
 ⟨h.kd,h.wk,h.ord,fun q e r l hq ha=>by
  rcases h.nb q e r l hq ha with ⟨a,b⟩ | c
  . subst a;exact absurd (hs r l ha) b
  . exact c,.inl h.st⟩
inductive zEv (ts:List T3)(k:Int):Int->Int->Int->Prop where
 | nil (x:Int):zEv ts k x x 0
 | tie {x y l:Int}:Adj ts x y l->zEv ts k x y l
 | cons {x z y l d:Int}:Adj ts x z l->z<k->zEv ts k z y d->zEv ts k x y (l+d)
theorem zEv.way {k d:Int}(h:zEv ts k x y d):Way ts x y d:=by
 induction h with
 | nil=>exact .nil _
 | tie ha=>exact .one ha
 | cons ha _ _ ih=>exact .cons ha ih
theorem Way.toK (g:GW n ts){d:Int}(h:Way ts x y d):zEv ts n x y d:=by
 induction h with
 | nil=>exact .nil _
 | cons ha _ ih=>exact .cons ha (g.adj ha).2.2.2.1 ih
theorem zEv.split (g:GW n ts){k d:Int}(h:zEv ts (k+1) x y d):zEv ts k x y d\/∃d1 d2,zEv ts k x k d1/\zEv ts k k y d2/\d1+d2<=d:=by
 induction h with
 | nil=>exact .inl (.nil _)
 | tie ha=>exact .inl (.tie ha)
 | cons ha hz w ih=>
  rename_i x z y l d
  by_cases hk:z<k
  . rcases ih with q | ⟨d1,d2,a,b,c⟩
    . exact .inl (.cons ha hk q)
    . exact .inr ⟨l+d1,d2,.cons ha hk a,b,by omega⟩
  . have e:z=k:=by omega
    subst e;rcases ih with q | ⟨d1,d2,a,b,c⟩
    . exact .inr ⟨l,d,.tie ha,q,zBE _⟩
    . have:=a.way.nn g;exact .inr ⟨l,d2,.tie ha,b,by omega⟩
theorem zEv.zero (g:GW n ts){d:Int}(h:zEv ts 0 x y d):(x=y/\d=0)\/Adj ts x y d:=by
 cases h with
 | nil=>exact .inl ⟨rfl,rfl⟩
 | tie ha=>exact .inr ha
 | cons ha hz _=>have:=g.adj ha;omega
structure Fw (ts:List T3)(n:Int)(F:Int->Int->Option Int):Prop where
 snd:∀x y d,0<=x->x<n->0<=y->y<n->F x y=some d->Way ts x y d
noncomputable def Cov (ts:List T3)(n k:Int)(F:Int->Int->Option Int):Prop:=∀x y d,0<=x->x<n->0<=y->y<n->zEv ts k x y d->∃e,F x y=some e/\e<=d
theorem Fw.len (g:GW n ts){F:Int->Int->Option Int}(h:Fw ts n F)(c:Cov ts n n F)(hx:0<=x)(hx':x<n)(hy:0<=y)(hy':y<n):Len ts x y (F x y):=by
 cases e:F x y with
 | some d=>refine⟨h.snd x y d hx hx' hy hy' e,fun e' he=>?_⟩;obtain⟨f,hf,hle⟩:=c x y e' hx hx' hy hy' (he.toK g);rw[e] at hf;cases hf;exact hle
 | none=>intro d hd;obtain⟨f,hf,_⟩:=c x y d hx hx' hy hy' (hd.toK g);rw[e] at hf;cases hf
end WM
namespace WM
noncomputable def fnl (kn:List (Option Int))(p:Int):Option Int:=if 0<=p then kn.getD p.toNat none else none
noncomputable def cnt (kn:List (Option Int)):Nat:=(kn.filter Option.isSome).length
theorem zMq (kn:List (Option Int)):cnt kn<=kn.length:=zAX _ _
theorem zKJ {kn:List (Option Int)}{p:Int}{o:Option Int}(h0:0<=p)(h1:p.toNat<kn.length)(q:Int):fnl (kn.set p.toNat o) q=if q=p then o else fnl kn q:=by
 unfold fnl;by_cases hq:0<=q
 . rw[if_pos hq,if_pos hq,zE,zE,List.getElem?_set];by_cases e:q=p
   . subst e;simp[h1]
   . have:¬ p.toNat=q.toNat:=by omega
     rw[if_neg this,if_neg e]
 . rw[if_neg hq,if_neg (by omega),if_neg hq]
theorem zGq:∀{kn:List (Option Int)}{j:Nat}{d:Int},kn[j]?=some none->cnt (kn.set j (some d))=cnt kn+1
 | [],_,_,h=>by simp at h
 | o::r,0,d,h=>by
  have:o=none:=by simpa using h
  subst this;simp[cnt,List.set]
 | o::r,j+1,d,h=>by
  have ih:=zGq (kn:=r) (j:=j) (d:=d) (by simpa using h);unfold cnt at ih ⊢;rw[List.set_cons_succ];cases o with
  | none=>rw[zB1 (by simp),zB1 (by simp)];exact ih
  | some x=>rw[zB0 (by simp),zB0 (by simp),zt,zt,ih]
theorem zN8 (n:Nat):cnt (List.replicate n none)=0:=by unfold cnt;rw[List.filter_replicate];simp
theorem zEO (n:Nat)(q:Int):fnl (List.replicate n none) q=none:=by
 unfold fnl;split
 . rw[zE,zBT];split <;> rfl
 . rfl
structure Dl (ts:List T3)(n s:Int)(kn:List (Option Int))(wt:Int->Option Int):Prop where
 dj:Dj ts s (fnl kn) wt
 ln:kn.length=n.toNat
 bk:∀p d,fnl kn p=some d->d<=99*cnt kn
 bw:∀p e,wt p=some e->e<=99*cnt kn/\0<=p/\p<n
structure Dn (ts:List T3)(n s p d:Int)(kn:List (Option Int))(wt:Int->Option Int)(seen:Int->Prop):Prop where
 dm:Dm ts s p d (fnl kn) wt seen
 ln:kn.length=n.toNat
 bk:∀q e,fnl kn q=some e->e<=99*cnt kn
 bd:d+99<=99*cnt kn
 bw:∀q e,wt q=some e->e<=99*cnt kn/\0<=q/\q<n
theorem Dl.start {n:Int}{ts:List T3}(g:GW n ts){s:Int}(h0:0<=s)(h1:s<n):Dl ts n s (List.replicate n.toNat none) (fun q=>if q=s then some 0 else none):=by
 refine⟨⟨fun p d h=>?_,fun p d h=>?_,fun p d q e h=>?_,fun p d q l h=>?_,.inr (if_pos rfl)⟩,zAe,fun p d h=>?_,fun p e h=>?_⟩
 . rw[zEO] at h;cases h
 . by_cases e:p=s
   . rw[if_pos e] at h;cases h;rw[e];exact⟨zEO _ _,.nil s⟩
   . rw[if_neg e] at h;cases h
 . rw[zEO] at h;cases h
 . rw[zEO] at h;cases h
 . rw[zEO] at h;cases h
 . by_cases e:p=s
   . rw[if_pos e] at h;cases h;rw[e,zN8];exact⟨by simp,h0,h1⟩
   . rw[if_neg e] at h;cases h
theorem Dl.enter {n:Int}{ts:List T3}(g:GW n ts){s:Int}{kn:List (Option Int)}{wt:Int->Option Int}(h:Dl ts n s kn wt){p d:Int}(hp:wt p=some d)(hm:∀q e,wt q=some e->d<=e):
 kn[p.toNat]?=some none/\0<=p/\p<n/\cnt (kn.set p.toNat (some d))=cnt kn+1/\Dn ts n s p d (kn.set p.toNat (some d)) (fun q=>if q=p then none else wt q) (fun _=>False):=by
 obtain⟨hb,h0,h1⟩:=h.bw p d hp;have hl:=h.ln;have hlt:p.toNat<kn.length:=by omega
 have hk:=(h.dj.wk p d hp).1;have hn:kn[p.toNat]?=some none:=by unfold fnl at hk;rw[if_pos h0,zE,zA hlt] at hk;rw[zA hlt];exact congrArg some hk
 have hc:=zGq (d:=d) hn;have ef:fnl (kn.set p.toNat (some d))=fun q=>if q=p then some d else fnl kn q:=funext fun q=>zKJ h0 hlt q
 refine⟨hn,h0,h1,hc,⟨?_,by rw[zAL];exact hl,fun q e hq=>?_,by rw[hc];omega,fun q e hq=>?_⟩⟩
 . rw[ef];exact h.dj.enter g hp hm
 . rw[ef] at hq;simp only at hq;rw[hc];by_cases e':q=p
   . rw[if_pos e'] at hq;cases hq;omega
   . rw[if_neg e'] at hq;have:=h.bk q e hq;omega
 . by_cases e':q=p
   . rw[if_pos e'] at hq;cases hq
   . rw[if_neg e'] at hq;have:=h.bw q e hq;rw[hc];exact⟨by omega,this.2⟩
theorem Dn.skip {n:Int}{ts:List T3}{s p d:Int}{kn:List (Option Int)}{wt:Int->Option Int}{seen:Int->Prop}(h:Dn ts n s p d kn wt seen){r f:Int}(hr:fnl kn r=some f):Dn ts n s p d kn wt (fun x=>seen x\/x=r):=
 ⟨h.dm.skip ⟨f,hr⟩,h.ln,h.bk,h.bd,h.bw⟩
theorem Dn.wait {n:Int}{ts:List T3}(g:GW n ts){s p d:Int}{kn:List (Option Int)}{wt:Int->Option Int}{seen:Int->Prop}(h:Dn ts n s p d kn wt seen){r l:Int}(ha:Adj ts p r l)(hr:fnl kn r=none):
 Dn ts n s p d kn (fun x=>if x=r then some (if (wt r).getD (d+l)<d+l then (wt r).getD (d+l) else d+l) else wt x) (fun x=>seen x\/x=r):=by
 have hl:=g.adj ha;have hf:(wt r=none/\(if (wt r).getD (d+l)<d+l then (wt r).getD (d+l) else d+l)=d+l)\/∃e,wt r=some e/\(if (wt r).getD (d+l)<d+l then (wt r).getD (d+l) else d+l)=min (d+l) e:=by
  cases e:wt r with
  | none=>exact .inl ⟨rfl,by simp⟩
  | some x=>refine .inr ⟨x,rfl,?_⟩;simp only[Option.getD_some];split <;> omega
 refine⟨h.dm.wait g ha hr hf,h.ln,h.bk,h.bd,fun q e hq=>?_⟩;by_cases e':q=r
 . rw[if_pos e'] at hq;have hd:=h.bd;have e2:=zT hq;refine⟨?_,by omega,by omega⟩;split at e2 <;> omega
 . rw[if_neg e'] at hq;exact h.bw q e hq
theorem Dn.leave {n:Int}{ts:List T3}{s p d:Int}{kn:List (Option Int)}{wt:Int->Option Int}{seen:Int->Prop}(h:Dn ts n s p d kn wt seen)(hs:∀r l,Adj ts p r l->seen r):Dl ts n s kn wt:=
 ⟨h.dm.leave hs,h.ln,h.bk,h.bw⟩
structure Lens (ts:List T3)(n s:Int)(kn:List (Option Int)):Prop where
 ln:kn.length=n.toNat
 len:∀y,0<=y->y<n->Len ts s y (fnl kn y)
 bd:∀o∈kn,∀d,o=some d->0<=d/\d<=2376
theorem Dl.done {n:Int}{ts:List T3}(g:GW n ts){s:Int}{kn:List (Option Int)}{wt:Int->Option Int}(h:Dl ts n s kn wt)(hw:∀q,wt q=none):Lens ts n s kn:=by
 refine⟨h.ln,fun y _ _=>h.dj.done g hw y,fun o ho d e=>?_⟩;obtain⟨j,hj,ej⟩:=zj ho;have hf:fnl kn (j:Int)=some d:=by unfold fnl;rw[if_pos (by omega),zE,zAu,zA hj,ej,e];rfl
 have h1:=h.bk _ _ hf;have h2:=(h.dj.kd _ _ hf).1.nn g;have h3:=zMq kn;have:=h.ln;have:=g.n24;omega
end WM
namespace WM
noncomputable def oadd:Option Int->Option Int->Option Int
 | some a,some b=>some (a+b)
 | _,_=>none
noncomputable def oles:Option Int->Option Int->Option Int
 | none,o=>o
 | some a,none=>some a
 | some a,some b=>some (if b<a then b else a)
variable {ts:List T3}
theorem zEv.mono {k k' x y d:Int}(h:zEv ts k x y d)(hk:k<=k'):zEv ts k' x y d:=by
 induction h with
 | nil=>exact .nil _
 | tie ha=>exact .tie ha
 | cons ha hz _ ih=>exact .cons ha (by omega) ih
structure Fm (ts:List T3)(n k:Int)(F:Int->Int->Option Int)(done:Int->Int->Prop):Prop where
 fw:Fw ts n F
 cv:Cov ts n k F
 dn:∀x y d,0<=x->x<n->0<=y->y<n->done x y->zEv ts (k+1) x y d->∃e,F x y=some e/\e<=d
variable {o p:Option Int}
theorem zNY {d:Int}(h:(∃e,o=some e/\e<=d)\/∃e,p=some e/\e<=d):∃e,oles o p=some e/\e<=d:=by
 rcases h with ⟨e,rfl,h⟩ | ⟨e,rfl,h⟩
 . cases p with
   | none=>exact⟨e,rfl,h⟩
   | some b=>exact⟨_,rfl,by split <;> omega⟩
 . cases o with
   | none=>exact⟨e,rfl,h⟩
   | some a=>exact⟨_,rfl,by split <;> omega⟩
theorem zNX {d:Int}(h:oles o p=some d):o=some d\/p=some d:=by
 cases o with
 | none=>exact .inr h
 | some a=>
  cases p with
  | none=>exact .inl h
  | some b=>
   have e:(if b<a then b else a)=d:=zT h
   split at e
   . exact .inr (by rw[e])
   . exact .inl (by rw[e])
theorem zF5 {d:Int}(h:oadd o p=some d):∃a b,o=some a/\p=some b/\a+b=d:=by
 cases o with
 | none=>cases h
 | some a=>
  cases p with
  | none=>cases h
  | some b=>exact⟨a,b,rfl,rfl,zT h⟩
variable {n a b:Int}{F:Int->Int->Option Int}
theorem Fm.step (g:GW n ts){k:Int}{done:Int->Int->Prop}(h:Fm ts n k F done)(ha:0<=a)(ha':a<n)(hb:0<=b)(hb':b<n)(hk:0<=k)(hk':k<n):
 Fm ts n k (fun x y=>if x=a/\y=b then oles (F a b) (oadd (F a k) (F k b)) else F x y) (fun x y=>done x y\/(x=a/\y=b)):=by
 have snd:∀d,oles (F a b) (oadd (F a k) (F k b))=some d->Way ts a b d:=fun d hd=>by
  rcases zNX hd with e | e
  . exact h.fw.snd a b d ha ha' hb hb' e
  . obtain⟨d1,d2,e1,e2,rfl⟩:=zF5 e;exact (h.fw.snd a k d1 ha ha' hk hk' e1).trans (h.fw.snd k b d2 hk hk' hb hb' e2)
 have cov1:∀d,zEv ts (k+1) a b d->∃e,oles (F a b) (oadd (F a k) (F k b))=some e/\e<=d:=fun d w=>by
  refine zNY ?_;rcases w.split g with q | ⟨d1,d2,q1,q2,hle⟩
  . exact .inl (h.cv a b d ha ha' hb hb' q)
  . obtain⟨e1,f1,l1⟩:=h.cv a k d1 ha ha' hk hk' q1;obtain⟨e2,f2,l2⟩:=h.cv k b d2 hk hk' hb hb' q2;exact .inr ⟨e1+e2,by rw[f1,f2];rfl,by omega⟩
 refine⟨⟨fun x y d hx hx' hy hy' e=>?_⟩,fun x y d hx hx' hy hy' w=>?_,fun x y d hx hx' hy hy' hd w=>?_⟩
 . by_cases c:x=a/\y=b
   . rw[if_pos c] at e;rw[c.1,c.2];exact snd d e
   . rw[if_neg c] at e;exact h.fw.snd x y d hx hx' hy hy' e
 . by_cases c:x=a/\y=b
   . rw[if_pos c];rw[c.1,c.2] at w;exact cov1 d (w.mono (by omega))
   . rw[if_neg c];exact h.cv x y d hx hx' hy hy' w
 . by_cases c:x=a/\y=b
   . rw[if_pos c];rw[c.1,c.2] at w;exact cov1 d w
   . rw[if_neg c];exact h.dn x y d hx hx' hy hy' (hd.resolve_right c) w
theorem Fm.enter {k:Int}(h:Fw ts n F)(c:Cov ts n k F):Fm ts n k F (fun _ _=>False):=⟨h,c,fun _ _ _ _ _ _ _ z=>z.elim⟩
theorem Fm.leave {k:Int}{done:Int->Int->Prop}(h:Fm ts n k F done)(hd:∀x y,0<=x->x<n->0<=y->y<n->done x y):Fw ts n F/\Cov ts n (k+1) F:=
 ⟨h.fw,fun x y d hx hx' hy hy' w=>h.dn x y d hx hx' hy hy' (hd x y hx hx' hy hy') w⟩
noncomputable def Ft (ts:List T3)(n:Int)(F:Int->Int->Option Int):Prop:=∀x y d,0<=x->x<n->0<=y->y<n->(F x y=some d↔(x=y/\d=0)\/Adj ts x y d)
theorem Ft.fw (g:GW n ts)(h:Ft ts n F):Fw ts n F/\Cov ts n 0 F:=by
 refine⟨⟨fun x y d hx hx' hy hy' e=>?_⟩,fun x y d hx hx' hy hy' w=>?_⟩
 . rcases (h x y d hx hx' hy hy').mp e with ⟨rfl,rfl⟩ | ha
   . exact .nil x
   . exact .one ha
 . refine⟨d,(h x y d hx hx' hy hy').mpr ?_,zBE _⟩;rcases w.zero g with q | q
   . exact .inl q
   . exact .inr q
theorem Ft.nil (n:Int)(h:∀x y,0<=x->x<n->0<=y->y<n->F x y=if x=y then some 0 else none):Ft [] n F:=fun x y d hx hx' hy hy'=>by
 rw[h x y hx hx' hy hy'];constructor
 . intro e;split at e
   . rename_i c;exact .inl ⟨c,(zT e).symm⟩
   . cases e
 . rintro (⟨rfl,rfl⟩ | ha)
   . rw[if_pos rfl]
   . rcases ha with z | z <;> simp at z
theorem Ft.put {pre post:List T3}{l:Int}(g:GW n (pre++(a,b,l)::post))(h:Ft pre n F):
 Ft (pre++[(a,b,l)]) n (fun x y=>if x=b/\y=a then some l else if x=a/\y=b then some l else F x y):=fun x y d hx hx' hy hy'=>by
 have hr:=g.rng (a,b,l) (by simp);simp only at hr;have sub:∀{x y d:Int},Adj pre x y d->Adj (pre++(a,b,l)::post) x y d:=fun z=>z.elim (fun z=>.inl (zw _ z)) fun z=>.inr (zw _ z);have own:Adj (pre++(a,b,l)::post) a b l:=.inl (by simp);have hadj:Adj (pre++[(a,b,l)]) x y d↔Adj pre x y d\/(x=a/\y=b/\d=l)\/(x=b/\y=a/\d=l):=by
  unfold Adj;simp only[zm,zd,Prod.mk.injEq];constructor
  . rintro ((z | z) | (z | z))
    . exact .inl (.inl z)
    . exact .inr (.inl z)
    . exact .inl (.inr z)
    . exact .inr (.inr ⟨z.2.1,z.1,z.2.2⟩)
  . rintro ((z | z) | z | z)
    . exact .inl (.inl z)
    . exact .inr (.inl z)
    . exact .inl (.inr z)
    . exact .inr (.inr ⟨z.2.1,z.1,z.2.2⟩)
 rw[hadj];show (if x=b/\y=a then some l else if x=a/\y=b then some l else F x y)=some d↔_
 by_cases c1:x=b/\y=a
 . rw[if_pos c1];constructor
   . intro e;exact .inr (.inr (.inr ⟨c1.1,c1.2,(zT e).symm⟩))
   . rintro (⟨e,_⟩ | z | ⟨e1,e2,e3⟩ | ⟨_,_,e3⟩)
     . omega
     . have z':=sub z;rw[c1.1,c1.2] at z';rw[g.uniq z' own.symm]
     . rw[e3]
     . rw[e3]
 . rw[if_neg c1];by_cases c2:x=a/\y=b
   . rw[if_pos c2];constructor
     . intro e;exact .inr (.inr (.inl ⟨c2.1,c2.2,(zT e).symm⟩))
     . rintro (⟨e,_⟩ | z | ⟨e1,e2,e3⟩ | ⟨_,_,e3⟩)
       . omega
       . have z':=sub z;rw[c2.1,c2.2] at z';rw[g.uniq z' own]
       . rw[e3]
       . rw[e3]
   . rw[if_neg c2,h x y d hx hx' hy hy'];constructor
     . rintro (z | z)
       . exact .inl z
       . exact .inr (.inl z)
     . rintro (z | z | z | z)
       . exact .inl z
       . exact .inr z
       . exact absurd ⟨z.1,z.2.1⟩ c2
       . exact absurd ⟨z.1,z.2.1⟩ c1
noncomputable def mat (M:lLO)(x y:Int):Option Int:=if 0<=x then fnl (M.getD x.toNat []) y else none
noncomputable def zIW (M:lLO)(a b:Int)(v:Option Int):List (List (Option Int)):=M.set a.toNat ((M.getD a.toNat []).set b.toNat v)
structure Sqm (n:Int)(M:lLO):Prop where
 ln:M.length=n.toNat
 rw_:∀r∈M,r.length=n.toNat
theorem Sqm.row {M:lLO}(h:Sqm n M)(ha:0<=a)(ha':a<n):∃r,M[a.toNat]?=some r/\M.getD a.toNat []=r/\r.length=n.toNat:=by
 have hl:=h.ln;have hlt:a.toNat<M.length:=by omega
 exact⟨M[a.toNat],zA hlt,by rw[zE,zA hlt];rfl,h.rw_ _ (zBA hlt)⟩
theorem Sqm.set {M:lLO}(h:Sqm n M){v:Option Int}(ha:0<=a)(ha':a<n):Sqm n (zIW M a b v):=by
 obtain⟨r,h1,h2,h3⟩:=h.row ha ha';refine⟨by unfold zIW;rw[zAL];exact h.ln,fun q hq=>?_⟩;unfold zIW at hq;rcases List.mem_or_eq_of_mem_set hq with z | z
 . exact h.rw_ q z
 . rw[z,zAL,h2,h3]
theorem zGk {M:lLO}(h:Sqm n M){v:Option Int}(ha:0<=a)(ha':a<n)(hb:0<=b)(hb':b<n){x y:Int}(hx:0<=x)(hx':x<n):
 mat (zIW M a b v) x y=if x=a/\y=b then v else mat M x y:=by
 obtain⟨r,h1,h2,h3⟩:=h.row ha ha';have hl:=h.ln;unfold mat zIW;rw[if_pos hx,if_pos hx,zE,List.getElem?_set];by_cases e:x=a
 . subst e;rw[if_pos rfl,if_pos (by omega),Option.getD_some,h2,zKJ hb (by omega)];by_cases e2:y=b
   . rw[if_pos e2,if_pos ⟨rfl,e2⟩]
   . rw[if_neg e2,if_neg fun z=>e2 z.2]
 . rw[if_neg (by omega),if_neg fun z=>e z.1,<-zE]
theorem Fm.congr {k:Int}{G:Int->Int->Option Int}{done done':Int->Int->Prop}(h:Fm ts n k F done)(e:∀x y,0<=x->x<n->0<=y->y<n->G x y=F x y)(hd:∀x y,0<=x->x<n->0<=y->y<n->done' x y->done x y):Fm ts n k G done':=
 ⟨⟨fun x y d a b c d' z=>h.fw.snd x y d a b c d' (by rw[<-e x y a b c d'];exact z)⟩,fun x y d a b c d' w=>by rw[e x y a b c d'];exact h.cv x y d a b c d' w,fun x y d a b c d' z w=>by rw[e x y a b c d'];exact h.dn x y d a b c d' (hd x y a b c d' z) w⟩
theorem Ft.congr {G:Int->Int->Option Int}(h:Ft ts n F)(e:∀x y,0<=x->x<n->0<=y->y<n->G x y=F x y):Ft ts n G:=fun x y d a b c d'=>by rw[e x y a b c d'];exact h x y d a b c d'
noncomputable def Rows (ts:List T3)(n:Int)(M:lLO):Prop:=M.length=n.toNat/\∀x,0<=x->x<n->Lens ts n x (M.getD x.toNat [])
theorem zFO (g:GW n ts)(x y:Int)(hx:0<=x)(hx':x<n)(d:Int)(h:IsD ts x y d):0<=d/\d<=2376:=by
 have ex:∀(m:Nat)(kn:List (Option Int))(wt:Int->Option Int),Dl ts n x kn wt->n.toNat-cnt kn<=m->(∃L:List Int,∀q e,wt q=some e->q∈L)->∃kn',Lens ts n x kn':=by
  intro m
  induction m with
  | zero=>
   intro kn wt D hm _;refine⟨kn,D.done g fun q=>?_⟩;cases e:wt q with
   | none=>rfl
   | some d=>
    have hk:=(D.dj.wk q d e).1;obtain⟨_,h0,h1⟩:=D.bw q d e;have hl:=D.ln;have hlt:q.toNat<kn.length:=by omega
    have hn:kn[q.toNat]?=some none:=by unfold fnl at hk;rw[if_pos h0,zE,zA hlt] at hk;rw[zA hlt];exact congrArg some hk
    have h1:=zGq (d:=0) hn;have h2:=zMq (kn.set q.toNat (some 0));rw[zAL] at h2;omega
  | succ m ih=>
   intro kn wt D hm hL;by_cases hw:∀q,wt q=none
   . exact⟨kn,D.done g hw⟩
   . -- pick the nearest
     obtain⟨L,hL⟩:=hL;have pick:∀L:List Int,(∃q∈L,(wt q).isSome)->∃p d,wt p=some d/\∀q∈L,∀e,wt q=some e->d<=e:=by
      intro L
      induction L with
      | nil=>rintro ⟨q,hq,_⟩;simp at hq
      | cons z L ihL=>
       rintro ⟨q,hq,hs⟩;by_cases hr:∃q∈L,(wt q).isSome
       . obtain⟨p,d,hp,hmin⟩:=ihL hr;cases ez:wt z with
         | none=>
          refine⟨p,d,hp,fun q' hq' e he=>?_⟩;rcases ze.mp hq' with rfl | hq'
          . rw[ez] at he;cases he
          . exact hmin q' hq' e he
         | some dz=>
          by_cases hz:dz<d
          . refine⟨z,dz,ez,fun q' hq' e he=>?_⟩;rcases ze.mp hq' with rfl | hq'
            . rw[ez] at he;cases he;exact zBE _
            . have:=hmin q' hq' e he;omega
          . refine⟨p,d,hp,fun q' hq' e he=>?_⟩;rcases ze.mp hq' with rfl | hq'
            . rw[ez] at he;cases he;omega
            . exact hmin q' hq' e he
       . rcases ze.mp hq with rfl | hq
         . obtain⟨d,hd⟩:=zBK.mp hs;refine⟨q,d,hd,fun q' hq' e he=>?_⟩;rcases ze.mp hq' with rfl | hq'
           . rw[hd] at he;cases he;exact zBE _
           . exact absurd ⟨q',hq',by rw[he];rfl⟩ hr
         . exact absurd ⟨q,hq,hs⟩ hr
     obtain⟨p,d,hp,hmin⟩:=pick L (by
      apply zBj;intro hno;refine hw fun q=>?_;cases e:wt q with
      | none=>rfl
      | some d=>exact absurd ⟨q,hL q d e,by rw[e];rfl⟩ hno)
     obtain⟨hn,h0,h1,hc,N⟩:=D.enter g hp (fun q e he=>hmin q (hL q e he) e he);have all:∀(ns:List (Int×Int))(wt':Int->Option Int)(seen:Int->Prop),Dn ts n x p d (kn.set p.toNat (some d)) wt' seen->(∃L:List Int,∀q e,wt' q=some e->q∈L)->(∀r l,(r,l)∈ns->Adj ts p r l) ->
      ∃(wt'':Int->Option Int)(seen':Int->Prop),Dn ts n x p d (kn.set p.toNat (some d)) wt'' seen'/\(∃L:List Int,∀q e,wt'' q=some e->q∈L)/\(∀r,seen r->seen' r)/\∀r l,(r,l)∈ns->seen' r:=by
      intro ns
      induction ns with
      | nil=>intro wt' seen N hL _;exact⟨wt',seen,N,hL,fun _ z=>z,fun r l z=>by simp at z⟩
      | cons t ns ih'=>
       intro wt' seen N hL' ha;obtain⟨r,l⟩:=t;have har:=ha r l zZ;have ha':∀r l,(r,l)∈ns->Adj ts p r l:=fun r l z=>ha r l (zg _ z);cases ek:fnl (kn.set p.toNat (some d)) r with
       | some f=>
        obtain⟨w2,s2,N2,L2,m2,a2⟩:=ih' wt' _ (N.skip ek) hL' ha';refine⟨w2,s2,N2,L2,fun q z=>m2 q (.inl z),fun q l' z=>?_⟩;rcases ze.mp z with e | z
        . cases e;exact m2 _ (.inr rfl)
        . exact a2 q l' z
       | none=>
        obtain⟨L',hL'⟩:=hL';obtain⟨w2,s2,N2,L2,m2,a2⟩:=ih' _ _ (N.wait g har ek) ⟨r::L',fun q e he=>by
         by_cases e':q=r
         . rw[e'];exact zZ
         . rw[if_neg e'] at he;exact zg _ (hL' q e he)⟩ ha'
        refine⟨w2,s2,N2,L2,fun q z=>m2 q (.inl z),fun q l' z=>?_⟩;rcases ze.mp z with e | z
        . cases e;exact m2 _ (.inr rfl)
        . exact a2 q l' z
     have nbr:∃ns:List (Int×Int),(∀r l,(r,l)∈ns->Adj ts p r l)/\∀r l,Adj ts p r l->(r,l)∈ns:=by
      refine⟨(ts.filterMap fun t=>if t.1=p then some (t.2.1,t.2.2) else none)++(ts.filterMap fun t=>if t.2.1=p then some (t.1,t.2.2) else none),fun r l z=>?_,fun r l z=>?_⟩
      . rcases zm.mp z with z | z
        . obtain⟨⟨a,b,c⟩,ht,e⟩:=zBM.mp z;split at e
          . rename_i c1
            have c1':a=p:=c1;have e':=zT e;simp only[Prod.mk.injEq] at e';obtain⟨rfl,rfl⟩:=e';subst c1';exact .inl ht
          . cases e
        . obtain⟨⟨a,b,c⟩,ht,e⟩:=zBM.mp z;split at e
          . rename_i c1
            have c1':b=p:=c1;have e':=zT e;simp only[Prod.mk.injEq] at e';obtain⟨rfl,rfl⟩:=e';subst c1';exact .inr ht
          . cases e
      . rcases z with z | z
        . exact zw _ (zBM.mpr ⟨_,z,by simp⟩)
        . exact zi _ (zBM.mpr ⟨_,z,by simp⟩)
     obtain⟨ns,hns1,hns2⟩:=nbr;obtain⟨w2,s2,N2,L2,_,a2⟩:=all ns _ _ N ⟨L,fun q e he=>by
      by_cases e':q=p
      . rw[if_pos e'] at he;cases he
      . rw[if_neg e'] at he;exact hL q e he⟩ hns1
     exact ih _ _ (N2.leave fun r l ha=>a2 r l (hns2 r l ha)) (by omega) L2
 obtain⟨kn,K⟩:=ex n.toNat _ _ (Dl.start g hx hx') (by omega) ⟨[x],fun q e he=>by
  by_cases e':q=x
  . simp[e']
  . rw[if_neg e'] at he;cases he⟩
 have hy:(0<=y/\y<n)\/y=x:=by
  have:∀{x y d:Int},Way ts x y d->x=y\/(0<=y/\y<n):=by
   intro x y d w
   induction w with
   | nil=>exact .inl rfl
   | cons ha _ ih=>
    rcases ih with rfl | q
    . have:=g.adj ha;exact .inr ⟨this.2.2.1,this.2.2.2.1⟩
    . exact .inr q
  rcases this h.1 with e | q
  . exact .inr e.symm
  . exact .inl q
 have hy':0<=y/\y<n:=hy.elim id fun e=>by omega
 have hl:=K.len y hy'.1 hy'.2;have hlen:=K.ln;have hlt:y.toNat<kn.length:=by omega
 have e1:fnl kn y=kn[y.toNat]:=by unfold fnl;rw[if_pos hy'.1,zE,zA hlt];rfl
 have e2:=Len.uniq hl (show Len ts x y (some d) from h);exact K.bd _ (zBA hlt) d (by rw[<-e1];exact e2)
theorem zNI (g:GW n ts){M:lLO}(h:Sqm n M)(f:Fw ts n (mat M))(c:Cov ts n n (mat M)):Rows ts n M:=by
 refine⟨h.ln,fun x hx hx'=>?_⟩;obtain⟨r,h1,h2,h3⟩:=h.row hx hx';have e:∀y,mat M x y=fnl r y:=fun y=>by unfold mat;rw[if_pos hx,h2]
 rw[h2];refine⟨h3,fun y hy hy'=>by rw[<-e];exact f.len g c hx hx' hy hy',fun o ho d ed=>?_⟩;obtain⟨j,hj,ej⟩:=zj ho;have hf:fnl r (j:Int)=some d:=by unfold fnl;rw[if_pos (by omega),zE,zAu,zA hj,ej,ed];rfl
 have hl:=f.len g c hx hx' (y:=(j:Int)) (by omega) (by omega);rw[e,hf] at hl;exact zFO g x j hx hx' d hl
end WM
namespace WM
noncomputable def Btw (ts:List T3)(x y p:Int):Prop:=∃a b,IsD ts x p a/\IsD ts p y b/\IsD ts x y (a+b)
noncomputable def Nxt (ts:List T3)(x y p:Int):Prop:=∃l b,Adj ts x p l/\IsD ts p y b/\IsD ts x y (l+b)
theorem Btw.symm {ts:List T3}{x y p:Int}(h:Btw ts x y p):Btw ts y x p:=by obtain⟨a,b,h1,h2,h3⟩:=h;exact⟨b,a,h2.symm,h1.symm,by rw[Int.add_comm];exact h3.symm⟩
variable {n x y:Int}{ts:List T3}
theorem Way.zero (g:GW n ts)(h:Way ts x y 0):x=y:=by
 have:∀{x y d:Int},Way ts x y d->d=0->x=y:=by
  intro x y d w;cases w with
  | nil=>intro _;rfl
  | cons ha w'=>intro e;have:=g.adj ha;have:=w'.nn g;omega
 exact this h rfl
theorem Way.in_ (g:GW n ts){d:Int}(w:Way ts x y d)(hx:0<=x)(hx':x<n):0<=y/\y<n:=by
 induction w with
 | nil=>exact⟨hx,hx'⟩
 | cons ha _ ih=>have:=g.adj ha;exact ih this.2.2.1 this.2.2.2.1
theorem Btw.self (g:GW n ts){d:Int}(h:IsD ts x y d):Btw ts x y x:=⟨0,d,zBu g x,h,by rw[zAZ];exact h⟩
theorem zCH (g:GW n ts){d:Int}(h:IsD ts x y d):d=0↔x=y:=by
 constructor
 . intro e;subst e;exact h.1.zero g
 . intro e;subst e;exact IsD.uniq h (zBu g x)
theorem Btw.trans {ts:List T3}{x y p q:Int}(h:Btw ts x y p)(h':Btw ts x p q):Btw ts x y q:=by
 obtain⟨a,b,h1,h2,h3⟩:=h;obtain⟨c,e,k1,k2,k3⟩:=h';have e1:a=c+e:=IsD.uniq h1 k3;refine⟨c,e+b,k1,⟨k2.1.trans h2.1,fun f hf=>?_⟩,?_⟩
 . have:=h3.2 _ (k1.1.trans hf);omega
 . rw[e1,Int.add_assoc] at h3;exact h3
theorem Way.least (g:GW n ts){d:Int}(h:Way ts x y d):∃e,IsD ts x y e:=by
 have:∀(m:Nat)(d:Int),Way ts x y d->d.toNat<=m->∃e,IsD ts x y e:=by
  intro m
  induction m with
  | zero=>
   intro d hd hm;have:=hd.nn g;have e:d=0:=by omega
   subst e;exact⟨0,hd,fun f hf=>hf.nn g⟩
  | succ m ih=>
   intro d hd hm;by_cases hl:∃f,Way ts x y f/\f<d
   . obtain⟨f,hf,hlt⟩:=hl;have:=hf.nn g;exact ih f hf (by omega)
   . refine⟨d,hd,fun f hf=>?_⟩;apply zBj;intro hn;exact hl ⟨f,hf,by omega⟩
 exact this _ d h (zK _)
theorem Nxt.exists (g:GW n ts){d:Int}(h:IsD ts x y d)(hne:x≠y):∃p,Nxt ts x y p:=by
 obtain⟨hw,hmin⟩:=h;cases hw with
 | nil=>exact absurd rfl hne
 | cons ha w=>
  rename_i z l e
  obtain⟨f,hf⟩:=w.least g;have h1:=hf.2 _ w;have h2:=hmin _ (.cons ha hf.1);have:f=e:=by omega
  subst this;exact⟨z,l,f,ha,hf,.cons ha hf.1,hmin⟩
theorem Nxt.ne (g:GW n ts){p:Int}(h:Nxt ts x y p):x≠y:=by obtain⟨l,b,ha,hb,hd⟩:=h;intro e;subst e;have:=IsD.uniq hd (zBu g x);have:=g.adj ha;have:=hb.1.nn g;omega
theorem Nxt.btw (g:GW n ts){p q:Int}(h:Btw ts x y p)(h':Nxt ts p y q):Btw ts x y q:=by
 obtain⟨a,b,h1,h2,h3⟩:=h;obtain⟨l,c,ha,hc,hd⟩:=h';have e1:b=l+c:=IsD.uniq h2 hd;refine⟨a+l,c,⟨h1.1.snoc ha,fun f hf=>?_⟩,hc,?_⟩
 . have:=h3.2 _ (hf.trans hc.1);omega
 . rw[e1,<-Int.add_assoc] at h3;exact h3
inductive zGu (ts:List T3):List Int->Int->Prop where
 | one (x:Int):zGu ts [x] 0
 | snoc {ps:List Int}{x y s l:Int}:zGu ts (ps++[x]) s->Adj ts x y l->zGu ts (ps++[x]++[y]) (s+l)
theorem zGu.longs {ps:List Int}{s:Int}(h:zGu ts ps s):∃ls:List Int,ls.length+1=ps.length/\ls.sum=s/\∀(q:Nat)(x y:Int),ps[q]?=some x->ps[q+1]?=some y->∃l,ls[q]?=some l/\Adj ts x y l:=by
 induction h with
 | one x=>exact⟨[],rfl,rfl,fun q a b _ h=>by simp at h⟩
 | snoc _ ha ih=>
  rename_i ps x y s l hs
  obtain⟨ls,h1,h2,h3⟩:=ih;have hl:ls.length=ps.length:=by simpa using h1
  refine⟨ls++[l],by simp[hl],by rw[List.sum_append,h2];simp,fun q a b ha' hb'=>?_⟩;by_cases hq:q+1<(ps++[x]).length
  . rw[zP (by omega)] at ha';rw[zP hq] at hb';obtain⟨l',e1,e2⟩:=h3 q a b ha' hb';have hlt:q<ls.length:=(zF.mp e1).1;exact⟨l',by rw[zP hlt];exact e1,e2⟩
  . have hq2:q+1<(ps++[x]++[y]).length:=(zF.mp hb').1;simp only[zJ,zt,List.length_nil] at hq hq2;have e:q=ps.length:=by omega
    subst e;have e1:a=x:=by rw[zP (by simp),zO (zK _)] at ha';simpa using ha'.symm
    have e2:b=y:=by rw[zO (by simp)] at hb';simpa using hb'.symm
    subst e1 e2;exact⟨l,by rw[zO (by omega)];simp[hl],ha⟩
end WM
namespace WM
structure Led (ts:List T3)(n x y D:Int)(found:List Int)(s z r:Int):Prop where
 st:zGu ts found s
 ls:∃pre,found=pre++[z]
 rm:IsD ts z y r
 sm:s+r=D
 bt:Btw ts x y z
 nd:found.Nodup
 fa:∀f∈found,0<=f/\f<n/\∃rf,IsD ts f y rf/\r<=rf
variable {n x y D:Int}{ts:List T3}
theorem Led.start (g:GW n ts)(hx:0<=x)(hx':x<n)(h:IsD ts x y D):Led ts n x y D [x] 0 x D:=
 ⟨.one x,⟨[],rfl⟩,h,by omega,Btw.self g h,by simp,fun f hf=>by rw[zd.mp hf];exact⟨hx,hx',D,h,zBE _⟩⟩
variable {found:List Int}{s z r:Int}
theorem Led.step (g:GW n ts){p:Int}(h:Led ts n x y D found s z r)(hp:Nxt ts z y p):∃s' r',Led ts n x y D (found++[p]) s' p r':=by
 obtain⟨l,b,ha,hb,hd⟩:=id hp;have e:r=l+b:=IsD.uniq h.rm hd;have hadj:=g.adj ha;obtain⟨pre,hpre⟩:=h.ls;refine⟨s+l,b,?_,⟨found,rfl⟩,hb,by have:=h.sm;omega,Nxt.btw g h.bt hp,?_,fun f hf=>?_⟩
 . have:=h.st;rw[hpre] at this ⊢;exact .snoc this ha
 . rw[zBq];refine⟨h.nd,by simp,fun a ha' b' hb'=>?_⟩;rw[zd.mp hb'];intro e2;subst e2;obtain⟨_,_,rf,h1,h2⟩:=h.fa a ha';have:=IsD.uniq h1 hb;omega
 . rcases zm.mp hf with q | q
   . obtain⟨a,b',rf,h1,h2⟩:=h.fa f q;exact⟨a,b',rf,h1,by omega⟩
   . rw[zd.mp q];exact⟨hadj.2.2.1,hadj.2.2.2.1,b,hb,zBE _⟩
theorem Led.len (h:Led ts n x y D found s z r)(hn:0<=n):(found.length:Int)<=n:=by
 have:=zEB (n:=n.toNat) h.nd fun f hf=>by obtain⟨a,b,_⟩:=h.fa f hf;omega
 omega
theorem Led.in_ (h:Led ts n x y D found s z r):0<=z/\z<n:=by obtain⟨pre,e⟩:=h.ls;obtain⟨a,b,_⟩:=h.fa z (by rw[e];simp);exact⟨a,b⟩
end WM
namespace L2
open PySem PySem.Spec PyProof.Rows
noncomputable def zNt:KeyOrd:=⟨Int,fun a b=>decide (a<b),fun a=>zc (by omega),fun a b c h1 h2=>zS (by have:=of_decide_eq_true h1;have:=of_decide_eq_true h2;omega),
 fun a b c h=>by
  have h':a<c:=of_decide_eq_true h;by_cases hab:a<b
  . exact .inl (zS hab)
  . exact .inr (zS (by omega)),
 fun a b h1 h2=>by have:=of_decide_eq_false h1;have:=of_decide_eq_false h2;omega⟩
variable {s:Shared}
theorem zGX {prog:Program}{w:World}{A:Around}{a:Addr}{vs:List Value}{ns:List Int}(hI:IntsAre vs ns)(h2:2<=vs.length):
 SortT.Asks prog w A s a vs (O:=zNt) (fun i=>ns.getD i 0) oneType':=by
 have hl:=hI.length;have at_:∀i,i<vs.length->∃t,vs.getD i Value.none=.int (ns.getD i 0) t:=fun i hi=>by obtain⟨n,hn⟩:∃n,ns[i]?=some n:=⟨_,zA (by omega)⟩;obtain⟨t,ht⟩:=hI.get i n hn;exact⟨t,by rw[zE,zE,ht,hn];rfl⟩
 refine⟨fun h' Q E kh q=>?_,fun h' i j Q E kh hi hj q=>?_⟩
 . rw[ksk_kind (keys:=vs.toArray) (kz:=ns) (by simpa using hI) (by simpa using h2)];exact zG q
 . obtain⟨t,e1⟩:=at_ i hi;obtain⟨u,e2⟩:=at_ j hj;rw[e1,e2];exact PySem.W.kat_lt_int q
theorem zHX {vs:List Value}{ns:List Int}{out:List Nat}(hI:IntsAre vs ns)(p:SortT.Put (O:=zNt) (fun i=>ns.getD i 0) vs.length out):
 ∃ms:List Int,ms.Perm ns/\ms.Pairwise (· <= ·)/\zBS (ms.map V.int) (out.map fun i=>vs.getD i Value.none)/\ms.length=ns.length:=by
 have hl:=hI.length;have hb:∀i∈out,i<vs.length:=fun i hi=>zCC.mp (p.perm.mem_iff.mp hi);refine⟨out.map fun i=>ns.getD i 0,?_,?_,?_,?_⟩
 . have h1:=p.perm.map fun i=>ns.getD i 0;have h2:(List.range vs.length).map (fun i=>ns.getD i 0)=ns:=by
    rw[show vs.length=ns.length by omega];apply List.ext_getElem?;intro j;rw[zM];by_cases hj:j<ns.length
    . rw[List.getElem?_range hj,zA hj];simp[hj]
    . rw[zx (by rw[zAP];omega),zx (by omega)];rfl
   rw[h2] at h1;exact h1
 . refine zAY.mpr fun i j hi hj hij=>?_;rw[zB] at hi hj;have:=p.rise i j out[i] out[j] (zA9 hij) (by simp) (by simp);have h3:decide (ns.getD out[j] 0<ns.getD out[i] 0)=false:=this;have h4:=of_decide_eq_false h3;rw[List.getElem_map,List.getElem_map];omega
 . have:∀l:List Nat,(∀i∈l,i<vs.length)->zBS ((l.map fun i=>ns.getD i 0).map V.int) (l.map fun i=>vs.getD i Value.none):=by
    intro l
    induction l with
    | nil=>intro _;exact .nil
    | cons i l ih=>intro h;have hi:=h i zZ;obtain⟨n,hn⟩:∃n,ns[i]?=some n:=⟨_,zA (by omega)⟩;obtain⟨t,ht⟩:=hI.get i n hn;refine .cons ?_ (ih fun j hj=>h j (zg _ hj));show zBm (V.int (ns.getD i 0)) (vs.getD i Value.none);rw[zE,zE,ht,hn];exact⟨t,rfl⟩
   exact this out hb
 . rw[zB,p.perm.length_eq,zAP];omega
section
variable {X:Cx}
inductive rc_8 (xs:List V)(H:Hp)(Q:VK):Prop
 | mk:∀p kvs ns,(xs=[.ref p])->(H p=some (.dK kvs))->(kvs.map (·.1)=ns.map Sum.inl)->(ns.length<64)->(∀(l:Addr)(ms:List Int),H l=none->ms.Perm ns->ms.Pairwise (· <= ·)->Q (.ref l) (upd H l (.lst (ms.map V.int))))->rc_8 xs H Q
theorem zCy (hc:X.calm=true):zCl X (.builtin "sorted") rc_8:=by
 intro pins s σ H xs us Q I r h;obtain⟨p,kvs,ns,rfl,hd,hks,h64,q⟩:=h;obtain⟨u,rfl,rx⟩:=zC8 r;cases rx;obtain⟨hz,lo,vs,rel,o,es,ep,ho,hx,hdat,_,hpr,hnd⟩:=dk_of I.hok hd;have key:∀(es:List DictEntry)(kvs:List (Key×V))(vs:List (Key×Value))(ns:List Int),KV kvs vs->Pairs (zA2 X.prog X.w) es vs->kvs.map (·.1)=ns.map Sum.inl->IntsAre (es.map (·.key)) ns:=by
  intro es
  induction es with
  | nil=>
   intro kvs vs ns rel pr e;cases pr;cases rel;cases ns with
   | nil=>exact .nil
   | cons n ns=>simp at e
  | cons d es ih=>
   intro kvs vs ns rel pr e;cases pr with
   | cons k1 k2 k3=>
    cases rel with
    | cons hpq t=>
     cases ns with
     | nil=>simp at e
     | cons n ns=>simp only[zAa,List.cons.injEq] at e;rw[<-hpq.1,e.1] at k1;obtain⟨t0,e0⟩:=Value.isInt_shape (k:=n) (v:=d.key) k1;rw[zAa,e0];exact .cons n t0 (ih _ _ _ t k3 e.2)
 have hI:IntsAre (es.toList.map (·.key)) ns:=key _ _ _ _ rel hpr hks;have hl:=hI.length;refine SortT.sorted_dict (O:=zNt) (key:=fun i=>ns.getD i 0) (κ:=oneType') (vs:=es.toList.map (·.key)) (I.ok.hd hc) lo ⟨o,ho,hx,hdat⟩ rfl (by omega) (fun h2 s' a fa kp=>zGX hI h2) fun h1 D h' t' out c pt k1 hD k2 ho=>?_;obtain⟨ms,hp,hr,rz,hlz⟩:=zHX hI pt;have I1:Inv X pins σ H { s with heap:=h1,toks:=s.toks }:=I.kept k1;refine⟨.ref D,_,zCZ (s:={ s with heap:=h1,toks:=s.toks }) (t':=t') I1 hD k2 ho rz ?_,rfl,q D ms (I1.hok.fresh hD) hp hr⟩;have:sizeLine=16777216:=rfl;rw[zB];omega
end
noncomputable def oV:Option Int->V
 | none=>.non
 | some d=>.int d
theorem zGC {n:Nat}{i:Int}(h0:0<=i)(h1:i<n):ixN n i=some i.toNat:=by unfold ixN;rw[if_pos h0,if_pos h1]
theorem zBQ {α:Type}{xs:List α}{i:Int}{v:α}(h0:0<=i)(h:xs[i.toNat]?=some v):atI xs i=some v:=by have:=zCk h;rwa [Int.toNat_of_nonneg h0] at this
theorem zLW {xs ys:List Int}:((List.range (min xs.length ys.length)).all (fun j=>xs.getD j 0==ys.getD j 0) && xs.length==ys.length)=decide (xs=ys):=by
 by_cases h:xs=ys
 . subst h;simp
 . rw[zc h];by_cases hl:xs.length=ys.length
   . have:∃j,j<xs.length/\xs.getD j 0≠ys.getD j 0:=by apply zBj;intro hn;refine h (List.ext_getElem hl fun j h1 h2=>?_);apply zBj;intro hne;exact hn ⟨j,h1,by simpa [zE,h1,h2] using hne⟩
     obtain⟨j,hj,hne⟩:=this;rw[Bool.and_eq_false_iff];left;rw[List.all_eq_false];exact⟨j,by rw[zCC];omega,by simpa using hne⟩
   . simp[hl]
section
variable {X:Cx}
theorem eqAts {A:Around}{us ws:List Value}{xs ys:List Int}(h1:IntsAre us xs)(h2:IntsAre ws ys)(j:Nat)(a:j<us.toArray.size)(b:j<ws.toArray.size):SeqAt.EqAt A s us.toArray[j] ws.toArray[j] (xs.getD j 0==ys.getD j 0):=by
 have l1:=h1.length;have l2:=h2.length;rw[zU] at a b;obtain⟨n,hn⟩:∃n,xs[j]?=some n:=⟨_,zA (by omega)⟩;obtain⟨m,hm⟩:∃m,ys[j]?=some m:=⟨_,zA (by omega)⟩;obtain⟨t,ht⟩:=h1.get j n hn;obtain⟨u,hu⟩:=h2.get j m hm;have e1:us.toArray[j]=.int n t:=by rw[zA a] at ht;simpa using zT ht
 have e2:ws.toArray[j]=.int m u:=by rw[zA b] at hu;simpa using zT hu
 rw[e1,e2,zE,zE,hn,hm];exact SeqAt.EqAt.int_int n t m u
inductive zMO (K:PySem.W.Frag)(x:V)(y:V)(H:Hp)(Q:VK):Prop
 | mk:∀(a b:Addr)(xs ys:List Int),(x=.ref a)->(y=.ref b)->(SqL K H a (xs.map V.int))->(SqL K H b (ys.map V.int))->(Q (.bl (!decide (xs=ys))) H)->zMO K x y H Q
noncomputable def rNeL (K:PySem.W.Frag):R2:=fun x y H Q=>zMO K x y H Q
theorem zMU (hu:X.A.units<cLine):OpR X (compareOp .NotEq) (rNeL X.K):=by
 intro pins s σ H x y v u Q I rx ry h;obtain⟨a,b,xs,ys,rfl,rfl,ha,hb,q⟩:=h;cases rx;cases ry;obtain⟨its,r,pl,hz⟩:=I.list ha;obtain⟨its2,r2,pl2,hz2⟩:=I.list hb;have h1:=zBy r;have h2:=zBy r2;by_cases hl:its.length=its2.length
 . refine PySem.EqBoolInt.of_rcne (SeqAt.RcNeAt.lists (e:=fun j=>xs.getD j 0==ys.getD j 0) pl.isList pl2.isList (by rw[zU,zU];exact hl) hu (fun j a b=>eqAts h1 h2 j a b)) ⟨.bl _,H,I,rfl,?_⟩;rw[zU];have e:=zLW (xs:=xs) (ys:=ys);have l1:=h1.length;have l2:=h2.length;rw[show min xs.length ys.length=its.length by omega,show (xs.length==ys.length)=true by simpa using (by omega),Bool.and_true] at e;rw[e];exact q
 . refine PySem.EqBoolInt.of_rcne (SeqAt.RcNeAt.lists_lengths pl.isList pl2.isList (by rw[zU,zU];simpa using hl) hu) ⟨.bl _,H,I,rfl,?_⟩;have hne:xs≠ys:=fun e=>hl (by rw[h1.length,h2.length,e]);rw[zc hne] at q;exact q
end
noncomputable def zFH (scope:Scope)(yc:Str)(cl:List (Str×Addr))(C:Addr)(env:Env):Env:=
 { scope:=relabel scope env,locals:=C,globals:=env.globals,cells:=(yc,C+1)::cl,qual:=env.qual,func:=none,code:=env.code,frame:=env.frame,builtins:=env.builtins }
variable {cl:List (Str×Addr)}
theorem zLN {M:Model}{A:Around}{E:vSP}{scope:Scope}{globals:Addr}{qual yc:Str}{env:Env}{Q:Env->Shared->Prop}(hcf:∀n acc,cellsFrom n scope.names acc=(yc,n)::acc)
 (hQ:∀h':Heap,h'.Ns s.heap.objs.size (fun _=>none)->(∀b o,s.heap.get? b=some o->h'.get? b=some o)->h'.IsCell (s.heap.objs.size+1) none ->
  Q (newEnv scope s.heap.objs.size globals ((yc,s.heap.objs.size+1)::cl) qual none .none (some env) builtinsNs) { s with heap:=h',toks:=s.toks }):
 wpAny M A (newFunctionEnv scope globals cl [] qual none .none (some env)) Q E s:=by
 simp only[newFunctionEnv,Option.isSome_some,if_true];refine zC (wpAny_alloc ?_);refine zC (wpAny_layCells _ (fun name kind cells=>by cases hkc:kind==NameKind.cell <;> simp[hkc]) _ _ _ _ ?_);have ok:=cellsFrom_ok scope.names (s.heap.push { cls:=.type "dict",data:=.dict #[] }) (s.heap.objs.size+1) [] ⟨fun _ _ hm=>(nomatch hm),List.Pairwise.nil⟩ (by rw[zAU];exact zK _);rw[zAU] at ok;rw[show ({ s with heap:=s.heap.push { cls:=.type "dict",data:=.dict #[] } }:Shared).heap.objs.size=s.heap.objs.size+1 from zAU ..];rw[hcf] at ok ⊢;refine zC ?_;rw[List.forIn_nil];refine zG (zG ?_);exact hQ _ ((Heap.Ns.new s.heap (.type "dict")).keeps (pushCells_keeps _ _)) (fun b o e=>pushCells_keeps _ _ b o (zN _ e)) (ok.empty _ _ zZ).1
noncomputable def zBo (X:Cx)(pl:lPO)(N':List Str)(scope:Scope)(yc:Str)(fp:List Addr)(s3:Shared)(H3:Hp):Cx where
 prog:=X.prog
 w:=X.w
 K:=X.K
 mg:=X.mg
 base:=X.base
 A:=X.A
 N:=N'
 s₀:=s3
 H₀:=H3
 env:=zFH scope yc (zDm X.env.cells scope.names []) s3.heap.objs.size X.env
 outer:=X.stack
 stack:=X.stack
 ex:=fp
 fn:=fun x=>x==yc
 calm:=X.calm
 pn:=pl
 xe:=fun _ _=>False
structure zDD (X:Cx)(scope:Scope)(yc:Str):Prop where
 kind:scope.kind=.function
 cf:∀n acc,cellsFrom n scope.names acc=(yc,n)::acc
 own:scope.names.lookup yc=some .cell
 one:∀y∈scope.names,y.2=.cell->y.1=yc
 names:∀y∈scope.names,y.2=.local->scope.names.lookup y.1=some .local
 free:∀y∈scope.names,y.2=.free->X.env.kindOf y.1=some .cell
variable {n:Addr}{x:Str}
section
variable {X:Cx}{pins:lPO}{σ:St}{H3:Hp}{s3:Shared}{scope:Scope}{fp:List Addr}{N' own cn:List Str}{ci:List Nat}{cv:List V}{yc:Str}
theorem look1 {c:Addr}(h:((yc,n)::cl).lookup x=some c):(x=yc/\c=n)\/(x≠yc/\cl.lookup x=some c):=by
 rw[zA1] at h;cases hx:x==yc with
 | true=>rw[hx] at h;cases h;exact .inl ⟨by simpa using hx,rfl⟩
 | false=>rw[hx] at h;exact .inr ⟨by simpa using hx,h⟩
theorem zHc (h:x≠yc):((yc,n)::cl).lookup x=cl.lookup x:=by rw[zA1,show (x==yc)=false by simpa using h]
theorem zGO (ok:X.Ok)(S:zDD X scope yc)(h:(relabel scope X.env).names.lookup x=some .cell\/(relabel scope X.env).names.lookup x=some .free):
 ∃c,((yc,n)::zDm X.env.cells scope.names []).lookup x=some c:=by
 by_cases hxy:x=yc
 . subst hxy;exact⟨n,by rw[zA1,beq_self_eq_true]⟩
 rw[zHc hxy];have e:(relabel scope X.env).names.lookup x=(scope.names.lookup x).map fun k=>if (k==NameKind.free && X.env.scope.kind == .function && X.env.kindOf x==some .cell)=true then NameKind.cell else k:=zBt scope.names
 have hf:scope.names.lookup x=some .free:=by
  cases q:scope.names.lookup x with
  | none=>rw[e,q] at h;simp at h
  | some k=>
   by_cases hk:k=.free
   . rw[hk]
   . have hb:(k==NameKind.free)=false:=by simpa using hk
     rw[e,q] at h;simp only[zAy,hb,Bool.false_and,zBg,if_false,Option.some.injEq] at h;rcases h with h | h
     . exact absurd (S.one _ (PySem.mem_of_lookup q) h) hxy
     . exact absurd h hk
 exact zDP (ok.has x (.inl (S.free _ (PySem.mem_of_lookup hf) rfl))) scope.names [] (PySem.mem_of_lookup hf)
theorem zC2 (I:Inv X pins σ H3 s3){c:Addr}(h:((yc,n)::zDm X.env.cells scope.names []).lookup x=some c):(x=yc/\c=n)\/(x≠yc/\X.env.cells.lookup x=some c/\c<s3.heap.objs.size):=by
 rcases look1 h with z | ⟨z,e⟩
 . exact .inl z
 . have e':=zCx e;obtain⟨v,o,ho,_⟩:=I.cell x c e';exact .inr ⟨z,e',zW ho⟩
theorem zLj (I:Inv X pins σ H3 s3)(S:zDD X scope yc)(f:∀b∈fp,zGY X pins H3 b)(fz:∀b∈fp,b<s3.heap.objs.size):(zBo X (X.pn++pins) N' scope yc fp s3 H3).Ok where
 mod:=I.ok.mod
 kind:=S.kind
 glob:=I.ok.glob
 blt:=I.ok.blt
 above:=zK _
 inj:=fun x y c h1 h2=>by
  rcases zC2 I h1 with ⟨a,b⟩ | ⟨a,b,d⟩ <;> rcases zC2 I h2 with ⟨a',b'⟩ | ⟨a',b',d'⟩
  . rw[a,a']
  . rw[b] at d';exact absurd d' (Nat.not_lt.mpr (zBD _))
  . rw[b'] at d;exact absurd d (Nat.not_lt.mpr (zBD _))
  . exact I.ok.inj x y c b b'
 has:=fun x h=>zGO I.ok S h
 cab:=fun x c h e=>by
  have hx:x=yc:=by simpa using (show (x==yc)=true from h)
  rcases zC2 I e with ⟨_,b⟩ | ⟨a,_⟩
  . rw[b];exact zBD _
  . exact absurd hx a
 hd:=I.ok.hd
 frames:=I.ok.frames
 stk:=.inl rfl
 exf:=fun b hb=>⟨zb (fz b hb),fun x c h=>by
  have:=fz b hb;rcases zC2 I h with ⟨_,d⟩ | ⟨_,d,_⟩
  . intro z;rw[<-z,d] at this;exact absurd this (Nat.not_lt.mpr (zBD _))
  . exact (f b hb).2.2.2.2.1 x c d⟩
 bs:=I.bs
 bsz:=zAM I.ok.bsz I.sz
 noex:=fun b o e hb=>by
  rcases (f b hb).2.2.2.1 with z | z
  . exact I.ok.noex b o e z
  . exact absurd (zq (zW e) (zAM I.ok.bsz z)) (zBe _)
 exfs:=fun b hb z=>by
  rcases ze.mp (I.stkSub b z) with q | q
  . exact (f b hb).2.1 q
  . exact (f b hb).2.2.1 q
 funs:=I.stack
 frf:=I.stkFree
theorem zKa {h1:Heap}{t:Nat}(I:Inv X pins σ H3 s3)(S:zDD X scope yc)(f:∀b∈fp,zGY X pins H3 b)(fz:∀b∈fp,b<s3.heap.objs.size)
 (hN:N'=own++cn)(hc:zDo X scope cn ci)(hv:ci.map (fun j=>σ[j]?)=cv.map fun v=>some (some v))(hl:cn.length=ci.length)
 (hns:h1.Ns s3.heap.objs.size (fun _=>none))(hk:∀b o,s3.heap.get? b=some o->h1.get? b=some o)(hcl:h1.IsCell (s3.heap.objs.size+1) none):
 Inv (zBo X (X.pn++pins) N' scope yc fp s3 H3) [] (List.replicate own.length none++cv.map some) H3 { s3 with heap:=h1,toks:=t }:=by
 have lenv:cv.length=ci.length:=by have:=congrArg List.length hv;simpa using this.symm
 refine⟨zLj I S f fz,rfl,I.bare,Un.kept hk,⟨_,hns,fun i x v e1 e2 e3=>?_⟩,fun x c e=>?_,I.hok.fresh (zK _),fun x c e=>?_,fun p hp=>?_,I.hok.kept hk,?_⟩
 . -- a captured name
   have hi:own.length<=i:=by
    by_cases hi:own.length<=i
    . exact hi
    . rw[zP (by simpa using hi),zBT] at e2;split at e2 <;> cases e2
   rw[zO (by simpa using hi),zAe,zM] at e2;have e1':(own++cn)[i]?=some x:=by rw[<-hN];exact e1
   rw[zO hi] at e1';obtain⟨j,hj,hNj,hkx,hfr⟩:=hc.get e1';have hcv:cv[i-own.length]?=some v:=by
    cases q:cv[i-own.length]? with
    | none=>rw[q] at e2;cases e2
    | some v'=>rw[q] at e2;cases e2;rfl
   have hσ:σ[j]?=some (some v):=by have:=congrArg (fun l:List (Option (Option V))=>l[i-own.length]?) hv;simp only[zM,hj,hcv,zAy,Option.some.injEq] at this;exact this
   obtain⟨m,_,hl'⟩:=I.loc;obtain⟨u,r,q⟩:=hl' j x v hNj hσ (.inr (.inl hkx));have hkd:(relabel scope X.env).names.lookup x=some .cell\/(relabel scope X.env).names.lookup x=some .free:=by
    have e:(relabel scope X.env).names.lookup x=(scope.names.lookup x).map fun k=>if (k==NameKind.free && X.env.scope.kind == .function && X.env.kindOf x==some .cell)=true then NameKind.cell else k:=zBt scope.names
    rw[e,hfr,zAy];by_cases cc:(NameKind.free==NameKind.free && X.env.scope.kind == .function && X.env.kindOf x==some .cell)=true
    . rw[if_pos cc];exact .inl rfl
    . rw[if_neg cc];exact .inr rfl
   obtain⟨c',hc'⟩:=zGO (n:=s3.heap.objs.size+1) I.ok S hkd;have hxy:x≠yc:=fun z=>by rw[z,S.own] at hfr;cases hfr
   refine⟨u,r,.inr ⟨hkd,c',hc',?_⟩⟩;rcases q with ⟨z,_⟩ | ⟨_,c,hcc,o,ho,hd⟩
   . rw[hkx] at z;cases z
   . have e:c=c':=zT (hcc.symm.trans (zCx ((zHc hxy).symm.trans hc')));subst e;exact⟨o,hk c o ho,hd⟩
 . rcases zC2 I e with ⟨_,d⟩ | ⟨_,d,_⟩
   . rw[d];exact⟨_,hcl⟩
   . obtain⟨v,o,ho,hd⟩:=I.cell x c d;exact⟨v,o,hk c o ho,hd⟩
 . rcases zC2 I e with ⟨_,d⟩ | ⟨_,d,_⟩
   . rw[d];exact I.hok.fresh (zBD _)
   . exact I.freeC x c d
 . have hp':p∈X.pn++pins:=by rw[zAG] at hp;exact hp
   obtain⟨e,n,ne,nf,d⟩:=I.pin p hp';refine⟨hk _ _ e,n,zb (zW e),fun z=>?_,d⟩;rcases ze.mp (I.stkSub p.1 z) with q | q
   . exact ne q
   . exact nf q
 . show (List.replicate own.length none++cv.map some).length=N'.length;rw[hN,zJ,zJ,zAe,zB,lenv,hl]
theorem zEt {elt target iter:Expr}{ifs:List Expr}{pos cpos:Pos}{wi:TI}{g:TG}{ti:TT}{te:TE}{use:Option (Value->Sem Unit)}{Q0:vSP}{H:Hp}{Q:VK}(hcalm:X.calm=true)(S:zDD X scope yc)(hc:zDo X scope cn ci)(hl:cn.length=ci.length)
 (hi:PI X target iter wi)(hg:∀pl fp s3 H3,PG (zBo X pl (own++cn) scope yc fp s3 H3) target g)(ht:∀pl fp s3 H3,PTs (zBo X pl (own++cn) scope yc fp s3 H3) ifs ti)
 (he:∀pl fp s3 H3,PE (zBo X pl (own++cn) scope yc fp s3 H3) elt te)(hs:∀x,foldedSetIterable iter X.env x=pure x)(I:Inv X pins σ H s)(h:zH0 own.length ci wi g ti te σ H Q)
 (fin:∀(D C:Addr)(H5:Hp)(s6:Shared)(m6:sOV),Inv X pins σ H5 s6->s6.heap.Ns C m6->H5 C=none->C≠X.env.locals->X.s₀.heap.objs.size<=C->(∀x c,X.env.cells.lookup x=some c->c≠C) ->
  (∀p∈X.pn++pins,p.1≠C)->Q (.ref D) H5->compPost (model X.prog X.w) X.A X.xe use Q0 (.ref D) C (.ok .next) s6):
 wpAny (model X.prog X.w) X.A (comprehension (.ListComp elt [⟨target,iter,ifs,0⟩] scope pos) scope X.env cpos (newList []) false (eval iter X.env) use) Q0 X.xe s:=by
 have hcl:closureFor scope X.env=pure (zDm X.env.cells scope.names []):=zDO fun y hy hf=>I.ok.has y.1 (.inl (S.free y hy hf));refine wpAny_comprehension_free (use:=use) rfl hs hcl S.kind S.names ?_;refine thn (hi pins s σ H _ I h) fun v s1 h1=>thn h1 fun itv s2 h2=>?_;obtain⟨it,fp,tn,J,H2,e,I2,T,st2,f2,cv,hv,hD⟩:=h2;subst e;have lenv:cv.length=ci.length:=by have:=congrArg List.length hv;simpa using this.symm
 have I3:=I2.lnew (ys:=[]) (its:=[]) (t':=s2.toks) .nil (zk _);obtain⟨W,⟨m0,w0⟩,turn⟩:=hD s2.heap.objs.size I2.fresh;have fz:∀b∈fp,b<s2.heap.objs.size:=fun b hb=>by obtain⟨o,ho,_⟩:=T.obj _ _ st2 b hb;exact zW ho
 refine zAs ?_;refine zLN S.cf (fun h4 hns4 hk4 hc4=>?_);generalize hs3:({ s2 with heap:=s2.heap.push { cls:=.type "list",dict:=none,data:=.seq ([]:List Value).toArray } }:Shared)=s3 at hns4 hk4 hc4 ⊢;have I3':Inv X pins σ (upd H2 s2.heap.objs.size (.lst [])) s3:=by rw[<-hs3];exact I3
 have hsz3:s3.heap.objs.size=s2.heap.objs.size+1:=by rw[<-hs3];exact zAU ..
 have k23:∀b o,s2.heap.get? b=some o->s3.heap.get? b=some o:=fun b o e=>by rw[<-hs3];exact zN _ e
 have k34:∀b o,s3.heap.get? b=some o->h4.get? b=some o:=hk4;have nD:∀b∈fp,b≠s2.heap.objs.size:=fun b hb=>zb (fz b hb);have f3:∀b∈fp,zGY X pins (upd H2 s2.heap.objs.size (.lst [])) b:=fun b hb=>⟨by rw[za (nD b hb)];exact (f2 b hb).1,(f2 b hb).2⟩;have fz3:∀b∈fp,b<s3.heap.objs.size:=fun b hb=>by rw[hsz3];exact zBW (fz b hb)
 have I4:Inv (zBo X (X.pn++pins) (own++cn) scope yc fp s3 (upd H2 s2.heap.objs.size (.lst []))) [] (List.replicate own.length none++cv.map some) (upd H2 s2.heap.objs.size (.lst [])) { s3 with heap:=h4,toks:=s3.toks }:=
  zKa I3' S f3 fz3 rfl hc hv hl hns4 k34 hc4
 have st4:tn 0 h4:=T.keep _ _ _ st2 fun b hb o e=>k34 b o (k23 b o e);generalize hX:zBo X (X.pn++pins) (own++cn) scope yc fp s3 (upd H2 s2.heap.objs.size (.lst []))=X' at I4;have hg':PG X' target g:=by rw[<-hX];exact hg _ _ _ _
 have ht':PTs X' ifs ti:=by rw[<-hX];exact ht _ _ _ _
 have he':PE X' elt te:=by rw[<-hX];exact he _ _ _ _
 have ePr:X'.prog=X.prog:=by rw[<-hX];rfl
 have eW:X'.w=X.w:=by rw[<-hX];rfl
 have eK:X'.K=X.K:=by rw[<-hX];rfl
 have eA:X'.A=X.A:=by rw[<-hX];rfl
 have eE:X'.env=zFH scope yc (zDm X.env.cells scope.names []) s3.heap.objs.size X.env:=by rw[<-hX];rfl
 have eXe:X'.xe=fun _ _=>False:=by rw[<-hX];rfl
 have eC:X'.calm=true:=by rw[<-hX];exact hcalm
 have eex:X'.ex=fp:=by rw[<-hX];rfl
 have epn:X'.pn=X.pn++pins:=by rw[<-hX];rfl
 have es0:X'.s₀=s3:=by rw[<-hX];rfl
 have eH0:X'.H₀=upd H2 s2.heap.objs.size (.lst []):=by rw[<-hX];rfl
 have efs:X'.fs=frs X.stack:=by rw[<-hX];rfl
 have ok':=I4.ok;have stat:∀{H':Hp},(∀b∈fp,H' b=none)->∀b∈fp,zGY X' [] H' b:=fun hn b hb=>by
  have hb':b∈X'.ex:=by rw[eex];exact hb
  refine⟨hn b hb,(ok'.exf b hb').1,ok'.exfs b hb',.inl hb',(ok'.exf b hb').2,fun p hp=>?_⟩;rw[epn,zAG] at hp;exact (f2 b hb).2.2.2.2.2 p hp
 have wk:∀(σ2:St),(σ2.length=own.length+cv.length/\σ2.drop own.length=cv.map some)->∀{pl:lPO}{H':Hp}{s':Shared},Inv X' pl σ2 H' s'->Inv X' pl (List.replicate own.length none++cv.map some) H' s':=fun σ2 hq pl H' s' I'=>by
  refine I'.weak (by rw[hq.1,zJ,zAe,zB]) fun i v hi=>?_;by_cases hlt:i<own.length
  . rw[zP (by simpa using hlt),zBT] at hi;split at hi <;> cases hi
  . rw[zO (by simpa using hlt),zAe,<-hq.2,List.getElem?_drop] at hi;rw[show own.length+(i-own.length)=i by omega] at hi;exact hi
 have loop:codeAny (model X.prog X.w) X.A (.compLoop (.ListComp elt [⟨target,iter,ifs,0⟩] scope pos) 0 (.ref it) (.ref s2.heap.objs.size) (zFH scope yc (zDm X.env.cells scope.names []) s3.heap.objs.size X.env))
  (compPost (model X.prog X.w) X.A X.xe use Q0 (.ref s2.heap.objs.size) s3.heap.objs.size) { s3 with heap:=h4,toks:=s3.toks }:=by
  refine zDg (fun n s'=>∃i ys H',Inv X' [] (List.replicate own.length none++cv.map some) H' s'/\tn i s'.heap/\(∀b∈fp,H' b=none)/\W i n ys H') ?_ m0
   ⟨0,[],_,I4,st4,fun b hb=>(f3 b hb).1,w0⟩
  rintro n s5 ⟨i,ys,H5,I5,st5,fr5,w5⟩;rcases turn i n ys H5 w5 with ⟨stop,qn⟩ | ⟨go,hsz,N,hN,step⟩
  . have d:=T.done X' ePr eW eK eC i [] s5 _ H5 (fun _ _=>False) I5 (stat fr5) st5 stop;rw[eA] at d;refine thn d fun r s6 ⟨hr,I6⟩=>?_;subst hr;obtain⟨m6,hn6,_⟩:=I6.loc;rw[eE] at hn6;have hn6':s6.heap.Ns s3.heap.objs.size m6:=hn6;have un6:Un (frs X.stack) fp (upd H2 s2.heap.objs.size (.lst [])) H5 s3.heap s6.heap:=by have b6:=I6.base;rw[efs,eex,eH0,es0] at b6;exact b6
    have os6:s6.os=s3.os:=by have o6:=I6.os;rw[es0] at o6;exact o6
    have hok6:HOk X.prog X.w H5 s6.heap:=by have o6:=I6.hok;rw[ePr,eW] at o6;exact o6
    have I7:Inv X pins σ H5 s6:=I3'.call' (ch:=fp) os6 un6 hok6 I6.bare fun b hb=>⟨(f2 b hb).2.2.2.1,(f2 b hb).2.1,(f2 b hb).2.2.2.2.1,(f2 b hb).2.2.2.2.2⟩;have fr6:H5 s3.heap.objs.size=none:=by have q:=I6.free;rw[eE] at q;exact q
    refine fin s2.heap.objs.size s3.heap.objs.size H5 s6 m6 I7 hn6' fr6 (zAR I3'.lt) I3'.sz (fun x c e=>?_) (fun p hp=>?_) qn
    . obtain⟨_,o,ho,_⟩:=I3'.cell x c e;exact zb (zW ho)
    . exact zb (zW (I3'.pin p hp).1)
  . have d:=T.item X' ePr eW eK eC i [] s5 _ H5 (fun _ _=>False) I5 (stat fr5) st5 go;rw[eA] at d;refine thn d fun r s6 ⟨u,hr,h6⟩=>?_;subst hr;refine thn h6 fun _ s7 ⟨x,H7,I7,r7,y7,st7,fr7⟩=>?_;have I7':=I7.pinned (stat fr7) (T.obj _ _ st7);have g7:=hg' _ s7 _ H7 x u _ I7' r7 (step x H7 y7);rw[ePr,eW,eA,eE,eXe] at g7;refine thn g7 fun _ s8 ⟨σ8,H8,I8,q8,ti8⟩=>?_;have t8:=ht' _ s8 σ8 H8 _ I8 ti8;rw[ePr,eW,eA,eE,eXe] at t8;refine thn t8 fun ok s9 ⟨H9,I9,q9⟩=>?_;have again:∀{ys':List V}{H':Hp}{s':Shared},Inv X' ([]++zEn fp s7.heap) σ8 H' s'->N ys' H' ->
     ∃m,m<n/\∃i ys H',Inv X' [] (List.replicate own.length none++cv.map some) H' s'/\tn i s'.heap/\(∀b∈fp,H' b=none)/\W i m ys H':=fun {ys' H' s'} I' n'=>by
     obtain⟨m',hm,w'⟩:=hN ys' H' n';refine⟨m',hm,i+1,ys',H',(wk σ8 q8 I').unpinned,T.keep _ _ _ st7 fun b hb o e=>(I'.pin (b,o) (zi _ (zi _ (zCQ hb e)))).1,fun b hb=>?_,w'⟩;obtain⟨o,e,_⟩:=T.obj _ _ st7 b hb;exact (I'.pin (b,o) (zi _ (zi _ (zCQ hb e)))).2.1
    cases ok with
    | false=>exact again I9 q9
    | true=>have e9:=he' _ s9 σ8 H9 _ I9 q9;rw[ePr,eW,eA,eE,eXe] at e9;refine thn e9 fun u10 s10 ⟨y,H10,I10,r10,hD10,n10⟩=>?_;have a10:=zA7 (X:=X') _ s10 σ8 H10 (.ref s2.heap.objs.size) [y] (.ref s2.heap.objs.size) [u10] (fun _ H'=>N (ys++[y]) H') I10 rfl (.cons r10 .nil) ⟨_,_,_,rfl,rfl,hD10,hsz,n10⟩;rw[ePr,eW,eA,eXe] at a10;exact thn a10 fun _ s11 ⟨_,H11,I11,_,n11⟩=>again I11 n11
 exact codeAny_compStart_list loop (T.self X.A 0 _ _ _ st4 loop)
theorem zLF {elt target iter:Expr}{ifs:List Expr}{pos:Pos}{wi:TI}{g:TG}{ti:TT}{te:TE}(hcalm:X.calm=true)(S:zDD X scope yc)(hc:zDo X scope cn ci)(hl:cn.length=ci.length)
 (hi:PI X target iter wi)(hg:∀pl fp s3 H3,PG (zBo X pl (own++cn) scope yc fp s3 H3) target g)(ht:∀pl fp s3 H3,PTs (zBo X pl (own++cn) scope yc fp s3 H3) ifs ti)
 (he:∀pl fp s3 H3,PE (zBo X pl (own++cn) scope yc fp s3 H3) elt te)(hs:∀x,foldedSetIterable iter X.env x=pure x:=by intro _;rfl):
 PE X (.ListComp elt [⟨target,iter,ifs,0⟩] scope pos) (zH0 own.length ci wi g ti te):=by
 intro pins s σ H Q I h;rw[eval_ListComp];exact zEt hcalm S hc hl hi hg ht he hs I h fun D C H5 s6 m6 I7 hn fr nL ge nC nP q=>⟨m6,hn,fun h' hs'=>⟨.ref D,H5,I7.turned (t':=s6.toks) (it:=C) (fun b o hb e=>hs'.extBut b o hb e) fr nL (.inr ge) nC nP,rfl,q⟩⟩
theorem zLD {elt target iter:Expr}{ifs:List Expr}{pos pos' cpos:Pos}{wi:TI}{g:TG}{ti:TT}{te:TE}{i:Nat}{x:Str}(hN:X.N.Nodup)(hix:X.N[i]?=some x)(hx:Loc X.env.scope x)(hcalm:X.calm=true)(S:zDD X scope yc)(hc:zDo X scope cn ci)(hl:cn.length=ci.length)
 (hi:PI X target iter wi)(hg:∀pl fp s3 H3,PG (zBo X pl (own++cn) scope yc fp s3 H3) target g)(ht:∀pl fp s3 H3,PTs (zBo X pl (own++cn) scope yc fp s3 H3) ifs ti)
 (he:∀pl fp s3 H3,PE (zBo X pl (own++cn) scope yc fp s3 H3) elt te)(hs:∀x,foldedSetIterable iter X.env x=pure x:=by intro _;rfl)
 (hsw:swapsWith (.ListComp elt [⟨target,iter,ifs,0⟩] scope cpos) (some (.Name x pos')) pos.line X.env=pure true:=by rfl)
 (hf:X.fn x=true\/X.env.scope.names.lookup x=some .local:=by first | exact .inl rfl | exact .inr rfl | assumption):
 PS X (.Assign [.Name x pos'] (.ListComp elt [⟨target,iter,ifs,0⟩] scope cpos) pos) (tAsg (zH0 own.length ci wi g ti te) (zGG i)):=by
 intro pins s σ H D I h;rw[exec_Assign_Name_used _ _ _ _ hsw];refine zC (wpAny_standAt (zC ?_));show wpAny _ X.A (do let _ <-comprehension (.ListComp elt [⟨target,iter,ifs,0⟩] scope cpos) scope X.env _ (newList []) false (eval iter X.env) (some (assign (.Name x pos') X.env))) _ _ s
 refine zC (zAO (zEt (use:=some (assign (.Name x pos') X.env)) (Q0:=fun _ s'=>SP X pins D .next s') hcalm S hc hl hi hg ht he hs I h (fun D' C H5 s6 m6 I7 hn fr nL ge nC nP q=>?_)) (fun _ s' hq=>zG (zG hq)) fun _ _ e=>e);obtain⟨oC,es,ep,hoC,hd,r1⟩:=hn;have nf:C∉X.fs:=fun hb=>by obtain⟨_,o,ho,_⟩:=I7.ok.funs.mem hb;exact absurd (zq (zW ho) ge) (zBe _)
 have I7':Inv X (pins++[(C,oC)]) σ H5 s6:=I7.pins_of fun p hp=>by
  rcases zm.mp hp with z | z
  . exact I7.pin p (zi _ z)
  . rw[zd.mp z];exact⟨hoC,fr,nL,nf,fun v e=>by rw[hd] at e;cases e⟩
 show wpAny _ X.A (assign (.Name x pos') X.env (.ref D')) _ _ s6;refine wpAny_assign_Name (zDG I7' hN hix hx (show zBm (.ref D') (.ref D') from rfl) (fun s' I'=>?_) hf);have hC':=(I'.pin (C,oC) (zi _ (zi _ (zd.mpr rfl)))).1;refine⟨m6,⟨oC,es,ep,hC',hd,r1⟩,fun h' hs'=>⟨_,H5,?_,q⟩⟩;have I2:Inv X pins (σ.set i (some (.ref D'))) H5 s':=I'.pins_of fun p hp=>I'.pin p (zi _ (zw _ hp));exact I2.turned (t':=s'.toks) (it:=C) (fun b o hb e=>hs'.extBut b o hb e) fr nL (.inr ge) nC nP
end
noncomputable def cscOk1 (outer inner:Scope)(yc:Str):Bool:=inner.names.all fun y=>(y.2 != .cell || y.1==yc) && (y.2 != .local || inner.names.lookup y.1==some .local) && (y.2 != .free || outer.names.lookup y.1==some .cell)
theorem csc1 {X:Cx}{scope:Scope}{yc:Str}(hk:scope.kind=.function)(hcf:∀n acc,cellsFrom n scope.names acc=(yc,n)::acc)(ho:scope.names.lookup yc=some .cell)(h:cscOk1 X.env.scope scope yc=true):zDD X scope yc:=by
 have a:=List.all_eq_true.mp h;refine⟨hk,hcf,ho,fun y hy e=>?_,fun y hy e=>?_,fun y hy e=>?_⟩
 . have:=a y hy;rw[e] at this;simpa using this
 . have:=a y hy;rw[e] at this;simpa using this
 . have:=a y hy;rw[e] at this;have h2:X.env.scope.names.lookup y.1=some .cell:=by simpa using this
   exact h2
inductive zFW (Q:VK)(vs:List V)(H1:Hp):Prop
 | mk:∀j:Int,(vs=[.int j])->(0<=j)->(j<=1000)->(∀l,H1 l=none->Q (.ref l) (upd H1 l (.lst ((WM.lowTo j.toNat).map V.int))))->zFW Q vs H1
noncomputable def zM0 (ta:TA):TE:=fun σ H Q=>ta σ H fun vs H1=>zFW Q vs H1
theorem zKv:∀(vs:List Value)(n:Nat),vs.length=n->(∀(j:Nat)(v:Value),vs[j]?=some v->∃t,v=.int (0+(j:Int)*1) t)->zBS ((WM.lowTo n).map V.int) vs:=by
 have key:∀(vs:List Value)(a:Nat),(∀(j:Nat)(v:Value),vs[j]?=some v->∃t,v=.int ((a+j:Nat):Int) t)->zBS ((List.range' a vs.length).map fun (i:Nat)=>V.int (i:Int)) vs:=by
  intro vs
  induction vs with
  | nil=>intro _ _;exact .nil
  | cons v r ih=>intro a h;obtain⟨t,ht⟩:=h 0 v rfl;rw[zt,List.range'_succ,zAa];refine .cons ⟨t,by rw[ht];rfl⟩ (ih (a+1) fun j u hj=>?_);obtain⟨t',ht'⟩:=h (j+1) u hj;exact⟨t',by rw[ht'];congr 1;omega⟩
 intro vs n e h;subst e;have:=key vs 0 fun j v hj=>by obtain⟨t,ht⟩:=h j v hj;exact⟨t,by rw[ht];congr 1;omega⟩
 unfold WM.lowTo;rw[zAd,List.range_eq_range'];exact this
section
variable {X:Cx}
theorem zF0 {a:Expr}{ta:TA}{p1 p2 pos1 pos2:Pos}(hc:X.calm=true)(hgL:Gl X "list") (hmL:X.mg "list"=none) (hgR:Gl X "range") (hmR:X.mg "range"=none) (ha:PA X [a] ta)(hs:starEach [a] X.env=[(false,eval a X.env)]:=by rfl)
 (he:starEach [.Call (.Name "range" p2) [a] [] pos2] X.env=[(false,eval (.Call (.Name "range" p2) [a] [] pos2) X.env)]:=by rfl):PE X (.Call (.Name "list" p1) [.Call (.Name "range" p2) [a] [] pos2] [] pos1) (zM0 ta):=by
 intro pins s σ H Q I h;refine zBd (zC7 I hgL hmL (by decide +kernel:bootBuiltins "list"=some (.type "list")) ?_ (by decide) (by decide));refine PyProof.Rows.callWith_type1 ?_ he rfl;rw[he];refine Calls.spliced_cons ?_;refine Call_ (zC7 I hgR hmR boot_range (PyProof.Rows.callWith_type1 (thn (ha pos2 pins s σ H _ I h) fun us s1 ⟨vs,H1,I1,r1,q1⟩=>?_) hs rfl));obtain⟨j,e,h0,h1,q⟩:=q1;subst e;cases r1 with
 | cons r rr=>
  cases rr;obtain⟨t,rfl⟩:=r;refine call_range_1 ?_;refine Calls.spliced_nil ?_;have hz:Builtin.Range.rangeSize 0 j 1=(j.toNat:Int):=by rw[rangeSize_one];split <;> omega
  refine call_list_range (I.ok.hd hc) (IsRange.new ..) (small_one (by omega) (by omega) (by omega) (by omega)) hz (by omega) fun h' tk acc c' kp hD hI=>?_;have kp1:∀b o,s1.heap.get? b=some o->h'.get? b=some o:=fun b o e=>kp b o (zN _ e);have rv:zBS ((WM.lowTo j.toNat).map V.int) acc.toList:=zKv acc.toList _ (by rw[Array.length_toList];exact hI.1) fun i v hi=>hI.2 i v (by rw[<-hi,Array.getElem?_toList]);have hsz:s1.heap.objs.size<=(s1.heap.push { cls:=.type "range",data:=.fields #[.int 0 s1.toks,.int j t,.int 1 (s1.toks+1)] }).objs.size:=by rw[zAU];exact zBD _
  refine⟨.ref _,_,I1.laid (t':=tk) kp1 hsz (show zBc X.prog X.w _ h' _ (.lst ((WM.lowTo j.toNat).map V.int)) from ⟨?_,acc.toList,c',rv,by rw[Array.toArray_toList];exact hD⟩),rfl,q _ (I1.hok.fresh hsz)⟩;rw[zB,WM.lowTo,zB,zAP];have:sizeLine=16777216:=rfl;omega
inductive rc_9 (K:PySem.W.Frag)(xs:List V)(H:Hp)(Q:VK):Prop
 | mk:∀(p:Addr)(ns:List Int),(xs=[.ref p])->(SqL K H p (ns.map V.int))->(ns.length<64)->(∀(l:Addr)(ms:List Int),H l=none->ms.Perm ns->ms.Pairwise (· <= ·)->Q (.ref l) (upd H l (.lst (ms.map V.int))))->rc_9 K xs H Q
theorem zGP:zCl X (.builtin "sorted") (rc_9 X.K):=by intro pins s σ H xs us Q I r h;obtain⟨p,ns,rfl,hq,h64,q⟩:=h;obtain⟨u,rfl,rx⟩:=zC8 r;cases rx;obtain⟨its,r',pl,hz⟩:=I.list hq;have hI:IntsAre its ns:=zBy r';have hl:=hI.length;refine SortT.sorted_list (O:=zNt) (key:=fun i=>ns.getD i 0) (κ:=oneType') pl.isList (by omega) (fun h2 s' a fa kp=>zGX hI h2) fun D h' out c pt hD kp ho=>?_;obtain⟨ms,hp,hr,rz,hlz⟩:=zHX hI pt;refine⟨.ref D,_,zCZ (t':=s.toks) I hD kp ho rz ?_,rfl,q D ms (I.hok.fresh hD) hp hr⟩;have:sizeLine=16777216:=rfl;rw[zB];omega
end
section
variable {X:Cx}{pl:lPO}{N':List Str}{sc:Scope}{fp:List Addr}{s3:Shared}{H3:Hp}
theorem zFJ:zCl (zAx X pl N' sc fp s3 H3) (.builtin "len") (rc_2 X.K):=zAm
theorem pe_bmC {o e:Expr}{es:List Expr}{to:TE}{t:TA}{name:Str}{apos cpos:Pos}{T id:String}{r:V->List V->Hp->VK->Prop}(pa:PlainAttrs T)(slot:Slot T name id)(hty:typeOf (.builtin id)=pure (.type "method_descriptor")) (hm:MtR (zAx X pl N' sc fp s3 H3) id r)(ho:PE (zAx X pl N' sc fp s3 H3) o to)(ha:PA (zAx X pl N' sc fp s3 H3) (e::es) t)
 (hbase:attributeBase o name (zAx X pl N' sc fp s3 H3).env (eval o (zAx X pl N' sc fp s3 H3).env)=eval o (zAx X pl N' sc fp s3 H3).env:=by rfl)
 (hfew:((backTo cpos (starEach (e::es) (zAx X pl N' sc fp s3 H3).env)).all (fun x=>!x.1) && (backToKw cpos (keywordEach [] (zAx X pl N' sc fp s3 H3).env)).all (fun x=>x.1.isSome)
  && decide ((e::es).length+([]:List Keyword).length+(if ([]:List Keyword).isEmpty then 0 else 1)<30))=true:=by rfl)
 (hline:(apos.endLine==cpos.line)=true:=by rfl)(hs:starEach (e::es) (zAx X pl N' sc fp s3 H3).env=(false,eval e (zAx X pl N' sc fp s3 H3).env)::starEach es (zAx X pl N' sc fp s3 H3).env:=by rfl)(hplain:(backTo cpos (starEach es (zAx X pl N' sc fp s3 H3).env)).any (·.1)=false:=by rfl):
 PE (zAx X pl N' sc fp s3 H3) (.Call (.Attribute o name apos) (e::es) [] cpos) (tBM X.K T r to t):=zCq pa slot hty hm ho ha hbase hfew hline hs hplain
end
section
variable {X:Cx}
inductive zMP (K:PySem.W.Frag)(x:V)(y:V)(H:Hp)(Q:VK):Prop
 | mk:∀(a b:Addr)(xs:List V),(x=.ref a)->(y=.ref b)->(SqL K H a xs)->(SqL K H b [])->(Q (.bl (!xs.isEmpty)) H)->zMP K x y H Q
noncomputable def rNeE (K:PySem.W.Frag):R2:=fun x y H Q=>zMP K x y H Q
inductive zMS (K:PySem.W.Frag)(x:V)(y:V)(H:Hp)(Q:VK):Prop
 | mk:∀(a b:Addr)(xs:List V),(x=.ref a)->(y=.ref b)->(SqL K H a xs)->(SqL K H b [])->(Q (.bl xs.isEmpty) H)->zMS K x y H Q
noncomputable def rEqE (K:PySem.W.Frag):R2:=fun x y H Q=>zMS K x y H Q
theorem op_neE (hu:X.A.units<cLine):OpR X (compareOp .NotEq) (rNeE X.K):=by
 intro pins s σ H x y v u Q I rx ry h;obtain⟨a,b,xs,rfl,rfl,ha,hb,q⟩:=h;cases rx;cases ry;obtain⟨its,r,pl,hz⟩:=I.list ha;obtain⟨its2,r2,pl2,hz2⟩:=I.list hb;have l1:=r.length;have l2:=r2.length;cases xs with
 | nil=>refine PySem.EqBoolInt.of_rcne (SeqAt.RcNeAt.lists (e:=fun _=>true) pl.isList pl2.isList (by rw[zU,zU,<-l1,<-l2]) hu (fun j a b=>absurd a (by rw[zU,<-l1];exact zBH _))) ⟨.bl _,H,I,rfl,?_⟩;rw[zU,<-l1];exact q
 | cons x xs=>refine PySem.EqBoolInt.of_rcne (SeqAt.RcNeAt.lists_lengths pl.isList pl2.isList (by rw[zU,zU,<-l1,<-l2];rfl) hu) ⟨.bl _,H,I,rfl,?_⟩;exact q
theorem op_eqE (hu:X.A.units<cLine):OpR X (compareOp .Eq) (rEqE X.K):=by
 intro pins s σ H x y v u Q I rx ry h;obtain⟨a,b,xs,rfl,rfl,ha,hb,q⟩:=h;cases rx;cases ry;obtain⟨its,r,pl,hz⟩:=I.list ha;obtain⟨its2,r2,pl2,hz2⟩:=I.list hb;have l1:=r.length;have l2:=r2.length;cases xs with
 | nil=>refine SeqAt.eq_listAt (e:=fun _=>true) pl.isList pl2.isList (by rw[zU,zU,<-l1,<-l2]) hu (fun j a b=>absurd a (by rw[zU,<-l1];exact zBH _)) ⟨.bl _,H,I,rfl,?_⟩;rw[zU,<-l1];exact q
 | cons x xs=>refine SeqAt.eq_list_lengthsAt pl.isList pl2.isList (by rw[zU,zU,<-l1,<-l2];rfl) hu ⟨.bl _,H,I,rfl,?_⟩;exact q
end
end L2
namespace L2
open PySem PyProof.Rows
noncomputable def Kp (s0:Shared)(h:Heap):Prop:=∀b o,s0.heap.get? b=some o->h.get? b=some o
structure MinIt (prog:Program)(w:World)(A:Around)(s0:Shared)(I:Addr)(its:List Value)(itAt:Nat->Heap->Prop):Prop where
 stay:∀j h h',itAt j h->h'.get? I=h.get? I->itAt j h'
 next:∀(j:Nat)(h:Heap)(tk:Nat)(v:Value)(Q:Option Value->Shared->Prop)(E:vSP),Kp s0 h->itAt j h->its[j]?=some v ->
  (∀h',itAt (j+1) h'->(∀b,b≠I->h'.get? b=h.get? b)->Q (some v) { s0 with heap:=h',toks:=tk })->wpAny (model prog w) A (pyNext (.ref I)) Q E { s0 with heap:=h,toks:=tk }
 fin:∀(j:Nat)(h:Heap)(tk:Nat)(Q:Option Value->Shared->Prop)(E:vSP),Kp s0 h->itAt j h->its[j]?=none ->
  (∀h',(∀b o,b≠I->h.get? b=some o->h'.get? b=some o)->Q none { s0 with heap:=h',toks:=tk })->wpAny (model prog w) A (pyNext (.ref I)) Q E { s0 with heap:=h,toks:=tk }
section
variable {prog:Program}{w:World}{A:Around}{s0:Shared}{I S:Addr}{its:List Value}{itAt:Nat->Heap->Prop}
theorem Kp.upd {h:Heap}{f:Obj->Obj}(K:Kp s0 h)(hS:s0.heap.objs.size<=S):Kp s0 (h.update S f):=fun b o e=>by rw[zB2 _ _ _ _ (zb (zq (zW e) hS))];exact K b o e
theorem Kp.but {h h':Heap}(K:Kp s0 h)(hI:s0.heap.objs.size<=I)(k:∀b o,b≠I->h.get? b=some o->h'.get? b=some o):Kp s0 h':=fun b o e=>
 k b o (zb (zq (zW e) hI)) (K b o e)
theorem zJw {R:Result->Shared->Prop}{kw:List (Str×Value)}(M:MinIt prog w A.in1 s0 I its itAt)(bt:Nat->Nat->Bool)(hS:s0.heap.objs.size<=S)(hI:s0.heap.objs.size<=I)(hSI:S≠I)
 (cmp:∀(i j:Nat)(vi vj:Value)(h:Heap)(tk:Nat)(Q E:vSP),Kp s0 h->its[i]?=some vi->its[j]?=some vj->Q (.bool (bt i j)) { s0 with heap:=h,toks:=tk }->wpAny (model prog w) A.in1 (richCompare .Lt vi vj) Q E { s0 with heap:=h,toks:=tk })
 (hR:∀(v:Value)(h:Heap)(tk:Nat),its[argBest bt (its.length-1)]?=some v->Kp s0 h->R (.ok (.ret v)) { s0 with heap:=h,toks:=tk })
 : ∀(r j:Nat)(h:Heap)(tk:Nat)(vb:Value)(c:Nat),its.length-(j+1)=r->j+1<=its.length->Kp s0 h->itAt (j+1) h->its[argBest bt j]?=some vb ->
  h.get? S=some { cls:=.type "list",data:=.seq #[vb,vb] c }->codeAny (model prog w) A (.builtin "min.loop" { pos:=[.ref I,.none,.ref S],kw:=kw }) R { s0 with heap:=h,toks:=tk }:=by
 intro r
 induction r with
 | zero=>intro j h tk vb c hr hj K hit hv hSo;refine codeAny_builtin PySem.F.entry_min_loop ?_;unfold Builtin.«min.loop»;refine zC (zAq hSo rfl ?_);dsimp only;refine zC (wpAny_tryCatch (M.fin (j+1) h tk _ _ K hit (zx (by omega)) fun h' k=>?_));have hS':=k S _ hSI hSo;refine zC (wpAny_updateSeq hS' rfl (zC (wpAny_letGo (zG ?_))) (by show 2<=sizeLine;decide) (by show 0<=sizeLine+1;decide));refine hR vb _ tk ?_ ((K.but hI k).upd hS);rw[show its.length-1=j by omega];exact hv
 | succ r ih=>
  intro j h tk vb c hr hj K hit hv hSo;obtain⟨x,hx⟩:∃x,its[j+1]?=some x:=⟨_,zA (by omega)⟩;refine codeAny_builtin PySem.F.entry_min_loop ?_;unfold Builtin.«min.loop»;refine zC (zAq hSo rfl ?_);dsimp only;refine zC (wpAny_tryCatch (M.next (j+1) h tk x _ _ K hit hx fun h' hit' k=>?_));have K':Kp s0 h':=K.but hI fun b o hb e=>by rw[k b hb];exact e
  have hS':h'.get? S=some { cls:=.type "list",data:=.seq #[vb,vb] c }:=by rw[k S hSI];exact hSo
  refine zC (zG ?_);refine zC (wpAny_tryCatch (zAW (zC (cmp (j+1) (argBest bt j) x vb h' tk _ _ K' hx hv ?_))));refine zC (zAW (zBU (zC (wpAny_letGo (zG ?_)))));have eb:argBest bt (j+1)=if bt (j+1) (argBest bt j)=true then j+1 else argBest bt j:=argBest.eq_2 bt j
  cases e:bt (j+1) (argBest bt j) with
  | true=>rw[if_pos e] at eb;refine zC (wpAny_updateSeq hS' rfl (zC (wpAny_letGo (zG ⟨rfl,?_⟩))) (by show 2<=sizeLine;decide) (by show 2<=sizeLine+1;decide));exact ih (j+1) _ tk x c (by omega) (by omega) (K'.upd hS) (M.stay _ _ _ hit' (zB2 _ _ _ _ (Ne.symm hSI))) (by rw[eb];exact hx) (zBJ _ hS' rfl)
  | false=>rw[e,if_neg (by decide)] at eb;refine zC (wpAny_letGo (zG ⟨rfl,?_⟩));exact ih (j+1) h' tk vb c (by omega) (by omega) K' hit' (by rw[eb];exact hv) hS'
theorem zEq {R:Result->Shared->Prop}{d:Value}(M:MinIt prog w A.in1 s0 I its itAt)(bt:Nat->Nat->Bool)(hS:s0.heap.objs.size<=S)(hI:s0.heap.objs.size<=I)(hSI:S≠I)
 (cmp:∀(i j:Nat)(vi vj:Value)(h:Heap)(tk:Nat)(Q E:vSP),Kp s0 h->its[i]?=some vi->its[j]?=some vj->Q (.bool (bt i j)) { s0 with heap:=h,toks:=tk }->wpAny (model prog w) A.in1 (richCompare .Lt vi vj) Q E { s0 with heap:=h,toks:=tk })
 (hR:∀(v:Value)(h:Heap)(tk:Nat),its[argBest bt (its.length-1)]?=some v->Kp s0 h->R (.ok (.ret v)) { s0 with heap:=h,toks:=tk })
 (h0:its=[]->∀(h:Heap)(tk:Nat),Kp s0 h->R (.ok (.ret d)) { s0 with heap:=h,toks:=tk })
 (h:Heap)(tk:Nat)(c:Nat)(K:Kp s0 h)(hit:itAt 0 h)(hSo:h.get? S=some { cls:=.type "list",data:=.seq #[] c }):
 codeAny (model prog w) A (.builtin "min.loop" { pos:=[.ref I,.none,.ref S],kw:=[(Str.ofString "default",d)] }) R { s0 with heap:=h,toks:=tk }:=by
 refine codeAny_builtin PySem.F.entry_min_loop ?_;unfold Builtin.«min.loop»;refine zC (zAq hSo rfl ?_);dsimp only;cases e:its with
 | nil=>subst e;refine zC (wpAny_tryCatch (M.fin 0 h tk _ _ K hit rfl fun h' k=>?_));exact zC (zBp (zG (h0 rfl h' tk (K.but hI k))))
 | cons x xs=>
  have hx:its[0]?=some x:=by rw[e];rfl
  refine zC (wpAny_tryCatch (M.next 0 h tk x _ _ K hit hx fun h' hit' k=>?_));have K':Kp s0 h':=K.but hI fun b o hb e=>by rw[k b hb];exact e
  have hS':h'.get? S=some { cls:=.type "list",data:=.seq #[] c }:=by rw[k S hSI];exact hSo
  refine zC (zG ?_);refine zC (wpAny_updateSeq hS' rfl (zG ⟨rfl,?_⟩) (by show 0<=sizeLine;decide) (by show 2<=sizeLine+1;decide));refine zJw M bt hS hI hSI cmp hR (its.length-1) 0 _ tk x (c+1) rfl (by rw[e];simp) (K'.upd hS) (M.stay _ _ _ hit' (zB2 _ _ _ _ (Ne.symm hSI))) hx (zBJ _ hS' rfl)
end
variable {A:Around}{s:Shared}
theorem wpAny_of_eq {α:Type}{M:Model}{E:vSP}{m m':Sem α}{Q:α->Shared->Prop}(e:m=m')(h:wpAny M A m' Q E s):wpAny M A m Q E s:=by subst e;exact h
theorem zEY {O:KeyOrd}(ky:Nat->O.α):∀k,argBest (fun i j=>O.blt (ky i) (ky j)) k<=k/\∀j,j<=k->O.blt (ky j) (ky (argBest (fun i j=>O.blt (ky i) (ky j)) k))=false
 | 0=>⟨zK _,fun j hj=>by obtain rfl:j=0:=(by omega);exact O.irrefl _⟩
 | k+1=>by
  obtain⟨h1,h2⟩:=zEY ky k;rw[argBest.eq_2];cases e:O.blt (ky (k+1)) (ky (argBest (fun i j=>O.blt (ky i) (ky j)) k)) with
  | true=>
   rw[if_pos rfl];refine⟨zK _,fun j hj=>?_⟩;by_cases c:j=k+1
   . subst c;exact O.irrefl _
   . cases e2:O.blt (ky j) (ky (k+1)) with
     | false=>rfl
     | true=>rw[<-h2 j (by omega)];exact (O.trans _ _ _ e2 e).symm
  | false=>
   rw[if_neg (by decide)];refine⟨by omega,fun j hj=>?_⟩;by_cases c:j=k+1
   . subst c;exact e
   . exact h2 j (by omega)
theorem zGQ {prog:Program}{w:World}{A:Around}{s:Shared}{p:Addr}{its:List Value}{d:Value}{Q E:vSP}(hA:A.handled=none)(bt:Nat->Nat->Bool)(hp:s.heap.IsList p its.toArray\/s.heap.IsTuple p its.toArray)
 (cmp:∀(i j:Nat)(vi vj:Value)(h:Heap)(tk:Nat)(Q E:vSP),Kp s h->its[i]?=some vi->its[j]?=some vj->Q (.bool (bt i j)) { s with heap:=h,toks:=tk }->wpAny (model prog w) A.in1 (richCompare .Lt vi vj) Q E { s with heap:=h,toks:=tk })
 (hR:∀(v:Value)(h:Heap)(tk:Nat),its[argBest bt (its.length-1)]?=some v->Kp s h->Q v { s with heap:=h,toks:=tk })
 (h0:its=[]->∀(h:Heap)(tk:Nat),Kp s h->Q d { s with heap:=h,toks:=tk }):
 wpAny (model prog w) A (call (.builtin "min") [.ref p] [(Str.ofString "default",d)]) Q E s:=by
 refine wpAny_call (codeAny_call_builtin PySem.F.plain_min PySem.F.entry_min (wpAny_of_eq (show checkBuiltinCall "min" { pos:=[.ref p],kw:=[(Str.ofString "default",d)] }=pure () from rfl) (zG ?_)));unfold Builtin.min;refine zC (wpAny_of_eq (show Builtin.Builtins.bindParams "min" ["key", "default"] 0 { kw:=[(Str.ofString "default",d)] }=pure [none,some d] from rfl) (zG ?_));dsimp only;refine zC (zG ?_);have kp0:∀(o1 o2:Obj),Kp s ((s.heap.push o1).push o2):=fun o1 o2 b o e=>zN _ (zN _ e);rcases hp with hp | hp
 . refine zC (wpAny_pyIter_list hp (zC (wpAny_newList (zG ⟨rfl,?_⟩) (by show 0<=sizeLine;decide))));have hSe:(s.heap.push { cls:=.type "list_iterator",data:=.fields #[.ref p,.int 0 0] }).objs.size=s.heap.objs.size+1:=zAU ..;rw[hSe];refine zEq (s0:=s) (I:=s.heap.objs.size) (S:=s.heap.objs.size+1) (itAt:=fun j h=>h.IsListIter s.heap.objs.size p j) ⟨fun j h h' a e=>?_,fun j h tk v Q E K hit hv q=>?_,fun j h tk Q E K hit hv q=>?_⟩ bt (zBD _) (zK _) (Nat.succ_ne_self _) cmp hR h0 _ s.toks 0 (kp0 _ _) ?_ ?_
   . obtain⟨o,ho,hc⟩:=a;exact⟨o,by rw[e];exact ho,hc⟩
   . obtain⟨o,ho,hc⟩:=hp;exact wpAny_pyNext_list_item hit ⟨o,K _ _ ho,hc⟩ (by rw[zAf];exact hv) fun h' a b=>q h' a fun c hc=>b.2 c hc
   . obtain⟨o,ho,hc⟩:=hp;exact wpAny_pyNext_list_end hA hit ⟨o,K _ _ ho,hc⟩ (by rw[zAf];exact hv) fun h' b=>q h' b
   . exact⟨_,zN _ (zX _ rfl),rfl,rfl⟩
   . rw[<-hSe];exact zX _ rfl
 . refine zC (wpAny_pyIter_tuple hp (zC (wpAny_newList (zG ⟨rfl,?_⟩) (by show 0<=sizeLine;decide))));have hSe:(s.heap.push { cls:=.type "tuple_iterator",data:=.fields #[.ref p,.int 0 0] }).objs.size=s.heap.objs.size+1:=zAU ..;rw[hSe];refine zEq (s0:=s) (I:=s.heap.objs.size) (S:=s.heap.objs.size+1) (itAt:=fun j h=>h.IsTupleIter s.heap.objs.size p j) ⟨fun j h h' a e=>?_,fun j h tk v Q E K hit hv q=>?_,fun j h tk Q E K hit hv q=>?_⟩ bt (zBD _) (zK _) (Nat.succ_ne_self _) cmp hR h0 _ s.toks 0 (kp0 _ _) ?_ ?_
   . obtain⟨o,ho,hc⟩:=a;exact⟨o,by rw[e];exact ho,hc⟩
   . obtain⟨o,ho,hc⟩:=hp;exact wpAny_pyNext_tuple_item hit ⟨o,K _ _ ho,hc⟩ (by rw[zAf];exact hv) fun h' a b=>q h' a fun c hc=>b.2 c hc
   . obtain⟨o,ho,hc⟩:=hp;exact wpAny_pyNext_tuple_end hA hit ⟨o,K _ _ ho,hc⟩ (by rw[zAf];exact hv) fun h' b=>q h' b
   . exact⟨_,zN _ (zX _ rfl),rfl,rfl⟩
   . rw[<-hSe];exact zX _ rfl
section
variable {X:Cx}
inductive zJa (K:PySem.W.Frag)(x:V)(dv:V)(H:Hp)(Q:VK):Prop
 | mk:∀(p:Addr)(ys:List V),(x=.ref p)->((SqL K H p ys\/SqT K H p ys))->((ys=[]->Q dv H))->(((∃ks,zAc H ys ks/\∀(i:Nat)(y:V)(k:List Int),ys[i]?=some y->ks[i]?=some k->(∀k'∈ks,HT.lexLt k' k=false)->Q y H)\/(∃ns:List Int,ys=ns.map V.int/\∀n∈ns,(∀m∈ns,n<=m)->Q (.int n) H)))->zJa K x dv H Q
noncomputable def rMinD (K:PySem.W.Frag)(x dv:V)(H:Hp)(Q:VK):Prop:=zJa K x dv H Q
inductive zIg (K:PySem.W.Frag)(td:TE)(σ:St)(Q:VK)(vs:List V)(H1:Hp):Prop
 | mk:∀x,(vs=[x])->(td σ H1 fun dv H2=>rMinD K x dv H2 Q)->zIg K td σ Q vs H1
noncomputable def tMinD (K:PySem.W.Frag)(t:TA)(td:TE):TE:=fun σ H Q=>t σ H fun vs H1=>zIg K td σ Q vs H1
theorem zNT {e de:Expr}{t:TA}{td:TE}{pos np kpos:Pos}(hc:X.calm=true)(hu:X.A.units+1<cLine)(hg:Gl X "min") (hm:X.mg "min"=none) (he:PA X [e] t)(hd:PE X de td)
 (hs1:backTo pos (starEach [e] X.env)=(false,eval e X.env)::backTo pos (starEach [] X.env):=by rfl)(hs2:(backTo pos (starEach [e] X.env)).any (·.1)=false:=by rfl):
 PE X (.Call (.Name "min" np) [e] [⟨some "default",de,kpos⟩] pos) (tMinD X.K t td):=by
 intro pins s σ H Q I h;refine zBd (zC7 I hg hm (by decide +kernel:bootBuiltins "min"=some (.builtin "min")) ?_);refine PyProof.Rows.callWith_kw (thn (he pos pins s σ H _ I h) fun us s1 ⟨vs,H1,I1,r,q1⟩=>?_) hs1 hs2;obtain⟨x,rfl,q1⟩:=q1;obtain⟨u,rfl,rx⟩:=zC8 r;show wpAny _ _ (evalAll ((do let v <-eval de X.env;standAt pos;pure v)::[])) _ _ s1
 refine wpAny_evalAll_cons (zC (thn (hd pins s1 σ H1 _ I1 q1) fun ud s2 ⟨dv,H2,I2,rd,q2⟩=>zC (wpAny_standAt (zG (wpAny_evalAll_nil ?_)))));show wpAny _ _ (call (.builtin "min") [u] [(Str.ofString "default",ud)]) _ _ s2;obtain⟨p,ys,rfl,hp,q0,hk⟩:=q2;cases rx;obtain⟨its,rv,hpp⟩:∃its:List Value,zBS ys its/\(s2.heap.IsList p its.toArray\/s2.heap.IsTuple p its.toArray):=by
  rcases hp with hp | hp
  . obtain⟨its,r',pl,_⟩:=I2.list hp;exact⟨its,r',.inl pl.isList⟩
  . obtain⟨its,r',pl,_⟩:=I2.tuple hp;exact⟨its,r',.inr pl⟩
 have hlen:=rv.length;have e0:its=[]->ys=[]:=fun z=>List.length_eq_zero_iff.mp (by rw[hlen,z];rfl);rcases hk with ⟨ks,T,q⟩ | ⟨ns,rfl,q⟩
 . have hl:=T.length;refine zGQ (I2.ok.hd hc) (fun i j=>zLR.blt (ks.getD i []) (ks.getD j [])) hpp (fun i j vi vj h tk Q E K hi hj q=>?_) (fun v h tk hv K=>?_) (fun z h tk K=>⟨dv,H2,I2.kept K,rd,q0 (e0 z)⟩)
   . have look:∀(i:Nat)(v:Value),its[i]?=some v->∃(p:Addr)(k:List Int)(us:List Value),v=.ref p/\ks[i]?=some k/\IntsAre us k/\IsTup h p us.toArray:=fun i v hv=>by
      have hi:i<ys.length:=by have:=(zF.mp hv).1;omega
      obtain⟨p,k,e1,e2,e3,_⟩:=T.get (i:=i) (x:=ys[i]) (by simp[hi]);obtain⟨u,hu,ru⟩:=rv.get (i:=i) (x:=ys[i]) (by simp[hi]);rw[hv] at hu;cases hu;rw[e1] at ru;cases (show v=Value.ref p from ru);obtain⟨_,us,rv',o,ho,hc⟩:=I2.hok p _ e3;exact⟨p,k,us,rfl,e2,zBy rv',o,K _ _ ho,hc⟩
     obtain⟨p1,k1,us1,rfl,g1,i1,t1⟩:=look i vi hi;obtain⟨p2,k2,us2,rfl,g2,i2,t2⟩:=look j vj hj;refine HT.lt_tupInts (ns:=k1) (ms:=k2) t1 t2 i1 i2 hu ?_;have:zLR.blt (ks.getD i []) (ks.getD j [])=HT.lexLt k1 k2:=by rw[zE,zE,g1,g2];rfl
     rw[<-this];exact q
   . obtain⟨b1,b2⟩:=zEY (O:=zLR) (fun i=>ks.getD i []) (its.length-1);have hlt:=(zF.mp hv).1;generalize eb:argBest (fun i j=>zLR.blt (ks.getD i []) (ks.getD j [])) (its.length-1)=bi at hv hlt b1 b2;have hy:bi<ys.length:=by omega
     obtain⟨u,hu,ru⟩:=rv.get (i:=bi) (x:=ys[bi]) (by simp[hy]);rw[hv] at hu;cases hu;obtain⟨pa,k,e1,e2,e3,_⟩:=T.get (i:=bi) (x:=ys[bi]) (by simp[hy]);refine⟨ys[bi],H2,I2.kept K,ru,q bi ys[bi] k (by simp[hy]) e2 fun k' hk'=>?_⟩;obtain⟨j,hj,ej⟩:=zj hk';have:=b2 j (by omega);have g1:ks.getD j []=k':=by rw[zE,zA hj,ej];rfl
     have g2:ks.getD bi []=k:=by rw[zE,e2];rfl
     rw[g1,g2] at this;exact this
 . have hI:IntsAre its ns:=zBy rv;have hl:=hI.length;have look:∀(i:Nat)(v:Value),its[i]?=some v->∃t,v=.int (ns.getD i 0) t:=fun i v hv=>by
    have hi:i<ns.length:=by have:=(zF.mp hv).1;omega
    obtain⟨u,hu,ru⟩:=rv.get (i:=i) (x:=.int ns[i]) (by simp[hi]);rw[hv] at hu;cases hu;obtain⟨t,rfl⟩:=(show ∃t,v=Value.int ns[i] t from ru);exact⟨t,by rw[zE,zA hi];rfl⟩
   refine zGQ (I2.ok.hd hc) (fun i j=>decide (ns.getD i 0<ns.getD j 0)) hpp (fun i j vi vj h tk Q E K hi hj q=>?_) (fun v h tk hv K=>?_) (fun z h tk K=>⟨dv,H2,I2.kept K,rd,q0 (e0 z)⟩)
   . obtain⟨t1,rfl⟩:=look i vi hi;obtain⟨t2,rfl⟩:=look j vj hj;exact PyProof.Rows.lt_int q
   . obtain⟨b1,b2⟩:=argBest_lt (fun i=>ns.getD i 0) (its.length-1);have hlt:=(zF.mp hv).1;generalize eb:argBest (fun i j=>decide (ns.getD i 0<ns.getD j 0)) (its.length-1)=bi at hv hlt b1 b2;obtain⟨t,rfl⟩:=look bi v hv;have hy:bi<ns.length:=by omega
     refine⟨.int (ns.getD bi 0),H2,I2.kept K,⟨t,rfl⟩,q _ ?_ fun m hm=>?_⟩
     . rw[zE,zA hy];exact zBA hy
     . obtain⟨j,hj,ej⟩:=zj hm;have:=b2 j (by omega);have g1:ns.getD j 0=m:=by rw[zE,zA hj,ej];rfl
       rw[g1] at this;exact this
end
variable {prog:Program}{w:World}
theorem zNp {l:Addr}{its:Array Value}{Q:Option Value->Shared->Prop}{E:vSP}(hA:A.handled=none)(hl:PlainL s.heap l its)
 (q:∀h' tk,Kp s h'->Q none { s with heap:=h',toks:=tk }):wpAny (model prog w) A (getAttr? (.ref l) (Str.ofString "keys")) Q E s:=by
 have ty:∀tk,Shared.TypeIs { s with toks:=tk } (.ref l) "list" := fun tk=>by obtain⟨o,ho,hc,_⟩:=hl.isList;exact⟨o,ho,hc⟩
 unfold getAttr?;refine zC (zC (wpAny_fresh (zG ?_)));unfold getAttrBy?;refine zC (wpAny_attempt ?_);unfold getAttrBy;refine zAW (zC (zBv (ty _) (zC (wpAny_of_eq (show typeLookup (.type "list") (Str.ofString "__getattribute__")=pure (some (.builtin "list.__getattribute__")) from rfl) (zG ?_)))));show wpAny _ _ (getAttrByItsOwn _ _ _ _ _ _) _ _ _;unfold getAttrByItsOwn;refine zC (wpAny_of_eq (show hookBefore (.type "list")=pure none from rfl) (zG (zC (wpAny_attempt (zAW ?_)))));show wpAny _ _ (boundAndCalled _ _ _) _ _ _;unfold boundAndCalled;refine zC (wpAny_of_eq (show bindSpecial (.builtin "list.__getattribute__") (.ref l)=pure (.builtin "list.__getattribute__",[.ref l]) from rfl) (zG ?_));refine wpAny_call (codeAny_call_builtin (by decide +kernel) PySem.am_entry_list_getattribute ?_);refine zC (wpAny_isInstance (ty _) (b:=true) rfl ?_);refine wpAny_of_eq (m':=pure ()) rfl (zG ?_);unfold Builtin.«object.__getattribute__»;refine zC (wpAny_of_eq (m':=pure (Value.ref l,[Value.str (Str.ofString "keys") s.toks])) rfl (zG ?_));refine zC (zG (zC (zBv (ty _) (zC ?_))));unfold Builtin.ObjectAttr.find;refine zC (wpAny_of_eq (m':=pure none) rfl (zG (zC (zG (zC (zG ?_))))));obtain⟨o,n,ho,hc,hd,hdat⟩:=id hl;obtain⟨cls,dict,data,slots⟩:=o;obtain rfl:cls=_:=hc;obtain rfl:dict=_:=hd;obtain rfl:data=_:=hdat
 refine zC (zC (zC (wpAny_loadPart ho (zC (wpAny_loadPart ho (zG (zG ?_)))))));refine zC (wpAny_of_eq (m':=pure ()) rfl (zG (zC (zBp (zG ?_)))));show wpAny _ _ (Builtin.ObjectAttr.noSuchAttribute (Value.ref l) (Str.ofString "keys")) _ _ _;unfold Builtin.ObjectAttr.noSuchAttribute;refine zC (zC (zC (zBv (ty _) (wpAny_of_eq (m':=pure (Value.type "list")) rfl (zG (wpAny_of_eq (m':=pure "list") rfl (zG ?_)))))));refine wpAny_raiseAttrError hA (fun h' tk e ne=>?_) (by decide +kernel);obtain⟨t,u,he⟩:=ne.there;have tye:∀tk,Shared.TypeIs { s with heap:=h',toks:=tk } (.ref e) "AttributeError" := fun tk=>⟨_,he,rfl⟩;show wpAny _ _ (getattributeRaised _ _ _ _ _ _ _) _ _ _;unfold getattributeRaised;refine zC (wpAny_isInstance (tye _) (b:=true) rfl ?_);refine zC (wpAny_of_eq (m':=pure none) rfl (zG ?_));refine zC (wpAny_throw ?_);refine zC (wpAny_isInstance (tye _) (b:=true) rfl (zG ?_));exact q h' tk ne.keeps
theorem zFt (a:Args):(Code.builtin "dict.update.loop" a).quiet=true:=plainId_quiet (id := "dict.update.loop") (by decide +kernel) a
theorem zH1 {κ:Type} [DecidableEq κ] (kvs:List (κ×Value))(k:κ)(v:Value):(stored kvs k v).length<=kvs.length+1:=by
 unfold stored;split
 . rw[zB];omega
 . rw[zJ];exact zK _
noncomputable def zEc (qs:List (Key×Value)):List (Key×Value):=qs.foldl (fun a q=>stored a q.1 q.2) []
theorem zH2 (qs:List (Key×Value))(q:Key×Value):zEc (qs++[q])=stored (zEc qs) q.1 q.2:=by unfold zEc;rw[List.foldl_append];rfl
theorem zIm (qs:List (Key×Value)):(zEc qs).length<=qs.length:=by
 have:∀(qs:List (Key×Value))(a:List (Key×Value)),(qs.foldl (fun a q=>stored a q.1 q.2) a).length<=a.length+qs.length:=by
  intro qs
  induction qs with
  | nil=>intro a;exact zK _
  | cons q qs ih=>intro a;have h1:=ih (stored a q.1 q.2);have h2:=zH1 a q.1 q.2;rw[List.foldl_cons,zt];omega
 have:=this qs [];simpa [zEc] using this
section
variable {prog:Program}{w:World}{A:Around}{s0:Shared}{D I l:Addr}{its:List Value}{qs:List (Key×Value)}
theorem zKQ {R:Result->Shared->Prop}(hA:A.handled=none)(hD:s0.heap.objs.size<=D)(hI:s0.heap.objs.size<=I)(hDI:D≠I)(hl:s0.heap.IsList l its.toArray)(hz:its.length<=sizeLine)(hqs:qs.length=its.length)
 (look:∀(i:Nat)(v:Value),its[i]?=some v->∃(p:Addr)(kv u:Value)(k:Key),v=.ref p/\IsTup s0.heap p #[kv,u]/\(zA2 prog w).is k kv=true/\qs[i]?=some (k,u))
 (hR:∀(h:Heap)(tk:Nat),Kp s0 h->h.DictOf (zA2 prog w) D (zEc qs)->R (.ok (.ret .none)) { s0 with heap:=h,toks:=tk }):
 ∀(r j:Nat)(h:Heap)(tk:Nat),its.length-j=r->j<=its.length->Kp s0 h->h.IsListIter I l j->h.DictOf (zA2 prog w) D (zEc (qs.take j)) ->
  codeAny (model prog w) A (.builtin "dict.update.loop" { pos:=[.ref D,.ref I,rawInt j,.none] }) R { s0 with heap:=h,toks:=tk }:=by
 have hl':∀h,Kp s0 h->h.IsList l its.toArray:=fun h K=>by obtain⟨o,ho,hc⟩:=hl;exact⟨o,K _ _ ho,hc⟩
 intro r
 induction r with
 | zero=>intro j h tk hr hj K hit hd;refine codeAny_builtin (b:=Builtin.«dict.update.loop») (by rfl) ?_;unfold Builtin.«dict.update.loop»;refine zC (wpAny_pyNext_list_end hA hit (hl' h K) (by rw[zAf];exact zx (by omega)) fun h' b=>?_);refine zC (wpAny_of_eq (m':=pure ()) rfl (zG (zG ?_)));refine hR h' tk (K.but hI b) ?_;obtain⟨o,es,ep,ho,hrest⟩:=hd;rw[zh (by omega)] at hrest;exact⟨o,es,ep,b D o hDI ho,hrest⟩
 | succ r ih=>
  intro j h tk hr hj K hit hd;obtain⟨x,hx⟩:∃x,its[j]?=some x:=⟨_,zA (by omega)⟩;obtain⟨p,kv,u,k,rfl,tp,hk,hq⟩:=look j x hx;refine codeAny_builtin (b:=Builtin.«dict.update.loop») (by rfl) ?_;unfold Builtin.«dict.update.loop»;refine zC (wpAny_pyNext_list_item hit (hl' h K) (by rw[zAf];exact hx) fun h' hit' b=>?_);have K':Kp s0 h':=K.but hI fun c o hc e=>by rw[b.2 c hc];exact e
  obtain⟨o,ho,hc,n,hdat⟩:=tp;refine zC (zAW (zC (wpAny_tryCatch ?_)));unfold Builtin.Dict.pairItems;refine zC (zBv (T := "tuple") ⟨o,K' _ _ ho,hc⟩ ?_);refine zC (zAq (K' _ _ ho) hdat (zG ?_));have hd':h'.DictOf (zA2 prog w) D (zEc (qs.take j)):=by obtain⟨o,es,ep,ho,hrest⟩:=hd;exact⟨o,es,ep,by rw[b.2 D hDI];exact ho,hrest⟩
  refine zAW (wpAny_dictSet_pairs hk hd' (fun h2 hd2 b2=>?_) (zAM (zIm _) (by rw[zr];omega)));refine zG ⟨zFt _,?_⟩;refine ih (j+1) h2 (tk+1) (by omega) (by omega) (fun c o e=>?_) ?_ ?_
  . rw[b2.2 c (zb (zq (zW e) hD))];exact K' c o e
  . obtain⟨o,ho,hc⟩:=hit';exact⟨o,by rw[b2.2 I (Ne.symm hDI)];exact ho,hc⟩
  . rw[zy,hq];show h2.DictOf _ D (zEc (qs.take j++[(k,u)]));rw[zH2];exact hd2
end
theorem zIP (h:Heap):(h.push { cls:=.type "dict",data:=.dict #[] }).DictOf (zA2 prog w) h.objs.size []:=
 ⟨_,#[],0,zX _ rfl,⟨rfl,rfl,rfl⟩,rfl,by
  first | exact KeysOf.nil | (intro x hx;simp at hx) | trivial | decide,by
  first | exact .nil | trivial,List.nodup_nil⟩
theorem zEi {l:Addr}{its:List Value}{qs:List (Key×Value)}{Q E:vSP}(hA:A.handled=none)(hl:PlainL s.heap l its.toArray)(hz:its.length<=sizeLine)(hqs:qs.length=its.length)
 (look:∀(i:Nat)(v:Value),its[i]?=some v->∃(p:Addr)(kv u:Value)(k:Key),v=.ref p/\IsTup s.heap p #[kv,u]/\(zA2 prog w).is k kv=true/\qs[i]?=some (k,u))
 (q:∀(D:Addr)(h:Heap)(tk:Nat),s.heap.objs.size<=D->Kp s h->h.DictOf (zA2 prog w) D (zEc qs)->Q (.ref D) { s with heap:=h,toks:=tk }):
 wpAny (model prog w) A (call (.type "dict") [.ref l]) Q E s:=by
 refine callType_codes (Q₁:=fun obj s₁=>obj=.ref s.heap.objs.size/\s₁={ s with heap:=s.heap.push { cls:=.type "dict",data:=.dict #[] } }) PySem.F.kt_called_dict (PySem.F.kt_typeCall_dict_1 _) PySem.F.entry_dict_init ?_ (fun obj s₁ e=>?_)
 . refine codeAny_call_builtin (by decide +kernel) PySem.F.kt_entry_dict_new (wpAny_of_eq (PySem.F.kt_newCall_dict_1 _) (zG ?_));unfold Builtin.«dict.__new__»;refine zC (wpAny_of_eq (m':=pure true) rfl (zG (zC (wpAny_of_eq (m':=pure true) rfl (zG (zC (wpAny_of_eq (m':=pure [Value.type "dict",Value.type "object"]) rfl (zG ?_))))))));exact zC (wpAny_newObjAsIs_type (zG ⟨rfl,rfl⟩))
 . obtain⟨rfl,rfl⟩:=e;refine⟨⟨_,zX _ rfl,rfl⟩,PySem.F.args_dict_init_2 _ _,?_⟩;unfold Builtin.«dict.__init__»;have h0:Kp s (s.heap.push { cls:=.type "dict",data:=.dict #[] }):=fun b o e=>zN _ e;have hl1:∀h,Kp s h->PlainL h l its.toArray:=fun h K=>by obtain⟨o,n,ho,hr⟩:=hl;exact⟨o,n,K _ _ ho,hr⟩
   refine zC (zC (zC (zBv (T := "dict") ⟨_,zX _ rfl,rfl⟩ (zG (zC (zG (zG ?_)))))));show wpAny _ _ (Builtin.Dict.updateFrom "dict.__init__" s.heap.objs.size (.ref l) [] .none) _ _ _;unfold Builtin.Dict.updateFrom;refine zC (zBv (T := "list") (let ⟨o,ho,hc,_⟩:=(hl1 _ h0).isList;⟨o,ho,hc⟩) ?_);refine zC (zNp hA (hl1 _ h0) fun h1 tk1 K1=>?_);have K1':Kp s h1:=fun b o e=>K1 b o (h0 b o e);refine zC (zBp (zC (wpAny_pyIter_list (hl1 _ K1').isList (zG ⟨zFt _,?_⟩))));have hsz:s.heap.objs.size<h1.objs.size:=zW (K1 _ _ (zX _ rfl));refine zKQ (A:=A.in1) (s0:=s) (l:=l) (its:=its) (qs:=qs) hA (zK _) (zA9 hsz) (zb hsz) hl.isList hz hqs look ?_ its.length 0 _ tk1 rfl (zk _) (fun b o e=>zN _ (K1' b o e)) ?_ ?_
   . exact fun h tk K hd=>⟨rfl,q _ h tk (zK _) K hd⟩
   . exact⟨_,zX _ rfl,rfl,rfl⟩
   obtain⟨o,es,ep,ho,hr⟩:=zIP (prog:=prog) (w:=w) s.heap;exact⟨o,es,ep,zN _ (K1 _ _ ho),hr⟩
section
variable {X:Cx}
noncomputable def zHr (H:Hp)(ys:List V)(ps:List (Key×V)):Prop:=ps.length=ys.length/\∀(i:Nat)(y:V),ys[i]?=some y->∃(p:Addr)(k:Key)(v:V),y=.ref p/\H p=some (.tup [kV k,v])/\ps[i]?=some (k,v)
noncomputable def zD3 (ps:List (Key×V)):List (Key×V):=ps.foldl (fun a p=>zCs a p.1 p.2) []
theorem zFv:∀(ps:List (Key×V))(qs:List (Key×Value))(a:List (Key×V))(b:List (Key×Value)),KV ps qs->KV a b->KV (ps.foldl (fun a p=>zCs a p.1 p.2) a) (qs.foldl (fun a q=>stored a q.1 q.2) b)
 | [],[],_,_,_,h=>h
 | p::ps,q::qs,a,b,h,h'=>by
  cases h with
  | cons h1 h2=>rw[List.foldl_cons,List.foldl_cons];refine zFv ps qs _ _ h2 ?_;rw[<-h1.1];exact KV.put h' p.1 h1.2
 | [],_::_,_,_,h,_=>by cases h
 | _::_,[],_,_,h,_=>by cases h
theorem zIA (ps:List (Key×V)):(zD3 ps).length<=ps.length:=by
 have:∀(ps:List (Key×V))(a:List (Key×V)),(ps.foldl (fun a p=>zCs a p.1 p.2) a).length<=a.length+ps.length:=by
  intro ps
  induction ps with
  | nil=>intro a;exact zK _
  | cons q qs ih=>intro a;have h1:=ih (zCs a q.1 q.2);have h2:=zBw a q.1 q.2;rw[List.foldl_cons,zt];omega
 have:=this ps [];simpa [zD3] using this
inductive zNJ (K:PySem.W.Frag)(xs:List V)(H:Hp)(Q:VK):Prop
 | mk:∀l ys ps,(xs=[.ref l])->(SqL K H l ys)->(zHr H ys ps)->(∀d,H d=none->Q (.ref d) (upd H d (.dK (zD3 ps))))->zNJ K xs H Q
theorem zDZ (hc:X.calm=true):zCl X (.type "dict") (zNJ X.K):=by
 intro pins s σ H xs us Q I r h;obtain⟨l,ys,ps,rfl,hq,⟨hpl,hps⟩,q⟩:=h;obtain⟨u,rfl,rx⟩:=zC8 r;cases rx;obtain⟨its,rv,pl,hz⟩:=I.list hq;have hlen:=rv.length;have both:∀(i:Nat),i<its.length->∃(p:Addr)(kv u:Value)(k:Key)(v:V),its[i]?=some (.ref p)/\IsTup s.heap p #[kv,u]/\(zA2 X.prog X.w).is k kv=true/\zBm v u/\ps[i]?=some (k,v):=fun i hi=>by
  have hy:i<ys.length:=by omega
  obtain⟨p,k,v,e1,e2,e3⟩:=hps i ys[i] (by simp[hy]);obtain⟨u,hu,ru⟩:=rv.get (i:=i) (x:=ys[i]) (by simp[hy]);rw[e1] at ru;cases (show u=Value.ref p from ru);obtain⟨_,us,rv',tp⟩:=I.hok p _ e2;obtain⟨a,b,rfl,ra,rb⟩:=zIZ rv';exact⟨p,a,b,k,v,hu,tp,zIN ra,rb,e3⟩
 obtain⟨qs,hql,hqk⟩:∃qs:List (Key×Value),qs.length=its.length/\∀(i:Nat),i<its.length->∃(p:Addr)(kv u:Value)(k:Key)(v:V),its[i]?=some (.ref p)/\IsTup s.heap p #[kv,u]/\(zA2 X.prog X.w).is k kv=true/\zBm v u/\ps[i]?=some (k,v)/\qs[i]?=some (k,u):=by
  have:∀m,m<=its.length->∃qs:List (Key×Value),qs.length=m/\∀(i:Nat),i<m->∃(p:Addr)(kv u:Value)(k:Key)(v:V),its[i]?=some (.ref p)/\IsTup s.heap p #[kv,u]/\(zA2 X.prog X.w).is k kv=true/\zBm v u/\ps[i]?=some (k,v)/\qs[i]?=some (k,u):=by
   intro m
   induction m with
   | zero=>intro _;exact⟨[],rfl,fun i hi=>absurd hi (zBH _)⟩
   | succ m ih=>
    intro hm;obtain⟨qs,h1,h2⟩:=ih (by omega);obtain⟨p,kv,u,k,v,g1,g2,g3,g4,g5⟩:=both m (by omega);refine⟨qs++[(k,u)],by rw[zJ,h1];rfl,fun i hi=>?_⟩;by_cases c:i=m
    . subst c;exact⟨p,kv,u,k,v,g1,g2,g3,g4,g5,by rw[zO (by omega),h1,zBG];rfl⟩
    . obtain⟨p,kv,u,k,v,f1,f2,f3,f4,f5,f6⟩:=h2 i (by omega);exact⟨p,kv,u,k,v,f1,f2,f3,f4,f5,by rw[zP (by omega)];exact f6⟩
  exact this its.length (zK _)
 have kv:KV ps qs:=by
  have:∀(ps:List (Key×V))(qs:List (Key×Value)),ps.length=qs.length->(∀i,i<ps.length->∃k v u,ps[i]?=some (k,v)/\qs[i]?=some (k,u)/\zBm v u)->KV ps qs:=by
   intro ps
   induction ps with
   | nil=>intro qs e _;cases qs with
    | nil=>exact .nil
    | cons _ _=>simp at e
   | cons p ps ih=>
    intro qs e h;cases qs with
    | nil=>simp at e
    | cons q qs=>obtain⟨k,v,u,h1,h2,h3⟩:=h 0 (by simp);simp at h1 h2;subst h1 h2;refine .cons ⟨rfl,h3⟩ (ih qs (by simpa using e) fun i hi=>?_);obtain⟨k,v,u,h1,h2,h3⟩:=h (i+1) (by simp;omega);exact⟨k,v,u,by simpa using h1,by simpa using h2,h3⟩
  refine this ps qs (by omega) fun i hi=>?_;obtain⟨p,kv,u,k,v,_,_,_,f4,f5,f6⟩:=hqk i (by omega);exact⟨k,v,u,f5,f6,f4⟩
 refine zEi (its:=its) (qs:=qs) (I.ok.hd hc) pl (by omega) hql (fun i v hv=>?_) (fun D h tk hD K dd=>?_)
 . obtain⟨p,kv,u,k,v',f1,f2,f3,f4,f5,f6⟩:=hqk i (zF.mp hv).1;rw[hv] at f1;cases f1;exact⟨p,kv,u,k,rfl,f2,f3,f6⟩
 . have hfr:H D=none:=I.hok.fresh hD;have zz:(zD3 ps).length<=sizeLine:=zAM (zIA ps) (by omega);refine⟨.ref D,_,I.laid (a:=D) (o:=.dK (zD3 ps)) (t':=tk) K hD (zMo zz (beq_eq_false_iff_ne.mpr (Ne.symm (zb (zq I.big hD)))) (zFv ps qs [] [] kv .nil) dd),rfl,q D hfr⟩
end
end L2
namespace L2
open PySem PySem.Spec PyProof.Rows
section
variable {X:Cx}
theorem zEo {x:Str}{T:String}{pos:Pos}(hm:X.mg x=none)(hg:Gl X x:=by rfl)(hv:bootBuiltins x=some (.type T):=by decide +kernel)(hn:x ≠ "__name__" := by decide) (hdb:(x==("__debug__" : Str))=false:=by decide):PE X (.Name x pos) (tC (.ty T)):=
 fun pins s σ H Q I h=>zC7 I hg hm hv ⟨.ty T,H,I,rfl,h⟩ hn hdb
inductive rc_11 (K:PySem.W.Frag)(xs:List V)(H:Hp)(Q:VK):Prop
 | mk:∀x T t b,(xs=[x,.ty T])->(zIV K H x t)->(PySem.W.kitOne K t (.type T)=some b)->(Q (.bl b) H)->rc_11 K xs H Q
theorem zCF:zCl X (.builtin "isinstance") (rc_11 X.K):=by intro pins s σ H xs us Q I r h;obtain⟨x,T,t,b,rfl,ty,e,q⟩:=h;obtain⟨u,w',rfl,rx,rT⟩:=zIZ r;cases (show w'=Value.type T from rT);exact zJ8 I rx ty e fun tk=>⟨.bl b,H,I.tok tk,rfl,q⟩
end
section
variable {prog:Program}{w:World}{A:Around}{s0:Shared}{I l:Addr}{bs:List Bool}
theorem zLl {R:Result->Shared->Prop}(hA:A.handled=none)(hI:s0.heap.objs.size<=I)(hl:s0.heap.IsList l (bs.map Value.bool).toArray)
 (hR:∀(h:Heap)(tk:Nat),Kp s0 h->R (.ok (.ret (.bool (bs.all id)))) { s0 with heap:=h,toks:=tk }):
 ∀(r j:Nat)(h:Heap)(tk:Nat),bs.length-j=r->j<=bs.length->Kp s0 h->h.IsListIter I l j->(bs.take j).all id=true ->
  codeAny (model prog w) A (.builtin "all.loop" { pos:=[.ref I] }) R { s0 with heap:=h,toks:=tk }:=by
 have hl':∀h,Kp s0 h->h.IsList l (bs.map Value.bool).toArray:=fun h K=>by obtain⟨o,ho,hc⟩:=hl;exact⟨o,K _ _ ho,hc⟩
 intro r
 induction r with
 | zero=>intro j h tk hr hj K hit ha;refine codeAny_builtin PySem.F.entry_all_loop ?_;unfold Builtin.«all.loop»;refine zC (wpAny_pyNext_list_end hA hit (hl' h K) (by rw[zAf];exact zx (by rw[zB];omega)) fun h' b=>?_);refine zC (zBp (zG ?_));rw[zh (by omega)] at ha;have:=hR h' tk (K.but hI b);rw[ha] at this;exact this
 | succ r ih=>
  intro j h tk hr hj K hit ha;obtain⟨x,hx⟩:∃x,bs[j]?=some x:=⟨_,zA (by omega)⟩;refine codeAny_builtin PySem.F.entry_all_loop ?_;unfold Builtin.«all.loop»;refine zC (wpAny_pyNext_list_item hit (hl' h K) (x:=.bool x) (by rw[zAf,zM,hx];rfl) fun h' hit' b=>?_);have K':Kp s0 h':=K.but hI fun c o hc e=>by rw[b.2 c hc];exact e
  refine zC (zAW (zBU (zC (wpAny_letGo ?_))));cases x with
  | true=>refine zG ⟨rfl,?_⟩;exact ih (j+1) h' tk (by omega) (by omega) K' hit' (by rw[zy,hx,List.all_append,ha];rfl)
  | false=>
   refine zC (zBp (zG ?_));have e:bs.all id=false:=by
    cases z:bs.all id with
    | false=>rfl
    | true=>have:=List.all_eq_true.mp z false (zV hx);simp at this
   have:=hR h' tk K';rw[e] at this;exact this
end
section
variable {X:Cx}
theorem zHn:∀{bs:List Bool}{its:List Value},zBS (bs.map V.bl) its->its=bs.map Value.bool
 | [],[],_=>rfl
 | b::bs,u::its,h=>by
  cases h with
  | cons h1 h2=>rw[zAa,<-zHn h2,show u=Value.bool b from h1]
 | [],_::_,h=>by cases h
 | _::_,[],h=>by cases h
inductive rc_12 (K:PySem.W.Frag)(xs:List V)(H:Hp)(Q:VK):Prop
 | mk:∀(p:Addr)(bs:List Bool),(xs=[.ref p])->(SqL K H p (bs.map V.bl))->(Q (.bl (bs.all id)) H)->rc_12 K xs H Q
theorem zFK (hc:X.calm=true):zCl X (.builtin "all") (rc_12 X.K):=by
 intro pins s σ H xs us Q I r h;obtain⟨p,bs,rfl,hq,q⟩:=h;obtain⟨u,rfl,rx⟩:=zC8 r;cases rx;obtain⟨its,r',pl,hz⟩:=I.list hq;rw[zHn r'] at pl;refine wpAny_call (codeAny_call_builtin PySem.F.plain_all PySem.F.entry_all (wpAny_of_eq (m':=pure ()) rfl (zG ?_)));unfold Builtin.all;refine zC (wpAny_of_eq (m':=pure (Value.ref p)) rfl (zG (zC (wpAny_pyIter_list pl.isList (zG ⟨rfl,?_⟩)))));refine zLl (s0:=s) (l:=p) (bs:=bs) (I.ok.hd hc) (zK _) pl.isList ?_ bs.length 0 _ s.toks rfl (zk _) (fun b o e=>zN _ e) ?_ rfl
 . exact fun h tk K=>⟨.bl _,H,I.kept K,rfl,q⟩
 . exact⟨_,zX _ rfl,rfl,rfl⟩
end
section
variable {X:Cx}
inductive zL0 (r:V->List V->Hp->VK->Prop)(t:TA)(σ:St)(Q:VK)(x:V)(H1:Hp):Prop
 | mk:((∃p ys,x=.ref p/\H1 p=some (.tup ys)))->(t σ H1 fun xs H2=>r x xs H2 Q)->zL0 r t σ Q x H1
noncomputable def tBMT (r:V->List V->Hp->VK->Prop)(to:TE)(t:TA):TE:=fun σ H Q=>to σ H fun x H1=>zL0 r t σ Q x H1
variable {o e:Expr}{es:List Expr}{to:TE}{t:TA}{name:Str}{apos cpos:Pos}{id:String}{r:V->List V->Hp->VK->Prop}
theorem pe_bmT (slot:Slot "tuple" name id) (hty:typeOf (.builtin id)=pure (.type "method_descriptor")) (hm:MtR X id r)(ho:PE X o to)(ha:PA X (e::es) t)
 (hbase:attributeBase o name X.env (eval o X.env)=eval o X.env:=by rfl)
 (hfew:((backTo cpos (starEach (e::es) X.env)).all (fun x=>!x.1) && (backToKw cpos (keywordEach [] X.env)).all (fun x=>x.1.isSome)
  && decide ((e::es).length+([]:List Keyword).length+(if ([]:List Keyword).isEmpty then 0 else 1)<30))=true:=by rfl)
 (hline:(apos.endLine==cpos.line)=true:=by rfl)(hs:starEach (e::es) X.env=(false,eval e X.env)::starEach es X.env:=by rfl)(hplain:(backTo cpos (starEach es X.env)).any (·.1)=false:=by rfl):
 PE X (.Call (.Attribute o name apos) (e::es) [] cpos) (tBMT r to t):=by
 intro pins s σ H Q I h;refine wpAny_Call_method_late hbase hfew hline rfl (thn (ho pins s σ H _ I h) fun v s1 ⟨x,H1,I1,r1,⟨p,ys,ex,hp⟩,q1⟩=>?_);subst ex;cases (show v=Value.ref p from r1);obtain⟨⟨_,o2,ho2,hd2⟩,its,rv,ob,hob,hcl,_⟩:=(show zBc X.prog X.w H1 s1.heap p (.tup ys) from I1.hok p _ hp);refine⟨"tuple",id,PySem.F.plainAttrs_tuple,slot,hty,⟨ob,hob,hcl⟩,fun a ea=>?_,?_⟩
 . cases ea;exact⟨o2,ho2,hd2⟩
 have hA:=ha cpos pins s1 σ H1 _ I1 q1;rw[hs] at hA ⊢;refine Calls.callWith_builtin (by show (false || (backTo cpos (starEach es X.env)).any (·.1))=false;rw[hplain] <;> rfl) (Calls.evalArgs_plain ?_);exact thn hA fun us s2 ⟨vs,H2,I2,r2,q2⟩=>hm pins s2 σ H2 (.ref p) vs (.ref p) us Q I2 rfl r2 q2
end
section
variable {prog:Program}{w:World}{A:Around}{E:vSP}
theorem zKB {its:Array Value}{ns:List Int}{v:Int}{tv:Tok}{i:Nat}{R:Option PySem.Fin×Unit->Shared->Prop}(hi:IntsAre its.toList ns)(hv:ns[i]?=some v)(hno:∀j,j<i->ns[j]?≠some v)
 (f:Nat->Option PySem.Fin×Unit->Sem (ForInStep (Option PySem.Fin×Unit)))
 (hf:∀(j:Nat)(x:Option PySem.Fin×Unit),f j x=(match its[j]? with
  | some y=>do
   let b <-eqBool y (.int v tv)
   if b=true then do
    let r <-retInt j
    pure (.done (some r,()))
   else pure (.yield (none,()))
  | _=>pure (.yield (none,()))))
 (s:Shared)(hR:∀tk,R (some (.done (.ret (.int i s.toks))),()) { s with toks:=tk }):
 ∀(r j:Nat)(b:Option PySem.Fin×Unit),i-j=r->j<=i->wpAny (model prog w) A (forIn (List.range' j (its.size-j) 1) b f) R E s:=by
 have hsz:its.size=ns.length:=by have:=hi.length;simpa using this
 have hil:i<ns.length:=(zF.mp hv).1;have look:∀j,j<ns.length->∃t,its[j]?=some (.int (ns.getD j 0) t):=fun j hj=>by
  have hj':j<its.size:=by omega
  obtain⟨t,ht⟩:=hi.int_at j (its[j]'hj') (by rw[Array.getElem?_toList,Array.getElem?_eq_getElem hj']);exact⟨t,by rw[Array.getElem?_eq_getElem hj',ht]⟩
 intro r
 induction r with
 | zero=>
  intro j b hr hj;obtain rfl:j=i:=by omega
  rw[show its.size-j=(its.size-j-1)+1 by omega,List.range'_succ,List.forIn_cons,hf];obtain⟨t,ht⟩:=look j hil;rw[ht];refine zC (zC (wpAny_eqBool_int ?_));have e:ns.getD j 0=v:=by rw[zE,hv];rfl
  rw[e,show (v==v)=true by simp];refine zC (zC (wpAny_mkInt (zG (zG (zG ?_)))));exact hR _
 | succ r ih=>
  intro j b hr hj;rw[show its.size-j=(its.size-(j+1))+1 by omega,List.range'_succ,List.forIn_cons,hf];obtain⟨t,ht⟩:=look j (by omega);rw[ht];refine zC (zC (wpAny_eqBool_int ?_));have hj':ns[j]?=some (ns.getD j 0):=by rw[zE,zA (by omega)];rfl
  have e:¬ ns.getD j 0=v:=fun z=>hno j (by omega) (by rw[hj',z]);rw[show (ns.getD j 0==v)=false by simpa using e];refine zG ?_;exact ih (j+1) _ (by omega) (by omega)
end
section
variable {X:Cx}
theorem zLO:MtR X "tuple.index" (fun x xs H Q=>∃(p:Addr)(ns:List Int)(i:Nat)(v:Int),x=.ref p/\xs=[.int v]/\SqT X.K H p (ns.map V.int)/\ns[i]?=some v/\(∀j,j<i->ns[j]?≠some v)/\Q (.int i) H):=by
 intro pins s σ H x xs v us Q I rx r h;obtain⟨p,ns,i,k,rfl,rfl,hq,hi,hno,q⟩:=h;cases (show v=Value.ref p from rx);obtain⟨u,rfl,t,rfl⟩:=zC8 r;obtain⟨its,rv,⟨ob,hob,hcl,n,hdat⟩,hz⟩:=I.tuple hq;have hI:=zBy rv;refine wpAny_call (codeAny_call_builtin PySem.F.slot_tuple_index.plain PySem.F.entry_tuple_index (PySem.F.slot_tuple_index.check _ _ _ _ _ _ _ _ ⟨ob,hob,hcl⟩ (PySem.F.args_tuple_index_2 _ _) ?_));unfold Builtin.«tuple.index»;refine zC (wpAny_of_eq (m':=pure (Value.ref p,[Value.int k t])) rfl (zG ?_));refine zC (zC (zAq hob hdat (zG ?_)));refine zC (zG (zC (zG (zC ?_))));rw[Std.Legacy.Range.forIn_eq_forIn_range'];have hsz:(Std.Legacy.Range.mk 0 (min its.toArray.size its.toArray.size) 1 (by decide)).size=its.toArray.size-0:=by show (min its.toArray.size its.toArray.size-0+1-1)/1=_;rw[Nat.min_self];omega
 rw[hsz];refine zKB (its:=its.toArray) (ns:=ns) (v:=k) (tv:=t) (i:=i) hI hi hno _ (fun j x=>by rfl) s (fun tk=>?_) i 0 _ (by omega) (zk _);exact zG ⟨.int i,H,I.tok _,⟨_,rfl⟩,q⟩
end
section
variable {prog:Program}{w:World}{A:Around}{s:Shared}{l:Addr}{its:List Value}{ns:List Int}{v:Int}{tv:Tok}
theorem zFs (a:Args):(Code.builtin "list.count.loop" a).quiet=true:=Code.quiet_builtin a (by decide +kernel)
theorem zIR {R:Result->Shared->Prop}(hl:s.heap.IsList l its.toArray)(hi:IntsAre its ns)(hR:∀(t:Tok)(tk:Nat),R (.ok (.ret (.int (ns.countP fun x=>x==v:Nat) t))) { s with toks:=tk }):
 ∀(r j:Nat),its.length-j=r->j<=its.length->codeAny (model prog w) A (.builtin "list.count.loop" { pos:=[.ref l,.int v tv,rawInt j,rawInt ((ns.take j).countP fun x=>x==v:Nat)] }) R s:=by
 have hil:=hi.length;intro r
 induction r with
 | zero=>
  intro j hr hj;refine codeAny_builtin (b:=Builtin.«list.count.loop») (by rfl) ?_;unfold Builtin.«list.count.loop»;obtain⟨o,ho,hc,n,hd⟩:=id hl;refine zC (zC (zAq ho hd (zG ?_)));have e:its.toArray[(j:Int).toNat]?=none:=by rw[zAf,zAu];exact zx (by omega)
  rw[e];rw[zh (by omega)];exact zC (wpAny_mkInt (zG (hR _ _)))
 | succ r ih=>
  intro j hr hj;refine codeAny_builtin (b:=Builtin.«list.count.loop») (by rfl) ?_;unfold Builtin.«list.count.loop»;obtain⟨o,ho,hc,n,hd⟩:=id hl;refine zC (zC (zAq ho hd (zG ?_)));obtain⟨x,hx⟩:∃x,its[j]?=some x:=⟨_,zA (by omega)⟩;obtain⟨t,rfl⟩:=hi.int_at j x hx;have e:its.toArray[(j:Int).toNat]?=some (.int (ns.getD j 0) t):=by rw[zAf,zAu];exact hx
  rw[e];refine zC (wpAny_eqBool_int ?_);refine zG ⟨zFs _,?_⟩;have hj':ns[j]?=some (ns.getD j 0):=by rw[zE,zA (by omega)];rfl
  have st:(ns.take (j+1)).countP (fun x=>x==v)=(ns.take j).countP (fun x=>x==v)+(if (ns.getD j 0==v)=true then 1 else 0):=by rw[zy,hj',List.countP_append];show _+List.countP _ [ns.getD j 0]=_;rw[List.countP_cons,List.countP_nil,Nat.zero_add]
  have:=ih (j+1) (by omega) (by omega);rw[st] at this;cases c:(ns.getD j 0==v) with
  | true=>rw[c] at this;exact this
  | false=>rw[c] at this;exact this
end
section
variable {X:Cx}
theorem zLP:MtR X "list.count" (fun x xs H Q=>∃(p:Addr)(ns:List Int)(v:Int),x=.ref p/\xs=[.int v]/\SqL X.K H p (ns.map V.int)/\Q (.int (ns.countP fun x=>x==v:Nat)) H):=by intro pins s σ H x xs u us Q I rx r h;obtain⟨p,ns,v,rfl,rfl,hq,q⟩:=h;cases (show u=Value.ref p from rx);obtain⟨w',rfl,t,rfl⟩:=zC8 r;obtain⟨its,rv,pl,hz⟩:=I.list hq;have hi:=zBy rv;refine wpAny_call (codeAny_call_builtin PySem.F.slot_list_count.plain PySem.F.entry_list_count (PySem.F.slot_list_count.check _ _ _ _ _ _ _ _ pl.isList.typeIs (PySem.F.args_list_count_2 _ _) ?_));unfold Builtin.«list.count»;refine zC (wpAny_of_eq (m':=pure (Value.ref p,Value.int v t)) rfl (zG (zG ⟨zFs _,?_⟩)));refine zIR (s:=s) (ns:=ns) pl.isList hi ?_ its.length 0 (by omega) (zk _);exact fun t' tk=>⟨.int _,H,I.tok _,⟨t',rfl⟩,q⟩
end
end L2
namespace WM
open L2
structure En where
 h:Int
 l:Int
 u:Option Int
 d:Option Int
noncomputable def Cd (es fs:List En)(c:Int×Int):Prop:=∃e∈es,∃f∈fs,f.h=e.h/\c=(e.l+f.l,e.h)
noncomputable def zDi (P:Int×Int->Prop):Option (Int×Int)->Prop
 | none=>∀c,¬ P c
 | some c=>P c/\∀c',P c'->c.1<c'.1\/(c.1=c'.1/\c.2<=c'.2)
theorem zDi.uniq {P:Int×Int->Prop}:∀{a b:Option (Int×Int)},zDi P a->zDi P b->a=b
 | none,none,_,_=>rfl
 | none,some c,h,g=>absurd g.1 (h c)
 | some c,none,h,g=>absurd h.1 (g c)
 | some a,some b,h,g=>by
  have h1:=h.2 b g.1;have h2:=g.2 a h.1;have e1:a.1=b.1:=by omega
  have e2:a.2=b.2:=by omega
  rw[show a=b from Prod.ext e1 e2]
theorem zDi.congr {P P':Int×Int->Prop}(e:∀c,P c↔P' c):∀{a:Option (Int×Int)},zDi P a->zDi P' a
 | none,h=>fun c z=>h c ((e c).mpr z)
 | some _,h=>⟨(e _).mp h.1,fun c' z=>h.2 c' ((e c').mpr z)⟩
noncomputable def Hub (es:List En):Prop:=es.Pairwise fun a b=>a.h<b.h
noncomputable def zEb (es:List En)(h:Int):Option En:=es.find? fun e=>decide (e.h=h)
variable {es:List En}
theorem zCA (hs:Hub es){h:Int}{e:En}:zEb es h=some e↔e∈es/\e.h=h:=by
 unfold zEb;constructor
 . intro z;exact⟨List.mem_of_find?_eq_some z,of_decide_eq_true (List.find?_some (p:=fun e:En=>decide (e.h=h)) z)⟩
 . rintro ⟨hm,rfl⟩
   induction es with
   | nil=>simp at hm
   | cons a es ih=>
    rw[zBr];rcases ze.mp hm with rfl | hm'
    . simp
    . have hp:=zBL.mp hs;have:=hp.1 e hm';rw[zc (show ¬ a.h=e.h by omega)];exact ih hp.2 hm'
theorem zGM {h:Int}:zEb es h=none↔∀e∈es,e.h≠h:=by unfold zEb;rw[List.find?_eq_none];exact⟨fun z e he=>fun q=>z e he (zS q),fun z e he=>fun q=>z e he (of_decide_eq_true q)⟩
noncomputable def zIl (es fs:List En)(o p:Int):Option (Int×Int)->Option Int
 | none=>none
 | some c=>if o=p then none else if c.2=o then (zEb fs c.2).bind (·.d) else (zEb es c.2).bind (·.u)
noncomputable def cOf (fs:List En)(e:En):Option (Int×Int):=(zEb fs e.h).map fun f=>(e.l+f.l,e.h)
theorem zKg {fs:List En}(hf:Hub fs)(c:Int×Int):c∈es.filterMap (cOf fs)↔Cd es fs c:=by
 rw[zBM];constructor
 . rintro ⟨e,he,z⟩;unfold cOf at z;cases q:zEb fs e.h with
   | none=>rw[q] at z;cases z
   | some f=>rw[q] at z;obtain⟨h1,h2⟩:=(zCA hf).mp q;exact⟨e,he,f,h1,h2,(zT z).symm⟩
 . rintro ⟨e,he,f,hfm,h1,rfl⟩;refine⟨e,he,?_⟩;unfold cOf;rw[(zCA hf).mpr ⟨hfm,h1⟩];rfl
variable {i:Nat}
theorem zGJ {α:Type}{l:List α}{x:α}(p:α->Bool)(h:l[i]?=some x):(l.take (i+1)).filter p=(l.take i).filter p++(if p x=true then [x] else []):=by rw[zy,h,zBf];show _++List.filter p [x]=_;rw[List.filter_cons];rfl
theorem zN0 {α β:Type}{l:List α}{x:α}(f:α->Option β)(h:l[i]?=some x):(l.take (i+1)).filterMap f=(l.take i).filterMap f++(f x).toList:=by
 rw[zy,h,List.filterMap_append];show _++List.filterMap f [x]=_;cases e:f x with
 | none=>rw[List.filterMap_cons_none e];rfl
 | some y=>rw[List.filterMap_cons_some e];rfl
theorem Hub.lt (h:Hub es){j:Nat}{a b:En}(hij:i<j)(ha:es[i]?=some a)(hb:es[j]?=some b):a.h<b.h:=by obtain⟨h1,e1⟩:=zF.mp ha;obtain⟨h2,e2⟩:=zF.mp hb;rw[<-e1,<-e2];exact zAY.mp h i j h1 h2 hij
end WM
namespace L2
open PySem PyProof.Rows
theorem zFw {ps:List (Key×V)}(h:(ps.map (·.1)).Nodup):zD3 ps=ps:=by
 have:∀(ps a:List (Key×V)),((a++ps).map (·.1)).Nodup->ps.foldl (fun a p=>zCs a p.1 p.2) a=a++ps:=by
  intro ps
  induction ps with
  | nil=>intro a _;rw[zAG];rfl
  | cons p ps ih=>
   intro a hn;have e:zCs a p.1 p.2=a++[p]:=by unfold zCs;rw[if_neg];intro z;obtain⟨q,hq,e⟩:=List.any_eq_true.mp z;have e':=of_decide_eq_true e;rw[zQ,zAa] at hn;have:=(zBq.mp hn).2.2 q.1 (List.mem_map_of_mem hq) p.1 zZ;exact this e'
   rw[List.foldl_cons,e,ih (a++[p]) (by rw[List.append_assoc];exact hn),List.append_assoc];rfl
 exact this ps [] h
end L2
namespace WM
structure EG (ts:List T3)(n v:Int)(e:En):Prop where
 rng:0<=e.h/\e.h<n
 len:IsD ts v e.h e.l
 up:e.h≠v->∃p,e.u=some p/\Nxt ts v e.h p
 dn:e.h≠v->∃p,e.d=some p/\Nxt ts e.h v p
structure LG (ts:List T3)(n v:Int)(es:List En):Prop where
 hub:Hub es
 ent:∀e∈es,EG ts n v e
 own:∃e∈es,e.h=v
noncomputable def CovP (ts:List T3)(v w:Int)(es fs:List En):Prop:=∀d,IsD ts v w d->∃h,Btw ts v w h/\(∃e∈es,e.h=h)/\∃f∈fs,f.h=h
theorem LG.zero {n:Int}{ts:List T3}(g:GW n ts){v:Int}{es:List En}(L:LG ts n v es):∃e r,es.filter (fun e=>decide (e.l=0))=e::r/\e.h=v:=by
 obtain⟨o,ho,hov⟩:=L.own;have hl:o.l=0:=by have:=(L.ent o ho).len;rw[hov] at this;exact this.uniq (zBu g v)
 have hm:o∈es.filter (fun e=>decide (e.l=0)):=zAQ.mpr ⟨ho,zS hl⟩;cases e:es.filter (fun e=>decide (e.l=0)) with
 | nil=>rw[e] at hm;simp at hm
 | cons a r=>
  have ha:a∈es.filter (fun e=>decide (e.l=0)):=by rw[e];exact zZ
  obtain⟨h1,h2⟩:=zAQ.mp ha;have:=(zCH g (L.ent a h1).len).mp (of_decide_eq_true h2);exact⟨a,r,rfl,this.symm⟩
theorem zHx {n:Int}{ts:List T3}(g:GW n ts){v w:Int}{es fs:List En}(L1:LG ts n v es)(L2:LG ts n w fs)(C:CovP ts v w es fs){lm:Option (Int×Int)}(h:zDi (Cd es fs) lm):
 Len ts v w (lm.map (·.1))/\∀c,lm=some c->Btw ts v w c.2:=by
 cases lm with
 | none=>refine⟨fun d hd=>?_,fun c z=>by cases z⟩;obtain⟨d',hd'⟩:=Way.least g hd;obtain⟨x,_,⟨e,he,e1⟩,⟨f,hf,f1⟩⟩:=C d' hd';exact h _ ⟨e,he,f,hf,by rw[f1,e1],rfl⟩
 | some c=>
  obtain⟨⟨e,he,f,hf,hfe,rfl⟩,hmin⟩:=h;have ie:=(L1.ent e he).len;have if':=(L2.ent f hf).len;rw[hfe] at if';have wy:Way ts v w (e.l+f.l):=ie.1.trans if'.1.symm;obtain⟨d,hd⟩:=Way.least g wy;obtain⟨x,⟨a,b,ia,ib,iab⟩,⟨e',he',e1⟩,⟨f',hf',f1⟩⟩:=C d hd;have ed:a+b=d:=iab.uniq hd;have ea:e'.l=a:=by have:=(L1.ent e' he').len;rw[e1] at this;exact this.uniq ia
  have eb:f'.l=b:=by have:=(L2.ent f' hf').len;rw[f1] at this;exact this.uniq ib.symm
  have hm:=hmin (e'.l+f'.l,e'.h) ⟨e',he',f',hf',by rw[f1,e1],rfl⟩;have h1:=hd.2 _ wy;have es:e.l+f.l=d:=by
   rcases hm with z | z
   . have:e.l+f.l<e'.l+f'.l:=z;omega
   . have:e.l+f.l=e'.l+f'.l:=z.1;omega
  have id':IsD ts v w (e.l+f.l):=by rw[es];exact hd
  refine⟨id',fun c z=>?_⟩;cases z;exact⟨e.l,f.l,ie,if'.symm,id'⟩
theorem zMe {P:Int->Prop}(rk:Int->Int):∀(m:Nat)(p:Int),P p->(rk p).toNat<=m->∃q,P q/\∀r,P r->(rk q).toNat<=(rk r).toNat
 | 0,p,hp,h=>⟨p,hp,fun r _=>by omega⟩
 | m+1,p,hp,h=>by
  by_cases c:∃r,P r/\(rk r).toNat<(rk p).toNat
  . obtain⟨r,hr,hlt⟩:=c;exact zMe rk m r hr (by omega)
  . exact⟨p,hp,fun r hr=>Nat.le_of_not_lt fun z=>c ⟨r,hr,z⟩⟩
end WM
namespace L2
open PySem PySem.Spec PyProof.Rows
end L2
namespace SortT
open PySem PySem.W PySem.Calls PyProof.Rows
section
variable {prog:Program}{w:World}{A:Around}{E:vSP}{s:Shared}
theorem zIO {t:Addr}{us:List Value}{Q:List Value->Shared->Prop}(ht:IsTup s.heap t us.toArray)(hz:us.length<=sizeLine)
 (q:Q us { s with heap:=(s.heap.push (seqObj "list" #[] 0)).update s.heap.objs.size (Obj.mapSeq (· ++ us.toArray)) }):wpAny (model prog w) A (collect (.ref t)) Q E s:=by
 obtain⟨ob,hob,cob,m,dob⟩:=ht;have hob':(s.heap.push (seqObj "list" #[] 0)).get? t=some ob:=zN _ hob;have new:(s.heap.push (seqObj "list" #[] 0)).get? s.heap.objs.size=some (seqObj "list" #[] 0):=zX _ rfl;unfold collect;refine zC (wpAny_runValue (codeAny_builtin entry_proto_collect' (zC (wpAny_newList (zG ⟨Code.quiet_builtin _ (by decide +kernel),codeAny_builtin entry_list_iadd' ?_⟩)))));show wpAny _ _ (Builtin.List.listExtendWith _ (.ref t) _) _ _ _;unfold Builtin.List.listExtendWith;refine zC (zBv (T := "tuple") ⟨ob,hob',cob⟩ ?_);have yes:(Value.type "tuple" == Value.type "tuple")=true:=rfl;rw[if_pos (by rw[yes];simp)];refine zC (listItems_at hob' dob (zC (listItems_at (xs:=#[]) (n:=0) new rfl ?_)));rw[if_neg (by simp)];refine zC (listUpdate_at (xs:=#[]) (n:=0) new rfl (zG ?_) (zk _) (by simp;omega));refine zC (wpAny_load (get?_update_seq new _) ?_);have e:((#[]:Array Value)++us.toArray).toList=us:=by simp
 show wpAny _ _ (pure ((#[]:Array Value)++us.toArray).toList) Q E _;rw[e];exact zG q
theorem sorted_tup {t:Addr}{us:List Value}{Q:vSP}{O:KeyOrd}{key:Nat->O.α}{κ:SortKind}(ht:IsTup s.heap t us.toArray)(h64:us.length<64)
 (ask:2<=us.length->∀(s':Shared)(a:Addr),(∀b o,s.heap.get? b=some o->b≠a)->(∀b o,s.heap.get? b=some o->s'.heap.get? b=some o)->Asks prog w A.in1.in1 s' a us key κ)
 (h:∀(D:Addr)(h':Heap)(out:List Nat)(c:Nat),Put key us.length out->s.heap.objs.size<=D->(∀b o,s.heap.get? b=some o->h'.get? b=some o) ->
  h'.get? D=some (seqObj "list" (out.map fun i=>us.getD i Value.none).toArray c)->Q (.ref D) { s with heap:=h' }):
 wpAny (model prog w) A (call (.builtin "sorted") [.ref t]) Q E s:=by
 refine Calls.call_function_entry kind_sorted plain_sorted entry_sorted (args_sorted1 _) ?_;unfold Builtin.«sorted»;refine zC (m:=checkCount "sorted" 1 1 _) (zG (zC (zIO ht (by rw[sizeLine_eq];omega) (zC (wpAny_newList ?_ (by rw[sizeLine_eq];omega))))));generalize hh1:(s.heap.push (seqObj "list" #[] 0)).update s.heap.objs.size (Obj.mapSeq (· ++ us.toArray))=h1;have hsz:h1.objs.size=s.heap.objs.size+1:=by rw[<-hh1,Heap.size_update,size_push']
 have hk:∀b o,s.heap.get? b=some o->h1.get? b=some o:=fun b o z=>by rw[<-hh1,zB2 _ _ _ _ (zb (zW z)),Heap.get?_push_ne _ _ _ (zb (zW z))];exact z
 have hoL:(h1.push (seqObj "list" us.toArray 0)).get? h1.objs.size=some (seqObj "list" us.toArray 0):=zX _ rfl;have keep1:∀b o,h1.get? b=some o->(h1.push (seqObj "list" us.toArray 0)).get? b=some o:=fun b o q=>zN _ q;refine zC (zAW (zAj slot_list_sort ⟨_,hoL,rfl⟩ entry_list_sort (zEE (O:=O) (key:=key) (κ:=κ) hoL h64
  (fun h2=>ask h2 _ _ (fun b o e=>zb (zW (hk b o e))) fun b o e=>keep1 b o (hk b o e)) fun out hp=>⟨_,rfl,?_⟩) (args_list_sort _)))
 refine zG ⟨_,rfl,?_⟩;obtain⟨c,hc⟩:=sortedHeap_at (vs:=us) (out:=(out.map fun i=>us.getD i Value.none).toArray) hoL;refine h _ _ out c hp (by rw[hsz];exact zBD _) (fun b o e=>?_) hc;have hb:b<h1.objs.size:=zW (hk b o e);rw[sortedHeap_old (zb hb) (by rw[zAU];exact zBW hb)];exact keep1 b o (hk b o e)
end
end SortT
namespace L2
open PySem PySem.Spec PyProof.Rows
section
variable {X:Cx}
inductive zJd (K:PySem.W.Frag)(x:V)(y:V)(H:Hp)(Q:VK):Prop
 | mk:∀a b xs ys,(x=.ref a)->(y=.ref b)->(SqT K H a xs)->(SqT K H b ys)->(xs.length+ys.length<=sizeLine)->((xs=[]->Q (.ref b) H))->((xs≠[]->ys=[]->Q (.ref a) H))->((xs≠[]->ys≠[]->∀p,H p=none->Q (.ref p) (upd H p (.tup (xs++ys)))))->zJd K x y H Q
noncomputable def rCatA (K:PySem.W.Frag):R2:=fun x y H Q=>zJd K x y H Q
theorem zN9 {prog:Program}{w:World}{A:Around}{E:vSP}{s:Shared}{t b:Addr}{ws:List Value}{Q:vSP}(ht:IsTup s.heap t #[])(hb:IsTup s.heap b ws.toArray)
 (h:Q (.ref b) s):wpAny (model prog w) A (binaryOp .Add (.ref t) (.ref b)) Q E s:=by
 obtain⟨⟨cls,dd,data,sl⟩,ho,hc,n,hd⟩:=id ht;obtain⟨⟨cls2,dd2,data2,sl2⟩,ho2,hc2,n2,hd2⟩:=id hb;simp only at hc hd hc2 hd2;subst hc hd hc2 hd2;exact concat_meets ⟨_,ho,rfl⟩ ⟨_,ho2,rfl⟩ noFill_tuple_add seq_tuple_add PySem.F.slot_tuple_add PySem.F.entry_tuple_add (PySem.F.args_tuple_add_2 _ _)
  (tuple_addW0 t b #[] ws.toArray n n2 dd dd2 sl sl2 rfl) ⟨ho,ho2,h⟩
theorem zNW:OpR X (binaryOp .Add) (rCatA X.K):=by
 intro pins s σ H x y v u Q I rx ry h;obtain⟨a,b,xs,ys,rfl,rfl,ha,hb,hz,q0,q1,q2⟩:=h;by_cases hx:xs=[]
 . subst hx;cases rx;cases ry;obtain⟨its,r1,p1,_⟩:=I.tuple ha;obtain⟨its2,r2,p2,_⟩:=I.tuple hb;cases r1;exact zN9 p1 p2 ⟨.ref b,H,I,rfl,q0 rfl⟩
 . exact zNV pins s σ H _ _ v u Q I rx ry ⟨a,b,xs,ys,rfl,rfl,ha,hb,hx,hz,q1 hx,q2 hx⟩
end
end L2
namespace HT
open PySem PySem.Spec PyProof.Rows
end HT
namespace L2
open PySem PySem.Spec PyProof.Rows
end L2
namespace HT
open PySem PySem.Spec PyProof.Rows
section
variable {prog:Program}{w:World}{A:Around}{E:vSP}{s:Shared}
theorem getItem_tuple_all {t sl:Addr}{items:Array Value}{vl vu:Value}{lo hi:Option Int}{Q:vSP}(ht:IsTup s.heap t items)(hs:s.heap.IsSliceOf sl vl vu .none)(pl:IsPart vl lo)(pu:IsPart vu hi)
 (hw:sIx items.size 0 lo=0/\sIx items.size items.size hi=items.size)(h:Q (.ref t) s):wpAny (model prog w) A (getItem (.ref t) (.ref sl)) Q E s:=by
 obtain⟨os,hos,hcs,hds⟩:=id hs;have hTs:s.TypeIs (.ref sl) "slice" := ⟨os,hos,hcs⟩;unfold getItem
 try with_reducible refine zAW ?_
 first | refine zC (zG ?_) | skip
 refine zC (wpAny_sequenceKey ht.typeIs (by decide) ?_);refine zC (zAg (name:=Str.ofString "__getitem__") ht.typeIs PyProof.Rows.slot_tuple_getitem
  (zAj PyProof.Rows.slot_tuple_getitem ht.typeIs entry_tuple_getitem ?_ (args_tuple_getitem _ _)))
 show wpAny _ _ (Builtin.Tuple.tupleItemsOf (.ref t) >>= _) _ _ s;refine zC (tupleItemsOf_ ht ?_);refine zC (zBv hTs ?_);rw[if_pos (by decide)];refine zC (zCm hs pl pu ?_);have hyes:(((sIx items.size 0 lo:Nat):Int)==0 && (1:Int)==1 && (sIx items.size items.size hi-sIx items.size 0 lo)==items.size)=true:=by rw[hw.1,hw.2];simp
 show wpAny _ _ (if (((sIx items.size 0 lo:Nat):Int)==0 && (1:Int)==1 && (sIx items.size items.size hi-sIx items.size 0 lo)==items.size)=true then _ else _) _ _ s
 rw[if_pos hyes];unfold Builtin.Tuple.tupleIsExact;refine zC (zC (zBv ht.typeIs (zG ?_)));rw[if_pos (by decide)]
 first
  | exact zC (zBp (zG ⟨_,rfl,zG h⟩))
  | exact zC (zBp (zG (zG ⟨_,rfl,zG h⟩)))
  | exact zC (zBp (zC (zG (zG ⟨_,rfl,zG h⟩))))
  | exact zBp (zG ⟨_,rfl,zG h⟩)
end
end HT
namespace L2
open PySem PySem.Spec PyProof.Rows
section
variable {X:Cx}{e:Expr}{te:TE}{pos p2 p3 p4:Pos}
inductive zMN (K:PySem.W.Frag)(x:V)(lo:Option Int)(hi:Option Int)(H:Hp)(Q:VK):Prop
 | mk:∀a xs,(x=.ref a)->(SqT K H a xs)->(((HT.sIx xs.length 0 lo=0/\HT.sIx xs.length xs.length hi=xs.length)->Q (.ref a) H))->((¬ (HT.sIx xs.length 0 lo=0/\HT.sIx xs.length xs.length hi=xs.length)->∀p,H p=none->Q (.ref p) (upd H p (.tup (zDw xs lo hi)))))->zMN K x lo hi H Q
noncomputable def rSlA (K:PySem.W.Frag):V->Option Int->Option Int->Hp->VK->Prop:=fun x lo hi H Q=>zMN K x lo hi H Q
theorem zJG:SlR X (rSlA X.K):=by
 intro pins s σ H x v vl vu lo hi sl Q I rx hs pl pu h;obtain⟨a,xs,rfl,hx,q1,q2⟩:=h;by_cases c:HT.sIx xs.length 0 lo=0/\HT.sIx xs.length xs.length hi=xs.length
 . cases rx;obtain⟨its,r,ht,hz⟩:=I.tuple hx;have hlen:its.toArray.size=xs.length:=by rw[zU];exact r.length.symm
   refine⟨"tuple",_,PyProof.Rows.slot_tuple_getitem.lookup,ht.typeIs,?_⟩;exact HT.getItem_tuple_all ht hs pl pu (by rw[hlen];exact c) ⟨.ref a,H,I,rfl,q1 c⟩
 . exact sl_tup pins s σ H _ v vl vu lo hi sl Q I rx hs pl pu ⟨a,xs,rfl,hx,c,q2 c⟩
end
section
variable {X:Cx}{pins:lPO}{σ:St}{H:Hp}{s:Shared}{h':Heap}
theorem Inv.turnedLaid {t':Nat}{fp:List Addr}{a:Addr}{o:HO}(I:Inv X pins σ H s)(hf:∀b∈fp,zGY X pins H b)(k:∀b u,b∉fp->s.heap.get? b=some u->h'.get? b=some u)(hp:s.heap.objs.size<=a)
 (new:zBc X.prog X.w (upd H a o) h' a o):Inv X pins σ (upd H a o) { s with heap:=h',toks:=t' }:=by
 have fr:H a=none:=I.hok.fresh hp;have nfp:∀b u,H b=some u->b∉fp:=fun b u e z=>by rw[(hf b z).1] at e;cases e
 have na:∀b u,H b=some u->b≠a:=fun b u e z=>by rw[z,fr] at e;cases e
 refine I.step (g':=s.gens) (d':=s.drawn) (ch:=fp) (fun b hb=>?_) (fun b u _ _ hc e _=>k b u hc e) (fun b u _ _ hc e _=>⟨u.slots,k b u hc e⟩) (fun b u hc e n=>?_) (fun b u hc e=>⟨u,k b u hc e⟩)
  (fun b xs e=>by rw[za (na b _ e)];exact e) (fun b u w e=>by rw[za (na b _ e)];exact e) (fun b ps e=>⟨#[],by rw[za (na b _ e),e];simp⟩) (fun m hm=>?_) (fun b u e=>?_) I.bare
 . obtain⟨f0,f1,f2,f3,f4,f5⟩:=hf b hb;exact⟨f3,f1,f4,f5⟩
 . rw[za (zb (zq (zW e) hp))];exact n
 . obtain⟨u,es,ep,ho,r⟩:=hm;exact⟨u,es,ep,k _ u (fun z=>(hf _ z).2.1 rfl) ho,r⟩
 . by_cases z:b=a
   . subst z;rw[zI] at e;cases e;exact new
   . rw[za z] at e;refine (I.hok b u e).stay (fun c v hc q=>k c v ?_ q) (fun c q=>by rw[za (na c _ q)];exact q) fun c xs q=>by rw[za (na c _ q)];exact q
     rcases hc with z | z
     . rw[z];exact nfp b u e
     . exact nfp c _ z
end
end L2
namespace L2
open PySem PySem.Spec PyProof.Rows
open PySem.AutoSeq1 (wpAny_loadPart')
variable {items:Array Value}
section
variable {prog:Program}{w:World}{A:Around}{E:vSP}{s:Shared}
theorem zIC {it t:Addr}{i:Nat}{x:Value}{Q:vSP}(hi:s.heap.IsTupleIter it t i)(ht:s.heap.IsTuple t items)(hx:items[i]?=some x)
 (hQ:∀h',h'.IsTupleIter it t (i+1)->Heap.SameBut it s.heap h'->Q x { s with heap:=h' }):wpAny (model prog w) A (Builtin.SmallTypes.nextOf (.ref it)) Q E s:=by
 obtain⟨oi,hoi,ci,di⟩:=id hi;obtain⟨ot,hot,_,nt,dt⟩:=ht;unfold Builtin.SmallTypes.nextOf;refine zC (zAg (name:=Str.ofString "__next__") hi.typeIs PySem.F.slot_tuple_iterator_next (zAj PySem.F.slot_tuple_iterator_next hi.typeIs PySem.F.entry_tuple_iterator_next ?_ (PySem.F.args_tuple_iterator_next_1 _)));show wpAny (model prog w) _ (field (.ref it) 0 >>= _) _ _ s;refine zC (zA5 hoi di (x:=.ref t) rfl ?_);show wpAny (model prog w) _ (if (Value.ref t==Value.none)=true then _ else _) _ _ s;rw[if_neg (show ¬ ((Value.ref t==Value.none)=true) from zn)]
 show wpAny (model prog w) _ (field (.ref it) 1 >>= _) _ _ s;refine zC (zA5 hoi di (x:=.int i 0) rfl ?_);show wpAny (model prog w) _ (seqItems? (.ref t) >>= _) _ _ s;refine zC (zAq hot dt ?_);simp only[hx,zAu];refine zC (wpAny_setField hoi di (by simp) (zG ⟨x,rfl,zG (hQ _ ?_ (Heap.SameBut.update ..))⟩));refine⟨_,zBJ _ hoi (Obj.isFreed_of_fields (Obj.data_mapFields di _)),(Obj.cls_mapFields ..).trans ci,?_⟩;rw[Obj.data_mapFields di];simp[rawInt]
theorem zEQ {it t:Addr}{i:Nat}{Q:vSP}(hA:A.handled=none)(hi:s.heap.IsTupleIter it t i)(ht:s.heap.IsTuple t items)(hx:items[i]?=none)
 (hE:∀h' e,Heap.ExtBut it s.heap h'->(∃o,h'.get? e=some o/\o.cls=.type "StopIteration")->E (.ref e) { s with heap:=h' }):wpAny (model prog w) A (Builtin.SmallTypes.nextOf (.ref it)) Q E s:=by
 obtain⟨oi,hoi,ci,di⟩:=id hi;obtain⟨ot,hot,_,nt,dt⟩:=ht;unfold Builtin.SmallTypes.nextOf;refine zC (zAg (name:=Str.ofString "__next__") hi.typeIs PySem.F.slot_tuple_iterator_next (zAj PySem.F.slot_tuple_iterator_next hi.typeIs PySem.F.entry_tuple_iterator_next ?_ (PySem.F.args_tuple_iterator_next_1 _)));show wpAny (model prog w) _ (field (.ref it) 0 >>= _) _ _ s;refine zC (zA5 hoi di (x:=.ref t) rfl ?_);show wpAny (model prog w) _ (if (Value.ref t==Value.none)=true then _ else _) _ _ s;rw[if_neg (show ¬ ((Value.ref t==Value.none)=true) from zn)]
 show wpAny (model prog w) _ (field (.ref it) 1 >>= _) _ _ s;refine zC (zA5 hoi di (x:=.int i 0) rfl ?_);show wpAny (model prog w) _ (seqItems? (.ref t) >>= _) _ _ s;refine zC (zAq hot dt ?_);simp only[hx,zAu];refine zC (zBp (zC (wpAny_setField hoi di (by simp) ?_)));show wpAny (model prog w) _ (newExc (.type "StopIteration") [] >>= _) _ _ _;refine zC ?_;simp only[newTuple,newExc];refine zC (zAs ?_ (by size_fits));refine zC (m:=firstArgMember _ _) (PySem.wpAny_of_eq (a:=Value.none) (by first | rfl | (simp only[firstArgMember];rfl)) ?_);refine zAs ?_ (by size_fits);simp only[raiseNew];refine zC (wpAny_handled ?_)
 first
  | rw[show A.in1.handled=none from hA]
  | rw[hA]
 exact zC (zG (wpAny_throw (hE _ _ (((Heap.SameBut.update ..).extBut.push _).push _) ⟨_,zX _ rfl,rfl⟩)))
end
theorem zER {prog:Program}{w:World}{A:Around}(hA:A.handled=none)(it t:Addr)(hne:t≠it)(items:Array Value):
 Draws prog w A it [it,t] items.size (fun i v=>items[i]?=some v) (fun i h=>h.IsTupleIter it t i/\h.IsTuple t items) where
 live:=fun _ _ st=>by obtain⟨⟨o,ho,_⟩,_⟩:=st;exact⟨o,ho⟩
 frame:=fun _ h h' st hk=>by obtain⟨⟨o,ho,r⟩,o2,ho2,r2⟩:=st;exact⟨⟨o,hk it (by simp) o ho,r⟩,o2,hk t (by simp) o2 ho2,r2⟩
 item:=fun i s Q E hi st hQ=>zIC st.1 st.2 (x:=items[i]) (by simp[hi]) fun h' a b=>hQ _ h' s.toks (by simp[hi]) ⟨a,st.2.extBut b.extBut hne⟩ b
 done:=fun s Q E st hE=>zEQ hA st.1 st.2 (by simp) hE
theorem zGj (t:Addr)(items:Array Value)(n:Nat)(dct:Option Addr)(sl:Array (Option Value)):
 Meets (Builtin.«enumerate.__new__» ⟨[.type "enumerate",.ref t],[]⟩) (fun _ R s=>s.heap.get? t=some { cls:=.type "tuple",dict:=dct,data:=.seq items n,slots:=sl } /\
  R (.ok (.ret (.ref (s.heap.push { cls:=.type "tuple_iterator",data:=.fields #[.ref t,.int 0 0] }).objs.size))) { s with heap:=(s.heap.push { cls:=.type "tuple_iterator",data:=.fields #[.ref t,.int 0 0] }).push { cls:=.type "enumerate",data:=.fields #[.none,.bool false,.ref s.heap.objs.size,rawInt 0,.none,.none] } }):=by
 refine .of_wp fun prog w A R s hs=>?_;obtain⟨hp,g,d,tk,os⟩:=s;obtain⟨ho,hR⟩:=hs;have su:=sub_enumerate;have tT:Heap.IsTuple (Shared.heap ⟨hp,g,d,tk,os⟩) t items:=⟨_,ho,rfl,n,rfl⟩
 wp_walk using wpAny_loadPart' ho
 refine wpAny_stack_any fun stk=>zG ?_;split
 . rename_i c _ _ _ _ _
   cases (c==Value.type "enumerate") <;> (wp_walk using wpAny_loadPart' ho,wpAny_pyIter_tuple tT;exact⟨_,rfl,hR⟩)
 . wp_walk using wpAny_loadPart' ho,wpAny_pyIter_tuple tT
   exact⟨_,rfl,hR⟩
theorem zIS {prog:Program}{w:World}{A:Around}{E:vSP}{s:Shared}{t:Addr}{Q:vSP}(hT:s.heap.IsTuple t items)
 (h:∀h',IsEnum h' (s.heap.objs.size+1) s.heap.objs.size 0 .none->h'.IsTupleIter s.heap.objs.size t 0->(∀b o,s.heap.get? b=some o->h'.get? b=some o)->Q (.ref (s.heap.objs.size+1)) { s with heap:=h' }):
 wpAny (model prog w) A (call (.type "enumerate") [.ref t]) Q E s:=by
 obtain⟨⟨c,dct,dt,sl⟩,ho,hc,n,hd⟩:=hT;obtain rfl:c=.type "tuple" := hc;obtain rfl:dt=.seq items n:=hd;refine callType_new PySem.F.called_enumerate (by decide) (PySem.F.typeCall_enumerate_1 _) (PySem.F.newCall_enumerate_1 _) (fun obj=>PySem.F.args_object_init_2 obj _) PySem.F.entry_enumerate_new (zGj t items n dct sl) ⟨ho,?_⟩;have hz:(s.heap.push { cls:=.type "tuple_iterator",data:=.fields #[.ref t,.int 0 0] }).objs.size=s.heap.objs.size+1:=zAU ..;show _/\_;rw[hz];have he:IsEnum ((s.heap.push { cls:=.type "tuple_iterator",data:=.fields #[.ref t,.int 0 0] }).push { cls:=.type "enumerate",data:=.fields #[.none,.bool false,.ref s.heap.objs.size,rawInt 0,.none,.none] }) (s.heap.objs.size+1) s.heap.objs.size 0 .none:=by have g:=zX (s.heap.push { cls:=.type "tuple_iterator",data:=.fields #[.ref t,.int 0 0] }) (o:={ cls:=.type "enumerate",data:=.fields #[.none,.bool false,.ref s.heap.objs.size,rawInt 0,.none,.none] }) rfl;rwa [hz] at g
 exact⟨⟨_,he,rfl⟩,h _ he ⟨_,zN _ (zX _ rfl),rfl,rfl⟩ fun b o x=>zN _ (zN _ x)⟩
noncomputable def ItnT (K:PySem.W.Frag)(a:Addr):It:=
 ⟨fun i H=>∃xs x,SqT K H a xs/\xs[i]?=some x,fun i H x H'=>∃T v,x=.ref T/\H T=none/\H'=upd H T (.tup [.int i,v])/\∀xs,SqT K H a xs->xs[i]?=some v,fun i H=>∃xs,SqT K H a xs/\xs.length<=i⟩
theorem zHw {P:Program}{w:World}{K:PySem.W.Frag}{elts:List Expr} {x1} {tp:Pos}(a e it:Addr):Turn P w K (.Tuple elts x1 tp) (ItnT K a) [e,it] e (fun i h=>(∃old,IsEnum h e it (i:Nat) old)/\h.IsTupleIter it a i/\e≠it/\a≠it/\a≠e) where
 mem:=by simp
 obj:=fun i h st b hb=>by
  obtain⟨⟨old,he⟩,⟨o,e1,c,d⟩,_⟩:=st;rcases ze.mp hb with rfl | hb
  . exact⟨_,he,fun v z=>by cases z⟩
  . have e2:b=it:=by simpa using hb
    subst e2;exact⟨o,e1,fun v z=>by rw[d] at z;cases z⟩
 keep:=fun i h h' st k=>by obtain⟨⟨old,he⟩,⟨o,e1,r⟩,ne⟩:=st;exact⟨⟨old,k e (by simp) _ he⟩,⟨o,k it (by simp) o e1,r⟩,ne⟩
 item:=by
  intro X hP hw hK hc i pins s σ H E I hf st hg;subst hP hw hK;obtain⟨⟨old,he⟩,hit,ne,nai,nae⟩:=st;obtain⟨xs,x,hq,hx⟩:=hg;obtain⟨its,rv,p,hz⟩:=I.tuple hq;obtain⟨u,hu,ru⟩:=rv.get hx;have elt:e<s.heap.objs.size:=zW he;have ilt:it<s.heap.objs.size:=by obtain⟨_,q,_⟩:=id hit;exact zW q
  have hlt:i<its.toArray.size:=by have:=(zF.mp hu).1;simpa using this
  refine wpAny_pyNext_enum_itemD (zER (A:=X.A.in1) (I.ok.hd hc) it a nai its.toArray) he ⟨hit,p⟩ hlt ne (by simp;exact⟨ne,fun z=>nae z.symm⟩) fun y h' tk hy heo hst' hT hsz hk=>?_;have hyu:y=u:=by
   have h1:its[i]?=some y:=by simpa using hy
   rw[hu] at h1;exact (zT h1).symm
  subst hyu;refine⟨_,rfl,wpAny_letOwnedTupleGo_enum heo fun h2 he2 hs2=>?_⟩;have hT2:h2.get? s.heap.objs.size=some { cls:=.type "tuple",data:=.seq #[.int i tk,y] }:=(hs2.2 _ (zAR elt)).trans hT;refine⟨.ref s.heap.objs.size,upd H s.heap.objs.size (.tup [.int i,x]),I.turnedLaid (t':=tk+1) (fp:=[e,it]) hf (fun b o hb q=>?_) (zK _) ?_,rfl,⟨_,x,rfl,I.hok.fresh (zK _),rfl,fun zs hzs=>by rw[I.tuple_inj hzs hq];exact hx⟩,⟨⟨y,?_⟩,?_,ne,nai,nae⟩,fun b hb=>?_⟩
  . exact (hs2.2 b fun z=>hb (by simp[z])).trans (hk b o (fun z=>hb (by simp[z])) (fun z=>hb (by simp[z])) q)
  . exact⟨⟨by show 2<=sizeLine;decide,_,hT2,rfl⟩,[.int i tk,y],.cons ⟨_,rfl⟩ (.cons ru .nil),⟨_,hT2,rfl,_,rfl⟩⟩
  . have:=he2;rwa [show ((i:Nat):Int)+1=((i+1:Nat):Int) by omega] at this
  . obtain⟨⟨o,ho,r⟩,_⟩:=hst';exact⟨o,(hs2.2 it (Ne.symm ne)).trans ho,r⟩
  . rcases ze.mp hb with rfl | hb
    . rw[za (zb elt)];exact (hf _ (by simp)).1
    . have e2:b=it:=by simpa using hb
      subst e2;rw[za (zb ilt)];exact (hf _ (by simp)).1
 done:=by intro X hP hw hK hc i pins s σ H E I hf st hg;subst hP hw hK;obtain⟨⟨old,he⟩,hit,ne,nai,nae⟩:=st;obtain⟨xs,hq,hx⟩:=hg;obtain⟨its,rv,p,hz⟩:=I.tuple hq;obtain⟨f0,f1,f2,f3,f4,f5⟩:=hf it (by simp);have hl:=rv.length;unfold pyNext;have hT:s.TypeIs (.ref e) "enumerate" := ⟨_,he,rfl⟩;refine zC (wpAny_attempt (zAg (name:=Str.ofString "__next__") hT PySem.F.slot_enumerate_next (zAj PySem.F.slot_enumerate_next hT PySem.F.entry_enumerate_next ?_ (PySem.F.args_enumerate_next_1 _))));show wpAny (model X.prog X.w) _ (field (.ref e) 2 >>= _) _ _ s;refine zC (zA5 he rfl (x:=.ref it) rfl ?_);refine zC (zEQ (A:=X.A.in1) (I.ok.hd hc) hit p (by simp;omega) fun h' z eb hz'=>?_);obtain⟨o,ho,hcl⟩:=hz';refine zC (wpAny_isInstance (T := "StopIteration") (b:=true) ⟨o,ho,hcl⟩ isSubtype_stop (zG ?_));exact⟨rfl,I.turned (t':=s.toks) (fun b o hb e=>eb b o hb e) f0 f1 f3 f4 f5⟩
 self:=fun _ _ _ _ _ st h=>by obtain⟨⟨old,he⟩,_⟩:=st;exact wpAny_pyIter_enum he h
section
variable {X:Cx}
inductive zHg (K:PySem.W.Frag)(R:It->Hp->Prop)(vs:List V)(H1:Hp):Prop
 | mk:∀a,(vs=[.ref a])->((∃xs,SqT K H1 a xs))->(R (ItnT K a) H1)->zHg K R vs H1
noncomputable def iEnumT (K:PySem.W.Frag)(ta:TA):TI:=fun σ H R=>ta σ H fun vs H1=>zHg K R vs H1
theorem zE6 {elts:List Expr} {x1} {tp:Pos}{a:Expr}{ta:TA}{p pos:Pos}(hg:Gl X "enumerate") (hm:X.mg "enumerate"=none) (ha:PA X [a] ta)(hs:starEach [a] X.env=[(false,eval a X.env)]:=by rfl):PI X (.Tuple elts x1 tp) (.Call (.Name "enumerate" p) [a] [] pos) (iEnumT X.K ta):=by
 intro pins s σ H R I h;refine Call_ (zC7 I hg hm boot_enumerate (PyProof.Rows.callWith_type1 (thn (ha pos pins s σ H _ I h) fun us s1 ⟨vs,H1,I1,r1,q1⟩=>?_) hs rfl));obtain⟨l,e,⟨xs,hq⟩,q⟩:=q1;subst e;obtain⟨u,rfl,rx⟩:=zC8 r1;cases rx;obtain⟨its,rv,pl,hz⟩:=I1.tuple hq;have hll:l<s1.heap.objs.size:=by obtain⟨o,ho,_⟩:=id pl;exact zW ho
 refine zIS pl fun h' he hit hk=>?_;refine wpAny_pyIter_enum he ?_;refine⟨s1.heap.objs.size+1,[s1.heap.objs.size+1,s1.heap.objs.size],_,_,H1,rfl,I1.kept (t':=s1.toks) hk,zHw l _ _,⟨⟨_,he⟩,hit,Nat.succ_ne_self _,zb hll,zb (zBW hll)⟩,fun b hb=>?_,q⟩;rcases ze.mp hb with rfl | hb
 . exact I1.fpOk (zBD _) (I1.hok.fresh (zBD _))
 . have e2:b=s1.heap.objs.size:=by simpa using hb
   subst e2;exact I1.fpOk (zK _) (I1.hok.fresh (zK _))
end
theorem zEN {K:PySem.W.Frag}{a:Addr}{xs:List V}{g:TG}{tb:TS}{D:zGZ}{σ:St}{H:Hp}(Pv:Nat->St->Hp->Prop)(h0:Pv 0 σ H)(hl:∀i σ H,i<=xs.length->Pv i σ H->SqT K H a xs)
 (hs:∀i x σ H T,xs[i]?=some x->Pv i σ H->H T=none->g (.ref T) σ (upd H T (.tup [.int i,x])) fun σ2 H2=>tb { D with nx:=Pv (i+1),ct:=Pv (i+1),bk:=D.nx } σ2 H2)(hd:∀ σ H,Pv xs.length σ H->D.nx σ H):
 ∃W:Nat->Nat->St->Hp->Prop,(∃m,W 0 m σ H)/\∀i m σ H,W i m σ H ->
  ((ItnT K a).stop i H/\D.nx σ H)\/((ItnT K a).go i H/\∃N:St->Hp->Prop,(∀ σ' H',N σ' H'->∃m',m'<m/\W (i+1) m' σ' H')/\∀x H',(ItnT K a).yld i H x H'->g x σ H' fun σ2 H2=>tb { D with nx:=N,ct:=N,bk:=D.nx } σ2 H2):=by
 refine⟨fun i m σ H=>i<=xs.length/\m=xs.length-i/\Pv i σ H,⟨_,zk _,rfl,h0⟩,fun i m σ H h=>?_⟩;obtain⟨hi,rfl,hp⟩:=h;by_cases c:i<xs.length
 . refine .inr ⟨⟨xs,xs[i],hl i σ H hi hp,zA c⟩,Pv (i+1),fun σ' H' hp'=>⟨xs.length-(i+1),by omega,c,rfl,hp'⟩,fun x H' y=>?_⟩;obtain⟨T,v,rfl,hT,rfl,hv⟩:=y;exact hs i v σ H T (hv xs (hl i σ H hi hp)) hp hT
 . have e:i=xs.length:=by omega
   subst e;exact .inl ⟨⟨xs,hl _ σ H hi hp,zK _⟩,hd σ H hp⟩
end L2
namespace L2
open PySem PySem.Spec PyProof.Rows
open PySem.AutoSeq1 (wpAny_loadPart')
variable {H:Hp}
theorem Inv.turnedFp {X:Cx}{pins:lPO}{σ:L2.St}{s:Shared}{h':Heap}{t':Nat}{fp:List Addr}(I:Inv X pins σ H s)(hf:∀b∈fp,zGY X pins H b)(k:∀b u,b∉fp->s.heap.get? b=some u->h'.get? b=some u):Inv X pins σ H { s with heap:=h',toks:=t' }:=by
 have nfp:∀b u,H b=some u->b∉fp:=fun b u e z=>by rw[(hf b z).1] at e;cases e
 refine I.step (g':=s.gens) (d':=s.drawn) (ch:=fp) (fun b hb=>?_) (fun b u _ _ hc e _=>k b u hc e) (fun b u _ _ hc e _=>⟨u.slots,k b u hc e⟩) (fun _ _ _ _ n=>n) (fun b u hc e=>⟨u,k b u hc e⟩)
  (fun _ _ e=>e) (fun _ _ _ e=>e) (fun b ps e=>⟨#[],by rw[e];simp⟩) (fun m hm=>?_) (fun b u e=>?_) I.bare
 . obtain⟨f0,f1,f2,f3,f4,f5⟩:=hf b hb;exact⟨f3,f1,f4,f5⟩
 . obtain⟨u,es,ep,ho,r⟩:=hm;exact⟨u,es,ep,k _ u (fun z=>(hf _ z).2.1 rfl) ho,r⟩
 . refine (I.hok b u e).stay (fun c v hc q=>k c v ?_ q) (fun _ q=>q) fun _ _ q=>q;rcases hc with z | z
   . rw[z];exact nfp b u e
   . exact nfp c _ z
structure ZAp (zp tI tO i1 i2:Addr)(fp1 fp2:List Addr):Prop where
 zTI:tI≠zp
 zTO:tO≠zp
 z1:i1≠zp
 z2:i2≠zp
 IO:tI≠tO
 I1:tI≠i1
 I2:tI≠i2
 O1:tO≠i1
 O2:tO≠i2
 i12:i1≠i2
 a1:zp∉fp1/\tO∉fp1/\i2∉fp1
 a2:zp∉fp2/\tO∉fp2/\i1∉fp2
section
variable {prog:Program}{w:World}{A:Around}{E:vSP}{s:Shared}
theorem zIY {zp tI tO i1 i2:Addr}{fp1 fp2:List Addr}{n1 n2 k:Nat}{P1 P2:Nat->Value->Prop}{St1 St2:Nat->Heap->Prop}{a b:Value}{Q:vSP}(D1:Draws prog w A i1 fp1 n1 P1 St1)(D2:Draws prog w A i2 fp2 n2 P2 St2)(Z:ZAp zp tI tO i1 i2 fp1 fp2)
 (gz:IsZip s.heap zp tI tO .none)(gI:IsPair s.heap tI (.ref i1) (.ref i2))(gO:IsPair s.heap tO a b)(s1:St1 k s.heap)(s2:St2 k s.heap)(l1:k<n1)(l2:k<n2)
 (qd:∀x y h' tk,P1 k x->P2 k y->IsZip h' zp tI tO (rawInt s.heap.objs.size)->IsPair h' tO x y->St1 (k+1) h'->St2 (k+1) h'->IsPair h' s.heap.objs.size x y->h'.objs.size=s.heap.objs.size+1 ->
  (∀c o,c≠zp->c≠tO->c≠i1->c≠i2->s.heap.get? c=some o->h'.get? c=some o)->Q (.ref s.heap.objs.size) { s with heap:=h',toks:=tk }):
 wpAny (model prog w) A (Builtin.«zip.__next__» ⟨[.ref zp],[]⟩) (fun fin s'=>∃v,fin=.done (.ret v)/\Q v s') E s:=by
 obtain⟨hp,g,d,tk₀,os⟩:=s;show wpAny _ _ (field (.ref zp) 2 >>= _) _ _ _;refine zC (zA5 gz rfl (x:=.bool false) rfl ?_);show wpAny _ _ (field (.ref zp) 3 >>= _) _ _ _;refine zC (zA5 gz rfl (x:=.ref tI) rfl (zC (zAq gI rfl ?_)));show wpAny _ _ (Builtin.SmallTypes.ownedTupleIsFree (.ref zp) >>= _) _ _ _;unfold Builtin.SmallTypes.ownedTupleIsFree;refine zC (zC (zA5 gz rfl (x:=.none) rfl (zG ?_)));simp only[if_true];refine zC (zBp (zC (zA5 gz rfl (x:=.ref tO) rfl (zC (wpAny_setField_rec gz (by simp) fun h₁ z₁ e₁=>?_)))));replace z₁:IsZip h₁ zp tI tO .ellipsis:=z₁;replace e₁:Heap.SameBut zp hp h₁:=e₁;refine zC ?_;simp only[List.zipIdx_cons,List.zipIdx_nil,List.forIn_cons,List.forIn_nil];have t1:St1 k h₁:=D1.frame k hp h₁ s1 fun b hb o e=>e₁.extBut _ _ (fun x=>Z.a1.1 (x ▸ hb)) e;have t2:St2 k h₁:=D2.frame k hp h₁ s2 fun b hb o e=>e₁.extBut _ _ (fun x=>Z.a2.1 (x ▸ hb)) e;refine zC (zC (wpAny_onRaise ?_));show wpAny _ _ (Builtin.SmallTypes.nextOf (.ref i1) >>= _) _ _ _;refine zC (D1.item k _ _ _ l1 t1 fun x h₂ tk₂ p1 u1 e₂=>zG ?_);replace e₂:Heap.SameBut i1 h₁ h₂:=e₂;have hO₂:IsPair h₂ tO a b:=e₂.extBut _ _ Z.O1 (e₁.extBut _ _ Z.zTO gO);refine zC (zAq hO₂ rfl (zC (wpAny_updateSeq_pair hO₂ fun h₃ hO₃ e₃=>?_)));replace hO₃:IsPair h₃ tO x b:=hO₃;replace e₃:Heap.SameBut tO h₂ h₃:=e₃;refine zC (wpAny_letGo (zG ?_));have u1₃:St1 (k+1) h₃:=D1.frame _ h₂ h₃ u1 fun b hb o e=>e₃.extBut _ _ (fun x=>Z.a1.2.1 (x ▸ hb)) e;have t2₃:St2 k h₃:=D2.frame k h₁ h₃ t2 fun b hb o e=>e₃.extBut _ _ (fun x=>Z.a2.2.1 (x ▸ hb)) (e₂.extBut _ _ (fun x=>Z.a2.2.2 (x ▸ hb)) e);refine zC (zC (wpAny_onRaise ?_));show wpAny _ _ (Builtin.SmallTypes.nextOf (.ref i2) >>= _) _ _ _;refine zC (D2.item k _ _ _ l2 t2₃ fun y h₄ tk₄ p2 u2 e₄=>zG ?_);replace e₄:Heap.SameBut i2 h₃ h₄:=e₄;have hO₄:IsPair h₄ tO x b:=e₄.extBut _ _ Z.O2 hO₃;refine zC (zAq hO₄ rfl (zC (wpAny_updateSeq_pair hO₄ fun h₅ hO₅ e₅=>?_)));replace hO₅:IsPair h₅ tO x y:=hO₅;replace e₅:Heap.SameBut tO h₄ h₅:=e₅;refine zC (wpAny_letGo (zG (zG (zC (zAq hO₅ rfl (zC (wpAny_newTuple ?_)))))));have u1₅:St1 (k+1) h₅:=D1.frame _ h₃ h₅ u1₃ fun b hb o e=>e₅.extBut _ _ (fun x=>Z.a1.2.1 (x ▸ hb)) (e₄.extBut _ _ (fun x=>Z.a1.2.2 (x ▸ hb)) e);have u2₅:St2 (k+1) h₅:=D2.frame _ h₄ h₅ u2 fun b hb o e=>e₅.extBut _ _ (fun x=>Z.a2.2.1 (x ▸ hb)) e;have sz:h₅.objs.size=hp.objs.size:=by rw[e₅.1,e₄.1,e₃.1,e₂.1,e₁.1]
 have z₅:IsZip h₅ zp tI tO .ellipsis:=e₅.extBut _ _ Z.zTO.symm (e₄.extBut _ _ Z.z2.symm (e₃.extBut _ _ Z.zTO.symm (e₂.extBut _ _ Z.z1.symm z₁)));have k₅:∀c o,c≠zp->c≠tO->c≠i1->c≠i2->hp.get? c=some o->h₅.get? c=some o:=fun c o c1 c2 c3 c4 e=>e₅.extBut _ _ c2 (e₄.extBut _ _ c4 (e₃.extBut _ _ c2 (e₂.extBut _ _ c3 (e₁.extBut _ _ c1 e))));have zlt:zp<h₅.objs.size:=zW z₅;show wpAny _ _ (Builtin.SmallTypes.ownedTupleHandOut (.ref zp) (.ref h₅.objs.size) >>= _) _ _ _;unfold Builtin.SmallTypes.ownedTupleHandOut;have z₆:IsZip (h₅.push { cls:=.type "tuple",data:=.seq #[x,y] }) zp tI tO .ellipsis:=zN _ z₅;refine zC (zC (wpAny_setField_rec z₆ (by simp) fun h₇ z₇ e₇=>?_));replace z₇:IsZip h₇ zp tI tO (rawInt h₅.objs.size):=z₇;refine wpAny_setField_rec z₇ (by simp) fun h₈ z₈ e₈=>?_;replace z₈:IsZip h₈ zp tI tO (rawInt h₅.objs.size):=z₈;have up:∀c o,c≠zp->h₅.get? c=some o->h₈.get? c=some o:=fun c o c1 e=>e₈.extBut _ _ c1 (e₇.extBut _ _ c1 (zN _ e));have hT₈:IsPair h₈ h₅.objs.size x y:=e₈.extBut _ _ (zAR zlt) (e₇.extBut _ _ (zAR zlt) (zX _ rfl));have sz8:h₈.objs.size=h₅.objs.size+1:=by rw[e₈.1,e₇.1,zAU]
 rw[sz] at z₈ hT₈ sz8;refine zG ⟨_,rfl,?_⟩;show Q (.ref h₅.objs.size) _;rw[sz];exact qd x y h₈ tk₄ p1 p2 z₈ (up _ _ Z.zTO hO₅) (D1.frame _ h₅ h₈ u1₅ fun b hb o e=>up b o (fun x=>Z.a1.1 (x ▸ hb)) e) (D2.frame _ h₅ h₈ u2₅ fun b hb o e=>up b o (fun x=>Z.a2.1 (x ▸ hb)) e) hT₈ sz8 fun c o c1 c2 c3 c4 e=>up c o c1 (k₅ c o c1 c2 c3 c4 e)
theorem zKu {zp tI tO i1 i2:Addr}{fp1 fp2:List Addr}{St:Heap->Prop}{a b:Value}{Q:Fin->Shared->Prop}(fr:∀h h',St h->(∀b∈fp1,∀o,h.get? b=some o->h'.get? b=some o)->St h')
 (dn:∀(s:Shared)(Q:vSP)(E:vSP),St s.heap->(∀h' e,Heap.ExtBut i1 s.heap h'->(∃o,h'.get? e=some o/\o.cls=.type "StopIteration")->E (.ref e) { s with heap:=h' })->wpAny (model prog w) A (Builtin.SmallTypes.nextOf (.ref i1)) Q E s) (Z:ZAp zp tI tO i1 i2 fp1 fp2)
 (gz:IsZip s.heap zp tI tO .none)(gI:IsPair s.heap tI (.ref i1) (.ref i2))(gO:IsPair s.heap tO a b)(s1:St s.heap)
 (qe:∀h' e,(∀c o,c≠zp->c≠i1->s.heap.get? c=some o->h'.get? c=some o)->(∃o,h'.get? e=some o/\o.cls=.type "StopIteration")->E (.ref e) { s with heap:=h' }):
 wpAny (model prog w) A (Builtin.«zip.__next__» ⟨[.ref zp],[]⟩) Q E s:=by
 obtain⟨hp,g,d,tk₀,os⟩:=s;show wpAny _ _ (field (.ref zp) 2 >>= _) _ _ _;refine zC (zA5 gz rfl (x:=.bool false) rfl ?_);show wpAny _ _ (field (.ref zp) 3 >>= _) _ _ _;refine zC (zA5 gz rfl (x:=.ref tI) rfl (zC (zAq gI rfl ?_)));show wpAny _ _ (Builtin.SmallTypes.ownedTupleIsFree (.ref zp) >>= _) _ _ _;unfold Builtin.SmallTypes.ownedTupleIsFree;refine zC (zC (zA5 gz rfl (x:=.none) rfl (zG ?_)));simp only[if_true];refine zC (zBp (zC (zA5 gz rfl (x:=.ref tO) rfl (zC (wpAny_setField_rec gz (by simp) fun h₁ z₁ e₁=>?_)))));replace z₁:IsZip h₁ zp tI tO .ellipsis:=z₁;replace e₁:Heap.SameBut zp hp h₁:=e₁;refine zC ?_;simp only[List.zipIdx_cons,List.zipIdx_nil,List.forIn_cons,List.forIn_nil];refine zC (zC (wpAny_onRaise ?_));show wpAny _ _ (Builtin.SmallTypes.nextOf (.ref i1) >>= _) _ _ _;refine zC (dn _ _ _ (fr hp h₁ s1 fun b hb o e=>e₁.extBut _ _ (fun x=>Z.a1.1 (x ▸ hb)) e) fun h₂ e e₂ he=>?_);replace e₂:Heap.ExtBut i1 h₁ h₂:=e₂;obtain⟨oe,hoe,hce⟩:=he;have z₂:IsZip h₂ zp tI tO .ellipsis:=e₂ _ _ Z.z1.symm z₁;have ne:e≠zp:=fun x=>by subst x;rw[z₂] at hoe;cases hoe;simp at hce
 exact wpAny_setField_rec z₂ (by simp) fun h₃ _ e₃=>qe h₃ e (fun c o c1 c3 x=>e₃.extBut _ _ c1 (e₂ _ _ c3 (e₁.extBut _ _ c1 x))) ⟨oe,e₃.extBut _ _ ne hoe,hce⟩
end
noncomputable abbrev zt1 (h:Heap)(l1:Addr):Heap:=h.push { cls:=.type "tuple_iterator",data:=.fields #[.ref l1,.int 0 0] }
noncomputable abbrev zt2 (h:Heap)(l1 l2:Addr):Heap:=(zt1 h l1).push { cls:=.type "tuple_iterator",data:=.fields #[.ref l2,.int 0 0] }
noncomputable abbrev zt3 (h:Heap)(l1 l2:Addr):Heap:=(zt2 h l1 l2).push { cls:=.type "tuple",data:=.seq #[.ref h.objs.size,.ref (zt1 h l1).objs.size] }
noncomputable abbrev zt4 (h:Heap)(l1 l2:Addr):Heap:=(zt3 h l1 l2).push { cls:=.type "tuple",data:=.seq #[.none,.none] }
noncomputable abbrev zt5 (h:Heap)(l1 l2:Addr):Heap:=(zt4 h l1 l2).push { cls:=.type "zip",data:=.fields #[.none,.bool false,.bool false,.ref (zt2 h l1 l2).objs.size,.ref (zt3 h l1 l2).objs.size] }
theorem zID (l1 l2:Addr)(xs ys:Array Value):Meets (Builtin.«zip.__new__» ⟨[.type "zip",.ref l1,.ref l2],[]⟩) (fun _ R s=>s.heap.IsTuple l1 xs/\s.heap.IsTuple l2 ys/\R (.ok (.ret (.ref (zt4 s.heap l1 l2).objs.size))) { s with heap:=zt5 s.heap l1 l2 }):=by
 refine .of_wp fun prog w A R s hs=>?_;obtain⟨hp,g,d,tk,os⟩:=s;obtain⟨h1,h2,hR⟩:=hs;have su:=sub_zip;have t1:Heap.IsTuple (Shared.heap ⟨hp,g,d,tk,os⟩) l1 xs:=h1;have t2:Heap.IsTuple (Shared.heap ⟨hp.push { cls:=.type "tuple_iterator",data:=.fields #[.ref l1,.int 0 0] },g,d,tk,os⟩) l2 ys:=by obtain⟨o,ho,r⟩:=h2;exact⟨o,zN _ ho,r⟩
 wp_walk using wpAny_pyIter_tuple t1,wpAny_pyIter_tuple t2
 exact⟨_,rfl,hR⟩
section
variable {prog:Program}{w:World}{A:Around}{E:vSP}{s:Shared}
theorem zKc {l1 l2:Addr}{xs ys:Array Value}{Q:vSP}(h1:s.heap.IsTuple l1 xs)(h2:s.heap.IsTuple l2 ys)
 (h:∀h',IsZip h' (s.heap.objs.size+4) (s.heap.objs.size+2) (s.heap.objs.size+3) .none->IsPair h' (s.heap.objs.size+2) (.ref s.heap.objs.size) (.ref (s.heap.objs.size+1))->IsPair h' (s.heap.objs.size+3) .none .none ->
  h'.IsTupleIter s.heap.objs.size l1 0->h'.IsTupleIter (s.heap.objs.size+1) l2 0->(∀c o,s.heap.get? c=some o->h'.get? c=some o)->Q (.ref (s.heap.objs.size+4)) { s with heap:=h' }):
 wpAny (model prog w) A (call (.type "zip") [.ref l1,.ref l2]) Q E s:=by
 refine callType_new PySem.F.called_zip (by decide) (PySem.F.typeCall_zip_2 _ _) (PySem.F.newCall_zip_2 _ _) (fun obj=>PySem.F.args_object_init_3 obj _ _) PySem.F.entry_zip_new (zID l1 l2 xs ys) ⟨h1,h2,?_⟩;have z1:(zt1 s.heap l1).objs.size=s.heap.objs.size+1:=zAU ..;have z2:(zt2 s.heap l1 l2).objs.size=s.heap.objs.size+2:=by rw[zAU,z1]
 have z3:(zt3 s.heap l1 l2).objs.size=s.heap.objs.size+3:=by rw[zAU,z2]
 have z4:(zt4 s.heap l1 l2).objs.size=s.heap.objs.size+4:=by rw[zAU,z3]
 have up:∀{h:Heap}{c:Addr}{o o':Obj},h.get? c=some o->(h.push o').get? c=some o:=fun e=>zN _ e;have g5:(zt5 s.heap l1 l2).get? (zt4 s.heap l1 l2).objs.size=some _:=zX _ rfl;have g4:(zt5 s.heap l1 l2).get? (zt3 s.heap l1 l2).objs.size=some _:=up (zX _ rfl);have g3:(zt5 s.heap l1 l2).get? (zt2 s.heap l1 l2).objs.size=some _:=up (up (zX _ rfl));have g2:(zt5 s.heap l1 l2).get? (zt1 s.heap l1).objs.size=some _:=up (up (up (zX _ rfl)));have g1:(zt5 s.heap l1 l2).get? s.heap.objs.size=some _:=up (up (up (up (zX _ rfl))));show _/\_;rw[z2,z3,z4] at g5;rw[z1,z2] at g3;rw[z3] at g4;rw[z1] at g2;rw[z4];exact⟨⟨_,g5,rfl⟩,h _ g5 g3 g4 ⟨_,g1,rfl,rfl⟩ ⟨_,g2,rfl,rfl⟩ fun c o x=>up (up (up (up (up x))))⟩
end
noncomputable def ItzT (K:PySem.W.Frag)(a b:Addr):It:=
 ⟨fun i H=>∃xs ys x y,SqT K H a xs/\SqT K H b ys/\xs[i]?=some x/\ys[i]?=some y,fun i H x H'=>∃T u v,x=.ref T/\H T=none/\H'=upd H T (.tup [u,v])/\(∀xs,SqT K H a xs->xs[i]?=some u)/\∀ys,SqT K H b ys->ys[i]?=some v,fun i H=>∃xs,SqT K H a xs/\xs.length<=i⟩
variable {a:Addr}
theorem zEu {zp tI tO i1 i2 b:Addr}(h1:i1<i2)(h2:i2<tI)(h3:tI<tO)(h4:tO<zp)(ha:a<i1)(hb:b<i1):ZAp zp tI tO i1 i2 [i1,a] [i2,b]:=by
 have t1:=zAp h1 h2;have t2:=zAp h2 h3;have t3:=zAp h3 h4;have t4:=zAp t1 h3;have t5:=zAp t2 h4;have t6:=zAp t4 h4;have nm:∀{x y zp:Addr},x≠y->x≠zp->x∉[y,zp]:=fun p q h=>by
  rcases ze.mp h with e | e
  . exact p e
  . exact q (zd.mp e)
 exact⟨zb t3,zb h4,zb t6,zb t5,zb h3,zAR t1,zAR h2,zAR t4,zAR t2,zb h1,
  ⟨nm (zAR t6) (zAR (zAp ha t6)),nm (zAR t4) (zAR (zAp ha t4)),nm (zAR h1) (zAR (zAp ha h1))⟩,
  ⟨nm (zAR t5) (zAR (zAp hb t6)),nm (zAR t2) (zAR (zAp hb t4)),nm (zb h1) (zAR hb)⟩⟩
variable {w:World}{K:PySem.W.Frag}
theorem zIa {P:Program}{elts:List Expr} {x1} {tp:Pos}(a b zp tI tO i1 i2:Addr)(o1:i1<i2)(o2:i2<tI)(o3:tI<tO)(o4:tO<zp)(oa:a<i1)(ob:b<i1):
 Turn P w K (.Tuple elts x1 tp) (ItzT K a b) [zp,tI,tO,i1,i2] zp (fun i h=>IsZip h zp tI tO .none/\IsPair h tI (.ref i1) (.ref i2)/\(∃u v,IsPair h tO u v)/\h.IsTupleIter i1 a i/\h.IsTupleIter i2 b i) where
 mem:=by simp
 obj:=fun i h st c hc=>by
  obtain⟨gz,hI,⟨u,v,hO⟩,⟨p1,e1,c1,d1⟩,⟨p2,e2,c2,d2⟩⟩:=st;simp only[ze,List.not_mem_nil,or_false] at hc;rcases hc with rfl | rfl | rfl | rfl | rfl
  . exact⟨_,gz,fun v zp=>by cases zp⟩
  . exact⟨_,hI,fun v zp=>by cases zp⟩
  . exact⟨_,hO,fun v zp=>by cases zp⟩
  . exact⟨p1,e1,fun v zp=>by rw[d1] at zp;cases zp⟩
  . exact⟨p2,e2,fun v zp=>by rw[d2] at zp;cases zp⟩
 keep:=fun i h h' st k=>by obtain⟨gz,hI,⟨u,v,hO⟩,⟨p1,e1,r1⟩,⟨p2,e2,r2⟩⟩:=st;exact⟨k zp (by simp) _ gz,k tI (by simp) _ hI,⟨u,v,k tO (by simp) _ hO⟩,⟨p1,k i1 (by simp) _ e1,r1⟩,⟨p2,k i2 (by simp) _ e2,r2⟩⟩
 item:=by
  intro X hP hw hK hc i pins s σ H E I hf st hg;subst hP hw hK;obtain⟨gz,hI,⟨u0,v0,hO⟩,h1,h2⟩:=st;obtain⟨xs,ys,x,y,hq1,hq2,hx,hy⟩:=hg;obtain⟨its1,rv1,p1,hz1⟩:=I.tuple hq1;obtain⟨its2,rv2,p2,hz2⟩:=I.tuple hq2;obtain⟨u1,hu1,ru1⟩:=rv1.get hx;obtain⟨u2,hu2,ru2⟩:=rv2.get hy;have zlt:zp<s.heap.objs.size:=zW gz;have Z:=zEu o1 o2 o3 o4 oa ob;have lt1:i<its1.toArray.size:=by simpa using (zF.mp hu1).1
  have lt2:i<its2.toArray.size:=by simpa using (zF.mp hu2).1
  have hT:s.TypeIs (.ref zp) "zip" := ⟨_,gz,rfl⟩;unfold pyNext;refine zC (wpAny_attempt (zAg (name:=Str.ofString "__next__") hT PySem.F.slot_zip_next (zAj PySem.F.slot_zip_next hT PySem.F.entry_zip_next
   (zIY (zER (A:=X.A.in1) (I.ok.hd hc) i1 a (zb oa) its1.toArray) (zER (A:=X.A.in1) (I.ok.hd hc) i2 b (zb (zAp ob o1)) its2.toArray) Z gz hI hO ⟨h1,p1⟩ ⟨h2,p2⟩ lt1 lt2 fun y1 y2 h' tk hy1 hy2 z' hO' s1' s2' hT' hsz hk=>zG ?_) (PySem.F.args_zip_next_1 _))))
  obtain rfl:y1=u1:=by
   have h1:its1[i]?=some y1:=by simpa using hy1
   rw[hu1] at h1;exact (zT h1).symm
  obtain rfl:y2=u2:=by
   have h1:its2[i]?=some y2:=by simpa using hy2
   rw[hu2] at h1;exact (zT h1).symm
  refine⟨_,rfl,wpAny_letOwnedTupleGo_zip z' fun h2' z2 e2=>?_⟩;have hT2:IsPair h2' s.heap.objs.size y1 y2:=e2.extBut _ _ (zAR zlt) hT';have fpl:∀c∈[zp,tI,tO,i1,i2],c<s.heap.objs.size:=fun c hc=>by
   simp only[ze,List.not_mem_nil,or_false] at hc;have t1:=zAp o4 zlt;have t2:=zAp o3 t1;have t3:=zAp o2 t2;rcases hc with rfl | rfl | rfl | rfl | rfl
   . exact zlt
   . exact t2
   . exact t1
   . exact zAp o1 t3
   . exact t3
  refine⟨.ref s.heap.objs.size,upd H s.heap.objs.size (.tup [x,y]),I.turnedLaid (t':=tk) (fp:=[zp,tI,tO,i1,i2]) hf (fun c o hb q=>?_) (zK _) ?_,rfl,⟨_,x,y,rfl,I.hok.fresh (zK _),rfl,fun zs hzs=>by rw[I.tuple_inj hzs hq1];exact hx,fun zs hzs=>by rw[I.tuple_inj hzs hq2];exact hy⟩,⟨z2,?_,⟨_,_,e2.extBut _ _ Z.zTO hO'⟩,?_,?_⟩,fun c hc=>?_⟩
  . exact e2.extBut _ _ (fun w=>hb (by simp[w])) (hk c o (fun w=>hb (by simp[w])) (fun w=>hb (by simp[w])) (fun w=>hb (by simp[w])) (fun w=>hb (by simp[w])) q)
  . exact⟨⟨by show 2<=sizeLine;decide,_,hT2,rfl⟩,[y1,y2],.cons ru1 (.cons ru2 .nil),⟨_,hT2,rfl,_,rfl⟩⟩
  . exact e2.extBut _ _ Z.zTI (hk _ _ Z.zTI Z.IO Z.I1 Z.I2 hI)
  . obtain⟨⟨o,ho,r⟩,_⟩:=s1';exact⟨o,e2.extBut _ _ Z.z1 ho,r⟩
  . obtain⟨⟨o,ho,r⟩,_⟩:=s2';exact⟨o,e2.extBut _ _ Z.z2 ho,r⟩
  . rw[za (zb (fpl c hc))];exact (hf _ hc).1
 done:=by
  intro X hP hw hK hc i pins s σ H E I hf st hg;subst hP hw hK;obtain⟨gz,hI,⟨u0,v0,hO⟩,h1,h2⟩:=st;obtain⟨xs,hq,hx⟩:=hg;obtain⟨its,rv,p,_⟩:=I.tuple hq;have hl:=rv.length;have Z:=zEu o1 o2 o3 o4 oa ob;have hT:s.TypeIs (.ref zp) "zip" := ⟨_,gz,rfl⟩;have f1:=hf zp (by simp);have f2:=hf i1 (by simp);unfold pyNext;refine zC (wpAny_attempt (zAg (name:=Str.ofString "__next__") hT PySem.F.slot_zip_next (zAj PySem.F.slot_zip_next hT PySem.F.entry_zip_next
   (zKu (A:=X.A.in1) (St:=fun h=>h.IsTupleIter i1 a i/\h.IsTuple a its.toArray) (fun h h' st k=>by obtain⟨⟨o,ho,r⟩,o2,ho2,r2⟩:=st;exact⟨⟨o,k i1 (by simp) o ho,r⟩,o2,k a (by simp) o2 ho2,r2⟩) (fun s Q E st qe=>zEQ (I.ok.hd hc) st.1 st.2 (by simp;omega) qe) Z gz hI hO ⟨h1,p⟩ fun h' e hk he=>?_) (PySem.F.args_zip_next_1 _))))
  obtain⟨o,ho,hcl⟩:=he;refine zC (wpAny_isInstance (T := "StopIteration") (b:=true) ⟨o,ho,hcl⟩ isSubtype_stop (zG ?_));exact⟨rfl,I.turnedFp (t':=s.toks) (fp:=[zp,tI,tO,i1,i2]) hf fun c u hb q=>hk c u (fun w=>hb (by simp[w])) (fun w=>hb (by simp[w])) q⟩
 self:=fun _ _ _ _ _ st h=>wpAny_pyIter_zip st.1 h
section
variable {X:Cx}
inductive zKC (K:PySem.W.Frag)(R:It->Hp->Prop)(vs:List V)(H1:Hp):Prop
 | mk:∀a b,(vs=[.ref a,.ref b])->((∃xs,SqT K H1 a xs))->((∃ys,SqT K H1 b ys))->(R (ItzT K a b) H1)->zKC K R vs H1
noncomputable def iZipT (K:PySem.W.Frag)(ta:TA):TI:=fun σ H R=>ta σ H fun vs H1=>zKC K R vs H1
theorem zNR {elts:List Expr} {x1} {tp:Pos}{a b:Expr}{ta:TA}{p pos:Pos}(hg:Gl X "zip") (hm:X.mg "zip"=none) (ha:PA X [a,b] ta)(hs:starEach [a,b] X.env=(false,eval a X.env)::starEach [b] X.env:=by rfl)(hs2:(backTo pos (starEach [b] X.env)).any (·.1)=false:=by rfl):PI X (.Tuple elts x1 tp) (.Call (.Name "zip" p) [a,b] [] pos) (iZipT X.K ta):=by
 intro pins s σ H R I h;refine Call_ (zC7 I hg hm (by decide +kernel) (PyProof.Rows.callWith_type1 (T := "zip") (thn (ha pos pins s σ H _ I h) fun us s1 ⟨vs,H1,I1,r1,q1⟩=>?_) hs hs2));obtain⟨l1,l2,e,⟨xs,hq1⟩,⟨ys,hq2⟩,q⟩:=q1;subst e;obtain⟨u1,u2,rfl,rx1,rx2⟩:=zIZ r1;cases rx1;cases rx2;obtain⟨its1,_,p1,_⟩:=I1.tuple hq1;obtain⟨its2,_,p2,_⟩:=I1.tuple hq2;have ll1:l1<s1.heap.objs.size:=by obtain⟨o,ho,_⟩:=id p1;exact zW ho
 have ll2:l2<s1.heap.objs.size:=by obtain⟨o,ho,_⟩:=id p2;exact zW ho
 refine zKc p1 p2 fun h' hz hI hO h1 h2 hk=>?_;refine wpAny_pyIter_zip hz ?_;refine⟨s1.heap.objs.size+4,[s1.heap.objs.size+4,s1.heap.objs.size+2,s1.heap.objs.size+3,s1.heap.objs.size,s1.heap.objs.size+1],_,_,H1,rfl,I1.kept (t':=s1.toks) hk,
  zIa l1 l2 _ _ _ _ _ (Nat.lt_succ_self _) (Nat.lt_succ_self _) (Nat.lt_succ_self _) (Nat.lt_succ_self _) ll1 ll2,⟨hz,hI,⟨_,_,hO⟩,h1,h2⟩,fun b hb=>?_,q⟩
 have hle:s1.heap.objs.size<=b:=by
  simp only[ze,List.not_mem_nil,or_false] at hb;rcases hb with rfl | rfl | rfl | rfl | rfl
  . exact Nat.le_add_right _ _
  . exact Nat.le_add_right _ _
  . exact Nat.le_add_right _ _
  . exact zK _
  . exact Nat.le_add_right _ _
 exact I1.fpOk hle (I1.hok.fresh hle)
end
theorem zLb {b:Addr}{xs ys:List V}{g:TG}{tb:TS}{D:zGZ}{σ:St}(hxy:xs.length=ys.length)(Pv:Nat->St->Hp->Prop)(h0:Pv 0 σ H)(hl:∀i σ H,i<=xs.length->Pv i σ H->SqT K H a xs/\SqT K H b ys)
 (hs:∀i x y σ H T,xs[i]?=some x->ys[i]?=some y->Pv i σ H->H T=none->g (.ref T) σ (upd H T (.tup [x,y])) fun σ2 H2=>tb { D with nx:=Pv (i+1),ct:=Pv (i+1),bk:=D.nx } σ2 H2)(hd:∀ σ H,Pv xs.length σ H->D.nx σ H):
 ∃W:Nat->Nat->St->Hp->Prop,(∃m,W 0 m σ H)/\∀i m σ H,W i m σ H ->
  ((ItzT K a b).stop i H/\D.nx σ H)\/((ItzT K a b).go i H/\∃N:St->Hp->Prop,(∀ σ' H',N σ' H'->∃m',m'<m/\W (i+1) m' σ' H')/\∀x H',(ItzT K a b).yld i H x H'->g x σ H' fun σ2 H2=>tb { D with nx:=N,ct:=N,bk:=D.nx } σ2 H2):=by
 refine⟨fun i m σ H=>i<=xs.length/\m=xs.length-i/\Pv i σ H,⟨_,zk _,rfl,h0⟩,fun i m σ H h=>?_⟩;obtain⟨hi,rfl,hp⟩:=h;obtain⟨q1,q2⟩:=hl i σ H hi hp;by_cases c:i<xs.length
 . refine .inr ⟨⟨xs,ys,xs[i],ys[i],q1,q2,zA c,zA (by omega)⟩,Pv (i+1),fun σ' H' hp'=>⟨xs.length-(i+1),by omega,c,rfl,hp'⟩,fun x H' y=>?_⟩;obtain⟨T,u,v,rfl,hT,rfl,hu,hv⟩:=y;exact hs i u v σ H T (hu xs q1) (hv ys q2) hp hT
 . have e:i=xs.length:=by omega
   subst e;exact .inl ⟨⟨xs,q1,zK _⟩,hd σ H hp⟩
variable {h:Heap}
theorem zBc.there {P:Program}{o:HO}(x:zBc P w H h a o):∃ob,h.get? a=some ob:=by
 cases o with
 | lst xs=>obtain⟨_,_,_,_,e⟩:=x;exact⟨_,e⟩
 | tup xs=>obtain⟨⟨_,o2,e2,_⟩,_⟩:=x;exact⟨_,e2⟩
 | dK kvs=>obtain⟨_,_,_,_,o,_,_,e,_⟩:=x;exact⟨_,e⟩
 | dT kvs=>obtain⟨_,_,_,_,o,_,_,e,_⟩:=x;exact⟨_,e⟩
 | set S n=>obtain⟨o,_,_,_,e,_⟩:=x;exact⟨_,e⟩
 | ins C dx fs=>obtain⟨_,_,_,e,_⟩:=x;exact⟨_,e⟩
 | own y=>obtain⟨_,e⟩:=x;exact⟨_,e⟩
 | xd fs=>obtain⟨_,⟨_,_,_,e,_⟩,_⟩:=x;exact⟨_,e⟩
 | rng lo hi=>obtain⟨_,_,_,e⟩:=x;exact⟨_,e⟩
 | frz ob u=>obtain⟨e,_⟩:=x;exact⟨_,e⟩
 | tbl ps=>exact⟨_,show h.get? a=some _ from x⟩
 | met f y=>exact⟨_,show h.get? a=some _ from x⟩
 | ext φ=>obtain⟨_,⟨_,e⟩,_⟩:=x;exact⟨_,e⟩
theorem HOk.stays {P:Program}{h' B:Heap}(x:HOk P w H h)(k:B.StaysIn h)(k':B.StaysIn h')(tr:∀b u,H b=some u->∃o,B.get? b=some o):HOk P w H h':=fun a o e=>
 (x a o e).stay (fun b u hb q=>by
  have:∃v,H b=some v:=by
   rcases hb with rfl | hb
   . exact⟨_,e⟩
   . exact⟨_,hb⟩
  obtain⟨v,hv⟩:=this;obtain⟨o',ho'⟩:=tr b v hv;have e2:o'=u:=zT ((k b o' ho').symm.trans q);exact e2 ▸ k' b o' ho') (fun _ q=>q) fun _ _ q=>q
noncomputable abbrev bmV:List Value:=[.type "ValueError",.type "Exception",.type "BaseException",.type "object"]
variable {C:Addr}{newId:String}
theorem zKL {bmB:List Value}(X:K.In h)(q:PySem.W.excIn K C bmB newId=true):
 ∃bm N nm qn bs hdct sn sub ab col dd k0 k1 k2 k3 k5 mN,h.get? C=some (excClassObj nm qn C N bs bm hdct sn sub ab col dd k0 k1 k2 k3 k5 newId)/\h.Ns N mN/\mN "__init__"=none/\OwnTail h bmB bm:=by
 unfold PySem.W.excIn at q;split at q
 . next dd cd sl look=>
   split at q
   . next D bm k0 k1 k2 k3 n k5 em es=>
     simp only[zAk,beq_iff_eq,Bool.not_eq_true'] at q;obtain⟨⟨⟨⟨⟨q1,q2⟩,q3⟩,q4⟩,q5⟩,q6⟩:=q;subst q1 q2;cases cd;simp only at em q3 q5 q6;subst em q3;cases sl;simp only at es;subst es;exact⟨_,_,_,_,_,_,_,_,_,_,_,_,_,_,_,_,_,X _ _ look,.of_isNs (PySem.W.isNs_of_in X q5),PySem.W.nsMap_none_of_in X q5 q6,PySem.W.tail_of_in X q4⟩
   . cases q
 . cases q
theorem zIE {M:Model}{A:Around}{E:vSP}{s:Shared}{nm qn nm' qn':Str}{W Nn Nn':Addr}{bs bm bs' bm':List Value}{hdct hdct':Bool}{sn sn':List Str}{sub sub':List Value}{ab ab':Bool}{col col':Option Bool}{dd dd':Option Addr}
 {k0 k1 k2 k3 k5 k0' k1' k2' k3' k5':Option Value}{newId':String}{e:Addr}{oe:Obj}{Q:Bool->Shared->Prop}
 (hC:s.heap.get? C=some (excClassObj nm qn C Nn bs bm hdct sn sub ab col dd k0 k1 k2 k3 k5 newId))(hW:s.heap.get? W=some (excClassObj nm' qn' W Nn' bs' bm' hdct' sn' sub' ab' col' dd' k0' k1' k2' k3' k5' newId'))
 (he:s.heap.get? e=some oe)(hcls:oe.cls=.ref C)(hb:bm'.contains (.type "BaseException")=true) (hs:(Value.ref C::bm).contains (.ref W)=true)(hq:Q true s):wpAny M A (excMatches (.ref e) (.ref W)) Q E s:=by
 obtain⟨h,g,d,t,os⟩:=s;have hWB:(Value.ref W::bm').contains (.type "BaseException")=true:=by rw[List.contains_cons,hb,Bool.or_true]
 have f:=tc_notTuple;unfold excMatches
 repeat (first | (with_reducible refine zBC he ?_;rw[hcls]) | with_reducible refine zBC hW ?_ | (with_reducible refine wpAny_isSubtype_exc hW ?_;rw[hWB]) | (with_reducible refine wpAny_isSubtype_exc hC ?_;rw[hs]) | wp_step)
 exact hq
noncomputable def subIn (K:PySem.W.Frag)(C W:Addr):Bool:=match K.lookup C with
 | some ⟨_,_,.cls cd,_⟩=>cd.mro.contains (.ref W)
 | _=>false
theorem sub_of {W:Addr}{nm qn:Str}{Nn:Addr}{bs bm:List Value}{hdct:Bool}{sn:List Str}{sub:List Value}{ab:Bool}{col:Option Bool}{dd:Option Addr}{k0 k1 k2 k3 k5:Option Value}
 (X:K.In h)(q:subIn K C W=true)(hC:h.get? C=some (excClassObj nm qn C Nn bs bm hdct sn sub ab col dd k0 k1 k2 k3 k5 newId)):(Value.ref C::bm).contains (.ref W)=true:=by
 unfold subIn at q;split at q
 . next look=>
   have e:=(X _ _ look).symm.trans hC;unfold excClassObj at e;cases e;exact q
 . cases q
noncomputable def Cx.held (X:Cx)(ea:Addr)(oe:Obj):Cx:={ X with A:=X.A.mark (some (.ref ea)),calm:=false,pn:=(ea,oe)::X.pn,xe:=fun _ _=>False }
section
variable {X:Cx}{pins:lPO}{σ:St}{H:Hp}{s:Shared}{ea:Addr}{oe:Obj}
theorem Inv.hold (I:Inv X pins σ H s)(h1:s.heap.get? ea=some oe)(h2:H ea=none)(h3:ea≠X.env.locals)(h4:ea∉X.fs)(h5:∀v,oe.data ≠ .cell v):Inv (X.held ea oe) pins σ H s:=
 ⟨⟨I.ok.mod,I.ok.kind,I.ok.glob,I.ok.blt,I.ok.above,I.ok.inj,I.ok.has,I.ok.cab,(fun z=>by cases z),I.ok.frames,I.ok.stk,I.ok.exf,I.ok.bs,I.ok.bsz,I.ok.noex,I.ok.exfs,I.ok.funs,I.ok.frf⟩,I.os,I.bare,I.base,I.loc,I.cell,I.free,I.freeC,
  fun p hp=>by
   rcases ze.mp (show p∈(ea,oe)::(X.pn++pins) from hp) with rfl | hp
   . exact⟨h1,h2,h3,h4,h5⟩
   . exact I.pin p hp,I.hok,I.len⟩
theorem Inv.letgo (ok:X.Ok)(I:Inv (X.held ea oe) pins σ H s):Inv X pins σ H s:=
 ⟨ok,I.os,I.bare,I.base,I.loc,I.cell,I.free,I.freeC,fun p hp=>I.pin p (zg _ hp),I.hok,I.len⟩
end
theorem zJ1 {st:List Env}{H1 H':Hp}{s1 s':Shared}{ea:Addr}{C a0:Value}{B h5:Heap}(un:Un (frs st) [] H1 H' s1.heap s'.heap)(fl:Heap.FlyingW B st ea C a0 s'.heap)
 (old:∀b o,s1.heap.get? b=some o->H1 b=none->b∉frs st->B.get? b=some o)(al:∀b o,s1.heap.get? b=some o->b∉frs st->∃o',B.get? b=some o')(st5:B.StaysIn h5)(up:s'.heap.UpToSlots h5):Un (frs st) [] H1 H' s1.heap h5:=by
 refine⟨fun b o e n hb _=>st5 b o (old b o e n hb),fun b o e n hb _=>?_,un.free,fun b o e _=>?_,un.tups,un.frzs,un.tbls⟩
 . obtain⟨sl2,e2⟩:=un.slot b o e n hb (by intro z;cases z);obtain⟨_,o3,e3,nd⟩:=fl.2.2.1.mem hb;obtain⟨sl4,e4⟩:=up b _ e3 nd;have e5:=zT (e3.symm.trans e2);rw[e5] at e4;exact⟨sl4,e4⟩
 . by_cases hb:b∈frs st
   . obtain⟨_,o3,e3,nd⟩:=fl.2.2.1.mem hb;obtain⟨sl4,e4⟩:=up b _ e3 nd;exact⟨_,e4⟩
   . obtain⟨o3,e3⟩:=al b o e hb;exact⟨_,st5 b o3 e3⟩
end L2
namespace L2
open PySem PySem.Spec PySem.W PyProof.Rows Builtin Builtin.ObjectAttr Builtin.Getset_descriptor
section
variable {prog:Program}{w:World}{A:Around}{E:vSP}{s:Shared}{K:Frag}{x C:Addr}{ox:Obj}
inductive zKn (h:Heap)(x:Addr)(C:Addr):Prop
 | mk:∀o,(h.get? x=some o)->(o.cls=.ref C)->zKn h x C
noncomputable def zLp (h:Heap)(x C:Addr):Prop:=zKn h x C
theorem zLp.type {M:Model}{h:Heap}{x C:Addr}(I:zLp h x C):Looks M h (typeOf (.ref x)) (.ref C):=by obtain⟨o,e,c⟩:=I;rw[<-c];exact (Looks.ld e).andThen .now
end
end L2
namespace L2
open PySem PySem.Spec PyProof.Rows
noncomputable def DK (h h':Heap):Prop:=∀b o,h.get? b=some o->∃o',h'.get? b=some o'/\o'.dict=o.dict
theorem DK.refl (h:Heap):DK h h:=fun _ o e=>⟨o,e,rfl⟩
theorem DK.trans {h1 h2 h3:Heap}(a:DK h1 h2)(b:DK h2 h3):DK h1 h3:=fun x o e=>by obtain⟨o1,e1,d1⟩:=a x o e;obtain⟨o2,e2,d2⟩:=b x o1 e1;exact⟨o2,e2,d2.trans d1⟩
noncomputable def KD {α:Type}:Sem α->Prop
 | .pure _=>True
 | .raise _=>True
 | .unsupported _=>True
 | .finish _=>True
 | .rule _ k=>KD (k ())
 | .at _ k=>KD (k ())
 | .load _ _ k=>∀o,KD (k o)
 | .update _ _ f k=>(∀o,(f o).dict=o.dict/\(o.isFreed=false->(f o).isFreed=false))/\KD (k ())
 | .alloc _ k=>∀a,KD (k a)
 | .loadIfAlive _ k=>∀o,KD (k o)
 | .point _ k=>KD (k ())
 | .fresh k=>∀t,KD (k t)
 | .ask k=>∀x,KD (k x)
 | .stack k=>∀l,KD (k l)
 | .handled _ k=>∀v,KD (k v)
 | _=>False
theorem KD.bind {α β:Type}{t:Sem α}{k:α->Sem β}(h:KD t)(hk:∀a,KD (k a)):KD (t >>= k):=by
 show KD (Sem.bind t k)
 induction t with
 | pure a=>exact hk a
 | raise e=>trivial
 | unsupported w=>trivial
 | finish e=>trivial
 | rule t f ih=>exact ih () h
 | «at» p f ih=>exact ih () h
 | load a p f ih=>exact fun o=>ih o (h o)
 | update a p f g ih=>exact⟨h.1,ih () h.2⟩
 | alloc o f ih=>exact fun a=>ih a (h a)
 | loadIfAlive a f ih=>exact fun o=>ih o (h o)
 | point l f ih=>exact ih () h
 | fresh f ih=>exact fun t=>ih t (h t)
 | ask f ih=>exact fun x=>ih x (h x)
 | stack f ih=>exact fun l=>ih l (h l)
 | handled o f ih=>exact fun v=>ih v (h v)
 | register=>exact h.elim
 | choose=>exact h.elim
 | os=>exact h.elim
 | call=>exact h.elim
 | newGen=>exact h.elim
 | genState=>exact h.elim
 | resume=>exact h.elim
 | yield=>exact h.elim
 | fork=>exact h.elim
 | thread=>exact h.elim
 | await=>exact h.elim
variable {M:Model}
theorem KD.wp {α:Type}{Γ : PySem.Ctx}{t:Sem α}(h:KD t){h0:Heap}{Q:α->Pos->Shared->Prop}{E:Value->Pos->Shared->Prop}:∀{p:Pos}{s:Shared},DK h0 s.heap->Sem.wp M Γ t Q E p s->Sem.wp M Γ t (fun a p' s'=>Q a p' s'/\DK h0 s'.heap) E p s:=by
 induction t with
 | pure a=>exact fun d w=>⟨w,d⟩
 | raise e=>exact fun d w=>w
 | unsupported w=>exact fun d w=>w
 | finish e=>exact fun d w=>w
 | rule t f ih=>exact fun d w=>ih () h d w
 | «at» p f ih=>exact fun d w=>ih () h d w
 | load a p f ih=>intro p s d w;obtain⟨o,e,w⟩:=w;exact⟨o,e,ih o (h o) d w⟩
 | update a p f g ih=>
  intro p s d w;obtain⟨e,w⟩:=w;refine⟨e,ih () h.2 (d.trans fun b o q=>?_) w⟩;by_cases c:b=a
  . subst c;have fr:=(Heap.get?_some_iff.mp q).2;exact⟨f o,zBJ f q ((h.1 o).2 fr),(h.1 o).1⟩
  . exact⟨o,(Heap.get?_update_other _ _ (Ne.symm c)).trans q,rfl⟩
 | alloc o f ih=>intro p s d w;exact ih _ (h _) (d.trans fun b o q=>⟨o,zN _ q,rfl⟩) w
 | loadIfAlive a f ih=>exact fun d w=>ih _ (h _) d w
 | point l f ih=>exact fun d w=>ih () h d w
 | fresh f ih=>exact fun d w=>ih _ (h _) d w
 | ask f ih=>exact fun d w=>ih _ (h _) d w
 | stack f ih=>exact fun d w=>ih _ (h _) d w
 | handled o f ih=>exact fun d w=>ih _ (h _) d w
 | register=>exact h.elim
 | choose=>exact h.elim
 | os=>exact h.elim
 | call=>exact h.elim
 | newGen=>exact h.elim
 | genState=>exact h.elim
 | resume=>exact h.elim
 | yield=>exact h.elim
 | fork=>exact h.elim
 | thread=>exact h.elim
 | await=>exact h.elim
variable {A:Around}
theorem zDF {α:Type}{t:Sem α}{Q:α->Shared->Prop}{E:vSP}{s:Shared}(k:KD t)(h:wpAny M A t Q E s):wpAny M A t (fun a s'=>Q a s'/\DK s.heap s'.heap) E s:=
 fun Γ p hΓ => k.wp (DK.refl _) (h Γ p hΓ)
theorem zDM {α:Type}{c:Prop} [Decidable c] {a b:Sem α}(h1:KD a)(h2:KD b):KD (if c then a else b):=by split <;> assumption
theorem zGm (v:Value):KD (fieldsOf v):=by
 unfold fieldsOf;split
 . refine KD.bind (fun o=>trivial) fun o=>?_;split <;> trivial
 . trivial
theorem zDt (v:Value)(i:Nat):KD (field v i):=by unfold field;refine KD.bind (zGm v) fun vs=>?_;split <;> trivial
theorem zKI (g:Array Value->Array Value)(o:Obj):(Obj.mapFields g o).dict=o.dict/\(o.isFreed=false->(Obj.mapFields g o).isFreed=false):=by obtain⟨c,d,dt,sl⟩:=o;cases dt <;> exact⟨rfl,fun h=>h⟩
theorem zDA (v:Value)(i:Nat)(x:Value):KD (setField v i x):=by
 unfold setField;split
 . unfold updateField;refine KD.bind (fun o=>trivial) fun o=>?_;split
   . exact zDM ⟨fun o=>zKI _ o,trivial⟩ trivial
   . trivial
 . trivial
theorem zCv (e:Value)(f:Option Addr):KD (setFlight e f):=by unfold setFlight;refine KD.bind (zDt e 1) fun tb=>zDM (zDA _ _ _) trivial
theorem zGB:KD frameEnvs:=by unfold frameEnvs;exact KD.bind (fun l=>trivial) fun l=>trivial
theorem zJ6 (env:Env)(l:List Env):KD (behindIsImport env l):=by unfold behindIsImport;exact zDM trivial (zDM trivial (KD.bind (zDt _ _) fun _=>trivial))
theorem zNs (env:Env)(b:Bool)(l:List Env):KD (keptBack env b l):=by
 unfold keptBack;split
 . refine zDM trivial ?_;refine KD.bind ?_ fun _=>trivial;unfold underTheClaimsCaller;exact KD.bind (fun l=>trivial) fun l=>trivial
 . trivial
theorem zHe:∀l:List Env,KD (readyFrames l)
 | []=>trivial
 | env::outer=>by
  unfold readyFrames;split
  . refine KD.bind (fun o=>trivial) fun o=>?_;refine zDM trivial ?_;refine KD.bind (zJ6 _ _) fun b=>?_;refine KD.bind (zNs _ _ _) fun b=>?_;refine KD.bind ⟨fun o=>⟨rfl,fun h=>(by obtain⟨c,d,dt,sl⟩:=o;cases dt <;> exact h)⟩,trivial⟩ fun _=>zHe outer
  . trivial
theorem zIM (env:Env):KD (PySem.frameOf env):=by
 unfold PySem.frameOf;refine KD.bind zGB fun l=>?_;refine KD.bind ?_ fun r=>?_
 . unfold frameObject;split
   . trivial
   . exact KD.bind (zHe _) fun _=>trivial
 . split <;> trivial
theorem zLT (f:Addr)(b:Bool):KD (entryPlaceOf f b):=by unfold entryPlaceOf;refine KD.bind (fun l=>trivial) fun l=>?_;split <;> trivial
theorem zLU (a b c d e:Value)(l:List Value):KD (EntryCells.newEntry a b c d e l):=by
 unfold EntryCells.newEntry newFields newObj;have fin:∀d:Data,KD (newObjAsIs (.type "traceback") d):=fun d=>by unfold newObjAsIs;exact KD.bind (fun a=>trivial) fun a=>trivial
 simp only[];exact zDM (KD.bind trivial fun _=>fin _) (fin _)
theorem zJ5 (e:Value)(env:Env):KD (noteFrame e env):=by
 unfold noteFrame;split
 . refine KD.bind (zDt _ _) fun hd=>?_;have fin:∀f:Addr,KD (do setField e 1 (<-EntryCells.newEntry hd (<-PySem.frameOf env) .none (rawInt f) .none (<-entryPlaceOf f (hd != .none)))):=fun f=>
    KD.bind (zIM env) fun a=>KD.bind (zLT _ _) fun pl=>KD.bind (zLU _ _ _ _ _ _) fun b=>zDA _ _ _
   refine zDM ?_ (fin _);refine KD.bind (zDt _ _) fun x=>zDM trivial ?_;exact KD.bind (zDA _ _ _) fun _=>fin _
 . trivial
theorem zEs (env:Env)(e:Value):KD (leaving env e):=KD.bind (zJ5 e env) fun _=>zCv e none
noncomputable def excI (K:PySem.W.Frag)(C:Addr):Bool:=match K.lookup C with
 | some ⟨.type "type",_,.cls u,z⟩=>
  match u.mro,z.toList with
  | .ref D::b,[_,_,_,_,some (.builtin m),_]=>D==C && m == "ValueError.__new__" && !u.hasDel && PySem.W.tailIn K bmV b && PySem.W.nsOkIn K u.ns && u.hasDict
  | _,_=>false
 | _=>false
variable {K:PySem.W.Frag}{h:Heap}{C:Addr}
theorem zCj (X:K.In h)(q:excI K C=true):
 ∃bm N nm qn bs sn sub ab col dd k0 k1 k2 k3 k5 mN,h.get? C=some (excClassObj nm qn C N bs bm true sn sub ab col dd k0 k1 k2 k3 k5 "ValueError.__new__")/\h.Ns N mN/\OwnTail h bmV bm:=by
 unfold excI at q;split at q
 . next dd cd sl look=>
   split at q
   . next D bm k0 k1 k2 k3 n k5 em es=>
     simp only[zAk,beq_iff_eq,Bool.not_eq_true'] at q;obtain⟨⟨⟨⟨⟨q1,q2⟩,q3⟩,q4⟩,q5⟩,q6⟩:=q;subst q1 q2;cases cd;simp only at em q3 q5 q6;subst em q3 q6;cases sl;simp only at es;subst es;exact⟨_,_,_,_,_,_,_,_,_,_,_,_,_,_,_,_,X _ _ look,.of_isNs (PySem.W.isNs_of_in X q5),PySem.W.tail_of_in X q4⟩
   . cases q
 . cases q
structure zGy (K:PySem.W.Frag)(C fI:Addr):Prop where
 cl:excI K C=true
 ini:PySem.W.findIn K (.ref C) "__init__"=some (some (.ref fI))
 fn:PySem.W.isFn K (.ref fI)=true
 sa:PySem.W.findIn K (.ref C) "__setattr__"=some (some (.builtin "object.__setattr__"))
 kp:PySem.W.keepIn K (.ref C)=true
noncomputable def zEx (C t:Addr)(od:Option Addr):Obj:={ cls:=.ref C,dict:=od,data:=.fields #[.ref t,.none,.none,.none,.bool false,.none] }
noncomputable def xTup (us:List Value):Obj:={ cls:=.type "tuple",data:=.seq us.toArray }
variable {Q:PySem.Fin->Shared->Prop}
section
variable {prog:Program}{w:World}{A:Around}{E:vSP}{h:Heap}{g:Array GenState}{d:Drawn}{t:Nat}{os:OsState}{K:PySem.W.Frag}{C fI:Addr}{us:List Value}
noncomputable def zLZ (h:Heap)(C:Addr)(us:List Value):Heap:=(h.push (xTup us)).push (zEx C h.objs.size none)
theorem zGF (h:Heap)(C:Addr)(us:List Value):∀b o,h.get? b=some o->(zLZ h C us).get? b=some o:=fun _ _ e=>zN _ (zN _ e)
theorem zMg (h:Heap)(C:Addr)(us:List Value):(zLZ h C us).get? (h.objs.size+1)=some (zEx C h.objs.size none):=Heap.get?_push_at (by rw[zAU]) rfl
theorem zJx (X:K.In h)(I:zGy K C fI)(hz:us.length<=sizeLine)
 (hq:wpAny (model prog w) A (call (.ref fI) (.ref (h.objs.size+1)::us)) (fun r s'=>r=.none/\Q (.done (.ret (.ref (h.objs.size+1)))) s') E ⟨zLZ h C us,g,d,t,os⟩):
 wpAny (model prog w) A (Builtin.«type.__call__» ⟨.ref C::us,[]⟩) Q E ⟨h,g,d,t,os⟩:=by
 obtain⟨bm,N,nm,qn,bs,sn,sub,ab,col,dd,k0,k1,k2,k3,k5,mN,hC,hN,T⟩:=zCj X I.cl;have F:=PySem.F.excBase_ValueError
 repeat (first | with_reducible refine zBC hC ?_ | with_reducible refine wpAny_madeBy_exc hC ?_ | wp_step)
 refine codeAny_call_builtin_code (Code.quiet_builtin _ F.quiet) (wpAny_check_new_subT F T hC (codeAny_exc_new_subT F T hC ?_ hz));show wpAny _ _ _ _ _ ⟨zLZ h C us,g,d,t,os⟩;have hC1:=zGF h C us _ _ hC;have he1:(zLZ h C us).get? (h.objs.size+1)=some { cls:=.ref C,data:=.fields #[.ref h.objs.size,.none,.none,.none,.bool false,.none] }:=zMg h C us;have X1:K.In (zLZ h C us):=X.keeps (zGF h C us);have own:(Value.ref C::bm).contains (.ref C)=true:=by simp
 unfold isInstance
 repeat (first | with_reducible refine zBC he1 ?_ | (with_reducible refine wpAny_isSubtype_exc hC1 ?_;rw[own]) | wp_step)
 have L:=PySem.W.looks_findIn (M:=model prog w) X1 I.ini;refine L.at ?_;refine zAW (zC ?_);refine (PySem.W.bind_fn (M:=model prog w) X1 (.ref (h.objs.size+1)) (beq_iff_eq.mp I.fn)).at ?_;refine zC (zAO hq (fun r s' hr=>?_) fun _ _ z=>z);obtain⟨rfl,hQ⟩:=hr
 wp_walk
 exact hQ
theorem zKf {Q:vSP}(X:K.In h)(I:zGy K C fI)(hz:us.length<=sizeLine)
 (hq:wpAny (model prog w) (A.under (.builtin "type.__call__" ⟨.ref C::us,[]⟩)) (call (.ref fI) (.ref (h.objs.size+1)::us)) (fun r s'=>r=.none/\Q (.ref (h.objs.size+1)) s') E ⟨zLZ h C us,g,d,t,os⟩):
 wpAny (model prog w) A (call (.ref C) us) Q E ⟨h,g,d,t,os⟩:=by
 obtain⟨bm,N,nm,qn,bs,sn,sub,ab,col,dd,k0,k1,k2,k3,k5,mN,hC,hN,T⟩:=zCj X I.cl;have f1:=tc_lookup;have f2:=tc_bind (.ref C);have hT:(⟨h,g,d,t,os⟩:Shared).TypeIs (.ref C) "type" := ⟨_,hC,rfl⟩;refine wpAny_call (codeAny_of_tree ?_);show wpAny _ _ (callAny (.ref C) _) _ _ _
 repeat (any_goals (first | assumption | with_reducible refine zBC hC ?_ | wp_step))
 refine⟨rfl,?_⟩;exact codeAny_call_builtin_at (Code.quiet_builtin _ (by decide +kernel)) entry_typeCall (wpAny_check_type_call_sub hC (zJx X I hz hq))
end
theorem zD2 {bm:List Value}(T:OwnTail h bmV bm)(self:Value):refuseLoop self "__setattr__" bm=pure ():=by
 induction T with
 | base=>exact PySem.F.store_ValueError.passes self
 | own _ _ _ _ ih=>rw[refuseLoop_ref];exact ih
variable {tk:Tok}{dx:Addr}
section
variable {prog:Program}{w:World}{A:Around}{E:vSP}{h:Heap}{g:Array GenState}{d:Drawn}{t:Nat}{os:OsState}{K:PySem.W.Frag}{C fI x tt:Addr}{name:Str}{v:Value}
theorem zJH {od:Option Addr}{nameV:Value}{Q:Unit->Shared->Prop}(X:K.In h)(mo:PySem.W.mroIn K C (.type "object")=some true) (hx:h.get? x=some (zEx C tt od))(hq:Q () ⟨h,g,d,t,os⟩):
 wpAny M A (checkBuiltinCall "object.__setattr__" ⟨[.ref x,nameV,v],[]⟩) Q E ⟨h,g,d,t,os⟩:=by
 have L0:=(show zLp h x C from ⟨_,hx,rfl⟩).type (M:=M);have L1:=PySem.W.looks_mroIn (M:=M) X mo;have ha:=PySem.F.store_ValueError.args (.ref x) nameV v;have e1:=PySem.F.store_ValueError.kind;have e2:=PySem.F.store_ValueError.split;simp only[checkBuiltinCall,e1,e2];refine zC ?_;unfold isInstance
 repeat (any_goals (first | assumption | with_reducible refine L0.at ?_ | with_reducible refine L1.at ?_ | wp_step))
theorem zMT {mA:sOV}{ns:List Str}(hns:h.Ns1 dx mA)(hw:PySem.Within mA ns)(hz:ns.length<1000)
 (hq:∀h' tk',h'.Ns1 dx (fun y=>if y=name then some v else mA y)->(∀b,b≠dx->h'.get? b=h.get? b)->Q (.done (.ret .none)) ⟨h',g,d,tk',os⟩):
 wpAny M A (Builtin.ObjectAttr.storeInDict dx (.str name tk) name v) Q E ⟨h,g,d,t,os⟩:=by
 unfold Builtin.ObjectAttr.storeInDict Builtin.ObjectAttr.newKeyGuard;refine zC (zG (zC (wpAny_nsSet1 hns fun h' hn' hs=>?_)));obtain⟨oD,esD,epD,hoD,hdD,hcD⟩:=hn'.count (Within.cons name v hw);refine zC (wpAny_lookBehind hoD (by rw[hdD];exact pastItsLine_dict (zAM hcD (by rw[zt,sizeLine_eq];omega))) ?_)
 wp_walk
 exact hq h' _ hn' fun b hb=>hs.2 b hb
theorem zH5 (X:K.In h)(I:zGy K C fI)(nm:PySem.W.findIn K (.ref C) name=some none)(hx:h.get? x=some (zEx C tt none))
 (hq:∀h' tk',h'.get? x=some (zEx C tt (some h.objs.size))->h'.Ns1 h.objs.size (fun y=>if y=name then some v else none)->(∀b o,b≠x->h.get? b=some o->h'.get? b=some o)->Q (.done (.ret .none)) ⟨h',g,d,tk',os⟩):
 wpAny (model prog w) A (Builtin.«object.__setattr__» ⟨[.ref x,.str name tk,v],[]⟩) Q E ⟨h,g,d,t,os⟩:=by
 obtain⟨bm,N,nmm,qn,bs,sn,sub,ab,col,dd,k0,k1,k2,k3,k5,mN,hC,hN,T⟩:=zCj X I.cl;have pass:=zD2 T (.ref x);obtain⟨o,ho⟩:∃o,o=zEx C tt none:=⟨_,rfl⟩;rw[<-ho] at hx;have hc:o.cls=.ref C:=by rw[ho];rfl
 have hdn:o.dict=none:=by rw[ho];rfl
 have L:=PySem.W.looks_findIn (M:=model prog w) X nm;unfold Builtin.«object.__setattr__»
 repeat (first | rw[refuse_eq] | (rw[refuseLoop_ref,pass]) | (with_reducible refine zBC hx ?_;rw[hc]) | with_reducible refine wpAny_mroOf_exc hC ?_ | with_reducible refine L.at ?_ | wp_step)
 have hdt:o.data=.fields #[.ref tt,.none,.none,.none,.bool false,.none]:=by rw[ho];rfl
 have hx1:=zN { cls:=.type "dict",data:=.dict #[] } hx;have xs:x≠h.objs.size:=zb (zW hx);rw[hdn,hdt];refine zC (wpAny_alloc' (zC (wpAny_update' hx1 (zG ?_))));have fr:(zEx C tt (some h.objs.size)).isFreed=false:=rfl;have up:((h.push { cls:=.type "dict",data:=.dict #[] }).update x fun o=>{ cls:=o.cls,dict:=some h.objs.size,data:=o.data,slots:=o.slots }).get? x=some (zEx C tt (some h.objs.size)):=by have:=zBJ (fun o:Obj=>{ cls:=o.cls,dict:=some h.objs.size,data:=o.data,slots:=o.slots }) hx1 (by rw[ho];rfl);rw[this,ho];rfl
 have nd:((h.push { cls:=.type "dict",data:=.dict #[] }).update x fun o=>{ cls:=o.cls,dict:=some h.objs.size,data:=o.data,slots:=o.slots }).get? h.objs.size=some { cls:=.type "dict",data:=.dict #[] }:=
  (Heap.get?_update_other _ _ xs).trans (Heap.get?_push_at rfl rfl)
 refine zMT (Heap.Ns1.of_empty ⟨_,#[],_,nd,rfl,fun e he=>absurd he (by simp),fun _=>rfl⟩) Within.nil (by decide) fun h' tk' n' same=>?_;refine hq h' tk' ((same x xs).trans up) n' fun b ob hb e=>?_;rw[same b (zb (zW e)),Heap.get?_update_other _ _ (Ne.symm hb)];exact zN _ e
theorem zH4 {mA:sOV}{ns:List Str}(X:K.In h)(I:zGy K C fI)(nm:PySem.W.findIn K (.ref C) name=some none)(hx:h.get? x=some (zEx C tt (some dx)))
 (hns:h.Ns1 dx mA)(hw:PySem.Within mA ns)(hz:ns.length<1000)
 (hq:∀h' tk',h'.Ns1 dx (fun y=>if y=name then some v else mA y)->(∀b,b≠dx->h'.get? b=h.get? b)->Q (.done (.ret .none)) ⟨h',g,d,tk',os⟩):
 wpAny (model prog w) A (Builtin.«object.__setattr__» ⟨[.ref x,.str name tk,v],[]⟩) Q E ⟨h,g,d,t,os⟩:=by
 obtain⟨bm,N,nmm,qn,bs,sn,sub,ab,col,dd,k0,k1,k2,k3,k5,mN,hC,hN,T⟩:=zCj X I.cl;have pass:=zD2 T (.ref x);obtain⟨o,ho⟩:∃o,o=zEx C tt (some dx):=⟨_,rfl⟩;rw[<-ho] at hx;have hc:o.cls=.ref C:=by rw[ho];rfl
 have hdn:o.dict=some dx:=by rw[ho];rfl
 have L:=PySem.W.looks_findIn (M:=model prog w) X nm;unfold Builtin.«object.__setattr__»
 repeat (first | rw[refuse_eq] | (rw[refuseLoop_ref,pass]) | (with_reducible refine zBC hx ?_;rw[hc]) | with_reducible refine wpAny_mroOf_exc hC ?_ | with_reducible refine L.at ?_ | wp_step)
 rw[hdn];exact zG (zMT hns hw hz hq)
theorem zHN {od:Option Addr}{Pr:Heap->Prop}{Q:Unit->Shared->Prop}(X:K.In h)(I:zGy K C fI)(mo:PySem.W.mroIn K C (.type "object")=some true) (hx:h.get? x=some (zEx C tt od))
 (ent:∀(A':Around)(E':vSP)(tk:Tok)(t':Nat)(Q':PySem.Fin->Shared->Prop),(∀h' tk',Pr h'->Q' (.done (.ret .none)) ⟨h',g,d,tk',os⟩)->wpAny (model prog w) A' (Builtin.«object.__setattr__» ⟨[.ref x,.str name tk,v],[]⟩) Q' E' ⟨h,g,d,t',os⟩)
 (hq:∀h' tk',Pr h'->Q () ⟨h',g,d,tk',os⟩):wpAny (model prog w) A (setAttr (.ref x) name v) Q E ⟨h,g,d,t,os⟩:=by
 have SF:=PySem.F.store_ValueError;have f3:=SF.slot.bind (.ref x);have L0:=(show zLp h x C from ⟨_,hx,rfl⟩).type (M:=model prog w);have L1:=PySem.W.looks_findIn (M:=model prog w) X I.sa;unfold setAttr callSpecial? specialOf
 repeat (any_goals (first | assumption | with_reducible refine L0.at ?_ | with_reducible refine L1.at ?_ | wp_step))
 refine codeAny_call_builtin SF.slot.plain SF.entry (zJH X mo hx (ent _ _ _ _ _ fun h' tk' p=>?_))
 repeat (any_goals (first | assumption | wp_step))
 exact hq h' tk' p
end
noncomputable def xO (e C t:Addr)(od:Option Addr):HO:=.ext fun h=>h.get? e=some (zEx C t od)
noncomputable def dO (dx:Addr)(fs:List (Str×V)):HO:=.ext fun h=>∃mA,h.Ns1 dx mA/\(∀f,zGv (fs.lookup f) (mA f))/\PySem.Within mA (fs.map (·.1))
section
variable {P:Program}{w:World}{H:Hp}{h:Heap}{e C t dx:Addr}{od:Option Addr}{fs:List (Str×V)}
theorem xO_ok (hx:h.get? e=some (zEx C t od)):zBc P w H h e (xO e C t od):=⟨hx,⟨_,hx⟩,fun _ _ p k=>k _ p⟩
theorem dO_ok {mA:sOV}(hn:h.Ns1 dx mA)(r:∀f,zGv (fs.lookup f) (mA f))(wi:PySem.Within mA (fs.map (·.1))):zBc P w H h dx (dO dx fs):=
 ⟨⟨mA,hn,r,wi⟩,let ⟨o,_,_,q,_⟩:=hn;⟨o,q⟩,fun _ _ ⟨m,⟨o,es,ep,q,z⟩,r,wi⟩ k=>⟨m,⟨o,es,ep,k _ q,z⟩,r,wi⟩⟩
theorem HOk.add {a:Addr}{o:HO}(x:HOk P w H h)(hn:H a=none)(new:zBc P w (upd H a o) h a o):HOk P w (upd H a o) h:=fun b u e=>by
 by_cases hb:b=a
 . subst hb;rw[zI] at e;cases e;exact new
 . rw[za hb] at e;exact (x b u e).stay (fun c v _ q=>q) (fun c q=>by rw[za (zl q hn)];exact q) fun c xs q=>by rw[za (zl q hn)];exact q
theorem zKx {a b:Addr}{o u:HO}(n:a≠b):upd (upd H a o) b u=upd (upd H b u) a o:=by
 funext c;by_cases h1:c=a
 . subst h1;rw[zI,za n,zI]
 . by_cases h2:c=b
   . subst h2;rw[zI,za h1,zI]
   . rw[za h2,za h1,za h1,za h2]
end
section
variable {X:Cx}{pins:lPO}{σ:St}{H:Hp}{s:Shared}{A:Around}{E:vSP}{e C t fI:Addr}{f:Str}{y:V}{u:Value}{Q:Unit->Shared->Prop}
theorem zK2 (I:Inv X pins σ H s)(EI:zGy X.K C fI)(mo:PySem.W.mroIn X.K C (.type "object")=some true) (nm:PySem.W.findIn X.K (.ref C) f=some none)(he:H e=some (xO e C t none))(ry:zBm y u)
 (h:∀dx s',H dx=none->Inv X pins σ (upd (upd H dx (dO dx [(f,y)])) e (xO e C t (some dx))) s'->Q () s'):wpAny (model X.prog X.w) A (setAttr (.ref e) f u) Q E s:=by
 obtain⟨hp,g,d,tk,os⟩:=s;have hx:hp.get? e=some (zEx C t none):=(I.hok e _ he).1;refine zHN (Pr:=fun h'=>h'.get? e=some (zEx C t (some hp.objs.size))/\h'.Ns1 hp.objs.size (fun y=>if y=f then some u else none)/\(∀b o,b≠e->hp.get? b=some o->h'.get? b=some o)) I.kIn EI mo hx
  (fun A' E' tk' t' Q' k=>zH5 I.kIn EI nm hx fun h' tk2 a b c=>k h' tk2 ⟨a,b,c⟩) fun h' tk' ⟨a,b,c⟩=>?_
 have hn:H hp.objs.size=none:=I.hok.fresh (zK _);have ne:e≠hp.objs.size:=zb (zW hx);refine h hp.objs.size _ hn ?_;have mu:Mut ((upd H hp.objs.size (dO hp.objs.size [(f,y)])) e):=by rw[za ne,he];exact True.intro
 have mu':Mut (H e):=by rw[he];exact True.intro
 refine I.un (h':=h') (t':=tk') ((Un.laid (h':=hp) (fun _ _ q=>q) (zK _) hn).trans (Un.write mu (.inl rfl) c ⟨_,a⟩)) ?_;rw[zKx (Ne.symm ne)];refine HOk.add (I.hok.write mu' (.inl rfl) c ⟨_,a⟩ (xO_ok a)) (by rw[za (Ne.symm ne)];exact hn) (dO_ok b (fun g=>?_) (fun g hg=>?_))
 . show zGv (List.lookup g [(f,y)]) (if g=f then some u else none)
   by_cases q:g=f
   . subst q;rw[if_pos rfl,List.lookup_cons_self];exact ry
   . rw[if_neg q,zA1,show (g==f)=false from by simpa using q];trivial
 . by_cases q:g=f
   . subst q;exact zZ
   . exact absurd (by show (if g=f then some u else none)=none;rw[if_neg q]) hg
theorem zK1 {fs:List (Str×V)}(I:Inv X pins σ H s)(EI:zGy X.K C fI)(mo:PySem.W.mroIn X.K C (.type "object")=some true) (nm:PySem.W.findIn X.K (.ref C) f=some none)(he:H e=some (xO e C t (some dx)))(hd:H dx=some (dO dx fs))(hl:fs.length<900)(ry:zBm y u)
 (h:∀s',Inv X pins σ (upd H dx (dO dx (zIX f y fs))) s'->Q () s'):wpAny (model X.prog X.w) A (setAttr (.ref e) f u) Q E s:=by
 obtain⟨hp,g,d,tk,os⟩:=s;have hx:hp.get? e=some (zEx C t (some dx)):=(I.hok e _ he).1;obtain⟨mA,hns,r,wi⟩:=(I.hok dx _ hd).1;refine zHN (Pr:=fun h'=>h'.Ns1 dx (fun y=>if y=f then some u else mA y)/\(∀b,b≠dx->h'.get? b=hp.get? b)) I.kIn EI mo hx
  (fun A' E' tk' t' Q' k=>zH4 I.kIn EI nm hx hns wi (by rw[zB];omega) fun h' tk2 a b=>k h' tk2 ⟨a,b⟩) fun h' tk' ⟨a,b⟩=>?_
 refine h _ ?_;have mu:Mut (H dx):=by rw[hd];exact True.intro
 refine I.write (x:=dx) (e:=dx) (t':=tk') mu (.inl rfl) (fun b_ u' hb q=>(b b_ hb).trans q) (let ⟨o,_,_,q,_⟩:=a;⟨o,q⟩) (dO_ok a (fun g=>?_) (fun g hg=>?_))
 . show zGv ((zIX f y fs).lookup g) (if g=f then some u else mA g)
   rw[zED];by_cases q:g=f
   . rw[if_pos q,if_pos q];exact ry
   . rw[if_neg q,if_neg q];exact r g
 . by_cases q:g=f
   . rw[q];exact (zEI f y fs).1
   . refine (zEI f y fs).2 g (wi g fun z=>hg ?_);show (if g=f then some u else mA g)=none
     rw[if_neg q];exact z
end
inductive zJR (C:Addr)(f:Str)(D:zGZ)(σ:St)(y:V)(x:V)(H2:Hp):Prop
 | mk:∀e t,(x=.ref e)->(((H2 e=some (xO e C t none)/\∀dx,H2 dx=none->D.nx σ (upd (upd H2 dx (dO dx [(f,y)])) e (xO e C t (some dx))))\/∃dx fs,H2 e=some (xO e C t (some dx))/\H2 dx=some (dO dx fs)/\fs.length<900/\D.nx σ (upd H2 dx (dO dx (zIX f y fs)))))->zJR C f D σ y x H2
noncomputable def sFldX (C:Addr)(f:Str)(ta tv:TE):TS:=fun D σ H=>tv σ H fun y H1=>ta σ H1 fun x H2=>zJR C f D σ y x H2
section
variable {X:Cx}{o value:Expr}{ta tv:TE}{f:Str}{C fI:Addr}{pos pos':Pos}
theorem zJg (EI:zGy X.K C fI)(mo:PySem.W.mroIn X.K C (.type "object")=some true) (nm:PySem.W.findIn X.K (.ref C) f=some none)(ha:PE X o ta)(hv:PE X value tv)(hs:swapsWith value (some (.Attribute o f pos')) pos.line X.env=pure false:=by rfl):
 PS X (.Assign [.Attribute o f pos'] value pos) (sFldX C f ta tv):=by
 intro pins s σ H D I h;refine plainObj_wpAny_Assign_Attribute (thn (hv pins s σ H _ I h) fun u s1 ⟨y,H1,I1,ry,q⟩=>thn (ha pins s1 σ H1 _ I1 q) fun ov s2 ⟨x,H2,I2,rx,e,t,ex,q2⟩=>?_) hs;subst ex;obtain rfl:ov=Value.ref e:=rx;rcases q2 with ⟨he,q⟩ | ⟨dx,fs,he,hd,hl,q⟩
 . exact zK2 I2 EI mo nm he ry fun dx s3 n I3=>⟨σ,_,I3,q dx n⟩
 . exact zK1 I2 EI mo nm he hd hl ry fun s3 I3=>⟨σ,_,I3,q⟩
end
inductive zL1 (C:Addr)(f1:Str)(f2:Str)(vs:List V)(H:Hp)(Q:VK):Prop
 | mk:∀(e t:Addr)(v1 v2:V),(vs=[.ref e,v1,v2])->(H e=some (xO e C t none))->(∀dx,H dx=none->dx≠e->Q .non (upd (upd H dx (dO dx [(f1,v1),(f2,v2)])) e (xO e C t (some dx))))->zL1 C f1 f2 vs H Q
noncomputable def spXI (C:Addr)(f1 f2:Str):Sp:=fun vs H Q _=>zL1 C f1 f2 vs H Q
noncomputable def FlyD (B:Heap)(l:List Env)(e:Addr)(C a0:Value)(od:Option Addr)(h:Heap):Prop:=Heap.FlyingW B l e C a0 h/\∃o,h.get? e=some o/\o.dict=od
variable {e:Addr}
theorem FlyD.step {B h':Heap}{l l':List Env}{C a0:Value}{od:Option Addr}(x:FlyD B l e C a0 od h)(f:Heap.FlyingW B l' e C a0 h')(k:DK h h'):FlyD B l' e C a0 od h':=by obtain⟨_,o,q,r⟩:=x;obtain⟨o',q',r'⟩:=k e o q;exact⟨f,o',q',r'.trans r⟩
noncomputable def CXI (P:Program)(w:World):CXT:=fun outer H s E e s'=>
 ∃(ea t:Addr)(C:Value)(od:Option Addr)(H':Hp)(B:Heap),e=.ref ea/\s'.os=s.os/\AllBare s'.gens/\Un (frs outer) [] H H' s.heap s'.heap/\HOk P w H' s'.heap /\
  FlyD B outer ea C (.ref t) od s'.heap/\(∀b u,H' b=some u->∃o,B.get? b=some o)/\(∀b o,s.heap.get? b=some o->H b=none->b∉frs outer->B.get? b=some o)/\(∀b o,s.heap.get? b=some o->b∉frs outer->∃o',B.get? b=some o')/\E C od H'
section
variable {P:Program}{w:World}{K:PySem.W.Frag}{mg:sOV}{base:Heap}{N:List Str}{qual:Str}{scope:Scope}{f:Addr}{cd:Value}{A:Around}{outer:List Env}{s0 s:Shared}{H0 H:Hp}{E:XK}{pins:lPO}{σ:St}
theorem zJY {ea t:Addr}{oe:Obj}{C:Value}{vs:Array Value}(I:Inv (zIQ (CXI P w) P w K mg base N qual scope f cd A outer s0 H0 E) pins σ H s)(he:s.heap.get? ea=some oe)(hc:oe.cls=C)(hd:oe.data=.fields vs)(h1:vs[1]?=some .none)(h0:vs[0]?=some (.ref t))(hn:H ea=none)(h00:s0.heap.get? ea=none)(hE:E C oe.dict H):
 (zIQ (CXI P w) P w K mg base N qual scope f cd A outer s0 H0 E).xe (.ref ea) s:=by
 subst hc;let fr:List Addr:=(envOfC qual scope s0.heap.objs.size f cd::outer).filterMap (·.frame);have hin:∀env∈(envOfC qual scope s0.heap.objs.size f cd::outer),∀a,env.frame=some a->a∈ea::fr:=fun env he b hb=>zg _ (zBM.mpr ⟨env,he,hb⟩);have ff:=PySem.W.funFrames_hide I.stack hin;have off:ea∉fr:=fun z=>by obtain⟨_,o,ho,nd⟩:=I.stack.mem z;rw[he] at ho;cases ho;exact nd vs hd
 refine zAO (zDF (zEs _ _) (wpAny_leaving_firstW (Q:=fun _ s'=>∃h',s'={ s with heap:=h' }/\Heap.LeftW (PySem.W.hideAll s.heap (ea::fr)) (envOfC qual scope s0.heap.objs.size f cd::outer) ea oe.cls (.ref t) s.heap h') (base:=PySem.W.hideAll s.heap (ea::fr)) I.ok.frames ff rfl he (fun b o q=>PySem.W.of_hideAll _ q) (PySem.W.hideAll_none _ zZ) hd h1 h0 fun h' L=>⟨h',rfl,L⟩)) (fun _ s' hq=>?_) fun _ _ z=>z;obtain⟨⟨h'',rfl,L1,⟨_,_,L2'⟩,L3,up⟩,dk⟩:=hq;have st:(PySem.W.hideAll s.heap (ea::fr)).StaysIn h'':=L1;have stk:∀b,b∈fr->b=s0.heap.objs.size\/b∈frs outer:=fun b z=>ze.mp (I.stkSub b z);have hid:∀b o,s.heap.get? b=some o->b≠ea->b∉fr->(PySem.W.hideAll s.heap (ea::fr)).get? b=some o:=fun b o q n z=>PySem.W.hideAll_get _ q fun y=>by
  rcases ze.mp y with y | y
  . exact n y
  . exact z y
 have nea:∀b o,s0.heap.get? b=some o->b≠ea:=fun b o q z=>by rw[z,h00] at q;cases q
 have nfr:∀b o,s0.heap.get? b=some o->b∉frs outer->b∉fr:=fun b o q hb z=>by
  rcases stk b z with y | y
  . exact absurd (zW q) (by rw[y];exact Nat.not_lt_of_le (zK _))
  . exact hb y
 have old:∀b o,s0.heap.get? b=some o->H0 b=none->b∉frs outer->(PySem.W.hideAll s.heap (ea::fr)).get? b=some o:=fun b o e n hb=>
  hid b o (I.base.keep b o e n hb (by intro z;cases z)) (nea b o e) (nfr b o e hb)
 have al:∀b o,s0.heap.get? b=some o->b∉frs outer->∃o',(PySem.W.hideAll s.heap (ea::fr)).get? b=some o':=fun b o e hb=>by obtain⟨o1,e1⟩:=I.base.there b o e (by intro z;cases z);exact⟨o1,hid b o1 e1 (nea b o e) (nfr b o e hb)⟩
 have tr:∀b u,H b=some u->∃o,(PySem.W.hideAll s.heap (ea::fr)).get? b=some o:=fun b u e=>by obtain⟨o,ho⟩:=(I.hok b u e).there;refine⟨o,hid b o ho (fun z=>by rw[z,hn] at e;cases e) fun z=>?_⟩;have:=I.stkFree b z;rw[e] at this;cases this
 obtain⟨o',q',r'⟩:=dk ea oe he;refine⟨ea,t,oe.cls,oe.dict,H,_,rfl,I.os,I.bare,⟨fun b o e n hb hx'=>st b o (old b o e n hb),fun b o e n hb hx'=>?_,I.base.free,fun b o e hx'=>?_,I.base.tups,I.base.frzs,I.base.tbls⟩,I.hok.stays (fun b o q=>PySem.W.of_hideAll _ q) st tr,⟨⟨L1,PySem.W.hideAll_none _ zZ,L2',L3⟩,o',q',r'⟩,tr,old,al,hE⟩
 . obtain⟨sl,e1⟩:=I.base.slot b o e n hb (by intro z;cases z);obtain⟨_,o2,e2,nd⟩:=I.stack.mem (show b∈fr from zg _ hb);have e3:o2={ o with slots:=sl }:=zT (e2.symm.trans e1);obtain⟨sl2,e4⟩:=up b _ e1 (fun vs=>by rw[<-e3];exact nd vs);exact⟨sl2,e4⟩
 . obtain⟨o1,e1⟩:=I.base.there b o e (by intro z;cases z);by_cases hb:b∈fr
   . obtain⟨_,o2,e2,nd⟩:=I.stack.mem hb;obtain⟨sl2,e4⟩:=up b _ e2 nd;exact⟨_,e4⟩
   . exact⟨_,st b _ (hid b o1 e1 (nea b o e) hb)⟩
end
section
variable {P:Program}{w:World}{K:PySem.W.Frag}{mg:sOV}{base:Heap}{N:List Str}{qual:Str}{scope:Scope}{f:Addr}{cd:Value}{A:Around}{outer:List Env}{s0 s:Shared}{H0 H:Hp}{E:XK}{pins:lPO}{σ:St}
theorem zNU {E1:XK}{e:Value}{s':Shared}(I:Inv (zIQ (CXI P w) P w K mg base N qual scope f cd A outer s0 H0 E) pins σ H s)(h:CXI P w (envOfC qual scope s0.heap.objs.size f cd::outer) H s E1 e s')
 (imp:∀C d H',E1 C d H'->E C d H'):(zIQ (CXI P w) P w K mg base N qual scope f cd A outer s0 H0 E).xe e s':=by
 obtain⟨ea,t,C,od,H',B,rfl,os,bare,un,hok,fl,tr,old,al,hE⟩:=h;refine zAO (zDF (zEs _ _) (wpAny_leaves_onW (Q:=fun _ s2=>∃h',s2={ s' with heap:=h' }/\Heap.FlyingW B outer ea C (.ref t) h'/\s'.heap.UpToSlots h') I.ok.frames rfl fl.1 fun h' f2 u=>⟨h',rfl,f2,u⟩)) (fun _ s2 hq=>?_) fun _ _ z=>z;obtain⟨⟨h'',rfl,fl2,up⟩,dk⟩:=hq;have st:B.StaysIn h'':=fl2.1;have nl:∀b o,s0.heap.get? b=some o->H0 b=none->b∉frs outer->B.get? b=some o:=fun b o e n hb=>by
  refine old b o (I.base.keep b o e n hb (by intro z;cases z)) (I.base.free b o e n (by intro z;cases z)) fun z=>?_;rcases ze.mp (I.stkSub b z) with q | q
  . exact absurd (zW e) (by rw[q];exact Nat.not_lt_of_le (zK _))
  . exact hb q
 have na:∀b o,s0.heap.get? b=some o->b∉frs outer->∃o',B.get? b=some o':=fun b o e hb=>by
  obtain⟨o1,e1⟩:=I.base.there b o e (by intro z;cases z);refine al b o1 e1 fun z=>?_;rcases ze.mp (I.stkSub b z) with q | q
  . exact absurd (zW e) (by rw[q];exact Nat.not_lt_of_le (zK _))
  . exact hb q
 refine⟨ea,t,C,od,H',B,rfl,os.trans I.os,bare,⟨fun b o e n hb _=>st b o (nl b o e n hb),fun b o e n hb _=>?_,fun b o e n _=>?_,fun b o e _=>?_,fun b xs e=>un.tups _ _ (I.base.tups _ _ e),fun b o u e=>un.frzs _ _ _ (I.base.frzs _ _ _ e),fun b ps e=>?_⟩,hok.stays fl.1.1 st tr,fl.step fl2 dk,tr,nl,na,imp _ _ _ hE⟩
 . obtain⟨sl,e1⟩:=I.base.slot b o e n hb (by intro z;cases z);have n1:=I.base.free b o e n (by intro z;cases z);obtain⟨sl2,e2⟩:=un.slot b _ e1 n1 (zg _ hb) (by intro z;cases z);obtain⟨_,o3,e3,nd⟩:=fl.1.2.2.1.mem (show b∈(envOfC qual scope s0.heap.objs.size f cd::outer).filterMap (·.frame) from zg _ hb);obtain⟨sl4,e4⟩:=up b _ e3 nd;have e5:=zT (e3.symm.trans e2);rw[e5] at e4;exact⟨sl4,e4⟩
 . exact un.free b _ (I.base.there b o e (by intro z;cases z)).choose_spec (I.base.free b o e n (by intro z;cases z)) (by intro z;cases z)
 . obtain⟨o1,e1⟩:=I.base.there b o e (by intro z;cases z);by_cases hb:b∈(envOfC qual scope s0.heap.objs.size f cd::outer).filterMap (·.frame)
   . obtain⟨_,o3,e3,nd⟩:=fl.1.2.2.1.mem hb;obtain⟨sl4,e4⟩:=up b _ e3 nd;exact⟨_,e4⟩
   . obtain⟨o3,e3⟩:=al b o1 e1 hb;exact⟨_,st b o3 e3⟩
 . obtain⟨m1,e1⟩:=I.base.tbls _ _ e;obtain⟨m2,e2⟩:=un.tbls _ _ e1;exact⟨m1++m2,by rw[e2,Array.append_assoc]⟩
end
theorem zLG {P:Program}{w:World}{mg:sOV}{base:Heap}{N:List Str}{qual:Str}{scope:Scope}{f:Addr}{cd:Value}{outer:List Env}{s0:Shared}{H0:Hp}{E:XK}:zHq (CXI P w) (zIQ (CXI P w) P w K mg base N qual scope f cd A outer s0 H0 E) E:=fun _ _ _ _ _ _ I h=>zNU I h fun _ _ _ z=>z
variable {x:Str}
theorem Fun.okI {P:Program}{w:World}{mg:sOV}{base:Heap}{qual:Str}{st:Stmt}{f:Addr}{fd:FuncData}{N ps:List Str}{k:Nat}{sp:Sp}(F:Fun K x qual st f fd)(S:zAE N ps (defScope st))(len:∀vs H Q E,sp vs H Q E->vs.length=ps.length)
 (hbody:∀(cdv:Value)(A:Around)(outer:List Env)(s:Shared)(H:Hp)(vs:List V)(Q:VK)(E:XK),zDE k (A.deeper (envOfC qual (defScope st) s.heap.objs.size f cdv))->sp vs H Q E ->
  ∃t,PSs (zIQ (CXI P w) P w K mg base N qual (defScope st) f cdv A outer s H E) (defBody st) t/\t { nx:=fun _ H'=>Q .non H',rt:=Q } (start N vs) H):zAb P w K mg base (CXI P w) (k+1) f fd ps sp:=by
 obtain⟨oc,od,kV,doc,pm,an,cdv,ct,osl,rfl,lk,hcd⟩:=F.ex;exact fn_of lk hcd S len fun A outer s H vs Q E hr hsp=>hbody cdv A outer s H vs Q E hr hsp
noncomputable def zNw (e:Addr)(H:Hp):Hp:=fun b=>if b=e then none else H b
variable {H:Hp}
theorem zCU {b:Addr}(n:b≠e):zNw e H b=H b:=by unfold zNw;rw[if_neg n]
theorem zDB:zNw e H e=none:=by unfold zNw;rw[if_pos rfl]
section
variable {X:Cx}{pins:lPO}{σ:St}{H:Hp}{s:Shared}{e:Addr}{φ:Heap->Prop}
theorem Inv.drop (I:Inv X pins σ H s)(he:H e=some (.ext φ)):Inv X pins σ (zNw e H) s:=by
 have nt:∀b xs,H b=some (.tup xs)->b≠e:=fun b xs q z=>by rw[z,he] at q;cases q
 have no:∀b y,H b=some (.own y)->b≠e:=fun b y q z=>by rw[z,he] at q;cases q
 refine⟨I.ok,I.os,I.bare,⟨I.base.keep,I.base.slot,fun b o q n hx=>?_,I.base.there,fun b xs q=>by rw[zCU (nt b xs (I.base.tups b xs q))];exact I.base.tups b xs q,fun b o u q=>?_,fun b ps q=>?_⟩,I.loc,I.cell,?_,fun x c q=>?_,fun p hp=>?_,fun b o q=>?_,I.len⟩
 . by_cases z:b=e
   . subst z;exact zDB
   . rw[zCU z];exact I.base.free b o q n hx
 . have r:=I.base.frzs b o u q;rw[zCU (fun z=>by rw[z,he] at r;cases r)];exact r
 . obtain⟨m,r⟩:=I.base.tbls b ps q;exact⟨m,by rw[zCU (fun z=>by rw[z,he] at r;cases r)];exact r⟩
 . by_cases z:X.env.locals=e
   . rw[z];exact zDB
   . rw[zCU z];exact I.free
 . by_cases z:c=e
   . subst z;exact zDB
   . rw[zCU z];exact I.freeC x c q
 . obtain⟨a,b,r⟩:=I.pin p hp;refine⟨a,?_,r⟩;by_cases z:p.1=e
   . rw[z];exact zDB
   . rw[zCU z];exact b
 . have z:b≠e:=fun z=>by rw[z,zDB] at q;cases q
   rw[zCU z] at q;exact (I.hok b o q).stay (fun _ _ _ r=>r) (fun c r=>by rw[zCU (no c _ r)];exact r) fun c xs r=>by rw[zCU (nt c xs r)];exact r
theorem zNK {E:vSP}{env:Env}{tt:Addr}{od:Option Addr}{y:Sem Value}{Q:Flow->Shared->Prop}(q:excI K C=true)(hh:A.handled=none)
 (h:wpAny M A y (fun v s1=>∃e,v=.ref e/\K.In s1.heap/\(∃tt od,s1.heap.get? e=some (zEx C tt od))/\E (.ref e) s1) E s):wpAny M A (raiseStmt env (some y) none) Q E s:=by
 unfold raiseStmt;refine zC (zAO h (fun v s1 hv=>?_) fun _ _ z=>z);obtain⟨e,rfl,X1,⟨tt,od,he⟩,hE⟩:=hv;obtain⟨bm,N,nm,qn,bs,sn,sub,ab,col,dd,k0,k1,k2,k3,k5,mN,hC,hN,T⟩:=zCj X1 q;have hcB:(Value.ref C::bm).contains (.type "BaseException")=true:=by rw[List.contains_cons,T.hasType (X := "BaseException") (b:=true) (by rfl),Bool.or_true]
 obtain⟨hp,g,d,tk,os⟩:=s1;have he':hp.get? e=some { cls:=.ref C,dict:=od,data:=.fields #[.ref tt,.none,.none,.none,.bool false,.none] }:=he
 repeat (first | with_reducible refine zBC he' ?_ | with_reducible refine zBC hC ?_ | (with_reducible refine wpAny_isSubtype_exc hC ?_;rw[hcB]) | wp_step)
 exact wpAny_raiseNew_none hh hE
theorem Inv.madeX {us:List Value}{vs:List V}(I:Inv X pins σ H s)(r:zBS vs us)(hz:vs.length<=sizeLine):
 Inv X pins σ (upd (upd H s.heap.objs.size (.tup vs)) (s.heap.objs.size+1) (xO (s.heap.objs.size+1) C s.heap.objs.size none)) { s with heap:=zLZ s.heap C us }:=by
 have e1:(s.heap.push (xTup us)).get? s.heap.objs.size=some (xTup us):=Heap.get?_push_at rfl rfl;have I1:=I.laid (a:=s.heap.objs.size) (o:=.tup vs) (h':=s.heap.push (xTup us)) (t':=s.toks) (fun b u q=>zN _ q) (zK _) ⟨⟨hz,_,e1,rfl⟩,us,r,⟨_,e1,rfl,_,rfl⟩⟩;exact I1.laid (a:=s.heap.objs.size+1) (t':=s.toks) (h':=zLZ s.heap C us) (fun b u q=>zN _ q) (Nat.le_of_eq (zAU _ _)) (xO_ok (zMg s.heap C us))
inductive zFV (C:Addr)(f1:Str)(f2:Str)(E:XK)(vs:List V)(H1:Hp):Prop
 | mk:∀v1 v2,(vs=[v1,v2])->(∀tt dx,H1 tt=none->H1 dx=none->tt≠dx->E (.ref C) (some dx) (upd (upd H1 tt (.tup [v1,v2])) dx (dO dx [(f1,v1),(f2,v2)])))->zFV C f1 f2 E vs H1
noncomputable def zMy (C:Addr)(f1 f2:Str)(t:TA)(E:XK):TS:=fun _ σ H=>t σ H fun vs H1=>zFV C f1 f2 E vs H1
theorem zFy {f1 f2:Str}{ps:List Str}{fI:Addr}{fd:FuncData}{k:Nat}{e1 e2:Expr}{t:TA}{E:XK}{np cpos pos:Pos}(hg:Gl X x)(hm:X.mg x=some (.ref C))(EI:zGy X.K C fI)(hc:X.calm=true)(F:zAb X.prog X.w X.K X.mg X.base CX0 k fI fd ps (spXI C f1 f2))(hr:zDE (k+1) X.A)(hb:zDp X.K fd ps [])(ha:PA X [e1,e2] t)
 (hxe:∀(pins:lPO)(σ:St)(H:Hp)(s:Shared)(ea tt dx:Addr),Inv X pins σ H s->s.heap.get? ea=some (zEx C tt (some dx))->H ea=none->X.s₀.heap.get? ea=none->E (.ref C) (some dx) H->X.xe (.ref ea) s)
 (hd:(x==("__debug__" : Str))=false:=by decide) (hs:starEach [e1,e2] X.env=(false,eval e1 X.env)::starEach [e2] X.env:=by rfl)(hpl:(backTo cpos (starEach [e2] X.env)).any (·.1)=false:=by rfl):
 PS X (.Raise (some (.Call (.Name x np) [e1,e2] [] cpos)) none pos) (zMy C f1 f2 t E):=by
 intro pins s σ H D I h;rw[arm_exec_Raise];refine zC (wpAny_standAt ?_);show wpAny _ _ (raiseStmt X.env (some (do let v <-eval (.Call (.Name x np) [e1,e2] [] cpos) X.env;standAt pos;pure v)) none) _ _ _
 refine zNK (tt:=0) (od:=none) EI.cl (I.ok.hd hc) (zC (zAO (Q:=fun v s1=>∃e,v=.ref e/\X.K.In s1.heap/\(∃tt od,s1.heap.get? e=some (zEx C tt od))/\X.xe (.ref e) s1) (E:=X.xe) ?main (fun v s3 h3=>zC (wpAny_standAt (zG h3))) fun _ _ z=>z))
 case main=>
  refine zBd (zFB I hg hm ?_ hd);refine PySem.W.callWith_K (h₀:=X.base) I.ok.mod.kin EI.kp (zAO (ha cpos pins s σ H _ I h) (fun us s1 ⟨vs,H1,I1,r,q⟩=>⟨I1.kIn,?_⟩) fun _ _ z=>z) hs hpl;obtain⟨v1,v2,rfl,q⟩:=q;have hz:us.length<=sizeLine:=by rw[<-r.length];show 2<=sizeLine;decide
  have I2:=Inv.madeX (C:=C) I1 r (show 2<=sizeLine by decide);have r2:zBS (V.ref (s1.heap.objs.size+1)::[v1,v2]) (Value.ref (s1.heap.objs.size+1)::us):=.cons rfl r;have n1:H1 s1.heap.objs.size=none:=I1.hok.fresh (zK _);have n2:H1 (s1.heap.objs.size+1)=none:=I1.hok.fresh (zBD _);have s00:X.s₀.heap.get? (s1.heap.objs.size+1)=none:=Heap.get?_none_of_le (zAM I1.sz (zBD _));refine zKf (h:=s1.heap) I1.kIn EI hz ?_;have ne:s1.heap.objs.size≠s1.heap.objs.size+1:=zb (Nat.lt_succ_self _);have hsp:spXI C f1 f2 (V.ref (s1.heap.objs.size+1)::[v1,v2]) (upd (upd H1 s1.heap.objs.size (.tup [v1,v2])) (s1.heap.objs.size+1) (xO (s1.heap.objs.size+1) C s1.heap.objs.size none))
   (fun v H2=>v=.non/\∃dx,H2 (s1.heap.objs.size+1)=some (xO (s1.heap.objs.size+1) C s1.heap.objs.size (some dx))/\E (.ref C) (some dx) (zNw (s1.heap.objs.size+1) H2)) (fun _ _ _=>False):=by
   refine⟨_,_,v1,v2,rfl,zI,fun dx hdx nd=>⟨rfl,dx,zI,?_⟩⟩;rw[za nd] at hdx;have nt:s1.heap.objs.size≠dx:=fun z=>by rw[<-z,zI] at hdx;cases hdx
   have hdx1:H1 dx=none:=by rw[za (Ne.symm nt)] at hdx;exact hdx
   have eq:zNw (s1.heap.objs.size+1) (upd (upd (upd (upd H1 s1.heap.objs.size (.tup [v1,v2])) (s1.heap.objs.size+1) (xO (s1.heap.objs.size+1) C s1.heap.objs.size none)) dx (dO dx [(f1,v1),(f2,v2)])) (s1.heap.objs.size+1) (xO (s1.heap.objs.size+1) C s1.heap.objs.size (some dx)))
   =upd (upd H1 s1.heap.objs.size (.tup [v1,v2])) dx (dO dx [(f1,v1),(f2,v2)]):=by
    funext b;by_cases hb:b=s1.heap.objs.size+1
    . subst hb;rw[zDB,za (Ne.symm nd),za (Ne.symm ne)];exact n2.symm
    . rw[zCU hb,za hb];by_cases hb2:b=dx
      . subst hb2;rw[zI,zI]
      . rw[za hb2,za hb,za hb2]
   rw[eq];exact q _ dx n1 hdx1 nt
  have hl:(Value.ref (s1.heap.objs.size+1)::us).length=ps.length:=by rw[<-r2.length];exact F.len _ _ _ _ hsp
  refine wpAny_call (codeAny_mono (F.run _ X.stack _ _ ⟨Value.ref (s1.heap.objs.size+1)::us,[]⟩ (Value.ref (s1.heap.objs.size+1)::us) _ _ (fun _ _ _=>False) (hr.make C us []) (I2.env0.make C us [])
   (by have:=hb _ (Value.ref (s1.heap.objs.size+1)::us) I2.kIn (by rw[zAG];exact hl);rw[zAG] at this;exact this) r2 hsp) fun r s' hq'=>?_)
  cases r with
  | error e=>exact False.elim hq'
  | ok fl=>
   cases fl with
   | ret u=>obtain⟨v,H',I3,rv,ev,dx,hx,hE⟩:=I2.after hq';subst ev;refine⟨rv,_,rfl,I3.kIn,⟨_,_,(I3.hok _ _ hx).1⟩,?_⟩;exact hxe pins σ _ s' _ _ dx (I3.drop hx) (I3.hok _ _ hx).1 zDB s00 hE
   | next=>exact False.elim hq'
   | brk=>exact False.elim hq'
   | cont=>exact False.elim hq'
end
noncomputable def zDR (e:Addr)(od:Option Addr)(h:Heap):Prop:=∃o,h.get? e=some o/\o.dict=od
theorem zDR.step {od:Option Addr}{h':Heap}(x:zDR e od h)(k:DK h h'):zDR e od h':=by obtain⟨o,q,r⟩:=x;obtain⟨o',q',r'⟩:=k e o q;exact⟨o',q',r'.trans r⟩
section
variable {M:Model}{A:Around}{E:vSP}{s:Shared}{base:Heap}{env:Env}{outer l:List Env}{L e:Addr}{cls a0:Value}{od:Option Addr}{Q:Unit->Shared->Prop}
theorem zJz (hfr:A.frames=some (env::outer))(hf:env.frame=some L)(hfl:Heap.FlyingW base (env::outer) e cls a0 s.heap)(hd:zDR e od s.heap)
 (hQ:∀h',Heap.HeldW base (env::outer) e cls a0 L h'->s.heap.UpToSlots h'->zDR e od h'->Q () { s with heap:=h' }):wpAny M A (noteFrame (.ref e) env) Q E s:=by
 refine zAO (zDF (zJ5 _ _) (wpAny_looks_onW (Q:=fun _ s2=>∃h',s2={ s with heap:=h' }/\Heap.HeldW base (env::outer) e cls a0 L h'/\s.heap.UpToSlots h') hfr hf hfl fun h' a b=>⟨h',rfl,a,b⟩)) (fun _ s2 hq=>?_) fun _ _ z=>z;obtain⟨⟨h',rfl,a,b⟩,k⟩:=hq;exact hQ h' a b (hd.step k)
theorem landsD (hh:Heap.HeldW base l e cls a0 L s.heap)(hd:zDR e od s.heap)
 (hQ:∀h',Heap.FlyingW base l e cls a0 h'->s.heap.UpToSlots h'->zDR e od h'->Q () { s with heap:=h' }):wpAny M A (setFlight (.ref e) none) Q E s:=by
 refine zAO (zDF (zCv _ _) (wpAny_landsW (Q:=fun _ s2=>∃h',s2={ s with heap:=h' }/\Heap.FlyingW base l e cls a0 h'/\s.heap.UpToSlots h') hh fun h' a b=>⟨h',rfl,a,b⟩)) (fun _ s2 hq=>?_) fun _ _ z=>z;obtain⟨⟨h',rfl,a,b⟩,k⟩:=hq;exact hQ h' a b (hd.step k)
theorem againD (hh:Heap.FlyingW base l e cls a0 s.heap)(hd:zDR e od s.heap)
 (hQ:∀h',Heap.FlyingW base l e cls a0 h'->s.heap.UpToSlots h'->zDR e od h'->Q () { s with heap:=h' }):wpAny M A (setFlight (.ref e) none) Q E s:=by
 refine zAO (zDF (zCv _ _) (lands_againW (Q:=fun _ s2=>∃h',s2={ s with heap:=h' }/\Heap.FlyingW base l e cls a0 h'/\s.heap.UpToSlots h') hh fun h' a b=>⟨h',rfl,a,b⟩)) (fun _ s2 hq=>?_) fun _ _ z=>z;obtain⟨⟨h',rfl,a,b⟩,k⟩:=hq;exact hQ h' a b (hd.step k)
end
noncomputable def zMm (K:PySem.W.Frag)(C:Addr):Bool:=excI K C || PySem.W.excIn K C bmV "ValueError.__new__"
theorem zLc (X:K.In h)(q:zMm K C=true):
 ∃bm N nm qn bs hdct sn sub ab col dd k0 k1 k2 k3 k5,h.get? C=some (excClassObj nm qn C N bs bm hdct sn sub ab col dd k0 k1 k2 k3 k5 "ValueError.__new__"):=by
 unfold zMm at q;rcases Bool.or_eq_true _ _ ▸ q with q | q
 . obtain⟨bm,N,nm,qn,bs,sn,sub,ab,col,dd,k0,k1,k2,k3,k5,mN,hC,_⟩:=zCj X q;exact⟨_,_,_,_,_,_,_,_,_,_,_,_,_,_,_,_,hC⟩
 . obtain⟨bm,N,nm,qn,bs,hdct,sn,sub,ab,col,dd,k0,k1,k2,k3,k5,mN,hC,_⟩:=zKL X q;exact⟨_,_,_,_,_,_,_,_,_,_,_,_,_,_,_,_,hC⟩
noncomputable def PXI (X:Cx)(body:List Stmt)(tb:XK->TS):Prop:=∀(pins:lPO)(s:Shared)(σ:St)(H:Hp)(D:zGZ)(E1:XK),Inv X pins σ H s->tb E1 D σ H ->
 wpAny (model X.prog X.w) X.A (execs body X.env) (SP X pins D) (fun e s'=>∃H1 s1,Inv X pins σ H1 s1/\CXI X.prog X.w X.stack H1 s1 E1 e s') s
section
variable {X:Cx}{k:Nat}{f:Addr}{fd:FuncData}{ps:List Str}{sp:Sp}{x:Str}{p pos epos:Pos}{e:Expr}{es:List Expr}{t:TA}
theorem zOA {pins:lPO}{s:Shared}{σ:St}{Q:VK}{E1:XK}(F:zAb X.prog X.w X.K X.mg X.base (CXI X.prog X.w) k f fd ps sp)(hr:zDE k X.A)(hg:Gl X x)(hm:X.mg x=some (.ref f))(hk:PySem.W.keepIn X.K (.ref f)=true)(hb:zDp X.K fd ps [])
 (ha:PA X.nox (e::es) t)(I:Inv X pins σ H s)(h:t σ H fun vs H1=>sp vs H1 Q E1)(hdb:(x==("__debug__" : Str))=false:=by decide) (he:starEach (e::es) X.env=(false,eval e X.env)::starEach es X.env:=by rfl)(hpl:(backTo pos (starEach es X.env)).any (·.1)=false:=by rfl):
 wpAny (model X.prog X.w) X.A (eval (.Call (.Name x p) (e::es) [] pos) X.env) (EP X pins σ Q) (fun e s'=>∃H1 s1,Inv X pins σ H1 s1/\CXI X.prog X.w X.stack H1 s1 E1 e s') s:=by
 refine zBd (zFB I hg hm ?_ hdb);refine PySem.W.callWith_K (h₀:=X.base) I.ok.mod.kin hk (zAO (ha pos pins s σ H _ (I.wish _) h) (fun us s1 ⟨vs,H1,I1,r,q⟩=>⟨I1.unwish.kIn,?_⟩) fun _ _ z=>False.elim z) he hpl;have I2:=I1.unwish;have hl:us.length=ps.length:=by rw[<-r.length];exact F.len _ _ _ _ q
 refine wpAny_call (codeAny_mono (F.run X.A X.stack s1 H1 ⟨us,[]⟩ us vs Q E1 hr I2.env0 (by have:=hb s1 us I2.kIn (by rw[zAG];exact hl);rw[zAG] at this;exact this) r q) fun r s' hq=>?_);cases r with
 | error e=>exact⟨H1,s1,I2,hq⟩
 | ok fl=>
  cases fl with
  | ret u=>exact I2.after hq
  | next=>exact False.elim hq
  | brk=>exact False.elim hq
  | cont=>exact False.elim hq
end
theorem zKM (X:K.In h)(q:zMm K C=true):
 ∃bm N nm qn bs hdct sn sub ab col dd k0 k1 k2 k3 k5,h.get? C=some (excClassObj nm qn C N bs bm hdct sn sub ab col dd k0 k1 k2 k3 k5 "ValueError.__new__")/\OwnTail h bmV bm:=by
 unfold zMm at q;rcases Bool.or_eq_true _ _ ▸ q with q | q
 . obtain⟨bm,N,nm,qn,bs,sn,sub,ab,col,dd,k0,k1,k2,k3,k5,mN,hC,_,T⟩:=zCj X q;exact⟨_,_,_,_,_,_,_,_,_,_,_,_,_,_,_,_,hC,T⟩
 . obtain⟨bm,N,nm,qn,bs,hdct,sn,sub,ab,col,dd,k0,k1,k2,k3,k5,mN,hC,_,_,T⟩:=zKL X q;exact⟨_,_,_,_,_,_,_,_,_,_,_,_,_,_,_,_,hC,T⟩
noncomputable def EHN (K:PySem.W.Frag)(W:Addr)(ts:TS)(D:zGZ)(σ:St):XK:=fun C _ H'=>∃Ca,C=.ref Ca/\zMm K Ca=true/\subIn K Ca W=true/\ts D σ H'
noncomputable def tTryN (K:PySem.W.Frag)(W:Addr)(tb:XK->TS)(ts:TS):TS:=fun D σ H=>tb (EHN K W ts D σ) D σ H
theorem zNQ {X:Cx}{body:List Stmt}{b0:Stmt}{suite:List Stmt}{pos hpos np:Pos}{W:Addr}{tb:XK->TS}{ts:TS}
 (hst:X.stack=X.env::X.outer)(hfl:X.env.frame=some X.env.locals)(hg:Gl X x)(hm:X.mg x=some (.ref W))(qW:zMm X.K W=true)
 (hb:PXI X body tb)(hs:∀(ea:Addr)(oe:Obj),PSs (X.held ea oe) (b0::suite) ts)(hd:(x==("__debug__" : Str))=false:=by decide):
 PS X (.Try body [.ExceptHandler (some (.Name x np)) none (b0::suite) hpos] [] [] pos) (tTryN X.K W tb ts):=by
 intro pins s σ H D I h;refine wpAny_Try_except (zAO (hb pins s σ H D _ I h) (fun fl s' hq=>?_) fun e s' hq=>?_)
 . cases fl with
   | next=>exact wpAny_execs_nil hq
   | brk=>exact hq
   | cont=>exact hq
   | ret u=>exact hq
 . obtain⟨H1,s1,I1,ea,t,C,od,H',B,rfl,os,bare,un,hok,⟨fl,fd⟩,tr,old,al,Ca,rfl,qC,sub,hts⟩:=hq;have hfr:X.A.frames=some (X.env::X.outer):=by rw[<-hst];exact I.ok.frames
   have fl':=fl;rw[hst] at fl';have hHe:H' ea=none:=by
    cases z:H' ea with
    | none=>rfl
    | some u=>obtain⟨o,ho⟩:=tr ea u z;rw[fl.2.1] at ho;cases ho
   refine zJz hfr hfl fl' fd fun h4 held up4 d4=>?_;refine landsD held d4 fun h5 fl5 up5 d5=>?_;have key:∀(h6:Heap),Heap.FlyingW B (X.env::X.outer) ea (.ref Ca) (.ref t) h6->s'.heap.UpToSlots h6->∃oe,h6.get? ea=some oe/\oe.cls=.ref Ca/\Inv (X.held ea oe) pins σ H' { s' with heap:=h6 }:=fun h6 fl6 up6=>by
    obtain⟨oe,ws,hoe,hc,hdt,_⟩:=fl6.first;have un6:Un (frs X.stack) [] H1 H' s1.heap h6:=zJ1 un fl old al fl6.1 up6;have I6:Inv X pins σ H' { s' with heap:=h6 }:=I1.call' (s':={ s' with heap:=h6 }) os un6 (hok.stays fl.1 fl6.1 tr) bare (fun b z=>absurd z (by simp));have nfr:ea∉frs X.stack:=fun z=>by rw[hst] at z;obtain⟨_,o,ho,nd⟩:=fl6.2.2.1.mem z;rw[hoe] at ho;cases ho;exact nd ws hdt
    have hfs:frs X.stack=X.env.locals::X.fs:=by rw[hst];unfold frs;rw[List.filterMap_cons,hfl];rfl
    rw[hfs] at nfr;exact⟨oe,hoe,hc,I6.hold hoe hHe (fun z=>nfr (z ▸ zZ)) (fun z=>nfr (zg _ z)) (fun v z=>by rw[hdt] at z;cases z)⟩
   obtain⟨oe5,hoe5,hc5,I5⟩:=key h5 fl5 (up4.trans up5);refine wpAny_handleBy_cons (codeAny_handlers_test (zFB (X:=X.held ea oe5) I5 hg hm ?_ hd)) (by intro q;cases q);obtain⟨bm,Nn,nm,qn,bs,hdct,sn,sb,ab,col,dd,k0,k1,k2,k3,k5,hC⟩:=zLc I5.kIn qC;obtain⟨bm',Nn',nm',qn',bs',hdct',sn',sb',ab',col',dd',k0',k1',k2',k3',k5',hW,TW⟩:=zKM I5.kIn qW;refine zIE hC hW hoe5 hc5 (TW.hasType (by rfl)) (sub_of I5.kIn sub hC) ?_;refine codeAny_handlers_suite (againD fl5 d5 fun h6 fl6 up6 d6=>?_);obtain⟨oe6,hoe6,hc6,I6⟩:=key h6 fl6 ((up4.trans up5).trans up6);refine zAO (hs ea oe6 pins _ _ H' D I6 hts) (fun f s8 hq=>?_) fun _ _ z=>z.elim;cases f with
   | next=>obtain⟨σ',H2,J,q⟩:=hq;exact⟨_,H2,Inv.letgo I.ok J,q⟩
   | brk=>obtain⟨σ',H2,J,q⟩:=hq;exact⟨_,H2,Inv.letgo I.ok J,q⟩
   | cont=>obtain⟨σ',H2,J,q⟩:=hq;exact⟨_,H2,Inv.letgo I.ok J,q⟩
   | ret u=>obtain⟨v,σ',H2,J,r,q⟩:=hq;exact⟨v,_,H2,Inv.letgo I.ok J,r,q⟩
section
variable {X:Cx}{k:Nat}{f:Addr}{fd:FuncData}{ps:List Str}{sp:Sp}{x y:Str}{p pos epos pos' cpos:Pos}{e b:Expr}{es:List Expr}{t:TA}{i:Nat}
theorem zLA {tb:TE}(hN:X.N.Nodup)(hi:X.N[i]?=some y)(hx:Loc X.env.scope y)(F:zAb X.prog X.w X.K X.mg X.base (CXI X.prog X.w) k f fd ps sp)(hr:zDE k X.A)(hg:Gl X x)(hm:X.mg x=some (.ref f))(hk:PySem.W.keepIn X.K (.ref f)=true)(hb:zDp X.K fd ps [])
 (ha:PA X.nox (e::es) t)(hv:PE X.nox b tb)(hs:swapsWith (.Compare (.Call (.Name x p) (e::es) [] pos) [.Is] [b] cpos) (some (.Name y pos')) epos.line X.env=pure false:=by rfl)(hf:X.fn y=true\/X.env.scope.names.lookup y=some .local:=by first | exact .inl rfl | exact .inr rfl | assumption)(hdb:(x==("__debug__" : Str))=false:=by decide) (he:starEach (e::es) X.env=(false,eval e X.env)::starEach es X.env:=by rfl)(hpl:(backTo pos (starEach es X.env)).any (·.1)=false:=by rfl):
 PXI X [.Assign [.Name y pos'] (.Compare (.Call (.Name x p) (e::es) [] pos) [.Is] [b] cpos) epos] (fun E1 D σ H=>t σ H fun vs H1=>sp vs H1 (fun v H2=>tb σ H2 fun u H3=>∃c d,v=.bl c/\u=.bl d/\D.nx (σ.set i (some (.bl (c==d)))) H3) E1):=by
 intro pins s σ H D E1 I h;refine wpAny_execs_cons (wpAny_Assign_Name (wpAny_Compare1 (zAO (zOA F hr hg hm hk hb ha I h hdb he hpl) (fun v s1 ⟨z,H1,I1,r1,q1⟩=>?_) fun _ _ z=>z) (zAB _)) hs);refine zAO (hv pins s1 σ H1 _ (I1.wish _) q1) (fun u s2 ⟨z2,H2,I2,r2,c,d,e1,e2,q2⟩=>?_) fun _ _ z=>False.elim z;subst e1 e2;cases r1;cases r2;refine PyProof.Rows.is_bool ?_;exact zDG I2.unwish hN hi hx (v:=.bl (c==d)) rfl (fun s3 I3=>wpAny_execs_nil ⟨_,H2,I3,q2⟩) hf
end
end L2
namespace L2
open PySem PySem.Spec PySem.Calls PyProof.Rows
section
variable {prog:Program}{w:World}{A:Around}{s:Shared}
theorem zGo {v:Value}{Q:Bool->Shared->Prop}{E:vSP}(h:Q true s):wpAny (model prog w) A (eqBool v v) Q E s:=by
 unfold eqBool;refine zAW ?_;show wpAny _ _ (if (v==v)=true then _ else _) Q E s
 rw[if_pos (beq_self_eq_true v)];exact zC (zBp (zG h))
theorem zEJ {fin:Bool}{Q:Bool->Shared->Prop}:∀(us:List Value)(i:Nat),Q fin s->PySem.W.KatLex prog w A true fin Q (us.zip us) i s
 | [],_,q=>q
 | _::us,i,q=>PySem.W.kat_cons (zGo (PySem.W.kat_yes (zEJ us (i+1) q)))
end
structure zGx (H:Hp)(as:List Addr)(ks:List Int):Prop where
 ln:ks.length=as.length
 at_:∀(i:Nat)(a:Addr),as[i]?=some a->∃k r,ks[i]?=some k/\H a=some (.tup (.int k::r))
 nd:ks.Nodup
theorem zIT {X:Cx}{pins:lPO}{σ:St}{H:Hp}{s s':Shared}{a:Addr}{as:List Addr}{ks:List Int}{vs:List Value}{A:Around}(I:Inv X pins σ H s)(T:zGx H as ks)(r:zBS (as.map V.ref) vs)(hne:0<vs.length)
 (fa:∀b o,s.heap.get? b=some o->b≠a)(kp:∀b o,s.heap.get? b=some o->s'.heap.get? b=some o):SortT.Asks X.prog X.w A s' a vs (O:=zNt) (fun i=>ks.getD i 0) (tuples' true):=by
 have hl:=T.ln;have hv:=r.length;rw[zB] at hv;have at_:∀(h':Heap),(∀b o,b≠a->s'.heap.get? b=some o->h'.get? b=some o)->∀i,i<vs.length->∃(p:Addr)(k:Int)(tk:Tok)(us:List Value)(o:Obj)(n:Nat),vs[i]?=some (Value.ref p)/\ks[i]?=some k/\h'.get? p=some o/\o.cls=.type "tuple"/\o.data=.seq (Value.int k tk::us).toArray n:=fun h' kh i hi=>by
  have hy:i<as.length:=by omega
  obtain⟨k,q,e2,e3⟩:=T.at_ i as[i] (zA hy);obtain⟨u,hu,ru⟩:=r.get (i:=i) (x:=.ref as[i]) (by rw[zM,zA hy];rfl);cases (show u=Value.ref as[i] from ru);obtain⟨_,its,rv,o,ho,hc,n,hd⟩:=I.hok as[i] _ e3;cases rv with
  | cons r1 r2=>obtain⟨tk,rfl⟩:=r1;exact⟨as[i],k,tk,_,o,n,hu,e2,kh _ o (fa _ o ho) (kp _ o ho),hc,hd⟩
 refine⟨fun h' Q E kh q=>?_,fun h' i j Q E kh hi hj q=>?_⟩
 . have tups:∀(m:Nat),m<=vs.length->∃fs:List Value,PySem.W.KatTups h' (vs.drop (vs.length-m)) fs/\fs.length=m/\∀f∈fs,∃x t,f=Value.int x t:=by
    intro m
    induction m with
    | zero=>intro _;exact⟨[],by rw[Nat.sub_zero,List.drop_length];exact trivial,rfl,fun f hf=>by simp at hf⟩
    | succ m ih=>
     intro hm;obtain⟨fs,t,e,hf⟩:=ih (by omega);obtain⟨p,k,tk,us,o,n,hu,hk,ho,hc,hd⟩:=at_ h' kh (vs.length-(m+1)) (by omega);have ed:vs.drop (vs.length-(m+1))=Value.ref p::vs.drop (vs.length-m):=by
      have hlt:vs.length-(m+1)<vs.length:=by omega
      rw[zAz hlt,show vs.length-(m+1)+1=vs.length-m by omega];have:vs[vs.length-(m+1)]=Value.ref p:=by rw[zA hlt] at hu;exact zT hu
      rw[this]
     refine⟨Value.int k tk::fs,by rw[ed];exact PySem.W.KatTups.cons ho hc hd rfl t,by rw[zt,e],fun f hf'=>?_⟩;rcases ze.mp hf' with rfl | hf'
     . exact⟨k,tk,rfl⟩
     . exact hf f hf'
   obtain⟨fs,t,e,hf⟩:=tups vs.length (zK _);rw[zBG,List.drop_zero] at t;refine PySem.W.kat_kind (T:=Value.type "int") t (by omega) (fun v hv=>?_) (by rfl) q;obtain⟨x,tx,rfl⟩:=hf v hv;exact PySem.W.Looks.of_pure rfl
 . obtain⟨p,k,tk,us,o,n,hu,hk,ho,hc,hd⟩:=at_ h' kh i hi;obtain⟨p2,k2,tk2,us2,o2,n2,hu2,hk2,ho2,hc2,hd2⟩:=at_ h' kh j hj;have e1:vs.getD i Value.none=.ref p:=by rw[zE,hu];rfl
   have e2:vs.getD j Value.none=.ref p2:=by rw[zE,hu2];rfl
   have g1:ks.getD i 0=k:=by rw[zE,hk];rfl
   have g2:ks.getD j 0=k2:=by rw[zE,hk2];rfl
   rw[e1,e2];refine PySem.W.kat_lt (s:={ s' with heap:=h' }) ho hd ho2 hd2 ?_;have q':Q (decide (k<k2)) { s' with heap:=h' }:=by
    have:zNt.blt (ks.getD i 0) (ks.getD j 0)=decide (k<k2):=by rw[g1,g2];rfl
    rw[<-this];exact q
   by_cases c:i=j
   . subst c;rw[hu] at hu2;cases hu2;rw[ho] at ho2;cases ho2;rw[hd] at hd2;injection hd2 with hd2;rw[hk] at hk2;cases hk2;rw[<-hd2];refine zEJ _ 0 ?_;rw[zc (zBe _)];rw[zc (Int.lt_irrefl _)] at q';exact q'
   . have ne:k≠k2:=fun z=>by obtain⟨i1,x1⟩:=zF.mp hk;obtain⟨i2,x2⟩:=zF.mp hk2;exact c ((zB5 T.nd).mp (x1.trans (z.trans x2.symm)))
     refine PySem.W.kat_cons (wpAny_eqBool_int ?_);rw[show (k==k2)=false by simpa using ne];exact PySem.W.kat_no (oneLt_int q')
section
variable {X:Cx}
inductive rc_13 (K:PySem.W.Frag)(xs:List V)(H:Hp)(Q:VK):Prop
 | mk:∀p as ks,(xs=[.ref p])->(SqT K H p (as.map V.ref))->(zGx H as ks)->(as.length<64)->(∀l (out:List Nat),H l=none->out.Perm (List.range as.length)->Q (.ref l) (upd H l (.lst ((out.map fun i=>as.getD i 0).map V.ref))))->rc_13 K xs H Q
theorem zFI:zCl X (.builtin "sorted") (rc_13 X.K):=by
 intro pins s σ H xs us Q I r h;obtain⟨p,as,ks,rfl,hq,T,h64,q⟩:=h;obtain⟨u,rfl,rx⟩:=zC8 r;cases rx;obtain⟨its,r',pl,hz⟩:=I.tuple hq;have hl:=T.ln;have hv:=r'.length;rw[zB] at hv;refine SortT.sorted_tup (O:=zNt) (key:=fun i=>ks.getD i 0) (κ:=PyProof.Rows.tuples' true) pl (by omega) (fun h2 s' a fa kp=>zIT I T r' (by omega) fa kp) fun D h' out c pt hD kp ho=>?_;have pm:out.Perm (List.range as.length):=by rw[hv];exact pt.perm
 have hb:∀i∈out,i<as.length:=fun i hi=>zCC.mp (pm.mem_iff.mp hi);have rz:∀l:List Nat,(∀i∈l,i<as.length)->zBS ((l.map fun i=>as.getD i 0).map V.ref) (l.map fun i=>its.getD i Value.none):=by
  intro l
  induction l with
  | nil=>intro _;exact .nil
  | cons i l ih=>intro h;have hi:=h i zZ;obtain⟨u,hu,ru⟩:=r'.get (i:=i) (x:=.ref as[i]) (by rw[zM,zA hi];rfl);refine .cons ?_ (ih fun j hj=>h j (zg _ hj));show zBm (.ref (as.getD i 0)) (its.getD i Value.none);rw[zE,zA hi,zE,hu];exact ru
 exact⟨.ref D,_,zCZ (t':=s.toks) I hD kp ho (rz out hb) (by rw[zB] at hz;rw[zB,zB,pm.length_eq,zAP];exact hz),rfl,q D out (I.hok.fresh hD) pm⟩
end
end L2
namespace L2
open PySem PySem.Spec PyProof.Rows
structure FuB (K:PySem.W.Frag)(mg:sOV)(x:Str)(st:Stmt)(f:Addr)(fd:FuncData)(ps:List Str):Prop where
 F:Fun K x x st f fd
 b:zDp K fd ps []
 m:mg x=some (.ref f)
variable {X:Cx}{x:Str}{pos:Pos}
theorem zAI {st:Stmt}{f:Addr}{fd:FuncData}{ps:List Str}{sp:Sp}{k:Nat}{e:Expr}{es:List Expr}{t:TA}{p:Pos}(G:zAb X.prog X.w X.K X.mg X.base CX0 k f fd ps sp)(hr:zDE k X.A)(B:FuB X.K X.mg x st f fd ps)(ha:PA X (e::es) t)(hg:Gl X x:=by rfl)(hdb:(x==("__debug__" : Str))=false:=by decide)(he:starEach (e::es) X.env=(false,eval e X.env)::starEach es X.env:=by rfl)(hpl:(backTo pos (starEach es X.env)).any (·.1)=false:=by rfl):PE X (.Call (.Name x p) (e::es) [] pos) (tCall sp [] E0 t):=zD7 G hr hg B.m B.F.kp B.b .nil pass0 ha hdb he hpl
theorem Fun.okD {P:Program}{w:World}{K:PySem.W.Frag}{mg:sOV}{base:Heap}{qual:Str}{st:Stmt}{f:Addr}{fd:FuncData}{N ps:List Str}{k:Nat}{sp:Sp}(F:Fun K x qual st f fd)(S:zAE N ps (defScope st))
 (hbody:∀(cdv:Value)(A:Around)(outer:List Env)(s:Shared)(H:Hp)(vs:List V)(Q:VK)(E:XK),zDE k (A.deeper (PyProof.Rows.envOfC qual (defScope st) s.heap.objs.size f cdv))->sp vs H Q E ->
  ∃t,PSs (zIQ CX0 P w K mg base N qual (defScope st) f cdv A outer s H E).nox (defBody st) t/\t { nx:=fun _ H'=>Q .non H',rt:=Q } (start N vs) H)(len:∀vs H Q E,sp vs H Q E->vs.length=ps.length:=by intro _ _ _ _ h;first|(cases h;subst_vars;rfl)|repeat (first|(obtain⟨rfl,_⟩:=h;rfl)|obtain⟨_,h⟩:=h)):zAb P w K mg base CX0 (k+1) f fd ps sp:=F.ok S len hbody
theorem zAi {i:Nat}{e:Expr}{te:TE}{pos':Pos}(hN:X.N.Nodup)(he:PE X e te)(hi:X.N[i]?=some x:=by rfl)(hx:Loc X.env.scope x:=by exact Or.inl rfl)(hs:swapsWith e (some (.Name x pos')) pos.line X.env=pure false:=by rfl)(hf:X.fn x=true\/X.env.scope.names.lookup x=some .local:=by first | exact .inl rfl | exact .inr rfl | assumption):PS X (.Assign [.Name x pos'] e pos) (tAsg te (zGG i)):=zC4 hN hi hx he hs hf
theorem zu {a b:Expr}{ta tb:TE}{r:R2}(hr:IxR X r)(ha:PE X a ta)(hb:PE X b tb)(hs:zKl b:=by exact fun _ _=>rfl):PE X (.Subscript a b pos) (tOp r ta tb):=pe_ix hr ha hb hs
theorem zCJ (hN:X.N.Nodup:=by exact zDk rfl)(hi:X.N[0]?=some x:=by rfl)(hx:Loc X.env.scope x:=by exact Or.inl rfl)(hf:X.fn x=true\/X.env.scope.names.lookup x=some .local:=by first | exact .inl rfl | exact .inr rfl | assumption):PG X (.Name x pos) (zGG 0):=zv hN hi hx hf
end L2
namespace K32
open PySem L2 WM
variable {P:Program}{w:World}{K:PySem.W.Frag}{mg:sOV}{base:Heap}{PT:Addr}{X:Cx}
inductive Ex2 {α0 α1:Type}(p:α0->α1->Prop):Prop
 | mk:∀a0 a1,p a0 a1->Ex2 p
inductive Ex3 {α0 α1 α2:Type}(p:α0->α1->α2->Prop):Prop
 | mk:∀a0 a1 a2,p a0 a1 a2->Ex3 p
inductive Ex4 {α0 α1 α2 α3:Type}(p:α0->α1->α2->α3->Prop):Prop
 | mk:∀a0 a1 a2 a3,p a0 a1 a2 a3->Ex4 p
inductive Ex5 {α0 α1 α2 α3 α4:Type}(p:α0->α1->α2->α3->α4->Prop):Prop
 | mk:∀a0 a1 a2 a3 a4,p a0 a1 a2 a3 a4->Ex5 p
inductive Ex6 {α0 α1 α2 α3 α4 α5:Type}(p:α0->α1->α2->α3->α4->α5->Prop):Prop
 | mk:∀a0 a1 a2 a3 a4 a5,p a0 a1 a2 a3 a4 a5->Ex6 p
inductive Ex8 {α0 α1 α2 α3 α4 α5 α6 α7:Type}(p:α0->α1->α2->α3->α4->α5->α6->α7->Prop):Prop
 | mk:∀a0 a1 a2 a3 a4 a5 a6 a7,p a0 a1 a2 a3 a4 a5 a6 a7->Ex8 p
inductive Ex10 {α0 α1 α2 α3 α4 α5 α6 α7 α8 α9:Type}(p:α0->α1->α2->α3->α4->α5->α6->α7->α8->α9->Prop):Prop
 | mk:∀a0 a1 a2 a3 a4 a5 a6 a7 a8 a9,p a0 a1 a2 a3 a4 a5 a6 a7 a8 a9->Ex10 p
noncomputable abbrev zK5:Stmt:=top 35
noncomputable abbrev zDI:Stmt:=top 36
noncomputable abbrev zFk:Stmt:=top 37
noncomputable abbrev sWeb:Stmt:=top 38
noncomputable abbrev sRow:Stmt:=top 39
noncomputable abbrev zNG:Stmt:=top 4
noncomputable abbrev sWi:Stmt:=top 5
noncomputable abbrev sTof:Stmt:=top 6
noncomputable abbrev sRis:Stmt:=top 7
noncomputable abbrev sPl:Stmt:=top 8
noncomputable abbrev zJP:Stmt:=top 10
noncomputable abbrev zJS:Stmt:=top 11
noncomputable abbrev zFn:Stmt:=top 12
noncomputable abbrev zH8:Stmt:=top 18
noncomputable abbrev zH6:Stmt:=top 22
noncomputable abbrev zH7:Stmt:=top 23
noncomputable abbrev sOwn:Stmt:=top 13
noncomputable abbrev sSum:Stmt:=top 16
noncomputable abbrev zFj:Stmt:=top 14
noncomputable abbrev sHub:Stmt:=top 15
noncomputable abbrev sEnt:Stmt:=top 17
noncomputable abbrev zJM:Stmt:=top 19
noncomputable abbrev zJL:Stmt:=top 20
noncomputable abbrev zJO:Stmt:=top 25
noncomputable abbrev zJN:Stmt:=top 26
noncomputable abbrev sOf:Stmt:=top 27
noncomputable abbrev sUf:Stmt:=top 28
noncomputable abbrev sUr:Stmt:=top 29
noncomputable abbrev sTf:Stmt:=top 30
noncomputable abbrev sGm:Stmt:=top 31
noncomputable abbrev sDf:Stmt:=top 32
noncomputable abbrev sDr:Stmt:=top 33
noncomputable abbrev sAdd:Stmt:=top 40
noncomputable abbrev sLes:Stmt:=top 41
noncomputable abbrev sFar:Stmt:=top 42
noncomputable abbrev sOn:Stmt:=top 43
noncomputable abbrev zMJ:Stmt:=top 44
noncomputable abbrev sNxs:Stmt:=top 45
noncomputable abbrev zFl:Stmt:=top 46
noncomputable abbrev zH9:Stmt:=top 47
noncomputable abbrev zFo:Stmt:=top 48
noncomputable abbrev zJQ:Stmt:=top 49
noncomputable abbrev zJT:Stmt:=top 50
noncomputable abbrev zFm:Stmt:=top 51
noncomputable abbrev zD0:Stmt:=top 52
noncomputable abbrev zK6:Stmt:=top 53
noncomputable abbrev zK4:Stmt:=top 54
noncomputable abbrev sIl:Stmt:=top 55
noncomputable abbrev sMix:Stmt:=top 56
noncomputable abbrev sWay:Stmt:=top 57
noncomputable abbrev zHQ:Stmt:=top 58
noncomputable abbrev sI1:Stmt:=mth 2 0
noncomputable abbrev sLaw:Stmt:=top 59
noncomputable def zBF (H:Hp)(t p:Addr)(N:Nat):Prop:=∃(ns:List Int)(spot rest:Int),H t=some (.lst [.ref p,.int spot,.int rest])/\H p=some (.lst (ns.map V.int))/\p≠t/\0<=spot/\spot<=N/\0<=rest/\ns.length<=63
inductive zHo (H:Hp)(t:Addr)(N:Nat):Prop
 | mk:∀p:Addr,(zBF H t p N)->zHo H t N
noncomputable def zAF (H:Hp)(t:Addr)(N:Nat):Prop:=zHo H t N
variable {H:Hp}{N:Nat}
theorem zAF.mono {t:Addr}{M:Nat}(h:zAF H t N)(l:N<=M):zAF H t M:=by obtain⟨p,ns,spot,rest,a,b,c,d,e,f⟩:=h;exact⟨p,ns,spot,rest,a,b,c,d,by omega,f⟩
noncomputable def Sm (t:Addr)(H H':Hp):Prop:=∀b o,b≠t->H b=some o->H' b=some o
theorem Sm.refl (t:Addr)(H:Hp):Sm t H H:=fun _ _ _ e=>e
variable {H1 H2:Hp}
theorem Sm.trans {t:Addr}(a:Sm t H H1)(b:Sm t H1 H2):Sm t H H2:=fun c o n e=>b c o n (a c o n e)
variable {H':Hp}
theorem Sm.of {t:Addr}(h:zAo H H'):Sm t H H':=fun b o _ e=>h b o e
variable {l:Addr}
theorem Sm.laid {t:Addr}{o:HO}(h:H l=none):Sm t H (upd H l o):=fun b u _ e=>by rw[za (zl e h)];exact e
theorem Sm.chg {t:Addr}{o:HO}(s:Sm t H H')(h:H l=none):Sm t H (upd H' l o):=fun b u n e=>by rw[za (zl e h)];exact s b u n e
theorem zH {o:HO}(h:H l=none):zAo H (upd H l o):=fun b u e=>by rw[za (zl e h)];exact e
theorem zAV {o:HO}(s:zAo H H')(h:H l=none):zAo H (upd H' l o):=fun b u e=>by rw[za (zl e h)];exact s b u e
theorem zAF.keep {t:Addr}(h:zAF H t N)(k:zAo H H'):zAF H' t N:=by obtain⟨p,ns,spot,rest,a,b,c⟩:=h;exact⟨p,ns,spot,rest,k _ _ a,k _ _ b,c⟩
theorem zAF.laid {t:Addr}{o:HO}(h:zAF H t N)(hl:H l=none):zAF (upd H l o) t N:=h.keep (zH hl)
variable {b:Addr}
theorem zAF.ne {t:Addr}(h:zAF H t N)(hb:H b=none):b≠t:=by obtain⟨p,ns,spot,rest,a,_⟩:=h;exact (zl a hb).symm
theorem zAF.chg {t:Addr}{o u:HO}(h:zAF H t N)(hl:H l=some u)(hu:∀xs,u ≠ .lst xs):zAF (upd H l o) t N:=by obtain⟨p,ns,spot,rest,a,b,c⟩:=h;exact⟨p,ns,spot,rest,by rw[za (zCD a hl fun z=>hu _ z.symm)];exact a,by rw[za (zCD b hl fun z=>hu _ z.symm)];exact b,c⟩
variable {p:Addr}
theorem zBF.keepF {t:Addr}{M:Nat}(h:zBF H t p N)(k1:∀o,H t=some o->H' t=some o)(k2:∀o,H p=some o->H' p=some o)(l:N<=M):zBF H' t p M:=by obtain⟨ns,spot,rest,a,b,c,d,e,f⟩:=h;exact⟨ns,spot,rest,k1 _ a,k2 _ b,c,d,by omega,f⟩
inductive zFd (vs:List V)(H:Hp)(Q:VK):Prop
 | mk:∀(t p:Addr)(N:Nat)(many:Int),(vs=[.ref t,.int many])->(zBF H t p N)->(N<1000000)->(0<many)->(many<1000000)->(∀(r:Int)(H':Hp),0<=r->r<many->zBF H' t p (N+1)->(∀b,b≠t->H' b=H b)->Q (.int r) H')->zFd vs H Q
noncomputable def zDS:Sp:=fun vs H Q _=>zFd vs H Q
inductive zHM (vs:List V)(H:Hp)(Q:VK):Prop
 | mk:∀(t:Addr)(N:Nat)(many:Int),(vs=[.ref t,.int many])->(zAF H t N)->(N<1000000)->(0<many)->(many<1000000)->(∀(r:Int)(H':Hp),0<=r->r<many->zAF H' t (N+1)->(∀b,b≠t->H' b=H b)->Q (.int r) H')->zHM vs H Q
noncomputable def zFe:Sp:=fun vs H Q _=>zHM vs H Q
inductive zG7 (K:PySem.W.Frag)(vs:List V)(H:Hp)(Q:VK):Prop
 | mk:∀(a:Addr)(ns:List Int),(vs=[.ref a])->(SqL K H a (ns.map V.int))->(ns.length<=63)->(∀(t:Addr)(H':Hp),H t=none->zAF H' t 0->zAo H H'->Q (.ref t) H')->zG7 K vs H Q
noncomputable def spTape (K:PySem.W.Frag):Sp:=fun vs H Q _=>zG7 K vs H Q
theorem scTape:zAE qAc qAc (defScope zK5):=fS0
variable {f:Addr}
theorem zNc {fd:FuncData}(F:Fun K "_law_tape" "_law_tape" zK5 f fd):zAb P w K mg base CX0 1 f fd qAc (spTape K):=by
 refine F.okD scTape fun _ A _ _ H vs Q E hr h=>?_;obtain⟨a,ns,rfl,hS,hl,k⟩:=h;refine⟨_,zY (zAH (zBV (zD (zBY zE1 (pv 0) zB8 (zBn zf)) (zCb (zCb zL))))),?_⟩;refine⟨_,rfl,_,rfl,a,_,rfl,hS,fun p hp=>⟨by show 3<=sizeLine;decide,fun t ht=>?_⟩⟩;have npt:p≠t:=fun e=>by rw[e,zI] at ht;cases ht
 have e1:zDw (ns.map V.int) none (some 63)=(ns.take 63).map V.int:=by unfold zDw;rw[HT.sIx_none,List.drop_zero,Nat.sub_zero,zB,show (63:Int)=((63:Nat):Int) from rfl,HT.sIx_nat,List.map_take];rw[show min 63 ns.length=ns.length by omega,zh (by rw[zB];exact zK _),zh (by rw[zB];exact hl)]
 have ht0:H t=none:=by rw[za npt.symm] at ht;exact ht
 refine k t _ ht0 ⟨p,ns.take 63,0,0,zI,?_,npt,zBE _,zBE _,zBE _,by rw[zr];omega⟩ ?_
 . rw[za npt,zI,e1]
 . exact zAV (zH hp) ht0
theorem zFi:zAE ["_law_tape_here","_law_many","_law_found","_law_spot","_law_cell","_law_mixed_here"] qAB (defScope zDI):=fS0
variable {a:Int}
theorem zEC {m:Int}(h:0<m):0<=a%m/\a%m<m:=⟨Int.emod_nonneg _ (by omega),Int.emod_lt_of_pos _ h⟩
theorem zDs {fd:FuncData}(F:Fun K "_law_draw" "_law_draw" zDI f fd) (mLen:mg "len"=none):zAb P w K mg base CX0 1 f fd qAB zDS:=by
 refine F.okD zFi fun _ A _ _ H vs Q E hr h=>?_;obtain⟨t,p,N,many,rfl,T,hN,hm0,hm1,k⟩:=h;obtain⟨ns,spot,rest,ht,hp,hne,hs0,hs1,hr0,hl⟩:=T;refine⟨_,zR (zA8 (zAA zEA (zu zAC (pv 0) zf) zf (zAB _))
  (zR (zAi (i:=2) zFi.nd (zAw zD9 (zu zAC (pv 0) zf) (pv 1)))
  (zR (zC5 (zAw zE7 (zu zAC (pv 0) zf) (pv 1)) (zDe (pv 0) zf zCW))
  (zY (zAH (pv 2))))) zAN)
  (zR (zAi (i:=3) zFi.nd (zu zAC (pv 0) zf))
  (zR (zC5 (zAw zBs (pv 3) zf) (zDe (pv 0) zf zCW))
  (zR (zAi (i:=4) zFi.nd (zDK (zAA zEA (zAJ zAm mLen (zD (zu zAC (pv 0) zf) zL)) zf (zAB _))
   (zu zAC (zu zAC (pv 0) zf) (zAw zD9 (pv 3) (zAJ zAm mLen (zD (zu zAC (pv 0) zf) zL)))) zf))
  (zR (zA8 (zCn (zAA op_ge (pv 4) (zAw op_pow zf zf) (zAB _)) (zCR (zAA zF4 (pv 3) (zAJ zAm mLen (zD (zu zAC (pv 0) zf) zL)) (zAB _)))).pt
   (zR (zC5 (zAw zE7 (pv 4) (pv 1)) (zDe (pv 0) zf zCW)) (zY (zAH (zAw zD9 (pv 4) (pv 1))))) zAN)
  (zR (zAi (i:=5) zFi.nd (zAw zD9 (zAw zF3 (zAw zBs (zAw zD9 (pv 4) zf) zf) (zAw zBs zf (zAw zF3 zf (pv 3)))) zf))
  (zY (zAH (zAw zD9 (zAw zE7 (zAw zD9 (zAw zF3 (zAw zBs (pv 5) (zAw zF3 (zAw zF3 zf (pv 3)) (pv 3))) zf) zf) zf) (pv 1))))))))),?_⟩
 have cd:CDiv 0 many:=⟨hm0,by omega⟩;refine⟨_,rfl,t,_,_,_,rfl,rfl,SqL.of ht,rfl,_,_,rfl,rfl,_,rfl,?_⟩;refine zC1 (fun hc=>?_) (fun hc=>?_)
 . have hpos:0<rest:=of_decide_eq_true hc;refine⟨_,rfl,t,_,_,_,rfl,rfl,SqL.of ht,rfl,_,rfl,_,_,rfl,rfl,hm0,?_⟩;refine⟨_,rfl,t,_,_,_,rfl,rfl,SqL.of ht,rfl,_,rfl,_,_,rfl,rfl,cd,?_⟩;refine⟨_,rfl,t,_,_,2,rfl,rfl,ht,rfl,?_⟩;refine⟨_,rfl,?_⟩;refine k _ _ (zEC hm0).1 (zEC hm0).2 ⟨ns,spot,rest/many,zI,by rw[za hne];exact hp,hne,hs0,by omega,Int.ediv_nonneg hr0 (by omega),hl⟩ fun b hb=>za hb
 . -- spot=tape[1];tape[1]=spot+1
   refine⟨_,rfl,t,_,_,_,rfl,rfl,SqL.of ht,rfl,?_⟩;refine⟨_,rfl,_,_,rfl,rfl,_,rfl,t,_,_,1,rfl,rfl,ht,rfl,?_⟩;have ht1:(upd H t (.lst [.ref p,.int (spot+1),.int rest])) t=some (.lst [.ref p,.int (spot+1),.int rest]):=zI;have hp1:(upd H t (.lst [.ref p,.int (spot+1),.int rest])) p=some (.lst (ns.map V.int)):=by rw[za hne];exact hp
   have ex:0<((ns.map V.int).length:Int)->∃c,atI (ns.map V.int) (spot%((ns.map V.int).length:Int))=some (.int c):=fun h=>by
    have hb:=zEC (a:=spot) h;obtain⟨j,hj⟩:=Int.eq_ofNat_of_zero_le hb.1;have hlt:j<ns.length:=by have h2:=hb.2;rw[hj,zB] at h2;omega
    refine⟨ns[j],?_⟩;rw[hj];exact zCk (by simp[hlt])
   refine⟨_,rfl,t,_,_,_,rfl,rfl,SqL.of ht1,rfl,p,_,rfl,.inl (SqL.of hp1),_,_,rfl,rfl,_,rfl,?_⟩;refine zC1 (fun h2=>?a) (fun h2=>?b)
   case' a=>
    obtain⟨c,hc⟩:=ex (of_decide_eq_true h2);refine⟨_,rfl,t,_,_,_,rfl,rfl,SqL.of ht1,rfl,_,rfl,_,rfl,t,_,_,_,rfl,rfl,SqL.of ht1,rfl,p,_,rfl,.inl (SqL.of hp1),_,_,rfl,rfl,of_decide_eq_true h2,p,_,_,_,rfl,rfl,SqL.of hp1,hc,?_⟩
   all_goals
    refine⟨_,rfl,_,_,rfl,rfl,⟨by decide,by decide,by decide⟩,_,_,rfl,rfl,_,rfl,?_⟩;refine zC1 (fun h3=>?_) (fun h3=>?_)
   all_goals first
    | (refine⟨_,rfl,_,rfl,t,_,_,_,rfl,rfl,SqL.of ht1,rfl,p,_,rfl,.inl (SqL.of hp1),_,_,rfl,rfl,_,rfl,?_⟩;refine zC1 (fun h4=>?_) (fun h4=>?_))
    | refine zCr ?_
   all_goals first
    | (refine⟨_,rfl,_,rfl,_,_,rfl,rfl,⟨hm0,by omega⟩,_,rfl,t,_,_,2,rfl,rfl,ht1,rfl,?_⟩
       refine⟨_,rfl,_,rfl,_,_,rfl,rfl,hm0,?_⟩;refine k _ _ (zEC hm0).1 (zEC hm0).2 ⟨ns,spot+1,_,zI,by rw[za hne];exact hp1,hne,by omega,by omega,Int.ediv_nonneg (Int.le_trans (show (0:Int)<=10 ^ (18:Int).toNat by decide) (of_decide_eq_true h3)) (by omega),hl⟩ fun b hb=>by rw[za hb,za hb])
    | (refine⟨_,rfl,_,_,rfl,rfl,(by first | decide | (dsimp only;decide)),_,_,rfl,rfl,_,rfl,_,_,rfl,rfl,.inl ⟨by decide,by decide⟩,_,_,rfl,rfl,_,_,rfl,rfl,.inl ⟨by omega,by omega⟩,_,_,rfl,rfl,(by first | decide | (dsimp only;decide)),?_⟩
       refine⟨_,rfl,_,rfl,_,_,rfl,rfl,.inl ⟨by decide,by decide⟩,_,rfl,_,_,rfl,rfl,.inr ⟨by omega,by omega⟩,_,_,rfl,rfl,_,_,rfl,rfl,.inr ⟨by decide,by decide⟩,_,_,rfl,rfl,(by first | decide | (dsimp only;decide)),_,_,rfl,rfl,⟨by decide,by decide⟩,_,rfl,_,_,rfl,rfl,hm0,?_⟩;refine k _ _ (zEC hm0).1 (zEC hm0).2 ⟨ns,spot+1,rest,ht1,hp1,hne,by omega,by omega,hr0,hl⟩ fun b hb=>za hb)
theorem zGg {fd:FuncData}(F:Fun K "_law_draw" "_law_draw" zDI f fd) (mLen:mg "len"=none):zAb P w K mg base CX0 1 f fd qAB zFe:=
 (zDs F mLen).imp fun vs H Q E ⟨t,N,many,e,⟨p,T⟩,a,b,c,k⟩=>⟨t,p,N,many,e,T,a,b,c,fun r H' h0 h1 T' he=>k r H' h0 h1 ⟨p,T'⟩ he⟩
theorem zDU {L:List Int}{r:Int}(h0:0<=r)(h1:r<L.length):∃n,n∈L/\atI (L.map V.int) r=some (.int n):=by
 obtain⟨j,rfl⟩:=Int.eq_ofNat_of_zero_le h0;have hj:j<L.length:=by omega
 exact⟨L[j],zBA hj,zCk (by simp[hj])⟩
inductive zKk (H:Hp)(wa:Addr)(n:Int)(ts:List T3):Prop
 | mk:∀(ta:Addr)(tys:List V),(H wa=some (.tup [.int n,.ref ta]))->(H ta=some (.tup tys))->(zAc H tys (ts.map tl))->(GW n ts)->zKk H wa n ts
noncomputable def zB3 (H:Hp)(wa:Addr)(n:Int)(ts:List T3):Prop:=zKk H wa n ts
variable {wa:Addr}{n:Int}{ts:List T3}
theorem zB3.keepT (h:zB3 H wa n ts)(k:∀b ys,H b=some (.tup ys)->H' b=some (.tup ys)):zB3 H' wa n ts:=by obtain⟨ta,tys,a,b,c,d⟩:=h;exact⟨ta,tys,k _ _ a,k _ _ b,c.keep k,d⟩
theorem zB3.keep (h:zB3 H wa n ts)(k:zAo H H'):zB3 H' wa n ts:=h.keepT fun b _ e=>k b _ e
inductive zIo (vs:List V)(H:Hp)(Q:VK):Prop
 | mk:∀(t:Addr)(N:Nat)(n:Int),(vs=[.ref t,.int n])->(zAF H t N)->(N<900000)->(1<=n)->(n<=24)->(∀(wa:Addr)(ts:List T3)(H':Hp),H wa=none->zB3 H' wa n ts->zAF H' t (N+200)->Sm t H H'->Q (.ref wa) H')->zIo vs H Q
noncomputable def spWeb:Sp:=fun vs H Q _=>zIo vs H Q
noncomputable def JD (n:Int)(kvs:List (List Key×V)):Prop:=(∀kv∈kvs,∃a b l:Int,kv=([Sum.inl a,Sum.inl b],V.int l)/\0<=a/\a<b/\b<n/\1<=l/\l<=99)/\(kvs.map (·.1)).Nodup
theorem JD.nil (n:Int):JD n []:=⟨fun _ h=>by simp at h,List.nodup_nil⟩
variable {kvs:List (List Key×V)}
theorem JD.put (h:JD n kvs){b l:Int}(h0:0<=a)(h1:a<b)(h2:b<n)(h3:1<=l)(h4:l<=99):JD n (zCs kvs [Sum.inl a,Sum.inl b] (.int l)):=by
 cases e:zCL kvs [Sum.inl a,Sum.inl b] with
 | none=>
  refine⟨fun kv hkv=>?_,zNq _ h.2 e⟩;rw[zDr _ e] at hkv;rcases zm.mp hkv with q | q
  . exact h.1 kv q
  . rw[zd.mp q];exact⟨a,b,l,rfl,h0,h1,h2,h3,h4⟩
 | some v=>
  have ha:(kvs.any fun kv=>decide (kv.1=[Sum.inl a,Sum.inl b]))=true:=by rw[zCO,e];rfl
  unfold zCs;rw[if_pos ha];refine⟨fun kv hkv=>?_,?_⟩
  . obtain⟨q,hq,e2⟩:=zo.mp hkv;by_cases hk:q.1=[Sum.inl a,Sum.inl b]
    . rw[if_pos hk,hk] at e2;rw[<-e2];exact⟨a,b,l,rfl,h0,h1,h2,h3,h4⟩
    . rw[if_neg hk] at e2;rw[<-e2];exact h.1 q hq
  . have e3:(kvs.map fun kv=>if kv.1=[Sum.inl a,Sum.inl b] then (kv.1,V.int l) else kv).map (·.1)=kvs.map (·.1):=by
     rw[zAd];refine zBa fun kv _=>?_;show (if kv.1=[Sum.inl a,Sum.inl b] then (kv.1,V.int l) else kv).1=kv.1
     split <;> rfl
    rw[e3];exact h.2
noncomputable def unk:Key->Int
 | .inl i=>i
 | .inr _=>0
noncomputable def zEh (kvs:List (List Key×V)):List (List Int):=kvs.map fun kv=>kv.1.map unk
theorem JD.keys (h:JD n kvs):kvs.map (·.1)=(zEh kvs).map (List.map Sum.inl):=by unfold zEh;rw[zAd];refine zBa fun kv hkv=>?_;obtain⟨a,b,l,e,_⟩:=h.1 kv hkv;rw[e];rfl
theorem JD.ne (h:JD n kvs):∀k∈zEh kvs,k≠[]:=fun k hk=>by obtain⟨kv,hkv,e⟩:=zo.mp hk;obtain⟨a,b,l,e2,_⟩:=h.1 kv hkv;rw[<-e,e2];simp[List.map]
theorem JD.nd (h:JD n kvs):(zEh kvs).Nodup:=by have e:=h.2;rw[h.keys] at e;rw[List.Nodup,zAt] at e;exact e.imp fun h e'=>h (by rw[e'])
theorem JD.val (h:JD n kvs){k:List Int}(hk:k∈zEh kvs):∃a b l,k=[a,b]/\zCL kvs [Sum.inl a,Sum.inl b]=some (.int l)/\0<=a/\a<b/\b<n/\1<=l/\l<=99:=by
 obtain⟨kv,hkv,e⟩:=zo.mp hk;obtain⟨a,b,l,e2,h0,h1,h2,h3,h4⟩:=h.1 kv hkv;have ek:k=[a,b]:=by rw[<-e,e2];rfl
 have hm:(kvs.any fun kv=>decide (kv.1=[Sum.inl a,Sum.inl b]))=true:=List.any_eq_true.mpr ⟨kv,hkv,zS (by rw[e2])⟩;rw[zCO] at hm;cases hv:zCL kvs [Sum.inl a,Sum.inl b] with
 | none=>rw[hv] at hm;cases hm
 | some v=>
  have hv0:=hv;unfold zCL at hv;cases hf:kvs.find? fun kv=>decide (kv.1=[Sum.inl a,Sum.inl b]) with
  | none=>rw[hf] at hv;cases hv
  | some q=>
   rw[hf] at hv;obtain⟨a',b',l',e3,_,_,_,g3,g4⟩:=h.1 q (List.mem_of_find?_eq_some hf);have ev:v=.int l':=by rw[e3] at hv;exact (zT hv).symm
   exact⟨a,b,l',ek,by rw[hv0,ev],h0,h1,h2,g3,g4⟩
structure WI (H:Hp)(t d la:Addr)(n:Int)(N m:Nat)(H2:Hp):Prop where
 sm:Sm t H H2
 tp:zAF H2 t N
 dc:∃kvs,H2 d=some (.dT kvs)/\JD n kvs/\kvs.length<=m
 lg:∃l0 l1 l2:Int,H2 la=some (.lst [.int l0,.int l1,.int l2])/\(∀l∈[l0,l1,l2],1<=l/\l<=99)
variable {m:Nat}{la:Addr}
theorem WI.draw {H3:Hp}{t d:Addr}(h:WI H t d la n N m H2)(hd:d≠t)(hl:la≠t)(T:zAF H3 t (N+1))(he:∀b,b≠t->H3 b=H2 b):WI H t d la n (N+1) m H3:=by
 refine⟨fun b o nb e=>by rw[he b nb];exact h.sm b o nb e,T,?_,?_⟩
 . rw[he d hd];exact h.dc
 . rw[he la hl];exact h.lg
theorem WI.laid {H H2:Hp}{t d la l:Addr}{n:Int}{N m:Nat}{o:HO}(h:WI H t d la n N m H2)(hl:H2 l=none):WI H t d la n N m (upd H2 l o):=by obtain⟨kvs,a,b⟩:=h.dc;obtain⟨l0,l1,l2,c,e⟩:=h.lg;exact⟨h.sm.trans (Sm.laid hl),h.tp.laid hl,⟨kvs,by rw[za (zl a hl)];exact a,b⟩,⟨l0,l1,l2,by rw[za (zl c hl)];exact c,e⟩⟩
theorem WI.put {H H2:Hp}{t d la:Addr}{n:Int}{N m:Nat}{kvs:List (List Key×V)}(h:WI H t d la n N m H2)(hd0:H d=none)(hd:H2 d=some (.dT kvs)){a b l:Int}(h0:0<=a)(h1:a<b)(h2:b<n)(h3:1<=l)(h4:l<=99):
 WI H t d la n N (m+1) (upd H2 d (.dT (zCs kvs [Sum.inl a,Sum.inl b] (.int l)))):=by
 obtain⟨kvs',e,j,hm⟩:=h.dc;rw[hd] at e;cases e;obtain⟨l0,l1,l2,c,e⟩:=h.lg;refine⟨h.sm.chg hd0,h.tp.chg hd (by intro xs z;cases z),⟨_,zI,j.put h0 h1 h2 h3 h4,?_⟩,⟨l0,l1,l2,by rw[za (zCD c hd (by intro z;cases z))];exact c,e⟩⟩;have:=zBw kvs [Sum.inl a,Sum.inl b] (V.int l);omega
theorem WI.up {t d:Addr}{N' m':Nat}(h:WI H t d la n N m H2)(hN:N<=N')(hm:m<=m'):WI H t d la n N' m' H2:=by obtain⟨kvs,a,b,c⟩:=h.dc;exact⟨h.sm,h.tp.mono hN,⟨kvs,a,b,by omega⟩,h.lg⟩
theorem at3 {l0 l1 l2 r:Int}(h:∀l∈[l0,l1,l2],1<=l/\l<=99)(h0:0<=r)(h1:r<3):∃l,atI [V.int l0,V.int l1,V.int l2] r=some (.int l)/\1<=l/\l<=99:=by obtain⟨l,hl,ha⟩:=zDU (L:=[l0,l1,l2]) h0 h1;exact⟨l,ha,h l hl⟩
theorem zAh {n:Nat}(h:n<=100000):n<sizeLine:=zAn h (by decide)
theorem zMx {ms:List (List Int)}(h:JD n kvs)(hp:ms.Perm (zEh kvs))(hl:kvs.length<64)(hn:1<=n)(hn2:n<=24)(e:ts.map (fun t=>[t.1,t.2.1])=ms)(hr:∀t∈ts,0<=t.1/\t.1<t.2.1/\t.2.1<n/\1<=t.2.2/\t.2.2<=99):GW n ts:=by
 have hlen:ts.length=kvs.length:=by have:=hp.length_eq;rw[<-e] at this;simpa [zEh] using this
 refine⟨hn,hn2,by omega,hr,?_⟩;have nd:(ts.map fun t:T3=>[t.1,t.2.1]).Nodup:=by rw[e];exact hp.nodup_iff.mpr h.nd
 rw[List.Nodup,zAt] at nd;exact nd.imp fun hne hc=>hne (by rw[hc.1,hc.2])
theorem zGb:zAE ["_law_tape_here","_law_n","_law_longs","_law_joined_here","_law_b","_law_k","_law_a"] qAM (defScope sWeb):=fS0
variable {fD:Addr}{fdD:FuncData}
theorem ok_web {fd:FuncData}(F:Fun K "_law_web" "_law_web" sWeb f fd) (FD:FuB K mg "_law_draw" zDI fD fdD qAB) (mLen:mg "len"=none)
 (mRange:mg "range"=none) (mTuple:mg "tuple"=none) (mSorted:mg "sorted"=none):zAb P w K mg base CX0 2 f fd qAM spWeb:=by
 have GD:zAb P w K mg base CX0 1 fD fdD qAB zFe:=zGg FD.F mLen;refine F.okD zGb fun _ A _ _ H vs Q E hr h=>?_;obtain⟨t,N,n,rfl,T,hN,hn1,hn2,k⟩:=h;have hu:=zGn hr;obtain⟨es,q0,q1,q2,j3,q3,q4,p1,p2,p3,hbd,hes⟩:∃es q0 q1 q2 j3 q3 q4 p1 p2 p3,defBody sWeb=.Assign [.Name "_law_longs" q0] (.Subscript (.List es p1) (.Call (.Name "_law_draw" q1) [.Name "_law_tape_here" q2,.Constant (.int 4) j3 q3] [] q4) p2) p3::(defBody sWeb).drop 1 /\
  zDQ es [[1,1,1],[1,2,1],[1,2,3],[5,99,7]]:=⟨_,_,_,_,_,_,_,_,_,_,rfl,.cons (.cons (.cons (.cons .nil))) (by show 3<=sizeLine;decide) (.cons (.cons (.cons (.cons .nil))) (by show 3<=sizeLine;decide) (.cons (.cons (.cons (.cons .nil))) (by show 3<=sizeLine;decide) (.cons (.cons (.cons (.cons .nil))) (by show 3<=sizeLine;decide) (.nil))))⟩
 rw[hbd];refine⟨_,zR (zAi (i:=2) zGb.nd (zu zAC (zBV (zLH hes))
  (zAI GD hr FD (zD (pv 0) (zCb zL)))))
  (zR (zC4 (i:=3) zGb.nd rfl (Or.inr rfl) zHZ)
  (zR (zA8 (zAA zEA (zAI GD hr FD (zD (pv 0) (zCb zL))) zf (zAB _))
   (zY (zA6 PassesOwn.never rfl (zD6 rfl mRange (zCb (zD (pv 1) zL))) (zv (i:=4) zGb.nd rfl (Or.inl rfl))
    (zY (zD4 hu (pv 3) (zAv (zD (zAI GD hr FD (zD (pv 0) (zD (pv 4) zL))) (zD (pv 4) zL)))
     (zu zAC (pv 2) (zAI GD hr FD (zD (pv 0) (zCb zL)))) rfl)))) zAN)
  (zR (zA6 PassesOwn.never rfl (zAl rfl mRange (zD (zAI GD hr FD (zD (pv 0) (zD (zAw zBs (zAw zBs zf (pv 1)) (zAw zE7 (pv 1) zf)) zL))) zL)) (zv (i:=5) zGb.nd rfl (Or.inl rfl))
   (zR (zAi (i:=6) zGb.nd (zAI GD hr FD (zD (pv 0) (zD (pv 1) zL))))
   (zR (zAi (i:=4) zGb.nd (zAI GD hr FD (zD (pv 0) (zD (pv 1) zL))))
   (zY (zA8 (zAA zF4 (pv 6) (pv 4) (zAB _)) (zY (zD4 hu (pv 3) (zAv (zD (pv 6) (zD (pv 4) zL)))
    (zu zAC (pv 2) (zAI GD hr FD (zD (pv 0) (zCb zL)))) rfl)) zAN)))))
  (zY (zAH (zAv (zD (pv 1) (zD (zAr zAT mTuple (zD
   (zBi (own:=["_law_pair"]) (cn:=["_law_joined_here"]) (ci:=[3]) rfl (csc rfl rfl) ⟨rfl,rfl,rfl,trivial⟩ rfl
    (zCE (zAJ (zDh rfl) mSorted (zD (pv 3) zL))) (fun _ _ _ _=>zCJ) (fun _ _ _ _=>zBP)
    (fun _ _ _ _=>zAv (zD (zu zCh (pv 0) zf) (zD (zu zCh (pv 0) zf) (zD (zCg hu (pv 1) (pv 0) (fun _ _=>rfl)) zL))))) zL)) zL)))))))),?_⟩
 intro a1 e1 a2 e2 a3 e3 a4 e4;refine⟨by show 4<=sizeLine;decide,fun al el=>?_⟩;have T5:=((((T.laid (o:=.lst [.int 1,.int 1,.int 1]) e1).laid (o:=.lst [.int 1,.int 2,.int 1]) e2).laid (o:=.lst [.int 1,.int 2,.int 3]) e3).laid (o:=.lst [.int 5,.int 99,.int 7]) e4).laid (o:=.lst [.ref a1,.ref a2,.ref a3,.ref a4]) el;refine⟨_,rfl,t,N,4,rfl,T5,by omega,by decide,by decide,fun r H1 h0 h1 T1 he1=>?_⟩;have nel:al≠t:=((((T.laid (o:=.lst [.int 1,.int 1,.int 1]) e1).laid (o:=.lst [.int 1,.int 2,.int 1]) e2).laid (o:=.lst [.int 1,.int 2,.int 3]) e3).laid (o:=.lst [.int 5,.int 99,.int 7]) e4).ne el;obtain⟨la,l0,l1,l2,hat,hla,hb,nla⟩:∃(la:Addr)(l0 l1 l2:Int),atI [V.ref a1,V.ref a2,V.ref a3,V.ref a4] r=some (.ref la)/\H1 la=some (.lst [.int l0,.int l1,.int l2])/\(∀l∈[l0,l1,l2],1<=l/\l<=99)/\la≠t:=by
  have n1:a1≠t:=T.ne e1;have n2:a2≠t:=(T.laid (o:=.lst [.int 1,.int 1,.int 1]) e1).ne e2;have n3:a3≠t:=((T.laid (o:=.lst [.int 1,.int 1,.int 1]) e1).laid (o:=.lst [.int 1,.int 2,.int 1]) e2).ne e3;have n4:a4≠t:=(((T.laid (o:=.lst [.int 1,.int 1,.int 1]) e1).laid (o:=.lst [.int 1,.int 2,.int 1]) e2).laid (o:=.lst [.int 1,.int 2,.int 3]) e3).ne e4;have g1:H1 a1=some (.lst [.int 1,.int 1,.int 1]):=by rw[he1 a1 n1];exact zH el _ _ (zH e4 _ _ (zH e3 _ _ (zH e2 _ _ zI)))
  have g2:H1 a2=some (.lst [.int 1,.int 2,.int 1]):=by rw[he1 a2 n2];exact zH el _ _ (zH e4 _ _ (zH e3 _ _ zI))
  have g3:H1 a3=some (.lst [.int 1,.int 2,.int 3]):=by rw[he1 a3 n3];exact zH el _ _ (zH e4 _ _ zI)
  have g4:H1 a4=some (.lst [.int 5,.int 99,.int 7]):=by rw[he1 a4 n4];exact zH el _ _ zI
  have hr4:r=0\/r=1\/r=2\/r=3:=by omega
  rcases hr4 with rfl | rfl | rfl | rfl
  . exact⟨a1,1,1,1,rfl,g1,by decide,n1⟩
  . exact⟨a2,1,2,1,rfl,g2,by decide,n2⟩
  . exact⟨a3,1,2,3,rfl,g3,by decide,n3⟩
  . exact⟨a4,5,99,7,rfl,g4,by decide,n4⟩
 refine⟨al,_,_,_,rfl,rfl,SqL.of (by rw[he1 al nel];exact zI),hat,?_⟩;have sm1:Sm t H H1:=fun b o nb e=>by rw[he1 b nb];exact zH el _ _ (zH e4 _ _ (zH e3 _ _ (zH e2 _ _ (zH e1 _ _ e))))
 intro d hd;have nd:d≠t:=T1.ne hd;have hd0:H d=none:=by
  cases q:H d with
  | none=>rfl
  | some o=>have:=sm1 d o nd q;rw[hd] at this;cases this
 have W0:WI H t d la n (N+1) 0 (upd H1 d (.dT [])):=⟨sm1.chg hd0,T1.laid hd,⟨[],zI,JD.nil n,zK _⟩,⟨l0,l1,l2,by rw[za (zl hla hd)];exact hla,hb⟩⟩;refine⟨_,rfl,t,N+1,3,rfl,W0.tp,by omega,by decide,by decide,fun r1 H2 _ _ T2 he2=>?_⟩;have W2:=W0.draw nd nla T2 he2;refine⟨_,_,rfl,rfl,_,rfl,?_⟩;refine zC1 (fun _=>?a) (fun _=>?b)
 case' a=>
  refine⟨_,rfl,1,n,rfl,⟨by decide,by decide,by omega,by omega⟩,zA3 (lo:=1) (n:=(n-1).toNat) (fun i σ H3=>∃vb:Option V,σ=[some (.ref t),some (.int n),some (.ref la),some (.ref d),vb,none,none]/\WI H t d la n (N+2+2*i) i H3) ⟨none,rfl,W2⟩ ?turn ?after⟩
  case turn=>
   rintro i σ H3 hi ⟨vb,rfl,W⟩;obtain⟨m0,m1,m2,hm,hmb⟩:=W.lg;refine⟨_,rfl,_,rfl,t,N+2+2*i,3,rfl,W.tp,by omega,by decide,by decide,fun r3 H4 g0 g1 T4 he4=>?_⟩;have W4:=W.draw nd nla T4 he4;obtain⟨lg,hlg,hg1,hg2⟩:=at3 hmb g0 g1;refine⟨la,_,_,_,rfl,rfl,SqL.of (by rw[he4 la nla];exact hm),hlg,?_⟩;refine⟨_,rfl,_,rfl,_,rfl,t,N+2+2*i+1,1+i,rfl,W4.tp,by omega,by omega,by omega,fun r5 H5 q0 q1 T5 he5=>?_⟩;have W5:=W4.draw nd nla T5 he5;refine⟨_,rfl,by show 2<=sizeLine;decide,fun p hp=>?_⟩;have W6:=W5.laid (o:=.tup [.int r5,.int (1+i)]) hp;obtain⟨kvs,hk,J,hkl⟩:=W6.dc;refine⟨d,_,rfl,zKp.t (k:=[Sum.inl r5,Sum.inl (1+(i:Int))]) hk zI (zAh (by omega)),?_⟩;exact⟨_,rfl,(W6.put hd0 hk q0 q1 (by omega) hg1 hg2).up (by omega) (by omega)⟩
  case' after=>
   rintro σ H3 ⟨vb,rfl,W⟩;have W3:WI H t d la n (N+50) 23 H3:=W.up (by omega) (by omega)
 case' b=>
  have W3:WI H t d la n (N+50) 23 H2:=W2.up (by omega) (by omega)
 all_goals
  refine⟨_,rfl,_,rfl,_,_,rfl,rfl,_,rfl,_,_,rfl,rfl,⟨by decide,by decide⟩,_,_,rfl,rfl,t,N+50,_,rfl,W3.tp,by omega,by omega,by omega,fun r4 H4 p0 p1 T4 he4=>?_⟩;have W4:=W3.draw nd nla T4 he4;refine⟨r4,rfl,by omega,by omega,zA3 (lo:=0) (n:=r4.toNat) (fun i σ H5=>Ex3 fun (vb vk va:Option V)=>σ=[some (.ref t),some (.int n),some (.ref la),some (.ref d),vb,vk,va]/\WI H t d la n (N+51+3*i) (23+i) H5) ⟨_,_,_,rfl,W4⟩ ?turn2 ?after2⟩
  case turn2=>
   rintro i σ H5 hi ⟨vb,vk,va,rfl,W⟩;refine⟨_,rfl,_,rfl,t,N+51+3*i,n,rfl,W.tp,by omega,by omega,by omega,fun a H6 a0 a1 T6 he6=>?_⟩;have W6:=W.draw nd nla T6 he6;refine⟨_,rfl,_,rfl,t,N+51+3*i+1,n,rfl,W6.tp,by omega,by omega,by omega,fun b H7 b0 b1 T7 he7=>?_⟩;have W7:=W6.draw nd nla T7 he7;refine⟨_,rfl,_,rfl,_,_,rfl,rfl,_,rfl,?_⟩;refine zC1 (fun hc=>?_) (fun hc=>?_)
   . have hab:a<b:=of_decide_eq_true hc;obtain⟨m0,m1,m2,hm,hmb⟩:=W7.lg;refine⟨_,rfl,_,rfl,t,N+51+3*i+1+1,3,rfl,W7.tp,by omega,by decide,by decide,fun r3 H8 g0 g1 T8 he8=>?_⟩;have W8:=W7.draw nd nla T8 he8;obtain⟨lg,hlg,hg1,hg2⟩:=at3 hmb g0 g1;refine⟨la,_,_,_,rfl,rfl,SqL.of (by rw[he8 la nla];exact hm),hlg,?_⟩;refine⟨_,rfl,_,rfl,_,rfl,by show 2<=sizeLine;decide,fun p hp=>?_⟩;have W9:=W8.laid (o:=.tup [.int a,.int b]) hp;obtain⟨kvs,hk,J,hkl⟩:=W9.dc;refine⟨d,_,rfl,zKp.t (k:=[Sum.inl a,Sum.inl b]) hk zI (zAh (by omega)),?_⟩;exact⟨_,_,_,rfl,(W9.put hd0 hk a0 hab b1 hg1 hg2).up (by omega) (by omega)⟩
   . exact⟨_,_,_,rfl,W7.up (by omega) (by omega)⟩
  case after2=>
   rintro σ H5 ⟨vb,vk,va,rfl,W⟩;obtain⟨kvs,hk,J,hkl⟩:=W.dc;have hk64:kvs.length<64:=by omega
   refine⟨_,rfl,_,rfl,d,kvs,zEh kvs,rfl,hk,J.keys,J.ne,by rw[zEh,zB];exact hk64,fun l zs ms hl TA hp _=>?_⟩;refine⟨l,rfl,⟨_,SqL.of zI⟩,[.ref d],rfl,fun D hD=>?_⟩;have hlz:=TA.length;have hlm:ms.length=kvs.length:=by rw[hp.length_eq,zEh,zB]
   have nlD:l≠D:=fun e=>by rw[<-e,zI] at hD;cases hD
   have hk1:(upd H5 l (.lst zs)) d=some (.dT kvs):=zH hl _ _ hk;have hD5:H5 D=none:=by rw[za nlD.symm] at hD;exact hD
   refine zCw (a:=l) (xs:=zs) (fun i ys H6=>∃ts:List T3,ts.length=i/\ts.map (fun t:T3=>[t.1,t.2.1])=ms.take i/\(∀t∈ts,0<=t.1/\t.1<t.2.1/\t.2.1<n/\1<=t.2.2/\t.2.2<=99)/\H6 D=some (.lst ys)/\zAc H6 ys (ts.map tl)/\zAo (upd H5 l (.lst zs)) H6)
    ⟨[],rfl,rfl,fun _ h=>by simp at h,zI,trivial,zH hD⟩ (fun i ys H6 h=>?_) (fun i ys H6 h=>?_) (fun i x ys H6 hx h=>?_) (fun ys H6 h=>?_)
   . obtain⟨_,_,_,_,_,_,s6⟩:=h;exact SqL.of (s6 _ _ zI)
   . obtain⟨ts,e1,e2,_,_,T6,_⟩:=h;have e3:=T6.length;rw[zB] at e3;have e4:=congrArg List.length e2;rw[zB,zr] at e4;exact zAh (by omega)
   . obtain⟨ts,e1,e2,hts,hD6,T6,s6⟩:=h;obtain⟨pa,kx,ex,hkx,hpa,_⟩:=TA.get hx;subst ex;have hpa6:H6 pa=some (.tup (kx.map V.int)):=s6 _ _ (zH hl _ _ hpa);obtain⟨a,b,lg,ek,hv,a0,ab,bn,lg1,lg2⟩:=J.val (hp.mem_iff.mp (zV hkx));subst ek;refine⟨⟨rfl,rfl⟩,?_⟩;refine zFN ?_;refine⟨_,rfl,pa,_,_,_,rfl,rfl,SqT.of hpa6,rfl,_,rfl,pa,_,_,_,rfl,rfl,SqT.of hpa6,rfl,_,rfl,_,rfl,d,_,rfl,hv ▸ zDj.t (k:=[Sum.inl a,Sum.inl b]) (s6 _ _ hk1) hpa6,by show 3<=sizeLine;decide,fun p hp6=>?_⟩;have nDp:D≠p:=zl hD6 hp6;refine⟨by rw[za nDp];exact hD6,ts++[(a,b,lg)],by rw[zJ,e1];rfl,?_,?_,zI,?_,?_⟩
     . rw[zQ,e2,zy,hkx];rfl
     . intro t ht;rcases zm.mp ht with q | q
       . exact hts t q
       . rw[zd.mp q];exact⟨a0,ab,bn,lg1,lg2⟩
     . rw[zQ];refine (T6.keep fun c xs e=>?_).snoc ⟨p,rfl,by rw[za nDp.symm,zI];rfl,by simp[tl]⟩;rw[za (zCD e hD6 (by intro z;cases z)),za (zl e hp6)];exact e
     . exact zAV (s6.trans (zH hp6)) hD
   . obtain⟨ts,e1,e2,hts,hD6,T6,s6⟩:=h;refine⟨D,ys,rfl,.inl ⟨SqL.of hD6,fun ta hta=>?_⟩⟩;refine⟨by show 2<=sizeLine;decide,fun wa hwa=>?_⟩;rw[hlz,zh (zK _)] at e2;have G:GW n ts:=zMx J hp hk64 hn1 hn2 e2 hts;have nwt:wa≠ta:=fun e=>by rw[e,zI] at hwa;cases hwa
     have h6wa:H6 wa=none:=by rw[za nwt] at hwa;exact hwa
     have s7:zAo H6 (upd (upd H6 ta (.tup ys)) wa (.tup [.int n,.ref ta])):=zAV (zH hta) h6wa;have T7:zAF (upd (upd H6 ta (.tup ys)) wa (.tup [.int n,.ref ta])) t (N+200):=((W.tp.mono (by omega)).keep ((zH hl).trans (s6.trans s7)));have nwa:wa≠t:=((W.tp.keep ((zH hl).trans s6)).ne h6wa);have sm7:Sm t H (upd (upd H6 ta (.tup ys)) wa (.tup [.int n,.ref ta])):=W.sm.trans (Sm.of ((zH hl).trans (s6.trans s7)));refine k wa ts _ ?_ ⟨ta,ys,zI,by rw[za nwt.symm,zI],T6.keep fun c xs e=>s7 _ _ e,G⟩ T7 sm7;cases q:H wa with
     | none=>rfl
     | some o=>have:=(W.sm.trans (Sm.of ((zH hl).trans s6))) wa o nwa q;rw[h6wa] at this;cases this
theorem ifT {c:Bool}{p q:Prop}(h:c=true)(hp:p):(if c=true then p else q):=by rw[if_pos h];exact hp
theorem ifF {c:Bool}{p q:Prop}(h:c=false)(hq:q):(if c=true then p else q):=by rw[if_neg (by simp[h])];exact hq
inductive zG6 (vs:List V)(H:Hp)(Q:VK):Prop
 | mk:∀(wa:Addr)(n:Int)(ts:List T3)(p:Int),(vs=[.ref wa,.int p])->(zB3 H wa n ts)->(∀(l:Addr)(zs:List V)(ms:List (List Int))(H':Hp),zAo H H'->H l=none->H' l=some (.lst zs)->zAc H' zs ms->ms.Perm (fd p ts)->zLm ms->Q (.ref l) H')->zG6 vs H Q
noncomputable def zIq:Sp:=fun vs H Q _=>zG6 vs H Q
theorem zFg:zAE ["web","place","found","a","b","long"] qAd (defScope zH6):=fS0
variable {fd':FuncData}
theorem zJo (F:Fun K "ties_at" "ties_at" zH6 f fd') (mSorted:mg "sorted"=none):zAb P w K mg base CX0 1 f fd' qAd zIq:=by
 refine F.okD zFg fun _ A _ _ H vs Q E hr h=>?_;obtain⟨wa,n,ts,p,rfl,⟨ta,tys,hwa,hta,TA,G⟩,k⟩:=h;refine⟨_,zR (zAi (i:=2) zFg.nd (zBV zL))
  (zR (zA6 PassesOwn.never rfl (zB9 (zu zAK (pv 0) zf)) (zCS rfl (zAD (zv (i:=3) zFg.nd rfl (Or.inl rfl)) (zAD (zv (i:=4) zFg.nd rfl (Or.inl rfl)) (zAD (zv (i:=5) zFg.nd rfl (Or.inl rfl)) zBh))))
   (zR (zA8 (zAA zCK (pv 3) (pv 1) (zAB _)) (zY (zBX (zCq PySem.F.plainAttrs_list PySem.F.slot_list_append PySem.F.type_list_append zA7 (pv 2) (zD (zAv (zD (pv 4) (zD (pv 5) zL))) zL)))) zAN)
   (zY (zA8 (zAA zCK (pv 4) (pv 1) (zAB _)) (zY (zBX (zCq PySem.F.plainAttrs_list PySem.F.slot_list_append PySem.F.type_list_append zA7 (pv 2) (zD (zAv (zD (pv 3) (zD (pv 5) zL))) zL)))) zAN))))
  (zY (zAH (zAJ zEX mSorted (zD (pv 2) zL))))),?_⟩
 refine⟨zk _,fun l hl=>?_⟩;have hwl:wa≠l:=zl hwa hl;have htl:ta≠l:=zl hta hl;have hlt:tys.length=ts.length:=by rw[TA.length,zB]
 refine⟨_,rfl,wa,_,_,_,rfl,rfl,SqT.of (by rw[za hwl];exact hwa),rfl,ta,rfl,⟨_,SqT.of (by rw[za htl];exact hta)⟩,zEM (K:=K) (a:=ta) (xs:=tys)
  (fun i σ H2=>Ex4 fun (va vb vl:Option V)(xs:List V)=>σ=[some (.ref wa),some (.int p),some (.ref l),va,vb,vl]/\zAo H H2/\H2 l=some (.lst xs)/\zAc H2 xs (fd p (ts.take i)))
  ⟨none,none,none,[],rfl,zH hl,zI,trivial⟩ (fun i σ H2 _ ⟨_,_,_,_,_,s2,_⟩=>SqT.of (s2 _ _ hta)) ?turn ?after⟩
 case turn=>
  rintro i y σ H2 hi ⟨va,vb,vl,xs,rfl,s2,hl2,T2⟩;obtain⟨ya,ky,rfl,hky,hya,_⟩:=TA.get hi;rw[zM] at hky;obtain⟨⟨a,b,c⟩,hti,rfl⟩:∃t:T3,ts[i]?=some t/\tl t=ky:=by
   cases e:ts[i]? with
   | none=>rw[e] at hky;cases hky
   | some t=>rw[e] at hky;exact⟨t,rfl,zT hky⟩
  have hil:i<ts.length:=(zF.mp hti).1;have hlen:∀{xs':List V}{H3:Hp},zAc H3 xs' (fd p (ts.take i))->xs'.length<sizeLine:=fun T=>by have e1:=T.length;have e2:=zKK (n:=n) p (ts:=ts.take i) fun t ht=>(G.rng t (List.mem_of_mem_take ht)).2.1;rw[zr] at e2;exact zAh (by have:=G.len;omega)
  have hfd:fd p (ts.take (i+1))=fd p (ts.take i)++((if a=p then [[b,c]] else [])++(if b=p then [[a,c]] else [])):=by
   rw[zy,hti,zGK];show _++((if a=p then [[b,c]] else [])++(if b=p then [[a,c]] else [])++[])=_
   rw[zAG]
  have hab:a<b:=(G.rng _ (zV hti)).2.1;refine⟨ya,_,rfl,SqT.of (s2 _ _ hya),rfl,_,_,rfl,_,_,rfl,_,_,rfl,rfl,?_⟩;have app:∀{x:Int},∀q,H2 q=none->∃xs',(upd (upd H2 q (.tup [.int x,.int c])) l (.lst (xs++[.ref q]))) l=some (.lst xs')/\zAo H (upd (upd H2 q (.tup [.int x,.int c])) l (.lst (xs++[.ref q])))/\zAc (upd (upd H2 q (.tup [.int x,.int c])) l (.lst (xs++[.ref q]))) xs' (fd p (ts.take i)++[[x,c]]):=by intro x q hq;have nlq:l≠q:=zl hl2 hq;refine⟨_,zI,zAV (s2.trans (zH hq)) hl,(T2.keep fun e ys he=>?_).snoc ⟨q,rfl,by rw[za nlq.symm,zI];rfl,by simp⟩⟩;rw[za (zCD he hl2 (by intro z;cases z)),za (zl he hq)];exact he
  refine⟨_,rfl,_,rfl,rfl,_,rfl,?_⟩;refine zC1 (fun h1=>?_) (fun h1=>?_)
  . have e1:a=p:=by have:=of_decide_eq_true h1;injection this
    have n2:¬ b=p:=by omega
    refine⟨_,rfl,.inl ⟨rfl,_,SqL.of hl2⟩,_,rfl,_,rfl,by show 2<=sizeLine;decide,fun q hq=>?_⟩;have nlq:l≠q:=zl hl2 hq;refine⟨l,_,_,rfl,rfl,by rw[za nlq];exact hl2,hlen T2,?_⟩;refine⟨_,rfl,_,rfl,rfl,_,rfl,?_⟩;rw[show decide (V.int b=V.int p)=false from zc fun e=>n2 (by injection e)];refine zCr ?_;obtain⟨xs',g1,g2,g3⟩:=app (x:=b) q hq;refine⟨_,_,_,xs',rfl,g2,g1,?_⟩;rw[hfd,if_pos e1,if_neg n2];exact g3
  . have n1:¬ a=p:=fun e=>by have:=h1;rw[e] at this;exact this (zS rfl)
    refine⟨_,rfl,_,rfl,rfl,_,rfl,?_⟩;refine zC1 (fun h2=>?_) (fun h2=>?_)
    . have e2:b=p:=by have:=of_decide_eq_true h2;injection this
      refine⟨_,rfl,.inl ⟨rfl,_,SqL.of hl2⟩,_,rfl,_,rfl,by show 2<=sizeLine;decide,fun q hq=>?_⟩;have nlq:l≠q:=zl hl2 hq;refine⟨l,_,_,rfl,rfl,by rw[za nlq];exact hl2,hlen T2,?_⟩;obtain⟨xs',g1,g2,g3⟩:=app (x:=a) q hq;refine⟨_,_,_,xs',rfl,g2,g1,?_⟩;rw[hfd,if_neg n1,if_pos e2];exact g3
    . have n2:¬ b=p:=fun e=>by have:=h2;rw[e] at this;exact this (zS rfl)
      refine⟨_,_,_,xs,rfl,s2,hl2,?_⟩;rw[hfd,if_neg n1,if_neg n2,zAG,zAG];exact T2
 case after=>
  rintro σ H2 ⟨va,vb,vl,xs,rfl,s2,hl2,T2⟩;rw[hlt,zh (zK _)] at T2;have e2:=zKK (n:=n) p (ts:=ts) fun t ht=>(G.rng t ht).2.1;refine⟨_,rfl,l,xs,fd p ts,rfl,SqL.of hl2,T2,by have:=G.len;omega,fun l' zs ms hl' T3 hp hrs=>?_⟩;have nll:l'≠l:=fun e=>by rw[e,hl2] at hl';cases hl'
  have hl0:H l'=none:=by
   cases q:H l' with
   | none=>rfl
   | some o=>have:=s2 l' o q;rw[hl'] at this;cases this
  exact k l' zs ms _ (s2.trans (zH hl')) hl0 zI (T3.keep fun e ys he=>zH hl' _ _ he) hp hrs
inductive zHD (vs:List V)(H:Hp)(Q:VK):Prop
 | mk:∀(wa:Addr)(n:Int)(ts:List T3)(one other:Int),(vs=[.ref wa,.int one,.int other])->(zB3 H wa n ts)->(∀(r:V)(H':Hp),zAo H H'->((∃l,Adj ts one other l/\r=.int l)\/((∀l,¬ Adj ts one other l)/\r=.non))->Q r H')->zHD vs H Q
noncomputable def zI2:Sp:=fun vs H Q _=>zHD vs H Q
theorem zJJ:zAE ["web","one","other","place","long"] qAV (defScope zH7):=fS0
variable {fdT:FuncData}
theorem zNg {fT:Addr}(F:Fun K "long_of" "long_of" zH7 f fd') (FT:FuB K mg "ties_at" zH6 fT fdT qAd) (mSorted:mg "sorted"=none):
 zAb P w K mg base CX0 2 f fd' qAV zI2:=by
 have GT:zAb P w K mg base CX0 1 fT fdT qAd zIq:=zJo FT.F mSorted;refine F.okD zJJ fun _ A _ _ H vs Q E hr h=>?_;obtain⟨wa,n,ts,one,other,rfl,W,k⟩:=h;refine⟨_,zR (zA6 PassesOwn.never rfl (zCE (zAI GT hr FT (zD (pv 0) (zD (pv 1) zL)))) (zCS rfl (zAD (zv (i:=3) zJJ.nd rfl (Or.inl rfl)) (zAD (zv (i:=4) zJJ.nd rfl (Or.inl rfl)) zBh)))
  (zY (zA8 (zAA zCK (pv 3) (pv 2) (zAB _)) (zY (zAH (pv 4))) zAN)))
  (zY (zAH zA0)),?_⟩
 refine⟨_,rfl,_,rfl,wa,n,ts,one,rfl,W,fun l zs ms H1 s1 hl0 hl1 T1 hp _=>?_⟩;refine⟨l,rfl,⟨_,SqL.of hl1⟩,zCi (K:=K) (a:=l) (xs:=zs) (fun i σ H2=>Ex2 fun (va vb:Option V)=>σ=[some (.ref wa),some (.int one),some (.int other),va,vb]/\H2=H1/\∀j k,j<i->ms[j]?=some k->hd k≠other)
  ⟨none,none,rfl,rfl,fun j _ h=>by omega⟩ (fun i σ H2 _ ⟨_,_,_,e,_⟩=>e ▸ SqL.of hl1) ?turn ?after⟩
 case turn=>
  rintro i y σ H2 hi ⟨va,vb,rfl,rfl,hno⟩;obtain⟨ya,ky,rfl,hky,hya,_⟩:=T1.get hi;have hm:ky∈fd one ts:=hp.mem_iff.mp (zV hky);obtain⟨z,c,rfl,ha⟩:=zF6.mp hm;refine⟨ya,_,rfl,SqT.of hya,rfl,_,_,rfl,_,_,rfl,rfl,?_⟩;refine⟨_,rfl,_,rfl,rfl,_,rfl,?_⟩;refine zC1 (fun h1=>?_) (fun h1=>?_)
  . have e1:z=other:=by have:=of_decide_eq_true h1;injection this
    subst e1;exact⟨_,rfl,k _ _ s1 (.inl ⟨c,ha,rfl⟩)⟩
  . have n1:z≠other:=fun e=>by have:=h1;rw[e] at this;exact this (zS rfl)
    refine⟨_,_,rfl,rfl,fun j kj hj hkj=>?_⟩;by_cases hji:j<i
    . exact hno j kj hji hkj
    . have e:j=i:=by omega
      subst e;rw[hky] at hkj;cases hkj;exact n1
 case after=>
  rintro σ H2 ⟨va,vb,rfl,rfl,hno⟩;refine k _ _ s1 (.inr ⟨fun c ha=>?_,rfl⟩);have hm:[other,c]∈ms:=hp.mem_iff.mpr (zF6.mpr ⟨other,c,rfl,ha⟩);obtain⟨j,hj,e⟩:=zj hm;exact hno j _ (by have:=T1.length;omega) (by rw[zA hj,e]) rfl
theorem zN1 (a b:Int):eqV (.int a) (.int b)=(a==b):=rfl
theorem zHf {z:Int}:∀{l:List Int},inV (.int z) (l.map V.int)=decide (z∈l)
 | []=>rfl
 | x::r=>by
  show (eqV (.int x) (.int z) || inV (.int z) (r.map V.int))=_;rw[zHf (l:=r),zN1];by_cases h:x=z
  . subst h;simp
  . have h':(x==z)=false:=by simpa using h
    rw[h',Bool.false_or];simp[Ne.symm h]
theorem zGH:∀(l:List Int),(l.map V.int).all zFD=true
 | []=>rfl
 | _::r=>by rw[zAa,List.all_cons,zGH r];rfl
inductive zIp (vs:List V)(H:Hp)(Q:VK):Prop
 | mk:∀(p:Addr)(ys:List V),(vs=[.ref p,.int ys.length])->(H p=some (.tup ys))->(Q (.bl true) H)->zIp vs H Q
noncomputable def zM3:Sp:=fun vs H Q _=>zIp vs H Q
structure zOB (n:Int)(os:List Int):Prop where
 ln:os.length=n.toNat
 nd:os.Nodup
 rng:∀p∈os,0<=p/\p<n
theorem scNum:zAE qAk qAk (defScope zNG):=fS0
theorem scWi:zAE qAT qAT (defScope sWi):=fS0
theorem scPl:zAE qAK qAK (defScope sPl):=fS0
theorem scTof:zAE qAa qAa (defScope sTof):=fS0
theorem zMV (F:Fun K "is_tuple_of" "is_tuple_of" sTof f fd') (mIsi:mg "isinstance"=none) (mTuple:mg "tuple"=none) (mLen:mg "len"=none):zAb P w K mg base CX0 1 f fd' qAa zM3:=by
 refine F.okD scTof fun _ A _ _ H vs Q E hr h=>?_;obtain⟨p,ys,rfl,hp,k⟩:=h;refine⟨_,zY (zAH (zCa (zAJ zCF mIsi (zD (pv 0) (zD (zEo (T := "tuple") mTuple) zL)))
  (zCp (zBb zCK (zAJ zAm mLen (zD (pv 0) zL)) (pv 1) (zAB _))))),?_⟩
 refine⟨_,rfl,_,_,_,true,rfl,.tup hp,rfl,true,rfl,zFC ?_⟩;refine⟨_,rfl,p,_,rfl,.inr (SqT.of hp),_,rfl,rfl,?_⟩;rw[zS rfl];exact k
noncomputable def eV (e:En):List V:=[.int e.h,.int e.l,oV e.u,oV e.d]
noncomputable def zBO (H:Hp)(as:List Addr)(es:List En):Prop:=as.length=es.length/\∀(i:Nat)(a:Addr),as[i]?=some a->∃e,es[i]?=some e/\H a=some (.tup (eV e))
inductive zKm (H:Hp)(p:Addr)(es:List En):Prop
 | mk:∀as:List Addr,(H p=some (.tup (as.map V.ref)))->(zBO H as es)->(es.length<=1000)->zKm H p es
noncomputable def zBR (H:Hp)(p:Addr)(es:List En):Prop:=zKm H p es
variable {as:List Addr}{es:List En}
theorem zBO.keep (h:zBO H as es)(k:∀b ys,H b=some (.tup ys)->H' b=some (.tup ys)):zBO H' as es:=
 ⟨h.1,fun i a ha=>let ⟨e,h1,h2⟩:=h.2 i a ha;⟨e,h1,k _ _ h2⟩⟩
variable {e:En}
theorem zBO.snoc {a:Addr}(h:zBO H as es)(ha:H a=some (.tup (eV e))):zBO H (as++[a]) (es++[e]):=by
 refine⟨by rw[zJ,zJ,h.1];rfl,fun i b hb=>?_⟩;by_cases c:i<as.length
 . rw[zP c] at hb;obtain⟨e',h1,h2⟩:=h.2 i b hb;exact⟨e',by rw[zP (by rw[<-h.1];exact c)];exact h1,h2⟩
 . rw[zO (by omega)] at hb;have hi:i-as.length=0:=by
    cases z:i-as.length with
    | zero=>rfl
    | succ m=>rw[z] at hb;simp at hb
   rw[hi] at hb;have:a=b:=by simpa using hb
   subst this;exact⟨e,by rw[zO (by rw[<-h.1];omega),<-h.1,hi];rfl,ha⟩
theorem zBR.keep {H H':Hp}{p:Addr}{es:List En}(h:zBR H p es)(k:∀b ys,H b=some (.tup ys)->H' b=some (.tup ys)):zBR H' p es:=
 let ⟨as,h1,h2,h3⟩:=h;⟨as,k _ _ h1,h2.keep k,h3⟩
theorem zBR.same (h:zBR H p es)(k:zAo H H'):zBR H' p es:=h.keep fun b ys e=>k _ _ e
theorem zBO.at {H:Hp}{as:List Addr}{es:List En}(h:zBO H as es){i:Nat}{v:V}(hv:(as.map V.ref)[i]?=some v):∃a e,v=.ref a/\es[i]?=some e/\H a=some (.tup (eV e)):=by
 rw[zM] at hv;cases z:as[i]? with
 | none=>rw[z] at hv;cases hv
 | some a=>rw[z] at hv;obtain⟨e,h1,h2⟩:=h.2 i a z;exact⟨a,e,(zT hv).symm,h1,h2⟩
inductive zIw (vs:List V)(H:Hp)(Q:VK):Prop
 | mk:∀(p:Addr)(es:List En)(e:En)(r:List En),(vs=[.ref p])->(zBR H p es)->(es.filter (fun e=>decide (e.l=0))=e::r)->(∀H',zAo H H'->Q (.int e.h) H')->zIw vs H Q
noncomputable def zM5:Sp:=fun vs H Q _=>zIw vs H Q
inductive zIr (vs:List V)(H:Hp)(Q:VK):Prop
 | mk:∀(p q:Addr)(es fs:List En),(vs=[.ref p,.ref q])->(zBR H p es)->(zBR H q fs)->(Hub fs)->(∀(r:Addr)(lm:Option (Int×Int))(H':Hp),zAo H H'->zDi (Cd es fs) lm->H' r=some (.tup [oV (lm.map (·.1)),oV (lm.map (·.2))])->Q (.ref r) H')->zIr vs H Q
noncomputable def zM4:Sp:=fun vs H Q _=>zIr vs H Q
inductive zG5 (vs:List V)(H:Hp)(Q:VK):Prop
 | mk:∀(p q:Addr)(es fs:List En),(vs=[.ref p,.ref q])->(zBR H p es)->(zBR H q fs)->(Hub fs)->(∀(lm:Option (Int×Int))(H':Hp),zAo H H'->zDi (Cd es fs) lm->Q (oV (lm.map (·.1))) H')->zG5 vs H Q
noncomputable def zFY:Sp:=fun vs H Q _=>zG5 vs H Q
inductive zI9 (vs:List V)(H:Hp)(Q:VK):Prop
 | mk:∀(p q:Addr)(es fs:List En),(vs=[.ref p,.ref q])->(zBR H p es)->(zBR H q fs)->(Hub fs)->(∀(lm:Option (Int×Int))(H':Hp),zAo H H'->zDi (Cd es fs) lm->Q (oV (lm.map (·.2))) H')->zI9 vs H Q
noncomputable def spHub:Sp:=fun vs H Q _=>zI9 vs H Q
inductive zJD (vs:List V)(H:Hp)(Q:VK):Prop
 | mk:∀(p:Addr)(es:List En)(x:Int),(vs=[.ref p,.int x])->(zBR H p es)->((zEb es x=none->Q .non H))->((∀e a,zEb es x=some e->H a=some (.tup (eV e))->Q (.ref a) H))->zJD vs H Q
noncomputable def zM9:Sp:=fun vs H Q _=>zJD vs H Q
inductive zG8 (vs:List V)(H:Hp)(Q:VK):Prop
 | mk:∀(p q:Addr)(es fs:List En)(e f:En)(r r':List En),(vs=[.ref p,.ref q])->(zBR H p es)->(zBR H q fs)->(Hub es)->(Hub fs)->(es.filter (fun e=>decide (e.l=0))=e::r)->(fs.filter (fun e=>decide (e.l=0))=f::r')->(∀(lm:Option (Int×Int))(H':Hp),zAo H H'->zDi (Cd es fs) lm->Q (oV (zIl es fs e.h f.h lm)) H')->zG8 vs H Q
noncomputable def zL6:Sp:=fun vs H Q _=>zG8 vs H Q
theorem zAS {n:Nat}(h:n<=1000):n<sizeLine:=zAn h (by decide)
theorem zDl {b:Int}:decide (V.int a=V.int b)=decide (a=b):=by
 by_cases h:a=b
 . rw[zS h,zS (congrArg V.int h)]
 . rw[zc h,zc fun z=>h (V.int.inj z)]
theorem scOwn:zAE qAj qAj (defScope sOwn):=fS0
theorem zMX (F:Fun K "own_place" "own_place" sOwn f fd'):zAb P w K mg base CX0 1 f fd' qAj zM5:=by
 refine F.okD scOwn fun _ A _ _ H vs Q E hr h=>?_;obtain⟨p,es,e,r,rfl,L,hf,k⟩:=h;obtain⟨as,hp,EA,hl⟩:=id L;refine⟨_,zY (zAH (zu zAC (zBi (own:=qAi) (cn:=[]) (ci:=[]) rfl (csc rfl rfl) trivial rfl (zB9 (pv 0))
  (fun _ _ _ _=>zGe (n:=4) rfl (zAD (zCJ) (zAD (zv (i:=1) (zDk rfl) rfl (Or.inl rfl)) (zAD (zv (i:=2) (zDk rfl) rfl (Or.inl rfl)) (zAD (zv (i:=3) (zDk rfl) rfl (Or.inl rfl)) zBh)))))
  (fun _ _ _ _=>zCt (zAA zCK (pv 1) zf (zAB _))) (fun _ _ _ _=>pv 0)) zf)),?_⟩
 refine⟨_,rfl,p,rfl,⟨_,SqT.of hp⟩,[],rfl,fun D hD=>?_⟩;refine zBk (a:=p) (xs:=as.map V.ref) (fun i ys H4=>ys=((es.take i).filter fun e=>decide (e.l=0)).map (fun e=>V.int e.h)/\H4=upd H D (.lst ys)) ⟨rfl,rfl⟩ (fun i ys H4 h=>?_) (fun i ys H4 h=>?_) (fun i v ys H4 hv h=>?_) (fun ys H4 h=>?_)
 . obtain⟨_,rfl⟩:=h;exact SqT.of (by rw[za (zl hp hD)];exact hp)
 . obtain⟨rfl,_⟩:=h;rw[zB];exact zAn (zAX _ _) (zAS (by rw[zr];omega))
 . obtain⟨rfl,rfl⟩:=h;obtain⟨a,x,rfl,hx,ha⟩:=EA.at hv;refine⟨a,_,rfl,SqT.of (by rw[za (zl ha hD)];exact ha),rfl,_,_,rfl,_,_,rfl,_,_,rfl,_,_,rfl,rfl,⟨rfl,rfl⟩,?_⟩;refine⟨_,rfl,rfl,_,rfl,?_⟩;rw[zDl];have st:=zGJ (fun e:En=>decide (e.l=0)) hx;refine zC1 (fun c=>?_) (fun c=>?_)
   . refine⟨_,rfl,zI,?_,zCd⟩;rw[st,if_pos c,zQ];rfl
   . refine⟨?_,rfl⟩;rw[st,if_neg c,zAG]
 . obtain⟨rfl,rfl⟩:=h;rw[zB,EA.1,zh (zK _),hf];exact⟨D,_,_,.int e.h,rfl,rfl,SqL.of zI,zBQ (by decide) rfl,k _ (zH hD)⟩
theorem scEnt:zAE ["label","hub","entry"] qAe (defScope sEnt):=fS0
theorem zMa (F:Fun K "entry_of" "entry_of" sEnt f fd'):zAb P w K mg base CX0 1 f fd' qAe zM9:=by
 refine F.okD scEnt fun _ A _ _ H vs Q E hr h=>?_;obtain⟨p,es,x,rfl,L,kn,ks⟩:=h;obtain⟨as,hp,EA,hl⟩:=id L;refine⟨_,zR (zA6 PassesOwn.never rfl (zB9 (pv 0)) (zv (i:=2) scEnt.nd rfl (Or.inl rfl))
  (zY (zA8 (zAA zCK (zu zAK (pv 2) zf) (pv 1) (zAB _)) (zY (zAH (pv 2))) zAN)))
  (zY (zAH zA0)),?_⟩
 refine⟨_,rfl,p,rfl,⟨_,SqT.of hp⟩,zEM (K:=K) (a:=p) (xs:=as.map V.ref) (fun i σ H2=>∃va:Option V,σ=[some (.ref p),some (.int x),va]/\H2=H/\∀e∈es.take i,e.h≠x)
  ⟨none,rfl,rfl,fun e he=>by simp at he⟩ (fun i σ H2 _ ⟨_,_,e,_⟩=>e ▸ SqT.of hp) ?turn ?after⟩
 case turn=>
  rintro i y σ H2 hi ⟨va,rfl,rfl,hno⟩;obtain⟨a,e,rfl,he,ha⟩:=EA.at hi;refine⟨_,rfl,a,_,_,.int e.h,rfl,rfl,SqT.of ha,rfl,_,rfl,rfl,_,rfl,?_⟩;rw[zDl];refine zC1 (fun c=>?_) (fun c=>?_)
  . have c':e.h=x:=of_decide_eq_true c;refine⟨_,rfl,ks e a ?_ ha⟩;unfold zEb;have hlt:=(zF.mp he).1;rw[<-List.take_append_drop i es,List.find?_append,List.find?_eq_none.mpr (fun f hf=>by simpa using hno f hf)];rw[zAz hlt,(zF.mp he).2,zBr,zS c'];rfl
  . refine⟨_,rfl,rfl,fun f hf=>?_⟩;rw[zy,he] at hf;rcases zm.mp hf with z | z
    . exact hno f z
    . have:f=e:=by simpa using z
      subst this;exact fun q=>c (zS q)
 case after=>
  rintro σ H2 ⟨va,rfl,rfl,hno⟩;refine kn (zGM.mpr fun e he=>hno e ?_);rw[zB,EA.1,zh (zK _)];exact he
theorem zNE:zAE ["one","other","longs","sums"] qAF (defScope sSum):=fS0
theorem zMW (F:Fun K "least_sum" "least_sum" sSum f fd') (mDict:mg "dict"=none) (mMin:mg "min"=none):zAb P w K mg base CX0 1 f fd' qAF zM4:=by
 refine F.okD zNE fun _ A _ _ H vs Q E hr h=>?_;obtain⟨p,q,es,fs,rfl,L1,L2',hF,k⟩:=h;obtain⟨as,hp,EA,hl⟩:=id L1;obtain⟨bs,hq,EB,hl2⟩:=id L2';have hu:=zGn hr;refine⟨_,zR (zC4 (i:=2) zNE.nd rfl (Or.inr rfl) (zAr (zDZ rfl) mDict (zD
  (zBi (own:=qAi) (cn:=[]) (ci:=[]) rfl (csc rfl rfl) trivial rfl (zB9 (pv 1))
   (fun _ _ _ _=>zGe (n:=4) rfl (zAD (zCJ) (zAD (zv (i:=1) (zDk rfl) rfl (Or.inl rfl)) (zAD (zv (i:=2) (zDk rfl) rfl (Or.inl rfl)) (zAD (zv (i:=3) (zDk rfl) rfl (Or.inl rfl)) zBh)))))
   (fun _ _ _ _=>zBP) (fun _ _ _ _=>zAv (zD (pv 0) (zD (pv 1) zL)))) zL)))
  (zR (zCf (i:=3) (own:=qAi) (cn:=["longs"]) (ci:=[2]) zNE.nd rfl (Or.inl rfl) rfl (csc rfl rfl) ⟨rfl,rfl,rfl,trivial⟩ rfl (zB9 (pv 0))
   (fun _ _ _ _=>zGe (n:=4) rfl (zAD (zCJ) (zAD (zv (i:=1) (zDk rfl) rfl (Or.inl rfl)) (zAD (zv (i:=2) (zDk rfl) rfl (Or.inl rfl)) (zAD (zv (i:=3) (zDk rfl) rfl (Or.inl rfl)) zBh)))))
   (fun _ _ _ _=>zCt (zFx (zJk hu (pv 0) (pv 4)))) (fun _ _ _ _=>zAv (zD (zAw zBs (pv 1) (zCg hu (pv 4) (pv 0) (fun _ _=>rfl))) (zD (pv 0) zL))))
  (zY (zAH (zNT rfl hu (by rfl) mMin (zD (pv 3) zL) (zAv (zD zA0 (zD zA0 zL))))))),?_⟩
 refine⟨_,rfl,q,rfl,⟨_,SqT.of hq⟩,[],rfl,fun D hD=>?_⟩;refine zBk (a:=q) (xs:=bs.map V.ref) (fun i ys H4=>i<=fs.length/\ys.length=i/\(∀(j:Nat)(y:V),ys[j]?=some y->∃c e,y=.ref c/\fs[j]?=some e/\H4 c=some (.tup [.int e.h,.int e.l]))/\zAo H H4/\H4 D=some (.lst ys)) ⟨zk _,rfl,fun j y z=>by simp at z,zH hD,zI⟩ (fun i ys H4 h=>?_) (fun i ys H4 h=>?_) (fun i v ys H4 hv h=>?_) (fun ys H4 h=>?_)
 . exact SqT.of (h.2.2.2.1 _ _ hq)
 . exact zAS (by have:=h.1;have:=h.2.1;omega)
 . obtain⟨hi,hyl,hys,s4,hD4⟩:=h;obtain⟨a,x,rfl,hx,ha⟩:=EB.at hv;refine⟨a,_,rfl,SqT.of (s4 _ _ ha),rfl,_,_,rfl,_,_,rfl,_,_,rfl,_,_,rfl,rfl,⟨rfl,rfl⟩,?_⟩;refine zFN ?_;refine⟨_,rfl,_,rfl,by show 2<=sizeLine;decide,fun c hc=>?_⟩;have nDc:D≠c:=zl hD4 hc;refine⟨zH hc _ _ hD4,(zF.mp hx).1,by rw[zJ,hyl];rfl,fun j y hy=>?_,zAV (s4.trans (zH hc)) hD,zI⟩;by_cases cj:j<i
   . rw[zP (by omega)] at hy;obtain⟨c',e,h1,h2,h3⟩:=hys j y hy;refine⟨c',e,h1,h2,?_⟩;rw[za (zCD h3 hD4 (by intro z;cases z))];exact zH hc _ _ h3
   . have ej:j=i:=by have:=(zF.mp hy).1;rw[zJ,hyl] at this;simp at this;omega
     subst ej;rw[zO (by omega),hyl,zBG] at hy;have ey:V.ref c=y:=by simpa using hy
     subst ey;exact⟨c,x,rfl,hx,by rw[za (Ne.symm nDc)];exact zI⟩
 . obtain⟨_,hyl,hys,s4,hD4⟩:=h;rw[zB,EB.1] at hyl;refine⟨D,ys,fs.map fun e=>(Sum.inl e.h,V.int e.l),rfl,SqL.of hD4,⟨by rw[zB,hyl],fun j y hy=>?_⟩,fun dd hdd=>?_⟩
   . obtain⟨c,e,h1,h2,h3⟩:=hys j y hy;exact⟨c,Sum.inl e.h,.int e.l,h1,h3,by rw[zM,h2];rfl⟩
   have hnd:((fs.map fun e=>((Sum.inl e.h:Key),V.int e.l)).map (·.1)).Nodup:=by rw[zAd,List.Nodup,zAt];exact hF.imp fun h z=>by injection z with z;omega
   rw[zFw hnd];have hval:∀x:Int,zCL (fs.map fun e=>((Sum.inl e.h:Key),V.int e.l)) (Sum.inl x)=(zEb fs x).map fun e=>V.int e.l:=fun x=>by
    unfold zCL zEb;rw[List.find?_map,Option.map_map];have:((fun kv:Key×V=>decide (kv.1=Sum.inl x))∘fun e:En=>((Sum.inl e.h:Key),V.int e.l))=fun e:En=>decide (e.h=x):=by
     funext e;show decide ((Sum.inl e.h:Key)=Sum.inl x)=_;by_cases c:e.h=x
     . rw[zS c,zS (by rw[c])]
     . rw[zc c,zc (by intro z;injection z with z;exact c z)]
    rw[this];rfl
   have s5:zAo H (upd H4 dd (.dK (fs.map fun e=>(Sum.inl e.h,V.int e.l)))):=s4.trans (zH hdd);have hd5:(upd H4 dd (.dK (fs.map fun e=>((Sum.inl e.h:Key),V.int e.l)))) dd=some (.dK (fs.map fun e=>(Sum.inl e.h,V.int e.l))):=zI;generalize upd H4 dd (.dK (fs.map fun e=>((Sum.inl e.h:Key),V.int e.l)))=H5 at s5 hd5 ⊢;generalize (fs.map fun e=>((Sum.inl e.h:Key),V.int e.l))=kvs at hval hd5;refine⟨_,rfl,p,rfl,⟨_,SqT.of (s5 _ _ hp)⟩,[.ref dd],rfl,fun D2 hD2=>?_⟩;refine zBk (a:=p) (xs:=as.map V.ref) (fun i ys H6=>zAc H6 ys (((es.take i).filterMap (cOf fs)).map fun c=>[c.1,c.2])/\zAo H5 H6/\H6 D2=some (.lst ys)) ⟨trivial,zH hD2,zI⟩ (fun i ys H6 h=>?_) (fun i ys H6 h=>?_) (fun i v ys H6 hv h=>?_) (fun ys H6 h=>?_)
   . exact SqT.of (h.2.1 _ _ (s5 _ _ hp))
   . have:=h.1.length;rw[this,zB];exact zAn (List.length_filterMap_le _ _) (zAS (by rw[zr];omega))
   . obtain⟨T6,s6,hD6⟩:=h;obtain⟨a,x,rfl,hx,ha⟩:=EA.at hv;refine⟨a,_,rfl,SqT.of (s6 _ _ (s5 _ _ ha)),rfl,_,_,rfl,_,_,rfl,_,_,rfl,_,_,rfl,rfl,⟨rfl,rfl⟩,?_⟩;refine⟨_,rfl,_,rfl,dd,_,rfl,zDj.k (k:=Sum.inl x.h) (s6 _ _ hd5),_,rfl,?_⟩;have st:=zN0 (cOf fs) hx;have hv2:=hval x.h;cases e:zEb fs x.h with
     | none=>
      rw[e] at hv2;rw[hv2];refine zCr ?_;have ec:cOf fs x=none:=by unfold cOf;rw[e];rfl
      refine⟨?_,s6,hD6⟩;rw[st,ec];simpa using T6
     | some g=>
      rw[e] at hv2;have hv3:zCL kvs (Sum.inl x.h)=some (.int g.l):=hv2;rw[hv3];refine zFC ?_;have ec:cOf fs x=some (x.l+g.l,x.h):=by unfold cOf;rw[e];rfl
      refine⟨_,rfl,_,rfl,_,rfl,dd,.int g.l,rfl,hv3 ▸ zDj.k (k:=Sum.inl x.h) (s6 _ _ hd5),_,_,rfl,rfl,_,rfl,by show 2<=sizeLine;decide,fun c hc=>?_⟩;refine⟨zH hc _ _ hD6,?_,zAV (s6.trans (zH hc)) hD2,zI⟩;rw[st,ec,zQ];refine zAc.snoc (T6.keep fun b zs e=>?_) ⟨c,rfl,?_,by intro z;cases z⟩
      . rw[za (zCD e hD6 (by intro z;cases z))];exact zH hc _ _ e
      . rw[za (Ne.symm (zl hD6 hc))];exact zI
   . obtain⟨T6,s6,hD6⟩:=h;rw[zB,EA.1,zh (zK _)] at T6;have hmem:=fun c=>zKg (es:=es) hF c;generalize es.filterMap (cOf fs)=cs at T6 hmem;refine⟨_,rfl,_,rfl,by show 2<=sizeLine;decide,fun n hn=>?_⟩;have s7:zAo H (upd H6 n (.tup [.non,.non])):=(s5.trans s6).trans (zH hn);refine⟨D2,ys,rfl,.inl (SqL.of (zH hn _ _ hD6)),fun e0=>?_,.inl ⟨_,T6.keep fun b zs e=>zH hn _ _ e,fun i y kk hy hk hmin=>?_⟩⟩
     . refine k n none _ s7 (fun c z=>?_) zI;have:cs=[]:=by have:=T6.length;rw[e0,zB] at this;exact List.length_eq_zero_iff.mp this.symm
       rw[<-hmem,this] at z;simp at z
     . obtain⟨a,k',e1,e2,e3,_⟩:=T6.get hy;rw[hk] at e2;cases e2;rw[zM] at hk;cases ec:cs[i]? with
       | none=>rw[ec] at hk;cases hk
       | some c=>
        rw[ec] at hk;have ek:[c.1,c.2]=kk:=zT hk;subst ek e1;refine k a (some c) _ s7 ⟨(hmem c).mp (zV ec),fun c' hc'=>?_⟩ (zH hn _ _ e3);have:=hmin [c'.1,c'.2] (zo.mpr ⟨c',(hmem c').mpr hc',rfl⟩);rw[HT.lexLt_cons] at this;by_cases q:c'.1=c.1
        . rw[if_pos q,HT.lexLt_cons] at this;by_cases q2:c'.2=c.2
          . exact .inr ⟨q.symm,by omega⟩
          . rw[if_neg q2] at this;have:=of_decide_eq_false this;exact .inr ⟨q.symm,by omega⟩
        . rw[if_neg q] at this;have:=of_decide_eq_false this;exact .inl (by omega)
theorem scTold:zAE qAF qAF (defScope zFj):=fS0
variable {fS:Addr}{fdS:FuncData}
theorem zNb (F:Fun K "told" "told" zFj f fd') (FS:FuB K mg "least_sum" sSum fS fdS qAF) (mDict:mg "dict"=none) (mMin:mg "min"=none):zAb P w K mg base CX0 2 f fd' qAF zFY:=by have GS:zAb P w K mg base CX0 1 fS fdS qAF zM4:=zMW FS.F mDict mMin;refine F.okD scTold fun _ A _ _ H vs Q E hr h=>?_;obtain⟨p,q,es,fs,rfl,L1,L2',hF,k⟩:=h;refine⟨_,zY (zAH (zu zAK (zAI GS hr FS (zD (pv 0) (zD (pv 1) zL))) zf)),?_⟩;refine⟨_,rfl,_,rfl,p,q,es,fs,rfl,L1,L2',hF,fun r lm H' s1 hm hr'=>?_⟩;exact⟨r,_,_,_,rfl,rfl,SqT.of hr',rfl,k lm H' s1 hm⟩
theorem scHub:zAE qAF qAF (defScope sHub):=fS0
theorem ok_hub (F:Fun K "told_hub" "told_hub" sHub f fd') (FS:FuB K mg "least_sum" sSum fS fdS qAF) (mDict:mg "dict"=none) (mMin:mg "min"=none):zAb P w K mg base CX0 2 f fd' qAF spHub:=by have GS:zAb P w K mg base CX0 1 fS fdS qAF zM4:=zMW FS.F mDict mMin;refine F.okD scHub fun _ A _ _ H vs Q E hr h=>?_;obtain⟨p,q,es,fs,rfl,L1,L2',hF,k⟩:=h;refine⟨_,zY (zAH (zu zAK (zAI GS hr FS (zD (pv 0) (zD (pv 1) zL))) zf)),?_⟩;refine⟨_,rfl,_,rfl,p,q,es,fs,rfl,L1,L2',hF,fun r lm H' s1 hm hr'=>?_⟩;exact⟨r,_,_,_,rfl,rfl,SqT.of hr',rfl,k lm H' s1 hm⟩
variable {o:Option Int}
theorem zJt:decide (oV o=V.non)=o.isNone:=by
 cases o with
 | none=>exact zS rfl
 | some a=>exact zc (by intro z;cases z)
variable {x:Int}
theorem zBR.ent (L:zBR H p es)(hs:Hub es)(h:zEb es x=some e):∃a,H a=some (.tup (eV e)):=by
 obtain⟨as,_,EA,_⟩:=L;obtain⟨hm,_⟩:=(zCA hs).mp h;obtain⟨i,hi,ee⟩:=zj hm;have hi':i<as.length:=by rw[EA.1];exact hi
 obtain⟨e',h1,h2⟩:=EA.2 i as[i] (zA hi');rw[zA hi,ee] at h1;cases h1;exact⟨_,h2⟩
theorem zMH:zAE ["one","other","hub"] qAF (defScope zJM):=fS0
variable {fO fE:Addr}{fdO fdE:FuncData}
theorem zNd {fH:Addr}{fdH:FuncData}(F:Fun K "next_step" "next_step" zJM f fd') (FH:FuB K mg "told_hub" sHub fH fdH qAF) (GH:zAb P w K mg base CX0 2 fH fdH qAF spHub)
 (FO:FuB K mg "own_place" sOwn fO fdO qAj) (FE:FuB K mg "entry_of" sEnt fE fdE qAe):zAb P w K mg base CX0 3 f fd' qAF zL6:=by
 have GO:zAb P w K mg base CX0 2 fO fdO qAj zM5:=(zMX FO.F).mono (by decide);have GE:zAb P w K mg base CX0 2 fE fdE qAe zM9:=(zMa FE.F).mono (by decide);refine F.okD zMH fun _ A _ _ H vs Q E hr h=>?_;obtain⟨p,q,es,fs,e,f,r,r',rfl,L1,L2',hE,hF,fe,ff,k⟩:=h;refine⟨_,zR (zAi (i:=2) zMH.nd (zAI GH hr FH (zD (pv 0) (zD (pv 1) zL))))
  (zR (zA8 (PW.pt (zEe (zAA zCc (pv 2) zA0 (zAB _)) (zDJ (zAA zCK (zAI GO hr FO (zD (pv 0) zL)) (zAI GO hr FO (zD (pv 1) zL)) (zAB _))))) (zY (zAH zA0)) zAN)
  (zR (zA8 (zAA zCK (pv 2) (zAI GO hr FO (zD (pv 0) zL)) (zAB _)) (zY (zAH (zu zAK (zAI GE hr FE (zD (pv 1) (zD (pv 2) zL))) zf))) zAN)
  (zY (zAH (zu zAK (zAI GE hr FE (zD (pv 0) (zD (pv 2) zL))) zf))))),?_⟩
 refine⟨_,rfl,_,rfl,p,q,es,fs,rfl,L1,L2',hF,fun lm H1 s1 hm=>?_⟩;refine⟨_,rfl,rfl,_,rfl,?_⟩;rw[zJt];cases lm with
 | none=>exact ifT rfl (ifT rfl (k none H1 s1 hm))
 | some c=>
  refine ifF rfl ?_;refine⟨_,rfl,p,es,e,r,rfl,L1.same s1,fe,fun H2 s2=>?_⟩;refine⟨_,rfl,q,fs,f,r',rfl,L2'.same (s1.trans s2),ff,fun H3 s3=>?_⟩;have s13:zAo H H3:=(s1.trans s2).trans s3;refine⟨rfl,_,rfl,?_⟩;rw[zDl];refine zC1 (fun z=>?_) (fun z=>?_)
  . have z':e.h=f.h:=of_decide_eq_true z;have:=k (some c) H3 s13 hm;rw[show zIl es fs e.h f.h (some c)=none by show (if e.h=f.h then _ else _)=_;rw[if_pos z']] at this
    exact this
  . have z':¬ e.h=f.h:=fun y=>z (zS y);refine⟨_,rfl,_,rfl,p,es,e,r,rfl,L1.same s13,fe,fun H4 s4=>?_⟩;have s14:zAo H H4:=s13.trans s4;have kk:=k (some c) H4 s14 hm;have e0:zIl es fs e.h f.h (some c)=if c.2=e.h then (zEb fs c.2).bind (·.d) else (zEb es c.2).bind (·.u):=by show (if e.h=f.h then _ else _)=_;rw[if_neg z']
    rw[e0] at kk;obtain⟨x,hx,y,hy,hyx,rfl⟩:=hm.1;refine⟨rfl,_,rfl,?_⟩;rw[show decide ((oV (Option.map (fun x=>x.2) (some (x.l+y.l,x.h))))=V.int e.h)=decide (x.h=e.h) from zDl];have h1:zEb es x.h=some x:=(zCA hE).mpr ⟨hx,rfl⟩;have h2:zEb fs x.h=some y:=(zCA hF).mpr ⟨hy,hyx⟩;refine zC1 (fun c1=>?_) (fun c1=>?_)
    . have c1':x.h=e.h:=of_decide_eq_true c1;obtain⟨a,ha⟩:=(L2'.same s14).ent hF h2;refine⟨_,rfl,_,rfl,q,fs,x.h,rfl,L2'.same s14,fun n=>?_,fun g b hg hb=>?_⟩
      . rw[h2] at n;cases n
      . rw[h2] at hg;cases hg;rw[if_pos c1',h2] at kk;exact⟨b,_,_,oV y.d,rfl,rfl,SqT.of hb,rfl,kk⟩
    . have c1':¬ x.h=e.h:=fun y=>c1 (zS y);refine⟨_,rfl,_,rfl,p,es,x.h,rfl,L1.same s14,fun n=>?_,fun g b hg hb=>?_⟩
      . rw[h1] at n;cases n
      . rw[h1] at hg;cases hg;rw[if_neg c1',h1] at kk;exact⟨b,_,_,oV x.u,rfl,rfl,SqT.of hb,rfl,kk⟩
noncomputable def zFM (ts:List T3)(rk:Int->Int)(h v:Int):Prop:=(∃d,WM.IsD ts h v d)/\∀p,Btw ts h v p->rk h<=rk p
noncomputable def zKt (P:Int->Prop):Option Int->Prop
 | none=>∀p,¬ P p
 | some m=>P m/\∀p,P p->m<=p
structure zLq (ts:List T3)(n:Int)(rk:Int->Int)(v:Int)(e:En):Prop where
 rng:0<=e.h/\e.h<n
 hub:zFM ts rk e.h v
 len:WM.IsD ts v e.h e.l
 up:zKt (Nxt ts v e.h) e.u
 dn:zKt (Nxt ts e.h v) e.d
structure zLo (ts:List T3)(n:Int)(rk:Int->Int)(v:Int)(es:List En):Prop where
 hub:Hub es
 ent:∀e∈es,zLq ts n rk v e
 all:∀h,0<=h->h<n->zFM ts rk h v->∃e∈es,e.h=h
 len:es.length<=24
inductive zHs (H:Hp)(l:Addr)(ess:List (List En)):Prop
 | mk:∀as:List Addr,(H l=some (.tup (as.map V.ref)))->(as.length=ess.length)->(∀(i:Nat)(a:Addr),as[i]?=some a->∃es,ess[i]?=some es/\zBR H a es)->zHs H l ess
noncomputable def zA4 (H:Hp)(l:Addr)(ess:List (List En)):Prop:=zHs H l ess
theorem zA4.keep {H H':Hp}{l:Addr}{ess:List (List En)}(h:zA4 H l ess)(k:∀b ys,H b=some (.tup ys)->H' b=some (.tup ys)):zA4 H' l ess:=
 let ⟨as,h1,h2,h3⟩:=h;⟨as,k _ _ h1,h2,fun i a ha=>let ⟨es,e1,e2⟩:=h3 i a ha;⟨es,e1,e2.keep k⟩⟩
variable {y:Int}
theorem zJV {M:lLO}(R:Rows ts n M){d:Int}(x0:0<=x)(x1:x<n)(y0:0<=y)(y1:y<n)(h:WM.IsD ts x y d):0<=d/\d<=2376:=by
 have L:=R.2 x x0 x1;have l:=L.len y y0 y1;cases e:fnl (M.getD x.toNat []) y with
 | none=>rw[e] at l;exact absurd h.1 (l d)
 | some d'=>
  rw[e] at l;have ed:d'=d:=WM.IsD.uniq l h;subst ed;refine L.bd (some d') ?_ d' rfl;unfold fnl at e;rw[if_pos y0,zE] at e;cases e2:(M.getD x.toNat [])[y.toNat]? with
  | none=>rw[e2] at e;cases e
  | some o=>rw[e2] at e;have eo:o=some d':=e;rw[<-eo];exact zV e2
noncomputable def zMv (n:Int)(os:List Int)(rk:Int->Int):Prop:=∀p,0<=p->p<n->0<=rk p/\os[(rk p).toNat]?=some p
noncomputable def zEZ (ts:List T3)(n:Int)(rk:Int->Int)(ess:List (List En)):Prop:=ess.length=n.toNat/\∀(i:Nat)(es:List En),ess[i]?=some es->zLo ts n rk i es
variable {os:List Int}
theorem zOB.mem (O:zOB n os){p:Int}(h0:0<=p)(h1:p<n):p∈os:=by
 apply zBj;intro hn;have:=zEB (n:=n.toNat) (l:=p::os) (zBI.mpr ⟨hn,O.nd⟩) fun x hx=>by
  rcases ze.mp hx with rfl | hx
  . omega
  . have:=O.rng x hx;omega
 rw[zt,O.ln] at this;omega
structure zLn (ts:List T3)(n:Int)(ess:List (List En)):Prop where
 ln:ess.length=n.toNat
 lg:∀(i:Nat)(es:List En),ess[i]?=some es->LG ts n i es
 cov:∀(i j:Nat)(es fs:List En),ess[i]?=some es->ess[j]?=some fs->CovP ts i j es fs
theorem zKt.some_of {P:Int->Prop}(h:zKt P o){p:Int}(hp:P p):∃m,o=some m/\P m:=by
 cases o with
 | none=>exact absurd hp (h p)
 | some m=>exact⟨m,rfl,h.1⟩
variable {rk:Int->Int}{v:Int}
theorem zLo.lg (G:GW n ts)(L:zLo ts n rk v es)(v0:0<=v)(v1:v<n):LG ts n v es:=by
 refine⟨L.hub,fun e he=>?_,?_⟩
 . have E:=L.ent e he;refine⟨E.rng,E.len,fun hne=>?_,fun hne=>?_⟩
   . obtain⟨p,hp⟩:=Nxt.exists G E.len (Ne.symm hne);exact E.up.some_of hp
   . obtain⟨p,hp⟩:=Nxt.exists G E.len.symm hne;exact E.dn.some_of hp
 . refine L.all v v0 v1 ⟨⟨0,zBu G v⟩,fun p hp=>?_⟩;obtain⟨a,b,ia,ib,iab⟩:=hp;have e0:a+b=0:=iab.uniq (zBu G v);have:=ia.1.nn G;have:=ib.1.nn G;have:a=0:=by omega
   rw[<-(zCH G ia).mp this];exact zBE _
variable {ess:List (List En)}
theorem zEZ.good (G:GW n ts)(R:zMv n os rk)(L:zEZ ts n rk ess):zLn ts n ess:=by
 have hln:=L.1;have inr:∀(i:Nat)(es:List En),ess[i]?=some es->(0:Int)<=i/\(i:Int)<n:=fun i es h=>by have:=(zF.mp h).1;omega
 refine⟨L.1,fun i es h=>(L.2 i es h).lg G (inr i es h).1 (inr i es h).2,fun i j es fs hi hj d hd=>?_⟩;obtain⟨p,hp,hmin⟩:=zMe (P:=Btw ts i j) rk (rk (i:Int)).toNat i (Btw.self G hd) (zK _);have i01:=inr i es hi;obtain⟨a,b,ia,ib,iab⟩:=id hp;have prng:=ia.1.in_ G i01.1 i01.2;have le:∀q,Btw ts i j q->rk p<=rk q:=fun q hq=>by obtain⟨a',b',ia',_⟩:=id hq;have qr:=ia'.1.in_ G i01.1 i01.2;have h1:=hmin q hq;have h2:=(R p prng.1 prng.2).1;have h3:=(R q qr.1 qr.2).1;omega
 refine⟨p,hp,(L.2 i es hi).all p prng.1 prng.2 ⟨⟨a,ia.symm⟩,fun q hq=>le q (hp.trans hq.symm)⟩,(L.2 j fs hj).all p prng.1 prng.2 ⟨⟨b,ib⟩,fun q hq=>le q (hp.symm.trans hq.symm).symm⟩⟩
theorem zGE (q:Nat):lowTo (q+1)=lowTo q++[(q:Int)]:=by unfold lowTo;rw[List.range_succ,zQ];rfl
theorem zDu (q:Nat):(lowTo q).length=q:=by unfold lowTo;rw[zB,zAP]
theorem zEP:∀(l:List Int)(k:Nat),(l.map V.int).eraseIdx k=(l.eraseIdx k).map V.int
 | [],_=>rfl
 | _::_,0=>rfl
 | x::r,k+1=>by show V.int x::(r.map V.int).eraseIdx k=V.int x::(r.eraseIdx k).map V.int;rw[zEP r k]
theorem zDX:∀{l:List Int}{k:Nat}(h:k<l.length),(l[k]::l.eraseIdx k).Perm l
 | [],_,h=>absurd h (zBH _)
 | _::_,0,_=>List.Perm.refl _
 | x::r,k+1,h=>by
  have hk:k<r.length:=by simpa using h
  show (r[k]::x::r.eraseIdx k).Perm (x::r);exact (List.Perm.swap x r[k] _).trans ((zDX hk).cons x)
inductive zFZ (vs:List V)(H:Hp)(Q:VK):Prop
 | mk:∀(t:Addr)(N:Nat)(n:Int),(vs=[.ref t,.int n])->(zAF H t N)->(N<900000)->(1<=n)->(n<=24)->(∀(l:Addr)(os:List Int)(H':Hp),H' l=some (.tup (os.map V.int))->zOB n os->zAF H' t (N+24)->Sm t H H'->Q (.ref l) H')->zFZ vs H Q
noncomputable def zIx:Sp:=fun vs H Q _=>zFZ vs H Q
theorem zE2:zAE ["_law_tape_here","_law_n","_law_left","_law_found","_law_k"] qAM (defScope zFl):=fS0
theorem zLI (F:Fun K "_law_order" "_law_order" zFl f fd') (FD:FuB K mg "_law_draw" zDI fD fdD qAB)
 (mLen:mg "len"=none) (mRange:mg "range"=none) (mTuple:mg "tuple"=none) (mList:mg "list"=none):zAb P w K mg base CX0 2 f fd' qAM zIx:=by
 have GD:zAb P w K mg base CX0 1 fD fdD qAB zDS:=zDs FD.F mLen;refine F.okD zE2 fun _ A _ _ H vs Q E hr h=>?_;obtain⟨t,N,n,rfl,TT,hN,hn1,hn24,k⟩:=h;obtain⟨tp,TP⟩:=TT;refine⟨_,zR (zAi (i:=2) zE2.nd (zF0 rfl rfl mList rfl mRange (zD (pv 1) zL)))
  (zR (zAi (i:=3) zE2.nd (zBV zL))
  (zR (zA6 PassesOwn.never rfl (zAl rfl mRange (zD (pv 1) zL)) (zv (i:=4) zE2.nd rfl (Or.inl rfl))
   (zY (zBX (zCq PySem.F.plainAttrs_list PySem.F.slot_list_append PySem.F.type_list_append zA7 (pv 3)
    (zD (zCq PySem.F.plainAttrs_list PySem.F.slot_list_pop PySem.F.type_list_pop zHb (pv 2)
     (zD (zAI GD hr FD (zD (pv 0) (zD (zAJ zAm mLen (zD (pv 2) zL)) zL))) zL)) zL)))))
  (zY (zAH (zAr zAT mTuple (zD (pv 3) zL)))))),?_⟩
 refine⟨_,rfl,n,rfl,by omega,by omega,fun lf hlf=>?_⟩;obtain⟨ns0,sp0,re0,ht0,hp0,_⟩:=id TP;have nlt:lf≠t:=(zl ht0 hlf).symm;have nlp:lf≠tp:=(zl hp0 hlf).symm;refine⟨zk _,fun D hD=>?_⟩;have nDl:D≠lf:=fun z=>by rw[z,zI] at hD;cases hD
 have hD0:H D=none:=by rw[za nDl] at hD;exact hD
 have nDt:D≠t:=(zl ht0 hD0).symm;have nDp:D≠tp:=(zl hp0 hD0).symm;refine⟨_,rfl,n,rfl,by omega,by omega,zA3 (lo:=0) (n:=n.toNat) (fun q σ H2=>Ex3 fun (v4:Option V)(row left:List Int)=>σ=[some (.ref t),some (.int n),some (.ref lf),some (.ref D),v4]/\row.length=q/\(row++left).Perm (lowTo n.toNat)/\H2 lf=some (.lst (left.map V.int))/\H2 D=some (.lst (row.map V.int))/\zBF H2 t tp (N+q)/\Sm t H H2)
  ⟨none,[],lowTo n.toNat,rfl,rfl,List.Perm.refl _,by rw[za nDl.symm,zI],zI,TP.keepF (fun o e=>by rw[za nDt.symm,za nlt.symm];exact e) (fun o e=>by rw[za nDp.symm,za nlp.symm];exact e) (by omega),(Sm.laid hlf).chg hD0⟩ ?turn ?after⟩
 case after=>
  rintro σ H2 ⟨v4,row,left,rfl,hl,hp,hlf2,hD2,TP2,s2⟩;have hleft:left=[]:=by have:=hp.length_eq;rw[zJ,zDu,hl] at this;exact List.length_eq_zero_iff.mp (by omega)
  subst hleft;rw[zAG] at hp;have nd:row.Nodup:=hp.nodup_iff.mpr ((zDN _).imp fun h=>by omega);refine⟨_,rfl,D,_,rfl,.inl ⟨SqL.of hD2,fun l hl'=>?_⟩⟩;refine k l row _ zI ⟨hl,nd,fun p hp'=>?_⟩ (zAF.mono (zAF.laid ⟨tp,TP2⟩ hl') (by omega)) (s2.trans (Sm.laid hl'));have:=mem_ints.mp (hp.mem_iff.mp hp');omega
 case turn=>
  rintro q σ H2 hq ⟨v4,row,left,rfl,hl,hp,hlf2,hD2,TP2,s2⟩;have hll:row.length+left.length=n.toNat:=by have:=hp.length_eq;rw[zJ,zDu] at this;exact this
  refine⟨_,rfl,.inl ⟨rfl,_,SqL.of hD2⟩,_,rfl,.inl ⟨rfl,_,SqL.of hlf2⟩,?_⟩;refine⟨_,rfl,_,rfl,lf,_,rfl,.inl (SqL.of hlf2),t,tp,N+q,_,rfl,TP2,by omega,by rw[zB];omega,by rw[zB];omega,fun rr H3 h0 h1 TP3 e3=>?_⟩;rw[zB] at h1;have hlt:rr.toNat<left.length:=by omega
  refine⟨lf,left.map V.int,rr,rr.toNat,.int left[rr.toNat],rfl,rfl,by rw[e3 lf nlt];exact hlf2,by omega,by omega,PySem.StrLaws.seqIndex_nonneg h0 (by rw[zB];omega),by rw[zM,zA hlt];rfl,?_⟩;rw[zEP left rr.toNat];have s3:Sm t H H3:=fun b o nb e=>by rw[e3 b nb];exact s2 b o nb e
  have hlf0:H lf=none:=hlf;refine⟨D,_,_,rfl,rfl,by rw[za nDl,e3 D nDt];exact hD2,by rw[zB];exact zAh (by omega),?_⟩;refine⟨_,row++[left[rr.toNat]],left.eraseIdx rr.toNat,rfl,by rw[zJ,hl];rfl,?_,by rw[za nDl.symm,zI],by rw[zQ];exact zI,TP3.keepF (fun o e=>by rw[za nDt.symm,za nlt.symm];exact e) (fun o e=>by rw[za nDp.symm,za nlp.symm];exact e) (by omega),(s3.chg hlf0).chg hD0⟩;refine List.Perm.trans ?_ hp;rw[List.append_assoc];exact (zDX hlt).append_left row
inductive zIs (vs:List V)(H:Hp)(Q:VK):Prop
 | mk:∀(t:Addr)(N:Nat),(vs=[.ref t])->(zAF H t N)->(N<900000)->(∀(wa:Addr)(n:Int)(ts:List T3)(H':Hp),zB3 H' wa n ts->ts.length<=23->zAF H' t (N+100)->Sm t H H'->Q (.ref wa) H')->zIs vs H Q
noncomputable def spRow:Sp:=fun vs H Q _=>zIs vs H Q
inductive zHp (row:List Int)(i:Nat)(t:T3):Prop
 | mk:∀x y,(row[i]?=some x)->(row[i+1]?=some y)->(t.1<t.2.1)->(((t.1=x/\t.2.1=y)\/(t.1=y/\t.2.1=x)))->(1<=t.2.2)->(t.2.2<=99)->zHp row i t
noncomputable def zMu (row:List Int)(i:Nat)(t:T3):Prop:=zHp row i t
theorem row_gw {row:List Int}{ts':List T3}(h1:1<=n)(h24:n<=24)(hp:row.Perm (lowTo n.toNat))(hl:ts.length+1=n.toNat)(ht:∀i t,ts[i]?=some t->zMu row i t)(hq:ts'.Perm ts):GW n ts':=by
 have nd:row.Nodup:=hp.nodup_iff.mpr ((zDN _).imp fun h=>by omega);have inr:∀x∈row,0<=x/\x<n:=fun x hx=>by have:=mem_ints.mp (hp.mem_iff.mp hx);omega
 refine⟨h1,h24,by rw[hq.length_eq];omega,fun t htt=>?_,?_⟩
 . obtain⟨i,hi,e⟩:=zj (hq.mem_iff.mp htt);obtain⟨x,y,hx,hy,hlt,hor,c1,c2⟩:=ht i t (by rw[zA hi,e]);have a:=inr x (zV hx);have b:=inr y (zV hy);rcases hor with ⟨e1,e2⟩ | ⟨e1,e2⟩ <;> omega
 . refine (hq.pairwise_iff (fun {a b} h z=>h ⟨z.1.symm,z.2.symm⟩)).mpr ?_;refine zAY.mpr fun i j hi hj hij=>?_;obtain⟨x,y,hx,hy,hlt,hor,_⟩:=ht i ts[i] (zA hi);obtain⟨x',y',hx',hy',hlt',hor',_⟩:=ht j ts[j] (zA hj);rintro ⟨e1,e2⟩;have inj:∀{a b:Nat}{v:Int},row[a]?=some v->row[b]?=some v->a=b:=fun {a b v} h h'=>(List.getElem?_inj (zF.mp h).1 nd).mp (h.trans h'.symm);rcases hor with ⟨p1,p2⟩ | ⟨p1,p2⟩ <;> rcases hor' with ⟨q1,q2⟩ | ⟨q1,q2⟩
   . have:x=x':=by omega
     rw[this] at hx;have:=inj hx hx';omega
   . have f1:x=y':=by omega
     have f2:y=x':=by omega
     rw[f1] at hx;rw[f2] at hy;have:=inj hx hy';omega
   . have f1:y=x':=by omega
     have f2:x=y':=by omega
     rw[f2] at hx;have:=inj hx hy';omega
   . have:x=x':=by omega
     rw[this] at hx;have:=inj hx hx';omega
variable {i:Nat}
theorem cut2 {row:List Int}(hx:row[i]?=some x)(hy:row[i+1]?=some y):zDw (row.map V.int) (some (i:Int)) (some ((i:Int)+2))=[x,y].map V.int:=by
 have h1:=(zF.mp hx);have h2:=(zF.mp hy);obtain⟨b1,e1⟩:=h1;obtain⟨b2,e2⟩:=h2;have s1:HT.sIx (row.map V.int).length 0 (some (i:Int))=i:=by unfold HT.sIx;rw[zB];simp only;split <;> omega
 have s2:HT.sIx (row.map V.int).length (row.map V.int).length (some ((i:Int)+2))=i+2:=by unfold HT.sIx;rw[zB];simp only;split <;> omega
 unfold zDw;rw[s1,s2,show i+2-i=2 by omega,<-List.map_drop,<-List.map_take,zAz b1,zAz b2,e1,e2];rfl
theorem zHt (hne:x≠y){ms:List Int}(hp:ms.Perm [x,y])(hr:ms.Pairwise (· <= ·)):∃a b,ms=[a,b]/\a<b/\((a=x/\b=y)\/(a=y/\b=x)):=by
 have hl:=hp.length_eq
 match ms,hl with
 | [a,b],_=>
  have hab:a<=b:=by simpa using hr
  have ha:a=x\/a=y:=by simpa using hp.mem_iff.mp (show a∈[a,b] by simp)
  have hx:x=a\/x=b:=by simpa using hp.mem_iff.mpr (show x∈[x,y] by simp)
  have hy:y=a\/y=b:=by simpa using hp.mem_iff.mpr (show y∈[x,y] by simp)
  refine⟨a,b,rfl,?_,?_⟩
  . omega
  . omega
theorem zGc:zAE ["_law_tape_here","_law_n","_law_left","_law_row","_law_ties","_law_k","_law_pair"] qAX (defScope sRow):=fS0
theorem ok_row (F:Fun K "_law_row_web" "_law_row_web" sRow f fd') (FD:FuB K mg "_law_draw" zDI fD fdD qAB)
 (mLen:mg "len"=none) (mRange:mg "range"=none) (mTuple:mg "tuple"=none) (mSorted:mg "sorted"=none) (mList:mg "list"=none):zAb P w K mg base CX0 2 f fd' qAX spRow:=by
 have GD:zAb P w K mg base CX0 1 fD fdD qAB zDS:=zDs FD.F mLen;refine F.okD zGc fun _ A _ _ H vs Q E hr h=>?_;obtain⟨t,N,rfl,TT,hN,k⟩:=h;obtain⟨tp,TP⟩:=TT;refine⟨_,zR (zAi (i:=1) zGc.nd (zAw zBs zf (zAI GD hr FD (zD (pv 0) (zCb zL)))))
  (zR (zC4 (i:=2) zGc.nd rfl (Or.inr rfl) (zF0 rfl rfl mList rfl mRange (zD (pv 1) zL)))
  (zR (zCf (i:=3) (own:=["_law_k"]) (cn:=["_law_left","_law_tape_here"]) (ci:=[2,0]) zGc.nd rfl (Or.inl rfl) rfl (csc rfl rfl) ⟨rfl,rfl,rfl,rfl,rfl,rfl,trivial⟩ rfl
   (zAl rfl mRange (zD (pv 1) zL)) (fun _ _ _ _=>zCJ) (fun _ _ _ _=>zBP)
   (fun _ _ _ _=>pe_bmC PySem.F.plainAttrs_list PySem.F.slot_list_pop PySem.F.type_list_pop zHb (pv 1)
    (zD (zAI GD hr FD (zD (pv 2) (zD (zAJ zFJ mLen (zD (pv 1) zL)) zL))) zL)))
  (zR (zAi (i:=4) zGc.nd (zBV zL))
  (zR (zA6 PassesOwn.never rfl (zAl rfl mRange (zD (zAw zC6 (pv 1) zf) zL)) (zv (i:=5) zGc.nd rfl (Or.inl rfl))
   (zR (zAi (i:=6) zGc.nd (zAJ zGP mSorted (zD (zBY zE1 (pv 3) (zBn (pv 5)) (zBn (zAw zBs (pv 5) zf))) zL)))
   (zY (zBX (zCq PySem.F.plainAttrs_list PySem.F.slot_list_append PySem.F.type_list_append zA7 (pv 4)
    (zD (zAv (zD (zu zAC (pv 6) zf) (zD (zu zAC (pv 6) zf) (zD (zAw zC6 zf (zAI GD hr FD (zD (pv 0) (zCb zL)))) zL)))) zL))))))
  (zY (zAH (zAv (zD (pv 1) (zD (zAr zAT mTuple (zD (zAJ zEX mSorted (zD (pv 4) zL)) zL)) zL))))))))),?_⟩
 refine⟨_,rfl,t,tp,N,13,rfl,TP,by omega,by decide,by decide,fun r H1 r0 r1 TP1 e1=>?_⟩;refine⟨12,r,rfl,rfl,?_⟩;have s1:Sm t H H1:=fun b o nb e=>by rw[e1 b nb];exact e
 dsimp only;generalize hn:12+r=n;have hn1:12<=n:=by omega
 have hn24:n<=24:=by omega
 refine⟨_,rfl,n,rfl,by omega,by omega,fun lf hlf=>?_⟩;have nlt:lf≠t:=by obtain⟨ns,spot,rest,a,_⟩:=TP1;exact (zl a hlf).symm
 have nlp:lf≠tp:=by obtain⟨ns,spot,rest,_,a,_⟩:=TP1;exact (zl a hlf).symm
 have hlf0:H lf=none:=by
  cases z:H lf with
  | none=>rfl
  | some o=>rw[s1 _ _ nlt z] at hlf;cases hlf
 refine⟨_,rfl,n,rfl,by omega,by omega,[.ref lf,.ref t],rfl,fun D hD=>?_⟩;have nDl:D≠lf:=fun z=>by rw[z,zI] at hD;cases hD
 have hD1:H1 D=none:=by rw[za nDl] at hD;exact hD
 have nDt:D≠t:=by obtain⟨ns,spot,rest,a,_⟩:=TP1;exact (zl a hD1).symm
 have nDp:D≠tp:=by obtain⟨ns,spot,rest,_,a,_⟩:=TP1;exact (zl a hD1).symm
 have hD0:H D=none:=by
  cases z:H D with
  | none=>rfl
  | some o=>rw[s1 _ _ nDt z] at hD1;cases hD1
 refine zBz (lo:=0) (n:=n.toNat) (fun q ys H2=>q<=n.toNat/\Ex2 fun (row left:List Int)=>ys=row.map V.int/\row.length=q/\(row++left).Perm (lowTo n.toNat)/\H2 lf=some (.lst (left.map V.int))/\H2 D=some (.lst ys)/\zBF H2 t tp (N+1+q)/\Sm t H H2)
  ⟨zk _,[],lowTo n.toNat,rfl,rfl,List.Perm.refl _,by rw[za nDl.symm,zI],zI,TP1.keepF (fun o e=>by rw[za nDt.symm,za nlt.symm];exact e) (fun o e=>by rw[za nDp.symm,za nlp.symm];exact e) (by omega),(s1.chg hlf0).chg hD0⟩ (fun q ys H2 h=>?_) (fun q ys H2 hq h=>?_) (fun ys H2 h=>?_)
 . obtain⟨hq,row,left,rfl,hl,_⟩:=h;rw[zB,hl];exact zAh (by omega)
 . obtain⟨_,row,left,rfl,hl,hp,hlf2,hD2,TP2,s2⟩:=h;have hll:row.length+left.length=n.toNat:=by have:=hp.length_eq;rw[zJ,zDu] at this;exact this
   refine⟨⟨rfl,rfl⟩,?_⟩;refine zFN ?_;refine⟨_,rfl,.inl ⟨rfl,_,SqL.of hlf2⟩,?_⟩;refine⟨_,rfl,_,rfl,lf,_,rfl,.inl (SqL.of hlf2),t,tp,N+1+q,_,rfl,TP2,by omega,by rw[zB];omega,by rw[zB];omega,fun rr H3 h0 h1 TP3 e3=>?_⟩;rw[zB] at h1;have hlt:rr.toNat<left.length:=by omega
   refine⟨lf,left.map V.int,rr,rr.toNat,.int left[rr.toNat],rfl,rfl,by rw[e3 lf nlt];exact hlf2,by omega,by omega,PySem.StrLaws.seqIndex_nonneg h0 (by rw[zB];omega),by rw[zM,zA hlt];rfl,?_⟩;have eer:(left.map V.int).eraseIdx rr.toNat=(left.eraseIdx rr.toNat).map V.int:=zEP left rr.toNat
   rw[eer];have s3:Sm t H H3:=fun b o nb e=>by rw[e3 b nb];exact s2 b o nb e
   refine⟨by rw[za nDl,e3 D nDt];exact hD2,hq,row++[left[rr.toNat]],left.eraseIdx rr.toNat,by rw[zQ];rfl,by rw[zJ,hl];rfl,?_,by rw[za nDl.symm,zI],zI,TP3.keepF (fun o e=>by rw[za nDt.symm,za nlt.symm];exact e) (fun o e=>by rw[za nDp.symm,za nlp.symm];exact e) (by omega),(s3.chg hlf0).chg hD0⟩;refine List.Perm.trans ?_ hp;rw[List.append_assoc];exact (zDX hlt).append_left row
 . obtain⟨_,row,left,rfl,hl,hp,hlf2,hD2,TP2,s2⟩:=h;have hleft:left=[]:=by have:=hp.length_eq;rw[zJ,zDu,hl] at this;exact List.length_eq_zero_iff.mp (by omega)
   subst hleft;rw[zAG] at hp;have nd:row.Nodup:=hp.nodup_iff.mpr ((zDN _).imp fun h=>by omega);refine⟨zk _,fun tl' htl=>?_⟩;have ntt:tl'≠t:=by obtain⟨ns,spot,rest,a,_⟩:=TP2;exact (zl a htl).symm
   have ntp:tl'≠tp:=by obtain⟨ns,spot,rest,_,a,_⟩:=TP2;exact (zl a htl).symm
   have ntD:tl'≠D:=(zl hD2 htl).symm;have htl0:H tl'=none:=by
    cases z:H tl' with
    | none=>rfl
    | some o=>rw[s2 _ _ ntt z] at htl;cases htl
   refine⟨_,rfl,n,1,rfl,rfl,n-1,rfl,by omega,by omega,zA3 (lo:=0) (n:=(n-1).toNat)
    (fun i σ H3=>i<=(n-1).toNat/\∃(v5 v6:Option V)(zs:List V)(ts:List T3),σ=[some (.ref t),some (.int n),some (.ref lf),some (.ref D),some (.ref tl'),v5,v6]/\Sm t H H3/\H3 D=some (.lst (row.map V.int))/\H3 tl'=some (.lst zs)/\zAc H3 zs (ts.map tl)/\ts.length=i/\(∀j t,ts[j]?=some t->zMu row j t)/\zBF H3 t tp (N+30+i))
    ⟨zk _,_,_,[],[],rfl,s2.chg htl0,by rw[za ntD.symm];exact hD2,zI,trivial,rfl,fun j t h=>by simp at h,TP2.keepF (fun o e=>by rw[za ntt.symm];exact e) (fun o e=>by rw[za ntp.symm];exact e) (by omega)⟩ ?turn ?after⟩
   case turn=>
    rintro i σ H3 hi ⟨_,v5,v6,zs,ts,rfl,s3,hD3,hz3,TA3,hts,hrt,TP3⟩;rw[zAZ];obtain⟨x,hx⟩:∃x,row[i]?=some x:=⟨_,zA (by omega)⟩;obtain⟨y,hy⟩:∃y,row[i+1]?=some y:=⟨_,zA (by omega)⟩;have hxy:x≠y:=fun z=>by subst z;have:=(List.getElem?_inj (zF.mp hx).1 nd).mp (hx.trans hy.symm);omega
    refine⟨_,rfl,_,rfl,(i:Int),rfl,_,rfl,(i:Int),2,rfl,rfl,(i:Int)+2,rfl,D,_,rfl,SqL.of hD3,fun c1 hc1=>?_⟩;rw[cut2 hx hy];refine⟨c1,[x,y],rfl,SqL.of zI,by show 2<64;decide,fun c2 ms hc2 hpm hrm=>?_⟩;obtain⟨a,b,rfl,hab,hor⟩:=zHt hxy hpm hrm;have s4:zAo H3 (upd (upd H3 c1 (.lst ([x,y].map V.int))) c2 (.lst ([a,b].map V.int))):=(zH hc1).trans (zH hc2);have hc24:(upd (upd H3 c1 (.lst ([x,y].map V.int))) c2 (.lst ([a,b].map V.int))) c2=some (.lst ([a,b].map V.int)):=zI;generalize upd (upd H3 c1 (.lst ([x,y].map V.int))) c2 (.lst ([a,b].map V.int))=H4 at s4 hc24 ⊢;have TP4:zBF H4 t tp (N+30+i):=TP3.keepF (fun o e=>s4 _ _ e) (fun o e=>s4 _ _ e) (zK _);refine⟨_,rfl,.inl ⟨rfl,_,SqL.of (s4 _ _ hz3)⟩,?_⟩;refine⟨_,rfl,c2,_,_,.int a,rfl,rfl,SqL.of hc24,rfl,_,rfl,c2,_,_,.int b,rfl,rfl,SqL.of hc24,rfl,?_⟩;refine⟨_,rfl,t,tp,N+30+i,3,rfl,TP4,by omega,by decide,by decide,fun dr H5 d0 d1 TP5 e5=>?_⟩;refine⟨99,dr,rfl,rfl,?_⟩;refine⟨by show 3<=sizeLine;decide,fun q hq=>?_⟩;have hz5:H5 tl'=some (.lst zs):=by rw[e5 tl' ntt];exact s4 _ _ hz3
    have hD5:H5 D=some (.lst (row.map V.int)):=by rw[e5 D nDt];exact s4 _ _ hD3
    have nqt:tl'≠q:=zl hz5 hq;refine⟨tl',zs,_,rfl,rfl,by rw[za nqt];exact hz5,?_,?_⟩
    . have e:=TA3.length;rw[zB,hts] at e;exact zAh (by omega)
    have s5:Sm t H H5:=fun b o nb e=>by rw[e5 b nb];exact s4 _ _ (s3 b o nb e)
    refine⟨hi,_,_,_,ts++[(a,b,99-dr)],rfl,(s5.trans (Sm.laid hq)).chg htl0,?_,zI,?_,by rw[zJ,hts];rfl,?_,?_⟩
    . rw[za ntD.symm,za (zl hD5 hq)];exact hD5
    . rw[zQ];refine (TA3.keep fun c xs e=>?_).snoc ⟨q,rfl,by rw[za nqt.symm,zI];rfl,by simp[tl]⟩;have e':H5 c=some (.tup xs):=by
       have nct:c≠t:=by obtain⟨ns,spot,rest,a,_⟩:=TP3;exact zCD e a (by intro z;cases z)
       rw[e5 c nct];exact s4 _ _ e
      rw[za (zCD e' hz5 (by intro z;cases z)),za (zl e' hq)];exact e'
    . intro j tt hj;by_cases hjl:j<ts.length
      . rw[zP hjl] at hj;exact hrt j tt hj
      . rw[zO (by omega)] at hj;cases hz:j-ts.length with
        | zero=>
         rw[hz] at hj;have e:(a,b,99-dr)=tt:=by simpa using hj
         subst e;have ej:j=i:=by omega
         subst ej;exact⟨x,y,hx,hy,hab,hor,by show 1<=99-dr;omega,by show 99-dr<=99;omega⟩
        | succ m=>rw[hz] at hj;simp at hj
    . have nqtt:q≠t:=by obtain⟨ns,spot,rest,a,_⟩:=TP5;exact (zl a hq).symm
      have nqtp:q≠tp:=by obtain⟨ns,spot,rest,_,a,_⟩:=TP5;exact (zl a hq).symm
      exact TP5.keepF (fun o e=>by rw[za ntt.symm,za nqtt.symm];exact e) (fun o e=>by rw[za ntp.symm,za nqtp.symm];exact e) (by omega)
   case after=>
    rintro σ H3 ⟨_,v5,v6,zs,ts,rfl,s3,hD3,hz3,TA3,hts,hrt,TP3⟩;refine⟨_,rfl,_,rfl,tl',zs,ts.map tl,rfl,SqL.of hz3,TA3,by rw[zB];omega,fun l1 us ms hl1 TA4 hpm _=>?_⟩;refine⟨l1,us,rfl,.inl ⟨SqL.of zI,fun l2 hl2=>?_⟩⟩;obtain⟨ts',ets,hpt⟩:∃ts':List T3,ts'.map tl=ms/\ts'.Perm ts:=by
     refine⟨ms.map fun k=>(k.getD 0 0,k.getD 1 0,k.getD 2 0),?_,?_⟩
     . rw[zAd]
       conv=>rhs;rw[<-List.map_id ms]
       refine zBa fun k hk=>?_;obtain⟨t',_,rfl⟩:=zo.mp (hpm.mem_iff.mp hk);rfl
     . have:=hpm.map fun k:List Int=>((k.getD 0 0,k.getD 1 0,k.getD 2 0):T3);rw[zAd] at this;have e:ts.map ((fun k:List Int=>((k.getD 0 0,k.getD 1 0,k.getD 2 0):T3))∘tl)=ts:=by
        conv=>rhs;rw[<-List.map_id ts]
        exact zBa fun t' _=>rfl
       rw[e] at this;exact this
    have G:GW n ts':=row_gw (by omega) hn24 hp (by omega) hrt hpt;refine⟨by show 2<=sizeLine;decide,fun wa hwa=>?_⟩;have s34:zAo H3 (upd (upd (upd H3 l1 (.lst us)) l2 (.tup us)) wa (.tup [.int n,.ref l2])):=((zH hl1).trans (zH hl2)).trans (zH hwa);refine k wa n ts' _ ⟨l2,us,zI,?_,?_,G⟩ (by rw[hpt.length_eq];omega) ⟨tp,TP3.keepF (fun o e=>s34 _ _ e) (fun o e=>s34 _ _ e) (by omega)⟩ (s3.trans (Sm.of s34))
    . rw[za (zl zI hwa)];exact zI
    . rw[ets];exact TA4.keep fun c xs e=>s34 _ _ e
theorem zBx (a:Int):decide (oV (some a)=V.non)=false:=zc (by intro z;cases z)
inductive zJF (vs:List V)(H:Hp)(Q:VK):Prop
 | mk:∀a b:Option Int,(vs=[oV a,oV b])->(Q (oV (oadd a b)) H)->zJF vs H Q
noncomputable def zNA:Sp:=fun vs H Q _=>zJF vs H Q
inductive zI4 (vs:List V)(H:Hp)(Q:VK):Prop
 | mk:∀a b:Option Int,(vs=[oV a,oV b])->(Q (oV (oles a b)) H)->zI4 vs H Q
noncomputable def spLes:Sp:=fun vs H Q _=>zI4 vs H Q
noncomputable def zCz (H:Hp)(rs:List Addr)(M:lLO):Prop:=rs.length=M.length/\rs.Nodup/\∀(i:Nat)(r:Addr)(row:List (Option Int)),rs[i]?=some r->M[i]?=some row->H r=some (.lst (row.map oV))
variable {rs:List Addr}
theorem zCz.keep {M:lLO}(h:zCz H rs M)(k:∀b ys,H b=some (.lst ys)->b∈rs->H' b=some (.lst ys)):zCz H' rs M:=⟨h.1,h.2.1,fun i r row a b=>k r _ (h.2.2 i r row a b) (zV a)⟩
theorem zCz.get {M:lLO}(h:zCz H rs M)(S:Sqm n M)(ha:0<=a)(ha':a<n):∃r row,rs[a.toNat]?=some r/\M[a.toNat]?=some row/\M.getD a.toNat []=row/\row.length=n.toNat/\H r=some (.lst (row.map oV))/\∀y,fnl row y=mat M a y:=by
 obtain⟨row,h1,h2,h3⟩:=S.row ha ha';have hl:a.toNat<rs.length:=by rw[h.1,S.ln];omega
 exact⟨rs[a.toNat],row,zA hl,h1,h2,h3,h.2.2 _ _ _ (zA hl) h1,fun y=>by unfold mat;rw[if_pos ha,h2]⟩
theorem zCz.set {H:Hp}{rs:List Addr}{M:lLO}{n a b:Int}{v:Option Int}{r:Addr}{row:List (Option Int)}(h:zCz H rs M)(S:Sqm n M)(ha:0<=a)(ha':a<n)(h1:rs[a.toNat]?=some r)(h2:M[a.toNat]?=some row):
 zCz (upd H r (.lst ((row.map oV).set b.toNat (oV v)))) rs (zIW M a b v):=by
 refine⟨by unfold zIW;rw[zAL];exact h.1,h.2.1,fun i r' row' a1 a2=>?_⟩;unfold zIW at a2;rw[List.getElem?_set] at a2;have hlt:a.toNat<M.length:=(zF.mp h2).1;by_cases e:a.toNat=i
 . subst e;rw[if_pos rfl,if_pos hlt] at a2;rw[h1] at a1;cases a1;cases a2;rw[zI,zE,h2,Option.getD_some,List.map_set]
 . rw[if_neg e] at a2;have hne:r'≠r:=fun z=>by subst z;exact e ((List.getElem?_inj ((zF.mp h1).1) h.2.1).mp (h1.trans a1.symm))
   rw[za hne];exact h.2.2 i r' row' a1 a2
theorem zHR {row:List (Option Int)}(hl:row.length=n.toNat)(h0:0<=y)(h1:y<n):atI (row.map oV) y=some (oV (fnl row y)):=by
 have hlt:y.toNat<row.length:=by omega
 refine zBQ h0 ?_;rw[zM,zA hlt];unfold fnl;rw[if_pos h0,zE,zA hlt];rfl
noncomputable def zJW (a:Int)(j:Nat):List (Option Int):=(List.range j).map fun (b:Nat)=>if a=(b:Int) then some 0 else none
theorem zFp (a:Int)(j:Nat):zJW a (j+1)=zJW a j++[if a=(j:Int) then some 0 else none]:=by unfold zJW;rw[List.range_succ,zQ];rfl
theorem zHS (a:Int)(j:Nat):(zJW a j).length=j:=by unfold zJW;rw[zB,zAP]
variable {j:Nat}
theorem zK7 (h0:0<=y)(h1:y<j):fnl (zJW a j) y=if a=y then some 0 else none:=by
 unfold fnl zJW;rw[if_pos h0,zE,zM,List.getElem?_range (by omega)];show (if a=((y.toNat:Nat):Int) then some 0 else none)=_
 rw[show ((y.toNat:Nat):Int)=y by omega]
inductive zJB (vs:List V)(H:Hp)(Q:VK):Prop
 | mk:∀(wa:Addr)(n:Int)(ts:List T3),(vs=[.ref wa])->(zB3 H wa n ts)->(∀(fl:Addr)(rs:List Addr)(M:lLO)(H':Hp),zAo H H'->H' fl=some (.lst (rs.map V.ref))->zCz H' rs M->Rows ts n M->Q (.ref fl) H')->zJB vs H Q
noncomputable def zM8:Sp:=fun vs H Q _=>zJB vs H Q
theorem scAdd:zAE qAG qAG (defScope sAdd):=fS0
theorem zMb (F:Fun K "_law_added" "_law_added" sAdd f fd'):zAb P w K mg base CX0 1 f fd' qAG zNA:=by
 refine F.okD scAdd fun _ A _ _ H vs Q E hr h=>?_;obtain⟨a,b,rfl,k⟩:=h;refine⟨_,zY (zAH (zDK (PW.pt (zEe (zAA zCc (pv 0) zA0 (zAB _)) (zDJ (zAA zCc (pv 1) zA0 (zAB _))))) zA0 (zAw zBs (pv 0) (pv 1)))),?_⟩;cases a with
 | none=>exact⟨_,rfl,rfl,_,rfl,ifT (zS rfl) (ifT rfl k)⟩
 | some a=>
  refine⟨_,rfl,rfl,_,rfl,ifF (zBx a) ?_⟩;cases b with
  | none=>exact⟨_,rfl,rfl,_,rfl,ifT (zS rfl) k⟩
  | some b=>exact⟨_,rfl,rfl,_,rfl,ifF (zBx b) ⟨_,rfl,_,rfl,a,b,rfl,rfl,k⟩⟩
theorem scLes:zAE qAG qAG (defScope sLes):=fS0
theorem ok_les (F:Fun K "_law_lesser" "_law_lesser" sLes f fd') (mMin:mg "min"=none):zAb P w K mg base CX0 1 f fd' qAG spLes:=by
 refine F.okD scLes fun _ A _ _ H vs Q E hr h=>?_;obtain⟨a,b,rfl,k⟩:=h;refine⟨_,zR (zA8 (PW.pt (zEe (zAA zCc (pv 0) zA0 (zAB _)) (zDJ (zAA zCc (pv 1) zA0 (zAB _))))) (zY (zAH (zDK (zAA zCc (pv 0) zA0 (zAB _)) (pv 1) (pv 0)))) zAN)
  (zY (zAH (zAJ (zKd rfl) mMin (zD (pv 0) (zD (pv 1) zL))))),?_⟩
 cases a with
 | none=>exact⟨_,rfl,rfl,_,rfl,ifT (zS rfl) (ifT rfl ⟨_,rfl,rfl,_,rfl,ifT (zS rfl) ⟨_,rfl,k⟩⟩)⟩
 | some a=>
  refine⟨_,rfl,rfl,_,rfl,ifF (zBx a) ?_⟩;cases b with
  | none=>exact⟨_,rfl,rfl,_,rfl,ifT (zS rfl) ⟨_,rfl,rfl,_,rfl,ifF (zBx a) ⟨_,rfl,k⟩⟩⟩
  | some b=>exact⟨_,rfl,rfl,_,rfl,ifF (zBx b) ⟨_,rfl,_,rfl,a,b,rfl,k⟩⟩
theorem zDz:zAE ["_law_web_here","_law_n","_law_ties","_law_far_here","_law_a","_law_b","_law_long","_law_k","_law_way_here"] qAJ (defScope sFar):=fS0
variable {fA fL:Addr}{fdA fdL:FuncData}
theorem zMZ (F:Fun K "_law_far" "_law_far" sFar f fd') (FA:FuB K mg "_law_added" sAdd fA fdA qAG)
 (FL:FuB K mg "_law_lesser" sLes fL fdL qAG) (mRange:mg "range"=none) (mMin:mg "min"=none):zAb P w K mg base CX0 2 f fd' qAJ zM8:=by
 have GA:zAb P w K mg base CX0 1 fA fdA qAG zNA:=zMb FA.F;have GL:zAb P w K mg base CX0 1 fL fdL qAG spLes:=ok_les FL.F mMin;refine F.okD zDz fun _ A _ _ H vs Q E hr h=>?_;obtain⟨wa,n,ts,rfl,W,k⟩:=h;obtain⟨ta,tys,hwa,hta,TA,G⟩:=id W;have hn1:=G.n1;have hn24:=G.n24;refine⟨_,zR (zC5 (pv 0) (zCS rfl (zAD (zv (i:=1) zDz.nd rfl (Or.inr rfl)) (zAD (zv (i:=2) zDz.nd rfl (Or.inl rfl)) zBh))))
  (zR (zLD (yc := "_law_a") (i:=3) (own:=["_law_a"]) (cn:=["_law_n"]) (ci:=[1]) zDz.nd rfl (Or.inl rfl) rfl (csc1 rfl (fun _ _=>rfl) rfl rfl) ⟨rfl,rfl,rfl,trivial⟩ rfl
   (zAl rfl mRange (zD (pv 1) zL)) (fun _ _ _ _=>zv (i:=0) (zDk rfl) rfl (Or.inr rfl)) (fun _ _ _ _=>zBP)
   (fun _ _ _ _=>zBi (own:=["_law_b"]) (cn:=["_law_a"]) (ci:=[0]) rfl (csc rfl rfl) ⟨rfl,rfl,rfl,trivial⟩ rfl
    (zAl rfl mRange (zD (pv 1) zL)) (fun _ _ _ _=>zCJ) (fun _ _ _ _=>zBP)
    (fun _ _ _ _=>zDK (zAA zCK (pv 1) (pv 0) (zAB _)) zf zA0)))
  (zR (zA6 PassesOwn.never rfl (zB9 (pv 2)) (zCS rfl (zAD (zv (i:=4) zDz.nd rfl (Or.inl rfl)) (zAD (zv (i:=5) zDz.nd rfl (Or.inl rfl)) (zAD (zv (i:=6) zDz.nd rfl (Or.inl rfl)) zBh))))
   (zR (zC5 (pv 6) (zDe (zu zAC (pv 3) (pv 4)) (pv 5) zCW))
   (zY (zC5 (pv 6) (zDe (zu zAC (pv 3) (pv 5)) (pv 4) zCW)))))
  (zR (zA6 PassesOwn.never rfl (zAl rfl mRange (zD (pv 1) zL)) (zv (i:=7) zDz.nd rfl (Or.inl rfl))
   (zY (zA6 PassesOwn.never rfl (zAl rfl mRange (zD (pv 1) zL)) (zv (i:=4) zDz.nd rfl (Or.inl rfl))
    (zY (zA6 PassesOwn.never rfl (zAl rfl mRange (zD (pv 1) zL)) (zv (i:=5) zDz.nd rfl (Or.inl rfl))
     (zR (zAi (i:=8) zDz.nd (zAI GA hr FA (zD (zu zAC (zu zAC (pv 3) (pv 4)) (pv 7)) (zD (zu zAC (zu zAC (pv 3) (pv 7)) (pv 5)) zL))))
     (zY (zC5 (zAI GL hr FL (zD (zu zAC (zu zAC (pv 3) (pv 4)) (pv 5)) (zD (pv 8) zL))) (zDe (zu zAC (pv 3) (pv 4)) (pv 5) zCW)))))))))
  (zY (zAH (pv 3)))))),?_⟩
 refine⟨_,rfl,wa,_,rfl,SqT.of hwa,rfl,_,_,rfl,_,_,rfl,rfl,?_⟩;refine⟨_,rfl,n,rfl,by omega,by omega,[.int n],rfl,fun D hD=>?_⟩;refine zBz (lo:=0) (n:=n.toNat) (fun q ys H1=>q<=n.toNat/\Ex2 fun (rs:List Addr)(M:lLO)=>ys=rs.map V.ref/\rs.length=q/\zCz H1 rs M/\(∀x:Nat,x<q->M[x]?=some (zJW x n.toNat))/\(∀r∈rs,H r=none/\r≠D)/\zAo H H1/\H1 D=some (.lst ys))
  ⟨zk _,[],[],rfl,rfl,⟨rfl,List.nodup_nil,fun i r row h=>by simp at h⟩,fun x hx=>absurd hx (zBH _),fun r h=>by simp at h,zH hD,zI⟩ (fun q ys H1 h=>?_) (fun q ys H1 hq h=>?_) (fun ys H1 h=>?_)
 . obtain⟨hq,rs,M,rfl,hl,_⟩:=h;rw[zB,hl];exact zAh (by omega)
 . obtain⟨_,rs,M,rfl,hl,R,L,fr,sm,hD1⟩:=h;rw[zAZ];refine⟨⟨rfl,rfl⟩,?_⟩;refine zFN ?_;refine⟨_,rfl,n,rfl,by omega,by omega,[.int q],rfl,fun D2 hD2=>?_⟩;have nD2:D2≠D:=fun z=>by rw[z,hD1] at hD2;cases hD2
   refine zBz (lo:=0) (n:=n.toNat) (fun j ys H2=>j<=n.toNat/\ys=(zJW q j).map oV/\zAo H1 H2/\H2 D2=some (.lst ys))
    ⟨zk _,rfl,zH hD2,zI⟩ (fun j ys H2 h=>?_) (fun j ys H2 hj h=>?_) (fun ys H2 h=>?_)
   . obtain⟨hj,rfl,_⟩:=h;rw[zB,zHS];exact zAh (by omega)
   . obtain⟨_,rfl,s2,h2⟩:=h;rw[zAZ];refine⟨⟨rfl,rfl⟩,?_⟩;refine zFN ?_;refine⟨_,rfl,_,rfl,rfl,_,rfl,?_⟩;by_cases e:(q:Int)=(j:Int)
     . refine ifT (zS (congrArg V.int e)) ?_;refine⟨h2,hj,?_,zAV s2 hD2,zI⟩;rw[zFp,if_pos e,zQ];rfl
     . refine ifF (zc fun z=>e (V.int.inj z)) ?_;refine⟨h2,hj,?_,zAV s2 hD2,zI⟩;rw[zFp,if_neg e,zQ];rfl
   . obtain⟨_,rfl,s2,h2⟩:=h;have hD22:H2 D=some (.lst (rs.map V.ref)):=s2 _ _ hD1;have frD2:H D2=none:=by
      cases z:H D2 with
      | none=>rfl
      | some o=>rw[sm _ _ z] at hD2;cases hD2
     have nin:D2∉rs:=fun z=>by
      obtain⟨i,hi,e⟩:=zj z;have hM:i<M.length:=by rw[<-R.1];exact hi
      have:=R.2.2 i D2 M[i] (by rw[zA hi,e]) (zA hM);rw[hD2] at this;cases this
     refine⟨hD22,hq,rs++[D2],M++[zJW q n.toNat],by rw[zQ];rfl,by rw[zJ,hl];rfl,⟨by rw[zJ,zJ,R.1];rfl,?_,fun i r row h1 h3=>?_⟩,fun x hx=>?_,fun r hr'=>?_,zAV (sm.trans s2) hD,zI⟩
     . exact zBq.mpr ⟨R.2.1,by simp,fun a ha b hb=>by
        have e:b=D2:=by simpa using hb
        rw[e];exact fun z=>nin (z ▸ ha)⟩
     . have key:H2 r=some (.lst (row.map oV))/\r≠D:=by
        by_cases hi:i<rs.length
        . rw[zP hi] at h1;rw[zP (by rw[<-R.1];exact hi)] at h3;exact⟨s2 _ _ (R.2.2 i r row h1 h3),(fr r (zV h1)).2⟩
        . rw[zO (by omega)] at h1;rw[zO (by rw[<-R.1];omega),<-R.1] at h3;cases hz:i-rs.length with
          | zero=>
           rw[hz] at h1 h3;have e1:D2=r:=by simpa using h1
           have e2:zJW q n.toNat=row:=by simpa using h3
           subst e1 e2;exact⟨h2,nD2⟩
          | succ k=>rw[hz] at h1;simp at h1
       rw[za key.2];exact key.1
     . by_cases hx':x<q
       . rw[zP (by rw[<-R.1,hl];exact hx')];exact L x hx'
       . have e:x=q:=by omega
         subst e;rw[zO (by rw[<-R.1,hl];exact zK _),<-R.1,hl];simp
     . rcases zm.mp hr' with z | z
       . exact fr r z
       . have e:r=D2:=by simpa using z
         rw[e];exact⟨frD2,nD2⟩
 . obtain⟨_,rs,M,rfl,hl,R,L,fr,sm,hD1⟩:=h;have hML:M.length=n.toNat:=by rw[<-R.1,hl]
   have S0:Sqm n M:=⟨hML,fun r hr'=>by obtain⟨i,hi,e⟩:=zj hr';have:=L i (by omega);rw[zA hi,e] at this;rw[zT this,zHS]⟩
   have M0:∀x y,0<=x->x<n->0<=y->y<n->mat M x y=if x=y then some 0 else none:=fun x y hx hx' hy hy'=>by
    unfold mat
    rw[if_pos hx,zE,L x.toNat (by omega),Option.getD_some,zK7 hy (by omega),show ((x.toNat:Nat):Int)=x by omega]
   have wr:∀{H2:Hp}{r:Addr}{o:HO},r∈rs->zAo H H2->zAo H (upd H2 r o):=fun {H2 r o} hr' s2=>zAV s2 (fr r hr').1;have wD:∀{H2:Hp}{r:Addr}{o:HO},r∈rs->H2 D=some (.lst (rs.map V.ref))->(upd H2 r o) D=some (.lst (rs.map V.ref)):=fun {H2 r o} hr' e=>by rw[za (fr r hr').2.symm];exact e
   refine⟨_,rfl,ta,rfl,⟨_,SqT.of (sm _ _ hta)⟩,zEM (K:=K) (a:=ta) (xs:=tys)
    (fun i σ H2=>Ex6 fun (v4 v5 v6 v7 v8:Option V)(M:lLO)=>σ=[some (.ref wa),some (.int n),some (.ref ta),some (.ref D),v4,v5,v6,v7,v8]/\zAo H H2/\H2 D=some (.lst (rs.map V.ref))/\zCz H2 rs M/\Sqm n M/\Ft (ts.take i) n (mat M))
    ⟨_,_,_,_,_,M,rfl,sm,hD1,R,S0,by rw[List.take_zero];exact Ft.nil n M0⟩ (fun i σ H2 _ ⟨_,_,_,_,_,_,_,s,_⟩=>SqT.of (s _ _ hta)) ?turn1 ?after1⟩
   case turn1=>
    rintro i y σ H2 hi ⟨v4,v5,v6,v7,v8,M2,rfl,s2,hD2,R2,S2,T2⟩;obtain⟨ya,ky,rfl,hky,hya,_⟩:=TA.get hi;rw[zM] at hky;obtain⟨⟨a,b,c⟩,hti,rfl⟩:∃t:T3,ts[i]?=some t/\tl t=ky:=by
     cases e:ts[i]? with
     | none=>rw[e] at hky;cases hky
     | some t=>rw[e] at hky;exact⟨t,rfl,zT hky⟩
    have hm:=zV hti;have hr3:=G.rng _ hm;simp only at hr3;obtain⟨ra,rowa,a1,a2,a3,a4,a5,_⟩:=R2.get S2 (a:=a) (by omega) (by omega);have ma:=zV a1;refine⟨ya,_,rfl,SqT.of (s2 _ _ hya),rfl,_,_,rfl,_,_,rfl,_,_,rfl,rfl,?_⟩;refine⟨_,rfl,_,rfl,_,rfl,D,_,_,.ref ra,rfl,rfl,SqL.of hD2,zBQ (by omega) (by rw[zM,a1];rfl),_,rfl,ra,_,b,b.toNat,rfl,rfl,a5,zGC (by omega) (by rw[zB,a4];omega),?_⟩;have R3:zCz (upd H2 ra (.lst ((rowa.map oV).set b.toNat (.int c)))) rs (zIW M2 a b (some c)):=R2.set S2 (v:=some c) (by omega) (by omega) a1 a2;have S3:Sqm n (zIW M2 a b (some c)):=S2.set (by omega) (by omega);have s3:=wr (o:=.lst ((rowa.map oV).set b.toNat (.int c))) ma s2;have hD3:=wD (o:=.lst ((rowa.map oV).set b.toNat (.int c))) ma hD2;generalize upd H2 ra (.lst ((rowa.map oV).set b.toNat (.int c)))=H3 at R3 s3 hD3 ⊢;obtain⟨rb,rowb,b1,b2,b3,b4,b5,_⟩:=R3.get S3 (a:=b) (by omega) (by omega);have mb:=zV b1;refine⟨_,rfl,_,rfl,_,rfl,D,_,_,.ref rb,rfl,rfl,SqL.of hD3,zBQ (show 0<=b by omega) (by rw[zM,b1];rfl),_,rfl,rb,_,a,a.toNat,rfl,rfl,b5,zGC (by omega) (by rw[zB,b4];omega),?_⟩;have R4:zCz (upd H3 rb (.lst ((rowb.map oV).set a.toNat (.int c)))) rs (zIW (zIW M2 a b (some c)) b a (some c)):=R3.set S3 (v:=some c) (by omega) (by omega) b1 b2;refine⟨_,_,_,_,_,_,rfl,wr mb s3,wD mb hD3,R4,S3.set (by omega) (by omega),?_⟩;have hsp:ts=ts.take i++(a,b,c)::ts.drop (i+1):=by
     have hil:=(zF.mp hti)
     conv=>lhs;rw[<-List.take_append_drop i ts,zAz hil.1,hil.2]
    have htk:ts.take (i+1)=ts.take i++[(a,b,c)]:=by rw[zy,hti];rfl
    rw[htk];refine (Ft.put (post:=ts.drop (i+1)) (by rw[<-hsp];exact G) T2).congr fun x y hx hx' hy hy'=>?_;rw[zGk S3 (by omega) (by omega) (by omega) (by omega) hx hx',zGk S2 (by omega) (by omega) (by omega) (by omega) hx hx']
   case after1=>
    rintro σ H2 ⟨v4,v5,v6,v7,v8,M2,rfl,s2,hD2,R2,S2,T2⟩;have hlt:tys.length=ts.length:=by rw[TA.length,zB]
    rw[hlt,List.take_length] at T2;have FC:=T2.fw G;refine⟨_,rfl,n,rfl,by omega,by omega,zA3 (lo:=0) (n:=n.toNat)
     (fun kk σ H3=>Ex6 fun (v4 v5 v6 v7 v8:Option V)(M:lLO)=>σ=[some (.ref wa),some (.int n),some (.ref ta),some (.ref D),v4,v5,v6,v7,v8]/\zAo H H3/\H3 D=some (.lst (rs.map V.ref))/\zCz H3 rs M/\Sqm n M/\Fw ts n (mat M)/\Cov ts n (kk:Int) (mat M))
     ⟨_,_,_,_,_,M2,rfl,s2,hD2,R2,S2,FC.1,FC.2⟩ ?turn2 ?after2⟩
    case after2=>
     rintro σ H3 ⟨v4,v5,v6,v7,v8,M3,rfl,s3,hD3,R3,S3,f3,c3⟩;rw[show ((n.toNat:Nat):Int)=n by omega] at c3;exact⟨_,rfl,k D rs M3 H3 s3 hD3 R3 (zNI G S3 f3 c3)⟩
    case turn2=>
     rintro kk σ H3 hkk ⟨v4,v5,v6,v7,v8,M3,rfl,s3,hD3,R3,S3,f3,c3⟩;rw[zAZ];refine⟨_,rfl,n,rfl,by omega,by omega,zA3 (lo:=0) (n:=n.toNat)
      (fun aa σ H4=>Ex5 fun (v4 v5 v6 v8:Option V)(M:lLO)=>σ=[some (.ref wa),some (.int n),some (.ref ta),some (.ref D),v4,v5,v6,some (.int (kk:Int)),v8]/\zAo H H4/\H4 D=some (.lst (rs.map V.ref))/\zCz H4 rs M/\Sqm n M/\Fm ts n (kk:Int) (mat M) (fun x _=>x<(aa:Int)))
      ⟨_,_,_,_,M3,rfl,s3,hD3,R3,S3,(Fm.enter f3 c3).congr (fun _ _ _ _ _ _=>rfl) fun x y hx _ _ _ z=>by omega⟩ ?turn3 ?after3⟩
     case after3=>
      rintro σ H4 ⟨v4,v5,v6,v8,M4,rfl,s4,hD4,R4,S4,F4⟩;have fc:=F4.leave fun x y _ hx' _ _=>by omega
      exact⟨_,_,_,_,_,M4,rfl,s4,hD4,R4,S4,fc.1,fc.2⟩
     case turn3=>
      rintro aa σ H4 haa ⟨v4,v5,v6,v8,M4,rfl,s4,hD4,R4,S4,F4⟩;rw[zAZ];refine⟨_,rfl,n,rfl,by omega,by omega,zA3 (lo:=0) (n:=n.toNat)
       (fun bb σ H5=>Ex4 fun (v5 v6 v8:Option V)(M:lLO)=>σ=[some (.ref wa),some (.int n),some (.ref ta),some (.ref D),some (.int (aa:Int)),v5,v6,some (.int (kk:Int)),v8]/\zAo H H5/\H5 D=some (.lst (rs.map V.ref))/\zCz H5 rs M/\Sqm n M/\Fm ts n (kk:Int) (mat M) (fun x y=>x<(aa:Int)\/(x=(aa:Int)/\y<(bb:Int))))
       ⟨_,_,_,M4,rfl,s4,hD4,R4,S4,F4.congr (fun _ _ _ _ _ _=>rfl) fun x y _ _ hy _ z=>by omega⟩ ?turn4 ?after4⟩
      case after4=>
       rintro σ H5 ⟨v5,v6,v8,M5,rfl,s5,hD5,R5,S5,F5⟩;exact⟨_,_,_,_,M5,rfl,s5,hD5,R5,S5,F5.congr (fun _ _ _ _ _ _=>rfl) fun x y _ _ _ hy' z=>by omega⟩
      case turn4=>
       rintro bb σ H5 hbb ⟨v5,v6,v8,M5,rfl,s5,hD5,R5,S5,F5⟩;rw[zAZ];obtain⟨ra,rowa,a1,a2,a3,a4,a5,a6⟩:=R5.get S5 (a:=(aa:Int)) (by omega) (by omega);obtain⟨rk,rowk,k1,k2,k3,k4,k5,k6⟩:=R5.get S5 (a:=(kk:Int)) (by omega) (by omega);have ma:=zV a1;refine⟨_,rfl,_,rfl,D,_,_,.ref ra,rfl,rfl,SqL.of hD5,zBQ (by omega) (by rw[zM,a1];rfl),_,rfl,ra,_,_,_,rfl,rfl,SqL.of a5,zHR a4 (by omega) (by omega),?_⟩;refine⟨_,rfl,_,rfl,D,_,_,.ref rk,rfl,rfl,SqL.of hD5,zBQ (by omega) (by rw[zM,k1];rfl),_,rfl,rk,_,_,_,rfl,rfl,SqL.of k5,zHR k4 (by omega) (by omega),?_⟩;refine⟨_,_,rfl,?_⟩;refine⟨_,rfl,_,rfl,D,_,_,.ref ra,rfl,rfl,SqL.of hD5,zBQ (by omega) (by rw[zM,a1];rfl),_,rfl,ra,_,_,_,rfl,rfl,SqL.of a5,zHR a4 (by omega) (by omega),?_⟩;refine⟨_,rfl,_,_,rfl,?_⟩;refine⟨_,rfl,_,rfl,D,_,_,.ref ra,rfl,rfl,SqL.of hD5,zBQ (by omega) (by rw[zM,a1];rfl),_,rfl,ra,_,_,(bb:Int).toNat,rfl,rfl,a5,zGC (by omega) (by rw[zB,a4];omega),?_⟩;refine⟨_,_,_,_,rfl,wr ma s5,wD ma hD5,R5.set S5 (by omega) (by omega) a1 a2,S5.set (by omega) (by omega),?_⟩;refine (Fm.step G F5 (a:=(aa:Int)) (b:=(bb:Int)) (by omega) (by omega) (by omega) (by omega) (by omega) (by omega)).congr (fun x y hx hx' hy hy'=>?_) fun x y _ _ _ _ z=>by omega
       rw[zGk S5 (by omega) (by omega) (by omega) (by omega) hx hx',a6,a6,k6]
noncomputable def PD (ts:List T3)(kvs:List (List Key×V)):Prop:=∀x y:Int,(∀l,zCL kvs [Sum.inl x,Sum.inl y]=some (.int l)↔Adj ts x y l)/\∀v,zCL kvs [Sum.inl x,Sum.inl y]=some v->∃l,v=.int l
theorem PD.nil:PD [] []:=fun x y=>⟨fun l=>by simp[zG0,Adj],fun v h=>by simp[zG0] at h⟩
theorem zJl {b:Int}:([Sum.inl x,Sum.inl y]:List Key)=[Sum.inl a,Sum.inl b]↔x=a/\y=b:=by simp
theorem PD.put {pre:List T3}{b c:Int}{post:List T3}(g:GW n ts)(e:ts=pre++(a,b,c)::post)(h:PD pre kvs):PD (pre++[(a,b,c)]) (zCs (zCs kvs [Sum.inl a,Sum.inl b] (.int c)) [Sum.inl b,Sum.inl a] (.int c)):=by
 have hin:(a,b,c)∈ts:=by rw[e];simp
 have hab:=(g.rng _ hin).2.1;simp only at hab;have sub:∀ {x y l},Adj (pre++[(a,b,c)]) x y l->Adj ts x y l:=fun h=>by
  rw[e];rcases h with h | h
  . refine .inl ?_;rcases zm.mp h with q | q
    . exact zw _ q
    . rw[zd.mp q];simp
  . refine .inr ?_;rcases zm.mp h with q | q
    . exact zw _ q
    . rw[zd.mp q];simp
 have new:Adj (pre++[(a,b,c)]) a b c:=.inl (by simp);intro x y;rw[zGz,zGz];by_cases h1:x=b/\y=a
 . obtain⟨rfl,rfl⟩:=h1;rw[if_pos rfl];refine⟨fun l=>⟨fun hl=>?_,fun ha=>?_⟩,fun v hv=>⟨c,(zT hv).symm⟩⟩
   . have:c=l:=by have:=zT hl;injection this
     subst this;exact new.symm
   . rw[g.uniq (sub ha) (sub new.symm)]
 . rw[if_neg (fun z=>h1 (zJl.mp z))];by_cases h2:x=a/\y=b
   . obtain⟨rfl,rfl⟩:=h2;rw[if_pos rfl];refine⟨fun l=>⟨fun hl=>?_,fun ha=>?_⟩,fun v hv=>⟨c,(zT hv).symm⟩⟩
     . have:c=l:=by have:=zT hl;injection this
       subst this;exact new
     . rw[g.uniq (sub ha) (sub new)]
   . rw[if_neg (fun z=>h2 (zJl.mp z))];refine⟨fun l=>?_,(h x y).2⟩;rw[(h x y).1 l];constructor
     . rintro (q | q)
       . exact .inl (zw _ q)
       . exact .inr (zw _ q)
     . rintro (q | q)
       . rcases zm.mp q with q | q
         . exact .inl q
         . exfalso;have:=zd.mp q;injection this with q1 q2;injection q2 with q2 q3;exact h2 ⟨q1,q2⟩
       . rcases zm.mp q with q | q
         . exact .inr q
         . exfalso;have:=zd.mp q;injection this with q1 q2;injection q2 with q2 q3;exact h1 ⟨q2,q1⟩
theorem PD.some (h:PD ts kvs)(x y:Int):(zCL kvs [Sum.inl x,Sum.inl y]).isSome=true↔∃l,Adj ts x y l:=by
 constructor
 . intro hs;obtain⟨v,hv⟩:=zBK.mp hs;obtain⟨l,rfl⟩:=(h x y).2 v hv;exact⟨l,((h x y).1 l).mp hv⟩
 . rintro ⟨l,ha⟩;rw[((h x y).1 l).mpr ha];rfl
theorem zDH {H:Hp}:∀l:List Int,zCB H (l.map V.int) (l.map PyData.int)
 | []=>.nil
 | x::r=>.cons (.int x) (zDH r)
theorem zNC (a b:Option Int):scal (oV a) (oV b)=true:=by cases a <;> cases b <;> rfl
theorem zDT:decide (oV none=V.non)=true:=zS rfl
theorem zKS (a b:Option Int):decide (oV a=oV b)=decide (a=b):=decide_eq_decide.mpr ⟨fun h=>by
 cases a with
 | none=>
  cases b with
  | none=>rfl
  | some b=>cases h
 | some a=>
  cases b with
  | none=>cases h
  | some b=>rw[V.int.inj h],fun h=>by rw[h]⟩
inductive zKo (H:Hp)(fl:Addr)(n:Int)(ts:List T3)(M:lLO):Prop
 | mk:∀rs:List Addr,(H fl=some (.lst (rs.map V.ref)))->(zCz H rs M)->(Rows ts n M)->zKo H fl n ts M
noncomputable def zCN (H:Hp)(fl:Addr)(n:Int)(ts:List T3)(M:lLO):Prop:=zKo H fl n ts M
theorem zNH {M:lLO}(R:Rows ts n M):Sqm n M:=⟨R.1,fun r hr=>by obtain⟨i,hi,e⟩:=zj hr;have h1:=R.1;have:=(R.2 (i:Int) (by omega) (by omega)).ln;rw[zAu,zE,zA hi,Option.getD_some,e] at this;exact this⟩
theorem zCN.keep {H H':Hp}{fl:Addr}{n:Int}{ts:List T3}{M:lLO}(h:zCN H fl n ts M)(k:∀b ys,H b=some (.lst ys)->H' b=some (.lst ys)):zCN H' fl n ts M:=by obtain⟨rs,a,b,c⟩:=h;exact⟨rs,k _ _ a,b.keep fun b ys e _=>k b ys e,c⟩
theorem zCN.get {H:Hp}{fl:Addr}{n:Int}{ts:List T3}{M:lLO}(h:zCN H fl n ts M){x y:Int}(hx:0<=x)(hx':x<n)(hy:0<=y)(hy':y<n):
 ∃(rs:List V)(r:Addr)(row:List V),H fl=some (.lst rs)/\atI rs x=some (.ref r)/\H r=some (.lst row)/\atI row y=some (oV (mat M x y))/\Len ts x y (mat M x y):=by
 obtain⟨rs,a,b,c⟩:=h;obtain⟨r,row,e1,e2,e3,e4,e5,e6⟩:=b.get (zNH c) hx hx';have L:=c.2 x hx hx';rw[e3] at L;refine⟨_,r,_,a,zBQ hx (by rw[zM,e1];rfl),e5,?_,?_⟩
 . rw[<-e6];exact zHR e4 hy hy'
 . rw[<-e6];exact L.len y hy hy'
noncomputable def onB (M:lLO)(p x y:Int):Bool:=match mat M x y with
 | none=>false
 | some d=>decide (oadd (mat M x p) (mat M p y)=some d)
variable {fl:Addr}
theorem zJn {M:lLO}(h:zCN H fl n ts M){p:Int}(hp:0<=p)(hp':p<n)(hx:0<=x)(hx':x<n)(hy:0<=y)(hy':y<n):onB M p x y=true↔Btw ts x y p:=by
 obtain⟨_,_,_,_,_,_,_,l1⟩:=h.get hx hx' hy hy';obtain⟨_,_,_,_,_,_,_,l2⟩:=h.get hx hx' hp hp';obtain⟨_,_,_,_,_,_,_,l3⟩:=h.get hp hp' hy hy';unfold onB;constructor
 . intro z;cases e:mat M x y with
   | none=>rw[e] at z;cases z
   | some d=>rw[e] at z l1;obtain⟨a,b,e1,e2,e3⟩:=zF5 (of_decide_eq_true z);rw[e1] at l2;rw[e2] at l3;exact⟨a,b,l2,l3,by rw[e3];exact l1⟩
 . rintro ⟨a,b,h1,h2,h3⟩;have e1:=Len.uniq l1 (show Len ts x y (some (a+b)) from h3);have e2:=Len.uniq l2 (show Len ts x p (some a) from h1);have e3:=Len.uniq l3 (show Len ts p y (some b) from h2);rw[e1,e2,e3];exact zS rfl
inductive KP_r (kvs:List (List Key×V)):Prop
 | mk:∀ks:List (List Int),(kvs.map (·.1)=ks.map (List.map Sum.inl))->(∀k∈ks,∃a b:Int,k=[a,b])->KP_r kvs
noncomputable def KP (kvs:List (List Key×V)):Prop:=KP_r kvs
theorem KP.nil:KP []:=⟨[],rfl,fun k h=>by simp at h⟩
theorem KP.put {z:Int}{v:V}(h:KP kvs):KP (zCs kvs [Sum.inl x,Sum.inl z] v):=by
 obtain⟨ks,h1,h2⟩:=h;unfold zCs;split
 . refine⟨ks,?_,h2⟩;rw[<-h1,zAd];refine zBa fun kv _=>?_;show (if kv.1=_ then (kv.1,v) else kv).1=kv.1
   split <;> rfl
 . refine⟨ks++[[x,z]],by rw[zQ,zQ,h1];rfl,fun k hk=>?_⟩;rcases zm.mp hk with q | q
   . exact h2 k q
   . exact⟨x,z,by simpa using q⟩
inductive zHG (vs:List V)(H:Hp)(Q:VK):Prop
 | mk:∀(wa:Addr)(n:Int)(ts:List T3),(vs=[.ref wa])->(zB3 H wa n ts)->(∀(d:Addr)(kvs:List (List Key×V))(H':Hp),zAo H H'->H' d=some (.dT kvs)->PD ts kvs->kvs.length<=2*ts.length->KP kvs->Q (.ref d) H')->zHG vs H Q
noncomputable def zMA:Sp:=fun vs H Q _=>zHG vs H Q
inductive zL7 (vs:List V)(H:Hp)(Q:VK):Prop
 | mk:∀(fl:Addr)(n:Int)(ts:List T3)(M:lLO)(p x y:Int),(vs=[.ref fl,.int p,.int x,.int y])->(zCN H fl n ts M)->(0<=p)->(p<n)->(0<=x)->(x<n)->(0<=y)->(y<n)->(Q (.bl (onB M p x y)) H)->zL7 vs H Q
noncomputable def spOn:Sp:=fun vs H Q _=>zL7 vs H Q
inductive zI8 (vs:List V)(H:Hp)(Q:VK):Prop
 | mk:∀(wa:Addr)(n:Int)(ts:List T3),(vs=[.ref wa])->(zB3 H wa n ts)->(∀(d:Addr)(kvs:List (List Key×V))(H':Hp),zAo H H'->H' d=some (.dT kvs)->PD ts kvs->Q (.ref d) H')->zI8 vs H Q
noncomputable def zM7:Sp:=fun vs H Q _=>zI8 vs H Q
inductive zIy (vs:List V)(H:Hp)(Q:VK):Prop
 | mk:∀(wa fl:Addr)(n:Int)(ts:List T3)(M:lLO)(x y:Int),(vs=[.ref wa,.ref fl,.int x,.int y])->(zB3 H wa n ts)->(zCN H fl n ts M)->(0<=x)->(x<n)->(0<=y)->(y<n)->(∀(l:Addr)(xs:List Int)(H':Hp),zAo H H'->H' l=some (.lst (xs.map V.int))->xs.Pairwise (· < ·)->(∀p,p∈xs↔Nxt ts x y p)->Q (.ref l) H')->zIy vs H Q
noncomputable def zM6:Sp:=fun vs H Q _=>zIy vs H Q
theorem scOn:zAE ["_law_far_here","_law_place","_law_one","_law_other","_law_due"] qAH (defScope sOn):=fS0
theorem ok_on (F:Fun K "_law_on" "_law_on" sOn f fd') (FA:FuB K mg "_law_added" sAdd fA fdA qAG):zAb P w K mg base CX0 2 f fd' qAH spOn:=by
 have GA:zAb P w K mg base CX0 1 fA fdA qAG zNA:=zMb FA.F;refine F.okD scOn fun _ A _ _ H vs Q E hr h=>?_;obtain⟨fl,n,ts,M,p,x,y,rfl,FR,hp,hp',hx,hx',hy,hy',k⟩:=h;refine⟨_,zR (zAi (i:=4) scOn.nd (zu zAC (zu zAC (pv 0) (pv 2)) (pv 3)))
  (zY (zAH (zCa (zBb zCu (pv 4) zA0 (zAB _)) (zCp (zBb zCK (zAI GA hr FA (zD (zu zAC (zu zAC (pv 0) (pv 2)) (pv 1)) (zD (zu zAC (zu zAC (pv 0) (pv 1)) (pv 3)) zL))) (pv 4) (zAB _)))))),?_⟩
 obtain⟨r1,a1,w1,f1,g1,i1,j1,_⟩:=FR.get hx hx' hy hy';obtain⟨r2,a2,w2,f2,g2,i2,j2,_⟩:=FR.get hx hx' hp hp';obtain⟨r3,a3,w3,f3,g3,i3,j3,_⟩:=FR.get hp hp' hy hy';refine⟨_,rfl,_,rfl,fl,_,_,.ref a1,rfl,rfl,SqL.of f1,g1,_,rfl,a1,_,_,_,rfl,rfl,SqL.of i1,j1,?_⟩;refine⟨_,rfl,rfl,_,rfl,?_⟩;unfold onB at k;cases e:mat M x y with
 | none=>rw[e] at k;exact ifF (by rw[zDT];rfl) k
 | some d=>rw[e] at k;refine ifT (by rw[zBx];rfl) ?_;refine⟨_,rfl,_,rfl,fl,_,_,.ref a2,rfl,rfl,SqL.of f2,g2,_,rfl,a2,_,_,_,rfl,rfl,SqL.of i2,j2,?_⟩;refine⟨_,rfl,_,rfl,fl,_,_,.ref a3,rfl,rfl,SqL.of f3,g3,_,rfl,a3,_,_,_,rfl,rfl,SqL.of i3,j3,?_⟩;refine⟨_,_,rfl,_,rfl,zNC _ (some d),?_⟩;rw[zKS];exact k
theorem zJK:zAE ["_law_web_here","_law_found","_law_a","_law_b","_law_long"] qAJ (defScope zMJ):=fS0
theorem zJr (F:Fun K "_law_joined" "_law_joined" zMJ f fd'):zAb P w K mg base CX0 1 f fd' qAJ zMA:=by
 refine F.okD zJK fun _ A _ _ H vs Q E hr h=>?_;obtain⟨wa,n,ts,rfl,W,k⟩:=h;obtain⟨ta,tys,hwa,hta,TA,G⟩:=id W;have hlt:tys.length=ts.length:=by rw[TA.length,zB]
 have hu:=zGn hr;refine⟨_,zR (zAi (i:=1) zJK.nd zHZ)
  (zR (zA6 PassesOwn.never rfl (zB9 (zu zAK (pv 0) zf)) (zCS rfl (zAD (zv (i:=2) zJK.nd rfl (Or.inl rfl)) (zAD (zv (i:=3) zJK.nd rfl (Or.inl rfl)) (zAD (zv (i:=4) zJK.nd rfl (Or.inl rfl)) zBh))))
   (zR (zD4 hu (pv 1) (zAv (zD (pv 2) (zD (pv 3) zL))) (pv 4) rfl) (zY (zD4 hu (pv 1) (zAv (zD (pv 3) (zD (pv 2) zL))) (pv 4) rfl))))
  (zY (zAH (pv 1)))),?_⟩
 intro d hd;refine⟨_,rfl,wa,_,_,_,rfl,rfl,SqT.of (zH hd _ _ hwa),rfl,ta,rfl,⟨_,SqT.of (zH hd _ _ hta)⟩,zEM (K:=K) (a:=ta) (xs:=tys)
  (fun j σ H5=>Ex4 fun (v2 v3 v4:Option V)(kvs:List (List Key×V))=>σ=[some (.ref wa),some (.ref d),v2,v3,v4]/\zAo H H5/\H5 d=some (.dT kvs)/\kvs.length<=2*j/\PD (ts.take j) kvs/\KP kvs)
  ⟨_,_,_,[],rfl,zH hd,zI,zK _,PD.nil,KP.nil⟩ (fun j σ H5 _ ⟨_,_,_,_,_,s5,_⟩=>SqT.of (s5 _ _ hta)) ?turn1 ?after1⟩
 case turn1=>
  rintro j y σ H5 hj ⟨v2,v3,v4,kvs,rfl,s5,hd5,hkl,pd,kp⟩;obtain⟨ya,ky,rfl,hky,hya,_⟩:=TA.get hj;rw[zM] at hky;obtain⟨⟨x,z,c⟩,htj,rfl⟩:∃t:T3,ts[j]?=some t/\tl t=ky:=by
   cases e:ts[j]? with
   | none=>rw[e] at hky;cases hky
   | some t=>rw[e] at hky;exact⟨t,rfl,zT hky⟩
  have hjl:j<ts.length:=(zF.mp htj).1;have h64:=G.len;refine⟨ya,_,rfl,SqT.of (s5 _ _ hya),rfl,_,_,rfl,_,_,rfl,_,_,rfl,rfl,?_⟩;refine⟨_,rfl,_,rfl,_,rfl,_,rfl,by show 2<=sizeLine;decide,fun p hp=>?_⟩;refine⟨d,_,rfl,zKp.t (k:=[Sum.inl x,Sum.inl z]) (zH hp _ _ hd5) zI (zAh (by omega)),?_⟩;refine⟨_,rfl,_,rfl,_,rfl,_,rfl,by show 2<=sizeLine;decide,fun p2 hp2=>?_⟩;refine⟨d,_,rfl,zKp.t (k:=[Sum.inl z,Sum.inl x]) (zH hp2 _ _ zI) zI (zAh (zAM (zBw _ _ _) (by omega))),?_⟩;refine⟨_,_,_,_,rfl,?_,zI,zAM (zBw _ _ _) (zAM (Nat.succ_le_succ (zBw _ _ _)) (by omega)),?_,(kp.put).put⟩
  . have a1:zAo H (upd (upd H5 p (.tup [.int x,.int z])) d (.dT (zCs kvs [Sum.inl x,Sum.inl z] (.int c)))):=zAV (s5.trans (zH hp)) hd;exact zAV (a1.trans (zH hp2)) hd
  . rw[zy,htj];refine PD.put G (post:=ts.drop (j+1)) ?_ pd;have e1:ts.drop j=(x,z,c)::ts.drop (j+1):=by rw[zAz hjl];rw[zA hjl] at htj;rw[zT htj]
    rw[<-e1,List.take_append_drop]
 case after1=>
  rintro σ H5 ⟨v2,v3,v4,kvs,rfl,s5,hd5,hkl,pd,kp⟩;rw[hlt,zh (zK _)] at pd;exact⟨_,rfl,k d kvs H5 s5 hd5 pd (by rw[hlt] at hkl;exact hkl) kp⟩
theorem zMY (F:Fun K "_law_joined" "_law_joined" zMJ f fd'):zAb P w K mg base CX0 1 f fd' qAJ zM7:=(zJr F).imp fun _ _ _ _ ⟨wa,n,ts,h1,h2,k⟩=>⟨wa,n,ts,h1,h2,fun d kvs H' a b c _ _=>k d kvs H' a b c⟩
noncomputable def nb (kvs:List (List Key×V))(M:lLO)(x y d p:Int):Bool:=match zCL kvs [Sum.inl x,Sum.inl p],mat M p y with
 | some (.int l),some b=>decide (l+b=d)
 | _,_=>false
theorem zK3:zAE ["_law_web_here","_law_far_here","_law_one","_law_other","_law_due","_law_pairs","_law_some_here"] qAD (defScope sNxs):=fS0
variable {fJ:Addr}{fdJ:FuncData}
theorem ok_nxs (F:Fun K "_law_nexts" "_law_nexts" sNxs f fd') (FJ:FuB K mg "_law_joined" zMJ fJ fdJ qAJ) (mRange:mg "range"=none):zAb P w K mg base CX0 2 f fd' qAD zM6:=by
 have GJ:zAb P w K mg base CX0 1 fJ fdJ qAJ zM7:=zMY FJ.F;refine F.okD zK3 fun _ A _ _ H vs Q E hr h=>?_;obtain⟨wa,fl,n,ts,M,x,y,rfl,W,FR,hx,hx',hy,hy',k⟩:=h;obtain⟨ta,tys,hwa,hta,TA,G⟩:=id W;have hu:=zGn hr;have hn1:=G.n1;have hn24:=G.n24;refine⟨_,zR (zC4 (i:=4) zK3.nd rfl (Or.inr rfl) (zu zAC (zu zAC (pv 1) (pv 2)) (pv 3)))
  (zR (zA8 (PW.pt (zEe (zAA zCK (pv 2) (pv 3) (zAB _)) (zDJ (zAA zCc (pv 4) zA0 (zAB _))))) (zY (zAH (zBV zL))) zAN)
  (zR (zC4 (i:=5) zK3.nd rfl (Or.inr rfl) (zAI GJ hr FJ (zD (pv 0) zL)))
  (zR (zCf (i:=6) (own:=["_law_place"]) (cn:=["_law_one","_law_pairs"]) (ci:=[2,5]) zK3.nd rfl (Or.inl rfl) rfl (csc rfl rfl) ⟨rfl,rfl,rfl,rfl,rfl,rfl,trivial⟩ rfl
   (zAl rfl mRange (zD (zu zAK (pv 0) zf) zL)) (fun _ _ _ _=>zCJ)
   (fun _ _ _ _=>zCt (zFx (zJk hu (zAv (zD (pv 1) (zD (pv 0) zL))) (pv 2)))) (fun _ _ _ _=>pv 0))
  (zY (zAH (zBi (own:=["_law_place"]) (cn:=["_law_pairs","_law_one","_law_far_here","_law_other","_law_due"]) (ci:=[5,2,1,3,4]) rfl (csc rfl rfl) ⟨rfl,rfl,rfl,rfl,rfl,rfl,rfl,rfl,rfl,rfl,rfl,rfl,rfl,rfl,rfl,trivial⟩ rfl
   (zCE (pv 6)) (fun _ _ _ _=>zCJ)
   (fun _ _ _ _=>zCt (zAA zCK (zAw zBs (zCg hu (pv 1) (zAv (zD (pv 2) (zD (pv 0) zL))) (fun _ _=>rfl)) (zu zCP (zu zCP (pv 3) (pv 0)) (pv 4))) (pv 5) (zAB _)))
   (fun _ _ _ _=>pv 0))))))),?_⟩
 obtain⟨r1,a1,w1,f1,g1,i1,j1,l1⟩:=FR.get hx hx' hy hy';refine⟨_,rfl,_,rfl,fl,_,_,.ref a1,rfl,rfl,SqL.of f1,g1,_,rfl,a1,_,_,_,rfl,rfl,SqL.of i1,j1,?_⟩;refine⟨_,rfl,_,rfl,rfl,_,rfl,?_⟩;by_cases hxy:x=y
 . refine ifT (zS (congrArg V.int hxy)) (ifT rfl ?_);exact⟨zk _,fun l hl=>k l [] _ (zH hl) zI List.Pairwise.nil fun p=>⟨fun z=>by simp at z,fun z=>absurd hxy (Nxt.ne G z)⟩⟩
 refine ifF (zc fun z=>hxy (V.int.inj z)) ?_;refine⟨_,rfl,rfl,_,rfl,?_⟩;cases e:mat M x y with
 | none=>rw[e] at l1;refine ifT zDT ?_;exact⟨zk _,fun l hl=>k l [] _ (zH hl) zI List.Pairwise.nil fun p=>⟨fun z=>by simp at z,fun ⟨l,b,_,_,z⟩=>absurd z.1 (l1 _)⟩⟩
 | some d=>
  rw[e] at l1;have hxy':WM.IsD ts x y d:=l1;refine ifF (zBx d) ?_;refine⟨_,rfl,wa,n,ts,rfl,W,fun dd kvs H1 s1 hd1 pd=>?_⟩;refine⟨_,rfl,wa,_,_,_,rfl,rfl,SqT.of (s1 _ _ hwa),rfl,n,rfl,by omega,by omega,[.int x,.ref dd],rfl,fun D hD=>?_⟩;refine zBz (lo:=0) (n:=n.toNat) (fun q ys H7=>q<=n.toNat/\ys=((lowTo q).filter fun o=>(zCL kvs [Sum.inl x,Sum.inl o]).isSome).map V.int/\zAo H1 H7/\H7 D=some (.lst ys)) ⟨zk _,rfl,zH hD,zI⟩ (fun q ys H7 h=>?_) (fun q ys H7 hq h=>?_) (fun ys H7 h=>?_)
  . obtain⟨hq,rfl,_⟩:=h;rw[zB];refine zAn (zAX _ _) (zAh ?_);rw[lowTo,zB,zAP];omega
  . obtain⟨_,rfl,s7,hD7⟩:=h;rw[zAZ];refine⟨⟨rfl,rfl⟩,?_⟩;refine⟨_,rfl,_,rfl,by show 2<=sizeLine;decide,fun p hp=>?_⟩;refine⟨_,rfl,dd,_,rfl,zDj.t (k:=[Sum.inl x,Sum.inl (q:Int)]) (zH hp _ _ (s7 _ _ hd1)) zI,_,rfl,?_⟩;refine zC1 (fun hc=>?_) (fun hc=>?_)
    . refine⟨_,rfl,zH hp _ _ hD7,hq,?_,zAV (s7.trans (zH hp)) hD,zI⟩;rw[zGE,zBf,zB0 (p:=fun o=>(zCL kvs [Sum.inl x,Sum.inl o]).isSome) hc,List.filter_nil,zQ];rfl
    . refine⟨hq,?_,s7.trans (zH hp),zH hp _ _ ?_⟩
      . rw[zGE,zBf,zB1 (p:=fun o=>(zCL kvs [Sum.inl x,Sum.inl o]).isSome) hc,List.filter_nil,zAG]
      . exact hD7
  . obtain⟨_,rfl,s7,hD7⟩:=h;generalize hsm:((lowTo n.toNat).filter fun o=>(zCL kvs [Sum.inl x,Sum.inl o]).isSome)=sm at hD7 ⊢;have sm_rise:sm.Pairwise (· < ·):=by rw[<-hsm];exact (zDN _).sublist List.filter_sublist
    have sm_mem:∀p,p∈sm↔∃l,Adj ts x p l:=fun p=>by rw[<-hsm,zAQ,pd.some];refine⟨fun h=>h.2,fun h=>⟨mem_ints.mpr ?_,h⟩⟩;obtain⟨c,ha⟩:=h;have:=G.adj ha;omega
    have sm_len:sm.length<=24:=by rw[<-hsm];refine zAM (zAX _ _) ?_;rw[lowTo,zB,zAP];omega
    have nb_iff:∀p,p∈sm.filter (nb kvs M x y d)↔Nxt ts x y p:=fun p=>by
     rw[zAQ,sm_mem];constructor
     . rintro ⟨⟨l,ha⟩,hb⟩;have hadj:=G.adj ha;obtain⟨_,_,_,_,_,_,_,l3⟩:=FR.get (x:=p) (y:=y) (by omega) (by omega) hy hy';unfold nb at hb;rw[((pd x p).1 l).mpr ha] at hb;cases e2:mat M p y with
       | none=>rw[e2] at hb;cases hb
       | some b=>rw[e2] at hb l3;have hs:l+b=d:=of_decide_eq_true hb;exact⟨l,b,ha,l3,by rw[hs];exact hxy'⟩
     . rintro ⟨l,b,ha,h2,h3⟩;have hadj:=G.adj ha;obtain⟨_,_,_,_,_,_,_,l3⟩:=FR.get (x:=p) (y:=y) (by omega) (by omega) hy hy';refine⟨⟨l,ha⟩,?_⟩;unfold nb;rw[((pd x p).1 l).mpr ha,Len.uniq l3 (show Len ts p y (some b) from h2)];exact zS (WM.IsD.uniq h3 hxy')
    refine⟨_,rfl,D,rfl,⟨_,SqL.of hD7⟩,[.ref dd,.int x,.ref fl,.int y,.int d],rfl,fun D2 hD2=>?_⟩;have nDD:D≠D2:=zl hD7 hD2;refine zCw (a:=D) (xs:=sm.map V.int) (fun i ys H8=>ys=((sm.take i).filter (nb kvs M x y d)).map V.int/\zAo H7 H8/\H8 D2=some (.lst ys)) ⟨rfl,zH hD2,zI⟩ (fun i ys H8 h=>?_) (fun i ys H8 h=>?_) (fun i v ys H8 hv h=>?_) (fun ys H8 h=>?_)
    . exact SqL.of (h.2.1 _ _ hD7)
    . rw[h.1,zB];refine zAn (zAX _ _) (zAh ?_);rw[zr];omega
    . obtain⟨rfl,s8,hD8⟩:=h;obtain⟨p,hp,rfl⟩:∃p,sm[i]?=some p/\V.int p=v:=by
       rw[zM] at hv;cases e:sm[i]? with
       | none=>rw[e] at hv;cases hv
       | some p=>rw[e] at hv;exact⟨p,rfl,zT hv⟩
      obtain⟨l,ha⟩:=(sm_mem p).mp (zV hp);have hadj:=G.adj ha;have hval:=((pd x p).1 l).mpr ha;have s18:zAo H H8:=s1.trans (s7.trans s8);refine⟨⟨rfl,rfl⟩,?_⟩;refine⟨_,rfl,_,rfl,_,rfl,by show 2<=sizeLine;decide,fun q hq=>?_⟩;have sq:zAo H (upd H8 q (.tup [.int x,.int p])):=s18.trans (zH hq);obtain⟨r3,a3,w3,f3,g3,i3,j3,l3⟩:=(FR.keep fun b ys e=>sq _ _ e).get (x:=p) (y:=y) (by omega) (by omega) hy hy';obtain⟨b,eb⟩:∃b,mat M p y=some b:=by
       cases e2:mat M p y with
       | none=>rw[e2] at l3;exact absurd ((WM.Way.one ha).symm.trans hxy'.1) (l3 _)
       | some b=>exact⟨b,rfl⟩
      rw[eb] at j3;refine⟨dd,_,rfl,hval ▸ zDj.t (k:=[Sum.inl x,Sum.inl p]) (zH hq _ _ (s8 _ _ (s7 _ _ hd1))) zI,?_⟩;refine⟨_,rfl,_,rfl,fl,_,_,.ref a3,rfl,rfl,SqL.of f3,g3,_,rfl,a3,_,_,_,rfl,rfl,SqL.of i3,j3,l,b,rfl,rfl,?_⟩;refine⟨_,rfl,rfl,_,rfl,?_⟩;have ek:sm.take (i+1)=sm.take i++[p]:=by rw[zy,hp];rfl
      have enb:nb kvs M x y d p=decide (l+b=d):=by unfold nb;rw[hval,eb]
      by_cases hs:l+b=d
      . refine ifT (zS (congrArg V.int hs)) ?_;refine⟨_,rfl,zH hq _ _ hD8,?_,zAV (s8.trans (zH hq)) hD2,zI⟩;rw[ek,zBf,zB0 (by rw[enb];exact zS hs),List.filter_nil,zQ];rfl
      . refine ifF (zc fun z=>hs (V.int.inj z)) ?_;refine⟨?_,s8.trans (zH hq),zH hq _ _ hD8⟩;rw[ek,zBf,zB1 (by rw[enb,zc hs];decide),List.filter_nil,zAG]
    . obtain⟨rfl,s8,hD8⟩:=h;rw[zB,List.take_length] at hD8;exact k D2 _ H8 (s1.trans (s7.trans s8)) hD8 (sm_rise.sublist List.filter_sublist) nb_iff
inductive zHK (vs:List V)(H:Hp)(Q:VK):Prop
 | mk:∀(wa fl:Addr)(n:Int)(ts:List T3)(M:lLO)(v h:Int),(vs=[.ref wa,.ref fl,.int v,.int h])->(zB3 H wa n ts)->(zCN H fl n ts M)->(0<=v)->(v<n)->(0<=h)->(h<n)->((∃d,WM.IsD ts h v d))->(∀(a:Addr)(e:En)(H':Hp),zAo H H'->H' a=some (.tup (eV e))->e.h=h->WM.IsD ts v h e.l->zKt (Nxt ts v h) e.u->zKt (Nxt ts h v) e.d->Q (.ref a) H')->zHK vs H Q
noncomputable def zJE:Sp:=fun vs H Q _=>zHK vs H Q
theorem at0 {l:List Int}:atI ((x::l).map V.int) 0=some (.int x):=zCk (j:=0) rfl
theorem zGI {P:Int->Prop}{xs:List Int}(r:xs.Pairwise (· < ·))(m:∀p,p∈xs↔P p)(ne:∃p,P p):∃x r,xs=x::r/\zKt P (some x):=by
 obtain⟨p,hp⟩:=ne;cases xs with
 | nil=>exact absurd ((m p).mpr hp) (by simp)
 | cons x l=>
  refine⟨x,l,rfl,(m x).mp zZ,fun q hq=>?_⟩;rcases ze.mp ((m q).mpr hq) with e | e
  . omega
  . have:=(zBL.mp r).1 q e;omega
theorem scEnt8:zAE qAC qAC (defScope zH9):=fS0
variable {fN:Addr}{fdN:FuncData}
theorem zNm (F:Fun K "_law_entry" "_law_entry" zH9 f fd') (FN:FuB K mg "_law_nexts" sNxs fN fdN qAD) (GN:zAb P w K mg base CX0 2 fN fdN qAD zM6):
 zAb P w K mg base CX0 3 f fd' qAC zJE:=by
 refine F.okD scEnt8 fun _ A _ _ H vs Q E hr h=>?_;obtain⟨wa,fl,n,ts,M,v,h,rfl,W,FR,v0,v1,h0,h1,⟨d,hd⟩,k⟩:=h;obtain⟨_,_,_,_,_,G⟩:=id W;refine⟨_,zR (zA8 (zAA zCK (pv 2) (pv 3) (zAB _)) (zY (zAH (zAv (zD (pv 3) (zD zf (zD zA0 (zD zA0 zL))))))) zAN)
  (zY (zAH (zAv (zD (pv 3) (zD (zu zAC (zu zAC (pv 1) (pv 2)) (pv 3))
   (zD (zu zAC (zAI GN hr FN (zD (pv 0) (zD (pv 1) (zD (pv 2) (zD (pv 3) zL))))) zf)
   (zD (zu zAC (zAI GN hr FN (zD (pv 0) (zD (pv 1) (zD (pv 3) (zD (pv 2) zL))))) zf) zL))))))),?_⟩
 refine⟨_,rfl,_,rfl,rfl,_,rfl,?_⟩;by_cases c:v=h
 . subst c;refine ifT (zS rfl) ?_;refine⟨_,rfl,(by show 4<=sizeLine;decide),fun p hp=>?_⟩;have hz:zKt (Nxt ts v v) none:=fun p hp=>Nxt.ne G hp rfl;exact k p ⟨v,0,none,none⟩ _ (zH hp) zI rfl (zBu G v) hz hz
 . refine ifF (zc fun z=>c (V.int.inj z)) ?_;obtain⟨rs,r,row,f1,f2,f3,f4,f5⟩:=FR.get v0 v1 h0 h1;have hv:WM.IsD ts v h d:=hd.symm;obtain⟨d',em⟩:∃d',mat M v h=some d':=by
    cases e:mat M v h with
    | some d'=>exact⟨d',rfl⟩
    | none=>rw[e] at f5;exact absurd hv.1 (f5 d)
   rw[em] at f4 f5;refine⟨_,rfl,_,rfl,_,rfl,fl,_,_,.ref r,rfl,rfl,SqL.of f1,f2,_,rfl,r,_,_,_,rfl,rfl,SqL.of f3,f4,?_⟩;refine⟨_,rfl,_,rfl,_,rfl,_,rfl,wa,fl,n,ts,M,v,h,rfl,W,FR,v0,v1,h0,h1,fun l xs H1 s1 hl rise mem=>?_⟩;obtain⟨u,ur,rfl,mu⟩:=zGI rise mem (Nxt.exists G hv c);refine⟨l,_,0,.int u,rfl,rfl,SqL.of hl,at0,?_⟩;refine⟨_,rfl,_,rfl,_,rfl,_,rfl,wa,fl,n,ts,M,h,v,rfl,W.keep s1,FR.keep fun b ys e=>s1 _ _ e,h0,h1,v0,v1,fun l2 xs2 H2 s2 hl2 rise2 mem2=>?_⟩;obtain⟨dn,dr,rfl,md⟩:=zGI rise2 mem2 (Nxt.exists G hd fun z=>c z.symm);refine⟨l2,_,0,.int dn,rfl,rfl,SqL.of hl2,at0,?_⟩;refine⟨(by show 4<=sizeLine;decide),fun p hp=>?_⟩;exact k p ⟨h,d',some u,some dn⟩ _ ((s1.trans s2).trans (zH hp)) zI rfl f5 mu md
inductive zFc (vs:List V)(H:Hp)(Q:VK):Prop
 | mk:∀(wa p:Addr)(n:Int)(ts:List T3)(os:List Int),(vs=[.ref wa,.ref p])->(zB3 H wa n ts)->(H p=some (.tup (os.map V.int)))->(zOB n os)->(∀(l:Addr)(ess:List (List En))(rk:Int->Int)(H':Hp),zAo H H'->zA4 H' l ess->zMv n os rk->zEZ ts n rk ess->(∀es∈ess,∀e∈es,0<=e.l/\e.l<=2376)->Q (.ref l) H')->zFc vs H Q
noncomputable def zI7:Sp:=fun vs H Q _=>zFc vs H Q
theorem zMv.ex (O:zOB n os):∃rk,zMv n os rk:=by
 classical
 refine⟨fun p=>if h:∃i:Nat,os[i]?=some p then ((Classical.choose h:Nat):Int) else 0,fun p h0 h1=>?_⟩
 obtain⟨i,hi,ei⟩:=zj (O.mem (p:=p) h0 h1);have hex:∃i:Nat,os[i]?=some p:=⟨i,by rw[zA hi,ei]⟩;simp only[hex,dif_pos];exact⟨by omega,by rw[zAu];exact Classical.choose_spec hex⟩
variable {h:Int}
theorem zIc (O:zOB n os)(R:zMv n os rk)(h0:0<=h)(h1:h<n)(x0:0<=x)(x1:x<n):x∈os.take (rk h).toNat↔rk x<rk h:=by
 obtain⟨a0,a1⟩:=R h h0 h1;obtain⟨b0,b1⟩:=R x x0 x1;obtain⟨i1,e1⟩:=zF.mp a1;obtain⟨i2,e2⟩:=zF.mp b1;constructor
 . intro m;obtain⟨j,hj,ej⟩:=zj m;rw[zr] at hj;rw[List.getElem_take] at ej;have:=(zB5 O.nd).mp (ej.trans e2.symm);omega
 . intro l;rw[<-e2];exact List.mem_take_iff_getElem.mpr ⟨(rk x).toNat,by omega,rfl⟩
theorem zNv {M:lLO}(G:GW n ts)(FR:zCN H fl n ts M)(O:zOB n os)(R:zMv n os rk)(h0:0<=h)(h1:h<n)(v0:0<=v)(v1:v<n):
 zFM ts rk h v↔(mat M h v).isSome=true/\((os.take (rk h).toNat).filter fun x=>onB M x h v)=[]:=by
 obtain⟨_,_,_,_,_,_,_,l1⟩:=FR.get h0 h1 v0 v1;constructor
 . rintro ⟨⟨d,hd⟩,z⟩;refine⟨?_,List.filter_eq_nil_iff.mpr fun x hx c=>?_⟩
   . cases e:mat M h v with
     | none=>rw[e] at l1;exact absurd hd.1 (l1 d)
     | some _=>rfl
   . have xr:=O.rng x (List.mem_of_mem_take hx);have:=z x ((zJn FR xr.1 xr.2 h0 h1 v0 v1).mp c);have:=(zIc O R h0 h1 xr.1 xr.2).mp hx;omega
 . rintro ⟨z1,z2⟩;refine⟨?_,fun x hx=>?_⟩
   . cases e:mat M h v with
     | none=>rw[e] at z1;cases z1
     | some d=>rw[e] at l1;exact⟨d,l1⟩
   . obtain⟨a,b,ia,_⟩:=id hx;have xr:=ia.1.in_ G h0 h1;by_cases c:rk x<rk h
     . exact absurd ((zJn FR xr.1 xr.2 h0 h1 v0 v1).mpr hx) (List.filter_eq_nil_iff.mp z2 x ((zIc O R h0 h1 xr.1 xr.2).mpr c))
     . omega
theorem int_at {l:List Int}{x:V}(h:(l.map V.int)[i]?=some x):∃y,l[i]?=some y/\V.int y=x:=by
 rw[zM] at h;cases e:l[i]? with
 | none=>rw[e] at h;cases h
 | some y=>rw[e] at h;exact⟨y,rfl,zT h⟩
theorem zC9:zAE ["_law_web_here","_law_order_here","_law_far_here","_law_labels_here","_law_place","_law_entries","_law_hub","_law_sooner"] qAP (defScope zFo):=fS0
variable {fF:Addr}{fdF:FuncData}
theorem zLL (F:Fun K "_law_labels" "_law_labels" zFo f fd') (FF:FuB K mg "_law_far" sFar fF fdF qAJ) (GF:zAb P w K mg base CX0 3 fF fdF qAJ zM8)
 (FO:FuB K mg "_law_on" sOn fO fdO qAH) (GO:zAb P w K mg base CX0 3 fO fdO qAH spOn)
 (FE:FuB K mg "_law_entry" zH9 fE fdE qAC) (GE:zAb P w K mg base CX0 3 fE fdE qAC zJE)
 (mRange:mg "range"=none) (mTuple:mg "tuple"=none):zAb P w K mg base CX0 4 f fd' qAP zI7:=by
 refine F.okD zC9 fun _ A _ _ H vs Q E hr h=>?_;obtain⟨wa,p,n,ts,os,rfl,W,hp,O,k⟩:=h;obtain⟨ta,tys,hwa,_,_,G⟩:=id W;have hn1:=G.n1;have hn24:=G.n24;have hu0:=hr.units0;refine⟨_,zR (zC4 (i:=2) zC9.nd rfl (Or.inr rfl) (zAI GF hr FF (zD (pv 0) zL)))
  (zR (zAi (i:=3) zC9.nd (zBV zL))
  (zR (zA6 PassesOwn.never rfl (zAl rfl mRange (zD (zu zAK (pv 0) zf) zL)) (zv (i:=4) zC9.nd rfl (Or.inr rfl))
   (zR (zAi (i:=5) zC9.nd (zBV zL))
   (zR (zA6 PassesOwn.never rfl (zAl rfl mRange (zD (zu zAK (pv 0) zf) zL)) (zv (i:=6) zC9.nd rfl (Or.inr rfl))
    (zR (zCf (i:=7) (own:=["_law_one"]) (cn:=["_law_far_here","_law_hub","_law_place"]) (ci:=[2,6,4]) zC9.nd rfl (Or.inl rfl) rfl (csc rfl rfl) ⟨rfl,rfl,rfl,rfl,rfl,rfl,rfl,rfl,rfl,trivial⟩ rfl
     (zB9 (zBY zJG (pv 1) zB8 (zBn (pe_bmT PySem.F.slot_tuple_index PySem.F.type_tuple_index zLO (pv 1) (zD (pv 6) zL))))) (fun _ _ _ _=>zCJ)
     (fun _ _ _ _=>zCt (zCI (zAI GO hr FO (zD (pv 1) (zD (pv 0) (zD (pv 2) (zD (pv 3) zL))))))) (fun _ _ _ _=>pv 0))
    (zY (zA8 (PW.pt (zCn (zAA zCu (zu zAC (zu zAC (pv 2) (pv 6)) (pv 4)) zA0 (zAB _)) (zCR (zAA (op_eqE hu0) (pv 7) (zBV zL) (zAB _)))))
     (zY (zBX (zCq PySem.F.plainAttrs_list PySem.F.slot_list_append PySem.F.type_list_append zA7 (pv 5) (zD (zAI GE hr FE (zD (pv 0) (zD (pv 2) (zD (pv 4) (zD (pv 6) zL))))) zL)))) zAN))))
   (zY (zBX (zCq PySem.F.plainAttrs_list PySem.F.slot_list_append PySem.F.type_list_append zA7 (pv 3) (zD (zAr zAT mTuple (zD (pv 5) zL)) zL)))))))
  (zY (zAH (zAr zAT mTuple (zD (pv 3) zL)))))),?_⟩
 refine⟨_,rfl,wa,n,ts,rfl,W,fun fl frs FM H0 s0 hfl FLR FRR=>?_⟩;have FR0:zCN H0 fl n ts FM:=⟨frs,hfl,FLR,FRR⟩;have W0:=W.keep s0;have hwa0:=s0 _ _ hwa;have hp0:=s0 _ _ hp;obtain⟨rk,R⟩:=zMv.ex O;refine⟨zk _,fun D hD=>?_⟩;refine⟨_,rfl,wa,_,_,_,rfl,rfl,SqT.of (zH hD _ _ hwa0),rfl,n,rfl,by omega,by omega,zA3 (lo:=0) (n:=n.toNat) (fun q σ H1=>Ex6 fun (v4 v5 v6 v7:Option V)(bs:List Addr)(ess:List (List En))=>σ=[some (.ref wa),some (.ref p),some (.ref fl),some (.ref D),v4,v5,v6,v7]/\bs.length=q/\ess.length=q/\H1 D=some (.lst (bs.map V.ref))/\(∀(i:Nat)(b:Addr),bs[i]?=some b->∃es,ess[i]?=some es/\zBR H1 b es)/\(∀(i:Nat)(es:List En),ess[i]?=some es->zLo ts n rk i es)/\zAo H0 H1)
  ⟨none,none,none,none,[],[],rfl,rfl,rfl,zI,(fun i b z=>by simp at z),(fun i b z=>by simp at z),zH hD⟩ ?turn ?after⟩
 case after=>
  rintro σ H1 ⟨v4,v5,v6,v7,bs,ess,rfl,hbl,hel,hD1,hlab,hall,s1⟩;refine⟨_,rfl,D,_,rfl,.inl ⟨SqL.of hD1,fun l hl=>?_⟩⟩;refine k l ess rk _ (s0.trans (s1.trans (zH hl))) ⟨bs,zI,by omega,fun i b hb=>?_⟩ R ⟨hel,hall⟩ ?bound
  case bound=>
   intro es hes e he;obtain⟨i,hi,ei⟩:=zj hes;have EO:=(hall i es (by rw[zA hi,ei])).ent e he;exact zJV FRR (by omega) (by omega) EO.rng.1 EO.rng.2 EO.len
  obtain⟨es,e1,e2⟩:=hlab i b hb;exact⟨es,e1,e2.same (zH hl)⟩
 case turn=>
  rintro q σ H1 hq ⟨v4,v5,v6,v7,bs,ess,rfl,hbl,hel,hD1,hlab,hall,s1⟩;rw[zAZ];have q0:(0:Int)<=q:=by omega
  have qn:(q:Int)<n:=by omega
  refine⟨zk _,fun E' hE=>?_⟩;have nED:D≠E':=zl hD1 hE;refine⟨_,rfl,wa,_,_,_,rfl,rfl,SqT.of (zH hE _ _ (s1 _ _ hwa0)),rfl,n,rfl,by omega,by omega,zA3 (lo:=0) (n:=n.toNat) (fun j σ H2=>Ex4 fun (v6 v7:Option V)(as:List Addr)(es:List En)=>σ=[some (.ref wa),some (.ref p),some (.ref fl),some (.ref D),some (.int q),some (.ref E'),v6,v7]/\H2 E'=some (.lst (as.map V.ref))/\zBO H2 as es/\Hub es/\(∀e∈es,zLq ts n rk q e/\e.h<j)/\(∀h:Int,0<=h->h<j->zFM ts rk h q->∃e∈es,e.h=h)/\es.length<=j/\zAo H1 H2)
   ⟨v6,v7,[],[],rfl,zI,⟨rfl,fun i a z=>by simp at z⟩,List.Pairwise.nil,(fun e z=>by simp at z),(fun h a b=>by omega),zK _,zH hE⟩ ?turn2 ?after2⟩
  case after2=>
   rintro σ H2 ⟨v6,v7,as,es,rfl,hE2,EA,hub,ent,alh,hln,s2⟩;refine⟨_,rfl,.inl ⟨rfl,_,SqL.of (s2 _ _ hD1)⟩,?_⟩;refine⟨_,rfl,E',_,rfl,.inl ⟨SqL.of hE2,fun l hl=>?_⟩⟩;have sl:=zH (o:=.tup (as.map V.ref)) hl;refine⟨D,_,.ref l,rfl,rfl,sl _ _ (s2 _ _ hD1),?_,?_⟩
   . rw[zB];exact zAh (by omega)
   . have kT:∀b ys,H1 b=some (.tup ys)->(upd (upd H2 l (.tup (as.map V.ref))) D (.lst (bs.map V.ref++[.ref l]))) b=some (.tup ys):=fun b ys e=>by
      have hb:b≠D:=fun z=>by rw[z,hD1] at e;cases e
      rw[za hb];exact sl _ _ (s2 _ _ e)
     have nlD:l≠D:=fun z=>by rw[z,s2 _ _ hD1] at hl;cases hl
     have hl':(upd (upd H2 l (.tup (as.map V.ref))) D (.lst (bs.map V.ref++[.ref l]))) l=some (.tup (as.map V.ref)):=by rw[za nlD];exact zI
     refine⟨_,_,_,_,bs++[l],ess++[es],rfl,by rw[zJ,hbl];rfl,by rw[zJ,hel];rfl,by rw[zI,zQ];rfl,fun i b hb=>?_,fun i es' he=>?_,zAV ((s1.trans s2).trans sl) hD⟩
     . by_cases c:i<bs.length
       . rw[zP c] at hb;obtain⟨es',e1,e2⟩:=hlab i b hb;exact⟨es',by rw[zP (by omega)];exact e1,e2.keep kT⟩
       . have hi:i=bs.length:=by have:=(zF.mp hb).1;rw[zJ] at this;simp at this;omega
         subst hi;rw[zO (zK _),zBG] at hb;have eb:l=b:=by simpa using hb
         subst eb;refine⟨es,by rw[zO (by omega),hbl,hel,zBG];rfl,as,hl',EA.keep fun b ys e=>?_,by omega⟩;have hb:b≠D:=fun z=>by rw[z,s2 _ _ hD1] at e;cases e
         rw[za hb];exact sl _ _ e
     . by_cases c:i<ess.length
       . rw[zP c] at he;exact hall i es' he
       . have hi:i=ess.length:=by have:=(zF.mp he).1;rw[zJ] at this;simp at this;omega
         subst hi;rw[zO (zK _),zBG] at he;have ee:es=es':=by simpa using he
         subst ee;rw[hel];exact⟨hub,fun e he=>(ent e he).1,fun h h0 h1 z=>alh h h0 (by omega) z,by omega⟩
  case turn2=>
   rintro j σ H2 hj ⟨v6,v7,as,es,rfl,hE2,EA,hub,ent,alh,hln,s2⟩;rw[zAZ];have j0:(0:Int)<=j:=by omega
   have jn:(j:Int)<n:=by omega
   obtain⟨rj0,hoi⟩:=R (j:Int) j0 jn;obtain⟨hil,hie⟩:=zF.mp hoi;have hp2:=s2 _ _ (s1 _ _ hp0);have hno:∀m,m<(rk j).toNat->os[m]?≠some (j:Int):=fun m hm e=>by obtain⟨hm',em⟩:=zF.mp e;have:=(zB5 O.nd).mp (em.trans hie.symm);omega
   have ec:zDw (os.map V.int) none (some (((rk j).toNat:Nat):Int))=(os.take (rk j).toNat).map V.int:=by unfold zDw;rw[HT.sIx_none,HT.sIx_nat,List.drop_zero,Nat.sub_zero,zB,Nat.min_eq_left (by omega),List.map_take]
   refine⟨_,rfl,_,rfl,⟨p,_,rfl,hp2⟩,_,rfl,p,os,(rk j).toNat,j,rfl,rfl,SqT.of hp2,hoi,hno,(((rk j).toNat:Nat):Int),rfl,p,_,rfl,SqT.of hp2,fun z=>?whole,fun _ t ht=>?_⟩
   case whole=>
    have z2:=z.2;rw[HT.sIx_nat,zB] at z2;omega
   rw[ec];have st:=zH (o:=.tup ((os.take (rk j).toNat).map V.int)) ht;have ht3:(upd H2 t (.tup ((os.take (rk j).toNat).map V.int))) t=some (.tup ((os.take (rk j).toNat).map V.int)):=zI;generalize upd H2 t (.tup ((os.take (rk j).toNat).map V.int))=H3 at st ht3 ⊢;have FR3:zCN H3 fl n ts FM:=FR0.keep fun b ys e=>st _ _ (s2 _ _ (s1 _ _ e));refine⟨t,rfl,⟨_,SqT.of ht3⟩,[.ref fl,.int j,.int q],rfl,fun D3 hD3=>?_⟩;refine zBk (a:=t) (xs:=(os.take (rk j).toNat).map V.int) (fun m ys H4=>ys=(((os.take (rk j).toNat).take m).filter fun x=>onB FM x j q).map V.int/\H4=upd H3 D3 (.lst ys)) ⟨rfl,rfl⟩ (fun m ys H4 z=>?_) (fun m ys H4 z=>?_) (fun m x ys H4 hx z=>?_) (fun ys H4 z=>?_)
   . obtain⟨_,rfl⟩:=z;exact SqT.of (by rw[za (zl ht3 hD3)];exact ht3)
   . obtain⟨rfl,_⟩:=z;rw[zB];refine zAn (zAX _ _) ?_;rw[zr,zr];exact zAh (by have:=O.ln;omega)
   . obtain⟨rfl,rfl⟩:=z;obtain⟨y,hy,rfl⟩:=int_at hx;have yr:=O.rng y (List.mem_of_mem_take (zV hy));have sty:((os.take (rk j).toNat).take (m+1)).filter (fun x=>onB FM x j q)=((os.take (rk j).toNat).take m).filter (fun x=>onB FM x j q)++[y].filter (fun x=>onB FM x j q):=by rw[zy,hy,zBf];rfl
     refine⟨⟨rfl,rfl⟩,?_⟩;refine⟨_,rfl,_,rfl,_,rfl,_,rfl,fl,n,ts,FM,y,j,q,rfl,FR3.keep fun b ys e=>zH hD3 _ _ e,yr.1,yr.2,j0,jn,q0,qn,?_⟩;refine⟨_,rfl,?_⟩;by_cases c:onB FM y j q=true
     . refine ifT c ?_;refine⟨_,rfl,zI,?_,zCd⟩;rw[sty,zB0 (p:=fun x=>onB FM x j q) c,List.filter_nil,zQ];rfl
     . refine ifF (Bool.not_eq_true _ ▸ c) ⟨?_,rfl⟩;rw[sty,zB1 (p:=fun x=>onB FM x j q) c,List.filter_nil,zAG]
   . obtain⟨rfl,rfl⟩:=z;rw[zB,zh (zK _)];have sD3:=zH (o:=.lst (((os.take (rk j).toNat).filter fun x=>onB FM x j q).map V.int)) hD3;have hDl:(upd H3 D3 (.lst (((os.take (rk j).toNat).filter fun x=>onB FM x j q).map V.int))) D3=some (.lst (((os.take (rk j).toNat).filter fun x=>onB FM x j q).map V.int)):=zI;generalize upd H3 D3 (.lst (((os.take (rk j).toNat).filter fun x=>onB FM x j q).map V.int))=H4 at sD3 hDl ⊢;have FR4:zCN H4 fl n ts FM:=FR3.keep fun b ys e=>sD3 _ _ e;have s24:zAo H2 H4:=st.trans sD3;have key:=zNv G FR4 O R j0 jn q0 qn;obtain⟨rs1,r1,row1,f1,g1,i1,j1,l1⟩:=FR4.get (x:=(j:Int)) (y:=(q:Int)) j0 jn q0 qn;refine⟨_,rfl,_,rfl,fl,_,_,.ref r1,rfl,rfl,SqL.of f1,g1,_,rfl,r1,_,_,_,rfl,rfl,SqL.of i1,j1,rfl,_,rfl,?_⟩;have stay:∀{Hx:Hp},zAo H2 Hx->¬ zFM ts rk j q->∃(v6 v7:Option V)(as:List Addr)(es:List En),[some (V.ref wa),some (.ref p),some (.ref fl),some (.ref D),some (.int q),some (.ref E'),some (.int j),some (.ref D3)]=[some (.ref wa),some (.ref p),some (.ref fl),some (.ref D),some (.int q),some (.ref E'),v6,v7]/\Hx E'=some (.lst (as.map V.ref))/\zBO Hx as es/\Hub es/\(∀e∈es,zLq ts n rk q e/\e.h<((j+1:Nat):Int))/\(∀h:Int,0<=h->h<((j+1:Nat):Int)->zFM ts rk h q->∃e∈es,e.h=h)/\es.length<=j+1/\zAo H1 Hx:=fun {Hx} sx nh=>
      ⟨_,_,as,es,rfl,sx _ _ hE2,EA.keep fun b ys e=>sx _ _ e,hub,fun e he=>⟨(ent e he).1,by have:=(ent e he).2;omega⟩,fun h h0 h1 z=>by
       by_cases c:h=j
       . subst c;exact absurd z nh
       . exact alh h h0 (by omega) z,by omega,s2.trans sx⟩
     cases e:mat FM j q with
     | none=>
      have nh:¬ zFM ts rk j q:=fun z=>by have:=(key.mp z).1;rw[e] at this;cases this
      refine ifF (by rw[zDT];rfl) ?_;exact zCr (let ⟨x0,x1,x2,x3,x4,x5,x6,x7,x8,x9,x10,x11⟩:=stay s24 nh;⟨x0,x1,x2,x3,x4,x5,x6,x7,x8,x9,x10,x11⟩)
     | some d=>
      refine ifT (by rw[zBx];rfl) ?_;refine⟨_,rfl,zk _,fun b hb=>?_⟩;have sb:=zH (o:=.lst []) hb;refine⟨D3,b,_,rfl,rfl,SqL.of (sb _ _ hDl),SqL.of zI,_,rfl,?_⟩;by_cases c:((os.take (rk j).toNat).filter fun x=>onB FM x j q)=[]
      . have yh:zFM ts rk j q:=key.mpr ⟨by rw[e];rfl,c⟩;refine ifT (by rw[c];rfl) ?_;have s25:=s24.trans sb;generalize upd H4 b (.lst [])=H5 at s25 sb ⊢;refine⟨_,rfl,.inl ⟨rfl,_,SqL.of (s25 _ _ hE2)⟩,?_⟩;refine⟨_,rfl,_,rfl,_,rfl,_,rfl,wa,fl,n,ts,FM,q,j,rfl,W0.keep (s1.trans (s2.trans s25)),FR4.keep fun b ys e=>sb _ _ e,q0,qn,j0,jn,yh.1,fun a en H6 s6 ha eh el eu ed=>?_⟩;have hE6:=s6 _ _ (s25 _ _ hE2);refine⟨E',_,.ref a,rfl,rfl,hE6,?_,?_⟩
        . rw[zB,EA.1];exact zAh (by omega)
        . have kT:∀b ys,H2 b=some (.tup ys)->(upd H6 E' (.lst (as.map V.ref++[.ref a]))) b=some (.tup ys):=fun b ys e=>by
           have hb:b≠E':=fun z=>by rw[z,hE2] at e;cases e
           rw[za hb];exact s6 _ _ (s25 _ _ e)
          have naE:a≠E':=fun z=>by rw[z,hE6] at ha;cases ha
          have EO:zLq ts n rk q en:=by refine⟨by rw[eh];exact⟨j0,jn⟩,by rw[eh];exact yh,by rw[eh];exact el,by rw[eh];exact eu,by rw[eh];exact ed⟩
          refine⟨_,_,as++[a],es++[en],rfl,by rw[zI,zQ];rfl,(EA.keep kT).snoc (by rw[za naE];exact ha),?_,fun e he=>?_,fun h h0 h1 z=>?_,by rw[zJ];show es.length+1<=j+1;omega,zAV ((s2.trans s25).trans s6) hE⟩
          . refine List.pairwise_append.mpr ⟨hub,List.pairwise_singleton _ _,fun x hx y hy=>?_⟩;have ey:y=en:=by simpa using hy
            rw[ey,eh];exact (ent x hx).2
          . rcases zm.mp he with m | m
            . exact⟨(ent e m).1,by have:=(ent e m).2;omega⟩
            . have ee:e=en:=by simpa using m
              rw[ee];exact⟨EO,by rw[eh];omega⟩
          . by_cases ch:h=j
            . exact⟨en,by simp,by rw[eh,ch]⟩
            . obtain⟨e',m,he'⟩:=alh h h0 (by omega) z;exact⟨e',zw _ m,he'⟩
      . have nh:¬ zFM ts rk j q:=fun z=>c (key.mp z).2;refine ifF ?_ (let ⟨x0,x1,x2,x3,x4,x5,x6,x7,x8,x9,x10,x11⟩:=stay (s24.trans sb) nh;⟨x0,x1,x2,x3,x4,x5,x6,x7,x8,x9,x10,x11⟩);cases z:((os.take (rk j).toNat).filter fun x=>onB FM x j q) with
        | nil=>exact absurd z c
        | cons _ _=>rfl
theorem pe_as {e:Expr}{te te':TE}(h:PE X e te)(m:∀ σ H Q,te' σ H Q->te σ H Q):PE X e te':=fun pins s σ H Q I q=>h pins s σ H Q I (m σ H Q q)
theorem zDd {X:Cx}{st:List Stmt}:PSs X st (fun _ _ _=>False):=fun _ _ _ _ _ _ h=>h.elim
theorem zFz {X:Cx}{st:Stmt}{u u':TS}(h:PS X st u)(m:∀D σ H,u' D σ H->u D σ H):PS X st u':=fun pins s σ H D I q=>h pins s σ H D I (m D σ H q)
structure EOk (n:Int)(e:En):Prop where
 rng:0<=e.h/\e.h<n
 nn:0<=e.l
 own:e.l=0->e.u=none/\e.d=none
 far:e.l≠0->∃u d,e.u=some u/\e.d=some d/\0<=u/\u<n/\0<=d/\d<n
structure zDn (n:Int)(es:List En):Prop where
 ent:∀e∈es,EOk n e
 hub:Hub es
 len:(es.length:Int)<=n
 one:(es.map (·.l)).countP (fun x=>x==0)=1
noncomputable def plB (n:Int):Option Int->Bool
 | none=>false
 | some x=>decide (0<=x) && decide (x<=n-1)
theorem zGd:plB n o=true↔∃x,o=some x/\0<=x/\x<n:=by
 cases o with
 | none=>exact⟨(fun z=>by cases z),fun ⟨_,z,_⟩=>by cases z⟩
 | some x=>show (decide (0<=x) && decide (x<=n-1))=true↔_;rw[zAk,decide_eq_true_iff,decide_eq_true_iff];exact⟨fun z=>⟨x,rfl,z.1,by omega⟩,fun ⟨y,e,z⟩=>by cases e;omega⟩
noncomputable def zLe (n:Int)(e:En):Bool:=plB n (some e.h) && (!decide (e.l<0) && if e.l=0 then decide (oV e.u=V.non) && decide (oV e.d=V.non) else plB n e.u && plB n e.d)
theorem zHj:zLe n e=true↔EOk n e:=by
 unfold zLe;rw[zAk,zAk,zGd,Bool.not_eq_true',decide_eq_false_iff_not];have nn:∀{o:Option Int},decide (oV o=V.non)=true↔o=none:=fun {o}=>by rw[zJt];cases o <;> simp
 by_cases c:e.l=0
 . rw[if_pos c,zAk,nn,nn];constructor
   . rintro ⟨⟨x,hx,h0,h1⟩,hl,hu,hd⟩;cases hx;exact⟨⟨h0,h1⟩,by omega,fun _=>⟨hu,hd⟩,fun z=>absurd c z⟩
   . intro O;exact⟨⟨_,rfl,O.rng⟩,by omega,O.own c⟩
 . rw[if_neg c,zAk,zGd,zGd];constructor
   . rintro ⟨⟨x,hx,h0,h1⟩,hl,⟨u,hu,u0,u1⟩,d,hd,d0,d1⟩;cases hx;exact⟨⟨h0,h1⟩,by omega,fun z=>absurd z c,fun _=>⟨u,d,hu,hd,u0,u1,d0,d1⟩⟩
   . intro O;obtain⟨u,d,hu,hd,u0,u1,d0,d1⟩:=O.far c;exact⟨⟨_,rfl,O.rng⟩,by have:=O.nn;omega,⟨u,hu,u0,u1⟩,d,hd,d0,d1⟩
noncomputable def zK8:List Int->Bool
 | a::b::r=>decide (a<b) && zK8 (b::r)
 | _=>true
theorem zJX:∀(ms:List Int),zK8 ms=(List.range (ms.length-1)).all fun k=>decide (ms.getD k 0<ms.getD (k+1) 0)
 | []=>rfl
 | [_]=>rfl
 | a::b::r=>by show (decide (a<b) && zK8 (b::r))=_;rw[zJX (b::r)];show _=(List.range (r.length+1)).all _;rw[List.range_succ_eq_map,List.all_cons,List.all_map];rfl
theorem zHT:∀(ms:List Int),zK8 ms=true↔ms.Pairwise (· < ·)
 | []=>by simp[zK8]
 | [_]=>by simp[zK8]
 | a::b::r=>by
  have ih:=zHT (b::r);show (decide (a<b) && zK8 (b::r))=true↔_;rw[zAk,ih,decide_eq_true_iff,zBL (a:=a)];constructor
  . rintro ⟨h1,h2⟩;refine⟨fun x hx=>?_,h2⟩;rcases ze.mp hx with rfl | hx
    . exact h1
    . have:=(zBL.mp h2).1 x hx;omega
  . rintro ⟨h1,h2⟩;exact⟨h1 b zZ,h2⟩
inductive zIt (vs:List V)(H:Hp)(Q:VK):Prop
 | mk:∀(p:Addr)(xs:List Int),(vs=[.ref p])->(H p=some (.lst (xs.map V.int)))->(xs.length<=1000)->(∀H',zAo H H'->Q (.bl (zK8 xs)) H')->zIt vs H Q
noncomputable def spRis:Sp:=fun vs H Q _=>zIt vs H Q
inductive zHB (vs:List V)(H:Hp)(Q:VK):Prop
 | mk:∀o:Option Int,(vs=[oV o])->(Q (.bl o.isSome) H)->zHB vs H Q
noncomputable def zIz:Sp:=fun vs H Q _=>zHB vs H Q
inductive zIn (vs:List V)(H:Hp)(Q:VK):Prop
 | mk:∀(o:Option Int)(n:Int),(vs=[oV o,.int 0,.int (n-1)])->(Q (.bl (plB n o)) H)->zIn vs H Q
noncomputable def spWiO:Sp:=fun vs H Q _=>zIn vs H Q
inductive zIv (vs:List V)(H:Hp)(Q:VK):Prop
 | mk:∀(n:Int)(o:Option Int),(vs=[.int n,oV o])->(Q (.bl (plB n o)) H)->zIv vs H Q
noncomputable def spPlO:Sp:=fun vs H Q _=>zIv vs H Q
inductive zHJ (vs:List V)(H:Hp)(Q:VK):Prop
 | mk:∀(n:Int)(a:Addr)(e:En),(vs=[.int n,.ref a])->(H a=some (.tup (eV e)))->(Q (.bl (zLe n e)) H)->zHJ vs H Q
noncomputable def zME:Sp:=fun vs H Q _=>zHJ vs H Q
inductive zHF (vs:List V)(H:Hp)(Q:VK):Prop
 | mk:∀(n:Int)(p:Addr)(es:List En),(vs=[.int n,.ref p])->(zBR H p es)->(∀(b:Bool) H',(b=true↔zDn n es)->zAo H H'->Q (.bl b) H')->zHF vs H Q
noncomputable def zL9:Sp:=fun vs H Q _=>zHF vs H Q
inductive zFb (vs:List V)(H:Hp)(Q:VK):Prop
 | mk:∀(n:Int)(l:Addr)(ess:List (List En)),(vs=[.int n,.ref l])->(zA4 H l ess)->((ess.length:Int)=n)->(n<=24)->(∀(b:Bool) H',(b=true↔∀es∈ess,zDn n es)->zAo H H'->Q (.bl b) H')->zFb vs H Q
noncomputable def zI6:Sp:=fun vs H Q _=>zFb vs H Q
theorem scRis:zAE qAl qAl (defScope sRis):=fS0
theorem ok_ris (F:Fun K "is_rising" "is_rising" sRis f fd') (mLen:mg "len"=none) (mRange:mg "range"=none) (mAll:mg "all"=none):zAb P w K mg base CX0 1 f fd' qAl spRis:=by
 refine F.okD scRis fun _ A _ _ H vs Q E hr h=>?_;obtain⟨p,xs,rfl,hp,hl,k⟩:=h;refine⟨_,zY (zAH (zAJ (zFK rfl) mAll (zD (zBi (own:=["k"]) (cn:=qAl) (ci:=[0]) rfl (csc rfl rfl) ⟨rfl,rfl,rfl,trivial⟩ rfl
  (zD6 rfl mRange (zD zf (zD (zAJ zAm mLen (zD (pv 0) zL)) zL))) (fun _ _ _ _=>zCJ) (fun _ _ _ _=>zBP)
  (fun _ _ _ _=>zBb zF4 (zu zCP (pv 1) (zAw zC6 (pv 0) zf)) (zu zCP (pv 1) (pv 0)) (zAB _))) zL))),?_⟩
 refine⟨_,rfl,p,_,rfl,.inl (SqL.of hp),1,_,rfl,⟨by decide,by decide,by rw[zB];omega,by rw[zB];omega⟩,[.ref p],rfl,fun D hD=>?_⟩;refine zBz (lo:=1) (n:=(((xs.map V.int).length:Int)-1).toNat) (fun q ys H4=>q<=(((xs.map V.int).length:Int)-1).toNat/\ys=((List.range q).map fun k=>decide (xs.getD k 0<xs.getD (k+1) 0)).map V.bl/\H4=upd H D (.lst ys)) ⟨zk _,rfl,rfl⟩ (fun q ys H4 z=>?_) (fun q ys H4 hq z=>?_) (fun ys H4 z=>?_)
 . obtain⟨hq,rfl,_⟩:=z;rw[zB] at hq;rw[zB,zB,zAP];exact zAh (by omega)
 . obtain⟨_,rfl,rfl⟩:=z;rw[zB] at hq;have hp4:=zH (o:=.lst (((List.range q).map fun k=>decide (xs.getD k 0<xs.getD (k+1) 0)).map V.bl)) hD _ _ hp;have h1:q<xs.length:=by omega
   have h2:q+1<xs.length:=by omega
   refine⟨⟨rfl,rfl⟩,?_⟩;refine zFN ?_;refine⟨_,rfl,_,rfl,_,_,rfl,rfl,p,_,_,.int xs[q],rfl,rfl,SqL.of hp4,zBQ (by omega) (by rw[show ((1:Int)+q-1).toNat=q by omega,zM,zA h1];rfl),_,rfl,_,rfl,p,_,_,.int xs[q+1],rfl,rfl,SqL.of hp4,zBQ (by omega) (by rw[show ((1:Int)+q).toNat=q+1 by omega,zM,zA h2];rfl),_,_,rfl,rfl,zI,by rw[zB];omega,?_,zCd⟩;have d1:xs.getD q 0=xs[q]:=by rw[zE,zA h1];rfl
   have d2:xs.getD (q+1) 0=xs[q+1]:=by rw[zE,zA h2];rfl
   rw[List.range_succ,zQ,zQ];show _=_++[V.bl (decide (xs.getD q 0<xs.getD (q+1) 0))];rw[d1,d2]
 . obtain⟨_,rfl,rfl⟩:=z;refine⟨D,_,rfl,SqL.of zI,?_⟩;have e:(((List.range (((xs.map V.int).length:Int)-1).toNat).map fun k=>decide (xs.getD k 0<xs.getD (k+1) 0)).all id)=zK8 xs:=by rw[zJX,List.all_map,zB,show ((xs.length:Int)-1).toNat=xs.length-1 by omega];rfl
   rw[e];exact k _ (zH hD)
theorem zJp (F:Fun K "is_number" "is_number" zNG f fd') (mIsi:mg "isinstance"=none) (mInt:mg "int"=none) (mBool:mg "bool"=none):zAb P w K mg base CX0 1 f fd' qAk zIz:=by
 refine F.okD scNum fun _ A _ _ H vs Q E hr h=>?_;obtain⟨o,rfl,k⟩:=h;refine⟨_,zY (zAH (zCa (zAJ zCF mIsi (zD (pv 0) (zD (zEo (T := "int") mInt) zL)))
  (zCp (pe_not (zAJ zCF mIsi (zD (pv 0) (zD (zEo (T := "bool") mBool) zL))))))),?_⟩
 cases o with
 | some i=>refine⟨_,rfl,_,_,_,true,rfl,.int i,rfl,true,rfl,zFC ?_⟩;exact⟨_,rfl,_,_,_,false,rfl,.int i,rfl,false,rfl,k⟩
 | none=>exact⟨_,rfl,_,_,_,false,rfl,.non,rfl,false,rfl,zCr k⟩
theorem ok_wiO (F:Fun K "is_within" "is_within" sWi f fd') (FN:FuB K mg "is_number" zNG fN fdN qAk) (mIsi:mg "isinstance"=none) (mInt:mg "int"=none) (mBool:mg "bool"=none):
 zAb P w K mg base CX0 2 f fd' qAT spWiO:=by
 have GN:zAb P w K mg base CX0 1 fN fdN qAk zIz:=zJp FN.F mIsi mInt mBool;refine F.okD scWi fun _ A _ _ H vs Q E hr h=>?_;obtain⟨o,n,rfl,k⟩:=h;refine⟨_,zY (zAH (zCa (zAI GN hr FN (zD (pv 0) zL)) (zCa (zBb op_le (pv 1) (pv 0) (zAB _)) (zCp (zBb op_le (pv 0) (pv 2) (zAB _)))))),?_⟩;cases o with
 | none=>exact⟨_,rfl,none,rfl,false,rfl,zCr k⟩
 | some i=>
  refine⟨_,rfl,some i,rfl,true,rfl,zFC ?_⟩;have k':Q (.bl (decide (0<=i) && decide (i<=n-1))) H:=k;refine⟨_,rfl,_,rfl,_,_,rfl,rfl,_,rfl,?_⟩;by_cases c:0<=i
  . rw[zS c,Bool.true_and] at k';exact ifT (zS c) ⟨_,rfl,_,rfl,_,_,rfl,rfl,k'⟩
  . rw[zc c,Bool.false_and] at k';exact ifF (zc c) k'
variable {fW:Addr}{fdW:FuncData}
theorem ok_plO (F:Fun K "is_place" "is_place" sPl f fd') (FW:FuB K mg "is_within" sWi fW fdW qAT) (FN:FuB K mg "is_number" zNG fN fdN qAk) (mIsi:mg "isinstance"=none) (mInt:mg "int"=none) (mBool:mg "bool"=none):
 zAb P w K mg base CX0 3 f fd' qAK spPlO:=by
 have GW':zAb P w K mg base CX0 2 fW fdW qAT spWiO:=ok_wiO FW.F FN mIsi mInt mBool;refine F.okD scPl fun _ A _ _ H vs Q E hr h=>?_;obtain⟨n,o,rfl,k⟩:=h;refine⟨_,zY (zAH (zAI GW' hr FW (zD (pv 1) (zD zf (zD (zAw zC6 (pv 0) zf) zL))))),?_⟩;exact⟨_,rfl,_,rfl,_,_,rfl,rfl,o,n,rfl,k⟩
theorem scEnt9:zAE qAK qAK (defScope zJS):=fS0
theorem zNl {fT fP:Addr}{fdP:FuncData}(F:Fun K "is_entry" "is_entry" zJS f fd') (FT:FuB K mg "is_tuple_of" sTof fT fdT qAa)
 (FW:FuB K mg "is_within" sWi fW fdW qAT) (FP:FuB K mg "is_place" sPl fP fdP qAK) (FN:FuB K mg "is_number" zNG fN fdN qAk)
 (mIsi:mg "isinstance"=none) (mInt:mg "int"=none) (mBool:mg "bool"=none) (mTuple:mg "tuple"=none) (mLen:mg "len"=none):zAb P w K mg base CX0 4 f fd' qAK zME:=by
 have GT:zAb P w K mg base CX0 3 fT fdT qAa zM3:=(zMV FT.F mIsi mTuple mLen).mono (by decide);have GN:zAb P w K mg base CX0 3 fN fdN qAk zIz:=(zJp FN.F mIsi mInt mBool).mono (by decide);have GP:zAb P w K mg base CX0 3 fP fdP qAK spPlO:=ok_plO FP.F FW FN mIsi mInt mBool;refine F.okD scEnt9 fun _ A _ _ H vs Q E hr h=>?_;obtain⟨n,a,e,rfl,ha,k⟩:=h;refine⟨_,zR (zA8 (PW.pt (zEe (zCo (zCI (zAI GT hr FT (zD (pv 1) (zD zf zL))))) (zDJ (zCo (zCI (zAI GP hr FP (zD (pv 0) (zD (zu zAK (pv 1) zf) zL)))))))) (zY (zAH zD8)) zAN)
  (zR (zA8 (PW.pt (zEe (zCo (zCI (zAI GN hr FN (zD (zu zAK (pv 1) zf) zL)))) (zDJ (zAA zF4 (zu zAK (pv 1) zf) zf (zAB _))))) (zY (zAH zD8)) zAN)
  (zR (zA8 (zAA zCK (zu zAK (pv 1) zf) zf (zAB _)) (zY (zAH (zCa (zBb zCc (zu zAK (pv 1) zf) zA0 (zAB _)) (zCp (zBb zCc (zu zAK (pv 1) zf) zA0 (zAB _)))))) zAN)
  (zY (zAH (zCa (zAI GP hr FP (zD (pv 0) (zD (zu zAK (pv 1) zf) zL))) (zCp (zAI GP hr FP (zD (pv 0) (zD (zu zAK (pv 1) zf) zL))))))))),?_⟩
 have ht:=SqT.of (K:=K) ha;unfold zLe at k;refine⟨_,rfl,a,eV e,rfl,ha,_,rfl,zCr ?_⟩;refine⟨_,rfl,_,rfl,a,_,_,.int e.h,rfl,rfl,ht,rfl,n,some e.h,rfl,_,rfl,?_⟩;cases c1:plB n (some e.h) with
 | false=>rw[c1,Bool.false_and] at k;exact zFC k
 | true=>
 rw[c1,Bool.true_and] at k;refine zCr ?_;refine⟨_,rfl,a,_,_,.int e.l,rfl,rfl,ht,rfl,some e.l,rfl,_,rfl,zCr ?_⟩;refine⟨_,rfl,a,_,_,.int e.l,rfl,rfl,ht,rfl,_,_,rfl,rfl,_,rfl,?_⟩;by_cases c2:e.l<0
 . rw[zS c2] at k;exact ifT (zS c2) k
 rw[zc c2,Bool.not_false,Bool.true_and] at k;refine ifF (zc c2) ?_;refine⟨_,rfl,a,_,_,.int e.l,rfl,rfl,ht,rfl,rfl,_,rfl,?_⟩;rw[zDl];by_cases c:e.l=0
 . rw[if_pos c] at k;refine ifT (zS c) ?_;refine⟨_,rfl,a,_,_,oV e.u,rfl,rfl,ht,rfl,rfl,_,rfl,?_⟩;cases c3:decide (oV e.u=V.non) with
   | false=>rw[c3,Bool.false_and] at k;exact ifF rfl k
   | true=>rw[c3,Bool.true_and] at k;exact ifT rfl ⟨_,rfl,a,_,_,oV e.d,rfl,rfl,ht,rfl,rfl,k⟩
 . rw[if_neg c] at k;refine ifF (zc c) ?_;refine⟨_,rfl,_,rfl,a,_,_,oV e.u,rfl,rfl,ht,rfl,n,e.u,rfl,_,rfl,?_⟩;cases c3:plB n e.u with
   | false=>rw[c3,Bool.false_and] at k;exact zCr k
   | true=>rw[c3,Bool.true_and] at k;exact zFC ⟨_,rfl,_,rfl,a,_,_,oV e.d,rfl,rfl,ht,rfl,n,e.d,rfl,k⟩
theorem zMI:zAE ["n","thing","longs"] qAK (defScope zJP):=fS0
theorem zNi {fR:Addr}{fdR:FuncData}(F:Fun K "is_label" "is_label" zJP f fd') (FE:FuB K mg "is_entry" zJS fE fdE qAK) (GE:zAb P w K mg base CX0 4 fE fdE qAK zME)
 (FR:FuB K mg "is_rising" sRis fR fdR qAl) (GR:zAb P w K mg base CX0 4 fR fdR qAl spRis) (mIsi:mg "isinstance"=none) (mTuple:mg "tuple"=none) (mLen:mg "len"=none) (mAll:mg "all"=none):
 zAb P w K mg base CX0 5 f fd' qAK zL9:=by
 refine F.okD zMI fun _ A _ _ H vs Q E hr h=>?_;obtain⟨n,p,es,rfl,L,k⟩:=h;obtain⟨as,hp,EA,hl⟩:=id L;refine⟨_,zR (zA8 (PW.pt (zEe (zCo (zCI (zAJ zCF mIsi (zD (pv 1) (zD (zEo (T := "tuple") mTuple) zL))))) (zDJ (zAA zEA (zAJ zAm mLen (zD (pv 1) zL)) (pv 0) (zAB _))))) (zY (zAH zD8)) zAN)
  (zR (zA8 (zCo (zCI (zAJ (zFK rfl) mAll (zD (zBi (own:=["entry"]) (cn:=["n"]) (ci:=[0]) rfl (csc rfl rfl) ⟨rfl,rfl,rfl,trivial⟩ rfl (zB9 (pv 1)) (fun _ _ _ _=>zCJ) (fun _ _ _ _=>zBP)
   (fun _ _ _ _=>zAI GE hr FE (zD (pv 1) (zD (pv 0) zL)))) zL)))) (zY (zAH zD8)) zAN)
  (zR (zCf (i:=2) (own:=["entry"]) (cn:=[]) (ci:=[]) zMI.nd rfl (Or.inl rfl) rfl (csc rfl rfl) trivial rfl (zB9 (pv 1)) (fun _ _ _ _=>zCJ) (fun _ _ _ _=>zBP) (fun _ _ _ _=>zu zCh (pv 0) zf))
  (zY (zAH (zCa (zBb zCK (zCq PySem.F.plainAttrs_list PySem.F.slot_list_count PySem.F.type_list_count zLP (pv 2) (zD zf zL)) zf (zAB _)) (zCp (zAI GR hr FR
   (zD (zBi (own:=["entry"]) (cn:=[]) (ci:=[]) rfl (csc rfl rfl) trivial rfl (zB9 (pv 1)) (fun _ _ _ _=>zCJ) (fun _ _ _ _=>zBP) (fun _ _ _ _=>zu zCh (pv 0) zf)) zL)))))))),?_⟩
 have no:∀{b:Bool},b=false->¬ zDn n es->(b=true↔zDn n es):=fun hb q=>by rw[hb];exact⟨(fun z=>by cases z),fun z=>absurd z q⟩
 refine⟨_,rfl,_,_,_,true,rfl,.tup hp,rfl,_,rfl,zCr ?_⟩;refine⟨_,rfl,p,_,rfl,.inr (SqT.of hp),_,rfl,_,_,rfl,rfl,_,rfl,?_⟩;rw[zB,EA.1];refine zC1 (fun c=>k false H (no rfl fun z=>?_) (zAo.refl _)) (fun c=>?_)
 . have:=z.len;have:=of_decide_eq_true c;omega
 have hlen:¬ n<(es.length:Int):=fun z=>c (zS z);refine⟨_,rfl,p,rfl,⟨_,SqT.of hp⟩,[.int n],rfl,fun D hD=>?_⟩;refine zBk (a:=p) (xs:=as.map V.ref) (fun i ys H4=>i<=es.length/\ys=((es.take i).map (zLe n)).map V.bl/\H4=upd H D (.lst ys)) ⟨zk _,rfl,rfl⟩ (fun i ys H4 z=>?_) (fun i ys H4 z=>?_) (fun i v ys H4 hv z=>?_) (fun ys H4 z=>?_)
 . obtain⟨_,_,rfl⟩:=z;exact SqT.of (zH hD _ _ hp)
 . obtain⟨hi,rfl,_⟩:=z;rw[zB,zB,zr];exact zAS (by omega)
 . obtain⟨_,rfl,rfl⟩:=z;obtain⟨a,x,rfl,hx,ha⟩:=EA.at hv;refine⟨⟨rfl,rfl⟩,?_⟩;refine zFN ?_;refine⟨_,rfl,_,rfl,n,a,x,rfl,zH hD _ _ ha,zI,(zF.mp hx).1,?_,zCd⟩;rw[zy,hx,zQ,zQ];rfl
 . obtain⟨_,rfl,rfl⟩:=z;rw[zB,EA.1,zh (zK _)];refine⟨D,_,rfl,SqL.of zI,_,rfl,?_⟩;have s1:=zH (o:=.lst ((es.map (zLe n)).map V.bl)) hD;generalize upd H D (.lst ((es.map (zLe n)).map V.bl))=H1 at s1 ⊢;have ale:(es.map (zLe n)).all id=true↔∀e∈es,EOk n e:=by
    rw[List.all_eq_true];constructor
    . intro z e he;exact zHj.mp (z _ (zo.mpr ⟨e,he,rfl⟩))
    . intro z b hb;obtain⟨e,he,rfl⟩:=zo.mp hb;exact zHj.mpr (z e he)
   cases ca:(es.map (zLe n)).all id with
   | false=>exact zFC (k false H1 (no rfl fun z=>by rw[ale.mpr z.ent] at ca;cases ca) s1)
   | true=>
   refine zCr ?_;refine⟨_,rfl,p,rfl,⟨_,SqT.of (s1 _ _ hp)⟩,[],rfl,fun D2 hD2=>?_⟩;refine zBk (a:=p) (xs:=as.map V.ref) (fun i ys H4=>ys=((es.take i).map (·.l)).map V.int/\H4=upd H1 D2 (.lst ys)) ⟨rfl,rfl⟩ (fun i ys H4 z=>?_) (fun i ys H4 z=>?_) (fun i v ys H4 hv z=>?_) (fun ys H4 z=>?_)
   . obtain⟨_,rfl⟩:=z;exact SqT.of (zH hD2 _ _ (s1 _ _ hp))
   . obtain⟨rfl,_⟩:=z;rw[zB,zB,zr];exact zAS (by omega)
   . obtain⟨rfl,rfl⟩:=z;obtain⟨a,x,rfl,hx,ha⟩:=EA.at hv;refine⟨⟨rfl,rfl⟩,?_⟩;refine zFN ?_;refine⟨_,rfl,a,_,_,.int x.l,rfl,rfl,SqT.of (zH hD2 _ _ (s1 _ _ ha)),rfl,zI,?_,zCd⟩;rw[zy,hx,zQ,zQ];rfl
   . obtain⟨rfl,rfl⟩:=z;rw[zB,EA.1,zh (zK _)];have s2:=s1.trans (zH (o:=.lst ((es.map (·.l)).map V.int)) hD2);have hD22:(upd H1 D2 (.lst ((es.map (·.l)).map V.int))) D2=some (.lst ((es.map (·.l)).map V.int)):=zI;generalize upd H1 D2 (.lst ((es.map (·.l)).map V.int))=H2 at s2 hD22 ⊢;refine⟨_,rfl,.inl ⟨rfl,_,SqL.of hD22⟩,D2,es.map (·.l),0,rfl,rfl,SqL.of hD22,rfl,_,rfl,?_⟩;have oi:(decide (V.int ((es.map (·.l)).countP (fun x=>x==0):Nat)=V.int 1)=true)↔(es.map (·.l)).countP (fun x=>x==0)=1:=by rw[zDl,decide_eq_true_iff];omega
     refine zC1 (fun co=>?_) (fun co=>?_);rotate_left
     . have kk:=k false H2 (no rfl fun z=>co (oi.mpr z.one)) s2;simpa [co] using kk
     have one:=oi.mp co;refine⟨_,rfl,p,rfl,⟨_,SqT.of (s2 _ _ hp)⟩,[],rfl,fun D3 hD3=>?_⟩;refine zBk (a:=p) (xs:=as.map V.ref) (fun i ys H4=>ys=((es.take i).map (·.h)).map V.int/\H4=upd H2 D3 (.lst ys)) ⟨rfl,rfl⟩ (fun i ys H4 z=>?_) (fun i ys H4 z=>?_) (fun i v ys H4 hv z=>?_) (fun ys H4 z=>?_)
     . obtain⟨_,rfl⟩:=z;exact SqT.of (zH hD3 _ _ (s2 _ _ hp))
     . obtain⟨rfl,_⟩:=z;rw[zB,zB,zr];exact zAS (by omega)
     . obtain⟨rfl,rfl⟩:=z;obtain⟨a,x,rfl,hx,ha⟩:=EA.at hv;refine⟨⟨rfl,rfl⟩,?_⟩;refine zFN ?_;refine⟨_,rfl,a,_,_,.int x.h,rfl,rfl,SqT.of (zH hD3 _ _ (s2 _ _ ha)),rfl,zI,?_,zCd⟩;rw[zy,hx,zQ,zQ];rfl
     . obtain⟨rfl,rfl⟩:=z;rw[zB,EA.1,zh (zK _)];refine⟨D3,es.map (·.h),rfl,zI,by rw[zB];omega,fun H5 s5=>?_⟩;refine k _ _ ?_ ((s2.trans (zH hD3)).trans s5);rw[zHT,zAt];exact⟨fun z=>⟨ale.mp ca,z,by omega,one⟩,fun z=>z.hub⟩
theorem zNF:zAE qAK qAK (defScope zFn):=fS0
theorem zLK {fT:Addr}(F:Fun K "are_labels" "are_labels" zFn f fd') (FT:FuB K mg "is_tuple_of" sTof fT fdT qAa) (GT:zAb P w K mg base CX0 5 fT fdT qAa zM3)
 (FL:FuB K mg "is_label" zJP fL fdL qAK) (GL:zAb P w K mg base CX0 5 fL fdL qAK zL9) (mAll:mg "all"=none):zAb P w K mg base CX0 6 f fd' qAK zI6:=by
 refine F.okD zNF fun _ A _ _ H vs Q E hr h=>?_;obtain⟨n,l,ess,rfl,⟨as,hl,hal,hla⟩,hn,hn24,k⟩:=h;refine⟨_,zY (zAH (zCa (zAI GT hr FT (zD (pv 1) (zD (pv 0) zL))) (zCp (zAJ (zFK rfl) mAll (zD (zBi (own:=qAj) (cn:=["n"]) (ci:=[0]) rfl (csc rfl rfl) ⟨rfl,rfl,rfl,trivial⟩ rfl (zB9 (pv 1)) (fun _ _ _ _=>zCJ) (fun _ _ _ _=>zBP)
  (fun _ _ _ _=>zAI GL hr FL (zD (pv 1) (zD (pv 0) zL)))) zL))))),?_⟩
 have hln:((as.map V.ref).length:Int)=n:=by rw[zB,hal];exact hn
 refine⟨_,rfl,_,rfl,l,as.map V.ref,by rw[hln];rfl,hl,true,rfl,zFC ?_⟩;refine⟨_,rfl,l,rfl,⟨_,SqT.of hl⟩,[.int n],rfl,fun D hD=>?_⟩;refine zBk (a:=l) (xs:=as.map V.ref) (fun i ys H4=>∃bs:List Bool,ys=bs.map V.bl/\bs.length=i/\i<=as.length/\(bs.all id=true↔∀es∈ess.take i,zDn n es)/\zAo H H4/\H4 D=some (.lst ys)) ⟨[],rfl,rfl,zk _,⟨(fun _ es z=>by simp at z),fun _=>rfl⟩,zH hD,zI⟩ (fun i ys H4 z=>?_) (fun i ys H4 z=>?_) (fun i v ys H4 hv z=>?_) (fun ys H4 z=>?_)
 . obtain⟨_,_,_,_,_,s4,_⟩:=z;exact SqT.of (s4 _ _ hl)
 . obtain⟨bs,rfl,hb,hi,_⟩:=z;rw[zB];exact zAS (by omega)
 . obtain⟨bs,rfl,hb,hi,hal',s4,hD4⟩:=z;obtain⟨a,ha,rfl⟩:∃a,as[i]?=some a/\V.ref a=v:=by
    rw[zM] at hv;cases e:as[i]? with
    | none=>rw[e] at hv;cases hv
    | some a=>rw[e] at hv;exact⟨a,rfl,zT hv⟩
   obtain⟨es,e1,e2⟩:=hla i a ha;refine⟨⟨rfl,rfl⟩,?_⟩;refine zFN ?_;refine⟨_,rfl,_,rfl,n,a,es,rfl,e2.same s4,fun b H5 hb5 s5=>?_⟩;refine⟨s5 _ _ hD4,bs++[b],by rw[zQ];rfl,by rw[zJ,hb];rfl,(zF.mp ha).1,?_,zAV (s4.trans s5) hD,zI⟩;rw[List.all_append,zAk,hal',zy,e1];constructor
   . rintro ⟨z1,z2⟩ fs hfs;rcases zm.mp hfs with q | q
     . exact z1 fs q
     . rw[zd.mp q];refine hb5.mp ?_;simpa using z2
   . intro z;refine⟨fun fs hfs=>z fs (zw _ hfs),?_⟩;have:=hb5.mpr (z es (zi _ zZ));simpa using this
 . obtain⟨bs,rfl,hb,_,hal',s4,hD4⟩:=z;rw[zB,hal,zh (zK _)] at hal';exact⟨D,_,rfl,SqL.of hD4,k _ _ hal' s4⟩
theorem upd_3 {dx e:Addr}{o1 o2 x:HO}(n:dx≠e):upd (upd (upd H dx o1) e x) dx o2=upd (upd H dx o2) e x:=by
 funext b;by_cases h1:b=dx
 . subst h1;rw[zI,za n,zI]
 . by_cases h2:b=e
   . subst h2;rw[za h1,zI,zI]
   . rw[za h1,za h2,za h1,za h2,za h1]
theorem scI1:zAE qAU qAU (defScope sI1):=fS0
variable {C:Addr}
theorem ok_I1 (F:Fun K "__init__" "NoLabels.__init__" sI1 f fd') (EI:zGy K C f)(mo:PySem.W.mroIn K C (.type "object")=some true) (n1:PySem.W.findIn K (.ref C) "word"=some none) (n2:PySem.W.findIn K (.ref C) "at"=some none):zAb P w K mg base CX0 1 f fd' qAU (spXI C "word" "at"):=by
 refine F.okD scI1 fun _ A _ _ H vs Q E hr h=>?_;obtain⟨e,t,v1,v2,rfl,he,k⟩:=h;refine⟨_,zR (zJg EI mo n1 (pv 0) (pv 1)) (zY (zJg EI mo n2 (pv 0) (pv 2))),?_⟩;refine⟨_,rfl,_,rfl,e,t,rfl,.inl ⟨he,fun dx hdx=>?_⟩⟩;have ne:dx≠e:=fun z=>by rw[z,he] at hdx;cases hdx
 refine⟨_,rfl,_,rfl,e,t,rfl,.inr ⟨dx,_,zI,by rw[za ne,zI],by show 1<900;decide,?_⟩⟩;show Q _ _;rw[upd_3 ne];exact k dx hdx ne
noncomputable def zGL (ess:List (List En)):Nat->List (Nat×En)
 | 0=>[]
 | i+1=>zGL ess i++((ess.getD i []).filter fun e=>decide (e.l≠0)).map fun e=>(i,e)
noncomputable def zC0 (H:Hp)(ys:List V)(fe:List (Nat×En)):Prop:=ys.length=fe.length/\∀(j:Nat)(y:V),ys[j]?=some y->∃(c a:Addr)(i:Nat)(e:En),y=.ref c/\fe[j]?=some (i,e)/\H c=some (.tup [.int i,.ref a])/\H a=some (.tup (eV e))
variable {ys:List V}
theorem zC0.keep {fe:List (Nat×En)}(h:zC0 H ys fe)(k:∀b zs,H b=some (.tup zs)->H' b=some (.tup zs)):zC0 H' ys fe:=
 ⟨h.1,fun j y e=>let ⟨c,a,i,x,h1,h2,h3,h4⟩:=h.2 j y e;⟨c,a,i,x,h1,h2,k _ _ h3,k _ _ h4⟩⟩
theorem zC0.app {zs:List V}{fe ge:List (Nat×En)}(h:zC0 H ys fe)(g:zC0 H zs ge):zC0 H (ys++zs) (fe++ge):=by
 refine⟨by rw[zJ,zJ,h.1,g.1],fun j y e=>?_⟩;by_cases c:j<ys.length
 . rw[zP c] at e;obtain⟨a,b,i,x,h1,h2,h3⟩:=h.2 j y e;exact⟨a,b,i,x,h1,by rw[zP (by rw[<-h.1];exact c)];exact h2,h3⟩
 . rw[zO (by omega)] at e;obtain⟨a,b,i,x,h1,h2,h3⟩:=g.2 _ y e;exact⟨a,b,i,x,h1,by rw[zO (by rw[<-h.1];omega),<-h.1];exact h2,h3⟩
inductive zHI (vs:List V)(H:Hp)(Q:VK):Prop
 | mk:∀(l:Addr)(ess:List (List En)),(vs=[.ref l])->(zA4 H l ess)->(ess.length<=24)->((∀es∈ess,es.length<=24))->(∀(a:Addr)(ys:List V)(H':Hp),zAo H H'->H a=none->H' a=some (.lst ys)->zC0 H' ys (zGL ess ess.length)->Q (.ref a) H')->zHI vs H Q
noncomputable def zJC:Sp:=fun vs H Q _=>zHI vs H Q
theorem zFE {ess:List (List En)}:∀{n i:Nat}{e:En},(i,e)∈zGL ess n->i<n/\e∈ess.getD i []
 | 0,_,_,h=>by simp[zGL] at h
 | n+1,i,e,h=>by
  rcases zm.mp (show (i,e)∈zGL ess n++_ from h) with z | z
  . have:=zFE z;exact⟨by omega,this.2⟩
  . obtain⟨x,hx,ex⟩:=zo.mp z;simp only[Prod.mk.injEq] at ex;obtain⟨rfl,rfl⟩:=ex;exact⟨by omega,(zAQ.mp hx).1⟩
theorem zHh {ess:List (List En)}(h:∀es∈ess,es.length<=24):∀n,(zGL ess n).length<=24*n
 | 0=>zK _
 | n+1=>by
  show (zGL ess n++_).length<=_;rw[zJ,zB];have h1:=zHh h n;have h2:=zAX (fun e:En=>decide (e.l≠0)) (ess.getD n []);have h3:(ess.getD n []).length<=24:=by
   rw[zE];cases e:ess[n]? with
   | none=>exact zk _
   | some x=>exact h x (zV e)
  omega
theorem zHP:zAE ["labels","found","place","label"] qAg (defScope zH8):=fS0
theorem zNk (F:Fun K "far_entries" "far_entries" zH8 f fd') (mEnum:mg "enumerate"=none):zAb P w K mg base CX0 1 f fd' qAg zJC:=by
 refine F.okD zHP fun _ A _ _ H vs Q E hr h=>?_;obtain⟨l,ess,rfl,LL,hn,hes,k⟩:=h;obtain⟨as,hl,hal,hA⟩:=id LL;refine⟨_,zR (zAi (i:=1) zHP.nd (zBV zL))
  (zR (zA6 PassesOwn.never rfl (zE6 (by rfl) mEnum (zD (pv 0) zL)) (zCS rfl (zAD (zv (i:=2) zHP.nd rfl (Or.inr rfl)) (zAD (zv (i:=3) zHP.nd rfl (Or.inl rfl)) zBh)))
   (zY (zBX (zCq PySem.F.plainAttrs_list PySem.F.slot_list_extend PySem.F.type_list_extend zJv (pv 1) (zD
    (zBi (own:=["entry"]) (cn:=["place"]) (ci:=[2]) rfl (csc rfl rfl) ⟨rfl,rfl,rfl,trivial⟩ rfl (zB9 (pv 3)) (fun _ _ _ _=>zCJ)
     (fun _ _ _ _=>zCt (zAA zGf (zu zCh (pv 0) zf) zf (zAB _)))
     (fun _ _ _ _=>zAv (zD (pv 1) (zD (pv 0) zL)))) zL)))))
  (zY (zAH (pv 1)))),?_⟩
 refine⟨by show 0<=sizeLine;decide,fun D hD=>?_⟩;have s0:=zH (o:=.lst []) hD;refine⟨_,rfl,l,rfl,⟨_,SqT.of (s0 _ _ hl)⟩,zEN (K:=K) (a:=l) (xs:=as.map V.ref) (fun i σ H2=>Ex3 fun (v2 v3:Option V)(ys:List V)=>σ=[some (.ref l),some (.ref D),v2,v3]/\zAo H H2/\H2 D=some (.lst ys)/\zC0 H2 ys (zGL ess i))
  ⟨_,_,[],rfl,s0,zI,rfl,fun j y e=>by simp at e⟩ (fun i σ H2 _ ⟨_,_,_,_,s2,_⟩=>SqT.of (s2 _ _ hl)) ?turn ?after⟩
 case after=>
  rintro σ H2 ⟨v2,v3,ys,rfl,s2,hD2,FA⟩;rw[zB,hal] at FA;exact⟨_,rfl,k D ys H2 s2 hD hD2 FA⟩
 case turn=>
  rintro i x σ H2 Tp hx ⟨v2,v3,ys,rfl,s2,hD2,FA⟩ hTp;rw[zM] at hx;cases ha:as[i]? with
  | none=>rw[ha] at hx;cases hx
  | some a=>
  rw[ha] at hx;cases hx;have hia:=(zF.mp ha).1;obtain⟨es,hes1,bs,hb,EA,hl3⟩:=hA i a ha;have eget:ess.getD i []=es:=by rw[zE,hes1];rfl
  have hel:=hes es (zV hes1);have sT:=zH (o:=.tup [.int (i:Int),.ref a]) hTp;have s3:=s2.trans sT;refine⟨Tp,_,rfl,SqT.of zI,rfl,_,_,rfl,_,_,rfl,rfl,?_⟩;refine⟨_,rfl,.inl ⟨rfl,_,SqL.of (sT _ _ hD2)⟩,_,rfl,a,rfl,⟨_,SqT.of (s3 _ _ hb)⟩,[.int i],rfl,fun D2 hD2'=>?_⟩;have EA3:zBO (upd H2 Tp (.tup [.int (i:Int),.ref a])) bs es:=EA.keep fun b zs e=>s3 _ _ e;have hbl:=EA.1;refine zBk (a:=a) (xs:=bs.map V.ref) (fun j zs H4=>zC0 H4 zs (((es.take j).filter fun e=>decide (e.l≠0)).map fun e=>(i,e))/\zAo (upd H2 Tp (.tup [.int (i:Int),.ref a])) H4/\H4 D2=some (.lst zs)) ⟨⟨rfl,fun j y e=>by simp at e⟩,zH hD2',zI⟩ (fun j zs H4 h=>?_) (fun j zs H4 h=>?_) (fun j v zs H4 hv h=>?_) (fun zs H4 h=>?_)
  . exact SqT.of (h.2.1 _ _ (s3 _ _ hb))
  . rw[h.1.1,zB];exact zAn (zAX _ _) (zAS (by rw[zr];omega))
  . obtain⟨F4,s4,hD4⟩:=h;obtain⟨c,e,rfl,he,hc⟩:=EA3.at hv;have hc4:=s4 _ _ hc;refine⟨⟨rfl,rfl⟩,?_⟩;refine⟨_,rfl,c,_,_,.int e.l,rfl,rfl,SqT.of hc4,rfl,rfl,_,rfl,?_⟩;rw[zDl];have st:=zGJ (fun e:En=>decide (e.l≠0)) he;by_cases cc:e.l=0
    . rw[zS cc];refine zCr ⟨?_,s4,hD4⟩;rw[st,if_neg (by simp[cc]),zAG];exact F4
    . rw[zc cc];refine zFC ?_;refine⟨_,rfl,_,rfl,by show 2<=sizeLine;decide,fun q hq=>?_⟩;have nDq:=zl hD4 hq;refine⟨zH hq _ _ hD4,?_,zAV (s4.trans (zH hq)) hD2',zI⟩;rw[st,if_pos (by simp[cc]),zQ];have kp:∀b us,H4 b=some (.tup us)->(upd (upd H4 q (.tup [.int (i:Int),.ref c])) D2 (.lst (zs++[.ref q]))) b=some (.tup us):=fun b us e=>by rw[za (zCD e hD4 (by intro z;cases z))];exact zH hq _ _ e
      refine (F4.keep kp).app ⟨rfl,fun j' y' e'=>?_⟩;cases j' with
      | zero=>
       have:V.ref q=y':=by simpa using e'
       subst this;exact⟨q,c,i,e,rfl,rfl,by rw[za nDq.symm];exact zI,kp _ _ hc4⟩
      | succ z=>simp at e'
  . obtain⟨F4,s4,hD4⟩:=h;rw[zB,EA.1,zh (zK _)] at F4;have hDD:=s4 _ _ (sT _ _ hD2);have f1:=zHh hes i;have f2:=FA.1;have f3:=F4.1;have f4:=zAX (fun e:En=>decide (e.l≠0)) es;rw[zB] at f3;refine⟨D,D2,_,_,rfl,rfl,hDD,hD4,zA9 (zAS (by omega)),?_⟩;have s5:=zAV (o:=.lst (ys++zs)) (s3.trans s4) hD;have kp:∀b us,H4 b=some (.tup us)->(upd H4 D (.lst (ys++zs))) b=some (.tup us):=fun b us e=>by rw[za (zCD e hDD (by intro z;cases z))];exact e
    refine⟨_,_,ys++zs,rfl,s5,zI,?_⟩;show zC0 _ _ (zGL ess i++_);rw[eget];exact ((FA.keep fun b us e=>s4 _ _ (sT _ _ e)).keep kp).app (F4.keep kp)
structure LbK (n:Int)(ess:List (List En)):Prop where
 ln:ess.length=n.toNat
 kd:∀es∈ess,zDn n es
structure FrE (ess:List (List En))(i:Nat)(e:En):Prop where
 hi:i<ess.length
 mem:e∈ess.getD i []
 far:e.l≠0
noncomputable def UpR (ts:List T3)(ess:List (List En))(i:Nat)(e:En):Prop:=∃u t f,e.u=some u/\Adj ts i u t/\f∈ess.getD u.toNat []/\f.h=e.h/\f.l=e.l-t
noncomputable def DnR (ts:List T3)(ess:List (List En))(i:Nat)(e:En):Prop:=∃d t c,e.d=some d/\Adj ts e.h d t/\zDi (Cd (ess.getD d.toNat []) (ess.getD i [])) (some c)/\c.1=e.l-t
noncomputable def TieR (ts:List T3)(ess:List (List En))(u v:Nat):Prop:=∀(w t:Int) lv lw,Adj ts v w t->zDi (Cd (ess.getD v []) (ess.getD u [])) lv->zDi (Cd (ess.getD w.toNat []) (ess.getD u [])) lw->∀c,lv=some c->∃c',lw=some c'/\c'.1<=c.1+t
structure zCY (ts:List T3)(n:Int)(ess:List (List En)):Prop where
 own:∀(i:Nat) e r,i<ess.length->(ess.getD i []).filter (fun e=>decide (e.l=0))=e::r->e.h=i
 up:∀i e,FrE ess i e->UpR ts ess i e
 tie:∀u v:Nat,u<ess.length->v<ess.length->TieR ts ess u v
 dn:∀i e,FrE ess i e->DnR ts ess i e
theorem getD_some {α:Type}{l:List (List α)}(h:i<l.length):l[i]?=some (l.getD i []):=by rw[zE,zA h];rfl
theorem LbK.at (K:LbK n ess)(h:i<ess.length):zDn n (ess.getD i []):=K.kd _ (zV (getD_some h))
theorem zF7:∀l:List (Int×Int),∃lm,zDi (fun c=>c∈l) lm
 | []=>⟨none,fun c z=>by cases z⟩
 | a::l=>by
  obtain⟨lm,h⟩:=zF7 l;cases lm with
  | none=>
   refine⟨some a,zZ,fun c hc=>?_⟩;rcases ze.mp hc with rfl | z
   . exact .inr ⟨rfl,zBE _⟩
   . exact absurd z (h c)
  | some b=>
   by_cases q:a.1<b.1\/(a.1=b.1/\a.2<=b.2)
   . refine⟨some a,zZ,fun c hc=>?_⟩;rcases ze.mp hc with rfl | z
     . exact .inr ⟨rfl,zBE _⟩
     . have:=h.2 c z;omega
   . refine⟨some b,zg _ h.1,fun c hc=>?_⟩;rcases ze.mp hc with rfl | z
     . omega
     . exact h.2 c z
theorem zGl {fs:List En}(hf:Hub fs):∃lm,zDi (Cd es fs) lm:=by obtain⟨lm,h⟩:=zF7 (es.filterMap (cOf fs));exact⟨lm,h.congr (zKg hf)⟩
theorem zDn.zero (K:zDn n es):∃e,es.filter (fun e=>decide (e.l=0))=[e]:=by
 have h:=K.one;rw[List.countP_map,List.countP_eq_length_filter] at h;have e:(fun e:En=>decide (e.l=0))=((fun x:Int=>x==0)∘fun x:En=>x.l):=by funext x;show decide (x.l=0)=(x.l==0);rw[Bool.eq_iff_iff,decide_eq_true_iff,beq_iff_eq]
 rw[<-e] at h;exact List.length_eq_one_iff.mp h
theorem zCY.zero {ts:List T3}{n:Int}{ess:List (List En)}(K:LbK n ess)(L:zCY ts n ess){i:Nat}(hi:i<ess.length){e:En}(he:e∈ess.getD i []):e.l=0↔e.h=i:=by
 obtain⟨o,ho⟩:=(K.at hi).zero;have h1:=L.own i o [] hi ho;have om:o∈(ess.getD i []).filter (fun e=>decide (e.l=0)):=by rw[ho];exact zZ
 obtain⟨o1,o2⟩:=zAQ.mp om;constructor
 . intro z;have:e∈(ess.getD i []).filter (fun e=>decide (e.l=0)):=zAQ.mpr ⟨he,zS z⟩;rw[ho] at this;rw[zd.mp this,h1]
 . intro z;have hb:=(K.at hi).hub;have a:=(zCA hb).mpr ⟨he,z⟩;have b:=(zCA hb).mpr ⟨o1,h1⟩;rw[a] at b;cases b;exact of_decide_eq_true o2
theorem zCY.own' (K:LbK n ess)(L:zCY ts n ess)(hi:i<ess.length):∃e∈ess.getD i [],e.h=i/\e.l=0:=by
 obtain⟨o,ho⟩:=(K.at hi).zero;have om:o∈(ess.getD i []).filter (fun e=>decide (e.l=0)):=by rw[ho];exact zZ
 obtain⟨o1,o2⟩:=zAQ.mp om;exact⟨o,o1,L.own i o [] hi ho,of_decide_eq_true o2⟩
theorem zCY.way {ts:List T3}{n:Int}{ess:List (List En)}(G:GW n ts)(K:LbK n ess)(L:zCY ts n ess):∀(m:Nat){i:Nat}{e:En},i<ess.length->e∈ess.getD i []->e.l.toNat<=m->Way ts i e.h e.l
 | m,i,e,hi,he,hm=>by
  have hln:=K.ln;have E:=(K.at hi).ent e he;by_cases z:e.l=0
  . rw[(L.zero K hi he).mp z,z];exact .nil _
  . obtain⟨u,t,f,_,ha,hf,fh,fl⟩:=L.up i e ⟨hi,he,z⟩;have r:=G.adj ha;have hu:u.toNat<ess.length:=by omega
    have F:=(K.at hu).ent f hf;have:=F.nn;have:=E.nn
    match m with
    | 0=>omega
    | m+1=>have w:=zCY.way G K L m hu hf (by omega);rw[fh,fl,show ((u.toNat:Nat):Int)=u by omega] at w;have:=(Way.one ha).trans w;rwa [show t+(e.l-t)=e.l by omega] at this
theorem zCY.le (G:GW n ts)(K:LbK n ess)(L:zCY ts n ess){u d:Int}(w:Way ts v u d):0<=u->u<n->∀lm,zDi (Cd (ess.getD v.toNat []) (ess.getD u.toNat [])) lm->∃c,lm=some c/\c.1<=d:=by
 have hln:=K.ln
 induction w with
 | nil x=>
  intro x0 x1 lm h;obtain⟨o,o1,o2,o3⟩:=L.own' K (i:=x.toNat) (by omega);have cd:Cd (ess.getD x.toNat []) (ess.getD x.toNat []) (o.l+o.l,o.h):=⟨o,o1,o,o1,rfl,rfl⟩;cases lm with
  | none=>exact absurd cd (h _)
  | some c=>refine⟨c,rfl,?_⟩;have:=h.2 _ cd;simp only[o3] at this;omega
 | @cons x z y l d ha w ih=>
  intro y0 y1 lm h;have r:=G.adj ha;obtain⟨lz,hz⟩:=zGl (es:=ess.getD z.toNat []) (K.at (i:=y.toNat) (by omega)).hub;obtain⟨c,rfl,hc⟩:=ih y0 y1 lz hz;have T:=L.tie y.toNat z.toNat (by omega) (by omega);have ha':Adj ts ((z.toNat:Nat):Int) x l:=by rw[show ((z.toNat:Nat):Int)=z by omega];exact Or.symm ha
  obtain⟨c',rfl,hc'⟩:=T x l _ _ ha' hz h c rfl;exact⟨c',rfl,by omega⟩
theorem zCY.told (G:GW n ts)(K:LbK n ess)(L:zCY ts n ess)(hi:i<ess.length)(hj:j<ess.length){lm:Option (Int×Int)}(h:zDi (Cd (ess.getD i []) (ess.getD j [])) lm):Len ts i j (lm.map (·.1)):=by
 have hln:=K.ln;have le:∀d,Way ts i j d->∃c,lm=some c/\c.1<=d:=fun d w=>L.le G K w (by omega) (by omega) lm h;cases lm with
 | none=>intro d w;obtain⟨c,z,_⟩:=le d w;cases z
 | some c=>obtain⟨⟨e,he,f,hf,hfe,rfl⟩,_⟩:=h;have w1:=L.way G K _ hi he (zK _);have w2:=L.way G K _ hj hf (zK _);rw[hfe] at w2;refine⟨w1.trans w2.symm,fun d w=>?_⟩;obtain⟨c,z,hc⟩:=le d w;cases z;exact hc
theorem zCY.step (G:GW n ts)(K:LbK n ess)(L:zCY ts n ess)(hi:i<ess.length)(hj:j<ess.length)(ne:i≠j){c:Int×Int}(h:zDi (Cd (ess.getD i []) (ess.getD j [])) (some c)):∃p,zIl (ess.getD i []) (ess.getD j []) i j (some c)=some p/\Nxt ts i j p:=by
 have hln:=K.ln;have td:WM.IsD ts i j c.1:=L.told G K hi hj h;obtain⟨⟨e,he,f,hf,hfe,rfl⟩,_⟩:=h;have w1:=L.way G K _ hi he (zK _);have w2:=L.way G K _ hj hf (zK _);rw[hfe] at w2;have nij:¬ (i:Int)=j:=by omega
 show ∃p,(if (i:Int)=j then none else if e.h=i then (zEb (ess.getD j []) e.h).bind (·.d) else (zEb (ess.getD i []) e.h).bind (·.u))=some p/\_
 rw[if_neg nij];have td':WM.IsD ts i j (e.l+f.l):=td;by_cases q:e.h=i
 . rw[if_pos q,(zCA (K.at hj).hub).mpr ⟨hf,hfe⟩];have e0:=(L.zero K hi he).mpr q;have fl:f.l≠0:=fun z=>nij ((zCH G td').mp (by omega));obtain⟨d,t,c,hd,ha,hm,hc⟩:=L.dn j f ⟨hj,hf,fl⟩;rw[hfe,q] at ha;have r:=G.adj ha;have dd:=L.told G K (i:=d.toNat) (by omega) hj hm;rw[show ((d.toNat:Nat):Int)=d by omega] at dd;have dd':WM.IsD ts d j c.1:=dd;refine⟨d,hd,t,c.1,ha,dd',?_⟩;rw[hc,show t+(f.l-t)=e.l+f.l by omega];exact td'
 . rw[if_neg q,(zCA (K.at hi).hub).mpr ⟨he,rfl⟩];have el:e.l≠0:=fun z=>q ((L.zero K hi he).mp z);obtain⟨u,t,g,hu,ha,hg,gh,gl⟩:=L.up i e ⟨hi,he,el⟩;have r:=G.adj ha;have w3:=L.way G K _ (i:=u.toNat) (by omega) hg (zK _);rw[gh,gl,show ((u.toNat:Nat):Int)=u by omega] at w3;refine⟨u,hu,t,e.l-t+f.l,ha,⟨w3.trans w2.symm,fun d w=>?_⟩,?_⟩
   . have:=td'.2 _ ((Way.one ha).trans w);omega
   . rw[show t+(e.l-t+f.l)=e.l+f.l by omega];exact td'
theorem zLn.let (G:GW n ts)(L:zLn ts n ess)(U:∀i e p,FrE ess i e->e.u=some p->Nxt ts i e.h p->∃f∈ess.getD p.toNat [],f.h=e.h):zCY ts n ess:=by
 have hln:=L.ln;have lg:∀i,i<ess.length->LG ts n i (ess.getD i []):=fun i hi=>L.lg i _ (getD_some hi);have td:∀ {i j lm},i<ess.length->j<ess.length->zDi (Cd (ess.getD i []) (ess.getD j [])) lm->Len ts i j (lm.map (·.1)):=fun {i j lm} hi hj h=>(zHx G (lg i hi) (lg j hj) (L.cov i j _ _ (getD_some hi) (getD_some hj)) h).1;refine⟨fun i e r hi hf=>?_,fun i e F=>?_,fun u v hu hv w t lv lw ha h1 h2 c hc=>?_,fun i e F=>?_⟩
 . obtain⟨e',r',h1,h2⟩:=(lg i hi).zero G;rw[hf] at h1;cases h1;exact h2
 . have E:=(lg i F.hi).ent e F.mem;have ne:e.h≠i:=fun z=>F.far ((zCH G E.len).mpr z.symm);obtain⟨p,hp,x⟩:=E.up ne;obtain⟨f,hf,fh⟩:=U i e p F hp x;obtain⟨l,b,ha,ib,iab⟩:=x;have r:=G.adj ha;have Ef:=((lg p.toNat (by omega)).ent f hf).len;rw[fh,show ((p.toNat:Nat):Int)=p by omega] at Ef;refine⟨p,l,f,hp,ha,hf,fh,?_⟩;rw[Ef.uniq ib,E.len.uniq iab];omega
 . subst hc;have r:=G.adj ha;have a:=td hv hu h1;have b:=td (i:=w.toNat) (by omega) hu h2;rw[show ((w.toNat:Nat):Int)=w by omega] at b;have wy:=(Way.one ha).symm.trans (show WM.IsD ts v u c.1 from a).1;cases lw with
   | none=>exact absurd wy (b _)
   | some c'=>exact⟨c',rfl,by have:=(show WM.IsD ts w u c'.1 from b).2 _ wy;omega⟩
 . have E:=(lg i F.hi).ent e F.mem;have ne:e.h≠i:=fun z=>F.far ((zCH G E.len).mpr z.symm);obtain⟨p,hp,l,b,ha,ib,iab⟩:=E.dn ne;have r:=G.adj ha;obtain⟨lm,hm⟩:=zGl (es:=ess.getD p.toNat []) (lg i F.hi).hub;have b':=td (i:=p.toNat) (by omega) F.hi hm;rw[show ((p.toNat:Nat):Int)=p by omega] at b';cases lm with
   | none=>exact absurd ib.1 (b' b)
   | some c=>refine⟨p,l,c,hp,ha,hm,?_⟩;have e1:c.1=b:=WM.IsD.uniq (show WM.IsD ts p i c.1 from b') ib;rw[e1,E.len.symm.uniq iab];omega
structure LtK (H:Hp)(wa la:Addr)(n:Int)(ts:List T3)(ess:List (List En)):Prop where
 wb:zB3 H wa n ts
 lb:zA4 H la ess
 kd:LbK n ess
theorem LtK.same (h:LtK H wa la n ts ess)(s:zAo H H'):LtK H' wa la n ts ess:=⟨h.wb.keep s,h.lb.keep fun b ys e=>s _ _ e,h.kd⟩
inductive zL4 (R:List T3->List (List En)->Nat->En->Prop)(vs:List V)(H:Hp)(Q:VK):Prop
 | mk:∀(wa la a:Addr)(i:Nat)(n:Int)(ts:List T3)(ess:List (List En))(e:En),(vs=[.ref wa,.ref la,.int i,.ref a])->(LtK H wa la n ts ess)->(H a=some (.tup (eV e)))->(FrE ess i e)->(∀(b:Bool) H',(b=true↔R ts ess i e)->zAo H H'->Q (.bl b) H')->zL4 R vs H Q
noncomputable def spUr (R:List T3->List (List En)->Nat->En->Prop):Sp:=fun vs H Q _=>zL4 R vs H Q
inductive zJA (R:List T3->List (List En)->Prop)(vs:List V)(H:Hp)(Q:VK):Prop
 | mk:∀(wa la:Addr)(n:Int)(ts:List T3)(ess:List (List En)),(vs=[.ref wa,.ref la])->(LtK H wa la n ts ess)->(∀v H',(v=.non↔R ts ess)->zAo H H'->Q v H')->zJA R vs H Q
noncomputable def zH3 (R:List T3->List (List En)->Prop):Sp:=fun vs H Q _=>zJA R vs H Q
structure LtP (H:Hp)(wa la:Addr)(n:Int)(ts:List T3)(ess:List (List En)):Prop where
 wb:zB3 H wa n ts
 lb:zA4 H la ess
 ln:ess.length=n.toNat
structure LtO (ts:List T3)(n:Int)(ess:List (List En)):Prop where
 kd:LbK n ess
 lt:zCY ts n ess
inductive zHE (C:Addr)(vs:List V)(H:Hp)(Q:VK)(E:XK):Prop
 | mk:∀(wa la:Addr)(n:Int)(ts:List T3)(ess:List (List En)),(vs=[.ref wa,.ref la])->(LtP H wa la n ts ess)->((LtO ts n ess->∀H',zAo H H'->Q (.bl true) H'))->((¬ LtO ts n ess->∀od H',zAo H H'->E (.ref C) od H'))->zHE C vs H Q E
noncomputable def zI3 (C:Addr):Sp:=fun vs H Q E=>zHE C vs H Q E
inductive zMB (vs:List V)(H:Hp)(Q:VK):Prop
 | mk:∀(wa la:Addr)(n:Int)(ts:List T3)(ess:List (List En)),(vs=[.ref wa,.ref la])->(LtP H wa la n ts ess)->(∀(b:Bool) H',(b=true↔LtO ts n ess)->zAo H H'->Q (.bl b) H')->zMB vs H Q
noncomputable def spIl:Sp:=fun vs H Q _=>zMB vs H Q
noncomputable def OwnR (ess:List (List En)):Prop:=∀(i:Nat) e r,i<ess.length->(ess.getD i []).filter (fun e=>decide (e.l=0))=e::r->e.h=i
inductive zL8 (vs:List V)(H:Hp)(Q:VK):Prop
 | mk:∀(wa la:Addr)(n:Int)(ts:List T3)(ess:List (List En)),(vs=[.ref la])->(LtK H wa la n ts ess)->(∀v H',(v=.non↔OwnR ess)->zAo H H'->Q v H')->zL8 vs H Q
noncomputable def spOf:Sp:=fun vs H Q _=>zL8 vs H Q
noncomputable def grB:Option Int->Option Int->Int->Bool
 | none,_,_=>false
 | some _,none,_=>true
 | some d,some c,l=>decide (d+l<c)
inductive zMC (vs:List V)(H:Hp)(Q:VK):Prop
 | mk:∀(x y:Option Int)(l:Int),(vs=[oV x,oV y,.int l])->(Q (.bl (grB x y l)) H)->zMC vs H Q
noncomputable def spGm:Sp:=fun vs H Q _=>zMC vs H Q
inductive zHA (C:Addr)(vs:List V)(H:Hp)(Q:VK)(E:XK):Prop
 | mk:∀(x:Str)(v:V),(vs=[.str x,v])->((v=.non->Q .non H))->((v ≠ .non->∀tt dx,H tt=none->H dx=none->tt≠dx->E (.ref C) (some dx) (upd (upd H tt (.tup [.str x,v])) dx (dO dx [("word",.str x),("at",v)]))))->zHA C vs H Q E
noncomputable def zIu (C:Addr):Sp:=fun vs H Q E=>zHA C vs H Q E
theorem LtK.at {H:Hp}{wa la:Addr}{n:Int}{ts:List T3}{ess:List (List En)}(h:LtK H wa la n ts ess){p:Int}(p0:0<=p)(p1:p<n):∃(as:List Addr)(c:Addr),H la=some (.tup (as.map V.ref))/\(as.map V.ref)[p.toNat]?=some (.ref c)/\p.toNat<ess.length/\zBR H c (ess.getD p.toNat [])/\zDn n (ess.getD p.toNat []):=by
 obtain⟨as,hl,hal,hA⟩:=h.lb;have hln:=h.kd.ln;have hp:p.toNat<as.length:=by omega
 obtain⟨es,he,L⟩:=hA p.toNat as[p.toNat] (zA hp);have e:ess.getD p.toNat []=es:=by rw[zE,he];rfl
 refine⟨as,as[p.toNat],hl,by rw[zM,zA hp];rfl,by omega,by rw[e];exact L,h.kd.at (by omega)⟩
theorem zHi (hi:i<ess.length)(he:e∈ess.getD i [])(hl:e.l≠0):(i,e)∈zGL ess ess.length:=by
 have:∀n,i<n->(i,e)∈zGL ess n:=by
  intro n
  induction n with
  | zero=>intro z;exact absurd z (zBH _)
  | succ n ih=>
   intro z;show (i,e)∈zGL ess n++_;by_cases q:i=n
   . subst q;exact zi _ (zo.mpr ⟨e,zAQ.mpr ⟨he,by simpa using hl⟩,rfl⟩)
   . exact zw _ (ih (by omega))
 exact this _ hi
theorem scUr:zAE ["web","labels","place","entry","tie","above"] qAE (defScope sUr):=fS0
theorem ok_ur (F:Fun K "is_up_right" "is_up_right" sUr f fd') (FL:FuB K mg "long_of" zH7 fL fdL qAV) (GL:zAb P w K mg base CX0 3 fL fdL qAV zI2)
 (FE:FuB K mg "entry_of" sEnt fE fdE qAe) (GE:zAb P w K mg base CX0 3 fE fdE qAe zM9):zAb P w K mg base CX0 4 f fd' qAE (spUr UpR):=by
 refine F.okD scUr fun _ A _ _ H vs Q E hr h=>?_;obtain⟨wa,la,a,i,n,ts,ess,e,rfl,I,ha,fe,k⟩:=h;obtain⟨_,_,_,_,_,G⟩:=id I.wb;obtain⟨p,d,eu,ed,p0,p1,_⟩:=((I.kd.at fe.hi).ent e fe.mem).far fe.far;have hev:eV e=[.int e.h,.int e.l,.int p,oV e.d]:=by unfold eV;rw[eu];rfl
 refine⟨_,zR (zAi (i:=4) scUr.nd (zAI GL hr FL (zD (pv 0) (zD (pv 2) (zD (zu zAK (pv 3) zf) zL)))))
  (zR (zAi (i:=5) scUr.nd (zAI GE hr FE (zD (zu zAK (pv 1) (zu zAK (pv 3) zf)) (zD (zu zAK (pv 3) zf) zL))))
  (zY (zAH (zCa (zBb zCu (pv 4) zA0 (zAB _)) (zCa (zBb zCu (pv 5) zA0 (zAB _)) (zCp (zBb zCK (zu zAK (pv 5) zf) (zAw zC6 (zu zAK (pv 3) zf) (pv 4)) (zAB _)))))))),?_⟩
 rw[hev] at ha;refine⟨_,rfl,_,rfl,_,rfl,a,_,_,.int p,rfl,rfl,SqT.of ha,rfl,wa,n,ts,i,p,rfl,I.wb,fun r H1 s1 hr1=>?_⟩;obtain⟨as,c,h1,h2,hp,L3,K3⟩:=(I.same s1).at p0 p1;have ha1:=s1 _ _ ha;refine⟨_,rfl,_,rfl,a,_,_,.int p,rfl,rfl,SqT.of ha1,rfl,la,_,_,.ref c,rfl,rfl,SqT.of h1,zBQ p0 h2,_,rfl,a,_,_,.int e.h,rfl,rfl,SqT.of ha1,rfl,c,_,e.h,rfl,L3,(fun z=>?_),fun g a' hg ha'=>?_⟩
 . have no:¬ UpR ts ess i e:=fun ⟨u,t,f,hu,_,hf,fh,_⟩=>by rw[eu] at hu;cases hu;exact zGM.mp z f hf fh
   rcases hr1 with ⟨l,hl,rfl⟩ | ⟨nt,rfl⟩
   . refine⟨_,rfl,rfl,_,rfl,ifT (by rfl) ?_⟩;exact⟨_,rfl,rfl,_,rfl,ifF (by rfl) (k false H1 ⟨(fun z=>by cases z),fun z=>absurd z no⟩ s1)⟩
   . exact⟨_,rfl,rfl,_,rfl,ifF (by rfl) (k false H1 ⟨(fun z=>by cases z),fun z=>absurd z no⟩ s1)⟩
 . obtain⟨gm,gh⟩:=(zCA K3.hub).mp hg;rcases hr1 with ⟨l,hl,rfl⟩ | ⟨nt,rfl⟩
   . refine⟨_,rfl,rfl,_,rfl,ifT (by rfl) ?_⟩;refine⟨_,rfl,rfl,_,rfl,ifT (by rfl) ?_⟩;refine⟨_,rfl,a',_,_,.int g.l,rfl,rfl,SqT.of ha',rfl,_,rfl,a,_,_,.int e.l,rfl,rfl,SqT.of ha1,rfl,_,rfl,_,_,rfl,rfl,rfl,?_⟩;refine k _ H1 ⟨fun z=>?_,fun ⟨u,t,f,hu,ht,hf,fh,fl⟩=>?_⟩ s1
     . have z':=of_decide_eq_true z;injection z' with z';exact⟨p,l,g,eu,hl,gm,gh,z'⟩
     . rw[eu] at hu;cases hu;obtain rfl:=G.uniq hl ht;have:zEb (ess.getD p.toNat []) e.h=some f:=(zCA K3.hub).mpr ⟨hf,fh⟩;rw[hg] at this;cases this;exact zS (by rw[fl])
   . refine⟨_,rfl,rfl,_,rfl,ifF (by rfl) (k false H1 ⟨(fun z=>by cases z),fun ⟨u,t,f,hu,ht,_⟩=>?_⟩ s1)⟩;rw[eu] at hu;cases hu;exact absurd ht (nt t)
theorem scDr:zAE ["web","labels","place","entry","tie"] qAE (defScope sDr):=fS0
theorem ok_dr {fT:Addr}(F:Fun K "is_down_right" "is_down_right" sDr f fd') (FL:FuB K mg "long_of" zH7 fL fdL qAV) (GL:zAb P w K mg base CX0 3 fL fdL qAV zI2)
 (FT:FuB K mg "told" zFj fT fdT qAF) (GT:zAb P w K mg base CX0 3 fT fdT qAF zFY):zAb P w K mg base CX0 4 f fd' qAE (spUr DnR):=by
 refine F.okD scDr fun _ A _ _ H vs Q E hr h=>?_;obtain⟨wa,la,a,i,n,ts,ess,e,rfl,I,ha,fe,k⟩:=h;obtain⟨_,_,_,_,_,G⟩:=id I.wb;obtain⟨u,p,eu,ed,_,_,p0,p1⟩:=((I.kd.at fe.hi).ent e fe.mem).far fe.far;have hln:=I.kd.ln;have hi:=fe.hi;have hev:eV e=[.int e.h,.int e.l,oV e.u,.int p]:=by unfold eV;rw[ed];rfl
 refine⟨_,zR (zAi (i:=4) scDr.nd (zAI GL hr FL (zD (pv 0) (zD (zu zAK (pv 3) zf) (zD (zu zAK (pv 3) zf) zL)))))
  (zY (zAH (zCa (zBb zCu (pv 4) zA0 (zAB _)) (zCp (zBb zCK (zAI GT hr FT (zD (zu zAK (pv 1) (zu zAK (pv 3) zf)) (zD (zu zAK (pv 1) (pv 2)) zL))) (zAw zC6 (zu zAK (pv 3) zf) (pv 4)) (zAB _)))))),?_⟩
 rw[hev] at ha;refine⟨_,rfl,_,rfl,a,_,_,.int e.h,rfl,rfl,SqT.of ha,rfl,_,rfl,a,_,_,.int p,rfl,rfl,SqT.of ha,rfl,wa,n,ts,e.h,p,rfl,I.wb,fun r H1 s1 hr1=>?_⟩;have ha1:=s1 _ _ ha;rcases hr1 with ⟨l,hl,rfl⟩ | ⟨nt,rfl⟩
 . obtain⟨as,ax,h1,gx,hp,lx,Kx⟩:=(I.same s1).at p0 p1;obtain⟨as2,ay,h12,gy,hi',ly,Ky⟩:=(I.same s1).at (show (0:Int)<=i by omega) (show (i:Int)<n by omega);rw[show ((i:Int)).toNat=i by omega] at gy hi' ly Ky;rw[h1] at h12;have e12:as.map V.ref=as2.map V.ref:=by injection h12 with z;injection z
   rw[<-e12] at gy;refine⟨_,rfl,rfl,_,rfl,ifT (by rfl) ?_⟩;refine⟨_,rfl,_,rfl,a,_,_,.int p,rfl,rfl,SqT.of ha1,rfl,la,_,_,.ref ax,rfl,rfl,SqT.of h1,zBQ p0 gx,_,rfl,_,rfl,la,_,_,.ref ay,rfl,rfl,SqT.of h1,zBQ (by omega) gy,ax,ay,_,_,rfl,lx,ly,Ky.hub,fun lm H2 s2 hm=>?_⟩;have s12:=s1.trans s2;refine⟨_,rfl,a,_,_,.int e.l,rfl,rfl,SqT.of (s12 _ _ ha),rfl,_,rfl,_,_,rfl,rfl,by cases lm <;> rfl,?_⟩;refine k _ H2 ⟨fun z=>?_,fun ⟨d,t,c,hd,ht,hm',hc⟩=>?_⟩ s12
   . have z':=of_decide_eq_true z;cases lm with
     | none=>cases z'
     | some c=>injection (show V.int c.1=V.int (e.l-l) from z') with z';exact⟨p,l,c,ed,hl,hm,z'⟩
   . rw[ed] at hd;cases hd;obtain rfl:=G.uniq hl ht;obtain rfl:=hm.uniq hm';exact zS (by show V.int c.1=_;rw[hc])
 . refine⟨_,rfl,rfl,_,rfl,ifF (by rfl) (k false H1 ⟨(fun z=>by cases z),fun ⟨d,t,c,hd,ht,_⟩=>?_⟩ s1)⟩;rw[ed] at hd;cases hd;exact absurd ht (nt t)
theorem scUf:zAE qAE qAN (defScope sUf):=fS0
theorem zFF {ess:List (List En)}:∀{n i:Nat}{e:En},(i,e)∈zGL ess n->e.l≠0
 | 0,_,_,h=>by simp[zGL] at h
 | n+1,i,e,h=>by
  rcases zm.mp (show (i,e)∈zGL ess n++_ from h) with z | z
  . exact zFF z
  . obtain⟨x,hx,ex⟩:=zo.mp z;simp only[Prod.mk.injEq] at ex;obtain⟨rfl,rfl⟩:=ex;simpa using (zAQ.mp hx).2
variable {fU:Addr}{fdU:FuncData}
theorem ok_uf (F:Fun K "up_fault" "up_fault" sUf f fd') (FF:FuB K mg "far_entries" zH8 fF fdF qAg) (GF:zAb P w K mg base CX0 4 fF fdF qAg zJC)
 (FU:FuB K mg "is_up_right" sUr fU fdU qAE) (GU:zAb P w K mg base CX0 4 fU fdU qAE (spUr UpR)):zAb P w K mg base CX0 5 f fd' qAN (zH3 fun ts ess=>∀i e,FrE ess i e->UpR ts ess i e):=by
 refine F.okD scUf fun _ A _ _ H vs Q E hr h=>?_;obtain⟨wa,la,n,ts,ess,rfl,I,k⟩:=h;obtain⟨_,_,_,_,_,G⟩:=id I.wb;have hn:=G.n24;have hl:=I.kd.ln;refine⟨_,zR (zA6 PassesOwn.never rfl (zCE (zAI GF hr FF (zD (pv 1) zL))) (zCS rfl (zAD (zv (i:=2) scUf.nd rfl (Or.inl rfl)) (zAD (zv (i:=3) scUf.nd rfl (Or.inl rfl)) zBh)))
  (zY (zA8 (zCo (zCI (zAI GU hr FU (zD (pv 0) (zD (pv 1) (zD (pv 2) (zD (pv 3) zL))))))) (zY (zAH (zAv (zD (pv 2) (zD (zu zAK (pv 3) zf) zL))))) zAN)))
  (zY (zAH zA0)),?_⟩
 refine⟨_,rfl,la,ess,rfl,I.lb,by omega,fun es hes=>?_,fun D ys H1 s1 _ hD FA=>?_⟩
 . have:=(I.kd.kd es hes).len;omega
 refine⟨D,rfl,⟨_,SqL.of hD⟩,zCi (K:=K) (a:=D) (xs:=ys) (fun j σ H2=>Ex2 fun (v2 v3:Option V)=>σ=[some (.ref wa),some (.ref la),v2,v3]/\zAo H1 H2/\∀i e,(i,e)∈(zGL ess ess.length).take j->UpR ts ess i e) ⟨_,_,rfl,zAo.refl _,(fun i e z=>by rw[List.take_zero] at z;cases z)⟩ (fun j σ H2 _ z=>?_) (fun j x σ H2 hx z=>?_) (fun σ H2 z=>?_)⟩
 . obtain⟨_,_,_,s2,_⟩:=z;exact SqL.of (s2 _ _ hD)
 . obtain⟨v2,v3,rfl,s2,all⟩:=z;obtain⟨c,a,i,e,rfl,hf,hc,ha⟩:=FA.2 j x hx;have hm:=zV hf;obtain⟨m1,m2⟩:=zFE hm;have fe:FrE ess i e:=⟨m1,m2,zFF hm⟩;refine⟨c,_,rfl,SqT.of (s2 _ _ hc),rfl,_,_,rfl,_,_,rfl,rfl,?_⟩;refine⟨_,rfl,_,rfl,_,rfl,_,rfl,wa,la,a,i,n,ts,ess,e,rfl,(I.same s1).same s2,s2 _ _ ha,fe,fun b H3 hb s3=>?_⟩;refine⟨b,rfl,?_⟩;cases b with
   | true=>
    refine zCr ⟨_,_,rfl,s2.trans s3,fun i' e' z=>?_⟩;rw[zy,hf] at z;rcases zm.mp z with z | z
    . exact all i' e' z
    . have:=zd.mp z;injection this with q1 q2;subst q1 q2;exact hb.mp rfl
   | false=>refine zFC ?_;refine⟨_,rfl,_,rfl,a,_,_,.int e.h,rfl,rfl,SqT.of (s3 _ _ (s2 _ _ ha)),rfl,by show 2<=sizeLine;decide,fun q hq=>?_⟩;refine k _ _ ⟨(fun z=>by cases z),fun z=>?_⟩ (s1.trans (s2.trans (s3.trans (zH hq))));have:=hb.mpr (z i e fe);cases this
 . obtain⟨v2,v3,rfl,s2,all⟩:=z;refine k _ _ ⟨fun _ i e fe=>all i e ?_,fun _=>rfl⟩ (s1.trans s2);rw[FA.1,zh (zK _)];exact zHi fe.hi fe.mem fe.far
theorem scDf:zAE qAE qAN (defScope sDf):=fS0
theorem ok_df (F:Fun K "down_fault" "down_fault" sDf f fd') (FF:FuB K mg "far_entries" zH8 fF fdF qAg) (GF:zAb P w K mg base CX0 4 fF fdF qAg zJC)
 (FU:FuB K mg "is_down_right" sDr fU fdU qAE) (GU:zAb P w K mg base CX0 4 fU fdU qAE (spUr DnR)):zAb P w K mg base CX0 5 f fd' qAN (zH3 fun ts ess=>∀i e,FrE ess i e->DnR ts ess i e):=by
 refine F.okD scDf fun _ A _ _ H vs Q E hr h=>?_;obtain⟨wa,la,n,ts,ess,rfl,I,k⟩:=h;obtain⟨_,_,_,_,_,G⟩:=id I.wb;have hn:=G.n24;have hl:=I.kd.ln;refine⟨_,zR (zA6 PassesOwn.never rfl (zCE (zAI GF hr FF (zD (pv 1) zL))) (zCS rfl (zAD (zv (i:=2) scDf.nd rfl (Or.inl rfl)) (zAD (zv (i:=3) scDf.nd rfl (Or.inl rfl)) zBh)))
  (zY (zA8 (zCo (zCI (zAI GU hr FU (zD (pv 0) (zD (pv 1) (zD (pv 2) (zD (pv 3) zL))))))) (zY (zAH (zAv (zD (pv 2) (zD (zu zAK (pv 3) zf) zL))))) zAN)))
  (zY (zAH zA0)),?_⟩
 refine⟨_,rfl,la,ess,rfl,I.lb,by omega,fun es hes=>?_,fun D ys H1 s1 _ hD FA=>?_⟩
 . have:=(I.kd.kd es hes).len;omega
 refine⟨D,rfl,⟨_,SqL.of hD⟩,zCi (K:=K) (a:=D) (xs:=ys) (fun j σ H2=>Ex2 fun (v2 v3:Option V)=>σ=[some (.ref wa),some (.ref la),v2,v3]/\zAo H1 H2/\∀i e,(i,e)∈(zGL ess ess.length).take j->DnR ts ess i e) ⟨_,_,rfl,zAo.refl _,(fun i e z=>by rw[List.take_zero] at z;cases z)⟩ (fun j σ H2 _ z=>?_) (fun j x σ H2 hx z=>?_) (fun σ H2 z=>?_)⟩
 . obtain⟨_,_,_,s2,_⟩:=z;exact SqL.of (s2 _ _ hD)
 . obtain⟨v2,v3,rfl,s2,all⟩:=z;obtain⟨c,a,i,e,rfl,hf,hc,ha⟩:=FA.2 j x hx;have hm:=zV hf;obtain⟨m1,m2⟩:=zFE hm;have fe:FrE ess i e:=⟨m1,m2,zFF hm⟩;refine⟨c,_,rfl,SqT.of (s2 _ _ hc),rfl,_,_,rfl,_,_,rfl,rfl,?_⟩;refine⟨_,rfl,_,rfl,_,rfl,_,rfl,wa,la,a,i,n,ts,ess,e,rfl,(I.same s1).same s2,s2 _ _ ha,fe,fun b H3 hb s3=>?_⟩;refine⟨b,rfl,?_⟩;cases b with
   | true=>
    refine zCr ⟨_,_,rfl,s2.trans s3,fun i' e' z=>?_⟩;rw[zy,hf] at z;rcases zm.mp z with z | z
    . exact all i' e' z
    . have:=zd.mp z;injection this with q1 q2;subst q1 q2;exact hb.mp rfl
   | false=>refine zFC ?_;refine⟨_,rfl,_,rfl,a,_,_,.int e.h,rfl,rfl,SqT.of (s3 _ _ (s2 _ _ ha)),rfl,by show 2<=sizeLine;decide,fun q hq=>?_⟩;refine k _ _ ⟨(fun z=>by cases z),fun z=>?_⟩ (s1.trans (s2.trans (s3.trans (zH hq))));have:=hb.mpr (z i e fe);cases this
 . obtain⟨v2,v3,rfl,s2,all⟩:=z;refine k _ _ ⟨fun _ i e fe=>all i e ?_,fun _=>rfl⟩ (s1.trans s2);rw[FA.1,zh (zK _)];exact zHi fe.hi fe.mem fe.far
theorem scOf:zAE ["labels","place","label"] qAg (defScope sOf):=fS0
theorem ok_of (F:Fun K "own_fault" "own_fault" sOf f fd') (FO:FuB K mg "own_place" sOwn fO fdO qAj) (GO:zAb P w K mg base CX0 4 fO fdO qAj zM5) (mEnum:mg "enumerate"=none):zAb P w K mg base CX0 5 f fd' qAg spOf:=by
 refine F.okD scOf fun _ A _ _ H vs Q E hr h=>?_;obtain⟨wa,la,n,ts,ess,rfl,I,k⟩:=h;obtain⟨_,_,_,_,_,G⟩:=id I.wb;obtain⟨as,hl,hal,hA⟩:=id I.lb;refine⟨_,zR (zA6 PassesOwn.never rfl (zE6 (by rfl) mEnum (zD (pv 0) zL)) (zCS rfl (zAD (zv (i:=1) scOf.nd rfl (Or.inl rfl)) (zAD (zv (i:=2) scOf.nd rfl (Or.inl rfl)) zBh)))
  (zY (zA8 (zAA zGf (zAI GO hr FO (zD (pv 2) zL)) (pv 1) (zAB _)) (zY (zAH (pv 1))) zAN)))
  (zY (zAH zA0)),?_⟩
 have gd:∀ {i es},ess[i]?=some es->ess.getD i []=es:=fun {i es} he=>by rw[zE,he];rfl
 refine⟨_,rfl,la,rfl,⟨_,SqT.of hl⟩,zEN (K:=K) (a:=la) (xs:=as.map V.ref) (fun i σ H2=>Ex2 fun (v1 v2:Option V)=>σ=[some (.ref la),v1,v2]/\zAo H H2/\∀(j:Nat) e r,j<i->(ess.getD j []).filter (fun e=>decide (e.l=0))=e::r->e.h=j) ⟨_,_,rfl,zAo.refl _,(fun j e r z=>absurd z (zBH _))⟩ (fun i σ H2 _ ⟨_,_,_,s2,_⟩=>SqT.of (s2 _ _ hl)) (fun i x σ H2 Tp hx z hTp=>?_) (fun σ H2 z=>?_)⟩
 . obtain⟨v1,v2,rfl,s2,all⟩:=z;rw[zM] at hx;cases ha:as[i]? with
   | none=>rw[ha] at hx;cases hx
   | some a=>
   rw[ha] at hx;cases hx;obtain⟨es,he,L⟩:=hA i a ha;have hi:i<ess.length:=(zF.mp he).1;obtain⟨e,hf⟩:=(I.kd.at hi).zero;rw[gd he] at hf;have s3:=s2.trans (zH (o:=.tup [.int (i:Int),.ref a]) hTp);refine⟨Tp,_,rfl,SqT.of zI,rfl,_,_,rfl,_,_,rfl,rfl,?_⟩;generalize upd H2 Tp (.tup [.int (i:Int),.ref a])=H3 at s3 ⊢;refine⟨_,rfl,a,es,e,[],rfl,L.same s3,hf,fun H4 s4=>?_⟩;refine⟨_,rfl,rfl,_,rfl,?_⟩;by_cases c:e.h=i
   . refine ifF (by rw[c];simp) ⟨_,_,rfl,s3.trans s4,fun j e' r' hj hf'=>?_⟩;by_cases q:j=i
     . subst q;rw[gd he,hf] at hf';cases hf';exact c
     . exact all j e' r' (by omega) hf'
   . refine ifT (by simp[c]) ⟨_,rfl,k _ _ ⟨(fun z=>by cases z),fun z=>?_⟩ (s3.trans s4)⟩;exact absurd (z i e [] hi (by rw[gd he];exact hf)) c
 . obtain⟨v1,v2,rfl,s2,all⟩:=z;refine k _ _ ⟨fun _ i e r hi hf=>all i e r ?_ hf,fun _=>rfl⟩ s2;rw[zB,hal];exact hi
theorem scGm:zAE qAW qAW (defScope sGm):=fS0
theorem ok_gm (F:Fun K "grows_too_much" "grows_too_much" sGm f fd'):zAb P w K mg base CX0 1 f fd' qAW spGm:=by
 refine F.okD scGm fun _ A _ _ H vs Q E hr h=>?_;obtain⟨x,y,l,rfl,k⟩:=h;refine⟨_,zR (zA8 (zAA zCc (pv 0) zA0 (zAB _)) (zY (zAH zD8)) zAN)
  (zY (zAH (pe_or (zBb zCc (pv 1) zA0 (zAB _)) (zCp (zBb zEA (pv 1) (zAw zBs (pv 0) (pv 2)) (zAB _)))))),?_⟩
 cases x with
 | none=>exact⟨_,rfl,rfl,_,rfl,ifT (by rfl) k⟩
 | some d=>
  refine⟨_,rfl,rfl,_,rfl,ifF (by rfl) ?_⟩;cases y with
  | none=>exact⟨_,rfl,rfl,_,rfl,ifT (by rfl) k⟩
  | some c=>refine⟨_,rfl,rfl,_,rfl,ifF (by rfl) ?_⟩;exact⟨_,rfl,_,rfl,_,rfl,_,_,rfl,rfl,_,_,rfl,rfl,k⟩
theorem zND:zAE ["web","labels","u","label","row","v","w","long"] qAN (defScope sTf):=fS0
theorem ok_tf {fT fG:Addr}{fdG:FuncData}(F:Fun K "tie_fault" "tie_fault" sTf f fd') (FT:FuB K mg "told" zFj fT fdT qAF) (GT:zAb P w K mg base CX0 4 fT fdT qAF zFY)
 (FA:FuB K mg "ties_at" zH6 fA fdA qAd) (GA:zAb P w K mg base CX0 4 fA fdA qAd zIq)
 (FG:FuB K mg "grows_too_much" sGm fG fdG qAW) (GG:zAb P w K mg base CX0 4 fG fdG qAW spGm) (mEnum:mg "enumerate"=none) (mRange:mg "range"=none):zAb P w K mg base CX0 5 f fd' qAN (zH3 fun ts ess=>∀u v:Nat,u<ess.length->v<ess.length->TieR ts ess u v):=by
 refine F.okD zND fun _ A _ _ H vs Q E hr h=>?_;obtain⟨wa,la,n,ts,ess,rfl,I,k⟩:=h;obtain⟨ta,tys,hwa,_,_,G⟩:=id I.wb;have hn1:=G.n1;have hn:=G.n24;have hln:=I.kd.ln;obtain⟨as,hl,hal,hA⟩:=id I.lb;refine⟨_,zR (zA6 PassesOwn.never rfl (zE6 (by rfl) mEnum (zD (pv 1) zL)) (zCS rfl (zAD (zv (i:=2) zND.nd rfl (Or.inl rfl)) (zAD (zv (i:=3) zND.nd rfl (Or.inr rfl)) zBh)))
  (zR (zCf (i:=4) (own:=["other"]) (cn:=qAj) (ci:=[3]) zND.nd rfl (Or.inl rfl) rfl (csc rfl rfl) ⟨rfl,rfl,rfl,trivial⟩ rfl (zB9 (pv 1)) (fun _ _ _ _=>zCJ) (fun _ _ _ _=>zBP)
   (fun _ _ _ _=>zAI GT hr FT (zD (pv 0) (zD (pv 1) zL))))
  (zY (zA6 PassesOwn.never rfl (zAl rfl mRange (zD (zu zAK (pv 0) zf) zL)) (zv (i:=5) zND.nd rfl (Or.inl rfl))
   (zY (zA6 PassesOwn.never rfl (zCE (zAI GA hr FA (zD (pv 0) (zD (pv 5) zL)))) (zCS rfl (zAD (zv (i:=6) zND.nd rfl (Or.inl rfl)) (zAD (zv (i:=7) zND.nd rfl (Or.inl rfl)) zBh)))
    (zY (zA8 (zCI (zAI GG hr FG (zD (zu zAC (pv 4) (pv 5)) (zD (zu zAC (pv 4) (pv 6)) (zD (pv 7) zL))))) (zY (zAH (zAv (zD (pv 2) (zD (pv 5) (zD (pv 6) zL)))))) zAN))))))))
  (zY (zAH zA0)),?_⟩
 have gd:∀ {i es},ess[i]?=some es->ess.getD i []=es:=fun {i es} he=>by rw[zE,he];rfl
 refine⟨_,rfl,la,rfl,⟨_,SqT.of hl⟩,zEN (K:=K) (a:=la) (xs:=as.map V.ref) (fun i σ H2=>Ex6 fun (v2 v3 v4 v5 v6 v7:Option V)=>σ=[some (.ref wa),some (.ref la),v2,v3,v4,v5,v6,v7]/\zAo H H2/\∀u v:Nat,u<i->v<ess.length->TieR ts ess u v) ⟨_,_,_,_,_,_,rfl,zAo.refl _,(fun u v z=>absurd z (zBH _))⟩ (fun i σ H2 _ ⟨_,_,_,_,_,_,_,s2,_⟩=>SqT.of (s2 _ _ hl)) (fun u x σ H2 Tp hx z hTp=>?_) (fun σ H2 z=>?_)⟩
 . obtain⟨v2,v3,v4,v5,v6,v7,rfl,s2,all⟩:=z;rw[zM] at hx;cases ha:as[u]? with
   | none=>rw[ha] at hx;cases hx
   | some a=>
   rw[ha] at hx;cases hx;obtain⟨fs,hfs,Lu⟩:=hA u a ha;have hul:u<ess.length:=(zF.mp hfs).1;have gu:=I.kd.at hul;rw[gd hfs] at gu;have s3:=s2.trans (zH (o:=.tup [.int (u:Int),.ref a]) hTp);refine⟨Tp,_,rfl,SqT.of zI,rfl,_,_,rfl,_,_,rfl,rfl,?_⟩;generalize upd H2 Tp (.tup [.int (u:Int),.ref a])=H3 at s3 ⊢;refine⟨_,rfl,la,rfl,⟨_,SqT.of (s3 _ _ hl)⟩,[.ref a],rfl,fun D hD=>?_⟩;refine zBk (a:=la) (xs:=as.map V.ref) (fun i ys H4=>∃os:List (Option Int),ys=os.map oV/\os.length=i/\(∀(j:Nat) o,os[j]?=some o->∃lm,zDi (Cd (ess.getD j []) fs) lm/\o=lm.map (·.1))/\i<=ess.length/\zAo H3 H4/\H4 D=some (.lst ys)) ⟨[],rfl,rfl,(fun j o e=>by simp at e),zk _,zH hD,zI⟩ (fun i ys H4 z=>?_) (fun i ys H4 z=>?_) (fun i x ys H4 hx z=>?_) (fun ys H4 z=>?_)
   . obtain⟨_,_,_,_,_,s4,_⟩:=z;exact SqT.of (s4 _ _ (s3 _ _ hl))
   . obtain⟨os,rfl,ho,_,hi,_⟩:=z;rw[zB];exact zAh (by omega)
   . obtain⟨os,rfl,ho,hos,hi,s4,h4⟩:=z;rw[zM] at hx;cases hb:as[i]? with
     | none=>rw[hb] at hx;cases hx
     | some b=>
     rw[hb] at hx;cases hx;obtain⟨es,hes,Li⟩:=hA i b hb;have s34:=s3.trans s4;refine⟨⟨rfl,rfl⟩,?_⟩;refine zFN ?_;refine⟨_,rfl,_,rfl,b,a,es,fs,rfl,Li.same s34,Lu.same s34,gu.hub,fun lm H5 s5 hm=>?_⟩;refine⟨s5 _ _ h4,os++[lm.map (·.1)],by rw[zQ];rfl,by rw[zJ,ho];rfl,fun j o e=>?_,(zF.mp hes).1,zAV (s4.trans s5) hD,zI⟩;by_cases c:j<os.length
     . rw[zP c] at e;exact hos j o e
     . rw[zO (by omega)] at e;have hj:j=i:=by have:=(zF.mp e).1;rw[List.length_singleton] at this;omega
       subst hj;rw[show j-os.length=0 by omega] at e;cases e;exact⟨lm,by rw[gd hes];exact hm,rfl⟩
   . obtain⟨os,rfl,ho,hos,_,s4,h4⟩:=z;rw[zB,hal] at ho;have s34:=s3.trans s4;have at':∀x:Int,0<=x->x<n->∃lm,atI (os.map oV) x=some (oV (lm.map (·.1)))/\zDi (Cd (ess.getD x.toNat []) (ess.getD u [])) lm:=fun x x0 x1=>by
      have hx:x.toNat<os.length:=by omega
      obtain⟨lm,h1,h2⟩:=hos x.toNat _ (zA hx);exact⟨lm,zBQ x0 (by rw[zM,zA hx,h2];rfl),by rw[gd hfs];exact h1⟩
     refine⟨_,rfl,wa,_,_,_,rfl,rfl,SqT.of (s34 _ _ hwa),rfl,n,rfl,by omega,by omega,zA3 (lo:=0) (n:=n.toNat) (fun i σ H5=>Ex3 fun (v5 v6 v7:Option V)=>σ=[some (.ref wa),some (.ref la),some (.int u),some (.ref a),some (.ref D),v5,v6,v7]/\zAo H4 H5/\∀v:Nat,v<i->TieR ts ess u v) ⟨_,_,_,rfl,zAo.refl _,(fun v z=>absurd z (zBH _))⟩ (fun v σ H5 hv z=>?_) (fun σ H5 z=>?_)⟩
     . obtain⟨w5,w6,w7,rfl,s5,allv⟩:=z;rw[zAZ];have s35:=s34.trans s5;refine⟨_,rfl,_,rfl,wa,n,ts,v,rfl,I.wb.keep s35,fun l zs ms H6 s6 _ hl6 TA hp _=>?_⟩;refine⟨l,rfl,⟨_,SqL.of hl6⟩,zCi (K:=K) (a:=l) (xs:=zs) (fun j σ H7=>Ex2 fun (v6 v7:Option V)=>σ=[some (.ref wa),some (.ref la),some (.int u),some (.ref a),some (.ref D),some (.int v),v6,v7]/\zAo H6 H7/\∀(r t:Int),[r,t]∈ms.take j->∀lv lw,zDi (Cd (ess.getD v []) (ess.getD u [])) lv->zDi (Cd (ess.getD r.toNat []) (ess.getD u [])) lw->∀c,lv=some c->∃c',lw=some c'/\c'.1<=c.1+t) ⟨_,_,rfl,zAo.refl _,(fun r t z=>by rw[List.take_zero] at z;cases z)⟩ (fun j σ H7 _ z=>?_) (fun j x σ H7 hx z=>?_) (fun σ H7 z=>?_)⟩
       . obtain⟨_,_,_,s7,_⟩:=z;exact SqL.of (s7 _ _ hl6)
       . obtain⟨x6,x7,rfl,s7,allt⟩:=z;obtain⟨ya,ky,rfl,hky,hya,_⟩:=TA.get hx;obtain⟨r,c,rfl,hadj⟩:=zF6.mp (hp.mem_iff.mp (zV hky));obtain⟨r0,r1⟩:0<=r/\r<n:=(Way.one hadj).in_ G (by omega) (by omega);have h47:H7 D=some (.lst (os.map oV)):=s7 _ _ (s6 _ _ (s5 _ _ h4));obtain⟨o1,a1,L1⟩:=at' v (by omega) (by omega);obtain⟨o2,a2,L2⟩:=at' r r0 r1;rw[show ((v:Int)).toNat=v by omega] at L1;refine⟨ya,_,rfl,SqT.of (s7 _ _ hya),rfl,_,_,rfl,_,_,rfl,rfl,?_⟩;refine⟨_,rfl,_,rfl,D,_,_,_,rfl,rfl,SqL.of h47,a1,_,rfl,_,rfl,D,_,_,_,rfl,rfl,SqL.of h47,a2,_,rfl,o1.map (·.1),o2.map (·.1),c,rfl,?_⟩;refine⟨_,rfl,?_⟩;cases hg:grB (o1.map (·.1)) (o2.map (·.1)) c with
         | false=>
          refine zCr ⟨_,_,rfl,s7,fun r' t' z lv lw hlv hlw cc hcc=>?_⟩;rw[zy,hky] at z;rcases zm.mp z with z | z
          . exact allt r' t' z lv lw hlv hlw cc hcc
          . have:=zd.mp z;injection this with q1 q2;injection q2 with q2 _;subst q1 q2;rw[hlv.uniq L1] at hcc;rw[hlw.uniq L2];subst hcc;cases o2 with
            | none=>cases hg
            | some c'=>have:=of_decide_eq_false (show decide (cc.1+t'<c'.1)=false from hg);exact⟨c',rfl,by omega⟩
         | true=>
          refine zFC ⟨_,rfl,_,rfl,_,rfl,by show 3<=sizeLine;decide,fun q hq=>?_⟩;refine k _ _ ⟨(fun z=>by cases z),fun z=>?_⟩ (s35.trans (s6.trans (s7.trans (zH hq))));cases o1 with
          | none=>cases hg
          | some c1=>obtain⟨c',e',le⟩:=z u v hul (by omega) r c _ _ hadj L1 L2 c1 rfl;subst e';have:=of_decide_eq_true (show decide (c1.1+c<c'.1)=true from hg);omega
       . obtain⟨x6,x7,rfl,s7,allt⟩:=z;refine⟨_,_,_,rfl,s5.trans (s6.trans s7),fun v' hv'=>?_⟩;by_cases q:v'=v
         . subst q;intro r t lv lw hadj hlv hlw;refine allt r t ?_ lv lw hlv hlw;rw[TA.length,zh (zK _)];exact hp.mem_iff.mpr (zF6.mpr ⟨r,t,rfl,hadj⟩)
         . exact allv v' (by omega)
     . obtain⟨w5,w6,w7,rfl,s5,allv⟩:=z;refine⟨_,_,_,_,_,_,rfl,s34.trans s5,fun u' v' hu' hv'=>?_⟩;by_cases q:u'=u
       . subst q;exact allv v' (by omega)
       . exact all u' v' (by omega) hv'
 . obtain⟨v2,v3,v4,v5,v6,v7,rfl,s2,all⟩:=z;refine k _ _ ⟨fun _ u v hu hv=>all u v ?_ hv,fun _=>rfl⟩ s2;rw[zB,hal];exact hu
theorem scRefa:zAE qAh qAh (defScope zJN):=fS0
variable {fI:Addr}{fdI:FuncData}
theorem zNf (F:Fun K "refuse_at" "refuse_at" zJN f fd') (mC:mg "NoLabels"=some (.ref C)) (EI:zGy K C fI)(bI:zDp K fdI qAU []) (GI:zAb P w K mg base CX0 1 fI fdI qAU (spXI C "word" "at")):zAb P w K mg base (CXI P w) 3 f fd' qAh (zIu C):=by
 refine F.okI scRefa (fun vs H Q E h=>?_) (fun cdv A outer s H vs Q E hr h=>?_)
 . obtain⟨x,v,rfl,_⟩:=h;rfl
 . obtain⟨x,v,rfl,kY,kN⟩:=h;refine⟨_,zY (zA8 (zAA zCu (pv 1) zA0 (zAB _)) (zY (zFy (E:=E) rfl mC EI rfl GI hr bI (zD (pv 0) (zD (pv 1) zL)) (fun pins σ H s ea tt dx I he hn h0 hE=>zJY I he rfl rfl rfl rfl hn h0 hE))) zAN),?_⟩;refine⟨_,rfl,rfl,_,rfl,?_⟩;by_cases c:v=.non
   . exact ifF (by rw[zS c];rfl) (kY c)
   . refine ifT (by rw[zc c];rfl) ?_;exact⟨_,rfl,_,rfl,_,_,rfl,kN c⟩
theorem scLets:zAE qAf qAf (defScope zJO):=fS0
theorem zNh {fR fT:Addr}{fdR:FuncData}(F:Fun K "lets_labels" "lets_labels" zJO f fd') (mC:mg "NoLabels"=some (.ref C)) (EI:zGy K C fI)(bI:zDp K fdI qAU []) (GI:zAb P w K mg base CX0 5 fI fdI qAU (spXI C "word" "at"))
 (FA:FuB K mg "are_labels" zFn fA fdA qAK) (GA:zAb P w K mg base CX0 6 fA fdA qAK zI6)
 (FR:FuB K mg "refuse_at" zJN fR fdR qAh) (GR:zAb P w K mg base (CXI P w) 6 fR fdR qAh (zIu C))
 (FO:FuB K mg "own_fault" sOf fO fdO qAg) (GO:zAb P w K mg base CX0 6 fO fdO qAg spOf)
 (FU:FuB K mg "up_fault" sUf fU fdU qAN) (GU:zAb P w K mg base CX0 6 fU fdU qAN (zH3 fun ts ess=>∀i e,FrE ess i e->UpR ts ess i e))
 (FT:FuB K mg "tie_fault" sTf fT fdT qAN) (GT:zAb P w K mg base CX0 6 fT fdT qAN (zH3 fun ts ess=>∀u v:Nat,u<ess.length->v<ess.length->TieR ts ess u v))
 (FD:FuB K mg "down_fault" sDf fD fdD qAN) (GD:zAb P w K mg base CX0 6 fD fdD qAN (zH3 fun ts ess=>∀i e,FrE ess i e->DnR ts ess i e)):zAb P w K mg base (CXI P w) 7 f fd' qAf (zI3 C):=by
 refine F.okI scLets (fun vs H Q E h=>?_) (fun cdv A outer s H vs Q E hr h=>?_)
 . obtain⟨wa,la,n,ts,ess,rfl,_⟩:=h;rfl
 . obtain⟨wa,la,n,ts,ess,rfl,I0,kY,kN⟩:=h;obtain⟨ta,tys,hwa,_,_,G⟩:=id I0.wb;have hn1:=G.n1;have hl:=I0.ln;refine⟨_,zR (zA8 (zCo (zCI (zAI GA hr FA (zD (zu zAK (pv 0) zf) (zD (pv 1) zL))))) (zY (zFy (E:=E) rfl mC EI rfl GI hr bI (zD zEp (zD zA0 zL)) (fun pins σ H s ea tt dx I he hn h0 hE=>zJY I he rfl rfl rfl rfl hn h0 hE))) zAN)
    (zR (zBX (zD7 GR hr rfl FR.m FR.F.kp FR.b .nil zLG (zD zEp (zD (zAI GO hr FO (zD (pv 1) zL)) zL))))
    (zR (zBX (zD7 GR hr rfl FR.m FR.F.kp FR.b .nil zLG (zD zEp (zD (zAI GU hr FU (zD (pv 0) (zD (pv 1) zL))) zL))))
    (zR (zBX (zD7 GR hr rfl FR.m FR.F.kp FR.b .nil zLG (zD zEp (zD (zAI GT hr FT (zD (pv 0) (zD (pv 1) zL))) zL))))
    (zR (zBX (zD7 GR hr rfl FR.m FR.F.kp FR.b .nil zLG (zD zEp (zD (zAI GD hr FD (zD (pv 0) (zD (pv 1) zL))) zL))))
    (zY (zAH zD8)))))),?_⟩
   have fail:∀{x:Str}{u:V}{H1:Hp},¬ LtO ts n ess->zAo H H1->∀tt dx,H1 tt=none->H1 dx=none->tt≠dx->E (.ref C) (some dx) (upd (upd H1 tt (.tup [.str x,u])) dx (dO dx [("word",.str x),("at",u)])):=fun no s1 tt dx ht hd ne=>
    kN no _ _ (s1.trans ((zH ht).trans (zH (by rw[za (Ne.symm ne)];exact hd))))
   refine⟨_,rfl,wa,_,_,_,rfl,rfl,SqT.of hwa,rfl,_,rfl,n,la,ess,rfl,I0.lb,by omega,G.n24,fun b H1 hb s1=>⟨b,rfl,?_⟩⟩;cases b with
   | false=>exact zFC ⟨_,_,rfl,fail (fun z=>by cases (hb.mpr z.kd.kd)) s1⟩
   | true=>
   refine zCr ?_;have I:LtK H wa la n ts ess:=⟨I0.wb,I0.lb,hl,hb.mp rfl⟩;refine⟨_,rfl,wa,la,n,ts,ess,rfl,I.same s1,fun v2 H2 e2 s2=>?_⟩;have s12:=s1.trans s2;refine⟨_,_,rfl,fun z2=>?_,fun z2=>fail (fun z=>z2 (e2.mpr z.lt.own)) s12⟩;have own:=e2.mp z2;refine⟨_,rfl,_,rfl,wa,la,n,ts,ess,rfl,I.same s12,fun v3 H3 e3 s3=>?_⟩;have s13:=s12.trans s3;refine⟨_,_,rfl,fun z3=>?_,fun z3=>fail (fun z=>z3 (e3.mpr z.lt.up)) s13⟩;have up:=e3.mp z3;refine⟨_,rfl,_,rfl,wa,la,n,ts,ess,rfl,I.same s13,fun v4 H4 e4 s4=>?_⟩;have s14:=s13.trans s4;refine⟨_,_,rfl,fun z4=>?_,fun z4=>fail (fun z=>z4 (e4.mpr z.lt.tie)) s14⟩;have tie:=e4.mp z4;refine⟨_,rfl,_,rfl,wa,la,n,ts,ess,rfl,I.same s14,fun v5 H5 e5 s5=>?_⟩;have s15:=s14.trans s5;refine⟨_,_,rfl,fun z5=>?_,fun z5=>fail (fun z=>z5 (e5.mpr z.lt.dn)) s15⟩;exact kY ⟨I.kd,own,up,tie,e5.mp z5⟩ _ s15
theorem scIl:zAE ["_law_web_here","_law_thing","_law_found"] qAb (defScope sIl):=fS0
theorem ok_il (F:Fun K "_law_let" "_law_let" sIl f fd') (mC:mg "NoLabels"=some (.ref C)) (EI:zGy K C fI)(sb:L2.subIn K C C=true)
 (FL:FuB K mg "lets_labels" zJO fL fdL qAf) (GL:zAb P w K mg base (CXI P w) 7 fL fdL qAf (zI3 C)):zAb P w K mg base CX0 8 f fd' qAb spIl:=by
 have qC:zMm K C=true:=by unfold zMm;rw[EI.cl];rfl
 refine F.okD scIl fun _ A _ _ H vs Q E hr h=>?_;obtain⟨wa,la,n,ts,ess,rfl,I,k⟩:=h;refine⟨_,zR (zAi (i:=2) scIl.nd zD8)
  (zR (zNQ rfl rfl rfl mC qC (zLA (i:=2) scIl.nd rfl (Or.inl rfl) GL hr rfl FL.m FL.F.kp FL.b (zD (pv 0) (zD (pv 1) zL)) zD8)
   (fun ea oe=>zY (zAi (i:=2) scIl.nd zD8)))
  (zY (zAH (pv 2)))),?_⟩
 refine⟨_,rfl,_,rfl,wa,la,n,ts,ess,rfl,I,fun y H' s'=>?_,fun no od H' s'=>?_⟩
 . exact⟨_,_,rfl,rfl,_,rfl,k true H' ⟨fun _=>y,fun _=>rfl⟩ s'⟩
 . exact⟨C,rfl,qC,sb,_,rfl,k false H' ⟨fun z=>(Bool.noConfusion z),fun z=>absurd z no⟩ s'⟩
theorem oV_non:decide (oV o=V.non)=o.isNone:=by
 cases o with
 | none=>rfl
 | some d=>exact zc (by intro e;cases e)
structure Ex (ts:List T3)(v:Int)(e:En):Prop where
 len:WM.IsD ts v e.h e.l
 own:e.h=v->e.u=none/\e.d=none
 up:e.h≠v->∃p,e.u=some p/\Nxt ts v e.h p
 dn:e.h≠v->∃p,e.d=some p/\Nxt ts e.h v p
theorem Ex.of (G:GW n ts)(l:WM.IsD ts v e.h e.l)(a:zKt (Nxt ts v e.h) e.u)(b:zKt (Nxt ts e.h v) e.d):Ex ts v e:=by
 refine⟨l,fun z=>⟨?_,?_⟩,fun z=>?_,fun z=>?_⟩
 . cases hu:e.u with
   | none=>rfl
   | some m=>rw[hu] at a;exact absurd z.symm (a.1.ne G)
 . cases hu:e.d with
   | none=>rfl
   | some m=>rw[hu] at b;exact absurd z (b.1.ne G)
 . obtain⟨p,hp⟩:=Nxt.exists G l (Ne.symm z);exact a.some_of hp
 . obtain⟨p,hp⟩:=Nxt.exists G l.symm z;exact b.some_of hp
theorem Ex.ok (G:GW n ts)(x:Ex ts v e)(r:0<=e.h/\e.h<n):EOk n e:=by refine⟨r,x.len.1.nn G,fun z=>x.own ((zCH G x.len).mp z).symm,fun z=>?_⟩;have ne:e.h≠v:=fun q=>z ((zCH G x.len).mpr q.symm);obtain⟨u,hu,l1,b1,a1,_⟩:=x.up ne;obtain⟨d,hd,l2,b2,a2,_⟩:=x.dn ne;have g1:=G.adj a1;have g2:=G.adj a2;exact⟨u,d,hu,hd,by omega,by omega,by omega,by omega⟩
noncomputable def zGw (es:List En)(h:Int):Prop:=∃e∈es,e.h=h
structure LM (Z:Int->List En->Prop)(ts:List T3)(n:Int)(v B:Int)(es:List En):Prop where
 hub:Hub es
 rng:∀e∈es,0<=e.h/\e.h<n
 nn:∀e∈es,0<=e.l/\e.l<=B
 own:∃e∈es,e.h=v
 zero:∀e∈es,e.l=0↔e.h=v
 rch:∀e∈es,∃d,WM.IsD ts v e.h d
 ud:Z v es
noncomputable def LMs (Z:Int->List En->Prop)(ts:List T3)(n B:Int)(ess:List (List En)):Prop:=∀(i:Nat)(es:List En),ess[i]?=some es->LM Z ts n i B es
variable {B:Int}
section
variable {Z:Int->List En->Prop}
theorem LM.mono {C:Int}(h:LM Z ts n v B es)(c:B<=C):LM Z ts n v C es:=⟨h.hub,h.rng,fun e he=>by have:=h.nn e he;omega,h.own,h.zero,h.rch,h.ud⟩
theorem LMs.mono {C:Int}(h:LMs Z ts n B ess)(c:B<=C):LMs Z ts n C ess:=fun i es e=>(h i es e).mono c
theorem zE3:∀(es:List En)(a n:Int),Hub es->(∀e∈es,a<=e.h/\e.h<n)->es.length<=(n-a).toNat
 | [],_,_,_,_=>zk _
 | x::r,a,n,h,b=>by
  have hp:=zBL.mp h;have hx:=b x zZ;have:=zE3 r (x.h+1) n hp.2 fun e he=>by have h1:=hp.1 e he;have h2:=b e (zg _ he);omega
  rw[zt];omega
theorem LM.len (h:LM Z ts n v B es)(hn:n<=24):es.length<=24:=by have:=zE3 es 0 n h.hub h.rng;omega
theorem LM.kind (h:LM Z ts n v B es)(n0:0<=n)(k:∀e∈es,EOk n e):zDn n es:=by
 refine⟨k,h.hub,?_,?_⟩
 . have:=zE3 es 0 n h.hub h.rng;omega
 . obtain⟨o,ho,eo⟩:=h.own;have hm:o∈es.filter (fun e=>decide (e.l=0)):=zAQ.mpr ⟨ho,zS ((h.zero o ho).mpr eo)⟩;have hv:∀x∈es.filter (fun e=>decide (e.l=0)),x.h=v:=fun x hx=>by obtain⟨h1,h2⟩:=zAQ.mp hx;exact (h.zero x h1).mp (of_decide_eq_true h2)
   have hp:(es.filter (fun e=>decide (e.l=0))).Pairwise fun a b=>a.h<b.h:=List.Pairwise.filter _ h.hub;have this:(fun x:Int=>x==0)∘(fun e:En=>e.l)=fun e=>decide (e.l=0):=by funext e;show (e.l==0)=decide (e.l=0);rw[Bool.eq_iff_iff,decide_eq_true_iff,beq_iff_eq]
   rw[List.countP_map,List.countP_eq_length_filter,this];cases hf:es.filter (fun e=>decide (e.l=0)) with
   | nil=>rw[hf] at hm;cases hm
   | cons a r=>
    rw[hf] at hv hp;cases r with
    | nil=>rfl
    | cons b r=>have h1:=hv a zZ;have h2:=hv b (zg _ zZ);have:=(zBL.mp hp).1 b zZ;omega
theorem zJ9 (G:GW n ts){l:Int}(d:WM.IsD ts v h l):l=0↔h=v:=⟨fun z=>((zCH G d).mp z).symm,fun z=>(zCH G d).mpr z.symm⟩
end
noncomputable def ExZ (ts:List T3)(v:Int)(es:List En):Prop:=∀e∈es,Ex ts v e
theorem zEZ.lm (G:GW n ts)(L:zEZ ts n rk ess)(b:∀es∈ess,∀e∈es,0<=e.l/\e.l<=2376):LMs (ExZ ts) ts n 2376 ess:=fun i es hes=>by
 have LO:=L.2 i es hes;have hil:=(zF.mp hes).1;have hl:=L.1;refine⟨LO.hub,fun e he=>(LO.ent e he).rng,fun e he=>b es (zV hes) e he,LO.all i (by omega) (by omega) ⟨⟨0,zBu G i⟩,fun p hp=>?_⟩,fun e he=>zJ9 G (LO.ent e he).len,fun e he=>⟨_,(LO.ent e he).len⟩,fun e he=>Ex.of G (LO.ent e he).len (LO.ent e he).up (LO.ent e he).dn⟩;obtain⟨x,y,hx,hy,hxy⟩:=hp;have e:=WM.IsD.uniq hxy (zBu G i);have h1:=hx.1.nn G;have h2:=hy.1.nn G;have hx0:x=0:=by omega
 rw[<-(zCH G hx).mp hx0];exact zBE _
noncomputable def zFL (H:Hp)(bs:List Addr)(ess:List (List En)):Prop:=bs.length=ess.length/\∀(i:Nat)(b:Addr),bs[i]?=some b->∃es,ess[i]?=some es/\zBR H b es
theorem zFL.keep {bs:List Addr}(h:zFL H bs ess)(k:∀b ys,H b=some (.tup ys)->H' b=some (.tup ys)):zFL H' bs ess:=⟨h.1,fun i b e=>let ⟨es,e1,e2⟩:=h.2 i b e;⟨es,e1,e2.keep k⟩⟩
theorem zFL.snoc {bs:List Addr}(h:zFL H bs ess)(L:zBR H b es):zFL H (bs++[b]) (ess++[es]):=by
 refine⟨by rw[zJ,zJ,h.1];rfl,fun i c hc=>?_⟩;by_cases hi:i<bs.length
 . rw[zP hi] at hc;obtain⟨fs,e1,e2⟩:=h.2 i c hc;exact⟨fs,by rw[zP (by rw[<-h.1];exact hi)];exact e1,e2⟩
 . rw[zO (by omega)] at hc;cases hz:i-bs.length with
   | zero=>
    rw[hz] at hc;have e1:b=c:=by simpa using hc
    subst e1;exact⟨es,by rw[zO (by rw[<-h.1];omega),<-h.1,hz];rfl,L⟩
   | succ z=>rw[hz] at hc;simp at hc
variable {Z:Int->List En->Prop}
theorem LMs.snoc (h:LMs Z ts n B ess){q:Nat}(hq:ess.length=q)(L:LM Z ts n q B es):LMs Z ts n B (ess++[es]):=fun i fs hf=>by
 by_cases hi:i<ess.length
 . rw[zP hi] at hf;exact h i fs hf
 . rw[zO (by omega)] at hf;cases hz:i-ess.length with
   | zero=>
    rw[hz] at hf;have e1:es=fs:=by simpa using hf
    subst e1;rw[show i=q by omega];exact L
   | succ z=>rw[hz] at hf;simp at hf
noncomputable def FuZ (ts:List T3)(n:Int)(v:Int)(es:List En):Prop:=ExZ ts v es/\∀h d,0<=h->h<n->WM.IsD ts v h d->zGw es h
inductive zHH (vs:List V)(H:Hp)(Q:VK):Prop
 | mk:∀(wa fl:Addr)(n:Int)(ts:List T3)(M:lLO),(vs=[.ref wa,.ref fl])->(zB3 H wa n ts)->(zCN H fl n ts M)->(∀(l:Addr)(ess:List (List En))(H':Hp),zAo H H'->zA4 H' l ess->ess.length=n.toNat->LMs (FuZ ts n) ts n 2376 ess->Q (.ref l) H')->zHH vs H Q
noncomputable def zMD:Sp:=fun vs H Q _=>zHH vs H Q
theorem zIJ (m:Nat):(WM.lowTo m).Pairwise (· < ·):=by unfold WM.lowTo;rw[zAt];exact List.pairwise_lt_range.imp fun h=>by omega
theorem zJy {p:Int}:p∈WM.lowTo m↔0<=p/\p<m:=WM.mem_ints
theorem zII (m:Nat):WM.lowTo (m+1)=WM.lowTo m++[(m:Int)]:=by unfold WM.lowTo;rw[List.range_succ,zQ];rfl
theorem zHO:zAE ["_law_web_here","_law_far_here","_law_labels_here","_law_place","_law_hubs"] qAR (defScope zJQ):=fS0
theorem zNj (F:Fun K "_law_full" "_law_full" zJQ f fd') (FE:FuB K mg "_law_entry" zH9 fE fdE qAC) (GE:zAb P w K mg base CX0 3 fE fdE qAC zJE)
 (mRange:mg "range"=none) (mTuple:mg "tuple"=none):zAb P w K mg base CX0 4 f fd' qAR zMD:=by
 refine F.okD zHO fun _ A _ _ H vs Q E hr h=>?_;obtain⟨wa,fl,n,ts,M,rfl,W,FR,k⟩:=h;obtain⟨ta,tys,hwa,_,_,G⟩:=id W;have hn1:=G.n1;have hn24:=G.n24;refine⟨_,zR (zAi (i:=2) zHO.nd (zBV zL))
  (zR (zA6 PassesOwn.never rfl (zAl rfl mRange (zD (zu zAK (pv 0) zf) zL)) (zv (i:=3) zHO.nd rfl (Or.inr rfl))
   (zR (zCf (i:=4) (own:=["_law_hub"]) (cn:=["_law_far_here","_law_place"]) (ci:=[1,3]) zHO.nd rfl (Or.inl rfl) rfl (csc rfl rfl) ⟨rfl,rfl,rfl,rfl,rfl,rfl,trivial⟩ rfl
    (zAl rfl mRange (zD (zu zAK (pv 0) zf) zL)) (fun _ _ _ _=>zCJ)
    (fun _ _ _ _=>zCt (zAA zCu (zu zCP (zu zCP (pv 1) (pv 2)) (pv 0)) zA0 (zAB _))) (fun _ _ _ _=>pv 0))
   (zY (zBX (zCq PySem.F.plainAttrs_list PySem.F.slot_list_append PySem.F.type_list_append zA7 (pv 2) (zD (zAr zAT mTuple (zD
    (zBi (own:=["_law_hub"]) (cn:=["_law_web_here","_law_far_here","_law_place"]) (ci:=[0,1,3]) rfl (csc rfl rfl) ⟨rfl,rfl,rfl,rfl,rfl,rfl,rfl,rfl,rfl,trivial⟩ rfl (zCE (pv 4)) (fun _ _ _ _=>zCJ) (fun _ _ _ _=>zBP)
     (fun _ _ _ _=>zAI GE hr FE (zD (pv 1) (zD (pv 2) (zD (pv 3) (zD (pv 0) zL)))))) zL)) zL))))))
  (zY (zAH (zAr zAT mTuple (zD (pv 2) zL))))),?_⟩
 refine⟨by show 0<=sizeLine;decide,fun D hD=>?_⟩;have s0:=zH (o:=.lst []) hD;refine⟨_,rfl,wa,_,_,_,rfl,rfl,SqT.of (s0 _ _ hwa),rfl,n,rfl,by omega,by omega,zA3 (lo:=0) (n:=n.toNat) (fun q σ H1=>Ex4 fun (v3 v4:Option V)(bs:List Addr)(ess:List (List En))=>σ=[some (.ref wa),some (.ref fl),some (.ref D),v3,v4]/\ess.length=q/\H1 D=some (.lst (bs.map V.ref))/\zFL H1 bs ess/\LMs (FuZ ts n) ts n 2376 ess/\zAo H H1)
  ⟨_,_,[],[],rfl,rfl,zI,⟨rfl,fun i b z=>by simp at z⟩,(fun i es z=>by simp at z),s0⟩ ?turn ?after⟩
 case after=>
  rintro σ H1 ⟨v3,v4,bs,ess,rfl,hel,hD1,LL,LMM,s1⟩;refine⟨_,rfl,D,_,rfl,.inl ⟨SqL.of hD1,fun l hl=>?_⟩⟩;have sl:=zH (o:=.tup (bs.map V.ref)) hl;exact k l ess _ (s1.trans sl) ⟨bs,zI,LL.1,(LL.keep fun b ys e=>sl _ _ e).2⟩ hel LMM
 case turn=>
  rintro q σ H1 hq ⟨v3,v4,bs,ess,rfl,hel,hD1,LL,LMM,s1⟩;rw[zAZ];have FR1:=FR.keep fun b ys e=>s1 _ _ e;have W1:=W.keep s1;refine⟨_,rfl,wa,_,_,_,rfl,rfl,SqT.of (s1 _ _ hwa),rfl,n,rfl,by omega,by omega,[.ref fl,.int q],rfl,fun D1 hD1'=>?_⟩;refine zBz (lo:=0) (n:=n.toNat) (fun j ys H2=>j<=n.toNat/\ys=((WM.lowTo j).filter fun h=>(mat M q h).isSome).map V.int/\H2=upd H1 D1 (.lst ys)) ⟨zk _,rfl,rfl⟩ (fun j ys H2 z=>?_) (fun j ys H2 hj z=>?_) (fun ys H2 z=>?_)
  . obtain⟨hj,rfl,_⟩:=z;rw[zB];refine zAn (zAX _ _) (zAS ?_);unfold WM.lowTo;rw[zB,zAP];omega
  . obtain⟨_,rfl,rfl⟩:=z;rw[zAZ];obtain⟨rs,r,row,f1,f2,f3,f4,f5⟩:=FR1.get (x:=q) (y:=j) (by omega) (by omega) (by omega) (by omega);have sx:=zH (o:=.lst (((WM.lowTo j).filter fun h=>(mat M q h).isSome).map V.int)) hD1';refine⟨⟨rfl,rfl⟩,?_⟩;refine⟨_,rfl,_,rfl,fl,_,_,.ref r,rfl,rfl,SqL.of (sx _ _ f1),f2,_,rfl,r,_,_,_,rfl,rfl,SqL.of (sx _ _ f3),f4,rfl,_,rfl,?_⟩;rw[oV_non];have st:(WM.lowTo (j+1)).filter (fun h=>(mat M q h).isSome)=(WM.lowTo j).filter (fun h=>(mat M q h).isSome)++(if (mat M q j).isSome=true then [(j:Int)] else []):=by rw[zII,zBf];congr 1;rw[List.filter_cons];rfl
    cases hm:mat M q j with
    | none=>refine zCr ⟨by omega,?_,rfl⟩;rw[st,hm];simp
    | some d=>refine zFC ?_;refine⟨_,rfl,zI,by omega,?_,zCd⟩;rw[st,hm,zQ];rfl
  obtain⟨_,rfl,rfl⟩:=z;generalize hhs:(WM.lowTo n.toNat).filter (fun h=>(mat M q h).isSome)=hs;have hsr:hs.Pairwise (· < ·):=by rw[<-hhs];exact (zIJ _).sublist List.filter_sublist
  have hsm:∀x,x∈hs↔(0<=x/\x<n)/\(mat M q x).isSome=true:=fun x=>by
   rw[<-hhs,zAQ,zJy];constructor
   . rintro ⟨a,b⟩;exact⟨by omega,b⟩
   . rintro ⟨a,b⟩;exact⟨by omega,b⟩
  have hsl:hs.length<=24:=by
   have:hs.length<=(WM.lowTo n.toNat).length:=by rw[<-hhs];exact zAX _ _
   unfold WM.lowTo at this;rw[zB,zAP] at this;omega
  have s2:=zH (o:=.lst (hs.map V.int)) hD1';have hh2:(upd H1 D1 (.lst (hs.map V.int))) D1=some (.lst (hs.map V.int)):=zI;have hDx:=s2 _ _ hD1;generalize upd H1 D1 (.lst (hs.map V.int))=H2 at s2 hh2 hDx ⊢;have s12:=s1.trans s2;refine⟨_,rfl,.inl ⟨rfl,_,SqL.of hDx⟩,_,rfl,D1,rfl,⟨_,SqL.of hh2⟩,[.ref wa,.ref fl,.int q],rfl,fun D2 hD2=>?_⟩;refine zCw (a:=D1) (xs:=hs.map V.int) (fun j ys H3=>Ex2 fun (cs:List Addr)(es:List En)=>ys=cs.map V.ref/\es.length=j/\zBO H3 cs es/\(∀(m:Nat)(e:En),es[m]?=some e->hs[m]?=some e.h/\Ex ts q e)/\zAo H2 H3/\H3 D2=some (.lst ys)/\j<=hs.length)
   ⟨[],[],rfl,rfl,⟨rfl,fun m c z=>by simp at z⟩,(fun m e z=>by simp at z),zH hD2,zI,zk _⟩ (fun j ys H3 h=>?_) (fun j ys H3 h=>?_) (fun j v ys H3 hv h=>?_) (fun ys H3 h=>?_)
  . obtain⟨_,_,_,_,_,_,s3,_⟩:=h;exact SqL.of (s3 _ _ hh2)
  . obtain⟨cs,es,rfl,hl,EA,_,_,_,hj⟩:=h;rw[zB,EA.1,hl];exact zAS (by omega)
  . obtain⟨cs,es,rfl,hl,EA,hE,s3,h3,hj⟩:=h;rw[zM] at hv;cases hx:hs[j]? with
    | none=>rw[hx] at hv;cases hv
    | some x=>
    rw[hx] at hv;cases hv;obtain⟨xr,xm⟩:=(hsm x).mp (zV hx);obtain⟨d,hd⟩:=zBK.mp xm;obtain⟨_,_,_,_,_,_,_,f5⟩:=FR1.get (x:=q) (y:=x) (by omega) (by omega) xr.1 xr.2;rw[hd] at f5;refine⟨⟨rfl,rfl⟩,?_⟩;refine zFN ?_;refine⟨_,rfl,_,rfl,_,rfl,_,rfl,wa,fl,n,ts,M,q,x,rfl,(W.keep s12).keep s3,(FR.keep fun b ys e=>s12 _ _ e).keep fun b ys e=>s3 _ _ e,by omega,by omega,xr.1,xr.2,⟨d,WM.IsD.symm f5⟩,fun a e H4 s4 ha eh el eu ed=>?_⟩;have h4:=s4 _ _ h3;refine⟨h4,cs++[a],es++[e],by rw[zQ];rfl,by rw[zJ,hl];rfl,?_,fun m e' he'=>?_,zAV (s3.trans s4) hD2,zI,(zF.mp hx).1⟩
    . have kp:∀b us,H4 b=some (.tup us)->(upd H4 D2 (.lst (cs.map V.ref++[.ref a]))) b=some (.tup us):=fun b us z=>by rw[za (zCD z h4 (by intro w;cases w))];exact z
      exact ((EA.keep fun b us z=>s4 _ _ z).keep kp).snoc (kp _ _ ha)
    . by_cases cm:m<es.length
      . rw[zP cm] at he';exact hE m e' he'
      . rw[zO (by omega)] at he';cases hz:m-es.length with
        | zero=>
         rw[hz] at he';have e1:e=e':=by simpa using he'
         subst e1;rw[show m=j by omega,hx,eh];exact⟨rfl,Ex.of G (by rw[eh];exact el) (by rw[eh];exact eu) (by rw[eh];exact ed)⟩
        | succ z=>rw[hz] at he';simp at he'
  obtain⟨cs,es,rfl,hl,EA,hE,s3,h3,_⟩:=h;rw[zB] at hl;refine⟨D2,_,rfl,.inl ⟨SqL.of h3,fun b hb=>?_⟩⟩;have s4:=s3.trans (zH (o:=.tup (cs.map V.ref)) hb);have LB:zBR (upd H3 b (.tup (cs.map V.ref))) b es:=⟨cs,zI,EA.keep fun b' us z=>zH hb _ _ z,by omega⟩;generalize upd H3 b (.tup (cs.map V.ref))=H4 at s4 LB ⊢;have hD4:=s4 _ _ hDx;have hbl:=LL.1;refine⟨D,_,_,rfl,rfl,hD4,by rw[zB,hbl];exact zAS (by omega),?_⟩;have kp:∀c us,H4 c=some (.tup us)->(upd H4 D (.lst (bs.map V.ref++[.ref b]))) c=some (.tup us):=fun c us z=>by rw[za (zCD z hD4 (by intro w;cases w))];exact z
  have hin:∀e∈es,e.h∈hs/\Ex ts q e:=fun e he=>by obtain⟨m,hm,em⟩:=zj he;have:=hE m e (by rw[zA hm,em]);exact⟨zV this.1,this.2⟩
  refine⟨_,_,bs++[b],ess++[es],rfl,by rw[zJ,hel];rfl,by rw[zQ];exact zI,((LL.keep fun c us z=>s4 _ _ (s2 _ _ z)).keep kp).snoc (LB.keep kp),LMM.snoc hel ⟨?_,fun e he=>((hsm e.h).mp (hin e he).1).1,fun e he=>?_,?_,fun e he=>zJ9 G (hin e he).2.len,fun e he=>⟨_,(hin e he).2.len⟩,fun e he=>(hin e he).2,fun x d x0 x1 hx=>?all⟩,zAV (s12.trans s4) hD⟩
  . refine zAY.mpr fun a b' ha hb' hab=>?_;have e1:=(hE a es[a] (zA ha)).1;have e2:=(hE b' es[b'] (zA hb')).1;obtain⟨i1,e1'⟩:=zF.mp e1;obtain⟨i2,e2'⟩:=zF.mp e2;have:=zAY.mp hsr a b' i1 i2 hab;omega
  . have r:=(hsm e.h).mp (hin e he).1;exact zFO G q e.h (by omega) (by omega) e.l (hin e he).2.len
  . have self:(q:Int)∈hs:=by
     refine (hsm q).mpr ⟨by omega,?_⟩;obtain⟨_,_,_,_,_,_,_,f5⟩:=FR1.get (x:=q) (y:=q) (by omega) (by omega) (by omega) (by omega);cases hm:mat M q q with
     | some d=>rfl
     | none=>rw[hm] at f5;exact absurd (zBu G (q:Int)).1 (f5 0)
    obtain⟨m,hm,em⟩:=zj self;have hme:m<es.length:=by omega
    have:=(hE m es[m] (zA hme)).1;rw[zA hm,em] at this;exact⟨es[m],zBA hme,(zT this).symm⟩
  case all=>
   have hxs:x∈hs:=by
    refine (hsm x).mpr ⟨⟨x0,x1⟩,?_⟩;obtain⟨_,_,_,_,_,_,_,f5⟩:=FR1.get (x:=q) (y:=x) (by omega) (by omega) x0 x1;cases hm:mat M q x with
    | some d=>rfl
    | none=>rw[hm] at f5;exact absurd hx.1 (f5 d)
   obtain⟨m,hm,em⟩:=zj hxs;have hme:m<es.length:=by omega
   have:=(hE m es[m] (zA hme)).1;rw[zA hm,em] at this;exact⟨es[m],zBA hme,(zT this).symm⟩
theorem zAF.neT {t:Addr}(h:zAF H t N)(hb:H b=some (.tup ys)):b≠t:=by obtain⟨p,ns,spot,rest,a,_⟩:=h;exact zCD hb a (by intro z;cases z)
theorem zC3 {t:Addr}(h:∀b,b≠t->H' b=H b):Sm t H H':=fun b o n e=>by rw[h b n];exact e
theorem zCN.sm {t:Addr}{M:lLO}(h:zCN H fl n ts M)(T:zAF H t N)(s:Sm t H H'):zCN H' fl n ts M:=by
 obtain⟨rs,h1,h2,h3⟩:=h;obtain⟨p,ns,spot,rest,ht,_⟩:=T;have nf:fl≠t:=fun z=>by
  subst z;rw[h1] at ht;injection ht with ht;injection ht with ht
  match rs,ht with
  | [],ht=>simp at ht
  | [_],ht=>simp at ht
  | _::_::_,ht=>simp at ht
 refine⟨rs,s _ _ nf h1,h2.keep fun b ys e hb=>s _ _ (fun z=>?_) e,h3⟩;subst z;obtain⟨i,hi,ei⟩:=zj hb;have hM:i<M.length:=by rw[<-h2.1];exact hi
 have:=h2.2.2 i b M[i] (by rw[zA hi,ei]) (zA hM);rw[this] at ht;injection ht with ht;injection ht with ht
 match M[i],ht with
 | [],ht=>simp at ht
 | none::_,ht=>simp[oV] at ht
 | some _::_,ht=>simp[oV] at ht
theorem zBR.sm {t:Addr}(h:zBR H p es)(T:zAF H t N)(s:Sm t H H'):zBR H' p es:=h.keep fun b ys e=>s b _ (zAF.neT T e) e
theorem zBF.at_ {t:Addr}(h:zBF H t p N):zAF H t N:=⟨p,h⟩
theorem zBF.nn {t:Addr}(h:zBF H t p N)(hb:H b=none):b≠t/\b≠p:=by obtain⟨ns,spot,rest,a,b',_⟩:=h;exact⟨(zl a hb).symm,(zl b' hb).symm⟩
theorem zBF.kp {t:Addr}(h:zBF H t p N)(s:zAo H H'):zBF H' t p N:=h.keepF (fun o e=>s _ _ e) (fun o e=>s _ _ e) (zK _)
theorem zBF.ch {t:Addr}{o:HO}(h:zBF H t p N)(n1:l≠t)(n2:l≠p):zBF (upd H l o) t p N:=h.keepF (fun _ e=>by rw[za n1.symm];exact e) (fun _ e=>by rw[za n2.symm];exact e) (zK _)
theorem zBF.up {t:Addr}{M:Nat}(h:zBF H t p N)(l:N<=M):zBF H t p M:=h.keepF (fun _ e=>e) (fun _ e=>e) l
theorem zBF.nI {t:Addr}{xs:List Int}(h:zBF H t p N)(hb:H b=some (.lst (xs.map V.int))):b≠t:=fun z=>by
 obtain⟨ns,spot,rest,a,_⟩:=h;rw[z,a] at hb;injection hb with hb;injection hb with hb
 match xs,hb with
 | [],hb=>simp at hb
 | _::_,hb=>simp at hb
theorem zD1:∀(xs:List Int)(a n:Int),xs.Pairwise (· < ·)->(∀x∈xs,a<=x/\x<n)->xs.length<=(n-a).toNat
 | [],_,_,_,_=>zk _
 | x::r,a,n,h,b=>by
  have hp:=zBL.mp h;have hx:=b x zZ;have:=zD1 r (x+1) n hp.2 fun e he=>by have h1:=hp.1 e he;have h2:=b e (zg _ he);omega
  rw[zt];omega
theorem zB3.smt {t:Addr}(h:zB3 H wa n ts)(T:zBF H t p N)(s:Sm t H H'):zB3 H' wa n ts:=h.keepT fun b ys e=>s _ _ (zAF.neT T.at_ e) e
variable {Z':Int->List En->Prop}
theorem LM.like {fs:List En}(h:LM Z ts n v B es)(hl:fs.length=es.length)(k:∀(m:Nat)(f:En),fs[m]?=some f->∃e,es[m]?=some e/\f.h=e.h/\f.l=e.l)(z:Z' v fs):LM Z' ts n v B fs:=by
 have mem:∀f∈fs,∃e∈es,f.h=e.h/\f.l=e.l:=fun f hf=>by obtain⟨m,hm,em⟩:=zj hf;obtain⟨e,e1,e2⟩:=k m f (by rw[zA hm,em]);exact⟨e,zV e1,e2⟩
 refine⟨zAY.mpr fun a b ha hb hab=>?_,fun f hf=>?_,fun f hf=>?_,?_,fun f hf=>?_,fun f hf=>?_,z⟩
 . obtain⟨e1,h1,h2,_⟩:=k a fs[a] (zA ha);obtain⟨e2,h3,h4,_⟩:=k b fs[b] (zA hb);have:=Hub.lt h.hub hab h1 h3;omega
 . obtain⟨e,he,h1,h2⟩:=mem f hf;have:=h.rng e he;omega
 . obtain⟨e,he,h1,h2⟩:=mem f hf;have:=h.nn e he;omega
 . obtain⟨o,ho,eo⟩:=h.own;obtain⟨m,hm,em⟩:=zj ho;have hmf:m<fs.length:=by omega
   obtain⟨e,h1,h2,_⟩:=k m fs[m] (zA hmf);rw[zA hm,em] at h1;cases h1;exact⟨fs[m],zBA hmf,by omega⟩
 . obtain⟨e,he,h1,h2⟩:=mem f hf;rw[h1,h2];exact h.zero e he
 . obtain⟨e,he,h1,h2⟩:=mem f hf;rw[h1];exact h.rch e he
noncomputable def LoZ (ts:List T3)(ess:List (List En))(v:Int)(fs:List En):Prop:=ExZ ts v fs/\∀h,zGw (ess.getD v.toNat []) h↔zGw fs h
inductive zFa (vs:List V)(H:Hp)(Q:VK):Prop
 | mk:∀(t p wa fl l:Addr)(N:Nat)(n B:Int)(ts:List T3)(M:lLO)(ess:List (List En)),(vs=[.ref t,.ref wa,.ref fl,.ref l])->(zBF H t p N)->(N<500000)->(zB3 H wa n ts)->(zCN H fl n ts M)->(zA4 H l ess)->(ess.length=n.toNat)->(LMs (ExZ ts) ts n B ess)->(∀(l':Addr)(fss:List (List En))(H':Hp),zA4 H' l' fss->fss.length=n.toNat->LMs (LoZ ts ess) ts n B fss->zBF H' t p (N+1200)->Sm t H H'->Q (.ref l') H')->zFa vs H Q
noncomputable def zI1:Sp:=fun vs H Q _=>zFa vs H Q
theorem zCM:zAE ["_law_tape_here","_law_web_here","_law_far_here","_law_labels_here","_law_found","_law_place","_law_label","_law_hub","_law_long","_law_up","_law_down","_law_ups","_law_downs"] qAA (defScope zFm):=fS0
theorem zLJ (F:Fun K "_law_loose" "_law_loose" zFm f fd') (FD:FuB K mg "_law_draw" zDI fD fdD qAB) (GD:zAb P w K mg base CX0 2 fD fdD qAB zDS)
 (FN:FuB K mg "_law_nexts" sNxs fN fdN qAD) (GN:zAb P w K mg base CX0 2 fN fdN qAD zM6)
 (mLen:mg "len"=none) (mRange:mg "range"=none) (mTuple:mg "tuple"=none):zAb P w K mg base CX0 3 f fd' qAA zI1:=by
 refine F.okD zCM fun _ A _ _ H vs Q E hr h=>?_;obtain⟨t,p,wa,fl,l,N,n,B,ts,M,ess,rfl,T,hN,W,FR,LL,hel,LMM,k⟩:=h;obtain⟨ta,tys,hwa,_,_,G⟩:=id W;have hn1:=G.n1;have hn24:=G.n24;obtain⟨as,hl,hal,hA⟩:=id LL;refine⟨_,zR (zAi (i:=4) zCM.nd (zBV zL))
  (zR (zA6 PassesOwn.never rfl (zAl rfl mRange (zD (zu zAK (pv 1) zf) zL)) (zv (i:=5) zCM.nd rfl (Or.inl rfl))
   (zR (zAi (i:=6) zCM.nd (zBV zL))
   (zR (zA6 PassesOwn.never rfl (zB9 (zu zAK (pv 3) (pv 5)))
    (zCS rfl (zAD (zv (i:=7) zCM.nd rfl (Or.inl rfl)) (zAD (zv (i:=8) zCM.nd rfl (Or.inl rfl)) (zAD (zv (i:=9) zCM.nd rfl (Or.inl rfl)) (zAD (zv (i:=10) zCM.nd rfl (Or.inl rfl)) zBh)))))
    (zR (zFz (u':=fun (D':zGZ) σ H3=>∃(D DL:Addr)(q:Nat)(e:En)(N0:Nat)(v11 v12:Option V),σ=[some (.ref t),some (.ref wa),some (.ref fl),some (.ref l),some (.ref D),some (.int q),some (.ref DL),some (.int e.h),some (.int e.l),some (oV e.u),some (oV e.d),v11,v12] /\
     zBF H3 t p N0/\N0<900000/\zB3 H3 wa n ts/\zCN H3 fl n ts M/\(q:Int)<n/\0<=e.h/\e.h<n/\WM.IsD ts q e.h e.l/\(e.l=0↔e.h=q)/\Ex ts q e /\
     ∀(u d:Option Int)(w11 w12:Option V)(H':Hp),Ex ts q ⟨e.h,e.l,u,d⟩->Sm t H3 H'->zBF H' t p (N0+2)->D'.nx [some (.ref t),some (.ref wa),some (.ref fl),some (.ref l),some (.ref D),some (.int q),some (.ref DL),some (.int e.h),some (.int e.l),some (oV u),some (oV d),w11,w12] H')
     (zA8 (zAA zEA (pv 8) zf (zAB _))
      (zR (zAi (i:=11) zCM.nd (zAI GN hr FN (zD (pv 1) (zD (pv 2) (zD (pv 5) (zD (pv 7) zL))))))
      (zR (zAi (i:=12) zCM.nd (zAI GN hr FN (zD (pv 1) (zD (pv 2) (zD (pv 7) (zD (pv 5) zL))))))
      (zR (zAi (i:=9) zCM.nd (zu zAC (pv 11) (zAI GD hr FD (zD (pv 0) (zD (zAJ zAm mLen (zD (pv 11) zL)) zL)))))
      (zY (zAi (i:=10) zCM.nd (zu zAC (pv 12) (zAI GD hr FD (zD (pv 0) (zD (zAJ zAm mLen (zD (pv 12) zL)) zL))))))))) zAN) (fun D' σ H3 z=>by
      obtain⟨D,DL,q,e,N0,v11,v12,rfl,T3,hN0,W3,FR3,hq,h0,h1,hd,hz,ude,z⟩:=z;refine⟨_,rfl,_,_,rfl,rfl,_,rfl,?_⟩;refine zC1 (fun c=>?_) (fun c=>?_)
      . have hne:e.h≠q:=fun x=>by have:=hz.mpr x;have:=of_decide_eq_true c;omega
        refine⟨_,rfl,_,rfl,_,rfl,_,rfl,wa,fl,n,ts,M,q,e.h,rfl,W3,FR3,by omega,hq,h0,h1,fun l1 xs H4 s4 hl1 r1 m1=>?_⟩;refine⟨_,rfl,_,rfl,_,rfl,_,rfl,wa,fl,n,ts,M,e.h,q,rfl,W3.keep s4,FR3.keep fun b ys x=>s4 _ _ x,h0,h1,by omega,hq,fun l2 ys H5 s5 hl2 r2 m2=>?_⟩;have T5:=(T3.kp s4).kp s5;have hl15:=s5 _ _ hl1;have rg:∀{x y z:Int},Nxt ts x y z->0<=z/\z<n:=fun h=>by obtain⟨_,_,ha,_⟩:=h;have:=G.adj ha;exact⟨this.2.2.1,this.2.2.2.1⟩
        have lx:xs.length<=24:=by have:=zD1 xs 0 n r1 fun x hx=>rg ((m1 x).mp hx);omega
        have ly:ys.length<=24:=by have:=zD1 ys 0 n r2 fun x hx=>rg ((m2 x).mp hx);omega
        have px:0<xs.length:=by obtain⟨z,hz'⟩:=Nxt.exists G hd fun x=>hne x.symm;exact List.length_pos_of_mem ((m1 z).mpr hz')
        have py:0<ys.length:=by obtain⟨z,hz'⟩:=Nxt.exists G (WM.IsD.symm hd) hne;exact List.length_pos_of_mem ((m2 z).mpr hz')
        refine⟨_,rfl,_,rfl,_,rfl,l1,_,rfl,.inl (SqL.of hl15),t,p,N0,_,rfl,T5,by omega,by rw[zB];omega,by rw[zB];omega,fun r H6 a6 b6 T6 he6=>?_⟩;rw[zB] at b6;obtain⟨u,hum,hu⟩:=zDU a6 b6;have n1:=T5.nI hl15;have n2:=T5.nI hl2;refine⟨l1,_,_,_,rfl,rfl,SqL.of (by rw[he6 _ n1];exact hl15),hu,?_⟩;have hl26:H6 l2=some (.lst (ys.map V.int)):=by rw[he6 _ n2];exact hl2
        refine⟨_,rfl,_,rfl,_,rfl,l2,_,rfl,.inl (SqL.of hl26),t,p,N0+1,_,rfl,T6,by omega,by rw[zB];omega,by rw[zB];omega,fun r' H7 a7 b7 T7 he7=>?_⟩;rw[zB] at b7;obtain⟨dn,hdm,hdn⟩:=zDU a7 b7;refine⟨l2,_,_,_,rfl,rfl,SqL.of (by rw[he7 _ n2];exact hl26),hdn,?_⟩;have ru:=rg ((m1 u).mp hum);have rd:=rg ((m2 dn).mp hdm);exact z (some u) (some dn) _ _ H7 ⟨hd,fun x=>absurd x hne,fun _=>⟨u,rfl,(m1 u).mp hum⟩,fun _=>⟨dn,rfl,(m2 dn).mp hdm⟩⟩ ((Sm.of (s4.trans s5)).trans ((zC3 he6).trans (zC3 he7))) T7
      . exact z e.u e.d _ _ H3 ude (Sm.refl _ _) (T3.up (by omega))))
    (zY (zBX (zCq PySem.F.plainAttrs_list PySem.F.slot_list_append PySem.F.type_list_append zA7 (pv 6) (zD (zAv (zD (pv 7) (zD (pv 8) (zD (pv 9) (zD (pv 10) zL))))) zL))))))
   (zY (zBX (zCq PySem.F.plainAttrs_list PySem.F.slot_list_append PySem.F.type_list_append zA7 (pv 4) (zD (zAr zAT mTuple (zD (pv 6) zL)) zL)))))))
  (zY (zAH (zAr zAT mTuple (zD (pv 4) zL))))),?_⟩
 refine⟨by show 0<=sizeLine;decide,fun D hD=>?_⟩;have s0:=zH (o:=.lst []) hD;have nD:=T.nn hD;refine⟨_,rfl,wa,_,_,_,rfl,rfl,SqT.of (s0 _ _ hwa),rfl,n,rfl,by omega,by omega,zA3 (lo:=0) (n:=n.toNat) (fun q σ H1=>Ex10 fun (v5 v6 v7 v8 v9 v10 v11 v12:Option V)(bs:List Addr)(fss:List (List En))=>σ=[some (.ref t),some (.ref wa),some (.ref fl),some (.ref l),some (.ref D),v5,v6,v7,v8,v9,v10,v11,v12]/\fss.length=q/\H1 D=some (.lst (bs.map V.ref))/\zFL H1 bs fss/\LMs (LoZ ts ess) ts n B fss/\zBF H1 t p (N+50*q)/\Sm t H H1)
  ⟨_,_,_,_,_,_,_,_,[],[],rfl,rfl,zI,⟨rfl,fun i b z=>by simp at z⟩,(fun i es z=>by simp at z),T.kp s0,Sm.of s0⟩ ?turn ?after⟩
 case after=>
  rintro σ H1 ⟨v5,v6,v7,v8,v9,v10,v11,v12,bs,fss,rfl,hfl',hD1,LB,LM',T1,s1⟩;refine⟨_,rfl,D,_,rfl,.inl ⟨SqL.of hD1,fun l' hl'=>?_⟩⟩;have sl:=zH (o:=.tup (bs.map V.ref)) hl';exact k l' fss _ ⟨bs,zI,LB.1,(LB.keep fun b ys e=>sl _ _ e).2⟩ hfl' LM' ((T1.kp sl).up (by omega)) (s1.trans (Sm.of sl))
 case turn=>
  rintro q σ H1 hq ⟨v5,v6,v7,v8,v9,v10,v11,v12,bs,fss,rfl,hfl',hD1,LB,LM',T1,s1⟩;rw[zAZ];have tup1:∀b ys,H b=some (.tup ys)->H1 b=some (.tup ys):=fun b ys e=>s1 _ _ (zAF.neT T.at_ e) e;obtain⟨b,hb⟩:∃b,as[q]?=some b:=⟨_,zA (by omega)⟩;obtain⟨es,hes,LE⟩:=hA q b hb;obtain⟨cs0,hbt,EA,_⟩:=id LE;have LMq:=LMM q es hes;have hesl:=LMq.len hn24;refine⟨by show 0<=sizeLine;decide,fun DL hDL=>?_⟩;have nDL:=T1.nn hDL;have sDL:=zH (o:=.lst []) hDL;have nDD:D≠DL:=zl hD1 hDL;have hatb:atI (as.map V.ref) (q:Int)=some (.ref b):=zCk (by rw[zM,hb];rfl);refine⟨_,rfl,_,rfl,l,_,_,.ref b,rfl,rfl,SqT.of (sDL _ _ (tup1 _ _ hl)),hatb,b,rfl,⟨_,SqT.of (sDL _ _ (tup1 _ _ hbt))⟩,zEM (K:=K) (a:=b) (xs:=cs0.map V.ref)
   (fun j σ H2=>Ex8 fun (v7 v8 v9 v10 v11 v12:Option V)(cs:List Addr)(fs:List En)=>σ=[some (.ref t),some (.ref wa),some (.ref fl),some (.ref l),some (.ref D),some (.int q),some (.ref DL),v7,v8,v9,v10,v11,v12]/\fs.length=j/\H2 DL=some (.lst (cs.map V.ref))/\zBO H2 cs fs/\(∀(m:Nat)(f:En),fs[m]?=some f->∃e,es[m]?=some e/\f.h=e.h/\f.l=e.l/\Ex ts q f)/\zBF H2 t p (N+50*q+2*j)/\Sm t H1 H2/\j<=es.length)
   ⟨_,_,_,_,_,_,[],[],rfl,rfl,zI,⟨rfl,fun m c z=>by simp at z⟩,(fun m f z=>by simp at z),T1.kp sDL,Sm.of sDL,zk _⟩ (fun j σ H2 _ ⟨_,_,_,_,_,_,_,_,_,_,_,_,_,_,s2,_⟩=>SqT.of (s2 _ _ (zAF.neT T1.at_ (tup1 _ _ hbt)) (tup1 _ _ hbt))) ?turn2 ?after2⟩
  case after2=>
   rintro σ H2 ⟨v7,v8,v9,v10,v11,v12,cs,fs,rfl,hfs,hDL2,EF,hF,T2,s2,_⟩;rw[zB,EA.1] at hfs T2;have hD2:=s2 _ _ nD.1 hD1;refine⟨_,rfl,.inl ⟨rfl,_,SqL.of hD2⟩,_,rfl,DL,_,rfl,.inl ⟨SqL.of hDL2,fun c hc=>?_⟩⟩;have sc:=zH (o:=.tup (cs.map V.ref)) hc;have hD3:=sc _ _ hD2;have LC:zBR (upd H2 c (.tup (cs.map V.ref))) c fs:=⟨cs,zI,EF.keep fun b' us z=>sc _ _ z,by omega⟩;generalize upd H2 c (.tup (cs.map V.ref))=H3 at sc hD3 LC ⊢;refine⟨D,_,_,rfl,rfl,hD3,by rw[zB,LB.1];exact zAS (by omega),?_⟩;have kp:∀x us,H3 x=some (.tup us)->(upd H3 D (.lst (bs.map V.ref++[.ref c]))) x=some (.tup us):=fun x us z=>by rw[za (zCD z hD3 (by intro w;cases w))];exact z
   have s13:Sm t H1 H3:=s2.trans (Sm.of sc);refine⟨_,_,_,_,_,_,_,_,bs++[c],fss++[fs],rfl,by rw[zJ,hfl'];rfl,by rw[zQ];exact zI,((LB.keep fun x us z=>s13 _ _ (zAF.neT T1.at_ z) z).keep kp).snoc (LC.keep kp),LM'.snoc hfl' (LMq.like hfs (fun m f hf=>let ⟨e,a,b,c,_⟩:=hF m f hf;⟨e,a,b,c⟩) ⟨fun f hf=>?ex,fun x=>?hub⟩),((T2.kp sc).ch nD.1 nD.2).up (by omega),(s1.trans s13).chg hD⟩
   case ex=>
    obtain⟨m,hm,em⟩:=zj hf;obtain⟨_,_,_,_,q4⟩:=hF m f (by rw[zA hm,em]);exact q4
   case hub=>
    rw[show ((q:Int)).toNat=q by omega,zE,hes];show zGw es x↔zGw fs x;constructor
    . rintro ⟨e,he,rfl⟩;obtain⟨m,hm,em⟩:=zj he;have hmf:m<fs.length:=by omega
      obtain⟨e',h1,h2,_⟩:=hF m fs[m] (zA hmf);rw[zA hm,em] at h1;cases h1;exact⟨fs[m],zBA hmf,h2⟩
    . rintro ⟨f,hf,rfl⟩;obtain⟨m,hm,em⟩:=zj hf;obtain⟨e,h1,h2,_⟩:=hF m f (by rw[zA hm,em]);exact⟨e,zV h1,h2.symm⟩
  case turn2=>
   rintro j y σ H2 hj ⟨v7,v8,v9,v10,v11,v12,cs,fs,rfl,hfs,hDL2,EF,hF,T2,s2,hjl⟩;obtain⟨c,e,rfl,he,hc⟩:=EA.at hj;have hem:=zV he;have tup2:∀x us,H x=some (.tup us)->H2 x=some (.tup us):=fun x us z=>s2 _ _ (zAF.neT T1.at_ (tup1 _ _ z)) (tup1 _ _ z);have hjl2:=(zF.mp he).1;refine⟨c,_,rfl,SqT.of (tup2 _ _ hc),rfl,_,_,rfl,_,_,rfl,_,_,rfl,_,_,rfl,rfl,?_⟩;refine⟨D,DL,q,e,_,_,_,rfl,T2,by omega,W.keepT tup2,FR.sm T.at_ (s1.trans s2),by omega,(LMq.rng e hem).1,(LMq.rng e hem).2,(LMq.ud e hem).len,LMq.zero e hem,LMq.ud e hem,fun u d w11 w12 H3 udf s3 T3=>?_⟩;have hDL3:=s3 _ _ nDL.1 hDL2;refine⟨_,rfl,.inl ⟨rfl,_,SqL.of hDL3⟩,_,rfl,_,rfl,_,rfl,_,rfl,by show 4<=sizeLine;decide,fun x hx=>?_⟩;have sx:=zH (o:=.tup [.int e.h,.int e.l,oV u,oV d]) hx;have hDL4:=sx _ _ hDL3;refine⟨DL,_,_,rfl,rfl,hDL4,by rw[zB,EF.1];exact zAS (by omega),?_⟩;have nx:x≠DL:=fun z=>by rw[z,hDL3] at hx;cases hx
   have kp:∀x' us,H3 x'=some (.tup us)->(upd (upd H3 x (.tup [.int e.h,.int e.l,oV u,oV d])) DL (.lst (cs.map V.ref++[.ref x]))) x'=some (.tup us):=fun x' us z=>by rw[za (zCD z hDL3 (by intro w;cases w))];exact sx _ _ z
   refine⟨_,_,_,_,_,_,cs++[x],fs++[⟨e.h,e.l,u,d⟩],rfl,by rw[zJ,hfs];rfl,by rw[zQ];exact zI,((EF.keep fun x' us z=>s3 _ _ (zAF.neT T2.at_ z) z).keep kp).snoc ?_,fun m f' hf'=>?_,((T3.kp sx).ch nDL.1 nDL.2).up (by omega),((s2.trans s3).trans (Sm.of sx)).chg hDL,hjl2⟩
   . rw[za nx];exact zI
   . by_cases cm:m<fs.length
     . rw[zP cm] at hf';exact hF m f' hf'
     . rw[zO (by omega)] at hf';cases hz:m-fs.length with
       | zero=>
        rw[hz] at hf';have e1:(⟨e.h,e.l,u,d⟩:En)=f':=by simpa using hf'
        subst e1;exact⟨e,by rw[show m=j by omega];exact he,rfl,rfl,udf⟩
       | succ z=>rw[hz] at hf';simp at hf'
inductive zJb (x:V)(y:V)(H:Hp)(Q:VK):Prop
 | mk:∀(a b:Addr)(xs ys:List V),(x=.ref a)->(y=.ref b)->(H a=some (.tup xs))->(H b=some (.tup ys))->(xs.length+ys.length<=sizeLine)->(∀(p:Addr)(H':Hp),zAo H H'->H' p=some (.tup (xs++ys))->Q (.ref p) H')->zJb x y H Q
noncomputable def zNM:R2:=fun x y H Q=>zJb x y H Q
theorem zCT:OpR X (binaryOp .Add) zNM:=fun pins s σ H x y v u Q I rx ry h=>by
 obtain⟨a,b,xs,ys,rfl,rfl,ha,hb,hz,q⟩:=h;refine zNW pins s σ H _ _ v u Q I rx ry ⟨a,b,xs,ys,rfl,rfl,SqT.of ha,SqT.of hb,hz,fun e=>?_,fun _ e=>?_,fun _ _ p hp=>q p _ (zH hp) zI⟩
 . subst e;exact q b H (zAo.refl _) hb
 . subst e;exact q a H (zAo.refl _) (by rw[zAG];exact ha)
inductive zMK (x:V)(lo:Option Int)(hi:Option Int)(H:Hp)(Q:VK):Prop
 | mk:∀(a:Addr)(xs:List V),(x=.ref a)->(H a=some (.tup xs))->(∀(p:Addr)(H':Hp),zAo H H'->H' p=some (.tup (zDw xs lo hi))->Q (.ref p) H')->zMK x lo hi H Q
noncomputable def rSlV:V->Option Int->Option Int->Hp->VK->Prop:=fun x lo hi H Q=>zMK x lo hi H Q
theorem zCX:SlR X rSlV:=fun pins s σ H x v vl vu lo hi sl Q I rx hs pl pu h=>by
 obtain⟨a,xs,rfl,ha,q⟩:=h;refine zJG pins s σ H _ v vl vu lo hi sl Q I rx hs pl pu ⟨a,xs,rfl,SqT.of ha,fun e=>?_,fun _ p hp=>q p _ (zH hp) zI⟩;refine q a H (zAo.refl _) ?_;have:zDw xs lo hi=xs:=by unfold zDw;rw[e.1,e.2,List.drop_zero,Nat.sub_zero,zh (zK _)]
 rw[this];exact ha
noncomputable def pcV (pcs:List (En×Addr)):List (Key×V):=pcs.map fun x=>(Sum.inl x.1.h,V.ref x.2)
structure DE (H:Hp)(d:Addr)(pcs:List (En×Addr)):Prop where
 dct:H d=some (.dK (pcV pcs))
 ent:∀x∈pcs,H x.2=some (.tup (eV x.1))
variable {pcs:List (En×Addr)}
theorem zLr (h:Int):zCL (pcV pcs) (Sum.inl h)=(pcs.find? fun x=>decide (x.1.h=h)).map fun x=>V.ref x.2:=by
 unfold zCL pcV;rw[List.find?_map,Option.map_map];have:((fun kv:Key×V=>decide (kv.1=Sum.inl h))∘fun x:En×Addr=>((Sum.inl x.1.h:Key),V.ref x.2))=fun x=>decide (x.1.h=h):=by
  funext x;show decide ((Sum.inl x.1.h:Key)=Sum.inl h)=_;by_cases c:x.1.h=h
  . rw[zS c,zS (by rw[c])]
  . rw[zc c,zc (by intro z;injection z with z;exact c z)]
 rw[this];rfl
theorem zFQ (hm:h∈pcs.map (·.1.h)):∃x∈pcs,x.1.h=h/\zCL (pcV pcs) (Sum.inl h)=some (.ref x.2):=by
 obtain⟨x0,hx0,e0⟩:=zo.mp hm;rw[zLr];cases e:pcs.find? fun x=>decide (x.1.h=h) with
 | none=>exact absurd (zS e0) (by simpa using List.find?_eq_none.mp e x0 hx0)
 | some x=>exact⟨x,List.mem_of_find?_eq_some e,of_decide_eq_true (List.find?_some (p:=fun x:En×Addr=>decide (x.1.h=h)) e),rfl⟩
theorem val_no (hm:h∉pcs.map (·.1.h)):zCL (pcV pcs) (Sum.inl h)=none:=by rw[zLr,List.find?_eq_none.mpr fun x hx z=>hm (zo.mpr ⟨x,hx,of_decide_eq_true z⟩)];rfl
theorem zDV (pcs:List (En×Addr)):(pcV pcs).map (·.1)=(pcs.map (·.1.h)).map Sum.inl:=by unfold pcV;rw[zAd,zAd];rfl
structure LU (ts:List T3)(n:Int)(v B:Int)(es:List En):Prop where
 nd:(es.map (·.h)).Nodup
 rng:∀e∈es,0<=e.h/\e.h<n
 nn:∀e∈es,0<=e.l/\e.l<=B
 own:∃e∈es,e.h=v
 zero:∀e∈es,e.l=0↔e.h=v
 rch:∀e∈es,∃d,WM.IsD ts v e.h d
theorem LM.lu (h:LM Z ts n v B es):LU ts n v B es:=⟨by rw[List.Nodup,zAt];exact h.hub.imp fun z=>by omega,h.rng,h.nn,h.own,h.zero,h.rch⟩
theorem zEB:∀(m:Nat)(l:List Nat),l.Nodup->(∀x∈l,x<m)->l.length<=m
 | 0,l,_,h=>by
  cases l with
  | nil=>exact zK _
  | cons x r=>exact absurd (h x zZ) (zBH _)
 | m+1,l,nd,h=>by
  by_cases c:m∈l
  . have:=zEB m (l.erase m) (nd.erase m) fun x hx=>by have h1:=(nd.mem_erase_iff).mp hx;have h2:=h x h1.2;have h3:=h1.1;omega
    rw[List.length_erase_of_mem c] at this;omega
  . have:=zEB m l nd fun x hx=>by have h2:=h x hx;have:x≠m:=fun z=>c (z ▸ hx);omega
    omega
theorem LU.len (h:LU ts n v B es)(hn:n<=24):es.length<=24:=by
 have:=zEB n.toNat ((es.map (·.h)).map Int.toNat) (by
  rw[List.Nodup,zAt];refine h.nd.imp_of_mem fun {a b} ha hb z=>?_;obtain⟨x,hx,rfl⟩:=zo.mp ha;obtain⟨y,hy,rfl⟩:=zo.mp hb;have h1:=h.rng x hx;have h2:=h.rng y hy;intro e;exact z (by omega)) (fun x hx=>by
  obtain⟨a,ha,rfl⟩:=zo.mp hx;obtain⟨y,hy,rfl⟩:=zo.mp ha;have:=h.rng y hy;omega)
 rw[zB,zB] at this;omega
theorem zMd:∀{es:List En},(es.map (·.h)).Nodup->∀{a b:En},a∈es->b∈es->a.h=b.h->a=b
 | [],_,_,_,ha,_,_=>by cases ha
 | x::r,nd,a,b,ha,hb,e=>by
  have nd':=zBI.mp (show (x.h::r.map (·.h)).Nodup from nd);rcases ze.mp ha with ha' | ha' <;> rcases ze.mp hb with hb' | hb'
  . rw[ha',hb']
  . exact absurd (zo.mpr ⟨b,hb',by rw[<-e,ha']⟩) nd'.1
  . exact absurd (zo.mpr ⟨a,ha',by rw[e,hb']⟩) nd'.1
  . exact zMd nd'.2 ha' hb' e
theorem LM.of_sorted {fs:List En}{ms:List Int}(L:LU ts n v B es)(hl:fs.length=ms.length)(pm:ms.Perm (es.map (·.h)))(st:ms.Pairwise (· <= ·))(hE:∀(m:Nat)(e:En),fs[m]?=some e->ms[m]?=some e.h/\e∈es)(z:(∀e,e∈fs↔e∈es)->Z v fs):LM Z ts n v B fs:=by
 have nd:ms.Nodup:=pm.nodup_iff.mpr L.nd;have mem:∀f∈fs,f∈es:=fun f hf=>by obtain⟨m,hm,em⟩:=zj hf;exact (hE m f (by rw[zA hm,em])).2
 refine⟨zAY.mpr fun a b ha hb hab=>?_,fun f hf=>L.rng f (mem f hf),fun f hf=>L.nn f (mem f hf),?_,fun f hf=>L.zero f (mem f hf),fun f hf=>L.rch f (mem f hf),z fun e=>⟨mem e,fun he=>?_⟩⟩
 . have e1:=(hE a fs[a] (zA ha)).1;have e2:=(hE b fs[b] (zA hb)).1;obtain⟨i1,e1'⟩:=zF.mp e1;obtain⟨i2,e2'⟩:=zF.mp e2;have h1:=zAY.mp st a b i1 i2 hab;have h2:ms[a]≠ms[b]:=fun z=>by have:=(zB5 nd).mp z;omega
   omega
 . obtain⟨o,ho,eo⟩:=L.own;have hv:v∈ms:=pm.mem_iff.mpr (zo.mpr ⟨o,ho,eo⟩);obtain⟨m,hm,em⟩:=zj hv;have hmf:m<fs.length:=by omega
   have:=(hE m fs[m] (zA hmf)).1;rw[zA hm,em] at this;exact⟨fs[m],zBA hmf,(zT this).symm⟩
 . have hv:e.h∈ms:=pm.mem_iff.mpr (zo.mpr ⟨e,he,rfl⟩);obtain⟨m,hm,em⟩:=zj hv;have hmf:m<fs.length:=by omega
   have q:=hE m fs[m] (zA hmf);have q1:=q.1;rw[zA hm,em] at q1;rw[zMd L.nd he q.2 (zT q1)];exact zBA hmf
theorem LU.put (L:LU ts n v B es)(h0:0<=e.h/\e.h<n)(hl:0<e.l/\e.l<=B)(hn:e.h∉es.map (·.h))(hr:∃d,WM.IsD ts v e.h d):LU ts n v B (es++[e]):=by
 have hv:e.h≠v:=fun z=>by obtain⟨o,ho,eo⟩:=L.own;exact hn (zo.mpr ⟨o,ho,by omega⟩)
 have cs:∀{P:En->Prop},(∀x∈es,P x)->P e->∀x∈es++[e],P x:=fun h1 h2 x hx=>by
  rcases zm.mp hx with z | z
  . exact h1 x z
  . rw[zd.mp z];exact h2
 obtain⟨o,ho,eo⟩:=L.own;refine⟨?_,cs L.rng h0,cs L.nn ⟨by omega,hl.2⟩,⟨o,zw _ ho,eo⟩,cs L.zero ⟨fun z=>by omega,fun z=>absurd z hv⟩,cs L.rch hr⟩;rw[zQ];exact zBq.mpr ⟨L.nd,by simp,fun a ha b hb z=>by rw[zd.mp hb] at z;exact hn (by rw[show e.h=a from z.symm];exact ha)⟩
theorem LU.mono {C:Int}(h:LU ts n v B es)(c:B<=C):LU ts n v C es:=⟨h.nd,h.rng,fun e he=>by have:=h.nn e he;omega,h.own,h.zero,h.rch⟩
noncomputable def zKs (qs:List (En×Addr))(x:En×Addr):List (En×Addr):=if x.1.h∈qs.map (·.1.h) then qs.map (fun y=>if y.1.h=x.1.h then x else y) else qs++[x]
theorem zNO (qs:List (En×Addr))(x:En×Addr):zCs (pcV qs) (Sum.inl x.1.h) (.ref x.2)=pcV (zKs qs x):=by
 by_cases c:x.1.h∈qs.map (·.1.h)
 . obtain⟨y,_,hy,hv⟩:=zFQ c;have hs:(zCL (pcV qs) (Sum.inl x.1.h)).isSome=true:=by rw[hv];rfl
   unfold zKs;rw[if_pos c];unfold zCs;rw[if_pos (by rw[zCO];exact hs)];unfold pcV;rw[zAd,zAd];refine zBa fun y _=>?_;show (if (Sum.inl y.1.h:Key)=Sum.inl x.1.h then ((Sum.inl y.1.h:Key),V.ref x.2) else ((Sum.inl y.1.h:Key),V.ref y.2))=((Sum.inl (if y.1.h=x.1.h then x else y).1.h:Key),V.ref (if y.1.h=x.1.h then x else y).2)
   by_cases e:y.1.h=x.1.h
   . rw[if_pos e,if_pos (by rw[e]),e]
   . rw[if_neg e,if_neg (by intro z;injection z with z;exact e z)]
 . rw[zDr _ (val_no c)];unfold zKs;rw[if_neg c];unfold pcV;rw[zQ];rfl
variable {qs:List (En×Addr)}
theorem zFu {x:En×Addr}(c:x.1.h∈qs.map (·.1.h)):(qs.map (fun y=>if y.1.h=x.1.h then x else y)).map (·.1.h)=qs.map (·.1.h):=by
 rw[zAd];refine zBa fun y _=>?_;show (if y.1.h=x.1.h then x else y).1.h=y.1.h
 by_cases e:y.1.h=x.1.h
 . rw[if_pos e,e]
 . rw[if_neg e]
theorem zNP {x:En×Addr}(h:(qs.map (·.1.h)).Nodup):((zKs qs x).map (·.1.h)).Nodup:=by
 unfold zKs;by_cases c:x.1.h∈qs.map (·.1.h)
 . rw[if_pos c,zFu c];exact h
 . rw[if_neg c,zQ];exact zBq.mpr ⟨h,by simp,fun a ha b hb z=>by
    have e:b=x.1.h:=by simpa using hb
    exact c (by rw[<-e,<-z];exact ha)⟩
theorem zLB {x y:En×Addr}(h:y∈zKs qs x):y∈qs\/y=x:=by
 unfold zKs at h;split at h
 . obtain⟨z,hz,e⟩:=zo.mp h;by_cases c:z.1.h=x.1.h
   . rw[if_pos c] at e;exact .inr e.symm
   . rw[if_neg c] at e;exact .inl (e ▸ hz)
 . rcases zm.mp h with z | z
   . exact .inl z
   . exact .inr (zd.mp z)
theorem zHY {x y:En×Addr}(h:y∈qs\/y=x):y.1.h∈(zKs qs x).map (·.1.h):=by
 unfold zKs;by_cases c:x.1.h∈qs.map (·.1.h)
 . rw[if_pos c,zFu c];rcases h with h | h
   . exact zo.mpr ⟨y,h,rfl⟩
   . rw[h];exact c
 . rw[if_neg c,zQ];rcases h with h | h
   . exact zw _ (zo.mpr ⟨y,h,rfl⟩)
   . exact zi _ (by rw[h];simp)
theorem zEm:∀(pcs qs:List (En×Addr)),(qs.map (·.1.h)).Nodup->∃rs,(pcV pcs).foldl (fun a p=>zCs a p.1 p.2) (pcV qs)=pcV rs/\(rs.map (·.1.h)).Nodup/\(∀x∈rs,x∈qs\/x∈pcs)/\∀x,(x.1.h∈qs.map (·.1.h)\/x∈pcs)->x.1.h∈rs.map (·.1.h)
 | [],qs,h=>⟨qs,rfl,h,fun x hx=>.inl hx,fun x hx=>hx.elim id fun z=>by simp at z⟩
 | p::pcs,qs,h=>by
  obtain⟨rs,e,nd,h1,h2⟩:=zEm pcs (zKs qs p) (zNP h);refine⟨rs,?_,nd,fun x hx=>?_,fun x hx=>?_⟩
  . rw[<-e,<-zNO];rfl
  . rcases h1 x hx with z | z
    . rcases zLB z with w | w
      . exact .inl w
      . exact .inr (by rw[w];exact zZ)
    . exact .inr (zg _ z)
  . refine h2 x ?_;rcases hx with z | z
    . obtain⟨y,hy,ey⟩:=zo.mp z;exact .inl (ey ▸ zHY (.inl hy))
    . rcases ze.mp z with w | w
      . exact .inl (zHY (.inr w))
      . exact .inr w
theorem zJf (pcs:List (En×Addr)):∃rs,zD3 (pcV pcs)=pcV rs/\(rs.map (·.1.h)).Nodup/\(∀x∈rs,x∈pcs)/\∀x∈pcs,x.1.h∈rs.map (·.1.h):=by obtain⟨rs,a,b,c,d⟩:=zEm pcs [] List.nodup_nil;exact⟨rs,a,b,fun x hx=>(c x hx).elim (fun z=>by simp at z) id,fun x hx=>d x (.inr hx)⟩
theorem LU.both {fs gs:List En}(h1:LM Z ts n v B es)(h2:LM Z' ts n v B fs)(nd:(gs.map (·.h)).Nodup)(sub:∀e∈gs,e∈es\/e∈fs)(all:∀e∈es,e.h∈gs.map (·.h)):LU ts n v B gs:=by refine⟨nd,fun e he=>(sub e he).elim (h1.rng e) (h2.rng e),fun e he=>(sub e he).elim (h1.nn e) (h2.nn e),?_,fun e he=>(sub e he).elim (h1.zero e) (h2.zero e),fun e he=>(sub e he).elim (h1.rch e) (h2.rch e)⟩;obtain⟨o,ho,eo⟩:=h1.own;obtain⟨g,hg,eg⟩:=zo.mp (all o ho);exact⟨g,hg,eg.trans eo⟩
variable {D:Addr}{cs:List Addr}{Q:VK}
theorem zHk {K:PySem.W.Frag}{ab:Addr}{H3:Hp}(hab:H3 ab=some (.tup (cs.map V.ref)))(EA:zBO H3 cs es)(hl:es.length<=900)(hD:H3 D=none)(k:∀(zs:List V)(H4:Hp),zAo H3 H4->H4 D=some (.lst zs)->zHr H4 zs (pcV (es.zip cs))->Q (.ref D) H4):
 zEw (Itt K ab) 1 [] (zGG 0) tYes (tTup (zHz (tOp (rIxT K) (zKr 0) (tC (.int 0))) (zHz (zKr 0) tNil))) D H3 Q:=by
 refine zBk (a:=ab) (xs:=cs.map V.ref) (fun j zs H4=>j<=es.length/\zs.length=j/\(∀(m:Nat)(y:V),zs[m]?=some y->∃c e x,y=.ref c/\es[m]?=some e/\cs[m]?=some x/\H4 c=some (.tup [.int e.h,.ref x]))/\zAo H3 H4/\H4 D=some (.lst zs)) ⟨zk _,rfl,fun m y z=>by simp at z,zH hD,zI⟩ (fun j zs H4 h=>?_) (fun j zs H4 h=>?_) (fun j v zs H4 hv h=>?_) (fun zs H4 h=>?_)
 . exact SqT.of (h.2.2.2.1 _ _ hab)
 . rw[h.2.1];exact zAS (by have:=h.1;omega)
 . obtain⟨_,hzl,hzs,s4,hD4⟩:=h;obtain⟨x,e,rfl,he,hxe⟩:=EA.at hv;have hx:cs[j]?=some x:=by
    rw[zM] at hv;cases z:cs[j]? with
    | none=>rw[z] at hv;cases hv
    | some y=>rw[z] at hv;cases hv;rfl
   have hx4:=s4 _ _ hxe;refine⟨⟨rfl,rfl⟩,?_⟩;refine zFN ?_;refine⟨_,rfl,x,_,_,.int e.h,rfl,rfl,SqT.of hx4,rfl,_,rfl,by show 2<=sizeLine;decide,fun c hc=>?_⟩;have nDc:D≠c:=zl hD4 hc;refine⟨zH hc _ _ hD4,(zF.mp he).1,by rw[zJ,hzl];rfl,fun m y hy=>?_,zAV (s4.trans (zH hc)) hD,zI⟩;by_cases cj:m<j
   . rw[zP (by omega)] at hy;obtain⟨c',e',x',h1,h2,h3,h4⟩:=hzs m y hy;refine⟨c',e',x',h1,h2,h3,?_⟩;rw[za (zCD h4 hD4 (by intro z;cases z))];exact zH hc _ _ h4
   . have ej:m=j:=by have:=(zF.mp hy).1;rw[zJ,hzl] at this;simp at this;omega
     subst ej;rw[zO (by omega),hzl,zBG] at hy;have ey:V.ref c=y:=by simpa using hy
     subst ey;exact⟨c,e,x,rfl,he,hx,by rw[za (Ne.symm nDc)];exact zI⟩
 . obtain⟨_,hzl,hzs,s4,hD4⟩:=h;rw[zB,EA.1] at hzl;refine k zs H4 s4 hD4 ⟨?_,fun m y hy=>?_⟩
   . unfold pcV;rw[zB,List.length_zip,hzl,EA.1,Nat.min_self]
   . obtain⟨c,e,x,h1,h2,h3,h4⟩:=hzs m y hy;refine⟨c,Sum.inl e.h,.ref x,h1,h4,?_⟩;unfold pcV;rw[zM,show (es.zip cs)[m]?=some (e,x) from List.getElem?_zip_eq_some.mpr ⟨h2,h3⟩];rfl
theorem zKY {K:PySem.W.Frag}{LK d:Addr}{mk:List Int}{H5:Hp}(hLK:H5 LK=some (.lst (mk.map V.int)))(hd:H5 d=some (.dK (pcV pcs)))(ent:∀x∈pcs,H5 x.2=some (.tup (eV x.1)))(pm:mk.Perm (pcs.map (·.1.h)))(hl:mk.length<=900)(hD:H5 D=none)
 (k:∀(cs:List Addr)(fs:List En)(H6:Hp),fs.length=mk.length->zBO H6 cs fs->(∀(q:Nat)(e:En),fs[q]?=some e->mk[q]?=some e.h/\e∈pcs.map (·.1))->zAo H5 H6->H6 D=some (.lst (cs.map V.ref))->Q (.ref D) H6):zEw (Itl K LK) 1 [.ref d] (zGG 0) tYes (tDGet (zKr 1) (zKr 0)) D H5 Q:=by
 refine zCw (a:=LK) (xs:=mk.map V.int) (fun m zs H6=>m<=mk.length/\∃(cs:List Addr)(fs:List En),zs=cs.map V.ref/\fs.length=m/\zBO H6 cs fs/\(∀(q:Nat)(e:En),fs[q]?=some e->mk[q]?=some e.h/\e∈pcs.map (·.1))/\zAo H5 H6/\H6 D=some (.lst zs)) ⟨zk _,[],[],rfl,rfl,⟨rfl,fun i b z=>by simp at z⟩,(fun q e z=>by simp at z),zH hD,zI⟩ (fun m zs H6 h=>?_) (fun m zs H6 h=>?_) (fun m v zs H6 hv h=>?_) (fun zs H6 h=>?_)
 . obtain⟨_,_,_,_,_,_,_,s6,_⟩:=h;exact SqL.of (s6 _ _ hLK)
 . obtain⟨hm,cs,fs,rfl,hfs,EF,_⟩:=h;rw[zB,EF.1,hfs];exact zAS (by omega)
 . obtain⟨_,cs,fs,rfl,hfs,EF,hF,s6,hD6⟩:=h;rw[zM] at hv;cases hh:mk[m]? with
   | none=>rw[hh] at hv;cases hv
   | some h=>
   rw[hh] at hv;cases hv;obtain⟨⟨e,x⟩,hxm,rfl,hvx⟩:=zFQ (pm.mem_iff.mp (zV hh));have hx6:=s6 _ _ (ent _ hxm);refine⟨⟨rfl,rfl⟩,?_⟩;refine zFN ?_;refine⟨_,rfl,_,rfl,d,.ref x,rfl,by rw[<-hvx];exact zDj.k (k:=Sum.inl e.h) (s6 _ _ hd),hD6,(zF.mp hh).1,cs++[x],fs++[e],by rw[zQ];rfl,by rw[zJ,hfs];rfl,?_,fun q f hq=>?_,zAV s6 hD,zI⟩
   . have kp:∀b us,H6 b=some (.tup us)->(upd H6 D (.lst (cs.map V.ref++[.ref x]))) b=some (.tup us):=fun b us z=>by rw[za (zCD z hD6 (by intro w;cases w))];exact z
     exact (EF.keep kp).snoc (kp _ _ hx6)
   . by_cases cq:q<fs.length
     . rw[zP cq] at hq;exact hF q f hq
     . have eq:q=fs.length:=by have:=(zF.mp hq).1;rw[zJ] at this;simp at this;omega
       subst eq;rw[zO (zK _),zBG] at hq;have ey:e=f:=by simpa using hq
       subst ey;exact⟨by rw[hfs];exact hh,zo.mpr ⟨_,hxm,rfl⟩⟩
 . obtain⟨_,cs,fs,rfl,hfs,EF,hF,s6,hD6⟩:=h;rw[zB] at hfs;exact k cs fs H6 hfs EF hF s6 hD6
structure EiZ (ess fss:List (List En))(v:Int)(gs:List En):Prop where
 sub:∀e∈gs,e∈ess.getD v.toNat []\/e∈fss.getD v.toNat []
 all:∀e,e∈ess.getD v.toNat []\/e∈fss.getD v.toNat []->zGw gs e.h
inductive zHL (vs:List V)(H:Hp)(Q:VK):Prop
 | mk:∀(Z Z':Int->List En->Prop)(l o:Addr)(n B:Int)(ts:List T3)(ess fss:List (List En)),(vs=[.ref l,.ref o])->(n<=24)->(zA4 H l ess)->(zA4 H o fss)->(ess.length=n.toNat)->(fss.length=n.toNat)->(LMs Z ts n B ess)->(LMs Z' ts n B fss)->(∀(l':Addr)(gss:List (List En))(H':Hp),zAo H H'->zA4 H' l' gss->gss.length=n.toNat->LMs (EiZ ess fss) ts n B gss->Q (.ref l') H')->zHL vs H Q
noncomputable def zMF:Sp:=fun vs H Q _=>zHL vs H Q
theorem zN2 (E:zBO H cs es):∀x∈es.zip cs,H x.2=some (.tup (eV x.1)):=fun x hx=>by
 obtain⟨m,hm,em⟩:=zj hx;have h1:(es.zip cs)[m]?=some (x.1,x.2):=by rw[zA hm,em]
 obtain⟨q1,q2⟩:=List.getElem?_zip_eq_some.mp h1;obtain⟨e,he,hxe⟩:=E.2 m x.2 q2;rw[q1] at he;cases he;exact hxe
theorem zBO.app {ds:List Addr}{fs:List En}(E:zBO H cs es)(F:zBO H ds fs):zBO H (cs++ds) (es++fs):=by
 refine⟨by rw[zJ,zJ,E.1,F.1],fun i a h=>?_⟩;by_cases c:i<cs.length
 . rw[zP c] at h;rw[zP (by rw[<-E.1];exact c)];exact E.2 i a h
 . rw[zO (by omega)] at h;rw[zO (by rw[<-E.1];omega),<-E.1];exact F.2 _ a h
theorem zFh:zAE ["_law_labels_here","_law_others","_law_found","_law_label","_law_other","_law_here"] qAQ (defScope zJT):=fS0
theorem zNn (F:Fun K "_law_either" "_law_either" zJT f fd') (mZip:mg "zip"=none) (mTuple:mg "tuple"=none) (mDict:mg "dict"=none) (mSorted:mg "sorted"=none):zAb P w K mg base CX0 1 f fd' qAQ zMF:=by
 refine F.okD zFh fun _ A _ _ H vs Q E hr h=>?_;obtain⟨Z,Z',l,o,n,B,ts,ess,fss,rfl,hn24,LL,LO,hel,hfl,LM1,LM2,k⟩:=h;have hu:=zGn hr;obtain⟨as,hl,hal,hA⟩:=id LL;obtain⟨os,ho,hol,hO⟩:=id LO;refine⟨_,zR (zAi (i:=2) zFh.nd (zBV zL))
  (zR (zA6 PassesOwn.never rfl (zNR rfl mZip (zD (pv 0) (zD (pv 1) zL))) (zCS rfl (zAD (zv (i:=3) zFh.nd rfl (Or.inl rfl)) (zAD (zv (i:=4) zFh.nd rfl (Or.inl rfl)) zBh)))
   (zR (zC4 (i:=5) zFh.nd rfl (Or.inr rfl) (zAr (zDZ rfl) mDict (zD
    (zBi (own:=["_law_entry_here"]) (cn:=[]) (ci:=[]) rfl (csc rfl rfl) trivial rfl (zB9 (zAw zCT (pv 3) (pv 4))) (fun _ _ _ _=>zCJ)
     (fun _ _ _ _=>zBP) (fun _ _ _ _=>zAv (zD (zu zCh (pv 0) zf) (zD (pv 0) zL)))) zL)))
   (zY (zBX (zCq PySem.F.plainAttrs_list PySem.F.slot_list_append PySem.F.type_list_append zA7 (pv 2) (zD (zAr zAT mTuple (zD
    (zBi (own:=["_law_hub"]) (cn:=["_law_here"]) (ci:=[5]) rfl (csc rfl rfl) ⟨rfl,rfl,rfl,trivial⟩ rfl (zCE (zAJ (zCy rfl) mSorted (zD (pv 5) zL)))
     (fun _ _ _ _=>zCJ) (fun _ _ _ _=>zBP) (fun _ _ _ _=>zCg hu (pv 1) (pv 0) (fun _ _=>rfl))) zL)) zL))))))
  (zY (zAH (zAr zAT mTuple (zD (pv 2) zL))))),?_⟩
 refine⟨by show 0<=sizeLine;decide,fun D hD=>?_⟩;have s0:=zH (o:=.lst []) hD;refine⟨_,rfl,_,rfl,l,o,rfl,⟨_,SqT.of (s0 _ _ hl)⟩,⟨_,SqT.of (s0 _ _ ho)⟩,zLb (K:=K) (a:=l) (b:=o) (xs:=as.map V.ref) (ys:=os.map V.ref) (by rw[zB,zB];omega)
  (fun q σ H1=>Ex5 fun (v3 v4 v5:Option V)(bs:List Addr)(gss:List (List En))=>σ=[some (.ref l),some (.ref o),some (.ref D),v3,v4,v5]/\gss.length=q/\H1 D=some (.lst (bs.map V.ref))/\zFL H1 bs gss/\LMs (EiZ ess fss) ts n B gss/\zAo H H1)
  ⟨_,_,_,[],[],rfl,rfl,zI,⟨rfl,fun i b z=>by simp at z⟩,(fun i es z=>by simp at z),s0⟩ (fun q σ H1 _ ⟨_,_,_,_,_,_,_,_,_,_,s1⟩=>⟨SqT.of (s1 _ _ hl),SqT.of (s1 _ _ ho)⟩) ?turn ?after⟩
 case after=>
  rintro σ H1 ⟨v3,v4,v5,bs,gss,rfl,hgl,hD1,LB,LM',s1⟩;rw[zB] at hgl;refine⟨_,rfl,D,_,rfl,.inl ⟨SqL.of hD1,fun l' hl'=>?_⟩⟩;have sl:=zH (o:=.tup (bs.map V.ref)) hl';exact k l' gss _ (s1.trans sl) ⟨bs,zI,LB.1,(LB.keep fun b ys e=>sl _ _ e).2⟩ (by omega) LM'
 case turn=>
  rintro q x y σ H1 T hx hy ⟨v3,v4,v5,bs,gss,rfl,hgl,hD1,LB,LM',s1⟩ hT;rw[zM] at hx hy;cases ha:as[q]? with
  | none=>rw[ha] at hx;cases hx
  | some a=>
  cases hb:os[q]? with
  | none=>rw[hb] at hy;cases hy
  | some b=>
  rw[ha] at hx;rw[hb] at hy;cases hx;cases hy;obtain⟨es,hes,LE⟩:=hA q a ha;obtain⟨fs,hfs,LF'⟩:=hO q b hb;obtain⟨cs,hat,EA,_⟩:=id LE;obtain⟨ds,hbt,EB,_⟩:=id LF';have hql:q<n.toNat:=by have:=(zF.mp ha).1;omega
  have LMe:=LM1 q es hes;have LMf:=LM2 q fs hfs;have hesl:=LMe.len hn24;have hfsl:=LMf.len hn24;have sT:=zH (o:=.tup [.ref a,.ref b]) hT;have s2:=s1.trans sT;have hD2:=sT _ _ hD1;refine⟨T,_,rfl,SqT.of zI,rfl,_,_,rfl,_,_,rfl,rfl,?_⟩;generalize upd H1 T (.tup [.ref a,.ref b])=H2 at sT s2 hD2 ⊢;refine⟨_,rfl,_,rfl,a,b,_,_,rfl,rfl,s2 _ _ hat,s2 _ _ hbt,by rw[zB,zB,EA.1,EB.1];exact zA9 (zAS (by omega)),fun ab H3 s3 hab=>?_⟩;rw[<-zQ] at hab;have EAB:zBO H (cs++ds) (es++fs):=EA.app EB;refine⟨ab,rfl,⟨_,SqT.of hab⟩,[],rfl,fun D2 hD2'=>?_⟩;have s23:=s2.trans s3;refine zHk hab (EAB.keep fun b ys z=>s23 _ _ z) (by rw[zJ];omega) hD2' fun zs H4 s4 hD4 PA=>?_
  . have hz1:((es++fs).zip (cs++ds)).map (·.1)=es++fs:=List.map_fst_zip (by rw[EAB.1];exact zK _);have hent:=zN2 EAB;generalize hpq:(es++fs).zip (cs++ds)=pq at hz1 hent PA;refine⟨D2,zs,pcV pq,rfl,SqL.of hD4,PA,fun d hd=>?_⟩;obtain⟨rs,ers,rnd,rsub,rall⟩:=zJf pq;rw[ers];have pqm:∀e,e∈es++fs↔∃x∈pq,x.1=e:=fun e=>by rw[<-hz1,zo]
    have U:LU ts n q B (rs.map (·.1)):=LU.both LMe LMf (by rw[zAd];exact rnd) (fun e he=>by
     obtain⟨x,hx,rfl⟩:=zo.mp he;exact zm.mp ((pqm x.1).mpr ⟨x,rsub x hx,rfl⟩)) (fun e he=>by
     obtain⟨x,hx,rfl⟩:=(pqm e).mp (zw _ he);rw[zAd];exact rall x hx)
    have s4d:=s4.trans (zH (o:=.dK (pcV rs)) hd);have hDd:D≠d:=zl (s4 _ _ (s3 _ _ hD2)) hd;have hdd:(upd H4 d (.dK (pcV rs))) d=some (.dK (pcV rs)):=zI;generalize upd H4 d (.dK (pcV rs))=H5 at s4d hdd ⊢;have rsl:rs.length<=24:=by have:=U.len hn24;rwa [zB] at this
    have s25:=s23.trans s4d;have hD5:=s4d _ _ (s3 _ _ hD2);refine⟨_,rfl,.inl ⟨rfl,_,SqL.of hD5⟩,_,rfl,d,_,_,rfl,hdd,zDV rs,by rw[zB];omega,fun LK mk hLK pmk st=>?_⟩;have sK:=zH (o:=.lst (mk.map V.int)) hLK;have hLKK:(upd H5 LK (.lst (mk.map V.int))) LK=some (.lst (mk.map V.int)):=zI;have mkl:mk.length<=24:=by rw[pmk.length_eq,zB];exact rsl
    generalize upd H5 LK (.lst (mk.map V.int))=H6 at sK hLKK ⊢;refine⟨LK,rfl,⟨_,SqL.of hLKK⟩,[.ref d],rfl,fun D3 hD3=>?_⟩;have hd6:=sK _ _ hdd;have s26:=s25.trans sK;refine zKY hLKK hd6 (fun x hx=>s26 _ _ (hent _ (rsub _ hx))) pmk (by omega) hD3 fun cs' gs H7 hgs EG hG s7 hD7=>?_
    . refine⟨D3,_,rfl,.inl ⟨SqL.of hD7,fun b' hb'=>?_⟩⟩;have sb:=zH (o:=.tup (cs'.map V.ref)) hb';have s58:=(sK.trans s7).trans sb;have s18:zAo H1 (upd H7 b' (.tup (cs'.map V.ref))):=((sT.trans s3).trans s4d).trans s58;have s08:=s25.trans s58;have hDb:=s58 _ _ hD5;have LC:zBR (upd H7 b' (.tup (cs'.map V.ref))) b' gs:=⟨cs',zI,EG.keep fun b us z=>sb _ _ z,by omega⟩;have LMg:LM (EiZ ess fss) ts n q B gs:=LM.of_sorted U hgs (by rw[zAd];exact pmk) st hG fun mm=>by
       have e1:ess.getD ((q:Int)).toNat []=es:=by rw[show ((q:Int)).toNat=q by omega,zE,hes];rfl
       have e2:fss.getD ((q:Int)).toNat []=fs:=by rw[show ((q:Int)).toNat=q by omega,zE,hfs];rfl
       refine⟨fun e he=>?_,fun e he=>?_⟩
       . rw[e1,e2];obtain⟨x,hx,rfl⟩:=zo.mp ((mm e).mp he);exact zm.mp ((pqm x.1).mpr ⟨x,rsub x hx,rfl⟩)
       . rw[e1,e2] at he;obtain⟨x,hx,rfl⟩:=(pqm e).mp (zm.mpr he);obtain⟨y,hy,ey⟩:=zo.mp (rall x hx);exact⟨y.1,(mm y.1).mpr (zo.mpr ⟨y,hy,rfl⟩),ey⟩
      generalize upd H7 b' (.tup (cs'.map V.ref))=H8 at s18 s08 hDb LC ⊢;refine⟨D,_,_,rfl,rfl,hDb,by rw[zB,LB.1];exact zAS (by omega),?_⟩;have kp:∀x us,H8 x=some (.tup us)->(upd H8 D (.lst (bs.map V.ref++[.ref b']))) x=some (.tup us):=fun x us z=>by rw[za (zCD z hDb (by intro w;cases w))];exact z
      exact⟨_,_,_,bs++[b'],gss++[gs],rfl,by rw[zJ,hgl];rfl,by rw[zQ];exact zI,((LB.keep fun x us z=>s18 _ _ z).keep kp).snoc (LC.keep kp),LM'.snoc hgl LMg,zAV s08 hD⟩
structure Rich (ts:List T3)(ess:List (List En)):Prop where
 cl:∀(i:Nat)(h p:Int),i<ess.length->zGw (ess.getD i []) h->Nxt ts i h p->zGw (ess.getD p.toNat []) h
 cov:∀(i j:Nat)(d:Int),i<ess.length->j<ess.length->WM.IsD ts i j d->∃h,Btw ts i j h/\zGw (ess.getD i []) h/\zGw (ess.getD j []) h
noncomputable def KeZ (n:Int)(_:Int)(es:List En):Prop:=∀e∈es,EOk n e
theorem LM.weak (h:LM Z ts n v B es)(z:Z' v es):LM Z' ts n v B es:=⟨h.hub,h.rng,h.nn,h.own,h.zero,h.rch,z⟩
theorem LMs.at (L:LMs Z ts n B ess)(hi:i<ess.length):LM Z ts n i B (ess.getD i []):=L i _ (getD_some hi)
theorem LMs.weak {Z Z':Int->List En->Prop}{ts:List T3}{n B:Int}{ess:List (List En)}(L:LMs Z ts n B ess)(z:∀i:Nat,i<ess.length->LM Z ts n i B (ess.getD i [])->Z' i (ess.getD i [])):LMs Z' ts n B ess:=fun i es h=>by
 have hi:=(zF.mp h).1;have e:es=ess.getD i []:=by rw[zE,h];rfl
 have Li:=L.at hi;rw[e];exact Li.weak (z i hi Li)
theorem LMs.kd (L:LMs (KeZ n) ts n B ess)(n0:0<=n)(hl:ess.length=n.toNat):LbK n ess:=by refine⟨hl,fun es he=>?_⟩;obtain⟨i,hi,e⟩:=zj he;have Li:=L i es (by rw[zA hi,e]);exact Li.kind n0 Li.ud
structure LX (ts:List T3)(n B:Int)(ess:List (List En)):Prop where
 ln:ess.length=n.toNat
 lm:LMs (ExZ ts) ts n B ess
 rc:Rich ts ess
theorem LX.ke (G:GW n ts)(X:LX ts n B ess):LMs (KeZ n) ts n B ess:=X.lm.weak fun i _ L e he=>(L.ud e he).ok G (L.rng e he)
theorem LX.let {ts:List T3}{n B:Int}{ess:List (List En)}(G:GW n ts)(X:LX ts n B ess):zCY ts n ess:=by
 refine zLn.let G ⟨X.ln,fun i es h=>?_,fun i j es fs hi hj d hd=>?_⟩ fun i e p F _ x=>?_
 . have L:=X.lm i es h;exact⟨L.hub,fun e he=>⟨L.rng e he,(L.ud e he).len,(L.ud e he).up,(L.ud e he).dn⟩,L.own⟩
 . have a:=X.rc.cov i j d (zF.mp hi).1 (zF.mp hj).1 hd;rw[zE,zE,hi,hj] at a;exact a
 . exact X.rc.cl i e.h p F.hi ⟨e,F.mem,rfl⟩ x
theorem zEZ.lx (G:GW n ts)(R:zMv n os rk)(L:zEZ ts n rk ess)(b:∀es∈ess,∀e∈es,0<=e.l/\e.l<=2376):LX ts n 2376 ess:=by
 refine⟨L.1,L.lm G b,fun i h p hi hh x=>?_,fun i j d hi hj hd=>(L.good G R).cov i j _ _ (getD_some hi) (getD_some hj) d hd⟩;obtain⟨e,he,rfl⟩:=hh;have hl:=L.1;have E:=(L.2 i _ (getD_some hi)).ent e he;obtain⟨l,b,ha,ib,iab⟩:=x;have r:=G.adj ha;have hp:p.toNat<ess.length:=by omega
 have Lp:=L.2 p.toNat _ (getD_some hp);rw[show ((p.toNat:Nat):Int)=p by omega] at Lp;refine Lp.all e.h E.rng.1 E.rng.2 ⟨⟨b,ib.symm⟩,fun q hq=>E.hub.2 q ?_⟩;refine Btw.trans (p:=p) ⟨b,l,ib.symm,?_,?_⟩ hq
 . refine⟨(Way.one ha).symm,fun d hd=>?_⟩;have:=iab.2 _ (hd.symm.trans ib.1);omega
 . rw[Int.add_comm];exact iab.symm
theorem zNy (G:GW n ts)(hl:ess.length=n.toNat)(L:LMs (FuZ ts n) ts n B ess):LX ts n B ess:=by
 refine⟨hl,L.weak fun i _ L=>L.ud.1,fun i h p hi hh x=>?_,fun i j d hi hj hd=>⟨i,Btw.self G hd,(L.at hi).own,?_⟩⟩
 . obtain⟨e,he,rfl⟩:=hh;have r:=(L.at hi).rng e he;obtain⟨l,b,ha,ib,iab⟩:=x;have ra:=G.adj ha;have hp:p.toNat<ess.length:=by omega
   have Lp:=(L.at hp).ud.2 e.h b r.1 r.2;rw[show ((p.toNat:Nat):Int)=p by omega] at Lp;exact Lp ib
 . exact (L.at hj).ud.2 i d (by omega) (by omega) hd.symm
variable {fss:List (List En)}
theorem zN4 {gss:List (List En)}(hl:gss.length=n.toNat)(X:LX ts n B ess)(Y:LX ts n B fss)(L:LMs (EiZ ess fss) ts n B gss):LX ts n B gss:=by
 have lx:=X.ln;have ly:=Y.ln;have nt:∀i:Nat,((i:Int)).toNat=i:=fun i=>by omega
 have hs:∀i,i<gss.length->∀h,zGw (gss.getD i []) h↔zGw (ess.getD i []) h\/zGw (fss.getD i []) h:=fun i hi h=>by
  have Z:=(L.at hi).ud;constructor
  . rintro ⟨e,he,rfl⟩;have:=Z.sub e he;rw[nt] at this;exact this.imp (fun z=>⟨e,z,rfl⟩) fun z=>⟨e,z,rfl⟩
  . rintro (⟨e,he,rfl⟩ | ⟨e,he,rfl⟩)
    . exact Z.all e (.inl (by rw[nt];exact he))
    . exact Z.all e (.inr (by rw[nt];exact he))
 refine⟨hl,L.weak fun i hi L e he=>?_,fun i h p hi hh x=>?_,fun i j d hi hj hd=>?_⟩
 . have:=L.ud.sub e he;rw[nt] at this;exact this.elim (fun z=>(X.lm.at (by omega)).ud e z) fun z=>(Y.lm.at (by omega)).ud e z
 . by_cases hp:p.toNat<gss.length
   . rw[hs i hi] at hh;rw[hs _ hp];exact hh.imp (fun z=>X.rc.cl i h p (by omega) z x) fun z=>Y.rc.cl i h p (by omega) z x
   . rcases (hs i hi h).mp hh with z | z
     . obtain⟨e,he,_⟩:=X.rc.cl i h p (by omega) z x;rw[zE,zx (by omega)] at he;cases he
     . obtain⟨e,he,_⟩:=Y.rc.cl i h p (by omega) z x;rw[zE,zx (by omega)] at he;cases he
 . obtain⟨h,h1,h2,h3⟩:=X.rc.cov i j d (by omega) (by omega) hd;exact⟨h,h1,(hs i hi h).mpr (.inl h2),(hs j hj h).mpr (.inl h3)⟩
theorem zLQ (hl:fss.length=n.toNat)(X:LX ts n B ess)(L:LMs (LoZ ts ess) ts n B fss):LX ts n B fss:=by
 have lx:=X.ln;have nt:∀i:Nat,((i:Int)).toNat=i:=fun i=>by omega
 have hs:∀i,i<fss.length->∀h,zGw (ess.getD i []) h↔zGw (fss.getD i []) h:=fun i hi h=>by have:=(L.at hi).ud.2 h;rwa [nt] at this
 refine⟨hl,L.weak fun i _ L=>L.ud.1,fun i h p hi hh x=>?_,fun i j d hi hj hd=>?_⟩
 . have z:=X.rc.cl i h p (by omega) ((hs i hi h).mpr hh) x;by_cases hp:p.toNat<fss.length
   . exact (hs _ hp h).mp z
   . obtain⟨e,he,_⟩:=z;rw[zE,zx (by omega)] at he;cases he
 . obtain⟨h,h1,h2,h3⟩:=X.rc.cov i j d (by omega) (by omega) hd;exact⟨h,h1,(hs i hi h).mp h2,(hs j hj h).mp h3⟩
structure DnI (ts:List T3)(i:Nat)(e:En)(d t:Int):Prop where
 ed:e.d=some d
 ad:Adj ts e.h d t
 len:WM.IsD ts d i (e.l-t)
structure LgS (ts:List T3)(n:Int)(e0 ess:List (List En)):Prop where
 ln:ess.length=e0.length
 ok:∀i e,e∈ess.getD i []->EOk n e
 up:∀i e,FrE ess i e->UpR ts ess i e
 dn:∀i e,FrE ess i e->∃d t,DnI ts i e d t
 sub:∀(i:Nat) e,e∈e0.getD i []->e∈ess.getD i []
theorem LX.lg (G:GW n ts)(X:LX ts n B ess):LgS ts n ess ess:=by
 refine⟨rfl,fun i e he=>?_,(X.let G).up,fun i e F=>?_,fun _ _ z=>z⟩
 . by_cases hi:i<ess.length
   . exact ((X.ke G).at hi).ud e he
   . rw[zE,zx (by omega)] at he;cases he
 . have L:=X.lm.at F.hi;obtain⟨p,hp,l,b,ha,ib,iab⟩:=(L.ud e F.mem).dn fun z=>F.far ((L.zero e F.mem).mpr z);refine⟨p,l,hp,ha,?_⟩;rw[(L.ud e F.mem).len.symm.uniq iab,show l+b-l=b by omega];exact ib
theorem UpR.mono (h:UpR ts ess i e)(s:∀(j:Nat) x,x∈ess.getD j []->x∈fss.getD j []):UpR ts fss i e:=
 let ⟨u,t,f,a,b,c,d⟩:=h;⟨u,t,f,a,b,s _ _ c,d⟩
theorem zLa {α:Type}{l:List (List α)}{a:Nat}{x:List α}(ha:a<l.length):(l.set a x).getD i []=if i=a then x else l.getD i []:=by
 rw[zE];by_cases c:i=a
 . subst c;rw[if_pos rfl,List.getElem?_set_self ha];rfl
 . rw[if_neg c,List.getElem?_set_ne (Ne.symm c),zE]
variable {e0:List (List En)}
theorem LgS.put {a:Nat}(S:LgS ts n e0 ess)(ha:a<ess.length)(ok:EOk n e)(up:UpR ts ess a e)(dn:∃d t,DnI ts a e d t):LgS ts n e0 (ess.set a (ess.getD a []++[e])):=by
 have g:∀i,(ess.set a (ess.getD a []++[e])).getD i []=if i=a then ess.getD a []++[e] else ess.getD i []:=fun i=>zLa ha
 have mo:∀(j:Nat) x,x∈ess.getD j []->x∈(ess.set a (ess.getD a []++[e])).getD j []:=fun j x hx=>by
  rw[g];by_cases c:j=a
  . subst c;rw[if_pos rfl];exact zw _ hx
  . rw[if_neg c];exact hx
 have cs:∀(j:Nat) x,x∈(ess.set a (ess.getD a []++[e])).getD j []->x∈ess.getD j []\/(j=a/\x=e):=fun j x hx=>by
  rw[g] at hx;by_cases c:j=a
  . rw[if_pos c] at hx;rcases zm.mp hx with z | z
    . exact .inl (by rw[c];exact z)
    . exact .inr ⟨c,zd.mp z⟩
  . rw[if_neg c] at hx;exact .inl hx
 refine⟨by rw[zAL];exact S.ln,fun i x hx=>?_,fun i x F=>?_,fun i x F=>?_,fun i x hx=>mo i x (S.sub i x hx)⟩
 . rcases cs i x hx with z | ⟨_,z⟩
   . exact S.ok i x z
   . rw[z];exact ok
 . have hi:=F.hi;rw[zAL] at hi;rcases cs i x F.mem with z | ⟨c,z⟩
   . exact (S.up i x ⟨hi,z,F.far⟩).mono mo
   . rw[c,z];exact up.mono mo
 . have hi:=F.hi;rw[zAL] at hi;rcases cs i x F.mem with z | ⟨c,z⟩
   . exact S.dn i x ⟨hi,z,F.far⟩
   . rw[c,z];exact dn
theorem LgS.congr (S:LgS ts n e0 ess)(hl:fss.length=ess.length)(m:∀(i:Nat) e,e∈fss.getD i []↔e∈ess.getD i []):LgS ts n e0 fss:=
 ⟨hl.trans S.ln,fun i e he=>S.ok i e ((m i e).mp he),fun i e F=>(S.up i e ⟨by have:=F.hi;omega,(m i e).mp F.mem,F.far⟩).mono fun j x hx=>(m j x).mpr hx,fun i e F=>S.dn i e ⟨by have:=F.hi;omega,(m i e).mp F.mem,F.far⟩,fun i e he=>(m i e).mpr (S.sub i e he)⟩
theorem LgS.way {Z:Int->List En->Prop}{ts:List T3}{n B:Int}{e0 ess:List (List En)}(G:GW n ts)(hl:ess.length=n.toNat)(L:LMs Z ts n B ess)(S:LgS ts n e0 ess):∀(m:Nat){i:Nat}{e:En},i<ess.length->e∈ess.getD i []->e.l.toNat<=m->Way ts i e.h e.l
 | m,i,e,hi,he,hm=>by
  by_cases z:e.l=0
  . rw[((L.at hi).zero e he).mp z,z];exact .nil _
  . obtain⟨u,t,f,_,ha,hf,fh,fl⟩:=S.up i e ⟨hi,he,z⟩;have r:=G.adj ha;have hu:u.toNat<ess.length:=by omega
    have:=((L.at hu).nn f hf).1;have:=((L.at hi).nn e he).1
    match m with
    | 0=>omega
    | m+1=>have w:=LgS.way G hl L S m hu hf (by omega);rw[fh,fl,show ((u.toNat:Nat):Int)=u by omega] at w;have:=(Way.one ha).trans w;rwa [show t+(e.l-t)=e.l by omega] at this
theorem LgS.let {C:Int}(G:GW n ts)(hl:ess.length=n.toNat)(L:LMs Z ts n C ess)(X:LX ts n B e0)(S:LgS ts n e0 ess):zCY ts n ess:=by
 have ln:=S.ln;have td:∀{i j:Nat} {lm},i<ess.length->j<ess.length->zDi (Cd (ess.getD i []) (ess.getD j [])) lm->Len ts i j (lm.map (·.1)):=fun {i j lm} hi hj h=>by
  have le:∀d,WM.IsD ts i j d->∃c,lm=some c/\c.1<=d:=fun d hd=>by
   obtain⟨x,⟨a,b,ia,ib,iab⟩,⟨e,he,e1⟩,⟨f,hf,f1⟩⟩:=X.rc.cov i j d (by omega) (by omega) hd;have ea:e.l=a:=by have:=((X.lm.at (by omega)).ud e he).len;rw[e1] at this;exact this.uniq ia
   have eb:f.l=b:=by have:=((X.lm.at (by omega)).ud f hf).len;rw[f1] at this;exact this.uniq ib.symm
   have cd:Cd (ess.getD i []) (ess.getD j []) (e.l+f.l,e.h):=⟨e,S.sub i e he,f,S.sub j f hf,by rw[f1,e1],rfl⟩;have ed:a+b=d:=iab.uniq hd;cases lm with
   | none=>exact absurd cd (h _)
   | some c=>
    refine⟨c,rfl,?_⟩;rcases h.2 _ cd with z | z
    . have:c.1<e.l+f.l:=z;omega
    . have:c.1=e.l+f.l:=z.1;omega
  cases lm with
  | none=>intro d w;obtain⟨d',hd'⟩:=Way.least G w;obtain⟨c,z,_⟩:=le d' hd';cases z
  | some c=>obtain⟨⟨e,he,f,hf,hfe,rfl⟩,_⟩:=h;have w1:=S.way G hl L _ hi he (zK _);have w2:=S.way G hl L _ hj hf (zK _);rw[hfe] at w2;have w:=w1.trans w2.symm;refine⟨w,fun d wd=>?_⟩;obtain⟨d',hd'⟩:=Way.least G wd;obtain⟨c,z,hc⟩:=le d' hd';cases z;have:=hd'.2 _ wd;exact Int.le_trans hc this
 refine⟨fun i e r hi hf=>?_,S.up,fun u v hu hv w t lv lw ha h1 h2 c hc=>?_,fun i e F=>?_⟩
 . have om:e∈(ess.getD i []).filter (fun e=>decide (e.l=0)):=by rw[hf];exact zZ
   obtain⟨o1,o2⟩:=zAQ.mp om;exact ((L.at hi).zero e o1).mp (of_decide_eq_true o2)
 . subst hc;have r:=G.adj ha;have a:=td hv hu h1;have b:=td (i:=w.toNat) (by omega) hu h2;rw[show ((w.toNat:Nat):Int)=w by omega] at b;have wy:=(Way.one ha).symm.trans (show WM.IsD ts v u c.1 from a).1;cases lw with
   | none=>exact absurd wy (b _)
   | some c'=>exact⟨c',rfl,by have:=(show WM.IsD ts w u c'.1 from b).2 _ wy;omega⟩
 . obtain⟨p,t,hp,ha,ib⟩:=S.dn i e F;have r:=G.adj ha;obtain⟨lm,hm⟩:=zGl (es:=ess.getD p.toNat []) (L.at F.hi).hub;have b':=td (i:=p.toNat) (by omega) F.hi hm;rw[show ((p.toNat:Nat):Int)=p by omega] at b';cases lm with
   | none=>exact absurd ib.1 (b' _)
   | some c=>exact⟨p,t,c,hp,ha,hm,WM.IsD.uniq (show WM.IsD ts p i c.1 from b') ib⟩
structure LD (H:Hp)(ds:List Addr)(pss:List (List (En×Addr))):Prop where
 ln:ds.length=pss.length
 nd:ds.Nodup
 at_:∀(i:Nat)(d:Addr),ds[i]?=some d->∃pcs,pss[i]?=some pcs/\DE H d pcs
theorem DE.keep {d:Addr}(h:DE H d pcs)(k1:H d=some (.dK (pcV pcs))->H' d=some (.dK (pcV pcs)))(k:∀b ys,H b=some (.tup ys)->H' b=some (.tup ys)):DE H' d pcs:=⟨k1 h.dct,fun x hx=>k _ _ (h.ent x hx)⟩
theorem LD.keep {H H':Hp}{ds:List Addr}{pss:List (List (En×Addr))}(h:LD H ds pss)(k1:∀d kvs,d∈ds->H d=some (.dK kvs)->H' d=some (.dK kvs))(k:∀b ys,H b=some (.tup ys)->H' b=some (.tup ys)):LD H' ds pss:=
 ⟨h.ln,h.nd,fun i d e=>let ⟨pcs,e1,e2⟩:=h.at_ i d e;⟨pcs,e1,e2.keep (k1 d _ (zV e)) k⟩⟩
noncomputable def LUs (ts:List T3)(n:Int)(Bf:Nat->Int)(pss:List (List (En×Addr))):Prop:=∀(i:Nat)(pcs:List (En×Addr)),pss[i]?=some pcs->LU ts n i (Bf i) (pcs.map (·.1))
inductive zEk (vs:List V)(H:Hp)(Q:VK):Prop
 | mk:∀(t p wa fl l:Addr)(N:Nat)(n:Int)(ts:List T3)(M:lLO)(ess:List (List En)),(vs=[.ref t,.ref wa,.ref fl,.ref l])->(zBF H t p N)->(N<400000)->(zB3 H wa n ts)->(ts.length<=31)->(zCN H fl n ts M)->(zA4 H l ess)->(LX ts n 2376 ess)->(∀(l':Addr)(fss:List (List En))(H':Hp),zA4 H' l' fss->fss.length=n.toNat->LMs (KeZ n) ts n 20000 fss->zCY ts n fss->zBF H' t p (N+10000)->Sm t H H'->Q (.ref l') H')->zEk vs H Q
noncomputable def zHC:Sp:=fun vs H Q _=>zEk vs H Q
noncomputable def Est (pss:List (List (En×Addr))):List (List En):=pss.map fun p=>p.map (·.1)
theorem Est.at {pss:List (List (En×Addr))}(h:pss[i]?=some pcs):(Est pss).getD i []=pcs.map (·.1):=by unfold Est;rw[zE,zM,h];rfl
theorem Est.len (pss:List (List (En×Addr))):(Est pss).length=pss.length:=zB _
noncomputable def SaZ (ess:List (List En))(v:Int)(fs:List En):Prop:=∀e,e∈fs↔e∈ess.getD v.toNat []
theorem eV_inj {f:En}(h:eV e=eV f):e=f:=by
 have oi:∀{a b:Option Int},oV a=oV b->a=b:=fun {a b} z=>by have:=zKS a b;rw[zS z] at this;exact of_decide_eq_true this.symm
 unfold eV at h;injection h with h1 h;injection h with h2 h;injection h with h3 h;injection h with h4 h;injection h1 with h1;injection h2 with h2;cases e;cases f;cases h1;cases h2;cases oi h3;cases oi h4;rfl
theorem zMw {κ:Type} [DecidableEq κ] {kvs:List (κ×V)}{k:κ}(h:k∈kvs.map (·.1)):∃v,zCL kvs k=some v:=by
 obtain⟨x,hx,e⟩:=zo.mp h;unfold zCL;cases c:kvs.find? fun kv=>decide (kv.1=k) with
 | none=>exact absurd (zS e) (by simpa using List.find?_eq_none.mp c x hx)
 | some y=>exact⟨y.2,rfl⟩
structure LgI (H:Hp)(t p pd fo:Addr)(kvs:List (List Key×V))(ds:List Addr)(n:Int)(ts:List T3)(e0:List (List En))(N:Nat)(C:Int)(H1:Hp):Prop where
 tp:zBF H1 t p N
 sm:Sm t H H1
 pr:H1 pd=some (.dT kvs)
 fo:H1 fo=some (.lst (ds.map V.ref))
 ld:∃pss,LD H1 ds pss/\pss.length=n.toNat/\LUs ts n (fun _=>C) pss/\LgS ts n e0 (Est pss)
section
variable {H H1 H2:Hp}{t p pd fo:Addr}{kvs:List (List Key×V)}{ds:List Addr}{n:Int}{ts:List T3}{e0:List (List En)}{N M:Nat}{C D:Int}
theorem LgI.same (h:LgI H t p pd fo kvs ds n ts e0 N C H1)(s:zAo H1 H2):LgI H t p pd fo kvs ds n ts e0 N C H2:=by obtain⟨pss,a,b,c,g⟩:=h.ld;exact⟨h.tp.kp s,h.sm.trans (Sm.of s),s _ _ h.pr,s _ _ h.fo,pss,a.keep (fun d u _ e=>s _ _ e) (fun b u e=>s _ _ e),b,c,g⟩
theorem LgI.up (h:LgI H t p pd fo kvs ds n ts e0 N C H1)(l:N<=M)(c:C<=D):LgI H t p pd fo kvs ds n ts e0 M D H1:=by obtain⟨pss,a,b,e,g⟩:=h.ld;exact⟨h.tp.up l,h.sm,h.pr,h.fo,pss,a,b,(fun i pcs z=>(e i pcs z).mono c),g⟩
theorem zBF.nR (h:zBF H t p N)(hb:H b=some (.lst (rs.map V.ref))):b≠t:=fun z=>by
 obtain⟨ns,spot,rest,a,_⟩:=h;rw[z,a] at hb;injection hb with hb;injection hb with hb
 match rs,hb with
 | [],hb=>simp at hb
 | [_],hb=>simp at hb
 | _::_::_,hb=>simp at hb
theorem zBF.nt {o:HO}(h:zBF H t p N)(hb:H b=some o)(ho:∀xs,o ≠ .lst xs):b≠t:=fun z=>by obtain⟨ns,spot,rest,a,_⟩:=h;rw[z,a] at hb;exact ho _ (zT hb).symm
theorem DE.draw {d:Addr}(h:DE H1 d pcs)(T:zBF H1 t p N)(he:∀b,b≠t->H2 b=H1 b):DE H2 d pcs:=
 h.keep (fun e=>by rw[he _ (T.nt e (by intro xs z;cases z))];exact e) fun b ys e=>by rw[he _ (T.nt e (by intro xs z;cases z))];exact e
theorem LgI.draw (h:LgI H t p pd fo kvs ds n ts e0 N C H1)(T:zBF H2 t p (N+1))(he:∀b,b≠t->H2 b=H1 b):LgI H t p pd fo kvs ds n ts e0 (N+1) C H2:=by obtain⟨pss,a,b,c,g⟩:=h.ld;refine⟨T,h.sm.trans (zC3 he),by rw[he _ (h.tp.nt h.pr (by intro xs z;cases z))];exact h.pr,by rw[he _ (h.tp.nR h.fo)];exact h.fo,pss,⟨a.ln,a.nd,fun i d e=>?_⟩,b,c,g⟩;obtain⟨pcs,e1,e2⟩:=a.at_ i d e;exact⟨pcs,e1,e2.draw h.tp he⟩
theorem LgI.put (h:LgI H t p pd fo kvs ds n ts e0 N C H1){d x:Addr}{a:Nat}{e:En}{pss:List (List (En×Addr))}{pcs:List (En×Addr)}(L:LD H1 ds pss)(hl:pss.length=n.toNat)(U:LUs ts n (fun _=>C) pss)(S:LgS ts n e0 (Est pss))(hd:ds[a]?=some d)(hp:pss[a]?=some pcs)(hd0:H d=none)(n1:d≠t)(n2:d≠p)
 (hx:H1 x=some (.tup (eV e)))(h0:0<=e.h/\e.h<n)(hll:0<e.l/\e.l<=C)(hn:e.h∉pcs.map (·.1.h))(hr:∃q,WM.IsD ts a e.h q)(ok:EOk n e)(up:UpR ts (Est pss) a e)(dn:∃d t,DnI ts a e d t):LgI H t p pd fo kvs ds n ts e0 N C (upd H1 d (.dK (pcV (pcs++[(e,x)])))):=by
 obtain⟨pcs',e1,DEd⟩:=L.at_ a d hd;rw[hp] at e1;cases e1;have hdd:=DEd.dct;have kt:∀b ys,H1 b=some (.tup ys)->(upd H1 d (.dK (pcV (pcs++[(e,x)])))) b=some (.tup ys):=fun b ys z=>by rw[za (zCD z hdd (by intro w;cases w))];exact z
 have ha:a<pss.length:=(zF.mp hp).1;refine⟨h.tp.ch n1 n2,h.sm.chg hd0,by rw[za (zCD h.pr hdd (by intro w;cases w))];exact h.pr,by rw[za (zCD h.fo hdd (by intro w;cases w))];exact h.fo,pss.set a (pcs++[(e,x)]),⟨by rw[zAL];exact L.ln,L.nd,fun i d' hd'=>?_⟩,by rw[zAL];exact hl,fun i qs hq=>?_,?_⟩
 . by_cases c:i=a
   . subst c;rw[hd] at hd';cases hd';refine⟨pcs++[(e,x)],by rw[List.getElem?_set_self ha],zI,fun y hy=>?_⟩;rcases zm.mp hy with z | z
     . exact kt _ _ (DEd.ent y z)
     . rw[zd.mp z];exact kt _ _ hx
   . obtain⟨qs,q1,q2⟩:=L.at_ i d' hd';have nd':d'≠d:=fun z=>by subst z;obtain⟨i1,e1⟩:=zF.mp hd;obtain⟨i2,e2⟩:=zF.mp hd';exact c ((zB5 L.nd).mp (e2.trans e1.symm))
     exact⟨qs,by rw[List.getElem?_set_ne (Ne.symm c)];exact q1,q2.keep (fun z=>by rw[za nd'];exact z) kt⟩
 . by_cases c:i=a
   . subst c;rw[List.getElem?_set_self ha] at hq;cases hq;have:=U i pcs hp;rw[zQ];exact this.put h0 hll (by rw[zAd];exact hn) hr
   . rw[List.getElem?_set_ne (Ne.symm c)] at hq;exact U i qs hq
 . have:=S.put (a:=a) (by rw[Est.len];exact ha) ok up dn;rw[Est.at hp] at this;have e2:Est (pss.set a (pcs++[(e,x)]))=(Est pss).set a (pcs.map (·.1)++[e]):=by unfold Est;rw[List.map_set,zQ];rfl
   rw[e2];exact this
end
section
variable {X:Cx}{pl:lPO}{N':List Str}{sc:Scope}{yc:Str}{fp:List Addr}{s3:Shared}{H3:Hp}{tg:Expr}
theorem zNS {l:Expr}{tl:TE}(hl:PE (zAx X pl N' sc fp s3 H3) l tl):PI (zAx X pl N' sc fp s3 H3) tg l (iTup X.K tl):=zB9 hl
theorem zLV {pl':lPO}{N2:List Str}{sc':Scope}{fp':List Addr}{s3':Shared}{H3':Hp}:IxR (zAx (zAx X pl N' sc fp s3 H3) pl' N2 sc' fp' s3' H3') (rIxT X.K):=zAK
theorem zGr (hc:X.calm=true):zCl (zAx X pl N' sc fp s3 H3) (.type "dict") (zNJ X.K):=zDZ (X:=zAx X pl N' sc fp s3 H3) hc
theorem zEW:zCl (zBo X pl N' sc yc fp s3 H3) (.type "tuple") (rc_4 X.K):=zAT
theorem zJi {l:Expr}{tl:TE}(hl:PE (zBo X pl N' sc yc fp s3 H3) l tl):PI (zBo X pl N' sc yc fp s3 H3) tg l (iList X.K tl):=zCE hl
end
noncomputable def SmD (t:Addr)(H H':Hp):Prop:=∀b o,b≠t->(∀kvs,o ≠ .dK kvs)->H b=some o->H' b=some o
theorem SmD.tr {t:Addr}(a:SmD t H H1)(b:SmD t H1 H2):SmD t H H2:=fun c o n d e=>b c o n d (a c o n d e)
theorem Sm.d {t:Addr}(a:Sm t H H1):SmD t H H1:=fun c o n _ e=>a c o n e
theorem SmD.tu {t:Addr}{xs:List V}(a:SmD t H H1)(n:b≠t)(e:H b=some (.tup xs)):H1 b=some (.tup xs):=a b _ n (by intro k z;cases z) e
theorem SmD.ls {t:Addr}{xs:List V}(a:SmD t H H1)(n:b≠t)(e:H b=some (.lst xs)):H1 b=some (.lst xs):=a b _ n (by intro k z;cases z) e
theorem nd_pc (h:(pcs.map (·.1.h)).Nodup):((pcV pcs).map (·.1)).Nodup:=by rw[zDV,List.Nodup,zAt];exact h.imp fun z w=>z (by injection w)
theorem zCe:zAE ["_law_tape_here","_law_web_here","_law_far_here","_law_labels_here","_law_pairs","_law_found","_law_pair","_law_hub","_law_long","_law_downs"] qAA (defScope zD0):=fS0
theorem zJq (F:Fun K "_law_longer" "_law_longer" zD0 f fd') (FD:FuB K mg "_law_draw" zDI fD fdD qAB) (GD:zAb P w K mg base CX0 2 fD fdD qAB zDS)
 (FJ:FuB K mg "_law_joined" zMJ fJ fdJ qAJ)
 (mLen:mg "len"=none) (mRange:mg "range"=none) (mTuple:mg "tuple"=none) (mDict:mg "dict"=none) (mSorted:mg "sorted"=none):zAb P w K mg base CX0 3 f fd' qAA zHC:=by
 have GJ:zAb P w K mg base CX0 2 fJ fdJ qAJ zMA:=(zJr FJ.F).mono (by decide);refine F.okD zCe fun _ A _ _ H vs Q E hr h=>?_;obtain⟨t,p,wa,fl,l,N,n,ts,M,ess,rfl,T,hN,W,h15,FR,LL,LX0,k⟩:=h;obtain⟨ta,tys,hwa,hta,TA,G⟩:=id W;have hn1:=G.n1;have hn24:=G.n24;have hu:=zGn hr;have hu0:=hr.units0;obtain⟨as,hl,hal,hA⟩:=id LL;have hel:=LX0.ln;have LMM:=LX0.lm;refine⟨_,zR (zC4 (i:=4) zCe.nd rfl (Or.inr rfl) (zAI GJ hr FJ (zD (pv 1) zL)))
  (zR (zCf (i:=5) (own:=["_law_label"]) (cn:=[]) (ci:=[]) zCe.nd rfl (Or.inl rfl) rfl (csc rfl rfl) trivial rfl (zB9 (pv 3)) (fun _ _ _ _=>zCJ) (fun _ _ _ _=>zBP)
   (fun _ _ _ _=>zAr (zGr rfl) mDict (zD
    (zBi (own:=["_law_entry_here"]) (cn:=[]) (ci:=[]) rfl (csc rfl rfl) trivial rfl (zNS (pv 0)) (fun _ _ _ _=>zCJ)
     (fun _ _ _ _=>zBP) (fun _ _ _ _=>zAv (zD (zu zLV (pv 0) zf) (zD (pv 0) zL)))) zL)))
  (zR (zA6 PassesOwn.never rfl (zCE (zAJ (zDh rfl) mSorted (zD (pv 4) zL))) (zv (i:=6) zCe.nd rfl (Or.inr rfl))
   (zY (zA6 PassesOwn.never rfl (zCE (zAJ (zCy rfl) mSorted (zD (zu zAC (pv 5) (zu zAK (pv 6) zf)) zL))) (zv (i:=7) zCe.nd rfl (Or.inr rfl))
    (zR (zC4 (i:=8) zCe.nd rfl (Or.inr rfl) (zAw zBs (zu zAK (zCg hu (zu zAC (pv 5) (zu zAK (pv 6) zf)) (pv 7) (fun _ _=>rfl)) zf) (zCg hu (pv 4) (pv 6) (fun _ _=>rfl))))
    (zR (zCf (i:=9) (own:=["_law_y"]) (cn:=["_law_hub","_law_pairs","_law_far_here","_law_pair","_law_long"]) (ci:=[7,4,2,6,8]) zCe.nd rfl (Or.inl rfl) rfl (csc rfl rfl) ⟨rfl,rfl,rfl,rfl,rfl,rfl,rfl,rfl,rfl,rfl,rfl,rfl,rfl,rfl,rfl,trivial⟩ rfl
     (zAl rfl mRange (zD (zu zAK (pv 1) zf) zL)) (fun _ _ _ _=>zCJ)
     (fun _ _ _ _=>zCt (PW.pt (zCn (zFx (zJk hu (zAv (zD (pv 1) (zD (pv 0) zL))) (pv 2)))
      (zCR (zAA zCK (zu zCP (zu zCP (pv 3) (pv 0)) (zu zCh (pv 4) zf)) (zAw zC6 (pv 5) (zCg hu (pv 2) (zAv (zD (pv 1) (zD (pv 0) zL))) (fun _ _=>rfl))) (zAB _))))))
     (fun _ _ _ _=>pv 0))
    (zY (zA8 (PW.pt (zCn (zFx (zF1 hu (pv 7) (zu zAC (pv 5) (zu zAK (pv 6) zf)))) (zCn (zAA (op_neE hu0) (pv 9) (zBV zL) (zAB _)) (zCR (zAA zEA (zAI GD hr FD (zD (pv 0) (zCb zL))) zf (zAB _))))))
     (zY (zD4 hu (zu zAC (pv 5) (zu zAK (pv 6) zf)) (pv 7)
      (zAv (zD (pv 7) (zD (pv 8) (zD (zu zAK (pv 6) zf) (zD (zu zAC (pv 9) (zAI GD hr FD (zD (pv 0) (zD (zAJ zAm mLen (zD (pv 9) zL)) zL)))) zL))))) rfl)) zAN)))))))
  (zY (zAH (zAr zAT mTuple (zD
   (zLF (yc := "_law_here") (own:=["_law_here"]) (cn:=[]) (ci:=[]) rfl (csc1 rfl (fun _ _=>rfl) rfl rfl) trivial rfl (zCE (pv 5)) (fun _ _ _ _=>zv (i:=0) (zDk rfl) rfl (Or.inr rfl)) (fun _ _ _ _=>zBP)
    (fun _ _ _ _=>zAr zEW mTuple (zD
     (zBi (own:=["_law_hub"]) (cn:=["_law_here"]) (ci:=[0]) rfl (csc rfl rfl) ⟨rfl,rfl,rfl,trivial⟩ rfl (zJi (zAJ (zCy rfl) mSorted (zD (pv 0) zL)))
      (fun _ _ _ _=>zCJ) (fun _ _ _ _=>zBP) (fun _ _ _ _=>zCg hu (pv 1) (pv 0) (fun _ _=>rfl))) zL))) zL)))))),?_⟩
 refine⟨_,rfl,wa,n,ts,rfl,W,fun pd kvs H1 s1 hpd PDk hkl KPk=>?_⟩;have T1:=T.kp s1;have tup1:∀b ys,H b=some (.tup ys)->H1 b=some (.tup ys):=fun b ys e=>s1 _ _ e;refine⟨_,rfl,l,rfl,⟨_,SqT.of (s1 _ _ hl)⟩,[],rfl,fun fo hfo=>?_⟩;have nfo:=T1.nn hfo;refine zBk (a:=l) (xs:=as.map V.ref) (fun i ys H2=>i<=ess.length/\Ex2 fun (ds:List Addr)(pss:List (List (En×Addr)))=>ys=ds.map V.ref/\pss.length=i/\LD H2 ds pss/\(∀(j:Nat)(pcs:List (En×Addr)),pss[j]?=some pcs->ess[j]?=some (pcs.map (·.1)))/\(∀d∈ds,H1 d=none/\d≠fo)/\zAo H1 H2/\H2 fo=some (.lst ys))
  ⟨zk _,[],[],rfl,rfl,⟨rfl,List.nodup_nil,fun i d z=>by simp at z⟩,fun j pcs z=>by simp at z,fun d z=>by simp at z,zH hfo,zI⟩ (fun i ys H2 h=>?_) (fun i ys H2 h=>?_) (fun i v ys H2 hv h=>?_) (fun ys H2 h=>?_)
 . obtain⟨_,_,_,_,_,_,_,_,s2,_⟩:=h;exact SqT.of (s2 _ _ (s1 _ _ hl))
 . obtain⟨hi,ds,pss,rfl,hpl,L,_⟩:=h;rw[zB,L.ln,hpl];exact zAS (by omega)
 . obtain⟨_,ds,pss,rfl,hpl,L,hE,hds,s2,hfo2⟩:=h;rw[zM] at hv;cases ha:as[i]? with
   | none=>rw[ha] at hv;cases hv
   | some a=>
   rw[ha] at hv;cases hv;obtain⟨es,hes,LE⟩:=hA i a ha;have hia:=(zF.mp ha).1;obtain⟨cs,hat,EA,_⟩:=id LE;have LMi:=LMM i es hes;have hesl:=LMi.len hn24;have tup2:∀b us,H b=some (.tup us)->H2 b=some (.tup us):=fun b us e=>s2 _ _ (s1 _ _ e);refine⟨⟨rfl,rfl⟩,?_⟩;refine zFN ?_;refine⟨_,rfl,a,rfl,⟨_,SqT.of (tup2 _ _ hat)⟩,[],rfl,fun D hD=>?_⟩;refine zHk (tup2 _ _ hat) (EA.keep tup2) (by omega) hD fun zs H3 s3 hD3 PA=>?_
   . have hz1:(es.zip cs).map (·.1)=es:=List.map_fst_zip (by rw[EA.1];exact zK _);have hzn:((es.zip cs).map (·.1.h)).Nodup:=by
      have:(es.zip cs).map (·.1.h)=es.map (·.h):=by rw[<-hz1,zAd,hz1];rfl
      rw[this];exact LMi.lu.nd
     refine⟨D,zs,pcV (es.zip cs),rfl,SqL.of hD3,PA,fun d hd=>?_⟩;rw[zFw (nd_pc hzn)];have s23:zAo H2 (upd H3 d (.dK (pcV (es.zip cs)))):=s3.trans (zH hd);have nfd:fo≠d:=zl (s3 _ _ hfo2) hd;have hdd:(upd H3 d (.dK (pcV (es.zip cs)))) d=some (.dK (pcV (es.zip cs))):=zI;have hd1:H1 d=none:=by
      cases q:H1 d with
      | none=>rfl
      | some o=>have:=s3 _ _ (s2 _ _ q);rw[hd] at this;cases this
     have hdm:d∉ds:=fun z=>by obtain⟨m,hm,em⟩:=zj z;obtain⟨pcs,_,q⟩:=L.at_ m d (by rw[zA hm,em]);have:=s3 _ _ q.dct;rw[hd] at this;cases this
     generalize upd H3 d (.dK (pcV (es.zip cs)))=H4 at s23 hdd ⊢;have hfo4:=s23 _ _ hfo2;have kp:∀(b:Addr)(o:HO),(∀us,o ≠ .lst us)->H4 b=some o->(upd H4 fo (.lst (ds.map V.ref++[.ref d]))) b=some o:=fun b o ho e=>by rw[za fun z=>by rw[z,hfo4] at e;exact ho _ (zT e).symm];exact e
     refine⟨hfo4,by omega,ds++[d],pss++[es.zip cs],by rw[zQ];rfl,by rw[zJ,hpl];rfl,⟨by rw[zJ,zJ,L.ln];rfl,zBq.mpr ⟨L.nd,by simp,fun x hx y hy z=>hdm (by rw[<-zd.mp hy,<-z];exact hx)⟩,fun m d' hd'=>?_⟩,fun m pcs hm=>?_,fun d' hd'=>?_,zAV (s2.trans s23) hfo,zI⟩
     . by_cases c:m<ds.length
       . rw[zP c] at hd';obtain⟨pcs,q1,q2⟩:=L.at_ m d' hd';refine⟨pcs,by rw[zP (by rw[<-L.ln];exact c)];exact q1,q2.keep (fun e=>kp _ _ (by intro us z;cases z) (s23 _ _ e)) fun b us e=>kp _ _ (by intro us z;cases z) (s23 _ _ e)⟩
       . have em:m=ds.length:=by have:=(zF.mp hd').1;rw[zJ] at this;simp at this;omega
         subst em;rw[zO (zK _),zBG] at hd';have ey:d=d':=by simpa using hd'
         subst ey;refine⟨es.zip cs,by rw[L.ln,zO (zK _),zBG];rfl,kp _ _ (by intro us z;cases z) hdd,fun x hx=>?_⟩;obtain⟨m,hm,em⟩:=zj hx;have h1:(es.zip cs)[m]?=some (x.1,x.2):=by rw[zA hm,em]
         obtain⟨q1,q2⟩:=List.getElem?_zip_eq_some.mp h1;obtain⟨e,he,hxe⟩:=EA.2 m x.2 q2;rw[q1] at he;cases he;exact kp _ _ (by intro us z;cases z) (s23 _ _ (tup2 _ _ hxe))
     . by_cases c:m<pss.length
       . rw[zP c] at hm;exact hE m pcs hm
       . have em:m=pss.length:=by have:=(zF.mp hm).1;rw[zJ] at this;simp at this;omega
         subst em;rw[zO (zK _),zBG] at hm;have ey:es.zip cs=pcs:=by simpa using hm
         subst ey;rw[hz1,hpl];exact hes
     . rcases zm.mp hd' with z | z
       . exact hds d' z
       . rw[zd.mp z];exact⟨hd1,Ne.symm nfd⟩
 obtain⟨_,ds,pss0,rfl,hpl0,L0,hE,hds,s2,hfo2⟩:=h;rw[zB,hal] at hpl0;have I0:LgI H t p pd fo kvs ds n ts ess N 2376 H2:=⟨T1.kp s2,Sm.of (s1.trans s2),s2 _ _ hpd,hfo2,pss0,L0,by omega,(fun i pcs z=>(LMM i _ (hE i pcs z)).lu),(LX0.lg G).congr (by rw[Est.len];omega) fun i e=>?est⟩
 case est=>
  cases z:pss0[i]? with
  | none=>
   have h1:(Est pss0).getD i []=[]:=by unfold Est;rw[zE,zM,z];rfl
   have h2:ess.getD i []=[]:=by have:=List.getElem?_eq_none_iff.mp z;rw[zE,zx (by omega)];rfl
   rw[h1,h2]
  | some pcs=>rw[Est.at z,zE,hE i pcs z];rfl
 have dsH:∀d∈ds,H d=none/\d≠t/\d≠p:=fun d hd=>by
  have h1:=(hds d hd).1;refine⟨?_,T1.nn h1⟩;cases q:H d with
  | none=>rfl
  | some o=>have:=s1 _ _ q;rw[h1] at this;cases this
 have dsl:ds.length=n.toNat:=by rw[L0.ln];omega
 clear L0 hE;obtain⟨ks,hks,hk2⟩:=KPk;have hkk:kvs.length=ks.length:=by have:=congrArg List.length hks;simpa using this
 refine⟨_,rfl,pd,kvs,ks,rfl,I0.pr,hks,(fun c hc z=>by obtain⟨x,y,e⟩:=hk2 c hc;rw[z] at e;cases e),by omega,fun L zs ms hL TZ pm _=>?_⟩;have hzl:zs.length=ks.length:=by rw[TZ.length];exact pm.length_eq
 have sL:=zH (o:=.lst zs) hL;have I1:=I0.same sL;have nL:=I0.tp.nn hL;have hLL:(upd H2 L (.lst zs)) L=some (.lst zs):=zI;have hmem:∀(j:Nat)(c:List Int),ms[j]?=some c->∃x y cc:Int,c=[x,y]/\zCL kvs [Sum.inl x,Sum.inl y]=some (.int cc)/\Adj ts x y cc:=fun j c e=>by have h1:c∈ks:=pm.mem_iff.mp (zV e);obtain⟨x,y,rfl⟩:=hk2 c h1;obtain⟨v,hv⟩:=zMw (kvs:=kvs) (k:=[Sum.inl x,Sum.inl y]) (by rw[hks];exact zo.mpr ⟨_,h1,rfl⟩);obtain⟨cc,rfl⟩:=(PDk x y).2 v hv;exact⟨x,y,cc,rfl,hv,((PDk x y).1 cc).mp hv⟩
 refine⟨L,rfl,⟨_,SqL.of hLL⟩,zCi (K:=K) (a:=L) (xs:=zs) (fun j σ H3=>Ex4 fun (v6 v7 v8 v9:Option V)=>σ=[some (.ref t),some (.ref wa),some (.ref fl),some (.ref l),some (.ref pd),some (.ref fo),v6,v7,v8,v9]/\LgI H t p pd fo kvs ds n ts ess (N+60*j) (2376+99*j) H3/\H3 L=some (.lst zs)/\SmD t H2 H3)
  ⟨_,_,_,_,rfl,I1.up (by omega) (by omega),hLL,(Sm.of sL).d⟩ (fun j σ H3 _ ⟨_,_,_,_,_,_,h3,_⟩=>SqL.of h3) ?turn ?after⟩
 case after=>
  rintro σ H3 ⟨v6,v7,v8,v9,rfl,I3,_,_⟩;rw[hzl] at I3;obtain⟨pss,LDp,hpl,U,SS⟩:=I3.ld;refine⟨_,rfl,fo,rfl,⟨_,SqL.of I3.fo⟩,[],rfl,fun D hD=>?_⟩;have nD:=I3.tp.nn hD;refine zCw (a:=fo) (xs:=ds.map V.ref) (fun i ys H4=>i<=ds.length/\Ex2 fun (bs:List Addr)(fss:List (List En))=>ys=bs.map V.ref/\fss.length=i/\zFL H4 bs fss/\LMs (SaZ (Est pss)) ts n 20000 fss/\zAo H3 H4/\H4 D=some (.lst ys)) ⟨zk _,[],[],rfl,rfl,⟨rfl,fun i b z=>by simp at z⟩,(fun i es z=>by simp at z),zH hD,zI⟩ (fun i ys H4 h=>?_) (fun i ys H4 h=>?_) (fun i v ys H4 hv h=>?_) (fun ys H4 h=>?_)
  . obtain⟨_,_,_,_,_,_,_,s4,_⟩:=h;exact SqL.of (s4 _ _ I3.fo)
  . obtain⟨hi,bs,fss,rfl,hfl,LB,_⟩:=h;rw[zB,LB.1,hfl];exact zAS (by omega)
  . obtain⟨_,bs,fss,rfl,hfl,LB,LM',s4,hD4⟩:=h;rw[zM] at hv;cases hd:ds[i]? with
    | none=>rw[hd] at hv;cases hv
    | some d=>
    rw[hd] at hv;cases hv;have hid:=(zF.mp hd).1;obtain⟨pcs,hpc,DEd⟩:=LDp.at_ i d hd;have Ui:=U i pcs hpc;have pcl:pcs.length<=24:=by have:=Ui.len hn24;rwa [zB] at this
    have hd4:=s4 _ _ DEd.dct;refine⟨⟨rfl,rfl⟩,?_⟩;refine zFN ?_;refine⟨_,rfl,d,_,_,rfl,hd4,zDV pcs,by rw[zB];omega,fun LK mk hLK pmk st=>?_⟩;have sK:=zH (o:=.lst (mk.map V.int)) hLK;have hLKK:(upd H4 LK (.lst (mk.map V.int))) LK=some (.lst (mk.map V.int)):=zI;have mkl:mk.length<=24:=by rw[pmk.length_eq,zB];exact pcl
    have nDK:D≠LK:=zl hD4 hLK;generalize upd H4 LK (.lst (mk.map V.int))=H5 at sK hLKK ⊢;refine⟨LK,rfl,⟨_,SqL.of hLKK⟩,[.ref d],rfl,fun D2 hD2=>?_⟩;have nDD:D≠D2:=zl (sK _ _ hD4) hD2;refine zKY hLKK (sK _ _ hd4) (fun x hx=>sK _ _ (s4 _ _ (DEd.ent _ hx))) pmk (by omega) hD2 fun cs fs H6 hfs EF hF s6 hD6=>?_
    . refine⟨D2,_,rfl,.inl ⟨SqL.of hD6,fun b hb=>?_⟩⟩;have sb:=zH (o:=.tup (cs.map V.ref)) hb;have s46:=(sK.trans s6).trans sb;have hDb:=s46 _ _ hD4;have LC:zBR (upd H6 b (.tup (cs.map V.ref))) b fs:=⟨cs,zI,EF.keep fun b' us z=>sb _ _ z,by omega⟩;have LMf:LM (SaZ (Est pss)) ts n i (2376+99*(ks.length:Nat)) fs:=LM.of_sorted Ui hfs (by rw[zAd];exact pmk) st hF fun mm e=>by rw[show ((i:Int)).toNat=i by omega,Est.at hpc];exact mm e
      generalize upd H6 b (.tup (cs.map V.ref))=H7 at sb s46 hDb LC ⊢;have kp:∀x us,H7 x=some (.tup us)->(upd H7 D (.lst (bs.map V.ref++[.ref b]))) x=some (.tup us):=fun x us z=>by rw[za (zCD z hDb (by intro w;cases w))];exact z
      exact⟨hDb,by omega,bs++[b],fss++[fs],by rw[zQ];rfl,by rw[zJ,hfl];rfl,((LB.keep fun x us z=>s46 _ _ z).keep kp).snoc (LC.keep kp),LM'.snoc hfl (LMf.mono (by omega)),zAV (s4.trans s46) hD,zI⟩
  . obtain⟨_,bs,fss,rfl,hfl,LB,LM',s4,hD4⟩:=h;rw[zB] at hfl;refine⟨D,_,rfl,.inl ⟨SqL.of hD4,fun l' hl'=>?_⟩⟩;have sl:=zH (o:=.tup (bs.map V.ref)) hl';have hfn:fss.length=n.toNat:=by omega
    have S4:LgS ts n ess fss:=SS.congr (by rw[Est.len];omega) fun i e=>by
     by_cases hi:i<fss.length
     . have:=(LM'.at hi).ud e;rwa [show ((i:Int)).toNat=i by omega] at this
     . rw[zE,zx (by omega),zE,zx (by rw[Est.len];omega)]
    exact k l' fss _ ⟨bs,zI,LB.1,(LB.keep fun b ys e=>sl _ _ e).2⟩ hfn (LM'.weak fun i _ _ e he=>S4.ok i e he) (S4.let G hfn LM' LX0) ((I3.tp.kp (s4.trans sl)).up (by omega)) (I3.sm.trans (Sm.of (s4.trans sl)))
 case turn=>
  rintro j z σ H3 hj ⟨v6,v7,v8,v9,rfl,I3,hL3,s3⟩;have hjl:j<ks.length:=by rw[<-hzl];exact (zF.mp hj).1
  obtain⟨pa,c,rfl,hmj,hpa,_⟩:=TZ.get hj;obtain⟨x,y,cc,rfl,hval,hadj⟩:=hmem j c hmj;have ga:=G.adj hadj;have hpa3:H3 pa=some (.tup [.int x,.int y]):=s3.tu (zAF.neT I0.tp.at_ hpa) hpa;obtain⟨pss,LDp,hpl,U,_⟩:=I3.ld;obtain⟨db,hdb⟩:∃d,ds[y.toNat]?=some d:=⟨_,zA (by omega)⟩;obtain⟨da,hda⟩:∃d,ds[x.toNat]?=some d:=⟨_,zA (by omega)⟩;obtain⟨pb,hpb,DEb⟩:=LDp.at_ _ _ hdb;have Ub:=U _ _ hpb;have hxa:(x.toNat:Int)=x:=by omega
  have hya:(y.toNat:Int)=y:=by omega
  rw[hya] at Ub;have hatb:atI (ds.map V.ref) y=some (.ref db):=zBQ (by omega) (by rw[zM,hdb];rfl);have hata:atI (ds.map V.ref) x=some (.ref da):=zBQ (by omega) (by rw[zM,hda];rfl);have dH:=dsH da (zV hda);have nab:da≠db:=fun z=>by subst z;obtain⟨i1,e1⟩:=zF.mp hda;obtain⟨i2,e2⟩:=zF.mp hdb;have:=(zB5 LDp.nd).mp (e1.trans e2.symm);omega
  have ubl:pb.length<=24:=by have:=Ub.len hn24;rwa [zB] at this
  refine⟨_,rfl,_,rfl,pa,_,_,.int y,rfl,rfl,SqT.of hpa3,rfl,fo,_,_,.ref db,rfl,rfl,SqL.of I3.fo,hatb,db,_,_,rfl,DEb.dct,zDV pb,by rw[zB];omega,fun LK mk hLK pmk _=>?_⟩;have sK:=zH (o:=.lst (mk.map V.int)) hLK;have hLKK:(upd H3 LK (.lst (mk.map V.int))) LK=some (.lst (mk.map V.int)):=zI;have I4:=I3.same sK;have DEb4:DE (upd H3 LK (.lst (mk.map V.int))) db pb:=DEb.keep (fun e=>sK _ _ e) fun b ys e=>sK _ _ e;have mkl:mk.length<=24:=by rw[pmk.length_eq,zB];exact ubl
  refine⟨LK,rfl,⟨_,SqL.of hLKK⟩,zCi (K:=K) (a:=LK) (xs:=mk.map V.int) (fun i σ H4=>Ex3 fun (v7 v8 v9:Option V)=>σ=[some (.ref t),some (.ref wa),some (.ref fl),some (.ref l),some (.ref pd),some (.ref fo),some (.ref pa),v7,v8,v9]/\LgI H t p pd fo kvs ds n ts ess (N+60*j+2*i) (2376+99*j+99) H4/\DE H4 db pb/\H4 LK=some (.lst (mk.map V.int))/\SmD t H3 H4)
   ⟨_,_,_,rfl,I4.up (by omega) (by omega),DEb4,hLKK,(Sm.of sK).d⟩ (fun i σ H4 _ ⟨_,_,_,_,_,_,h4,_⟩=>SqL.of h4) ?turn2 ?after2⟩
  case after2=>
   rintro σ H4 ⟨v7,v8,v9,rfl,I4,_,_,s4⟩;rw[zB] at I4;exact⟨_,_,_,_,rfl,I4.up (by omega) (by omega),s4.ls nL.1 hL3,s3.tr s4⟩
  case turn2=>
   rintro i v σ H4 hi ⟨v7,v8,v9,rfl,I4,DE4,hLK4,s4⟩;have hil:i<mk.length:=by have:=(zF.mp hi).1;rwa [zB] at this
   obtain⟨h,hmi,rfl⟩:∃h:Int,mk[i]?=some h/\V.int h=v:=by
    rw[zM] at hi;cases e:mk[i]? with
    | none=>rw[e] at hi;cases hi
    | some h=>rw[e] at hi;exact⟨h,rfl,zT hi⟩
   have hpm:h∈pb.map (·.1.h):=pmk.mem_iff.mp (zV hmi);obtain⟨⟨e,xe⟩,hxm,rfl,hvx⟩:=zFQ hpm;have hxe:H4 xe=some (.tup (eV e)):=DE4.ent _ hxm;have hem:e∈pb.map (·.1):=zo.mpr ⟨_,hxm,rfl⟩;have her:=Ub.rng e hem;have hen:0<=e.l/\e.l<=2376+99*(j:Int):=Ub.nn e hem;obtain⟨q0,hq0⟩:=Ub.rch e hem;have hpa4:=s4.tu (zAF.neT I3.tp.at_ hpa3) hpa3;have g1:zDj H4 db (.int e.h) (some (.ref xe)):=by have:=zDj.k (k:=Sum.inl e.h) DE4.dct;rw[hvx] at this;exact this
   have g2:∀{H':Hp},H' pd=some (.dT kvs)->H' pa=some (.tup [.int x,.int y])->zDj H' pd (.ref pa) (some (.int cc)):=fun h1 h2=>by have:=zDj.t (k:=[Sum.inl x,Sum.inl y]) h1 h2;rw[hval] at this;exact this
   refine⟨_,rfl,_,rfl,pa,_,_,.int y,rfl,rfl,SqT.of hpa4,rfl,fo,_,_,.ref db,rfl,rfl,SqL.of I4.fo,hatb,_,rfl,db,_,rfl,g1,xe,_,_,.int e.l,rfl,rfl,SqT.of hxe,rfl,_,rfl,_,rfl,pd,_,rfl,g2 I4.pr hpa4,_,_,rfl,rfl,?_⟩;have W4:=W.smt T I4.sm;have FR4:=FR.sm T.at_ I4.sm;have hwa4:=I4.sm _ _ (zAF.neT T.at_ hwa) hwa;refine⟨_,rfl,wa,_,_,_,rfl,rfl,SqT.of hwa4,rfl,n,rfl,by omega,by omega,[.int e.h,.ref pd,.ref fl,.ref pa,.int (e.l+cc)],rfl,fun D hD=>?_⟩;refine zBz (lo:=0) (n:=n.toNat) (fun q ys H7=>q<=n.toNat/\(∃xs:List Int,ys=xs.map V.int/\xs.length<=q/\∀x1∈xs,(0<=x1/\x1<q)/\∃c,Adj ts e.h x1 c/\WM.IsD ts x1 x (e.l+cc-c))/\zAo H4 H7/\H7 D=some (.lst ys)) ⟨zk _,⟨[],rfl,zK _,fun x hx=>by simp at hx⟩,zH hD,zI⟩ (fun q ys H7 h=>?_) (fun q ys H7 hq h=>?_) (fun ys H7 h=>?_)
   . obtain⟨hq,⟨xs,rfl,hxl,_⟩,_⟩:=h;rw[zB];exact zAS (by omega)
   . obtain⟨_,⟨xs,rfl,hxl,hxb⟩,s7,hD7⟩:=h;have hxb':∀x1∈xs,(0<=x1/\x1<((q+1:Nat):Int))/\∃c,Adj ts e.h x1 c/\WM.IsD ts x1 x (e.l+cc-c):=fun x1 hx=>⟨by have:=(hxb x1 hx).1;omega,(hxb x1 hx).2⟩;rw[zAZ];refine⟨⟨rfl,rfl⟩,?_⟩;refine⟨_,rfl,_,rfl,by show 2<=sizeLine;decide,fun k1 hk1=>?_⟩;have s8:=s7.trans (zH (o:=.tup [.int e.h,.int q]) hk1);have hD8:=zH (o:=.tup [.int e.h,.int q]) hk1 _ _ hD7;refine⟨_,rfl,pd,_,rfl,zDj.t (k:=[Sum.inl e.h,Sum.inl (q:Int)]) (s8 _ _ I4.pr) zI,_,rfl,?_⟩;refine zC1 (fun hc=>?_) (fun hc=>?_)
     . obtain⟨v1,hv1⟩:=zBK.mp hc;obtain⟨c1,rfl⟩:=(PDk e.h q).2 v1 hv1;generalize upd H7 k1 (.tup [.int e.h,.int q])=H8 at s8 hD8 ⊢;have FR8:=FR4.keep fun b ys e=>s8 _ _ e;obtain⟨r1,a1,w1,f1,e1,i1,j1,l1⟩:=FR8.get (x:=q) (y:=x) (by omega) (by omega) ga.1 ga.2.1;refine⟨_,rfl,_,rfl,fl,_,_,.ref a1,rfl,rfl,SqL.of f1,e1,_,rfl,pa,_,_,.int x,rfl,rfl,SqT.of (s8 _ _ hpa4),rfl,a1,_,_,_,rfl,rfl,SqL.of i1,j1,_,rfl,_,rfl,_,rfl,_,rfl,by show 2<=sizeLine;decide,fun k2 hk2=>?_⟩;have s9:=s8.trans (zH (o:=.tup [.int e.h,.int q]) hk2);have hD9:=zH (o:=.tup [.int e.h,.int q]) hk2 _ _ hD8;refine⟨pd,.int c1,rfl,by rw[<-hv1];exact zDj.t (k:=[Sum.inl e.h,Sum.inl (q:Int)]) (s9 _ _ I4.pr) zI,_,_,rfl,rfl,by cases mat M q x <;> rfl,_,rfl,?_⟩;refine zC1 (fun hd2=>?_) (fun _=>?_)
       . have em:mat M q x=some (e.l+cc-c1):=by have:=of_decide_eq_true hd2;exact of_decide_eq_true ((zKS (mat M q x) (some (e.l+cc-c1))).symm.trans (zS this))
         rw[em] at l1;exact⟨_,rfl,hD9,hq,⟨xs++[(q:Int)],by rw[zQ];rfl,by rw[zJ];show xs.length+1<=q+1;omega,fun x hx=>by
          rcases zm.mp hx with z | z
          . exact hxb' x z
          . rw[zd.mp z];exact⟨by omega,c1,((PDk e.h q).1 c1).mp hv1,l1⟩⟩,zAV s9 hD,zI⟩
       . exact⟨hq,⟨xs,rfl,by omega,hxb'⟩,s9,hD9⟩
     . exact⟨hq,⟨xs,rfl,by omega,hxb'⟩,s8,hD8⟩
   obtain⟨_,⟨xs,rfl,hxl,hxb⟩,s7,hD7⟩:=h;have I7:=I4.same s7;have DE7:DE H7 db pb:=DE4.keep (fun e=>s7 _ _ e) fun b ys e=>s7 _ _ e;have hLK7:=s7 _ _ hLK4;have hpa7:=s7 _ _ hpa4;have s37:SmD t H3 H7:=s4.tr (Sm.of s7).d;have nLK:=I3.tp.nn hLK;obtain⟨pss7,LD7,hpl7,U7,S7⟩:=I7.ld;obtain⟨pa7,hpa7',DEa⟩:=LD7.at_ _ _ hda;refine⟨_,rfl,_,rfl,_,rfl,pa,_,_,.int x,rfl,rfl,SqT.of hpa7,rfl,fo,_,_,.ref da,rfl,rfl,SqL.of I7.fo,hata,da,_,rfl,zDj.k (k:=Sum.inl e.h) DEa.dct,_,rfl,?_⟩;refine zC1 (fun cn=>?_) (fun _=>zCr ⟨_,_,_,rfl,I7.up (by omega) (by omega),DE7,hLK7,s37⟩);have hvn:zCL (pcV pa7) (Sum.inl e.h)=none:=by
    cases q:zCL (pcV pa7) (Sum.inl e.h) with
    | none=>rfl
    | some v=>rw[q] at cn;cases cn
   refine⟨_,rfl,by show 0<=sizeLine;decide,fun e0 he0=>?_⟩;have s8:=zH (o:=.lst []) he0;refine⟨D,e0,_,rfl,rfl,SqL.of (s8 _ _ hD7),SqL.of zI,_,rfl,?_⟩;have I8:=I7.same s8;have DE8:DE (upd H7 e0 (.lst [])) db pb:=DE7.keep (fun e=>s8 _ _ e) fun b ys e=>s8 _ _ e;have hD8:=s8 _ _ hD7;have hLK8:=s8 _ _ hLK7;have hpa8:=s8 _ _ hpa7;have s38:=s37.tr (Sm.of (t:=t) s8).d;generalize upd H7 e0 (.lst [])=H8 at s8 I8 DE8 hD8 hLK8 hpa8 s38 ⊢;refine zC1 (fun cx=>?_) (fun _=>zCr ⟨_,_,_,rfl,I8.up (by omega) (by omega),DE8,hLK8,s38⟩);have hxp:0<xs.length:=by
    cases xs with
    | nil=>simp at cx
    | cons a r=>simp
   refine⟨_,rfl,t,p,_,3,rfl,I8.tp,by omega,by decide,by decide,fun r H9 a9 b9 T9 he9=>?_⟩;have nDt:D≠t:=I8.tp.nI hD8;have nLt:LK≠t:=nLK.1;have I9:=I8.draw T9 he9;have DE9:=DE8.draw I8.tp he9;have hD9:H9 D=some (.lst (xs.map V.int)):=by rw[he9 _ nDt];exact hD8
   have hLK9:H9 LK=some (.lst (mk.map V.int)):=by rw[he9 _ nLt];exact hLK8
   have hpa9:H9 pa=some (.tup [.int x,.int y]):=by rw[he9 _ (zAF.neT I8.tp.at_ hpa8)];exact hpa8
   have s39:=s38.tr (zC3 he9).d;refine⟨_,_,rfl,rfl,_,rfl,?_⟩;refine zC1 (fun _=>?_) (fun _=>⟨_,_,_,rfl,I9.up (by omega) (by omega),DE9,hLK9,s39⟩);refine⟨_,rfl,_,rfl,_,rfl,pa,_,_,.int y,rfl,rfl,SqT.of hpa9,rfl,_,rfl,_,rfl,_,rfl,D,_,rfl,.inl (SqL.of hD9),t,p,_,_,rfl,I9.tp,by omega,by rw[zB];omega,by rw[zB];omega,fun r' H10 a10 b10 T10 he10=>?_⟩;rw[zB] at b10;obtain⟨dn,hdm,hdn⟩:=zDU a10 b10;obtain⟨rdn,c2,ha2,hi2⟩:=hxb dn hdm;have I10:=I9.draw T10 he10;have DE10:=DE9.draw I9.tp he10;have hLK10:H10 LK=some (.lst (mk.map V.int)):=by rw[he10 _ nLt];exact hLK9
   have hpa10:H10 pa=some (.tup [.int x,.int y]):=by rw[he10 _ (zAF.neT I9.tp.at_ hpa9)];exact hpa9
   have s310:=s39.tr (zC3 he10).d;refine⟨D,_,_,_,rfl,rfl,SqL.of (by rw[he10 _ nDt];exact hD9),hdn,by show 4<=sizeLine;decide,fun nx hnx=>?_⟩;have s11:=zH (o:=.tup [.int e.h,.int (e.l+cc),.int y,.int dn]) hnx;have hnx':(upd H10 nx (.tup [.int e.h,.int (e.l+cc),.int y,.int dn])) nx=some (.tup (eV ⟨e.h,e.l+cc,some y,some dn⟩)):=zI;have I11:=I10.same s11;have DE11:DE (upd H10 nx (.tup [.int e.h,.int (e.l+cc),.int y,.int dn])) db pb:=DE10.keep (fun e=>s11 _ _ e) fun b ys e=>s11 _ _ e;have hLK11:=s11 _ _ hLK10;have hpa11:=s11 _ _ hpa10;have s311:=s310.tr (Sm.of (t:=t) s11).d;have LD11:LD (upd H10 nx (.tup [.int e.h,.int (e.l+cc),.int y,.int dn])) ds pss7:=⟨LD7.ln,LD7.nd,fun i d ed=>let ⟨q,q1,q2⟩:=LD7.at_ i d ed;⟨q,q1,(((q2.keep (fun e=>s8 _ _ e) fun b ys e=>s8 _ _ e).draw I8.tp he9).draw I9.tp he10).keep (fun e=>s11 _ _ e) fun b ys e=>s11 _ _ e⟩⟩;generalize upd H10 nx (.tup [.int e.h,.int (e.l+cc),.int y,.int dn])=H11 at hnx' I11 DE11 hLK11 hpa11 s311 LD11 ⊢;obtain⟨pa11,hpa11',DEa11⟩:=LD11.at_ _ _ hda;rw[hpa7'] at hpa11';cases hpa11';have hnm:e.h∉pa7.map (·.1.h):=fun z=>by obtain⟨_,_,_,q⟩:=zFQ z;rw[hvn] at q;cases q
   have Ua:=U7 _ _ hpa7';have hal':pa7.length<=24:=by have:=Ua.len hn24;rwa [zB] at this
   refine⟨_,rfl,_,rfl,pa,_,_,.int x,rfl,rfl,SqT.of hpa11,rfl,fo,_,_,.ref da,rfl,rfl,SqL.of I11.fo,hata,_,rfl,da,_,rfl,zKp.k (k:=Sum.inl e.h) DEa11.dct (by unfold pcV;rw[zB];exact zAS (by omega)),?_⟩;rw[zDr _ hvn];have eput:pcV pa7++[(Sum.inl e.h,V.ref nx)]=pcV (pa7++[((⟨e.h,e.l+cc,some y,some dn⟩:En),nx)]):=by unfold pcV;rw[zQ];rfl
   rw[eput];have rch:∃q,WM.IsD ts x.toNat e.h q:=by rw[hxa];exact Way.least G (.cons hadj hq0.1)
   obtain⟨pb7,hpb7,DEb7⟩:=LD7.at_ _ _ hdb;have upr:UpR ts (Est pss7) x.toNat ⟨e.h,e.l+cc,some y,some dn⟩:=by
    have ek:pcV pb7=pcV pb:=by have:=DEb7.dct.symm.trans DE7.dct;injection this with this;injection this
    obtain⟨x7,hx7,e7,v7⟩:=zFQ (pcs:=pb7) (h:=e.h) (by have:=congrArg (List.map (·.1)) ek;rw[zDV,zDV] at this;have inj:pb7.map (·.1.h)=pb.map (·.1.h):=List.map_inj_right (fun _ _ z=>by injection z) |>.mp this;rw[inj];exact hpm)
    rw[ek,hvx] at v7;injection v7 with v7;injection v7 with v7;have h7:=DEb7.ent x7 hx7;rw[<-v7,s7 _ _ hxe] at h7;injection h7 with h7;injection h7 with h7;have e7':=eV_inj h7;refine⟨y,cc,e,rfl,by rw[hxa];exact hadj,?_,rfl,by show e.l=e.l+cc-cc;omega⟩;rw[Est.at hpb7,e7'];exact zo.mpr ⟨x7,hx7,rfl⟩
   have I12:=I11.put (a:=x.toNat) (e:=⟨e.h,e.l+cc,some y,some dn⟩) LD11 hpl7 U7 S7 hda hpa7' dH.1 dH.2.1 dH.2.2 hnx' her ⟨by show 0<e.l+cc;omega,by show e.l+cc<=2376+99*(j:Int)+99;omega⟩ hnm rch ⟨her,by show 0<=e.l+cc;omega,fun z=>absurd z (by show e.l+cc≠0;omega),fun _=>⟨y,dn,rfl,rfl,by omega,by omega,by omega,by omega⟩⟩ upr ⟨dn,c2,rfl,ha2,by rw[hxa];exact hi2⟩;exact⟨_,_,_,rfl,I12.up (by omega) (by omega),(DE11.keep (fun z=>by rw[za (Ne.symm nab)];exact z) fun b ys z=>by rw[za (zCD z DEa11.dct (by intro w;cases w))];exact z),(by rw[za (zCD hLK11 DEa11.dct (by intro w;cases w))];exact hLK11),(s311.tr fun b o nb dk eb=>by rw[za fun z=>by rw[z,DEa11.dct] at eb;exact dk _ (zT eb).symm];exact eb)⟩
inductive zG9 (vs:List V)(H:Hp)(Q:VK):Prop
 | mk:∀(t wa:Addr)(N:Nat)(n:Int)(ts:List T3),(vs=[.ref t,.ref wa])->(zAF H t N)->(N<300000)->(zB3 H wa n ts)->(ts.length<=31)->(∀(l:Addr)(ess:List (List En))(H':Hp),zA4 H' l ess->ess.length=n.toNat->LMs (KeZ n) ts n 20000 ess->zCY ts n ess->zAF H' t (N+12000)->Sm t H H'->Q (.ref l) H')->zG9 vs H Q
noncomputable def spSome:Sp:=fun vs H Q _=>zG9 vs H Q
structure LY (ts:List T3)(n:Int)(ess:List (List En)):Prop where
 ln:ess.length=n.toNat
 lm:LMs (KeZ n) ts n 20000 ess
 lt:zCY ts n ess
structure SomI (t wa fl l:Addr)(n:Int)(ts:List T3)(M:lLO)(N:Nat)(Y:List (List En)->Prop)(ess:List (List En))(H:Hp):Prop where
 tp:zAF H t N
 wb:zB3 H wa n ts
 fr:zCN H fl n ts M
 lb:zA4 H l ess
 ok:Y ess
inductive zMt (t:Addr)(wa:Addr)(n:Int)(ts:List T3)(B:List (List En)->Prop)(C:List (List En)->Prop)(k:Nat)(D:zGZ)(σ:St)(H:Hp):Prop
 | mk:∀(fl l:Addr)(M:lLO)(v:Int)(N:Nat)(ess:List (List En)),(σ=[some (.ref t),some (.ref wa),some (.ref fl),some (.ref l),some (.int v)])->(N<400000)->(SomI t wa fl l n ts M N B ess H)->(∀(l':Addr)(fss:List (List En))(H':Hp),SomI t wa fl l' n ts M (N+k) C fss H'->Sm t H H'->D.nx [some (.ref t),some (.ref wa),some (.ref fl),some (.ref l'),some (.int v)] H')->zMt t wa n ts B C k D σ H
noncomputable def SomU (t wa:Addr)(n:Int)(ts:List T3)(B C:List (List En)->Prop)(k:Nat):TS:=fun D σ H=>zMt t wa n ts B C k D σ H
theorem zA4.sm {H H':Hp}{t l:Addr}{N:Nat}{ess:List (List En)}(h:zA4 H l ess)(T:zAF H t N)(s:Sm t H H'):zA4 H' l ess:=by obtain⟨as,h1,h2,h3⟩:=h;refine⟨as,s _ _ (zAF.neT T h1) h1,h2,fun i a e=>?_⟩;obtain⟨es,e1,e2⟩:=h3 i a e;exact⟨es,e1,e2.sm T s⟩
theorem SomI.sm {t wa fl l l':Addr}{n:Int}{ts:List T3}{M:lLO}{N N':Nat}{B C:List (List En)->Prop}{ess fss:List (List En)}{H H':Hp}(h:SomI t wa fl l n ts M N B ess H)(s:Sm t H H')(T:zAF H' t N')(L:zA4 H' l' fss)(m:C fss):SomI t wa fl l' n ts M N' C fss H':=by obtain⟨p,hp⟩:=id h.tp;exact⟨T,h.wb.smt hp s,h.fr.sm h.tp s,L,m⟩
theorem zDc:zAE ["_law_tape_here","_law_web_here","_law_far_here","_law_labels_here","_law_way_here"] qAY (defScope zK6):=fS0
theorem zNe {fG:Addr}{fdG:FuncData}(F:Fun K "_law_some" "_law_some" zK6 f fd')
 (FD:FuB K mg "_law_draw" zDI fD fdD qAB) (GD:zAb P w K mg base CX0 4 fD fdD qAB zFe)
 (FF:FuB K mg "_law_far" sFar fF fdF qAJ) (GF:zAb P w K mg base CX0 4 fF fdF qAJ zM8)
 (FO:FuB K mg "_law_order" zFl fO fdO qAM) (GO:zAb P w K mg base CX0 4 fO fdO qAM zIx)
 (FL:FuB K mg "_law_labels" zFo fL fdL qAP) (GL:zAb P w K mg base CX0 4 fL fdL qAP zI7)
 (FU:FuB K mg "_law_full" zJQ fU fdU qAR) (GU:zAb P w K mg base CX0 4 fU fdU qAR zMD)
 (FE:FuB K mg "_law_either" zJT fE fdE qAQ) (GE:zAb P w K mg base CX0 4 fE fdE qAQ zMF)
 (FS:FuB K mg "_law_loose" zFm fS fdS qAA) (GS:zAb P w K mg base CX0 4 fS fdS qAA zI1)
 (FG:FuB K mg "_law_longer" zD0 fG fdG qAA) (GG:zAb P w K mg base CX0 4 fG fdG qAA zHC):
 zAb P w K mg base CX0 5 f fd' qAY spSome:=by
 refine F.okD zDc fun _ A _ _ H vs Q E hr h=>?_;obtain⟨t,wa,N,n,ts,rfl,T,hN,W,h31,k⟩:=h;obtain⟨ta,tys,hwa,_,_,G⟩:=id W;have hn1:=G.n1;have hn24:=G.n24;refine⟨_,zR (zAi (i:=2) zDc.nd (zAI GF hr FF (zD (pv 1) zL)))
  (zR (zAi (i:=3) zDc.nd (zAI GL hr FL (zD (pv 1) (zD (zAI GO hr FO (zD (pv 0) (zD (zu zAK (pv 1) zf) zL))) zL))))
  (zR (zAi (i:=4) zDc.nd (zAI GD hr FD (zD (pv 0) (zCb zL))))
  (zR (zFz (u':=SomU t wa n ts (LX ts n 2376) (LX ts n 2376) 0) (zA8 (zAA zCK (pv 4) zf (zAB _)) (zY (zAi (i:=3) zDc.nd (zAI GU hr FU (zD (pv 1) (zD (pv 2) zL))))) zAN) (fun D σ H1 z=>by obtain⟨fl,l,M,v,N0,ess,rfl,hN0,I,z⟩:=z;refine⟨_,rfl,rfl,_,rfl,?_⟩;refine zC1 (fun _=>?_) (fun _=>z l ess H1 I (Sm.refl _ _));refine⟨_,rfl,_,rfl,wa,fl,n,ts,M,rfl,I.wb,I.fr,fun l' fss H2 s2 LA hl LM'=>?_⟩;exact z l' fss H2 (I.sm (Sm.of s2) (I.tp.keep s2) LA (zNy G hl LM')) (Sm.of s2)))
  (zR (zFz (u':=SomU t wa n ts (LX ts n 2376) (LX ts n 2376) 24) (zA8 (zAA zCK (pv 4) zf (zAB _)) (zY (zAi (i:=3) zDc.nd (zAI GE hr FE (zD (pv 3) (zD
   (zAI GL hr FL (zD (pv 1) (zD (zAI GO hr FO (zD (pv 0) (zD (zu zAK (pv 1) zf) zL))) zL))) zL))))) zAN) (fun D σ H1 z=>by
   obtain⟨fl,l,M,v,N0,ess,rfl,hN0,I,z⟩:=z;obtain⟨ta1,tys1,hwa1,_,_,_⟩:=id I.wb;refine⟨_,rfl,rfl,_,rfl,?_⟩;refine zC1 (fun _=>?_) (fun _=>z l ess H1 (I.sm (Sm.refl _ _) (zAF.mono I.tp (by omega)) I.lb I.ok) (Sm.refl _ _));refine⟨_,rfl,_,rfl,_,rfl,_,rfl,wa,_,_,_,rfl,rfl,SqT.of hwa1,rfl,t,N0,n,rfl,I.tp,by omega,by omega,by omega,fun ol os H2 hol O T2 s2=>?_⟩;have I2:=I.sm s2 T2 (I.lb.sm I.tp s2) I.ok;refine⟨wa,ol,n,ts,os,rfl,I2.wb,hol,O,fun l2 fss rk H3 s3 LA RK LO bd=>?_⟩;refine⟨_,_,l,l2,n,2376,ts,ess,fss,rfl,by omega,I2.lb.sm I2.tp (Sm.of s3),LA,I.ok.ln,LO.1,I.ok.lm,LO.lm G bd,fun l' gss H4 s4 LA4 hl4 LM4=>?_⟩;exact z l' gss H4 (I2.sm (Sm.of (s3.trans s4)) (I2.tp.keep (s3.trans s4)) LA4 (zN4 hl4 I.ok (LO.lx G RK bd) LM4)) (s2.trans (Sm.of (s3.trans s4)))))
  (zR (zFz (u':=SomU t wa n ts (LX ts n 2376) (LX ts n 2376) 1200) (zA8 (zAA zEA (pv 4) zf (zAB _)) (zY (zAi (i:=3) zDc.nd (zAI GS hr FS (zD (pv 0) (zD (pv 1) (zD (pv 2) (zD (pv 3) zL))))))) zAN) (fun D σ H1 z=>by obtain⟨fl,l,M,v,N0,ess,rfl,hN0,I,z⟩:=z;refine⟨_,rfl,_,_,rfl,rfl,_,rfl,?_⟩;refine zC1 (fun _=>?_) (fun _=>z l ess H1 (I.sm (Sm.refl _ _) (zAF.mono I.tp (by omega)) I.lb I.ok) (Sm.refl _ _));obtain⟨p,hp⟩:=id I.tp;refine⟨_,rfl,_,rfl,_,rfl,_,rfl,t,p,wa,fl,l,N0,n,2376,ts,M,ess,rfl,hp,by omega,I.wb,I.fr,I.lb,I.ok.ln,I.ok.lm,fun l' fss H2 LA hl LM' T2 s2=>?_⟩;exact z l' fss H2 (I.sm s2 ⟨p,T2⟩ LA (zLQ hl I.ok LM')) s2))
  (zR (zFz (u':=SomU t wa n ts (LX ts n 2376) (LY ts n) 10000) (zA8 (zAA zEA (pv 4) zf (zAB _)) (zY (zAi (i:=3) zDc.nd (zAI GG hr FG (zD (pv 0) (zD (pv 1) (zD (pv 2) (zD (pv 3) zL))))))) zAN) (fun D σ H1 z=>by obtain⟨fl,l,M,v,N0,ess,rfl,hN0,I,z⟩:=z;refine⟨_,rfl,_,_,rfl,rfl,_,rfl,?_⟩;refine zC1 (fun _=>?_) (fun _=>z l ess H1 (I.sm (Sm.refl _ _) (zAF.mono I.tp (by omega)) I.lb ⟨I.ok.ln,(I.ok.ke G).mono (by omega),I.ok.let G⟩) (Sm.refl _ _));obtain⟨p,hp⟩:=id I.tp;refine⟨_,rfl,_,rfl,_,rfl,_,rfl,t,p,wa,fl,l,N0,n,ts,M,ess,rfl,hp,by omega,I.wb,h31,I.fr,I.lb,I.ok,fun l' fss H2 LA hl LM' lt T2 s2=>?_⟩;exact z l' fss H2 (I.sm s2 ⟨p,T2⟩ LA ⟨hl,LM',lt⟩) s2))
  (zY (zAH (pv 3))))))))),?_⟩
 refine⟨_,rfl,wa,n,ts,rfl,W,fun fl rs M H1 s1 hfl LR RW=>?_⟩;have FR:zCN H1 fl n ts M:=⟨rs,hfl,LR,RW⟩;have W1:=W.keep s1;have T1:=T.keep s1;refine⟨_,rfl,_,rfl,_,rfl,wa,_,_,_,rfl,rfl,SqT.of (s1 _ _ hwa),rfl,t,N,n,rfl,T1,by omega,by omega,by omega,fun ol os H2 hol O T2 s2=>?_⟩;obtain⟨p1,hp1⟩:=id T1;have W2:=W1.smt hp1 s2;have FR2:=FR.sm T1 s2;refine⟨wa,ol,n,ts,os,rfl,W2,hol,O,fun l ess rk H3 s3 LA RK LO bd=>?_⟩;refine⟨_,rfl,t,N+24,6,rfl,T2.keep s3,by omega,by decide,by decide,fun v H4 v0 v1 T4 he4=>?_⟩;obtain⟨p2,hp2⟩:=id T2;have s24:=(Sm.of s3).trans (zC3 he4);have I4:SomI t wa fl l n ts M (N+24+1) (LX ts n 2376) ess H4:=⟨T4,W2.smt hp2 s24,FR2.sm T2 s24,(LA.sm (T2.keep s3) (zC3 he4)),LO.lx G RK bd⟩;have s04:=((Sm.of s1).trans s2).trans s24;refine⟨fl,l,M,v,_,ess,rfl,by omega,I4,fun l5 ess5 H5 I5 s5=>?_⟩;refine⟨fl,l5,M,v,_,ess5,rfl,by omega,I5,fun l6 ess6 H6 I6 s6=>?_⟩;refine⟨fl,l6,M,v,_,ess6,rfl,by omega,I6,fun l7 ess7 H7 I7 s7=>?_⟩;refine⟨fl,l7,M,v,_,ess7,rfl,by omega,I7,fun l8 ess8 H8 I8 s8=>?_⟩;exact⟨_,rfl,k l8 ess8 H8 I8.lb I8.ok.ln I8.ok.lm I8.ok.lt (zAF.mono I8.tp (by omega)) ((((s04.trans s5).trans s6).trans s7).trans s8)⟩
theorem zET (xs:List V)(m:Nat):zDw xs none (some (m:Int))=xs.take m:=by
 unfold zDw;rw[HT.sIx_none,HT.sIx_nat,List.drop_zero,Nat.sub_zero];by_cases h:m<=xs.length
 . rw[Nat.min_eq_left h]
 . rw[Nat.min_eq_right (by omega),zh (zK _),zh (by omega)]
theorem zEV (xs:List V)(m:Nat):zDw xs (some (m:Int)) none=xs.drop m:=by
 unfold zDw;rw[HT.sIx_none,HT.sIx_nat];by_cases h:m<=xs.length
 . rw[Nat.min_eq_left h,zh (by rw[zBN];exact zK _)]
 . rw[Nat.min_eq_right (by omega),zBG,List.take_zero,List.drop_of_length_le (by omega)]
theorem zBO.take (h:zBO H as es)(m:Nat):zBO H (as.take m) (es.take m):=by
 refine⟨by rw[zr,zr,h.1],fun i b hb=>?_⟩;rw[List.getElem?_take] at hb ⊢;by_cases c:i<m
 . rw[if_pos c] at hb ⊢;exact h.2 i b hb
 . rw[if_neg c] at hb;cases hb
theorem zBO.drop (h:zBO H as es)(m:Nat):zBO H (as.drop m) (es.drop m):=by refine⟨by rw[zBN,zBN,h.1],fun i b hb=>?_⟩;rw[List.getElem?_drop] at hb ⊢;exact h.2 _ b hb
theorem zBO.one {a:Addr}(h:H a=some (.tup (eV e))):zBO H [a] [e]:=⟨rfl,fun i b hb=>by
 cases i with
 | zero=>cases hb;exact⟨e,rfl,h⟩
 | succ i=>simp at hb⟩
theorem zDq {α:Type}{l:List α}{x:α}(h:i<l.length):l.take i++[x]++l.drop (i+1)=l.set i x:=by rw[List.set_eq_take_append_cons_drop,if_pos h,List.append_assoc];rfl
theorem zBR.cut (L:zBR H p es):∃as:List Addr,H p=some (.tup (as.map V.ref))/\zBO H as es/\as.length=es.length:=by obtain⟨as,h1,h2,_⟩:=L;exact⟨as,h1,h2,h2.1⟩
theorem zFL.set {bs:List Addr}(h:zFL H bs ess)(L:zBR H b es)(i:Nat):zFL H (bs.set i b) (ess.set i es):=by
 refine⟨by rw[zAL,zAL,h.1],fun j c hc=>?_⟩;rw[List.getElem?_set] at hc ⊢;by_cases q:i=j
 . subst q;rw[if_pos rfl] at hc ⊢;by_cases l:i<bs.length
   . rw[if_pos l] at hc;cases hc;rw[if_pos (by rw[<-h.1];exact l)];exact⟨es,rfl,L⟩
   . rw[if_neg l] at hc;cases hc
 . rw[if_neg q] at hc ⊢;exact h.2 j c hc
theorem zFL.labs {bs:List Addr}(h:zFL H bs ess)(e:H l=some (.tup (bs.map V.ref))):zA4 H l ess:=⟨bs,e,h.1,h.2⟩
theorem putEn {c:Addr}(e:En)(EA:zBO H as es)(hm:m<as.length)(h:H c=some (.tup (eV e))):zBO H (as.set m c) (es.set m e):=by have:=((EA.take m).app (zBO.one h)).app (EA.drop (m+1));rwa [zDq hm,zDq (by rw[<-EA.1];exact hm)] at this
theorem zJe {σ:St}{pl:Addr}{at':Nat}{t4:TA}(e1:En)(h5:σ[5]?=some (some (.ref pl)))(h6:σ[6]?=some (some (.int at')))(h4:∀H Q,Q (eV e1) H->t4 σ H Q)(L:zBR H pl es)(hl:es.length<=24)(a1:at'<es.length)(k:∀p5 H9,zBR H9 p5 (es.set at' e1)->zAo H H9->Q (.ref p5) H9):
 tOp zNM (tOp zNM (tSl rSlV (zKr 5) zGa (zMz (zKr 6))) (tTup (zHz (tTup t4) tNil))) (tSl rSlV (zKr 5) (zMz (tOp (rI0 fun i j=>.int (i+j)) (zKr 6) (tC (.int 1)))) zGa) σ H Q:=by
 obtain⟨as,h1,EA,hal⟩:=L.cut;refine⟨_,h5,_,h6,(at':Int),rfl,pl,_,rfl,h1,fun p1 H4 s4 h4'=>?_⟩;rw[zET,<-List.map_take] at h4';refine h4 _ _ ⟨by show 4<=sizeLine;decide,fun c' hc'=>?_⟩;have s5:=zH (o:=.tup (eV e1)) hc';have q5:(upd H4 c' (.tup (eV e1))) c'=some (.tup (eV e1)):=zI;refine⟨by show 1<=sizeLine;decide,fun p2 hp2=>?_⟩;have s6:=zH (o:=.tup [.ref c']) hp2;refine⟨p1,p2,_,_,rfl,rfl,s6 _ _ (s5 _ _ h4'),zI,by rw[zB,zr];exact zA9 (zAS (by simp;omega)),fun p3 H7 s7 h7=>?_⟩;have s57:=s6.trans s7;have s47:=s4.trans (s5.trans s57);refine⟨_,h5,_,h6,_,_,rfl,rfl,_,rfl,pl,_,rfl,s47 _ _ h1,fun p4 H8 s8 h8=>?_⟩;rw[show ((at':Int)+1)=((at'+1:Nat):Int) by omega,zEV,<-List.map_drop] at h8;refine⟨p3,p4,_,_,rfl,rfl,s8 _ _ h7,h8,by simp only[zJ,zB,zr,zBN,zt,List.length_nil];exact zA9 (zAS (by omega)),fun p5 H9 s9 h9=>?_⟩;have s49:=s47.trans (s8.trans s9);have e9:(as.take at').map V.ref++[V.ref c']++(as.drop (at'+1)).map V.ref=(as.set at' c').map V.ref:=by rw[<-zDq (x:=c') (show at'<as.length by omega),zQ,zQ];rfl
 rw[e9] at h9;exact k p5 H9 ⟨_,h9,putEn e1 (EA.keep fun b ys z=>s49 _ _ z) (by omega) ((s57.trans (s8.trans s9)) _ _ q5),by rw[zAL];omega⟩ s49
inductive zG4 (vs:List V)(H:Hp)(Q:VK):Prop
 | mk:∀(t wa la:Addr)(N:Nat)(n:Int)(ts:List T3)(ess:List (List En)),(vs=[.ref t,.ref wa,.ref la])->(zAF H t N)->(N<800000)->(zB3 H wa n ts)->(zA4 H la ess)->(LbK n ess)->(∀(l:Addr)(fss:List (List En))(H':Hp),zA4 H' l fss->fss.length=n.toNat->zAF H' t (N+8)->Sm t H H'->Q (.ref l) H')->zG4 vs H Q
noncomputable def spTurn:Sp:=fun vs H Q _=>zG4 vs H Q
noncomputable def TurnU (t wa la:Addr)(n:Int)(ess:List (List En)):TS:=fun (D':zGZ) σ H3=>∃(pl:Addr)(i one wy:Int)(at':Nat)(e:En)(es:List En)(N0:Nat),σ=[some (.ref t),some (.ref wa),some (.ref la),some (.int n),some (.int i),some (.ref pl),some (.int at'),some (.int e.h),some (.int e.l),some (oV e.u),some (oV e.d),some (.int one),some (.int wy),none,none,none]/\zAF H3 t N0/\N0<900000/\zA4 H3 la ess/\zBR H3 pl es/\zDn n es/\es[at']?=some e/\0<=one/\one<n/\0<=wy /\
            ∀(pl':Addr)(es':List En)(v8 v13:Option V)(H':Hp),zBR H' pl' es'->zAF H' t (N0+3)->Sm t H3 H'->D'.nx [some (.ref t),some (.ref wa),some (.ref la),some (.int n),some (.int i),some (.ref pl'),some (.int at'),some (.int e.h),v8,some (oV e.u),some (oV e.d),some (.int one),some (.int wy),v13,none,none] H'
theorem zN3 {out:List Nat}(EA:zBO H as es)(hb:∀i∈out,i<as.length):zBO H (out.map fun i=>as.getD i 0) (out.map fun i=>es.getD i ⟨0,0,none,none⟩):=by
 have hl:=EA.1;refine⟨by rw[zB,zB],fun j b hj=>?_⟩;rw[zM] at hj ⊢;cases z:out[j]? with
 | none=>rw[z] at hj;cases hj
 | some i=>
  rw[z] at hj;cases hj;have hi:=hb i (zV z);obtain⟨e,h1,h2⟩:=EA.2 i as[i] (zA hi);refine⟨e,?_,?_⟩
  . show some (es.getD i ⟨0,0,none,none⟩)=some e;rw[zE,h1];rfl
  . show H (as.getD i 0)=_;rw[zE,zA hi];exact h2
theorem zKN {c:Addr}(EA:zBO H as es)(hb:Hub es)(hc:H c=some (.tup (eV e)))(no:e.h∉es.map (·.h)):zGx H (as++[c]) ((es++[e]).map (·.h)):=by
 have EB:=EA.app (zBO.one hc);refine⟨by rw[zB,EB.1],fun i a ha=>?_,?_⟩
 . obtain⟨x,h1,h2⟩:=EB.2 i a ha;exact⟨x.h,_,by rw[zM,h1];rfl,h2⟩
 . rw[zQ];refine zBq.mpr ⟨?_,by simp,fun a ha b hb z=>?_⟩
   . rw[List.Nodup,zAt];exact hb.imp fun z=>by omega
   . have:b=e.h:=by simpa using hb
     exact no (by rw[<-this,<-z];exact ha)
theorem zBl:zAE ["_law_tape_here","_law_web_here","_law_labels_here","_law_n","_law_place","_law_label","_law_at","_law_hub","_law_long","_law_up","_law_down","_law_one","_law_way_here","_law_more","_law_found","_law_some_here"] qAO (defScope zK4):=fS0
theorem zNa (F:Fun K "_law_turned" "_law_turned" zK4 f fd') (FD:FuB K mg "_law_draw" zDI fD fdD qAB) (GD:zAb P w K mg base CX0 6 fD fdD qAB zFe)
 (mLen:mg "len"=none) (mTuple:mg "tuple"=none) (mSorted:mg "sorted"=none) (mMax:mg "max"=none) (mList:mg "list"=none):zAb P w K mg base CX0 7 f fd' qAO spTurn:=by
 refine F.okD zBl fun _ A _ _ H vs Q E hr h=>?_;obtain⟨t,wa,la,N,n,ts,ess,rfl,T,hN,W,LA,LK,k⟩:=h;obtain⟨ta,tys,hwa,_,_,G⟩:=id W;have hln:=LK.ln;have n1:=G.n1;have n24:=G.n24;refine⟨_,zR (zAi (i:=3) zBl.nd (zu zAK (pv 1) zf))
  (zR (zAi (i:=4) zBl.nd (zAI GD hr FD (zD (pv 0) (zD (pv 3) zL))))
  (zR (zAi (i:=5) zBl.nd (zu zAK (pv 2) (pv 4)))
  (zR (zAi (i:=6) zBl.nd (zAI GD hr FD (zD (pv 0) (zD (zAJ zAm mLen (zD (pv 5) zL)) zL))))
  (zR (zC5 (zu zAK (pv 5) (pv 6)) (zCS rfl (zAD (zv (i:=7) zBl.nd rfl (Or.inl rfl)) (zAD (zv (i:=8) zBl.nd rfl (Or.inl rfl)) (zAD (zv (i:=9) zBl.nd rfl (Or.inl rfl)) (zAD (zv (i:=10) zBl.nd rfl (Or.inl rfl)) zBh))))))
  (zR (zAi (i:=11) zBl.nd (zAI GD hr FD (zD (pv 0) (zD (pv 3) zL))))
  (zR (zAi (i:=12) zBl.nd (zAI GD hr FD (zD (pv 0) (zD zf zL))))
  (zR (zFz (u':=TurnU t wa la n ess)
   (zA8 (zAA zCK (pv 12) zf (zAB _)) (zY (zAi (i:=5) zBl.nd (zu zAK (pv 2) (pv 11))))
   (zY (zA8 (zAA zCK (pv 12) zf (zAB _)) (zY (zAi (i:=5) zBl.nd (zAw zCT (zBY zCX (pv 5) zB8 (zBn (pv 6))) (zBY zCX (pv 5) (zBn (zAw zBs (pv 6) zf)) zB8))))
   (zY (zA8 (PW.pt (zCn (zAA zF4 (pv 12) zf (zAB _)) (zCR (zAA zF2 (pv 11) (zBi (own:=["_law_entry_here"]) (cn:=[]) (ci:=[]) rfl (csc rfl rfl) trivial rfl (zB9 (pv 5)) (fun _ _ _ _=>zCJ) (fun _ _ _ _=>zBP) (fun _ _ _ _=>zu zCh (pv 0) zf)) (by with_unfolding_all rfl)))))
    (zR (zAi (i:=13) zBl.nd (zBV (zD (zAv (zD (pv 11) (zD (zAw zBs zf (zAI GD hr FD (zD (pv 0) (zD zf zL)))) (zD (zAI GD hr FD (zD (pv 0) (zD (pv 3) zL))) (zD (zAI GD hr FD (zD (pv 0) (zD (pv 3) zL))) zL))))) (zD (zAv (zD (pv 11) (zD zf (zD zA0 (zD zA0 zL))))) zL))))
    (zY (zAi (i:=5) zBl.nd (zAr zAT mTuple (zD (zAJ zFI mSorted (zD (zAw zCT (pv 5) (zAv (zD (zu zAC (pv 13) (zAw zC6 (pv 12) zf)) zL))) zL)) zL)))))
   (zY (zFz (u':=TurnU t wa la n ess) (zA8 (zAA zF4 (pv 12) zf (zAB _))
    (zR (zAi (i:=8) zBl.nd (zAJ (zKe rfl) mMax (zD zf (zD (zAw zBs (pv 8) (zu zAC (zBV (zD zf (zD (zJj zFS zf) (zD zf (zD (zJj zFS zf) zL))))) (zAI GD hr FD (zD (pv 0) (zD zf zL))))) zL))))
    (zY (zAi (i:=5) zBl.nd (zAw zCT (zAw zCT (zBY zCX (pv 5) zB8 (zBn (pv 6))) (zAv (zD (zAv (zD (pv 7) (zD (pv 8) (zD (pv 9) (zD (pv 10) zL))))) zL))) (zBY zCX (pv 5) (zBn (zAw zBs (pv 6) zf)) zB8)))))
   (zY (zA8 (PW.pt (zCn (zAA zF4 (pv 12) zf (zAB _)) (zCR (zAA zEA (pv 8) zf (zAB _))))) (zY (zAi (i:=5) zBl.nd (zAw zCT (zAw zCT (zBY zCX (pv 5) zB8 (zBn (pv 6))) (zAv (zD (zAv (zD (pv 7) (zD (pv 8) (zD (pv 11) (zD (pv 10) zL))))) zL))) (zBY zCX (pv 5) (zBn (zAw zBs (pv 6) zf)) zB8))))
   (zY (zA8 (zAA zEA (pv 8) zf (zAB _)) (zY (zAi (i:=5) zBl.nd (zAw zCT (zAw zCT (zBY zCX (pv 5) zB8 (zBn (pv 6))) (zAv (zD (zAv (zD (pv 7) (zD (pv 8) (zD (pv 9) (zD (pv 11) zL))))) zL))) (zBY zCX (pv 5) (zBn (zAw zBs (pv 6) zf)) zB8)))) zAN))))) (fun D' σ H3 z=>?tail))))))))
   (fun D' σ H3 z=>?bend))
  (zR (zAi (i:=14) zBl.nd (zAw zCT (zAw zCT (zBY zCX (pv 2) zB8 (zBn (pv 4))) (zAv (zD (pv 5) zL))) (zBY zCX (pv 2) (zBn (zAw zBs (pv 4) zf)) zB8)))
  (zR (zA8 (PW.pt (zCn (zAA zCK (pv 12) zf (zAB _)) (zCR (zAA zF4 (pv 4) (pv 11) (zAB _)))))
   (zR (zAi (i:=15) zBl.nd (zAr zGR mList (zD (pv 2) zL)))
   (zR (zC5 (zu zAK (pv 2) (pv 11)) (zDe (pv 15) (pv 4) zCW))
   (zR (zC5 (zu zAK (pv 2) (pv 4)) (zDe (pv 15) (pv 11) zCW))
   (zY (zAi (i:=14) zBl.nd (zAr zAT mTuple (zD (pv 15) zL))))))) zAN)
  (zY (zAH (pv 14)))))))))))),?_⟩
 case bend=>
  obtain⟨pl,i,one,wy,at',e,es,N0,rfl,T3,hN0,L3,Le,Ke,he,o0,o1,w0,z⟩:=z;obtain⟨as,h1,EA,hal⟩:=Le.cut;have hel:=Ke.len;have a1:=(zF.mp he).1;refine⟨_,rfl,rfl,_,rfl,?_⟩;rw[zDl];by_cases c0:wy=0
  . refine ifT (zS c0) ?_;obtain⟨ls,hl,hll,hA⟩:=id L3;obtain⟨q,hq⟩:∃q,ls[one.toNat]?=some q:=⟨_,zA (by omega)⟩;obtain⟨fs,hfs,Lf⟩:=hA _ _ hq;exact⟨_,rfl,_,rfl,la,_,_,.ref q,rfl,rfl,SqT.of hl,zBQ o0 (by rw[zM,hq];rfl),z q fs _ _ H3 Lf (T3.mono (by omega)) (Sm.refl _ _)⟩
  refine ifF (zc c0) ?_;refine⟨_,rfl,rfl,_,rfl,?_⟩;rw[zDl];by_cases c1:wy=1
  . refine ifT (zS c1) ?_;refine⟨_,rfl,_,rfl,(at':Int),rfl,pl,_,rfl,h1,fun p1 H4 s4 h4=>?_⟩;rw[zET,<-List.map_take] at h4;refine⟨_,rfl,_,rfl,_,_,rfl,rfl,_,rfl,pl,_,rfl,s4 _ _ h1,fun p4 H8 s8 h8=>?_⟩;rw[show ((at':Int)+1)=((at'+1:Nat):Int) by omega,zEV,<-List.map_drop] at h8;refine⟨p1,p4,_,_,rfl,rfl,s8 _ _ h4,h8,by simp only[zB,zr,zBN];exact zA9 (zAS (by omega)),fun p5 H9 s9 h9=>?_⟩;rw[<-zQ] at h9;have s39:=s4.trans (s8.trans s9);have EA9:zBO H9 (as.take at'++as.drop (at'+1)) (es.take at'++es.drop (at'+1)):=((EA.take at').app (EA.drop (at'+1))).keep fun b ys z=>s39 _ _ z;refine z p5 _ _ _ H9 ⟨_,h9,EA9,?_⟩ ((T3.keep s39).mono (by omega)) (Sm.of s39);rw[zJ,zr,zBN];omega
  refine ifF (zc c1) ?_;refine⟨_,rfl,_,_,rfl,rfl,_,rfl,?_⟩;refine zC1 (fun c2=>?_) (fun _=>zCr ⟨pl,i,one,wy,at',e,es,N0,rfl,T3,hN0,L3,Le,Ke,he,o0,o1,w0,z⟩);have c2':=of_decide_eq_true c2;refine⟨_,rfl,_,rfl,pl,rfl,⟨_,SqT.of h1⟩,[],rfl,fun D8 hD8=>?_⟩;refine zBk (a:=pl) (xs:=as.map V.ref) (fun m ys H6=>ys=((es.take m).map (·.h)).map V.int/\m<=es.length/\zAo H3 H6/\H6 D8=some (.lst ys)) ⟨rfl,zk _,zH hD8,zI⟩ (fun m ys H6 w=>?_) (fun m ys H6 w=>?_) (fun m x ys H6 hx w=>?_) (fun ys H6 w=>?_)
  . obtain⟨_,_,s6,_⟩:=w;exact SqT.of (s6 _ _ h1)
  . obtain⟨rfl,_⟩:=w;rw[zB,zB,zr];exact zAS (by omega)
  . obtain⟨rfl,hm,s6,h6⟩:=w;obtain⟨b,g,rfl,hgm,hb⟩:=EA.at hx;have hm':=(zF.mp hgm).1;refine⟨⟨rfl,rfl⟩,?_⟩;refine zFN ?_;refine⟨_,rfl,b,_,_,.int g.h,rfl,rfl,SqT.of (s6 _ _ hb),rfl,h6,?_,by omega,zAV s6 hD8,zI⟩;rw[zy,hgm,zQ,zQ];rfl
  obtain⟨rfl,_,s6,h6⟩:=w;rw[zB,hal,zh (zK _)] at h6;have T6:=T3.keep s6;refine⟨D8,_,rfl,.inl (SqL.of h6),rfl,zGH _,_,rfl,?_⟩;show (if (!inV (V.int one) ((es.map (·.h)).map V.int))=true then _ else _)
  rw[zHf];by_cases cg:one∈es.map (·.h)
  . rw[zS cg];exact zCr ⟨pl,i,one,wy,at',e,es,N0,rfl,T6,hN0,L3.keep fun b ys z=>s6 _ _ z,Le.same s6,Ke,he,o0,o1,w0,fun pl' es' v8 v13 H' a b c=>z pl' es' v8 v13 H' a b ((Sm.of s6).trans c)⟩
  rw[zc cg];refine zFC ?_;refine⟨_,rfl,_,rfl,t,N0,9,rfl,T6,by omega,by decide,by decide,fun d1 H7 d10 d11 T7 e7=>?_⟩;refine⟨_,_,rfl,rfl,_,rfl,_,rfl,t,N0+1,n,rfl,T7,by omega,by omega,by omega,fun d2 H8 d20 d21 T8 e8=>?_⟩;refine⟨_,rfl,_,rfl,t,N0+1+1,n,rfl,T8,by omega,by omega,by omega,fun d3 H9 d30 d31 T9 e9'=>?_⟩;have s39:Sm t H3 H9:=(Sm.of s6).trans ((zC3 e7).trans ((zC3 e8).trans (zC3 e9')));have k39:∀b ys,H3 b=some (.tup ys)->H9 b=some (.tup ys):=fun b ys q=>s39 _ _ (zAF.neT T3 q) q;refine⟨by show 4<=sizeLine;decide,fun x1 hx1=>?_⟩;have sx1:=zH (o:=.tup (eV ⟨one,1+d1,some d2,some d3⟩)) hx1;refine⟨_,rfl,by show 4<=sizeLine;decide,fun x2 hx2=>?_⟩;have sx2:zAo (upd H9 x1 (.tup (eV ⟨one,1+d1,some d2,some d3⟩))) _:=zH (o:=.tup (eV ⟨one,0,none,none⟩)) hx2;have q1:=sx2 _ _ (zI (H:=H9) (a:=x1) (o:=.tup (eV ⟨one,1+d1,some d2,some d3⟩)));have q2:(upd (upd H9 x1 (.tup (eV ⟨one,1+d1,some d2,some d3⟩))) x2 (.tup (eV ⟨one,0,none,none⟩))) x2=some (.tup (eV ⟨one,0,none,none⟩)):=zI;refine⟨by show 2<=sizeLine;decide,fun ml hml=>?_⟩;have sml:zAo (upd (upd H9 x1 (.tup (eV ⟨one,1+d1,some d2,some d3⟩))) x2 (.tup (eV ⟨one,0,none,none⟩))) _:=zH (o:=.lst [.ref x1,.ref x2]) hml;obtain⟨cX,eX,hat,hcX,heX⟩:∃(cX:Addr)(eX:En),atI [V.ref x1,V.ref x2] (wy-2)=some (V.ref cX)/\(upd (upd H9 x1 (.tup (eV ⟨one,1+d1,some d2,some d3⟩))) x2 (.tup (eV ⟨one,0,none,none⟩))) cX=some (.tup (eV eX))/\eX.h=one:=by
   rcases (show wy=2\/wy=3 by omega) with c | c
   . exact⟨x1,_,by rw[c];rfl,q1,rfl⟩
   . exact⟨x2,_,by rw[c];rfl,q2,rfl⟩
  have s9m:=(sx1.trans sx2).trans sml;have hcm:=sml _ _ hcX;have hmm:(upd (upd (upd H9 x1 (.tup (eV ⟨one,1+d1,some d2,some d3⟩))) x2 (.tup (eV ⟨one,0,none,none⟩))) ml (.lst [.ref x1,.ref x2])) ml=some (.lst [.ref x1,.ref x2]):=zI;refine⟨_,rfl,_,rfl,_,rfl,_,_,rfl,rfl,ml,_,_,.ref cX,rfl,rfl,SqL.of hmm,hat,by show 1<=sizeLine;decide,fun p2 hp2=>?_⟩;have sp2:=s9m.trans (zH (o:=.tup [.ref cX]) hp2);have hcp:=zH (o:=.tup [.ref cX]) hp2 _ _ hcm;refine⟨pl,p2,_,_,rfl,rfl,sp2 _ _ (k39 _ _ h1),zI,by rw[zB];exact zA9 (zAS (by simp;omega)),fun p3 Hb sb hb=>?_⟩;have s9b:=sp2.trans sb;have hcb:=sb _ _ hcp;have EAb:zBO Hb as es:=EA.keep fun b ys q=>s9b _ _ (k39 _ _ q);have ek:as.map V.ref++[V.ref cX]=(as++[cX]).map V.ref:=by rw[zQ];rfl
  rw[ek] at hb;refine⟨p3,as++[cX],_,rfl,SqT.of hb,zKN EAb Ke.hub hcb (by rw[heX];exact cg),by rw[zJ];simp;omega,fun l out hl pm=>?_⟩;have sl:=zH (o:=.lst ((out.map fun i=>(as++[cX]).getD i 0).map V.ref)) hl;refine⟨l,_,rfl,.inl ⟨SqL.of zI,fun q hq=>?_⟩⟩;have sq:=sl.trans (zH (o:=.tup ((out.map fun i=>(as++[cX]).getD i 0).map V.ref)) hq);have s9q:=s9b.trans sq;have EB:=(EAb.app (zBO.one hcb)).keep fun b ys z=>sq _ _ z;refine z q _ _ _ _ ⟨_,zI,zN3 EB fun i hi=>zCC.mp (pm.mem_iff.mp hi),?_⟩ ((T9.keep s9q).mono (by omega)) (s39.trans (Sm.of s9q));rw[zB,pm.length_eq,zAP,zJ];simp;omega
 case tail=>
  obtain⟨pl,i,one,wy,at',e,es,N0,rfl,T3,hN0,L3,Le,Ke,he,o0,o1,w0,z⟩:=z;have hel:=Ke.len;have a1:=(zF.mp he).1;refine⟨_,rfl,_,_,rfl,rfl,_,rfl,?_⟩;refine zC1 (fun c2=>?_) (fun c2=>?_)
  . refine⟨_,rfl,1,rfl,2,rfl,by show 4<=sizeLine;decide,fun ml hml=>?_⟩;have sm0:=zH (o:=.lst (([1,-1,2,-2]:List Int).map V.int)) hml;have hmm:(upd H3 ml (.lst (([1,-1,2,-2]:List Int).map V.int))) ml=some (.lst (([1,-1,2,-2]:List Int).map V.int)):=zI;refine⟨_,rfl,t,N0,4,rfl,T3.keep sm0,by omega,by decide,by decide,fun r H5 r0 r1 T5 e5=>?_⟩;obtain⟨m,_,hm⟩:=zDU (L:=[1,-1,2,-2]) r0 r1;have nml:ml≠t:=by obtain⟨tp,hp⟩:=id (T3.keep sm0);exact hp.nI hmm
    have s35:Sm t H3 H5:=(Sm.of sm0).trans (zC3 e5);have k35:∀b ys,H3 b=some (.tup ys)->H5 b=some (.tup ys):=fun b ys q=>s35 _ _ (zAF.neT T3 q) q;refine⟨ml,_,_,.int m,rfl,rfl,SqL.of (by rw[e5 _ nml];exact hmm),hm,_,_,rfl,rfl,_,_,rfl,?_⟩;generalize (if e.l+m > 0 then e.l+m else 0)=L8
    exact zJe ⟨e.h,L8,e.u,e.d⟩ rfl rfl (fun _ _ q=>⟨_,rfl,_,rfl,_,rfl,_,rfl,q⟩) (Le.keep k35) (by omega) a1 fun p5 H9 L9 s49=>z p5 _ _ _ H9 L9 ((T5.keep s49).mono (by omega)) (s35.trans (Sm.of s49))
  refine⟨_,rfl,_,_,rfl,rfl,_,rfl,?_⟩;refine zC1 (fun c3=>?_) (fun c3=>zCr ?_)
  . refine⟨_,rfl,_,_,rfl,rfl,_,rfl,?_⟩;refine zC1 (fun c4=>?_) (fun c4=>?_)
    . exact zJe ⟨e.h,e.l,some one,e.d⟩ rfl rfl (fun _ _ q=>⟨_,rfl,_,rfl,_,rfl,_,rfl,q⟩) Le (by omega) a1 fun p5 H9 L9 s49=>z p5 _ _ _ H9 L9 ((T3.keep s49).mono (by omega)) (Sm.of s49)
    . refine⟨_,rfl,_,_,rfl,rfl,_,rfl,?_⟩;exact zC1 (fun c5=>absurd c5 c4) fun _=>z pl es _ _ H3 Le (T3.mono (by omega)) (Sm.refl _ _)
  . refine⟨_,rfl,_,_,rfl,rfl,_,rfl,?_⟩;refine zC1 (fun c4=>?_) (fun _=>z pl es _ _ H3 Le (T3.mono (by omega)) (Sm.refl _ _));exact zJe ⟨e.h,e.l,e.u,some one⟩ rfl rfl (fun _ _ q=>⟨_,rfl,_,rfl,_,rfl,_,rfl,q⟩) Le (by omega) a1 fun p5 H9 L9 s49=>z p5 _ _ _ H9 L9 ((T3.keep s49).mono (by omega)) (Sm.of s49)
 refine⟨_,rfl,wa,_,_,_,rfl,rfl,SqT.of hwa,rfl,?_⟩;refine⟨_,rfl,_,rfl,t,N,n,rfl,T,by omega,by omega,by omega,fun i0' H1 i0 i1 T1 e1=>?_⟩;obtain⟨ip,rfl⟩:∃m:Nat,i0'=m:=⟨i0'.toNat,by omega⟩;have k1:∀b ys,H b=some (.tup ys)->H1 b=some (.tup ys):=fun b ys q=>by rw[e1 _ (zAF.neT T q)];exact q
 obtain⟨ls,hl,hll,hA⟩:=id (LA.keep k1);obtain⟨pl,hpl⟩:∃q,ls[ip]?=some q:=⟨_,zA (by omega)⟩;obtain⟨es,hes,Le⟩:=hA _ _ hpl;have Ke:=LK.kd _ (zV hes);have hel:=Ke.len;obtain⟨as,hp,EA,hal⟩:=Le.cut;have pos:0<es.length:=by
  obtain⟨o,ho⟩:=Ke.zero;have:o∈es.filter (fun e=>decide (e.l=0)):=by rw[ho];exact zZ
  exact List.length_pos_of_mem (zAQ.mp this).1
 refine⟨_,rfl,_,rfl,la,_,_,.ref pl,rfl,rfl,SqT.of hl,zCk (by rw[zM,hpl];rfl),?_⟩;refine⟨_,rfl,_,rfl,pl,_,rfl,.inr (SqT.of hp),t,N+1,_,rfl,T1,by omega,by rw[zB];omega,by rw[zB];omega,fun a0' H2 a0 a1 T2 e2=>?_⟩;rw[zB] at a1;obtain⟨at',rfl⟩:∃m:Nat,a0'=m:=⟨a0'.toNat,by omega⟩;have k2:∀b ys,H1 b=some (.tup ys)->H2 b=some (.tup ys):=fun b ys q=>by rw[e2 _ (zAF.neT T1 q)];exact q
 obtain⟨c,hc⟩:∃c,as[at']?=some c:=⟨_,zA (by omega)⟩;obtain⟨e,he,hce⟩:=EA.2 _ _ hc;refine⟨_,rfl,_,rfl,pl,_,_,.ref c,rfl,rfl,SqT.of (k2 _ _ hp),zCk (by rw[zM,hc];rfl),c,_,rfl,SqT.of (k2 _ _ hce),rfl,_,_,rfl,_,_,rfl,_,_,rfl,_,_,rfl,rfl,?_⟩;refine⟨_,rfl,_,rfl,t,N+1+1,n,rfl,T2,by omega,by omega,by omega,fun one H3 o0 o1 T3 e3=>?_⟩;refine⟨_,rfl,t,N+1+1+1,11,rfl,T3,by omega,by decide,by decide,fun wy H4 w0 w1 T4 e4=>?_⟩;have k4:∀b ys,H1 b=some (.tup ys)->H4 b=some (.tup ys):=fun b ys q=>by
  have q2:=k2 _ _ q;have q3:H3 b=some (.tup ys):=by rw[e3 _ (zAF.neT T2 q2)];exact q2
  rw[e4 _ (zAF.neT T3 q3)];exact q3
 have s04:Sm t H H4:=(zC3 e1).trans ((zC3 e2).trans ((zC3 e3).trans (zC3 e4)));refine⟨pl,ip,one,wy,at',e,es,_,rfl,T4,by omega,(LA.keep k1).keep k4,Le.keep k4,Ke,he,o0,o1,w0,fun pl' es' v8 v13 H5 L5 T5 s5=>?_⟩;have k5:∀b ys,H1 b=some (.tup ys)->H5 b=some (.tup ys):=fun b ys q=>s5 _ _ (zAF.neT T4 (k4 _ _ q)) (k4 _ _ q);have LB5:zFL H5 ls ess:=zFL.keep ⟨hll,hA⟩ k5;have hl5:=k5 _ _ hl;refine⟨_,rfl,_,rfl,(ip:Int),rfl,la,_,rfl,hl5,fun p1 H6 s6 h6=>?_⟩;rw[zET,<-List.map_take] at h6;refine⟨_,rfl,by show 1<=sizeLine;decide,fun p2 hp2=>?_⟩;have sp:=zH (o:=.tup [.ref pl']) hp2;refine⟨p1,p2,_,_,rfl,rfl,sp _ _ h6,zI,by rw[zB,zr];exact zA9 (zAS (by simp;omega)),fun p3 H7 s7 h7=>?_⟩;have s57:=s6.trans (sp.trans s7);refine⟨_,rfl,_,rfl,_,_,rfl,rfl,_,rfl,la,_,rfl,s57 _ _ hl5,fun p4 H8 s8 h8=>?_⟩;rw[show ((ip:Int)+1)=((ip+1:Nat):Int) by omega,zEV,<-List.map_drop] at h8;refine⟨p3,p4,_,_,rfl,rfl,s8 _ _ h7,h8,by simp only[zJ,zB,zr,zBN,zt,List.length_nil];exact zA9 (zAS (by omega)),fun fo H9 s9 h9=>?_⟩;have s59:=s57.trans (s8.trans s9);have e9:(ls.take ip).map V.ref++[V.ref pl']++(ls.drop (ip+1)).map V.ref=(ls.set ip pl').map V.ref:=by rw[<-zDq (x:=pl') (show ip<ls.length by omega),zQ,zQ];rfl
 rw[e9] at h9;have LB9:zFL H9 ls ess:=LB5.keep fun b ys z=>s59 _ _ z;have T9:=T5.keep s59;have s09:=s04.trans (s5.trans (Sm.of s59));have L9:zA4 H9 fo (ess.set ip es'):=(LB9.set (L5.keep fun b ys z=>s59 _ _ z) ip).labs h9;have fin:=k fo _ H9 L9 (by rw[zAL];exact hln) (T9.mono (by omega)) s09;refine⟨_,rfl,rfl,_,rfl,?_⟩;refine zC1 (fun _=>?_) (fun _=>zCr ⟨_,rfl,fin⟩);refine⟨_,rfl,_,rfl,_,_,rfl,rfl,_,rfl,?_⟩;refine zC1 (fun _=>?_) (fun _=>⟨_,rfl,fin⟩);obtain⟨b,hb⟩:∃b,ls[one.toNat]?=some b:=⟨_,zA (by omega)⟩;obtain⟨eb,heb,Lb⟩:=LB9.2 _ _ hb;obtain⟨ea,hea,La⟩:=LB9.2 _ _ hpl;have hl9:=s59 _ _ hl5;refine⟨_,rfl,la,_,rfl,.inr (SqT.of hl9),fun L hL=>?_⟩;have sL:=zH (o:=.lst (ls.map V.ref)) hL;refine⟨_,rfl,_,rfl,la,_,_,.ref b,rfl,rfl,SqT.of (sL _ _ hl9),zBQ o0 (by rw[zM,hb];rfl),_,rfl,_,rfl,L,_,ip,ip,rfl,rfl,zI,zGC (by omega) (by rw[zB];omega),?_⟩;rw[zCd];have sL2:=zAV (o:=.lst ((ls.map V.ref).set ip (.ref b))) (zAo.refl H9) hL;refine⟨_,rfl,_,rfl,la,_,_,.ref pl,rfl,rfl,SqT.of (sL2 _ _ hl9),zCk (by rw[zM,hpl];rfl),_,rfl,_,rfl,L,_,one,one.toNat,rfl,rfl,zI,zGC o0 (by rw[zAL,zB];omega),?_⟩;have el:((ls.map V.ref).set ip (.ref b)).set one.toNat (.ref pl)=((ls.set ip b).set one.toNat pl).map V.ref:=by rw[List.map_set,List.map_set]
 rw[el,zCd];have sL3:=zAV (o:=.lst (((ls.set ip b).set one.toNat pl).map V.ref)) (zAo.refl H9) hL;refine⟨_,rfl,L,_,rfl,.inl ⟨SqL.of zI,fun l hl'=>?_⟩⟩;have s9l:=sL3.trans (zH (o:=.tup (((ls.set ip b).set one.toNat pl).map V.ref)) hl');have LB':=(LB9.set Lb ip).set La one.toNat
 exact⟨_,rfl,k l _ _ ((LB'.keep fun x ys z=>s9l _ _ z).labs zI) (by rw[zAL,zAL];exact hln) ((T9.keep s9l).mono (by omega)) (s09.trans (Sm.of s9l))⟩
noncomputable def oD:Option Int->PyData
 | none=>.none
 | some i=>.int i
theorem zK0 (H:Hp)(o:Option Int):zDC H (oV o) (oD o):=by
 cases o with
 | none=>exact .non
 | some d=>exact .int d
theorem fn_oD (h:∀d,o=some d->d.natAbs<1000000000):Fn 30 0 (oD o):=by
 cases o with
 | none=>exact zNz.mono (by decide) (by decide)
 | some d=>exact zMk (h d rfl)
theorem fn_len {M:lLO}(R:Rows ts n M)(x0:0<=x)(x1:x<n)(y0:0<=y)(y1:y<n)(L:Len ts x y o):Fn 1048576 50 (oD o):=
 (fn_oD fun d e=>by subst e;have:=zJV R x0 x1 y0 y1 L;omega).mono (by decide) (by decide)
theorem zFA {o':Option Int}(a:Len ts x y o)(b:Len ts x y o'):o=o':=by
 cases o with
 | none=>cases o' with
  | none=>rfl
  | some d=>exact absurd (show WM.IsD ts x y d from b).1 (a d)
 | some d=>cases o' with
  | none=>exact absurd (show WM.IsD ts x y d from a).1 (b d)
  | some d'=>rw[WM.IsD.uniq (show WM.IsD ts x y d from a) b]
structure RtK (H:Hp)(wa fa la:Addr)(n:Int)(ts:List T3)(M:lLO)(ess:List (List En)):Prop where
 lt:LtK H wa la n ts ess
 ok:zCY ts n ess
 fr:zCN H fa n ts M
theorem RtK.same {fa:Addr}{M:lLO}(h:RtK H wa fa la n ts M ess)(s:zAo H H'):RtK H' wa fa la n ts M ess:=⟨h.lt.same s,h.ok,h.fr.keep fun b ys e=>s _ _ e⟩
theorem RtK.two {fa:Addr}{M:lLO}(h:RtK H wa fa la n ts M ess)(x0:0<=x)(x1:x<n)(y0:0<=y)(y1:y<n):∃(as:List Addr)(a b:Addr)(e f:En),H la=some (.tup (as.map V.ref))/\(as.map V.ref)[x.toNat]?=some (.ref a)/\(as.map V.ref)[y.toNat]?=some (.ref b)/\zBR H a (ess.getD x.toNat [])/\zBR H b (ess.getD y.toNat [])/\Hub (ess.getD x.toNat [])/\Hub (ess.getD y.toNat []) /\
 (ess.getD x.toNat []).filter (fun e=>decide (e.l=0))=[e]/\(ess.getD y.toNat []).filter (fun e=>decide (e.l=0))=[f]/\e.h=x/\f.h=y:=by
 obtain⟨as,a,h1,g1,i1,l1,k1⟩:=h.lt.at x0 x1;obtain⟨as2,b,h2,g2,i2,l2,k2⟩:=h.lt.at y0 y1;rw[h1] at h2;have e12:as.map V.ref=as2.map V.ref:=by injection h2 with z;injection z
 obtain⟨e,he⟩:=k1.zero;obtain⟨f,hf⟩:=k2.zero;have oe:=h.ok.own _ e [] i1 he;have of:=h.ok.own _ f [] i2 hf;exact⟨as,a,b,e,f,h1,g1,by rw[e12];exact g2,l1,l2,k1.hub,k2.hub,he,hf,by omega,by omega⟩
theorem RtK.told {H:Hp}{wa fa la:Addr}{n:Int}{ts:List T3}{M:lLO}{ess:List (List En)}(h:RtK H wa fa la n ts M ess)(G:GW n ts){x y:Int}(x0:0<=x)(x1:x<n)(y0:0<=y)(y1:y<n){lm:Option (Int×Int)}(m:zDi (Cd (ess.getD x.toNat []) (ess.getD y.toNat [])) lm):Len ts x y (lm.map (·.1))/\∀c,lm=some c->x≠y->∃p,zIl (ess.getD x.toNat []) (ess.getD y.toNat []) x y (some c)=some p/\Nxt ts x y p:=by have hln:=h.lt.kd.ln;have a:=h.ok.told G h.lt.kd (i:=x.toNat) (j:=y.toNat) (by omega) (by omega) m;rw[show ((x.toNat:Nat):Int)=x by omega,show ((y.toNat:Nat):Int)=y by omega] at a;refine⟨a,fun c hc ne=>?_⟩;subst hc;have b:=h.ok.step G h.lt.kd (i:=x.toNat) (j:=y.toNat) (by omega) (by omega) (by omega) m;rwa [show ((x.toNat:Nat):Int)=x by omega,show ((y.toNat:Nat):Int)=y by omega] at b
structure Wkd (ts:List T3)(n x y d:Int)(ps:List Int):Prop where
 ds:WM.IsD ts x y d
 st:zGu ts ps d
 hd:ps[0]?=some x
 ls:∃pre,ps=pre++[y]
 nd:ps.Nodup
 ln:ps.length<=24
 rg:∀f∈ps,0<=f/\f<n
noncomputable def WkO (ts:List T3)(n x y:Int)(ps:List Int):Prop:=(ps=[]/\Len ts x y none)\/∃d,Wkd ts n x y d ps
theorem Wkd.one {d:Int}{ps:List Int}(h:Wkd ts n x x d ps):ps=[x]:=by
 obtain⟨pre,e⟩:=h.ls;have h0:=h.hd;have nd:=h.nd;subst e;cases pre with
 | nil=>rfl
 | cons a r=>
  have:a=x:=by simpa using h0
  subst this;exact absurd (zi r (zd.mpr rfl)) (zBI.mp nd).1
inductive zG3 (vs:List V)(H:Hp)(Q:VK):Prop
 | mk:∀(wa fa la:Addr)(n:Int)(ts:List T3)(M:lLO)(ess:List (List En))(x y:Int),(vs=[.ref la,.int x,.int y])->(RtK H wa fa la n ts M ess)->(0<=x)->(x<n)->(0<=y)->(y<n)->(∀(l:Addr)(ps:List Int)(H':Hp),zAo H H'->H' l=some (.lst (ps.map V.int))->WkO ts n x y ps->Q (.ref l) H')->zG3 vs H Q
noncomputable def zL3:Sp:=fun vs H Q _=>zG3 vs H Q
inductive zI0 (vs:List V)(H:Hp)(Q:VK):Prop
 | mk:∀(t p l o:Addr)(N:Nat)(n:Int)(ess fss:List (List En)),(vs=[.ref t,.ref l,.ref o])->(zBF H t p N)->(N<800000)->(0<=n)->(n<=24)->(zA4 H l ess)->(zA4 H o fss)->(ess.length=n.toNat)->(fss.length=n.toNat)->(∀(l':Addr)(gss:List (List En))(H':Hp),zA4 H' l' gss->gss.length=n.toNat->zBF H' t p (N+24)->Sm t H H'->Q (.ref l') H')->zI0 vs H Q
noncomputable def spMix:Sp:=fun vs H Q _=>zI0 vs H Q
inductive zL2 (vs:List V)(H:Hp)(Q:VK):Prop
 | mk:∀(pd wl:Addr)(n x y d:Int)(ts:List T3)(kvs:List (List Key×V))(ps:List Int),(vs=[.ref pd,.ref wl,.int x,.int y])->(H pd=some (.dT kvs))->(PD ts kvs)->(H wl=some (.lst (ps.map V.int)))->(Wkd ts n x y d ps)->(∀H',zAo H H'->Q (.int d) H')->zL2 vs H Q
noncomputable def spWy:Sp:=fun vs H Q _=>zL2 vs H Q
inductive zL5 (vs:List V)(H:Hp)(Q:VK):Prop
 | mk:∀(wa fa la:Addr)(n:Int)(ts:List T3)(M:lLO)(ess:List (List En)),(vs=[.ref wa,.ref fa,.ref la])->(RtK H wa fa la n ts M ess)->(∀H',zAo H H'->Q (.bl true) H')->zL5 vs H Q
noncomputable def spTe:Sp:=fun vs H Q _=>zL5 vs H Q
theorem zMG:zAE ["labels","one","other","gone"] qAZ (defScope zJL):=fS0
theorem zNZ {fT:Addr}(F:Fun K "walk" "walk" zJL f fd') (FT:FuB K mg "told" zFj fT fdT qAF) (GT:zAb P w K mg base CX0 3 fT fdT qAF zFY)
 (FS:FuB K mg "next_step" zJM fS fdS qAF) (GS:zAb P w K mg base CX0 3 fS fdS qAF zL6):zAb P w K mg base CX0 4 f fd' qAZ zL3:=by
 refine F.okD zMG fun _ A _ _ H vs Q E hr h=>?_;obtain⟨wa,fa,ll,n,ts,M,ess,x,y,rfl,RK,x0,x1,y0,y1,k⟩:=h;obtain⟨_,_,_,_,_,G⟩:=id RK.lt.wb;have hn24:=G.n24;refine⟨_,zR (zA8 (zAA zCc (zAI GT hr FT (zD (zu zAK (pv 0) (pv 1)) (zD (zu zAK (pv 0) (pv 2)) zL))) zA0 (zAB _)) (zY (zAH (zBV zL))) zAN)
  (zR (zAi (i:=3) zMG.nd (zBV (zD (pv 1) zL)))
  (zR (zLC PassesOwn.never (zAA zGf (zu zAC (pv 3) (zJj zFS zf)) (pv 2) (zAB _))
   (zY (zBX (zCq PySem.F.plainAttrs_list PySem.F.slot_list_append PySem.F.type_list_append zA7 (pv 3) (zD (zAI GS hr FS
    (zD (zu zAK (pv 0) (zu zAC (pv 3) (zJj zFS zf))) (zD (zu zAK (pv 0) (pv 2)) zL))) zL)))))
  (zY (zAH (pv 3))))),?_⟩
 obtain⟨as,ax,ay,ox,oy,hll,gx,gy,lx,ly,hbx,hby,_,_,_,_⟩:=RK.two x0 x1 y0 y1;refine⟨_,rfl,_,rfl,ll,_,_,.ref ax,rfl,rfl,SqT.of hll,zBQ x0 gx,_,rfl,_,rfl,ll,_,_,.ref ay,rfl,rfl,SqT.of hll,zBQ y0 gy,ax,ay,_,_,rfl,lx,ly,hby,fun lm H1 s1 hm=>?_⟩;refine⟨rfl,_,rfl,?_⟩;have tr:=(RK.told G x0 x1 y0 y1 hm).1;rw[zJt];cases lm with
 | none=>refine ifT rfl ?_;exact⟨zk _,fun l hl=>k l [] _ (s1.trans (zH hl)) zI (.inl ⟨rfl,tr⟩)⟩
 | some c=>
  have hD:WM.IsD ts x y c.1:=tr;refine ifF rfl ?_;refine⟨_,rfl,by show 1<=sizeLine;decide,fun D hDn=>?_⟩;have hD0:H D=none:=by
   cases z:H D with
   | none=>rfl
   | some o=>rw[s1 _ _ z] at hDn;cases hDn
  refine⟨fun m σ H2=>∃(ps:List Int)(s0 z r:Int),σ=[some (.ref ll),some (.int x),some (.int y),some (.ref D)]/\m=r.toNat/\zAo H H2/\H2 D=some (.lst (ps.map V.int))/\Led ts n x y c.1 ps s0 z r/\ps[0]?=some x,
   ⟨_,[x],0,x,c.1,rfl,rfl,s1.trans (zH hDn),zI,Led.start G x0 x1 hD,rfl⟩,?_⟩
  rintro m σ H2 ⟨ps,s0,z,r,rfl,rfl,s2,hD2,LD,hst⟩;obtain⟨pre,hpre⟩:=LD.ls;have hlast:atI (ps.map V.int) (-1)=some (V.int z):=by rw[hpre,zQ];exact zLk _ _
  have zin:=LD.in_;have hlen:=LD.len (by omega);refine⟨_,rfl,_,rfl,D,_,_,.int z,rfl,rfl,SqL.of hD2,hlast,_,rfl,rfl,_,rfl,?_⟩;by_cases hzy:z=y
  . refine ifF (by rw[hzy];simp) ?_;have r0:r=0:=by have:=LD.rm;rw[hzy] at this;exact this.uniq (zBu G y)
    have es:s0=c.1:=by have:=LD.sm;omega
    refine⟨_,rfl,k D ps H2 s2 hD2 (.inr ⟨c.1,hD,by rw[<-es];exact LD.st,hst,⟨pre,by rw[hpre,hzy]⟩,LD.nd,by omega,fun f hf=>⟨(LD.fa f hf).1,(LD.fa f hf).2.1⟩⟩)⟩
  . refine ifT (by rw[zDl,zc hzy];rfl) ?_;have RK2:=RK.same s2;obtain⟨as3,az,ay2,oz,oy2,hll3,gz,gy2,lz,ly2,hbz,hby2,fz,fy,ez',ey'⟩:=RK2.two zin.1 zin.2 y0 y1;refine⟨fun σ' H'=>∃(ps':List Int)(s0' z' r':Int),σ'=[some (.ref ll),some (.int x),some (.int y),some (.ref D)]/\r'.toNat<r.toNat/\zAo H H'/\H' D=some (.lst (ps'.map V.int))/\Led ts n x y c.1 ps' s0' z' r'/\ps'[0]?=some x,?_,?_⟩
    . rintro σ' H' ⟨ps',s0',z',r',rfl,hr',h1,h2,h3,h4⟩;exact⟨_,hr',ps',s0',z',r',rfl,rfl,h1,h2,h3,h4⟩
    . refine⟨_,rfl,.inl ⟨rfl,_,SqL.of hD2⟩,_,rfl,_,rfl,_,rfl,D,_,_,.int z,rfl,rfl,SqL.of hD2,hlast,ll,_,_,.ref az,rfl,rfl,SqT.of hll3,zBQ zin.1 gz,_,rfl,_,rfl,ll,_,_,.ref ay2,rfl,rfl,SqT.of hll3,zBQ y0 gy2,az,ay2,_,_,oz,oy2,[],[],rfl,lz,ly2,hbz,hby2,fz,fy,fun lm2 H3 s3 hm2=>?_⟩;obtain⟨tr2,stp⟩:=RK2.told G zin.1 zin.2 y0 y1 hm2;cases lm2 with
      | none=>exact absurd LD.rm.1 (tr2 r)
      | some c2=>obtain⟨p,hp1,hp2⟩:=stp c2 rfl hzy;rw[ez',ey',hp1];refine⟨D,_,_,rfl,rfl,s3 _ _ hD2,by rw[zB];exact zAh (by omega),?_⟩;obtain⟨s',r',LD'⟩:=LD.step G hp2;obtain⟨l,b,ha,ib,izy⟩:=hp2;have e1:b=r':=ib.uniq LD'.rm;have e2:l+b=r:=izy.uniq LD.rm;have hadj:=G.adj ha;have hb0:=ib.1.nn G;refine⟨ps++[p],s',p,r',rfl,by omega,zAV (s2.trans s3) hD0,by rw[zQ];exact zI,LD',?_⟩;rw[zP (zF.mp hst).1];exact hst
theorem scMix:zAE qAL qAL (defScope sMix):=fS0
theorem ok_mix (F:Fun K "_law_mixed" "_law_mixed" sMix f fd') (FD:FuB K mg "_law_draw" zDI fD fdD qAB) (GD:zAb P w K mg base CX0 2 fD fdD qAB zDS)
 (mLen:mg "len"=none) (mRange:mg "range"=none) (mTuple:mg "tuple"=none):zAb P w K mg base CX0 3 f fd' qAL spMix:=by
 refine F.okD scMix fun _ A _ _ H vs Q E hr h=>?_;obtain⟨t,p,l,o,N,n,ess,fss,rfl,T,hN,n0,n24,LL,LO,hel,hfl,k⟩:=h;obtain⟨as,hl,hal,hA⟩:=id LL;obtain⟨os,ho,hol,hO⟩:=id LO;refine⟨_,zY (zAH (zAr zAT mTuple (zD (zBi (own:=["_law_place"]) (cn:=["_law_labels_here","_law_others","_law_tape_here"]) (ci:=[1,2,0]) rfl (csc rfl rfl) ⟨rfl,rfl,rfl,rfl,rfl,rfl,rfl,rfl,rfl,trivial⟩ rfl
  (zAl rfl mRange (zD (zAJ zAm mLen (zD (pv 1) zL)) zL)) (fun _ _ _ _=>zCJ) (fun _ _ _ _=>zBP)
  (fun _ _ _ _=>zu zCh (zu zCP (zBV (zD (pv 1) (zD (pv 2) zL))) (zAI GD hr FD (zD (pv 3) (zCb zL)))) (pv 0))) zL))),?_⟩
 refine⟨_,rfl,l,_,rfl,.inr (SqT.of hl),n,by rw[zB,hal,hel,Int.toNat_of_nonneg n0],by omega,by omega,[.ref l,.ref o,.ref t],rfl,fun D hD=>?_⟩;have nD:=T.nn hD;refine zBz (lo:=0) (n:=n.toNat) (fun j ys H4=>Ex2 fun (bs:List Addr)(gss:List (List En))=>ys=bs.map V.ref/\gss.length=j/\j<=n.toNat/\zFL H4 bs gss/\zBF H4 t p (N+j)/\Sm t H H4/\H4 D=some (.lst ys)) ⟨[],[],rfl,rfl,zk _,⟨rfl,fun i b z=>by simp at z⟩,T.kp (zH hD),Sm.of (zH hD),zI⟩ (fun j ys H4 z=>?_) (fun j ys H4 hj z=>?_) (fun ys H4 z=>?_)
 . obtain⟨bs,gss,rfl,hg,hj,LB,_⟩:=z;rw[zB,LB.1,hg];exact zAS (by omega)
 . obtain⟨bs,gss,rfl,hg,_,LB,T4,s4,hD4⟩:=z;rw[zAZ];have k4:∀b ys,H b=some (.tup ys)->H4 b=some (.tup ys):=fun b ys q=>s4 _ _ (zAF.neT T.at_ q) q;refine⟨⟨rfl,rfl⟩,?_⟩;refine zFN ?_;refine⟨_,rfl,_,rfl,by show 2<=sizeLine;decide,fun ml hml=>?_⟩;have sm:=zH (o:=.lst [.ref l,.ref o]) hml;have hmm:(upd H4 ml (.lst [.ref l,.ref o])) ml=some (.lst [.ref l,.ref o]):=zI;have nml:=T4.nn hml;refine⟨_,rfl,t,p,N+j,2,rfl,T4.kp sm,by omega,by decide,by decide,fun r H5 r0 r1 T5 e5=>?_⟩;obtain⟨X,xs,hX,hlx,hxA,hat⟩:∃(X:Addr)(xs:List Addr),H X=some (.tup (xs.map V.ref))/\xs.length=n.toNat/\(∀(i:Nat)(a:Addr),xs[i]?=some a->∃es,zBR H a es)/\atI [V.ref l,V.ref o] r=some (.ref X):=by
    rcases (show r=0\/r=1 by omega) with c | c
    . exact⟨l,as,hl,by omega,fun i a q=>let ⟨es,_,q2⟩:=hA i a q;⟨es,q2⟩,by rw[c];rfl⟩
    . exact⟨o,os,ho,by omega,fun i a q=>let ⟨es,_,q2⟩:=hO i a q;⟨es,q2⟩,by rw[c];rfl⟩
   have s45:Sm t H4 H5:=(Sm.of sm).trans (zC3 e5);have k5:∀b ys,H4 b=some (.tup ys)->H5 b=some (.tup ys):=fun b ys q=>s45 _ _ (zAF.neT T4.at_ q) q;obtain⟨c,hc⟩:∃c,xs[j]?=some c:=⟨_,zA (by omega)⟩;obtain⟨es,Lc⟩:=hxA j c hc;have hD5:=s45 _ _ nD.1 hD4;refine⟨ml,_,_,.ref X,rfl,rfl,SqL.of (by rw[e5 _ nml.1];exact hmm),hat,_,rfl,X,_,_,.ref c,rfl,rfl,SqT.of (k5 _ _ (k4 _ _ hX)),zCk (by rw[zM,hc];rfl),hD5,?_⟩;have kp:∀b us,H5 b=some (.tup us)->(upd H5 D (.lst (bs.map V.ref++[.ref c]))) b=some (.tup us):=fun b us z=>by rw[za (zCD z hD5 (by intro w;cases w))];exact z
   exact⟨bs++[c],gss++[es],by rw[zQ];rfl,by rw[zJ,hg];rfl,hj,((LB.keep k5).keep kp).snoc (((Lc.keep k4).keep k5).keep kp),(T5.ch nD.1 nD.2).up (by omega),(s4.trans s45).chg hD,zI⟩
 . obtain⟨bs,gss,rfl,hg,_,LB,T4,s4,hD4⟩:=z;refine⟨D,_,rfl,.inl ⟨SqL.of hD4,fun l' hl'=>?_⟩⟩;have sl:=zH (o:=.tup (bs.map V.ref)) hl';exact k l' gss _ ⟨bs,zI,LB.1,(LB.keep fun b ys e=>sl _ _ e).2⟩ hg ((T4.kp sl).up (by omega)) (s4.trans (Sm.of sl))
theorem fn_lst {n p L:Nat}{ds:List PyData}(h:∀d∈ds,Fn n p d)(hl:ds.length<=L):Fn (L*(n+1)) (p+1) (.list ds):=by
 obtain⟨a,b,c,e,f⟩:=zMl h;refine⟨?_,?_,?_,?_,?_⟩
 . simp only[PyData.weight];exact zAM a (Nat.mul_le_mul_right _ hl)
 . simp only[PyData.depth];omega
 . simp only[PyData.canLay0];exact c
 . simp only[PyData.intsShort];exact e
 . simp only[PyData.showable];exact f
theorem zN6 {ps:List Int}(h:ps[0]?=some x):zDw (ps.map V.int) none (some 1)=[x].map V.int:=by
 cases ps with
 | nil=>cases h
 | cons a r=>cases h;rfl
theorem zLg {pre:List Int}:zDw ((pre++[y]).map V.int) (some (-1)) none=[y].map V.int:=by
 have hl:((pre++[y]).map V.int).length=pre.length+1:=by rw[zB,zJ];rfl
 unfold zDw;rw[hl];have e1:HT.sIx (pre.length+1) 0 (some (-1))=pre.length:=by unfold HT.sIx;simp;omega
 have e2:HT.sIx (pre.length+1) (pre.length+1) none=pre.length+1:=by unfold HT.sIx;rfl
 rw[e1,e2,zQ,List.drop_left' (by rw[zB]),show pre.length+1-pre.length=1 by omega];rfl
theorem scWy:zAE ["_law_pairs","_law_walked","_law_one","_law_other","_law_found","_law_k"] qAI (defScope sWay):=fS0
theorem ok_wy (F:Fun K "_law_way" "_law_way" sWay f fd') (mIsi:mg "isinstance"=none) (mList:mg "list"=none) (mBool:mg "bool"=none) (mLen:mg "len"=none) (mRange:mg "range"=none):zAb P w K mg base CX0 1 f fd' qAI spWy:=by
 refine F.okD scWy fun _ A _ _ H vs Q E hr h=>?_;obtain⟨pd,wl,n,x,y,d,ts,kvs,ps,rfl,hpd,PDk,hwl,WK,k⟩:=h;have hu:=zGn hr;have hu0:=hr.units0;have h24:=WK.ln;obtain⟨ls,hll,hls,hL⟩:=WK.st.longs;obtain⟨pre,hpre⟩:=WK.ls;refine⟨_,zR (zA8 (PW.pt (zEe (zCo (zCI (zAJ zCF mIsi (zD (pv 1) (zD (zEo (T := "list") mList) zL))))) (zEe (zAA (zMU hu0) (zBY zE1 (pv 1) zB8 (zBn zf)) (zBV (zD (pv 2) zL)) (zAB _)) (zDJ (zAA (zMU hu0) (zBY zE1 (pv 1) (zBn (zJj zFS zf)) zB8) (zBV (zD (pv 3) zL)) (zAB _)))))) zDd zAN)
  (zR (zAi (i:=4) scWy.nd zf)
  (zR (zA6 PassesOwn.never rfl (zD6 rfl mRange (zD zf (zD (zAJ zAm mLen (zD (pv 1) zL)) zL))) (zv (i:=5) scWy.nd rfl (Or.inl rfl))
   (zR (zA8 (PW.pt (zEe (zCI (zAJ zCF mIsi (zD (zu zAC (pv 1) (pv 5)) (zD (zEo (T := "bool") mBool) zL)))) (zDJ (zFx (zF1 hu (zAv (zD (zu zAC (pv 1) (zAw zC6 (pv 5) zf)) (zD (zu zAC (pv 1) (pv 5)) zL))) (pv 0)))))) zDd zAN)
   (zY (zAi (i:=4) scWy.nd (zAw zBs (pv 4) (zCg hu (pv 0) (zAv (zD (zu zAC (pv 1) (zAw zC6 (pv 5) zf)) (zD (zu zAC (pv 1) (pv 5)) zL))) (fun _ _=>rfl)))))))
  (zY (zAH (pv 4))))),?_⟩
 refine⟨_,rfl,_,_,_,true,rfl,.lst hwl,rfl,_,rfl,zCr ?_⟩;refine⟨_,rfl,1,rfl,wl,_,rfl,SqL.of hwl,fun p1 hp1=>?_⟩;rw[zN6 WK.hd];have s1:=zH (o:=.lst ([x].map V.int)) hp1;refine⟨_,rfl,by show 1<=sizeLine;decide,fun p2 hp2=>?_⟩;have s2:=zH (o:=.lst [.int x]) hp2;refine⟨p1,p2,[x],[x],rfl,rfl,SqL.of (s2 _ _ zI),SqL.of zI,_,rfl,ifF (by simp) ?_⟩;have s12:=s1.trans s2;generalize upd (upd H p1 (.lst ([x].map V.int))) p2 (.lst [.int x])=H2 at s12 ⊢;refine⟨_,rfl,1,rfl,-1,rfl,wl,_,rfl,SqL.of (s12 _ _ hwl),fun p3 hp3=>?_⟩;rw[show zDw (ps.map V.int) (some (-1)) none=[y].map V.int by rw[hpre];exact zLg];have s3:=zH (o:=.lst ([y].map V.int)) hp3;refine⟨_,rfl,by show 1<=sizeLine;decide,fun p4 hp4=>?_⟩;have s4:=zH (o:=.lst [.int y]) hp4;refine⟨p3,p4,[y],[y],rfl,rfl,SqL.of (s4 _ _ zI),SqL.of zI,_,rfl,ifF (by simp) ?_⟩;have s14:=s12.trans (s3.trans s4);generalize upd (upd H2 p3 (.lst ([y].map V.int))) p4 (.lst [.int y])=H4 at s14 ⊢;refine⟨_,rfl,wl,_,rfl,.inl (SqL.of (s14 _ _ hwl)),1,_,rfl,⟨by decide,by decide,by rw[zB];omega,by rw[zB];omega⟩,zA3 (lo:=1) (n:=(((ps.map V.int).length:Int)-1).toNat) (fun j σ H5=>∃v5:Option V,σ=[some (.ref pd),some (.ref wl),some (.int x),some (.int y),some (.int ((ls.take j).sum)),v5]/\j<=ls.length/\zAo H H5) ⟨_,rfl,zk _,s14⟩ (fun j σ H5 hj z=>?_) (fun σ H5 z=>?_)⟩
 . obtain⟨v5,rfl,_,s5⟩:=z;rw[zB] at hj;have h1:j<ps.length:=by omega
   have h2:j+1<ps.length:=by omega
   obtain⟨l,hl,hadj⟩:=hL j ps[j] ps[j+1] (zA h1) (zA h2);have a1:atI (ps.map V.int) (1+(j:Int)-1)=some (.int ps[j]):=zBQ (by omega) (by rw[show (1+(j:Int)-1).toNat=j by omega,zM,zA h1];rfl);have a2:atI (ps.map V.int) (1+(j:Int))=some (.int ps[j+1]):=zBQ (by omega) (by rw[show (1+(j:Int)).toNat=j+1 by omega,zM,zA h2];rfl);have hw5:=s5 _ _ hwl;have gv:zCL kvs [Sum.inl ps[j],Sum.inl ps[j+1]]=some (.int l):=((PDk _ _).1 l).mpr hadj;refine⟨_,rfl,_,rfl,wl,_,_,.int ps[j+1],rfl,rfl,SqL.of hw5,a2,_,_,_,false,rfl,.int _,rfl,_,rfl,zCr ?_⟩;refine⟨_,rfl,_,rfl,_,_,rfl,rfl,wl,_,_,.int ps[j],rfl,rfl,SqL.of hw5,a1,_,rfl,_,rfl,wl,_,_,.int ps[j+1],rfl,rfl,SqL.of hw5,a2,by show 2<=sizeLine;decide,fun q1 hq1=>?_⟩;have t1:=s5.trans (zH (o:=.tup [.int ps[j],.int ps[j+1]]) hq1);have g1:=zDj.t (k:=[Sum.inl ps[j],Sum.inl ps[j+1]]) (t1 _ _ hpd) (zI (H:=H5) (a:=q1) (o:=.tup [.int ps[j],.int ps[j+1]]));rw[gv] at g1;refine⟨_,rfl,pd,_,rfl,g1,_,rfl,zCr ?_⟩;have hw6:=t1 _ _ hwl;have hpd6:=t1 _ _ hpd;generalize upd H5 q1 (.tup [.int ps[j],.int ps[j+1]])=H6 at t1 hw6 hpd6 ⊢;refine⟨_,rfl,_,rfl,_,rfl,_,rfl,_,_,rfl,rfl,wl,_,_,.int ps[j],rfl,rfl,SqL.of hw6,a1,_,rfl,_,rfl,wl,_,_,.int ps[j+1],rfl,rfl,SqL.of hw6,a2,by show 2<=sizeLine;decide,fun q2 hq2=>?_⟩;have t2:=t1.trans (zH (o:=.tup [.int ps[j],.int ps[j+1]]) hq2);have g2:=zDj.t (k:=[Sum.inl ps[j],Sum.inl ps[j+1]]) (t2 _ _ hpd) (zI (H:=H6) (a:=q2) (o:=.tup [.int ps[j],.int ps[j+1]]));rw[gv] at g2;have es:(ls.take (j+1)).sum=(ls.take j).sum+l:=by rw[zy,hl,List.sum_append];show _+(l+0)=_;rw[Int.add_zero]
   refine⟨pd,_,rfl,g2,_,_,rfl,rfl,some (.int (1+(j:Int))),by rw[es];rfl,by have:=(zF.mp hl).1;omega,t2⟩
 . obtain⟨v5,rfl,_,s5⟩:=z;refine⟨_,rfl,?_⟩;rw[zB,show ((ps.length:Int)-1).toNat=ls.length by omega,zh (zK _),hls];exact k _ s5
theorem scTe:zAE ["_law_web_here","_law_far_here","_law_thing","_law_pairs","_law_one","_law_other","_law_due","_law_walked"] qAS (defScope zHQ):=fS0
theorem ok_te {fT fY:Addr}{fdY:FuncData}(F:Fun K "_law_tells" "_law_tells" zHQ f fd') (FT:FuB K mg "told" zFj fT fdT qAF) (GT:zAb P w K mg base CX0 4 fT fdT qAF zFY)
 (FW:FuB K mg "walk" zJL fW fdW qAZ) (GW':zAb P w K mg base CX0 4 fW fdW qAZ zL3)
 (FJ:FuB K mg "_law_joined" zMJ fJ fdJ qAJ) (GJ:zAb P w K mg base CX0 4 fJ fdJ qAJ zM7)
 (FY:FuB K mg "_law_way" sWay fY fdY qAI) (GY:zAb P w K mg base CX0 4 fY fdY qAI spWy)
 (mRange:mg "range"=none) (mRepr:mg "repr"=none):zAb P w K mg base CX0 5 f fd' qAS spTe:=by
 refine F.okD scTe fun _ A _ _ H vs Q E hr h=>?_;obtain⟨wa,fa,la,n,ts,M,ess,rfl,R,k⟩:=h;obtain⟨ta,tys,hwa,_,_,G⟩:=id R.lt.wb;obtain⟨_,_,_,RR⟩:=id R.fr;have hn1:=G.n1;have hn24:=G.n24;refine⟨_,zR (zAi (i:=3) scTe.nd (zAI GJ hr FJ (zD (pv 0) zL)))
  (zR (zA6 PassesOwn.never rfl (zAl rfl mRange (zD (zu zAK (pv 0) zf) zL)) (zv (i:=4) scTe.nd rfl (Or.inl rfl))
   (zY (zA6 PassesOwn.never rfl (zAl rfl mRange (zD (zu zAK (pv 0) zf) zL)) (zv (i:=5) scTe.nd rfl (Or.inl rfl))
    (zR (zAi (i:=6) scTe.nd (zu zAC (zu zAC (pv 1) (pv 4)) (pv 5)))
    (zR (zA8 (zAA zGf (zAJ (zCV hr) mRepr (zD (zAI GT hr FT (zD (zu zAK (pv 2) (pv 4)) (zD (zu zAK (pv 2) (pv 5)) zL))) zL)) (zAJ (zCV hr) mRepr (zD (pv 6) zL)) (zAB _)) zDd zAN)
    (zR (zAi (i:=7) scTe.nd (zAI GW' hr FW (zD (pv 2) (zD (pv 4) (zD (pv 5) zL)))))
    (zR (zA8 (PW.pt (zCn (zAA zCc (pv 6) zA0 (zAB _)) (zCR (zAA zGf (zAJ (zCV hr) mRepr (zD (pv 7) zL)) zEp (zAB _))))) zDd zAN)
    (zR (zA8 (PW.pt (zCn (zAA zCu (pv 6) zA0 (zAB _)) (zCR (zAA zGf (zAJ (zCV hr) mRepr (zD (zAI GY hr FY (zD (pv 3) (zD (pv 7) (zD (pv 4) (zD (pv 5) zL))))) zL)) (zAJ (zCV hr) mRepr (zD (pv 6) zL)) (zAB _))))) zDd zAN)
    (zY (zA8 (PW.pt (zCn (zAA zCK (pv 4) (pv 5) (zAB _)) (zCR (zAA zGf (zAJ (zCV hr) mRepr (zD (pv 7) zL)) (zAJ (zCV hr) mRepr (zD (zBV (zD (pv 4) zL)) zL)) (zAB _))))) zDd zAN))))))))))
  (zY (zAH zD8))),?_⟩
 refine⟨_,rfl,wa,n,ts,rfl,R.lt.wb,fun pd kvs H0 s0 hpd PDk=>?_⟩;refine⟨_,rfl,wa,_,_,_,rfl,rfl,SqT.of (s0 _ _ hwa),rfl,n,rfl,by omega,by omega,zA3 (lo:=0) (n:=n.toNat) (fun i σ H1=>Ex4 fun (v4 v5 v6 v7:Option V)=>σ=[some (.ref wa),some (.ref fa),some (.ref la),some (.ref pd),v4,v5,v6,v7]/\zAo H0 H1) ⟨_,_,_,_,rfl,zAo.refl _⟩ (fun x σ H1 hx z=>?_) (fun σ H1 z=>?_)⟩
 . obtain⟨v4,v5,v6,v7,rfl,s1⟩:=z;rw[zAZ];refine⟨_,rfl,wa,_,_,_,rfl,rfl,SqT.of (s1 _ _ (s0 _ _ hwa)),rfl,n,rfl,by omega,by omega,zA3 (lo:=0) (n:=n.toNat) (fun i σ H2=>Ex3 fun (v5 v6 v7:Option V)=>σ=[some (.ref wa),some (.ref fa),some (.ref la),some (.ref pd),some (.int x),v5,v6,v7]/\zAo H0 H2) ⟨_,_,_,rfl,s1⟩ (fun y σ H2 hy z=>?_) (fun σ H2 z=>?_)⟩
   . obtain⟨w5,w6,w7,rfl,s2⟩:=z;rw[zAZ];have x0:(0:Int)<=x:=by omega
     have x1:(x:Int)<n:=by omega
     have y0:(0:Int)<=y:=by omega
     have y1:(y:Int)<n:=by omega
     have R2:=(R.same s0).same s2;obtain⟨rs6,r6,row6,f1,f2,f3,f4,f5⟩:=R2.fr.get x0 x1 y0 y1;refine⟨_,rfl,_,rfl,fa,_,_,.ref r6,rfl,rfl,SqL.of f1,f2,_,rfl,r6,_,_,_,rfl,rfl,SqL.of f3,f4,?_⟩;obtain⟨as,a,b,e,f',h1,g1,g2,l1,l2,hb1,hb2,z1,z2,o1,o2⟩:=R2.two x0 x1 y0 y1;refine⟨_,rfl,_,rfl,la,_,_,.ref a,rfl,rfl,SqT.of h1,zBQ x0 g1,_,rfl,_,rfl,la,_,_,.ref b,rfl,rfl,SqT.of h1,zBQ y0 g2,a,b,_,_,rfl,l1,l2,hb2,fun lm H3 s3 hm=>?_⟩;obtain⟨t1,t2⟩:=R2.told G x0 x1 y0 y1 hm;have em:lm.map (·.1)=mat M x y:=zFA t1 f5;rw[em];have s13:=s2.trans s3;have R3:=(R.same s0).same s13;have fnd:=fn_len RR x0 x1 y0 y1 f5;refine⟨_,_,rfl,zK0 _ _,fnd,?_⟩;refine⟨_,rfl,_,_,rfl,zK0 _ _,fnd,rfl,_,rfl,ifF (by simp) ?_⟩;refine⟨_,rfl,_,rfl,_,rfl,wa,fa,la,n,ts,M,ess,x,y,rfl,R3,x0,x1,y0,y1,fun wl ps H4 s4 hwl WO=>?_⟩;have s14:=s13.trans s4;have shL:∀{H':Hp}{a:Addr}{qs:List Int},H' a=some (.lst (qs.map V.int))->zDC H' (.ref a) (.list (qs.map PyData.int)):=fun h=>.lst h (zDH _);have fnL:∀{qs:List Int},qs.length<=100->(∀q∈qs,q.natAbs<1000000000)->Fn 1048576 50 (.list (qs.map PyData.int)):=fun hl hb=>(fn_lst (n:=30) (p:=0) (L:=100) (fun d hd=>by obtain⟨x,hx,rfl⟩:=zo.mp hd;exact zMk (hb x hx)) (by rw[zB];exact hl)).mono (by decide) (by decide)
     rcases WO with ⟨rfl,none'⟩ | ⟨d,W⟩
     . have ed:mat M x y=none:=zFA f5 none';rw[ed];refine⟨_,rfl,rfl,_,rfl,ifT (by rfl) ?_⟩;refine⟨_,rfl,_,_,rfl,shL hwl,fnL (zk _) (fun q z=>by cases z),rfl,_,rfl,ifF (by rfl) ?_⟩;refine⟨_,rfl,rfl,_,rfl,ifF (by rfl) (zCr ?_)⟩;refine⟨_,rfl,_,rfl,rfl,_,rfl,?_⟩;rw[zDl];refine ifF (zc fun z=>?_) (zCr ⟨_,_,_,rfl,s14⟩);rw[<-z] at none';exact none' 0 (.nil _)
     . have ed:mat M x y=some d:=zFA f5 (show Len ts x y (some d) from W.ds);rw[ed] at fnd ⊢;refine⟨_,rfl,rfl,_,rfl,ifF (by rfl) (zCr ?_)⟩;refine⟨_,rfl,rfl,_,rfl,ifT (by rfl) ?_⟩;refine⟨_,rfl,_,rfl,_,rfl,_,rfl,pd,wl,n,x,y,d,ts,kvs,ps,rfl,s14 _ _ hpd,PDk,hwl,W,fun H5 s5=>?_⟩;refine⟨_,_,rfl,zK0 _ (some d),fnd,?_⟩;refine⟨_,rfl,_,_,rfl,zK0 _ _,fnd,rfl,_,rfl,ifF (by simp) ?_⟩;have s15:=s14.trans s5;refine⟨_,rfl,_,rfl,rfl,_,rfl,?_⟩;rw[zDl];by_cases c:(x:Int)=y
       . refine ifT (zS c) ?_;rw[<-c] at W;have e1:=W.one;have fx:Fn 1048576 50 (.list ([(x:Int)].map PyData.int)):=fnL (by simp) (fun q z=>by rw[zd.mp z];omega);rw[e1] at hwl;refine⟨_,rfl,_,_,rfl,shL (s5 _ _ hwl),fx,_,rfl,by show 1<=sizeLine;decide,fun nl hnl=>?_⟩;refine⟨_,_,rfl,shL (qs:=[(x:Int)]) zI,fx,rfl,_,rfl,ifF (by simp) ⟨_,_,_,rfl,s15.trans (zH hnl)⟩⟩
       . exact ifF (zc c) (zCr ⟨_,_,_,rfl,s15⟩)
   . obtain⟨w5,w6,w7,rfl,s2⟩:=z;exact⟨_,_,_,_,rfl,s2⟩
 . obtain⟨v4,v5,v6,v7,rfl,s1⟩:=z;exact k _ (s0.trans s1)
inductive spN_r (vs:List V)(H:Hp)(Q:VK):Prop
 | mk:∀(t:Addr)(N:Nat),(vs=[.ref t])->(zAF H t N)->(N<900000)->(∀(n:Int)(H':Hp),1<=n->n<=8->zAF H' t (N+1)->Sm t H H'->Q (.int n) H')->spN_r vs H Q
noncomputable def spN:Sp:=fun vs H Q _=>spN_r vs H Q
theorem scN:zAE qAX qAX (defScope zFk):=fS0
theorem ok_n {fd:FuncData}(F:Fun K "_law_small" "_law_small" zFk f fd) (FD:FuB K mg "_law_draw" zDI fD fdD qAB) (mLen:mg "len"=none):
 zAb P w K mg base CX0 2 f fd qAX spN:=by
 have GD:zAb P w K mg base CX0 1 fD fdD qAB zFe:=zGg FD.F mLen;refine F.okD scN fun _ A _ _ H vs Q E hr h=>?_;obtain⟨t,N,rfl,T,hN,k⟩:=h;obtain⟨es,q1,q2,j3,q3,q4,p1,p2,p3,hb,hes⟩:∃es q1 q2 j3 q3 q4 p1 p2 p3,defBody zFk=[.Return (some (.Subscript (.List es p1) (.Call (.Name "_law_draw" q1) [.Name "_law_tape_here" q2,.Constant (.int 12) j3 q3] [] q4) p2)) p3] /\
  zDa es [1,2,3,4,5,6,4,3,5,6,7,8]:=⟨_,_,_,_,_,_,_,_,_,rfl,by repeat constructor⟩
 rw[hb];refine⟨_,zY (zAH (zu zAC (zBV (zJm hes))
  (zAI GD hr FD (zD (pv 0) (zD zf zL))))),?_⟩
 refine⟨by show 12<=sizeLine;decide,fun l hl=>?_⟩;refine⟨_,rfl,t,N,12,rfl,T.laid hl,by omega,by decide,by decide,fun r H' h0 h1 T' he=>?_⟩;have nlt:l≠t:=T.ne hl;obtain⟨n,hn,ha⟩:=zDU (L:=[1,2,3,4,5,6,4,3,5,6,7,8]) h0 h1;have hb:1<=n/\n<=8:=by
  have:∀m∈([1,2,3,4,5,6,4,3,5,6,7,8]:List Int),1<=m/\m<=8:=by decide
  exact this n hn
 refine⟨l,_,_,_,rfl,rfl,SqL.of (by rw[he l nlt];exact zI),ha,?_⟩;refine k n H' hb.1 hb.2 T' fun b o hb e=>?_;rw[he b hb,za (zl e hl)];exact e
noncomputable def prN (t:T3):Nat:=(t.2.1*(t.2.1-1)/2+t.1).toNat
theorem zHy (G:GW n ts)(hn:n<=8):ts.length<=31:=by
 have key:∀a b:Int,0<=a->a<b->b<8->(b=1\/b=2\/b=3\/b=4\/b=5\/b=6\/b=7):=fun a b _ _ _=>by omega
 have val:∀t∈ts,∃c:Int,(prN t:Int)=c+t.1/\((t.2.1=1/\c=0)\/(t.2.1=2/\c=1)\/(t.2.1=3/\c=3)\/(t.2.1=4/\c=6)\/(t.2.1=5/\c=10)\/(t.2.1=6/\c=15)\/(t.2.1=7/\c=21)):=fun t ht=>by
  have r:=G.rng t ht;refine⟨t.2.1*(t.2.1-1)/2,?_,?_⟩
  . unfold prN;rcases key t.1 t.2.1 r.1 r.2.1 (by omega) with h | h | h | h | h | h | h <;> rw[h] <;> omega
  . rcases key t.1 t.2.1 r.1 r.2.1 (by omega) with h | h | h | h | h | h | h <;> rw[h] <;> omega
 have:=zEB 28 (ts.map prN) (by
  rw[List.Nodup,zAt];refine G.dis.imp_of_mem fun {a b} ha hb z e=>z ?_;have r1:=G.rng a ha;have r2:=G.rng b hb;obtain⟨c,e1,q1⟩:=val a ha;obtain⟨d,e2,q2⟩:=val b hb;rw[e] at e1;rcases q1 with q1 | q1 | q1 | q1 | q1 | q1 | q1 <;> rcases q2 with q2 | q2 | q2 | q2 | q2 | q2 | q2 <;> omega) (fun x hx=>by
  obtain⟨t,ht,rfl⟩:=zo.mp hx;have r:=G.rng t ht;obtain⟨c,e1,q1⟩:=val t ht;rcases q1 with q1 | q1 | q1 | q1 | q1 | q1 | q1 <;> omega)
 rw[zB] at this;omega
inductive zI5 (K:PySem.W.Frag)(vs:List V)(H:Hp)(Q:VK):Prop
 | mk:∀(a:Addr)(ns:List Int),(vs=[.ref a])->(SqL K H a (ns.map V.int))->(ns.length<=63)->(∀H',Q (.bl true) H')->zI5 K vs H Q
noncomputable def zKy (K:PySem.W.Frag):Sp:=fun vs H Q _=>zI5 K vs H Q
structure ThI (Hb:Hp)(t D:Addr)(n:Int)(N:Nat)(xs:List Addr)(H:Hp):Prop where
 sm:Sm t Hb H
 tp:zAF H t N
 ds:H D=some (.lst (xs.map V.ref))
 ne:xs≠[]
 ln:xs.length<=10
 th:∀x∈xs,∃fss,zA4 H x fss/\fss.length=n.toNat
theorem zBF.nRp {t:Addr}(h:zBF H t p N)(hb:H b=some (.lst (rs.map V.ref)))(ne:rs≠[]):b≠p:=fun z=>by
 obtain⟨ns,spot,rest,_,a,_⟩:=h;rw[z,a] at hb;injection hb with hb;injection hb with hb;cases rs with
 | nil=>exact ne rfl
 | cons x r=>
  cases ns with
  | nil=>cases hb
  | cons y s=>injection hb with hb;cases hb
theorem ThI.step {Hb:Hp}{t:Addr}{N':Nat}{xs:List Addr}(h:ThI Hb t D n N xs H)(s:Sm t H H')(T:zAF H' t N'):ThI Hb t D n N' xs H':=by obtain⟨p,hp⟩:=id h.tp;exact⟨h.sm.trans s,T,s _ _ (hp.nR h.ds) h.ds,h.ne,h.ln,fun x hx=>let ⟨fss,a,b⟩:=h.th x hx;⟨fss,a.sm h.tp s,b⟩⟩
theorem ThI.push {Hb:Hp}{t:Addr}{xs:List Addr}(h:ThI Hb t D n N xs H)(hD:Hb D=none)(h9:xs.length<=9)(L:zA4 H l fss)(hl:fss.length=n.toNat):ThI Hb t D n N (xs++[l]) (upd H D (.lst (xs.map V.ref++[.ref l]))):=by
 obtain⟨p,hp⟩:=id h.tp;have kp:∀b us,H b=some (.tup us)->(upd H D (.lst (xs.map V.ref++[.ref l]))) b=some (.tup us):=fun b us z=>by rw[za (zCD z h.ds (by intro w;cases w))];exact z
 refine⟨h.sm.chg hD,⟨p,hp.ch (hp.nR h.ds) (hp.nRp h.ds h.ne)⟩,by rw[zQ];exact zI,by simp,by rw[zJ];simp;omega,fun x hx=>?_⟩;rcases zm.mp hx with z | z
 . obtain⟨gss,a,b⟩:=h.th x z;exact⟨gss,a.keep kp,b⟩
 . rw[zd.mp z];exact⟨fss,L.keep kp,hl⟩
structure WbS (H:Hp)(wa:Addr)(n:Int)(ts:List T3):Prop where
 wb:zB3 H wa n ts
 sm:ts.length<=31
inductive GrT_r (σ:St)(H:Hp)(Q:VK):Prop
 | mk:∀(t:Addr)(N:Nat)(i:Int)(v0 v3 v4 v5 v6 v7 v8 v9:Option V),(σ=[v0,some (.ref t),some (.int i),v3,v4,v5,v6,v7,v8,v9])->(zAF H t N)->(N<200000)->(∀(b:Bool)(H':Hp),zAF H' t (N+1)->Q (.bl b) H')->GrT_r σ H Q
noncomputable def GrT:TE:=fun σ H Q=>GrT_r σ H Q
inductive zMs (σ:St)(H:Hp)(Q:VK):Prop
 | mk:∀(t:Addr)(N:Nat)(b:Bool)(v0 v2 v4 v5 v6 v7 v8 v9:Option V),(σ=[v0,some (.ref t),v2,some (.bl b),v4,v5,v6,v7,v8,v9])->(zAF H t N)->(N<200000)->(∀(wa:Addr)(n:Int)(ts:List T3)(H':Hp),WbS H' wa n ts->zAF H' t (N+300)->Sm t H H'->Q (.ref wa) H')->zMs σ H Q
noncomputable def WebT:TE:=fun σ H Q=>zMs σ H Q
inductive ThU_r (a:Addr)(D':zGZ)(σ:St)(H:Hp):Prop
 | mk:∀(t wa fa la D:Addr)(v2 v8 v9:Option V)(b:Bool)(n:Int)(ts:List T3)(M:lLO)(ess:List (List En))(N:Nat)(Hb:Hp),(σ=[some (.ref a),some (.ref t),v2,some (.bl b),some (.ref wa),some (.ref fa),some (.ref la),some (.ref D),v8,v9])->(ThI Hb t D n N [la] H)->(N<200000)->(Hb D=none)->(zAF Hb t N)->(WbS Hb wa n ts)->(zCN Hb fa n ts M)->(zA4 Hb la ess)->(LY ts n ess)->(∀(v8':Option V)(xs:List Addr)(H':Hp),ThI Hb t D n (N+13000) xs H'->D'.nx [some (.ref a),some (.ref t),v2,some (.bl b),some (.ref wa),some (.ref fa),some (.ref la),some (.ref D),v8',v9] H')->ThU_r a D' σ H
noncomputable def ThU (a:Addr):TS:=fun D' σ H=>ThU_r a D' σ H
theorem zEd:zAE ["_law_script","_law_tape_here","_law_k","_law_great","_law_web_here","_law_far_here","_law_labels_here","_law_things","_law_bends","_law_thing"] qAc (defScope sLaw):=fS0
theorem ok_law {fTa fSm fRw fNu fWi fTo fRs fPl fLl fEe fAl fFa fT fLo fOw fSu fTd fHu fEt fSt fWk fLt fRa fOf fUf fUr fTf fGm fDf fDr fLs fFr fOn fNs fOr fEn fLa fFu fEi fLx fLg fSo fTu fLv fMx fWy fTe:Addr}{fdTa fdSm fdRw fdNu fdWi fdTo fdRs fdPl fdLl fdEe fdAl fdFa fdLo fdOw fdSu fdTd fdHu fdEt fdSt fdWk fdLt fdRa fdOf fdUf fdUr fdTf fdGm fdDf fdDr fdLs fdFr fdOn fdNs fdOr fdEn fdLa fdFu fdEi fdLx fdLg fdSo fdTu fdLv fdMx fdWy fdTe:FuncData}(F:Fun K "law" "law" sLaw f fd')
 (mC:mg "NoLabels"=some (.ref C)) (EI:zGy K C fI)(sb:L2.subIn K C C=true)(FI:Fun K "__init__" "NoLabels.__init__" sI1 fI fdI) (bI:zDp K fdI qAU []) (mo:PySem.W.mroIn K C (.type "object")=some true) (i1:PySem.W.findIn K (.ref C) "word"=some none) (i2:PySem.W.findIn K (.ref C) "at"=some none)
 (FTa:FuB K mg "_law_tape" zK5 fTa fdTa qAc)
 (FD:FuB K mg "_law_draw" zDI fD fdD qAB)
 (FSm:FuB K mg "_law_small" zFk fSm fdSm qAX)
 (FW:FuB K mg "_law_web" sWeb fW fdW qAM)
 (FRw:FuB K mg "_law_row_web" sRow fRw fdRw qAX)
 (FNu:FuB K mg "is_number" zNG fNu fdNu qAk)
 (FWi:FuB K mg "is_within" sWi fWi fdWi qAT)
 (FTo:FuB K mg "is_tuple_of" sTof fTo fdTo qAa)
 (FRs:FuB K mg "is_rising" sRis fRs fdRs qAl)
 (FPl:FuB K mg "is_place" sPl fPl fdPl qAK)
 (FLl:FuB K mg "is_label" zJP fLl fdLl qAK)
 (FEe:FuB K mg "is_entry" zJS fEe fdEe qAK)
 (FAl:FuB K mg "are_labels" zFn fAl fdAl qAK)
 (FFa:FuB K mg "far_entries" zH8 fFa fdFa qAg)
 (FT:FuB K mg "ties_at" zH6 fT fdT qAd)
 (FLo:FuB K mg "long_of" zH7 fLo fdLo qAV)
 (FOw:FuB K mg "own_place" sOwn fOw fdOw qAj)
 (FSu:FuB K mg "least_sum" sSum fSu fdSu qAF)
 (FTd:FuB K mg "told" zFj fTd fdTd qAF)
 (FHu:FuB K mg "told_hub" sHub fHu fdHu qAF)
 (FEt:FuB K mg "entry_of" sEnt fEt fdEt qAe)
 (FSt:FuB K mg "next_step" zJM fSt fdSt qAF)
 (FWk:FuB K mg "walk" zJL fWk fdWk qAZ)
 (FLt:FuB K mg "lets_labels" zJO fLt fdLt qAf)
 (FRa:FuB K mg "refuse_at" zJN fRa fdRa qAh)
 (FOf:FuB K mg "own_fault" sOf fOf fdOf qAg)
 (FUf:FuB K mg "up_fault" sUf fUf fdUf qAN)
 (FUr:FuB K mg "is_up_right" sUr fUr fdUr qAE)
 (FTf:FuB K mg "tie_fault" sTf fTf fdTf qAN)
 (FGm:FuB K mg "grows_too_much" sGm fGm fdGm qAW)
 (FDf:FuB K mg "down_fault" sDf fDf fdDf qAN)
 (FDr:FuB K mg "is_down_right" sDr fDr fdDr qAE)
 (FA:FuB K mg "_law_added" sAdd fA fdA qAG)
 (FLs:FuB K mg "_law_lesser" sLes fLs fdLs qAG)
 (FFr:FuB K mg "_law_far" sFar fFr fdFr qAJ)
 (FOn:FuB K mg "_law_on" sOn fOn fdOn qAH)
 (FJ:FuB K mg "_law_joined" zMJ fJ fdJ qAJ)
 (FNs:FuB K mg "_law_nexts" sNxs fNs fdNs qAD)
 (FOr:FuB K mg "_law_order" zFl fOr fdOr qAM)
 (FEn:FuB K mg "_law_entry" zH9 fEn fdEn qAC)
 (FLa:FuB K mg "_law_labels" zFo fLa fdLa qAP)
 (FFu:FuB K mg "_law_full" zJQ fFu fdFu qAR)
 (FEi:FuB K mg "_law_either" zJT fEi fdEi qAQ)
 (FLx:FuB K mg "_law_loose" zFm fLx fdLx qAA)
 (FLg:FuB K mg "_law_longer" zD0 fLg fdLg qAA)
 (FSo:FuB K mg "_law_some" zK6 fSo fdSo qAY)
 (FTu:FuB K mg "_law_turned" zK4 fTu fdTu qAO)
 (FLv:FuB K mg "_law_let" sIl fLv fdLv qAb)
 (FMx:FuB K mg "_law_mixed" sMix fMx fdMx qAL)
 (FWy:FuB K mg "_law_way" sWay fWy fdWy qAI)
 (FTe:FuB K mg "_law_tells" zHQ fTe fdTe qAS)
 (mLen:mg "len"=none) (mRange:mg "range"=none) (mTuple:mg "tuple"=none) (mSorted:mg "sorted"=none) (mMin:mg "min"=none) (mMax:mg "max"=none) (mList:mg "list"=none) (mIsi:mg "isinstance"=none) (mInt:mg "int"=none) (mBool:mg "bool"=none) (mAll:mg "all"=none) (mZip:mg "zip"=none) (mDict:mg "dict"=none) (mEnum:mg "enumerate"=none) (mRepr:mg "repr"=none):zAb P w K mg base CX0 9 f fd' qAc (zKy K):=by
 have up:∀(j:Nat){k:Nat}{f:Addr}{fd:FuncData}{ps:List Str}{sp:Sp},zAb P w K mg base CX0 k f fd ps sp->k<=j->zAb P w K mg base CX0 j f fd ps sp:=fun _ _ _ _ _ _ g h=>g.mono h;have GTa:=up 8 (zNc FTa.F) (by decide);have GD1:=up 1 (zGg FD.F mLen) (by decide);have GD:=up 8 GD1 (by decide);have GDP:=up 2 (zDs FD.F mLen) (by decide);have GSm:=up 8 (ok_n FSm.F FD mLen) (by decide);have GWe:=up 8 (ok_web FW.F FD mLen mRange mTuple mSorted) (by decide);have GRw:=up 8 (ok_row FRw.F FD mLen mRange mTuple mSorted mList) (by decide);have GOr:=up 4 (zLI FOr.F FD mLen mRange mTuple mList) (by decide);have GLo3:=up 3 (zNg FLo.F FT mSorted) (by decide);have GTd:=up 3 (zNb FTd.F FSu mDict mMin) (by decide);have GSt:=up 3 (zNd FSt.F FHu (ok_hub FHu.F FSu mDict mMin) FOw FEt) (by decide);have GFa:=up 4 (zNk FFa.F mEnum) (by decide);have GUr:=up 4 (ok_ur FUr.F FLo GLo3 FEt ((zMa FEt.F).mono (by decide))) (by decide);have GDr:=up 4 (ok_dr FDr.F FLo GLo3 FTd GTd) (by decide);have GUf:=(ok_uf FUf.F FFa GFa FUr GUr).mono (show 5<=6 by decide);have GDf:=(ok_df FDf.F FFa GFa FDr GDr).mono (show 5<=6 by decide);have GTf:=(ok_tf FTf.F FTd (GTd.mono (by decide)) FT ((zJo FT.F mSorted).mono (by decide)) FGm ((ok_gm FGm.F).mono (by decide)) mEnum mRange).mono (show 5<=6 by decide);have GOf:=up 6 (ok_of FOf.F FOw ((zMX FOw.F).mono (by decide)) mEnum) (by decide);have GE9:=up 4 (zNl FEe.F FTo FWi FPl FNu mIsi mInt mBool mTuple mLen) (by decide);have GL9:=up 5 (zNi FLl.F FEe GE9 FRs ((ok_ris FRs.F mLen mRange mAll).mono (by decide)) mIsi mTuple mLen mAll) (by decide);have GAl:=up 6 (zLK FAl.F FTo ((zMV FTo.F mIsi mTuple mLen).mono (by decide)) FLl GL9 mAll) (by decide);have GI:=up 1 (ok_I1 FI EI mo i1 i2) (by decide);have GRa:zAb P w K mg base (CXI P w) 6 fRa fdRa qAh (zIu C):=(zNf FRa.F mC EI bI GI).mono (by decide);have GLt:zAb P w K mg base (CXI P w) 7 fLt fdLt qAf (zI3 C):=zNh FLt.F mC EI bI (GI.mono (by decide)) FAl GAl FRa GRa FOf GOf FUf GUf FTf GTf FDf GDf;have GLv:=up 8 (ok_il FLv.F mC EI sb FLt GLt) (by decide);have GNs:=up 2 (ok_nxs FNs.F FJ mRange) (by decide);have GFr4:=up 4 (zMZ FFr.F FA FLs mRange mMin) (by decide);have GEn:=up 3 (zNm FEn.F FNs GNs) (by decide);have GLa:=up 4 (zLL FLa.F FFr ((zMZ FFr.F FA FLs mRange mMin).mono (by decide)) FOn ((ok_on FOn.F FA).mono (by decide)) FEn GEn mRange mTuple) (by decide);have GFu:=up 4 (zNj FFu.F FEn GEn mRange mTuple) (by decide);have GEi:=up 4 (zNn FEi.F mZip mTuple mDict mSorted) (by decide);have GLx:=up 4 (zLJ FLx.F FD GDP FNs GNs mLen mRange mTuple) (by decide);have GLg:=up 4 (zJq FLg.F FD GDP FJ mLen mRange mTuple mDict mSorted) (by decide);have GSo:=up 8 (zNe FSo.F FD (GD1.mono (by decide)) FFr GFr4 FOr GOr FLa GLa FFu GFu FEi GEi FLx GLx FLg GLg) (by decide);have GTu:=up 8 (zNa FTu.F FD (GD1.mono (by decide)) mLen mTuple mSorted mMax mList) (by decide);have GMx:=up 8 (ok_mix FMx.F FD GDP mLen mRange mTuple) (by decide);have GWk:=up 4 (zNZ FWk.F FTd GTd FSt GSt) (by decide);have GWy:=up 4 (ok_wy FWy.F mIsi mList mBool mLen mRange) (by decide);have GTe:=up 8 (ok_te FTe.F FTd (GTd.mono (by decide)) FWk GWk FJ ((zMY FJ.F).mono (by decide)) FWy GWy mRange mRepr) (by decide);have GFr:=up 8 GFr4 (by decide);have GFu8:=up 8 GFu (by decide);have GEi8:=up 8 GEi (by decide);refine F.okD zEd fun _ A _ _ H vs Q E hr h=>?_;obtain⟨a,ns,rfl,hS,hlen,k⟩:=h;refine⟨_,zR (zAi (i:=1) zEd.nd (zAI GTa hr FTa (zD (pv 0) zL)))
  (zR (zA6 PassesOwn.never rfl (zAl rfl mRange (zD zf zL)) (zv (i:=2) zEd.nd rfl (Or.inl rfl))
   (zR (zAi (i:=3) zEd.nd (pe_as (te':=GrT) (zCa (zBb zCK (pv 2) zf (zAB _)) (zCp (zBb zCK (zAI GD hr FD (zD (pv 1) (zD zf zL))) zf (zAB _)))) (fun σ H1 Q1 z=>?great)))
   (zR (zAi (i:=4) zEd.nd (pe_as (te':=WebT) (zDK (zCI (pv 3)) (zAI GRw hr FRw (zD (pv 1) zL)) (zAI GWe hr FW (zD (pv 1) (zD (zAI GSm hr FSm (zD (pv 1) zL)) zL)))) (fun σ H1 Q1 z=>?webs)))
   (zR (zAi (i:=5) zEd.nd (zAI GFr hr FFr (zD (pv 4) zL)))
   (zR (zAi (i:=6) zEd.nd (zAI GSo hr FSo (zD (pv 1) (zD (pv 4) zL))))
   (zR (zA8 (zCo (zCI (zAI GLv hr FLv (zD (pv 4) (zD (pv 6) zL))))) zDd zAN)
   (zR (zAi (i:=7) zEd.nd (zBV (zD (pv 6) zL)))
   (zR (zFz (u':=ThU a) (zA8 (zCo (zCI (pv 3)))
    (zR (zBX (zCq PySem.F.plainAttrs_list PySem.F.slot_list_append PySem.F.type_list_append zA7 (pv 7) (zD (zAI GMx hr FMx (zD (pv 1) (zD (pv 6) (zD (zAI GSo hr FSo (zD (pv 1) (zD (pv 4) zL))) zL)))) zL)))
    (zR (zBX (zCq PySem.F.plainAttrs_list PySem.F.slot_list_append PySem.F.type_list_append zA7 (pv 7) (zD (zAI GEi8 hr FEi (zD (zAI GFu8 hr FFu (zD (pv 4) (zD (pv 5) zL))) (zD (pv 6) zL))) zL)))
    (zY (zA6 PassesOwn.never rfl (zAl rfl mRange (zD zf zL)) (zv (i:=8) zEd.nd rfl (Or.inl rfl)) (zY (zBX (zCq PySem.F.plainAttrs_list PySem.F.slot_list_append PySem.F.type_list_append zA7 (pv 7) (zD (zAI GTu hr FTu (zD (pv 1) (zD (pv 4) (zD (pv 6) zL)))) zL)))))))) zAN) (fun D' σ H1 z=>?more))
   (zY (zA6 PassesOwn.never rfl (zCE (pv 7)) (zv (i:=9) zEd.nd rfl (Or.inl rfl))
    (zY (zA8 (PW.pt (zCn (zCI (zAI GLv hr FLv (zD (pv 4) (zD (pv 9) zL)))) (zCR (zCo (zCI (zAI GTe hr FTe (zD (pv 4) (zD (pv 5) (zD (pv 9) zL))))))))) zDd zAN))))))))))))
  (zY (zAH zD8))),?_⟩
 case great=>
  obtain⟨t,N,i,v0,v3,v4,v5,v6,v7,v8,v9,rfl,T,hN,z⟩:=z;refine⟨_,rfl,rfl,_,rfl,?_⟩;cases c:decide (V.int i=V.int 0) with
  | false=>exact ifF rfl (z false H1 (T.mono (by omega)))
  | true=>exact ifT rfl ⟨_,rfl,t,N,12,rfl,T,by omega,by decide,by decide,fun r H2 _ _ T2 _=>⟨rfl,z _ H2 T2⟩⟩
 case webs=>
  obtain⟨t,N,b,v0,v2,v4,v5,v6,v7,v8,v9,rfl,T,hN,z⟩:=z;refine⟨_,rfl,b,rfl,?_⟩;cases b with
  | true=>refine zFC ⟨_,rfl,t,N,rfl,T,by omega,fun wa n ts H2 W2 h23 T2 s2=>?_⟩;exact z wa n ts H2 ⟨W2,by omega⟩ (T2.mono (by omega)) s2
  | false=>refine zCr ⟨_,rfl,_,rfl,t,N,rfl,T,by omega,fun n H2 n1 n8 T2 s2=>?_⟩;refine⟨t,N+1,n,rfl,T2,by omega,n1,by omega,fun wa ts H3 _ W3 T3 s3=>?_⟩;obtain⟨_,_,_,_,_,G⟩:=id W3;exact z wa n ts H3 ⟨W3,zHy G n8⟩ (T3.mono (by omega)) (s2.trans s3)
 case more=>
  obtain⟨t,wa,fa,la,D,v2,v8,v9,b,n,ts,M,ess,N,Hb,rfl,I,hN,hD,Tb',W,FR,LA,Y,z⟩:=z;obtain⟨_,_,_,_,_,G⟩:=id W.wb;have hn1:=G.n1;have hn24:=G.n24;have kd:LbK n ess:=Y.lm.kd (by omega) Y.ln;refine⟨_,rfl,b,rfl,?_⟩;cases b with
  | true=>exact zCr (z v8 [la] H1 (I.step (Sm.refl _ _) (I.tp.mono (by omega))))
  | false=>
  refine zFC ?_;obtain⟨pb,hpb⟩:=id Tb';have WB:∀{H':Hp},Sm t Hb H'->zB3 H' wa n ts:=fun s=>W.wb.smt hpb s;refine⟨_,rfl,.inl ⟨rfl,_,SqL.of I.ds⟩,_,rfl,_,rfl,_,rfl,_,rfl,t,wa,N,n,ts,rfl,I.tp,by omega,WB I.sm,W.sm,fun l2 fss H2 LA2 hl2 LM2 LT2 T2 s2=>?_⟩;have I2:=I.step s2 T2;obtain⟨p2,hp2⟩:=id T2;refine⟨t,p2,la,l2,_,n,ess,fss,rfl,hp2,by omega,by omega,hn24,LA.sm Tb' I2.sm,LA2,Y.ln,hl2,fun l3 gss H3 LA3 hl3 T3 s3=>?_⟩;have I3:=I2.step s3 ⟨p2,T3⟩;refine⟨D,_,_,rfl,rfl,I3.ds,by rw[zB];exact zAS (by simp),?_⟩;have I4:=I3.push hD (by simp) LA3 hl3;generalize upd H3 D (.lst (List.map V.ref [la]++[.ref l3]))=H4 at I4 ⊢;have FR4:=FR.sm Tb' I4.sm;refine⟨_,rfl,.inl ⟨rfl,_,SqL.of I4.ds⟩,_,rfl,_,rfl,wa,fa,n,ts,M,rfl,WB I4.sm,FR4,fun l5 ess5 H5 s5 LA5 hl5 LM5=>?_⟩;have I5:=I4.step (Sm.of s5) (I4.tp.keep s5);refine⟨_,rfl,_,_,l5,la,n,20000,ts,ess5,ess,rfl,hn24,LA5,LA.sm Tb' I5.sm,hl5,Y.ln,LM5.mono (by omega),Y.lm,fun l6 gss6 H6 s6 LA6 hl6 _=>?_⟩;have I6:=I5.step (Sm.of s6) (I5.tp.keep s6);refine⟨D,_,_,rfl,rfl,I6.ds,by rw[zB];exact zAS (by simp),?_⟩;have I7:=I6.push hD (by simp) LA6 hl6;generalize upd H6 D (.lst (List.map V.ref ([la]++[l3])++[.ref l6]))=H7 at I7 ⊢;refine⟨3,rfl,by decide,by decide,zA3 (lo:=0) (n:=3) (fun q σ H8=>Ex2 fun (v8:Option V)(xs:List Addr)=>σ=[some (.ref a),some (.ref t),v2,some (.bl false),some (.ref wa),some (.ref fa),some (.ref la),some (.ref D),v8,v9]/\ThI Hb t D n (N+12024+8*q) xs H8/\xs.length<=3+q) ⟨_,_,rfl,I7.step (Sm.refl _ _) (I7.tp.mono (by omega)),by simp⟩ (fun q σ H8 hq z=>?_) (fun σ H8 z'=>?_)⟩
  . obtain⟨v8',xs,rfl,I8,hx⟩:=z;refine⟨_,rfl,.inl ⟨rfl,_,SqL.of I8.ds⟩,_,rfl,_,rfl,_,rfl,t,wa,la,_,n,ts,ess,rfl,I8.tp,by omega,WB I8.sm,LA.sm Tb' I8.sm,kd,fun l9 fss9 H9 LA9 hl9 T9 s9=>?_⟩;have I9:=I8.step s9 T9;refine⟨D,_,_,rfl,rfl,I9.ds,by rw[zB];exact zAS (by omega),?_⟩;exact⟨_,_,rfl,(I9.push hD (by omega) LA9 hl9).step (Sm.refl _ _) ((I9.push hD (by omega) LA9 hl9).tp.mono (by omega)),by rw[zJ];simp;omega⟩
  . obtain⟨v8',xs,rfl,I8,hx⟩:=z';exact z v8' xs H8 (I8.step (Sm.refl _ _) (I8.tp.mono (by omega)))
 refine⟨_,rfl,a,ns,rfl,hS,hlen,fun t H1 ht T1 s1=>?_⟩;refine⟨3,rfl,by decide,by decide,zA3 (lo:=0) (n:=3) (fun q σ H2=>Ex8 fun (v2 v3 v4 v5 v6 v7 v8 v9:Option V)=>σ=[some (.ref a),some (.ref t),v2,v3,v4,v5,v6,v7,v8,v9]/\zAF H2 t (40000*q)) ⟨_,_,_,_,_,_,_,_,rfl,T1⟩ (fun q σ H2 hq z=>?_) (fun σ H2 z=>?_)⟩;rotate_left
 . obtain⟨v2,v3,v4,v5,v6,v7,v8,v9,rfl,_⟩:=z;exact k _
 obtain⟨v2,v3,v4,v5,v6,v7,v8,v9,rfl,T2⟩:=z;rw[zAZ];refine⟨t,40000*q,q,_,_,_,_,_,_,_,_,rfl,T2,by omega,fun b H3 T3=>?_⟩;refine⟨t,_,b,_,_,_,_,_,_,_,_,rfl,T3,by omega,fun wa n ts H4 W4 T4 s4=>?_⟩;obtain⟨_,_,_,_,_,G⟩:=id W4.wb;have hn1:=G.n1;refine⟨_,rfl,wa,n,ts,rfl,W4.wb,fun fa rs M H5 s5 hfa LR RR=>?_⟩;have FR5:zCN H5 fa n ts M:=⟨rs,hfa,LR,RR⟩;have T5:=T4.keep s5;refine⟨_,rfl,_,rfl,t,wa,_,n,ts,rfl,T5,by omega,W4.wb.keep s5,W4.sm,fun la ess H6 LA6 hl6 LM6 LT6 T6 s6=>?_⟩;obtain⟨p5,hp5⟩:=id T5;have W6:=(W4.wb.keep s5).smt hp5 s6;have FR6:=FR5.sm T5 s6;refine⟨_,rfl,_,rfl,wa,la,n,ts,ess,rfl,⟨W6,LA6,hl6⟩,fun b2 H7 hb2 s7=>?_⟩;obtain rfl:b2=true:=hb2.mpr ⟨LM6.kd (by omega) hl6,LT6⟩;refine⟨true,rfl,zCr ?_⟩;refine⟨_,rfl,by show 1<=sizeLine;decide,fun D hD=>?_⟩;have sD:=zH (o:=.lst [.ref la]) hD;have LA7:zA4 H7 la ess:=LA6.keep fun b ys e=>s7 _ _ e;have T7:=T6.keep s7;have W7:=W6.keep s7;have FR7:=FR6.keep fun b ys e=>s7 _ _ e;refine⟨t,wa,fa,la,D,_,_,_,b,n,ts,M,ess,_,H7,rfl,⟨Sm.of sD,T7.keep sD,zI,by simp,by simp,fun x hx=>⟨ess,by rw[zd.mp hx];exact LA7.keep fun b ys e=>sD _ _ e,hl6⟩⟩,by omega,hD,T7,⟨W7,W4.sm⟩,FR7,LA7,⟨hl6,LM6,LT6⟩,fun v8' xs H9 I9=>?_⟩;obtain⟨p7,hp7⟩:=id T7;have W9:=W7.smt hp7 I9.sm;have FR9:=FR7.sm T7 I9.sm;refine⟨_,rfl,D,rfl,⟨_,SqL.of I9.ds⟩,zCi (K:=K) (a:=D) (xs:=xs.map V.ref) (fun j σ H10=>∃v9:Option V,σ=[some (.ref a),some (.ref t),some (.int q),some (.bl b),some (.ref wa),some (.ref fa),some (.ref la),some (.ref D),v8',v9]/\zAo H9 H10) ⟨_,rfl,zAo.refl _⟩ (fun j σ H10 _ ⟨_,_,s10⟩=>SqL.of (s10 _ _ I9.ds)) (fun j x σ H10 hx z=>?_) (fun σ H10 z=>?_)⟩
 . obtain⟨w9,rfl,s10⟩:=z;rw[zM] at hx;cases e:xs[j]? with
   | none=>rw[e] at hx;cases hx
   | some y=>
   rw[e] at hx;cases hx;obtain⟨fss,LAy,hly⟩:=I9.th y (zV e);have W10:=W9.keep s10;have L10:zA4 H10 y fss:=LAy.keep fun b ys e=>s10 _ _ e;refine⟨_,rfl,_,rfl,wa,y,n,ts,fss,rfl,⟨W10,L10,hly⟩,fun b3 H11 hb3 s11=>?_⟩;refine⟨b3,rfl,?_⟩;cases b3 with
   | false=>exact zCr ⟨_,rfl,s10.trans s11⟩
   | true=>refine zFC ?_;have O:=hb3.mp rfl;have s911:=s10.trans s11;refine⟨_,rfl,_,rfl,_,rfl,wa,fa,y,n,ts,M,fss,rfl,⟨⟨W9.keep s911,LAy.keep fun b ys e=>s911 _ _ e,O.kd⟩,O.lt,FR9.keep fun b ys e=>s911 _ _ e⟩,fun H12 s12=>⟨true,rfl,zCr ?_⟩⟩;exact⟨_,rfl,s911.trans s12⟩
 . obtain⟨w9,rfl,s10⟩:=z;exact⟨_,_,_,_,_,_,_,_,rfl,(I9.tp.keep s10).mono (by omega)⟩
end K32
namespace K32
open PySem L2 WM
variable {P:Program}{w:World}{K:PySem.W.Frag}{mg:sOV}{base:Heap}{PT:Addr}{X:Cx}
theorem fkM {K:PySem.W.Frag}(x q:Str)(st:Stmt)(f:Addr)(pm cd:Value)(l:K.lookup f=some ⟨.type "function",.none,.func (PySem.W.fnOf x q (defArgs st) (defBody st) (defScope st) .none .none .none pm .none cd .none),#[]⟩:=by kernel_rfl) (c:PySem.W.codeIn K cd q=true:=by kernel_rfl)(k:PySem.W.keepIn K (.ref f)=true:=by kernel_rfl):Fun K x q st f (PySem.W.fnOf x q (defArgs st) (defBody st) (defScope st) .none .none .none pm .none cd .none):=zMj l c k
theorem zKq:∀{us:List Value},us.length=1->∃u0,us=[u0]
 | [u0],_=>⟨u0,rfl⟩
theorem zDb:∀{us:List Value},us.length=2->∃u0 u1,us=[u0,u1]
 | [u0,u1],_=>⟨u0,u1,rfl⟩
theorem zLt:∀{us:List Value},us.length=3->∃u0 u1 u2,us=[u0,u1,u2]
 | [u0,u1,u2],_=>⟨u0,u1,u2,rfl⟩
theorem zLs:∀{us:List Value},us.length=4->∃u0 u1 u2 u3,us=[u0,u1,u2,u3]
 | [u0,u1,u2,u3],_=>⟨u0,u1,u2,u3,rfl⟩
theorem walk {l:PySem.W.OpenLaw}{q:Program}{loose:List Str}{XP:(Str->Option Value)->Heap->Prop}{YP:World->Heap->Prop}{d:DefRec}{K:Params->PySem.W.Frag}(hn:l.most=some 63)(hdf:d.params.defaults=[])
 (hY:∀(w:World)(h:Heap),YP w h->(K w.params).In h)
 (F:∀(w:World)(mg:sOV)(fa:Addr)(h:Heap),(K w.params).In h->h.Ns mainGlobals mg->mg d.name=some (.ref fa) ->
  ∃fd:FuncData,(∀(s:Shared)(u:Value),BindsTo s fd ⟨[u],[]⟩ [("_law_script",u)])/\∀base:Heap,(K w.params).In base->base.Ns mainGlobals mg->zAb l.prog w (K w.params) mg base CX0 9 fa fd qAc (zKy (K w.params))):
 PySem.W.WalkO q loose XP YP l.row.toRowW d [] (fun f vs=>PySem.call f vs):=
 L2.walk_of (n:=63) (k:=9) (x := "_law_script") (CX:=fun _=>CX0) (sp:=fun w=>zKy (K w.params)) hn (by decide) hdf ⟨rfl,by decide,by decide,rfl⟩ hY F (fun _ _ a ns hl _ hS=>⟨a,ns,rfl,hS,hl,fun _=>rfl⟩) fun _ _ _ _ _ z=>z
theorem fk (w:World)(x:Str)(st:Stmt)(f:Addr)(pm cd:Value)(l:(Kf w.params).lookup f=some ⟨.type "function",.none,.func (PySem.W.fnOf x x (defArgs st) (defBody st) (defScope st) .none .none .none pm .none cd .none),#[]⟩:=by kernel_rfl) (c:PySem.W.codeIn (Kf w.params) cd x=true:=by kernel_rfl)(k:PySem.W.keepIn (Kf w.params) (.ref f)=true:=by kernel_rfl):Fun (Kf w.params) x x st f (PySem.W.fnOf x x (defArgs st) (defBody st) (defScope st) .none .none .none pm .none cd .none):=zMj l c k
noncomputable def dL:DefRec:={ name := "law",params:=defArgs sLaw,body:=defBody sLaw,scope:=defScope sLaw,pos:=⟨336,0,354,15⟩ }
theorem facts (w:World)(mg:sOV)(fa:Addr)(h:Heap)(KX:(Kf w.params).In h)(G:h.Ns mainGlobals mg)(hmg:mg "law"=some (.ref fa)):∃fd:FuncData,(∀(s:Shared)(u:Value),BindsTo s fd ⟨[u],[]⟩ [("_law_script",u)])/\∀base:Heap,(Kf w.params).In base->base.Ns mainGlobals mg->zAb (PySem.Challenge.rw_labelways_k32_whole_let_by_is_told).prog w (Kf w.params) mg base CX0 9 fa fd qAc (zKy (Kf w.params)):=by
 have mk:∀(x:Str)(f:Addr),PySem.W.nsIn (Kf w.params) mainGlobals x=some (some (.ref f))->mg x=some (.ref f):=fun x f e=>PySem.W.mg_of KX G e;have mn:∀x:Str,PySem.W.nsIn (Kf w.params) mainGlobals x=some none->mg x=none:=fun x e=>PySem.W.mg_none_of KX G e;have FTa:=fk w "_law_tape" zK5 228 qL (vR 227);have bTa:=FTa.binds (ps:=qAc) fun _ _ _ _ _ _ us hl=>by obtain⟨u0,rfl⟩:=zKq hl;rfl
 have mTa:=mk "_law_tape" 228 (by kernel_rfl);have FD:=fk w "_law_draw" zDI 235 qL (vR 234);have bD:=FD.binds (ps:=qAB) fun _ _ _ _ _ _ us hl=>by obtain⟨u0,u1,rfl⟩:=zDb hl;rfl
 have mD:=mk "_law_draw" 235 (by kernel_rfl);have FSm:=fk w "_law_small" zFk 242 qL (vR 241);have bSm:=FSm.binds (ps:=qAX) fun _ _ _ _ _ _ us hl=>by obtain⟨u0,rfl⟩:=zKq hl;rfl
 have mSm:=mk "_law_small" 242 (by kernel_rfl);have FW:=fk w "_law_web" sWeb 247 qL (vR 246);have bW:=FW.binds (ps:=qAM) fun _ _ _ _ _ _ us hl=>by obtain⟨u0,u1,rfl⟩:=zDb hl;rfl
 have mW:=mk "_law_web" 247 (by kernel_rfl);have FRw:=fk w "_law_row_web" sRow 252 qL (vR 251);have bRw:=FRw.binds (ps:=qAX) fun _ _ _ _ _ _ us hl=>by obtain⟨u0,rfl⟩:=zKq hl;rfl
 have mRw:=mk "_law_row_web" 252 (by kernel_rfl);have FNu:=fk w "is_number" zNG 53 (qS "labelways.kinds" 234) (vR 52);have bNu:=FNu.binds (ps:=qAk) fun _ _ _ _ _ _ us hl=>by obtain⟨u0,rfl⟩:=zKq hl;rfl
 have mNu:=mk "is_number" 53 (by kernel_rfl);have FWi:=fk w "is_within" sWi 60 (qS "labelways.kinds" 234) (vR 59);have bWi:=FWi.binds (ps:=qAT) fun _ _ _ _ _ _ us hl=>by obtain⟨u0,u1,u2,rfl⟩:=zLt hl;rfl
 have mWi:=mk "is_within" 60 (by kernel_rfl);have FTo:=fk w "is_tuple_of" sTof 67 (qS "labelways.kinds" 234) (vR 66);have bTo:=FTo.binds (ps:=qAa) fun _ _ _ _ _ _ us hl=>by obtain⟨u0,u1,rfl⟩:=zDb hl;rfl
 have mTo:=mk "is_tuple_of" 67 (by kernel_rfl);have FRs:=fk w "is_rising" sRis 72 (qS "labelways.kinds" 234) (vR 71);have bRs:=FRs.binds (ps:=qAl) fun _ _ _ _ _ _ us hl=>by obtain⟨u0,rfl⟩:=zKq hl;rfl
 have mRs:=mk "is_rising" 72 (by kernel_rfl);have FPl:=fk w "is_place" sPl 79 (qS "labelways.kinds" 234) (vR 78);have bPl:=FPl.binds (ps:=qAK) fun _ _ _ _ _ _ us hl=>by obtain⟨u0,u1,rfl⟩:=zDb hl;rfl
 have mPl:=mk "is_place" 79 (by kernel_rfl);have FLl:=fk w "is_label" zJP 84 (qS "labelways.labels" 274) (vR 83);have bLl:=FLl.binds (ps:=qAK) fun _ _ _ _ _ _ us hl=>by obtain⟨u0,u1,rfl⟩:=zDb hl;rfl
 have mLl:=mk "is_label" 84 (by kernel_rfl);have FEe:=fk w "is_entry" zJS 91 (qS "labelways.labels" 274) (vR 90);have bEe:=FEe.binds (ps:=qAK) fun _ _ _ _ _ _ us hl=>by obtain⟨u0,u1,rfl⟩:=zDb hl;rfl
 have mEe:=mk "is_entry" 91 (by kernel_rfl);have FAl:=fk w "are_labels" zFn 96 (qS "labelways.labels" 274) (vR 95);have bAl:=FAl.binds (ps:=qAK) fun _ _ _ _ _ _ us hl=>by obtain⟨u0,u1,rfl⟩:=zDb hl;rfl
 have mAl:=mk "are_labels" 96 (by kernel_rfl);have FFa:=fk w "far_entries" zH8 132 (qS "labelways.labels" 274) (vR 131);have bFa:=FFa.binds (ps:=qAg) fun _ _ _ _ _ _ us hl=>by obtain⟨u0,rfl⟩:=zKq hl;rfl
 have mFa:=mk "far_entries" 132 (by kernel_rfl);have FT:=fk w "ties_at" zH6 153 (qS "labelways.webs" 358) (vR 152);have bT:=FT.binds (ps:=qAd) fun _ _ _ _ _ _ us hl=>by obtain⟨u0,u1,rfl⟩:=zDb hl;rfl
 have mT:=mk "ties_at" 153 (by kernel_rfl);have FLo:=fk w "long_of" zH7 160 (qS "labelways.webs" 358) (vR 159);have bLo:=FLo.binds (ps:=qAV) fun _ _ _ _ _ _ us hl=>by obtain⟨u0,u1,u2,rfl⟩:=zLt hl;rfl
 have mLo:=mk "long_of" 160 (by kernel_rfl);have FOw:=fk w "own_place" sOwn 101 (qS "labelways.labels" 274) (vR 100);have bOw:=FOw.binds (ps:=qAj) fun _ _ _ _ _ _ us hl=>by obtain⟨u0,rfl⟩:=zKq hl;rfl
 have mOw:=mk "own_place" 101 (by kernel_rfl);have FSu:=fk w "least_sum" sSum 120 (qS "labelways.labels" 274) (vR 119);have bSu:=FSu.binds (ps:=qAF) fun _ _ _ _ _ _ us hl=>by obtain⟨u0,u1,rfl⟩:=zDb hl;rfl
 have mSu:=mk "least_sum" 120 (by kernel_rfl);have FTd:=fk w "told" zFj 108 (qS "labelways.labels" 274) (vR 107);have bTd:=FTd.binds (ps:=qAF) fun _ _ _ _ _ _ us hl=>by obtain⟨u0,u1,rfl⟩:=zDb hl;rfl
 have mTd:=mk "told" 108 (by kernel_rfl);have FHu:=fk w "told_hub" sHub 115 (qS "labelways.labels" 274) (vR 114);have bHu:=FHu.binds (ps:=qAF) fun _ _ _ _ _ _ us hl=>by obtain⟨u0,u1,rfl⟩:=zDb hl;rfl
 have mHu:=mk "told_hub" 115 (by kernel_rfl);have FEt:=fk w "entry_of" sEnt 127 (qS "labelways.labels" 274) (vR 126);have bEt:=FEt.binds (ps:=qAe) fun _ _ _ _ _ _ us hl=>by obtain⟨u0,u1,rfl⟩:=zDb hl;rfl
 have mEt:=mk "entry_of" 127 (by kernel_rfl);have FSt:=fk w "next_step" zJM 139 (qS "labelways.labels" 274) (vR 138);have bSt:=FSt.binds (ps:=qAF) fun _ _ _ _ _ _ us hl=>by obtain⟨u0,u1,rfl⟩:=zDb hl;rfl
 have mSt:=mk "next_step" 139 (by kernel_rfl);have FWk:=fk w "walk" zJL 146 (qS "labelways.labels" 274) (vR 145);have bWk:=FWk.binds (ps:=qAZ) fun _ _ _ _ _ _ us hl=>by obtain⟨u0,u1,u2,rfl⟩:=zLt hl;rfl
 have mWk:=mk "walk" 146 (by kernel_rfl);have FLt:=fk w "lets_labels" zJO 167 (qS "labelways.checker" 383) (vR 166);have bLt:=FLt.binds (ps:=qAf) fun _ _ _ _ _ _ us hl=>by obtain⟨u0,u1,rfl⟩:=zDb hl;rfl
 have mLt:=mk "lets_labels" 167 (by kernel_rfl);have FRa:=fk w "refuse_at" zJN 174 (qS "labelways.checker" 383) (vR 173);have bRa:=FRa.binds (ps:=qAh) fun _ _ _ _ _ _ us hl=>by obtain⟨u0,u1,rfl⟩:=zDb hl;rfl
 have mRa:=mk "refuse_at" 174 (by kernel_rfl);have FOf:=fk w "own_fault" sOf 181 (qS "labelways.checker" 383) (vR 180);have bOf:=FOf.binds (ps:=qAg) fun _ _ _ _ _ _ us hl=>by obtain⟨u0,rfl⟩:=zKq hl;rfl
 have mOf:=mk "own_fault" 181 (by kernel_rfl);have FUf:=fk w "up_fault" sUf 188 (qS "labelways.checker" 383) (vR 187);have bUf:=FUf.binds (ps:=qAN) fun _ _ _ _ _ _ us hl=>by obtain⟨u0,u1,rfl⟩:=zDb hl;rfl
 have mUf:=mk "up_fault" 188 (by kernel_rfl);have FUr:=fk w "is_up_right" sUr 195 (qS "labelways.checker" 383) (vR 194);have bUr:=FUr.binds (ps:=qAE) fun _ _ _ _ _ _ us hl=>by obtain⟨u0,u1,u2,u3,rfl⟩:=zLs hl;rfl
 have mUr:=mk "is_up_right" 195 (by kernel_rfl);have FTf:=fk w "tie_fault" sTf 200 (qS "labelways.checker" 383) (vR 199);have bTf:=FTf.binds (ps:=qAN) fun _ _ _ _ _ _ us hl=>by obtain⟨u0,u1,rfl⟩:=zDb hl;rfl
 have mTf:=mk "tie_fault" 200 (by kernel_rfl);have FGm:=fk w "grows_too_much" sGm 207 (qS "labelways.checker" 383) (vR 206);have bGm:=FGm.binds (ps:=qAW) fun _ _ _ _ _ _ us hl=>by obtain⟨u0,u1,u2,rfl⟩:=zLt hl;rfl
 have mGm:=mk "grows_too_much" 207 (by kernel_rfl);have FDf:=fk w "down_fault" sDf 214 (qS "labelways.checker" 383) (vR 213);have bDf:=FDf.binds (ps:=qAN) fun _ _ _ _ _ _ us hl=>by obtain⟨u0,u1,rfl⟩:=zDb hl;rfl
 have mDf:=mk "down_fault" 214 (by kernel_rfl);have FDr:=fk w "is_down_right" sDr 221 (qS "labelways.checker" 383) (vR 220);have bDr:=FDr.binds (ps:=qAE) fun _ _ _ _ _ _ us hl=>by obtain⟨u0,u1,u2,u3,rfl⟩:=zLs hl;rfl
 have mDr:=mk "is_down_right" 221 (by kernel_rfl);have FA:=fk w "_law_added" sAdd 259 qL (vR 258);have bA:=FA.binds (ps:=qAG) fun _ _ _ _ _ _ us hl=>by obtain⟨u0,u1,rfl⟩:=zDb hl;rfl
 have mA:=mk "_law_added" 259 (by kernel_rfl);have FLs:=fk w "_law_lesser" sLes 266 qL (vR 265);have bLs:=FLs.binds (ps:=qAG) fun _ _ _ _ _ _ us hl=>by obtain⟨u0,u1,rfl⟩:=zDb hl;rfl
 have mLs:=mk "_law_lesser" 266 (by kernel_rfl);have FFr:=fk w "_law_far" sFar 271 qL (vR 270);have bFr:=FFr.binds (ps:=qAJ) fun _ _ _ _ _ _ us hl=>by obtain⟨u0,rfl⟩:=zKq hl;rfl
 have mFr:=mk "_law_far" 271 (by kernel_rfl);have FOn:=fk w "_law_on" sOn 278 qL (vR 277);have bOn:=FOn.binds (ps:=qAH) fun _ _ _ _ _ _ us hl=>by obtain⟨u0,u1,u2,u3,rfl⟩:=zLs hl;rfl
 have mOn:=mk "_law_on" 278 (by kernel_rfl);have FJ:=fk w "_law_joined" zMJ 285 qL (vR 284);have bJ:=FJ.binds (ps:=qAJ) fun _ _ _ _ _ _ us hl=>by obtain⟨u0,rfl⟩:=zKq hl;rfl
 have mJ:=mk "_law_joined" 285 (by kernel_rfl);have FNs:=fk w "_law_nexts" sNxs 290 qL (vR 289);have bNs:=FNs.binds (ps:=qAD) fun _ _ _ _ _ _ us hl=>by obtain⟨u0,u1,u2,u3,rfl⟩:=zLs hl;rfl
 have mNs:=mk "_law_nexts" 290 (by kernel_rfl);have FOr:=fk w "_law_order" zFl 297 qL (vR 296);have bOr:=FOr.binds (ps:=qAM) fun _ _ _ _ _ _ us hl=>by obtain⟨u0,u1,rfl⟩:=zDb hl;rfl
 have mOr:=mk "_law_order" 297 (by kernel_rfl);have FEn:=fk w "_law_entry" zH9 304 qL (vR 303);have bEn:=FEn.binds (ps:=qAC) fun _ _ _ _ _ _ us hl=>by obtain⟨u0,u1,u2,u3,rfl⟩:=zLs hl;rfl
 have mEn:=mk "_law_entry" 304 (by kernel_rfl);have FLa:=fk w "_law_labels" zFo 309 qL (vR 308);have bLa:=FLa.binds (ps:=qAP) fun _ _ _ _ _ _ us hl=>by obtain⟨u0,u1,rfl⟩:=zDb hl;rfl
 have mLa:=mk "_law_labels" 309 (by kernel_rfl);have FFu:=fk w "_law_full" zJQ 314 qL (vR 313);have bFu:=FFu.binds (ps:=qAR) fun _ _ _ _ _ _ us hl=>by obtain⟨u0,u1,rfl⟩:=zDb hl;rfl
 have mFu:=mk "_law_full" 314 (by kernel_rfl);have FEi:=fk w "_law_either" zJT 319 qL (vR 318);have bEi:=FEi.binds (ps:=qAQ) fun _ _ _ _ _ _ us hl=>by obtain⟨u0,u1,rfl⟩:=zDb hl;rfl
 have mEi:=mk "_law_either" 319 (by kernel_rfl);have FLx:=fk w "_law_loose" zFm 326 qL (vR 325);have bLx:=FLx.binds (ps:=qAA) fun _ _ _ _ _ _ us hl=>by obtain⟨u0,u1,u2,u3,rfl⟩:=zLs hl;rfl
 have mLx:=mk "_law_loose" 326 (by kernel_rfl);have FLg:=fk w "_law_longer" zD0 331 qL (vR 330);have bLg:=FLg.binds (ps:=qAA) fun _ _ _ _ _ _ us hl=>by obtain⟨u0,u1,u2,u3,rfl⟩:=zLs hl;rfl
 have mLg:=mk "_law_longer" 331 (by kernel_rfl);have FSo:=fk w "_law_some" zK6 338 qL (vR 337);have bSo:=FSo.binds (ps:=qAY) fun _ _ _ _ _ _ us hl=>by obtain⟨u0,u1,rfl⟩:=zDb hl;rfl
 have mSo:=mk "_law_some" 338 (by kernel_rfl);have FTu:=fk w "_law_turned" zK4 343 qL (vR 342);have bTu:=FTu.binds (ps:=qAO) fun _ _ _ _ _ _ us hl=>by obtain⟨u0,u1,u2,rfl⟩:=zLt hl;rfl
 have mTu:=mk "_law_turned" 343 (by kernel_rfl);have FLv:=fk w "_law_let" sIl 350 qL (vR 349);have bLv:=FLv.binds (ps:=qAb) fun _ _ _ _ _ _ us hl=>by obtain⟨u0,u1,rfl⟩:=zDb hl;rfl
 have mLv:=mk "_law_let" 350 (by kernel_rfl);have FMx:=fk w "_law_mixed" sMix 355 qL (vR 354);have bMx:=FMx.binds (ps:=qAL) fun _ _ _ _ _ _ us hl=>by obtain⟨u0,u1,u2,rfl⟩:=zLt hl;rfl
 have mMx:=mk "_law_mixed" 355 (by kernel_rfl);have FWy:=fk w "_law_way" sWay 362 qL (vR 361);have bWy:=FWy.binds (ps:=qAI) fun _ _ _ _ _ _ us hl=>by obtain⟨u0,u1,u2,u3,rfl⟩:=zLs hl;rfl
 have mWy:=mk "_law_way" 362 (by kernel_rfl);have FTe:=fk w "_law_tells" zHQ 369 qL (vR 368);have bTe:=FTe.binds (ps:=qAS) fun _ _ _ _ _ _ us hl=>by obtain⟨u0,u1,u2,rfl⟩:=zLt hl;rfl
 have mTe:=mk "_law_tells" 369 (by kernel_rfl);have FZ:=fk w "law" sLaw 376 qL (vR 375);have mb0:=mn "len" (by kernel_rfl);have mb1:=mn "range" (by kernel_rfl);have mb2:=mn "tuple" (by kernel_rfl);have mb3:=mn "sorted" (by kernel_rfl);have mb4:=mn "min" (by kernel_rfl);have mb5:=mn "max" (by kernel_rfl);have mb6:=mn "list" (by kernel_rfl);have mb7:=mn "isinstance" (by kernel_rfl);have mb8:=mn "int" (by kernel_rfl);have mb9:=mn "bool" (by kernel_rfl);have mb10:=mn "all" (by kernel_rfl);have mb11:=mn "zip" (by kernel_rfl);have mb12:=mn "dict" (by kernel_rfl);have mb13:=mn "enumerate" (by kernel_rfl);have mb14:=mn "repr" (by kernel_rfl);have e:=hmg.symm.trans (mk "law" 376 (by kernel_rfl));cases e;have FI:=fkM (K:=Kf w.params) "__init__" "NoLabels.__init__" sI1 41 (qS "labelways.errors" 187) (vR 40);have bI:=FI.binds (ps:=qAU) fun _ _ _ _ _ _ us hl=>by obtain⟨u0,u1,u2,rfl⟩:=zLt hl;rfl
 have mC:mg "NoLabels"=some (.ref 44):=mk "NoLabels" 44 (by kernel_rfl);have EI:zGy (Kf w.params) 44 41:=⟨by kernel_rfl,by kernel_rfl,by kernel_rfl,by kernel_rfl,by kernel_rfl⟩;have sb:L2.subIn (Kf w.params) 44 44=true:=by kernel_rfl
 have mo:PySem.W.mroIn (Kf w.params) 44 (.type "object")=some true:=by kernel_rfl
 have i1:PySem.W.findIn (Kf w.params) (.ref 44) "word"=some none:=by kernel_rfl
 have i2:PySem.W.findIn (Kf w.params) (.ref 44) "at"=some none:=by kernel_rfl
 exact⟨_,fun s v=>.of_eq rfl,fun base _ _=>ok_law FZ mC EI sb FI bI mo i1 i2 ⟨FTa,bTa,mTa⟩ ⟨FD,bD,mD⟩ ⟨FSm,bSm,mSm⟩ ⟨FW,bW,mW⟩ ⟨FRw,bRw,mRw⟩ ⟨FNu,bNu,mNu⟩ ⟨FWi,bWi,mWi⟩ ⟨FTo,bTo,mTo⟩ ⟨FRs,bRs,mRs⟩ ⟨FPl,bPl,mPl⟩ ⟨FLl,bLl,mLl⟩ ⟨FEe,bEe,mEe⟩ ⟨FAl,bAl,mAl⟩ ⟨FFa,bFa,mFa⟩ ⟨FT,bT,mT⟩ ⟨FLo,bLo,mLo⟩ ⟨FOw,bOw,mOw⟩ ⟨FSu,bSu,mSu⟩ ⟨FTd,bTd,mTd⟩ ⟨FHu,bHu,mHu⟩ ⟨FEt,bEt,mEt⟩ ⟨FSt,bSt,mSt⟩ ⟨FWk,bWk,mWk⟩ ⟨FLt,bLt,mLt⟩ ⟨FRa,bRa,mRa⟩ ⟨FOf,bOf,mOf⟩ ⟨FUf,bUf,mUf⟩ ⟨FUr,bUr,mUr⟩ ⟨FTf,bTf,mTf⟩ ⟨FGm,bGm,mGm⟩ ⟨FDf,bDf,mDf⟩ ⟨FDr,bDr,mDr⟩ ⟨FA,bA,mA⟩ ⟨FLs,bLs,mLs⟩ ⟨FFr,bFr,mFr⟩ ⟨FOn,bOn,mOn⟩ ⟨FJ,bJ,mJ⟩ ⟨FNs,bNs,mNs⟩ ⟨FOr,bOr,mOr⟩ ⟨FEn,bEn,mEn⟩ ⟨FLa,bLa,mLa⟩ ⟨FFu,bFu,mFu⟩ ⟨FEi,bEi,mEi⟩ ⟨FLx,bLx,mLx⟩ ⟨FLg,bLg,mLg⟩ ⟨FSo,bSo,mSo⟩ ⟨FTu,bTu,mTu⟩ ⟨FLv,bLv,mLv⟩ ⟨FMx,bMx,mMx⟩ ⟨FWy,bWy,mWy⟩ ⟨FTe,bTe,mTe⟩ mb0 mb1 mb2 mb3 mb4 mb5 mb6 mb7 mb8 mb9 mb10 mb11 mb12 mb13 mb14⟩
end K32
open PySem PySem.W PyProof.Rows
set_option maxRecDepth 100000 in
set_option maxHeartbeats 0 in
theorem PySem.Challenge.cw_labelways_k32_whole_let_by_is_told_holds : PySem.Challenge.rw_labelways_k32_whole_let_by_is_told.Holds := by
 refine holds_law K32.wS fun said=>?_;refine holds_open (q:=K32.Vp) (loose:=[]) (Xt:=fun s=>xlAt K32.Vp [] s && recOk (RowW.records K32.RR) s) (XP:=XL K32.Vp []) (Yf:=Hook.obs K32.HK) (Ya:=Hook.val K32.HK) (YP:=Hook.says K32.HK) (d:=K32.dL) (kwd:=[]) (N:=4224) K32.left (Hook.of K32.HK) (Hook.keeps K32.HK) (fun s e=>xl_of s (Bool.and_eq_true_iff.mp e).1) XL.keeps (by kernel_rfl) (by kernel_rfl) (by kernel_rfl) (fun s e=>recFacts_of (Bool.and_eq_true_iff.mp e).2) (by kernel_rfl) said (by decide +kernel) ⟨rfl,rfl,rfl,rfl,rfl,by decide +kernel⟩ ?hw ?hc
 case hw=>w_witness2
 case hc=>
  exact K32.walk (l:=PySem.Challenge.rw_labelways_k32_whole_let_by_is_told) (K:=K32.Kf) rfl rfl (fun w h Y=>PySem.W.kIn_of Y) K32.facts
